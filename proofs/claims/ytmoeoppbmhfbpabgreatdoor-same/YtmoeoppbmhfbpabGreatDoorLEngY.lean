import Derived.Test.YtmoeoppbmhfbpabGreatDoorLEngW
set_option maxHeartbeats 32000000
set_option maxRecDepth 100000
set_option linter.all false
namespace Go.Proofs.YtmoeoppbmhfbpabGreatDoorL
open Go.Abs
structure Gro (k:Nat)(S:Bc->Prop)(M M':MM)(d d':Int):Prop where
 len:M'.length=M.length
 oth:∀j,j≠k->(M'[j]?).map (·.2)=(M[j]?).map (·.2)
 ext:∃new:List Bc,Ay M' k=Ay M k++new/\new.Nodup/\(∀t∈new,S t/\t∉Ay M k)/\d'=d+new.length
theorem Gro.refl (k:Nat)(S:Bc->Prop)(M:MM)(d:Int):Gro k S M M d d:=⟨rfl,fun _ _=>rfl,[],by simp,Aii,by simp,by simp⟩
theorem Gro.trans {k:Nat}{S:Bc->Prop}{M M1 M2:MM}{d d1 d2:Int}(h:Gro k S M M1 d d1)(g:Gro k S M1 M2 d1 d2):Gro k S M M2 d d2:=by
 obtain⟨n1,a1,a2,a3,a4⟩:=h.ext;obtain⟨n2,b1,b2,b3,b4⟩:=g.ext;refine⟨g.len.trans h.len,fun j hj=>(g.oth j hj).trans (h.oth j hj),n1++n2,by rw[b1,a1,Ahc],?_,?_,?_⟩
 ·rw[Aiw];exact⟨a2,b2,fun x hx y hy e=>(b3 y hy).2 (by rw[a1,<-e];exact Ahs.2 (.inr hx))⟩
 ·intro t ht;rcases Ahs.1 ht with ht|ht
  ·exact a3 t ht
  ·exact⟨(b3 t ht).1,fun hm=>(b3 t ht).2 (by rw[a1];exact Ahs.2 (.inl hm))⟩
 ·rw[b4,a4];simp;omega
theorem Gro.mono {k:Nat}{S S':Bc->Prop}{M M':MM}{d d':Int}(h:Gro k S M M' d d')(hs:∀t,S t->S' t):Gro k S' M M' d d':=by
 obtain⟨n,a1,a2,a3,a4⟩:=h.ext;exact⟨h.len,h.oth,n,a1,a2,fun t ht=>⟨hs t (a3 t ht).1,(a3 t ht).2⟩,a4⟩
theorem Gro.sub {k:Nat}{S:Bc->Prop}{M M':MM}{d d':Int}(h:Gro k S M M' d d'){t:Bc}(ht:t∈Ay M k):t∈Ay M' k:=by
 obtain⟨n,a1,-,-,-⟩:=h.ext;rw[a1];exact Ahs.2 (.inl ht)
theorem Gro.le {k:Nat}{S:Bc->Prop}{M M':MM}{d d':Int}(h:Gro k S M M' d d'):d<=d':=by
 obtain⟨n,-,-,-,a4⟩:=h.ext;omega
def Room (M:MM)(d b:Int):Prop:=∀x∈M,(x.2.length:Int)+(b-d)<=4000
theorem Gro.room {k:Nat}{S:Bc->Prop}{M M':MM}{d d' b:Int}(h:Gro k S M M' d d')(hr:Room M d b):Room M' d' b:=by
 intro x hx;obtain⟨j,hj⟩:=List.getElem?_of_mem hx;obtain⟨n,a1,-,-,a4⟩:=h.ext;have aa:j<M.length:=by rw[<-h.len];exact (List.getElem?_eq_some_iff.1 hj).1
 have hy:=List.getElem?_eq_getElem aa;have hb:=hr _ (Ah6 aa);by_cases e:j=k
 ·subst e;unfold Ay at a1;simp only[Ai4,hj,hy,Ais,Aiy]at a1;rw[a1];simp only[Aha];omega
 ·have:=h.oth j e;rw[hj,hy]at this;simp at this;rw[this];have:=h.le;omega
theorem B8 {M:MM}{k:Nat}{x:Nat×List Bc}(h:M[k]?=some x):Ay M (k:Int)=x.2:=by simp[Ay,h]
theorem Ace {M:MM}{k id:Nat}{x:Nat×List Bc}{t:Bc}{S:Bc->Prop}{d:Int}(hx:M[k]?=some x)(ht:t∉x.2)(hS:S t):Gro k S M (M.set k (id,x.2++[t])) d (d+1):=by
 have hk:=(List.getElem?_eq_some_iff.1 hx).1;refine⟨by simp,fun j hj=>by rw[List.getElem?_set_ne (fun e=>hj e.symm)],[t],?_,by simp,?_,by simp⟩
 ·rw[B8 hx,B8 (x:=(id,x.2++[t])) (by simp[hk])]
 ·intro u hu;simp at hu;subst hu;rw[B8 hx];exact⟨hS,ht⟩
theorem MOb.setd {z:St}{om ot:Nat}{M:MM}{d d' b:Int}(h:MOb z om ot M d b):MOb (z.put om [fx ot 0 M.length,ic d',ic b]) om ot M d' b where
 ob:=Ak
 oc:=by rw[show (z.put om [fx ot 0 M.length,ic d',ic b]).obj ot=z.obj ot from by simp[St.put];intro e;exact absurd e.symm h.ne];exact h.oc
 lo:=h.lo
 lt:=h.lt
 ne:=h.ne
 live:=h.live
 inj:=h.inj
 t3:=h.t3
 ln:=h.ln
 pl:=h.pl
theorem KM.setd {om ot:Nat}{M M':MM}{z z':St}(h:KM om ot M M' z z')(c:List AV):KM om ot M M' z (z'.put om c):=
 ⟨h.nobj,fun o ho h1 h2=>by rw[show (z'.put om c).obj o=z'.obj o from by simp[St.put,h1]];exact h.obj o ho h1 h2,fun o ho h1 h2=>by rw[show (z'.put om c).ver o=z'.ver o from by simp[St.put,h1]];exact h.ver o ho h1 h2,h.ntop,h.top,h.mid⟩
def Wp (neg:Int->Bc->Prop)(q:Qry)(t:Bc):Prop:=∃ν,Lj neg q ν/\t=Bf q.head ν
def Aao (neg:Int->Bc->Prop)(om ot:Nat)(b:Int)(V:List Int):Prop:=∀(q:Qry) (c:List AV) (k:Nat) (M:MM) (d:Int),EQ q c->Rc q->NegOk neg M q->(∀a∈q.nots,a.p≠(k:Int))->QV q->q.head.p=(k:Int)->k<M.length->Room M d b-> -1000000<=d->d<=1000000-> -1000000<=b->b<=900000->(∀v,inQ q v->v∈V)->
 ∀z,MOb z om ot M d b->ACalls Tryz.prog 139 [ptr om 0,ag c] z fun r z'=>∃M' d',MOb z' om ot M' d' b/\KM om ot M M' z z'/\Gro k (Wp neg q) M M' d d'/\d'<=1000000/\(¬b<d'->∀t,Wp neg q t->t∈Ay M' k)
theorem NegOk.gro {neg:Int->Bc->Prop}{M M':MM}{q:Qry}{k:Nat}{S:Bc->Prop}{d d':Int}(h:NegOk neg M q)(aa:∀a∈q.nots,a.p≠(k:Int))(g:Gro k S M M' d d'):NegOk neg M' q:=fun a ha=>by
 obtain⟨j,x,h1,h2,h3⟩:=h a ha;have hj:j≠k:=fun e=>aa a ha (by rw[h1,e]);have:=g.oth j hj;rw[h2]at this;cases hy:M'[j]? with
 |none=>rw[hy]at this;simp at this
 |some y=>
  rw[hy]at this;simp at this;exact⟨j,y,h1,hy,fun t=>by rw[this];exact h3 t⟩
theorem P1 (neg:Int->Bc->Prop)(om ot:Nat)(b:Int)(V:List Int)(IH:∀V':List Int,V'.length<V.length->Aao neg om ot b V'):Aao neg om ot b V:=by
 intro q c k M d hc hA hNg e4 hV hk da a8 fq cn et er cj z hM;have a9:=fun z (h:MOb z om ot M d b)=>Kz om ot M d b z h;have ck:=hA.ok.hd;have ek:q.head.ts.length<=1000:=Ajm;have bf:=fun (id:Nat) z=>Js q.head.p id q.head.ts ek z;have bm:M[k]?=some M[k]:=List.getElem?_eq_getElem da;generalize M[k]=x at bm;have ca:=fun (id:Nat) z (h:MOb z om ot M d b)=>I0 om ot M d b q.head id k x ck hk bm z h;have bg:=fun z (h:MOb z om ot M d b)=>Z0 neg q c om ot M d b hc hA hNg z h;have hT:Ay M (k:Int)=x.2:=B8 bm;obtain⟨ih,ip,inn,pc,nc,rfl,-,-⟩:=hc;have cq:∀cs,MOb (z.new cs) om ot M d b:=fun cs=>hM.keep ((Keep.refl z).new cs);by_cases ci:b<d
 ·rw[show decide (b<d)=true from by simpa using ci]at a9;rw[hk];clear ca bf bg;refine Z9 86 [] Tryz.func139 ?_
  repeat' (first|refine Z1 ?_|(refine Z8 ?_;intro κ hκ)|(refine Z4 ?_;clear hκ κ)|(refine Z2 ?_ ?_<;>intro h aa<;>try exact Xp)|(refine Z5 ?_;refine Xi (a9 _ (hM.keep (Xs))) ?_;rintro _ _ ⟨rfl,rfl⟩)|refine Z3 ?_|exact⟨⟩|(apply hκ.out;clear hκ κ))
  first|exact⟨_,rfl,M,d,cq _,KM.ofKeep ((Keep.refl z).new _),Gro.refl _ _ _ _,cn,fun h=>absurd ci h⟩|exact⟨M,d,cq _,KM.ofKeep ((Keep.refl z).new _),Gro.refl _ _ _ _,cn,fun h=>absurd ci h⟩
 ·have bu:decide (b<d)=false:=by simpa using ci
  rw[bu]at a9;have ac:=bf ih;have aj:=ca ih;rw[hk]at ac aj bg;rw[hk];have bq:∀z',Keep z z'->(∀t,Wp neg q t->t∈x.2)->∃M' d',MOb z' om ot M' d' b/\KM om ot M M' z z'/\Gro k (Wp neg q) M M' d d'/\d'<=1000000/\(¬b<d'->∀t,Wp neg q t->t∈Ay M' k):=fun z' d6 ax=>
   ⟨M,d,hM.keep d6,KM.ofKeep d6,Gro.refl _ _ _ _,cn,fun _ t ht=>by rw[hT];exact ax t ht⟩
  have ae:Ajs _:=bq;clear bq bu;cases hs:Hw q.head.ts with
  |true=>
   rw[hs]at ac;have au:=fun ν=>Pe hs ν;by_cases hm:Cs q.head∈x.2
   ·rw[show decide (Cs q.head∈x.2)=true from by simpa using hm]at aj;have ax:∀t,Wp neg q t->t∈x.2:=fun t ⟨ν,_,e⟩=>by rw[e,au];exact hm
    have cg:Ajs _:=ax;clear ax au ca bf bg;refine Z9 86 [] Tryz.func139 ?_
    repeat' (first|refine Z1 ?_|(refine Z8 ?_;intro κ hκ)|(refine Z4 ?_;clear hκ κ)|(refine Z2 ?_ ?_<;>intro h aa<;>try exact Xp)|(refine Z5 ?_;first|(refine Xi (a9 _ (hM.keep (Xs))) ?_;rintro _ _ ⟨rfl,rfl⟩)|(refine Xi (ac _) ?_;rintro _ _ ⟨rfl,an⟩;(have ak:=an.nobj;have ab:=an.obj;have bn:=((Keep.refl z).new _).trans an;simp only[Aa]at ak ab))|(refine Xi (aj _ (hM.keep (Xs))) ?_;rintro _ _ ⟨rfl,b8⟩;(have b4:=bn.trans b8)))|refine Z3 ?_|exact⟨⟩|(apply hκ.out;clear hκ κ))
    first|exact⟨_,rfl,ae.out _ b4 cg.out⟩|exact ae.out _ b4 cg.out
   ·rw[show decide (Cs q.head∈x.2)=false from by simpa using hm]at aj;have fj:Ajs (Cs q.head∉x.2):=hm;clear hm;have cu:∀(id:Nat) z,ACalls Tryz.prog 131 [ag [ic (k:Int),sl id q.head.ts.length (Ac q.head.ts)]] z fun r z'=>r=sc (.bool true)/\Keep z z':=fun id z=>by
     have:=bf id z;rw[hk,hs]at this;exact this
    have d5:=fun (id:Nat) z (h:MOb z om ot M d b)=>Vs om ot M d b q.head id k x ck hk bm (by
     have:=a8 x (Agp bm)
     omega) z h
    rw[hk]at d5;have b9:=Ry neg om ot M d b V.length V (Agi _);clear bf ca cq;refine Z9 86 [] Tryz.func139 ?_
    repeat' (first|refine Z1 ?_|(refine Z8 ?_;intro κ hκ)|(refine Z4 ?_;clear hκ κ)|(refine Z2 ?_ ?_<;>intro h aa<;>try exact Xp)|(refine Z5 ?_;first|(refine Xi (a9 _ (hM.keep (Xs))) ?_;rintro _ _ ⟨rfl,rfl⟩)|(refine Xi (ac _) ?_;rintro _ _ ⟨rfl,an⟩;(have ak:=an.nobj;have ab:=an.obj;have bn:=((Keep.refl z).new _).trans an;simp only[Aa]at ak ab))|(refine Xi (aj _ (hM.keep (Xs))) ?_;rintro _ _ ⟨rfl,b8⟩;(have ed:=b8.nobj;have bp:=b8.obj;have b4:=bn.trans b8;clear ac))|(refine Xi (bg _ (hM.keep (Xs))) ?_;rintro _ _ ⟨⟨c',(⟨rfl,ei,em,bw⟩|⟨q',rfl,⟨ih2,ip2,in2,pc2,nc2,rfl,co,cp⟩,a5,de,ah,av⟩)⟩,ai⟩))|refine Z3 ?_|exact⟨⟩|(apply hκ.out;clear hκ κ))
    ·have bd:=ai.nobj;have o4:=ai.obj z.nobj Ajm;rw[bp _ Ajm,ab _ Ajm,Ap]at o4;have az:=b4.trans ai;have ce:Ajs (∀ν,¬Lj neg q ν):=bw;clear bw
     repeat' (first|refine Z1 ?_|(refine Z8 ?_;intro κ hκ)|(refine Z4 ?_;clear hκ κ)|(refine Z2 ?_ ?_<;>intro h aa<;>try exact Xp)|refine Z3 ?_|exact⟨⟩|(apply hκ.out;clear hκ κ))
     first|exact⟨_,rfl,ae.out _ (az.put Ajm _) (fun t ⟨ν,h,_⟩=>absurd h (ce.out ν))⟩|exact ae.out _ (az.put Ajm _) (fun t ⟨ν,h,_⟩=>absurd h (ce.out ν))
    ·have bd:=ai.nobj;have o4:=ai.obj z.nobj Ajm;rw[bp _ Ajm,ab _ Ajm,Ap]at o4;have az:=b4.trans ai;have he:q'.head=q.head:=ah.hd;have ay:NegOk neg M q':=hNg.sub fun a ha=>⟨a,(av a ha).1,rfl⟩;have am:jW ⟨⟨0,[]⟩,q'.parts,q'.nots⟩:=fun v hv=>a5.wf v (.inr (hv.resolve_left (by simp[A8])))
     have cv:=fun z (h:MOb z om ot M d b)=>b9 ⟨⟨0,[]⟩,q'.parts,q'.nots⟩ [ic 0,nilS,sl ip2 q'.parts.length pc2,sl in2 q'.nots.length nc2] ⟨1,ip2,in2,pc2,nc2,rfl,co,cp⟩ (Lx a5 (by simp) (Ai9 _) (Ai9 _) am) (ay.sub fun a ha=>⟨a,ha,rfl⟩)
      (fun a ha v hv=>by
       have:a∈atomsQ q'\/a=⟨0,[]⟩:=by
        unfold atomsQ at ha⊢;simp only[Ahm,Ahs,Ahv]at ha⊢;rcases ha with h|h|h
        ·exact .inr h
        ·exact .inl (.inr (.inl h))
        ·exact .inl (.inr (.inr h))
       rcases this with h|rfl
       ·exact hV a (ah.at_ a h) v hv
       ·cases hv) rfl (fun v hv=>by
       obtain⟨p,hp,br⟩:=Vl (q:=⟨⟨0,[]⟩,q'.parts,q'.nots⟩) am hv
       exact cj v (inQ.sub ah.at_ ⟨p.a,Kr hp,br⟩)) z h
     have ez:∀ν,Lj neg (⟨⟨0,[]⟩,q'.parts,q'.nots⟩:Qry) ν↔Lj neg q' ν:=fun ν=>Iff.rfl;have HE:Ajs (q'.head=q.head):=he;simp only[he,hk];clear he b9 bg aj a9
     repeat' (first|refine Z1 ?_|(refine Z8 ?_;intro κ hκ)|(refine Z4 ?_;clear hκ κ)|(refine Z2 ?_ ?_<;>intro h aa<;>try exact Xp)|(refine Z5 ?_;first|(refine Xi (cv _ (hM.keep (Xs))) ?_;rintro _ _ ⟨⟨bb,rfl,b0⟩,bl⟩;(have cf:Ajs _:=b0;clear b0;have bc:=bl.nobj;have ba:=bl.obj;simp only[Ab]at bc ba;have b5:=(az.put Ajm _).trans bl))|(refine Xi (cu _ _) ?_;rintro _ _ ⟨rfl,bi⟩;(have cz:=bi.nobj;have cx:=bi.obj;have di:=b5.trans bi))|(refine Xi (d5 _ _ (hM.keep (Xs))) ?_;rintro _ _ ⟨id',dh,b7⟩;(generalize b3:M.set k (id',x.2++[Cs q.head])=M7 at dh b7;have ea:Ajs _:=b3;clear b3;have fl:=dh.ob;have dl:=KM.trans (KM.ofKeep di) b7)))|refine Z3 ?_|exact⟨⟩|(apply hκ.out;clear hκ κ))
     ·exact⟨_,rfl,ae.out _ b5 (fun t ⟨ν,hν,_⟩=>absurd (cf.out.2 ⟨ν,ah.to ν hν⟩) (by rw[h];simp))⟩
     ·have db:bb=true:=by assumption
      obtain⟨ν,hν⟩:=cf.out.1 db;obtain⟨ν',hν',-⟩:=ah.back ν hν;have fa:Wp neg q (Cs q.head):=⟨ν',hν',(au ν').symm⟩;have fb:Gro k (Wp neg q) M M7 d (d+1):=by rw[<-ea.out];exact Ace bm fj.out fa
      have ey:Cs q.head∈Ay M7 k:=by
       rw[<-ea.out,B8 (x:=(id',x.2++[Cs q.head])) (by simp[da])];simp
      exact⟨_,rfl,M7,d+1,dh.setd,dl.setd _,fb,Ajm,fun _ t ⟨μ,_,e⟩=>by rw[e,au];exact ey⟩
  |false=>
   rw[hs]at ac;have cu:∀(id:Nat) z,ACalls Tryz.prog 131 [ag [ic (k:Int),sl id q.head.ts.length (Ac q.head.ts)]] z fun r z'=>r=sc (.bool false)/\Keep z z':=fun id z=>by
    have:=bf id z;rw[hk,hs]at this;exact this
   have b9:=Ry neg om ot M d b V.length V (Agi _);obtain⟨v0,vt,ch⟩:∃v0 vt,Cc [q.head]=v0::vt:=by
    cases hv:Cc [q.head]with
    |nil=>
     exfalso;have:Hw q.head.ts=true:=by
      unfold Hw;rw[Ago];rintro⟨t1,t2⟩ ht;cases t1 with
      |false=>rfl
      |true=>
       have:t2∈Cc [q.head]:=(C4 _ _).2 ⟨q.head,by simp,ht⟩;rw[hv]at this;cases this
     rw[this]at hs;cases hs
    |cons v0 vt=>exact⟨v0,vt,rfl⟩
   have af:=fun (idh i:Nat) (z:St)=>Hb [q.head] [ic q.head.p,sl idh q.head.ts.length (Ac q.head.ts)] i (EL.single ⟨idh,rfl⟩) (by simp;exact ck) (by simp) z;have du:=E5 (l:=[q.head]) (by simp;exact ck);have dt:∀v,A8 q.head.ts v=true->v∈v0::vt:=fun v hv=>by rw[<-ch];exact (C4 _ _).2 ⟨q.head,by simp,hasV_iff.1 hv⟩
   have dw:A8 q.head.ts v0=true:=by
    have:v0∈Cc [q.head]:=by rw[ch];simp
    obtain⟨a,ha,h⟩:=(C4 _ _).1 this;simp at ha;subst ha;exact hasV_iff.2 h
   rw[ch]at af du;simp only[Ahj,Ahi,Am,Ag5,Ag9,hk]at af;simp only[Ahj,Ahi,Ag9]at du;have c7:(v0::vt).length<=200:=by simp;omega
   clear bf ca cq ch;refine Z9 86 [] Tryz.func139 ?_
   repeat' (first|refine Z1 ?_|(refine Z8 ?_;intro κ hκ)|(refine Z4 ?_;clear hκ κ)|(refine Z2 ?_ ?_<;>intro h aa<;>try exact Xp)|(refine Z5 ?_;first|(refine Xi (a9 _ (hM.keep (Xs))) ?_;rintro _ _ ⟨rfl,rfl⟩)|(refine Xi (ac _) ?_;rintro _ _ ⟨rfl,an⟩;(have ak:=an.nobj;have ab:=an.obj;have bn:=((Keep.refl z).new _).trans an;simp only[Aa]at ak ab;clear ac))|(refine Xi (bg _ (hM.keep (Xs))) ?_;rintro _ _ ⟨⟨c',(⟨rfl,ei,em,bw⟩|⟨q',rfl,⟨ih2,ip2,in2,pc2,nc2,rfl,co,cp⟩,a5,de,ah,av⟩)⟩,ai⟩))|refine Z3 ?_|exact⟨⟩|(apply hκ.out;clear hκ κ))
   ·have bd:=ai.nobj;have o4:=ai.obj z.nobj Ajm;rw[ab _ Ajm,Ap]at o4;have az:=bn.trans ai;have ce:Ajs (∀ν,¬Lj neg q ν):=bw;clear bw
    repeat' (first|refine Z1 ?_|(refine Z8 ?_;intro κ hκ)|(refine Z4 ?_;clear hκ κ)|(refine Z2 ?_ ?_<;>intro h aa<;>try exact Xp)|refine Z3 ?_|exact⟨⟩|(apply hκ.out;clear hκ κ))
    first|exact⟨_,rfl,ae.out _ (az.put Ajm _) (fun t ⟨ν,h,_⟩=>absurd h (ce.out ν))⟩|exact ae.out _ (az.put Ajm _) (fun t ⟨ν,h,_⟩=>absurd h (ce.out ν))
   ·have bd:=ai.nobj;have o4:=ai.obj z.nobj Ajm;rw[ab _ Ajm,Ap]at o4;have az:=bn.trans ai;have he:q'.head=q.head:=ah.hd;have ay:NegOk neg M q':=hNg.sub fun a ha=>⟨a,(av a ha).1,rfl⟩;have am:jW ⟨⟨0,[]⟩,q'.parts,q'.nots⟩:=fun v hv=>a5.wf v (.inr (hv.resolve_left (by simp[A8])))
    have cv:=fun z (h:MOb z om ot M d b)=>b9 ⟨⟨0,[]⟩,q'.parts,q'.nots⟩ [ic 0,nilS,sl ip2 q'.parts.length pc2,sl in2 q'.nots.length nc2] ⟨1,ip2,in2,pc2,nc2,rfl,co,cp⟩ (Lx a5 (by simp) (Ai9 _) (Ai9 _) am) (ay.sub fun a ha=>⟨a,ha,rfl⟩)
     (fun a ha v hv=>by
      have:a∈atomsQ q'\/a=⟨0,[]⟩:=by
       unfold atomsQ at ha⊢;simp only[Ahm,Ahs,Ahv]at ha⊢;rcases ha with h|h|h
       ·exact .inr h
       ·exact .inl (.inr (.inl h))
       ·exact .inl (.inr (.inr h))
      rcases this with h|rfl
      ·exact hV a (ah.at_ a h) v hv
      ·cases hv) rfl (fun v hv=>by
      obtain⟨p,hp,br⟩:=Vl (q:=⟨⟨0,[]⟩,q'.parts,q'.nots⟩) am hv
      exact cj v (inQ.sub ah.at_ ⟨p.a,Kr hp,br⟩)) z h
    have cb:EQ q' [ic (k:Int),sl ih2 q.head.ts.length (Ac q.head.ts),sl ip2 q'.parts.length pc2,sl in2 q'.nots.length nc2]:=⟨ih2,ip2,in2,pc2,nc2,by rw[he,hk],co,cp⟩;have dc:=fun (id:Nat) z=>Rv q' _ (v0::vt) id cb a5.ok c7 z;simp only[Ahj,Am,Ag5]at dc;have HE:Ajs (q'.head=q.head):=he;simp only[he,hk];clear he b9 bg a9 cb;have dv:=af ih2;clear af
    repeat' (first|refine Z1 ?_|(refine Z8 ?_;intro κ hκ)|(refine Z4 ?_;clear hκ κ)|(refine Z2 ?_ ?_<;>intro h aa<;>try exact Xp)|(refine Z5 ?_;first|(refine Xi (cv _ (hM.keep (Xs))) ?_;rintro _ _ ⟨⟨bb,rfl,b0⟩,bl⟩;(have cf:Ajs _:=b0;clear b0;have bc:=bl.nobj;have ba:=bl.obj;simp only[Ab]at bc ba;have b5:=(az.put Ajm _).trans bl))|(refine Xi (cu _ _) ?_;rintro _ _ ⟨rfl,bi⟩;(have cz:=bi.nobj;have cx:=bi.obj;have di:=b5.trans bi))|(refine Xi (dv _ _) ?_;rintro _ _ ⟨⟨idv,rfl⟩,dn⟩;(have cy:=dn.nobj;have cw:=dn.obj;simp only[Ah,As]at cy cw;have e7:=(di.lay 1).trans dn))|(refine Xi (dc _ _) ?_;rintro _ _ ⟨⟨_,_,rs,rfl,⟨ih3,ip3,in3,pc3,nc3,rfl,e3,e5⟩,⟨ih4,ip4,in4,pc4,nc4,rfl,fs,ft⟩,hG,hC⟩,d7⟩;(have ec:=d7.nobj;have HC:Ajs _:=hC;have HG:Ajs _:=hG;clear hC hG;have e8:=e7.trans d7)))|refine Z3 ?_|exact⟨⟩|(apply hκ.out;clear hκ κ))
    ·exact⟨_,rfl,ae.out _ b5 (fun t ⟨ν,hν,_⟩=>absurd (cf.out.2 ⟨ν,ah.to ν hν⟩) (by rw[h];simp))⟩
    ·rename_i z8;have db:bb=true:=by assumption
     have dp:EQ (A6 q' rs) [ic (A6 q' rs).head.p,sl ih3 (A6 q' rs).head.ts.length (Ac (A6 q' rs).head.ts),sl ip3 (A6 q' rs).parts.length pc3,sl in3 (A6 q' rs).nots.length nc3]:=⟨ih3,ip3,in3,pc3,nc3,rfl,e3,e5⟩;have hrs:∀v∈v0::vt,v∈rs:=fun v hv=>by
      obtain⟨ad,e,-,-⟩:=HG.out;rw[e];exact Ahs.2 (.inl hv)
     have ap:Rc (A6 q' rs):=Lx a5 a5.ok.hd Aja Aja (dD a5.wf HC.out (fun v hv=>hrs v (dt v (by rw[<-HE.out];exact hv))));have dz:QV (A6 q' rs):=fun a ha w hw=>by
      obtain⟨a',ew,ee⟩:=Pv (rs:=rs) ⟨a,ha,hasV_iff.2 hw⟩;exact hV a' (ah.at_ a' ew) w (hasV_iff.1 ee)
     have dx:(A6 q' rs).head.p=(k:Int):=by show q'.head.p=_;rw[HE.out,hk]
     have bz:∀w,inQ (A6 q' rs) w->w∈V:=fun w hw=>cj w (inQ.sub ah.at_ (Pv hw));have be:v0∈V:=cj v0 ⟨q.head,by simp[atomsQ],dw⟩;have d0:(V.erase v0).length<V.length:=by
      rw[List.length_erase_of_mem be];have:=List.length_pos_of_mem be;omega
     have IHb:=IH (V.erase v0) d0;obtain⟨μ,hμ⟩:=cf.out.1 db
     --what the near part brings,the query brings
     have b1:∀n t,Wp neg (C3 v0 n (A6 q' rs)) t->Wp neg q t:=fun n t ⟨ν,hν,e⟩=>by
      have h1:=(Su ap.w).1 hν;have h2:=Za HC.out h1 (pL (rs:=rs) hμ);obtain⟨ν',hν',ev⟩:=ah.back _ h2;refine⟨ν',hν',?_⟩;rw[e];show Bf (Fs v0 n (A6 q' rs).head) ν=_;rw[Kj];show Bf q'.head _=_;rw[HE.out];apply E8;intro v hv;rw[ev v ⟨q'.head,by simp[atomsQ],by rw[HE.out];exact hv⟩];rw[if_pos (hrs v (dt v hv))]
     have cd:∀t,Wp neg q t->∃n∈Lb (A6 q' rs) v0,Wp neg (C3 v0 n (A6 q' rs)) t:=fun t ⟨ν,hν,e⟩=>by
      have h2:=eY (rs:=rs) (ah.to ν hν);obtain⟨p,hp,br⟩:=ap.wf v0 (.inl (by show A8 q'.head.ts v0=true;rw[HE.out];exact dw));have a6:Ni ν v0 (ν v0)=ν:=by
       funext w;unfold Ni;split
       ·rename_i e;rw[e]
       ·rfl
      refine⟨ν v0,oD ap.w h2 ⟨p,hp,br⟩,ν,(Su ap.w).2 (by rw[a6];exact h2),?_⟩;rw[e];show _=Bf (Fs v0 (ν v0) (A6 q' rs).head) ν;rw[Kj,a6];show _=Bf q'.head ν;rw[HE.out]
     have dq:Ajs _:=b1;have ds:Ajs _:=cd;have dy:=fun z=>Ky (A6 q' rs) _ v0 dp ap.ok ap.n z;have ef:=Tk ap.n v0;have e0:=fun n z=>Vr (A6 q' rs) _ v0 n dp ap.ok z;generalize bv:Lb (A6 q' rs) v0=ns at dy ef;have fi:Ajs _:=bv;have fo:=Bn ns;have b2:∀{n:Int},∀a∈(C3 v0 n (A6 q' rs)).nots,a.p≠(k:Int):=fun {n} a ha=>by
      obtain⟨a0,h0,rfl⟩:=Ahv.1 ha;exact e4 a0 (av a0 (Aip.1 h0).1).1
     have e9:Ajs (∀(n:Int) (c5:List AV) (Mj:MM) (dj:Int),EQ (C3 v0 n (A6 q' rs)) c5->Gro k (Wp neg q) M Mj d dj->dj<=1000000->∀z,MOb z om ot Mj dj b->ACalls Tryz.prog 139 [ptr om 0,ag c5] z fun r z'=>∃M' d',MOb z' om ot M' d' b/\KM om ot Mj M' z z'/\Gro k (Wp neg (C3 v0 n (A6 q' rs))) Mj M' dj d'/\d'<=1000000/\(¬b<d'->∀t,Wp neg (C3 v0 n (A6 q' rs)) t->t∈Ay M' k)):=fun n c5 Mj dj bo ao cm z cr=>
      IHb (C3 v0 n (A6 q' rs)) c5 k Mj dj bo (fQ ap) (((ay.near rs).put v0 n).gro b2 ao) b2 (fun a ha w hw=>by
       obtain⟨⟨b',eu,ep⟩,-⟩:=S4 (q:=A6 q' rs) (v:=v0) (n:=n) (w:=w) ⟨a,ha,hasV_iff.2 hw⟩;exact dz b' eu w (hasV_iff.1 ep)) dx (by rw[ao.len];exact da) (ao.room a8) (by have:=ao.le;omega) cm et er (fun w hw=>by
       obtain⟨h1,h2⟩:=S4 hw
       exact (Aih h2).2 (bz w h1)) z cr
     clear bv b1 cd IHb IH d0 be bz cv cu dv dc ap dz dp dx;have d4:Keep z ((((z8.new [ic 0,nilS,nilS,nilS]).new [ic 0,nilS,nilS,nilS]).put z8.nobj [ic (A6 q' rs).head.p,sl ih3 (A6 q' rs).head.ts.length (Ac (A6 q' rs).head.ts),sl ip3 (A6 q' rs).parts.length pc3,sl in3 (A6 q' rs).nots.length nc3]).put (z8.nobj+1) [ic (H0 q' rs).head.p,sl ih4 (H0 q' rs).head.ts.length (Ac (H0 q' rs).head.ts),sl ip4 (H0 q' rs).parts.length pc4,sl in4 (H0 q' rs).nots.length nc4]):=(((e8.new _).new _).put Ajm _).put Ajm _;generalize c6:((((z8.new [ic 0,nilS,nilS,nilS]).new [ic 0,nilS,nilS,nilS]).put z8.nobj [ic (A6 q' rs).head.p,sl ih3 (A6 q' rs).head.ts.length (Ac (A6 q' rs).head.ts),sl ip3 (A6 q' rs).parts.length pc3,sl in3 (A6 q' rs).nots.length nc3]).put (z8.nobj+1) [ic (H0 q' rs).head.p,sl ih4 (H0 q' rs).head.ts.length (Ac (H0 q' rs).head.ts),sl ip4 (H0 q' rs).parts.length pc4,sl in4 (H0 q' rs).nots.length nc4])=z9 at*
     have n9:z9.nobj=z8.nobj+2:=by rw[<-c6];rfl
     have o9:z9.obj z8.nobj=[ic (A6 q' rs).head.p,sl ih3 (A6 q' rs).head.ts.length (Ac (A6 q' rs).head.ts),sl ip3 (A6 q' rs).parts.length pc3,sl in3 (A6 q' rs).nots.length nc3]:=by rw[<-c6,Ai Ajm,Ak]
     clear c6;refine Bu (Q:=fun e s' z''=>e= .normal/\s' 0=ptr om 0/\s' 5=sl idv (vt.length+1) (ic v0::List.map ic vt)/\s' 6=ptr z8.nobj 0/\(∃idn,s' 70=sl idn ns.length (Am ns))/\s' 71=ic ns.length/\s' 72=ic 0/\Keep z9 z'') ?_ ?_
     ·refine A2 Aj (fun _=>True) [] [0,1,2,3,6] 2 #[true,true,true,true,false,false,true] Ajp (fun _ _ _ h=>by cases h.1) ?_;intro κ hκ;refine Z3 ?_;refine hκ.out _ ?_;clear hκ κ;refine Ao (i:=4) Ajp ?_;refine Ar ?_;intro κ hκ;refine Z3 ?_;refine ACalls.mono (dy _) ?_;rintro _ za ⟨⟨idn,rfl⟩,a4⟩;refine Z3 ?_;refine hκ.out _ _ ⟨Aq a4,?_⟩;clear hκ κ;refine E6 [5] Ajp Ajp (fun _ _ _ h=>by cases h.1) a4.nobj (fun o ho _=>a4.ver o ho) ?_;intro κ hκ;refine Z3 ?_;refine hκ.out _ _ ⟨rfl,?_⟩;refine⟨by simp[upd,initS],Ajo,Ajo,⟨idn,Ajo⟩,Ajn,Ajo,a4⟩
     ·rintro e s z9' ⟨rfl,g0,g5,g6,⟨idn,g70⟩,g71,g72,a4⟩;have kna:=a4.nobj;have dk:=d4.trans a4;have oa:z9'.obj z8.nobj=[ic (A6 q' rs).head.p,sl ih3 (A6 q' rs).head.ts.length (Ac (A6 q' rs).head.ts),sl ip3 (A6 q' rs).parts.length pc3,sl in3 (A6 q' rs).nots.length nc3]:=by rw[a4.obj _ Ajm,o9]
      have d3:MOb z9' om ot M d b:=hM.keep dk;have fg:om≠z8.nobj:=by have:=hM.lo;omega
      have ff:ot≠z8.nobj:=by have:=hM.lt;omega
      repeat' (first|refine Z1 ?_|(refine Z8 ?_;intro κ hκ)|(refine Z4 ?_;clear hκ κ)|(refine Z2 ?_ ?_<;>intro h aa<;>try exact Xp)|refine Z3 ?_|exact⟨⟩|(apply hκ.out;clear hκ κ))
      refine Af (fun m s z'=>∃(j:Nat) (Mj:MM) (dj:Int),m=ns.length-j/\j<=ns.length/\s 0=ptr om 0/\s 5=sl idv (vt.length+1) (ic v0::List.map ic vt)/\s 6=ptr z8.nobj 0/\s 70=sl idn ns.length (Am ns)/\s 71=ic ns.length/\s 72=ic j/\MOb z' om ot Mj dj b/\KM om ot M Mj z z'/\z8.nobj<z'.nobj/\z'.obj z8.nobj=[ic (A6 q' rs).head.p,sl ih3 (A6 q' rs).head.ts.length (Ac (A6 q' rs).head.ts),sl ip3 (A6 q' rs).parts.length pc3,sl in3 (A6 q' rs).nots.length nc3]/\dj<=1000000/\Ajs (Gro k (Wp neg q) M Mj d dj/\(¬b<dj->∀n∈ns.take j,∀t,Wp neg (C3 v0 n (A6 q' rs)) t->t∈Ay Mj k))) ns.length
       ⟨0,M,d,Ajm,Ajm,g0,g5,g6,g70,g71,g72,d3,KM.ofKeep dk,Ajm,oa,cn,Gro.refl _ _ _ _,fun _ n hn=>by simp at hn⟩ ?_
      clear g0 g5 g6 g70 g71 g72 d3 dk oa kna a4 o9 d4;rintro m s z' ⟨j,Mj,dj,rfl,hj,g0,g5,g6,g70,g71,g72,cr,b6,c8,ob',cm,ao⟩;by_cases eh:j<ns.length
      ·have aw:=List.getElem?_eq_getElem eh;obtain⟨r,en⟩:=Dm aw;generalize ns[j]=n at en aw;have fh:Ajs (ns.take (j+1)=ns.take j++[n]):=by rw[Ajs,Agz,aw,Aia]
       clear aw;have d1:=e0 n;have d9:Ajs (∀c5,EQ (C3 v0 n (A6 q' rs)) c5->∀z,MOb z om ot Mj dj b->ACalls Tryz.prog 139 [ptr om 0,ag c5] z fun r z'=>∃M' d',MOb z' om ot M' d' b/\KM om ot Mj M' z z'/\Gro k (Wp neg (C3 v0 n (A6 q' rs))) Mj M' dj d'/\d'<=1000000/\(¬b<d'->∀t,Wp neg (C3 v0 n (A6 q' rs)) t->t∈Ay M' k)):=fun c5 bo=>e9.out n c5 Mj dj bo ao.out.1 cm
       repeat' (first|refine Z1 ?_|(refine Z8 ?_;intro κ hκ)|(refine Z4 ?_;clear hκ κ)|(refine Z2 ?_ ?_<;>intro h aa<;>try exact Xp)|refine Z3 ?_|exact⟨⟩|(apply hκ.out;clear hκ κ))
       refine Bu (Q:=fun e s' z''=>e= .normal/\s' 0=ptr om 0/\s' 5=sl idv (vt.length+1) (ic v0::List.map ic vt)/\s' 6=ptr z8.nobj 0/\s' 70=sl idn ns.length (Am ns)/\s' 71=ic ns.length/\s' 72=ic j/\∃o c5,s' 10=ptr o 0/\o<z''.nobj/\z''.obj o=c5/\EQ (C3 v0 n (A6 q' rs)) c5/\Keep z' z'') ?_ ?_
       ·refine A2 Aj (fun _=>True) [7] [0,1,2,3,4] 3 #[true,true,true,true,true,false,false,false] Ajp (fun _ _ _ h=>by cases h.1) ?_;intro κ hκ;refine Z3 ?_;refine hκ.out _ ?_;clear hκ κ;refine Eg (rs:=[5,6]) Ajp (by simp) ?_;intro i hi;simp only[Ahm,Ah4,Ajl]at hi;rcases hi with rfl|rfl
        ·refine Ar ?_;intro κ hκ;refine Z3 ?_;refine ACalls.mono (d1 _) ?_;rintro _ zb ⟨⟨_,rfl,ih5,ip5,in5,pc5,nc5,rfl,dd,df⟩,a3⟩;have knb:=a3.nobj;refine Z3 ?_;refine hκ.out _ _ ⟨Aq a3,?_⟩;clear hκ κ;refine Ao (i:=6) Ajp ?_;refine Ar ?_;intro κ hκ;refine Z3 ?_;refine hκ.out _ _ ⟨Aq (a3.new _),?_⟩;clear hκ κ;refine Ao (i:=7) Ajp ?_;refine Ar ?_;intro κ hκ;refine Z3 ?_;refine hκ.out _ _ ⟨Bs rfl,?_⟩;clear hκ κ;refine A3 Ajp ⟨rfl,Ajn,Ajn,Ajn,Ajn,Ajn,Ajn,zb.nobj,_,Ajo,Ajr,Ak,⟨ih5,ip5,in5,pc5,nc5,rfl,dd,df⟩,(a3.new _).put knb _⟩
        ·refine Ar ?_;intro κ hκ;refine Z3 ?_;refine hκ.out _ _ ⟨Aq ((Keep.refl _).new _),?_⟩;clear hκ κ;refine Ao (i:=5) Ajp ?_;refine Ar ?_;intro κ hκ;refine Z3 ?_;refine ACalls.mono (d1 _) ?_;rintro _ zb ⟨⟨_,rfl,ih5,ip5,in5,pc5,nc5,rfl,dd,df⟩,a3⟩;have knb:=a3.nobj;simp only[Aa]at knb;have obb:=a3.obj z'.nobj Ajq;rw[Ap]at obb;refine Z3 ?_;refine hκ.out _ _ ⟨Aq (((Keep.refl _).new _).trans a3),?_⟩;clear hκ κ;refine Ao (i:=7) Ajp ?_;refine Ar ?_;intro κ hκ;refine Z3 ?_;refine hκ.out _ _ ⟨Bs rfl,?_⟩;clear hκ κ;refine A3 Ajp ⟨rfl,Ajn,Ajn,Ajn,Ajn,Ajn,Ajn,z'.nobj,_,Ajo,by simp only[Ab];omega,Ak,⟨ih5,ip5,in5,pc5,nc5,rfl,dd,df⟩,(((Keep.refl _).new _).trans a3).put (Agi _) _⟩
       ·rintro e s2 zc ⟨rfl,f0,f5,f6,f70,f71,f72,oo,c5,f10,fm,oc5,bo,ct⟩;have knc:=ct.nobj;have fe:=fun z=>d9.out c5 bo z;obtain⟨ih5,ip5,in5,pc5,nc5,rfl,-,-⟩:=bo;have eg:zc.obj z8.nobj=[ic (A6 q' rs).head.p,sl ih3 (A6 q' rs).head.ts.length (Ac (A6 q' rs).head.ts),sl ip3 (A6 q' rs).parts.length pc3,sl in3 (A6 q' rs).nots.length nc3]:=by rw[ct.obj _ c8,ob']
        clear d9
        repeat' (first|refine Z1 ?_|(refine Z8 ?_;intro κ hκ)|(refine Z4 ?_;clear hκ κ)|(refine Z2 ?_ ?_<;>intro h aa<;>try exact Xp)|(refine Z5 ?_;refine Xi (fe _ (cr.keep ct)) ?_;rintro _ _ ⟨M2,d2,e6,bh,d8,eo,a7⟩;(have dr:Ajs _:=d8;have fk:Ajs _:=a7;clear d8 a7;have dm:=(b6.trans (KM.ofKeep ct)).trans bh;have eb:=bh.obj z8.nobj Ajm fg.symm ff.symm;have kn2:=bh.nobj))|refine Z3 ?_|exact⟨⟩|(apply hκ.out;clear hκ κ))
        have HN:Ajs (Gro k (Wp neg q) M M2 d d2/\(¬b<d2->∀n∈ns.take (j+1),∀t,Wp neg (C3 v0 n (A6 q' rs)) t->t∈Ay M2 k)):=by
         refine⟨ao.out.1.trans (dr.out.mono (dq.out n)),fun c9 u hu t ht=>?_⟩;rw[fh.out]at hu;rcases Ahs.1 hu with hu|hu
         ·have fp:=dr.out.le;exact dr.out.sub (ao.out.2 Ajm u hu t ht)
         ·simp at hu;subst hu;exact fk.out c9 t ht
        refine⟨ns.length-(j+1),Ajm,j+1,M2,d2,?_⟩
        ((repeat' with_reducible refine And.intro ?_ ?_)<;>first|exact Xq|exact (e6)|exact (dm)|exact (HN)|exact (by rw[eb,eg])|exact Xs)
      ·have ej:j=ns.length:=Ajm;subst ej
       repeat' (first|refine Z1 ?_|(refine Z8 ?_;intro κ hκ)|(refine Z4 ?_;clear hκ κ)|(refine Z2 ?_ ?_<;>intro h aa<;>try exact Xp)|refine Z3 ?_|exact⟨⟩|(apply hκ.out;clear hκ κ))
       refine⟨_,rfl,Mj,dj,cr,b6,ao.out.1,cm,fun c9 t ht=>?_⟩;obtain⟨n,hn,h1⟩:=ds.out t ht;rw[fi.out]at hn;exact ao.out.2 c9 n (by rw[Agw];exact hn) t h1
theorem cI (neg:Int->Bc->Prop)(om ot:Nat)(b:Int):∀(n:Nat) (V:List Int),V.length<=n->Aao neg om ot b V:=by
 intro n;induction n with
 |zero=>exact fun V hV=>P1 neg om ot b V (fun V' h=>Ajm)
 |succ n IH=>exact fun V hV=>P1 neg om ot b V (fun V' h=>IH V' Ajm)
def Sh (ar:Nat->Nat)(k:Nat)(t:Bc):Prop:=∃l:List Int,t=C5 l/\l.length=ar k/\∀x∈l,∃n:Nat,x=(n:Int)/\n<1026
structure RW (np:Nat)(ar:Nat->Nat)(r:Dy):Prop where
 rok:ROk np r
 nne:∀l∈r.body,l.neg=true->l.a.p≠r.head.p
 har:r.head.ts.length=ar r.head.p.toNat
 bar:∀l∈r.body,l.a.ts.length=ar l.a.p.toNat
 hc:∀t∈r.head.ts,t.1=false->∃n:Nat,t.2=(n:Int)/\n<1026
 hv:∀v,(true,v)∈r.head.ts->0<=v/\v<26
 bv:∀l∈r.body,∀v,(true,v)∈l.a.ts->0<=v/\v<26
 safe:∀v,(A8 r.head.ts v=true\/∃l∈r.body,l.neg=true/\A8 l.a.ts v=true)->∃l∈r.body,l.neg=false/\A8 l.a.ts v=true
theorem Acg {a:Df}(h3:a.ts.length<=3)(ν:Nu):Lh a.ts (Bf a ν)=true:=by
 unfold Lh;rw[Ago];intro i hi;have hi:i<a.ts.length:=by simpa using hi
 have hg:(Bf a ν)[i]?=some (Eo ν a.ts[i]):=by
  unfold Bf;rw[Jy (by simpa using hi) (by simpa using h3)];simp
 unfold Sj;rw[List.getElem?_eq_getElem hi,hg];cases ht:a.ts[i]with
 |mk b n=>
  cases b with
  |false=>simp[Eo]
  |true=>
   have hm:(true,n)∈a.ts:=by rw[<-ht];exact Ah6 hi
   have:=Je (ν:=ν) h3 (hasV_iff.2 hm);unfold H4 at this;simp only;rw[this];simp[Eo]
theorem Aa8 {a:Df}{t:Bc}{l:List Int}(h3:a.ts.length<=3)(ht:t=C5 l)(hl:l.length=a.ts.length)(hf:Lh a.ts t=true):∃μ,t=Bf a μ:=by
 refine⟨fun v=>H4 t (Iz a.ts v),?_⟩;have:a.ts.map (Eo fun v=>H4 t (Iz a.ts v))=l:=by
  apply List.ext_getElem (by simp[hl]);intro i h1 h2;have hi:i<a.ts.length:=by simpa using h1
  unfold Lh at hf;rw[Ago]at hf;have h:=hf i (by simpa using hi);have hg:t[i]?=some l[i]:=by rw[ht,Jy h2 Ajm]
  unfold Sj at h;rw[List.getElem?_eq_getElem hi,hg]at h;rw[List.getElem_map];cases he:a.ts[i]with
  |mk b n=>
   rw[he]at h;cases b with
   |false=>
    simp only[Ajk]at h;simp[Eo,h]
   |true=>
    simp only[Ajk]at h;rw[h];simp[Eo,H4]
 unfold Bf;rw[this,ht]
theorem jM {M:MM}{nw:Int}{fr i:Nat}{l:Lit}{t:Bc}(h:t∈Wh M nw fr i l):t∈Ay M l.a.p:=by
 unfold Wh at h;split at h
 ·exact List.mem_of_mem_drop h
 ·exact h
theorem I7 {M:MM}{nw:Int}{fr:Nat}{b:List Lit}{p:Part}(h:p∈Nj M nw fr b):∃(l:Lit) (i:Nat),b[i]?=some l/\l.neg=false/\p=jN M nw fr (l,i):=by
 unfold Nj at h;obtain⟨⟨l,i⟩,hx,rfl⟩:=Ahv.1 h;obtain⟨h1,h2⟩:=Aip.1 hx;have:=List.mem_zipIdx_iff_getElem?.1 h1;exact⟨l,i,by simpa using this,by simpa using h2,rfl⟩
theorem qM {M:MM}{nw:Int}{fr:Nat}{b:List Lit}{l:Lit}{i:Nat}(h:b[i]?=some l)(hn:l.neg=false):jN M nw fr (l,i)∈Nj M nw fr b:=by
 unfold Nj;refine Ahv.2 ⟨(l,i),Aip.2 ⟨List.mem_zipIdx_iff_getElem?.2 (by simpa using h),by simp[hn]⟩,rfl⟩
def MSh (ar:Nat->Nat)(M:MM):Prop:=∀(k:Nat) (t:Bc),t∈Ay M (k:Int)->Sh ar k t
theorem Ac1 {z:St}{om ot:Nat}{M:MM}{d b:Int}{ar:Nat->Nat}{r:Dy}(hM:MOb z om ot M d b)(hS:MSh ar M)(hr:RW M.length ar r)(nw:Int)(fr:Nat):Rc (K4 M nw fr r)/\QV (K4 M nw fr r)/\∀v,inQ (K4 M nw fr r) v->v∈(List.range 26).map fun n:Nat=>(n:Int):=by
 have hk:∀l∈r.body,∃k:Nat,l.a.p=(k:Int)/\k<M.length:=hr.rok.bp;have ac:∀a∈Q9 r.body,∃l∈r.body,l.neg=true/\l.a=a:=fun a ha=>by
  obtain⟨l,hl,rfl⟩:=Ahv.1 ha;obtain⟨h1,h2⟩:=Aip.1 hl;exact⟨l,h1,h2,rfl⟩
 have ak:(Q9 r.body).length<=r.body.length:=by
  unfold Q9;rw[Aij];exact Aio _ _
 have ae:∀l∈r.body,T3 (Ay M l.a.p)/\(Ay M l.a.p).length<=5000:=fun l hl=>by
  obtain⟨k,e,ai⟩:=hk l hl;have hg:M[k]?=some M[k]:=List.getElem?_eq_getElem ai;rw[e,B8 hg];have hm:=Ah6 ai;exact⟨hM.t3 _ hm,hM.ln _ hm⟩
 have hpl:(Nj M nw fr r.body).length<=r.body.length:=by
  unfold Nj;rw[Aij];refine Agj (Aio _ _) (by simp)
 have aa:∀(l:Lit) (i:Nat),∀t∈(jN M nw fr (l,i)).tups,t∈Ay M l.a.p/\Lh l.a.ts t=true:=fun l i t ht=>by
  obtain⟨h1,h2⟩:=Aip.1 ht;exact⟨jM h1,h2⟩
 have ab:∀v,inQ (K4 M nw fr r) v->0<=v/\v<26:=fun v ⟨a,ha,hv⟩=>by
  unfold atomsQ K4 at ha;simp only[Ahm,Ahs,Ahv]at ha;rcases ha with rfl|⟨p,hp,rfl⟩|ha
  ·exact hr.hv v (hasV_iff.1 hv)
  ·obtain⟨l,i,h1,h2,rfl⟩:=I7 hp;exact hr.bv l (Agp h1) v (hasV_iff.1 hv)
  ·obtain⟨l,h1,h2,rfl⟩:=ac a ha;exact hr.bv l h1 v (hasV_iff.1 hv)
 refine⟨⟨⟨hr.rok.hd,Agj hpl hr.rok.bl,Agj ak hr.rok.bl,fun p hp=>?_,fun p hp=>?_,fun p hp=>?_,fun a ha=>?_⟩,fun p hp t ht=>?_,fun p hp=>?_,fun v hv=>?_⟩,fun a ha v hv=>(ab v ⟨a,ha,hasV_iff.2 hv⟩).1,fun v hv=>?_⟩
 ·obtain⟨l,i,h1,h2,rfl⟩:=I7 hp;exact hr.rok.ba l (Agp h1)
 ·obtain⟨l,i,h1,h2,rfl⟩:=I7 hp;have h3:=(ae l (Agp h1)).2;refine Agj (Aio _ _) ?_;unfold Wh;split
  ·simp;omega
  ·exact h3
 ·obtain⟨l,i,h1,h2,rfl⟩:=I7 hp;exact fun t ht=>(ae l (Agp h1)).1 t (aa l i t ht).1
 ·obtain⟨l,h1,h2,rfl⟩:=ac a ha;exact hr.rok.ba l h1
 ·obtain⟨l,i,h1,h2,rfl⟩:=I7 hp;have hl:=Agp h1;obtain⟨k,e,-⟩:=hk l hl;have h3:=(aa l i t ht).1;rw[e]at h3;obtain⟨m,rfl,ad,ah⟩:=hS k t h3;intro j hj;have af:m.length=l.a.ts.length:=by rw[ad,hr.bar l hl,e];rfl
  have aj:j<m.length:=by rw[af];exact hj
  obtain⟨n,an,am⟩:=ah m[j] (Ah6 aj);exact⟨n,by rw[Jy aj (by rw[af];exact hr.rok.ba l hl),an],am⟩
 ·obtain⟨l,i,h1,h2,rfl⟩:=I7 hp;have hl:=Agp h1;refine⟨hr.rok.ba l hl,fun t ht=>?_⟩;obtain⟨k,e,-⟩:=hk l hl;obtain⟨h3,h4⟩:=aa l i t ht;rw[e]at h3;obtain⟨m,ao,ad,ah⟩:=hS k t h3;exact Aa8 (a:=l.a) (hr.rok.ba l hl) ao (by rw[ad,hr.bar l hl,e];rfl) h4
 ·obtain⟨l,hl,au,ap⟩:=hr.safe v (by
   rcases hv with h|⟨a,ha,h⟩
   ·exact .inl h
   ·obtain⟨l,h1,h2,rfl⟩:=ac a ha
    exact .inr ⟨l,h1,h2,h⟩)
  obtain⟨i,hi⟩:=List.getElem?_of_mem hl;exact⟨jN M nw fr (l,i),qM hi au,ap⟩
 ·obtain⟨h1,h2⟩:=ab v hv;rw[Ahv];exact⟨v.toNat,by simp;omega,Ajm⟩
theorem qL {neg:Int->Bc->Prop}{M:MM}{nw:Int}{fr:Nat}{ar:Nat->Nat}{r:Dy}{t:Bc}(hr:RW M.length ar r):Wp neg (K4 M nw fr r) t↔∃ν,(∀(l:Lit) (i:Nat),r.body[i]?=some l->l.neg=false->Bf l.a ν∈Wh M nw fr i l)/\(∀l∈r.body,l.neg=true->¬neg l.a.p (Bf l.a ν))/\t=Bf r.head ν:=by
 constructor
 ·rintro⟨ν,hν,rfl⟩;refine⟨ν,fun l i hi hn=>?_,fun l hl hn=>hν.2 l.a (Ahv.2 ⟨l,Aip.2 ⟨hl,hn⟩,rfl⟩),rfl⟩;have:=hν.1 _ (qM hi hn);exact (Aip.1 this).1
 ·rintro⟨ν,h,h',rfl⟩;refine⟨ν,⟨fun p hp=>?_,fun a ha=>?_⟩,rfl⟩
  ·obtain⟨l,i,h1,h2,rfl⟩:=I7 hp;exact Aip.2 ⟨h l i h1 h2,Acg (hr.rok.ba l (Agp h1)) ν⟩
  ·obtain⟨l,hl,rfl⟩:=Ahv.1 ha;obtain⟨h1,h2⟩:=Aip.1 hl;exact h' l h1 h2
abbrev Cu:=Nat->Bc->Prop
def ClD (R:List Dy)(D:Cu):Prop:=∀r∈R,∀ν,(∀l∈r.body,D l.a.p.toNat (Bf l.a ν))->D r.head.p.toNat (Bf r.head ν)
def LitH (N D:Cu)(ν:Nu)(l:Lit):Prop:=if l.neg=true then¬N l.a.p.toNat (Bf l.a ν)else D l.a.p.toNat (Bf l.a ν)
def ClG (R:List Dy)(N D:Cu):Prop:=∀r∈R,∀ν,(∀l∈r.body,LitH N D ν l)->D r.head.p.toNat (Bf r.head ν)
theorem cP {R:List Dy}{N D:Cu}(h:∀r∈R,∀l∈r.body,l.neg=false):ClG R N D↔ClD R D:=by
 have key:∀r∈R,∀ν,(∀l∈r.body,LitH N D ν l)↔∀l∈r.body,D l.a.p.toNat (Bf l.a ν):=fun r hr ν=>by
  constructor
  ·intro g l hl;have:=g l hl;unfold LitH at this;rw[h r hr l hl]at this;simpa using this
  ·intro g l hl;unfold LitH;rw[h r hr l hl];simpa using g l hl
 exact⟨fun g r hr ν hν=>g r hr ν ((key r hr ν).2 hν),fun g r hr ν hν=>g r hr ν ((key r hr ν).1 hν)⟩
def MD (M:MM):Cu:=fun k t=>t∈Ay M (k:Int)
def tot (M:MM):Int:=(Hs M).sum
structure GroA (D:Cu)(M M':MM)(d d':Int):Prop where
 len:M'.length=M.length
 ext:∀k:Nat,∃new:List Bc,Ay M' k=Ay M k++new/\new.Nodup/\∀t∈new,D k t/\t∉Ay M k
 cnt:d'-d=tot M'-tot M
theorem GroA.refl (D:Cu)(M:MM)(d:Int):GroA D M M d d:=⟨rfl,fun k=>⟨[],by simp,Aii,by simp⟩,Ajm⟩
theorem GroA.trans {D:Cu}{M M1 M2:MM}{d d1 d2:Int}(h:GroA D M M1 d d1)(g:GroA D M1 M2 d1 d2):GroA D M M2 d d2:=by
 refine⟨g.len.trans h.len,fun k=>?_,by have:=h.cnt;have:=g.cnt;omega⟩;obtain⟨n1,a1,a2,a3⟩:=h.ext k;obtain⟨n2,b1,b2,b3⟩:=g.ext k;refine⟨n1++n2,by rw[b1,a1,Ahc],?_,?_⟩
 ·rw[Aiw];exact⟨a2,b2,fun x hx y hy e=>(b3 y hy).2 (by rw[a1,<-e];exact Ahs.2 (.inr hx))⟩
 ·intro t ht;rcases Ahs.1 ht with ht|ht
  ·exact a3 t ht
  ·exact⟨(b3 t ht).1,fun hm=>(b3 t ht).2 (by rw[a1];exact Ahs.2 (.inl hm))⟩
theorem GroA.sub {D:Cu}{M M':MM}{d d':Int}(h:GroA D M M' d d'){k:Nat}{t:Bc}(ht:t∈Ay M k):t∈Ay M' k:=by
 obtain⟨n,a1,-,-⟩:=h.ext k;rw[a1];exact Ahs.2 (.inl ht)
theorem GroA.inD {D:Cu}{M M':MM}{d d':Int}(h:GroA D M M' d d')(hD:∀k t,MD M k t->D k t):∀k t,MD M' k t->D k t:=fun k t ht=>by
 obtain⟨n,a1,-,a3⟩:=h.ext k;unfold MD at ht;rw[a1]at ht;rcases Ahs.1 ht with ht|ht
 ·exact hD k t ht
 ·exact (a3 t ht).1
theorem Dj (x:Nat×List Bc)(M:MM):tot (x::M)=(x.2.length:Int)+tot M:=by simp[tot,Hs]
theorem O5:∀(M M':MM) (k:Nat) (n:Nat),M'.length=M.length->(∀j,j≠k->(M'[j]?).map (·.2)=(M[j]?).map (·.2))->(k<M.length->((Ay M' k).length:Int)=(Ay M k).length+n)->(M.length<=k->n=0)->tot M'=tot M+n
 |[],M',k,n,hl,ho,hk,hn=>by
  have:M'=[]:=Agu (by simpa using hl);subst this;have:=hn (by simp);subst this;simp[tot,Hs]
 |x::M,[],k,n,hl,ho,hk,hn=>by simp at hl
 |x::M,y::M',0,n,hl,ho,hk,hn=>by
  have h0:=hk (by simp);simp[Ay]at h0;have aa:tot M'=tot M+(0:Nat):=O5 M M' M.length 0 (by simpa using hl) (fun j hj=>by have:=ho (j+1) Ajm;simpa using this) (fun h=>Ajm) (fun _=>rfl);rw[Dj,Dj,aa];omega
 |x::M,y::M',k+1,n,hl,ho,hk,hn=>by
  have h0:=ho 0 Ajm;simp at h0
  have aa:=O5 M M' k n (by simpa using hl) (fun j hj=>by have:=ho (j+1) Ajm;simpa using this) (fun h=>by
   have:=hk (by simp;omega)
   simpa[Ay]using this) (fun h=>hn (by simp;omega))
  rw[Dj,Dj,aa,h0];omega
theorem Gro.all {k:Nat}{S:Bc->Prop}{D:Cu}{M M':MM}{d d':Int}(h:Gro k S M M' d d')(hk:k<M.length)(hS:∀t,S t->D k t):GroA D M M' d d':=by
 obtain⟨n,a1,a2,a3,a4⟩:=h.ext;refine⟨h.len,fun j=>?_,?_⟩
 ·by_cases e:j=k
  ·subst e;exact⟨n,a1,a2,fun t ht=>⟨hS t (a3 t ht).1,(a3 t ht).2⟩⟩
  ·refine⟨[],?_,Aii,by simp⟩;have:=h.oth j e;unfold Ay;simp only[Ai4];rw[this];simp
 ·have:=O5 M M' k n.length h.len h.oth (fun _=>by rw[a1];simp) (fun hh=>Ajm);omega
end Go.Proofs.YtmoeoppbmhfbpabGreatDoorL
