import Derived.Test.YtmoeoppbmhfbpaaGreatDoorHEngW
set_option maxHeartbeats 32000000
set_option maxRecDepth 100000
set_option linter.all false
namespace Go.Proofs.YtmoeoppbmhfbpaaGreatDoorH
open Go.Abs
structure Gro (k:Nat)(S:Bj->Prop)(M M':MM)(d d':Int):Prop where
 len:M'.length=M.length
 oth:∀j,j≠k->(M'[j]?).map (·.2)=(M[j]?).map (·.2)
 ext:∃new:List Bj,Au M' k=Au M k++new/\new.Nodup/\(∀t∈new,S t/\t∉Au M k)/\d'=d+new.length
theorem Gro.refl (k:Nat)(S:Bj->Prop)(M:MM)(d:Int):Gro k S M M d d:=⟨rfl,fun _ _=>rfl,[],by simp,Ac3,by simp,by simp⟩
theorem Gro.trans {k:Nat}{S:Bj->Prop}{M M1 M2:MM}{d d1 d2:Int}(h:Gro k S M M1 d d1)(g:Gro k S M1 M2 d1 d2):Gro k S M M2 d d2:=by
 obtain⟨n1,a1,a2,a3,a4⟩:=h.ext;obtain⟨n2,b1,b2,b3,b4⟩:=g.ext;refine⟨g.len.trans h.len,fun j hj=>(g.oth j hj).trans (h.oth j hj),n1++n2,by rw[b1,a1,Abl],?_,?_,?_⟩
 ·rw[Adf];exact⟨a2,b2,fun x hx y hy e=>(b3 y hy).2 (by rw[a1,<-e];exact Ab2.2 (.inr hx))⟩
 ·intro t ht;rcases Ab2.1 ht with ht|ht
  ·exact a3 t ht
  ·exact⟨(b3 t ht).1,fun hm=>(b3 t ht).2 (by rw[a1];exact Ab2.2 (.inl hm))⟩
 ·rw[b4,a4];simp;omega
theorem Gro.mono {k:Nat}{S S':Bj->Prop}{M M':MM}{d d':Int}(h:Gro k S M M' d d')(hs:∀t,S t->S' t):Gro k S' M M' d d':=by
 obtain⟨n,a1,a2,a3,a4⟩:=h.ext;exact⟨h.len,h.oth,n,a1,a2,fun t ht=>⟨hs t (a3 t ht).1,(a3 t ht).2⟩,a4⟩
theorem Gro.sub {k:Nat}{S:Bj->Prop}{M M':MM}{d d':Int}(h:Gro k S M M' d d'){t:Bj}(ht:t∈Au M k):t∈Au M' k:=by
 obtain⟨n,a1,-,-,-⟩:=h.ext;rw[a1];exact Ab2.2 (.inl ht)
theorem Gro.le {k:Nat}{S:Bj->Prop}{M M':MM}{d d':Int}(h:Gro k S M M' d d'):d<=d':=by
 obtain⟨n,-,-,-,a4⟩:=h.ext;omega
def Room (M:MM)(d b:Int):Prop:=∀x∈M,(x.2.length:Int)+(b-d)<=4000
theorem Gro.room {k:Nat}{S:Bj->Prop}{M M':MM}{d d' b:Int}(h:Gro k S M M' d d')(hr:Room M d b):Room M' d' b:=by
 intro x hx;obtain⟨j,hj⟩:=Acp hx;obtain⟨n,a1,-,-,a4⟩:=h.ext;have aa:j<M.length:=by rw[<-h.len];exact (Aau.1 hj).1
 have hy:=Aav aa;have hb:=hr _ (Ab1 aa);by_cases e:j=k
 ·subst e;unfold Au at a1;simp only[Adi,hj,hy,Ab3,Option.getD_some]at a1;rw[a1];simp only[Abj];omega
 ·have:=h.oth j e;rw[hj,hy]at this;simp at this;rw[this];have:=h.le;omega
theorem B9 {M:MM}{k:Nat}{x:Nat×List Bj}(h:M[k]?=some x):Au M (k:Int)=x.2:=by simp[Au,h]
theorem vZ {M:MM}{k id:Nat}{x:Nat×List Bj}{t:Bj}{S:Bj->Prop}{d:Int}(hx:M[k]?=some x)(ht:t∉x.2)(hS:S t):Gro k S M (M.set k (id,x.2++[t])) d (d+1):=by
 have hk:=(Aau.1 hx).1;refine⟨by simp,fun j hj=>by rw[Adn (fun e=>hj e.symm)],[t],?_,by simp,?_,by simp⟩
 ·rw[B9 hx,B9 (x:=(id,x.2++[t])) (by simp[hk])]
 ·intro u hu;simp at hu;subst hu;rw[B9 hx];exact⟨hS,ht⟩
theorem MOb.setd {z:St}{om ot:Nat}{M:MM}{d d' b:Int}(h:MOb z om ot M d b):MOb (z.put om [fx ot 0 M.length,ic d',ic b]) om ot M d' b where
 ob:=Ak
 oc:=by rw[show (z.put om [fx ot 0 M.length,ic d',ic b]).obj ot=z.obj ot from by simp[St.put];intro e;exact absurd e.symm h.ne];exact h.oc
 lo:=h.lo
 lt:=h.lt
 ne:=h.ne
 live:=h.live
 inj:=h.inj
 t3:=h.t3
 ln:=h.ln
 pl:=h.pl
theorem KM.setd {om ot:Nat}{M M':MM}{z z':St}(h:KM om ot M M' z z')(c:List AV):KM om ot M M' z (z'.put om c):=
 ⟨h.nobj,fun o ho h1 h2=>by rw[show (z'.put om c).obj o=z'.obj o from by simp[St.put,h1]];exact h.obj o ho h1 h2,fun o ho h1 h2=>by rw[show (z'.put om c).ver o=z'.ver o from by simp[St.put,h1]];exact h.ver o ho h1 h2,h.ntop,h.top,h.mid⟩
def Ul (neg:Int->Bj->Prop)(q:Qry)(t:Bj):Prop:=∃ν,Kf neg q ν/\t=Bp q.head ν
def tP (neg:Int->Bj->Prop)(om ot:Nat)(b:Int)(V:List Int):Prop:=∀(q:Qry) (c:List AV) (k:Nat) (M:MM) (d:Int),EQ q c->Py q->NegOk neg M q->(∀a∈q.nots,a.p≠(k:Int))->QV q->q.head.p=(k:Int)->k<M.length->Room M d b-> -1000000<=d->d<=1000000-> -1000000<=b->b<=900000->(∀v,inQ q v->v∈V)->
 ∀z,MOb z om ot M d b->ACalls Tryz.prog 131 [ptr om 0,ag c] z fun r z'=>∃M' d',MOb z' om ot M' d' b/\KM om ot M M' z z'/\Gro k (Ul neg q) M M' d d'/\d'<=1000000/\(¬b<d'->∀t,Ul neg q t->t∈Au M' k)
theorem NegOk.gro {neg:Int->Bj->Prop}{M M':MM}{q:Qry}{k:Nat}{S:Bj->Prop}{d d':Int}(h:NegOk neg M q)(aa:∀a∈q.nots,a.p≠(k:Int))(g:Gro k S M M' d d'):NegOk neg M' q:=fun a ha=>by
 obtain⟨j,x,h1,h2,h3⟩:=h a ha;have hj:j≠k:=fun e=>aa a ha (by rw[h1,e]);have:=g.oth j hj;rw[h2]at this;cases hy:M'[j]? with
 |none=>rw[hy]at this;simp at this
 |some y=>
  rw[hy]at this;simp at this;exact⟨j,y,h1,hy,fun t=>by rw[this];exact h3 t⟩
theorem Og (neg:Int->Bj->Prop)(om ot:Nat)(b:Int)(V:List Int)(IH:∀V':List Int,V'.length<V.length->tP neg om ot b V'):tP neg om ot b V:=by
 intro q c k M d hc hA da ey hV hk c6 a7 fk ci eo en cf z hM;have a8:=fun z (h:MOb z om ot M d b)=>Mw om ot M d b z h;have cg:=hA.ok.hd;have eh:q.head.ts.length<=1000:=Ad2;have be:=fun (id:Nat) z=>It q.head.p id q.head.ts eh z;have bj:M[k]?=some M[k]:=Aav c6;generalize M[k]=x at bj;have b7:=fun (id:Nat) z (h:MOb z om ot M d b)=>Jy om ot M d b q.head id k x cg hk bj z h;have bf:=fun z (h:MOb z om ot M d b)=>W7 neg q c om ot M d b hc hA da z h;have hT:Au M (k:Int)=x.2:=B9 bj;obtain⟨ih,ip,inn,pc,nc,rfl,-,-⟩:=hc;have cm:∀cs,MOb (z.new cs) om ot M d b:=fun cs=>hM.keep ((Keep.refl z).new cs);by_cases ce:b<d
 ·rw[show decide (b<d)=true from by simpa using ce]at a8;rw[hk];clear b7 be bf;refine Z9 86 [] Tryz.func131 ?_
  repeat' (first|refine Z1 ?_|(refine Z8 ?_;intro ya J)|(refine Z4 ?_;clear J ya)|(refine Z2 ?_ ?_<;>intro h aa<;>try exact Xp)|(refine Z5 ?_;refine Xi (a8 _ (hM.keep (Xs))) ?_;rintro _ _ ⟨rfl,rfl⟩)|refine Z3 ?_|exact Zt|(apply J.out;clear J ya))
  first|exact⟨_,rfl,M,d,cm _,KM.ofKeep ((Keep.refl z).new _),Gro.refl _ _ _ _,ci,fun h=>absurd ce h⟩|exact⟨M,d,cm _,KM.ofKeep ((Keep.refl z).new _),Gro.refl _ _ _ _,ci,fun h=>absurd ce h⟩
 ·have bp:decide (b<d)=false:=by simpa using ce
  rw[bp]at a8;have ac:=be ih;have ai:=b7 ih;rw[hk]at ac ai bf;rw[hk];have bn:∀z',Keep z z'->(∀t,Ul neg q t->t∈x.2)->∃M' d',MOb z' om ot M' d' b/\KM om ot M M' z z'/\Gro k (Ul neg q) M M' d d'/\d'<=1000000/\(¬b<d'->∀t,Ul neg q t->t∈Au M' k):=fun z' d3 aw=>
   ⟨M,d,hM.keep d3,KM.ofKeep d3,Gro.refl _ _ _ _,ci,fun _ t ht=>by rw[hT];exact aw t ht⟩
  have ae:Ad8 _:=bn;clear bn bp;cases hs:Gn q.head.ts with
  |true=>
   rw[hs]at ac;have ap:=fun ν=>Np hs ν;by_cases hm:Cx q.head∈x.2
   ·rw[show decide (Cx q.head∈x.2)=true from by simpa using hm]at ai;have aw:∀t,Ul neg q t->t∈x.2:=fun t ⟨ν,_,e⟩=>by rw[e,ap];exact hm
    have cc:Ad8 _:=aw;clear aw ap b7 be bf;refine Z9 86 [] Tryz.func131 ?_
    repeat' (first|refine Z1 ?_|(refine Z8 ?_;intro ya J)|(refine Z4 ?_;clear J ya)|(refine Z2 ?_ ?_<;>intro h aa<;>try exact Xp)|(refine Z5 ?_;first|(refine Xi (a8 _ (hM.keep (Xs))) ?_;rintro _ _ ⟨rfl,rfl⟩)|(refine Xi (ac _) ?_;rintro _ _ ⟨rfl,am⟩;(have aj:=am.nobj;have ab:=am.obj;have bk:=((Keep.refl z).new _).trans am;simp only[Aa]at aj ab))|(refine Xi (ai _ (hM.keep (Xs))) ?_;rintro _ _ ⟨rfl,b5⟩;(have b1:=bk.trans b5)))|refine Z3 ?_|exact Zt|(apply J.out;clear J ya))
    first|exact⟨_,rfl,ae.out _ b1 cc.out⟩|exact ae.out _ b1 cc.out
   ·rw[show decide (Cx q.head∈x.2)=false from by simpa using hm]at ai;have fe:Ad8 (Cx q.head∉x.2):=hm;clear hm;have cp:∀(id:Nat) z,ACalls Tryz.prog 125 [ag [ic (k:Int),sl id q.head.ts.length (Ae q.head.ts)]] z fun r z'=>r=sc (.bool true)/\Keep z z':=fun id z=>by
     have:=be id z;rw[hk,hs]at this;exact this
    have d1:=fun (id:Nat) z (h:MOb z om ot M d b)=>Tq om ot M d b q.head id k x cg hk bj (by
     have:=a7 x (Aax bj)
     omega) z h
    rw[hk]at d1;have b6:=Qf neg om ot M d b V.length V (Aak _);clear be b7 cm;refine Z9 86 [] Tryz.func131 ?_
    repeat' (first|refine Z1 ?_|(refine Z8 ?_;intro ya J)|(refine Z4 ?_;clear J ya)|(refine Z2 ?_ ?_<;>intro h aa<;>try exact Xp)|(refine Z5 ?_;first|(refine Xi (a8 _ (hM.keep (Xs))) ?_;rintro _ _ ⟨rfl,rfl⟩)|(refine Xi (ac _) ?_;rintro _ _ ⟨rfl,am⟩;(have aj:=am.nobj;have ab:=am.obj;have bk:=((Keep.refl z).new _).trans am;simp only[Aa]at aj ab))|(refine Xi (ai _ (hM.keep (Xs))) ?_;rintro _ _ ⟨rfl,b5⟩;(have ea:=b5.nobj;have bm:=b5.obj;have b1:=bk.trans b5;clear ac))|(refine Xi (bf _ (hM.keep (Xs))) ?_;rintro _ _ ⟨⟨c',(⟨rfl,ef,ei,br⟩|⟨q',rfl,⟨ih2,ip2,in2,pc2,nc2,rfl,cj,ck⟩,a4,db,hR2,au⟩)⟩,ah⟩))|refine Z3 ?_|exact Zt|(apply J.out;clear J ya))
    ·have bc:=ah.nobj;have o4:=ah.obj z.nobj Ad2;rw[bm _ Ad2,ab _ Ad2,Am]at o4;have ay:=b1.trans ah;have ca:Ad8 (∀ν,¬Kf neg q ν):=br;clear br
     repeat' (first|refine Z1 ?_|(refine Z8 ?_;intro ya J)|(refine Z4 ?_;clear J ya)|(refine Z2 ?_ ?_<;>intro h aa<;>try exact Xp)|refine Z3 ?_|exact Zt|(apply J.out;clear J ya))
     first|exact⟨_,rfl,ae.out _ (ay.put Ad2 _) (fun t ⟨ν,h,_⟩=>absurd h (ca.out ν))⟩|exact ae.out _ (ay.put Ad2 _) (fun t ⟨ν,h,_⟩=>absurd h (ca.out ν))
    ·have bc:=ah.nobj;have o4:=ah.obj z.nobj Ad2;rw[bm _ Ad2,ab _ Ad2,Am]at o4;have ay:=b1.trans ah;have he:q'.head=q.head:=hR2.hd;have ax:NegOk neg M q':=da.sub fun a ha=>⟨a,(au a ha).1,rfl⟩;have ak:fE ⟨⟨0,[]⟩,q'.parts,q'.nots⟩:=fun v hv=>a4.wf v (.inr (hv.resolve_left (by simp[Bb])))
     have cq:=fun z (h:MOb z om ot M d b)=>b6 ⟨⟨0,[]⟩,q'.parts,q'.nots⟩ [ic 0,nilS,sl ip2 q'.parts.length pc2,sl in2 q'.nots.length nc2] ⟨1,ip2,in2,pc2,nc2,rfl,cj,ck⟩ (Kq a4 (by simp) (Ado _) (Ado _) ak) (ax.sub fun a ha=>⟨a,ha,rfl⟩)
      (fun a ha v hv=>by
       have:a∈atomsQ q'\/a=⟨0,[]⟩:=by
        unfold atomsQ at ha⊢;simp only[Acd,Ab2,Acf]at ha⊢;rcases ha with h|h|h
        ·exact .inr h
        ·exact .inl (.inr (.inl h))
        ·exact .inl (.inr (.inr h))
       rcases this with h|rfl
       ·exact hV a (hR2.at_ a h) v hv
       ·cases hv) rfl (fun v hv=>by
       obtain⟨p,hp,bo⟩:=Tf (q:=⟨⟨0,[]⟩,q'.parts,q'.nots⟩) ak hv
       exact cf v (inQ.sub hR2.at_ ⟨p.a,Js hp,bo⟩)) z h
     have eu:∀ν,Kf neg (⟨⟨0,[]⟩,q'.parts,q'.nots⟩:Qry) ν↔Kf neg q' ν:=fun ν=>Iff.rfl;have HE:Ad8 (q'.head=q.head):=he;simp only[he,hk];clear he b6 bf ai a8
     repeat' (first|refine Z1 ?_|(refine Z8 ?_;intro ya J)|(refine Z4 ?_;clear J ya)|(refine Z2 ?_ ?_<;>intro h aa<;>try exact Xp)|(refine Z5 ?_;first|(refine Xi (cq _ (hM.keep (Xs))) ?_;rintro _ _ ⟨⟨bb,rfl,bv⟩,bi⟩;(have cb:Ad8 _:=bv;clear bv;have ba:=bi.nobj;have a9:=bi.obj;simp only[Ac]at ba a9;have b2:=(ay.put Ad2 _).trans bi))|(refine Xi (cp _ _) ?_;rintro _ _ ⟨rfl,bh⟩;(have cv:=bh.nobj;have ct:=bh.obj;have de:=b2.trans bh))|(refine Xi (d1 _ _ (hM.keep (Xs))) ?_;rintro _ _ ⟨id',dd,b4⟩;(generalize b0:M.set k (id',x.2++[Cx q.head])=M7 at dd b4;have d7:Ad8 _:=b0;clear b0;have fg:=dd.ob;have dh:=KM.trans (KM.ofKeep de) b4)))|refine Z3 ?_|exact Zt|(apply J.out;clear J ya))
     ·exact⟨_,rfl,ae.out _ b2 (fun t ⟨ν,hν,_⟩=>absurd (cb.out.2 ⟨ν,hR2.to ν hν⟩) (by rw[h];simp))⟩
     ·have c7:bb=true:=by assumption
      obtain⟨ν,hν⟩:=cb.out.1 c7;obtain⟨ν',hν',-⟩:=hR2.back ν hν;have e6:Ul neg q (Cx q.head):=⟨ν',hν',(ap ν').symm⟩;have e7:Gro k (Ul neg q) M M7 d (d+1):=by rw[<-d7.out];exact vZ bj fe.out e6
      have et:Cx q.head∈Au M7 k:=by
       rw[<-d7.out,B9 (x:=(id',x.2++[Cx q.head])) (by simp[c6])];simp
      exact⟨_,rfl,M7,d+1,dd.setd,dh.setd _,e7,Ad2,fun _ t ⟨μ,_,e⟩=>by rw[e,ap];exact et⟩
  |false=>
   rw[hs]at ac;have cp:∀(id:Nat) z,ACalls Tryz.prog 125 [ag [ic (k:Int),sl id q.head.ts.length (Ae q.head.ts)]] z fun r z'=>r=sc (.bool false)/\Keep z z':=fun id z=>by
    have:=be id z;rw[hk,hs]at this;exact this
   have b6:=Qf neg om ot M d b V.length V (Aak _);obtain⟨v0,vt,cd⟩:∃v0 vt,Cg [q.head]=v0::vt:=by
    cases hv:Cg [q.head]with
    |nil=>
     exfalso;have:Gn q.head.ts=true:=by
      unfold Gn;rw[Aaw];rintro⟨t1,t2⟩ ht;cases t1 with
      |false=>rfl
      |true=>
       have:t2∈Cg [q.head]:=(Dk _ _).2 ⟨q.head,by simp,ht⟩;rw[hv]at this;cases this
     rw[this]at hs;cases hs
    |cons v0 vt=>exact⟨v0,vt,rfl⟩
   have af:=fun (idh i:Nat) (z:St)=>Hv [q.head] [ic q.head.p,sl idh q.head.ts.length (Ae q.head.ts)] i (EL.single ⟨idh,rfl⟩) (by simp;exact cg) (by simp) z;have dr:=F3 (l:=[q.head]) (by simp;exact cg);have dq:∀v,Bb q.head.ts v=true->v∈v0::vt:=fun v hv=>by rw[<-cd];exact (Dk _ _).2 ⟨q.head,by simp,hasV_iff.1 hv⟩
   have dt:Bb q.head.ts v0=true:=by
    have:v0∈Cg [q.head]:=by rw[cd];simp
    obtain⟨a,ha,h⟩:=(Dk _ _).1 this;simp at ha;subst ha;exact hasV_iff.2 h
   rw[cd]at af dr;simp only[Abv,Abu,Aj,Abg,Abi,hk]at af;simp only[Abv,Abu,Abi]at dr;have cx:(v0::vt).length<=200:=by simp;omega
   clear be b7 cm cd;refine Z9 86 [] Tryz.func131 ?_
   repeat' (first|refine Z1 ?_|(refine Z8 ?_;intro ya J)|(refine Z4 ?_;clear J ya)|(refine Z2 ?_ ?_<;>intro h aa<;>try exact Xp)|(refine Z5 ?_;first|(refine Xi (a8 _ (hM.keep (Xs))) ?_;rintro _ _ ⟨rfl,rfl⟩)|(refine Xi (ac _) ?_;rintro _ _ ⟨rfl,am⟩;(have aj:=am.nobj;have ab:=am.obj;have bk:=((Keep.refl z).new _).trans am;simp only[Aa]at aj ab;clear ac))|(refine Xi (bf _ (hM.keep (Xs))) ?_;rintro _ _ ⟨⟨c',(⟨rfl,ef,ei,br⟩|⟨q',rfl,⟨ih2,ip2,in2,pc2,nc2,rfl,cj,ck⟩,a4,db,hR2,au⟩)⟩,ah⟩))|refine Z3 ?_|exact Zt|(apply J.out;clear J ya))
   ·have bc:=ah.nobj;have o4:=ah.obj z.nobj Ad2;rw[ab _ Ad2,Am]at o4;have ay:=bk.trans ah;have ca:Ad8 (∀ν,¬Kf neg q ν):=br;clear br
    repeat' (first|refine Z1 ?_|(refine Z8 ?_;intro ya J)|(refine Z4 ?_;clear J ya)|(refine Z2 ?_ ?_<;>intro h aa<;>try exact Xp)|refine Z3 ?_|exact Zt|(apply J.out;clear J ya))
    first|exact⟨_,rfl,ae.out _ (ay.put Ad2 _) (fun t ⟨ν,h,_⟩=>absurd h (ca.out ν))⟩|exact ae.out _ (ay.put Ad2 _) (fun t ⟨ν,h,_⟩=>absurd h (ca.out ν))
   ·have bc:=ah.nobj;have o4:=ah.obj z.nobj Ad2;rw[ab _ Ad2,Am]at o4;have ay:=bk.trans ah;have he:q'.head=q.head:=hR2.hd;have ax:NegOk neg M q':=da.sub fun a ha=>⟨a,(au a ha).1,rfl⟩;have ak:fE ⟨⟨0,[]⟩,q'.parts,q'.nots⟩:=fun v hv=>a4.wf v (.inr (hv.resolve_left (by simp[Bb])))
    have cq:=fun z (h:MOb z om ot M d b)=>b6 ⟨⟨0,[]⟩,q'.parts,q'.nots⟩ [ic 0,nilS,sl ip2 q'.parts.length pc2,sl in2 q'.nots.length nc2] ⟨1,ip2,in2,pc2,nc2,rfl,cj,ck⟩ (Kq a4 (by simp) (Ado _) (Ado _) ak) (ax.sub fun a ha=>⟨a,ha,rfl⟩)
     (fun a ha v hv=>by
      have:a∈atomsQ q'\/a=⟨0,[]⟩:=by
       unfold atomsQ at ha⊢;simp only[Acd,Ab2,Acf]at ha⊢;rcases ha with h|h|h
       ·exact .inr h
       ·exact .inl (.inr (.inl h))
       ·exact .inl (.inr (.inr h))
      rcases this with h|rfl
      ·exact hV a (hR2.at_ a h) v hv
      ·cases hv) rfl (fun v hv=>by
      obtain⟨p,hp,bo⟩:=Tf (q:=⟨⟨0,[]⟩,q'.parts,q'.nots⟩) ak hv
      exact cf v (inQ.sub hR2.at_ ⟨p.a,Js hp,bo⟩)) z h
    have b8:EQ q' [ic (k:Int),sl ih2 q.head.ts.length (Ae q.head.ts),sl ip2 q'.parts.length pc2,sl in2 q'.nots.length nc2]:=⟨ih2,ip2,in2,pc2,nc2,by rw[he,hk],cj,ck⟩;have c8:=fun (id:Nat) z=>Qd q' _ (v0::vt) id b8 a4.ok cx z;simp only[Abv,Aj,Abg]at c8;have HE:Ad8 (q'.head=q.head):=he;simp only[he,hk];clear he b6 bf a8 b8;have ds:=af ih2;clear af
    repeat' (first|refine Z1 ?_|(refine Z8 ?_;intro ya J)|(refine Z4 ?_;clear J ya)|(refine Z2 ?_ ?_<;>intro h aa<;>try exact Xp)|(refine Z5 ?_;first|(refine Xi (cq _ (hM.keep (Xs))) ?_;rintro _ _ ⟨⟨bb,rfl,bv⟩,bi⟩;(have cb:Ad8 _:=bv;clear bv;have ba:=bi.nobj;have a9:=bi.obj;simp only[Ac]at ba a9;have b2:=(ay.put Ad2 _).trans bi))|(refine Xi (cp _ _) ?_;rintro _ _ ⟨rfl,bh⟩;(have cv:=bh.nobj;have ct:=bh.obj;have de:=b2.trans bh))|(refine Xi (ds _ _) ?_;rintro _ _ ⟨⟨idv,rfl⟩,dk⟩;(have cu:=dk.nobj;have cr:=dk.obj;simp only[Av,Gj]at cu cr;have e3:=(de.lay 1).trans dk))|(refine Xi (c8 _ _) ?_;rintro _ _ ⟨⟨_,_,rs,rfl,⟨ih3,ip3,in3,pc3,nc3,rfl,ew,ez⟩,⟨ih4,ip4,in4,pc4,nc4,rfl,fl,fm⟩,hG,hC⟩,d4⟩;(have d9:=d4.nobj;have HC:Ad8 _:=hC;have HG:Ad8 _:=hG;clear hC hG;have e4:=e3.trans d4)))|refine Z3 ?_|exact Zt|(apply J.out;clear J ya))
    ·exact⟨_,rfl,ae.out _ b2 (fun t ⟨ν,hν,_⟩=>absurd (cb.out.2 ⟨ν,hR2.to ν hν⟩) (by rw[h];simp))⟩
    ·rename_i z8;have c7:bb=true:=by assumption
     have dl:EQ (A5 q' rs) [ic (A5 q' rs).head.p,sl ih3 (A5 q' rs).head.ts.length (Ae (A5 q' rs).head.ts),sl ip3 (A5 q' rs).parts.length pc3,sl in3 (A5 q' rs).nots.length nc3]:=⟨ih3,ip3,in3,pc3,nc3,rfl,ew,ez⟩;have hrs:∀v∈v0::vt,v∈rs:=fun v hv=>by
      obtain⟨ad,e,-,-⟩:=HG.out;rw[e];exact Ab2.2 (.inl hv)
     have ao:Py (A5 q' rs):=Kq a4 a4.ok.hd Adp Adp (Zx a4.wf HC.out (fun v hv=>hrs v (dq v (by rw[<-HE.out];exact hv))));have dw:QV (A5 q' rs):=fun a ha w hw=>by
      obtain⟨a',er,eb⟩:=N8 (rs:=rs) ⟨a,ha,hasV_iff.2 hw⟩;exact hV a' (hR2.at_ a' er) w (hasV_iff.1 eb)
     have du:(A5 q' rs).head.p=(k:Int):=by show q'.head.p=_;rw[HE.out,hk]
     have bu:∀w,inQ (A5 q' rs) w->w∈V:=fun w hw=>cf w (inQ.sub hR2.at_ (N8 hw));have bd:v0∈V:=cf v0 ⟨q.head,by simp[atomsQ],dt⟩;have dx:(V.erase v0).length<V.length:=by
      rw[List.length_erase_of_mem bd];have:=List.length_pos_of_mem bd;omega
     have IHb:=IH (V.erase v0) dx;obtain⟨μ,hμ⟩:=cb.out.1 c7
     --what the near part brings,the query brings
     have bw:∀n t,Ul neg (Cu v0 n (A5 q' rs)) t->Ul neg q t:=fun n t ⟨ν,hν,e⟩=>by
      have h1:=(Qy ao.w).1 hν;have h2:=We HC.out h1 (lB (rs:=rs) hμ);obtain⟨ν',hν',eq⟩:=hR2.back _ h2;refine⟨ν',hν',?_⟩;rw[e];show Bp (E6 v0 n (A5 q' rs).head) ν=_;rw[Jo];show Bp q'.head _=_;rw[HE.out];apply Es;intro v hv;rw[eq v ⟨q'.head,by simp[atomsQ],by rw[HE.out];exact hv⟩];rw[if_pos (hrs v (dq v hv))]
     have b9:∀t,Ul neg q t->∃n∈Kb (A5 q' rs) v0,Ul neg (Cu v0 n (A5 q' rs)) t:=fun t ⟨ν,hν,e⟩=>by
      have h2:=bX (rs:=rs) (hR2.to ν hν);obtain⟨p,hp,bo⟩:=ao.wf v0 (.inl (by show Bb q'.head.ts v0=true;rw[HE.out];exact dt));have a5:Lx ν v0 (ν v0)=ν:=by
       funext w;unfold Lx;split
       ·rename_i e;rw[e]
       ·rfl
      refine⟨ν v0,jV ao.w h2 ⟨p,hp,bo⟩,ν,(Qy ao.w).2 (by rw[a5];exact h2),?_⟩;rw[e];show _=Bp (E6 v0 (ν v0) (A5 q' rs).head) ν;rw[Jo,a5];show _=Bp q'.head ν;rw[HE.out]
     have dm:Ad8 _:=bw;have dp:Ad8 _:=b9;have dv:=fun z=>Jx (A5 q' rs) _ v0 dl ao.ok ao.n z;have ec:=Q9 ao.n v0;have ev:=fun n z=>Tn (A5 q' rs) _ v0 n dl ao.ok z;generalize bq:Kb (A5 q' rs) v0=ns at dv ec;have fc:Ad8 _:=bq;have fi:=Bm ns;have bz:∀{n:Int},∀a∈(Cu v0 n (A5 q' rs)).nots,a.p≠(k:Int):=fun {n} a ha=>by
      obtain⟨a0,h0,rfl⟩:=Acf.1 ha;exact ey a0 (au a0 (Ac7.1 h0).1).1
     have e5:Ad8 (∀(n:Int) (c5:List AV) (Mj:MM) (dj:Int),EQ (Cu v0 n (A5 q' rs)) c5->Gro k (Ul neg q) M Mj d dj->dj<=1000000->∀z,MOb z om ot Mj dj b->ACalls Tryz.prog 131 [ptr om 0,ag c5] z fun r z'=>∃M' d',MOb z' om ot M' d' b/\KM om ot Mj M' z z'/\Gro k (Ul neg (Cu v0 n (A5 q' rs))) Mj M' dj d'/\d'<=1000000/\(¬b<d'->∀t,Ul neg (Cu v0 n (A5 q' rs)) t->t∈Au M' k)):=fun n c5 Mj dj bl an ch z cn=>
      IHb (Cu v0 n (A5 q' rs)) c5 k Mj dj bl (cQ ao) (((ax.near rs).put v0 n).gro bz an) bz (fun a ha w hw=>by
       obtain⟨⟨b',ep,em⟩,-⟩:=Q1 (q:=A5 q' rs) (v:=v0) (n:=n) (w:=w) ⟨a,ha,hasV_iff.2 hw⟩;exact dw b' ep w (hasV_iff.1 em)) du (by rw[an.len];exact c6) (an.room a7) (by have:=an.le;omega) ch eo en (fun w hw=>by
       obtain⟨h1,h2⟩:=Q1 hw
       exact (Ac2 h2).2 (bu w h1)) z cn
     clear bq bw b9 IHb IH dx bd bu cq cp ds c8 ao dw dl du;have d0:Keep z ((((z8.new [ic 0,nilS,nilS,nilS]).new [ic 0,nilS,nilS,nilS]).put z8.nobj [ic (A5 q' rs).head.p,sl ih3 (A5 q' rs).head.ts.length (Ae (A5 q' rs).head.ts),sl ip3 (A5 q' rs).parts.length pc3,sl in3 (A5 q' rs).nots.length nc3]).put (z8.nobj+1) [ic (G4 q' rs).head.p,sl ih4 (G4 q' rs).head.ts.length (Ae (G4 q' rs).head.ts),sl ip4 (G4 q' rs).parts.length pc4,sl in4 (G4 q' rs).nots.length nc4]):=(((e4.new _).new _).put Ad2 _).put Ad2 _;generalize cw:((((z8.new [ic 0,nilS,nilS,nilS]).new [ic 0,nilS,nilS,nilS]).put z8.nobj [ic (A5 q' rs).head.p,sl ih3 (A5 q' rs).head.ts.length (Ae (A5 q' rs).head.ts),sl ip3 (A5 q' rs).parts.length pc3,sl in3 (A5 q' rs).nots.length nc3]).put (z8.nobj+1) [ic (G4 q' rs).head.p,sl ih4 (G4 q' rs).head.ts.length (Ae (G4 q' rs).head.ts),sl ip4 (G4 q' rs).parts.length pc4,sl in4 (G4 q' rs).nots.length nc4])=z9 at*
     have n9:z9.nobj=z8.nobj+2:=by rw[<-cw];rfl
     have o9:z9.obj z8.nobj=[ic (A5 q' rs).head.p,sl ih3 (A5 q' rs).head.ts.length (Ae (A5 q' rs).head.ts),sl ip3 (A5 q' rs).parts.length pc3,sl in3 (A5 q' rs).nots.length nc3]:=by rw[<-cw,Al Ad2,Ak]
     clear cw;refine A6 (Q:=fun e s' z''=>e= .normal/\s' 0=ptr om 0/\s' 5=sl idv (vt.length+1) (ic v0::List.map ic vt)/\s' 6=ptr z8.nobj 0/\(∃idn,s' 70=sl idn ns.length (Aj ns))/\s' 71=ic ns.length/\s' 72=ic 0/\Keep z9 z'') ?_ ?_
     ·refine As Ad (fun _=>True) [] [0,1,2,3,6] 2 #[true,true,true,true,false,false,true] Ad5 (fun _ _ _ h=>by cases h.1) ?_;intro ya J;refine Z3 ?_;refine J.out _ ?_;clear J ya;refine Ah (i:=4) Ad5 ?_;refine Ao ?_;intro ya J;refine Z3 ?_;refine ACalls.mono (dv _) ?_;rintro _ za ⟨⟨idn,rfl⟩,a3⟩;refine Z3 ?_;refine J.out _ _ ⟨Ap a3,?_⟩;clear J ya;refine Bs [5] Ad5 Ad5 (fun _ _ _ h=>by cases h.1) a3.nobj (fun o ho _=>a3.ver o ho) ?_;intro ya J;refine Z3 ?_;refine J.out _ _ ⟨rfl,?_⟩;refine⟨by simp[upd,initS],Ad4,Ad4,⟨idn,Ad4⟩,Ad3,Ad4,a3⟩
     ·rintro e s z9' ⟨rfl,g0,g5,g6,⟨idn,g70⟩,g71,g72,a3⟩;have kna:=a3.nobj;have df:=d0.trans a3;have oa:z9'.obj z8.nobj=[ic (A5 q' rs).head.p,sl ih3 (A5 q' rs).head.ts.length (Ae (A5 q' rs).head.ts),sl ip3 (A5 q' rs).parts.length pc3,sl in3 (A5 q' rs).nots.length nc3]:=by rw[a3.obj _ Ad2,o9]
      have dz:MOb z9' om ot M d b:=hM.keep df;have fa:om≠z8.nobj:=by have:=hM.lo;omega
      have e9:ot≠z8.nobj:=by have:=hM.lt;omega
      repeat' (first|refine Z1 ?_|(refine Z8 ?_;intro ya J)|(refine Z4 ?_;clear J ya)|(refine Z2 ?_ ?_<;>intro h aa<;>try exact Xp)|refine Z3 ?_|exact Zt|(apply J.out;clear J ya))
      refine Ab (fun m s z'=>∃(j:Nat) (Mj:MM) (dj:Int),m=ns.length-j/\j<=ns.length/\s 0=ptr om 0/\s 5=sl idv (vt.length+1) (ic v0::List.map ic vt)/\s 6=ptr z8.nobj 0/\s 70=sl idn ns.length (Aj ns)/\s 71=ic ns.length/\s 72=ic j/\MOb z' om ot Mj dj b/\KM om ot M Mj z z'/\z8.nobj<z'.nobj/\z'.obj z8.nobj=[ic (A5 q' rs).head.p,sl ih3 (A5 q' rs).head.ts.length (Ae (A5 q' rs).head.ts),sl ip3 (A5 q' rs).parts.length pc3,sl in3 (A5 q' rs).nots.length nc3]/\dj<=1000000/\Ad8 (Gro k (Ul neg q) M Mj d dj/\(¬b<dj->∀n∈ns.take j,∀t,Ul neg (Cu v0 n (A5 q' rs)) t->t∈Au Mj k))) ns.length
       ⟨0,M,d,Ad2,Ad2,g0,g5,g6,g70,g71,g72,dz,KM.ofKeep df,Ad2,oa,ci,Gro.refl _ _ _ _,fun _ n hn=>by simp at hn⟩ ?_
      clear g0 g5 g6 g70 g71 g72 dz df oa kna a3 o9 d0;rintro m s z' ⟨j,Mj,dj,rfl,hj,g0,g5,g6,g70,g71,g72,cn,b3,cy,ob',ch,an⟩;by_cases ee:j<ns.length
      ·have av:=Aav ee;obtain⟨r,ej⟩:=Db av;generalize ns[j]=n at ej av;have fb:Ad8 (ns.take (j+1)=ns.take j++[n]):=by rw[Ad8,Aa8,av,Ab9]
       clear av;have dy:=ev n;have d6:Ad8 (∀c5,EQ (Cu v0 n (A5 q' rs)) c5->∀z,MOb z om ot Mj dj b->ACalls Tryz.prog 131 [ptr om 0,ag c5] z fun r z'=>∃M' d',MOb z' om ot M' d' b/\KM om ot Mj M' z z'/\Gro k (Ul neg (Cu v0 n (A5 q' rs))) Mj M' dj d'/\d'<=1000000/\(¬b<d'->∀t,Ul neg (Cu v0 n (A5 q' rs)) t->t∈Au M' k)):=fun c5 bl=>e5.out n c5 Mj dj bl an.out.1 ch
       repeat' (first|refine Z1 ?_|(refine Z8 ?_;intro ya J)|(refine Z4 ?_;clear J ya)|(refine Z2 ?_ ?_<;>intro h aa<;>try exact Xp)|refine Z3 ?_|exact Zt|(apply J.out;clear J ya))
       refine A6 (Q:=fun e s' z''=>e= .normal/\s' 0=ptr om 0/\s' 5=sl idv (vt.length+1) (ic v0::List.map ic vt)/\s' 6=ptr z8.nobj 0/\s' 70=sl idn ns.length (Aj ns)/\s' 71=ic ns.length/\s' 72=ic j/\∃o c5,s' 10=ptr o 0/\o<z''.nobj/\z''.obj o=c5/\EQ (Cu v0 n (A5 q' rs)) c5/\Keep z' z'') ?_ ?_
       ·refine As Ad (fun _=>True) [7] [0,1,2,3,4] 3 #[true,true,true,true,true,false,false,false] Ad5 (fun _ _ _ h=>by cases h.1) ?_;intro ya J;refine Z3 ?_;refine J.out _ ?_;clear J ya;refine Nf (rs:=[5,6]) Ad5 (by simp) ?_;intro i hi;simp only[Acd,Acu,Ad1]at hi;rcases hi with rfl|rfl
        ·refine Ao ?_;intro ya J;refine Z3 ?_;refine ACalls.mono (dy _) ?_;rintro _ zb ⟨⟨_,rfl,ih5,ip5,in5,pc5,nc5,rfl,c9,dc⟩,az⟩;have knb:=az.nobj;refine Z3 ?_;refine J.out _ _ ⟨Ap az,?_⟩;clear J ya;refine Ah (i:=6) Ad5 ?_;refine Ao ?_;intro ya J;refine Z3 ?_;refine J.out _ _ ⟨Ap (az.new _),?_⟩;clear J ya;refine Ah (i:=7) Ad5 ?_;refine Ao ?_;intro ya J;refine Z3 ?_;refine J.out _ _ ⟨Bz rfl,?_⟩;clear J ya;refine B7 Ad5 ⟨rfl,Ad3,Ad3,Ad3,Ad3,Ad3,Ad3,zb.nobj,_,Ad4,Ad7,Ak,⟨ih5,ip5,in5,pc5,nc5,rfl,c9,dc⟩,(az.new _).put knb _⟩
        ·refine Ao ?_;intro ya J;refine Z3 ?_;refine J.out _ _ ⟨Ap ((Keep.refl _).new _),?_⟩;clear J ya;refine Ah (i:=5) Ad5 ?_;refine Ao ?_;intro ya J;refine Z3 ?_;refine ACalls.mono (dy _) ?_;rintro _ zb ⟨⟨_,rfl,ih5,ip5,in5,pc5,nc5,rfl,c9,dc⟩,az⟩;have knb:=az.nobj;simp only[Aa]at knb;have obb:=az.obj z'.nobj Ad6;rw[Am]at obb;refine Z3 ?_;refine J.out _ _ ⟨Ap (((Keep.refl _).new _).trans az),?_⟩;clear J ya;refine Ah (i:=7) Ad5 ?_;refine Ao ?_;intro ya J;refine Z3 ?_;refine J.out _ _ ⟨Bz rfl,?_⟩;clear J ya;refine B7 Ad5 ⟨rfl,Ad3,Ad3,Ad3,Ad3,Ad3,Ad3,z'.nobj,_,Ad4,by simp only[Ac];omega,Ak,⟨ih5,ip5,in5,pc5,nc5,rfl,c9,dc⟩,(((Keep.refl _).new _).trans az).put (Aak _) _⟩
       ·rintro e s2 zc ⟨rfl,f0,f5,f6,f70,f71,f72,oo,c5,f10,fh,oc5,bl,co⟩;have knc:=co.nobj;have e8:=fun z=>d6.out c5 bl z;obtain⟨ih5,ip5,in5,pc5,nc5,rfl,-,-⟩:=bl;have ed:zc.obj z8.nobj=[ic (A5 q' rs).head.p,sl ih3 (A5 q' rs).head.ts.length (Ae (A5 q' rs).head.ts),sl ip3 (A5 q' rs).parts.length pc3,sl in3 (A5 q' rs).nots.length nc3]:=by rw[co.obj _ cy,ob']
        clear d6
        repeat' (first|refine Z1 ?_|(refine Z8 ?_;intro ya J)|(refine Z4 ?_;clear J ya)|(refine Z2 ?_ ?_<;>intro h aa<;>try exact Xp)|(refine Z5 ?_;refine Xi (e8 _ (cn.keep co)) ?_;rintro _ _ ⟨M2,d2,e0,bg,d5,ek,a6⟩;(have dn:Ad8 _:=d5;have ff:Ad8 _:=a6;clear d5 a6;have di:=(b3.trans (KM.ofKeep co)).trans bg;have d8:=bg.obj z8.nobj Ad2 fa.symm e9.symm;have kn2:=bg.nobj))|refine Z3 ?_|exact Zt|(apply J.out;clear J ya))
        have HN:Ad8 (Gro k (Ul neg q) M M2 d d2/\(¬b<d2->∀n∈ns.take (j+1),∀t,Ul neg (Cu v0 n (A5 q' rs)) t->t∈Au M2 k)):=by
         refine⟨an.out.1.trans (dn.out.mono (dm.out n)),fun cz u hu t ht=>?_⟩;rw[fb.out]at hu;rcases Ab2.1 hu with hu|hu
         ·have fj:=dn.out.le;exact dn.out.sub (an.out.2 Ad2 u hu t ht)
         ·simp at hu;subst hu;exact ff.out cz t ht
        refine⟨ns.length-(j+1),Ad2,j+1,M2,d2,?_⟩
        ((repeat' refine Zi ?_ ?_)<;>first|exact Xq|exact e0|exact di|exact HN|exact (by rw[d8,ed])|exact Xs)
      ·have eg:j=ns.length:=Ad2;subst eg
       repeat' (first|refine Z1 ?_|(refine Z8 ?_;intro ya J)|(refine Z4 ?_;clear J ya)|(refine Z2 ?_ ?_<;>intro h aa<;>try exact Xp)|refine Z3 ?_|exact Zt|(apply J.out;clear J ya))
       refine⟨_,rfl,Mj,dj,cn,b3,an.out.1,ch,fun cz t ht=>?_⟩;obtain⟨n,hn,h1⟩:=dp.out t ht;rw[fc.out]at hn;exact an.out.2 cz n (by rw[Aa3];exact hn) t h1
theorem Y3 (neg:Int->Bj->Prop)(om ot:Nat)(b:Int):∀(n:Nat) (V:List Int),V.length<=n->tP neg om ot b V:=by
 intro n;induction n with
 |zero=>exact fun V hV=>Og neg om ot b V (fun V' h=>Ad2)
 |succ n IH=>exact fun V hV=>Og neg om ot b V (fun V' h=>IH V' Ad2)
def Sh (ar:Nat->Nat)(k:Nat)(t:Bj):Prop:=∃l:List Int,t=C8 l/\l.length=ar k/\∀x∈l,∃n:Nat,x=(n:Int)/\n<1026
structure RW (np:Nat)(ar:Nat->Nat)(r:J7):Prop where
 rok:ROk np r
 nne:∀l∈r.body,l.neg=true->l.a.p≠r.head.p
 har:r.head.ts.length=ar r.head.p.toNat
 bar:∀l∈r.body,l.a.ts.length=ar l.a.p.toNat
 hc:∀t∈r.head.ts,t.1=false->∃n:Nat,t.2=(n:Int)/\n<1026
 hv:∀v,(true,v)∈r.head.ts->0<=v/\v<26
 bv:∀l∈r.body,∀v,(true,v)∈l.a.ts->0<=v/\v<26
 safe:∀v,(Bb r.head.ts v=true\/∃l∈r.body,l.neg=true/\Bb l.a.ts v=true)->∃l∈r.body,l.neg=false/\Bb l.a.ts v=true
theorem wB {a:Ee}(h3:a.ts.length<=3)(ν:Nu):Kd a.ts (Bp a ν)=true:=by
 unfold Kd;rw[Aaw];intro i hi;have hi:i<a.ts.length:=by simpa using hi
 have hg:(Bp a ν)[i]?=some (H5 ν a.ts[i]):=by
  unfold Bp;rw[I0 (by simpa using hi) (by simpa using h3)];simp
 unfold Qq;rw[Aav hi,hg];cases ht:a.ts[i]with
 |mk b n=>
  cases b with
  |false=>simp[H5]
  |true=>
   have hm:(true,n)∈a.ts:=by rw[<-ht];exact Ab1 hi
   have:=H9 (ν:=ν) h3 (hasV_iff.2 hm);unfold G9 at this;simp only;rw[this];simp[H5]
theorem uF {a:Ee}{t:Bj}{l:List Int}(h3:a.ts.length<=3)(ht:t=C8 l)(hl:l.length=a.ts.length)(hf:Kd a.ts t=true):∃μ,t=Bp a μ:=by
 refine⟨fun v=>G9 t (Hw a.ts v),?_⟩;have:a.ts.map (H5 fun v=>G9 t (Hw a.ts v))=l:=by
  apply List.ext_getElem (by simp[hl]);intro i h1 h2;have hi:i<a.ts.length:=by simpa using h1
  unfold Kd at hf;rw[Aaw]at hf;have h:=hf i (by simpa using hi);have hg:t[i]?=some l[i]:=by rw[ht,I0 h2 Ad2]
  unfold Qq at h;rw[Aav hi,hg]at h;rw[List.getElem_map];cases he:a.ts[i]with
  |mk b n=>
   rw[he]at h;cases b with
   |false=>
    simp only[Adx]at h;simp[H5,h]
   |true=>
    simp only[Adx]at h;rw[h];simp[H5,G9]
 unfold Bp;rw[this,ht]
theorem eW {M:MM}{nw:Int}{fr i:Nat}{l:Lit}{t:Bj}(h:t∈Ud M nw fr i l):t∈Au M l.a.p:=by
 unfold Ud at h;split at h
 ·exact List.mem_of_mem_drop h
 ·exact h
theorem H2 {M:MM}{nw:Int}{fr:Nat}{b:List Lit}{p:Part}(h:p∈Lz M nw fr b):∃(l:Lit) (i:Nat),b[i]?=some l/\l.neg=false/\p=eX M nw fr (l,i):=by
 unfold Lz at h;obtain⟨⟨l,i⟩,hx,rfl⟩:=Acf.1 h;obtain⟨h1,h2⟩:=Ac7.1 hx;have:=List.mem_zipIdx_iff_getElem?.1 h1;exact⟨l,i,by simpa using this,by simpa using h2,rfl⟩
theorem mC {M:MM}{nw:Int}{fr:Nat}{b:List Lit}{l:Lit}{i:Nat}(h:b[i]?=some l)(hn:l.neg=false):eX M nw fr (l,i)∈Lz M nw fr b:=by
 unfold Lz;refine Acf.2 ⟨(l,i),Ac7.2 ⟨List.mem_zipIdx_iff_getElem?.2 (by simpa using h),by simp[hn]⟩,rfl⟩
def yX (ar:Nat->Nat)(M:MM):Prop:=∀(k:Nat) (t:Bj),t∈Au M (k:Int)->Sh ar k t
theorem wJ {z:St}{om ot:Nat}{M:MM}{d b:Int}{ar:Nat->Nat}{r:J7}(hM:MOb z om ot M d b)(hS:yX ar M)(hr:RW M.length ar r)(nw:Int)(fr:Nat):Py (J6 M nw fr r)/\QV (J6 M nw fr r)/\∀v,inQ (J6 M nw fr r) v->v∈(List.range 26).map fun n:Nat=>(n:Int):=by
 have hk:∀l∈r.body,∃k:Nat,l.a.p=(k:Int)/\k<M.length:=hr.rok.bp;have ac:∀a∈Pt r.body,∃l∈r.body,l.neg=true/\l.a=a:=fun a ha=>by
  obtain⟨l,hl,rfl⟩:=Acf.1 ha;obtain⟨h1,h2⟩:=Ac7.1 hl;exact⟨l,h1,h2,rfl⟩
 have am:(Pt r.body).length<=r.body.length:=by
  unfold Pt;rw[Ace];exact Ac6 _ _
 have ae:∀l∈r.body,T3 (Au M l.a.p)/\(Au M l.a.p).length<=5000:=fun l hl=>by
  obtain⟨k,e,ai⟩:=hk l hl;have hg:M[k]?=some M[k]:=Aav ai;rw[e,B9 hg];have hm:=Ab1 ai;exact⟨hM.t3 _ hm,hM.ln _ hm⟩
 have ak:(Lz M nw fr r.body).length<=r.body.length:=by
  unfold Lz;rw[Ace];refine Aal (Ac6 _ _) (by simp)
 have aa:∀(l:Lit) (i:Nat),∀t∈(eX M nw fr (l,i)).tups,t∈Au M l.a.p/\Kd l.a.ts t=true:=fun l i t ht=>by
  obtain⟨h1,h2⟩:=Ac7.1 ht;exact⟨eW h1,h2⟩
 have ab:∀v,inQ (J6 M nw fr r) v->0<=v/\v<26:=fun v ⟨a,ha,hv⟩=>by
  unfold atomsQ J6 at ha;simp only[Acd,Ab2,Acf]at ha;rcases ha with rfl|⟨p,hp,rfl⟩|ha
  ·exact hr.hv v (hasV_iff.1 hv)
  ·obtain⟨l,i,h1,h2,rfl⟩:=H2 hp;exact hr.bv l (Aax h1) v (hasV_iff.1 hv)
  ·obtain⟨l,h1,h2,rfl⟩:=ac a ha;exact hr.bv l h1 v (hasV_iff.1 hv)
 refine⟨⟨⟨hr.rok.hd,Aal ak hr.rok.bl,Aal am hr.rok.bl,fun p hp=>?_,fun p hp=>?_,fun p hp=>?_,fun a ha=>?_⟩,fun p hp t ht=>?_,fun p hp=>?_,fun v hv=>?_⟩,fun a ha v hv=>(ab v ⟨a,ha,hasV_iff.2 hv⟩).1,fun v hv=>?_⟩
 ·obtain⟨l,i,h1,h2,rfl⟩:=H2 hp;exact hr.rok.ba l (Aax h1)
 ·obtain⟨l,i,h1,h2,rfl⟩:=H2 hp;have h3:=(ae l (Aax h1)).2;refine Aal (Ac6 _ _) ?_;unfold Ud;split
  ·simp;omega
  ·exact h3
 ·obtain⟨l,i,h1,h2,rfl⟩:=H2 hp;exact fun t ht=>(ae l (Aax h1)).1 t (aa l i t ht).1
 ·obtain⟨l,h1,h2,rfl⟩:=ac a ha;exact hr.rok.ba l h1
 ·obtain⟨l,i,h1,h2,rfl⟩:=H2 hp;have hl:=Aax h1;obtain⟨k,e,-⟩:=hk l hl;have h3:=(aa l i t ht).1;rw[e]at h3;obtain⟨m,rfl,ad,ah⟩:=hS k t h3;intro j hj;have af:m.length=l.a.ts.length:=by rw[ad,hr.bar l hl,e];rfl
  have aj:j<m.length:=by rw[af];exact hj
  obtain⟨n,ao,an⟩:=ah m[j] (Ab1 aj);exact⟨n,by rw[I0 aj (by rw[af];exact hr.rok.ba l hl),ao],an⟩
 ·obtain⟨l,i,h1,h2,rfl⟩:=H2 hp;have hl:=Aax h1;refine⟨hr.rok.ba l hl,fun t ht=>?_⟩;obtain⟨k,e,-⟩:=hk l hl;obtain⟨h3,h4⟩:=aa l i t ht;rw[e]at h3;obtain⟨m,ap,ad,ah⟩:=hS k t h3;exact uF (a:=l.a) (hr.rok.ba l hl) ap (by rw[ad,hr.bar l hl,e];rfl) h4
 ·obtain⟨l,hl,av,au⟩:=hr.safe v (by
   rcases hv with h|⟨a,ha,h⟩
   ·exact .inl h
   ·obtain⟨l,h1,h2,rfl⟩:=ac a ha
    exact .inr ⟨l,h1,h2,h⟩)
  obtain⟨i,hi⟩:=Acp hl;exact⟨eX M nw fr (l,i),mC hi av,au⟩
 ·obtain⟨h1,h2⟩:=ab v hv;rw[Acf];exact⟨v.toNat,by simp;omega,Ad2⟩
theorem mB {neg:Int->Bj->Prop}{M:MM}{nw:Int}{fr:Nat}{ar:Nat->Nat}{r:J7}{t:Bj}(hr:RW M.length ar r):Ul neg (J6 M nw fr r) t↔∃ν,(∀(l:Lit) (i:Nat),r.body[i]?=some l->l.neg=false->Bp l.a ν∈Ud M nw fr i l)/\(∀l∈r.body,l.neg=true->¬neg l.a.p (Bp l.a ν))/\t=Bp r.head ν:=by
 constructor
 ·rintro⟨ν,hν,rfl⟩;refine⟨ν,fun l i hi hn=>?_,fun l hl hn=>hν.2 l.a (Acf.2 ⟨l,Ac7.2 ⟨hl,hn⟩,rfl⟩),rfl⟩;have:=hν.1 _ (mC hi hn);exact (Ac7.1 this).1
 ·rintro⟨ν,h,h',rfl⟩;refine⟨ν,⟨fun p hp=>?_,fun a ha=>?_⟩,rfl⟩
  ·obtain⟨l,i,h1,h2,rfl⟩:=H2 hp;exact Ac7.2 ⟨h l i h1 h2,wB (hr.rok.ba l (Aax h1)) ν⟩
  ·obtain⟨l,hl,rfl⟩:=Acf.1 ha;obtain⟨h1,h2⟩:=Ac7.1 hl;exact h' l h1 h2
abbrev Cq:=Nat->Bj->Prop
def LitH (N D:Cq)(ν:Nu)(l:Lit):Prop:=if l.neg=true then¬N l.a.p.toNat (Bp l.a ν)else D l.a.p.toNat (Bp l.a ν)
def tT (R:List J7)(N D:Cq):Prop:=∀r∈R,∀ν,(∀l∈r.body,LitH N D ν l)->D r.head.p.toNat (Bp r.head ν)
def MD (M:MM):Cq:=fun k t=>t∈Au M (k:Int)
def tot (M:MM):Int:=(Hd M).sum
structure GroA (D:Cq)(M M':MM)(d d':Int):Prop where
 len:M'.length=M.length
 ext:∀k:Nat,∃new:List Bj,Au M' k=Au M k++new/\new.Nodup/\∀t∈new,D k t/\t∉Au M k
 cnt:d'-d=tot M'-tot M
theorem GroA.refl (D:Cq)(M:MM)(d:Int):GroA D M M d d:=⟨rfl,fun k=>⟨[],by simp,Ac3,by simp⟩,Ad2⟩
theorem GroA.trans {D:Cq}{M M1 M2:MM}{d d1 d2:Int}(h:GroA D M M1 d d1)(g:GroA D M1 M2 d1 d2):GroA D M M2 d d2:=by
 refine⟨g.len.trans h.len,fun k=>?_,by have:=h.cnt;have:=g.cnt;omega⟩;obtain⟨n1,a1,a2,a3⟩:=h.ext k;obtain⟨n2,b1,b2,b3⟩:=g.ext k;refine⟨n1++n2,by rw[b1,a1,Abl],?_,?_⟩
 ·rw[Adf];exact⟨a2,b2,fun x hx y hy e=>(b3 y hy).2 (by rw[a1,<-e];exact Ab2.2 (.inr hx))⟩
 ·intro t ht;rcases Ab2.1 ht with ht|ht
  ·exact a3 t ht
  ·exact⟨(b3 t ht).1,fun hm=>(b3 t ht).2 (by rw[a1];exact Ab2.2 (.inl hm))⟩
theorem GroA.sub {D:Cq}{M M':MM}{d d':Int}(h:GroA D M M' d d'){k:Nat}{t:Bj}(ht:t∈Au M k):t∈Au M' k:=by
 obtain⟨n,a1,-,-⟩:=h.ext k;rw[a1];exact Ab2.2 (.inl ht)
theorem GroA.inD {D:Cq}{M M':MM}{d d':Int}(h:GroA D M M' d d')(hD:∀k t,MD M k t->D k t):∀k t,MD M' k t->D k t:=fun k t ht=>by
 obtain⟨n,a1,-,a3⟩:=h.ext k;unfold MD at ht;rw[a1]at ht;rcases Ab2.1 ht with ht|ht
 ·exact hD k t ht
 ·exact (a3 t ht).1
theorem D8 (x:Nat×List Bj)(M:MM):tot (x::M)=(x.2.length:Int)+tot M:=by simp[tot,Hd]
theorem Nh:∀(M M':MM) (k:Nat) (n:Nat),M'.length=M.length->(∀j,j≠k->(M'[j]?).map (·.2)=(M[j]?).map (·.2))->(k<M.length->((Au M' k).length:Int)=(Au M k).length+n)->(M.length<=k->n=0)->tot M'=tot M+n
 |[],M',k,n,hl,ho,hk,hn=>by
  have:M'=[]:=Aa1 (by simpa using hl);subst this;have:=hn (by simp);subst this;simp[tot,Hd]
 |x::M,[],k,n,hl,ho,hk,hn=>by simp at hl
 |x::M,y::M',0,n,hl,ho,hk,hn=>by
  have h0:=hk (by simp);simp[Au]at h0;have aa:tot M'=tot M+(0:Nat):=Nh M M' M.length 0 (by simpa using hl) (fun j hj=>by have:=ho (j+1) Ad2;simpa using this) (fun h=>Ad2) (fun _=>rfl);rw[D8,D8,aa];omega
 |x::M,y::M',k+1,n,hl,ho,hk,hn=>by
  have h0:=ho 0 Ad2;simp at h0
  have aa:=Nh M M' k n (by simpa using hl) (fun j hj=>by have:=ho (j+1) Ad2;simpa using this) (fun h=>by
   have:=hk (by simp;omega)
   simpa[Au]using this) (fun h=>hn (by simp;omega))
  rw[D8,D8,aa,h0];omega
theorem Gro.all {k:Nat}{S:Bj->Prop}{D:Cq}{M M':MM}{d d':Int}(h:Gro k S M M' d d')(hk:k<M.length)(hS:∀t,S t->D k t):GroA D M M' d d':=by
 obtain⟨n,a1,a2,a3,a4⟩:=h.ext;refine⟨h.len,fun j=>?_,?_⟩
 ·by_cases e:j=k
  ·subst e;exact⟨n,a1,a2,fun t ht=>⟨hS t (a3 t ht).1,(a3 t ht).2⟩⟩
  ·refine⟨[],?_,Ac3,by simp⟩;have:=h.oth j e;unfold Au;simp only[Adi];rw[this];simp
 ·have:=Nh M M' k n.length h.len h.oth (fun _=>by rw[a1];simp) (fun hh=>Ad2);omega
end Go.Proofs.YtmoeoppbmhfbpaaGreatDoorH
