import Derived.Test.YtmoeoppbmhfbpabGreatDoorMNegC
set_option maxHeartbeats 32000000
set_option maxRecDepth 100000
set_option linter.all false
namespace Go.Proofs.YtmoeoppbmhfbpabGreatDoorL
open Go.Abs
structure Gro (k:Nat)(S:Bb->Prop)(M M':MM)(d d':Int):Prop where
 len:M'.length=M.length
 oth:∀j,j≠k->(M'[j]?).map (·.2)=(M[j]?).map (·.2)
 ext:∃new:List Bb,Ax M' k=Ax M k++new/\new.Nodup/\(∀t∈new,S t/\t∉Ax M k)/\d'=d+new.length
theorem Gro.refl (k:Nat)(S:Bb->Prop)(M:MM)(d:Int):Gro k S M M d d:=⟨rfl,fun _ _=>rfl,[],by simp,Ai0,by simp,by simp⟩
theorem Gro.trans {k:Nat}{S:Bb->Prop}{M M1 M2:MM}{d d1 d2:Int}(h:Gro k S M M1 d d1)(g:Gro k S M1 M2 d1 d2):Gro k S M M2 d d2:=by
 obtain⟨n1,a1,a2,a3,a4⟩:=h.ext;obtain⟨n2,b1,b2,b3,b4⟩:=g.ext;refine⟨g.len.trans h.len,fun j hj=>(g.oth j hj).trans (h.oth j hj),n1++n2,by rw[b1,a1,Ahq],?_,?_,?_⟩
 ·rw[Ajf];exact⟨a2,b2,fun x hx y hy e=>(b3 y hy).2 (by rw[a1,<-e];exact Ah8.2 (.inr hx))⟩
 ·intro t ht;rcases Ah8.1 ht with ht|ht
  ·exact a3 t ht
  ·exact⟨(b3 t ht).1,fun hm=>(b3 t ht).2 (by rw[a1];exact Ah8.2 (.inl hm))⟩
 ·rw[b4,a4];simp;omega
theorem Gro.mono {k:Nat}{S S':Bb->Prop}{M M':MM}{d d':Int}(h:Gro k S M M' d d')(hs:∀t,S t->S' t):Gro k S' M M' d d':=by
 obtain⟨n,a1,a2,a3,a4⟩:=h.ext;exact⟨h.len,h.oth,n,a1,a2,fun t ht=>⟨hs t (a3 t ht).1,(a3 t ht).2⟩,a4⟩
theorem Gro.sub {k:Nat}{S:Bb->Prop}{M M':MM}{d d':Int}(h:Gro k S M M' d d'){t:Bb}(ht:t∈Ax M k):t∈Ax M' k:=by
 obtain⟨n,a1,-,-,-⟩:=h.ext;rw[a1];exact Ah8.2 (.inl ht)
theorem Gro.le {k:Nat}{S:Bb->Prop}{M M':MM}{d d':Int}(h:Gro k S M M' d d'):d<=d':=by
 obtain⟨n,-,-,-,a4⟩:=h.ext;omega
def Room (M:MM)(d b:Int):Prop:=∀x∈M,(x.2.length:Int)+(b-d)<=4000
theorem Gro.room {k:Nat}{S:Bb->Prop}{M M':MM}{d d' b:Int}(h:Gro k S M M' d d')(hr:Room M d b):Room M' d' b:=by
 intro x hx;obtain⟨j,hj⟩:=Aif hx;obtain⟨n,a1,-,-,a4⟩:=h.ext;have aa:j<M.length:=by rw[<-h.len];exact (Agy.1 hj).1
 have hy:=Agz aa;have hb:=hr _ (Ain aa);by_cases e:j=k
 ·subst e;unfold Ax at a1;simp only[Ajn,hj,hy,Ajb,Ajh]at a1;rw[a1];simp only[Aho];omega
 ·have:=h.oth j e;rw[hj,hy]at this;simp at this;rw[this];have:=h.le;omega
theorem B7 {M:MM}{k:Nat}{x:Nat×List Bb}(h:M[k]?=some x):Ax M (k:Int)=x.2:=by simp[Ax,h]
theorem Acj {M:MM}{k id:Nat}{x:Nat×List Bb}{t:Bb}{S:Bb->Prop}{d:Int}(hx:M[k]?=some x)(ht:t∉x.2)(hS:S t):Gro k S M (M.set k (id,x.2++[t])) d (d+1):=by
 have hk:=(Agy.1 hx).1;refine⟨by simp,fun j hj=>by rw[Ajs (fun e=>hj e.symm)],[t],?_,by simp,?_,by simp⟩
 ·rw[B7 hx,B7 (x:=(id,x.2++[t])) (by simp[hk])]
 ·intro u hu;simp at hu;subst hu;rw[B7 hx];exact⟨hS,ht⟩
theorem MOb.setd {z:St}{om ot:Nat}{M:MM}{d d' b:Int}(h:MOb z om ot M d b):MOb (z.put om [fx ot 0 M.length,ic d',ic b]) om ot M d' b where
 ob:=Aj
 oc:=by rw[show (z.put om [fx ot 0 M.length,ic d',ic b]).obj ot=z.obj ot from by simp[St.put];intro e;exact absurd e.symm h.ne];exact h.oc
 lo:=h.lo
 lt:=h.lt
 ne:=h.ne
 live:=h.live
 inj:=h.inj
 t3:=h.t3
 ln:=h.ln
 pl:=h.pl
theorem KM.setd {om ot:Nat}{M M':MM}{z z':St}(h:KM om ot M M' z z')(c:List AV):KM om ot M M' z (z'.put om c):=
 ⟨h.nobj,fun o ho h1 h2=>by rw[show (z'.put om c).obj o=z'.obj o from by simp[St.put,h1]];exact h.obj o ho h1 h2,fun o ho h1 h2=>by rw[show (z'.put om c).ver o=z'.ver o from by simp[St.put,h1]];exact h.ver o ho h1 h2,h.ntop,h.top,h.mid⟩
def Wp (neg:Int->Bb->Prop)(q:Qry)(t:Bb):Prop:=∃ν,Lj neg q ν/\t=Be q.head ν
def Aat (neg:Int->Bb->Prop)(om ot:Nat)(b:Int)(V:List Int):Prop:=∀(q:Qry) (c:List AV) (k:Nat) (M:MM) (d:Int),EQ q c->Rc q->NegOk neg M q->(∀a∈q.nots,a.p≠(k:Int))->QV q->q.head.p=(k:Int)->k<M.length->Room M d b-> -1000000<=d->d<=1000000-> -1000000<=b->b<=900000->(∀v,inQ q v->v∈V)->
 ∀z,MOb z om ot M d b->ACalls Tryz.prog 139 [ptr om 0,ag c] z fun r z'=>∃M' d',MOb z' om ot M' d' b/\KM om ot M M' z z'/\Gro k (Wp neg q) M M' d d'/\d'<=1000000/\(¬b<d'->∀t,Wp neg q t->t∈Ax M' k)
theorem NegOk.gro {neg:Int->Bb->Prop}{M M':MM}{q:Qry}{k:Nat}{S:Bb->Prop}{d d':Int}(h:NegOk neg M q)(aa:∀a∈q.nots,a.p≠(k:Int))(g:Gro k S M M' d d'):NegOk neg M' q:=fun a ha=>by
 obtain⟨j,x,h1,h2,h3⟩:=h a ha;have hj:j≠k:=fun e=>aa a ha (by rw[h1,e]);have:=g.oth j hj;rw[h2]at this;cases hy:M'[j]? with
 |none=>rw[hy]at this;simp at this
 |some y=>
  rw[hy]at this;simp at this;exact⟨j,y,h1,hy,fun t=>by rw[this];exact h3 t⟩
theorem P1 (neg:Int->Bb->Prop)(om ot:Nat)(b:Int)(V:List Int)(IH:∀V':List Int,V'.length<V.length->Aat neg om ot b V'):Aat neg om ot b V:=by
 intro q c k M d hc hA hNg e0 hV hk c8 a7 fo ck ep eo ch z hM;have a8:=fun z (h:MOb z om ot M d b)=>Kz om ot M d b z h;have ci:=hA.ok.hd;have ei:q.head.ts.length<=1000:=Aj6;have be:=fun (id:Nat) z=>Js q.head.p id q.head.ts ei z;have bl:M[k]?=some M[k]:=Agz c8;generalize M[k]=x at bl;have b9:=fun (id:Nat) z (h:MOb z om ot M d b)=>I0 om ot M d b q.head id k x ci hk bl z h;have bf:=fun z (h:MOb z om ot M d b)=>aE neg q c om ot M d b hc hA hNg z h;have hT:Ax M (k:Int)=x.2:=B7 bl;obtain⟨ih,ip,inn,pc,nc,rfl,-,-⟩:=hc;have co:∀cs,MOb (z.new cs) om ot M d b:=fun cs=>hM.keep ((Keep.refl z).new cs);by_cases cg:b<d
 ·rw[show decide (b<d)=true from by simpa using cg]at a8;rw[hk];clear b9 be bf;refine Z9 86 [] Tryz.func139 ?_
  repeat' (first|refine Z1 ?_|(refine Z8 ?_;intro yb ya)|(refine Z4 ?_;clear ya yb)|(refine Z2 ?_ ?_<;>intro h ab<;>try exact Xp)|(refine Z5 ?_;refine Xi (a8 _ (hM.keep (Xs))) ?_;rintro _ _ ⟨rfl,rfl⟩)|refine Z3 ?_|exact Zt|(apply ya.out;clear ya yb))
  first|exact⟨_,rfl,M,d,co _,KM.ofKeep ((Keep.refl z).new _),Gro.refl _ _ _ _,ck,fun h=>absurd cg h⟩|exact⟨M,d,co _,KM.ofKeep ((Keep.refl z).new _),Gro.refl _ _ _ _,ck,fun h=>absurd cg h⟩
 ·have br:decide (b<d)=false:=by simpa using cg
  rw[br]at a8;have ac:=be ih;have ai:=b9 ih;rw[hk]at ac ai bf;rw[hk];have bp:∀z',Keep z z'->(∀t,Wp neg q t->t∈x.2)->∃M' d',MOb z' om ot M' d' b/\KM om ot M M' z z'/\Gro k (Wp neg q) M M' d d'/\d'<=1000000/\(¬b<d'->∀t,Wp neg q t->t∈Ax M' k):=fun z' d4 aw=>
   ⟨M,d,hM.keep d4,KM.ofKeep d4,Gro.refl _ _ _ _,ck,fun _ t ht=>by rw[hT];exact aw t ht⟩
  have ae:Akc _:=bp;clear bp br;cases hs:Hw q.head.ts with
  |true=>
   rw[hs]at ac;have ap:=fun ν=>Pe hs ν;by_cases hm:Cr q.head∈x.2
   ·rw[show decide (Cr q.head∈x.2)=true from by simpa using hm]at ai;have aw:∀t,Wp neg q t->t∈x.2:=fun t ⟨ν,_,e⟩=>by rw[e,ap];exact hm
    have ce:Akc _:=aw;clear aw ap b9 be bf;refine Z9 86 [] Tryz.func139 ?_
    repeat' (first|refine Z1 ?_|(refine Z8 ?_;intro yb ya)|(refine Z4 ?_;clear ya yb)|(refine Z2 ?_ ?_<;>intro h ab<;>try exact Xp)|(refine Z5 ?_;first|(refine Xi (a8 _ (hM.keep (Xs))) ?_;rintro _ _ ⟨rfl,rfl⟩)|(refine Xi (ac _) ?_;rintro _ _ ⟨rfl,am⟩;(have aj:=am.nobj;have aa:=am.obj;have bm:=((Keep.refl z).new _).trans am;simp only[Aa]at aj aa))|(refine Xi (ai _ (hM.keep (Xs))) ?_;rintro _ _ ⟨rfl,b7⟩;(have b3:=bm.trans b7)))|refine Z3 ?_|exact Zt|(apply ya.out;clear ya yb))
    first|exact⟨_,rfl,ae.out _ b3 ce.out⟩|exact ae.out _ b3 ce.out
   ·rw[show decide (Cr q.head∈x.2)=false from by simpa using hm]at ai;have fh:Akc (Cr q.head∉x.2):=hm;clear hm;have cr:∀(id:Nat) z,ACalls Tryz.prog 131 [ag [ic (k:Int),sl id q.head.ts.length (Ac q.head.ts)]] z fun r z'=>r=sc (.bool true)/\Keep z z':=fun id z=>by
     have:=be id z;rw[hk,hs]at this;exact this
    have d3:=fun (id:Nat) z (h:MOb z om ot M d b)=>Vs om ot M d b q.head id k x ci hk bl (by
     have:=a7 x (Ag1 bl)
     omega) z h
    rw[hk]at d3;have b8:=Ry neg om ot M d b V.length V (Agn _);clear be b9 co;refine Z9 86 [] Tryz.func139 ?_
    repeat' (first|refine Z1 ?_|(refine Z8 ?_;intro yb ya)|(refine Z4 ?_;clear ya yb)|(refine Z2 ?_ ?_<;>intro h ab<;>try exact Xp)|(refine Z5 ?_;first|(refine Xi (a8 _ (hM.keep (Xs))) ?_;rintro _ _ ⟨rfl,rfl⟩)|(refine Xi (ac _) ?_;rintro _ _ ⟨rfl,am⟩;(have aj:=am.nobj;have aa:=am.obj;have bm:=((Keep.refl z).new _).trans am;simp only[Aa]at aj aa))|(refine Xi (ai _ (hM.keep (Xs))) ?_;rintro _ _ ⟨rfl,b7⟩;(have eb:=b7.nobj;have bo:=b7.obj;have b3:=bm.trans b7;clear ac))|(refine Xi (bf _ (hM.keep (Xs))) ?_;rintro _ _ ⟨⟨c',(⟨rfl,eg,ej,bv⟩|⟨q',rfl,⟨ih2,ip2,in2,pc2,nc2,rfl,cm,cn⟩,a4,dc,hR2,au⟩)⟩,ah⟩))|refine Z3 ?_|exact Zt)
    ·have bc:=ah.nobj;have o4:=ah.obj z.nobj Aj6;rw[bo _ Aj6,aa _ Aj6,Ao]at o4;have ay:=b3.trans ah;have cc:Akc (∀ν,¬Lj neg q ν):=bv;clear bv
     repeat' (first|refine Z1 ?_|(refine Z8 ?_;intro yb ya)|(refine Z4 ?_;clear ya yb)|(refine Z2 ?_ ?_<;>intro h ab<;>try exact Xp)|refine Z3 ?_|exact Zt|(apply ya.out;clear ya yb))
     first|exact⟨_,rfl,ae.out _ (ay.put Aj6 _) (fun t ⟨ν,h,_⟩=>absurd h (cc.out ν))⟩|exact ae.out _ (ay.put Aj6 _) (fun t ⟨ν,h,_⟩=>absurd h (cc.out ν))
    ·have bc:=ah.nobj;have o4:=ah.obj z.nobj Aj6;rw[bo _ Aj6,aa _ Aj6,Ao]at o4;have ay:=b3.trans ah;have he:q'.head=q.head:=hR2.hd;have ax:NegOk neg M q':=hNg.sub fun a ha=>⟨a,(au a ha).1,rfl⟩;have ak:kB ⟨⟨0,[]⟩,q'.parts,q'.nots⟩:=fun v hv=>a4.wf v (.inr (hv.resolve_left (by simp[A7])))
     have ct:=fun z (h:MOb z om ot M d b)=>b8 ⟨⟨0,[]⟩,q'.parts,q'.nots⟩ [ic 0,nilS,sl ip2 q'.parts.length pc2,sl in2 q'.nots.length nc2] ⟨1,ip2,in2,pc2,nc2,rfl,cm,cn⟩ (Lx a4 (by simp) (Ajt _) (Ajt _) ak) (ax.sub fun a ha=>⟨a,ha,rfl⟩)
      (fun a ha v hv=>by
       have:a∈atomsQ q'\/a=⟨0,[]⟩:=by
        unfold atomsQ at ha⊢;simp only[Ah2,Ah8,Aib]at ha⊢;rcases ha with h|h|h
        ·exact .inr h
        ·exact .inl (.inr (.inl h))
        ·exact .inl (.inr (.inr h))
       rcases this with h|rfl
       ·exact hV a (hR2.at_ a h) v hv
       ·cases hv) rfl (fun v hv=>by
       obtain⟨p,hp,bq⟩:=Vl (q:=⟨⟨0,[]⟩,q'.parts,q'.nots⟩) ak hv
       exact ch v (inQ.sub hR2.at_ ⟨p.a,Kr hp,bq⟩)) z h
     have ew:∀ν,Lj neg (⟨⟨0,[]⟩,q'.parts,q'.nots⟩:Qry) ν↔Lj neg q' ν:=fun ν=>Iff.rfl;have HE:Akc (q'.head=q.head):=he;simp only[he,hk];clear he b8 bf ai a8
     repeat' (first|refine Z1 ?_|(refine Z8 ?_;intro yb ya)|(refine Z4 ?_;clear ya yb)|(refine Z2 ?_ ?_<;>intro h ab<;>try exact Xp)|(refine Z5 ?_;first|(refine Xi (ct _ (hM.keep (Xs))) ?_;rintro _ _ ⟨⟨bb,rfl,bz⟩,bi⟩;(have cd:Akc _:=bz;clear bz;have ba:=bi.nobj;have a9:=bi.obj;simp only[Ab]at ba a9;have b4:=(ay.put Aj6 _).trans bi))|(refine Xi (cr _ _) ?_;rintro _ _ ⟨rfl,bh⟩;(have cx:=bh.nobj;have cv:=bh.obj;have df:=b4.trans bh))|(refine Xi (d3 _ _ (hM.keep (Xs))) ?_;rintro _ _ ⟨id',de,b6⟩;(generalize b2:M.set k (id',x.2++[Cr q.head])=M7 at de b6;have d8:Akc _:=b2;clear b2;have fj:=de.ob;have di:=KM.trans (KM.ofKeep df) b6)))|refine Z3 ?_|exact Zt|(apply ya.out;clear ya yb))
     ·exact⟨_,rfl,ae.out _ b4 (fun t ⟨ν,hν,_⟩=>absurd (cd.out.2 ⟨ν,hR2.to ν hν⟩) (by rw[h];simp))⟩
     ·have c9:bb=true:=by assumption
      obtain⟨ν,hν⟩:=cd.out.1 c9;obtain⟨ν',hν',-⟩:=hR2.back ν hν;have e8:Wp neg q (Cr q.head):=⟨ν',hν',(ap ν').symm⟩;have e9:Gro k (Wp neg q) M M7 d (d+1):=by rw[<-d8.out];exact Acj bl fh.out e8
      have ev:Cr q.head∈Ax M7 k:=by
       rw[<-d8.out,B7 (x:=(id',x.2++[Cr q.head])) (by simp[c8])];simp
      exact⟨_,rfl,M7,d+1,de.setd,di.setd _,e9,Aj6,fun _ t ⟨μ,_,e⟩=>by rw[e,ap];exact ev⟩
  |false=>
   rw[hs]at ac;have cr:∀(id:Nat) z,ACalls Tryz.prog 131 [ag [ic (k:Int),sl id q.head.ts.length (Ac q.head.ts)]] z fun r z'=>r=sc (.bool false)/\Keep z z':=fun id z=>by
    have:=be id z;rw[hk,hs]at this;exact this
   have b8:=Ry neg om ot M d b V.length V (Agn _);obtain⟨v0,vt,cf⟩:∃v0 vt,Cb [q.head]=v0::vt:=by
    cases hv:Cb [q.head]with
    |nil=>
     exfalso;have:Hw q.head.ts=true:=by
      unfold Hw;rw[Ag0];rintro⟨t1,t2⟩ ht;cases t1 with
      |false=>rfl
      |true=>
       have:t2∈Cb [q.head]:=(C3 _ _).2 ⟨q.head,by simp,ht⟩;rw[hv]at this;cases this
     rw[this]at hs;cases hs
    |cons v0 vt=>exact⟨v0,vt,rfl⟩
   have af:=fun (idh i:Nat) (z:St)=>Hb [q.head] [ic q.head.p,sl idh q.head.ts.length (Ac q.head.ts)] i (EL.single ⟨idh,rfl⟩) (by simp;exact ci) (by simp) z;have ds:=E4 (l:=[q.head]) (by simp;exact ci);have dr:∀v,A7 q.head.ts v=true->v∈v0::vt:=fun v hv=>by rw[<-cf];exact (C3 _ _).2 ⟨q.head,by simp,hasV_iff.1 hv⟩
   have du:A7 q.head.ts v0=true:=by
    have:v0∈Cb [q.head]:=by rw[cf];simp
    obtain⟨a,ha,h⟩:=(C3 _ _).1 this;simp at ha;subst ha;exact hasV_iff.2 h
   rw[cf]at af ds;simp only[Ahy,Ahx,Al,Ahj,Ahn,hk]at af;simp only[Ahy,Ahx,Ahn]at ds;have cz:(v0::vt).length<=200:=by simp;omega
   clear be b9 co cf;refine Z9 86 [] Tryz.func139 ?_
   repeat' (first|refine Z1 ?_|(refine Z8 ?_;intro yb ya)|(refine Z4 ?_;clear ya yb)|(refine Z2 ?_ ?_<;>intro h ab<;>try exact Xp)|(refine Z5 ?_;first|(refine Xi (a8 _ (hM.keep (Xs))) ?_;rintro _ _ ⟨rfl,rfl⟩)|(refine Xi (ac _) ?_;rintro _ _ ⟨rfl,am⟩;(have aj:=am.nobj;have aa:=am.obj;have bm:=((Keep.refl z).new _).trans am;simp only[Aa]at aj aa;clear ac))|(refine Xi (bf _ (hM.keep (Xs))) ?_;rintro _ _ ⟨⟨c',(⟨rfl,eg,ej,bv⟩|⟨q',rfl,⟨ih2,ip2,in2,pc2,nc2,rfl,cm,cn⟩,a4,dc,hR2,au⟩)⟩,ah⟩))|refine Z3 ?_|exact Zt)
   ·have bc:=ah.nobj;have o4:=ah.obj z.nobj Aj6;rw[aa _ Aj6,Ao]at o4;have ay:=bm.trans ah;have cc:Akc (∀ν,¬Lj neg q ν):=bv;clear bv
    repeat' (first|refine Z1 ?_|(refine Z8 ?_;intro yb ya)|(refine Z4 ?_;clear ya yb)|(refine Z2 ?_ ?_<;>intro h ab<;>try exact Xp)|refine Z3 ?_|exact Zt|(apply ya.out;clear ya yb))
    first|exact⟨_,rfl,ae.out _ (ay.put Aj6 _) (fun t ⟨ν,h,_⟩=>absurd h (cc.out ν))⟩|exact ae.out _ (ay.put Aj6 _) (fun t ⟨ν,h,_⟩=>absurd h (cc.out ν))
   ·have bc:=ah.nobj;have o4:=ah.obj z.nobj Aj6;rw[aa _ Aj6,Ao]at o4;have ay:=bm.trans ah;have he:q'.head=q.head:=hR2.hd;have ax:NegOk neg M q':=hNg.sub fun a ha=>⟨a,(au a ha).1,rfl⟩;have ak:kB ⟨⟨0,[]⟩,q'.parts,q'.nots⟩:=fun v hv=>a4.wf v (.inr (hv.resolve_left (by simp[A7])))
    have ct:=fun z (h:MOb z om ot M d b)=>b8 ⟨⟨0,[]⟩,q'.parts,q'.nots⟩ [ic 0,nilS,sl ip2 q'.parts.length pc2,sl in2 q'.nots.length nc2] ⟨1,ip2,in2,pc2,nc2,rfl,cm,cn⟩ (Lx a4 (by simp) (Ajt _) (Ajt _) ak) (ax.sub fun a ha=>⟨a,ha,rfl⟩)
     (fun a ha v hv=>by
      have:a∈atomsQ q'\/a=⟨0,[]⟩:=by
       unfold atomsQ at ha⊢;simp only[Ah2,Ah8,Aib]at ha⊢;rcases ha with h|h|h
       ·exact .inr h
       ·exact .inl (.inr (.inl h))
       ·exact .inl (.inr (.inr h))
      rcases this with h|rfl
      ·exact hV a (hR2.at_ a h) v hv
      ·cases hv) rfl (fun v hv=>by
      obtain⟨p,hp,bq⟩:=Vl (q:=⟨⟨0,[]⟩,q'.parts,q'.nots⟩) ak hv
      exact ch v (inQ.sub hR2.at_ ⟨p.a,Kr hp,bq⟩)) z h
    have ca:EQ q' [ic (k:Int),sl ih2 q.head.ts.length (Ac q.head.ts),sl ip2 q'.parts.length pc2,sl in2 q'.nots.length nc2]:=⟨ih2,ip2,in2,pc2,nc2,by rw[he,hk],cm,cn⟩;have da:=fun (id:Nat) z=>Rv q' _ (v0::vt) id ca a4.ok cz z;simp only[Ahy,Al,Ahj]at da;have HE:Akc (q'.head=q.head):=he;simp only[he,hk];clear he b8 bf a8 ca;have dt:=af ih2;clear af
    repeat' (first|refine Z1 ?_|(refine Z8 ?_;intro yb ya)|(refine Z4 ?_;clear ya yb)|(refine Z2 ?_ ?_<;>intro h ab<;>try exact Xp)|(refine Z5 ?_;first|(refine Xi (ct _ (hM.keep (Xs))) ?_;rintro _ _ ⟨⟨bb,rfl,bz⟩,bi⟩;(have cd:Akc _:=bz;clear bz;have ba:=bi.nobj;have a9:=bi.obj;simp only[Ab]at ba a9;have b4:=(ay.put Aj6 _).trans bi))|(refine Xi (cr _ _) ?_;rintro _ _ ⟨rfl,bh⟩;(have cx:=bh.nobj;have cv:=bh.obj;have df:=b4.trans bh))|(refine Xi (dt _ _) ?_;rintro _ _ ⟨⟨idv,rfl⟩,dl⟩;(have cw:=dl.nobj;have cu:=dl.obj;simp only[Aw,Gl]at cw cu;have e5:=(df.lay 1).trans dl))|(refine Xi (da _ _) ?_;rintro _ _ ⟨⟨_,_,rs,rfl,⟨ih3,ip3,in3,pc3,nc3,rfl,ez,e3⟩,⟨ih4,ip4,in4,pc4,nc4,rfl,fp,fq⟩,hG,hC⟩,d5⟩;(have ea:=d5.nobj;have HC:Akc _:=hC;have HG:Akc _:=hG;clear hC hG;have e6:=e5.trans d5)))|refine Z3 ?_|exact Zt|(apply ya.out;clear ya yb))
    ·exact⟨_,rfl,ae.out _ b4 (fun t ⟨ν,hν,_⟩=>absurd (cd.out.2 ⟨ν,hR2.to ν hν⟩) (by rw[h];simp))⟩
    ·rename_i z8;have c9:bb=true:=by assumption
     have dm:EQ (A5 q' rs) [ic (A5 q' rs).head.p,sl ih3 (A5 q' rs).head.ts.length (Ac (A5 q' rs).head.ts),sl ip3 (A5 q' rs).parts.length pc3,sl in3 (A5 q' rs).nots.length nc3]:=⟨ih3,ip3,in3,pc3,nc3,rfl,ez,e3⟩;have hrs:∀v∈v0::vt,v∈rs:=fun v hv=>by
      obtain⟨ad,e,-,-⟩:=HG.out;rw[e];exact Ah8.2 (.inl hv)
     have ao:Rc (A5 q' rs):=Lx a4 a4.ok.hd Aju Aju (dI a4.wf HC.out (fun v hv=>hrs v (dr v (by rw[<-HE.out];exact hv))));have dx:QV (A5 q' rs):=fun a ha w hw=>by
      obtain⟨a',eu,ec⟩:=Pv (rs:=rs) ⟨a,ha,hasV_iff.2 hw⟩;exact hV a' (hR2.at_ a' eu) w (hasV_iff.1 ec)
     have dv:(A5 q' rs).head.p=(k:Int):=by show q'.head.p=_;rw[HE.out,hk]
     have bw:∀w,inQ (A5 q' rs) w->w∈V:=fun w hw=>ch w (inQ.sub hR2.at_ (Pv hw));have bd:v0∈V:=ch v0 ⟨q.head,by simp[atomsQ],du⟩;have dy:(V.erase v0).length<V.length:=by
      rw[List.length_erase_of_mem bd];have:=List.length_pos_of_mem bd;omega
     have IHb:=IH (V.erase v0) dy;obtain⟨μ,hμ⟩:=cd.out.1 c9
     --what the near part brings,the query brings
     have b0:∀n t,Wp neg (C2 v0 n (A5 q' rs)) t->Wp neg q t:=fun n t ⟨ν,hν,e⟩=>by
      have h1:=(Su ao.w).1 hν;have h2:=Za HC.out h1 (pQ (rs:=rs) hμ);obtain⟨ν',hν',et⟩:=hR2.back _ h2;refine⟨ν',hν',?_⟩;rw[e];show Be (Fq v0 n (A5 q' rs).head) ν=_;rw[Kj];show Be q'.head _=_;rw[HE.out];apply E7;intro v hv;rw[et v ⟨q'.head,by simp[atomsQ],by rw[HE.out];exact hv⟩];rw[if_pos (hrs v (dr v hv))]
     have cb:∀t,Wp neg q t->∃n∈Lb (A5 q' rs) v0,Wp neg (C2 v0 n (A5 q' rs)) t:=fun t ⟨ν,hν,e⟩=>by
      have h2:=fE (rs:=rs) (hR2.to ν hν);obtain⟨p,hp,bq⟩:=ao.wf v0 (.inl (by show A7 q'.head.ts v0=true;rw[HE.out];exact du));have a5:Ni ν v0 (ν v0)=ν:=by
       funext w;unfold Ni;split
       ·rename_i e;rw[e]
       ·rfl
      refine⟨ν v0,oI ao.w h2 ⟨p,hp,bq⟩,ν,(Su ao.w).2 (by rw[a5];exact h2),?_⟩;rw[e];show _=Be (Fq v0 (ν v0) (A5 q' rs).head) ν;rw[Kj,a5];show _=Be q'.head ν;rw[HE.out]
     have dn:Akc _:=b0;have dq:Akc _:=cb;have dw:=fun z=>Ky (A5 q' rs) _ v0 dm ao.ok ao.n z;have ed:=Tk ao.n v0;have ey:=fun n z=>Vr (A5 q' rs) _ v0 n dm ao.ok z;generalize bu:Lb (A5 q' rs) v0=ns at dw ed;have fg:Akc _:=bu;have fl:=Bm ns;have b1:∀{n:Int},∀a∈(C2 v0 n (A5 q' rs)).nots,a.p≠(k:Int):=fun {n} a ha=>by
      obtain⟨a0,h0,rfl⟩:=Aib.1 ha;exact e0 a0 (au a0 (Ai7.1 h0).1).1
     have e7:Akc (∀(n:Int) (c5:List AV) (Mj:MM) (dj:Int),EQ (C2 v0 n (A5 q' rs)) c5->Gro k (Wp neg q) M Mj d dj->dj<=1000000->∀z,MOb z om ot Mj dj b->ACalls Tryz.prog 139 [ptr om 0,ag c5] z fun r z'=>∃M' d',MOb z' om ot M' d' b/\KM om ot Mj M' z z'/\Gro k (Wp neg (C2 v0 n (A5 q' rs))) Mj M' dj d'/\d'<=1000000/\(¬b<d'->∀t,Wp neg (C2 v0 n (A5 q' rs)) t->t∈Ax M' k)):=fun n c5 Mj dj bn an cj z cp=>
      IHb (C2 v0 n (A5 q' rs)) c5 k Mj dj bn (fV ao) (((ax.near rs).put v0 n).gro b1 an) b1 (fun a ha w hw=>by
       obtain⟨⟨b',er,en⟩,-⟩:=S4 (q:=A5 q' rs) (v:=v0) (n:=n) (w:=w) ⟨a,ha,hasV_iff.2 hw⟩;exact dx b' er w (hasV_iff.1 en)) dv (by rw[an.len];exact c8) (an.room a7) (by have:=an.le;omega) cj ep eo (fun w hw=>by
       obtain⟨h1,h2⟩:=S4 hw
       exact (Aiz h2).2 (bw w h1)) z cp
     clear bu b0 cb IHb IH dy bd bw ct cr dt da ao dx dm dv;have d1:Keep z ((((z8.new [ic 0,nilS,nilS,nilS]).new [ic 0,nilS,nilS,nilS]).put z8.nobj [ic (A5 q' rs).head.p,sl ih3 (A5 q' rs).head.ts.length (Ac (A5 q' rs).head.ts),sl ip3 (A5 q' rs).parts.length pc3,sl in3 (A5 q' rs).nots.length nc3]).put (z8.nobj+1) [ic (H0 q' rs).head.p,sl ih4 (H0 q' rs).head.ts.length (Ac (H0 q' rs).head.ts),sl ip4 (H0 q' rs).parts.length pc4,sl in4 (H0 q' rs).nots.length nc4]):=(((e6.new _).new _).put Aj6 _).put Aj6 _;generalize cy:((((z8.new [ic 0,nilS,nilS,nilS]).new [ic 0,nilS,nilS,nilS]).put z8.nobj [ic (A5 q' rs).head.p,sl ih3 (A5 q' rs).head.ts.length (Ac (A5 q' rs).head.ts),sl ip3 (A5 q' rs).parts.length pc3,sl in3 (A5 q' rs).nots.length nc3]).put (z8.nobj+1) [ic (H0 q' rs).head.p,sl ih4 (H0 q' rs).head.ts.length (Ac (H0 q' rs).head.ts),sl ip4 (H0 q' rs).parts.length pc4,sl in4 (H0 q' rs).nots.length nc4])=z9 at*
     have n9:z9.nobj=z8.nobj+2:=by rw[<-cy];rfl
     have o9:z9.obj z8.nobj=[ic (A5 q' rs).head.p,sl ih3 (A5 q' rs).head.ts.length (Ac (A5 q' rs).head.ts),sl ip3 (A5 q' rs).parts.length pc3,sl in3 (A5 q' rs).nots.length nc3]:=by rw[<-cy,Ah Aj6,Aj]
     clear cy;refine Bt (Q:=fun e s' z''=>e= .normal/\s' 0=ptr om 0/\s' 5=sl idv (vt.length+1) (ic v0::List.map ic vt)/\s' 6=ptr z8.nobj 0/\(∃idn,s' 70=sl idn ns.length (Al ns))/\s' 71=ic ns.length/\s' 72=ic 0/\Keep z9 z'') ?_ ?_
     ·refine A1 Ai (fun _=>True) [] [0,1,2,3,6] 2 #[true,true,true,true,false,false,true] Aj9 (fun _ _ _ h=>by cases h.1) ?_;intro yb ya;refine Z3 ?_;refine ya.out _ ?_;clear ya yb;refine Am (i:=4) Aj9 ?_;refine Aq ?_;intro yb ya;refine Z3 ?_;refine ACalls.mono (dw _) ?_;rintro _ za ⟨⟨idn,rfl⟩,a3⟩;refine Z3 ?_;refine ya.out _ _ ⟨Ap a3,?_⟩;clear ya yb;refine E5 [5] Aj9 Aj9 (fun _ _ _ h=>by cases h.1) a3.nobj (fun o ho _=>a3.ver o ho) ?_;intro yb ya;refine Z3 ?_;refine ya.out _ _ ⟨rfl,?_⟩;refine⟨by simp[upd,initS],Aj8,Aj8,⟨idn,Aj8⟩,Aj7,Aj8,a3⟩
     ·rintro e s z9' ⟨rfl,g0,g5,g6,⟨idn,g70⟩,g71,g72,a3⟩;have kna:=a3.nobj;have dh:=d1.trans a3;have oa:z9'.obj z8.nobj=[ic (A5 q' rs).head.p,sl ih3 (A5 q' rs).head.ts.length (Ac (A5 q' rs).head.ts),sl ip3 (A5 q' rs).parts.length pc3,sl in3 (A5 q' rs).nots.length nc3]:=by rw[a3.obj _ Aj6,o9]
      have d0:MOb z9' om ot M d b:=hM.keep dh;have fe:om≠z8.nobj:=by have:=hM.lo;omega
      have fb:ot≠z8.nobj:=by have:=hM.lt;omega
      repeat' (first|refine Z1 ?_|refine Z3 ?_|exact Zt|(apply ya.out;clear ya yb))
      refine Af (fun m s z'=>∃(j:Nat) (Mj:MM) (dj:Int),m=ns.length-j/\j<=ns.length/\s 0=ptr om 0/\s 5=sl idv (vt.length+1) (ic v0::List.map ic vt)/\s 6=ptr z8.nobj 0/\s 70=sl idn ns.length (Al ns)/\s 71=ic ns.length/\s 72=ic j/\MOb z' om ot Mj dj b/\KM om ot M Mj z z'/\z8.nobj<z'.nobj/\z'.obj z8.nobj=[ic (A5 q' rs).head.p,sl ih3 (A5 q' rs).head.ts.length (Ac (A5 q' rs).head.ts),sl ip3 (A5 q' rs).parts.length pc3,sl in3 (A5 q' rs).nots.length nc3]/\dj<=1000000/\Akc (Gro k (Wp neg q) M Mj d dj/\(¬b<dj->∀n∈ns.take j,∀t,Wp neg (C2 v0 n (A5 q' rs)) t->t∈Ax Mj k))) ns.length
       ⟨0,M,d,Aj6,Aj6,g0,g5,g6,g70,g71,g72,d0,KM.ofKeep dh,Aj6,oa,ck,Gro.refl _ _ _ _,fun _ n hn=>by simp at hn⟩ ?_
      clear g0 g5 g6 g70 g71 g72 d0 dh oa kna a3 o9 d1;rintro m s z' ⟨j,Mj,dj,rfl,hj,g0,g5,g6,g70,g71,g72,cp,b5,c6,ob',cj,an⟩;by_cases ef:j<ns.length
      ·have av:=Agz ef;obtain⟨r,ek⟩:=Dl av;generalize ns[j]=n at ek av;have ff:Akc (ns.take (j+1)=ns.take j++[n]):=by rw[Akc,Ahd,av,Ais]
       clear av;have dz:=ey n;have d7:Akc (∀c5,EQ (C2 v0 n (A5 q' rs)) c5->∀z,MOb z om ot Mj dj b->ACalls Tryz.prog 139 [ptr om 0,ag c5] z fun r z'=>∃M' d',MOb z' om ot M' d' b/\KM om ot Mj M' z z'/\Gro k (Wp neg (C2 v0 n (A5 q' rs))) Mj M' dj d'/\d'<=1000000/\(¬b<d'->∀t,Wp neg (C2 v0 n (A5 q' rs)) t->t∈Ax M' k)):=fun c5 bn=>e7.out n c5 Mj dj bn an.out.1 cj
       repeat' (first|refine Z1 ?_|(refine Z8 ?_;intro yb ya)|(refine Z4 ?_;clear ya yb)|(refine Z2 ?_ ?_<;>intro h ab<;>try exact Xp)|refine Z3 ?_|exact Zt|(apply ya.out;clear ya yb))
       refine Bt (Q:=fun e s' z''=>e= .normal/\s' 0=ptr om 0/\s' 5=sl idv (vt.length+1) (ic v0::List.map ic vt)/\s' 6=ptr z8.nobj 0/\s' 70=sl idn ns.length (Al ns)/\s' 71=ic ns.length/\s' 72=ic j/\∃o c5,s' 10=ptr o 0/\o<z''.nobj/\z''.obj o=c5/\EQ (C2 v0 n (A5 q' rs)) c5/\Keep z' z'') ?_ ?_
       ·refine A1 Ai (fun _=>True) [7] [0,1,2,3,4] 3 #[true,true,true,true,true,false,false,false] Aj9 (fun _ _ _ h=>by cases h.1) ?_;intro yb ya;refine Z3 ?_;refine ya.out _ ?_;clear ya yb;refine Ef (rs:=[5,6]) Aj9 (by simp) ?_;intro i hi;simp only[Ah2,Ail,Aj5]at hi;rcases hi with rfl|rfl
        ·refine Aq ?_;intro yb ya;refine Z3 ?_;refine ACalls.mono (dz _) ?_;rintro _ zb ⟨⟨_,rfl,ih5,ip5,in5,pc5,nc5,rfl,db,dd⟩,az⟩;have knb:=az.nobj;refine Z3 ?_;refine ya.out _ _ ⟨Ap az,?_⟩;clear ya yb;refine Am (i:=6) Aj9 ?_;refine Aq ?_;intro yb ya;refine Z3 ?_;refine ya.out _ _ ⟨Ap (az.new _),?_⟩;clear ya yb;refine Am (i:=7) Aj9 ?_;refine Aq ?_;intro yb ya;refine Z3 ?_;refine ya.out _ _ ⟨Br rfl,?_⟩;clear ya yb;refine A2 Aj9 ⟨rfl,Aj7,Aj7,Aj7,Aj7,Aj7,Aj7,zb.nobj,_,Aj8,Akb,Aj,⟨ih5,ip5,in5,pc5,nc5,rfl,db,dd⟩,(az.new _).put knb _⟩
        ·refine Aq ?_;intro yb ya;refine Z3 ?_;refine ya.out _ _ ⟨Ap ((Keep.refl _).new _),?_⟩;clear ya yb;refine Am (i:=5) Aj9 ?_;refine Aq ?_;intro yb ya;refine Z3 ?_;refine ACalls.mono (dz _) ?_;rintro _ zb ⟨⟨_,rfl,ih5,ip5,in5,pc5,nc5,rfl,db,dd⟩,az⟩;have knb:=az.nobj;simp only[Aa]at knb;have obb:=az.obj z'.nobj Aka;rw[Ao]at obb;refine Z3 ?_;refine ya.out _ _ ⟨Ap (((Keep.refl _).new _).trans az),?_⟩;clear ya yb;refine Am (i:=7) Aj9 ?_;refine Aq ?_;intro yb ya;refine Z3 ?_;refine ya.out _ _ ⟨Br rfl,?_⟩;clear ya yb;refine A2 Aj9 ⟨rfl,Aj7,Aj7,Aj7,Aj7,Aj7,Aj7,z'.nobj,_,Aj8,by simp only[Ab];omega,Aj,⟨ih5,ip5,in5,pc5,nc5,rfl,db,dd⟩,(((Keep.refl _).new _).trans az).put (Agn _) _⟩
       ·rintro e s2 zc ⟨rfl,f0,f5,f6,f70,f71,f72,oo,c5,f10,fk,oc5,bn,cq⟩;have knc:=cq.nobj;have fa:=fun z=>d7.out c5 bn z;obtain⟨ih5,ip5,in5,pc5,nc5,rfl,-,-⟩:=bn;have ee:zc.obj z8.nobj=[ic (A5 q' rs).head.p,sl ih3 (A5 q' rs).head.ts.length (Ac (A5 q' rs).head.ts),sl ip3 (A5 q' rs).parts.length pc3,sl in3 (A5 q' rs).nots.length nc3]:=by rw[cq.obj _ c6,ob']
        clear d7
        repeat' (first|refine Z1 ?_|(refine Z8 ?_;intro yb ya)|(refine Z4 ?_;clear ya yb)|(refine Z5 ?_;refine Xi (fa _ (cp.keep cq)) ?_;rintro _ _ ⟨M2,d2,e4,bg,d6,em,a6⟩;(have dp:Akc _:=d6;have fi:Akc _:=a6;clear d6 a6;have dk:=(b5.trans (KM.ofKeep cq)).trans bg;have d9:=bg.obj z8.nobj Aj6 fe.symm fb.symm;have kn2:=bg.nobj))|refine Z3 ?_|exact Zt|(apply ya.out;clear ya yb))
        have HN:Akc (Gro k (Wp neg q) M M2 d d2/\(¬b<d2->∀n∈ns.take (j+1),∀t,Wp neg (C2 v0 n (A5 q' rs)) t->t∈Ax M2 k)):=by
         refine⟨an.out.1.trans (dp.out.mono (dn.out n)),fun c7 u hu t ht=>?_⟩;rw[ff.out]at hu;rcases Ah8.1 hu with hu|hu
         ·have fm:=dp.out.le;exact dp.out.sub (an.out.2 Aj6 u hu t ht)
         ·simp at hu;subst hu;exact fi.out c7 t ht
        refine⟨ns.length-(j+1),Aj6,j+1,M2,d2,?_⟩
        ((repeat' refine Zi ?_ ?_)<;>first|exact Xq|exact e4|exact dk|exact HN|exact (by rw[d9,ee])|exact Xs)
      ·have eh:j=ns.length:=Aj6;subst eh
       repeat' (first|refine Z1 ?_|(refine Z8 ?_;intro yb ya)|(refine Z4 ?_;clear ya yb)|(refine Z2 ?_ ?_<;>intro h ab<;>try exact Xp)|refine Z3 ?_|exact Zt|(apply ya.out;clear ya yb))
       refine⟨_,rfl,Mj,dj,cp,b5,an.out.1,cj,fun c7 t ht=>?_⟩;obtain⟨n,hn,h1⟩:=dq.out t ht;rw[fg.out]at hn;exact an.out.2 c7 n (by rw[Ag7];exact hn) t h1
theorem cN (neg:Int->Bb->Prop)(om ot:Nat)(b:Int):∀(n:Nat) (V:List Int),V.length<=n->Aat neg om ot b V:=by
 intro n;induction n with
 |zero=>exact fun V hV=>P1 neg om ot b V (fun V' h=>Aj6)
 |succ n IH=>exact fun V hV=>P1 neg om ot b V (fun V' h=>IH V' Aj6)
def Sh (ar:Nat->Nat)(k:Nat)(t:Bb):Prop:=∃l:List Int,t=C4 l/\l.length=ar k/\∀x∈l,∃n:Nat,x=(n:Int)/\n<1026
structure RW (np:Nat)(ar:Nat->Nat)(r:Dx):Prop where
 rok:ROk np r
 nne:∀l∈r.body,l.neg=true->l.a.p≠r.head.p
 har:r.head.ts.length=ar r.head.p.toNat
 bar:∀l∈r.body,l.a.ts.length=ar l.a.p.toNat
 hc:∀t∈r.head.ts,t.1=false->∃n:Nat,t.2=(n:Int)/\n<1026
 hv:∀v,(true,v)∈r.head.ts->0<=v/\v<26
 bv:∀l∈r.body,∀v,(true,v)∈l.a.ts->0<=v/\v<26
 safe:∀v,(A7 r.head.ts v=true\/∃l∈r.body,l.neg=true/\A7 l.a.ts v=true)->∃l∈r.body,l.neg=false/\A7 l.a.ts v=true
theorem Acl {a:De}(h3:a.ts.length<=3)(ν:Nu):Lh a.ts (Be a ν)=true:=by
 unfold Lh;rw[Ag0];intro i hi;have hi:i<a.ts.length:=by simpa using hi
 have hg:(Be a ν)[i]?=some (En ν a.ts[i]):=by
  unfold Be;rw[Jy (by simpa using hi) (by simpa using h3)];simp
 unfold Sj;rw[Agz hi,hg];cases ht:a.ts[i]with
 |mk b n=>
  cases b with
  |false=>simp[En]
  |true=>
   have hm:(true,n)∈a.ts:=by rw[<-ht];exact Ain hi
   have:=Je (ν:=ν) h3 (hasV_iff.2 hm);unfold H4 at this;simp only;rw[this];simp[En]
theorem Abd {a:De}{t:Bb}{l:List Int}(h3:a.ts.length<=3)(ht:t=C4 l)(hl:l.length=a.ts.length)(hf:Lh a.ts t=true):∃μ,t=Be a μ:=by
 refine⟨fun v=>H4 t (Iz a.ts v),?_⟩;have:a.ts.map (En fun v=>H4 t (Iz a.ts v))=l:=by
  apply List.ext_getElem (by simp[hl]);intro i h1 h2;have hi:i<a.ts.length:=by simpa using h1
  unfold Lh at hf;rw[Ag0]at hf;have h:=hf i (by simpa using hi);have hg:t[i]?=some l[i]:=by rw[ht,Jy h2 Aj6]
  unfold Sj at h;rw[Agz hi,hg]at h;rw[List.getElem_map];cases he:a.ts[i]with
  |mk b n=>
   rw[he]at h;cases b with
   |false=>
    simp only[Aj4]at h;simp[En,h]
   |true=>
    simp only[Aj4]at h;rw[h];simp[En,H4]
 unfold Be;rw[this,ht]
theorem jR {M:MM}{nw:Int}{fr i:Nat}{l:Lit}{t:Bb}(h:t∈Wh M nw fr i l):t∈Ax M l.a.p:=by
 unfold Wh at h;split at h
 ·exact List.mem_of_mem_drop h
 ·exact h
theorem I7 {M:MM}{nw:Int}{fr:Nat}{b:List Lit}{p:Part}(h:p∈Nj M nw fr b):∃(l:Lit) (i:Nat),b[i]?=some l/\l.neg=false/\p=jS M nw fr (l,i):=by
 unfold Nj at h;obtain⟨⟨l,i⟩,hx,rfl⟩:=Aib.1 h;obtain⟨h1,h2⟩:=Ai7.1 hx;have:=List.mem_zipIdx_iff_getElem?.1 h1;exact⟨l,i,by simpa using this,by simpa using h2,rfl⟩
theorem qR {M:MM}{nw:Int}{fr:Nat}{b:List Lit}{l:Lit}{i:Nat}(h:b[i]?=some l)(hn:l.neg=false):jS M nw fr (l,i)∈Nj M nw fr b:=by
 unfold Nj;refine Aib.2 ⟨(l,i),Ai7.2 ⟨List.mem_zipIdx_iff_getElem?.2 (by simpa using h),by simp[hn]⟩,rfl⟩
def MSh (ar:Nat->Nat)(M:MM):Prop:=∀(k:Nat) (t:Bb),t∈Ax M (k:Int)->Sh ar k t
theorem Ac6 {z:St}{om ot:Nat}{M:MM}{d b:Int}{ar:Nat->Nat}{r:Dx}(hM:MOb z om ot M d b)(hS:MSh ar M)(hr:RW M.length ar r)(nw:Int)(fr:Nat):Rc (K4 M nw fr r)/\QV (K4 M nw fr r)/\∀v,inQ (K4 M nw fr r) v->v∈(List.range 26).map fun n:Nat=>(n:Int):=by
 have hk:∀l∈r.body,∃k:Nat,l.a.p=(k:Int)/\k<M.length:=hr.rok.bp;have ac:∀a∈Q9 r.body,∃l∈r.body,l.neg=true/\l.a=a:=fun a ha=>by
  obtain⟨l,hl,rfl⟩:=Aib.1 ha;obtain⟨h1,h2⟩:=Ai7.1 hl;exact⟨l,h1,h2,rfl⟩
 have ak:(Q9 r.body).length<=r.body.length:=by
  unfold Q9;rw[Ai1];exact Ai6 _ _
 have ae:∀l∈r.body,T3 (Ax M l.a.p)/\(Ax M l.a.p).length<=5000:=fun l hl=>by
  obtain⟨k,e,ai⟩:=hk l hl;have hg:M[k]?=some M[k]:=Agz ai;rw[e,B7 hg];have hm:=Ain ai;exact⟨hM.t3 _ hm,hM.ln _ hm⟩
 have hpl:(Nj M nw fr r.body).length<=r.body.length:=by
  unfold Nj;rw[Ai1];refine Ago (Ai6 _ _) (by simp)
 have aa:∀(l:Lit) (i:Nat),∀t∈(jS M nw fr (l,i)).tups,t∈Ax M l.a.p/\Lh l.a.ts t=true:=fun l i t ht=>by
  obtain⟨h1,h2⟩:=Ai7.1 ht;exact⟨jR h1,h2⟩
 have ab:∀v,inQ (K4 M nw fr r) v->0<=v/\v<26:=fun v ⟨a,ha,hv⟩=>by
  unfold atomsQ K4 at ha;simp only[Ah2,Ah8,Aib]at ha;rcases ha with rfl|⟨p,hp,rfl⟩|ha
  ·exact hr.hv v (hasV_iff.1 hv)
  ·obtain⟨l,i,h1,h2,rfl⟩:=I7 hp;exact hr.bv l (Ag1 h1) v (hasV_iff.1 hv)
  ·obtain⟨l,h1,h2,rfl⟩:=ac a ha;exact hr.bv l h1 v (hasV_iff.1 hv)
 refine⟨⟨⟨hr.rok.hd,Ago hpl hr.rok.bl,Ago ak hr.rok.bl,fun p hp=>?_,fun p hp=>?_,fun p hp=>?_,fun a ha=>?_⟩,fun p hp t ht=>?_,fun p hp=>?_,fun v hv=>?_⟩,fun a ha v hv=>(ab v ⟨a,ha,hasV_iff.2 hv⟩).1,fun v hv=>?_⟩
 ·obtain⟨l,i,h1,h2,rfl⟩:=I7 hp;exact hr.rok.ba l (Ag1 h1)
 ·obtain⟨l,i,h1,h2,rfl⟩:=I7 hp;have h3:=(ae l (Ag1 h1)).2;refine Ago (Ai6 _ _) ?_;unfold Wh;split
  ·simp;omega
  ·exact h3
 ·obtain⟨l,i,h1,h2,rfl⟩:=I7 hp;exact fun t ht=>(ae l (Ag1 h1)).1 t (aa l i t ht).1
 ·obtain⟨l,h1,h2,rfl⟩:=ac a ha;exact hr.rok.ba l h1
 ·obtain⟨l,i,h1,h2,rfl⟩:=I7 hp;have hl:=Ag1 h1;obtain⟨k,e,-⟩:=hk l hl;have h3:=(aa l i t ht).1;rw[e]at h3;obtain⟨m,rfl,ad,ah⟩:=hS k t h3;intro j hj;have af:m.length=l.a.ts.length:=by rw[ad,hr.bar l hl,e];rfl
  have aj:j<m.length:=by rw[af];exact hj
  obtain⟨n,an,am⟩:=ah m[j] (Ain aj);exact⟨n,by rw[Jy aj (by rw[af];exact hr.rok.ba l hl),an],am⟩
 ·obtain⟨l,i,h1,h2,rfl⟩:=I7 hp;have hl:=Ag1 h1;refine⟨hr.rok.ba l hl,fun t ht=>?_⟩;obtain⟨k,e,-⟩:=hk l hl;obtain⟨h3,h4⟩:=aa l i t ht;rw[e]at h3;obtain⟨m,ao,ad,ah⟩:=hS k t h3;exact Abd (a:=l.a) (hr.rok.ba l hl) ao (by rw[ad,hr.bar l hl,e];rfl) h4
 ·obtain⟨l,hl,au,ap⟩:=hr.safe v (by
   rcases hv with h|⟨a,ha,h⟩
   ·exact .inl h
   ·obtain⟨l,h1,h2,rfl⟩:=ac a ha
    exact .inr ⟨l,h1,h2,h⟩)
  obtain⟨i,hi⟩:=Aif hl;exact⟨jS M nw fr (l,i),qR hi au,ap⟩
 ·obtain⟨h1,h2⟩:=ab v hv;rw[Aib];exact⟨v.toNat,by simp;omega,Aj6⟩
theorem qQ {neg:Int->Bb->Prop}{M:MM}{nw:Int}{fr:Nat}{ar:Nat->Nat}{r:Dx}{t:Bb}(hr:RW M.length ar r):Wp neg (K4 M nw fr r) t↔∃ν,(∀(l:Lit) (i:Nat),r.body[i]?=some l->l.neg=false->Be l.a ν∈Wh M nw fr i l)/\(∀l∈r.body,l.neg=true->¬neg l.a.p (Be l.a ν))/\t=Be r.head ν:=by
 constructor
 ·rintro⟨ν,hν,rfl⟩;refine⟨ν,fun l i hi hn=>?_,fun l hl hn=>hν.2 l.a (Aib.2 ⟨l,Ai7.2 ⟨hl,hn⟩,rfl⟩),rfl⟩;have:=hν.1 _ (qR hi hn);exact (Ai7.1 this).1
 ·rintro⟨ν,h,h',rfl⟩;refine⟨ν,⟨fun p hp=>?_,fun a ha=>?_⟩,rfl⟩
  ·obtain⟨l,i,h1,h2,rfl⟩:=I7 hp;exact Ai7.2 ⟨h l i h1 h2,Acl (hr.rok.ba l (Ag1 h1)) ν⟩
  ·obtain⟨l,hl,rfl⟩:=Aib.1 ha;obtain⟨h1,h2⟩:=Ai7.1 hl;exact h' l h1 h2
abbrev Ct:=Nat->Bb->Prop
def ClD (R:List Dx)(D:Ct):Prop:=∀r∈R,∀ν,(∀l∈r.body,D l.a.p.toNat (Be l.a ν))->D r.head.p.toNat (Be r.head ν)
def LitH (N D:Ct)(ν:Nu)(l:Lit):Prop:=if l.neg=true then¬N l.a.p.toNat (Be l.a ν)else D l.a.p.toNat (Be l.a ν)
def ClG (R:List Dx)(N D:Ct):Prop:=∀r∈R,∀ν,(∀l∈r.body,LitH N D ν l)->D r.head.p.toNat (Be r.head ν)
theorem cU {R:List Dx}{N D:Ct}(h:∀r∈R,∀l∈r.body,l.neg=false):ClG R N D↔ClD R D:=by
 have key:∀r∈R,∀ν,(∀l∈r.body,LitH N D ν l)↔∀l∈r.body,D l.a.p.toNat (Be l.a ν):=fun r hr ν=>by
  constructor
  ·intro g l hl;have:=g l hl;unfold LitH at this;rw[h r hr l hl]at this;simpa using this
  ·intro g l hl;unfold LitH;rw[h r hr l hl];simpa using g l hl
 exact⟨fun g r hr ν hν=>g r hr ν ((key r hr ν).2 hν),fun g r hr ν hν=>g r hr ν ((key r hr ν).1 hν)⟩
def MD (M:MM):Ct:=fun k t=>t∈Ax M (k:Int)
def tot (M:MM):Int:=(Hs M).sum
structure GroA (D:Ct)(M M':MM)(d d':Int):Prop where
 len:M'.length=M.length
 ext:∀k:Nat,∃new:List Bb,Ax M' k=Ax M k++new/\new.Nodup/\∀t∈new,D k t/\t∉Ax M k
 cnt:d'-d=tot M'-tot M
theorem GroA.refl (D:Ct)(M:MM)(d:Int):GroA D M M d d:=⟨rfl,fun k=>⟨[],by simp,Ai0,by simp⟩,Aj6⟩
theorem GroA.trans {D:Ct}{M M1 M2:MM}{d d1 d2:Int}(h:GroA D M M1 d d1)(g:GroA D M1 M2 d1 d2):GroA D M M2 d d2:=by
 refine⟨g.len.trans h.len,fun k=>?_,by have:=h.cnt;have:=g.cnt;omega⟩;obtain⟨n1,a1,a2,a3⟩:=h.ext k;obtain⟨n2,b1,b2,b3⟩:=g.ext k;refine⟨n1++n2,by rw[b1,a1,Ahq],?_,?_⟩
 ·rw[Ajf];exact⟨a2,b2,fun x hx y hy e=>(b3 y hy).2 (by rw[a1,<-e];exact Ah8.2 (.inr hx))⟩
 ·intro t ht;rcases Ah8.1 ht with ht|ht
  ·exact a3 t ht
  ·exact⟨(b3 t ht).1,fun hm=>(b3 t ht).2 (by rw[a1];exact Ah8.2 (.inl hm))⟩
theorem GroA.sub {D:Ct}{M M':MM}{d d':Int}(h:GroA D M M' d d'){k:Nat}{t:Bb}(ht:t∈Ax M k):t∈Ax M' k:=by
 obtain⟨n,a1,-,-⟩:=h.ext k;rw[a1];exact Ah8.2 (.inl ht)
theorem GroA.inD {D:Ct}{M M':MM}{d d':Int}(h:GroA D M M' d d')(hD:∀k t,MD M k t->D k t):∀k t,MD M' k t->D k t:=fun k t ht=>by
 obtain⟨n,a1,-,a3⟩:=h.ext k;unfold MD at ht;rw[a1]at ht;rcases Ah8.1 ht with ht|ht
 ·exact hD k t ht
 ·exact (a3 t ht).1
theorem Di (x:Nat×List Bb)(M:MM):tot (x::M)=(x.2.length:Int)+tot M:=by simp[tot,Hs]
theorem O5:∀(M M':MM) (k:Nat) (n:Nat),M'.length=M.length->(∀j,j≠k->(M'[j]?).map (·.2)=(M[j]?).map (·.2))->(k<M.length->((Ax M' k).length:Int)=(Ax M k).length+n)->(M.length<=k->n=0)->tot M'=tot M+n
 |[],M',k,n,hl,ho,hk,hn=>by
  have:M'=[]:=Ag5 (by simpa using hl);subst this;have:=hn (by simp);subst this;simp[tot,Hs]
 |x::M,[],k,n,hl,ho,hk,hn=>by simp at hl
 |x::M,y::M',0,n,hl,ho,hk,hn=>by
  have h0:=hk (by simp);simp[Ax]at h0;have aa:tot M'=tot M+(0:Nat):=O5 M M' M.length 0 (by simpa using hl) (fun j hj=>by have:=ho (j+1) Aj6;simpa using this) (fun h=>Aj6) (fun _=>rfl);rw[Di,Di,aa];omega
 |x::M,y::M',k+1,n,hl,ho,hk,hn=>by
  have h0:=ho 0 Aj6;simp at h0
  have aa:=O5 M M' k n (by simpa using hl) (fun j hj=>by have:=ho (j+1) Aj6;simpa using this) (fun h=>by
   have:=hk (by simp;omega)
   simpa[Ax]using this) (fun h=>hn (by simp;omega))
  rw[Di,Di,aa,h0];omega
theorem Gro.all {k:Nat}{S:Bb->Prop}{D:Ct}{M M':MM}{d d':Int}(h:Gro k S M M' d d')(hk:k<M.length)(hS:∀t,S t->D k t):GroA D M M' d d':=by
 obtain⟨n,a1,a2,a3,a4⟩:=h.ext;refine⟨h.len,fun j=>?_,?_⟩
 ·by_cases e:j=k
  ·subst e;exact⟨n,a1,a2,fun t ht=>⟨hS t (a3 t ht).1,(a3 t ht).2⟩⟩
  ·refine⟨[],?_,Ai0,by simp⟩;have:=h.oth j e;unfold Ax;simp only[Ajn];rw[this];simp
 ·have:=O5 M M' k n.length h.len h.oth (fun _=>by rw[a1];simp) (fun hh=>Aj6);omega
theorem dC (a:Dx)(c:List AV)(h:aW a c):c.length=4:=by obtain⟨o,ih,ib,bc,rfl,-⟩:=h;rfl
theorem qW {l:List Dx}{cs:List AV}{i:Nat}{r:Dx}(h:EL aW l cs)(hi:l[i]?=some r):∃o ih ib bc rr,cs.drop (i*4)=sc (.bool o)::ic r.head.p::sl ih r.head.ts.length (Ac r.head.ts)::sl ib r.body.length bc::rr/\EL Qf r.body bc:=by
 obtain⟨c,rr,⟨o,ih,ib,bc,rfl,hB⟩,e⟩:=EL.get dC h hi;exact⟨o,ih,ib,bc,rr,e,hB⟩
def NgIn (R:List Dx)(D:Ct)(M:MM):Prop:=∀r∈R,∀l∈r.body,l.neg=true->∀t,D l.a.p.toNat t->MD M l.a.p.toNat t
theorem NgIn.gro {R:List Dx}{D:Ct}{M M':MM}{d d':Int}(h:NgIn R D M)(g:GroA D M M' d d'):NgIn R D M':=fun r hr l hl hn t ht=>g.sub (h r hr l hl hn t ht)
def ngD (D:Ct):Int->Bb->Prop:=fun p t=>D p.toNat t
structure Fol (np:Nat)(ar:Nat->Nat)(R:List Dx)(D:Ct):Prop where
 rw:∀r∈R,RW np ar r
 cl:ClG R D D
 sh:∀k t,D k t->Sh ar k t
theorem Ac5 {np:Nat}{ar:Nat->Nat}{R:List Dx}{D:Ct}{M:MM}{nw:Int}{fr:Nat}{r:Dx}(hF:Fol np ar R D)(hn:M.length=np)(hr:r∈R)(hD:∀k t,MD M k t->D k t){t:Bb}(ht:Wp (ngD D) (K4 M nw fr r) t):D r.head.p.toNat t:=by
 obtain⟨ν,h1,h2,rfl⟩:=(qQ (ar:=ar) (hn ▸ hF.rw r hr)).1 ht;refine hF.cl r hr ν (fun l hl=>?_);unfold LitH;cases aa:l.neg with
 |true=>simpa[ngD]using h2 l hl aa
 |false=>
  obtain⟨i,hi⟩:=Aif hl;obtain⟨k,hk,-⟩:=(hF.rw r hr).rok.bp l hl;have:=jR (h1 l i hi aa);rw[hk]at this;simp only[Ahv,if_false];rw[hk];exact hD k _ this
theorem Wg {np:Nat}{ar:Nat->Nat}{R:List Dx}{D:Ct}(hF:Fol np ar R D)(om ot:Nat)(b:Int)(ak: -1000000<=b)(aj:b<=900000)(M:MM)(d:Int)(hn:M.length=np)(hD:∀k t,MD M k t->D k t)(hNg:NgIn R D M)(hR:Room M d b)(ai: -1000000<=d)(ah:d<=1000000)(r:Dx)(hr:r∈R)(nw:Int)(fr:Nat)(c:List AV)(hc:EQ (K4 M nw fr r) c)(z:St)(hM:MOb z om ot M d b):
  ACalls Tryz.prog 139 [ptr om 0,ag c] z fun x z'=>∃M' d',MOb z' om ot M' d' b/\KM om ot M M' z z'/\GroA D M M' d d'/\Room M' d' b/\d'<=1000000/\d<=d'/\(¬b<d'->∀ν,(∀(l:Lit) (i:Nat),r.body[i]?=some l->l.neg=false->Be l.a ν∈Wh M nw fr i l)->(∀l∈r.body,l.neg=true->¬D l.a.p.toNat (Be l.a ν))->MD M' r.head.p.toNat (Be r.head ν)):=by
 have aa:RW M.length ar r:=hn ▸ hF.rw r hr;obtain⟨a1,a2,a3⟩:=Ac6 hM (fun k t ht=>hF.sh k t (hD k t ht)) aa nw fr;obtain⟨k,hk,ad⟩:=aa.rok.hp;have ac:∀a∈(K4 M nw fr r).nots,∃l∈r.body,l.neg=true/\l.a=a:=fun a ha=>by
  obtain⟨l,hl,rfl⟩:=Aib.1 ha;obtain⟨h1,h2⟩:=Ai7.1 hl;exact⟨l,h1,h2,rfl⟩
 have b1:NegOk (ngD D) M (K4 M nw fr r):=fun a ha=>by
  obtain⟨l,h1,h2,rfl⟩:=ac a ha;obtain⟨j,hj,af⟩:=aa.rok.bp l h1;have hg:M[j]?=some M[j]:=Agz af;refine⟨j,M[j],hj,hg,fun t=>?_⟩;have hT:=B7 hg;have e:l.a.p.toNat=j:=by rw[hj];rfl
  unfold ngD;rw[e];constructor
  ·intro ht;have:=hNg r hr l h1 h2 t (by rw[e];exact ht);rw[e]at this;unfold MD at this;rwa[hT]at this
  ·intro ht;exact hD j t (by unfold MD;rw[hT];exact ht)
 have b2:∀a∈(K4 M nw fr r).nots,a.p≠(k:Int):=fun a ha e=>by
  obtain⟨l,h1,h2,rfl⟩:=ac a ha;exact aa.nne l h1 h2 (by rw[e,hk])
 have:=cN (ngD D) om ot b _ _ (Agn _) (K4 M nw fr r) c k M d hc a1 b1 b2 a2 hk ad hR ai ah ak aj a3 z hM;refine ACalls.mono this ?_;rintro x z' ⟨M',d',h1,h2,h3,h4,h5⟩;have ab:r.head.p.toNat=k:=by rw[hk];rfl
 refine⟨M',d',h1,h2,h3.all ad (fun t ht=>by rw[<-ab];exact Ac5 hF hn hr hD ht),h3.room hR,h4,h3.le,fun ae ν hν hν'=>?_⟩;unfold MD;rw[ab];exact h5 ae _ ((qQ aa).2 ⟨ν,hν,hν',rfl⟩)
def NewR (D:Ct)(M0 M':MM)(seen:List Int)(r:Dx)(j:Nat):Prop:=∀(i:Nat) (l:Lit),i<j->r.body[i]?=some l->l.neg=false->∀ν,(∀l'∈r.body,LitH D (MD M0) ν l')->Be l.a ν∈(Ax M0 l.a.p).drop ((seen[l.a.p.toNat]?).getD 0).toNat->MD M' r.head.p.toNat (Be r.head ν)
theorem NewR.mono {D:Ct}{M0 M1 M2:MM}{seen:List Int}{r:Dx}{j:Nat}{d1 d2:Int}(h:NewR D M0 M1 seen r j)(g:GroA D M1 M2 d1 d2):NewR D M0 M2 seen r j:=fun i l hi hl hn ν h1 h2=>g.sub (h i l hi hl hn ν h1 h2)
theorem Sn {np:Nat}{ar:Nat->Nat}{R:List Dx}{D:Ct}(hF:Fol np ar R D)(om ot:Nat)(b:Int)(cd: -1000000<=b)(cc:b<=900000)(M:MM)(d:Int)(hn:M.length=np)(hD:∀k t,MD M k t->D k t)(hNg:NgIn R D M)(cf:Room M d b)(c9: -1000000<=d)(ca:d<=1000000)(rc:List AV)(idr:Nat)(bd:EL aW R rc)(db:R.length<=1000)(seen:List Int)(ids:Nat)(bz:seen.length=np)(b1:∀n∈seen,0<=n/\n<=5000)(z:St)(hM:MOb z om ot M d b):
  ACalls Tryz.prog 141 [ptr om 0,sl idr R.length rc,sl ids seen.length (Al seen)] z fun x z'=>∃M' d',MOb z' om ot M' d' b/\KM om ot M M' z z'/\GroA D M M' d d'/\Room M' d' b/\d'<=1000000/\d<=d'/\(¬b<d'->∀r∈R,NewR D M M' seen r r.body.length):=by
 have cx:=EL.length dC bd;have cv:=Bm seen;have hpl:=hM.pl;have cw:np<=seen.length:=Aj6;have c6:M.length<=np:=Aj6;have c5:np<=M.length:=Aj6;have bo:Akc (M.length=np):=hn;clear bz hn;refine Z9 59 [] Tryz.func141 ?_
 repeat' (first|refine Z1 ?_|(refine Z8 ?_;intro yb ya)|(refine Z4 ?_;clear ya yb)|refine Z3 ?_|exact Zt|(apply ya.out;clear ya yb))
 refine Af (fun m s z'=>∃(k:Nat) (M1:MM) (d1:Int),m=R.length-k/\k<=R.length/\s 0=ptr om 0/\s 2=sl ids seen.length (Al seen)/\s 12=sl idr R.length rc/\s 13=ic R.length/\s 14=ic k/\MOb z' om ot M1 d1 b/\KM om ot M M1 z z'/\d1<=1000000/\d<=d1/\Akc (GroA D M M1 d d1/\Room M1 d1 b/\(¬b<d1->∀r∈R.take k,NewR D M M1 seen r r.body.length))) R.length
  ⟨0,M,d,Aj6,Aj6,by simp[upd,initS],by simp[upd,initS],Aj8,Aj8,rfl,hM,KM.ofKeep (Keep.refl _),ca,Aj6,GroA.refl _ _ _,cf,fun _ r hr=>by simp at hr⟩ ?_
 rintro m s z' ⟨k,M1,d1,rfl,hk,h0,h2,bn,bm,bi,aw,an,am,ak,hG⟩;by_cases be:k<R.length
 ·have aa:=Agz be;obtain⟨o,ih,ib,bc,rr,hd,hB⟩:=qW bd aa;have ad:=Ain be;generalize R[k]=r at hd aa ad hB;have ct:Akc (R.take (k+1)=R.take k++[r]):=by rw[Akc,Ahd,aa,Ais]
  clear aa;have da:=EL.length Gs hB;have cb:=(hF.rw r ad).rok.bl;have l1:=aw.lo;have l2:=aw.lt
  repeat' (first|refine Z1 ?_|(refine Z8 ?_;intro yb ya)|(refine Z4 ?_;clear ya yb)|(refine Z2 ?_ ?_<;>intro h ac<;>try exact Xp)|refine Z3 ?_|exact Zt|(apply ya.out;clear ya yb))
  refine Af (fun m s z2=>∃(j:Nat) (M2:MM) (d2:Int),m=r.body.length-j/\j<=r.body.length/\s 0=ptr om 0/\s 2=sl ids seen.length (Al seen)/\s 7=ptr z'.nobj 0/\s 12=sl idr R.length rc/\s 13=ic R.length/\s 14=ic k/\s 19=sl ib r.body.length bc/\s 20=ic r.body.length/\s 21=ic j/\MOb z2 om ot M2 d2 b/\KM om ot M M2 z z2/\z'.nobj<z2.nobj/\z2.obj z'.nobj=[sc (.bool o),ic r.head.p,sl ih r.head.ts.length (Ac r.head.ts),sl ib r.body.length bc]/\d2<=1000000/\d<=d2/\Akc (GroA D M M2 d d2/\Room M2 d2 b/\(¬b<d2->(∀r∈R.take k,NewR D M M2 seen r r.body.length)/\NewR D M M2 seen r j))) r.body.length
   ⟨0,M1,d1,Aj6,Aj6,Aj7,Aj7,Aj8,Aj7,Aj7,Aj7,Aj8,Aj8,rfl,aw.keep (((Keep.refl _).new _).put (Agn _) _),an.trans (KM.ofKeep (((Keep.refl _).new _).put (Agn _) _)),Akb,Aj,am,ak,hG.out.1,hG.out.2.1,fun h=>⟨hG.out.2.2 h,fun i l hi=>Aj6⟩⟩ ?_
  have cr:om≠z'.nobj:=Aj6;have cq:ot≠z'.nobj:=Aj6;clear h0 h2 bn bm bi aw an hG am ak l1 l2;rintro m s z2 ⟨j,M2,d2,rfl,hj,h0,h2,h7,bn,bm,bi,de,dd,dc,af,au,cz,br,a8,b9,hG⟩;have l1:=af.lo;have l2:=af.lt;by_cases ay:j<r.body.length
  ·have aa:=Agz ay;obtain⟨id,r2,aj⟩:=Hl hB aa;have bf:=Ain ay;generalize r.body[j]=w at aj aa bf;obtain⟨p,hp,cy⟩:=(hF.rw r ad).rok.bp w bf;have HW:Akc (r.body[j]?=some w):=aa;clear aa;rw[hp]at aj;have a3:seen[p]?=some seen[p]:=Agz Aj6;obtain⟨rs,b7⟩:=Dl a3;have b0:=b1 _ (Ain (show p<seen.length by omega));generalize seen[p]=f at a3 b7 b0;obtain⟨fn,rfl⟩:∃fn:Nat,f=(fn:Int):=⟨f.toNat,Aj6⟩;have ck:M2.length<=M.length/\M.length<=M2.length:=by have:=hG.out.1.len;omega
   have ai:M2[p]?=some M2[p]:=Agz Aj6;generalize M2[p]=y at ai;have c8:=G8 ai;have cu:=af.ln y (Ag1 ai);have c7:=G7 M2;have obm:=af.ob;have obt:=af.oc;have b2:=af.pl;have ce:Akc (Ax M2 (p:Int)=y.2):=B7 ai
   --what this literal's turn must bring
   have ab:Akc (∀M3 d3,GroA D M2 M3 d2 d3->(¬b<d3->w.neg=false->∀ν,(∀l'∈r.body,LitH D (MD M) ν l')->Be w.a ν∈(Ax M w.a.p).drop fn->MD M3 r.head.p.toNat (Be r.head ν))->d2<=d3->(¬b<d3->(∀r∈R.take k,NewR D M M3 seen r r.body.length)/\NewR D M M3 seen r (j+1))):=fun M3 d3 bg ah b3 a5=>by
    obtain⟨g1,g2⟩:=hG.out.2.2 Aj6;refine⟨fun r' az=>(g1 r' az).mono bg,fun i l hi hl av ν a1 a2=>?_⟩;by_cases e:i=j
    ·subst e;rw[HW.out]at hl;obtain rfl:=Ai8 hl;refine ah a5 av ν a1 ?_;rw[hp]at a2⊢;rw[Ajn,a3]at a2;simpa using a2
    ·exact bg.sub (g2 i l Aj6 hl av ν a1 a2)
   cases ae:w.neg with
   |true=>
    have HN:Akc (GroA D M M2 d d2/\Room M2 d2 b/\(¬b<d2->(∀r∈R.take k,NewR D M M2 seen r r.body.length)/\NewR D M M2 seen r (j+1))):=
     ⟨hG.out.1,hG.out.2.1,ab.out M2 d2 (GroA.refl _ _ _) (fun _ hh=>by rw[ae]at hh;cases hh) Aj6⟩
    rw[ae]at aj;clear ab ae
    repeat' (first|refine Z1 ?_|(refine Z8 ?_;intro yb ya)|(refine Z4 ?_;clear ya yb)|(refine Z2 ?_ ?_<;>intro h ac<;>try exact Xp)|refine Z3 ?_|exact Zt|(apply ya.out;clear ya yb))
    refine A8 Ai (fun _=>True) [] [0,1,2,3,4,5,6,7,8,9,10,11,12,13,14,15,16] [] Aj9 (fun _ _ _ h=>h) ?_;intro yb ya
    repeat' (first|refine Z1 ?_|(refine Z8 ?_;intro yb ya)|(refine Z4 ?_;clear ya yb)|(refine Z2 ?_ ?_<;>intro h ac<;>try exact Xp)|refine Z3 ?_|exact Zt|(apply ya.out;clear ya yb))
    refine⟨r.body.length-(j+1),Aj6,j+1,M2,d2,?_⟩
    ((repeat' refine Zi ?_ ?_)<;>first|exact Xq|exact HN|exact (af.keep (((Keep.refl _).new _).put (Agn _) _))|exact (au.trans (KM.ofKeep (((Keep.refl _).new _).put (Agn _) _)))|exact Xs)
   |false=>
    rw[ae]at aj;clear ae
    repeat' (first|refine Z1 ?_|(refine Z8 ?_;intro yb ya)|(refine Z4 ?_;clear ya yb)|(refine Z2 ?_ ?_<;>intro h ac<;>try exact Xp)|refine Z3 ?_|exact Zt|(apply ya.out;clear ya yb))
    refine A8 Ai (fun _=>True) [] [0,1,2,3,4,5,6,7,8,9,10,11,12,13,14,15,16] [] Aj9 (fun _ _ _ h=>h) ?_;intro yb ya;by_cases a6:fn<y.2.length
    ·have b6:decide ((fn:Int)<(y.2.length:Int))=true:=by simp;exact a6
     have cp:=fun z (h:MOb z om ot M2 d2 b)=>aI om ot M2 d2 b r [sc (.bool o),ic r.head.p,sl ih r.head.ts.length (Ac r.head.ts),sl ib r.body.length bc] (j:Int) fn ⟨o,ih,ib,bc,rfl,hB⟩ (by have:=hG.out.1.len;rw[this,bo.out];exact (hF.rw r ad).rok) Aj6 z h;have cn:Akc (∀c3,EQ (K4 M2 (j:Int) fn r) c3->∀z,MOb z om ot M2 d2 b->ACalls Tryz.prog 139 [ptr om 0,ag c3] z fun x z'=>∃M' d',MOb z' om ot M' d' b/\KM om ot M2 M' z z'/\GroA D M2 M' d2 d'/\Room M' d' b/\d'<=1000000/\d2<=d'/\(¬b<d'->∀ν,(∀(l:Lit) (i:Nat),r.body[i]?=some l->l.neg=false->Be l.a ν∈Wh M2 (j:Int) fn i l)->(∀l∈r.body,l.neg=true->¬D l.a.p.toNat (Be l.a ν))->MD M' r.head.p.toNat (Be r.head ν))):=fun c3 h3 z hh=>
      Wg hF om ot b cd cc M2 d2 (by have:=hG.out.1.len;rw[this];exact bo.out) (hG.out.1.inD hD) (hNg.gro hG.out.1) hG.out.2.1 Aj6 a8 r ad (j:Int) fn c3 h3 z hh
     clear a6
     repeat' (first|refine Z1 ?_|(refine Z8 ?_;intro yb ya)|(refine Z4 ?_;clear ya yb)|(refine Z2 ?_ ?_<;>intro h ac<;>try exact Xp)|(refine Z5 ?_;first|(refine Xi (cp _ (af.keep (Xs))) ?_;rintro _ _ ⟨⟨_,rfl,ih3,ip3,in3,pc3,nc3,rfl,ch,ci⟩,ba⟩;(have a0:=ba.nobj;have ax:=ba.obj;simp only[Ab,Aa]at a0 ax;have cm:=(((Keep.refl z2).new _).put (Agn _) _).trans ba;have co:=cn.out _ ⟨ih3,ip3,in3,pc3,nc3,rfl,ch,ci⟩))|(refine Xi (co _ (af.keep (Xs))) ?_;rintro _ _ ⟨M3,d3,cj,ap,bh,cg,b8,a7,ah⟩;(have bq:Akc _:=bh;have bb:Akc _:=ah;clear bh ah;have kn3:=ap.nobj;simp only[Ab,Aa]at kn3;have bw:=ap.obj z'.nobj (by simp only[Ab,Aa];omega) cr.symm cq.symm;have a9:=(au.trans (KM.ofKeep ((cm.new _).put Aj6 _))).trans ap)))|refine Z3 ?_|exact Zt|(apply ya.out;clear ya yb))
     have HN:Akc (GroA D M M3 d d3/\Room M3 d3 b/\(¬b<d3->(∀r∈R.take k,NewR D M M3 seen r r.body.length)/\NewR D M M3 seen r (j+1))):=by
      refine⟨hG.out.1.trans bq.out,cg,ab.out M3 d3 bq.out (fun a5 _ ν a1 a2=>bb.out a5 ν (fun l i hl av=>?_) (fun l hl av=>by
       have:=a1 l hl;unfold LitH at this;rw[av]at this
       simpa using this)) a7⟩
      have ao:=Ag1 hl;obtain⟨p',a4,-⟩:=(hF.rw r ad).rok.bp l ao;obtain⟨nw,e1,-,-⟩:=hG.out.1.ext p';unfold Wh;by_cases e:(i:Int)=(j:Int)
      ·rw[if_pos e];have:i=j:=Aj6;subst this;rw[HW.out]at hl;obtain rfl:=Ai8 hl;rw[a4]at a2⊢;rw[e1,List.drop_append];exact Ah8.2 (.inl a2)
      ·rw[if_neg e];have:=a1 l ao;unfold LitH MD at this;rw[av,a4]at this;simp only[Ahv,if_false,Ajn]at this;rw[a4,e1];exact Ah8.2 (.inl this)
     refine⟨r.body.length-(j+1),Aj6,j+1,M3,d3,?_⟩;have bv:∀S:St,S.obj z'.nobj=z2.obj z'.nobj->S.obj z'.nobj=[sc (.bool o),ic r.head.p,sl ih r.head.ts.length (Ac r.head.ts),sl ib r.body.length bc]:=fun S e=>by rw[e,br]
     have bu:=bv _ (by rw[bw,Ah Aj6,Ag Aj6,ax _ Aj6,Ah Aj6,Ag Aj6])
     ((repeat' refine Zi ?_ ?_)<;>first|exact Xq|exact HN|exact cj|exact a9|exact bu|exact Xs)
    ·have b6:decide ((fn:Int)<(y.2.length:Int))=false:=by simp;omega
     have HN:Akc (GroA D M M2 d d2/\Room M2 d2 b/\(¬b<d2->(∀r∈R.take k,NewR D M M2 seen r r.body.length)/\NewR D M M2 seen r (j+1))):=by
      refine⟨hG.out.1,hG.out.2.1,ab.out M2 d2 (GroA.refl _ _ _) (fun _ _ ν _ a2=>?_) Aj6⟩;exfalso;obtain⟨nw,e1,-,-⟩:=hG.out.1.ext p;rw[ce.out]at e1;have b3:(Ax M (p:Int)).length<=y.2.length:=by rw[e1];simp
      rw[hp,Ag4 Aj6]at a2;cases a2
     clear a6 ab
     repeat' (first|refine Z1 ?_|(refine Z8 ?_;intro yb ya)|(refine Z4 ?_;clear ya yb)|(refine Z2 ?_ ?_<;>intro h ac<;>try exact Xp)|refine Z3 ?_|exact Zt|(apply ya.out;clear ya yb))
     refine⟨r.body.length-(j+1),Aj6,j+1,M2,d2,?_⟩
     ((repeat' refine Zi ?_ ?_)<;>first|exact Xq|exact HN|exact (af.keep (((Keep.refl _).new _).put (Agn _) _))|exact (au.trans (KM.ofKeep (((Keep.refl _).new _).put (Agn _) _)))|exact Xs)
  ·have b5:j=r.body.length:=Aj6;subst b5;have HN:Akc (GroA D M M2 d d2/\Room M2 d2 b/\(¬b<d2->∀r∈R.take (k+1),NewR D M M2 seen r r.body.length)):=by
    obtain⟨g1,g2,g3⟩:=hG.out;refine⟨g1,g2,fun h r' az=>?_⟩;rw[ct.out]at az;rcases Ah8.1 az with h'|h'
    ·exact (g3 h).1 r' h'
    ·simp at h';subst h';exact (g3 h).2
   repeat' (first|refine Z1 ?_|(refine Z8 ?_;intro yb ya)|(refine Z4 ?_;clear ya yb)|(refine Z2 ?_ ?_<;>intro h ac<;>try exact Xp)|refine Z3 ?_|exact Zt|(apply ya.out;clear ya yb))
   refine⟨R.length-(k+1),Aj6,k+1,M2,d2,?_⟩
   ((repeat' refine Zi ?_ ?_)<;>first|exact Xq|exact HN|exact Xs)
 ·have b4:k=R.length:=Aj6;subst b4;obtain⟨g1,g2,g3⟩:=hG.out;rw[Ag7]at g3
  repeat' (first|refine Z1 ?_|(refine Z8 ?_;intro yb ya)|(refine Z4 ?_;clear ya yb)|(refine Z2 ?_ ?_<;>intro h ac<;>try exact Xp)|refine Z3 ?_|exact Zt|(apply ya.out;clear ya yb))
  first|exact⟨_,rfl,M1,d1,aw,an,g1,g2,am,ak,g3⟩|exact⟨M1,d1,aw,an,g1,g2,am,ak,g3⟩
end Go.Proofs.YtmoeoppbmhfbpabGreatDoorL
