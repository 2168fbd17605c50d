import Derived.Test.YtmoeoppbmhfbpabGreatDoorHEngX
set_option linter.all false
namespace Go.Proofs.YtmoeoppbmhfbpabGreatDoorH
set_option maxHeartbeats 32000000
open Go.Abs
set_option maxRecDepth 100000
structure Gro (k:Nat)(S:Ca->Prop)(M M':MM)(d d':Int):Prop where
 len:M'.length=M.length
 oth:∀j,j≠k->(M'[j]?).map (·.2)=(M[j]?).map (·.2)
 ext:∃new:List Ca,A6 M' k=A6 M k++new/\new.Nodup/\(∀t∈new,S t/\t∉A6 M k)/\d'=d+new.length
theorem Gro.refl (k:Nat)(S:Ca->Prop)(M:MM)(d:Int):Gro k S M M d d:=⟨rfl,fun _ _=>rfl,[],by simp,Adc,by simp,by simp⟩
theorem Gro.trans {k:Nat}{S:Ca->Prop}{M M1 M2:MM}{d d1 d2:Int}(h:Gro k S M M1 d d1)(g:Gro k S M1 M2 d1 d2):Gro k S M M2 d d2:=by
 obtain⟨n1,a1,a2,a3,a4⟩:=h.ext;obtain⟨n2,b1,b2,b3,b4⟩:=g.ext;refine⟨g.len.trans h.len,fun j hj=>(g.oth j hj).trans (h.oth j hj),n1++n2,by rw[b1,a1,Ab4],?_,?_,?_⟩
 ·rw[Adb];exact⟨a2,b2,fun x hx y hy e=>(b3 y hy).2 (by rw[a1,<-e];exact Ack.2 (.inr hx))⟩
 ·intro t ht;rcases Ack.1 ht with ht|ht
  ·exact a3 t ht
  ·exact⟨(b3 t ht).1,fun hm=>(b3 t ht).2 (by rw[a1];exact Ack.2 (.inl hm))⟩
 ·rw[b4,a4];simp;omega
theorem Gro.mono {k:Nat}{S S':Ca->Prop}{M M':MM}{d d':Int}(h:Gro k S M M' d d')(hs:∀t,S t->S' t):Gro k S' M M' d d':=by
 obtain⟨n,a1,a2,a3,a4⟩:=h.ext;exact⟨h.len,h.oth,n,a1,a2,fun t ht=>⟨hs t (a3 t ht).1,(a3 t ht).2⟩,a4⟩
theorem Gro.sub {k:Nat}{S:Ca->Prop}{M M':MM}{d d':Int}(h:Gro k S M M' d d'){t:Ca}(ht:t∈A6 M k):t∈A6 M' k:=by
 obtain⟨n,a1,-,-,-⟩:=h.ext;rw[a1];exact Ack.2 (.inl ht)
theorem Gro.le {k:Nat}{S:Ca->Prop}{M M':MM}{d d':Int}(h:Gro k S M M' d d'):d<=d':=by
 obtain⟨n,-,-,-,a4⟩:=h.ext;omega
def Room (M:MM)(d b:Int):Prop:=∀x∈M,(x.2.length:Int)+(b-d)<=4000
theorem Gro.room {k:Nat}{S:Ca->Prop}{M M':MM}{d d' b:Int}(h:Gro k S M M' d d')(hr:Room M d b):Room M' d' b:=by
 intro x hx;obtain⟨j,hj⟩:=List.getElem?_of_mem hx;obtain⟨n,a1,-,-,a4⟩:=h.ext;have aa:j<M.length:=by rw[<-h.len];exact (List.getElem?_eq_some_iff.1 hj).1
 have hy:=List.getElem?_eq_getElem aa;have hb:=hr _ (Acz aa);by_cases e:j=k
 ·subst e;unfold A6 at a1;simp only[Adk,hj,hy,Option.map_some,Option.getD_some]at a1;rw[a1];simp only[Ab2];omega
 ·have:=h.oth j e;rw[hj,hy]at this;simp at this;rw[this];have:=h.le;omega
theorem Bw {M:MM}{k:Nat}{x:Nat×List Ca}(h:M[k]?=some x):A6 M (k:Int)=x.2:=by simp[A6,h]
theorem wA {M:MM}{k id:Nat}{x:Nat×List Ca}{t:Ca}{S:Ca->Prop}{d:Int}(hx:M[k]?=some x)(ht:t∉x.2)(hS:S t):Gro k S M (M.set k (id,x.2++[t])) d (d+1):=by
 have hk:=(List.getElem?_eq_some_iff.1 hx).1;refine⟨by simp,fun j hj=>by rw[List.getElem?_set_ne (fun e=>hj e.symm)],[t],?_,by simp,?_,by simp⟩
 ·rw[Bw hx,Bw (x:=(id,x.2++[t])) (by simp[hk])]
 ·intro u hu;simp at hu;subst hu;rw[Bw hx];exact⟨hS,ht⟩
theorem MOb.setd {z:St}{om ot:Nat}{M:MM}{d d' b:Int}(h:MOb z om ot M d b):MOb (z.put om [fx ot 0 M.length,ic d',ic b]) om ot M d' b where
 ob:=Aj
 oc:=by rw[show (z.put om [fx ot 0 M.length,ic d',ic b]).obj ot=z.obj ot from by simp[St.put];intro e;exact absurd e.symm h.ne];exact h.oc
 lo:=h.lo
 lt:=h.lt
 ne:=h.ne
 live:=h.live
 inj:=h.inj
 t3:=h.t3
 ln:=h.ln
 pl:=h.pl
theorem KM.setd {om ot:Nat}{M M':MM}{z z':St}(h:KM om ot M M' z z')(c:List AV):KM om ot M M' z (z'.put om c):=
 ⟨h.nobj,fun o ho h1 h2=>by rw[show (z'.put om c).obj o=z'.obj o from by simp[St.put,h1]];exact h.obj o ho h1 h2,fun o ho h1 h2=>by rw[show (z'.put om c).ver o=z'.ver o from by simp[St.put,h1]];exact h.ver o ho h1 h2,h.ntop,h.top,h.mid⟩
def Ug (neg:Int->Ca->Prop)(q:Qry)(t:Ca):Prop:=∃ν,J1 neg q ν/\t=Bq q.head ν
def tW (neg:Int->Ca->Prop)(om ot:Nat)(b:Int)(V:List Int):Prop:=∀(q:Qry) (c:List AV) (k:Nat) (M:MM) (d:Int),EQ q c->Pi q->NegOk neg M q->(∀a∈q.nots,a.p≠(k:Int))->QV q->q.head.p=(k:Int)->k<M.length->Room M d b-> -1000000<=d->d<=1000000-> -1000000<=b->b<=900000->(∀v,inQ q v->v∈V)->
 ∀z,MOb z om ot M d b->ACalls Tryz.prog 139 [ptr om 0,ag c] z fun r z'=>∃M' d',MOb z' om ot M' d' b/\KM om ot M M' z z'/\Gro k (Ug neg q) M M' d d'/\d'<=1000000/\(¬b<d'->∀t,Ug neg q t->t∈A6 M' k)
theorem NegOk.gro {neg:Int->Ca->Prop}{M M':MM}{q:Qry}{k:Nat}{S:Ca->Prop}{d d':Int}(h:NegOk neg M q)(hne:∀a∈q.nots,a.p≠(k:Int))(g:Gro k S M M' d d'):NegOk neg M' q:=fun a ha=>by
 obtain⟨j,x,h1,h2,h3⟩:=h a ha;have hj:j≠k:=fun e=>hne a ha (by rw[h1,e]);have:=g.oth j hj;rw[h2]at this;cases hy:M'[j]? with
 |none=>rw[hy]at this;simp at this
 |some y=>
  rw[hy]at this;simp at this;exact⟨j,y,h1,hy,fun t=>by rw[this];exact h3 t⟩
theorem N0 (neg:Int->Ca->Prop)(om ot:Nat)(b:Int)(V:List Int)(IH:∀V':List Int,V'.length<V.length->tW neg om ot b V'):tW neg om ot b V:=by
 intro q c k M d hc hA dd e5 hV hk c9 a7 fq cm eu et ci z hM;have a8:=fun z (h:MOb z om ot M d b)=>Mo om ot M d b z h;have cj:=hA.ok.hd;have em:q.head.ts.length<=1000:=Ad2;have be:=fun (id:Nat) z=>L3 q.head.p id q.head.ts em z;have bl:M[k]?=some M[k]:=List.getElem?_eq_getElem c9;generalize M[k]=x at bl;have b9:=fun (id:Nat) z (h:MOb z om ot M d b)=>Hq om ot M d b q.head id k x cj hk bl z h;have bf:=fun z (h:MOb z om ot M d b)=>Wo neg q c om ot M d b hc hA dd z h;have hT:A6 M (k:Int)=x.2:=Bw bl;obtain⟨ih,ip,inn,pc,nc,rfl,-,-⟩:=hc;have cp:∀cs,MOb (z.new cs) om ot M d b:=fun cs=>hM.keep ((Keep.refl z).new cs);by_cases ch:b<d
 ·rw[show decide (b<d)=true from by simpa using ch]at a8;rw[hk];clear b9 be bf;refine Z9 86 [] Tryz.func139 ?_
  repeat' (first|refine Z1 ?_|(refine Z8 ?_;intro κ hκ)|(refine Z4 ?_;clear hκ κ)|(refine Z2 ?_ ?_<;>intro h aa<;>try exact Xp)|(refine Z5 ?_;refine Xi (a8 _ (hM.keep (Xs))) ?_;rintro _ _ ⟨rfl,rfl⟩)|refine Z3 ?_|exact⟨⟩|(apply hκ.out;clear hκ κ))
  first|exact⟨_,rfl,M,d,cp _,KM.ofKeep ((Keep.refl z).new _),Gro.refl _ _ _ _,cm,fun h=>absurd ch h⟩|exact⟨M,d,cp _,KM.ofKeep ((Keep.refl z).new _),Gro.refl _ _ _ _,cm,fun h=>absurd ch h⟩
 ·have br:decide (b<d)=false:=by simpa using ch
  rw[br]at a8;have ac:=be ih;have aj:=b9 ih;rw[hk]at ac aj bf;rw[hk];have bp:∀z',Keep z z'->(∀t,Ug neg q t->t∈x.2)->∃M' d',MOb z' om ot M' d' b/\KM om ot M M' z z'/\Gro k (Ug neg q) M M' d d'/\d'<=1000000/\(¬b<d'->∀t,Ug neg q t->t∈A6 M' k):=fun z' d7 aw=>
   ⟨M,d,hM.keep d7,KM.ofKeep d7,Gro.refl _ _ _ _,cm,fun _ t ht=>by rw[hT];exact aw t ht⟩
  have ae:Ad8 _:=bp;clear bp br;cases hs:H1 q.head.ts with
  |true=>
   rw[hs]at ac;have ar:=fun ν=>Ng hs ν;by_cases hm:Cq q.head∈x.2
   ·rw[show decide (Cq q.head∈x.2)=true from by simpa using hm]at aj;have aw:∀t,Ug neg q t->t∈x.2:=fun t ⟨ν,_,e⟩=>by rw[e,ar];exact hm
    have cf:Ad8 _:=aw;clear aw ar b9 be bf;refine Z9 86 [] Tryz.func139 ?_
    repeat' (first|refine Z1 ?_|(refine Z8 ?_;intro κ hκ)|(refine Z4 ?_;clear hκ κ)|(refine Z2 ?_ ?_<;>intro h aa<;>try exact Xp)|(refine Z5 ?_;first|(refine Xi (a8 _ (hM.keep (Xs))) ?_;rintro _ _ ⟨rfl,rfl⟩)|(refine Xi (ac _) ?_;rintro _ _ ⟨rfl,an⟩;(have ak:=an.nobj;have ab:=an.obj;have bm:=((Keep.refl z).new _).trans an;simp only[Aa]at ak ab))|(refine Xi (aj _ (hM.keep (Xs))) ?_;rintro _ _ ⟨rfl,b7⟩;(have b3:=bm.trans b7)))|refine Z3 ?_|exact⟨⟩|(apply hκ.out;clear hκ κ))
    first|exact⟨_,rfl,ae.out _ b3 cf.out⟩|exact ae.out _ b3 cf.out
   ·rw[show decide (Cq q.head∈x.2)=false from by simpa using hm]at aj;have fj:Ad8 (Cq q.head∉x.2):=hm;clear hm;have ct:∀(id:Nat) z,ACalls Tryz.prog 131 [ag [ic (k:Int),sl id q.head.ts.length (Ac q.head.ts)]] z fun r z'=>r=sc (.bool true)/\Keep z z':=fun id z=>by
     have:=be id z;rw[hk,hs]at this;exact this
    have d6:=fun (id:Nat) z (h:MOb z om ot M d b)=>Te om ot M d b q.head id k x cj hk bl (by
     have:=a7 x (Abh bl)
     omega) z h
    rw[hk]at d6;have b8:=P0 neg om ot M d b V.length V (Abb _);clear be b9 cp;refine Z9 86 [] Tryz.func139 ?_
    repeat' (first|refine Z1 ?_|(refine Z8 ?_;intro κ hκ)|(refine Z4 ?_;clear hκ κ)|(refine Z2 ?_ ?_<;>intro h aa<;>try exact Xp)|(refine Z5 ?_;first|(refine Xi (a8 _ (hM.keep (Xs))) ?_;rintro _ _ ⟨rfl,rfl⟩)|(refine Xi (ac _) ?_;rintro _ _ ⟨rfl,an⟩;(have ak:=an.nobj;have ab:=an.obj;have bm:=((Keep.refl z).new _).trans an;simp only[Aa]at ak ab))|(refine Xi (aj _ (hM.keep (Xs))) ?_;rintro _ _ ⟨rfl,b7⟩;(have ee:=b7.nobj;have bo:=b7.obj;have b3:=bm.trans b7;clear ac))|(refine Xi (bf _ (hM.keep (Xs))) ?_;rintro _ _ ⟨⟨c',(⟨rfl,ej,en,bv⟩|⟨q',rfl,⟨ih2,ip2,in2,pc2,nc2,rfl,cn,co⟩,a4,de,ah,au⟩)⟩,ai⟩))|refine Z3 ?_|exact⟨⟩|(apply hκ.out;clear hκ κ))
    ·have bc:=ai.nobj;have o4:=ai.obj z.nobj Ad2;rw[bo _ Ad2,ab _ Ad2,Am]at o4;have ay:=b3.trans ai;have cd:Ad8 (∀ν,¬J1 neg q ν):=bv;clear bv
     repeat' (first|refine Z1 ?_|(refine Z8 ?_;intro κ hκ)|(refine Z4 ?_;clear hκ κ)|(refine Z2 ?_ ?_<;>intro h aa<;>try exact Xp)|refine Z3 ?_|exact⟨⟩|(apply hκ.out;clear hκ κ))
     first|exact⟨_,rfl,ae.out _ (ay.put Ad2 _) (fun t ⟨ν,h,_⟩=>absurd h (cd.out ν))⟩|exact ae.out _ (ay.put Ad2 _) (fun t ⟨ν,h,_⟩=>absurd h (cd.out ν))
    ·have bc:=ai.nobj;have o4:=ai.obj z.nobj Ad2;rw[bo _ Ad2,ab _ Ad2,Am]at o4;have ay:=b3.trans ai;have he:q'.head=q.head:=ah.hd;have ax:NegOk neg M q':=dd.sub fun a ha=>⟨a,(au a ha).1,rfl⟩;have am:eE ⟨⟨0,[]⟩,q'.parts,q'.nots⟩:=fun v hv=>a4.wf v (.inr (hv.resolve_left (by simp[Bc])))
     have cu:=fun z (h:MOb z om ot M d b)=>b8 ⟨⟨0,[]⟩,q'.parts,q'.nots⟩ [ic 0,nilS,sl ip2 q'.parts.length pc2,sl in2 q'.nots.length nc2] ⟨1,ip2,in2,pc2,nc2,rfl,cn,co⟩ (Kc a4 (by simp) (Adr _) (Adr _) am) (ax.sub fun a ha=>⟨a,ha,rfl⟩)
      (fun a ha v hv=>by
       have:a∈atomsQ q'\/a=⟨0,[]⟩:=by
        unfold atomsQ at ha⊢;simp only[Ace,Ack,Acm]at ha⊢;rcases ha with h|h|h
        ·exact .inr h
        ·exact .inl (.inr (.inl h))
        ·exact .inl (.inr (.inr h))
       rcases this with h|rfl
       ·exact hV a (ah.at_ a h) v hv
       ·cases hv) rfl (fun v hv=>by
       obtain⟨p,hp,bq⟩:=S7 (q:=⟨⟨0,[]⟩,q'.parts,q'.nots⟩) am hv
       exact ci v (inQ.sub ah.at_ ⟨p.a,Jd hp,bq⟩)) z h
     have e0:∀ν,J1 neg (⟨⟨0,[]⟩,q'.parts,q'.nots⟩:Qry) ν↔J1 neg q' ν:=fun ν=>Iff.rfl;have HE:Ad8 (q'.head=q.head):=he;simp only[he,hk];clear he b8 bf aj a8
     repeat' (first|refine Z1 ?_|(refine Z8 ?_;intro κ hκ)|(refine Z4 ?_;clear hκ κ)|(refine Z2 ?_ ?_<;>intro h aa<;>try exact Xp)|(refine Z5 ?_;first|(refine Xi (cu _ (hM.keep (Xs))) ?_;rintro _ _ ⟨⟨bb,rfl,bz⟩,bi⟩;(have ce:Ad8 _:=bz;clear bz;have ba:=bi.nobj;have a9:=bi.obj;simp only[Ab]at ba a9;have b4:=(ay.put Ad2 _).trans bi))|(refine Xi (ct _ _) ?_;rintro _ _ ⟨rfl,bh⟩;(have cy:=bh.nobj;have cw:=bh.obj;have di:=b4.trans bh))|(refine Xi (d6 _ _ (hM.keep (Xs))) ?_;rintro _ _ ⟨id',dh,b6⟩;(generalize b2:M.set k (id',x.2++[Cq q.head])=M7 at dh b6;have eb:Ad8 _:=b2;clear b2;have fl:=dh.ob;have dl:=KM.trans (KM.ofKeep di) b6)))|refine Z3 ?_|exact⟨⟩|(apply hκ.out;clear hκ κ))
     ·exact⟨_,rfl,ae.out _ b4 (fun t ⟨ν,hν,_⟩=>absurd (ce.out.2 ⟨ν,ah.to ν hν⟩) (by rw[h];simp))⟩
     ·have da:bb=true:=by assumption
      obtain⟨ν,hν⟩:=ce.out.1 da;obtain⟨ν',hν',-⟩:=ah.back ν hν;have fb:Ug neg q (Cq q.head):=⟨ν',hν',(ar ν').symm⟩;have fc:Gro k (Ug neg q) M M7 d (d+1):=by rw[<-eb.out];exact wA bl fj.out fb
      have ez:Cq q.head∈A6 M7 k:=by
       rw[<-eb.out,Bw (x:=(id',x.2++[Cq q.head])) (by simp[c9])];simp
      exact⟨_,rfl,M7,d+1,dh.setd,dl.setd _,fc,Ad2,fun _ t ⟨μ,_,e⟩=>by rw[e,ar];exact ez⟩
  |false=>
   rw[hs]at ac;have ct:∀(id:Nat) z,ACalls Tryz.prog 131 [ag [ic (k:Int),sl id q.head.ts.length (Ac q.head.ts)]] z fun r z'=>r=sc (.bool false)/\Keep z z':=fun id z=>by
    have:=be id z;rw[hk,hs]at this;exact this
   have b8:=P0 neg om ot M d b V.length V (Abb _);obtain⟨v0,vt,cg⟩:∃v0 vt,Cb [q.head]=v0::vt:=by
    cases hv:Cb [q.head]with
    |nil=>
     exfalso;have:H1 q.head.ts=true:=by
      unfold H1;rw[Abg];rintro⟨t1,t2⟩ ht;cases t1 with
      |false=>rfl
      |true=>
       have:t2∈Cb [q.head]:=(Cv _ _).2 ⟨q.head,by simp,ht⟩;rw[hv]at this;cases this
     rw[this]at hs;cases hs
    |cons v0 vt=>exact⟨v0,vt,rfl⟩
   have af:=fun (idh i:Nat) (z:St)=>F6 [q.head] [ic q.head.p,sl idh q.head.ts.length (Ac q.head.ts)] i (EL.single ⟨idh,rfl⟩) (by simp;exact cj) (by simp) z;have dv:=Eh (l:=[q.head]) (by simp;exact cj);have du:∀v,Bc q.head.ts v=true->v∈v0::vt:=fun v hv=>by rw[<-cg];exact (Cv _ _).2 ⟨q.head,by simp,hasV_iff.1 hv⟩
   have dx:Bc q.head.ts v0=true:=by
    have:v0∈Cb [q.head]:=by rw[cg];simp
    obtain⟨a,ha,h⟩:=(Cv _ _).1 this;simp at ha;subst ha;exact hasV_iff.2 h
   rw[cg]at af dv;simp only[Aca,Ab9,Ar,Abx,Ab1,hk]at af;simp only[Aca,Ab9,Ab1]at dv;have c6:(v0::vt).length<=200:=by simp;omega
   clear be b9 cp cg;refine Z9 86 [] Tryz.func139 ?_
   repeat' (first|refine Z1 ?_|(refine Z8 ?_;intro κ hκ)|(refine Z4 ?_;clear hκ κ)|(refine Z2 ?_ ?_<;>intro h aa<;>try exact Xp)|(refine Z5 ?_;first|(refine Xi (a8 _ (hM.keep (Xs))) ?_;rintro _ _ ⟨rfl,rfl⟩)|(refine Xi (ac _) ?_;rintro _ _ ⟨rfl,an⟩;(have ak:=an.nobj;have ab:=an.obj;have bm:=((Keep.refl z).new _).trans an;simp only[Aa]at ak ab;clear ac))|(refine Xi (bf _ (hM.keep (Xs))) ?_;rintro _ _ ⟨⟨c',(⟨rfl,ej,en,bv⟩|⟨q',rfl,⟨ih2,ip2,in2,pc2,nc2,rfl,cn,co⟩,a4,de,ah,au⟩)⟩,ai⟩))|refine Z3 ?_|exact⟨⟩|(apply hκ.out;clear hκ κ))
   ·have bc:=ai.nobj;have o4:=ai.obj z.nobj Ad2;rw[ab _ Ad2,Am]at o4;have ay:=bm.trans ai;have cd:Ad8 (∀ν,¬J1 neg q ν):=bv;clear bv
    repeat' (first|refine Z1 ?_|(refine Z8 ?_;intro κ hκ)|(refine Z4 ?_;clear hκ κ)|(refine Z2 ?_ ?_<;>intro h aa<;>try exact Xp)|refine Z3 ?_|exact⟨⟩|(apply hκ.out;clear hκ κ))
    first|exact⟨_,rfl,ae.out _ (ay.put Ad2 _) (fun t ⟨ν,h,_⟩=>absurd h (cd.out ν))⟩|exact ae.out _ (ay.put Ad2 _) (fun t ⟨ν,h,_⟩=>absurd h (cd.out ν))
   ·have bc:=ai.nobj;have o4:=ai.obj z.nobj Ad2;rw[ab _ Ad2,Am]at o4;have ay:=bm.trans ai;have he:q'.head=q.head:=ah.hd;have ax:NegOk neg M q':=dd.sub fun a ha=>⟨a,(au a ha).1,rfl⟩;have am:eE ⟨⟨0,[]⟩,q'.parts,q'.nots⟩:=fun v hv=>a4.wf v (.inr (hv.resolve_left (by simp[Bc])))
    have cu:=fun z (h:MOb z om ot M d b)=>b8 ⟨⟨0,[]⟩,q'.parts,q'.nots⟩ [ic 0,nilS,sl ip2 q'.parts.length pc2,sl in2 q'.nots.length nc2] ⟨1,ip2,in2,pc2,nc2,rfl,cn,co⟩ (Kc a4 (by simp) (Adr _) (Adr _) am) (ax.sub fun a ha=>⟨a,ha,rfl⟩)
     (fun a ha v hv=>by
      have:a∈atomsQ q'\/a=⟨0,[]⟩:=by
       unfold atomsQ at ha⊢;simp only[Ace,Ack,Acm]at ha⊢;rcases ha with h|h|h
       ·exact .inr h
       ·exact .inl (.inr (.inl h))
       ·exact .inl (.inr (.inr h))
      rcases this with h|rfl
      ·exact hV a (ah.at_ a h) v hv
      ·cases hv) rfl (fun v hv=>by
      obtain⟨p,hp,bq⟩:=S7 (q:=⟨⟨0,[]⟩,q'.parts,q'.nots⟩) am hv
      exact ci v (inQ.sub ah.at_ ⟨p.a,Jd hp,bq⟩)) z h
    have ca:EQ q' [ic (k:Int),sl ih2 q.head.ts.length (Ac q.head.ts),sl ip2 q'.parts.length pc2,sl in2 q'.nots.length nc2]:=⟨ih2,ip2,in2,pc2,nc2,by rw[he,hk],cn,co⟩;have db:=fun (id:Nat) z=>Px q' _ (v0::vt) id ca a4.ok c6 z;simp only[Aca,Ar,Abx]at db;have HE:Ad8 (q'.head=q.head):=he;simp only[he,hk];clear he b8 bf a8 ca;have dw:=af ih2;clear af
    repeat' (first|refine Z1 ?_|(refine Z8 ?_;intro κ hκ)|(refine Z4 ?_;clear hκ κ)|(refine Z2 ?_ ?_<;>intro h aa<;>try exact Xp)|(refine Z5 ?_;first|(refine Xi (cu _ (hM.keep (Xs))) ?_;rintro _ _ ⟨⟨bb,rfl,bz⟩,bi⟩;(have ce:Ad8 _:=bz;clear bz;have ba:=bi.nobj;have a9:=bi.obj;simp only[Ab]at ba a9;have b4:=(ay.put Ad2 _).trans bi))|(refine Xi (ct _ _) ?_;rintro _ _ ⟨rfl,bh⟩;(have cy:=bh.nobj;have cw:=bh.obj;have di:=b4.trans bh))|(refine Xi (dw _ _) ?_;rintro _ _ ⟨⟨idv,rfl⟩,dn⟩;(have cx:=dn.nobj;have cv:=dn.obj;simp only[Ah,As]at cx cv;have e8:=(di.lay 1).trans dn))|(refine Xi (db _ _) ?_;rintro _ _ ⟨⟨_,_,rs,rfl,⟨ih3,ip3,in3,pc3,nc3,rfl,e4,e6⟩,⟨ih4,ip4,in4,pc4,nc4,rfl,fr,fs⟩,hG,hC⟩,d8⟩;(have ed:=d8.nobj;have HC:Ad8 _:=hC;have HG:Ad8 _:=hG;clear hC hG;have e9:=e8.trans d8)))|refine Z3 ?_|exact⟨⟩|(apply hκ.out;clear hκ κ))
    ·exact⟨_,rfl,ae.out _ b4 (fun t ⟨ν,hν,_⟩=>absurd (ce.out.2 ⟨ν,ah.to ν hν⟩) (by rw[h];simp))⟩
    ·rename_i z8;have da:bb=true:=by assumption
     have dp:EQ (Bb q' rs) [ic (Bb q' rs).head.p,sl ih3 (Bb q' rs).head.ts.length (Ac (Bb q' rs).head.ts),sl ip3 (Bb q' rs).parts.length pc3,sl in3 (Bb q' rs).nots.length nc3]:=⟨ih3,ip3,in3,pc3,nc3,rfl,e4,e6⟩;have hrs:∀v∈v0::vt,v∈rs:=fun v hv=>by
      obtain⟨ad,e,-,-⟩:=HG.out;rw[e];exact Ack.2 (.inl hv)
     have ap:Pi (Bb q' rs):=Kc a4 a4.ok.hd Ads Ads (Y5 a4.wf HC.out (fun v hv=>hrs v (du v (by rw[<-HE.out];exact hv))));have d0:QV (Bb q' rs):=fun a ha w hw=>by
      obtain⟨a',ey,ef⟩:=Ns (rs:=rs) ⟨a,ha,hasV_iff.2 hw⟩;exact hV a' (ah.at_ a' ey) w (hasV_iff.1 ef)
     have dy:(Bb q' rs).head.p=(k:Int):=by show q'.head.p=_;rw[HE.out,hk]
     have bw:∀w,inQ (Bb q' rs) w->w∈V:=fun w hw=>ci w (inQ.sub ah.at_ (Ns hw));have bd:v0∈V:=ci v0 ⟨q.head,by simp[atomsQ],dx⟩;have d1:(V.erase v0).length<V.length:=by
      rw[List.length_erase_of_mem bd];have:=List.length_pos_of_mem bd;omega
     have IHb:=IH (V.erase v0) d1;obtain⟨μ,hμ⟩:=ce.out.1 da
     --what the near part brings,the query brings
     have b0:∀n t,Ug neg (Cu v0 n (Bb q' rs)) t->Ug neg q t:=fun n t ⟨ν,hν,e⟩=>by
      have h1:=(Qi ap.w).1 hν;have h2:=V0 HC.out h1 (jW (rs:=rs) hμ);obtain⟨ν',hν',ew⟩:=ah.back _ h2;refine⟨ν',hν',?_⟩;rw[e];show Bq (Ey v0 n (Bb q' rs).head) ν=_;rw[Ja];show Bq q'.head _=_;rw[HE.out];apply Ej;intro v hv;rw[ew v ⟨q'.head,by simp[atomsQ],by rw[HE.out];exact hv⟩];rw[if_pos (hrs v (du v hv))]
     have cb:∀t,Ug neg q t->∃n∈Jx (Bb q' rs) v0,Ug neg (Cu v0 n (Bb q' rs)) t:=fun t ⟨ν,hν,e⟩=>by
      have h2:=aO (rs:=rs) (ah.to ν hν);obtain⟨p,hp,bq⟩:=ap.wf v0 (.inl (by show Bc q'.head.ts v0=true;rw[HE.out];exact dx));have a5:Lm ν v0 (ν v0)=ν:=by
       funext w;unfold Lm;split
       ·rename_i e;rw[e]
       ·rfl
      refine⟨ν v0,iU ap.w h2 ⟨p,hp,bq⟩,ν,(Qi ap.w).2 (by rw[a5];exact h2),?_⟩;rw[e];show _=Bq (Ey v0 (ν v0) (Bb q' rs).head) ν;rw[Ja,a5];show _=Bq q'.head ν;rw[HE.out]
     have dq:Ad8 _:=b0;have dt:Ad8 _:=cb;have dz:=fun z=>Jl (Bb q' rs) _ v0 dp ap.ok ap.n z;have eg:=Q7 ap.n v0;have e3:=fun n z=>Tb (Bb q' rs) _ v0 n dp ap.ok z;generalize bu:Jx (Bb q' rs) v0=ns at dz eg;have fi:Ad8 _:=bu;have fo:=Bn ns;have b1:∀{n:Int},∀a∈(Cu v0 n (Bb q' rs)).nots,a.p≠(k:Int):=fun {n} a ha=>by
      obtain⟨a0,h0,rfl⟩:=Acm.1 ha;exact e5 a0 (au a0 (Adi.1 h0).1).1
     have fa:Ad8 (∀(n:Int) (c5:List AV) (Mj:MM) (dj:Int),EQ (Cu v0 n (Bb q' rs)) c5->Gro k (Ug neg q) M Mj d dj->dj<=1000000->∀z,MOb z om ot Mj dj b->ACalls Tryz.prog 139 [ptr om 0,ag c5] z fun r z'=>∃M' d',MOb z' om ot M' d' b/\KM om ot Mj M' z z'/\Gro k (Ug neg (Cu v0 n (Bb q' rs))) Mj M' dj d'/\d'<=1000000/\(¬b<d'->∀t,Ug neg (Cu v0 n (Bb q' rs)) t->t∈A6 M' k)):=fun n c5 Mj dj bn ao ck z cq=>
      IHb (Cu v0 n (Bb q' rs)) c5 k Mj dj bn (bB ap) (((ax.near rs).put v0 n).gro b1 ao) b1 (fun a ha w hw=>by
       obtain⟨⟨b',ev,er⟩,-⟩:=Qs (q:=Bb q' rs) (v:=v0) (n:=n) (w:=w) ⟨a,ha,hasV_iff.2 hw⟩;exact d0 b' ev w (hasV_iff.1 er)) dy (by rw[ao.len];exact c9) (ao.room a7) (by have:=ao.le;omega) ck eu et (fun w hw=>by
       obtain⟨h1,h2⟩:=Qs hw
       exact (List.mem_erase_of_ne h2).2 (bw w h1)) z cq
     clear bu b0 cb IHb IH d1 bd bw cu ct dw db ap d0 dp dy;have d5:Keep z ((((z8.new [ic 0,nilS,nilS,nilS]).new [ic 0,nilS,nilS,nilS]).put z8.nobj [ic (Bb q' rs).head.p,sl ih3 (Bb q' rs).head.ts.length (Ac (Bb q' rs).head.ts),sl ip3 (Bb q' rs).parts.length pc3,sl in3 (Bb q' rs).nots.length nc3]).put (z8.nobj+1) [ic (Gt q' rs).head.p,sl ih4 (Gt q' rs).head.ts.length (Ac (Gt q' rs).head.ts),sl ip4 (Gt q' rs).parts.length pc4,sl in4 (Gt q' rs).nots.length nc4]):=(((e9.new _).new _).put Ad2 _).put Ad2 _;generalize cz:((((z8.new [ic 0,nilS,nilS,nilS]).new [ic 0,nilS,nilS,nilS]).put z8.nobj [ic (Bb q' rs).head.p,sl ih3 (Bb q' rs).head.ts.length (Ac (Bb q' rs).head.ts),sl ip3 (Bb q' rs).parts.length pc3,sl in3 (Bb q' rs).nots.length nc3]).put (z8.nobj+1) [ic (Gt q' rs).head.p,sl ih4 (Gt q' rs).head.ts.length (Ac (Gt q' rs).head.ts),sl ip4 (Gt q' rs).parts.length pc4,sl in4 (Gt q' rs).nots.length nc4])=z9 at*
     have n9:z9.nobj=z8.nobj+2:=by rw[<-cz];rfl
     have o9:z9.obj z8.nobj=[ic (Bb q' rs).head.p,sl ih3 (Bb q' rs).head.ts.length (Ac (Bb q' rs).head.ts),sl ip3 (Bb q' rs).parts.length pc3,sl in3 (Bb q' rs).nots.length nc3]:=by rw[<-cz,Ai Ad2,Aj]
     clear cz;refine Br (Q:=fun e s' z''=>e= .normal/\s' 0=ptr om 0/\s' 5=sl idv (vt.length+1) (ic v0::List.map ic vt)/\s' 6=ptr z8.nobj 0/\(∃idn,s' 70=sl idn ns.length (Ar ns))/\s' 71=ic ns.length/\s' 72=ic 0/\Keep z9 z'') ?_ ?_
     ·refine A4 Ak (fun _=>True) [] [0,1,2,3,6] 2 #[true,true,true,true,false,false,true] Ad5 (fun _ _ _ h=>by cases h.1) ?_;intro κ hκ;refine Z3 ?_;refine hκ.out _ ?_;clear hκ κ;refine Al (i:=4) Ad5 ?_;refine Aq ?_;intro κ hκ;refine Z3 ?_;refine ACalls.mono (dz _) ?_;rintro _ za ⟨⟨idn,rfl⟩,a3⟩;refine Z3 ?_;refine hκ.out _ _ ⟨Ao a3,?_⟩;clear hκ κ;refine Ei [5] Ad5 Ad5 (fun _ _ _ h=>by cases h.1) a3.nobj (fun o ho _=>a3.ver o ho) ?_;intro κ hκ;refine Z3 ?_;refine hκ.out _ _ ⟨rfl,?_⟩;refine⟨by simp[upd,initS],Ad4,Ad4,⟨idn,Ad4⟩,Ad3,Ad4,a3⟩
     ·rintro e s z9' ⟨rfl,g0,g5,g6,⟨idn,g70⟩,g71,g72,a3⟩;have kna:=a3.nobj;have dk:=d5.trans a3;have oa:z9'.obj z8.nobj=[ic (Bb q' rs).head.p,sl ih3 (Bb q' rs).head.ts.length (Ac (Bb q' rs).head.ts),sl ip3 (Bb q' rs).parts.length pc3,sl in3 (Bb q' rs).nots.length nc3]:=by rw[a3.obj _ Ad2,o9]
      have d4:MOb z9' om ot M d b:=hM.keep dk;have fg:om≠z8.nobj:=by have:=hM.lo;omega
      have ff:ot≠z8.nobj:=by have:=hM.lt;omega
      repeat' (first|refine Z1 ?_|(refine Z8 ?_;intro κ hκ)|(refine Z4 ?_;clear hκ κ)|(refine Z2 ?_ ?_<;>intro h aa<;>try exact Xp)|refine Z3 ?_|exact⟨⟩|(apply hκ.out;clear hκ κ))
      refine Ad (fun m s z'=>∃(j:Nat) (Mj:MM) (dj:Int),m=ns.length-j/\j<=ns.length/\s 0=ptr om 0/\s 5=sl idv (vt.length+1) (ic v0::List.map ic vt)/\s 6=ptr z8.nobj 0/\s 70=sl idn ns.length (Ar ns)/\s 71=ic ns.length/\s 72=ic j/\MOb z' om ot Mj dj b/\KM om ot M Mj z z'/\z8.nobj<z'.nobj/\z'.obj z8.nobj=[ic (Bb q' rs).head.p,sl ih3 (Bb q' rs).head.ts.length (Ac (Bb q' rs).head.ts),sl ip3 (Bb q' rs).parts.length pc3,sl in3 (Bb q' rs).nots.length nc3]/\dj<=1000000/\Ad8 (Gro k (Ug neg q) M Mj d dj/\(¬b<dj->∀n∈ns.take j,∀t,Ug neg (Cu v0 n (Bb q' rs)) t->t∈A6 Mj k))) ns.length
       ⟨0,M,d,Ad2,Ad2,g0,g5,g6,g70,g71,g72,d4,KM.ofKeep dk,Ad2,oa,cm,Gro.refl _ _ _ _,fun _ n hn=>by simp at hn⟩ ?_
      clear g0 g5 g6 g70 g71 g72 d4 dk oa kna a3 o9 d5;rintro m s z' ⟨j,Mj,dj,rfl,hj,g0,g5,g6,g70,g71,g72,cq,b5,c7,ob',ck,ao⟩;by_cases ei:j<ns.length
      ·have av:=List.getElem?_eq_getElem ei;obtain⟨r,eo⟩:=C8 av;generalize ns[j]=n at eo av;have fh:Ad8 (ns.take (j+1)=ns.take j++[n]):=by rw[Ad8,Abq,av,Ac2]
       clear av;have d3:=e3 n;have ea:Ad8 (∀c5,EQ (Cu v0 n (Bb q' rs)) c5->∀z,MOb z om ot Mj dj b->ACalls Tryz.prog 139 [ptr om 0,ag c5] z fun r z'=>∃M' d',MOb z' om ot M' d' b/\KM om ot Mj M' z z'/\Gro k (Ug neg (Cu v0 n (Bb q' rs))) Mj M' dj d'/\d'<=1000000/\(¬b<d'->∀t,Ug neg (Cu v0 n (Bb q' rs)) t->t∈A6 M' k)):=fun c5 bn=>fa.out n c5 Mj dj bn ao.out.1 ck
       repeat' (first|refine Z1 ?_|(refine Z8 ?_;intro κ hκ)|(refine Z4 ?_;clear hκ κ)|(refine Z2 ?_ ?_<;>intro h aa<;>try exact Xp)|refine Z3 ?_|exact⟨⟩|(apply hκ.out;clear hκ κ))
       refine Br (Q:=fun e s' z''=>e= .normal/\s' 0=ptr om 0/\s' 5=sl idv (vt.length+1) (ic v0::List.map ic vt)/\s' 6=ptr z8.nobj 0/\s' 70=sl idn ns.length (Ar ns)/\s' 71=ic ns.length/\s' 72=ic j/\∃o c5,s' 10=ptr o 0/\o<z''.nobj/\z''.obj o=c5/\EQ (Cu v0 n (Bb q' rs)) c5/\Keep z' z'') ?_ ?_
       ·refine A4 Ak (fun _=>True) [7] [0,1,2,3,4] 3 #[true,true,true,true,true,false,false,false] Ad5 (fun _ _ _ h=>by cases h.1) ?_;intro κ hκ;refine Z3 ?_;refine hκ.out _ ?_;clear hκ κ;refine Dy (rs:=[5,6]) Ad5 (by simp) ?_;intro i hi;simp only[Ace,Acx,Adz]at hi;rcases hi with rfl|rfl
        ·refine Aq ?_;intro κ hκ;refine Z3 ?_;refine ACalls.mono (d3 _) ?_;rintro _ zb ⟨⟨_,rfl,ih5,ip5,in5,pc5,nc5,rfl,dc,df⟩,az⟩;have knb:=az.nobj;refine Z3 ?_;refine hκ.out _ _ ⟨Ao az,?_⟩;clear hκ κ;refine Al (i:=6) Ad5 ?_;refine Aq ?_;intro κ hκ;refine Z3 ?_;refine hκ.out _ _ ⟨Ao (az.new _),?_⟩;clear hκ κ;refine Al (i:=7) Ad5 ?_;refine Aq ?_;intro κ hκ;refine Z3 ?_;refine hκ.out _ _ ⟨Bo rfl,?_⟩;clear hκ κ;refine A7 Ad5 ⟨rfl,Ad3,Ad3,Ad3,Ad3,Ad3,Ad3,zb.nobj,_,Ad4,Ad7,Aj,⟨ih5,ip5,in5,pc5,nc5,rfl,dc,df⟩,(az.new _).put knb _⟩
        ·refine Aq ?_;intro κ hκ;refine Z3 ?_;refine hκ.out _ _ ⟨Ao ((Keep.refl _).new _),?_⟩;clear hκ κ;refine Al (i:=5) Ad5 ?_;refine Aq ?_;intro κ hκ;refine Z3 ?_;refine ACalls.mono (d3 _) ?_;rintro _ zb ⟨⟨_,rfl,ih5,ip5,in5,pc5,nc5,rfl,dc,df⟩,az⟩;have knb:=az.nobj;simp only[Aa]at knb;have obb:=az.obj z'.nobj Ad6;rw[Am]at obb;refine Z3 ?_;refine hκ.out _ _ ⟨Ao (((Keep.refl _).new _).trans az),?_⟩;clear hκ κ;refine Al (i:=7) Ad5 ?_;refine Aq ?_;intro κ hκ;refine Z3 ?_;refine hκ.out _ _ ⟨Bo rfl,?_⟩;clear hκ κ;refine A7 Ad5 ⟨rfl,Ad3,Ad3,Ad3,Ad3,Ad3,Ad3,z'.nobj,_,Ad4,by simp only[Ab];omega,Aj,⟨ih5,ip5,in5,pc5,nc5,rfl,dc,df⟩,(((Keep.refl _).new _).trans az).put (Abb _) _⟩
       ·rintro e s2 zc ⟨rfl,f0,f5,f6,f70,f71,f72,oo,c5,f10,fm,oc5,bn,cr⟩;have knc:=cr.nobj;have fe:=fun z=>ea.out c5 bn z;obtain⟨ih5,ip5,in5,pc5,nc5,rfl,-,-⟩:=bn;have eh:zc.obj z8.nobj=[ic (Bb q' rs).head.p,sl ih3 (Bb q' rs).head.ts.length (Ac (Bb q' rs).head.ts),sl ip3 (Bb q' rs).parts.length pc3,sl in3 (Bb q' rs).nots.length nc3]:=by rw[cr.obj _ c7,ob']
        clear ea
        repeat' (first|refine Z1 ?_|(refine Z8 ?_;intro κ hκ)|(refine Z4 ?_;clear hκ κ)|(refine Z2 ?_ ?_<;>intro h aa<;>try exact Xp)|(refine Z5 ?_;refine Xi (fe _ (cq.keep cr)) ?_;rintro _ _ ⟨M2,d2,e7,bg,d9,ep,a6⟩;(have dr:Ad8 _:=d9;have fk:Ad8 _:=a6;clear d9 a6;have dm:=(b5.trans (KM.ofKeep cr)).trans bg;have ec:=bg.obj z8.nobj Ad2 fg.symm ff.symm;have kn2:=bg.nobj))|refine Z3 ?_|exact⟨⟩|(apply hκ.out;clear hκ κ))
        have HN:Ad8 (Gro k (Ug neg q) M M2 d d2/\(¬b<d2->∀n∈ns.take (j+1),∀t,Ug neg (Cu v0 n (Bb q' rs)) t->t∈A6 M2 k)):=by
         refine⟨ao.out.1.trans (dr.out.mono (dq.out n)),fun c8 u hu t ht=>?_⟩;rw[fh.out]at hu;rcases Ack.1 hu with hu|hu
         ·have fp:=dr.out.le;exact dr.out.sub (ao.out.2 Ad2 u hu t ht)
         ·simp at hu;subst hu;exact fk.out c8 t ht
        refine⟨ns.length-(j+1),Ad2,j+1,M2,d2,?_⟩
        ((repeat' with_reducible refine And.intro ?_ ?_)<;>first|exact Xq|exact (e7)|exact (dm)|exact (HN)|exact (by rw[ec,eh])|exact Xs)
      ·have ek:j=ns.length:=Ad2;subst ek
       repeat' (first|refine Z1 ?_|(refine Z8 ?_;intro κ hκ)|(refine Z4 ?_;clear hκ κ)|(refine Z2 ?_ ?_<;>intro h aa<;>try exact Xp)|refine Z3 ?_|exact⟨⟩|(apply hκ.out;clear hκ κ))
       refine⟨_,rfl,Mj,dj,cq,b5,ao.out.1,ck,fun c8 t ht=>?_⟩;obtain⟨n,hn,h1⟩:=dt.out t ht;rw[fi.out]at hn;exact ao.out.2 c8 n (by rw[Abn];exact hn) t h1
theorem Yn (neg:Int->Ca->Prop)(om ot:Nat)(b:Int):∀(n:Nat) (V:List Int),V.length<=n->tW neg om ot b V:=by
 intro n;induction n with
 |zero=>exact fun V hV=>N0 neg om ot b V (fun V' h=>Ad2)
 |succ n IH=>exact fun V hV=>N0 neg om ot b V (fun V' h=>IH V' Ad2)
end Go.Proofs.YtmoeoppbmhfbpabGreatDoorH
