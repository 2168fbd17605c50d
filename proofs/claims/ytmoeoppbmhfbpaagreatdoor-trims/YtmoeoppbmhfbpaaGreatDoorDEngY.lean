import Derived.Test.YtmoeoppbmhfbpaaGreatDoorDEngW
set_option maxHeartbeats 32000000
set_option maxRecDepth 100000
set_option linter.all false
namespace Go.Proofs.YtmoeoppbmhfbpaaGreatDoorD
open Go.Abs
structure Gro (k:Nat)(S:Cc->Prop)(M M':MM)(d d':Int):Prop where
 len:M'.length=M.length
 oth:∀j,j≠k->(M'[j]?).map (·.2)=(M[j]?).map (·.2)
 ext:∃new:List Cc,A6 M' k=A6 M k++new/\new.Nodup/\(∀t∈new,S t/\t∉A6 M k)/\d'=d+new.length
theorem Gro.refl (k:Nat)(S:Cc->Prop)(M:MM)(d:Int):Gro k S M M d d:=⟨rfl,fun _ _=>rfl,[],by simp,Afs,by simp,by simp⟩
theorem Gro.trans {k:Nat}{S:Cc->Prop}{M M1 M2:MM}{d d1 d2:Int}(h:Gro k S M M1 d d1)(g:Gro k S M1 M2 d1 d2):Gro k S M M2 d d2:=by
 obtain⟨n1,a1,a2,a3,a4⟩:=h.ext;obtain⟨n2,b1,b2,b3,b4⟩:=g.ext;refine⟨g.len.trans h.len,fun j hj=>(g.oth j hj).trans (h.oth j hj),n1++n2,by rw[b1,a1,Aed],?_,?_,?_⟩
 ·rw[Afr];exact⟨a2,b2,fun x hx y hy e=>(b3 y hy).2 (by rw[a1,<-e];exact Aet.2 (.inr hx))⟩
 ·intro t ht;rcases Aet.1 ht with ht|ht
  ·exact a3 t ht
  ·exact⟨(b3 t ht).1,fun hm=>(b3 t ht).2 (by rw[a1];exact Aet.2 (.inl hm))⟩
 ·rw[b4,a4];simp;omega
theorem Gro.mono {k:Nat}{S S':Cc->Prop}{M M':MM}{d d':Int}(h:Gro k S M M' d d')(hs:∀t,S t->S' t):Gro k S' M M' d d':=by
 obtain⟨n,a1,a2,a3,a4⟩:=h.ext;exact⟨h.len,h.oth,n,a1,a2,fun t ht=>⟨hs t (a3 t ht).1,(a3 t ht).2⟩,a4⟩
theorem Gro.sub {k:Nat}{S:Cc->Prop}{M M':MM}{d d':Int}(h:Gro k S M M' d d'){t:Cc}(ht:t∈A6 M k):t∈A6 M' k:=by
 obtain⟨n,a1,-,-,-⟩:=h.ext;rw[a1];exact Aet.2 (.inl ht)
theorem Gro.le {k:Nat}{S:Cc->Prop}{M M':MM}{d d':Int}(h:Gro k S M M' d d'):d<=d':=by
 obtain⟨n,-,-,-,a4⟩:=h.ext;omega
def Room (M:MM)(d b:Int):Prop:=∀x∈M,(x.2.length:Int)+(b-d)<=4000
theorem Gro.room {k:Nat}{S:Cc->Prop}{M M':MM}{d d' b:Int}(h:Gro k S M M' d d')(hr:Room M d b):Room M' d' b:=by
 intro x hx;obtain⟨j,hj⟩:=Afc hx;obtain⟨n,a1,-,-,a4⟩:=h.ext;have aa:j<M.length:=by rw[<-h.len];exact (Adm.1 hj).1
 have hy:=Adn aa;have hb:=hr _ (Aes aa);by_cases e:j=k
 ·subst e;unfold A6 at a1;simp only[Af3,hj,hy,Aeu,Option.getD_some]at a1;rw[a1];simp only[Aeb];omega
 ·have:=h.oth j e;rw[hj,hy]at this;simp at this;rw[this];have:=h.le;omega
theorem Cg {M:MM}{k:Nat}{x:Nat×List Cc}(h:M[k]?=some x):A6 M (k:Int)=x.2:=by simp[A6,h]
theorem Aac {M:MM}{k id:Nat}{x:Nat×List Cc}{t:Cc}{S:Cc->Prop}{d:Int}(hx:M[k]?=some x)(ht:t∉x.2)(hS:S t):Gro k S M (M.set k (id,x.2++[t])) d (d+1):=by
 have hk:=(Adm.1 hx).1;refine⟨by simp,fun j hj=>by rw[Aga (fun e=>hj e.symm)],[t],?_,by simp,?_,by simp⟩
 ·rw[Cg hx,Cg (x:=(id,x.2++[t])) (by simp[hk])]
 ·intro u hu;simp at hu;subst hu;rw[Cg hx];exact⟨hS,ht⟩
theorem MOb.setd {z:St}{om ot:Nat}{M:MM}{d d' b:Int}(h:MOb z om ot M d b):MOb (z.put om [fx ot 0 M.length,ic d',ic b]) om ot M d' b where
 ob:=Aj
 oc:=by rw[show (z.put om [fx ot 0 M.length,ic d',ic b]).obj ot=z.obj ot from by simp[St.put];intro e;exact absurd e.symm h.ne];exact h.oc
 lo:=h.lo
 lt:=h.lt
 ne:=h.ne
 live:=h.live
 inj:=h.inj
 t3:=h.t3
 ln:=h.ln
 pl:=h.pl
theorem KM.setd {om ot:Nat}{M M':MM}{z z':St}(h:KM om ot M M' z z')(c:List AV):KM om ot M M' z (z'.put om c):=
 ⟨h.nobj,fun o ho h1 h2=>by rw[show (z'.put om c).obj o=z'.obj o from by simp[St.put,h1]];exact h.obj o ho h1 h2,fun o ho h1 h2=>by rw[show (z'.put om c).ver o=z'.ver o from by simp[St.put,h1]];exact h.ver o ho h1 h2,h.ntop,h.top,h.mid⟩
def Wa (neg:Int->Cc->Prop)(q:Qry)(t:Cc):Prop:=∃ν,K5 neg q ν/\t=Br q.head ν
def yI (neg:Int->Cc->Prop)(om ot:Nat)(b:Int)(V:List Int):Prop:=∀(q:Qry) (c:List AV) (k:Nat) (M:MM) (d:Int),EQ q c->Qv q->NegOk neg M q->(∀a∈q.nots,a.p≠(k:Int))->QV q->q.head.p=(k:Int)->k<M.length->Room M d b-> -1000000<=d->d<=1000000-> -1000000<=b->b<=900000->(∀v,inQ q v->v∈V)->
 ∀z,MOb z om ot M d b->ACalls Tryz.prog 131 [ptr om 0,ag c] z fun r z'=>∃M' d',MOb z' om ot M' d' b/\KM om ot M M' z z'/\Gro k (Wa neg q) M M' d d'/\d'<=1000000/\(¬b<d'->∀t,Wa neg q t->t∈A6 M' k)
theorem NegOk.gro {neg:Int->Cc->Prop}{M M':MM}{q:Qry}{k:Nat}{S:Cc->Prop}{d d':Int}(h:NegOk neg M q)(aa:∀a∈q.nots,a.p≠(k:Int))(g:Gro k S M M' d d'):NegOk neg M' q:=fun a ha=>by
 obtain⟨j,x,h1,h2,h3⟩:=h a ha;have hj:j≠k:=fun e=>aa a ha (by rw[h1,e]);have:=g.oth j hj;rw[h2]at this;cases hy:M'[j]? with
 |none=>rw[hy]at this;simp at this
 |some y=>
  rw[hy]at this;simp at this;exact⟨j,y,h1,hy,fun t=>by rw[this];exact h3 t⟩
theorem Ps (neg:Int->Cc->Prop)(om ot:Nat)(b:Int)(V:List Int)(IH:∀V':List Int,V'.length<V.length->yI neg om ot b V'):yI neg om ot b V:=by
 intro q c k M d hc hA hNg e3 hV hk c9 a7 fo cm er eq ci z hM;have a8:=fun z (h:MOb z om ot M d b)=>Od om ot M d b z h;have cj:=hA.ok.hd;have ek:q.head.ts.length<=1000:=Agm;have be:=fun (id:Nat) z=>Nf q.head.p id q.head.ts ek z;have bm:M[k]?=some M[k]:=Adn c9;generalize M[k]=x at bm;have ca:=fun (id:Nat) z (h:MOb z om ot M d b)=>Ih om ot M d b q.head id k x cj hk bm z h;have bf:=fun z (h:MOb z om ot M d b)=>Z0 neg q c om ot M d b hc hA hNg z h;have hT:A6 M (k:Int)=x.2:=Cg bm;obtain⟨ih,ip,inn,pc,nc,rfl,-,-⟩:=hc;have cp:∀cs,MOb (z.new cs) om ot M d b:=fun cs=>hM.keep ((Keep.refl z).new cs);by_cases ch:b<d
 ·rw[show decide (b<d)=true from by simpa using ch]at a8;rw[hk];clear ca be bf;refine Z9 86 [] Tryz.func131 ?_
  repeat' first|refine Z1 ?_|refine Z8 fun ya J=>?_|refine Z4 ?_;clear J ya|refine Z2 ?_ ?_<;>intro h ab<;>try exact Xp|refine Z5 ?_;refine Xi (a8 _ (hM.keep (Xs))) ?_;rintro _ _ ⟨rfl,rfl⟩|refine Z3 ?_|exact Zt|apply J.out;clear J ya
  first|exact⟨_,rfl,M,d,cp _,KM.ofKeep ((Keep.refl z).new _),Gro.refl _ _ _ _,cm,fun h=>absurd ch h⟩|exact⟨M,d,cp _,KM.ofKeep ((Keep.refl z).new _),Gro.refl _ _ _ _,cm,fun h=>absurd ch h⟩
 ·have bu:decide (b<d)=false:=by simpa using ch
  rw[bu]at a8;have ac:=be ih;have ai:=ca ih;rw[hk]at ac ai bf;rw[hk];have bq:∀z',Keep z z'->(∀t,Wa neg q t->t∈x.2)->∃M' d',MOb z' om ot M' d' b/\KM om ot M M' z z'/\Gro k (Wa neg q) M M' d d'/\d'<=1000000/\(¬b<d'->∀t,Wa neg q t->t∈A6 M' k):=fun z' d6 aw=>
   ⟨M,d,hM.keep d6,KM.ofKeep d6,Gro.refl _ _ _ _,cm,fun _ t ht=>by rw[hT];exact aw t ht⟩
  have ae:Agt _:=bq;clear bq bu;cases hs:Io q.head.ts with
  |true=>
   rw[hs]at ac;have ap:=fun ν=>O6 hs ν;by_cases hm:Ct q.head∈x.2
   ·rw[show decide (Ct q.head∈x.2)=true from by simpa using hm]at ai;have aw:∀t,Wa neg q t->t∈x.2:=fun t ⟨ν,_,e⟩=>by rw[e,ap];exact hm
    have cf:Agt _:=aw;clear aw ap ca be bf;refine Z9 86 [] Tryz.func131 ?_
    repeat' first|refine Z1 ?_|refine Z8 fun ya J=>?_|refine Z4 ?_;clear J ya|refine Z2 ?_ ?_<;>intro h ab<;>try exact Xp|(refine Z5 ?_;first|(refine Xi (a8 _ (hM.keep (Xs))) ?_;rintro _ _ ⟨rfl,rfl⟩)|(refine Xi (ac _) ?_;rintro _ _ ⟨rfl,am⟩;(have aj:=am.nobj;have aa:=am.obj;have bn:=((Keep.refl z).new _).trans am;simp only[Aa]at aj aa))|(refine Xi (ai _ (hM.keep (Xs))) ?_;rintro _ _ ⟨rfl,b8⟩;(have b4:=bn.trans b8)))|refine Z3 ?_|exact Zt|apply J.out;clear J ya
    first|exact⟨_,rfl,ae.out _ b4 cf.out⟩|exact ae.out _ b4 cf.out
   ·rw[show decide (Ct q.head∈x.2)=false from by simpa using hm]at ai;have fh:Agt (Ct q.head∉x.2):=hm;clear hm;have ct:∀(id:Nat) z,ACalls Tryz.prog 125 [ag [ic (k:Int),sl id q.head.ts.length (Af q.head.ts)]] z fun r z'=>r=sc (.bool true)/\Keep z z':=fun id z=>by
     have:=be id z;rw[hk,hs]at this;exact this
    have d5:=fun (id:Nat) z (h:MOb z om ot M d b)=>Vf om ot M d b q.head id k x cj hk bm (by
     have:=a7 x (Adp bm)
     omega) z h
    rw[hk]at d5;have b9:=Rf neg om ot M d b V.length V (Adc _);clear be ca cp;refine Z9 86 [] Tryz.func131 ?_
    repeat' first|refine Z1 ?_|refine Z8 fun ya J=>?_|refine Z4 ?_;clear J ya|refine Z2 ?_ ?_<;>intro h ab<;>try exact Xp|(refine Z5 ?_;first|(refine Xi (a8 _ (hM.keep (Xs))) ?_;rintro _ _ ⟨rfl,rfl⟩)|(refine Xi (ac _) ?_;rintro _ _ ⟨rfl,am⟩;(have aj:=am.nobj;have aa:=am.obj;have bn:=((Keep.refl z).new _).trans am;simp only[Aa]at aj aa))|(refine Xi (ai _ (hM.keep (Xs))) ?_;rintro _ _ ⟨rfl,b8⟩;(have ed:=b8.nobj;have bp:=b8.obj;have b4:=bn.trans b8;clear ac))|(refine Xi (bf _ (hM.keep (Xs))) ?_;rintro _ _ ⟨⟨c',(⟨rfl,ei,em,bw⟩|⟨q',rfl,⟨ih2,ip2,in2,pc2,nc2,rfl,cn,co⟩,a4,dd,hR2,au⟩)⟩,ah⟩))|refine Z3 ?_|exact Zt
    ·have bc:=ah.nobj;have o4:=ah.obj z.nobj Agm;rw[bp _ Agm,aa _ Agm,Al]at o4;have ay:=b4.trans ah;have cd:Agt (∀ν,¬K5 neg q ν):=bw;clear bw
     repeat' first|refine Z1 ?_|refine Z8 fun ya J=>?_|refine Z4 ?_;clear J ya|refine Z2 ?_ ?_<;>intro h ab<;>try exact Xp|refine Z3 ?_|exact Zt|apply J.out;clear J ya
     first|exact⟨_,rfl,ae.out _ (ay.put Agm _) (fun t ⟨ν,h,_⟩=>absurd h (cd.out ν))⟩|exact ae.out _ (ay.put Agm _) (fun t ⟨ν,h,_⟩=>absurd h (cd.out ν))
    ·have bc:=ah.nobj;have o4:=ah.obj z.nobj Agm;rw[bp _ Agm,aa _ Agm,Al]at o4;have ay:=b4.trans ah;have he:q'.head=q.head:=hR2.hd;have ax:NegOk neg M q':=hNg.sub fun a ha=>⟨a,(au a ha).1,rfl⟩;have ak:jW ⟨⟨0,[]⟩,q'.parts,q'.nots⟩:=fun v hv=>a4.wf v (.inr (hv.resolve_left (by simp[A9])))
     have cu:=fun z (h:MOb z om ot M d b)=>b9 ⟨⟨0,[]⟩,q'.parts,q'.nots⟩ [ic 0,nilS,sl ip2 q'.parts.length pc2,sl in2 q'.nots.length nc2] ⟨1,ip2,in2,pc2,nc2,rfl,cn,co⟩ (Lj a4 (by simp) (Agb _) (Agb _) ak) (ax.sub fun a ha=>⟨a,ha,rfl⟩)
      (fun a ha v hv=>by
       have:a∈atomsQ q'\/a=⟨0,[]⟩:=by
        unfold atomsQ at ha⊢;simp only[Ae2,Aet,Ae4]at ha⊢;rcases ha with h|h|h
        ·exact .inr h
        ·exact .inl (.inr (.inl h))
        ·exact .inl (.inr (.inr h))
       rcases this with h|rfl
       ·exact hV a (hR2.at_ a h) v hv
       ·cases hv) rfl (fun v hv=>by
       obtain⟨p,hp,br⟩:=U3 (q:=⟨⟨0,[]⟩,q'.parts,q'.nots⟩) ak hv
       exact ci v (inQ.sub hR2.at_ ⟨p.a,Kf hp,br⟩)) z h
     have ey:∀ν,K5 neg (⟨⟨0,[]⟩,q'.parts,q'.nots⟩:Qry) ν↔K5 neg q' ν:=fun ν=>Iff.rfl;have HE:Agt (q'.head=q.head):=he;simp only[he,hk];clear he b9 bf ai a8
     repeat' first|refine Z1 ?_|refine Z8 fun ya J=>?_|refine Z4 ?_;clear J ya|refine Z2 ?_ ?_<;>intro h ab<;>try exact Xp|(refine Z5 ?_;first|(refine Xi (cu _ (hM.keep (Xs))) ?_;rintro _ _ ⟨⟨bb,rfl,b0⟩,bi⟩;(have ce:Agt _:=b0;clear b0;have ba:=bi.nobj;have a9:=bi.obj;simp only[Ac]at ba a9;have b5:=(ay.put Agm _).trans bi))|(refine Xi (ct _ _) ?_;rintro _ _ ⟨rfl,bh⟩;(have cy:=bh.nobj;have cw:=bh.obj;have dh:=b5.trans bh))|(refine Xi (d5 _ _ (hM.keep (Xs))) ?_;rintro _ _ ⟨id',df,b7⟩;(generalize b3:M.set k (id',x.2++[Ct q.head])=M7 at df b7;have ea:Agt _:=b3;clear b3;have fj:=df.ob;have dk:=KM.trans (KM.ofKeep dh) b7)))|refine Z3 ?_|exact Zt|apply J.out;clear J ya
     ·exact⟨_,rfl,ae.out _ b5 (fun t ⟨ν,hν,_⟩=>absurd (ce.out.2 ⟨ν,hR2.to ν hν⟩) (by rw[h];simp))⟩
     ·have da:bb=true:=by assumption
      obtain⟨ν,hν⟩:=ce.out.1 da;obtain⟨ν',hν',-⟩:=hR2.back ν hν;have e9:Wa neg q (Ct q.head):=⟨ν',hν',(ap ν').symm⟩;have fa:Gro k (Wa neg q) M M7 d (d+1):=by rw[<-ea.out];exact Aac bm fh.out e9
      have ew:Ct q.head∈A6 M7 k:=by
       rw[<-ea.out,Cg (x:=(id',x.2++[Ct q.head])) (by simp[c9])];simp
      exact⟨_,rfl,M7,d+1,df.setd,dk.setd _,fa,Agm,fun _ t ⟨μ,_,e⟩=>by rw[e,ap];exact ew⟩
  |false=>
   rw[hs]at ac;have ct:∀(id:Nat) z,ACalls Tryz.prog 125 [ag [ic (k:Int),sl id q.head.ts.length (Af q.head.ts)]] z fun r z'=>r=sc (.bool false)/\Keep z z':=fun id z=>by
    have:=be id z;rw[hk,hs]at this;exact this
   have b9:=Rf neg om ot M d b V.length V (Adc _);obtain⟨v0,vt,cg⟩:∃v0 vt,Cn [q.head]=v0::vt:=by
    cases hv:Cn [q.head]with
    |nil=>
     exfalso;have:Io q.head.ts=true:=by
      unfold Io;rw[Ado];rintro⟨t1,t2⟩ ht;cases t1 with
      |false=>rfl
      |true=>
       have:t2∈Cn [q.head]:=(Dp _ _).2 ⟨q.head,by simp,ht⟩;rw[hv]at this;cases this
     rw[this]at hs;cases hs
    |cons v0 vt=>exact⟨v0,vt,rfl⟩
   have af:=fun (idh i:Nat) (z:St)=>Ie [q.head] [ic q.head.p,sl idh q.head.ts.length (Af q.head.ts)] i (EL.single ⟨idh,rfl⟩) (by simp;exact cj) (by simp) z;have du:=Gp (l:=[q.head]) (by simp;exact cj);have dt:∀v,A9 q.head.ts v=true->v∈v0::vt:=fun v hv=>by rw[<-cg];exact (Dp _ _).2 ⟨q.head,by simp,hasV_iff.1 hv⟩
   have dw:A9 q.head.ts v0=true:=by
    have:v0∈Cn [q.head]:=by rw[cg];simp
    obtain⟨a,ha,h⟩:=(Dp _ _).1 this;simp at ha;subst ha;exact hasV_iff.2 h
   rw[cg]at af du;simp only[Aem,Ael,Ar,Ad7,Aea,hk]at af;simp only[Aem,Ael,Aea]at du;have c6:(v0::vt).length<=200:=by simp;omega
   clear be ca cp cg;refine Z9 86 [] Tryz.func131 ?_
   repeat' first|refine Z1 ?_|refine Z8 fun ya J=>?_|refine Z4 ?_;clear J ya|refine Z2 ?_ ?_<;>intro h ab<;>try exact Xp|(refine Z5 ?_;first|(refine Xi (a8 _ (hM.keep (Xs))) ?_;rintro _ _ ⟨rfl,rfl⟩)|(refine Xi (ac _) ?_;rintro _ _ ⟨rfl,am⟩;(have aj:=am.nobj;have aa:=am.obj;have bn:=((Keep.refl z).new _).trans am;simp only[Aa]at aj aa;clear ac))|(refine Xi (bf _ (hM.keep (Xs))) ?_;rintro _ _ ⟨⟨c',(⟨rfl,ei,em,bw⟩|⟨q',rfl,⟨ih2,ip2,in2,pc2,nc2,rfl,cn,co⟩,a4,dd,hR2,au⟩)⟩,ah⟩))|refine Z3 ?_|exact Zt
   ·have bc:=ah.nobj;have o4:=ah.obj z.nobj Agm;rw[aa _ Agm,Al]at o4;have ay:=bn.trans ah;have cd:Agt (∀ν,¬K5 neg q ν):=bw;clear bw
    repeat' first|refine Z1 ?_|refine Z8 fun ya J=>?_|refine Z4 ?_;clear J ya|refine Z2 ?_ ?_<;>intro h ab<;>try exact Xp|refine Z3 ?_|exact Zt|apply J.out;clear J ya
    first|exact⟨_,rfl,ae.out _ (ay.put Agm _) (fun t ⟨ν,h,_⟩=>absurd h (cd.out ν))⟩|exact ae.out _ (ay.put Agm _) (fun t ⟨ν,h,_⟩=>absurd h (cd.out ν))
   ·have bc:=ah.nobj;have o4:=ah.obj z.nobj Agm;rw[aa _ Agm,Al]at o4;have ay:=bn.trans ah;have he:q'.head=q.head:=hR2.hd;have ax:NegOk neg M q':=hNg.sub fun a ha=>⟨a,(au a ha).1,rfl⟩;have ak:jW ⟨⟨0,[]⟩,q'.parts,q'.nots⟩:=fun v hv=>a4.wf v (.inr (hv.resolve_left (by simp[A9])))
    have cu:=fun z (h:MOb z om ot M d b)=>b9 ⟨⟨0,[]⟩,q'.parts,q'.nots⟩ [ic 0,nilS,sl ip2 q'.parts.length pc2,sl in2 q'.nots.length nc2] ⟨1,ip2,in2,pc2,nc2,rfl,cn,co⟩ (Lj a4 (by simp) (Agb _) (Agb _) ak) (ax.sub fun a ha=>⟨a,ha,rfl⟩)
     (fun a ha v hv=>by
      have:a∈atomsQ q'\/a=⟨0,[]⟩:=by
       unfold atomsQ at ha⊢;simp only[Ae2,Aet,Ae4]at ha⊢;rcases ha with h|h|h
       ·exact .inr h
       ·exact .inl (.inr (.inl h))
       ·exact .inl (.inr (.inr h))
      rcases this with h|rfl
      ·exact hV a (hR2.at_ a h) v hv
      ·cases hv) rfl (fun v hv=>by
      obtain⟨p,hp,br⟩:=U3 (q:=⟨⟨0,[]⟩,q'.parts,q'.nots⟩) ak hv
      exact ci v (inQ.sub hR2.at_ ⟨p.a,Kf hp,br⟩)) z h
    have cb:EQ q' [ic (k:Int),sl ih2 q.head.ts.length (Af q.head.ts),sl ip2 q'.parts.length pc2,sl in2 q'.nots.length nc2]:=⟨ih2,ip2,in2,pc2,nc2,by rw[he,hk],cn,co⟩;have db:=fun (id:Nat) z=>Rb q' _ (v0::vt) id cb a4.ok c6 z;simp only[Aem,Ar,Ad7]at db;have HE:Agt (q'.head=q.head):=he;simp only[he,hk];clear he b9 bf a8 cb;have dv:=af ih2;clear af
    repeat' first|refine Z1 ?_|refine Z8 fun ya J=>?_|refine Z4 ?_;clear J ya|refine Z2 ?_ ?_<;>intro h ab<;>try exact Xp|(refine Z5 ?_;first|(refine Xi (cu _ (hM.keep (Xs))) ?_;rintro _ _ ⟨⟨bb,rfl,b0⟩,bi⟩;(have ce:Agt _:=b0;clear b0;have ba:=bi.nobj;have a9:=bi.obj;simp only[Ac]at ba a9;have b5:=(ay.put Agm _).trans bi))|(refine Xi (ct _ _) ?_;rintro _ _ ⟨rfl,bh⟩;(have cy:=bh.nobj;have cw:=bh.obj;have dh:=b5.trans bh))|(refine Xi (dv _ _) ?_;rintro _ _ ⟨⟨idv,rfl⟩,dm⟩;(have cx:=dm.nobj;have cv:=dm.obj;simp only[Ax,Ho]at cx cv;have e6:=(dh.lay 1).trans dm))|(refine Xi (db _ _) ?_;rintro _ _ ⟨⟨_,_,rs,rfl,⟨ih3,ip3,in3,pc3,nc3,rfl,e0,e4⟩,⟨ih4,ip4,in4,pc4,nc4,rfl,fp,fq⟩,hG,hC⟩,d7⟩;(have ec:=d7.nobj;have HC:Agt _:=hC;have HG:Agt _:=hG;clear hC hG;have e7:=e6.trans d7)))|refine Z3 ?_|exact Zt|apply J.out;clear J ya
    ·exact⟨_,rfl,ae.out _ b5 (fun t ⟨ν,hν,_⟩=>absurd (ce.out.2 ⟨ν,hR2.to ν hν⟩) (by rw[h];simp))⟩
    ·rename_i z8;have da:bb=true:=by assumption
     have dn:EQ (A7 q' rs) [ic (A7 q' rs).head.p,sl ih3 (A7 q' rs).head.ts.length (Af (A7 q' rs).head.ts),sl ip3 (A7 q' rs).parts.length pc3,sl in3 (A7 q' rs).nots.length nc3]:=⟨ih3,ip3,in3,pc3,nc3,rfl,e0,e4⟩;have hrs:∀v∈v0::vt,v∈rs:=fun v hv=>by
      obtain⟨ad,e,-,-⟩:=HG.out;rw[e];exact Aet.2 (.inl hv)
     have ao:Qv (A7 q' rs):=Lj a4 a4.ok.hd Agc Agc (dE a4.wf HC.out (fun v hv=>hrs v (dt v (by rw[<-HE.out];exact hv))));have dz:QV (A7 q' rs):=fun a ha w hw=>by
      obtain⟨a',ev,ee⟩:=Ph (rs:=rs) ⟨a,ha,hasV_iff.2 hw⟩;exact hV a' (hR2.at_ a' ev) w (hasV_iff.1 ee)
     have dx:(A7 q' rs).head.p=(k:Int):=by show q'.head.p=_;rw[HE.out,hk]
     have bz:∀w,inQ (A7 q' rs) w->w∈V:=fun w hw=>ci w (inQ.sub hR2.at_ (Ph hw));have bd:v0∈V:=ci v0 ⟨q.head,by simp[atomsQ],dw⟩;have d0:(V.erase v0).length<V.length:=by
      rw[List.length_erase_of_mem bd];have:=List.length_pos_of_mem bd;omega
     have IHb:=IH (V.erase v0) d0;obtain⟨μ,hμ⟩:=ce.out.1 da
     --what the near part brings,the query brings
     have b1:∀n t,Wa neg (C7 v0 n (A7 q' rs)) t->Wa neg q t:=fun n t ⟨ν,hν,e⟩=>by
      have h1:=(R4 ao.w).1 hν;have h2:=Yy HC.out h1 (oV (rs:=rs) hμ);obtain⟨ν',hν',eu⟩:=hR2.back _ h2;refine⟨ν',hν',?_⟩;rw[e];show Br (Fi v0 n (A7 q' rs).head) ν=_;rw[Kb];show Br q'.head _=_;rw[HE.out];apply Ez;intro v hv;rw[eu v ⟨q'.head,by simp[atomsQ],by rw[HE.out];exact hv⟩];rw[if_pos (hrs v (dt v hv))]
     have cc:∀t,Wa neg q t->∃n∈K0 (A7 q' rs) v0,Wa neg (C7 v0 n (A7 q' rs)) t:=fun t ⟨ν,hν,e⟩=>by
      have h2:=fK (rs:=rs) (hR2.to ν hν);obtain⟨p,hp,br⟩:=ao.wf v0 (.inl (by show A9 q'.head.ts v0=true;rw[HE.out];exact dw));have a5:Mu ν v0 (ν v0)=ν:=by
       funext w;unfold Mu;split
       ·rename_i e;rw[e]
       ·rfl
      refine⟨ν v0,nQ ao.w h2 ⟨p,hp,br⟩,ν,(R4 ao.w).2 (by rw[a5];exact h2),?_⟩;rw[e];show _=Br (Fi v0 (ν v0) (A7 q' rs).head) ν;rw[Kb,a5];show _=Br q'.head ν;rw[HE.out]
     have dp:Agt _:=b1;have dr:Agt _:=cc;have dy:=fun z=>Km (A7 q' rs) _ v0 dn ao.ok ao.n z;have ef:=Sq ao.n v0;have ez:=fun n z=>Va (A7 q' rs) _ v0 n dn ao.ok z;generalize bv:K0 (A7 q' rs) v0=ns at dy ef;have fg:Agt _:=bv;have fl:=Bs ns;have b2:∀{n:Int},∀a∈(C7 v0 n (A7 q' rs)).nots,a.p≠(k:Int):=fun {n} a ha=>by
      obtain⟨a0,h0,rfl⟩:=Ae4.1 ha;exact e3 a0 (au a0 (Afz.1 h0).1).1
     have e8:Agt (∀(n:Int) (c5:List AV) (Mj:MM) (dj:Int),EQ (C7 v0 n (A7 q' rs)) c5->Gro k (Wa neg q) M Mj d dj->dj<=1000000->∀z,MOb z om ot Mj dj b->ACalls Tryz.prog 131 [ptr om 0,ag c5] z fun r z'=>∃M' d',MOb z' om ot M' d' b/\KM om ot Mj M' z z'/\Gro k (Wa neg (C7 v0 n (A7 q' rs))) Mj M' dj d'/\d'<=1000000/\(¬b<d'->∀t,Wa neg (C7 v0 n (A7 q' rs)) t->t∈A6 M' k)):=fun n c5 Mj dj bo an ck z cq=>
      IHb (C7 v0 n (A7 q' rs)) c5 k Mj dj bo (fX ao) (((ax.near rs).put v0 n).gro b2 an) b2 (fun a ha w hw=>by
       obtain⟨⟨b',et,ep⟩,-⟩:=R6 (q:=A7 q' rs) (v:=v0) (n:=n) (w:=w) ⟨a,ha,hasV_iff.2 hw⟩;exact dz b' et w (hasV_iff.1 ep)) dx (by rw[an.len];exact c9) (an.room a7) (by have:=an.le;omega) ck er eq (fun w hw=>by
       obtain⟨h1,h2⟩:=R6 hw
       exact (List.mem_erase_of_ne h2).2 (bz w h1)) z cq
     clear bv b1 cc IHb IH d0 bd bz cu ct dv db ao dz dn dx;have d4:Keep z ((((z8.new [ic 0,nilS,nilS,nilS]).new [ic 0,nilS,nilS,nilS]).put z8.nobj [ic (A7 q' rs).head.p,sl ih3 (A7 q' rs).head.ts.length (Af (A7 q' rs).head.ts),sl ip3 (A7 q' rs).parts.length pc3,sl in3 (A7 q' rs).nots.length nc3]).put (z8.nobj+1) [ic (Hg q' rs).head.p,sl ih4 (Hg q' rs).head.ts.length (Af (Hg q' rs).head.ts),sl ip4 (Hg q' rs).parts.length pc4,sl in4 (Hg q' rs).nots.length nc4]):=(((e7.new _).new _).put Agm _).put Agm _;generalize cz:((((z8.new [ic 0,nilS,nilS,nilS]).new [ic 0,nilS,nilS,nilS]).put z8.nobj [ic (A7 q' rs).head.p,sl ih3 (A7 q' rs).head.ts.length (Af (A7 q' rs).head.ts),sl ip3 (A7 q' rs).parts.length pc3,sl in3 (A7 q' rs).nots.length nc3]).put (z8.nobj+1) [ic (Hg q' rs).head.p,sl ih4 (Hg q' rs).head.ts.length (Af (Hg q' rs).head.ts),sl ip4 (Hg q' rs).parts.length pc4,sl in4 (Hg q' rs).nots.length nc4])=z9 at*
     have n9:z9.nobj=z8.nobj+2:=by rw[<-cz];rfl
     have o9:z9.obj z8.nobj=[ic (A7 q' rs).head.p,sl ih3 (A7 q' rs).head.ts.length (Af (A7 q' rs).head.ts),sl ip3 (A7 q' rs).parts.length pc3,sl in3 (A7 q' rs).nots.length nc3]:=by rw[<-cz,Ak Agm,Aj]
     clear cz;refine Bl (Q:=fun e s' z''=>e= .normal/\s' 0=ptr om 0/\s' 5=sl idv (vt.length+1) (ic v0::List.map ic vt)/\s' 6=ptr z8.nobj 0/\(∃idn,s' 70=sl idn ns.length (Ar ns))/\s' 71=ic ns.length/\s' 72=ic 0/\Keep z9 z'') ?_ ?_
     ·refine Ay Ag (fun _=>True) [] [0,1,2,3,6] 2 #[true,true,true,true,false,false,true] Agp (fun _ _ _ h=>by cases h.1) ?_;intro ya J;refine Z3 ?_;refine J.out _ ?_;clear J ya;refine Ai (i:=4) Agp ?_;refine Am ?_;intro ya J;refine Z3 ?_;refine ACalls.mono (dy _) ?_;rintro _ za ⟨⟨idn,rfl⟩,a3⟩;refine Z3 ?_;refine J.out _ _ ⟨Ao a3,?_⟩;clear J ya;refine Dc [5] Agp Agp (fun _ _ _ h=>by cases h.1) a3.nobj (fun o ho _=>a3.ver o ho) ?_;intro ya J;refine Z3 ?_;refine J.out _ _ ⟨rfl,?_⟩;refine⟨by simp[upd,initS],Ago,Ago,⟨idn,Ago⟩,Agn,Ago,a3⟩
     ·rintro e s z9' ⟨rfl,g0,g5,g6,⟨idn,g70⟩,g71,g72,a3⟩;have kna:=a3.nobj;have di:=d4.trans a3;have oa:z9'.obj z8.nobj=[ic (A7 q' rs).head.p,sl ih3 (A7 q' rs).head.ts.length (Af (A7 q' rs).head.ts),sl ip3 (A7 q' rs).parts.length pc3,sl in3 (A7 q' rs).nots.length nc3]:=by rw[a3.obj _ Agm,o9]
      have d3:MOb z9' om ot M d b:=hM.keep di;have fe:om≠z8.nobj:=by have:=hM.lo;omega
      have fc:ot≠z8.nobj:=by have:=hM.lt;omega
      refine zz ?_
      refine Ad (fun m s z'=>∃(j:Nat) (Mj:MM) (dj:Int),m=ns.length-j/\j<=ns.length/\s 0=ptr om 0/\s 5=sl idv (vt.length+1) (ic v0::List.map ic vt)/\s 6=ptr z8.nobj 0/\s 70=sl idn ns.length (Ar ns)/\s 71=ic ns.length/\s 72=ic j/\MOb z' om ot Mj dj b/\KM om ot M Mj z z'/\z8.nobj<z'.nobj/\z'.obj z8.nobj=[ic (A7 q' rs).head.p,sl ih3 (A7 q' rs).head.ts.length (Af (A7 q' rs).head.ts),sl ip3 (A7 q' rs).parts.length pc3,sl in3 (A7 q' rs).nots.length nc3]/\dj<=1000000/\Agt (Gro k (Wa neg q) M Mj d dj/\(¬b<dj->∀n∈ns.take j,∀t,Wa neg (C7 v0 n (A7 q' rs)) t->t∈A6 Mj k))) ns.length
       ⟨0,M,d,Agm,Agm,g0,g5,g6,g70,g71,g72,d3,KM.ofKeep di,Agm,oa,cm,Gro.refl _ _ _ _,fun _ n hn=>by simp at hn⟩ ?_
      clear g0 g5 g6 g70 g71 g72 d3 di oa kna a3 o9 d4;rintro m s z' ⟨j,Mj,dj,rfl,hj,g0,g5,g6,g70,g71,g72,cq,b6,c7,ob',ck,an⟩;by_cases eh:j<ns.length
      ·have av:=Adn eh;obtain⟨r,en⟩:=Di av;generalize ns[j]=n at en av;have ff:Agt (ns.take (j+1)=ns.take j++[n]):=by rw[Agt,Ad0,av,Aez]
       clear av;have d1:=ez n;have d9:Agt (∀c5,EQ (C7 v0 n (A7 q' rs)) c5->∀z,MOb z om ot Mj dj b->ACalls Tryz.prog 131 [ptr om 0,ag c5] z fun r z'=>∃M' d',MOb z' om ot M' d' b/\KM om ot Mj M' z z'/\Gro k (Wa neg (C7 v0 n (A7 q' rs))) Mj M' dj d'/\d'<=1000000/\(¬b<d'->∀t,Wa neg (C7 v0 n (A7 q' rs)) t->t∈A6 M' k)):=fun c5 bo=>e8.out n c5 Mj dj bo an.out.1 ck
       repeat' first|refine Z1 ?_|refine Z8 fun ya J=>?_|refine Z4 ?_;clear J ya|refine Z2 ?_ ?_<;>intro h ab<;>try exact Xp|refine Z3 ?_|exact Zt|apply J.out;clear J ya
       refine Bl (Q:=fun e s' z''=>e= .normal/\s' 0=ptr om 0/\s' 5=sl idv (vt.length+1) (ic v0::List.map ic vt)/\s' 6=ptr z8.nobj 0/\s' 70=sl idn ns.length (Ar ns)/\s' 71=ic ns.length/\s' 72=ic j/\∃o c5,s' 10=ptr o 0/\o<z''.nobj/\z''.obj o=c5/\EQ (C7 v0 n (A7 q' rs)) c5/\Keep z' z'') ?_ ?_
       ·refine Ay Ag (fun _=>True) [7] [0,1,2,3,4] 3 #[true,true,true,true,true,false,false,false] Agp (fun _ _ _ h=>by cases h.1) ?_;intro ya J;refine Z3 ?_;refine J.out _ ?_;clear J ya;refine Gz (rs:=[5,6]) Agp (by simp) ?_;intro i hi;simp only[Ae2,Afg,Agj]at hi;rcases hi with rfl|rfl
        ·refine Am ?_;intro ya J;refine Z3 ?_;refine ACalls.mono (d1 _) ?_;rintro _ zb ⟨⟨_,rfl,ih5,ip5,in5,pc5,nc5,rfl,dc,de⟩,az⟩;have knb:=az.nobj;refine Z3 ?_;refine J.out _ _ ⟨Ao az,?_⟩;clear J ya;refine Ai (i:=6) Agp ?_;refine Am ?_;intro ya J;refine Z3 ?_;refine J.out _ _ ⟨Ao (az.new _),?_⟩;clear J ya;refine Ai (i:=7) Agp ?_;refine Am ?_;intro ya J;refine Z3 ?_;refine J.out _ _ ⟨Bf rfl,?_⟩;clear J ya;refine Bb Agp ⟨rfl,Agn,Agn,Agn,Agn,Agn,Agn,zb.nobj,_,Ago,Ags,Aj,⟨ih5,ip5,in5,pc5,nc5,rfl,dc,de⟩,(az.new _).put knb _⟩
        ·refine Am ?_;intro ya J;refine Z3 ?_;refine J.out _ _ ⟨Ao ((Keep.refl _).new _),?_⟩;clear J ya;refine Ai (i:=5) Agp ?_;refine Am ?_;intro ya J;refine Z3 ?_;refine ACalls.mono (d1 _) ?_;rintro _ zb ⟨⟨_,rfl,ih5,ip5,in5,pc5,nc5,rfl,dc,de⟩,az⟩;have knb:=az.nobj;simp only[Aa]at knb;have obb:=az.obj z'.nobj Agq;rw[Al]at obb;refine Z3 ?_;refine J.out _ _ ⟨Ao (((Keep.refl _).new _).trans az),?_⟩;clear J ya;refine Ai (i:=7) Agp ?_;refine Am ?_;intro ya J;refine Z3 ?_;refine J.out _ _ ⟨Bf rfl,?_⟩;clear J ya;refine Bb Agp ⟨rfl,Agn,Agn,Agn,Agn,Agn,Agn,z'.nobj,_,Ago,by simp only[Ac];omega,Aj,⟨ih5,ip5,in5,pc5,nc5,rfl,dc,de⟩,(((Keep.refl _).new _).trans az).put (Adc _) _⟩
       ·rintro e s2 zc ⟨rfl,f0,f5,f6,f70,f71,f72,oo,c5,f10,fk,oc5,bo,cr⟩;have knc:=cr.nobj;have fb:=fun z=>d9.out c5 bo z;obtain⟨ih5,ip5,in5,pc5,nc5,rfl,-,-⟩:=bo;have eg:zc.obj z8.nobj=[ic (A7 q' rs).head.p,sl ih3 (A7 q' rs).head.ts.length (Af (A7 q' rs).head.ts),sl ip3 (A7 q' rs).parts.length pc3,sl in3 (A7 q' rs).nots.length nc3]:=by rw[cr.obj _ c7,ob']
        clear d9
        repeat' first|refine Z1 ?_|refine Z8 fun ya J=>?_|refine Z4 ?_;clear J ya|refine Z5 ?_;refine Xi (fb _ (cq.keep cr)) ?_;rintro _ _ ⟨M2,d2,e5,bg,d8,eo,a6⟩;(have dq:Agt _:=d8;have fi:Agt _:=a6;clear d8 a6;have dl:=(b6.trans (KM.ofKeep cr)).trans bg;have eb:=bg.obj z8.nobj Agm fe.symm fc.symm;have kn2:=bg.nobj)|refine Z3 ?_|exact Zt|apply J.out;clear J ya
        have HN:Agt (Gro k (Wa neg q) M M2 d d2/\(¬b<d2->∀n∈ns.take (j+1),∀t,Wa neg (C7 v0 n (A7 q' rs)) t->t∈A6 M2 k)):=by
         refine⟨an.out.1.trans (dq.out.mono (dp.out n)),fun c8 u hu t ht=>?_⟩;rw[ff.out]at hu;rcases Aet.1 hu with hu|hu
         ·have fm:=dq.out.le;exact dq.out.sub (an.out.2 Agm u hu t ht)
         ·simp at hu;subst hu;exact fi.out c8 t ht
        refine⟨ns.length-(j+1),Agm,j+1,M2,d2,?_⟩
        ((repeat' refine Zi ?_ ?_)<;>first|exact Xq|exact e5|exact dl|exact HN|exact (by rw[eb,eg])|exact Xs)
      ·have ej:j=ns.length:=Agm;subst ej
       repeat' first|refine Z1 ?_|refine Z8 fun ya J=>?_|refine Z4 ?_;clear J ya|refine Z2 ?_ ?_<;>intro h ab<;>try exact Xp|refine Z3 ?_|exact Zt|apply J.out;clear J ya
       refine⟨_,rfl,Mj,dj,cq,b6,an.out.1,ck,fun c8 t ht=>?_⟩;obtain⟨n,hn,h1⟩:=dr.out t ht;rw[fg.out]at hn;exact an.out.2 c8 n (by rw[Adu];exact hn) t h1
theorem cE (neg:Int->Cc->Prop)(om ot:Nat)(b:Int):∀(n:Nat) (V:List Int),V.length<=n->yI neg om ot b V:=by
 intro n;induction n with
 |zero=>exact fun V hV=>Ps neg om ot b V (fun V' h=>Agm)
 |succ n IH=>exact fun V hV=>Ps neg om ot b V (fun V' h=>IH V' Agm)
def Sh (ar:Nat->Nat)(k:Nat)(t:Cc):Prop:=∃l:List Int,t=D3 l/\l.length=ar k/\∀x∈l,∃n:Nat,x=(n:Int)/\n<1026
structure RW (np:Nat)(ar:Nat->Nat)(r:J4):Prop where
 rok:ROk np r
 nne:∀l∈r.body,l.neg=true->l.a.p≠r.head.p
 har:r.head.ts.length=ar r.head.p.toNat
 bar:∀l∈r.body,l.a.ts.length=ar l.a.p.toNat
 hc:∀t∈r.head.ts,t.1=false->∃n:Nat,t.2=(n:Int)/\n<1026
 hv:∀v,(true,v)∈r.head.ts->0<=v/\v<26
 bv:∀l∈r.body,∀v,(true,v)∈l.a.ts->0<=v/\v<26
 safe:∀v,(A9 r.head.ts v=true\/∃l∈r.body,l.neg=true/\A9 l.a.ts v=true)->∃l∈r.body,l.neg=false/\A9 l.a.ts v=true
theorem Aaf {a:Dy}(h3:a.ts.length<=3)(ν:Nu):K4 a.ts (Br a ν)=true:=by
 unfold K4;rw[Ado];intro i hi;have hi:i<a.ts.length:=by simpa using hi
 have hg:(Br a ν)[i]?=some (D2 ν a.ts[i]):=by
  unfold Br;rw[Jh (by simpa using hi) (by simpa using h3)];simp
 unfold Rq;rw[Adn hi,hg];cases ht:a.ts[i]with
 |mk b n=>
  cases b with
  |false=>simp[D2]
  |true=>
   have hm:(true,n)∈a.ts:=by rw[<-ht];exact Aes hi
   have:=Is (ν:=ν) h3 (hasV_iff.2 hm);unfold Hk at this;simp only;rw[this];simp[D2]
theorem yW {a:Dy}{t:Cc}{l:List Int}(h3:a.ts.length<=3)(ht:t=D3 l)(hl:l.length=a.ts.length)(hf:K4 a.ts t=true):∃μ,t=Br a μ:=by
 refine⟨fun v=>Hk t (Ig a.ts v),?_⟩;have:a.ts.map (D2 fun v=>Hk t (Ig a.ts v))=l:=by
  apply List.ext_getElem (by simp[hl]);intro i h1 h2;have hi:i<a.ts.length:=by simpa using h1
  unfold K4 at hf;rw[Ado]at hf;have h:=hf i (by simpa using hi);have hg:t[i]?=some l[i]:=by rw[ht,Jh h2 Agm]
  unfold Rq at h;rw[Adn hi,hg]at h;rw[List.getElem_map];cases he:a.ts[i]with
  |mk b n=>
   rw[he]at h;cases b with
   |false=>
    simp only[Agf]at h;simp[D2,h]
   |true=>
    simp only[Agf]at h;rw[h];simp[D2,Hk]
 unfold Br;rw[this,ht]
theorem jO {M:MM}{nw:Int}{fr i:Nat}{l:Lit}{t:Cc}(h:t∈Vz M nw fr i l):t∈A6 M l.a.p:=by
 unfold Vz at h;split at h
 ·exact List.mem_of_mem_drop h
 ·exact h
theorem Il {M:MM}{nw:Int}{fr:Nat}{b:List Lit}{p:Part}(h:p∈Mx M nw fr b):∃(l:Lit) (i:Nat),b[i]?=some l/\l.neg=false/\p=jP M nw fr (l,i):=by
 unfold Mx at h;obtain⟨⟨l,i⟩,hx,rfl⟩:=Ae4.1 h;obtain⟨h1,h2⟩:=Afz.1 hx;have:=List.mem_zipIdx_iff_getElem?.1 h1;exact⟨l,i,by simpa using this,by simpa using h2,rfl⟩
theorem pZ {M:MM}{nw:Int}{fr:Nat}{b:List Lit}{l:Lit}{i:Nat}(h:b[i]?=some l)(hn:l.neg=false):jP M nw fr (l,i)∈Mx M nw fr b:=by
 unfold Mx;refine Ae4.2 ⟨(l,i),Afz.2 ⟨List.mem_zipIdx_iff_getElem?.2 (by simpa using h),by simp[hn]⟩,rfl⟩
def MSh (ar:Nat->Nat)(M:MM):Prop:=∀(k:Nat) (t:Cc),t∈A6 M (k:Int)->Sh ar k t
theorem Aap {z:St}{om ot:Nat}{M:MM}{d b:Int}{ar:Nat->Nat}{r:J4}(hM:MOb z om ot M d b)(hS:MSh ar M)(hr:RW M.length ar r)(nw:Int)(fr:Nat):Qv (Ks M nw fr r)/\QV (Ks M nw fr r)/\∀v,inQ (Ks M nw fr r) v->v∈(List.range 26).map fun n:Nat=>(n:Int):=by
 have hk:∀l∈r.body,∃k:Nat,l.a.p=(k:Int)/\k<M.length:=hr.rok.bp;have ac:∀a∈Qs r.body,∃l∈r.body,l.neg=true/\l.a=a:=fun a ha=>by
  obtain⟨l,hl,rfl⟩:=Ae4.1 ha;obtain⟨h1,h2⟩:=Afz.1 hl;exact⟨l,h1,h2,rfl⟩
 have ak:(Qs r.body).length<=r.body.length:=by
  unfold Qs;rw[Ae3];exact Af0 _ _
 have ae:∀l∈r.body,T3 (A6 M l.a.p)/\(A6 M l.a.p).length<=5000:=fun l hl=>by
  obtain⟨k,e,ai⟩:=hk l hl;have hg:M[k]?=some M[k]:=Adn ai;rw[e,Cg hg];have hm:=Aes ai;exact⟨hM.t3 _ hm,hM.ln _ hm⟩
 have hpl:(Mx M nw fr r.body).length<=r.body.length:=by
  unfold Mx;rw[Ae3];refine Ade (Af0 _ _) (by simp)
 have aa:∀(l:Lit) (i:Nat),∀t∈(jP M nw fr (l,i)).tups,t∈A6 M l.a.p/\K4 l.a.ts t=true:=fun l i t ht=>by
  obtain⟨h1,h2⟩:=Afz.1 ht;exact⟨jO h1,h2⟩
 have ab:∀v,inQ (Ks M nw fr r) v->0<=v/\v<26:=fun v ⟨a,ha,hv⟩=>by
  unfold atomsQ Ks at ha;simp only[Ae2,Aet,Ae4]at ha;rcases ha with rfl|⟨p,hp,rfl⟩|ha
  ·exact hr.hv v (hasV_iff.1 hv)
  ·obtain⟨l,i,h1,h2,rfl⟩:=Il hp;exact hr.bv l (Adp h1) v (hasV_iff.1 hv)
  ·obtain⟨l,h1,h2,rfl⟩:=ac a ha;exact hr.bv l h1 v (hasV_iff.1 hv)
 refine⟨⟨⟨hr.rok.hd,Ade hpl hr.rok.bl,Ade ak hr.rok.bl,fun p hp=>?_,fun p hp=>?_,fun p hp=>?_,fun a ha=>?_⟩,fun p hp t ht=>?_,fun p hp=>?_,fun v hv=>?_⟩,fun a ha v hv=>(ab v ⟨a,ha,hasV_iff.2 hv⟩).1,fun v hv=>?_⟩
 ·obtain⟨l,i,h1,h2,rfl⟩:=Il hp;exact hr.rok.ba l (Adp h1)
 ·obtain⟨l,i,h1,h2,rfl⟩:=Il hp;have h3:=(ae l (Adp h1)).2;refine Ade (Af0 _ _) ?_;unfold Vz;split
  ·simp;omega
  ·exact h3
 ·obtain⟨l,i,h1,h2,rfl⟩:=Il hp;exact fun t ht=>(ae l (Adp h1)).1 t (aa l i t ht).1
 ·obtain⟨l,h1,h2,rfl⟩:=ac a ha;exact hr.rok.ba l h1
 ·obtain⟨l,i,h1,h2,rfl⟩:=Il hp;have hl:=Adp h1;obtain⟨k,e,-⟩:=hk l hl;have h3:=(aa l i t ht).1;rw[e]at h3;obtain⟨m,rfl,ad,ah⟩:=hS k t h3;intro j hj;have af:m.length=l.a.ts.length:=by rw[ad,hr.bar l hl,e];rfl
  have aj:j<m.length:=by rw[af];exact hj
  obtain⟨n,an,am⟩:=ah m[j] (Aes aj);exact⟨n,by rw[Jh aj (by rw[af];exact hr.rok.ba l hl),an],am⟩
 ·obtain⟨l,i,h1,h2,rfl⟩:=Il hp;have hl:=Adp h1;refine⟨hr.rok.ba l hl,fun t ht=>?_⟩;obtain⟨k,e,-⟩:=hk l hl;obtain⟨h3,h4⟩:=aa l i t ht;rw[e]at h3;obtain⟨m,hm1,ad,ah⟩:=hS k t h3;exact yW (a:=l.a) (hr.rok.ba l hl) hm1 (by rw[ad,hr.bar l hl,e];rfl) h4
 ·obtain⟨l,hl,ap,ao⟩:=hr.safe v (by
   rcases hv with h|⟨a,ha,h⟩
   ·exact .inl h
   ·obtain⟨l,h1,h2,rfl⟩:=ac a ha
    exact .inr ⟨l,h1,h2,h⟩)
  obtain⟨i,hi⟩:=Afc hl;exact⟨jP M nw fr (l,i),pZ hi ap,ao⟩
 ·obtain⟨h1,h2⟩:=ab v hv;rw[Ae4];exact⟨v.toNat,by simp;omega,Agm⟩
theorem pY {neg:Int->Cc->Prop}{M:MM}{nw:Int}{fr:Nat}{ar:Nat->Nat}{r:J4}{t:Cc}(hr:RW M.length ar r):Wa neg (Ks M nw fr r) t↔∃ν,(∀(l:Lit) (i:Nat),r.body[i]?=some l->l.neg=false->Br l.a ν∈Vz M nw fr i l)/\(∀l∈r.body,l.neg=true->¬neg l.a.p (Br l.a ν))/\t=Br r.head ν:=by
 constructor
 ·rintro⟨ν,hν,rfl⟩;refine⟨ν,fun l i hi hn=>?_,fun l hl hn=>hν.2 l.a (Ae4.2 ⟨l,Afz.2 ⟨hl,hn⟩,rfl⟩),rfl⟩;have:=hν.1 _ (pZ hi hn);exact (Afz.1 this).1
 ·rintro⟨ν,h,h',rfl⟩;refine⟨ν,⟨fun p hp=>?_,fun a ha=>?_⟩,rfl⟩
  ·obtain⟨l,i,h1,h2,rfl⟩:=Il hp;exact Afz.2 ⟨h l i h1 h2,Aaf (hr.rok.ba l (Adp h1)) ν⟩
  ·obtain⟨l,hl,rfl⟩:=Ae4.1 ha;obtain⟨h1,h2⟩:=Afz.1 hl;exact h' l h1 h2
abbrev Ff:=Nat->Cc->Prop
def ClD (R:List J4)(D:Ff):Prop:=∀r∈R,∀ν,(∀l∈r.body,D l.a.p.toNat (Br l.a ν))->D r.head.p.toNat (Br r.head ν)
def J5 (N D:Ff)(ν:Nu)(l:Lit):Prop:=if l.neg=true then¬N l.a.p.toNat (Br l.a ν)else D l.a.p.toNat (Br l.a ν)
def ClG (R:List J4)(N D:Ff):Prop:=∀r∈R,∀ν,(∀l∈r.body,J5 N D ν l)->D r.head.p.toNat (Br r.head ν)
theorem cM {R:List J4}{N D:Ff}(h:∀r∈R,∀l∈r.body,l.neg=false):ClG R N D↔ClD R D:=by
 have key:∀r∈R,∀ν,(∀l∈r.body,J5 N D ν l)↔∀l∈r.body,D l.a.p.toNat (Br l.a ν):=fun r hr ν=>by
  constructor
  ·intro g l hl;have:=g l hl;unfold J5 at this;rw[h r hr l hl]at this;simpa using this
  ·intro g l hl;unfold J5;rw[h r hr l hl];simpa using g l hl
 exact⟨fun g r hr ν hν=>g r hr ν ((key r hr ν).2 hν),fun g r hr ν hν=>g r hr ν ((key r hr ν).1 hν)⟩
def MD (M:MM):Ff:=fun k t=>t∈A6 M (k:Int)
def tot (M:MM):Int:=(Gv M).sum
structure GroA (D:Ff)(M M':MM)(d d':Int):Prop where
 len:M'.length=M.length
 ext:∀k:Nat,∃new:List Cc,A6 M' k=A6 M k++new/\new.Nodup/\∀t∈new,D k t/\t∉A6 M k
 cnt:d'-d=tot M'-tot M
theorem GroA.refl (D:Ff)(M:MM)(d:Int):GroA D M M d d:=⟨rfl,fun k=>⟨[],by simp,Afs,by simp⟩,Agm⟩
theorem GroA.trans {D:Ff}{M M1 M2:MM}{d d1 d2:Int}(h:GroA D M M1 d d1)(g:GroA D M1 M2 d1 d2):GroA D M M2 d d2:=by
 refine⟨g.len.trans h.len,fun k=>?_,by have:=h.cnt;have:=g.cnt;omega⟩;obtain⟨n1,a1,a2,a3⟩:=h.ext k;obtain⟨n2,b1,b2,b3⟩:=g.ext k;refine⟨n1++n2,by rw[b1,a1,Aed],?_,?_⟩
 ·rw[Afr];exact⟨a2,b2,fun x hx y hy e=>(b3 y hy).2 (by rw[a1,<-e];exact Aet.2 (.inr hx))⟩
 ·intro t ht;rcases Aet.1 ht with ht|ht
  ·exact a3 t ht
  ·exact⟨(b3 t ht).1,fun hm=>(b3 t ht).2 (by rw[a1];exact Aet.2 (.inl hm))⟩
theorem GroA.sub {D:Ff}{M M':MM}{d d':Int}(h:GroA D M M' d d'){k:Nat}{t:Cc}(ht:t∈A6 M k):t∈A6 M' k:=by
 obtain⟨n,a1,-,-⟩:=h.ext k;rw[a1];exact Aet.2 (.inl ht)
theorem GroA.inD {D:Ff}{M M':MM}{d d':Int}(h:GroA D M M' d d')(hD:∀k t,MD M k t->D k t):∀k t,MD M' k t->D k t:=fun k t ht=>by
 obtain⟨n,a1,-,a3⟩:=h.ext k;unfold MD at ht;rw[a1]at ht;rcases Aet.1 ht with ht|ht
 ·exact hD k t ht
 ·exact (a3 t ht).1
theorem Eg (x:Nat×List Cc)(M:MM):tot (x::M)=(x.2.length:Int)+tot M:=by simp[tot,Gv]
theorem Oy:∀(M M':MM) (k:Nat) (n:Nat),M'.length=M.length->(∀j,j≠k->(M'[j]?).map (·.2)=(M[j]?).map (·.2))->(k<M.length->((A6 M' k).length:Int)=(A6 M k).length+n)->(M.length<=k->n=0)->tot M'=tot M+n
 |[],M',k,n,hl,ho,hk,hn=>by
  have:M'=[]:=Ads (by simpa using hl);subst this;have:=hn (by simp);subst this;simp[tot,Gv]
 |x::M,[],k,n,hl,ho,hk,hn=>by simp at hl
 |x::M,y::M',0,n,hl,ho,hk,hn=>by
  have h0:=hk (by simp);simp[A6]at h0;have aa:tot M'=tot M+(0:Nat):=Oy M M' M.length 0 (by simpa using hl) (fun j hj=>by have:=ho (j+1) Agm;simpa using this) (fun h=>Agm) (fun _=>rfl);rw[Eg,Eg,aa];omega
 |x::M,y::M',k+1,n,hl,ho,hk,hn=>by
  have h0:=ho 0 Agm;simp at h0
  have aa:=Oy M M' k n (by simpa using hl) (fun j hj=>by have:=ho (j+1) Agm;simpa using this) (fun h=>by
   have:=hk (by simp;omega)
   simpa[A6]using this) (fun h=>hn (by simp;omega))
  rw[Eg,Eg,aa,h0];omega
theorem Gro.all {k:Nat}{S:Cc->Prop}{D:Ff}{M M':MM}{d d':Int}(h:Gro k S M M' d d')(hk:k<M.length)(hS:∀t,S t->D k t):GroA D M M' d d':=by
 obtain⟨n,a1,a2,a3,a4⟩:=h.ext;refine⟨h.len,fun j=>?_,?_⟩
 ·by_cases e:j=k
  ·subst e;exact⟨n,a1,a2,fun t ht=>⟨hS t (a3 t ht).1,(a3 t ht).2⟩⟩
  ·refine⟨[],?_,Afs,by simp⟩;have:=h.oth j e;unfold A6;simp only[Af3];rw[this];simp
 ·have:=Oy M M' k n.length h.len h.oth (fun _=>by rw[a1];simp) (fun hh=>Agm);omega
theorem cX (a:J4)(c:List AV)(h:kB a c):c.length=4:=by obtain⟨o,ih,ib,bc,rfl,-⟩:=h;rfl
theorem qD {l:List J4}{cs:List AV}{i:Nat}{r:J4}(h:EL kB l cs)(hi:l[i]?=some r):∃o ih ib bc rr,cs.drop (i*4)=sc (.bool o)::ic r.head.p::sl ih r.head.ts.length (Af r.head.ts)::sl ib r.body.length bc::rr/\EL ELt r.body bc:=by
 obtain⟨c,rr,⟨o,ih,ib,bc,rfl,hB⟩,e⟩:=EL.get cX h hi;exact⟨o,ih,ib,bc,rr,e,hB⟩
def NgIn (R:List J4)(D:Ff)(M:MM):Prop:=∀r∈R,∀l∈r.body,l.neg=true->∀t,D l.a.p.toNat t->MD M l.a.p.toNat t
theorem NgIn.gro {R:List J4}{D:Ff}{M M':MM}{d d':Int}(h:NgIn R D M)(g:GroA D M M' d d'):NgIn R D M':=fun r hr l hl hn t ht=>g.sub (h r hr l hl hn t ht)
def ngD (D:Ff):Int->Cc->Prop:=fun p t=>D p.toNat t
structure Fol (np:Nat)(ar:Nat->Nat)(R:List J4)(D:Ff):Prop where
 rw:∀r∈R,RW np ar r
 cl:ClG R D D
 sh:∀k t,D k t->Sh ar k t
theorem Aao {np:Nat}{ar:Nat->Nat}{R:List J4}{D:Ff}{M:MM}{nw:Int}{fr:Nat}{r:J4}(hF:Fol np ar R D)(hn:M.length=np)(hr:r∈R)(hD:∀k t,MD M k t->D k t){t:Cc}(ht:Wa (ngD D) (Ks M nw fr r) t):D r.head.p.toNat t:=by
 obtain⟨ν,h1,h2,rfl⟩:=(pY (ar:=ar) (hn ▸ hF.rw r hr)).1 ht;refine hF.cl r hr ν (fun l hl=>?_);unfold J5;cases aa:l.neg with
 |true=>simpa[ngD]using h2 l hl aa
 |false=>
  obtain⟨i,hi⟩:=Afc hl;obtain⟨k,hk,-⟩:=(hF.rw r hr).rok.bp l hl;have:=jO (h1 l i hi aa);rw[hk]at this;simp only[Aei,if_false];rw[hk];exact hD k _ this
theorem Vy {np:Nat}{ar:Nat->Nat}{R:List J4}{D:Ff}(hF:Fol np ar R D)(om ot:Nat)(b:Int)(ak: -1000000<=b)(aj:b<=900000)(M:MM)(d:Int)(hn:M.length=np)(hD:∀k t,MD M k t->D k t)(hNg:NgIn R D M)(hR:Room M d b)(ai: -1000000<=d)(ah:d<=1000000)(r:J4)(hr:r∈R)(nw:Int)(fr:Nat)(c:List AV)(hc:EQ (Ks M nw fr r) c)(z:St)(hM:MOb z om ot M d b):
  ACalls Tryz.prog 131 [ptr om 0,ag c] z fun x z'=>∃M' d',MOb z' om ot M' d' b/\KM om ot M M' z z'/\GroA D M M' d d'/\Room M' d' b/\d'<=1000000/\d<=d'/\(¬b<d'->∀ν,(∀(l:Lit) (i:Nat),r.body[i]?=some l->l.neg=false->Br l.a ν∈Vz M nw fr i l)->(∀l∈r.body,l.neg=true->¬D l.a.p.toNat (Br l.a ν))->MD M' r.head.p.toNat (Br r.head ν)):=by
 have aa:RW M.length ar r:=hn ▸ hF.rw r hr;obtain⟨a1,a2,a3⟩:=Aap hM (fun k t ht=>hF.sh k t (hD k t ht)) aa nw fr;obtain⟨k,hk,ad⟩:=aa.rok.hp;have ac:∀a∈(Ks M nw fr r).nots,∃l∈r.body,l.neg=true/\l.a=a:=fun a ha=>by
  obtain⟨l,hl,rfl⟩:=Ae4.1 ha;obtain⟨h1,h2⟩:=Afz.1 hl;exact⟨l,h1,h2,rfl⟩
 have b1:NegOk (ngD D) M (Ks M nw fr r):=fun a ha=>by
  obtain⟨l,h1,h2,rfl⟩:=ac a ha;obtain⟨j,hj,af⟩:=aa.rok.bp l h1;have hg:M[j]?=some M[j]:=Adn af;refine⟨j,M[j],hj,hg,fun t=>?_⟩;have hT:=Cg hg;have e:l.a.p.toNat=j:=by rw[hj];rfl
  unfold ngD;rw[e];constructor
  ·intro ht;have:=hNg r hr l h1 h2 t (by rw[e];exact ht);rw[e]at this;unfold MD at this;rwa[hT]at this
  ·intro ht;exact hD j t (by unfold MD;rw[hT];exact ht)
 have b2:∀a∈(Ks M nw fr r).nots,a.p≠(k:Int):=fun a ha e=>by
  obtain⟨l,h1,h2,rfl⟩:=ac a ha;exact aa.nne l h1 h2 (by rw[e,hk])
 have:=cE (ngD D) om ot b _ _ (Adc _) (Ks M nw fr r) c k M d hc a1 b1 b2 a2 hk ad hR ai ah ak aj a3 z hM;refine ACalls.mono this ?_;rintro x z' ⟨M',d',h1,h2,h3,h4,h5⟩;have ab:r.head.p.toNat=k:=by rw[hk];rfl
 refine⟨M',d',h1,h2,h3.all ad (fun t ht=>by rw[<-ab];exact Aao hF hn hr hD ht),h3.room hR,h4,h3.le,fun ae ν hν hν'=>?_⟩;unfold MD;rw[ab];exact h5 ae _ ((pY aa).2 ⟨ν,hν,hν',rfl⟩)
def NewR (D:Ff)(M0 M':MM)(seen:List Int)(r:J4)(j:Nat):Prop:=∀(i:Nat) (l:Lit),i<j->r.body[i]?=some l->l.neg=false->∀ν,(∀l'∈r.body,J5 D (MD M0) ν l')->Br l.a ν∈(A6 M0 l.a.p).drop ((seen[l.a.p.toNat]?).getD 0).toNat->MD M' r.head.p.toNat (Br r.head ν)
theorem NewR.mono {D:Ff}{M0 M1 M2:MM}{seen:List Int}{r:J4}{j:Nat}{d1 d2:Int}(h:NewR D M0 M1 seen r j)(g:GroA D M1 M2 d1 d2):NewR D M0 M2 seen r j:=fun i l hi hl hn ν h1 h2=>g.sub (h i l hi hl hn ν h1 h2)
theorem Rt {np:Nat}{ar:Nat->Nat}{R:List J4}{D:Ff}(hF:Fol np ar R D)(om ot:Nat)(b:Int)(cd: -1000000<=b)(cc:b<=900000)(M:MM)(d:Int)(hn:M.length=np)(hD:∀k t,MD M k t->D k t)(hNg:NgIn R D M)(cf:Room M d b)(c9: -1000000<=d)(ca:d<=1000000)(rc:List AV)(idr:Nat)(bd:EL kB R rc)(db:R.length<=1000)(seen:List Int)(ids:Nat)(bz:seen.length=np)(b1:∀n∈seen,0<=n/\n<=5000)(z:St)(hM:MOb z om ot M d b):
  ACalls Tryz.prog 132 [ptr om 0,sl idr R.length rc,sl ids seen.length (Ar seen)] z fun x z'=>∃M' d',MOb z' om ot M' d' b/\KM om ot M M' z z'/\GroA D M M' d d'/\Room M' d' b/\d'<=1000000/\d<=d'/\(¬b<d'->∀r∈R,NewR D M M' seen r r.body.length):=by
 have cx:=EL.length cX bd;have cv:=Bs seen;have hpl:=hM.pl;have cw:np<=seen.length:=Agm;have c6:M.length<=np:=Agm;have c5:np<=M.length:=Agm;have bo:Agt (M.length=np):=hn;clear bz hn;refine Z9 59 [] Tryz.func132 ?_
 refine zz ?_
 refine Ad (fun m s z'=>∃(k:Nat) (M1:MM) (d1:Int),m=R.length-k/\k<=R.length/\s 0=ptr om 0/\s 2=sl ids seen.length (Ar seen)/\s 12=sl idr R.length rc/\s 13=ic R.length/\s 14=ic k/\MOb z' om ot M1 d1 b/\KM om ot M M1 z z'/\d1<=1000000/\d<=d1/\Agt (GroA D M M1 d d1/\Room M1 d1 b/\(¬b<d1->∀r∈R.take k,NewR D M M1 seen r r.body.length))) R.length
  ⟨0,M,d,Agm,Agm,by simp[upd,initS],by simp[upd,initS],Ago,Ago,rfl,hM,KM.ofKeep (Keep.refl _),ca,Agm,GroA.refl _ _ _,cf,fun _ r hr=>by simp at hr⟩ ?_
 rintro m s z' ⟨k,M1,d1,rfl,hk,h0,h2,bn,bm,bi,aw,an,am,ak,hG⟩;by_cases be:k<R.length
 ·have aa:=Adn be;obtain⟨o,ih,ib,bc,rr,hd,hB⟩:=qD bd aa;have ad:=Aes be;generalize R[k]=r at hd aa ad hB;have ct:Agt (R.take (k+1)=R.take k++[r]):=by rw[Agt,Ad0,aa,Aez]
  clear aa;have da:=EL.length P4 hB;have cb:=(hF.rw r ad).rok.bl;have l1:=aw.lo;have l2:=aw.lt
  repeat' first|refine Z1 ?_|refine Z8 fun ya J=>?_|refine Z4 ?_;clear J ya|refine Z2 ?_ ?_<;>intro h ac<;>try exact Xp|refine Z3 ?_|exact Zt|apply J.out;clear J ya
  refine Ad (fun m s z2=>∃(j:Nat) (M2:MM) (d2:Int),m=r.body.length-j/\j<=r.body.length/\s 0=ptr om 0/\s 2=sl ids seen.length (Ar seen)/\s 7=ptr z'.nobj 0/\s 12=sl idr R.length rc/\s 13=ic R.length/\s 14=ic k/\s 19=sl ib r.body.length bc/\s 20=ic r.body.length/\s 21=ic j/\MOb z2 om ot M2 d2 b/\KM om ot M M2 z z2/\z'.nobj<z2.nobj/\z2.obj z'.nobj=[sc (.bool o),ic r.head.p,sl ih r.head.ts.length (Af r.head.ts),sl ib r.body.length bc]/\d2<=1000000/\d<=d2/\Agt (GroA D M M2 d d2/\Room M2 d2 b/\(¬b<d2->(∀r∈R.take k,NewR D M M2 seen r r.body.length)/\NewR D M M2 seen r j))) r.body.length
   ⟨0,M1,d1,Agm,Agm,Agn,Agn,Ago,Agn,Agn,Agn,Ago,Ago,rfl,aw.keep (((Keep.refl _).new _).put (Adc _) _),an.trans (KM.ofKeep (((Keep.refl _).new _).put (Adc _) _)),Ags,Aj,am,ak,hG.out.1,hG.out.2.1,fun h=>⟨hG.out.2.2 h,fun i l hi=>Agm⟩⟩ ?_
  have cr:om≠z'.nobj:=Agm;have cq:ot≠z'.nobj:=Agm;clear h0 h2 bn bm bi aw an hG am ak l1 l2;rintro m s z2 ⟨j,M2,d2,rfl,hj,h0,h2,h7,bn,bm,bi,de,dd,dc,af,au,cz,br,a8,b9,hG⟩;have l1:=af.lo;have l2:=af.lt;by_cases ay:j<r.body.length
  ·have aa:=Adn ay;obtain⟨id,r2,aj⟩:=Sb hB aa;have bf:=Aes ay;generalize r.body[j]=w at aj aa bf;obtain⟨p,hp,cy⟩:=(hF.rw r ad).rok.bp w bf;have HW:Agt (r.body[j]?=some w):=aa;clear aa;rw[hp]at aj;have a3:seen[p]?=some seen[p]:=Adn Agm;obtain⟨rs,b7⟩:=Di a3;have b0:=b1 _ (Aes (show p<seen.length by omega));generalize seen[p]=f at a3 b7 b0;obtain⟨fn,rfl⟩:∃fn:Nat,f=(fn:Int):=⟨f.toNat,Agm⟩;have ck:M2.length<=M.length/\M.length<=M2.length:=by have:=hG.out.1.len;omega
   have ai:M2[p]?=some M2[p]:=Adn Agm;generalize M2[p]=y at ai;have c8:=H7 ai;have cu:=af.ln y (Adp ai);have c7:=H6 M2;have obm:=af.ob;have obt:=af.oc;have b2:=af.pl;have ce:Agt (A6 M2 (p:Int)=y.2):=Cg ai
   --what this literal's turn must bring
   have ab:Agt (∀M3 d3,GroA D M2 M3 d2 d3->(¬b<d3->w.neg=false->∀ν,(∀l'∈r.body,J5 D (MD M) ν l')->Br w.a ν∈(A6 M w.a.p).drop fn->MD M3 r.head.p.toNat (Br r.head ν))->d2<=d3->(¬b<d3->(∀r∈R.take k,NewR D M M3 seen r r.body.length)/\NewR D M M3 seen r (j+1))):=fun M3 d3 bg ah b3 a5=>by
    obtain⟨g1,g2⟩:=hG.out.2.2 Agm;refine⟨fun r' az=>(g1 r' az).mono bg,fun i l hi hl av ν a1 a2=>?_⟩;by_cases e:i=j
    ·subst e;rw[HW.out]at hl;obtain rfl:=Afm hl;refine ah a5 av ν a1 ?_;rw[hp]at a2⊢;rw[Af3,a3]at a2;simpa using a2
    ·exact bg.sub (g2 i l Agm hl av ν a1 a2)
   cases ae:w.neg with
   |true=>
    have HN:Agt (GroA D M M2 d d2/\Room M2 d2 b/\(¬b<d2->(∀r∈R.take k,NewR D M M2 seen r r.body.length)/\NewR D M M2 seen r (j+1))):=
     ⟨hG.out.1,hG.out.2.1,ab.out M2 d2 (GroA.refl _ _ _) (fun _ hh=>by rw[ae]at hh;cases hh) Agm⟩
    rw[ae]at aj;clear ab ae
    repeat' first|refine Z1 ?_|refine Z8 fun ya J=>?_|refine Z4 ?_;clear J ya|refine Z2 ?_ ?_<;>intro h ac<;>try exact Xp|refine Z3 ?_|exact Zt|apply J.out;clear J ya
    refine Aw Ag (fun _=>True) [] [0,1,2,3,4,5,6,7,8,9,10,11,12,13,14,15,16] [] Agp (fun _ _ _ h=>h) ?_;intro ya J
    repeat' first|refine Z1 ?_|refine Z8 fun ya J=>?_|refine Z4 ?_;clear J ya|refine Z2 ?_ ?_<;>intro h ac<;>try exact Xp|refine Z3 ?_|exact Zt|apply J.out;clear J ya
    refine⟨r.body.length-(j+1),Agm,j+1,M2,d2,?_⟩
    ((repeat' refine Zi ?_ ?_)<;>first|exact Xq|exact HN|exact (af.keep (((Keep.refl _).new _).put (Adc _) _))|exact (au.trans (KM.ofKeep (((Keep.refl _).new _).put (Adc _) _)))|exact Xs)
   |false=>
    rw[ae]at aj;clear ae
    repeat' first|refine Z1 ?_|refine Z8 fun ya J=>?_|refine Z4 ?_;clear J ya|refine Z2 ?_ ?_<;>intro h ac<;>try exact Xp|refine Z3 ?_|exact Zt|apply J.out;clear J ya
    refine Aw Ag (fun _=>True) [] [0,1,2,3,4,5,6,7,8,9,10,11,12,13,14,15,16] [] Agp (fun _ _ _ h=>h) ?_;intro ya J;by_cases a6:fn<y.2.length
    ·have b6:decide ((fn:Int)<(y.2.length:Int))=true:=by simp;exact a6
     have cp:=fun z (h:MOb z om ot M2 d2 b)=>aC om ot M2 d2 b r [sc (.bool o),ic r.head.p,sl ih r.head.ts.length (Af r.head.ts),sl ib r.body.length bc] (j:Int) fn ⟨o,ih,ib,bc,rfl,hB⟩ (by have:=hG.out.1.len;rw[this,bo.out];exact (hF.rw r ad).rok) Agm z h;have cn:Agt (∀c3,EQ (Ks M2 (j:Int) fn r) c3->∀z,MOb z om ot M2 d2 b->ACalls Tryz.prog 131 [ptr om 0,ag c3] z fun x z'=>∃M' d',MOb z' om ot M' d' b/\KM om ot M2 M' z z'/\GroA D M2 M' d2 d'/\Room M' d' b/\d'<=1000000/\d2<=d'/\(¬b<d'->∀ν,(∀(l:Lit) (i:Nat),r.body[i]?=some l->l.neg=false->Br l.a ν∈Vz M2 (j:Int) fn i l)->(∀l∈r.body,l.neg=true->¬D l.a.p.toNat (Br l.a ν))->MD M' r.head.p.toNat (Br r.head ν))):=fun c3 h3 z hh=>
      Vy hF om ot b cd cc M2 d2 (by have:=hG.out.1.len;rw[this];exact bo.out) (hG.out.1.inD hD) (hNg.gro hG.out.1) hG.out.2.1 Agm a8 r ad (j:Int) fn c3 h3 z hh
     clear a6
     repeat' first|refine Z1 ?_|refine Z8 fun ya J=>?_|refine Z4 ?_;clear J ya|refine Z2 ?_ ?_<;>intro h ac<;>try exact Xp|(refine Z5 ?_;first|(refine Xi (cp _ (af.keep (Xs))) ?_;rintro _ _ ⟨⟨_,rfl,ih3,ip3,in3,pc3,nc3,rfl,ch,ci⟩,ba⟩;(have a0:=ba.nobj;have ax:=ba.obj;simp only[Ac,Aa]at a0 ax;have cm:=(((Keep.refl z2).new _).put (Adc _) _).trans ba;have co:=cn.out _ ⟨ih3,ip3,in3,pc3,nc3,rfl,ch,ci⟩))|(refine Xi (co _ (af.keep (Xs))) ?_;rintro _ _ ⟨M3,d3,cj,ap,bh,cg,b8,a7,ah⟩;(have bq:Agt _:=bh;have bb:Agt _:=ah;clear bh ah;have kn3:=ap.nobj;simp only[Ac,Aa]at kn3;have bw:=ap.obj z'.nobj (by simp only[Ac,Aa];omega) cr.symm cq.symm;have a9:=(au.trans (KM.ofKeep ((cm.new _).put Agm _))).trans ap)))|refine Z3 ?_|exact Zt|apply J.out;clear J ya
     have HN:Agt (GroA D M M3 d d3/\Room M3 d3 b/\(¬b<d3->(∀r∈R.take k,NewR D M M3 seen r r.body.length)/\NewR D M M3 seen r (j+1))):=by
      refine⟨hG.out.1.trans bq.out,cg,ab.out M3 d3 bq.out (fun a5 _ ν a1 a2=>bb.out a5 ν (fun l i hl av=>?_) (fun l hl av=>by
       have:=a1 l hl;unfold J5 at this;rw[av]at this
       simpa using this)) a7⟩
      have ao:=Adp hl;obtain⟨p',a4,-⟩:=(hF.rw r ad).rok.bp l ao;obtain⟨nw,e1,-,-⟩:=hG.out.1.ext p';unfold Vz;by_cases e:(i:Int)=(j:Int)
      ·rw[if_pos e];have:i=j:=Agm;subst this;rw[HW.out]at hl;obtain rfl:=Afm hl;rw[a4]at a2⊢;rw[e1,List.drop_append];exact Aet.2 (.inl a2)
      ·rw[if_neg e];have:=a1 l ao;unfold J5 MD at this;rw[av,a4]at this;simp only[Aei,if_false,Af3]at this;rw[a4,e1];exact Aet.2 (.inl this)
     refine⟨r.body.length-(j+1),Agm,j+1,M3,d3,?_⟩;have bv:∀S:St,S.obj z'.nobj=z2.obj z'.nobj->S.obj z'.nobj=[sc (.bool o),ic r.head.p,sl ih r.head.ts.length (Af r.head.ts),sl ib r.body.length bc]:=fun S e=>by rw[e,br]
     have bu:=bv _ (by rw[bw,Ak Agm,Ah Agm,ax _ Agm,Ak Agm,Ah Agm])
     ((repeat' refine Zi ?_ ?_)<;>first|exact Xq|exact HN|exact cj|exact a9|exact bu|exact Xs)
    ·have b6:decide ((fn:Int)<(y.2.length:Int))=false:=by simp;omega
     have HN:Agt (GroA D M M2 d d2/\Room M2 d2 b/\(¬b<d2->(∀r∈R.take k,NewR D M M2 seen r r.body.length)/\NewR D M M2 seen r (j+1))):=by
      refine⟨hG.out.1,hG.out.2.1,ab.out M2 d2 (GroA.refl _ _ _) (fun _ _ ν _ a2=>?_) Agm⟩;exfalso;obtain⟨nw,e1,-,-⟩:=hG.out.1.ext p;rw[ce.out]at e1;have b3:(A6 M (p:Int)).length<=y.2.length:=by rw[e1];simp
      rw[hp,List.drop_eq_nil_of_le Agm]at a2;cases a2
     clear a6 ab
     repeat' first|refine Z1 ?_|refine Z8 fun ya J=>?_|refine Z4 ?_;clear J ya|refine Z2 ?_ ?_<;>intro h ac<;>try exact Xp|refine Z3 ?_|exact Zt|apply J.out;clear J ya
     refine⟨r.body.length-(j+1),Agm,j+1,M2,d2,?_⟩
     ((repeat' refine Zi ?_ ?_)<;>first|exact Xq|exact HN|exact (af.keep (((Keep.refl _).new _).put (Adc _) _))|exact (au.trans (KM.ofKeep (((Keep.refl _).new _).put (Adc _) _)))|exact Xs)
  ·have b5:j=r.body.length:=Agm;subst b5;have HN:Agt (GroA D M M2 d d2/\Room M2 d2 b/\(¬b<d2->∀r∈R.take (k+1),NewR D M M2 seen r r.body.length)):=by
    obtain⟨g1,g2,g3⟩:=hG.out;refine⟨g1,g2,fun h r' az=>?_⟩;rw[ct.out]at az;rcases Aet.1 az with h'|h'
    ·exact (g3 h).1 r' h'
    ·simp at h';subst h';exact (g3 h).2
   repeat' first|refine Z1 ?_|refine Z8 fun ya J=>?_|refine Z4 ?_;clear J ya|refine Z2 ?_ ?_<;>intro h ac<;>try exact Xp|refine Z3 ?_|exact Zt|apply J.out;clear J ya
   refine⟨R.length-(k+1),Agm,k+1,M2,d2,?_⟩
   ((repeat' refine Zi ?_ ?_)<;>first|exact Xq|exact HN|exact Xs)
 ·have b4:k=R.length:=Agm;subst b4;obtain⟨g1,g2,g3⟩:=hG.out;rw[Adu]at g3
  repeat' first|refine Z1 ?_|refine Z8 fun ya J=>?_|refine Z4 ?_;clear J ya|refine Z2 ?_ ?_<;>intro h ac<;>try exact Xp|refine Z3 ?_|exact Zt|apply J.out;clear J ya
  first|exact⟨_,rfl,M1,d1,aw,an,g1,g2,am,ak,g3⟩|exact⟨M1,d1,aw,an,g1,g2,am,ak,g3⟩
end Go.Proofs.YtmoeoppbmhfbpaaGreatDoorD
