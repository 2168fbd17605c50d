import Derived.Test.YtmoeoppbmhfbpabGreatDoorGEngX
set_option maxHeartbeats 32000000
set_option maxRecDepth 100000
set_option linter.all false
namespace Go.Proofs.YtmoeoppbmhfbpabGreatDoorG
open Go.Abs
structure Gro (k:Nat)(S:Ca->Prop)(M M':MM)(d d':Int):Prop where
 len:M'.length=M.length
 oth:∀j,j≠k->(M'[j]?).map (·.2)=(M[j]?).map (·.2)
 ext:∃new:List Ca,A5 M' k=A5 M k++new/\new.Nodup/\(∀t∈new,S t/\t∉A5 M k)/\d'=d+new.length
theorem Gro.refl (k:Nat)(S:Ca->Prop)(M:MM)(d:Int):Gro k S M M d d:=⟨rfl,fun _ _=>rfl,[],by simp,Afr,by simp,by simp⟩
theorem Gro.trans {k:Nat}{S:Ca->Prop}{M M1 M2:MM}{d d1 d2:Int}(h:Gro k S M M1 d d1)(g:Gro k S M1 M2 d1 d2):Gro k S M M2 d d2:=by
 obtain⟨n1,a1,a2,a3,a4⟩:=h.ext;obtain⟨n2,b1,b2,b3,b4⟩:=g.ext;refine⟨g.len.trans h.len,fun j hj=>(g.oth j hj).trans (h.oth j hj),n1++n2,by rw[b1,a1,Aeg],?_,?_,?_⟩
 ·rw[Afp];exact⟨a2,b2,fun x hx y hy e=>(b3 y hy).2 (by rw[a1,<-e];exact Aew.2 (.inr hx))⟩
 ·intro t ht;rcases Aew.1 ht with ht|ht
  ·exact a3 t ht
  ·exact⟨(b3 t ht).1,fun hm=>(b3 t ht).2 (by rw[a1];exact Aew.2 (.inl hm))⟩
 ·rw[b4,a4];simp;omega
theorem Gro.mono {k:Nat}{S S':Ca->Prop}{M M':MM}{d d':Int}(h:Gro k S M M' d d')(hs:∀t,S t->S' t):Gro k S' M M' d d':=by
 obtain⟨n,a1,a2,a3,a4⟩:=h.ext;exact⟨h.len,h.oth,n,a1,a2,fun t ht=>⟨hs t (a3 t ht).1,(a3 t ht).2⟩,a4⟩
theorem Gro.sub {k:Nat}{S:Ca->Prop}{M M':MM}{d d':Int}(h:Gro k S M M' d d'){t:Ca}(ht:t∈A5 M k):t∈A5 M' k:=by
 obtain⟨n,a1,-,-,-⟩:=h.ext;rw[a1];exact Aew.2 (.inl ht)
theorem Gro.le {k:Nat}{S:Ca->Prop}{M M':MM}{d d':Int}(h:Gro k S M M' d d'):d<=d':=by
 obtain⟨n,-,-,-,a4⟩:=h.ext;omega
def Room (M:MM)(d b:Int):Prop:=∀x∈M,(x.2.length:Int)+(b-d)<=4000
theorem Gro.room {k:Nat}{S:Ca->Prop}{M M':MM}{d d' b:Int}(h:Gro k S M M' d d')(hr:Room M d b):Room M' d' b:=by
 intro x hx;obtain⟨j,hj⟩:=List.getElem?_of_mem hx;obtain⟨n,a1,-,-,a4⟩:=h.ext;have aa:j<M.length:=by rw[<-h.len];exact (List.getElem?_eq_some_iff.1 hj).1
 have hy:=List.getElem?_eq_getElem aa;have hb:=hr _ (Afa aa);by_cases e:j=k
 ·subst e;unfold A5 at a1;simp only[Afz,hj,hy,Afk,Option.getD_some]at a1;rw[a1];simp only[Aee];omega
 ·have:=h.oth j e;rw[hj,hy]at this;simp at this;rw[this];have:=h.le;omega
theorem B7 {M:MM}{k:Nat}{x:Nat×List Ca}(h:M[k]?=some x):A5 M (k:Int)=x.2:=by simp[A5,h]
theorem yZ {M:MM}{k id:Nat}{x:Nat×List Ca}{t:Ca}{S:Ca->Prop}{d:Int}(hx:M[k]?=some x)(ht:t∉x.2)(hS:S t):Gro k S M (M.set k (id,x.2++[t])) d (d+1):=by
 have hk:=(List.getElem?_eq_some_iff.1 hx).1;refine⟨by simp,fun j hj=>by rw[List.getElem?_set_ne (fun e=>hj e.symm)],[t],?_,by simp,?_,by simp⟩
 ·rw[B7 hx,B7 (x:=(id,x.2++[t])) (by simp[hk])]
 ·intro u hu;simp at hu;subst hu;rw[B7 hx];exact⟨hS,ht⟩
theorem MOb.setd {z:St}{om ot:Nat}{M:MM}{d d' b:Int}(h:MOb z om ot M d b):MOb (z.put om [fx ot 0 M.length,ic d',ic b]) om ot M d' b where
 ob:=Aj
 oc:=by rw[show (z.put om [fx ot 0 M.length,ic d',ic b]).obj ot=z.obj ot from by simp[St.put];intro e;exact absurd e.symm h.ne];exact h.oc
 lo:=h.lo
 lt:=h.lt
 ne:=h.ne
 live:=h.live
 inj:=h.inj
 t3:=h.t3
 ln:=h.ln
 pl:=h.pl
theorem KM.setd {om ot:Nat}{M M':MM}{z z':St}(h:KM om ot M M' z z')(c:List AV):KM om ot M M' z (z'.put om c):=
 ⟨h.nobj,fun o ho h1 h2=>by rw[show (z'.put om c).obj o=z'.obj o from by simp[St.put,h1]];exact h.obj o ho h1 h2,fun o ho h1 h2=>by rw[show (z'.put om c).ver o=z'.ver o from by simp[St.put,h1]];exact h.ver o ho h1 h2,h.ntop,h.top,h.mid⟩
def Ve (neg:Int->Ca->Prop)(q:Qry)(t:Ca):Prop:=∃ν,Kq neg q ν/\t=Bo q.head ν
def wQ (neg:Int->Ca->Prop)(om ot:Nat)(b:Int)(V:List Int):Prop:=∀(q:Qry) (c:List AV) (k:Nat) (M:MM) (d:Int),EQ q c->Qc q->NegOk neg M q->(∀a∈q.nots,a.p≠(k:Int))->QV q->q.head.p=(k:Int)->k<M.length->Room M d b-> -1000000<=d->d<=1000000-> -1000000<=b->b<=900000->(∀v,inQ q v->v∈V)->
 ∀z,MOb z om ot M d b->ACalls Tryz.prog 139 [ptr om 0,ag c] z fun r z'=>∃M' d',MOb z' om ot M' d' b/\KM om ot M M' z z'/\Gro k (Ve neg q) M M' d d'/\d'<=1000000/\(¬b<d'->∀t,Ve neg q t->t∈A5 M' k)
theorem NegOk.gro {neg:Int->Ca->Prop}{M M':MM}{q:Qry}{k:Nat}{S:Ca->Prop}{d d':Int}(h:NegOk neg M q)(aa:∀a∈q.nots,a.p≠(k:Int))(g:Gro k S M M' d d'):NegOk neg M' q:=fun a ha=>by
 obtain⟨j,x,h1,h2,h3⟩:=h a ha;have hj:j≠k:=fun e=>aa a ha (by rw[h1,e]);have:=g.oth j hj;rw[h2]at this;cases hy:M'[j]? with
 |none=>rw[hy]at this;simp at this
 |some y=>
  rw[hy]at this;simp at this;exact⟨j,y,h1,hy,fun t=>by rw[this];exact h3 t⟩
theorem O5 (neg:Int->Ca->Prop)(om ot:Nat)(b:Int)(V:List Int)(IH:∀V':List Int,V'.length<V.length->wQ neg om ot b V'):wQ neg om ot b V:=by
 intro q c k M d hc hA de e6 hV hk da a8 fr cn ev eu cj z hM;have a9:=fun z (h:MOb z om ot M d b)=>Nq om ot M d b z h;have ck:=hA.ok.hd;have en:q.head.ts.length<=1000:=Agm;have bg:=fun (id:Nat) z=>Mw q.head.p id q.head.ts en z;have bo:M[k]?=some M[k]:=List.getElem?_eq_getElem da;generalize M[k]=x at bo;have cb:=fun (id:Nat) z (h:MOb z om ot M d b)=>H6 om ot M d b q.head id k x ck hk bo z h;have bh:=fun z (h:MOb z om ot M d b)=>Yd neg q c om ot M d b hc hA de z h;have hT:A5 M (k:Int)=x.2:=B7 bo;obtain⟨ih,ip,inn,pc,nc,rfl,-,-⟩:=hc;have cq:∀cs,MOb (z.new cs) om ot M d b:=fun cs=>hM.keep ((Keep.refl z).new cs);by_cases ci:b<d
 ·rw[show decide (b<d)=true from by simpa using ci]at a9;rw[hk];clear cb bg bh;refine Z9 86 [] Tryz.func139 ?_
  repeat' (first|refine Z1 ?_|(refine Z8 ?_;intro κ hκ)|(refine Z4 ?_;clear hκ κ)|(refine Z2 ?_ ?_<;>intro h aa<;>try exact Xp)|(refine Z5 ?_;refine Xi (a9 _ (hM.keep (Xs))) ?_;rintro _ _ ⟨rfl,rfl⟩)|refine Z3 ?_|exact⟨⟩|(apply hκ.out;clear hκ κ))
  first|exact⟨_,rfl,M,d,cq _,KM.ofKeep ((Keep.refl z).new _),Gro.refl _ _ _ _,cn,fun h=>absurd ci h⟩|exact⟨M,d,cq _,KM.ofKeep ((Keep.refl z).new _),Gro.refl _ _ _ _,cn,fun h=>absurd ci h⟩
 ·have bw:decide (b<d)=false:=by simpa using ci
  rw[bw]at a9;have ac:=bg ih;have aj:=cb ih;rw[hk]at ac aj bh;rw[hk];have bu:∀z',Keep z z'->(∀t,Ve neg q t->t∈x.2)->∃M' d',MOb z' om ot M' d' b/\KM om ot M M' z z'/\Gro k (Ve neg q) M M' d d'/\d'<=1000000/\(¬b<d'->∀t,Ve neg q t->t∈A5 M' k):=fun z' d8 ax=>
   ⟨M,d,hM.keep d8,KM.ofKeep d8,Gro.refl _ _ _ _,cn,fun _ t ht=>by rw[hT];exact ax t ht⟩
  have ae:Agt _:=bu;clear bu bw;cases hs:Ih q.head.ts with
  |true=>
   rw[hs]at ac;have au:=fun ν=>Og hs ν;by_cases hm:Cl q.head∈x.2
   ·rw[show decide (Cl q.head∈x.2)=true from by simpa using hm]at aj;have ax:∀t,Ve neg q t->t∈x.2:=fun t ⟨ν,_,e⟩=>by rw[e,au];exact hm
    have cg:Agt _:=ax;clear ax au cb bg bh;refine Z9 86 [] Tryz.func139 ?_
    repeat' (first|refine Z1 ?_|(refine Z8 ?_;intro κ hκ)|(refine Z4 ?_;clear hκ κ)|(refine Z2 ?_ ?_<;>intro h aa<;>try exact Xp)|(refine Z5 ?_;first|(refine Xi (a9 _ (hM.keep (Xs))) ?_;rintro _ _ ⟨rfl,rfl⟩)|(refine Xi (ac _) ?_;rintro _ _ ⟨rfl,an⟩;(have ak:=an.nobj;have ab:=an.obj;have bp:=((Keep.refl z).new _).trans an;simp only[Aa]at ak ab))|(refine Xi (aj _ (hM.keep (Xs))) ?_;rintro _ _ ⟨rfl,b9⟩;(have b5:=bp.trans b9)))|refine Z3 ?_|exact⟨⟩|(apply hκ.out;clear hκ κ))
    first|exact⟨_,rfl,ae.out _ b5 cg.out⟩|exact ae.out _ b5 cg.out
   ·rw[show decide (Cl q.head∈x.2)=false from by simpa using hm]at aj;have fk:Agt (Cl q.head∉x.2):=hm;clear hm;have cu:∀(id:Nat) z,ACalls Tryz.prog 131 [ag [ic (k:Int),sl id q.head.ts.length (Ac q.head.ts)]] z fun r z'=>r=sc (.bool true)/\Keep z z':=fun id z=>by
     have:=bg id z;rw[hk,hs]at this;exact this
    have d7:=fun (id:Nat) z (h:MOb z om ot M d b)=>Ui om ot M d b q.head id k x ck hk bo (by
     have:=a8 x (Adt bo)
     omega) z h
    rw[hk]at d7;have ca:=Qv neg om ot M d b V.length V (Adn _);clear bg cb cq;refine Z9 86 [] Tryz.func139 ?_
    repeat' (first|refine Z1 ?_|(refine Z8 ?_;intro κ hκ)|(refine Z4 ?_;clear hκ κ)|(refine Z2 ?_ ?_<;>intro h aa<;>try exact Xp)|(refine Z5 ?_;first|(refine Xi (a9 _ (hM.keep (Xs))) ?_;rintro _ _ ⟨rfl,rfl⟩)|(refine Xi (ac _) ?_;rintro _ _ ⟨rfl,an⟩;(have ak:=an.nobj;have ab:=an.obj;have bp:=((Keep.refl z).new _).trans an;simp only[Aa]at ak ab))|(refine Xi (aj _ (hM.keep (Xs))) ?_;rintro _ _ ⟨rfl,b9⟩;(have ef:=b9.nobj;have br:=b9.obj;have b5:=bp.trans b9;clear ac))|(refine Xi (bh _ (hM.keep (Xs))) ?_;rintro _ _ ⟨⟨c',(⟨rfl,ek,eo,hno⟩|⟨q',rfl,⟨ih2,ip2,in2,pc2,nc2,rfl,co,cp⟩,a5,df,ah,av⟩)⟩,ai⟩))|refine Z3 ?_|exact⟨⟩|(apply hκ.out;clear hκ κ))
    ·have be:=ai.nobj;have o4:=ai.obj z.nobj Agm;rw[br _ Agm,ab _ Agm,Ap]at o4;have az:=b5.trans ai;have ce:Agt (∀ν,¬Kq neg q ν):=hno;clear hno
     repeat' (first|refine Z1 ?_|(refine Z8 ?_;intro κ hκ)|(refine Z4 ?_;clear hκ κ)|(refine Z2 ?_ ?_<;>intro h aa<;>try exact Xp)|refine Z3 ?_|exact⟨⟩|(apply hκ.out;clear hκ κ))
     first|exact⟨_,rfl,ae.out _ (az.put Agm _) (fun t ⟨ν,h,_⟩=>absurd h (ce.out ν))⟩|exact ae.out _ (az.put Agm _) (fun t ⟨ν,h,_⟩=>absurd h (ce.out ν))
    ·have be:=ai.nobj;have o4:=ai.obj z.nobj Agm;rw[br _ Agm,ab _ Agm,Ap]at o4;have az:=b5.trans ai;have he:q'.head=q.head:=ah.hd;have ay:NegOk neg M q':=de.sub fun a ha=>⟨a,(av a ha).1,rfl⟩;have am:fX ⟨⟨0,[]⟩,q'.parts,q'.nots⟩:=fun v hv=>a5.wf v (.inr (hv.resolve_left (by simp[Bc])))
     have cv:=fun z (h:MOb z om ot M d b)=>ca ⟨⟨0,[]⟩,q'.parts,q'.nots⟩ [ic 0,nilS,sl ip2 q'.parts.length pc2,sl in2 q'.nots.length nc2] ⟨1,ip2,in2,pc2,nc2,rfl,co,cp⟩ (K1 a5 (by simp) (Af7 _) (Af7 _) am) (ay.sub fun a ha=>⟨a,ha,rfl⟩)
      (fun a ha v hv=>by
       have:a∈atomsQ q'\/a=⟨0,[]⟩:=by
        unfold atomsQ at ha⊢;simp only[Aeq,Aew,Aey]at ha⊢;rcases ha with h|h|h
        ·exact .inr h
        ·exact .inl (.inr (.inl h))
        ·exact .inl (.inr (.inr h))
       rcases this with h|rfl
       ·exact hV a (ah.at_ a h) v hv
       ·cases hv) rfl (fun v hv=>by
       obtain⟨p,hp,bv⟩:=Uc (q:=⟨⟨0,[]⟩,q'.parts,q'.nots⟩) am hv
       exact cj v (inQ.sub ah.at_ ⟨p.a,Jz hp,bv⟩)) z h
     have e3:∀ν,Kq neg (⟨⟨0,[]⟩,q'.parts,q'.nots⟩:Qry) ν↔Kq neg q' ν:=fun ν=>Iff.rfl;have HE:Agt (q'.head=q.head):=he;simp only[he,hk];clear he ca bh aj a9
     repeat' (first|refine Z1 ?_|(refine Z8 ?_;intro κ hκ)|(refine Z4 ?_;clear hκ κ)|(refine Z2 ?_ ?_<;>intro h aa<;>try exact Xp)|(refine Z5 ?_;first|(refine Xi (cv _ (hM.keep (Xs))) ?_;rintro _ _ ⟨⟨bb,rfl,b1⟩,bn⟩;(have cf:Agt _:=b1;clear b1;have bd:=bn.nobj;have ba:=bn.obj;simp only[Ab]at bd ba;have b6:=(az.put Agm _).trans bn))|(refine Xi (cu _ _) ?_;rintro _ _ ⟨rfl,bm⟩;(have cz:=bm.nobj;have cx:=bm.obj;have dk:=b6.trans bm))|(refine Xi (d7 _ _ (hM.keep (Xs))) ?_;rintro _ _ ⟨id',di,b8⟩;(generalize b4:M.set k (id',x.2++[Cl q.head])=M7 at di b8;have ec:Agt _:=b4;clear b4;have fm:=di.ob;have dm:=KM.trans (KM.ofKeep dk) b8)))|refine Z3 ?_|exact⟨⟩|(apply hκ.out;clear hκ κ))
     ·exact⟨_,rfl,ae.out _ b6 (fun t ⟨ν,hν,_⟩=>absurd (cf.out.2 ⟨ν,ah.to ν hν⟩) (by rw[h];simp))⟩
     ·have db:bb=true:=by assumption
      obtain⟨ν,hν⟩:=cf.out.1 db;obtain⟨ν',hν',-⟩:=ah.back ν hν;have fc:Ve neg q (Cl q.head):=⟨ν',hν',(au ν').symm⟩;have fe:Gro k (Ve neg q) M M7 d (d+1):=by rw[<-ec.out];exact yZ bo fk.out fc
      have e0:Cl q.head∈A5 M7 k:=by
       rw[<-ec.out,B7 (x:=(id',x.2++[Cl q.head])) (by simp[da])];simp
      exact⟨_,rfl,M7,d+1,di.setd,dm.setd _,fe,Agm,fun _ t ⟨μ,_,e⟩=>by rw[e,au];exact e0⟩
  |false=>
   rw[hs]at ac;have cu:∀(id:Nat) z,ACalls Tryz.prog 131 [ag [ic (k:Int),sl id q.head.ts.length (Ac q.head.ts)]] z fun r z'=>r=sc (.bool false)/\Keep z z':=fun id z=>by
    have:=bg id z;rw[hk,hs]at this;exact this
   have ca:=Qv neg om ot M d b V.length V (Adn _);obtain⟨v0,vt,ch⟩:∃v0 vt,Cb [q.head]=v0::vt:=by
    cases hv:Cb [q.head]with
    |nil=>
     exfalso;have:Ih q.head.ts=true:=by
      unfold Ih;rw[Ads];rintro⟨t1,t2⟩ ht;cases t1 with
      |false=>rfl
      |true=>
       have:t2∈Cb [q.head]:=(Cy _ _).2 ⟨q.head,by simp,ht⟩;rw[hv]at this;cases this
     rw[this]at hs;cases hs
    |cons v0 vt=>exact⟨v0,vt,rfl⟩
   have af:=fun (idh i:Nat) (z:St)=>Gj [q.head] [ic q.head.p,sl idh q.head.ts.length (Ac q.head.ts)] i (EL.single ⟨idh,rfl⟩) (by simp;exact ck) (by simp) z;have dw:=Es (l:=[q.head]) (by simp;exact ck);have dv:∀v,Bc q.head.ts v=true->v∈v0::vt:=fun v hv=>by rw[<-ch];exact (Cy _ _).2 ⟨q.head,by simp,hasV_iff.1 hv⟩
   have dy:Bc q.head.ts v0=true:=by
    have:v0∈Cb [q.head]:=by rw[ch];simp
    obtain⟨a,ha,h⟩:=(Cy _ _).1 this;simp at ha;subst ha;exact hasV_iff.2 h
   rw[ch]at af dw;simp only[Aen,Aem,As,Ad9,Aed,hk]at af;simp only[Aen,Aem,Aed]at dw;have c7:(v0::vt).length<=200:=by simp;omega
   clear bg cb cq ch;refine Z9 86 [] Tryz.func139 ?_
   repeat' (first|refine Z1 ?_|(refine Z8 ?_;intro κ hκ)|(refine Z4 ?_;clear hκ κ)|(refine Z2 ?_ ?_<;>intro h aa<;>try exact Xp)|(refine Z5 ?_;first|(refine Xi (a9 _ (hM.keep (Xs))) ?_;rintro _ _ ⟨rfl,rfl⟩)|(refine Xi (ac _) ?_;rintro _ _ ⟨rfl,an⟩;(have ak:=an.nobj;have ab:=an.obj;have bp:=((Keep.refl z).new _).trans an;simp only[Aa]at ak ab;clear ac))|(refine Xi (bh _ (hM.keep (Xs))) ?_;rintro _ _ ⟨⟨c',(⟨rfl,ek,eo,hno⟩|⟨q',rfl,⟨ih2,ip2,in2,pc2,nc2,rfl,co,cp⟩,a5,df,ah,av⟩)⟩,ai⟩))|refine Z3 ?_|exact⟨⟩|(apply hκ.out;clear hκ κ))
   ·have be:=ai.nobj;have o4:=ai.obj z.nobj Agm;rw[ab _ Agm,Ap]at o4;have az:=bp.trans ai;have ce:Agt (∀ν,¬Kq neg q ν):=hno;clear hno
    repeat' (first|refine Z1 ?_|(refine Z8 ?_;intro κ hκ)|(refine Z4 ?_;clear hκ κ)|(refine Z2 ?_ ?_<;>intro h aa<;>try exact Xp)|refine Z3 ?_|exact⟨⟩|(apply hκ.out;clear hκ κ))
    first|exact⟨_,rfl,ae.out _ (az.put Agm _) (fun t ⟨ν,h,_⟩=>absurd h (ce.out ν))⟩|exact ae.out _ (az.put Agm _) (fun t ⟨ν,h,_⟩=>absurd h (ce.out ν))
   ·have be:=ai.nobj;have o4:=ai.obj z.nobj Agm;rw[ab _ Agm,Ap]at o4;have az:=bp.trans ai;have he:q'.head=q.head:=ah.hd;have ay:NegOk neg M q':=de.sub fun a ha=>⟨a,(av a ha).1,rfl⟩;have am:fX ⟨⟨0,[]⟩,q'.parts,q'.nots⟩:=fun v hv=>a5.wf v (.inr (hv.resolve_left (by simp[Bc])))
    have cv:=fun z (h:MOb z om ot M d b)=>ca ⟨⟨0,[]⟩,q'.parts,q'.nots⟩ [ic 0,nilS,sl ip2 q'.parts.length pc2,sl in2 q'.nots.length nc2] ⟨1,ip2,in2,pc2,nc2,rfl,co,cp⟩ (K1 a5 (by simp) (Af7 _) (Af7 _) am) (ay.sub fun a ha=>⟨a,ha,rfl⟩)
     (fun a ha v hv=>by
      have:a∈atomsQ q'\/a=⟨0,[]⟩:=by
       unfold atomsQ at ha⊢;simp only[Aeq,Aew,Aey]at ha⊢;rcases ha with h|h|h
       ·exact .inr h
       ·exact .inl (.inr (.inl h))
       ·exact .inl (.inr (.inr h))
      rcases this with h|rfl
      ·exact hV a (ah.at_ a h) v hv
      ·cases hv) rfl (fun v hv=>by
      obtain⟨p,hp,bv⟩:=Uc (q:=⟨⟨0,[]⟩,q'.parts,q'.nots⟩) am hv
      exact cj v (inQ.sub ah.at_ ⟨p.a,Jz hp,bv⟩)) z h
    have cc:EQ q' [ic (k:Int),sl ih2 q.head.ts.length (Ac q.head.ts),sl ip2 q'.parts.length pc2,sl in2 q'.nots.length nc2]:=⟨ih2,ip2,in2,pc2,nc2,by rw[he,hk],co,cp⟩;have dc:=fun (id:Nat) z=>Qs q' _ (v0::vt) id cc a5.ok c7 z;simp only[Aen,As,Ad9]at dc;have HE:Agt (q'.head=q.head):=he;simp only[he,hk];clear he ca bh a9 cc;have dx:=af ih2;clear af
    repeat' (first|refine Z1 ?_|(refine Z8 ?_;intro κ hκ)|(refine Z4 ?_;clear hκ κ)|(refine Z2 ?_ ?_<;>intro h aa<;>try exact Xp)|(refine Z5 ?_;first|(refine Xi (cv _ (hM.keep (Xs))) ?_;rintro _ _ ⟨⟨bb,rfl,b1⟩,bn⟩;(have cf:Agt _:=b1;clear b1;have bd:=bn.nobj;have ba:=bn.obj;simp only[Ab]at bd ba;have b6:=(az.put Agm _).trans bn))|(refine Xi (cu _ _) ?_;rintro _ _ ⟨rfl,bm⟩;(have cz:=bm.nobj;have cx:=bm.obj;have dk:=b6.trans bm))|(refine Xi (dx _ _) ?_;rintro _ _ ⟨⟨idv,rfl⟩,dp⟩;(have cy:=dp.nobj;have cw:=dp.obj;simp only[Ah,Av]at cy cw;have e9:=(dk.lay 1).trans dp))|(refine Xi (dc _ _) ?_;rintro _ _ ⟨⟨_,_,rs,rfl,⟨ih3,ip3,in3,pc3,nc3,rfl,e5,e7⟩,⟨ih4,ip4,in4,pc4,nc4,rfl,fs,ft⟩,hG,hC⟩,d9⟩;(have ee:=d9.nobj;have HC:Agt _:=hC;have HG:Agt _:=hG;clear hC hG;have fa:=e9.trans d9)))|refine Z3 ?_|exact⟨⟩|(apply hκ.out;clear hκ κ))
    ·exact⟨_,rfl,ae.out _ b6 (fun t ⟨ν,hν,_⟩=>absurd (cf.out.2 ⟨ν,ah.to ν hν⟩) (by rw[h];simp))⟩
    ·rename_i z8;have db:bb=true:=by assumption
     have dq:EQ (A9 q' rs) [ic (A9 q' rs).head.p,sl ih3 (A9 q' rs).head.ts.length (Ac (A9 q' rs).head.ts),sl ip3 (A9 q' rs).parts.length pc3,sl in3 (A9 q' rs).nots.length nc3]:=⟨ih3,ip3,in3,pc3,nc3,rfl,e5,e7⟩;have hrs:∀v∈v0::vt,v∈rs:=fun v hv=>by
      obtain⟨ad,e,-,-⟩:=HG.out;rw[e];exact Aew.2 (.inl hv)
     have ap:Qc (A9 q' rs):=K1 a5 a5.ok.hd Af8 Af8 (aJ a5.wf HC.out (fun v hv=>hrs v (dv v (by rw[<-HE.out];exact hv))));have d1:QV (A9 q' rs):=fun a ha w hw=>by
      obtain⟨a',ez,eg⟩:=Ox (rs:=rs) ⟨a,ha,hasV_iff.2 hw⟩;exact hV a' (ah.at_ a' ez) w (hasV_iff.1 eg)
     have dz:(A9 q' rs).head.p=(k:Int):=by show q'.head.p=_;rw[HE.out,hk]
     have b0:∀w,inQ (A9 q' rs) w->w∈V:=fun w hw=>cj w (inQ.sub ah.at_ (Ox hw));have bf:v0∈V:=cj v0 ⟨q.head,by simp[atomsQ],dy⟩;have d3:(V.erase v0).length<V.length:=by
      rw[List.length_erase_of_mem bf];have:=List.length_pos_of_mem bf;omega
     have IHb:=IH (V.erase v0) d3;obtain⟨μ,hμ⟩:=cf.out.1 db
     --what the near part brings,the query brings
     have b2:∀n t,Ve neg (Cw v0 n (A9 q' rs)) t->Ve neg q t:=fun n t ⟨ν,hν,e⟩=>by
      have h1:=(Rf ap.w).1 hν;have h2:=W0 HC.out h1 (lS (rs:=rs) hμ);obtain⟨ν',hν',ey⟩:=ah.back _ h2;refine⟨ν',hν',?_⟩;rw[e];show Bo (Fg v0 n (A9 q' rs).head) ν=_;rw[Ju];show Bo q'.head _=_;rw[HE.out];apply Eu;intro v hv;rw[ey v ⟨q'.head,by simp[atomsQ],by rw[HE.out];exact hv⟩];rw[if_pos (hrs v (dv v hv))]
     have cd:∀t,Ve neg q t->∃n∈Kl (A9 q' rs) v0,Ve neg (Cw v0 n (A9 q' rs)) t:=fun t ⟨ν,hν,e⟩=>by
      have h2:=cJ (rs:=rs) (ah.to ν hν);obtain⟨p,hp,bv⟩:=ap.wf v0 (.inl (by show Bc q'.head.ts v0=true;rw[HE.out];exact dy));have a6:Mg ν v0 (ν v0)=ν:=by
       funext w;unfold Mg;split
       ·rename_i e;rw[e]
       ·rfl
      refine⟨ν v0,kP ap.w h2 ⟨p,hp,bv⟩,ν,(Rf ap.w).2 (by rw[a6];exact h2),?_⟩;rw[e];show _=Bo (Fg v0 (ν v0) (A9 q' rs).head) ν;rw[Ju,a6];show _=Bo q'.head ν;rw[HE.out]
     have dr:Agt _:=b2;have du:Agt _:=cd;have d0:=fun z=>J6 (A9 q' rs) _ v0 dq ap.ok ap.n z;have eh:=Sa ap.n v0;have e4:=fun n z=>Ug (A9 q' rs) _ v0 n dq ap.ok z;generalize bz:Kl (A9 q' rs) v0=ns at d0 eh;have fj:Agt _:=bz;have fp:=Bp ns;have b3:∀{n:Int},∀a∈(Cw v0 n (A9 q' rs)).nots,a.p≠(k:Int):=fun {n} a ha=>by
      obtain⟨a0,h0,rfl⟩:=Aey.1 ha;exact e6 a0 (av a0 (Afx.1 h0).1).1
     have fb:Agt (∀(n:Int) (c5:List AV) (Mj:MM) (dj:Int),EQ (Cw v0 n (A9 q' rs)) c5->Gro k (Ve neg q) M Mj d dj->dj<=1000000->∀z,MOb z om ot Mj dj b->ACalls Tryz.prog 139 [ptr om 0,ag c5] z fun r z'=>∃M' d',MOb z' om ot M' d' b/\KM om ot Mj M' z z'/\Gro k (Ve neg (Cw v0 n (A9 q' rs))) Mj M' dj d'/\d'<=1000000/\(¬b<d'->∀t,Ve neg (Cw v0 n (A9 q' rs)) t->t∈A5 M' k)):=fun n c5 Mj dj bq ao cm z cr=>
      IHb (Cw v0 n (A9 q' rs)) c5 k Mj dj bq (cW ap) (((ay.near rs).put v0 n).gro b3 ao) b3 (fun a ha w hw=>by
       obtain⟨⟨b',ew,et⟩,-⟩:=Rt (q:=A9 q' rs) (v:=v0) (n:=n) (w:=w) ⟨a,ha,hasV_iff.2 hw⟩;exact d1 b' ew w (hasV_iff.1 et)) dz (by rw[ao.len];exact da) (ao.room a8) (by have:=ao.le;omega) cm ev eu (fun w hw=>by
       obtain⟨h1,h2⟩:=Rt hw
       exact (List.mem_erase_of_ne h2).2 (b0 w h1)) z cr
     clear bz b2 cd IHb IH d3 bf b0 cv cu dx dc ap d1 dq dz;have d6:Keep z ((((z8.new [ic 0,nilS,nilS,nilS]).new [ic 0,nilS,nilS,nilS]).put z8.nobj [ic (A9 q' rs).head.p,sl ih3 (A9 q' rs).head.ts.length (Ac (A9 q' rs).head.ts),sl ip3 (A9 q' rs).parts.length pc3,sl in3 (A9 q' rs).nots.length nc3]).put (z8.nobj+1) [ic (Ha q' rs).head.p,sl ih4 (Ha q' rs).head.ts.length (Ac (Ha q' rs).head.ts),sl ip4 (Ha q' rs).parts.length pc4,sl in4 (Ha q' rs).nots.length nc4]):=(((fa.new _).new _).put Agm _).put Agm _;generalize c6:((((z8.new [ic 0,nilS,nilS,nilS]).new [ic 0,nilS,nilS,nilS]).put z8.nobj [ic (A9 q' rs).head.p,sl ih3 (A9 q' rs).head.ts.length (Ac (A9 q' rs).head.ts),sl ip3 (A9 q' rs).parts.length pc3,sl in3 (A9 q' rs).nots.length nc3]).put (z8.nobj+1) [ic (Ha q' rs).head.p,sl ih4 (Ha q' rs).head.ts.length (Ac (Ha q' rs).head.ts),sl ip4 (Ha q' rs).parts.length pc4,sl in4 (Ha q' rs).nots.length nc4])=z9 at*
     have n9:z9.nobj=z8.nobj+2:=by rw[<-c6];rfl
     have o9:z9.obj z8.nobj=[ic (A9 q' rs).head.p,sl ih3 (A9 q' rs).head.ts.length (Ac (A9 q' rs).head.ts),sl ip3 (A9 q' rs).parts.length pc3,sl in3 (A9 q' rs).nots.length nc3]:=by rw[<-c6,Ai Agm,Aj]
     clear c6;refine B6 (Q:=fun e s' z''=>e= .normal/\s' 0=ptr om 0/\s' 5=sl idv (vt.length+1) (ic v0::List.map ic vt)/\s' 6=ptr z8.nobj 0/\(∃idn,s' 70=sl idn ns.length (As ns))/\s' 71=ic ns.length/\s' 72=ic 0/\Keep z9 z'') ?_ ?_
     ·refine Bh Al (fun _=>True) [] [0,1,2,3,6] 2 #[true,true,true,true,false,false,true] Agp (fun _ _ _ h=>by cases h.1) ?_;intro κ hκ;refine Z3 ?_;refine hκ.out _ ?_;clear hκ κ;refine Ao (i:=4) Agp ?_;refine Ar ?_;intro κ hκ;refine Z3 ?_;refine ACalls.mono (d0 _) ?_;rintro _ za ⟨⟨idn,rfl⟩,a4⟩;refine Z3 ?_;refine hκ.out _ _ ⟨Aq a4,?_⟩;clear hκ κ;refine I5 [5] Agp Agp (fun _ _ _ h=>by cases h.1) a4.nobj (fun o ho _=>a4.ver o ho) ?_;intro κ hκ;refine Z3 ?_;refine hκ.out _ _ ⟨rfl,?_⟩;refine⟨by simp[upd,initS],Ago,Ago,⟨idn,Ago⟩,Agn,Ago,a4⟩
     ·rintro e s z9' ⟨rfl,g0,g5,g6,⟨idn,g70⟩,g71,g72,a4⟩;have kna:=a4.nobj;have dl:=d6.trans a4;have oa:z9'.obj z8.nobj=[ic (A9 q' rs).head.p,sl ih3 (A9 q' rs).head.ts.length (Ac (A9 q' rs).head.ts),sl ip3 (A9 q' rs).parts.length pc3,sl in3 (A9 q' rs).nots.length nc3]:=by rw[a4.obj _ Agm,o9]
      have d5:MOb z9' om ot M d b:=hM.keep dl;have fh:om≠z8.nobj:=by have:=hM.lo;omega
      have fg:ot≠z8.nobj:=by have:=hM.lt;omega
      repeat' (first|refine Z1 ?_|(refine Z8 ?_;intro κ hκ)|(refine Z4 ?_;clear hκ κ)|(refine Z2 ?_ ?_<;>intro h aa<;>try exact Xp)|refine Z3 ?_|exact⟨⟩|(apply hκ.out;clear hκ κ))
      refine Ag (fun m s z'=>∃(j:Nat) (Mj:MM) (dj:Int),m=ns.length-j/\j<=ns.length/\s 0=ptr om 0/\s 5=sl idv (vt.length+1) (ic v0::List.map ic vt)/\s 6=ptr z8.nobj 0/\s 70=sl idn ns.length (As ns)/\s 71=ic ns.length/\s 72=ic j/\MOb z' om ot Mj dj b/\KM om ot M Mj z z'/\z8.nobj<z'.nobj/\z'.obj z8.nobj=[ic (A9 q' rs).head.p,sl ih3 (A9 q' rs).head.ts.length (Ac (A9 q' rs).head.ts),sl ip3 (A9 q' rs).parts.length pc3,sl in3 (A9 q' rs).nots.length nc3]/\dj<=1000000/\Agt (Gro k (Ve neg q) M Mj d dj/\(¬b<dj->∀n∈ns.take j,∀t,Ve neg (Cw v0 n (A9 q' rs)) t->t∈A5 Mj k))) ns.length
       ⟨0,M,d,Agm,Agm,g0,g5,g6,g70,g71,g72,d5,KM.ofKeep dl,Agm,oa,cn,Gro.refl _ _ _ _,fun _ n hn=>by simp at hn⟩ ?_
      clear g0 g5 g6 g70 g71 g72 d5 dl oa kna a4 o9 d6;rintro m s z' ⟨j,Mj,dj,rfl,hj,g0,g5,g6,g70,g71,g72,cr,b7,c8,ob',cm,ao⟩;by_cases ej:j<ns.length
      ·have aw:=List.getElem?_eq_getElem ej;obtain⟨r,ep⟩:=C9 aw;generalize ns[j]=n at ep aw;have fi:Agt (ns.take (j+1)=ns.take j++[n]):=by rw[Agt,Ad3,aw,Afe]
       clear aw;have d4:=e4 n;have eb:Agt (∀c5,EQ (Cw v0 n (A9 q' rs)) c5->∀z,MOb z om ot Mj dj b->ACalls Tryz.prog 139 [ptr om 0,ag c5] z fun r z'=>∃M' d',MOb z' om ot M' d' b/\KM om ot Mj M' z z'/\Gro k (Ve neg (Cw v0 n (A9 q' rs))) Mj M' dj d'/\d'<=1000000/\(¬b<d'->∀t,Ve neg (Cw v0 n (A9 q' rs)) t->t∈A5 M' k)):=fun c5 bq=>fb.out n c5 Mj dj bq ao.out.1 cm
       repeat' (first|refine Z1 ?_|(refine Z8 ?_;intro κ hκ)|(refine Z4 ?_;clear hκ κ)|(refine Z2 ?_ ?_<;>intro h aa<;>try exact Xp)|refine Z3 ?_|exact⟨⟩|(apply hκ.out;clear hκ κ))
       refine B6 (Q:=fun e s' z''=>e= .normal/\s' 0=ptr om 0/\s' 5=sl idv (vt.length+1) (ic v0::List.map ic vt)/\s' 6=ptr z8.nobj 0/\s' 70=sl idn ns.length (As ns)/\s' 71=ic ns.length/\s' 72=ic j/\∃o c5,s' 10=ptr o 0/\o<z''.nobj/\z''.obj o=c5/\EQ (Cw v0 n (A9 q' rs)) c5/\Keep z' z'') ?_ ?_
       ·refine Bh Al (fun _=>True) [7] [0,1,2,3,4] 3 #[true,true,true,true,true,false,false,false] Agp (fun _ _ _ h=>by cases h.1) ?_;intro κ hκ;refine Z3 ?_;refine hκ.out _ ?_;clear hκ κ;refine D4 (rs:=[5,6]) Agp (by simp) ?_;intro i hi;simp only[Aeq,Ae8,Agk]at hi;rcases hi with rfl|rfl
        ·refine Ar ?_;intro κ hκ;refine Z3 ?_;refine ACalls.mono (d4 _) ?_;rintro _ zb ⟨⟨_,rfl,ih5,ip5,in5,pc5,nc5,rfl,dd,dh⟩,a3⟩;have knb:=a3.nobj;refine Z3 ?_;refine hκ.out _ _ ⟨Aq a3,?_⟩;clear hκ κ;refine Ao (i:=6) Agp ?_;refine Ar ?_;intro κ hκ;refine Z3 ?_;refine hκ.out _ _ ⟨Aq (a3.new _),?_⟩;clear hκ κ;refine Ao (i:=7) Agp ?_;refine Ar ?_;intro κ hκ;refine Z3 ?_;refine hκ.out _ _ ⟨Bq rfl,?_⟩;clear hκ κ;refine A6 Agp ⟨rfl,Agn,Agn,Agn,Agn,Agn,Agn,zb.nobj,_,Ago,Ags,Aj,⟨ih5,ip5,in5,pc5,nc5,rfl,dd,dh⟩,(a3.new _).put knb _⟩
        ·refine Ar ?_;intro κ hκ;refine Z3 ?_;refine hκ.out _ _ ⟨Aq ((Keep.refl _).new _),?_⟩;clear hκ κ;refine Ao (i:=5) Agp ?_;refine Ar ?_;intro κ hκ;refine Z3 ?_;refine ACalls.mono (d4 _) ?_;rintro _ zb ⟨⟨_,rfl,ih5,ip5,in5,pc5,nc5,rfl,dd,dh⟩,a3⟩;have knb:=a3.nobj;simp only[Aa]at knb;have obb:=a3.obj z'.nobj Agq;rw[Ap]at obb;refine Z3 ?_;refine hκ.out _ _ ⟨Aq (((Keep.refl _).new _).trans a3),?_⟩;clear hκ κ;refine Ao (i:=7) Agp ?_;refine Ar ?_;intro κ hκ;refine Z3 ?_;refine hκ.out _ _ ⟨Bq rfl,?_⟩;clear hκ κ;refine A6 Agp ⟨rfl,Agn,Agn,Agn,Agn,Agn,Agn,z'.nobj,_,Ago,by simp only[Ab];omega,Aj,⟨ih5,ip5,in5,pc5,nc5,rfl,dd,dh⟩,(((Keep.refl _).new _).trans a3).put (Adn _) _⟩
       ·rintro e s2 zc ⟨rfl,f0,f5,f6,f70,f71,f72,oo,c5,f10,fo,oc5,bq,ct⟩;have knc:=ct.nobj;have ff:=fun z=>eb.out c5 bq z;obtain⟨ih5,ip5,in5,pc5,nc5,rfl,-,-⟩:=bq;have ei:zc.obj z8.nobj=[ic (A9 q' rs).head.p,sl ih3 (A9 q' rs).head.ts.length (Ac (A9 q' rs).head.ts),sl ip3 (A9 q' rs).parts.length pc3,sl in3 (A9 q' rs).nots.length nc3]:=by rw[ct.obj _ c8,ob']
        clear eb
        repeat' (first|refine Z1 ?_|(refine Z8 ?_;intro κ hκ)|(refine Z4 ?_;clear hκ κ)|(refine Z2 ?_ ?_<;>intro h aa<;>try exact Xp)|(refine Z5 ?_;refine Xi (ff _ (cr.keep ct)) ?_;rintro _ _ ⟨M2,d2,e8,bi,ea,er,a7⟩;(have dt:Agt _:=ea;have fl:Agt _:=a7;clear ea a7;have dn:=(b7.trans (KM.ofKeep ct)).trans bi;have ed:=bi.obj z8.nobj Agm fh.symm fg.symm;have kn2:=bi.nobj))|refine Z3 ?_|exact⟨⟩|(apply hκ.out;clear hκ κ))
        have HN:Agt (Gro k (Ve neg q) M M2 d d2/\(¬b<d2->∀n∈ns.take (j+1),∀t,Ve neg (Cw v0 n (A9 q' rs)) t->t∈A5 M2 k)):=by
         refine⟨ao.out.1.trans (dt.out.mono (dr.out n)),fun c9 u hu t ht=>?_⟩;rw[fi.out]at hu;rcases Aew.1 hu with hu|hu
         ·have fq:=dt.out.le;exact dt.out.sub (ao.out.2 Agm u hu t ht)
         ·simp at hu;subst hu;exact fl.out c9 t ht
        refine⟨ns.length-(j+1),Agm,j+1,M2,d2,?_⟩
        ((repeat' with_reducible refine And.intro ?_ ?_)<;>first|exact Xq|exact (e8)|exact (dn)|exact (HN)|exact (by rw[ed,ei])|exact Xs)
      ·have em:j=ns.length:=Agm;subst em
       repeat' (first|refine Z1 ?_|(refine Z8 ?_;intro κ hκ)|(refine Z4 ?_;clear hκ κ)|(refine Z2 ?_ ?_<;>intro h aa<;>try exact Xp)|refine Z3 ?_|exact⟨⟩|(apply hκ.out;clear hκ κ))
       refine⟨_,rfl,Mj,dj,cr,b7,ao.out.1,cm,fun c9 t ht=>?_⟩;obtain⟨n,hn,h1⟩:=du.out t ht;rw[fj.out]at hn;exact ao.out.2 c9 n (by rw[Adz];exact hn) t h1
theorem Zq (neg:Int->Ca->Prop)(om ot:Nat)(b:Int):∀(n:Nat) (V:List Int),V.length<=n->wQ neg om ot b V:=by
 intro n;induction n with
 |zero=>exact fun V hV=>O5 neg om ot b V (fun V' h=>Agm)
 |succ n IH=>exact fun V hV=>O5 neg om ot b V (fun V' h=>IH V' Agm)
end Go.Proofs.YtmoeoppbmhfbpabGreatDoorG
