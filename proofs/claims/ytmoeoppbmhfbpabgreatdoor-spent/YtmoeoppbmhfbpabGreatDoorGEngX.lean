import Derived.Test.YtmoeoppbmhfbpabGreatDoorGEngW
set_option maxHeartbeats 32000000
set_option maxRecDepth 100000
set_option linter.all false
namespace Go.Proofs.YtmoeoppbmhfbpabGreatDoorG
open Go.Abs
theorem K4 (v n:Int)(p:Part):(Hi v n p).a.ts.length=p.a.ts.length/\(Hi v n p).tups.length<=p.tups.length/\∀t∈(Hi v n p).tups,t∈p.tups:=by
 unfold Hi;split
 ·exact⟨by simp[Bl],Afy _ _,fun t ht=>(Afx.1 ht).1⟩
 ·exact⟨rfl,Adn _,fun t ht=>ht⟩
theorem putP_has {v n:Int}{p:Part}{w:Int}:Bc (Hi v n p).a.ts w=true↔Bc p.a.ts w=true/\w≠v:=by
 unfold Hi;by_cases h:Bc p.a.ts v=true
 ·rw[if_pos h];exact hasV_put (a:=p.a)
 ·rw[if_neg h];exact⟨fun hw=>⟨hw,fun e=>h (e ▸ hw)⟩,fun hw=>hw.1⟩
theorem Rt {q:Qry}{v n w:Int}(h:inQ (Cw v n q) w):inQ q w/\w≠v:=by
 obtain⟨a,ha,hw⟩:=h;unfold atomsQ Cw at ha;simp only[Aeq,Aew,Aey]at ha;rcases ha with rfl|⟨p',⟨p,hp,rfl⟩,rfl⟩|⟨b,hb,rfl⟩
 ·have:=hasV_put.1 hw;exact⟨⟨q.head,by simp[atomsQ],this.1⟩,this.2⟩
 ·have:=putP_has.1 hw;exact⟨⟨p.a,Jz hp,this.1⟩,this.2⟩
 ·have:=hasV_put.1 hw;exact⟨⟨b,by simp[atomsQ,hb],this.1⟩,this.2⟩
theorem cW {q:Qry}{v n:Int}(h:Qc q):Qc (Cw v n q):=by
 have hm:∀p∈(Cw v n q).parts,∃p0∈q.parts,Hi v n p0=p:=fun p hp=>Aey.1 hp;have ab:∀a∈(Cw v n q).nots,∃a0∈q.nots,Fg v n a0=a:=fun a ha=>Aey.1 ha;refine⟨⟨by simp[Cw,Fg,Bl];exact h.ok.hd,by simp[Cw];exact h.ok.pl,by simp[Cw];exact h.ok.nl,fun p hp=>?_,fun p hp=>?_,fun p hp=>?_,?_⟩,fun p hp t ht=>?_,Aay h.w,fun w hw=>?_⟩
 ·obtain⟨p0,h0,rfl⟩:=hm p hp;rw[(K4 v n p0).1];exact h.ok.pa p0 h0
 ·obtain⟨p0,h0,rfl⟩:=hm p hp;exact Ado (K4 v n p0).2.1 (h.ok.pt p0 h0)
 ·obtain⟨p0,h0,rfl⟩:=hm p hp;exact fun t ht=>h.ok.p3 p0 h0 t ((K4 v n p0).2.2 t ht)
 ·intro a ha;obtain⟨a0,h0,rfl⟩:=ab a ha;simp[Fg,Bl];exact h.ok.na a0 h0
 ·obtain⟨p0,h0,rfl⟩:=hm p hp;rw[(K4 v n p0).1];exact h.n p0 h0 t ((K4 v n p0).2.2 t ht)
 ·have aa:(Bc q.head.ts w=true\/∃a∈q.nots,Bc a.ts w=true)/\w≠v:=by
   rcases hw with hw|⟨a,ha,hw⟩
   ·have:=hasV_put.1 hw;exact⟨.inl this.1,this.2⟩
   ·obtain⟨a0,h0,rfl⟩:=ab a ha;have:=hasV_put.1 hw;exact⟨.inr ⟨a0,h0,this.1⟩,this.2⟩
  obtain⟨p,hp,ac⟩:=h.wf w aa.1;exact⟨Hi v n p,Aey.2 ⟨p,hp,rfl⟩,putP_has.2 ⟨ac,aa.2⟩⟩
theorem K1 {q q':Qry}(h:Qc q)(hh:q'.head.ts.length<=3)(hp:q'.parts.Sublist q.parts)(hn:q'.nots.Sublist q.nots)(hw:fX q'):Qc q':=
 ⟨⟨hh,Ado hp.length_le h.ok.pl,Ado hn.length_le h.ok.nl,fun p aa=>h.ok.pa p (hp.subset aa),fun p aa=>h.ok.pt p (hp.subset aa),fun p aa=>h.ok.p3 p (hp.subset aa),fun a ha=>h.ok.na a (hn.subset ha)⟩,
  fun p aa=>h.n p (hp.subset aa),fun p aa=>h.w p (hp.subset aa),hw⟩
theorem Uc {q:Qry}(hw:fX q){v:Int}(h:inQ q v):∃p∈q.parts,Bc p.a.ts v=true:=by
 obtain⟨a,ha,hv⟩:=h;unfold atomsQ at ha;simp only[Aeq,Aew,Aey]at ha;rcases ha with rfl|⟨p,hp,rfl⟩|ha
 ·exact hw v (.inl hv)
 ·exact⟨p,hp,hv⟩
 ·exact hw v (.inr ⟨a,ha,hv⟩)
theorem aJ {q:Qry}{rs:List Int}(hw:fX q)(hC:Ex (atomsQ q) rs rs)(hh:∀v,Bc q.head.ts v=true->v∈rs):fX (A9 q rs):=fun v hv=>by
 have hr:v∈rs/\∃p∈q.parts,Bc p.a.ts v=true:=by
  rcases hv with h|⟨a,ha,h⟩
  ·exact⟨hh v h,hw v (.inl h)⟩
  ·obtain⟨h1,h2⟩:=Afx.1 ha;exact⟨hC a (by unfold atomsQ;simp[h1]) h2 v (hasV_iff.1 h),hw v (.inr ⟨a,h1,h⟩)⟩
 obtain⟨h1,p,hp,aa⟩:=hr;exact⟨p,Afx.2 ⟨hp,Aeo.2 ⟨v,h1,aa⟩⟩,aa⟩
theorem xC {q:Qry}{rs:List Int}(hw:fX q)(hC:Ex (atomsQ q) rs rs):fX (Ha q rs):=fun v hv=>by
 rcases hv with h|⟨a,ha,h⟩
 ·simp[Ha,Bc]at h
 ·obtain⟨h1,h2⟩:=Afx.1 ha;obtain⟨p,hp,aa⟩:=hw v (.inr ⟨a,h1,h⟩);refine⟨p,Afx.2 ⟨hp,?_⟩,aa⟩;cases hb:Ii rs p.a with
  |false=>rfl
  |true=>
   have:=hC p.a (Jz hp) hb v (hasV_iff.1 aa);have:Ii rs a=true:=Aeo.2 ⟨v,this,h⟩;rw[this]at h2;cases h2
theorem NegOk.sub {neg:Int->Ca->Prop}{M:MM}{q q':Qry}(h:NegOk neg M q)(hs:∀a∈q'.nots,∃b∈q.nots,a.p=b.p):NegOk neg M q':=fun a ha=>by
 obtain⟨b,hb,e⟩:=hs a ha;rw[e];exact h b hb
theorem NegOk.put {neg:Int->Ca->Prop}{M:MM}{q:Qry}(h:NegOk neg M q)(v n:Int):NegOk neg M (Cw v n q):=h.sub fun a ha=>by
 obtain⟨b,hb,rfl⟩:=Aey.1 ha;exact⟨b,hb,rfl⟩
theorem NegOk.near {neg:Int->Ca->Prop}{M:MM}{q:Qry}(h:NegOk neg M q)(rs:List Int):NegOk neg M (A9 q rs):=h.sub fun a ha=>⟨a,(Afx.1 ha).1,rfl⟩
theorem NegOk.far {neg:Int->Ca->Prop}{M:MM}{q:Qry}(h:NegOk neg M q)(rs:List Int):NegOk neg M (Ha q rs):=h.sub fun a ha=>⟨a,(Afx.1 ha).1,rfl⟩
theorem sI {a:C4}(h:Ih a.ts=false):∃v,Bc a.ts v=true:=by
 unfold Ih at h;rw[Aft]at h;obtain⟨⟨b,w⟩,h1,h2⟩:=h;cases b with
 |false=>simp at h2
 |true=>exact⟨w,hasV_iff.2 h1⟩
def Rw (neg:Int->Ca->Prop)(om ot:Nat)(M:MM)(d b:Int)(V:List Int):Prop:=∀(q:Qry) (c:List AV),EQ q c->Qc q->NegOk neg M q->QV q->q.head.ts=[]->(∀v,inQ q v->v∈V)->∀I,MOb I om ot M d b->ACalls Tryz.prog 187 [ptr om 0,ag c] I fun r I'=>(∃b,r=sc (.bool b)/\(b=true↔∃ν,Kq neg q ν))/\Keep I I'
theorem Uk (neg:Int->Ca->Prop)(om ot:Nat)(M:MM)(d b:Int)(V:List Int)(hH:Rw neg om ot M d b V)(q:Qry)(c:List AV)(v:Int)(hc:EQ q c)(hA:Qc q)(a5:NegOk neg M q)(hV:QV q)(hh:q.head.ts=[])(a0:∀w,inQ q w->w≠v->w∈V)(I:St)(hM:MOb I om ot M d b):ACalls Tryz.prog 223 [ptr om 0,ag c,ic v] I fun r I'=>(∃b,r=sc (.bool b)/\(b=true↔∃n∈Kl q v,∃ν,Kq neg (Cw v n q) ν))/\Keep I I':=by
 have au:=fun I=>J6 q c v hc hA.ok hA.n I;have ba:=Sa hA.n v;have ak:=fun n I=>Ug q c v n hc hA.ok I;have HM:Agt (MOb I om ot M d b):=hM;clear hM;have a7:∀(n:Int) (c2:List AV),EQ (Cw v n q) c2->∀I1,Keep I I1->ACalls Tryz.prog 187 [ptr om 0,ag c2] I1 fun r I'=>(∃b,r=sc (.bool b)/\(b=true↔∃ν,Kq neg (Cw v n q) ν))/\Keep I1 I':=fun n c2 h2 I1 ay=>
  hH _ c2 h2 (cW hA) (a5.put v n) (fun a ha w hw=>by
   obtain⟨⟨b,hb,a3⟩,-⟩:=Rt (q:=q) (v:=v) (n:=n) (w:=w) ⟨a,ha,hasV_iff.2 hw⟩;exact hV b hb w (hasV_iff.1 a3)) (by simp[Cw,Fg,Bl,hh]) (fun w hw=>by
   obtain⟨h1,h2⟩:=Rt hw
   exact a0 w h1 h2) I1 (HM.out.keep ay)
 clear hh;obtain⟨ih,ip,inn,pc,nc,rfl,-,-⟩:=hc;generalize Kl q v=vs at*
 have bd:=Bp vs;refine Z9 26 [.tmp 6] Tryz.func223 ?_
 repeat' (first|refine Z1 ?_|(refine Z8 ?_;intro κ hκ)|(refine Z4 ?_;clear hκ κ)|(refine Z2 ?_ ?_<;>intro h ae<;>try exact Xp)|(refine Z5 ?_;refine Xi (au _) ?_;rintro _ _ ⟨⟨idv,rfl⟩,ah⟩;(have ad:=ah.nobj;have ab:=ah.obj;have af:=((Keep.refl I).new _).trans ah;simp only[Aa]at ad ab))|refine Z3 ?_|exact⟨⟩|(apply hκ.out;clear hκ κ))
 rename_i I1;have o0:I1.obj I.nobj=[ic q.head.p,sl ih q.head.ts.length (Ac q.head.ts),sl ip q.parts.length pc,sl inn q.nots.length nc]:=by rw[ab _ Agm,Ap]
 clear ab ah au
 refine Ag (fun m s I'=>∃j:Nat,m=vs.length-j/\j<=vs.length/\s 0=ptr om 0/\s 2=ic v/\s 4=ptr I.nobj 0/\s 12=sl idv vs.length (As vs)/\s 13=ic vs.length/\s 14=ic j/\Keep I I'/\I.nobj<I'.nobj/\I'.obj I.nobj=[ic q.head.p,sl ih q.head.ts.length (Ac q.head.ts),sl ip q.parts.length pc,sl inn q.nots.length nc]/\Agt (∀n∈vs.take j,¬ ∃ν,Kq neg (Cw v n q) ν)) vs.length
  ⟨0,Agm,Agm,by simp[upd,initS],by simp[upd,initS],Ago,Ago,Ago,rfl,af,Agm,o0,by simp[Agt]⟩ ?_
 clear af o0 ad;rintro m s I' ⟨j,rfl,hj,h0,h2,h4,bh,bg,bf,hK,hno,ob,hN⟩;have a9:=hK.nobj;by_cases ao:j<vs.length
 ·have aa:=List.getElem?_eq_getElem ao;obtain⟨r,hd⟩:=C9 aa;have ac:=Afa ao;generalize vs[j]=n at hd aa ac;have HG:Agt (n∈vs/\vs[j]?=some n):=⟨ac,aa⟩;clear aa ac;have ak:=ak n
  repeat' (first|refine Z1 ?_|(refine Z8 ?_;intro κ hκ)|(refine Z4 ?_;clear hκ κ)|(refine Z2 ?_ ?_<;>intro h ae<;>try exact Xp)|(refine Z5 ?_;first|(refine Xi (ak _) ?_;rintro _ _ ⟨⟨_,rfl,ih2,ip2,in2,pc2,nc2,rfl,a4,a6⟩,an⟩;(have ax:=an.nobj;have aw:=an.obj;have af:=hK.trans an;have a8:=a7 n _ ⟨ih2,ip2,in2,pc2,nc2,rfl,a4,a6⟩))|(refine Xi (a8 _ ((af.new _).put Agm _)) ?_;rintro _ _ ⟨⟨bb,rfl,ap⟩,am⟩;(have aj:=am.nobj;have ai:=am.obj;have be:=((af.new _).put Agm _).trans am;have av:Agt _:=ap;clear ap;simp only[Ab,Aa]at aj ai)))|refine Z3 ?_|exact⟨⟩|(apply hκ.out;clear hκ κ))
  ·exact⟨_,rfl,⟨true,rfl,fun _=>⟨n,HG.out.1,av.out.1 (by assumption)⟩,fun _=>rfl⟩⟩
  ·have HN:Agt (∀n∈vs.take (j+1),¬ ∃ν,Kq neg (Cw v n q) ν):=by
    rw[Agt,Ad3,HG.out.2,Afe];intro u hu;rcases Aew.1 hu with h'|h'
    ·exact hN.out u h'
    ·simp at h';subst h';intro hex;have:=av.out.2 hex;rw[this]at h;cases h
   refine⟨vs.length-(j+1),Agm,j+1,?_⟩
   ((repeat' with_reducible refine And.intro ?_ ?_)<;>first|exact Xq|exact (HN)|exact Xs)
 ·have az:j=vs.length:=Agm;subst az;rw[Adz]at hN
  repeat' (first|refine Z1 ?_|(refine Z8 ?_;intro κ hκ)|(refine Z4 ?_;clear hκ κ)|(refine Z2 ?_ ?_<;>intro h ae<;>try exact Xp)|refine Z3 ?_|exact⟨⟩|(apply hκ.out;clear hκ κ))
  first|exact⟨_,rfl,⟨false,rfl,(fun h=>by cases h),fun⟨n,h1,h2⟩=>absurd h2 (hN.out n h1)⟩,hK⟩|exact⟨_,rfl,⟨false,rfl,(fun h=>by cases h),fun⟨n,h1,h2⟩=>absurd h2 (hN.out n h1)⟩⟩
theorem Ox {q:Qry}{rs:List Int}{v:Int}(h:inQ (A9 q rs) v):inQ q v:=by
 obtain⟨a,ha,hv⟩:=h;refine⟨a,?_,hv⟩;unfold atomsQ A9 at ha;unfold atomsQ;simp only[Aeq,Aew,Aey]at ha⊢;rcases ha with h|⟨p,hp,h⟩|h
 ·exact .inl h
 ·exact .inr (.inl ⟨p,(Afx.1 hp).1,h⟩)
 ·exact .inr (.inr (Afx.1 h).1)
theorem mS {q:Qry}{rs:List Int}{v:Int}(h:inQ (Ha q rs) v):inQ q v/\v∉rs:=by
 obtain⟨a,ha,hv⟩:=h;unfold atomsQ Ha at ha;simp only[Aeq,Aew,Aey]at ha
 have key:∀b:C4,b∈atomsQ q->(!Ii rs b)=true->Bc b.ts v=true->inQ q v/\v∉rs:=fun b hb aa ab=>⟨⟨b,hb,ab⟩,fun hm=>by
  have:Ii rs b=true:=Aeo.2 ⟨v,hm,ab⟩;rw[this]at aa
  cases aa⟩
 rcases ha with rfl|⟨p,hp,rfl⟩|h
 ·simp[Bc]at hv
 ·exact key p.a (Jz (Afx.1 hp).1) (Afx.1 hp).2 hv
 ·exact key a (by unfold atomsQ;simp[(Afx.1 h).1]) (Afx.1 h).2 hv
theorem Qu (neg:Int->Ca->Prop)(om ot:Nat)(M:MM)(d bg:Int)(V:List Int)(IH:∀V':List Int,V'.length<V.length->Rw neg om ot M d bg V'):Rw neg om ot M d bg V:=by
 intro q c hc hA bp hV hh b4 I hM;have bn:=fun I1 hk=>Yd neg q c om ot M d bg hc hA bp I1 (MOb.keep hM (show Keep I I1 from hk));have HM:Agt (MOb I om ot M d bg):=hM;clear hM;obtain⟨ih,ip,inn,pc,nc,rfl,-,-⟩:=hc;have HH:Agt (q.head.ts=[]):=hh;clear hh;refine Z9 36 [.tmp 4] Tryz.func187 ?_
 repeat' (first|refine Z1 ?_|(refine Z8 ?_;intro κ hκ)|(refine Z4 ?_;clear hκ κ)|(refine Z2 ?_ ?_<;>intro h ae<;>try exact Xp)|(refine Z5 ?_;refine Xi (bn _ ((Keep.refl _).new _)) ?_;rintro _ _ ⟨⟨c',(⟨rfl,cp,cq,hno⟩|⟨q',rfl,⟨ih2,ip2,in2,pc2,nc2,rfl,bo,bq⟩,aa,a6,af,aj⟩)⟩,ah⟩)|refine Z3 ?_|exact⟨⟩|(apply hκ.out;clear hκ κ))
 ·rename_i I1;have ab:=ah.nobj;have o0:=ah.obj I.nobj Agq;rw[Ap]at o0;simp only[Aa]at ab;have am:=(((Keep.refl I).new _).trans ah);have ck:Agt (∀ν,¬Kq neg q ν):=hno;clear hno
  repeat' (first|refine Z1 ?_|(refine Z8 ?_;intro κ hκ)|(refine Z4 ?_;clear hκ κ)|(refine Z2 ?_ ?_<;>intro h ae<;>try exact Xp)|refine Z3 ?_|exact⟨⟩|(apply hκ.out;clear hκ κ))
  exact⟨_,rfl,⟨false,rfl,(fun h=>by cases h),fun⟨ν,hν⟩=>absurd hν (ck.out ν)⟩,am.put Agm _⟩
 ·have ab:=ah.nobj;have aw:=ah.obj;simp only[Aa]at ab aw;have ce:=((Keep.refl I).new _).trans ah;have ba:q'.head.ts=[]:=by rw[af.hd];exact HH.out
  have ak:NegOk neg M q':=bp.sub fun a ha=>⟨a,(aj a ha).1,rfl⟩;have ap:QV q':=fun a ha v hv=>hV a (af.at_ a ha) v hv;have ac:∀v,inQ q' v->v∈V:=fun v hv=>b4 v (hv.sub af.at_);have bz:=fun I=>Zr q' _ ⟨ih2,ip2,in2,pc2,nc2,rfl,bo,bq⟩ aa.ok aa.n ap I;have b0:Agt _:=ba;clear ba
  repeat' (first|refine Z1 ?_|(refine Z8 ?_;intro κ hκ)|(refine Z4 ?_;clear hκ κ)|(refine Z2 ?_ ?_<;>intro h ae<;>try exact Xp)|(refine Z5 ?_;refine Xi (bz _) ?_;rintro _ _ ⟨⟨b,rfl,hb⟩,am⟩;(have HB:Agt _:=hb;clear hb;have az:=am.nobj;have av:=am.obj;have bu:=(ce.put Agm _).trans am))|refine Z3 ?_|exact⟨⟩|(apply hκ.out;clear hκ κ))
  ·have bd:b= -1:=by simpa using h
   have a9:∀v∈Cb (atomsQ q'),Cz q' v=false:=by
    rcases HB.out with⟨-,h2⟩|⟨h1,-⟩
    ·exact h2
    ·obtain⟨a,ha,hv⟩:=(Cy _ _).1 h1;have:=ap a ha b hv;omega
   have b6:∀v,C1 (q'.parts.map (·.a)) v<=1:=fun v=>by
    have co:C1 (q'.parts.map (·.a)) v<=C1 (atomsQ q') v:=by
     unfold atomsQ;rw[Gm,Er];omega
    by_cases hm:v∈Cb (atomsQ q')
    ·have:=a9 v hm;unfold Cz at this;rw[decide_eq_false_iff_not]at this;omega
    ·have:C1 (atomsQ q') v=0:=by
      rcases Nat.eq_zero_or_pos (C1 (atomsQ q') v)with h0|h0
      ·exact h0
      ·obtain⟨a,ha,b9⟩:=List.countP_pos_iff.1 h0;exact absurd ((Cy _ _).2 ⟨a,ha,hasV_iff.1 b9⟩) hm
     omega
   obtain⟨ν,hν⟩:=eC (l:=q'.parts) (fun p hp=>⟨a6 p hp,(aa.w p hp).2⟩) b6
   have hS:Kq neg q' ν:=⟨hν,fun a ha=>by
    exfalso;obtain⟨v,hv⟩:=sI (aj a ha).2;obtain⟨p,hp,ai⟩:=aa.wf v (.inr ⟨a,ha,hv⟩);have h1:0<C1 (q'.parts.map (·.a)) v:=Lm (Aey.2 ⟨p,hp,rfl⟩) ai;have h2:=Lm ha hv;have h3:C1 (atomsQ q') v=C1 (q'.parts.map (·.a)) v+C1 q'.nots v+if Bc q'.head.ts v=true then 1 else 0:=by
     unfold atomsQ;rw[Gm,Er]
    have hm:v∈Cb (atomsQ q'):=(Cy _ _).2 ⟨p.a,Jz hp,hasV_iff.1 ai⟩;have:=a9 v hm;unfold Cz at this;rw[decide_eq_false_iff_not]at this
    omega⟩
   obtain⟨ν',hν',-⟩:=af.back ν hS
   first|exact⟨_,rfl,⟨true,rfl,fun _=>⟨ν',hν'⟩,fun _=>rfl⟩,bu⟩|exact⟨_,rfl,⟨true,rfl,fun _=>⟨ν',hν'⟩,fun _=>rfl⟩⟩
  ·have bd:b≠ -1:=by simpa using h
   have b8:b∈Cb (atomsQ q'):=by
    rcases HB.out with⟨h1,-⟩|⟨h1,-⟩
    ·exact absurd h1 bd
    ·exact h1
   have be:inQ q' b:=by
    obtain⟨a,ha,hv⟩:=(Cy _ _).1 b8;exact⟨a,ha,hasV_iff.2 hv⟩
   have a4:=ac b be;have bi:(V.erase b).length<V.length:=by
    rw[List.length_erase_of_mem a4];have:=List.length_pos_of_mem a4;omega
   have IHb:=IH (V.erase b) bi;have bm:=fun (id:Nat) I=>Qs q' _ [b] id ⟨ih2,ip2,in2,pc2,nc2,rfl,bo,bq⟩ aa.ok (by simp) I;simp only[Aen,Aem,As,Ad9,Aea,Aed]at bm;have cm:Agt (∀(rs:List Int) (c3:List AV),Ex (atomsQ q') rs rs->EQ (A9 q' rs) c3->∀I1,Keep I I1->ACalls Tryz.prog 223 [ptr om 0,ag c3,ic b] I1 fun r I'=>(∃bb,r=sc (.bool bb)/\(bb=true↔∃n∈Kl (A9 q' rs) b,∃ν,Kq neg (Cw b n (A9 q' rs)) ν))/\Keep I1 I'):=fun rs c3 a8 cj I1 a3=>
    Uk neg om ot M d bg (V.erase b) IHb (A9 q' rs) c3 b cj (K1 aa aa.ok.hd Af8 Af8 (aJ aa.wf a8 (fun v hv=>by rw[b0.out]at hv;simp[Bc]at hv))) (ak.near rs)
     (fun a ha w hw=>by
      obtain⟨a',a5,a0⟩:=Ox (rs:=rs) ⟨a,ha,hasV_iff.2 hw⟩
      exact ap a' a5 w (hasV_iff.1 a0)) b0.out (fun w hw b3=>(List.mem_erase_of_ne b3).2 (ac w (Ox hw))) I1 (HM.out.keep a3)
   have cn:Agt (∀(rs:List Int) (c4:List AV),b∈rs->Ex (atomsQ q') rs rs->EQ (Ha q' rs) c4->∀I1,Keep I I1->ACalls Tryz.prog 187 [ptr om 0,ag c4] I1 fun r I'=>(∃bb,r=sc (.bool bb)/\(bb=true↔∃ν,Kq neg (Ha q' rs) ν))/\Keep I1 I'):=fun rs c4 ao a8 ci I1 a3=>
    IHb (Ha q' rs) c4 ci (K1 aa (by simp[Ha]) Af8 Af8 (xC aa.wf a8)) (ak.far rs)
     (fun a ha w hw=>by
      obtain⟨⟨a',a5,a0⟩,-⟩:=mS (rs:=rs) ⟨a,ha,hasV_iff.2 hw⟩;exact ap a' a5 w (hasV_iff.1 a0)) rfl (fun w hw=>by
      obtain⟨h1,h2⟩:=mS hw
      exact (List.mem_erase_of_ne (fun e=>h2 (by rw[e];exact ao))).2 (ac w h1)) I1 (HM.out.keep a3)
   clear IHb IH bn bz a4 bi;have o3:=av I.nobj (by simp only[Ab];omega);rw[Aj]at o3;simp only[Ab]at az
   repeat' (first|refine Z1 ?_|(refine Z8 ?_;intro κ hκ)|(refine Z4 ?_;clear hκ κ)|(refine Z2 ?_ ?_<;>intro h ae<;>try exact Xp)|(refine Z5 ?_;first|(refine Xi (bm _ _) ?_;rintro _ _ ⟨⟨_,_,rs,rfl,⟨ih3,ip3,in3,pc3,nc3,rfl,cb,cd⟩,⟨ih4,ip4,in4,pc4,nc4,rfl,ca,cc⟩,hG,hC⟩,bw⟩;(have ao:b∈rs:=(by obtain⟨ad,e,-,-⟩:=hG;rw[e];simp);have cg:=cm.out rs _ hC ⟨ih3,ip3,in3,pc3,nc3,rfl,cb,cd⟩;have ch:=cn.out rs _ ao hC ⟨ih4,ip4,in4,pc4,nc4,rfl,ca,cc⟩;have HC:Agt _:=hC;clear hC hG;have ay:=bw.nobj;simp only[Ah]at ay;have br:=(bu.lay 1).trans bw))|(refine Xi (cg _ ((((br.new _).new _).put Agm _).put Agm _)) ?_;rintro _ _ ⟨⟨b5,rfl,bh⟩,a7⟩;(have b2:Agt _:=bh;clear bh;have ax:=a7.nobj;have au:=a7.obj;simp only[Ab,Aa]at ax au;have bv:=((((br.new _).new _).put Agm _).put Agm _).trans a7))|(refine Xi (ch _ bv) ?_;rintro _ _ ⟨⟨b7,rfl,bf⟩,cf⟩;(have b1:Agt _:=bf;clear bf;have cr:=bv.trans cf)))|refine Z3 ?_|exact⟨⟩|(apply hκ.out;clear hκ κ))
   ·refine⟨_,rfl,false,rfl,(fun h=>by cases h),fun⟨ν,hν⟩=>?_⟩;have h1:=af.to ν hν;have h2:=cJ (rs:=rs) h1;have an:WP (A9 q' rs):=fun p hp=>aa.w p (Afx.1 hp).1;obtain⟨p,hp,ai⟩:=Uc aa.wf be;have h3:=kP (v:=b) an h2 ⟨p,Afx.2 ⟨hp,Aeo.2 ⟨b,ao,ai⟩⟩,ai⟩
    have h4:Kq neg (Cw b (ν b) (A9 q' rs)) ν:=(Rf an).2 (by
     have:Mg ν b (ν b)=ν:=by
      funext w;unfold Mg;split
      ·rename_i e;rw[e]
      ·rfl
     rw[this];exact h2)
    have:=b2.out.2 ⟨ν b,h3,ν,h4⟩;rw[this]at h;cases h
   ·refine⟨_,rfl,b7,rfl,fun h7=>?_,fun⟨ν,hν⟩=>b1.out.2 ⟨ν,lS (af.to ν hν)⟩⟩;obtain⟨n,-,ν1,hν1⟩:=b2.out.1 h;obtain⟨ν2,hν2⟩:=b1.out.1 h7;have an:WP (A9 q' rs):=fun p hp=>aa.w p (Afx.1 hp).1;obtain⟨ν',hν',-⟩:=af.back _ (W0 HC.out ((Rf an).1 hν1) hν2);exact⟨ν',hν'⟩
theorem Qv (neg:Int->Ca->Prop)(om ot:Nat)(M:MM)(d b:Int):∀(k:Nat) (V:List Int),V.length<=k->Rw neg om ot M d b V:=by
 intro k;induction k with
 |zero=>exact fun V hV=>Qu neg om ot M d b V (fun V' h=>Agm)
 |succ k IH=>exact fun V hV=>Qu neg om ot M d b V (fun V' h=>IH V' Agm)
end Go.Proofs.YtmoeoppbmhfbpabGreatDoorG
