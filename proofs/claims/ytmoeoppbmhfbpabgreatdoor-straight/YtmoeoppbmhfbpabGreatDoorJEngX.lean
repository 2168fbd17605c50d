import Derived.Test.YtmoeoppbmhfbpabGreatDoorJEngW
set_option maxHeartbeats 32000000
set_option maxRecDepth 100000
set_option linter.all false
namespace Go.Proofs.YtmoeoppbmhfbpabGreatDoorJ
open Go.Abs
theorem Kl (v n:Int)(p:Part):(Ha v n p).a.ts.length=p.a.ts.length/\(Ha v n p).tups.length<=p.tups.length/\∀t∈(Ha v n p).tups,t∈p.tups:=by
 unfold Ha;split
 ·exact⟨by simp[Ba],Adi _ _,fun t ht=>(Adj.1 ht).1⟩
 ·exact⟨rfl,Abf _,fun t ht=>ht⟩
theorem putP_has {v n:Int}{p:Part}{w:Int}:A5 (Ha v n p).a.ts w=true↔A5 p.a.ts w=true/\w≠v:=by
 unfold Ha;by_cases h:A5 p.a.ts v=true
 ·rw[if_pos h];exact hasV_put (a:=p.a)
 ·rw[if_neg h];exact⟨fun hw=>⟨hw,fun e=>h (e ▸ hw)⟩,fun hw=>hw.1⟩
theorem Qt {q:Qry}{v n w:Int}(h:inQ (Cq v n q) w):inQ q w/\w≠v:=by
 obtain⟨a,ha,hw⟩:=h;unfold atomsQ Cq at ha;simp only[Aci,Aco,Acs]at ha;rcases ha with rfl|⟨p',⟨p,hp,rfl⟩,rfl⟩|⟨b,hb,rfl⟩
 ·have:=hasV_put.1 hw;exact⟨⟨q.head,by simp[atomsQ],this.1⟩,this.2⟩
 ·have:=putP_has.1 hw;exact⟨⟨p.a,Jm hp,this.1⟩,this.2⟩
 ·have:=hasV_put.1 hw;exact⟨⟨b,by simp[atomsQ,hb],this.1⟩,this.2⟩
theorem bA {q:Qry}{v n:Int}(h:O7 q):O7 (Cq v n q):=by
 have hm:∀p∈(Cq v n q).parts,∃p0∈q.parts,Ha v n p0=p:=fun p hp=>Acs.1 hp;have ab:∀a∈(Cq v n q).nots,∃a0∈q.nots,Ew v n a0=a:=fun a ha=>Acs.1 ha;refine⟨⟨by simp[Cq,Ew,Ba];exact h.ok.hd,by simp[Cq];exact h.ok.pl,by simp[Cq];exact h.ok.nl,fun p hp=>?_,fun p hp=>?_,fun p hp=>?_,?_⟩,fun p hp t ht=>?_,xW h.w,fun w hw=>?_⟩
 ·obtain⟨p0,h0,rfl⟩:=hm p hp;rw[(Kl v n p0).1];exact h.ok.pa p0 h0
 ·obtain⟨p0,h0,rfl⟩:=hm p hp;exact Abg (Kl v n p0).2.1 (h.ok.pt p0 h0)
 ·obtain⟨p0,h0,rfl⟩:=hm p hp;exact fun t ht=>h.ok.p3 p0 h0 t ((Kl v n p0).2.2 t ht)
 ·intro a ha;obtain⟨a0,h0,rfl⟩:=ab a ha;simp[Ew,Ba];exact h.ok.na a0 h0
 ·obtain⟨p0,h0,rfl⟩:=hm p hp;rw[(Kl v n p0).1];exact h.n p0 h0 t ((Kl v n p0).2.2 t ht)
 ·have aa:(A5 q.head.ts w=true\/∃a∈q.nots,A5 a.ts w=true)/\w≠v:=by
   rcases hw with hw|⟨a,ha,hw⟩
   ·have:=hasV_put.1 hw;exact⟨.inl this.1,this.2⟩
   ·obtain⟨a0,h0,rfl⟩:=ab a ha;have:=hasV_put.1 hw;exact⟨.inr ⟨a0,h0,this.1⟩,this.2⟩
  obtain⟨p,hp,ac⟩:=h.wf w aa.1;exact⟨Ha v n p,Acs.2 ⟨p,hp,rfl⟩,putP_has.2 ⟨ac,aa.2⟩⟩
theorem Kk {q q':Qry}(h:O7 q)(hh:q'.head.ts.length<=3)(hp:q'.parts.Sublist q.parts)(hn:q'.nots.Sublist q.nots)(hw:eE q'):O7 q':=
 ⟨⟨hh,Abg hp.length_le h.ok.pl,Abg hn.length_le h.ok.nl,fun p aa=>h.ok.pa p (hp.subset aa),fun p aa=>h.ok.pt p (hp.subset aa),fun p aa=>h.ok.p3 p (hp.subset aa),fun a ha=>h.ok.na a (hn.subset ha)⟩,
  fun p aa=>h.n p (hp.subset aa),fun p aa=>h.w p (hp.subset aa),hw⟩
theorem S4 {q:Qry}(hw:eE q){v:Int}(h:inQ q v):∃p∈q.parts,A5 p.a.ts v=true:=by
 obtain⟨a,ha,hv⟩:=h;unfold atomsQ at ha;simp only[Aci,Aco,Acs]at ha;rcases ha with rfl|⟨p,hp,rfl⟩|ha
 ·exact hw v (.inl hv)
 ·exact⟨p,hp,hv⟩
 ·exact hw v (.inr ⟨a,ha,hv⟩)
theorem Y7 {q:Qry}{rs:List Int}(hw:eE q)(hC:Ei (atomsQ q) rs rs)(hh:∀v,A5 q.head.ts v=true->v∈rs):eE (A2 q rs):=fun v hv=>by
 have hr:v∈rs/\∃p∈q.parts,A5 p.a.ts v=true:=by
  rcases hv with h|⟨a,ha,h⟩
  ·exact⟨hh v h,hw v (.inl h)⟩
  ·obtain⟨h1,h2⟩:=Adj.1 ha;exact⟨hC a (by unfold atomsQ;simp[h1]) h2 v (hasV_iff.1 h),hw v (.inr ⟨a,h1,h⟩)⟩
 obtain⟨h1,p,hp,aa⟩:=hr;exact⟨p,Adj.2 ⟨hp,Acg.2 ⟨v,h1,aa⟩⟩,aa⟩
theorem tT {q:Qry}{rs:List Int}(hw:eE q)(hC:Ei (atomsQ q) rs rs):eE (G1 q rs):=fun v hv=>by
 rcases hv with h|⟨a,ha,h⟩
 ·simp[G1,A5]at h
 ·obtain⟨h1,h2⟩:=Adj.1 ha;obtain⟨p,hp,aa⟩:=hw v (.inr ⟨a,h1,h⟩);refine⟨p,Adj.2 ⟨hp,?_⟩,aa⟩;cases hb:Ia rs p.a with
  |false=>rfl
  |true=>
   have:=hC p.a (Jm hp) hb v (hasV_iff.1 aa);have:Ia rs a=true:=Acg.2 ⟨v,this,h⟩;rw[this]at h2;cases h2
theorem NegOk.sub {neg:Int->Bc->Prop}{M:MM}{q q':Qry}(h:NegOk neg M q)(hs:∀a∈q'.nots,∃b∈q.nots,a.p=b.p):NegOk neg M q':=fun a ha=>by
 obtain⟨b,hb,e⟩:=hs a ha;rw[e];exact h b hb
theorem NegOk.put {neg:Int->Bc->Prop}{M:MM}{q:Qry}(h:NegOk neg M q)(v n:Int):NegOk neg M (Cq v n q):=h.sub fun a ha=>by
 obtain⟨b,hb,rfl⟩:=Acs.1 ha;exact⟨b,hb,rfl⟩
theorem NegOk.near {neg:Int->Bc->Prop}{M:MM}{q:Qry}(h:NegOk neg M q)(rs:List Int):NegOk neg M (A2 q rs):=h.sub fun a ha=>⟨a,(Adj.1 ha).1,rfl⟩
theorem NegOk.far {neg:Int->Bc->Prop}{M:MM}{q:Qry}(h:NegOk neg M q)(rs:List Int):NegOk neg M (G1 q rs):=h.sub fun a ha=>⟨a,(Adj.1 ha).1,rfl⟩
theorem qA {a:C6}(h:F5 a.ts=false):∃v,A5 a.ts v=true:=by
 unfold F5 at h;rw[Adm]at h;obtain⟨⟨b,w⟩,h1,h2⟩:=h;cases b with
 |false=>simp at h2
 |true=>exact⟨w,hasV_iff.2 h1⟩
def Qw (neg:Int->Bc->Prop)(om ot:Nat)(M:MM)(d b:Int)(V:List Int):Prop:=∀(q:Qry) (c:List AV),EQ q c->O7 q->NegOk neg M q->QV q->q.head.ts=[]->(∀v,inQ q v->v∈V)->∀I,MOb I om ot M d b->ACalls Tryz.prog 187 [ptr om 0,ag c] I fun r I'=>(∃b,r=sc (.bool b)/\(b=true↔∃ν,Ka neg q ν))/\Keep I I'
theorem Td (neg:Int->Bc->Prop)(om ot:Nat)(M:MM)(d b:Int)(V:List Int)(hH:Qw neg om ot M d b V)(q:Qry)(c:List AV)(v:Int)(hc:EQ q c)(hA:O7 q)(a5:NegOk neg M q)(hV:QV q)(hh:q.head.ts=[])(a0:∀w,inQ q w->w≠v->w∈V)(I:St)(hM:MOb I om ot M d b):ACalls Tryz.prog 223 [ptr om 0,ag c,ic v] I fun r I'=>(∃b,r=sc (.bool b)/\(b=true↔∃n∈J4 q v,∃ν,Ka neg (Cq v n q) ν))/\Keep I I':=by
 have au:=fun I=>Jt q c v hc hA.ok hA.n I;have ba:=Q4 hA.n v;have ak:=fun n I=>S9 q c v n hc hA.ok I;have HM:Aec (MOb I om ot M d b):=hM;clear hM;have a7:∀(n:Int) (c2:List AV),EQ (Cq v n q) c2->∀I1,Keep I I1->ACalls Tryz.prog 187 [ptr om 0,ag c2] I1 fun r I'=>(∃b,r=sc (.bool b)/\(b=true↔∃ν,Ka neg (Cq v n q) ν))/\Keep I1 I':=fun n c2 h2 I1 ay=>
  hH _ c2 h2 (bA hA) (a5.put v n) (fun a ha w hw=>by
   obtain⟨⟨b,hb,a3⟩,-⟩:=Qt (q:=q) (v:=v) (n:=n) (w:=w) ⟨a,ha,hasV_iff.2 hw⟩;exact hV b hb w (hasV_iff.1 a3)) (by simp[Cq,Ew,Ba,hh]) (fun w hw=>by
   obtain⟨h1,h2⟩:=Qt hw
   exact a0 w h1 h2) I1 (HM.out.keep ay)
 clear hh;obtain⟨ih,ip,inn,pc,nc,rfl,-,-⟩:=hc;generalize J4 q v=vs at*
 have bc:=A8 vs;refine Z9 26 [.tmp 6] Tryz.func223 ?_
 repeat' (first|refine Z1 ?_|(refine Z8 ?_;intro κ hκ)|(refine Z4 ?_;clear hκ κ)|(refine Z2 ?_ ?_<;>intro h ae<;>try exact Xp)|(refine Z5 ?_;refine Xi (au _) ?_;rintro _ _ ⟨⟨idv,rfl⟩,ah⟩;(have ad:=ah.nobj;have ab:=ah.obj;have af:=((Keep.refl I).new _).trans ah;simp only[Aa]at ad ab))|refine Z3 ?_|exact⟨⟩|(apply hκ.out;clear hκ κ))
 rename_i I1;have o0:I1.obj I.nobj=[ic q.head.p,sl ih q.head.ts.length (Ac q.head.ts),sl ip q.parts.length pc,sl inn q.nots.length nc]:=by rw[ab _ Ad6,Ao]
 clear ab ah au
 refine Ad (fun m s I'=>∃j:Nat,m=vs.length-j/\j<=vs.length/\s 0=ptr om 0/\s 2=ic v/\s 4=ptr I.nobj 0/\s 12=sl idv vs.length (icells vs)/\s 13=ic vs.length/\s 14=ic j/\Keep I I'/\I.nobj<I'.nobj/\I'.obj I.nobj=[ic q.head.p,sl ih q.head.ts.length (Ac q.head.ts),sl ip q.parts.length pc,sl inn q.nots.length nc]/\Aec (∀n∈vs.take j,¬ ∃ν,Ka neg (Cq v n q) ν)) vs.length
  ⟨0,Ad6,Ad6,by simp[upd,initS],by simp[upd,initS],Ad8,Ad8,Ad8,rfl,af,Ad6,o0,by simp[Aec]⟩ ?_
 clear af o0 ad;rintro m s I' ⟨j,rfl,hj,h0,h2,h4,bh,bg,bf,hK,bd,ob,hN⟩;have a9:=hK.nobj;by_cases ao:j<vs.length
 ·have aa:=List.getElem?_eq_getElem ao;obtain⟨r,hd⟩:=Co aa;have ac:=Ac2 ao;generalize vs[j]=n at hd aa ac;have HG:Aec (n∈vs/\vs[j]?=some n):=⟨ac,aa⟩;clear aa ac;have ak:=ak n
  repeat' (first|refine Z1 ?_|(refine Z8 ?_;intro κ hκ)|(refine Z4 ?_;clear hκ κ)|(refine Z2 ?_ ?_<;>intro h ae<;>try exact Xp)|(refine Z5 ?_;first|(refine Xi (ak _) ?_;rintro _ _ ⟨⟨_,rfl,ih2,ip2,in2,pc2,nc2,rfl,a4,a6⟩,an⟩;(have ax:=an.nobj;have aw:=an.obj;have af:=hK.trans an;have a8:=a7 n _ ⟨ih2,ip2,in2,pc2,nc2,rfl,a4,a6⟩))|(refine Xi (a8 _ ((af.new _).put Ad6 _)) ?_;rintro _ _ ⟨⟨bb,rfl,ap⟩,am⟩;(have aj:=am.nobj;have ai:=am.obj;have be:=((af.new _).put Ad6 _).trans am;have av:Aec _:=ap;clear ap;simp only[Ab,Aa]at aj ai)))|refine Z3 ?_|exact⟨⟩|(apply hκ.out;clear hκ κ))
  ·exact⟨_,rfl,⟨true,rfl,fun _=>⟨n,HG.out.1,av.out.1 (by assumption)⟩,fun _=>rfl⟩⟩
  ·have HN:Aec (∀n∈vs.take (j+1),¬ ∃ν,Ka neg (Cq v n q) ν):=by
    rw[Aec,Abv,HG.out.2,Ac5];intro u hu;rcases Aco.1 hu with h'|h'
    ·exact hN.out u h'
    ·simp at h';subst h';intro hex;have:=av.out.2 hex;rw[this]at h;cases h
   refine⟨vs.length-(j+1),Ad6,j+1,?_⟩
   ((repeat' with_reducible refine And.intro ?_ ?_)<;>first|exact Xq|exact (HN)|exact Xs)
 ·have az:j=vs.length:=Ad6;subst az;rw[Abt]at hN
  repeat' (first|refine Z1 ?_|(refine Z8 ?_;intro κ hκ)|(refine Z4 ?_;clear hκ κ)|(refine Z2 ?_ ?_<;>intro h ae<;>try exact Xp)|refine Z3 ?_|exact⟨⟩|(apply hκ.out;clear hκ κ))
  first|exact⟨_,rfl,⟨false,rfl,(fun h=>by cases h),fun⟨n,h1,h2⟩=>absurd h2 (hN.out n h1)⟩,hK⟩|exact⟨_,rfl,⟨false,rfl,(fun h=>by cases h),fun⟨n,h1,h2⟩=>absurd h2 (hN.out n h1)⟩⟩
theorem Nm {q:Qry}{rs:List Int}{v:Int}(h:inQ (A2 q rs) v):inQ q v:=by
 obtain⟨a,ha,hv⟩:=h;refine⟨a,?_,hv⟩;unfold atomsQ A2 at ha;unfold atomsQ;simp only[Aci,Aco,Acs]at ha⊢;rcases ha with h|⟨p,hp,h⟩|h
 ·exact .inl h
 ·exact .inr (.inl ⟨p,(Adj.1 hp).1,h⟩)
 ·exact .inr (.inr (Adj.1 h).1)
theorem kT {q:Qry}{rs:List Int}{v:Int}(h:inQ (G1 q rs) v):inQ q v/\v∉rs:=by
 obtain⟨a,ha,hv⟩:=h;unfold atomsQ G1 at ha;simp only[Aci,Aco,Acs]at ha
 have key:∀b:C6,b∈atomsQ q->(!Ia rs b)=true->A5 b.ts v=true->inQ q v/\v∉rs:=fun b hb aa ab=>⟨⟨b,hb,ab⟩,fun hm=>by
  have:Ia rs b=true:=Acg.2 ⟨v,hm,ab⟩;rw[this]at aa
  cases aa⟩
 rcases ha with rfl|⟨p,hp,rfl⟩|h
 ·simp[A5]at hv
 ·exact key p.a (Jm (Adj.1 hp).1) (Adj.1 hp).2 hv
 ·exact key a (by unfold atomsQ;simp[(Adj.1 h).1]) (Adj.1 h).2 hv
theorem Pu (neg:Int->Bc->Prop)(om ot:Nat)(M:MM)(d bg:Int)(V:List Int)(IH:∀V':List Int,V'.length<V.length->Qw neg om ot M d bg V'):Qw neg om ot M d bg V:=by
 intro q c hc hA bo hV hh b3 I hM;have bm:=fun I1 hk=>Wo neg q c om ot M d bg hc hA bo I1 (MOb.keep hM (show Keep I I1 from hk));have HM:Aec (MOb I om ot M d bg):=hM;clear hM;obtain⟨ih,ip,inn,pc,nc,rfl,-,-⟩:=hc;have HH:Aec (q.head.ts=[]):=hh;clear hh;refine Z9 36 [.tmp 4] Tryz.func187 ?_
 repeat' (first|refine Z1 ?_|(refine Z8 ?_;intro κ hκ)|(refine Z4 ?_;clear hκ κ)|(refine Z2 ?_ ?_<;>intro h ae<;>try exact Xp)|(refine Z5 ?_;refine Xi (bm _ ((Keep.refl _).new _)) ?_;rintro _ _ ⟨⟨c',(⟨rfl,cq,cr,a9⟩|⟨q',rfl,⟨ih2,ip2,in2,pc2,nc2,rfl,bn,bp⟩,aa,a6,af,aj⟩)⟩,ah⟩)|refine Z3 ?_|exact⟨⟩|(apply hκ.out;clear hκ κ))
 ·rename_i I1;have ab:=ah.nobj;have o0:=ah.obj I.nobj Aea;rw[Ao]at o0;simp only[Aa]at ab;have am:=(((Keep.refl I).new _).trans ah);have cm:Aec (∀ν,¬Ka neg q ν):=a9;clear a9
  repeat' (first|refine Z1 ?_|(refine Z8 ?_;intro κ hκ)|(refine Z4 ?_;clear hκ κ)|(refine Z2 ?_ ?_<;>intro h ae<;>try exact Xp)|refine Z3 ?_|exact⟨⟩|(apply hκ.out;clear hκ κ))
  exact⟨_,rfl,⟨false,rfl,(fun h=>by cases h),fun⟨ν,hν⟩=>absurd hν (cm.out ν)⟩,am.put Ad6 _⟩
 ·have ab:=ah.nobj;have aw:=ah.obj;simp only[Aa]at ab aw;have ce:=((Keep.refl I).new _).trans ah;have bc:q'.head.ts=[]:=by rw[af.hd];exact HH.out
  have ak:NegOk neg M q':=bo.sub fun a ha=>⟨a,(aj a ha).1,rfl⟩;have ap:QV q':=fun a ha v hv=>hV a (af.at_ a ha) v hv;have ac:∀v,inQ q' v->v∈V:=fun v hv=>b3 v (hv.sub af.at_);have bw:=fun I=>Yp q' _ ⟨ih2,ip2,in2,pc2,nc2,rfl,bn,bp⟩ aa.ok aa.n ap I;have bz:Aec _:=bc;clear bc
  repeat' (first|refine Z1 ?_|(refine Z8 ?_;intro κ hκ)|(refine Z4 ?_;clear hκ κ)|(refine Z2 ?_ ?_<;>intro h ae<;>try exact Xp)|(refine Z5 ?_;refine Xi (bw _) ?_;rintro _ _ ⟨⟨b,rfl,hb⟩,am⟩;(have HB:Aec _:=hb;clear hb;have az:=am.nobj;have av:=am.obj;have br:=(ce.put Ad6 _).trans am))|refine Z3 ?_|exact⟨⟩|(apply hκ.out;clear hκ κ))
  ·have bd:b= -1:=by simpa using h
   have ba:∀v∈B7 (atomsQ q'),Cs q' v=false:=by
    rcases HB.out with⟨-,h2⟩|⟨h1,-⟩
    ·exact h2
    ·obtain⟨a,ha,hv⟩:=(Cr _ _).1 h1;have:=ap a ha b hv;omega
   have b4:∀v,Cv (q'.parts.map (·.a)) v<=1:=fun v=>by
    have cp:Cv (q'.parts.map (·.a)) v<=Cv (atomsQ q') v:=by
     unfold atomsQ;rw[Gi,D8];omega
    by_cases hm:v∈B7 (atomsQ q')
    ·have:=ba v hm;unfold Cs at this;rw[decide_eq_false_iff_not]at this;omega
    ·have:Cv (atomsQ q') v=0:=by
      rcases Nat.eq_zero_or_pos (Cv (atomsQ q') v)with h0|h0
      ·exact h0
      ·obtain⟨a,ha,b8⟩:=List.countP_pos_iff.1 h0;exact absurd ((Cr _ _).2 ⟨a,ha,hasV_iff.1 b8⟩) hm
     omega
   obtain⟨ν,hν⟩:=bZ (l:=q'.parts) (fun p hp=>⟨a6 p hp,(aa.w p hp).2⟩) b4
   have hS:Ka neg q' ν:=⟨hν,fun a ha=>by
    exfalso;obtain⟨v,hv⟩:=qA (aj a ha).2;obtain⟨p,hp,ai⟩:=aa.wf v (.inr ⟨a,ha,hv⟩);have h1:0<Cv (q'.parts.map (·.a)) v:=Ky (Acs.2 ⟨p,hp,rfl⟩) ai;have h2:=Ky ha hv;have h3:Cv (atomsQ q') v=Cv (q'.parts.map (·.a)) v+Cv q'.nots v+if A5 q'.head.ts v=true then 1 else 0:=by
     unfold atomsQ;rw[Gi,D8]
    have hm:v∈B7 (atomsQ q'):=(Cr _ _).2 ⟨p.a,Jm hp,hasV_iff.1 ai⟩;have:=ba v hm;unfold Cs at this;rw[decide_eq_false_iff_not]at this
    omega⟩
   obtain⟨ν',hν',-⟩:=af.back ν hS
   first|exact⟨_,rfl,⟨true,rfl,fun _=>⟨ν',hν'⟩,fun _=>rfl⟩,br⟩|exact⟨_,rfl,⟨true,rfl,fun _=>⟨ν',hν'⟩,fun _=>rfl⟩⟩
  ·have bd:b≠ -1:=by simpa using h
   have b6:b∈B7 (atomsQ q'):=by
    rcases HB.out with⟨h1,-⟩|⟨h1,-⟩
    ·exact absurd h1 bd
    ·exact h1
   have be:inQ q' b:=by
    obtain⟨a,ha,hv⟩:=(Cr _ _).1 b6;exact⟨a,ha,hasV_iff.2 hv⟩
   have a4:=ac b be;have bi:(V.erase b).length<V.length:=by
    rw[List.length_erase_of_mem a4];have:=List.length_pos_of_mem a4;omega
   have IHb:=IH (V.erase b) bi;have bl:=fun (id:Nat) I=>Pt q' _ [b] id ⟨ih2,ip2,in2,pc2,nc2,rfl,bn,bp⟩ aa.ok (by simp) I;simp only[Acf,Ace,icells,Ab1,Ab2,Ab5]at bl;have cn:Aec (∀(rs:List Int) (c3:List AV),Ei (atomsQ q') rs rs->EQ (A2 q' rs) c3->∀I1,Keep I I1->ACalls Tryz.prog 223 [ptr om 0,ag c3,ic b] I1 fun r I'=>(∃bb,r=sc (.bool bb)/\(bb=true↔∃n∈J4 (A2 q' rs) b,∃ν,Ka neg (Cq b n (A2 q' rs)) ν))/\Keep I1 I'):=fun rs c3 a8 cj I1 a3=>
    Td neg om ot M d bg (V.erase b) IHb (A2 q' rs) c3 b cj (Kk aa aa.ok.hd Ad0 Ad0 (Y7 aa.wf a8 (fun v hv=>by rw[bz.out]at hv;simp[A5]at hv))) (ak.near rs)
     (fun a ha w hw=>by
      obtain⟨a',a5,a0⟩:=Nm (rs:=rs) ⟨a,ha,hasV_iff.2 hw⟩
      exact ap a' a5 w (hasV_iff.1 a0)) bz.out (fun w hw b2=>(Ada b2).2 (ac w (Nm hw))) I1 (HM.out.keep a3)
   have co:Aec (∀(rs:List Int) (c4:List AV),b∈rs->Ei (atomsQ q') rs rs->EQ (G1 q' rs) c4->∀I1,Keep I I1->ACalls Tryz.prog 187 [ptr om 0,ag c4] I1 fun r I'=>(∃bb,r=sc (.bool bb)/\(bb=true↔∃ν,Ka neg (G1 q' rs) ν))/\Keep I1 I'):=fun rs c4 ao a8 ci I1 a3=>
    IHb (G1 q' rs) c4 ci (Kk aa (by simp[G1]) Ad0 Ad0 (tT aa.wf a8)) (ak.far rs)
     (fun a ha w hw=>by
      obtain⟨⟨a',a5,a0⟩,-⟩:=kT (rs:=rs) ⟨a,ha,hasV_iff.2 hw⟩;exact ap a' a5 w (hasV_iff.1 a0)) rfl (fun w hw=>by
      obtain⟨h1,h2⟩:=kT hw
      exact (Ada (fun e=>h2 (by rw[e];exact ao))).2 (ac w h1)) I1 (HM.out.keep a3)
   clear IHb IH bm bw a4 bi;have o3:=av I.nobj (by simp only[Ab];omega);rw[Ak]at o3;simp only[Ab]at az
   repeat' (first|refine Z1 ?_|(refine Z8 ?_;intro κ hκ)|(refine Z4 ?_;clear hκ κ)|(refine Z2 ?_ ?_<;>intro h ae<;>try exact Xp)|(refine Z5 ?_;first|(refine Xi (bl _ _) ?_;rintro _ _ ⟨⟨_,_,rs,rfl,⟨ih3,ip3,in3,pc3,nc3,rfl,ca,cd⟩,⟨ih4,ip4,in4,pc4,nc4,rfl,b9,cb⟩,hG,hC⟩,bv⟩;(have ao:b∈rs:=(by obtain⟨ad,e,-,-⟩:=hG;rw[e];simp);have cg:=cn.out rs _ hC ⟨ih3,ip3,in3,pc3,nc3,rfl,ca,cd⟩;have ch:=co.out rs _ ao hC ⟨ih4,ip4,in4,pc4,nc4,rfl,b9,cb⟩;have HC:Aec _:=hC;clear hC hG;have ay:=bv.nobj;simp only[Ag]at ay;have bq:=(br.lay 1).trans bv))|(refine Xi (cg _ ((((bq.new _).new _).put Ad6 _).put Ad6 _)) ?_;rintro _ _ ⟨⟨b5,rfl,bh⟩,a7⟩;(have b1:Aec _:=bh;clear bh;have ax:=a7.nobj;have au:=a7.obj;simp only[Ab,Aa]at ax au;have bu:=((((bq.new _).new _).put Ad6 _).put Ad6 _).trans a7))|(refine Xi (ch _ bu) ?_;rintro _ _ ⟨⟨b7,rfl,bf⟩,cf⟩;(have b0:Aec _:=bf;clear bf;have ct:=bu.trans cf)))|refine Z3 ?_|exact⟨⟩|(apply hκ.out;clear hκ κ))
   ·refine⟨_,rfl,false,rfl,(fun h=>by cases h),fun⟨ν,hν⟩=>?_⟩;have h1:=af.to ν hν;have h2:=aK (rs:=rs) h1;have an:WP (A2 q' rs):=fun p hp=>aa.w p (Adj.1 hp).1;obtain⟨p,hp,ai⟩:=S4 aa.wf be;have h3:=iZ (v:=b) an h2 ⟨p,Adj.2 ⟨hp,Acg.2 ⟨b,ao,ai⟩⟩,ai⟩
    have h4:Ka neg (Cq b (ν b) (A2 q' rs)) ν:=(Qm an).2 (by
     have:Ll ν b (ν b)=ν:=by
      funext w;unfold Ll;split
      ·rename_i e;rw[e]
      ·rfl
     rw[this];exact h2)
    have:=b1.out.2 ⟨ν b,h3,ν,h4⟩;rw[this]at h;cases h
   ·refine⟨_,rfl,b7,rfl,fun h7=>?_,fun⟨ν,hν⟩=>b0.out.2 ⟨ν,kD (af.to ν hν)⟩⟩;obtain⟨n,-,ν1,hν1⟩:=b1.out.1 h;obtain⟨ν2,hν2⟩:=b0.out.1 h7;have an:WP (A2 q' rs):=fun p hp=>aa.w p (Adj.1 hp).1;obtain⟨ν',hν',-⟩:=af.back _ (Vy HC.out ((Qm an).1 hν1) hν2);exact⟨ν',hν'⟩
theorem Pv (neg:Int->Bc->Prop)(om ot:Nat)(M:MM)(d b:Int):∀(k:Nat) (V:List Int),V.length<=k->Qw neg om ot M d b V:=by
 intro k;induction k with
 |zero=>exact fun V hV=>Pu neg om ot M d b V (fun V' h=>Ad6)
 |succ k IH=>exact fun V hV=>Pu neg om ot M d b V (fun V' h=>IH V' Ad6)
end Go.Proofs.YtmoeoppbmhfbpabGreatDoorJ
