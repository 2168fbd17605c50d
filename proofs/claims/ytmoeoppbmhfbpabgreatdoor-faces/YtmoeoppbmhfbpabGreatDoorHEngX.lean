import Derived.Test.YtmoeoppbmhfbpabGreatDoorHEngW
set_option linter.all false
namespace Go.Proofs.YtmoeoppbmhfbpabGreatDoorH
set_option maxHeartbeats 32000000
open Go.Abs
set_option maxRecDepth 100000
theorem Ke (v n:Int)(p:Part):(Gz v n p).a.ts.length=p.a.ts.length/\(Gz v n p).tups.length<=p.tups.length/\∀t∈(Gz v n p).tups,t∈p.tups:=by
 unfold Gz;split
 ·exact⟨by simp[Bh],Adj _ _,fun t ht=>(Adi.1 ht).1⟩
 ·exact⟨rfl,Abb _,fun t ht=>ht⟩
theorem putP_has {v n:Int}{p:Part}{w:Int}:Bc (Gz v n p).a.ts w=true↔Bc p.a.ts w=true/\w≠v:=by
 unfold Gz;by_cases h:Bc p.a.ts v=true
 ·rw[if_pos h];exact hasV_put (a:=p.a)
 ·rw[if_neg h];exact⟨fun hw=>⟨hw,fun e=>h (e ▸ hw)⟩,fun hw=>hw.1⟩
theorem Qs {q:Qry}{v n w:Int}(h:inQ (Cu v n q) w):inQ q w/\w≠v:=by
 obtain⟨a,ha,hw⟩:=h;unfold atomsQ Cu at ha;simp only[Ace,Ack,Acm]at ha;rcases ha with rfl|⟨p',⟨p,hp,rfl⟩,rfl⟩|⟨b,hb,rfl⟩
 ·have:=hasV_put.1 hw;exact⟨⟨q.head,by simp[atomsQ],this.1⟩,this.2⟩
 ·have:=putP_has.1 hw;exact⟨⟨p.a,Jd hp,this.1⟩,this.2⟩
 ·have:=hasV_put.1 hw;exact⟨⟨b,by simp[atomsQ,hb],this.1⟩,this.2⟩
theorem bB {q:Qry}{v n:Int}(h:Pi q):Pi (Cu v n q):=by
 have hm:∀p∈(Cu v n q).parts,∃p0∈q.parts,Gz v n p0=p:=fun p hp=>Acm.1 hp;have ab:∀a∈(Cu v n q).nots,∃a0∈q.nots,Ey v n a0=a:=fun a ha=>Acm.1 ha;refine⟨⟨by simp[Cu,Ey,Bh];exact h.ok.hd,by simp[Cu];exact h.ok.pl,by simp[Cu];exact h.ok.nl,fun p hp=>?_,fun p hp=>?_,fun p hp=>?_,?_⟩,fun p hp t ht=>?_,yA h.w,fun w hw=>?_⟩
 ·obtain⟨p0,h0,rfl⟩:=hm p hp;rw[(Ke v n p0).1];exact h.ok.pa p0 h0
 ·obtain⟨p0,h0,rfl⟩:=hm p hp;exact Abc (Ke v n p0).2.1 (h.ok.pt p0 h0)
 ·obtain⟨p0,h0,rfl⟩:=hm p hp;exact fun t ht=>h.ok.p3 p0 h0 t ((Ke v n p0).2.2 t ht)
 ·intro a ha;obtain⟨a0,h0,rfl⟩:=ab a ha;simp[Ey,Bh];exact h.ok.na a0 h0
 ·obtain⟨p0,h0,rfl⟩:=hm p hp;rw[(Ke v n p0).1];exact h.n p0 h0 t ((Ke v n p0).2.2 t ht)
 ·have aa:(Bc q.head.ts w=true\/∃a∈q.nots,Bc a.ts w=true)/\w≠v:=by
   rcases hw with hw|⟨a,ha,hw⟩
   ·have:=hasV_put.1 hw;exact⟨.inl this.1,this.2⟩
   ·obtain⟨a0,h0,rfl⟩:=ab a ha;have:=hasV_put.1 hw;exact⟨.inr ⟨a0,h0,this.1⟩,this.2⟩
  obtain⟨p,hp,ac⟩:=h.wf w aa.1;exact⟨Gz v n p,Acm.2 ⟨p,hp,rfl⟩,putP_has.2 ⟨ac,aa.2⟩⟩
theorem Kc {q q':Qry}(h:Pi q)(hh:q'.head.ts.length<=3)(hp:q'.parts.Sublist q.parts)(hn:q'.nots.Sublist q.nots)(hw:eE q'):Pi q':=
 ⟨⟨hh,Abc hp.length_le h.ok.pl,Abc hn.length_le h.ok.nl,fun p aa=>h.ok.pa p (hp.subset aa),fun p aa=>h.ok.pt p (hp.subset aa),fun p aa=>h.ok.p3 p (hp.subset aa),fun a ha=>h.ok.na a (hn.subset ha)⟩,
  fun p aa=>h.n p (hp.subset aa),fun p aa=>h.w p (hp.subset aa),hw⟩
theorem S7 {q:Qry}(hw:eE q){v:Int}(h:inQ q v):∃p∈q.parts,Bc p.a.ts v=true:=by
 obtain⟨a,ha,hv⟩:=h;unfold atomsQ at ha;simp only[Ace,Ack,Acm]at ha;rcases ha with rfl|⟨p,hp,rfl⟩|ha
 ·exact hw v (.inl hv)
 ·exact⟨p,hp,hv⟩
 ·exact hw v (.inr ⟨a,ha,hv⟩)
theorem Y5 {q:Qry}{rs:List Int}(hw:eE q)(hC:El (atomsQ q) rs rs)(hh:∀v,Bc q.head.ts v=true->v∈rs):eE (Bb q rs):=fun v hv=>by
 have hr:v∈rs/\∃p∈q.parts,Bc p.a.ts v=true:=by
  rcases hv with h|⟨a,ha,h⟩
  ·exact⟨hh v h,hw v (.inl h)⟩
  ·obtain⟨h1,h2⟩:=Adi.1 ha;exact⟨hC a (by unfold atomsQ;simp[h1]) h2 v (hasV_iff.1 h),hw v (.inr ⟨a,h1,h⟩)⟩
 obtain⟨h1,p,hp,aa⟩:=hr;exact⟨p,Adi.2 ⟨hp,Acb.2 ⟨v,h1,aa⟩⟩,aa⟩
theorem uF {q:Qry}{rs:List Int}(hw:eE q)(hC:El (atomsQ q) rs rs):eE (Gt q rs):=fun v hv=>by
 rcases hv with h|⟨a,ha,h⟩
 ·simp[Gt,Bc]at h
 ·obtain⟨h1,h2⟩:=Adi.1 ha;obtain⟨p,hp,aa⟩:=hw v (.inr ⟨a,h1,h⟩);refine⟨p,Adi.2 ⟨hp,?_⟩,aa⟩;cases hb:H2 rs p.a with
  |false=>rfl
  |true=>
   have:=hC p.a (Jd hp) hb v (hasV_iff.1 aa);have:H2 rs a=true:=Acb.2 ⟨v,this,h⟩;rw[this]at h2;cases h2
theorem NegOk.sub {neg:Int->Ca->Prop}{M:MM}{q q':Qry}(h:NegOk neg M q)(hs:∀a∈q'.nots,∃b∈q.nots,a.p=b.p):NegOk neg M q':=fun a ha=>by
 obtain⟨b,hb,e⟩:=hs a ha;rw[e];exact h b hb
theorem NegOk.put {neg:Int->Ca->Prop}{M:MM}{q:Qry}(h:NegOk neg M q)(v n:Int):NegOk neg M (Cu v n q):=h.sub fun a ha=>by
 obtain⟨b,hb,rfl⟩:=Acm.1 ha;exact⟨b,hb,rfl⟩
theorem NegOk.near {neg:Int->Ca->Prop}{M:MM}{q:Qry}(h:NegOk neg M q)(rs:List Int):NegOk neg M (Bb q rs):=h.sub fun a ha=>⟨a,(Adi.1 ha).1,rfl⟩
theorem NegOk.far {neg:Int->Ca->Prop}{M:MM}{q:Qry}(h:NegOk neg M q)(rs:List Int):NegOk neg M (Gt q rs):=h.sub fun a ha=>⟨a,(Adi.1 ha).1,rfl⟩
theorem qC {a:C3}(h:H1 a.ts=false):∃v,Bc a.ts v=true:=by
 unfold H1 at h;rw[Ade]at h;obtain⟨⟨b,w⟩,h1,h2⟩:=h;cases b with
 |false=>simp at h2
 |true=>exact⟨w,hasV_iff.2 h1⟩
def Qx (neg:Int->Ca->Prop)(om ot:Nat)(M:MM)(d b:Int)(V:List Int):Prop:=∀(q:Qry) (c:List AV),EQ q c->Pi q->NegOk neg M q->QV q->q.head.ts=[]->(∀v,inQ q v->v∈V)->∀I,MOb I om ot M d b->ACalls Tryz.prog 187 [ptr om 0,ag c] I fun r I'=>(∃b,r=sc (.bool b)/\(b=true↔∃ν,J1 neg q ν))/\Keep I I'
theorem Tg (neg:Int->Ca->Prop)(om ot:Nat)(M:MM)(d b:Int)(V:List Int)(hH:Qx neg om ot M d b V)(q:Qry)(c:List AV)(v:Int)(hc:EQ q c)(hA:Pi q)(a4:NegOk neg M q)(hV:QV q)(hh:q.head.ts=[])(az:∀w,inQ q w->w≠v->w∈V)(I:St)(hM:MOb I om ot M d b):ACalls Tryz.prog 223 [ptr om 0,ag c,ic v] I fun r I'=>(∃b,r=sc (.bool b)/\(b=true↔∃n∈Jx q v,∃ν,J1 neg (Cu v n q) ν))/\Keep I I':=by
 have ar:=fun I=>Jl q c v hc hA.ok hA.n I;have a9:=Q7 hA.n v;have ak:=fun n I=>Tb q c v n hc hA.ok I;have HM:Ad8 (MOb I om ot M d b):=hM;clear hM;have a6:∀(n:Int) (c2:List AV),EQ (Cu v n q) c2->∀I1,Keep I I1->ACalls Tryz.prog 187 [ptr om 0,ag c2] I1 fun r I'=>(∃b,r=sc (.bool b)/\(b=true↔∃ν,J1 neg (Cu v n q) ν))/\Keep I1 I':=fun n c2 h2 I1 ax=>
  hH _ c2 h2 (bB hA) (a4.put v n) (fun a ha w hw=>by
   obtain⟨⟨b,hb,a0⟩,-⟩:=Qs (q:=q) (v:=v) (n:=n) (w:=w) ⟨a,ha,hasV_iff.2 hw⟩;exact hV b hb w (hasV_iff.1 a0)) (by simp[Cu,Ey,Bh,hh]) (fun w hw=>by
   obtain⟨h1,h2⟩:=Qs hw
   exact az w h1 h2) I1 (HM.out.keep ax)
 clear hh;obtain⟨ih,ip,inn,pc,nc,rfl,-,-⟩:=hc;generalize Jx q v=vs at*
 have ba:=Bn vs;refine Z9 26 [.tmp 6] Tryz.func223 ?_
 repeat' (first|refine Z1 ?_|(refine Z8 ?_;intro κ hκ)|(refine Z4 ?_;clear hκ κ)|(refine Z2 ?_ ?_<;>intro h ae<;>try exact Xp)|(refine Z5 ?_;refine Xi (ar _) ?_;rintro _ _ ⟨⟨idv,rfl⟩,ah⟩;(have ad:=ah.nobj;have ab:=ah.obj;have af:=((Keep.refl I).new _).trans ah;simp only[Aa]at ad ab))|refine Z3 ?_|exact⟨⟩|(apply hκ.out;clear hκ κ))
 rename_i I1;have o0:I1.obj I.nobj=[ic q.head.p,sl ih q.head.ts.length (Ac q.head.ts),sl ip q.parts.length pc,sl inn q.nots.length nc]:=by rw[ab _ Ad2,Am]
 clear ab ah ar
 refine Ad (fun m s I'=>∃j:Nat,m=vs.length-j/\j<=vs.length/\s 0=ptr om 0/\s 2=ic v/\s 4=ptr I.nobj 0/\s 12=sl idv vs.length (Ar vs)/\s 13=ic vs.length/\s 14=ic j/\Keep I I'/\I.nobj<I'.nobj/\I'.obj I.nobj=[ic q.head.p,sl ih q.head.ts.length (Ac q.head.ts),sl ip q.parts.length pc,sl inn q.nots.length nc]/\Ad8 (∀n∈vs.take j,¬ ∃ν,J1 neg (Cu v n q) ν)) vs.length
  ⟨0,Ad2,Ad2,by simp[upd,initS],by simp[upd,initS],Ad4,Ad4,Ad4,rfl,af,Ad2,o0,by simp[Ad8]⟩ ?_
 clear af o0 ad;rintro m s I' ⟨j,rfl,hj,h0,h2,h4,bg,bf,be,hK,bc,ob,hN⟩;have a8:=hK.nobj;by_cases ao:j<vs.length
 ·have aa:=List.getElem?_eq_getElem ao;obtain⟨r,hd⟩:=C8 aa;have ac:=Acz ao;generalize vs[j]=n at hd aa ac;have HG:Ad8 (n∈vs/\vs[j]?=some n):=⟨ac,aa⟩;clear aa ac;have ak:=ak n
  repeat' (first|refine Z1 ?_|(refine Z8 ?_;intro κ hκ)|(refine Z4 ?_;clear hκ κ)|(refine Z2 ?_ ?_<;>intro h ae<;>try exact Xp)|(refine Z5 ?_;first|(refine Xi (ak _) ?_;rintro _ _ ⟨⟨_,rfl,ih2,ip2,in2,pc2,nc2,rfl,a3,a5⟩,an⟩;(have aw:=an.nobj;have av:=an.obj;have af:=hK.trans an;have a7:=a6 n _ ⟨ih2,ip2,in2,pc2,nc2,rfl,a3,a5⟩))|(refine Xi (a7 _ ((af.new _).put Ad2 _)) ?_;rintro _ _ ⟨⟨bb,rfl,ap⟩,am⟩;(have aj:=am.nobj;have ai:=am.obj;have bd:=((af.new _).put Ad2 _).trans am;have au:Ad8 _:=ap;clear ap;simp only[Ab,Aa]at aj ai)))|refine Z3 ?_|exact⟨⟩|(apply hκ.out;clear hκ κ))
  ·exact⟨_,rfl,⟨true,rfl,fun _=>⟨n,HG.out.1,au.out.1 (by assumption)⟩,fun _=>rfl⟩⟩
  ·have HN:Ad8 (∀n∈vs.take (j+1),¬ ∃ν,J1 neg (Cu v n q) ν):=by
    rw[Ad8,Abq,HG.out.2,Ac2];intro u hu;rcases Ack.1 hu with h'|h'
    ·exact hN.out u h'
    ·simp at h';subst h';intro hex;have:=au.out.2 hex;rw[this]at h;cases h
   refine⟨vs.length-(j+1),Ad2,j+1,?_⟩
   ((repeat' with_reducible refine And.intro ?_ ?_)<;>first|exact Xq|exact (HN)|exact Xs)
 ·have ay:j=vs.length:=Ad2;subst ay;rw[Abn]at hN
  repeat' (first|refine Z1 ?_|(refine Z8 ?_;intro κ hκ)|(refine Z4 ?_;clear hκ κ)|(refine Z2 ?_ ?_<;>intro h ae<;>try exact Xp)|refine Z3 ?_|exact⟨⟩|(apply hκ.out;clear hκ κ))
  first|exact⟨_,rfl,⟨false,rfl,(fun h=>by cases h),fun⟨n,h1,h2⟩=>absurd h2 (hN.out n h1)⟩,hK⟩|exact⟨_,rfl,⟨false,rfl,(fun h=>by cases h),fun⟨n,h1,h2⟩=>absurd h2 (hN.out n h1)⟩⟩
theorem Ns {q:Qry}{rs:List Int}{v:Int}(h:inQ (Bb q rs) v):inQ q v:=by
 obtain⟨a,ha,hv⟩:=h;refine⟨a,?_,hv⟩;unfold atomsQ Bb at ha;unfold atomsQ;simp only[Ace,Ack,Acm]at ha⊢;rcases ha with h|⟨p,hp,h⟩|h
 ·exact .inl h
 ·exact .inr (.inl ⟨p,(Adi.1 hp).1,h⟩)
 ·exact .inr (.inr (Adi.1 h).1)
theorem kS {q:Qry}{rs:List Int}{v:Int}(h:inQ (Gt q rs) v):inQ q v/\v∉rs:=by
 obtain⟨a,ha,hv⟩:=h;unfold atomsQ Gt at ha;simp only[Ace,Ack,Acm]at ha
 have key:∀b:C3,b∈atomsQ q->(!H2 rs b)=true->Bc b.ts v=true->inQ q v/\v∉rs:=fun b hb aa ab=>⟨⟨b,hb,ab⟩,fun hm=>by
  have:H2 rs b=true:=Acb.2 ⟨v,hm,ab⟩;rw[this]at aa
  cases aa⟩
 rcases ha with rfl|⟨p,hp,rfl⟩|h
 ·simp[Bc]at hv
 ·exact key p.a (Jd (Adi.1 hp).1) (Adi.1 hp).2 hv
 ·exact key a (by unfold atomsQ;simp[(Adi.1 h).1]) (Adi.1 h).2 hv
theorem Pz (neg:Int->Ca->Prop)(om ot:Nat)(M:MM)(d bg:Int)(V:List Int)(IH:∀V':List Int,V'.length<V.length->Qx neg om ot M d bg V'):Qx neg om ot M d bg V:=by
 intro q c hc hA bn hV hh b1 I hM;have bl:=fun I1 hk=>Wo neg q c om ot M d bg hc hA bn I1 (MOb.keep hM (show Keep I I1 from hk));have HM:Ad8 (MOb I om ot M d bg):=hM;clear hM;obtain⟨ih,ip,inn,pc,nc,rfl,-,-⟩:=hc;have HH:Ad8 (q.head.ts=[]):=hh;clear hh;refine Z9 36 [.tmp 4] Tryz.func187 ?_
 repeat' (first|refine Z1 ?_|(refine Z8 ?_;intro κ hκ)|(refine Z4 ?_;clear hκ κ)|(refine Z2 ?_ ?_<;>intro h ae<;>try exact Xp)|(refine Z5 ?_;refine Xi (bl _ ((Keep.refl _).new _)) ?_;rintro _ _ ⟨⟨c',(⟨rfl,cn,co,a8⟩|⟨q',rfl,⟨ih2,ip2,in2,pc2,nc2,rfl,bm,bo⟩,aa,a5,af,aj⟩)⟩,ah⟩)|refine Z3 ?_|exact⟨⟩|(apply hκ.out;clear hκ κ))
 ·rename_i I1;have ab:=ah.nobj;have o0:=ah.obj I.nobj Ad6;rw[Am]at o0;simp only[Aa]at ab;have am:=(((Keep.refl I).new _).trans ah);have ci:Ad8 (∀ν,¬J1 neg q ν):=a8;clear a8
  repeat' (first|refine Z1 ?_|(refine Z8 ?_;intro κ hκ)|(refine Z4 ?_;clear hκ κ)|(refine Z2 ?_ ?_<;>intro h ae<;>try exact Xp)|refine Z3 ?_|exact⟨⟩|(apply hκ.out;clear hκ κ))
  exact⟨_,rfl,⟨false,rfl,(fun h=>by cases h),fun⟨ν,hν⟩=>absurd hν (ci.out ν)⟩,am.put Ad2 _⟩
 ·have ab:=ah.nobj;have av:=ah.obj;simp only[Aa]at ab av;have cb:=((Keep.refl I).new _).trans ah;have ba:q'.head.ts=[]:=by rw[af.hd];exact HH.out
  have ak:NegOk neg M q':=bn.sub fun a ha=>⟨a,(aj a ha).1,rfl⟩;have ap:QV q':=fun a ha v hv=>hV a (af.at_ a ha) v hv;have ac:∀v,inQ q' v->v∈V:=fun v hv=>b1 v (hv.sub af.at_);have bv:=fun I=>Yo q' _ ⟨ih2,ip2,in2,pc2,nc2,rfl,bm,bo⟩ aa.ok aa.n ap I;have bw:Ad8 _:=ba;clear ba
  repeat' (first|refine Z1 ?_|(refine Z8 ?_;intro κ hκ)|(refine Z4 ?_;clear hκ κ)|(refine Z2 ?_ ?_<;>intro h ae<;>try exact Xp)|(refine Z5 ?_;refine Xi (bv _) ?_;rintro _ _ ⟨⟨b,rfl,hb⟩,am⟩;(have HB:Ad8 _:=hb;clear hb;have ay:=am.nobj;have au:=am.obj;have bq:=(cb.put Ad2 _).trans am))|refine Z3 ?_|exact⟨⟩|(apply hκ.out;clear hκ κ))
  ·have bc:b= -1:=by simpa using h
   have a9:∀v∈Cb (atomsQ q'),Cx q' v=false:=by
    rcases HB.out with⟨-,h2⟩|⟨h1,-⟩
    ·exact h2
    ·obtain⟨a,ha,hv⟩:=(Cv _ _).1 h1;have:=ap a ha b hv;omega
   have b2:∀v,C0 (q'.parts.map (·.a)) v<=1:=fun v=>by
    have cm:C0 (q'.parts.map (·.a)) v<=C0 (atomsQ q') v:=by
     unfold atomsQ;rw[F7,Eg];omega
    by_cases hm:v∈Cb (atomsQ q')
    ·have:=a9 v hm;unfold Cx at this;rw[decide_eq_false_iff_not]at this;omega
    ·have:C0 (atomsQ q') v=0:=by
      rcases Nat.eq_zero_or_pos (C0 (atomsQ q') v)with h0|h0
      ·exact h0
      ·obtain⟨a,ha,b4⟩:=List.countP_pos_iff.1 h0;exact absurd ((Cv _ _).2 ⟨a,ha,hasV_iff.1 b4⟩) hm
     omega
   obtain⟨ν,hν⟩:=cH (l:=q'.parts) (fun p hp=>⟨a5 p hp,(aa.w p hp).2⟩) b2
   have hS:J1 neg q' ν:=⟨hν,fun a ha=>by
    exfalso;obtain⟨v,hv⟩:=qC (aj a ha).2;obtain⟨p,hp,ai⟩:=aa.wf v (.inr ⟨a,ha,hv⟩);have h1:0<C0 (q'.parts.map (·.a)) v:=Ku (Acm.2 ⟨p,hp,rfl⟩) ai;have h2:=Ku ha hv;have h3:C0 (atomsQ q') v=C0 (q'.parts.map (·.a)) v+C0 q'.nots v+if Bc q'.head.ts v=true then 1 else 0:=by
     unfold atomsQ;rw[F7,Eg]
    have hm:v∈Cb (atomsQ q'):=(Cv _ _).2 ⟨p.a,Jd hp,hasV_iff.1 ai⟩;have:=a9 v hm;unfold Cx at this;rw[decide_eq_false_iff_not]at this
    omega⟩
   obtain⟨ν',hν',-⟩:=af.back ν hS
   first|exact⟨_,rfl,⟨true,rfl,fun _=>⟨ν',hν'⟩,fun _=>rfl⟩,bq⟩|exact⟨_,rfl,⟨true,rfl,fun _=>⟨ν',hν'⟩,fun _=>rfl⟩⟩
  ·have bc:b≠ -1:=by simpa using h
   have b3:b∈Cb (atomsQ q'):=by
    rcases HB.out with⟨h1,-⟩|⟨h1,-⟩
    ·exact absurd h1 bc
    ·exact h1
   have bd:inQ q' b:=by
    obtain⟨a,ha,hv⟩:=(Cv _ _).1 b3;exact⟨a,ha,hasV_iff.2 hv⟩
   have a3:=ac b bd;have bh:(V.erase b).length<V.length:=by
    rw[List.length_erase_of_mem a3];have:=List.length_pos_of_mem a3;omega
   have IHb:=IH (V.erase b) bh;have bi:=fun (id:Nat) I=>Px q' _ [b] id ⟨ih2,ip2,in2,pc2,nc2,rfl,bm,bo⟩ aa.ok (by simp) I;simp only[Aca,Ab9,Ar,Abx,Aby,Ab1]at bi;have cj:Ad8 (∀(rs:List Int) (c3:List AV),El (atomsQ q') rs rs->EQ (Bb q' rs) c3->∀I1,Keep I I1->ACalls Tryz.prog 223 [ptr om 0,ag c3,ic b] I1 fun r I'=>(∃bb,r=sc (.bool bb)/\(bb=true↔∃n∈Jx (Bb q' rs) b,∃ν,J1 neg (Cu b n (Bb q' rs)) ν))/\Keep I1 I'):=fun rs c3 a7 ch I1 a0=>
    Tg neg om ot M d bg (V.erase b) IHb (Bb q' rs) c3 b ch (Kc aa aa.ok.hd Ads Ads (Y5 aa.wf a7 (fun v hv=>by rw[bw.out]at hv;simp[Bc]at hv))) (ak.near rs)
     (fun a ha w hw=>by
      obtain⟨a',a4,az⟩:=Ns (rs:=rs) ⟨a,ha,hasV_iff.2 hw⟩
      exact ap a' a4 w (hasV_iff.1 az)) bw.out (fun w hw hne=>(List.mem_erase_of_ne hne).2 (ac w (Ns hw))) I1 (HM.out.keep a0)
   have ck:Ad8 (∀(rs:List Int) (c4:List AV),b∈rs->El (atomsQ q') rs rs->EQ (Gt q' rs) c4->∀I1,Keep I I1->ACalls Tryz.prog 187 [ptr om 0,ag c4] I1 fun r I'=>(∃bb,r=sc (.bool bb)/\(bb=true↔∃ν,J1 neg (Gt q' rs) ν))/\Keep I1 I'):=fun rs c4 ao a7 cg I1 a0=>
    IHb (Gt q' rs) c4 cg (Kc aa (by simp[Gt]) Ads Ads (uF aa.wf a7)) (ak.far rs)
     (fun a ha w hw=>by
      obtain⟨⟨a',a4,az⟩,-⟩:=kS (rs:=rs) ⟨a,ha,hasV_iff.2 hw⟩;exact ap a' a4 w (hasV_iff.1 az)) rfl (fun w hw=>by
      obtain⟨h1,h2⟩:=kS hw
      exact (List.mem_erase_of_ne (fun e=>h2 (by rw[e];exact ao))).2 (ac w h1)) I1 (HM.out.keep a0)
   clear IHb IH bl bv a3 bh;have o3:=au I.nobj (by simp only[Ab];omega);rw[Aj]at o3;simp only[Ab]at ay
   repeat' (first|refine Z1 ?_|(refine Z8 ?_;intro κ hκ)|(refine Z4 ?_;clear hκ κ)|(refine Z2 ?_ ?_<;>intro h ae<;>try exact Xp)|(refine Z5 ?_;first|(refine Xi (bi _ _) ?_;rintro _ _ ⟨⟨_,_,rs,rfl,⟨ih3,ip3,in3,pc3,nc3,rfl,b8,ca⟩,⟨ih4,ip4,in4,pc4,nc4,rfl,b6,b9⟩,hG,hC⟩,bu⟩;(have ao:b∈rs:=(by obtain⟨ad,e,-,-⟩:=hG;rw[e];simp);have ce:=cj.out rs _ hC ⟨ih3,ip3,in3,pc3,nc3,rfl,b8,ca⟩;have cf:=ck.out rs _ ao hC ⟨ih4,ip4,in4,pc4,nc4,rfl,b6,b9⟩;have HC:Ad8 _:=hC;clear hC hG;have ax:=bu.nobj;simp only[Ah]at ax;have bp:=(bq.lay 1).trans bu))|(refine Xi (ce _ ((((bp.new _).new _).put Ad2 _).put Ad2 _)) ?_;rintro _ _ ⟨⟨b5,rfl,bf⟩,a6⟩;(have b0:Ad8 _:=bf;clear bf;have aw:=a6.nobj;have ar:=a6.obj;simp only[Ab,Aa]at aw ar;have br:=((((bp.new _).new _).put Ad2 _).put Ad2 _).trans a6))|(refine Xi (cf _ br) ?_;rintro _ _ ⟨⟨b7,rfl,be⟩,cd⟩;(have bz:Ad8 _:=be;clear be;have cp:=br.trans cd)))|refine Z3 ?_|exact⟨⟩|(apply hκ.out;clear hκ κ))
   ·refine⟨_,rfl,false,rfl,(fun h=>by cases h),fun⟨ν,hν⟩=>?_⟩;have h1:=af.to ν hν;have h2:=aO (rs:=rs) h1;have an:WP (Bb q' rs):=fun p hp=>aa.w p (Adi.1 hp).1;obtain⟨p,hp,ai⟩:=S7 aa.wf bd;have h3:=iU (v:=b) an h2 ⟨p,Adi.2 ⟨hp,Acb.2 ⟨b,ao,ai⟩⟩,ai⟩
    have h4:J1 neg (Cu b (ν b) (Bb q' rs)) ν:=(Qi an).2 (by
     have:Lm ν b (ν b)=ν:=by
      funext w;unfold Lm;split
      ·rename_i e;rw[e]
      ·rfl
     rw[this];exact h2)
    have:=b0.out.2 ⟨ν b,h3,ν,h4⟩;rw[this]at h;cases h
   ·refine⟨_,rfl,b7,rfl,fun h7=>?_,fun⟨ν,hν⟩=>bz.out.2 ⟨ν,jW (af.to ν hν)⟩⟩;obtain⟨n,-,ν1,hν1⟩:=b0.out.1 h;obtain⟨ν2,hν2⟩:=bz.out.1 h7;have an:WP (Bb q' rs):=fun p hp=>aa.w p (Adi.1 hp).1;obtain⟨ν',hν',-⟩:=af.back _ (V0 HC.out ((Qi an).1 hν1) hν2);exact⟨ν',hν'⟩
theorem P0 (neg:Int->Ca->Prop)(om ot:Nat)(M:MM)(d b:Int):∀(k:Nat) (V:List Int),V.length<=k->Qx neg om ot M d b V:=by
 intro k;induction k with
 |zero=>exact fun V hV=>Pz neg om ot M d b V (fun V' h=>Ad2)
 |succ k IH=>exact fun V hV=>Pz neg om ot M d b V (fun V' h=>IH V' Ad2)
end Go.Proofs.YtmoeoppbmhfbpabGreatDoorH
