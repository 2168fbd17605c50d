import Derived.Test.YtmoeoppbmhfbpabGreatDoorIAbsG
set_option maxHeartbeats 32000000
set_option maxRecDepth 100000
set_option linter.all false
open List renaming length->Z
namespace Go.Proofs.YtmoeoppbmhfbpabGreatDoorI
open Go.Abs
theorem Nf (v n p):Z (I6 v n p).a.ts=Z p.a.ts/\Z (I6 v n p).A<=Z p.A/\∀t∈(I6 v n p).A,t∈p.A:=by
 unfold I6;split
 ·exact⟨by simp[Br],KE _ _,fun t ht=>(BV.1 ht).1⟩
 ·exact⟨rfl,AR _,fun t ht=>ht⟩
theorem GE {v n p w}:Bj (I6 v n p).a.ts w=true↔Bj p.a.ts w=true/\w≠v:=by
 unfold I6;by_cases h:Bj p.a.ts v=true
 ·rw[if_pos h];exact CS (a:=p.a)
 ·rw[if_neg h];exact⟨fun hw=>⟨hw,fun e=>h (e ▸ hw)⟩,fun hw=>hw.1⟩
theorem U1 {q v n w}(h:FG (Di v n q) w):FG q w/\w≠v:=by
 obtain⟨a,ha,hw⟩:=h;unfold atomsQ Di at ha;simp only[BB,AW,AO]at ha;rcases ha with rfl|⟨p',⟨p,hp,rfl⟩,rfl⟩|⟨b,hb,rfl⟩
 ·have:=CS.1 hw;exact⟨⟨q.h,by simp[atomsQ],this.1⟩,this.2⟩
 ·have:=GE.1 hw;exact⟨⟨p.a,Ln hp,this.1⟩,this.2⟩
 ·have:=CS.1 hw;exact⟨⟨b,by simp[atomsQ,hb],this.1⟩,this.2⟩
theorem lP {q v n}(h:To q):To (Di v n q):=by
 have hm:∀p∈(Di v n q).A,∃p0∈q.A,I6 v n p0=p:=fun p hp=>AO.1 hp;have ab:∀a∈(Di v n q).B,∃a0∈q.B,Gp v n a0=a:=fun a ha=>AO.1 ha;refine⟨⟨by simp[Di,Gp,Br];exact h.ok.hd,by simp[Di];exact h.ok.pl,by simp[Di];exact h.ok.nl,fun p hp=>?_,fun p hp=>?_,fun p hp=>?_,?_⟩,fun p hp t ht=>?_,ZD h.w,fun w hw=>?_⟩
 ·obtain⟨p0,h0,rfl⟩:=hm p hp;rw[(Nf v n p0).1];exact h.ok.pa p0 h0
 ·obtain⟨p0,h0,rfl⟩:=hm p hp;exact BO (Nf v n p0).2.1 (h.ok.pt p0 h0)
 ·obtain⟨p0,h0,rfl⟩:=hm p hp;exact fun t ht=>h.ok.p3 p0 h0 t ((Nf v n p0).2.2 t ht)
 ·intro a ha;obtain⟨a0,h0,rfl⟩:=ab a ha;simp[Gp,Br];exact h.ok.na a0 h0
 ·obtain⟨p0,h0,rfl⟩:=hm p hp;rw[(Nf v n p0).1];exact h.n p0 h0 t ((Nf v n p0).2.2 t ht)
 ·have aa:(Bj q.h.ts w=true\/∃a∈q.B,Bj a.ts w=true)/\w≠v:=by
   rcases hw with hw|⟨a,ha,hw⟩
   ·have:=CS.1 hw;exact⟨.inl this.1,this.2⟩
   ·obtain⟨a0,h0,rfl⟩:=ab a ha;have:=CS.1 hw;exact⟨.inr ⟨a0,h0,this.1⟩,this.2⟩
  obtain⟨p,hp,ac⟩:=h.wf w aa.1;exact⟨I6 v n p,AO.2 ⟨p,hp,rfl⟩,GE.2 ⟨ac,aa.2⟩⟩
theorem Na {q q'}(h:To q)(hh:Z q'.h.ts<=3)(hp:q'.A.Sublist q.A)(hn:q'.B.Sublist q.B)(hw:oX q'):To q':=
 ⟨⟨hh,BO hp.length_le h.ok.pl,BO hn.length_le h.ok.nl,fun p aa=>h.ok.pa p (hp.subset aa),fun p aa=>h.ok.pt p (hp.subset aa),fun p aa=>h.ok.p3 p (hp.subset aa),fun a ha=>h.ok.na a (hn.subset ha)⟩,
  fun p aa=>h.n p (hp.subset aa),fun p aa=>h.w p (hp.subset aa),hw⟩
theorem Yd {q}(hw:oX q){v}(h:FG q v):∃p∈q.A,Bj p.a.ts v=true:=by
 obtain⟨a,ha,hv⟩:=h;unfold atomsQ at ha;simp only[BB,AW,AO]at ha;rcases ha with rfl|⟨p,hp,rfl⟩|ha
 ·exact hw v (.inl hv)
 ·exact⟨p,hp,hv⟩
 ·exact hw v (.inr ⟨a,ha,hv⟩)
theorem iR {q rs}(hw:oX q)(hC:F6 (atomsQ q) rs rs)(hh:∀v,Bj q.h.ts v=true->v∈rs):oX (Bc q rs):=fun v hv=>by
 have hr:v∈rs/\∃p∈q.A,Bj p.a.ts v=true:=by
  rcases hv with h|⟨a,ha,h⟩
  ·exact⟨hh v h,hw v (.inl h)⟩
  ·obtain⟨h1,h2⟩:=BV.1 ha;exact⟨hC a (by unfold atomsQ;simp[h1]) h2 v (AL.1 h),hw v (.inr ⟨a,h1,h⟩)⟩
 obtain⟨h1,p,hp,aa⟩:=hr;exact⟨p,BV.2 ⟨hp,CW.2 ⟨v,h1,aa⟩⟩,aa⟩
theorem jw {q rs}(hw:oX q)(hC:F6 (atomsQ q) rs rs):oX (Is q rs):=fun v hv=>by
 rcases hv with h|⟨a,ha,h⟩
 ·simp[Is,Bj]at h
 ·obtain⟨h1,h2⟩:=BV.1 ha;obtain⟨p,hp,aa⟩:=hw v (.inr ⟨a,h1,h⟩);refine⟨p,BV.2 ⟨hp,?_⟩,aa⟩;cases hb:J2 rs p.a with
  |false=>rfl
  |true=>
   have:=hC p.a (Ln hp) hb v (AL.1 aa);have:J2 rs a=true:=CW.2 ⟨v,this,h⟩;rw[this]at h2;cases h2
theorem BN.sub {neg M q q'}(h:BN neg M q)(hs:∀a∈q'.B,∃b∈q.B,a.p=b.p):BN neg M q':=fun a ha=>by
 obtain⟨b,hb,e⟩:=hs a ha;rw[e];exact h b hb
theorem BN.put {neg M q}(h:BN neg M q)(v n):BN neg M (Di v n q):=h.sub fun a ha=>by
 obtain⟨b,hb,rfl⟩:=AO.1 ha;exact⟨b,hb,rfl⟩
theorem BN.near {neg M q}(h:BN neg M q)(rs):BN neg M (Bc q rs):=h.sub fun a ha=>⟨a,(BV.1 ha).1,rfl⟩
theorem BN.far {neg M q}(h:BN neg M q)(rs):BN neg M (Is q rs):=h.sub fun a ha=>⟨a,(BV.1 ha).1,rfl⟩
theorem XB {a:Dv}(h:I5 a.ts=false):∃v,Bj a.ts v=true:=by
 unfold I5 at h;rw[LH]at h;obtain⟨⟨b,w⟩,h1,h2⟩:=h;cases b with
 |false=>simp at h2
 |true=>exact⟨w,AL.2 h1⟩
def U4 (neg:Int->Cc->Prop)(om ot:Nat)(M:MM)(d b:Int)(V:List Int):Prop:=∀(q:AY) (c:List AV),EQ q c->To q->BN neg M q->QV q->q.h.ts=[]->(∀v,FG q v->v∈V)->∀z,BL z om ot M d b->AF Tryz.prog 187 [ptr om 0,ag c] z fun r z'=>(∃b,r=sc (.bool b)/\(b=true↔∃ν,Mn neg q ν))/\AE z z'
theorem Yq (neg om ot M d b V)(hH:U4 neg om ot M d b V)(q c v)(hc:EQ q c)(hA:To q)(a5:BN neg M q)(hV:QV q)(hh:q.h.ts=[])(a0:∀w,FG q w->w≠v->w∈V)(z)(hM:BL z om ot M d b):AF Tryz.prog 223 [ptr om 0,ag c,ic v] z fun r z'=>(∃b,r=sc (.bool b)/\(b=true↔∃n∈Mf q v,∃ν,Mn neg (Di v n q) ν))/\AE z z':=by
 have au:=fun z=>Lw q c v hc hA.ok hA.n z;have ba:=Vf hA.n v;have ak:=fun n z=>Yl q c v n hc hA.ok z;have HM:AD (BL z om ot M d b):=hM;clear hM;have a7:∀(n:Int) (c2:List AV),EQ (Di v n q) c2->∀z1,AE z z1->AF Tryz.prog 187 [ptr om 0,ag c2] z1 fun r z'=>(∃b,r=sc (.bool b)/\(b=true↔∃ν,Mn neg (Di v n q) ν))/\AE z1 z':=fun n c2 h2 z1 ay=>
  hH _ c2 h2 (lP hA) (a5.put v n) (fun a ha w hw=>by
   obtain⟨⟨b,hb,a3⟩,-⟩:=U1 (q:=q) (v:=v) (n:=n) (w:=w) ⟨a,ha,AL.2 hw⟩;exact hV b hb w (AL.1 a3)) (by simp[Di,Gp,Br,hh]) (fun w hw=>by
   obtain⟨h1,h2⟩:=U1 hw
   exact a0 w h1 h2) z1 (HM.o.keep ay)
 clear hh;obtain⟨ih,ip,inn,pc,nc,rfl,-,-⟩:=hc;generalize Mf q v=vs at*
 have bc:=B9 vs;refine Z9 26 [.tmp 6] Tryz.func223 ?_
 refine qb ?_;intro yd yb;refine Xi (au _) ?_;rintro _ _ ⟨⟨idv,rfl⟩,af⟩;(have ad:=af.B;have ab:=af.C;have ae:=((AE.refl z).new _).trans af;simp only[Aa]at ad ab);refine pz ?_
 rename_i z1;have o0:z1.C z.B=[ic q.h.p,sl ih (Z q.h.ts) (Ad q.h.ts),sl ip (Z q.A) pc,sl inn (Z q.B) nc]:=by rw[ab _ AA,Ao]
 clear ab af au
 refine Ae (fun m s z'=>∃j:Nat,m=Z vs-j/\j<=Z vs/\s 0=ptr om 0/\s 2=ic v/\s 4=ptr z.B 0/\s 12=sl idv (Z vs) (As vs)/\s 13=ic (Z vs)/\s 14=ic j/\AE z z'/\z.B<z'.B/\z'.C z.B=[ic q.h.p,sl ih (Z q.h.ts) (Ad q.h.ts),sl ip (Z q.A) pc,sl inn (Z q.B) nc]/\AD (∀n∈vs.take j,¬ ∃ν,Mn neg (Di v n q) ν)) (Z vs)
  ⟨0,AA,AA,by simp[upd,AM],by simp[upd,AM],AG,AG,AG,rfl,ae,AA,o0,by simp[AD]⟩ ?_
 clear ae o0 ad;rintro m s z' ⟨j,rfl,hj,h0,h2,h4,bh,bg,bf,hK,bd,ob,hN⟩;have a9:=hK.B;by_cases ao:j<Z vs
 ·have aa:=AJ ao;obtain⟨r,hd⟩:=Dz aa;have ac:=AT ao;generalize vs[j]=n at hd aa ac;have HG:AD (n∈vs/\vs[j]?=some n):=⟨ac,aa⟩;clear aa ac;have ak:=ak n
  (repeat (refine qb ?_;intro yd yb;(first|(refine Xi (ak _) ?_;rintro _ _ ⟨⟨_,rfl,ih2,ip2,in2,pc2,nc2,rfl,a4,a6⟩,an⟩;(have ax:=an.B;have aw:=an.C;have ae:=hK.trans an;have a8:=a7 n _ ⟨ih2,ip2,in2,pc2,nc2,rfl,a4,a6⟩))|(refine Xi (a8 _ ((ae.new _).put AA _)) ?_;rintro _ _ ⟨⟨bb,rfl,ap⟩,am⟩;(have ai:=am.B;have ah:=am.C;have be:=((ae.new _).put AA _).trans am;have av:AD _:=ap;clear ap;simp only[Ab,Aa]at ai ah)))));refine qe ?_ ?_<;>intro h aj
  ·exact⟨_,rfl,⟨true,rfl,fun _=>⟨n,HG.o.1,av.o.1 (by assumption)⟩,fun _=>rfl⟩⟩
  ·have HN:AD (∀n∈vs.take (j+1),¬ ∃ν,Mn neg (Di v n q) ν):=by
    rw[AD,AU,HG.o.2,BJ];intro u hu;rcases AW.1 hu with h'|h'
    ·exact hN.o u h'
    ·simp at h';subst h';intro hex;have:=av.o.2 hex;rw[this]at h;cases h
   refine⟨Z vs-(j+1),AA,j+1,?_⟩
   exact qh HN
 ·have az:j=Z vs:=AA;subst az;rw[AS]at hN
  refine pz ?_
  first|exact⟨_,rfl,⟨false,rfl,(fun h=>by cases h),fun⟨n,h1,h2⟩=>absurd h2 (hN.o n h1)⟩,hK⟩|exact⟨_,rfl,⟨false,rfl,(fun h=>by cases h),fun⟨n,h1,h2⟩=>absurd h2 (hN.o n h1)⟩⟩
theorem Rn {q rs v}(h:FG (Bc q rs) v):FG q v:=by
 obtain⟨a,ha,hv⟩:=h;refine⟨a,?_,hv⟩;unfold atomsQ Bc at ha;unfold atomsQ;simp only[BB,AW,AO]at ha⊢;rcases ha with h|⟨p,hp,h⟩|h
 ·exact .inl h
 ·exact .inr (.inl ⟨p,(BV.1 hp).1,h⟩)
 ·exact .inr (.inr (BV.1 h).1)
theorem wG {q rs v}(h:FG (Is q rs) v):FG q v/\v∉rs:=by
 obtain⟨a,ha,hv⟩:=h;unfold atomsQ Is at ha;simp only[BB,AW,AO]at ha
 have key:∀b:Dv,b∈atomsQ q->(!J2 rs b)=true->Bj b.ts v=true->FG q v/\v∉rs:=fun b hb aa ab=>⟨⟨b,hb,ab⟩,fun hm=>by
  have:J2 rs b=true:=CW.2 ⟨v,hm,ab⟩;rw[this]at aa
  cases aa⟩
 rcases ha with rfl|⟨p,hp,rfl⟩|h
 ·simp[Bj]at hv
 ·exact key p.a (Ln (BV.1 hp).1) (BV.1 hp).2 hv
 ·exact key a (by unfold atomsQ;simp[(BV.1 h).1]) (BV.1 h).2 hv
theorem T8 (neg om ot M d bg V)(IH:∀V':List Int,Z V'<Z V->U4 neg om ot M d bg V'):U4 neg om ot M d bg V:=by
 intro q c hc hA bn hV hh b2 z hM;have bl:=fun z1 hk=>dY neg q c om ot M d bg hc hA bn z1 (BL.keep hM (show AE z z1 from hk));have HM:AD (BL z om ot M d bg):=hM;clear hM;obtain⟨ih,ip,inn,pc,nc,rfl,-,-⟩:=hc;have HH:AD (q.h.ts=[]):=hh;clear hh;refine Z9 36 [.tmp 4] Tryz.func187 ?_
 repeat' first|refine Z1 ?_|refine Z8 fun yd yb=>?_|refine Z4 ?_;clear yb yd|(refine Z5 ?_;refine Xi (bl _ ((AE.refl _).new _)) ?_;rintro _ _ ⟨⟨c',(⟨rfl,cn,co,a8⟩|⟨q',rfl,⟨ih2,ip2,in2,pc2,nc2,rfl,bm,bo⟩,aa,a5,hR2,ah⟩)⟩,ae⟩)|refine Z3 ?_|exact Zt
 ·rename_i z1;have ab:=ae.B;have o0:=ae.C z.B AK;rw[Ao]at o0;simp only[Aa]at ab;have ak:=(((AE.refl z).new _).trans ae);have ci:AD (∀ν,¬Mn neg q ν):=a8;clear a8
  refine pz ?_
  exact⟨_,rfl,⟨false,rfl,(fun h=>by cases h),fun⟨ν,hν⟩=>absurd hν (ci.o ν)⟩,ak.put AA _⟩
 ·have ab:=ae.B;have av:=ae.C;simp only[Aa]at ab av;have cc:=((AE.refl z).new _).trans ae;have ba:q'.h.ts=[]:=by rw[hR2.hd];exact HH.o
  have aj:BN neg M q':=bn.sub fun a ha=>⟨a,(ah a ha).1,rfl⟩;have ao:QV q':=fun a ha v hv=>hV a (hR2.at_ a ha) v hv;have ac:∀v,FG q' v->v∈V:=fun v hv=>b2 v (hv.sub hR2.at_);have bv:=fun z=>gQ q' _ ⟨ih2,ip2,in2,pc2,nc2,rfl,bm,bo⟩ aa.ok aa.n ao z;have bw:AD _:=ba;clear ba
  repeat' first|refine Z1 ?_|refine Z8 fun yd yb=>?_|refine Z4 ?_;clear yb yd|refine Z2 ?_ ?_<;>intro h ai<;>try exact Xp|refine Z5 ?_;refine Xi (bv _) ?_;rintro _ _ ⟨⟨b,rfl,hb⟩,ak⟩;(have HB:AD _:=hb;clear hb;have ay:=ak.B;have au:=ak.C;have bq:=(cc.put AA _).trans ak)|refine Z3 ?_|exact Zt|apply yb.o;clear yb yd
  ·have bc:b= -1:=by simpa using h
   have a9:∀v∈Co (atomsQ q'),Dm q' v=false:=by
    rcases HB.o with⟨-,h2⟩|⟨h1,-⟩
    ·exact h2
    ·obtain⟨a,ha,hv⟩:=(Dk _ _).1 h1;have:=ao a ha b hv;omega
   have b3:∀v,Dn (q'.A.map (·.a)) v<=1:=fun v=>by
    have cm:Dn (q'.A.map (·.a)) v<=Dn (atomsQ q') v:=by
     unfold atomsQ;rw[H0,Fx];omega
    by_cases hm:v∈Co (atomsQ q')
    ·have:=a9 v hm;unfold Dm at this;rw[decide_eq_false_iff_not]at this;omega
    ·have:Dn (atomsQ q') v=0:=by
      rcases Nat.eq_zero_or_pos (Dn (atomsQ q') v)with h0|h0
      ·exact h0
      ·obtain⟨a,ha,b6⟩:=MU.1 h0;exact absurd ((Dk _ _).2 ⟨a,ha,AL.1 b6⟩) hm
     omega
   obtain⟨ν,hν⟩:=mW (l:=q'.A) (fun p hp=>⟨a5 p hp,(aa.w p hp).2⟩) b3
   have hS:Mn neg q' ν:=⟨hν,fun a ha=>by
    exfalso;obtain⟨v,hv⟩:=XB (ah a ha).2;obtain⟨p,hp,af⟩:=aa.wf v (.inr ⟨a,ha,hv⟩);have h1:0<Dn (q'.A.map (·.a)) v:=Nx (AO.2 ⟨p,hp,rfl⟩) af;have h2:=Nx ha hv;have h3:Dn (atomsQ q') v=Dn (q'.A.map (·.a)) v+Dn q'.B v+if Bj q'.h.ts v=true then 1 else 0:=by
     unfold atomsQ;rw[H0,Fx]
    have hm:v∈Co (atomsQ q'):=(Dk _ _).2 ⟨p.a,Ln hp,AL.1 af⟩;have:=a9 v hm;unfold Dm at this;rw[decide_eq_false_iff_not]at this
    omega⟩
   obtain⟨ν',hν',-⟩:=hR2.back ν hS
   first|exact⟨_,rfl,⟨true,rfl,fun _=>⟨ν',hν'⟩,fun _=>rfl⟩,bq⟩|exact⟨_,rfl,⟨true,rfl,fun _=>⟨ν',hν'⟩,fun _=>rfl⟩⟩
  ·have bc:b≠ -1:=by simpa using h
   have b4:b∈Co (atomsQ q'):=by
    rcases HB.o with⟨h1,-⟩|⟨h1,-⟩
    ·exact absurd h1 bc
    ·exact h1
   have bd:FG q' b:=by
    obtain⟨a,ha,hv⟩:=(Dk _ _).1 b4;exact⟨a,ha,AL.2 hv⟩
   have a3:=ac b bd;have bh:Z (V.erase b)<Z V:=by
    rw[List.length_erase_of_mem a3];have:=List.length_pos_of_mem a3;omega
   have IHb:=IH (V.erase b) bh;have bi:=fun (id:Nat) z=>T7 q' _ [b] id ⟨ih2,ip2,in2,pc2,nc2,rfl,bm,bo⟩ aa.ok (by simp) z;simp only[BQ,CP,As,CU,KO,EJ]at bi;have cj:AD (∀(rs:List Int) (c3:List AV),F6 (atomsQ q') rs rs->EQ (Bc q' rs) c3->∀z1,AE z z1->AF Tryz.prog 223 [ptr om 0,ag c3,ic b] z1 fun r z'=>(∃bb,r=sc (.bool bb)/\(bb=true↔∃n∈Mf (Bc q' rs) b,∃ν,Mn neg (Di b n (Bc q' rs)) ν))/\AE z1 z'):=fun rs c3 a7 ch z1 a0=>
    Yq neg om ot M d bg (V.erase b) IHb (Bc q' rs) c3 b ch (Na aa aa.ok.hd MF MF (iR aa.wf a7 (fun v hv=>by rw[bw.o]at hv;simp[Bj]at hv))) (aj.near rs)
     (fun a ha w hw=>by
      obtain⟨a',a4,az⟩:=Rn (rs:=rs) ⟨a,ha,AL.2 hw⟩
      exact ao a' a4 w (AL.1 az)) bw.o (fun w hw b1=>(Ng b1).2 (ac w (Rn hw))) z1 (HM.o.keep a0)
   have ck:AD (∀(rs:List Int) (c4:List AV),b∈rs->F6 (atomsQ q') rs rs->EQ (Is q' rs) c4->∀z1,AE z z1->AF Tryz.prog 187 [ptr om 0,ag c4] z1 fun r z'=>(∃bb,r=sc (.bool bb)/\(bb=true↔∃ν,Mn neg (Is q' rs) ν))/\AE z1 z'):=fun rs c4 an a7 cg z1 a0=>
    IHb (Is q' rs) c4 cg (Na aa (by simp[Is]) MF MF (jw aa.wf a7)) (aj.far rs)
     (fun a ha w hw=>by
      obtain⟨⟨a',a4,az⟩,-⟩:=wG (rs:=rs) ⟨a,ha,AL.2 hw⟩;exact ao a' a4 w (AL.1 az)) rfl (fun w hw=>by
      obtain⟨h1,h2⟩:=wG hw
      exact (Ng (fun e=>h2 (by rw[e];exact an))).2 (ac w h1)) z1 (HM.o.keep a0)
   clear IHb IH bl bv a3 bh;have o3:=au z.B (by simp only[Ab];omega);rw[Ak]at o3;simp only[Ab]at ay
   repeat' first|refine Z1 ?_|refine Z8 fun yd yb=>?_|refine Z4 ?_;clear yb yd|refine Z2 ?_ ?_<;>intro h ai<;>try exact Xp|(refine Z5 ?_;first|(refine Xi (bi _ _) ?_;rintro _ _ ⟨⟨_,_,rs,rfl,⟨ih3,ip3,in3,pc3,nc3,rfl,b9,cb⟩,⟨ih4,ip4,in4,pc4,nc4,rfl,b8,ca⟩,hG,hC⟩,bu⟩;(have an:b∈rs:=(by obtain⟨ad,e,-,-⟩:=hG;rw[e];simp);have ce:=cj.o rs _ hC ⟨ih3,ip3,in3,pc3,nc3,rfl,b9,cb⟩;have cf:=ck.o rs _ an hC ⟨ih4,ip4,in4,pc4,nc4,rfl,b8,ca⟩;have HC:AD _:=hC;clear hC hG;have ax:=bu.B;simp only[Av]at ax;have bp:=(bq.lay 1).trans bu))|(refine Xi (ce _ ((((bp.new _).new _).put AA _).put AA _)) ?_;rintro _ _ ⟨⟨b5,rfl,bf⟩,a6⟩;(have b0:AD _:=bf;clear bf;have aw:=a6.B;have ap:=a6.C;simp only[Ab,Aa]at aw ap;have br:=((((bp.new _).new _).put AA _).put AA _).trans a6))|(refine Xi (cf _ br) ?_;rintro _ _ ⟨⟨b7,rfl,be⟩,cd⟩;(have bz:AD _:=be;clear be;have cp:=br.trans cd)))|refine Z3 ?_|exact Zt|apply yb.o;clear yb yd
   ·refine⟨_,rfl,false,rfl,(fun h=>by cases h),fun⟨ν,hν⟩=>?_⟩;have h1:=hR2.to ν hν;have h2:=lA (rs:=rs) h1;have am:WP (Bc q' rs):=fun p hp=>aa.w p (BV.1 hp).1;obtain⟨p,hp,af⟩:=Yd aa.wf bd;have h3:=tZ (v:=b) am h2 ⟨p,BV.2 ⟨hp,CW.2 ⟨b,an,af⟩⟩,af⟩
    have h4:Mn neg (Di b (ν b) (Bc q' rs)) ν:=(Uv am).2 (by
     have:O4 ν b (ν b)=ν:=by
      funext w;unfold O4;split
      ·rename_i e;rw[e]
      ·rfl
     rw[this];exact h2)
    have:=b0.o.2 ⟨ν b,h3,ν,h4⟩;rw[this]at h;cases h
   ·refine⟨_,rfl,b7,rfl,fun h7=>?_,fun⟨ν,hν⟩=>bz.o.2 ⟨ν,vL (hR2.to ν hν)⟩⟩;obtain⟨n,-,ν1,hν1⟩:=b0.o.1 h;obtain⟨ν2,hν2⟩:=bz.o.1 h7;have am:WP (Bc q' rs):=fun p hp=>aa.w p (BV.1 hp).1;obtain⟨ν',hν',-⟩:=hR2.back _ (cO HC.o ((Uv am).1 hν1) hν2);exact⟨ν',hν'⟩
theorem T9 (neg om ot M d b):∀(k:Nat) (V:List Int),Z V<=k->U4 neg om ot M d b V:=by
 intro k;induction k with
 |zero=>exact fun V hV=>T8 neg om ot M d b V (fun V' h=>AA)
 |succ k IH=>exact fun V hV=>T8 neg om ot M d b V (fun V' h=>IH V' AA)
structure DZ (k:Nat)(S:Cc->Prop)(M M':MM)(d d':Int):Prop where
 len:Z M'=Z M
 oth:∀j,j≠k->(M'[j]?).map (·.2)=(M[j]?).map (·.2)
 ext:∃new:List Cc,Be M' k=Be M k++new/\new.Nodup/\(∀t∈new,S t/\t∉Be M k)/\d'=d+Z new
theorem DZ.refl (k S M d):DZ k S M M d d:=⟨rfl,fun _ _=>rfl,[],by simp,IS,by simp,by simp⟩
theorem DZ.trans {k S M M1 M2 d d1 d2}(h:DZ k S M M1 d d1)(g:DZ k S M1 M2 d1 d2):DZ k S M M2 d d2:=by
 obtain⟨n1,a1,a2,a3,a4⟩:=h.ext;obtain⟨n2,b1,b2,b3,b4⟩:=g.ext;refine⟨g.len.trans h.len,fun j hj=>(g.oth j hj).trans (h.oth j hj),n1++n2,by rw[b1,a1,CX],?_,?_,?_⟩
 ·rw[JK];exact⟨a2,b2,fun x hx y hy e=>(b3 y hy).2 (by rw[a1,<-e];exact AW.2 (.inr hx))⟩
 ·intro t ht;rcases AW.1 ht with ht|ht
  ·exact a3 t ht
  ·exact⟨(b3 t ht).1,fun hm=>(b3 t ht).2 (by rw[a1];exact AW.2 (.inl hm))⟩
 ·rw[b4,a4];simp;omega
theorem DZ.mono {k S S' M M' d d'}(h:DZ k S M M' d d')(hs:∀t,S t->S' t):DZ k S' M M' d d':=by
 obtain⟨n,a1,a2,a3,a4⟩:=h.ext;exact⟨h.len,h.oth,n,a1,a2,fun t ht=>⟨hs t (a3 t ht).1,(a3 t ht).2⟩,a4⟩
theorem DZ.sub {k S M M' d d'}(h:DZ k S M M' d d'){t}(ht:t∈Be M k):t∈Be M' k:=by
 obtain⟨n,a1,-,-,-⟩:=h.ext;rw[a1];exact AW.2 (.inl ht)
theorem DZ.le {k S M M' d d'}(h:DZ k S M M' d d'):d<=d':=by
 obtain⟨n,-,-,-,a4⟩:=h.ext;omega
def Room (M:MM)(d b:Int):Prop:=∀x∈M,(Z x.2:Int)+(b-d)<=4000
theorem DZ.room {k S M M' d d' b}(h:DZ k S M M' d d')(hr:Room M d b):Room M' d' b:=by
 intro x hx;obtain⟨j,hj⟩:=CO hx;obtain⟨n,a1,-,-,a4⟩:=h.ext;have aa:j<Z M:=by rw[<-h.len];exact (BG.1 hj).1
 have hy:=AJ aa;have hb:=hr _ (AT aa);by_cases e:j=k
 ·subst e;unfold Be at a1;simp only[DU,hj,hy,GZ,Option.getD_some]at a1;rw[a1];simp only[AX];omega
 ·have:=h.oth j e;rw[hj,hy]at this;simp at this;rw[this];have:=h.le;omega
theorem Ck {M}{k:Nat}{x}(h:M[k]?=some x):Be M (k:Int)=x.2:=by simp[Be,h]
theorem YN {M k id x t S d}(hx:M[k]?=some x)(ht:t∉x.2)(hS:S t):DZ k S M (M.set k (id,x.2++[t])) d (d+1):=by
 have hk:=(BG.1 hx).1;refine⟨by simp,fun j hj=>by rw[NZ (fun e=>hj e.symm)],[t],?_,by simp,?_,by simp⟩
 ·rw[Ck hx,Ck (x:=(id,x.2++[t])) (by simp[hk])]
 ·intro u hu;simp at hu;subst hu;rw[Ck hx];exact⟨hS,ht⟩
theorem BL.setd {z om ot M d d' b}(h:BL z om ot M d b):BL (z.put om [fx ot 0 (Z M),ic d',ic b]) om ot M d' b where
 ob:=Ak
 oc:=by rw[show (z.put om [fx ot 0 (Z M),ic d',ic b]).C ot=z.C ot from by simp[St.put];intro e;exact absurd e.symm h.ne];exact h.oc
 lo:=h.lo
 lt:=h.lt
 ne:=h.ne
 live:=h.live
 inj:=h.inj
 t3:=h.t3
 ln:=h.ln
 pl:=h.pl
theorem KM.setd {om ot M M' z z'}(h:KM om ot M M' z z')(c):KM om ot M M' z (z'.put om c):=
 ⟨h.B,fun o ho h1 h2=>by rw[show (z'.put om c).C o=z'.C o from by simp[St.put,h1]];exact h.C o ho h1 h2,fun o ho h1 h2=>by rw[show (z'.put om c).ver o=z'.ver o from by simp[St.put,h1]];exact h.ver o ho h1 h2,h.D,h.top,h.mid⟩
def Zh (neg:Int->Cc->Prop)(q:AY)(t:Cc):Prop:=∃ν,Mn neg q ν/\t=Bz q.h ν
def QZ (neg:Int->Cc->Prop)(om ot:Nat)(b:Int)(V:List Int):Prop:=∀(q:AY) (c:List AV) (k:Nat) (M:MM) (d:Int),EQ q c->To q->BN neg M q->(∀a∈q.B,a.p≠(k:Int))->QV q->q.h.p=(k:Int)->k<Z M->Room M d b-> -1000000<=d->d<=1000000-> -1000000<=b->b<=900000->(∀v,FG q v->v∈V)->
 ∀z,BL z om ot M d b->AF Tryz.prog 139 [ptr om 0,ag c] z fun r z'=>∃M' d',BL z' om ot M' d' b/\KM om ot M M' z z'/\DZ k (Zh neg q) M M' d d'/\d'<=1000000/\(¬b<d'->∀t,Zh neg q t->t∈Be M' k)
theorem BN.gro {neg M M' q}{k:Nat}{S d d'}(h:BN neg M q)(aa:∀a∈q.B,a.p≠(k:Int))(g:DZ k S M M' d d'):BN neg M' q:=fun a ha=>by
 obtain⟨j,x,h1,h2,h3⟩:=h a ha;have hj:j≠k:=fun e=>aa a ha (by rw[h1,e]);have:=g.oth j hj;rw[h2]at this;cases hy:M'[j]? with
 |none=>rw[hy]at this;simp at this
 |some y=>
  rw[hy]at this;simp at this;exact⟨j,y,h1,hy,fun t=>by rw[this];exact h3 t⟩
theorem Rx (neg om ot b V)(IH:∀V':List Int,Z V'<Z V->QZ neg om ot b V'):QZ neg om ot b V:=by
 intro q c k M d hc hA dc e0 hV hk c8 a7 fm ck eq ep ch z hM;have a8:=fun z (h:BL z om ot M d b)=>Qi om ot M d b z h;have ci:=hA.ok.hd;have ej:Z q.h.ts<=1000:=AA;have be:=fun (id:Nat) z=>Pi q.h.p id q.h.ts ej z;have bl:M[k]?=some M[k]:=AJ c8;generalize M[k]=x at bl;have b9:=fun (id:Nat) z (h:BL z om ot M d b)=>Jv om ot M d b q.h id k x ci hk bl z h;have bf:=fun z (h:BL z om ot M d b)=>dY neg q c om ot M d b hc hA dc z h;have hT:Be M (k:Int)=x.2:=Ck bl;obtain⟨ih,ip,inn,pc,nc,rfl,-,-⟩:=hc;have co:∀cs,BL (z.new cs) om ot M d b:=fun cs=>hM.keep ((AE.refl z).new cs);by_cases cg:b<d
 ·rw[show decide (b<d)=true from by simpa using cg]at a8;rw[hk];clear b9 be bf;refine Z9 86 [] Tryz.func139 ?_
  refine qb ?_;intro yd yb;refine Xi (a8 _ (hM.keep (Xs))) ?_;rintro _ _ ⟨rfl,rfl⟩;refine pz ?_
  first|exact⟨_,rfl,M,d,co _,KM.ofKeep ((AE.refl z).new _),DZ.refl _ _ _ _,ck,fun h=>absurd cg h⟩|exact⟨M,d,co _,KM.ofKeep ((AE.refl z).new _),DZ.refl _ _ _ _,ck,fun h=>absurd cg h⟩
 ·have br:decide (b<d)=false:=by simpa using cg
  rw[br]at a8;have ac:=be ih;have ai:=b9 ih;rw[hk]at ac ai bf;rw[hk];have bp:∀z',AE z z'->(∀t,Zh neg q t->t∈x.2)->∃M' d',BL z' om ot M' d' b/\KM om ot M M' z z'/\DZ k (Zh neg q) M M' d d'/\d'<=1000000/\(¬b<d'->∀t,Zh neg q t->t∈Be M' k):=fun z' d5 aw=>
   ⟨M,d,hM.keep d5,KM.ofKeep d5,DZ.refl _ _ _ _,ck,fun _ t ht=>by rw[hT];exact aw t ht⟩
  have ae:AD _:=bp;clear bp br;cases hs:I5 q.h.ts with
  |true=>
   rw[hs]at ac;have ap:=fun ν=>Q4 hs ν;by_cases hm:Cw q.h∈x.2
   ·rw[show decide (Cw q.h∈x.2)=true from by simpa using hm]at ai;have aw:∀t,Zh neg q t->t∈x.2:=fun t ⟨ν,_,e⟩=>by rw[e,ap];exact hm
    have ce:AD _:=aw;clear aw ap b9 be bf;refine Z9 86 [] Tryz.func139 ?_
    repeat' first|refine Z1 ?_|refine Z8 fun yd yb=>?_|refine Z4 ?_;clear yb yd|refine Z2 ?_ ?_<;>intro h ab<;>try exact Xp|(refine Z5 ?_;first|(refine Xi (a8 _ (hM.keep (Xs))) ?_;rintro _ _ ⟨rfl,rfl⟩)|(refine Xi (ac _) ?_;rintro _ _ ⟨rfl,am⟩;(have aj:=am.B;have aa:=am.C;have bm:=((AE.refl z).new _).trans am;simp only[Aa]at aj aa))|(refine Xi (ai _ (hM.keep (Xs))) ?_;rintro _ _ ⟨rfl,b7⟩;(have b3:=bm.trans b7)))|refine Z3 ?_|exact Zt|apply yb.o;clear yb yd
    first|exact⟨_,rfl,ae.o _ b3 ce.o⟩|exact ae.o _ b3 ce.o
   ·rw[show decide (Cw q.h∈x.2)=false from by simpa using hm]at ai;have fg:AD (Cw q.h∉x.2):=hm;clear hm;have cr:∀(id:Nat) z,AF Tryz.prog 131 [ag [ic (k:Int),sl id (Z q.h.ts) (Ad q.h.ts)]] z fun r z'=>r=sc (.bool true)/\AE z z':=fun id z=>by
     have:=be id z;rw[hk,hs]at this;exact this
    have d4:=fun (id:Nat) z (h:BL z om ot M d b)=>Yo om ot M d b q.h id k x ci hk bl (by
     have:=a7 x (BD bl)
     omega) z h
    rw[hk]at d4;have b8:=T9 neg om ot M d b (Z V) V (AR _);clear be b9 co;refine Z9 86 [] Tryz.func139 ?_
    repeat' first|refine Z1 ?_|refine Z8 fun yd yb=>?_|refine Z4 ?_;clear yb yd|refine Z2 ?_ ?_<;>intro h ab<;>try exact Xp|(refine Z5 ?_;first|(refine Xi (a8 _ (hM.keep (Xs))) ?_;rintro _ _ ⟨rfl,rfl⟩)|(refine Xi (ac _) ?_;rintro _ _ ⟨rfl,am⟩;(have aj:=am.B;have aa:=am.C;have bm:=((AE.refl z).new _).trans am;simp only[Aa]at aj aa))|(refine Xi (ai _ (hM.keep (Xs))) ?_;rintro _ _ ⟨rfl,b7⟩;(have ec:=b7.B;have bo:=b7.C;have b3:=bm.trans b7;clear ac))|(refine Xi (bf _ (hM.keep (Xs))) ?_;rintro _ _ ⟨⟨c',(⟨rfl,eh,ek,bv⟩|⟨q',rfl,⟨ih2,ip2,in2,pc2,nc2,rfl,cm,cn⟩,a4,dd,hR2,au⟩)⟩,ah⟩))|refine Z3 ?_|exact Zt
    ·have bc:=ah.B;have o4:=ah.C z.B AA;rw[bo _ AA,aa _ AA,Ao]at o4;have ay:=b3.trans ah;have cc:AD (∀ν,¬Mn neg q ν):=bv;clear bv
     refine pz ?_
     first|exact⟨_,rfl,ae.o _ (ay.put AA _) (fun t ⟨ν,h,_⟩=>absurd h (cc.o ν))⟩|exact ae.o _ (ay.put AA _) (fun t ⟨ν,h,_⟩=>absurd h (cc.o ν))
    ·have bc:=ah.B;have o4:=ah.C z.B AA;rw[bo _ AA,aa _ AA,Ao]at o4;have ay:=b3.trans ah;have he:q'.h=q.h:=hR2.hd;have ax:BN neg M q':=dc.sub fun a ha=>⟨a,(au a ha).1,rfl⟩;have ak:oX ⟨⟨0,[]⟩,q'.A,q'.B⟩:=fun v hv=>a4.wf v (.inr (hv.resolve_left (by simp[Bj])))
     have ct:=fun z (h:BL z om ot M d b)=>b8 ⟨⟨0,[]⟩,q'.A,q'.B⟩ [ic 0,nilS,sl ip2 (Z q'.A) pc2,sl in2 (Z q'.B) nc2] ⟨1,ip2,in2,pc2,nc2,rfl,cm,cn⟩ (Na a4 (by simp) (NF _) (NF _) ak) (ax.sub fun a ha=>⟨a,ha,rfl⟩)
      (fun a ha v hv=>by
       have:a∈atomsQ q'\/a=⟨0,[]⟩:=by
        unfold atomsQ at ha⊢;simp only[BB,AW,AO]at ha⊢;rcases ha with h|h|h
        ·exact .inr h
        ·exact .inl (.inr (.inl h))
        ·exact .inl (.inr (.inr h))
       rcases this with h|rfl
       ·exact hV a (hR2.at_ a h) v hv
       ·cases hv) rfl (fun v hv=>by
       obtain⟨p,hp,bq⟩:=Yd (q:=⟨⟨0,[]⟩,q'.A,q'.B⟩) ak hv
       exact ch v (FG.sub hR2.at_ ⟨p.a,Ln hp,bq⟩)) z h
     have ew:∀ν,Mn neg (⟨⟨0,[]⟩,q'.A,q'.B⟩:AY) ν↔Mn neg q' ν:=fun ν=>Iff.rfl;have HE:AD (q'.h=q.h):=he;simp only[he,hk];clear he b8 bf ai a8
     repeat' first|refine Z1 ?_|refine Z8 fun yd yb=>?_|refine Z4 ?_;clear yb yd|refine Z2 ?_ ?_<;>intro h ab<;>try exact Xp|(refine Z5 ?_;first|(refine Xi (ct _ (hM.keep (Xs))) ?_;rintro _ _ ⟨⟨bb,rfl,bz⟩,bi⟩;(have cd:AD _:=bz;clear bz;have ba:=bi.B;have a9:=bi.C;simp only[Ab]at ba a9;have b4:=(ay.put AA _).trans bi))|(refine Xi (cr _ _) ?_;rintro _ _ ⟨rfl,bh⟩;(have cx:=bh.B;have cv:=bh.C;have dh:=b4.trans bh))|(refine Xi (d4 _ _ (hM.keep (Xs))) ?_;rintro _ _ ⟨id',df,b6⟩;(generalize b2:M.set k (id',x.2++[Cw q.h])=M7 at df b6;have d9:AD _:=b2;clear b2;have fi:=df.ob;have dk:=KM.trans (KM.ofKeep dh) b6)))|refine Z3 ?_|exact Zt|apply yb.o;clear yb yd
     ·exact⟨_,rfl,ae.o _ b4 (fun t ⟨ν,hν,_⟩=>absurd (cd.o.2 ⟨ν,hR2.to ν hν⟩) (by rw[h];simp))⟩
     ·have c9:bb=true:=by assumption
      obtain⟨ν,hν⟩:=cd.o.1 c9;obtain⟨ν',hν',-⟩:=hR2.back ν hν;have e8:Zh neg q (Cw q.h):=⟨ν',hν',(ap ν').symm⟩;have e9:DZ k (Zh neg q) M M7 d (d+1):=by rw[<-d9.o];exact YN bl fg.o e8
      have ev:Cw q.h∈Be M7 k:=by
       rw[<-d9.o,Ck (x:=(id',x.2++[Cw q.h])) (by simp[c8])];simp
      exact⟨_,rfl,M7,d+1,df.setd,dk.setd _,e9,AA,fun _ t ⟨μ,_,e⟩=>by rw[e,ap];exact ev⟩
  |false=>
   rw[hs]at ac;have cr:∀(id:Nat) z,AF Tryz.prog 131 [ag [ic (k:Int),sl id (Z q.h.ts) (Ad q.h.ts)]] z fun r z'=>r=sc (.bool false)/\AE z z':=fun id z=>by
    have:=be id z;rw[hk,hs]at this;exact this
   have b8:=T9 neg om ot M d b (Z V) V (AR _);obtain⟨v0,vt,cf⟩:∃v0 vt,Co [q.h]=v0::vt:=by
    cases hv:Co [q.h]with
    |nil=>
     exfalso;have:I5 q.h.ts=true:=by
      unfold I5;rw[EK];rintro⟨t1,t2⟩ ht;cases t1 with
      |false=>rfl
      |true=>
       have:t2∈Co [q.h]:=(Dk _ _).2 ⟨q.h,by simp,ht⟩;rw[hv]at this;cases this
     rw[this]at hs;cases hs
    |cons v0 vt=>exact⟨v0,vt,rfl⟩
   have af:=fun (idh i:Nat) (z:St)=>Hy [q.h] [ic q.h.p,sl idh (Z q.h.ts) (Ad q.h.ts)] i (EL.single ⟨idh,rfl⟩) (by simp;exact ci) (by simp) z;have dt:=Fz (l:=[q.h]) (by simp;exact ci);have ds:∀v,Bj q.h.ts v=true->v∈v0::vt:=fun v hv=>by rw[<-cf];exact (Dk _ _).2 ⟨q.h,by simp,AL.1 hv⟩
   have dv:Bj q.h.ts v0=true:=by
    have:v0∈Co [q.h]:=by rw[cf];simp
    obtain⟨a,ha,h⟩:=(Dk _ _).1 this;simp at ha;subst ha;exact AL.2 h
   rw[cf]at af dt;simp only[BQ,CP,As,CU,EJ,hk]at af;simp only[BQ,CP,EJ]at dt;have cz:Z (v0::vt)<=200:=by simp;omega
   clear be b9 co cf;refine Z9 86 [] Tryz.func139 ?_
   repeat' first|refine Z1 ?_|refine Z8 fun yd yb=>?_|refine Z4 ?_;clear yb yd|refine Z2 ?_ ?_<;>intro h ab<;>try exact Xp|(refine Z5 ?_;first|(refine Xi (a8 _ (hM.keep (Xs))) ?_;rintro _ _ ⟨rfl,rfl⟩)|(refine Xi (ac _) ?_;rintro _ _ ⟨rfl,am⟩;(have aj:=am.B;have aa:=am.C;have bm:=((AE.refl z).new _).trans am;simp only[Aa]at aj aa;clear ac))|(refine Xi (bf _ (hM.keep (Xs))) ?_;rintro _ _ ⟨⟨c',(⟨rfl,eh,ek,bv⟩|⟨q',rfl,⟨ih2,ip2,in2,pc2,nc2,rfl,cm,cn⟩,a4,dd,hR2,au⟩)⟩,ah⟩))|refine Z3 ?_|exact Zt
   ·have bc:=ah.B;have o4:=ah.C z.B AA;rw[aa _ AA,Ao]at o4;have ay:=bm.trans ah;have cc:AD (∀ν,¬Mn neg q ν):=bv;clear bv
    refine pz ?_
    first|exact⟨_,rfl,ae.o _ (ay.put AA _) (fun t ⟨ν,h,_⟩=>absurd h (cc.o ν))⟩|exact ae.o _ (ay.put AA _) (fun t ⟨ν,h,_⟩=>absurd h (cc.o ν))
   ·have bc:=ah.B;have o4:=ah.C z.B AA;rw[aa _ AA,Ao]at o4;have ay:=bm.trans ah;have he:q'.h=q.h:=hR2.hd;have ax:BN neg M q':=dc.sub fun a ha=>⟨a,(au a ha).1,rfl⟩;have ak:oX ⟨⟨0,[]⟩,q'.A,q'.B⟩:=fun v hv=>a4.wf v (.inr (hv.resolve_left (by simp[Bj])))
    have ct:=fun z (h:BL z om ot M d b)=>b8 ⟨⟨0,[]⟩,q'.A,q'.B⟩ [ic 0,nilS,sl ip2 (Z q'.A) pc2,sl in2 (Z q'.B) nc2] ⟨1,ip2,in2,pc2,nc2,rfl,cm,cn⟩ (Na a4 (by simp) (NF _) (NF _) ak) (ax.sub fun a ha=>⟨a,ha,rfl⟩)
     (fun a ha v hv=>by
      have:a∈atomsQ q'\/a=⟨0,[]⟩:=by
       unfold atomsQ at ha⊢;simp only[BB,AW,AO]at ha⊢;rcases ha with h|h|h
       ·exact .inr h
       ·exact .inl (.inr (.inl h))
       ·exact .inl (.inr (.inr h))
      rcases this with h|rfl
      ·exact hV a (hR2.at_ a h) v hv
      ·cases hv) rfl (fun v hv=>by
      obtain⟨p,hp,bq⟩:=Yd (q:=⟨⟨0,[]⟩,q'.A,q'.B⟩) ak hv
      exact ch v (FG.sub hR2.at_ ⟨p.a,Ln hp,bq⟩)) z h
    have ca:EQ q' [ic (k:Int),sl ih2 (Z q.h.ts) (Ad q.h.ts),sl ip2 (Z q'.A) pc2,sl in2 (Z q'.B) nc2]:=⟨ih2,ip2,in2,pc2,nc2,by rw[he,hk],cm,cn⟩;have da:=fun (id:Nat) z=>T7 q' _ (v0::vt) id ca a4.ok cz z;simp only[BQ,As,CU]at da;have HE:AD (q'.h=q.h):=he;simp only[he,hk];clear he b8 bf a8 ca;have du:=af ih2;clear af
    repeat' first|refine Z1 ?_|refine Z8 fun yd yb=>?_|refine Z4 ?_;clear yb yd|refine Z2 ?_ ?_<;>intro h ab<;>try exact Xp|(refine Z5 ?_;first|(refine Xi (ct _ (hM.keep (Xs))) ?_;rintro _ _ ⟨⟨bb,rfl,bz⟩,bi⟩;(have cd:AD _:=bz;clear bz;have ba:=bi.B;have a9:=bi.C;simp only[Ab]at ba a9;have b4:=(ay.put AA _).trans bi))|(refine Xi (cr _ _) ?_;rintro _ _ ⟨rfl,bh⟩;(have cx:=bh.B;have cv:=bh.C;have dh:=b4.trans bh))|(refine Xi (du _ _) ?_;rintro _ _ ⟨⟨idv,rfl⟩,dm⟩;(have cw:=dm.B;have cu:=dm.C;simp only[Av,H6]at cw cu;have e5:=(dh.lay 1).trans dm))|(refine Xi (da _ _) ?_;rintro _ _ ⟨⟨_,_,rs,rfl,⟨ih3,ip3,in3,pc3,nc3,rfl,ez,e3⟩,⟨ih4,ip4,in4,pc4,nc4,rfl,fo,fp⟩,hG,hC⟩,d6⟩;(have eb:=d6.B;have HC:AD _:=hC;have HG:AD _:=hG;clear hC hG;have e6:=e5.trans d6)))|refine Z3 ?_|exact Zt|apply yb.o;clear yb yd
    ·exact⟨_,rfl,ae.o _ b4 (fun t ⟨ν,hν,_⟩=>absurd (cd.o.2 ⟨ν,hR2.to ν hν⟩) (by rw[h];simp))⟩
    ·rename_i z8;have c9:bb=true:=by assumption
     have dn:EQ (Bc q' rs) [ic (Bc q' rs).h.p,sl ih3 (Z (Bc q' rs).h.ts) (Ad (Bc q' rs).h.ts),sl ip3 (Z (Bc q' rs).A) pc3,sl in3 (Z (Bc q' rs).B) nc3]:=⟨ih3,ip3,in3,pc3,nc3,rfl,ez,e3⟩;have hrs:∀v∈v0::vt,v∈rs:=fun v hv=>by
      obtain⟨ad,e,-,-⟩:=HG.o;rw[e];exact AW.2 (.inl hv)
     have ao:To (Bc q' rs):=Na a4 a4.ok.hd MF MF (iR a4.wf HC.o (fun v hv=>hrs v (ds v (by rw[<-HE.o];exact hv))));have dy:QV (Bc q' rs):=fun a ha w hw=>by
      obtain⟨a',eu,ed⟩:=Rn (rs:=rs) ⟨a,ha,AL.2 hw⟩;exact hV a' (hR2.at_ a' eu) w (AL.1 ed)
     have dw:(Bc q' rs).h.p=(k:Int):=by show q'.h.p=_;rw[HE.o,hk]
     have bw:∀w,FG (Bc q' rs) w->w∈V:=fun w hw=>ch w (FG.sub hR2.at_ (Rn hw));have bd:v0∈V:=ch v0 ⟨q.h,by simp[atomsQ],dv⟩;have dz:Z (V.erase v0)<Z V:=by
      rw[List.length_erase_of_mem bd];have:=List.length_pos_of_mem bd;omega
     have IHb:=IH (V.erase v0) dz;obtain⟨μ,hμ⟩:=cd.o.1 c9
     --what the near part brings,the query brings
     have b0:∀n t,Zh neg (Di v0 n (Bc q' rs)) t->Zh neg q t:=fun n t ⟨ν,hν,e⟩=>by
      have h1:=(Uv ao.w).1 hν;have h2:=cO HC.o h1 (vL (rs:=rs) hμ);obtain⟨ν',hν',et⟩:=hR2.back _ h2;refine⟨ν',hν',?_⟩;rw[e];show Bz (Gp v0 n (Bc q' rs).h) ν=_;rw[Lh];show Bz q'.h _=_;rw[HE.o];apply F0;intro v hv;rw[et v ⟨q'.h,by simp[atomsQ],by rw[HE.o];exact hv⟩];rw[if_pos (hrs v (ds v hv))]
     have cb:∀t,Zh neg q t->∃n∈Mf (Bc q' rs) v0,Zh neg (Di v0 n (Bc q' rs)) t:=fun t ⟨ν,hν,e⟩=>by
      have h2:=lA (rs:=rs) (hR2.to ν hν);obtain⟨p,hp,bq⟩:=ao.wf v0 (.inl (by show Bj q'.h.ts v0=true;rw[HE.o];exact dv));have a5:O4 ν v0 (ν v0)=ν:=by
       funext w;unfold O4;split
       ·rename_i e;rw[e]
       ·rfl
      refine⟨ν v0,tZ ao.w h2 ⟨p,hp,bq⟩,ν,(Uv ao.w).2 (by rw[a5];exact h2),?_⟩;rw[e];show _=Bz (Gp v0 (ν v0) (Bc q' rs).h) ν;rw[Lh,a5];show _=Bz q'.h ν;rw[HE.o]
     have dp:AD _:=b0;have dr:AD _:=cb;have dx:=fun z=>Lw (Bc q' rs) _ v0 dn ao.ok ao.n z;have ee:=Vf ao.n v0;have ey:=fun n z=>Yl (Bc q' rs) _ v0 n dn ao.ok z;generalize bu:Mf (Bc q' rs) v0=ns at dx ee;have ff:AD _:=bu;have fk:=B9 ns;have b1:∀{n:Int},∀a∈(Di v0 n (Bc q' rs)).B,a.p≠(k:Int):=fun {n} a ha=>by
      obtain⟨a0,h0,rfl⟩:=AO.1 ha;exact e0 a0 (au a0 (BV.1 h0).1).1
     have e7:AD (∀(n:Int) (c5:List AV) (Mj:MM) (dj:Int),EQ (Di v0 n (Bc q' rs)) c5->DZ k (Zh neg q) M Mj d dj->dj<=1000000->∀z,BL z om ot Mj dj b->AF Tryz.prog 139 [ptr om 0,ag c5] z fun r z'=>∃M' d',BL z' om ot M' d' b/\KM om ot Mj M' z z'/\DZ k (Zh neg (Di v0 n (Bc q' rs))) Mj M' dj d'/\d'<=1000000/\(¬b<d'->∀t,Zh neg (Di v0 n (Bc q' rs)) t->t∈Be M' k)):=fun n c5 Mj dj bn an cj z cp=>
      IHb (Di v0 n (Bc q' rs)) c5 k Mj dj bn (lP ao) (((ax.near rs).put v0 n).gro b1 an) b1 (fun a ha w hw=>by
       obtain⟨⟨b',er,eo⟩,-⟩:=U1 (q:=Bc q' rs) (v:=v0) (n:=n) (w:=w) ⟨a,ha,AL.2 hw⟩;exact dy b' er w (AL.1 eo)) dw (by rw[an.len];exact c8) (an.room a7) (by have:=an.le;omega) cj eq ep (fun w hw=>by
       obtain⟨h1,h2⟩:=U1 hw
       exact (Ng h2).2 (bw w h1)) z cp
     clear bu b0 cb IHb IH dz bd bw ct cr du da ao dy dn dw;have d3:AE z ((((z8.new [ic 0,nilS,nilS,nilS]).new [ic 0,nilS,nilS,nilS]).put z8.B [ic (Bc q' rs).h.p,sl ih3 (Z (Bc q' rs).h.ts) (Ad (Bc q' rs).h.ts),sl ip3 (Z (Bc q' rs).A) pc3,sl in3 (Z (Bc q' rs).B) nc3]).put (z8.B+1) [ic (Is q' rs).h.p,sl ih4 (Z (Is q' rs).h.ts) (Ad (Is q' rs).h.ts),sl ip4 (Z (Is q' rs).A) pc4,sl in4 (Z (Is q' rs).B) nc4]):=(((e6.new _).new _).put AA _).put AA _;generalize cy:((((z8.new [ic 0,nilS,nilS,nilS]).new [ic 0,nilS,nilS,nilS]).put z8.B [ic (Bc q' rs).h.p,sl ih3 (Z (Bc q' rs).h.ts) (Ad (Bc q' rs).h.ts),sl ip3 (Z (Bc q' rs).A) pc3,sl in3 (Z (Bc q' rs).B) nc3]).put (z8.B+1) [ic (Is q' rs).h.p,sl ih4 (Z (Is q' rs).h.ts) (Ad (Is q' rs).h.ts),sl ip4 (Z (Is q' rs).A) pc4,sl in4 (Z (Is q' rs).B) nc4])=z9 at*
     have n9:z9.B=z8.B+2:=by rw[<-cy];rfl
     have o9:z9.C z8.B=[ic (Bc q' rs).h.p,sl ih3 (Z (Bc q' rs).h.ts) (Ad (Bc q' rs).h.ts),sl ip3 (Z (Bc q' rs).A) pc3,sl in3 (Z (Bc q' rs).B) nc3]:=by rw[<-cy,Aj AA,Ak]
     clear cy;refine Az (Q:=fun e s' z''=>e= .normal/\s' 0=ptr om 0/\s' 5=sl idv (Z vt+1) (ic v0::List.map ic vt)/\s' 6=ptr z8.B 0/\(∃idn,s' 70=sl idn (Z ns) (As ns))/\s' 71=ic (Z ns)/\s' 72=ic 0/\AE z9 z'') ?_ ?_
     ·refine Aq Ag (fun _=>True) [] [0,1,2,3,6] 2 #[true,true,true,true,false,false,true] AH (fun _ _ _ h=>by cases h.1) ?_;intro yd yb;refine Z3 ?_;refine yb.o _ ?_;clear yb yd;refine Ai (i:=4) AH ?_;refine Am ?_;intro yd yb;refine Z3 ?_;refine AF.mono (dx _) ?_;rintro _ za ⟨⟨idn,rfl⟩,a3⟩;refine Z3 ?_;refine yb.o _ _ ⟨Al a3,?_⟩;clear yb yd;refine Ci [5] AH AH (fun _ _ _ h=>by cases h.1) a3.B (fun o ho _=>a3.ver o ho) ?_;intro yd yb;refine Z3 ?_;refine yb.o _ _ ⟨rfl,?_⟩;refine⟨by simp[upd,AM],AG,AG,⟨idn,AG⟩,AI,AG,a3⟩
     ·rintro e s z9' ⟨rfl,g0,g5,g6,⟨idn,g70⟩,g71,g72,a3⟩;have kna:=a3.B;have di:=d3.trans a3;have oa:z9'.C z8.B=[ic (Bc q' rs).h.p,sl ih3 (Z (Bc q' rs).h.ts) (Ad (Bc q' rs).h.ts),sl ip3 (Z (Bc q' rs).A) pc3,sl in3 (Z (Bc q' rs).B) nc3]:=by rw[a3.C _ AA,o9]
      have d1:BL z9' om ot M d b:=hM.keep di;have fc:om≠z8.B:=by have:=hM.lo;omega
      have fb:ot≠z8.B:=by have:=hM.lt;omega
      refine zz ?_
      refine Ae (fun m s z'=>∃(j:Nat) (Mj:MM) (dj:Int),m=Z ns-j/\j<=Z ns/\s 0=ptr om 0/\s 5=sl idv (Z vt+1) (ic v0::List.map ic vt)/\s 6=ptr z8.B 0/\s 70=sl idn (Z ns) (As ns)/\s 71=ic (Z ns)/\s 72=ic j/\BL z' om ot Mj dj b/\KM om ot M Mj z z'/\z8.B<z'.B/\z'.C z8.B=[ic (Bc q' rs).h.p,sl ih3 (Z (Bc q' rs).h.ts) (Ad (Bc q' rs).h.ts),sl ip3 (Z (Bc q' rs).A) pc3,sl in3 (Z (Bc q' rs).B) nc3]/\dj<=1000000/\AD (DZ k (Zh neg q) M Mj d dj/\(¬b<dj->∀n∈ns.take j,∀t,Zh neg (Di v0 n (Bc q' rs)) t->t∈Be Mj k))) (Z ns)
       ⟨0,M,d,AA,AA,g0,g5,g6,g70,g71,g72,d1,KM.ofKeep di,AA,oa,ck,DZ.refl _ _ _ _,fun _ n hn=>by simp at hn⟩ ?_
      clear g0 g5 g6 g70 g71 g72 d1 di oa kna a3 o9 d3;rintro m s z' ⟨j,Mj,dj,rfl,hj,g0,g5,g6,g70,g71,g72,cp,b5,c6,ob',cj,an⟩;by_cases eg:j<Z ns
      ·have av:=AJ eg;obtain⟨r,em⟩:=Dz av;generalize ns[j]=n at em av;have fe:AD (ns.take (j+1)=ns.take j++[n]):=by rw[AD,AU,av,BJ]
       clear av;have d0:=ey n;have d8:AD (∀c5,EQ (Di v0 n (Bc q' rs)) c5->∀z,BL z om ot Mj dj b->AF Tryz.prog 139 [ptr om 0,ag c5] z fun r z'=>∃M' d',BL z' om ot M' d' b/\KM om ot Mj M' z z'/\DZ k (Zh neg (Di v0 n (Bc q' rs))) Mj M' dj d'/\d'<=1000000/\(¬b<d'->∀t,Zh neg (Di v0 n (Bc q' rs)) t->t∈Be M' k)):=fun c5 bn=>e7.o n c5 Mj dj bn an.o.1 cj
       refine pz ?_
       refine Az (Q:=fun e s' z''=>e= .normal/\s' 0=ptr om 0/\s' 5=sl idv (Z vt+1) (ic v0::List.map ic vt)/\s' 6=ptr z8.B 0/\s' 70=sl idn (Z ns) (As ns)/\s' 71=ic (Z ns)/\s' 72=ic j/\∃o c5,s' 10=ptr o 0/\o<z''.B/\z''.C o=c5/\EQ (Di v0 n (Bc q' rs)) c5/\AE z' z'') ?_ ?_
       ·refine Aq Ag (fun _=>True) [7] [0,1,2,3,4] 3 #[true,true,true,true,true,false,false,false] AH (fun _ _ _ h=>by cases h.1) ?_;intro yd yb;refine Z3 ?_;refine yb.o _ ?_;clear yb yd;refine Eo (rs:=[5,6]) AH (by simp) ?_;intro i hi;simp only[BB,EN,DY]at hi;rcases hi with rfl|rfl
        ·refine Am ?_;intro yd yb;refine Z3 ?_;refine AF.mono (d0 _) ?_;rintro _ zb ⟨⟨_,rfl,ih5,ip5,in5,pc5,nc5,rfl,db,de⟩,az⟩;have knb:=az.B;refine Z3 ?_;refine yb.o _ _ ⟨Al az,?_⟩;clear yb yd;refine Ai (i:=6) AH ?_;refine Am ?_;intro yd yb;refine Z3 ?_;refine yb.o _ _ ⟨Al (az.new _),?_⟩;clear yb yd;refine Ai (i:=7) AH ?_;refine Am ?_;intro yd yb;refine Z3 ?_;refine yb.o _ _ ⟨A5 rfl,?_⟩;clear yb yd;refine Ax AH ⟨rfl,AI,AI,AI,AI,AI,AI,zb.B,_,AG,BM,Ak,⟨ih5,ip5,in5,pc5,nc5,rfl,db,de⟩,(az.new _).put knb _⟩
        ·refine Am ?_;intro yd yb;refine Z3 ?_;refine yb.o _ _ ⟨Al ((AE.refl _).new _),?_⟩;clear yb yd;refine Ai (i:=5) AH ?_;refine Am ?_;intro yd yb;refine Z3 ?_;refine AF.mono (d0 _) ?_;rintro _ zb ⟨⟨_,rfl,ih5,ip5,in5,pc5,nc5,rfl,db,de⟩,az⟩;have knb:=az.B;simp only[Aa]at knb;have obb:=az.C z'.B AK;rw[Ao]at obb;refine Z3 ?_;refine yb.o _ _ ⟨Al (((AE.refl _).new _).trans az),?_⟩;clear yb yd;refine Ai (i:=7) AH ?_;refine Am ?_;intro yd yb;refine Z3 ?_;refine yb.o _ _ ⟨A5 rfl,?_⟩;clear yb yd;refine Ax AH ⟨rfl,AI,AI,AI,AI,AI,AI,z'.B,_,AG,by simp only[Ab];omega,Ak,⟨ih5,ip5,in5,pc5,nc5,rfl,db,de⟩,(((AE.refl _).new _).trans az).put (AR _) _⟩
       ·rintro e s2 zc ⟨rfl,f0,f5,f6,f70,f71,f72,oo,c5,f10,fj,oc5,bn,cq⟩;have knc:=cq.B;have fa:=fun z=>d8.o c5 bn z;obtain⟨ih5,ip5,in5,pc5,nc5,rfl,-,-⟩:=bn;have ef:zc.C z8.B=[ic (Bc q' rs).h.p,sl ih3 (Z (Bc q' rs).h.ts) (Ad (Bc q' rs).h.ts),sl ip3 (Z (Bc q' rs).A) pc3,sl in3 (Z (Bc q' rs).B) nc3]:=by rw[cq.C _ c6,ob']
        clear d8
        refine qb ?_;intro yd yb;refine Xi (fa _ (cp.keep cq)) ?_;rintro _ _ ⟨M2,d2,e4,bg,d7,en,a6⟩;(have dq:AD _:=d7;have fh:AD _:=a6;clear d7 a6;have dl:=(b5.trans (KM.ofKeep cq)).trans bg;have ea:=bg.C z8.B AA fc.symm fb.symm;have kn2:=bg.B);refine pz ?_
        have HN:AD (DZ k (Zh neg q) M M2 d d2/\(¬b<d2->∀n∈ns.take (j+1),∀t,Zh neg (Di v0 n (Bc q' rs)) t->t∈Be M2 k)):=by
         refine⟨an.o.1.trans (dq.o.mono (dp.o n)),fun c7 u hu t ht=>?_⟩;rw[fe.o]at hu;rcases AW.1 hu with hu|hu
         ·have fl:=dq.o.le;exact dq.o.sub (an.o.2 AA u hu t ht)
         ·simp at hu;subst hu;exact fh.o c7 t ht
        refine⟨Z ns-(j+1),AA,j+1,M2,d2,?_⟩
        ((repeat' refine Zi ?_ ?_)<;>first|exact Xq|exact e4|exact dl|exact HN|exact (by rw[ea,ef])|exact Xs)
      ·have ei:j=Z ns:=AA;subst ei
       refine pz ?_
       refine⟨_,rfl,Mj,dj,cp,b5,an.o.1,cj,fun c7 t ht=>?_⟩;obtain⟨n,hn,h1⟩:=dr.o t ht;rw[ff.o]at hn;exact an.o.2 c7 n (by rw[AS];exact hn) t h1
theorem gP (neg om ot b):∀(n:Nat) (V:List Int),Z V<=n->QZ neg om ot b V:=by
 intro n;induction n with
 |zero=>exact fun V hV=>Rx neg om ot b V (fun V' h=>AA)
 |succ n IH=>exact fun V hV=>Rx neg om ot b V (fun V' h=>IH V' AA)
def Sh (ar:Nat->Nat)(k:Nat)(t:Cc):Prop:=∃l:List Int,t=C4 l/\Z l=ar k/\∀x∈l,∃n:Nat,x=(n:Int)/\n<1026
structure RW (np:Nat)(ar:Nat->Nat)(r:Eu):Prop where
 rok:US np r
 nne:∀l∈r.A,l.neg=true->l.a.p≠r.h.p
 har:Z r.h.ts=ar r.h.p.toNat
 bar:∀l∈r.A,Z l.a.ts=ar l.a.p.toNat
 hc:∀t∈r.h.ts,t.1=false->∃n:Nat,t.2=(n:Int)/\n<1026
 hv:∀v,(true,v)∈r.h.ts->0<=v/\v<26
 bv:∀l∈r.A,∀v,(true,v)∈l.a.ts->0<=v/\v<26
 safe:∀v,(Bj r.h.ts v=true\/∃l∈r.A,l.neg=true/\Bj l.a.ts v=true)->∃l∈r.A,l.neg=false/\Bj l.a.ts v=true
theorem VZ {a}(h3:Z a.ts<=3)(ν):Mk a.ts (Bz a ν)=true:=by
 unfold Mk;rw[EK];intro i hi;have hi:i<Z a.ts:=by simpa using hi
 have hg:(Bz a ν)[i]?=some (Gd ν a.ts[i]):=by
  unfold Bz;rw[Kp (by simpa using hi) (by simpa using h3)];simp
 unfold Uo;rw[AJ hi,hg];cases ht:a.ts[i]with
 |mk b n=>
  cases b with
  |false=>simp[Gd]
  |true=>
   have hm:(true,n)∈a.ts:=by rw[<-ht];exact AT hi
   have:=J5 (ν:=ν) h3 (AL.2 hm);unfold I4 at this;simp only;rw[this];simp[Gd]
theorem ZZ {a t l}(h3:Z a.ts<=3)(ht:t=C4 l)(hl:Z l=Z a.ts)(hf:Mk a.ts t=true):∃μ,t=Bz a μ:=by
 refine⟨fun v=>I4 t (Ju a.ts v),?_⟩;have:a.ts.map (Gd fun v=>I4 t (Ju a.ts v))=l:=by
  apply List.ext_getElem (by simp[hl]);intro i h1 h2;have hi:i<Z a.ts:=by simpa using h1
  unfold Mk at hf;rw[EK]at hf;have h:=hf i (by simpa using hi);have hg:t[i]?=some l[i]:=by rw[ht,Kp h2 AA]
  unfold Uo at h;rw[AJ hi,hg]at h;rw[List.getElem_map];cases he:a.ts[i]with
  |mk b n=>
   rw[he]at h;cases b with
   |false=>
    simp only[EH]at h;simp[Gd,h]
   |true=>
    simp only[EH]at h;rw[h];simp[Gd,I4]
 unfold Bz;rw[this,ht]
theorem oN {M nw fr i l t}(h:t∈Y7 M nw fr i l):t∈Be M l.a.p:=by
 unfold Y7 at h;split at h
 ·exact List.mem_of_mem_drop h
 ·exact h
theorem J0 {M nw fr b p}(h:p∈O7 M nw fr b):∃(l:Lit) (i:Nat),b[i]?=some l/\l.neg=false/\p=oO M nw fr (l,i):=by
 unfold O7 at h;obtain⟨⟨l,i⟩,hx,rfl⟩:=AO.1 h;obtain⟨h1,h2⟩:=BV.1 hx;have:=List.mem_zipIdx_iff_getElem?.1 h1;exact⟨l,i,by simpa using this,by simpa using h2,rfl⟩
theorem wT {M nw fr b l i}(h:b[i]?=some l)(hn:l.neg=false):oO M nw fr (l,i)∈O7 M nw fr b:=by
 unfold O7;refine AO.2 ⟨(l,i),BV.2 ⟨List.mem_zipIdx_iff_getElem?.2 (by simpa using h),by simp[hn]⟩,rfl⟩
def nk (ar:Nat->Nat)(M:MM):Prop:=∀(k:Nat) (t:Cc),t∈Be M (k:Int)->Sh ar k t
theorem pf {z om ot M d b ar r}(hM:BL z om ot M d b)(hS:nk ar M)(hr:RW (Z M) ar r)(nw fr):To (L6 M nw fr r)/\QV (L6 M nw fr r)/\∀v,FG (L6 M nw fr r) v->v∈(List.range 26).map fun n:Nat=>(n:Int):=by
 have hk:∀l∈r.A,∃k:Nat,l.a.p=(k:Int)/\k<Z M:=hr.rok.bp;have ac:∀a∈Tg r.A,∃l∈r.A,l.neg=true/\l.a=a:=fun a ha=>by
  obtain⟨l,hl,rfl⟩:=AO.1 ha;obtain⟨h1,h2⟩:=BV.1 hl;exact⟨l,h1,h2,rfl⟩
 have ak:Z (Tg r.A)<=Z r.A:=by
  unfold Tg;rw[BP];exact KE _ _
 have ae:∀l∈r.A,T3 (Be M l.a.p)/\Z (Be M l.a.p)<=5000:=fun l hl=>by
  obtain⟨k,e,ai⟩:=hk l hl;have hg:M[k]?=some M[k]:=AJ ai;rw[e,Ck hg];have hm:=AT ai;exact⟨hM.t3 _ hm,hM.ln _ hm⟩
 have hpl:Z (O7 M nw fr r.A)<=Z r.A:=by
  unfold O7;rw[BP];refine BO (KE _ _) (by simp)
 have aa:∀(l:Lit) (i:Nat),∀t∈(oO M nw fr (l,i)).A,t∈Be M l.a.p/\Mk l.a.ts t=true:=fun l i t ht=>by
  obtain⟨h1,h2⟩:=BV.1 ht;exact⟨oN h1,h2⟩
 have ab:∀v,FG (L6 M nw fr r) v->0<=v/\v<26:=fun v ⟨a,ha,hv⟩=>by
  unfold atomsQ L6 at ha;simp only[BB,AW,AO]at ha;rcases ha with rfl|⟨p,hp,rfl⟩|ha
  ·exact hr.hv v (AL.1 hv)
  ·obtain⟨l,i,h1,h2,rfl⟩:=J0 hp;exact hr.bv l (BD h1) v (AL.1 hv)
  ·obtain⟨l,h1,h2,rfl⟩:=ac a ha;exact hr.bv l h1 v (AL.1 hv)
 refine⟨⟨⟨hr.rok.hd,BO hpl hr.rok.bl,BO ak hr.rok.bl,fun p hp=>?_,fun p hp=>?_,fun p hp=>?_,fun a ha=>?_⟩,fun p hp t ht=>?_,fun p hp=>?_,fun v hv=>?_⟩,fun a ha v hv=>(ab v ⟨a,ha,AL.2 hv⟩).1,fun v hv=>?_⟩
 ·obtain⟨l,i,h1,h2,rfl⟩:=J0 hp;exact hr.rok.ba l (BD h1)
 ·obtain⟨l,i,h1,h2,rfl⟩:=J0 hp;have h3:=(ae l (BD h1)).2;refine BO (KE _ _) ?_;unfold Y7;split
  ·simp;omega
  ·exact h3
 ·obtain⟨l,i,h1,h2,rfl⟩:=J0 hp;exact fun t ht=>(ae l (BD h1)).1 t (aa l i t ht).1
 ·obtain⟨l,h1,h2,rfl⟩:=ac a ha;exact hr.rok.ba l h1
 ·obtain⟨l,i,h1,h2,rfl⟩:=J0 hp;have hl:=BD h1;obtain⟨k,e,-⟩:=hk l hl;have h3:=(aa l i t ht).1;rw[e]at h3;obtain⟨m,rfl,ad,ah⟩:=hS k t h3;intro j hj;have af:Z m=Z l.a.ts:=by rw[ad,hr.bar l hl,e];rfl
  have aj:j<Z m:=by rw[af];exact hj
  obtain⟨n,an,am⟩:=ah m[j] (AT aj);exact⟨n,by rw[Kp aj (by rw[af];exact hr.rok.ba l hl),an],am⟩
 ·obtain⟨l,i,h1,h2,rfl⟩:=J0 hp;have hl:=BD h1;refine⟨hr.rok.ba l hl,fun t ht=>?_⟩;obtain⟨k,e,-⟩:=hk l hl;obtain⟨h3,h4⟩:=aa l i t ht;rw[e]at h3;obtain⟨m,hm1,ad,ah⟩:=hS k t h3;exact ZZ (a:=l.a) (hr.rok.ba l hl) hm1 (by rw[ad,hr.bar l hl,e];rfl) h4
 ·obtain⟨l,hl,ap,ao⟩:=hr.safe v (by
   rcases hv with h|⟨a,ha,h⟩
   ·exact .inl h
   ·obtain⟨l,h1,h2,rfl⟩:=ac a ha
    exact .inr ⟨l,h1,h2,h⟩)
  obtain⟨i,hi⟩:=CO hl;exact⟨oO M nw fr (l,i),wT hi ap,ao⟩
 ·obtain⟨h1,h2⟩:=ab v hv;rw[AO];exact⟨v.toNat,by simp;omega,AA⟩
theorem wS {neg M nw fr ar r t}(hr:RW (Z M) ar r):Zh neg (L6 M nw fr r) t↔∃ν,(∀(l:Lit) (i:Nat),r.A[i]?=some l->l.neg=false->Bz l.a ν∈Y7 M nw fr i l)/\(∀l∈r.A,l.neg=true->¬neg l.a.p (Bz l.a ν))/\t=Bz r.h ν:=by
 constructor
 ·rintro⟨ν,hν,rfl⟩;refine⟨ν,fun l i hi hn=>?_,fun l hl hn=>hν.2 l.a (AO.2 ⟨l,BV.2 ⟨hl,hn⟩,rfl⟩),rfl⟩;have:=hν.1 _ (wT hi hn);exact (BV.1 this).1
 ·rintro⟨ν,h,h',rfl⟩;refine⟨ν,⟨fun p hp=>?_,fun a ha=>?_⟩,rfl⟩
  ·obtain⟨l,i,h1,h2,rfl⟩:=J0 hp;exact BV.2 ⟨h l i h1 h2,VZ (hr.rok.ba l (BD h1)) ν⟩
  ·obtain⟨l,hl,rfl⟩:=AO.1 ha;obtain⟨h1,h2⟩:=BV.1 hl;exact h' l h1 h2
abbrev Dw:=Nat->Cc->Prop
def LR (R:List Eu)(D:Dw):Prop:=∀r∈R,∀ν,(∀l∈r.A,D l.a.p.toNat (Bz l.a ν))->D r.h.p.toNat (Bz r.h ν)
def CG (N D:Dw)(ν:Nu)(l:Lit):Prop:=if l.neg=true then¬N l.a.p.toNat (Bz l.a ν)else D l.a.p.toNat (Bz l.a ν)
def LL (R:List Eu)(N D:Dw):Prop:=∀r∈R,∀ν,(∀l∈r.A,CG N D ν l)->D r.h.p.toNat (Bz r.h ν)
theorem gZ {R N D}(h:∀r∈R,∀l∈r.A,l.neg=false):LL R N D↔LR R D:=by
 have key:∀r∈R,∀ν,(∀l∈r.A,CG N D ν l)↔∀l∈r.A,D l.a.p.toNat (Bz l.a ν):=fun r hr ν=>by
  constructor
  ·intro g l hl;have:=g l hl;unfold CG at this;rw[h r hr l hl]at this;simpa using this
  ·intro g l hl;unfold CG;rw[h r hr l hl];simpa using g l hl
 exact⟨fun g r hr ν hν=>g r hr ν ((key r hr ν).2 hν),fun g r hr ν hν=>g r hr ν ((key r hr ν).1 hν)⟩
def MD (M:MM):Dw:=fun k t=>t∈Be M (k:Int)
def tot (M:MM):Int:=(It M).sum
structure BE (D:Dw)(M M':MM)(d d':Int):Prop where
 len:Z M'=Z M
 ext:∀k:Nat,∃new:List Cc,Be M' k=Be M k++new/\new.Nodup/\∀t∈new,D k t/\t∉Be M k
 cnt:d'-d=tot M'-tot M
theorem BE.refl (D M d):BE D M M d d:=⟨rfl,fun k=>⟨[],by simp,IS,by simp⟩,AA⟩
theorem BE.trans {D M M1 M2 d d1 d2}(h:BE D M M1 d d1)(g:BE D M1 M2 d1 d2):BE D M M2 d d2:=by
 refine⟨g.len.trans h.len,fun k=>?_,by have:=h.cnt;have:=g.cnt;omega⟩;obtain⟨n1,a1,a2,a3⟩:=h.ext k;obtain⟨n2,b1,b2,b3⟩:=g.ext k;refine⟨n1++n2,by rw[b1,a1,CX],?_,?_⟩
 ·rw[JK];exact⟨a2,b2,fun x hx y hy e=>(b3 y hy).2 (by rw[a1,<-e];exact AW.2 (.inr hx))⟩
 ·intro t ht;rcases AW.1 ht with ht|ht
  ·exact a3 t ht
  ·exact⟨(b3 t ht).1,fun hm=>(b3 t ht).2 (by rw[a1];exact AW.2 (.inl hm))⟩
theorem BE.sub {D M M' d d'}(h:BE D M M' d d'){k:Nat}{t}(ht:t∈Be M k):t∈Be M' k:=by
 obtain⟨n,a1,-,-⟩:=h.ext k;rw[a1];exact AW.2 (.inl ht)
theorem BE.inD {D M M' d d'}(h:BE D M M' d d')(hD:∀k t,MD M k t->D k t):∀k t,MD M' k t->D k t:=fun k t ht=>by
 obtain⟨n,a1,-,a3⟩:=h.ext k;unfold MD at ht;rw[a1]at ht;rcases AW.1 ht with ht|ht
 ·exact hD k t ht
 ·exact (a3 t ht).1
theorem Fj (x M):tot (x::M)=(Z x.2:Int)+tot M:=by simp[tot,It]
theorem Qx:∀(M M':MM) (k:Nat) (n:Nat),Z M'=Z M->(∀j,j≠k->(M'[j]?).map (·.2)=(M[j]?).map (·.2))->(k<Z M->(Z (Be M' k):Int)=Z (Be M k)+n)->(Z M<=k->n=0)->tot M'=tot M+n
 |[],M',k,n,hl,ho,hk,hn=>by
  have:M'=[]:=GQ (by simpa using hl);subst this;have:=hn (by simp);subst this;simp[tot,It]
 |x::M,[],k,n,hl,ho,hk,hn=>by simp at hl
 |x::M,y::M',0,n,hl,ho,hk,hn=>by
  have h0:=hk (by simp);simp[Be]at h0;have aa:tot M'=tot M+(0:Nat):=Qx M M' (Z M) 0 (by simpa using hl) (fun j hj=>by have:=ho (j+1) AA;simpa using this) (fun h=>AA) (fun _=>rfl);rw[Fj,Fj,aa];omega
 |x::M,y::M',k+1,n,hl,ho,hk,hn=>by
  have h0:=ho 0 AA;simp at h0
  have aa:=Qx M M' k n (by simpa using hl) (fun j hj=>by have:=ho (j+1) AA;simpa using this) (fun h=>by
   have:=hk (by simp;omega)
   simpa[Be]using this) (fun h=>hn (by simp;omega))
  rw[Fj,Fj,aa,h0];omega
theorem DZ.all {k S D M M' d d'}(h:DZ k S M M' d d')(hk:k<Z M)(hS:∀t,S t->D k t):BE D M M' d d':=by
 obtain⟨n,a1,a2,a3,a4⟩:=h.ext;refine⟨h.len,fun j=>?_,?_⟩
 ·by_cases e:j=k
  ·subst e;exact⟨n,a1,a2,fun t ht=>⟨hS t (a3 t ht).1,(a3 t ht).2⟩⟩
  ·refine⟨[],?_,IS,by simp⟩;have:=h.oth j e;unfold Be;simp only[DU];rw[this];simp
 ·have:=Qx M M' k (Z n) h.len h.oth (fun _=>by rw[a1];simp) (fun hh=>AA);omega
end Go.Proofs.YtmoeoppbmhfbpabGreatDoorI
