import Derived.Test.YtmoeoppbmhfbpaaGreatDoorHEngY
import Derived.Test.YtmoeoppbmhfbpaaGreatDoorHProgL
set_option maxHeartbeats 32000000
set_option maxRecDepth 100000
set_option linter.all false
namespace Go.Proofs.YtmoeoppbmhfbpaaGreatDoorH
open Go.Abs
theorem Zn (a:J7)(c:List AV)(h:tS a c):c.length=4:=by obtain⟨o,ih,ib,bc,rfl,-⟩:=h;rfl
theorem mG {l:List J7}{cs:List AV}{i:Nat}{r:J7}(h:EL tS l cs)(hi:l[i]?=some r):∃o ih ib bc rr,cs.drop (i*4)=sc (.bool o)::ic r.head.p::sl ih r.head.ts.length (Ae r.head.ts)::sl ib r.body.length bc::rr/\EL zW r.body bc:=by
 obtain⟨c,rr,⟨o,ih,ib,bc,rfl,hB⟩,e⟩:=EL.get Zn h hi;exact⟨o,ih,ib,bc,rr,e,hB⟩
def NgIn (R:List J7)(D:Cq)(M:MM):Prop:=∀r∈R,∀l∈r.body,l.neg=true->∀t,D l.a.p.toNat t->MD M l.a.p.toNat t
theorem NgIn.gro {R:List J7}{D:Cq}{M M':MM}{d d':Int}(h:NgIn R D M)(g:GroA D M M' d d'):NgIn R D M':=fun r hr l hl hn t ht=>g.sub (h r hr l hl hn t ht)
def zM (D:Cq):Int->Bj->Prop:=fun p t=>D p.toNat t
structure wR (np:Nat)(ar:Nat->Nat)(R:List J7)(D:Cq):Prop where
 rw:∀r∈R,RW np ar r
 cl:tT R D D
 sh:∀k t,D k t->Sh ar k t
theorem wI {np:Nat}{ar:Nat->Nat}{R:List J7}{D:Cq}{M:MM}{nw:Int}{fr:Nat}{r:J7}(hF:wR np ar R D)(hn:M.length=np)(hr:r∈R)(hD:∀k t,MD M k t->D k t){t:Bj}(ht:Ul (zM D) (J6 M nw fr r) t):D r.head.p.toNat t:=by
 obtain⟨ν,h1,h2,rfl⟩:=(mB (ar:=ar) (hn ▸ hF.rw r hr)).1 ht;refine hF.cl r hr ν (fun l hl=>?_);unfold LitH;cases aa:l.neg with
 |true=>simpa[zM]using h2 l hl aa
 |false=>
  obtain⟨i,hi⟩:=Acp hl;obtain⟨k,hk,-⟩:=(hF.rw r hr).rok.bp l hl;have:=eW (h1 l i hi aa);rw[hk]at this;simp only[Abq,if_false];rw[hk];exact hD k _ this
theorem Uc {np:Nat}{ar:Nat->Nat}{R:List J7}{D:Cq}(hF:wR np ar R D)(om ot:Nat)(b:Int)(ak: -1000000<=b)(aj:b<=900000)(M:MM)(d:Int)(hn:M.length=np)(hD:∀k t,MD M k t->D k t)(am:NgIn R D M)(hR:Room M d b)(ai: -1000000<=d)(ah:d<=1000000)(r:J7)(hr:r∈R)(nw:Int)(fr:Nat)(c:List AV)(hc:EQ (J6 M nw fr r) c)(σ:St)(hM:MOb σ om ot M d b):
  ACalls Tryz.prog 131 [ptr om 0,ag c] σ fun x σ'=>∃M' d',MOb σ' om ot M' d' b/\KM om ot M M' σ σ'/\GroA D M M' d d'/\Room M' d' b/\d'<=1000000/\d<=d'/\(¬b<d'->∀ν,(∀(l:Lit) (i:Nat),r.body[i]?=some l->l.neg=false->Bp l.a ν∈Ud M nw fr i l)->(∀l∈r.body,l.neg=true->¬D l.a.p.toNat (Bp l.a ν))->MD M' r.head.p.toNat (Bp r.head ν)):=by
 have aa:RW M.length ar r:=hn ▸ hF.rw r hr;obtain⟨a1,a2,a3⟩:=wJ hM (fun k t ht=>hF.sh k t (hD k t ht)) aa nw fr;obtain⟨k,hk,ad⟩:=aa.rok.hp;have ac:∀a∈(J6 M nw fr r).nots,∃l∈r.body,l.neg=true/\l.a=a:=fun a ha=>by
  obtain⟨l,hl,rfl⟩:=Acf.1 ha;obtain⟨h1,h2⟩:=Ac7.1 hl;exact⟨l,h1,h2,rfl⟩
 have b1:NegOk (zM D) M (J6 M nw fr r):=fun a ha=>by
  obtain⟨l,h1,h2,rfl⟩:=ac a ha;obtain⟨j,hj,af⟩:=aa.rok.bp l h1;have hg:M[j]?=some M[j]:=Aav af;refine⟨j,M[j],hj,hg,fun t=>?_⟩;have hT:=B9 hg;have e:l.a.p.toNat=j:=by rw[hj];rfl
  unfold zM;rw[e];constructor
  ·intro ht;have:=am r hr l h1 h2 t (by rw[e];exact ht);rw[e]at this;unfold MD at this;rwa[hT]at this
  ·intro ht;exact hD j t (by unfold MD;rw[hT];exact ht)
 have b2:∀a∈(J6 M nw fr r).nots,a.p≠(k:Int):=fun a ha e=>by
  obtain⟨l,h1,h2,rfl⟩:=ac a ha;exact aa.nne l h1 h2 (by rw[e,hk])
 have:=Y3 (zM D) om ot b _ _ (Aak _) (J6 M nw fr r) c k M d hc a1 b1 b2 a2 hk ad hR ai ah ak aj a3 σ hM;refine ACalls.mono this ?_;rintro x σ' ⟨M',d',h1,h2,h3,h4,h5⟩;have ab:r.head.p.toNat=k:=by rw[hk];rfl
 refine⟨M',d',h1,h2,h3.all ad (fun t ht=>by rw[<-ab];exact wI hF hn hr hD ht),h3.room hR,h4,h3.le,fun ae ν hν hν'=>?_⟩;unfold MD;rw[ab];exact h5 ae _ ((mB aa).2 ⟨ν,hν,hν',rfl⟩)
def NewR (D:Cq)(M0 M':MM)(seen:List Int)(r:J7)(j:Nat):Prop:=∀(i:Nat) (l:Lit),i<j->r.body[i]?=some l->l.neg=false->∀ν,(∀l'∈r.body,LitH D (MD M0) ν l')->Bp l.a ν∈(Au M0 l.a.p).drop ((seen[l.a.p.toNat]?).getD 0).toNat->MD M' r.head.p.toNat (Bp r.head ν)
theorem NewR.mono {D:Cq}{M0 M1 M2:MM}{seen:List Int}{r:J7}{j:Nat}{d1 d2:Int}(h:NewR D M0 M1 seen r j)(g:GroA D M1 M2 d1 d2):NewR D M0 M2 seen r j:=fun i l hi hl hn ν h1 h2=>g.sub (h i l hi hl hn ν h1 h2)
theorem Qt {np:Nat}{ar:Nat->Nat}{R:List J7}{D:Cq}(hF:wR np ar R D)(om ot:Nat)(b:Int)(cb: -1000000<=b)(ca:b<=900000)(M:MM)(d:Int)(hn:M.length=np)(hD:∀k t,MD M k t->D k t)(cg:NgIn R D M)(cd:Room M d b)(c8: -1000000<=d)(b8:d<=1000000)(rc:List AV)(idr:Nat)(bd:EL tS R rc)(da:R.length<=1000)(seen:List Int)(ids:Nat)(bv:seen.length=np)(bz:∀n∈seen,0<=n/\n<=5000)(σ:St)(hM:MOb σ om ot M d b):
  ACalls Tryz.prog 132 [ptr om 0,sl idr R.length rc,sl ids seen.length (Aj seen)] σ fun x σ'=>∃M' d',MOb σ' om ot M' d' b/\KM om ot M M' σ σ'/\GroA D M M' d d'/\Room M' d' b/\d'<=1000000/\d<=d'/\(¬b<d'->∀r∈R,NewR D M M' seen r r.body.length):=by
 have cv:=EL.length Zn bd;have ct:=Bm seen;have cx:=hM.pl;have cu:np<=seen.length:=Ad2;have c5:M.length<=np:=Ad2;have cz:np<=M.length:=Ad2;have bm:Ad8 (M.length=np):=hn;clear bv hn;refine Z9 59 [] Tryz.func132 ?_
 repeat' (first|refine Z1 ?_|(refine Z8 ?_;intro ya J)|(refine Z4 ?_;clear J ya)|(refine Z2 ?_ ?_<;>intro h ab<;>try exact Xp)|refine Z3 ?_|exact Zt|(apply J.out;clear J ya))
 refine Ab (fun m s σ'=>∃(k:Nat) (M1:MM) (d1:Int),m=R.length-k/\k<=R.length/\s 0=ptr om 0/\s 2=sl ids seen.length (Aj seen)/\s 12=sl idr R.length rc/\s 13=ic R.length/\s 14=ic k/\MOb σ' om ot M1 d1 b/\KM om ot M M1 σ σ'/\d1<=1000000/\d<=d1/\Ad8 (GroA D M M1 d d1/\Room M1 d1 b/\(¬b<d1->∀r∈R.take k,NewR D M M1 seen r r.body.length))) R.length
  ⟨0,M,d,Ad2,Ad2,by simp[upd,initS],by simp[upd,initS],Ad4,Ad4,rfl,hM,KM.ofKeep (Keep.refl _),b8,Ad2,GroA.refl _ _ _,cd,fun _ r hr=>by simp at hr⟩ ?_
 rintro m s σ' ⟨k,M1,d1,rfl,hk,h0,h2,bk,bj,bi,aw,an,am,ak,hG⟩;by_cases be:k<R.length
 ·have aa:=Aav be;obtain⟨o,ih,ib,bc,rr,hd,hB⟩:=mG bd aa;have ad:=Ab1 be;generalize R[k]=r at hd aa ad hB;have cr:Ad8 (R.take (k+1)=R.take k++[r]):=by rw[Ad8,Aa8,aa,Ab9]
  clear aa;have c9:=EL.length Zo hB;have b9:=(hF.rw r ad).rok.bl;have l1:=aw.lo;have l2:=aw.lt
  repeat' (first|refine Z1 ?_|(refine Z8 ?_;intro ya J)|(refine Z4 ?_;clear J ya)|(refine Z2 ?_ ?_<;>intro h ab<;>try exact Xp)|refine Z3 ?_|exact Zt|(apply J.out;clear J ya))
  refine Ab (fun m s σ2=>∃(j:Nat) (M2:MM) (d2:Int),m=r.body.length-j/\j<=r.body.length/\s 0=ptr om 0/\s 2=sl ids seen.length (Aj seen)/\s 7=ptr σ'.nobj 0/\s 12=sl idr R.length rc/\s 13=ic R.length/\s 14=ic k/\s 19=sl ib r.body.length bc/\s 20=ic r.body.length/\s 21=ic j/\MOb σ2 om ot M2 d2 b/\KM om ot M M2 σ σ2/\σ'.nobj<σ2.nobj/\σ2.obj σ'.nobj=[sc (.bool o),ic r.head.p,sl ih r.head.ts.length (Ae r.head.ts),sl ib r.body.length bc]/\d2<=1000000/\d<=d2/\Ad8 (GroA D M M2 d d2/\Room M2 d2 b/\(¬b<d2->(∀r∈R.take k,NewR D M M2 seen r r.body.length)/\NewR D M M2 seen r j))) r.body.length
   ⟨0,M1,d1,Ad2,Ad2,Ad3,Ad3,Ad4,Ad3,Ad3,Ad3,Ad4,Ad4,rfl,aw.keep (((Keep.refl _).new _).put (Aak _) _),an.trans (KM.ofKeep (((Keep.refl _).new _).put (Aak _) _)),Ad7,Ak,am,ak,hG.out.1,hG.out.2.1,fun h=>⟨hG.out.2.2 h,fun i l hi=>Ad2⟩⟩ ?_
  have cq:om≠σ'.nobj:=Ad2;have cp:ot≠σ'.nobj:=Ad2;clear h0 h2 bk bj bi aw an hG am ak l1 l2;rintro m s σ2 ⟨j,M2,d2,rfl,hj,h0,h2,h7,bk,bj,bi,dd,dc,db,af,au,cy,bo,a8,b7,hG⟩;have l1:=af.lo;have l2:=af.lt;by_cases ay:j<r.body.length
  ·have aa:=Aav ay;obtain⟨id,r2,aj⟩:=mH hB aa;have bf:=Ab1 ay;generalize r.body[j]=w at aj aa bf;obtain⟨p,hp,cw⟩:=(hF.rw r ad).rok.bp w bf;have HW:Ad8 (r.body[j]?=some w):=aa;clear aa;rw[hp]at aj;have a3:seen[p]?=some seen[p]:=Aav Ad2;obtain⟨rs,b5⟩:=Db a3;have bw:=bz _ (Ab1 (show p<seen.length by omega));generalize seen[p]=f at a3 b5 bw;obtain⟨fn,rfl⟩:∃fn:Nat,f=(fn:Int):=⟨f.toNat,Ad2⟩;have cj:M2.length<=M.length/\M.length<=M2.length:=by have:=hG.out.1.len;omega
   have ai:M2[p]?=some M2[p]:=Aav Ad2;generalize M2[p]=y at ai;have c7:=F7 ai;have cs:=af.ln y (Aax ai);have c6:=F6 M2;have obm:=af.ob;have obt:=af.oc;have b0:=af.pl;have cc:Ad8 (Au M2 (p:Int)=y.2):=B9 ai
   --what this literal's turn must bring
   have ac:Ad8 (∀M3 d3,GroA D M2 M3 d2 d3->(¬b<d3->w.neg=false->∀ν,(∀l'∈r.body,LitH D (MD M) ν l')->Bp w.a ν∈(Au M w.a.p).drop fn->MD M3 r.head.p.toNat (Bp r.head ν))->d2<=d3->(¬b<d3->(∀r∈R.take k,NewR D M M3 seen r r.body.length)/\NewR D M M3 seen r (j+1))):=fun M3 d3 bg ah b1 a5=>by
    obtain⟨g1,g2⟩:=hG.out.2.2 Ad2;refine⟨fun r' az=>(g1 r' az).mono bg,fun i l hi hl av ν a1 a2=>?_⟩;by_cases e:i=j
    ·subst e;rw[HW.out]at hl;obtain rfl:=Ac9 hl;refine ah a5 av ν a1 ?_;rw[hp]at a2⊢;rw[Adi,a3]at a2;simpa using a2
    ·exact bg.sub (g2 i l Ad2 hl av ν a1 a2)
   cases ae:w.neg with
   |true=>
    have HN:Ad8 (GroA D M M2 d d2/\Room M2 d2 b/\(¬b<d2->(∀r∈R.take k,NewR D M M2 seen r r.body.length)/\NewR D M M2 seen r (j+1))):=
     ⟨hG.out.1,hG.out.2.1,ac.out M2 d2 (GroA.refl _ _ _) (fun _ hh=>by rw[ae]at hh;cases hh) Ad2⟩
    rw[ae]at aj;clear ac ae
    repeat' (first|refine Z1 ?_|(refine Z8 ?_;intro ya J)|(refine Z4 ?_;clear J ya)|(refine Z2 ?_ ?_<;>intro h ab<;>try exact Xp)|refine Z3 ?_|exact Zt|(apply J.out;clear J ya))
    refine Aq Ad (fun _=>True) [] [0,1,2,3,4,5,6,7,8,9,10,11,12,13,14,15,16] [] Ad5 (fun _ _ _ h=>h) ?_;intro ya J
    repeat' (first|refine Z1 ?_|(refine Z8 ?_;intro ya J)|(refine Z4 ?_;clear J ya)|(refine Z2 ?_ ?_<;>intro h ab<;>try exact Xp)|refine Z3 ?_|exact Zt|(apply J.out;clear J ya))
    refine⟨r.body.length-(j+1),Ad2,j+1,M2,d2,?_⟩
    ((repeat' refine Zi ?_ ?_)<;>first|exact Xq|exact HN|exact (af.keep (((Keep.refl _).new _).put (Aak _) _))|exact (au.trans (KM.ofKeep (((Keep.refl _).new _).put (Aak _) _)))|exact Xs)
   |false=>
    rw[ae]at aj;clear ae
    repeat' (first|refine Z1 ?_|(refine Z8 ?_;intro ya J)|(refine Z4 ?_;clear J ya)|(refine Z2 ?_ ?_<;>intro h ab<;>try exact Xp)|refine Z3 ?_|exact Zt|(apply J.out;clear J ya))
    refine Aq Ad (fun _=>True) [] [0,1,2,3,4,5,6,7,8,9,10,11,12,13,14,15,16] [] Ad5 (fun _ _ _ h=>h) ?_;intro ya J;by_cases a6:fn<y.2.length
    ·have b4:decide ((fn:Int)<(y.2.length:Int))=true:=by simp;exact a6
     have co:=fun σ (h:MOb σ om ot M2 d2 b)=>Xx om ot M2 d2 b r [sc (.bool o),ic r.head.p,sl ih r.head.ts.length (Ae r.head.ts),sl ib r.body.length bc] (j:Int) fn ⟨o,ih,ib,bc,rfl,hB⟩ (by have:=hG.out.1.len;rw[this,bm.out];exact (hF.rw r ad).rok) Ad2 σ h;have cm:Ad8 (∀c3,EQ (J6 M2 (j:Int) fn r) c3->∀σ,MOb σ om ot M2 d2 b->ACalls Tryz.prog 131 [ptr om 0,ag c3] σ fun x σ'=>∃M' d',MOb σ' om ot M' d' b/\KM om ot M2 M' σ σ'/\GroA D M2 M' d2 d'/\Room M' d' b/\d'<=1000000/\d2<=d'/\(¬b<d'->∀ν,(∀(l:Lit) (i:Nat),r.body[i]?=some l->l.neg=false->Bp l.a ν∈Ud M2 (j:Int) fn i l)->(∀l∈r.body,l.neg=true->¬D l.a.p.toNat (Bp l.a ν))->MD M' r.head.p.toNat (Bp r.head ν))):=fun c3 h3 σ hh=>
      Uc hF om ot b cb ca M2 d2 (by have:=hG.out.1.len;rw[this];exact bm.out) (hG.out.1.inD hD) (cg.gro hG.out.1) hG.out.2.1 Ad2 a8 r ad (j:Int) fn c3 h3 σ hh
     clear a6
     repeat' (first|refine Z1 ?_|(refine Z8 ?_;intro ya J)|(refine Z4 ?_;clear J ya)|(refine Z2 ?_ ?_<;>intro h ab<;>try exact Xp)|(refine Z5 ?_;first|(refine Xi (co _ (af.keep (Xs))) ?_;rintro _ _ ⟨⟨_,rfl,ih3,ip3,in3,pc3,nc3,rfl,cf,ch⟩,ba⟩;(have a0:=ba.nobj;have ax:=ba.obj;simp only[Ac,Aa]at a0 ax;have ck:=(((Keep.refl σ2).new _).put (Aak _) _).trans ba;have cn:=cm.out _ ⟨ih3,ip3,in3,pc3,nc3,rfl,cf,ch⟩))|(refine Xi (cn _ (af.keep (Xs))) ?_;rintro _ _ ⟨M3,d3,ci,ap,bh,ce,b6,a7,ah⟩;(have bn:Ad8 _:=bh;have bb:Ad8 _:=ah;clear bh ah;have kn3:=ap.nobj;simp only[Ac,Aa]at kn3;have bu:=ap.obj σ'.nobj (by simp only[Ac,Aa];omega) cq.symm cp.symm;have a9:=(au.trans (KM.ofKeep ((ck.new _).put Ad2 _))).trans ap)))|refine Z3 ?_|exact Zt|(apply J.out;clear J ya))
     have HN:Ad8 (GroA D M M3 d d3/\Room M3 d3 b/\(¬b<d3->(∀r∈R.take k,NewR D M M3 seen r r.body.length)/\NewR D M M3 seen r (j+1))):=by
      refine⟨hG.out.1.trans bn.out,ce,ac.out M3 d3 bn.out (fun a5 _ ν a1 a2=>bb.out a5 ν (fun l i hl av=>?_) (fun l hl av=>by
       have:=a1 l hl;unfold LitH at this;rw[av]at this
       simpa using this)) a7⟩
      have ao:=Aax hl;obtain⟨p',a4,-⟩:=(hF.rw r ad).rok.bp l ao;obtain⟨nw,e1,-,-⟩:=hG.out.1.ext p';unfold Ud;by_cases e:(i:Int)=(j:Int)
      ·rw[if_pos e];have:i=j:=Ad2;subst this;rw[HW.out]at hl;obtain rfl:=Ac9 hl;rw[a4]at a2⊢;rw[e1,List.drop_append];exact Ab2.2 (.inl a2)
      ·rw[if_neg e];have:=a1 l ao;unfold LitH MD at this;rw[av,a4]at this;simp only[Abq,if_false,Adi]at this;rw[a4,e1];exact Ab2.2 (.inl this)
     refine⟨r.body.length-(j+1),Ad2,j+1,M3,d3,?_⟩;have br:∀S:St,S.obj σ'.nobj=σ2.obj σ'.nobj->S.obj σ'.nobj=[sc (.bool o),ic r.head.p,sl ih r.head.ts.length (Ae r.head.ts),sl ib r.body.length bc]:=fun S e=>by rw[e,bo]
     have bq:=br _ (by rw[bu,Al Ad2,Ai Ad2,ax _ Ad2,Al Ad2,Ai Ad2])
     ((repeat' refine Zi ?_ ?_)<;>first|exact Xq|exact HN|exact ci|exact a9|exact bq|exact Xs)
    ·have b4:decide ((fn:Int)<(y.2.length:Int))=false:=by simp;omega
     have HN:Ad8 (GroA D M M2 d d2/\Room M2 d2 b/\(¬b<d2->(∀r∈R.take k,NewR D M M2 seen r r.body.length)/\NewR D M M2 seen r (j+1))):=by
      refine⟨hG.out.1,hG.out.2.1,ac.out M2 d2 (GroA.refl _ _ _) (fun _ _ ν _ a2=>?_) Ad2⟩;exfalso;obtain⟨nw,e1,-,-⟩:=hG.out.1.ext p;rw[cc.out]at e1;have b1:(Au M (p:Int)).length<=y.2.length:=by rw[e1];simp
      rw[hp,Aa0 Ad2]at a2;cases a2
     clear a6 ac
     repeat' (first|refine Z1 ?_|(refine Z8 ?_;intro ya J)|(refine Z4 ?_;clear J ya)|(refine Z2 ?_ ?_<;>intro h ab<;>try exact Xp)|refine Z3 ?_|exact Zt|(apply J.out;clear J ya))
     refine⟨r.body.length-(j+1),Ad2,j+1,M2,d2,?_⟩
     ((repeat' refine Zi ?_ ?_)<;>first|exact Xq|exact HN|exact (af.keep (((Keep.refl _).new _).put (Aak _) _))|exact (au.trans (KM.ofKeep (((Keep.refl _).new _).put (Aak _) _)))|exact Xs)
  ·have b3:j=r.body.length:=Ad2;subst b3;have HN:Ad8 (GroA D M M2 d d2/\Room M2 d2 b/\(¬b<d2->∀r∈R.take (k+1),NewR D M M2 seen r r.body.length)):=by
    obtain⟨g1,g2,g3⟩:=hG.out;refine⟨g1,g2,fun h r' az=>?_⟩;rw[cr.out]at az;rcases Ab2.1 az with h'|h'
    ·exact (g3 h).1 r' h'
    ·simp at h';subst h';exact (g3 h).2
   repeat' (first|refine Z1 ?_|(refine Z8 ?_;intro ya J)|(refine Z4 ?_;clear J ya)|(refine Z2 ?_ ?_<;>intro h ab<;>try exact Xp)|refine Z3 ?_|exact Zt|(apply J.out;clear J ya))
   refine⟨R.length-(k+1),Ad2,k+1,M2,d2,?_⟩
   ((repeat' refine Zi ?_ ?_)<;>first|exact Xq|exact HN|exact Xs)
 ·have b2:k=R.length:=Ad2;subst b2;obtain⟨g1,g2,g3⟩:=hG.out;rw[Aa3]at g3
  repeat' (first|refine Z1 ?_|(refine Z8 ?_;intro ya J)|(refine Z4 ?_;clear J ya)|(refine Z2 ?_ ?_<;>intro h ab<;>try exact Xp)|refine Z3 ?_|exact Zt|(apply J.out;clear J ya))
  first|exact⟨_,rfl,M1,d1,aw,an,g1,g2,am,ak,g3⟩|exact⟨M1,d1,aw,an,g1,g2,am,ak,g3⟩
theorem fX:∀(M M':MM),M'.length=M.length->(∀k:Nat,(Au M k).length<=(Au M' k).length)->(tot M<=tot M'/\(tot M'<=tot M->∀k:Nat,(Au M' k).length=(Au M k).length))
 |[],M',hl,h=>by
  have:M'=[]:=Aa1 (by simpa using hl);subst this;exact⟨Ac5 _,fun _ k=>rfl⟩
 |x::M,[],hl,h=>by simp at hl
 |x::M,y::M',hl,h=>by
  obtain⟨h1,h2⟩:=fX M M' (by simpa using hl) (fun k=>by have:=h (k+1);simpa[Au]using this);have h0:=h 0;simp[Au]at h0;rw[D8,D8];refine⟨Ad2,fun aa k=>?_⟩;cases k with
  |zero=>simp[Au];omega
  |succ k=>
   have:=h2 Ad2 k;simpa[Au]using this
theorem GroA.lens {D:Cq}{M M':MM}{d d':Int}(h:GroA D M M' d d')(k:Nat):(Au M k).length<=(Au M' k).length:=by
 obtain⟨n,e,-,-⟩:=h.ext k;rw[e];simp
theorem GroA.same {D:Cq}{M M':MM}{d d':Int}(h:GroA D M M' d d')(ht:tot M'<=tot M)(k:Nat):Au M' k=Au M k:=by
 have hl:=(fX M M' h.len h.lens).2 ht k;obtain⟨n,e,-,-⟩:=h.ext k;rw[e]at hl⊢;have:n=[]:=by simpa using hl
 rw[this,Abc]
theorem Tz {σ:St}{om ot:Nat}{M:MM}{d b:Int}(hM:MOb σ om ot M d b):∀n∈Hd M,0<=n/\n<=5000:=fun n hn=>by
 obtain⟨x,hx,rfl⟩:=Acf.1 hn;have:=hM.ln x hx;omega
theorem K4 (M:MM):(Hd M).length=M.length:=by simp[Hd]
theorem sR {M:MM}{k:Nat}(hk:k<M.length):((Hd M)[k]?).getD 0=((Au M (k:Int)).length:Int):=by
 have hg:M[k]?=some M[k]:=Aav hk;rw[B9 hg];simp[Hd,hk]
def yU (D:Cq)(R:List J7)(MS M1:MM):Prop:=∀r∈R,∀ν,(∀l∈r.body,LitH D (MD MS) ν l)->MD M1 r.head.p.toNat (Bp r.head ν)
theorem Td {N D:Cq}{ν:Nu}{l:Lit}(hn:l.neg=false)(h:LitH N D ν l):D l.a.p.toNat (Bp l.a ν):=by
 unfold LitH at h;rw[hn]at h;simpa using h
theorem dR {N D:Cq}{ν:Nu}{l:Lit}(hn:l.neg=true)(h:LitH N D ν l):¬N l.a.p.toNat (Bp l.a ν):=by
 unfold LitH at h;rw[hn]at h;simpa using h
theorem wE {np:Nat}{ar:Nat->Nat}{R:List J7}{D:Cq}{MS M1 M2:MM}{ds d1 d2:Int}(hF:wR np ar R D)(hn:MS.length=np)(hS:GroA D MS M1 ds d1)(hB:yU D R MS M1)(h2:GroA D M1 M2 d1 d2)(hN:∀r∈R,NewR D M1 M2 (Hd MS) r r.body.length):yU D R M1 M2:=fun r hr ν h=>by
 by_cases ac:∀l∈r.body,LitH D (MD MS) ν l
 ·exact h2.sub (hB r hr ν ac)
 ·obtain⟨l,hl⟩:∃l,¬(l∈r.body->LitH D (MD MS) ν l):=Classical.not_forall.1 ac;have ad:l∈r.body:=Classical.byContradiction fun hh=>hl (fun h'=>absurd h' hh);have ae:¬LitH D (MD MS) ν l:=fun hh=>hl (fun _=>hh);have ab:l.neg=false:=by
   cases hc:l.neg with
   |false=>rfl
   |true=>
    exfalso;have:=dR hc (h l ad);exact ae (by unfold LitH;rw[hc];simpa using this)
  have aa:¬MD MS l.a.p.toNat (Bp l.a ν):=fun hh=>ae (by unfold LitH;rw[ab];simpa using hh);obtain⟨i,hi⟩:=Acp ad;have af:=(Aau.1 hi).1;obtain⟨k,hk,ah⟩:=(hF.rw r hr).rok.bp l ad;refine hN r hr i l af hi ab ν h ?_;obtain⟨nw,e,-,-⟩:=hS.ext k;have hm:=Td ab (h l ad);unfold MD at hm aa;rw[hk]at hm aa⊢;rw[Adi]at hm aa;rw[Adi,sR Ad2,Adi];rw[e]at hm⊢;rw[List.drop_left];rcases Ab2.1 hm with h'|h'
  ·exact absurd h' aa
  ·exact h'
theorem T7 {R:List J7}{D:Cq}{MS M1:MM}{np:Nat}{ar:Nat->Nat}{ds d1:Int}(hF:wR np ar R D)(hS:GroA D MS M1 ds d1)(hB:yU D R MS M1)(ht:tot M1<=tot MS):tT R D (MD M1):=fun r hr ν h=>hB r hr ν (fun l hl=>by
 have:=h l hl;unfold LitH at this⊢;split
 ·rename_i hc;rw[if_pos hc]at this;exact this
 ·rename_i hc;rw[if_neg hc]at this;obtain⟨k,hk,-⟩:=(hF.rw r hr).rok.bp l hl;unfold MD at this⊢;rw[hk]at this⊢;rw[Adi]at this⊢;rw[hS.same ht k]at this
  exact this)
theorem Of {np:Nat}{ar:Nat->Nat}{R:List J7}{D:Cq}(hF:wR np ar R D)(om ot:Nat)(b:Int)(bo: -1000000<=b)(bn:b<=900000)(M:MM)(d:Int)(hn:M.length=np)(hD:∀k t,MD M k t->D k t)(br:NgIn R D M)(b6:Room M d b)(ck: -1000000<=d)(b4:d<=1000000)(rc:List AV)(idr:Nat)(a7:EL tS R rc)(b7:R.length<=1000)(σ:St)(hM:MOb σ om ot M d b):
  ACalls Tryz.prog 78 [ptr om 0,sl idr R.length rc] σ fun x σ'=>∃M' d',MOb σ' om ot M' d' b/\KM om ot M M' σ σ'/\GroA D M M' d d'/\d<=d'/\d'<=1000000/\(¬b<d'->tT R D (MD M')):=by
 have ci:=EL.length Zn a7;have b0:=hM.pl;have bj:=fun (M:MM) (d:Int) σ (h:MOb σ om ot M d b)=>Y4 om ot M d b σ h;have bz:=bj M d;have a4:Ad8 (M.length=np):=hn;have cj:M.length<=np/\np<=M.length:=Ad2;clear hn;refine Z9 43 [] Tryz.func78 ?_
 repeat' (first|refine Z1 ?_|(refine Z8 ?_;intro ya J)|(refine Z4 ?_;clear J ya)|(refine Z2 ?_ ?_<;>intro h af<;>try exact Xp)|(refine Z5 ?_;refine Xi (bz _ (hM.keep (Xs))) ?_;rintro _ _ ⟨⟨id0,rfl⟩,bi⟩)|refine Z3 ?_|exact Zt|(apply J.out;clear J ya))
 rename_i σ0
 refine Ab (fun m s σ'=>∃(k:Nat) (M1:MM) (d1:Int),m=R.length-k/\k<=R.length/\s 0=ptr om 0/\s 1=sl idr R.length rc/\s 4=sl id0 M.length (Aj (Hd M))/\s 11=sl idr R.length rc/\s 12=ic R.length/\s 13=ic k/\MOb σ' om ot M1 d1 b/\KM om ot M M1 σ σ'/\d1<=1000000/\d<=d1/\Ad8 (GroA D M M1 d d1/\Room M1 d1 b/\(¬b<d1->yU D (R.take k) M M1))) R.length
  ⟨0,M,d,Ad2,Ad2,by simp[upd,initS],by simp[upd,initS],Ad4,by simp[upd,initS],Ad4,rfl,hM.keep bi,KM.ofKeep bi,b4,Ad2,GroA.refl _ _ _,b6,fun _ r hr=>by simp at hr⟩ ?_
 clear bi bz;rintro m s σ' ⟨k,M1,d1,rfl,hk,h0,h1,h4,cg,cf,ce,aa,ac,ab,ad,hG⟩;by_cases a8:k<R.length
 ·have ai:=Aav a8;obtain⟨o,ih,ib,bc,rr,hd,hB⟩:=mG a7 ai;have ah:=Ab1 a8;generalize R[k]=r at hd ai ah hB;have ch:Ad8 (R.take (k+1)=R.take k++[r]):=by rw[Ad8,Aa8,ai,Ab9]
  clear ai;have ak:M1.length=np:=by have:=hG.out.1.len;rw[this];exact a4.out
  have cd:=fun σ (h:MOb σ om ot M1 d1 b)=>Xx om ot M1 d1 b r [sc (.bool o),ic r.head.p,sl ih r.head.ts.length (Ae r.head.ts),sl ib r.body.length bc] (-1) 0 ⟨o,ih,ib,bc,rfl,hB⟩ (by rw[ak];exact (hF.rw r ah).rok) Ad2 σ h;have ca:Ad8 (∀c3,EQ (J6 M1 (-1) 0 r) c3->∀σ,MOb σ om ot M1 d1 b->ACalls Tryz.prog 131 [ptr om 0,ag c3] σ fun x σ'=>∃M' d',MOb σ' om ot M' d' b/\KM om ot M1 M' σ σ'/\GroA D M1 M' d1 d'/\Room M' d' b/\d'<=1000000/\d1<=d'/\(¬b<d'->∀ν,(∀(l:Lit) (i:Nat),r.body[i]?=some l->l.neg=false->Bp l.a ν∈Ud M1 (-1) 0 i l)->(∀l∈r.body,l.neg=true->¬D l.a.p.toNat (Bp l.a ν))->MD M' r.head.p.toNat (Bp r.head ν))):=fun c3 h3 σ hh=>
   Uc hF om ot b bo bn M1 d1 ak (hG.out.1.inD hD) (br.gro hG.out.1) hG.out.2.1 Ad2 ab r ah (-1) 0 c3 h3 σ hh
  clear ak;have l1:=aa.lo;have l2:=aa.lt
  repeat' (first|refine Z1 ?_|(refine Z8 ?_;intro ya J)|(refine Z4 ?_;clear J ya)|(refine Z2 ?_ ?_<;>intro h af<;>try exact Xp)|(refine Z5 ?_;first|(refine Xi (cd _ (aa.keep (Xs))) ?_;rintro _ _ ⟨⟨_,rfl,ih3,ip3,in3,pc3,nc3,rfl,b8,b9⟩,bg⟩;(have a6:=bg.nobj;have a5:=bg.obj;simp only[Ac,Aa]at a6 a5;have aw:=(((Keep.refl σ').new _).put (Aak _) _).trans bg;have cb:=ca.out _ ⟨ih3,ip3,in3,pc3,nc3,rfl,b8,b9⟩))|(refine Xi (cb _ (aa.keep (Xs))) ?_;rintro _ _ ⟨M3,d3,a3,an,ax,bd,bb,ba,ae⟩;(have ap:Ad8 _:=ax;have ao:Ad8 _:=ae;clear ax ae;have am:=(ac.trans (KM.ofKeep ((aw.new _).put Ad2 _))).trans an)))|refine Z3 ?_|exact Zt|(apply J.out;clear J ya))
  have HN:Ad8 (GroA D M M3 d d3/\Room M3 d3 b/\(¬b<d3->yU D (R.take (k+1)) M M3)):=by
   refine⟨hG.out.1.trans ap.out,bd,fun aj r' bl ν a1=>?_⟩;rw[ch.out]at bl;rcases Ab2.1 bl with h'|h'
   ·exact ap.out.sub (hG.out.2.2 Ad2 r' h' ν a1)
   ·simp at h';subst h';refine ao.out aj ν (fun l i hl a9=>?_) (fun l hl a9=>dR a9 (a1 l hl));have bm:=Aax hl;obtain⟨p',b1,-⟩:=(hF.rw r' ah).rok.bp l bm;unfold Ud;rw[if_neg Ad2];have:=Td a9 (a1 l bm);unfold MD at this;rw[b1]at this⊢;exact hG.out.1.sub this
  refine⟨R.length-(k+1),Ad2,k+1,M3,d3,?_⟩
  ((repeat' refine Zi ?_ ?_)<;>first|exact Xq|exact HN|exact a3|exact am|exact Xs)
 ·have b2:k=R.length:=Ad2;subst b2;rw[Aa3]at hG;have bw:=bj M1 d1
  repeat' (first|refine Z1 ?_|(refine Z8 ?_;intro ya J)|(refine Z4 ?_;clear J ya)|(refine Z2 ?_ ?_<;>intro h af<;>try exact Xp)|(refine Z5 ?_;refine Xi (bw _ (aa.keep (Xs))) ?_;rintro _ _ ⟨⟨id1,rfl⟩,bh⟩)|refine Z3 ?_|exact Zt|(apply J.out;clear J ya))
  rename_i σ1
  refine Ab (fun m s σ'=>∃(MS M1:MM) (ds d1:Int) (ia ib:Nat),m=2*(b-d1+1).toNat+(if tot MS<tot M1 then 1 else 0)/\s 0=ptr om 0/\s 1=sl idr R.length rc/\s 4=sl ia MS.length (Aj (Hd MS))/\s 8=sl ib M1.length (Aj (Hd M1))/\MOb σ' om ot M1 d1 b/\KM om ot M M1 σ σ'/\d1<=1000000/\d<=d1/\MS.length<=5000/\(∀n∈Hd MS,0<=n/\n<=5000)/\Ad8 (MS.length=np/\GroA D M M1 d d1/\GroA D MS M1 ds d1/\Room M1 d1 b/\(¬b<d1->yU D R MS M1))) (2*(b-d1+1).toNat+(if tot M<tot M1 then 1 else 0))
   ⟨M,M1,d,d1,id0,id1,rfl,Ad3,Ad3,Ad3,Ad4,aa.keep bh,ac.trans (KM.ofKeep bh),ab,ad,b0,Tz hM,a4.out,hG.out.1,hG.out.1,hG.out.2.1,hG.out.2.2⟩ ?_
  clear h0 h1 h4 cg cf ce aa ac ab ad hG bh bw a8 hk;rintro m s σ2 ⟨MS,M1,ds,d1,ia,ib,rfl,h0,h1,h4,h8,aa,ac,ab,ad,cm,bq,hG⟩;have av:=Mw om ot M1 d1 b;have az:=fun (id:Nat) σ=>Qc (Hd M1) id (by rw[K4];have:=aa.pl;omega) (fun n hn=>by have:=Tz aa n hn;omega) σ;have a0:=fun (id:Nat) σ=>Qc (Hd MS) id (by rw[K4];omega) (fun n hn=>by have:=bq n hn;omega) σ;rw[show (Hd M1).sum=tot M1 from rfl]at az;rw[show (Hd MS).sum=tot MS from rfl]at a0;rw[K4]at az a0;by_cases ay:b<d1
  ·rw[show decide (b<d1)=true from by simpa using ay]at av
   repeat' (first|refine Z1 ?_|(refine Z8 ?_;intro ya J)|(refine Z4 ?_;clear J ya)|(refine Z2 ?_ ?_<;>intro h af<;>try exact Xp)|(refine Z5 ?_;refine Xi (av _ (aa.keep (Xs))) ?_;rintro _ _ ⟨rfl,rfl⟩)|refine Z3 ?_|exact Zt|(apply J.out;clear J ya))
   first|exact⟨_,rfl,M1,d1,aa,ac,hG.out.2.1,ad,ab,fun h=>absurd ay h⟩|exact⟨M1,d1,aa,ac,hG.out.2.1,ad,ab,fun h=>absurd ay h⟩
  ·rw[show decide (b<d1)=false from by simpa using ay]at av;by_cases bk:tot MS<tot M1
   ·have b3:decide (tot M1>tot MS)=true:=by simpa using bk
    have bv:=fun σ (h:MOb σ om ot M1 d1 b)=>Qt hF om ot b bo bn M1 d1 (hG.out.2.1.len.trans a4.out) (hG.out.2.1.inD hD) (br.gro hG.out.2.1) hG.out.2.2.2.1 Ad2 ab rc idr a7 b7 (Hd MS) ia (by rw[K4];exact hG.out.1) bq σ h;rw[K4]at bv;rw[if_pos bk]
    repeat' (first|refine Z1 ?_|(refine Z8 ?_;intro ya J)|(refine Z4 ?_;clear J ya)|(refine Z2 ?_ ?_<;>intro h af<;>try exact Xp)|(refine Z5 ?_;first|(refine Xi (av _ (aa.keep (Xs))) ?_;rintro _ _ ⟨rfl,rfl⟩)|(refine Xi (az _ _) ?_;rintro _ _ ⟨rfl,bf⟩;(have aw:=bf))|(refine Xi (a0 _ _) ?_;rintro _ _ ⟨rfl,be⟩;(have au:=aw.trans be))|(refine Xi (bv _ (aa.keep (Xs))) ?_;rintro _ _ ⟨M3,d3,a3,an,ax,bd,bb,ba,ae⟩;(have ap:Ad8 _:=ax;have ao:Ad8 _:=ae;clear ax ae;have am:=(ac.trans (KM.ofKeep au)).trans an;have cc:=bj M3 d3))|(refine Xi (cc _ (a3.keep (Xs))) ?_;rintro _ _ ⟨⟨ic3,rfl⟩,bu⟩))|refine Z3 ?_|exact Zt|(apply J.out;clear J ya))
    have b5:=ap.out.cnt;refine⟨2*(b-d3+1).toNat+(if tot M1<tot M3 then 1 else 0),by split<;>omega,M1,M3,d1,d3,ib,ic3,?_⟩
    have HN:Ad8 (M1.length=np/\GroA D M M3 d d3/\GroA D M1 M3 d1 d3/\Room M3 d3 b/\(¬b<d3->yU D R M1 M3)):=
     ⟨hG.out.2.1.len.trans a4.out,hG.out.2.1.trans ap.out,ap.out,bd,fun aj=>wE hF hG.out.1 hG.out.2.2.1 (hG.out.2.2.2.2 Ad2) ap.out (ao.out aj)⟩
    ((repeat' refine Zi ?_ ?_)<;>first|exact Xq|exact HN|exact (a3.keep bu)|exact (am.trans (KM.ofKeep bu))|exact aa.pl|exact (Tz aa)|exact Xs)
   ·have b3:decide (tot M1>tot MS)=false:=by simp;omega
    repeat' (first|refine Z1 ?_|(refine Z8 ?_;intro ya J)|(refine Z4 ?_;clear J ya)|(refine Z2 ?_ ?_<;>intro h af<;>try exact Xp)|(refine Z5 ?_;first|(refine Xi (av _ (aa.keep (Xs))) ?_;rintro _ _ ⟨rfl,rfl⟩)|(refine Xi (az _ _) ?_;rintro _ _ ⟨rfl,bf⟩;(have aw:=bf))|(refine Xi (a0 _ _) ?_;rintro _ _ ⟨rfl,be⟩;(have au:=aw.trans be)))|refine Z3 ?_|exact Zt|(apply J.out;clear J ya))
    first|exact⟨_,rfl,M1,d1,aa.keep au,ac.trans (KM.ofKeep au),hG.out.2.1,ad,ab,fun aj=>T7 hF hG.out.2.2.1 (hG.out.2.2.2.2 aj) Ad2⟩|exact⟨M1,d1,aa.keep au,ac.trans (KM.ofKeep au),hG.out.2.1,ad,ab,fun aj=>T7 hF hG.out.2.2.1 (hG.out.2.2.2.2 aj) Ad2⟩
theorem tZ {ar:Nat->Nat}{a:Ee}{ν:Nu}{k:Nat}(h3:a.ts.length<=3)(har:a.ts.length=ar k)(h:Sh ar k (Bp a ν)):∀t∈a.ts,∃n:Nat,H5 ν t=(n:Int)/\n<1026:=by
 obtain⟨l,e,hl,hx⟩:=h;intro t ht;obtain⟨i,hi⟩:=Acp ht;have ab:=(Aau.1 hi).1;have h2:(a.ts.map (H5 ν))[i]?=some (H5 ν t):=by rw[Aa6,hi];rfl
 have aa:i<l.length:=Ad2;have h4:l[i]?=some l[i]:=Aav aa;have h5:H5 ν t=l[i]:=by
  unfold Bp C8 at e;simp only[List.cons.injEq,and_true]at e;obtain⟨e0,e1,e2⟩:=e;have:i=0\/i=1\/i=2:=Ad2;rcases this with rfl|rfl|rfl
  ·rw[h2,h4]at e0;exact e0
  ·rw[h2,h4]at e1;exact e1
  ·rw[h2,h4]at e2;exact e2
 rw[h5];exact hx _ (Ab1 aa)
theorem gE {np:Nat}{ar:Nat->Nat}{R:List J7}{N:Cq}(h:∀r∈R,RW np ar r):tT R N (Sh ar):=fun r hr ν hb=>by
 have hw:=h r hr;refine⟨r.head.ts.map (H5 ν),rfl,by rw[Ace];exact hw.har,fun x hx=>?_⟩;obtain⟨t,ht,rfl⟩:=Acf.1 hx;obtain⟨tv,tn⟩:=t;cases tv with
 |false=>exact hw.hc _ ht rfl
 |true=>
  obtain⟨l,hl,hn,hv⟩:=hw.safe tn (.inl (by rw[hasV_iff];exact ht));exact tZ (hw.rok.ba l hl) (hw.bar l hl) (Td hn (hb l hl)) _ (hasV_iff.1 hv)
def LstG (R:List J7)(B:Cq):Cq:=fun k t=>∀D:Cq,(∀k t,B k t->D k t)->tT R B D->D k t
theorem LstG.base {R:List J7}{B:Cq}{k:Nat}{t:Bj}(h:B k t):LstG R B k t:=fun D hB _=>hB k t h
theorem LitH.mono {N D D':Cq}{ν:Nu}{l:Lit}(h:LitH N D ν l)(hD:∀k t,D k t->D' k t):LitH N D' ν l:=by
 unfold LitH at h⊢;split
 ·rename_i hc;rw[if_pos hc]at h;exact h
 ·rename_i hc;rw[if_neg hc]at h;exact hD _ _ h
theorem LitH.anti {N N' D:Cq}{ν:Nu}{l:Lit}(h:LitH N D ν l)(hN:l.neg=true->N' l.a.p.toNat (Bp l.a ν)->N l.a.p.toNat (Bp l.a ν)):LitH N' D ν l:=by
 unfold LitH at h⊢;split
 ·rename_i hc;rw[if_pos hc]at h;exact fun g=>h (hN hc g)
 ·rename_i hc;rw[if_neg hc]at h;exact h
theorem LstG.cl (R:List J7)(B:Cq):tT R B (LstG R B):=fun r hr ν h D hB hC=>hC r hr ν (fun l hl=>(h l hl).mono (fun k t g=>g D hB hC))
theorem LstG.nonhead {R:List J7}{B:Cq}{k:Nat}{t:Bj}(hk:∀r∈R,r.head.p.toNat≠k)(h:LstG R B k t):B k t:=by
 have:=h (fun j u=>j=k->B j u) (fun j u g _=>g) (fun r hr ν _ e=>absurd e (hk r hr));exact this rfl
theorem LstG.least {R:List J7}{B D:Cq}(hB:∀k t,B k t->D k t)(hC:tT R B D){k:Nat}{t:Bj}(h:LstG R B k t):D k t:=h D hB hC
def Apart (R:List J7):Prop:=∀r∈R,∀l∈r.body,l.neg=true->∀r'∈R,r'.head.p.toNat≠l.a.p.toNat
theorem sD {np:Nat}{ar:Nat->Nat}{R:List J7}{B:Cq}(hR:∀r∈R,RW np ar r)(hB:∀k t,B k t->Sh ar k t):wR np ar R (LstG R B):=
 ⟨hR,fun r hr ν h=>LstG.cl R B r hr ν (fun l hl=>(h l hl).anti (fun _ g=>LstG.base g)),fun k t h=>h.least hB (gE hR)⟩
theorem vG {R:List J7}{B:Cq}{M:MM}(hA:Apart R)(hB:∀k t,B k t->MD M k t):NgIn R (LstG R B) M:=fun r hr l hl hn t ht=>hB _ _ (ht.nonhead (hA r hr l hl hn))
theorem oO {R:List J7}{B:Cq}{M':MM}(hA:Apart R)(hB:∀k t,B k t->MD M' k t)(hC:tT R (LstG R B) (MD M')){k:Nat}{t:Bj}(h:LstG R B k t):MD M' k t:=
 h.least hB (fun r hr ν g=>hC r hr ν (fun l hl=>(g l hl).anti (fun hn e=>e.nonhead (hA r hr l hl hn))))
def DX (ar:Nat->Nat)(R:List J7)(M:MM):Cq:=fun k t=>Sh ar k t/\((∃r∈R,∃l∈r.body,l.neg=true/\l.a.p.toNat=k)->MD M k t)
theorem sE {np:Nat}{ar:Nat->Nat}{R:List J7}{M:MM}(hR:∀r∈R,RW np ar r)(hA:Apart R):wR np ar R (DX ar R M):=
 ⟨hR,fun r hr ν h=>⟨gE (N:=DX ar R M) hR r hr ν (fun l hl=>(h l hl).mono (fun _ _ g=>g.1)),fun⟨r',aa,l',ac,ab,e⟩=>absurd e.symm (hA r' aa l' ac ab r hr)⟩,fun k t h=>h.1⟩
theorem vH {ar:Nat->Nat}{R:List J7}{M:MM}:NgIn R (DX ar R M) M:=fun r hr l hl hn t ht=>ht.2 ⟨r,hr,l,hl,hn,rfl⟩
theorem uO {D:Cq}{M M':MM}{d d' b:Int}(h:GroA D M M' d d')(hb:tot M-d+b<=4000):Room M' d' b:=fun x hx=>by
 have h1:=h.cnt;obtain⟨k,hk⟩:=Acp hx;have:∀(M:MM) (k:Nat) (x:Nat×List Bj),M[k]?=some x->(x.2.length:Int)<=tot M:=by
  intro M;induction M with
  |nil=>intro k x h;simp at h
  |cons y M ih=>
   intro k x h;have hn:0<=tot M:=by
    clear ih h;induction M with
    |nil=>simp[tot,Hd]
    |cons z M ih=>rw[D8];omega
   rw[D8];cases k with
   |zero=>simp at h;subst h;omega
   |succ k=>have:=ih k x (by simpa using h);omega
 have:=this M' k x hk;omega
structure MkM (np:Nat)(F:List Ee)(M:MM):Prop where
 len:M.length=np
 nd:∀x∈M,x.2.Nodup
 mem:∀(k:Nat) (t:Bj),MD M k t↔∃a∈F,a.p=(k:Int)/\t=Cx a
 tot:tot M<=F.length
theorem aK {M:MM}{k:Nat}{x:Nat×List Bj}(h:M[k]?=some x):Au M (k:Int)=x.2:=B9 h
theorem MkM.nil (np:Nat):MkM np [] (List.replicate np (1,[])):=by
 refine⟨by simp,fun x hx=>?_,fun k t=>⟨fun h=>?_,fun⟨a,ha,_⟩=>by simp at ha⟩,?_⟩
 ·rw[(Adm.1 hx).2];exact Ac3
 ·exfalso;unfold MD at h;by_cases hk:k<np
  ·rw[aK (x:=(1,[])) (by rw[List.getElem?_replicate,if_pos hk])]at h;simp at h
  ·unfold Au at h;simp[hk]at h
 ·have:∀n:Nat,Go.Proofs.YtmoeoppbmhfbpaaGreatDoorH.tot (List.replicate n ((1:Nat),([]:List Bj)))=0:=by
   intro n;induction n with
   |zero=>rfl
   |succ n ih=>rw[Abe,D8,ih];rfl
  rw[this];simp
theorem MkM.has {np:Nat}{F:List Ee}{M:MM}{a:Ee}{k:Nat}{x:Nat×List Bj}(h:MkM np F M)(hk:a.p=(k:Int))(hx:M[k]?=some x)(hm:Cx a∈x.2):MkM np (F++[a]) M:=by
 refine⟨h.len,h.nd,fun j t=>?_,by have:=h.tot;simp;omega⟩;rw[h.mem j t];constructor
 ·rintro⟨b,hb,h1,h2⟩;exact⟨b,Adk _ hb,h1,h2⟩
 ·rintro⟨b,hb,h1,h2⟩;rcases Ab2.1 hb with h'|h'
  ·exact⟨b,h',h1,h2⟩
  ·rw[Acx]at h';subst h';have aa:j=k:=Ad2;subst aa;refine (h.mem j t).1 ?_;unfold MD;rw[B9 hx,h2];exact hm
theorem MkM.add {np:Nat}{F:List Ee}{M:MM}{a:Ee}{k id':Nat}{x:Nat×List Bj}(h:MkM np F M)(hk:a.p=(k:Int))(hx:M[k]?=some x)(hm:Cx a∉x.2):MkM np (F++[a]) (M.set k (id',x.2++[Cx a])):=by
 have ac:k<M.length:=(Aau.1 hx).1;have ab:Au (M.set k (id',x.2++[Cx a])) (k:Int)=x.2++[Cx a]:=B9 (x:=(id',x.2++[Cx a])) (by rw[Aa4,if_pos rfl,if_pos ac]);have aa:∀j:Nat,j≠k->(M.set k (id',x.2++[Cx a]))[j]?=M[j]?:=fun j hj=>by rw[Aa4,if_neg (fun e=>hj e.symm)]
 refine⟨by simp[h.len],fun y hy=>?_,fun j t=>?_,?_⟩
 ·rcases Adh hy with h'|rfl
  ·exact h.nd y h'
  ·rw[Adf];exact⟨h.nd x (Aax hx),by simp,fun u hu v hv e=>hm (by rw[Acx]at hv;rw[<-hv,<-e];exact hu)⟩
 ·by_cases hj:j=k
  ·subst hj;unfold MD;rw[ab,Ab2,Acx];have hM:=h.mem j t;unfold MD at hM;rw[B9 hx]at hM;rw[hM];constructor
   ·rintro (⟨b,hb,h1,h2⟩|h')
    ·exact⟨b,Adk _ hb,h1,h2⟩
    ·exact⟨a,by simp,hk,h'⟩
   ·rintro⟨b,hb,h1,h2⟩;rcases Ab2.1 hb with h'|h'
    ·exact .inl ⟨b,h',h1,h2⟩
    ·rw[Acx]at h';subst h';exact .inr h2
  ·have hM:=h.mem j t;unfold MD Au at hM⊢;rw[Adi]at hM⊢;rw[aa j hj,hM];constructor
   ·rintro⟨b,hb,h1,h2⟩;exact⟨b,Adk _ hb,h1,h2⟩
   ·rintro⟨b,hb,h1,h2⟩;rcases Ab2.1 hb with h'|h'
    ·exact⟨b,h',h1,h2⟩
    ·rw[Acx]at h';subst h';omega
 ·have:=Nh M (M.set k (id',x.2++[Cx a])) k 1 (by simp) (fun j hj=>by rw[aa j hj]) (fun _=>by rw[ab,B9 hx];simp) (fun h'=>Ad2);have h2:=h.tot;simp;omega
structure MPt (σ:St)(ot:Nat)(M:MM):Prop where
 oc:σ.obj ot=Ez M
 lt:ot<σ.nobj
 live:∀x∈M,Live σ x.1 x.2.length
 inj:∀(i j:Nat) (x y:Nat×List Bj),M[i]?=some x->M[j]?=some y->i≠j->x.1=1\/x.1≠y.1
 t3:∀x∈M,T3 x.2
 ln:∀x∈M,x.2.length<=5000
 pl:M.length<=5000
theorem MPt.keep {σ σ':St}{ot:Nat}{M:MM}(h:MPt σ ot M)(k:Keep σ σ'):MPt σ' ot M:=⟨(k.obj _ h.lt).trans h.oc,Aam h.lt k.nobj,fun x hx=>(h.live x hx).keep k,h.inj,h.t3,h.ln,h.pl⟩
theorem MPt.mob {σ:St}{om ot:Nat}{M:MM}{d b:Int}(h:MPt σ ot M)(ho:σ.obj om=[fx ot 0 M.length,ic d,ic b])(hl:om<σ.nobj)(hn:om≠ot):MOb σ om ot M d b:=⟨ho,h.oc,hl,h.lt,hn,h.live,h.inj,h.t3,h.ln,h.pl⟩
theorem MOb.mpt {σ:St}{om ot:Nat}{M:MM}{d b:Int}(h:MOb σ om ot M d b):MPt σ ot M:=⟨h.oc,h.lt,h.live,h.inj,h.t3,h.ln,h.pl⟩
theorem Keep.km {σ0 σ σ':St}{om ot:Nat}{M M':MM}(hK:Keep σ0 σ)(h:KM om ot M M' σ σ')(hm:σ0.nobj<=om)(ht:σ0.nobj<=ot)(hM:∀x∈M,x.1=1):Keep σ0 σ':=
 ⟨Aal hK.nobj h.nobj,fun o ho=>(h.obj o (Aam ho hK.nobj) Ad2 Ad2).trans (hK.obj o ho),fun o ho=>(h.ver o (Aam ho hK.nobj) Ad2 Ad2).trans (hK.ver o ho),Aal hK.ntop h.ntop,fun k hk=>(h.top k (Aam hk hK.ntop) (fun x hx e=>by rw[hM x hx]at e;omega)).trans (hK.top k hk)⟩
theorem dO (np:Nat):Ez (List.replicate np (1,[]))=List.replicate np nilS:=by
 unfold Ez;rw[List.map_replicate];rfl
theorem To (np:Nat)(F:List Ee)(cs:List AV)(idf:Nat)(b:Int)(hF:EL Ot F cs)(hn:np<=5000)(bi:F.length<=1000)(bc:∀a∈F,a.ts.length<=3/\∃k:Nat,a.p=(k:Int)/\k<np)(σ:St):
  ACalls Tryz.prog 46 [ic np,sl idf F.length cs,ic b] σ fun r σ'=>∃ot M,r=ag [fx ot 0 np,ic 0,ic b]/\MkM np F M/\Keep σ σ'/\σ.nobj<=ot/\MPt σ' ot M/\(∀x∈M,x.1=1\/σ.ntop+2<=x.1):=by
 have bh:=EL.length Hg hF;refine Z9 27 [.cell 6 74] Tryz.func46 ?_
 repeat' (first|refine Z1 ?_|(refine Z8 ?_;intro ya J)|(refine Z4 ?_;clear J ya)|(refine Z2 ?_ ?_<;>intro h ab<;>try exact Xp)|refine Z3 ?_|exact Zt|(apply J.out;clear J ya))
 obtain⟨σ0,hσ0⟩:∃τ,τ=((((σ.new [nilS,ic 0,ic 0]).new (List.replicate np nilS)).new [nilS,ic 0,ic 0]).put (σ.nobj+1+1) [fx (σ.nobj+1) 0 np,ic 0,ic b]):=⟨_,rfl⟩;rw[<-hσ0];have az:Keep σ σ0:=by rw[hσ0];exact Xs
 have bd:σ0.nobj=σ.nobj+3:=by rw[hσ0];rfl
 have av:σ0.obj σ.nobj=[nilS,ic 0,ic 0]:=by rw[hσ0,Al Ad2,Ai Ad6,Ai Ad6,Am]
 have ax:MOb σ0 (σ.nobj+2) (σ.nobj+1) (List.replicate np (1,[])) 0 b:=
  ⟨by rw[hσ0,Ak];simp,by rw[dO,hσ0,Al Ad2,Ai Ad6,Cd Ad6 Ad6],Ad2,Ad2,Ad2,fun x hx=>by rw[(Adm.1 hx).2];exact .inl ⟨rfl,rfl⟩,fun i j x y hx hy _=>.inl (by rw[(Adm.1 (Aax hx)).2]),fun x hx=>by rw[(Adm.1 hx).2];intro t ht;simp at ht,fun x hx=>by rw[(Adm.1 hx).2];simp,by simpa using hn⟩
 refine Ab (fun m s σ'=>∃(i:Nat) (M:MM),m=F.length-i/\i<=F.length/\s 6=ptr σ.nobj 0/\s 7=ptr (σ.nobj+2) 0/\s 14=sl idf F.length cs/\s 15=ic F.length/\s 16=ic i/\MOb σ' (σ.nobj+2) (σ.nobj+1) M 0 b/\KM (σ.nobj+2) (σ.nobj+1) (List.replicate np (1,[])) M σ0 σ'/\σ'.obj σ.nobj=[nilS,ic 0,ic 0]/\Ad8 (MkM np (F.take i) M)) F.length
  ⟨0,List.replicate np (1,[]),Ad2,Ad2,Ad4,Ad4,Ad4,Ad4,Ad4,ax,KM.ofKeep (Keep.refl _),av,MkM.nil np⟩ ?_
 clear ax av hσ0;rintro m s σ' ⟨i,M,rfl,hi,h6,h7,bl,bk,bj,hM,ai,hq,hI⟩;have be:=ai.nobj;by_cases aw:i<F.length
 ·have aa:=Aav aw;obtain⟨id,rr,hd⟩:=Il hF aa;obtain⟨ap,k,ae,bg⟩:=bc _ (Ab1 aw);generalize F[i]=a at aa hd ap ae;have am:=hI.out.len;have hx:=Aav (l:=M) (i:=k) Ad2;generalize M[k]'Ad2=x at hx;have a0:Ad8 (F.take (i+1)=F.take i++[a]):=by rw[Ad8,Aa8,aa,Ab9]
  clear aa;have a5:x.2.length<5000:=by
   have h1:=hI.out.tot;have h2:(x.2.length:Int)<=Go.Proofs.YtmoeoppbmhfbpaaGreatDoorH.tot M:=by
    have hg:∀(M:MM) (k:Nat) (x:Nat×List Bj),M[k]?=some x->(x.2.length:Int)<=Go.Proofs.YtmoeoppbmhfbpaaGreatDoorH.tot M:=by
     intro M;induction M with
     |nil=>intro k x h;simp at h
     |cons y M ih=>
      intro k x h;rw[D8];have hp:∀M:MM,0<=Go.Proofs.YtmoeoppbmhfbpaaGreatDoorH.tot M:=by
       intro M;induction M with
       |nil=>exact Ac5 _
       |cons y M ih=>rw[D8];omega
      cases k with
      |zero=>simp at h;subst h;have:=hp M;omega
      |succ k=>have:=ih k x (by simpa using h);omega
    exact hg M k x hx
   rw[Abk]at h1;omega
  have ak:=fun σ (h:MOb σ (σ0.nobj-1) (σ0.nobj-2) M 0 b)=>Jy (σ0.nobj-1) (σ0.nobj-2) M 0 b a id k x ap ae hx σ h;have ay:=fun σ (h:MOb σ (σ0.nobj-1) (σ0.nobj-2) M 0 b)=>Tq (σ0.nobj-1) (σ0.nobj-2) M 0 b a id k x ap ae hx a5 σ h;rw[show σ0.nobj-1=σ.nobj+2 by omega,show σ0.nobj-2=σ.nobj+1 by omega]at ak ay;have HX:Ad8 (M[k]?=some x):=hx;have a4:Ad8 (a.p=(k:Int)):=ae;clear hx ae am;by_cases ad:Cx a∈x.2
  ·rw[show decide (Cx a∈x.2)=true by simpa using ad]at ak;have HN:Ad8 (MkM np (F.take (i+1)) M):=by rw[Ad8,a0.out];exact hI.out.has a4.out HX.out ad
   clear ad hI;have af:Keep σ' ((σ'.new [ic 0,nilS]).put σ'.nobj [ic a.p,sl id a.ts.length (Ae a.ts)]):=((Keep.refl σ').new _).put (Aak _) _
   repeat' (first|refine Z1 ?_|(refine Z8 ?_;intro ya J)|(refine Z4 ?_;clear J ya)|(refine Z2 ?_ ?_<;>intro h ab<;>try exact Xp)|(refine Z5 ?_;refine Xi (ak _ (hM.keep af)) ?_;rintro _ _ ⟨rfl,aj⟩;(have ac:=af.trans aj))|refine Z3 ?_|exact Zt|(apply J.out;clear J ya))
   refine⟨F.length-(i+1),Ad2,i+1,M,?_⟩
   ((repeat' refine Zi ?_ ?_)<;>first|exact Xq|exact HN|exact (hM.keep ac)|exact (ai.trans (KM.ofKeep ac))|exact (by rw[ac.obj _ Ad2,hq])|exact Xs)
  ·rw[show decide (Cx a∈x.2)=false by simpa using ad]at ak;have HN:Ad8 (∀id',MkM np (F.take (i+1)) (M.set k (id',x.2++[Cx a]))):=fun id'=>by rw[a0.out];exact hI.out.add a4.out HX.out ad
   clear ad hI;have af:Keep σ' ((σ'.new [ic 0,nilS]).put σ'.nobj [ic a.p,sl id a.ts.length (Ae a.ts)]):=((Keep.refl σ').new _).put (Aak _) _;have a6:∀p,p<σ'.nobj+1->((σ'.new [ic 0,nilS]).put σ'.nobj [ic a.p,sl id a.ts.length (Ae a.ts)]).obj p=((σ'.new [ic 0,nilS]).put σ'.nobj [ic a.p,sl id a.ts.length (Ae a.ts)]).obj p:=fun p _=>rfl;clear a6
   repeat' (first|refine Z1 ?_|(refine Z8 ?_;intro ya J)|(refine Z4 ?_;clear J ya)|(refine Z2 ?_ ?_<;>intro h ab<;>try exact Xp)|(refine Z5 ?_;first|(refine Xi (ak _ (hM.keep af)) ?_;rintro _ _ ⟨rfl,aj⟩;(have ac:=af.trans aj;have an:=aj.obj;have ao:=aj.nobj;simp only[Ac,Aa]at ao an))|(refine Xi (ay _ (hM.keep ac)) ?_;rintro _ _ ⟨id',ba,ah⟩))|refine Z3 ?_|exact Zt|(apply J.out;clear J ya))
   rename_i σ2 σ3;have au:=(ai.trans (KM.ofKeep ac)).trans ah;have a7:σ3.obj σ.nobj=[nilS,ic 0,ic 0]:=by rw[ah.obj _ Ad2 Ad2 Ad2,ac.obj _ Ad2,hq]
   refine⟨F.length-(i+1),Ad2,i+1,M.set k (id',x.2++[Cx a]),?_⟩
   ((repeat' refine Zi ?_ ?_)<;>first|exact Xq|exact (HN.out id')|exact ba|exact au|exact a7|exact Xs)
 ·have a9:i=F.length:=Ad2;subst a9;have hI:=hI.out;rw[Aa3]at hI;have am:=hI.len;have a8:=hM.ob;rw[am]at a8;have bf:=hM.lo;have HI:Ad8 _:=hI;have HM:Ad8 _:=hM;have a3:Ad8 _:=ai;clear hI hM ai am
  repeat' (first|refine Z1 ?_|(refine Z8 ?_;intro ya J)|(refine Z4 ?_;clear J ya)|(refine Z2 ?_ ?_<;>intro h ab<;>try exact Xp)|refine Z3 ?_|exact Zt|(apply J.out;clear J ya))
  have bb:=Keep.km az a3.out Ad2 Ad2 (fun x hx=>by rw[(Adm.1 hx).2]);refine⟨_,rfl,σ.nobj+1,M,rfl,HI.out,bb.put Ad2 _,Ad2,?_,fun x hx=>?_⟩
  ·have h:=HM.out.mpt;exact⟨by rw[Li Ad2];exact h.oc,h.lt,h.live,h.inj,h.t3,h.ln,h.pl⟩
  ·have hnt:=az.ntop;rcases a3.out.mid x hx with⟨y,hy,e⟩|e|e
   ·rw[(Adm.1 hy).2]at e;exact .inl e.symm
   ·exact .inl e
   ·exact .inr Ad2
def Dv (N:List Tx)(a:RAtom):Ee:=⟨(N.idxOf a.pred:Nat),a.terms.map Bu⟩
def Pd (N:List Tx)(a:RAtom):Lit:=⟨a.nt,Dv N a⟩
def Fg (N:List Tx)(x:RItem):J7:=⟨Dv N x.head,x.body.map (Pd N)⟩
theorem J0 (ts:List Tx):Ae (ts.map Bu)=A8 ts:=by
 unfold Ae A8;rw[List.flatMap_map];rfl
theorem tN {N:List Tx}:∀{l:List RAtom} {b:List AV},EL (PL N) l b->EL zW (l.map (Pd N)) b
 |[],b,h=>h
 |a::l,b,h=>by
  obtain⟨c1,c2,⟨-,ids,rfl⟩,h2,rfl⟩:=h;exact⟨_,c2,⟨ids,by simp[Pd,Dv,J0]⟩,tN h2,rfl⟩
theorem yT {N:List Tx}{x:RItem}{c:List AV}(h:PI N x c):tS (Fg N x) c:=by
 obtain⟨hm,ih,id,b,hb,rfl⟩:=h;exact⟨x.out,ih,id,b,by simp[Fg,Dv,J0],tN hb⟩
theorem GroA.nodup {D:Cq}{M M':MM}{d d':Int}(h:GroA D M M' d d')(hn:∀x∈M,x.2.Nodup):∀x∈M',x.2.Nodup:=fun x hx=>by
 obtain⟨k,hk⟩:=Acp hx;obtain⟨nw,e,h1,h2⟩:=h.ext k;rw[B9 hk]at e;have aa:k<M.length:=by rw[<-h.len];exact (Aau.1 hk).1
 have hg:M[k]?=some M[k]:=Aav aa;rw[B9 hg]at e;rw[e,Adf];refine⟨hn _ (Ab1 aa),h1,fun a ha b hb e2=>?_⟩;have:=(h2 b hb).2;rw[B9 hg]at this;exact this (e2 ▸ ha)
end Go.Proofs.YtmoeoppbmhfbpaaGreatDoorH
