import Derived.Test.YtmoeoppbmhfbpabGreatDoorLEngY
set_option maxHeartbeats 32000000
set_option maxRecDepth 100000
set_option linter.all false
namespace Go.Proofs.YtmoeoppbmhfbpabGreatDoorL
open Go.Abs
theorem cX (a:Dy)(c:List AV)(h:aP a c):c.length=4:=by obtain⟨o,ih,ib,bc,rfl,-⟩:=h;rfl
theorem qR {l:List Dy}{cs:List AV}{i:Nat}{r:Dy}(h:EL aP l cs)(hi:l[i]?=some r):∃o ih ib bc rr,cs.drop (i*4)=sc (.bool o)::ic r.head.p::sl ih r.head.ts.length (Ac r.head.ts)::sl ib r.body.length bc::rr/\EL Qf r.body bc:=by
 obtain⟨c,rr,⟨o,ih,ib,bc,rfl,hB⟩,e⟩:=EL.get cX h hi;exact⟨o,ih,ib,bc,rr,e,hB⟩
def NgIn (R:List Dy)(D:Cu)(M:MM):Prop:=∀r∈R,∀l∈r.body,l.neg=true->∀t,D l.a.p.toNat t->MD M l.a.p.toNat t
theorem NgIn.gro {R:List Dy}{D:Cu}{M M':MM}{d d':Int}(h:NgIn R D M)(g:GroA D M M' d d'):NgIn R D M':=fun r hr l hl hn t ht=>g.sub (h r hr l hl hn t ht)
def ngD (D:Cu):Int->Bc->Prop:=fun p t=>D p.toNat t
structure Fol (np:Nat)(ar:Nat->Nat)(R:List Dy)(D:Cu):Prop where
 rw:∀r∈R,RW np ar r
 cl:ClG R D D
 sh:∀k t,D k t->Sh ar k t
theorem Ac0 {np:Nat}{ar:Nat->Nat}{R:List Dy}{D:Cu}{M:MM}{nw:Int}{fr:Nat}{r:Dy}(hF:Fol np ar R D)(hn:M.length=np)(hr:r∈R)(hD:∀k t,MD M k t->D k t){t:Bc}(ht:Wp (ngD D) (K4 M nw fr r) t):D r.head.p.toNat t:=by
 obtain⟨ν,h1,h2,rfl⟩:=(qL (ar:=ar) (hn ▸ hF.rw r hr)).1 ht;refine hF.cl r hr ν (fun l hl=>?_);unfold LitH;cases aa:l.neg with
 |true=>simpa[ngD]using h2 l hl aa
 |false=>
  obtain⟨i,hi⟩:=List.getElem?_of_mem hl;obtain⟨k,hk,-⟩:=(hF.rw r hr).rok.bp l hl;have:=jM (h1 l i hi aa);rw[hk]at this;simp only[Ahg,if_false];rw[hk];exact hD k _ this
theorem Wg {np:Nat}{ar:Nat->Nat}{R:List Dy}{D:Cu}(hF:Fol np ar R D)(om ot:Nat)(b:Int)(ak: -1000000<=b)(aj:b<=900000)(M:MM)(d:Int)(hn:M.length=np)(hD:∀k t,MD M k t->D k t)(hNg:NgIn R D M)(hR:Room M d b)(ai: -1000000<=d)(ah:d<=1000000)(r:Dy)(hr:r∈R)(nw:Int)(fr:Nat)(c:List AV)(hc:EQ (K4 M nw fr r) c)(q:St)(hM:MOb q om ot M d b):
  ACalls Tryz.prog 139 [ptr om 0,ag c] q fun x q'=>∃M' d',MOb q' om ot M' d' b/\KM om ot M M' q q'/\GroA D M M' d d'/\Room M' d' b/\d'<=1000000/\d<=d'/\(¬b<d'->∀ν,(∀(l:Lit) (i:Nat),r.body[i]?=some l->l.neg=false->Bf l.a ν∈Wh M nw fr i l)->(∀l∈r.body,l.neg=true->¬D l.a.p.toNat (Bf l.a ν))->MD M' r.head.p.toNat (Bf r.head ν)):=by
 have aa:RW M.length ar r:=hn ▸ hF.rw r hr;obtain⟨a1,a2,a3⟩:=Ac1 hM (fun k t ht=>hF.sh k t (hD k t ht)) aa nw fr;obtain⟨k,hk,ad⟩:=aa.rok.hp;have ac:∀a∈(K4 M nw fr r).nots,∃l∈r.body,l.neg=true/\l.a=a:=fun a ha=>by
  obtain⟨l,hl,rfl⟩:=Ahv.1 ha;obtain⟨h1,h2⟩:=Aip.1 hl;exact⟨l,h1,h2,rfl⟩
 have b1:NegOk (ngD D) M (K4 M nw fr r):=fun a ha=>by
  obtain⟨l,h1,h2,rfl⟩:=ac a ha;obtain⟨j,hj,af⟩:=aa.rok.bp l h1;have hg:M[j]?=some M[j]:=List.getElem?_eq_getElem af;refine⟨j,M[j],hj,hg,fun t=>?_⟩;have hT:=B8 hg;have e:l.a.p.toNat=j:=by rw[hj];rfl
  unfold ngD;rw[e];constructor
  ·intro ht;have:=hNg r hr l h1 h2 t (by rw[e];exact ht);rw[e]at this;unfold MD at this;rwa[hT]at this
  ·intro ht;exact hD j t (by unfold MD;rw[hT];exact ht)
 have b2:∀a∈(K4 M nw fr r).nots,a.p≠(k:Int):=fun a ha e=>by
  obtain⟨l,h1,h2,rfl⟩:=ac a ha;exact aa.nne l h1 h2 (by rw[e,hk])
 have:=cI (ngD D) om ot b _ _ (Agi _) (K4 M nw fr r) c k M d hc a1 b1 b2 a2 hk ad hR ai ah ak aj a3 q hM;refine ACalls.mono this ?_;rintro x q' ⟨M',d',h1,h2,h3,h4,h5⟩;have ab:r.head.p.toNat=k:=by rw[hk];rfl
 refine⟨M',d',h1,h2,h3.all ad (fun t ht=>by rw[<-ab];exact Ac0 hF hn hr hD ht),h3.room hR,h4,h3.le,fun ae ν hν hν'=>?_⟩;unfold MD;rw[ab];exact h5 ae _ ((qL aa).2 ⟨ν,hν,hν',rfl⟩)
def NewR (D:Cu)(M0 M':MM)(seen:List Int)(r:Dy)(j:Nat):Prop:=∀(i:Nat) (l:Lit),i<j->r.body[i]?=some l->l.neg=false->∀ν,(∀l'∈r.body,LitH D (MD M0) ν l')->Bf l.a ν∈(Ay M0 l.a.p).drop ((seen[l.a.p.toNat]?).getD 0).toNat->MD M' r.head.p.toNat (Bf r.head ν)
theorem NewR.mono {D:Cu}{M0 M1 M2:MM}{seen:List Int}{r:Dy}{j:Nat}{d1 d2:Int}(h:NewR D M0 M1 seen r j)(g:GroA D M1 M2 d1 d2):NewR D M0 M2 seen r j:=fun i l hi hl hn ν h1 h2=>g.sub (h i l hi hl hn ν h1 h2)
theorem Sn {np:Nat}{ar:Nat->Nat}{R:List Dy}{D:Cu}(hF:Fol np ar R D)(om ot:Nat)(b:Int)(ce: -1000000<=b)(cd:b<=900000)(M:MM)(d:Int)(hn:M.length=np)(hD:∀k t,MD M k t->D k t)(hNg:NgIn R D M)(cg:Room M d b)(da: -1000000<=d)(ca:d<=1000000)(rc:List AV)(idr:Nat)(bd:EL aP R rc)(dc:R.length<=1000)(seen:List Int)(ids:Nat)(bz:seen.length=np)(b1:∀n∈seen,0<=n/\n<=5000)(q:St)(hM:MOb q om ot M d b):
  ACalls Tryz.prog 141 [ptr om 0,sl idr R.length rc,sl ids seen.length (Am seen)] q fun x q'=>∃M' d',MOb q' om ot M' d' b/\KM om ot M M' q q'/\GroA D M M' d d'/\Room M' d' b/\d'<=1000000/\d<=d'/\(¬b<d'->∀r∈R,NewR D M M' seen r r.body.length):=by
 have cy:=EL.length cX bd;have cw:=Bn seen;have hpl:=hM.pl;have cx:np<=seen.length:=Ajm;have c7:M.length<=np:=Ajm;have c6:np<=M.length:=Ajm;have bo:Ajs (M.length=np):=hn;clear bz hn;refine Z9 59 [] Tryz.func141 ?_
 repeat' (first|refine Z1 ?_|(refine Z8 ?_;intro κ hκ)|(refine Z4 ?_;clear hκ κ)|(refine Z2 ?_ ?_<;>intro h ab<;>try exact Xp)|refine Z3 ?_|exact⟨⟩|(apply hκ.out;clear hκ κ))
 refine Af (fun m s q'=>∃(k:Nat) (M1:MM) (d1:Int),m=R.length-k/\k<=R.length/\s 0=ptr om 0/\s 2=sl ids seen.length (Am seen)/\s 12=sl idr R.length rc/\s 13=ic R.length/\s 14=ic k/\MOb q' om ot M1 d1 b/\KM om ot M M1 q q'/\d1<=1000000/\d<=d1/\Ajs (GroA D M M1 d d1/\Room M1 d1 b/\(¬b<d1->∀r∈R.take k,NewR D M M1 seen r r.body.length))) R.length
  ⟨0,M,d,Ajm,Ajm,by simp[upd,initS],by simp[upd,initS],Ajo,Ajo,rfl,hM,KM.ofKeep (Keep.refl _),ca,Ajm,GroA.refl _ _ _,cg,fun _ r hr=>by simp at hr⟩ ?_
 rintro m s q' ⟨k,M1,d1,rfl,hk,h0,h2,bn,bm,bi,aw,an,am,ak,hG⟩;by_cases be:k<R.length
 ·have aa:=List.getElem?_eq_getElem be;obtain⟨o,ih,ib,bc,rr,hd,hB⟩:=qR bd aa;have ad:=Ah6 be;generalize R[k]=r at hd aa ad hB;have cu:Ajs (R.take (k+1)=R.take k++[r]):=by rw[Ajs,Agz,aa,Aia]
  clear aa;have db:=EL.length Gs hB;have cb:=(hF.rw r ad).rok.bl;have l1:=aw.lo;have l2:=aw.lt
  repeat' (first|refine Z1 ?_|(refine Z8 ?_;intro κ hκ)|(refine Z4 ?_;clear hκ κ)|(refine Z2 ?_ ?_<;>intro h ab<;>try exact Xp)|refine Z3 ?_|exact⟨⟩|(apply hκ.out;clear hκ κ))
  refine Af (fun m s q2=>∃(j:Nat) (M2:MM) (d2:Int),m=r.body.length-j/\j<=r.body.length/\s 0=ptr om 0/\s 2=sl ids seen.length (Am seen)/\s 7=ptr q'.nobj 0/\s 12=sl idr R.length rc/\s 13=ic R.length/\s 14=ic k/\s 19=sl ib r.body.length bc/\s 20=ic r.body.length/\s 21=ic j/\MOb q2 om ot M2 d2 b/\KM om ot M M2 q q2/\q'.nobj<q2.nobj/\q2.obj q'.nobj=[sc (.bool o),ic r.head.p,sl ih r.head.ts.length (Ac r.head.ts),sl ib r.body.length bc]/\d2<=1000000/\d<=d2/\Ajs (GroA D M M2 d d2/\Room M2 d2 b/\(¬b<d2->(∀r∈R.take k,NewR D M M2 seen r r.body.length)/\NewR D M M2 seen r j))) r.body.length
   ⟨0,M1,d1,Ajm,Ajm,Ajn,Ajn,Ajo,Ajn,Ajn,Ajn,Ajo,Ajo,rfl,aw.keep (((Keep.refl _).new _).put (Agi _) _),an.trans (KM.ofKeep (((Keep.refl _).new _).put (Agi _) _)),Ajr,Ak,am,ak,hG.out.1,hG.out.2.1,fun h=>⟨hG.out.2.2 h,fun i l hi=>Ajm⟩⟩ ?_
  have ct:om≠q'.nobj:=Ajm;have cr:ot≠q'.nobj:=Ajm;clear h0 h2 bn bm bi aw an hG am ak l1 l2;rintro m s q2 ⟨j,M2,d2,rfl,hj,h0,h2,h7,bn,bm,bi,df,de,dd,af,au,c5,br,a8,b9,hG⟩;have l1:=af.lo;have l2:=af.lt;by_cases ay:j<r.body.length
  ·have aa:=List.getElem?_eq_getElem ay;obtain⟨id,r2,aj⟩:=Hl hB aa;have bf:=Ah6 ay;generalize r.body[j]=w at aj aa bf;obtain⟨p,hp,cz⟩:=(hF.rw r ad).rok.bp w bf;have HW:Ajs (r.body[j]?=some w):=aa;clear aa;rw[hp]at aj;have a3:seen[p]?=some seen[p]:=List.getElem?_eq_getElem Ajm;obtain⟨rs,b7⟩:=Dm a3;have b0:=b1 _ (Ah6 (show p<seen.length by omega));generalize seen[p]=f at a3 b7 b0;obtain⟨fn,rfl⟩:∃fn:Nat,f=(fn:Int):=⟨f.toNat,Ajm⟩;have cm:M2.length<=M.length/\M.length<=M2.length:=by have:=hG.out.1.len;omega
   have ai:M2[p]?=some M2[p]:=List.getElem?_eq_getElem Ajm;generalize M2[p]=y at ai;have c9:=G8 ai;have cv:=af.ln y (Agp ai);have c8:=G7 M2;have obm:=af.ob;have obt:=af.oc;have b2:=af.pl;have cf:Ajs (Ay M2 (p:Int)=y.2):=B8 ai
   --what this literal's turn must bring
   have ac:Ajs (∀M3 d3,GroA D M2 M3 d2 d3->(¬b<d3->w.neg=false->∀ν,(∀l'∈r.body,LitH D (MD M) ν l')->Bf w.a ν∈(Ay M w.a.p).drop fn->MD M3 r.head.p.toNat (Bf r.head ν))->d2<=d3->(¬b<d3->(∀r∈R.take k,NewR D M M3 seen r r.body.length)/\NewR D M M3 seen r (j+1))):=fun M3 d3 bg ah b3 a5=>by
    obtain⟨g1,g2⟩:=hG.out.2.2 Ajm;refine⟨fun r' az=>(g1 r' az).mono bg,fun i l hi hl av ν a1 a2=>?_⟩;by_cases e:i=j
    ·subst e;rw[HW.out]at hl;obtain rfl:=Aiq hl;refine ah a5 av ν a1 ?_;rw[hp]at a2⊢;rw[Ai4,a3]at a2;simpa using a2
    ·exact bg.sub (g2 i l Ajm hl av ν a1 a2)
   cases ae:w.neg with
   |true=>
    have HN:Ajs (GroA D M M2 d d2/\Room M2 d2 b/\(¬b<d2->(∀r∈R.take k,NewR D M M2 seen r r.body.length)/\NewR D M M2 seen r (j+1))):=
     ⟨hG.out.1,hG.out.2.1,ac.out M2 d2 (GroA.refl _ _ _) (fun _ hh=>by rw[ae]at hh;cases hh) Ajm⟩
    rw[ae]at aj;clear ac ae
    repeat' (first|refine Z1 ?_|(refine Z8 ?_;intro κ hκ)|(refine Z4 ?_;clear hκ κ)|(refine Z2 ?_ ?_<;>intro h ab<;>try exact Xp)|refine Z3 ?_|exact⟨⟩|(apply hκ.out;clear hκ κ))
    refine A9 Aj (fun _=>True) [] [0,1,2,3,4,5,6,7,8,9,10,11,12,13,14,15,16] [] Ajp (fun _ _ _ h=>h) ?_;intro κ hκ
    repeat' (first|refine Z1 ?_|(refine Z8 ?_;intro κ hκ)|(refine Z4 ?_;clear hκ κ)|(refine Z2 ?_ ?_<;>intro h ab<;>try exact Xp)|refine Z3 ?_|exact⟨⟩|(apply hκ.out;clear hκ κ))
    refine⟨r.body.length-(j+1),Ajm,j+1,M2,d2,?_⟩
    ((repeat' with_reducible refine And.intro ?_ ?_)<;>first|exact Xq|exact (HN)|exact (af.keep (((Keep.refl _).new _).put (Agi _) _))|exact (au.trans (KM.ofKeep (((Keep.refl _).new _).put (Agi _) _)))|exact Xs)
   |false=>
    rw[ae]at aj;clear ae
    repeat' (first|refine Z1 ?_|(refine Z8 ?_;intro κ hκ)|(refine Z4 ?_;clear hκ κ)|(refine Z2 ?_ ?_<;>intro h ab<;>try exact Xp)|refine Z3 ?_|exact⟨⟩|(apply hκ.out;clear hκ κ))
    refine A9 Aj (fun _=>True) [] [0,1,2,3,4,5,6,7,8,9,10,11,12,13,14,15,16] [] Ajp (fun _ _ _ h=>h) ?_;intro κ hκ;by_cases a6:fn<y.2.length
    ·have b6:decide ((fn:Int)<(y.2.length:Int))=true:=by simp;exact a6
     have cq:=fun q (h:MOb q om ot M2 d2 b)=>aD om ot M2 d2 b r [sc (.bool o),ic r.head.p,sl ih r.head.ts.length (Ac r.head.ts),sl ib r.body.length bc] (j:Int) fn ⟨o,ih,ib,bc,rfl,hB⟩ (by have:=hG.out.1.len;rw[this,bo.out];exact (hF.rw r ad).rok) Ajm q h;have co:Ajs (∀c3,EQ (K4 M2 (j:Int) fn r) c3->∀q,MOb q om ot M2 d2 b->ACalls Tryz.prog 139 [ptr om 0,ag c3] q fun x q'=>∃M' d',MOb q' om ot M' d' b/\KM om ot M2 M' q q'/\GroA D M2 M' d2 d'/\Room M' d' b/\d'<=1000000/\d2<=d'/\(¬b<d'->∀ν,(∀(l:Lit) (i:Nat),r.body[i]?=some l->l.neg=false->Bf l.a ν∈Wh M2 (j:Int) fn i l)->(∀l∈r.body,l.neg=true->¬D l.a.p.toNat (Bf l.a ν))->MD M' r.head.p.toNat (Bf r.head ν))):=fun c3 h3 q hh=>
      Wg hF om ot b ce cd M2 d2 (by have:=hG.out.1.len;rw[this];exact bo.out) (hG.out.1.inD hD) (hNg.gro hG.out.1) hG.out.2.1 Ajm a8 r ad (j:Int) fn c3 h3 q hh
     clear a6
     repeat' (first|refine Z1 ?_|(refine Z8 ?_;intro κ hκ)|(refine Z4 ?_;clear hκ κ)|(refine Z2 ?_ ?_<;>intro h ab<;>try exact Xp)|(refine Z5 ?_;first|(refine Xi (cq _ (af.keep (Xs))) ?_;rintro _ _ ⟨⟨_,rfl,ih3,ip3,in3,pc3,nc3,rfl,ci,cj⟩,ba⟩;(have a0:=ba.nobj;have ax:=ba.obj;simp only[Ab,Aa]at a0 ax;have cn:=(((Keep.refl q2).new _).put (Agi _) _).trans ba;have cp:=co.out _ ⟨ih3,ip3,in3,pc3,nc3,rfl,ci,cj⟩))|(refine Xi (cp _ (af.keep (Xs))) ?_;rintro _ _ ⟨M3,d3,ck,ap,bh,ch,b8,a7,ah⟩;(have bq:Ajs _:=bh;have bb:Ajs _:=ah;clear bh ah;have kn3:=ap.nobj;simp only[Ab,Aa]at kn3;have bw:=ap.obj q'.nobj (by simp only[Ab,Aa];omega) ct.symm cr.symm;have a9:=(au.trans (KM.ofKeep ((cn.new _).put Ajm _))).trans ap)))|refine Z3 ?_|exact⟨⟩|(apply hκ.out;clear hκ κ))
     have HN:Ajs (GroA D M M3 d d3/\Room M3 d3 b/\(¬b<d3->(∀r∈R.take k,NewR D M M3 seen r r.body.length)/\NewR D M M3 seen r (j+1))):=by
      refine⟨hG.out.1.trans bq.out,ch,ac.out M3 d3 bq.out (fun a5 _ ν a1 a2=>bb.out a5 ν (fun l i hl av=>?_) (fun l hl av=>by
       have:=a1 l hl;unfold LitH at this;rw[av]at this
       simpa using this)) a7⟩
      have ao:=Agp hl;obtain⟨p',a4,-⟩:=(hF.rw r ad).rok.bp l ao;obtain⟨nw,e1,-,-⟩:=hG.out.1.ext p';unfold Wh;by_cases e:(i:Int)=(j:Int)
      ·rw[if_pos e];have:i=j:=Ajm;subst this;rw[HW.out]at hl;obtain rfl:=Aiq hl;rw[a4]at a2⊢;rw[e1,List.drop_append];exact Ahs.2 (.inl a2)
      ·rw[if_neg e];have:=a1 l ao;unfold LitH MD at this;rw[av,a4]at this;simp only[Ahg,if_false,Ai4]at this;rw[a4,e1];exact Ahs.2 (.inl this)
     refine⟨r.body.length-(j+1),Ajm,j+1,M3,d3,?_⟩;have bv:∀S:St,S.obj q'.nobj=q2.obj q'.nobj->S.obj q'.nobj=[sc (.bool o),ic r.head.p,sl ih r.head.ts.length (Ac r.head.ts),sl ib r.body.length bc]:=fun S e=>by rw[e,br]
     have bu:=bv _ (by rw[bw,Ai Ajm,Ag Ajm,ax _ Ajm,Ai Ajm,Ag Ajm])
     ((repeat' with_reducible refine And.intro ?_ ?_)<;>first|exact Xq|exact (HN)|exact (ck)|exact (a9)|exact (bu)|exact Xs)
    ·have b6:decide ((fn:Int)<(y.2.length:Int))=false:=by simp;omega
     have HN:Ajs (GroA D M M2 d d2/\Room M2 d2 b/\(¬b<d2->(∀r∈R.take k,NewR D M M2 seen r r.body.length)/\NewR D M M2 seen r (j+1))):=by
      refine⟨hG.out.1,hG.out.2.1,ac.out M2 d2 (GroA.refl _ _ _) (fun _ _ ν _ a2=>?_) Ajm⟩;exfalso;obtain⟨nw,e1,-,-⟩:=hG.out.1.ext p;rw[cf.out]at e1;have b3:(Ay M (p:Int)).length<=y.2.length:=by rw[e1];simp
      rw[hp,Agt Ajm]at a2;cases a2
     clear a6 ac
     repeat' (first|refine Z1 ?_|(refine Z8 ?_;intro κ hκ)|(refine Z4 ?_;clear hκ κ)|(refine Z2 ?_ ?_<;>intro h ab<;>try exact Xp)|refine Z3 ?_|exact⟨⟩|(apply hκ.out;clear hκ κ))
     refine⟨r.body.length-(j+1),Ajm,j+1,M2,d2,?_⟩
     ((repeat' with_reducible refine And.intro ?_ ?_)<;>first|exact Xq|exact (HN)|exact (af.keep (((Keep.refl _).new _).put (Agi _) _))|exact (au.trans (KM.ofKeep (((Keep.refl _).new _).put (Agi _) _)))|exact Xs)
  ·have b5:j=r.body.length:=Ajm;subst b5;have HN:Ajs (GroA D M M2 d d2/\Room M2 d2 b/\(¬b<d2->∀r∈R.take (k+1),NewR D M M2 seen r r.body.length)):=by
    obtain⟨g1,g2,g3⟩:=hG.out;refine⟨g1,g2,fun h r' az=>?_⟩;rw[cu.out]at az;rcases Ahs.1 az with h'|h'
    ·exact (g3 h).1 r' h'
    ·simp at h';subst h';exact (g3 h).2
   repeat' (first|refine Z1 ?_|(refine Z8 ?_;intro κ hκ)|(refine Z4 ?_;clear hκ κ)|(refine Z2 ?_ ?_<;>intro h ab<;>try exact Xp)|refine Z3 ?_|exact⟨⟩|(apply hκ.out;clear hκ κ))
   refine⟨R.length-(k+1),Ajm,k+1,M2,d2,?_⟩
   ((repeat' with_reducible refine And.intro ?_ ?_)<;>first|exact Xq|exact (HN)|exact Xs)
 ·have b4:k=R.length:=Ajm;subst b4;obtain⟨g1,g2,g3⟩:=hG.out;rw[Agw]at g3
  repeat' (first|refine Z1 ?_|(refine Z8 ?_;intro κ hκ)|(refine Z4 ?_;clear hκ κ)|(refine Z2 ?_ ?_<;>intro h ab<;>try exact Xp)|refine Z3 ?_|exact⟨⟩|(apply hκ.out;clear hκ κ))
  first|exact⟨_,rfl,M1,d1,aw,an,g1,g2,am,ak,g3⟩|exact⟨M1,d1,aw,an,g1,g2,am,ak,g3⟩
theorem kU:∀(M M':MM),M'.length=M.length->(∀k:Nat,(Ay M k).length<=(Ay M' k).length)->(tot M<=tot M'/\(tot M'<=tot M->∀k:Nat,(Ay M' k).length=(Ay M k).length))
 |[],M',hl,h=>by
  have:M'=[]:=Agu (by simpa using hl);subst this;exact⟨Ail _,fun _ k=>rfl⟩
 |x::M,[],hl,h=>by simp at hl
 |x::M,y::M',hl,h=>by
  obtain⟨h1,h2⟩:=kU M M' (by simpa using hl) (fun k=>by have:=h (k+1);simpa[Ay]using this);have h0:=h 0;simp[Ay]at h0;rw[Dj,Dj];refine⟨Ajm,fun aa k=>?_⟩;cases k with
  |zero=>simp[Ay];omega
  |succ k=>
   have:=h2 Ajm k;simpa[Ay]using this
theorem GroA.lens {D:Cu}{M M':MM}{d d':Int}(h:GroA D M M' d d')(k:Nat):(Ay M k).length<=(Ay M' k).length:=by
 obtain⟨n,e,-,-⟩:=h.ext k;rw[e];simp
theorem GroA.same {D:Cu}{M M':MM}{d d':Int}(h:GroA D M M' d d')(ht:tot M'<=tot M)(k:Nat):Ay M' k=Ay M k:=by
 have hl:=(kU M M' h.len h.lens).2 ht k;obtain⟨n,e,-,-⟩:=h.ext k;rw[e]at hl⊢;have:n=[]:=by simpa using hl
 rw[this,Ag3]
theorem P4 {q:St}{om ot:Nat}{M:MM}{d b:Int}(hM:MOb q om ot M d b):∀n∈Hs M,0<=n/\n<=5000:=fun n hn=>by
 obtain⟨x,hx,rfl⟩:=Ahv.1 hn;have:=hM.ln x hx;omega
theorem I5 (M:MM):(Hs M).length=M.length:=by simp[Hs]
theorem zG {M:MM}{k:Nat}(hk:k<M.length):((Hs M)[k]?).getD 0=((Ay M (k:Int)).length:Int):=by
 have hg:M[k]?=some M[k]:=List.getElem?_eq_getElem hk;rw[B8 hg];simp[Hs,hk]
def Brg (D:Cu)(R:List Dy)(MS M1:MM):Prop:=∀r∈R,∀ν,(∀l∈r.body,LitH D (MD MS) ν l)->MD M1 r.head.p.toNat (Bf r.head ν)
theorem Vk {N D:Cu}{ν:Nu}{l:Lit}(hn:l.neg=false)(h:LitH N D ν l):D l.a.p.toNat (Bf l.a ν):=by
 unfold LitH at h;rw[hn]at h;simpa using h
theorem iC {N D:Cu}{ν:Nu}{l:Lit}(hn:l.neg=true)(h:LitH N D ν l):¬N l.a.p.toNat (Bf l.a ν):=by
 unfold LitH at h;rw[hn]at h;simpa using h
theorem Acr {np:Nat}{ar:Nat->Nat}{R:List Dy}{D:Cu}{MS M1 M2:MM}{ds d1 d2:Int}(hF:Fol np ar R D)(hn:MS.length=np)(hS:GroA D MS M1 ds d1)(hB:Brg D R MS M1)(h2:GroA D M1 M2 d1 d2)(hN:∀r∈R,NewR D M1 M2 (Hs MS) r r.body.length):Brg D R M1 M2:=fun r hr ν h=>by
 by_cases ac:∀l∈r.body,LitH D (MD MS) ν l
 ·exact h2.sub (hB r hr ν ac)
 ·obtain⟨l,hl⟩:∃l,¬(l∈r.body->LitH D (MD MS) ν l):=Classical.not_forall.1 ac;have ad:l∈r.body:=Classical.byContradiction fun hh=>hl (fun h'=>absurd h' hh);have ae:¬LitH D (MD MS) ν l:=fun hh=>hl (fun _=>hh);have ab:l.neg=false:=by
   cases hc:l.neg with
   |false=>rfl
   |true=>
    exfalso;have:=iC hc (h l ad);exact ae (by unfold LitH;rw[hc];simpa using this)
  have aa:¬MD MS l.a.p.toNat (Bf l.a ν):=fun hh=>ae (by unfold LitH;rw[ab];simpa using hh);obtain⟨i,hi⟩:=List.getElem?_of_mem ad;have hil:=(List.getElem?_eq_some_iff.1 hi).1;obtain⟨k,hk,af⟩:=(hF.rw r hr).rok.bp l ad;refine hN r hr i l hil hi ab ν h ?_;obtain⟨nw,e,-,-⟩:=hS.ext k;have hm:=Vk ab (h l ad);unfold MD at hm aa;rw[hk]at hm aa⊢;rw[Ai4]at hm aa;rw[Ai4,zG Ajm,Ai4];rw[e]at hm⊢;rw[List.drop_left];rcases Ahs.1 hm with h'|h'
  ·exact absurd h' aa
  ·exact h'
theorem V7 {R:List Dy}{D:Cu}{MS M1:MM}{np:Nat}{ar:Nat->Nat}{ds d1:Int}(hF:Fol np ar R D)(hS:GroA D MS M1 ds d1)(hB:Brg D R MS M1)(ht:tot M1<=tot MS):ClG R D (MD M1):=fun r hr ν h=>hB r hr ν (fun l hl=>by
 have:=h l hl;unfold LitH at this⊢;split
 ·rename_i hc;rw[if_pos hc]at this;exact this
 ·rename_i hc;rw[if_neg hc]at this;obtain⟨k,hk,-⟩:=(hF.rw r hr).rok.bp l hl;unfold MD at this⊢;rw[hk]at this⊢;rw[Ai4]at this⊢;rw[hS.same ht k]at this
  exact this)
theorem Jj {np:Nat}{ar:Nat->Nat}{R:List Dy}{D:Cu}(hF:Fol np ar R D)(om ot:Nat)(b:Int)(br: -1000000<=b)(bq:b<=900000)(M:MM)(d:Int)(hn:M.length=np)(hD:∀k t,MD M k t->D k t)(hNg:NgIn R D M)(b6:Room M d b)(cm: -1000000<=d)(b4:d<=1000000)(rc:List AV)(idr:Nat)(a7:EL aP R rc)(b7:R.length<=1000)(q:St)(hM:MOb q om ot M d b):
  ACalls Tryz.prog 84 [ptr om 0,sl idr R.length rc] q fun x q'=>∃M' d',MOb q' om ot M' d' b/\KM om ot M M' q q'/\GroA D M M' d d'/\d<=d'/\d'<=1000000/\(¬b<d'->ClG R D (MD M')):=by
 have cj:=EL.length cX a7;have hpl:=hM.pl;have bl:=fun (M:MM) (d:Int) q (h:MOb q om ot M d b)=>P2 om ot M d b q h;have b0:=bl M d;have a4:Ajs (M.length=np):=hn;have ck:M.length<=np/\np<=M.length:=Ajm;clear hn;refine Z9 43 [] Tryz.func84 ?_
 repeat' (first|refine Z1 ?_|(refine Z8 ?_;intro κ hκ)|(refine Z4 ?_;clear hκ κ)|(refine Z2 ?_ ?_<;>intro h af<;>try exact Xp)|(refine Z5 ?_;refine Xi (b0 _ (hM.keep (Xs))) ?_;rintro _ _ ⟨⟨id0,rfl⟩,bi⟩)|refine Z3 ?_|exact⟨⟩|(apply hκ.out;clear hκ κ))
 rename_i σ0
 refine Af (fun m s q'=>∃(k:Nat) (M1:MM) (d1:Int),m=R.length-k/\k<=R.length/\s 0=ptr om 0/\s 1=sl idr R.length rc/\s 4=sl id0 M.length (Am (Hs M))/\s 11=sl idr R.length rc/\s 12=ic R.length/\s 13=ic k/\MOb q' om ot M1 d1 b/\KM om ot M M1 q q'/\d1<=1000000/\d<=d1/\Ajs (GroA D M M1 d d1/\Room M1 d1 b/\(¬b<d1->Brg D (R.take k) M M1))) R.length
  ⟨0,M,d,Ajm,Ajm,by simp[upd,initS],by simp[upd,initS],Ajo,by simp[upd,initS],Ajo,rfl,hM.keep bi,KM.ofKeep bi,b4,Ajm,GroA.refl _ _ _,b6,fun _ r hr=>by simp at hr⟩ ?_
 clear bi b0;rintro m s q' ⟨k,M1,d1,rfl,hk,h0,h1,h4,ch,cg,cf,aa,ac,ab,ad,hG⟩;by_cases a8:k<R.length
 ·have ai:=List.getElem?_eq_getElem a8;obtain⟨o,ih,ib,bc,rr,hd,hB⟩:=qR a7 ai;have ah:=Ah6 a8;generalize R[k]=r at hd ai ah hB;have ci:Ajs (R.take (k+1)=R.take k++[r]):=by rw[Ajs,Agz,ai,Aia]
  clear ai;have ak:M1.length=np:=by have:=hG.out.1.len;rw[this];exact a4.out
  have ce:=fun q (h:MOb q om ot M1 d1 b)=>aD om ot M1 d1 b r [sc (.bool o),ic r.head.p,sl ih r.head.ts.length (Ac r.head.ts),sl ib r.body.length bc] (-1) 0 ⟨o,ih,ib,bc,rfl,hB⟩ (by rw[ak];exact (hF.rw r ah).rok) Ajm q h;have ca:Ajs (∀c3,EQ (K4 M1 (-1) 0 r) c3->∀q,MOb q om ot M1 d1 b->ACalls Tryz.prog 139 [ptr om 0,ag c3] q fun x q'=>∃M' d',MOb q' om ot M' d' b/\KM om ot M1 M' q q'/\GroA D M1 M' d1 d'/\Room M' d' b/\d'<=1000000/\d1<=d'/\(¬b<d'->∀ν,(∀(l:Lit) (i:Nat),r.body[i]?=some l->l.neg=false->Bf l.a ν∈Wh M1 (-1) 0 i l)->(∀l∈r.body,l.neg=true->¬D l.a.p.toNat (Bf l.a ν))->MD M' r.head.p.toNat (Bf r.head ν))):=fun c3 h3 q hh=>
   Wg hF om ot b br bq M1 d1 ak (hG.out.1.inD hD) (hNg.gro hG.out.1) hG.out.2.1 Ajm ab r ah (-1) 0 c3 h3 q hh
  clear ak;have l1:=aa.lo;have l2:=aa.lt
  repeat' (first|refine Z1 ?_|(refine Z8 ?_;intro κ hκ)|(refine Z4 ?_;clear hκ κ)|(refine Z2 ?_ ?_<;>intro h af<;>try exact Xp)|(refine Z5 ?_;first|(refine Xi (ce _ (aa.keep (Xs))) ?_;rintro _ _ ⟨⟨_,rfl,ih3,ip3,in3,pc3,nc3,rfl,b8,b9⟩,bg⟩;(have a6:=bg.nobj;have a5:=bg.obj;simp only[Ab,Aa]at a6 a5;have aw:=(((Keep.refl q').new _).put (Agi _) _).trans bg;have cb:=ca.out _ ⟨ih3,ip3,in3,pc3,nc3,rfl,b8,b9⟩))|(refine Xi (cb _ (aa.keep (Xs))) ?_;rintro _ _ ⟨M3,d3,a3,an,ax,bd,bb,ba,ae⟩;(have ap:Ajs _:=ax;have ao:Ajs _:=ae;clear ax ae;have am:=(ac.trans (KM.ofKeep ((aw.new _).put Ajm _))).trans an)))|refine Z3 ?_|exact⟨⟩|(apply hκ.out;clear hκ κ))
  have HN:Ajs (GroA D M M3 d d3/\Room M3 d3 b/\(¬b<d3->Brg D (R.take (k+1)) M M3)):=by
   refine⟨hG.out.1.trans ap.out,bd,fun aj r' bn ν a1=>?_⟩;rw[ci.out]at bn;rcases Ahs.1 bn with h'|h'
   ·exact ap.out.sub (hG.out.2.2 Ajm r' h' ν a1)
   ·simp at h';subst h';refine ao.out aj ν (fun l i hl a9=>?_) (fun l hl a9=>iC a9 (a1 l hl));have bo:=Agp hl;obtain⟨p',b1,-⟩:=(hF.rw r' ah).rok.bp l bo;unfold Wh;rw[if_neg Ajm];have:=Vk a9 (a1 l bo);unfold MD at this;rw[b1]at this⊢;exact hG.out.1.sub this
  refine⟨R.length-(k+1),Ajm,k+1,M3,d3,?_⟩
  ((repeat' with_reducible refine And.intro ?_ ?_)<;>first|exact Xq|exact (HN)|exact (a3)|exact (am)|exact Xs)
 ·have b2:k=R.length:=Ajm;subst b2;rw[Agw]at hG;have bz:=bl M1 d1
  repeat' (first|refine Z1 ?_|(refine Z8 ?_;intro κ hκ)|(refine Z4 ?_;clear hκ κ)|(refine Z2 ?_ ?_<;>intro h af<;>try exact Xp)|(refine Z5 ?_;refine Xi (bz _ (aa.keep (Xs))) ?_;rintro _ _ ⟨⟨id1,rfl⟩,bh⟩)|refine Z3 ?_|exact⟨⟩|(apply hκ.out;clear hκ κ))
  rename_i q1
  refine Af (fun m s q'=>∃(MS M1:MM) (ds d1:Int) (ia ib:Nat),m=2*(b-d1+1).toNat+(if tot MS<tot M1 then 1 else 0)/\s 0=ptr om 0/\s 1=sl idr R.length rc/\s 4=sl ia MS.length (Am (Hs MS))/\s 8=sl ib M1.length (Am (Hs M1))/\MOb q' om ot M1 d1 b/\KM om ot M M1 q q'/\d1<=1000000/\d<=d1/\MS.length<=5000/\(∀n∈Hs MS,0<=n/\n<=5000)/\Ajs (MS.length=np/\GroA D M M1 d d1/\GroA D MS M1 ds d1/\Room M1 d1 b/\(¬b<d1->Brg D R MS M1))) (2*(b-d1+1).toNat+(if tot M<tot M1 then 1 else 0))
   ⟨M,M1,d,d1,id0,id1,rfl,Ajn,Ajn,Ajn,Ajo,aa.keep bh,ac.trans (KM.ofKeep bh),ab,ad,hpl,P4 hM,a4.out,hG.out.1,hG.out.1,hG.out.2.1,hG.out.2.2⟩ ?_
  clear h0 h1 h4 ch cg cf aa ac ab ad hG bh bz a8 hk;rintro m s q2 ⟨MS,M1,ds,d1,ia,ib,rfl,h0,h1,h4,h8,aa,ac,ab,ad,cn,bu,hG⟩;have av:=Kz om ot M1 d1 b;have az:=fun (id:Nat) q=>L8 (Hs M1) id (by rw[I5];have:=aa.pl;omega) (fun n hn=>by have:=P4 aa n hn;omega) q;have a0:=fun (id:Nat) q=>L8 (Hs MS) id (by rw[I5];omega) (fun n hn=>by have:=bu n hn;omega) q;rw[show (Hs M1).sum=tot M1 from rfl]at az;rw[show (Hs MS).sum=tot MS from rfl]at a0;rw[I5]at az a0;by_cases ay:b<d1
  ·rw[show decide (b<d1)=true from by simpa using ay]at av
   repeat' (first|refine Z1 ?_|(refine Z8 ?_;intro κ hκ)|(refine Z4 ?_;clear hκ κ)|(refine Z2 ?_ ?_<;>intro h af<;>try exact Xp)|(refine Z5 ?_;refine Xi (av _ (aa.keep (Xs))) ?_;rintro _ _ ⟨rfl,rfl⟩)|refine Z3 ?_|exact⟨⟩|(apply hκ.out;clear hκ κ))
   first|exact⟨_,rfl,M1,d1,aa,ac,hG.out.2.1,ad,ab,fun h=>absurd ay h⟩|exact⟨M1,d1,aa,ac,hG.out.2.1,ad,ab,fun h=>absurd ay h⟩
  ·rw[show decide (b<d1)=false from by simpa using ay]at av;by_cases bm:tot MS<tot M1
   ·have b3:decide (tot M1>tot MS)=true:=by simpa using bm
    have bw:=fun q (h:MOb q om ot M1 d1 b)=>Sn hF om ot b br bq M1 d1 (hG.out.2.1.len.trans a4.out) (hG.out.2.1.inD hD) (hNg.gro hG.out.2.1) hG.out.2.2.2.1 Ajm ab rc idr a7 b7 (Hs MS) ia (by rw[I5];exact hG.out.1) bu q h;rw[I5]at bw;rw[if_pos bm]
    repeat' (first|refine Z1 ?_|(refine Z8 ?_;intro κ hκ)|(refine Z4 ?_;clear hκ κ)|(refine Z2 ?_ ?_<;>intro h af<;>try exact Xp)|(refine Z5 ?_;first|(refine Xi (av _ (aa.keep (Xs))) ?_;rintro _ _ ⟨rfl,rfl⟩)|(refine Xi (az _ _) ?_;rintro _ _ ⟨rfl,bf⟩;(have aw:=bf))|(refine Xi (a0 _ _) ?_;rintro _ _ ⟨rfl,be⟩;(have au:=aw.trans be))|(refine Xi (bw _ (aa.keep (Xs))) ?_;rintro _ _ ⟨M3,d3,a3,an,ax,bd,bb,ba,ae⟩;(have ap:Ajs _:=ax;have ao:Ajs _:=ae;clear ax ae;have am:=(ac.trans (KM.ofKeep au)).trans an;have cd:=bl M3 d3))|(refine Xi (cd _ (a3.keep (Xs))) ?_;rintro _ _ ⟨⟨ic3,rfl⟩,bv⟩))|refine Z3 ?_|exact⟨⟩|(apply hκ.out;clear hκ κ))
    have b5:=ap.out.cnt;refine⟨2*(b-d3+1).toNat+(if tot M1<tot M3 then 1 else 0),by split<;>omega,M1,M3,d1,d3,ib,ic3,?_⟩
    have HN:Ajs (M1.length=np/\GroA D M M3 d d3/\GroA D M1 M3 d1 d3/\Room M3 d3 b/\(¬b<d3->Brg D R M1 M3)):=
     ⟨hG.out.2.1.len.trans a4.out,hG.out.2.1.trans ap.out,ap.out,bd,fun aj=>Acr hF hG.out.1 hG.out.2.2.1 (hG.out.2.2.2.2 Ajm) ap.out (ao.out aj)⟩
    ((repeat' with_reducible refine And.intro ?_ ?_)<;>first|exact Xq|exact (HN)|exact (a3.keep bv)|exact (am.trans (KM.ofKeep bv))|exact (aa.pl)|exact (P4 aa)|exact Xs)
   ·have b3:decide (tot M1>tot MS)=false:=by simp;omega
    repeat' (first|refine Z1 ?_|(refine Z8 ?_;intro κ hκ)|(refine Z4 ?_;clear hκ κ)|(refine Z2 ?_ ?_<;>intro h af<;>try exact Xp)|(refine Z5 ?_;first|(refine Xi (av _ (aa.keep (Xs))) ?_;rintro _ _ ⟨rfl,rfl⟩)|(refine Xi (az _ _) ?_;rintro _ _ ⟨rfl,bf⟩;(have aw:=bf))|(refine Xi (a0 _ _) ?_;rintro _ _ ⟨rfl,be⟩;(have au:=aw.trans be)))|refine Z3 ?_|exact⟨⟩|(apply hκ.out;clear hκ κ))
    first|exact⟨_,rfl,M1,d1,aa.keep au,ac.trans (KM.ofKeep au),hG.out.2.1,ad,ab,fun aj=>V7 hF hG.out.2.2.1 (hG.out.2.2.2.2 aj) Ajm⟩|exact⟨M1,d1,aa.keep au,ac.trans (KM.ofKeep au),hG.out.2.1,ad,ab,fun aj=>V7 hF hG.out.2.2.1 (hG.out.2.2.2.2 aj) Ajm⟩
theorem Aax {ar:Nat->Nat}{a:Df}{ν:Nu}{k:Nat}(h3:a.ts.length<=3)(har:a.ts.length=ar k)(h:Sh ar k (Bf a ν)):∀t∈a.ts,∃n:Nat,Eo ν t=(n:Int)/\n<1026:=by
 obtain⟨l,e,hl,hx⟩:=h;intro t ht;obtain⟨i,hi⟩:=List.getElem?_of_mem ht;have hil:=(List.getElem?_eq_some_iff.1 hi).1;have h2:(a.ts.map (Eo ν))[i]?=some (Eo ν t):=by rw[List.getElem?_map,hi];rfl
 have aa:i<l.length:=Ajm;have h4:l[i]?=some l[i]:=List.getElem?_eq_getElem aa;have h5:Eo ν t=l[i]:=by
  unfold Bf C5 at e;simp only[Ajb,and_true]at e;obtain⟨e0,e1,e2⟩:=e;have:i=0\/i=1\/i=2:=Ajm;rcases this with rfl|rfl|rfl
  ·rw[h2,h4]at e0;exact e0
  ·rw[h2,h4]at e1;exact e1
  ·rw[h2,h4]at e2;exact e2
 rw[h5];exact hx _ (Ah6 aa)
theorem bD {np:Nat}{ar:Nat->Nat}{R:List Dy}{N:Cu}(h:∀r∈R,RW np ar r):ClG R N (Sh ar):=fun r hr ν hb=>by
 have hw:=h r hr;refine⟨r.head.ts.map (Eo ν),rfl,by rw[Aij];exact hw.har,fun x hx=>?_⟩;obtain⟨t,ht,rfl⟩:=Ahv.1 hx;obtain⟨tv,tn⟩:=t;cases tv with
 |false=>exact hw.hc _ ht rfl
 |true=>
  obtain⟨l,hl,hn,hv⟩:=hw.safe tn (.inl (by rw[hasV_iff];exact ht));exact Aax (hw.rok.ba l hl) (hw.bar l hl) (Vk hn (hb l hl)) _ (hasV_iff.1 hv)
def LstG (R:List Dy)(B:Cu):Cu:=fun k t=>∀D:Cu,(∀k t,B k t->D k t)->ClG R B D->D k t
theorem LstG.base {R:List Dy}{B:Cu}{k:Nat}{t:Bc}(h:B k t):LstG R B k t:=fun D hB _=>hB k t h
theorem LitH.mono {N D D':Cu}{ν:Nu}{l:Lit}(h:LitH N D ν l)(hD:∀k t,D k t->D' k t):LitH N D' ν l:=by
 unfold LitH at h⊢;split
 ·rename_i hc;rw[if_pos hc]at h;exact h
 ·rename_i hc;rw[if_neg hc]at h;exact hD _ _ h
theorem LitH.anti {N N' D:Cu}{ν:Nu}{l:Lit}(h:LitH N D ν l)(hN:l.neg=true->N' l.a.p.toNat (Bf l.a ν)->N l.a.p.toNat (Bf l.a ν)):LitH N' D ν l:=by
 unfold LitH at h⊢;split
 ·rename_i hc;rw[if_pos hc]at h;exact fun g=>h (hN hc g)
 ·rename_i hc;rw[if_neg hc]at h;exact h
theorem LstG.cl (R:List Dy)(B:Cu):ClG R B (LstG R B):=fun r hr ν h D hB hC=>hC r hr ν (fun l hl=>(h l hl).mono (fun k t g=>g D hB hC))
theorem LstG.nonhead {R:List Dy}{B:Cu}{k:Nat}{t:Bc}(hk:∀r∈R,r.head.p.toNat≠k)(h:LstG R B k t):B k t:=by
 have:=h (fun j u=>j=k->B j u) (fun j u g _=>g) (fun r hr ν _ e=>absurd e (hk r hr));exact this rfl
theorem LstG.least {R:List Dy}{B D:Cu}(hB:∀k t,B k t->D k t)(hC:ClG R B D){k:Nat}{t:Bc}(h:LstG R B k t):D k t:=h D hB hC
def Apart (R:List Dy):Prop:=∀r∈R,∀l∈r.body,l.neg=true->∀r'∈R,r'.head.p.toNat≠l.a.p.toNat
theorem yN {np:Nat}{ar:Nat->Nat}{R:List Dy}{B:Cu}(hR:∀r∈R,RW np ar r)(hB:∀k t,B k t->Sh ar k t):Fol np ar R (LstG R B):=
 ⟨hR,fun r hr ν h=>LstG.cl R B r hr ν (fun l hl=>(h l hl).anti (fun _ g=>LstG.base g)),fun k t h=>h.least hB (bD hR)⟩
theorem Abw {R:List Dy}{B:Cu}{M:MM}(hA:Apart R)(hB:∀k t,B k t->MD M k t):NgIn R (LstG R B) M:=fun r hr l hl hn t ht=>hB _ _ (ht.nonhead (hA r hr l hl hn))
theorem tG {R:List Dy}{B:Cu}{M':MM}(hA:Apart R)(hB:∀k t,B k t->MD M' k t)(hC:ClG R (LstG R B) (MD M')){k:Nat}{t:Bc}(h:LstG R B k t):MD M' k t:=
 h.least hB (fun r hr ν g=>hC r hr ν (fun l hl=>(g l hl).anti (fun hn e=>e.nonhead (hA r hr l hl hn))))
def DX (ar:Nat->Nat)(R:List Dy)(M:MM):Cu:=fun k t=>Sh ar k t/\((∃r∈R,∃l∈r.body,l.neg=true/\l.a.p.toNat=k)->MD M k t)
theorem yO {np:Nat}{ar:Nat->Nat}{R:List Dy}{M:MM}(hR:∀r∈R,RW np ar r)(hA:Apart R):Fol np ar R (DX ar R M):=
 ⟨hR,fun r hr ν h=>⟨bD (N:=DX ar R M) hR r hr ν (fun l hl=>(h l hl).mono (fun _ _ g=>g.1)),fun⟨r',aa,l',ac,ab,e⟩=>absurd e.symm (hA r' aa l' ac ab r hr)⟩,fun k t h=>h.1⟩
theorem Abx {ar:Nat->Nat}{R:List Dy}{M:MM}:NgIn R (DX ar R M) M:=fun r hr l hl hn t ht=>ht.2 ⟨r,hr,l,hl,hn,rfl⟩
theorem Abi {D:Cu}{M M':MM}{d d' b:Int}(h:GroA D M M' d d')(hb:tot M-d+b<=4000):Room M' d' b:=fun x hx=>by
 have h1:=h.cnt;obtain⟨k,hk⟩:=List.getElem?_of_mem hx;have:∀(M:MM) (k:Nat) (x:Nat×List Bc),M[k]?=some x->(x.2.length:Int)<=tot M:=by
  intro M;induction M with
  |nil=>intro k x h;simp at h
  |cons y M ih=>
   intro k x h;have hn:0<=tot M:=by
    clear ih h;induction M with
    |nil=>simp[tot,Hs]
    |cons z M ih=>rw[Dj];omega
   rw[Dj];cases k with
   |zero=>simp at h;subst h;omega
   |succ k=>have:=ih k x (by simpa using h);omega
 have:=this M' k x hk;omega
def W6 (t:Tm):Tm:=if t.1=true then (false,1000+t.2)else t
def Ha (a:Df):Df:=⟨a.p,a.ts.map W6⟩
def Sml (ts:List Tm):Prop:=∀t∈ts,-1000000<=t.2/\t.2<=1000000
theorem P0 (p:Int)(ids:Nat)(ts:List Tm)(hn:ts.length<=1000)(hs:Sml ts)(q:St):ACalls Tryz.prog 157 [ag [ic p,sl ids ts.length (Ac ts)]] q fun r q'=>(∃id,r=ag [ic p,sl id ts.length (Ac (ts.map W6))])/\Keep q q':=by
 have ap:=Ci ts;refine Z9 30 [.cell 2 122] Tryz.func157 ?_
 repeat' (first|refine Z1 ?_|(refine Z8 ?_;intro κ hκ)|(refine Z4 ?_;clear hκ κ)|(refine Z2 ?_ ?_<;>intro h ae<;>try exact Xp)|(refine Z6 ?_;intro idn qn ah ai ad aa ac ab)|refine Z3 ?_|exact⟨⟩|(apply hκ.out;clear hκ κ))
 refine Af (fun m s q'=>∃(i i3:Nat) (xs:List AV),m=ts.length-i/\i<=ts.length/\s 2=ptr (q.nobj+1) 0/\s 3=ptr (q.nobj+2) 0/\s 10=sl ids ts.length (Ac ts)/\s 11=ic ts.length/\s 12=ic i/\Keep q q'/\q.nobj+2<q'.nobj/\q'.obj (q.nobj+1)=[ic 0,nilS]/\q'.obj (q.nobj+2)=[ic p,sl i3 i xs]/\Own q q' i3 i/\xs.length=i*2/\Ajs (xs=Ac ((ts.take i).map W6))) ts.length
  ⟨0,1,[],Ajm,Ajm,Ajo,Ajo,Ajo,Ajo,rfl,Xs,Ajr,?_,?_,Own.nil _ _,by simp,by simp[Ajs,Ac]⟩ ?_
 ·rw[Ai Ajm,Ag Ajq,Bt Ajq Ajq]
 ·rw[show q.nobj+2=q.nobj+1+1 from rfl,Ak]
 rintro m s q' ⟨i,i3,xs,rfl,hi,h2,h3,ax,aw,av,hK,au,an,am,hO,aj,hX⟩;have ao:=hK.nobj;by_cases ak:i<ts.length
 ·have af:=List.getElem?_eq_getElem ak;obtain⟨r,hd⟩:=Cm af;have hb:=hs _ (Ah6 ak);generalize ts[i]=w at hd af hb;obtain⟨w1,w2⟩:=w;have HG:Ajs (Ac ((ts.take (i+1)).map W6)=Ac ((ts.take i).map W6)++I3 (W6 (w1,w2))):=by
   rw[Ajs,Agz,af];simp[Ac]
  clear af;cases w1 with
  |true=>
   repeat' (first|refine Z1 ?_|(refine Z8 ?_;intro κ hκ)|(refine Z4 ?_;clear hκ κ)|(refine Z2 ?_ ?_<;>intro h ae<;>try exact Xp)|(refine Z6 ?_;intro idn qn ah ai ad aa ac ab)|refine Z3 ?_|exact⟨⟩|(apply hκ.out;clear hκ κ))
   refine Bh (by first|exact Eb) (((hK.new _).put hK.nobj _).put hK.nobj _) (Own.put (Own.put (Own.new hO _) _ _) _ _) (by decide) (by rfl) (aj) (by rfl) (by rfl) (by decide) Ajm Ajm ?_;intro idn qn ah ai ad aa ac ab;simp only[Ab,Aa]at aa;refine Z3 ?_
   repeat' (first|refine Z1 ?_|(refine Z8 ?_;intro κ hκ)|(refine Z4 ?_;clear hκ κ)|(refine Z2 ?_ ?_<;>intro h ae<;>try exact Xp)|(refine Z6 ?_;intro idn qn ah ai ad aa ac ab)|refine Z3 ?_|exact⟨⟩|(apply hκ.out;clear hκ κ))
   refine⟨ts.length-(i+1),Ajm,i+1,idn,xs++[sc (.bool false),ic (1000+w2)],?_⟩
   ((repeat' with_reducible refine And.intro ?_ ?_)<;>first|exact Xq|exact (ai.put Ajm _)|exact (Own.put ah _ _)|exact (by rw[Ajs,HG.out,hX.out];rfl)|exact Xs)
  |false=>
   repeat' (first|refine Z1 ?_|(refine Z8 ?_;intro κ hκ)|(refine Z4 ?_;clear hκ κ)|(refine Z2 ?_ ?_<;>intro h ae<;>try exact Xp)|(refine Z6 ?_;intro idn qn ah ai ad aa ac ab)|refine Z3 ?_|exact⟨⟩|(apply hκ.out;clear hκ κ))
   refine Bh (by first|exact Eb) ((hK.new _).put hK.nobj _) (Own.put (Own.new hO _) _ _) (by decide) (by rfl) (aj) (by rfl) (by rfl) (by decide) Ajm Ajm ?_;intro idn qn ah ai ad aa ac ab;simp only[Ab,Aa]at aa;refine Z3 ?_
   repeat' (first|refine Z1 ?_|(refine Z8 ?_;intro κ hκ)|(refine Z4 ?_;clear hκ κ)|(refine Z2 ?_ ?_<;>intro h ae<;>try exact Xp)|(refine Z6 ?_;intro idn qn ah ai ad aa ac ab)|refine Z3 ?_|exact⟨⟩|(apply hκ.out;clear hκ κ))
   refine⟨ts.length-(i+1),Ajm,i+1,idn,xs++[sc (.bool false),ic w2],?_⟩
   ((repeat' with_reducible refine And.intro ?_ ?_)<;>first|exact Xq|exact (ai.put Ajm _)|exact (Own.put ah _ _)|exact (by rw[Ajs,HG.out,hX.out];rfl)|exact Xs)
 ·have hil:i=ts.length:=Ajm;subst hil;have hX:=hX.out;rw[Agw]at hX
  repeat' (first|refine Z1 ?_|(refine Z8 ?_;intro κ hκ)|(refine Z4 ?_;clear hκ κ)|(refine Z2 ?_ ?_<;>intro h ae<;>try exact Xp)|(refine Z6 ?_;intro idn qn ah ai ad aa ac ab)|refine Z3 ?_|exact⟨⟩|(apply hκ.out;clear hκ κ))
  exact⟨_,rfl,⟨i3,by first|rfl|rw[hX]⟩,hK.put Ajm _⟩
theorem Q7 (r:Dy)(c:List AV)(hc:aP r c)(hl:r.body.length<=64)(ha:∀l∈r.body,l.a.ts.length<=3/\Sml l.a.ts)(q:St):ACalls Tryz.prog 156 [ag c] q fun x q'=>(∃id cs,x=sl id r.body.length cs/\EL Mm (r.body.map fun l=>Ha l.a) cs)/\Keep q q':=by
 obtain⟨o,ih,ib,bc,rfl,hB⟩:=hc;have aw:=EL.length Gs hB;refine Z9 22 [.tmp 2] Tryz.func156 ?_
 repeat' (first|refine Z1 ?_|(refine Z8 ?_;intro κ hκ)|(refine Z4 ?_;clear hκ κ)|(refine Z2 ?_ ?_<;>intro h ad<;>try exact Xp)|(refine Z6 ?_;intro idn qn aj ak af ac ae ab)|refine Z3 ?_|exact⟨⟩|(apply hκ.out;clear hκ κ))
 refine Af (fun m s q'=>∃(i i3:Nat) (xs:List AV),m=r.body.length-i/\i<=r.body.length/\s 3=sl i3 i xs/\s 8=sl ib r.body.length bc/\s 9=ic r.body.length/\s 10=ic i/\Keep q q'/\Own q q' i3 i/\xs.length=i*2/\Ajs (EL Mm ((r.body.take i).map fun l=>Ha l.a) xs)) r.body.length
  ⟨0,1,[],Ajm,Ajm,Ajo,Ajo,Ajo,rfl,Xs,Own.nil _ _,by simp,rfl⟩ ?_
 rintro m s q' ⟨i,i3,xs,rfl,hi,h3,h8,h9,az,hK,hO,av,hX⟩;have au:=hK.nobj;by_cases ah:i<r.body.length
 ·have aa:=List.getElem?_eq_getElem ah;obtain⟨id,rr,hd⟩:=Hl hB aa;obtain⟨ao,ai⟩:=ha _ (Ah6 ah);generalize r.body[i]=w at hd aa ao ai;have an:w.a.ts.length<=1000:=Ajm;have ap:=fun q=>P0 w.a.p id w.a.ts an ai q;have HG:Ajs ((r.body.take (i+1)).map (fun l=>Ha l.a)=(r.body.take i).map (fun l=>Ha l.a)++[Ha w.a]):=by
   rw[Ajs,Agz,aa];simp
  clear aa
  repeat' (first|refine Z1 ?_|(refine Z8 ?_;intro κ hκ)|(refine Z4 ?_;clear hκ κ)|(refine Z2 ?_ ?_<;>intro h ad<;>try exact Xp)|(refine Z6 ?_;intro idn qn aj ak af ac ae ab)|(refine Z5 ?_;refine Xi (ap _) ?_;rintro _ _ ⟨⟨idf,rfl⟩,am⟩;(have ay:=((hK.new _).put hK.nobj _).trans am;have ax:=Own.keep (Own.put (Own.new hO _) _ _) am))|refine Z3 ?_|exact⟨⟩|(apply hκ.out;clear hκ κ))
  refine⟨r.body.length-(i+1),Ajm,i+1,idn,xs++[ic w.a.p,sl idf w.a.ts.length (Ac (w.a.ts.map W6))],?_⟩
  ((repeat' with_reducible refine And.intro ?_ ?_)<;>first|exact Xq|exact (by rw[Ajs,HG.out];exact EL.append hX.out (EL.single ⟨idf,by simp[Ha]⟩))|exact Xs)
 ·have hil:i=r.body.length:=Ajm;subst hil;rw[Agw]at hX
  repeat' (first|refine Z1 ?_|(refine Z8 ?_;intro κ hκ)|(refine Z4 ?_;clear hκ κ)|(refine Z2 ?_ ?_<;>intro h ad<;>try exact Xp)|(refine Z6 ?_;intro idn qn aj ak af ac ae ab)|refine Z3 ?_|exact⟨⟩|(apply hκ.out;clear hκ κ))
  first|exact⟨_,rfl,⟨i3,xs,rfl,hX.out⟩,hK⟩|exact⟨_,rfl,i3,xs,rfl,hX.out⟩
def F5 (n:Int)(l:Lit):Lit:=if l.neg=true then⟨false,⟨l.a.p+n,l.a.ts⟩⟩else l
def zZ (n:Int)(r:Dy):Dy:=⟨r.head,r.body.map (F5 n)⟩
theorem Vv (r:Dy)(c:List AV)(n:Int)(hc:aP r c)(hl:r.body.length<=64)(hp:∀l∈r.body,0<=l.a.p/\l.a.p<=1000000)(ax:0<=n)(aw:n<=1000000)(q:St):ACalls Tryz.prog 155 [ag c,ic n] q fun x q'=>(∃c',x=ag c'/\aP (zZ n r) c')/\Keep q q':=by
 obtain⟨o,ih,ib,bc,rfl,hB⟩:=hc;have ay:=EL.length Gs hB;refine Z9 36 [.cell 4 125] Tryz.func155 ?_
 repeat' (first|refine Z1 ?_|(refine Z8 ?_;intro κ hκ)|(refine Z4 ?_;clear hκ κ)|(refine Z2 ?_ ?_<;>intro h af<;>try exact Xp)|(refine Z6 ?_;intro idn qn ai aj ad aa ac ab)|refine Z3 ?_|exact⟨⟩|(apply hκ.out;clear hκ κ))
 refine Af (fun m s q'=>∃(i i3:Nat) (xs:List AV),m=r.body.length-i/\i<=r.body.length/\s 1=ic n/\s 4=ptr (q.nobj+1) 0/\s 5=ptr (q.nobj+2) 0/\s 12=sl ib r.body.length bc/\s 13=ic r.body.length/\s 14=ic i/\Keep q q'/\q.nobj+2<q'.nobj/\q'.obj (q.nobj+1)=[sc (.bool false),ic 0,nilS,nilS]/\q'.obj (q.nobj+2)=[sc (.bool false),ic r.head.p,sl ih r.head.ts.length (Ac r.head.ts),sl i3 i xs]/\Own q q' i3 i/\xs.length=i*3/\Ajs (EL Qf ((r.body.take i).map (F5 n)) xs)) r.body.length
  ⟨0,1,[],Ajm,Ajm,by simp[upd,initS],Ajo,Ajo,Ajo,Ajo,rfl,Xs,Ajr,?_,?_,Own.nil _ _,by simp,rfl⟩ ?_
 ·rw[Ai Ajm,Ag Ajq,Bt Ajq Ajq]
 ·rw[show q.nobj+2=q.nobj+1+1 from rfl,Ak]
 rintro m s q' ⟨i,i3,xs,rfl,hi,h1,h4,h5,a3,a0,az,hK,av,ap,ao,hO,ak,hX⟩;have au:=hK.nobj;by_cases am:i<r.body.length
 ·have ah:=List.getElem?_eq_getElem am;obtain⟨id,rr,hd⟩:=Hl hB ah;have an:=hp _ (Ah6 am);generalize r.body[i]=w at hd ah an;have HG:Ajs ((r.body.take (i+1)).map (F5 n)=(r.body.take i).map (F5 n)++[F5 n w]):=by
   rw[Ajs,Agz,ah];simp
  clear ah;cases ae:w.neg with
  |true=>
   rw[ae]at hd;have HX:Ajs (EL Qf ((r.body.take (i+1)).map (F5 n)) (xs++[sc (.bool false),ic (w.a.p+n),sl id w.a.ts.length (Ac w.a.ts)])):=by
    rw[Ajs,HG.out];refine EL.append hX.out (EL.single ?_);rw[F5,if_pos ae];exact⟨id,rfl⟩
   clear hX HG
   repeat' (first|refine Z1 ?_|(refine Z8 ?_;intro κ hκ)|(refine Z4 ?_;clear hκ κ)|(refine Z2 ?_ ?_<;>intro h af<;>try exact Xp)|(refine Z6 ?_;intro idn qn ai aj ad aa ac ab)|refine Z3 ?_|exact⟨⟩|(apply hκ.out;clear hκ κ))
   refine Bh (by first|exact El) ((((hK.new _).put hK.nobj _).put hK.nobj _).put hK.nobj _) (Own.put (Own.put (Own.put (Own.new hO _) _ _) _ _) _ _) (by decide) (by rfl) (ak) (by rfl) (by rfl) (by decide) Ajm Ajm ?_;intro idn qn ai aj ad aa ac ab;simp only[Ab,Aa]at aa;refine Z3 ?_
   repeat' (first|refine Z1 ?_|(refine Z8 ?_;intro κ hκ)|(refine Z4 ?_;clear hκ κ)|(refine Z2 ?_ ?_<;>intro h af<;>try exact Xp)|(refine Z6 ?_;intro idn qn ai aj ad aa ac ab)|refine Z3 ?_|exact⟨⟩|(apply hκ.out;clear hκ κ))
   refine⟨r.body.length-(i+1),Ajm,i+1,idn,xs++[sc (.bool false),ic (w.a.p+n),sl id w.a.ts.length (Ac w.a.ts)],?_⟩
   ((repeat' with_reducible refine And.intro ?_ ?_)<;>first|exact Xq|exact (aj.put Ajm _)|exact (Own.put ai _ _)|exact (HX)|exact Xs)
  |false=>
   rw[ae]at hd;have HX:Ajs (EL Qf ((r.body.take (i+1)).map (F5 n)) (xs++[sc (.bool false),ic w.a.p,sl id w.a.ts.length (Ac w.a.ts)])):=by
    rw[Ajs,HG.out];refine EL.append hX.out (EL.single ?_);rw[F5,if_neg (by rw[ae];simp)];exact⟨id,by rw[ae]⟩
   clear hX HG
   repeat' (first|refine Z1 ?_|(refine Z8 ?_;intro κ hκ)|(refine Z4 ?_;clear hκ κ)|(refine Z2 ?_ ?_<;>intro h af<;>try exact Xp)|(refine Z6 ?_;intro idn qn ai aj ad aa ac ab)|refine Z3 ?_|exact⟨⟩|(apply hκ.out;clear hκ κ))
   refine Bh (by first|exact El) ((hK.new _).put hK.nobj _) (Own.put (Own.new hO _) _ _) (by decide) (by rfl) (ak) (by rfl) (by rfl) (by decide) Ajm Ajm ?_;intro idn qn ai aj ad aa ac ab;simp only[Ab,Aa]at aa;refine Z3 ?_
   repeat' (first|refine Z1 ?_|(refine Z8 ?_;intro κ hκ)|(refine Z4 ?_;clear hκ κ)|(refine Z2 ?_ ?_<;>intro h af<;>try exact Xp)|(refine Z6 ?_;intro idn qn ai aj ad aa ac ab)|refine Z3 ?_|exact⟨⟩|(apply hκ.out;clear hκ κ))
   refine⟨r.body.length-(i+1),Ajm,i+1,idn,xs++[sc (.bool false),ic w.a.p,sl id w.a.ts.length (Ac w.a.ts)],?_⟩
   ((repeat' with_reducible refine And.intro ?_ ?_)<;>first|exact Xq|exact (aj.put Ajm _)|exact (Own.put ai _ _)|exact (HX)|exact Xs)
 ·have hil:i=r.body.length:=Ajm;subst hil;rw[Agw]at hX;have hL:(r.body.map (F5 n)).length=r.body.length:=by simp
  repeat' (first|refine Z1 ?_|(refine Z8 ?_;intro κ hκ)|(refine Z4 ?_;clear hκ κ)|(refine Z2 ?_ ?_<;>intro h af<;>try exact Xp)|(refine Z6 ?_;intro idn qn ai aj ad aa ac ab)|refine Z3 ?_|exact⟨⟩|(apply hκ.out;clear hκ κ))
  exact⟨_,rfl,⟨_,rfl,false,ih,i3,xs,by simp only[zZ];rw[hL],hX.out⟩,hK.put Ajm _⟩
end Go.Proofs.YtmoeoppbmhfbpabGreatDoorL
