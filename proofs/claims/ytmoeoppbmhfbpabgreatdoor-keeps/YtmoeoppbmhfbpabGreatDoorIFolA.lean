import Derived.Test.YtmoeoppbmhfbpabGreatDoorIEngX
import Derived.Test.YtmoeoppbmhfbpabGreatDoorIProgM
import Derived.Test.YtmoeoppbmhfbpabGreatDoorIPrtF
set_option maxHeartbeats 32000000
set_option maxRecDepth 100000
set_option linter.all false
open List renaming length->Z
namespace Go.Proofs.YtmoeoppbmhfbpabGreatDoorI
open Go.Abs
theorem iK (a c)(h:pL a c):Z c=4:=by obtain⟨o,ih,ib,bc,rfl,-⟩:=h;rfl
theorem wX {l cs i r}(h:EL pL l cs)(hi:l[i]?=some r):∃o ih ib bc rr,cs.drop (i*4)=sc (.bool o)::ic r.h.p::sl ih (Z r.h.ts) (Ad r.h.ts)::sl ib (Z r.A) bc::rr/\EL Sb r.A bc:=by
 obtain⟨c,rr,⟨o,ih,ib,bc,rfl,hB⟩,e⟩:=EL.get iK h hi;exact⟨o,ih,ib,bc,rr,e,hB⟩
def IJ (R:List Eu)(D:Dw)(M:MM):Prop:=∀r∈R,∀l∈r.A,l.neg=true->∀t,D l.a.p.toNat t->MD M l.a.p.toNat t
theorem IJ.gro {R D M M' d d'}(h:IJ R D M)(g:BE D M M' d d'):IJ R D M':=fun r hr l hl hn t ht=>g.sub (h r hr l hl hn t ht)
def OM (D:Dw):Int->Cc->Prop:=fun p t=>D p.toNat t
structure LP (np:Nat)(ar:Nat->Nat)(R:List Eu)(D:Dw):Prop where
 rw:∀r∈R,RW np ar r
 cl:LL R D D
 sh:∀k t,D k t->Sh ar k t
theorem f8 {np ar R D M nw fr r}(hF:LP np ar R D)(hn:Z M=np)(hr:r∈R)(hD:∀k t,MD M k t->D k t){t}(ht:Zh (OM D) (L6 M nw fr r) t):D r.h.p.toNat t:=by
 obtain⟨ν,h1,h2,rfl⟩:=(wS (ar:=ar) (hn ▸ hF.rw r hr)).1 ht;refine hF.cl r hr ν (fun l hl=>?_);unfold CG;cases aa:l.neg with
 |true=>simpa[OM]using h2 l hl aa
 |false=>
  obtain⟨i,hi⟩:=CO hl;obtain⟨k,hk,-⟩:=(hF.rw r hr).rok.bp l hl;have:=oN (h1 l i hi aa);rw[hk]at this;simp only[ER,if_false];rw[hk];exact hD k _ this
theorem Y6 {np ar R D}(hF:LP np ar R D)(om ot b)(ak: -1000000<=b)(aj:b<=900000)(M d)(hn:Z M=np)(hD:∀k t,MD M k t->D k t)(am:IJ R D M)(hR:Room M d b)(ai: -1000000<=d)(ah:d<=1000000)(r)(hr:r∈R)(nw fr c)(hc:EQ (L6 M nw fr r) c)(z)(hM:BL z om ot M d b):
  AF Tryz.prog 139 [ptr om 0,ag c] z fun x z'=>∃M' d',BL z' om ot M' d' b/\KM om ot M M' z z'/\BE D M M' d d'/\Room M' d' b/\d'<=1000000/\d<=d'/\(¬b<d'->∀ν,(∀(l:Lit) (i:Nat),r.A[i]?=some l->l.neg=false->Bz l.a ν∈Y7 M nw fr i l)->(∀l∈r.A,l.neg=true->¬D l.a.p.toNat (Bz l.a ν))->MD M' r.h.p.toNat (Bz r.h ν)):=by
 have aa:RW (Z M) ar r:=hn ▸ hF.rw r hr;obtain⟨a1,a2,a3⟩:=pf hM (fun k t ht=>hF.sh k t (hD k t ht)) aa nw fr;obtain⟨k,hk,ad⟩:=aa.rok.hp;have ac:∀a∈(L6 M nw fr r).B,∃l∈r.A,l.neg=true/\l.a=a:=fun a ha=>by
  obtain⟨l,hl,rfl⟩:=AO.1 ha;obtain⟨h1,h2⟩:=BV.1 hl;exact⟨l,h1,h2,rfl⟩
 have b1:BN (OM D) M (L6 M nw fr r):=fun a ha=>by
  obtain⟨l,h1,h2,rfl⟩:=ac a ha;obtain⟨j,hj,af⟩:=aa.rok.bp l h1;have hg:M[j]?=some M[j]:=AJ af;refine⟨j,M[j],hj,hg,fun t=>?_⟩;have hT:=Ck hg;have e:l.a.p.toNat=j:=by rw[hj];rfl
  unfold OM;rw[e];constructor
  ·intro ht;have:=am r hr l h1 h2 t (by rw[e];exact ht);rw[e]at this;unfold MD at this;rwa[hT]at this
  ·intro ht;exact hD j t (by unfold MD;rw[hT];exact ht)
 have b2:∀a∈(L6 M nw fr r).B,a.p≠(k:Int):=fun a ha e=>by
  obtain⟨l,h1,h2,rfl⟩:=ac a ha;exact aa.nne l h1 h2 (by rw[e,hk])
 have:=gP (OM D) om ot b _ _ (AR _) (L6 M nw fr r) c k M d hc a1 b1 b2 a2 hk ad hR ai ah ak aj a3 z hM;refine AF.mono this ?_;rintro x z' ⟨M',d',h1,h2,h3,h4,h5⟩;have ab:r.h.p.toNat=k:=by rw[hk];rfl
 refine⟨M',d',h1,h2,h3.all ad (fun t ht=>by rw[<-ab];exact f8 hF hn hr hD ht),h3.room hR,h4,h3.le,fun ae ν hν hν'=>?_⟩;unfold MD;rw[ab];exact h5 ae _ ((wS aa).2 ⟨ν,hν,hν',rfl⟩)
def DJ (D:Dw)(M0 M':MM)(seen:List Int)(r:Eu)(j:Nat):Prop:=∀(i:Nat) (l:Lit),i<j->r.A[i]?=some l->l.neg=false->∀ν,(∀l'∈r.A,CG D (MD M0) ν l')->Bz l.a ν∈(Be M0 l.a.p).drop ((seen[l.a.p.toNat]?).getD 0).toNat->MD M' r.h.p.toNat (Bz r.h ν)
theorem DJ.mono {D M0 M1 M2 seen r j d1 d2}(h:DJ D M0 M1 seen r j)(g:BE D M1 M2 d1 d2):DJ D M0 M2 seen r j:=fun i l hi hl hn ν h1 h2=>g.sub (h i l hi hl hn ν h1 h2)
theorem Uq {np ar R D}(hF:LP np ar R D)(om ot b)(cd: -1000000<=b)(cc:b<=900000)(M d)(hn:Z M=np)(hD:∀k t,MD M k t->D k t)(ci:IJ R D M)(cf:Room M d b)(da: -1000000<=d)(ca:d<=1000000)(rc idr)(bd:EL pL R rc)(dc:Z R<=1000)(seen ids)(bz:Z seen=np)(b1:∀n∈seen,0<=n/\n<=5000)(z)(hM:BL z om ot M d b):
  AF Tryz.prog 141 [ptr om 0,sl idr (Z R) rc,sl ids (Z seen) (As seen)] z fun x z'=>∃M' d',BL z' om ot M' d' b/\KM om ot M M' z z'/\BE D M M' d d'/\Room M' d' b/\d'<=1000000/\d<=d'/\(¬b<d'->∀r∈R,DJ D M M' seen r (Z r.A)):=by
 have cy:=EL.length iK bd;have cw:=B9 seen;have hpl:=hM.pl;have cx:np<=Z seen:=AA;have c7:Z M<=np:=AA;have c6:np<=Z M:=AA;have bo:AD (Z M=np):=hn;clear bz hn;refine Z9 59 [] Tryz.func141 ?_
 refine zz ?_
 refine Ae (fun m s z'=>∃(k:Nat) (M1:MM) (d1:Int),m=Z R-k/\k<=Z R/\s 0=ptr om 0/\s 2=sl ids (Z seen) (As seen)/\s 12=sl idr (Z R) rc/\s 13=ic (Z R)/\s 14=ic k/\BL z' om ot M1 d1 b/\KM om ot M M1 z z'/\d1<=1000000/\d<=d1/\AD (BE D M M1 d d1/\Room M1 d1 b/\(¬b<d1->∀r∈R.take k,DJ D M M1 seen r (Z r.A)))) (Z R)
  ⟨0,M,d,AA,AA,by simp[upd,AM],by simp[upd,AM],AG,AG,rfl,hM,KM.ofKeep (AE.refl _),ca,AA,BE.refl _ _ _,cf,fun _ r hr=>by simp at hr⟩ ?_
 rintro m s z' ⟨k,M1,d1,rfl,hk,h0,h2,bn,bm,bi,aw,an,am,ak,hG⟩;by_cases be:k<Z R
 ·have aa:=AJ be;obtain⟨o,ih,ib,bc,rr,hd,hB⟩:=wX bd aa;have ad:=AT be;generalize R[k]=r at hd aa ad hB;have cu:AD (R.take (k+1)=R.take k++[r]):=by rw[AD,AU,aa,BJ]
  clear aa;have db:=EL.length Hj hB;have cb:=(hF.rw r ad).rok.bl;have l1:=aw.lo;have l2:=aw.lt
  refine pz ?_
  refine Ae (fun m s z2=>∃(j:Nat) (M2:MM) (d2:Int),m=Z r.A-j/\j<=Z r.A/\s 0=ptr om 0/\s 2=sl ids (Z seen) (As seen)/\s 7=ptr z'.B 0/\s 12=sl idr (Z R) rc/\s 13=ic (Z R)/\s 14=ic k/\s 19=sl ib (Z r.A) bc/\s 20=ic (Z r.A)/\s 21=ic j/\BL z2 om ot M2 d2 b/\KM om ot M M2 z z2/\z'.B<z2.B/\z2.C z'.B=[sc (.bool o),ic r.h.p,sl ih (Z r.h.ts) (Ad r.h.ts),sl ib (Z r.A) bc]/\d2<=1000000/\d<=d2/\AD (BE D M M2 d d2/\Room M2 d2 b/\(¬b<d2->(∀r∈R.take k,DJ D M M2 seen r (Z r.A))/\DJ D M M2 seen r j))) (Z r.A)
   ⟨0,M1,d1,AA,AA,AI,AI,AG,AI,AI,AI,AG,AG,rfl,aw.keep (((AE.refl _).new _).put (AR _) _),an.trans (KM.ofKeep (((AE.refl _).new _).put (AR _) _)),BM,Ak,am,ak,hG.o.1,hG.o.2.1,fun h=>⟨hG.o.2.2 h,fun i l hi=>AA⟩⟩ ?_
  have ct:om≠z'.B:=AA;have cr:ot≠z'.B:=AA;clear h0 h2 bn bm bi aw an hG am ak l1 l2;rintro m s z2 ⟨j,M2,d2,rfl,hj,h0,h2,h7,bn,bm,bi,df,de,dd,af,au,c5,br,a8,b9,hG⟩;have l1:=af.lo;have l2:=af.lt;by_cases ay:j<Z r.A
  ·have aa:=AJ ay;obtain⟨id,r2,aj⟩:=H8 hB aa;have bf:=AT ay;generalize r.A[j]=w at aj aa bf;obtain⟨p,hp,cz⟩:=(hF.rw r ad).rok.bp w bf;have HW:AD (r.A[j]?=some w):=aa;clear aa;rw[hp]at aj;have a3:seen[p]?=some seen[p]:=AJ AA;obtain⟨rs,b7⟩:=Dz a3;have b0:=b1 _ (AT (show p<Z seen by omega));generalize seen[p]=f at a3 b7 b0;obtain⟨fn,rfl⟩:∃fn:Nat,f=(fn:Int):=⟨f.toNat,AA⟩;have cm:Z M2<=Z M/\Z M<=Z M2:=by have:=hG.o.1.len;omega
   have ai:M2[p]?=some M2[p]:=AJ AA;generalize M2[p]=y at ai;have c9:=Jp ai;have cv:=af.ln y (BD ai);have c8:=Jo M2;have obm:=af.ob;have obt:=af.oc;have b2:=af.pl;have ce:AD (Be M2 (p:Int)=y.2):=Ck ai
   --what this literal's turn must bring
   have ab:AD (∀M3 d3,BE D M2 M3 d2 d3->(¬b<d3->w.neg=false->∀ν,(∀l'∈r.A,CG D (MD M) ν l')->Bz w.a ν∈(Be M w.a.p).drop fn->MD M3 r.h.p.toNat (Bz r.h ν))->d2<=d3->(¬b<d3->(∀r∈R.take k,DJ D M M3 seen r (Z r.A))/\DJ D M M3 seen r (j+1))):=fun M3 d3 bg ah b3 a5=>by
    obtain⟨g1,g2⟩:=hG.o.2.2 AA;refine⟨fun r' az=>(g1 r' az).mono bg,fun i l hi hl av ν a1 a2=>?_⟩;by_cases e:i=j
    ·subst e;rw[HW.o]at hl;obtain rfl:=IA hl;refine ah a5 av ν a1 ?_;rw[hp]at a2⊢;rw[DU,a3]at a2;simpa using a2
    ·exact bg.sub (g2 i l AA hl av ν a1 a2)
   cases ae:w.neg with
   |true=>
    have HN:AD (BE D M M2 d d2/\Room M2 d2 b/\(¬b<d2->(∀r∈R.take k,DJ D M M2 seen r (Z r.A))/\DJ D M M2 seen r (j+1))):=
     ⟨hG.o.1,hG.o.2.1,ab.o M2 d2 (BE.refl _ _ _) (fun _ hh=>by rw[ae]at hh;cases hh) AA⟩
    rw[ae]at aj;clear ab ae
    refine pz ?_
    refine Ay Ag (fun _=>True) [] [0,1,2,3,4,5,6,7,8,9,10,11,12,13,14,15,16] [] AH (fun _ _ _ h=>h) ?_;intro yd yb
    refine pz ?_
    refine⟨Z r.A-(j+1),AA,j+1,M2,d2,?_⟩
    ((repeat' refine Zi ?_ ?_)<;>first|exact Xq|exact HN|exact (af.keep (((AE.refl _).new _).put (AR _) _))|exact (au.trans (KM.ofKeep (((AE.refl _).new _).put (AR _) _)))|exact Xs)
   |false=>
    rw[ae]at aj;clear ae
    refine pz ?_
    refine Ay Ag (fun _=>True) [] [0,1,2,3,4,5,6,7,8,9,10,11,12,13,14,15,16] [] AH (fun _ _ _ h=>h) ?_;intro yd yb;by_cases a6:fn<Z y.2
    ·have b6:decide ((fn:Int)<(Z y.2:Int))=true:=by simp;exact a6
     have cq:=fun z (h:BL z om ot M2 d2 b)=>eD om ot M2 d2 b r [sc (.bool o),ic r.h.p,sl ih (Z r.h.ts) (Ad r.h.ts),sl ib (Z r.A) bc] (j:Int) fn ⟨o,ih,ib,bc,rfl,hB⟩ (by have:=hG.o.1.len;rw[this,bo.o];exact (hF.rw r ad).rok) AA z h;have co:AD (∀c3,EQ (L6 M2 (j:Int) fn r) c3->∀z,BL z om ot M2 d2 b->AF Tryz.prog 139 [ptr om 0,ag c3] z fun x z'=>∃M' d',BL z' om ot M' d' b/\KM om ot M2 M' z z'/\BE D M2 M' d2 d'/\Room M' d' b/\d'<=1000000/\d2<=d'/\(¬b<d'->∀ν,(∀(l:Lit) (i:Nat),r.A[i]?=some l->l.neg=false->Bz l.a ν∈Y7 M2 (j:Int) fn i l)->(∀l∈r.A,l.neg=true->¬D l.a.p.toNat (Bz l.a ν))->MD M' r.h.p.toNat (Bz r.h ν))):=fun c3 h3 z hh=>
      Y6 hF om ot b cd cc M2 d2 (by have:=hG.o.1.len;rw[this];exact bo.o) (hG.o.1.inD hD) (ci.gro hG.o.1) hG.o.2.1 AA a8 r ad (j:Int) fn c3 h3 z hh
     clear a6
     (repeat (refine qb ?_;intro yd yb;(first|(refine Xi (cq _ (af.keep (Xs))) ?_;rintro _ _ ⟨⟨_,rfl,ih3,ip3,in3,pc3,nc3,rfl,ch,cj⟩,ba⟩;(have a0:=ba.B;have ax:=ba.C;simp only[Ab,Aa]at a0 ax;have cn:=(((AE.refl z2).new _).put (AR _) _).trans ba;have cp:=co.o _ ⟨ih3,ip3,in3,pc3,nc3,rfl,ch,cj⟩))|(refine Xi (cp _ (af.keep (Xs))) ?_;rintro _ _ ⟨M3,d3,ck,ap,bh,cg,b8,a7,ah⟩;(have bq:AD _:=bh;have bb:AD _:=ah;clear bh ah;have kn3:=ap.B;simp only[Ab,Aa]at kn3;have bw:=ap.C z'.B (by simp only[Ab,Aa];omega) ct.symm cr.symm;have a9:=(au.trans (KM.ofKeep ((cn.new _).put AA _))).trans ap)))));refine pz ?_
     have HN:AD (BE D M M3 d d3/\Room M3 d3 b/\(¬b<d3->(∀r∈R.take k,DJ D M M3 seen r (Z r.A))/\DJ D M M3 seen r (j+1))):=by
      refine⟨hG.o.1.trans bq.o,cg,ab.o M3 d3 bq.o (fun a5 _ ν a1 a2=>bb.o a5 ν (fun l i hl av=>?_) (fun l hl av=>by
       have:=a1 l hl;unfold CG at this;rw[av]at this
       simpa using this)) a7⟩
      have ao:=BD hl;obtain⟨p',a4,-⟩:=(hF.rw r ad).rok.bp l ao;obtain⟨nw,e1,-,-⟩:=hG.o.1.ext p';unfold Y7;by_cases e:(i:Int)=(j:Int)
      ·rw[if_pos e];have:i=j:=AA;subst this;rw[HW.o]at hl;obtain rfl:=IA hl;rw[a4]at a2⊢;rw[e1,List.drop_append];exact AW.2 (.inl a2)
      ·rw[if_neg e];have:=a1 l ao;unfold CG MD at this;rw[av,a4]at this;simp only[ER,if_false,DU]at this;rw[a4,e1];exact AW.2 (.inl this)
     refine⟨Z r.A-(j+1),AA,j+1,M3,d3,?_⟩;have bv:∀S:St,S.C z'.B=z2.C z'.B->S.C z'.B=[sc (.bool o),ic r.h.p,sl ih (Z r.h.ts) (Ad r.h.ts),sl ib (Z r.A) bc]:=fun S e=>by rw[e,br]
     have bu:=bv _ (by rw[bw,Aj AA,Ah AA,ax _ AA,Aj AA,Ah AA])
     ((repeat' refine Zi ?_ ?_)<;>first|exact Xq|exact HN|exact ck|exact a9|exact bu|exact Xs)
    ·have b6:decide ((fn:Int)<(Z y.2:Int))=false:=by simp;omega
     have HN:AD (BE D M M2 d d2/\Room M2 d2 b/\(¬b<d2->(∀r∈R.take k,DJ D M M2 seen r (Z r.A))/\DJ D M M2 seen r (j+1))):=by
      refine⟨hG.o.1,hG.o.2.1,ab.o M2 d2 (BE.refl _ _ _) (fun _ _ ν _ a2=>?_) AA⟩;exfalso;obtain⟨nw,e1,-,-⟩:=hG.o.1.ext p;rw[ce.o]at e1;have b3:Z (Be M (p:Int))<=Z y.2:=by rw[e1];simp
      rw[hp,NW AA]at a2;cases a2
     clear a6 ab
     refine pz ?_
     refine⟨Z r.A-(j+1),AA,j+1,M2,d2,?_⟩
     ((repeat' refine Zi ?_ ?_)<;>first|exact Xq|exact HN|exact (af.keep (((AE.refl _).new _).put (AR _) _))|exact (au.trans (KM.ofKeep (((AE.refl _).new _).put (AR _) _)))|exact Xs)
  ·have b5:j=Z r.A:=AA;subst b5;have HN:AD (BE D M M2 d d2/\Room M2 d2 b/\(¬b<d2->∀r∈R.take (k+1),DJ D M M2 seen r (Z r.A))):=by
    obtain⟨g1,g2,g3⟩:=hG.o;refine⟨g1,g2,fun h r' az=>?_⟩;rw[cu.o]at az;rcases AW.1 az with h'|h'
    ·exact (g3 h).1 r' h'
    ·simp at h';subst h';exact (g3 h).2
   refine pz ?_
   refine⟨Z R-(k+1),AA,k+1,M2,d2,?_⟩
   exact qh HN
 ·have b4:k=Z R:=AA;subst b4;obtain⟨g1,g2,g3⟩:=hG.o;rw[AS]at g3
  refine pz ?_
  first|exact⟨_,rfl,M1,d1,aw,an,g1,g2,am,ak,g3⟩|exact⟨M1,d1,aw,an,g1,g2,am,ak,g3⟩
theorem TY:∀(M M':MM),Z M'=Z M->(∀k:Nat,Z (Be M k)<=Z (Be M' k))->(tot M<=tot M'/\(tot M'<=tot M->∀k:Nat,Z (Be M' k)=Z (Be M k)))
 |[],M',hl,h=>by
  have:M'=[]:=GQ (by simpa using hl);subst this;exact⟨Int.le_refl _,fun _ k=>rfl⟩
 |x::M,[],hl,h=>by simp at hl
 |x::M,y::M',hl,h=>by
  obtain⟨h1,h2⟩:=TY M M' (by simpa using hl) (fun k=>by have:=h (k+1);simpa[Be]using this);have h0:=h 0;simp[Be]at h0;rw[Fj,Fj];refine⟨AA,fun aa k=>?_⟩;cases k with
  |zero=>simp[Be];omega
  |succ k=>
   have:=h2 AA k;simpa[Be]using this
theorem BE.lens {D M M' d d'}(h:BE D M M' d d')(k:Nat):Z (Be M k)<=Z (Be M' k):=by
 obtain⟨n,e,-,-⟩:=h.ext k;rw[e];simp
theorem BE.same {D M M' d d'}(h:BE D M M' d d')(ht:tot M'<=tot M)(k:Nat):Be M' k=Be M k:=by
 have hl:=(TY M M' h.len h.lens).2 ht k;obtain⟨n,e,-,-⟩:=h.ext k;rw[e]at hl⊢;have:n=[]:=by simpa using hl
 rw[this,FA]
theorem Rz {z om ot M d b}(hM:BL z om ot M d b):∀n∈It M,0<=n/\n<=5000:=fun n hn=>by
 obtain⟨x,hx,rfl⟩:=AO.1 hn;have:=hM.ln x hx;omega
theorem Jy (M):Z (It M)=Z M:=by simp[It]
theorem fu {M k}(hk:k<Z M):((It M)[k]?).getD 0=(Z (Be M (k:Int)):Int):=by
 have hg:M[k]?=some M[k]:=AJ hk;rw[Ck hg];simp[It,hk]
def MC (D:Dw)(R:List Eu)(MS M1:MM):Prop:=∀r∈R,∀ν,(∀l∈r.A,CG D (MD MS) ν l)->MD M1 r.h.p.toNat (Bz r.h ν)
theorem Yc {N D ν l}(hn:l.neg=false)(h:CG N D ν l):D l.a.p.toNat (Bz l.a ν):=by
 unfold CG at h;rw[hn]at h;simpa using h
theorem nD {N D ν l}(hn:l.neg=true)(h:CG N D ν l):¬N l.a.p.toNat (Bz l.a ν):=by
 unfold CG at h;rw[hn]at h;simpa using h
theorem m0 {np ar R D MS M1 M2 ds d1 d2}(hF:LP np ar R D)(hn:Z MS=np)(hS:BE D MS M1 ds d1)(hB:MC D R MS M1)(h2:BE D M1 M2 d1 d2)(hN:∀r∈R,DJ D M1 M2 (It MS) r (Z r.A)):MC D R M1 M2:=fun r hr ν h=>by
 by_cases ac:∀l∈r.A,CG D (MD MS) ν l
 ·exact h2.sub (hB r hr ν ac)
 ·obtain⟨l,hl⟩:∃l,¬(l∈r.A->CG D (MD MS) ν l):=Classical.not_forall.1 ac;have ad:l∈r.A:=Classical.byContradiction fun hh=>hl (fun h'=>absurd h' hh);have ae:¬CG D (MD MS) ν l:=fun hh=>hl (fun _=>hh);have ab:l.neg=false:=by
   cases hc:l.neg with
   |false=>rfl
   |true=>
    exfalso;have:=nD hc (h l ad);exact ae (by unfold CG;rw[hc];simpa using this)
  have aa:¬MD MS l.a.p.toNat (Bz l.a ν):=fun hh=>ae (by unfold CG;rw[ab];simpa using hh);obtain⟨i,hi⟩:=CO ad;have hil:=(BG.1 hi).1;obtain⟨k,hk,af⟩:=(hF.rw r hr).rok.bp l ad;refine hN r hr i l hil hi ab ν h ?_;obtain⟨nw,e,-,-⟩:=hS.ext k;have hm:=Yc ab (h l ad);unfold MD at hm aa;rw[hk]at hm aa⊢;rw[DU]at hm aa;rw[DU,fu AA,DU];rw[e]at hm⊢;rw[List.drop_left];rcases AW.1 hm with h'|h'
  ·exact absurd h' aa
  ·exact h'
theorem Y0 {R D MS M1 np ar ds d1}(hF:LP np ar R D)(hS:BE D MS M1 ds d1)(hB:MC D R MS M1)(ht:tot M1<=tot MS):LL R D (MD M1):=fun r hr ν h=>hB r hr ν (fun l hl=>by
 have:=h l hl;unfold CG at this⊢;split
 ·rename_i hc;rw[if_pos hc]at this;exact this
 ·rename_i hc;rw[if_neg hc]at this;obtain⟨k,hk,-⟩:=(hF.rw r hr).rok.bp l hl;unfold MD at this⊢;rw[hk]at this⊢;rw[DU]at this⊢;rw[hS.same ht k]at this
  exact this)
theorem Rw {np ar R D}(hF:LP np ar R D)(om ot b)(br: -1000000<=b)(bq:b<=900000)(M d)(hn:Z M=np)(hD:∀k t,MD M k t->D k t)(bv:IJ R D M)(b7:Room M d b)(cm: -1000000<=d)(b5:d<=1000000)(rc idr)(a7:EL pL R rc)(b8:Z R<=1000)(z)(hM:BL z om ot M d b):
  AF Tryz.prog 84 [ptr om 0,sl idr (Z R) rc] z fun x z'=>∃M' d',BL z' om ot M' d' b/\KM om ot M M' z z'/\BE D M M' d d'/\d<=d'/\d'<=1000000/\(¬b<d'->LL R D (MD M')):=by
 have cj:=EL.length iK a7;have hpl:=hM.pl;have bl:=fun (M:MM) (d:Int) z (h:BL z om ot M d b)=>Ry om ot M d b z h;have b1:=bl M d;have a4:AD (Z M=np):=hn;have ck:Z M<=np/\np<=Z M:=AA;clear hn;refine Z9 43 [] Tryz.func84 ?_
 refine qb ?_;intro yd yb;refine Xi (b1 _ (hM.keep (Xs))) ?_;rintro _ _ ⟨⟨id0,rfl⟩,bi⟩;refine pz ?_
 rename_i σ0
 refine Ae (fun m s z'=>∃(k:Nat) (M1:MM) (d1:Int),m=Z R-k/\k<=Z R/\s 0=ptr om 0/\s 1=sl idr (Z R) rc/\s 4=sl id0 (Z M) (As (It M))/\s 11=sl idr (Z R) rc/\s 12=ic (Z R)/\s 13=ic k/\BL z' om ot M1 d1 b/\KM om ot M M1 z z'/\d1<=1000000/\d<=d1/\AD (BE D M M1 d d1/\Room M1 d1 b/\(¬b<d1->MC D (R.take k) M M1))) (Z R)
  ⟨0,M,d,AA,AA,by simp[upd,AM],by simp[upd,AM],AG,by simp[upd,AM],AG,rfl,hM.keep bi,KM.ofKeep bi,b5,AA,BE.refl _ _ _,b7,fun _ r hr=>by simp at hr⟩ ?_
 clear bi b1;rintro m s z' ⟨k,M1,d1,rfl,hk,h0,h1,h4,ch,cg,cf,aa,ac,ab,ad,hG⟩;by_cases a8:k<Z R
 ·have ah:=AJ a8;obtain⟨o,ih,ib,bc,rr,hd,hB⟩:=wX a7 ah;have af:=AT a8;generalize R[k]=r at hd ah af hB;have ci:AD (R.take (k+1)=R.take k++[r]):=by rw[AD,AU,ah,BJ]
  clear ah;have ak:Z M1=np:=by have:=hG.o.1.len;rw[this];exact a4.o
  have ce:=fun z (h:BL z om ot M1 d1 b)=>eD om ot M1 d1 b r [sc (.bool o),ic r.h.p,sl ih (Z r.h.ts) (Ad r.h.ts),sl ib (Z r.A) bc] (-1) 0 ⟨o,ih,ib,bc,rfl,hB⟩ (by rw[ak];exact (hF.rw r af).rok) AA z h;have cb:AD (∀c3,EQ (L6 M1 (-1) 0 r) c3->∀z,BL z om ot M1 d1 b->AF Tryz.prog 139 [ptr om 0,ag c3] z fun x z'=>∃M' d',BL z' om ot M' d' b/\KM om ot M1 M' z z'/\BE D M1 M' d1 d'/\Room M' d' b/\d'<=1000000/\d1<=d'/\(¬b<d'->∀ν,(∀(l:Lit) (i:Nat),r.A[i]?=some l->l.neg=false->Bz l.a ν∈Y7 M1 (-1) 0 i l)->(∀l∈r.A,l.neg=true->¬D l.a.p.toNat (Bz l.a ν))->MD M' r.h.p.toNat (Bz r.h ν))):=fun c3 h3 z hh=>
   Y6 hF om ot b br bq M1 d1 ak (hG.o.1.inD hD) (bv.gro hG.o.1) hG.o.2.1 AA ab r af (-1) 0 c3 h3 z hh
  clear ak;have l1:=aa.lo;have l2:=aa.lt
  (repeat (refine qb ?_;intro yd yb;(first|(refine Xi (ce _ (aa.keep (Xs))) ?_;rintro _ _ ⟨⟨_,rfl,ih3,ip3,in3,pc3,nc3,rfl,b9,ca⟩,bg⟩;(have a6:=bg.B;have a5:=bg.C;simp only[Ab,Aa]at a6 a5;have aw:=(((AE.refl z').new _).put (AR _) _).trans bg;have cc:=cb.o _ ⟨ih3,ip3,in3,pc3,nc3,rfl,b9,ca⟩))|(refine Xi (cc _ (aa.keep (Xs))) ?_;rintro _ _ ⟨M3,d3,a3,an,ax,bd,bb,ba,ae⟩;(have ap:AD _:=ax;have ao:AD _:=ae;clear ax ae;have am:=(ac.trans (KM.ofKeep ((aw.new _).put AA _))).trans an)))));refine pz ?_
  have HN:AD (BE D M M3 d d3/\Room M3 d3 b/\(¬b<d3->MC D (R.take (k+1)) M M3)):=by
   refine⟨hG.o.1.trans ap.o,bd,fun aj r' bn ν a1=>?_⟩;rw[ci.o]at bn;rcases AW.1 bn with h'|h'
   ·exact ap.o.sub (hG.o.2.2 AA r' h' ν a1)
   ·simp at h';subst h';refine ao.o aj ν (fun l i hl a9=>?_) (fun l hl a9=>nD a9 (a1 l hl));have bo:=BD hl;obtain⟨p',b2,-⟩:=(hF.rw r' af).rok.bp l bo;unfold Y7;rw[if_neg AA];have:=Yc a9 (a1 l bo);unfold MD at this;rw[b2]at this⊢;exact hG.o.1.sub this
  refine⟨Z R-(k+1),AA,k+1,M3,d3,?_⟩
  exact ql HN a3 am
 ·have b3:k=Z R:=AA;subst b3;rw[AS]at hG;have b0:=bl M1 d1
  refine qb ?_;intro yd yb;refine Xi (b0 _ (aa.keep (Xs))) ?_;rintro _ _ ⟨⟨id1,rfl⟩,bh⟩;refine pz ?_
  rename_i z1
  refine Ae (fun m s z'=>∃(MS M1:MM) (ds d1:Int) (ia ib:Nat),m=2*(b-d1+1).toNat+(if tot MS<tot M1 then 1 else 0)/\s 0=ptr om 0/\s 1=sl idr (Z R) rc/\s 4=sl ia (Z MS) (As (It MS))/\s 8=sl ib (Z M1) (As (It M1))/\BL z' om ot M1 d1 b/\KM om ot M M1 z z'/\d1<=1000000/\d<=d1/\Z MS<=5000/\(∀n∈It MS,0<=n/\n<=5000)/\AD (Z MS=np/\BE D M M1 d d1/\BE D MS M1 ds d1/\Room M1 d1 b/\(¬b<d1->MC D R MS M1))) (2*(b-d1+1).toNat+(if tot M<tot M1 then 1 else 0))
   ⟨M,M1,d,d1,id0,id1,rfl,AI,AI,AI,AG,aa.keep bh,ac.trans (KM.ofKeep bh),ab,ad,hpl,Rz hM,a4.o,hG.o.1,hG.o.1,hG.o.2.1,hG.o.2.2⟩ ?_
  clear h0 h1 h4 ch cg cf aa ac ab ad hG bh b0 a8 hk;rintro m s z2 ⟨MS,M1,ds,d1,ia,ib,rfl,h0,h1,h4,h8,aa,ac,ab,ad,cn,bu,hG⟩;have av:=Qi om ot M1 d1 b;have az:=fun (id:Nat) z=>Np (It M1) id (by rw[Jy];have:=aa.pl;omega) (fun n hn=>by have:=Rz aa n hn;omega) z;have a0:=fun (id:Nat) z=>Np (It MS) id (by rw[Jy];omega) (fun n hn=>by have:=bu n hn;omega) z;rw[show (It M1).sum=tot M1 from rfl]at az;rw[show (It MS).sum=tot MS from rfl]at a0;rw[Jy]at az a0;by_cases ay:b<d1
  ·rw[show decide (b<d1)=true from by simpa using ay]at av
   refine qb ?_;intro yd yb;refine Xi (av _ (aa.keep (Xs))) ?_;rintro _ _ ⟨rfl,rfl⟩;refine pz ?_
   first|exact⟨_,rfl,M1,d1,aa,ac,hG.o.2.1,ad,ab,fun h=>absurd ay h⟩|exact⟨M1,d1,aa,ac,hG.o.2.1,ad,ab,fun h=>absurd ay h⟩
  ·rw[show decide (b<d1)=false from by simpa using ay]at av;by_cases bm:tot MS<tot M1
   ·have b4:decide (tot M1>tot MS)=true:=by simpa using bm
    have bz:=fun z (h:BL z om ot M1 d1 b)=>Uq hF om ot b br bq M1 d1 (hG.o.2.1.len.trans a4.o) (hG.o.2.1.inD hD) (bv.gro hG.o.2.1) hG.o.2.2.2.1 AA ab rc idr a7 b8 (It MS) ia (by rw[Jy];exact hG.o.1) bu z h;rw[Jy]at bz;rw[if_pos bm]
    repeat' first|refine Z1 ?_|refine Z8 fun yd yb=>?_|refine Z4 ?_;clear yb yd|refine Z2 ?_ ?_<;>intro h ai<;>try exact Xp|(refine Z5 ?_;first|(refine Xi (av _ (aa.keep (Xs))) ?_;rintro _ _ ⟨rfl,rfl⟩)|(refine Xi (az _ _) ?_;rintro _ _ ⟨rfl,bf⟩;(have aw:=bf))|(refine Xi (a0 _ _) ?_;rintro _ _ ⟨rfl,be⟩;(have au:=aw.trans be))|(refine Xi (bz _ (aa.keep (Xs))) ?_;rintro _ _ ⟨M3,d3,a3,an,ax,bd,bb,ba,ae⟩;(have ap:AD _:=ax;have ao:AD _:=ae;clear ax ae;have am:=(ac.trans (KM.ofKeep au)).trans an;have cd:=bl M3 d3))|(refine Xi (cd _ (a3.keep (Xs))) ?_;rintro _ _ ⟨⟨ic3,rfl⟩,bw⟩))|refine Z3 ?_|exact Zt|apply yb.o;clear yb yd
    have b6:=ap.o.cnt;refine⟨2*(b-d3+1).toNat+(if tot M1<tot M3 then 1 else 0),by split<;>omega,M1,M3,d1,d3,ib,ic3,?_⟩
    have HN:AD (Z M1=np/\BE D M M3 d d3/\BE D M1 M3 d1 d3/\Room M3 d3 b/\(¬b<d3->MC D R M1 M3)):=
     ⟨hG.o.2.1.len.trans a4.o,hG.o.2.1.trans ap.o,ap.o,bd,fun aj=>m0 hF hG.o.1 hG.o.2.2.1 (hG.o.2.2.2.2 AA) ap.o (ao.o aj)⟩
    ((repeat' refine Zi ?_ ?_)<;>first|exact Xq|exact HN|exact (a3.keep bw)|exact (am.trans (KM.ofKeep bw))|exact aa.pl|exact (Rz aa)|exact Xs)
   ·have b4:decide (tot M1>tot MS)=false:=by simp;omega
    repeat' first|refine Z1 ?_|refine Z8 fun yd yb=>?_|refine Z4 ?_;clear yb yd|refine Z2 ?_ ?_<;>intro h ai<;>try exact Xp|(refine Z5 ?_;first|(refine Xi (av _ (aa.keep (Xs))) ?_;rintro _ _ ⟨rfl,rfl⟩)|(refine Xi (az _ _) ?_;rintro _ _ ⟨rfl,bf⟩;(have aw:=bf))|(refine Xi (a0 _ _) ?_;rintro _ _ ⟨rfl,be⟩;(have au:=aw.trans be)))|refine Z3 ?_|exact Zt|apply yb.o;clear yb yd
    first|exact⟨_,rfl,M1,d1,aa.keep au,ac.trans (KM.ofKeep au),hG.o.2.1,ad,ab,fun aj=>Y0 hF hG.o.2.2.1 (hG.o.2.2.2.2 aj) AA⟩|exact⟨M1,d1,aa.keep au,ac.trans (KM.ofKeep au),hG.o.2.1,ad,ab,fun aj=>Y0 hF hG.o.2.2.1 (hG.o.2.2.2.2 aj) AA⟩
theorem pq {ar a ν k}(h3:Z a.ts<=3)(har:Z a.ts=ar k)(h:Sh ar k (Bz a ν)):∀t∈a.ts,∃n:Nat,Gd ν t=(n:Int)/\n<1026:=by
 obtain⟨l,e,hl,hx⟩:=h;intro t ht;obtain⟨i,hi⟩:=CO ht;have hil:=(BG.1 hi).1;have h2:(a.ts.map (Gd ν))[i]?=some (Gd ν t):=by rw[EY,hi];rfl
 have aa:i<Z l:=AA;have h4:l[i]?=some l[i]:=AJ aa;have h5:Gd ν t=l[i]:=by
  unfold Bz C4 at e;simp only[List.cons.injEq,and_true]at e;obtain⟨e0,e1,e2⟩:=e;have:i=0\/i=1\/i=2:=AA;rcases this with rfl|rfl|rfl
  ·rw[h2,h4]at e0;exact e0
  ·rw[h2,h4]at e1;exact e1
  ·rw[h2,h4]at e2;exact e2
 rw[h5];exact hx _ (AT aa)
theorem je {np ar R N}(h:∀r∈R,RW np ar r):LL R N (Sh ar):=fun r hr ν hb=>by
 have hw:=h r hr;refine⟨r.h.ts.map (Gd ν),rfl,by rw[BP];exact hw.har,fun x hx=>?_⟩;obtain⟨t,ht,rfl⟩:=AO.1 hx;obtain⟨tv,tn⟩:=t;cases tv with
 |false=>exact hw.hc _ ht rfl
 |true=>
  obtain⟨l,hl,hn,hv⟩:=hw.safe tn (.inl (by rw[AL];exact ht));exact pq (hw.rok.ba l hl) (hw.bar l hl) (Yc hn (hb l hl)) _ (AL.1 hv)
def EM (R:List Eu)(B:Dw):Dw:=fun k t=>∀D:Dw,(∀k t,B k t->D k t)->LL R B D->D k t
theorem EM.base {R B k t}(h:B k t):EM R B k t:=fun D hB _=>hB k t h
theorem CG.mono {N D D' ν l}(h:CG N D ν l)(hD:∀k t,D k t->D' k t):CG N D' ν l:=by
 unfold CG at h⊢;split
 ·rename_i hc;rw[if_pos hc]at h;exact h
 ·rename_i hc;rw[if_neg hc]at h;exact hD _ _ h
theorem EM.cl (R B):LL R B (EM R B):=fun r hr ν h D hB hC=>hC r hr ν (fun l hl=>(h l hl).mono (fun k t g=>g D hB hC))
theorem EM.nonhead {R B k t}(hk:∀r∈R,r.h.p.toNat≠k)(h:EM R B k t):B k t:=by
 have:=h (fun j u=>j=k->B j u) (fun j u g _=>g) (fun r hr ν _ e=>absurd e (hk r hr));exact this rfl
theorem EM.least {R B D}(hB:∀k t,B k t->D k t)(hC:LL R B D){k t}(h:EM R B k t):D k t:=h D hB hC
def aA (t:Tm):Tm:=if t.1=true then (false,1000+t.2)else t
def Ih (a:Dv):Dv:=⟨a.p,a.ts.map aA⟩
def NY (ts:List Tm):Prop:=∀t∈ts,-1000000<=t.2/\t.2<=1000000
theorem Rv (p ids ts)(hn:Z ts<=1000)(hs:NY ts)(z):AF Tryz.prog 157 [ag [ic p,sl ids (Z ts) (Ad ts)]] z fun r z'=>(∃id,r=ag [ic p,sl id (Z ts) (Ad (ts.map aA))])/\AE z z':=by
 have ap:=Cs ts;refine Z9 30 [.cell 2 122] Tryz.func157 ?_
 refine zz ?_
 refine Ae (fun m s z'=>∃(i i3:Nat) (xs:List AV),m=Z ts-i/\i<=Z ts/\s 2=ptr (z.B+1) 0/\s 3=ptr (z.B+2) 0/\s 10=sl ids (Z ts) (Ad ts)/\s 11=ic (Z ts)/\s 12=ic i/\AE z z'/\z.B+2<z'.B/\z'.C (z.B+1)=[ic 0,nilS]/\z'.C (z.B+2)=[ic p,sl i3 i xs]/\Own z z' i3 i/\Z xs=i*2/\AD (xs=Ad ((ts.take i).map aA))) (Z ts)
  ⟨0,1,[],AA,AA,AG,AG,AG,AG,rfl,Xs,BM,?_,?_,Own.nil _ _,by simp,by simp[AD,Ad]⟩ ?_
 ·rw[Aj AA,Ah AK,Bg AK AK]
 ·rw[show z.B+2=z.B+1+1 from rfl,Ak]
 rintro m s z' ⟨i,i3,xs,rfl,hi,h2,h3,ax,aw,av,hK,au,an,am,hO,aj,hX⟩;have ao:=hK.B;by_cases ak:i<Z ts
 ·have ab:=AJ ak;obtain⟨r,hd⟩:=Cz ab;have hb:=hs _ (AT ak);generalize ts[i]=w at hd ab hb;obtain⟨w1,w2⟩:=w;have HG:AD (Ad ((ts.take (i+1)).map aA)=Ad ((ts.take i).map aA)++Jx (aA (w1,w2))):=by
   rw[AD,AU,ab];simp[Ad]
  clear ab;cases w1 with
  |true=>
   refine qm ?_;intro yd yb
   refine Bn (by first|exact E0) (((hK.new _).put hK.B _).put hK.B _) (Own.put (Own.put (Own.new hO _) _ _) _ _) (by decide) (by rfl) (aj) (by rfl) (by rfl) (by decide) AA AA ?_;intro idn zn ae af ai aa ah ad;simp only[Ab,Aa]at aa;refine Z3 ?_
   refine zz ?_
   refine⟨Z ts-(i+1),AA,i+1,idn,xs++[sc (.bool false),ic (1000+w2)],?_⟩
   ((repeat' refine Zi ?_ ?_)<;>first|exact Xq|exact (af.put AA _)|exact (Own.put ae _ _)|exact (by rw[AD,HG.o,hX.o];rfl)|exact Xs)
  |false=>
   refine qm ?_;intro yd yb
   refine Bn (by first|exact E0) ((hK.new _).put hK.B _) (Own.put (Own.new hO _) _ _) (by decide) (by rfl) (aj) (by rfl) (by rfl) (by decide) AA AA ?_;intro idn zn ae af ai aa ah ad;simp only[Ab,Aa]at aa;refine Z3 ?_
   refine zz ?_
   refine⟨Z ts-(i+1),AA,i+1,idn,xs++[sc (.bool false),ic w2],?_⟩
   ((repeat' refine Zi ?_ ?_)<;>first|exact Xq|exact (af.put AA _)|exact (Own.put ae _ _)|exact (by rw[AD,HG.o,hX.o];rfl)|exact Xs)
 ·have hil:i=Z ts:=AA;subst hil;have hX:=hX.o;rw[AS]at hX
  refine pz ?_
  exact⟨_,rfl,⟨i3,by first|rfl|rw[hX]⟩,hK.put AA _⟩
theorem Tb (r c)(hc:pL r c)(hl:Z r.A<=64)(ha:∀l∈r.A,Z l.a.ts<=3/\NY l.a.ts)(z):AF Tryz.prog 156 [ag c] z fun x z'=>(∃id cs,x=sl id (Z r.A) cs/\EL O1 (r.A.map fun l=>Ih l.a) cs)/\AE z z':=by
 obtain⟨o,ih,ib,bc,rfl,hB⟩:=hc;have au:=EL.length Hj hB;refine Z9 22 [.tmp 2] Tryz.func156 ?_
 refine zz ?_
 refine Ae (fun m s z'=>∃(i i3:Nat) (xs:List AV),m=Z r.A-i/\i<=Z r.A/\s 3=sl i3 i xs/\s 8=sl ib (Z r.A) bc/\s 9=ic (Z r.A)/\s 10=ic i/\AE z z'/\Own z z' i3 i/\Z xs=i*2/\AD (EL O1 ((r.A.take i).map fun l=>Ih l.a) xs)) (Z r.A)
  ⟨0,1,[],AA,AA,AG,AG,AG,rfl,Xs,Own.nil _ _,by simp,rfl⟩ ?_
 rintro m s z' ⟨i,i3,xs,rfl,hi,h3,h8,h9,az,hK,hO,ap,hX⟩;have ao:=hK.B;by_cases ac:i<Z r.A
 ·have aa:=AJ ac;obtain⟨id,rr,hd⟩:=H8 hB aa;obtain⟨aj,ad⟩:=ha _ (AT ac);generalize r.A[i]=w at hd aa aj ad;have ai:Z w.a.ts<=1000:=AA;have ak:=fun z=>Rv w.a.p id w.a.ts ai ad z;have HG:AD ((r.A.take (i+1)).map (fun l=>Ih l.a)=(r.A.take i).map (fun l=>Ih l.a)++[Ih w.a]):=by
   rw[AD,AU,aa];simp
  clear aa
  refine qb ?_;intro yd yb;refine Xi (ak _) ?_;rintro _ _ ⟨⟨idf,rfl⟩,ae⟩;(have ax:=((hK.new _).put hK.B _).trans ae;have av:=Own.keep (Own.put (Own.new hO _) _ _) ae);refine qc ?_;intro idn zn aw ay an ah am af;refine pz ?_
  refine⟨Z r.A-(i+1),AA,i+1,idn,xs++[ic w.a.p,sl idf (Z w.a.ts) (Ad (w.a.ts.map aA))],?_⟩
  ((repeat' refine Zi ?_ ?_)<;>first|exact Xq|exact (by rw[AD,HG.o];exact EL.append hX.o (EL.single ⟨idf,by simp[Ih]⟩))|exact Xs)
 ·have hil:i=Z r.A:=AA;subst hil;rw[AS]at hX
  refine pz ?_
  first|exact⟨_,rfl,⟨i3,xs,rfl,hX.o⟩,hK⟩|exact⟨_,rfl,i3,xs,rfl,hX.o⟩
def Gz (n:Int)(l:Lit):Lit:=if l.neg=true then⟨false,⟨l.a.p+n,l.a.ts⟩⟩else l
def NP (n:Int)(r:Eu):Eu:=⟨r.h,r.A.map (Gz n)⟩
theorem Yr (r c n)(hc:pL r c)(hl:Z r.A<=64)(hp:∀l∈r.A,0<=l.a.p/\l.a.p<=1000000)(ax:0<=n)(aw:n<=1000000)(z):AF Tryz.prog 155 [ag c,ic n] z fun x z'=>(∃c',x=ag c'/\pL (NP n r) c')/\AE z z':=by
 obtain⟨o,ih,ib,bc,rfl,hB⟩:=hc;have ay:=EL.length Hj hB;refine Z9 36 [.cell 4 125] Tryz.func155 ?_
 refine zz ?_
 refine Ae (fun m s z'=>∃(i i3:Nat) (xs:List AV),m=Z r.A-i/\i<=Z r.A/\s 1=ic n/\s 4=ptr (z.B+1) 0/\s 5=ptr (z.B+2) 0/\s 12=sl ib (Z r.A) bc/\s 13=ic (Z r.A)/\s 14=ic i/\AE z z'/\z.B+2<z'.B/\z'.C (z.B+1)=[sc (.bool false),ic 0,nilS,nilS]/\z'.C (z.B+2)=[sc (.bool false),ic r.h.p,sl ih (Z r.h.ts) (Ad r.h.ts),sl i3 i xs]/\Own z z' i3 i/\Z xs=i*3/\AD (EL Sb ((r.A.take i).map (Gz n)) xs)) (Z r.A)
  ⟨0,1,[],AA,AA,by simp[upd,AM],AG,AG,AG,AG,rfl,Xs,BM,?_,?_,Own.nil _ _,by simp,rfl⟩ ?_
 ·rw[Aj AA,Ah AK,Bg AK AK]
 ·rw[show z.B+2=z.B+1+1 from rfl,Ak]
 rintro m s z' ⟨i,i3,xs,rfl,hi,h1,h4,h5,a3,a0,az,hK,av,ap,ao,hO,ak,hX⟩;have au:=hK.B;by_cases am:i<Z r.A
 ·have ac:=AJ am;obtain⟨id,rr,hd⟩:=H8 hB ac;have an:=hp _ (AT am);generalize r.A[i]=w at hd ac an;have HG:AD ((r.A.take (i+1)).map (Gz n)=(r.A.take i).map (Gz n)++[Gz n w]):=by
   rw[AD,AU,ac];simp
  clear ac;cases aa:w.neg with
  |true=>
   rw[aa]at hd;have HX:AD (EL Sb ((r.A.take (i+1)).map (Gz n)) (xs++[sc (.bool false),ic (w.a.p+n),sl id (Z w.a.ts) (Ad w.a.ts)])):=by
    rw[AD,HG.o];refine EL.append hX.o (EL.single ?_);rw[Gz,if_pos aa];exact⟨id,rfl⟩
   clear hX HG
   refine qm ?_;intro yd yb
   refine Bn (by first|exact Fe) ((((hK.new _).put hK.B _).put hK.B _).put hK.B _) (Own.put (Own.put (Own.put (Own.new hO _) _ _) _ _) _ _) (by decide) (by rfl) (ak) (by rfl) (by rfl) (by decide) AA AA ?_;intro idn zn af ah aj ab ai ae;simp only[Ab,Aa]at ab;refine Z3 ?_
   refine zz ?_
   refine⟨Z r.A-(i+1),AA,i+1,idn,xs++[sc (.bool false),ic (w.a.p+n),sl id (Z w.a.ts) (Ad w.a.ts)],?_⟩
   ((repeat' refine Zi ?_ ?_)<;>first|exact Xq|exact (ah.put AA _)|exact (Own.put af _ _)|exact HX|exact Xs)
  |false=>
   rw[aa]at hd;have HX:AD (EL Sb ((r.A.take (i+1)).map (Gz n)) (xs++[sc (.bool false),ic w.a.p,sl id (Z w.a.ts) (Ad w.a.ts)])):=by
    rw[AD,HG.o];refine EL.append hX.o (EL.single ?_);rw[Gz,if_neg (by rw[aa];simp)];exact⟨id,by rw[aa]⟩
   clear hX HG
   refine qm ?_;intro yd yb
   refine Bn (by first|exact Fe) ((hK.new _).put hK.B _) (Own.put (Own.new hO _) _ _) (by decide) (by rfl) (ak) (by rfl) (by rfl) (by decide) AA AA ?_;intro idn zn af ah aj ab ai ae;simp only[Ab,Aa]at ab;refine Z3 ?_
   refine zz ?_
   refine⟨Z r.A-(i+1),AA,i+1,idn,xs++[sc (.bool false),ic w.a.p,sl id (Z w.a.ts) (Ad w.a.ts)],?_⟩
   ((repeat' refine Zi ?_ ?_)<;>first|exact Xq|exact (ah.put AA _)|exact (Own.put af _ _)|exact HX|exact Xs)
 ·have hil:i=Z r.A:=AA;subst hil;rw[AS]at hX;have hL:Z (r.A.map (Gz n))=Z r.A:=by simp
  refine pz ?_
  exact⟨_,rfl,⟨_,rfl,false,ih,i3,xs,by simp only[NP];rw[hL],hX.o⟩,hK.put AA _⟩
structure IC (np:Nat)(F:List Dv)(M:MM):Prop where
 len:Z M=np
 nd:∀x∈M,x.2.Nodup
 mem:∀(k:Nat) (t:Cc),MD M k t↔∃a∈F,a.p=(k:Int)/\t=Cw a
 tot:tot M<=Z F
theorem jG {M}{k:Nat}{x}(h:M[k]?=some x):Be M (k:Int)=x.2:=Ck h
theorem IC.nil (np):IC np [] (List.replicate np (1,[])):=by
 refine⟨by simp,fun x hx=>?_,fun k t=>⟨fun h=>?_,fun⟨a,ha,_⟩=>by simp at ha⟩,?_⟩
 ·rw[(JB.1 hx).2];exact IS
 ·exfalso;unfold MD at h;by_cases hk:k<np
  ·rw[jG (x:=(1,[])) (by rw[List.getElem?_replicate,if_pos hk])]at h;simp at h
  ·unfold Be at h;simp[hk]at h
 ·have:∀n:Nat,Go.Proofs.YtmoeoppbmhfbpabGreatDoorI.tot (List.replicate n ((1:Nat),([]:List Cc)))=0:=by
   intro n;induction n with
   |zero=>rfl
   |succ n ih=>rw[OJ,Fj,ih];rfl
  rw[this];simp
theorem IC.has {np F M a}{k:Nat}{x}(h:IC np F M)(hk:a.p=(k:Int))(hx:M[k]?=some x)(hm:Cw a∈x.2):IC np (F++[a]) M:=by
 refine⟨h.len,h.nd,fun j t=>?_,by have:=h.tot;simp;omega⟩;rw[h.mem j t];constructor
 ·rintro⟨b,hb,h1,h2⟩;exact⟨b,FZ _ hb,h1,h2⟩
 ·rintro⟨b,hb,h1,h2⟩;rcases AW.1 hb with h'|h'
  ·exact⟨b,h',h1,h2⟩
  ·rw[GF]at h';subst h';have aa:j=k:=AA;subst aa;refine (h.mem j t).1 ?_;unfold MD;rw[Ck hx,h2];exact hm
theorem IC.add {np F M a}{k id':Nat}{x}(h:IC np F M)(hk:a.p=(k:Int))(hx:M[k]?=some x)(hm:Cw a∉x.2):IC np (F++[a]) (M.set k (id',x.2++[Cw a])):=by
 have ac:k<Z M:=(BG.1 hx).1;have ab:Be (M.set k (id',x.2++[Cw a])) (k:Int)=x.2++[Cw a]:=Ck (x:=(id',x.2++[Cw a])) (by rw[GK,if_pos rfl,if_pos ac]);have aa:∀j:Nat,j≠k->(M.set k (id',x.2++[Cw a]))[j]?=M[j]?:=fun j hj=>by rw[GK,if_neg (fun e=>hj e.symm)]
 refine⟨by simp[h.len],fun y hy=>?_,fun j t=>?_,?_⟩
 ·rcases OD hy with h'|rfl
  ·exact h.nd y h'
  ·rw[JK];exact⟨h.nd x (BD hx),by simp,fun u hu v hv e=>hm (by rw[GF]at hv;rw[<-hv,<-e];exact hu)⟩
 ·by_cases hj:j=k
  ·subst hj;unfold MD;rw[ab,AW,GF];have hM:=h.mem j t;unfold MD at hM;rw[Ck hx]at hM;rw[hM];constructor
   ·rintro (⟨b,hb,h1,h2⟩|h')
    ·exact⟨b,FZ _ hb,h1,h2⟩
    ·exact⟨a,by simp,hk,h'⟩
   ·rintro⟨b,hb,h1,h2⟩;rcases AW.1 hb with h'|h'
    ·exact .inl ⟨b,h',h1,h2⟩
    ·rw[GF]at h';subst h';exact .inr h2
  ·have hM:=h.mem j t;unfold MD Be at hM⊢;rw[DU]at hM⊢;rw[aa j hj,hM];constructor
   ·rintro⟨b,hb,h1,h2⟩;exact⟨b,FZ _ hb,h1,h2⟩
   ·rintro⟨b,hb,h1,h2⟩;rcases AW.1 hb with h'|h'
    ·exact⟨b,h',h1,h2⟩
    ·rw[GF]at h';subst h';omega
 ·have:=Qx M (M.set k (id',x.2++[Cw a])) k 1 (by simp) (fun j hj=>by rw[aa j hj]) (fun _=>by rw[ab,Ck hx];simp) (fun h'=>AA);have h2:=h.tot;simp;omega
structure KX (z:St)(ot:Nat)(M:MM):Prop where
 oc:z.C ot=Gw M
 lt:ot<z.B
 live:∀x∈M,Live z x.1 (Z x.2)
 inj:∀(i j:Nat) (x y:Nat×List Cc),M[i]?=some x->M[j]?=some y->i≠j->x.1=1\/x.1≠y.1
 t3:∀x∈M,T3 x.2
 ln:∀x∈M,Z x.2<=5000
 pl:Z M<=5000
theorem KX.keep {z z' ot M}(h:KX z ot M)(k:AE z z'):KX z' ot M:=⟨(k.C _ h.lt).trans h.oc,By h.lt k.B,fun x hx=>(h.live x hx).keep k,h.inj,h.t3,h.ln,h.pl⟩
theorem KX.mob {z om ot M d b}(h:KX z ot M)(ho:z.C om=[fx ot 0 (Z M),ic d,ic b])(hl:om<z.B)(hn:om≠ot):BL z om ot M d b:=⟨ho,h.oc,hl,h.lt,hn,h.live,h.inj,h.t3,h.ln,h.pl⟩
theorem BL.mpt {z om ot M d b}(h:BL z om ot M d b):KX z ot M:=⟨h.oc,h.lt,h.live,h.inj,h.t3,h.ln,h.pl⟩
theorem AE.km {σ0 z z' om ot M M'}(hK:AE σ0 z)(h:KM om ot M M' z z')(hm:σ0.B<=om)(ht:σ0.B<=ot)(hM:∀x∈M,x.1=1):AE σ0 z':=
 ⟨BO hK.B h.B,fun o ho=>(h.C o (By ho hK.B) AA AA).trans (hK.C o ho),fun o ho=>(h.ver o (By ho hK.B) AA AA).trans (hK.ver o ho),BO hK.D h.D,fun k hk=>(h.top k (By hk hK.D) (fun x hx e=>by rw[hM x hx]at e;omega)).trans (hK.top k hk)⟩
theorem mY (np):Gw (List.replicate np (1,[]))=List.replicate np nilS:=by
 unfold Gw;rw[List.map_replicate];rfl
theorem Ym (np F cs idf b)(hF:EL O1 F cs)(hn:np<=5000)(bh:Z F<=1000)(bb:∀a∈F,Z a.ts<=3/\∃k:Nat,a.p=(k:Int)/\k<np)(z):
  AF Tryz.prog 49 [ic np,sl idf (Z F) cs,ic b] z fun r z'=>∃ot M,r=ag [fx ot 0 np,ic 0,ic b]/\IC np F M/\AE z z'/\z.B<=ot/\KX z' ot M/\(∀x∈M,x.1=1\/z.D+2<=x.1):=by
 have bg:=EL.length I9 hF;refine Z9 27 [.cell 6 77] Tryz.func49 ?_
 refine zz ?_
 obtain⟨σ0,hz0⟩:∃τ,τ=((((z.new [nilS,ic 0,ic 0]).new (List.replicate np nilS)).new [nilS,ic 0,ic 0]).put (z.B+1+1) [fx (z.B+1) 0 np,ic 0,ic b]):=⟨_,rfl⟩;rw[<-hz0];have az:AE z σ0:=by rw[hz0];exact Xs
 have bc:σ0.B=z.B+3:=by rw[hz0];rfl
 have av:σ0.C z.B=[nilS,ic 0,ic 0]:=by rw[hz0,Aj AA,Ah AK,Ah AK,Ao]
 have ax:BL σ0 (z.B+2) (z.B+1) (List.replicate np (1,[])) 0 b:=
  ⟨by rw[hz0,Ak];simp,by rw[mY,hz0,Aj AA,Ah AK,Bg AK AK],AA,AA,AA,fun x hx=>by rw[(JB.1 hx).2];exact .inl ⟨rfl,rfl⟩,fun i j x y hx hy _=>.inl (by rw[(JB.1 (BD hx)).2]),fun x hx=>by rw[(JB.1 hx).2];intro t ht;simp at ht,fun x hx=>by rw[(JB.1 hx).2];simp,by simpa using hn⟩
 refine Ae (fun m s z'=>∃(i:Nat) (M:MM),m=Z F-i/\i<=Z F/\s 6=ptr z.B 0/\s 7=ptr (z.B+2) 0/\s 14=sl idf (Z F) cs/\s 15=ic (Z F)/\s 16=ic i/\BL z' (z.B+2) (z.B+1) M 0 b/\KM (z.B+2) (z.B+1) (List.replicate np (1,[])) M σ0 z'/\z'.C z.B=[nilS,ic 0,ic 0]/\AD (IC np (F.take i) M)) (Z F)
  ⟨0,List.replicate np (1,[]),AA,AA,AG,AG,AG,AG,AG,ax,KM.ofKeep (AE.refl _),av,IC.nil np⟩ ?_
 clear ax av hz0;rintro m s z' ⟨i,M,rfl,hi,h6,h7,bm,bl,bi,hM,ai,hq,hI⟩;have bd:=ai.B;by_cases aw:i<Z F
 ·have aa:=AJ aw;obtain⟨id,rr,hd⟩:=Kd hF aa;obtain⟨ap,k,ae,bf⟩:=bb _ (AT aw);generalize F[i]=a at aa hd ap ae;have am:=hI.o.len;have hx:=AJ (l:=M) (i:=k) AA;generalize M[k]'AA=x at hx;have a0:AD (F.take (i+1)=F.take i++[a]):=by rw[AD,AU,aa,BJ]
  clear aa;have a5:Z x.2<5000:=by
   have h1:=hI.o.tot;have h2:(Z x.2:Int)<=Go.Proofs.YtmoeoppbmhfbpabGreatDoorI.tot M:=by
    have hg:∀(M:MM) (k:Nat) (x:Nat×List Cc),M[k]?=some x->(Z x.2:Int)<=Go.Proofs.YtmoeoppbmhfbpabGreatDoorI.tot M:=by
     intro M;induction M with
     |nil=>intro k x h;simp at h
     |cons y M ih=>
      intro k x h;rw[Fj];have hp:∀M:MM,0<=Go.Proofs.YtmoeoppbmhfbpabGreatDoorI.tot M:=by
       intro M;induction M with
       |nil=>exact Int.le_refl _
       |cons y M ih=>rw[Fj];omega
      cases k with
      |zero=>simp at h;subst h;have:=hp M;omega
      |succ k=>have:=ih k x (by simpa using h);omega
    exact hg M k x hx
   rw[CV]at h1;omega
  have ak:=fun z (h:BL z (σ0.B-1) (σ0.B-2) M 0 b)=>Jv (σ0.B-1) (σ0.B-2) M 0 b a id k x ap ae hx z h;have ay:=fun z (h:BL z (σ0.B-1) (σ0.B-2) M 0 b)=>Yo (σ0.B-1) (σ0.B-2) M 0 b a id k x ap ae hx a5 z h;rw[show σ0.B-1=z.B+2 by omega,show σ0.B-2=z.B+1 by omega]at ak ay;have HX:AD (M[k]?=some x):=hx;have a4:AD (a.p=(k:Int)):=ae;clear hx ae am;by_cases ac:Cw a∈x.2
  ·rw[show decide (Cw a∈x.2)=true by simpa using ac]at ak;have HN:AD (IC np (F.take (i+1)) M):=by rw[AD,a0.o];exact hI.o.has a4.o HX.o ac
   clear ac hI;have af:AE z' ((z'.new [ic 0,nilS]).put z'.B [ic a.p,sl id (Z a.ts) (Ad a.ts)]):=((AE.refl z').new _).put (AR _) _
   refine qb ?_;intro yd yb;refine Xi (ak _ (hM.keep af)) ?_;rintro _ _ ⟨rfl,aj⟩;(have ab:=af.trans aj);refine pz ?_
   refine⟨Z F-(i+1),AA,i+1,M,?_⟩
   ((repeat' refine Zi ?_ ?_)<;>first|exact Xq|exact HN|exact (hM.keep ab)|exact (ai.trans (KM.ofKeep ab))|exact (by rw[ab.C _ AA,hq])|exact Xs)
  ·rw[show decide (Cw a∈x.2)=false by simpa using ac]at ak;have HN:AD (∀id',IC np (F.take (i+1)) (M.set k (id',x.2++[Cw a]))):=fun id'=>by rw[a0.o];exact hI.o.add a4.o HX.o ac
   clear ac hI;have af:AE z' ((z'.new [ic 0,nilS]).put z'.B [ic a.p,sl id (Z a.ts) (Ad a.ts)]):=((AE.refl z').new _).put (AR _) _;have a6:∀p,p<z'.B+1->((z'.new [ic 0,nilS]).put z'.B [ic a.p,sl id (Z a.ts) (Ad a.ts)]).C p=((z'.new [ic 0,nilS]).put z'.B [ic a.p,sl id (Z a.ts) (Ad a.ts)]).C p:=fun p _=>rfl;clear a6
   (repeat (refine qb ?_;intro yd yb;(first|(refine Xi (ak _ (hM.keep af)) ?_;rintro _ _ ⟨rfl,aj⟩;(have ab:=af.trans aj;have an:=aj.C;have ao:=aj.B;simp only[Ab,Aa]at ao an))|(refine Xi (ay _ (hM.keep ab)) ?_;rintro _ _ ⟨id',a9,ah⟩))));refine pz ?_
   rename_i z2 z3;have au:=(ai.trans (KM.ofKeep ab)).trans ah;have a7:z3.C z.B=[nilS,ic 0,ic 0]:=by rw[ah.C _ AA AA AA,ab.C _ AA,hq]
   refine⟨Z F-(i+1),AA,i+1,M.set k (id',x.2++[Cw a]),?_⟩
   ((repeat' refine Zi ?_ ?_)<;>first|exact Xq|exact (HN.o id')|exact a9|exact au|exact a7|exact Xs)
 ·have hil:i=Z F:=AA;subst hil;have hI:=hI.o;rw[AS]at hI;have am:=hI.len;have a8:=hM.ob;rw[am]at a8;have be:=hM.lo;have HI:AD _:=hI;have HM:AD _:=hM;have a3:AD _:=ai;clear hI hM ai am
  refine pz ?_
  have ba:=AE.km az a3.o AA AA (fun x hx=>by rw[(JB.1 hx).2]);refine⟨_,rfl,z.B+1,M,rfl,HI.o,ba.put AA _,AA,?_,fun x hx=>?_⟩
  ·have h:=HM.o.mpt;exact⟨by rw[Oe AA];exact h.oc,h.lt,h.live,h.inj,h.t3,h.ln,h.pl⟩
  ·have hnt:=az.D;rcases a3.o.mid x hx with⟨y,hy,e⟩|e|e
   ·rw[(JB.1 hy).2]at e;exact .inl e.symm
   ·exact .inl e
   ·exact .inr AA
def C9 (N:List Tx)(a:AC):Dv:=⟨(N.idxOf a.B:Nat),a.A.map Ap⟩
def E9 (N:List Tx)(a:AC):Lit:=⟨a.nt,C9 N a⟩
def Cd (N:List Tx)(x:AB):Eu:=⟨C9 N x.h,x.A.map (E9 N)⟩
theorem Jw (ts):Ad (ts.map Ap)=A2 ts:=by
 unfold Ad A2;rw[LF];rfl
theorem tP {N}:∀{l:List AC} {b:List AV},EL (PL N) l b->EL Sb (l.map (E9 N)) b
 |[],b,h=>h
 |a::l,b,h=>by
  obtain⟨c1,c2,⟨-,ids,rfl⟩,h2,rfl⟩:=h;exact⟨_,c2,⟨ids,by simp[E9,C9,Jw]⟩,tP h2,rfl⟩
theorem lx {N x c}(h:PI N x c):pL (Cd N x) c:=by
 obtain⟨hm,ih,id,b,hb,rfl⟩:=h;exact⟨x.o,ih,id,b,by simp[Cd,C9,Jw],tP hb⟩
def CQ (R:List Eu)(F:List Dv):Dw:=fun k t=>∀D:Dw,LR R D->(∀a∈F,D a.p.toNat (Cw a))->D k t
theorem CQ.cl (R F):LR R (CQ R F):=fun r hr ν h D hD hF=>hD r hr ν (fun l hl=>h l hl D hD hF)
theorem CQ.fact {R F a}(h:a∈F):CQ R F a.p.toNat (Cw a):=fun D _ hF=>hF a h
theorem m8 {np ar R}(h:∀r∈R,RW np ar r)(hp:∀r∈R,∀l∈r.A,l.neg=false):LR R (Sh ar):=(gZ (N:=Sh ar) hp).1 (je h)
def OH (R:List Eu)(F:List Dv)(k:Nat)(h:Cc)(b:Bool):Prop:=
 ∃M:MM,(∀x∈M,x.2.Nodup)/\(∀j t,MD M j t->CQ R F j t)/\(if tot M<=200 then (∀j t,CQ R F j t->MD M j t)/\(b=true↔MD M k h)else b=false)
theorem BE.nodup {D M M' d d'}(h:BE D M M' d d')(hn:∀x∈M,x.2.Nodup):∀x∈M',x.2.Nodup:=fun x hx=>by
 obtain⟨k,hk⟩:=CO hx;obtain⟨nw,e,h1,h2⟩:=h.ext k;rw[Ck hk]at e;have aa:k<Z M:=by rw[<-h.len];exact (BG.1 hk).1
 have hg:M[k]?=some M[k]:=AJ aa;rw[Ck hg]at e;rw[e,JK];refine⟨hn _ (AT aa),h1,fun a ha b hb e2=>?_⟩;have:=(h2 b hb).2;rw[Ck hg]at this;exact this (e2 ▸ ha)
theorem YG {R F np M M' d' k h b}(hM:IC np F M)(ab:∀a∈F,∃k:Nat,a.p=(k:Int))(hG:BE (CQ R F) M M' 0 d')(hc:¬(200-tot M)<d'->LR R (MD M'))(hb:if d'<=200-tot M then (b=true↔MD M' k h)else b=false):OH R F k h b:=by
 refine⟨M',hG.nodup hM.nd,fun j t hj=>?_,?_⟩
 ·refine hG.inD (fun j t hj=>?_) j t hj;obtain⟨a,ha,e1,e2⟩:=(hM.mem j t).1 hj;have:=CQ.fact (R:=R) ha;rw[e1,DU]at this;rw[e2];exact this
 ·have ac:=hG.cnt;by_cases h2:tot M'<=200
  ·rw[if_pos h2];rw[if_pos AA]at hb;refine⟨fun j t hl=>hl (MD M') (hc AA) (fun a ha=>?_),hb⟩;obtain⟨k',aa⟩:=ab a ha;refine hG.sub ?_;rw[aa,DU];exact (hM.mem k' _).2 ⟨a,ha,aa,rfl⟩
  ·rw[if_neg h2];rw[if_neg AA]at hb;exact hb
def sB (l:List AB)(s:Nat)(x:AB):Bool:=!x.o&&(Bp l x.h.B==s)
def Zf (l:List AB)(s:Nat):List AB:=l.filter (sB l s)
def GC (N:List Tx)(l:List AB)(B:Dw):Nat->Dw
 |0=>B
 |s+1=>EM ((Zf l s).map (Cd N)) (GC N l B s)
theorem GC.up {N l B k t}:∀{s s':Nat},s<=s'->GC N l B s k t->GC N l B s' k t
 |s,0,h,g=>by
  have:s=0:=AA;subst this;exact g
 |s,s'+1,h,g=>by
  by_cases e:s=s'+1
  ·subst e;exact g
  ·exact EM.base (GC.up (s:=s) (s':=s') AA g)
end Go.Proofs.YtmoeoppbmhfbpabGreatDoorI
