import Derived.Test.YtmoeoppbmhfbpaaGreatDoorDOpuB
import Derived.Test.YtmoeoppbmhfbpaaGreatDoorDAgrB
import Derived.Test.YtmoeoppbmhfbpaaGreatDoorDPrtF
import Derived.Test.YtmoeoppbmhfbpaaGreatDoorDTxtK
import Derived.Test.YtmoeoppbmhfbpaaGreatDoorDLawA
import Derived.Test.YtmoeoppbmhfbpaaGreatDoorDRefH
import Derived.Test.YtmoeoppbmhfbpaaGreatDoorDShelf
import Derived.Test.YtmoeoppbmhfbpaaGreatDoorDOptB
set_option maxHeartbeats 64000000
set_option maxRecDepth 100000
set_option linter.all false
namespace Go.Proofs.YtmoeoppbmhfbpaaGreatDoorD
open Go.Abs
section
variable {N N2:List Tx} {ar ar2:Tx->Nat} {R R2:List RItem} {x x2:RItem}
theorem wI (h:L0 N ar R x)(hX:∀y∈R,XR y)(hx:XR x){a:RAtom}(ha:LA R (x.body.map Cl) a):LA (R.map ren) ((ren x).body.map Cl) (rA (Hj (Da (Au x))) a)/\rA (Hj (G8 (Au x))) (rA (Hj (Da (Au x))) a)=a:=by
 have ab:∀y∈R,∀a,a=y.head\/a∈y.body->∀t∈a.terms,VT t:=fun y hy a ha t ht=>by
  rcases ha with rfl|ha
  ·exact ((h.ru y hy).vt t ht).1
  ·exact ((h.ru y hy).vb a ha t ht).1
 have aa:∀b∈x.body,∀t∈b.terms,VT t:=fun b hb t ht=>(h.x.vb b hb t ht).1;have ac:∀a∈x.body.map Cl,rA (Hj (Da (Au x))) a∈(ren x).body.map Cl:=fun a ha=>by
  obtain⟨b,hb,rfl⟩:=Ae4.1 ha;rw[hx.frz (Aq (.inr hb)) (aa b hb)];exact Ae4.2 ⟨_,Ae4.2 ⟨b,hb,rfl⟩,rfl⟩
 have ad:∀a∈x.body.map Cl,rA (Hj (G8 (Au x))) (rA (Hj (Da (Au x))) a)=a:=fun a ha=>by
  obtain⟨b,hb,rfl⟩:=Ae4.1 ha;rw[hx.frz (Aq (.inr hb)) (aa b hb),hx.frz_back (Aq (.inr hb)) (aa b hb)]
 exact⟨fun S hS=>ha _ (pR ab ac ((cL hX).2 hS)),ha (fun a=>rA (Hj (G8 (Au x))) (rA (Hj (Da (Au x))) a)=a) (pS (fun y hy=>ab y hy _ (.inl rfl)) (fun y hy=>(h.ru y hy).safe) ad)⟩
theorem wJ (h:L0 N ar R x)(hX:∀y∈R,XR y)(hx:XR x){a:RAtom}(ha:LA (R.map ren) ((ren x).body.map Cl) a):LA R (x.body.map Cl) (rA (Hj (G8 (Au x))) a)/\rA (Hj (Da (Au x))) (rA (Hj (G8 (Au x))) a)=a:=by
 have ab:∀y∈R,∀a,a=y.head\/a∈y.body->∀t∈a.terms,VT t:=fun y hy a ha t ht=>by
  rcases ha with rfl|ha
  ·exact ((h.ru y hy).vt t ht).1
  ·exact ((h.ru y hy).vb a ha t ht).1
 have aa:∀b∈x.body,∀t∈b.terms,VT t:=fun b hb t ht=>(h.x.vb b hb t ht).1;have ac:∀a∈(ren x).body.map Cl,rA (Hj (G8 (Au x))) a∈x.body.map Cl:=fun a ha=>by
  obtain⟨c,hc,rfl⟩:=Ae4.1 ha;obtain⟨b,hb,rfl⟩:=Ae4.1 hc;rw[hx.frz_back (Aq (.inr hb)) (aa b hb)];exact Ae4.2 ⟨b,hb,rfl⟩
 have ad:∀a∈(ren x).body.map Cl,rA (Hj (Da (Au x))) (rA (Hj (G8 (Au x))) a)=a:=fun a ha=>by
  obtain⟨c,hc,rfl⟩:=Ae4.1 ha;obtain⟨b,hb,rfl⟩:=Ae4.1 hc;rw[hx.frz_back (Aq (.inr hb)) (aa b hb),hx.frz (Aq (.inr hb)) (aa b hb)]
 exact⟨fun S hS=>ha _ ((cL hX).1 (pR ab ac hS)),ha (fun a=>rA (Hj (Da (Au x))) (rA (Hj (G8 (Au x))) a)=a) ((cL hX).1 (pS (fun y hy=>ab y hy _ (.inl rfl)) (fun y hy=>(h.ru y hy).safe) ad))⟩
theorem Aab (h:L0 N ar R x)(h2:L0 N2 ar2 R2 x2)(hX:∀y∈R,XR y)(hx:XR x)(ac:∀y∈R2,XR y)(ab:XR x2)(hR:R.map ren=R2.map ren)(aa:ren x=ren x2){b b2:Bool}
  (hp:V8 (R.map (Dw N)) (E4 N x) (Dw N x).head.p.toNat (Ct (E3 (Dw N x).head)) b) (hp2:V8 (R2.map (Dw N2)) (E4 N2 x2) (Dw N2 x2).head.p.toNat (Ct (E3 (Dw N2 x2).head)) b2):b=b2:=by
 have hd:∀{N:List Tx} {ar:Tx->Nat} {R:List RItem} {x:RItem} (h:L0 N ar R x) (hx:XR x),rA (Hj (Da (Au x))) (Cl x.head)=Cl (ren x).head/\rA (Hj (G8 (Au x))) (Cl (ren x).head)=Cl x.head:=fun h hx=>
  ⟨hx.frz (Aq (.inl ⟨hx.out,rfl⟩)) fun t ht=>(h.x.vt t ht).1,hx.frz_back (Aq (.inl ⟨hx.out,rfl⟩)) fun t ht=>(h.x.vt t ht).1⟩
 refine Aaa h h2 (f:=fun a=>rA (Hj (G8 (Au x2))) (rA (Hj (Da (Au x))) a)) (g:=fun a=>rA (Hj (G8 (Au x))) (rA (Hj (Da (Au x2))) a)) (fun a ha=>?_) (fun a ha=>?_) ?_ ?_ hp hp2
 ·obtain⟨h3,h4⟩:=wI h hX hx ha;rw[hR,aa]at h3;obtain⟨h5,h6⟩:=wJ h2 ac ab h3;exact⟨h5,by rw[h6,h4]⟩
 ·obtain⟨h3,h4⟩:=wI h2 ac ab ha;rw[<-hR,<-aa]at h3;obtain⟨h5,h6⟩:=wJ h hX hx h3;exact⟨h5,by rw[h6,h4]⟩
 ·rw[(hd h hx).1,aa,(hd h2 ab).2]
 ·rw[(hd h2 ab).1,<-aa,(hd h hx).2]
end
def Sim (o o2:Option (List RItem)):Prop:=(o=none/\o2=none)\/∃m m2,o=some m/\o2=some m2/\LS m m2
def Wnt (l:List RItem)(q:Tx):Prop:=∃x∈l,x.out=true/\(x.head.pred=q\/Way (Fw l) x.head.pred q)
theorem Sk {N:List Tx}{l:List RItem}{M:Nat->Nat->Bool}(hN:kA N l)(hM:Ei N l M){q:Tx}(hq:q∈N):Jg N (Hv N.length M N.length) l (N.idxOf q)=true↔Wnt l q:=by
 unfold Jg Wnt;simp only[Aer,Adr,Agd,Age];constructor
 ·rintro⟨x,hx,ho,h⟩;refine⟨x,hx,ho,?_⟩;rcases h with h|h
  ·exact .inl (El (hN x hx).1 hq h)
  ·exact .inr ((dJ hN hM (hN x hx).1 hq).1 h)
 ·rintro⟨x,hx,ho,h⟩;refine⟨x,hx,ho,?_⟩;rcases h with rfl|h
  ·exact .inl rfl
  ·exact .inr ((dJ hN hM (hN x hx).1 hq).2 h)
section
variable {N N2:List Tx} {ar ar2:Tx->Nat} {l l2:List RItem} (h:LS l l2) (hR:RtL N ar l) (hR2:RtL N2 ar2 l2)
include h
theorem LS.way {p q:Tx}(w:Way (Fw l) p q):Way (Fw l2) p q:=w.map' fun _ _=>h.once
theorem LS.wnt {q:Tx}(w:Wnt l q):Wnt l2 q:=by
 obtain⟨x,hx,ho,w⟩:=w;obtain⟨y,hy,hs⟩:=h.mem hx;refine⟨y,hy,hs.out.symm.trans ho,?_⟩;rw[<-hs.pred];exact w.imp id fun w=>h.way w
include hR hR2
theorem mS {m m2:List RItem}(g:LS m m2)(n2:kA N m)(n4:kA N2 m2)(hm:∀x∈m,x.out=true->x.body=[])(aa:∀x∈m2,x.out=true->x.body=[]):En N l m=En N2 l2 m2:=
 Afh.2 ⟨xJ h g hR.nm n2 hR2.nm n4 hm aa,xJ h.symm g.symm hR2.nm n4 hR.nm n2 aa hm⟩
theorem Ace {o o2:Option (List RItem)}(hs:StS N l o)(aa:StS N2 l2 o2):Sim o o2:=by
 obtain⟨M,hM,hs⟩:=hs;obtain⟨M2,ac,aa⟩:=aa
 have hK:LS (Gl N (Hv N.length M N.length) l) (Gl N2 (Hv N2.length M2 N2.length) l2):=h.filter fun x y hx hy ab=>Afh.2 (by
  rw[Sk hR.nm hM (hR.nm x hx).1,Sk hR2.nm ac (hR2.nm y hy).1,ab.pred]
  exact⟨fun w=>h.wnt w,fun w=>h.symm.wnt w⟩)
 have hb:=mS h hR hR2 hK (fun x hx=>hR.nm x (Afz.1 hx).1) (fun x hx=>hR2.nm x (Afz.1 hx).1) (fun x hx=>(hR.gl.msr x (Afz.1 hx).1).out) (fun x hx=>(hR2.gl.msr x (Afz.1 hx).1).out);have hl:=hK.len;have af:=h.len;generalize Gl N (Hv N.length M N.length) l=K at*
 generalize Gl N2 (Hv N2.length M2 N2.length) l2=K2 at*
 rcases hs with⟨h1,rfl⟩|⟨h1,ae⟩
 ·rcases aa with⟨-,rfl⟩|⟨h2,-⟩
  ·exact .inl ⟨rfl,rfl⟩
  ·exact absurd Agm h2
 ·rcases aa with⟨h2,-⟩|⟨-,ad⟩
  ·exact absurd Agm h1
  ·rcases ae with⟨e1,rfl⟩|⟨e1,rfl⟩<;>rcases ad with⟨e2,rfl⟩|⟨e2,rfl⟩
   ·exact .inl ⟨rfl,rfl⟩
   ·rw[<-hb,e1]at e2;cases e2
   ·rw[<-hb,e1]at e2;cases e2
   ·exact .inr ⟨K,K2,rfl,rfl,hK⟩
end
theorem Ab0 {p q:Nat->Nat->Bool}{D:Nat->Nat->Prop}(e:∀i k,D i k->p i k=q i k){i k i2 k2:Nat}(h1:D i k)(h2:D i2 k2)(hp:p i k=true)(hq:q i2 k2=true)(m1:∀i' k',D i' k'->i'<i->p i' k'=false)(m2:∀k',k'<k->p i k'=false)(n1:∀i' k',D i' k'->i'<i2->q i' k'=false)(n2:∀k',k'<k2->q i2 k'=false):i=i2/\k=k2:=by
 rcases Aft i i2 with g|rfl|g
 ·rw[e _ _ h1,n1 i k h1 g]at hp;cases hp
 ·refine⟨rfl,?_⟩;rcases Aft k k2 with g|g|g
  ·rw[e _ _ h1,n2 k g]at hp;cases hp
  ·exact g
  ·rw[<-e _ _ h2,m2 k2 g]at hq;cases hq
 ·rw[<-e _ _ h2,m1 i2 k2 h2 g]at hq;cases hq
theorem Yx {x:RItem}(hX:XR x)(k:Nat){N:List Tx}(hN:∀a∈x.body,a.pred∈N)(aa:∀a∈x.body,∀b∈x.body,a.pred=b.pred->a.terms.length=b.terms.length):Ge (ren x) k↔Ge x k:=by
 obtain⟨s0,e0,h1⟩:=hX.search (N:=N) (k:=k) hN aa
 obtain⟨s1,e1,h2⟩:=Nq tellU N (ren x) k (fun a ha=>by
  obtain⟨b,hb,rfl⟩:=Ae4.1 ha;exact hN b hb) (fun t ht=>hX.inO.ut _ (Aq (.inl ⟨hX.out,rfl⟩)) t ht) (fun a ha t ht=>hX.inO.ut _ (Aq (.inr ha)) t ht) (fun a ha b hb e=>by
  obtain⟨a',ac,rfl⟩:=Ae4.1 ha;obtain⟨b',ab,rfl⟩:=Ae4.1 hb
  simpa[B9]using aa a' ac b' ab e) fun t ht u hu e=>tellU.inj t u ht hu e
 rw[e0]at e1;cases e1;exact h2.symm.trans h1
theorem aZ {N:List Tx}{ar:Tx->Nat}{l:List RItem}(hR:RtL N ar l){x:RItem}(hx:x∈l)(ho:x.out=false)(k:Nat):(uX N x k).isSome=true↔Cz (Cw (ren x) k)=true/\Ge (ren x) k:=by
 have hu:=hR.ut hx;have hX:=hR.xr hx ho;have hN:=(hR.nm x hx).2;have aa:=hR.gl.ar x hx;obtain⟨s0,e0,h1⟩:=Nq tellU N x k hN (fun t ht=>hu _ (Aq (.inl ⟨ho,rfl⟩)) t ht) (fun a ha t ht=>hu _ (Aq (.inr ha)) t ht) aa fun t ht u hu e=>tellU.inj t u ht hu e;rw[Yx hX k hN aa,<-h1];have ac:Cz (Cw (ren x) k)=Et (Cw x k):=by
  have hs:∀z:RItem,(∀a∈Ae z,∀t∈a.terms,UT t)->z.out=false->Et (Cw z k)=Cz (Cw z k):=fun z hz ab=>Ke (x:=Cw z k) fun a ha w hw=>by
   have ha:a=z.head\/a∈z.body.eraseIdx k:=by simpa[Ae,Cw]using ha
   rcases ha with rfl|ha
   ·exact Ow (hz _ (Aq (.inl ⟨ab,rfl⟩)) w hw)
   ·exact Ow (hz _ (Aq (.inr (Afn ha))) w hw)
  rw[<-hs (ren x) hX.inO.ut ho,hX.safe k,hs x hu ho]
 rw[ac];unfold uX;rw[e0];simp only[Aeg];unfold Lc;split
 ·rename_i hs;rw[Adz];exact⟨fun h=>⟨hs,h⟩,fun h=>h.2⟩
 ·rename_i hs;simp[hs]
section
variable {N N2:List Tx} {ar ar2:Tx->Nat} {l l2:List RItem} (h:LS l l2) (hR:RtL N ar l) (hR2:RtL N2 ar2 l2)
theorem bN {N:List Tx}{l o:List RItem}(hl:kA N l)(ho:kA N o)(i:Nat):kA N (rpl i o l):=fun x hx=>by
 rcases E0 hx with h|h
 ·exact hl x h
 ·exact ho x h
theorem bL {N:List Tx}{ar:Tx->Nat}{l o:List RItem}(hR:RtL N ar l)(ho:∀z∈o,z.out=false)(i:Nat):∀x∈rpl i o l,x.out=true->x.body=[]:=fun x hx he=>by
 rcases E0 hx with h|h
 ·exact (hR.gl.msr x h).out he
 ·rw[ho x h]at he;cases he
theorem Aa1 (hR:RtL N ar l)(hR2:RtL N2 ar2 l2){x y:RItem}(hx:x∈l)(hy:y∈l2)(ad:x.out=false)(ac:y.out=false)(hs:Sx x y)(k:Nat):Sx (Cw x k) (Cw y k):=by
 have one:∀{N:List Tx} {ar:Tx->Nat} {l:List RItem} (hR:RtL N ar l) {x:RItem} (hx:x∈l) (ho:x.out=false),Sx (Cw x k) (Cw (ren x) k):=fun {N ar l} hR {x} hx ho=>by
  have hX:=hR.xr hx ho;have hu:=hR.ut hx;have hs:∀a∈Ae (Cw x k),a∈Ae x:=fun a ha=>by
   have ha:a=x.head\/a∈x.body.eraseIdx k:=by simpa[Ae,Cw]using ha
   rcases ha with rfl|ha
   ·exact Aq (.inl ⟨ho,rfl⟩)
   ·exact Aq (.inr (Afn ha))
  have aa:∀a∈Ae (Cw (ren x) k),a∈Ae (ren x):=fun a ha=>by
   have ha:a=(ren x).head\/a∈(ren x).body.eraseIdx k:=by simpa[Ae,Cw]using ha
   rcases ha with rfl|ha
   ·exact Aq (.inl ⟨ho,rfl⟩)
   ·exact Aq (.inr (Afn ha))
  have ww:∀z:RItem,Du z->z.out=false->Du (Cw z k):=fun z hz ab=>by
   obtain⟨w1,w2,w3,w4⟩:=hz.2.2 ab;exact⟨hz.1,(fun e=>by cases e),fun _=>⟨w1,w2,Ade (Afp _ _) w3,fun a ha=>w4 a (Afn ha)⟩⟩
  refine⟨(vI hX k).symm,?_,?_⟩
  ·rw[<-kK (ww x (hR.wit x hx) ho) fun a ha=>hu a (hs a ha),<-vI hX k,kK (ww (ren x) (Y4 (hR.wit x hx) (hR.wi x hx)) ho) fun a ha=>hX.inO.ut a (aa a ha)]
  ·rw[<-Ke (x:=Cw (ren x) k) fun a ha w hw=>Ow (hX.inO.ut a (aa a ha) w hw),hX.safe k]
 have h1:=one hR hx ad;have h2:=one hR2 hy ac;rw[<-hs.rn]at h2;exact h1.trans h2.symm
include h hR hR2
theorem lS {i:Nat}{x:RItem}(hx:l[i]?=some x)(ho:x.out=false)(k:Nat):Zj N l i k=Zj N2 l2 i k:=by
 obtain⟨y,hy,hs⟩:=h.get hx;have ab:=Adp hx;have aa:=Adp hy;have ac:y.out=false:=hs.out.symm.trans ho;have e1:(uX N x k).isSome=(uX N2 y k).isSome:=Afh.2 (by rw[aZ hR ab ho,aZ hR2 aa ac,hs.rn]);have wn:∀{N:List Tx} {l:List RItem} (hN:kA N l) {x:RItem} (hx:x∈l),kA N [Cw x k]:=fun {N l} hN {x} hx=>by
  intro z hz;simp at hz;subst hz;exact⟨(hN x hx).1,fun a ha=>(hN x hx).2 a (Afn ha)⟩
 have wo:∀x:RItem,∀z∈[Cw x k],z.out=false:=fun x z hz=>by simp at hz;subst hz;rfl
 have e2:=mS h hR hR2 (h.rpl (LS.one (Aa1 hR hR2 ab aa ho ac hs k)) i) (bN hR.nm (wn hR.nm ab) i) (bN hR2.nm (wn hR2.nm aa) i) (bL hR (wo x) i) (bL hR2 (wo y) i);unfold Zj;rw[hx,hy];simp only;rw[e1,e2]
theorem Acg {o o2:Option (List RItem)}(hs:StA N l o)(af:StA N2 l2 o2):Sim o o2:=by
 have ah:∀{i:Nat} {x:RItem} {k:Nat},l[i]?=some x->k<x.body.length->x.out=false:=fun {i x k} hx hk=>by
  cases ho:x.out with
  |false=>rfl
  |true=>rw[(hR.gl.msr x (Adp hx)).out ho]at hk;cases hk
 rcases hs with⟨rfl,hn⟩|⟨i,k,y,rfl,hy,ho,hk,aa,hn,ak⟩
 ·rcases af with⟨rfl,-⟩|⟨i,k,y,rfl,hy,ho,hk,aa,-⟩
  ·exact .inl ⟨rfl,rfl⟩
  ·obtain⟨x,hx,hs⟩:=h.symm.get hy;have ai:k<x.body.length:=by rw[<-hs.bl];exact hk
   rw[<-lS h hR hR2 hx (ah hx ai),hn i x (Adm.1 hx).1 hx k ai]at aa;cases aa
 ·rcases af with⟨rfl,am⟩|⟨i2,k2,y2,rfl,ad,aj,ao,ac,hm,an⟩
  ·obtain⟨x,hx,hs⟩:=h.get hy;rw[lS h hR hR2 hy ho,am i x (Adm.1 hx).1 hx k (by rw[<-hs.bl];exact hk)]at aa;cases aa
  ·obtain⟨x2,ab,ae⟩:=h.symm.get ad
   obtain⟨rfl,rfl⟩:=Ab0 (p:=Zj N l) (q:=Zj N2 l2) (D:=fun i k=>∃x,l[i]?=some x/\k<x.body.length) (fun i k ⟨x,hx,hk⟩=>lS h hR hR2 hx (ah hx hk) k) ⟨y,hy,hk⟩ ⟨x2,ab,by rw[<-ae.bl];exact ao⟩ aa ac (fun i' k' ⟨x,hx,hk⟩ hi=>hn i' x hi hx k' hk) ak (fun i' k' ⟨x,hx,hk⟩ hi=>by
    obtain⟨z,hz,hs⟩:=h.get hx
    exact hm i' z hi hz k' (by rw[<-hs.bl];exact hk)) an
   rw[hy]at ab;cases ab;exact .inr ⟨_,_,rfl,rfl,h.rpl (LS.one (Aa1 hR hR2 (Adp hy) (Adp ad) ho aj ae.symm k)) i⟩
theorem Abo (i:Nat):LS (oth l i l.length) (oth l2 i l2.length):=by
 obtain⟨L,rfl,rfl,hL⟩:=h;refine⟨(L.eraseIdx i).filter fun p=>!p.1.out,?_,?_,fun p hp=>hL p (Afn (Afz.1 hp).1)⟩
 ·unfold oth;rw[Adu,Gt,List.filter_map];rfl
 ·unfold oth;rw[Adu,Gt,List.filter_map];congr 1;exact List.filter_congr fun p hp=>by simp only[Function.comp,(hL p (Afn hp)).out]
theorem bW {i:Nat}{x y:RItem}(hx:l[i]?=some x)(hy:l2[i]?=some y)(ho:x.out=false){b b2:Bool}(hp:bX N l i x b)(hp2:bX N2 l2 i y b2):b=b2:=by
 obtain⟨y',ac,hs⟩:=h.get hx;rw[hy]at ac;cases ac;have ad:=Adp hx;have ab:=Adp hy;have aa:y.out=false:=hs.out.symm.trans ho;exact Aab (ar:=ar) (ar2:=ar2) ⟨fun z hz=>hR.ru z (Ek hz).1 (Ek hz).2,hR.ru x ad ho⟩ ⟨fun z hz=>hR2.ru z (Ek hz).1 (Ek hz).2,hR2.ru y ab aa⟩ (fun z hz=>hR.xr (Ek hz).1 (Ek hz).2) (hR.xr ad ho) (fun z hz=>hR2.xr (Ek hz).1 (Ek hz).2) (hR2.xr ab aa) (Abo h hR hR2 i).ren hs.rn hp hp2
theorem R8 (i:Nat):En N l (rpl i [] l)=En N2 l2 (rpl i [] l2):=
 mS h hR hR2 (h.rpl (LS.refl []) i) (bN hR.nm (fun x hx=>by cases hx) i) (bN hR2.nm (fun x hx=>by cases hx) i) (bL hR (fun z hz=>by cases hz) i) (bL hR2 (fun z hz=>by cases hz) i)
theorem Acf {o o2:Option (List RItem)}(hs:StR N l o)(ac:StR N2 l2 o2):Sim o o2:=by
 rcases hs with⟨rfl,hn⟩|⟨i,x,rfl,hx,ho,hb,hi,hn⟩
 ·rcases ac with⟨rfl,-⟩|⟨i,y,rfl,hy,ho,hb,hi,-⟩
  ·exact .inl ⟨rfl,rfl⟩
  ·obtain⟨x,hx,hs⟩:=h.symm.get hy;have ab:x.out=false:=hs.out.symm.trans ho;have:=bW h hR hR2 hx hy ab (hn i x (Adm.1 hx).1 hx ab (by rw[R8 h hR hR2];exact hb)) hi;cases this
 ·rcases ac with⟨rfl,hm⟩|⟨j,y,rfl,hy,ad,af,ae,hm⟩
  ·obtain⟨y,hy,hs⟩:=h.get hx;have:=bW h hR hR2 hx hy ho hi (hm i y (Adm.1 hy).1 hy (hs.out.symm.trans ho) (by rw[<-R8 h hR hR2];exact hb));cases this
  ·have e:i=j:=by
    rcases Aft i j with g|g|g
    ·obtain⟨z,hz,hs⟩:=h.get hx;have:=bW h hR hR2 hx hz ho hi (hm i z g hz (hs.out.symm.trans ho) (by rw[<-R8 h hR hR2];exact hb));cases this
    ·exact g
    ·obtain⟨z,hz,hs⟩:=h.symm.get hy;have aa:z.out=false:=hs.out.symm.trans ad;have:=bW h hR hR2 hz hy aa (hn j z g hz aa (by rw[R8 h hR hR2];exact af)) ae;cases this
   subst e;exact .inr ⟨_,_,rfl,rfl,h.rpl (LS.refl []) i⟩
end
theorem LS.mk {l m:List RItem}(hl:l.length=m.length)(h:∀(i:Nat) (x y:RItem),l[i]?=some x->m[i]?=some y->Sx x y):LS l m:=
 ⟨l.zip m,by rw[List.map_fst_zip Agm],by rw[List.map_snd_zip Agm],fun p hp=>by
  obtain⟨i,hi⟩:=Afc hp;rw[List.getElem?_zip_eq_some]at hi
  exact h i _ _ hi.1 hi.2⟩
theorem LS.trans {l m k:List RItem}(h:LS l m)(g:LS m k):LS l k:=LS.mk (h.len.trans g.len) fun i x z hx hz=>by
 obtain⟨y,hy,hs⟩:=h.get hx;obtain⟨w,hw,aa⟩:=g.get hy;rw[hz]at hw;cases hw;exact hs.trans aa
def Stps (T:List RItem->Option (List RItem)->Prop):Nat->List RItem->List RItem->Prop
 |0,l,l'=>l'=l
 |k+1,l,l'=>∃l1,T l (some l1)/\Stps T k l1 l'
theorem Stps.snoc {T:List RItem->Option (List RItem)->Prop}:∀{k:Nat} {l l1 l2:List RItem},Stps T k l l1->T l1 (some l2)->Stps T (k+1) l l2
 |0,_,_,_,e,h=>by cases e;exact⟨_,h,rfl⟩
 |k+1,_,_,_,⟨m,h1,h2⟩,h=>⟨m,h1,h2.snoc h⟩
theorem GChg.stps {T:List RItem->Option (List RItem)->Prop}{b m m':Int}{l l':List RItem}(h:GChg T b l m l' m'):∃k:Nat,m'=m+k/\Stps T k l l'/\(0<k->m'<=b):=by
 induction h with
 |refl=>exact⟨0,Agm,rfl,Agm⟩
 |snoc _ hb hs ih=>
  obtain⟨k,e,h,-⟩:=ih;exact⟨k+1,Agm,h.snoc hs,Agm⟩
def Mv (p:Tx)(x:RItem):Bool:=x.head.pred==p||x.body.any fun a=>a.pred==p
theorem fS (l:List RItem)(cs:List AV)(idl:Nat)(p:Tx)(hE:EL EItem l cs)(hl:l.length<=1000)(hf:∀x∈l,x.fits)(d:St):ACalls Tryz.prog 228 [sl idl l.length cs,str p] d fun r d'=>r=sc (.bool (l.any (Mv p)))/\Keep d d':=by
 have aj:=EL.length Ci hE;refine Z9 28 [.tmp 4] Tryz.func228 ?_
 refine zz ?_
 refine Ad (fun m s d'=>∃i:Nat,m=l.length-i/\i<=l.length/\s 0=sl idl l.length cs/\s 1=str p/\s 5=ic i/\Keep d d'/\Agt ((l.take i).any (Mv p)=false)) l.length
  ⟨0,Agm,Agm,by simp[upd,initS],by simp[upd,initS],Ago,Keep.refl _,by simp[Agt]⟩ ?_
 rintro m s d' ⟨i,rfl,hi,h0,h1,h5,hK,ac⟩;have ai:=hK.nobj;by_cases ae:i<l.length
 ·have HG:Agt (l[i]?=some l[i]):=Adn ae;obtain⟨ih,id,b,r,hb,hd⟩:=C4 hE HG.out;have af:=hf l[i] (Aes ae);generalize l[i]=x at HG hb hd af;have ab:=fun d=>Uy x p _ (EItem.of (ih:=ih) (id:=id) hb) (by have:=af.1;omega) d;unfold A5 at ab;have HH:Agt (Mv p x=true->l.any (Mv p)=true):=fun h=>Dk _ HG.out h;have HN:Agt (Mv p x=false->(l.take (i+1)).any (Mv p)=false):=fun h=>by rw[any_take_succ _ HG.out,ac.out,h];rfl
  clear ac;by_cases e1:x.head.pred=p
  ·have t1:(x.head.pred==p)=true:=by simpa using e1
   have HR:Agt (l.any (Mv p)=true):=HH.out (by unfold Mv;rw[t1];rfl);clear HH HN HG ab e1
   repeat' first|refine Z1 ?_|refine Z8 fun ya J=>?_|refine Z4 ?_;clear J ya|refine Z2 ?_ ?_<;>intro h aa<;>try exact Xp|refine Z3 ?_|exact Zt|apply J.out;clear J ya
   first|exact⟨_,rfl,by rw[HR.out],hK⟩|exact⟨_,rfl,by rw[HR.out]⟩
  ·have t1:(x.head.pred==p)=false:=by simpa using e1
   cases e2:x.body.any fun a=>a.pred==p with
   |true=>
    have HR:Agt (l.any (Mv p)=true):=HH.out (by unfold Mv;rw[t1,e2];rfl);rw[e2]at ab;clear HH HN HG e1 e2
    repeat' first|refine Z1 ?_|refine Z8 fun ya J=>?_|refine Z4 ?_;clear J ya|refine Z2 ?_ ?_<;>intro h aa<;>try exact Xp|refine Z5 ?_;refine Xi (ab _) ?_;rintro _ _ ⟨rfl,ad⟩|refine Z3 ?_|exact Zt|apply J.out;clear J ya
    first|exact⟨_,rfl,by rw[HR.out],hK.trans ad⟩|exact⟨_,rfl,by rw[HR.out]⟩
   |false=>
    have HR:Agt ((l.take (i+1)).any (Mv p)=false):=HN.out (by unfold Mv;rw[t1,e2];rfl);rw[e2]at ab;clear HH HN HG e1 e2
    repeat' first|refine Z1 ?_|refine Z8 fun ya J=>?_|refine Z4 ?_;clear J ya|refine Z2 ?_ ?_<;>intro h aa<;>try exact Xp|refine Z5 ?_;refine Xi (ab _) ?_;rintro _ _ ⟨rfl,ad⟩|refine Z3 ?_|exact Zt|apply J.out;clear J ya
    refine⟨l.length-(i+1),Agm,i+1,?_⟩
    ((repeat' refine Zi ?_ ?_)<;>first|exact Xq|exact HR|exact (hK.trans ad)|exact Xs)
 ·have ah:i=l.length:=Agm;subst ah;rw[Adu]at ac
  repeat' first|refine Z1 ?_|refine Z8 fun ya J=>?_|refine Z4 ?_;clear J ya|refine Z2 ?_ ?_<;>intro h aa<;>try exact Xp|refine Z3 ?_|exact Zt|apply J.out;clear J ya
  first|exact⟨_,rfl,by rw[ac.out],hK⟩|exact⟨_,rfl,by rw[ac.out]⟩
def K8 (l:List RItem)(p:Tx)(x:RItem):Bool:=x.out&&(x.head.pred==p||M5 l x.head.pred p)
theorem bB (l:List RItem)(cs:List AV)(idl:Nat)(p:Tx)(hE:EL EItem l cs)(hl:l.length<=16)(hf:∀x∈l,x.fits)(d:St):ACalls Tryz.prog 187 [sl idl l.length cs,str p] d fun r d'=>r=sc (.bool (l.any (K8 l p)))/\Keep d d':=by
 have ai:=EL.length Ci hE;refine Z9 38 [.tmp 4] Tryz.func187 ?_
 refine zz ?_
 refine Ad (fun m s d'=>∃i:Nat,m=l.length-i/\i<=l.length/\s 0=sl idl l.length cs/\s 1=str p/\s 5=ic i/\Keep d d'/\Agt ((l.take i).any (K8 l p)=false)) l.length
  ⟨0,Agm,Agm,by simp[upd,initS],by simp[upd,initS],Ago,Keep.refl _,by simp[Agt]⟩ ?_
 rintro m s d' ⟨i,rfl,hi,h0,h1,h5,hK,ac⟩;have ah:=hK.nobj;by_cases ae:i<l.length
 ·have HG:Agt (l[i]?=some l[i]):=Adn ae;obtain⟨ih,id,b,r,hb,hd⟩:=C4 hE HG.out;generalize l[i]=x at HG hb hd;have ab:=fun d=>W1 l cs idl x.head.pred p hE hl hf d;have HH:Agt (K8 l p x=true->l.any (K8 l p)=true):=fun h=>Dk _ HG.out h;have HN:Agt (K8 l p x=false->(l.take (i+1)).any (K8 l p)=false):=fun h=>by rw[any_take_succ _ HG.out,ac.out,h];rfl
  clear ac;cases eo:x.out with
  |false=>
   have HR:Agt ((l.take (i+1)).any (K8 l p)=false):=HN.out (by unfold K8;rw[eo];rfl);clear HH HN HG ab
   repeat' first|refine Z1 ?_|refine Z8 fun ya J=>?_|refine Z4 ?_;clear J ya|refine Z2 ?_ ?_<;>intro h aa<;>try exact Xp|refine Z3 ?_|exact Zt|apply J.out;clear J ya
   refine⟨l.length-(i+1),Agm,i+1,?_⟩
   ((repeat' refine Zi ?_ ?_)<;>first|exact Xq|exact HR|exact Xs)
  |true=>
   by_cases e1:x.head.pred=p
   ·have t1:(x.head.pred==p)=true:=by simpa using e1
    have HR:Agt (l.any (K8 l p)=true):=HH.out (by unfold K8;rw[eo,t1];rfl);clear HH HN HG ab e1
    repeat' first|refine Z1 ?_|refine Z8 fun ya J=>?_|refine Z4 ?_;clear J ya|refine Z2 ?_ ?_<;>intro h aa<;>try exact Xp|refine Z3 ?_|exact Zt|apply J.out;clear J ya
    first|exact⟨_,rfl,by rw[HR.out],hK⟩|exact⟨_,rfl,by rw[HR.out]⟩
   ·have t1:(x.head.pred==p)=false:=by simpa using e1
    cases e2:M5 l x.head.pred p with
    |true=>
     have HR:Agt (l.any (K8 l p)=true):=HH.out (by unfold K8;rw[eo,t1,e2];rfl);rw[e2]at ab;clear HH HN HG e1 e2
     repeat' first|refine Z1 ?_|refine Z8 fun ya J=>?_|refine Z4 ?_;clear J ya|refine Z2 ?_ ?_<;>intro h aa<;>try exact Xp|refine Z5 ?_;refine Xi (ab _) ?_;rintro _ _ ⟨rfl,ad⟩|refine Z3 ?_|exact Zt|apply J.out;clear J ya
     first|exact⟨_,rfl,by rw[HR.out],hK.trans ad⟩|exact⟨_,rfl,by rw[HR.out]⟩
    |false=>
     have HR:Agt ((l.take (i+1)).any (K8 l p)=false):=HN.out (by unfold K8;rw[eo,t1,e2];rfl);rw[e2]at ab;clear HH HN HG e1 e2
     repeat' first|refine Z1 ?_|refine Z8 fun ya J=>?_|refine Z4 ?_;clear J ya|refine Z2 ?_ ?_<;>intro h aa<;>try exact Xp|refine Z5 ?_;refine Xi (ab _) ?_;rintro _ _ ⟨rfl,ad⟩|refine Z3 ?_|exact Zt|apply J.out;clear J ya
     refine⟨l.length-(i+1),Agm,i+1,?_⟩
     ((repeat' refine Zi ?_ ?_)<;>first|exact Xq|exact HR|exact (hK.trans ad)|exact Xs)
 ·have af:i=l.length:=Agm;subst af;rw[Adu]at ac
  repeat' first|refine Z1 ?_|refine Z8 fun ya J=>?_|refine Z4 ?_;clear J ya|refine Z2 ?_ ?_<;>intro h aa<;>try exact Xp|refine Z3 ?_|exact Zt|apply J.out;clear J ya
  first|exact⟨_,rfl,by rw[ac.out],hK⟩|exact⟨_,rfl,by rw[ac.out]⟩
theorem Qe {α:Type}{n:Nat}{o l:List α}(hn:n<l.length):rpl n o l=l.take n++o++l.drop (n+1):=by
 have key:∀(l:List α) (k n:Nat) (o:List α),k<=n->n<k+l.length->(l.zipIdx k).flatMap (fun p=>if p.2=n then o else [p.1])=l.take (n-k)++o++l.drop (n-k+1):=fun l=>by
  induction l with
  |nil=>intro k n o h1 h2;simp at h2;omega
  |cons a l ih=>
   intro k n o h1 h2;rw[List.zipIdx_cons,Ae0];by_cases e:k=n
   ·subst e;simp only[if_true,Afd,List.take_zero,Ae8,List.drop_succ_cons,List.drop_zero];congr 1;have:∀(l:List α) (j:Nat),k<j->(l.zipIdx j).flatMap (fun p=>if p.2=k then o else [p.1])=l:=fun l=>by
     induction l with
     |nil=>intro j _;rfl
     |cons b l ih2=>
      intro j hj;rw[List.zipIdx_cons,Ae0,ih2 (j+1) Agm];simp only;rw[if_neg Agm];rfl
    exact this l (k+1) Agm
   ·simp only;rw[if_neg e,ih (k+1) n o Agm (by simp at h2;omega)];have e2:n-k=(n-(k+1))+1:=Agm;rw[e2];simp
 have:=key l 0 n o (Nat.zero_le _) Agm;simpa[rpl]using this
theorem Lh (l o:List RItem)(cs co:List AV)(idl ido n:Nat)(hE:EL EItem l cs)(ao:EL EItem o co)(hl:l.length<=1000)(ho:o.length<=1000)(hn:n<l.length)(d:St):
  ACalls Tryz.prog 189 [sl idl l.length cs,sc (.int .i64 n),sl ido o.length co] d fun r d'=>∃id c',r=sl id (rpl n o l).length c'/\EL EItem (rpl n o l) c'/\Keep d d':=by
 have a0:=EL.length Ci hE;have ay:=EL.length Ci ao;rw[Qe hn];refine Z9 52 [.tmp 6] Tryz.func189 ?_
 refine zz ?_
 refine Ad (fun m s d'=>∃(i i4:Nat) (ys:List AV),m=n-i/\i<=n/\s 0=sl idl l.length cs/\s 1=ic n/\s 2=sl ido o.length co/\s 7=sl i4 i ys/\s 8=ic i/\Keep d d'/\Own d d' i4 i/\ys.length=i*5/\Agt (EL EItem (l.take i) ys)) n
  ⟨0,1,[],Agm,Agm,by simp[upd,initS],by simp[upd,initS],by simp[upd,initS],Ago,Ago,Keep.refl _,Own.nil _ _,rfl,by simp[Agt,EL]⟩ ?_
 rintro m s d' ⟨i,i4,ys,rfl,hi,h0,h1,h2,h7,h8,hK,hO,af,hL⟩;have am:=hK.nobj;by_cases ah:i<n
 ·have aa:=Adn (show i<l.length by omega);obtain⟨jh,jd,jb,r2,ac,ai⟩:=C4 hE aa;generalize l[i]=y at aa ac ai;have HN:Agt (EL EItem (l.take (i+1)) (ys++[sc (.bool y.out),sc (.bool y.head.nt),str y.head.pred,sl jh y.head.terms.length (y.head.terms.map str),sl jd y.body.length jb])):=by
   rw[Agt,Ad0,aa];exact EL.append hL.out (EL.single ⟨[sc (.bool y.head.nt),str y.head.pred,sl jh y.head.terms.length (y.head.terms.map str)],jd,jb,⟨jh,rfl⟩,ac,rfl⟩)
  clear aa hL
  repeat' first|refine Z1 ?_|refine Z8 fun ya J=>?_|refine Z4 ?_;clear J ya|refine Z2 ?_ ?_<;>intro h ab<;>try exact Xp|refine Z6 ?_;intro idn dn an ap ak ae aj ad|refine Z3 ?_|exact Zt|apply J.out;clear J ya
  refine⟨n-(i+1),Agm,i+1,idn,ys++[sc (.bool y.out),sc (.bool y.head.nt),str y.head.pred,sl jh y.head.terms.length (y.head.terms.map str),sl jd y.body.length jb],?_⟩
  ((repeat' refine Zi ?_ ?_)<;>first|exact Xq|exact HN|exact Xs)
 ·have ax:i=n:=Agm;subst ax
  repeat' first|refine Z1 ?_|refine Z8 fun ya J=>?_|refine Z4 ?_;clear J ya|refine Z2 ?_ ?_<;>intro h ab<;>try exact Xp|refine Z3 ?_|exact Zt|apply J.out;clear J ya
  refine Ad (fun m s d'=>∃(j i4:Nat) (ys:List AV),m=o.length-j/\j<=o.length/\s 0=sl idl l.length cs/\s 1=ic i/\s 2=sl ido o.length co/\s 7=sl i4 (i+j) ys/\s 9=ic j/\Keep d d'/\Own d d' i4 (i+j)/\ys.length=(i+j)*5/\Agt (EL EItem (l.take i++o.take j) ys)) o.length
   ⟨0,i4,ys,Agm,Agm,by simp[upd,h0],by simp[upd,h1],by simp[upd,h2],by simp[upd,h7],Ago,hK,hO,af,by simpa[Agt]using hL.out⟩ ?_
  clear h0 h1 h2 h7 h8 hK hO af hL ys i4 am ah;rintro m s d' ⟨j,i4,ys,rfl,hj,h0,h1,h2,h7,h9,hK,hO,af,hL⟩;have am:=hK.nobj;by_cases ah:j<o.length
  ·have aa:=Adn ah;obtain⟨jh,jd,jb,r2,ac,ai⟩:=C4 ao aa;generalize o[j]=y at aa ac ai;have HN:Agt (EL EItem (l.take i++o.take (j+1)) (ys++[sc (.bool y.out),sc (.bool y.head.nt),str y.head.pred,sl jh y.head.terms.length (y.head.terms.map str),sl jd y.body.length jb])):=by
    rw[Agt,Ad0,aa,<-Aed];exact EL.append hL.out (EL.single ⟨[sc (.bool y.head.nt),str y.head.pred,sl jh y.head.terms.length (y.head.terms.map str)],jd,jb,⟨jh,rfl⟩,ac,rfl⟩)
   clear aa hL
   repeat' first|refine Z1 ?_|refine Z8 fun ya J=>?_|refine Z4 ?_;clear J ya|refine Z2 ?_ ?_<;>intro h ab<;>try exact Xp|refine Z6 ?_;intro idn dn an ap ak ae aj ad|refine Z3 ?_|exact Zt|apply J.out;clear J ya
   refine⟨o.length-(j+1),Agm,j+1,idn,ys++[sc (.bool y.out),sc (.bool y.head.nt),str y.head.pred,sl jh y.head.terms.length (y.head.terms.map str),sl jd y.body.length jb],?_⟩
   ((repeat' refine Zi ?_ ?_)<;>first|exact Xq|exact HN|exact Xs)
  ·have aw:j=o.length:=Agm;subst aw;rw[Adu]at hL
   repeat' first|refine Z1 ?_|refine Z8 fun ya J=>?_|refine Z4 ?_;clear J ya|refine Z2 ?_ ?_<;>intro h ab<;>try exact Xp|refine Z3 ?_|exact Zt|apply J.out;clear J ya
   refine Ad (fun m s d'=>∃(k i4:Nat) (ys:List AV),m=l.length-k/\i+1<=k/\k<=l.length/\s 0=sl idl l.length cs/\s 7=sl i4 (i+o.length+(k-(i+1))) ys/\s 10=ic k/\Keep d d'/\Own d d' i4 (i+o.length+(k-(i+1)))/\ys.length=(i+o.length+(k-(i+1)))*5/\Agt (EL EItem (l.take i++o++(l.drop (i+1)).take (k-(i+1))) ys)) (l.length-(i+1))
    ⟨i+1,i4,ys,Agm,Agm,Agm,by simp[upd,h0],by simp[upd,h7],Ago,hK,by simpa using hO,by simpa using af,by simpa[Agt]using hL.out⟩ ?_
   clear h0 h1 h2 h7 h9 hK hO af hL ys i4 am ah;rintro m s d' ⟨k,i4,ys,rfl,az,hk,h0,h7,a3,hK,hO,af,hL⟩;have am:=hK.nobj;by_cases ah:k<l.length
   ·have aa:=Adn ah;obtain⟨jh,jd,jb,r2,ac,ai⟩:=C4 hE aa;generalize l[k]=y at aa ac ai;have e1:k+1-(i+1)=(k-(i+1))+1:=Agm;have HN:Agt (EL EItem (l.take i++o++(l.drop (i+1)).take (k+1-(i+1))) (ys++[sc (.bool y.out),sc (.bool y.head.nt),str y.head.pred,sl jh y.head.terms.length (y.head.terms.map str),sl jd y.body.length jb])):=by
     rw[Agt,e1,Ad0,Adl,show i+1+(k-(i+1))=k by omega,aa,<-Aed];exact EL.append hL.out (EL.single ⟨[sc (.bool y.head.nt),str y.head.pred,sl jh y.head.terms.length (y.head.terms.map str)],jd,jb,⟨jh,rfl⟩,ac,rfl⟩)
    have au:Agt (i+o.length+(k+1-(i+1))=i+o.length+(k-(i+1))+1):=by rw[Agt];omega
    have hw:i+o.length+(k-(i+1))<=3000:=Agm;clear aa hL e1;generalize i+o.length+(k-(i+1))=w at af hO h7 au hw
    repeat' first|refine Z1 ?_|refine Z8 fun ya J=>?_|refine Z4 ?_;clear J ya|refine Z2 ?_ ?_<;>intro h ab<;>try exact Xp|refine Z6 ?_;intro idn dn an ap ak ae aj ad|refine Z3 ?_|exact Zt|apply J.out;clear J ya
    refine⟨l.length-(k+1),Agm,k+1,idn,ys++[sc (.bool y.out),sc (.bool y.head.nt),str y.head.pred,sl jh y.head.terms.length (y.head.terms.map str),sl jd y.body.length jb],?_⟩;rw[au.out]
    ((repeat' refine Zi ?_ ?_)<;>first|exact Xq|exact HN|exact (by rw[Aeb];simp;omega)|exact Xs)
   ·have av:k=l.length:=Agm;subst av
    have HN:Agt (EL EItem (l.take i++o++l.drop (i+1)) ys/\i+o.length+(l.length-(i+1))=(l.take i++o++l.drop (i+1)).length):=⟨by
     have:=hL.out;rw[Aeq (l:=l.drop (i+1)) (by rw[List.length_drop];omega)]at this
     exact this,by simp only[Aeb,Aec,List.length_drop];omega⟩
    clear hL
    repeat' first|refine Z1 ?_|refine Z8 fun ya J=>?_|refine Z4 ?_;clear J ya|refine Z2 ?_ ?_<;>intro h ab<;>try exact Xp|refine Z3 ?_|exact Zt|apply J.out;clear J ya
    first|exact⟨_,rfl,i4,ys,by rw[HN.out.2],HN.out.1,hK⟩|exact⟨_,rfl,i4,ys,by rw[HN.out.2],HN.out.1⟩
def K3 (m:List RItem)(x:RItem):Bool:=!x.out&&(m.any (Mv x.head.pred)&&!Nr m x.head.pred)
def Bu (l m:List RItem):Bool:=decide (m.length<=16)&&(m.all (fun x=>decide (x.body.length<=5))&&(((As (Bm m)).1==0)&&!l.any (K3 m)))
theorem I8 (l m:List RItem)(cs cm:List AV)(idl idm:Nat)(hE:EL EItem l cs)(hM:EL EItem m cm)(hl:l.length<=1000)(az:m.length<=1000)(hf:∀x∈m,x.fits/\x.short)(d:St):
  ACalls Tryz.prog 188 [sl idl l.length cs,sl idm m.length cm] d fun r d'=>r=sc (.bool (Bu l m))/\Keep d d':=by
 have a4:=EL.length Ci hE;have a3:=EL.length Ci hM;by_cases av:16<m.length
 ·have hd:decide ((m.length:Int)>16)=true:=by rw[Age];omega
  have HR:Agt (Bu l m=false):=by rw[Agt,Bu,Agk Agm];rfl
  clear av;refine Z9 63 [.tmp 4] Tryz.func188 ?_
  repeat' first|refine Z1 ?_|refine Z8 fun ya J=>?_|refine Z4 ?_;clear J ya|refine Z2 ?_ ?_<;>intro h aa<;>try exact Xp|refine Z3 ?_|exact Zt|apply J.out;clear J ya
  first|exact⟨_,rfl,by rw[HR.out],Keep.refl _⟩|exact⟨_,rfl,by rw[HR.out]⟩
 have hd:decide ((m.length:Int)>16)=false:=by simp;omega
 have am:=fun d=>Nm m cm idm hM Agm (fun x hx=>(hf x hx).1) (fun x hx=>(hf x hx).2) d;have an:=fun d=>Q0 (Bm m) d;have ae:=fun p d=>fS m cm idm p hM Agm (fun x hx=>(hf x hx).1) d;have ad:=fun p d=>kY m cm idm p hM Agm d;have HA:Agt (Bu l m=(m.all (fun x=>decide (x.body.length<=5))&&(((As (Bm m)).1==0)&&!l.any (K3 m)))):=by rw[Agt,Bu,Agl Agm,Afb]
 have a0:∀x∈m,x.body.length<=1000:=fun x hx=>(hf x hx).1.1;clear hf av;refine Z9 63 [.tmp 4] Tryz.func188 ?_
 repeat' first|refine Z1 ?_|refine Z8 fun ya J=>?_|refine Z4 ?_;clear J ya|refine Z2 ?_ ?_<;>intro h aa<;>try exact Xp|refine Z3 ?_|exact Zt|apply J.out;clear J ya
 refine Ad (fun q s d'=>∃i:Nat,q=m.length-i/\i<=m.length/\s 0=sl idl l.length cs/\s 1=sl idm m.length cm/\s 5=ic i/\Keep d d'/\Agt (∀x∈m.take i,x.body.length<=5)) m.length
  ⟨0,Agm,Agm,by simp[upd,initS],by simp[upd,initS],Ago,Keep.refl _,by simp[Agt]⟩ ?_
 rintro q s d' ⟨i,rfl,hi,h0,h1,h5,hK,ab⟩;have ap:=hK.nobj;by_cases aw:i<m.length
 ·have HG:Agt (m[i]?=some m[i]):=Adn aw;obtain⟨ih,id,b,r,hb,ak⟩:=C4 hM HG.out;generalize m[i]=x at HG hb ak;by_cases h6:5<x.body.length
  ·have ax:decide ((x.body.length:Int)>5)=true:=by rw[Age];omega
   have HR:Agt (Bu l m=false):=by
    rw[Agt,HA.out];have:m.all (fun x=>decide (x.body.length<=5))=false:=Afu.2 ⟨x,Adp HG.out,by simp;omega⟩;rw[this];rfl
   clear HG ab h6 HA
   repeat' first|refine Z1 ?_|refine Z8 fun ya J=>?_|refine Z4 ?_;clear J ya|refine Z2 ?_ ?_<;>intro h aa<;>try exact Xp|refine Z3 ?_|exact Zt|apply J.out;clear J ya
   first|exact⟨_,rfl,by rw[HR.out],hK⟩|exact⟨_,rfl,by rw[HR.out]⟩
  ·have ax:decide ((x.body.length:Int)>5)=false:=by simp;omega
   have HN:Agt (∀y∈m.take (i+1),y.body.length<=5):=fun y hy=>by
    rw[Ad0,HG.out]at hy;rcases Aet.1 hy with hy|hy
    ·exact ab.out y hy
    ·have:y=x:=by simpa using hy
     rw[this];omega
   clear HG ab h6
   repeat' first|refine Z1 ?_|refine Z8 fun ya J=>?_|refine Z4 ?_;clear J ya|refine Z2 ?_ ?_<;>intro h aa<;>try exact Xp|refine Z3 ?_|exact Zt|apply J.out;clear J ya
   refine⟨m.length-(i+1),Agm,i+1,?_⟩
   ((repeat' refine Zi ?_ ?_)<;>first|exact Xq|exact HN|exact Xs)
 ·have aj:i=m.length:=Agm;subst aj;rw[Adu]at ab;have ah:Agt (Bu l m=(((As (Bm m)).1==0)&&!l.any (K3 m))):=by
   rw[Agt,HA.out,Ado.2 fun x hx=>by simpa using ab.out x hx,Afb]
  clear ab HA;cases hc:((As (Bm m)).1==0)with
  |false=>
   have ay:((As (Bm m)).1 !=0)=true:=by simpa using hc
   have HR:Agt (Bu l m=false):=by rw[Agt,ah.out,hc];rfl
   clear hc ah
   repeat' first|refine Z1 ?_|refine Z8 fun ya J=>?_|refine Z4 ?_;clear J ya|refine Z2 ?_ ?_<;>intro h aa<;>try exact Xp|(refine Z5 ?_;first|(refine Xi (am _) ?_;rintro _ _ ⟨rfl,ac⟩)|(refine Xi (an _) ?_;rintro _ _ ⟨rfl,af⟩))|refine Z3 ?_|exact Zt|apply J.out;clear J ya
   first|exact⟨_,rfl,by rw[HR.out],(hK.trans ac).trans af⟩|exact⟨_,rfl,by rw[HR.out]⟩
  |true=>
   have ay:((As (Bm m)).1 !=0)=false:=by simpa using hc
   have ao:Agt (Bu l m=!l.any (K3 m)):=by rw[Agt,ah.out,hc,Afb]
   clear hc ah
   repeat' first|refine Z1 ?_|refine Z8 fun ya J=>?_|refine Z4 ?_;clear J ya|refine Z2 ?_ ?_<;>intro h aa<;>try exact Xp|(refine Z5 ?_;first|(refine Xi (am _) ?_;rintro _ _ ⟨rfl,ac⟩)|(refine Xi (an _) ?_;rintro _ _ ⟨rfl,af⟩;(have au:=(hK.trans ac).trans af)))|refine Z3 ?_|exact Zt|apply J.out;clear J ya
   refine Ad (fun q s d'=>∃i:Nat,q=l.length-i/\i<=l.length/\s 0=sl idl l.length cs/\s 1=sl idm m.length cm/\s 8=ic i/\Keep d d'/\Agt ((l.take i).any (K3 m)=false)) l.length
    ⟨0,Agm,Agm,by simp[upd,h0],by simp[upd,h1],Ago,au,by simp[Agt]⟩ ?_
   clear h0 h1 h5 hK au ac af ap am an;rintro q s d' ⟨i,rfl,hi,h0,h1,h8,hK,ab⟩;have ap:=hK.nobj;by_cases ai:i<l.length
   ·have HG:Agt (l[i]?=some l[i]):=Adn ai;obtain⟨ih,id,b,r,hb,ak⟩:=C4 hE HG.out;generalize l[i]=x at HG hb ak;have HN:Agt (K3 m x=false->(l.take (i+1)).any (K3 m)=false):=fun h=>by rw[any_take_succ _ HG.out,ab.out,h];rfl
    have HH:Agt (K3 m x=true->Bu l m=false):=fun h=>by rw[ao.out,Dk _ HG.out h];rfl
    have ae:=ae x.head.pred;have ad:=ad x.head.pred;clear ab;cases eo:x.out with
    |true=>
     have HR:Agt ((l.take (i+1)).any (K3 m)=false):=HN.out (by unfold K3;rw[eo];rfl);clear HH HN HG ae ad
     repeat' first|refine Z1 ?_|refine Z8 fun ya J=>?_|refine Z4 ?_;clear J ya|refine Z2 ?_ ?_<;>intro h aa<;>try exact Xp|refine Z3 ?_|exact Zt|apply J.out;clear J ya
     refine⟨l.length-(i+1),Agm,i+1,?_⟩
     ((repeat' refine Zi ?_ ?_)<;>first|exact Xq|exact HR|exact Xs)
    |false=>
     cases en:m.any (Mv x.head.pred)with
     |false=>
      have HR:Agt ((l.take (i+1)).any (K3 m)=false):=HN.out (by unfold K3;rw[eo,en];rfl);rw[en]at ae;clear HH HN HG ad en
      repeat' first|refine Z1 ?_|refine Z8 fun ya J=>?_|refine Z4 ?_;clear J ya|refine Z2 ?_ ?_<;>intro h aa<;>try exact Xp|refine Z5 ?_;refine Xi (ae _) ?_;rintro _ _ ⟨rfl,ac⟩|refine Z3 ?_|exact Zt|apply J.out;clear J ya
      refine⟨l.length-(i+1),Agm,i+1,?_⟩
      ((repeat' refine Zi ?_ ?_)<;>first|exact Xq|exact HR|exact (hK.trans ac)|exact Xs)
     |true=>
      rw[en]at ae;cases er:Nr m x.head.pred with
      |true=>
       have HR:Agt ((l.take (i+1)).any (K3 m)=false):=HN.out (by unfold K3;rw[eo,en,er];rfl);rw[er]at ad;clear HH HN HG en er
       repeat' first|refine Z1 ?_|refine Z8 fun ya J=>?_|refine Z4 ?_;clear J ya|refine Z2 ?_ ?_<;>intro h aa<;>try exact Xp|(refine Z5 ?_;first|(refine Xi (ae _) ?_;rintro _ _ ⟨rfl,ac⟩)|(refine Xi (ad _) ?_;rintro _ _ ⟨rfl,rfl⟩))|refine Z3 ?_|exact Zt|apply J.out;clear J ya
       refine⟨l.length-(i+1),Agm,i+1,?_⟩
       ((repeat' refine Zi ?_ ?_)<;>first|exact Xq|exact HR|exact (hK.trans ac)|exact Xs)
      |false=>
       have HR:Agt (Bu l m=false):=HH.out (by unfold K3;rw[eo,en,er];rfl);rw[er]at ad;clear HH HN HG en er
       repeat' first|refine Z1 ?_|refine Z8 fun ya J=>?_|refine Z4 ?_;clear J ya|refine Z2 ?_ ?_<;>intro h aa<;>try exact Xp|(refine Z5 ?_;first|(refine Xi (ae _) ?_;rintro _ _ ⟨rfl,ac⟩)|(refine Xi (ad _) ?_;rintro _ _ ⟨rfl,rfl⟩))|refine Z3 ?_|exact Zt|apply J.out;clear J ya
       first|exact⟨_,rfl,by rw[HR.out],hK.trans ac⟩|exact⟨_,rfl,by rw[HR.out]⟩
   ·have aj:i=l.length:=Agm;subst aj;rw[Adu]at ab;have HR:Agt (Bu l m=true):=by rw[Agt,ao.out,ab.out];rfl
    clear ab ao
    repeat' first|refine Z1 ?_|refine Z8 fun ya J=>?_|refine Z4 ?_;clear J ya|refine Z2 ?_ ?_<;>intro h aa<;>try exact Xp|refine Z3 ?_|exact Zt|apply J.out;clear J ya
    first|exact⟨_,rfl,by rw[HR.out],hK⟩|exact⟨_,rfl,by rw[HR.out]⟩
def Fb (l:List RItem)(x:RItem):Bool:=x.out||l.any (K8 l x.head.pred)
theorem bD (l:List RItem)(cs:List AV)(idl:Nat)(hE:EL EItem l cs)(hl:l.length<=16)(hf:∀x∈l,x.fits/\x.short)(d:St):
  ACalls Tryz.prog 149 [sl idl l.length cs] d fun r d'=>∃id c',r=tp [sl id (l.filter (Fb l)).length c',sc (.bool (decide ((l.filter (Fb l)).length<l.length)&&Bu l (l.filter (Fb l))))]/\EL EItem (l.filter (Fb l)) c'/\Keep d d':=by
 have a5:=EL.length Ci hE;have ae:=fun p d=>bB l cs idl p hE hl (fun x hx=>(hf x hx).1) d;refine Z9 45 [.tmp 2,.tmp 3] Tryz.func149 ?_
 refine zz ?_
 refine Ad (fun q s d'=>∃(i i4:Nat) (L:List RItem) (ys:List AV),q=l.length-i/\i<=l.length/\s 0=sl idl l.length cs/\s 4=sl i4 L.length ys/\s 5=ic i/\Keep d d'/\Own d d' i4 L.length/\ys.length=L.length*5/\L.length<=i/\Agt (L=(l.take i).filter (Fb l)/\EL EItem L ys)) l.length
  ⟨0,1,[],[],Agm,Agm,by simp[upd,initS],Ago,Ago,Keep.refl _,Own.nil _ _,rfl,by simp,by simp,rfl⟩ ?_
 rintro q s d' ⟨i,i4,L,ys,rfl,hi,h0,h4,h5,hK,hO,a4,a6,hL⟩;have a3:=hK.nobj;by_cases aw:i<l.length
 ·have ac:=Adn aw;obtain⟨jh,jd,jb,r2,av,ay⟩:=C4 hE ac;generalize l[i]=y at ac av ay;have au:Agt ((l.take (i+1)).filter (Fb l)=(l.take i).filter (Fb l)++if Fb l y=true then [y]else []):=by
   rw[Agt,Ad0,ac,Aez,Afy];congr 1;cases hh:Fb l y<;>simp[hh]
  have HY:Agt (Fb l y=true->L++[y]=(l.take (i+1)).filter (Fb l)/\EL EItem (L++[y]) (ys++[sc (.bool y.out),sc (.bool y.head.nt),str y.head.pred,sl jh y.head.terms.length (y.head.terms.map str),sl jd y.body.length jb])):=fun h=>⟨by rw[au.out,if_pos h,hL.out.1],EL.append hL.out.2 (EL.single ⟨[sc (.bool y.head.nt),str y.head.pred,sl jh y.head.terms.length (y.head.terms.map str)],jd,jb,⟨jh,rfl⟩,av,rfl⟩)⟩;have HZ:Agt (Fb l y=false->L=(l.take (i+1)).filter (Fb l)/\EL EItem L ys):=fun h=>⟨by rw[au.out,if_neg (by simp[h]),Ad4];exact hL.out.1,hL.out.2⟩;have ae:=ae y.head.pred;clear ac hL au;cases eo:y.out with
  |true=>
   have HN:Agt _:=HY.out (by unfold Fb;rw[eo];rfl);rw[eo]at HN;clear HY HZ ae
   repeat' first|refine Z1 ?_|refine Z8 fun ya J=>?_|refine Z4 ?_;clear J ya|refine Z2 ?_ ?_<;>intro h ad<;>try exact Xp|refine Z6 ?_;intro idn dn ak a0 ap ai ao ah|refine Z3 ?_|exact Zt|apply J.out;clear J ya
   refine⟨l.length-(i+1),Agm,i+1,idn,L++[y],ys++[sc (.bool true),sc (.bool y.head.nt),str y.head.pred,sl jh y.head.terms.length (y.head.terms.map str),sl jd y.body.length jb],?_⟩
   ((repeat' refine Zi ?_ ?_)<;>first|exact Xq|exact HN|exact (by rw[Aeb];exact ak)|exact Xs)
  |false=>
   cases ew:l.any (K8 l y.head.pred)with
   |true=>
    have HN:Agt _:=HY.out (by unfold Fb;rw[eo,ew];rfl);rw[eo]at HN;rw[ew]at ae;clear HY HZ ew
    repeat' first|refine Z1 ?_|refine Z8 fun ya J=>?_|refine Z4 ?_;clear J ya|refine Z2 ?_ ?_<;>intro h ad<;>try exact Xp|refine Z6 ?_;intro idn dn ak a0 ap ai ao ah|refine Z5 ?_;refine Xi (ae _) ?_;rintro _ _ ⟨rfl,af⟩;(have hK:=hK.trans af;have hO:=Own.keep hO af)|refine Z3 ?_|exact Zt|apply J.out;clear J ya
    refine⟨l.length-(i+1),Agm,i+1,idn,L++[y],ys++[sc (.bool false),sc (.bool y.head.nt),str y.head.pred,sl jh y.head.terms.length (y.head.terms.map str),sl jd y.body.length jb],?_⟩
    ((repeat' refine Zi ?_ ?_)<;>first|exact Xq|exact HN|exact (by rw[Aeb];exact ak)|exact Xs)
   |false=>
    have HN:Agt _:=HZ.out (by unfold Fb;rw[eo,ew];rfl);rw[ew]at ae;clear HY HZ ew
    repeat' first|refine Z1 ?_|refine Z8 fun ya J=>?_|refine Z4 ?_;clear J ya|refine Z2 ?_ ?_<;>intro h ad<;>try exact Xp|refine Z5 ?_;refine Xi (ae _) ?_;rintro _ _ ⟨rfl,af⟩;(have hK:=hK.trans af;have hO:=Own.keep hO af)|refine Z3 ?_|exact Zt|apply J.out;clear J ya
    refine⟨l.length-(i+1),Agm,i+1,i4,L,ys,?_⟩
    ((repeat' refine Zi ?_ ?_)<;>first|exact Xq|exact HN|exact Xs)
 ·have ax:i=l.length:=Agm;subst ax;obtain⟨aj,am⟩:=hL.out;rw[Adu]at aj;rw[<-aj];have an:=fun d=>I8 l L cs ys idl i4 hE am Agm Agm (fun x hx=>hf x (by rw[aj]at hx;exact (Afz.1 hx).1)) d;have HE:Agt _:=am;clear hL aj am ae;by_cases aa:L.length<l.length
  ·have az:decide ((L.length:Int)<(l.length:Int))=true:=by simpa using aa
   have HB:Agt ((decide (L.length<l.length)&&Bu l L)=Bu l L):=by rw[Agt,Agl aa,Afb]
   rw[HB.out];generalize Bu l L=ab at an;clear HB aa
   repeat' first|refine Z1 ?_|refine Z8 fun ya J=>?_|refine Z4 ?_;clear J ya|refine Z2 ?_ ?_<;>intro h ad<;>try exact Xp|refine Z5 ?_;refine Xi (an _) ?_;rintro _ _ ⟨rfl,af⟩|refine Z3 ?_|exact Zt|apply J.out;clear J ya
   first|exact⟨_,rfl,i4,ys,rfl,HE.out,hK.trans af⟩|exact⟨_,rfl,i4,ys,rfl,HE.out⟩
  ·have az:decide ((L.length:Int)<(l.length:Int))=false:=by simp;omega
   have HB:Agt ((decide (L.length<l.length)&&Bu l L)=false):=by rw[Agt,Agk aa,Bool.false_and]
   rw[HB.out];clear HB aa an
   repeat' first|refine Z1 ?_|refine Z8 fun ya J=>?_|refine Z4 ?_;clear J ya|refine Z2 ?_ ?_<;>intro h ad<;>try exact Xp|refine Z3 ?_|exact Zt|apply J.out;clear J ya
   first|exact⟨_,rfl,i4,ys,rfl,HE.out,hK⟩|exact⟨_,rfl,i4,ys,rfl,HE.out⟩
end Go.Proofs.YtmoeoppbmhfbpaaGreatDoorD
