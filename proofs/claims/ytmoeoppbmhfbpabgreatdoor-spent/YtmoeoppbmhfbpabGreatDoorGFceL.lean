import Derived.Test.YtmoeoppbmhfbpabGreatDoorGUnfR
set_option maxRecDepth 100000
set_option linter.all false
namespace Go.Proofs.YtmoeoppbmhfbpabGreatDoorG
open Go.Abs
section
variable {N N2:List Tx} {ar ar2:Tx->Nat} {R R2:List RItem} {x x2:RItem}
theorem uE (h:Nw N ar R x)(hX:∀y∈R,XR y)(hx:XR x){a:RAtom}(ha:LA R (x.body.map Dq) a):LA (R.map ren) ((ren x).body.map Dq) (rA (Hf (Cx (Au x))) a)/\rA (Hf (G4 (Au x))) (rA (Hf (Cx (Au x))) a)=a:=by
 have ab:∀y∈R,∀a,a=y.head\/a∈y.body->∀t∈a.terms,VT t:=fun y hy a ha t ht=>by
  rcases ha with rfl|ha
  ·exact ((h.ru y hy).vt t ht).1
  ·exact ((h.ru y hy).vb a ha t ht).1
 have aa:∀b∈x.body,∀t∈b.terms,VT t:=fun b hb t ht=>(h.x.vb b hb t ht).1;have ac:∀a∈x.body.map Dq,rA (Hf (Cx (Au x))) a∈(ren x).body.map Dq:=fun a ha=>by
  obtain⟨b,hb,rfl⟩:=Aey.1 ha;rw[hx.frz (Ak (.inr hb)) (aa b hb)];exact Aey.2 ⟨_,Aey.2 ⟨b,hb,rfl⟩,rfl⟩
 have ad:∀a∈x.body.map Dq,rA (Hf (G4 (Au x))) (rA (Hf (Cx (Au x))) a)=a:=fun a ha=>by
  obtain⟨b,hb,rfl⟩:=Aey.1 ha;rw[hx.frz (Ak (.inr hb)) (aa b hb),hx.frz_back (Ak (.inr hb)) (aa b hb)]
 exact⟨fun S hS=>ha _ (mX ab ac ((Zw hX).2 hS)),ha (fun a=>rA (Hf (G4 (Au x))) (rA (Hf (Cx (Au x))) a)=a) (mY (fun y hy=>ab y hy _ (.inl rfl)) (fun y hy=>(h.ru y hy).safe) ad)⟩
theorem uF (h:Nw N ar R x)(hX:∀y∈R,XR y)(hx:XR x){a:RAtom}(ha:LA (R.map ren) ((ren x).body.map Dq) a):LA R (x.body.map Dq) (rA (Hf (G4 (Au x))) a)/\rA (Hf (Cx (Au x))) (rA (Hf (G4 (Au x))) a)=a:=by
 have ab:∀y∈R,∀a,a=y.head\/a∈y.body->∀t∈a.terms,VT t:=fun y hy a ha t ht=>by
  rcases ha with rfl|ha
  ·exact ((h.ru y hy).vt t ht).1
  ·exact ((h.ru y hy).vb a ha t ht).1
 have aa:∀b∈x.body,∀t∈b.terms,VT t:=fun b hb t ht=>(h.x.vb b hb t ht).1;have ac:∀a∈(ren x).body.map Dq,rA (Hf (G4 (Au x))) a∈x.body.map Dq:=fun a ha=>by
  obtain⟨c,hc,rfl⟩:=Aey.1 ha;obtain⟨b,hb,rfl⟩:=Aey.1 hc;rw[hx.frz_back (Ak (.inr hb)) (aa b hb)];exact Aey.2 ⟨b,hb,rfl⟩
 have ad:∀a∈(ren x).body.map Dq,rA (Hf (Cx (Au x))) (rA (Hf (G4 (Au x))) a)=a:=fun a ha=>by
  obtain⟨c,hc,rfl⟩:=Aey.1 ha;obtain⟨b,hb,rfl⟩:=Aey.1 hc;rw[hx.frz_back (Ak (.inr hb)) (aa b hb),hx.frz (Ak (.inr hb)) (aa b hb)]
 exact⟨fun S hS=>ha _ ((Zw hX).1 (mX ab ac hS)),ha (fun a=>rA (Hf (Cx (Au x))) (rA (Hf (G4 (Au x))) a)=a) ((Zw hX).1 (mY (fun y hy=>ab y hy _ (.inl rfl)) (fun y hy=>(h.ru y hy).safe) ad))⟩
theorem yY (h:Nw N ar R x)(h2:Nw N2 ar2 R2 x2)(hX:∀y∈R,XR y)(hx:XR x)(ac:∀y∈R2,XR y)(ab:XR x2)(hR:R.map ren=R2.map ren)(aa:ren x=ren x2){b b2:Bool}
  (hp:Vt (R.map (D1 N)) (F2 N x) (D1 N x).head.p.toNat (Cl (Fe (D1 N x).head)) b) (ad:Vt (R2.map (D1 N2)) (F2 N2 x2) (D1 N2 x2).head.p.toNat (Cl (Fe (D1 N2 x2).head)) b2):b=b2:=by
 have hd:∀{N:List Tx} {ar:Tx->Nat} {R:List RItem} {x:RItem} (h:Nw N ar R x) (hx:XR x),rA (Hf (Cx (Au x))) (Dq x.head)=Dq (ren x).head/\rA (Hf (G4 (Au x))) (Dq (ren x).head)=Dq x.head:=fun h hx=>
  ⟨hx.frz (Ak (.inl ⟨hx.out,rfl⟩)) fun t ht=>(h.x.vt t ht).1,hx.frz_back (Ak (.inl ⟨hx.out,rfl⟩)) fun t ht=>(h.x.vt t ht).1⟩
 refine yX h h2 (f:=fun a=>rA (Hf (G4 (Au x2))) (rA (Hf (Cx (Au x))) a)) (g:=fun a=>rA (Hf (G4 (Au x))) (rA (Hf (Cx (Au x2))) a)) (fun a ha=>?_) (fun a ha=>?_) ?_ ?_ hp ad
 ·obtain⟨h3,h4⟩:=uE h hX hx ha;rw[hR,aa]at h3;obtain⟨h5,h6⟩:=uF h2 ac ab h3;exact⟨h5,by rw[h6,h4]⟩
 ·obtain⟨h3,h4⟩:=uE h2 ac ab ha;rw[<-hR,<-aa]at h3;obtain⟨h5,h6⟩:=uF h hX hx h3;exact⟨h5,by rw[h6,h4]⟩
 ·rw[(hd h hx).1,aa,(hd h2 ab).2]
 ·rw[(hd h2 ab).1,<-aa,(hd h hx).2]
end
def Sim (o o2:Option (List RItem)):Prop:=(o=none/\o2=none)\/∃m m2,o=some m/\o2=some m2/\LS m m2
def Wnt (l:List RItem)(q:Tx):Prop:=∃x∈l,x.out=true/\(x.head.pred=q\/Way (Dk l) x.head.pred q)
theorem aL {N:List Tx}{l:List RItem}{M:Nat->Nat->Bool}(hN:aF N l)(hM:C8 N l M){q:Tx}(hq:q∈N):Ey N (Ea N.length M N.length) l (N.idxOf q)=true↔Wnt l q:=by
 unfold Ey Wnt;simp only[Aeo,Adv,Bool.or_eq_true,Agi];constructor
 ·rintro⟨x,hx,ho,h⟩;refine⟨x,hx,ho,?_⟩;rcases h with h|h
  ·exact .inl (Ef (hN x hx).1 hq h)
  ·exact .inr ((I4 hN hM (hN x hx).1 hq).1 h)
 ·rintro⟨x,hx,ho,h⟩;refine⟨x,hx,ho,?_⟩;rcases h with rfl|h
  ·exact .inl rfl
  ·exact .inr ((I4 hN hM (hN x hx).1 hq).2 h)
section
variable {N N2:List Tx} {ar ar2:Tx->Nat} {l l2:List RItem} (h:LS l l2) (hR:RtL N ar l) (zz:RtL N2 ar2 l2)
include h
theorem LS.way {p q:Tx}(w:Way (Dk l) p q):Way (Dk l2) p q:=w.map' fun _ _=>h.once
theorem LS.wnt {q:Tx}(w:Wnt l q):Wnt l2 q:=by
 obtain⟨x,hx,ho,w⟩:=w;obtain⟨y,hy,hs⟩:=h.mem hx;refine⟨y,hy,hs.out.symm.trans ho,?_⟩;rw[<-hs.pred];exact w.imp id fun w=>h.way w
include hR zz
theorem Ux {m m2:List RItem}(g:LS m m2)(n2:aF N m)(n4:aF N2 m2)(hm:∀x∈m,x.out=true->x.body=[])(aa:∀x∈m2,x.out=true->x.body=[]):Cj N l m=Cj N2 l2 m2:=
 Afb.2 ⟨vO h g hR.nm n2 zz.nm n4 hm aa,vO h.symm g.symm zz.nm n4 hR.nm n2 aa hm⟩
theorem Acp {o o2:Option (List RItem)}(hs:StS N l o)(aa:StS N2 l2 o2):Sim o o2:=by
 obtain⟨M,hM,hs⟩:=hs;obtain⟨M2,ad,aa⟩:=aa
 have hK:LS (Fc N (Ea N.length M N.length) l) (Fc N2 (Ea N2.length M2 N2.length) l2):=h.filter fun x y hx hy ac=>Afb.2 (by
  rw[aL hR.nm hM (hR.nm x hx).1,aL zz.nm ad (zz.nm y hy).1,ac.pred]
  exact⟨fun w=>h.wnt w,fun w=>h.symm.wnt w⟩)
 have hb:=Ux h hR zz hK (fun x hx=>hR.nm x (Afx.1 hx).1) (fun x hx=>zz.nm x (Afx.1 hx).1) (fun x hx=>(hR.gl.msr x (Afx.1 hx).1).out) (fun x hx=>(zz.gl.msr x (Afx.1 hx).1).out);have hl:=hK.len;have ah:=h.len;generalize Fc N (Ea N.length M N.length) l=K at*
 generalize Fc N2 (Ea N2.length M2 N2.length) l2=K2 at*
 rcases hs with⟨h1,rfl⟩|⟨h1,af⟩
 ·rcases aa with⟨-,rfl⟩|⟨h2,-⟩
  ·exact .inl ⟨rfl,rfl⟩
  ·exact absurd Agm h2
 ·rcases aa with⟨h2,-⟩|⟨-,ae⟩
  ·exact absurd Agm h1
  ·rcases af with⟨e1,rfl⟩|⟨e1,rfl⟩<;>rcases ae with⟨e2,rfl⟩|⟨e2,rfl⟩
   ·exact .inl ⟨rfl,rfl⟩
   ·rw[<-hb,e1]at e2;cases e2
   ·rw[<-hb,e1]at e2;cases e2
   ·exact .inr ⟨K,K2,rfl,rfl,hK⟩
end
theorem uQ {p q:Nat->Nat->Bool}{D:Nat->Nat->Prop}(e:∀i k,D i k->p i k=q i k){i k i2 k2:Nat}(h1:D i k)(h2:D i2 k2)(hp:p i k=true)(hq:q i2 k2=true)(m1:∀i' k',D i' k'->i'<i->p i' k'=false)(m2:∀k',k'<k->p i k'=false)(n1:∀i' k',D i' k'->i'<i2->q i' k'=false)(n2:∀k',k'<k2->q i2 k'=false):i=i2/\k=k2:=by
 rcases Afs i i2 with g|rfl|g
 ·rw[e _ _ h1,n1 i k h1 g]at hp;cases hp
 ·refine⟨rfl,?_⟩;rcases Afs k k2 with g|g|g
  ·rw[e _ _ h1,n2 k g]at hp;cases hp
  ·exact g
  ·rw[<-e _ _ h2,m2 k2 g]at hq;cases hq
 ·rw[<-e _ _ h2,m1 i2 k2 h2 g]at hq;cases hq
theorem oB {x:RItem}(hX:XR x)(k:Nat){N:List Tx}(hN:∀a∈x.body,a.pred∈N)(aa:∀a∈x.body,∀b∈x.body,a.pred=b.pred->a.terms.length=b.terms.length):Vd (ren x) k↔Vd x k:=by
 obtain⟨s0,e0,h1⟩:=hX.search (N:=N) (k:=k) hN aa
 obtain⟨s1,e1,h2⟩:=M8 tellU N (ren x) k (fun a ha=>by
  obtain⟨b,hb,rfl⟩:=Aey.1 ha;exact hN b hb) (fun t ht=>hX.inO.ut _ (Ak (.inl ⟨hX.out,rfl⟩)) t ht) (fun a ha t ht=>hX.inO.ut _ (Ak (.inr ha)) t ht) (fun a ha b hb e=>by
  obtain⟨a',ac,rfl⟩:=Aey.1 ha;obtain⟨b',ab,rfl⟩:=Aey.1 hb
  simpa[Bg]using aa a' ac b' ab e) fun t ht u hu e=>tellU.inj t u ht hu e
 rw[e0]at e1;cases e1;exact h2.symm.trans h1
theorem lR {N:List Tx}{ar:Tx->Nat}{l:List RItem}(hR:RtL N ar l){x:RItem}(hx:x∈l)(ho:x.out=false)(k:Nat):(cI N x k).isSome=true↔Fa (D9 (ren x) k)=true/\Vd (ren x) k:=by
 have hu:=hR.ut hx;have hX:=hR.xr hx ho;have hN:=(hR.nm x hx).2;have aa:=hR.gl.ar x hx;obtain⟨s0,e0,h1⟩:=M8 tellU N x k hN (fun t ht=>hu _ (Ak (.inl ⟨ho,rfl⟩)) t ht) (fun a ha t ht=>hu _ (Ak (.inr ha)) t ht) aa fun t ht u hu e=>tellU.inj t u ht hu e;rw[oB hX k hN aa,<-h1];have ac:Fa (D9 (ren x) k)=Dw (D9 x k):=by
  have hs:∀z:RItem,(∀a∈Ae z,∀t∈a.terms,UT t)->z.out=false->Dw (D9 z k)=Fa (D9 z k):=fun z hz ab=>Lv (x:=D9 z k) fun a ha w hw=>by
   have ha:a=z.head\/a∈z.body.eraseIdx k:=by simpa[Ae,D9]using ha
   rcases ha with rfl|ha
   ·exact Qf (hz _ (Ak (.inl ⟨ab,rfl⟩)) w hw)
   ·exact Qf (hz _ (Ak (.inr (Afj ha))) w hw)
  rw[<-hs (ren x) hX.inO.ut ho,hX.safe k,hs x hu ho]
 rw[ac];unfold cI;rw[e0];simp only[Aei];unfold Hv;split
 ·rename_i hs;rw[Ad2];exact⟨fun h=>⟨hs,h⟩,fun h=>h.2⟩
 ·rename_i hs;simp[hs]
section
variable {N N2:List Tx} {ar ar2:Tx->Nat} {l l2:List RItem} (h:LS l l2) (hR:RtL N ar l) (zz:RtL N2 ar2 l2)
theorem Lc {N:List Tx}{l o:List RItem}(hl:aF N l)(ho:aF N o)(i:Nat):aF N (rpl i o l):=fun x hx=>by
 rcases Dm hx with h|h
 ·exact hl x h
 ·exact ho x h
theorem La {N:List Tx}{ar:Tx->Nat}{l o:List RItem}(hR:RtL N ar l)(ho:∀z∈o,z.out=false)(i:Nat):∀x∈rpl i o l,x.out=true->x.body=[]:=fun x hx he=>by
 rcases Dm hx with h|h
 ·exact (hR.gl.msr x h).out he
 ·rw[ho x h]at he;cases he
theorem Aak (hR:RtL N ar l)(ab:RtL N2 ar2 l2){x y:RItem}(hx:x∈l)(hy:y∈l2)(hxo:x.out=false)(ad:y.out=false)(hs:Sx x y)(k:Nat):Sx (D9 x k) (D9 y k):=by
 have one:∀{N:List Tx} {ar:Tx->Nat} {l:List RItem} (hR:RtL N ar l) {x:RItem} (hx:x∈l) (ho:x.out=false),Sx (D9 x k) (D9 (ren x) k):=fun {N ar l} hR {x} hx ho=>by
  have hX:=hR.xr hx ho;have hu:=hR.ut hx;have hs:∀a∈Ae (D9 x k),a∈Ae x:=fun a ha=>by
   have ha:a=x.head\/a∈x.body.eraseIdx k:=by simpa[Ae,D9]using ha
   rcases ha with rfl|ha
   ·exact Ak (.inl ⟨ho,rfl⟩)
   ·exact Ak (.inr (Afj ha))
  have aa:∀a∈Ae (D9 (ren x) k),a∈Ae (ren x):=fun a ha=>by
   have ha:a=(ren x).head\/a∈(ren x).body.eraseIdx k:=by simpa[Ae,D9]using ha
   rcases ha with rfl|ha
   ·exact Ak (.inl ⟨ho,rfl⟩)
   ·exact Ak (.inr (Afj ha))
  have ww:∀z:RItem,Bv z->z.out=false->Bv (D9 z k):=fun z hz ac=>by
   obtain⟨w1,w2,w3,w4⟩:=hz.2.2 ac;exact⟨hz.1,(fun e=>by cases e),fun _=>⟨w1,w2,Ado (Afm _ _) w3,fun a ha=>w4 a (Afj ha)⟩⟩
  refine⟨(sO hX k).symm,?_,?_⟩
  ·rw[<-gN (ww x (hR.wit x hx) ho) fun a ha=>hu a (hs a ha),<-sO hX k,gN (ww (ren x) (Ja (hR.wit x hx) (hR.wi x hx)) ho) fun a ha=>hX.inO.ut a (aa a ha)]
  ·rw[<-Lv (x:=D9 (ren x) k) fun a ha w hw=>Qf (hX.inO.ut a (aa a ha) w hw),hX.safe k]
 have h1:=one hR hx hxo;have h2:=one ab hy ad;rw[<-hs.rn]at h2;exact h1.trans h2.symm
include h hR zz
theorem iT {i:Nat}{x:RItem}(hx:l[i]?=some x)(ho:x.out=false)(k:Nat):Ot N l i k=Ot N2 l2 i k:=by
 obtain⟨y,hy,hs⟩:=h.get hx;have ac:=Adt hx;have ab:=Adt hy;have ad:y.out=false:=hs.out.symm.trans ho;have e1:(cI N x k).isSome=(cI N2 y k).isSome:=Afb.2 (by rw[lR hR ac ho,lR zz ab ad,hs.rn]);have wn:∀{N:List Tx} {l:List RItem} (hN:aF N l) {x:RItem} (hx:x∈l),aF N [D9 x k]:=fun {N l} hN {x} hx=>by
  intro z hz;simp at hz;subst hz;exact⟨(hN x hx).1,fun a ha=>(hN x hx).2 a (Afj ha)⟩
 have wo:∀x:RItem,∀z∈[D9 x k],z.out=false:=fun x z hz=>by simp at hz;subst hz;rfl
 have e2:=Ux h hR zz (h.rpl (LS.one (Aak hR zz ac ab ho ad hs k)) i) (Lc hR.nm (wn hR.nm ac) i) (Lc zz.nm (wn zz.nm ab) i) (La hR (wo x) i) (La zz (wo y) i);unfold Ot;rw[hx,hy];simp only;rw[e1,e2]
theorem Acu {o o2:Option (List RItem)}(hs:StA N l o)(ah:StA N2 l2 o2):Sim o o2:=by
 have ai:∀{i:Nat} {x:RItem} {k:Nat},l[i]?=some x->k<x.body.length->x.out=false:=fun {i x k} hx hk=>by
  cases ho:x.out with
  |false=>rfl
  |true=>rw[(hR.gl.msr x (Adt hx)).out ho]at hk;cases hk
 rcases hs with⟨rfl,hn⟩|⟨i,k,y,rfl,hy,ho,hk,aa,hn,am⟩
 ·rcases ah with⟨rfl,-⟩|⟨i,k,y,rfl,hy,ho,hk,aa,-⟩
  ·exact .inl ⟨rfl,rfl⟩
  ·obtain⟨x,hx,hs⟩:=h.symm.get hy;have aj:k<x.body.length:=by rw[<-hs.bl];exact hk
   rw[<-iT h hR zz hx (ai hx aj),hn i x (List.getElem?_eq_some_iff.1 hx).1 hx k aj]at aa;cases aa
 ·rcases ah with⟨rfl,an⟩|⟨i2,k2,y2,rfl,ae,ak,ap,ac,hm,ao⟩
  ·obtain⟨x,hx,hs⟩:=h.get hy;rw[iT h hR zz hy ho,an i x (List.getElem?_eq_some_iff.1 hx).1 hx k (by rw[<-hs.bl];exact hk)]at aa;cases aa
  ·obtain⟨x2,ab,af⟩:=h.symm.get ae
   obtain⟨rfl,rfl⟩:=uQ (p:=Ot N l) (q:=Ot N2 l2) (D:=fun i k=>∃x,l[i]?=some x/\k<x.body.length) (fun i k ⟨x,hx,hk⟩=>iT h hR zz hx (ai hx hk) k) ⟨y,hy,hk⟩ ⟨x2,ab,by rw[<-af.bl];exact ap⟩ aa ac (fun i' k' ⟨x,hx,hk⟩ hi=>hn i' x hi hx k' hk) am (fun i' k' ⟨x,hx,hk⟩ hi=>by
    obtain⟨z,hz,hs⟩:=h.get hx
    exact hm i' z hi hz k' (by rw[<-hs.bl];exact hk)) ao
   rw[hy]at ab;cases ab;exact .inr ⟨_,_,rfl,rfl,h.rpl (LS.one (Aak hR zz (Adt hy) (Adt ae) ho ak af.symm k)) i⟩
theorem Abk (i:Nat):LS (oth l i l.length) (oth l2 i l2.length):=by
 obtain⟨L,rfl,rfl,hL⟩:=h;refine⟨(L.eraseIdx i).filter fun p=>!p.1.out,?_,?_,fun p hp=>hL p (Afj (Afx.1 hp).1)⟩
 ·unfold oth;rw[Adz,Gk,List.filter_map];rfl
 ·unfold oth;rw[Adz,Gk,List.filter_map];congr 1;exact List.filter_congr fun p hp=>by simp only[Function.comp,(hL p (Afj hp)).out]
theorem Zk {i:Nat}{x y:RItem}(hx:l[i]?=some x)(hy:l2[i]?=some y)(ho:x.out=false){b b2:Bool}(hp:Vp N l i x b)(af:Vp N2 l2 i y b2):b=b2:=by
 obtain⟨y',ad,hs⟩:=h.get hx;rw[hy]at ad;cases ad;have ae:=Adt hx;have ac:=Adt hy;have ab:y.out=false:=hs.out.symm.trans ho;exact yY (ar:=ar) (ar2:=ar2) ⟨fun z hz=>hR.ru z (Gu hz).1 (Gu hz).2,hR.ru x ae ho⟩ ⟨fun z hz=>zz.ru z (Gu hz).1 (Gu hz).2,zz.ru y ac ab⟩ (fun z hz=>hR.xr (Gu hz).1 (Gu hz).2) (hR.xr ae ho) (fun z hz=>zz.xr (Gu hz).1 (Gu hz).2) (zz.xr ac ab) (Abk h hR zz i).ren hs.rn hp af
theorem Ru (i:Nat):Cj N l (rpl i [] l)=Cj N2 l2 (rpl i [] l2):=
 Ux h hR zz (h.rpl (LS.refl []) i) (Lc hR.nm (fun x hx=>by cases hx) i) (Lc zz.nm (fun x hx=>by cases hx) i) (La hR (fun z hz=>by cases hz) i) (La zz (fun z hz=>by cases hz) i)
theorem Acr {o o2:Option (List RItem)}(hs:StR N l o)(ac:StR N2 l2 o2):Sim o o2:=by
 rcases hs with⟨rfl,hn⟩|⟨i,x,rfl,hx,ho,hb,hi,hn⟩
 ·rcases ac with⟨rfl,-⟩|⟨i,y,rfl,hy,ho,hb,hi,-⟩
  ·exact .inl ⟨rfl,rfl⟩
  ·obtain⟨x,hx,hs⟩:=h.symm.get hy;have hxo:x.out=false:=hs.out.symm.trans ho;have:=Zk h hR zz hx hy hxo (hn i x (List.getElem?_eq_some_iff.1 hx).1 hx hxo (by rw[Ru h hR zz];exact hb)) hi;cases this
 ·rcases ac with⟨rfl,hm⟩|⟨j,y,rfl,hy,ad,af,ae,hm⟩
  ·obtain⟨y,hy,hs⟩:=h.get hx;have:=Zk h hR zz hx hy ho hi (hm i y (List.getElem?_eq_some_iff.1 hy).1 hy (hs.out.symm.trans ho) (by rw[<-Ru h hR zz];exact hb));cases this
  ·have e:i=j:=by
    rcases Afs i j with g|g|g
    ·obtain⟨z,hz,hs⟩:=h.get hx;have:=Zk h hR zz hx hz ho hi (hm i z g hz (hs.out.symm.trans ho) (by rw[<-Ru h hR zz];exact hb));cases this
    ·exact g
    ·obtain⟨z,hz,hs⟩:=h.symm.get hy;have ab:z.out=false:=hs.out.symm.trans ad;have:=Zk h hR zz hz hy ab (hn j z g hz ab (by rw[Ru h hR zz];exact af)) ae;cases this
   subst e;exact .inr ⟨_,_,rfl,rfl,h.rpl (LS.refl []) i⟩
end
theorem zZ {N N2:List Tx}{ar ar2:Tx->Nat}{l l2:List RItem}(hR:RtL N ar l)(aa:RtL N2 ar2 l2){x y:RItem}(hx:x∈l)(hy:y∈l2)(hs:Sx x y):Cu x=Cu y:=by rw[I3 (hR.wit x hx),I3 (aa.wit y hy),hs.rn]
theorem mI {l:List RItem}{n:Nat}{q:Tx}{y:RItem}(hy:y∈H0 l n q):y∈l:=by
 obtain⟨r,hr,rfl⟩:=Aey.1 hy;exact Af2 (Afx.1 hr).1
section
variable {N N2:List Tx} {ar ar2:Tx->Nat} {l l2:List RItem} (h:LS l l2) (hR:RtL N ar l) (zz:RtL N2 ar2 l2)
include h hR zz
theorem Aaf {x y:RItem}(hx:x∈l)(hy:y∈l2)(ho:x.out=false)(hs:Sx x y)(k:Nat)(q:Tx):uL N l x k q=uL N2 l2 y k q:=by
 have e:∀(N:List Tx) (l:List RItem) (x:RItem),uL N l x k q=(l.filter (Jl q)).filterMap fun z=>(Mh N x k z).map (Ck N):=fun N l x=>by
  unfold uL Js;rw[List.map_filterMap]
 rw[e,e];have af:y.out=false:=hs.out.symm.trans ho
 have n2:∀{z w:RItem},w∈l2->Sx z w->z.head.pred∈N2/\∀a∈z.body,a.pred∈N2:=fun {z w} hw ab=>⟨by rw[ab.pred];exact (zz.nm w hw).1,fun a ha=>by
  obtain⟨b,hb,-,e,-⟩:=ab.mem ha
  rw[<-e];exact (zz.nm w hw).2 b hb⟩
 have key:∀z w,z∈l->w∈l2->z.out=false->Sx z w->(Mh N x k z).map (Ck N)=(Mh N2 y k w).map (Ck N2):=fun z w hz hw ac ab=>by
  have ah:w.out=false:=ab.out.symm.trans ac;rw[kT (N:=N) (N2:=N2) (hR.xr hx ho) (hR.xr hz ac) (hR.ut hx) (hR.ut hz) (hR.nm x hx) (hR.nm z hz).2 (n2 hy hs) (n2 hw ab).2,kT (N:=N2) (N2:=N2) (zz.xr hy af) (zz.xr hw ah) (zz.ut hy) (zz.ut hw) (zz.nm y hy) (zz.nm w hw).2 (zz.nm y hy) (zz.nm w hw).2,hs.rn,ab.rn]
 clear e;obtain⟨L,rfl,rfl,hL⟩:=h;clear hx hy;have ae:∀p∈L,p.1∈L.map (·.1):=fun p hp=>Aey.2 ⟨p,hp,rfl⟩;have ad:∀p∈L,p.2∈L.map (·.2):=fun p hp=>Aey.2 ⟨p,hp,rfl⟩;have kex:∀p∈L,p.1.out=false->(Mh N x k p.1).map (Ck N)=(Mh N2 y k p.2).map (Ck N2):=fun p hp ho=>key _ _ (ae p hp) (ad p hp) ho (hL p hp);clear ae ad hR zz n2 key;induction L with
 |nil=>rfl
 |cons p L ih=>
  have ih:=ih (fun q hq=>hL q (by simp[hq])) fun q hq=>kex q (by simp[hq]);have hp:=hL p (by simp);have hi:Jl q p.1=Jl q p.2:=by unfold Jl;rw[hp.out,hp.pred]
  simp only[Ad9,Agc];rw[<-hi];cases hq:Jl q p.1 with
  |false=>exact ih
  |true=>
   have ho:p.1.out=false:=by
    unfold Jl at hq;simp only[Adv,Af0]at hq;exact hq.1
   have hk:=kex p (by simp) ho;simp only[if_true];rw[List.filterMap_cons,List.filterMap_cons,hk,ih]
theorem Abm {M M2:Nat->Nat->Bool}(hM:C8 N l M)(ah:C8 N2 l2 M2){i k:Nat}{x:RItem}{a:RAtom}(hx:l[i]?=some x)(ho:x.out=false)(ha:x.body[k]?=some a):Py N (Ea N.length M N.length) l i k=Py N2 (Ea N2.length M2 N2.length) l2 i k:=by
 obtain⟨y,hy,hs⟩:=h.get hx;obtain⟨b,hb,e1,e2,-⟩:=hs.lit ha;have ac:=Adt hx;have ab:=Adt hy;have ae:=(hR.nm x ac).2 a (Adt ha);have ad:=(zz.nm y ab).2 b (Adt hb);have af:y.out=false:=hs.out.symm.trans ho
 have g1:Ea N.length M N.length (N.idxOf a.pred) (N.idxOf a.pred)=Ea N2.length M2 N2.length (N2.idxOf b.pred) (N2.idxOf b.pred):=Afb.2 (by
  rw[I4 hR.nm hM ae ae,I4 zz.nm ah ad ad,e2]
  exact⟨fun w=>h.way w,fun w=>h.symm.way w⟩)
 have g2:B8 N l (N.idxOf a.pred)=B8 N2 l2 (N2.idxOf b.pred):=Afb.2 (by
  rw[Jx (fun x hx=>(hR.nm x hx).1) ae,Jx (fun x hx=>(zz.nm x hx).1) ad,e2]
  exact⟨fun w=>h.rld w,fun w=>h.symm.rld w⟩)
 have un:∀{N:List Tx} {ar:Tx->Nat} {l:List RItem} (hR:RtL N ar l) {x:RItem} (hx:x∈l) (ho:x.out=false) (q:Tx),aF N (uL N l x k q):=fun {N ar l} hR {x} hx ho q=>by
  intro z hz;obtain⟨z1,z2⟩:=aO hR hx ho hz;refine⟨by rw[z1];exact (hR.nm x hx).1,fun c hc=>?_⟩;obtain⟨w,hw,d,hd,e⟩:=z2 c hc;rw[<-e];exact (hR.nm w hw).2 d hd
 have g3:Cj N l (rpl i (uL N l x k a.pred) l)=Cj N2 l2 (rpl i (uL N2 l2 y k b.pred) l2):=by
  have e3:=Aaf h hR zz ac ab ho hs k a.pred;rw[e2];refine Ux h hR zz (h.rpl (by rw[e3];exact LS.refl _) i) (Lc hR.nm (un hR ac ho _) i) (Lc zz.nm (un zz ab af _) i) (La hR Yw i) (La zz Yw i)
 unfold Py;rw[hx,hy];simp only;rw[ha,hb];simp only;rw[e1,g1,g2,g3]
theorem Aco {o o2:Option (List RItem)}(hs:StU N l o)(ab:StU N2 l2 o2):Sim o o2:=by
 obtain⟨M,hM,hs⟩:=hs;obtain⟨M2,au,ab⟩:=ab;have aj:∀{N:List Tx} {ar:Tx->Nat} {l:List RItem} (hR:RtL N ar l) {i:Nat} {x:RItem} {k:Nat},l[i]?=some x->k<x.body.length->x.out=false:=fun {N ar l} hR {i x k} hx hk=>by
  cases ho:x.out with
  |false=>rfl
  |true=>rw[(hR.gl.msr x (Adt hx)).out ho]at hk;cases hk
 have oe:∀{i k:Nat} {x:RItem},l[i]?=some x->k<x.body.length->Py N (Ea N.length M N.length) l i k=Py N2 (Ea N2.length M2 N2.length) l2 i k:=fun {i k x} hx hk=>Abm h hR zz hM au hx (aj hR hx hk) (List.getElem?_eq_getElem hk);rcases hs with⟨rfl,hn⟩|⟨i,k,y,a,rfl,hy,ho,ha,aa,hn,ak⟩
 ·rcases ab with⟨rfl,-⟩|⟨i,k,y,a,rfl,hy,ho,ha,aa,-⟩
  ·exact .inl ⟨rfl,rfl⟩
  ·obtain⟨x,hx,hs⟩:=h.symm.get hy;have ah:k<x.body.length:=by rw[<-hs.bl];exact (List.getElem?_eq_some_iff.1 ha).1
   rw[<-oe hx ah,hn i x (List.getElem?_eq_some_iff.1 hx).1 hx k ah]at aa;cases aa
 ·have hk:=(List.getElem?_eq_some_iff.1 ha).1;rcases ab with⟨rfl,am⟩|⟨i2,k2,y2,a2,rfl,af,av,ai,ae,hm,an⟩
  ·obtain⟨x,hx,hs⟩:=h.get hy;rw[oe hy hk,am i x (List.getElem?_eq_some_iff.1 hx).1 hx k (by rw[<-hs.bl];exact hk)]at aa;cases aa
  ·have ao:=(List.getElem?_eq_some_iff.1 ai).1;obtain⟨x2,ac,ad⟩:=h.symm.get af
   obtain⟨rfl,rfl⟩:=uQ (p:=Py N (Ea N.length M N.length) l) (q:=Py N2 (Ea N2.length M2 N2.length) l2) (D:=fun i k=>∃x,l[i]?=some x/\k<x.body.length) (fun i k ⟨x,hx,hk⟩=>oe hx hk) ⟨y,hy,hk⟩ ⟨x2,ac,by rw[<-ad.bl];exact ao⟩ aa ae (fun i' k' ⟨x,hx,hk⟩ hi=>hn i' x hi hx k' hk) ak (fun i' k' ⟨x,hx,hk⟩ hi=>by
    obtain⟨z,hz,hs⟩:=h.get hx
    exact hm i' z hi hz k' (by rw[<-hs.bl];exact hk)) an
   rw[hy]at ac;cases ac;obtain⟨b,hb,-,e,-⟩:=ad.symm.lit ha;rw[ai]at hb;cases hb;refine .inr ⟨_,_,rfl,rfl,h.rpl ?_ i⟩;rw[e,Aaf h hR zz (Adt hy) (Adt af) ho ad.symm k a.pred];exact LS.refl _
theorem Abn (n:Nat)(q:Tx):LS (H0 l n q) (H0 l2 n q):=by
 obtain⟨L,rfl,rfl,hL⟩:=h;refine⟨(L.zipIdx.filter fun p=>K9 n q (p.1.1,p.2)).map (·.1),?_,?_,fun p hp=>?_⟩
 ·unfold H0;rw[List.zipIdx_map,List.filter_map,Ad6,Ad6];rfl
 ·unfold H0;rw[List.zipIdx_map,List.filter_map,Ad6,Ad6];have:L.zipIdx.filter (K9 n q∘Prod.map (·.2) id)=L.zipIdx.filter fun p=>K9 n q (p.1.1,p.2):=List.filter_congr fun p hp=>by
   have hs:=hL p.1 (Af2 hp);simp only[Function.comp,Prod.map,id,K9,Jl];rw[hs.out,hs.pred]
  rw[this];rfl
 ·obtain⟨r,hr,rfl⟩:=Aey.1 hp;exact hL _ (Af2 (Afx.1 hr).1)
theorem Aa5 {x y:RItem}(hx:x∈l)(hy:y∈l2)(hs:Sx x y):Jv x=Jv y/\(match x.body with|[a]=>some a.pred|_=>none)=(match y.body with|[a]=>some a.pred|_=>none):=by
 have aa:=hs.bl;have hw:=zZ hR zz hx hy hs;have hp:=hs.pred;have hl:=fun j a=>@Sx.lit x y hs j a;unfold Jv;rw[hw,hp];generalize x.body=bx at*
 generalize y.body=bY at*
 match bx,bY,aa with
 |[],[],_=>exact⟨rfl,rfl⟩
 |[a],[b],_=>
  obtain⟨c,hc,-,e,-⟩:=hl 0 a rfl;have:b=c:=by simpa using hc
  subst this;simp only;rw[e];exact⟨rfl,rfl⟩
 |_::_::_,_::_::_,_=>exact⟨rfl,rfl⟩
theorem S7 (n:Nat)(q:Tx):D6 l n q=D6 l2 n q:=by
 have ho:=Abn h hR zz n q;have ab:=fun y=>@mI l n q y;have aa:=fun y=>@mI l2 n q y;unfold D6;generalize H0 l n q=A at*
 generalize H0 l2 n q=B at*
 match A,B,ho.len,ho with
 |[],[],_,_=>rfl
 |[x],[y],_,ho=>
  obtain⟨z,hz,hs⟩:=ho.get (i:=0) rfl;have:y=z:=by simpa using hz
  subst this;obtain⟨e1,e2⟩:=Aa5 h hR zz (ab x (by simp)) (aa y (by simp)) hs;simp only;rw[e1];split
  ·exact e2
  ·rfl
 |_::_::_,_::_::_,_,_=>rfl
theorem Y9 {i:Nat}{x:RItem}(hx:l[i]?=some x):Ro N l i=Ro N2 l2 i:=by
 obtain⟨y,hy,hs⟩:=h.get hx;have ac:=Adt hx;have ab:=Adt hy;unfold Ro;rw[hx,hy];simp only;have e1:Kc x=Kc y:=by unfold Kc;rw[zZ hR zz ac ab hs,hs.pred]
 rw[e1,<-S7 h hR zz,<-hs.pred];congr 1;cases he:D6 l i x.head.pred with
 |none=>rfl
 |some e=>
  simp only;have en:∀{N:List Tx} {l:List RItem},aF N l->D6 l i x.head.pred=some e->x.head.pred∈N->aF N [C3 x.head.pred e]:=fun {N l} hN ad hp=>by
   intro z hz;simp at hz;subst hz;obtain⟨w,hw,b,hb,rfl⟩:=cH ad;have he:=(hN w hw).2 b hb
   exact⟨hp,fun a ha=>by
    simp only[C3,Aeq,Ae8,Agk]at ha;rcases ha with rfl|rfl
    ·exact he
    ·exact hp⟩
  have lo:∀z∈[C3 x.head.pred e],z.out=false:=fun z hz=>by simp at hz;subst hz;rfl
  exact Ux h hR zz (h.rpl (LS.refl _) i) (Lc hR.nm (en hR.nm he (hR.nm x ac).1) i) (Lc zz.nm (en zz.nm (by rw[<-S7 h hR zz];exact he) (by rw[hs.pred];exact (zz.nm y ab).1)) i) (La hR lo i) (La zz lo i)
theorem Acs {o o2:Option (List RItem)}(hs:StL N l o)(ae:StL N2 l2 o2):Sim o o2:=by
 rcases hs with⟨rfl,hn⟩|⟨i,x,e,rfl,hx,-,he,aa,hn⟩
 ·rcases ae with⟨rfl,-⟩|⟨i,y,e,rfl,hy,-,he,aa,-⟩
  ·exact .inl ⟨rfl,rfl⟩
  ·obtain⟨x,hx,hs⟩:=h.symm.get hy;rw[<-Y9 h hR zz hx,hn i (List.getElem?_eq_some_iff.1 hx).1]at aa;cases aa
 ·rcases ae with⟨rfl,hm⟩|⟨j,y,e2,rfl,hy,-,af,ab,hm⟩
  ·obtain⟨y,hy,hs⟩:=h.get hx;rw[Y9 h hR zz hx,hm i (List.getElem?_eq_some_iff.1 hy).1]at aa;cases aa
  ·have ee:i=j:=by
    rcases Afs i j with g|g|g
    ·rw[Y9 h hR zz hx,hm i g]at aa;cases aa
    ·exact g
    ·obtain⟨z,hz,-⟩:=h.symm.get hy;rw[<-Y9 h hR zz hz,hn j g]at ab;cases ab
   subst ee;obtain⟨y',ad,hs⟩:=h.get hx;rw[hy]at ad;cases ad;rw[<-S7 h hR zz,<-hs.pred,he]at af;cases af;refine .inr ⟨_,_,rfl,rfl,h.rpl ?_ i⟩;rw[hs.pred];exact LS.refl _
theorem Acv {c:UInt8}{o o2:Option (List RItem)}(hs:St5 N c l o)(aa:St5 N2 c l2 o2):Sim o o2:=by
 rcases hs with⟨rfl,hs⟩|⟨rfl,hs⟩|⟨rfl,hs⟩|⟨rfl,hs⟩|⟨rfl,hs⟩<;>rcases aa with⟨e,aa⟩|⟨e,aa⟩|⟨e,aa⟩|⟨e,aa⟩|⟨e,aa⟩<;>first|cases e;done|skip
 ·exact Acp h hR zz hs aa
 ·exact Acu h hR zz hs aa
 ·exact Acr h hR zz hs aa
 ·exact Aco h hR zz hs aa
 ·exact Acs h hR zz hs aa
end
theorem LS.mk {l m:List RItem}(hl:l.length=m.length)(h:∀(i:Nat) (x y:RItem),l[i]?=some x->m[i]?=some y->Sx x y):LS l m:=
 ⟨l.zip m,by rw[List.map_fst_zip Agm],by rw[List.map_snd_zip Agm],fun p hp=>by
  obtain⟨i,hi⟩:=List.getElem?_of_mem hp;rw[List.getElem?_zip_eq_some]at hi
  exact h i _ _ hi.1 hi.2⟩
theorem LS.trans {l m k:List RItem}(h:LS l m)(g:LS m k):LS l k:=LS.mk (h.len.trans g.len) fun i x z hx hz=>by
 obtain⟨y,hy,hs⟩:=h.get hx;obtain⟨w,hw,aa⟩:=g.get hy;rw[hz]at hw;cases hw;exact hs.trans aa
def Stps (T:List RItem->Option (List RItem)->Prop):Nat->List RItem->List RItem->Prop
 |0,l,l'=>l'=l
 |k+1,l,l'=>∃l1,T l (some l1)/\Stps T k l1 l'
theorem Stps.snoc {T:List RItem->Option (List RItem)->Prop}:∀{k:Nat} {l l1 l2:List RItem},Stps T k l l1->T l1 (some l2)->Stps T (k+1) l l2
 |0,_,_,_,e,h=>by cases e;exact⟨_,h,rfl⟩
 |k+1,_,_,_,⟨m,h1,h2⟩,h=>⟨m,h1,h2.snoc h⟩
theorem GChg.stps {T:List RItem->Option (List RItem)->Prop}{b m m':Int}{l l':List RItem}(h:GChg T b l m l' m'):∃k:Nat,m'=m+k/\Stps T k l l'/\(0<k->m'<=b):=by
 induction h with
 |refl=>exact⟨0,Agm,rfl,Agm⟩
 |snoc _ hb hs ih=>
  obtain⟨k,e,h,-⟩:=ih;exact⟨k+1,Agm,h.snoc hs,Agm⟩
section
variable {N N2:List Tx} {ar ar2:Tx->Nat} {c:UInt8} (hp:Ml (St5 N c) N ar c) (zz:Ml (St5 N2 c) N2 ar2 c)
include hp zz
theorem Kw:∀{k k2:Nat} {l l2 l' l2':List RItem},LS l l2->RtL N ar l->RtL N2 ar2 l2->Stps (St5 N c) k l l'->Stps (St5 N2 c) k2 l2 l2'->k<=k2->∃mid,LS l' mid/\RtL N ar l'/\RtL N2 ar2 mid/\Stps (St5 N2 c) (k2-k) mid l2'
 |0,k2,l,l2,l',l2',h,hR,aa,e,h2,_=>by cases e;exact⟨l2,h,hR,aa,h2⟩
 |k+1,0,_,_,_,_,_,_,_,_,_,hk=>Agm
 |k+1,k2+1,l,l2,l',l2',h,hR,aa,⟨m,h1,g1⟩,⟨m2,h2,g2⟩,hk=>by
  rcases Acv h hR aa h1 h2 with⟨e,-⟩|⟨w,w2,e,e2,hL⟩
  ·cases e
  ·cases e;cases e2;have:=Kw hL (hp.rt _ _ h1 hR) (zz.rt _ _ h2 aa) g1 g2 Agm;rwa[show k2+1-(k+1)=k2-k by omega]
theorem Lb {l l2 l2':List RItem}{k:Nat}(h:LS l l2)(hR:RtL N ar l)(aa:RtL N2 ar2 l2)(hn:St5 N c l none)(hs:Stps (St5 N2 c) k l2 l2'):k=0:=by
 cases k with
 |zero=>rfl
 |succ k=>
  obtain⟨m,h1,-⟩:=hs;rcases Acv h hR aa hn h1 with⟨-,e⟩|⟨w,w2,e,-⟩
  ·cases e
  ·cases e
end
theorem oA {N N2 N3:List Tx}{ar ar2 ar3:Tx->Nat}{p:UInt8}(hp:Ml (St5 N p) N ar p)(ab:Ml (St5 N2 p) N2 ar2 p)(aa:Ml (St5 N3 p) N3 ar3 p){l l' l2' l3':List RItem}{b c n m d:Int}(hb:0<=b)(hc:0<=c)(hR:RtL N ar l)(ae:RtL N3 ar3 l)(ad:RtL N2 ar2 (l'.map ren))
  (h1:Qx (St5 N p) b l 0 l' n) (h2:Qx (St5 N2 p) c (l'.map ren) 0 l2' m) (h3:Qx (St5 N3 p) (b+c) l 0 l3' d):LS l2' l3'/\n+m=d/\(n=b\/m=0):=by
 obtain⟨k1,e1,s1,b1⟩:=h1.1.stps;obtain⟨k2,e2,s2,b2⟩:=h2.1.stps;obtain⟨k3,e3,s3,b3⟩:=h3.1.stps;have n1:n<=b:=by
  rcases Nat.eq_zero_or_pos k1 with h|h
  ·omega
  ·exact b1 h
 have n2:m<=c:=by
  rcases Nat.eq_zero_or_pos k2 with h|h
  ·omega
  ·exact b2 h
 have n3:d<=b+c:=by
  rcases Nat.eq_zero_or_pos k3 with h|h
  ·omega
  ·exact b3 h
 have hk:k1<=k3:=by
  refine Nat.le_of_not_lt fun ah=>?_;obtain⟨mid,g1,g2,g3,g4⟩:=Kw aa hp (LS.refl l) ae hR s3 s1 Agm;rcases h3.2 with h|h
  ·omega
  ·have:=Lb aa hp g1 g2 g3 h g4;omega
 obtain⟨mid,g1,ac,g3,g4⟩:=Kw hp aa (LS.refl l) hR ae s1 s3 hk;have af:LS (l'.map ren) mid:=(LS.of_ren ac).symm.trans g1;have ai:k2<=k3-k1:=by
  refine Nat.le_of_not_lt fun ah=>?_;obtain⟨w,w1,w2,w3,w4⟩:=Kw aa ab af.symm g3 ad g4 s2 Agm;rcases h3.2 with h|h
  ·omega
  ·have:=Lb aa ab w1 w2 w3 h w4;omega
 obtain⟨w,w1,w2,w3,w4⟩:=Kw ab aa af ad g3 s2 g4 ai;have h0:b<=n\/k2=0:=h1.2.imp id fun h=>Lb hp ab (LS.of_ren ac) ac ad h s2;have hz:k3-k1-k2=0:=by
  rcases h2.2 with h|h
  ·rcases h1.2 with h'|h'
   ·omega
   ·have:=Lb hp aa g1 ac g3 h' g4;omega
  ·exact Lb ab aa w1 w2 w3 h w4
 rw[hz]at w4;have e:l3'=w:=w4;subst e;exact⟨w1,Agm,Agm⟩
theorem oX {t s u v:Tx}{p:UInt8}(aa:Ct [p]=true){b c n m d e f g:Int}(hb:0<=b)(hc:0<=c)(he:(Ax t).1=0)(hs:(Ax s).1=0)(h1:E4 St5 t [p] b (s,n,e))(h2:E4 St5 s [p] c (u,m,f))(h3:E4 St5 t [p] (b+c) (v,d,g)):f=0/\g=0/\u=v/\n+m=d/\(0<=n/\n<=b)/\(0<=m/\m<=c)/\(n=b\/m=0):=by
 unfold E4 at h1 h2 h3;rw[if_neg (by simp[he]),if_neg (by simp[aa]),if_neg Agm]at h1 h3;rw[if_neg (by simp[hs]),if_neg (by simp[aa]),if_neg Agm]at h2;obtain⟨N,l,cs,ar,l',n',hR,hA,ad,hP,e1⟩:=h1;obtain⟨N2,l2,cs2,ar2,l2',m',af,ak,ac,ah,e2⟩:=h2;obtain⟨N3,l3,cs3,ar3,l3',d',ae,aj,ab,ai,e3⟩:=h3;simp only[Prod.mk.injEq]at e1 e2 e3;obtain⟨rfl,rfl,rfl⟩:=e1;obtain⟨rfl,rfl,rfl⟩:=e2;obtain⟨rfl,rfl,rfl⟩:=e3;have el3:l3=l:=by rw[<-ae.items,hR.items]
 subst el3;have el2:l2=l'.map ren:=by rw[<-af.items,Qq ad.wit ad.wi]
 subst el2;have one:∀{N:List Tx} {b:Int} {l l':List RItem} {m:Int},GPss (St5 N) b l 0 [p] l' m->Qx (St5 N p) b l 0 l' m:=fun h=>by
  obtain⟨l1,m1,h1,h2⟩:=h.cons _ _ rfl;obtain⟨rfl,rfl⟩:=h2.nil_eq rfl;exact h1
 have q1:=hP.num;have q2:=ah.num;obtain⟨r1,r2,r3⟩:=oA (ps5 aa N ar p (by simp)) (ps5 aa N2 ar2 p (by simp)) (ps5 aa N3 ar3 p (by simp)) hb hc (hR.rt hA) (ae.rt aj) (af.rt ak) (one hP) (one ah) (one ai);exact⟨rfl,rfl,by rw[Il ac.wit,Il ab.wit,r1.ren],r2,⟨q1.1,q1.2.1 Agm⟩,⟨q2.1,q2.2.1 Agm⟩,r3⟩
end Go.Proofs.YtmoeoppbmhfbpabGreatDoorG
