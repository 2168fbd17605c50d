import Derived.Test.YtmoeoppbmhfbpabGreatDoorMAwkB
import Derived.Test.YtmoeoppbmhfbpabGreatDoorMMixA
import Derived.Test.YtmoeoppbmhfbpabGreatDoorMTelB
set_option maxHeartbeats 64000000
set_option maxRecDepth 100000
set_option linter.all false
namespace Go.Proofs.YtmoeoppbmhfbpabGreatDoorL
open Go.Abs
def Ww (μ:Int->Int)(t:Tm):Int:=if t.1=true then μ t.2 else t.2
def Rsp (μ:Int->Int)(P:List Tm):Prop:=∀t,Wm t->Ww μ (D6 P t)=Ww μ t
theorem Rsp.wi {μ:Int->Int}{P:List Tm}{v w:Tm}(hP:P.length=52)(h:Rsp μ P)(hv:v.1=true)(he:Ww μ v=Ww μ w):Rsp μ (Sa P v w):=fun t ht=>by
 rw[Kp hP ht hv];split
 ·rename_i e;rw[<-he,<-e];exact h t ht
 ·exact h t ht
theorem Zw {μ:Int->Int}:∀{ts us P:List Tm},P.length=52->Rsp μ P->(∀t∈ts,Wm t)->(∀t∈us,Wm t)->ts.map (Ww μ)=us.map (Ww μ)->∃P',Dk P ts us=some P'/\Rsp μ P'
 |[],us,P,_,h,_,_,_=>⟨P,by unfold Dk;rfl,h⟩
 |t::ts,[],P,_,_,_,_,e=>by simp at e
 |t::ts,u::us,P,hP,h,h1,h2,e=>by
  rw[Ahj,Ahj]at e;obtain⟨e1,e2⟩:=List.cons.inj e;have e3:Ww μ (D6 P t)=Ww μ (D6 P u):=by rw[h t (h1 t (by simp)),h u (h2 u (by simp)),e1]
  have:∃Q,Pq P t u=some Q/\Q.length=52/\Rsp μ Q:=by
   unfold Pq;by_cases c1:D6 P t=D6 P u
   ·rw[if_pos c1];exact⟨P,rfl,hP,h⟩
   ·rw[if_neg c1];by_cases c2:(D6 P u).1=true
    ·rw[if_pos c2];exact⟨_,rfl,by rw[Ko];exact hP,h.wi hP c2 e3.symm⟩
    ·rw[if_neg c2];by_cases c3:(D6 P t).1=true
     ·rw[if_pos c3];exact⟨_,rfl,by rw[Ko];exact hP,h.wi hP c3 e3⟩
     ·refine absurd ?_ c1;unfold Ww at e3;rw[if_neg c2,if_neg c3]at e3;exact Prod.ext (by rw[Bool.eq_false_iff.2 c2,Bool.eq_false_iff.2 c3]) e3
  obtain⟨Q,hQ,hl,hR⟩:=this;obtain⟨P',g1,g2⟩:=Zw hl hR (fun x hx=>h1 x (by simp[hx])) (fun x hx=>h2 x (by simp[hx])) e2;exact⟨P',by unfold Dk;rw[hQ];exact g1,g2⟩
theorem mI {P Q:List Tm}{t u:Tm}(hP:P.length=52)(h:Pq P t u=some Q)(ht:Wm t)(hu:Wm u):Q.length=52/\D6 Q t=D6 Q u/\∀v w,Wm v->Wm w->D6 P v=D6 P w->D6 Q v=D6 Q w:=by
 have key:∀a b:Tm,a.1=true->∀v w,Wm v->Wm w->D6 P v=D6 P w->D6 (Sa P a b) v=D6 (Sa P a b) w:=fun a b ha v w hv hw e=>by rw[Kp hP hv ha,Kp hP hw ha,e]
 unfold Pq at h;by_cases c1:D6 P t=D6 P u
 ·rw[if_pos c1]at h;cases h;exact⟨hP,c1,fun _ _ _ _ e=>e⟩
 ·rw[if_neg c1]at h;by_cases c2:(D6 P u).1=true
  ·rw[if_pos c2]at h;cases h;exact⟨by rw[Ko];exact hP,by rw[Kp hP ht c2,Kp hP hu c2,if_neg c1,if_pos rfl],key _ _ c2⟩
  ·rw[if_neg c2]at h;by_cases c3:(D6 P t).1=true
   ·rw[if_pos c3]at h;cases h;exact⟨by rw[Ko];exact hP,by rw[Kp hP ht c3,Kp hP hu c3,if_pos rfl,if_neg fun e=>c1 e.symm],key _ _ c3⟩
   ·rw[if_neg c3]at h;cases h
theorem Zv:∀{ts us P P':List Tm},P.length=52->(∀t∈ts,Wm t)->(∀t∈us,Wm t)->ts.length=us.length->Dk P ts us=some P'->ts.map (D6 P')=us.map (D6 P')/\∀v w,Wm v->Wm w->D6 P v=D6 P w->D6 P' v=D6 P' w
 |[],[],P,P',_,_,_,_,e=>by unfold Dk at e;cases e;exact⟨rfl,fun _ _ _ _ e=>e⟩
 |[],_::_,_,_,_,_,_,e,_=>by cases e
 |_::_,[],_,_,_,_,_,e,_=>by cases e
 |t::ts,u::us,P,P',hP,h1,h2,hl,e=>by
  unfold Dk at e;obtain⟨Q,hQ,e⟩:=Option.bind_eq_some_iff.1 e;have ht:=h1 t (by simp);have hu:=h2 u (by simp);obtain⟨q1,q2,q3⟩:=mI hP hQ ht hu;obtain⟨r1,r2⟩:=Zv q1 (fun x hx=>h1 x (by simp[hx])) (fun x hx=>h2 x (by simp[hx])) (by simpa using hl) e;exact⟨by rw[Ahj,Ahj,r1,r2 t u ht hu q2],fun v w hv hw g=>r2 v w hv hw (q3 v w hv hw g)⟩
def mu2 (ν1 ν2:Tx->Int):Int->Int:=fun k=>if k<26 then ν1 [Jp k]else ν2 [Jp (k-26)]
theorem nC {p:LT}(h:UT p.2)(hv:Ad p.2=false):Li p=Ak p.2:=by
 obtain⟨s,t⟩:=p;cases s with
 |false=>rfl
 |true=>rw[Li,Qa h,if_neg (by simp[show Ad t=false from hv])]
theorem nB {p:LT}(h:UT p.2)(ν1 ν2:Tx->Int):Ww (mu2 ν1 ν2) (Li p)=Lc (if p.1=true then ν2 else ν1) p.2:=by
 cases hv:Ad p.2 with
 |true=>
  obtain⟨s,t⟩:=p;obtain⟨k,hk,e1,e2⟩:=h.enc hv;dsimp only at e1 e2 hv⊢;subst e1;cases s with
  |false=>
   show Ww _ (Ak [Jp k])=_;rw[e2];unfold Ww Lc mu2;rw[if_pos rfl,hv,if_pos rfl,if_pos (by dsimp only;omega)];rfl
  |true=>
   rw[Li,Qa h];dsimp only;rw[hv,if_pos rfl,e2];unfold Ww Lc mu2;rw[if_pos rfl,hv,if_pos rfl,if_neg (by dsimp only;omega)];dsimp only;rw[show (26+(k:Int)-26)=k by omega];rfl
 |false=>
  rw[nC h hv];unfold Ww Lc;rw[hv,Bo,hv];rfl
def nuZ (μ:Int->Int)(V:List Int):Tx->Int:=fun w=>μ ((V[(Ak w).2.toNat]?).getD 0)
theorem Afb {μ:Int->Int}{V:List Int}{u:Tm}(hu:W52 u)(hV:V.length<=26)(hm:u.1=true->u.2∈V):Lc (nuZ μ V) (Ia (Fj V u))=Ww μ u:=by
 obtain⟨b,v⟩:=u;cases b with
 |true=>
  have hm:v∈V:=hm rfl;have hi:=Air hm;have e:Fj V (true,v)=(true,((V.idxOf v:Nat):Int)):=by simp[Fj,lX,hm]
  rw[e];have hd:=(xQ (k:=V.idxOf v) Aj6).dec.2;have aa:Ad (Ia (true,((V.idxOf v:Nat):Int)))=true:=by rw[<-Bo,hd]
  unfold Lc nuZ Ww;rw[if_pos aa,hd,if_pos rfl];dsimp only;rw[Ajn,Agz hi,Aiq];rfl
 |false=>
  have hd:=(hu.2 rfl).dec.2;have e:Fj V (false,v)=(false,v):=rfl;rw[e];have aa:Ad (Ia (false,v))=false:=by rw[<-Bo,hd]
  unfold Lc Ww;rw[aa,hd];rfl
theorem Ade {P:List Tm}{V:List Int}{p:LT}(h:UT p.2)(hv:Ad p.2=false):Ia (Fj V (D6 P (Li p)))=p.2:=by
 rw[nC h hv];have e1:(Ak p.2).1=false:=by rw[Bo];exact hv
 have e2:D6 P (Ak p.2)=Ak p.2:=if_neg (by simp[e1]);have e3:Fj V (Ak p.2)=Ak p.2:=by
  unfold Fj;rw[e1];exact Prod.ext e1.symm (by simp)
 rw[e2,e3,h.dec.1]
theorem Aba {f:LT->Tx}{s:Bool}{ν:Tx->Int}{b:RAtom}(h:∀t∈b.terms,Ad t=false->f (s,t)=t)(nt:Bool)(pr:Tx):Jx ν ⟨nt,pr,b.terms.map fun t=>f (s,t)⟩=Jx (fun w=>Lc ν (f (s,w))) b:=by
 unfold Jx;dsimp only;rw[Ahg];congr 1;refine Aid fun t ht=>?_;simp only[Function.comp];cases hv:Ad t with
 |true=>
  have:∀μ:Tx->Int,Lc μ t=μ t:=fun μ=>if_pos hv;rw[this]
 |false=>rw[h t ht hv];unfold Lc;rw[hv];rfl
theorem Ae3 {x y:RItem}{k:Nat}{a:RAtom}(ha:x.body[k]?=some a)(hnt:a.nt=false)(hq:y.head.pred=a.pred){f:LT->Tx}(hx:∀b,b=x.head\/b∈x.body->∀t∈b.terms,Ad t=false->f (false,t)=t)(hy:∀b,b=y.head\/b∈y.body->∀t∈b.terms,Ad t=false->f (true,t)=t)
  (he:a.terms.map (fun t=>f (false,t))=y.head.terms.map fun t=>f (true,t)) {M D:Ej} (h1:uI x M D) (h2:uI y M D):uI (jnI x (Sg x k y) f) M D:=fun ν hb=>by
 have ab:=(Agy.1 ha).1;have g:∀b∈Sg x k y,(∀t∈b.2.terms,Ad t=false->f (b.1,t)=t)->HoL M D (fun w=>Lc ν (f (b.1,w))) b.2:=fun b hm hn=>by
  have:=hb _ (Aib.2 ⟨b,hm,rfl⟩);unfold HoL at this⊢;rw[Aba hn]at this;exact this
 have hY:D a.pred (Jx (fun w=>Lc ν (f (false,w))) a):=by
  have:=h2 (fun w=>Lc ν (f (true,w))) fun b aa=>g (true,b) (bK (by simpa using ab) (Aib.2 ⟨b,aa,rfl⟩)) (hy b (.inr aa));rw[hq]at this;rw[<-Aba (hx a (.inr (Ag1 ha))) false a.pred,he,Aba (hy y.head (.inl rfl)) false a.pred];exact this
 have:=h1 (fun w=>Lc ν (f (false,w))) fun b aa=>by
  obtain⟨j,hj⟩:=Aif aa;by_cases e:j=k
  ·subst e;rw[ha]at hj;cases hj;unfold HoL;rw[if_neg (by simp[hnt])];exact hY
  ·exact g (false,b) (Kl (by rw[Aha,hj];rfl) e) (hx b (.inr aa))
 show D x.head.pred (Jx ν ⟨false,x.head.pred,_⟩);rw[Aba (hx x.head (.inl rfl))];exact this
theorem yK {x y:RItem}{k:Nat}{f:LT->Tx}{ν ν1 ν2:Tx->Int}(hv:∀p∈mO x (Sg x k y),Lc ν (f p)=Lc (if p.1=true then ν2 else ν1) p.2){M D:Ej}(h1:∀b∈x.body,HoL M D ν1 b)(h2:∀b∈y.body,HoL M D ν2 b)(hz:uI (jnI x (Sg x k y) f) M D):D x.head.pred (Jx ν1 x.head):=by
 have e:∀(b:RAtom) (s nt:Bool) (pr:Tx),(∀t∈b.terms,(s,t)∈mO x (Sg x k y))->Jx ν ⟨nt,pr,b.terms.map fun t=>f (s,t)⟩=Jx (if s=true then ν2 else ν1) b:=fun b s nt pr h=>by
  unfold Jx;dsimp only;rw[Ahg];congr 1;exact Aid fun t ht=>hv (s,t) (h t ht)
 have:=hz ν fun b hb=>by
  obtain⟨c,hc,rfl⟩:=Aib.1 hb;have hm:∀t∈c.2.terms,(c.1,t)∈mO x (Sg x k y):=fun t ht=>Ajy _ (Ah7.2 ⟨c,hc,Aib.2 ⟨t,ht,rfl⟩⟩);unfold HoL;rw[e c.2 c.1 _ _ hm];rcases cA hc with⟨e1,hm⟩|⟨e1,hm⟩
  ·rw[e1];exact h1 c.2 hm
  ·rw[e1];exact h2 c.2 hm
 have g:=e x.head false false x.head.pred fun t ht=>Ajx _ (Aib.2 ⟨t,ht,rfl⟩);have this:D x.head.pred (Jx ν ⟨false,x.head.pred,x.head.terms.map fun t=>f (false,t)⟩):=this;rw[g]at this;exact this
section
variable {N:List Tx} {ar:Tx->Nat} {l:List RItem} (hR:RtL N ar l)
include hR
theorem RtL.uta {x:RItem}(hx:x∈l)(ho:x.out=false){b:RAtom}(hb:b=x.head\/b∈x.body):b.pred∈N/\b.terms.length=ar b.pred/\b.terms.length<=3/\∀t∈b.terms,UT t:=by
 have hr:=hR.ru x hx ho
 have hm:=(hR.gl.msr x hx).at_ b (by
  rcases hb with rfl|hb
  ·exact Ar (.inl ⟨ho,rfl⟩)
  ·exact Ar (.inr hb))
 have hA:AtI N ar b:=by
  rcases hb with rfl|hb
  ·exact hr.head
  ·exact hr.body b hb
 exact⟨hA.mem,hA.len,hA.le3,hm.2.2⟩
theorem Af2 {M0:Nat->Nat->Bool}(hM:Dq N l M0){i k:Nat}{x:RItem}{a:RAtom}(hx:l[i]?=some x)(ho:x.out=false)(ha:x.body[k]?=some a)(ah:Wr N (F8 N.length M0 N.length) l i k=true){B M:Ej}(hB:∀x∈l,x.out=false->∀t,¬B x.head.pred t)(q:Tx)(t:Bb):LstM l B M q t↔LstM (Co i (uL N l x k a.pred) l) B M q t:=by
 have aa:=Ag1 hx;have ad:=Ag1 ha;have hil:=(Agy.1 hx).1;have aj:=bR hx ha ah;unfold Wr at ah;rw[hx]at ah;dsimp only at ah;rw[ha]at ah;simp only[Ag3,Ajo]at ah;obtain⟨hnt,ae,ax,-⟩:=ah
 have hN:∀x∈l,x.head.pred∈N/\∀a∈x.body,a.pred∈N:=fun y hy=>⟨(hR.gl.msr y hy).mem,fun b hb=>by
  cases e:y.out with
  |true=>rw[(hR.gl.msr y hy).out e]at hb;cases hb
  |false=>exact (hR.uta hy e (.inr hb)).1⟩
 have ay:x.head.pred≠a.pred:=fun e=>by
  have:=(Ln hN hM (hN x aa|>.2 a ad) (hN x aa|>.2 a ad)).2 (.one ⟨x,aa,e,a,ad,rfl⟩);rw[this]at ae;cases ae
 unfold Cy at aj;simp only[Ag3]at aj;have h5:=(Qz aj.1).2
 --the joined rules
 have hJ:∀y∈l,y.out=false->(Wv N x k y).map (Cx N)=(Dk pidn (a.terms.map fun t=>Li (false,t)) (y.head.terms.map fun t=>Li (true,t))).map fun P=>jnI x (Sg x k y) fun p=>Ia (Fj (((mO x (Sg x k y)).map fun p=>D6 P (Li p)).foldl vF []) (D6 P (Li p))):=fun y hy ab=>by
  rw[Ad7 (hN x aa).2 (hN x aa).1 (hN y hy).2,ha];rfl
 have uA:=(hR.uta aa ho (.inr ad)).2.2.2;have v52:∀(s:Bool) (ts:List Tx),(∀t∈ts,UT t)->∀u∈ts.map fun t=>Li (s,t),W52 u:=fun s ts h u hu=>by
  obtain⟨t,ht,rfl⟩:=Aib.1 hu;refine⟨Aez (h t ht),fun hv=>?_⟩;have hv:Ad t=false:=by rw[<-Ae0 (p:=(s,t)) (h t ht)];exact hv
  rw[nC (p:=(s,t)) (h t ht) hv];exact⟨t,h t ht,rfl⟩
 have az:∀{y:RItem},y∈l->y.out=false->∀p∈mO x (Sg x k y),UT p.2:=fun {y} hy ab p hp=>by
  obtain⟨b,hb,ht⟩:=Aep ho ab hp;rcases hb with⟨-,hb⟩|⟨-,hb⟩
  ·exact ((hR.gl.msr x aa).at_ b hb).2.2 _ ht
  ·exact ((hR.gl.msr y hy).at_ b hb).2.2 _ ht
 constructor
 ·intro h;refine h _ (fun p t g=>LstM.base g) fun y hy ab=>?_;obtain⟨j,hj⟩:=Aif hy;by_cases e:j=i
  ·subst e;rw[hx]at hj;cases hj;intro ν1 hb;have hA:=hb a ad;unfold HoL at hA;rw[if_neg (by simp[hnt])]at hA;rcases hA.inv with hA|⟨y,hy,ab,ν2,aw,hp,ht⟩
   ·obtain⟨z,hz,ak⟩:=Ahz.1 ax;simp only[Ag3,Ajo,Aj3]at ak;have e:=C1 (hN z hz).1 ((hN x aa).2 a ad) ak.2;rw[<-e]at hA;exact absurd hA (hB z hz ak.1 _)
   ·have ac:y∈l:=by
     rcases Dt hy with h|h
     ·exact h
     ·obtain⟨r,hr,rfl⟩:=Aib.1 h;obtain⟨z,hz,e⟩:=List.mem_filterMap.1 hr;obtain⟨am,ak⟩:=Ai7.1 hz;simp only[Lg,Ag3,Ajo,Aj3]at ak;have e2:=hJ z am ak.1;rw[e,Ajb]at e2;obtain⟨P,-,e3⟩:=Aj0.1 e2.symm;rw[<-e3]at hp;exact absurd hp.symm ay
    have uy:=hR.uta ac ab (.inl rfl);have ai:a.terms.length=y.head.terms.length:=by rw[(hR.uta aa ho (.inr ad)).2.1,uy.2.1,hp]
    have ev:(a.terms.map fun t=>Li (false,t)).map (Ww (mu2 ν1 ν2))=(y.head.terms.map fun t=>Li (true,t)).map (Ww (mu2 ν1 ν2)):=by
     have e1:(a.terms.map fun t=>Li (false,t)).map (Ww (mu2 ν1 ν2))=a.terms.map (Lc ν1):=by
      rw[Ahg];exact Aid fun t ht=>nB (p:=(false,t)) (uA t ht) ν1 ν2
     have e2:(y.head.terms.map fun t=>Li (true,t)).map (Ww (mu2 ν1 ν2))=y.head.terms.map (Lc ν2):=by
      rw[Ahg];exact Aid fun t ht=>nB (p:=(true,t)) (uy.2.2.2 t ht) ν1 ν2
     rw[e1,e2];exact Qk (by simpa using ai) (by simpa using (hR.uta aa ho (.inr ad)).2.2.1) ht
    have w1:=v52 false a.terms uA;have w2:=v52 true y.head.terms uy.2.2.2;obtain⟨P,hP,hrs⟩:=Zw (μ:=mu2 ν1 ν2) Pl (fun t ht=>by rw[wY ht]) (fun t ht=>(w1 t ht).1) (fun t ht=>(w2 t ht).1) ev;have a0:=bU mA w1 w2 hP;have hz:∃z∈uL N l x k a.pred,z=jnI x (Sg x k y) fun p=>Ia (Fj (((mO x (Sg x k y)).map fun p=>D6 P (Li p)).foldl vF []) (D6 P (Li p))):=by
     have e2:=hJ y ac ab;rw[hP,Ajb]at e2;obtain⟨r,hr,e3⟩:=Aj0.1 e2;refine⟨Cx N r,Aib.2 ⟨r,List.mem_filterMap.2 ⟨y,Ai7.2 ⟨ac,?_⟩,hr⟩,rfl⟩,e3⟩;simp[Lg,ab,hp]
    obtain⟨z,av,ao⟩:=hz;have am:z∈Co j (uL N l x k a.pred) l:=bK hil av;have ap:=h5 z am;have an:z.out=false:=by rw[ao];rfl
    have au:=LstM.clo (Co j (uL N l x k a.pred) l) B M z am an;rw[ao]at au ap;have a3:(Sg x k y).length<=5:=by simpa[jnI]using ap
    have hT:(mO x (Sg x k y)).length<=18:=by
     unfold mO;rw[Aho,Ai1];have h3:=(hR.uta aa ho (.inl rfl)).2.2.1;have key:∀L:List (Bool×RAtom),(∀b∈L,b.2.terms.length<=3)->(L.flatMap fun b=>b.2.terms.map fun t=>(b.1,t)).length<=L.length*3:=fun L=>by
      induction L with
      |nil=>intro _;simp
      |cons b L ih=>
       intro h;have h1:=h b (by simp);have h2:=ih fun c hc=>h c (by simp[hc]);rw[Aik,Aho,Ai1,Ahy];omega
     have:=key (Sg x k y) fun b hb=>by
      rcases cA hb with⟨-,h⟩|⟨-,h⟩
      ·exact (hR.uta aa ho (.inr h)).2.2.1
      ·exact (hR.uta ac ab (.inr h)).2.2.1
     omega
    refine yK (ν:=nuZ (mu2 ν1 ν2) (((mO x (Sg x k y)).map fun p=>D6 P (Li p)).foldl vF [])) (ν1:=ν1) (ν2:=ν2) (fun p hp=>?_) hb aw au;have hu:=az ac ab p hp;have hw:W52 (Li p):=v52 p.1 [p.2] (fun t ht=>by simp at ht;subst ht;exact hu) _ (by simp)
    rw[Afb (a0.of hw) (by
     have:=aZ ((mO x (Sg x k y)).map fun p=>D6 P (Li p)) [];simp only[Ai1,Ahx]at this
     omega) fun hv=>(aY _ _ _).2 (.inr (Aib.2 ⟨p,hp,Prod.ext hv rfl⟩)),hrs _ hw.1,nB hu]
  ·exact LstM.clo _ B M y (Kl hj e) ab
 ·intro h;refine h _ (fun p t g=>LstM.base g) fun z hz an=>?_;rcases Dt hz with h|h
  ·exact LstM.clo l B M z h an
  ·obtain⟨r,hr,rfl⟩:=Aib.1 h;obtain⟨y,hy,e⟩:=List.mem_filterMap.1 hr;obtain⟨ac,af⟩:=Ai7.1 hy;simp only[Lg,Ag3,Ajo,Aj3]at af;have e2:=hJ y ac af.1;rw[e,Ajb]at e2;obtain⟨P,hP,e3⟩:=Aj0.1 e2.symm;rw[<-e3];have uy:=hR.uta ac af.1 (.inl rfl);have ai:a.terms.length=y.head.terms.length:=by rw[(hR.uta aa ho (.inr ad)).2.1,uy.2.1,af.2]
   have w1:=v52 false a.terms uA;have w2:=v52 true y.head.terms uy.2.2.2;refine Ae3 ha hnt af.2 (fun b hb t ht hv=>Ade (p:=(false,t)) ((hR.uta aa ho hb).2.2.2 t ht) hv) (fun b hb t ht hv=>Ade (p:=(true,t)) ((hR.uta ac af.1 hb).2.2.2 t ht) hv) ?_ (LstM.clo l B M x aa ho) (LstM.clo l B M y ac af.1);have:=(Zv Pl (fun t ht=>(w1 t ht).1) (fun t ht=>(w2 t ht).1) (by simpa using ai) hP).1;rw[Ahg,Ahg]at this;have:=congrArg (List.map fun u=>Ia (Fj (((mO x (Sg x k y)).map fun p=>D6 P (Li p)).foldl vF []) u)) this;rw[Ahg,Ahg]at this;exact this
end
section
variable {l:List RItem} (hr:Rgt l)
include hr
theorem pN {x:RItem}(hx:x∈l){a:RAtom}(ha:a∈x.body):B6 l a.pred<=B6 l x.head.pred:=
 (Eu hr.out hr.loo hr.len _ _).1 (Qe (.inr (.one ⟨x,hx,rfl,a,ha,rfl⟩)) ((Eu hr.out hr.loo hr.len _ _).2 (Agn _)))
theorem pO {x:RItem}(hx:x∈l){a:RAtom}(ha:a∈x.body)(hn:a.nt=true):B6 l a.pred<B6 l x.head.pred:=
 (Eu hr.out hr.loo hr.len _ _).1 ⟨x,hx,.inl rfl,a,ha,hn,(Eu hr.out hr.loo hr.len _ _).2 (Agn _)⟩
theorem bH {B:Ej}:∀{M M':Ej},Stb l B M->Stb l B M'->∀s p t,B6 l p<s->M p t->M' p t
 |M,M',h,h',0,p,t,hp,_=>absurd hp (Aiv _)
 |M,M',h,h',s+1,p,t,hp,g=>by
  have:=(h p t).1 g (fun p t=>B6 l p<s+1->LstM l B M' p t) (fun p t hb _=>LstM.base hb) fun x hx ho ν hb aa=>
   LstM.clo l B M' x hx ho ν fun a ha=>by
    have h1:=hb a ha;unfold HoL at h1⊢;by_cases e:a.nt=true
    ·rw[if_pos e]at h1⊢;have:=pO hr hx ha e;exact fun g=>h1 (bH h' h s _ _ Aj6 g)
    ·rw[if_neg e]at h1⊢;have:=pN hr hx ha;exact h1 Aj6
  exact (h' p t).2 (this hp)
theorem Stb.uniq {B M M':Ej}(h:Stb l B M)(h':Stb l B M')(p:Tx)(t:Bb):M p t↔M' p t:=⟨bH hr h h' _ p t (Nat.lt_succ_self _),bH hr h' h _ p t (Nat.lt_succ_self _)⟩
end
def nmS (N:List Tx)(D:Ct):Ej:=fun p t=>p∈N/\D (N.idxOf p) t
theorem qI {N:List Tx}{a:RAtom}(ν:Nu):Be (B9 N a) ν=Jx (fun w=>ν (Ak w).2) a:=by
 unfold Be Jx B9;simp only[Ahg];congr 1;refine Aid fun t _=>?_;simp only[Function.comp,En,Lc,Bo]
theorem oL {N:List Tx}{a:RAtom}(hu:∀t∈a.terms,UT t)(ν:Tx->Int):Jx ν a=Be (B9 N a) fun v=>ν (Ia (true,v)):=by
 unfold Be Jx B9;simp only[Ahg];congr 1;refine Aid fun t ht=>?_;simp only[Function.comp,En,Lc,Bo];cases hv:Ad t with
 |false=>rfl
 |true=>
  have e:(true,(Ak t).2)=Ak t:=Prod.ext (by rw[Bo];exact hv.symm) rfl;simp only[if_true];rw[e,(hu t ht).dec.1]
theorem bP {N:List Tx}{l:List RItem}{B:Ct}(hN:∀x∈l,x.head.pred∈N){p:Tx}(hp:p∈N){t:Bb}{s:Nat}(hs:B6 l p<s):∀{s':Nat},s<=s'->PMi N l B s' (N.idxOf p) t->PMi N l B s (N.idxOf p) t
 |0,h,g=>absurd hs Aj6
 |s'+1,h,g=>by
  by_cases e:s=s'+1
  ·subst e;exact g
  ·refine bP hN hp hs (s':=s') Aj6 (LstG.nonhead (fun r hr e2=>?_) g);obtain⟨x,hx,rfl⟩:=Aib.1 hr;obtain⟨h1,h2,h3⟩:=Uo hx;simp only[A3,B9,Ajn]at e2;rw[C1 (hN x h1) hp e2]at h3;omega
theorem wZ {N:List Tx}{l:List RItem}(hr:Rgt l)(hN:∀x∈l,x.head.pred∈N/\∀a∈x.body,a.pred∈N)(hu:∀x∈l,x.out=false->∀a,a=x.head\/a∈x.body->∀t∈a.terms,UT t){B:Ct}(hB:∀k t,B k t->∃p∈N,k=N.idxOf p):Stb l (nmS N B) (nmS N (PMi N l B (l.length+1))):=by
 intro p t;constructor
 ·rintro⟨hp,g⟩;have key:∀s,s<=l.length+1->∀k t,PMi N l B s k t->∃p∈N,k=N.idxOf p/\LstM l (nmS N B) (nmS N (PMi N l B (l.length+1))) p t:=fun s=>by
   induction s with
   |zero=>
    intro _ k t g;obtain⟨q,hq,rfl⟩:=hB k t g;exact⟨q,hq,rfl,LstM.base ⟨hq,g⟩⟩
   |succ s ih=>
    intro hs k t g;refine LstG.least (ih Aj6) (fun r aa ν hl=>?_) g;obtain⟨x,hx,rfl⟩:=Aib.1 aa;obtain⟨h1,h2,h3⟩:=Uo hx;refine⟨x.head.pred,(hN x h1).1,rfl,?_⟩;show LstM _ _ _ _ (Be (B9 N x.head) ν);rw[qI];refine LstM.clo l _ _ x h1 h2 _ fun a ha=>?_;have hh:=hl (Dp N a) (Aib.2 ⟨a,ha,rfl⟩);unfold LitH Dp at hh;dsimp only at hh;rw[qI]at hh;unfold HoL;by_cases e:a.nt=true
    ·rw[if_pos e]at hh⊢;rintro⟨hq,g⟩;have:=pO hr h1 ha e;exact hh (bP (fun x hx=>(hN x hx).1) hq (s:=s) Aj6 Aj6 g)
    ·rw[if_neg e]at hh⊢;obtain⟨q,hq,e2,g⟩:=hh;have:a.pred=q:=C1 ((hN x h1).2 a ha) hq e2;subst this;exact g
  obtain⟨q,hq,e,g⟩:=key _ (Agn _) _ _ g;rw[C1 hp hq e];exact g
 ·intro h;refine h _ (fun p t g=>⟨g.1,PMi.has g.2⟩) fun x hx ho ν hb=>⟨(hN x hx).1,?_⟩;have hs:=rP hr x.head.pred;refine PMi.up (s:=B6 l x.head.pred+1) Aj6 ?_;rw[oL (N:=N) (hu x hx ho _ (.inl rfl))];have hm:x∈Qd l (B6 l x.head.pred):=Ai7.2 ⟨hx,by unfold mT;rw[ho];simp⟩;refine LstG.cl ((Qd l (B6 l x.head.pred)).map (A3 N)) (PMi N l B (B6 l x.head.pred)) (A3 N x) (Aib.2 ⟨x,hm,rfl⟩) (fun v=>ν (Ia (true,v))) fun k hk=>?_;obtain⟨a,ha,rfl⟩:=Aib.1 hk;have h1:=hb a ha;unfold HoL at h1;rw[oL (N:=N) (hu x hx ho a (.inr ha))]at h1;unfold LitH Dp;dsimp only;by_cases e:a.nt=true
  ·rw[if_pos e]at h1⊢;exact fun g=>h1 ⟨(hN x hx).2 a ha,PMi.up Aj6 g⟩
  ·rw[if_neg e]at h1⊢;have:=pN hr hx ha;exact bP (fun x hx=>(hN x hx).1) h1.1 (s:=B6 l x.head.pred+1) Aj6 Aj6 h1.2
def Mth (B:Ej)(l l':List RItem):Prop:=∀M,Stb l B M->∃M',Stb l' B M'/\(∀p t,M' p t->M p t)/\∀x∈l,x.out=true->∀t,M x.head.pred t->M' x.head.pred t
def BOk (B:Ej)(l:List RItem):Prop:=∀x∈l,x.out=false->∀t,¬B x.head.pred t
theorem Mth.of {B:Ej}{l l':List RItem}(h:∀M p t,LstM l B M p t↔LstM l' B M p t):Mth B l l':=fun M hM=>⟨M,hM.same (h M),fun _ _ g=>g,fun _ _ _ _ g=>g⟩
theorem Mth.trans {B:Ej}{l l1 l2:List RItem}(h:Mth B l l1)(ho:l1.filter (·.out)=l.filter (·.out))(h2:Mth B l1 l2):Mth B l l2:=fun M hM=>by
 obtain⟨M1,a1,a2,a3⟩:=h M hM;obtain⟨M2,b1,b2,b3⟩:=h2 M1 a1;exact⟨M2,b1,fun p t g=>a2 p t (b2 p t g),fun x hx aa t g=>b3 x (Ai7.1 (ho ▸ Ai7.2 ⟨hx,aa⟩:x∈l1.filter (·.out))).1 aa t (a3 x hx aa t g)⟩
theorem wQ {α:Type}{n:Nat}{o l:List α}{x:α}(h:x∈Co n o l):x∈o\/∃j,j≠n/\l[j]?=some x:=by
 unfold Co at h;obtain⟨⟨y,j⟩,hp,hx⟩:=Ah7.1 h;split at hx
 ·exact .inl hx
 ·rename_i hn;simp at hx;subst hx;exact .inr ⟨j,hn,Aj2.1 hp⟩
section
variable {N:List Tx} {ar:Tx->Nat} {l l':List RItem} (hR:RtL N ar l) {B:Ej}
include hR
theorem StA.mth (h:StA N l (some l')):Mth B l l':=by
 rcases h with⟨h,-⟩|⟨i,k,y,h,hy,ho,hk,ab,-⟩
 ·cases h
 ·cases h;have aa:=Ag1 hy;unfold Se at ab;rw[hy]at ab;simp only[Ag3]at ab;have hs:=((Abe hR aa ho k).1 ab.1).2;exact .of fun M=>Vg fun D=>Ae4 hy ho ((Y9 (hR.xr aa ho) k (hR.nm y aa).2 (hR.gl.ar y aa)).1 hs) M D
theorem StR.mth (h:StR N l (some l')):Mth B l l':=by
 rcases h with⟨h,-⟩|⟨i,y,h,hy,ho,-,hI,-⟩
 ·cases h
 ·cases h;have ac:=Ag1 hy;have aa:=hR.ru y ac ho;have hS:nZ N ar (oth l i l.length) y:=⟨fun z hz=>hR.ru z (Pn hz).1 (Pn hz).2,aa⟩;obtain⟨MM,-,hs,hi⟩:=hI;have hL:LstF ((oth l i l.length).map (Gc N)) (Ja N y) (Gc N y).head.p.toNat (Cr (Ha (Gc N y).head)):=by
   split at hi
   ·exact hs _ _ (hi.2.1 rfl)
   ·cases hi
  have hA:=(Acd hS).1 hL;refine .of fun M=>Vg fun D=>zN hy (fun D hC ν hb=>?_) D;refine Acw (R:=oth l i l.length) (fun z hz a ha t ht=>?_) (fun z hz=>⟨(Pn hz).2,(hS.ru z hz).hnt⟩) (fun a ha t ht=>?_) aa.hnt hA (M:=M) (fun z hz ab=>hC z ?_ ab) ν hb
  ·rcases ha with rfl|ha
   ·exact ((hS.ru z hz).vt t ht).1
   ·exact ((hS.ru z hz).vb a ha t ht).1
  ·rcases ha with rfl|ha
   ·exact (aa.vt t ht).1
   ·exact (aa.vb a ha t ht).1
  ·unfold oth at hz;rw[Ag7]at hz;obtain⟨j,hj,e⟩:=List.mem_eraseIdx_iff_getElem?.1 (Ai7.1 hz).1;exact Kl e hj
theorem StU.mth (hB:BOk B l)(h:StU N l (some l')):Mth B l l':=by
 obtain⟨M0,hM,⟨h,-⟩|⟨i,k,y,a,h,h1,h2,h3,h4,-⟩⟩:=h
 ·cases h
 ·cases h;exact .of fun M p t=>Af2 hR hM h1 h2 h3 h4 hB p t
theorem StL.mth (hB:BOk B l)(h:StL N l (some l')):Mth B l l':=by
 rcases h with⟨h,-⟩|⟨i,y,e,h,hy,ha,hs,-⟩
 ·cases h
 ·cases h;have ab:=Ag1 hy;have ao:=P9 (hR.wit y ab) (hR.wi y ab) ha;have aj:y.out=false:=by
   have:(ren y).out=false:=by rw[ao];rfl
   exact this
  unfold Fi at hs;cases ah:Ks l i y.head.pred with
  |nil=>rw[ah]at hs;cases hs
  |cons z r=>
   rw[ah]at hs;cases r with
   |cons _ _=>cases hs
   |nil=>
    dsimp only at hs;split at hs
    case isFalse=>cases hs
    rename_i ac;cases af:z.body with
    |nil=>rw[af]at hs;cases hs
    |cons a r=>
     rw[af]at hs;cases r with
     |cons _ _=>cases hs
     |nil=>
      cases hs;have ad:∀(w:RItem) (j:Nat),l[j]?=some w->j≠i->w.out=false->w.head.pred=y.head.pred->w=z:=fun w j hj ak au ap=>by
       have:w∈Ks l i y.head.pred:=Aib.2 ⟨(w,j),Ai7.2 ⟨Aj2.2 hj,by simp[Ob,Lg,ak,au,ap]⟩,rfl⟩;rw[ah]at this;simpa using this
      obtain⟨j,hj,ak,ai,an⟩:∃j,l[j]?=some z/\j≠i/\z.out=false/\z.head.pred=y.head.pred:=by
       have:z∈Ks l i y.head.pred:=by rw[ah];simp
       obtain⟨⟨w,j⟩,hm,rfl⟩:=Aib.1 this;obtain⟨m1,m2⟩:=Ai7.1 hm;simp only[Ob,Lg,Ag3,Ajo,decide_eq_false_iff_not,Aj3]at m2;exact⟨j,Aj2.1 m1,m2.1,m2.2.1,m2.2.2⟩
      have ae:=Ag1 hj;have am:=pP (hR.wit z ae) (hR.wi z ae) af ac;rw[an]at am;have av:a.pred≠y.head.pred:=by
       unfold Lq at ac;rw[af]at ac;simp only[Ag3,Ajo,decide_eq_false_iff_not]at ac;rw[<-an];exact ac.1
      have cz:∀M D,uI z M D↔∀u v,D a.pred (tw u v)->D y.head.pred (tw u v):=fun M D=>by
       rw[S5 (hR.xr ae ai),am];exact Acv _ _ M D
      have cy:∀M D,uI y M D↔∀u v w,D y.head.pred (tw u w)->D y.head.pred (tw w v)->D y.head.pred (tw u v):=fun M D=>by
       rw[S5 (hR.xr ab aj),ao];exact cT _ _ M D
      have hil:=(Agy.1 hy).1;refine .of fun M=>Ab5 (e:=a.pred) av (hB y ab aj) (fun D=>⟨fun hC=>⟨(cz M D).1 (hC z ae ai),(cy M D).1 (hC y ab aj),fun x hx ho _=>hC x hx ho⟩,fun⟨c1,c2,c3⟩ x hx ho=>?_⟩) fun D=>⟨fun hC=>⟨(cz M D).1 (hC z (Kl hj ak) ai),(cT y.head.pred a.pred M D).1 (hC _ (bK hil (by simp)) rfl),fun x hx ho hp=>?_⟩,fun⟨c1,c2,c3⟩ x hx ho=>?_⟩
      ·by_cases hp:x.head.pred=y.head.pred
       ·obtain⟨n,hn⟩:=Aif hx;by_cases aa:n=i
        ·subst aa;rw[hy]at hn;cases hn;exact (cy M D).2 c2
        ·rw[ad x n hn aa ho hp];exact (cz M D).2 c1
       ·exact c3 x hx ho hp
      ·obtain⟨n,hn⟩:=Aif hx;refine hC x (Kl hn fun aa=>?_) ho;subst aa;rw[hy]at hn;cases hn;exact hp rfl
      ·rcases wQ hx with hx|⟨n,aa,hn⟩
       ·have:x=Da y.head.pred a.pred:=by simpa using hx
        rw[this];exact (cT y.head.pred a.pred M D).2 c2
       ·by_cases hp:x.head.pred=y.head.pred
        ·rw[ad x n hn aa ho hp];exact (cz M D).2 c1
        ·exact c3 x (Ag1 hn) ho hp
theorem StS.mth (hB:BOk B l)(h:StS N l (some l')):Mth B l l':=by
 obtain⟨M0,ac,h⟩:=h;have hl:l'=G3 N (F8 N.length M0 N.length) l:=by
  rcases h with⟨-,h⟩|⟨-,⟨-,h⟩|⟨-,h⟩⟩
  ·cases h
  ·cases h
  ·exact Ai8 h
 have hk:∀x,x∈l'↔x∈l/\Wnt l x.head.pred:=fun x=>by
  rw[hl];unfold G3;rw[Ai7];exact⟨fun⟨h1,h2⟩=>⟨h1,(dJ hR.nm ac (hR.nm x h1).1).1 h2⟩,fun⟨h1,h2⟩=>⟨h1,(dJ hR.nm ac (hR.nm x h1).1).2 h2⟩⟩
 have hu:∀x∈l,Wnt l x.head.pred->∀a∈x.body,Wnt l a.pred:=fun x hx ⟨y,hy,ad,hw⟩ a ha=>by
  have h1:Way (D5 l) x.head.pred a.pred:=.one ⟨x,hx,rfl,a,ha,rfl⟩;refine⟨y,hy,ad,.inr ?_⟩;rcases hw with e|hw
  ·rw[e];exact h1
  ·exact hw.join h1
 intro M hM;have hb:∀p t,B p t->M p t:=fun p t g=>(hM p t).2 (LstM.base g);refine⟨fun p t=>M p t/\(Wnt l p\/B p t),fun p t=>⟨fun⟨g,hw⟩=>?_,fun g=>?_⟩,fun p t g=>g.1,fun x hx ae t g=>⟨g,.inl ⟨x,hx,ae,.inl rfl⟩⟩⟩
 ·rcases hw with hw|hw
  ·refine (hM p t).1 g (fun p t=>Wnt l p->LstM l' B _ p t) (fun p t g _=>LstM.base g) (fun x hx ho ν ab aa=>?_) hw;refine LstM.clo l' B _ x ((hk x).2 ⟨hx,aa⟩) ho ν fun a ha=>?_;have h1:=ab a ha;unfold HoL at h1⊢;by_cases e:a.nt=true
   ·rw[if_pos e]at h1⊢;exact fun g=>h1 g.1
   ·rw[if_neg e]at h1⊢;exact h1 (hu x hx aa a ha)
  ·exact LstM.base hw
 ·refine g (fun p t=>M p t/\(Wnt l p\/B p t)) (fun p t g=>⟨hb p t g,.inr g⟩) fun x hx ho ν ab=>?_;obtain⟨hx,aa⟩:=(hk x).1 hx;refine⟨(hM _ _).2 (LstM.clo l B M x hx ho ν fun a ha=>?_),.inl aa⟩;have h1:=ab a ha;unfold HoL at h1⊢;by_cases e:a.nt=true
  ·rw[if_pos e]at h1⊢;exact fun g=>h1 ⟨g,.inl (hu x hx aa a ha)⟩
  ·rw[if_neg e]at h1⊢;exact (hM _ _).1 h1.1
theorem St5.mth {c:UInt8}(hB:BOk B l)(h:St5 N c l (some l')):Mth B l l':=by
 rcases h with⟨-,h⟩|⟨-,h⟩|⟨-,h⟩|⟨-,h⟩|⟨-,h⟩
 ·exact StS.mth hR hB h
 ·exact StA.mth hR h
 ·exact StR.mth hR h
 ·exact StU.mth hR hB h
 ·exact StL.mth hR hB h
end
theorem BOk.nms {B:Ej}{l l':List RItem}(h:BOk B l)(hn:Nms l l'):BOk B l':=fun x hx ho t hb=>by
 obtain⟨y,hy,aa,e⟩:=hn.rld _ ⟨x,hx,ho,rfl⟩;rw[<-e]at hb;exact h y hy aa t hb
def tV (l:List RItem)(p:Tx):Prop:=∃a∈l.flatMap Ae,a.pred=p
theorem St5.ato {N:List Tx}{ar:Tx->Nat}{c:UInt8}{l l':List RItem}(hR:RtL N ar l)(h:St5 N c l (some l')){p:Tx}(hp:tV l' p):tV l p:=by
 obtain⟨a,ha,rfl⟩:=hp;obtain⟨z,hz,ha⟩:=Ah7.1 ha;rcases h.made hR z hz with hz|⟨aa,x,hx,ab,e,hb⟩
 ·exact⟨a,Ah7.2 ⟨z,hz,ha⟩,rfl⟩
 ·rcases Ah8.1 ha with ha|ha
  ·rw[aa]at ha;have:a=z.head:=by simpa using ha
   exact⟨x.head,Ah7.2 ⟨x,hx,Ar (.inl ⟨ab,rfl⟩)⟩,by rw[this,e]⟩
  ·obtain⟨y,hy,b,hb,e2⟩:=hb a ha;exact⟨b,Ah7.2 ⟨y,hy,Ar (.inr hb)⟩,e2⟩
theorem Ab4 {N:List Tx}{ar:Tx->Nat}{ps:Tx}{b m m':Int}{l l2:List RItem}(hB:Bhd N ar l l)(hs:GPss (St5 N) b l m ps l2 m')(hp:∀c∈ps,Ov (St5 N c) N ar c){B:Ej}(hb:BOk B l):Mth B l l2/\∀p,tV l2 p->tV l p:=by
 induction hs with
 |nil=>exact⟨.of fun _ _ _=>Iff.rfl,fun _ h=>h⟩
 |snoc h1 h2 ih=>
  rename_i ps c la lb m1 m2;have aa:=hp c (by simp);have ih:=ih fun c hc=>hp c (by simp[hc]);have ac:=hB.pss h1 fun c hc=>hp c (by simp[hc]);have ab:=(Nms.refl l).pss hB h1 fun c hc=>hp c (by simp[hc]);have key:∀l3 m3,GChg (St5 N c) b la m1 l3 m3->Nms l l3/\Bhd N ar l l3/\Mth B l l3/\∀p,tV l3 p->tV l p:=fun l3 m3 h=>by
   induction h with
   |refl=>exact⟨ab,ac,ih⟩
   |snoc _ _ hs ih2=>exact⟨ih2.1.step ih2.2.1.rt hs aa,ih2.2.1.step hs aa,ih2.2.2.1.trans ih2.2.1.out (St5.mth ih2.2.1.rt (hb.nms ih2.1) hs),fun p h=>ih2.2.2.2 p (St5.ato ih2.2.1.rt hs h)⟩
  exact (key _ _ h2.1).2.2
def Acn (F:List RAtom):Ej:=fun p t=>∃a∈F,a.pred=p/\t=Cr (B9 [] a)
theorem yW {N:List Tx}{F:List RAtom}{M:MM}(hN:∀a∈F,a.pred∈N)(hM:MkM N.length (F.map (B9 N)) M):nmS N (MD M)=Acn F:=by
 funext p t;refine propext ⟨?_,?_⟩
 ·rintro⟨hp,h⟩;obtain⟨b,hb,e1,e2⟩:=(hM.mem _ t).1 h;obtain⟨a,ha,rfl⟩:=Aib.1 hb;have e3:N.idxOf a.pred=N.idxOf p:=by simp only[B9]at e1;omega
  exact⟨a,ha,C1 (hN a ha) hp e3,e2⟩
 ·rintro⟨a,ha,rfl,rfl⟩;exact⟨hN a ha,(hM.mem _ _).2 ⟨B9 N a,Aib.2 ⟨a,ha,rfl⟩,rfl,rfl⟩⟩
theorem yX {N:List Tx}{F:List RAtom}{M:MM}(hN:∀a∈F,a.pred∈N)(hM:MkM N.length (F.map (B9 N)) M)(k:Nat)(t:Bb)(h:MD M k t):∃p∈N,k=N.idxOf p:=by
 obtain⟨b,hb,e1,-⟩:=(hM.mem _ t).1 h;obtain⟨a,ha,rfl⟩:=Aib.1 hb;exact⟨a.pred,hN a ha,by simp only[B9]at e1;omega⟩
theorem Adr {N:List Tx}{l:List RItem}(hN:∀x∈l,x.head.pred∈N/\∀a∈x.body,a.pred∈N){B:Ct}(hB:∀k t,B k t->∃p∈N,k=N.idxOf p):∀s k t,PMi N l B s k t->∃p∈N,k=N.idxOf p
 |0,k,t,g=>hB k t g
 |s+1,k,t,g=>LstG.least (Adr hN hB s) (fun r hr ν _=>by
  obtain⟨x,hx,rfl⟩:=Aib.1 hr
  exact⟨x.head.pred,(hN x (Uo hx).1).1,rfl⟩) g
theorem pK {T T2:Tx->List Bb}:∀(L:List RItem) (acc:Tx×List Tx),(∀x∈L,T x.head.pred=T2 x.head.pred)->L.foldl (R6 T) acc=(L.map ren).foldl (R6 T2) acc
 |[],_,_=>rfl
 |x::L,acc,h=>by
  rw[Ahj,Ag6,Ag6];have:R6 T acc x=R6 T2 acc (ren x):=by
   unfold R6;rw[h x (by simp)];rfl
  rw[this];exact pK L _ fun y hy=>h y (by simp[hy])
theorem wK {l l':List RItem}{F:List RAtom}{n:Int}{x x':Tx}{k k' e':Int}(hr:Rgt l)(aj:Rgt (l'.map ren))(hu:∀x∈l,x.out=false->∀a,a=x.head\/a∈x.body->∀t∈a.terms,UT t)(ao:∀x∈l'.map ren,x.out=false->∀a,a=x.head\/a∈x.body->∀t∈a.terms,UT t)(hX:∀x∈l',x.out=false->XR x)
  (ho:l'.filter (·.out)=l.filter (·.out)) (hm:Mth (Acn F) l l') (hR:kE l F n x k 0) (hR2:kE (l'.map ren) F n x' k' e'):e'=0/\x'=x/\k'<=k:=by
 obtain⟨N,M,M1,d,n1,n2,hM,t3,hI,hR⟩:=hR;obtain⟨N2,M2,M12,d2,n12,n22,ab,t32,ah,hR2⟩:=hR2;have hB:=yX n2 hM;have am:=yX n22 ab;have s1:=wZ hr n1 hu hB;rw[yW n2 hM]at s1;have s2:=wZ aj n12 ao am;rw[yW n22 ab]at s2;obtain⟨M',a1,a2,a3⟩:=hm _ s1;have a1:Stb (l'.map ren) (Acn F) M':=a1.same fun p t=>Vg (fun D=>Clo.ren hX M' D) p t;have hq:=fun p t=>Stb.uniq aj s2 a1 p t;have q1:tot M<=tot M2:=nK hM.nd (fun k t g=>xY (l:=l) (l':=l'.map ren) ⟨n1,n2⟩ ⟨n12,n22⟩ (fun a=>Iff.rfl) hM ab g);have q2:tot M2<=tot M:=nK ab.nd (fun k t g=>xY (l:=l'.map ren) (l':=l) ⟨n12,n22⟩ ⟨n1,n2⟩ (fun a=>Iff.rfl) ab hM g);obtain⟨hl,hd,hI⟩:=hI;obtain⟨av,aw,ah⟩:=ah;rcases hI with⟨hb,af,ap⟩|⟨hb,-⟩
 case inr=>
  rw[if_pos hb]at hR;exact absurd hR.2.2 (by decide)
 rw[if_neg hb]at hR;obtain⟨rfl,rfl,-,-⟩:=hR;have cnt:∀M3:MM,(∀x∈M3,x.2.Nodup)->(∀k t,MD M3 k t->PMi N2 (l'.map ren) (MD M2) ((l'.map ren).length+1) k t)->tot M3<=tot M1:=fun M3 hn h3=>nK (N:=N2) (N':=N) hn fun k t g=>by
  have g:=h3 k t g;obtain⟨p,hp,rfl⟩:=Adr n12 am _ _ _ g;obtain⟨h1,h2⟩:=a2 p t ((hq p t).1 ⟨hp,g⟩);exact⟨p,hp,h1,rfl,(af _ _).2 h2⟩
 rcases ah with⟨ak,ae,aa⟩|⟨ak,M3,-,ad,-,au,ax⟩
 ·rw[if_neg ak]at hR2;obtain⟨rfl,rfl,rfl,-⟩:=hR2;have:=cnt M12 aa fun k t g=>(ae k t).1 g;refine⟨rfl,?_,Aj6⟩;have e1:O7 N (fun j=>Gx (Ax M1 (j:Int))) l=vU (fun p=>Gx (Ax M1 ((N.idxOf p:Nat):Int))) l:=O8 (N:=N) [] [] (fun y hy=>⟨(n1 y hy).1,rfl⟩) (by simp);have e2:O7 N2 (fun j=>Gx (Ax M12 (j:Int))) (l'.map ren)=vU (fun p=>Gx (Ax M12 ((N2.idxOf p:Nat):Int))) (l'.map ren):=O8 (N:=N2) [] [] (fun y hy=>⟨(n12 y hy).1,rfl⟩) (by simp);rw[e1,e2];unfold vU;rw[Ug,Ug _ l,Vo,ho];rw[pK (l.filter (·.out)) ([],[]) fun x hx=>?_];obtain⟨ai,an⟩:=Ai7.1 hx;have ac:x∈l':=(Ai7.1 (ho ▸ hx:x∈l'.filter (·.out))).1;refine rW (Afu ap _) (Afu aa _) (Aft t3 _) (Aft t32 _) fun t=>⟨fun g=>?_,fun g=>?_⟩
  ·exact (ae _ _).2 ((hq _ t).2 (a3 x ai an t ⟨(n1 x ai).1,(af _ _).1 g⟩)).2
  ·exact (af _ _).2 (a2 _ t ((hq _ t).1 ⟨(n12 _ (Aib.2 ⟨x,ac,rfl⟩)).1,(ae _ _).1 g⟩)).2
 ·have:=cnt M3 ad au;omega
theorem Aee {t f x:Tx}{n k e:Int}(hR:K5 t f n x k e)(h0:e≠0):x=[]/\k=0:=by
 rcases wL hR with⟨-,-,h1,h2⟩|⟨l0,F,hK,N,M,M1,d,-,-,-,-,-,aa⟩
 ·exact⟨h1,h2⟩
 ·split at aa
  ·exact⟨aa.1,aa.2.1⟩
  ·exact absurd aa.2.2.1 h0
structure OcA (t T:Tx):Prop where
 lt:t.length<=600
 lT:T.length<=600
 few:(Jo t).length<=16/\(Jo T).length<=16
 sh:∀p∈Jo T,p.length<=100000
 sht:∀p∈Jo t,p.length<=100000
 out:Gy (Jo T)=Gy (Jo t)
 run:∀{f x x':Tx} {n k k' e':Int},K5 t f n x k 0->K5 T f n x' k' e'->e'=0/\x'=x/\k'<=k
theorem sN {t ps:Tx}{b:Int}{r:Tx×Int×Int}(h:G4 St5 t ps b r):(r.1=[]/\r.2.1=0/\r.2.2≠0/\r.2.2=if (As t).1≠0 then (As t).1 else if Ca ps=false then 11 else 6)/\((As t).1≠0\/Ca ps=false\/b<0)\/((As t).1=0/\Ca ps=true/\0<=b/\r.2.2=0/\OcA t r.1):=by
 unfold G4 at h;split at h
 ·rename_i he;exact .inl ⟨by rw[h];exact⟨rfl,rfl,he,by rw[if_pos he]⟩,.inl he⟩
 rename_i he;split at h
 ·rename_i hp;exact .inl ⟨by rw[h];exact⟨rfl,rfl,by decide,by rw[if_neg he,if_pos hp]⟩,.inr (.inl hp)⟩
 rename_i hp;split at h
 ·rename_i hb;exact .inl ⟨by rw[h];exact⟨rfl,rfl,by decide,by rw[if_neg he,if_neg hp]⟩,.inr (.inr hb)⟩
 rename_i hb;obtain⟨N,l0,cs,ar,l',m,aa,hA,ac,hP,rfl⟩:=h;have hp:Ca ps=true:=by simpa using hp
 refine .inr ⟨Classical.not_not.1 he,hp,Aj6,rfl,?_⟩;have af:=aa.rt hA;have ht:t=Bu l0:=(Ex _ _ _ _ aa.parse).1;have ak:H8 l0=true:=by
  unfold H8;simp only[Ag3,Aj3,Ag0];exact⟨aa.bk.len,af.b5,by rw[<-ht];exact aa.len⟩
 have au:Bhd N ar l0 l0:=⟨af,ak,fO aa,rfl⟩;have ai:=ps5 hp N ar;have hB:=au.pss hP ai;have hN:=(Nms.refl l0).pss au hP ai;have ao:=Mt _ _ _ _ aa.parse;have a3:∀x∈l',GIt x:=Af8 ac fun x hx=>by
  have key:∀q,gW l' q->GNm q:=fun q hq=>by
   obtain⟨y,hy,h⟩:=hN.nmd q hq;rcases h with rfl|⟨a,ha,rfl⟩
   ·exact (ao y hy).nm
   ·cases ho:y.out with
    |true=>rw[((ao y hy).out ho).2.2]at ha;cases ha
    |false=>exact (((ao y hy).rule ho).2.2.2 a ha).nm
  exact⟨key _ ⟨x,hx,.inl rfl⟩,fun a ha=>key _ ⟨x,hx,.inr ⟨a,ha,rfl⟩⟩⟩
 obtain⟨ap,an⟩:=Ae7 ac hB.wr hB.lim a3;have ax:(As (Cj l')).1=0:=by rw[ap]
 obtain⟨am,l2,r2,ad⟩:=Rk ax;have az:r2=[]:=(Ex _ _ _ _ ad).2.1;subst az;have a0:l2=l'.map ren:=by rw[<-an];exact (Iu Aj6 ad).2.1.symm
 have hu:=Sr ac.wit;have av:∀y∈l'.map ren,Ck y:=fun y hy=>by
  obtain⟨z,hz,rfl⟩:=Aib.1 hy;exact Mp (ac.wit z hz) (ac.wi z hz)
 have ah:Jo t=l0.map dD:=by rw[ht];exact Zk aa.wit
 have aj:Jo (Cj l')=(l'.map ren).map dD:=by rw[hu];exact Zk av
 have aw:∀l:List RItem,(Bu l).length<=600->∀p∈l.map dD,p.length<=100000:=fun l hl p hp=>by
  obtain⟨y,hy,rfl⟩:=Aib.1 hp;have:=gE l y hy;omega
 subst a0;refine⟨aa.len,am,⟨by rw[ah,Ai1];exact aa.bk.len,by simp only;rw[aj];simpa using ac.gl.len⟩,by simp only;rw[aj];exact aw _ (by rw[<-hu];exact am),by rw[ah];exact aw _ (by rw[<-ht];exact aa.len),?_,fun {f x x' n k k' e'} hR hR2=>?_⟩
 ·simp only;rw[aj,ah,U8 av,U8 aa.wit,Vo,Rr fun x hx=>by simpa using (Ai7.1 hx).2,hB.out]
 rcases wL hR with⟨h0,-⟩|⟨l1,F,hK,a7⟩
 ·exact absurd rfl h0
 have hl:l1=l0:=by
  have:=hK.par;rw[aa.parse]at this;cases this;rfl
 subst hl;have hb:BOk (Acn F) l1:=fun x hx ho t ⟨a,ha,e,_⟩=>by
  have:=lK hK a ha;unfold bJ at this;have:=Aim.1 this x hx;simp[ho,e]at this
 obtain⟨hm,a6⟩:=Ab4 au hP ai hb;have a5:=Abp hK;have a4:Hp (l'.map ren) f=0:=by
  unfold Hp;rw[hK.fac];have h1:L2 ((l'.map ren).flatMap Ae) F=false:=by
   refine xO (zK (f:=fun p=>if Fv (l1.flatMap Ae++F) p=0 then 1 else Fv (l1.flatMap Ae++F) p) (fun p=>by split<;>omega) fun a ha=>?_);have key:∀b∈l1.flatMap Ae++F,b.terms.length=if Fv (l1.flatMap Ae++F) b.pred=0 then 1 else Fv (l1.flatMap Ae++F) b.pred:=fun b hb=>by
    have:=a5 b hb;rw[if_neg Aj6];exact this.2
   rcases Ah8.1 ha with ha|ha
   ·obtain⟨y,hy,ha⟩:=Ah7.1 ha;obtain⟨z,hz,rfl⟩:=Aib.1 hy;have:∃c∈Ae z,a.pred=c.pred/\a.terms.length=c.terms.length:=by
     unfold Ae at ha⊢;rcases Ah8.1 ha with ha|ha
     ·cases ab:z.out with
      |true=>rw[show (ren z).out=true from ab]at ha;simp at ha
      |false=>
       rw[show (ren z).out=false from ab]at ha;have:a=(ren z).head:=by simpa using ha
       exact⟨z.head,by simp,by rw[this];rfl,by rw[this];simp[ren,Cs]⟩
     ·obtain⟨c,hc,rfl⟩:=Aib.1 ha;exact⟨c,Ajy _ hc,rfl,by simp[Cs]⟩
    obtain⟨c,hc,e1,e2⟩:=this;obtain⟨b,hb,e3⟩:=a6 c.pred ⟨c,Ah7.2 ⟨z,hz,hc⟩,rfl⟩;have ae:∀{l:List RItem},RtL N ar l->∀{c:RAtom},c∈l.flatMap Ae->c.terms.length=ar c.pred:=fun {l} hR {c} hc=>by
     obtain⟨z,hz,hc⟩:=Ah7.1 hc;unfold Ae at hc;cases ab:z.out with
     |true=>
      rw[ab,(hR.gl.msr z hz).out ab]at hc;simp at hc
     |false=>
      rw[ab]at hc;refine (hR.uta hz ab (b:=c) ?_).2.1;simpa using hc
    rw[e1,e2,ae ac (Ah7.2 ⟨z,hz,hc⟩),<-e3,<-ae af hb];exact key b (Ajx _ hb)
   ·exact key a (Ajy _ ha)
  have h2:F.any (fun a=>bJ (l'.map ren) a.pred)=false:=by
   rw[Aim];intro a ha;rw[Bool.not_eq_true];unfold bJ;rw[Aim];intro y hy;obtain⟨z,hz,rfl⟩:=Aib.1 hy;simp only[Ag3,Ajo,Aj3,not_and];intro ab e;exact hb.nms hN z hz ab _ ⟨a,ha,e.symm,rfl⟩
  simp only[h1,h2,Ahv,if_false]
 have ay:oA (Cj l') f n (l'.map ren) F:=⟨am,hK.fl,ax,hK.n0,hK.n1,ad,hK.fac,a4⟩;refine wK (wS hK) (wS ay) (fun x hx ho a ha=>(af.uta hx ho ha).2.2.2) (fun y hy ho a ha t ht=>?_) (fun x hx ho=>ac.xr hx ho) hB.out hm a7 (Aef ay hR2);obtain⟨z,hz,rfl⟩:=Aib.1 hy;have hX:=ac.xr hz ho;rcases ha with rfl|ha
 ·obtain⟨w,hw,rfl⟩:=Aib.1 ht;exact hX.ut (Ar (.inl ⟨hX.out,rfl⟩)) hw
 ·obtain⟨c,hc,rfl⟩:=Aib.1 ha;obtain⟨w,hw,rfl⟩:=Aib.1 ht;exact hX.ut (Ar (.inr hc)) hw
theorem Same_spec (t ps:Tx)(b:Int)(f:Tx)(n:Int)(h0: -9223372036854775808<=b)(h1:b<=9223372036854775807)(h2: -9223372036854775808<=n)(h3:n<=9223372036854775807)(σ:St):ACalls Tryz.prog 7 [str t,str ps,sc (.int .i64 b),str f,sc (.int .i64 n)] σ fun r σ'=>r=sc (.bool true)/\Keep σ σ':=by
 have a8:=fun σ=>iN σ;have a4:=fun σ=>mM σ;have a3:=fun σ=>Mw t ps b h1 σ;have ai:=fun σ=>W4 t ps b σ;refine Z9 97 [.tmp 10] Tryz.func7 ?_
 repeat' (first|refine Z1 ?_|(refine Z8 ?_;intro yb ya)|(refine Z4 ?_;clear ya yb)|(refine Z5 ?_;first|(refine Xi (a8 _) ?_;rintro _ _ ⟨rfl,av⟩;(have am:=av.nobj))|(refine Xi (a4 _) ?_;rintro _ _ ⟨rfl,au⟩;(have ak:=au.nobj)))|refine Z3 ?_|exact Zt)
 rename_i σ2;refine ACalls.mono (a3 _) ?_;rintro _ σ3 ⟨⟨T,m,e⟩,rfl,hp,ab⟩;have aa:=(av.trans au).trans ab;have ad:=aa.nobj;clear a8 a4 a3 av au ab am ak;rcases sN hp with⟨⟨ay,ah,ao,an⟩,ax⟩|⟨he,aw,hb,ah,hA⟩
 ·simp only at ay ah ao an;have af:Zd t ps b=e:=by
   rw[an];unfold Zd;by_cases h1:(As t).1≠0
   ·rw[if_pos h1,if_pos h1]
   ·rw[if_neg h1,if_neg h1];cases h2:Ca ps with
    |false=>rfl
    |true=>
     have hb:b<0:=by
      rcases ax with h|h|h
      ·exact absurd h h1
      ·rw[h2]at h;cases h
      ·exact h
     simp[hb]
  rw[af]at ai;have bb:(e !=0)=true:=by simpa using ao
  have bf:(e !=e)=false:=by simp
  have ba:(([]:Tx)==[])=true:=rfl;have bc:({data:=#[]}:ByteArray)=bs []:=rfl;clear hp ax an ao af;subst ay;subst ah;refine Z3 ?_
  repeat' (first|refine Z1 ?_|(refine Z8 ?_;intro yb ya)|(refine Z4 ?_;clear ya yb)|(refine Z2 ?_ ?_<;>intro h ac<;>try exact Xp)|(refine Z5 ?_;refine Xi (ai _) ?_;rintro _ _ ⟨rfl,ab⟩;(have a5:=aa.trans ab;have a9:=ab.nobj))|refine Z3 ?_|exact Zt|(apply ya.out;clear ya yb))
  first|exact⟨_,rfl,rfl,a5⟩|exact⟨_,rfl,rfl⟩|exact⟨_,rfl,a5⟩
 ·simp only at ah hA;subst ah;have af:Zd t ps b=0:=by
   unfold Zd;rw[if_neg (by simp[he]),if_neg (by simp[aw]),if_neg Aj6]
  rw[af]at ai;have bd:=hA.lt;have be:=hA.lT;have ap:=fun σ=>Ns T Aj6 (by have:=hA.few;omega) hA.sh σ;have a0:=fun σ=>Ns t Aj6 (by have:=hA.few;omega) hA.sht σ;rw[hA.out]at ap;have HS:Akc (∀{x x':Tx} {k k' e':Int},K5 t f n x k 0->K5 T f n x' k' e'->e'=0/\x'=x/\k'<=k):=hA.run;clear hp he aw hA af;generalize Gy (Jo t)=oo at*
  have b1:(((0:Int)) !=0)=false:=rfl;have b5:(oo !=oo)=false:=by simp
  refine Z3 ?_
  repeat' (first|refine Z1 ?_|(refine Z8 ?_;intro yb ya)|(refine Z4 ?_;clear ya yb)|(refine Z2 ?_ ?_<;>intro h ac<;>try exact Xp)|(refine Z5 ?_;first|(refine Xi (ai _) ?_;rintro _ _ ⟨rfl,ab⟩;(have aa:=aa.trans ab;have ad:=aa.nobj;clear ab))|(refine Xi (ap _) ?_;rintro _ _ ⟨rfl,ab⟩;(have aa:=aa.trans ab;have ad:=aa.nobj;clear ab))|(refine Xi (a0 _) ?_;rintro _ _ ⟨rfl,ab⟩;(have aa:=aa.trans ab;have ad:=aa.nobj;clear ab)))|refine Z3 ?_|exact Zt)
  refine ACalls.mono (fJ t f n _) ?_;rintro _ σ4 ⟨x,k,e,rfl,aj,a7⟩;have aa:=aa.trans a7;have ad:=aa.nobj;clear a7 ai ap a0;by_cases h0:e=0
  ·subst h0;refine Z3 ?_
   repeat' (first|refine Z1 ?_|(refine Z8 ?_;intro yb ya)|(refine Z4 ?_;clear ya yb)|(refine Z2 ?_ ?_<;>intro h ac<;>try exact Xp)|refine Z3 ?_|exact Zt)
   refine ACalls.mono (fJ T f n _) ?_;rintro _ σ5 ⟨x',k',e',rfl,ae,a6⟩;obtain⟨rfl,rfl,az⟩:=HS.out aj ae;have aa:=aa.trans a6;have ad:=aa.nobj;have b6:decide (k'<=k)=true:=by simpa using az
   have b7:(x'==x')=true:=by simp
   have b8:((0:Int)==0)=true:=rfl;clear a6 az aj ae;refine Z3 ?_
   repeat' (first|refine Z1 ?_|(refine Z8 ?_;intro yb ya)|(refine Z4 ?_;clear ya yb)|refine Z3 ?_|exact Zt|(apply ya.out;clear ya yb))
   first|exact⟨_,rfl,rfl,aa⟩|exact⟨_,rfl,rfl⟩|exact⟨_,rfl,aa⟩
  ·obtain⟨rfl,rfl⟩:=Aee aj h0;have bb:(e !=0)=true:=by simpa using h0
   have ba:(([]:Tx)==[])=true:=rfl;have bc:({data:=#[]}:ByteArray)=bs []:=rfl;clear aj;refine Z3 ?_
   repeat' (first|refine Z1 ?_|(refine Z8 ?_;intro yb ya)|(refine Z4 ?_;clear ya yb)|(refine Z2 ?_ ?_<;>intro h ac<;>try exact Xp)|refine Z3 ?_|exact Zt|(apply ya.out;clear ya yb))
   first|exact⟨_,rfl,rfl,aa⟩|exact⟨_,rfl,rfl⟩|exact⟨_,rfl,aa⟩
end Go.Proofs.YtmoeoppbmhfbpabGreatDoorL
