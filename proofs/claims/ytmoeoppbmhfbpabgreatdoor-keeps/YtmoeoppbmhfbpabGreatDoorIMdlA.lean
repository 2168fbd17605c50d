import Derived.Test.YtmoeoppbmhfbpabGreatDoorIOpuB
import Derived.Test.YtmoeoppbmhfbpabGreatDoorIPckA
set_option maxHeartbeats 16000000
set_option maxRecDepth 100000
set_option linter.all false
open List renaming length->Z
namespace Go.Proofs.YtmoeoppbmhfbpabGreatDoorI
open Go.Abs
abbrev D5:=Tx->Cc->Prop
def Kn (ν:Tx->Int)(t:Tx):Int:=if Ac t=true then ν t else (Ap t).2
def Ja (ν:Tx->Int)(a:AC):Cc:=C4 (a.A.map (Kn ν))
def Do (M D:D5)(ν:Tx->Int)(a:AC):Prop:=if a.nt=true then¬M a.B (Ja ν a)else D a.B (Ja ν a)
def GI (l:List AB)(M D:D5):Prop:=∀x∈l,x.o=false->∀ν,(∀a∈x.A,Do M D ν a)->D x.h.B (Ja ν x.h)
def AZ (l:List AB)(B M:D5):D5:=fun p t=>∀D:D5,(∀p t,B p t->D p t)->GI l M D->D p t
def GB (l:List AB)(B M:D5):Prop:=∀p t,M p t↔AZ l B M p t
theorem Do.mono {M D D' ν a}(h:Do M D ν a)(hD:∀p t,D p t->D' p t):Do M D' ν a:=by
 unfold Do at h⊢;split
 ·rename_i e;rw[if_pos e]at h;exact h
 ·rename_i e;rw[if_neg e]at h;exact hD _ _ h
theorem AZ.base {l B M p t}(h:B p t):AZ l B M p t:=fun D hB _=>hB p t h
theorem AZ.clo (l B M):GI l M (AZ l B M):=fun x hx ho ν h D hB hC=>hC x hx ho ν fun a ha=>(h a ha).mono fun p t g=>g D hB hC
theorem AZ.inv {l B M p t}(h:AZ l B M p t):B p t\/∃x∈l,x.o=false/\∃ν,(∀a∈x.A,Do M (AZ l B M) ν a)/\p=x.h.B/\t=Ja ν x.h:=by
 have:=h (fun p t=>AZ l B M p t/\(B p t\/∃x∈l,x.o=false/\∃ν,(∀a∈x.A,Do M (AZ l B M) ν a)/\p=x.h.B/\t=Ja ν x.h)) (fun p t g=>⟨AZ.base g,.inl g⟩) fun x hx ho ν hb=>by
  have aa:∀a∈x.A,Do M (AZ l B M) ν a:=fun a ha=>(hb a ha).mono fun p t g=>g.1;exact⟨AZ.clo l B M x hx ho ν aa,.inr ⟨x,hx,ho,ν,aa,rfl,rfl⟩⟩
 exact this.2
theorem Yb {l l' B M}(h:∀D,GI l M D↔GI l' M D)(p t):AZ l B M p t↔AZ l' B M p t:=⟨fun g D hB hC=>g D hB ((h D).2 hC),fun g D hB hC=>g D hB ((h D).1 hC)⟩
theorem GB.same {l l' B M}(hS:GB l B M)(h:∀p t,AZ l B M p t↔AZ l' B M p t):GB l' B M:=fun p t=>(hS p t).trans (h p t)
theorem fI {α:Type}{n}{o l:List α}{z}(hn:n<Z l)(hz:z∈o):z∈C7 n o l:=
 DR.2 ⟨(l[n],n),ON.2 (AJ hn),by rw[if_pos rfl];exact hz⟩
theorem Lk {α:Type}{n j}{o l:List α}{x}(hx:l[j]?=some x)(hj:j≠n):x∈C7 n o l:=
 DR.2 ⟨(x,j),ON.2 hx,by rw[if_neg hj];simp⟩
theorem ZH {α:Type}{n}{o l:List α}{x y}(hx:x∈l)(hy:l[n]?=some y)(aa:x≠y):x∈C7 n o l:=by
 obtain⟨j,hj⟩:=CO hx;refine Lk hj fun e=>aa ?_;subst e;rw[hj]at hy;exact IA hy
theorem iv {θ a b}(h:gB θ a b)(ν):Ja (fun t=>Kn ν (θ t)) a=Ja ν b:=by
 unfold Ja;rw[<-h.2.2,BS];congr 1;refine CK fun t _=>?_;simp only[Function.comp,Kn,oS];by_cases hv:Ac t=true<;>simp[hv]
theorem XP {l i k y}(hy:l[i]?=some y)(ho:y.o=false)(hs:Tk y k)(M D):GI l M D↔GI (C7 i [F7 y k] l) M D:=by
 have ab:=BD hy;constructor
 ·intro h x hx aa ν hb;rcases Ee hx with hx|hx
  ·exact h x hx aa ν hb
  ·have e:x=F7 y k:=by simpa using hx
   subst e;obtain⟨θ,h1,h2⟩:=hs;have:=h y ab ho (fun t=>Kn ν (θ t)) fun a ha=>by
    obtain⟨b,ac,hl⟩:=h2 a ha;have:=hb b ac;unfold Do at this⊢;rw[iv hl,hl.1,hl.2.1];exact this
   have e2:Ja (fun t=>Kn ν (θ t)) y.h=Ja ν y.h:=by
    unfold Ja;congr 1;refine CK fun t ht=>?_;unfold Kn;cases hv:Ac t with
    |false=>rfl
    |true=>simp only[if_true];rw[h1 t ht hv,hv];rfl
   rw[e2]at this;exact this
 ·intro h x hx aa ν hb;by_cases e:x=y
  ·subst e;exact h (F7 x k) (fI (BG.1 hy).1 (by simp)) rfl ν fun a ha=>hb a (FY ha)
  ·exact h x (ZH hx hy e) aa ν hb
def dT (ν:Tx->Int):Tx->Int
 |35::v=>ν v
 |u=>(Ap u).2
def NB (ν:Tx->Int)(a:AC):Cc:=C4 (a.A.map (dT ν))
theorem UN (ν){t}(h:VT t)(hv:Ac t=false):dT ν t=(Ap t).2:=by
 rcases h with⟨b,rfl,hb⟩|⟨aa,hd⟩
 ·have:Ac [b]=true:=hb;rw[this]at hv;cases hv
 ·obtain⟨b,r,rfl⟩:=List.exists_cons_of_ne_nil aa;have hb:=hd b (by simp);unfold dT;split
  ·rename_i v e;have e2:=(List.cons.inj e).1;rw[e2]at hb;exact absurd hb (by decide)
  ·rfl
theorem XH (ν){t}(h:VT t):dT ν (aB t)=Kn ν t:=by
 unfold aB Kn;cases hv:Ac t with
 |true=>rfl
 |false=>
  simp only[ER,if_false];exact UN ν h hv
theorem WH {R}{y:AB}(ad:∀z∈R,∀a,a=z.h\/a∈z.A->∀t∈a.A,VT t)(ab:∀z∈R,z.o=false/\z.h.nt=false)(ac:∀a,a=y.h\/a∈y.A->∀t∈a.A,VT t)(ae:y.h.nt=false)(h:LA R (y.A.map Rp) (Rp y.h)){M D}(hC:GI R M D)(ν)(hb:∀a∈y.A,Do M D ν a):D y.h.B (Ja ν y.h):=by
 have hf:∀a,(a=y.h\/a∈y.A)->NB ν (Rp a)=Ja ν a:=fun a ha=>by
  unfold NB Ja Rp;simp only[BS];congr 1;exact CK fun t ht=>XH ν (ac a ha t ht)
 have hS:=h (fun a=>if a.nt=true then¬M a.B (NB ν a)else D a.B (NB ν a)) ⟨fun a ha=>?_,fun z hz μ af=>?_⟩
 ·rw[if_neg (by simp[Rp,ae]),hf _ (.inl rfl)]at hS;exact hS
 ·obtain⟨b,aa,rfl⟩:=AO.1 ha;have:=hb b aa;unfold Do at this;rw[hf b (.inr aa)];exact this
 ·have hm:∀a,(a=z.h\/a∈z.A)->NB ν (Gy μ a)=Ja (fun t=>dT ν (μ t)) a:=fun a ha=>by
   unfold NB Ja Gy;simp only[BS];congr 1;refine CK fun t ht=>?_;simp only[Function.comp,Kq,Kn];by_cases hv:Ac t=true
   ·simp[hv]
   ·simp only[hv,if_false];exact UN ν (ad z hz a ha t ht) (by simpa using hv)
  have:=hC z hz (ab z hz).1 (fun t=>dT ν (μ t)) fun b aa=>by
   have:=af b aa;dsimp only at this;rw[hm b (.inr aa)]at this;exact this
  dsimp only;rw[if_neg (by simp[Gy,(ab z hz).2]),hm _ (.inl rfl)];exact this
theorem YW {l i y}(hy:l[i]?=some y){M}(h:∀D,GI (C7 i [] l) M D->∀ν,(∀a∈y.A,Do M D ν a)->D y.h.B (Ja ν y.h))(D):GI l M D↔GI (C7 i [] l) M D:=by
 constructor
 ·intro hC x hx;rcases Ee hx with hx|hx
  ·exact hC x hx
  ·cases hx
 ·intro hC x hx ho ν hb;obtain⟨j,hj⟩:=CO hx;by_cases e:j=i
  ·subst e;rw[hj]at hy;cases hy;exact h D hC ν hb
  ·exact hC x (Lk hj e) ho ν hb
def IV (x:AB)(M D:D5):Prop:=∀ν,(∀a∈x.A,Do M D ν a)->D x.h.B (Ja ν x.h)
theorem TB {x}(hX:XR x)(ν){a}(ha:a∈Af x):Ja ν (C8 (Ba x) a)=Ja (fun t=>Kn ν (Ev (Ba x) t)) a:=by
 unfold Ja C8;simp only[BS];congr 1;refine CK fun t ht=>?_;simp only[Function.comp];have hv:Ac (Ev (Ba x) t)=Ac t:=Ke fun hv=>hX.rng ha ht hv;by_cases aa:Ac t=true
 ·rw[show Kn (fun t=>Kn ν (Ev (Ba x) t)) t=Kn ν (Ev (Ba x) t)by unfold Kn;rw[if_pos aa]]
 ·have aa:Ac t=false:=by simpa using aa
  rw[pO aa];unfold Kn;rw[aa];rfl
theorem uD {x}(hX:XR x)(ν){a}(ha:a∈Af x):Ja (fun w=>ν (oG (Ba x) w)) (C8 (Ba x) a)=Ja ν a:=by
 unfold Ja C8;simp only[BS];congr 1;refine CK fun t ht=>?_;simp only[Function.comp,Kn];have hv:Ac (Ev (Ba x) t)=Ac t:=Ke fun hv=>hX.rng ha ht hv;rw[hv];by_cases aa:Ac t=true
 ·rw[if_pos aa,if_pos aa,hX.back ha ht aa]
 ·have ab:Ac t=false:=by simpa using aa
  rw[if_neg aa,if_neg aa,pO ab]
theorem U2 {x}(hX:XR x)(M D):IV x M D↔IV (ren x) M D:=by
 have hh:=Ar (x:=x) (.inl ⟨hX.o,rfl⟩);constructor
 ·intro h ν hb;have:=h (fun t=>Kn ν (Ev (Ba x) t)) fun a ha=>by
   have:=hb (C8 (Ba x) a) (AO.2 ⟨a,ha,rfl⟩);unfold Do at this⊢;rw[TB hX ν (Ar (.inr ha))]at this;exact this
  show D x.h.B (Ja ν (C8 (Ba x) x.h));rw[TB hX ν hh];exact this
 ·intro h ν hb;have:=h (fun w=>ν (oG (Ba x) w)) fun a ha=>by
   obtain⟨b,aa,rfl⟩:=AO.1 ha;have:=hb b aa;unfold Do at this⊢;rw[uD hX ν (Ar (.inr aa))];exact this
  have e:Ja (fun w=>ν (oG (Ba x) w)) (ren x).h=Ja ν x.h:=uD hX ν hh;rw[e]at this;exact this
theorem GI.ren {l}(hX:∀x∈l,x.o=false->XR x)(M D):GI l M D↔GI (l.map YtmoeoppbmhfbpabGreatDoorI.ren) M D:=by
 constructor
 ·intro h y hy ho;obtain⟨x,hx,rfl⟩:=AO.1 hy;exact (U2 (hX x hx ho) M D).1 (h x hx ho)
 ·intro h x hx ho;exact (U2 (hX x hx ho) M D).2 (h _ (AO.2 ⟨x,hx,rfl⟩) ho)
def tw (a b:Int):Cc:=C4 [a,b]
theorem TH {a b c d}(h:tw a b=tw c d):a=c/\b=d:=by
 simp[tw,C4]at h;exact h
def SQ (a b c:Int):Tx->Int:=fun t=>if t=[65]then a else if t=[66]then b else c
theorem gX (p q M D):IV (Eb p q) M D↔∀a b c,D q (tw a c)->D p (tw c b)->D p (tw a b):=by
 constructor
 ·intro h a b c h1 h2;exact h (SQ a b c) fun x hx=>by
   simp only[Eb,BB,EN,DY]at hx;rcases hx with rfl|rfl
   ·exact h1
   ·exact h2
 ·intro h ν hb;have h1:=hb ⟨false,q,[[65],[67]]⟩ (by simp[Eb]);have h2:=hb ⟨false,p,[[67],[66]]⟩ (by simp[Eb]);exact h (ν [65]) (ν [66]) (ν [67]) h1 h2
theorem YD (p e M D):IV (fF p e) M D↔∀a b,D e (tw a b)->D p (tw a b):=by
 constructor
 ·intro h a b h1;exact h (SQ a b 0) fun x hx=>by
   simp only[fF,BB,EN,DY]at hx;subst hx;exact h1
 ·intro h ν hb;exact h (ν [65]) (ν [66]) (hb ⟨false,e,[[65],[66]]⟩ (by simp[fF]))
theorem YF {l l' p e}(ab:e≠p){B M}(hB:∀t,¬B p t)
  (h1:∀D,GI l M D↔(∀a b,D e (tw a b)->D p (tw a b))/\(∀a b c,D p (tw a c)->D p (tw c b)->D p (tw a b))/\∀x∈l,x.o=false->x.h.B≠p->IV x M D)
  (h2:∀D,GI l' M D↔(∀a b,D e (tw a b)->D p (tw a b))/\(∀a b c,D e (tw a c)->D p (tw c b)->D p (tw a b))/\∀x∈l,x.o=false->x.h.B≠p->IV x M D)
  (q t):AZ l B M q t↔AZ l' B M q t:=by
 constructor
 ·intro h;refine h _ (fun q t g=>AZ.base g) ((h1 _).2 ?_);obtain⟨c1,c2,c3⟩:=(h2 _).1 (AZ.clo l' B M);refine⟨c1,?_,c3⟩
  --those from which one can go on
  have key:∀q t,AZ l' B M q t->AZ l' B M q t/\(q=p->∀a c,t=tw a c->∀b,AZ l' B M p (tw c b)->AZ l' B M p (tw a b)):=fun q t g=>by
   refine g (fun q t=>AZ l' B M q t/\(q=p->∀a c,t=tw a c->∀b,AZ l' B M p (tw c b)->AZ l' B M p (tw a b))) (fun q t hb=>⟨AZ.base hb,fun e=>by subst e;exact absurd hb (hB t)⟩) ((h2 _).2 ⟨fun a b g1=>?_,fun a b c g1 g2=>?_,fun x hx ho aa ν hb=>?_⟩)
   ·refine⟨c1 a b g1.1,fun _ a' c' e b' g=>?_⟩;obtain⟨rfl,rfl⟩:=TH e;exact c2 _ _ _ g1.1 g
   ·refine⟨c2 a b c g1.1 g2.1,fun _ a' c' e b' g=>?_⟩;obtain⟨rfl,rfl⟩:=TH e;exact c2 _ _ _ g1.1 (g2.2 rfl c b rfl b' g)
   ·exact⟨c3 x hx ho aa ν fun a ha=>(hb a ha).mono fun _ _ g=>g.1,fun e=>absurd e aa⟩
  exact fun a b c g1 g2=>(key _ _ g1).2 rfl a c rfl b g2
 ·intro h;refine h _ (fun q t g=>AZ.base g) ((h2 _).2 ?_);obtain⟨c1,c2,c3⟩:=(h1 _).1 (AZ.clo l B M);exact⟨c1,fun a b c g1 g2=>c2 a b c (c1 a c g1) g2,c3⟩
def Zn (μ:Int->Int)(t:Tm):Int:=if t.1=true then μ t.2 else t.2
def NG (μ:Int->Int)(P:List Tm):Prop:=∀t,Zd t->Zn μ (Et P t)=Zn μ t
theorem NG.wi {μ P v w}(hP:Z P=52)(h:NG μ P)(hv:v.1=true)(he:Zn μ v=Zn μ w):NG μ (Ui P v w):=fun t ht=>by
 rw[Lm hP ht hv];split
 ·rename_i e;rw[<-he,<-e];exact h t ht
 ·exact h t ht
theorem dI {μ}:∀{ts us P:List Tm},Z P=52->NG μ P->(∀t∈ts,Zd t)->(∀t∈us,Zd t)->ts.map (Zn μ)=us.map (Zn μ)->∃P',Dy P ts us=some P'/\NG μ P'
 |[],us,P,_,h,_,_,_=>⟨P,by unfold Dy;rfl,h⟩
 |t::ts,[],P,_,_,_,_,e=>by simp at e
 |t::ts,u::us,P,hP,h,h1,h2,e=>by
  rw[CU,CU]at e;obtain⟨e1,e2⟩:=List.cons.inj e;have e3:Zn μ (Et P t)=Zn μ (Et P u):=by rw[h t (h1 t (by simp)),h u (h2 u (by simp)),e1]
  have:∃Q,Rh P t u=some Q/\Z Q=52/\NG μ Q:=by
   unfold Rh;by_cases c1:Et P t=Et P u
   ·rw[if_pos c1];exact⟨P,rfl,hP,h⟩
   ·rw[if_neg c1];by_cases c2:(Et P u).1=true
    ·rw[if_pos c2];exact⟨_,rfl,by rw[Ll];exact hP,h.wi hP c2 e3.symm⟩
    ·rw[if_neg c2];by_cases c3:(Et P t).1=true
     ·rw[if_pos c3];exact⟨_,rfl,by rw[Ll];exact hP,h.wi hP c3 e3⟩
     ·refine absurd ?_ c1;unfold Zn at e3;rw[if_neg c2,if_neg c3]at e3;exact GW (by rw[Bool.eq_false_iff.2 c2,Bool.eq_false_iff.2 c3]) e3
  obtain⟨Q,hQ,hl,hR⟩:=this;obtain⟨P',g1,g2⟩:=dI hl hR (fun x hx=>h1 x (by simp[hx])) (fun x hx=>h2 x (by simp[hx])) e2;exact⟨P',by unfold Dy;rw[hQ];exact g1,g2⟩
theorem rM {P Q t u}(hP:Z P=52)(h:Rh P t u=some Q)(ht:Zd t)(hu:Zd u):Z Q=52/\Et Q t=Et Q u/\∀v w,Zd v->Zd w->Et P v=Et P w->Et Q v=Et Q w:=by
 have key:∀a b:Tm,a.1=true->∀v w,Zd v->Zd w->Et P v=Et P w->Et (Ui P a b) v=Et (Ui P a b) w:=fun a b ha v w hv hw e=>by rw[Lm hP hv ha,Lm hP hw ha,e]
 unfold Rh at h;by_cases c1:Et P t=Et P u
 ·rw[if_pos c1]at h;cases h;exact⟨hP,c1,fun _ _ _ _ e=>e⟩
 ·rw[if_neg c1]at h;by_cases c2:(Et P u).1=true
  ·rw[if_pos c2]at h;cases h;exact⟨by rw[Ll];exact hP,by rw[Lm hP ht c2,Lm hP hu c2,if_neg c1,if_pos rfl],key _ _ c2⟩
  ·rw[if_neg c2]at h;by_cases c3:(Et P t).1=true
   ·rw[if_pos c3]at h;cases h;exact⟨by rw[Ll];exact hP,by rw[Lm hP ht c3,Lm hP hu c3,if_pos rfl,if_neg fun e=>c1 e.symm],key _ _ c3⟩
   ·rw[if_neg c3]at h;cases h
theorem dH:∀{ts us P P':List Tm},Z P=52->(∀t∈ts,Zd t)->(∀t∈us,Zd t)->Z ts=Z us->Dy P ts us=some P'->ts.map (Et P')=us.map (Et P')/\∀v w,Zd v->Zd w->Et P v=Et P w->Et P' v=Et P' w
 |[],[],P,P',_,_,_,_,e=>by unfold Dy at e;cases e;exact⟨rfl,fun _ _ _ _ e=>e⟩
 |[],_::_,_,_,_,_,_,e,_=>by cases e
 |_::_,[],_,_,_,_,_,e,_=>by cases e
 |t::ts,u::us,P,P',hP,h1,h2,hl,e=>by
  unfold Dy at e;obtain⟨Q,hQ,e⟩:=Option.bind_eq_some_iff.1 e;have ht:=h1 t (by simp);have hu:=h2 u (by simp);obtain⟨q1,q2,q3⟩:=rM hP hQ ht hu;obtain⟨r1,r2⟩:=dH q1 (fun x hx=>h1 x (by simp[hx])) (fun x hx=>h2 x (by simp[hx])) (by simpa using hl) e;exact⟨by rw[CU,CU,r1,r2 t u ht hu q2],fun v w hv hw g=>r2 v w hv hw (q3 v w hv hw g)⟩
def JY (ν1 ν2:Tx->Int):Int->Int:=fun k=>if k<26 then ν1 [Iq k]else ν2 [Iq (k-26)]
theorem sP {p}(h:UT p.2)(hv:Ac p.2=false):Ml p=Ap p.2:=by
 obtain⟨s,t⟩:=p;cases s with
 |false=>rfl
 |true=>rw[Ml,R7 h,if_neg (by simp[show Ac t=false from hv])]
theorem sO {p}(h:UT p.2)(ν1 ν2):Zn (JY ν1 ν2) (Ml p)=Kn (if p.1=true then ν2 else ν1) p.2:=by
 cases hv:Ac p.2 with
 |true=>
  obtain⟨s,t⟩:=p;obtain⟨k,hk,e1,e2⟩:=h.enc hv;dsimp only at e1 e2 hv⊢;subst e1;cases s with
  |false=>
   show Zn _ (Ap [Iq k])=_;rw[e2];unfold Zn Kn JY;rw[if_pos rfl,hv,if_pos rfl,if_pos (by dsimp only;omega)];rfl
  |true=>
   rw[Ml,R7 h];dsimp only;rw[hv,if_pos rfl,e2];unfold Zn Kn JY;rw[if_pos rfl,hv,if_pos rfl,if_neg (by dsimp only;omega)];dsimp only;rw[show (26+(k:Int)-26)=k by omega];rfl
 |false=>
  rw[sP h hv];unfold Zn Kn;rw[hv,Bs,hv];rfl
def QX (μ:Int->Int)(V:List Int):Tx->Int:=fun w=>μ ((V[(Ap w).2.toNat]?).getD 0)
theorem ZF {μ V u}(hu:JH u)(hV:Z V<=26)(hm:u.1=true->u.2∈V):Kn (QX μ V) (Hl (Gl V u))=Zn μ u:=by
 obtain⟨b,v⟩:=u;cases b with
 |true=>
  have hm:v∈V:=hm rfl;have hi:=CY hm;have e:Gl V (true,v)=(true,((V.idxOf v:Nat):Int)):=by simp[Gl,qY,hm]
  rw[e];have hd:=(SU (k:=V.idxOf v) AA).dec.2;have aa:Ac (Hl (true,((V.idxOf v:Nat):Int)))=true:=by rw[<-Bs,hd]
  unfold Kn QX Zn;rw[if_pos aa,hd,if_pos rfl];dsimp only;rw[DU,AJ hi,FT];rfl
 |false=>
  have hd:=(hu.2 rfl).dec.2;have e:Gl V (false,v)=(false,v):=rfl;rw[e];have aa:Ac (Hl (false,v))=false:=by rw[<-Bs,hd]
  unfold Kn Zn;rw[aa,hd];rfl
theorem RE {P V p}(h:UT p.2)(hv:Ac p.2=false):Hl (Gl V (Et P (Ml p)))=p.2:=by
 rw[sP h hv];have e1:(Ap p.2).1=false:=by rw[Bs];exact hv
 have e2:Et P (Ap p.2)=Ap p.2:=if_neg (by simp[e1]);have e3:Gl V (Ap p.2)=Ap p.2:=by
  unfold Gl;rw[e1];exact GW e1.symm (by simp)
 rw[e2,e3,h.dec.1]
theorem PY {f:LT->Tx}{s ν b}(h:∀t∈b.A,Ac t=false->f (s,t)=t)(nt pr):Ja ν ⟨nt,pr,b.A.map fun t=>f (s,t)⟩=Ja (fun w=>Kn ν (f (s,w))) b:=by
 unfold Ja;dsimp only;rw[BS];congr 1;refine CK fun t ht=>?_;simp only[Function.comp];cases hv:Ac t with
 |true=>
  have:∀μ:Tx->Int,Kn μ t=μ t:=fun μ=>if_pos hv;rw[this]
 |false=>rw[h t ht hv];unfold Kn;rw[hv];rfl
theorem iu {x y k a}(ha:x.A[k]?=some a)(hnt:a.nt=false)(hq:y.h.B=a.B){f}(hx:∀b,b=x.h\/b∈x.A->∀t∈b.A,Ac t=false->f (false,t)=t)(hy:∀b,b=y.h\/b∈y.A->∀t∈b.A,Ac t=false->f (true,t)=t)
  (he:a.A.map (fun t=>f (false,t))=y.h.A.map fun t=>f (true,t)){M D} (h1:IV x M D) (h2:IV y M D):IV (MB x (Um x k y) f) M D:=fun ν hb=>by
 have ab:=(BG.1 ha).1;have g:∀b∈Um x k y,(∀t∈b.2.A,Ac t=false->f (b.1,t)=t)->Do M D (fun w=>Kn ν (f (b.1,w))) b.2:=fun b hm hn=>by
  have:=hb _ (AO.2 ⟨b,hm,rfl⟩);unfold Do at this⊢;rw[PY hn]at this;exact this
 have hY:D a.B (Ja (fun w=>Kn ν (f (false,w))) a):=by
  have:=h2 (fun w=>Kn ν (f (true,w))) fun b aa=>g (true,b) (fI (by simpa using ab) (AO.2 ⟨b,aa,rfl⟩)) (hy b (.inr aa));rw[hq]at this;rw[<-PY (hx a (.inr (BD ha))) false a.B,he,PY (hy y.h (.inl rfl)) false a.B];exact this
 have:=h1 (fun w=>Kn ν (f (false,w))) fun b aa=>by
  obtain⟨j,hj⟩:=CO aa;by_cases e:j=k
  ·subst e;rw[ha]at hj;cases hj;unfold Do;rw[if_neg (by simp[hnt])];exact hY
  ·exact g (false,b) (Lk (by rw[EY,hj];rfl) e) (hx b (.inr aa))
 show D x.h.B (Ja ν ⟨false,x.h.B,_⟩);rw[PY (hx x.h (.inl rfl))];exact this
theorem iw {x y k f ν ν1 ν2}(hv:∀p∈rV x (Um x k y),Kn ν (f p)=Kn (if p.1=true then ν2 else ν1) p.2){M D}(h1:∀b∈x.A,Do M D ν1 b)(h2:∀b∈y.A,Do M D ν2 b)(hz:IV (MB x (Um x k y) f) M D):D x.h.B (Ja ν1 x.h):=by
 have e:∀(b:AC) (s nt:Bool) (pr:Tx),(∀t∈b.A,(s,t)∈rV x (Um x k y))->Ja ν ⟨nt,pr,b.A.map fun t=>f (s,t)⟩=Ja (if s=true then ν2 else ν1) b:=fun b s nt pr h=>by
  unfold Ja;dsimp only;rw[BS];congr 1;exact CK fun t ht=>hv (s,t) (h t ht)
 have:=hz ν fun b hb=>by
  obtain⟨c,hc,rfl⟩:=AO.1 hb;have hm:∀t∈c.2.A,(c.1,t)∈rV x (Um x k y):=fun t ht=>MA _ (DR.2 ⟨c,hc,AO.2 ⟨t,ht,rfl⟩⟩);unfold Do;rw[e c.2 c.1 _ _ hm];rcases gD hc with⟨e1,hm⟩|⟨e1,hm⟩
  ·rw[e1];exact h1 c.2 hm
  ·rw[e1];exact h2 c.2 hm
 have g:=e x.h false false x.h.B fun t ht=>FZ _ (AO.2 ⟨t,ht,rfl⟩);have this:D x.h.B (Ja ν ⟨false,x.h.B,x.h.A.map fun t=>f (false,t)⟩):=this;rw[g]at this;exact this
section
variable {N:List Tx} {ar:Tx->Nat} {l:List AB} (hR:BH N ar l)
include hR
theorem BH.uta {x}(hx:x∈l)(ho:x.o=false){b}(hb:b=x.h\/b∈x.A):b.B∈N/\Z b.A=ar b.B/\Z b.A<=3/\∀t∈b.A,UT t:=by
 have hr:=hR.ru x hx ho
 have hm:=(hR.gl.msr x hx).at_ b (by
  rcases hb with rfl|hb
  ·exact Ar (.inl ⟨ho,rfl⟩)
  ·exact Ar (.inr hb))
 have hA:MK N ar b:=by
  rcases hb with rfl|hb
  ·exact hr.h
  ·exact hr.A b hb
 exact⟨hA.mem,hA.len,hA.le3,hm.2.2⟩
theorem ZU {M0}(hM:Em N l M0){i k x a}(hx:l[i]?=some x)(ho:x.o=false)(ha:x.A[k]?=some a)(ah:dG N (Hw (Z N) M0 (Z N)) l i k=true){B M}(hB:∀x∈l,x.o=false->∀t,¬B x.h.B t)(q t):AZ l B M q t↔AZ (C7 i (uL N l x k a.B) l) B M q t:=by
 have aa:=BD hx;have ad:=BD ha;have hil:=(BG.1 hx).1;have ai:=fV hx ha ah;unfold dG at ah;rw[hx]at ah;dsimp only at ah;rw[ha]at ah;simp only[BX,GH]at ah;obtain⟨hnt,ae,aw,-⟩:=ah
 have hN:∀x∈l,x.h.B∈N/\∀a∈x.A,a.B∈N:=fun y hy=>⟨(hR.gl.msr y hy).mem,fun b hb=>by
  cases e:y.o with
  |true=>rw[(hR.gl.msr y hy).o e]at hb;cases hb
  |false=>exact (hR.uta hy e (.inr hb)).1⟩
 have ax:x.h.B≠a.B:=fun e=>by
  have:=(Vg hN hM (hN x aa|>.2 a ad) (hN x aa|>.2 a ad)).2 (.one ⟨x,aa,e,a,ad,rfl⟩);rw[this]at ae;cases ae
 unfold E4 at ai;simp only[BX]at ai;have h5:=(S3 ai.1).2
 --the joined rules
 have hJ:∀y∈l,y.o=false->(Zm N x k y).map (Dh N)=(Dy CI (a.A.map fun t=>Ml (false,t)) (y.h.A.map fun t=>Ml (true,t))).map fun P=>MB x (Um x k y) fun p=>Hl (Gl (((rV x (Um x k y)).map fun p=>Et P (Ml p)).foldl vF []) (Et P (Ml p))):=fun y hy ab=>by
  rw[o8 (hN x aa).2 (hN x aa).1 (hN y hy).2,ha];rfl
 have uA:=(hR.uta aa ho (.inr ad)).2.2.2;have v52:∀(s:Bool) (ts:List Tx),(∀t∈ts,UT t)->∀u∈ts.map fun t=>Ml (s,t),JH u:=fun s ts h u hu=>by
  obtain⟨t,ht,rfl⟩:=AO.1 hu;refine⟨gi (h t ht),fun hv=>?_⟩;have hv:Ac t=false:=by rw[<-nv (p:=(s,t)) (h t ht)];exact hv
  rw[sP (p:=(s,t)) (h t ht) hv];exact⟨t,h t ht,rfl⟩
 have ay:∀{y:AB},y∈l->y.o=false->∀p∈rV x (Um x k y),UT p.2:=fun {y} hy ab p hp=>by
  obtain⟨b,hb,ht⟩:=YU ho ab hp;rcases hb with⟨-,hb⟩|⟨-,hb⟩
  ·exact ((hR.gl.msr x aa).at_ b hb).2.2 _ ht
  ·exact ((hR.gl.msr y hy).at_ b hb).2.2 _ ht
 constructor
 ·intro h;refine h _ (fun p t g=>AZ.base g) fun y hy ab=>?_;obtain⟨j,hj⟩:=CO hy;by_cases e:j=i
  ·subst e;rw[hx]at hj;cases hj;intro ν1 hb;have hA:=hb a ad;unfold Do at hA;rw[if_neg (by simp[hnt])]at hA;rcases hA.inv with hA|⟨y,hy,ab,ν2,av,hp,ht⟩
   ·obtain⟨z,hz,aj⟩:=CW.1 aw;simp only[BX,GH,DF]at aj;have e:=Eh (hN z hz).1 ((hN x aa).2 a ad) aj.2;rw[<-e]at hA;exact absurd hA (hB z hz aj.1 _)
   ·have ac:y∈l:=by
     rcases Ee hy with h|h
     ·exact h
     ·obtain⟨r,hr,rfl⟩:=AO.1 h;obtain⟨z,hz,e⟩:=List.mem_filterMap.1 hr;obtain⟨ak,aj⟩:=BV.1 hz;simp only[Mi,BX,GH,DF]at aj;have e2:=hJ z ak aj.1;rw[e,GZ]at e2;obtain⟨P,-,e3⟩:=OQ.1 e2.symm;rw[<-e3]at hp;exact absurd hp.symm ax
    have uy:=hR.uta ac ab (.inl rfl);have hlen:Z a.A=Z y.h.A:=by rw[(hR.uta aa ho (.inr ad)).2.1,uy.2.1,hp]
    have ev:(a.A.map fun t=>Ml (false,t)).map (Zn (JY ν1 ν2))=(y.h.A.map fun t=>Ml (true,t)).map (Zn (JY ν1 ν2)):=by
     have e1:(a.A.map fun t=>Ml (false,t)).map (Zn (JY ν1 ν2))=a.A.map (Kn ν1):=by
      rw[BS];exact CK fun t ht=>sO (p:=(false,t)) (uA t ht) ν1 ν2
     have e2:(y.h.A.map fun t=>Ml (true,t)).map (Zn (JY ν1 ν2))=y.h.A.map (Kn ν2):=by
      rw[BS];exact CK fun t ht=>sO (p:=(true,t)) (uy.2.2.2 t ht) ν1 ν2
     rw[e1,e2];exact Ko (by simpa using hlen) (by simpa using (hR.uta aa ho (.inr ad)).2.2.1) ht
    have w1:=v52 false a.A uA;have w2:=v52 true y.h.A uy.2.2.2;obtain⟨P,hP,hrs⟩:=dI (μ:=JY ν1 ν2) Q9 (fun t ht=>by rw[gj ht]) (fun t ht=>(w1 t ht).1) (fun t ht=>(w2 t ht).1) ev;have az:=fY rA w1 w2 hP;have hz:∃z∈uL N l x k a.B,z=MB x (Um x k y) fun p=>Hl (Gl (((rV x (Um x k y)).map fun p=>Et P (Ml p)).foldl vF []) (Et P (Ml p))):=by
     have e2:=hJ y ac ab;rw[hP,GZ]at e2;obtain⟨r,hr,e3⟩:=OQ.1 e2;refine⟨Dh N r,AO.2 ⟨r,List.mem_filterMap.2 ⟨y,BV.2 ⟨ac,?_⟩,hr⟩,rfl⟩,e3⟩;simp[Mi,ab,hp]
    obtain⟨z,au,an⟩:=hz;have ak:z∈C7 j (uL N l x k a.B) l:=fI hil au;have ao:=h5 z ak;have am:z.o=false:=by rw[an];rfl
    have ap:=AZ.clo (C7 j (uL N l x k a.B) l) B M z ak am;rw[an]at ap ao;have a0:Z (Um x k y)<=5:=by simpa[MB]using ao
    have hT:Z (rV x (Um x k y))<=18:=by
     unfold rV;rw[AX,BP];have h3:=(hR.uta aa ho (.inl rfl)).2.2.1;have key:∀L:List (Bool×AC),(∀b∈L,Z b.2.A<=3)->Z (L.flatMap fun b=>b.2.A.map fun t=>(b.1,t))<=Z L*3:=fun L=>by
      induction L with
      |nil=>intro _;simp
      |cons b L ih=>
       intro h;have h1:=h b (by simp);have h2:=ih fun c hc=>h c (by simp[hc]);rw[DK,AX,BP,BQ];omega
     have:=key (Um x k y) fun b hb=>by
      rcases gD hb with⟨-,h⟩|⟨-,h⟩
      ·exact (hR.uta aa ho (.inr h)).2.2.1
      ·exact (hR.uta ac ab (.inr h)).2.2.1
     omega
    refine iw (ν:=QX (JY ν1 ν2) (((rV x (Um x k y)).map fun p=>Et P (Ml p)).foldl vF [])) (ν1:=ν1) (ν2:=ν2) (fun p hp=>?_) hb av ap;have hu:=ay ac ab p hp;have hw:JH (Ml p):=v52 p.1 [p.2] (fun t ht=>by simp at ht;subst ht;exact hu) _ (by simp)
    rw[ZF (az.of hw) (by
     have:=eV ((rV x (Um x k y)).map fun p=>Et P (Ml p)) [];simp only[BP,CP]at this
     omega) fun hv=>(eU _ _ _).2 (.inr (AO.2 ⟨p,hp,GW hv rfl⟩)),hrs _ hw.1,sO hu]
  ·exact AZ.clo _ B M y (Lk hj e) ab
 ·intro h;refine h _ (fun p t g=>AZ.base g) fun z hz am=>?_;rcases Ee hz with h|h
  ·exact AZ.clo l B M z h am
  ·obtain⟨r,hr,rfl⟩:=AO.1 h;obtain⟨y,hy,e⟩:=List.mem_filterMap.1 hr;obtain⟨ac,af⟩:=BV.1 hy;simp only[Mi,BX,GH,DF]at af;have e2:=hJ y ac af.1;rw[e,GZ]at e2;obtain⟨P,hP,e3⟩:=OQ.1 e2.symm;rw[<-e3];have uy:=hR.uta ac af.1 (.inl rfl);have hlen:Z a.A=Z y.h.A:=by rw[(hR.uta aa ho (.inr ad)).2.1,uy.2.1,af.2]
   have w1:=v52 false a.A uA;have w2:=v52 true y.h.A uy.2.2.2;refine iu ha hnt af.2 (fun b hb t ht hv=>RE (p:=(false,t)) ((hR.uta aa ho hb).2.2.2 t ht) hv) (fun b hb t ht hv=>RE (p:=(true,t)) ((hR.uta ac af.1 hb).2.2.2 t ht) hv) ?_ (AZ.clo l B M x aa ho) (AZ.clo l B M y ac af.1);have:=(dH Q9 (fun t ht=>(w1 t ht).1) (fun t ht=>(w2 t ht).1) (by simpa using hlen) hP).1;rw[BS,BS]at this;have:=congrArg (List.map fun u=>Hl (Gl (((rV x (Um x k y)).map fun p=>Et P (Ml p)).foldl vF []) u)) this;rw[BS,BS]at this;exact this
end
section
variable {l:List AB} (hr:LN l)
include hr
theorem fD {x}(hx:x∈l){a}(ha:a∈x.A):Bp l a.B<=Bp l x.h.B:=
 (Ia hr.o hr.loo hr.len _ _).1 (ZR (.inr (.one ⟨x,hx,rfl,a,ha,rfl⟩)) ((Ia hr.o hr.loo hr.len _ _).2 (AR _)))
theorem fE {x}(hx:x∈l){a}(ha:a∈x.A)(hn:a.nt=true):Bp l a.B<Bp l x.h.B:=
 (Ia hr.o hr.loo hr.len _ _).1 ⟨x,hx,.inl rfl,a,ha,hn,(Ia hr.o hr.loo hr.len _ _).2 (AR _)⟩
theorem fG {B}:∀{M M':D5},GB l B M->GB l B M'->∀s p t,Bp l p<s->M p t->M' p t
 |M,M',h,h',0,p,t,hp,_=>absurd hp (MG _)
 |M,M',h,h',s+1,p,t,hp,g=>by
  have:=(h p t).1 g (fun p t=>Bp l p<s+1->AZ l B M' p t) (fun p t hb _=>AZ.base hb) fun x hx ho ν hb aa=>
   AZ.clo l B M' x hx ho ν fun a ha=>by
    have h1:=hb a ha;unfold Do at h1⊢;by_cases e:a.nt=true
    ·rw[if_pos e]at h1⊢;have:=fE hr hx ha e;exact fun g=>h1 (fG h' h s _ _ AA g)
    ·rw[if_neg e]at h1⊢;have:=fD hr hx ha;exact h1 AA
  exact (h' p t).2 (this hp)
theorem GB.uniq {B M M'}(h:GB l B M)(h':GB l B M')(p t):M p t↔M' p t:=⟨fG hr h h' _ p t (Nat.lt_succ_self _),fG hr h' h _ p t (Nat.lt_succ_self _)⟩
end
def PD (N:List Tx)(D:Dw):D5:=fun p t=>p∈N/\D (N.idxOf p) t
theorem wL {N a}(ν):Bz (C9 N a) ν=Ja (fun w=>ν (Ap w).2) a:=by
 unfold Bz Ja C9;simp only[BS];congr 1;refine CK fun t _=>?_;simp only[Function.comp,Gd,Kn,Bs]
theorem uC {N a}(hu:∀t∈a.A,UT t)(ν):Ja ν a=Bz (C9 N a) fun v=>ν (Hl (true,v)):=by
 unfold Bz Ja C9;simp only[BS];congr 1;refine CK fun t ht=>?_;simp only[Function.comp,Gd,Kn,Bs];cases hv:Ac t with
 |false=>rfl
 |true=>
  have e:(true,(Ap t).2)=Ap t:=GW (by rw[Bs];exact hv.symm) rfl;simp only[if_true];rw[e,(hu t ht).dec.1]
theorem fS {N l B}(hN:∀x∈l,x.h.B∈N){p}(hp:p∈N){t s}(hs:Bp l p<s):∀{s':Nat},s<=s'->GC N l B s' (N.idxOf p) t->GC N l B s (N.idxOf p) t
 |0,h,g=>absurd hs AA
 |s'+1,h,g=>by
  by_cases e:s=s'+1
  ·subst e;exact g
  ·refine fS hN hp hs (s':=s') AA (EM.nonhead (fun r hr e2=>?_) g);obtain⟨x,hx,rfl⟩:=AO.1 hr;obtain⟨h1,h2,h3⟩:=M8 hx;simp only[Cd,C9,DU]at e2;rw[Eh (hN x h1) hp e2]at h3;omega
theorem mn {N l}(hr:LN l)(hN:∀x∈l,x.h.B∈N/\∀a∈x.A,a.B∈N)(hu:∀x∈l,x.o=false->∀a,a=x.h\/a∈x.A->∀t∈a.A,UT t){B}(hB:∀k t,B k t->∃p∈N,k=N.idxOf p):GB l (PD N B) (PD N (GC N l B (Z l+1))):=by
 intro p t;constructor
 ·rintro⟨hp,g⟩;have key:∀s,s<=Z l+1->∀k t,GC N l B s k t->∃p∈N,k=N.idxOf p/\AZ l (PD N B) (PD N (GC N l B (Z l+1))) p t:=fun s=>by
   induction s with
   |zero=>
    intro _ k t g;obtain⟨q,hq,rfl⟩:=hB k t g;exact⟨q,hq,rfl,AZ.base ⟨hq,g⟩⟩
   |succ s ih=>
    intro hs k t g;refine EM.least (ih AA) (fun r aa ν hl=>?_) g;obtain⟨x,hx,rfl⟩:=AO.1 aa;obtain⟨h1,h2,h3⟩:=M8 hx;refine⟨x.h.B,(hN x h1).1,rfl,?_⟩;show AZ _ _ _ _ (Bz (C9 N x.h) ν);rw[wL];refine AZ.clo l _ _ x h1 h2 _ fun a ha=>?_;have hh:=hl (E9 N a) (AO.2 ⟨a,ha,rfl⟩);unfold CG E9 at hh;dsimp only at hh;rw[wL]at hh;unfold Do;by_cases e:a.nt=true
    ·rw[if_pos e]at hh⊢;rintro⟨hq,g⟩;have:=fE hr h1 ha e;exact hh (fS (fun x hx=>(hN x hx).1) hq (s:=s) AA AA g)
    ·rw[if_neg e]at hh⊢;obtain⟨q,hq,e2,g⟩:=hh;have:a.B=q:=Eh ((hN x h1).2 a ha) hq e2;subst this;exact g
  obtain⟨q,hq,e,g⟩:=key _ (AR _) _ _ g;rw[Eh hp hq e];exact g
 ·intro h;refine h _ (fun p t g=>⟨g.1,GC.has g.2⟩) fun x hx ho ν hb=>⟨(hN x hx).1,?_⟩;have hs:=cL hr x.h.B;refine GC.up (s:=Bp l x.h.B+1) AA ?_;rw[uC (N:=N) (hu x hx ho _ (.inl rfl))];have hm:x∈Zf l (Bp l x.h.B):=BV.2 ⟨hx,by unfold sB;rw[ho];simp⟩;refine EM.cl ((Zf l (Bp l x.h.B)).map (Cd N)) (GC N l B (Bp l x.h.B)) (Cd N x) (AO.2 ⟨x,hm,rfl⟩) (fun v=>ν (Hl (true,v))) fun k hk=>?_;obtain⟨a,ha,rfl⟩:=AO.1 hk;have h1:=hb a ha;unfold Do at h1;rw[uC (N:=N) (hu x hx ho a (.inr ha))]at h1;unfold CG E9;dsimp only;by_cases e:a.nt=true
  ·rw[if_pos e]at h1⊢;exact fun g=>h1 ⟨(hN x hx).2 a ha,GC.up AA g⟩
  ·rw[if_neg e]at h1⊢;have:=fD hr hx ha;exact fS (fun x hx=>(hN x hx).1) h1.1 (s:=Bp l x.h.B+1) AA AA h1.2
def GN (B:D5)(l l':List AB):Prop:=∀M,GB l B M->∃M',GB l' B M'/\(∀p t,M' p t->M p t)/\∀x∈l,x.o=true->∀t,M x.h.B t->M' x.h.B t
def KI (B:D5)(l:List AB):Prop:=∀x∈l,x.o=false->∀t,¬B x.h.B t
theorem GN.of {B l l'}(h:∀M p t,AZ l B M p t↔AZ l' B M p t):GN B l l':=fun M hM=>⟨M,hM.same (h M),fun _ _ g=>g,fun _ _ _ _ g=>g⟩
theorem GN.trans {B l l1 l2}(h:GN B l l1)(ho:l1.filter (·.o)=l.filter (·.o))(h2:GN B l1 l2):GN B l l2:=fun M hM=>by
 obtain⟨M1,a1,a2,a3⟩:=h M hM;obtain⟨M2,b1,b2,b3⟩:=h2 M1 a1;exact⟨M2,b1,fun p t g=>a2 p t (b2 p t g),fun x hx aa t g=>b3 x (BV.1 (ho ▸ BV.2 ⟨hx,aa⟩:x∈l1.filter (·.o))).1 aa t (a3 x hx aa t g)⟩
theorem l7 {α:Type}{n}{o l:List α}{x}(h:x∈C7 n o l):x∈o\/∃j,j≠n/\l[j]?=some x:=by
 unfold C7 at h;obtain⟨⟨y,j⟩,hp,hx⟩:=DR.1 h;split at hx
 ·exact .inl hx
 ·rename_i hn;simp at hx;subst hx;exact .inr ⟨j,hn,ON.1 hp⟩
section
variable {N:List Tx} {ar:Tx->Nat} {l l':List AB} (hR:BH N ar l) {B:D5}
include hR
theorem LD.mth (h:LD N l (some l')):GN B l l':=by
 rcases h with⟨h,-⟩|⟨i,k,y,h,hy,ho,hk,ab,-⟩
 ·cases h
 ·cases h;have aa:=BD hy;unfold vY at ab;rw[hy]at ab;simp only[BX]at ab;have hs:=((VK hR aa ho k).1 ab.1).2;exact .of fun M=>Yb fun D=>XP hy ho ((cN (hR.xr aa ho) k (hR.nm y aa).2 (hR.gl.ar y aa)).1 hs) M D
theorem LJ.mth (h:LJ N l (some l')):GN B l l':=by
 rcases h with⟨h,-⟩|⟨i,y,h,hy,ho,-,hI,-⟩
 ·cases h
 ·cases h;have ac:=BD hy;have aa:=hR.ru y ac ho;have hS:tN N ar (oth l i (Z l)) y:=⟨fun z hz=>hR.ru z (Rb hz).1 (Rb hz).2,aa⟩;obtain⟨MM,-,hs,hi⟩:=hI;have hL:CQ ((oth l i (Z l)).map (Hi N)) (Kj N y) (Hi N y).h.p.toNat (Cw (Ih (Hi N y).h)):=by
   split at hi
   ·exact hs _ _ (hi.2.1 rfl)
   ·cases hi
  have hA:=(od hS).1 hL;refine .of fun M=>Yb fun D=>YW hy (fun D hC ν hb=>?_) D;refine WH (R:=oth l i (Z l)) (fun z hz a ha t ht=>?_) (fun z hz=>⟨(Rb hz).2,(hS.ru z hz).hnt⟩) (fun a ha t ht=>?_) aa.hnt hA (M:=M) (fun z hz ab=>hC z ?_ ab) ν hb
  ·rcases ha with rfl|ha
   ·exact ((hS.ru z hz).vt t ht).1
   ·exact ((hS.ru z hz).vb a ha t ht).1
  ·rcases ha with rfl|ha
   ·exact (aa.vt t ht).1
   ·exact (aa.vb a ha t ht).1
  ·unfold oth at hz;rw[AS]at hz;obtain⟨j,hj,e⟩:=List.mem_eraseIdx_iff_getElem?.1 (BV.1 hz).1;exact Lk e hj
theorem KS.mth (hB:KI B l)(h:KS N l (some l')):GN B l l':=by
 obtain⟨M0,hM,⟨h,-⟩|⟨i,k,y,a,h,h1,h2,h3,h4,-⟩⟩:=h
 ·cases h
 ·cases h;exact .of fun M p t=>ZU hR hM h1 h2 h3 h4 hB p t
theorem LC.mth (hB:KI B l)(h:LC N l (some l')):GN B l l':=by
 rcases h with⟨h,-⟩|⟨i,y,e,h,hy,ha,hs,-⟩
 ·cases h
 ·cases h;have ab:=BD hy;have ao:=R6 (hR.wit y ab) (hR.wi y ab) ha;have aj:y.o=false:=by
   have:(ren y).o=false:=by rw[ao];rfl
   exact this
  unfold Ib at hs;cases ah:Lq l i y.h.B with
  |nil=>rw[ah]at hs;cases hs
  |cons z r=>
   rw[ah]at hs;cases r with
   |cons _ _=>cases hs
   |nil=>
    dsimp only at hs;split at hs
    case isFalse=>cases hs
    rename_i ac;cases af:z.A with
    |nil=>rw[af]at hs;cases hs
    |cons a r=>
     rw[af]at hs;cases r with
     |cons _ _=>cases hs
     |nil=>
      cases hs;have ad:∀(w:AB) (j:Nat),l[j]?=some w->j≠i->w.o=false->w.h.B=y.h.B->w=z:=fun w j hj ak au ap=>by
       have:w∈Lq l i y.h.B:=AO.2 ⟨(w,j),BV.2 ⟨ON.2 hj,by simp[P5,Mi,ak,au,ap]⟩,rfl⟩;rw[ah]at this;simpa using this
      obtain⟨j,hj,ak,ai,an⟩:∃j,l[j]?=some z/\j≠i/\z.o=false/\z.h.B=y.h.B:=by
       have:z∈Lq l i y.h.B:=by rw[ah];simp
       obtain⟨⟨w,j⟩,hm,rfl⟩:=AO.1 this;obtain⟨m1,m2⟩:=BV.1 hm;simp only[P5,Mi,BX,GH,decide_eq_false_iff_not,DF]at m2;exact⟨j,ON.1 m1,m2.1,m2.2.1,m2.2.2⟩
      have ae:=BD hj;have am:=vJ (hR.wit z ae) (hR.wi z ae) af ac;rw[an]at am;have av:a.B≠y.h.B:=by
       unfold Mw at ac;rw[af]at ac;simp only[BX,GH,decide_eq_false_iff_not]at ac;rw[<-an];exact ac.1
      have cz:∀M D,IV z M D↔∀u v,D a.B (tw u v)->D y.h.B (tw u v):=fun M D=>by
       rw[U2 (hR.xr ae ai),am];exact YD _ _ M D
      have cy:∀M D,IV y M D↔∀u v w,D y.h.B (tw u w)->D y.h.B (tw w v)->D y.h.B (tw u v):=fun M D=>by
       rw[U2 (hR.xr ab aj),ao];exact gX _ _ M D
      have hil:=(BG.1 hy).1;refine .of fun M=>YF (e:=a.B) av (hB y ab aj) (fun D=>⟨fun hC=>⟨(cz M D).1 (hC z ae ai),(cy M D).1 (hC y ab aj),fun x hx ho _=>hC x hx ho⟩,fun⟨c1,c2,c3⟩ x hx ho=>?_⟩) fun D=>⟨fun hC=>⟨(cz M D).1 (hC z (Lk hj ak) ai),(gX y.h.B a.B M D).1 (hC _ (fI hil (by simp)) rfl),fun x hx ho hp=>?_⟩,fun⟨c1,c2,c3⟩ x hx ho=>?_⟩
      ·by_cases hp:x.h.B=y.h.B
       ·obtain⟨n,hn⟩:=CO hx;by_cases aa:n=i
        ·subst aa;rw[hy]at hn;cases hn;exact (cy M D).2 c2
        ·rw[ad x n hn aa ho hp];exact (cz M D).2 c1
       ·exact c3 x hx ho hp
      ·obtain⟨n,hn⟩:=CO hx;refine hC x (Lk hn fun aa=>?_) ho;subst aa;rw[hy]at hn;cases hn;exact hp rfl
      ·rcases l7 hx with hx|⟨n,aa,hn⟩
       ·have:x=Eb y.h.B a.B:=by simpa using hx
        rw[this];exact (gX y.h.B a.B M D).2 c2
       ·by_cases hp:x.h.B=y.h.B
        ·rw[ad x n hn aa ho hp];exact (cz M D).2 c1
        ·exact c3 x (BD hn) ho hp
theorem KQ.mth (hB:KI B l)(h:KQ N l (some l')):GN B l l':=by
 obtain⟨M0,ac,h⟩:=h;have hl:l'=Iy N (Hw (Z N) M0 (Z N)) l:=by
  rcases h with⟨-,h⟩|⟨-,⟨-,h⟩|⟨-,h⟩⟩
  ·cases h
  ·cases h
  ·exact IA h
 have hk:∀x,x∈l'↔x∈l/\LB l x.h.B:=fun x=>by
  rw[hl];unfold Iy;rw[BV];exact⟨fun⟨h1,h2⟩=>⟨h1,(iV hR.nm ac (hR.nm x h1).1).1 h2⟩,fun⟨h1,h2⟩=>⟨h1,(iV hR.nm ac (hR.nm x h1).1).2 h2⟩⟩
 have hu:∀x∈l,LB l x.h.B->∀a∈x.A,LB l a.B:=fun x hx ⟨y,hy,ad,hw⟩ a ha=>by
  have h1:Way (H2 l) x.h.B a.B:=.one ⟨x,hx,rfl,a,ha,rfl⟩;refine⟨y,hy,ad,.inr ?_⟩;rcases hw with e|hw
  ·rw[e];exact h1
  ·exact hw.join h1
 intro M hM;have hb:∀p t,B p t->M p t:=fun p t g=>(hM p t).2 (AZ.base g);refine⟨fun p t=>M p t/\(LB l p\/B p t),fun p t=>⟨fun⟨g,hw⟩=>?_,fun g=>?_⟩,fun p t g=>g.1,fun x hx ae t g=>⟨g,.inl ⟨x,hx,ae,.inl rfl⟩⟩⟩
 ·rcases hw with hw|hw
  ·refine (hM p t).1 g (fun p t=>LB l p->AZ l' B _ p t) (fun p t g _=>AZ.base g) (fun x hx ho ν ab aa=>?_) hw;refine AZ.clo l' B _ x ((hk x).2 ⟨hx,aa⟩) ho ν fun a ha=>?_;have h1:=ab a ha;unfold Do at h1⊢;by_cases e:a.nt=true
   ·rw[if_pos e]at h1⊢;exact fun g=>h1 g.1
   ·rw[if_neg e]at h1⊢;exact h1 (hu x hx aa a ha)
  ·exact AZ.base hw
 ·refine g (fun p t=>M p t/\(LB l p\/B p t)) (fun p t g=>⟨hb p t g,.inr g⟩) fun x hx ho ν ab=>?_;obtain⟨hx,aa⟩:=(hk x).1 hx;refine⟨(hM _ _).2 (AZ.clo l B M x hx ho ν fun a ha=>?_),.inl aa⟩;have h1:=ab a ha;unfold Do at h1⊢;by_cases e:a.nt=true
  ·rw[if_pos e]at h1⊢;exact fun g=>h1 ⟨g,.inl (hu x hx aa a ha)⟩
  ·rw[if_neg e]at h1⊢;exact (hM _ _).1 h1.1
theorem DG.mth {c}(hB:KI B l)(h:DG N c l (some l')):GN B l l':=by
 rcases h with⟨-,h⟩|⟨-,h⟩|⟨-,h⟩|⟨-,h⟩|⟨-,h⟩
 ·exact KQ.mth hR hB h
 ·exact LD.mth hR h
 ·exact LJ.mth hR h
 ·exact KS.mth hR hB h
 ·exact LC.mth hR hB h
end
theorem KI.nms {B l l'}(h:KI B l)(hn:IM l l'):KI B l':=fun x hx ho t hb=>by
 obtain⟨y,hy,aa,e⟩:=hn.rld _ ⟨x,hx,ho,rfl⟩;rw[<-e]at hb;exact h y hy aa t hb
def NA (l:List AB)(p:Tx):Prop:=∃a∈l.flatMap Af,a.B=p
theorem DG.ato {N ar c l l'}(hR:BH N ar l)(h:DG N c l (some l')){p}(hp:NA l' p):NA l p:=by
 obtain⟨a,ha,rfl⟩:=hp;obtain⟨z,hz,ha⟩:=DR.1 ha;rcases h.made hR z hz with hz|⟨aa,x,hx,ab,e,hb⟩
 ·exact⟨a,DR.2 ⟨z,hz,ha⟩,rfl⟩
 ·rcases AW.1 ha with ha|ha
  ·rw[aa]at ha;have:a=z.h:=by simpa using ha
   exact⟨x.h,DR.2 ⟨x,hx,Ar (.inl ⟨ab,rfl⟩)⟩,by rw[this,e]⟩
  ·obtain⟨y,hy,b,hb,e2⟩:=hb a ha;exact⟨b,DR.2 ⟨y,hy,Ar (.inr hb)⟩,e2⟩
theorem lh {N ar ps b m m' l l2}(hB:GY N ar l l)(hs:GPss (DG N) b l m ps l2 m')(hp:∀c∈ps,Qp (DG N c) N ar c){B}(hb:KI B l):GN B l l2/\∀p,NA l2 p->NA l p:=by
 induction hs with
 |nil=>exact⟨.of fun _ _ _=>Iff.rfl,fun _ h=>h⟩
 |snoc h1 h2 ih=>
  rename_i ps c la lb m1 m2;have aa:=hp c (by simp);have ih:=ih fun c hc=>hp c (by simp[hc]);have ac:=hB.pss h1 fun c hc=>hp c (by simp[hc]);have ab:=(IM.refl l).pss hB h1 fun c hc=>hp c (by simp[hc]);have key:∀l3 m3,GChg (DG N c) b la m1 l3 m3->IM l l3/\GY N ar l l3/\GN B l l3/\∀p,NA l3 p->NA l p:=fun l3 m3 h=>by
   induction h with
   |refl=>exact⟨ab,ac,ih⟩
   |snoc _ _ hs ih2=>exact⟨ih2.1.step ih2.2.1.rt hs aa,ih2.2.1.step hs aa,ih2.2.2.1.trans ih2.2.1.o (DG.mth ih2.2.1.rt (hb.nms ih2.1) hs),fun p h=>ih2.2.2.2 p (DG.ato ih2.2.1.rt hs h)⟩
  exact (key _ _ h2.1).2.2
def Ta (F:List AC):D5:=fun p t=>∃a∈F,a.B=p/\t=Cw (C9 [] a)
theorem vH {T T2}:∀(L:List AB) (acc:Tx×List Tx),(∀x∈L,T x.h.B=T2 x.h.B)->L.foldl (Lg T) acc=(L.map ren).foldl (Lg T2) acc
 |[],_,_=>rfl
 |x::L,acc,h=>by
  rw[CU,IB,IB];have:Lg T acc x=Lg T2 acc (ren x):=by
   unfold Lg;rw[h x (by simp)];rfl
  rw[this];exact vH L _ fun y hy=>h y (by simp[hy])
abbrev PT:=Tx×Cc
def LW (S:D5)(L:List PT):Prop:=L.Nodup/\∀p t,(p,t)∈L↔S p t
def PM (S:D5)(L:List PT):Prop:=L.Nodup/\∀p t,(p,t)∈L->S p t
def Lf (L:List PT)(p:Tx):List Cc:=(L.filter fun y=>y.1==p).map (·.2)
theorem CM {L p t}:t∈Lf L p↔(p,t)∈L:=by
 unfold Lf;simp only[AO,BV,EH];constructor
 ·rintro⟨⟨q,u⟩,⟨h,rfl⟩,rfl⟩;exact h
 ·exact fun h=>⟨(p,t),⟨h,rfl⟩,rfl⟩
theorem eW {L}(h:L.Nodup)(p):(Lf L p).Nodup:=by
 unfold Lf List.Nodup;rw[LY];refine OK (fun {a b} ha hb aa e=>aa ?_) (h.filter _);have h1:=(BV.1 ha).2;have h2:=(BV.1 hb).2;simp only[EH]at h1 h2;exact GW (h1.trans h2.symm) e
theorem gN {S L L'}(h:LW S L)(h':PM S L'):Z L'<=Z L:=W5 L' L h'.1 fun⟨p,t⟩ hm=>(h.2 p t).2 (h'.2 p t hm)
theorem LW.sb {S L}(h:LW S L):PM S L:=⟨h.1,fun p t=>(h.2 p t).1⟩
def pB (l:List AB)(F:List AC)(n:Int)(x:Tx)(k e:Int):Prop:=∃(M:D5) (L0 L:List PT),GB l (Ta F) M/\LW (Ta F) L0/\
 ((PM M L/\n<(Z L:Int)-Z L0/\x=[]/\k=0/\e=9)\/(LW M L/\¬n<(Z L:Int)-Z L0/\k=(Z L:Int)-Z L0/\e=0/\x=kB (fun p=>Hm (Lf L p)) l))
def Iw (t f:Tx)(n:Int)(x:Tx)(k e:Int):Prop:=
 if 600<Z t\/400<Z f then x=[]/\k=0/\e=1
 else if (Au t).1≠0 then x=[]/\k=0/\e=(Au t).1
 else if n<0\/200<n then x=[]/\k=0/\e=6
 else∃l,Bv 16 t= .got l []/\if Qh l f≠0 then x=[]/\k=0/\e=Qh l f else∃F,Dr 400 f= .got F []/\pB l F n x k e
theorem UH {l F M}(h:GB l (Ta F) M){p t}(g:M p t):Z t=3:=
 (h p t).1 g (fun _ t=>Z t=3) (fun p t ⟨a,_,_,e⟩=>by rw[e];rfl) fun x _ _ ν _=>rfl
theorem oh {t l}(hc:(Au t).1=0)(hp:Bv 16 t= .got l []):∀x∈l,x.o=false->∀a,a=x.h\/a∈x.A->∀t∈a.A,UT t:=fun x hx ho a ha w hw=>by
 have hl:=(Fq hc).1;have hf:EG x:=Hs hc x (by rw[(Dd AA hp).2.1];exact hx);have aa:a∈Af x:=by
  rcases ha with rfl|ha
  ·exact Ar (.inl ⟨ho,rfl⟩)
  ·exact Ar (.inr ha)
 obtain⟨w1,w2,w3,w4⟩:=hf.w.2.2 ho;have ab:D3 a:=by
  rcases ha with rfl|ha
  ·exact w1
  ·exact w4 a ha
 have ac:short a:=by
  rcases ha with rfl|ha
  ·exact hf.sh.1
  ·exact hf.sh.2 a ha
 exact QA (hf.dt a aa w hw) (ab.2.2.2 w hw) (ac.2.2 w hw) (hf.va a aa w hw)
structure Gf (ar:Tx->Nat)(a:AC):Prop where
 nt:a.nt=false
 le:Z a.A<=3
 ln:Z a.A=ar a.B
 ps:0<Z a.A
 pl:Z a.B<=1000
 tm:∀t∈a.A,UT t/\Ac t=false
def H5 (a:AC):PT:=(a.B,Cw (C9 [] a))
theorem fQ (μ a):H5 (Gy μ a)=(a.B,Ja (fun v=>(Ap (μ v)).2) a):=by
 unfold H5 Cw C9 Ja Gy;simp only[BS];congr 2;refine CK fun t _=>?_;simp only[Function.comp,Kq,Kn];by_cases h:Ac t=true<;>simp[h]
theorem kx (a):H5 (aQ a)=H5 a:=rfl
theorem fW {t}(h:UT t)(hv:Ac t=false):Hl (false,(Ap t).2)=t:=by
 have e:(false,(Ap t).2)=Ap t:=GW (by rw[Bs];exact hv.symm) rfl;rw[e,h.dec.1]
theorem S7 {ar a b}(ha:Gf ar a)(hb:Gf ar b)(h:H5 a=H5 b):a=b:=by
 obtain⟨e1,e2⟩:=IT h;have e3:a.A.map (fun t=>(Ap t).2)=b.A.map fun t=>(Ap t).2:=by
  refine Ko (by rw[BP,BP,ha.ln,hb.ln,e1]) (by rw[BP];exact ha.le) ?_;unfold Cw C9 at e2;simp only[BS]at e2;exact e2
 have key:∀l:List Tx,(∀t∈l,UT t/\Ac t=false)->(l.map fun t=>(Ap t).2).map (fun n=>Hl (false,n))=l:=fun l hl=>by
  rw[BS]
  conv=>rhs;rw[<-IY l]
  exact CK fun t ht=>fW (hl t ht).1 (hl t ht).2
 have e4:a.A=b.A:=by rw[<-key a.A ha.tm,e3,key b.A hb.tm]
 have e5:a.nt=b.nt:=ha.nt.trans hb.nt.symm;cases a;cases b;simp only at e1 e4 e5;subst e1;subst e4;subst e5;rfl
structure RA (ar:Tx->Nat)(l:List AB)(F:List AC):Prop where
 rg:LN l
 ut:∀x∈l,x.o=false->∀a,a=x.h\/a∈x.A->(∀t∈a.A,UT t)/\Z a.A<=3/\Z a.A=ar a.B/\0<Z a.A/\Z a.B<=1000
 hnt:∀x∈l,x.o=false->x.h.nt=false
 saf:∀x∈l,x.o=false->iG false x
 fac:∀a∈F,Gf ar a
structure pA (ar:Tx->Nat)(l:List AB)(F:List AC)(M:D5)(s:Nat)(A:List AC):Prop where
 gf:∀a∈A,Gf ar a
 nd:A.Nodup
 fa:∀a∈F,a∈A
 sub:∀a∈A,M a.B (Cw (C9 [] a))
 low:∀p t,Bp l p<s->M p t->∃a∈A,H5 a=(p,t)
section
variable {ar:Tx->Nat} {l:List AB} {F:List AC} (hf:RA ar l F) {M:D5} (hM:GB l (Ta F) M) {s:Nat} {A:List AC}
include hf
theorem TS {x}(hx:x∈l)(ho:x.o=false){a}(ha:a=x.h\/a∈x.A){μ}(hv:∀v∈a.A,Ac v=true->UT (μ v)/\Ac (μ v)=false):Gf ar (aQ (Gy μ a)):=by
 obtain⟨h1,h2,h3,h4,h5⟩:=hf.ut x hx ho a ha;refine⟨rfl,by simpa[aQ,Gy]using h2,by simpa[aQ,Gy]using h3,by simp only[aQ,Gy,BP];exact h4,h5,fun t ht=>?_⟩;obtain⟨u,hu,rfl⟩:=AO.1 ht;unfold Kq;cases aa:Ac u with
 |true=>rw[if_pos rfl];exact hv u hu aa
 |false=>rw[if_neg (by simp)];exact⟨h1 u hu,aa⟩
theorem kY {A':List AC}(hA:∀a∈A',Gf ar a){x}(hx:x∈l)(ho:x.o=false){μ}(hp:∀a∈x.A,Ix false a=true->Gy μ a∈A'){a}(ha:a=x.h\/(a∈x.A/\Ix false a=false)):∀v∈a.A,Ac v=true->UT (μ v)/\Ac (μ v)=false:=fun v hv hvv=>by
 obtain⟨b,hb,ab,aa⟩:=hf.saf x hx ho v hvv (by
  rcases ha with rfl|⟨ha,hn⟩
  ·exact .inl hv
  ·exact .inr ⟨a,ha,hn,hv⟩)
 refine (hA _ (hp b hb ab)).tm (μ v) (AO.2 ⟨v,aa,?_⟩);unfold Kq;rw[if_pos hvv]
include hM
theorem vK (h:pA ar l F M s A):NH false (Zf l s) A fun a=>Gf ar a/\M a.B (Cw (C9 [] a)):=by
 refine⟨fun a ha=>⟨h.gf a ha,h.sub a ha⟩,fun A' ad ae x hx b hs=>?_⟩;obtain⟨aa,ab,af⟩:=M8 hx;obtain⟨μ,hp,hn,rfl⟩:=hs;have hg:∀a∈A',Gf ar a:=fun a ha=>(ad a ha).1;have hh:=TS hf aa ab (.inl rfl) (kY hf hg aa ab hp (.inl rfl));have e0:aQ (Gy μ x.h)=Gy μ x.h:=by
  unfold aQ Gy;simp[hf.hnt x aa ab]
 rw[e0]at hh;refine⟨hh,?_⟩;have e1:=(IT (fQ μ x.h)).2;rw[e1];refine (hM _ _).2 (AZ.clo l (Ta F) M x aa ab _ fun a ha=>?_);have e2:=(IT (fQ μ a)).2;unfold Do;by_cases e:a.nt=true
 ·rw[if_pos e,<-e2];intro g;have ac:Ix false a=false:=by simp[Ix,e]
  have:=fE hf.rg aa ha e;obtain⟨b,hb,eb⟩:=h.low _ _ AA g;refine hn a ha ac ?_;rw[<-S7 (h.gf b hb) (TS hf aa ab (.inr ha) (kY hf hg aa ab hp (.inr ⟨ha,ac⟩))) (by rw[eb,kx];rfl)];exact ae b hb
 ·rw[if_neg e,<-e2];exact (hM _ _).1 (ad _ (hp a ha (by simp[Ix,e]))).2
theorem WX {limit A'}(h:pA ar l F M s A)(hs:Ze false (Zf l s) A limit A'):pA ar l F M (s+1) A':=by
 have hC:=hs.least _ (vK hf hM h);have ab:∀a∈A',M a.B (Cw (C9 [] a)):=fun a ha=>(hC a ha).2;refine⟨fun a ha=>(hC a ha).1,hs.nd,fun a ha=>hs.gv a (h.fa a ha),ab,fun p t hp g=>?_⟩;refine (hM p t).1 g (fun p t=>Bp l p<s+1->∃a∈A',H5 a=(p,t)) (fun p t ⟨a,ha,e1,e2⟩ _=>⟨a,hs.gv a (h.fa a ha),by rw[<-e1,e2];rfl⟩) (fun x hx ho ν hb ap=>?_) hp;have ad:∀a∈x.A,a.nt=false->∃b∈A',H5 b=(a.B,Ja ν a):=fun a ha ac=>by
  have h1:=hb a ha;unfold Do at h1;rw[if_neg (by simp[ac])]at h1;have:=fD hf.rg hx ha;exact h1 AA
 have ae:∀a∈x.A,a.nt=true->¬M a.B (Ja ν a):=fun a ha ac=>by
  have h1:=hb a ha;unfold Do at h1;rw[if_pos ac]at h1;exact h1
 by_cases am:Bp l x.h.B<s
 ·obtain⟨b,aa,e⟩:=h.low _ _ am ((hM _ _).2 (AZ.clo l (Ta F) M x hx ho ν fun a ha=>by
   unfold Do;by_cases e:a.nt=true
   ·rw[if_pos e];exact ae a ha e
   ·rw[if_neg e];obtain⟨b,aa,eb⟩:=ad a ha (by simpa using e);obtain⟨e1,e2⟩:=IT eb;have:=(hM _ _).1 (ab b aa);rw[e1,e2]at this
    exact this))
  exact⟨b,hs.gv b aa,e⟩
 ·have ak:x∈Zf l s:=BV.2 ⟨hx,by unfold sB;rw[ho];simp;omega⟩;let μ:Tx->Tx:=fun v=>Hl (false,ν v);have aj:∀a∈x.A,a.nt=false->Gy μ a∈A'/\∀v∈a.A,Ac v=true->(Ap (μ v)).2=ν v:=fun a ha ac=>by
   obtain⟨b,aa,eb⟩:=ad a ha ac;obtain⟨e1,e2⟩:=IT eb;obtain⟨u1,u2,u3,-⟩:=hf.ut x hx ho a (.inr ha);have af:=(hC b aa).1;have e3:b.A.map (fun t=>(Ap t).2)=a.A.map (Kn ν):=by
    refine Ko (by rw[BP,BP,af.ln,u3,e1]) (by rw[BP];exact af.le) ?_;unfold Cw C9 at e2;simp only[BS]at e2;exact e2
   have e4:b.A=a.A.map (Kq μ):=by
    have h1:(b.A.map fun t=>(Ap t).2).map (fun n=>Hl (false,n))=b.A:=by
     rw[BS]
     conv=>rhs;rw[<-IY b.A]
     exact CK fun t ht=>fW (af.tm t ht).1 (af.tm t ht).2
    rw[<-h1,e3,BS];refine CK fun t ht=>?_;simp only[Function.comp,Kq,Kn];cases hv:Ac t with
    |true=>rfl
    |false=>exact fW (u1 t ht) hv
   have e5:Gy μ a=b:=by
    cases b with
    |mk bn bp bt=>
     simp only at e1 e4;have:bn=false:=af.nt;unfold Gy;rw[ac,<-e1,<-e4,this]
   refine⟨by rw[e5];exact aa,fun v hv hvv=>?_⟩;obtain⟨i,hi⟩:=CO hv;have h1:(b.A.map fun t=>(Ap t).2)[i]?=some (ν v):=by
    rw[e3,EY,hi];simp[Kn,hvv]
   rw[e4,BS,EY,hi]at h1;simpa[Kq,hvv]using h1
  have ai:∀a,(a=x.h\/(a∈x.A/\Ix false a=false))->Ja (fun v=>(Ap (μ v)).2) a=Ja ν a:=fun a ha=>by
   unfold Ja;congr 1;refine CK fun t ht=>?_;unfold Kn;cases hv:Ac t with
   |false=>rfl
   |true=>
    rw[if_pos rfl,if_pos rfl]
    obtain⟨b,aa,ao,an⟩:=hf.saf x hx ho t hv (by
     rcases ha with rfl|⟨ha,hn⟩
     ·exact .inl ht
     ·exact .inr ⟨a,ha,hn,ht⟩)
    exact (aj b aa (by simpa[Ix]using ao)).2 t an hv
  have ah:Tn false A' x (Gy μ x.h):=⟨μ,fun a ha hp=>(aj a ha (by simpa[Ix]using hp)).1,fun a ha hp hm=>by
   have h1:=ab _ hm;have e2:=(IT (fQ μ a)).2;refine ae a ha (by simpa[Ix]using hp) ?_;rw[<-ai a (.inr ⟨ha,hp⟩),<-e2]
   exact h1,rfl⟩
  rcases hs.cl x ak _ ah with h1|h1
  ·exact⟨_,h1,by rw[fQ,ai _ (.inl rfl)]⟩
  ·cases h1
theorem j8 {limit}(h:pA ar l F M s A)(hs:eP false (Zf l s) A limit):∃L:List PT,PM M L/\limit<Z L:=by
 obtain⟨L,h1,h2,h3⟩:=hs _ (vK hf hM h);refine⟨L.map H5,⟨?_,fun p t hm=>?_⟩,by rw[BP];exact h2⟩
 ·unfold List.Nodup;rw[LY];exact OK (fun {a b} ha hb aa e=>aa (S7 (h3 a ha).1 (h3 b hb).1 e)) h1
 ·obtain⟨a,ha,e⟩:=AO.1 hm;obtain⟨e1,e2⟩:=IT e;rw[<-e1,<-e2];exact (h3 a ha).2
theorem WQ {A limit}(hs:Ze false [] F limit A):pA ar l F M 0 A/\LW (Ta F) (A.map H5):=by
 have hC:∀a∈A,a∈F:=hs.least (·∈F) ⟨fun a ha=>ha,fun _ _ _ x hx=>by cases hx⟩;refine⟨⟨fun a ha=>hf.fac a (hC a ha),hs.nd,hs.gv,fun a ha=>(hM _ _).2 (AZ.base ⟨a,hC a ha,rfl,rfl⟩),fun p t h=>absurd h (MG _)⟩,?_,fun p t=>?_⟩
 ·unfold List.Nodup;rw[LY];exact OK (fun {a b} ha hb aa e=>aa (S7 (hf.fac a (hC a ha)) (hf.fac b (hC b hb)) e)) hs.nd
 ·constructor
  ·intro h;obtain⟨a,ha,e⟩:=AO.1 h;obtain⟨e1,e2⟩:=IT e;exact⟨a,hC a ha,e1,e2.symm⟩
  ·rintro⟨a,ha,rfl,rfl⟩;exact AO.2 ⟨a,hs.gv a ha,rfl⟩
theorem XQ (h:pA ar l F M (Z l+1) A):LW M (A.map H5):=by
 refine⟨?_,fun p t=>⟨fun g=>?_,fun g=>?_⟩⟩
 ·unfold List.Nodup;rw[LY];exact OK (fun {a b} ha hb aa e=>aa (S7 (h.gf a ha) (h.gf b hb) e)) h.nd
 ·obtain⟨a,ha,e⟩:=AO.1 g;obtain⟨e1,e2⟩:=IT e;rw[<-e1,<-e2];exact h.sub a ha
 ·have:=cL hf.rg p;obtain⟨a,ha,e⟩:=h.low p t AA g;exact AO.2 ⟨a,ha,e⟩
end
def Nk:List Tx->List Tx->Bool
 |t::ts,u::us=>if Z t≠Z u then decide (Z t<Z u)else if t≠u then Op.bytesLess t u else Nk ts us
 |_,_=>false
theorem XK {a b:List Tx}{i t u}(ht:a[i]?=some t)(hu:b[i]?=some u):Nk (a.drop i) (b.drop i)=if Z t≠Z u then decide (Z t<Z u)else if t≠u then Op.bytesLess t u else Nk (a.drop (i+1)) (b.drop (i+1)):=by
 obtain⟨h1,e1⟩:=BG.1 ht;obtain⟨h2,e2⟩:=BG.1 hu;rw[FJ h1,FJ h2,e1,e2];rfl
theorem Ps (a b ca cb)(ha:Bo a ca)(hb:Bo b cb)(hl:Z a.A<=Z b.A)(hn:Z b.A<=1000)(E):AF Tryz.prog 118 [ag ca,ag cb] E fun r E'=>r=sc (.bool (Nk a.A b.A))/\AE E E':=by
 obtain⟨ia,rfl⟩:=ha;obtain⟨ib,rfl⟩:=hb;refine Z9 41 [.tmp 4] Tryz.func118 ?_
 refine zz ?_
 refine Ae (fun m s E'=>∃(i:Nat),m=Z a.A-i/\i<=Z a.A/\s 2=ptr E.B 0/\s 3=ptr (E.B+1) 0/\s 5=ic i/\AE E E'/\E.B+1<E'.B/\E'.C E.B=[sc (.bool a.nt),str a.B,sl ia (Z a.A) (a.A.map str)]/\E'.C (E.B+1)=[sc (.bool b.nt),str b.B,sl ib (Z b.A) (b.A.map str)]/\AD (Nk a.A b.A=Nk (a.A.drop i) (b.A.drop i))) (Z a.A)
  ⟨0,AA,AA,AG,AG,AG,Xs,AK,by rw[Ah AK,Ao],by first|exact Ao|simp[Ao],by simp[AD]⟩ ?_
 rintro m s E' ⟨i,rfl,hi,h2,h3,h5,hK,an,ak,aj,hA⟩;have am:=hK.B;by_cases af:i<Z a.A
 ·have ae:=AJ af;have ad:=AJ (show i<Z b.A by omega);have ai:=A7 af;have ah:=A7 (show i<Z b.A by omega);generalize a.A[i]=t at ae ai;generalize b.A[i]=u at ad ah;have HS:AD _:=XK ae ad;clear ae ad;by_cases ac:Z t≠Z u
  ·have b1:((Z t:Int) !=(Z u:Int))=true:=by simp;omega
   have HR:AD (Nk a.A b.A=decide ((Z t:Int)<(Z u:Int))):=by rw[AD,hA.o,HS.o,if_pos ac];simp
   clear ac hA HS
   repeat' first|refine Z1 ?_|refine Z8 fun yd yb=>?_|refine Z4 ?_;clear yb yd|refine Z2 ?_ ?_<;>intro h ab<;>try exact Xp|refine Z3 ?_|exact Zt|apply yb.o;clear yb yd
   first|exact⟨_,rfl,by rw[HR.o],hK⟩|exact⟨_,rfl,by rw[HR.o]⟩
  ·have b1:((Z t:Int) !=(Z u:Int))=false:=by simp;omega
   by_cases aa:t≠u
   ·have b2:(t !=u)=true:=by simpa using aa
    have b3:(t==u)=false:=by simpa using aa
    have HR:AD (Nk a.A b.A=Op.bytesLess t u):=by rw[AD,hA.o,HS.o,if_neg ac,if_pos aa]
    clear ac aa hA HS
    repeat' first|refine Z1 ?_|refine Z8 fun yd yb=>?_|refine Z4 ?_;clear yb yd|refine Z2 ?_ ?_<;>intro h ab<;>try exact Xp|refine Z3 ?_|exact Zt|apply yb.o;clear yb yd
    first|exact⟨_,rfl,by rw[HR.o],hK⟩|exact⟨_,rfl,by rw[HR.o]⟩
   ·have b2:(t !=u)=false:=by simpa using aa
    have b3:(t==u)=true:=by simpa using aa
    have HR:AD (Nk a.A b.A=Nk (a.A.drop (i+1)) (b.A.drop (i+1))):=by rw[AD,hA.o,HS.o,if_neg ac,if_neg aa]
    clear ac aa hA HS
    repeat' first|refine Z1 ?_|refine Z8 fun yd yb=>?_|refine Z4 ?_;clear yb yd|refine Z2 ?_ ?_<;>intro h ab<;>try exact Xp|refine Z3 ?_|exact Zt|apply yb.o;clear yb yd
    refine⟨Z a.A-(i+1),AA,i+1,?_⟩
    ((repeat' refine Zi ?_ ?_)<;>first|exact Xq|exact HR|exact Xs)
 ·have HR:AD (Nk a.A b.A=false):=by
   rw[AD,hA.o,List.drop_of_length_le AA];unfold Nk;rfl
  clear hA
  repeat' first|refine Z1 ?_|refine Z8 fun yd yb=>?_|refine Z4 ?_;clear yb yd|refine Z2 ?_ ?_<;>intro h ab<;>try exact Xp|refine Z3 ?_|exact Zt|apply yb.o;clear yb yd
  first|exact⟨_,rfl,by rw[HR.o],hK⟩|exact⟨_,rfl,by rw[HR.o]⟩
def ub (d:Nat):UInt8:=UInt8.ofNat (48+d)
theorem QI {a b}(ha:a<=9)(hb:b<=9):ub a<ub b↔a<b:=by
 unfold ub;rw[UInt8.lt_iff_toNat_lt];simp only[UInt8.toNat_ofNat'];omega
theorem SA {a b}(ha:a<=9)(hb:b<=9):ub a=ub b↔a=b:=by
 unfold ub;rw[<-KF];simp only[UInt8.toNat_ofNat'];omega
theorem TV {v}(h:v<=999):(v<10/\Lib.decDigits v=[ub v])\/(10<=v/\v<100/\Lib.decDigits v=[ub (v / 10),ub (v % 10)])\/(100<=v/\Lib.decDigits v=[ub (v / 100),ub (v / 10 % 10),ub (v % 10)]):=by
 have two:∀v,10<=v->v<100->Lib.decDigits v=[ub (v / 10),ub (v % 10)]:=fun v h1 h2=>by
  have:=Nt (v:=v / 10) (d:=v % 10) AA AA;rw[show v / 10*10+v % 10=v by omega,Lib.decDigits_one (show v / 10<10 by omega)]at this;exact this
 by_cases h1:v<10
 ·exact .inl ⟨h1,Lib.decDigits_one h1⟩
 ·by_cases h2:v<100
  ·exact .inr (.inl ⟨AA,h2,two v AA h2⟩)
  ·refine .inr (.inr ⟨AA,?_⟩);have:=Nt (v:=v / 10) (d:=v % 10) AA AA;rw[show v / 10*10+v % 10=v by omega,two (v / 10) AA AA,show v / 10 / 10=v / 100 by omega]at this;exact this
theorem lj {v w}(hv:v<=999)(hw:w<=999):(Z (Lib.decDigits v)≠Z (Lib.decDigits w)->decide (Z (Lib.decDigits v)<Z (Lib.decDigits w))=decide (v<w))/\(Z (Lib.decDigits v)=Z (Lib.decDigits w)->Op.bytesLess (Lib.decDigits v) (Lib.decDigits w)=decide (v<w)):=by
 rcases TV hv with⟨a1,a2⟩|⟨a0,a1,a2⟩|⟨a1,a2⟩<;>rcases TV hw with⟨b1,b2⟩|⟨b0,b1,b2⟩|⟨b1,b2⟩<;>rw[a2,b2]<;>refine⟨fun h=>?_,fun h=>?_⟩<;>simp only[BQ,CP,ne_eq,not_true_eq_false]at h⊢ <;>first
  |(exact absurd h (by decide))
  |(rw[KL,DF,DF];omega)
  |(rw[KL,DF]
    simp only[Op.bytesLess,MO,Bool.and_false,MN,BX,DF,EH];rw[QI AA AA]
    try rw[QI AA AA,SA AA AA]
    try rw[QI AA AA,SA AA AA]
    all_goals omega)
theorem QP {t}(h:UT t)(hv:Ac t=false):∃v:Nat,v<=999/\(Ap t).2=v/\t=Lib.decDigits v:=by
 rcases h.1 with h1|⟨-,h2,h3,h4⟩
 ·rw[hv]at h1;cases h1
 ·refine⟨(Ap t).2.toNat,AA,AA,?_⟩;have e:(Ap t).2=(((Ap t).2.toNat:Nat):Int):=AA;rw[e]at h2
  conv=>lhs;rw[<-h2]
  unfold Lib.itoa;rw[if_neg AA,DU]
theorem wE:∀{ts us:List Tx},(∀t∈ts,UT t/\Ac t=false)->(∀t∈us,UT t/\Ac t=false)->Nk ts us=Fv (ts.map fun t=>(Ap t).2) (us.map fun t=>(Ap t).2)
 |[],_,_,_=>by simp[Nk,Fv]
 |_::_,[],_,_=>by simp[Nk,Fv]
 |t::ts,u::us,h1,h2=>by
  obtain⟨v,hv,ev,et⟩:=QP (h1 t (by simp)).1 (h1 t (by simp)).2;obtain⟨w,hw,ew,eu⟩:=QP (h2 u (by simp)).1 (h2 u (by simp)).2;have ih:=wE (ts:=ts) (us:=us) (fun x hx=>h1 x (by simp[hx])) fun x hx=>h2 x (by simp[hx]);obtain⟨c1,c2⟩:=lj hv hw;rw[<-et,<-eu]at c1 c2;simp only[CU,Nk,Fv];rw[ev,ew];by_cases e:v=w
  ·have:t=u:=by rw[et,eu,e]
   rw[if_neg (by simp[this]),if_neg (by simp[this]),if_pos AA];exact ih
  ·rw[if_neg (show¬((v:Int)=(w:Int))by omega)];have hd:decide ((v:Int)<(w:Int))=decide (v<w):=by simp
   rw[hd];by_cases hl:Z t≠Z u
   ·rw[if_pos hl];exact c1 hl
   ·have hl:=Classical.not_not.1 hl;rw[if_neg (by simp[hl]),if_pos]
    ·exact c2 hl
    ·intro e2;rw[e2,ew]at ev;omega
theorem ZC:∀{xs ys:List Int},Z xs=Z ys->Z xs<=3->Fv (C4 xs) (C4 ys)=Fv xs ys
 |[],[],_,_=>by simp[C4,Fv]
 |[a],[b],_,_=>by simp[C4,Fv]
 |[a,a2],[b,b2],_,_=>by simp[C4,Fv]
 |[a,a2,a3],[b,b2,b3],_,_=>by simp[C4,Fv]
 |[],_::_,h,_=>by cases h
 |_::_,[],h,_=>by cases h
 |[_],_::_::_,h,_=>by simp at h
 |[_,_],[_],h,_=>by simp at h
 |[_,_],_::_::_::_,h,_=>by simp at h
 |[_,_,_],[_],h,_=>by simp at h
 |[_,_,_],[_,_],h,_=>by simp at h
 |[_,_,_],_::_::_::_::_,h,_=>by simp at h
 |_::_::_::_::_,_,_,h=>by simp at h
theorem sF {ar a b}(ha:Gf ar a)(hb:Gf ar b)(hp:a.B=b.B):Nk a.A b.A=Fv (H5 a).2 (H5 b).2:=by
 rw[wE ha.tm hb.tm];unfold H5 Cw C9;simp only[BS];exact (ZC (by rw[BP,BP,ha.ln,hb.ln,hp]) (by rw[BP];exact ha.le)).symm
end Go.Proofs.YtmoeoppbmhfbpabGreatDoorI
