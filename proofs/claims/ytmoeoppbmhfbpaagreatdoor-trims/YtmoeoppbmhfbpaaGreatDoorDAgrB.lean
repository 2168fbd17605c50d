import Derived.Test.YtmoeoppbmhfbpaaGreatDoorDFolB
import Derived.Test.YtmoeoppbmhfbpaaGreatDoorDSpaE
import Derived.Test.YtmoeoppbmhfbpaaGreatDoorDOptB
import Derived.Test.YtmoeoppbmhfbpaaGreatDoorDProgH
import Derived.Test.YtmoeoppbmhfbpaaGreatDoorDProgM
import Derived.Test.YtmoeoppbmhfbpaaGreatDoorDTxtK
import Derived.Test.YtmoeoppbmhfbpaaGreatDoorDShelf
import Derived.Test.YtmoeoppbmhfbpaaGreatDoorDEngW
import Derived.Test.YtmoeoppbmhfbpaaGreatDoorDRspE
import Derived.Test.YtmoeoppbmhfbpaaGreatDoorDRefA
import Derived.Test.YtmoeoppbmhfbpaaGreatDoorDGram
import Derived.Test.YtmoeoppbmhfbpaaGreatDoorDFacts
import Derived.Test.YtmoeoppbmhfbpaaGreatDoorDEngR
import Derived.Test.YtmoeoppbmhfbpaaGreatDoorDPrtF
import Derived.Test.YtmoeoppbmhfbpaaGreatDoorDDocI
set_option maxHeartbeats 64000000
set_option maxRecDepth 100000
set_option linter.all false
namespace Go.Proofs.YtmoeoppbmhfbpaaGreatDoorD
open Go.Abs
def Ea:Tx->Int
 |[]=>0
 |b::r=>if b=35 then 1000+(Ap r).2 else (Ap (b::r)).2
theorem aB (b:UInt8)(r:Tx):Ea (b::r)=if b=35 then 1000+(Ap r).2 else (Ap (b::r)).2:=rfl
theorem Gu (v:Tx):Ea (35::v)=1000+(Ap v).2:=by rw[aB,if_pos rfl]
def GT (t:Tx):Prop:=(Ab t=false/\VT t/\DT t)\/∃v,t=35::v/\Ab v=true/\VT v
theorem tR {v:Tx}(h:VT v)(hv:Ab v=true):∃b,v=[b]/\Bo b.toNat=true:=by
 rcases h with h|⟨h1,h2⟩
 ·exact h
 ·exfalso;cases v with
  |nil=>exact h1 rfl
  |cons b r=>
   have hd:=h2 b (by simp);have hl:Bo b.toNat=true:=hv;unfold A1 at hd;unfold Bo at hl;simp at hd hl;omega
theorem tS {v:Tx}(h:VT v)(hv:Ab v=false):v≠[]/\∀b∈v,A1 b.toNat=true:=by
 rcases h with⟨b,rfl,h⟩|h
 ·have:Ab [b]=Bo b.toNat:=rfl;rw[this,h]at hv;cases hv
 ·exact h
theorem Gc {t:Tx}(h:VT t)(hv:Ab t=false):Ea t=(Ap t).2:=by
 obtain⟨h1,h2⟩:=tS h hv;cases t with
 |nil=>exact absurd rfl h1
 |cons b r=>
  rw[aB,if_neg];rintro rfl;have:=h2 35 (by simp);revert this;decide
theorem Mo {v:Tx}(h:VT v)(hv:Ab v=true):0<=(Ap v).2/\(Ap v).2<26:=by
 obtain⟨b,rfl,hl⟩:=tR h hv;rw[Fv hl];unfold Bo at hl;simp at hl;simp only;omega
theorem Oe {t:Tx}(h:DT t)(hv:Ab t=false):Lib.itoa (Ap t).2=t/\0<=(Ap t).2/\(Ap t).2<=999:=by
 rcases h with h|⟨-,h⟩
 ·rw[h]at hv;cases hv
 ·exact h
theorem wS {t:Tx}(h:GT t):∃n:Nat,Ea t=(n:Int)/\n<1026:=by
 rcases h with⟨h1,h2,h3⟩|⟨v,rfl,h1,h2⟩
 ·rw[Gc h2 h1];obtain⟨-,e1,e2⟩:=Oe h3 h1;exact⟨(Ap t).2.toNat,Agm,Agm⟩
 ·obtain⟨e1,e2⟩:=Mo h2 h1;refine⟨(1000+(Ap v).2).toNat,?_,Agm⟩;rw[Gu];omega
theorem Ve {t u:Tx}(ht:GT t)(hu:GT u)(h:Ea t=Ea u):t=u:=by
 rcases ht with⟨h1,h2,h3⟩|⟨v,rfl,h1,h2⟩
 ·rcases hu with⟨g1,g2,g3⟩|⟨w,rfl,g1,g2⟩
  ·rw[Gc h2 h1,Gc g2 g1]at h;rw[<-(Oe h3 h1).1,<-(Oe g3 g1).1,h]
  ·exfalso;rw[Gc h2 h1]at h;have:=(Oe h3 h1).2.2;have:=(Mo g2 g1).1;rw[Gu]at h;omega
 ·rcases hu with⟨g1,g2,g3⟩|⟨w,rfl,g1,g2⟩
  ·exfalso;rw[Gc g2 g1]at h;have:=(Oe g3 g1).2.2;have:=(Mo h2 h1).1;rw[Gu]at h;omega
  ·rw[Gu,Gu]at h;rw[pP h2 g2 h1 g1 Agm]
theorem wT {t:Tx}(h:VT t):Ea (Gj t)=(Ws (Ap t)).2:=by
 unfold Gj Ws;rw[C6];cases hv:Ab t with
 |true=>rw[if_pos rfl,if_pos rfl,Gu]
 |false=>rw[if_neg (by simp),if_neg (by simp)];exact Gc h hv
theorem Abw {t:Tx}(h:VT t)(hd:DT t):GT (Gj t):=by
 unfold Gj;cases hv:Ab t with
 |true=>rw[if_pos rfl];exact .inr ⟨t,rfl,hv,h⟩
 |false=>rw[if_neg (by simp)];exact .inl ⟨hv,h,hd⟩
def Jo (N:List Tx)(a:RAtom):Nat:=N.idxOf a.pred+(if a.nt=true then N.length else 0)
def eA (N:List Tx)(a:RAtom):Nat×Cc:=(Jo N a,D3 (a.terms.map Ea))
structure AtI (N:List Tx)(ar:Tx->Nat)(a:RAtom):Prop where
 mem:a.pred∈N
 len:a.terms.length=ar a.pred
 le3:a.terms.length<=3
structure GA (N:List Tx)(ar:Tx->Nat)(a:RAtom):Prop extends AtI N ar a where
 gt:∀t∈a.terms,GT t
theorem Ud {N:List Tx}{a b:RAtom}(ha:a.pred∈N)(hb:b.pred∈N)(h:Jo N a=Jo N b):a.nt=b.nt/\a.pred=b.pred:=by
 have h1:=Afj ha;have h2:=Afj hb;unfold Jo at h;have hnt:a.nt=b.nt:=by
  cases e1:a.nt<;>cases e2:b.nt<;>simp[e1,e2]at h⊢ <;>omega
 rw[hnt]at h;have hi:N.idxOf a.pred=N.idxOf b.pred:=Agm;refine⟨hnt,?_⟩;have e1:=Afi h1;have e2:=Afi h2;rw[<-e1,<-e2];congr 1
theorem Ki {α β:Type}{f:α->β}:∀{l m:List α},(∀a∈l,∀b∈m,f a=f b->a=b)->l.map f=m.map f->l=m
 |[],[],_,_=>rfl
 |[],b::m,_,h=>by simp at h
 |a::l,[],_,h=>by simp at h
 |a::l,b::m,hi,h=>by
  simp only[Ad7,List.cons.injEq]at h;rw[hi a (by simp) b (by simp) h.1,Ki (fun x hx y hy=>hi x (by simp[hx]) y (by simp[hy])) h.2]
theorem cH {N:List Tx}{ar:Tx->Nat}{a b:RAtom}(ha:GA N ar a)(hb:GA N ar b)(h:eA N a=eA N b):a=b:=by
 unfold eA at h;simp only[Prod.mk.injEq]at h;obtain⟨h1,h2⟩:=Ud ha.mem hb.mem h.1;have hl:a.terms.length=b.terms.length:=by rw[ha.len,hb.len,h2]
 have h3:=P7 (by simpa using hl) (by simpa using ha.le3) h.2;exact RAtom.ext' h1 h2 (Ki (fun x hx y hy e=>Ve (ha.gt x hx) (hb.gt y hy) e) h3)
structure RuI (N:List Tx)(ar:Tx->Nat)(y:RItem):Prop where
 head:AtI N ar y.head
 hnt:y.head.nt=false
 body:∀b∈y.body,AtI N ar b
 vt:∀t∈y.head.terms,VT t/\DT t
 vb:∀b∈y.body,∀t∈b.terms,VT t/\DT t
 safe:∀v∈y.head.terms,Ab v=true->∃b∈y.body,v∈b.terms
theorem xO (N:List Tx)(y:RItem):(Dw N y).head=Ru N y.head:=rfl
theorem Ey (N:List Tx)(y:RItem):(Dw N y).body=y.body.map fun b=>E5 N.length (H9 N b):=by simp[Dw,xN,kZ]
theorem V6 (N:List Tx)(b:RAtom):(E5 (N.length:Int) (H9 N b)).a.p=(Jo N b:Nat):=by
 unfold E5 H9 Ru Jo;simp only;cases h:b.nt with
 |true=>simp
 |false=>simp
theorem Kt (N:List Tx)(b:RAtom):(E5 (N.length:Int) (H9 N b)).a.ts=b.terms.map Ap:=by
 unfold E5 H9 Ru;simp only;split<;>rfl
def Acs (v:Int):UInt8:=UInt8.ofNat (65+v.toNat)
def wB (μ:Tx->Tx):Nu:=fun v=>Ea (μ [Acs v])
theorem wA {μ:Tx->Tx}{v:Tx}(h:VT v)(hv:Ab v=true):wB μ (Ap v).2=Ea (μ v):=by
 obtain⟨b,rfl,hl⟩:=tR h hv;unfold wB Acs;rw[Fv hl];have hb:65<=b.toNat:=by unfold Bo at hl;simp at hl;omega
 have e:(65+((b.toNat:Int)-65).toNat)=b.toNat:=Agm;simp only[e,UInt8.ofNat_toNat]
theorem Abf {μ:Tx->Tx}{t:Tx}(h:VT t):D2 (wB μ) (Ap t)=Ea (Hc μ t):=by
 unfold D2;rw[C6];cases hv:Ab t with
 |true=>rw[if_pos rfl,Cq hv,wA h hv]
 |false=>rw[if_neg (by simp),Ce hv,Gc h hv]
theorem uV {μ:Tx->Tx}{ts:List Tx}{p:Int}(h:∀t∈ts,VT t):Br ⟨p,ts.map Ap⟩ (wB μ)=D3 ((ts.map (Hc μ)).map Ea):=by
 unfold Br;simp only[Ad3];congr 1;exact Afa fun t ht=>Abf (h t ht)
theorem R7 {a:Dy}{ν:Nu}:Br a ν=Br ⟨0,a.ts⟩ ν:=rfl
structure L0 (N:List Tx)(ar:Tx->Nat)(Rd:List RItem)(x:RItem):Prop where
 ru:∀y∈Rd,RuI N ar y
 x:RuI N ar x
theorem bZ {N:List Tx}{ar:Tx->Nat}{b:RAtom}(h:AtI N ar b)(ht:∀t∈b.terms,VT t/\DT t):GA N ar (Cl b):=
 ⟨⟨h.mem,by show (b.terms.map Gj).length=_;rw[Ae3];exact h.len,by show (b.terms.map Gj).length<=3;rw[Ae3];exact h.le3⟩,fun t hm=>by
  obtain⟨u,hu,rfl⟩:=Ae4.1 hm
  exact Abw (ht u hu).1 (ht u hu).2⟩
theorem Qp {N:List Tx}{b:RAtom}(ht:∀t∈b.terms,VT t):eA N (Cl b)=((E5 (N.length:Int) (H9 N b)).a.p.toNat,Ct (E3 (E5 (N.length:Int) (H9 N b)).a)):=by
 unfold eA;rw[V6,Af3];refine Prod.ext rfl ?_;show D3 ((b.terms.map Gj).map Ea)=D3 (((E5 (N.length:Int) (H9 N b)).a.ts.map Ws).map (·.2));rw[Kt,Ad3,Ad3,Ad3];congr 1;exact Afa fun t hm=>wT (ht t hm)
theorem kV {N:List Tx}{ar:Tx->Nat}{Rd:List RItem}{x:RItem}(h:L0 N ar Rd x):Sat true Rd (x.body.map Cl) (fun a=>GA N ar a/\LstF (Rd.map (Dw N)) (E4 N x) (eA N a).1 (eA N a).2):=by
 refine⟨fun a ha=>?_,fun A' ac hg y hy hd hs=>?_⟩
 ·obtain⟨b,hb,rfl⟩:=Ae4.1 ha;refine⟨bZ (h.x.body b hb) (h.x.vb b hb),?_⟩;rw[Qp fun t ht=>(h.x.vb b hb t ht).1];have hf:E3 (E5 (N.length:Int) (H9 N b)).a∈E4 N x:=by
   unfold E4;rw[Ey,Ad3];exact Ae4.2 ⟨b,hb,rfl⟩
  exact LstF.fact hf
 ·obtain⟨μ,h1,-,rfl⟩:=hs;have hr:=h.ru y hy;have hb:∀b∈y.body,GA N ar (F3 μ b)/\LstF (Rd.map (Dw N)) (E4 N x) (eA N (F3 μ b)).1 (eA N (F3 μ b)).2:=fun b hb=>ac _ (h1 b hb rfl);refine⟨⟨⟨hr.head.mem,by show (y.head.terms.map _).length=_;rw[Ae3];exact hr.head.len,by show (y.head.terms.map _).length<=3;rw[Ae3];exact hr.head.le3⟩,fun t ht=>?_⟩,?_⟩
  ·obtain⟨u,hu,rfl⟩:=Ae4.1 ht;cases hv:Ab u with
   |false=>rw[Ce hv];exact .inl ⟨hv,(hr.vt u hu).1,(hr.vt u hu).2⟩
   |true=>
    obtain⟨b,aa,ab⟩:=hr.safe u hu hv;exact (hb b aa).1.gt _ (Ae4.2 ⟨u,ab,rfl⟩)
  ·have hc:=LstF.cl (Rd.map (Dw N)) (E4 N x) (Dw N y) (Ae4.2 ⟨y,hy,rfl⟩) (wB μ) (fun l hl=>by
    rw[Ey]at hl;obtain⟨b,aa,rfl⟩:=Ae4.1 hl;have h2:=(hb b aa).2;rw[V6,Af3,R7,Kt,uV fun t ht=>(hr.vb b aa t ht).1]
    exact h2)
   rw[xO,R7]at hc;have e1:(Ru N y.head).ts=y.head.terms.map Ap:=rfl;rw[e1,uV fun t ht=>(hr.vt t ht).1]at hc;have e2:(Ru N y.head).p.toNat=(eA N (F3 μ y.head)).1:=by
    show (((N.idxOf y.head.pred:Nat):Int)).toNat=Jo N (F3 μ y.head);unfold Jo;have:(F3 μ y.head).nt=false:=hr.hnt;rw[this,Af3];rfl
   rw[e2]at hc;exact hc
theorem Acz {N:List Tx}{ar:Tx->Nat}{Rd:List RItem}{x:RItem}{A:List RAtom}(h:L0 N ar Rd x)(hA:∀a∈A,GA N ar a)(hc:∀y∈Rd,DoneX true A [] y):ClD (Rd.map (Dw N)) (fun k t=>∃a∈A,eA N a=(k,t)):=by
 intro r hr ν hb;obtain⟨y,hy,rfl⟩:=Ae4.1 hr;have ab:=h.ru y hy;have ah:∀b∈y.body,∃a∈A,a.nt=b.nt/\a.pred=b.pred/\a.terms.map Ea=b.terms.map fun t=>D2 ν (Ap t):=fun b aa=>by
  obtain⟨a,ha,e⟩:=hb (E5 N.length (H9 N b)) (by rw[Ey];exact Ae4.2 ⟨b,aa,rfl⟩);rw[V6,Af3,R7,Kt]at e;unfold eA at e;simp only[Prod.mk.injEq]at e;obtain⟨e1,e2⟩:=e;obtain⟨g1,g2⟩:=Ud (hA a ha).mem (ab.body b aa).mem e1;refine⟨a,ha,g1,g2,?_⟩;unfold Br at e2;simp only[Ad3]at e2;have:=P7 (by simp only[Ae3];rw[(hA a ha).len,(ab.body b aa).len,g2]) (by rw[Ae3];exact (hA a ha).le3) e2;exact this
 let μ:Tx->Tx:=fun v=>Classical.epsilon fun u=>GT u/\Ea u=ν (Ap v).2;have hμ:∀v,(∃u,GT u/\Ea u=ν (Ap v).2)->GT (μ v)/\Ea (μ v)=ν (Ap v).2:=fun v hv=>Classical.epsilon_spec hv;have ac:∀b∈y.body,∀v∈b.terms,Ab v=true->GT (μ v)/\Ea (μ v)=ν (Ap v).2:=fun b aa v hv ai=>by
  obtain⟨a,ha,-,-,e⟩:=ah b aa;obtain⟨i,hi⟩:=Afc hv;have h1:(b.terms.map fun t=>D2 ν (Ap t))[i]?=some (D2 ν (Ap v)):=by rw[Adx,hi];rfl
  rw[<-e,Adx]at h1;cases af:a.terms[i]? with
  |none=>rw[af]at h1;cases h1
  |some u=>
   rw[af]at h1;have h2:Ea u=D2 ν (Ap v):=Afm h1;refine hμ v ⟨u,(hA a ha).gt u (Adp af),?_⟩;rw[h2];unfold D2;rw[C6,ai,if_pos rfl]
 have ad:∀t,VT t->DT t->(Ab t=true->GT (μ t)/\Ea (μ t)=ν (Ap t).2)->GT (Hc μ t)/\Ea (Hc μ t)=D2 ν (Ap t):=fun t h1 h2 h3=>by
  unfold D2;rw[C6];cases hv:Ab t with
  |true=>rw[if_pos rfl,Cq hv];exact h3 hv
  |false=>rw[if_neg (by simp),Ce hv];exact⟨.inl ⟨hv,h1,h2⟩,Gc h1 hv⟩
 have ae:∀b∈y.body,F3 μ b∈A:=fun b aa=>by
  obtain⟨a,ha,e1,e2,e3⟩:=ah b aa;have:F3 μ b=a:=by
   refine RAtom.ext' e1.symm e2.symm ?_;have hg:∀t∈b.terms,GT (Hc μ t)/\Ea (Hc μ t)=D2 ν (Ap t):=fun t ht=>ad t (ab.vb b aa t ht).1 (ab.vb b aa t ht).2 (ac b aa t ht);refine Ki (f:=Ea) (fun u hu w hw e=>?_) ?_
   ·obtain⟨t,ht,rfl⟩:=Ae4.1 hu;exact Ve (hg t ht).1 ((hA a ha).gt w hw) e
   ·show (b.terms.map (Hc μ)).map Ea=a.terms.map Ea;rw[e3,Ad3];exact Afa fun t ht=>(hg t ht).2
  rw[this];exact ha
 have hd:=hc y hy (F3 μ y.head) ⟨μ,fun b aa _=>ae b aa,fun b aa hp=>(by cases hp),rfl⟩;have hm:F3 μ y.head∈A:=by
  rcases hd with h'|h'
  ·exact h'
  ·simp at h'
 refine⟨F3 μ y.head,hm,?_⟩;unfold eA;refine Prod.ext ?_ ?_
 ·show Jo N (F3 μ y.head)=(((N.idxOf y.head.pred:Nat):Int)).toNat;unfold Jo;have:(F3 μ y.head).nt=false:=ab.hnt;rw[this,Af3];rfl
 ·show D3 ((y.head.terms.map (Hc μ)).map Ea)=D3 ((y.head.terms.map Ap).map (D2 ν));rw[Ad3,Ad3];congr 1;refine Afa fun t ht=>?_
  exact (ad t (ab.vt t ht).1 (ab.vt t ht).2 (fun hv=>by
   obtain⟨b,aa,aj⟩:=ab.safe t ht hv
   exact ac b aa t aj hv)).2
theorem tD {N:List Tx}{ar:Tx->Nat}{Rd:List RItem}{x:RItem}{b c:Bool}(h:L0 N ar Rd x)
  (hd:(∃A,qC true Rd (x.body.map Cl) 200 A/\(c=true↔Cl x.head∈A))\/(jX true Rd (x.body.map Cl) 200/\c=false))
  (hp:V8 (Rd.map (Dw N)) (E4 N x) (Dw N x).head.p.toNat (Ct (E3 (Dw N x).head)) b):b=c:=by
 have ad:eA N (Cl x.head)=((Dw N x).head.p.toNat,Ct (E3 (Dw N x).head)):=by
  have:=Qp (N:=N) (b:=x.head) fun t ht=>(h.x.vt t ht).1;rw[this];have e:(E5 (N.length:Int) (H9 N x.head)).a=Ru N x.head:=by
   unfold E5;rw[if_neg (by show¬x.head.nt=true;rw[h.x.hnt];simp)];rfl
  rw[e];rfl
 obtain⟨M,hn,ab,aa⟩:=hp;rcases hd with⟨A,hS,hb⟩|⟨hN,rfl⟩
 ·have ac:∀a∈A,GA N ar a/\LstF (Rd.map (Dw N)) (E4 N x) (eA N a).1 (eA N a).2:=hS.least _ (kV h);have ak:=Acz h (fun a ha=>(ac a ha).1) hS.cl;have hF:∀a∈E4 N x,∃a'∈A,eA N a'=(a.p.toNat,Ct a):=fun a ha=>by
   unfold E4 at ha;rw[Ey,Ad3]at ha;obtain⟨b',ae,rfl⟩:=Ae4.1 ha;exact⟨Cl b',hS.gv _ (Ae4.2 ⟨b',ae,rfl⟩),Qp fun t ht=>(h.x.vb b' ae t ht).1⟩
  have hL:∀k t,LstF (Rd.map (Dw N)) (E4 N x) k t->∃a∈A,eA N a=(k,t):=fun k t hl=>hl _ ak hF;have af:=uM hn (fun k t hm=>hL k t (ab k t hm));have ah:=hS.len;rw[if_pos Agm]at aa;obtain⟨aj,ai⟩:=aa;have:b=true↔c=true:=by
   rw[ai,hb];constructor
   ·intro hm;obtain⟨a,ha,e⟩:=hL _ _ (ab _ _ hm);rw[<-ad]at e;rw[<-cH (ac a ha).1 (bZ h.x.head h.x.vt) e];exact ha
   ·intro hm;have:=aj _ _ (ac _ hm).2;rw[ad]at this;exact this
  cases b<;>cases c<;>simp_all
 ·obtain⟨L,h1,h2,h3⟩:=hN _ (kV h);by_cases ht:tot M<=200
  ·exfalso;rw[if_pos ht]at aa
   have:=Abr (M:=M) (P:=L.map (eA N)) (Mg h1 fun a ha b hb e=>cH (h3 a ha).1 (h3 b hb).1 e) (fun p hp=>by
    obtain⟨a,ha,rfl⟩:=Ae4.1 hp
    exact aa.1 _ _ (h3 a ha).2)
   rw[Ae3]at this;omega
  ·rw[if_neg ht]at aa;exact aa
theorem lD {t:Tx}(h:(As t).1=0):∀x∈Bh t,∀y∈Bh t,∀a∈Ae x,∀b∈Ae y,a.pred=b.pred->a.terms.length=b.terms.length:=by
 have aa:∀i,i<(Bh t).length->Fq (Bh t) i=false:=by
  unfold As at h;split at h
  ·simp at h
  split at h
  ·simp at h
  unfold Cf at h;split at h
  ·simp at h
  ·rename_i hk;exact Ic hk
 have key:∀(i j:Nat) (x y:RItem) (a b:RAtom),(Bh t)[i]?=some x->(Bh t)[j]?=some y->i<j->a∈Ae x->b∈Ae y->a.pred=b.pred->a.terms.length=b.terms.length:=by
  intro i j x y a b hi hj ac ha hb he;have h1:=aa j (Adm.1 hj).1;unfold Fq at h1;rw[hj]at h1;simp only[Aev,List.mem_range]at h1;obtain⟨k,hk⟩:=Afc hb;have h2:=h1 k (Adm.1 hk).1;unfold Kw at h2;rw[hk]at h2;simp only[Aer,not_exists,not_and]at h2
  have h3:=h2 a (by
   unfold Cj F6;refine Aet.2 (.inl (Ae9.2 ⟨x,?_,ha⟩))
   exact Adp (i:=i) (by rw[Adk,if_pos ac];exact hi))
  unfold clash at h3;simp[he]at h3;exact h3
 intro x hx y hy a ha b hb he;obtain⟨i,hi⟩:=Afc hx;obtain⟨j,hj⟩:=Afc hy;rcases Aft i j with ab|rfl|ad
 ·exact key i j x y a b hi hj ab ha hb he
 ·rw[hi]at hj;cases hj;exact Y3 h x hx a ha b hb he
 ·exact (key j i y x b a hj hi ad hb ha he.symm).symm
def Wc (l:List RItem)(ar:Tx->Nat):Prop:=∀x∈l,∀a∈Ae x,a.terms.length=ar a.pred
theorem Aa6 {t:Tx}(h:(As t).1=0):∃ar,Wc (Bh t) ar:=by
 refine⟨fun p=>Classical.epsilon fun n=>∃x∈Bh t,∃a∈Ae x,a.pred=p/\a.terms.length=n,fun x hx a ha=>?_⟩;have:=Classical.epsilon_spec (p:=fun n=>∃x∈Bh t,∃b∈Ae x,b.pred=a.pred/\b.terms.length=n) ⟨_,x,hx,a,ha,rfl,rfl⟩;obtain⟨y,hy,b,hb,e1,e2⟩:=this;rw[lD h x hx y hy a ha b hb e1.symm];exact e2
theorem Ack {t:Tx}{N:List Tx}{l:List RItem}{cs:List AV}{ar:Tx->Nat}(h:Right t N l cs)(hA:Wc l ar){x:RItem}(hx:x∈l)(ho:x.out=false):RuI N ar x:=by
 have hi:=h.items;have ad:x∈Bh t:=by rw[hi];exact hx
 have hf:=Ns h.ok x ad;have ac:=h.wi x hx;have hw:=hf.w.2.2 ho;have aa:∀a,a=x.head\/a∈x.body->a∈Ae x:=fun a ha=>by
  rcases ha with rfl|ha<;>simp[Ae,ho, *]
 have ab:∀a∈Ae x,a.terms.length=ar a.pred:=hA x hx;refine⟨⟨ac.mem,ab _ (aa _ (.inl rfl)),hw.1.2.2.1⟩,hw.2.1,fun b hb=>⟨(ac.wa b hb).1,ab _ (aa _ (.inr hb)),(hw.2.2.2 b hb).2.2.1⟩,fun w hm=>⟨hf.va _ (aa _ (.inl rfl)) w hm,hf.dt _ (aa _ (.inl rfl)) w hm⟩,fun b hb w hm=>⟨hf.va _ (aa _ (.inr hb)) w hm,hf.dt _ (aa _ (.inr hb)) w hm⟩,fun v hm hv=>?_⟩;obtain⟨c0,p,hH,-⟩:=hf.rule ho;obtain⟨a,ha,-,ae⟩:=hH.saf v hv (.inl hm);exact⟨a,ha,ae⟩
def arN (N:List Tx)(ar:Tx->Nat)(k:Nat):Nat:=ar (N.getD (if k<N.length then k else k-N.length) [])
theorem mZ {N:List Tx}{ar:Tx->Nat}{a:RAtom}(h:a.pred∈N):arN N ar (Jo N a)=ar a.pred:=by
 have hl:=Afj h;have e:N.getD (N.idxOf a.pred) []=a.pred:=by
  rw[List.getD_eq_getElem?_getD,Adn hl,Option.getD_some];exact Afi hl
 unfold arN Jo;cases hn:a.nt with
 |true=>
  simp only[if_true];rw[if_neg Agm,Nat.add_sub_cancel,e]
 |false=>
  simp only[Aei,if_false,Adq];rw[if_pos hl,e]
theorem Aag {w:Tx}(hv:VT w)(hd:DT w)(h:(Ap w).1=false):∃n:Nat,(Ap w).2=(n:Int)/\n<1026:=by
 rw[C6]at h;obtain⟨-,e1,e2⟩:=Oe hd h;exact⟨(Ap w).2.toNat,Agm,Agm⟩
theorem sL {w:Tx}(hv:VT w)(hd:DT w):0<=(Ap w).2/\(Ap w).2<=999:=by
 cases h:Ab w with
 |true=>have:=Mo hv h;omega
 |false=>obtain⟨-,e1,e2⟩:=Oe hd h;omega
theorem vM {N:List Tx}{a:RAtom}(h:a.pred∈N):Jo N a<2*N.length:=by
 have:=Afj h;unfold Jo;split<;>omega
theorem cC {ts:List Tx}{v:Int}(h:(true,v)∈ts.map Ap):∃w∈ts,Ab w=true/\(Ap w).2=v:=by
 obtain⟨w,hw,e⟩:=Ae4.1 h;refine⟨w,hw,?_,by rw[e]⟩;rw[<-C6,e]
theorem cR (n:Int)(l:Lit):(E5 n l).neg=false:=by
 unfold E5;split
 ·rfl
 ·rename_i h;simpa using h
theorem Acj {N:List Tx}{ar:Tx->Nat}{y:RItem}(h:RuI N ar y)(h5:y.body.length<=5):RW (2*N.length) (arN N ar) (Dw N y):=by
 have hb:∀l∈(Dw N y).body,∃b∈y.body,l=E5 (N.length:Int) (H9 N b):=fun l hl=>by
  rw[Ey]at hl;obtain⟨b,hb,rfl⟩:=Ae4.1 hl;exact⟨b,hb,rfl⟩
 have af:Jo N y.head=N.idxOf y.head.pred:=by unfold Jo;rw[h.hnt];simp
 have ad:(Dw N y).head.p=((Jo N y.head:Nat):Int):=by rw[af];rfl
 have ac:(Dw N y).head.ts=y.head.terms.map Ap:=rfl;refine⟨⟨by rw[ac,Ae3];exact h.head.le3,⟨_,ad,vM h.head.mem⟩,by rw[Ey,Ae3];omega,fun l hl=>?_,fun l hl=>?_⟩,fun l hl hn=>?_,?_,fun l hl=>?_,fun t ht hc=>?_,fun v hv=>?_,fun l hl v hv=>?_,fun v hv=>?_⟩
 ·obtain⟨b,aa,rfl⟩:=hb l hl;rw[Kt,Ae3];exact (h.body b aa).le3
 ·obtain⟨b,aa,rfl⟩:=hb l hl;exact⟨_,V6 N b,vM (h.body b aa).mem⟩
 ·obtain⟨b,aa,rfl⟩:=hb l hl;rw[cR]at hn;cases hn
 ·rw[ac,Ae3,ad,Af3,mZ h.head.mem];exact h.head.len
 ·obtain⟨b,aa,rfl⟩:=hb l hl;rw[Kt,Ae3,V6,Af3,mZ (h.body b aa).mem];exact (h.body b aa).len
 ·rw[ac]at ht;obtain⟨w,hw,rfl⟩:=Ae4.1 ht;exact Aag (h.vt w hw).1 (h.vt w hw).2 hc
 ·rw[ac]at hv;obtain⟨w,hw,ab,rfl⟩:=cC hv;exact Mo (h.vt w hw).1 ab
 ·obtain⟨b,aa,rfl⟩:=hb l hl;rw[Kt]at hv;obtain⟨w,hw,ab,rfl⟩:=cC hv;exact Mo (h.vb b aa w hw).1 ab
 ·have hv:A9 (Dw N y).head.ts v=true:=by
   rcases hv with hv|⟨l,hl,hn,-⟩
   ·exact hv
   ·obtain⟨b,aa,rfl⟩:=hb l hl;rw[cR]at hn;cases hn
  rw[hasV_iff,ac]at hv;obtain⟨w,hw,ab,rfl⟩:=cC hv;obtain⟨b,aa,ae⟩:=h.safe w hw ab;refine⟨E5 (N.length:Int) (H9 N b),by rw[Ey];exact Ae4.2 ⟨b,aa,rfl⟩,cR _ _,?_⟩;rw[hasV_iff,Kt];refine Ae4.2 ⟨w,ae,?_⟩;rw[<-ab,<-C6]
theorem vA {ts:List Tx}(h:∀t∈ts,VT t/\DT t):Sml (ts.map Ap):=fun t ht=>by
 obtain⟨w,hw,rfl⟩:=Ae4.1 ht;have:=sL (h w hw).1 (h w hw).2;omega
def bX (N:List Tx)(l:List RItem)(i:Nat)(x:RItem)(b:Bool):Prop:=V8 ((oth l i l.length).map (Dw N)) (E4 N x) (Dw N x).head.p.toNat (Ct (E3 (Dw N x).head)) b
def rR (N:List Tx)(l:List RItem)(n:Nat):Prop:=∀i y,i<n->l[i]?=some y->y.out=false->En N l (rpl i [] l)=true->bX N l i y false
def chR (N:List Tx)(l:List RItem)(idn:Nat)(x:AV)(b:Bool):Prop:=
 (b=false/\rR N l l.length)\/(b=true/\∃i y,l[i]?=some y/\y.out=false/\En N l (rpl i [] l)=true/\bX N l i y true/\rR N l i/\∃id c',x=C8 N idn (rpl i [] l) id c'/\EL (PI N) (rpl i [] l) c')
theorem GL.less {N:List Tx}{l:List RItem}(h:GL N l){i:Nat}:GL N (rpl i [] l):=by
 have hm:∀y∈rpl i [] l,y∈l:=fun y hy=>by
  rcases E0 hy with h|h
  ·exact h
  ·cases h
 exact⟨Ade (O7 l) h.len,h.nm,fun y hy=>h.msr y (hm y hy),fun y hy=>h.fits y (hm y hy),fun y hy=>h.pos y (hm y hy),fun y hy=>h.va y (hm y hy),fun y hy=>h.ar y (hm y hy)⟩
theorem Mt (N:List Tx)(l:List RItem)(cs:List AV)(idn idi:Nat)(ar:Nat->Nat)(hG:GL N l)(hI:BkI N l ar)(hE:EL (PI N) l cs)(I:St):
  ACalls Tryz.prog 157 [C8 N idn l idi cs] I fun r I'=>(∃x b,r=tp [x,sc (.bool b)]/\chR N l idn x b/\xS x)/\Keep I I':=by
 have bh:=EL.length Gg hE;have ax:=hG.len;have bb:Bk N l cs:=(hG.bkm hE).bk ax;have ak:=fun i I=>Ua N l [] cs [] idn idi 1 i hE rfl Agm (by simp) I;have ai:=fun i c' id' (a9:EL (PI N) (rpl i [] l) c') I=>Lx N l (rpl i [] l) cs c' idn idi id' (hG.bkm hE) (hG.less.bkm a9).bj I;simp only[Ael]at ak;refine Z9 37 [.cell 2 66,.tmp 3] Tryz.func157 ?_
 refine zz ?_
 refine Ad (fun m s I'=>∃(i:Nat),m=l.length-i/\i<=l.length/\s 1=ptr I.nobj 0/\s 2=ptr (I.nobj+1) 0/\s 10=sl idi l.length cs/\s 11=sc (.int .i64 l.length)/\s 12=sc (.int .i64 i)/\Keep I I'/\I.nobj+1<I'.nobj/\I'.obj I.nobj=[sl idn N.length (N.map str),sl idi l.length cs]/\I'.obj (I.nobj+1)=[nilS,nilS]/\Agt (rR N l i)) l.length
  ⟨0,Agm,Agm,Ago,Ago,Ago,Ago,rfl,Xs,Agq,by rw[Ah Agq,Al],by first|exact Al|simp[Al],fun i y h=>Agm⟩ ?_
 rintro m s I' ⟨i,rfl,hi,h1,h2,bo,bn,bm,hK,bg,be,bd,hA⟩;have bf:=hK.nobj;by_cases a7:i<l.length
 ·have aa:=Adn a7;obtain⟨a6,ih,idb,b,r,ba,hd⟩:=J6 hE aa;generalize l[i]=x at hd aa a6 ba;have af:(x.out=false->En N l (rpl i [] l)=true->bX N l i x false)->Agt (rR N l (i+1)):=fun h j y hj hy ho hb=>by
   rcases Adg j i with h'|h'
   ·exact hA.out j y h' hy ho hb
   ·have:j=i:=Agm;subst this;rw[aa]at hy;cases hy;exact h ho hb
  cases aj:x.out with
  |true=>
   rw[aj]at hd;have HA:=af (fun h=>by rw[aj]at h;cases h);clear af hA aa
   repeat' first|refine Z1 ?_|refine Z8 fun ya J=>?_|refine Z4 ?_;clear J ya|refine Z2 ?_ ?_<;>intro h ae<;>try exact Xp|refine Z3 ?_|exact Zt|apply J.out;clear J ya
   refine⟨l.length-(i+1),Agm,i+1,?_⟩
   ((repeat' refine Zi ?_ ?_)<;>first|exact Xq|exact HA|exact Xs)
  |false=>
   have a4:=fun I=>Wp N l cs idn idi i ar x bb hI aa aj I;have ak:=ak i;have ai:=ai i;have HG:Agt (l[i]?=some x):=aa;have ay:Agt _:=af;have bc:Agt (x.out=false):=aj;rw[aj]at hd;cases ah:En N l (rpl i [] l)with
   |false=>
    rw[ah]at ai;have HA:=af (fun _ h=>by rw[ah]at h;cases h);clear af hA aa ah ay a4
    repeat' first|refine Z1 ?_|refine Z8 fun ya J=>?_|refine Z4 ?_;clear J ya|refine Z2 ?_ ?_<;>intro h ae<;>try exact Xp|(refine Z5 ?_;first|(refine Xi (ak _) ?_;rintro _ _ ⟨⟨id6,c6,rfl,ao⟩,an⟩;(have ad:=an.nobj;have ac:=an.obj;(try simp only[Ac,Aa,Ax]at ad ac)))|(refine Xi (ai c6 id6 ao _) ?_;rintro _ _ ⟨⟨x7,rfl,a0,⟨id71,n71,c71,id72,n72,c72,rfl⟩⟩,am⟩;(have aw:=am.nobj;have au:=am.obj)))|refine Z3 ?_|exact Zt|apply J.out;clear J ya
    refine⟨l.length-(i+1),Agm,i+1,?_⟩
    ((repeat' refine Zi ?_ ?_)<;>first|exact Xq|exact HA|exact Xs)
   |true=>
    rw[ah]at ai;have a5:Agt (En N l (rpl i [] l)=true):=ah;clear af aa ah
    repeat' first|refine Z1 ?_|refine Z8 fun ya J=>?_|refine Z4 ?_;clear J ya|refine Z2 ?_ ?_<;>intro h ae<;>try exact Xp|(refine Z5 ?_;first|(refine Xi (ak _) ?_;rintro _ _ ⟨⟨id6,c6,rfl,ao⟩,an⟩;(have ad:=an.nobj;have ac:=an.obj;(try simp only[Ac,Aa,Ax]at ad ac)))|(refine Xi (ai c6 id6 ao _) ?_;rintro _ _ ⟨⟨x7,rfl,a0,⟨id71,n71,c71,id72,n72,c72,rfl⟩⟩,am⟩;(have aw:=am.nobj;have au:=am.obj))|(refine Xi (a4 _) ?_;rintro _ _ ⟨bi,rfl,ab,a3⟩;(have av:=a3.nobj;have ap:=a3.obj;have az:Agt (bX N l i x bi):=ab;clear ab;(try simp only[Ac,Aa]at av ap))))|refine Z3 ?_|exact Zt|apply J.out;clear J ya
    ·have ab:=az.out;rw[h]at ab;exact⟨_,rfl,⟨_,true,rfl,.inr ⟨rfl,i,x,HG.out,bc.out,a5.out,ab,hA.out,id6,c6,a0 rfl,ao⟩,_,_,_,_,_,_,rfl⟩,Xs⟩
    ·have ab:=az.out;rw[h]at ab;have HA:=ay.out fun _ _=>ab;clear ab az ay HG a5 hA;refine⟨l.length-(i+1),Agm,i+1,?_⟩
     ((repeat' refine Zi ?_ ?_)<;>first|exact Xq|exact HA|exact Xs)
 ·have a8:i=l.length:=Agm;subst a8
  repeat' first|refine Z1 ?_|refine Z8 fun ya J=>?_|refine Z4 ?_;clear J ya|refine Z2 ?_ ?_<;>intro h ae<;>try exact Xp|refine Z3 ?_|exact Zt|apply J.out;clear J ya
  exact⟨_,rfl,⟨_,false,rfl,.inl ⟨rfl,hA.out⟩,_,_,_,_,_,_,rfl⟩,Xs⟩
structure RtL (N:List Tx)(ar:Tx->Nat)(l:List RItem):Prop where
 gl:GL N l
 b5:∀x∈l,x.body.length<=5
 ru:∀x∈l,x.out=false->RuI N ar x
 wi:∀x∈l,WI N x
 wit:∀x∈l,Du x
theorem Ab2 {N:List Tx}{l:List RItem}{ar:Tx->Nat}(h5:∀y∈l,y.body.length<=5)(h:∀y∈l,y.out=false->RuI N ar y):BkI N l (arN N ar):=by
 refine⟨h5,fun y hy ho=>Acj (h y hy ho) (h5 y hy),fun y hy ho=>?_,fun y hy ho a ha=>?_⟩
 ·have hr:=h y hy ho;refine⟨vA hr.vt,fun k hk=>?_⟩;rw[Ey]at hk;obtain⟨b,hb,rfl⟩:=Ae4.1 hk;rw[Kt];exact vA (hr.vb b hb)
 ·have hr:=h y hy ho;unfold E4 at ha;rw[Ey,Ad3]at ha;obtain⟨b,hb,rfl⟩:=Ae4.1 ha;have e:=Qp (N:=N) (b:=b) fun t ht=>(hr.vb b hb t ht).1;have hg:=bZ (hr.body b hb) (hr.vb b hb);unfold eA at e;simp only[Prod.mk.injEq]at e;have e1:(E3 (E5 (N.length:Int) (H9 N b)).a).p.toNat=Jo N b:=by
   show (E5 (N.length:Int) (H9 N b)).a.p.toNat=_;rw[V6,Af3]
  show Sh _ (E3 (E5 (N.length:Int) (H9 N b)).a).p.toNat (Ct (E3 (E5 (N.length:Int) (H9 N b)).a));rw[e1,<-e.2];refine⟨_,rfl,?_,fun z hz=>?_⟩
  ·rw[Ae3,mZ (hr.body b hb).mem];exact hg.len
  ·obtain⟨u,hu,rfl⟩:=Ae4.1 hz;exact wS (hg.gt u hu)
theorem RtL.bki {N:List Tx}{ar:Tx->Nat}{l:List RItem}(h:RtL N ar l):BkI N l (arN N ar):=Ab2 h.b5 h.ru
theorem Ab9 {t:Tx}(h1:DT t)(h2:Ri t)(h3:t.length<=1000)(h4:VT t):UT t:=by
 refine⟨h1,h2,h3,fun hv=>?_⟩;rcases h4 with⟨b,rfl,hb⟩|⟨h5,h6⟩
 ·simp only[Bo,Adr,Age]at hb;refine⟨b.toNat-65,Agm,?_⟩;have:=Gr (k:=((b.toNat-65:Nat):Int)) Agm Agm;have e:(Kk ((b.toNat-65:Nat):Int)).toNat=b.toNat:=Agm;rw[UInt8.toNat_inj.1 e]
 ·cases t with
  |nil=>exact absurd rfl h5
  |cons b r=>
   have h7:=h6 b (by simp);have h8:Bo b.toNat=true:=hv;simp only[Bo,A1,Adr,Age]at h7 h8;omega
theorem Right.rt {t:Tx}{N:List Tx}{l:List RItem}{cs:List AV}(h:Right t N l cs){ar:Tx->Nat}(hA:Wc l ar):RtL N ar l:=by
 have hf:∀x∈l,Fine x:=fun x hx=>Ns h.ok x (by rw[h.items];exact hx);have h5:∀y∈l,y.body.length<=5:=fun y hy=>(h.wi y hy).body;refine⟨⟨h.bk.len,h.bk.nm,fun x hx=>?_,h.bk.fits,h.bk.pos,fun x hx=>(hf x hx).va,fun x hx a ha b hb=>Y3 h.ok x (by rw[h.items];exact hx) a (Aq (.inr ha)) b (Aq (.inr hb))⟩,h5,fun x hx ho=>Ack h hA hx ho,h.wi,h.wit⟩;have hw:=h.wi x hx;have hs:=hw.short;refine⟨hw.out,by have:=hw.body;omega,hw.mem,hs.1.1,fun a ha=>?_⟩;have ad:=h.wit x hx;have ho:x.out=false:=by
  cases ho:x.out with
  |false=>rfl
  |true=>simp[Ae,ho,hw.out ho]at ha
 have aa:a=x.head\/a∈x.body:=by simpa[Ae,ho]using ha
 obtain⟨w1,w2,w3,w4⟩:=ad.2.2 ho;have ab:F1 a:=by rcases aa with rfl|aa;exact w1;exact w4 a aa
 have ac:short a:=by rcases aa with rfl|aa;exact hs.1;exact hs.2 a aa
 exact⟨ab.2.2.1,ac.1,fun t ht=>Ab9 ((hf x hx).dt a ha t ht) (ab.2.2.2 t ht) (ac.2.2 t ht) ((hf x hx).va a ha t ht)⟩
theorem RtL.sub {N:List Tx}{ar:Tx->Nat}{l l':List RItem}(h:RtL N ar l)(hs:∀x∈l',x∈l)(hl:l'.length<=16):RtL N ar l':=
 ⟨⟨hl,h.gl.nm,fun x hx=>h.gl.msr x (hs x hx),fun x hx=>h.gl.fits x (hs x hx),fun x hx=>h.gl.pos x (hs x hx),fun x hx=>h.gl.va x (hs x hx),fun x hx=>h.gl.ar x (hs x hx)⟩,fun x hx=>h.b5 x (hs x hx),fun x hx=>h.ru x (hs x hx),fun x hx=>h.wi x (hs x hx),fun x hx=>h.wit x (hs x hx)⟩
theorem RtL.less {N:List Tx}{ar:Tx->Nat}{l:List RItem}(h:RtL N ar l)(i:Nat):RtL N ar (rpl i [] l):=
 h.sub (fun x hx=>by rcases E0 hx with h|h;exact h;cases h) (Ade (O7 l) h.gl.len)
theorem tP {x:RItem}{k:Nat}(h:Du x)(ho:x.out=false):Du (Cw x k):=by
 obtain⟨w1,w2,w3,w4⟩:=h.2.2 ho;exact⟨h.1,(fun e=>by cases e),fun _=>⟨w1,w2,Ade (Afp _ _) w3,fun a ha=>w4 a (Afn ha)⟩⟩
theorem Ab7 {N:List Tx}{x:RItem}{k:Nat}(h:WI N x)(hw:Du x)(ho:x.out=false):WI N (Cw x k):=by
 have ac:=tP (k:=k) hw ho;have ab:∀a,a∈Ae (Cw x k)->WA N (Au x) a->WA N (Au (Cw x k)) a:=fun a ha hA=>⟨hA.1,hA.2.1,hA.2.2.1,hA.2.2.2.1,fun w hm=>⟨(hA.2.2.2.2 w hm).1,(hA.2.2.2.2 w hm).2.1,fun hv=>Ze ac ha hm hv⟩⟩;have aa:∀a∈(Cw x k).body,a∈x.body:=fun a ha=>Afn ha;exact⟨K7 h.fits,⟨h.short.1,fun a ha=>h.short.2 a (aa a ha)⟩,fun a ha=>h.va a (K6 ho ha),h.vh,fun a ha=>h.vb a (aa a ha),h.mem,Ade (Afp _ _) h.body,(fun e=>by cases e),fun _=>⟨(h.head ho).1,ab _ (Aq (.inl ⟨rfl,rfl⟩)) (h.head ho).2⟩,fun a ha=>ab a (Aq (.inr ha)) (h.wa a (aa a ha))⟩
theorem kW {y:RItem}(hs:Et y=true)(hu:∀a∈Ae y,∀t∈a.terms,UT t){a:RAtom}(ha:a∈Ae y){t:Tx}(ht:t∈a.terms)(hv:Ab t=true):∃b∈y.body,b.nt=false/\t∈b.terms:=by
 unfold Et at hs;have:=Aev.1 (by simpa using hs:(Ae y).any (fun a=>a.terms.any fun w=>(Ap w).1&&!Fc y (Ap w).2)=false) a ha;have:=Aev.1 (by simpa using this:a.terms.any (fun w=>(Ap w).1&&!Fc y (Ap w).2)=false) t ht;rw[C6,hv]at this;have hb:Fc y (Ap t).2=true:=by simpa using this
 unfold Fc at hb;obtain⟨b,ac,hb⟩:=Aer.1 hb;simp only[Adr,Af9,Aer]at hb;obtain⟨hnt,u,ab,aa⟩:=hb;refine⟨b,ac,hnt,?_⟩;unfold Oc at aa;simp only[Adr,Agf]at aa;have:t=u:=tellU.inj _ _ (hu a ha t ht) (hu b (Aq (.inr ac)) u ab) (Prod.ext (by rw[C6,hv,aa.1]) aa.2.symm);rw[this];exact ab
theorem RtL.wo {N:List Tx}{ar:Tx->Nat}{l:List RItem}(h:RtL N ar l){i k:Nat}{x:RItem}(hx:l[i]?=some x)(ho:x.out=false)(hs:Et (Cw x k)=true):RtL N ar (rpl i [Cw x k] l):=by
 have aa:=Adp hx;have hm:∀y∈rpl i [Cw x k] l,y∈l\/y=Cw x k:=fun y hy=>by
  rcases E0 hy with h|h
  ·exact .inl h
  ·exact .inr (by simpa using h)
 have ab:∀a∈(Cw x k).body,a∈x.body:=fun a ha=>Afn ha;refine⟨h.gl.wo hx ho,fun y hy=>?_,fun y hy ac=>?_,fun y hy=>?_,fun y hy=>?_⟩
 ·rcases hm y hy with hy|rfl
  ·exact h.b5 y hy
  ·exact Ade (Afp _ _) (h.b5 x aa)
 ·rcases hm y hy with hy|rfl
  ·exact h.ru y hy ac
  ·have hr:=h.ru x aa ho;refine⟨hr.head,hr.hnt,fun b hb=>hr.body b (ab b hb),hr.vt,fun b hb=>hr.vb b (ab b hb),fun v hm hv=>?_⟩;obtain⟨b,hb,-,ad⟩:=kW hs (fun a ha=>((h.gl.msr x aa).at_ a (K6 ho ha)).2.2) (a:=x.head) (Aq (.inl ⟨rfl,rfl⟩)) hm hv;exact⟨b,hb,ad⟩
 ·rcases hm y hy with hy|rfl
  ·exact h.wi y hy
  ·exact Ab7 (h.wi x aa) (h.wit x aa) ho
 ·rcases hm y hy with hy|rfl
  ·exact h.wit y hy
  ·exact tP (h.wit x aa) ho
def ClS (R:List RItem)(gv:List RAtom)(S:RAtom->Prop):Prop:=(∀a∈gv,S a)/\∀y∈R,∀μ,(∀b∈y.body,S (F3 μ b))->S (F3 μ y.head)
def LA (R:List RItem)(gv:List RAtom)(a:RAtom):Prop:=∀S,ClS R gv S->S a
theorem LA.cl (R:List RItem)(gv:List RAtom):ClS R gv (LA R gv):=⟨fun a ha S hS=>hS.1 a ha,fun y hy μ hb S hS=>hS.2 y hy μ fun b aa=>hb b aa S hS⟩
theorem zB {R:List RItem}{gv:List RAtom}{S:RAtom->Prop}(h:Sat true R gv S):ClS R gv S:=
 ⟨h.1,fun y hy μ hb=>h.2 (gv++y.body.map (F3 μ)) (fun a ha=>by
  rcases Aet.1 ha with ha|ha
  ·exact h.1 a ha
  ·obtain⟨b,aa,rfl⟩:=Ae4.1 ha
   exact hb b aa) (fun a ha=>Af5 _ ha) y hy _ ⟨μ,fun a ha _=>Af6 _ (Ae4.2 ⟨a,ha,rfl⟩),fun a ha hp=>(by cases hp),rfl⟩⟩
section
variable {N:List Tx} {ar:Tx->Nat} {Rd:List RItem} {x:RItem}
theorem Zm (h:L0 N ar Rd x){a:RAtom}(ha:LA Rd (x.body.map Cl) a):GA N ar a/\LstF (Rd.map (Dw N)) (E4 N x) (eA N a).1 (eA N a).2:=ha _ (zB (kV h))
theorem Acu (h:L0 N ar Rd x){A:RAtom->Prop}(hA:∀a,A a->GA N ar a)(hc:∀y∈Rd,∀μ,(∀b∈y.body,A (F3 μ b))->A (F3 μ y.head)):ClD (Rd.map (Dw N)) (fun k t=>∃a,A a/\eA N a=(k,t)):=by
 intro r hr ν hb;obtain⟨y,hy,rfl⟩:=Ae4.1 hr;have ab:=h.ru y hy;have ah:∀b∈y.body,∃a,A a/\a.nt=b.nt/\a.pred=b.pred/\a.terms.map Ea=b.terms.map fun t=>D2 ν (Ap t):=fun b aa=>by
  obtain⟨a,ha,e⟩:=hb (E5 N.length (H9 N b)) (by rw[Ey];exact Ae4.2 ⟨b,aa,rfl⟩);rw[V6,Af3,R7,Kt]at e;unfold eA at e;simp only[Prod.mk.injEq]at e;obtain⟨e1,e2⟩:=e;obtain⟨g1,g2⟩:=Ud (hA a ha).mem (ab.body b aa).mem e1;refine⟨a,ha,g1,g2,?_⟩;unfold Br at e2;simp only[Ad3]at e2;exact P7 (by simp only[Ae3];rw[(hA a ha).len,(ab.body b aa).len,g2]) (by rw[Ae3];exact (hA a ha).le3) e2
 let μ:Tx->Tx:=fun v=>Classical.epsilon fun u=>GT u/\Ea u=ν (Ap v).2;have hμ:∀v,(∃u,GT u/\Ea u=ν (Ap v).2)->GT (μ v)/\Ea (μ v)=ν (Ap v).2:=fun v hv=>Classical.epsilon_spec hv;have ac:∀b∈y.body,∀v∈b.terms,Ab v=true->GT (μ v)/\Ea (μ v)=ν (Ap v).2:=fun b aa v hv ai=>by
  obtain⟨a,ha,-,-,e⟩:=ah b aa;obtain⟨i,hi⟩:=Afc hv;have h1:(b.terms.map fun t=>D2 ν (Ap t))[i]?=some (D2 ν (Ap v)):=by rw[Adx,hi];rfl
  rw[<-e,Adx]at h1;cases af:a.terms[i]? with
  |none=>rw[af]at h1;cases h1
  |some u=>
   rw[af]at h1;have h2:Ea u=D2 ν (Ap v):=Afm h1;refine hμ v ⟨u,(hA a ha).gt u (Adp af),?_⟩;rw[h2];unfold D2;rw[C6,ai,if_pos rfl]
 have ad:∀t,VT t->DT t->(Ab t=true->GT (μ t)/\Ea (μ t)=ν (Ap t).2)->GT (Hc μ t)/\Ea (Hc μ t)=D2 ν (Ap t):=fun t h1 h2 h3=>by
  unfold D2;rw[C6];cases hv:Ab t with
  |true=>rw[if_pos rfl,Cq hv];exact h3 hv
  |false=>rw[if_neg (by simp),Ce hv];exact⟨.inl ⟨hv,h1,h2⟩,Gc h1 hv⟩
 have ae:∀b∈y.body,A (F3 μ b):=fun b aa=>by
  obtain⟨a,ha,e1,e2,e3⟩:=ah b aa;have:F3 μ b=a:=by
   refine RAtom.ext' e1.symm e2.symm ?_;have hg:∀t∈b.terms,GT (Hc μ t)/\Ea (Hc μ t)=D2 ν (Ap t):=fun t ht=>ad t (ab.vb b aa t ht).1 (ab.vb b aa t ht).2 (ac b aa t ht);refine Ki (f:=Ea) (fun u hu w hw e=>?_) ?_
   ·obtain⟨t,ht,rfl⟩:=Ae4.1 hu;exact Ve (hg t ht).1 ((hA a ha).gt w hw) e
   ·show (b.terms.map (Hc μ)).map Ea=a.terms.map Ea;rw[e3,Ad3];exact Afa fun t ht=>(hg t ht).2
  rw[this];exact ha
 refine⟨F3 μ y.head,hc y hy μ ae,?_⟩;unfold eA;refine Prod.ext ?_ ?_
 ·show Jo N (F3 μ y.head)=(((N.idxOf y.head.pred:Nat):Int)).toNat;unfold Jo;have:(F3 μ y.head).nt=false:=ab.hnt;rw[this,Af3];rfl
 ·show D3 ((y.head.terms.map (Hc μ)).map Ea)=D3 ((y.head.terms.map Ap).map (D2 ν));rw[Ad3,Ad3];congr 1;refine Afa fun t ht=>?_
  exact (ad t (ab.vt t ht).1 (ab.vt t ht).2 (fun hv=>by
   obtain⟨b,aa,aj⟩:=ab.safe t ht hv
   exact ac b aa t aj hv)).2
theorem Aa5 (h:L0 N ar Rd x){k:Nat}{t:Cc}(hl:LstF (Rd.map (Dw N)) (E4 N x) k t):∃a,LA Rd (x.body.map Cl) a/\eA N a=(k,t):=
 hl _ (Acu h (fun a ha=>(Zm h ha).1) (LA.cl Rd _).2) fun a ha=>by
  unfold E4 at ha;rw[Ey,Ad3]at ha;obtain⟨b,hb,rfl⟩:=Ae4.1 ha;exact⟨Cl b,(LA.cl Rd _).1 _ (Ae4.2 ⟨b,hb,rfl⟩),Qp fun t ht=>(h.x.vb b hb t ht).1⟩
theorem Aah (h:L0 N ar Rd x):eA N (Cl x.head)=((Dw N x).head.p.toNat,Ct (E3 (Dw N x).head)):=by
 rw[Qp (N:=N) (b:=x.head) fun t ht=>(h.x.vt t ht).1];have e:(E5 (N.length:Int) (H9 N x.head)).a=Ru N x.head:=by
  unfold E5;rw[if_neg (by show¬x.head.nt=true;rw[h.x.hnt];simp)];rfl
 rw[e];rfl
theorem pM (h:L0 N ar Rd x):LstF (Rd.map (Dw N)) (E4 N x) (Dw N x).head.p.toNat (Ct (E3 (Dw N x).head))↔LA Rd (x.body.map Cl) (Cl x.head):=by
 have he:=Aah h;constructor
 ·intro hl;obtain⟨a,ha,e⟩:=Aa5 h hl;rw[<-he]at e;rw[<-cH (Zm h ha).1 (bZ h.x.head h.x.vt) e];exact ha
 ·intro ha;have:=(Zm h ha).2;rw[he]at this;exact this
end
theorem Aaa {N N2:List Tx}{ar ar2:Tx->Nat}{R R2:List RItem}{x x2:RItem}(h:L0 N ar R x)(h2:L0 N2 ar2 R2 x2){f g:RAtom->RAtom}
  (hf:∀a,LA R (x.body.map Cl) a->LA R2 (x2.body.map Cl) (f a)/\g (f a)=a) (hg:∀a,LA R2 (x2.body.map Cl) a->LA R (x.body.map Cl) (g a)/\f (g a)=a)
  (hh:f (Cl x.head)=Cl x2.head) (af:g (Cl x2.head)=Cl x.head) {b b2:Bool}
  (hp:V8 (R.map (Dw N)) (E4 N x) (Dw N x).head.p.toNat (Ct (E3 (Dw N x).head)) b) (hp2:V8 (R2.map (Dw N2)) (E4 N2 x2) (Dw N2 x2).head.p.toNat (Ct (E3 (Dw N2 x2).head)) b2):b=b2:=by
 obtain⟨M,hn,hs,hi⟩:=hp;obtain⟨M2,ad,ab,aa⟩:=hp2;have key:∀{N N2:List Tx} {ar ar2:Tx->Nat} {R R2:List RItem} {x x2:RItem} (h:L0 N ar R x) (h2:L0 N2 ar2 R2 x2) {f g:RAtom->RAtom} (hg:∀a,LA R2 (x2.body.map Cl) a->LA R (x.body.map Cl) (g a)/\f (g a)=a) {M M2:MM} (ad:∀y∈M2,y.2.Nodup) (ab:∀j t,MD M2 j t->LstF (R2.map (Dw N2)) (E4 N2 x2) j t) (ha:∀j t,LstF (R.map (Dw N)) (E4 N x) j t->MD M j t),tot M2<=tot M:=by
  intro N N2 ar ar2 R R2 x x2 h h2 f g hg M M2 ad ab ha
  haveI:Nonempty RAtom:=⟨x.head⟩
  let dec:Nat×Cc->RAtom:=fun p=>Classical.epsilon fun a=>LA R (x.body.map Cl) a/\eA N a=p;have:=uM (M:=M2) (A:=J0 0 M) (e:=fun p=>eA N2 (f (dec p))) ad fun k t hm=>by
   obtain⟨a2,ah,e2⟩:=Aa5 h2 (ab k t hm);obtain⟨h3,h4⟩:=hg a2 ah;have hd:LA R (x.body.map Cl) (dec (eA N (g a2)))/\eA N (dec (eA N (g a2)))=eA N (g a2):=Classical.epsilon_spec (p:=fun a=>LA R (x.body.map Cl) a/\eA N a=eA N (g a2)) ⟨g a2,h3,rfl⟩;have he:dec (eA N (g a2))=g a2:=cH (Zm h hd.1).1 (Zm h h3).1 hd.2
   refine⟨eA N (g a2),?_,by
    show eA N2 (f (dec (eA N (g a2))))=(k,t)
    rw[he,h4,e2]⟩
   have:=ha _ _ (Zm h h3).2;exact (Jz M 0 _ _).2 ⟨Agm,this⟩
  rw[<-Mn M 0];exact this
 have ac:LstF (R.map (Dw N)) (E4 N x) (Dw N x).head.p.toNat (Ct (E3 (Dw N x).head))↔LstF (R2.map (Dw N2)) (E4 N2 x2) (Dw N2 x2).head.p.toNat (Ct (E3 (Dw N2 x2).head)):=by
  rw[pM h,pM h2];constructor
  ·intro ha;rw[<-hh];exact (hf _ ha).1
  ·intro ha;rw[<-af];exact (hg _ ha).1
 by_cases ht:tot M<=200
 ·rw[if_pos ht]at hi;have h3:tot M2<=tot M:=key h h2 hg ad ab hi.1;rw[if_pos Agm]at aa;have:b=true↔b2=true:=by
   rw[hi.2,aa.2];exact⟨fun hm=>aa.1 _ _ (ac.1 (hs _ _ hm)),fun hm=>hi.1 _ _ (ac.2 (ab _ _ hm))⟩
  cases b<;>cases b2<;>simp_all
 ·rw[if_neg ht]at hi;by_cases ae:tot M2<=200
  ·rw[if_pos ae]at aa;have h3:tot M<=tot M2:=key h2 h hf hn hs aa.1;omega
  ·rw[if_neg ae]at aa;rw[hi,aa]
def rA (f:Tx->Tx)(a:RAtom):RAtom:=⟨a.nt,a.pred,a.terms.map f⟩
def Hj (m:Tx->Tx):Tx->Tx
 |[]=>[]
 |b::r=>if b=35 then 35::m r else b::r
theorem Zw (m:Tx->Tx)(v:Tx):Hj m (35::v)=35::m v:=by unfold Hj;dsimp only;rw[if_pos rfl]
theorem Pi {m:Tx->Tx}{u:Tx}(h:VT u)(hv:Ab u=false):Hj m u=u:=by
 obtain⟨h1,h2⟩:=tS h hv;cases u with
 |nil=>rfl
 |cons b r=>
  unfold Hj;dsimp only;rw[if_neg];rintro rfl;have:=h2 35 (by simp);revert this;decide
theorem vK {m:Tx->Tx}{μ:Tx->Tx}{b:RAtom}(h:∀t∈b.terms,VT t):rA (Hj m) (F3 μ b)=F3 (fun v=>Hj m (μ v)) b:=by
 refine RAtom.ext' rfl rfl ?_;show (b.terms.map (Hc μ)).map (Hj m)=b.terms.map (Hc fun v=>Hj m (μ v));rw[Ad3];refine Afa fun t ht=>?_;show Hj m (Hc μ t)=_;cases hv:Ab t with
 |true=>rw[Cq hv,Cq hv]
 |false=>rw[Ce hv,Ce hv,Pi (h t ht) hv]
def G8 (L:List Tx)(w:Tx):Tx:=(L.find? fun v=>Da L v==w).getD w
section
variable {x:RItem} (hx:XR x)
include hx
theorem XR.back {a:RAtom}(ha:a∈Ae x){t:Tx}(ht:t∈a.terms)(hv:Ab t=true):G8 (Au x) (Da (Au x) t)=t:=by
 have hm:=hx.mem ha ht hv;have aa:∀u∈Au x,Ab u=true:=fun u hu=>by
  have:=Me ((Ae x).flatMap (·.terms)) [] (by simp) Afs;exact (this.1 u hu).1
 unfold G8;cases hf:(Au x).find? fun v=>Da (Au x) v==Da (Au x) t with
 |none=>
  have:=Aex.1 hf t hm;simp at this
 |some u=>
  have h1:=Ae1 hf;have h2:=List.find?_some hf;simp only[Agf]at h2;show u=t;unfold Da at h2;rw[if_pos (aa u h1),if_pos hv]at h2;have w1:=hx.which h1;have w2:=hx.which hm;have ab:=hx.few;rw[w1.1,w2.1]at h2;have h3:=List.cons.inj h2;have e1:=Gr (k:=((Au x).idxOf u:Nat)) Agm Agm;have e2:=Gr (k:=((Au x).idxOf t:Nat)) Agm Agm;rw[h3.1]at e1;exact El h1 hm Agm
theorem XR.wvar {a:RAtom}(ha:a∈Ae x){t:Tx}(ht:t∈a.terms):Ab (Da (Au x) t)=Ab t:=H1 fun hv=>hx.rng ha ht hv
theorem XR.atM_ren {a:RAtom}(ha:a∈Ae x)(μ:Tx->Tx):F3 μ (B9 (Au x) a)=F3 (fun v=>μ (Da (Au x) v)) a:=by
 refine RAtom.ext' rfl rfl ?_;show (a.terms.map (Da (Au x))).map (Hc μ)=_;rw[Ad3];refine Afa fun t ht=>?_;show Hc μ (Da (Au x) t)=_;have hw:=hx.wvar ha ht;cases hv:Ab t with
 |true=>rw[hv]at hw;rw[Cq hw,Cq hv]
 |false=>
  rw[hv]at hw;rw[Ce hw,Ce hv];unfold Da;rw[if_neg (by simp[hv])]
theorem XR.atM_back {a:RAtom}(ha:a∈Ae x)(μ:Tx->Tx):F3 (fun v=>μ (G8 (Au x) v)) (B9 (Au x) a)=F3 μ a:=by
 rw[hx.atM_ren ha];refine RAtom.ext' rfl rfl (Afa fun t ht=>?_);cases hv:Ab t with
 |true=>rw[Cq hv,Cq hv,hx.back ha ht hv]
 |false=>rw[Ce hv,Ce hv]
theorem XR.frz {a:RAtom}(ha:a∈Ae x)(aa:∀t∈a.terms,VT t):rA (Hj (Da (Au x))) (Cl a)=Cl (B9 (Au x) a):=by
 refine RAtom.ext' rfl rfl ?_;show (a.terms.map Gj).map (Hj (Da (Au x)))=(a.terms.map (Da (Au x))).map Gj;rw[Ad3,Ad3];refine Afa fun t ht=>?_;show Hj (Da (Au x)) (Gj t)=Gj (Da (Au x) t);have hw:=hx.wvar ha ht;unfold Gj;rw[hw];cases hv:Ab t with
 |true=>rw[if_pos rfl,if_pos rfl,Zw]
 |false=>
  rw[if_neg (by simp),if_neg (by simp),Pi (aa t ht) hv];unfold Da;rw[if_neg (by simp[hv])]
theorem XR.frz_back {a:RAtom}(ha:a∈Ae x)(aa:∀t∈a.terms,VT t):rA (Hj (G8 (Au x))) (Cl (B9 (Au x) a))=Cl a:=by
 refine RAtom.ext' rfl rfl ?_;show ((a.terms.map (Da (Au x))).map Gj).map (Hj (G8 (Au x)))=a.terms.map Gj;rw[Ad3,Ad3];refine Afa fun t ht=>?_;show Hj (G8 (Au x)) (Gj (Da (Au x) t))=Gj t;have hw:=hx.wvar ha ht;unfold Gj;rw[hw];cases hv:Ab t with
 |true=>rw[if_pos rfl,if_pos rfl,Zw,hx.back ha ht hv]
 |false=>
  rw[if_neg (by simp),if_neg (by simp)];have e:Da (Au x) t=t:=by unfold Da;rw[if_neg (by simp[hv])]
  rw[e,Pi (aa t ht) hv]
end
theorem cL {R:List RItem}{gv:List RAtom}{S:RAtom->Prop}(hX:∀y∈R,XR y):ClS R gv S↔ClS (R.map ren) gv S:=by
 constructor
 ·rintro⟨h1,h2⟩;refine⟨h1,fun z hz μ hb=>?_⟩;obtain⟨y,hy,rfl⟩:=Ae4.1 hz;have hx:=hX y hy;have e:=hx.atM_ren (Aq (.inl ⟨hx.out,rfl⟩)) μ;show S (F3 μ (B9 (Au y) y.head));rw[e];refine h2 y hy _ fun b aa=>?_;rw[<-hx.atM_ren (Aq (.inr aa)) μ];exact hb _ (Ae4.2 ⟨b,aa,rfl⟩)
 ·rintro⟨h1,h2⟩;refine⟨h1,fun y hy μ hb=>?_⟩;have hx:=hX y hy;rw[<-hx.atM_back (Aq (.inl ⟨hx.out,rfl⟩)) μ];refine h2 (ren y) (Ae4.2 ⟨y,hy,rfl⟩) _ fun z hz=>?_;obtain⟨b,aa,rfl⟩:=Ae4.1 hz;rw[hx.atM_back (Aq (.inr aa)) μ];exact hb b aa
theorem pR {R:List RItem}{gv gv2:List RAtom}{S:RAtom->Prop}{m:Tx->Tx}(hv:∀y∈R,∀a,a=y.head\/a∈y.body->∀t∈a.terms,VT t)(hg:∀a∈gv,rA (Hj m) a∈gv2)(h:ClS R gv2 S):ClS R gv fun a=>S (rA (Hj m) a):=
 ⟨fun a ha=>h.1 _ (hg a ha),fun y hy μ hb=>by
  show S (rA (Hj m) (F3 μ y.head));rw[vK (hv y hy _ (.inl rfl))];refine h.2 y hy _ fun b aa=>?_;rw[<-vK (hv y hy b (.inr aa))]
  exact hb b aa⟩
theorem pS {R:List RItem}{gv:List RAtom}{m n:Tx->Tx}(hv:∀y∈R,∀t∈y.head.terms,VT t)(hs:∀y∈R,∀v∈y.head.terms,Ab v=true->∃b∈y.body,v∈b.terms)(hg:∀a∈gv,rA (Hj m) (rA (Hj n) a)=a):ClS R gv fun a=>rA (Hj m) (rA (Hj n) a)=a:=by
 refine⟨hg,fun y hy μ hb=>?_⟩;refine RAtom.ext' rfl rfl ?_;show ((((y.head.terms.map (Hc μ)).map (Hj n)).map (Hj m)))=y.head.terms.map (Hc μ);rw[Ad3,Ad3];refine Afa fun t ht=>?_;show Hj m (Hj n (Hc μ t))=Hc μ t;cases aa:Ab t with
 |false=>rw[Ce aa,Pi (hv y hy t ht) aa,Pi (hv y hy t ht) aa]
 |true=>
  obtain⟨b,ac,ab⟩:=hs y hy t ht aa;have h1:(((b.terms.map (Hc μ)).map (Hj n)).map (Hj m))=b.terms.map (Hc μ):=congrArg RAtom.terms (hb b ac);rw[Ad3,Ad3]at h1;exact List.map_inj_left.1 h1 t ab
variable {Bd:Nat}
theorem tL {t:Tx}{l:List RItem}(h:(As t).1=0)(hp:Bv 16 t= .got l []):t.length<=600/\(Cf l).1=0:=by
 unfold As at h;split at h
 ·simp at h
 rename_i h1;split at h
 ·simp at h
 obtain⟨-,e,-,-⟩:=D8 Agm hp;rw[e]at h;exact⟨Agm,h⟩
set_option maxRecDepth 1000000
theorem Sd {l:List RItem}(h:(Cf l).1=0){x:RItem}(hx:x∈l):Cz x=true:=by
 unfold Cf at h;split at h
 ·cases h
 ·split at h
  ·cases h
  ·rename_i h2;obtain⟨i,hi,e⟩:=List.getElem_of_mem hx;have:=mF h2 i hi;unfold Db at this;rw[Adn hi,e]at this;simpa using this
theorem Abv {N:List Tx}{p q:Tx}(hp:p∈N)(hq:q∈N):(((N.idxOf p:Nat):Int)==((N.idxOf q:Nat):Int))=decide (p=q):=by
 by_cases h:p=q
 ·subst h;simp
 ·have:N.idxOf p≠N.idxOf q:=fun e=>h (by
   have h1:=Afi (Afj hp);have h2:=Afi (Afj hq)
   rw[<-h1,<-h2];congr 1)
  simp[h];omega
def StpR (T:List RItem->Option (List RItem)->Prop)(N:List Tx)(l:List RItem)(idn:Nat)(x:AV)(b:Bool):Prop:=xS x/\∃o,T l o/\b=o.isSome/\∀l',o=some l'->∃id c',x=C8 N idn l' id c'/\EL (PI N) l' c'
def StS (N:List Tx)(l:List RItem)(o:Option (List RItem)):Prop:=∃M,Ei N l M/\
 (((Gl N (Hv N.length M N.length) l).length=l.length/\o=none)\/((Gl N (Hv N.length M N.length) l).length≠l.length/\
  ((En N l (Gl N (Hv N.length M N.length) l)=false/\o=none)\/(En N l (Gl N (Hv N.length M N.length) l)=true/\o=some (Gl N (Hv N.length M N.length) l)))))
theorem chS.stp {N:List Tx}{l:List RItem}{idn:Nat}{x:AV}{b:Bool}(h:chS N l idn x b)(ht:xS x):StpR (StS N) N l idn x b:=by
 refine⟨ht,?_⟩;obtain⟨M,hM,h⟩:=h;rcases h with⟨h1,rfl⟩|⟨h1,h2,h3⟩
 ·exact⟨none,⟨M,hM,.inl ⟨h1,rfl⟩⟩,rfl,fun l' e=>by cases e⟩
 ·cases hb:En N l (Gl N (Hv N.length M N.length) l)with
  |false=>exact⟨none,⟨M,hM,.inr ⟨h1,.inl ⟨hb,rfl⟩⟩⟩,by rw[h2,hb];rfl,fun l' e=>by cases e⟩
  |true=>exact⟨_,⟨M,hM,.inr ⟨h1,.inr ⟨hb,rfl⟩⟩⟩,by rw[h2,hb];rfl,fun l' e=>by cases e;exact h3 (by rw[h2,hb])⟩
theorem StS.rt {N:List Tx}{ar:Tx->Nat}{l l':List RItem}(h:StS N l (some l'))(hR:RtL N ar l):RtL N ar l':=by
 obtain⟨M,-,⟨-,h⟩|⟨-,⟨-,h⟩|⟨-,h⟩⟩⟩:=h
 ·cases h
 ·cases h
 ·cases h;exact hR.sub (fun x hx=>(Afz.1 hx).1) (Ade (Af0 _ _) hR.gl.len)
theorem sQ (N:List Tx)(ar:Tx->Nat)(l:List RItem)(cs:List AV)(idn idi:Nat)(hR:RtL N ar l)(hE:EL (PI N) l cs)(I:St):
  ACalls Tryz.prog 103 [C8 N idn l idi cs,sc (.int .u8 (115:UInt8).toNat)] I fun r I'=>(∃x b,r=tp [x,sc (.bool b)]/\StpR (StS N) N l idn x b)/\Keep I I':=by
 have hS:=fun I=>K9 N l cs idn idi hR.gl hE I;have e1:((((115:UInt8).toNat:Nat):Int)==115)=true:=rfl;refine Z9 38 [.cell 4 66,.tmp 5] Tryz.func103 ?_
 repeat' first|refine Z1 ?_|refine Z8 fun ya J=>?_|refine Z4 ?_;clear J ya|refine Z2 ?_ ?_<;>intro h af<;>try exact Xp|refine Z5 ?_;refine Xi (hS _) ?_;rintro _ _ ⟨⟨x1,b1,rfl,ac,ad⟩,ae⟩;(have HX:Agt _:=ac;have HT:Agt (xS x1):=ad;obtain⟨t1,t2,t3,t4,t5,t6,rfl⟩:=ad;clear ac;have ab:=ae.nobj;have aa:=ae.obj;(try simp only[Aa]at ab aa))|refine Z3 ?_|exact Zt|apply J.out;clear J ya
 exact⟨_,rfl,⟨_,b1,rfl,chS.stp HX.out HT.out⟩,Xs⟩
end Go.Proofs.YtmoeoppbmhfbpaaGreatDoorD
