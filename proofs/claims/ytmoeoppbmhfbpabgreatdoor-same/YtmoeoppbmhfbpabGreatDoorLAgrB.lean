import Derived.Test.YtmoeoppbmhfbpabGreatDoorLImpB
import Derived.Test.YtmoeoppbmhfbpabGreatDoorLSpaE
import Derived.Test.YtmoeoppbmhfbpabGreatDoorLOptE
import Derived.Test.YtmoeoppbmhfbpabGreatDoorLProgH
set_option maxHeartbeats 64000000
set_option maxRecDepth 100000
set_option linter.all false
namespace Go.Proofs.YtmoeoppbmhfbpabGreatDoorL
open Go.Abs
def Hr:Tx->Int
 |[]=>0
 |b::r=>if b=35 then 1000+(Al r).2 else (Al (b::r)).2
theorem aB (b:UInt8)(r:Tx):Hr (b::r)=if b=35 then 1000+(Al r).2 else (Al (b::r)).2:=rfl
theorem Hc (v:Tx):Hr (35::v)=1000+(Al v).2:=by rw[aB,if_pos rfl]
def GT (t:Tx):Prop:=(Ad t=false/\VT t/\DT t)\/∃v,t=35::v/\Ad v=true/\VT v
theorem uK {v:Tx}(h:VT v)(hv:Ad v=true):∃b,v=[b]/\Bm b.toNat=true:=by
 rcases h with h|⟨h1,h2⟩
 ·exact h
 ·exfalso;cases v with
  |nil=>exact h1 rfl
  |cons b r=>
   have hd:=h2 b (by simp);have hl:Bm b.toNat=true:=hv;unfold A0 at hd;unfold Bm at hl;simp at hd hl;omega
theorem Adz {v:Tx}(h:VT v)(hv:Ad v=false):v≠[]/\∀b∈v,A0 b.toNat=true:=by
 rcases h with⟨b,rfl,h⟩|h
 ·have:Ad [b]=Bm b.toNat:=rfl;rw[this,h]at hv;cases hv
 ·exact h
theorem Hq {t:Tx}(h:VT t)(hv:Ad t=false):Hr t=(Al t).2:=by
 obtain⟨h1,h2⟩:=Adz h hv;cases t with
 |nil=>exact absurd rfl h1
 |cons b r=>
  rw[aB,if_neg];rintro rfl;have:=h2 35 (by simp);revert this;decide
theorem M9 {v:Tx}(h:VT v)(hv:Ad v=true):0<=(Al v).2/\(Al v).2<26:=by
 obtain⟨b,rfl,hl⟩:=uK h hv;rw[D1 hl];unfold Bm at hl;simp at hl;simp only;omega
theorem Ol {t:Tx}(h:DT t)(hv:Ad t=false):Lib.itoa (Al t).2=t/\0<=(Al t).2/\(Al t).2<=999:=by
 rcases h with h|⟨-,h⟩
 ·rw[h]at hv;cases hv
 ·exact h
theorem yT {t:Tx}(h:GT t):∃n:Nat,Hr t=(n:Int)/\n<1026:=by
 rcases h with⟨h1,h2,h3⟩|⟨v,rfl,h1,h2⟩
 ·rw[Hq h2 h1];obtain⟨-,e1,e2⟩:=Ol h3 h1;exact⟨(Al t).2.toNat,Ajm,Ajm⟩
 ·obtain⟨e1,e2⟩:=M9 h2 h1;refine⟨(1000+(Al v).2).toNat,?_,Ajm⟩;rw[Hc];omega
theorem iW {t u:Tx}(ht:GT t)(hu:GT u)(h:Hr t=Hr u):t=u:=by
 rcases ht with⟨h1,h2,h3⟩|⟨v,rfl,h1,h2⟩
 ·rcases hu with⟨g1,g2,g3⟩|⟨w,rfl,g1,g2⟩
  ·rw[Hq h2 h1,Hq g2 g1]at h;rw[<-(Ol h3 h1).1,<-(Ol g3 g1).1,h]
  ·exfalso;rw[Hq h2 h1]at h;have:=(Ol h3 h1).2.2;have:=(M9 g2 g1).1;rw[Hc]at h;omega
 ·rcases hu with⟨g1,g2,g3⟩|⟨w,rfl,g1,g2⟩
  ·exfalso;rw[Hq g2 g1]at h;have:=(Ol g3 g1).2.2;have:=(M9 h2 h1).1;rw[Hc]at h;omega
  ·rw[Hc,Hc]at h;rw[qF h2 g2 h1 g1 Ajm]
theorem yU {t:Tx}(h:VT t):Hr (W7 t)=(W6 (Al t)).2:=by
 unfold W7 W6;rw[Bp];cases hv:Ad t with
 |true=>rw[if_pos rfl,if_pos rfl,Hc]
 |false=>rw[if_neg (by simp),if_neg (by simp)];exact Hq h hv
theorem Aeo {t:Tx}(h:VT t)(hd:DT t):GT (W7 t):=by
 unfold W7;cases hv:Ad t with
 |true=>rw[if_pos rfl];exact .inr ⟨t,rfl,hv,h⟩
 |false=>rw[if_neg (by simp)];exact .inl ⟨hv,h,hd⟩
def Lf (N:List Tx)(a:RAtom):Nat:=N.idxOf a.pred+(if a.nt=true then N.length else 0)
def eA (N:List Tx)(a:RAtom):Nat×Bc:=(Lf N a,C5 (a.terms.map Hr))
structure AtI (N:List Tx)(ar:Tx->Nat)(a:RAtom):Prop where
 mem:a.pred∈N
 len:a.terms.length=ar a.pred
 le3:a.terms.length<=3
structure GA (N:List Tx)(ar:Tx->Nat)(a:RAtom):Prop extends AtI N ar a where
 gt:∀t∈a.terms,GT t
theorem fV {N:List Tx}{a b:RAtom}(ha:a.pred∈N)(hb:b.pred∈N)(h:Lf N a=Lf N b):a.nt=b.nt/\a.pred=b.pred:=by
 have h1:=Ah9 ha;have h2:=Ah9 hb;unfold Lf at h;have hnt:a.nt=b.nt:=by
  cases e1:a.nt<;>cases e2:b.nt<;>simp[e1,e2]at h⊢ <;>omega
 rw[hnt]at h;have hi:N.idxOf a.pred=N.idxOf b.pred:=Ajm;refine⟨hnt,?_⟩;have e1:=Ah8 h1;have e2:=Ah8 h2;rw[<-e1,<-e2];congr 1
theorem Od {α β:Type}{f:α->β}:∀{l m:List α},(∀a∈l,∀b∈m,f a=f b->a=b)->l.map f=m.map f->l=m
 |[],[],_,_=>rfl
 |[],b::m,_,h=>by simp at h
 |a::l,[],_,h=>by simp at h
 |a::l,b::m,hi,h=>by
  simp only[Ag5,Ajb]at h;rw[hi a (by simp) b (by simp) h.1,Od (fun x hx y hy=>hi x (by simp[hx]) y (by simp[hy])) h.2]
theorem Aew {N:List Tx}{ar:Tx->Nat}{a b:RAtom}(ha:GA N ar a)(hb:GA N ar b)(h:eA N a=eA N b):a=b:=by
 unfold eA at h;simp only[Prod.mk.injEq]at h;obtain⟨h1,h2⟩:=fV ha.mem hb.mem h.1;have hl:a.terms.length=b.terms.length:=by rw[ha.len,hb.len,h2]
 have h3:=Qk (by simpa using hl) (by simpa using ha.le3) h.2;exact RAtom.ext' h1 h2 (Od (fun x hx y hy e=>iW (ha.gt x hx) (hb.gt y hy) e) h3)
structure RuI (N:List Tx)(ar:Tx->Nat)(y:RItem):Prop where
 head:AtI N ar y.head
 hnt:y.head.nt=false
 body:∀b∈y.body,AtI N ar b
 vt:∀t∈y.head.terms,VT t/\DT t
 vb:∀b∈y.body,∀t∈b.terms,VT t/\DT t
 safe:∀v∈y.head.terms,Ad v=true->∃b∈y.body,v∈b.terms
theorem Aaa (N:List Tx)(y:RItem):(Gd N y).head=Ca N y.head:=rfl
theorem Gr (N:List Tx)(y:RItem):(Gd N y).body=y.body.map fun b=>F5 N.length (Dq N b):=by simp[Gd,zZ,A4]
theorem aM (N:List Tx)(b:RAtom):(F5 (N.length:Int) (Dq N b)).a.p=(Lf N b:Nat):=by
 unfold F5 Dq Ca Lf;simp only;cases h:b.nt with
 |true=>simp
 |false=>simp
theorem Mi (N:List Tx)(b:RAtom):(F5 (N.length:Int) (Dq N b)).a.ts=b.terms.map Al:=by
 unfold F5 Dq Ca;simp only;split<;>rfl
def Afz (v:Int):UInt8:=UInt8.ofNat (65+v.toNat)
def xR (μ:Tx->Tx):Nu:=fun v=>Hr (μ [Afz v])
theorem xQ {μ:Tx->Tx}{v:Tx}(h:VT v)(hv:Ad v=true):xR μ (Al v).2=Hr (μ v):=by
 obtain⟨b,rfl,hl⟩:=uK h hv;unfold xR Afz;rw[D1 hl];have hb:65<=b.toNat:=by unfold Bm at hl;simp at hl;omega
 have e:(65+((b.toNat:Int)-65).toNat)=b.toNat:=Ajm;simp only[e,UInt8.ofNat_toNat]
theorem Ad0 {μ:Tx->Tx}{t:Tx}(h:VT t):Eo (xR μ) (Al t)=Hr (pB μ t):=by
 unfold Eo;rw[Bp];cases hv:Ad t with
 |true=>rw[if_pos rfl,pA hv,xQ h hv]
 |false=>rw[if_neg (by simp),aY hv,Hq h hv]
theorem vV {μ:Tx->Tx}{ts:List Tx}{p:Int}(h:∀t∈ts,VT t):Bf ⟨p,ts.map Al⟩ (xR μ)=C5 ((ts.map (pB μ)).map Hr):=by
 unfold Bf;simp only[Ag2];congr 1;exact Ahx fun t ht=>Ad0 (h t ht)
theorem cE {a:Df}{ν:Nu}:Bf a ν=Bf ⟨0,a.ts⟩ ν:=rfl
structure nU (N:List Tx)(ar:Tx->Nat)(Rd:List RItem)(x:RItem):Prop where
 ru:∀y∈Rd,RuI N ar y
 x:RuI N ar x
theorem mQ {N:List Tx}{ar:Tx->Nat}{b:RAtom}(h:AtI N ar b)(ht:∀t∈b.terms,VT t/\DT t):GA N ar (Px b):=
 ⟨⟨h.mem,by show (b.terms.map W7).length=_;rw[Aij];exact h.len,by show (b.terms.map W7).length<=3;rw[Aij];exact h.le3⟩,fun t hm=>by
  obtain⟨u,hu,rfl⟩:=Ahv.1 hm
  exact Aeo (ht u hu).1 (ht u hu).2⟩
theorem cL {N:List Tx}{b:RAtom}(ht:∀t∈b.terms,VT t):eA N (Px b)=((F5 (N.length:Int) (Dq N b)).a.p.toNat,Cs (Ha (F5 (N.length:Int) (Dq N b)).a)):=by
 unfold eA;rw[aM,Ai4];refine Prod.ext rfl ?_;show C5 ((b.terms.map W7).map Hr)=C5 (((F5 (N.length:Int) (Dq N b)).a.ts.map W6).map (·.2));rw[Mi,Ag2,Ag2,Ag2];congr 1;exact Ahx fun t hm=>yU (ht t hm)
theorem Ad7 {N:List Tx}{ar:Tx->Nat}{Rd:List RItem}{x:RItem}(h:nU N ar Rd x):Sat true Rd (x.body.map Px) (fun a=>GA N ar a/\LstF (Rd.map (Gd N)) (Ja N x) (eA N a).1 (eA N a).2):=by
 refine⟨fun a ha=>?_,fun A' ac hg y hy hd hs=>?_⟩
 ·obtain⟨b,hb,rfl⟩:=Ahv.1 ha;refine⟨mQ (h.x.body b hb) (h.x.vb b hb),?_⟩;rw[cL fun t ht=>(h.x.vb b hb t ht).1];have hf:Ha (F5 (N.length:Int) (Dq N b)).a∈Ja N x:=by
   unfold Ja;rw[Gr,Ag2];exact Ahv.2 ⟨b,hb,rfl⟩
  exact LstF.fact hf
 ·obtain⟨μ,h1,-,rfl⟩:=hs;have hr:=h.ru y hy;have hb:∀b∈y.body,GA N ar (Ws μ b)/\LstF (Rd.map (Gd N)) (Ja N x) (eA N (Ws μ b)).1 (eA N (Ws μ b)).2:=fun b hb=>ac _ (h1 b hb rfl);refine⟨⟨⟨hr.head.mem,by show (y.head.terms.map _).length=_;rw[Aij];exact hr.head.len,by show (y.head.terms.map _).length<=3;rw[Aij];exact hr.head.le3⟩,fun t ht=>?_⟩,?_⟩
  ·obtain⟨u,hu,rfl⟩:=Ahv.1 ht;cases hv:Ad u with
   |false=>rw[aY hv];exact .inl ⟨hv,(hr.vt u hu).1,(hr.vt u hu).2⟩
   |true=>
    obtain⟨b,aa,ab⟩:=hr.safe u hu hv;exact (hb b aa).1.gt _ (Ahv.2 ⟨u,ab,rfl⟩)
  ·have hc:=LstF.cl (Rd.map (Gd N)) (Ja N x) (Gd N y) (Ahv.2 ⟨y,hy,rfl⟩) (xR μ) (fun l hl=>by
    rw[Gr]at hl;obtain⟨b,aa,rfl⟩:=Ahv.1 hl;have h2:=(hb b aa).2;rw[aM,Ai4,cE,Mi,vV fun t ht=>(hr.vb b aa t ht).1]
    exact h2)
   rw[Aaa,cE]at hc;have e1:(Ca N y.head).ts=y.head.terms.map Al:=rfl;rw[e1,vV fun t ht=>(hr.vt t ht).1]at hc;have e2:(Ca N y.head).p.toNat=(eA N (Ws μ y.head)).1:=by
    show (((N.idxOf y.head.pred:Nat):Int)).toNat=Lf N (Ws μ y.head);unfold Lf;have:(Ws μ y.head).nt=false:=hr.hnt;rw[this,Ai4];rfl
   rw[e2]at hc;exact hc
theorem lH {t:Tx}(h:(Av t).1=0):∀x∈Cw t,∀y∈Cw t,∀a∈Ae x,∀b∈Ae y,a.pred=b.pred->a.terms.length=b.terms.length:=by
 have aa:∀i,i<(Cw t).length->H6 (Cw t) i=false:=by
  unfold Av at h;split at h
  ·simp at h
  split at h
  ·simp at h
  unfold Ce at h;split at h
  ·simp at h
  ·rename_i hk;exact Kx hk
 have key:∀(i j:Nat) (x y:RItem) (a b:RAtom),(Cw t)[i]?=some x->(Cw t)[j]?=some y->i<j->a∈Ae x->b∈Ae y->a.pred=b.pred->a.terms.length=b.terms.length:=by
  intro i j x y a b hi hj ac ha hb he;have h1:=aa j (List.getElem?_eq_some_iff.1 hj).1;unfold H6 at h1;rw[hj]at h1;simp only[Ah5,List.mem_range]at h1;obtain⟨k,hk⟩:=List.getElem?_of_mem hb;have h2:=h1 k (List.getElem?_eq_some_iff.1 hk).1;unfold Rp at h2;rw[hk]at h2;simp only[Ahk,not_exists,not_and]at h2
  have h3:=h2 a (by
   unfold Dg Dk;refine Ahs.2 (.inl (Ahr.2 ⟨x,?_,ha⟩))
   exact Agp (i:=i) (by rw[List.getElem?_take,if_pos ac];exact hi))
  unfold clash at h3;simp[he]at h3;exact h3
 intro x hx y hy a ha b hb he;obtain⟨i,hi⟩:=List.getElem?_of_mem hx;obtain⟨j,hj⟩:=List.getElem?_of_mem hy;rcases Nat.lt_trichotomy i j with ab|rfl|ad
 ·exact key i j x y a b hi hj ab ha hb he
 ·rw[hi]at hj;cases hj;exact Zb h x hx a ha b hb he
 ·exact (key j i y x b a hj hi ad hb ha he.symm).symm
def X0 (l:List RItem)(ar:Tx->Nat):Prop:=∀x∈l,∀a∈Ae x,a.terms.length=ar a.pred
theorem Af5 {t:Tx}(h:(Av t).1=0):∃ar,X0 (Cw t) ar:=by
 refine⟨fun p=>Classical.epsilon fun n=>∃x∈Cw t,∃a∈Ae x,a.pred=p/\a.terms.length=n,fun x hx a ha=>?_⟩;have:=Classical.epsilon_spec (p:=fun n=>∃x∈Cw t,∃b∈Ae x,b.pred=a.pred/\b.terms.length=n) ⟨_,x,hx,a,ha,rfl,rfl⟩;obtain⟨y,hy,b,hb,e1,e2⟩:=this;rw[lH h x hx y hy a ha b hb e1.symm];exact e2
theorem Afn {t:Tx}{N:List Tx}{l:List RItem}{cs:List AV}{ar:Tx->Nat}(h:Right t N l cs)(hA:X0 l ar){x:RItem}(hx:x∈l)(ho:x.out=false):RuI N ar x:=by
 have hi:=h.items;have ad:x∈Cw t:=by rw[hi];exact hx
 have hf:=Uq h.ok x ad;have ac:=h.wi x hx;have hw:=hf.w.2.2 ho;have aa:∀a,a=x.head\/a∈x.body->a∈Ae x:=fun a ha=>by
  rcases ha with rfl|ha<;>simp[Ae,ho, *]
 have ab:∀a∈Ae x,a.terms.length=ar a.pred:=hA x hx;refine⟨⟨ac.mem,ab _ (aa _ (.inl rfl)),hw.1.2.2.1⟩,hw.2.1,fun b hb=>⟨(ac.wa b hb).1,ab _ (aa _ (.inr hb)),(hw.2.2.2 b hb).2.2.1⟩,fun w hm=>⟨hf.va _ (aa _ (.inl rfl)) w hm,hf.dt _ (aa _ (.inl rfl)) w hm⟩,fun b hb w hm=>⟨hf.va _ (aa _ (.inr hb)) w hm,hf.dt _ (aa _ (.inr hb)) w hm⟩,fun v hm hv=>?_⟩;obtain⟨c0,p,hH,-⟩:=hf.rule ho;obtain⟨a,ha,-,ae⟩:=hH.saf v hv (.inl hm);exact⟨a,ha,ae⟩
def arN (N:List Tx)(ar:Tx->Nat)(k:Nat):Nat:=ar (N.getD (if k<N.length then k else k-N.length) [])
theorem nP {N:List Tx}{ar:Tx->Nat}{a:RAtom}(h:a.pred∈N):arN N ar (Lf N a)=ar a.pred:=by
 have hl:=Ah9 h;have e:N.getD (N.idxOf a.pred) []=a.pred:=by
  rw[List.getD_eq_getElem?_getD,List.getElem?_eq_getElem hl,Aiy];exact Ah8 hl
 unfold arN Lf;cases hn:a.nt with
 |true=>
  simp only[if_true];rw[if_neg Ajm,Nat.add_sub_cancel,e]
 |false=>
  simp only[Ahg,if_false,Agq];rw[if_pos hl,e]
theorem Ack {w:Tx}(hv:VT w)(hd:DT w)(h:(Al w).1=false):∃n:Nat,(Al w).2=(n:Int)/\n<1026:=by
 rw[Bp]at h;obtain⟨-,e1,e2⟩:=Ol hd h;exact⟨(Al w).2.toNat,Ajm,Ajm⟩
theorem tE {w:Tx}(hv:VT w)(hd:DT w):0<=(Al w).2/\(Al w).2<=999:=by
 cases h:Ad w with
 |true=>have:=M9 hv h;omega
 |false=>obtain⟨-,e1,e2⟩:=Ol hd h;omega
theorem wR {N:List Tx}{a:RAtom}(h:a.pred∈N):Lf N a<2*N.length:=by
 have:=Ah9 h;unfold Lf;split<;>omega
theorem cF {ts:List Tx}{v:Int}(h:(true,v)∈ts.map Al):∃w∈ts,Ad w=true/\(Al w).2=v:=by
 obtain⟨w,hw,e⟩:=Ahv.1 h;refine⟨w,hw,?_,by rw[e]⟩;rw[<-Bp,e]
theorem cT (n:Int)(l:Lit):(F5 n l).neg=false:=by
 unfold F5;split
 ·rfl
 ·rename_i h;simpa using h
theorem Afm {N:List Tx}{ar:Tx->Nat}{y:RItem}(h:RuI N ar y)(h5:y.body.length<=5):RW (2*N.length) (arN N ar) (Gd N y):=by
 have hb:∀l∈(Gd N y).body,∃b∈y.body,l=F5 (N.length:Int) (Dq N b):=fun l hl=>by
  rw[Gr]at hl;obtain⟨b,hb,rfl⟩:=Ahv.1 hl;exact⟨b,hb,rfl⟩
 have af:Lf N y.head=N.idxOf y.head.pred:=by unfold Lf;rw[h.hnt];simp
 have ad:(Gd N y).head.p=((Lf N y.head:Nat):Int):=by rw[af];rfl
 have ac:(Gd N y).head.ts=y.head.terms.map Al:=rfl;refine⟨⟨by rw[ac,Aij];exact h.head.le3,⟨_,ad,wR h.head.mem⟩,by rw[Gr,Aij];omega,fun l hl=>?_,fun l hl=>?_⟩,fun l hl hn=>?_,?_,fun l hl=>?_,fun t ht hc=>?_,fun v hv=>?_,fun l hl v hv=>?_,fun v hv=>?_⟩
 ·obtain⟨b,aa,rfl⟩:=hb l hl;rw[Mi,Aij];exact (h.body b aa).le3
 ·obtain⟨b,aa,rfl⟩:=hb l hl;exact⟨_,aM N b,wR (h.body b aa).mem⟩
 ·obtain⟨b,aa,rfl⟩:=hb l hl;rw[cT]at hn;cases hn
 ·rw[ac,Aij,ad,Ai4,nP h.head.mem];exact h.head.len
 ·obtain⟨b,aa,rfl⟩:=hb l hl;rw[Mi,Aij,aM,Ai4,nP (h.body b aa).mem];exact (h.body b aa).len
 ·rw[ac]at ht;obtain⟨w,hw,rfl⟩:=Ahv.1 ht;exact Ack (h.vt w hw).1 (h.vt w hw).2 hc
 ·rw[ac]at hv;obtain⟨w,hw,ab,rfl⟩:=cF hv;exact M9 (h.vt w hw).1 ab
 ·obtain⟨b,aa,rfl⟩:=hb l hl;rw[Mi]at hv;obtain⟨w,hw,ab,rfl⟩:=cF hv;exact M9 (h.vb b aa w hw).1 ab
 ·have hv:A8 (Gd N y).head.ts v=true:=by
   rcases hv with hv|⟨l,hl,hn,-⟩
   ·exact hv
   ·obtain⟨b,aa,rfl⟩:=hb l hl;rw[cT]at hn;cases hn
  rw[hasV_iff,ac]at hv;obtain⟨w,hw,ab,rfl⟩:=cF hv;obtain⟨b,aa,ae⟩:=h.safe w hw ab;refine⟨F5 (N.length:Int) (Dq N b),by rw[Gr];exact Ahv.2 ⟨b,aa,rfl⟩,cT _ _,?_⟩;rw[hasV_iff,Mi];refine Ahv.2 ⟨w,ae,?_⟩;rw[<-ab,<-Bp]
theorem wB {ts:List Tx}(h:∀t∈ts,VT t/\DT t):Sml (ts.map Al):=fun t ht=>by
 obtain⟨w,hw,rfl⟩:=Ahv.1 ht;have:=tE (h w hw).1 (h w hw).2;omega
def iO (N:List Tx)(l:List RItem)(i:Nat)(x:RItem)(b:Bool):Prop:=uB ((oth l i l.length).map (Gd N)) (Ja N x) (Gd N x).head.p.toNat (Cs (Ha (Gd N x).head)) b
def sL (N:List Tx)(l:List RItem)(n:Nat):Prop:=∀i y,i<n->l[i]?=some y->y.out=false->Cz N l (Cp i [] l)=true->iO N l i y false
def chR (N:List Tx)(l:List RItem)(idn:Nat)(x:AV)(b:Bool):Prop:=
 (b=false/\sL N l l.length)\/(b=true/\∃i y,l[i]?=some y/\y.out=false/\Cz N l (Cp i [] l)=true/\iO N l i y true/\sL N l i/\∃id c',x=Bo N idn (Cp i [] l) id c'/\EL (PI N) (Cp i [] l) c')
theorem GL.less {N:List Tx}{l:List RItem}(h:GL N l){i:Nat}:GL N (Cp i [] l):=by
 have hm:∀y∈Cp i [] l,y∈l:=fun y hy=>by
  rcases Du hy with h|h
  ·exact h
  ·cases h
 exact⟨Agj (Pf l) h.len,h.nm,fun y hy=>h.msr y (hm y hy),fun y hy=>h.fits y (hm y hy),fun y hy=>h.pos y (hm y hy),fun y hy=>h.va y (hm y hy),fun y hy=>h.ar y (hm y hy)⟩
theorem Nh (N:List Tx)(l:List RItem)(cs:List AV)(idn idi:Nat)(ar:Nat->Nat)(hG:GL N l)(hI:BkI N l ar)(hE:EL (PI N) l cs)(σ:St):
  ACalls Tryz.prog 126 [Bo N idn l idi cs] σ fun r σ'=>(∃x b,r=tp [x,sc (.bool b)]/\chR N l idn x b/\jX x)/\Keep σ σ':=by
 have bg:=EL.length De hE;have ax:=hG.len;have ba:Bk N l cs:=(hG.bkm hE).bk ax;have ak:=fun i σ=>Ut N l [] cs [] idn idi 1 i hE rfl Ajm (by simp) σ;have ai:=fun i c' id' (a8:EL (PI N) (Cp i [] l) c') σ=>Hu N l (Cp i [] l) cs c' idn idi id' (hG.bkm hE) (hG.less.bkm a8).bj σ;simp only[Ahi]at ak;refine Z9 37 [.cell 2 62,.tmp 3] Tryz.func126 ?_
 repeat' (first|refine Z1 ?_|(refine Z8 ?_;intro κ hκ)|(refine Z4 ?_;clear hκ κ)|(refine Z2 ?_ ?_<;>intro h ac<;>try exact Xp)|refine Z3 ?_|exact⟨⟩|(apply hκ.out;clear hκ κ))
 refine Af (fun m s σ'=>∃(i:Nat),m=l.length-i/\i<=l.length/\s 1=ptr σ.nobj 0/\s 2=ptr (σ.nobj+1) 0/\s 10=sl idi l.length cs/\s 11=sc (.int .i64 l.length)/\s 12=sc (.int .i64 i)/\Keep σ σ'/\σ.nobj+1<σ'.nobj/\σ'.obj σ.nobj=[sl idn N.length (N.map str),sl idi l.length cs]/\σ'.obj (σ.nobj+1)=[nilS,nilS]/\Ajs (sL N l i)) l.length
  ⟨0,Ajm,Ajm,Ajo,Ajo,Ajo,Ajo,rfl,Xs,Ajq,by rw[Ag Ajq,Ap],by first|exact Ap|simp[Ap],fun i y h=>Ajm⟩ ?_
 rintro m s σ' ⟨i,rfl,hi,h1,h2,bm,bl,bh,hK,bf,bd,bc,hA⟩;have be:=hK.nobj;by_cases a7:i<l.length
 ·have aa:=List.getElem?_eq_getElem a7;obtain⟨a6,ih,idb,b,r,a9,hd⟩:=En hE aa;generalize l[i]=x at hd aa a6 a9;have af:(x.out=false->Cz N l (Cp i [] l)=true->iO N l i x false)->Ajs (sL N l (i+1)):=fun h j y hj hy ho hb=>by
   rcases Agl j i with h'|h'
   ·exact hA.out j y h' hy ho hb
   ·have:j=i:=Ajm;subst this;rw[aa]at hy;cases hy;exact h ho hb
  cases aj:x.out with
  |true=>
   rw[aj]at hd;have HA:=af (fun h=>by rw[aj]at h;cases h);clear af hA aa
   repeat' (first|refine Z1 ?_|(refine Z8 ?_;intro κ hκ)|(refine Z4 ?_;clear hκ κ)|(refine Z2 ?_ ?_<;>intro h ac<;>try exact Xp)|refine Z3 ?_|exact⟨⟩|(apply hκ.out;clear hκ κ))
   refine⟨l.length-(i+1),Ajm,i+1,?_⟩
   ((repeat' with_reducible refine And.intro ?_ ?_)<;>first|exact Xq|exact (HA)|exact Xs)
  |false=>
   have a4:=fun σ=>W0 N l cs idn idi i ar x ba hI aa aj σ;have ak:=ak i;have ai:=ai i;have HG:Ajs (l[i]?=some x):=aa;have ay:Ajs _:=af;have bb:Ajs (x.out=false):=aj;rw[aj]at hd;cases ah:Cz N l (Cp i [] l)with
   |false=>
    rw[ah]at ai;have HA:=af (fun _ h=>by rw[ah]at h;cases h);clear af hA aa ah ay a4
    repeat' (first|refine Z1 ?_|(refine Z8 ?_;intro κ hκ)|(refine Z4 ?_;clear hκ κ)|(refine Z2 ?_ ?_<;>intro h ac<;>try exact Xp)|(refine Z5 ?_;first|(refine Xi (ak _) ?_;rintro _ _ ⟨⟨id6,c6,rfl,ao⟩,an⟩;(have ae:=an.nobj;have ad:=an.obj;(try simp only[Ab,Aa,Ah]at ae ad)))|(refine Xi (ai c6 id6 ao _) ?_;rintro _ _ ⟨⟨x7,rfl,a0,⟨id71,n71,c71,id72,n72,c72,rfl⟩⟩,am⟩;(have aw:=am.nobj;have au:=am.obj)))|refine Z3 ?_|exact⟨⟩|(apply hκ.out;clear hκ κ))
    refine⟨l.length-(i+1),Ajm,i+1,?_⟩
    ((repeat' with_reducible refine And.intro ?_ ?_)<;>first|exact Xq|exact (HA)|exact Xs)
   |true=>
    rw[ah]at ai;have a5:Ajs (Cz N l (Cp i [] l)=true):=ah;clear af aa ah
    repeat' (first|refine Z1 ?_|(refine Z8 ?_;intro κ hκ)|(refine Z4 ?_;clear hκ κ)|(refine Z2 ?_ ?_<;>intro h ac<;>try exact Xp)|(refine Z5 ?_;first|(refine Xi (ak _) ?_;rintro _ _ ⟨⟨id6,c6,rfl,ao⟩,an⟩;(have ae:=an.nobj;have ad:=an.obj;(try simp only[Ab,Aa,Ah]at ae ad)))|(refine Xi (ai c6 id6 ao _) ?_;rintro _ _ ⟨⟨x7,rfl,a0,⟨id71,n71,c71,id72,n72,c72,rfl⟩⟩,am⟩;(have aw:=am.nobj;have au:=am.obj))|(refine Xi (a4 _) ?_;rintro _ _ ⟨bi,rfl,ab,a3⟩;(have av:=a3.nobj;have ap:=a3.obj;have az:Ajs (iO N l i x bi):=ab;clear ab;(try simp only[Ab,Aa]at av ap))))|refine Z3 ?_|exact⟨⟩|(apply hκ.out;clear hκ κ))
    ·have ab:=az.out;rw[h]at ab;exact⟨_,rfl,⟨_,true,rfl,.inr ⟨rfl,i,x,HG.out,bb.out,a5.out,ab,hA.out,id6,c6,a0 rfl,ao⟩,_,_,_,_,_,_,rfl⟩,Xs⟩
    ·have ab:=az.out;rw[h]at ab;have HA:=ay.out fun _ _=>ab;clear ab az ay HG a5 hA;refine⟨l.length-(i+1),Ajm,i+1,?_⟩
     ((repeat' with_reducible refine And.intro ?_ ?_)<;>first|exact Xq|exact (HA)|exact Xs)
 ·have hil:i=l.length:=Ajm;subst hil
  repeat' (first|refine Z1 ?_|(refine Z8 ?_;intro κ hκ)|(refine Z4 ?_;clear hκ κ)|(refine Z2 ?_ ?_<;>intro h ac<;>try exact Xp)|refine Z3 ?_|exact⟨⟩|(apply hκ.out;clear hκ κ))
  exact⟨_,rfl,⟨_,false,rfl,.inl ⟨rfl,hA.out⟩,_,_,_,_,_,_,rfl⟩,Xs⟩
structure RtL (N:List Tx)(ar:Tx->Nat)(l:List RItem):Prop where
 gl:GL N l
 b5:∀x∈l,x.body.length<=5
 ru:∀x∈l,x.out=false->RuI N ar x
 wi:∀x∈l,WI N x
 wit:∀x∈l,Cl x
theorem Ae0 {N:List Tx}{l:List RItem}{ar:Tx->Nat}(h5:∀y∈l,y.body.length<=5)(h:∀y∈l,y.out=false->RuI N ar y):BkI N l (arN N ar):=by
 refine⟨h5,fun y hy ho=>Afm (h y hy ho) (h5 y hy),fun y hy ho=>?_,fun y hy ho a ha=>?_⟩
 ·have hr:=h y hy ho;refine⟨wB hr.vt,fun k hk=>?_⟩;rw[Gr]at hk;obtain⟨b,hb,rfl⟩:=Ahv.1 hk;rw[Mi];exact wB (hr.vb b hb)
 ·have hr:=h y hy ho;unfold Ja at ha;rw[Gr,Ag2]at ha;obtain⟨b,hb,rfl⟩:=Ahv.1 ha;have e:=cL (N:=N) (b:=b) fun t ht=>(hr.vb b hb t ht).1;have hg:=mQ (hr.body b hb) (hr.vb b hb);unfold eA at e;simp only[Prod.mk.injEq]at e;have e1:(Ha (F5 (N.length:Int) (Dq N b)).a).p.toNat=Lf N b:=by
   show (F5 (N.length:Int) (Dq N b)).a.p.toNat=_;rw[aM,Ai4]
  show Sh _ (Ha (F5 (N.length:Int) (Dq N b)).a).p.toNat (Cs (Ha (F5 (N.length:Int) (Dq N b)).a));rw[e1,<-e.2];refine⟨_,rfl,?_,fun z hz=>?_⟩
  ·rw[Aij,nP (hr.body b hb).mem];exact hg.len
  ·obtain⟨u,hu,rfl⟩:=Ahv.1 hz;exact yT (hg.gt u hu)
theorem RtL.bki {N:List Tx}{ar:Tx->Nat}{l:List RItem}(h:RtL N ar l):BkI N l (arN N ar):=Ae0 h.b5 h.ru
theorem Afa {t:Tx}(h1:DT t)(h2:Nt t)(h3:t.length<=1000)(h4:VT t):UT t:=by
 refine⟨h1,h2,h3,fun hv=>?_⟩;rcases h4 with⟨b,rfl,hb⟩|⟨h5,h6⟩
 ·simp only[Bm,Ags,Ajj]at hb;refine⟨b.toNat-65,Ajm,?_⟩;have:=E9 (k:=((b.toNat-65:Nat):Int)) Ajm Ajm;have e:(Jp ((b.toNat-65:Nat):Int)).toNat=b.toNat:=Ajm;rw[UInt8.toNat_inj.1 e]
 ·cases t with
  |nil=>exact absurd rfl h5
  |cons b r=>
   have h7:=h6 b (by simp);have h8:Bm b.toNat=true:=hv;simp only[Bm,A0,Ags,Ajj]at h7 h8;omega
theorem Right.rt {t:Tx}{N:List Tx}{l:List RItem}{cs:List AV}(h:Right t N l cs){ar:Tx->Nat}(hA:X0 l ar):RtL N ar l:=by
 have hf:∀x∈l,Fine x:=fun x hx=>Uq h.ok x (by rw[h.items];exact hx);have h5:∀y∈l,y.body.length<=5:=fun y hy=>(h.wi y hy).body;refine⟨⟨h.bk.len,h.bk.nm,fun x hx=>?_,h.bk.fits,h.bk.pos,fun x hx=>(hf x hx).va,fun x hx a ha b hb=>Zb h.ok x (by rw[h.items];exact hx) a (Au (.inr ha)) b (Au (.inr hb))⟩,h5,fun x hx ho=>Afn h hA hx ho,h.wi,h.wit⟩;have hw:=h.wi x hx;have hs:=hw.short;refine⟨hw.out,by have:=hw.body;omega,hw.mem,hs.1.1,fun a ha=>?_⟩;have ad:=h.wit x hx;have ho:x.out=false:=by
  cases ho:x.out with
  |false=>rfl
  |true=>simp[Ae,ho,hw.out ho]at ha
 have aa:a=x.head\/a∈x.body:=by simpa[Ae,ho]using ha
 obtain⟨w1,w2,w3,w4⟩:=ad.2.2 ho;have ab:D2 a:=by rcases aa with rfl|aa;exact w1;exact w4 a aa
 have ac:short a:=by rcases aa with rfl|aa;exact hs.1;exact hs.2 a aa
 exact⟨ab.2.2.1,ac.1,fun t ht=>Afa ((hf x hx).dt a ha t ht) (ab.2.2.2 t ht) (ac.2.2 t ht) ((hf x hx).va a ha t ht)⟩
theorem RtL.sub {N:List Tx}{ar:Tx->Nat}{l l':List RItem}(h:RtL N ar l)(hs:∀x∈l',x∈l)(hl:l'.length<=16):RtL N ar l':=
 ⟨⟨hl,h.gl.nm,fun x hx=>h.gl.msr x (hs x hx),fun x hx=>h.gl.fits x (hs x hx),fun x hx=>h.gl.pos x (hs x hx),fun x hx=>h.gl.va x (hs x hx),fun x hx=>h.gl.ar x (hs x hx)⟩,fun x hx=>h.b5 x (hs x hx),fun x hx=>h.ru x (hs x hx),fun x hx=>h.wi x (hs x hx),fun x hx=>h.wit x (hs x hx)⟩
theorem RtL.less {N:List Tx}{ar:Tx->Nat}{l:List RItem}(h:RtL N ar l)(i:Nat):RtL N ar (Cp i [] l):=
 h.sub (fun x hx=>by rcases Du hx with h|h;exact h;cases h) (Agj (Pf l) h.gl.len)
theorem uH {x:RItem}{k:Nat}(h:Cl x)(ho:x.out=false):Cl (G6 x k):=by
 obtain⟨w1,w2,w3,w4⟩:=h.2.2 ho;exact⟨h.1,(fun e=>by cases e),fun _=>⟨w1,w2,Agj (Aiu _ _) w3,fun a ha=>w4 a (Air ha)⟩⟩
theorem Ae7 {N:List Tx}{x:RItem}{k:Nat}(h:WI N x)(hw:Cl x)(ho:x.out=false):WI N (G6 x k):=by
 have ac:=uH (k:=k) hw ho;have ab:∀a,a∈Ae (G6 x k)->WA N (A5 x) a->WA N (A5 (G6 x k)) a:=fun a ha hA=>⟨hA.1,hA.2.1,hA.2.2.1,hA.2.2.2.1,fun w hm=>⟨(hA.2.2.2.2 w hm).1,(hA.2.2.2.2 w hm).2.1,fun hv=>Mu ac ha hm hv⟩⟩;have aa:∀a∈(G6 x k).body,a∈x.body:=fun a ha=>Air ha;exact⟨Te h.fits,⟨h.short.1,fun a ha=>h.short.2 a (aa a ha)⟩,fun a ha=>h.va a (Ll ho ha),h.vh,fun a ha=>h.vb a (aa a ha),h.mem,Agj (Aiu _ _) h.body,(fun e=>by cases e),fun _=>⟨(h.head ho).1,ab _ (Au (.inl ⟨rfl,rfl⟩)) (h.head ho).2⟩,fun a ha=>ab a (Au (.inr ha)) (h.wa a (aa a ha))⟩
theorem Um {y:RItem}(hs:Ec y=true)(hu:∀a∈Ae y,∀t∈a.terms,UT t){a:RAtom}(ha:a∈Ae y){t:Tx}(ht:t∈a.terms)(hv:Ad t=true):∃b∈y.body,b.nt=false/\t∈b.terms:=by
 unfold Ec at hs;have:=Ah5.1 (by simpa using hs:(Ae y).any (fun a=>a.terms.any fun w=>(Al w).1&&!Fi y (Al w).2)=false) a ha;have:=Ah5.1 (by simpa using this:a.terms.any (fun w=>(Al w).1&&!Fi y (Al w).2)=false) t ht;rw[Bp,hv]at this;have hb:Fi y (Al t).2=true:=by simpa using this
 unfold Fi at hb;obtain⟨b,ac,hb⟩:=Ahk.1 hb;simp only[Ags,Ai5,Ahk]at hb;obtain⟨hnt,u,ab,aa⟩:=hb;refine⟨b,ac,hnt,?_⟩;unfold Oi at aa;simp only[Ags,Ajk]at aa;have:t=u:=tellU.inj _ _ (hu a ha t ht) (hu b (Au (.inr ac)) u ab) (Prod.ext (by rw[Bp,hv,aa.1]) aa.2.symm);rw[this];exact ab
theorem RtL.wo {N:List Tx}{ar:Tx->Nat}{l:List RItem}(h:RtL N ar l){i k:Nat}{x:RItem}(hx:l[i]?=some x)(ho:x.out=false)(hs:Ec (G6 x k)=true):RtL N ar (Cp i [G6 x k] l):=by
 have aa:=Agp hx;have hm:∀y∈Cp i [G6 x k] l,y∈l\/y=G6 x k:=fun y hy=>by
  rcases Du hy with h|h
  ·exact .inl h
  ·exact .inr (by simpa using h)
 have ab:∀a∈(G6 x k).body,a∈x.body:=fun a ha=>Air ha;refine⟨h.gl.wo hx ho,fun y hy=>?_,fun y hy ac=>?_,fun y hy=>?_,fun y hy=>?_⟩
 ·rcases hm y hy with hy|rfl
  ·exact h.b5 y hy
  ·exact Agj (Aiu _ _) (h.b5 x aa)
 ·rcases hm y hy with hy|rfl
  ·exact h.ru y hy ac
  ·have hr:=h.ru x aa ho;refine⟨hr.head,hr.hnt,fun b hb=>hr.body b (ab b hb),hr.vt,fun b hb=>hr.vb b (ab b hb),fun v hm hv=>?_⟩;obtain⟨b,hb,-,ad⟩:=Um hs (fun a ha=>((h.gl.msr x aa).at_ a (Ll ho ha)).2.2) (a:=x.head) (Au (.inl ⟨rfl,rfl⟩)) hm hv;exact⟨b,hb,ad⟩
 ·rcases hm y hy with hy|rfl
  ·exact h.wi y hy
  ·exact Ae7 (h.wi x aa) (h.wit x aa) ho
 ·rcases hm y hy with hy|rfl
  ·exact h.wit y hy
  ·exact uH (h.wit x aa) ho
def ClS (R:List RItem)(gv:List RAtom)(S:RAtom->Prop):Prop:=(∀a∈gv,S a)/\∀y∈R,∀μ,(∀b∈y.body,S (Ws μ b))->S (Ws μ y.head)
def LA (R:List RItem)(gv:List RAtom)(a:RAtom):Prop:=∀S,ClS R gv S->S a
theorem LA.cl (R:List RItem)(gv:List RAtom):ClS R gv (LA R gv):=⟨fun a ha S hS=>hS.1 a ha,fun y hy μ hb S hS=>hS.2 y hy μ fun b aa=>hb b aa S hS⟩
theorem Abb {R:List RItem}{gv:List RAtom}{S:RAtom->Prop}(h:Sat true R gv S):ClS R gv S:=
 ⟨h.1,fun y hy μ hb=>h.2 (gv++y.body.map (Ws μ)) (fun a ha=>by
  rcases Ahs.1 ha with ha|ha
  ·exact h.1 a ha
  ·obtain⟨b,aa,rfl⟩:=Ahv.1 ha
   exact hb b aa) (fun a ha=>Ajd _ ha) y hy _ ⟨μ,fun a ha _=>Aje _ (Ahv.2 ⟨a,ha,rfl⟩),fun a ha hp=>(by cases hp),rfl⟩⟩
section
variable {N:List Tx} {ar:Tx->Nat} {Rd:List RItem} {x:RItem}
theorem yD (h:nU N ar Rd x){a:RAtom}(ha:LA Rd (x.body.map Px) a):GA N ar a/\LstF (Rd.map (Gd N)) (Ja N x) (eA N a).1 (eA N a).2:=ha _ (Abb (Ad7 h))
theorem Af1 (h:nU N ar Rd x){A:RAtom->Prop}(hA:∀a,A a->GA N ar a)(hc:∀y∈Rd,∀μ,(∀b∈y.body,A (Ws μ b))->A (Ws μ y.head)):ClD (Rd.map (Gd N)) (fun k t=>∃a,A a/\eA N a=(k,t)):=by
 intro r hr ν hb;obtain⟨y,hy,rfl⟩:=Ahv.1 hr;have ab:=h.ru y hy;have ah:∀b∈y.body,∃a,A a/\a.nt=b.nt/\a.pred=b.pred/\a.terms.map Hr=b.terms.map fun t=>Eo ν (Al t):=fun b aa=>by
  obtain⟨a,ha,e⟩:=hb (F5 N.length (Dq N b)) (by rw[Gr];exact Ahv.2 ⟨b,aa,rfl⟩);rw[aM,Ai4,cE,Mi]at e;unfold eA at e;simp only[Prod.mk.injEq]at e;obtain⟨e1,e2⟩:=e;obtain⟨g1,g2⟩:=fV (hA a ha).mem (ab.body b aa).mem e1;refine⟨a,ha,g1,g2,?_⟩;unfold Bf at e2;simp only[Ag2]at e2;exact Qk (by simp only[Aij];rw[(hA a ha).len,(ab.body b aa).len,g2]) (by rw[Aij];exact (hA a ha).le3) e2
 let μ:Tx->Tx:=fun v=>Classical.epsilon fun u=>GT u/\Hr u=ν (Al v).2;have hμ:∀v,(∃u,GT u/\Hr u=ν (Al v).2)->GT (μ v)/\Hr (μ v)=ν (Al v).2:=fun v hv=>Classical.epsilon_spec hv;have ac:∀b∈y.body,∀v∈b.terms,Ad v=true->GT (μ v)/\Hr (μ v)=ν (Al v).2:=fun b aa v hv ai=>by
  obtain⟨a,ha,-,-,e⟩:=ah b aa;obtain⟨i,hi⟩:=List.getElem?_of_mem hv;have h1:(b.terms.map fun t=>Eo ν (Al t))[i]?=some (Eo ν (Al v)):=by rw[List.getElem?_map,hi];rfl
  rw[<-e,List.getElem?_map]at h1;cases af:a.terms[i]? with
  |none=>rw[af]at h1;cases h1
  |some u=>
   rw[af]at h1;have h2:Hr u=Eo ν (Al v):=Aiq h1;refine hμ v ⟨u,(hA a ha).gt u (Agp af),?_⟩;rw[h2];unfold Eo;rw[Bp,ai,if_pos rfl]
 have ad:∀t,VT t->DT t->(Ad t=true->GT (μ t)/\Hr (μ t)=ν (Al t).2)->GT (pB μ t)/\Hr (pB μ t)=Eo ν (Al t):=fun t h1 h2 h3=>by
  unfold Eo;rw[Bp];cases hv:Ad t with
  |true=>rw[if_pos rfl,pA hv];exact h3 hv
  |false=>rw[if_neg (by simp),aY hv];exact⟨.inl ⟨hv,h1,h2⟩,Hq h1 hv⟩
 have ae:∀b∈y.body,A (Ws μ b):=fun b aa=>by
  obtain⟨a,ha,e1,e2,e3⟩:=ah b aa;have:Ws μ b=a:=by
   refine RAtom.ext' e1.symm e2.symm ?_;have hg:∀t∈b.terms,GT (pB μ t)/\Hr (pB μ t)=Eo ν (Al t):=fun t ht=>ad t (ab.vb b aa t ht).1 (ab.vb b aa t ht).2 (ac b aa t ht);refine Od (f:=Hr) (fun u hu w hw e=>?_) ?_
   ·obtain⟨t,ht,rfl⟩:=Ahv.1 hu;exact iW (hg t ht).1 ((hA a ha).gt w hw) e
   ·show (b.terms.map (pB μ)).map Hr=a.terms.map Hr;rw[e3,Ag2];exact Ahx fun t ht=>(hg t ht).2
  rw[this];exact ha
 refine⟨Ws μ y.head,hc y hy μ ae,?_⟩;unfold eA;refine Prod.ext ?_ ?_
 ·show Lf N (Ws μ y.head)=(((N.idxOf y.head.pred:Nat):Int)).toNat;unfold Lf;have:(Ws μ y.head).nt=false:=ab.hnt;rw[this,Ai4];rfl
 ·show C5 ((y.head.terms.map (pB μ)).map Hr)=C5 ((y.head.terms.map Al).map (Eo ν));rw[Ag2,Ag2];congr 1;refine Ahx fun t ht=>?_
  exact (ad t (ab.vt t ht).1 (ab.vt t ht).2 (fun hv=>by
   obtain⟨b,aa,aj⟩:=ab.safe t ht hv
   exact ac b aa t aj hv)).2
theorem Af0 (h:nU N ar Rd x){k:Nat}{t:Bc}(hl:LstF (Rd.map (Gd N)) (Ja N x) k t):∃a,LA Rd (x.body.map Px) a/\eA N a=(k,t):=
 hl _ (Af1 h (fun a ha=>(yD h ha).1) (LA.cl Rd _).2) fun a ha=>by
  unfold Ja at ha;rw[Gr,Ag2]at ha;obtain⟨b,hb,rfl⟩:=Ahv.1 ha;exact⟨Px b,(LA.cl Rd _).1 _ (Ahv.2 ⟨b,hb,rfl⟩),cL fun t ht=>(h.x.vb b hb t ht).1⟩
theorem Acl (h:nU N ar Rd x):eA N (Px x.head)=((Gd N x).head.p.toNat,Cs (Ha (Gd N x).head)):=by
 rw[cL (N:=N) (b:=x.head) fun t ht=>(h.x.vt t ht).1];have e:(F5 (N.length:Int) (Dq N x.head)).a=Ca N x.head:=by
  unfold F5;rw[if_neg (by show¬x.head.nt=true;rw[h.x.hnt];simp)];rfl
 rw[e];rfl
theorem Ab7 (h:nU N ar Rd x):LstF (Rd.map (Gd N)) (Ja N x) (Gd N x).head.p.toNat (Cs (Ha (Gd N x).head))↔LA Rd (x.body.map Px) (Px x.head):=by
 have he:=Acl h;constructor
 ·intro hl;obtain⟨a,ha,e⟩:=Af0 h hl;rw[<-he]at e;rw[<-Aew (yD h ha).1 (mQ h.x.head h.x.vt) e];exact ha
 ·intro ha;have:=(yD h ha).2;rw[he]at this;exact this
end
def jF (L:List Tx)(w:Tx):Tx:=(L.find? fun v=>Gt L v==w).getD w
section
variable {x:RItem} (hx:XR x)
include hx
theorem XR.back {a:RAtom}(ha:a∈Ae x){t:Tx}(ht:t∈a.terms)(hv:Ad t=true):jF (A5 x) (Gt (A5 x) t)=t:=by
 have hm:=hx.mem ha ht hv;have aa:∀u∈A5 x,Ad u=true:=fun u hu=>by
  have:=Mv ((Ae x).flatMap (·.terms)) [] (by simp) Aii;exact (this.1 u hu).1
 unfold jF;cases hf:(A5 x).find? fun v=>Gt (A5 x) v==Gt (A5 x) t with
 |none=>
  have:=List.find?_eq_none.1 hf t hm;simp at this
 |some u=>
  have h1:=List.mem_of_find?_eq_some hf;have h2:=List.find?_some hf;simp only[Ajk]at h2;show u=t;unfold Gt at h2;rw[if_pos (aa u h1),if_pos hv]at h2;have w1:=hx.which h1;have w2:=hx.which hm;have ab:=hx.few;rw[w1.1,w2.1]at h2;have h3:=List.cons.inj h2;have e1:=E9 (k:=((A5 x).idxOf u:Nat)) Ajm Ajm;have e2:=E9 (k:=((A5 x).idxOf t:Nat)) Ajm Ajm;rw[h3.1]at e1;exact C2 h1 hm Ajm
end
variable {Bd:Nat}
def fC (a:RAtom):Bool:=Hw (a.terms.map Al)
def J4 (s:Tx):Rd RAtom:=(Da false s).bnd fun a r=>if fC a=true then (Az 46 r).bnd fun _ r=>.got a r else .bad r
def C0:Nat->Tx->Rd (List RAtom)
 |_,[]=>.got [] []
 |0,s=>.bad s
 |n+1,s=>(J4 s).bnd fun x r=>(C0 n r).bnd fun xs r=>.got (x::xs) r
theorem N9 (n:Nat):C0 n []= .got [] []:=by cases n<;>rfl
theorem Jh (n:Nat)(b:UInt8)(r:Tx):C0 (n+1) (b::r)=(J4 (b::r)).bnd fun x r=>(C0 n r).bnd fun xs r=>.got (x::xs) r:=rfl
def faI (s:Tx)(xs:List RAtom)(q:Tx):Prop:=xs.length+q.length<=400/\C0 400 s=(C0 (400-xs.length) q).bnd fun ys r=>.got (xs++ys) r
theorem faI.start {s:Tx}(h:s.length<=400):faI s [] s:=by
 refine⟨by simpa using h,?_⟩;simp only[Ahi,Ah0,Ahq];cases C0 400 s<;>rfl
theorem faI.done {s:Tx}{xs:List RAtom}(h:faI s xs []):C0 400 s= .got xs []:=by
 rw[h.2,N9];simp[Rd.bnd]
theorem faI.fail {s:Tx}{xs:List RAtom}{b:UInt8}{r e:Tx}(h:faI s xs (b::r))(he:J4 (b::r)= .bad e):C0 400 s= .bad e:=by
 have:=h.1;simp only[Ahj]at this;obtain⟨k,hk⟩:∃k,400-xs.length=k+1:=⟨399-xs.length,Ajm⟩;rw[h.2,hk,Jh,he];rfl
theorem U5 {s r:Tx}{a:RAtom}(h:J4 s= .got a r):s=A7 a++46::r/\D2 a/\a.nt=false/\fC a=true:=by
 unfold J4 at h;cases hp:Da false s with
 |bad e=>rw[hp]at h;cases h
 |got a2 r2=>
  rw[hp]at h;simp only[Rd.bnd]at h;split at h
  ·rename_i hs;cases hb:Az 46 r2 with
   |bad e=>rw[hb]at h;cases h
   |got u r3=>
    rw[hb]at h;cases h;obtain⟨e1,e2,e3⟩:=F0 hp;refine⟨?_,e2,e3,hs⟩;rw[e1];congr 1;cases r2 with
    |nil=>cases hb
    |cons c r4=>
     unfold Az at hb;dsimp only at hb;split at hb
     ·rename_i hc;cases hb;have:c=46:=by
       have:=Ajk.1 hc;apply UInt8.toNat_inj.1;simpa using Int.ofNat.inj this
      rw[this]
     ·cases hb
  ·cases h
theorem Pt {σ σ':St}(k:Keep σ σ')(o:Nat):KeepX o σ σ':=⟨k.nobj,fun p hp _=>k.obj p hp,fun p hp _=>k.ver p hp,k.ntop,k.top⟩
theorem RS.keep {t:Tx}{o:Nat}{N:List Tx}{id:Nat}{s:Tx}{σ σ':St}(h:RS Bd t o N id s σ)(k:Keep σ σ'):RS Bd t o N id s σ':=h.stepX (Pt k o) (by rw[k.obj o h.lt];exact h.obj) h.suf (Agi _)
theorem faI.next {s:Tx}{xs:List RAtom}{b:UInt8}{r r2:Tx}{x:RAtom}(h:faI s xs (b::r))(he:J4 (b::r)= .got x r2):faI s (xs++[x]) r2:=by
 have h1:=h.1;have h2:=congrArg List.length (U5 he).1;simp only[Ahj,Aha]at h1 h2;obtain⟨k,hk⟩:∃k,400-xs.length=k+1:=⟨399-xs.length,Ajm⟩;refine⟨by simp;omega,?_⟩;rw[h.2,hk,Jh,he,show 400-(xs++[x]).length=k by simp;omega];simp only[Rd.bnd];cases C0 k r2<;>simp
def PF (N:List Tx)(a:RAtom)(c:List AV):Prop:=a.pred∈N/\∃ids,c=[ic (N.idxOf a.pred:Nat),sl ids a.terms.length (Aw a.terms)]
theorem nW {N:List Tx}(a:RAtom)(c:List AV)(h:PF N a c):c.length=2:=by obtain⟨-,ids,rfl⟩:=h;rfl
theorem PF.mono {N N':List Tx}(hN:N<+:N')(a:RAtom)(c:List AV)(h:PF N a c):PF N' a c:=by
 obtain⟨hm,ids,rfl⟩:=h;exact⟨hN.subset hm,ids,by rw[Kt hN hm]⟩
theorem Adt {N:List Tx}:∀{l:List RAtom} {c:List AV},EL (PF N) l c->EL Mm (l.map (Ca N)) c
 |[],_,h=>h
 |a::l,_,⟨c,r,⟨hm,ids,e⟩,h,e2⟩=>⟨c,r,⟨ids,by rw[e];simp[Ca,F3]⟩,Adt h,e2⟩
theorem fM {t:Tx}{o:Nat}{N:List Tx}{id:Nat}{σ:St}(bc:t.length<=400)(hR:RS Bd t o N id t σ):
  ACalls Tryz.prog 78 [ptr o 0] σ fun x σ'=>∃n ids c N' id' r',x=tp [sl ids n c,sc (.bool (C0 400 t).ok)]/\Rs o σ id σ' id'/\RS Bd t o N' id' r' σ'/\N<+:N'/\Rd.Val (C0 400 t) fun xs=>n=xs.length/\EL (PF N') xs c:=by
 have ht:t.length<=1000:=Ajm;have hn:=hR.lt;have bf:OwnN σ id N.length:=hR.own;refine Z9 39 [.tmp 2,.tmp 3] Tryz.func78 ?_
 repeat' (first|refine Z1 ?_|(refine Z8 ?_;intro κ hκ)|(refine Z4 ?_;clear hκ κ)|(refine Z2 ?_ ?_<;>intro h ae<;>try exact Xp)|(refine Z6 ?_;intro idn σn ah ai ac ab ad aa)|refine Z3 ?_|exact⟨⟩|(apply hκ.out;clear hκ κ))
 refine Af (fun m s' σ'=>∃(xs:List RAtom) (q:Tx) (ids:Nat) (d:List AV) (N2:List Tx) (id2:Nat),m=400-xs.length/\s' 0=ptr o 0/\s' 4=sl ids xs.length d/\Rs o σ id σ' id2/\RS Bd t o N2 id2 q σ'/\Own σ σ' ids xs.length/\Ajs (id2=1\/id2≠ids)/\N<+:N2/\d.length=xs.length*2/\Ajs (EL (PF N2) xs d)/\Ajs (faI t xs q)) 400
  ⟨[],t,1,[],N,id,rfl,rfl,rfl,Rs.refl _ _ _,hR,Own.nil _ _,by rcases bf with⟨e,-⟩|⟨k,e,-⟩;exact .inl e;exact .inr Ajm,List.prefix_refl _,by simp,rfl,faI.start bc⟩ ?_
 rintro m s' σ' ⟨xs,q,ids,d,N2,id2,rfl,h0,h4,hS,av,hO,a9,aw,be,hE,hI⟩;have bl:=hS.keep.nobj;have bd:=av.lt;have a4:=av.obj;have a8:=Hm av.suf;have bb:=hI.out.1;unfold Le R9 at a4
 repeat' (first|refine Z1 ?_|(refine Z8 ?_;intro κ hκ)|(refine Z4 ?_;clear hκ κ)|(refine Z2 ?_ ?_<;>intro h ae<;>try exact Xp)|(refine Z6 ?_;intro idn σn ah ai ac ab ad aa)|refine Z3 ?_|exact⟨⟩|(apply hκ.out;clear hκ κ))
 refine A9 Aj (fun _=>True) [9] [0,1,2,3,4,5,6,7,8] [9] Ajp (fun _ _ _ h=>h) ?_;intro κ hκ;cases q with
 |nil=>
  simp only[Ahi,Ah0]at a4 a8;refine Z3 ?_
  repeat' (first|refine Z1 ?_|(refine Z8 ?_;intro κ hκ)|(refine Z4 ?_;clear hκ κ)|(refine Z2 ?_ ?_<;>intro h ae<;>try exact Xp)|(refine Z6 ?_;intro idn σn ah ai ac ab ad aa)|refine Z3 ?_|exact⟨⟩|(apply hκ.out;clear hκ κ))
  have hp:=hI.out.done
  first
  |exact⟨_,rfl,_,ids,d,N2,id2,[],by rw[hp];rfl,hS,av,aw,by rw[hp];exact⟨rfl,hE.out⟩⟩
  |exact⟨_,rfl,_,ids,d,N2,id2,[],by rw[hp];rfl,av,aw,by rw[hp];exact⟨rfl,hE.out⟩⟩
 |cons b0 r0=>
  simp only[Ahj]at a4 a8 bb;have ak:=Ny (Bd:=Bd) false ht av;have ap:Ajs (∀e,J4 (b0::r0)= .bad e->C0 400 t= .bad e):=fun e he=>hI.out.fail he;cases hp:Da false (b0::r0)with
  |bad e=>
   rw[hp]at ak;have HF:Ajs (C0 400 t= .bad e):=ap.out e (by unfold J4;rw[hp];rfl);clear hp ap;simp only[Rd.ok,Rd.rest,Rd.Val]at ak;refine Z3 ?_
   repeat' (first|refine Z1 ?_|(refine Z8 ?_;intro κ hκ)|(refine Z4 ?_;clear hκ κ)|(refine Z2 ?_ ?_<;>intro h ae<;>try exact Xp)|(refine Z6 ?_;intro idn σn ah ai ac ab ad aa)|(refine Z5 ?_;refine Xi (ak) ?_;rintro _ _ ⟨k,n,ids2,c,N3,id3,rfl,aj,a7,am,-⟩;(have an:=aj.keep.nobj))|refine Z3 ?_|exact⟨⟩|(apply hκ.out;clear hκ κ))
   rename_i σ3;refine⟨_,rfl,0,1,[],N3,id3,e,by rw[HF.out];rfl,by repeat (first|exact Rs.refl _ _ _|(with_reducible assumption)|(with_reducible apply Rs.put;rotate_left;(first|omega|(simp only[Aa,Ab,Ah,As]at*;omega)))|(with_reducible apply Rs.new)|(with_reducible apply Rs.lay)|(refine Rs.trans ?_ (by with_reducible assumption))|(refine Rs.transX ?_ (by with_reducible assumption))),?_,aw.trans am,by rw[HF.out];trivial⟩
   repeat (first|(with_reducible assumption)|(with_reducible apply RS.put;rotate_left;(first|omega|(simp only[Aa,Ab,Ah,As]at*;omega)))|(with_reducible apply RS.new)|(with_reducible apply RS.lay)|assumption)
  |got a r2=>
   rw[hp]at ak;simp only[Rd.ok,Rd.rest,Rd.Val]at ak;have ao:=fun (k:Int) (ids2:Nat) (σ:St)=>Js k ids2 (a.terms.map Al) (by have:=(F0 hp).2.1.2.2.1;simp;omega) σ;rw[F3,Aij]at ao;have HP:Ajs (J4 (b0::r0)=if fC a=true then (Az 46 r2).bnd fun _ r=>.got a r else .bad r2):=by rw[Ajs,J4,hp];rfl
   rw[show Hw (a.terms.map Al)=fC a from rfl]at ao;clear hp;cases hs:fC a with
   |false=>
    have HF:Ajs (C0 400 t= .bad r2):=ap.out r2 (by rw[HP.out,hs];rfl);rw[hs]at ao;clear hs HP ap;refine Z3 ?_
    repeat' (first|refine Z1 ?_|(refine Z8 ?_;intro κ hκ)|(refine Z4 ?_;clear hκ κ)|(refine Z2 ?_ ?_<;>intro h ae<;>try exact Xp)|(refine Z6 ?_;intro idn σn ah ai ac ab ad aa)|(refine Z5 ?_;first|(refine Xi (ak) ?_;rintro _ _ ⟨k,n,ids2,c,N3,id3,rfl,aj,a7,am,⟨m1,rfl,rfl,rfl⟩⟩;(have an:=aj.keep.nobj))|(refine Xi (ao _ _ _) ?_;rintro _ _ ⟨rfl,af⟩))|refine Z3 ?_|exact⟨⟩|(apply hκ.out;clear hκ κ))
    rename_i σ3 σ5;have ay:Rs o σ id ((σ3.new [ic 0,nilS]).put σ3.nobj [ic (N3.idxOf a.pred:Nat),sl ids2 a.terms.length (Aw a.terms)]) id3:=by repeat (first|exact Rs.refl _ _ _|(with_reducible assumption)|(with_reducible apply Rs.put;rotate_left;(first|omega|(simp only[Aa,Ab,Ah,As]at*;omega)))|(with_reducible apply Rs.new)|(with_reducible apply Rs.lay)|(refine Rs.trans ?_ (by with_reducible assumption))|(refine Rs.transX ?_ (by with_reducible assumption)))
    have az:RS Bd t o N3 id3 r2 ((σ3.new [ic 0,nilS]).put σ3.nobj [ic (N3.idxOf a.pred:Nat),sl ids2 a.terms.length (Aw a.terms)]):=by repeat (first|(with_reducible assumption)|(with_reducible apply RS.put;rotate_left;(first|omega|(simp only[Aa,Ab,Ah,As]at*;omega)))|(with_reducible apply RS.new)|(with_reducible apply RS.lay)|assumption)
    exact⟨_,rfl,0,1,[],N3,id3,r2,by rw[HF.out];rfl,ay.transX (Pt af o),az.keep af,aw.trans am,by rw[HF.out];trivial⟩
   |true=>
    rw[hs]at ao;have au:=fun (N3:List Tx) (id3:Nat) (σ1:St) (h:RS Bd t o N3 id3 r2 σ1)=>Ir (c:=46) ht h;cases hb:(Az 46 r2)with
    |bad e=>
     have HF:Ajs (C0 400 t= .bad e):=ap.out e (by rw[HP.out,hs,hb];rfl);rw[hb]at au;simp only[Rd.ok,Rd.rest]at au;clear hs HP ap hb;refine Z3 ?_
     repeat' (first|refine Z1 ?_|(refine Z8 ?_;intro κ hκ)|(refine Z4 ?_;clear hκ κ)|(refine Z2 ?_ ?_<;>intro h ae<;>try exact Xp)|(refine Z6 ?_;intro idn σn ah ai ac ab ad aa)|(refine Z5 ?_;first|(refine Xi (ak) ?_;rintro _ _ ⟨k,n,ids2,c,N3,id3,rfl,aj,a7,am,⟨m1,rfl,rfl,rfl⟩⟩;(have an:=aj.keep.nobj;rename_i σ3;have ay:Rs o σ id ((σ3.new [ic 0,nilS]).put σ3.nobj [ic (N3.idxOf a.pred:Nat),sl ids2 a.terms.length (Aw a.terms)]) id3:=(by repeat (first|exact Rs.refl _ _ _|(with_reducible assumption)|(with_reducible apply Rs.put;rotate_left;(first|omega|(simp only[Aa,Ab,Ah,As]at*;omega)))|(with_reducible apply Rs.new)|(with_reducible apply Rs.lay)|(refine Rs.trans ?_ (by with_reducible assumption))|(refine Rs.transX ?_ (by with_reducible assumption))));have az:RS Bd t o N3 id3 r2 ((σ3.new [ic 0,nilS]).put σ3.nobj [ic (N3.idxOf a.pred:Nat),sl ids2 a.terms.length (Aw a.terms)]):=(by repeat (first|(with_reducible assumption)|(with_reducible apply RS.put;rotate_left;(first|omega|(simp only[Aa,Ab,Ah,As]at*;omega)))|(with_reducible apply RS.new)|(with_reducible apply RS.lay)|assumption))))|(refine Xi (ao _ _ _) ?_;rintro _ _ ⟨rfl,af⟩;(have a5:=ay.transX (Pt af o);have a6:=az.keep af))|(refine Xi (au N3 id3 _ a6) ?_;rintro _ _ ⟨rfl,a0,a3⟩))|refine Z3 ?_|exact⟨⟩|(apply hκ.out;clear hκ κ))
     exact⟨_,rfl,0,1,[],N3,id3,e,by rw[HF.out];rfl,a5.transX a0,a3,aw.trans am,by rw[HF.out];trivial⟩
    |got u r3=>
     have HF:Ajs (faI t (xs++[a]) r3):=hI.out.next (by rw[HP.out,hs,hb];rfl);rw[hb]at au;simp only[Rd.ok,Rd.rest]at au;clear hs HP ap hb;refine Z3 ?_
     repeat' (first|refine Z1 ?_|(refine Z8 ?_;intro κ hκ)|(refine Z4 ?_;clear hκ κ)|(refine Z2 ?_ ?_<;>intro h ae<;>try exact Xp)|(refine Z6 ?_;intro idn σn ah ai ac ab ad aa)|(refine Z5 ?_;first|(refine Xi (ak) ?_;rintro _ _ ⟨k,n,ids2,c,N3,id3,rfl,aj,a7,am,⟨m1,rfl,rfl,rfl⟩⟩;(have an:=aj.keep.nobj;rename_i σ3;have ay:Rs o σ id ((σ3.new [ic 0,nilS]).put σ3.nobj [ic (N3.idxOf a.pred:Nat),sl ids2 a.terms.length (Aw a.terms)]) id3:=(by repeat (first|exact Rs.refl _ _ _|(with_reducible assumption)|(with_reducible apply Rs.put;rotate_left;(first|omega|(simp only[Aa,Ab,Ah,As]at*;omega)))|(with_reducible apply Rs.new)|(with_reducible apply Rs.lay)|(refine Rs.trans ?_ (by with_reducible assumption))|(refine Rs.transX ?_ (by with_reducible assumption))));have az:RS Bd t o N3 id3 r2 ((σ3.new [ic 0,nilS]).put σ3.nobj [ic (N3.idxOf a.pred:Nat),sl ids2 a.terms.length (Aw a.terms)]):=(by repeat (first|(with_reducible assumption)|(with_reducible apply RS.put;rotate_left;(first|omega|(simp only[Aa,Ab,Ah,As]at*;omega)))|(with_reducible apply RS.new)|(with_reducible apply RS.lay)|assumption))))|(refine Xi (ao _ _ _) ?_;rintro _ _ ⟨rfl,af⟩;(have a5:=ay.transX (Pt af o);have a6:=az.keep af))|(refine Xi (au N3 id3 _ a6) ?_;rintro _ _ ⟨rfl,a0,a3⟩))|refine Z3 ?_|exact⟨⟩|(apply hκ.out;clear hκ κ))
     rename_i σ5 σ6;have bi:=Own.keepR hO aj.keep (Oo a9.out hO);have bh:Own σ ((σ3.new [ic 0,nilS]).put σ3.nobj [ic (N3.idxOf a.pred:Nat),sl ids2 a.terms.length (Aw a.terms)]) ids xs.length:=Own.put (Own.new bi _) _ _;have bg:=Own.keepX (Own.keep bh af) a0;have ba:=a5.transX a0;have ax:id3=1\/id3≠ids:=R1 a9.out hO aj.nid;have kn5:=af.nobj;simp only[Ab,Aa]at kn5;have bm:=bd;have o6:σ6.obj σ3.nobj=[ic (N3.idxOf a.pred:Nat),sl ids2 a.terms.length (Aw a.terms)]:=by rw[a0.obj _ Ajm Ajm,af.obj _ Ajr,Ak]
     have hC:PF N3 a [ic (N3.idxOf a.pred:Nat),sl ids2 a.terms.length (Aw a.terms)]:=⟨m1,ids2,rfl⟩
     repeat' (first|refine Z1 ?_|(refine Z8 ?_;intro κ hκ)|(refine Z4 ?_;clear hκ κ)|(refine Z2 ?_ ?_<;>intro h ae<;>try exact Xp)|(refine Z6 ?_;intro idn σn ah ai ac ab ad aa)|refine Z3 ?_|exact⟨⟩|(apply hκ.out;clear hκ κ))
     refine Nf (o:=o) (idn:=id) (σ0:=σ) (by first|exact Es) ba.keep bg (by decide) (by rfl) be (by rfl) (by rfl) (by decide) Ajm Ajm ?_;intro idn σn ah ai ac ab ad aa etop hid;refine Z3 ?_
     repeat' (first|refine Z1 ?_|(refine Z8 ?_;intro κ hκ)|(refine Z4 ?_;clear hκ κ)|(refine Z2 ?_ ?_<;>intro h ae<;>try exact Xp)|(refine Z6 ?_;intro idn σn ah ai ac ab ad aa)|refine Z3 ?_|exact⟨⟩|(apply hκ.out;clear hκ κ))
     refine⟨400-(xs++[a]).length,by simp;omega,xs++[a],r3,idn,d++[ic (N3.idxOf a.pred:Nat),sl ids2 a.terms.length (Aw a.terms)],N3,id3,rfl,by simp,⟨ai,ba.nid⟩,a3.app ac ab aa etop ax,by simpa using ah,Ra a3.own ax hid,aw.trans am,by simp;omega,EL.append (hE.out.mono (PF.mono am)) (EL.single hC),HF⟩
end Go.Proofs.YtmoeoppbmhfbpabGreatDoorL
