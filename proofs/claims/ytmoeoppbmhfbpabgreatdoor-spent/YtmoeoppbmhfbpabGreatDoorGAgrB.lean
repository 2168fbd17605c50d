import Derived.Test.YtmoeoppbmhfbpabGreatDoorGImpB
import Derived.Test.YtmoeoppbmhfbpabGreatDoorGSpaE
import Derived.Test.YtmoeoppbmhfbpabGreatDoorGOptC
set_option maxHeartbeats 64000000
set_option maxRecDepth 100000
set_option linter.all false
namespace Go.Proofs.YtmoeoppbmhfbpabGreatDoorG
open Go.Abs
def G1:Tx->Int
 |[]=>0
 |b::r=>if b=35 then 1000+(Am r).2 else (Am (b::r)).2
theorem Ye (b:UInt8)(r:Tx):G1 (b::r)=if b=35 then 1000+(Am r).2 else (Am (b::r)).2:=rfl
theorem Gl (v:Tx):G1 (35::v)=1000+(Am v).2:=by rw[Ye,if_pos rfl]
def GT (t:Tx):Prop:=(Ad t=false/\VT t/\DT t)\/∃v,t=35::v/\Ad v=true/\VT v
theorem qX {v:Tx}(h:VT v)(hv:Ad v=true):∃b,v=[b]/\A8 b.toNat=true:=by
 rcases h with h|⟨h1,h2⟩
 ·exact h
 ·exfalso;cases v with
  |nil=>exact h1 rfl
  |cons b r=>
   have hd:=h2 b (by simp);have hl:A8 b.toNat=true:=hv;unfold Az at hd;unfold A8 at hl;simp at hd hl;omega
theorem qY {v:Tx}(h:VT v)(hv:Ad v=false):v≠[]/\∀b∈v,Az b.toNat=true:=by
 rcases h with⟨b,rfl,h⟩|h
 ·have:Ad [b]=A8 b.toNat:=rfl;rw[this,h]at hv;cases hv
 ·exact h
theorem Gz {t:Tx}(h:VT t)(hv:Ad t=false):G1 t=(Am t).2:=by
 obtain⟨h1,h2⟩:=qY h hv;cases t with
 |nil=>exact absurd rfl h1
 |cons b r=>
  rw[Ye,if_neg];rintro rfl;have:=h2 35 (by simp);revert this;decide
theorem Mb {v:Tx}(h:VT v)(hv:Ad v=true):0<=(Am v).2/\(Am v).2<26:=by
 obtain⟨b,rfl,hl⟩:=qX h hv;rw[Dy hl];unfold A8 at hl;simp at hl;simp only;omega
theorem Nr {t:Tx}(h:DT t)(hv:Ad t=false):Lib.itoa (Am t).2=t/\0<=(Am t).2/\(Am t).2<=999:=by
 rcases h with h|⟨-,h⟩
 ·rw[h]at hv;cases hv
 ·exact h
theorem uT {t:Tx}(h:GT t):∃n:Nat,G1 t=(n:Int)/\n<1026:=by
 rcases h with⟨h1,h2,h3⟩|⟨v,rfl,h1,h2⟩
 ·rw[Gz h2 h1];obtain⟨-,e1,e2⟩:=Nr h3 h1;exact⟨(Am t).2.toNat,Agm,Agm⟩
 ·obtain⟨e1,e2⟩:=Mb h2 h1;refine⟨(1000+(Am v).2).toNat,?_,Agm⟩;rw[Gl];omega
theorem eX {t u:Tx}(ht:GT t)(hu:GT u)(h:G1 t=G1 u):t=u:=by
 rcases ht with⟨h1,h2,h3⟩|⟨v,rfl,h1,h2⟩
 ·rcases hu with⟨g1,g2,g3⟩|⟨w,rfl,g1,g2⟩
  ·rw[Gz h2 h1,Gz g2 g1]at h;rw[<-(Nr h3 h1).1,<-(Nr g3 g1).1,h]
  ·exfalso;rw[Gz h2 h1]at h;have:=(Nr h3 h1).2.2;have:=(Mb g2 g1).1;rw[Gl]at h;omega
 ·rcases hu with⟨g1,g2,g3⟩|⟨w,rfl,g1,g2⟩
  ·exfalso;rw[Gz g2 g1]at h;have:=(Nr g3 g1).2.2;have:=(Mb h2 h1).1;rw[Gl]at h;omega
  ·rw[Gl,Gl]at h;rw[mV h2 g2 h1 g1 Agm]
theorem uU {t:Tx}(h:VT t):G1 (Ko t)=(Vq (Am t)).2:=by
 unfold Ko Vq;rw[Bw];cases hv:Ad t with
 |true=>rw[if_pos rfl,if_pos rfl,Gl]
 |false=>rw[if_neg (by simp),if_neg (by simp)];exact Gz h hv
theorem Abw {t:Tx}(h:VT t)(hd:DT t):GT (Ko t):=by
 unfold Ko;cases hv:Ad t with
 |true=>rw[if_pos rfl];exact .inr ⟨t,rfl,hv,h⟩
 |false=>rw[if_neg (by simp)];exact .inl ⟨hv,h,hd⟩
def Km (N:List Tx)(a:RAtom):Nat:=N.idxOf a.pred+(if a.nt=true then N.length else 0)
def eA (N:List Tx)(a:RAtom):Nat×Ca:=(Km N a,Df (a.terms.map G1))
structure AtI (N:List Tx)(ar:Tx->Nat)(a:RAtom):Prop where
 mem:a.pred∈N
 len:a.terms.length=ar a.pred
 le3:a.terms.length<=3
structure GA (N:List Tx)(ar:Tx->Nat)(a:RAtom):Prop extends AtI N ar a where
 gt:∀t∈a.terms,GT t
theorem dC {N:List Tx}{a b:RAtom}(ha:a.pred∈N)(hb:b.pred∈N)(h:Km N a=Km N b):a.nt=b.nt/\a.pred=b.pred:=by
 have h1:=Afd ha;have h2:=Afd hb;unfold Km at h;have hnt:a.nt=b.nt:=by
  cases e1:a.nt<;>cases e2:b.nt<;>simp[e1,e2]at h⊢ <;>omega
 rw[hnt]at h;have hi:N.idxOf a.pred=N.idxOf b.pred:=Agm;refine⟨hnt,?_⟩;have e1:=Afc h1;have e2:=Afc h2;rw[<-e1,<-e2];congr 1
theorem Nj {α β:Type}{f:α->β}:∀{l m:List α},(∀a∈l,∀b∈m,f a=f b->a=b)->l.map f=m.map f->l=m
 |[],[],_,_=>rfl
 |[],b::m,_,h=>by simp at h
 |a::l,[],_,h=>by simp at h
 |a::l,b::m,hi,h=>by
  simp only[Ad9,Af9]at h;rw[hi a (by simp) b (by simp) h.1,Nj (fun x hx y hy=>hi x (by simp[hx]) y (by simp[hy])) h.2]
theorem uX {N:List Tx}{ar:Tx->Nat}{a b:RAtom}(ha:GA N ar a)(hb:GA N ar b)(h:eA N a=eA N b):a=b:=by
 unfold eA at h;simp only[Prod.mk.injEq]at h;obtain⟨h1,h2⟩:=dC ha.mem hb.mem h.1;have hl:a.terms.length=b.terms.length:=by rw[ha.len,hb.len,h2]
 have h3:=Wj (by simpa using hl) (by simpa using ha.le3) h.2;exact RAtom.ext' h1 h2 (Nj (fun x hx y hy e=>eX (ha.gt x hx) (hb.gt y hy) e) h3)
structure RuI (N:List Tx)(ar:Tx->Nat)(y:RItem):Prop where
 head:AtI N ar y.head
 hnt:y.head.nt=false
 body:∀b∈y.body,AtI N ar b
 vt:∀t∈y.head.terms,VT t/\DT t
 vb:∀b∈y.body,∀t∈b.terms,VT t/\DT t
 safe:∀v∈y.head.terms,Ad v=true->∃b∈y.body,v∈b.terms
theorem wC (N:List Tx)(y:RItem):(D1 N y).head=Dr N y.head:=rfl
theorem F5 (N:List Tx)(y:RItem):(D1 N y).body=y.body.map fun b=>Fo N.length (Eo N b):=by simp[D1,wB,Bt]
theorem Ys (N:List Tx)(b:RAtom):(Fo (N.length:Int) (Eo N b)).a.p=(Km N b:Nat):=by
 unfold Fo Eo Dr Km;simp only;cases h:b.nt with
 |true=>simp
 |false=>simp
theorem Lq (N:List Tx)(b:RAtom):(Fo (N.length:Int) (Eo N b)).a.ts=b.terms.map Am:=by
 unfold Fo Eo Dr;simp only;split<;>rfl
def Ac7 (v:Int):UInt8:=UInt8.ofNat (65+v.toNat)
def tT (μ:Tx->Tx):Nu:=fun v=>G1 (μ [Ac7 v])
theorem tS {μ:Tx->Tx}{v:Tx}(h:VT v)(hv:Ad v=true):tT μ (Am v).2=G1 (μ v):=by
 obtain⟨b,rfl,hl⟩:=qX h hv;unfold tT Ac7;rw[Dy hl];have hb:65<=b.toNat:=by unfold A8 at hl;simp at hl;omega
 have e:(65+((b.toNat:Int)-65).toNat)=b.toNat:=Agm;simp only[e,UInt8.ofNat_toNat]
theorem Aa1 {μ:Tx->Tx}{t:Tx}(h:VT t):Et (tT μ) (Am t)=G1 (Rc μ t):=by
 unfold Et;rw[Bw];cases hv:Ad t with
 |true=>rw[if_pos rfl,Im hv,tS h hv]
 |false=>rw[if_neg (by simp),Gs hv,Gz h hv]
theorem sD {μ:Tx->Tx}{ts:List Tx}{p:Int}(h:∀t∈ts,VT t):Bo ⟨p,ts.map Am⟩ (tT μ)=Df ((ts.map (Rc μ)).map G1):=by
 unfold Bo;simp only[Ad6];congr 1;exact Ae0 fun t ht=>Aa1 (h t ht)
theorem Zn {a:C4}{ν:Nu}:Bo a ν=Bo ⟨0,a.ts⟩ ν:=rfl
structure Nw (N:List Tx)(ar:Tx->Nat)(Rd:List RItem)(x:RItem):Prop where
 ru:∀y∈Rd,RuI N ar y
 x:RuI N ar x
theorem jH {N:List Tx}{ar:Tx->Nat}{b:RAtom}(h:AtI N ar b)(ht:∀t∈b.terms,VT t/\DT t):GA N ar (Dq b):=
 ⟨⟨h.mem,by show (b.terms.map Ko).length=_;rw[Afo];exact h.len,by show (b.terms.map Ko).length<=3;rw[Afo];exact h.le3⟩,fun t hm=>by
  obtain⟨u,hu,rfl⟩:=Aey.1 hm
  exact Abw (ht u hu).1 (ht u hu).2⟩
theorem Zt {N:List Tx}{b:RAtom}(ht:∀t∈b.terms,VT t):eA N (Dq b)=((Fo (N.length:Int) (Eo N b)).a.p.toNat,Cl (Fe (Fo (N.length:Int) (Eo N b)).a)):=by
 unfold eA;rw[Ys,Afz];refine Afi rfl ?_;show Df ((b.terms.map Ko).map G1)=Df (((Fo (N.length:Int) (Eo N b)).a.ts.map Vq).map (·.2));rw[Lq,Ad6,Ad6,Ad6];congr 1;exact Ae0 fun t hm=>uU (ht t hm)
theorem Aa9 {N:List Tx}{ar:Tx->Nat}{Rd:List RItem}{x:RItem}(h:Nw N ar Rd x):Sat true Rd (x.body.map Dq) (fun a=>GA N ar a/\LstF (Rd.map (D1 N)) (F2 N x) (eA N a).1 (eA N a).2):=by
 refine⟨fun a ha=>?_,fun A' ac hg y hy hd hs=>?_⟩
 ·obtain⟨b,hb,rfl⟩:=Aey.1 ha;refine⟨jH (h.x.body b hb) (h.x.vb b hb),?_⟩;rw[Zt fun t ht=>(h.x.vb b hb t ht).1];have hf:Fe (Fo (N.length:Int) (Eo N b)).a∈F2 N x:=by
   unfold F2;rw[F5,Ad6];exact Aey.2 ⟨b,hb,rfl⟩
  exact LstF.fact hf
 ·obtain⟨μ,h1,-,rfl⟩:=hs;have hr:=h.ru y hy;have hb:∀b∈y.body,GA N ar (P9 μ b)/\LstF (Rd.map (D1 N)) (F2 N x) (eA N (P9 μ b)).1 (eA N (P9 μ b)).2:=fun b hb=>ac _ (h1 b hb rfl);refine⟨⟨⟨hr.head.mem,by show (y.head.terms.map _).length=_;rw[Afo];exact hr.head.len,by show (y.head.terms.map _).length<=3;rw[Afo];exact hr.head.le3⟩,fun t ht=>?_⟩,?_⟩
  ·obtain⟨u,hu,rfl⟩:=Aey.1 ht;cases hv:Ad u with
   |false=>rw[Gs hv];exact .inl ⟨hv,(hr.vt u hu).1,(hr.vt u hu).2⟩
   |true=>
    obtain⟨b,aa,ab⟩:=hr.safe u hu hv;exact (hb b aa).1.gt _ (Aey.2 ⟨u,ab,rfl⟩)
  ·have hc:=LstF.cl (Rd.map (D1 N)) (F2 N x) (D1 N y) (Aey.2 ⟨y,hy,rfl⟩) (tT μ) (fun l hl=>by
    rw[F5]at hl;obtain⟨b,aa,rfl⟩:=Aey.1 hl;have h2:=(hb b aa).2;rw[Ys,Afz,Zn,Lq,sD fun t ht=>(hr.vb b aa t ht).1]
    exact h2)
   rw[wC,Zn]at hc;have e1:(Dr N y.head).ts=y.head.terms.map Am:=rfl;rw[e1,sD fun t ht=>(hr.vt t ht).1]at hc;have e2:(Dr N y.head).p.toNat=(eA N (P9 μ y.head)).1:=by
    show (((N.idxOf y.head.pred:Nat):Int)).toNat=Km N (P9 μ y.head);unfold Km;have:(P9 μ y.head).nt=false:=hr.hnt;rw[this,Afz];rfl
   rw[e2]at hc;exact hc
theorem iD {t:Tx}(h:(Ax t).1=0):∀x∈Cp t,∀y∈Cp t,∀a∈Ae x,∀b∈Ae y,a.pred=b.pred->a.terms.length=b.terms.length:=by
 have aa:∀i,i<(Cp t).length->Hz (Cp t) i=false:=by
  unfold Ax at h;split at h
  ·simp at h
  split at h
  ·simp at h
  unfold Cd at h;split at h
  ·simp at h
  ·rename_i hk;exact H4 hk
 have key:∀(i j:Nat) (x y:RItem) (a b:RAtom),(Cp t)[i]?=some x->(Cp t)[j]?=some y->i<j->a∈Ae x->b∈Ae y->a.pred=b.pred->a.terms.length=b.terms.length:=by
  intro i j x y a b hi hj ac ha hb he;have h1:=aa j (List.getElem?_eq_some_iff.1 hj).1;unfold Hz at h1;rw[hj]at h1;simp only[Ae9,List.mem_range]at h1;obtain⟨k,hk⟩:=List.getElem?_of_mem hb;have h2:=h1 k (List.getElem?_eq_some_iff.1 hk).1;unfold Qn at h2;rw[hk]at h2;simp only[Aeo,not_exists,not_and]at h2
  have h3:=h2 a (by
   unfold E9 K6;refine Aew.2 (.inl (Aev.2 ⟨x,?_,ha⟩))
   exact Adt (i:=i) (by rw[List.getElem?_take,if_pos ac];exact hi))
  unfold clash at h3;simp[he]at h3;exact h3
 intro x hx y hy a ha b hb he;obtain⟨i,hi⟩:=List.getElem?_of_mem hx;obtain⟨j,hj⟩:=List.getElem?_of_mem hy;rcases Afs i j with ab|rfl|ad
 ·exact key i j x y a b hi hj ab ha hb he
 ·rw[hi]at hj;cases hj;exact W1 h x hx a ha b hb he
 ·exact (key j i y x b a hj hi ad hb ha he.symm).symm
def Vf (l:List RItem)(ar:Tx->Nat):Prop:=∀x∈l,∀a∈Ae x,a.terms.length=ar a.pred
theorem Adc {t:Tx}(h:(Ax t).1=0):∃ar,Vf (Cp t) ar:=by
 refine⟨fun p=>Classical.epsilon fun n=>∃x∈Cp t,∃a∈Ae x,a.pred=p/\a.terms.length=n,fun x hx a ha=>?_⟩;have:=Classical.epsilon_spec (p:=fun n=>∃x∈Cp t,∃b∈Ae x,b.pred=a.pred/\b.terms.length=n) ⟨_,x,hx,a,ha,rfl,rfl⟩;obtain⟨y,hy,b,hb,e1,e2⟩:=this;rw[iD h x hx y hy a ha b hb e1.symm];exact e2
theorem Acy {t:Tx}{N:List Tx}{l:List RItem}{cs:List AV}{ar:Tx->Nat}(h:Right t N l cs)(hA:Vf l ar){x:RItem}(hx:x∈l)(ho:x.out=false):RuI N ar x:=by
 have hi:=h.items;have ad:x∈Cp t:=by rw[hi];exact hx
 have hf:=Tb h.ok x ad;have ac:=h.wi x hx;have hw:=hf.w.2.2 ho;have aa:∀a,a=x.head\/a∈x.body->a∈Ae x:=fun a ha=>by
  rcases ha with rfl|ha<;>simp[Ae,ho, *]
 have ab:∀a∈Ae x,a.terms.length=ar a.pred:=hA x hx;refine⟨⟨ac.mem,ab _ (aa _ (.inl rfl)),hw.1.2.2.1⟩,hw.2.1,fun b hb=>⟨(ac.wa b hb).1,ab _ (aa _ (.inr hb)),(hw.2.2.2 b hb).2.2.1⟩,fun w hm=>⟨hf.va _ (aa _ (.inl rfl)) w hm,hf.dt _ (aa _ (.inl rfl)) w hm⟩,fun b hb w hm=>⟨hf.va _ (aa _ (.inr hb)) w hm,hf.dt _ (aa _ (.inr hb)) w hm⟩,fun v hm hv=>?_⟩;obtain⟨c0,p,hH,-⟩:=hf.rule ho;obtain⟨a,ha,-,ae⟩:=hH.saf v hv (.inl hm);exact⟨a,ha,ae⟩
def arN (N:List Tx)(ar:Tx->Nat)(k:Nat):Nat:=ar (N.getD (if k<N.length then k else k-N.length) [])
theorem kE {N:List Tx}{ar:Tx->Nat}{a:RAtom}(h:a.pred∈N):arN N ar (Km N a)=ar a.pred:=by
 have hl:=Afd h;have e:N.getD (N.idxOf a.pred) []=a.pred:=by
  rw[List.getD_eq_getElem?_getD,List.getElem?_eq_getElem hl,Option.getD_some];exact Afc hl
 unfold arN Km;cases hn:a.nt with
 |true=>
  simp only[if_true];rw[if_neg Agm,Nat.add_sub_cancel,e]
 |false=>
  simp only[Aek,if_false,Adu];rw[if_pos hl,e]
theorem zC {w:Tx}(hv:VT w)(hd:DT w)(h:(Am w).1=false):∃n:Nat,(Am w).2=(n:Int)/\n<1026:=by
 rw[Bw]at h;obtain⟨-,e1,e2⟩:=Nr hd h;exact⟨(Am w).2.toNat,Agm,Agm⟩
theorem pR {w:Tx}(hv:VT w)(hd:DT w):0<=(Am w).2/\(Am w).2<=999:=by
 cases h:Ad w with
 |true=>have:=Mb hv h;omega
 |false=>obtain⟨-,e1,e2⟩:=Nr hd h;omega
theorem sT {N:List Tx}{a:RAtom}(h:a.pred∈N):Km N a<2*N.length:=by
 have:=Afd h;unfold Km;split<;>omega
theorem Zo {ts:List Tx}{v:Int}(h:(true,v)∈ts.map Am):∃w∈ts,Ad w=true/\(Am w).2=v:=by
 obtain⟨w,hw,e⟩:=Aey.1 h;refine⟨w,hw,?_,by rw[e]⟩;rw[<-Bw,e]
theorem aA (n:Int)(l:Lit):(Fo n l).neg=false:=by
 unfold Fo;split
 ·rfl
 ·rename_i h;simpa using h
theorem Acx {N:List Tx}{ar:Tx->Nat}{y:RItem}(h:RuI N ar y)(h5:y.body.length<=5):RW (2*N.length) (arN N ar) (D1 N y):=by
 have hb:∀l∈(D1 N y).body,∃b∈y.body,l=Fo (N.length:Int) (Eo N b):=fun l hl=>by
  rw[F5]at hl;obtain⟨b,hb,rfl⟩:=Aey.1 hl;exact⟨b,hb,rfl⟩
 have af:Km N y.head=N.idxOf y.head.pred:=by unfold Km;rw[h.hnt];simp
 have ad:(D1 N y).head.p=((Km N y.head:Nat):Int):=by rw[af];rfl
 have ac:(D1 N y).head.ts=y.head.terms.map Am:=rfl;refine⟨⟨by rw[ac,Afo];exact h.head.le3,⟨_,ad,sT h.head.mem⟩,by rw[F5,Afo];omega,fun l hl=>?_,fun l hl=>?_⟩,fun l hl hn=>?_,?_,fun l hl=>?_,fun t ht hc=>?_,fun v hv=>?_,fun l hl v hv=>?_,fun v hv=>?_⟩
 ·obtain⟨b,aa,rfl⟩:=hb l hl;rw[Lq,Afo];exact (h.body b aa).le3
 ·obtain⟨b,aa,rfl⟩:=hb l hl;exact⟨_,Ys N b,sT (h.body b aa).mem⟩
 ·obtain⟨b,aa,rfl⟩:=hb l hl;rw[aA]at hn;cases hn
 ·rw[ac,Afo,ad,Afz,kE h.head.mem];exact h.head.len
 ·obtain⟨b,aa,rfl⟩:=hb l hl;rw[Lq,Afo,Ys,Afz,kE (h.body b aa).mem];exact (h.body b aa).len
 ·rw[ac]at ht;obtain⟨w,hw,rfl⟩:=Aey.1 ht;exact zC (h.vt w hw).1 (h.vt w hw).2 hc
 ·rw[ac]at hv;obtain⟨w,hw,ab,rfl⟩:=Zo hv;exact Mb (h.vt w hw).1 ab
 ·obtain⟨b,aa,rfl⟩:=hb l hl;rw[Lq]at hv;obtain⟨w,hw,ab,rfl⟩:=Zo hv;exact Mb (h.vb b aa w hw).1 ab
 ·have hv:Bc (D1 N y).head.ts v=true:=by
   rcases hv with hv|⟨l,hl,hn,-⟩
   ·exact hv
   ·obtain⟨b,aa,rfl⟩:=hb l hl;rw[aA]at hn;cases hn
  rw[hasV_iff,ac]at hv;obtain⟨w,hw,ab,rfl⟩:=Zo hv;obtain⟨b,aa,ae⟩:=h.safe w hw ab;refine⟨Fo (N.length:Int) (Eo N b),by rw[F5];exact Aey.2 ⟨b,aa,rfl⟩,aA _ _,?_⟩;rw[hasV_iff,Lq];refine Aey.2 ⟨w,ae,?_⟩;rw[<-ab,<-Bw]
theorem sH {ts:List Tx}(h:∀t∈ts,VT t/\DT t):Sml (ts.map Am):=fun t ht=>by
 obtain⟨w,hw,rfl⟩:=Aey.1 ht;have:=pR (h w hw).1 (h w hw).2;omega
def Vp (N:List Tx)(l:List RItem)(i:Nat)(x:RItem)(b:Bool):Prop:=Vt ((oth l i l.length).map (D1 N)) (F2 N x) (D1 N x).head.p.toNat (Cl (Fe (D1 N x).head)) b
def pB (N:List Tx)(l:List RItem)(n:Nat):Prop:=∀i y,i<n->l[i]?=some y->y.out=false->Cj N l (rpl i [] l)=true->Vp N l i y false
def chR (N:List Tx)(l:List RItem)(idn:Nat)(x:AV)(b:Bool):Prop:=
 (b=false/\pB N l l.length)\/(b=true/\∃i y,l[i]?=some y/\y.out=false/\Cj N l (rpl i [] l)=true/\Vp N l i y true/\pB N l i/\∃id c',x=B9 N idn (rpl i [] l) id c'/\EL (PI N) (rpl i [] l) c')
theorem GL.less {N:List Tx}{l:List RItem}(h:GL N l){i:Nat}:GL N (rpl i [] l):=by
 have hm:∀y∈rpl i [] l,y∈l:=fun y hy=>by
  rcases Dm hy with h|h
  ·exact h
  ·cases h
 exact⟨Ado (Oh l) h.len,h.nm,fun y hy=>h.msr y (hm y hy),fun y hy=>h.fits y (hm y hy),fun y hy=>h.pos y (hm y hy),fun y hy=>h.va y (hm y hy),fun y hy=>h.ar y (hm y hy)⟩
theorem Mf (N:List Tx)(l:List RItem)(cs:List AV)(idn idi:Nat)(ar:Nat->Nat)(hG:GL N l)(hI:BkI N l ar)(hE:EL (PI N) l cs)(D:St):
  ACalls Tryz.prog 126 [B9 N idn l idi cs] D fun r D'=>(∃x b,r=tp [x,sc (.bool b)]/\chR N l idn x b/\fY x)/\Keep D D':=by
 have bg:=EL.length D2 hE;have aw:=hG.len;have ba:Bk N l cs:=(hG.bkm hE).bk aw;have aj:=fun i D=>Tf N l [] cs [] idn idi 1 i hE rfl Agm (by simp) D;have ai:=fun i c' id' (a8:EL (PI N) (rpl i [] l) c') D=>G3 N l (rpl i [] l) cs c' idn idi id' (hG.bkm hE) (hG.less.bkm a8).bj D;simp only[Aem]at aj;refine Z9 37 [.cell 2 62,.tmp 3] Tryz.func126 ?_
 repeat' (first|refine Z1 ?_|(refine Z8 ?_;intro κ hκ)|(refine Z4 ?_;clear hκ κ)|(refine Z2 ?_ ?_<;>intro h ac<;>try exact Xp)|refine Z3 ?_|exact⟨⟩|(apply hκ.out;clear hκ κ))
 refine Ag (fun m s D'=>∃(i:Nat),m=l.length-i/\i<=l.length/\s 1=ptr D.nobj 0/\s 2=ptr (D.nobj+1) 0/\s 10=sl idi l.length cs/\s 11=sc (.int .i64 l.length)/\s 12=sc (.int .i64 i)/\Keep D D'/\D.nobj+1<D'.nobj/\D'.obj D.nobj=[sl idn N.length (N.map str),sl idi l.length cs]/\D'.obj (D.nobj+1)=[nilS,nilS]/\Agt (pB N l i)) l.length
  ⟨0,Agm,Agm,Ago,Ago,Ago,Ago,rfl,Xs,Agq,by rw[Af Agq,Ap],by first|exact Ap|simp[Ap],fun i y h=>Agm⟩ ?_
 rintro m s D' ⟨i,rfl,hi,h1,h2,bn,bm,bh,hK,hno,be,bd,hA⟩;have bf:=hK.nobj;by_cases a6:i<l.length
 ·have aa:=List.getElem?_eq_getElem a6;obtain⟨a5,ih,idb,b,r,a9,hd⟩:=G8 hE aa;generalize l[i]=x at hd aa a5 a9;have af:(x.out=false->Cj N l (rpl i [] l)=true->Vp N l i x false)->Agt (pB N l (i+1)):=fun h j y hj hy ho hb=>by
   rcases Adq j i with h'|h'
   ·exact hA.out j y h' hy ho hb
   ·have:j=i:=Agm;subst this;rw[aa]at hy;cases hy;exact h ho hb
  cases hxo:x.out with
  |true=>
   rw[hxo]at hd;have HA:=af (fun h=>by rw[hxo]at h;cases h);clear af hA aa
   repeat' (first|refine Z1 ?_|(refine Z8 ?_;intro κ hκ)|(refine Z4 ?_;clear hκ κ)|(refine Z2 ?_ ?_<;>intro h ac<;>try exact Xp)|refine Z3 ?_|exact⟨⟩|(apply hκ.out;clear hκ κ))
   refine⟨l.length-(i+1),Agm,i+1,?_⟩
   ((repeat' with_reducible refine And.intro ?_ ?_)<;>first|exact Xq|exact (HA)|exact Xs)
  |false=>
   have a3:=fun D=>Vm N l cs idn idi i ar x ba hI aa hxo D;have aj:=aj i;have ai:=ai i;have HG:Agt (l[i]?=some x):=aa;have ax:Agt _:=af;have bb:Agt (x.out=false):=hxo;rw[hxo]at hd;cases ah:Cj N l (rpl i [] l)with
   |false=>
    rw[ah]at ai;have HA:=af (fun _ h=>by rw[ah]at h;cases h);clear af hA aa ah ax a3
    repeat' (first|refine Z1 ?_|(refine Z8 ?_;intro κ hκ)|(refine Z4 ?_;clear hκ κ)|(refine Z2 ?_ ?_<;>intro h ac<;>try exact Xp)|(refine Z5 ?_;first|(refine Xi (aj _) ?_;rintro _ _ ⟨⟨id6,c6,rfl,an⟩,am⟩;(have ae:=am.nobj;have ad:=am.obj;(try simp only[Ab,Aa,Ah]at ae ad)))|(refine Xi (ai c6 id6 an _) ?_;rintro _ _ ⟨⟨x7,rfl,az,⟨id71,n71,c71,id72,n72,c72,rfl⟩⟩,ak⟩;(have av:=ak.nobj;have ap:=ak.obj)))|refine Z3 ?_|exact⟨⟩|(apply hκ.out;clear hκ κ))
    refine⟨l.length-(i+1),Agm,i+1,?_⟩
    ((repeat' with_reducible refine And.intro ?_ ?_)<;>first|exact Xq|exact (HA)|exact Xs)
   |true=>
    rw[ah]at ai;have a4:Agt (Cj N l (rpl i [] l)=true):=ah;clear af aa ah
    repeat' (first|refine Z1 ?_|(refine Z8 ?_;intro κ hκ)|(refine Z4 ?_;clear hκ κ)|(refine Z2 ?_ ?_<;>intro h ac<;>try exact Xp)|(refine Z5 ?_;first|(refine Xi (aj _) ?_;rintro _ _ ⟨⟨id6,c6,rfl,an⟩,am⟩;(have ae:=am.nobj;have ad:=am.obj;(try simp only[Ab,Aa,Ah]at ae ad)))|(refine Xi (ai c6 id6 an _) ?_;rintro _ _ ⟨⟨x7,rfl,az,⟨id71,n71,c71,id72,n72,c72,rfl⟩⟩,ak⟩;(have av:=ak.nobj;have ap:=ak.obj))|(refine Xi (a3 _) ?_;rintro _ _ ⟨bi,rfl,ab,a0⟩;(have au:=a0.nobj;have ao:=a0.obj;have ay:Agt (Vp N l i x bi):=ab;clear ab;(try simp only[Ab,Aa]at au ao))))|refine Z3 ?_|exact⟨⟩|(apply hκ.out;clear hκ κ))
    ·have ab:=ay.out;rw[h]at ab;exact⟨_,rfl,⟨_,true,rfl,.inr ⟨rfl,i,x,HG.out,bb.out,a4.out,ab,hA.out,id6,c6,az rfl,an⟩,_,_,_,_,_,_,rfl⟩,Xs⟩
    ·have ab:=ay.out;rw[h]at ab;have HA:=ax.out fun _ _=>ab;clear ab ay ax HG a4 hA;refine⟨l.length-(i+1),Agm,i+1,?_⟩
     ((repeat' with_reducible refine And.intro ?_ ?_)<;>first|exact Xq|exact (HA)|exact Xs)
 ·have a7:i=l.length:=Agm;subst a7
  repeat' (first|refine Z1 ?_|(refine Z8 ?_;intro κ hκ)|(refine Z4 ?_;clear hκ κ)|(refine Z2 ?_ ?_<;>intro h ac<;>try exact Xp)|refine Z3 ?_|exact⟨⟩|(apply hκ.out;clear hκ κ))
  exact⟨_,rfl,⟨_,false,rfl,.inl ⟨rfl,hA.out⟩,_,_,_,_,_,_,rfl⟩,Xs⟩
structure RtL (N:List Tx)(ar:Tx->Nat)(l:List RItem):Prop where
 gl:GL N l
 b5:∀x∈l,x.body.length<=5
 ru:∀x∈l,x.out=false->RuI N ar x
 wi:∀x∈l,WI N x
 wit:∀x∈l,Bv x
theorem Ab1 {N:List Tx}{l:List RItem}{ar:Tx->Nat}(h5:∀y∈l,y.body.length<=5)(h:∀y∈l,y.out=false->RuI N ar y):BkI N l (arN N ar):=by
 refine⟨h5,fun y hy ho=>Acx (h y hy ho) (h5 y hy),fun y hy ho=>?_,fun y hy ho a ha=>?_⟩
 ·have hr:=h y hy ho;refine⟨sH hr.vt,fun k hk=>?_⟩;rw[F5]at hk;obtain⟨b,hb,rfl⟩:=Aey.1 hk;rw[Lq];exact sH (hr.vb b hb)
 ·have hr:=h y hy ho;unfold F2 at ha;rw[F5,Ad6]at ha;obtain⟨b,hb,rfl⟩:=Aey.1 ha;have e:=Zt (N:=N) (b:=b) fun t ht=>(hr.vb b hb t ht).1;have hg:=jH (hr.body b hb) (hr.vb b hb);unfold eA at e;simp only[Prod.mk.injEq]at e;have e1:(Fe (Fo (N.length:Int) (Eo N b)).a).p.toNat=Km N b:=by
   show (Fo (N.length:Int) (Eo N b)).a.p.toNat=_;rw[Ys,Afz]
  show Sh _ (Fe (Fo (N.length:Int) (Eo N b)).a).p.toNat (Cl (Fe (Fo (N.length:Int) (Eo N b)).a));rw[e1,<-e.2];refine⟨_,rfl,?_,fun z hz=>?_⟩
  ·rw[Afo,kE (hr.body b hb).mem];exact hg.len
  ·obtain⟨u,hu,rfl⟩:=Aey.1 hz;exact uT (hg.gt u hu)
theorem RtL.bki {N:List Tx}{ar:Tx->Nat}{l:List RItem}(h:RtL N ar l):BkI N l (arN N ar):=Ab1 h.b5 h.ru
theorem Acd {t:Tx}(h1:DT t)(h2:Is t)(h3:t.length<=1000)(h4:VT t):UT t:=by
 refine⟨h1,h2,h3,fun hv=>?_⟩;rcases h4 with⟨b,rfl,hb⟩|⟨h5,h6⟩
 ·simp only[A8,Adv,Agi]at hb;refine⟨b.toNat-65,Agm,?_⟩;have:=C6 (k:=((b.toNat-65:Nat):Int)) Agm Agm;have e:(Co ((b.toNat-65:Nat):Int)).toNat=b.toNat:=Agm;rw[UInt8.toNat_inj.1 e]
 ·cases t with
  |nil=>exact absurd rfl h5
  |cons b r=>
   have h7:=h6 b (by simp);have h8:A8 b.toNat=true:=hv;simp only[A8,Az,Adv,Agi]at h7 h8;omega
theorem Right.rt {t:Tx}{N:List Tx}{l:List RItem}{cs:List AV}(h:Right t N l cs){ar:Tx->Nat}(hA:Vf l ar):RtL N ar l:=by
 have hf:∀x∈l,Fine x:=fun x hx=>Tb h.ok x (by rw[h.items];exact hx);have h5:∀y∈l,y.body.length<=5:=fun y hy=>(h.wi y hy).body;refine⟨⟨h.bk.len,h.bk.nm,fun x hx=>?_,h.bk.fits,h.bk.pos,fun x hx=>(hf x hx).va,fun x hx a ha b hb=>W1 h.ok x (by rw[h.items];exact hx) a (Ak (.inr ha)) b (Ak (.inr hb))⟩,h5,fun x hx ho=>Acy h hA hx ho,h.wi,h.wit⟩;have hw:=h.wi x hx;have hs:=hw.short;refine⟨hw.out,by have:=hw.body;omega,hw.mem,hs.1.1,fun a ha=>?_⟩;have ad:=h.wit x hx;have ho:x.out=false:=by
  cases ho:x.out with
  |false=>rfl
  |true=>simp[Ae,ho,hw.out ho]at ha
 have aa:a=x.head\/a∈x.body:=by simpa[Ae,ho]using ha
 obtain⟨w1,w2,w3,w4⟩:=ad.2.2 ho;have ab:Da a:=by rcases aa with rfl|aa;exact w1;exact w4 a aa
 have ac:short a:=by rcases aa with rfl|aa;exact hs.1;exact hs.2 a aa
 exact⟨ab.2.2.1,ac.1,fun t ht=>Acd ((hf x hx).dt a ha t ht) (ab.2.2.2 t ht) (ac.2.2 t ht) ((hf x hx).va a ha t ht)⟩
theorem RtL.sub {N:List Tx}{ar:Tx->Nat}{l l':List RItem}(h:RtL N ar l)(hs:∀x∈l',x∈l)(hl:l'.length<=16):RtL N ar l':=
 ⟨⟨hl,h.gl.nm,fun x hx=>h.gl.msr x (hs x hx),fun x hx=>h.gl.fits x (hs x hx),fun x hx=>h.gl.pos x (hs x hx),fun x hx=>h.gl.va x (hs x hx),fun x hx=>h.gl.ar x (hs x hx)⟩,fun x hx=>h.b5 x (hs x hx),fun x hx=>h.ru x (hs x hx),fun x hx=>h.wi x (hs x hx),fun x hx=>h.wit x (hs x hx)⟩
theorem RtL.less {N:List Tx}{ar:Tx->Nat}{l:List RItem}(h:RtL N ar l)(i:Nat):RtL N ar (rpl i [] l):=
 h.sub (fun x hx=>by rcases Dm hx with h|h;exact h;cases h) (Ado (Oh l) h.gl.len)
theorem qU {x:RItem}{k:Nat}(h:Bv x)(ho:x.out=false):Bv (D9 x k):=by
 obtain⟨w1,w2,w3,w4⟩:=h.2.2 ho;exact⟨h.1,(fun e=>by cases e),fun _=>⟨w1,w2,Ado (Afm _ _) w3,fun a ha=>w4 a (Afj ha)⟩⟩
theorem Ab9 {N:List Tx}{x:RItem}{k:Nat}(h:WI N x)(hw:Bv x)(ho:x.out=false):WI N (D9 x k):=by
 have ac:=qU (k:=k) hw ho;have ab:∀a,a∈Ae (D9 x k)->WA N (Au x) a->WA N (Au (D9 x k)) a:=fun a ha hA=>⟨hA.1,hA.2.1,hA.2.2.1,hA.2.2.2.1,fun w hm=>⟨(hA.2.2.2.2 w hm).1,(hA.2.2.2.2 w hm).2.1,fun hv=>L1 ac ha hm hv⟩⟩;have aa:∀a∈(D9 x k).body,a∈x.body:=fun a ha=>Afj ha;exact⟨R4 h.fits,⟨h.short.1,fun a ha=>h.short.2 a (aa a ha)⟩,fun a ha=>h.va a (Ks ho ha),h.vh,fun a ha=>h.vb a (aa a ha),h.mem,Ado (Afm _ _) h.body,(fun e=>by cases e),fun _=>⟨(h.head ho).1,ab _ (Ak (.inl ⟨rfl,rfl⟩)) (h.head ho).2⟩,fun a ha=>ab a (Ak (.inr ha)) (h.wa a (aa a ha))⟩
theorem S9 {y:RItem}(hs:Dw y=true)(hu:∀a∈Ae y,∀t∈a.terms,UT t){a:RAtom}(ha:a∈Ae y){t:Tx}(ht:t∈a.terms)(hv:Ad t=true):∃b∈y.body,b.nt=false/\t∈b.terms:=by
 unfold Dw at hs;have:=Ae9.1 (by simpa using hs:(Ae y).any (fun a=>a.terms.any fun w=>(Am w).1&&!E8 y (Am w).2)=false) a ha;have:=Ae9.1 (by simpa using this:a.terms.any (fun w=>(Am w).1&&!E8 y (Am w).2)=false) t ht;rw[Bw,hv]at this;have hb:E8 y (Am t).2=true:=by simpa using this
 unfold E8 at hb;obtain⟨b,ac,hb⟩:=Aeo.1 hb;simp only[Adv,Af0,Aeo]at hb;obtain⟨hnt,u,ab,aa⟩:=hb;refine⟨b,ac,hnt,?_⟩;unfold Np at aa;simp only[Adv,Agj]at aa;have:t=u:=tellU.inj _ _ (hu a ha t ht) (hu b (Ak (.inr ac)) u ab) (Afi (by rw[Bw,hv,aa.1]) aa.2.symm);rw[this];exact ab
theorem RtL.wo {N:List Tx}{ar:Tx->Nat}{l:List RItem}(h:RtL N ar l){i k:Nat}{x:RItem}(hx:l[i]?=some x)(ho:x.out=false)(hs:Dw (D9 x k)=true):RtL N ar (rpl i [D9 x k] l):=by
 have aa:=Adt hx;have hm:∀y∈rpl i [D9 x k] l,y∈l\/y=D9 x k:=fun y hy=>by
  rcases Dm hy with h|h
  ·exact .inl h
  ·exact .inr (by simpa using h)
 have ab:∀a∈(D9 x k).body,a∈x.body:=fun a ha=>Afj ha;refine⟨h.gl.wo hx ho,fun y hy=>?_,fun y hy ac=>?_,fun y hy=>?_,fun y hy=>?_⟩
 ·rcases hm y hy with hy|rfl
  ·exact h.b5 y hy
  ·exact Ado (Afm _ _) (h.b5 x aa)
 ·rcases hm y hy with hy|rfl
  ·exact h.ru y hy ac
  ·have hr:=h.ru x aa ho;refine⟨hr.head,hr.hnt,fun b hb=>hr.body b (ab b hb),hr.vt,fun b hb=>hr.vb b (ab b hb),fun v hm hv=>?_⟩;obtain⟨b,hb,-,ad⟩:=S9 hs (fun a ha=>((h.gl.msr x aa).at_ a (Ks ho ha)).2.2) (a:=x.head) (Ak (.inl ⟨rfl,rfl⟩)) hm hv;exact⟨b,hb,ad⟩
 ·rcases hm y hy with hy|rfl
  ·exact h.wi y hy
  ·exact Ab9 (h.wi x aa) (h.wit x aa) ho
 ·rcases hm y hy with hy|rfl
  ·exact h.wit y hy
  ·exact qU (h.wit x aa) ho
end Go.Proofs.YtmoeoppbmhfbpabGreatDoorG
