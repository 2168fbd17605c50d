import Derived.Test.YtmoeoppbmhfbpabGreatDoorGAgrB
import Derived.Test.YtmoeoppbmhfbpabGreatDoorGSpaE
import Derived.Test.YtmoeoppbmhfbpabGreatDoorGOptH
import Derived.Test.YtmoeoppbmhfbpabGreatDoorGEngA
import Derived.Test.YtmoeoppbmhfbpabGreatDoorGEngQ
import Derived.Test.YtmoeoppbmhfbpabGreatDoorGFacts
set_option maxHeartbeats 16000000
set_option maxRecDepth 100000
set_option linter.all false
namespace Go.Proofs.YtmoeoppbmhfbpabGreatDoorG
open Go.Abs
def ClS (R:List RItem)(gv:List RAtom)(S:RAtom->Prop):Prop:=(∀a∈gv,S a)/\∀y∈R,∀μ,(∀b∈y.body,S (P9 μ b))->S (P9 μ y.head)
def LA (R:List RItem)(gv:List RAtom)(a:RAtom):Prop:=∀S,ClS R gv S->S a
theorem LA.cl (R:List RItem)(gv:List RAtom):ClS R gv (LA R gv):=⟨fun a ha S hS=>hS.1 a ha,fun y hy μ hb S hS=>hS.2 y hy μ fun b aa=>hb b aa S hS⟩
theorem xQ {R:List RItem}{gv:List RAtom}{S:RAtom->Prop}(h:Sat true R gv S):ClS R gv S:=
 ⟨h.1,fun y hy μ hb=>h.2 (gv++y.body.map (P9 μ)) (fun a ha=>by
  rcases Aew.1 ha with ha|ha
  ·exact h.1 a ha
  ·obtain⟨b,aa,rfl⟩:=Aey.1 ha
   exact hb b aa) (fun a ha=>Af5 _ ha) y hy _ ⟨μ,fun a ha _=>Af4 _ (Aey.2 ⟨a,ha,rfl⟩),fun a ha hp=>(by cases hp),rfl⟩⟩
section
variable {N:List Tx} {ar:Tx->Nat} {Rd:List RItem} {x:RItem}
theorem X6 (h:Nw N ar Rd x){a:RAtom}(ha:LA Rd (x.body.map Dq) a):GA N ar a/\LstF (Rd.map (D1 N)) (F2 N x) (eA N a).1 (eA N a).2:=ha _ (xQ (Aa9 h))
theorem Ac8 (h:Nw N ar Rd x){A:RAtom->Prop}(hA:∀a,A a->GA N ar a)(hc:∀y∈Rd,∀μ,(∀b∈y.body,A (P9 μ b))->A (P9 μ y.head)):ClD (Rd.map (D1 N)) (fun k t=>∃a,A a/\eA N a=(k,t)):=by
 intro r hr ν hb;obtain⟨y,hy,rfl⟩:=Aey.1 hr;have ab:=h.ru y hy;have ah:∀b∈y.body,∃a,A a/\a.nt=b.nt/\a.pred=b.pred/\a.terms.map G1=b.terms.map fun t=>Et ν (Am t):=fun b aa=>by
  obtain⟨a,ha,e⟩:=hb (Fo N.length (Eo N b)) (by rw[F5];exact Aey.2 ⟨b,aa,rfl⟩);rw[Ys,Afz,Zn,Lq]at e;unfold eA at e;simp only[Prod.mk.injEq]at e;obtain⟨e1,e2⟩:=e;obtain⟨g1,g2⟩:=dC (hA a ha).mem (ab.body b aa).mem e1;refine⟨a,ha,g1,g2,?_⟩;unfold Bo at e2;simp only[Ad6]at e2;exact Wj (by simp only[Afo];rw[(hA a ha).len,(ab.body b aa).len,g2]) (by rw[Afo];exact (hA a ha).le3) e2
 let μ:Tx->Tx:=fun v=>Classical.epsilon fun u=>GT u/\G1 u=ν (Am v).2;have hμ:∀v,(∃u,GT u/\G1 u=ν (Am v).2)->GT (μ v)/\G1 (μ v)=ν (Am v).2:=fun v hv=>Classical.epsilon_spec hv;have ac:∀b∈y.body,∀v∈b.terms,Ad v=true->GT (μ v)/\G1 (μ v)=ν (Am v).2:=fun b aa v hv ai=>by
  obtain⟨a,ha,-,-,e⟩:=ah b aa;obtain⟨i,hi⟩:=List.getElem?_of_mem hv;have h1:(b.terms.map fun t=>Et ν (Am t))[i]?=some (Et ν (Am v)):=by rw[List.getElem?_map,hi];rfl
  rw[<-e,List.getElem?_map]at h1;cases af:a.terms[i]? with
  |none=>rw[af]at h1;cases h1
  |some u=>
   rw[af]at h1;have h2:G1 u=Et ν (Am v):=Afh h1;refine hμ v ⟨u,(hA a ha).gt u (Adt af),?_⟩;rw[h2];unfold Et;rw[Bw,ai,if_pos rfl]
 have ad:∀t,VT t->DT t->(Ad t=true->GT (μ t)/\G1 (μ t)=ν (Am t).2)->GT (Rc μ t)/\G1 (Rc μ t)=Et ν (Am t):=fun t h1 h2 h3=>by
  unfold Et;rw[Bw];cases hv:Ad t with
  |true=>rw[if_pos rfl,Im hv];exact h3 hv
  |false=>rw[if_neg (by simp),Gs hv];exact⟨.inl ⟨hv,h1,h2⟩,Gz h1 hv⟩
 have ae:∀b∈y.body,A (P9 μ b):=fun b aa=>by
  obtain⟨a,ha,e1,e2,e3⟩:=ah b aa;have:P9 μ b=a:=by
   refine RAtom.ext' e1.symm e2.symm ?_;have hg:∀t∈b.terms,GT (Rc μ t)/\G1 (Rc μ t)=Et ν (Am t):=fun t ht=>ad t (ab.vb b aa t ht).1 (ab.vb b aa t ht).2 (ac b aa t ht);refine Nj (f:=G1) (fun u hu w hw e=>?_) ?_
   ·obtain⟨t,ht,rfl⟩:=Aey.1 hu;exact eX (hg t ht).1 ((hA a ha).gt w hw) e
   ·show (b.terms.map (Rc μ)).map G1=a.terms.map G1;rw[e3,Ad6];exact Ae0 fun t ht=>(hg t ht).2
  rw[this];exact ha
 refine⟨P9 μ y.head,hc y hy μ ae,?_⟩;unfold eA;refine Afi ?_ ?_
 ·show Km N (P9 μ y.head)=(((N.idxOf y.head.pred:Nat):Int)).toNat;unfold Km;have:(P9 μ y.head).nt=false:=ab.hnt;rw[this,Afz];rfl
 ·show Df ((y.head.terms.map (Rc μ)).map G1)=Df ((y.head.terms.map Am).map (Et ν));rw[Ad6,Ad6];congr 1;refine Ae0 fun t ht=>?_
  exact (ad t (ab.vt t ht).1 (ab.vt t ht).2 (fun hv=>by
   obtain⟨b,aa,aj⟩:=ab.safe t ht hv
   exact ac b aa t aj hv)).2
theorem Aaq (h:Nw N ar Rd x){k:Nat}{t:Ca}(hl:LstF (Rd.map (D1 N)) (F2 N x) k t):∃a,LA Rd (x.body.map Dq) a/\eA N a=(k,t):=
 hl _ (Ac8 h (fun a ha=>(X6 h ha).1) (LA.cl Rd _).2) fun a ha=>by
  unfold F2 at ha;rw[F5,Ad6]at ha;obtain⟨b,hb,rfl⟩:=Aey.1 ha;exact⟨Dq b,(LA.cl Rd _).1 _ (Aey.2 ⟨b,hb,rfl⟩),Zt fun t ht=>(h.x.vb b hb t ht).1⟩
theorem zE (h:Nw N ar Rd x):eA N (Dq x.head)=((D1 N x).head.p.toNat,Cl (Fe (D1 N x).head)):=by
 rw[Zt (N:=N) (b:=x.head) fun t ht=>(h.x.vt t ht).1];have e:(Fo (N.length:Int) (Eo N x.head)).a=Dr N x.head:=by
  unfold Fo;rw[if_neg (by show¬x.head.nt=true;rw[h.x.hnt];simp)];rfl
 rw[e];rfl
theorem mQ (h:Nw N ar Rd x):LstF (Rd.map (D1 N)) (F2 N x) (D1 N x).head.p.toNat (Cl (Fe (D1 N x).head))↔LA Rd (x.body.map Dq) (Dq x.head):=by
 have he:=zE h;constructor
 ·intro hl;obtain⟨a,ha,e⟩:=Aaq h hl;rw[<-he]at e;rw[<-uX (X6 h ha).1 (jH h.x.head h.x.vt) e];exact ha
 ·intro ha;have:=(X6 h ha).2;rw[he]at this;exact this
end
theorem yX {N N2:List Tx}{ar ar2:Tx->Nat}{R R2:List RItem}{x x2:RItem}(h:Nw N ar R x)(h2:Nw N2 ar2 R2 x2){f g:RAtom->RAtom}
  (hf:∀a,LA R (x.body.map Dq) a->LA R2 (x2.body.map Dq) (f a)/\g (f a)=a) (hg:∀a,LA R2 (x2.body.map Dq) a->LA R (x.body.map Dq) (g a)/\f (g a)=a)
  (hh:f (Dq x.head)=Dq x2.head) (ah:g (Dq x2.head)=Dq x.head) {b b2:Bool}
  (hp:Vt (R.map (D1 N)) (F2 N x) (D1 N x).head.p.toNat (Cl (Fe (D1 N x).head)) b) (af:Vt (R2.map (D1 N2)) (F2 N2 x2) (D1 N2 x2).head.p.toNat (Cl (Fe (D1 N2 x2).head)) b2):b=b2:=by
 obtain⟨M,hn,hs,hi⟩:=hp;obtain⟨M2,ad,ab,aa⟩:=af;have key:∀{N N2:List Tx} {ar ar2:Tx->Nat} {R R2:List RItem} {x x2:RItem} (h:Nw N ar R x) (h2:Nw N2 ar2 R2 x2) {f g:RAtom->RAtom} (hg:∀a,LA R2 (x2.body.map Dq) a->LA R (x.body.map Dq) (g a)/\f (g a)=a) {M M2:MM} (ad:∀y∈M2,y.2.Nodup) (ab:∀j t,MD M2 j t->LstF (R2.map (D1 N2)) (F2 N2 x2) j t) (ha:∀j t,LstF (R.map (D1 N)) (F2 N x) j t->MD M j t),tot M2<=tot M:=by
  intro N N2 ar ar2 R R2 x x2 h h2 f g hg M M2 ad ab ha
  haveI:Nonempty RAtom:=⟨x.head⟩
  let dec:Nat×Ca->RAtom:=fun p=>Classical.epsilon fun a=>LA R (x.body.map Dq) a/\eA N a=p;have:=rU (M:=M2) (A:=Kj 0 M) (e:=fun p=>eA N2 (f (dec p))) ad fun k t hm=>by
   obtain⟨a2,ai,e2⟩:=Aaq h2 (ab k t hm);obtain⟨h3,h4⟩:=hg a2 ai;have hd:LA R (x.body.map Dq) (dec (eA N (g a2)))/\eA N (dec (eA N (g a2)))=eA N (g a2):=Classical.epsilon_spec (p:=fun a=>LA R (x.body.map Dq) a/\eA N a=eA N (g a2)) ⟨g a2,h3,rfl⟩;have he:dec (eA N (g a2))=g a2:=uX (X6 h hd.1).1 (X6 h h3).1 hd.2
   refine⟨eA N (g a2),?_,by
    show eA N2 (f (dec (eA N (g a2))))=(k,t)
    rw[he,h4,e2]⟩
   have:=ha _ _ (X6 h h3).2;exact (Ma M 0 _ _).2 ⟨Agm,this⟩
  rw[<-P6 M 0];exact this
 have ac:LstF (R.map (D1 N)) (F2 N x) (D1 N x).head.p.toNat (Cl (Fe (D1 N x).head))↔LstF (R2.map (D1 N2)) (F2 N2 x2) (D1 N2 x2).head.p.toNat (Cl (Fe (D1 N2 x2).head)):=by
  rw[mQ h,mQ h2];constructor
  ·intro ha;rw[<-hh];exact (hf _ ha).1
  ·intro ha;rw[<-ah];exact (hg _ ha).1
 by_cases ht:tot M<=200
 ·rw[if_pos ht]at hi;have h3:tot M2<=tot M:=key h h2 hg ad ab hi.1;rw[if_pos Agm]at aa;have:b=true↔b2=true:=by
   rw[hi.2,aa.2];exact⟨fun hm=>aa.1 _ _ (ac.1 (hs _ _ hm)),fun hm=>hi.1 _ _ (ac.2 (ab _ _ hm))⟩
  cases b<;>cases b2<;>simp_all
 ·rw[if_neg ht]at hi;by_cases ae:tot M2<=200
  ·rw[if_pos ae]at aa;have h3:tot M<=tot M2:=key h2 h hf hn hs aa.1;omega
  ·rw[if_neg ae]at aa;rw[hi,aa]
def rA (f:Tx->Tx)(a:RAtom):RAtom:=⟨a.nt,a.pred,a.terms.map f⟩
def Hf (m:Tx->Tx):Tx->Tx
 |[]=>[]
 |b::r=>if b=35 then 35::m r else b::r
theorem X9 (m:Tx->Tx)(v:Tx):Hf m (35::v)=35::m v:=by unfold Hf;dsimp only;rw[if_pos rfl]
theorem Oz {m:Tx->Tx}{u:Tx}(h:VT u)(hv:Ad u=false):Hf m u=u:=by
 obtain⟨h1,h2⟩:=qY h hv;cases u with
 |nil=>rfl
 |cons b r=>
  unfold Hf;dsimp only;rw[if_neg];rintro rfl;have:=h2 35 (by simp);revert this;decide
theorem sR {m:Tx->Tx}{μ:Tx->Tx}{b:RAtom}(h:∀t∈b.terms,VT t):rA (Hf m) (P9 μ b)=P9 (fun v=>Hf m (μ v)) b:=by
 refine RAtom.ext' rfl rfl ?_;show (b.terms.map (Rc μ)).map (Hf m)=b.terms.map (Rc fun v=>Hf m (μ v));rw[Ad6];refine Ae0 fun t ht=>?_;show Hf m (Rc μ t)=_;cases hv:Ad t with
 |true=>rw[Im hv,Im hv]
 |false=>rw[Gs hv,Gs hv,Oz (h t ht) hv]
def G4 (L:List Tx)(w:Tx):Tx:=(L.find? fun v=>Cx L v==w).getD w
section
variable {x:RItem} (hx:XR x)
include hx
theorem XR.back {a:RAtom}(ha:a∈Ae x){t:Tx}(ht:t∈a.terms)(hv:Ad t=true):G4 (Au x) (Cx (Au x) t)=t:=by
 have hm:=hx.mem ha ht hv;have aa:∀u∈Au x,Ad u=true:=fun u hu=>by
  have:=Jh ((Ae x).flatMap (·.terms)) [] (by simp) Afr;exact (this.1 u hu).1
 unfold G4;cases hf:(Au x).find? fun v=>Cx (Au x) v==Cx (Au x) t with
 |none=>
  have:=List.find?_eq_none.1 hf t hm;simp at this
 |some u=>
  have h1:=List.mem_of_find?_eq_some hf;have h2:=List.find?_some hf;simp only[Agj]at h2;show u=t;unfold Cx at h2;rw[if_pos (aa u h1),if_pos hv]at h2;have w1:=hx.which h1;have w2:=hx.which hm;have ab:=hx.few;rw[w1.1,w2.1]at h2;have h3:=List.cons.inj h2;have e1:=C6 (k:=((Au x).idxOf u:Nat)) Agm Agm;have e2:=C6 (k:=((Au x).idxOf t:Nat)) Agm Agm;rw[h3.1]at e1;exact Ef h1 hm Agm
theorem XR.wvar {a:RAtom}(ha:a∈Ae x){t:Tx}(ht:t∈a.terms):Ad (Cx (Au x) t)=Ad t:=Gd fun hv=>hx.rng ha ht hv
theorem XR.atM_ren {a:RAtom}(ha:a∈Ae x)(μ:Tx->Tx):P9 μ (Bg (Au x) a)=P9 (fun v=>μ (Cx (Au x) v)) a:=by
 refine RAtom.ext' rfl rfl ?_;show (a.terms.map (Cx (Au x))).map (Rc μ)=_;rw[Ad6];refine Ae0 fun t ht=>?_;show Rc μ (Cx (Au x) t)=_;have hw:=hx.wvar ha ht;cases hv:Ad t with
 |true=>rw[hv]at hw;rw[Im hw,Im hv]
 |false=>
  rw[hv]at hw;rw[Gs hw,Gs hv];unfold Cx;rw[if_neg (by simp[hv])]
theorem XR.atM_back {a:RAtom}(ha:a∈Ae x)(μ:Tx->Tx):P9 (fun v=>μ (G4 (Au x) v)) (Bg (Au x) a)=P9 μ a:=by
 rw[hx.atM_ren ha];refine RAtom.ext' rfl rfl (Ae0 fun t ht=>?_);cases hv:Ad t with
 |true=>rw[Im hv,Im hv,hx.back ha ht hv]
 |false=>rw[Gs hv,Gs hv]
theorem XR.frz {a:RAtom}(ha:a∈Ae x)(aa:∀t∈a.terms,VT t):rA (Hf (Cx (Au x))) (Dq a)=Dq (Bg (Au x) a):=by
 refine RAtom.ext' rfl rfl ?_;show (a.terms.map Ko).map (Hf (Cx (Au x)))=(a.terms.map (Cx (Au x))).map Ko;rw[Ad6,Ad6];refine Ae0 fun t ht=>?_;show Hf (Cx (Au x)) (Ko t)=Ko (Cx (Au x) t);have hw:=hx.wvar ha ht;unfold Ko;rw[hw];cases hv:Ad t with
 |true=>rw[if_pos rfl,if_pos rfl,X9]
 |false=>
  rw[if_neg (by simp),if_neg (by simp),Oz (aa t ht) hv];unfold Cx;rw[if_neg (by simp[hv])]
theorem XR.frz_back {a:RAtom}(ha:a∈Ae x)(aa:∀t∈a.terms,VT t):rA (Hf (G4 (Au x))) (Dq (Bg (Au x) a))=Dq a:=by
 refine RAtom.ext' rfl rfl ?_;show ((a.terms.map (Cx (Au x))).map Ko).map (Hf (G4 (Au x)))=a.terms.map Ko;rw[Ad6,Ad6];refine Ae0 fun t ht=>?_;show Hf (G4 (Au x)) (Ko (Cx (Au x) t))=Ko t;have hw:=hx.wvar ha ht;unfold Ko;rw[hw];cases hv:Ad t with
 |true=>rw[if_pos rfl,if_pos rfl,X9,hx.back ha ht hv]
 |false=>
  rw[if_neg (by simp),if_neg (by simp)];have e:Cx (Au x) t=t:=by unfold Cx;rw[if_neg (by simp[hv])]
  rw[e,Oz (aa t ht) hv]
end
theorem Zw {R:List RItem}{gv:List RAtom}{S:RAtom->Prop}(hX:∀y∈R,XR y):ClS R gv S↔ClS (R.map ren) gv S:=by
 constructor
 ·rintro⟨h1,h2⟩;refine⟨h1,fun z hz μ hb=>?_⟩;obtain⟨y,hy,rfl⟩:=Aey.1 hz;have hx:=hX y hy;have e:=hx.atM_ren (Ak (.inl ⟨hx.out,rfl⟩)) μ;show S (P9 μ (Bg (Au y) y.head));rw[e];refine h2 y hy _ fun b aa=>?_;rw[<-hx.atM_ren (Ak (.inr aa)) μ];exact hb _ (Aey.2 ⟨b,aa,rfl⟩)
 ·rintro⟨h1,h2⟩;refine⟨h1,fun y hy μ hb=>?_⟩;have hx:=hX y hy;rw[<-hx.atM_back (Ak (.inl ⟨hx.out,rfl⟩)) μ];refine h2 (ren y) (Aey.2 ⟨y,hy,rfl⟩) _ fun z hz=>?_;obtain⟨b,aa,rfl⟩:=Aey.1 hz;rw[hx.atM_back (Ak (.inr aa)) μ];exact hb b aa
theorem mX {R:List RItem}{gv gv2:List RAtom}{S:RAtom->Prop}{m:Tx->Tx}(hv:∀y∈R,∀a,a=y.head\/a∈y.body->∀t∈a.terms,VT t)(hg:∀a∈gv,rA (Hf m) a∈gv2)(h:ClS R gv2 S):ClS R gv fun a=>S (rA (Hf m) a):=
 ⟨fun a ha=>h.1 _ (hg a ha),fun y hy μ hb=>by
  show S (rA (Hf m) (P9 μ y.head));rw[sR (hv y hy _ (.inl rfl))];refine h.2 y hy _ fun b aa=>?_;rw[<-sR (hv y hy b (.inr aa))]
  exact hb b aa⟩
theorem mY {R:List RItem}{gv:List RAtom}{m n:Tx->Tx}(hv:∀y∈R,∀t∈y.head.terms,VT t)(hs:∀y∈R,∀v∈y.head.terms,Ad v=true->∃b∈y.body,v∈b.terms)(hg:∀a∈gv,rA (Hf m) (rA (Hf n) a)=a):ClS R gv fun a=>rA (Hf m) (rA (Hf n) a)=a:=by
 refine⟨hg,fun y hy μ hb=>?_⟩;refine RAtom.ext' rfl rfl ?_;show ((((y.head.terms.map (Rc μ)).map (Hf n)).map (Hf m)))=y.head.terms.map (Rc μ);rw[Ad6,Ad6];refine Ae0 fun t ht=>?_;show Hf m (Hf n (Rc μ t))=Rc μ t;cases aa:Ad t with
 |false=>rw[Gs aa,Oz (hv y hy t ht) aa,Oz (hv y hy t ht) aa]
 |true=>
  obtain⟨b,ac,ab⟩:=hs y hy t ht aa;have h1:(((b.terms.map (Rc μ)).map (Hf n)).map (Hf m))=b.terms.map (Rc μ):=congrArg RAtom.terms (hb b ac);rw[Ad6,Ad6]at h1;exact List.map_inj_left.1 h1 t ab
def wT (c n:Int):Int:=(if c<0 then -(c+1)else c) % n
theorem On (c:Int){n:Int}(hn:0<n):0<=wT c n/\wT c n<n:=⟨Int.emod_nonneg _ Agm,Int.emod_lt_of_pos _ hn⟩
theorem Le (c n:Int)(h0: -9223372036854775808<=c)(h1:c<=9223372036854775807)(hn:0<n)(af:n<=1099511627776)(d:St):ACalls Tryz.prog 14 [ic c,ic n] d fun r d'=>r=ic (wT c n)/\d'=d:=by
 have ae:¬n=0:=Agm;by_cases hc:c<0
 ·have ad:decide (c<0)=true:=by simpa using hc
  have hw:IntKind.i64.wrap (0-(c+1))= -(c+1):=by rw[i64w Agm Agm];omega
  have ac:(-(c+1)).tmod n=wT c n:=by rw[wT,if_pos hc,Int.tmod_eq_emod_of_nonneg Agm]
  have ab:=On c hn;refine Z9 13 [.tmp 4] Tryz.func14 ?_
  repeat' (first|refine Z1 ?_|(refine Z8 ?_;intro κ hκ)|(refine Z4 ?_;clear hκ κ)|(refine Z2 ?_ ?_<;>intro h aa<;>try exact Xp)|refine Z3 ?_|exact⟨⟩|(apply hκ.out;clear hκ κ))
  exact⟨_,rfl,rfl⟩
 ·have ad:decide (c<0)=false:=by simpa using hc
  have ac:c.tmod n=wT c n:=by rw[wT,if_neg hc,Int.tmod_eq_emod_of_nonneg Agm]
  have ab:=On c hn;refine Z9 13 [.tmp 4] Tryz.func14 ?_
  repeat' (first|refine Z1 ?_|(refine Z8 ?_;intro κ hκ)|(refine Z4 ?_;clear hκ κ)|(refine Z2 ?_ ?_<;>intro h aa<;>try exact Xp)|refine Z3 ?_|exact⟨⟩|(apply hκ.out;clear hκ κ))
  exact⟨_,rfl,rfl⟩
theorem jR {l:List Tm}{i:Nat}(hi:i<l.length)(b:Bool)(v:Int):lsp (Ac l) (i*2) [sc (.bool b),ic v]=Ac (l.set i (b,v)):=by
 have hl:=Ch l;rw[Gg _ _ _ (by rw[hl];simp;omega)];have e:l=l.take i++l[i]::l.drop (i+1):=by rw[<-Aep hi,Afn]
 have e2:l.set i (b,v)=l.take i++(b,v)::l.drop (i+1):=by
  rw[List.set_eq_take_append_cons_drop,if_pos hi]
 have aa:(Ac (l.take i)).length=i*2:=by
  rw[Ch,Aef,Aej (Nat.le_of_lt hi)]
 have e3:Ac l=Ac (l.take i)++(H8 l[i]++Ac (l.drop (i+1))):=by
  unfold Ac
  conv=>lhs;rw[e]
  rw[List.flatMap_append,Ae5]
 have e4:Ac (l.set i (b,v))=Ac (l.take i)++(H8 (b,v)++Ac (l.drop (i+1))):=by
  rw[e2];simp[Ac]
 rw[e4,e3,<-aa,List.take_left,Aeg];congr 1;congr 1;rw[show (Ac (l.take i)).length+[sc (.bool b),ic v].length=(Ac (l.take i)).length+(H8 l[i]).length by rfl,List.drop_length_add_append,List.drop_left]
theorem Lj {l:List Tm}{i:Nat}(hi:i<l.length)(b:Bool)(v:Int):((Ac l).set (i*2) (sc (.bool b))).set (i*2+1) (ic v)=Ac (l.set i (b,v)):=jR hi b v
theorem Fs (l:List Tm):(Ac l).all flat=true:=by
 rw[Ads];intro x hx;obtain⟨t,-,ht⟩:=Aev.1 hx;simp[H8]at ht;rcases ht with rfl|rfl<;>rfl
def pt0:List Tm:=List.replicate 52 (false,0)
theorem Ly:ptZ.map cst1=Ac pt0:=rfl
theorem Fz {P:List Tm}(h:P.length=52):(Ac P).length=104:=by rw[Ch,h]
theorem Gt {P:List Tm}(h:P.length=52):List.take 104 (Ac P)=Ac P:=Aex (by rw[Fz h];exact Adn _)
theorem yK {l xs:List AV}(h:xs.length=l.length):lsp l 0 xs=xs:=by
 rw[Gg _ _ _ Agm,Aed,h,List.drop_length];simp
theorem Na {P Q:List Tm}(hP:P.length=52)(hQ:Q.length=52):lsp (Ac P) 0 (Ac Q)=Ac Q:=yK (by rw[Fz hP,Fz hQ])
theorem Rn:(Ac pt0).length=104:=Fz (by simp[pt0])
def F9 (P:List Tm)(t:Tm):Tm:=if t.1=true then (P[t.2.toNat]?).getD t else t
def Rk (P:List Tm)(v t:Tm):List Tm:=P.map fun x=>if x=v then t else x
theorem gT {α:Type}{A P:List α}{k:Nat}{x:α}(hP:k<P.length)(hx:A[k]?=some x):(A.take k++P.drop k).set k x=A.take (k+1)++P.drop (k+1):=by
 have hk:=(List.getElem?_eq_some_iff.1 hx).1;rw[List.set_append,if_neg (by rw[Aef];omega),Aef,Aej Agm,Ae2,Aep hP,List.set_cons_zero,Ad3,hx];simp
def qP (t:Tm):Prop:=t.1=true->∃k:Nat,k<52/\t.2=(k:Int)
theorem Tj (P:List Tm)(hP:P.length=52)(t:Tm)(ht:qP t)(d:St):ACalls Tryz.prog 245 [ag (Ac P),ag [sc (.bool t.1),ic t.2]] d fun r d'=>r=ag [sc (.bool (F9 P t).1),ic (F9 P t).2]/\Keep d d':=by
 have hl:=Fz hP;have ac:=Fs P;obtain⟨b,v⟩:=t;cases b with
 |true=>
  obtain⟨k,hk,e⟩:=ht rfl;dsimp only at e;subst e;have aa:=List.getElem?_eq_getElem (show k<P.length by omega);obtain⟨r,hd⟩:=Cm aa;have HP:Agt (F9 P (true,(k:Int))=P[k]):=by
   rw[Agt,F9,if_pos rfl];simp only[Afz];rw[aa];rfl
  generalize P[k]=w at hd HP;clear aa;refine Z9 12 [.cell 4 151] Tryz.func245 ?_
  repeat' (first|refine Z1 ?_|(refine Z8 ?_;intro κ hκ)|(refine Z4 ?_;clear hκ κ)|(refine Z2 ?_ ?_<;>intro h ab<;>try exact Xp)|refine Z3 ?_|exact⟨⟩|(apply hκ.out;clear hκ κ))
  exact⟨_,rfl,by rw[HP.out],Xs⟩
 |false=>
  refine Z9 12 [.cell 4 151] Tryz.func245 ?_
  repeat' (first|refine Z1 ?_|(refine Z8 ?_;intro κ hκ)|(refine Z4 ?_;clear hκ κ)|(refine Z2 ?_ ?_<;>intro h ab<;>try exact Xp)|refine Z3 ?_|exact⟨⟩|(apply hκ.out;clear hκ κ))
  exact⟨_,rfl,rfl,Xs⟩
theorem cZ (P:List Tm)(hP:P.length=52)(v t:Tm)(d:St):ACalls Tryz.prog 246 [ag (Ac P),ag [sc (.bool v.1),ic v.2],ag [sc (.bool t.1),ic t.2]] d fun r d'=>r=ag (Ac (Rk P v t))/\Keep d d':=by
 have ay:=Rn;have az:=Fs;have hz:=Ly;obtain⟨v1,v2⟩:=v;obtain⟨t1,t2⟩:=t;refine Z9 21 [.cell 6 260] Tryz.func246 ?_
 repeat' (first|refine Z1 ?_|(refine Z8 ?_;intro κ hκ)|(refine Z4 ?_;clear hκ κ)|(refine Z2 ?_ ?_<;>intro h aa<;>try exact Xp)|refine Z3 ?_|exact⟨⟩|(apply hκ.out;clear hκ κ))
 refine Ag (fun m s d'=>∃(k:Nat) (Q:List Tm),m=52-k/\k<=52/\s 3=ptr d.nobj 0/\s 4=ptr (d.nobj+1) 0/\s 5=ptr (d.nobj+2) 0/\s 6=ptr (d.nobj+3) 0/\s 8=ic k/\Keep d d'/\d.nobj+3<d'.nobj/\d'.obj d.nobj=Ac Q/\d'.obj (d.nobj+1)=[sc (.bool v1),ic v2]/\d'.obj (d.nobj+2)=[sc (.bool t1),ic t2]/\d'.obj (d.nobj+3)=Ac pt0/\Q.length=52/\Agt (Q=(Rk P (v1,v2) (t1,t2)).take k++P.drop k)) 52
  ⟨0,P,Agm,Agm,Ago,Ago,Ago,Ago,Ago,Xs,Agq,?_,?_,?_,?_,hP,by simp[Agt]⟩ ?_
 ·rw[Af Agq,Af Agq,Af Agq,Ap]
 ·rw[Af Agq,Af Agq,Bs Agq Agq]
 ·rw[Af Agq,Bs Agq Agq]
 ·rw[Bs Agq Agq]
 rintro m s d' ⟨k,Q,rfl,hk,h3,h4,h5,h6,h8,hK,hno,an,am,ak,aj,hQ,hA⟩;have ao:=hK.nobj;have ax:=Fz hQ;have ap:=Gt hQ;have av:=Na (P:=pt0) (by simp[pt0]) hQ;by_cases aw:k<52
 ·have af:k<P.length:=Agm;have ab:P[k]?=some P[k]:=List.getElem?_eq_getElem af;have hpl:(Rk P (v1,v2) (t1,t2)).length=52:=by simp[Rk,hP]
  have ad:Q[k]?=some P[k]:=by
   rw[hA.out,List.getElem?_append_right (by rw[Aef];omega),Aef,Aej Agm,Ae2,List.getElem?_drop,Adu,ab]
  have ac:Agt (Q.set k (if P[k]=(v1,v2)then (t1,t2)else P[k])=(Rk P (v1,v2) (t1,t2)).take (k+1)++P.drop (k+1)):=by
   have e1:(Rk P (v1,v2) (t1,t2))[k]?=some (if P[k]=(v1,v2)then (t1,t2)else P[k]):=by rw[Rk,List.getElem?_map,ab];rfl
   rw[Agt,hA.out,gT af e1]
  obtain⟨r,hd⟩:=Cm ad;have au:=fun b v=>Lj (l:=Q) (i:=k) Agm b v;have ae:Agt (Q.set k P[k]=Q):=by
   have:=(List.getElem?_eq_some_iff.1 ad).2;rw[Agt,<-this,List.set_getElem_self]
  generalize P[k]=w at hd ac ae;obtain⟨w1,w2⟩:=w;have ah:∀x,(Q.set k x).length=52:=fun x=>by rw[Af6,hQ]
  clear ab ad hA
  repeat' (first|refine Z1 ?_|(refine Z8 ?_;intro κ hκ)|(refine Z4 ?_;clear hκ κ)|(refine Z2 ?_ ?_<;>intro h aa<;>try exact Xp)|refine Z3 ?_|exact⟨⟩|(apply hκ.out;clear hκ κ))
  refine B6 (Q:=fun e s' d''=>e= .normal/\s' 15=sc (.bool (w1==v1&&w2==v2))/\s' 3=ptr d.nobj 0/\s' 4=ptr (d.nobj+1) 0/\s' 5=ptr (d.nobj+2) 0/\s' 6=ptr (d.nobj+3) 0/\s' 7=ic k/\s' 8=ic k/\d''=d') ?_ ?_
  ·refine Bh Al (fun _=>True) [] [0,1,2,3,4] 0 #[true,true,true,true,true] Agp (fun _ _ _ h=>by cases h.1) ?_;intro κ hκ;refine Z3 ?_;refine hκ.out _ ?_;clear hκ κ;exact A6 Agp ⟨rfl,Agn,Agn,Agn,Agn,Agn,Agn,Agn,rfl⟩
  clear h3 h4 h5 h6 h8;rintro e s' d'' ⟨rfl,g15,g3,g4,g5,g6,g7,g8,rfl⟩;by_cases hw:(w1,w2)=(v1,v2)
  ·rw[if_pos hw]at ac;have hc:(w1==v1&&w2==v2)=true:=by simp at hw;simp[hw]
   rw[hc]at g15;clear hw;refine Gn g15 ?_
   repeat' (first|refine Z1 ?_|(refine Z8 ?_;intro κ hκ)|(refine Z4 ?_;clear hκ κ)|(refine Z2 ?_ ?_<;>intro h aa<;>try exact Xp)|refine Z3 ?_|exact⟨⟩|(apply hκ.out;clear hκ κ))
   refine⟨52-(k+1),Agm,k+1,Q.set k (t1,t2),?_⟩
   ((repeat' with_reducible refine And.intro ?_ ?_)<;>first|exact Xq|exact (ac)|exact (ah _)|exact Xs)
  ·rw[if_neg hw,ae.out]at ac;have hc:(w1==v1&&w2==v2)=false:=by
    cases h:(w1==v1&&w2==v2)with
    |false=>rfl
    |true=>simp at h;exact absurd (by rw[h.1,h.2]) hw
   rw[hc]at g15;clear hw;refine Gp g15 ?_
   repeat' (first|refine Z1 ?_|(refine Z8 ?_;intro κ hκ)|(refine Z4 ?_;clear hκ κ)|(refine Z2 ?_ ?_<;>intro h aa<;>try exact Xp)|refine Z3 ?_|exact⟨⟩|(apply hκ.out;clear hκ κ))
   refine⟨52-(k+1),Agm,k+1,Q,?_⟩
   ((repeat' with_reducible refine And.intro ?_ ?_)<;>first|exact Xq|exact (ac)|exact Xs)
 ·have ai:k=52:=Agm;subst ai;have HQ:Agt (Rk P (v1,v2) (t1,t2)=Q):=by
   rw[Agt,hA.out,Aex (by simp[Rk,hP]),Adw Agm,Ad7]
  clear hA
  repeat' (first|refine Z1 ?_|(refine Z8 ?_;intro κ hκ)|(refine Z4 ?_;clear hκ κ)|(refine Z2 ?_ ?_<;>intro h aa<;>try exact Xp)|refine Z3 ?_|exact⟨⟩|(apply hκ.out;clear hκ κ))
  exact⟨_,rfl,by rw[HQ.out],Xs⟩
def Nc (P:List Tm)(a:C4):C4:=⟨a.p,a.ts.map (F9 P)⟩
theorem W6 (P:List Tm)(hP:P.length=52)(a:C4)(ids:Nat)(ha:∀t∈a.ts,qP t)(hn:a.ts.length<=1000)(d:St):ACalls Tryz.prog 247 [ag (Ac P),ag [ic a.p,sl ids a.ts.length (Ac a.ts)]] d fun r d'=>(∃id,r=ag [ic a.p,sl id a.ts.length (Ac (a.ts.map (F9 P)))])/\Keep d d':=by
 have hl:=Fz hP;have bb:=Gt hP;have bd:=Fs P;have ba:=Ch a.ts;refine Z9 28 [.cell 4 122] Tryz.func247 ?_
 repeat' (first|refine Z1 ?_|(refine Z8 ?_;intro κ hκ)|(refine Z4 ?_;clear hκ κ)|(refine Z2 ?_ ?_<;>intro h ai<;>try exact Xp)|(refine Z6 ?_;intro idn dn ak am ad ab ac aa)|refine Z3 ?_|exact⟨⟩|(apply hκ.out;clear hκ κ))
 refine Ag (fun m s d'=>∃(k i3:Nat) (xs:List AV),m=a.ts.length-k/\k<=a.ts.length/\s 2=ptr d.nobj 0/\s 4=ptr (d.nobj+2) 0/\s 5=ptr (d.nobj+3) 0/\s 12=sl ids a.ts.length (Ac a.ts)/\s 13=ic a.ts.length/\s 14=ic k/\Keep d d'/\d.nobj+3<d'.nobj/\d'.obj d.nobj=Ac P/\d'.obj (d.nobj+2)=[ic 0,nilS]/\d'.obj (d.nobj+3)=[ic a.p,sl i3 k xs]/\Own d d' i3 k/\xs.length=k*2/\Agt (xs=Ac ((a.ts.take k).map (F9 P)))) a.ts.length
  ⟨0,1,[],Agm,Agm,by simp[upd,initS],Ago,Ago,Ago,Ago,rfl,?_,?_,?_,?_,?_,Own.nil _ _,by simp,by simp[Agt,Ac]⟩ ?_
 ·exact (((((Keep.refl d).new _).new _).new _).new _).put Agm _
 ·simp only[Ab,Aa];omega
 ·rw[Ai Agm,Af Agq,Af Agq,Af Agq,Ap]
 ·rw[Ai Agm,Af Agq,Bs Agq Agq]
 ·rw[show d.nobj+3=d.nobj+1+1+1 by omega,Aj]
 rintro m s d' ⟨k,i3,xs,rfl,hk,h2,h4,h5,a4,a3,a0,hK,hno,au,ap,ao,hO,ax,hX⟩;have a9:=hK.nobj;by_cases ay:k<a.ts.length
 ·have ae:=List.getElem?_eq_getElem ay;have hv:=ha a.ts[k] (Afa ay);obtain⟨r2,a6⟩:=Cm ae;generalize a.ts[k]=w at a6 ae hv;have af:Agt (xs++H8 (F9 P w)=Ac ((a.ts.take (k+1)).map (F9 P))):=by
   rw[Agt,Ad3,ae,Afe,Ad5,List.map_singleton,Qw,<-hX.out]
  have an:=fun d=>Tj P hP w hv d;have aw:Agt _:=ax;clear ae hv hX;generalize F9 P w=w' at af an;obtain⟨w1,w2⟩:=w';dsimp only at an
  repeat' (first|refine Z1 ?_|(refine Z8 ?_;intro κ hκ)|(refine Z4 ?_;clear hκ κ)|(refine Z2 ?_ ?_<;>intro h ai<;>try exact Xp)|(refine Z6 ?_;intro idn dn ak am ad ab ac aa)|refine Z3 ?_|exact⟨⟩|(apply hκ.out;clear hκ κ))
  have az:Keep d ((d'.new [sc (.bool false),ic 0]).put d'.nobj [sc (.bool w.1),ic w.2]):=(hK.new _).put hK.nobj _;have kv:∀p,p<d'.nobj->((d'.new [sc (.bool false),ic 0]).put d'.nobj [sc (.bool w.1),ic w.2]).obj p=d'.obj p:=fun p hp=>by rw[Ai Agm,Af Agm]
  refine B6 (Q:=fun e s' d''=>e= .normal/\s' 2=ptr d.nobj 0/\s' 4=ptr (d.nobj+2) 0/\s' 5=ptr (d.nobj+3) 0/\s' 12=sl ids a.ts.length (Ac a.ts)/\s' 13=ic a.ts.length/\s' 14=ic k/\Keep d d''/\d.nobj+3<d''.nobj/\d''.obj d.nobj=Ac P/\d''.obj (d.nobj+2)=[ic 0,nilS]/\∃idn,d''.obj (d.nobj+3)=[ic a.p,sl idn (k+1) (xs++[sc (.bool w1),ic w2])]/\Own d d'' idn (k+1)) ?_ ?_
  ·refine Bh Al (fun _=>True) [8] [0,1,2,3] 5 #[true,true,true,true,false,false,false,false,false] Agp (fun _ _ _ h=>by cases h.1) ?_;intro κ hκ;refine Z3 ?_;refine hκ.out _ ?_;clear hκ κ;refine Ao (i:=4) Agp ?_;refine Ar ?_;intro κ hκ;refine Z3 ?_;refine ACalls.mono (an _) ?_;rintro _ d5 ⟨rfl,ah⟩;refine Z3 ?_;refine hκ.out _ _ ⟨Aq ah,?_⟩;clear hκ κ;have av:=ah.nobj;have aj:=ah.obj;simp only[Ab,Aa]at av aj;have a8:=az.trans ah;have a7:=Own.keep (Own.put (Own.new hO [sc (.bool false),ic 0]) d'.nobj [sc (.bool w.1),ic w.2]) ah;refine Ao (i:=5) Agp ?_;refine Ar ?_;intro κ hκ;refine Z3 ?_;refine hκ.out _ _ ⟨Aq (ah.lay 1),?_⟩;clear hκ κ;refine Ao (i:=6) Agp ?_;refine Ar ?_;intro κ hκ;refine Z3 ?_;refine Bm (by first|exact Dv) a8 a7 (by decide) (by rfl) ax (by rfl) (by rfl) (by decide) Agm Agm ?_;intro idn dn ak am ad ab ac aa;refine Z3 ?_;refine hκ.out _ _ ⟨fun _ o ho _=>by rw[ac];exact ah.ver o ho,?_⟩;clear hκ κ;refine Ao (i:=7) Agp ?_;refine Ar ?_;intro κ hκ;refine Z3 ?_;refine hκ.out _ _ ⟨fun _ o ho _=>by rw[ac];exact ah.ver o ho,?_⟩;clear hκ κ;have en:∀p,p<d'.nobj->dn.obj p=d'.obj p:=fun p hp=>by rw[ad,aj _ Agm,kv _ hp]
   have en1:dn.obj (d.nobj+3)=[ic a.p,sl i3 k xs]:=by rw[en _ hno,ao]
   refine Ao (i:=8) Agp ?_;refine Ar ?_;intro κ hκ;refine Z3 ?_;refine hκ.out _ _ ⟨Bq rfl,?_⟩;clear hκ κ;refine A6 Agp ⟨rfl,?_⟩;simp only[upd,↓reduceIte,Nat.reduceEqDiff,h2,h4,h5,a4,a3,a0,Agl];refine⟨am.put Agm _,by simp only[Ab];omega,?_,?_,idn,?_,Own.put ak _ _⟩
   ·rw[Ai Agm,en _ Agm,au]
   ·rw[Ai Agm,en _ Agm,ap]
   ·rw[Aj]
  ·clear kv az hO ax au ap ao hno an h2 h4 h5 a4 a3 a0;rintro e s' d'' ⟨rfl,g2,g4,g5,g12,g13,g14,hK,hno,au,ap,idn,ao,hO⟩
   repeat' (first|refine Z1 ?_|(refine Z8 ?_;intro κ hκ)|(refine Z4 ?_;clear hκ κ)|(refine Z2 ?_ ?_<;>intro h ai<;>try exact Xp)|(refine Z6 ?_;intro idn dn ak am ad ab ac aa)|refine Z3 ?_|exact⟨⟩|(apply hκ.out;clear hκ κ))
   refine⟨a.ts.length-(k+1),Agm,k+1,idn,xs++[sc (.bool w1),ic w2],?_⟩
   ((repeat' with_reducible refine And.intro ?_ ?_)<;>first|exact Xq|exact (af)|exact (by rw[Aee,aw.out];simp;omega)|exact Xs)
 ·have a5:k=a.ts.length:=Agm;subst a5;rw[Adz]at hX
  repeat' (first|refine Z1 ?_|(refine Z8 ?_;intro κ hκ)|(refine Z4 ?_;clear hκ κ)|(refine Z2 ?_ ?_<;>intro h ai<;>try exact Xp)|(refine Z6 ?_;intro idn dn ak am ad ab ac aa)|refine Z3 ?_|exact⟨⟩|(apply hκ.out;clear hκ κ))
  exact⟨_,rfl,⟨i3,by rw[hX.out]⟩,hK.put Agm _⟩
end Go.Proofs.YtmoeoppbmhfbpabGreatDoorG
