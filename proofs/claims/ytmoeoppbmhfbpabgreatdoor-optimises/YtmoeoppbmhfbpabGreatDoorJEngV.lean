import Derived.Test.YtmoeoppbmhfbpabGreatDoorJEngO
import Derived.Test.YtmoeoppbmhfbpabGreatDoorJAbsWp
import Derived.Test.YtmoeoppbmhfbpabGreatDoorJRspC
set_option maxHeartbeats 32000000
set_option maxRecDepth 100000
set_option linter.all false
open List renaming length->Z
namespace Go.Proofs.YtmoeoppbmhfbpabGreatDoorJ
open Go.Abs
def FA (q:AZ)(v:Int):Prop:=∃a∈atomsQ q,Bm a.ts v=true
def NE (q:AZ):Prop:=∀p∈q.A,p.A≠[]
def pA (q:AZ):Prop:=∀v,(Bm q.h.ts v=true\/∃a∈q.B,Bm a.ts v=true)->∃p∈q.A,Bm p.a.ts v=true
structure GP (neg:Int->Ck->Prop)(q q':AZ):Prop where
 hd:q'.h=q.h
 at_:∀a∈atomsQ q',a∈atomsQ q
 to:∀ν,Mq neg q ν->Mq neg q' ν
 back:∀ν,Mq neg q' ν->∃ν',Mq neg q ν'/\∀v,FA q' v->ν' v=ν v
def GP.refl (neg q):GP neg q q:=⟨rfl,λ_ h=>h,λ_ h=>h,λa h=>⟨a,h,λ_ _=>rfl⟩⟩
def FA.sub {q b v}(h:∀a∈atomsQ b,a∈atomsQ q)(d:FA b v):FA q v:=by
 obtain⟨a,c,e⟩:=d;exact⟨a,h a c,e⟩
def GP.trans {neg q f e}(h:GP neg q f)(g:GP neg f e):GP neg q e where
 hd:=g.hd.trans h.hd
 at_:=λa k=>h.at_ a (g.at_ a k)
 to:=λν b=>g.to ν (h.to ν b)
 back:=λν b=>by
  obtain⟨c,l,j⟩:=g.back ν b;obtain⟨d,h2,e2⟩:=h.back c l;exact⟨d,h2,λv i=>(e2 v (i.sub g.at_)).trans (j v i)⟩
def Lv {q p}(h:p∈q.A):p.a∈atomsQ q:=by
 unfold atomsQ;simp;right;left;exact⟨p,h,rfl⟩
def CF.red {neg q f}(h:CF q f)(e:WP q):GP neg q f:=
 ⟨h.atoms.2.1,λa d=>by rw[h.atomsQ]at d;exact d,λc b=>(h.sol e c).2 b,λc b=>⟨c,(h.sol e c).1 b,λ_ _=>rfl⟩⟩
def Qi {q}:∀{vs:List Int} {n:Nat},Lb q n vs=true->(∀v∈vs,Dq q v=true->n=0/\Dt (q.A.map (·.a)) v≠1)/\∀v∈vs,∀w∈vs,Dq q v=true->Dq q w=true->v=w
 |[],n,_=>⟨(λv a=>by cases a),(λv a=>by cases a)⟩
 |u::vs,n,h=>by
  unfold Lb at h;by_cases d:Dq q u=true;rw[if_pos d]at h;split at h;cases h;rename_i k;obtain⟨i,j⟩:=Qi h;have g:∀v∈vs,¬Dq q v=true:=λv a b=>by
   have:=(i v a b).1;omega
  refine⟨λv a b=>?_,λv a w c b f=>?_⟩;rcases BD.1 a with rfl|a;exact⟨AA,λe=>k (.inr e)⟩;exact absurd b (g v a);rcases BD.1 a with l|a;rcases BD.1 c with e2|c;rw[l,e2];exact absurd f (g w c);exact absurd b (g v a);rw[if_neg d]at h;obtain⟨i,j⟩:=Qi h;refine⟨λv a b=>?_,λv a w c b f=>?_⟩;rcases BD.1 a with rfl|a;exact absurd b d;exact i v a b;rcases BD.1 a with rfl|a;exact absurd b d;rcases BD.1 c with rfl|c;exact absurd f d;exact j v a w c b f
def Fp (l m v):Dt (l++m) v=Dt l v+Dt m v:=MI
def H2 (a l v):Dt (a::l) v=Dt l v+if Bm a.ts v=true then 1 else 0:=MJ
def wW {neg q}(C:WP q)(T:NE q)(U:NM q):GP neg q (F2 q)/\(∀p∈(F2 q).A,p∈q.A)/\(pA q->pA (F2 q)):=by
 rcases List.exists_or_eq_self_of_eraseP (λp=>idleB q p.a) q.A with e|⟨p,l1,l2,-,I,e1,e2⟩;have:F2 q=q:=by unfold F2;rw[e]
 rw[this];exact⟨GP.refl _ _,λp I=>I,λh=>h⟩;have s:(F2 q).A=l1++l2:=e2;have B:∀b∈(F2 q).A,b∈q.A:=λb i=>by
  rw[s]at i;rw[e1];rcases AW.1 i with h|h;exact AW.2 (.inl h);exact AW.2 (.inr (BD.2 (.inr h)))
 have z:p∈q.A:=by rw[e1];simp
 obtain⟨W,R⟩:=Qi (vs:=Cs [p.a]) (n:=0) I;have F:∀v,Bm p.a.ts v=true->v∈Cs [p.a]:=λv c=>(Dn _ _).2 ⟨p.a,nk,AO.1 c⟩;have aw:∀v,Dt (atomsQ q) v=(if Bm q.h.ts v=true then 1 else 0)+Dt ((l1++l2).map (·.a)) v+(if Bm p.a.ts v=true then 1 else 0)+Dt q.B v:=λv=>by
  unfold atomsQ;rw[H2,Fp,e1,EU,CC,Fp,H2,EU,Fp];omega
 have ap:∀v,Dt (q.A.map (·.a)) v=Dt ((l1++l2).map (·.a)) v+if Bm p.a.ts v=true then 1 else 0:=λv=>by
  rw[e1,EU,CC,Fp,H2,EU,Fp];omega
 --a variable of the part that stands elsewhere is linked
 have x:∀v,Bm p.a.ts v=true->(Bm q.h.ts v=true\/(∃b∈l1++l2,Bm b.a.ts v=true)\/∃a∈q.B,Bm a.ts v=true)->Dq q v=true:=λv c h=>by
  unfold Dq;rw[aw v,if_pos c];rcases h with h|⟨b,f,r⟩|⟨a,f,r⟩;rw[if_pos h,CV];omega;have:=N4 (l:=(l1++l2).map (·.a)) (AN.2 ⟨b,f,rfl⟩) r;rw[CV];omega;have:=N4 f r;rw[CV];omega
 have N:∀v,Bm p.a.ts v=true->Dq q v=true->∃b∈l1++l2,Bm b.a.ts v=true:=λv c y=>by
  have:=(W v (F v c) y).2;rw[ap v,if_pos c]at this;have h0:0<Dt ((l1++l2).map (·.a)) v:=AA;obtain⟨a,d,m⟩:=MK.1 h0;obtain⟨b,i,rfl⟩:=AN.1 d;exact⟨b,i,m⟩
 have ak:∀a∈atomsQ (F2 q),a∈atomsQ q:=λa d=>by
  unfold atomsQ at d⊢;simp only[BD,AW,AN]at d⊢;rcases d with h|⟨b,f,rfl⟩|h;exact .inl h;exact .inr (.inl ⟨b,B b f,rfl⟩);exact .inr (.inr h)
 refine⟨⟨rfl,ak,λk h=>⟨λb i=>h.1 b (B b i),h.2⟩,λk h=>?_⟩,B,λV v c=>?_⟩
 --a tuple of the part that agrees with the rest
 have ao:∃g,B8 p.a g∈p.A/\∀v,Bm p.a.ts v=true->Dq q v=true->g v=k v:=by
  by_cases A:∃v,Bm p.a.ts v=true/\Dq q v=true;obtain⟨v,c,y⟩:=A;obtain⟨b,i,Q⟩:=N v c y;have D:b∈(F2 q).A:=by rw[s];exact i
  have a0:=h.1 b D;obtain⟨u,O,G⟩:=U v b (B b D) p z Q c _ a0;rw[J5 (C b (B b D)).1 Q]at G;obtain⟨g,rfl⟩:=(C p z).2 u O;rw[J5 (C p z).1 c]at G;refine⟨g,O,λw H J=>?_⟩;have:=R w (F w H) v (F v c) J y;rw[this];exact G;have Y:=T p z;obtain⟨t,P⟩:=List.exists_mem_of_ne_nil _ Y;obtain⟨g,rfl⟩:=(C p z).2 t P;exact⟨g,P,λw H J=>absurd ⟨w,H,J⟩ A⟩
 obtain⟨g,E,M⟩:=ao;let o:Nu:=λv=>if Bm p.a.ts v=true then g v else k v;have L:∀a:Dx,(∀v,Bm a.ts v=true->Bm p.a.ts v=true->Dq q v=true)->B8 a o=B8 a k:=λa d=>Ft λv c=>by
  show (if Bm p.a.ts v=true then g v else k v)=k v;by_cases h:Bm p.a.ts v=true;rw[if_pos h];exact M v h (d v c h);rw[if_neg h]
 refine⟨o,⟨λb i=>?_,λa d=>?_⟩,λv c=>?_⟩;rw[e1]at i;have K:b=p\/b∈l1++l2:=by
  rcases AW.1 i with h|h;exact .inr (AW.2 (.inl h));rcases BD.1 h with h|h;exact .inl h;exact .inr (AW.2 (.inr h))
 rcases K with rfl|af;rw[Ft (ν':=g) (λv c=>by show (if Bm _ v=true then g v else k v)=g v;rw[if_pos c])];exact E;rw[L b.a (λv c j=>x v j (.inr (.inl ⟨b,af,c⟩)))];exact h.1 b (by rw[s];exact af);rw[L a (λv c j=>x v j (.inr (.inr ⟨a,d,c⟩)))];exact h.2 a d;show (if Bm p.a.ts v=true then g v else k v)=k v;by_cases j:Bm p.a.ts v=true;rw[if_pos j];apply M v j;obtain⟨a,d,m⟩:=c;unfold atomsQ at d;simp only[BD,AW,AN]at d;rcases d with rfl|⟨b,f,rfl⟩|f;exact x v j (.inl m);exact x v j (.inr (.inl ⟨b,by rw[s]at f;exact f,m⟩));exact x v j (.inr (.inr ⟨a,f,m⟩));rw[if_neg j];obtain⟨b,f,r⟩:=V v c;rw[e1]at f;have K:b=p\/b∈l1++l2:=by
  rcases AW.1 f with h|h;exact .inr (AW.2 (.inl h));rcases BD.1 h with h|h;exact .inl h;exact .inr (AW.2 (.inr h))
 rcases K with rfl|af
 have y:Dq q v=true:=x v r (by
  rcases c with h|⟨a,d,m⟩;exact .inl h
  exact .inr (.inr ⟨a,d,m⟩))
 obtain⟨p2,X,S⟩:=N v r y;exact⟨p2,by rw[s];exact X,S⟩;exact⟨b,by rw[s];exact af,r⟩
def EA.red {neg q c}(h:EA q c)(k:WP q)(f:NE q)(r:NM q):GP neg q c/\(∀p∈c.A,p∈q.A)/\(pA q->pA c):=by
 induction h with
 |refl=>exact⟨GP.refl _ _,λp a=>a,λh=>h⟩
 |tail h i=>
  obtain⟨j,b,l⟩:=i;obtain⟨m,g,o⟩:=wW (neg:=neg) (λp a=>k p (b p a)) (λp a=>f p (b p a)) (λv e s d n=>r v e (b e s) d (b d n));exact⟨j.trans m,λp a=>b p (g p a),λh=>o (l h)⟩
def dG {neg q rs}(m:F1 (atomsQ q) rs rs){c d}(k:Mq neg (Bc q rs) c)(h2:Mq neg (Ip q rs) d):Mq neg q (λv=>if v∈rs then c v else d v):=by
 have i:∀a∈atomsQ q,J0 rs a=true->B8 a (λv=>if v∈rs then c v else d v)=B8 a c:=λa e b=>Ft λv f=>if_pos (m a e b v (AO.1 f));have j:∀a:Dx,J0 rs a=false->B8 a (λv=>if v∈rs then c v else d v)=B8 a d:=λa b=>Ft λv f=>if_neg λl=>by
  unfold J0 at b;rw[EV]at b;exact b v l f
 refine⟨λp g=>?_,λa e=>?_⟩;cases b:J0 rs p.a with
 |true=>rw[i p.a (Lv g) b];exact k.1 p (BP.2 ⟨g,b⟩)
 |false=>rw[j p.a b];exact h2.1 p (BP.2 ⟨g,by simp[b]⟩)
 cases b:J0 rs a with
 |true=>rw[i a (by unfold atomsQ;simp[e]) b];exact k.2 a (BP.2 ⟨e,b⟩)
 |false=>rw[j a b];exact h2.2 a (BP.2 ⟨e,by simp[b]⟩)
def lD {neg q rs ν}(h:Mq neg q ν):Mq neg (Bc q rs) ν:=
 ⟨λp c=>h.1 p (BP.1 c).1,λa b=>h.2 a (BP.1 b).1⟩
def uV {neg q rs ν}(h:Mq neg q ν):Mq neg (Ip q rs) ν:=
 ⟨λp c=>h.1 p (BP.1 c).1,λa b=>h.2 a (BP.1 b).1⟩
def tN {neg q v ν}(e:WP q)(h:Mq neg q ν)(d:∃p∈q.A,Bm p.a.ts v=true):ν v∈Mo q v:=by
 unfold Mo;cases b:q.A.find? (λp=>Bm p.a.ts v)with
 |none=>
  obtain⟨p,a,c⟩:=d;rw[KB]at b;exact absurd c (b p a)
 |some p=>
  have a:=ME b;have c:Bm p.a.ts v=true:=nn (List.find?_some b);simp only;unfold aL;rw[Vu];exact .inr ⟨_,h.1 p a,J5 (e p a).1 c⟩
def mZ:∀{l:List Part},(∀p∈l,p.A≠[]/\∀t∈p.A,∃μ,t=B8 p.a μ)->(∀v,Dt (l.map (·.a)) v<=1)->∃ν:Nu,∀p∈l,B8 p.a ν∈p.A
 |[],_,_=>⟨λ_=>0,λp k=>by cases k⟩
 |p::l,h,f=>by
  obtain⟨ν,c⟩:=mZ (l:=l) (λb a=>h b (by simp[a])) (λv=>by
   have:=f v;rw[CC,H2]at this
   omega)
  obtain⟨j,d⟩:=h p nk;obtain⟨t,g⟩:=List.exists_mem_of_ne_nil _ j;obtain⟨μ,rfl⟩:=d t g;refine⟨λv=>if Bm p.a.ts v=true then μ v else ν v,λb a=>?_⟩;rcases BD.1 a with rfl|a;rw[Ft (ν':=μ) (λv e=>if_pos e)];exact g
  rw[Ft (ν':=ν) (λv e=>if_neg (λi=>by
   have:=f v;rw[CC,H2,if_pos i]at this;have:=N4 (l:=l.map (·.a)) (AN.2 ⟨b,a,rfl⟩) e
   omega))]
  exact c b a
end Go.Proofs.YtmoeoppbmhfbpabGreatDoorJ
namespace Go.Abs
section
variable {P:Program} {n:Nat} {Q:Ig} {F:Nat->Prop} {A:Nat->Bool} {σ0:St} {all:List Oper}
theorem Hv {a s b}(ts m k L)(e:k=Z ts+m)(l:Region.noSelect all.toArray=true)(f:MU all A L ts a=true)(i:∀c s b,¬Q (.panic c) s b)(j:σ0.B<=b.B)(g:∀o,o<σ0.B->F o->b.ver o=σ0.ver o)
  (h:∀K:Sl->Prop,AC (∀d,Qs P n all Q F A b m L d b->K d)->aT P n all F b K ts s):Qs P n all Q F A σ0 k a s b:=by
 subst e;exact tR j g (fN l i m L ts a s f (h _ λ_ h=>h))
end
end Go.Abs
namespace Go.Proofs.YtmoeoppbmhfbpabGreatDoorJ
open Go.Abs
def AE.ext' {a b:AE}(d:a.nt=b.nt)(h2:a.B=b.B)(c:a.A=b.A):a=b:=by cases a;cases b;simp_all
def Ij (μ:Tx->Tx)(t:Tx):Tx:=if Ab t=true then μ t else t
def G3 (μ:Tx->Tx)(a:AE):AE:=⟨a.nt,a.B,a.A.map (Ij μ)⟩
def Rv (μ:Tx->Tx)(x:AB):AB:=⟨false,G3 μ x.h,x.A.map (G3 μ)⟩
def aI (a:AE):Prop:=∀t∈a.A,Ab t=false
def Cm {μ t}(h:Ab t=false):Ij μ t=t:=by unfold Ij;rw[if_neg (by simp[h])]
def C1 {μ t}(h:Ab t=true):Ij μ t=μ t:=by unfold Ij;rw[if_pos h]
def Kb {α:Type}{f}:∀{l:List α},(∀x∈l,f x=x)->l.map f=l
 |[],_=>rfl
 |a::l,h=>by rw[CC,h a nk,Kb λx b=>h x (by simp[b])]
def O6 {μ a}(h:aI a):G3 μ a=a:=AE.ext' rfl rfl (Kb λt b=>Cm (h t b))
def cmp (ν θ:Tx->Tx):Tx->Tx:=λu=>Ij ν (θ u)
def uO (ν θ u):Ij ν (Ij θ u)=Ij (cmp ν θ) u:=by
 cases h:Ab u with
 |true=>rw[C1 h,C1 h];rfl
 |false=>rw[Cm h,Cm h,Cm h]
def O7 (ν θ a):G3 ν (G3 θ a)=G3 (cmp ν θ) a:=AE.ext' rfl rfl (by
 show (a.A.map (Ij θ)).map (Ij ν)=a.A.map (Ij (cmp ν θ));rw[BH]
 exact CG λu _=>uO ν θ u)
def zJ {μ ν a}(h:∀u∈a.A,Ab u=true->μ u=ν u):G3 μ a=G3 ν a:=AE.ext' rfl rfl (CG λu c=>by
 cases b:Ab u with
 |true=>rw[C1 b,C1 b,h u c b]
 |false=>rw[Cm b,Cm b])
def ZK (ν θ x):Rv ν (Rv θ x)=Rv (cmp ν θ) x:=by
 unfold Rv;congr 1;exact O7 ν θ x.h;rw[BH];exact CG λa _=>O7 ν θ a
def Qd (v t:Tx):Tx->Tx:=λu=>if u=v then t else u
def F8 (v t:Tx)(a:AE):AE:=⟨a.nt,a.B,a.A.map λu=>if u=v then t else u⟩
def Dj (v t:Tx)(x:AB):AB:=⟨false,F8 v t x.h,x.A.map (F8 v t)⟩
def vA {v t}(b:Ab v=true)(a):F8 v t a=G3 (Qd v t) a:=AE.ext' rfl rfl (CG λu _=>by
 cases h:Ab u with
 |true=>rw[C1 h];rfl
 |false=>rw[Cm h,if_neg (λe=>by subst e;rw[b]at h;cases h)])
def uZ {v t}(b:Ab v=true)(x):Dj v t x=Rv (Qd v t) x:=by
 unfold Dj Rv;rw[vA b];congr 1;exact CG λa _=>vA b a
def Mb (j:Nat):ol->Nat->AB->Option AB
 |[],_,x=>some x
 |a::c,k,x=>match (x.A[j]?).bind (λb=>b.A[k]?)with
  |none=>none
  |some t=>if t=a then Mb j c (k+1) x else if Ab t=true then Mb j c (k+1) (Dj t a x)else none
def Kp (x:AB)(j:Nat)(t:AE):Option AB:=match x.A[j]? with
 |none=>none
 |some b=>if t.nt=b.nt/\t.B=b.B/\Z t.A=Z b.A then Mb j t.A 0 x else none
def Th (θ:Tx->Tx):Prop:=∀u,Ab u=true->θ u=u\/Ab (θ u)=false
def KN (μ:Tx->Tx)(j k:Nat)(c:ol)(x:AB):Prop:=∃b,x.A[j]?=some b/\∀(i:Nat) (a:Tx),c[i]?=some a->∃t,b.A[k+i]?=some t/\Ij μ t=a
def f8 {x}(h:x.o=false):Rv (λu=>u) x=x:=by
 have c:∀t,Ij (λu=>u) t=t:=λt=>by unfold Ij;split<;>rfl
 have b:∀a,G3 (λu=>u) a=a:=λa=>AE.ext' rfl rfl (Kb λt _=>c t);unfold Rv;rw[b,Kb λa _=>b a];cases x;simp_all
def YW {μ t a u}(b:Ab a=false)(c:μ t=a)(d:Ab u=true):cmp μ (Qd t a) u=μ u:=by
 unfold cmp Qd;split;rename_i e;subst e;rw[Cm b,c];exact C1 d
def KN.put {μ j k f x t a}(h:KN μ j k (a::f) x)(q:Ab t=true)(o:Ab a=false)(l:μ t=a):KN μ j (k+1) f (Rv (Qd t a) x):=by
 obtain⟨b,n,h⟩:=h;refine⟨G3 (Qd t a) b,by simp[Rv,n],λi g m=>?_⟩;obtain⟨d,p,e⟩:=h (i+1) g (nn m);refine⟨Ij (Qd t a) d,?_,?_⟩;show (b.A.map (Ij (Qd t a)))[k+1+i]?=_;rw[DC,show k+1+i=k+(i+1)by omega,p];rfl;rw[uO];cases c:Ab d with
 |true=>rw[C1 c,YW o l c,<-e,C1 c]
 |false=>rw[Cm c,<-e,Cm c]
def KN.tail {μ j k c x a}(h:KN μ j k (a::c) x):KN μ j (k+1) c x:=by
 obtain⟨b,e,h⟩:=h;refine⟨b,e,λi d m=>?_⟩;obtain⟨f,l,g⟩:=h (i+1) d (nn m);exact⟨f,by rw[show k+1+i=k+(i+1)by omega];exact l,g⟩
def iF (j):∀(c:ol) (k:Nat) (x y:AB),Mb j c k x=some y->x.o=false->(∀a∈c,Ab a=false)->
  ∃θ,Th θ/\y=Rv θ x/\(∀(i:Nat) (a:Tx),c[i]?=some a->∃b,y.A[j]?=some b/\b.A[k+i]?=some a)/\∀μ,KN μ j k c x->∀u,Ab u=true->Ij μ (θ u)=μ u
 |[],k,x,y,h,A,_=>by
  cases h;exact⟨λu=>u,λu _=>.inl rfl,(f8 A).symm,λi a h=>by simp at h,λμ _ u f=>C1 f⟩
 |a::c,k,x,y,h,A,D=>by
  have d:=D a nk;have C:∀a∈c,Ab a=false:=λb l=>D b (by simp[l]);unfold Mb at h;cases l:x.A[j]? with
  |none=>rw[l]at h;cases h
  |some b=>
   rw[l]at h;cases o:b.A[k]? with
   |none=>simp[o]at h
   |some t=>
    simp only[FU,o]at h;split at h;rename_i e;subst e;obtain⟨θ,z,n,v,B⟩:=iF j c (k+1) x y h A C;refine⟨θ,z,n,λi s g=>?_,λμ p=>B μ p.tail⟩;cases i with
    |zero=>
     simp at g;subst g;exact⟨G3 θ b,by rw[n];simp[Rv,l],by show (b.A.map (Ij θ))[k+0]?=_;rw[DC,GZ,o,GJ,Cm d]⟩
    |succ i=>
     obtain⟨q,m,e2⟩:=v i s (nn g);exact⟨q,m,by rw[show k+(i+1)=k+1+i by omega];exact e2⟩
    split at h;rename_i r;rw[uZ r]at h;obtain⟨θ,z,n,v,B⟩:=iF j c (k+1) _ y h rfl C;refine⟨cmp θ (Qd t a),λu f=>?_,by rw[n,ZK],λi s g=>?_,λμ p u f=>?_⟩;unfold cmp Qd;split;exact .inr (by rw[Cm d];exact d);rw[C1 f];exact z u f;cases i with
    |zero=>
     simp at g;subst g;refine⟨G3 θ (G3 (Qd t a) b),by rw[n];simp[Rv,l],?_⟩;show ((b.A.map (Ij (Qd t a))).map (Ij θ))[k+0]?=_;rw[DC,DC,GZ,o,GJ,GJ,C1 r];have:Qd t a t=a:=by simp[Qd]
     rw[this,Cm d]
    |succ i=>
     obtain⟨q,m,e2⟩:=v i s (nn g);exact⟨q,m,by rw[show k+(i+1)=k+1+i by omega];exact e2⟩
    have F:μ t=a:=by
     obtain⟨q,E,G⟩:=p;rw[l]at E;cases E;obtain⟨I,m,e2⟩:=G 0 a nk;rw[GZ,o]at m;cases m;rw[C1 r]at e2;exact e2
    have H:=p.put r d F;unfold cmp Qd;split;rename_i e;subst e;rw[Cm d,Cm d,F];rw[C1 f];exact B μ H u f;cases h
def Tt (j):∀(c:ol) (k:Nat) (x:AB) (μ:Tx->Tx),KN μ j k c x->(∀a∈c,Ab a=false)->∃y,Mb j c k x=some y
 |[],k,x,μ,_,_=>⟨x,rfl⟩
 |a::c,k,x,μ,e,g=>by
  have o:=g a nk;have l:∀a∈c,Ab a=false:=λb f=>g b (by simp[f]);obtain⟨b,f,n⟩:=id e;obtain⟨t,i,e2⟩:=n 0 a nk;rw[GZ]at i;unfold Mb;rw[f];simp only[FU,i];split;exact Tt j c (k+1) x μ e.tail l;rename_i m;cases d:Ab t with
  |true=>
   rw[if_pos rfl,uZ d];rw[C1 d]at e2;exact Tt j c (k+1) _ μ (e.put d o e2) l
  |false=>rw[Cm d]at e2;exact absurd e2 m
def Vj {x j t y}(h:Kp x j t=some y)(n:x.o=false)(o:aI t):∃b,x.A[j]?=some b/\∃θ,Th θ/\y=Rv θ x/\y.A[j]?=some t/\∀μ,G3 μ b=t->∀u,Ab u=true->Ij μ (θ u)=μ u:=by
 unfold Kp at h;split at h;cases h;rename_i b d;split at h;rename_i m;obtain⟨l,q,r⟩:=m;obtain⟨θ,v,k,s,z⟩:=iF j _ _ _ _ h n o;refine⟨b,d,θ,v,k,?_,λμ p=>z μ ⟨b,d,λi a c=>?_⟩⟩;have f:y.A[j]?=some (G3 θ b):=by rw[k];simp[Rv,d]
 rw[f];congr 1;refine AE.ext' l.symm q.symm (FL λi=>?_);by_cases c:i<Z t.A;obtain⟨A,g,e2⟩:=s i _ (AK c);rw[f]at g;cases g;rw[DY]at e2;rw[e2,AK c];rw[FD (by show Z (b.A.map (Ij θ))<=i;rw[BV];omega),FD AA];rw[DY];subst p;have e:i<Z b.A:=by have:=(BA.1 c).1;rw[r]at this;exact this
 refine⟨b.A[i],AK e,?_⟩;have:(b.A.map (Ij μ))[i]?=some a:=c;rw[DC,AK e,GJ]at this;exact Gf this;cases h
def zE {x j t b μ}(e:x.A[j]?=some b)(k:G3 μ b=t)(f:aI t):∃y,Kp x j t=some y:=by
 unfold Kp;rw[e];subst k;simp only;rw[if_pos ⟨rfl,rfl,by simp[G3]⟩];refine Tt j _ _ _ μ ⟨b,e,λi a c=>?_⟩ f;have c:(b.A.map (Ij μ))[i]?=some a:=c;rw[DC]at c;cases d:b.A[i]? with
 |none=>rw[d]at c;cases c
 |some g=>
  rw[d]at c;exact⟨g,by rw[DY];exact d,Gf c⟩
def Pt (fz:Bool)(a:AE):Bool:=fz||!a.nt
def wT (a:AE):AE:=⟨false,a.B,a.A⟩
def U1 (fz:Bool)(A:oq)(x:AB)(h:AE):Prop:=∃b,(∀a∈x.A,Pt fz a=true->G3 b a∈A)/\(∀a∈x.A,Pt fz a=false->wT (G3 b a)∉A)/\h=G3 b x.h
def Tj {α:Type}{l:List α}{i j a}(h:l[i]?=some a)(c:i≠j):a∈l.eraseIdx j:=by
 have d:=(BA.1 h).1;rw[List.eraseIdx_eq_take_drop_succ];rcases Nat.lt_or_gt_of_ne c with b|b;exact GK _ (AY (i:=i) (by rw[GF,if_pos b];exact h));exact LI _ (AY (i:=i-(j+1)) (by rw[IJ,show j+1+(i-(j+1))=i by omega];exact h))
def lC {fz A x h}(r:∀a∈A,aI a)(E:x.o=false){j b}(p:x.A[j]?=some b)(F:Pt fz b=true):
  U1 fz A x h↔∃t∈A,∃y,Kp x j t=some y/\U1 fz A (C8 y j) h:=by
 constructor;rintro⟨k,q,z,rfl⟩;have g:=q b (AY p) F;obtain⟨y,s⟩:=zE (μ:=k) p rfl (r _ g);refine⟨_,g,y,s,k,?_⟩;obtain⟨I,n,c,-,rfl,-,J⟩:=Vj s E (r _ g);rw[p]at n;cases n;have B:∀a,G3 k (G3 c a)=G3 k a:=λa=>by rw[O7];exact zJ λu _ H=>J k rfl u H
 have D:∀a∈(C8 (Rv c x) j).A,∃f∈x.A,a=G3 c f:=λa d=>by
  have:=EE d;obtain⟨f,l,rfl⟩:=AN.1 this;exact⟨f,l,rfl⟩
 refine⟨λa d e=>?_,λa d e=>?_,(B _).symm⟩;obtain⟨f,l,rfl⟩:=D a d;rw[B];exact q f l e;obtain⟨f,l,rfl⟩:=D a d;rw[B];exact z f l e;rintro⟨t,g,y,s,G,q,z,rfl⟩;obtain⟨I,n,c,-,rfl,C,-⟩:=Vj s E (r _ g);rw[p]at n;cases n;refine⟨cmp G c,λa d e=>?_,λa d e=>?_,by rw[<-O7];rfl⟩;obtain⟨i,o⟩:=CL d;have v:(Rv c x).A[i]?=some (G3 c a):=by simp[Rv,o]
 rw[<-O7];by_cases m:i=j;subst m;rw[v]at C;cases C;rw[O6 (r _ g)];exact g;exact q _ (Tj v m) e;obtain⟨i,o⟩:=CL d;have v:(Rv c x).A[i]?=some (G3 c a):=by simp[Rv,o]
 rw[<-O7];by_cases m:i=j;subst m;rw[p]at o;cases o;rw[F]at e;cases e;exact z _ (Tj v m) e
def tD (fz:Bool)(x:AB):Prop:=∀v,Ab v=true->(v∈x.h.A\/∃a∈x.A,Pt fz a=false/\v∈a.A)->∃a∈x.A,Pt fz a=true/\v∈a.A
def PZ {θ}(f:Th θ){d:ol}{v}(c:Ab v=true)(h:v∈d.map (Ij θ)):v∈d/\θ v=v:=by
 obtain⟨u,g,e⟩:=AN.1 h;cases a:Ab u with
 |false=>rw[Cm a]at e;subst e;rw[c]at a;cases a
 |true=>
  rw[C1 a]at e;rcases f u a with b|b;rw[b]at e;subst e;exact⟨g,b⟩;rw[e,c]at b;cases b
def VH {fz x y j t}(A:tD fz x)(B:x.o=false)(p:aI t)(C:Kp x j t=some y):tD fz (C8 y j):=by
 obtain⟨b,F,d,m,rfl,r,-⟩:=Vj C B p;intro v c h;have n:d v=v/\(v∈x.h.A\/∃a∈x.A,Pt fz a=false/\v∈a.A):=by
  rcases h with h|⟨a,f,l,h⟩;obtain⟨k,g⟩:=PZ m c h;exact⟨g,.inl k⟩;obtain⟨s,u,rfl⟩:=AN.1 (EE f);obtain⟨k,g⟩:=PZ m c h;exact⟨g,.inr ⟨s,u,l,k⟩⟩
 obtain⟨a,f,l,E⟩:=A v c n.2;obtain⟨i,D⟩:=CL f;have o:(Rv d x).A[i]?=some (G3 d a):=by simp[Rv,D]
 have q:v∈(G3 d a).A:=AN.2 ⟨v,E,by rw[C1 c,n.1]⟩;have z:i≠j:=λe=>by
  subst e;rw[o]at r;cases r;have:=p v q;rw[c]at this;cases this
 exact⟨_,Tj o z,l,q⟩
def lH {fz x}(g:tD fz x)(f:∀a∈x.A,Pt fz a=false):aI x.h/\∀a∈x.A,aI a:=by
 have:∀v,Ab v=true->¬(v∈x.h.A\/∃a∈x.A,Pt fz a=false/\v∈a.A):=λv b h=>by
  obtain⟨a,c,e,-⟩:=g v b h;rw[f a c]at e;cases e
 refine⟨λt d=>?_,λa c t d=>?_⟩;cases b:Ab t with
 |false=>rfl
 |true=>exact absurd (.inl d) (this t b)
 cases b:Ab t with
 |false=>rfl
 |true=>exact absurd (.inr ⟨a,c,f a c,d⟩) (this t b)
def lE {fz A x h}(i:tD fz x)(d:∀a∈x.A,Pt fz a=false):U1 fz A x h↔(∀a∈x.A,wT a∉A)/\h=x.h:=by
 obtain⟨g,e⟩:=lH i d;constructor;rintro⟨j,-,c,rfl⟩;exact⟨λa b=>by have:=c a b (d a b);rw[O6 (e a b)]at this;exact this,O6 g⟩;rintro⟨c,rfl⟩;exact⟨λu=>u,λa b f=>(by rw[d a b]at f;cases f),λa b _=>by rw[O6 (e a b)];exact c a b,(O6 g).symm⟩
def XJ {fz A x h}(l:∀a∈A,aI a)(c:tD fz x)(g:U1 fz A x h):aI h:=by
 obtain⟨m,k,-,rfl⟩:=g;intro t f;obtain⟨u,e,rfl⟩:=AN.1 f;cases b:Ab u with
 |false=>rw[Cm b];exact b
 |true=>
  obtain⟨a,i,j,d⟩:=c u b (.inl e);exact l _ (k a i j) _ (AN.2 ⟨u,d,rfl⟩)
def VD {fz A x h}(b:aI x.h)(a:U1 fz A x h):h=x.h:=by
 obtain⟨c,-,-,rfl⟩:=a;exact O6 b
def Clean (t:Tx):Prop:=(∀b∈t,b≠(33:UInt8)/\b≠44/\b≠46)/\Z t<=1000
def DX (a:AE):Prop:=Clean a.B/\(∀t∈a.A,Clean t)/\Z a.A<=1000
def iQ (x:AB):Prop:=x.o=false/\DX x.h/\∀a∈x.A,DX a
def Ls (a:AE):Tx:=(if a.nt=true then [33]else [])++(a.B++a.A.flatMap λt=>44::t)
def Fb (x:AB):Tx:=(x.h::x.A).flatMap λa=>Ls a++[46]
def Wz {c}:∀{u v r s:Tx},c∉u->c∉v->u++c::r=v++c::s->u=v/\r=s
 |[],[],r,s,_,_,h=>nn h
 |[],b::v,r,s,_,a,h=>by simp at h a;exact absurd h.1 a.1
 |b::u,[],r,s,e,_,h=>by simp at h e;exact absurd h.1.symm e.1
 |b::u,d::v,r,s,e,a,h=>by
  simp at h e a;obtain⟨f,e2⟩:=Wz e.2 a.2 h.2;exact⟨by rw[h.1,f],e2⟩
def cT:∀{a b:ol} {p q:Tx},(44:UInt8)∉p->(44:UInt8)∉q->(∀t∈a,(44:UInt8)∉t)->(∀t∈b,(44:UInt8)∉t)->p++(a.flatMap λt=>44::t)=q++(b.flatMap λt=>44::t)->p=q/\a=b
 |[],[],p,q,_,_,_,_,h=>nn h
 |[],u::b,p,q,e,_,_,_,h=>by
  simp only[List.flatMap_nil,EJ,DN,EW]at h;exact absurd (by rw[h];simp) e
 |t::a,[],p,q,_,c,_,_,h=>by
  simp only[List.flatMap_nil,EJ,DN,EW]at h;exact absurd (by rw[<-h];simp) c
 |t::a,u::b,p,q,e,c,g,f,h=>by
  simp only[DN,EW]at h;obtain⟨i,e2⟩:=Wz e c h;obtain⟨j,k⟩:=cT (g t nk) (f u nk) (λx d=>g x (by simp[d])) (λx d=>f x (by simp[d])) e2;exact⟨i,by rw[j,k]⟩
def Clean.no44 {t}(h:Clean t):(44:UInt8)∉t:=λa=>(h.1 _ a).2.1 rfl
def Clean.no33 {t}(h:Clean t):(33:UInt8)∉t:=λa=>(h.1 _ a).1 rfl
def Clean.no46 {t}(h:Clean t):(46:UInt8)∉t:=λa=>(h.1 _ a).2.2 rfl
def DX.tail33 {a}(h:DX a):(33:UInt8)∉a.B++a.A.flatMap λt=>44::t:=by
 intro e;rcases AW.1 e with c|c;exact h.1.no33 c;obtain⟨t,f,d⟩:=EX.1 c;rcases BD.1 d with b|b;exact absurd b nr;exact (h.2.1 t f).no33 b
def DX.seg46 {a}(h:DX a):(46:UInt8)∉Ls a:=by
 intro d;unfold Ls at d;rcases AW.1 d with b|b;split at b;simp at b;simp at b;rcases AW.1 b with b|b;exact h.1.no46 b;obtain⟨t,f,e⟩:=EX.1 b;rcases BD.1 e with c|c;exact absurd c nr;exact (h.2.1 t f).no46 c
def XK {a b}(g:DX a)(f:DX b)(h:Ls a=Ls b):a=b:=by
 have d:a.nt=b.nt/\a.B++(a.A.flatMap λt=>44::t)=b.B++(b.A.flatMap λt=>44::t):=by
  unfold Ls at h;cases e:a.nt with
  |true=>
   cases c:b.nt with
   |true=>rw[e,c]at h;simpa using h
   |false=>
    rw[e,c]at h;simp only[if_true,EI,if_false,FE,EW]at h;exact absurd (by rw[<-h];simp) f.tail33
  |false=>
   cases c:b.nt with
   |false=>rw[e,c]at h;simpa using h
   |true=>
    rw[e,c]at h;simp only[if_true,EI,if_false,FE,EW]at h;exact absurd (by rw[h];simp) g.tail33
 obtain⟨j,e2⟩:=cT g.1.no44 f.1.no44 (λt i=>(g.2.1 t i).no44) (λt i=>(f.2.1 t i).no44) d.2;exact AE.ext' d.1 j e2
def nL:∀{l m:oq},(∀a∈l,DX a)->(∀a∈m,DX a)->(l.flatMap λa=>Ls a++[46])=(m.flatMap λa=>Ls a++[46])->l=m
 |[],[],_,_,_=>rfl
 |[],b::m,_,_,h=>by simp at h
 |a::l,[],_,_,h=>by simp at h
 |a::l,b::m,e,d,h=>by
  simp only[DN,CR,List.singleton_append]at h;obtain⟨f,e2⟩:=Wz (e a nk).seg46 (d b nk).seg46 h;rw[XK (e a nk) (d b nk) f,nL (λx c=>e x (by simp[c])) (λx c=>d x (by simp[c])) e2]
def Ru {x y}(c:iQ x)(d:iQ y)(h:Fb x=Fb y):x=y:=by
 have:=nL (l:=x.h::x.A) (m:=y.h::y.A) (λa b=>by
  rcases BD.1 b with rfl|b;exact c.2.1
  exact c.2.2 a b) (λa b=>by
  rcases BD.1 b with rfl|b;exact d.2.1
  exact d.2.2 a b) h
 have e:=c.1;have f:=d.1;cases x;cases y;simp_all
def YP {x y j t}(q:iQ x)(r:DX t)(s:aI t)(c:Kp x j t=some y):iQ (C8 y j):=by
 have p:∀(g:ol) (k:Nat) (x y:AB),iQ x->(∀a∈g,Clean a)->Mb j g k x=some y->iQ y:=by
  intro g;induction g with
  |nil=>intro k x y h _ e;cases e;exact h
  |cons a g o=>
   intro k x y h d e;unfold Mb at e;split at e;cases e;split at e;exact o _ _ _ h (λb f=>d b (by simp[f])) e;split at e;refine o _ _ _ ⟨rfl,?_,?_⟩ (λb f=>d b (by simp[f])) e;refine⟨h.2.1.1,λu l=>?_,by show Z (x.h.A.map _)<=1000;rw[BV];exact h.2.1.2.2⟩;obtain⟨w,m,rfl⟩:=AN.1 l;split;exact d a nk;exact h.2.1.2.1 w m;intro b f;obtain⟨i,n,rfl⟩:=AN.1 f;refine⟨(h.2.2 i n).1,λu l=>?_,by show Z (i.A.map _)<=1000;rw[BV];exact (h.2.2 i n).2.2⟩;obtain⟨w,m,rfl⟩:=AN.1 l;split;exact d a nk;exact (h.2.2 i n).2.1 w m;cases e
 unfold Kp at c;split at c;cases c;split at c;have:=p _ _ _ _ q r.2.1 c;exact⟨rfl,this.2.1,λa d=>this.2.2 a (EE d)⟩;cases c
def CM (fz:Bool)(A O:oq)(x:AB):Prop:=∀h,U1 fz A x h->h∈A\/h∈O
def CM.mono {fz A O b x}(h:CM fz A O x)(c:∀a∈O,a∈b):CM fz A b x:=λa d=>(h a d).imp id (c a)
def CI (fz:Bool)(A O:oq)(mo:Int)(S:Tx->Prop)(m:Nat):Prop:=∀y,iQ y->Z y.A<=m->S (Fb y)->(Z O:Int)<=mo->CM fz A O y
structure aE (fz:Bool)(A:oq)(mo:Int)(x:AB)(O:oq)(S:Tx->Prop)(O':oq)(S':Tx->Prop):Prop where
 ext:∃nw,O'=O++nw/\∀h∈nw,U1 fz A x h/\h∉A
 nd:O'.Nodup
 len:(Z O':Int)<=mo+1
 done:(Z O':Int)<=mo->CM fz A O' x
 seen:CI fz A O' mo S' (Z x.A)
 sub:∀s,S s->S' s
 new:∀y,iQ y->S' (Fb y)->S (Fb y)\/Z y.A<=Z x.A
def CI.mono {fz A O e mo S f m b}(h:CI fz A O mo S m)(k:∃c,e=O++c)(o:b<=m)(i:∀y,iQ y->Z y.A<=b->f (Fb y)->S (Fb y)):CI fz A e mo f b:=λy d g n l=>by
 obtain⟨c,rfl⟩:=k;exact (h y d AA (i y d g n) (by simp at l;omega)).mono λa j=>GK _ j
def Tk {fz A O mo x S}(b:O.Nodup)(a:(Z O:Int)<=mo+1)(c:CI fz A O mo S (Z x.A))(h:(Z O:Int)<=mo->CM fz A O x):aE fz A mo x O S O S:=
 ⟨⟨[],nk,λh d=>by simp at d⟩,b,a,h,c,λ_ h=>h,λy e h=>.inl h⟩
def VG {fz A O c mo x S}(i:iQ x)(k:CI fz A O mo S (Z x.A))(m:∃d,c=O++d)(j:(Z c:Int)<=mo->CM fz A c x):CI fz A c mo (λs=>S s\/s=Fb x) (Z x.A):=λy e g b f=>by
 rcases b with b|b;obtain⟨d,rfl⟩:=m;exact (k y e g b (by simp at f;omega)).mono λa l=>GK _ l;rw[Ru e i b];exact j f
def eL {fz A O f mo x S}(j:iQ x)(d:O.Nodup)(k:(Z O:Int)<=mo)(t:CI fz A O mo S (Z x.A))(p:tD fz x)(o:∀a∈x.A,Pt fz a=false)
  (n:x.h∉A/\x.h∉O) (g:((∀a∈x.A,wT a∉A)/\f=O++[x.h])\/(¬(∀a∈x.A,wT a∉A)/\f=O)):aE fz A mo x O S f (λs=>S s\/s=Fb x):=by
 have v:∃q,f=O++q:=by
  rcases g with⟨-,rfl⟩|⟨-,rfl⟩;exact⟨_,rfl⟩;exact⟨[],nk⟩
 have l:CM fz A f x:=λh c=>by
  rw[lE p o]at c;rcases g with⟨-,rfl⟩|⟨i,-⟩;rw[c.2];exact .inr nk;exact absurd c.1 i
 refine⟨?_,?_,?_,λ_=>l,VG j t v λ_=>l,λ_ h=>.inl h,λy r h=>?_⟩;rcases g with⟨i,rfl⟩|⟨-,rfl⟩
 exact⟨_,rfl,λh c=>by
  rw[FY]at c;subst c
  exact⟨(lE p o).2 ⟨i,rfl⟩,n.1⟩⟩
 exact⟨[],nk,λh c=>by simp at c⟩;rcases g with⟨-,rfl⟩|⟨-,rfl⟩;rw[IP];exact⟨d,nk,λa u b m=>by rw[FY]at m;subst m;exact λe=>n.2 (e ▸ u)⟩;exact d;rcases g with⟨-,rfl⟩|⟨-,rfl⟩;simp;omega;omega;rcases h with h|h;exact .inl h;rw[Ru r j h];exact .inr (AU _)
structure N9 (fz:Bool)(A:oq)(mo:Int)(x:AB)(j:Nat)(O:oq)(S:Tx->Prop)(k:Nat)(O':oq)(S':Tx->Prop):Prop where
 ext:∃nw,O'=O++nw/\∀h∈nw,U1 fz A x h/\h∉A
 nd:O'.Nodup
 len:(Z O':Int)<=mo+1
 done:(Z O':Int)<=mo->∀t∈A.take k,∀y,Kp x j t=some y->CM fz A O' (C8 y j)
 seen:CI fz A O' mo S' (Z x.A-1)
 sub:∀s,S s\/s=Fb x->S' s
 new:∀y,iQ y->S' (Fb y)->S (Fb y)\/y=x\/Z y.A<=Z x.A-1
def rM {fz A O mo x j S}(e:iQ x)(l:0<Z x.A)(c:O.Nodup)(a:(Z O:Int)<=mo+1)(g:CI fz A O mo S (Z x.A)):N9 fz A mo x j O S 0 O (λs=>S s\/s=Fb x):=
 ⟨⟨[],nk,λh i=>by simp at i⟩,c,a,λ_ t f=>by simp at f,
  g.mono ⟨[],nk⟩ AA (λy d k b=>by
   rcases b with b|b;exact b
   have:=Ru d e b;subst this;omega),
  λ_ h=>h,λy d h=>by
   rcases h with h|h;exact .inl h
   exact .inr (.inl (Ru d e h))⟩
def yD {fz A mo x j O S k c d}(h:N9 fz A mo x j O S k c d){t}(g:A[k]?=some t)(l:Kp x j t=none):N9 fz A mo x j O S (k+1) c d:=
 ⟨h.ext,h.nd,h.len,λf i e y b=>(by
  rw[AT,g]at e;rcases AW.1 e with a|a;exact h.done f i a y b
  simp at a;subst a;rw[l]at b;cases b),h.seen,h.sub,h.new⟩
def yC {fz A mo x j b O S k p q}(H:∀a∈A,aI a)(I:x.o=false)(L:x.A[j]?=some b)(M:Pt fz b=true)
  (h:N9 fz A mo x j O S k p q){t} (o:A[k]?=some t){y} (n:Kp x j t=some y){r u} (g:aE fz A mo (C8 y j) p q r u) (J:Z (C8 y j).A=Z x.A-1):N9 fz A mo x j O S (k+1) r u:=by
 obtain⟨v,D,G⟩:=h.ext;obtain⟨N,e2,K⟩:=g.ext;have P:=AY o;refine⟨⟨v++N,by rw[e2,D,CR],λa d=>?_⟩,g.nd,g.len,λf E m B i=>?_,by rw[<-J];exact g.seen,λs e=>g.sub s (h.sub s e),λz l e=>?_⟩;rcases AW.1 d with c|c;exact G a c;obtain⟨F,C⟩:=K a c;exact⟨(lC H I L M).2 ⟨t,P,y,n,F⟩,C⟩;rw[AT,o]at m;rcases AW.1 m with c|c;exact (h.done (by rw[e2]at f;simp at f;omega) E c B i).mono λa d=>by rw[e2];exact GK _ d
 simp at c;subst c;rw[n]at i;cases i;exact g.done f;rcases g.new z l e with c|c;exact h.new z l c;exact .inr (.inr AA)
def WC {fz A mo x j b O S k n}(B:∀a∈A,aI a)(q:iQ x)(v:x.A[j]?=some b)(z:Pt fz b=true)(u:CI fz A O mo S (Z x.A))
  (h:N9 fz A mo x j O S (Z A) k n):aE fz A mo x O S k n:=by
 have m:(Z k:Int)<=mo->CM fz A k x:=λi a l=>by
  obtain⟨t,r,y,g,d⟩:=(lC B q.1 v z).1 l;exact h.done i t (by rw[AS];exact r) y g a d
 obtain⟨o,e,f⟩:=h.ext;refine⟨⟨o,e,f⟩,h.nd,h.len,m,λy g p d i=>?_,λs d=>h.sub s (.inl d),λy g d=>?_⟩;rcases h.new y g d with c|c|c;exact (u y g p c (by rw[e]at i;simp at i;omega)).mono λa l=>by rw[e];exact GK _ l
 rw[c];exact m i;exact h.seen y g c d i;rcases h.new y g d with c|c|c;exact .inl c;rw[c];exact .inr (AU _);exact .inr AA
def IC {a b}:J7 a b↔a=b:=⟨λ⟨e,c,d⟩=>AE.ext' e c d,λh=>by subst h;exact⟨rfl,rfl,rfl⟩⟩
def Kh (a:AE):Nat:=a.A.countP Ab
def EP {a}:Kh a=0↔aI a:=by
 unfold Kh aI;rw[List.countP_eq_zero];exact⟨λh t b=>nn (h t b),λh t b=>by simp[h t b]⟩
def eF (a):Kh a<=Z a.A:=List.countP_le_length
def M9 (a ca)(p:Bf a ca)(A:Z a.A<=1000)(b):ni 237 [ag ca] b λr σ'=>r=ic (Kh a:Nat)/\AD b σ':=by
 obtain⟨l,rfl⟩:=p;refine Z9 21 [.tmp 2] Tryz.func237 ?_;refine mr ?_
 refine Ae (λm s σ'=>∃i n:Nat,m=Z a.A-i/\i<=Z a.A/\s 1=ptr b.B 0/\s 3=ic n/\s 4=ic i/\AD b σ'/\b.B<σ'.B/\σ'.C b.B=[my a.nt,str a.B,sl l (Z a.A) (a.A.map str)]/\n<=i/\AC (n=(a.A.take i).countP Ab)) (Z a.A)
  ⟨0,0,AA,AA,AG,AG,AG,Xs,by simp[Aa],Ao,AA,by simp[AC]⟩ ?_
 rintro m s σ' ⟨i,n,rfl,x,B,z,C,g,u,y,v,c⟩;by_cases j:i<Z a.A
 ·have f:=AK j;have o:=A1 j;generalize a.A[i]=t at o f;have e:AC ((a.A.take (i+1)).countP Ab=(a.A.take i).countP Ab+(if Ab t=true then 1 else 0)):=by
   rw[AC,AT,f];simp[MI,MJ]
  clear f;have d:=λb=>Cg t b;cases k:Ab t with
  |true=>
   rw[k]at d e;refine m0 ?_;intro yb ya;refine Xi (d _) ?_;rintro _ _ ⟨rfl,rfl⟩;refine mr ?_;refine⟨Z a.A-(i+1),AA,i+1,n+1,?_⟩
   ((repeat' refine Zi ?_ ?_)<;>first|exact Xq|exact (by rw[AC,e.o,<-c.o];simp)|exact Xs)
  |false=>
   rw[k]at d e;refine m0 ?_;intro yb ya;refine Xi (d _) ?_;rintro _ _ ⟨rfl,rfl⟩;refine mr ?_;refine⟨Z a.A-(i+1),AA,i+1,n,?_⟩
   ((repeat' refine Zi ?_ ?_)<;>first|exact Xq|exact (by rw[AC,e.o,<-c.o];simp)|exact Xs)
 have q:i=Z a.A:=AA;subst q;have c:=c.o;rw[AS]at c;have c:n=Kh a:=c;subst c;refine mr ?_
 first|exact⟨_,rfl,rfl,g⟩|exact⟨rfl,g⟩|exact⟨_,rfl,rfl⟩
def Gt (ls cs id a ca)(p:EL Bf ls cs)(t:Bf a ca)(C:Z ls<=1000)(y:∀b∈ls,Z b.A<=1000)(c):ni 154 [sl id (Z ls) cs,ag ca] c λr σ'=>∃b,r=my b/\(b=true↔a∈ls)/\AD c σ':=by
 by_cases f:a∈ls;refine (iW ls cs id a ca p t C y ⟨a,f,rfl,rfl,rfl⟩ c).mono λr σ' h=>⟨true,h.1,by simp[f],h.2⟩;obtain⟨n,rfl⟩:=t;have J:=EL.length A7 p;have z:=λb d e c=>dI b a [my b.nt,str b.B,sl d (Z b.A) (b.A.map str)] _ ⟨d,rfl⟩ ⟨n,rfl⟩ (y b e) c;have v:AC _:=f;clear f;refine Z9 18 [.tmp 4] Tryz.func154 ?_;refine mr ?_
 refine Ae (λm s σ'=>∃i:Nat,m=Z ls-i/\i<=Z ls/\s 0=sl id (Z ls) cs/\s 3=ptr c.B 0/\s 5=ic i/\AD c σ'/\c.B<σ'.B/\σ'.C c.B=[my a.nt,str a.B,sl n (Z a.A) (a.A.map str)]) (Z ls)
  ⟨0,AA,AA,rfl,rfl,rfl,Xs,by simp[Aa],Ao⟩ ?_
 rintro m s σ' ⟨i,rfl,L,K,u,E,j,F,M⟩;have I:=j.B;by_cases q:i<Z ls;have o:=AK q;obtain⟨d,r,D⟩:=Ca p o;have g:=λc=>z ls[i] d (AR q) c;have l:¬J7 ls[i] a:=λh=>v.o (by rw[<-IC.1 h];exact AR q);generalize ls[i]=b at D o g l;clear o;have g:∀c,ni 196 [ag [my b.nt,str b.B,sl d (Z b.A) (b.A.map str)],ag [my a.nt,str a.B,sl n (Z a.A) (a.A.map str)]] c λr σ'=>r=my false/\AD c σ':=λc=>(g c).mono λr σ' ⟨x,B,A,u⟩=>by
  have:x=false:=by
   cases x with
   |false=>rfl
   |true=>exact absurd (A.1 rfl) l
  subst this;exact⟨B,u⟩
 clear l;refine mr ?_;refine Ax Ag (λ_=>True) [5] [0,1,2,3,4] [5] AH (λ_ _ _ h=>h) ?_;intro yb ya;refine mz ?_;refine Xi (g _) ?_;rintro _ _ ⟨rfl,k⟩;(have G:=k.C;have H:=k.B);refine mr ?_;refine⟨Z ls-(i+1),AA,i+1,?_⟩;exact m9 (j.trans k);refine mr ?_;have e:(false=true↔a∈ls):=⟨λh=>(by cases h),λh=>absurd h v.o⟩
 first|exact⟨_,rfl,false,rfl,e,j⟩|exact⟨false,rfl,e,j⟩|exact⟨_,rfl,false,rfl,e⟩
def fX (a ca v t)(A:Bf a ca)(R:Z a.A<=1000)(σ):ni 263 [ag ca,str v,str t] σ λr σ'=>∃c,r=ag c/\Bf (F8 v t a) c/\AD σ σ':=by
 obtain⟨D,rfl⟩:=A;refine Z9 38 [.cell 6 108] Tryz.func263 ?_;refine mr ?_
 refine Ae (λm s σ'=>∃(i g:Nat) (d:oh),m=Z a.A-i/\i<=Z a.A/\s 1=str v/\s 2=str t/\s 3=ptr σ.B 0/\s 6=ptr (σ.B+1) 0/\s 7=ptr (σ.B+2) 0/\s 8=ic i/\AD σ σ'/\σ.B+2<σ'.B/\σ'.C σ.B=[my a.nt,str a.B,sl D (Z a.A) (a.A.map str)]/\σ'.C (σ.B+1)=[my false,str [],nilS]/\σ'.C (σ.B+2)=[my a.nt,str a.B,sl g i d]/\Own σ σ' g i/\Z d=i*1/\AC (d=((a.A.take i).map λu=>if u=v then t else u).map str)) (Z a.A)
  ⟨0,1,[],AA,AA,by simp[upd,AL],by simp[upd,AL],AG,AG,AG,AG,Xs,BJ,?_,?_,?_,Own.nil _ _,nk,by simp[AC]⟩ ?_
 ·rw[Aj AA,Ah AM,Ah AM,Ao]
 ·rw[Aj AA,Ah AM,Be AM AM]
 ·rw[Ak]
 rintro m s σ' ⟨i,g,d,rfl,P,L,I,K,O,M,N,q,U,V,S,J,H,T,f⟩;have Q:=q.B;by_cases p:i<Z a.A
 ·have o:=AK p;have E:=A1 p;generalize a.A[i]=u at E o;have j:AC (((a.A.take (i+1)).map λu=>if u=v then t else u).map str=((a.A.take i).map λu=>if u=v then t else u).map str++[str (if u=v then t else u)]):=by
   rw[AC,AT,o];simp
  clear o;by_cases e:u=v
  ·have x:(u==v)=true:=by simp[e]
   rw[if_pos e]at j;clear e;refine m5 ?_;intro yb ya;intro b n l k y B z G;refine mr ?_;refine⟨Z a.A-(i+1),AA,i+1,b,d++[str t],?_⟩
   ((repeat' refine Zi ?_ ?_)<;>first|exact Xq|exact (k.put AA _)|exact (Own.put l _ _)|exact (by rw[AC,j.o,f.o])|exact Xs)
  have x:(u==v)=false:=nn e;rw[if_neg e]at j;clear e;refine m5 ?_;intro yb ya;intro b n l k y B z G;refine mr ?_;refine⟨Z a.A-(i+1),AA,i+1,b,d++[str u],?_⟩
  ((repeat' refine Zi ?_ ?_)<;>first|exact Xq|exact (k.put AA _)|exact (Own.put l _ _)|exact (by rw[AC,j.o,f.o])|exact Xs)
 have F:i=Z a.A:=AA;subst F;have f:=f.o;rw[AS]at f;subst f;have C:Bf (F8 v t a) [my a.nt,str a.B,sl g (Z a.A) ((a.A.map λu=>if u=v then t else u).map str)]:=⟨g,by simp[F8]⟩;refine mr ?_;exact⟨_,rfl,_,rfl,C,q.put AA _⟩
def Pn (a ia v t)(e:Z a.A<=1000)(σ):ni 263 [ag [my a.nt,str a.B,sl ia (Z a.A) (a.A.map str)],str v,str t] σ λr σ'=>∃i,r=ag [my a.nt,str a.B,sl i (Z a.A) ((F8 v t a).A.map str)]/\AD σ σ':=
 (fX a _ v t ⟨ia,rfl⟩ e σ).mono λr σ' ⟨c,f,⟨i,b⟩,d⟩=>⟨i,by rw[f,b];simp[F8],d⟩
def dK (x c v t)(hc:AJ x c)(F:x.fits)(d):ni 236 [ag c,str v,str t] d λr σ'=>∃n,r=ag n/\AJ (Dj v t x) n/\AD d σ':=by
 obtain⟨A,id,b,W,rfl⟩:=hc.cells;have be:=EL.length A7 W;have hb5:=F.1;have O:=λd=>Pn x.h A v t F.2.1 d;unfold A4;refine Z9 36 [.cell 6 110] Tryz.func236 ?_;refine m0 ?_;intro yb ya;refine Xi (O _) ?_;rintro _ _ ⟨g,rfl,B⟩;(have av:=B.B;have E:=B.C;simp only[Aa]at av E);refine mr ?_;rename_i f;have T:f.C d.B=[my x.o,my x.h.nt,str x.h.B,sl A (Z x.h.A) (x.h.A.map str),sl id (Z x.A) b]:=by rw[E _ AA,Ah AM,Ao]
 have S:f.C (d.B+1)=[my false,my false,str [],nilS,nilS]:=by rw[E _ AA,Be AM AM]
 have bc:AD d f:=(((AD.refl d).new _).new _).trans B;clear E B
 refine Ae (λm s σ'=>∃(i u:Nat) (k:oh),m=Z x.A-i/\i<=Z x.A/\s 1=str v/\s 2=str t/\s 3=ptr d.B 0/\s 6=ptr (d.B+1) 0/\s 7=ptr f.B 0/\s 8=ic i/\AD d σ'/\f.B<σ'.B/\σ'.C d.B=[my x.o,my x.h.nt,str x.h.B,sl A (Z x.h.A) (x.h.A.map str),sl id (Z x.A) b]/\σ'.C (d.B+1)=[my false,my false,str [],nilS,nilS]/\σ'.C f.B=[my false,my x.h.nt,str x.h.B,sl g (Z x.h.A) ((F8 v t x.h).A.map str),sl u i k]/\Own d σ' u i/\Z k=i*3/\AC (EL Bf ((x.A.take i).map (F8 v t)) k)) (Z x.A)
  ⟨0,1,[],AA,AA,by simp[upd,AL],by simp[upd,AL],AG,AG,AG,AG,Xs,BJ,?_,?_,?_,Own.nil _ _,nk,by simp[AC,EL]⟩ ?_
 ·rw[Aj AA,Ah AA,T]
 ·rw[Aj AA,Ah AA,S]
 ·rw[Ak]
 clear T S bc O;rintro m s σ' ⟨i,u,k,rfl,hi,h1,h2,h3,h6,h7,h8,y,H,K,J,M,G,N,C⟩;have a6:=y.B;by_cases U:i<Z x.A
 ·have D:=AK U;obtain⟨ia,r,hd⟩:=Ca W D;have P:=F.2.2 _ (AR U);generalize x.A[i]=w at hd D P;have HG:AC ((x.A.take (i+1)).map (F8 v t)=(x.A.take i).map (F8 v t)++[F8 v t w]):=by
   rw[AC,AT,D];simp
  clear D;have a9:=λd=>Pn w ia v t P d;have bd:AC _:=C;have aw:AC _:=N;refine mr ?_;refine A2 (Q:=λe q a=>e= .normal/\q 1=str v/\q 2=str t/\q 3=ptr d.B 0/\q 6=ptr (d.B+1) 0/\q 7=ptr f.B 0/\q 8=ic i/\AD d a/\f.B<a.B/\a.C d.B=[my x.o,my x.h.nt,str x.h.B,sl A (Z x.h.A) (x.h.A.map str),sl id (Z x.A) b]/\a.C (d.B+1)=[my false,my false,str [],nilS,nilS]/\∃j n,a.C f.B=[my false,my x.h.nt,str x.h.B,sl g (Z x.h.A) ((F8 v t x.h).A.map str),sl j (i+1) (k++n)]/\Own d a j (i+1)/\Bf (F8 v t w) n) ?_ ?_
  ·refine Ar Ag (λ_=>True) [13] [0,1,2,3,4,5,6,7,8] 5 (nv 14 511) AH (λ_ _ _ h=>by cases h.1) ?_;intro yb ya;refine Z3 ?_;refine ya.o _ ?_;clear ya yb;refine Ai (i:=9) AH ?_;refine Am ?_;intro yb ya;refine Z3 ?_;refine AF.mono (a9 _) ?_;rintro _ X ⟨ij,rfl,l⟩;refine Z3 ?_;refine ya.o _ _ ⟨Al l,?_⟩;clear ya yb;have a5:=l.B;have au:=l.C;have bb:=y.trans l;have ba:=Own.keep G l;refine Ai (i:=10) AH ?_;refine Am ?_;intro yb ya;refine Z3 ?_;refine ya.o _ _ ⟨Al (l.lay 1),?_⟩;clear ya yb;refine Ai (i:=11) AH ?_;refine Am ?_;intro yb ya;refine Z3 ?_;refine Bo (by first|exact It) bb ba nr (by rfl) N (by rfl) (by rfl) nr AA AA ?_;intro j z Y ak ad ab V aa;refine Z3 ?_;refine ya.o _ _ ⟨λ_ o I _=>by rw[V];exact l.ver o I,?_⟩;clear ya yb;refine Ai (i:=12) AH ?_;refine Am ?_;intro yb ya;refine Z3 ?_;refine ya.o _ _ ⟨λ_ o I _=>by rw[V];exact l.ver o I,?_⟩;clear ya yb;have L:∀p,p<σ'.B->z.C p=σ'.C p:=λp hp=>by rw[ad,au _ AA]
   have en1:z.C f.B=[my false,my x.h.nt,str x.h.B,sl g (Z x.h.A) ((F8 v t x.h).A.map str),sl u i k]:=by rw[L _ H,M]
   refine Ai (i:=13) AH ?_;refine Am ?_;intro yb ya;refine Z3 ?_;refine ya.o _ _ ⟨A3 rfl,?_⟩;clear ya yb;refine Aw AH ⟨rfl,?_⟩;simp only[upd,↓reduceIte,Nat.reduceEqDiff,h1,h2,h3,h6,h7,h8,GM];refine⟨ak.put AA _,by simp only[Ac];omega,?_,?_,j,_,?_,Own.put Y _ _,⟨ij,by simp[F8];rfl⟩⟩
   ·rw[Aj AA,L _ AA,K]
   ·rw[Aj AA,L _ AA,J]
   rw[Ak];simp[F8]
  clear C G N K J M H y a6;rintro e q a ⟨rfl,g1,g2,g3,g6,g7,g8,y,H,K,J,j,n,M,G,R⟩;have HX:AC (EL Bf ((x.A.take (i+1)).map (F8 v t)) (k++n)):=by rw[AC,HG.o];exact EL.append bd.o (EL.single R)
  have a8:=A7 _ _ R;refine mr ?_;refine⟨Z x.A-(i+1),AA,i+1,j,k++n,?_⟩
  ((repeat' refine Zi ?_ ?_)<;>first|exact Xq|exact HX|exact (by rw[AX,a8,aw.o];omega)|exact Xs)
 have a7:i=Z x.A:=AA;subst a7;rw[AS]at C
 have HE:AJ (Dj v t x) [my false,my x.h.nt,str x.h.B,sl g (Z x.h.A) ((F8 v t x.h).A.map str),sl u (Z x.A) k]:=
  ⟨[my x.h.nt,str x.h.B,sl g (Z x.h.A) ((F8 v t x.h).A.map str)],u,k,⟨g,by simp[Dj,F8]⟩,C.o,by simp[Dj]⟩
 refine mr ?_;exact⟨_,rfl,_,rfl,HE,y.put AA _⟩
def dP {v t x}(h:x.fits):(Dj v t x).fits:=
 ⟨by simp only[Dj,BV];exact h.1,by simp only[Dj,F8,BV];exact h.2.1,λa d=>by
  obtain⟨b,c,rfl⟩:=AN.1 d
  simp only[F8,BV];exact h.2.2 b c⟩
def zF {j k}{c:ol}{a u y b}(d:c[k]?=some a)(e:y.A[j]?=some b)(i:b.A[k]?=some u):Mb j (c.drop k) k y=if u=a then Mb j (c.drop (k+1)) (k+1) y else if Ab u=true then Mb j (c.drop (k+1)) (k+1) (Dj u a y)else none:=by
 have g:=(BA.1 d).1;have f:=(BA.1 d).2;rw[ET g,f,Mb,e];simp only[FU,i]
def NC (x:AB)(j:Nat)(t:AE)(y:AB)(ok:Bool):Prop:=y.fits/\((ok=true/\Kp x j t=some y)\/(ok=false/\Kp x j t=none))
def fV (x c)(j:Nat)(t ct b0)(hc:AJ x c)(ht:Bf t ct)(X:x.fits)(v:x.A[j]?=some b0)(br:Z t.A<=1000)(d):ni 241 [ag c,ic j,ag ct] d λr σ'=>∃y cy ok,r=tp [ag cy,my ok]/\AJ y cy/\NC x j t y ok/\AD d σ':=by
 have M:=hc;obtain⟨ih,id,b,V,rfl⟩:=hc.cells;obtain⟨it,rfl⟩:=ht;have ba:=EL.length A7 V;have N:=X.1;obtain⟨ia,r,hd⟩:=Ca V v;have a7:=(BA.1 v).1;unfold A4;unfold A4 at M;by_cases F:t.nt=b0.nt/\t.B=b0.B/\Z t.A=Z b0.A;obtain⟨p,q,T⟩:=F;have L:AC (Kp x j t=Mb j (t.A.drop 0) 0 x):=by
  unfold Kp;rw[AC,v];simp only;rw[if_pos ⟨p,q,T⟩,JH]
 have ay:(t.nt==b0.nt)=true:=by simp[p]
 have ax:(t.B==b0.B)=true:=by simp[q]
 have a8:((Z t.A:Int) !=(Z b0.A:Int))=false:=by simp[T]
 have bb:AC (∃f,x.A[j]?=some f/\Z f.A=Z t.A):=⟨b0,v,T.symm⟩;clear p q T v;refine Z9 74 [.cell 6 110,.tmp 7] Tryz.func241 ?_;refine mr ?_
 refine Ae (λm s σ'=>∃(k:Nat) (y:AB) (o z:Nat) (g:oh),m=Z t.A-k/\k<=Z t.A/\s 1=ic j/\s 3=ptr d.B 0/\s 5=ptr (d.B+1) 0/\s 6=ptr (d.B+2) 0/\s 9=ic k/\AD d σ'/\d.B+3<σ'.B/\σ'.C d.B=[my y.o,my y.h.nt,str y.h.B,sl o (Z y.h.A) (y.h.A.map str),sl z (Z y.A) g]/\σ'.C (d.B+1)=[my t.nt,str t.B,sl it (Z t.A) (t.A.map str)]/\σ'.C (d.B+2)=[my false,my false,str [],nilS,nilS]/\AC (EL Bf y.A g/\y.fits/\(∃f,y.A[j]?=some f/\Z f.A=Z t.A)/\Kp x j t=Mb j (t.A.drop k) k y)) (Z t.A)
  ⟨0,x,ih,id,b,AA,AA,by simp[upd,AL],AG,AG,AG,AG,Xs,BJ,?_,?_,?_,V,X,bb.o,L.o⟩ ?_
 rw[Aj AA,Ah AM,Ah AM,Ah AM,Ao];rw[Aj AA,Ah AM,Ah AM,Be AM AM];rw[Aj AA,Ah AM,Be AM AM];clear ay ax a8 hd V ba N a7 M bb;rintro m s σ' ⟨k,y,o,z,g,rfl,hk,h1,h3,h5,h6,h9,E,a5,ap,ao,an,U⟩;have bd:=E.B;by_cases a6:k<Z t.A;obtain⟨C,P,⟨f,G,a9⟩,H⟩:=U.o;have ba:=EL.length A7 C;have N:=P.1;have a7:=(BA.1 G).1;obtain⟨ia,r,hd⟩:=Ca C G;have av:f.A[k]?=some (f.A[k]'AA):=AK AA;have bf:=A1 (l:=f.A) (k:=k) AA;generalize f.A[k]'AA=u at av bf;have aw:=AK a6;have bg:=A1 a6;generalize t.A[k]=a at aw bg;have a0:AC _:=zF aw G av;have bp:AC (∃f,y.A[j]?=some f/\Z f.A=Z t.A):=⟨f,G,a9⟩;have bo:AC (∃f,(Dj u a y).A[j]?=some f/\Z f.A=Z t.A):=⟨F8 u a f,by simp[Dj,G],by simp[F8,a9]⟩;have a3:AC _:=H;have bi:(k:Int)<(Z f.A:Int):=AA;have HY:AC _:=C;have O:AC _:=P;have a4:AJ y [my y.o,my y.h.nt,str y.h.B,sl o (Z y.h.A) (y.h.A.map str),sl z (Z y.A) g]:=⟨[my y.h.nt,str y.h.B,sl o (Z y.h.A) (y.h.A.map str)],z,g,⟨o,rfl⟩,C,rfl⟩;clear aw av G H C U;have R:=λd=>Cg u d;by_cases A:u=a;have au:(u==a)=true:=by simp[A]
 have I:AC (EL Bf y.A g/\y.fits/\(∃f,y.A[j]?=some f/\Z f.A=Z t.A)/\Kp x j t=Mb j (t.A.drop (k+1)) (k+1) y):=⟨HY.o,O.o,bp.o,by rw[a3.o,a0.o,if_pos A]⟩;clear A;refine mr ?_;refine⟨Z t.A-(k+1),AA,k+1,y,o,z,g,?_⟩;exact m9 I;have au:(u==a)=false:=nn A;cases W:Ab u with
 |false=>
  rw[W]at R;have I:AC (NC x j t y false):=⟨O.o,.inr ⟨rfl,by rw[a3.o,a0.o,if_neg A,if_neg (by simp[W])]⟩⟩;clear A;refine m0 ?_;intro yb ya;refine Xi (R _) ?_;rintro _ _ ⟨rfl,rfl⟩;refine mr ?_;exact⟨_,rfl,y,_,false,rfl,a4,I.o,E.put AA _⟩
 |true=>
  rw[W]at R;have I:AC (Kp x j t=Mb j (t.A.drop (k+1)) (k+1) (Dj u a y)):=by rw[AC,a3.o,a0.o,if_neg A,if_pos W]
  clear A;have bm:=λd=>dK y _ u a a4 O.o d;refine m0 ?_;intro yb ya;refine Xi (R _) ?_;rintro _ _ ⟨rfl,rfl⟩;refine mr ?_;refine A2 (Q:=λe D n=>e= .normal/\D 1=ic j/\D 3=ptr d.B 0/\D 5=ptr (d.B+1) 0/\D 6=ptr (d.B+2) 0/\D 9=ic k/\AD d n/\d.B+3<n.B/\n.C (d.B+1)=[my t.nt,str t.B,sl it (Z t.A) (t.A.map str)]/\n.C (d.B+2)=[my false,my false,str [],nilS,nilS]/\∃J K B,n.C d.B=[my ((Dj u a y).o),my ((Dj u a y).h.nt),str (Dj u a y).h.B,sl J (Z (Dj u a y).h.A) ((Dj u a y).h.A.map str),sl K (Z (Dj u a y).A) B]/\EL Bf (Dj u a y).A B) ?_ ?_;refine Ar Ag (λ_=>True) [8] [0,1,2,3,4,5,6] 2 (nv 9 127) AH (λ_ _ _ h=>by cases h.1) ?_;intro yb ya;refine Z3 ?_;refine ya.o _ ?_;clear ya yb;refine Ai (i:=7) AH ?_;refine Am ?_;intro yb ya;refine Z3 ?_;refine AF.mono (bm _) ?_;rintro _ Y ⟨c5,rfl,bh,S⟩;obtain⟨J,K,B,az,rfl⟩:=bh.cells;unfold A4;refine Z3 ?_;refine ya.o _ _ ⟨Al S,?_⟩;clear ya yb;have bc:=S.B;have ad:=S.C;have bq:Y.C d.B=[my y.o,my y.h.nt,str y.h.B,sl o (Z y.h.A) (y.h.A.map str),sl z (Z y.A) g]:=by rw[ad _ AA,ap]
  refine Ai (i:=8) AH ?_;refine Am ?_;intro yb ya;refine Z3 ?_;refine ya.o _ _ ⟨A3 rfl,?_⟩;clear ya yb;refine Aw AH ⟨rfl,?_⟩;simp only[upd,↓reduceIte,Nat.reduceEqDiff,h1,h3,h5,h6,h9,GM];refine⟨(E.trans S).put AA _,by simp only[Ac];omega,?_,?_,J,K,B,?_,az⟩;rw[Oh (show d.B<d.B+1 by omega),ad _ AA,ao];rw[Oh (show d.B<d.B+2 by omega),ad _ AA,an];rw[Ak];clear E a5 ap ao an bd;rintro e D n ⟨rfl,g1,g3,g5,g6,g9,E,a5,ao,an,J,K,B,ap,az⟩;have bn:AC (EL Bf (Dj u a y).A B/\(Dj u a y).fits/\(∃f,(Dj u a y).A[j]?=some f/\Z f.A=Z t.A)/\Kp x j t=Mb j (t.A.drop (k+1)) (k+1) (Dj u a y)):=⟨az,dP O.o,bo.o,I.o⟩;refine mr ?_;refine⟨Z t.A-(k+1),AA,k+1,Dj u a y,J,K,B,?_⟩;exact m9 bn
 have be:k=Z t.A:=AA;subst be;obtain⟨C,P,-,H⟩:=U.o;have HE:AJ y [my y.o,my y.h.nt,str y.h.B,sl o (Z y.h.A) (y.h.A.map str),sl z (Z y.A) g]:=⟨[my y.h.nt,str y.h.B,sl o (Z y.h.A) (y.h.A.map str)],z,g,⟨o,rfl⟩,C,rfl⟩;rw[IZ,Mb]at H;have HR:AC (NC x j t y true):=⟨P,.inl ⟨rfl,H⟩⟩;clear H U;refine mr ?_;exact⟨_,rfl,y,_,true,rfl,HE,HR.o,E.put AA _⟩;have L:AC (NC x j t x false):=⟨X,.inr ⟨rfl,by unfold Kp;rw[v];simp only;rw[if_neg F]⟩⟩;by_cases p:t.nt=b0.nt;have ay:(t.nt==b0.nt)=true:=by simp[p]
 by_cases q:t.B=b0.B;have ax:(t.B==b0.B)=true:=by simp[q]
 have a8:((Z t.A:Int) !=(Z b0.A:Int))=true:=by
  simp only[bne_iff_ne,ne_eq];intro h;exact F ⟨p,q,AA⟩
 clear F p q v;refine Z9 74 [.cell 6 110,.tmp 7] Tryz.func241 ?_;refine mr ?_;exact⟨_,rfl,x,_,false,rfl,M,L.o,Xs⟩;have ax:(t.B==b0.B)=false:=nn q;clear F p q v;refine Z9 74 [.cell 6 110,.tmp 7] Tryz.func241 ?_;refine mr ?_;exact⟨_,rfl,x,_,false,rfl,M,L.o,Xs⟩;have ay:(t.nt==b0.nt)=false:=nn p;clear F p v;refine Z9 74 [.cell 6 110,.tmp 7] Tryz.func241 ?_;refine mr ?_;exact⟨_,rfl,x,_,false,rfl,M,L.o,Xs⟩
end Go.Proofs.YtmoeoppbmhfbpabGreatDoorJ
