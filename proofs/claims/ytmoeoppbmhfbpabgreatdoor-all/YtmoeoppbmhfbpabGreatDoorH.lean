import Derived.Test.YtmoeoppbmhfbpabGreatDoorDb
import Derived.Test.YtmoeoppbmhfbpabGreatDoorF
set_option maxHeartbeats 32000000
set_option maxRecDepth 100000
set_option linter.all false
open List
open List renaming length->Z
namespace Go.Proofs.YtmoeoppbmhfbpabGreatDoorJ
open Go.Abs Tryz
def FA (q:AZ)(v:Int):Prop:=∃a∈atomsQ q,Bm a.ts v
def NE (q:AZ):Prop:=∀p∈q.A,p.A≠[]
def pA (q:AZ):Prop:=∀v,(Bm q.h.ts v\/∃a∈q.B,Bm a.ts v)->∃p∈q.A,Bm p.a.ts v
structure GP (neg:Int->Ck->Prop)(q q':AZ):Prop where
 hd:q'.h=q.h
 at_:∀a∈atomsQ q',a∈atomsQ q
 to:∀ν,Mq neg q ν->Mq neg q' ν
 back:∀ν,Mq neg q' ν->∃ν',Mq neg q ν'/\∀v,FA q' v->ν' v=ν v
def GP.refl (neg q):GP neg q q:=⟨rfl,λ_ h=>h,λ_ h=>h,λa h=>⟨a,h,λ_ _=>rfl⟩⟩
def FA.sub {q b v}(h:∀a∈atomsQ b,a∈atomsQ q)(d:FA b v):FA q v:=by let⟨a,c,e⟩:=d;exact⟨a,h a c,e⟩
def GP.trans {neg q f e}(h:GP neg q f)(g:GP neg f e):GP neg q e where
 hd:=g.hd.trans h.hd
 at_:=λa k=>h.at_ a (g.at_ a k)
 to:=λν b=>g.to ν (h.to ν b)
 back:=λν b=>by let⟨c,l,j⟩:=g.back ν b;let⟨d,h2,e2⟩:=h.back c l;exact⟨d,h2,λv i=>(e2 v (i.sub g.at_)).trans (j v i)⟩
def Lv {q p}(h:p∈q.A):p.a∈atomsQ q:=by grind[atomsQ]
def CF.red {neg q f}(h:CF q f)(e:WP q):GP neg q f:=
 ⟨h.atoms.2.1,λa d=>by exact h.atomsQ▸d,λc b=>(h.sol e c).2 b,λc b=>⟨c,(h.sol e c).1 b,λ_ _=>rfl⟩⟩
def Qi {q}:∀{vs:List Int} {n:Nat},Lb q n vs->(∀v∈vs,Dq q v->n=0/\Dt (q.A.map (·.a)) v≠1)/\∀v∈vs,∀w∈vs,Dq q v->Dq q w->v=w
 |[],n,_=>⟨(λv a=>gp),(λv a=>gp)⟩
 |u::vs,n,h=>by
  rw[Lb]at h;by_cases d:Dq q u=true;rw[if_pos d]at h;split at h;cases h;rename_i k;let⟨i,j⟩:=Qi h;have g:∀v∈vs,¬Dq q v:=λv a b=>gp
  refine⟨λv a b=>?_,λv a w c b f=>?_⟩;obtain rfl|a:=BD.1 a;exact⟨L,λe=>k (.inr e)⟩;cases (g v a) b;obtain l|a:=BD.1 a;obtain e2|c:=BD.1 c;rw[l,e2];cases (g w c) f;cases (g v a) b;rw[if_neg d]at h;let⟨i,j⟩:=Qi h;refine⟨λv a b=>?_,λv a w c b f=>?_⟩;obtain rfl|a:=BD.1 a;cases d b;exact i v a b;obtain rfl|a:=BD.1 a;cases d b;obtain rfl|c:=BD.1 c;cases d f;exact j v a w c b f
def Fp (l m v):Dt (l++m) v=Dt l v+Dt m v:=MI
def H2 (a l v):Dt (a::l) v=Dt l v+if Bm a.ts v=true then 1 else 0:=MJ
def wW {neg q}(C:WP q)(T:NE q)(U:NM q):GP neg q (F2 q)/\(∀p∈(F2 q).A,p∈q.A)/\(pA q->pA (F2 q)):=by
 obtain ab|⟨p,e,o,-,I,E,e2⟩:=exists_or_eq_self_of_eraseP (λp=>idleB q p.a) q.A;have:F2 q=q:=by rw[F2];rw[ab]
 rw[this];exact⟨GP.refl _ _,λp I=>I,λh=>h⟩;have s:(F2 q).A=e++o:=e2;have B:∀b∈(F2 q).A,b∈q.A:=λb i=>gp
 have z:p∈q.A:=gp
 let⟨a8,a5⟩:=Qi (vs:=Cs [p.a]) (n:=0) I;have F:∀v,Bm p.a.ts v->v∈Cs [p.a]:=λv c=>(Dn _ _).2 ⟨p.a,nk,AO.1 c⟩;have aw:∀v,Dt (atomsQ q) v=(if Bm q.h.ts v=true then 1 else 0)+Dt ((e++o).map (·.a)) v+(if Bm p.a.ts v=true then 1 else 0)+Dt q.B v:=λv=>by rw[atomsQ];rw[H2,Fp,E,EU,CC,Fp,H2,EU,Fp];omega
 have ap:∀v,Dt (q.A.map (·.a)) v=Dt ((e++o).map (·.a)) v+if Bm p.a.ts v=true then 1 else 0:=λv=>by rw[E,EU,CC,Fp,H2,EU,Fp];omega
 --a variable of the part that stands elsewhere is linked
 have x:∀v,Bm p.a.ts v->(Bm q.h.ts v\/(∃b∈e++o,Bm b.a.ts v)\/∃a∈q.B,Bm a.ts v)->Dq q v:=λv c h=>by rw[Dq];rw[aw v,if_pos c];obtain h|⟨b,f,t⟩|⟨a,f,t⟩:=h;rw[if_pos h,CV];omega;have:=N4 (l:=(e++o).map (·.a)) (AN.2 ⟨b,f,rfl⟩) t;rw[CV];omega;have:=N4 f t;rw[CV];omega
 have N:∀v,Bm p.a.ts v->Dq q v->∃b∈e++o,Bm b.a.ts v:=λv c y=>by have:=(a8 v (F v c) y).2;rw[ap v,if_pos c]at this;have h0:0<Dt ((e++o).map (·.a)) v:=L;let⟨a,d,m⟩:=MK.1 h0;grind
 have ak:∀a∈atomsQ (F2 q),a∈atomsQ q:=λa d=>by rw[atomsQ]at d⊢;simp only[BD,AW,AN]at d⊢;obtain h|⟨b,f,rfl⟩|h:=d;exact .inl h;exact .inr (.inl ⟨b,B b f,rfl⟩);exact .inr (.inr h)
 refine⟨⟨rfl,ak,λk h=>⟨λb i=>h.1 b (B b i),h.2⟩,λk h=>?_⟩,B,λa7 v c=>?_⟩
 --a tuple of the part that agrees with the rest
 have ao:∃g,B8 p.a g∈p.A/\∀v,Bm p.a.ts v->Dq q v->g v=k v:=by
  by_cases A:∃v,Bm p.a.ts v/\Dq q v=true;let⟨v,c,y⟩:=A;let⟨b,i,a1⟩:=N v c y;have D:b∈(F2 q).A:=s▸i
  have a0:=h.1 b D;let⟨ad,S,G⟩:=U v b (B b D) p z a1 c _ a0;rw[J5 (C b (B b D)).1 a1]at G;obtain⟨g,rfl⟩:=(C p z).2 ad S;rw[J5 (C p z).1 c]at G;refine⟨g,S,λw M Q=>?_⟩;have:=a5 w (F w M) v (F v c) Q y;exact this▸G;have aa:=T p z;let⟨ac,P⟩:=exists_mem_of_ne_nil _ aa;obtain⟨g,rfl⟩:=(C p z).2 ac P;exact⟨g,P,λw M Q=>absurd ⟨w,M,Q⟩ A⟩
 let⟨g,a3,a4⟩:=ao;let a2:Nu:=λv=>if Bm p.a.ts v=true then g v else k v;have R:∀a:Dx,(∀v,Bm a.ts v->Bm p.a.ts v->Dq q v)->B8 a a2=B8 a k:=λa d=>Ft λv c=>gp
 refine⟨a2,⟨λb i=>?_,λa d=>?_⟩,λv c=>?_⟩;rw[E]at i;have K:b=p\/b∈e++o:=gp
 obtain rfl|u:=K;rw[Ft (ν':=g) (λv c=>gp)];exact a3;rw[R b.a (λv c j=>x v j (.inr (.inl ⟨b,u,c⟩)))];exact h.1 b (s▸u);exact R a (λv c j=>x v j (.inr (.inr ⟨a,d,c⟩)))▸h.2 a d;show (if Bm p.a.ts v=true then g v else k v)=k v;by_cases j:Bm p.a.ts v=true;rw[if_pos j];apply a4 v j;let⟨a,d,m⟩:=c;rw[atomsQ]at d;simp only[BD,AW,AN]at d;obtain rfl|⟨b,f,rfl⟩|f:=d;exact x v j (.inl m);exact x v j (.inr (.inl ⟨b,gp,m⟩));exact x v j (.inr (.inr ⟨a,f,m⟩));rw[if_neg j];let⟨b,f,t⟩:=a7 v c;rw[E]at f;have K:b=p\/b∈e++o:=gp
 obtain rfl|u:=K
 have y:Dq q v:=x v t (by
  obtain h|⟨a,d,m⟩:=c;exact .inl h
  exact .inr (.inr ⟨a,d,m⟩))
 let⟨p2,a9,a6⟩:=N v t y;exact⟨p2,s▸a9,a6⟩;exact⟨b,s▸u,t⟩
def EA.red {neg q c}(h:EA q c)(k:WP q)(f:NE q)(t:NM q):GP neg q c/\(∀p∈c.A,p∈q.A)/\(pA q->pA c):=by
 induction h with
 |refl=>exact⟨GP.refl _ _,λp a=>a,λh=>h⟩
 |tail h i=>
  let⟨j,b,l⟩:=i;let⟨m,g,o⟩:=wW (neg:=neg) (λp a=>k p (b p a)) (λp a=>f p (b p a)) (λv e s d n=>t v e (b e s) d (b d n));exact⟨j.trans m,λp a=>b p (g p a),λh=>o (l h)⟩
def dG {neg q rs}(m:F1 (atomsQ q) rs rs){c d}(k:Mq neg (Bc q rs) c)(h2:Mq neg (Ip q rs) d):Mq neg q (λv=>if v∈rs then c v else d v):=by
 have i:∀a∈atomsQ q,J0 rs a->B8 a (λv=>if v∈rs then c v else d v)=B8 a c:=λa e b=>Ft λv f=>if_pos (m a e b v (AO.1 f));have j:∀a:Dx,J0 rs a=false->B8 a (λv=>if v∈rs then c v else d v)=B8 a d:=λa b=>Ft λv f=>if_neg λl=>by grind[J0]
 refine⟨λp g=>?_,λa e=>?_⟩;cases b:J0 rs p.a
 ·rw[j p.a b];exact h2.1 p (BP.2 ⟨g,ns b⟩)
 rw[i p.a (Lv g) b];exact k.1 p (BP.2 ⟨g,b⟩)
 cases b:J0 rs a
 ·rw[j a b];exact h2.2 a (BP.2 ⟨e,ns b⟩)
 rw[i a (by grind[atomsQ]) b];exact k.2 a (BP.2 ⟨e,b⟩)
def lD {neg q rs ν}(h:Mq neg q ν):Mq neg (Bc q rs) ν:=
 ⟨λp c=>h.1 p (BP.1 c).1,λa b=>h.2 a (BP.1 b).1⟩
def uV {neg q rs ν}(h:Mq neg q ν):Mq neg (Ip q rs) ν:=
 ⟨λp c=>h.1 p (BP.1 c).1,λa b=>h.2 a (BP.1 b).1⟩
def tN {neg q v ν}(e:WP q)(h:Mq neg q ν)(d:∃p∈q.A,Bm p.a.ts v):ν v∈Mo q v:=by
 rw[Mo];cases b:q.A.find? (λp=>Bm p.a.ts v)with
 |none=>
  let⟨p,a,c⟩:=d;rw[KB]at b;cases (b p a) c
 |some p=>
  have a:=ME b;have c:Bm p.a.ts v:=nn (find?_some b);simp only;rw[aL];rw[Vu];exact .inr ⟨_,h.1 p a,J5 (e p a).1 c⟩
def mZ:∀{l:List Part},(∀p∈l,p.A≠[]/\∀t∈p.A,∃μ,t=B8 p.a μ)->(∀v,Dt (l.map (·.a)) v<=1)->∃ν:Nu,∀p∈l,B8 p.a ν∈p.A
 |[],_,_=>⟨λ_=>0,λp k=>gp⟩
 |p::l,h,f=>by
  let⟨ν,c⟩:=mZ (l:=l) (λb a=>h b (ns a)) (λv=>by
   have:=f v;rw[CC,H2]at this
   omega)
  let⟨j,d⟩:=h p nk;let⟨t,g⟩:=exists_mem_of_ne_nil _ j;obtain⟨μ,rfl⟩:=d t g;refine⟨λv=>if Bm p.a.ts v=true then μ v else ν v,λb a=>?_⟩;obtain rfl|a:=BD.1 a;rw[Ft (ν':=μ) (λv e=>if_pos e)];exact g
  rw[Ft (ν':=ν) (λv e=>if_neg (λi=>by
   have:=f v;rw[CC,H2,if_pos i]at this;have:=N4 (l:=l.map (·.a)) (AN.2 ⟨b,a,rfl⟩) e
   omega))]
  exact c b a
end Go.Proofs.YtmoeoppbmhfbpabGreatDoorJ
namespace Go.Abs
section
variable {P:Program} {n:Nat} {Q:Ig} {F:Nat->Prop} {A:Nat->Bool} {σ0:St} {all:List Oper}
theorem Hv {a s b}(ts m k Lqx)(e:k=Z ts+m)(l:Region.noSelect all.toArray)(f:MU all A Lqx ts a)(i:∀c s b,¬Q (.panic c) s b)(j:σ0.B<=b.B)(g:∀o,o<σ0.B->F o->b.ver o=σ0.ver o)
  (h:∀K:Sl->Prop,V (∀d,Qs P n all Q F A b m Lqx d b->K d)->aT P n all F b K ts s):Qs P n all Q F A σ0 k a s b:=by subst e;exact tR j g (fN l i m Lqx ts a s f (h _ λ_ h=>h))
end
end Go.Abs
namespace Go.Proofs.YtmoeoppbmhfbpabGreatDoorJ
open Go.Abs Tryz
def AE.ext' {a b:AE}(d:a.nt=b.nt)(h2:a.B=b.B)(c:a.A=b.A):a=b:=by cases a;cases b;simp_all
def Ij (μ:Tx->Tx)(t:Tx):Tx:=if Ab t=true then μ t else t
def G3 (μ:Tx->Tx)(a:AE):AE:=⟨a.nt,a.B,a.A.map (Ij μ)⟩
def Rv (μ:Tx->Tx)(x:AB):AB:=⟨false,G3 μ x.h,x.A.map (G3 μ)⟩
def aI (a:AE):Prop:=∀t∈a.A,Ab t=false
theorem Cm {μ t}(h:Ab t=false):Ij μ t=t:=by grind[Ij]
theorem C1 {μ t}(h:Ab t):Ij μ t=μ t:=by grind[Ij]
def Kb {α:Type}{f}:∀{l:List α},(∀x∈l,f x=x)->l.map f=l
 |[],_=>rfl
 |a::l,h=>by rw[CC,h a nk,Kb λx b=>h x (ns b)]
theorem O6 {μ a}(h:aI a):G3 μ a=a:=AE.ext' rfl rfl (Kb λt b=>Cm (h t b))
def cmp (ν θ:Tx->Tx):Tx->Tx:=λu=>Ij ν (θ u)
def uO (ν θ u):Ij ν (Ij θ u)=Ij (cmp ν θ) u:=by
 cases h:Ab u
 ·rw[Cm h,Cm h,Cm h]
 rw[C1 h,C1 h];rfl
theorem O7 (ν θ a):G3 ν (G3 θ a)=G3 (cmp ν θ) a:=AE.ext' rfl rfl (by
 show (a.A.map (Ij θ)).map (Ij ν)=a.A.map (Ij (cmp ν θ));rw[BH]
 exact CG λu _=>uO ν θ u)
def zJ {μ ν a}(h:∀u∈a.A,Ab u->μ u=ν u):G3 μ a=G3 ν a:=AE.ext' rfl rfl (CG λu c=>by
 cases b:Ab u with
 |true=>rw[C1 b,C1 b,h u c b]
 |false=>rw[Cm b,Cm b])
def ZK (ν θ x):Rv ν (Rv θ x)=Rv (cmp ν θ) x:=by simp_all[Rv,O7,BH,CG]
def Qd (v t:Tx):Tx->Tx:=λu=>if u=v then t else u
def F8 (v t:Tx)(a:AE):AE:=⟨a.nt,a.B,a.A.map λu=>if u=v then t else u⟩
def Dj (v t:Tx)(x:AB):AB:=⟨false,F8 v t x.h,x.A.map (F8 v t)⟩
theorem vA {v t}(b:Ab v)(a):F8 v t a=G3 (Qd v t) a:=AE.ext' rfl rfl (CG λu _=>by
 cases h:Ab u with
 |true=>rw[C1 h];rfl
 |false=>rw[Cm h,if_neg (λe=>gp)])
def uZ {v t}(b:Ab v)(x):Dj v t x=Rv (Qd v t) x:=by simp_all[Dj,Rv,vA,CG]
def Mb (j:Nat):ol->Nat->AB->Option AB
 |[],_,x=>some x
 |a::c,k,x=>match (x.A[j]?).bind (λb=>b.A[k]?)with
  |none=>none
  |some t=>if t=a then Mb j c (k+1) x else if Ab t=true then Mb j c (k+1) (Dj t a x)else none
def Kp (x:AB)(j:Nat)(t:AE):Option AB:=match x.A[j]? with
 |none=>none
 |some b=>if t.nt=b.nt/\t.B=b.B/\Z t.A=Z b.A then Mb j t.A 0 x else none
def Th (θ:Tx->Tx):Prop:=∀u,Ab u->θ u=u\/Ab (θ u)=false
def KN (μ:Tx->Tx)(j k:Nat)(c:ol)(x:AB):Prop:=∃b,x.A[j]?=some b/\∀(i:Nat) (a:Tx),c[i]?=some a->∃t,b.A[k+i]?=some t/\Ij μ t=a
def f8 {x}(h:x.o=false):Rv (λu=>u) x=x:=by
 have c:∀t,Ij (λu=>u) t=t:=λt=>by grind[Ij]
 have b:∀a,G3 (λu=>u) a=a:=λa=>AE.ext' rfl rfl (Kb λt _=>c t);rw[Rv];rw[b,Kb λa _=>b a];cases x;simp_all
def YW {μ t a u}(b:Ab a=false)(c:μ t=a)(d:Ab u):cmp μ (Qd t a) u=μ u:=by grind[cmp,Qd,Cm,C1]
def KN.put {μ j k f x t a}(h:KN μ j k (a::f) x)(q:Ab t)(o:Ab a=false)(l:μ t=a):KN μ j (k+1) f (Rv (Qd t a) x):=by
 let⟨b,n,h⟩:=h;refine⟨G3 (Qd t a) b,by grind[Rv],λi g m=>?_⟩;let⟨d,p,e⟩:=h (i+1) g (nn m);refine⟨Ij (Qd t a) d,?_,?_⟩;show (b.A.map (Ij (Qd t a)))[k+1+i]?=_;rw[DC,show k+1+i=k+(i+1)by omega,p];rfl;rw[uO];cases c:Ab d with
 |true=>rw[C1 c,YW o l c,<-e,C1 c]
 |false=>rw[Cm c,<-e,Cm c]
def KN.tail {μ j k c x a}(h:KN μ j k (a::c) x):KN μ j (k+1) c x:=by let⟨b,e,h⟩:=h;refine⟨b,e,λi d m=>?_⟩;let⟨f,l,g⟩:=h (i+1) d (nn m);grind
def iF (j):∀(c:ol) (k:Nat) (x y:AB),Mb j c k x=some y->x.o=false->(∀a∈c,Ab a=false)->
  ∃θ,Th θ/\y=Rv θ x/\(∀(i:Nat) (a:Tx),c[i]?=some a->∃b,y.A[j]?=some b/\b.A[k+i]?=some a)/\∀μ,KN μ j k c x->∀u,Ab u->Ij μ (θ u)=μ u
 |[],k,x,y,h,A,_=>by cases h;exact⟨λu=>u,λu _=>.inl rfl,(f8 A).symm,λi a h=>gp,λμ _ u f=>C1 f⟩
 |a::c,k,x,y,h,A,D=>by
  have d:=D a nk;have C:∀a∈c,Ab a=false:=λb l=>D b (ns l);rw[Mb]at h;cases l:x.A[j]? with
  |none=>rw[l]at h;cases h
  |some b=>
   rw[l]at h;cases o:b.A[k]? with
   |none=>simp[o]at h
   |some t=>
    simp only[FU,o]at h;split at h;rename_i e;subst e;let⟨θ,z,n,v,B⟩:=iF j c (k+1) x y h A C;refine⟨θ,z,n,λi s g=>?_,λμ p=>B μ p.tail⟩;cases i with
    |zero=>
     simp at g;subst g;exact⟨G3 θ b,by grind[Rv],by show (b.A.map (Ij θ))[k+0]?=_;rw[DC,GZ,o,GJ,Cm d]⟩
    |succ i=>
     let⟨q,m,e2⟩:=v i s (nn g);exact⟨q,m,gp⟩
    split at h;rename_i K;rw[uZ K]at h;let⟨θ,z,n,v,B⟩:=iF j c (k+1) _ y h rfl C;refine⟨cmp θ (Qd t a),λu f=>?_,by rw[n,ZK],λi s g=>?_,λμ p u f=>?_⟩;rw[cmp,Qd];split;exact .inr (by grind[Cm]);exact C1 f▸z u f;cases i with
    |zero=>
     simp at g;subst g;refine⟨G3 θ (G3 (Qd t a) b),by grind[Rv],?_⟩;show ((b.A.map (Ij (Qd t a))).map (Ij θ))[k+0]?=_;rw[DC,DC,GZ,o,GJ,GJ,C1 K];have:Qd t a t=a:=by simp[Qd]
     rw[this,Cm d]
    |succ i=>
     let⟨q,m,e2⟩:=v i s (nn g);exact⟨q,m,gp⟩
    have F:μ t=a:=by let⟨q,E,G⟩:=p;rw[l]at E;cases E;let⟨I,m,e2⟩:=G 0 a nk;rw[GZ,o]at m;cases m;rw[C1 K]at e2;exact e2
    have M:=p.put K d F;rw[cmp,Qd];split;rename_i e;subst e;rw[Cm d,Cm d,F];exact C1 f▸B μ M u f;cases h
def Tt (j):∀(c:ol) (k:Nat) (x:AB) (μ:Tx->Tx),KN μ j k c x->(∀a∈c,Ab a=false)->∃y,Mb j c k x=some y
 |[],k,x,μ,_,_=>⟨x,rfl⟩
 |a::c,k,x,μ,e,g=>by
  have o:=g a nk;have l:∀a∈c,Ab a=false:=λb f=>g b (ns f);let⟨b,f,n⟩:=id e;let⟨t,i,e2⟩:=n 0 a nk;rw[GZ]at i;rw[Mb];rw[f];simp only[FU,i];split;exact Tt j c (k+1) x μ e.tail l;rename_i m;cases d:Ab t
  ·rw[Cm d]at e2;cases m e2
  rw[if_pos rfl,uZ d];rw[C1 d]at e2;exact Tt j c (k+1) _ μ (e.put d o e2) l
def Vj {x j t y}(h:Kp x j t=some y)(n:x.o=false)(o:aI t):∃b,x.A[j]?=some b/\∃θ,Th θ/\y=Rv θ x/\y.A[j]?=some t/\∀μ,G3 μ b=t->∀u,Ab u->Ij μ (θ u)=μ u:=by
 rw[Kp]at h;split at h;cases h;rename_i b d;split at h;rename_i m;let⟨l,q,B⟩:=m;let⟨θ,v,k,s,z⟩:=iF j _ _ _ _ h n o;refine⟨b,d,θ,v,k,?_,λμ p=>z μ ⟨b,d,λi a c=>?_⟩⟩;have f:y.A[j]?=some (G3 θ b):=by grind[Rv]
 rw[f];congr 1;refine AE.ext' l.symm q.symm (FL λi=>?_);by_cases c:i<Z t.A;let⟨A,g,e2⟩:=s i _ (AK c);rw[f]at g;cases g;rw[DY]at e2;rw[e2,AK c];rw[FD (by show Z (b.A.map (Ij θ))<=i;rw[BV];omega),FD L];rw[DY];subst p;have e:i<Z b.A:=gp
 refine⟨b.A[i],AK e,?_⟩;have:(b.A.map (Ij μ))[i]?=some a:=c;rw[DC,AK e,GJ]at this;exact Gf this;cases h
def zE {x j t b μ}(e:x.A[j]?=some b)(k:G3 μ b=t)(f:aI t):∃y,Kp x j t=some y:=by
 rw[Kp];rw[e];subst k;simp only;rw[if_pos ⟨rfl,rfl,by simp[G3]⟩];refine Tt j _ _ _ μ ⟨b,e,λi a c=>?_⟩ f;have c:(b.A.map (Ij μ))[i]?=some a:=c;grind
def Pt (fz:Bool)(a:AE):Bool:=fz||!a.nt
def wT (a:AE):AE:=⟨false,a.B,a.A⟩
def U1 (fz:Bool)(A:oq)(x:AB)(h:AE):Prop:=∃b,(∀a∈x.A,Pt fz a->G3 b a∈A)/\(∀a∈x.A,Pt fz a=false->wT (G3 b a)∉A)/\h=G3 b x.h
def Tj {α:Type}{l:List α}{i j a}(h:l[i]?=some a)(c:i≠j):a∈l.eraseIdx j:=by rw[eraseIdx_eq_take_drop_succ];obtain b|b:=Nat.lt_or_gt_of_ne c;exact GK _ (AY (i:=i) (gp));exact LI _ (AY (i:=i-(j+1)) (gp))
def lC {fz A x h}(K:∀a∈A,aI a)(E:x.o=false){j b}(p:x.A[j]?=some b)(F:Pt fz b):
  U1 fz A x h↔∃t∈A,∃y,Kp x j t=some y/\U1 fz A (C8 y j) h:=by
 constructor;rintro⟨k,q,z,rfl⟩;have g:=q b (AY p) F;let⟨y,s⟩:=zE (μ:=k) p rfl (K _ g);refine⟨_,g,y,s,k,?_⟩;obtain⟨I,n,c,-,rfl,-,N⟩:=Vj s E (K _ g);rw[p]at n;cases n;have B:∀a,G3 k (G3 c a)=G3 k a:=λa=>by rw[O7];exact zJ λu _ M=>N k rfl u M
 have D:∀a∈(C8 (Rv c x) j).A,∃f∈x.A,a=G3 c f:=λa d=>by have:=EE d;obtain⟨f,l,rfl⟩:=AN.1 this;grind
 refine⟨λa d e=>?_,λa d e=>?_,(B _).symm⟩;obtain⟨f,l,rfl⟩:=D a d;rw[B];exact q f l e;obtain⟨f,l,rfl⟩:=D a d;rw[B];exact z f l e;rintro⟨t,g,y,s,G,q,z,rfl⟩;obtain⟨I,n,c,-,rfl,C,-⟩:=Vj s E (K _ g);rw[p]at n;cases n;refine⟨cmp G c,λa d e=>?_,λa d e=>?_,by rw[<-O7];rfl⟩;let⟨i,o⟩:=CL d;have v:(Rv c x).A[i]?=some (G3 c a):=by grind[Rv]
 rw[<-O7];by_cases m:i=j;subst m;rw[v]at C;cases C;rw[O6 (K _ g)];exact g;exact q _ (Tj v m) e;let⟨i,o⟩:=CL d;have v:(Rv c x).A[i]?=some (G3 c a):=by grind[Rv]
 rw[<-O7];by_cases m:i=j;subst m;rw[p]at o;cases o;rw[F]at e;cases e;exact z _ (Tj v m) e
def tD (fz:Bool)(x:AB):Prop:=∀v,Ab v->(v∈x.h.A\/∃a∈x.A,Pt fz a=false/\v∈a.A)->∃a∈x.A,Pt fz a/\v∈a.A
def PZ {θ}(f:Th θ){d:ol}{v}(c:Ab v)(h:v∈d.map (Ij θ)):v∈d/\θ v=v:=by
 obtain⟨u,g,e⟩:=AN.1 h;cases a:Ab u
 ·rw[Cm a]at e;subst e;rw[c]at a;cases a
 rw[C1 a]at e;rcases f u a with b|b;rw[b]at e;subst e;exact⟨g,b⟩;rw[e,c]at b;cases b
def VH {fz x y j t}(A:tD fz x)(B:x.o=false)(p:aI t)(C:Kp x j t=some y):tD fz (C8 y j):=by
 obtain⟨b,F,d,m,rfl,G,-⟩:=Vj C B p;intro v c h;have n:d v=v/\(v∈x.h.A\/∃a∈x.A,Pt fz a=false/\v∈a.A):=by
  obtain h|⟨a,f,l,h⟩:=h;let⟨k,g⟩:=PZ m c h;exact⟨g,.inl k⟩;obtain⟨s,u,rfl⟩:=AN.1 (EE f);let⟨k,g⟩:=PZ m c h;exact⟨g,.inr ⟨s,u,l,k⟩⟩
 let⟨a,f,l,E⟩:=A v c n.2;let⟨i,D⟩:=CL f;have o:(Rv d x).A[i]?=some (G3 d a):=by grind[Rv]
 have q:v∈(G3 d a).A:=AN.2 ⟨v,E,by grind[C1]⟩;have z:i≠j:=λe=>by subst e;rw[o]at G;cases G;have:=p v q;grind
 exact⟨_,Tj o z,l,q⟩
def lH {fz x}(g:tD fz x)(f:∀a∈x.A,Pt fz a=false):aI x.h/\∀a∈x.A,aI a:=by
 have:∀v,Ab v->¬(v∈x.h.A\/∃a∈x.A,Pt fz a=false/\v∈a.A):=λv b h=>by
  obtain⟨a,c,e,-⟩:=g v b h;rw[f a c]at e;cases e
 refine⟨λt d=>?_,λa c t d=>?_⟩<;>grind
theorem lE {fz A x h}(i:tD fz x)(d:∀a∈x.A,Pt fz a=false):U1 fz A x h↔(∀a∈x.A,wT a∉A)/\h=x.h:=by let⟨g,e⟩:=lH i d;constructor;rintro⟨j,-,c,rfl⟩;exact⟨λa b=>by simp_all[O6],O6 g⟩;rintro⟨c,rfl⟩;exact⟨λu=>u,λa b f=>(gp),λa b _=>by simp_all[O6],(O6 g).symm⟩
def XJ {fz A x h}(l:∀a∈A,aI a)(c:tD fz x)(g:U1 fz A x h):aI h:=by
 obtain⟨m,k,-,rfl⟩:=g;intro t f;obtain⟨u,e,rfl⟩:=AN.1 f;cases b:Ab u
 ·rw[Cm b];exact b
 obtain⟨a,i,j,d⟩:=c u b (.inl e);exact l _ (k a i j) _ (AN.2 ⟨u,d,rfl⟩)
def VD {fz A x h}(b:aI x.h)(a:U1 fz A x h):h=x.h:=by obtain⟨c,-,-,rfl⟩:=a;exact O6 b
def Clean (t:Tx):Prop:=(∀b∈t,b≠(33:UInt8)/\b≠44/\b≠46)/\Z t<=1000
def DX (a:AE):Prop:=Clean a.B/\(∀t∈a.A,Clean t)/\Z a.A<=1000
def iQ (x:AB):Prop:=x.o=false/\DX x.h/\∀a∈x.A,DX a
def Ls (a:AE):Tx:=(if a.nt=true then [33]else [])++(a.B++a.A.flatMap λt=>44::t)
def Fb (x:AB):Tx:=(x.h::x.A).flatMap λa=>Ls a++[46]
def Wz {c}:∀{u v g s:Tx},c∉u->c∉v->u++c::g=v++c::s->u=v/\g=s
 |[],[],g,s,_,_,h=>nn h
 |[],b::v,g,s,_,a,h=>gp
 |b::u,[],g,s,e,_,h=>gp
 |b::u,d::v,g,s,e,a,h=>by simp at h e a;let⟨f,e2⟩:=Wz e.2 a.2 h.2;grind
def cT:∀{a b:ol} {p q:Tx},(44:UInt8)∉p->(44:UInt8)∉q->(∀t∈a,(44:UInt8)∉t)->(∀t∈b,(44:UInt8)∉t)->p++(a.flatMap λt=>44::t)=q++(b.flatMap λt=>44::t)->p=q/\a=b
 |[],[],p,q,_,_,_,_,h=>nn h
 |[],u::b,p,q,e,_,_,_,h=>gp
 |t::a,[],p,q,_,c,_,_,h=>gp
 |t::a,u::b,p,q,e,c,g,f,h=>by simp only[DN,EW]at h;let⟨i,e2⟩:=Wz e c h;let⟨j,k⟩:=cT (g t nk) (f u nk) (λx d=>g x (ns d)) (λx d=>f x (ns d)) e2;grind
def Clean.no44 {t}(h:Clean t):(44:UInt8)∉t:=λa=>(h.1 _ a).2.1 rfl
def Clean.no33 {t}(h:Clean t):(33:UInt8)∉t:=λa=>(h.1 _ a).1 rfl
def Clean.no46 {t}(h:Clean t):(46:UInt8)∉t:=λa=>(h.1 _ a).2.2 rfl
def DX.tail33 {a}(h:DX a):(33:UInt8)∉a.B++a.A.flatMap λt=>44::t:=by intro e;obtain c|c:=AW.1 e;exact h.1.no33 c;let⟨t,f,d⟩:=EX.1 c;obtain b|b:=BD.1 d;exact absurd b nr;exact (h.2.1 t f).no33 b
def DX.seg46 {a}(h:DX a):(46:UInt8)∉Ls a:=by intro d;rw[Ls]at d;obtain b|b:=AW.1 d;split at b;simp at b;simp at b;obtain b|b:=AW.1 b;exact h.1.no46 b;let⟨t,f,e⟩:=EX.1 b;obtain c|c:=BD.1 e;exact absurd c nr;exact (h.2.1 t f).no46 c
def XK {a b}(g:DX a)(f:DX b)(h:Ls a=Ls b):a=b:=by
 have d:a.nt=b.nt/\a.B++(a.A.flatMap λt=>44::t)=b.B++(b.A.flatMap λt=>44::t):=by
  unfold Ls at h;cases e:a.nt
  ·cases c:b.nt with
   |false=>rw[e,c]at h;simpa using h
   |true=>
    rw[e,c]at h;simp only[if_true,EI,if_false,FE,EW]at h;cases g.tail33 (gp)
  cases c:b.nt with
  |true=>rw[e,c]at h;simpa using h
  |false=>
   rw[e,c]at h;simp only[if_true,EI,if_false,FE,EW]at h;cases f.tail33 (gp)
 let⟨j,e2⟩:=cT g.1.no44 f.1.no44 (λt i=>(g.2.1 t i).no44) (λt i=>(f.2.1 t i).no44) d.2;exact AE.ext' d.1 j e2
def nL:∀{l m:oq},(∀a∈l,DX a)->(∀a∈m,DX a)->(l.flatMap λa=>Ls a++[46])=(m.flatMap λa=>Ls a++[46])->l=m
 |[],[],_,_,_=>rfl
 |[],b::m,_,_,h=>jx
 |a::l,[],_,_,h=>jx
 |a::l,b::m,e,d,h=>by simp only[DN,CR,singleton_append]at h;let⟨f,e2⟩:=Wz (e a nk).seg46 (d b nk).seg46 h;rw[XK (e a nk) (d b nk) f,nL (λx c=>e x (ns c)) (λx c=>d x (ns c)) e2]
theorem Ru {x y}(c:iQ x)(d:iQ y)(h:Fb x=Fb y):x=y:=by
 have:=nL (l:=x.h::x.A) (m:=y.h::y.A) (λa b=>by
  obtain rfl|b:=BD.1 b;exact c.2.1
  exact c.2.2 a b) (λa b=>by
  obtain rfl|b:=BD.1 b;exact d.2.1
  exact d.2.2 a b) h
 have e:=c.1;have f:=d.1;cases x;cases y;simp_all
def YP {x y j t}(q:iQ x)(v:DX t)(s:aI t)(c:Kp x j t=some y):iQ (C8 y j):=by
 have p:∀(g:ol) (k:Nat) (x y:AB),iQ x->(∀a∈g,Clean a)->Mb j g k x=some y->iQ y:=by
  intro g;induction g with
  |nil=>intro k x y h _ e;cases e;exact h
  |cons a g o=>
   intro k x y h d e;rw[Mb]at e;split at e;cases e;split at e;exact o _ _ _ h (λb f=>d b (ns f)) e;split at e;refine o _ _ _ ⟨rfl,?_,?_⟩ (λb f=>d b (ns f)) e;refine⟨h.2.1.1,λu l=>?_,by show Z (x.h.A.map _)<=1000;rw[BV];exact h.2.1.2.2⟩;obtain⟨w,m,rfl⟩:=AN.1 l;split;exact d a nk;exact h.2.1.2.1 w m;intro b f;obtain⟨i,n,rfl⟩:=AN.1 f;refine⟨(h.2.2 i n).1,λu l=>?_,by show Z (i.A.map _)<=1000;rw[BV];exact (h.2.2 i n).2.2⟩;obtain⟨w,m,rfl⟩:=AN.1 l;split;exact d a nk;exact (h.2.2 i n).2.1 w m;cases e
 rw[Kp]at c;split at c;cases c;split at c;have:=p _ _ _ _ q v.2.1 c;exact⟨rfl,this.2.1,λa d=>this.2.2 a (EE d)⟩;cases c
def CM (fz:Bool)(A a:oq)(x:AB):Prop:=∀h,U1 fz A x h->h∈A\/h∈a
def CM.mono {fz A e b x}(h:CM fz A e x)(c:∀a∈e,a∈b):CM fz A b x:=λa d=>(h a d).imp id (c a)
def CI (fz:Bool)(A a:oq)(mo:Int)(S:Tx->Prop)(m:Nat):Prop:=∀y,iQ y->Z y.A<=m->S (Fb y)->(Z a:Int)<=mo->CM fz A a y
structure aE (fz:Bool)(A:oq)(mo:Int)(x:AB)(Oqx:oq)(S:Tx->Prop)(O':oq)(S':Tx->Prop):Prop where
 ext:∃nw,O'=Oqx++nw/\∀h∈nw,U1 fz A x h/\h∉A
 nd:O'.Nodup
 len:(Z O':Int)<=mo+1
 done:(Z O':Int)<=mo->CM fz A O' x
 seen:CI fz A O' mo S' (Z x.A)
 sub:∀s,S s->S' s
 new:∀y,iQ y->S' (Fb y)->S (Fb y)\/Z y.A<=Z x.A
def CI.mono {fz A p e mo S f m b}(h:CI fz A p mo S m)(k:∃c,e=p++c)(o:b<=m)(i:∀y,iQ y->Z y.A<=b->f (Fb y)->S (Fb y)):CI fz A e mo f b:=λy d g n l=>by obtain⟨c,rfl⟩:=k;exact (h y d L (i y d g n) (gp)).mono λa j=>GK _ j
def Tk {fz A f mo x S}(b:f.Nodup)(a:(Z f:Int)<=mo+1)(c:CI fz A f mo S (Z x.A))(h:(Z f:Int)<=mo->CM fz A f x):aE fz A mo x f S f S:=
 ⟨⟨[],nk,λh d=>gp⟩,b,a,h,c,λ_ h=>h,λy e h=>.inl h⟩
def VG {fz A n c mo x S}(i:iQ x)(k:CI fz A n mo S (Z x.A))(m:∃d,c=n++d)(j:(Z c:Int)<=mo->CM fz A c x):CI fz A c mo (λs=>S s\/s=Fb x) (Z x.A):=λy e g b f=>by obtain b|b:=b;obtain⟨d,rfl⟩:=m;exact (k y e g b (gp)).mono λa l=>GK _ l;exact Ru e i b▸j f
def eL {fz A e f mo x S}(j:iQ x)(d:e.Nodup)(k:(Z e:Int)<=mo)(t:CI fz A e mo S (Z x.A))(p:tD fz x)(o:∀a∈x.A,Pt fz a=false)
  (n:x.h∉A/\x.h∉e) (g:((∀a∈x.A,wT a∉A)/\f=e++[x.h])\/(¬(∀a∈x.A,wT a∉A)/\f=e)):aE fz A mo x e S f (λs=>S s\/s=Fb x):=by
 have v:∃q,f=e++q:=by
  obtain⟨-,rfl⟩|⟨-,rfl⟩:=g;exact⟨_,rfl⟩;exact⟨[],nk⟩
 have l:CM fz A f x:=λh c=>by rw[lE p o]at c;grind
 refine⟨?_,?_,?_,λ_=>l,VG j t v λ_=>l,λ_ h=>.inl h,λy z h=>?_⟩;obtain⟨i,rfl⟩|⟨-,rfl⟩:=g
 exact⟨_,rfl,λh c=>by simp_all[FY,lE]⟩
 exact⟨[],nk,λh c=>gp⟩;obtain⟨-,rfl⟩|⟨-,rfl⟩:=g;rw[IP];exact⟨d,nk,λa u b m=>gp⟩;exact d;obtain⟨-,rfl⟩|⟨-,rfl⟩:=g;simp;omega;omega;obtain h|h:=h;exact .inl h;rw[Ru z j h];exact .inr (AU _)
structure N9 (fz:Bool)(A:oq)(mo:Int)(x:AB)(j:Nat)(Oqx:oq)(S:Tx->Prop)(k:Nat)(O':oq)(S':Tx->Prop):Prop where
 ext:∃nw,O'=Oqx++nw/\∀h∈nw,U1 fz A x h/\h∉A
 nd:O'.Nodup
 len:(Z O':Int)<=mo+1
 done:(Z O':Int)<=mo->∀t∈A.take k,∀y,Kp x j t=some y->CM fz A O' (C8 y j)
 seen:CI fz A O' mo S' (Z x.A-1)
 sub:∀s,S s\/s=Fb x->S' s
 new:∀y,iQ y->S' (Fb y)->S (Fb y)\/y=x\/Z y.A<=Z x.A-1
def rM {fz A m mo x j S}(e:iQ x)(l:0<Z x.A)(c:m.Nodup)(a:(Z m:Int)<=mo+1)(g:CI fz A m mo S (Z x.A)):N9 fz A mo x j m S 0 m (λs=>S s\/s=Fb x):=
 ⟨⟨[],nk,λh i=>gp⟩,c,a,λ_ t f=>gp,
  g.mono ⟨[],nk⟩ L (λy d k b=>by grind[Ru]),
  λ_ h=>h,λy d h=>by grind[Ru]⟩
def yD {fz A mo x j m S k c d}(h:N9 fz A mo x j m S k c d){t}(g:A[k]?=some t)(l:Kp x j t=none):N9 fz A mo x j m S (k+1) c d:=
 ⟨h.ext,h.nd,h.len,λf i e y b=>(by
  rw[AT,g]at e;obtain a|a:=AW.1 e;exact h.done f i a y b;grind),h.seen,h.sub,h.new⟩
def yC {fz A mo x j b Q S k p q}(T:∀a∈A,aI a)(I:x.o=false)(Lqx:x.A[j]?=some b)(M:Pt fz b)
  (h:N9 fz A mo x j Q S k p q){t} (o:A[k]?=some t){y} (n:Kp x j t=some y){R u} (g:aE fz A mo (C8 y j) p q R u) (Jqx:Z (C8 y j).A=Z x.A-1):N9 fz A mo x j Q S (k+1) R u:=by
 let⟨v,D,G⟩:=h.ext;let⟨N,e2,K⟩:=g.ext;have P:=AY o;refine⟨⟨v++N,gp,λa d=>?_⟩,g.nd,g.len,λf E m B i=>?_,Jqx▸g.seen,λs e=>g.sub s (h.sub s e),λz l e=>?_⟩;obtain c|c:=AW.1 d;exact G a c;let⟨F,C⟩:=K a c;exact⟨(lC T I Lqx M).2 ⟨t,P,y,n,F⟩,C⟩;rw[AT,o]at m;obtain c|c:=AW.1 m;exact (h.done (gp) E c B i).mono λa d=>e2▸GK _ d
 simp at c;subst c;rw[n]at i;cases i;exact g.done f;obtain c|c:=g.new z l e;exact h.new z l c;exact .inr (.inr L)
def WC {fz A mo x j b C S k n}(B:∀a∈A,aI a)(q:iQ x)(v:x.A[j]?=some b)(z:Pt fz b)(u:CI fz A C mo S (Z x.A))
  (h:N9 fz A mo x j C S (Z A) k n):aE fz A mo x C S k n:=by
 have m:(Z k:Int)<=mo->CM fz A k x:=λi a l=>by
  let⟨t,D,y,g,d⟩:=(lC B q.1 v z).1 l;exact h.done i t (AS▸D) y g a d
 let⟨o,e,f⟩:=h.ext;refine⟨⟨o,e,f⟩,h.nd,h.len,m,λy g p d i=>?_,λs d=>h.sub s (.inl d),λy g d=>?_⟩;obtain c|c|c:=h.new y g d;exact (u y g p c (gp)).mono λa l=>e▸GK _ l
 exact c▸m i;exact h.seen y g c d i;obtain c|c|c:=h.new y g d;exact .inl c;rw[c];exact .inr (AU _);exact .inr L
def IC {a b}:J7 a b↔a=b:=⟨λ⟨e,c,d⟩=>AE.ext' e c d,λh=>by subst h;exact⟨rfl,rfl,rfl⟩⟩
def Kh (a:AE):Nat:=a.A.countP Ab
def EP {a}:Kh a=0↔aI a:=by grind[Kh,aI]
def eF (a):Kh a<=Z a.A:=countP_le_length
def M9 (a m)(p:Bf a m)(A:Z a.A<=1000)(b):ni 237 [ag m] b λq σ'=>q=Y (Kh a:Nat)/\W b σ':=by
 obtain⟨l,rfl⟩:=p;apply wl func237;refine X ?_
 refine wn [1] 4 (Z a.A) (λi s σ'=>∃n:Nat,s 3=Y n/\W b σ'/\b.B<σ'.B/\σ'.C b.B=[my a.nt,O a.B,lw l a.A]/\n<=i/\V (n=(a.A.take i).countP Ab)) ⟨0,AG,Xs,by simp[Aa],Ao,L,by simp[V]⟩ ?_
 rintro i s σ' _ _ _ ⟨n,z,g,u,y,v,c⟩;by_cases j:i<Z a.A
 ·have f:=AK j;have o:=A1 j;generalize a.A[i]=t at o f;have e:V ((a.A.take (i+1)).countP Ab=(a.A.take i).countP Ab+(if Ab t=true then 1 else 0)):=by
   rw[V,AT,f];simp[MI,MJ]
  have d:=λb=>Cg t b;cases k:Ab t with
  |true=>
   rw[k]at d e;refine m0 ?_;intro yb ya;apply Xi (d _);rintro _ _ ⟨rfl,rfl⟩;refine X ?_;refine⟨n+1,?_⟩
   ((repeat' refine Zi ?_ ?_)<;>first|exact Xq|exact (by rw[V,e.o,<-c.o];simp)|exact Xs)
  |false=>
   rw[k]at d e;refine m0 ?_;intro yb ya;apply Xi (d _);rintro _ _ ⟨rfl,rfl⟩;refine X ?_;refine⟨n,?_⟩
   ((repeat' refine Zi ?_ ?_)<;>first|exact Xq|exact (by rw[V,e.o,<-c.o];simp)|exact Xs)
 obtain rfl:i=Z a.A:=L;have c:=c.o;rw[AS]at c;obtain rfl:n=Kh a:=c;refine X ?_
 exact⟨_,rfl,rfl⟩
def Gt (m cs id a K)(p:r Bf m cs)(t:Bf a K)(C:Z m<=1000)(y:∀b∈m,Z b.A<=1000)(c):ni 154 [sl id (Z m) cs,ag K] c λE σ'=>∃b,E=my b/\(b=true↔a∈m)/\W c σ':=by
 by_cases f:a∈m;refine (iW m cs id a K p t C y ⟨a,f,rfl,rfl,rfl⟩ c).mono λE σ' h=>⟨true,h.1,ns f,h.2⟩;obtain⟨n,rfl⟩:=t;have P:=r.length A7 p;have z:=λb d e c=>dI b a [my b.nt,O b.B,lw d b.A] _ ⟨d,rfl⟩ ⟨n,rfl⟩ (y b e) c;have v:V _:=f;clear f;refine wl func154 ?_;refine X ?_
 refine wn [0,3] 5 (Z m) (λi s σ'=>W c σ'/\c.B<σ'.B/\σ'.C c.B=[my a.nt,O a.B,lw n a.A]) ⟨Xs,by simp[Aa],Ao⟩ ?_
 rintro i s σ' _ ⟨_,u⟩ _ ⟨j,F,M⟩;have I:=j.B;by_cases q:i<Z m;obtain⟨b,o⟩:=gq q;obtain⟨d,E,D⟩:=Ca p o;have g:=λc=>z b d (AY o) c;have l:¬J7 b a:=λh=>v.o (by rw[<-IC.1 h];exact (AY o));clear o;have g:∀c,ni 196 [ag [my b.nt,O b.B,lw d b.A],ag [my a.nt,O a.B,lw n a.A]] c λE σ'=>E=my false/\W c σ':=λc=>(g c).mono λE σ' ⟨x,B,A,u⟩=>by
  have:x=false:=by
   cases x
   ·rfl
   exact absurd (A.1 rfl) l
  subst this;exact⟨B,u⟩
 clear l;refine X ?_;refine Ax Ag (λ_=>True) [5] [0,1,2,3,4] [5] AH (λ_ _ _ h=>h) ?_;intro yb ya;refine mz ?_;refine Xi (g _) ?_;rintro _ _ ⟨rfl,k⟩;have G:=k.C;have N:=k.B;refine X ?_;skip;exact m9 (j.trans k);refine X ?_;have e:(false↔a∈m):=⟨λh=>(by cases h),λh=>absurd h v.o⟩
 exact⟨_,rfl,false,rfl,e⟩
def fX (a F v t)(A:Bf a F)(R:Z a.A<=1000)(m):ni 263 [ag F,O v,O t] m λI σ'=>∃c,I=ag c/\Bf (F8 v t a) c/\W m σ':=by
 obtain⟨D,rfl⟩:=A;refine wl func263 ?_;refine X ?_
 refine wn [1,2,3,6,7] 8 (Z a.A) (λi s σ'=>∃(g:Nat) (d:oh),W m σ'/\m.B+2<σ'.B/\σ'.C m.B=[my a.nt,O a.B,lw D a.A]/\σ'.C (m.B+1)=[my false,O [],H]/\σ'.C (m.B+2)=[my a.nt,O a.B,sl g i d]/\J m σ' g i/\Z d=i*1/\V (d=((a.A.take i).map λu=>if u=v then t else u).map O)) ⟨1,[],Xs,BJ,?_,?_,?_,J.nil _ _,nk,by simp[V]⟩ ?_
 ·rw[Aj L,Ah AM,Ah AM,Ao]
 ·rw[Aj L,Ah AM,Be AM AM]
 ·rw[Ak]
 rintro i s σ' _ _ _ ⟨g,d,q,U,N,S,M,K,T,f⟩;by_cases p:i<Z a.A
 ·have o:=AK p;have E:=A1 p;generalize a.A[i]=u at E o;have j:V (((a.A.take (i+1)).map λu=>if u=v then t else u).map O=((a.A.take i).map λu=>if u=v then t else u).map O++[O (if u=v then t else u)]):=by
   rw[V,AT,o];simp
  clear o;by_cases e:u=v
  ·have x:(u==v)=true:=by simp[e]
   rw[if_pos e]at j;clear e;refine m5 ?_;intro yb ya;intro b n l k y B z G;refine X ?_;refine⟨b,d++[O t],?_⟩
   ((repeat' refine Zi ?_ ?_)<;>first|exact Xq|exact (k.put L _)|exact (J.put l _ _)|exact (by rw[V,j.o,f.o])|exact Xs)
  have x:(u==v)=false:=nn e;rw[if_neg e]at j;clear e;refine m5 ?_;intro yb ya;intro b n l k y B z G;refine X ?_;refine⟨b,d++[O u],?_⟩
  ((repeat' refine Zi ?_ ?_)<;>first|exact Xq|exact (k.put L _)|exact (J.put l _ _)|exact (by rw[V,j.o,f.o])|exact Xs)
 obtain rfl:i=Z a.A:=L;have f:=f.o;rw[AS]at f;subst f;have C:Bf (F8 v t a) [my a.nt,O a.B,sl g (Z a.A) ((a.A.map λu=>if u=v then t else u).map O)]:=⟨g,by simp[F8]⟩;refine X ?_;exact⟨_,rfl,_,rfl,C,q.put L _⟩
def Pn (a j v t)(e:Z a.A<=1000)(g):ni 263 [ag [my a.nt,O a.B,lw j a.A],O v,O t] g λk σ'=>∃i,k=ag [my a.nt,O a.B,sl i (Z a.A) ((F8 v t a).A.map O)]/\W g σ':=
 (fX a _ v t ⟨j,rfl⟩ e g).mono λk σ' ⟨c,f,⟨i,b⟩,d⟩=>⟨i,by grind[F8],d⟩
def dK (x c v t)(hc:AJ x c)(F:x.fits)(d):ni 236 [ag c,O v,O t] d λP σ'=>∃n,P=ag n/\AJ (Dj v t x) n/\W d σ':=by
 obtain⟨A,id,b,N,rfl⟩:=hc.cells;have be:=r.length A7 N;have af:=F.1;have z:=λd=>Pn x.h A v t F.2.1 d;unfold A4;refine wl func236 ?_;refine mt z ?_;rintro yb ya _ _ ⟨g,rfl,B⟩;have av:=B.B;have E:=B.C;simp only[Aa]at av E;refine X ?_;rename_i f;have T:f.C d.B=(ko x A id b):=by rw[E _ L,Ah AM,Ao]
 have S:f.C (d.B+1)=[my false,my false,O [],H,H]:=by rw[E _ L,Be AM AM]
 have bc:W d f:=(((W.refl d).new _).new _).trans B;clear E B
 refine wn [1,2,3,6,7] 8 (Z x.A) (λi a7 σ'=>∃(u:Nat) (k:oh),W d σ'/\f.B<σ'.B/\σ'.C d.B=(ko x A id b)/\σ'.C (d.B+1)=[my false,my false,O [],H,H]/\σ'.C f.B=[my false,my x.h.nt,O x.h.B,sl g (Z x.h.A) ((F8 v t x.h).A.map O),sl u i k]/\J d σ' u i/\Z k=i*3/\V (r Bf ((x.A.take i).map (F8 v t)) k)) ⟨1,[],Xs,BJ,?_,?_,?_,J.nil _ _,nk,by simp[V,r]⟩ ?_
 ·rw[Aj L,Ah L,T]
 ·rw[Aj L,Ah L,S]
 ·rw[Ak]
 clear T S bc z;rintro i a7 σ' _ ⟨h1,h2,h3,h6,h7⟩ h8 ⟨u,k,y,U,K,m,a0,G,a1,C⟩;have a6:=y.B;by_cases a3:i<Z x.A
 ·obtain⟨w,D⟩:=gq a3;obtain⟨ia,P,hd⟩:=Ca N D;have a2:=F.2.2 _ (AY D);have HG:V ((x.A.take (i+1)).map (F8 v t)=(x.A.take i).map (F8 v t)++[F8 v t w]):=by
   rw[V,AT,D];simp
  clear D;have a9:=λd=>Pn w ia v t a2 d;have bd:V _:=C;have aw:V _:=a1;refine X ?_;refine A2 (Q:=λe q a=>e= .normal/\q 1=O v/\q 2=O t/\q 3=ptr d.B 0/\q 6=ptr (d.B+1) 0/\q 7=ptr f.B 0/\q 8=Y i/\W d a/\f.B<a.B/\a.C d.B=(ko x A id b)/\a.C (d.B+1)=[my false,my false,O [],H,H]/\∃j n,a.C f.B=[my false,my x.h.nt,O x.h.B,sl g (Z x.h.A) ((F8 v t x.h).A.map O),sl j (i+1) (k++n)]/\J d a j (i+1)/\Bf (F8 v t w) n) ?_ ?_
  ·refine bT [13] [0,1,2,3,4,5,6,7,8] 5 (nv 14 511) ?_;refine tn 9 a9 ?_;rintro yb ya _ ae ⟨ij,rfl,l⟩;refine ux ?_;have a5:=l.B;have au:=l.C;have bb:=y.trans l;have ba:=J.keep G l;refine rl 10 ?_;refine Ai (i:=11) AH ?_;refine Am ?_;intro yb ya;refine Z3 ?_;refine hZ bb ?_;intro j ac a4 ak ad ab M aa;refine Z3 ?_;refine ya.o _ _ ⟨λ_ o I _=>by rw[M];exact l.ver o I,?_⟩;clear ya yb;refine Ai (i:=12) AH ?_;refine Am ?_;intro yb ya;refine Z3 ?_;refine ya.o _ _ ⟨λ_ o I _=>by rw[M];exact l.ver o I,?_⟩;clear ya yb;have s:∀p,p<σ'.B->ac.C p=σ'.C p:=λp hp=>by rw[ad,au _ L]
   refine rl 13 ?_;refine Aw AH ⟨rfl,?_⟩;simp only[upd,↓reduceIte,Nat.reduceEqDiff,h1,h2,h3,h6,h7,h8,GM];refine⟨ak.put L _,by simp only[Ac];omega,?_,?_,j,_,?_,J.put a4 _ _,⟨ij,by simp[F8];rfl⟩⟩
   ·rw[Aj L,s _ L,K]
   ·rw[Aj L,s _ L,m]
   rw[Ak];simp[F8]
  rintro e q a ⟨rfl,g1,g2,g3,g6,g7,g8,y,U,K,m,j,n,a0,G,R⟩;have HX:V (r Bf ((x.A.take (i+1)).map (F8 v t)) (k++n)):=by rw[V,HG.o];exact r.append bd.o (r.single R)
  have a8:=A7 _ _ R;refine X ?_;refine⟨j,k++n,?_⟩
  ((repeat' refine Zi ?_ ?_)<;>first|exact Xq|exact HX|exact (by rw[AX,a8,aw.o];omega)|exact Xs)
 obtain rfl:i=Z x.A:=L;rw[AS]at C
 have HE:AJ (Dj v t x) [my false,my x.h.nt,O x.h.B,sl g (Z x.h.A) ((F8 v t x.h).A.map O),sl u (Z x.A) k]:=
  ⟨[my x.h.nt,O x.h.B,sl g (Z x.h.A) ((F8 v t x.h).A.map O)],u,k,⟨g,by simp[Dj,F8]⟩,C.o,by simp[Dj]⟩
 refine X ?_;exact⟨_,rfl,_,rfl,HE,y.put L _⟩
def dP {v t x}(h:x.fits):(Dj v t x).fits:=
 ⟨by simp only[Dj,BV];exact h.1,by simp only[Dj,F8,BV];exact h.2.1,λa d=>by
  obtain⟨b,c,rfl⟩:=AN.1 d
  simp only[F8,BV];exact h.2.2 b c⟩
def zF {j k}{c:ol}{a u y b}(d:c[k]?=some a)(e:y.A[j]?=some b)(i:b.A[k]?=some u):Mb j (c.drop k) k y=if u=a then Mb j (c.drop (k+1)) (k+1) y else if Ab u=true then Mb j (c.drop (k+1)) (k+1) (Dj u a y)else none:=by have g:=(BA.1 d).1;have f:=(BA.1 d).2;rw[ET g,f,Mb,e];grind
def NC (x:AB)(j:Nat)(t:AE)(y:AB)(ok:Bool):Prop:=y.fits/\((ok=true/\Kp x j t=some y)\/(ok=false/\Kp x j t=none))
def fV (x c)(j:Nat)(t ct b)(hc:AJ x c)(ht:Bf t ct)(aa:x.fits)(v:x.A[j]?=some b)(br:Z t.A<=1000)(d):ni 241 [ag c,Y j,ag ct] d λab σ'=>∃y cy ok,ab=tp [ag cy,my ok]/\AJ y cy/\NC x j t y ok/\W d σ':=by
 have M:=hc;obtain⟨ih,id,ai,S,rfl⟩:=hc.cells;obtain⟨it,rfl⟩:=ht;have ba:=r.length A7 S;have ac:=aa.1;let⟨ia,ab,hd⟩:=Ca S v;have a7:=(BA.1 v).1;unfold A4;unfold A4 at M;by_cases F:t.nt=b.nt/\t.B=b.B/\Z t.A=Z b.A;obtain⟨p,q,T⟩:=F;have m:V (Kp x j t=Mb j (t.A.drop 0) 0 x):=by
  unfold Kp;rw[V,v];simp only;rw[if_pos ⟨p,q,T⟩,JH]
 have ay:(t.nt==b.nt)=true:=by simp[p]
 have ax:(t.B==b.B)=true:=by simp[q]
 have a8:((Z t.A:Int) !=(Z b.A:Int))=false:=by simp[T]
 have bb:V (∃f,x.A[j]?=some f/\Z f.A=Z t.A):=⟨b,v,T.symm⟩;clear p q T v;refine Z9 74 [.cell 6 110,.tmp 7] func241 ?_;refine X ?_
 refine Ae (λaf s σ'=>∃(k:Nat) (y:AB) (o z:Nat) (g:oh),af=Z t.A-k/\k<=Z t.A/\s 1=Y j/\s 3=ptr d.B 0/\s 5=ptr (d.B+1) 0/\s 6=ptr (d.B+2) 0/\s 9=Y k/\W d σ'/\d.B+3<σ'.B/\σ'.C d.B=(ko y o z g)/\σ'.C (d.B+1)=[my t.nt,O t.B,lw it t.A]/\σ'.C (d.B+2)=[my false,my false,O [],H,H]/\V (r Bf y.A g/\y.fits/\(∃f,y.A[j]?=some f/\Z f.A=Z t.A)/\Kp x j t=Mb j (t.A.drop k) k y)) (Z t.A)
  ⟨0,x,ih,id,ai,L,L,by simp[upd,AL],AG,AG,AG,AG,Xs,BJ,?_,?_,?_,S,aa,bb.o,m.o⟩ ?_
 rw[Aj L,Ah AM,Ah AM,Ah AM,Ao];rw[Aj L,Ah AM,Ah AM,Be AM AM];rw[Aj L,Ah AM,Be AM AM];clear ay ax a8 hd S ba ac a7 M bb;rintro af s σ' ⟨k,y,o,z,g,rfl,hk,h1,h3,h5,h6,h9,E,a5,ap,ao,an,U⟩;have bd:=E.B;by_cases a6:k<Z t.A;obtain⟨C,P,⟨f,G,a9⟩,e⟩:=U.o;have ba:=r.length A7 C;have ac:=P.1;have a7:=(BA.1 G).1;obtain⟨ia,ab,hd⟩:=Ca C G;have av:f.A[k]?=some (f.A[k]'L):=AK L;have bf:=A1 (l:=f.A) (k:=k) L;generalize f.A[k]'L=u at av bf;have aw:=AK a6;have bg:=A1 a6;generalize t.A[k]=a at aw bg;have a0:V _:=zF aw G av;have bp:V (∃f,y.A[j]?=some f/\Z f.A=Z t.A):=⟨f,G,a9⟩;have bo:V (∃f,(Dj u a y).A[j]?=some f/\Z f.A=Z t.A):=⟨F8 u a f,by simp[Dj,G],by simp[F8,a9]⟩;have a3:V _:=e;have bi:(k:Int)<(Z f.A:Int):=L;have HY:V _:=C;have N:V _:=P;have a4:AJ y (ko y o z g):=⟨[my y.h.nt,O y.h.B,lw o y.h.A],z,g,⟨o,rfl⟩,C,rfl⟩;clear aw av G e C U;have R:=λd=>Cg u d;by_cases A:u=a;have au:(u==a)=true:=by simp[A]
 have I:V (r Bf y.A g/\y.fits/\(∃f,y.A[j]?=some f/\Z f.A=Z t.A)/\Kp x j t=Mb j (t.A.drop (k+1)) (k+1) y):=⟨HY.o,N.o,bp.o,by rw[a3.o,a0.o,if_pos A]⟩;clear A;refine X ?_;refine⟨Z t.A-(k+1),L,k+1,y,o,z,g,?_⟩;exact m9 I;have au:(u==a)=false:=nn A;cases a1:Ab u with
 |false=>
  rw[a1]at R;have I:V (NC x j t y false):=⟨N.o,.inr ⟨rfl,by rw[a3.o,a0.o,if_neg A,if_neg (by simp[a1])]⟩⟩;clear A;refine m0 ?_;intro yb ya;refine Xi (R _) ?_;rintro _ _ ⟨rfl,rfl⟩;refine X ?_;exact⟨_,rfl,y,_,false,rfl,a4,I.o,E.put L _⟩
 |true=>
  rw[a1]at R;have I:V (Kp x j t=Mb j (t.A.drop (k+1)) (k+1) (Dj u a y)):=by rw[V,a3.o,a0.o,if_neg A,if_pos a1]
  clear A;have bm:=λd=>dK y _ u a a4 N.o d;refine mt R ?_;rintro yb ya _ _ ⟨rfl,rfl⟩;refine X ?_;refine A2 (Q:=λae D n=>ae= .normal/\D 1=Y j/\D 3=ptr d.B 0/\D 5=ptr (d.B+1) 0/\D 6=ptr (d.B+2) 0/\D 9=Y k/\W d n/\d.B+3<n.B/\n.C (d.B+1)=[my t.nt,O t.B,lw it t.A]/\n.C (d.B+2)=[my false,my false,O [],H,H]/\∃i K B,n.C d.B=[my ((Dj u a y).o),my ((Dj u a y).h.nt),O (Dj u a y).h.B,sl i (Z (Dj u a y).h.A) ((Dj u a y).h.A.map O),sl K (Z (Dj u a y).A) B]/\r Bf (Dj u a y).A B) ?_ ?_;refine bT [8] [0,1,2,3,4,5,6] 2 (nv 9 127) ?_;refine tn 7 bm ?_;rintro yb ya _ ah ⟨c5,rfl,bh,a2⟩;obtain⟨i,K,B,az,rfl⟩:=bh.cells;unfold A4;refine ux ?_;have bc:=a2.B;have ad:=a2.C;have bq:ah.C d.B=(ko y o z g):=by rw[ad _ L,ap]
  refine rl 8 ?_;refine Aw AH ⟨rfl,?_⟩;simp only[upd,↓reduceIte,Nat.reduceEqDiff,h1,h3,h5,h6,h9,GM];refine⟨(E.trans a2).put L _,by simp only[Ac];omega,?_,?_,i,K,B,?_,az⟩;rw[Oh (show d.B<d.B+1 by omega),ad _ L,ao];rw[Oh (show d.B<d.B+2 by omega),ad _ L,an];rw[Ak];clear E a5 ap ao an bd;rintro ae D n ⟨rfl,g1,g3,g5,g6,g9,E,a5,ao,an,i,K,B,ap,az⟩;have bn:V (r Bf (Dj u a y).A B/\(Dj u a y).fits/\(∃f,(Dj u a y).A[j]?=some f/\Z f.A=Z t.A)/\Kp x j t=Mb j (t.A.drop (k+1)) (k+1) (Dj u a y)):=⟨az,dP N.o,bo.o,I.o⟩;refine X ?_;refine⟨Z t.A-(k+1),L,k+1,Dj u a y,i,K,B,?_⟩;exact m9 bn
 obtain rfl:k=Z t.A:=L;obtain⟨C,P,-,e⟩:=U.o;have HE:AJ y (ko y o z g):=⟨[my y.h.nt,O y.h.B,lw o y.h.A],z,g,⟨o,rfl⟩,C,rfl⟩;rw[IZ,Mb]at e;have HR:V (NC x j t y true):=⟨P,.inl ⟨rfl,e⟩⟩;clear e U;refine X ?_;exact⟨_,rfl,y,_,true,rfl,HE,HR.o,E.put L _⟩;have m:V (NC x j t x false):=⟨aa,.inr ⟨rfl,by unfold Kp;rw[v];simp only;rw[if_neg F]⟩⟩;by_cases p:t.nt=b.nt;have ay:(t.nt==b.nt):=ns p
 by_cases q:t.B=b.B;have ax:(t.B==b.B):=ns q
 have a8:((Z t.A:Int) !=(Z b.A:Int)):=by
  simp only[bne_iff_ne,ne_eq];intro h;exact F ⟨p,q,L⟩
 clear F p q v;refine wl func241 ?_;refine X ?_;exact⟨_,rfl,x,_,false,rfl,M,m.o,Xs⟩;have ax:(t.B==b.B)=false:=nn q;refine wl func241 ?_;refine X ?_;exact⟨_,rfl,x,_,false,rfl,M,m.o,Xs⟩;have ay:(t.nt==b.nt)=false:=nn p;refine wl func241 ?_;refine X ?_;exact⟨_,rfl,x,_,false,rfl,M,m.o,Xs⟩
def OW (fz:Bool)(x:AB)(n:Int):Prop:=(n= -1/\∀a∈x.A,Pt fz a=false)\/∃(j:Nat) (b:AE),n=j/\x.A[j]?=some b/\Pt fz b
def EM (fz:Bool)(x:AB)(i:Nat)(n:Int):Prop:=(n= -1/\∀a∈x.A.take i,Pt fz a=false)\/∃(j:Nat) (b:AE),n=j/\j<i/\x.A[j]?=some b/\Pt fz b
def EM.skip {fz x i n w}(h:EM fz x i n)(g:x.A[i]?=some w)(k:Pt fz w=false):EM fz x (i+1) n:=by obtain⟨d,f⟩|⟨j,b,d,f,l,m⟩:=h;refine .inl ⟨d,λa e=>?_⟩;rw[AT,g]at e;obtain c|c:=AW.1 e;exact f a c;simp at c;subst c;exact k;exact .inr ⟨j,b,d,L,l,m⟩
def qM (x c fz)(hc:AJ x c)(S:x.fits)(d):ni 239 [ag c,my fz] d λac z=>∃n,ac=Y n/\OW fz x n/\W d z:=by
 obtain⟨T,id,b,a2,rfl⟩:=hc.cells;have bb:=r.length A7 a2;have af:=S.1;unfold A4;refine Z9 43 [.tmp 4] func239 ?_;refine mu ?_
 refine wn [1,2] 6 (Z x.A) (λi s z=>∃n:Int,s 5=Y n/\W d z/\d.B<z.B/\z.C d.B=(ko x T id b)/\V (EM fz x i n)) ⟨-1,AG,Xs,AM,Ao,.inl ⟨rfl,λae ha=>by simp at ha⟩⟩ ?_
 rintro i s z _ ⟨p,u⟩ R ⟨n,y,E,au,ab,P⟩;have a8:=E.B;by_cases av:i<Z x.A;have I:=AK av;obtain⟨ia,ac,hd⟩:=Ca a2 I;have aa:=S.2.2 _ (AR av);generalize x.A[i]=w at hd I aa;cases q:Pt fz w with
 |false=>
  have a:V (EM fz x (i+1) n):=P.o.skip I q;have t:w.nt=true:=by unfold Pt at q;simp at q;exact q.2
  have m:fz=false:=by unfold Pt at q;simp at q;exact q.1
  subst m;clear I q;refine mu ?_;refine⟨n,?_⟩;exact m9 a
 |true=>
  have a:V (EM fz x (i+1) (i:Nat)):=.inr ⟨i,w,rfl,L,I,q⟩;have ap:w.nt=false\/(w.nt=true/\fz=true):=by
   unfold Pt at q;cases hw:w.nt with
   |false=>exact .inl rfl
   |true=>rw[hw]at q;simp at q;exact .inr ⟨rfl,q⟩
  clear q;have ax:V (EM fz x (i+1) n\/n= -1):=by
   rcases P.o with⟨p,u⟩|⟨j,b,p,u,o,U⟩;exact .inr p;exact .inl (.inr ⟨j,b,p,L,o,U⟩)
  have M:=λd=>M9 w _ ⟨ia,rfl⟩ aa d;have a3:=eF w;generalize Kh w=A at M a3;clear I;have ah:n= -1\/∃(j:Nat) (N:AE),n=j/\x.A[j]?=some N:=by
   rcases P.o with⟨p,u⟩|⟨j,b,p,u,o,U⟩;exact .inl p;exact .inr ⟨j,b,p,o⟩
  rcases ah with a0|⟨j,N,az,aj⟩;subst a0;have a6:decide ((-1:Int)<0)=true:=nr;rcases ap with t|⟨t,m⟩
  
  refine mu ?_;refine A2 (Q:=λe f g=>e= .normal/\f 40=my true/\f 1=s 1/\f 2=s 2/\f 5=s 5/\f 6=s 6/\g=z) ?_ ?_;refine bT [] [0,1,2,3,4,5,6,7,9,10,11,12,13] 4 (nv 17 16127) ?_;refine rl 8 ?_;refine rl 14 ?_;refine vk [15,16] ?_;refine⟨rfl,?_⟩;simp[upd];rintro e f g ⟨rfl,k,D,F,G,C,rfl⟩;rw[p]at D;rw[u]at F;rw[y]at G;rw[R]at C;refine Cj k ?_;refine mu ?_;refine⟨(i:Nat),?_⟩;exact m9 a;subst m;refine mu ?_;refine A2 (Q:=λe f g=>e= .normal/\f 40=my true/\f 1=s 1/\f 2=s 2/\f 5=s 5/\f 6=s 6/\g=z) ?_ ?_;refine bT [] [0,1,2,3,4,5,6,7,9,10,11,12,13] 4 (nv 17 16127) ?_;refine rl 8 ?_;refine rl 14 ?_;refine vk [15,16] ?_;refine⟨rfl,?_⟩;simp[upd];rintro e f g ⟨rfl,k,D,F,G,C,rfl⟩;rw[p]at D;rw[u]at F;rw[y]at G;rw[R]at C;refine Cj k ?_;refine mu ?_;refine⟨(i:Nat),?_⟩;exact m9 a;subst az;have a9:=(BA.1 aj).1;let⟨ja,r2,ba⟩:=Ca a2 aj;have a7:=S.2.2 _ (AY aj);have a1:=λd=>M9 N _ ⟨ja,rfl⟩ a7 d;have a4:=eF N;generalize Kh N=B at a1 a4;have aw:V (EM fz x (i+1) (j:Nat)):=by
   obtain h|h:=ax.o;exact h;omega
  clear ax aj;have a6:decide ((j:Int)<0)=false:=nk;obtain t|⟨t,m⟩:=ap
  
  rw[t]at M;refine mu ?_;refine A2 (Q:=λe f g=>e= .normal/\f 40=my (decide ((A:Int)<B))/\f 1=s 1/\f 2=s 2/\f 5=s 5/\f 6=s 6/\W z g) ?_ ?_;refine bT [] [0,1,2,3,4,5,6,7,9,10,11,12,13] 4 (nv 17 16127) ?_;refine tn 8 M ?_;rintro yb ya _ d5 ⟨rfl,a5⟩;refine ux ?_;refine tn 14 a1 ?_;rintro yb ya _ d6 ⟨rfl,l⟩;refine ux ?_;refine vk [15,16] ?_;refine⟨rfl,?_⟩;simp[upd,a5.trans l];rintro e f g ⟨rfl,k,D,F,G,C,l⟩;rw[p]at D;rw[u]at F;rw[y]at G;rw[R]at C;have ak:=l.B;have K:=l.C;have ay:g.C d.B=(ko x T id b):=by rw[K _ au,ab]
  clear K;by_cases v:(A:Int)<B;rw[show decide ((A:Int)<B)=true from by simpa using v]at k;refine Cj k ?_;refine mu ?_;refine⟨(i:Nat),?_⟩;exact nf a (E.trans l);rw[show decide ((A:Int)<B)=false from by simpa using v]at k;refine De k ?_;refine mu ?_;refine⟨(j:Nat),?_⟩;exact nf aw (E.trans l);subst m;rw[t]at M;refine mu ?_;refine A2 (Q:=λe f g=>e= .normal/\f 40=my (decide ((A:Int)<B))/\f 1=s 1/\f 2=s 2/\f 5=s 5/\f 6=s 6/\W z g) ?_ ?_;refine bT [] [0,1,2,3,4,5,6,7,9,10,11,12,13] 4 (nv 17 16127) ?_;refine tn 8 M ?_;rintro yb ya _ d5 ⟨rfl,a5⟩;refine ux ?_;refine tn 14 a1 ?_;rintro yb ya _ d6 ⟨rfl,l⟩;refine ux ?_;refine vk [15,16] ?_;refine⟨rfl,?_⟩;simp[upd,a5.trans l];rintro e f g ⟨rfl,k,D,F,G,C,l⟩;rw[p]at D;rw[u]at F;rw[y]at G;rw[R]at C;have ak:=l.B;have K:=l.C;have ay:g.C d.B=(ko x T id b):=by rw[K _ au,ab]
  clear K;by_cases v:(A:Int)<B;rw[show decide ((A:Int)<B)=true from by simpa using v]at k;refine Cj k ?_;refine mu ?_;refine⟨(i:Nat),?_⟩;exact nf a (E.trans l);rw[show decide ((A:Int)<B)=false from by simpa using v]at k;refine De k ?_;refine mu ?_;refine⟨(j:Nat),?_⟩;exact nf aw (E.trans l)
 obtain rfl:i=Z x.A:=L;have ad:OW fz x n:=by
  obtain⟨p,u⟩|⟨j,b,p,u,o,U⟩:=P.o;rw[AS]at u;exact .inl ⟨p,u⟩;exact .inr ⟨j,b,p,o,U⟩
 refine mu ?_
 exact⟨_,rfl,n,rfl,ad⟩
def VF {a}(h:DX a):Z (Ls a)<=1100000:=by
 have j:=h.1.2;have i:=h.2.2;have d:∀b:ol,(∀t∈b,Clean t)->Z (b.flatMap λt=>(44:UInt8)::t)<=Z b*1001:=by
  intro b;induction b with
  |nil=>intro _;simp
  |cons t b e=>
   intro c;have k:=e (λu f=>c u (ns f));have e2:=(c t nk).2;simp only[DN,AX,BQ];omega
 have g:=d a.A h.2.1;rw[Ls];grind
def Qh (x:AB)(i:Nat):Tx:=((x.h::x.A).take i).flatMap λa=>Ls a++[46]
def eH {x i w}(h:(x.h::x.A)[i]?=some w):Qh x (i+1)=Qh x i++(Ls w++[46]):=by simp_all[Qh,AT,KC]
def xG (x c)(hc:AJ x c)(ab:iQ x)(ah:Z x.A<=1000)(d):ni 264 [ag c] d λad f=>ad=O (Fb x)/\W d f:=by
 obtain⟨I,id,b,hb,rfl⟩:=hc.cells;have a5:=r.length A7 hb;have a8:({data:=#[33]}:ByteArray)=bs [33]:=rfl;have a7:({data:=#[44]}:ByteArray)=bs [44]:=rfl;have a6:({data:=#[46]}:ByteArray)=bs [46]:=rfl;unfold A4;refine wl func264 ?_;refine mu ?_
 refine Ae (λm s f=>∃(i:Nat) (n:Int) (e:Tx),m=Z x.A+1-i/\i<=Z x.A+1/\n=(i:Int)-1/\s 1=ptr d.B 0/\s 3=O e/\s 4=Y n/\W d f/\d.B<f.B/\f.C d.B=(ko x I id b)/\Z e<=i*1100001/\V (e=Qh x i)) (Z x.A+1)
  ⟨0,-1,[],L,L,L,AG,AG,AG,Xs,AM,Ao,nk,by simp[V,Qh]⟩ ?_
 rintro m s v ⟨i,n,e,rfl,hi,hn,F,E,G,q,y,A,z,j⟩;have D:=q.B;by_cases l:i<Z x.A+1;have U:V _:=j.o;clear j;have a4:decide (n<(Z x.A:Int)):=by simp;omega
 have az:n<=(i:Int)-1/\(i:Int)-1<=n:=L;clear hn;by_cases a9:i=0;have K:decide ((0:Int)<=n)=false:=by simp;omega
 have M:decide (n>=0)=false:=K;have T:V (Qh x (i+1)=Qh x i++(Ls x.h++[46])):=eH (by rw[a9];rfl);have B:=ab.2.1;have ax:=B.1.2;have N:=B.2.2;clear a9;cases u:x.h.nt with
 |true=>
  refine mu ?_
  refine Ae (λm s f=>∃(k:Nat) (a:Tx),m=Z x.h.A-k/\k<=Z x.h.A/\s 1=ptr d.B 0/\s 3=O a/\s 4=Y n/\s 5=ptr v.B 0/\s 6=Y k/\W d f/\v.B<f.B/\f.C d.B=(ko x I id b)/\f.C v.B=[my x.h.nt,O x.h.B,lw I x.h.A]/\Z a<=i*1100001+1001+k*1001/\V (a=(e++[33]++x.h.B)++(x.h.A.take k).flatMap λt=>44::t)) (Z x.h.A)
   ⟨0,(e++[33]++x.h.B),L,L,AI,AG,AI,AG,AG,Xs,BJ,by simp (disch:=omega) only[Aj,Ah,Aa,A,u],by simp only[Ak,u],by simp only[AX,BQ,CQ];omega,by simp[V]⟩ ?_
  have R:=y;clear F E G A y q D z K M;rintro m s f ⟨k,a,rfl,a1,F,E,G,P,a2,q,y,A,Q,z,j⟩;have D:=q.B;by_cases l:k<Z x.h.A;have g:=AK l;have C:=A1 l;have S:=(B.2.1 _ (AR l)).2;generalize x.h.A[k]=t at C g S;have p:V ((a++[44])++t=(e++[33]++x.h.B)++(x.h.A.take (k+1)).flatMap λt=>44::t):=by
   rw[V,AT,g,KC,j.o];simp
  have o:Z ((a++[44])++t)<=i*1100001+1001+(k+1)*1001:=by simp only[AX,BQ,CQ];omega
  clear g;refine mu ?_;refine⟨Z x.h.A-(k+1),L,k+1,(a++[44])++t,?_⟩;exact nf p o;obtain rfl:k=Z x.h.A:=L;have p:V (a++[46]=Qh x (i+1)):=by
   rw[V,T.o,j.o,AS,<-U.o];simp[Ls,u]
  have aa:Z a<=i*1100001+1100000:=BI z (by rw[ID];exact JJ (BI (JJ (GW 1001 N) 1001) nr) _);have o:Z (a++[46])<=(i+1)*1100001:=by simp only[AX,BQ,CQ];omega
  refine mu ?_;refine⟨Z x.A+1-(i+1),L,i+1,n+1,a++[46],?_⟩;exact nf p o
 |false=>
  refine mu ?_
  refine Ae (λm s f=>∃(k:Nat) (a:Tx),m=Z x.h.A-k/\k<=Z x.h.A/\s 1=ptr d.B 0/\s 3=O a/\s 4=Y n/\s 5=ptr v.B 0/\s 6=Y k/\W d f/\v.B<f.B/\f.C d.B=(ko x I id b)/\f.C v.B=[my x.h.nt,O x.h.B,lw I x.h.A]/\Z a<=i*1100001+1001+k*1001/\V (a=(e++x.h.B)++(x.h.A.take k).flatMap λt=>44::t)) (Z x.h.A)
   ⟨0,(e++x.h.B),L,L,AI,AG,AI,AG,AG,Xs,BJ,by simp (disch:=omega) only[Aj,Ah,Aa,A,u],by simp only[Ak,u],by simp only[AX,BQ,CQ];omega,by simp[V]⟩ ?_
  have R:=y;clear F E G A y q D z K M;rintro m s f ⟨k,a,rfl,a1,F,E,G,P,a2,q,y,A,Q,z,j⟩;have D:=q.B;by_cases l:k<Z x.h.A;have g:=AK l;have C:=A1 l;have S:=(B.2.1 _ (AR l)).2;generalize x.h.A[k]=t at C g S;have p:V ((a++[44])++t=(e++x.h.B)++(x.h.A.take (k+1)).flatMap λt=>44::t):=by
   rw[V,AT,g,KC,j.o];simp
  have o:Z ((a++[44])++t)<=i*1100001+1001+(k+1)*1001:=by simp only[AX,BQ,CQ];omega
  clear g;refine mu ?_;refine⟨Z x.h.A-(k+1),L,k+1,(a++[44])++t,?_⟩;exact nf p o;obtain rfl:k=Z x.h.A:=L;have p:V (a++[46]=Qh x (i+1)):=by
   rw[V,T.o,j.o,AS,<-U.o];simp[Ls,u]
  have aa:Z a<=i*1100001+1100000:=BI z (by rw[ID];exact JJ (BI (JJ (GW 1001 N) 1001) nr) _);have o:Z (a++[46])<=(i+1)*1100001:=by simp only[AX,BQ,CQ];omega
  refine mu ?_;refine⟨Z x.A+1-(i+1),L,i+1,n+1,a++[46],?_⟩;exact nf p o
 have K:decide ((0:Int)<=n):=by simp;omega
 have M:decide (n>=0):=K;have a3:0<=n:=L;have af:n.toNat<Z x.A:=L;have a0:n<(Z x.A:Int):=L;obtain⟨w,g⟩:=gq af;have B:=ab.2.2 _ (AY g);obtain⟨ac,ad,C⟩:=Ca hb g;have T:V (Qh x (i+1)=Qh x i++(Ls w++[46])):=eH (by rw[show i=n.toNat+1 by omega];exact g);have ax:=B.1.2;have N:=B.2.2;clear g a9;cases u:w.nt with
 |true=>
  refine mu ?_
  refine Ae (λm s f=>∃(k:Nat) (a:Tx),m=Z w.A-k/\k<=Z w.A/\s 1=ptr d.B 0/\s 3=O a/\s 4=Y n/\s 5=ptr v.B 0/\s 6=Y k/\W d f/\v.B<f.B/\f.C d.B=(ko x I id b)/\f.C v.B=[my w.nt,O w.B,lw ac w.A]/\Z a<=i*1100001+1001+k*1001/\V (a=(e++[33]++w.B)++(w.A.take k).flatMap λt=>44::t)) (Z w.A)
   ⟨0,(e++[33]++w.B),L,L,AI,AG,AI,AG,AG,Xs,BJ,by simp (disch:=omega) only[Aj,Ah,Aa,A,u],by simp only[Ak,u],by simp only[AX,BQ,CQ];omega,by simp[V]⟩ ?_
  have R:=y;clear F E G A y q D z K M;rintro m s f ⟨k,a,rfl,a1,F,E,G,P,a2,q,y,A,Q,z,j⟩;have D:=q.B;by_cases l:k<Z w.A;have g:=AK l;have C:=A1 l;have S:=(B.2.1 _ (AR l)).2;generalize w.A[k]=t at C g S;have p:V ((a++[44])++t=(e++[33]++w.B)++(w.A.take (k+1)).flatMap λt=>44::t):=by
   rw[V,AT,g,KC,j.o];simp
  have o:Z ((a++[44])++t)<=i*1100001+1001+(k+1)*1001:=by simp only[AX,BQ,CQ];omega
  clear g;refine mu ?_;refine⟨Z w.A-(k+1),L,k+1,(a++[44])++t,?_⟩;exact nf p o;obtain rfl:k=Z w.A:=L;have p:V (a++[46]=Qh x (i+1)):=by
   rw[V,T.o,j.o,AS,<-U.o];simp[Ls,u]
  have aa:Z a<=i*1100001+1100000:=BI z (by rw[ID];exact JJ (BI (JJ (GW 1001 N) 1001) nr) _);have o:Z (a++[46])<=(i+1)*1100001:=by simp only[AX,BQ,CQ];omega
  refine mu ?_;refine⟨Z x.A+1-(i+1),L,i+1,n+1,a++[46],?_⟩;exact nf p o
 |false=>
  refine mu ?_
  refine Ae (λm s f=>∃(k:Nat) (a:Tx),m=Z w.A-k/\k<=Z w.A/\s 1=ptr d.B 0/\s 3=O a/\s 4=Y n/\s 5=ptr v.B 0/\s 6=Y k/\W d f/\v.B<f.B/\f.C d.B=(ko x I id b)/\f.C v.B=[my w.nt,O w.B,lw ac w.A]/\Z a<=i*1100001+1001+k*1001/\V (a=(e++w.B)++(w.A.take k).flatMap λt=>44::t)) (Z w.A)
   ⟨0,(e++w.B),L,L,AI,AG,AI,AG,AG,Xs,BJ,by simp (disch:=omega) only[Aj,Ah,Aa,A,u],by simp only[Ak,u],by simp only[AX,BQ,CQ];omega,by simp[V]⟩ ?_
  have R:=y;clear F E G A y q D z K M;rintro m s f ⟨k,a,rfl,a1,F,E,G,P,a2,q,y,A,Q,z,j⟩;have D:=q.B;by_cases l:k<Z w.A;have g:=AK l;have C:=A1 l;have S:=(B.2.1 _ (AR l)).2;generalize w.A[k]=t at C g S;have p:V ((a++[44])++t=(e++w.B)++(w.A.take (k+1)).flatMap λt=>44::t):=by
   rw[V,AT,g,KC,j.o];simp
  have o:Z ((a++[44])++t)<=i*1100001+1001+(k+1)*1001:=by simp only[AX,BQ,CQ];omega
  clear g;refine mu ?_;refine⟨Z w.A-(k+1),L,k+1,(a++[44])++t,?_⟩;exact nf p o;have ae:k=Z w.A:=L;subst ae;have p:V (a++[46]=Qh x (i+1)):=by
   rw[V,T.o,j.o,AS,<-U.o];simp[Ls,u]
  have aa:Z a<=i*1100001+1100000:=BI z (by rw[ID];exact JJ (BI (JJ (GW 1001 N) 1001) nr) _);have o:Z (a++[46])<=(i+1)*1100001:=by simp only[AX,BQ,CQ];omega
  refine mu ?_;refine⟨Z x.A+1-(i+1),L,i+1,n+1,a++[46],?_⟩;exact nf p o
 have ay:i=Z x.A+1:=L;subst ay;have j:=j.o;have:Qh x (Z x.A+1)=Fb x:=by unfold Qh Fb;rw[FZ nk]
 rw[this]at j;subst j;refine mu ?_
 exact⟨_,rfl,rfl⟩
def JB (d:St)(R:List (Nat×Nat)):Prop:=(∀x∈R,Live d x.1 x.2)/\∀(i j:Nat) (x y:Nat×Nat),R[i]?=some x->R[j]?=some y->i≠j->x.1=1\/x.1≠y.1
def JB.keep {d a R}(h:JB d R)(k:W d a):JB a R:=⟨λx b=>(h.1 x b).keep k,h.2⟩
structure KW (ow:Nat)(R R':List (Nat×Nat))(d d':St):Prop where
 B:d.B<=d'.B
 C:∀o,o<d.B->o≠ow->d'.C o=d.C o
 ver:∀o,o<d.B->o≠ow->d'.ver o=d.ver o
 D:d.D<=d'.D
 top:∀k,k<d.D->(∀x∈R,x.1≠k+2)->d'.top k=d.top k
 mid:∀x∈R',(∃y∈R,y.1=x.1)\/x.1=1\/d.D+2<=x.1
def KW.ofKeep {ow R d b}(h:W d b):KW ow R R d b:=
 ⟨h.B,λo a _=>h.C o a,λo a _=>h.ver o a,h.D,λk e _=>h.top k e,λx c=>.inl ⟨x,c,rfl⟩⟩
def KW.trans {ow M m M2 d i j}(h:KW ow M m d i)(g:KW ow m M2 i j):KW ow M M2 d j where
 B:=BI h.B g.B
 C:=λo a b=>(g.C o (BZ a h.B) b).trans (h.C o a b)
 ver:=λo a b=>(g.ver o (BZ a h.B) b).trans (h.ver o a b)
 D:=BI h.D g.D
 top:=λk l c=>(g.top k (BZ l h.D) (λx p e=>by
  obtain⟨y,f,e2⟩|e2|e2:=h.mid x p;exact c y f (e2.trans e);omega
  omega)).trans (h.top k l c)
 mid:=λx c=>by obtain⟨y,f,e⟩|e|e:=g.mid x c;obtain⟨z,n,e2⟩|e2|e2:=h.mid y f;exact .inl ⟨z,n,e2.trans e⟩;exact .inr (.inl L);exact .inr (.inr L);exact .inr (.inl e);exact .inr (.inr (ny h.D))
def JB.grow {d b ow R k id' x}(q:JB d R)(p:R[k]?=some x)(F:Live b id' (x.2+1))(m:id'=x.1\/d.D+2<=id')(G:id'≠1)
  (t:∀o,o<d.B->o≠ow->b.C o=d.C o) (I:∀o,o<d.B->o≠ow->b.ver o=d.ver o) (P:d.B<=b.B) (c:d.D<=b.D)
  (f:∀j,j<d.D->j+2≠x.1->b.top j=d.top j):JB b (R.set k (id',x.2+1))/\KW ow R (R.set k (id',x.2+1)) d b:=by
 have v:=AY p;have B:=(BA.1 p).1;have s:∀(i:Nat) (y:Nat×Nat),R[i]?=some y->i≠k->Live b y.1 y.2/\(y.1=1\/y.1≠id'):=λi y a D=>by
  have C:=AY a;rcases q.1 y C with h|⟨j,e1,e2,e3,e4⟩;exact⟨.inl h,.inl h.1⟩;have Q:y.1≠x.1:=by obtain h|h:=q.2 i k y x a p D;omega;exact h
  refine⟨.inr ⟨j,e1,BZ e2 c,(f j e2 L).trans e3,e4⟩,.inr ?_⟩;grind
 have l:∀(i:Nat) (y:Nat×Nat),(R.set k (id',x.2+1))[i]?=some y->(i=k/\y=(id',x.2+1))\/(i≠k/\R[i]?=some y):=λi y a=>gp
 refine⟨⟨λy a=>?_,λi j y z a A E=>?_⟩,⟨P,t,I,c,λj N h=>f j N (λe=>h x v e.symm),λy a=>?_⟩⟩;let⟨i,u⟩:=CL a;obtain⟨-,rfl⟩|⟨g,K⟩:=l i y u;exact F;exact (s i y K g).1;obtain⟨g,rfl⟩|⟨g,K⟩:=l i y a;obtain⟨n,rfl⟩|⟨n,M⟩:=l j z A;omega;obtain h|h:=(s j z M n).2;exact .inr λe=>G (Eq.trans e h);exact .inr (λe=>h e.symm);obtain⟨n,rfl⟩|⟨n,M⟩:=l j z A;exact (s i y K g).2;exact q.2 i j y z K M E;let⟨i,u⟩:=CL a;obtain⟨-,rfl⟩|⟨g,K⟩:=l i y u;obtain h|h:=m;exact .inl ⟨x,v,h.symm⟩;exact .inr (.inr h);exact .inl ⟨y,AY K,rfl⟩
abbrev BK:=List (Nat×ol)
def Q2 (B:BK):oh:=B.map λx=>lw x.1 x.2
def C7 (ida nA:Nat)(cA:oh)(fz:Bool)(mo:Int)(ido nO:Nat)(oc:oh)(B:BK):oh:=[sl ida nA cA,my fz,Y mo,sl ido nO oc]++Q2 B
def Dv (ido nO:Nat)(B:BK):List (Nat×Nat):=(ido,nO)::B.map λx=>(x.1,Z x.2)
structure FC (d:St)(ow ida nA:Nat)(cA:oh)(fz:Bool)(mo:Int)(ido:Nat)(Oqx:oq)(oc:oh)(B:BK)(N:Nat):Prop where
 ob:d.C ow=C7 ida nA cA fz mo ido (Z Oqx) oc B
 lo:ow<d.B
 bl:Z B=4096
 oe:r Bf Oqx oc
 rw':JB d (Dv ido (Z Oqx) B)
 bn:∀x∈B,Z x.2<=N
def FC.keep {d a ow ida nA cA fz mo ido b oc B N}(h:FC d ow ida nA cA fz mo ido b oc B N)(k:W d a):FC a ow ida nA cA fz mo ido b oc B N:=
 ⟨(k.C _ h.lo).trans h.ob,BZ h.lo k.B,h.bl,h.oe,h.rw'.keep k,h.bn⟩
def Yu (n:Nat)(c:UInt8):Nat:=(n*31+c.toNat) % 4096
def Jn (s:Tx):Nat:=s.foldl Yu 0
def Sp (B:BK)(s:Tx):Prop:=∃x,B[Jn s]?=some x/\s∈x.2
def ZY {B s t id' y}(c:B[Jn t]?=some y):Sp (B.set (Jn t) (id',y.2++[t])) s↔Sp B s\/s=t:=by have d:=(BA.1 c).1;rw[Sp];constructor;rintro⟨x,a,b⟩;rw[GH]at a;by_cases e:Jn t=Jn s;rw[if_pos e,if_pos L]at a;cases a;obtain h|h:=AW.1 b;exact .inl ⟨y,e▸c,h⟩;exact .inr (nn h);rw[if_neg e]at a;exact .inl ⟨x,a,b⟩;rintro (⟨x,a,b⟩|rfl);by_cases e:Jn t=Jn s;rw[<-e,c]at a;cases a;exact⟨_,by rw[<-e,GH,if_pos rfl,if_pos d],GK _ b⟩;exact⟨x,gp,b⟩;exact⟨_,by rw[GH,if_pos rfl,if_pos d],nk⟩
def Jc {ida nA cA fz mo ido nO oc B}(a:Z B=4096):Z (C7 ida nA cA fz mo ido nO oc B)=4100:=by simp[C7,Q2,a]
def pN {ida nA cA fz mo ido nO oc B k y}(a:B[k]?=some y):(C7 ida nA cA fz mo ido nO oc B)[4+k]?=some (lw y.1 y.2):=by rw[C7];rw[JY nk];simp[Q2,a]
def jA {ida nA cA fz mo ido nO oc B k y}:(C7 ida nA cA fz mo ido nO oc B).set (4+k) (lw y.1 y.2)=C7 ida nA cA fz mo ido nO oc (B.set k y):=by
 unfold C7;rw[set_append_right _ _ nk];simp[Q2,map_set]
theorem xE {ido nO B k y}:Dv ido nO (B.set k y)=(Dv ido nO B).set (k+1) (y.1,Z y.2):=by simp_all[Dv]
def FC.addB {d a ow ida nA cA fz mo ido z oc B N k id' y t}(h:FC d ow ida nA cA fz mo ido z oc B N)(n:B[k]?=some y)
  (u:Live a id' (Z y.2+1)) (m:id'=y.1\/d.D+2<=id') (v:id'≠1)
  (l:∀o,o<d.B->o≠ow->a.C o=d.C o) (s:∀o,o<d.B->o≠ow->a.ver o=d.ver o) (f:d.B<=a.B) (b:d.D<=a.D)
  (c:∀j,j<d.D->j+2≠y.1->a.top j=d.top j) (i:a.C ow=(C7 ida nA cA fz mo ido (Z z) oc B).set (4+k) (sl id' (Z y.2+1) (y.2.map O++[O t]))):
  FC a ow ida nA cA fz mo ido z oc (B.set k (id',y.2++[t])) (N+1)/\KW ow (Dv ido (Z z) B) (Dv ido (Z z) (B.set k (id',y.2++[t]))) d a:=by
 have g:(Dv ido (Z z) B)[k+1]?=some (y.1,Z y.2):=by grind[Dv]
 let⟨A,p⟩:=JB.grow (ow:=ow) h.rw' g u m v l s f b c;have e:Dv ido (Z z) (B.set k (id',y.2++[t]))=(Dv ido (Z z) B).set (k+1) (id',Z y.2+1):=by grind[xE]
 rw[e];refine⟨⟨?_,BZ h.lo f,by simp[h.bl],h.oe,e▸A,λx g=>?_⟩,p⟩;rw[i,<-jA];simp[lw];obtain q|rfl:=NI g;have:=h.bn x q;omega;have:=h.bn y (AY n);simp;omega
def sZ (x c)(hc:AJ x c)(K:iQ x)(ah:Z x.A<=1000)(ow ida nA cA fz mo ido b oc B N)(hN:N<=1000000000000)(d)(z:FC d ow ida nA cA fz mo ido b oc B N):
  ni 238 [ptr ow 0,ag c] d λad p=>(Sp B (Fb x)/\ad=my true/\W d p)\/(¬Sp B (Fb x)/\ad=my false/\∃id' y,B[Jn (Fb x)]?=some y/\FC p ow ida nA cA fz mo ido b oc (B.set (Jn (Fb x)) (id',y.2++[Fb x])) (N+1)/\KW ow (Dv ido (Z b) B) (Dv ido (Z b) (B.set (Jn (Fb x)) (id',y.2++[Fb x]))) d p):=by
 have a3:=λd=>xG x c hc K ah d;obtain⟨ih,id,ay,hb,rfl⟩:=hc.cells;unfold A4;unfold A4 at a3;have bo:Z (Fb x)<=1200000000:=by
  have ap:∀l:oq,(∀a∈l,DX a)->Z (l.flatMap λa=>Ls a++[46])<=Z l*1100001:=by
   intro l;induction l with
   |nil=>intro _;simp
   |cons a l ih=>
    intro hh;have e1:=ih (λu g=>hh u (ns g));have e2:=VF (hh a nk);simp only[DN,AX,BQ,CQ];omega
  have:=ap (x.h::x.A) (λa U=>by
   obtain rfl|U:=BD.1 U
   ·exact K.2.1
   exact K.2.2 a U)
  unfold Fb;simp only[BQ]at this;omega
 generalize Fb x=f at*
 have bb:=z.lo;have a9:=z.ob;have bi:=Jc (ida:=ida) (nA:=nA) (cA:=cA) (fz:=fz) (mo:=mo) (ido:=ido) (nO:=Z b) (oc:=oc) z.bl;refine Z9 61 [.tmp 4] func238 ?_
 repeat' first|refine Z1 ?_|refine Z8 λyb ya=>?_|refine Z4 ?_;clear ya yb|refine Z2 ?_ ?_<;>intro h ae<;>try exact Xp|refine Z6 ?_;intro a1 dn ai aj T ab I aa|refine Z5 ?_;refine Xi (a3 _) ?_;rintro _ _ ⟨rfl,G⟩;(have ao:=G.B;have an:=G.C;simp only[Aa]at ao an)|refine Z7 ?_|exact Zt|apply ya.o;clear ya yb
 rename_i m;have e:W d m:=((W.refl d).new _).trans G;have au:m.C ow=C7 ida nA cA fz mo ido (Z b) oc B:=by rw[e.C _ bb,a9]
 refine wn [0,5] 7 (Z f) (λi s p=>∃n:Nat,s 6=Y n/\p=m/\n<4096/\V (n=(f.take i).foldl Yu 0)) ⟨0,AG,rfl,nr,by simp[V]⟩ ?_
 rintro i s p hi ⟨h0,h5⟩ h7 ⟨n,h6,rfl,hn,v⟩;by_cases C:i<Z f
 ·have E:=AK C;generalize f[i]=t at E;have bq:t.toNat<256:=t.toNat_lt;have ba:Int.tmod ((n:Int)*31+(t.toNat:Int)) 4096=((Yu n t:Nat):Int):=rfl;have M:V (Yu n t=(f.take (i+1)).foldl Yu 0):=by
   rw[V,AT,E,foldl_append,<-v.o];rfl
  have bm:Yu n t<4096:=Nat.mod_lt _ nr;refine mu ?_;refine⟨Yu n t,?_⟩;exact m9 M
 obtain rfl:i=Z f:=L;have P:n=Jn f:=by have h:=v.o;rw[AS]at h;exact h
 let⟨y,A⟩:∃y,B[n]?=some y:=⟨B[n]'(by rw[z.bl];exact hn),AK _⟩;have bp:=pN (ida:=ida) (nA:=nA) (cA:=cA) (fz:=fz) (mo:=mo) (ido:=ido) (nO:=Z b) (oc:=oc) A;have bh:=z.bn y (AY A);rw[<-P];have a5:V (Sp B f↔f∈y.2):=by
  unfold Sp;rw[<-P];exact⟨λ⟨x,h1,h2⟩=>by rw[A]at h1;cases h1;exact h2,λh=>⟨y,A,h⟩⟩
 have F:V (B[n]?=some y):=A;have HW:V _:=z.keep e;clear v P A C hi;generalize az:C7 ida nA cA fz mo ido (Z b) oc B=wc at*
 have bf:V _:=az;clear az;refine mu ?_
 refine Ae (λac s ax=>∃(q:Nat),ac=Z y.2-q/\q<=Z y.2/\s 0=ptr ow 0/\s 5=O f/\s 6=Y n/\s 8=Y q/\ax=p/\V (∀u∈y.2.take q,u≠f)) (Z y.2)
  ⟨0,L,L,AI,AI,AI,AG,rfl,λu g=>by simp at g⟩ ?_
 clear h0 h5 h6 h7;rintro ac s d2 ⟨q,rfl,hq,h0,h5,h6,h8,rfl,a4⟩;by_cases C:q<Z y.2
 ·have E:=AK C;have hd:=A1 C;have a0:=AR C;generalize y.2[q]=u at hd E a0;by_cases g:u=f
  ·have a7:(u==f)=true:=by simp[g]
   have HR:V (Sp B f):=a5.o.2 (g ▸ a0);clear g;refine mu ?_
   first
   |exact⟨_,rfl,.inl ⟨HR.o,rfl,e⟩⟩
   |exact⟨_,rfl,.inl ⟨HR.o,rfl⟩⟩
  have a7:(u==f)=false:=nn g;have M:V (∀u∈y.2.take (q+1),u≠f):=λam hv=>by
   rw[AT,E]at hv;rcases AW.1 hv with j|j
   ·exact a4.o am j
   simp at j;subst j;exact g
  clear g;refine mu ?_;refine⟨Z y.2-(q+1),L,q+1,?_⟩;exact m9 M
 have a8:q=Z y.2:=L;subst a8;have bg:V (¬Sp B f):=λh=>a4.o f (by rw[AS];exact a5.o.1 h) rfl
 have bd:Live d2 y.1 (Z y.2):=HW.o.rw'.1 (y.1,Z y.2) (by
  refine IM _ (AN.2 ⟨y,AY F.o,rfl⟩))
 have a6:Z (y.2.map O)=Z y.2*1:=nk;refine mu ?_;refine A2 (Q:=λa2 s' k=>a2= .normal/\∃id',FC k ow ida nA cA fz mo ido b oc (B.set n (id',y.2++[f])) (N+1)/\KW ow (Dv ido (Z b) B) (Dv ido (Z b) (B.set n (id',y.2++[f]))) d2 k) ?_ ?_
 ·refine Ar Ag (λ_=>True) [14] [0,1,2,3,4,5,6,7,8,11,12] 4 (nv 15 6655) AH (λ_ _ _ h=>by cases h.1) ?_;intro yb ya;refine Z7 ?_;refine ya.o _ ?_;clear ya yb;refine Ai (i:=9) AH ?_;refine Am ?_;intro yb ya;refine Z7 ?_;refine ya.o _ _ ⟨Al ((W.refl _).lay 1),?_⟩;clear ya yb;refine Ai (i:=10) AH ?_;refine Am ?_;intro yb ya;refine Z7 ?_;refine Ty (by first|exact S1) bd nr (by rfl) a6 (by rfl) (by rfl) nr L L ?_;intro a1 dn be av aw T ab I aa af;refine Z7 ?_;refine ya.o _ _ ⟨λ_ o R _=>by rw[I],?_⟩;clear ya yb;have b0:dn.C ow=wc:=by rw[T,au]
  refine Ai (i:=13) AH ?_;refine Am ?_;intro yb ya;refine Z7 ?_;refine ya.o _ _ ⟨λ_ o R _=>by rw[I],?_⟩;clear ya yb;refine Ai (i:=14) AH ?_;refine Am ?_;intro yb ya;refine Z7 ?_;refine ya.o _ _ ⟨A3 rfl,?_⟩;clear ya yb;refine Aw AH ⟨rfl,a1,?_⟩;refine FC.addB HW.o F.o ?_ av aw ?_ ?_ ?_ ?_ ?_ ?_
  ·exact be
  ·intro o R D;rw[show∀(S:St) c,(S.put ow c).C o=S.C o from λS c=>by simp[St.put,D],T]
  ·intro o R D;rw[show∀(S:St) c,(S.put ow c).ver o=S.ver o from λS c=>by simp[St.put,D],I]
  ·simp only[Ac];omega
  ·simp only[Nc];omega
  ·intro ak hj D;rw[Og];exact af ak hj D
  rw[Ak,bf.o]
 rintro a2 s' k ⟨rfl,id',g1,g2⟩;refine mu ?_;exact⟨_,rfl,.inr ⟨bg.o,rfl,id',y,F.o,g1,(KW.ofKeep e).trans g2⟩⟩
def oE (x c A cA ida)(M:AJ x c)(D:x.fits)(K:r Bf A cA)(S:Z A<=1000)(Jqx:∀b∈A,Z b.A<=1000)(d):ni 240 [ag c,sl ida (Z A) cA] d λm g=>∃b,m=my b/\(b=true↔∃a∈x.A,a.nt/\wT a∈A)/\W d g:=by
 obtain⟨E,id,b,C,rfl⟩:=M.cells;have aw:=r.length A7 C;have N:=D.1;unfold A4;refine wl func240 ?_;refine X ?_
 refine wn [1,2] 5 (Z x.A) (λi s g=>W d g/\d.B<g.B/\g.C d.B=(ko x E id b)/\V (∀a∈x.A.take i,¬(a.nt/\wT a∈A))) ⟨Xs,AM,Ao,λa f=>by simp at f⟩ ?_
 rintro i s g _ ⟨t,z⟩ _ ⟨e,a3,a2,y⟩;have ap:=e.B;by_cases G:i<Z x.A
 ·obtain⟨w,j⟩:=gq G;obtain⟨B,m,a0⟩:=Ca C j;have p:V (¬(w.nt/\wT w∈A)->∀a∈x.A.take (i+1),¬(a.nt/\wT a∈A)):=λQ a f=>by
   rw[AT,j]at f;obtain l|l:=AW.1 f
   ·exact y.o a l
   simp at l;subst l;exact Q
  have U:V (w∈x.A):=AY j;clear j;cases k:w.nt
  ·have q:V _:=p.o (λh=>by rw[k]at h;cases h.1);clear p;refine X ?_;skip
   ((repeat' refine Zi ?_ ?_)<;>first|exact Xq|exact q|exact ((e.new _).put e.B _)|exact Xs)
  have F:=λd=>Gt A cA ida (wT w) [my false,O w.B,lw B w.A] K ⟨B,rfl⟩ S Jqx d;refine m0 ?_;intro yb ya;refine Xi (F _) ?_;rintro _ _ ⟨P,rfl,u,n⟩;(have v:V _:=u;clear u;have I:=n.B;have T:=n.C;simp only[Ac,Aa]at I T);refine m6 ?_ ?_<;>intro h a1
  ·have R:(true=true↔∃a∈x.A,a.nt=true/\wT a∈A):=⟨λ_=>⟨w,U.o,k,v.o.1 nu⟩,λ_=>rfl⟩;exact⟨_,rfl,true,rfl,R,(((e.new _).put e.B _).put e.B _).trans n⟩
  have q:V _:=p.o (λh=>by
   have t:=v.o.2 h.2;have z:P=false:=nu
   rw[z]at t;cases t)
  skip
  ((repeat' refine Zi ?_ ?_)<;>first|exact Xq|exact q|exact ((((e.new _).put e.B _).put e.B _).trans n)|exact Xs)
 obtain rfl:i=Z x.A:=L;have o:(false↔∃a∈x.A,a.nt/\wT a∈A):=⟨λh=>(by cases h),λ⟨a,f,h⟩=>absurd h (y.o a (by rw[AS];exact f))⟩;refine X ?_
 exact⟨_,rfl,false,rfl,o⟩
def Hr (b a:Nat):Nat->Nat
 |0=>b
 |p+1=>1+a*Hr b a p
structure H3 (A:oq)(cA:oh):Prop where
 el:r Bf A cA
 len:Z A<=1000
 gnd:∀a∈A,aI a
 cl:∀a∈A,DX a
structure CJ (fz:Bool)(c0 p:Nat)(x:AB):Prop where
 cl:iQ x
 len:Z x.A<=1000
 saf:tD fz x
 cnt:x.A.countP (Pt fz)=p
 neg:c0=1\/∀a∈x.A,Pt fz a
def CJ.fits {fz c p x}(h:CJ fz c p x):x.fits:=⟨h.len,h.cl.2.1.2.2,λa b=>(h.cl.2.2 a b).2.2⟩
def iC {α:Type}(p){l:List α}{j a}(h:l[j]?=some a)(b:p a):(l.eraseIdx j).countP p+1=l.countP p:=by
 have c:=(BA.1 h).2;have e:l=l.take j++a::l.drop (j+1):=by
  rw[<-c,getElem_cons_drop,KD]
 rw[eraseIdx_eq_take_drop_succ,MI];have e2:l.countP p=(l.take j).countP p+((l.drop (j+1)).countP p+1):=gp
 omega
def CJ.step {fz k p x y j t b}(h:CJ fz k (p+1) x)(i:x.A[j]?=some b)(s:Pt fz b)(d:aI t)(l:DX t)(f:Kp x j t=some y):CJ fz k p (C8 y j)/\Z (C8 y j).A=Z x.A-1:=by
 obtain⟨B,z,c,v,rfl,g,-⟩:=Vj f h.cl.1 d;have q:=(BA.1 i).1;have o:Z (C8 (Rv c x) j).A=Z x.A-1:=by grind[C8,Rv]
 refine⟨⟨YP h.cl l d f,ny h.len,VH h.saf h.cl.1 d f,?_,?_⟩,o⟩;have A:(Rv c x).A.countP (Pt fz)=p+1:=by rw[<-h.cnt];simp only[Rv];rw[countP_map];rfl
 have n:Pt fz t:=by
  have:(Rv c x).A[j]?=some (G3 c b):=by grind[Rv]
  rw[this]at g;cases g;exact s
 have:=iC (Pt fz) g n;show ((Rv c x).A.eraseIdx j).countP (Pt fz)=p;omega;obtain e|e:=h.neg;exact .inl e;refine .inr λa C=>?_;obtain⟨m,u,rfl⟩:=AN.1 (EE C);exact e m u
def Ul (fz:Bool)(A:oq)(cA:oh)(ida:Nat)(mo:Int)(i p:Nat)(x:AB)(ow ido:Nat)(j:oq)(B:BK)(N:Nat)(d g:St):Prop:=
 ∃a b c e f,FC g ow ida (Z A) cA fz mo a b c e f/\KW ow (Dv ido (Z j) B) (Dv a (Z b) e) d g/\aE fz A mo x j (Sp B) b (Sp e)/\f+Z j<=N+Z b+Hr i (Z A) p
end Go.Proofs.YtmoeoppbmhfbpabGreatDoorJ
