import Derived.Test.YtmoeoppbmhfbpabGreatDoorJOpuB
import Derived.Test.YtmoeoppbmhfbpabGreatDoorJAgrB
import Derived.Test.YtmoeoppbmhfbpabGreatDoorJPrtP
import Derived.Test.YtmoeoppbmhfbpabGreatDoorJNegB
import Derived.Test.YtmoeoppbmhfbpabGreatDoorJProgR
import Derived.Test.YtmoeoppbmhfbpabGreatDoorJRefA
import Derived.Test.YtmoeoppbmhfbpabGreatDoorJShelf
import Derived.Test.YtmoeoppbmhfbpabGreatDoorJDocJ
set_option maxHeartbeats 64000000
set_option maxRecDepth 100000
set_option linter.all false
open List renaming length->Z
namespace Go.Proofs.YtmoeoppbmhfbpabGreatDoorJ
open Go.Abs
def Vd (f:Tx->Tx)(x:AB):AB:=⟨x.o,⟨x.h.nt,x.h.B,x.h.A.map f⟩,x.A.map λa=>⟨a.nt,a.B,a.A.map f⟩⟩
def nR {f:Tx->Tx}{t}:∀L:ol,(∀u∈L,f u=f t->u=t)->(L.map f).idxOf (f t)=L.idxOf t/\(f t∈L.map f↔t∈L)
 |[],_=>⟨rfl,nk⟩
 |u::L,h=>by
  obtain⟨a,d⟩:=nR (f:=f) (t:=t) L λv i=>h v (by simp[i]);by_cases e:u=t;subst e;simp;have e2:¬f u=f t:=λg=>e (h u nk g);refine⟨?_,?_⟩;rw[CC,JZ,JZ,a];have k:(f u==f t)=false:=nn e2;have b:(u==t)=false:=nn e;rw[k,b];rw[CC,BD,BD,d];have c:¬t=u:=λg=>e g.symm;have j:¬f t=f u:=λg=>e2 g.symm;simp[c,j]
def ig {f x}(v:∀a∈Af x,∀t∈a.A,Ab (f t)=Ab t)(G:∀a∈Af x,∀t∈a.A,Ab t=false->f t=t)(s:∀a∈Af x,∀b∈Af x,∀t∈a.A,∀u∈b.A,Ab t=true->Ab u=true->f t=f u->t=u)(D:x.o=true->x.h.A=[]/\x.A=[]):ren (Vd f x)=ren x:=by
 cases e:x.o with
 |true=>
  obtain⟨k,j⟩:=D e;simp[ren,Vd,Br,k,j]
 |false=>
  have i:∀t,t∈(Af x).flatMap (·.A)->∃a∈Af x,t∈a.A:=λt m=>by
   obtain⟨a,c,d⟩:=EX.1 m;exact⟨a,c,d⟩
  have z:(Af (Vd f x)).flatMap (·.A)=((Af x).flatMap (·.A)).map f:=by
   simp[Af,Vd,e,JG,LH]
  have m:Au (Vd f x)=(Au x).map f:=by
   unfold Au;rw[z]
   have:=Yi f ((Af x).flatMap (·.A)) [] nk (λt m=>by
    obtain⟨a,c,d⟩:=i t m;exact v a c t d) (λt u k j B F h=>by
    rcases k with k|k;cases k;rcases j with j|j;cases j;obtain⟨a,c,d⟩:=i t k;obtain⟨b,n,C⟩:=i u j
    exact s a c b n t d u C B F h)
   exact this
  have H:=(K7 ((Af x).flatMap (·.A)) [] nk GN).1;have l:∀a∈Af x,Br (Au (Vd f x)) ⟨a.nt,a.B,a.A.map f⟩=Br (Au x) a:=λa c=>by
   unfold Br;simp only[AE.mk.injEq,GM,BH];refine CG λt o=>?_;simp only[Function.comp];unfold C6;rw[v a c t o];cases q:Ab t with
   |false=>rw[if_neg nk,if_neg nk,G a c t o q]
   |true=>
    rw[if_pos rfl,if_pos rfl,m];obtain⟨y,p⟩:=nR (f:=f) (t:=t) (Au x) λu E g=>by
     have r:=H u E;obtain⟨b,n,A⟩:=i u (by rcases r.2 with h|h;cases h;exact h);exact s b n a c u A t o r.1 q g
    unfold Bv;by_cases d:t∈Au x;rw[if_pos d,if_pos (p.2 d),y];rw[if_neg d,if_neg λg=>d (p.1 g)]
  show (⟨x.o,Br (Au (Vd f x)) ⟨x.h.nt,x.h.B,x.h.A.map f⟩,(x.A.map λa=>(⟨a.nt,a.B,a.A.map f⟩:AE)).map (Br (Au (Vd f x)))⟩:AB)=⟨x.o,Br (Au x) x.h,x.A.map (Br (Au x))⟩;rw[l _ (Ap (.inl ⟨e,rfl⟩)),BH];congr 1;exact CG λa c=>l a (Ap (.inr c))
def QT {x}(i:XR x)(k):ren (C8 (ren x) k)=ren (C8 x k):=by
 have g:∀a∈Af (C8 x k),a∈Af x:=λa c=>by
  have c:a=x.h\/a∈x.A.eraseIdx k:=by simpa[Af,C8]using c
  rcases c with rfl|c;exact Ap (.inl ⟨i.o,rfl⟩);exact Ap (.inr (EE c))
 have e:C8 (ren x) k=Vd (C6 (Au x)) (C8 x k):=by
  simp only[C8,ren,Vd,Br,Hz];rfl
 rw[e];exact ig (λa c t d=>Hu λf=>i.rng (g a c) d f) (λa c t d f=>Sr f _) (λa c b j t d u l _ _ h=>i.inj (g a c) (g b j) d l h) λh=>by cases h
structure Sx (x y:AB):Prop where
 rn:ren x=ren y
 len:Z (Bz x)=Z (Bz y)
 sf:Db x=Db y
def Sx.refl (x):Sx x x:=⟨rfl,rfl,rfl⟩
def Sx.symm {x y}(h:Sx x y):Sx y x:=⟨h.rn.symm,h.len.symm,h.sf.symm⟩
def Sx.trans {x y z}(h:Sx x y)(g:Sx y z):Sx x z:=⟨h.rn.trans g.rn,h.len.trans g.len,h.sf.trans g.sf⟩
def Sx.o {x y}(h:Sx x y):x.o=y.o:=by simpa[ren]using congrArg AB.o h.rn
def Sx.B {x y}(h:Sx x y):x.h.B=y.h.B:=by simpa[ren,Br]using congrArg (λz:AB=>z.h.B) h.rn
def Sx.bl {x y}(h:Sx x y):Z x.A=Z y.A:=by
 have:=congrArg (λz:AB=>Z z.A) h.rn;simpa[ren]using this
def Sx.lit {x y}(h:Sx x y){j:Nat}{a}(d:x.A[j]?=some a):∃b,y.A[j]?=some b/\b.nt=a.nt/\b.B=a.B/\Z b.A=Z a.A:=by
 have:=congrArg (λz:AB=>z.A[j]?) h.rn;simp only[ren,DC,d,GJ]at this;obtain⟨b,c,e⟩:=Option.map_eq_some_iff.1 this.symm;refine⟨b,c,by simpa[Br]using congrArg AE.nt e,by simpa[Br]using congrArg AE.B e,?_⟩;have:=congrArg (λz:AE=>Z z.A) e;simpa[Br]using this
def Sx.mem {x y}(h:Sx x y){a}(d:a∈x.A):∃b∈y.A,b.nt=a.nt/\b.B=a.B/\Z b.A=Z a.A:=by
 obtain⟨j,e⟩:=CL d;obtain⟨b,c,h⟩:=h.lit e;exact⟨b,AY c,h⟩
def Sx.hl {x y}(h:Sx x y):Z x.h.A=Z y.h.A:=by
 have:=congrArg (λz:AB=>Z z.h.A) h.rn;simpa[ren,Br]using this
def pW {x}(i:Dc x)(g:∀a∈Af x,∀t∈a.A,UT t):Z (Bz (ren x))=Z (Bz x):=by
 refine Nat.le_antisymm (jF i) ?_;have n:∀l:ol,∀t,UT t->Z t<=Z (C6 l t):=λl t d=>by
  unfold C6;split;rename_i j;obtain⟨k,-,rfl⟩:=d.2.2.2 j;simp;exact AU _
 have f:∀a∈Af x,Z (Bh a)<=Z (Bh (Br (Au x) a)):=λa e=>by
  have:=Q5 id (C6 (Au x)) a.A λt d=>n _ t (g a e t d);rw[IE]at this;unfold Bh Br;simp only[AX,BQ,CQ];omega
 cases b:x.o with
 |true=>simp[Bz,ren,Br,b]
 |false=>
  have m:=f _ (Ap (.inl ⟨b,rfl⟩));have o:=Q5 Cl (λa=>Cl (Br (Au x) a)) x.A λa e=>by
   have:=f a (Ap (.inr e));unfold Cl;rw[AX,AX];show _<=Z (if a.nt=true then [33]else ([]:Tx))+_;omega
  unfold Bz;rw[if_neg (by simp[b]),if_neg (by simp[ren,b])];unfold D1;show _<=Z (Bh (Br (Au x) x.h)++(if x.A.map (Br (Au x))=[]then []else 58::45::Bp ((x.A.map (Br (Au x))).map Cl)));rw[BH,AX,AX];by_cases c:x.A=[];rw[if_pos c,if_pos (by simp[c])];simpa using m;rw[if_neg c,if_neg (nn c)];simp only[BQ];have p:Z (Bp (x.A.map Cl))<=Z (Bp (x.A.map (Cl∘Br (Au x)))):=o;omega
def gz {x}(d:x.o=false->XR x)(g:x.o=true->x.h.A=[]/\x.A=[]):Db (ren x)=Db x:=by
 cases e:x.o with
 |true=>
  obtain⟨c,f⟩:=g e;have:ren x=x:=by
   obtain⟨o,⟨n,p,k⟩,b⟩:=x;simp only at c f;subst c;subst f;rfl
  rw[this]
 |false=>
  have d:=d e;have c:=d.safe (Z x.A);have e2:C8 (ren x) (Z x.A)=ren x:=by
   have:=U3 (x:=ren x) e;simpa[ren]using this
  rw[e2,U3 e]at c;rw[<-J8 (x:=ren x) λa i w j=>Me (d.inO.ut a i w j)];exact c
def BB.ut {N ar l}(h:BB N ar l){x}(c:x∈l):∀a∈Af x,∀t∈a.A,UT t:=λa b=>((h.gl.msr x c).at_ a b).2.2
def BB.sx {N ar l}(h:BB N ar l){x}(b:x∈l):Sx x (ren x):=
 ⟨(XN (λa=>h.xr b a) λa=>((h.wit x b).2.1 a).2).symm,(pW (h.wit x b) (h.ut b)).symm,(gz (λa=>h.xr b a) λa=>((h.wit x b).2.1 a).2).symm⟩
def LS (l m:n0):Prop:=∃L:List (AB×AB),l=L.map (·.1)/\m=L.map (·.2)/\∀p∈L,Sx p.1 p.2
def LS.refl (l):LS l l:=⟨l.map λx=>(x,x),by simp[Function.comp_def],by simp[Function.comp_def],λp a=>by
 obtain⟨x,-,rfl⟩:=AN.1 a
 exact Sx.refl x⟩
def LS.symm {l m}(h:LS l m):LS m l:=by
 obtain⟨L,rfl,rfl,h⟩:=h
 exact⟨L.map Prod.swap,by simp[Function.comp_def],by simp[Function.comp_def],λp b=>by
  obtain⟨q,a,rfl⟩:=AN.1 b
  exact (h q a).symm⟩
def LS.len {l m}(h:LS l m):Z l=Z m:=by
 obtain⟨L,rfl,rfl,-⟩:=h;simp
def LS.get {l m}(h:LS l m){i:Nat}{x}(a:l[i]?=some x):∃y,m[i]?=some y/\Sx x y:=by
 obtain⟨L,rfl,rfl,h⟩:=h;rw[DC]at a;obtain⟨p,b,rfl⟩:=Option.map_eq_some_iff.1 a;exact⟨p.2,by rw[DC,b];rfl,h p (AY b)⟩
def LS.mem {l m}(h:LS l m){x}(a:x∈l):∃y∈m,Sx x y:=by
 obtain⟨i,c⟩:=CL a;obtain⟨y,b,h⟩:=h.get c;exact⟨y,AY b,h⟩
def LS.ren {l m}(h:LS l m):l.map ren=m.map ren:=by
 obtain⟨L,rfl,rfl,h⟩:=h;rw[BH,BH];exact CG λp a=>(h p a).rn
def LS.rpl {l m o b}(h:LS l m)(g:LS o b)(i):LS (rpl i o l) (rpl i b m):=by
 obtain⟨L,rfl,rfl,h⟩:=h;obtain⟨O,rfl,rfl,g⟩:=g;refine⟨YtmoeoppbmhfbpabGreatDoorJ.rpl i O L,by rw[Ri],by rw[Ri],λp a=>?_⟩;rcases Cy a with a|a;exact h p a;exact g p a
def LS.one {x y}(h:Sx x y):LS [x] [y]:=⟨[(x,y)],rfl,rfl,λp a=>by simp at a;subst a;exact h⟩
def LS.filter {l m}(h:LS l m){f g}(b:∀x y,x∈l->y∈m->Sx x y->f x=g y):LS (l.filter f) (m.filter g):=by
 obtain⟨L,rfl,rfl,h⟩:=h;refine⟨L.filter λp=>f p.1,by rw[List.filter_map];rfl,?_,λp a=>h p (BP.1 a).1⟩;rw[List.filter_map];congr 1;exact List.filter_congr λp a=>(b p.1 p.2 (AN.2 ⟨p,a,rfl⟩) (AN.2 ⟨p,a,rfl⟩) (h p a)).symm
def LS.of_ren {N ar l}(h:BB N ar l):LS l (l.map YtmoeoppbmhfbpabGreatDoorJ.ren):=⟨l.map λx=>(x,YtmoeoppbmhfbpabGreatDoorJ.ren x),by simp[Function.comp_def],by simp[Function.comp_def],λp a=>by
 obtain⟨x,b,rfl⟩:=AN.1 a
 exact h.sx b⟩
def LS.nmd {l m}(h:LS l m){p}(c:K9 l p):K9 m p:=by
 obtain⟨x,g,c⟩:=c;obtain⟨y,i,d⟩:=h.mem g;refine⟨y,i,?_⟩;rcases c with rfl|⟨a,ha,rfl⟩;exact .inl d.B.symm;obtain⟨b,f,-,e,-⟩:=d.mem ha;exact .inr ⟨b,f,e⟩
def LS.rld {l m}(h:LS l m){p}(c:Rk l p):Rk m p:=by
 obtain⟨x,d,b,rfl⟩:=c;obtain⟨y,e,a⟩:=h.mem d;exact⟨y,e,a.o.symm.trans b,a.B.symm⟩
def LS.once {l m}(h:LS l m){p q}(j:Gs l p q):Gs m p q:=by
 obtain⟨x,d,rfl,a,i,rfl⟩:=j;obtain⟨y,f,c⟩:=h.mem d;obtain⟨b,g,-,e,-⟩:=c.mem i;exact⟨y,f,c.B.symm,b,g,e⟩
def aW (N:ol)(l:n0):Prop:=∀x∈l,x.h.B∈N/\∀a∈x.A,a.B∈N
def BB.nm {N ar l}(h:BB N ar l):aW N l:=λx b=>⟨Vb h ⟨x,b,.inl rfl⟩,λa c=>Vb h ⟨x,b,.inr ⟨a,c,rfl⟩⟩⟩
def Rr {N l m}(f:aW N l)(c:aW N m):Rt N m l=false↔∀p,K9 m p->Rk l p->Rk m p:=by
 have u:∀p,K9 m p->p∈N:=λp ⟨x,b,h⟩=>by
  rcases h with rfl|⟨a,ha,rfl⟩;exact (c x b).1;exact (c x b).2 a ha
 constructor;intro h p d i;have g:=u p d;have s:=CS g;have:=EV.1 h (N.idxOf p) (nn s);have r:Dr N l (N.idxOf p)=true:=(Lu (λx b=>(f x b).1) g).2 i;have e2:Il N m (N.idxOf p)=true:=by
  obtain⟨x,b,d⟩:=d;refine CU.2 ⟨x,b,?_⟩;rcases d with rfl|⟨a,ha,rfl⟩;simp;simp only[LF,CU,CV];exact .inr ⟨a,ha,rfl⟩
 rw[r,e2]at this;refine (Lu (λx b=>(c x b).1) g).1 ?_;simpa using this;intro h;refine EV.2 λk _ o=>?_;simp only[BM,FJ]at o;obtain⟨⟨d,i⟩,t⟩:=o;obtain⟨x,b,n⟩:=CU.1 d;simp only[BM,FJ,CV]at n;obtain⟨z,j,q⟩:=CU.1 t;simp only[LF,CU,CV]at q;have v:K9 m x.h.B:=by
  refine⟨z,j,?_⟩;rcases q with e|⟨a,ha,e⟩;exact .inl (E9 (c z j).1 (f x b).1 AA);exact .inr ⟨a,ha,E9 ((c z j).2 a ha) (f x b).1 AA⟩
 have:=(Lu (λx b=>(c x b).1) (f x b).1).2 (h _ v ⟨x,b,n.1,rfl⟩);rw[n.2,i]at this;cases this
def zX {l}(h:(Co l).1=0):∃ar,aG l ar:=by
 have F:∀i,i<Z l->Gn l i=false:=by
  unfold Co at h;split at h;cases h;rename_i E;exact Jo E
 have two:∀(i j:Nat) (x y:AB) (a b:AE),i<=j->l[i]?=some x->l[j]?=some y->a∈Af x->b∈Af y->a.B=b.B->Z a.A=Z b.A:=λi j x y a b G o m g u e=>by
  have f:∀(n k:Nat) (c d:AE),(Af y)[k]?=some d->c∈Ct l y j k->c.B=d.B->Z c.A=Z d.A:=λn k c d A C e=>by
   have t:=F j (BA.1 m).1;unfold Gn at t;rw[m]at t;simp only at t;have q:=(BA.1 A).1;have:=EV.1 t k (nn q);unfold Mh at this;rw[A]at this;simp only[JE]at this;have:=EV.1 this c C;unfold clash at this;simp only[BM,DO,CV,not_and,ne_eq,Decidable.not_not]at this;exact this e
  obtain⟨n,s⟩:=CL u;by_cases D:i<j;refine f 0 n a b s (GK _ (EX.2 ⟨x,AY (i:=i) (by rw[GF,if_pos D];exact o),g⟩)) e;have:i=j:=AA;subst this;rw[o]at m;cases m;obtain⟨k,q⟩:=CL g;rcases KE k n with r|r|r;exact f 0 n a b s (LI _ (AY (i:=k) (by rw[GF,if_pos r];exact q))) e;subst r;rw[q]at s;cases s;rfl;exact (f 0 k b a q (LI _ (AY (i:=n) (by rw[GF,if_pos r];exact s))) e.symm).symm
 refine⟨λp=>Classical.epsilon λn=>∃x∈l,∃a∈Af x,a.B=p/\Z a.A=n,λx o a g=>?_⟩;obtain⟨y,m,b,u,v,e2⟩:=Classical.epsilon_spec (p:=λn=>∃x∈l,∃b∈Af x,b.B=a.B/\Z b.A=n) ⟨_,x,o,a,g,rfl,rfl⟩;obtain⟨i,B⟩:=CL o;obtain⟨j,z⟩:=CL m;refine Eq.trans ?_ e2;rcases Nat.le_total i j with h|h;exact two i j x y a b h B z g u v.symm;exact (two j i y x b a h z B u g v).symm
def Qw {l m}(h:LS l m)(r:∀x∈l,x.o=true->x.A=[])(s:∀x∈m,x.o=true->x.A=[])(n:(Co l).1=0):(Co m).1=0:=by
 obtain⟨q,p⟩:=zX n;have g:=h.symm;rw[Vl (l:=l) (ar:=q) (λy i a f=>?_) (λy i=>?_) n r s λy i=>?_];obtain⟨x,d,c⟩:=g.mem i;have o:(y.o=false/\a=y.h)\/a∈y.A:=by
  unfold Af at f;cases j:y.o<;>simp[j]at f;rcases f with h|h;exact .inl ⟨rfl,h⟩;exact .inr h;exact .inr f
 rcases o with⟨j,rfl⟩|o;have:=p x d x.h (Ap (.inl ⟨c.o.symm.trans j,rfl⟩));rw[c.hl,this,c.B];obtain⟨b,k,-,e,e2⟩:=c.mem o;have:=p x d b (Ap (.inr k));rw[<-e2,this,e];obtain⟨x,d,c⟩:=g.mem i;rw[c.sf];exact Pw n d;obtain⟨x,d,c⟩:=g.mem i;refine⟨x,d,c.o.symm,c.B.symm,λa f=>?_⟩;obtain⟨b,k,t,e2,-⟩:=c.mem f;exact⟨b,k,e2,t⟩
def fM {l m}(h:LS l m):Z (Cr l)=Z (Cr m):=by
 obtain⟨L,rfl,rfl,h⟩:=h;unfold Cr;induction L with
 |nil=>rfl
 |cons p L b=>
  have d:=(h p nk).len;have c:=b λq a=>h q (by simp[a]);simp only[CC,DN,AX];rw[d,c]
def SC {N N2 l m d b}(h:LS l d)(g:LS m b)(f:aW N l)(u:aW N m)(v:aW N2 d)(r:aW N2 b)(n:∀x∈m,x.o=true->x.A=[])(t:∀x∈b,x.o=true->x.A=[])(c:C5 N l m=true):C5 N2 d b=true:=by
 unfold C5 at c⊢;simp only[BM,FJ,DO]at c⊢;obtain⟨a,e,s⟩:=c;refine⟨?_,?_,Qw g n t s⟩;unfold Jk at a⊢;simp only[BM,CV,CX]at a⊢;refine⟨by rw[<-g.len];exact a.1,λy o=>?_,by rw[<-fM g];exact a.2.2⟩;obtain⟨x,j,k⟩:=g.symm.mem o;rw[k.bl];exact a.2.1 x j;rw[Rr f u]at e;rw[Rr v r];exact λp q i=>g.rld (e p (g.symm.nmd q) (h.symm.rld i))
section
variable {N N2:ol} {ar ar2:Tx->Nat} {R R2:n0} {x x2:AB}
theorem RN (h:N8 N ar R x)(n:∀y∈R,XR y)(g:XR x){a}(d:LA R (x.A.map Cw) a):LA (R.map ren) ((ren x).A.map Cw) (rA (Is (C6 (Au x))) a)/\rA (Is (Ic (Au x))) (rA (Is (C6 (Au x))) a)=a:=by
 have j:∀y∈R,∀a,a=y.h\/a∈y.A->∀t∈a.A,VT t:=λy e a d t f=>by
  rcases d with rfl|d;exact ((h.ru y e).vt t f).1;exact ((h.ru y e).vb a d t f).1
 have i:∀b∈x.A,∀t∈b.A,VT t:=λb c t f=>(h.x.vb b c t f).1;have k:∀a∈x.A.map Cw,rA (Is (C6 (Au x))) a∈(ren x).A.map Cw:=λa d=>by
  obtain⟨b,c,rfl⟩:=AN.1 d;rw[g.frz (Ap (.inr c)) (i b c)];exact AN.2 ⟨_,AN.2 ⟨b,c,rfl⟩,rfl⟩
 have m:∀a∈x.A.map Cw,rA (Is (Ic (Au x))) (rA (Is (C6 (Au x))) a)=a:=λa d=>by
  obtain⟨b,c,rfl⟩:=AN.1 d;rw[g.frz (Ap (.inr c)) (i b c),g.frz_back (Ap (.inr c)) (i b c)]
 exact⟨λS l=>d _ (vS j k ((iD n).2 l)),d (λa=>rA (Is (Ic (Au x))) (rA (Is (C6 (Au x))) a)=a) (vT (λy e=>j y e _ (.inl rfl)) (λy e=>(h.ru y e).safe) m)⟩
theorem RO (h:N8 N ar R x)(m:∀y∈R,XR y)(j:XR x){a}(e:LA (R.map ren) ((ren x).A.map Cw) a):LA R (x.A.map Cw) (rA (Is (Ic (Au x))) a)/\rA (Is (C6 (Au x))) (rA (Is (Ic (Au x))) a)=a:=by
 have l:∀y∈R,∀a,a=y.h\/a∈y.A->∀t∈a.A,VT t:=λy f a e t g=>by
  rcases e with rfl|e;exact ((h.ru y f).vt t g).1;exact ((h.ru y f).vb a e t g).1
 have k:∀b∈x.A,∀t∈b.A,VT t:=λb d t g=>(h.x.vb b d t g).1;have n:∀a∈(ren x).A.map Cw,rA (Is (Ic (Au x))) a∈x.A.map Cw:=λa e=>by
  obtain⟨c,i,rfl⟩:=AN.1 e;obtain⟨b,d,rfl⟩:=AN.1 i;rw[j.frz_back (Ap (.inr d)) (k b d)];exact AN.2 ⟨b,d,rfl⟩
 have p:∀a∈(ren x).A.map Cw,rA (Is (C6 (Au x))) (rA (Is (Ic (Au x))) a)=a:=λa e=>by
  obtain⟨c,i,rfl⟩:=AN.1 e;obtain⟨b,d,rfl⟩:=AN.1 i;rw[j.frz_back (Ap (.inr d)) (k b d),j.frz (Ap (.inr d)) (k b d)]
 exact⟨λS o=>e _ ((iD m).1 (vS l n o)),e (λa=>rA (Is (C6 (Au x))) (rA (Is (Ic (Au x))) a)=a) ((iD m).1 (vT (λy f=>l y f _ (.inl rfl)) (λy f=>(h.ru y f).safe) p))⟩
theorem YG (h:N8 N ar R x)(h2:N8 N2 ar2 R2 x2)(q:∀y∈R,XR y)(c:XR x)(r:∀y∈R2,XR y)(e:XR x2)(hR:R.map ren=R2.map ren)(j:ren x=ren x2){b s}
  (u:aD (R.map (Ed N)) (Fy N x) (Ed N x).h.p.toNat (C4 (Fx (Ed N x).h)) b) (k:aD (R2.map (Ed N2)) (Fy N2 x2) (Ed N2 x2).h.p.toNat (C4 (Fx (Ed N2 x2).h)) s):b=s:=by
 have i:∀{N:ol} {ar:Tx->Nat} {R:n0} {x:AB} (h:N8 N ar R x) (c:XR x),rA (Is (C6 (Au x))) (Cw x.h)=Cw (ren x).h/\rA (Is (Ic (Au x))) (Cw (ren x).h)=Cw x.h:=λh c=>
  ⟨c.frz (Ap (.inl ⟨c.o,rfl⟩)) λt n=>(h.x.vt t n).1,c.frz_back (Ap (.inl ⟨c.o,rfl⟩)) λt n=>(h.x.vt t n).1⟩
 refine ZM h h2 (f:=λa=>rA (Is (Ic (Au x2))) (rA (Is (C6 (Au x))) a)) (g:=λa=>rA (Is (Ic (Au x))) (rA (Is (C6 (Au x2))) a)) (λa o=>?_) (λa o=>?_) ?_ ?_ u k;obtain⟨d,p⟩:=RN h q c o;rw[hR,j]at d;obtain⟨l,m⟩:=RO h2 r e d;exact⟨l,by rw[m,p]⟩;obtain⟨d,p⟩:=RN h2 r e o;rw[<-hR,<-j]at d;obtain⟨l,m⟩:=RO h q c d;exact⟨l,by rw[m,p]⟩;rw[(i h c).1,j,(i h2 e).2];rw[(i h2 e).1,<-j,(i h c).2]
end
def MO (o b:Option n0):Prop:=(o=none/\b=none)\/∃m a,o=some m/\b=some a/\LS m a
def NR (l:n0)(q:Tx):Prop:=∃x∈l,x.o=true/\(x.h.B=q\/Way (Gs l) x.h.B q)
def Vq {N l M}(b:aW N l)(e:Dw N l M){q}(c:q∈N):Kr N (F9 (Z N) M (Z N)) l (N.idxOf q)=true↔NR l q:=by
 unfold Kr NR;simp only[CU,BM,LF,CV];constructor;rintro⟨x,a,d,h⟩;refine⟨x,a,d,?_⟩;rcases h with h|h;exact .inl (E9 (b x a).1 c h);exact .inr ((Mv b e (b x a).1 c).1 h);rintro⟨x,a,d,h⟩;refine⟨x,a,d,?_⟩;rcases h with rfl|h;exact .inl rfl;exact .inr ((Mv b e (b x a).1 c).2 h)
section
variable {N N2:ol} {ar ar2:Tx->Nat} {l l2:n0} (h:LS l l2) (hR:BB N ar l) (hR2:BB N2 ar2 l2)
include h
theorem LS.way {p q}(w:Way (Gs l) p q):Way (Gs l2) p q:=w.map' λ_ _=>h.once
theorem LS.wnt {q}(w:NR l q):NR l2 q:=by
 obtain⟨x,c,b,w⟩:=w;obtain⟨y,d,a⟩:=h.mem c;refine⟨y,d,a.o.symm.trans b,?_⟩;rw[<-a.B];exact w.imp id λw=>h.way w
include hR hR2
theorem Zj {m a}(g:LS m a)(e:aW N m)(b:aW N2 a)(c:∀x∈m,x.o=true->x.A=[])(d:∀x∈a,x.o=true->x.A=[]):C5 N l m=C5 N2 l2 a:=
 GI.2 ⟨SC h g hR.nm e hR2.nm b c d,SC h.symm g.symm hR2.nm b hR.nm e d c⟩
theorem kq {o f}(e:KT N l o)(b:KT N2 l2 f):MO o f:=by
 obtain⟨M,s,e⟩:=e;obtain⟨i,n,b⟩:=b
 have c:LS (Hq N (F9 (Z N) M (Z N)) l) (Hq N2 (F9 (Z N2) i (Z N2)) l2):=h.filter λx y a p m=>GI.2 (by
  rw[Vq hR.nm s (hR.nm x a).1,Vq hR2.nm n (hR2.nm y p).1,m.B]
  exact⟨λw=>h.wnt w,λw=>h.symm.wnt w⟩)
 have j:=Zj h hR hR2 c (λx a=>hR.nm x (BP.1 a).1) (λx a=>hR2.nm x (BP.1 a).1) (λx a=>(hR.gl.msr x (BP.1 a).1).o) (λx a=>(hR2.gl.msr x (BP.1 a).1).o);have t:=c.len;have q:=h.len;generalize Hq N (F9 (Z N) M (Z N)) l=K at*
 generalize Hq N2 (F9 (Z N2) i (Z N2)) l2=r at*
 rcases e with⟨g,rfl⟩|⟨g,ae⟩;rcases b with⟨-,rfl⟩|⟨k,-⟩;exact .inl ⟨rfl,rfl⟩;exact absurd AA k;rcases b with⟨k,-⟩|⟨-,ad⟩;exact absurd AA g;rcases ae with⟨d,rfl⟩|⟨d,rfl⟩<;>rcases ad with⟨e2,rfl⟩|⟨e2,rfl⟩;exact .inl ⟨rfl,rfl⟩;rw[<-j,d]at e2;cases e2;rw[<-j,d]at e2;cases e2;exact .inr ⟨K,r,rfl,rfl,c⟩
end
def RF {p q:Nat->Nat->Bool}{D:Nat->Nat->Prop}(e:∀i k,D i k->p i k=q i k){i k d c}(l:D i k)(h2:D d c)(j:p i k=true)(f:q d c=true)(m:∀b a,D b a->b<i->p b a=false)(o:∀a,a<k->p i a=false)(n:∀b a,D b a->b<d->q b a=false)(r:∀a,a<c->q d a=false):i=d/\k=c:=by
 rcases KE i d with g|rfl|g;rw[e _ _ l,n i k l g]at j;cases j;refine⟨rfl,?_⟩;rcases KE k c with g|g|g;rw[e _ _ l,r k g]at j;cases j;exact g;rw[<-e _ _ h2,o c g]at f;cases f;rw[<-e _ _ h2,m d c h2 g]at f;cases f
def dF {x}(g:XR x)(k){N:ol}(l:∀a∈x.A,a.B∈N)(c:∀a∈x.A,∀b∈x.A,a.B=b.B->Z a.A=Z b.A):Hj (ren x) k↔Hj x k:=by
 obtain⟨z,o,v⟩:=g.search (N:=N) (k:=k) l c
 obtain⟨y,j,r⟩:=P1 DJ N (ren x) k (λa f=>by
  obtain⟨b,i,rfl⟩:=AN.1 f;exact l b i) (λt d=>g.inO.ut _ (Ap (.inl ⟨g.o,rfl⟩)) t d) (λa f t d=>g.inO.ut _ (Ap (.inr f)) t d) (λa f b i e=>by
  obtain⟨m,n,rfl⟩:=AN.1 f;obtain⟨q,s,rfl⟩:=AN.1 i
  simpa[Br]using c m n q s e) λt d u p e=>DJ.inj t u d p e
 rw[o]at j;cases j;exact r.symm.trans v
def fQ {N ar l}(m:BB N ar l){x}(j:x∈l)(i:x.o=false)(k):(IX N x k).isSome=true↔Db (C8 (ren x) k)=true/\Hj (ren x) k:=by
 have f:=m.ut j;have n:=m.xr j i;have p:=(m.nm x j).2;have b:=m.gl.ar x j;obtain⟨A,s,y⟩:=P1 DJ N x k p (λt g=>f _ (Ap (.inl ⟨i,rfl⟩)) t g) (λa c t g=>f _ (Ap (.inr c)) t g) b λt g u f e=>DJ.inj t u g f e;rw[dF n k p b,<-y];have r:Db (C8 (ren x) k)=Fi (C8 x k):=by
  have d:∀z:AB,(∀a∈Af z,∀t∈a.A,UT t)->z.o=false->Fi (C8 z k)=Db (C8 z k):=λz q v=>J8 (x:=C8 z k) λa c w o=>by
   have c:a=z.h\/a∈z.A.eraseIdx k:=by simpa[Af,C8]using c
   rcases c with rfl|c;exact Me (q _ (Ap (.inl ⟨v,rfl⟩)) w o);exact Me (q _ (Ap (.inr (EE c))) w o)
  rw[<-d (ren x) n.inO.ut i,n.safe k,d x f i]
 rw[r];unfold IX;rw[s];simp only[FU];unfold Mz;split;rename_i d;rw[NF];exact⟨λh=>⟨d,h⟩,λh=>h.2⟩;rename_i d;simp[d]
section
variable {N N2:ol} {ar ar2:Tx->Nat} {l l2:n0} (h:LS l l2) (hR:BB N ar l) (hR2:BB N2 ar2 l2)
theorem Nm {N l o}(b:aW N l)(a:aW N o)(i):aW N (rpl i o l):=λx c=>by
 rcases Cy c with h|h;exact b x h;exact a x h
theorem Nl {N ar l o}(hR:BB N ar l)(b:∀z∈o,z.o=false)(i):∀x∈rpl i o l,x.o=true->x.A=[]:=λx c a=>by
 rcases Cy c with h|h;exact (hR.gl.msr x h).o a;rw[b x h]at a;cases a
theorem SL (hR:BB N ar l)(hR2:BB N2 ar2 l2){x y}(c:x∈l)(v:y∈l2)(i:x.o=false)(t:y.o=false)(g:Sx x y)(k):Sx (C8 x k) (C8 y k):=by
 have one:∀{N:ol} {ar:Tx->Nat} {l:n0} (hR:BB N ar l) {x:AB} (c:x∈l) (d:x.o=false),Sx (C8 x k) (C8 (ren x) k):=λ{N ar l} hR {x} c d=>by
  have f:=hR.xr c d;have u:=hR.ut c;have g:∀a∈Af (C8 x k),a∈Af x:=λa b=>by
   have b:a=x.h\/a∈x.A.eraseIdx k:=by simpa[Af,C8]using b
   rcases b with rfl|b;exact Ap (.inl ⟨d,rfl⟩);exact Ap (.inr (EE b))
  have o:∀a∈Af (C8 (ren x) k),a∈Af (ren x):=λa b=>by
   have b:a=(ren x).h\/a∈(ren x).A.eraseIdx k:=by simpa[Af,C8]using b
   rcases b with rfl|b;exact Ap (.inl ⟨d,rfl⟩);exact Ap (.inr (EE b))
  have j:∀z:AB,Dc z->z.o=false->Dc (C8 z k):=λz n s=>by
   obtain⟨B,p,C,q⟩:=n.2.2 s;exact⟨n.1,(λe=>by cases e),λ_=>⟨B,p,BI (JF _ _) C,λa b=>q a (EE b)⟩⟩
  refine⟨(QT f k).symm,?_,?_⟩;rw[<-pW (j x (hR.wit x c) d) λa b=>u a (g a b),<-QT f k,pW (j (ren x) (Ky (hR.wit x c) (hR.wi x c)) d) λa b=>f.inO.ut a (o a b)];rw[<-J8 (x:=C8 (ren x) k) λa b w A=>Me (f.inO.ut a (o a b) w A),f.safe k]
 have r:=one hR c i;have m:=one hR2 v t;rw[<-g.rn]at m;exact r.trans m.symm
include h hR hR2
theorem rF {i x}(b:l[i]?=some x)(d:x.o=false)(k):eC N l i k=eC N2 l2 i k:=by
 obtain⟨y,o,j⟩:=h.get b;have e:=AY b;have g:=AY o;have n:y.o=false:=j.o.symm.trans d;have q:(IX N x k).isSome=(IX N2 y k).isSome:=GI.2 (by rw[fQ hR e d,fQ hR2 g n,j.rn]);have p:∀{N:ol} {l:n0} (f:aW N l) {x:AB} (b:x∈l),aW N [C8 x k]:=λ{N l} f {x} b=>by
  intro z c;simp at c;subst c;exact⟨(f x b).1,λa r=>(f x b).2 a (EE r)⟩
 have m:∀x:AB,∀z∈[C8 x k],z.o=false:=λx z c=>by simp at c;subst c;rfl
 have e2:=Zj h hR hR2 (h.rpl (LS.one (SL hR hR2 e g d n j k)) i) (Nm hR.nm (p hR.nm e) i) (Nm hR2.nm (p hR2.nm g) i) (Nl hR (m x) i) (Nl hR2 (m y) i);unfold eC;rw[b,o];simp only;rw[q,e2]
theorem kw {o n}(c:KQ N l o)(s:KQ N2 l2 n):MO o n:=by
 have t:∀{i:Nat} {x:AB} {k:Nat},l[i]?=some x->k<Z x.A->x.o=false:=λ{i x k} a b=>by
  cases d:x.o with
  |false=>rfl
  |true=>rw[(hR.gl.msr x (AY a)).o d]at b;cases b
 rcases c with⟨rfl,m⟩|⟨i,k,y,rfl,hy,d,b,aa,m,ak⟩;rcases s with⟨rfl,-⟩|⟨i,k,y,rfl,hy,d,b,aa,-⟩;exact .inl ⟨rfl,rfl⟩;obtain⟨x,a,c⟩:=h.symm.get hy;have r:k<Z x.A:=by rw[<-c.bl];exact b
 rw[<-rF h hR hR2 a (t a r),m i x (BA.1 a).1 a k r]at aa;cases aa;rcases s with⟨rfl,v⟩|⟨i2,k2,y2,rfl,ad,aj,ao,ac,hm,an⟩;obtain⟨x,a,c⟩:=h.get hy;rw[rF h hR hR2 hy d,v i x (BA.1 a).1 a k (by rw[<-c.bl];exact b)]at aa;cases aa;obtain⟨x2,e,u⟩:=h.symm.get ad
 obtain⟨rfl,rfl⟩:=RF (p:=eC N l) (q:=eC N2 l2) (D:=λi k=>∃x,l[i]?=some x/\k<Z x.A) (λi k ⟨x,a,b⟩=>rF h hR hR2 a (t a b) k) ⟨y,hy,b⟩ ⟨x2,e,by rw[<-u.bl];exact ao⟩ aa ac (λg f ⟨x,a,b⟩ j=>m g x j a f b) ak (λg f ⟨x,a,b⟩ j=>by
  obtain⟨z,A,c⟩:=h.get a
  exact hm g z j A f (by rw[<-c.bl];exact b)) an
 rw[hy]at e;cases e;exact .inr ⟨_,_,rfl,rfl,h.rpl (LS.one (SL hR hR2 (AY hy) (AY ad) d aj u.symm k)) i⟩
theorem im (i):LS (oth l i (Z l)) (oth l2 i (Z l2)):=by
 obtain⟨L,rfl,rfl,b⟩:=h;refine⟨(L.eraseIdx i).filter λp=>!p.1.o,?_,?_,λp a=>b p (EE (BP.1 a).1)⟩;unfold oth;rw[AS,Hz,List.filter_map];rfl;unfold oth;rw[AS,Hz,List.filter_map];congr 1;exact List.filter_congr λp a=>by simp only[Function.comp,(b p (EE a)).o]
theorem gN {i x y}(f:l[i]?=some x)(j:l2[i]?=some y)(d:x.o=false){b k}(p:gO N l i x b)(c:gO N2 l2 i y k):b=k:=by
 obtain⟨q,g,n⟩:=h.get f;rw[j]at g;cases g;have o:=AY f;have e:=AY j;have m:y.o=false:=n.o.symm.trans d;exact YG (ar:=ar) (ar2:=ar2) ⟨λz a=>hR.ru z (E8 a).1 (E8 a).2,hR.ru x o d⟩ ⟨λz a=>hR2.ru z (E8 a).1 (E8 a).2,hR2.ru y e m⟩ (λz a=>hR.xr (E8 a).1 (E8 a).2) (hR.xr o d) (λz a=>hR2.xr (E8 a).1 (E8 a).2) (hR2.xr e m) (im h hR hR2 i).ren n.rn p c
theorem Vi (i):C5 N l (rpl i [] l)=C5 N2 l2 (rpl i [] l2):=
 Zj h hR hR2 (h.rpl (LS.refl []) i) (Nm hR.nm (λx b=>by cases b) i) (Nm hR2.nm (λx b=>by cases b) i) (Nl hR (λz a=>by cases a) i) (Nl hR2 (λz a=>by cases a) i)
theorem ks {o p}(a:KS N l o)(n:KS N2 l2 p):MO o p:=by
 rcases a with⟨rfl,m⟩|⟨i,x,rfl,c,ho,hb,hi,m⟩;rcases n with⟨rfl,-⟩|⟨i,y,rfl,b,ho,hb,hi,-⟩;exact .inl ⟨rfl,rfl⟩;obtain⟨x,c,a⟩:=h.symm.get b;have d:x.o=false:=a.o.symm.trans ho;have:=gN h hR hR2 c b d (m i x (BA.1 c).1 c d (by rw[Vi h hR hR2];exact hb)) hi;cases this;rcases n with⟨rfl,k⟩|⟨j,y,rfl,b,ac,ae,ad,k⟩;obtain⟨y,b,a⟩:=h.get c;have:=gN h hR hR2 c b ho hi (k i y (BA.1 b).1 b (a.o.symm.trans ho) (by rw[<-Vi h hR hR2];exact hb));cases this;have e:i=j:=by
  rcases KE i j with g|g|g;obtain⟨z,f,a⟩:=h.get c;have:=gN h hR hR2 c f ho hi (k i z g f (a.o.symm.trans ho) (by rw[<-Vi h hR hR2];exact hb));cases this;exact g;obtain⟨z,f,a⟩:=h.symm.get b;have q:z.o=false:=a.o.symm.trans ac;have:=gN h hR hR2 f b q (m j z g f q (by rw[Vi h hR hR2];exact ae)) ad;cases this
 subst e;exact .inr ⟨_,_,rfl,rfl,h.rpl (LS.refl []) i⟩
end
def SY {N N2 ar ar2 l b}(d:BB N ar l)(a:BB N2 ar2 b){x y}(e:x∈l)(c:y∈b)(f:Sx x y):Bw x=Bw y:=by rw[Kq (d.wit x e),Kq (a.wit y c),f.rn]
def Va {l n q y}(a:y∈E5 l n q):y∈l:=by
 obtain⟨r,b,rfl⟩:=AN.1 a;exact LB (BP.1 b).1
section
variable {N N2:ol} {ar ar2:Tx->Nat} {l l2:n0} (h:LS l l2) (hR:BB N ar l) (hR2:BB N2 ar2 l2)
include h hR hR2
theorem TF {x y}(r:x∈l)(i:y∈l2)(g:x.o=false)(u:Sx x y)(k q):uL N l x k q=uL N2 l2 y k q:=by
 have e:∀(N:ol) (l:n0) (x:AB),uL N l x k q=(l.filter (Fw q)).filterMap λz=>(Kt N x k z).map (Cz N):=λN l x=>by
  unfold uL Lo;rw[List.map_filterMap]
 rw[e,e];have I:y.o=false:=u.o.symm.trans g
 have A:∀{z w:AB},w∈l2->Sx z w->z.h.B∈N2/\∀a∈z.A,a.B∈N2:=λ{z w} d j=>⟨by rw[j.B];exact (hR2.nm w d).1,λa E=>by
  obtain⟨b,H,-,e,-⟩:=j.mem E
  rw[<-e];exact (hR2.nm w d).2 b H⟩
 have m:∀z w,z∈l->w∈l2->z.o=false->Sx z w->(Kt N x k z).map (Cz N)=(Kt N2 y k w).map (Cz N2):=λz w t d B j=>by
  have D:w.o=false:=j.o.symm.trans B;rw[tQ (N:=N) (N2:=N2) (hR.xr r g) (hR.xr t B) (hR.ut r) (hR.ut t) (hR.nm x r) (hR.nm z t).2 (A i u) (A d j).2,tQ (N:=N2) (N2:=N2) (hR2.xr i I) (hR2.xr d D) (hR2.ut i) (hR2.ut d) (hR2.nm y i) (hR2.nm w d).2 (hR2.nm y i) (hR2.nm w d).2,u.rn,j.rn]
 clear e;obtain⟨L,rfl,rfl,v⟩:=h;clear r i;have n:∀p∈L,p.1∈L.map (·.1):=λp c=>AN.2 ⟨p,c,rfl⟩;have C:∀p∈L,p.2∈L.map (·.2):=λp c=>AN.2 ⟨p,c,rfl⟩;have o:∀p∈L,p.1.o=false->(Kt N x k p.1).map (Cz N)=(Kt N2 y k p.2).map (Cz N2):=λp c g=>m _ _ (n p c) (C p c) g (v p c);clear n C hR hR2 A m;induction L with
 |nil=>rfl
 |cons p L s=>
  have s:=s (λq f=>v q (by simp[f])) λq f=>o q (by simp[f]);have c:=v p nk;have G:Fw q p.1=Fw q p.2:=by unfold Fw;rw[c.o,c.B]
  simp only[CC,List.filter_cons];rw[<-G];cases f:Fw q p.1 with
  |false=>exact s
  |true=>
   have g:p.1.o=false:=by
    unfold Fw at f;simp only[BM,FJ]at f;exact f.1
   have F:=o p nk g;simp only[if_true];rw[List.filterMap_cons,List.filterMap_cons,F,s]
theorem ir {M M2}(H:Dw N l M)(B:Dw N2 l2 M2){i k x a}(f:l[i]?=some x)(g:x.o=false)(j:x.A[k]?=some a):Tg N (F9 (Z N) M (Z N)) l i k=Tg N2 (F9 (Z N2) M2 (Z N2)) l2 i k:=by
 obtain⟨y,s,m⟩:=h.get f;obtain⟨b,u,C,e2,-⟩:=m.lit j;have n:=AY f;have p:=AY s;have r:=(hR.nm x n).2 a (AY j);have o:=(hR2.nm y p).2 b (AY u);have D:y.o=false:=m.o.symm.trans g
 have E:F9 (Z N) M (Z N) (N.idxOf a.B) (N.idxOf a.B)=F9 (Z N2) M2 (Z N2) (N2.idxOf b.B) (N2.idxOf b.B):=GI.2 (by
  rw[Mv hR.nm H r r,Mv hR2.nm B o o,e2]
  exact⟨λw=>h.way w,λw=>h.symm.way w⟩)
 have v:Dr N l (N.idxOf a.B)=Dr N2 l2 (N2.idxOf b.B):=GI.2 (by
  rw[Lu (λx f=>(hR.nm x f).1) r,Lu (λx f=>(hR2.nm x f).1) o,e2]
  exact⟨λw=>h.rld w,λw=>h.symm.rld w⟩)
 have t:∀{N:ol} {ar:Tx->Nat} {l:n0} (hR:BB N ar l) {x:AB} (f:x∈l) (g:x.o=false) (q:Tx),aW N (uL N l x k q):=λ{N ar l} hR {x} f g q=>by
  intro z F;obtain⟨A,J⟩:=jD hR f g F;refine⟨by rw[A];exact (hR.nm x f).1,λc I=>?_⟩;obtain⟨w,O,d,K,e⟩:=J c I;rw[<-e];exact (hR.nm w O).2 d K
 have G:C5 N l (rpl i (uL N l x k a.B) l)=C5 N2 l2 (rpl i (uL N2 l2 y k b.B) l2):=by
  have L:=TF h hR hR2 n p g m k a.B;rw[e2];refine Zj h hR hR2 (h.rpl (by rw[L];exact LS.refl _) i) (Nm hR.nm (t hR n g _) i) (Nm hR2.nm (t hR2 p D _) i) (Nl hR QF i) (Nl hR2 QF i)
 unfold Tg;rw[f,s];simp only;rw[j,u];simp only;rw[C,E,v,G]
theorem kl {o A}(f:KU N l o)(j:KU N2 l2 A):MO o A:=by
 obtain⟨M,I,f⟩:=f;obtain⟨C,K,j⟩:=j;have G:∀{N:ol} {ar:Tx->Nat} {l:n0} (hR:BB N ar l) {i:Nat} {x:AB} {k:Nat},l[i]?=some x->k<Z x.A->x.o=false:=λ{N ar l} hR {i x k} c d=>by
  cases g:x.o with
  |false=>rfl
  |true=>rw[(hR.gl.msr x (AY c)).o g]at d;cases d
 have t:∀{i k:Nat} {x:AB},l[i]?=some x->k<Z x.A->Tg N (F9 (Z N) M (Z N)) l i k=Tg N2 (F9 (Z N2) C (Z N2)) l2 i k:=λ{i k x} c d=>ir h hR hR2 I K c (G hR c d) (AK d);rcases f with⟨rfl,u⟩|⟨i,k,y,a,rfl,hy,g,ha,aa,u,ak⟩;rcases j with⟨rfl,-⟩|⟨i,k,y,a,rfl,hy,g,ha,aa,-⟩;exact .inl ⟨rfl,rfl⟩;obtain⟨x,c,f⟩:=h.symm.get hy;have B:k<Z x.A:=by rw[<-f.bl];exact (BA.1 ha).1
 rw[<-t c B,u i x (BA.1 c).1 c k B]at aa;cases aa;have d:=(BA.1 ha).1;rcases j with⟨rfl,F⟩|⟨i2,k2,y2,a2,rfl,af,au,ai,ae,hm,an⟩;obtain⟨x,c,f⟩:=h.get hy;rw[t hy d,F i x (BA.1 c).1 c k (by rw[<-f.bl];exact d)]at aa;cases aa;have J:=(BA.1 ai).1;obtain⟨x2,n,v⟩:=h.symm.get af
 obtain⟨rfl,rfl⟩:=RF (p:=Tg N (F9 (Z N) M (Z N)) l) (q:=Tg N2 (F9 (Z N2) C (Z N2)) l2) (D:=λi k=>∃x,l[i]?=some x/\k<Z x.A) (λi k ⟨x,c,d⟩=>t c d) ⟨y,hy,d⟩ ⟨x2,n,by rw[<-v.bl];exact J⟩ aa ae (λr m ⟨x,c,d⟩ s=>u r x s c m d) ak (λr m ⟨x,c,d⟩ s=>by
  obtain⟨z,H,f⟩:=h.get c
  exact hm r z s H m (by rw[<-f.bl];exact d)) an
 rw[hy]at n;cases n;obtain⟨b,E,-,e,-⟩:=v.symm.lit ha;rw[ai]at E;cases E;refine .inr ⟨_,_,rfl,rfl,h.rpl ?_ i⟩;rw[e,TF h hR hR2 (AY hy) (AY af) g v.symm k a.B];exact LS.refl _
theorem iv (n q):LS (E5 l n q) (E5 l2 n q):=by
 obtain⟨L,rfl,rfl,b⟩:=h;refine⟨(L.zipIdx.filter λp=>Ik n q (p.1.1,p.2)).map (·.1),?_,?_,λp a=>?_⟩;unfold E5;rw[List.zipIdx_map,List.filter_map,BH,BH];rfl;unfold E5;rw[List.zipIdx_map,List.filter_map,BH,BH];have:L.zipIdx.filter (Ik n q∘Prod.map (·.2) id)=L.zipIdx.filter λp=>Ik n q (p.1.1,p.2):=List.filter_congr λp a=>by
  have c:=b p.1 (LB a);simp only[Function.comp,Prod.map,id,Ik,Fw];rw[c.o,c.B]
 rw[this];rfl;obtain⟨r,d,rfl⟩:=AN.1 a;exact b _ (LB (BP.1 d).1)
theorem gw {x y}(i:x∈l)(m:y∈l2)(d:Sx x y):Jf x=Jf y/\(match x.A with|[a]=>some a.B|_=>none)=(match y.A with|[a]=>some a.B|_=>none):=by
 have p:=d.bl;have n:=SY hR hR2 i m d;have o:=d.B;have g:=λj a=>@Sx.lit x y d j a;unfold Jf;rw[n,o];generalize x.A=k at*
 generalize y.A=q at*
 match k,q,p with
 |[],[],_=>exact⟨rfl,rfl⟩
 |[a],[b],_=>
  obtain⟨c,f,-,e,-⟩:=g 0 a rfl;have:b=c:=nn f;subst this;simp only;rw[e];exact⟨rfl,rfl⟩
 |_::_::_,_::_::_,_=>exact⟨rfl,rfl⟩
theorem Wy (n q):Ez l n q=Ez l2 n q:=by
 have a:=iv h hR hR2 n q;have b:=λy=>@Va l n q y;have e:=λy=>@Va l2 n q y;unfold Ez;generalize E5 l n q=A at*
 generalize E5 l2 n q=B at*
 match A,B,a.len,a with
 |[],[],_,_=>rfl
 |[x],[y],_,a=>
  obtain⟨z,d,c⟩:=a.get (i:=0) rfl;have:y=z:=nn d;subst this;obtain⟨f,e2⟩:=gw h hR hR2 (b x nk) (e y nk) c;simp only;rw[f];split;exact e2;rfl
 |_::_::_,_::_::_,_,_=>rfl
theorem gD {i x}(g:l[i]?=some x):Yk N l i=Yk N2 l2 i:=by
 obtain⟨y,n,f⟩:=h.get g;have j:=AY g;have q:=AY n;unfold Yk;rw[g,n];simp only;have s:Lj x=Lj y:=by unfold Lj;rw[SY hR hR2 j q f,f.B]
 rw[s,<-Wy h hR hR2,<-f.B];congr 1;cases d:Ez l i x.h.B with
 |none=>rfl
 |some e=>
  simp only;have m:∀{N:ol} {l:n0},aW N l->Ez l i x.h.B=some e->x.h.B∈N->aW N [Cn x.h.B e]:=λ{N l} v r p=>by
   intro z c;simp at c;subst c;obtain⟨w,u,b,t,rfl⟩:=VB r;have d:=(v w u).2 b t
   exact⟨p,λa o=>by
    simp only[Cn,BD,EK,DZ]at o;rcases o with rfl|rfl;exact d
    exact p⟩
  have k:∀z∈[Cn x.h.B e],z.o=false:=λz c=>by simp at c;subst c;rfl
  exact Zj h hR hR2 (h.rpl (LS.refl _) i) (Nm hR.nm (m hR.nm d (hR.nm x j).1) i) (Nm hR2.nm (m hR2.nm (by rw[<-Wy h hR hR2];exact d) (by rw[f.B];exact (hR2.nm y q).1)) i) (Nl hR k i) (Nl hR2 k i)
theorem ku {o m}(b:KR N l o)(k:KR N2 l2 m):MO o m:=by
 rcases b with⟨rfl,f⟩|⟨i,x,e,rfl,a,-,he,aa,f⟩;rcases k with⟨rfl,-⟩|⟨i,y,e,rfl,c,-,he,aa,-⟩;exact .inl ⟨rfl,rfl⟩;obtain⟨x,a,b⟩:=h.symm.get c;rw[<-gD h hR hR2 a,f i (BA.1 a).1]at aa;cases aa;rcases k with⟨rfl,d⟩|⟨j,y,e2,rfl,c,-,ae,ab,d⟩;obtain⟨y,c,b⟩:=h.get a;rw[gD h hR hR2 a,d i (BA.1 c).1]at aa;cases aa;have p:i=j:=by
  rcases KE i j with g|g|g;rw[gD h hR hR2 a,d i g]at aa;cases aa;exact g;obtain⟨z,q,-⟩:=h.symm.get c;rw[<-gD h hR hR2 q,f j g]at ab;cases ab
 subst p;obtain⟨r,n,b⟩:=h.get a;rw[c]at n;cases n;rw[<-Wy h hR hR2,<-b.B,he]at ae;cases ae;refine .inr ⟨_,_,rfl,rfl,h.rpl ?_ i⟩;rw[b.B];exact LS.refl _
theorem TM {c o d}(b:FQ N c l o)(a:FQ N2 c l2 d):MO o d:=by
 rcases b with⟨rfl,b⟩|⟨rfl,b⟩|⟨rfl,b⟩|⟨rfl,b⟩|⟨rfl,b⟩<;>rcases a with⟨e,a⟩|⟨e,a⟩|⟨e,a⟩|⟨e,a⟩|⟨e,a⟩<;>first|cases e;done|skip
 exact kq h hR hR2 b a;exact kw h hR hR2 b a;exact ks h hR hR2 b a;exact kl h hR hR2 b a;exact ku h hR hR2 b a
end
def LS.mk {l m}(c:Z l=Z m)(h:∀(i:Nat) (x y:AB),l[i]?=some x->m[i]?=some y->Sx x y):LS l m:=
 ⟨l.zip m,by rw[List.map_fst_zip AA],by rw[List.map_snd_zip AA],λp b=>by
  obtain⟨i,a⟩:=CL b;rw[List.getElem?_zip_eq_some]at a
  exact h i _ _ a.1 a.2⟩
def LS.trans {l m k}(h:LS l m)(g:LS m k):LS l k:=LS.mk (h.len.trans g.len) λi x z b d=>by
 obtain⟨y,c,f⟩:=h.get b;obtain⟨w,a,e⟩:=g.get c;rw[d]at a;cases a;exact f.trans e
def GR (T:n0->Option n0->Prop):Nat->n0->n0->Prop
 |0,l,a=>a=l
 |k+1,l,a=>∃b,T l (some b)/\GR T k b a
def GR.snoc {T}:∀{k:Nat} {l a b:n0},GR T k l a->T a (some b)->GR T (k+1) l b
 |0,_,_,_,e,h=>by cases e;exact⟨_,h,rfl⟩
 |k+1,_,_,_,⟨m,d,c⟩,h=>⟨m,d,c.snoc h⟩
def FH.stps {T b m a l c}(h:FH T b l m c a):∃k:Nat,a=m+k/\GR T k l c/\(0<k->a<=b):=by
 induction h with
 |refl=>exact⟨0,AA,rfl,AA⟩
 |snoc _ g f d=>
  obtain⟨k,e,h,-⟩:=d;exact⟨k+1,AA,h.snoc f,AA⟩
def Ly (p:Tx)(x:AB):Bool:=x.h.B==p||x.A.any λa=>a.B==p
def lK (l cs idl p)(A:EL AJ l cs)(I:Z l<=1000)(C:∀x∈l,x.fits)(k):ni 200 [sl idl (Z l) cs,str p] k λr σ'=>r=my (l.any (Ly p))/\AD k σ':=by
 have G:=EL.length Cf A;refine Z9 28 [.tmp 4] Tryz.func200 ?_;refine mr ?_
 refine Ae (λm s σ'=>∃i:Nat,m=Z l-i/\i<=Z l/\s 0=sl idl (Z l) cs/\s 1=str p/\s 5=ic i/\AD k σ'/\AC ((l.take i).any (Ly p)=false)) (Z l)
  ⟨0,AA,AA,by simp[upd,AL],by simp[upd,AL],AG,AD.refl _,by simp[AC]⟩ ?_
 rintro m s σ' ⟨i,rfl,K,J,H,E,j,n⟩;have F:=j.B;by_cases y:i<Z l;have c:AC (l[i]?=some l[i]):=AK y;obtain⟨u,id,b,r,z,D⟩:=Cv A c.o;have v:=C l[i] (AR y);generalize l[i]=x at c z D v;have e:=λk=>Yp x p _ (AJ.of (ih:=u) (id:=id) z) (by have:=v.1;omega) k;unfold A4 at e;have f:AC (Ly p x=true->l.any (Ly p)=true):=λh=>D4 _ c.o h;have o:AC (Ly p x=false->(l.take (i+1)).any (Ly p)=false):=λh=>by rw[any_take_succ _ c.o,n.o,h];rfl
 clear n;by_cases g:x.h.B=p;have q:(x.h.B==p)=true:=nn g;have d:AC (l.any (Ly p)=true):=f.o (by unfold Ly;rw[q];rfl);clear f o c e g;refine mr ?_
 first|exact⟨_,rfl,by rw[d.o],j⟩|exact⟨_,rfl,by rw[d.o]⟩
 have q:(x.h.B==p)=false:=nn g;cases e2:x.A.any λa=>a.B==p with
 |true=>
  have d:AC (l.any (Ly p)=true):=f.o (by unfold Ly;rw[q,e2];rfl);rw[e2]at e;clear f o c g e2;refine m0 ?_;intro yb ya;refine Xi (e _) ?_;rintro _ _ ⟨rfl,t⟩;refine mr ?_
  first|exact⟨_,rfl,by rw[d.o],j.trans t⟩|exact⟨_,rfl,by rw[d.o]⟩
 |false=>
  have d:AC ((l.take (i+1)).any (Ly p)=false):=o.o (by unfold Ly;rw[q,e2];rfl);rw[e2]at e;clear f o c g e2;refine m0 ?_;intro yb ya;refine Xi (e _) ?_;rintro _ _ ⟨rfl,t⟩;refine mr ?_;refine⟨Z l-(i+1),AA,i+1,?_⟩;exact nf d (j.trans t)
 have B:i=Z l:=AA;subst B;rw[AS]at n;refine mr ?_
 first|exact⟨_,rfl,by rw[n.o],j⟩|exact⟨_,rfl,by rw[n.o]⟩
def Mt (l:n0)(p:Tx)(x:AB):Bool:=x.o&&(x.h.B==p||J2 l x.h.B p)
def fS (l cs idl p)(t:EL AJ l cs)(z:Z l<=16)(A:∀x∈l,x.fits)(k):ni 163 [sl idl (Z l) cs,str p] k λr σ'=>r=my (l.any (Mt l p))/\AD k σ':=by
 have F:=EL.length Cf t;refine Z9 38 [.tmp 4] Tryz.func163 ?_;refine mr ?_
 refine Ae (λm s σ'=>∃i:Nat,m=Z l-i/\i<=Z l/\s 0=sl idl (Z l) cs/\s 1=str p/\s 5=ic i/\AD k σ'/\AC ((l.take i).any (Mt l p)=false)) (Z l)
  ⟨0,AA,AA,by simp[upd,AL],by simp[upd,AL],AG,AD.refl _,by simp[AC]⟩ ?_
 rintro m s σ' ⟨i,rfl,J,I,H,D,j,n⟩;have G:=j.B;by_cases y:i<Z l;have c:AC (l[i]?=some l[i]):=AK y;obtain⟨E,id,b,r,C,B⟩:=Cv t c.o;generalize l[i]=x at c C B;have f:=λk=>Sy l cs idl x.h.B p t z A k;have d:AC (Mt l p x=true->l.any (Mt l p)=true):=λh=>D4 _ c.o h;have e:AC (Mt l p x=false->(l.take (i+1)).any (Mt l p)=false):=λh=>by rw[any_take_succ _ c.o,n.o,h];rfl
 clear n;cases o:x.o with
 |false=>
  have a:AC ((l.take (i+1)).any (Mt l p)=false):=e.o (by unfold Mt;rw[o];rfl);clear d e c f;refine mr ?_;refine⟨Z l-(i+1),AA,i+1,?_⟩;exact m9 a
 |true=>
  by_cases g:x.h.B=p;have q:(x.h.B==p)=true:=nn g;have a:AC (l.any (Mt l p)=true):=d.o (by unfold Mt;rw[o,q];rfl);clear d e c f g;refine mr ?_
  first|exact⟨_,rfl,by rw[a.o],j⟩|exact⟨_,rfl,by rw[a.o]⟩
  have q:(x.h.B==p)=false:=nn g;cases e2:J2 l x.h.B p with
  |true=>
   have a:AC (l.any (Mt l p)=true):=d.o (by unfold Mt;rw[o,q,e2];rfl);rw[e2]at f;clear d e c g e2;refine m0 ?_;intro yb ya;refine Xi (f _) ?_;rintro _ _ ⟨rfl,u⟩;refine mr ?_
   first|exact⟨_,rfl,by rw[a.o],j.trans u⟩|exact⟨_,rfl,by rw[a.o]⟩
  |false=>
   have a:AC ((l.take (i+1)).any (Mt l p)=false):=e.o (by unfold Mt;rw[o,q,e2];rfl);rw[e2]at f;clear d e c g e2;refine m0 ?_;intro yb ya;refine Xi (f _) ?_;rintro _ _ ⟨rfl,u⟩;refine mr ?_;refine⟨Z l-(i+1),AA,i+1,?_⟩;exact nf a (j.trans u)
 have v:i=Z l:=AA;subst v;rw[AS]at n;refine mr ?_
 first|exact⟨_,rfl,by rw[n.o],j⟩|exact⟨_,rfl,by rw[n.o]⟩
def I4 {α:Type}{n}{o l:List α}(q:n<Z l):rpl n o l=l.take n++o++l.drop (n+1):=by
 have c:∀(l:List α) (k n:Nat) (o:List α),k<=n->n<k+Z l->(l.zipIdx k).flatMap (λp=>if p.2=n then o else [p.1])=l.take (n-k)++o++l.drop (n-k+1):=λl=>by
  induction l with
  |nil=>intro k n o i f;simp at f;omega
  |cons a l g=>
   intro k n o i f;rw[List.zipIdx_cons,DN];by_cases e:k=n;subst e;simp only[if_true,GX,List.take_zero,FE,List.drop_succ_cons,JH];congr 1;have:∀(l:List α) (j:Nat),k<j->(l.zipIdx j).flatMap (λp=>if p.2=k then o else [p.1])=l:=λl=>by
    induction l with
    |nil=>intro j _;rfl
    |cons b l d=>
     intro j m;rw[List.zipIdx_cons,DN,d (j+1) AA];simp only;rw[if_neg AA];rfl
   exact this l (k+1) AA;simp only;rw[if_neg e,g (k+1) n o AA (by simp at f;omega)];have e2:n-k=(n-(k+1))+1:=AA;rw[e2];simp
 have:=c l 0 n o (Nat.zero_le _) AA;simpa[rpl]using this
def G7 (l o cs co idl ido n)(I:EL AJ l cs)(C:EL AJ o co)(hl:Z l<=1000)(ho:Z o<=1000)(X:n<Z l)(σ):
  ni 165 [sl idl (Z l) cs,ic n,sl ido (Z o) co] σ λr σ'=>∃id O,r=sl id (Z (rpl n o l)) O/\EL AJ (rpl n o l) O/\AD σ σ':=by
 have az:=EL.length Cf I;have ax:=EL.length Cf C;rw[I4 X];refine Z9 52 [.tmp 6] Tryz.func165 ?_;refine mr ?_
 refine Ae (λm s σ'=>∃(i b:Nat) (a:oh),m=n-i/\i<=n/\s 0=sl idl (Z l) cs/\s 1=ic n/\s 2=sl ido (Z o) co/\s 7=sl b i a/\s 8=ic i/\AD σ σ'/\Own σ σ' b i/\Z a=i*5/\AC (EL AJ (l.take i) a)) n
  ⟨0,1,[],AA,AA,by simp[upd,AL],by simp[upd,AL],by simp[upd,AL],AG,AG,AD.refl _,Own.nil _ _,rfl,by simp[AC,EL]⟩ ?_
 rintro m s σ' ⟨i,b,a,rfl,hi,B,G,F,z,T,t,x,v,c⟩;have H:=t.B;by_cases A:i<n
 ·have e:=AK (show i<Z l by omega);obtain⟨d,f,g,J,u,D⟩:=Cv I e;generalize l[i]=y at e u D;have q:AC (EL AJ (l.take (i+1)) (a++[my y.o,my y.h.nt,str y.h.B,sl d (Z y.h.A) (y.h.A.map str),sl f (Z y.A) g])):=by
   rw[AC,AT,e];exact EL.append c.o (EL.single ⟨[my y.h.nt,str y.h.B,sl d (Z y.h.A) (y.h.A.map str)],f,g,⟨d,rfl⟩,u,rfl⟩)
  clear e c;refine m5 ?_;intro yb ya;intro p E S K M R P Q;refine mr ?_;refine⟨n-(i+1),AA,i+1,p,a++[my y.o,my y.h.nt,str y.h.B,sl d (Z y.h.A) (y.h.A.map str),sl f (Z y.A) g],?_⟩;exact m9 q
 have aw:i=n:=AA;subst aw;refine mr ?_
 refine Ae (λm s σ'=>∃(j b:Nat) (a:oh),m=Z o-j/\j<=Z o/\s 0=sl idl (Z l) cs/\s 1=ic i/\s 2=sl ido (Z o) co/\s 7=sl b (i+j) a/\s 9=ic j/\AD σ σ'/\Own σ σ' b (i+j)/\Z a=(i+j)*5/\AC (EL AJ (l.take i++o.take j) a)) (Z o)
  ⟨0,b,a,AA,AA,by simp[upd,B],by simp[upd,G],by simp[upd,F],by simp[upd,z],AG,t,x,v,by simpa[AC]using c.o⟩ ?_
 clear B G F z T t x v c a b H A;rintro m s σ' ⟨j,b,a,rfl,hj,B,G,F,z,U,t,x,v,c⟩;have H:=t.B;by_cases A:j<Z o
 ·have e:=AK A;obtain⟨d,f,g,J,u,D⟩:=Cv C e;generalize o[j]=y at e u D;have q:AC (EL AJ (l.take i++o.take (j+1)) (a++[my y.o,my y.h.nt,str y.h.B,sl d (Z y.h.A) (y.h.A.map str),sl f (Z y.A) g])):=by
   rw[AC,AT,e,<-CR];exact EL.append c.o (EL.single ⟨[my y.h.nt,str y.h.B,sl d (Z y.h.A) (y.h.A.map str)],f,g,⟨d,rfl⟩,u,rfl⟩)
  clear e c;refine m5 ?_;intro yb ya;intro p E S K M R P Q;refine mr ?_;refine⟨Z o-(j+1),AA,j+1,p,a++[my y.o,my y.h.nt,str y.h.B,sl d (Z y.h.A) (y.h.A.map str),sl f (Z y.A) g],?_⟩;exact m9 q
 have Y:j=Z o:=AA;subst Y;rw[AS]at c;refine mr ?_
 refine Ae (λm s σ'=>∃(k b:Nat) (a:oh),m=Z l-k/\i+1<=k/\k<=Z l/\s 0=sl idl (Z l) cs/\s 7=sl b (i+Z o+(k-(i+1))) a/\s 10=ic k/\AD σ σ'/\Own σ σ' b (i+Z o+(k-(i+1)))/\Z a=(i+Z o+(k-(i+1)))*5/\AC (EL AJ (l.take i++o++(l.drop (i+1)).take (k-(i+1))) a)) (Z l-(i+1))
  ⟨i+1,b,a,AA,AA,AA,by simp[upd,B],by simp[upd,z],AG,t,nn x,nn v,by simpa[AC]using c.o⟩ ?_
 clear B G F z U t x v c a b H A;rintro m s σ' ⟨k,b,a,rfl,ay,hk,B,z,a0,t,x,v,c⟩;have H:=t.B;by_cases A:k<Z l
 ·have e:=AK A;obtain⟨d,f,g,J,u,D⟩:=Cv I e;generalize l[k]=y at e u D;have N:k+1-(i+1)=(k-(i+1))+1:=AA;have q:AC (EL AJ (l.take i++o++(l.drop (i+1)).take (k+1-(i+1))) (a++[my y.o,my y.h.nt,str y.h.B,sl d (Z y.h.A) (y.h.A.map str),sl f (Z y.A) g])):=by
   rw[AC,N,AT,IJ,show i+1+(k-(i+1))=k by omega,e,<-CR];exact EL.append c.o (EL.single ⟨[my y.h.nt,str y.h.B,sl d (Z y.h.A) (y.h.A.map str)],f,g,⟨d,rfl⟩,u,rfl⟩)
  have L:AC (i+Z o+(k+1-(i+1))=i+Z o+(k-(i+1))+1):=by rw[AC];omega
  have W:i+Z o+(k-(i+1))<=3000:=AA;clear e c N;generalize i+Z o+(k-(i+1))=w at v x z L W;refine m5 ?_;intro yb ya;intro p E S K M R P Q;refine mr ?_;refine⟨Z l-(k+1),AA,k+1,p,a++[my y.o,my y.h.nt,str y.h.B,sl d (Z y.h.A) (y.h.A.map str),sl f (Z y.A) g],?_⟩;rw[L.o]
  ((repeat' refine Zi ?_ ?_)<;>first|exact Xq|exact q|exact (by rw[AX];simp;omega)|exact Xs)
 have V:k=Z l:=AA;subst V
 have q:AC (EL AJ (l.take i++o++l.drop (i+1)) a/\i+Z o+(Z l-(i+1))=Z (l.take i++o++l.drop (i+1))):=⟨by
  have:=c.o;rw[FZ (l:=l.drop (i+1)) (by rw[List.length_drop];omega)]at this
  exact this,by simp only[AX,CN,List.length_drop];omega⟩
 clear c;refine mr ?_
 first|exact⟨_,rfl,b,a,by rw[q.o.2],q.o.1,t⟩|exact⟨_,rfl,b,a,by rw[q.o.2],q.o.1⟩
end Go.Proofs.YtmoeoppbmhfbpabGreatDoorJ
