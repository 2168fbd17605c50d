import Derived.Test.YtmoeoppbmhfbpabGreatDoorJFolB
import Derived.Test.YtmoeoppbmhfbpabGreatDoorJSpaB
import Derived.Test.YtmoeoppbmhfbpabGreatDoorJOptE
import Derived.Test.YtmoeoppbmhfbpabGreatDoorJProgG
import Derived.Test.YtmoeoppbmhfbpabGreatDoorJProgL
import Derived.Test.YtmoeoppbmhfbpabGreatDoorJNegB
import Derived.Test.YtmoeoppbmhfbpabGreatDoorJShelf
import Derived.Test.YtmoeoppbmhfbpabGreatDoorJProgR
import Derived.Test.YtmoeoppbmhfbpabGreatDoorJEngA
import Derived.Test.YtmoeoppbmhfbpabGreatDoorJRefA
import Derived.Test.YtmoeoppbmhfbpabGreatDoorJGramD
import Derived.Test.YtmoeoppbmhfbpabGreatDoorJFacts
set_option maxHeartbeats 64000000
set_option maxRecDepth 100000
set_option linter.all false
open List renaming length->Z
namespace Go.Proofs.YtmoeoppbmhfbpabGreatDoorJ
open Go.Abs
def Eu:Tx->Int
 |[]=>0
 |b::r=>if b=35 then 1000+(Aq r).2 else (Aq (b::r)).2
def eT (b r):Eu (b::r)=if b=35 then 1000+(Aq r).2 else (Aq (b::r)).2:=rfl
def H0 (v):Eu (35::v)=1000+(Aq v).2:=by rw[eT,if_pos rfl]
def GT (t:Tx):Prop:=(Ab t=false/\VT t/\DT t)\/∃v,t=35::v/\Ab v=true/\VT v
def QB {v}(h:VT v)(d:Ab v=true):∃b,v=[b]/\Bs b.toNat=true:=by
 rcases h with h|⟨h1,h2⟩;exact h;exfalso;cases v with
 |nil=>exact h1 rfl
 |cons b r=>
  have c:=h2 b nk;have a:Bs b.toNat=true:=d;unfold A6 at c;unfold Bs at a;simp at c a;omega
def QC {v}(h:VT v)(a:Ab v=false):v≠[]/\∀b∈v,A6 b.toNat=true:=by
 rcases h with⟨b,rfl,h⟩|h;have:Ab [b]=Bs b.toNat:=rfl;rw[this,h]at a;cases a;exact h
def Hg {t}(h:VT t)(a:Ab t=false):Eu t=(Aq t).2:=by
 obtain⟨d,c⟩:=QC h a;cases t with
 |nil=>exact absurd rfl d
 |cons b r=>
  rw[eT,if_neg];rintro rfl;have:=c 35 nk;revert this;decide
def O1 {v}(h:VT v)(c:Ab v=true):0<=(Aq v).2/\(Aq v).2<26:=by
 obtain⟨b,rfl,a⟩:=QB h c;rw[Et a];unfold Bs at a;simp at a;simp only;omega
def Qn {t}(h:DT t)(a:Ab t=false):Lib.itoa (Aq t).2=t/\0<=(Aq t).2/\(Aq t).2<=999:=by
 rcases h with h|⟨-,h⟩;rw[h]at a;cases a;exact h
def WU {t}(h:GT t):∃n:Nat,Eu t=(n:Int)/\n<1026:=by
 rcases h with⟨a,b,c⟩|⟨v,rfl,a,b⟩;rw[Hg b a];obtain⟨-,d,e2⟩:=Qn c a;exact⟨(Aq t).2.toNat,AA,AA⟩;obtain⟨d,e2⟩:=O1 b a;refine⟨(1000+(Aq v).2).toNat,?_,AA⟩;rw[H0];omega
def Y3 {t u}(i:GT t)(g:GT u)(h:Eu t=Eu u):t=u:=by
 rcases i with⟨c,d,f⟩|⟨v,rfl,c,d⟩;rcases g with⟨a,b,e⟩|⟨w,rfl,a,b⟩;rw[Hg d c,Hg b a]at h;rw[<-(Qn f c).1,<-(Qn e a).1,h];exfalso;rw[Hg d c]at h;have:=(Qn f c).2.2;have:=(O1 b a).1;rw[H0]at h;omega;rcases g with⟨a,b,e⟩|⟨w,rfl,a,b⟩;exfalso;rw[Hg b a]at h;have:=(Qn e a).2.2;have:=(O1 d c).1;rw[H0]at h;omega;rw[H0,H0]at h;rw[vQ d b c a AA]
def WV {t}(h:VT t):Eu (Hn t)=(aZ (Aq t)).2:=by
 unfold Hn aZ;rw[Cb];cases a:Ab t with
 |true=>rw[if_pos rfl,if_pos rfl,H0]
 |false=>rw[if_neg nk,if_neg nk];exact Hg h a
def gb {t}(h:VT t)(b:DT t):GT (Hn t):=by
 unfold Hn;cases a:Ab t with
 |true=>rw[if_pos rfl];exact .inr ⟨t,rfl,a,h⟩
 |false=>rw[if_neg nk];exact .inl ⟨a,h,b⟩
def K0 (N:ol)(a:AE):Nat:=N.idxOf a.B+(if a.nt=true then Z N else 0)
def eA (N:ol)(a:AE):Nat×Ck:=(K0 N a,Ej (a.A.map Eu))
structure ML (N:ol)(ar:Tx->Nat)(a:AE):Prop where
 mem:a.B∈N
 len:Z a.A=ar a.B
 le3:Z a.A<=3
structure GA (N:ol)(ar:Tx->Nat)(a:AE):Prop extends ML N ar a where
 gt:∀t∈a.A,GT t
def Xz {N a b}(f:a.B∈N)(e:b.B∈N)(h:K0 N a=K0 N b):a.nt=b.nt/\a.B=b.B:=by
 have i:=CS f;have g:=CS e;unfold K0 at h;have c:a.nt=b.nt:=by
  cases d:a.nt<;>cases e2:b.nt<;>simp[d,e2]at h⊢ <;>omega
 rw[c]at h;have j:N.idxOf a.B=N.idxOf b.B:=AA;refine⟨c,?_⟩;have d:=FN i;have e2:=FN g;rw[<-d,<-e2];congr 1
def Lz {α d:Type}{f:α->d}:∀{l m:List α},(∀a∈l,∀b∈m,f a=f b->a=b)->l.map f=m.map f->l=m
 |[],[],_,_=>rfl
 |[],b::m,_,h=>by simp at h
 |a::l,[],_,h=>by simp at h
 |a::l,b::m,c,h=>by
  simp only[CC,List.cons.injEq]at h;rw[c a nk b nk h.1,Lz (λx e y g=>c x (by simp[e]) y (by simp[g])) h.2]
def gZ {N ar a b}(c:GA N ar a)(d:GA N ar b)(h:eA N a=eA N b):a=b:=by
 unfold eA at h;simp only[Prod.mk.injEq]at h;obtain⟨k,f⟩:=Xz c.mem d.mem h.1;have g:Z a.A=Z b.A:=by rw[c.len,d.len,f]
 have l:=Sz (nn g) (nn c.le3) h.2;exact AE.ext' k f (Lz (λx i y j e=>Y3 (c.gt x i) (d.gt y j) e) l)
structure KP (N:ol)(ar:Tx->Nat)(y:AB):Prop where
 h:ML N ar y.h
 hnt:y.h.nt=false
 A:∀b∈y.A,ML N ar b
 vt:∀t∈y.h.A,VT t/\DT t
 vb:∀b∈y.A,∀t∈b.A,VT t/\DT t
 safe:∀v∈y.h.A,Ab v=true->∃b∈y.A,v∈b.A
def WN (N y):(Ed N y).h=Eg N y.h:=rfl
def Fq (N y):(Ed N y).A=y.A.map λb=>Fz (Z N) (E6 N b):=by simp[Ed,MZ,Ce]
def aA (N b):(Fz (Z N:Int) (E6 N b)).a.p=(K0 N b:Nat):=by
 unfold Fz E6 Eg K0;simp only;cases h:b.nt with
 |true=>simp
 |false=>simp
def Md (N b):(Fz (Z N:Int) (E6 N b)).a.ts=b.A.map Aq:=by
 unfold Fz E6 Eg;simp only;split<;>rfl
def TQ (v:Int):UInt8:=UInt8.ofNat (65+v.toNat)
def MY (μ:Tx->Tx):Nu:=λv=>Eu (μ [TQ v])
def VY {μ v}(h:VT v)(c:Ab v=true):MY μ (Aq v).2=Eu (μ v):=by
 obtain⟨b,rfl,a⟩:=QB h c;unfold MY TQ;rw[Et a];have d:65<=b.toNat:=by unfold Bs at a;simp at a;omega
 have e:(65+((b.toNat:Int)-65).toNat)=b.toNat:=AA;simp only[e,UInt8.ofNat_toNat]
def gm {μ t}(h:VT t):Ei (MY μ) (Aq t)=Eu (Ij μ t):=by
 unfold Ei;rw[Cb];cases a:Ab t with
 |true=>rw[if_pos rfl,C1 a,VY h a]
 |false=>rw[if_neg nk,Cm a,Hg h a]
def QQ {μ}{a:ol}{p}(h:∀t∈a,VT t):B8 ⟨p,a.map Aq⟩ (MY μ)=Ej ((a.map (Ij μ)).map Eu):=by
 unfold B8;simp only[BH];congr 1;exact CG λt b=>gm (h t b)
def Vh {a ν}:B8 a ν=B8 ⟨0,a.ts⟩ ν:=rfl
structure N8 (N:ol)(ar:Tx->Nat)(Rd:n0)(x:AB):Prop where
 ru:∀y∈Rd,KP N ar y
 x:KP N ar x
def gQ {N ar b}(h:ML N ar b)(c:∀t∈b.A,VT t/\DT t):GA N ar (Cw b):=
 ⟨⟨h.mem,by show Z (b.A.map Hn)=_;rw[BV];exact h.len,by show Z (b.A.map Hn)<=3;rw[BV];exact h.le3⟩,λt d=>by
  obtain⟨u,a,rfl⟩:=AN.1 d
  exact gb (c u a).1 (c u a).2⟩
def Ts {N b}(a:∀t∈b.A,VT t):eA N (Cw b)=((Fz (Z N:Int) (E6 N b)).a.p.toNat,C4 (Fx (Fz (Z N:Int) (E6 N b)).a)):=by
 unfold eA;rw[aA,DK];refine GB rfl ?_;show Ej ((b.A.map Hn).map Eu)=Ej (((Fz (Z N:Int) (E6 N b)).a.ts.map aZ).map (·.2));rw[Md,BH,BH,BH];congr 1;exact CG λt c=>WV (a t c)
def qI {N ar Rd x}(h:N8 N ar Rd x):NN true Rd (x.A.map Cw) (λa=>GA N ar a/\BS (Rd.map (Ed N)) (Fy N x) (eA N a).1 (eA N a).2):=by
 refine⟨λa p=>?_,λC z B y n D r=>?_⟩;obtain⟨b,d,rfl⟩:=AN.1 p;refine⟨gQ (h.x.A b d) (h.x.vb b d),?_⟩;rw[Ts λt e=>(h.x.vb b d t e).1];have A:Fx (Fz (Z N:Int) (E6 N b)).a∈Fy N x:=by
  unfold Fy;rw[Fq,BH];exact AN.2 ⟨b,d,rfl⟩
 exact BS.fact A;obtain⟨f,s,-,rfl⟩:=r;have c:=h.ru y n;have d:∀b∈y.A,GA N ar (G3 f b)/\BS (Rd.map (Ed N)) (Fy N x) (eA N (G3 f b)).1 (eA N (G3 f b)).2:=λb d=>z _ (s b d rfl);refine⟨⟨⟨c.h.mem,by show Z (y.h.A.map _)=_;rw[BV];exact c.h.len,by show Z (y.h.A.map _)<=3;rw[BV];exact c.h.le3⟩,λt e=>?_⟩,?_⟩;obtain⟨u,j,rfl⟩:=AN.1 e;cases k:Ab u with
 |false=>rw[Cm k];exact .inl ⟨k,(c.vt u j).1,(c.vt u j).2⟩
 |true=>
  obtain⟨b,i,v⟩:=c.safe u j k;exact (d b i).1.gt _ (AN.2 ⟨u,v,rfl⟩)
 have g:=BS.cl (Rd.map (Ed N)) (Fy N x) (Ed N y) (AN.2 ⟨y,n,rfl⟩) (MY f) (λl m=>by
  rw[Fq]at m;obtain⟨b,i,rfl⟩:=AN.1 m;have q:=(d b i).2;rw[aA,DK,Vh,Md,QQ λt e=>(c.vb b i t e).1]
  exact q)
 rw[WN,Vh]at g;have o:(Eg N y.h).ts=y.h.A.map Aq:=rfl;rw[o,QQ λt e=>(c.vt t e).1]at g;have e2:(Eg N y.h).p.toNat=(eA N (G3 f y.h)).1:=by
  show (((N.idxOf y.h.B:Nat):Int)).toNat=K0 N (G3 f y.h);unfold K0;have:(G3 f y.h).nt=false:=c.hnt;rw[this,DK];rfl
 rw[e2]at g;exact g
def lf {N ar Rd x A}(h:N8 N ar Rd x)(p:∀a∈A,GA N ar a)(R:∀y∈Rd,CM true A [] y):KG (Rd.map (Ed N)) (λk t=>∃a∈A,eA N a=(k,t)):=by
 intro r J g W;obtain⟨y,H,rfl⟩:=AN.1 J;have o:=h.ru y H;have E:∀b∈y.A,∃a∈A,a.nt=b.nt/\a.B=b.B/\a.A.map Eu=b.A.map λt=>Ei g (Aq t):=λb d=>by
  obtain⟨a,m,e⟩:=W (Fz (Z N) (E6 N b)) (by rw[Fq];exact AN.2 ⟨b,d,rfl⟩);rw[aA,DK,Vh,Md]at e;unfold eA at e;simp only[Prod.mk.injEq]at e;obtain⟨s,e2⟩:=e;obtain⟨P,D⟩:=Xz (p a m).mem (o.A b d).mem s;refine⟨a,m,P,D,?_⟩;unfold B8 at e2;simp only[BH]at e2;have:=Sz (by simp only[BV];rw[(p a m).len,(o.A b d).len,D]) (by rw[BV];exact (p a m).le3) e2;exact this
 let c:Tx->Tx:=λv=>Classical.epsilon λu=>GT u/\Eu u=g (Aq v).2;have C:∀v,(∃u,GT u/\Eu u=g (Aq v).2)->GT (c v)/\Eu (c v)=g (Aq v).2:=λv j=>Classical.epsilon_spec j;have G:∀b∈y.A,∀v∈b.A,Ab v=true->GT (c v)/\Eu (c v)=g (Aq v).2:=λb d v j L=>by
  obtain⟨a,m,-,-,e⟩:=E b d;obtain⟨i,T⟩:=CL j;have n:(b.A.map λt=>Ei g (Aq t))[i]?=some (Ei g (Aq v)):=by rw[DC,T];rfl
  rw[<-e,DC]at n;cases z:a.A[i]? with
  |none=>rw[z]at n;cases n
  |some u=>
   rw[z]at n;have B:Eu u=Ei g (Aq v):=Gf n;refine C v ⟨u,(p a m).gt u (AY z),?_⟩;rw[B];unfold Ei;rw[Cb,L,if_pos rfl]
 have I:∀t,VT t->DT t->(Ab t=true->GT (c t)/\Eu (c t)=g (Aq t).2)->GT (Ij c t)/\Eu (Ij c t)=Ei g (Aq t):=λt n B Q=>by
  unfold Ei;rw[Cb];cases j:Ab t with
  |true=>rw[if_pos rfl,C1 j];exact Q j
  |false=>rw[if_neg nk,Cm j];exact⟨.inl ⟨j,n,B⟩,Hg n j⟩
 have M:∀b∈y.A,G3 c b∈A:=λb d=>by
  obtain⟨a,m,s,e2,V⟩:=E b d;have:G3 c b=a:=by
   refine AE.ext' s.symm e2.symm ?_;have F:∀t∈b.A,GT (Ij c t)/\Eu (Ij c t)=Ei g (Aq t):=λt l=>I t (o.vb b d t l).1 (o.vb b d t l).2 (G b d t l);refine Lz (f:=Eu) (λu S w X e=>?_) ?_;obtain⟨t,l,rfl⟩:=AN.1 S;exact Y3 (F t l).1 ((p a m).gt w X) e;show (b.A.map (Ij c)).map Eu=a.A.map Eu;rw[V,BH];exact CG λt l=>(F t l).2
  rw[this];exact m
 have U:=R y H (G3 c y.h) ⟨c,λb d _=>M b d,λb d Y=>(by cases Y),rfl⟩;have K:G3 c y.h∈A:=by
  rcases U with q|q;exact q;simp at q
 refine⟨G3 c y.h,K,?_⟩;unfold eA;refine GB ?_ ?_;show K0 N (G3 c y.h)=(((N.idxOf y.h.B:Nat):Int)).toNat;unfold K0;have:(G3 c y.h).nt=false:=o.hnt;rw[this,DK];rfl;show Ej ((y.h.A.map (Ij c)).map Eu)=Ej ((y.h.A.map Aq).map (Ei g));rw[BH,BH];congr 1;refine CG λt l=>?_
 exact (I t (o.vt t l).1 (o.vt t l).2 (λj=>by
  obtain⟨b,d,O⟩:=o.safe t l j
  exact G b d t O j)).2
def zN {N ar Rd x b c}(h:N8 N ar Rd x)
  (H:(∃A,wE true Rd (x.A.map Cw) 200 A/\(c=true↔Cw x.h∈A))\/(pD true Rd (x.A.map Cw) 200/\c=false))
  (q:aD (Rd.map (Ed N)) (Fy N x) (Ed N x).h.p.toNat (C4 (Fx (Ed N x).h)) b):b=c:=by
 have y:eA N (Cw x.h)=((Ed N x).h.p.toNat,C4 (Fx (Ed N x).h)):=by
  have:=Ts (N:=N) (b:=x.h) λt f=>(h.x.vt t f).1;rw[this];have e:(Fz (Z N:Int) (E6 N x.h)).a=Eg N x.h:=by
   unfold Fz;rw[if_neg (by show¬x.h.nt=true;rw[h.x.hnt];simp)];rfl
  rw[e];rfl
 obtain⟨M,I,s,g⟩:=q;rcases H with⟨A,j,n⟩|⟨hN,rfl⟩;have m:∀a∈A,GA N ar a/\BS (Rd.map (Ed N)) (Fy N x) (eA N a).1 (eA N a).2:=j.least _ (qI h);have E:=lf h (λa d=>(m a d).1) j.cl;have B:∀a∈Fy N x,∃z∈A,eA N z=(a.p.toNat,C4 a):=λa d=>by
  unfold Fy at d;rw[Fq,BH]at d;obtain⟨o,r,rfl⟩:=AN.1 d;exact⟨Cw o,j.gv _ (AN.2 ⟨o,r,rfl⟩),Ts λt f=>(h.x.vb o r t f).1⟩
 have u:∀k t,BS (Rd.map (Ed N)) (Fy N x) k t->∃a∈A,eA N a=(k,t):=λk t G=>G _ E B;have J:=PX I (λk t i=>u k t (s k t i));have v:=j.len;rw[if_pos AA]at g;obtain⟨C,D⟩:=g;have:b=true↔c=true:=by
  rw[D,n];constructor;intro i;obtain⟨a,d,e⟩:=u _ _ (s _ _ i);rw[<-y]at e;rw[<-gZ (m a d).1 (gQ h.x.h h.x.vt) e];exact d;intro i;have:=C _ _ (m _ i).2;rw[y]at this;exact this
 cases b<;>cases c<;>simp_all;obtain⟨L,F,K,l⟩:=hN _ (qI h);by_cases f:tot M<=200;exfalso;rw[if_pos f]at g
 have:=f7 (M:=M) (P:=L.map (eA N)) (Oq F λa d b n e=>gZ (l a d).1 (l b n).1 e) (λp q=>by
  obtain⟨a,d,rfl⟩:=AN.1 q
  exact g.1 _ _ (l a d).2)
 rw[BV]at this;omega;rw[if_neg f]at g;exact g
def qO {t}(h:(Av t).1=0):∀x∈Bl t,∀y∈Bl t,∀a∈Af x,∀b∈Af y,a.B=b.B->Z a.A=Z b.A:=by
 have v:∀i,i<Z (Bl t)->Gn (Bl t) i=false:=by
  unfold Av at h;split at h;simp at h;split at h;simp at h;unfold Co at h;split at h;simp at h;rename_i m;exact Jo m
 have d:∀(i j:Nat) (x y:AB) (a b:AE),(Bl t)[i]?=some x->(Bl t)[j]?=some y->i<j->a∈Af x->b∈Af y->a.B=b.B->Z a.A=Z b.A:=by
  intro i j x y a b e c s g f l;have o:=v j (BA.1 c).1;unfold Gn at o;rw[c]at o;simp only[EV,List.mem_range]at o;obtain⟨k,m⟩:=CL f;have n:=o k (BA.1 m).1;unfold Mh at n;rw[m]at n;simp only[CU,not_exists,not_and]at n
  have p:=n a (by
   unfold Ct Ha;refine AW.2 (.inl (EX.2 ⟨x,?_,g⟩))
   exact AY (i:=i) (by rw[GF,if_pos s];exact e))
  unfold clash at p;simp[l]at p;exact p
 intro x q y u a g b f l;obtain⟨i,e⟩:=CL q;obtain⟨j,c⟩:=CL u;rcases KE i j with r|rfl|ad;exact d i j x y a b e c r g f l;rw[e]at c;cases c;exact dM h x q a g b f l;exact (d j i y x b a c e ad f g l.symm).symm
def aG (l:n0)(ar:Tx->Nat):Prop:=∀x∈l,∀a∈Af x,Z a.A=ar a.B
def SV {t}(h:(Av t).1=0):∃ar,aG (Bl t) ar:=by
 refine⟨λp=>Classical.epsilon λn=>∃x∈Bl t,∃a∈Af x,a.B=p/\Z a.A=n,λx d a c=>?_⟩;have:=Classical.epsilon_spec (p:=λn=>∃x∈Bl t,∃b∈Af x,b.B=a.B/\Z b.A=n) ⟨_,x,d,a,c,rfl,rfl⟩;obtain⟨y,f,b,e,g,e2⟩:=this;rw[qO h x d y f a c b e g.symm];exact e2
def jg {t N l cs ar}(h:CW t N l cs)(y:aG l ar){x}(k:x∈l)(j:x.o=false):KP N ar x:=by
 have s:=h.items;have q:x∈Bl t:=by rw[s];exact k
 have e:=P4 h.ok x q;have n:=h.wi x k;have m:=e.w.2.2 j;have g:∀a,a=x.h\/a∈x.A->a∈Af x:=λa i=>by
  rcases i with rfl|i<;>simp[Af,j, *]
 have c:∀a∈Af x,Z a.A=ar a.B:=y x k;refine⟨⟨n.mem,c _ (g _ (.inl rfl)),m.1.2.2.1⟩,m.2.1,λb f=>⟨(n.wa b f).1,c _ (g _ (.inr f)),(m.2.2.2 b f).2.2.1⟩,λw d=>⟨e.va _ (g _ (.inl rfl)) w d,e.dt _ (g _ (.inl rfl)) w d⟩,λb f w d=>⟨e.va _ (g _ (.inr f)) w d,e.dt _ (g _ (.inr f)) w d⟩,λv d u=>?_⟩;obtain⟨z,p,r,-⟩:=e.rule j;obtain⟨a,i,-,o⟩:=r.saf v u (.inl d);exact⟨a,i,o⟩
def NT (N:ol)(ar:Tx->Nat)(k:Nat):Nat:=ar (N.getD (if k<Z N then k else k-Z N) [])
def sW {N ar a}(h:a.B∈N):NT N ar (K0 N a)=ar a.B:=by
 have b:=CS h;have e:N.getD (N.idxOf a.B) []=a.B:=by
  rw[List.getD_eq_getElem?_getD,AK b,MG];exact FN b
 unfold NT K0;cases c:a.nt with
 |true=>
  simp only[if_true];rw[if_neg AA,Nat.add_sub_cancel,e]
 |false=>
  simp only[EI,if_false,GZ];rw[if_pos b,e]
def YM {w}(b:VT w)(a:DT w)(h:(Aq w).1=false):∃n:Nat,(Aq w).2=(n:Int)/\n<1026:=by
 rw[Cb]at h;obtain⟨-,c,e2⟩:=Qn a h;exact⟨(Aq w).2.toNat,AA,AA⟩
def yU {w}(a:VT w)(b:DT w):0<=(Aq w).2/\(Aq w).2<=999:=by
 cases h:Ab w with
 |true=>have:=O1 a h;omega
 |false=>obtain⟨-,c,e2⟩:=Qn b h;omega
def QY {N a}(h:a.B∈N):K0 N a<2*Z N:=by
 have:=CS h;unfold K0;split<;>omega
def gS {a:ol}{v}(h:(true,v)∈a.map Aq):∃w∈a,Ab w=true/\(Aq w).2=v:=by
 obtain⟨w,b,e⟩:=AN.1 h;refine⟨w,b,?_,by rw[e]⟩;rw[<-Cb,e]
def iJ (n l):(Fz n l).neg=false:=by
 unfold Fz;split;rfl;rename_i h;simpa using h
def jf {N ar y}(h:KP N ar y)(q:Z y.A<=5):RW (2*Z N) (NT N ar) (Ed N y):=by
 have e:∀l∈(Ed N y).A,∃b∈y.A,l=Fz (Z N:Int) (E6 N b):=λl a=>by
  rw[Fq]at a;obtain⟨b,e,rfl⟩:=AN.1 a;exact⟨b,e,rfl⟩
 have o:K0 N y.h=N.idxOf y.h.B:=by unfold K0;rw[h.hnt];simp
 have m:(Ed N y).h.p=((K0 N y.h:Nat):Int):=by rw[o];rfl
 have i:(Ed N y).h.ts=y.h.A.map Aq:=rfl;refine⟨⟨by rw[i,BV];exact h.h.le3,⟨_,m,QY h.h.mem⟩,by rw[Fq,BV];omega,λl a=>?_,λl a=>?_⟩,λl a j=>?_,?_,λl a=>?_,λt k n=>?_,λv c=>?_,λl a v c=>?_,λv c=>?_⟩;obtain⟨b,d,rfl⟩:=e l a;rw[Md,BV];exact (h.A b d).le3;obtain⟨b,d,rfl⟩:=e l a;exact⟨_,aA N b,QY (h.A b d).mem⟩;obtain⟨b,d,rfl⟩:=e l a;rw[iJ]at j;cases j;rw[i,BV,m,DK,sW h.h.mem];exact h.h.len;obtain⟨b,d,rfl⟩:=e l a;rw[Md,BV,aA,DK,sW (h.A b d).mem];exact (h.A b d).len;rw[i]at k;obtain⟨w,f,rfl⟩:=AN.1 k;exact YM (h.vt w f).1 (h.vt w f).2 n;rw[i]at c;obtain⟨w,f,g,rfl⟩:=gS c;exact O1 (h.vt w f).1 g;obtain⟨b,d,rfl⟩:=e l a;rw[Md]at c;obtain⟨w,f,g,rfl⟩:=gS c;exact O1 (h.vb b d w f).1 g;have c:Bm (Ed N y).h.ts v=true:=by
  rcases c with c|⟨l,a,j,-⟩;exact c;obtain⟨b,d,rfl⟩:=e l a;rw[iJ]at j;cases j
 rw[AO,i]at c;obtain⟨w,f,g,rfl⟩:=gS c;obtain⟨b,d,p⟩:=h.safe w f g;refine⟨Fz (Z N:Int) (E6 N b),by rw[Fq];exact AN.2 ⟨b,d,rfl⟩,iJ _ _,?_⟩;rw[AO,Md];refine AN.2 ⟨w,p,?_⟩;rw[<-g,<-Cb]
def QS {a:ol}(h:∀t∈a,VT t/\DT t):NP (a.map Aq):=λt c=>by
 obtain⟨w,b,rfl⟩:=AN.1 c;have:=yU (h w b).1 (h w b).2;omega
def gO (N:ol)(l:n0)(i:Nat)(x:AB)(b:Bool):Prop:=aD ((oth l i (Z l)).map (Ed N)) (Fy N x) (Ed N x).h.p.toNat (C4 (Fx (Ed N x).h)) b
def xV (N:ol)(l:n0)(n:Nat):Prop:=∀i y,i<n->l[i]?=some y->y.o=false->C5 N l (rpl i [] l)=true->gO N l i y false
def OL (N:ol)(l:n0)(idn:Nat)(x:AV)(b:Bool):Prop:=
 (b=false/\xV N l (Z l))\/(b=true/\∃i y,l[i]?=some y/\y.o=false/\C5 N l (rpl i [] l)=true/\gO N l i y true/\xV N l i/\∃id a,x=Cq N idn (rpl i [] l) id a/\EL (PI N) (rpl i [] l) a)
def GL.less {N l}(h:GL N l){i}:GL N (rpl i [] l):=by
 have b:∀y∈rpl i [] l,y∈l:=λy a=>by
  rcases Cy a with h|h;exact h;cases h
 exact⟨BI (Rh l) h.len,h.nm,λy a=>h.msr y (b y a),λy a=>h.fits y (b y a),λy a=>h.pos y (b y a),λy a=>h.va y (b y a),λy a=>h.ar y (b y a)⟩
def Pb (N l cs idn idi ar)(B:GL N l)(hI:OJ N l ar)(A:EL (PI N) l cs)(I):
  ni 126 [Cq N idn l idi cs] I λr f=>(∃x b,r=tp [x,my b]/\OL N l idn x b/\pB x)/\AD I f:=by
 have bg:=EL.length Ew A;have aw:=B.len;have ba:Bk N l cs:=(B.bkm A).bk aw;have q:=λi I=>Xx N l [] cs [] idn idi 1 i A rfl AA nk I;have k:=λi Y E (a8:EL (PI N) (rpl i [] l) Y) I=>Ib N l (rpl i [] l) cs Y idn idi E (B.bkm A) (B.less.bkm a8).bj I;simp only[CQ]at q;refine Z9 37 [.cell 2 62,.tmp 3] Tryz.func126 ?_;refine mr ?_
 refine Ae (λm s f=>∃(i:Nat),m=Z l-i/\i<=Z l/\s 1=ptr I.B 0/\s 2=ptr (I.B+1) 0/\s 10=sl idi (Z l) cs/\s 11=ic (Z l)/\s 12=ic i/\AD I f/\I.B+1<f.B/\f.C I.B=[sl idn (Z N) (N.map str),sl idi (Z l) cs]/\f.C (I.B+1)=[nilS,nilS]/\AC (xV N l i)) (Z l)
  ⟨0,AA,AA,AG,AG,AG,AG,rfl,Xs,AM,by rw[Ah AM,Ao],by first|exact Ao|simp[Ao],λi y h=>AA⟩ ?_
 rintro m s f ⟨i,rfl,hi,h1,h2,bn,bm,bh,hK,bf,bd,bc,g⟩;have be:=hK.B;by_cases a6:i<Z l;have e:=AK a6;obtain⟨a5,ih,idb,b,r,a9,J⟩:=Ih A e;generalize l[i]=x at J e a5 a9;have n:(x.o=false->C5 N l (rpl i [] l)=true->gO N l i x false)->AC (xV N l (i+1)):=λh j y hj H V hb=>by
  rcases FT j i with X|X;exact g.o j y X H V hb;have:j=i:=AA;subst this;rw[e]at H;cases H;exact h V hb
 cases a:x.o with
 |true=>
  rw[a]at J;have u:=n (λh=>by rw[a]at h;cases h);clear n g e;refine mr ?_;refine⟨Z l-(i+1),AA,i+1,?_⟩;exact m9 u
 |false=>
  have U:=λI=>aV N l cs idn idi i ar x ba hI e a I;have q:=q i;have k:=k i;have T:AC (l[i]?=some x):=e;have Q:AC _:=n;have bb:AC (x.o=false):=a;rw[a]at J;cases o:C5 N l (rpl i [] l)with
  |false=>
   rw[o]at k;have u:=n (λ_ h=>by rw[o]at h;cases h);clear n g e o Q U
   (repeat (refine m0 ?_;intro yb ya;(first|(refine Xi (q _) ?_;rintro _ _ ⟨⟨d,C,rfl,D⟩,p⟩;(have M:=p.B;have K:=p.C;(try simp only[Ac,Aa,Az]at M K)))|(refine Xi (k C d D _) ?_;rintro _ _ ⟨⟨x7,rfl,S,⟨v,O,L,z,F,P,rfl⟩⟩,t⟩;(have av:=t.B;have ap:=t.C)))));refine mr ?_
   refine⟨Z l-(i+1),AA,i+1,?_⟩;exact m9 u
  |true=>
   rw[o]at k;have R:AC (C5 N l (rpl i [] l)=true):=o;clear n e o
   (repeat (refine m0 ?_;intro yb ya;(first|(refine Xi (q _) ?_;rintro _ _ ⟨⟨d,C,rfl,D⟩,p⟩;(have M:=p.B;have K:=p.C;(try simp only[Ac,Aa,Az]at M K)))|(refine Xi (k C d D _) ?_;rintro _ _ ⟨⟨x7,rfl,S,⟨v,O,L,z,F,P,rfl⟩⟩,t⟩;(have av:=t.B;have ap:=t.C))|(refine Xi (U _) ?_;rintro _ _ ⟨bi,rfl,c,W⟩;(have au:=W.B;have ao:=W.C;have G:AC (gO N l i x bi):=c;clear c;(try simp only[Ac,Aa]at au ao))))));refine m6 ?_ ?_<;>intro h ac
   have c:=G.o;rw[h]at c;exact⟨_,rfl,⟨_,true,rfl,.inr ⟨rfl,i,x,T.o,bb.o,R.o,c,g.o,d,C,S rfl,D⟩,_,_,_,_,_,_,rfl⟩,Xs⟩;have c:=G.o;rw[h]at c;have u:=Q.o λ_ _=>c;clear c G Q T R g;refine⟨Z l-(i+1),AA,i+1,?_⟩;exact m9 u
 have a7:i=Z l:=AA;subst a7;refine mr ?_;exact⟨_,rfl,⟨_,false,rfl,.inl ⟨rfl,g.o⟩,_,_,_,_,_,_,rfl⟩,Xs⟩
structure BB (N:ol)(ar:Tx->Nat)(l:n0):Prop where
 gl:GL N l
 b5:∀x∈l,Z x.A<=5
 ru:∀x∈l,x.o=false->KP N ar x
 wi:∀x∈l,WI N x
 wit:∀x∈l,Dc x
def jt {N l ar}(j:∀y∈l,Z y.A<=5)(h:∀y∈l,y.o=false->KP N ar y):OJ N l (NT N ar):=by
 refine⟨j,λy d g=>jf (h y d g) (j y d),λy d g=>?_,λy d g a i=>?_⟩;have c:=h y d g;refine⟨QS c.vt,λk n=>?_⟩;rw[Fq]at n;obtain⟨b,f,rfl⟩:=AN.1 n;rw[Md];exact QS (c.vb b f);have c:=h y d g;unfold Fy at i;rw[Fq,BH]at i;obtain⟨b,f,rfl⟩:=AN.1 i;have e:=Ts (N:=N) (b:=b) λt p=>(c.vb b f t p).1;have m:=gQ (c.A b f) (c.vb b f);unfold eA at e;simp only[Prod.mk.injEq]at e;have q:(Fx (Fz (Z N:Int) (E6 N b)).a).p.toNat=K0 N b:=by
  show (Fz (Z N:Int) (E6 N b)).a.p.toNat=_;rw[aA,DK]
 show Sh _ (Fx (Fz (Z N:Int) (E6 N b)).a).p.toNat (C4 (Fx (Fz (Z N:Int) (E6 N b)).a));rw[q,<-e.2];refine⟨_,rfl,?_,λz r=>?_⟩;rw[BV,sW (c.A b f).mem];exact m.len;obtain⟨u,o,rfl⟩:=AN.1 r;exact WU (m.gt u o)
def BB.bki {N ar l}(h:BB N ar l):OJ N l (NT N ar):=jt h.b5 h.ru
def j7 {t}(i:DT t)(h2:Mm t)(g:Z t<=1000)(j:VT t):UT t:=by
 refine⟨i,h2,g,λf=>?_⟩;rcases j with⟨b,rfl,a⟩|⟨h5,h6⟩;simp only[Bs,BM,CV]at a;refine⟨b.toNat-65,AA,?_⟩;have:=Fv (k:=((b.toNat-65:Nat):Int)) AA AA;have e:(Im ((b.toNat-65:Nat):Int)).toNat=b.toNat:=AA;rw[UInt8.toNat_inj.1 e];cases t with
 |nil=>exact absurd rfl h5
 |cons b r=>
  have c:=h6 b nk;have d:Bs b.toNat=true:=f;simp only[Bs,A6,BM,CV]at c d;omega
def CW.rt {t N l cs}(h:CW t N l cs){ar}(v:aG l ar):BB N ar l:=by
 have j:∀x∈l,FG x:=λx c=>P4 h.ok x (by rw[h.items];exact c);have p:∀y∈l,Z y.A<=5:=λy q=>(h.wi y q).A;refine⟨⟨h.bk.len,h.bk.nm,λx c=>?_,h.bk.fits,h.bk.pos,λx c=>(j x c).va,λx c a e b r=>dM h.ok x (by rw[h.items];exact c) a (Ap (.inr e)) b (Ap (.inr r))⟩,p,λx c d=>jg h v c d,h.wi,h.wit⟩;have g:=h.wi x c;have k:=g.short;refine⟨g.o,by have:=g.A;omega,g.mem,k.1.1,λa e=>?_⟩;have o:=h.wit x c;have d:x.o=false:=by
  cases d:x.o with
  |false=>rfl
  |true=>simp[Af,d,g.o d]at e
 have f:a=x.h\/a∈x.A:=by simpa[Af,d]using e
 obtain⟨u,z,A,s⟩:=o.2.2 d;have m:En a:=by rcases f with rfl|f;exact u;exact s a f
 have n:short a:=by rcases f with rfl|f;exact k.1;exact k.2 a f
 exact⟨m.2.2.1,n.1,λt i=>j7 ((j x c).dt a e t i) (m.2.2.2 t i) (n.2.2 t i) ((j x c).va a e t i)⟩
def BB.sub {N ar l c}(h:BB N ar l)(b:∀x∈c,x∈l)(d:Z c<=16):BB N ar c:=
 ⟨⟨d,h.gl.nm,λx a=>h.gl.msr x (b x a),λx a=>h.gl.fits x (b x a),λx a=>h.gl.pos x (b x a),λx a=>h.gl.va x (b x a),λx a=>h.gl.ar x (b x a)⟩,λx a=>h.b5 x (b x a),λx a=>h.ru x (b x a),λx a=>h.wi x (b x a),λx a=>h.wit x (b x a)⟩
def BB.less {N ar l}(h:BB N ar l)(i):BB N ar (rpl i [] l):=
 h.sub (λx a=>by rcases Cy a with h|h;exact h;cases h) (BI (Rh l) h.gl.len)
def QA {x k}(h:Dc x)(b:x.o=false):Dc (C8 x k):=by
 obtain⟨g,i,f,d⟩:=h.2.2 b;exact⟨h.1,(λe=>by cases e),λ_=>⟨g,i,BI (JF _ _) f,λa c=>d a (EE c)⟩⟩
def j0 {N x k}(h:WI N x)(l:Dc x)(d:x.o=false):WI N (C8 x k):=by
 have j:=QA (k:=k) l d;have i:∀a,a∈Af (C8 x k)->WA N (Au x) a->WA N (Au (C8 x k)) a:=λa b c=>⟨c.1,c.2.1,c.2.2.1,c.2.2.2.1,λw f=>⟨(c.2.2.2.2 w f).1,(c.2.2.2.2 w f).2.1,λm=>On j b f m⟩⟩;have g:∀a∈(C8 x k).A,a∈x.A:=λa b=>EE b;exact⟨Ms h.fits,⟨h.short.1,λa b=>h.short.2 a (g a b)⟩,λa b=>h.va a (Mr d b),h.vh,λa b=>h.vb a (g a b),h.mem,BI (JF _ _) h.A,(λe=>by cases e),λ_=>⟨(h.h d).1,i _ (Ap (.inl ⟨rfl,rfl⟩)) (h.h d).2⟩,λa b=>i a (Ap (.inr b)) (h.wa a (g a b))⟩
theorem W3 {y}(hs:Fi y=true)(hu:∀a∈Af y,∀t∈a.A,UT t){a}(ha:a∈Af y){t}(ht:t∈a.A)(hv:Ab t=true):∃b∈y.A,b.nt=false/\t∈b.A:=by
 unfold Fi at hs;have:=EV.1 (by simpa using hs:(Af y).any (fun a=>a.A.any fun w=>(Aq w).1&&!Ga y (Aq w).2)=false) a ha;have:=EV.1 (by simpa using this:a.A.any (fun w=>(Aq w).1&&!Ga y (Aq w).2)=false) t ht;rw[Cb,hv]at this;have hb:Ga y (Aq t).2=true:=by simpa using this
 unfold Ga at hb;obtain⟨b,ac,hb⟩:=CU.1 hb;simp only[BM,FJ,CU]at hb;obtain⟨hnt,u,ab,aa⟩:=hb;refine⟨b,ac,hnt,?_⟩;unfold Ql at aa;simp only[BM,DO]at aa;have:t=u:=DJ.inj _ _ (hu a ha t ht) (hu b (Ap (.inr ac)) u ab) (GB (by rw[Cb,hv,aa.1]) aa.2.symm);rw[this];exact ab
def BB.wo {N ar l}(h:BB N ar l){i k x}(o:l[i]?=some x)(f:x.o=false)(r:Fi (C8 x k)=true):BB N ar (rpl i [C8 x k] l):=by
 have e:=AY o;have d:∀y∈rpl i [C8 x k] l,y∈l\/y=C8 x k:=λy c=>by
  rcases Cy c with h|h;exact .inl h;exact .inr (nn h)
 have n:∀a∈(C8 x k).A,a∈x.A:=λa m=>EE m;refine⟨h.gl.wo o f,λy c=>?_,λy c p=>?_,λy c=>?_,λy c=>?_⟩;rcases d y c with c|rfl;exact h.b5 y c;exact BI (JF _ _) (h.b5 x e);rcases d y c with c|rfl;exact h.ru y c p;have g:=h.ru x e f;refine⟨g.h,g.hnt,λb j=>g.A b (n b j),g.vt,λb j=>g.vb b (n b j),λv d q=>?_⟩;obtain⟨b,j,-,s⟩:=W3 r (λa m=>((h.gl.msr x e).at_ a (Mr f m)).2.2) (a:=x.h) (Ap (.inl ⟨rfl,rfl⟩)) d q;exact⟨b,j,s⟩;rcases d y c with c|rfl;exact h.wi y c;exact j0 (h.wi x e) (h.wit x e) f;rcases d y c with c|rfl;exact h.wit y c;exact QA (h.wit x e) f
def KI (R:n0)(d:oq)(S:AE->Prop):Prop:=(∀a∈d,S a)/\∀y∈R,∀c,(∀b∈y.A,S (G3 c b))->S (G3 c y.h)
def LA (R:n0)(b:oq)(a:AE):Prop:=∀S,KI R b S->S a
def LA.cl (R gv):KI R gv (LA R gv):=⟨λa e S c=>c.1 a e,λy i g d S c=>c.2 y i g λb f=>d b f S c⟩
def XL {R d S}(h:NN true R d S):KI R d S:=
 ⟨h.1,λy j e f=>h.2 (d++y.A.map (G3 e)) (λa c=>by
  rcases AW.1 c with c|c;exact h.1 a c;obtain⟨b,i,rfl⟩:=AN.1 c
  exact f b i) (λa c=>GK _ c) y j _ ⟨e,λa c _=>LI _ (AN.2 ⟨a,c,rfl⟩),λa c g=>(by cases g),rfl⟩⟩
section
variable {N:ol} {ar:Tx->Nat} {Rd:n0} {x:AB}
theorem eG (h:N8 N ar Rd x){a}(b:LA Rd (x.A.map Cw) a):GA N ar a/\BS (Rd.map (Ed N)) (Fy N x) (eA N a).1 (eA N a).2:=b _ (XL (qI h))
theorem kz (h:N8 N ar Rd x){A:AE->Prop}(o:∀a,A a->GA N ar a)(O:∀y∈Rd,∀μ,(∀b∈y.A,A (G3 μ b))->A (G3 μ y.h)):KG (Rd.map (Ed N)) (λk t=>∃a,A a/\eA N a=(k,t)):=by
 intro r H c S;obtain⟨y,F,rfl⟩:=AN.1 H;have n:=h.ru y F;have C:∀b∈y.A,∃a,A a/\a.nt=b.nt/\a.B=b.B/\a.A.map Eu=b.A.map λt=>Ei c (Aq t):=λb g=>by
  obtain⟨a,l,e⟩:=S (Fz (Z N) (E6 N b)) (by rw[Fq];exact AN.2 ⟨b,g,rfl⟩);rw[aA,DK,Vh,Md]at e;unfold eA at e;simp only[Prod.mk.injEq]at e;obtain⟨p,e2⟩:=e;obtain⟨L,B⟩:=Xz (o a l).mem (n.A b g).mem p;refine⟨a,l,L,B,?_⟩;unfold B8 at e2;simp only[BH]at e2;exact Sz (by simp only[BV];rw[(o a l).len,(n.A b g).len,B]) (by rw[BV];exact (o a l).le3) e2
 let μ:Tx->Tx:=λv=>Classical.epsilon λu=>GT u/\Eu u=c (Aq v).2;have z:∀v,(∃u,GT u/\Eu u=c (Aq v).2)->GT (μ v)/\Eu (μ v)=c (Aq v).2:=λv d=>Classical.epsilon_spec d;have E:∀b∈y.A,∀v∈b.A,Ab v=true->GT (μ v)/\Eu (μ v)=c (Aq v).2:=λb g v d I=>by
  obtain⟨a,l,-,-,e⟩:=C b g;obtain⟨i,Q⟩:=CL d;have m:(b.A.map λt=>Ei c (Aq t))[i]?=some (Ei c (Aq v)):=by rw[DC,Q];rfl
  rw[<-e,DC]at m;cases q:a.A[i]? with
  |none=>rw[q]at m;cases m
  |some u=>
   rw[q]at m;have s:Eu u=Ei c (Aq v):=Gf m;refine z v ⟨u,(o a l).gt u (AY q),?_⟩;rw[s];unfold Ei;rw[Cb,I,if_pos rfl]
 have G:∀t,VT t->DT t->(Ab t=true->GT (μ t)/\Eu (μ t)=c (Aq t).2)->GT (Ij μ t)/\Eu (Ij μ t)=Ei c (Aq t):=λt m s M=>by
  unfold Ei;rw[Cb];cases d:Ab t with
  |true=>rw[if_pos rfl,C1 d];exact M d
  |false=>rw[if_neg nk,Cm d];exact⟨.inl ⟨d,m,s⟩,Hg m d⟩
 have J:∀b∈y.A,A (G3 μ b):=λb g=>by
  obtain⟨a,l,p,e2,R⟩:=C b g;have:G3 μ b=a:=by
   refine AE.ext' p.symm e2.symm ?_;have D:∀t∈b.A,GT (Ij μ t)/\Eu (Ij μ t)=Ei c (Aq t):=λt j=>G t (n.vb b g t j).1 (n.vb b g t j).2 (E b g t j);refine Lz (f:=Eu) (λu P w T e=>?_) ?_;obtain⟨t,j,rfl⟩:=AN.1 P;exact Y3 (D t j).1 ((o a l).gt w T) e;show (b.A.map (Ij μ)).map Eu=a.A.map Eu;rw[R,BH];exact CG λt j=>(D t j).2
  rw[this];exact l
 refine⟨G3 μ y.h,O y F μ J,?_⟩;unfold eA;refine GB ?_ ?_;show K0 N (G3 μ y.h)=(((N.idxOf y.h.B:Nat):Int)).toNat;unfold K0;have:(G3 μ y.h).nt=false:=n.hnt;rw[this,DK];rfl;show Ej ((y.h.A.map (Ij μ)).map Eu)=Ej ((y.h.A.map Aq).map (Ei c));rw[BH,BH];congr 1;refine CG λt j=>?_
 exact (G t (n.vt t j).1 (n.vt t j).2 (λd=>by
  obtain⟨b,g,K⟩:=n.safe t j d
  exact E b g t K d)).2
theorem SS (h:N8 N ar Rd x){k t}(e:BS (Rd.map (Ed N)) (Fy N x) k t):∃a,LA Rd (x.A.map Cw) a/\eA N a=(k,t):=
 e _ (kz h (λa c=>(eG h c).1) (LA.cl Rd _).2) λa c=>by
  unfold Fy at c;rw[Fq,BH]at c;obtain⟨b,d,rfl⟩:=AN.1 c;exact⟨Cw b,(LA.cl Rd _).1 _ (AN.2 ⟨b,d,rfl⟩),Ts λt f=>(h.x.vb b d t f).1⟩
theorem YO (h:N8 N ar Rd x):eA N (Cw x.h)=((Ed N x).h.p.toNat,C4 (Fx (Ed N x).h)):=by
 rw[Ts (N:=N) (b:=x.h) λt a=>(h.x.vt t a).1];have e:(Fz (Z N:Int) (E6 N x.h)).a=Eg N x.h:=by
  unfold Fz;rw[if_neg (by show¬x.h.nt=true;rw[h.x.hnt];simp)];rfl
 rw[e];rfl
theorem vL (h:N8 N ar Rd x):BS (Rd.map (Ed N)) (Fy N x) (Ed N x).h.p.toNat (C4 (Fx (Ed N x).h))↔LA Rd (x.A.map Cw) (Cw x.h):=by
 have c:=YO h;constructor;intro d;obtain⟨a,b,e⟩:=SS h d;rw[<-c]at e;rw[<-gZ (eG h b).1 (gQ h.x.h h.x.vt) e];exact b;intro b;have:=(eG h b).2;rw[c]at this;exact this
end
def ZM {N N2 ar ar2 R l x c}(h:N8 N ar R x)(h2:N8 N2 ar2 l c){f g:AE->AE}
  (H:∀a,LA R (x.A.map Cw) a->LA l (c.A.map Cw) (f a)/\g (f a)=a) (z:∀a,LA l (c.A.map Cw) a->LA R (x.A.map Cw) (g a)/\f (g a)=a)
  (O:f (Cw x.h)=Cw c.h) (K:g (Cw c.h)=Cw x.h){b B}
  (Q:aD (R.map (Ed N)) (Fy N x) (Ed N x).h.p.toNat (C4 (Fx (Ed N x).h)) b) (D:aD (l.map (Ed N2)) (Fy N2 c) (Ed N2 c).h.p.toNat (C4 (Fx (Ed N2 c).h)) B):b=B:=by
 obtain⟨M,S,F,q⟩:=Q;obtain⟨m,C,v,n⟩:=D;have r:∀{N N2:ol} {ar ar2:Tx->Nat} {R l:n0} {x c:AB} (h:N8 N ar R x) (h2:N8 N2 ar2 l c) {f g:AE->AE} (z:∀a,LA l (c.A.map Cw) a->LA R (x.A.map Cw) (g a)/\f (g a)=a) {M m:MM} (C:∀y∈m,y.2.Nodup) (v:∀j t,MD m j t->BS (l.map (Ed N2)) (Fy N2 c) j t) (o:∀j t,BS (R.map (Ed N)) (Fy N x) j t->MD M j t),tot m<=tot M:=by
  intro N N2 ar ar2 R l x c h h2 f g z M m C v o
  haveI:Nonempty AE:=⟨x.h⟩
  let d:Nat×Ck->AE:=λp=>Classical.epsilon λa=>LA R (x.A.map Cw) a/\eA N a=p;have:=PX (M:=m) (A:=Lf 0 M) (e:=λp=>eA N2 (f (d p))) C λk t s=>by
   obtain⟨i,L,e2⟩:=SS h2 (v k t s);obtain⟨u,T⟩:=z i L;have I:LA R (x.A.map Cw) (d (eA N (g i)))/\eA N (d (eA N (g i)))=eA N (g i):=Classical.epsilon_spec (p:=λa=>LA R (x.A.map Cw) a/\eA N a=eA N (g i)) ⟨g i,u,rfl⟩;have P:d (eA N (g i))=g i:=gZ (eG h I.1).1 (eG h u).1 I.2
   refine⟨eA N (g i),?_,by
    show eA N2 (f (d (eA N (g i))))=(k,t)
    rw[P,T,e2]⟩
   have:=o _ _ (eG h u).2;exact (Le M 0 _ _).2 ⟨AA,this⟩
  rw[<-O0 M 0];exact this
 have G:BS (R.map (Ed N)) (Fy N x) (Ed N x).h.p.toNat (C4 (Fx (Ed N x).h))↔BS (l.map (Ed N2)) (Fy N2 c) (Ed N2 c).h.p.toNat (C4 (Fx (Ed N2 c).h)):=by
  rw[vL h,vL h2];constructor;intro o;rw[<-O];exact (H _ o).1;intro o;rw[<-K];exact (z _ o).1
 by_cases J:tot M<=200;rw[if_pos J]at q;have u:tot m<=tot M:=r h h2 z C v q.1;rw[if_pos AA]at n;have:b=true↔B=true:=by
  rw[q.2,n.2];exact⟨λs=>n.1 _ _ (G.1 (F _ _ s)),λs=>q.1 _ _ (G.2 (v _ _ s))⟩
 cases b<;>cases B<;>simp_all;rw[if_neg J]at q;by_cases E:tot m<=200;rw[if_pos E]at n;have u:tot M<=tot m:=r h2 h H S F n.1;omega;rw[if_neg E]at n;rw[q,n]
def rA (f:Tx->Tx)(a:AE):AE:=⟨a.nt,a.B,a.A.map f⟩
def Is (m:Tx->Tx):Tx->Tx
 |[]=>[]
 |b::r=>if b=35 then 35::m r else b::r
def eN (m v):Is m (35::v)=35::m v:=by unfold Is;dsimp only;rw[if_pos rfl]
def Ry {m u}(h:VT u)(a:Ab u=false):Is m u=u:=by
 obtain⟨d,c⟩:=QC h a;cases u with
 |nil=>rfl
 |cons b r=>
  unfold Is;dsimp only;rw[if_neg];rintro rfl;have:=c 35 nk;revert this;decide
def QW {m μ b}(h:∀t∈b.A,VT t):rA (Is m) (G3 μ b)=G3 (λv=>Is m (μ v)) b:=by
 refine AE.ext' rfl rfl ?_;show (b.A.map (Ij μ)).map (Is m)=b.A.map (Ij λv=>Is m (μ v));rw[BH];refine CG λt c=>?_;show Is m (Ij μ t)=_;cases a:Ab t with
 |true=>rw[C1 a,C1 a]
 |false=>rw[Cm a,Cm a,Ry (h t c) a]
def Ic (L:ol)(w:Tx):Tx:=(L.find? λv=>C6 L v==w).getD w
section
variable {x:AB} (hx:XR x)
include hx
theorem XR.back {a}(m:a∈Af x){t}(l:t∈a.A)(f:Ab t=true):Ic (Au x) (C6 (Au x) t)=t:=by
 have c:=hx.mem m l f;have o:∀u∈Au x,Ab u=true:=λu g=>by
  have:=K7 ((Af x).flatMap (·.A)) [] nk GN;exact (this.1 u g).1
 unfold Ic;cases d:(Au x).find? λv=>C6 (Au x) v==C6 (Au x) t with
 |none=>
  have:=KB.1 d t c;simp at this
 |some u=>
  have e:=ME d;have b:=List.find?_some d;simp only[DO]at b;show u=t;unfold C6 at b;rw[if_pos (o u e),if_pos f]at b;have p:=hx.which e;have i:=hx.which c;have q:=hx.few;rw[p.1,i.1]at b;have n:=List.cons.inj b;have j:=Fv (k:=((Au x).idxOf u:Nat)) AA AA;have e2:=Fv (k:=((Au x).idxOf t:Nat)) AA AA;rw[n.1]at j;exact E9 e c AA
theorem XR.wvar {a}(b:a∈Af x){t}(d:t∈a.A):Ab (C6 (Au x) t)=Ab t:=Hu λc=>hx.rng b d c
theorem XR.atM_ren {a}(d:a∈Af x)(μ):G3 μ (Br (Au x) a)=G3 (λv=>μ (C6 (Au x) v)) a:=by
 refine AE.ext' rfl rfl ?_;show (a.A.map (C6 (Au x))).map (Ij μ)=_;rw[BH];refine CG λt e=>?_;show Ij μ (C6 (Au x) t)=_;have c:=hx.wvar d e;cases b:Ab t with
 |true=>rw[b]at c;rw[C1 c,C1 b]
 |false=>
  rw[b]at c;rw[Cm c,Cm b];unfold C6;rw[if_neg (by simp[b])]
theorem XR.atM_back {a}(c:a∈Af x)(μ):G3 (λv=>μ (Ic (Au x) v)) (Br (Au x) a)=G3 μ a:=by
 rw[hx.atM_ren c];refine AE.ext' rfl rfl (CG λt d=>?_);cases b:Ab t with
 |true=>rw[C1 b,C1 b,hx.back c d b]
 |false=>rw[Cm b,Cm b]
theorem XR.frz {a}(d:a∈Af x)(f:∀t∈a.A,VT t):rA (Is (C6 (Au x))) (Cw a)=Cw (Br (Au x) a):=by
 refine AE.ext' rfl rfl ?_;show (a.A.map Hn).map (Is (C6 (Au x)))=(a.A.map (C6 (Au x))).map Hn;rw[BH,BH];refine CG λt c=>?_;show Is (C6 (Au x)) (Hn t)=Hn (C6 (Au x) t);have e:=hx.wvar d c;unfold Hn;rw[e];cases b:Ab t with
 |true=>rw[if_pos rfl,if_pos rfl,eN]
 |false=>
  rw[if_neg nk,if_neg nk,Ry (f t c) b];unfold C6;rw[if_neg (by simp[b])]
theorem XR.frz_back {a}(d:a∈Af x)(g:∀t∈a.A,VT t):rA (Is (Ic (Au x))) (Cw (Br (Au x) a))=Cw a:=by
 refine AE.ext' rfl rfl ?_;show ((a.A.map (C6 (Au x))).map Hn).map (Is (Ic (Au x)))=a.A.map Hn;rw[BH,BH];refine CG λt c=>?_;show Is (Ic (Au x)) (Hn (C6 (Au x) t))=Hn t;have f:=hx.wvar d c;unfold Hn;rw[f];cases b:Ab t with
 |true=>rw[if_pos rfl,if_pos rfl,eN,hx.back d c b]
 |false=>
  rw[if_neg nk,if_neg nk];have e:C6 (Au x) t=t:=by unfold C6;rw[if_neg (by simp[b])]
  rw[e,Ry (g t c) b]
end
def iD {R l S}(m:∀y∈R,XR y):KI R l S↔KI (R.map ren) l S:=by
 constructor;rintro⟨k,i⟩;refine⟨k,λz j c g=>?_⟩;obtain⟨y,d,rfl⟩:=AN.1 j;have a:=m y d;have e:=a.atM_ren (Ap (.inl ⟨a.o,rfl⟩)) c;show S (G3 c (Br (Au y) y.h));rw[e];refine i y d _ λb f=>?_;rw[<-a.atM_ren (Ap (.inr f)) c];exact g _ (AN.2 ⟨b,f,rfl⟩);rintro⟨k,i⟩;refine⟨k,λy d c g=>?_⟩;have a:=m y d;rw[<-a.atM_back (Ap (.inl ⟨a.o,rfl⟩)) c];refine i (ren y) (AN.2 ⟨y,d,rfl⟩) _ λz j=>?_;obtain⟨b,f,rfl⟩:=AN.1 j;rw[a.atM_back (Ap (.inr f)) c];exact g b f
def vS {R e c S m}(f:∀y∈R,∀a,a=y.h\/a∈y.A->∀t∈a.A,VT t)(i:∀a∈e,rA (Is m) a∈c)(h:KI R c S):KI R e λa=>S (rA (Is m) a):=
 ⟨λa k=>h.1 _ (i a k),λy d l j=>by
  show S (rA (Is m) (G3 l y.h));rw[QW (f y d _ (.inl rfl))];refine h.2 y d _ λb g=>?_;rw[<-QW (f y d b (.inr g))]
  exact j b g⟩
def vT {R g m n}(j:∀y∈R,∀t∈y.h.A,VT t)(q:∀y∈R,∀v∈y.h.A,Ab v=true->∃b∈y.A,v∈b.A)(l:∀a∈g,rA (Is m) (rA (Is n) a)=a):KI R g λa=>rA (Is m) (rA (Is n) a)=a:=by
 refine⟨l,λy e c p=>?_⟩;refine AE.ext' rfl rfl ?_;show ((((y.h.A.map (Ij c)).map (Is n)).map (Is m)))=y.h.A.map (Ij c);rw[BH,BH];refine CG λt f=>?_;show Is m (Is n (Ij c t))=Ij c t;cases d:Ab t with
 |false=>rw[Cm d,Ry (j y e t f) d,Ry (j y e t f) d]
 |true=>
  obtain⟨b,o,k⟩:=q y e t f d;have i:(((b.A.map (Ij c)).map (Is n)).map (Is m))=b.A.map (Ij c):=congrArg AE.A (p b o);rw[BH,BH]at i;exact List.map_inj_left.1 i t k
variable {Bd:Nat}
def zW {t l}(h:(Av t).1=0)(a:Cc 16 t= .got l []):Z t<=600/\(Co l).1=0:=by
 unfold Av at h;split at h;simp at h;rename_i b;split at h;simp at h;obtain⟨-,e,-,-⟩:=Ep AA a;rw[e]at h;exact⟨AA,h⟩
set_option maxRecDepth 1000000
end Go.Proofs.YtmoeoppbmhfbpabGreatDoorJ
