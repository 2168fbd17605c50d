import Derived.Test.YtmoeoppbmhfbpabGreatDoorO
set_option maxHeartbeats 64000000
set_option maxRecDepth 100000
set_option linter.all false
open List
open List renaming length->Z
namespace Go.Proofs.YtmoeoppbmhfbpabGreatDoorJ
open Go.Abs Tryz
def Ki (m:n0)(x:AB):Bool:=!x.o&&(m.any (Ly x.h.B)&&!F7 m x.h.B)
def Bb (l m:n0):Bool:=decide (Z m<=16)&&(m.all (λx=>decide (Z x.A<=5))&&(((Av (Bj m)).1==0)&&!l.any (Ki m)))
def Gd (l m cs b U P)(R:r AJ l cs)(C:r AJ m b)(hl:Z l<=1000)(az:Z m<=1000)(D:∀x∈m,x.fits/\x.short)(e):
  ni 164 [sl U (Z l) cs,sl P (Z m) b] e λa1 σ'=>a1=my (Bb l m)/\W e σ':=by
 have a4:=r.length Cf R;have a3:=r.length Cf C;by_cases a6:16<Z m
 ·have ae:decide ((Z m:Int)>16):=by rw[CV];omega
  have a:V (Bb l m=false):=by rw[V,Bb,KF L];rfl
  clear a6;refine wl func164 ?_;refine X ?_
  exact⟨_,rfl,by rw[a.o],W.refl _⟩
 have ae:decide ((Z m:Int)>16)=false:=by simp;omega
 have E:=λe=>Py m b P C L (λx n=>(D x n).1) (λx n=>(D x n).2) e;have G:=λe=>T6 (Bj m) e;have j:=λp e=>lK m b P p C L (λx n=>(D x n).1) e;have k:=λp e=>W4 m b P p C L e;have Q:V (Bb l m=(m.all (λx=>decide (Z x.A<=5))&&(((Av (Bj m)).1==0)&&!l.any (Ki m)))):=by rw[V,Bb,LJ L,FV]
 have a0:∀x∈m,Z x.A<=1000:=λx n=>(D x n).1.1;clear D a6;refine wl func164 ?_;refine X ?_
 refine Ae (λq s σ'=>∃i:Nat,q=Z m-i/\i<=Z m/\s 0=sl U (Z l) cs/\s 1=sl P (Z m) b/\s 5=Y i/\W e σ'/\V (∀x∈m.take i,Z x.A<=5)) (Z m)
  ⟨0,L,L,by simp[upd,AL],by simp[upd,AL],AG,W.refl _,by simp[V]⟩ ?_
 rintro q s σ' ⟨i,rfl,hi,S,K,a9,g,f⟩;have a7:=g.B;by_cases aw:i<Z m
 ·have c:V (m[i]?=some m[i]):=AK aw;let⟨ab,id,af,a1,M,N⟩:=Cv C c.o;generalize m[i]=x at c M N;by_cases a2:5<Z x.A
  ·have ax:decide ((Z x.A:Int)>5):=by rw[CV];omega
   have a:V (Bb l m=false):=by
    rw[V,Q.o];have:m.all (λx=>decide (Z x.A<=5))=false:=IQ.2 ⟨x,AY c.o,by simp;omega⟩;rw[this];rfl
   clear c f a2 Q;refine X ?_
   exact⟨_,rfl,by rw[a.o]⟩
  have ax:decide ((Z x.A:Int)>5)=false:=by simp;omega
  have o:V (∀y∈m.take (i+1),Z y.A<=5):=λy v=>by
   rw[AT,c.o]at v;obtain v|v:=AW.1 v
   ·exact f.o y v
   have:y=x:=nn v;rw[this];omega
  clear c f a2;refine X ?_;refine⟨Z m-(i+1),L,i+1,?_⟩;exact m9 o
 obtain rfl:i=Z m:=L;rw[AS]at f;have F:V (Bb l m=(((Av (Bj m)).1==0)&&!l.any (Ki m))):=by
  rw[V,Q.o,CX.2 λx n=>nn (f.o x n),FV]
 clear f Q;cases u:((Av (Bj m)).1==0)
 ·have ad:((Av (Bj m)).1 !=0)=true:=nn u;have a:V (Bb l m=false):=by rw[V,F.o,u];rfl
  clear u F;refine m0 ?_;intro yb ya;(first|(refine Xi (E _) ?_;rintro _ _ ⟨rfl,d⟩)|(refine Xi (G _) ?_;rintro _ _ ⟨rfl,B⟩));refine mz ?_;(first|(refine Xi (E _) ?_;rintro _ _ ⟨rfl,d⟩)|(refine Xi (G _) ?_;rintro _ _ ⟨rfl,B⟩));refine X ?_
  first|exact⟨_,rfl,by rw[a.o],(g.trans d).trans B⟩|exact⟨_,rfl,by rw[a.o]⟩
 have ad:((Av (Bj m)).1 !=0)=false:=nn u;have T:V (Bb l m=!l.any (Ki m)):=by rw[V,F.o,u,FV]
 clear u F
 repeat' first|refine Z1 ?_|refine Z8 λyb ya=>?_|refine Z4 ?_;clear ya yb|refine Z2 ?_ ?_<;>intro h aa<;>try exact Xp|(refine Z5 ?_;first|(refine Xi (E _) ?_;rintro _ _ ⟨rfl,d⟩)|(refine Xi (G _) ?_;rintro _ _ ⟨rfl,B⟩;(have a5:=(g.trans d).trans B)))|refine Z3 ?_|exact Zt|apply ya.o;clear ya yb
 refine Ae (λq s σ'=>∃i:Nat,q=Z l-i/\i<=Z l/\s 0=sl U (Z l) cs/\s 1=sl P (Z m) b/\s 8=Y i/\W e σ'/\V ((l.take i).any (Ki m)=false)) (Z l)
  ⟨0,L,L,by simp[upd,S],by simp[upd,K],AG,a5,by simp[V]⟩ ?_
 clear S K a9 g a5 d B a7 E G;rintro q s σ' ⟨i,rfl,hi,S,K,h8,g,f⟩;have a7:=g.B;by_cases ac:i<Z l
 ·have c:V (l[i]?=some l[i]):=AK ac;obtain⟨ab,id,af,a1,M,N⟩:=Cv R c.o;generalize l[i]=x at c M N;have o:V (Ki m x=false->(l.take (i+1)).any (Ki m)=false):=λh=>by rw[any_take_succ _ c.o,f.o,h];rfl
  have A:V (Ki m x=true->Bb l m=false):=λh=>by rw[T.o,D4 _ c.o h];rfl
  have j:=j x.h.B;have k:=k x.h.B;clear f;cases I:x.o with
  |true=>
   have a:V ((l.take (i+1)).any (Ki m)=false):=o.o (by unfold Ki;rw[I];rfl);clear A o c j k;refine X ?_;refine⟨Z l-(i+1),L,i+1,?_⟩;exact m9 a
  |false=>
   cases t:m.any (Ly x.h.B)with
   |false=>
    have a:V ((l.take (i+1)).any (Ki m)=false):=o.o (by unfold Ki;rw[I,t];rfl);rw[t]at j;clear A o c k t;refine m0 ?_;intro yb ya;refine Xi (j _) ?_;rintro _ _ ⟨rfl,d⟩;refine X ?_;refine⟨Z l-(i+1),L,i+1,?_⟩;exact nf a (g.trans d)
   |true=>
    rw[t]at j;cases z:F7 m x.h.B with
    |true=>
     have a:V ((l.take (i+1)).any (Ki m)=false):=o.o (by unfold Ki;rw[I,t,z];rfl);rw[z]at k;clear A o c t z;refine m0 ?_;intro yb ya;(first|(refine Xi (j _) ?_;rintro _ _ ⟨rfl,d⟩)|(refine Xi (k _) ?_;rintro _ _ ⟨rfl,rfl⟩));refine mz ?_;(first|(refine Xi (j _) ?_;rintro _ _ ⟨rfl,d⟩)|(refine Xi (k _) ?_;rintro _ _ ⟨rfl,rfl⟩));refine X ?_;refine⟨Z l-(i+1),L,i+1,?_⟩;exact nf a (g.trans d)
    |false=>
     have a:V (Bb l m=false):=A.o (by unfold Ki;rw[I,t,z];rfl);rw[z]at k;clear A o c t z;refine m0 ?_;intro yb ya;(first|(refine Xi (j _) ?_;rintro _ _ ⟨rfl,d⟩)|(refine Xi (k _) ?_;rintro _ _ ⟨rfl,rfl⟩));refine mz ?_;(first|(refine Xi (j _) ?_;rintro _ _ ⟨rfl,d⟩)|(refine Xi (k _) ?_;rintro _ _ ⟨rfl,rfl⟩));refine X ?_
     first|exact⟨_,rfl,by rw[a.o],g.trans d⟩|exact⟨_,rfl,by rw[a.o]⟩
 have a8:i=Z l:=L;subst a8;rw[AS]at f;have a:V (Bb l m=true):=by rw[V,T.o,f.o];rfl
 clear f T;refine X ?_
 first|exact⟨_,rfl,by rw[a.o],g⟩|exact⟨_,rfl,by rw[a.o]⟩
def F6 (l:n0)(x:AB):Bool:=x.o||l.any (Mt l x.h.B)
def fT (l cs S)(R:r AJ l cs)(hl:Z l<=16)(P:∀x∈l,x.fits/\x.short)(d):
  ni 107 [sl S (Z l) cs] d λac σ'=>∃id U,ac=tp [sl id (Z (l.filter (F6 l))) U,my (decide (Z (l.filter (F6 l))<Z l)&&Bb l (l.filter (F6 l)))]/\r AJ (l.filter (F6 l)) U/\W d σ':=by
 have a5:=r.length Cf R;have c:=λaa d=>fS l cs S aa R hl (λx z=>(P x z).1) d;refine wl func107 ?_;refine X ?_
 refine Ae (λq s σ'=>∃(i b:Nat) (p:n0) (a:oh),q=Z l-i/\i<=Z l/\s 0=sl S (Z l) cs/\s 4=sl b (Z p) a/\s 5=Y i/\W d σ'/\J d σ' b (Z p)/\Z a=Z p*5/\Z p<=i/\V (p=(l.take i).filter (F6 l)/\r AJ p a)) (Z l)
  ⟨0,1,[],[],L,L,by simp[upd,AL],AG,AG,W.refl _,J.nil _ _,rfl,nk,nk,rfl⟩ ?_
 rintro q s σ' ⟨i,b,p,a,rfl,hi,h0,h4,h5,g,A,a4,a6,j⟩;have a3:=g.B;by_cases ax:i<Z l
 ·obtain⟨y,E⟩:=gq ax;obtain⟨t,F,G,r2,Q,ad⟩:=Cv R E;have M:V ((l.take (i+1)).filter (F6 l)=(l.take i).filter (F6 l)++if F6 l y=true then [y]else []):=by
   rw[V,AT,E,BN,IR];congr 1;cases a0:F6 l y<;>simp[a0]
  have v:V (F6 l y->p++[y]=(l.take (i+1)).filter (F6 l)/\r AJ (p++[y]) (a++[my y.o,my y.h.nt,O y.h.B,sl t (Z y.h.A) (y.h.A.map O),sl F (Z y.A) G])):=λh=>⟨by rw[M.o,if_pos h,j.o.1],r.append j.o.2 (r.single ⟨[my y.h.nt,O y.h.B,sl t (Z y.h.A) (y.h.A.map O)],F,G,⟨t,rfl⟩,Q,rfl⟩)⟩;have D:V (F6 l y=false->p=(l.take (i+1)).filter (F6 l)/\r AJ p a):=λh=>⟨by rw[M.o,if_neg (ns h),EJ];exact j.o.1,j.o.2⟩;have c:=c y.h.B;clear E j M;cases u:y.o with
  |true=>
   have f:V _:=v.o (by unfold F6;rw[u];rfl);rw[u]at f;clear v D c;refine m5 ?_;intro yb ya;intro k I T an a9 a1 a8 a7;refine X ?_;exact⟨Z l-(i+1),L,i+1,k,p++[y],a++[my true,my y.h.nt,O y.h.B,sl t (Z y.h.A) (y.h.A.map O),sl F (Z y.A) G],oj⟩
  |false=>
   cases m:l.any (Mt l y.h.B)
   ·have f:V _:=D.o (by unfold F6;rw[u,m];rfl);rw[m]at c;clear v D m;refine m0 ?_;intro yb ya;refine Xi (c _) ?_;rintro _ _ ⟨rfl,e⟩;(have g:=g.trans e;have A:=J.keep A e);refine X ?_;refine⟨Z l-(i+1),L,i+1,b,p,a,?_⟩;exact m9 f
   have f:V _:=v.o (by unfold F6;rw[u,m];rfl);rw[u]at f;rw[m]at c;clear v D m;refine m0 ?_;intro yb ya;refine Xi (c _) ?_;rintro _ _ ⟨rfl,e⟩;(have g:=g.trans e;have A:=J.keep A e);refine m5 ?_;intro yb ya;intro k I T an a9 a1 a8 a7;refine X ?_;refine⟨Z l-(i+1),L,i+1,k,p++[y],a++[my false,my y.h.nt,O y.h.B,sl t (Z y.h.A) (y.h.A.map O),sl F (Z y.A) G],?_⟩
   ((repeat' refine Zi ?_ ?_)<;>first|exact Xq|exact f|exact (by rw[AX];exact T)|exact Xs)
 obtain rfl:i=Z l:=L;let⟨C,N⟩:=j.o;rw[AS]at C;rw[<-C];have K:=λd=>Gd l p cs a S b R N L L (λx z=>P x (by rw[C]at z;exact (BP.1 z).1)) d;have B:V _:=N;clear j C N c;by_cases o:Z p<Z l
 ·have a2:decide ((Z p:Int)<(Z l:Int)):=nn o
  have n:V ((decide (Z p<Z l)&&Bb l p)=Bb l p):=by rw[V,LJ o,FV]
  rw[n.o];generalize Bb l p=ab at K;refine mt K ?_;rintro yb ya _ _ ⟨rfl,e⟩;refine X ?_
  exact⟨_,rfl,b,a,rfl,B.o,g.trans e⟩
 have a2:decide ((Z p:Int)<(Z l:Int))=false:=by simp;omega
 have n:V ((decide (Z p<Z l)&&Bb l p)=false):=by rw[V,KF o,Bool.false_and]
 rw[n.o];refine X ?_
 exact⟨_,rfl,b,a,rfl,B.o⟩
def PP (x:AB)(k:Nat):Prop:=Db (C8 x k)/\Hj x k
def wC (l:n0)(i:Nat)(x:AB)(k:Nat):Prop:=PP x k/\Bb l (rpl i [C8 x k] l)
def LU (l:n0)(o:Option n0):Prop:=
 (o=none/\∀i x,l[i]?=some x->∀k,k<Z x.A->¬wC l i x k)\/∃i x k,o=some (rpl i [C8 x k] l)/\l[i]?=some x/\k<Z x.A/\wC l i x k/\(∀c b,c<i->l[c]?=some b->∀a,a<Z b.A->¬wC l c b a)/\∀a,a<k->¬wC l i x a
def SZ {x}(h:x.fits/\x.short)(k):(C8 x k).fits/\(C8 x k).short:=
 ⟨Ms h.1,h.2.1,λa b=>h.2.2 a (EE b)⟩
def aN (l cs e)(p:r AJ l cs)(hl:Z l<=16)(hf:∀x∈l,x.fits/\x.short)(h5:∀x∈l,Z x.A<=5)(d):
  ni 108 [sl e (Z l) cs] d λak σ'=>∃o m id k,ak=tp [sl id (Z m) k,my o.isSome]/\LU l o/\(∀v,o=some v->m=v)/\r AJ m k/\W d σ':=by
 have bb:=r.length Cf p;refine wl func108 ?_;refine X ?_
 refine Ae (λq s σ'=>∃i:Nat,q=Z l-i/\i<=Z l/\s 0=sl e (Z l) cs/\s 4=Y i/\W d σ'/\V (∀c f,c<i->l[c]?=some f->∀a,a<Z f.A->¬wC l c f a)) (Z l)
  ⟨0,L,L,by simp[upd,AL],AG,W.refl _,λc f h=>L⟩ ?_
 rintro q s σ' ⟨i,rfl,hi,N,Q,g,A⟩;have ax:=g.B;by_cases B:i<Z l
 ·have G:V (l[i]?=some l[i]):=AK B;let⟨jh,jd,jb,r2,I,a7⟩:=Cv p G.o;have F:=hf l[i] (AR B);have ay:=h5 l[i] (AR B);generalize l[i]=x at G I a7 F ay;have ba:=r.length A7 I
  refine X ?_
  refine Ae (λq s σ'=>∃j:Nat,q=Z x.A-j/\j<=Z x.A/\s 0=sl e (Z l) cs/\s 4=Y i/\s 5=Y j/\W d σ'/\V (∀a,a<j->¬wC l i x a)) (Z x.A)
   ⟨0,L,L,by simp[upd,N],by simp[upd,Q],AG,g,λa h=>L⟩ ?_
  clear N Q g ax;rintro q s σ' ⟨j,rfl,hj,N,Q,bc,g,z⟩;have ax:=g.B;by_cases ae:j<Z x.A
  ·have a0:=λd=>Kg x _ j (AJ.of (ih:=jh) (id:=jd) I) F.1.1 d;have a3:=λd=>lI x _ j (AJ.of (ih:=jh) (id:=jd) I) F.1 ay ae d;unfold A4 at a0 a3;have a4:=λk (y:AJ (C8 x j) k) aj d=>G7 l [C8 x j] cs k e aj i p (r.single y) L nk B d
   have U:=λai cm (hm:r AJ (rpl i [C8 x j] l) cm) d=>Gd l (rpl i [C8 x j] l) cs cm e ai p hm L (by rw[I4 B];simp;omega) (λaf u=>by
    obtain u|u:=Cy u
    ·exact hf af u
    have:af=C8 x j:=nn u
    rw[this];exact SZ F j) d
   have a5:V (∀b,(b=true↔Db (C8 x j)=true/\Hj x j)->b=false->¬wC l i x j):=λb h D M=>by rw[h.2 M.1]at D;cases D
   have C:V (Bb l (rpl i [C8 x j] l)=false->¬wC l i x j):=λh M=>by rw[M.2]at h;cases h
   have E:V (Db (C8 x j)/\Hj x j->Bb l (rpl i [C8 x j] l)->LU l (some (rpl i [C8 x j] l))):=λh1 t=>.inr ⟨i,x,j,rfl,G.o,ae,⟨h1,t⟩,A.o,z.o⟩;have n:V (¬wC l i x j->∀a,a<j+1->¬wC l i x a):=λh a az=>by
    by_cases a1:a=j
    ·rw[a1];exact h
    exact z.o a L
   generalize Bb l (rpl i [C8 x j] l)=ab at U C E;generalize rpl i [C8 x j] l=a6 at a4 U E;clear z
   repeat' first|refine Z1 ?_|refine Z8 λyb ya=>?_|refine Z4 ?_;clear ya yb|refine Z2 ?_ ?_<;>intro h ac<;>try exact Xp|(refine Z5 ?_;first|(refine Xi (a0 _) ?_;rintro _ _ ⟨k,rfl,y,P⟩;(have ah:=a4 k y;obtain⟨wh,wd,wb,a9,rfl⟩:=y.cells;unfold A4 at ah⊢))|(refine Xi (ah _ _) ?_;rintro _ _ ⟨a2,cr,rfl,T,S⟩;(have au:=U a2 cr T;have a8:V _:=T;clear T))|(refine Xi (a3 _) ?_;rintro _ _ ⟨b,rfl,D,K⟩;(have aa:V _:=D;clear D;cases b))|(refine Xi (au _) ?_;rintro _ _ ⟨rfl,ad⟩;(cases ab)))|refine Z3 ?_|exact Zt|apply ya.o;clear ya yb
   ·have R:V _:=n.o (a5.o false aa.o rfl);clear n a5 C E;refine⟨Z x.A-(j+1),L,j+1,?_⟩
    ((repeat' refine Zi ?_ ?_)<;>first|exact Xq|exact R|exact (((g.trans P).trans S).trans K)|exact Xs)
   ·have R:V _:=n.o (C.o rfl);refine⟨Z x.A-(j+1),L,j+1,?_⟩
    ((repeat' refine Zi ?_ ?_)<;>first|exact Xq|exact R|exact ((((g.trans P).trans S).trans K).trans ad)|exact Xs)
   exact⟨_,rfl,some a6,a6,a2,cr,rfl,E.o (aa.o.1 rfl) rfl,(by intro v h;cases h;rfl),a8.o,((((g.trans P).lay 1).trans S).trans K).trans ad⟩
  have n:V (∀c f,c<i+1->l[c]?=some f->∀a,a<Z f.A->¬wC l c f a):=λc f h1 t a az=>by
   by_cases a1:c=i
   ·subst a1;rw[G.o]at t;cases t;exact z.o a L
   exact A.o c f L t a az
  refine X ?_;refine⟨Z l-(i+1),L,i+1,?_⟩;exact m9 n
 have HR:V (LU l none):=.inl ⟨rfl,λc f h=>A.o c f (ny ((BA.1 h).1)) h⟩;clear A;refine X ?_
 exact⟨_,rfl,none,l,e,cs,rfl,HR.o,(by intro v h;cases h),p⟩
def LM (l:n0)(o:Option n0):Prop:=
 (o=none/\∀i x,l[i]?=some x->x.o=false->Qu l i x false\/Bb l (rpl i [] l)=false)\/∃i x,o=some (rpl i [] l)/\l[i]?=some x/\x.o=false/\Qu l i x true/\Bb l (rpl i [] l)/\∀a b,a<i->l[a]?=some b->b.o=false->Qu l a b false\/Bb l (rpl a [] l)=false
def aR (l cs a)(k:r AJ l cs)(hl:Z l<=16)(hf:∀x∈l,x.fits/\x.short)(S:∀x∈l,FG x)(f):
  ni 109 [sl a (Z l) cs] f λad σ'=>∃o m id T,ad=tp [sl id (Z m) T,my o.isSome]/\LM l o/\(∀z,o=some z->m=z)/\r AJ m T/\W f σ':=by
 have a5:=r.length Cf k;refine wl func109 ?_;refine X ?_
 refine wn [0] 4 (Z l) (λi ae σ'=>W f σ'/\V (∀c d,c<i->l[c]?=some d->d.o=false->Qu l c d false\/Bb l (rpl c [] l)=false)) ⟨W.refl _,λc d h=>L⟩ ?_
 rintro i ae σ' _ _ _ ⟨n,p⟩;have a4:=n.B;by_cases b:i<Z l
 ·have t:V (l[i]?=some l[i]):=AK b;let⟨jh,jd,jb,r2,aw,ax⟩:=Cv k t.o;have G:=S l[i] (AR b);generalize l[i]=x at t aw ax G;have e:=λf=>G7 l [] cs [] a 1 i k rfl L nk b f
  have F:=λa6 Q (hm:r AJ (rpl i [] l) Q) f=>Gd l (rpl i [] l) cs Q a a6 k hm L (by rw[I4 b];simp;omega) (λy g=>by
   obtain g|g:=Cy g
   ·exact hf y g
   cases g) f
  have u:V ((x.o=false->Qu l i x false\/Bb l (rpl i [] l)=false)->∀c d,c<i+1->l[c]?=some d->d.o=false->Qu l c d false\/Bb l (rpl c [] l)=false):=λh c d K v P=>by
   by_cases aa:c=i
   ·subst aa;rw[t.o]at v;cases v;exact h P
   exact p.o c d L v P
  cases A:x.o
  ·have ap:=G.cl A;have af:=(G.w.2.2 A).2.2.1;have a0:=λf=>aO l cs a i x k L t.o L ap.2.1 (λa8 U=>⟨ap.2.2 a8 U,G.var (by simp[Af,A,U])⟩) (λy g av=>(S y g).rule av) f;have D:V (Qu l i x true->Bb l (rpl i [] l)=true->LM l (some (rpl i [] l))):=λK v=>.inr ⟨i,x,rfl,t.o,A,K,v,p.o⟩;have I:V (Bb l (rpl i [] l)=false->∀c d,c<i+1->l[c]?=some d->d.o=false->Qu l c d false\/Bb l (rpl c [] l)=false):=λh=>u.o λ_=>.inr h;have N:V (Qu l i x false->∀c d,c<i+1->l[c]?=some d->d.o=false->Qu l c d false\/Bb l (rpl c [] l)=false):=λh=>u.o λ_=>.inl h;generalize ay:Bb l (rpl i [] l)=ab at F I D;generalize az:rpl i [] l=R at e F D;clear u p ay az
   repeat' first|refine Z1 ?_|refine Z8 λyb ya=>?_|refine Z4 ?_;clear ya yb|refine Z2 ?_ ?_<;>intro h ac<;>try exact Xp|(refine Z5 ?_;first|(refine Xi (e _) ?_;rintro _ _ ⟨j,M,rfl,E,C⟩;(have ao:=F j M E;have a3:V _:=E;clear E))|(refine Xi (a0 _) ?_;rintro _ _ ⟨a9,rfl,a2,q⟩;(have s:V _:=a2;clear a2;cases a9))|(refine Xi (ao _) ?_;rintro _ _ ⟨rfl,a1⟩;(cases ab)))|refine Z3 ?_|exact Zt|apply ya.o;clear ya yb
   ·have B:V _:=N.o s.o;clear I D N;skip
    exact nf B ((n.trans C).trans q)
   ·have B:V _:=I.o rfl;clear I D N;skip
    exact nf B (((n.trans C).trans q).trans a1)
   exact⟨_,rfl,some R,R,j,M,rfl,D.o s.o rfl,(by intro z h;cases h;rfl),a3.o,((n.trans C).trans q).trans a1⟩
  have B:V _:=u.o (λh=>by rw[A]at h;cases h);clear u p F;refine m0 ?_;intro yb ya;refine Xi (e _) ?_;rintro _ _ ⟨j,M,rfl,E,C⟩;refine X ?_;skip;exact nf B (n.trans C)
 have a7:V (LM l none):=.inl ⟨rfl,λc d h=>p.o c d (ny ((BA.1 h).1)) h⟩;clear p;refine X ?_
 exact⟨_,rfl,none,l,a,cs,rfl,a7.o,(by intro z h;cases h),k⟩
def EN (l:n0):Prop:=∃t,(Av t).1=0/\Bl t=l
structure lx (l:n0):Prop where
 len:Z l<=16
 fs:∀x∈l,x.fits/\x.short
 b5:∀x∈l,Z x.A<=5
 fine:∀x∈l,FG x
def EN.p {l}(h:EN l):lx l:=by
 obtain⟨t,m,rfl⟩:=h;let⟨i,l,v,p⟩:=H9 m;let⟨u,n,s,e⟩:=Ep L p;have f:=P4 m;rw[n]at f⊢;have o:∀x∈l,Z x.A<=5:=λx b=>by
  cases c:x.o
  ·exact ((e x b).2.2 c).2.2.1
  rw[((e x b).2.1 c).2.2];simp
 refine⟨s,λx b=>⟨?_,(f x b).sh⟩,o,f⟩;cases c:x.o
 ·obtain⟨k,j,g,q⟩:=(e x b).2.2 c;exact⟨L,by have:=k.2.2.1;omega,λa d=>by have:=(q a d).2.2.1;omega⟩
 obtain⟨k,j,g⟩:=(e x b).2.1 c;exact⟨gp,gp,λa d=>gp⟩
def wB (l:n0):Prop:=(Av (Bj l)).1=0/\Z l<=16/\∀x∈l,x.fits/\x.short
def FO (T:n0->Option n0->Prop)(c:UInt8):Prop:=∀(l:n0) (g:oh) (a:Nat),EN l->r AJ l g->∀f:St,ni 63 [sl a (Z l) g,sc (.int .u8 c.toNat)] f λi b=>∃o m id e,i=tp [sl id (Z m) e,my o.isSome]/\T l o/\(∀d,o=some d->m=d/\wB d)/\r AJ m e/\W f b
def NO (l:n0)(o:Option n0):Prop:=((decide (Z (l.filter (F6 l))<Z l)&&Bb l (l.filter (F6 l)))/\o=some (l.filter (F6 l)))\/((decide (Z (l.filter (F6 l))<Z l)&&Bb l (l.filter (F6 l)))=false/\o=none)
def Gi {l m}(h:Bb l m):(Av (Bj m)).1=0/\Z m<=16:=by grind[Bb]
def l8:FO NO 115:=λl z f A B n=>by
 have c:=A.p;have d:=λn=>fT l z f B c.len c.fs n;have q:V (∀b,(decide (Z (l.filter (F6 l))<Z l)&&Bb l (l.filter (F6 l)))=b->∃o,b=o.isSome/\NO l o/\∀a,o=some a->l.filter (F6 l)=a/\wB a):=λb h=>by
  cases b
  ·exact⟨none,rfl,.inr ⟨h,rfl⟩,λa e=>by cases e⟩
  refine⟨some _,rfl,.inl ⟨h,rfl⟩,λa e=>?_⟩;cases e;simp only[BM]at h;exact⟨rfl,(Gi h.2).1,(Gi h.2).2,λx u=>c.fs x (BP.1 u).1⟩
 generalize s:(decide (Z (l.filter (F6 l))<Z l)&&Bb l (l.filter (F6 l)))=t at d;let⟨o,v,C,p⟩:=q.o t s;have i:V _:=C;have g:V _:=p;clear q s c C p;generalize l.filter (F6 l)=m at d g;subst v;refine wl func63 ?_;refine mt d ?_;rintro yb ya _ _ ⟨id,j,rfl,k,y⟩;refine X ?_
 first|exact⟨_,rfl,o,m,id,j,rfl,i.o,g.o,k,y⟩|exact⟨_,rfl,o,m,id,j,rfl,i.o,g.o,k⟩
def l5:FO LU 97:=λl z f s A g=>by
 have b:=s.p;have v:=λg=>aN l z f A b.len b.fs b.b5 g;have t:V (∀o,LU l o->∀a,o=some a->wB a):=λo h a e=>by
  subst e;obtain⟨h,-⟩|⟨i,x,k,h,E,-,C,-⟩:=h;cases h;cases h
  exact⟨(Gi C.2).1,(Gi C.2).2,λy c=>by
   obtain c|c:=Cy c;exact b.fs y c;have:y=C8 x k:=nn c
   exact this▸SZ (b.fs x (AY E)) k⟩
 apply wl func63;refine mt v ?_;rintro yb ya _ _ ⟨o,m,id,q,rfl,j,p,D,u⟩;have d:V _:=j;have B:V _:=p;clear j p;refine X ?_;have n:V (∀a,o=some a->m=a/\wB a):=λa e=>⟨B.o a e,t.o o d.o a e⟩
 first|exact⟨_,rfl,o,m,id,q,rfl,d.o,n.o,D,u⟩|exact⟨_,rfl,o,m,id,q,rfl,d.o,n.o,D⟩
def l7:FO LM 114:=λl v f C z g=>by
 have c:=C.p;have u:=λg=>aR l v f z c.len c.fs c.fine g;have s:V (∀o,LM l o->∀a,o=some a->wB a):=λo h a e=>by
  subst e;obtain⟨h,-⟩|⟨i,x,h,D,-,-,B,-⟩:=h;cases h;cases h
  exact⟨(Gi B).1,(Gi B).2,λy b=>by
   obtain b|b:=Cy b;exact c.fs y b
   cases b⟩
 apply wl func63;refine mt u ?_;rintro yb ya _ _ ⟨o,m,id,p,rfl,j,n,q,t⟩;have d:V _:=j;have A:V _:=n;clear j n;refine X ?_;have k:V (∀a,o=some a->m=a/\wB a):=λa e=>⟨A.o a e,s.o o d.o a e⟩
 first|exact⟨_,rfl,o,m,id,p,rfl,d.o,k.o,q,t⟩|exact⟨_,rfl,o,m,id,p,rfl,d.o,k.o,q⟩
inductive FF (T:n0->Option n0->Prop)(b:Int)(l:n0)(m:Int):n0->Int->Prop where
 |refl:FF T b l m l m
 |snoc {l1 l2:n0} {m1:Int}:FF T b l m l1 m1->m1<b->T l1 (some l2)->wB l2->FF T b l m (Bl (Bj l2)) (m1+1)
def PE (T:n0->Option n0->Prop)(b:Int)(l:n0)(m:Int)(a:n0)(c:Int):Prop:=FF T b l m a c/\(b<=c\/T a none)
inductive DPss (T:UInt8->n0->Option n0->Prop)(b:Int)(l:n0)(m:Int):Tx->n0->Int->Prop where
 |nil:DPss T b l m [] l m
 |snoc {ps:Tx} {c:UInt8} {l1 l2:n0} {m1 m2:Int}:DPss T b l m ps l1 m1->PE (T c) b l1 m1 l2 m2->DPss T b l m (ps++[c]) l2 m2
def Lh (T:UInt8->n0->Option n0->Prop)(t a:Tx)(b:Int)(d:Tx×Int×Int):Prop:=
 if (Av t).1≠0 then d=([],0,(Av t).1)else
 if Dd a=false then d=([],0,11)else
 if b<0 then d=([],0,6)else
 ∃c m,DPss T b (Bl t) 0 a c m/\d=(Bj c,m,0)
def je (c):((B7 [115,97,114,117,108] (c.toNat:Int):Int)==5)=!Ho c:=by
 have:∀c:UInt8,((B7 [115,97,114,117,108] (c.toNat:Int):Int)==5)=!Ho c:=by
  intro c;by_cases g:c=115;subst g;decide;by_cases b:c=97;subst b;decide;by_cases f:c=114;subst f;decide;by_cases i:c=117;subst i;decide;by_cases a:c=108;subst a;decide;have o:Ho c=false:=by grind[Ho]
  have k:∀d:UInt8,c≠d->¬((d.toNat:Int)=(c.toNat:Int)):=λd n e=>n (UInt8.toNat_inj.1 L);rw[o,Yx _ _ λj _ x m=>?_];rfl;have l:=AY m;simp only[BD,EK,DZ]at l;obtain rfl|rfl|rfl|rfl|rfl:=l;simpa using k _ g;simpa using k _ b;simpa using k _ f;simpa using k _ i;simpa using k _ a
 exact this c
def W9 (T t d b)(b7:b<=9223372036854775807)(D:0<b->Dd d->∀c∈d,FO (T c) c)(f):ni 34 [O t,O d,Y b] f λae σ'=>∃p,ae=qC p/\Lh T t d b p/\W f σ':=by
 have b6:({data:=#[]}:ByteArray)=bs []:=rfl;have b5:({data:=#[115,97,114,117,108]}:ByteArray)=bs [115,97,114,117,108]:=rfl;have hC:=λf=>T6 t f;by_cases A:(Av t).1=0
 case neg=>
  have bu:((Av t).1 !=0):=nn A;have j:V (Lh T t d b ([],0,(Av t).1)):=by rw[V,Lh,if_pos A]
  clear A D;refine wl func34 ?_;refine mt hC ?_;rintro yb ya _ _ ⟨rfl,ab⟩;refine X ?_
  exact⟨_,rfl,([],0,_),rfl,j.o⟩
 have bu:((Av t).1 !=0)=false:=nn A;by_cases h8:8<Z d
 ·have bw:decide ((Z d:Int)>8):=by rw[CV];omega
  have j:V (Lh T t d b ([],0,11)):=by
   rw[V,Lh,if_neg (ns A),if_pos];unfold Dd;rw[KF L];rfl
  clear A D h8;refine wl func34 ?_;refine mt hC ?_;rintro yb ya _ _ ⟨rfl,ab⟩;refine X ?_
  exact⟨_,rfl,([],0,11),rfl,j.o⟩
 have bw:decide ((Z d:Int)>8)=false:=by simp;omega
 have y:=λc f=>Ld [115,97,114,117,108] c nk f;let⟨am,l0,r0,ai⟩:=H9 A;let⟨g1,g2,g3,g4⟩:=Ep L ai;have a1:=λf=>L2 t L (ny g1.1) g1.2 f;have a5:V (∀a,wB a->∀f,ni 62 [O (Bj a)] f λae σ'=>∃id cs,ae=sl id (Z (Bl (Bj a))) cs/\r AJ (Bl (Bj a)) cs/\W f σ'):=λa C f=>by
  let⟨I,l3,r3,h3⟩:=H9 C.1;let⟨k1,k2,k3,k4⟩:=Ep L h3;exact L2 (Bj a) L (ny k1.1) k1.2 f
 have q:V (∀p,(if Dd d=false then p=([],0,11)else if b<0 then p=([],0,6)else∃E m,DPss T b (Bl t) 0 d E m/\p=(Bj E,m,0))->Lh T t d b p):=λp h=>by rw[Lh,if_neg (ns A)];exact h
 have aa:V (EN (Bl t)):=⟨t,A,rfl⟩;clear g1 g2 g3 g4 ai am;generalize Bl t=Q at a1 q aa;refine wl func34 ?_;refine mt hC ?_;rintro yb ya _ _ ⟨rfl,ab⟩;refine X ?_
 refine Ae (λm s σ'=>∃i:Nat,m=Z d-i/\i<=Z d/\s 0=O t/\s 1=O d/\s 2=Y b/\s 11=Y i/\W f σ'/\V (∀c∈d.take i,Ho c)) (Z d)
  ⟨0,L,L,by simp[upd,AL],by simp[upd,AL],by simp[upd,AL],AG,ab,by simp[V]⟩ ?_
 clear ab hC;rintro m s σ' ⟨i,rfl,hi,S,I,C,b2,k,F⟩;have an:=k.B;by_cases bq:i<Z d
 ·have K:=AK bq;generalize d[i]=c at K;have y:=y c.toNat;have ao:=je c;cases M:Ho c
  ·rw[M]at ao
   have j:V (Lh T t d b ([],0,11)):=q.o _ (by
    rw[if_pos];unfold Dd
    rw[show d.all Ho=false from IQ.2 ⟨c,AY K,by simp[M]⟩];simp)
   clear F q aa a5 a1 D M;generalize B7 [115,97,114,117,108] (c.toNat:Int)=fn at y ao;refine m0 ?_;intro yb ya;refine Xi (y _) ?_;rintro _ _ ⟨rfl,rfl⟩;refine X ?_
   first|exact⟨_,rfl,([],0,11),rfl,j.o,k⟩|exact⟨_,rfl,([],0,11),rfl,j.o⟩
  rw[M]at ao;have B:V (∀c∈d.take (i+1),Ho c=true):=λaf N=>by
   rw[AT,K]at N;rcases AW.1 N with N|N
   ·exact F.o af N
   have:af=c:=nn N;rw[this];exact M
  clear F M;generalize B7 [115,97,114,117,108] (c.toNat:Int)=fn at y ao;refine m0 ?_;intro yb ya;refine Xi (y _) ?_;rintro _ _ ⟨rfl,rfl⟩;refine X ?_;refine⟨Z d-(i+1),L,i+1,?_⟩;exact m9 B
 obtain rfl:i=Z d:=L;rw[AS]at F;have U:Dd d:=by
  unfold Dd;rw[LJ L,CX.2 F.o];rfl
 have D:=λS=>D S U;by_cases a2:b<0
 ·have bz:decide (b<0):=nn a2
  have j:V (Lh T t d b ([],0,6)):=q.o _ (by rw[if_neg (ns U),if_pos a2]);clear F q aa a5 a1 D U a2;refine X ?_
  exact⟨_,rfl,([],0,6),rfl,j.o⟩
 have bz:decide (b<0)=false:=nn a2;have j:V (∀E m,DPss T b Q 0 d E m->Lh T t d b (Bj E,m,0)):=λE m h=>q.o _ (by rw[if_neg (ns U),if_neg a2];exact⟨E,m,h,rfl⟩);have b3:V (0<b->∀c∈d,FO (T c) c):=D;clear F q D U;refine mt a1 ?_;rintro yb ya _ _ ⟨b9,cs,rfl,hE,bb⟩;have a9:=k.trans bb;refine X ?_
 refine Ae (λm s σ'=>∃(i:Nat) (n:Int) (g:n0) (ac:Nat) (P:oh),m=Z d-i/\i<=Z d/\0<=n/\n<=b/\s 1=O d/\s 2=Y b/\s 12=sl ac (Z g) P/\s 13=Y n/\s 14=Y i/\W f σ'/\V (DPss T b Q 0 (d.take i) g n/\EN g/\r AJ g P)) (Z d)
  ⟨0,0,Q,b9,cs,L,L,L,L,by simp[upd,I],by simp[upd,C],AG,AG,AG,a9,DPss.nil,aa.o,hE⟩ ?_
 clear S I C b2 k a9 bb a1 aa an;rintro m s σ' ⟨i,n,g,ac,P,rfl,hi,bp,bo,I,C,a4,a3,a0,k,v⟩;have an:=k.B;by_cases aj:i<Z d
 ·obtain⟨c,K⟩:=gq aj;have aw:=λS=>b3.o S c (AY K);have bg:V (∀a m2,PE (T c) b g n a m2->DPss T b Q 0 (d.take (i+1)) a m2):=λa m2 h=>by
   rw[AT,K,BN];exact DPss.snoc v.o.1 h
  have bf:V (EN g):=v.o.2.1;have bi:V (r AJ g P):=v.o.2.2;have bm:V (0<b->FO (T c) c):=aw;clear v aw;refine X ?_
  refine Ae (λad s σ'=>∃(more:Bool) (e:Int) (a:n0) (l:Nat) (z:oh),ad=(b-e).toNat+(if more=true then 1 else 0)/\0<=e/\e<=b/\s 1=O d/\s 2=Y b/\s 12=sl l (Z a) z/\s 13=Y e/\s 14=Y i/\s 15=my more/\W f σ'/\V (FF (T c) b g n a e/\(more=false->T c a none)/\EN a/\r AJ a z)) ((b-n).toNat+1)
   ⟨true,n,g,ac,P,nk,bp,bo,by simp[upd,I],by simp[upd,C],by simp[upd,a4],by simp[upd,a3],by simp[upd,a0],AG,k,.refl,(by intro h;cases h),bf.o,bi.o⟩ ?_
  clear I C a4 a3 a0 k an bf bi;rintro ad s σ' ⟨more,e,a,l,z,hq,bl,br,I,C,a4,a3,a0,b8,k,u⟩;have an:=k.B;by_cases ak:more/\e<b
  ·obtain⟨rfl,a6⟩:=ak;have bv:decide (e<b):=nn a6
   have b4:ad=(b-e).toNat+1:=nn hq;have be:=λf=>bm.o L a z l u.o.2.2.1 u.o.2.2.2 f;refine nh ?_;intro yb ya;refine AF.mono (be _) ?_;rintro _ bx ⟨bk,mm,bj,cm,rfl,au,ax,bd,ba⟩;have a8:=k.trans ba;have bt:=a8.B;clear ba be;cases bk with
   |none=>
    have B:V (FF (T c) b g n a e/\(false=false->T c a none)/\EN a/\r AJ a z):=⟨u.o.1,λ_=>au,u.o.2.2⟩;clear u au ax bd;refine X ?_;refine⟨(b-e).toNat,L,false,e,a,l,z,?_⟩
    ((repeat' refine Zi ?_ ?_)<;>first|exact Xq|exact B|exact nk|exact Xs)
   |some l3=>
    obtain⟨rfl,o⟩:=ax l3 rfl;have ay:=λf=>Py mm cm bj bd o.2.1 (λx G=>(o.2.2 x G).1) (λx G=>(o.2.2 x G).2) f;have bc:=a5.o mm o;have bn:V (FF (T c) b g n (Bl (Bj mm)) (e+1)):=.snoc u.o.1 a6 au o;have bh:V (EN (Bl (Bj mm))):=⟨_,o.1,rfl⟩;clear u au ax o;generalize Bl (Bj mm)=R at bc bn bh;refine Z3 ?_;refine m0 ?_;intro yb ya;(refine Xi (ay _) ?_;rintro _ _ ⟨rfl,az⟩);refine mz ?_;(refine Xi (bc _) ?_;rintro _ _ ⟨ah,c4,rfl,b1,b0⟩);refine X ?_;have B:V (FF (T c) b g n R (e+1)/\(true=false->T c R none)/\EN R/\r AJ R c4):=⟨bn.o,(by intro h;cases h),bh.o,b1⟩;refine⟨(b-(e+1)).toNat+1,L,true,e+1,R,ah,c4,?_⟩
    ((repeat' refine Zi ?_ ?_)<;>first|exact Xq|exact B|exact ((a8.trans az).trans b0)|exact nk|exact Xs)
  have B:V (DPss T b Q 0 (d.take (i+1)) a e/\EN a/\r AJ a z):=⟨bg.o a e ⟨u.o.1,by
   cases more with
   |false=>exact .inr (u.o.2.1 rfl)
   |true=>exact .inl (by
    have:¬e<b:=λh=>ak ⟨rfl,h⟩
    omega)⟩,u.o.2.2⟩
  clear u bg bm;cases more
  ·clear ak;refine X ?_;refine⟨Z d-(i+1),L,i+1,e,a,l,z,?_⟩;exact m9 B
  have bv:decide (e<b)=false:=by
   have:¬e<b:=λh=>ak ⟨rfl,h⟩;simpa using this
  clear ak;refine X ?_;refine⟨Z d-(i+1),L,i+1,e,a,l,z,?_⟩;exact m9 B
 have av:i=Z d:=L;rw[av,AS]at v;have a7:=j.o g n v.o.1;have ap:=v.o.2.1.p;have ay:=λf=>Py g P ac v.o.2.2 ap.len (λx G=>(ap.fs x G).1) (λx G=>(ap.fs x G).2) f;have HX:V _:=a7;clear v j ap a7;refine mt ay ?_;rintro yb ya _ _ ⟨rfl,az⟩;refine X ?_
 exact⟨_,rfl,(Bj g,n,0),rfl,HX.o,k.trans az⟩
def JO (np:Nat)(Lqx:List (Nat×Ck)):MM:=(range np).map λj=>(0,(Lqx.filter λy=>y.1==j).map (·.2))
def rJ {np Lqx}(h:∀y∈Lqx,y.1<np)(j t):MD (JO np Lqx) j t↔(j,t)∈Lqx:=by rw[MD,Ba,JO];rw[DK,DC];by_cases d:j<np;rw[AK (nn d)];simp only[getElem_range,GJ,MG,AN,BP,DO];constructor;rintro⟨⟨a,b⟩,⟨c,rfl⟩,rfl⟩;exact c;exact λc=>⟨(j,t),⟨c,rfl⟩,rfl⟩;rw[FD (nn d)];constructor;intro c;simp at c;intro c;cases d (h _ c)
def RJ {np Lqx}(h:Lqx.Nodup):∀x∈JO np Lqx,x.2.Nodup:=λx i=>by obtain⟨j,-,rfl⟩:=AN.1 i;show ((Lqx.filter λy=>y.1==j).map (·.2)).Nodup;rw[Nodup];rw[pairwise_map];refine Pairwise.imp_of_mem (λ{a b} g f k e=>k ?_) (h.filter _);grind
def uU (f g:Nat->Int):∀Lqx:List Nat,(Lqx.map λj=>f j+g j).sum=(Lqx.map f).sum+(Lqx.map g).sum
 |[]=>nk
 |a::Lqx=>by simp[CC,uU];omega
def uT (i):∀np,((range np).map λj=>if i=j then (1:Int)else 0).sum=if i<np then 1 else 0
 |0=>nk
 |n+1=>by rw[range_succ,EU,sum_append,uT i n];grind
def gG {np}:∀{Lqx:List (Nat×Ck)},(∀y∈Lqx,y.1<np)->tot (JO np Lqx)=Z Lqx
 |[],_=>by
  rw[tot,H1,JO];rw[BH];have:((λx:Nat×List Ck=>(Z x.2:Int))∘λj=>(0,(([]:List (Nat×Ck)).filter λy=>y.1==j).map (·.2)))=λ_=>(0:Int):=gp
  rw[this];have:∀Lqx:List Nat,(Lqx.map λ_=>(0:Int)).sum=0:=λLqx=>by induction Lqx with|nil=>rfl|cons a Lqx b=>simp[b]
  rw[this];rfl
 |y::Lqx,h=>by
  have b:=gG (np:=np) (Lqx:=Lqx) λz d=>h z (ns d);rw[tot,H1,JO]at b⊢;rw[BH]at b⊢;have e:((λx:Nat×List Ck=>(Z x.2:Int))∘λj=>(0,((y::Lqx).filter λz=>z.1==j).map (·.2)))=λj=>(if y.1=j then (1:Int)else 0)+((λx:Nat×List Ck=>(Z x.2:Int))∘λj=>(0,(Lqx.filter λz=>z.1==j).map (·.2))) j:=gp
  rw[e,uU,b,uT,if_pos (h y nk)];simp;omega
def YU (R F k h):∃b,aD R F k h b:=by
 classical
 have q:∀z:List (Nat×Ck),∃d,∀y∈z,y.1<d:=λz=>by
  induction z with
  |nil=>exact⟨0,λy c=>gp⟩
  |cons a z l=>
   let⟨d,e⟩:=l;refine⟨d+a.1+1,λy c=>?_⟩;obtain rfl|c:=BD.1 c;omega;have:=e y c;omega
 by_cases m:∃z:List (Nat×Ck),z.Nodup/\(∀y∈z,BS R F y.1 y.2)/\200<Z z;let⟨z,i,f,o⟩:=m;let⟨d,e⟩:=q z;refine⟨false,JO d z,RJ i,λj t g=>f (j,t) ((rJ e j t).1 g),?_⟩;rw[gG e,if_neg L];have s:∃n,(∃z:List (Nat×Ck),z.Nodup/\(∀y∈z,BS R F y.1 y.2)/\Z z=n)/\¬ ∃z:List (Nat×Ck),z.Nodup/\(∀y∈z,BS R F y.1 y.2)/\Z z=n+1:=by
  refine Classical.byContradiction λA=>m ?_;have p:∀n,∃z:List (Nat×Ck),z.Nodup/\(∀y∈z,BS R F y.1 y.2)/\Z z=n:=λn=>by
   induction n with
   |zero=>exact⟨[],GN,(λy c=>gp),rfl⟩
   |succ n l=>exact Classical.byContradiction λh=>A ⟨n,l,h⟩
  let⟨z,i,f,o⟩:=p 201;grind
 let⟨n,⟨z,i,f,o⟩,v⟩:=s;let⟨d,e⟩:=q z;have x:Z z<=200:=Nat.le_of_not_lt λg=>m ⟨z,i,f,g⟩;refine⟨decide (MD (JO d z) k h),JO d z,RJ i,λj t g=>f (j,t) ((rJ e j t).1 g),?_⟩;rw[gG e,if_pos L];refine⟨λj t g=>(rJ e j t).2 ?_,nk⟩;refine Classical.byContradiction λu=>v ⟨(j,t)::z,nodup_cons.2 ⟨u,i⟩,λy c=>?_,ns o⟩;obtain rfl|c:=BD.1 c;exact g;exact f y c
def SQ {N}:∀{l:oq},(∀a∈l,a.B∈N)->∃b,r (PL N) l b
 |[],_=>⟨[],rfl⟩
 |a::l,h=>by let⟨b,e⟩:=SQ (l:=l) λc d=>h c (ns d);exact⟨_,_,b,⟨h a nk,0,rfl⟩,e,rfl⟩
def SR {N}:∀{l:n0},(∀x∈l,x.h.B∈N/\∀a∈x.A,a.B∈N)->∃c,r (PI N) l c
 |[],_=>⟨[],rfl⟩
 |x::l,h=>by let⟨c,d⟩:=SR (l:=l) λy f=>h y (ns f);let⟨b,e⟩:=SQ (h x nk).2;exact⟨_,_,c,⟨(h x nk).1,0,0,b,e,rfl⟩,d,rfl⟩
def EN.rt {l}(h:EN l):(∃N ar,BB N ar l)/\(∀x∈l,iS x)/\(Co l).1=0:=by
 let⟨t,g,o⟩:=h;let⟨j,e,D,k⟩:=H9 g;obtain rfl:D=[]:=(Ka _ _ _ _ k).2.1;let⟨G,n,z,A⟩:=Ep L k;rw[n]at o;subst o;have i:=dY _ _ _ _ k;have p:=(show EN e from⟨t,g,n⟩).p;let⟨ar,q⟩:=SV g;rw[n]at q;let N:ol:=e.flatMap λx=>x.h.B::x.A.map (·.B);have v:∀x∈e,x.h.B∈N/\∀a∈x.A,a.B∈N:=λx d=>⟨EX.2 ⟨x,d,nk⟩,λa b=>EX.2 ⟨x,d,gp⟩⟩;let⟨c,B⟩:=SR v;have F:Z N<=2000:=by
  have m:∀l:n0,(∀x∈l,Z x.A<=5)->Z (l.flatMap λx=>x.h.B::x.A.map (·.B))<=Z l*6:=λl=>by
   induction l with
   |nil=>intro _;simp
   |cons x l s=>
    intro h;have g:=h x nk;have o:=s λy E=>h y (ns E);rw[DN,AX,BQ,BV,BQ];omega
  have:=m e p.b5;grind
 have C:∀x∈e,∀a∈Af x,0<Z a.A:=λx d a b=>by
  unfold Af at b;cases f:x.o
  ·rw[f]at b;have b:a=x.h\/a∈x.A:=nn b;rcases b with rfl|b;exact length_pos_iff.2 ((i x d).rule f).1.ne;exact length_pos_iff.2 (((i x d).rule f).2.2.2 a b).ne
  rw[f,((i x d).o f).2.2]at b;simp at b
 have u:CW t N e c:=⟨g,j,k,⟨B,z,λx d=>(p.fs x d).1,λx d f=>((i x d).o f).2.2,F,C⟩,A⟩;exact⟨⟨N,ar,u.rt q⟩,i,(zW g k).2⟩
def Zy {N ar l m}(t:aW N l)(c:BB N ar m)(q:∀x∈m,iS x):Bb l m=C5 N l m:=by
 have s:(!l.any (Ki m))=!Rt N m l:=by
  congr 1;apply GI.2;rw[<-Decidable.not_iff_not,JE,JE,Rr t c.nm,EV];have n:∀p,F7 m p↔Rk m p:=λp=>by grind[F7,Rk,P3]
  have o:∀p,m.any (Ly p)↔K9 m p:=λp=>by grind[K9,Ly]
  constructor;rintro h p a ⟨x,d,i,rfl⟩;have:=h x d;rw[Ki]at this;rw[i,(o _).2 a]at this;apply (n _).1;simpa using this;intro h x d g;rw[Ki]at g;simp only[BM,FJ]at g;have:=(n _).2 (h _ ((o _).1 g.2.1) ⟨x,d,g.1,rfl⟩);rw[g.2.2]at this;cases this
 have k:∀x∈m,x.o->x.A=[]:=λx d=>(c.gl.msr x d).o;have u:∀x∈m.map ren,x.o->x.A=[]:=λx d i=>by grind[ren]
 have f:(Jk m/\(Co m).1=0)↔(Z m<=16/\(∀x∈m,Z x.A<=5)/\(Av (Bj m)).1=0):=by constructor;rintro⟨a,e⟩;have:=ju c e a q;rw[Jk]at a;simp only[BM,CV,CX]at a;exact⟨a.1,a.2.1,gp⟩;rintro⟨a,e,b⟩;rw[Av]at b;split at b;cases b;rename_i j;split at b;cases b;rw[Ns c.wit c.wi]at b;refine⟨?_,Qw (LS.of_ren c).symm u k b⟩;rw[Jk];simp only[BM,CV,CX];rw[Oc c.wit,<-fM (LS.of_ren c)]at j;exact⟨a,e,L⟩
 apply GI.2;rw[Bb,C5];grind
section
variable {N:ol} {ar:Tx->Nat} {l:n0} (hR:BB N ar l) (hg:∀x∈l,iS x)
include hR hg
theorem kj {o}(h:NO l o):KT N l o:=by
 classical
 let M:Nat->Nat->Bool:=λp q=>decide (Yj N l p q);have c:Dw N l M:=λp q=>decide_eq_true_iff;have g:∀x∈l,x.o=true->x.A=[]:=λx a=>(hR.gl.msr x a).o
 have f:Hq N (F9 (Z N) M (Z N)) l=l.filter (F6 l):=filter_congr λx a=>GI.2 (by
  rw[Vq hR.nm c (hR.nm x a).1];unfold F6 NR Mt;cases b:x.o with
  |true=>exact⟨λ_=>nk,λ_=>⟨x,a,b,.inl rfl⟩⟩
  |false=>
   simp only[MA,CU,BM,LF,DO,Ks g ⟨x,a,b,rfl⟩])
 have d:Bb l (l.filter (F6 l))=C5 N l (l.filter (F6 l)):=Zy hR.nm (hR.sub (λx a=>(BP.1 a).1) (BI (IS _ _) hR.gl.len)) λx a=>hg x (BP.1 a).1;have i:=IS (F6 l) l;refine⟨M,c,?_⟩;rw[f,<-d];rw[NO]at h;generalize l.filter (F6 l)=K at*
 by_cases e:Z K=Z l;rw[KF L,Bool.false_and]at h;obtain⟨h,-⟩|⟨-,h⟩:=h;cases h;exact .inl ⟨e,h⟩;rw[LJ L,FV]at h;exact .inr ⟨e,h.symm⟩
theorem vG {i k x}(j:l[i]?=some x)(o:k<Z x.A):eC N l i k↔wC l i x k:=by
 have d:=AY j;have c:x.o=false:=by
  cases c:x.o
  ·rfl
  rw[(hR.gl.msr x d).o c]at o;cases o
 have g:=hR.xr d c;have n:=hR.ut d;have s:=J8 (x:=C8 x k) λa b w f=>by
  have b:a=x.h\/a∈x.A.eraseIdx k:=by grind[Af,C8]
  obtain rfl|b:=b;exact Me (n _ (Ap (.inl ⟨c,rfl⟩)) w f);exact Me (n _ (Ap (.inr (EE b))) w f)
 have v:Db (C8 (ren x) k)=Db (C8 x k):=by
  rw[<-J8 (x:=C8 (ren x) k) λa b w f=>by
   have b:a=(ren x).h\/a∈(ren x).A.eraseIdx k:=by grind[Af,C8]
   obtain rfl|b:=b;exact Me (g.inO.ut _ (Ap (.inl ⟨c,rfl⟩)) w f)
   exact Me (g.inO.ut _ (Ap (.inr (EE b))) w f),g.safe k]
 have q:(IX N x k).isSome↔PP x k:=by rw[fQ hR d c,v,dF g k (hR.nm x d).2 (hR.gl.ar x d)];rfl
 have m:PP x k->Bb l (rpl i [C8 x k] l)=C5 N l (rpl i [C8 x k] l):=λh=>Zy hR.nm (hR.wo j c (s▸h.1)) λy A=>by obtain h|h:=Cy A;exact hg y h;simp at h;subst h;let⟨t,p,u,z⟩:=(hg x d).rule c;exact⟨(hg x d).nm,(λe=>by cases e),λ_=>⟨t,p,BI (JF _ _) u,λa b=>z a (EE b)⟩⟩
 rw[eC,wC];grind
theorem kg {o}(h:LU l o):KQ N l o:=by
 have g:∀{i k:Nat} {x:AB},l[i]?=some x->k<Z x.A->¬wC l i x k->eC N l i k=false:=λ{i k x} b a h=>by
  rw[<-JE,vG hR hg b a];exact h
 obtain⟨rfl,h⟩|⟨i,x,k,rfl,b,a,n,p,q⟩:=h;exact .inl ⟨rfl,λi y _ c k a=>g c a (h i y c k a)⟩;have e:x.o=false:=by
  cases e:x.o
  ·rfl
  rw[(hR.gl.msr x (AY b)).o e]at a;cases a
 exact .inr ⟨i,k,x,rfl,b,e,a,(vG hR hg b a).2 n,λj y m c f d=>g c d (p j y m c f d),λf d=>g b L (q f d)⟩
theorem RB {i x b}(g:l[i]?=some x)(f:x.o=false)(h:Qu l i x b):gO N l i x b:=by let⟨c,a⟩:=YU ((oth l i (Z l)).map (Ed N)) (Fy N x) (Ed N x).h.p.toNat (C4 (Fx (Ed N x).h));obtain rfl:=zN (ar:=ar) ⟨λz d=>hR.ru z (E8 d).1 (E8 d).2,hR.ru x (AY g) f⟩ h a;exact a
theorem k9 {o}(h:LM l o):KS N l o:=by
 have e:∀i,Bb l (rpl i [] l)=C5 N l (rpl i [] l):=λi=>Zy hR.nm (hR.less i) λy b=>by
  obtain h|h:=Cy b;exact hg y h;cases h
 have f:∀{i:Nat} {x:AB},l[i]?=some x->x.o=false->(Qu l i x false\/Bb l (rpl i [] l)=false)->C5 N l (rpl i [] l)->gO N l i x false:=λ{i x} d a h c=>by grind[RB]
 obtain⟨rfl,h⟩|⟨i,x,rfl,d,a,k,n,m⟩:=h;exact .inl ⟨rfl,λi y _ b a c=>f b a (h i y b a) c⟩;exact .inr ⟨i,x,rfl,d,a,gp,RB hR hg d a k,λg y j b a c=>f b a (m g y j b a) c⟩
end
def LL (T:n0->Option n0->Prop):Nat->n0->n0->Prop
 |0,l,b=>b=l
 |k+1,l,b=>∃a,T l (some a)/\wB a/\LL T k (Bl (Bj a)) b
def LL.snoc {T}:∀{k:Nat} {l b a:n0},LL T k l b->T b (some a)->wB a->LL T (k+1) l (Bl (Bj a))
 |0,_,_,_,e,h,g=>by cases e;exact⟨_,h,g,rfl⟩
 |k+1,_,_,_,⟨m,f,c,d⟩,h,g=>⟨m,f,c,d.snoc h g⟩
def FF.dst {T b m a l c}(h:FF T b l m c a):∃k:Nat,a=m+k/\LL T k l c/\(0<k->a<=b):=by
 induction h with
 |refl=>exact⟨0,L,rfl,L⟩
 |snoc _ i g d f=>
  obtain⟨k,e,h,-⟩:=f;exact⟨k+1,L,h.snoc g d,L⟩
def Ta (t:Tx):Tx:=if Ab t=true then t++[39]else t
def Gz (a:AE):AE:=⟨a.nt,a.B,a.A.map Ta⟩
def lW (a m)(B:Bf a m)(S:Z a.A<=1000)(D:∀t∈a.A,Z t<=1001)(b):ni 235 [ag m] b λM σ'=>∃i,M=ag [my a.nt,O a.B,sl i (Z a.A) ((Gz a).A.map O)]/\W b σ':=by
 obtain⟨F,rfl⟩:=B;have N:({data:=#[39]}:ByteArray)=bs [39]:=rfl;refine wl func235 ?_;refine mu ?_
 refine wn [1,2,3] 4 (Z a.A) (λi s σ'=>∃(j:Nat) (d:oh),W b σ'/\b.B+2<σ'.B/\σ'.C b.B=[my a.nt,O a.B,lw F a.A]/\σ'.C (b.B+1)=[my false,O [],H]/\σ'.C (b.B+2)=[my a.nt,O a.B,sl j i d]/\J b σ' j i/\Z d=i/\V (d=((a.A.take i).map Ta).map O)) ⟨1,[],Xs,BJ,?_,?_,?_,J.nil _ _,nk,by simp[V]⟩ ?_
 ·rw[Aj L,Ah AM,Ah AM,Ao]
 ·rw[Aj L,Ah AM,Be AM AM]
 ·rw[Ak]
 rintro i s σ' _ _ _ ⟨j,d,x,a0,Q,a1,T,K,P,f⟩;have U:=x.B;by_cases p:i<Z a.A
 ·have v:=AK p;have G:=A1 p;have y:=D _ (AR p);generalize a.A[i]=u at G v y;have k:V (((a.A.take (i+1)).map Ta).map O=((a.A.take i).map Ta).map O++[O (Ta u)]):=by
   rw[V,AT,v];simp
  clear v;have l:=λb=>Cg u b;have R:Z (u++[39])<=1002:=by simp;omega
  cases e:Ab u with
  |true=>
   have g:Ta u=u++[39]:=if_pos e;rw[g]at k;rw[e]at l;clear g e
   repeat' first|refine Z1 ?_|refine Z8 λyb ya=>?_|refine Z4 ?_;clear ya yb|refine Z2 ?_ ?_<;>intro h I<;>try exact Xp|refine Z6 ?_;intro c q o n z E A C|refine Z5 ?_;refine Xi (l _) ?_;rintro _ _ ⟨rfl,rfl⟩|refine Z7 ?_|exact Zt|apply ya.o;clear ya yb
   refine⟨c,d++[O (u++[39])],?_⟩
   ((repeat' refine Zi ?_ ?_)<;>first|exact Xq|exact (n.put L _)|exact (J.put o _ _)|exact (by rw[V,k.o,f.o])|exact Xs)
  |false=>
   have g:Ta u=u:=if_neg (by simp[e]);rw[g]at k;rw[e]at l;clear g e
   repeat' first|refine Z1 ?_|refine Z8 λyb ya=>?_|refine Z4 ?_;clear ya yb|refine Z2 ?_ ?_<;>intro h I<;>try exact Xp|refine Z6 ?_;intro c q o n z E A C|refine Z5 ?_;refine Xi (l _) ?_;rintro _ _ ⟨rfl,rfl⟩|refine Z7 ?_|exact Zt|apply ya.o;clear ya yb
   refine⟨c,d++[O u],?_⟩
   ((repeat' refine Zi ?_ ?_)<;>first|exact Xq|exact (n.put L _)|exact (J.put o _ _)|exact (by rw[V,k.o,f.o])|exact Xs)
 obtain rfl:i=Z a.A:=L;have f:=f.o;rw[AS]at f;subst f;refine mu ?_;exact⟨_,rfl,j,rfl,x.put L _⟩
end Go.Proofs.YtmoeoppbmhfbpabGreatDoorJ
