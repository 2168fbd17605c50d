import Derived.Test.YtmoeoppbmhfbpabGreatDoorJFceK
import Derived.Test.YtmoeoppbmhfbpabGreatDoorJRspC
import Derived.Test.YtmoeoppbmhfbpabGreatDoorJDocJ
import Derived.Test.YtmoeoppbmhfbpabGreatDoorJOpuB
import Derived.Test.YtmoeoppbmhfbpabGreatDoorJAgrB
import Derived.Test.YtmoeoppbmhfbpabGreatDoorJEngV
import Derived.Test.YtmoeoppbmhfbpabGreatDoorJShelf
set_option maxHeartbeats 64000000
set_option maxRecDepth 100000
set_option linter.all false
open List renaming length->Z
namespace Go.Proofs.YtmoeoppbmhfbpabGreatDoorJ
open Go.Abs
def Ki (m:n0)(x:AB):Bool:=!x.o&&(m.any (Ly x.h.B)&&!F7 m x.h.B)
def Bb (l m:n0):Bool:=decide (Z m<=16)&&(m.all (λx=>decide (Z x.A<=5))&&(((Av (Bj m)).1==0)&&!l.any (Ki m)))
def Gd (l m cs cm idl idm)(R:EL AJ l cs)(C:EL AJ m cm)(hl:Z l<=1000)(az:Z m<=1000)(D:∀x∈m,x.fits/\x.short)(e):
  ni 164 [sl idl (Z l) cs,sl idm (Z m) cm] e λr σ'=>r=my (Bb l m)/\AD e σ':=by
 have a4:=EL.length Cf R;have a3:=EL.length Cf C;by_cases S:16<Z m
 ·have Y:decide ((Z m:Int)>16)=true:=by rw[CV];omega
  have a:AC (Bb l m=false):=by rw[AC,Bb,KF AA];rfl
  clear S;refine Z9 63 [.tmp 4] Tryz.func164 ?_;refine mr ?_
  first|exact⟨_,rfl,by rw[a.o],AD.refl _⟩|exact⟨_,rfl,by rw[a.o]⟩
 have Y:decide ((Z m:Int)>16)=false:=by simp;omega
 have E:=λe=>Py m cm idm C AA (λx n=>(D x n).1) (λx n=>(D x n).2) e;have G:=λe=>T6 (Bj m) e;have j:=λp e=>lK m cm idm p C AA (λx n=>(D x n).1) e;have k:=λp e=>W4 m cm idm p C AA e;have H:AC (Bb l m=(m.all (λx=>decide (Z x.A<=5))&&(((Av (Bj m)).1==0)&&!l.any (Ki m)))):=by rw[AC,Bb,LJ AA,FV]
 have a0:∀x∈m,Z x.A<=1000:=λx n=>(D x n).1.1;clear D S;refine Z9 63 [.tmp 4] Tryz.func164 ?_;refine mr ?_
 refine Ae (λq s σ'=>∃i:Nat,q=Z m-i/\i<=Z m/\s 0=sl idl (Z l) cs/\s 1=sl idm (Z m) cm/\s 5=ic i/\AD e σ'/\AC (∀x∈m.take i,Z x.A<=5)) (Z m)
  ⟨0,AA,AA,by simp[upd,AL],by simp[upd,AL],AG,AD.refl _,by simp[AC]⟩ ?_
 rintro q s σ' ⟨i,rfl,hi,L,K,U,g,f⟩;have T:=g.B;by_cases aw:i<Z m
 ·have c:AC (m[i]?=some m[i]):=AK aw;obtain⟨V,id,b,r,M,N⟩:=Cv C c.o;generalize m[i]=x at c M N;by_cases P:5<Z x.A
  ·have ax:decide ((Z x.A:Int)>5)=true:=by rw[CV];omega
   have a:AC (Bb l m=false):=by
    rw[AC,H.o];have:m.all (λx=>decide (Z x.A<=5))=false:=IQ.2 ⟨x,AY c.o,by simp;omega⟩;rw[this];rfl
   clear c f P H;refine mr ?_
   first|exact⟨_,rfl,by rw[a.o],g⟩|exact⟨_,rfl,by rw[a.o]⟩
  have ax:decide ((Z x.A:Int)>5)=false:=by simp;omega
  have o:AC (∀y∈m.take (i+1),Z y.A<=5):=λy v=>by
   rw[AT,c.o]at v;rcases AW.1 v with v|v
   ·exact f.o y v
   have:y=x:=nn v;rw[this];omega
  clear c f P;refine mr ?_;refine⟨Z m-(i+1),AA,i+1,?_⟩;exact m9 o
 have J:i=Z m:=AA;subst J;rw[AS]at f;have F:AC (Bb l m=(((Av (Bj m)).1==0)&&!l.any (Ki m))):=by
  rw[AC,H.o,CX.2 λx n=>nn (f.o x n),FV]
 clear f H;cases u:((Av (Bj m)).1==0)with
 |false=>
  have X:((Av (Bj m)).1 !=0)=true:=nn u;have a:AC (Bb l m=false):=by rw[AC,F.o,u];rfl
  clear u F;refine m0 ?_;intro yb ya;(first|(refine Xi (E _) ?_;rintro _ _ ⟨rfl,d⟩)|(refine Xi (G _) ?_;rintro _ _ ⟨rfl,B⟩));refine mz ?_;(first|(refine Xi (E _) ?_;rintro _ _ ⟨rfl,d⟩)|(refine Xi (G _) ?_;rintro _ _ ⟨rfl,B⟩));refine mr ?_
  first|exact⟨_,rfl,by rw[a.o],(g.trans d).trans B⟩|exact⟨_,rfl,by rw[a.o]⟩
 |true=>
  have X:((Av (Bj m)).1 !=0)=false:=nn u;have O:AC (Bb l m=!l.any (Ki m)):=by rw[AC,F.o,u,FV]
  clear u F
  repeat' first|refine Z1 ?_|refine Z8 λyb ya=>?_|refine Z4 ?_;clear ya yb|refine Z2 ?_ ?_<;>intro h aa<;>try exact Xp|(refine Z5 ?_;first|(refine Xi (E _) ?_;rintro _ _ ⟨rfl,d⟩)|(refine Xi (G _) ?_;rintro _ _ ⟨rfl,B⟩;(have Q:=(g.trans d).trans B)))|refine Z3 ?_|exact Zt|apply ya.o;clear ya yb
  refine Ae (λq s σ'=>∃i:Nat,q=Z l-i/\i<=Z l/\s 0=sl idl (Z l) cs/\s 1=sl idm (Z m) cm/\s 8=ic i/\AD e σ'/\AC ((l.take i).any (Ki m)=false)) (Z l)
   ⟨0,AA,AA,by simp[upd,L],by simp[upd,K],AG,Q,by simp[AC]⟩ ?_
  clear L K U g Q d B T E G;rintro q s σ' ⟨i,rfl,hi,L,K,h8,g,f⟩;have T:=g.B;by_cases W:i<Z l
  ·have c:AC (l[i]?=some l[i]):=AK W;obtain⟨V,id,b,r,M,N⟩:=Cv R c.o;generalize l[i]=x at c M N;have o:AC (Ki m x=false->(l.take (i+1)).any (Ki m)=false):=λh=>by rw[any_take_succ _ c.o,f.o,h];rfl
   have A:AC (Ki m x=true->Bb l m=false):=λh=>by rw[O.o,D4 _ c.o h];rfl
   have j:=j x.h.B;have k:=k x.h.B;clear f;cases I:x.o with
   |true=>
    have a:AC ((l.take (i+1)).any (Ki m)=false):=o.o (by unfold Ki;rw[I];rfl);clear A o c j k;refine mr ?_;refine⟨Z l-(i+1),AA,i+1,?_⟩;exact m9 a
   |false=>
    cases t:m.any (Ly x.h.B)with
    |false=>
     have a:AC ((l.take (i+1)).any (Ki m)=false):=o.o (by unfold Ki;rw[I,t];rfl);rw[t]at j;clear A o c k t;refine m0 ?_;intro yb ya;refine Xi (j _) ?_;rintro _ _ ⟨rfl,d⟩;refine mr ?_;refine⟨Z l-(i+1),AA,i+1,?_⟩;exact nf a (g.trans d)
    |true=>
     rw[t]at j;cases z:F7 m x.h.B with
     |true=>
      have a:AC ((l.take (i+1)).any (Ki m)=false):=o.o (by unfold Ki;rw[I,t,z];rfl);rw[z]at k;clear A o c t z;refine m0 ?_;intro yb ya;(first|(refine Xi (j _) ?_;rintro _ _ ⟨rfl,d⟩)|(refine Xi (k _) ?_;rintro _ _ ⟨rfl,rfl⟩));refine mz ?_;(first|(refine Xi (j _) ?_;rintro _ _ ⟨rfl,d⟩)|(refine Xi (k _) ?_;rintro _ _ ⟨rfl,rfl⟩));refine mr ?_;refine⟨Z l-(i+1),AA,i+1,?_⟩;exact nf a (g.trans d)
     |false=>
      have a:AC (Bb l m=false):=A.o (by unfold Ki;rw[I,t,z];rfl);rw[z]at k;clear A o c t z;refine m0 ?_;intro yb ya;(first|(refine Xi (j _) ?_;rintro _ _ ⟨rfl,d⟩)|(refine Xi (k _) ?_;rintro _ _ ⟨rfl,rfl⟩));refine mz ?_;(first|(refine Xi (j _) ?_;rintro _ _ ⟨rfl,d⟩)|(refine Xi (k _) ?_;rintro _ _ ⟨rfl,rfl⟩));refine mr ?_
      first|exact⟨_,rfl,by rw[a.o],g.trans d⟩|exact⟨_,rfl,by rw[a.o]⟩
  have J:i=Z l:=AA;subst J;rw[AS]at f;have a:AC (Bb l m=true):=by rw[AC,O.o,f.o];rfl
  clear f O;refine mr ?_
  first|exact⟨_,rfl,by rw[a.o],g⟩|exact⟨_,rfl,by rw[a.o]⟩
def F6 (l:n0)(x:AB):Bool:=x.o||l.any (Mt l x.h.B)
def fT (l cs idl)(H:EL AJ l cs)(hl:Z l<=16)(P:∀x∈l,x.fits/\x.short)(d):
  ni 107 [sl idl (Z l) cs] d λr σ'=>∃id O,r=tp [sl id (Z (l.filter (F6 l))) O,my (decide (Z (l.filter (F6 l))<Z l)&&Bb l (l.filter (F6 l)))]/\EL AJ (l.filter (F6 l)) O/\AD d σ':=by
 have a5:=EL.length Cf H;have c:=λp d=>fS l cs idl p H hl (λx z=>(P x z).1) d;refine Z9 45 [.tmp 2,.tmp 3] Tryz.func107 ?_;refine mr ?_
 refine Ae (λq s σ'=>∃(i b:Nat) (L:n0) (a:oh),q=Z l-i/\i<=Z l/\s 0=sl idl (Z l) cs/\s 4=sl b (Z L) a/\s 5=ic i/\AD d σ'/\Own d σ' b (Z L)/\Z a=Z L*5/\Z L<=i/\AC (L=(l.take i).filter (F6 l)/\EL AJ L a)) (Z l)
  ⟨0,1,[],[],AA,AA,by simp[upd,AL],AG,AG,AD.refl _,Own.nil _ _,rfl,nk,nk,rfl⟩ ?_
 rintro q s σ' ⟨i,b,L,a,rfl,hi,h0,h4,h5,g,A,a4,a6,j⟩;have a3:=g.B;by_cases ax:i<Z l
 ·have E:=AK ax;obtain⟨t,F,G,r2,Q,R⟩:=Cv H E;generalize l[i]=y at E Q R;have M:AC ((l.take (i+1)).filter (F6 l)=(l.take i).filter (F6 l)++if F6 l y=true then [y]else []):=by
   rw[AC,AT,E,BN,IR];congr 1;cases S:F6 l y<;>simp[S]
  have v:AC (F6 l y=true->L++[y]=(l.take (i+1)).filter (F6 l)/\EL AJ (L++[y]) (a++[my y.o,my y.h.nt,str y.h.B,sl t (Z y.h.A) (y.h.A.map str),sl F (Z y.A) G])):=λh=>⟨by rw[M.o,if_pos h,j.o.1],EL.append j.o.2 (EL.single ⟨[my y.h.nt,str y.h.B,sl t (Z y.h.A) (y.h.A.map str)],F,G,⟨t,rfl⟩,Q,rfl⟩)⟩;have D:AC (F6 l y=false->L=(l.take (i+1)).filter (F6 l)/\EL AJ L a):=λh=>⟨by rw[M.o,if_neg (by simp[h]),EJ];exact j.o.1,j.o.2⟩;have c:=c y.h.B;clear E j M;cases u:y.o with
  |true=>
   have f:AC _:=v.o (by unfold F6;rw[u];rfl);rw[u]at f;clear v D c;refine m5 ?_;intro yb ya;intro k I J an Y U X W;refine mr ?_;refine⟨Z l-(i+1),AA,i+1,k,L++[y],a++[my true,my y.h.nt,str y.h.B,sl t (Z y.h.A) (y.h.A.map str),sl F (Z y.A) G],?_⟩
   ((repeat' refine Zi ?_ ?_)<;>first|exact Xq|exact f|exact (by rw[AX];exact J)|exact Xs)
  |false=>
   cases m:l.any (Mt l y.h.B)with
   |true=>
    have f:AC _:=v.o (by unfold F6;rw[u,m];rfl);rw[u]at f;rw[m]at c;clear v D m;refine m0 ?_;intro yb ya;refine Xi (c _) ?_;rintro _ _ ⟨rfl,e⟩;(have g:=g.trans e;have A:=Own.keep A e);refine m5 ?_;intro yb ya;intro k I J an Y U X W;refine mr ?_;refine⟨Z l-(i+1),AA,i+1,k,L++[y],a++[my false,my y.h.nt,str y.h.B,sl t (Z y.h.A) (y.h.A.map str),sl F (Z y.A) G],?_⟩
    ((repeat' refine Zi ?_ ?_)<;>first|exact Xq|exact f|exact (by rw[AX];exact J)|exact Xs)
   |false=>
    have f:AC _:=D.o (by unfold F6;rw[u,m];rfl);rw[m]at c;clear v D m;refine m0 ?_;intro yb ya;refine Xi (c _) ?_;rintro _ _ ⟨rfl,e⟩;(have g:=g.trans e;have A:=Own.keep A e);refine mr ?_;refine⟨Z l-(i+1),AA,i+1,b,L,a,?_⟩;exact m9 f
 have T:i=Z l:=AA;subst T;obtain⟨C,N⟩:=j.o;rw[AS]at C;rw[<-C];have K:=λd=>Gd l L cs a idl b H N AA AA (λx z=>P x (by rw[C]at z;exact (BP.1 z).1)) d;have B:AC _:=N;clear j C N c;by_cases o:Z L<Z l
 ·have V:decide ((Z L:Int)<(Z l:Int))=true:=nn o
  have n:AC ((decide (Z L<Z l)&&Bb l L)=Bb l L):=by rw[AC,LJ o,FV]
  rw[n.o];generalize Bb l L=ab at K;clear n o;refine m0 ?_;intro yb ya;refine Xi (K _) ?_;rintro _ _ ⟨rfl,e⟩;refine mr ?_
  first|exact⟨_,rfl,b,a,rfl,B.o,g.trans e⟩|exact⟨_,rfl,b,a,rfl,B.o⟩
 have V:decide ((Z L:Int)<(Z l:Int))=false:=by simp;omega
 have n:AC ((decide (Z L<Z l)&&Bb l L)=false):=by rw[AC,KF o,Bool.false_and]
 rw[n.o];clear n o K;refine mr ?_
 first|exact⟨_,rfl,b,a,rfl,B.o,g⟩|exact⟨_,rfl,b,a,rfl,B.o⟩
def PP (x:AB)(k:Nat):Prop:=Db (C8 x k)=true/\Hj x k
def wC (l:n0)(i:Nat)(x:AB)(k:Nat):Prop:=PP x k/\Bb l (rpl i [C8 x k] l)=true
def LU (l:n0)(o:Option n0):Prop:=
 (o=none/\∀i x,l[i]?=some x->∀k,k<Z x.A->¬wC l i x k)\/∃i x k,o=some (rpl i [C8 x k] l)/\l[i]?=some x/\k<Z x.A/\wC l i x k/\(∀c b,c<i->l[c]?=some b->∀a,a<Z b.A->¬wC l c b a)/\∀a,a<k->¬wC l i x a
def SZ {x}(h:x.fits/\x.short)(k):(C8 x k).fits/\(C8 x k).short:=
 ⟨Ms h.1,h.2.1,λa b=>h.2.2 a (EE b)⟩
def aN (l cs idl)(p:EL AJ l cs)(hl:Z l<=16)(hf:∀x∈l,x.fits/\x.short)(h5:∀x∈l,Z x.A<=5)(d):
  ni 108 [sl idl (Z l) cs] d λr σ'=>∃o m id k,r=tp [sl id (Z m) k,my o.isSome]/\LU l o/\(∀v,o=some v->m=v)/\EL AJ m k/\AD d σ':=by
 have bb:=EL.length Cf p;refine Z9 46 [.tmp 2,.tmp 3] Tryz.func108 ?_;refine mr ?_
 refine Ae (λq s σ'=>∃i:Nat,q=Z l-i/\i<=Z l/\s 0=sl idl (Z l) cs/\s 4=ic i/\AD d σ'/\AC (∀c f,c<i->l[c]?=some f->∀a,a<Z f.A->¬wC l c f a)) (Z l)
  ⟨0,AA,AA,by simp[upd,AL],AG,AD.refl _,λc f h=>AA⟩ ?_
 rintro q s σ' ⟨i,rfl,hi,N,Q,g,A⟩;have ax:=g.B;by_cases B:i<Z l
 ·have G:AC (l[i]?=some l[i]):=AK B;obtain⟨jh,jd,jb,r2,I,a7⟩:=Cv p G.o;have F:=hf l[i] (AR B);have ay:=h5 l[i] (AR B);generalize l[i]=x at G I a7 F ay;have ba:=EL.length A7 I
  refine mr ?_
  refine Ae (λq s σ'=>∃j:Nat,q=Z x.A-j/\j<=Z x.A/\s 0=sl idl (Z l) cs/\s 4=ic i/\s 5=ic j/\AD d σ'/\AC (∀a,a<j->¬wC l i x a)) (Z x.A)
   ⟨0,AA,AA,by simp[upd,N],by simp[upd,Q],AG,g,λa h=>AA⟩ ?_
  clear N Q g ax;rintro q s σ' ⟨j,rfl,hj,N,Q,bc,g,z⟩;have ax:=g.B;by_cases ae:j<Z x.A
  ·have a0:=λd=>Kg x _ j (AJ.of (ih:=jh) (id:=jd) I) F.1.1 d;have a3:=λd=>lI x _ j (AJ.of (ih:=jh) (id:=jd) I) F.1 ay ae d;unfold A4 at a0 a3;have a4:=λk (H:AJ (C8 x j) k) T d=>G7 l [C8 x j] cs k idl T i p (EL.single H) AA nk B d
   have U:=λM cm (hm:EL AJ (rpl i [C8 x j] l) cm) d=>Gd l (rpl i [C8 x j] l) cs cm idl M p hm AA (by rw[I4 B];simp;omega) (λy u=>by
    rcases Cy u with u|u
    ·exact hf y u
    have:y=C8 x j:=nn u
    rw[this];exact SZ F j) d
   have K:AC (∀b,(b=true↔Db (C8 x j)=true/\Hj x j)->b=false->¬wC l i x j):=λb h D O=>by rw[h.2 O.1]at D;cases D
   have J:AC (Bb l (rpl i [C8 x j] l)=false->¬wC l i x j):=λh O=>by rw[O.2]at h;cases h
   have E:AC (Db (C8 x j)=true/\Hj x j->Bb l (rpl i [C8 x j] l)=true->LU l (some (rpl i [C8 x j] l))):=λh1 t=>.inr ⟨i,x,j,rfl,G.o,ae,⟨h1,t⟩,A.o,z.o⟩;have n:AC (¬wC l i x j->∀a,a<j+1->¬wC l i x a):=λh a az=>by
    by_cases e:a=j
    ·rw[e];exact h
    exact z.o a AA
   generalize Bb l (rpl i [C8 x j] l)=ab at U J E;generalize rpl i [C8 x j] l=R at a4 U E;clear z
   repeat' first|refine Z1 ?_|refine Z8 λyb ya=>?_|refine Z4 ?_;clear ya yb|refine Z2 ?_ ?_<;>intro h ac<;>try exact Xp|(refine Z5 ?_;first|(refine Xi (a0 _) ?_;rintro _ _ ⟨k,rfl,H,P⟩;(have ah:=a4 k H;obtain⟨wh,wd,wb,a9,rfl⟩:=H.cells;unfold A4 at ah⊢))|(refine Xi (ah _ _) ?_;rintro _ _ ⟨C,cr,rfl,W,S⟩;(have au:=U C cr W;have a8:AC _:=W;clear W))|(refine Xi (a3 _) ?_;rintro _ _ ⟨b,rfl,D,L⟩;(have X:AC _:=D;clear D;cases b))|(refine Xi (au _) ?_;rintro _ _ ⟨rfl,Y⟩;(cases ab)))|refine Z3 ?_|exact Zt|apply ya.o;clear ya yb
   ·have V:AC _:=n.o (K.o false X.o rfl);clear n K J E;refine⟨Z x.A-(j+1),AA,j+1,?_⟩
    ((repeat' refine Zi ?_ ?_)<;>first|exact Xq|exact V|exact (((g.trans P).trans S).trans L)|exact Xs)
   ·have V:AC _:=n.o (J.o rfl);clear n K J E;refine⟨Z x.A-(j+1),AA,j+1,?_⟩
    ((repeat' refine Zi ?_ ?_)<;>first|exact Xq|exact V|exact ((((g.trans P).trans S).trans L).trans Y)|exact Xs)
   exact⟨_,rfl,some R,R,C,cr,rfl,E.o (X.o.1 rfl) rfl,(by intro v h;cases h;rfl),a8.o,((((g.trans P).lay 1).trans S).trans L).trans Y⟩
  have a6:j=Z x.A:=AA;have n:AC (∀c f,c<i+1->l[c]?=some f->∀a,a<Z f.A->¬wC l c f a):=λc f h1 t a az=>by
   by_cases e:c=i
   ·subst e;rw[G.o]at t;cases t;exact z.o a AA
   exact A.o c f AA t a az
  clear z A;refine mr ?_;refine⟨Z l-(i+1),AA,i+1,?_⟩;exact m9 n
 have HR:AC (LU l none):=.inl ⟨rfl,λc f h=>A.o c f (by have:=(BA.1 h).1;omega) h⟩;clear A;refine mr ?_
 first|exact⟨_,rfl,none,l,idl,cs,rfl,HR.o,(by intro v h;cases h),p,g⟩|exact⟨_,rfl,none,l,idl,cs,rfl,HR.o,(by intro v h;cases h),p⟩
def LM (l:n0)(o:Option n0):Prop:=
 (o=none/\∀i x,l[i]?=some x->x.o=false->Qu l i x false\/Bb l (rpl i [] l)=false)\/∃i x,o=some (rpl i [] l)/\l[i]?=some x/\x.o=false/\Qu l i x true/\Bb l (rpl i [] l)=true/\∀a b,a<i->l[a]?=some b->b.o=false->Qu l a b false\/Bb l (rpl a [] l)=false
def aR (l cs idl)(k:EL AJ l cs)(hl:Z l<=16)(hf:∀x∈l,x.fits/\x.short)(S:∀x∈l,FG x)(f):
  ni 109 [sl idl (Z l) cs] f λr σ'=>∃o m id T,r=tp [sl id (Z m) T,my o.isSome]/\LM l o/\(∀z,o=some z->m=z)/\EL AJ m T/\AD f σ':=by
 have a5:=EL.length Cf k;refine Z9 33 [.tmp 2,.tmp 3] Tryz.func109 ?_;refine mr ?_
 refine Ae (λq s σ'=>∃i:Nat,q=Z l-i/\i<=Z l/\s 0=sl idl (Z l) cs/\s 4=ic i/\AD f σ'/\AC (∀c d,c<i->l[c]?=some d->d.o=false->Qu l c d false\/Bb l (rpl c [] l)=false)) (Z l)
  ⟨0,AA,AA,by simp[upd,AL],AG,AD.refl _,λc d h=>AA⟩ ?_
 rintro q s σ' ⟨i,rfl,hi,h0,h4,n,p⟩;have a4:=n.B;by_cases H:i<Z l
 ·have t:AC (l[i]?=some l[i]):=AK H;obtain⟨jh,jd,jb,r2,aw,ax⟩:=Cv k t.o;have G:=S l[i] (AR H);generalize l[i]=x at t aw ax G;have J:=λf=>G7 l [] cs [] idl 1 i k rfl AA nk H f
  have F:=λK Q (hm:EL AJ (rpl i [] l) Q) f=>Gd l (rpl i [] l) cs Q idl K k hm AA (by rw[I4 H];simp;omega) (λy g=>by
   rcases Cy g with g|g
   ·exact hf y g
   cases g) f
  have u:AC ((x.o=false->Qu l i x false\/Bb l (rpl i [] l)=false)->∀c d,c<i+1->l[c]?=some d->d.o=false->Qu l c d false\/Bb l (rpl c [] l)=false):=λh c d V v P=>by
   by_cases e:c=i
   ·subst e;rw[t.o]at v;cases v;exact h P
   exact p.o c d AA v P
  cases A:x.o with
  |true=>
   have B:AC _:=u.o (λh=>by rw[A]at h;cases h);clear u p F;refine m0 ?_;intro yb ya;refine Xi (J _) ?_;rintro _ _ ⟨j,M,rfl,E,C⟩;refine mr ?_;refine⟨Z l-(i+1),AA,i+1,?_⟩;exact nf B (n.trans C)
  |false=>
   have ap:=G.cl A;have hb5:=(G.w.2.2 A).2.2.1;have a0:=λf=>aO l cs idl i x k AA t.o AA ap.2.1 (λa U=>⟨ap.2.2 a U,G.var (by simp[Af,A,U])⟩) (λy g av=>(S y g).rule av) f;have D:AC (Qu l i x true->Bb l (rpl i [] l)=true->LM l (some (rpl i [] l))):=λV v=>.inr ⟨i,x,rfl,t.o,A,V,v,p.o⟩;have I:AC (Bb l (rpl i [] l)=false->∀c d,c<i+1->l[c]?=some d->d.o=false->Qu l c d false\/Bb l (rpl c [] l)=false):=λh=>u.o λ_=>.inr h;have N:AC (Qu l i x false->∀c d,c<i+1->l[c]?=some d->d.o=false->Qu l c d false\/Bb l (rpl c [] l)=false):=λh=>u.o λ_=>.inl h;generalize ay:Bb l (rpl i [] l)=ab at F I D;generalize az:rpl i [] l=R at J F D;clear u p ay az
   repeat' first|refine Z1 ?_|refine Z8 λyb ya=>?_|refine Z4 ?_;clear ya yb|refine Z2 ?_ ?_<;>intro h ac<;>try exact Xp|(refine Z5 ?_;first|(refine Xi (J _) ?_;rintro _ _ ⟨j,M,rfl,E,C⟩;(have ao:=F j M E;have a3:AC _:=E;clear E))|(refine Xi (a0 _) ?_;rintro _ _ ⟨b,rfl,Y,L⟩;(have O:AC _:=Y;clear Y;cases b))|(refine Xi (ao _) ?_;rintro _ _ ⟨rfl,X⟩;(cases ab)))|refine Z3 ?_|exact Zt|apply ya.o;clear ya yb
   ·have B:AC _:=N.o O.o;clear I D N;refine⟨Z l-(i+1),AA,i+1,?_⟩
    exact nf B ((n.trans C).trans L)
   ·have B:AC _:=I.o rfl;clear I D N;refine⟨Z l-(i+1),AA,i+1,?_⟩
    exact nf B (((n.trans C).trans L).trans X)
   exact⟨_,rfl,some R,R,j,M,rfl,D.o O.o rfl,(by intro z h;cases h;rfl),a3.o,((n.trans C).trans L).trans X⟩
 have W:AC (LM l none):=.inl ⟨rfl,λc d h=>p.o c d (by have:=(BA.1 h).1;omega) h⟩;clear p;refine mr ?_
 first|exact⟨_,rfl,none,l,idl,cs,rfl,W.o,(by intro z h;cases h),k,n⟩|exact⟨_,rfl,none,l,idl,cs,rfl,W.o,(by intro z h;cases h),k⟩
def EN (l:n0):Prop:=∃t,(Av t).1=0/\Bl t=l
structure lx (l:n0):Prop where
 len:Z l<=16
 fs:∀x∈l,x.fits/\x.short
 b5:∀x∈l,Z x.A<=5
 fine:∀x∈l,FG x
def EN.p {l}(h:EN l):lx l:=by
 obtain⟨t,m,rfl⟩:=h;obtain⟨i,l,r,p⟩:=H9 m;obtain⟨u,n,s,e⟩:=Ep AA p;have f:=P4 m;rw[n]at f⊢;have o:∀x∈l,Z x.A<=5:=λx b=>by
  cases c:x.o with
  |true=>rw[((e x b).2.1 c).2.2];simp
  |false=>exact ((e x b).2.2 c).2.2.1
 refine⟨s,λx b=>⟨?_,(f x b).sh⟩,o,f⟩;cases c:x.o with
 |true=>
  obtain⟨k,j,g⟩:=(e x b).2.1 c;exact⟨by rw[g];simp,by rw[j];simp,λa d=>by rw[g]at d;cases d⟩
 |false=>
  obtain⟨k,j,g,q⟩:=(e x b).2.2 c;exact⟨AA,by have:=k.2.2.1;omega,λa d=>by have:=(q a d).2.2.1;omega⟩
def wB (l:n0):Prop:=(Av (Bj l)).1=0/\Z l<=16/\∀x∈l,x.fits/\x.short
def FO (T:n0->Option n0->Prop)(c:UInt8):Prop:=∀(l:n0) (g:oh) (a:Nat),EN l->EL AJ l g->∀f:St,ni 63 [sl a (Z l) g,sc (.int .u8 c.toNat)] f λr b=>∃o m id e,r=tp [sl id (Z m) e,my o.isSome]/\T l o/\(∀d,o=some d->m=d/\wB d)/\EL AJ m e/\AD f b
def NO (l:n0)(o:Option n0):Prop:=((decide (Z (l.filter (F6 l))<Z l)&&Bb l (l.filter (F6 l)))=true/\o=some (l.filter (F6 l)))\/((decide (Z (l.filter (F6 l))<Z l)&&Bb l (l.filter (F6 l)))=false/\o=none)
def Gi {l m}(h:Bb l m=true):(Av (Bj m)).1=0/\Z m<=16:=by
 unfold Bb at h;simp only[BM,CV,DO]at h;exact⟨h.2.2.1,h.1⟩
def l8:FO NO 115:=λl z f A B n=>by
 have c:=A.p;have d:=λn=>fT l z f B c.len c.fs n;have C:((((115:UInt8).toNat:Nat):Int)==115)=true:=rfl;have q:AC (∀b,(decide (Z (l.filter (F6 l))<Z l)&&Bb l (l.filter (F6 l)))=b->∃o,b=o.isSome/\NO l o/\∀a,o=some a->l.filter (F6 l)=a/\wB a):=λb h=>by
  cases b with
  |true=>
   refine⟨some _,rfl,.inl ⟨h,rfl⟩,λa e=>?_⟩;cases e;simp only[BM]at h;exact⟨rfl,(Gi h.2).1,(Gi h.2).2,λx u=>c.fs x (BP.1 u).1⟩
  |false=>exact⟨none,rfl,.inr ⟨h,rfl⟩,λa e=>by cases e⟩
 generalize s:(decide (Z (l.filter (F6 l))<Z l)&&Bb l (l.filter (F6 l)))=t at d;obtain⟨o,v,r,p⟩:=q.o t s;have i:AC _:=r;have g:AC _:=p;clear q s c r p;generalize l.filter (F6 l)=m at d g;subst v;refine Z9 35 [.tmp 4,.tmp 5] Tryz.func63 ?_;refine m0 ?_;intro yb ya;refine Xi (d _) ?_;rintro _ _ ⟨id,j,rfl,k,y⟩;refine mr ?_
 first|exact⟨_,rfl,o,m,id,j,rfl,i.o,g.o,k,y⟩|exact⟨_,rfl,o,m,id,j,rfl,i.o,g.o,k⟩
def l5:FO LU 97:=λl z f s A g=>by
 have b:=s.p;have v:=λg=>aN l z f A b.len b.fs b.b5 g;have C:((((97:UInt8).toNat:Nat):Int)==115)=false:=rfl;have e2:((((97:UInt8).toNat:Nat):Int)==97)=true:=rfl;have t:AC (∀o,LU l o->∀a,o=some a->wB a):=λo h a e=>by
  subst e;rcases h with⟨h,-⟩|⟨i,x,k,h,hx,-,ht,-⟩;cases h;cases h
  exact⟨(Gi ht.2).1,(Gi ht.2).2,λy c=>by
   rcases Cy c with c|c;exact b.fs y c;have:y=C8 x k:=nn c
   rw[this];exact SZ (b.fs x (AY hx)) k⟩
 clear b;refine Z9 35 [.tmp 4,.tmp 5] Tryz.func63 ?_;refine m0 ?_;intro yb ya;refine Xi (v _) ?_;rintro _ _ ⟨o,m,id,q,rfl,j,p,r,u⟩;(have d:AC _:=j;have B:AC _:=p;clear j p);refine mr ?_;have n:AC (∀a,o=some a->m=a/\wB a):=λa e=>⟨B.o a e,t.o o d.o a e⟩
 first|exact⟨_,rfl,o,m,id,q,rfl,d.o,n.o,r,u⟩|exact⟨_,rfl,o,m,id,q,rfl,d.o,n.o,r⟩
def l7:FO LM 114:=λl v f r z g=>by
 have c:=r.p;have u:=λg=>aR l v f z c.len c.fs c.fine g;have B:((((114:UInt8).toNat:Nat):Int)==115)=false:=rfl;have e2:((((114:UInt8).toNat:Nat):Int)==97)=false:=rfl;have C:((((114:UInt8).toNat:Nat):Int)==114)=true:=rfl;have s:AC (∀o,LM l o->∀a,o=some a->wB a):=λo h a e=>by
  subst e;rcases h with⟨h,-⟩|⟨i,x,h,hx,-,-,ht,-⟩;cases h;cases h
  exact⟨(Gi ht).1,(Gi ht).2,λy b=>by
   rcases Cy b with b|b;exact c.fs y b
   cases b⟩
 clear c;refine Z9 35 [.tmp 4,.tmp 5] Tryz.func63 ?_;refine m0 ?_;intro yb ya;refine Xi (u _) ?_;rintro _ _ ⟨o,m,id,p,rfl,j,n,q,t⟩;(have d:AC _:=j;have A:AC _:=n;clear j n);refine mr ?_;have k:AC (∀a,o=some a->m=a/\wB a):=λa e=>⟨A.o a e,s.o o d.o a e⟩
 first|exact⟨_,rfl,o,m,id,p,rfl,d.o,k.o,q,t⟩|exact⟨_,rfl,o,m,id,p,rfl,d.o,k.o,q⟩
inductive FF (T:n0->Option n0->Prop)(b:Int)(l:n0)(m:Int):n0->Int->Prop where
 |refl:FF T b l m l m
 |snoc {l1 l2:n0} {m1:Int}:FF T b l m l1 m1->m1<b->T l1 (some l2)->wB l2->FF T b l m (Bl (Bj l2)) (m1+1)
def PE (T:n0->Option n0->Prop)(b:Int)(l:n0)(m:Int)(a:n0)(c:Int):Prop:=FF T b l m a c/\(b<=c\/T a none)
inductive DPss (T:UInt8->n0->Option n0->Prop)(b:Int)(l:n0)(m:Int):Tx->n0->Int->Prop where
 |nil:DPss T b l m [] l m
 |snoc {ps:Tx} {c:UInt8} {l1 l2:n0} {m1 m2:Int}:DPss T b l m ps l1 m1->PE (T c) b l1 m1 l2 m2->DPss T b l m (ps++[c]) l2 m2
def Lh (T:UInt8->n0->Option n0->Prop)(t a:Tx)(b:Int)(r:Tx×Int×Int):Prop:=
 if (Av t).1≠0 then r=([],0,(Av t).1)else
 if Dd a=false then r=([],0,11)else
 if b<0 then r=([],0,6)else
 ∃c m,DPss T b (Bl t) 0 a c m/\r=(Bj c,m,0)
def je (c):((B7 [115,97,114,117,108] (c.toNat:Int):Int)==5)=!Ho c:=by
 have:∀c:UInt8,((B7 [115,97,114,117,108] (c.toNat:Int):Int)==5)=!Ho c:=by
  intro c;have h:=c.toNat_lt;by_cases g:c=115;subst g;decide;by_cases b:c=97;subst b;decide;by_cases f:c=114;subst f;decide;by_cases i:c=117;subst i;decide;by_cases a:c=108;subst a;decide;have o:Ho c=false:=by simp[Ho,g,b,f,i,a]
  have k:∀d:UInt8,c≠d->¬((d.toNat:Int)=(c.toNat:Int)):=λd n e=>n (UInt8.toNat_inj.1 AA);rw[o,Yx _ _ λj _ x m=>?_];rfl;have l:x∈([115,97,114,117,108]:List UInt8):=AY m;simp only[BD,EK,DZ]at l;rcases l with rfl|rfl|rfl|rfl|rfl;simpa using k _ g;simpa using k _ b;simpa using k _ f;simpa using k _ i;simpa using k _ a
 exact this c
def W9 (T t ps b)(b7:b<=9223372036854775807)(D:0<b->Dd ps=true->∀c∈ps,FO (T c) c)(f):ni 34 [str t,str ps,ic b] f λr σ'=>∃p,r=qC p/\Lh T t ps b p/\AD f σ':=by
 have b6:({data:=#[]}:ByteArray)=bs []:=rfl;have b5:({data:=#[115,97,114,117,108]}:ByteArray)=bs [115,97,114,117,108]:=rfl;have hC:=λf=>T6 t f;by_cases A:(Av t).1=0
 case neg=>
  have bu:((Av t).1 !=0)=true:=nn A;have j:AC (Lh T t ps b ([],0,(Av t).1)):=by rw[AC,Lh,if_pos A]
  clear A D;refine Z9 74 [.tmp 6,.tmp 7,.tmp 8] Tryz.func34 ?_;refine m0 ?_;intro yb ya;refine Xi (hC _) ?_;rintro _ _ ⟨rfl,P⟩;refine mr ?_
  first|exact⟨_,rfl,([],0,_),rfl,j.o,P⟩|exact⟨_,rfl,([],0,_),rfl,j.o⟩
 have bu:((Av t).1 !=0)=false:=nn A;by_cases h8:8<Z ps
 ·have bw:decide ((Z ps:Int)>8)=true:=by rw[CV];omega
  have j:AC (Lh T t ps b ([],0,11)):=by
   rw[AC,Lh,if_neg (by simp[A]),if_pos];unfold Dd;rw[KF AA];rfl
  clear A D h8;refine Z9 74 [.tmp 6,.tmp 7,.tmp 8] Tryz.func34 ?_;refine m0 ?_;intro yb ya;refine Xi (hC _) ?_;rintro _ _ ⟨rfl,P⟩;refine mr ?_
  first|exact⟨_,rfl,([],0,11),rfl,j.o,P⟩|exact⟨_,rfl,([],0,11),rfl,j.o⟩
 have bw:decide ((Z ps:Int)>8)=false:=by simp;omega
 have L:=λc f=>Ld [115,97,114,117,108] c nk f;obtain⟨hlen,l0,r0,ai⟩:=H9 A;obtain⟨g1,g2,g3,g4⟩:=Ep AA ai;have V:=λf=>L2 t AA (by have:=g1.1;omega) g1.2 f;have a5:AC (∀a,wB a->∀f,ni 62 [str (Bj a)] f λr σ'=>∃id cs,r=sl id (Z (Bl (Bj a))) cs/\EL AJ (Bl (Bj a)) cs/\AD f σ'):=λa C f=>by
  obtain⟨I,l3,r3,h3⟩:=H9 C.1;obtain⟨k1,k2,k3,k4⟩:=Ep AA h3;exact L2 (Bj a) AA (by have:=k1.1;omega) k1.2 f
 have J:AC (∀p,(if Dd ps=false then p=([],0,11)else if b<0 then p=([],0,6)else∃E m,DPss T b (Bl t) 0 ps E m/\p=(Bj E,m,0))->Lh T t ps b p):=λp h=>by rw[Lh,if_neg (by simp[A])];exact h
 have Y:AC (EN (Bl t)):=⟨t,A,rfl⟩;clear g1 g2 g3 g4 ai hlen;generalize Bl t=Q at V J Y;refine Z9 74 [.tmp 6,.tmp 7,.tmp 8] Tryz.func34 ?_;refine m0 ?_;intro yb ya;refine Xi (hC _) ?_;rintro _ _ ⟨rfl,P⟩;refine mr ?_
 refine Ae (λm s σ'=>∃i:Nat,m=Z ps-i/\i<=Z ps/\s 0=str t/\s 1=str ps/\s 2=ic b/\s 11=ic i/\AD f σ'/\AC (∀c∈ps.take i,Ho c=true)) (Z ps)
  ⟨0,AA,AA,by simp[upd,AL],by simp[upd,AL],by simp[upd,AL],AG,P,by simp[AC]⟩ ?_
 clear P hC;rintro m s σ' ⟨i,rfl,hi,S,I,C,b2,k,F⟩;have an:=k.B;by_cases bq:i<Z ps
 ·have K:=AK bq;generalize ps[i]=c at K;have L:=L c.toNat;have ao:=je c;cases M:Ho c with
  |false=>
   rw[M]at ao
   have j:AC (Lh T t ps b ([],0,11)):=J.o _ (by
    rw[if_pos];unfold Dd
    rw[show ps.all Ho=false from IQ.2 ⟨c,AY K,by simp[M]⟩];simp)
   clear F J Y a5 V D M;generalize B7 [115,97,114,117,108] (c.toNat:Int)=fn at L ao;refine m0 ?_;intro yb ya;refine Xi (L _) ?_;rintro _ _ ⟨rfl,rfl⟩;refine mr ?_
   first|exact⟨_,rfl,([],0,11),rfl,j.o,k⟩|exact⟨_,rfl,([],0,11),rfl,j.o⟩
  |true=>
   rw[M]at ao;have B:AC (∀c∈ps.take (i+1),Ho c=true):=λd N=>by
    rw[AT,K]at N;rcases AW.1 N with N|N
    ·exact F.o d N
    have:d=c:=nn N;rw[this];exact M
   clear F M;generalize B7 [115,97,114,117,108] (c.toNat:Int)=fn at L ao;refine m0 ?_;intro yb ya;refine Xi (L _) ?_;rintro _ _ ⟨rfl,rfl⟩;refine mr ?_;refine⟨Z ps-(i+1),AA,i+1,?_⟩;exact m9 B
 have br:i=Z ps:=AA;subst br;rw[AS]at F;have U:Dd ps=true:=by
  unfold Dd;rw[LJ AA,CX.2 F.o];rfl
 have D:=λS=>D S U;by_cases X:b<0
 ·have bz:decide (b<0)=true:=nn X
  have j:AC (Lh T t ps b ([],0,6)):=J.o _ (by rw[if_neg (by simp[U]),if_pos X]);clear F J Y a5 V D U X;refine mr ?_
  first|exact⟨_,rfl,([],0,6),rfl,j.o,k⟩|exact⟨_,rfl,([],0,6),rfl,j.o⟩
 have bz:decide (b<0)=false:=nn X;have j:AC (∀E m,DPss T b Q 0 ps E m->Lh T t ps b (Bj E,m,0)):=λE m h=>J.o _ (by rw[if_neg (by simp[U]),if_neg X];exact⟨E,m,h,rfl⟩);have b3:AC (0<b->∀c∈ps,FO (T c) c):=D;clear F J D U;refine m0 ?_;intro yb ya;refine Xi (V _) ?_;rintro _ _ ⟨idl,cs,rfl,hE,bb⟩;(have a9:=k.trans bb);refine mr ?_
 refine Ae (λm s σ'=>∃(i:Nat) (n:Int) (g:n0) (y:Nat) (O:oh),m=Z ps-i/\i<=Z ps/\0<=n/\n<=b/\s 1=str ps/\s 2=ic b/\s 12=sl y (Z g) O/\s 13=ic n/\s 14=ic i/\AD f σ'/\AC (DPss T b Q 0 (ps.take i) g n/\EN g/\EL AJ g O)) (Z ps)
  ⟨0,0,Q,idl,cs,AA,AA,AA,AA,by simp[upd,I],by simp[upd,C],AG,AG,AG,a9,DPss.nil,Y.o,hE⟩ ?_
 clear S I C b2 k a9 bb V Y an;rintro m s σ' ⟨i,n,g,y,O,rfl,hi,bp,bo,I,C,a4,a3,a0,k,v⟩;have an:=k.B;by_cases aj:i<Z ps
 ·have K:=AK aj;have aw:=λS=>b3.o S ps[i] (AR aj);generalize ps[i]=c at K aw;have bg:AC (∀a m2,PE (T c) b g n a m2->DPss T b Q 0 (ps.take (i+1)) a m2):=λa m2 h=>by
   rw[AT,K,BN];exact DPss.snoc v.o.1 h
  have bf:AC (EN g):=v.o.2.1;have bi:AC (EL AJ g O):=v.o.2.2;have bm:AC (0<b->FO (T c) c):=aw;clear v aw;refine mr ?_
  refine Ae (λq s σ'=>∃(more:Bool) (e:Int) (a:n0) (l:Nat) (z:oh),q=(b-e).toNat+(if more=true then 1 else 0)/\0<=e/\e<=b/\s 1=str ps/\s 2=ic b/\s 12=sl l (Z a) z/\s 13=ic e/\s 14=ic i/\s 15=my more/\AD f σ'/\AC (FF (T c) b g n a e/\(more=false->T c a none)/\EN a/\EL AJ a z)) ((b-n).toNat+1)
   ⟨true,n,g,y,O,nk,bp,bo,by simp[upd,I],by simp[upd,C],by simp[upd,a4],by simp[upd,a3],by simp[upd,a0],AG,k,.refl,(by intro h;cases h),bf.o,bi.o⟩ ?_
  clear I C a4 a3 a0 k an bf bi;rintro q s σ' ⟨more,e,a,l,z,hq,hm0,hm1,I,C,a4,a3,a0,b8,k,u⟩;have an:=k.B;by_cases ak:more=true/\e<b
  ·obtain⟨rfl,a6⟩:=ak;have bv:decide (e<b)=true:=nn a6
   have b4:q=(b-e).toNat+1:=nn hq;have be:=λf=>bm.o AA a z l u.o.2.2.1 u.o.2.2.2 f;refine nh ?_;intro yb ya;refine AF.mono (be _) ?_;rintro _ σ5 ⟨o,mm,idm,cm,rfl,au,ax,bd,ba⟩;have a8:=k.trans ba;have knoy:=a8.B;clear ba be;cases o with
   |none=>
    have B:AC (FF (T c) b g n a e/\(false=false->T c a none)/\EN a/\EL AJ a z):=⟨u.o.1,λ_=>au,u.o.2.2⟩;clear u au ax bd;refine Z3 ?_;refine mr ?_;refine⟨(b-e).toNat,AA,false,e,a,l,z,?_⟩
    ((repeat' refine Zi ?_ ?_)<;>first|exact Xq|exact B|exact nk|exact Xs)
   |some l3=>
    obtain⟨rfl,H⟩:=ax l3 rfl;have ay:=λf=>Py mm cm idm bd H.2.1 (λx G=>(H.2.2 x G).1) (λx G=>(H.2.2 x G).2) f;have bc:=a5.o mm H;have bn:AC (FF (T c) b g n (Bl (Bj mm)) (e+1)):=.snoc u.o.1 a6 au H;have bh:AC (EN (Bl (Bj mm))):=⟨_,H.1,rfl⟩;clear u au ax H;generalize Bl (Bj mm)=R at bc bn bh;refine Z3 ?_;refine m0 ?_;intro yb ya;(first|(refine Xi (ay _) ?_;rintro _ _ ⟨rfl,az⟩)|(refine Xi (bc _) ?_;rintro _ _ ⟨W,c4,rfl,b1,b0⟩));refine mz ?_;(first|(refine Xi (ay _) ?_;rintro _ _ ⟨rfl,az⟩)|(refine Xi (bc _) ?_;rintro _ _ ⟨W,c4,rfl,b1,b0⟩));refine mr ?_;have B:AC (FF (T c) b g n R (e+1)/\(true=false->T c R none)/\EN R/\EL AJ R c4):=⟨bn.o,(by intro h;cases h),bh.o,b1⟩;refine⟨(b-(e+1)).toNat+1,AA,true,e+1,R,W,c4,?_⟩
    ((repeat' refine Zi ?_ ?_)<;>first|exact Xq|exact B|exact ((a8.trans az).trans b0)|exact nk|exact Xs)
  have B:AC (DPss T b Q 0 (ps.take (i+1)) a e/\EN a/\EL AJ a z):=⟨bg.o a e ⟨u.o.1,by
   cases more with
   |false=>exact .inr (u.o.2.1 rfl)
   |true=>exact .inl (by
    have:¬e<b:=λh=>ak ⟨rfl,h⟩
    omega)⟩,u.o.2.2⟩
  clear u bg bm;cases more with
  |false=>
   clear ak;refine mr ?_;refine⟨Z ps-(i+1),AA,i+1,e,a,l,z,?_⟩;exact m9 B
  |true=>
   have bv:decide (e<b)=false:=by
    have:¬e<b:=λh=>ak ⟨rfl,h⟩;simpa using this
   clear ak;refine mr ?_;refine⟨Z ps-(i+1),AA,i+1,e,a,l,z,?_⟩;exact m9 B
 have av:i=Z ps:=AA;rw[av,AS]at v;have a7:=j.o g n v.o.1;have ap:=v.o.2.1.p;have ay:=λf=>Py g O y v.o.2.2 ap.len (λx G=>(ap.fs x G).1) (λx G=>(ap.fs x G).2) f;have HX:AC _:=a7;clear v j ap a7;refine m0 ?_;intro yb ya;refine Xi (ay _) ?_;rintro _ _ ⟨rfl,az⟩;refine mr ?_
 first|exact⟨_,rfl,(Bj g,n,0),rfl,HX.o,k.trans az⟩|exact⟨_,rfl,(Bj g,n,0),rfl,HX.o⟩
def JO (np:Nat)(L:List (Nat×Ck)):MM:=(List.range np).map λj=>(0,(L.filter λy=>y.1==j).map (·.2))
def rJ {np L}(h:∀y∈L,y.1<np)(j t):MD (JO np L) j t↔(j,t)∈L:=by
 unfold MD Ba JO;rw[DK,DC];by_cases d:j<np;rw[AK (nn d)];simp only[List.getElem_range,GJ,MG,AN,BP,DO];constructor;rintro⟨⟨a,b⟩,⟨c,rfl⟩,rfl⟩;exact c;exact λc=>⟨(j,t),⟨c,rfl⟩,rfl⟩;rw[FD (nn d)];constructor;intro c;simp at c;intro c;exact absurd (h _ c) d
def RJ {np L}(h:L.Nodup):∀x∈JO np L,x.2.Nodup:=λx i=>by
 obtain⟨j,-,rfl⟩:=AN.1 i;show ((L.filter λy=>y.1==j).map (·.2)).Nodup;unfold List.Nodup;rw[List.pairwise_map];refine List.Pairwise.imp_of_mem (λ{a b} g f k e=>k ?_) (h.filter _);have c:=(BP.1 g).2;have d:=(BP.1 f).2;simp only[DO]at c d;exact GB (c.trans d.symm) e
def uU (f g:Nat->Int):∀L:List Nat,(L.map λj=>f j+g j).sum=(L.map f).sum+(L.map g).sum
 |[]=>nk
 |a::L=>by simp only[CC,List.sum_cons,uU f g L];omega
def uT (i):∀np,((List.range np).map λj=>if i=j then (1:Int)else 0).sum=if i<np then 1 else 0
 |0=>nk
 |n+1=>by
  rw[List.range_succ,EU,List.sum_append,uT i n];simp only[CC,IK,List.sum_cons,List.sum_nil];by_cases a:i<n;rw[if_pos a,if_neg AA,if_pos AA];rfl;rw[if_neg a];by_cases b:i=n;rw[if_pos b,if_pos AA];rfl;rw[if_neg b,if_neg AA];rfl
def gG {np}:∀{L:List (Nat×Ck)},(∀y∈L,y.1<np)->tot (JO np L)=Z L
 |[],_=>by
  unfold tot H1 JO;rw[BH];have:((λx:Nat×List Ck=>(Z x.2:Int))∘λj=>(0,(([]:List (Nat×Ck)).filter λy=>y.1==j).map (·.2)))=λ_=>(0:Int):=by funext j;simp
  rw[this];have:∀L:List Nat,(L.map λ_=>(0:Int)).sum=0:=λL=>by induction L with|nil=>rfl|cons a L b=>simp[b]
  rw[this];rfl
 |y::L,h=>by
  have b:=gG (np:=np) (L:=L) λz d=>h z (by simp[d]);unfold tot H1 JO at b⊢;rw[BH]at b⊢;have e:((λx:Nat×List Ck=>(Z x.2:Int))∘λj=>(0,((y::L).filter λz=>z.1==j).map (·.2)))=λj=>(if y.1=j then (1:Int)else 0)+((λx:Nat×List Ck=>(Z x.2:Int))∘λj=>(0,(L.filter λz=>z.1==j).map (·.2))) j:=by
   funext j;simp only[Function.comp,BV,List.filter_cons];by_cases c:y.1=j;simp[c];omega;simp[c]
  rw[e,uU,b,uT,if_pos (h y nk)];simp;omega
def YU (R F k h):∃b,aD R F k h b:=by
 classical
 have q:∀L:List (Nat×Ck),∃d,∀y∈L,y.1<d:=λL=>by
  induction L with
  |nil=>exact⟨0,λy c=>by cases c⟩
  |cons a L l=>
   obtain⟨d,e⟩:=l;refine⟨d+a.1+1,λy c=>?_⟩;rcases BD.1 c with rfl|c;omega;have:=e y c;omega
 by_cases m:∃L:List (Nat×Ck),L.Nodup/\(∀y∈L,BS R F y.1 y.2)/\200<Z L;obtain⟨L,i,f,o⟩:=m;obtain⟨d,e⟩:=q L;refine⟨false,JO d L,RJ i,λj t g=>f (j,t) ((rJ e j t).1 g),?_⟩;rw[gG e,if_neg AA];have s:∃n,(∃L:List (Nat×Ck),L.Nodup/\(∀y∈L,BS R F y.1 y.2)/\Z L=n)/\¬ ∃L:List (Nat×Ck),L.Nodup/\(∀y∈L,BS R F y.1 y.2)/\Z L=n+1:=by
  refine Classical.byContradiction λr=>m ?_;have p:∀n,∃L:List (Nat×Ck),L.Nodup/\(∀y∈L,BS R F y.1 y.2)/\Z L=n:=λn=>by
   induction n with
   |zero=>exact⟨[],GN,(λy c=>by cases c),rfl⟩
   |succ n l=>exact Classical.byContradiction λh=>r ⟨n,l,h⟩
  obtain⟨L,i,f,o⟩:=p 201;exact⟨L,i,f,AA⟩
 obtain⟨n,⟨L,i,f,o⟩,v⟩:=s;obtain⟨d,e⟩:=q L;have x:Z L<=200:=Nat.le_of_not_lt λg=>m ⟨L,i,f,g⟩;refine⟨decide (MD (JO d L) k h),JO d L,RJ i,λj t g=>f (j,t) ((rJ e j t).1 g),?_⟩;rw[gG e,if_pos AA];refine⟨λj t g=>(rJ e j t).2 ?_,nk⟩;refine Classical.byContradiction λu=>v ⟨(j,t)::L,List.nodup_cons.2 ⟨u,i⟩,λy c=>?_,by simp[o]⟩;rcases BD.1 c with rfl|c;exact g;exact f y c
def SQ {N}:∀{l:oq},(∀a∈l,a.B∈N)->∃b,EL (PL N) l b
 |[],_=>⟨[],rfl⟩
 |a::l,h=>by
  obtain⟨b,e⟩:=SQ (l:=l) λc d=>h c (by simp[d]);exact⟨_,_,b,⟨h a nk,0,rfl⟩,e,rfl⟩
def SR {N}:∀{l:n0},(∀x∈l,x.h.B∈N/\∀a∈x.A,a.B∈N)->∃c,EL (PI N) l c
 |[],_=>⟨[],rfl⟩
 |x::l,h=>by
  obtain⟨c,d⟩:=SR (l:=l) λy f=>h y (by simp[f]);obtain⟨b,e⟩:=SQ (h x nk).2;exact⟨_,_,c,⟨(h x nk).1,0,0,b,e,rfl⟩,d,rfl⟩
def EN.rt {l}(h:EN l):(∃N ar,BB N ar l)/\(∀x∈l,iS x)/\(Co l).1=0:=by
 obtain⟨t,g,o⟩:=h;obtain⟨j,e,r,k⟩:=H9 g;have D:r=[]:=(Ka _ _ _ _ k).2.1;subst D;obtain⟨G,n,z,A⟩:=Ep AA k;rw[n]at o;subst o;have i:=dY _ _ _ _ k;have p:=(show EN e from⟨t,g,n⟩).p;obtain⟨ar,q⟩:=SV g;rw[n]at q;let N:ol:=e.flatMap λx=>x.h.B::x.A.map (·.B);have v:∀x∈e,x.h.B∈N/\∀a∈x.A,a.B∈N:=λx d=>⟨EX.2 ⟨x,d,nk⟩,λa b=>EX.2 ⟨x,d,by simp only[BD,AN];exact .inr ⟨a,b,rfl⟩⟩⟩;obtain⟨c,B⟩:=SR v;have F:Z N<=2000:=by
  have m:∀l:n0,(∀x∈l,Z x.A<=5)->Z (l.flatMap λx=>x.h.B::x.A.map (·.B))<=Z l*6:=λl=>by
   induction l with
   |nil=>intro _;simp
   |cons x l s=>
    intro h;have g:=h x nk;have o:=s λy E=>h y (by simp[E]);rw[DN,AX,BQ,BV,BQ];omega
  have:=m e p.b5;have:=p.len;show Z (e.flatMap _)<=2000;omega
 have C:∀x∈e,∀a∈Af x,0<Z a.A:=λx d a b=>by
  unfold Af at b;cases f:x.o with
  |true=>
   rw[f,((i x d).o f).2.2]at b;simp at b
  |false=>
   rw[f]at b;have b:a=x.h\/a∈x.A:=nn b;rcases b with rfl|b;exact List.length_pos_iff.2 ((i x d).rule f).1.ne;exact List.length_pos_iff.2 (((i x d).rule f).2.2.2 a b).ne
 have u:CW t N e c:=⟨g,j,k,⟨B,z,λx d=>(p.fs x d).1,λx d f=>((i x d).o f).2.2,F,C⟩,A⟩;exact⟨⟨N,ar,u.rt q⟩,i,(zW g k).2⟩
def Zy {N ar l m}(r:aW N l)(c:BB N ar m)(q:∀x∈m,iS x):Bb l m=C5 N l m:=by
 have s:(!l.any (Ki m))=!Rt N m l:=by
  congr 1;refine GI.2 ?_;rw[<-Decidable.not_iff_not,JE,JE,Rr r c.nm,EV];have n:∀p,F7 m p=true↔Rk m p:=λp=>by
   unfold F7 Rk P3;simp only[CU,BM,FJ,DO]
  have o:∀p,m.any (Ly p)=true↔K9 m p:=λp=>by
   unfold K9 Ly;simp only[CU,LF,DO]
  constructor;rintro h p a ⟨x,d,i,rfl⟩;have:=h x d;unfold Ki at this;rw[i,(o _).2 a]at this;refine (n _).1 ?_;simpa using this;intro h x d g;unfold Ki at g;simp only[BM,FJ]at g;have:=(n _).2 (h _ ((o _).1 g.2.1) ⟨x,d,g.1,rfl⟩);rw[g.2.2]at this;cases this
 have k:∀x∈m,x.o=true->x.A=[]:=λx d=>(c.gl.msr x d).o;have u:∀x∈m.map ren,x.o=true->x.A=[]:=λx d i=>by
  obtain⟨y,t,rfl⟩:=AN.1 d;have:=k y t i;simp[ren,this]
 have f:(Jk m=true/\(Co m).1=0)↔(Z m<=16/\(∀x∈m,Z x.A<=5)/\(Av (Bj m)).1=0):=by
  constructor;rintro⟨a,e⟩;have:=ju c e a q;unfold Jk at a;simp only[BM,CV,CX]at a;exact⟨a.1,a.2.1,by rw[this.1]⟩;rintro⟨a,e,b⟩;unfold Av at b;split at b;cases b;rename_i j;split at b;cases b;rw[Ns c.wit c.wi]at b;refine⟨?_,Qw (LS.of_ren c).symm u k b⟩;unfold Jk;simp only[BM,CV,CX];rw[Oc c.wit,<-fM (LS.of_ren c)]at j;exact⟨a,e,AA⟩
 refine GI.2 ?_;unfold Bb C5;rw[s];simp only[BM,CV,CX,DO];constructor;rintro⟨a,e,b,j⟩;have:=f.2 ⟨a,e,b⟩;exact⟨this.1,j,this.2⟩;rintro⟨a,e,b⟩;have:=f.1 ⟨a,b⟩;exact⟨this.1,this.2.1,this.2.2,e⟩
section
variable {N:ol} {ar:Tx->Nat} {l:n0} (hR:BB N ar l) (hg:∀x∈l,iS x)
include hR hg
theorem kj {o}(h:NO l o):KT N l o:=by
 classical
 let M:Nat->Nat->Bool:=λp q=>decide (Yj N l p q);have c:Dw N l M:=λp q=>decide_eq_true_iff;have g:∀x∈l,x.o=true->x.A=[]:=λx a=>(hR.gl.msr x a).o
 have f:Hq N (F9 (Z N) M (Z N)) l=l.filter (F6 l):=List.filter_congr λx a=>GI.2 (by
  rw[Vq hR.nm c (hR.nm x a).1];unfold F6 NR Mt;cases b:x.o with
  |true=>exact⟨λ_=>nk,λ_=>⟨x,a,b,.inl rfl⟩⟩
  |false=>
   simp only[MA,CU,BM,LF,DO,Ks g ⟨x,a,b,rfl⟩])
 have d:Bb l (l.filter (F6 l))=C5 N l (l.filter (F6 l)):=Zy hR.nm (hR.sub (λx a=>(BP.1 a).1) (BI (IS _ _) hR.gl.len)) λx a=>hg x (BP.1 a).1;have i:=IS (F6 l) l;refine⟨M,c,?_⟩;rw[f,<-d];unfold NO at h;generalize l.filter (F6 l)=K at*
 by_cases e:Z K=Z l;rw[KF AA,Bool.false_and]at h;rcases h with⟨h,-⟩|⟨-,h⟩;cases h;exact .inl ⟨e,h⟩;rw[LJ AA,FV]at h;exact .inr ⟨e,h.symm⟩
theorem vG {i k x}(j:l[i]?=some x)(o:k<Z x.A):eC N l i k=true↔wC l i x k:=by
 have d:=AY j;have c:x.o=false:=by
  cases c:x.o with
  |false=>rfl
  |true=>rw[(hR.gl.msr x d).o c]at o;cases o
 have g:=hR.xr d c;have n:=hR.ut d;have s:Fi (C8 x k)=Db (C8 x k):=J8 (x:=C8 x k) λa b w f=>by
  have b:a=x.h\/a∈x.A.eraseIdx k:=by simpa[Af,C8]using b
  rcases b with rfl|b;exact Me (n _ (Ap (.inl ⟨c,rfl⟩)) w f);exact Me (n _ (Ap (.inr (EE b))) w f)
 have v:Db (C8 (ren x) k)=Db (C8 x k):=by
  rw[<-J8 (x:=C8 (ren x) k) λa b w f=>by
   have b:a=(ren x).h\/a∈(ren x).A.eraseIdx k:=by simpa[Af,C8]using b
   rcases b with rfl|b;exact Me (g.inO.ut _ (Ap (.inl ⟨c,rfl⟩)) w f)
   exact Me (g.inO.ut _ (Ap (.inr (EE b))) w f),g.safe k]
 have q:(IX N x k).isSome=true↔PP x k:=by
  rw[fQ hR d c,v,dF g k (hR.nm x d).2 (hR.gl.ar x d)];rfl
 have m:PP x k->Bb l (rpl i [C8 x k] l)=C5 N l (rpl i [C8 x k] l):=λh=>Zy hR.nm (hR.wo j c (by rw[s];exact h.1)) λy r=>by
  rcases Cy r with h|h;exact hg y h;simp at h;subst h;obtain⟨t,p,u,z⟩:=(hg x d).rule c;exact⟨(hg x d).nm,(λe=>by cases e),λ_=>⟨t,p,BI (JF _ _) u,λa b=>z a (EE b)⟩⟩
 unfold eC wC;rw[j];simp only[BM];rw[q];exact⟨λh=>⟨h.1,by rw[m h.1];exact h.2⟩,λh=>⟨h.1,by rw[<-m h.1];exact h.2⟩⟩
theorem kg {o}(h:LU l o):KQ N l o:=by
 have g:∀{i k:Nat} {x:AB},l[i]?=some x->k<Z x.A->¬wC l i x k->eC N l i k=false:=λ{i k x} b a h=>by
  rw[<-JE,vG hR hg b a];exact h
 rcases h with⟨rfl,h⟩|⟨i,x,k,rfl,b,a,h1,h2,h3⟩;exact .inl ⟨rfl,λi y _ c k a=>g c a (h i y c k a)⟩;have e:x.o=false:=by
  cases e:x.o with
  |false=>rfl
  |true=>rw[(hR.gl.msr x (AY b)).o e]at a;cases a
 exact .inr ⟨i,k,x,rfl,b,e,a,(vG hR hg b a).2 h1,λj y m c f d=>g c d (h2 j y m c f d),λf d=>g b AA (h3 f d)⟩
theorem RB {i x b}(g:l[i]?=some x)(f:x.o=false)(h:Qu l i x b):gO N l i x b:=by
 obtain⟨c,a⟩:=YU ((oth l i (Z l)).map (Ed N)) (Fy N x) (Ed N x).h.p.toNat (C4 (Fx (Ed N x).h));have e:=zN (ar:=ar) ⟨λz d=>hR.ru z (E8 d).1 (E8 d).2,hR.ru x (AY g) f⟩ h a;subst e;exact a
theorem k9 {o}(h:LM l o):KS N l o:=by
 have e:∀i,Bb l (rpl i [] l)=C5 N l (rpl i [] l):=λi=>Zy hR.nm (hR.less i) λy b=>by
  rcases Cy b with h|h;exact hg y h;cases h
 have f:∀{i:Nat} {x:AB},l[i]?=some x->x.o=false->(Qu l i x false\/Bb l (rpl i [] l)=false)->C5 N l (rpl i [] l)=true->gO N l i x false:=λ{i x} d a h c=>by
  rcases h with h|h;exact RB hR hg d a h;rw[e,c]at h;cases h
 rcases h with⟨rfl,h⟩|⟨i,x,rfl,d,a,h1,h2,h3⟩;exact .inl ⟨rfl,λi y _ b a c=>f b a (h i y b a) c⟩;exact .inr ⟨i,x,rfl,d,a,by rw[<-e];exact h2,RB hR hg d a h1,λg y j b a c=>f b a (h3 g y j b a) c⟩
end
def LL (T:n0->Option n0->Prop):Nat->n0->n0->Prop
 |0,l,b=>b=l
 |k+1,l,b=>∃a,T l (some a)/\wB a/\LL T k (Bl (Bj a)) b
def LL.snoc {T}:∀{k:Nat} {l b a:n0},LL T k l b->T b (some a)->wB a->LL T (k+1) l (Bl (Bj a))
 |0,_,_,_,e,h,g=>by cases e;exact⟨_,h,g,rfl⟩
 |k+1,_,_,_,⟨m,f,c,d⟩,h,g=>⟨m,f,c,d.snoc h g⟩
def FF.dst {T b m a l c}(h:FF T b l m c a):∃k:Nat,a=m+k/\LL T k l c/\(0<k->a<=b):=by
 induction h with
 |refl=>exact⟨0,AA,rfl,AA⟩
 |snoc _ i g d f=>
  obtain⟨k,e,h,-⟩:=f;exact⟨k+1,AA,h.snoc g d,AA⟩
def Ta (t:Tx):Tx:=if Ab t=true then t++[39]else t
def Gz (a:AE):AE:=⟨a.nt,a.B,a.A.map Ta⟩
def lW (a ca)(B:Bf a ca)(S:Z a.A<=1000)(D:∀t∈a.A,Z t<=1001)(b):ni 235 [ag ca] b λr σ'=>∃i,r=ag [my a.nt,str a.B,sl i (Z a.A) ((Gz a).A.map str)]/\AD b σ':=by
 obtain⟨F,rfl⟩:=B;have N:({data:=#[39]}:ByteArray)=bs [39]:=rfl;refine Z9 34 [.cell 2 108] Tryz.func235 ?_;refine mu ?_
 refine Ae (λm s σ'=>∃(i j:Nat) (d:oh),m=Z a.A-i/\i<=Z a.A/\s 1=ptr b.B 0/\s 2=ptr (b.B+1) 0/\s 3=ptr (b.B+2) 0/\s 4=ic i/\AD b σ'/\b.B+2<σ'.B/\σ'.C b.B=[my a.nt,str a.B,sl F (Z a.A) (a.A.map str)]/\σ'.C (b.B+1)=[my false,str [],nilS]/\σ'.C (b.B+2)=[my a.nt,str a.B,sl j i d]/\Own b σ' j i/\Z d=i/\AC (d=((a.A.take i).map Ta).map str)) (Z a.A)
  ⟨0,1,[],AA,AA,AG,AG,AG,AG,Xs,BJ,?_,?_,?_,Own.nil _ _,nk,by simp[AC]⟩ ?_
 ·rw[Aj AA,Ah AM,Ah AM,Ao]
 ·rw[Aj AA,Ah AM,Be AM AM]
 ·rw[Ak]
 rintro m s σ' ⟨i,j,d,rfl,P,O,L,M,V,x,W,Q,X,T,K,J,f⟩;have U:=x.B;by_cases p:i<Z a.A
 ·have v:=AK p;have G:=A1 p;have y:=D _ (AR p);generalize a.A[i]=u at G v y;have k:AC (((a.A.take (i+1)).map Ta).map str=((a.A.take i).map Ta).map str++[str (Ta u)]):=by
   rw[AC,AT,v];simp
  clear v;have l:=λb=>Cg u b;have R:Z (u++[39])<=1002:=by simp;omega
  cases e:Ab u with
  |true=>
   have g:Ta u=u++[39]:=if_pos e;rw[g]at k;rw[e]at l;clear g e
   repeat' first|refine Z1 ?_|refine Z8 λyb ya=>?_|refine Z4 ?_;clear ya yb|refine Z2 ?_ ?_<;>intro h I<;>try exact Xp|refine Z6 ?_;intro c q o n z E A H|refine Z5 ?_;refine Xi (l _) ?_;rintro _ _ ⟨rfl,rfl⟩|refine Z7 ?_|exact Zt|apply ya.o;clear ya yb
   refine⟨Z a.A-(i+1),AA,i+1,c,d++[str (u++[39])],?_⟩
   ((repeat' refine Zi ?_ ?_)<;>first|exact Xq|exact (n.put AA _)|exact (Own.put o _ _)|exact (by rw[AC,k.o,f.o])|exact Xs)
  |false=>
   have g:Ta u=u:=if_neg (by simp[e]);rw[g]at k;rw[e]at l;clear g e
   repeat' first|refine Z1 ?_|refine Z8 λyb ya=>?_|refine Z4 ?_;clear ya yb|refine Z2 ?_ ?_<;>intro h I<;>try exact Xp|refine Z6 ?_;intro c q o n z E A H|refine Z5 ?_;refine Xi (l _) ?_;rintro _ _ ⟨rfl,rfl⟩|refine Z7 ?_|exact Zt|apply ya.o;clear ya yb
   refine⟨Z a.A-(i+1),AA,i+1,c,d++[str u],?_⟩
   ((repeat' refine Zi ?_ ?_)<;>first|exact Xq|exact (n.put AA _)|exact (Own.put o _ _)|exact (by rw[AC,k.o,f.o])|exact Xs)
 have C:i=Z a.A:=AA;subst C;have f:=f.o;rw[AS]at f;subst f;refine mu ?_;exact⟨_,rfl,j,rfl,x.put AA _⟩
end Go.Proofs.YtmoeoppbmhfbpabGreatDoorJ
