import Derived.Test.YtmoeoppbmhfbpabGreatDoorF
set_option maxHeartbeats 64000000
set_option maxRecDepth 100000
set_option linter.all false
open List
open List renaming length->Z
namespace Go.Proofs.YtmoeoppbmhfbpabGreatDoorJ
open Go.Abs Tryz
def Afy (t a):ni 19 [O t] a λj σ'=>j=two (Av t)/\W a σ':=by apply wl func19;apply mt (yE t);rintro yb ya _ _ ⟨c,k,f,d,i,g,rfl,b,e⟩;(clear e);refine X ?_;exact⟨_,rfl,rfl,(b.new _).put b.B _⟩
def yj (o:iR)(e:o.kind=1)(c)(b:EO o c)(d):ni 55 [ag c] d λi σ'=>i=my true/\W d σ':=by
 rw[EO]at b;subst b;rw[e];apply wl func55
 (repeat (refine m0 ?_;intro yb ya;(first|(apply Xi (Afy o.s _);rintro _ _ ⟨rfl,a⟩;(have g:=a.C;have f:=a.B;(try simp only[Aa,Ac,Az]at f)))|(refine Xi (T6 o.s _) ?_;rintro _ _ ⟨rfl,j⟩)|(refine Xi (VX _ _) ?_;rintro _ _ ⟨rfl,rfl⟩))));refine X ?_
 exact⟨_,rfl,rfl,Xs⟩
def Aue (o:iR)(b:o.kind=1)(c)(a:EO o c)(d):ni 33 [ag c] d λg σ'=>g=my true/\W d σ':=by
 have e:=yj o b c a;rw[EO]at a;subst a;rw[b]at*
 apply wl func33;refine mt e ?_;rintro yb ya _ _ ⟨rfl,f⟩;refine X ?_;exact⟨_,rfl,rfl,Xs⟩
def q8 (s:Tx):Tx×Int:=if (Av s).1=0 then (Bj (Bl s),0)else ([],(Av s).1)
def xg (s b):ni 89 [O s] b λM σ'=>M=tp [O (q8 s).1,Y (q8 s).2]/\W b σ':=by
 have B:=λb=>T6 s b;refine wl func89 ?_;by_cases a:(Av s).1=0
 ·have g:q8 s=(Bj (Bl s),0):=by rw[q8];rw[if_pos a]
  have f:V _:=g;clear g;have i:Z s<=600:=by
   by_cases N:600<Z s
   ·rw[Av]at a;rw[if_pos N]at a;simp at a
   omega
  have d:=Hb s;have G:∃l M,Cc 16 s= .got l M:=by
   cases h:Cc 16 s with
   |got l M=>exact⟨l,M,rfl⟩
   |bad e=>
    rw[h]at d;have d:Eo s=((Z s-Z e:Nat):Int):=d;rw[Av]at a;rw[if_neg L,d,if_pos (KA _)]at a;simp at a
  let⟨l,M,o⟩:=G;let⟨j,y,k,C⟩:=Ep L o;have m:=T8 L o;have t:∀x∈Bl s,x.fits:=by intro x n;rw[Bl]at n;rw[AN]at n;obtain⟨u,D,rfl⟩:=n;exact rV (ny (L6 D))
  have q:=λb=>L2 s L (ny j.1) j.2 b;rw[<-y]at m k;have z:=λA c v b=>Py (Bl s) A c v k t m b;generalize Bl s=P at q z f;have E:((Av s).1 !=0)=false:=ns a
  clear a d o j y k C m t i
  repeat' first|refine Z1 ?_|refine Z8 λyb ya=>?_|refine Z4 ?_;clear ya yb|refine Z2 ?_ ?_<;>intro h F<;>try exact Xp|(refine Z5 ?_;first|(refine Xi (B _) ?_;rintro _ _ ⟨rfl,p⟩)|(refine Xi (q _) ?_;rintro _ _ ⟨c,A,rfl,v,K⟩)|(refine Xi (z _ _ nu _) ?_;rintro _ _ ⟨rfl,I⟩))|refine Z7 ?_|exact Zt|apply ya.o;clear ya yb
  refine⟨_,rfl,by rw[f.o],Xs⟩
 have g:q8 s=([],(Av s).1):=by rw[q8];rw[if_neg a]
 have f:V _:=g;clear g;have E:((Av s).1 !=0):=nn a;clear a
 repeat' first|refine Z1 ?_|refine Z8 λyb ya=>?_|refine Z4 ?_;clear ya yb|refine Z2 ?_ ?_<;>intro h F<;>try exact Xp|refine Z5 ?_;refine Xi (B _) ?_;rintro _ _ ⟨rfl,p⟩|refine Z7 ?_|exact Zt|apply ya.o;clear ya yb
 first|exact⟨_,rfl,by rw[f.o],p⟩|exact⟨_,rfl,by rw[f.o]⟩
def we {l ts}(h:∀w∈ts,DT w/\(Ab w->0<=Bv l w/\Bv l w<26)):D6 l ts=A0 (ts.map (C6 l)):=by
 induction ts with
 |nil=>rfl
 |cons w ts b=>
  let⟨a,d⟩:=h w nk;rw[D6,A0]at*
  rw[DN,CC,DN,b λc e=>h c (ns e)];congr 1;rw[Kz,T4];rw[jq a d]
def Aup {N l}:∀{f:oq} {b:oh},(∀a∈f,WA N l a)->r (RL N l) f b->r (PL N) (f.map (Br l)) b
 |[],b,_,h=>h
 |a::f,b,i,⟨c,d,⟨g,k⟩,m,e⟩=>by have j:=i a nk;refine⟨c,d,⟨j.1,g,?_⟩,Aup (λn h=>i n (ns h)) m,e⟩;rw[k,we (TK j)];simp[Br]
def Axg {N x c}(a:WI N x)(e:x.o=false)(h:RI N (Au x) x c):PI N (ren x) c:=by obtain⟨d,id,b,f,rfl⟩:=h;refine⟨a.mem,d,id,b,Aup a.wa f,?_⟩;rw[we (TK (a.h e).2)];simp[ren,Br]
def Aam (t b):ni 20 [O t] b λG σ'=>G=tp [O (q8 t).1,Y (q8 t).2]/\W b σ':=by
 have j:=λb=>yE t b;by_cases a:(Av t).1=0
 ·have u:((Av t).1 !=0)=false:=nn a
  have m:V ((Av t).1=0):=a;have q:Z t<=600:=by
   by_cases A:600<Z t
   ·rw[Av]at a;rw[if_pos A]at a;simp at a
   omega
  clear a;refine wl func20 ?_
  repeat' first|refine Z1 ?_|refine Z8 λyb ya=>?_|refine Z4 ?_;clear ya yb|refine Z2 ?_ ?_<;>intro h z<;>try exact Xp|(refine Z5 ?_;first|(refine Xi (j _) ?_;rintro _ _ ⟨d,D,v,c,C,o,rfl,i,e⟩;(have x:=i.B;obtain⟨N,l,f,g,rfl,rfl,rfl,B,n⟩:=e m.o;have k:=λb=>sO N l o d c g (j6 L f g n) b;have p:V (Bj (Bl t)=Bj l):=(by rw[V,(Ep L f).2.1]);generalize Bj l=F at k p;clear f e B n g))|(refine Xi (k _) ?_;rintro _ _ ⟨rfl,E⟩))|refine Z7 ?_|exact Zt|apply ya.o;clear ya yb
  refine⟨_,rfl,?_,Xs⟩;rw[q8,if_pos m.o,p.o]
 have u:((Av t).1 !=0):=nn a;have s:q8 t=([],(Av t).1):=by rw[q8];rw[if_neg a]
 have y:V _:=s;clear a s;refine wl func20 ?_
 repeat' first|refine Z1 ?_|refine Z8 λyb ya=>?_|refine Z4 ?_;clear ya yb|refine Z2 ?_ ?_<;>intro h z<;>try exact Xp|refine Z5 ?_;refine Xi (j _) ?_;rintro _ _ ⟨d,D,v,c,C,o,rfl,i,e⟩;(have x:=i.B;clear e)|refine Z7 ?_|exact Zt|apply ya.o;clear ya yb
 exact⟨_,rfl,by rw[y.o],Xs⟩
def py (N:ol)(cc:Nat->Int)(a:AE):Int:=if a.nt=true then cc (N.idxOf a.B)+1 else cc (N.idxOf a.B)
def qb (N:ol)(cc:Nat->Int)(m:Int)(a:AE):Int:=if m<py N cc a then py N cc a else m
def o8 (N:ol)(cc:Nat->Int)(a:oq):Int:=a.foldl (qb N cc) 0
def Abl (N cc b a):o8 N cc (b++[a])=qb N cc (o8 N cc b) a:=by simp[o8]
def u6 {N cc B}(h:∀i,0<=cc i/\cc i<=B)(j:0<=B)(b):0<=o8 N cc b/\o8 N cc b<=B+1:=by
 have:∀(b:oq) (m:Int),0<=m->m<=B+1->0<=b.foldl (qb N cc) m/\b.foldl (qb N cc) m<=B+1:=by
  intro b;induction b with
  |nil=>intro m c d;exact⟨c,d⟩
  |cons a b e=>
   intro m c d;have f:=h (N.idxOf a.B);have g:0<=py N cc a/\py N cc a<=B+1:=by grind[py]
   have:0<=qb N cc m a/\qb N cc m a<=B+1:=by grind[qb]
   exact e _ this.1 this.2
 exact this b 0 L L
def yk (N x c cc oc)(D:PI N x c)(T:Z x.A<=1000)(f:∀i,0<=cc i/\cc i<=1000000)(j)(p:j.C oc=Pe (Z N) cc)(t:oc<j.B):
  ni 136 [ag c,fx oc 0 (Z N)] j λE σ'=>E=Y (o8 N cc x.A)/\W j σ':=by
 obtain⟨K,a2,id,b,A,rfl⟩:=D;have S:=r.length Eh A;have a0:=Zb (Z N) cc;refine wl func136 ?_;refine X ?_
 refine Ae (λm s σ'=>∃i:Nat,m=Z x.A-i/\i<=Z x.A/\s 1=fx oc 0 (Z N)/\s 5=Y (o8 N cc (x.A.take i))/\s 10=sl id (Z x.A) b/\s 11=Y (Z x.A)/\s 12=Y i/\W j σ') (Z x.A)
  ⟨0,L,L,rfl,rfl,rfl,rfl,rfl,Xs⟩ ?_
 rintro m s σ' ⟨i,rfl,U,Q,z,a3,I,M,d⟩;have P:=d.B;have a4:σ'.C oc=Pe (Z N) cc:=by rw[d.C _ t];exact p
 by_cases C:i<Z x.A;obtain⟨a,n⟩:=gq C;obtain⟨u,a1,E,l⟩:=Pu A n;have y:=CS u;have v:=N0 cc y;have G:=f (N.idxOf a.B);have k:V (o8 N cc (x.A.take (i+1))=qb N cc (o8 N cc (x.A.take i)) a):=by
  rw[V,AT,n,BN,Abl]
 have q:V (py N cc a=if a.nt=true then cc (N.idxOf a.B)+1 else cc (N.idxOf a.B)):=rfl;have F:=u6 (N:=N) f nr (x.A.take i);clear n f;generalize cc (N.idxOf a.B)=B at v G q;generalize N.idxOf a.B=R at l y v;generalize o8 N cc (x.A.take i)=lm at z k F;cases e:a.nt
 ·rw[e]at l;have g:V (py N cc a=B):=by rw[V,q.o,if_neg (by rw[e];simp)]
  refine m6 ?_ ?_<;>intro h o;refine⟨Z x.A-(i+1),L,i+1,rfl,L,?_,nk,(d.new _).put d.B _⟩;rw[k.o,qb,g.o,if_pos (nn h)];refine⟨Z x.A-(i+1),L,i+1,rfl,L,?_,nk,(d.new _).put d.B _⟩;rw[k.o,qb,g.o,if_neg (nn h)]
 rw[e]at l;have g:V (py N cc a=B+1):=by rw[V,q.o,if_pos e]
 refine m6 ?_ ?_<;>intro h o;refine⟨Z x.A-(i+1),L,i+1,rfl,L,?_,nk,(d.new _).put d.B _⟩;rw[k.o,qb,g.o,if_pos (nn h)];refine⟨Z x.A-(i+1),L,i+1,rfl,L,?_,nk,(d.new _).put d.B _⟩;rw[k.o,qb,g.o,if_neg (nn h)]
 obtain rfl:i=Z x.A:=L;rw[AS]at z;refine X ?_
 exact⟨_,rfl,rfl⟩
def pu (N:ol)(cc:Nat->Int)(x:AB):Nat->Int:=λj=>if j=N.idxOf x.h.B/\cc (N.idxOf x.h.B)<o8 N cc x.A then o8 N cc x.A else cc j
def Ava (N:ol)(l:n0)(cc:Nat->Int):Nat->Int:=l.foldl (pu N) cc
def L7 (N:ol)(l:n0):Nat->Nat->Int
 |0=>λ_=>0
 |k+1=>Ava N l (L7 N l k)
def E_ (cc:Nat->Int)(B:Int):Prop:=∀i,0<=cc i/\cc i<=B
def Ajh {N cc B}(h:E_ cc B)(a:0<=B)(x):E_ (pu N cc x) (B+1):=by intro i;have b:=h i;have c:=u6 (N:=N) h a x.A;rw[pu];split<;>omega
def Ajg {N cc x}(h:cc (N.idxOf x.h.B)<o8 N cc x.A):(λj=>if j=N.idxOf x.h.B then o8 N cc x.A else cc j)=pu N cc x:=by grind[pu]
def Adx {N cc x}(h:¬cc (N.idxOf x.h.B)<o8 N cc x.A):pu N cc x=cc:=by grind[pu]
def wj (N l cs idn f)(q:Bk N l cs)(c):ni 83 [Cq N idn l f cs] c λb σ'=>∃o,b=fx o 0 (Z N)/\σ'.C o=Pe (Z N) (L7 N l (Z l))/\c.B<=o/\o<σ'.B/\W c σ':=by
 have a9:=r.length Ew q.el;have az:=q.len;have hN:=q.nm;refine wl func83 ?_;refine X ?_
 refine wn [1,3] 4 (Z l) (λb s σ'=>∃a:Nat->Int,W c σ'/\c.B+1<σ'.B/\σ'.C c.B=[lw idn N,sl f (Z l) cs]/\σ'.C (c.B+1)=Pe (Z N) a/\V (E_ a (b*16:Nat))/\V (a=L7 N l b)) ⟨λ_=>0,Xs,AM,?_,?_,λi=>nk,rfl⟩ ?_
 rw[Ah (by rw[Aa];omega),Ao];show (if c.B+1=c.B+1 then _ else _)=_;rw[if_pos rfl];exact yX _;rintro b s σ' _ ⟨n,E⟩ D ⟨a,e,p,A,d,g,k⟩;have S:=e.B;by_cases a8:b<Z l;refine X ?_
 refine wn [1,3,4,20,21] 22 (Z l) (λi s σ'=>∃a:Nat->Int,W c σ'/\c.B+1<σ'.B/\σ'.C c.B=[lw idn N,sl f (Z l) cs]/\σ'.C (c.B+1)=Pe (Z N) a/\V (E_ a (b*16+i:Nat))/\V (a=(l.take i).foldl (pu N) (L7 N l b))) ⟨a,e,p,A,d,nn g,nn k⟩ ?_
 clear e p A d g k n E D S a;rintro i s σ' _ ⟨n,_,_,_,_⟩ _ ⟨a,e,p,A,d,g,k⟩;have S:=e.B;by_cases T:i<Z l;obtain⟨x,v⟩:=gq T;have M:=q.fits x (AY v);obtain⟨F,K,id,a5,rr,U,P⟩:=Ih q.el v;have a1:V (l[i]?=some x):=v;clear v;have m:=CS F;have R:=N0 a m;have a7:=Zb (Z N) a;have I:(0:Int)<=((b*16+i:Nat):Int):=KA _;have a4:=u6 (N:=N) g.o I x.A;have a3:=g.o (N.idxOf x.h.B);have C:=λ(G:St) (n:G.C (c.B+1)=Pe (Z N) a) (a2:c.B+1<G.B)=>yk N x _ a (c.B+1) (PI.of (ih:=K) (id:=id) F U) M.1 (λj=>ny (g.o j)) G n a2;have t:V (a (N.idxOf x.h.B)<o8 N a x.A->(Pe (Z N) a).set (N.idxOf x.h.B) (Y (o8 N a x.A))=Pe (Z N) (pu N a x)):=λh=>by rw[WX,Ajg h]
 have B:V (¬a (N.idxOf x.h.B)<o8 N a x.A->pu N a x=a):=Adx;have y:=Ajh (N:=N) g.o I x;have a0:V _:=y;have Q:V ((l.take (i+1)).foldl (pu N) (L7 N l b)=pu N a x):=by
  rw[V,AT,a1.o,BN,foldl_append,<-k.o];rfl
 clear y;generalize o8 N a x.A=lm at C t B a4;generalize a (N.idxOf x.h.B)=ci at R t B a3;generalize N.idxOf x.h.B=ix at P m R C t;refine m0 ?_;intro yb ya;refine Xi (C _ (by rw[Aj L,Ah L];exact d) (by simp only[Ac,Aa];omega)) ?_;rintro _ _ ⟨rfl,u⟩;have aw:=u.C;have ai:=u.B;(try simp only[Aa,Ac,Az]at ai);refine m6 ?_ ?_<;>intro h a6;have z:=((e.new [my false,Y 0,H,H]).put e.B _).trans u;exact⟨pu N a x,z.put L _,L,t.o (nn h),λj=>ny (a0.o j),Q.o.symm⟩;have z:=((e.new [my false,Y 0,H,H]).put e.B _).trans u;have ae:=B.o (nn h);exact⟨a,z,L,rfl,λj=>ny (g.o j),by rw[V,Q.o,ae]⟩;obtain rfl:i=Z l:=L;rw[AS]at k;refine X ?_;refine⟨a,rfl,λj=>?_,k⟩;have:=g.o j;omega;obtain rfl:b=Z l:=L;refine X ?_
 first
 |exact⟨_,rfl,c.B+1,rfl,by rw[d,k.o],L,p,e⟩
 |exact⟨_,rfl,c.B+1,rfl,by rw[d,k.o],L,p⟩
def r9 (t:Tx)(n:Int)(b:Int×Int):Prop:=
 if (Av t).1≠0 then b=(0,(Av t).1)else
 ∃N l a,Cc 16 t= .got l []/\Bk N l a/\(∀x∈l,Dc x)/\
  if n<0\/(Z l:Int)<=n then b=(0,6)else∃x,l[n.toNat]?=some x/\b=(L7 N l (Z l) (N.idxOf x.h.B),0)
def ym (t n f):ni 90 [O t,Y n] f λa2 σ'=>∃p,a2=two p/\r9 t n p/\W f σ':=by
 have A:=λf=>yE t f;by_cases d:(Av t).1=0
 ·have Q:((Av t).1 !=0)=false:=nn d
  have e:V ((Av t).1=0):=d;clear d;refine wl func90 ?_
  repeat' first|refine Z1 ?_|refine Z8 λyb ya=>?_|refine Z4 ?_;clear ya yb|refine Z2 ?_ ?_<;>intro h a4<;>try exact Xp|refine Z5 ?_;refine Xi (A _) ?_;rintro _ _ ⟨j,n1,b,g,G,k,rfl,i,c⟩;(have o:=i.B;obtain⟨N,l,C,a,rfl,rfl,rfl,U,D⟩:=c e.o;have u:V _:=C;have s:V _:=D;clear C c U D)|refine Z3 ?_|exact Zt|apply ya.o;clear ya yb
  ·have y:¬n<0:=by simp_all
   have E:(Z l:Int)<=n:=nn h;refine⟨_,rfl,(0,6),rfl,?_,Xs⟩;unfold r9;rw[if_neg (by simp[e.o])];exact⟨N,l,k,u.o,a,s.o,by rw[if_pos (.inr E)]⟩
  ·rename_i a7 _ a6 T;have R:n.toNat<Z l:=L;have a3:((n.toNat:Nat):Int)=n:=Int.toNat_of_nonneg T;obtain⟨x,m⟩:=gq R;have a5:=r.length Ew a.el;have aw:=a.len;obtain⟨B,ih,id,aa,rr,c,a8⟩:=Ih a.el m;have a0:=CS B;have z:=N0 (L7 N l (Z l)) a0;have P:=Zb (Z N) (L7 N l (Z l));have K:V (l[n.toNat]?=some x):=m;have F:=λf=>wj N l k j g a f;have v:V (r9 t n (L7 N l (Z l) (N.idxOf x.h.B),0)):=by
    rw[V,r9,if_neg (by simp[e.o])];exact⟨N,l,k,u.o,a,s.o,by rw[if_neg L];exact⟨x,K.o,rfl⟩⟩
   clear m;generalize L7 N l (Z l)=S at z P F v;generalize S (N.idxOf x.h.B)=M at z v;refine mz ?_;refine Xi (F _) ?_;rintro _ _ ⟨ab,rfl,a9,I,az,q⟩;have am:=q.C;have a1:=q.B;simp only[Ac,Aa]at a1 I;refine X ?_;exact⟨_,rfl,(M,0),rfl,v.o,((i.new _).put i.B _).trans q⟩
  have y:n<0:=by simp_all
  refine⟨_,rfl,(0,6),rfl,?_,Xs⟩;unfold r9;rw[if_neg (by simp[e.o])];exact⟨N,l,k,u.o,a,s.o,by rw[if_pos (.inl y)]⟩
 have Q:((Av t).1 !=0):=nn d;have e:V (¬(Av t).1=0):=d;clear d;refine wl func90 ?_;refine mt A ?_;rintro yb ya _ _ ⟨j,n1,b,g,G,k,rfl,i,c⟩;have o:=i.B;clear c;refine X ?_;refine⟨_,rfl,(0,(Av t).1),rfl,?_,Xs⟩;unfold r9;rw[if_pos e.o]
def sq (f:Nat->Bool)(l:n0)(p:Tx)(i:Nat):Bool:=match l[i]? with|some x=>P3 p x&&f i|none=>false
def pv (f:Nat->Bool)(l:n0)(p:Tx):Bool:=(range (Z l)).any (sq f l p)
def wk (l cs a f p)(q:r AJ l cs)(D:Z l<=16)(d):ni 172 [sl a (Z l) cs,ag (Iq 16 f),O p] d λm σ'=>m=my (pv f l p)/\W d σ':=by
 have A:=r.length Cf q;have B:=E0 16 f;refine wl func172 ?_;refine X ?_
 refine wn [0,2,4] 7 (Z l) (λi s σ'=>σ'=d.new (Iq 16 f)/\V (∀j,j<i->sq f l p j=false)) ⟨rfl,λj k=>L⟩ ?_
 rintro i s σ' _ _ _ ⟨rfl,o⟩;by_cases g:i<Z l
 ·obtain⟨x,c⟩:=gq g;obtain⟨C,id,b,m,u,t⟩:=Cv q c;have e:V (sq f l p i=(P3 p x&&f i)):=by rw[V,sq,c]
  clear c;have v:=Hh f (show i<16 by omega)
  repeat' first|refine Z1 ?_|refine Z8 λyb ya=>?_|refine Z4 ?_;clear ya yb|refine Z2 ?_ ?_<;>intro h n<;>try exact Xp|refine Z3 ?_|exact Zt|apply ya.o;clear ya yb
  ·refine⟨_,rfl,?_,Xs⟩;have:pv f l p:=by rw[pv,CU];exact⟨i,nn g,by rw[e.o];simp only[P3];simp[*]⟩
   rw[this]
  all_goals
   apply Ot o.o;rw[e.o];simp only[P3];simp[*]
 obtain rfl:i=Z l:=L;refine X ?_;refine⟨_,rfl,?_,Xs⟩;have:pv f l p=false:=by rw[pv,EV];intro j k;have:=o.o j (nn k);simp[this]
 rw[this]
def zr (l:n0)(p q:Tx):Prop:=p=q\/Way (Gs l) p q
def zr.trans {l p q a}(h:zr l p q)(k:zr l q a):zr l p a:=by obtain rfl|h:=h;exact k;obtain rfl|k:=k;exact .inr h;exact .inr (h.join k)
def ou (l:n0):Nat->Tx->Prop
 |0,_=>True
 |k+1,p=>∃x∈l,zr l p x.h.B/\∃a∈x.A,a.nt/\ou l k a.B
def tt {l k p q}(h:zr l p q)(c:ou l k q):ou l k p:=by
 cases k with
 |zero=>trivial
 |succ k=>
  let⟨x,a,b,d⟩:=c;exact⟨x,a,h.trans b,d⟩
def Aqm {l}:∀(k:Nat) (p:Tx),ou l (k+1) p->ou l k p
 |0,p,_=>trivial
 |k+1,p,⟨x,f,e,a,c,b,d⟩=>⟨x,f,e,a,c,b,Aqm k a.B d⟩
def Aur {l p m}:∀(d:Nat),ou l (m+d) p->ou l m p
 |0,h=>h
 |d+1,h=>Aur d (Aqm _ _ h)
def td {α:Type}[BEq α][LawfulBEq α]:∀(a b:List α),a.Nodup->(∀x∈a,x∈b)->Z a<=Z b
 |[],b,_,_=>Nat.zero_le _
 |x::a,b,j,c=>by have d:=c x nk;have f:=nodup_cons.1 j;have i:=td a (b.erase x) f.2 λy g=>(mem_erase_of_ne (λe=>f.1 (gp))).2 (c y (ns g));grind
def Υ (l:n0):Prop:=∀x∈l,∀a∈x.A,a.nt->¬zr l a.B x.h.B
def Ac5 {l}(i:Υ l):∀(k:Nat) (p:Tx),ou l k p->∃b:ol,Z b=k/\b.Nodup/\∀q∈b,q∈l.map (·.h.B)/\zr l p q
 |0,p,_=>⟨[],rfl,GN,λq h=>gp⟩
 |k+1,p,⟨x,d,f,a,g,m,n⟩=>by let⟨b,j,s,e⟩:=Ac5 i k a.B n;refine⟨x.h.B::b,ns j,nodup_cons.2 ⟨λo=>i x d a g m (e _ o).2,s⟩,λq c=>?_⟩;obtain rfl|c:=BD.1 c;exact⟨AN.2 ⟨x,d,rfl⟩,f⟩;exact⟨(e q c).1,f.trans (zr.trans (.inr (.one ⟨x,d,rfl,a,g,rfl⟩)) (e q c).2)⟩
def Ac6 {l}(e:Υ l){k p}(h:ou l k p):k<=Z l:=by let⟨a,f,b,c⟩:=Ac5 e k p h;have:=td a (l.map (·.h.B)) b λq d=>(c q d).1;grind
def ω (l:n0)(f:Nat->Bool)(b:Bool)(x:AB):Bool:=x.A.any λa=>a.nt&&(b&&!F7 l a.B||pv f l a.B)
def φ (l:n0)(f:Nat->Bool)(a:Bool)(j:Nat):Bool:=match l[j]? with|some x=>ω l f a x|none=>false
def te (l:n0)(f:Nat->Bool)(a:Bool)(i:Nat):Bool:=(range (Z l)).any λj=>φ l f a j&&(i==j||aK l i j)
def qc (l:n0):Nat->Nat->Bool
 |0=>λi=>decide (i<Z l)
 |k+1=>te l (qc l k) (k==0)
def ruled_iff {l p}:F7 l p↔∃x∈l,x.o=false/\x.h.B=p:=by simp_all[F7,P3,CU]
def S_ {l f p}:pv f l p↔∃i x,l[i]?=some x/\x.o=false/\x.h.B=p/\f i:=by rw[pv];rw[CU];constructor;rintro⟨i,e,h⟩;rw[sq]at h;split at h;rename_i x a;simp[P3]at h;exact⟨i,x,a,h.1.1,h.1.2,h.2⟩;cases h;rintro⟨i,x,a,b,c,d⟩;refine⟨i,nn ((BA.1 a).1),?_⟩;rw[sq];rw[a];simp[P3,b,c,d]
def F_ {l f b x}:ω l f b x↔∃a∈x.A,a.nt/\((b=true/\F7 l a.B=false)\/pv f l a.B):=by rw[ω];rw[CU];simp
def Γ {l f c i}:te l f c i↔∃j y,l[j]?=some y/\ω l f c y/\(i=j\/Way (λa b=>Ny l a b) i j):=by rw[te];rw[CU];constructor;rintro⟨j,k,h⟩;simp only[BM,LF,DO]at h;let⟨d,g⟩:=h;rw[φ]at d;split at d;rename_i y e;exact⟨j,y,e,d,by grind[iY]⟩;cases d;rintro⟨j,y,e,d,g⟩;refine⟨j,nn ((BA.1 e).1),?_⟩;simp only[BM,LF,DO];refine⟨?_,by grind[iY]⟩;rw[φ];exact e▸d
def sd {l:n0}(c:∀x∈l,x.o->x.A=[]){x}(d:x∈l){a}(b:a∈x.A):x.o=false:=gp
def Akm {l p}(h:F7 l p):pv (qc l 0) l p:=by let⟨x,c,b,d⟩:=ruled_iff.1 h;let⟨i,a⟩:=CL c;exact S_.2 ⟨i,x,a,b,d,by grind[qc]⟩
theorem u7 {l}(q:∀x∈l,x.o->x.A=[]):∀(k:Nat) (p:Tx),pv (qc l (k+1)) l p↔ou l (k+1) p:=by
 intro k;induction k with
 |zero=>
  intro p;rw[S_];constructor;rintro⟨i,x,A,G,rfl,E⟩;let⟨j,y,d,o,f⟩:=Γ.1 E;obtain⟨a,m,M,-⟩:=F_.1 o;refine⟨y,AY d,?_,a,m,M,trivial⟩;obtain rfl|f:=f;rw[A]at d;cases d;exact .inl rfl;obtain⟨v,N,c,B,-,f⟩:=wL f;rw[A]at c;cases c;rw[d]at B;cases B;exact .inr f;rintro⟨y,d,C,a,m,M,-⟩;let⟨j,n⟩:=CL d;have z:=sd q d m
  have o:=F_.2 ⟨a,m,M,by
   cases P:F7 l a.B
   ·exact .inl ⟨rfl,rfl⟩
   exact .inr (Akm P)⟩
  obtain rfl|f:=C;exact⟨j,y,n,z,rfl,Γ.2 ⟨j,y,n,o,.inl rfl⟩⟩;let⟨i,x,g,D,u⟩:=wM q f j y n z rfl;refine⟨i,x,g,?_,D,Γ.2 ⟨j,y,n,o,.inr u⟩⟩;cases u with
  |one e=>let⟨v,_,c,_,_,b,s,_⟩:=CO.1 e;rw[g]at c;cases c;exact sd q (AY g) s
  |more e _=>let⟨v,_,c,_,_,b,s,_⟩:=CO.1 e;rw[g]at c;cases c;exact sd q (AY g) s
 |succ k F=>
  intro p;rw[S_];constructor;rintro⟨i,x,A,G,rfl,E⟩;let⟨j,y,d,o,f⟩:=Γ.1 E;let⟨a,m,M,t⟩:=F_.1 o;have I:ou l (k+1) a.B:=gp
  refine⟨y,AY d,?_,a,m,M,I⟩;obtain rfl|f:=f;rw[A]at d;cases d;exact .inl rfl;obtain⟨v,N,c,B,-,f⟩:=wL f;rw[A]at c;cases c;rw[d]at B;cases B;exact .inr f;rintro⟨y,d,C,a,m,M,K⟩;let⟨j,n⟩:=CL d;have z:=sd q d m;have o:ω l (qc l (k+1)) (k+1==0) y:=F_.2 ⟨a,m,M,.inr ((F a.B).2 K)⟩;obtain rfl|f:=C;exact⟨j,y,n,z,rfl,Γ.2 ⟨j,y,n,o,.inl rfl⟩⟩;let⟨i,x,g,D,u⟩:=wM q f j y n z rfl;refine⟨i,x,g,?_,D,Γ.2 ⟨j,y,n,o,.inr u⟩⟩;cases u with
  |one e=>let⟨v,_,c,_,_,b,s,_⟩:=CO.1 e;rw[g]at c;cases c;exact sd q (AY g) s
  |more e _=>let⟨v,_,c,_,_,b,s,_⟩:=CO.1 e;rw[g]at c;cases c;exact sd q (AY g) s
def ov (l:n0)(p:Tx):Nat:=match (range 16).find? (λk=>!pv (qc l (k+1)) l p)with|some k=>k|none=>16
def se {l}(b:∀x∈l,x.o->x.A=[])(g:Υ l)(j:Z l<=16)(p k):ou l k p↔k<=ov l p:=by
 rw[ov];split;rename_i d a;rw[find?_range_eq_some]at a;let⟨c,n,f⟩:=a;have e:¬ou l (d+1) p:=by grind[u7]
 constructor;intro h;obtain i|o:=FT d k;cases e (Aur (m:=d+1) (k-(d+1)) (gp));exact o;intro h;cases k with
 |zero=>trivial
 |succ k=>
  have:=f k L;rw[<-u7 b];simpa using this
 rename_i a;constructor;intro h;have:=Ac6 g h;omega;intro h;cases k with
 |zero=>trivial
 |succ k=>
  rw[KB]at a;have:=a k (gp);rw[<-u7 b];simpa using this
def sg {N cc}:∀(c:oq) (m:Int),m<=c.foldl (qb N cc) m/\(∀a∈c,py N cc a<=c.foldl (qb N cc) m)/\(∀k:Int,k<=c.foldl (qb N cc) m->k<=m\/∃a∈c,k<=py N cc a)
 |[],m=>⟨Int.le_refl _,(λa h=>gp),λk h=>.inl h⟩
 |b::c,m=>by
  let⟨l,i,j⟩:=sg (N:=N) (cc:=cc) c (qb N cc m b);have g:m<=qb N cc m b/\py N cc b<=qb N cc m b/\(qb N cc m b=m\/qb N cc m b=py N cc b):=by grind[qb]
  rw[FW];refine⟨L,λa d=>?_,λk f=>?_⟩;obtain rfl|d:=BD.1 d;omega;exact i a d;obtain h|⟨a,d,h⟩:=j k f;obtain e|e:=g.2.2;exact .inl L;exact .inr ⟨b,nk,L⟩;exact .inr ⟨a,ns d,h⟩
def Ala {N cc b}(h:∀j,cc j<=b j)(a):py N cc a<=py N b a:=by grind[py]
def Abm {N cc c}(h:∀j,cc j<=c j)(b):o8 N cc b<=o8 N c b:=by let⟨d,e,l⟩:=sg (N:=N) (cc:=c) b 0;let⟨k,i,f⟩:=sg (N:=N) (cc:=cc) b 0;obtain g|⟨a,m,g⟩:=f _ (Int.le_refl _);exact Int.le_trans g d;exact Int.le_trans g (Int.le_trans (Ala h a) (e a m))
def wq {N}(cc x j):cc j<=pu N cc x j:=by grind[pu]
def Amy {N}(cc x):o8 N cc x.A<=pu N cc x (N.idxOf x.h.B):=by grind[pu]
def tu {N}:∀(l:n0) (cc:Nat->Int) (j:Nat),cc j<=l.foldl (pu N) cc j
 |[],cc,j=>Int.le_refl _
 |x::l,cc,j=>Int.le_trans (wq cc x j) (tu l _ j)
def tz {N}:∀(l:n0) (cc a:Nat->Int),(∀j,cc j<=a j)->∀x∈l,o8 N cc x.A<=l.foldl (pu N) a (N.idxOf x.h.B)
 |y::l,cc,a,h,x,b=>by rw[FW];obtain rfl|b:=BD.1 b;exact Int.le_trans (Abm h _) (Int.le_trans (Amy a x) (tu l _ _));exact tz l cc _ (λj=>Int.le_trans (h j) (wq a y j)) x b
def t7 {N l}:∀(n:Nat) (j:Nat),0<=L7 N l n j
 |0,j=>Int.le_refl _
 |n+1,j=>Int.le_trans (t7 n j) (tu l _ j)
def ε (N:ol)(l:n0)(cc:Nat->Int):Prop:=∀p∈N,∀k:Nat,(k:Int)<=cc (N.idxOf p)->ou l k p
def ε.step {N l}(i:∀x∈l,x.h.B∈N/\∀a∈x.A,a.B∈N){cc}(h:ε N l cc){x}(d:x∈l):ε N l (pu N cc x):=by
 intro p f k c;rw[pu]at c;split at c;rename_i j;obtain rfl:p=x.h.B:=E9 f (i x d).1 j.1;cases k with
 |zero=>trivial
 |succ k=>
  rcases (sg (N:=N) (cc:=cc) x.A 0).2.2 _ c with b|⟨a,ha,b⟩;omega;have g:=(i x d).2 a ha;unfold py at b;cases e:a.nt
  ·rw[if_neg (gp)]at b;exact tt (.inr (.one ⟨x,d,rfl,a,ha,rfl⟩)) (h a.B g (k+1) b)
  rw[if_pos e]at b;exact⟨x,d,.inl rfl,a,ha,e,h a.B g k L⟩
 exact h p f k c
def ε.round {N l}(c:∀x∈l,x.h.B∈N/\∀a∈x.A,a.B∈N):∀(m:n0) (cc:Nat->Int),(∀x∈m,x∈l)->ε N l cc->ε N l (m.foldl (pu N) cc)
 |[],cc,_,h=>h
 |x::m,cc,b,h=>ε.round c m _ (λy d=>b y (ns d)) (h.step c (b x nk))
def wt {N l}(b:∀x∈l,x.h.B∈N/\∀a∈x.A,a.B∈N):∀n,ε N l (L7 N l n)
 |0=>λp _ k c=>by
  have:k=0:=by
   have d:(k:Int)<=0:=c;omega
  subst this;trivial
 |n+1=>ε.round b l _ (λ_ h=>h) (wt b n)
def Ais {l k p}(h:ou l (k+1) p):∃x∈l,x.h.B=p:=by
 obtain⟨x,c,d,-⟩:=h;obtain rfl|f:=d;exact⟨x,c,rfl⟩;cases f with
 |one e=>obtain⟨y,b,a,-⟩:=e;exact⟨y,b,a⟩
 |more e _=>obtain⟨y,b,a,-⟩:=e;exact⟨y,b,a⟩
def wu {α:Type}{P Q}:∀(l:List α),(∀x∈l,Q x->P x)->Z (l.filter Q)<=Z (l.filter P)/\((∃x∈l,P x/\Q x=false)->Z (l.filter Q)<Z (l.filter P))
 |[],_=>⟨AU _,λ⟨x,h,_⟩=>by cases h⟩
 |x::l,h=>by
  let⟨f,d⟩:=wu l λy a=>h y (ns a);grind
def Abk {α:Type}(f:α->Nat):∀(l:List α),l≠[]->∃x∈l,∀y∈l,f x<=f y
 |[],h=>absurd rfl h
 |[x],_=>⟨x,nk,nk⟩
 |x::y::l,_=>by
  let⟨z,c,b⟩:=Abk f (y::l) nk;grind
section
variable {N:ol} {l:n0} (D:Tx->Nat)
theorem An7 (B:∀p k,ou l k p↔k<=D p)(n k z)(A:z∈l)(a)(G:a∈z.A)(I:a.nt)(M:D z.h.B=k+1)(Lqx:(k:Int)<=L7 N l n (N.idxOf a.B)):
  ∀p,Way (Gs l) p z.h.B->D p=k+1->L7 N l n (N.idxOf p)<D p->(∃x∈l,x.h.B=p)->∃y∈l,L7 N l n (N.idxOf y.h.B)<D y.h.B/\(D y.h.B:Int)<=L7 N l (n+1) (N.idxOf y.h.B):=by
 have Q:(D z.h.B:Int)<=L7 N l (n+1) (N.idxOf z.h.B):=by
  have c:=tz (N:=N) l (L7 N l n) (L7 N l n) (λj=>Int.le_refl _) z A;have t:=(sg (N:=N) (cc:=L7 N l n) z.A 0).2.1 a G;have K:py N (L7 N l n) a=L7 N l n (N.idxOf a.B)+1:=by grind[py]
  have v:o8 N (L7 N l n) z.A<=L7 N l (n+1) (N.idxOf z.h.B):=c;rw[o8]at v;omega
 have C:∀u∈l,∀b∈u.A,L7 N l n (N.idxOf b.B)<=L7 N l (n+1) (N.idxOf u.h.B):=by
  intro u d b g;have c:=tz (N:=N) l (L7 N l n) (L7 N l n) (λj=>Int.le_refl _) u d;have t:=(sg (N:=N) (cc:=L7 N l n) u.A 0).2.1 b g;have K:L7 N l n (N.idxOf b.B)<=py N (L7 N l n) b:=by grind[py]
  have v:o8 N (L7 N l n) u.A<=L7 N l (n+1) (N.idxOf u.h.B):=c;rw[o8]at v;omega
 have f:∀p q,zr l p q->D q<=D p:=λp q h=>(B p _).1 (tt h ((B q _).2 (AU _)));intro p i;generalize m:z.h.B=zp at i;induction i with
 |one e=>
  intro F s _;obtain⟨u,d,rfl,b,g,rfl⟩:=e;obtain h|h:=Int.lt_or_le (L7 N l n (N.idxOf b.B)) (D b.B);exact⟨z,A,m▸h,Q⟩;refine⟨u,d,s,?_⟩;have:=C u d b g;rw[<-m]at this h;omega
 |more e i P=>
  rename_i p q R;intro F s _;obtain⟨u,d,rfl,b,g,rfl⟩:=e;have E:D b.B=k+1:=by have c:=f u.h.B b.B (.inr (.one ⟨u,d,rfl,b,g,rfl⟩));have t:=f b.B R (.inr i);grind
  obtain h|h:=Int.lt_or_le (L7 N l n (N.idxOf b.B)) (D b.B);apply P m E h;cases i with
  |one e=>obtain⟨y,o,c,-⟩:=e;exact⟨y,o,c⟩
  |more e _=>obtain⟨y,o,c,-⟩:=e;exact⟨y,o,c⟩
  refine⟨u,d,s,?_⟩;have:=C u d b g;omega
theorem wv (b:∀p k,ou l k p↔k<=D p):∀n,Z (l.filter λx=>decide (L7 N l n (N.idxOf x.h.B)<D x.h.B))<=Z l-n
 |0=>nn (IS _ l)
 |n+1=>by
  have a1:=wv b n;have G:∀x∈l,decide (L7 N l (n+1) (N.idxOf x.h.B)<D x.h.B)->decide (L7 N l n (N.idxOf x.h.B)<D x.h.B):=by
   intro x _ h;have:=tu (N:=N) l (L7 N l n) (N.idxOf x.h.B);have a3:L7 N l (n+1) (N.idxOf x.h.B)<D x.h.B:=nn h;have t:L7 N l (n+1) (N.idxOf x.h.B)=l.foldl (pu N) (L7 N l n) (N.idxOf x.h.B):=rfl;grind
  let⟨v,C⟩:=wu l G;by_cases o:(l.filter λx=>decide (L7 N l n (N.idxOf x.h.B)<D x.h.B))=[];rw[o]at v;simp only[CQ]at v;omega;let⟨x,Q,B⟩:=Abk (λx=>D x.h.B) _ o;let⟨q,F⟩:=BP.1 Q;have j:L7 N l n (N.idxOf x.h.B)<D x.h.B:=nn F;have P:=t7 (N:=N) (l:=l) n (N.idxOf x.h.B);let⟨k,i⟩:∃k,D x.h.B=k+1:=⟨D x.h.B-1,L⟩;have R:=(b x.h.B (k+1)).2 L;let⟨z,d,c,a,f,g,s⟩:=R;have T:D z.h.B<=k+1:=by exact i▸(b _ _).1 (tt c ((b _ _).2 (AU _)))
  have a2:D a.B+1<=D z.h.B:=(b _ _).1 ⟨z,d,.inl rfl,a,f,g,(b _ _).2 (AU _)⟩;have U:=(b _ _).1 s;have E:(k:Int)<=L7 N l n (N.idxOf a.B):=by
   cases k with
   |zero=>exact t7 n _
   |succ k=>
    let⟨y,e,u⟩:=Ais s;obtain h|h:=Int.lt_or_le (L7 N l n (N.idxOf a.B)) ((k+1:Nat):Int);exfalso;have:=B y (BP.2 ⟨e,gp⟩);have t:D x.h.B<=D a.B:=u▸this
    omega;exact h
  have m:∃y∈l,L7 N l n (N.idxOf y.h.B)<D y.h.B/\(D y.h.B:Int)<=L7 N l (n+1) (N.idxOf y.h.B):=by
   obtain c|S:=c;refine⟨x,q,j,?_⟩;have A:=tz (N:=N) l (L7 N l n) (L7 N l n) (λa4=>Int.le_refl _) z d;have t:=(sg (N:=N) (cc:=L7 N l n) z.A 0).2.1 a f;have M:py N (L7 N l n) a=L7 N l n (N.idxOf a.B)+1:=by grind[py]
   have I:o8 N (L7 N l n) z.A<=L7 N l (n+1) (N.idxOf z.h.B):=A;rw[o8]at I;rw[c]at i⊢;omega;exact An7 D b n k z d a f g L E _ S i j ⟨x,q,rfl⟩
  let⟨y,e,K,a0⟩:=m;have:=C ⟨y,e,nn K,gp⟩;omega
theorem yo (g:∀x∈l,x.h.B∈N/\∀a∈x.A,a.B∈N)(b:∀p k,ou l k p↔k<=D p){p}(d:p∈N):L7 N l (Z l) (N.idxOf p)=D p:=by have m:=t7 (N:=N) (l:=l) (Z l) (N.idxOf p);have i:=(b p _).1 (wt g (Z l) p d (L7 N l (Z l) (N.idxOf p)).toNat L);obtain f|f:=Nat.eq_zero_or_pos (D p);omega;let⟨k,j⟩:∃k,D p=k+1:=⟨D p-1,L⟩;obtain⟨x,e,rfl⟩:=Ais ((b p (k+1)).2 L);have n:=wv (N:=N) D b (Z l);have c:(l.filter λx=>decide (L7 N l (Z l) (N.idxOf x.h.B)<D x.h.B))=[]:=GG L;rw[filter_eq_nil_iff]at c;have:=c x e;simp only[CV]at this;omega
end
def u9 {l}(e:∀x∈l,x.o->x.A=[])(h:∀i,i<Z l->Hd l i=false):Υ l:=by intro x d a f j b;let⟨i,g⟩:=CL d;have c:=h i (BA.1 g).1;rw[Hd]at c;rw[g]at c;have:=EV.1 c a f;apply this;rw[zH];rw[j];simp only[FV,LF,DO];obtain b|b:=b;exact .inl b;exact .inr ((Ks e ⟨x,d,sd e d f,rfl⟩).2 b)
def wz {N l}(d:Z l<=16)(b:∀x∈l,x.o->x.A=[])(e:∀x∈l,x.h.B∈N/\∀a∈x.A,a.B∈N)(h:∀i,i<Z l->Hd l i=false){p}(c:p∈N):L7 N l (Z l) (N.idxOf p)=ov l p:=
 yo (ov l) e (λq k=>se b (u9 b h) d q k) c
def Δ (l:n0)(f:Nat->Bool)(b:Bool)(a:AE):Bool:=a.nt&&(b&&!F7 l a.B||pv f l a.B)
def A_ (l:n0)(f:Nat->Bool)(a:Bool)(i j:Nat):Bool:=φ l f a j&&(i==j||aK l i j)
def zf (l:n0)(f:Nat->Bool)(a:Bool)(j:Nat)(i:Nat):Bool:=(range j).any (A_ l f a i)
def Ao0 (l f a j i):zf l f a (j+1) i=(zf l f a j i||A_ l f a i j):=by grind[zf]
def Asw (l f a):zf l f a (Z l)=te l f a:=rfl
theorem Aib {l f a j i}(m:j<=Z l)(g:Z l<=i):zf l f a j i=false:=by
 rw[zf];rw[EV];intro k c;rw[mem_range]at c;rw[A_];have b:(i==k)=false:=gp
 have d:aK l i k=false:=by
  cases h:aK l i k
  ·rfl
  obtain⟨x,y,e,-⟩:=wL ((iY l i k).1 h);grind
 rw[b,d];simp
def zd (l:n0)(f:Nat->Bool)(b:Bool)(j i:Nat):Nat->Bool:=λa=>if a<i then zf l f b (j+1) a else zf l f b j a
def Ao1 (l f b j):zd l f b j 0=zf l f b j:=by grind[zd]
def Asy {l f b j}(c:j<Z l):zd l f b j (Z l)=zf l f b (j+1):=by grind[zd,Aib]
def Asx {l f b j i v}(c:v=(zf l f b j i||A_ l f b i j)):(Iq 16 (zd l f b j i)).set i (my v)=Iq 16 (zd l f b j (i+1)):=by rw[Ze];congr 1;funext a;unfold zd;by_cases e:a=i;subst e;rw[if_pos rfl,if_pos L,Ao0,c];grind
def Ab1 (l cs o f c)(R:r AJ l cs)(hl:Z l<=16)(hf:∀x∈l,x.fits)(I):ni 171 [sl o (Z l) cs,ag (Gr (aK l)),ag (Iq 16 f),my c] I λa9 d=>a9=ag (Iq 16 (te l f c))/\W I d:=by
 have bn:=r.length Cf R;have bf:=Ia;have bg:=λg=>E0 16 g;have bh:∀g,take 16 (Iq 16 g)=Iq 16 g:=λg=>FZ (by rw[E0];exact AU _);have bi:∀g h,lsp (Iq 16 g) 0 (Iq 16 h)=Iq 16 h:=λg h=>I8 (by rw[E0,E0]);have bm:∀g,(Iq 16 g).all flat:=λg=>by simp[Iq,flat,Value.oneCell']
 refine wl func171 ?_;refine X ?_
 refine Ae (λm s d=>∃j:Nat,m=Z l-j/\j<=Z l/\s 0=sl o (Z l) cs/\s 3=my c/\s 5=ptr I.B 0/\s 6=ptr (I.B+1) 0/\s 8=ptr (I.B+2) 0/\s 9=ptr (I.B+3) 0/\s 10=Y j/\W I d/\I.B+3<d.B/\d.C I.B=Gr (aK l)/\d.C (I.B+1)=Iq 16 f/\d.C (I.B+2)=Iq 16 (λ_=>false)/\d.C (I.B+3)=Iq 16 (zf l f c j)) (Z l)
  ⟨0,L,L,by simp[upd,AL],by simp[upd,AL],AG,AG,AG,AG,rfl,Xs,AM,?_,?_,?_,?_⟩ ?_
 ·rw[Ah AM,Ah AM,Ah AM,Ao]
 ·rw[Ah AM,Ah AM,Be AM AM]
 ·rw[Ah AM,Be AM AM];exact fA 16
 ·rw[Be AM AM];exact fA 16
 rintro m s d ⟨j,rfl,hj,E,y,b,T,C,F,D,e,K,B,M,G,u⟩;have Q:=e.B;by_cases a1:j<Z l
 ·have q:=AK a1;have bb:=(hf l[j] (AR a1)).1;let⟨ih,id,ab,a9,a0,hd⟩:=Cv R q;have a3:V (φ l f c j=l[j].A.any (Δ l f c)):=by rw[V,φ,q];rfl
  generalize l[j]=x at hd q bb a0 a3;clear q;have bo:=r.length A7 a0;refine X ?_
  refine Ae (λm s d=>∃n:Nat,m=Z x.A-n/\n<=Z x.A/\s 0=sl o (Z l) cs/\s 3=my c/\s 5=ptr I.B 0/\s 6=ptr (I.B+1) 0/\s 8=ptr (I.B+2) 0/\s 9=ptr (I.B+3) 0/\s 10=Y j/\s 11=my ((x.A.take n).any (Δ l f c))/\s 12=Y n/\W I d/\I.B+3<d.B/\d.C I.B=Gr (aK l)/\d.C (I.B+1)=Iq 16 f/\d.C (I.B+2)=Iq 16 (λ_=>false)/\d.C (I.B+3)=Iq 16 (zf l f c j)) (Z x.A)
   ⟨0,L,L,by simp[upd,E],by simp[upd,y],by simp[upd,b],by simp[upd,T],by simp[upd,C],by simp[upd,F],by simp[upd,D],AG,rfl,e,K,B,M,G,u⟩ ?_
  clear E y b T C F D e K B M G u Q;rintro m s d ⟨n,rfl,hn,E,y,b,T,C,F,D,z,be,e,K,B,M,G,u⟩;have Q:=e.B;by_cases av:n<Z x.A
  ·have q:=AK av;let⟨ia,r2,bc⟩:=Ca a0 q;have U:V ((x.A.take (n+1)).any (Δ l f c)=((x.A.take n).any (Δ l f c)||(x.A[n].nt&&(c&&!F7 l x.A[n].B||pv f l x.A[n].B)))):=by
    rw[V,AT,q,BN,MH];simp[Δ]
   generalize x.A[n]=a at bc q U;clear q;generalize (x.A.take n).any (Δ l f c)=p at z U;have a4:=λI=>W4 l cs o a.B R hl I;have hH:=λI=>wk l cs o f a.B R hl I;generalize F7 l a.B=ru at a4 U;generalize pv f l a.B=ac at hH U
   repeat' first|refine Z1 ?_|refine Z8 λyb ya=>?_|refine Z4 ?_;clear ya yb|refine Z2 ?_ ?_<;>intro h aa<;>try exact Xp|(refine Z5 ?_;first|(refine Xi (a4 _) ?_;rintro _ _ ⟨rfl,rfl⟩)|(refine Xi (hH _) ?_;rintro _ _ ⟨rfl,a2⟩;(have a6:=a2.C;have au:=a2.B;(try simp only[Aa,Ac,Az]at au))))|refine Z3 ?_|exact Zt|apply ya.o;clear ya yb
   all_goals
    have S:=U.o;simp only[*,MA,FV,IY,Bool.true_or,Bool.false_and,Bool.or_false,JX,Bool.and_false,Bool.and_true,Bool.or_true]at S
    first
    |exact⟨Z x.A-(n+1),L,n+1,rfl,L,by rw[S],nk,((e.new _).put e.B _).trans a2,L⟩
    |exact⟨Z x.A-(n+1),L,n+1,rfl,L,by rw[S],nk,(e.new _).put e.B _,L⟩
  obtain rfl:n=Z x.A:=L;rw[AS]at z;rw[<-a3.o]at z;generalize a7:φ l f c j=p at z;have HJ:V _:=a7;clear a7;refine X ?_
  refine Ae (λm s d=>∃i:Nat,m=Z l-i/\i<=Z l/\s 0=sl o (Z l) cs/\s 3=my c/\s 5=ptr I.B 0/\s 6=ptr (I.B+1) 0/\s 8=ptr (I.B+2) 0/\s 9=ptr (I.B+3) 0/\s 10=Y j/\s 11=my p/\s 14=Y i/\W I d/\I.B+3<d.B/\d.C I.B=Gr (aK l)/\d.C (I.B+1)=Iq 16 f/\d.C (I.B+2)=Iq 16 (λ_=>false)/\d.C (I.B+3)=Iq 16 (zd l f c j i)) (Z l)
   ⟨0,L,L,by simp[upd,E],by simp[upd,y],by simp[upd,b],by simp[upd,T],by simp[upd,C],by simp[upd,F],by simp[upd,D],by simp[upd,z],rfl,e,K,B,M,G,by rw[Ao1];exact u⟩ ?_
  clear E y b T C F D z be e K B M G u Q;rintro m s d ⟨i,rfl,hi,E,y,b,T,C,F,D,z,bp,e,K,B,M,G,u⟩;have Q:=e.B;by_cases a8:i<Z l
  ·have a5:=Hh (zd l f c j i) (show i<16 by omega);have g1:=R4 (aK l) (i:=i) (k:=j) L L;have ao:zd l f c j i i=zf l f c j i:=by simp[zd]
   have t:V (∀v,v=(zf l f c j i||(p&&(i==j||aK l i j)))->(Iq 16 (zd l f c j i)).set i (my v)=Iq 16 (zd l f c j (i+1))):=λv N=>Asx (by rw[N,A_,HJ.o]);rw[ao]at a5;clear ao;generalize zf l f c j i=A at a5 t;generalize aK l i j=wv at g1 t;by_cases P:i=j
   ·have ax:((i:Int)==(j:Int)):=ns P
    have t:V (∀v,v=(A||p)->(Iq 16 (zd l f c j i)).set i (my v)=Iq 16 (zd l f c j (i+1))):=λv N=>t.o v (by rw[N,show (i==j)=true from DO.2 P];cases A<;>cases p<;>rfl);clear P
    repeat' first|refine Z1 ?_|refine Z8 λyb ya=>?_|refine Z4 ?_;clear ya yb|refine Z2 ?_ ?_<;>intro h aa<;>try exact Xp|refine Z3 ?_|exact Zt|apply ya.o;clear ya yb
    all_goals exact⟨Z l-(i+1),L,i+1,rfl,L,nk,e.put L _,t.o _ (by simp[*])⟩
   have ax:((i:Int)==(j:Int))=false:=by simp;omega
   have t:V (∀v,v=(A||(p&&wv))->(Iq 16 (zd l f c j i)).set i (my v)=Iq 16 (zd l f c j (i+1))):=λv N=>t.o v (by rw[N,show (i==j)=false from beq_eq_false_iff_ne.2 P];rfl);clear P
   repeat' first|refine Z1 ?_|refine Z8 λyb ya=>?_|refine Z4 ?_;clear ya yb|refine Z2 ?_ ?_<;>intro h aa<;>try exact Xp|refine Z3 ?_|exact Zt|apply ya.o;clear ya yb
   all_goals exact⟨Z l-(i+1),L,i+1,rfl,L,nk,e.put L _,t.o _ (by simp[*])⟩
  obtain rfl:i=Z l:=L;rw[Asy a1]at u;refine X ?_;exact⟨Z l-(j+1),L,j+1,rfl,L,nk,rfl⟩
 obtain rfl:j=Z l:=L;rw[Asw]at u;refine X ?_;exact⟨_,rfl,rfl,e.put L _⟩
def Alz (i):(Iq 16 (λa=>decide (a<i))).set i (my true)=Iq 16 (λa=>decide (a<i+1)):=by grind[Ze]
def yr {l p k}(b:k<16)(a:pv (qc l (k+1)) l p=false)(h2:∀j,j<k->pv (qc l (j+1)) l p):ov l p=k:=by
 rw[ov];have:(range 16).find? (λk=>!pv (qc l (k+1)) l p)=some k:=jx
 rw[this]
def yt {l p}(h2:∀j,j<16->pv (qc l (j+1)) l p):ov l p=16:=by grind[ov]
def xm (l cs b p)(u:r AJ l cs)(E:Z l<=16)(P:∀x∈l,x.fits)(I):ni 117 [sl b (Z l) cs,O p] I λo c=>o=Y (ov l p:Nat)/\W I c:=by
 have bg:=r.length Cf u;have a6:=Ia;have a7:=λg=>E0 16 g;have a8:∀M,take 256 (Gr M)=Gr M:=λM=>FZ (by rw[Ia];exact AU _);have ba:∀M,lsp (Pg 256 (.bool false)) 0 (Gr M)=Gr M:=λM=>I8 (by rw[Ia];simp[Pg]);have bh:Z (Pg 256 (.bool false))=256:=by simp[Pg]
 have be:∀M,(Gr M).all flat:=λM=>by simp[Gr,flat,Value.oneCell']
 have a9:∀g,take 16 (Iq 16 g)=Iq 16 g:=λg=>FZ (by rw[E0];exact AU _);have bc:∀g h,lsp (Iq 16 g) 0 (Iq 16 h)=Iq 16 h:=λg h=>I8 (by rw[E0,E0]);have bf:∀g,(Iq 16 g).all flat:=λg=>by simp[Iq,flat,Value.oneCell']
 refine wl func117 ?_;refine mt (UG l cs b u E P) ?_;rintro yb ya _ _ ⟨rfl,v⟩;have a4:=v.B;refine X ?_;rename_i d
 refine Ae (λm s c=>∃i:Nat,m=Z l-i/\i<=Z l/\s 0=sl b (Z l) cs/\s 1=O p/\s 5=ptr d.B 0/\s 6=ptr (d.B+1) 0/\s 7=Y i/\W I c/\d.B+1<c.B/\c.C d.B=Gr (aK l)/\c.C (d.B+1)=Iq 16 (λa=>decide (a<i))) (Z l)
  ⟨0,L,L,by simp[upd,AL],by simp[upd,AL],AG,AG,rfl,?_,BJ,?_,?_⟩ ?_
 exact ((v.new _).put v.B _).new _;rw[Ah BJ,Ak];rw[Be BJ BJ];rw[show (λa=>decide (a<0))=(λ_=>false)by funext a;simp];exact fA 16;rintro m s c ⟨i,rfl,hi,z,y,B,D,a0,f,C,F,n⟩;by_cases bb:i<Z l;have ax:=Alz i;refine X ?_;exact⟨Z l-(i+1),L,i+1,rfl,L,nk,f.put L _,rfl⟩;obtain rfl:i=Z l:=L;rw[show (λa=>decide (a<Z l))=qc l 0 from rfl]at n;refine X ?_
 refine Ae (λm s c=>∃k:Nat,m=16-k/\k<=16/\s 0=sl b (Z l) cs/\s 1=O p/\s 5=ptr d.B 0/\s 6=ptr (d.B+1) 0/\s 8=Y k/\W I c/\d.B+1<c.B/\c.C d.B=Gr (aK l)/\c.C (d.B+1)=Iq 16 (qc l k)/\V (∀j,j<k->pv (qc l (j+1)) l p)) 16
  ⟨0,L,L,by simp[upd,z],by simp[upd,y],by simp[upd,B],by simp[upd,D],rfl,f,C,F,n,λj a2=>L⟩ ?_
 clear z y B D a0 f C F n;rintro m s c ⟨k,rfl,hk,z,y,B,D,h8,f,C,F,n,A⟩;by_cases Q:k<16;have N:∀I,ni 171 [sl b (Z l) cs,ag (Gr (aK l)),ag (Iq 16 (qc l k)),my ((k:Int)==0)] I λo c=>o=ag (Iq 16 (qc l (k+1)))/\W I c:=λI=>by
  have e:((k:Int)==0)=(k==0):=by rw[GI];simp only[DO];omega
  rw[e];exact Ab1 l cs b (qc l k) (k==0) u E P I
 have K:=λI=>wk l cs b (qc l (k+1)) p u E I;have G:V (pv (qc l (k+1)) l p=false->ov l p=k):=λh=>yr Q h A.o;generalize S:pv (qc l (k+1)) l p=a5 at K G;have a1:V _:=S;clear S;have a3:=v.B
 (repeat (refine m0 ?_;intro yb ya;(first|(refine Xi (N _) ?_;rintro _ _ ⟨rfl,q⟩;(have av:=q.C;have aw:=q.B))|(refine Xi (K _) ?_;rintro _ _ ⟨rfl,t⟩;(have au:=t.C;have U:=t.B;(try simp only[Aa,Ac,Az]at U))))));refine m6 ?_ ?_<;>intro h aa
 have R:=G.o nu;exact⟨_,rfl,by rw[R],((f.trans q).put L _).trans t⟩;refine⟨16-(k+1),L,k+1,rfl,L,nk,((f.trans q).put L _).trans t,L,rfl,λj a2=>?_⟩;by_cases e:j=k;subst e;rw[a1.o];assumption;exact A.o j L;obtain rfl:k=16:=L;have T:=yt A.o;refine X ?_
 first
 |exact⟨_,rfl,by rw[T];rfl,f⟩
 |exact⟨_,rfl,by rw[T];rfl⟩
 |exact⟨_,rfl,rfl⟩
def r7 (t:Tx)(n:Int):Int×Int:=
 if (Av t).1≠0 then (0,(Av t).1)else
 if n<0\/(Z (Bl t):Int)<=n then (0,6)else (((ov (Bl t) (Kl (Bl t) n.toNat):Nat):Int),0)
def yu (t n I):ni 91 [O t,Y n] I λb Jqx=>b=two (r7 t n)/\W I Jqx:=by
 have D:=λI=>T6 t I;by_cases a:(Av t).1=0
 ·have k:Z t<=600:=by
   by_cases T:600<Z t
   ·unfold Av at a;rw[if_pos T]at a;simp at a
   omega
  have i:=Hb t;have R:∃l b,Cc 16 t= .got l b:=by
   cases h:Cc 16 t with
   |got l b=>exact⟨l,b,rfl⟩
   |bad a4=>
    rw[h]at i;have i:=i;unfold Av at a;rw[if_neg L,i,if_pos (KA _)]at a;simp at a
  let⟨l,b,E⟩:=R;let⟨s,G,v,K⟩:=Ep L E;have F:∀x∈Bl t,x.fits:=by
   intro x z;unfold Bl at z;rw[AN]at z;obtain⟨a5,e,rfl⟩:=z;exact rV (ny (L6 e))
  have q:=λI=>L2 t L (ny s.1) s.2 I;rw[<-G]at v;have j:r7 t n=if n<0\/(Z (Bl t):Int)<=n then (0,6)else (((ov (Bl t) (Kl (Bl t) n.toNat):Nat):Int),0):=by unfold r7;rw[if_neg (ns a)]
  have c:V _:=j;have B:=λC d p g I=>xm (Bl t) C d p g v F I;have u:((Av t).1 !=0)=false:=ns a
  clear j a i E s G K F k;generalize Bl t=f at q c B v;by_cases y:n<0\/(Z f:Int)<=n
  ·have o:V (r7 t n=(0,6)):=by rw[V,c.o,if_pos y]
   clear c B;refine wl func91 ?_
   (repeat (refine m0 ?_;intro yb ya;(first|(refine Xi (D _) ?_;rintro _ _ ⟨rfl,A⟩)|(refine Xi (q _) ?_;rintro _ _ ⟨d,C,rfl,g,P⟩))));refine m6 ?_ ?_<;>intro h U
   all_goals
    first
    |exact⟨_,rfl,by rw[o.o],Xs⟩
    |(exfalso;simp only[CV,decide_eq_false_iff_not]at*;omega)
  have M:0<=n:=L;have N:n.toNat<Z f:=L;have m:=AK N;have o:V (r7 t n=(((ov f f[n.toNat].h.B:Nat):Int),0)):=by
   rw[V,c.o,if_neg y];simp only[Kl,m]
  generalize Q:f[n.toNat]=x at m o;have S:V _:=m;clear Q m;refine wl func91 ?_
  (repeat (refine m0 ?_;intro yb ya;(first|(refine Xi (D _) ?_;rintro _ _ ⟨rfl,A⟩)|(refine Xi (q _) ?_;rintro _ _ ⟨d,C,rfl,g,P⟩;(have a0:=r.length Cf g;let⟨a2,id,a3,b,hb,a1⟩:=Cv g S.o))|(refine Xi (B _ _ _ g _) ?_;rintro _ _ ⟨rfl,ax⟩))));refine X ?_
  exact⟨_,rfl,by rw[o.o],Xs⟩
 have j:r7 t n=(0,(Av t).1):=by unfold r7;rw[if_pos a]
 have c:V _:=j;have u:((Av t).1 !=0):=nn a;clear j a;refine wl func91 ?_;refine mt D ?_;rintro yb ya _ _ ⟨rfl,A⟩;refine X ?_
 exact⟨_,rfl,by rw[c.o]⟩
def Aec {t}(h:(Av t).1=0):∀i,i<Z (Bl t)->Hd (Bl t) i=false:=by rw[Av]at h;split at h;simp at h;split at h;simp at h;rw[Co]at h;split at h;simp at h;split at h;simp at h;split at h;simp at h;rename_i a;exact sB a
theorem yv {t n i}(h:r9 t n i):i=r7 t n:=by
 rw[r9]at h;rw[r7];split at h;rename_i a;rw[if_pos a];exact h;rename_i a;rw[if_neg a];have a:=Classical.byContradiction a;let⟨N,l,o,j,d,m,h⟩:=h;have b:Z t<=1000:=by grind[Av]
 have f:=Aec a;have k:=(Ep b j).2.1;rw[k]at f⊢;split at h;rename_i c;rw[if_pos c];exact h;rename_i c;rw[if_neg c];obtain⟨x,e,rfl⟩:=h;have g:=T0 d.el;rw[wz d.len d.o g f (g x (AY e)).1];simp only[Kl,e]
def yw (o:iR)(e:o.kind=2)(c)(b:EO o c)(I):ni 55 [ag c] I λk d=>k=my true/\W I d:=by
 rw[EO]at b;subst b;rw[e];apply wl func55
 repeat' first|refine Z1 ?_|refine Z8 λyb ya=>?_|refine Z4 ?_;clear ya yb|refine Z2 ?_ ?_<;>intro h i<;>try exact Xp|(refine Z5 ?_;first|(apply Xi (Aam o.s _);rintro _ _ ⟨rfl,a⟩;(have g:=a.C;have f:=a.B;(try simp only[Aa,Ac,Az]at f)))|(refine Xi (xg o.s _) ?_;rintro _ _ ⟨rfl,j⟩)|(refine Xi (VX _ _) ?_;rintro _ _ ⟨rfl,rfl⟩))|refine Z7 ?_|exact Zt|apply ya.o;clear ya yb
 exact⟨_,rfl,rfl,Xs⟩
def yx (t n I):ni 90 [O t,Y n] I λe a=>e=two (r7 t n)/\W I a:=
 (ym t n I).mono λe a ⟨p,b,d,c⟩=>⟨by grind[yv],c⟩
def yy (o:iR)(e:o.kind=3)(c)(b:EO o c)(I):ni 55 [ag c] I λk d=>k=my true/\W I d:=by
 rw[EO]at b;subst b;rw[e];apply wl func55
 repeat' first|refine Z1 ?_|refine Z8 λyb ya=>?_|refine Z4 ?_;clear ya yb|refine Z2 ?_ ?_<;>intro h i<;>try exact Xp|(refine Z5 ?_;first|(apply Xi (yx o.s o.n _);rintro _ _ ⟨rfl,a⟩;(have g:=a.C;have f:=a.B;(try simp only[Aa,Ac,Az]at f)))|(refine Xi (yu o.s o.n _) ?_;rintro _ _ ⟨rfl,j⟩)|(refine Xi (VX _ _) ?_;rintro _ _ ⟨rfl,rfl⟩))|refine Z7 ?_|exact Zt|apply ya.o;clear ya yb
 exact⟨_,rfl,rfl,Xs⟩
def Aud (o:iR)(b:o.kind=2)(c)(a:EO o c)(I):ni 33 [ag c] I λi e=>i=my true/\W I e:=by
 have d:=yw o b c a;rw[EO]at a;subst a;rw[b]at*
 apply wl func33
 repeat' first|refine Z1 ?_|refine Z8 λyb ya=>?_|refine Z4 ?_;clear ya yb|refine Z2 ?_ ?_<;>intro h g<;>try exact Xp|refine Z5 ?_;apply Xi (d _);rintro _ _ ⟨rfl,f⟩|refine Z7 ?_|exact Zt|apply ya.o;clear ya yb
 exact⟨_,rfl,rfl,Xs⟩
def Aqv (o:iR)(b:o.kind=3)(c)(a:EO o c)(I):ni 33 [ag c] I λi e=>i=my true/\W I e:=by
 have d:=yy o b c a;rw[EO]at a;subst a;rw[b]at*
 apply wl func33
 repeat' first|refine Z1 ?_|refine Z8 λyb ya=>?_|refine Z4 ?_;clear ya yb|refine Z2 ?_ ?_<;>intro h g<;>try exact Xp|refine Z5 ?_;apply Xi (d _);rintro _ _ ⟨rfl,f⟩|refine Z7 ?_|exact Zt|apply ya.o;clear ya yb
 exact⟨_,rfl,rfl,Xs⟩
def pp (s:Sw)(n:Nat):ol:=(range n).map λi=>Km (s.2 i)
def Aej (s n):pp s (n+1)=pp s n++[Km (s.2 n)]:=by simp[pp,range_succ]
def xh (s n):pp s n=[]↔n=0:=by simp[pp]
def Adw (s:Sw)(n)(R:n<=26)(C:∀i,i<n->TW (s.2 i))(j):ni 95 [ag (D5 s),Y n] j λv σ'=>v=O (Bp (pp s n))/\W j σ':=by
 have z:Z (drop 26 (D5 s))=52:=by rw[length_drop,Di]
 have a1:=FZ (by rw[z];exact AU _);have a2:({data:=#[44]}:ByteArray)=bs [44]:=rfl;refine wl func95 ?_;refine mu ?_
 refine Ae (λm k σ'=>∃(i:Nat) (a:Tx),m=26-i/\i<=26/\i<=n/\k 1=Y n/\k 5=O a/\k 9=ag (drop 26 (D5 s))/\k 10=Y i/\W j σ'/\Z a<=i*1001/\V (a=Bp (pp s i))) 26
  ⟨0,[],L,L,L,by simp[upd,AL],AG,AG,rfl,Xs,nk,by simp[V,pp,Bp]⟩ ?_
 rintro m k σ' ⟨i,a,rfl,P,T,M,a0,U,K,b,S,q⟩;have I:=b.B;by_cases y:i<26
 ·let⟨v,t⟩:=lB s y;rw[<-drop_drop]at t;by_cases B:i<n
  ·have u:=C i B;have g:=λj=>jR (s.2 i) u j;have G:=u.2.2.2;have c:V (Bp (pp s (i+1))=a++((if i=0 then []else [44])++Km (s.2 i))):=by
    rw[V,Aej,Vw,q.o];by_cases o:i=0
    ·rw[if_pos ((xh s i).2 o),if_pos o]
    rw[if_neg (λh=>o ((xh s i).1 h)),if_neg o]
   generalize Km (s.2 i)=l at g G c;generalize s.2 i=e at t g;let⟨Q,N⟩:=e;dsimp only at t g;clear u;by_cases f:i=0
   ·have x:decide ((0:Int)<(i:Int))=false:=ns f
    have c:V (Bp (pp s (i+1))=a++l):=by rw[V,c.o,if_pos f];simp
    clear f
    repeat' first|refine Z1 ?_|refine Z8 λyb ya=>?_|refine Z4 ?_;clear ya yb|refine Z2 ?_ ?_<;>intro h p<;>try exact Xp|refine Z5 ?_;refine Xi (g _) ?_;rintro _ _ ⟨rfl,d⟩;(have F:=d.C;have D:=d.B)|refine Z7 ?_|exact Zt|apply ya.o;clear ya yb
    exact⟨26-(i+1),L,i+1,a++l,rfl,L,L,rfl,nk,((b.new _).put b.B _).trans d,by simp only[AX];omega,by rw[V,c.o]⟩
   have x:decide ((0:Int)<(i:Int)):=by simp;omega
   have c:V (Bp (pp s (i+1))=a++([44]++l)):=by rw[V,c.o,if_neg f]
   clear f
   repeat' first|refine Z1 ?_|refine Z8 λyb ya=>?_|refine Z4 ?_;clear ya yb|refine Z2 ?_ ?_<;>intro h p<;>try exact Xp|refine Z5 ?_;refine Xi (g _) ?_;rintro _ _ ⟨rfl,d⟩;(have F:=d.C;have D:=d.B)|refine Z7 ?_|exact Zt|apply ya.o;clear ya yb
   exact⟨26-(i+1),L,i+1,a++([44]++l),rfl,L,L,by rw[CR],nk,((b.new _).put b.B _).trans d,by simp only[AX,KZ];omega,by rw[V,c.o]⟩
  obtain rfl:i=n:=L;refine mu ?_;exact⟨_,rfl,by rw[q.o],(b.new _).put b.B _⟩
 have A:i=26:=L;have E:n=26:=L;subst A;subst E;refine mu ?_
 first
 |exact⟨_,rfl,by rw[q.o],b⟩
 |exact⟨_,rfl,by rw[q.o]⟩
def qf (l:n0)(n:Int):Bool:=if 0<=n then (match l[n.toNat]? with|some x=>!x.o|none=>false)else false
def xj (N l cs idn d n)(f:Bk N l cs)(i):ni 92 [Cq N idn l d cs,Y n] i λg σ'=>g=my (qf l n)/\W i σ':=by
 have o:=r.length Ew f.el;have u:=f.len;by_cases c:0<=n;by_cases m:n<(Z l:Int);have j:n.toNat<Z l:=L;have v:((n.toNat:Nat):Int)=n:=Int.toNat_of_nonneg c;have e:=AK j;have a:V (qf l n=!l[n.toNat].o):=by rw[V,qf,if_pos c,e]
 let⟨s,q,id,b,p,t,k⟩:=Ih f.el e;generalize l[n.toNat]=x at k a;clear e;refine wl func92 ?_;refine mu ?_;exact⟨_,rfl,by rw[a.o],Xs⟩;have a:V (qf l n=false):=by rw[V,qf,if_pos c,FD L]
 apply wl func92;refine mu ?_;exact⟨_,rfl,by rw[a.o],Xs⟩;have a:V (qf l n=false):=by rw[V,qf,if_neg c]
 apply wl func92;refine mu ?_;exact⟨_,rfl,by rw[a.o],Xs⟩
section
variable {N:ol} {y:AB} {k:Nat} {s0 s:Sw}
theorem found (p:lr y)(P:∀a∈y.A,a.B∈N)(m:∀a∈y.A,∀b∈y.A,a.B=b.B->Z a.A=Z b.A)(U:C9 Mx (y.h.A.map Aq) (y.h.A.map Aq)=some s0)(h:Mz N y k s0=some s):
  (∀t∈y.h.A,Ab t->s.2 (aH Aq t)=Aq t)/\
  (∀i,i<Z (Au y)->∃u,UT u/\s.2 i=Aq u)/\
  (∀a∈y.A,∃b∈y.A.eraseIdx k,a.nt=b.nt/\a.B=b.B/\a.A.map (U0 λt=>Km (s.2 (aH Aq t)))=b.A):=by
 rw[Mz]at h;split at h
 case isFalse=>cases h
 rename_i D;have v:∀a∈y.A,∀t∈a.A,UT t:=λa c=>p.ut a (Ap (.inr c));have g:=p.ut y.h (Ap (.inl ⟨p.o,rfl⟩));have e:∀b∈y.A.eraseIdx k,b∈y.A:=λb d=>EE d;let⟨a6,R⟩:=mU DJ N (y.A.eraseIdx k) y.A s0 s (λa c=>⟨P a c,v a c⟩) (λb d=>P b (e b d)) h;let⟨s1,S,w2,w3⟩:=bF DJ y.h.A g;rw[U]at S;cases S
 --what a variable of the body became
 have ae:∀a∈y.A,∀t∈a.A,Ab t->∃u,UT u/\s.1 (aH Aq t)/\s.2 (aH Aq t)=Aq u:=by intro a c t l f;let⟨b,d,I,C,E⟩:=R a c;let⟨i,n⟩:=CL l;have au:=(BA.1 n).1;have a5:=m a c b (e b d) C;have e2:=AK (show i<Z b.A by omega);have:=E i _ _ n e2;rw[IG]at this;grind
 refine⟨λt l f=>?_,λi n=>?_,λa c=>?_⟩;have:=(w3 t l).grow a6;rw[IG]at this;rw[if_pos f]at this;exact this.2;have Q:[Im (i:Nat)]∈Au y:=by rw[p.ord];grind
 have ap:i<26:=ny p.len
 have a7:aH Aq [Im (i:Nat)]=i:=by grind[aH,Et,E4,Fv]
 have f:Ab [Im (i:Nat)]:=E4 L L
 --it stands in an atom
 have a2:∃a∈Af y,[Im (i:Nat)]∈a.A:=by
  have F:∀(z j:ol) (t:Tx),t∈Fu j z->t∈j\/t∈z:=by
   intro z;induction z with
   |nil=>intro j t h;exact .inl h
   |cons u z a4=>
    intro j t h;obtain q|q:=a4 (Er j u) t h;rw[Er]at q;split at q;obtain q|q:=AW.1 q;exact .inl q;simp at q;exact .inr (ns q);exact .inl q;exact .inr (ns q)
  obtain q|q:=F _ _ _ Q;cases q;let⟨a,c,a1⟩:=EX.1 q;exact⟨a,c,a1⟩
 have A:∀a∈y.A,[Im (i:Nat)]∈a.A->∃u,UT u/\s.2 i=Aq u:=λa c l=>gp
 let⟨a,c,l⟩:=a2;rw[Af]at c;rw[p.o]at c;obtain c|c:=AW.1 c;simp at c;subst c
 --in the head:then the rest has it
 rw[Fi]at D;simp only[FJ,EV]at D;have G:=D y.h (by grind[Af,C8]);simp only[CU,not_exists,not_and]at G;have x:=G _ l;rw[Cb,f]at x;simp only[FV,FJ,Bool.not_eq_false]at x;rw[Ga,C8]at x;rw[CU]at x;let⟨b,d,T⟩:=x;simp only[BM,CU]at T;obtain⟨-,u,B,o⟩:=T;have K:=e b d;rw[Ql]at o;simp only[BM,DO]at o;have a0:=DJ.inj _ _ (v b K u B) (g _ l) (GB (by grind[Cb]) o.2);exact A b K (a0 ▸ B);exact A a c l;let⟨b,d,I,C,E⟩:=R a c;refine⟨b,d,I,C,?_⟩;have a5:=m a c b (e b d) C;apply FL;intro i;rw[DC];by_cases n:i<Z a.A;have M:=AK n;have e2:=AK (show i<Z b.A by omega);have a3:=v a c _ (AR n);have o:=v b (e b d) _ (AR (show i<Z b.A by omega));have:=E i _ _ M e2;rw[M,e2];simp only[GJ];congr 1;rw[IG]at this;rw[U0];split;rename_i f;rw[if_pos f]at this;show Km (s.2 (aH Aq a.A[i]))=_;exact this.2▸o.dec.1;rename_i f;rw[if_neg f]at this;exact DJ.inj _ _ a3 o this;rw[FD L,FD L];rfl
end
section
variable {x:AB} (hx:XR x)
include hx
theorem XR.spare_iff {N k}(g:∀a∈x.A,a.B∈N)(c:∀a∈x.A,∀b∈x.A,a.B=b.B->Z a.A=Z b.A):
  ∃s0,C9 Mx ((ren x).h.A.map Aq) ((ren x).h.A.map Aq)=some s0/\((∃s',Mz N (ren x) k s0=some s')↔(Db (C8 x k)/\Hj x k)):=by let⟨s0,f,e⟩:=hx.search (N:=N) (k:=k) g c;refine⟨s0,f,?_⟩;rw[<-e,<-hx.safe k];rw[Mz];grind
end
def CW.xr {t N l cs}(h:CW t N l cs){x}(d:x∈l)(e:x.o=false):XR x where
 dt:=λa b w c=>by have f:=Lx (T:=DT) mK 16 t l [] h.parse x d a b w c;have g:=T8 (ny h.len) h.parse x d;have i:=(h.wit x d).2.2 e;simp[Af,e]at b;obtain rfl|b:=b;exact⟨f,i.1.2.2.2 w c,g.1.2.2 w c⟩;exact⟨f,(i.2.2.2 a b).2.2.2 w c,(g.2 a b).2.2 w c⟩
 o:=e
 few:=ny (jk (h.wit x d))
def rf (t:Tx)(n m:Int)(c:Tx×Int):Prop:=
 if (Av t).1≠0 then c=([],(Av t).1)else
 ∃N l b,CW t N l b/\
  ((c=([],6)/\(qf l n=false\/m<0\/∃x,l[n.toNat]?=some x/\(Z x.A:Int)<=m))\/
   ∃x a,qf l n/\0<=n/\l[n.toNat]?=some x/\x.o=false/\0<=m/\m<Z x.A/\C9 Mx ((ren x).h.A.map Aq) ((ren x).h.A.map Aq)=some a/\
   match Mz N (ren x) m.toNat a with
   |none=>c=([],10)
   |some s=>c=(Bp (pp s (Z (Au (ren x)))),0))
abbrev twoS (p:Tx×Int):AV:=tp [O p.1,Y p.2]
def xk {l n}(h:qf l n):0<=n/\∃x,l[n.toNat]?=some x/\x.o=false:=by grind[qf]
def Ank {x}(h:x.fits):(ren x).fits:=by let⟨c,e,g⟩:=h;refine⟨by grind[ren],by grind[ren,Br],λa b=>?_⟩;simp only[ren,AN]at b;obtain⟨d,f,rfl⟩:=b;simpa[Br]using g d f
structure Ask (N:ol)(x:AB)(k:Nat)(s0:Sw):Prop where
 ino:lr (ren x)
 fits:(ren x).fits
 e0:C9 Mx ((ren x).h.A.map Aq) ((ren x).h.A.map Aq)=some s0
 hv:∀t∈(ren x).h.A,varOk t
 ok:∀a∈(ren x).A,PO ((ren x).A.eraseIdx k) a
 text:∀s,Mz N (ren x) k s0=some s->∀i,i<Z (Au (ren x))->TW (s.2 i)
 va:∀a∈Af (ren x),VA a
def CW.ask {t N l cs}(h:CW t N l cs){x}(j:x∈l)(z:x.o=false)(k):∃s0,Ask N x k s0/\((∃s',Mz N (ren x) k s0=some s')↔(Db (C8 x k)/\Hj x k)):=by
 have p:=h.xr j z;have f:=p.inO;have y:=(T0 h.bk.el x j).2;have d:∀a∈x.A,∀b∈x.A,a.B=b.B->Z a.A=Z b.A:=λa c b g=>dM h.ok x (h.items▸j) a (Ap (.inr c)) b (Ap (.inr g));have K:∀a∈(ren x).A,∀b∈(ren x).A,a.B=b.B->Z a.A=Z b.A:=λa c b g B=>by
  simp only[ren,AN]at c g;obtain⟨o,n,rfl⟩:=c;obtain⟨G,C,rfl⟩:=g;simpa[Br]using d o n G C B
 have I:∀a∈(ren x).A,a.B∈N:=λa c=>by simp only[ren,AN]at c;obtain⟨o,n,rfl⟩:=c;exact y o n
 let⟨s0,q,F⟩:=p.spare_iff (N:=N) (k:=k) y d;have v:=Ank (h.bk.fits x j);refine⟨s0,⟨f,v,q,λt m=>(f.ut _ (Ap (.inl ⟨f.o,rfl⟩)) t m).varOk,λa c=>⟨v.2.2 a c,λt m=>(f.ut a (Ap (.inr c)) t m).varOk,λb g=>K a c b (EE g)⟩,λs E i D=>?_,λa c w M=>Me (f.ut a c w M)⟩,F⟩;let⟨u,A,e⟩:=(found f I K q E).2.1 i D;exact e▸A.dec.2
def Aa0 (t n m a):ni 56 [O t,Y n,Y m] a λb σ'=>∃p,b=twoS p/\rf t n m p/\W a σ':=by
 have hL:=λa=>yE t a;have b0:=Di;have ai:=Rb;have bz:∀s,take 78 (D5 s)=D5 s:=λs=>FZ (by rw[Di];exact AU _);have b7:∀s s',lsp (D5 s) 0 (D5 s')=D5 s':=λs s'=>I8 (by rw[Di,Di]);have b8:∀s,(D5 s).all flat:=λs=>by
  rw[CX];intro x A;obtain⟨n,-,rfl⟩:=AN.1 A;unfold lA;split
  ·rfl
  split<;>rfl
 by_cases g:(Av t).1=0
 ·have bp:((Av t).1 !=0)=false:=nn g
  have R:V ((Av t).1=0):=g;have ab:Z t<=600:=by
   by_cases hl:600<Z t
   ·unfold Av at g;rw[if_pos hl]at g;simp at g
   omega
  clear g;refine wl func56 ?_
  repeat' first|refine Z1 ?_|refine Z8 λyb ya=>?_|refine Z4 ?_;clear ya yb|refine Z2 ?_ ?_<;>intro h u<;>try exact Xp|refine Z5 ?_;refine Xi (hL _) ?_;rintro _ _ ⟨aa,n1,c1,a9,n2,B,rfl,a3,E⟩;(have au:=a3.B;obtain⟨N,l,hp,S,rfl,rfl,rfl,bm,bg⟩:=E R.o;have bi:CW t N l B:=⟨R.o,ab,hp,S,bg⟩;have D:V _:=bi;have o:=λa=>xj N l B aa a9 n S a;have b9:=r.length Ew S.el;have bo:=S.len;clear hp E bm bg bi)|refine Z7 ?_|exact Zt|apply ya.o;clear ya yb
  rename_i am;have ak:=au;have j:V (∀b:Tx×Int,(∃N l cs,CW t N l cs/\((b=([],6)/\(qf l n=false\/m<0\/∃x,l[n.toNat]?=some x/\(Z x.A:Int)<=m))\/∃x y,qf l n/\0<=n/\l[n.toNat]?=some x/\x.o=false/\0<=m/\m<Z x.A/\C9 Mx ((ren x).h.A.map Aq) ((ren x).h.A.map Aq)=some y/\(match Mz N (ren x) m.toNat y with|none=>b=([],10)|some s=>b=(Bp (pp s (Z (Au (ren x)))),0))))->rf t n m b):=λb h=>by
   unfold rf;rw[if_neg (by simp[R.o])];exact h
  cases C:qf l n
  ·rw[C]at o;have i:V (rf t n m ([],6)):=j.o _ ⟨N,l,B,D.o,.inl ⟨rfl,.inl C⟩⟩;clear j C
   repeat' first|refine Z1 ?_|refine Z8 λyb ya=>?_|refine Z4 ?_;clear ya yb|refine Z2 ?_ ?_<;>intro h u<;>try exact Xp|refine Z5 ?_;refine Xi (o _) ?_;rintro _ _ ⟨rfl,d⟩;(have a0:=d.C;have f:=d.B;simp only[Aa,Ac]at f)|refine Z7 ?_|exact Zt|apply ya.o;clear ya yb
   exact⟨_,rfl,_,rfl,i.o,Xs⟩
  obtain⟨bf,x,A,F⟩:=xk C;have b6:=(BA.1 A).1;have b1:((n.toNat:Nat):Int)=n:=Int.toNat_of_nonneg bf;have a2:=AY A;have q:=D.o.wi x a2;obtain⟨hm,ih,id,ah,rr,E,hd⟩:=Ih S.el A;have HX:V (l[n.toNat]?=some x):=A;have bw:V (qf l n=true):=C;rw[C]at o;have K:=λa=>gM N x _ (PI.of (ih:=ih) (id:=id) hm E) q.o q.fits q.va q.vh q.vb a;have bb:∀c,RI N (Au x) x c->PI N (ren x) c:=λc U=>Axg q F U;have b2:n<(Z l:Int):=L;simp only[F]at K;clear A C q;by_cases ac:m<0
  ·have i:V (rf t n m ([],6)):=j.o _ ⟨N,l,B,D.o,.inl ⟨rfl,.inr (.inl ac)⟩⟩;clear j K
   repeat' first|refine Z1 ?_|refine Z8 λyb ya=>?_|refine Z4 ?_;clear ya yb|refine Z2 ?_ ?_<;>intro h u<;>try exact Xp|refine Z5 ?_;refine Xi (o _) ?_;rintro _ _ ⟨rfl,d⟩;(have a0:=d.C;have f:=d.B;simp only[Aa,Ac]at f)|refine Z7 ?_|exact Zt|apply ya.o;clear ya yb
   exact⟨_,rfl,_,rfl,i.o,Xs⟩
  by_cases ad:(Z x.A:Int)<=m
  ·have i:V (rf t n m ([],6)):=j.o _ ⟨N,l,B,D.o,.inl ⟨rfl,.inr (.inr ⟨x,HX.o,ad⟩)⟩⟩;clear j K
   repeat' first|refine Z1 ?_|refine Z8 λyb ya=>?_|refine Z4 ?_;clear ya yb|refine Z2 ?_ ?_<;>intro h u<;>try exact Xp|refine Z5 ?_;refine Xi (o _) ?_;rintro _ _ ⟨rfl,d⟩;(have a0:=d.C;have f:=d.B;simp only[Aa,Ac]at f)|refine Z7 ?_|exact Zt|apply ya.o;clear ya yb
   exact⟨_,rfl,_,rfl,i.o,Xs⟩
  have bn:((m.toNat:Nat):Int)=m:=Int.toNat_of_nonneg L;obtain⟨y,e,-⟩:=D.o.ask a2 F m.toNat;have z:V (∀b:Tx×Int,(match Mz N (ren x) m.toNat y with|none=>b=([],10)|some s=>b=(Bp (pp s (Z (Au (ren x)))),0))->rf t n m b):=λb h=>j.o _ ⟨N,l,B,D.o,.inr ⟨x,y,bw.o,bf,HX.o,F,L,L,e.e0,h⟩⟩;have k:=λc U a=>lV N (ren x) c m.toNat y U e.fits e.e0 e.hv e.ok a;rw[bn]at k;have a1:=λc U a=>Ut N (ren x) c U (λh=>by rw[e.ino.o]at h;cases h) e.fits e.va a;have be:=e.ino.len;have M:=λs hs a=>Adw s (Z (Au (ren x))) be (e.text s hs) a;clear j e a2;generalize (Au (ren x))=oy at a1 be M z;cases Q:Mz N (ren x) m.toNat y with
  |none=>
   rw[Q]at k z;simp only[Q3]at k;have i:V (rf t n m ([],10)):=z.o _ rfl;clear z M a1 Q
   repeat' first|refine Z1 ?_|refine Z8 λyb ya=>?_|refine Z4 ?_;clear ya yb|refine Z2 ?_ ?_<;>intro h u<;>try exact Xp|(refine Z5 ?_;first|(refine Xi (o _) ?_;rintro _ _ ⟨rfl,d⟩;(have a0:=d.C;have f:=d.B;simp only[Aa,Ac]at f))|(refine Xi (K _) ?_;rintro _ _ ⟨v,rfl,G,bu,I⟩;(have a6:=I.C;have a8:=I.B;have T:=k v (bb v G);obtain⟨af,ae,b3,bq,rfl⟩:=G;simp only[F]at T))|(refine Xi (T _) ?_;rintro _ _ ⟨rfl,P⟩;(have a5:=P.C;have a4:=P.B;simp only[Aa,Ac]at a4)))|refine Z7 ?_|exact Zt|apply ya.o;clear ya yb
   exact⟨_,rfl,_,rfl,i.o,Xs⟩
  |some s=>
   rw[Q]at k z;simp only[Q3]at k;have i:V (rf t n m (Bp (pp s (Z oy)),0)):=z.o _ rfl;have M:=M s Q;clear z Q
   repeat' first|refine Z1 ?_|refine Z8 λyb ya=>?_|refine Z4 ?_;clear ya yb|refine Z2 ?_ ?_<;>intro h u<;>try exact Xp|(refine Z5 ?_;first|(refine Xi (o _) ?_;rintro _ _ ⟨rfl,d⟩;(have a0:=d.C;have f:=d.B;simp only[Aa,Ac]at f))|(refine Xi (K _) ?_;rintro _ _ ⟨v,rfl,G,bu,I⟩;(have a6:=I.C;have a8:=I.B;have T:=k v (bb v G);have bh:=a1 v (bb v G);obtain⟨af,ae,b3,bq,rfl⟩:=G;simp only[F]at T bh))|(refine Xi (T _) ?_;rintro _ _ ⟨rfl,P⟩;(have a5:=P.C;have a4:=P.B;simp only[Aa,Ac]at a4)))|refine Z7 ?_|exact Zt|apply ya.o;clear ya yb
   refine Ax Ag (λ_=>True) [4,5,6] [0,1] [2,3,4,5,6] AH (λ_ _ _ h=>h) ?_;intro yb ya
   repeat' first|refine Z1 ?_|refine Z8 λyb ya=>?_|refine Z4 ?_;clear ya yb|refine Z2 ?_ ?_<;>intro h u<;>try exact Xp|(refine Z5 ?_;first|(refine Xi (bh _) ?_;rintro _ _ ⟨aj,rfl,br,bv⟩;(have a7:=bv.B;simp only[Aa,Ac]at a7))|(refine Xi (M _) ?_;rintro _ _ ⟨rfl,cd⟩))|refine Z7 ?_|exact Zt|apply ya.o;clear ya yb
   exact⟨_,rfl,_,rfl,i.o,Xs⟩
 have bp:((Av t).1 !=0):=nn g;have R:V (¬(Av t).1=0):=g;clear g;refine wl func56 ?_
 repeat' first|refine Z1 ?_|refine Z8 λyb ya=>?_|refine Z4 ?_;clear ya yb|refine Z2 ?_ ?_<;>intro h u<;>try exact Xp|refine Z5 ?_;refine Xi (hL _) ?_;rintro _ _ ⟨aa,n1,c1,a9,n2,B,rfl,a3,E⟩;(have au:=a3.B;clear E)|refine Z7 ?_|exact Zt|apply ya.o;clear ya yb
 refine⟨_,rfl,([],(Av t).1),rfl,?_,Xs⟩;unfold rf;rw[if_pos R.o]
def CW.whole {t N l cs}(h:CW t N l cs):Z (Bj l)<=600/\nV (Bj l):=by
 obtain⟨g,-,j,-⟩:=Ka _ _ _ _ h.parse;have c:=Oc h.wit;have q:=bM l h.wit;have n:=h.len;have a:Z (Bj l)<=600:=gp
 have f:∀y∈l.map ren,Dc y:=λy i=>by obtain⟨x,b,rfl⟩:=AN.1 i;exact Ky (h.wit x b) (h.wi x b)
 have e:=O3 _ f;refine⟨a,?_,?_⟩;rw[c,e];simpa using j;intro p d;have o:=L6 d;rw[c,e,AN]at d;obtain⟨x,b,rfl⟩:=d;obtain⟨-,k,m⟩:=Jl (f x b);exact⟨L,k,m⟩
def ql (t:Tx)(n m e:Int):Prop:=
 if (Av t).1≠0 then e=(Av t).1 else
 if n<0\/(Z (Bl t):Int)<=n\/m<0\/(∀x,(Bl t)[n.toNat]?=some x->(Z x.A:Int)<=m)then e=6 else
 ∃x,(Bl t)[n.toNat]?=some x/\((Db (C8 x m.toNat)/\Hj x m.toNat)/\e=0\/¬(Db (C8 x m.toNat)/\Hj x m.toNat)/\e=10)
def w8 (t n m d):ni 97 [O t,Y n,Y m] d λb σ'=>∃e,b=Y e/\ql t n m e/\W d σ':=by
 have D:=λd=>T6 t d;by_cases f:(Av t).1=0
 ·let⟨a8,a7,b,ai⟩:=H9 f;let⟨c,G,R,a1⟩:=Ep L ai;have A:∀x∈Bl t,x.fits:=by
   intro x j;unfold Bl at j;rw[AN]at j;obtain⟨a9,hu,rfl⟩:=j;exact rV (ny (L6 hu))
  have C:∀x∈Bl t,Z x.A<=5:=by
   intro x j;rw[G]at j;have u:=a1 x j;cases M:x.o
   ·exact (u.2.2 M).2.2.1
   rw[(u.2.1 M).2.2];simp
  have s:=λd=>L2 t L (ny c.1) c.2 d;rw[<-G]at R;have g:V (∀e,(if n<0\/(Z (Bl t):Int)<=n\/m<0\/(∀x,(Bl t)[n.toNat]?=some x->(Z x.A:Int)<=m)then e=6 else∃x,(Bl t)[n.toNat]?=some x/\((Db (C8 x m.toNat)/\Hj x m.toNat)/\e=0\/¬(Db (C8 x m.toNat)/\Hj x m.toNat)/\e=10))->ql t n m e):=λe h=>by
   unfold ql;rw[if_neg (ns f)];exact h
  have av:((Av t).1 !=0)=false:=ns f
  generalize Bl t=z at s A C R g;by_cases I:n<0\/(Z z:Int)<=n
  ·have a:V (ql t n m 6):=g.o 6 (by
    rw[if_pos];obtain h|h:=I
    ·exact .inl h
    exact .inr (.inl h))
   clear g;refine wl func97 ?_
   (repeat (refine m0 ?_;intro yb ya;(first|(refine Xi (D _) ?_;rintro _ _ ⟨rfl,v⟩)|(refine Xi (s _) ?_;rintro _ _ ⟨o,T,rfl,i,N⟩))));refine m6 ?_ ?_<;>intro h l
   all_goals
    first
    |exact⟨_,rfl,_,rfl,a.o,Xs⟩
    |(exfalso;simp only[CV,decide_eq_false_iff_not]at*;omega)
  have au:0<=n:=L;have K:n.toNat<Z z:=L;have B:=AK K;have Q:=A _ (AR K);have S:=C _ (AR K);generalize a2:z[n.toNat]=x at B Q S;have p:V _:=B;by_cases a4:m<0\/(Z x.A:Int)<=m
  ·have a:V (ql t n m 6):=g.o 6 (by
    rw[if_pos];rcases a4 with h|h
    ·exact .inr (.inr (.inl h))
    exact .inr (.inr (.inr λaa P=>by rw[p.o]at P;cases P;exact h)))
   clear g a2 B A C I;refine wl func97 ?_
   (repeat (refine m0 ?_;intro yb ya;(first|(refine Xi (D _) ?_;rintro _ _ ⟨rfl,v⟩)|(refine Xi (s _) ?_;rintro _ _ ⟨o,T,rfl,i,N⟩;(have aw:=r.length Cf i;let⟨F,id,a5,b,U,hd⟩:=Cv i p.o)))));refine m6 ?_ ?_<;>intro h l
   all_goals
    first
    |exact⟨_,rfl,_,rfl,a.o,Xs⟩
    |(exfalso;simp only[CV,decide_eq_false_iff_not]at*;omega)
  have a0:((m.toNat:Nat):Int)=m:=Int.toNat_of_nonneg L;have ak:m.toNat<Z x.A:=L
  have a:V (∀e,((Db (C8 x m.toNat)/\Hj x m.toNat)/\e=0\/¬(Db (C8 x m.toNat)/\Hj x m.toNat)/\e=10)->ql t n m e):=λe h=>g.o e (by
   rw[if_neg (λk=>by
    rcases k with k|k|k|k
    ·omega
    ·omega
    ·omega
    have:=k x p.o;omega)]
   exact⟨x,p.o,h⟩)
  have E:=λa6 hc d=>lI x a6 m.toNat hc Q S ak d;rw[a0]at E;generalize (Db (C8 x m.toNat)=true/\Hj x m.toNat)=PQ at a E;refine wl func97 ?_
  (repeat (refine m0 ?_;intro yb ya;(first|(refine Xi (D _) ?_;rintro _ _ ⟨rfl,v⟩)|(refine Xi (s _) ?_;rintro _ _ ⟨o,T,rfl,i,N⟩;(have aw:=r.length Cf i;let⟨F,id,a5,b,U,hd⟩:=Cv i p.o;have y:=E _ (AJ.of (ih:=F) (id:=id) U);unfold A4 at y))|(refine Xi (y _) ?_;rintro _ _ ⟨bq,rfl,ax,a3⟩))));refine m6 ?_ ?_<;>intro h l
  ·refine⟨_,rfl,10,rfl,a.o 10 (.inr ⟨λhp=>?_,rfl⟩),Xs⟩;have q:=ax.2 hp;have h2:bq=false:=nu
   rw[h2]at q;cases q
  exact⟨_,rfl,0,rfl,a.o 0 (.inl ⟨nu,rfl⟩),Xs⟩
 have a:V (ql t n m (Av t).1):=by rw[V,ql,if_pos f]
 have av:((Av t).1 !=0):=nn f;clear f;refine wl func97 ?_;refine mt D ?_;rintro yb ya _ _ ⟨rfl,v⟩;refine X ?_
 exact⟨_,rfl,_,rfl,a.o⟩
def yp (a c t)(o:Bf a c)(F:Z a.A<=1000)(f):ni 100 [ag c,O t] f λg σ'=>∃b,g=my b/\(b=true↔t∈a.A)/\W f σ':=by
 obtain⟨x,rfl⟩:=o;refine wl func100 ?_;refine X ?_
 refine Ae (λm s σ'=>∃k:Nat,m=Z a.A-k/\k<=Z a.A/\s 1=O t/\s 2=ptr f.B 0/\s 5=Y k/\W f σ'/\f.B<σ'.B/\σ'.C f.B=[my a.nt,O a.B,lw x a.A]/\V (∀j,j<k->a.A[j]?≠some t)) (Z a.A)
  ⟨0,L,L,rfl,rfl,rfl,Xs,by simp[Aa],Ao,λj y=>L⟩ ?_
 rintro m s σ' ⟨k,rfl,I,C,G,q,D,K,z,n⟩;by_cases l:k<Z a.A;have v:=A1 l;have i:V (a.A[k]?=some a.A[k]):=AK l;generalize a.A[k]=u at v i;by_cases d:u=t;have A:(u==t):=ns d
 have B:V (t∈a.A):=by rw[V,<-d];exact AY i.o
 clear d;refine X ?_;exact⟨_,rfl,true,rfl,⟨λ_=>B.o,λ_=>rfl⟩⟩;have A:(u==t)=false:=nn d;have p:V (∀j,j<k+1->a.A[j]?≠some t):=λj y=>by by_cases e:j=k;subst e;rw[i.o];simpa using d;exact n.o j L
 refine X ?_;exact⟨Z a.A-(k+1),L,k+1,rfl,L,nk,p⟩;obtain rfl:k=Z a.A:=L;have E:=Qe n.o;refine X ?_;exact⟨_,rfl,false,rfl,nk⟩
def qz (t acc:Tx)(p:Tx×Tx):Tx:=if p.1=t then p.2 else acc
def r6 (l:List (Tx×Tx))(t:Tx):Tx:=l.foldl (qz t) t
def Φ (l:List (Tx×Tx))(a:AE):AE:={nt:=a.nt,B:=a.B,A:=a.A.map (r6 l)}
def Ae6 (x c)(j k:Nat)(l id a)(z:AJ x c)(e:x.fits)(F:x.A[j]?=some a)(hl:Z l<=1000)(B:∃b∈x.A.eraseIdx k,J7 b (Φ l a))(d):ni 101 [ag c,Y j,Y k,sl id (Z l) (Ds l)] d λac σ'=>ac=my true/\W d σ':=by
 have v:=λd=>Kg x c k z e.1 d;have bh:=(BA.1 F).1;have a6:=e.1;have bf:=e.2.2 a (AY F);have G:=λo id ca P a9 d=>iW (x.A.eraseIdx k) o id (Φ l a) ca P a9 (BI (JF _ _) a6) (λb E=>e.2.2 b (EE E)) B d;have ah:=Qa l;obtain⟨ih,a2,b,E,rfl⟩:=z.cells;unfold A4 at v⊢;have bm:=r.length A7 E;let⟨ia,r1,bi⟩:=Ca E F;clear F B;refine wl func101 ?_;refine X ?_
 refine wn [2,3,4,9,10] 11 (Z a.A) (λq s σ'=>∃D:Nat,W d σ'/\d.B+2<σ'.B/\σ'.C d.B=(ko x ih a2 b)/\σ'.C (d.B+1)=[my a.nt,O a.B,lw ia a.A]/\σ'.C (d.B+2)=[my a.nt,O a.B,sl D q (((a.A.take q).map (r6 l)).map O)]/\J d σ' D q) ⟨1,Xs,BJ,?_,?_,?_,J.nil _ _⟩ ?_
 rw[Aj L,Ah BJ,Aj L,Ah AM,Ao];rw[Aj L,Ah BJ,Ak];rw[show d.B+2=d.B+1+1 by omega,Ak];simp;rintro q s σ' _ ⟨U,a1,a0,T,a4⟩ M ⟨D,hK,bg,bc,bb,K,hO⟩;have be:=hK.B;by_cases u:q<Z a.A;have g1:=A1 u;have p:V (a.A[q]?=some a.A[q]):=AK u;generalize a.A[q]=t at g1 p;refine X ?_
 refine wn [2,3,4,9,10,11] 13 (Z l) (λi s n=>∃tt:Tx,s 12=O tt/\n=σ'/\V (tt=(l.take i).foldl (qz t) t)) ⟨t,AG,rfl,by simp[V]⟩ ?_
 clear U a1 a0 T a4 M;rintro i s n _ _ _ ⟨tt,bp,R,N⟩;subst R;by_cases an:i<Z l;have I:=AK an;let⟨r2,A⟩:=X6 I;have g:V ((l.take (i+1)).foldl (qz t) t=qz t tt l[i]):=by
  rw[V,AT,I,BN,foldl_append,<-N.o];rfl
 generalize l[i]=ab at A g;let⟨S,Q⟩:=ab;dsimp only at A;clear I;by_cases C:S=t;have a7:(S==t):=ns C
 have g:V ((l.take (i+1)).foldl (qz t) t=Q):=by rw[V,g.o,qz,if_pos C]
 clear C;refine X ?_;refine Ax Ag (λ_=>True) [] [0,1,2,3,4,5,6,7,8,9,10] [] AH (λ_ _ _ h=>h) ?_;intro yb ya;refine X ?_;exact⟨Q,nk,by rw[V,g.o]⟩;have a7:(S==t)=false:=nn C;have g:V ((l.take (i+1)).foldl (qz t) t=tt):=by rw[V,g.o,qz,if_neg C]
 clear C;refine X ?_;refine Ax Ag (λ_=>True) [] [0,1,2,3,4,5,6,7,8,9,10] [] AH (λ_ _ _ h=>h) ?_;intro yb ya;refine X ?_;exact⟨tt,nk,by rw[V,g.o]⟩;obtain rfl:i=Z l:=L;rw[AS]at N;have g:V (((a.A.take (q+1)).map (r6 l)).map O=((a.A.take q).map (r6 l)).map O++[O tt]):=by
  rw[V,AT,p.o,BN,N.o];simp[r6]
 have a5:Z (((a.A.take q).map (r6 l)).map O)=q*1:=by simp;omega
 generalize ((a.A.take q).map (r6 l)).map O=xs at K g a5;refine m5 ?_;intro yb ya;intro a8 af aa ad ae ao ak am;refine X ?_;exact⟨a8,ad.put L _,by rw[g.o],J.put aa _ _⟩;obtain rfl:q=Z a.A:=L;rw[AS]at K;have m:Bf (Φ l a) [my a.nt,O a.B,sl D (Z a.A) ((a.A.map (r6 l)).map O)]:=⟨D,by simp[Φ]⟩;have G:=λo id P d=>G o id _ P m d;generalize (a.A.map (r6 l)).map O=xs at K m G;clear m
 (repeat (refine m0 ?_;intro yb ya;(first|(refine Xi (v _) ?_;rintro _ _ ⟨c2,rfl,ba,y⟩;(have az:=y.C;have a3:=y.B;obtain⟨aj,ai,b2,f,rfl⟩:=ba.cells;unfold A4 C8;unfold C8 at f;dsimp only at f⊢))|(refine Xi (G _ _ f _) ?_;rintro _ _ ⟨rfl,bn⟩))));refine X ?_
 exact⟨_,rfl,rfl,Xs⟩
theorem w9 {t n m e j}(h:ql t n m e)(a:ql t n m j):e=j:=by grind[ql]
def vc (t n m e)(b:ql t n m e)(c:e≠0)(a):ni 57 [O t,Y n,Y m,O [],Y e] a λB σ'=>B=my true/\W a σ':=by
 have j:∀a,ni 97 [O t,Y n,Y m] a λB σ'=>B=Y e/\W a σ':=λa=>(w8 t n m a).mono λB σ' ⟨x,d,g,i⟩=>⟨by grind[w9],i⟩;have l:(e !=e)=false:=nk;have A:(e !=0):=nn c;clear b c;apply wl func57
 repeat' first|refine Z1 ?_|refine Z8 λyb ya=>?_|refine Z4 ?_;clear ya yb|refine Z2 ?_ ?_<;>intro h y<;>try exact Xp|refine Z6 ?_;intro f k s o p v q u|refine Z5 ?_;apply Xi (j _);rintro _ _ ⟨rfl,z⟩|refine Z7 ?_|exact Zt|apply ya.o;clear ya yb
 exact⟨_,rfl,rfl⟩
structure Put (y:AB)(k:Nat)(ts:ol):Prop where
 fits:y.fits
 few:Z (Au y)<=26
 len:Z ts=Z (Au y)
 solid:∀t∈ts,wD 44 t/\Z t<=1000
 h:∀p∈(Au y).zip ts,p.1∈y.h.A->p.2=p.1
 lands:∀(j:Nat) (a:AE),y.A[j]?=some a->∃b∈y.A.eraseIdx k,J7 b (Φ ((Au y).zip ts) a)
def Ai8 {ts}(h:∀t∈ts,Z t<=1000):Z (Bp ts)<=Z ts*1001:=by
 have b:∀ts:ol,(∀t∈ts,Z t<=1000)->Z (Ch ts)<=Z ts*1001:=by
  intro ts;induction ts with
  |nil=>intro _;simp[Ch]
  |cons t ts d=>
   intro h;have c:=d λu a=>h u (ns a);have e:=h t nk;rw[Ch]at*
   simp only[DN,AX,BQ];omega
 cases ts with
 |nil=>simp[Bp]
 |cons t ts=>
  have c:=b ts λu a=>h u (ns a);have e:=h t nk;rw[Bp];simp only[AX,BQ];omega
end Go.Proofs.YtmoeoppbmhfbpabGreatDoorJ
