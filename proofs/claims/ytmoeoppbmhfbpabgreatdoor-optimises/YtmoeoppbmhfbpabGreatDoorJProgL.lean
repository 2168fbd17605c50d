import Derived.Test.YtmoeoppbmhfbpabGreatDoorJProgG
import Derived.Test.YtmoeoppbmhfbpabGreatDoorJGramD
set_option maxHeartbeats 16000000
set_option maxRecDepth 100000
set_option linter.all false
open List renaming length->Z
namespace Go.Proofs.YtmoeoppbmhfbpabGreatDoorJ
open Go.Abs
def PC (N:ol)(a:AE)(c:oh):Prop:=a.B∈N/\∃b,c=[ic (N.idxOf a.B:Nat),sl b (Z a.A) (A0 a.A)]
def iN {N}(a c)(h:PC N a c):Z c=2:=by obtain⟨-,b,rfl⟩:=h;rfl
def Pu {N l cs i a}(h:EL (PL N) l cs)(f:l[i]?=some a):a.B∈N/\∃b r,cs.drop (i*3)=my a.nt::ic (N.idxOf a.B:Nat)::sl b (Z a.A) (A0 a.A)::r:=by
 obtain⟨c,r,⟨d,b,rfl⟩,e⟩:=EL.get Eh h f;exact⟨d,b,r,e⟩
def OZ {N l cs i a}(h:EL (PC N) l cs)(f:l[i]?=some a):a.B∈N/\∃b r,cs.drop (i*2)=ic (N.idxOf a.B:Nat)::sl b (Z a.A) (A0 a.A)::r:=by
 obtain⟨c,r,⟨d,b,rfl⟩,e⟩:=EL.get iN h f;exact⟨d,b,r,e⟩
def Ih {N l cs i x}(h:EL (PI N) l cs)(f:l[i]?=some x):x.h.B∈N/\∃ih id b r,EL (PL N) x.A b/\cs.drop (i*4)=my x.o::ic (N.idxOf x.h.B:Nat)::sl ih (Z x.h.A) (A0 x.h.A)::sl id (Z x.A) b::r:=by
 obtain⟨c,r,⟨d,ih,id,b,a,rfl⟩,e⟩:=EL.get Ew h f;exact⟨d,ih,id,b,r,a,e⟩
def XS {N l cs}(h:EL (PC N) l cs):∀c∈cs,Plain c:=by
 induction l generalizing cs with
 |nil=>have h:cs=[]:=h;subst h;simp
 |cons a l e=>
  obtain⟨i,j,⟨-,g,rfl⟩,f,rfl⟩:=h;intro c b;rcases AW.1 b with b|b;simp only[BD,EK,DZ]at b;rcases b with rfl|rfl;exact .inl ⟨_,rfl⟩;refine .inr ⟨_,_,_,rfl,λx d=>?_⟩;simp only[A0,EX,T4,BD,EK,DZ]at d;obtain⟨w,-,rfl|rfl⟩:=d<;>exact⟨_,rfl⟩;exact e f c b
def uW {xs c:oh}{n u v a b}(d:Z xs=n):((xs++u::v::c).set n a).set (n+1) b=xs++a::b::c:=by
 subst d;rw[List.set_append_right _ _ (AU _),GX,List.set_cons_zero,List.set_append_right _ _ AA,Nat.add_sub_cancel_left,List.set_cons_succ,List.set_cons_zero]
def U8 {m}(h:0<m)(u v:AV):(List.replicate m [u,v]).flatten=u::v::(List.replicate (m-1) [u,v]).flatten:=by
 obtain⟨k,rfl⟩:∃k,m=k+1:=⟨m-1,AA⟩;rw[List.replicate_succ];rfl
def xK (N x c)(I:PI N x c)(K:x.o=false)(T:Z x.A<=1000)(d):ni 133 [ag c] d λr g=>∃(o n:Nat) (cs:oh),r=fx o 0 n/\d.B<=o/\g.C o=cs/\AD d g/\(∀c∈cs,Plain c)/\(n=Z (Af x)/\EL (PC N) (Af x) cs):=by
 obtain⟨B,q,id,b,z,rfl⟩:=I;have U:=EL.length Eh z;refine Z9 33 [.tmp 2] Tryz.func133 ?_;refine mr ?_;have v:AD d (d.new [my false,ic (N.idxOf x.h.B:Nat),sl q (Z x.h.A) (A0 x.h.A),sl id (Z x.A) b]):=(AD.refl _).new _;have u:((Z x.A:Int)+1).toNat=Z x.A+1:=AA
 refine Ae (λm s g=>∃(k:Nat) (e:oh),m=Z x.A-k/\k<=Z x.A/\s 3=fx (d.B+1) 0 (Z x.A+1)/\s 18=sl id (Z x.A) b/\s 19=ic (Z x.A)/\s 20=ic k/\AD d g/\d.B+1<g.B/\g.C (d.B+1)=e/\Z e=(Z x.A+1)*2/\AC (∃f,e=f++(List.replicate (Z x.A-k) [ic 0,nilS]).flatten/\Z f=(1+k)*2/\EL (PC N) (x.h::x.A.take k) f)) (Z x.A)
  ⟨0,_,AA,AA,by simp[upd,u],AG,AG,rfl,(v.new _).put AA _,BJ,Ak,by simp[u],[ic (N.idxOf x.h.B:Nat),sl q (Z x.h.A) (A0 x.h.A)],?_,nk,EL.single ⟨B,q,rfl⟩⟩ ?_
 ·rw[u,U8 AA];rfl
 clear v;rintro m s g ⟨k,e,rfl,O,Q,V,L,R,t,P,C,F,A⟩;have S:=t.B;by_cases D:k<Z x.A
 ·have p:=AK D;obtain⟨y,l,r,J⟩:=Pu z p;generalize x.A[k]=a at J p y;have G:AC (x.A[k]?=some a):=p;clear p;have M:((k:Int)+1).toNat=k+1:=AA
  refine mr ?_;have H:AC (∃f,(e.set ((k+1)*2) (ic (N.idxOf a.B:Nat))).set ((k+1)*2+1) (sl l (Z a.A) (A0 a.A))=f++(List.replicate (Z x.A-(k+1)) [ic 0,nilS]).flatten/\Z f=(1+(k+1))*2/\EL (PC N) (x.h::x.A.take (k+1)) f):=by
   obtain⟨f,j,e2,i⟩:=A.o;refine⟨f++[ic (N.idxOf a.B:Nat),sl l (Z a.A) (A0 a.A)],?_,by simp[e2];omega,?_⟩
   ·rw[j,U8 AA,uW (by rw[e2];omega)];simp[Nat.sub_sub]
   rw[AT,G.o];exact EL.append i (EL.single ⟨y,l,rfl⟩)
  refine⟨Z x.A-(k+1),AA,k+1,(e.set ((k+1)*2) (ic (N.idxOf a.B:Nat))).set ((k+1)*2+1) (sl l (Z a.A) (A0 a.A)),?_⟩
  ((repeat' refine Zi ?_ ?_)<;>first|exact Xq|exact (((t.new _).put t.B _).put AA _)|exact Ak|exact H|exact (by simp[F])|exact Xs)
 have E:k=Z x.A:=AA;subst E;obtain⟨f,j,e2,i⟩:=A.o;rw[GX,List.replicate_zero,List.flatten_nil,EJ]at j;rw[AS]at i;subst j;have W:Af x=x.h::x.A:=by simp[Af,K]
 refine mr ?_;exact⟨_,rfl,d.B+1,_,e,rfl,AA,C,XS i,rfl,i⟩
def qY (N x c)(e:PI N x c)(i:x.o=true)(d):ni 133 [ag c] d λr a=>r=nilS/\AD d a:=by
 obtain⟨j,g,id,b,f,rfl⟩:=e;refine Z9 33 [.tmp 2] Tryz.func133 ?_;refine mr ?_
 first
 |exact⟨_,rfl,rfl,Xs⟩
 |exact⟨rfl,Xs⟩
def Nj (N x c)(e:PI N x c)(f:x.o=true->x.A=[])(i:Z x.A<=1000)(d):ni 133 [ag c] d λr b=>∃id cs,r=sl id (Z (Af x)) cs/\EL (PC N) (Af x) cs/\AD d b:=by
 by_cases a:x.o=true;refine (qY N x c e a d).mono λr b h=>?_;obtain⟨rfl,h⟩:=h;exact⟨1,[],by simp[Af,a,f a],by simp[Af,a,f a,EL],h⟩;have a:x.o=false:=nn a;refine (AF.freeze (xK N x c e a i d)).mono λr b h=>?_;obtain⟨n,cs,rfl,⟨rfl,j⟩,g⟩:=h;exact⟨0,cs,rfl,j,g⟩
def Gm {b k w}(h:b[k]?=some w):∃r,(A0 b).drop (k*2)=my ((Aq w).1)::ic (Aq w).2::r:=by
 have f:∀b:ol,EL (λw c=>c=T4 w) b (A0 b):=by
  intro b;induction b with
  |nil=>rfl
  |cons a l d=>exact⟨T4 a,A0 l,rfl,d,by simp[A0]⟩
 obtain⟨c,r,rfl,e⟩:=EL.get (z:=2) (λa c h=>by rw[h];rfl) (f b) h;exact⟨r,e⟩
def Ot {p:Nat->Bool}{i}(h:∀j,j<i->p j=false)(a:p i=false):∀j,j<i+1->p j=false:=λj b=>by
 by_cases e:j=i;rw[e];exact a;exact h j AA
def Ql (v:Int)(w:Tx):Bool:=(Aq w).1&&(Aq w).2==v
def nU (a:AE)(v:Int)(i:Nat):Bool:=match a.A[i]? with|some w=>Ql v w|none=>false
def lX (k ids a v)(H:Z a.A<=1000)(d):ni 217 [ag [ic k,sl ids (Z a.A) (A0 a.A)],ic v] d λr c=>r=ic (Bn (nU a v) (Z a.A))/\AD d c:=by
 have G:=Fh a.A;refine Z9 25 [.tmp 4] Tryz.func217 ?_;refine mr ?_
 refine Ae (λm s c=>∃i:Nat,m=Z a.A-i/\i<=Z a.A/\s 1=ic v/\s 8=sl ids (Z a.A) (A0 a.A)/\s 9=ic (Z a.A)/\s 10=ic i/\AD d c/\AC (∀j,j<i->nU a v j=false)) (Z a.A)
  ⟨0,AA,AA,rfl,rfl,rfl,rfl,Xs,λj E=>AA⟩ ?_
 rintro m s c ⟨i,rfl,F,A,C,D,y,o,b⟩;by_cases n:i<Z a.A
 ·have e:=AK n;obtain⟨r,f⟩:=Gm e;generalize a.A[i]=w at f e;have p:AC (nU a v i=Ql v w):=by rw[AC,nU,e]
  clear e;have z:=o.B;generalize l:(Aq w).1=x at f;generalize g:(Aq w).2=t at f;have q:AC (Ql v w=(x&&t==v)):=by rw[AC,Ql,l,g]
  clear l g
  repeat' first|refine Z1 ?_|refine Z8 λyb ya=>?_|refine Z4 ?_;clear ya yb|refine Z2 ?_ ?_<;>intro h B<;>try exact Xp|refine Z3 ?_|exact Zt|apply ya.o;clear ya yb
  ·exact⟨_,rfl,by rw[Gq n (by rw[p.o,q.o];simp[*]) b.o],Xs⟩
  all_goals exact⟨Z a.A-(i+1),AA,i+1,rfl,AA,nk,Xs,Ot b.o (by rw[p.o,q.o];simp[*])⟩
 have u:i=Z a.A:=AA;subst u;refine mr ?_
 first|exact⟨_,rfl,by rw[Ci b.o],o⟩|exact⟨_,rfl,by rw[Ci b.o]⟩
def sC {α:Type}(l:List α)(q p)(c:∀i,p i=match l[i]? with|some w=>q w|none=>false):(decide (Bn p (Z l)≠ -1))=l.any q:=by
 by_cases h:l.any q=true;rw[h];rw[CU]at h;obtain⟨w,g,e⟩:=h;obtain⟨i,a,f⟩:=List.getElem_of_mem g;by_cases b:Bn p (Z l)= -1;exfalso;unfold Bn at b;split at b;omega;rename_i d;rw[KB]at d;have:=d i (nn a);rw[c,AK a,f]at this;simp[e]at this;simpa using b;have h:l.any q=false:=nn h
 rw[h,Ci (λi a=>by
  rw[c,AK a];rw[EV]at h
  simpa using h l[i] (AR a))]
 simp
def xJ (k ids)(a:AE)(v)(c:Z a.A<=1000)(d):ni 232 [ag [ic k,sl ids (Z a.A) (A0 a.A)],ic v] d λr b=>r=my (a.A.any (Ql v))/\AD d b:=by
 have e:=sC a.A (Ql v) (nU a v) (λi=>by unfold nU;cases a.A[i]?<;>rfl);refine Z9 9 [.tmp 4] Tryz.func232 ?_;refine m0 ?_;intro yb ya;refine Xi (lX _ _ a v c _) ?_;rintro _ _ ⟨rfl,f⟩;refine mr ?_;refine⟨_,rfl,?_,Xs⟩;rw[<-e,show (Bn (nU a v) (Z a.A) != -1)=decide (Bn (nU a v) (Z a.A)≠ -1)from by rw[GI];simp]
def Ga (x:AB)(v:Int):Bool:=x.A.any λa=>!a.nt&&a.A.any (Ql v)
def mD (N x c v)(y:PI N x c)(p:x.fits)(d):ni 192 [ag c,ic v] d λr f=>r=my (Ga x v)/\AD d f:=by
 obtain⟨B,A,id,b,n,rfl⟩:=y;have C:=EL.length Eh n;obtain⟨M,E,q⟩:=p;refine Z9 24 [.tmp 4] Tryz.func192 ?_;refine mr ?_
 refine Ae (λm s f=>∃i:Nat,m=Z x.A-i/\i<=Z x.A/\s 1=ic v/\s 8=sl id (Z x.A) b/\s 9=ic (Z x.A)/\s 10=ic i/\AD d f/\AC ((x.A.take i).any (λa=>!a.nt&&a.A.any (Ql v))=false)) (Z x.A)
  ⟨0,AA,AA,rfl,rfl,rfl,rfl,Xs,by simp[AC]⟩ ?_
 rintro m s f ⟨i,rfl,L,G,I,J,O,l,e⟩;by_cases j:i<Z x.A
 ·have g:=AK j;have o:=q x.A[i] (AR j);obtain⟨u,K,r,z⟩:=Pu n g;generalize x.A[i]=a at z g u o;have k:AC (x.A[i]?=some a):=g;clear g;have D:=l.B
  repeat' first|refine Z1 ?_|refine Z8 λyb ya=>?_|refine Z4 ?_;clear ya yb|refine Z2 ?_ ?_<;>intro h H<;>try exact Xp|refine Z5 ?_;refine Xi (xJ _ _ a v o _) ?_;rintro _ _ ⟨rfl,F⟩|refine Z3 ?_|exact Zt|apply ya.o;clear ya yb
  ·exact⟨_,rfl,by rw[Ga,D4 _ k.o (by simp[*])],Xs⟩
  all_goals
   refine⟨Z x.A-(i+1),AA,i+1,rfl,AA,nk,Xs,?_⟩;rw[AC,any_take_succ _ k.o,e.o];simp[*]
 have t:i=Z x.A:=AA;subst t;rw[AS]at e;refine mr ?_
 first|exact⟨_,rfl,by rw[Ga,e.o],l⟩|exact⟨_,rfl,by rw[Ga,e.o]⟩
def Fi (x:AB):Bool:=!(Af x).any λa=>a.A.any λw=>(Aq w).1&&!Ga x (Aq w).2
def Xy (N x c)(D:PI N x c)(W:x.o=true->x.A=[])(k:x.fits)(d):ni 146 [ag c] d λr f=>r=my (Fi x)/\AD d f:=by
 have V:=Nj N x c D W (by have:=k.1;omega);have X:=λv=>mD N x c v D k;obtain⟨hm,p,id,b,hb,rfl⟩:=D;have a5:=EL.length Eh hb;have a6:=k.atoms;have Y:∀a∈Af x,Z a.A<=1000:=by
  intro a q;unfold Af at q;rcases AW.1 q with h|h
  ·split at h
   ·cases h
   simp at h;subst h;exact k.2.1
  exact k.2.2 a h
 refine Z9 32 [.tmp 2] Tryz.func146 ?_;refine m0 ?_;intro yb ya;refine Xi (V _) ?_;rintro _ _ ⟨n,E,rfl,M,o⟩;(have H:=o.C;have ah:=o.B;(try simp only[Aa,Ac,Az]at ah));refine mr ?_;rename_i l;have a4:=EL.length iN M;have Q:l.C d.B=[my x.o,ic (N.idxOf x.h.B:Nat),sl p (Z x.h.A) (A0 x.h.A),sl id (Z x.A) b]:=by rw[H _ (by rw[Aa];omega),Ao]
 have o:AD (d.new [my x.o,ic (N.idxOf x.h.B:Nat),sl p (Z x.h.A) (A0 x.h.A),sl id (Z x.A) b]) l:=o
 refine Ae (λm s f=>∃i:Nat,m=Z (Af x)-i/\i<=Z (Af x)/\s 1=ptr d.B 0/\s 8=sl n (Z (Af x)) E/\s 9=ic (Z (Af x))/\s 10=ic i/\AD l f/\AC (((Af x).take i).any (λa=>a.A.any λw=>(Aq w).1&&!Ga x (Aq w).2)=false)) (Z (Af x))
  ⟨0,AA,AA,rfl,rfl,rfl,rfl,AD.refl _,by simp[AC]⟩ ?_
 rintro m s f ⟨i,rfl,hi,C,u,y,t,g,B⟩;have K:=g.B;have J:f.C d.B=[my x.o,ic (N.idxOf x.h.B:Nat),sl p (Z x.h.A) (A0 x.h.A),sl id (Z x.A) b]:=by rw[g.C _ AA,Q]
 have a7:AD d l:=((AD.refl d).new _).trans o;clear H;by_cases L:i<Z (Af x)
 ·have e:=AK L;have ax:=Y (Af x)[i] (AR L);obtain⟨q,ia,r,hd⟩:=OZ M e;generalize (Af x)[i]=a at hd e q ax;have F:AC ((Af x)[i]?=some a):=e;clear e;have a3:=Fh a.A
  refine mr ?_
  refine Ae (λm s f=>∃j:Nat,m=Z a.A-j/\j<=Z a.A/\s 1=ptr d.B 0/\s 8=sl n (Z (Af x)) E/\s 9=ic (Z (Af x))/\s 10=ic i/\s 15=sl ia (Z a.A) (A0 a.A)/\s 16=ic (Z a.A)/\s 17=ic j/\AD l f/\AC ((a.A.take j).any (λw=>(Aq w).1&&!Ga x (Aq w).2)=false)) (Z a.A)
   ⟨0,AA,AA,by simp[upd,C],by simp[upd,u],by simp[upd,y],by simp[upd,t],rfl,rfl,rfl,(g.new _).put g.B _,by simp[AC]⟩ ?_
  clear J g K C u y t;rintro m s f ⟨j,rfl,hj,C,u,y,t,bb,ba,a9,g,z⟩;have K:=g.B;have J:f.C d.B=[my x.o,ic (N.idxOf x.h.B:Nat),sl p (Z x.h.A) (A0 x.h.A),sl id (Z x.A) b]:=by rw[g.C _ AA,Q]
  by_cases S:j<Z a.A
  ·have e:=AK S;obtain⟨r2,A⟩:=Gm e;generalize a.A[j]=w at A e;have I:AC (a.A[j]?=some w):=e;clear e;generalize P:(Aq w).1=w1 at A;generalize O:(Aq w).2=R at A;have G:AC (((Aq w).1&&!Ga x (Aq w).2)=(w1&&!Ga x R)):=by rw[AC,P,O]
   clear P O
   repeat' first|refine Z1 ?_|refine Z8 λyb ya=>?_|refine Z4 ?_;clear ya yb|refine Z2 ?_ ?_<;>intro h ab<;>try exact Xp|refine Z5 ?_;refine Xi (X _ _) ?_;rintro _ _ ⟨rfl,a8⟩|refine Z3 ?_|exact Zt|apply ya.o;clear ya yb
   ·exact⟨_,rfl,by rw[Fi,D4 _ F.o (D4 _ I.o (by rw[G.o];simp[*]))];rfl,Xs⟩
   all_goals
    refine⟨Z a.A-(j+1),AA,j+1,rfl,AA,nk,Xs,?_⟩;rw[AC,any_take_succ _ I.o,z.o,G.o];simp[*]
  have U:j=Z a.A:=AA;subst U;rw[AS]at z;refine mr ?_;refine⟨Z (Af x)-(i+1),AA,i+1,rfl,AA,nk,?_⟩;rw[AC,any_take_succ _ F.o,B.o,z.o];rfl
 have T:i=Z (Af x):=AA;subst T;rw[AS]at B;refine mr ?_;exact⟨_,rfl,by rw[Fi,B.o];rfl,Xs⟩
abbrev Cq (N:ol)(idn:Nat)(l:n0)(a:Nat)(cs:oh):AV:=ag [sl idn (Z N) (N.map str),sl a (Z l) cs]
structure Bk (N:ol)(l:n0)(cs:oh):Prop where
 el:EL (PI N) l cs
 len:Z l<=16
 fits:∀x∈l,x.fits
 o:∀x∈l,x.o=true->x.A=[]
 nm:Z N<=2000
 pos:∀x∈l,∀a∈Af x,0<Z a.A
def Oi (l:n0)(i:Nat):Bool:=match l[i]? with|some x=>!Fi x|none=>false
def PI.of {N x ih id b}(a:x.h.B∈N)(h:EL (PL N) x.A b):PI N x [my x.o,ic (N.idxOf x.h.B:Nat),sl ih (Z x.h.A) (A0 x.h.A),sl id (Z x.A) b]:=⟨a,ih,id,b,h,rfl⟩
def To (N l cs idn idi)(a:Bk N l cs)(d):ni 122 [Cq N idn l idi cs] d λr e=>r=ic (Bn (Oi l) (Z l))/\AD d e:=by
 have I:=EL.length Ew a.el;have A:=a.len;refine Z9 18 [.tmp 2] Tryz.func122 ?_;refine mr ?_
 refine Ae (λm s e=>∃i:Nat,m=Z l-i/\i<=Z l/\s 6=sl idi (Z l) cs/\s 7=ic (Z l)/\s 8=ic i/\AD d e/\AC (∀j,j<i->Oi l j=false)) (Z l)
  ⟨0,AA,AA,rfl,rfl,rfl,Xs,λj G=>AA⟩ ?_
 rintro m s e ⟨i,rfl,H,F,C,D,p,c⟩;have B:=p.B;by_cases g:i<Z l;have f:=AK g;have n:=a.fits l[i] (AR g);have o:=a.o l[i] (AR g);obtain⟨k,y,id,b,r,q,v⟩:=Ih a.el f;generalize l[i]=x at v f n o q k;have t:AC (Oi l i=!Fi x):=by rw[AC,Oi,f]
 clear f;refine m0 ?_;intro yb ya;refine Xi (Xy N x _ (PI.of k q) o n _) ?_;rintro _ _ ⟨rfl,z⟩;refine m6 ?_ ?_<;>intro h E;exact⟨_,rfl,by rw[Gq g (by rw[t.o];simp[*]) c.o],Xs⟩;exact⟨Z l-(i+1),AA,i+1,rfl,AA,nk,Xs,Ot c.o (by rw[t.o];simp[*])⟩;have u:i=Z l:=AA;subst u;refine mr ?_
 first|exact⟨_,rfl,by rw[Ci c.o],p⟩|exact⟨_,rfl,by rw[Ci c.o]⟩
def Ju (S:oq)(p:Tx):Nat:=match S.find? (λa=>a.B==p)with|some a=>Z a.A|none=>0
def Se (S:oq):Prop:=∀b∈S,0<Z b.A/\Z b.A=Ju S b.B
def XE (S a p):Ju (S++[a]) p=match S.find? (λa=>a.B==p)with|some b=>Z b.A|none=>if a.B=p then Z a.A else 0:=by
 unfold Ju;rw[List.find?_append];cases c:S.find? (λa=>a.B==p)with
 |some b=>simp
 |none=>by_cases h:a.B=p<;>simp[h]
def Zd {S}(h:Se S)(p):Ju S p=0↔S.find? (λa=>a.B==p)=none:=by
 unfold Ju;cases c:S.find? (λa=>a.B==p)with
 |none=>simp
 |some b=>
  have d:=(h b (ME c)).1;constructor;intro e;have e:Z b.A=0:=e;omega;intro e;cases e
def eZ {S}(h:Se S)(a):S.any (clash a)=true↔(Ju S a.B≠0/\Ju S a.B≠Z a.A):=by
 rw[CU];constructor;rintro⟨b,f,d⟩;simp only[clash,BM,DO,CV]at d;have:=h b f;rw[d.1]at this;omega;rintro⟨j,k⟩;have i:S.find? (λb=>b.B==a.B)≠none:=λe=>j ((Zd h _).2 e);cases c:S.find? (λb=>b.B==a.B)with
 |none=>exact absurd c i
 |some b=>
  have g:(b.B==a.B)=true:=List.find?_some (p:=λb:AE=>b.B==a.B) c;have l:Ju S a.B=Z b.A:=by unfold Ju;rw[c]
  exact⟨b,ME c,by simp only[clash,g,FV,CV];omega⟩
def Zc {S}(h:Se S)(a p):Ju (S++[a]) p=if p=a.B/\Ju S a.B=0 then Z a.A else Ju S p:=by
 rw[XE];cases f:S.find? (λb=>b.B==p)with
 |some b=>
  have c:Ju S p≠0:=λe=>by rw[Zd h,f]at e;cases e
  have g:¬(p=a.B/\Ju S a.B=0):=λe=>c (by rw[e.1];exact e.2);have i:Ju S p=Z b.A:=by unfold Ju;rw[f]
  rw[if_neg g,i]
 |none=>
  have c:Ju S p=0:=(Zd h _).2 f;by_cases e:p=a.B;subst e;rw[if_pos rfl,if_pos ⟨rfl,c⟩];rw[if_neg (λd=>e d.symm),if_neg (by rintro⟨d,-⟩;exact e d),c]
def eY {S a}(h:Se S)(f:0<Z a.A)(d:S.any (clash a)=false):Se (S++[a]):=by
 have i:¬(Ju S a.B≠0/\Ju S a.B≠Z a.A):=λe=>by rw[<-eZ h a,d]at e;cases e
 intro b c;rw[Zc h];rcases AW.1 c with c|c;have:=h b c;refine⟨this.1,?_⟩;by_cases e:b.B=a.B/\Ju S a.B=0;rw[e.1]at this;omega;rw[if_neg e];exact this.2;simp at c;subst c;refine⟨f,?_⟩;by_cases e:Ju S b.B=0;rw[if_pos ⟨rfl,e⟩];rw[if_neg (by rintro⟨-,g⟩;exact e g)];omega
def XC:Se []:=λb a=>by cases a
def Pe (n:Nat)(a:Nat->Int):oh:=(List.range n).map λi=>ic (a i)
def Zb (n cc):Z (Pe n cc)=n:=by simp[Pe]
def N0 {n i}(cc)(h:i<n):(Pe n cc)[i]?=some (ic (cc i)):=by simp[Pe,h]
def WX {n i}(cc v):(Pe n cc).set i (ic v)=Pe n (λj=>if j=i then v else cc j):=by
 apply FL;intro j;rw[GH];by_cases a:j<n;rw[N0 (λj=>if j=i then v else cc j) a];by_cases e:i=j;subst e;rw[if_pos rfl,Zb,if_pos a];simp;rw[if_neg e,N0 _ a,if_neg (λd=>e d.symm)];have b:(Pe n λj=>if j=i then v else cc j)[j]?=none:=by simp[Pe];omega
 have c:(Pe n cc)[j]?=none:=by simp[Pe];omega
 rw[b,c];split;rw[Zb];rw[if_neg AA];rfl
def yX (n):List.replicate n (ic 0)=Pe n λ_=>0:=by
 apply FL;intro j;by_cases a:j<n;rw[N0 _ a];simp[a];simp[Pe,a]
def E9 {N:ol}{p q}(b:p∈N)(a:q∈N)(h:N.idxOf p=N.idxOf q):p=q:=by
 have d:=FN (CS b);have c:=FN (CS a);rw[<-d,<-c];congr 1
def EG (N:ol)(S:oq)(a:Nat->Int):Prop:=∀p∈N,a (N.idxOf p)=(Ju S p:Nat)
def EG.step {N S b a}(h:EG N S b)(g:Se S)(i:a.B∈N):
  (b (N.idxOf a.B)=0->EG N (S++[a]) (λj=>if j=N.idxOf a.B then (Z a.A:Int)else b j))/\(b (N.idxOf a.B)≠0->EG N (S++[a]) b):=by
 have k:=h a.B i;constructor;intro e p c;rw[Zc g];dsimp only;by_cases f:p=a.B;subst f;rw[if_pos rfl,if_pos ⟨rfl,AA⟩];rw[if_neg (λd=>f (E9 c i d)),if_neg (by rintro⟨d,-⟩;exact f d)];exact h p c;intro e p c;rw[Zc g,if_neg (by rintro⟨-,d⟩;omega)];exact h p c
def Uy (N l cs idn idi)(t:Bk N l cs)(d):ni 121 [Cq N idn l idi cs] d λr g=>r=ic (Bn (Gn l) (Z l))/\AD d g:=by
 have T:=EL.length Ew t.el;have bm:=t.len;have hN:=t.nm;refine Z9 52 [.tmp 2] Tryz.func121 ?_;refine mr ?_
 refine Ae (λm s g=>∃(i:Nat) (e:Nat->Int),m=Z l-i/\i<=Z l/\s 3=fx (d.B+1) 0 (Z N)/\s 13=sl idi (Z l) cs/\s 14=ic (Z l)/\s 15=ic i/\AD d g/\d.B+1<g.B/\g.C (d.B+1)=Pe (Z N) e/\AC (EG N (Ha l i) e)/\AC (Se (Ha l i))/\AC (TV l i)) (Z l)
  ⟨0,λ_=>0,AA,AA,?_,rfl,rfl,rfl,Xs,AM,?_,?_,by simp[AC,Ha,XC],λa h=>AA⟩ ?_
 simp[upd];show (if d.B+1=d.B+1 then _ else _)=_;rw[if_pos rfl];exact yX _;intro p hp;simp[Ha,Ju];rintro m s g ⟨i,e,rfl,hi,O,S,J,K,f,Y,aw,u,k,F⟩;have a8:=f.B;by_cases y:i<Z l;have o:=AK y;have P:=t.fits l[i] (AR y);have ba:=t.o l[i] (AR y);have a9:=t.pos l[i] (AR y);obtain⟨hm,ih,id,b,r,G,hd⟩:=Ih t.el o;generalize l[i]=x at hd o P ba G hm a9;have M:AC (l[i]?=some x):=o;clear o;have b3:=P.atoms;refine m0 ?_;intro yb ya;refine Xi (Nj N x _ (PI.of hm G) ba (by have:=P.1;omega) _) ?_;rintro _ _ ⟨I,Q,rfl,bf,R⟩;(have ah:=R.C;have ai:=R.B;(try simp only[Aa,Ac,Az]at ai));refine mr ?_;rename_i d1;have bq:=EL.length iN bf;have be:AD d d1:=Xs;have aj:d1.C (d.B+1)=Pe (Z N) e:=by
  rw[ah _ (by simp only[Aa,Ac];omega),Aj AA,Ah Y];exact aw
 clear ah
 refine Ae (λm s g=>∃(j:Nat) (e:Nat->Int),m=Z (Af x)-j/\j<=Z (Af x)/\s 3=fx (d.B+1) 0 (Z N)/\s 4=ic i/\s 13=sl idi (Z l) cs/\s 14=ic (Z l)/\s 15=ic i/\s 21=sl I (Z (Af x)) Q/\s 22=ic (Z (Af x))/\s 23=ic j/\AD d g/\d.B+1<g.B/\g.C (d.B+1)=Pe (Z N) e/\AC (EG N (Ct l x i j) e)/\AC (Se (Ct l x i j))/\AC (TN l x i j)) (Z (Af x))
  ⟨0,e,AA,AA,by simp[upd,O],AG,by simp[upd,S],by simp[upd,J],by simp[upd,K],AG,rfl,rfl,be,AA,aj,by simpa[Ct]using u,by simpa[Ct]using k,λb h=>AA⟩ ?_
 clear aj f aw u k R ai a8 O S J K Y e be;rintro m s g ⟨j,e,rfl,hj,O,h4,S,J,K,b6,b5,b4,f,Y,aw,u,k,V⟩;have a8:=f.B;by_cases X:j<Z (Af x);have o:=AK X;have q:=a9 (Af x)[j] (AR X);obtain⟨E,ia,r2,bb⟩:=OZ bf o;generalize (Af x)[j]=a at bb o E q;have C:AC ((Af x)[j]?=some a):=o;clear o;have U:AC (Mh l x i j=(Ct l x i j).any (clash a)):=by rw[AC,Mh,C.o]
 have ax:=CS E;have D:=u.o.step k.o E;have L:=u.o a.B E;have bc:=N0 e ax;have B:=λv=>WX (n:=Z N) (i:=N.idxOf a.B) e v;have b0:=Zb (Z N) e;generalize br:e (N.idxOf a.B)=c at bc D L;clear br;generalize N.idxOf a.B=ix at bb bc ax D B;have T:=eZ k.o a;have bg:AC _:=D;have H:AC _:=L;have a7:AC _:=T;clear D L T;by_cases A:(c==0)=true;have b2:((Pe (Z N) e).set ix (ic (Z a.A)))[ix]?=some (ic (Z a.A)):=by rw[B,N0 _ ax];simp
 have b1:((Z a.A:Int) !=Z a.A)=false:=nk;have bu:c=0:=nn A;have bz:AC _:=B;clear B;refine mr ?_;refine Ax Ag (λ_=>True) [8] [0,1,2,3,4,5,6,7] [8] AH (λ_ _ _ h=>h) ?_;intro yb ya;refine Z3 ?_;refine mr ?_;have z:(Ct l x i j).any (clash a)=false:=by
  cases W:(Ct l x i j).any (clash a)with
  |false=>rfl
  |true=>exfalso;have h1:=(a7.o.1 W).1;have h2:=H.o;omega
 refine⟨Z (Af x)-(j+1),AA,j+1,_,rfl,AA,nk,((f.new _).put f.B _).put AA _,AA,bz.o _,?_,?_,Ot V.o (by rw[U.o];exact z)⟩;rw[AC,I3 C.o];exact bg.o.1 bu;rw[AC,I3 C.o];exact eY k.o q z;have A:(c==0)=false:=nn A;clear B;refine mr ?_;refine Ax Ag (λ_=>True) [8] [0,1,2,3,4,5,6,7] [8] AH (λ_ _ _ h=>h) ?_;intro yb ya;refine Z3 ?_;refine m6 ?_ ?_<;>intro h ab;have bd:c≠0:=nn A;have bv:c≠Z a.A:=nn h;have bp:=a7.o.2 ⟨by have:=H.o;omega,by have:=H.o;omega⟩;have bi:Gn l i=true:=by
  unfold Gn;rw[M.o];dsimp only;rw[CU];exact⟨j,nn X,by rw[U.o];exact bp⟩
 exact⟨_,rfl,by rw[Gq y bi F.o],(f.new _).put f.B _⟩;have bd:c≠0:=nn A;have bv:c=Z a.A:=nn h;have z:(Ct l x i j).any (clash a)=false:=by
  cases W:(Ct l x i j).any (clash a)with
  |false=>rfl
  |true=>exfalso;have h1:=(a7.o.1 W).2;have h2:=H.o;omega
 refine⟨Z (Af x)-(j+1),AA,j+1,e,rfl,AA,nk,(f.new _).put f.B _,AA,rfl,?_,?_,Ot V.o (by rw[U.o];exact z)⟩;rw[AC,I3 C.o];exact bg.o.2 bd;rw[AC,I3 C.o];exact eY k.o q z;have bn:j=Z (Af x):=AA;subst bn;refine mr ?_;have bh:Ct l x i (Z (Af x))=Ha l (i+1):=by rw[dH M.o];simp[Ct]
 rw[bh]at u k;refine⟨Z l-(i+1),AA,i+1,e,rfl,AA,nk,rfl,u,k,Ot F.o ?_⟩;unfold Gn;rw[M.o];dsimp only;rw[EV];intro b G;have bw:=V.o b (nn G);simp[bw];have bo:i=Z l:=AA;subst bo;refine mr ?_
 first|exact⟨_,rfl,by rw[Ci F.o],f⟩|exact⟨_,rfl,by rw[Ci F.o]⟩
def Iq (n:Nat)(f:Nat->Bool):oh:=(List.range n).map λi=>my (f i)
def E0 (n f):Z (Iq n f)=n:=by simp[Iq]
def Hh {n i}(f)(h:i<n):(Iq n f)[i]?=some (my (f i)):=by simp[Iq,h]
def Ze {n i}(f v):(Iq n f).set i (my v)=Iq n (λj=>if j=i then v else f j):=by
 apply FL;intro j;rw[GH];by_cases a:j<n;rw[Hh (λj=>if j=i then v else f j) a];by_cases e:i=j;subst e;rw[if_pos rfl,E0,if_pos a];simp;rw[if_neg e,Hh _ a,if_neg (λd=>e d.symm)];have b:(Iq n λj=>if j=i then v else f j)[j]?=none:=by simp[Iq];omega
 have c:(Iq n f)[j]?=none:=by simp[Iq];omega
 rw[b,c];split;rw[E0];rw[if_neg AA];rfl
def fA (n):List.replicate n (my false)=Iq n λ_=>false:=by
 apply FL;intro j;by_cases a:j<n;rw[Hh _ a];simp[a];simp[Iq,a]
def F3 (B n k:Nat):oh:=(List.range k).map λi=>fx (B+i) 0 n
def I5 (B n k):Z (F3 B n k)=k:=by simp[F3]
def qL (B n k):F3 B n (k+1)=F3 B n k++[fx (B+k) 0 n]:=by simp[F3,List.range_succ]
def I6 {B n k i}(h:i<k):(F3 B n k).drop i=fx (B+i) 0 n::(F3 B n k).drop (i+1):=by
 rw[ET (by rw[I5];exact h)];simp[F3]
def By (B n:Nat)(M:Nat->Nat->Bool)(d:St):Prop:=∀i,i<n->d.C (B+i)=Iq n (M i)
def By.keep {B n M d a}(h:By B n M d)(k:AD d a)(c:B+n<=d.B):By B n M a:=λi b=>by rw[k.C _ AA];exact h i b
def By.new {B n M d}(h:By B n M d)(b:B+n<=d.B)(cs):By B n M (d.new cs):=λi a=>by rw[Ah AA];exact h i a
def By.put {B n o M d}(h:By B n M d)(b:B+n<=o)(cs):By B n M (d.put o cs):=λi a=>by rw[Aj AA];exact h i a
def By.set {B n p q M d}(h:By B n M d)(f:p<n)(v):By B n (set2 M p q v) (d.put (B+p) ((Iq n (M p)).set q (my v))):=λi b=>by
 by_cases e:i=p;subst e;rw[Ak,Ze];congr 1;funext j;simp[set2];have a:(d.put (B+p) ((Iq n (M p)).set q (my v))).C (B+i)=d.C (B+i):=by
  by_cases c:i<p;exact Aj AA;exact Oh AA
 rw[a,h i b];congr 1;funext j;simp[set2,e]
def Yj (N:ol)(l:n0)(p q:Nat):Prop:=∃x∈l,N.idxOf x.h.B=p/\∃a∈x.A,N.idxOf a.B=q
def jl (N:ol)(x:AB)(b:oq)(p q:Nat):Prop:=N.idxOf x.h.B=p/\∃a∈b,N.idxOf a.B=q
def Dw (N:ol)(l:n0)(M:Nat->Nat->Bool):Prop:=∀p q,M p q=true↔Yj N l p q
def BX (N:ol)(l:n0)(x:AB)(b:oq)(M:Nat->Nat->Bool):Prop:=∀p q,M p q=true↔Yj N l p q\/jl N x b p q
def BX.step {N l x j a M}(h:BX N l x (x.A.take j) M)(g:x.A[j]?=some a):BX N l x (x.A.take (j+1)) (set2 M (N.idxOf x.h.B) (N.idxOf a.B) true):=by
 intro p q;rw[AT,g];unfold set2;by_cases e:p=N.idxOf x.h.B/\q=N.idxOf a.B;rw[if_pos e];simp only[true_iff];exact .inr ⟨e.1.symm,a,nk,e.2.symm⟩;rw[if_neg e,h p q];constructor;rintro (h|⟨f,b,c,d⟩);exact .inl h;exact .inr ⟨f,b,by simp[c],d⟩;rintro (h|⟨f,b,c,d⟩);exact .inl h;simp only[BN,AW,FY]at c;rcases c with c|rfl;exact .inr ⟨f,b,c,d⟩;exact absurd ⟨f.symm,d.symm⟩ e
def BX.zero {N l x M}(h:Dw N l M):BX N l x (x.A.take 0) M:=by
 intro p q;rw[h p q];constructor;exact .inl;rintro (h|⟨-,b,a,-⟩);exact h;simp at a
def BX.done {N}{l:n0}{x i M}(h:BX N (l.take i) x x.A M)(b:l[i]?=some x):Dw N (l.take (i+1)) M:=by
 intro p q;rw[h p q,AT,b];constructor;rintro (⟨y,a,g⟩|g);exact⟨y,by simp[a],g⟩;exact⟨x,nk,g⟩;rintro⟨y,a,g⟩;simp only[BN,AW,FY]at a;rcases a with a|rfl;exact .inl ⟨y,a,g⟩;exact .inr g
def Un (N l cs idn idi)(C:Bk N l cs)(d):ni 206 [Cq N idn l idi cs] d λr c=>∃f B M,r=sl f (Z N) (F3 B (Z N) (Z N))/\AD d c/\d.B<=B/\B+Z N<=c.B/\By B (Z N) M c/\Dw N l M:=by
 have bv:=EL.length Ew C.el;have bi:=C.len;have hN:=C.nm;refine Z9 51 [.tmp 2] Tryz.func206 ?_;refine mr ?_
 refine Ae (λm s c=>∃(k f:Nat),m=Z N-k/\k<=Z N/\s 1=ptr d.B 0/\s 3=sl f k (F3 (d.B+1) (Z N) k)/\s 12=ic (Z N)/\s 13=ic k/\AD d c/\Own d c f k/\c.B=d.B+1+k/\c.C d.B=[sl idn (Z N) (N.map str),sl idi (Z l) cs]/\AC (∀i,i<k->c.C (d.B+1+i)=Iq (Z N) λ_=>false)) (Z N)
  ⟨0,1,AA,AA,rfl,rfl,rfl,rfl,Xs,Own.nil _ _,rfl,Ao,λi hi=>AA⟩ ?_
 rintro m s c ⟨k,f,rfl,hk,h1,z,br,bq,g,W,G,U,t⟩;have bc:=I5 (d.B+1) (Z N) k;by_cases E:k<Z N;refine nh ?_;intro yb ya;have bp:AD d (c.new (List.replicate (Z N) (my false))):=g.new _;refine Bo (by first|exact Q7) bp (Own.new W _) nr (by rfl) (by rw[bc,Nat.mul_one]) (by rfl) (by rfl) nr AA AA ?_;intro A dn ah ai ac aa af ab;have bf:dn.C d.B=[sl idn (Z N) (N.map str),sl idi (Z l) cs]:=by rw[ac,Ah AA];exact U
 rw[Aa,G]at aa;refine Z3 ?_;refine mr ?_;refine⟨Z N-(k+1),AA,k+1,A,rfl,AA,by rw[qL],nk,ah,AA,?_⟩;intro i hi
 try rw[ac]
 by_cases e:i=k;subst e;rw[<-G,Ao,fA];rw[Ah AA];exact t.o i AA;have bm:k=Z N:=AA;subst bm;refine mw ?_;intro h ae;have X:By (d.B+1) (Z N) (λ_ _=>false) c:=t.o;have y:d.B+1+Z N<=c.B:=AA;clear t G W U bq br h1
 refine Ae (λm s c=>∃(i:Nat) (M:Nat->Nat->Bool),m=Z l-i/\i<=Z l/\s 3=sl f (Z N) (F3 (d.B+1) (Z N) (Z N))/\s 25=sl idi (Z l) cs/\s 26=ic (Z l)/\s 27=ic i/\AD d c/\d.B+1+Z N<=c.B/\AC (By (d.B+1) (Z N) M c)/\AC (Dw N (l.take i) M)) (Z l)
  ⟨0,λ_ _=>false,AA,AA,by simp[upd,z],AG,AG,rfl,g,y,X,λp q=>by simp[Yj]⟩ ?_
 clear X y z g h ae E hk;rintro m s c ⟨i,M,rfl,hi,z,I,S,R,g,y,t,v⟩;have Y:=g.B;by_cases E:i<Z l;have u:=AK E;have a8:=C.fits l[i] (AR E);obtain⟨T,F,id,b,r,P,hd⟩:=Ih C.el u;generalize l[i]=x at hd u a8 P T;have HX:AC (l[i]?=some x):=u;clear u;have bw:=EL.length Eh P;have bu:=a8.1;have D:=CS T;refine mr ?_;have Q:AD d ((c.new [my false,ic 0,nilS,nilS]).put c.B [my x.o,ic (N.idxOf x.h.B:Nat),sl F (Z x.h.A) (A0 x.h.A),sl id (Z x.A) b]):=(g.new _).put g.B _;have O:=(t.o.new y [my false,ic 0,nilS,nilS]).put y [my x.o,ic (N.idxOf x.h.B:Nat),sl F (Z x.h.A) (A0 x.h.A),sl id (Z x.A) b];generalize a6:c.B=K at Q O y
 refine Ae (λm s o=>∃(j:Nat) (M:Nat->Nat->Bool),m=Z x.A-j/\j<=Z x.A/\s 3=sl f (Z N) (F3 (d.B+1) (Z N) (Z N))/\s 6=ptr K 0/\s 25=sl idi (Z l) cs/\s 26=ic (Z l)/\s 27=ic i/\s 32=sl id (Z x.A) b/\s 33=ic (Z x.A)/\s 34=ic j/\AD d o/\K<o.B/\o.C K=[my x.o,ic (N.idxOf x.h.B:Nat),sl F (Z x.h.A) (A0 x.h.A),sl id (Z x.A) b]/\AC (By (d.B+1) (Z N) M o)/\AC (BX N (l.take i) x (x.A.take j) M)) (Z x.A)
  ⟨0,M,AA,AA,by simp[upd,z],by simp[upd,a6],by simp[upd,I],by simp[upd,S],by simp[upd,R],AG,rfl,rfl,?_,?_,?_,?_,BX.zero v.o⟩ ?_
 exact Q;rw[Ac,Aa];omega;rw[Ak];exact O;clear O Q g t v z I S R Y M a6;rintro m s o ⟨j,M,rfl,hj,z,h6,I,S,R,b1,b0,bz,g,bg,ao,t,v⟩;have Y:=g.B;by_cases ap:j<Z x.A;have u:=AK ap;obtain⟨ha,ia,r2,a9⟩:=Pu P u;generalize x.A[j]=a at a9 u ha;have HA:AC (x.A[j]?=some a):=u;clear u;have be:=CS ha;have bd:=I6 (B:=d.B+1) (n:=Z N) (k:=Z N) D;have bh:=t.o _ D;have bb:=E0 (Z N) (M (N.idxOf x.h.B));have V:=BX.step v.o HA.o;have H:AC _:=V;have a7:=λ(τ:St) (L:By (d.B+1) (Z N) M τ)=>By.set (q:=N.idxOf a.B) L D true;have J:AC _:=a7;clear V a7;generalize N.idxOf x.h.B=ph at ao D bd bh bb H J;generalize N.idxOf a.B=qa at a9 be H J;refine mr ?_;refine Ax Ag (λ_=>True) [10] [0,1,2,3,4,5,6,7,8,9] [10] AH (λ_ _ _ h=>h) ?_;intro yb ya;refine Z3 ?_;refine mr ?_;exact⟨Z x.A-(j+1),AA,j+1,_,rfl,AA,nk,((g.new _).put g.B _).put AA _,AA,J.o _ (By.put (By.new t.o AA _) AA _),H.o⟩;have bn:j=Z x.A:=AA;subst bn;rw[AS]at v;refine mr ?_;exact⟨Z l-(i+1),AA,i+1,M,rfl,AA,nk,AA,t,BX.done v.o HX.o⟩;have bo:i=Z l:=AA;subst bo;rw[AS]at v;refine mr ?_;exact⟨_,rfl,f,d.B+1,M,rfl,AA,y,t.o,v.o⟩
def xM {n M W m i k}(h:part n M m i k W)(e:fw M m i k=M i k):part n M m i (k+1) W:=by
 intro a b;rw[h];by_cases d:(a<i/\b<n)\/(a=i/\b<k);rw[if_pos d,if_pos AA];rw[if_neg d];by_cases c:(a<i/\b<n)\/(a=i/\b<k+1);rw[if_pos c];have f:a=i:=AA;have e2:b=k:=AA;rw[f,e2,e];rw[if_neg c]
def xL {n M W m i}(h:part n M m i 0 W)(e:M i m=false):part n M m (i+1) 0 W:=by
 intro a b;rw[h];by_cases d:(a<i/\b<n)\/(a=i/\b<0);rw[if_pos d,if_pos AA];rw[if_neg d];by_cases c:(a<i+1/\b<n)\/(a=i+1/\b<0);rw[if_pos c];have f:a=i:=AA;rw[f];simp[fw,e];rw[if_neg c]
def P6 (N l cs idn idi)(F:Bk N l cs)(d):ni 175 [Cq N idn l idi cs] d λr a=>∃c B M,r=sl c (Z N) (F3 B (Z N) (Z N))/\AD d a/\d.B<=B/\B+Z N<=a.B/\By B (Z N) (F9 (Z N) M (Z N)) a/\Dw N l M:=by
 have hN:=F.nm;refine Z9 49 [.tmp 2] Tryz.func175 ?_;refine m0 ?_;intro yb ya;refine Xi (Un N l cs idn idi F _) ?_;rintro _ _ ⟨c,B,t,rfl,bb,bc,J,L,P⟩;(rw[Aa]at bc);refine mr ?_;rename_i S;have D:AC (Dw N l t):=P;clear P;have bh:=I5 B (Z N) (Z N);have O:AD d S:=Xs;clear bb
 refine Ae (λq s a=>∃m:Nat,q=Z N-m/\m<=Z N/\s 3=sl c (Z N) (F3 B (Z N) (Z N))/\s 10=ic (Z N)/\s 11=ic m/\AD d a/\B+Z N<=a.B/\AC (By B (Z N) (F9 (Z N) t m) a)) (Z N)
  ⟨0,AA,AA,rfl,rfl,rfl,O,J,L⟩ ?_
 clear O L J;rintro q s a ⟨m,rfl,hm,j,p,o,f,g,b⟩;by_cases u:m<Z N;generalize K:F9 (Z N) t m=M at b;have be:AC _:=K;clear K;refine mr ?_
 refine Ae (λq s a=>∃(i:Nat) (W:Nat->Nat->Bool),q=Z N-i/\i<=Z N/\s 3=sl c (Z N) (F3 B (Z N) (Z N))/\s 4=ic m/\s 10=ic (Z N)/\s 11=ic m/\s 15=ic (Z N)/\s 16=ic i/\AD d a/\B+Z N<=a.B/\AC (By B (Z N) W a)/\AC (part (Z N) M m i 0 W)) (Z N)
  ⟨0,M,AA,AA,by simp[upd,j],AG,by simp[upd,p],by simp[upd,o],rfl,rfl,f,g,b,dV⟩ ?_
 clear f g b j p o;rintro q s a ⟨i,W,rfl,hi,j,A,p,o,C,y,f,g,b,e⟩;by_cases x:i<Z N;have bi:=I6 (B:=B) (n:=Z N) (k:=Z N) x;have a7:=b.o _ x;have T:=E0 (Z N) (W i);have v:=Hh (W i) u;obtain⟨-,z,-⟩:=X7 e.o (by omega:0<Z N) u;rw[z]at v;have V:AC _:=z;clear z;refine m6 ?_ ?_<;>intro h aa;exact⟨Z N-(i+1),AA,i+1,W,rfl,AA,nk,b,xL e.o h⟩;have X:M i m=true:=h
 refine Ae (λq s a=>∃(k:Nat) (W:Nat->Nat->Bool),q=Z N-k/\k<=Z N/\s 3=sl c (Z N) (F3 B (Z N) (Z N))/\s 4=ic m/\s 5=ic i/\s 10=ic (Z N)/\s 11=ic m/\s 15=ic (Z N)/\s 16=ic i/\s 28=ic (Z N)/\s 29=ic k/\AD d a/\B+Z N<=a.B/\AC (By B (Z N) W a)/\AC (part (Z N) M m i k W)) (Z N)
  ⟨0,W,AA,AA,by simp[upd,j],by simp[upd,A],AG,by simp[upd,p],by simp[upd,o],by simp[upd,C],by simp[upd,y],rfl,rfl,f,g,b,e⟩ ?_
 clear f g b e j A p o C y v T a7 V h W;rintro q s a ⟨k,W,rfl,hk,j,A,h5,p,o,C,y,bn,bm,f,g,b,e⟩;by_cases I:k<Z N;obtain⟨-,-,G⟩:=X7 e.o I u;have bg:=I6 (B:=B) (n:=Z N) (k:=Z N) u;have a6:=b.o _ x;have a5:=b.o _ u;have a3:=E0 (Z N) (W i);have a0:=E0 (Z N) (W m);have v:=Hh (W m) I;rw[G]at v;clear G;have H:=By.set (q:=k) b.o x true;have bf:AC _:=H;clear H;generalize Q:M m k=R at v;have E:AC _:=Q;clear Q;cases R with
 |true=>
  refine mr ?_;exact⟨Z N-(k+1),AA,k+1,_,rfl,AA,nk,f.put AA _,bf.o,mE e.o (by simp[fw,X,E.o])⟩
 |false=>
  refine mr ?_;exact⟨Z N-(k+1),AA,k+1,W,rfl,AA,nk,b,xM e.o (by simp[fw,E.o])⟩
 have a9:k=Z N:=AA;subst a9;refine mr ?_;exact⟨Z N-(i+1),AA,i+1,W,rfl,AA,nk,b,mF e.o⟩;have U:i=Z N:=AA;subst U;refine mr ?_;refine⟨Z N-(m+1),AA,m+1,rfl,AA,nk,?_⟩;rw[AC,show F9 (Z N) t (m+1)=W by rw[mG e.o,<-be.o];rfl];exact b.o;have Y:m=Z N:=AA;subst Y;refine mr ?_
 first
 |exact⟨_,rfl,c,B,t,rfl,f,AA,g,b.o,D.o⟩
 |exact⟨_,rfl,c,B,t,rfl,AA,g,b.o,D.o⟩
def MW (N:ol)(U:Nat->Nat->Bool)(h:Tx)(a:AE):Bool:=a.nt&&(((N.idxOf a.B:Nat):Int)==((N.idxOf h:Nat):Int)||U (N.idxOf a.B) (N.idxOf h))
def dS (N:ol)(l:n0)(U:Nat->Nat->Bool)(i:Nat):Bool:=match l[i]? with|some x=>x.A.any (MW N U x.h.B)|none=>false
def bA (N l cs idn idi)(g:Bk N l cs)(d):ni 123 [Cq N idn l idi cs] d λr p=>∃M,Dw N l M/\r=ic (Bn (dS N l (F9 (Z N) M (Z N))) (Z l))/\AD d p:=by
 have bg:=EL.length Ew g.el;have ba:=g.len;have hN:=g.nm;refine Z9 52 [.tmp 2] Tryz.func123 ?_;refine m0 ?_;intro yb ya;refine Xi (P6 N l cs idn idi g _) ?_;rintro _ _ ⟨q,B,v,rfl,H,bd,X,O,V⟩;(rw[Aa]at bd;have aj:=H.C;have Y:=H.B;(try simp only[Aa,Ac,Az]at Y));refine mr ?_;rename_i d1;have A:AC (Dw N l v):=V;clear V aj;have bf:=I5 B (Z N) (Z N);have Q:AD d d1:=Xs;clear H;generalize hU:F9 (Z N) v (Z N)=U at O;have G:AC _:=hU;clear hU
 refine Ae (λm s p=>∃i:Nat,m=Z l-i/\i<=Z l/\s 3=sl q (Z N) (F3 B (Z N) (Z N))/\s 13=sl idi (Z l) cs/\s 14=ic (Z l)/\s 15=ic i/\AD d p/\B+Z N<=p.B/\AC (By B (Z N) U p)/\AC (∀j,j<i->dS N l U j=false)) (Z l)
  ⟨0,AA,AA,AG,AG,AG,rfl,Q,X,O,λj hj=>AA⟩ ?_
 clear Q O X Y;rintro m s p ⟨i,rfl,hi,C,L,K,J,c,o,u,y⟩;have S:=c.B;by_cases F:i<Z l
 ·have f:=AK F;have T:=g.fits l[i] (AR F);obtain⟨P,ih,id,b,r,I,hd⟩:=Ih g.el f;generalize l[i]=x at hd f T I P;have hv:AC (dS N l U i=x.A.any (MW N U x.h.B)):=by rw[AC,dS,f]
  clear f;have bh:=EL.length Eh I;have be:=T.1;have W:=CS P;refine mr ?_
  refine Ae (λm s e=>∃j:Nat,m=Z x.A-j/\j<=Z x.A/\s 3=sl q (Z N) (F3 B (Z N) (Z N))/\s 4=ic i/\s 6=ic (N.idxOf x.h.B:Nat)/\s 13=sl idi (Z l) cs/\s 14=ic (Z l)/\s 15=ic i/\s 24=sl id (Z x.A) b/\s 25=ic (Z x.A)/\s 26=ic j/\AD d e/\B+Z N<=e.B/\AC (By B (Z N) U e)/\AC ((x.A.take j).any (MW N U x.h.B)=false)) (Z x.A)
   ⟨0,AA,AA,by simp[upd,C],AG,AG,by simp[upd,L],by simp[upd,K],by simp[upd,J],AG,rfl,rfl,(c.new _).put c.B _,BJ,By.put (By.new u.o o _) o _,by simp[AC]⟩ ?_
  clear c u o C L K J S;rintro m s e ⟨j,rfl,hj,C,h4,h6,L,K,J,bn,bm,bi,c,o,u,D⟩;have S:=c.B;by_cases an:j<Z x.A
  ·have f:=AK an;obtain⟨ha,ia,r2,R⟩:=Pu I f;generalize x.A[j]=a at R f ha;have HA:AC (x.A[j]?=some a):=f;clear f;have z:=CS ha;have a8:=I6 (B:=B) (n:=Z N) (k:=Z N) z;have a9:=u.o _ z;have a7:=E0 (Z N) (U (N.idxOf a.B));have E:=Hh (U (N.idxOf a.B)) W;have t:AC (MW N U x.h.B a=(a.nt&&(((N.idxOf a.B:Nat):Int)==((N.idxOf x.h.B:Nat):Int)||U (N.idxOf a.B) (N.idxOf x.h.B)))):=rfl;generalize hu:U (N.idxOf a.B) (N.idxOf x.h.B)=uu at E t;clear hu;generalize N.idxOf a.B=pa at R z a8 a9 a7 E t;generalize N.idxOf x.h.B=ph at h6 E t W
   repeat' first|refine Z1 ?_|refine Z8 λyb ya=>?_|refine Z4 ?_;clear ya yb|refine Z2 ?_ ?_<;>intro h ab<;>try exact Xp|refine Z3 ?_|exact Zt|apply ya.o;clear ya yb
   all_goals
    first
    |(refine⟨_,rfl,v,A.o,?_,(c.new _).put c.B _⟩
      rw[G.o,Gq F (by rw[hv.o];exact D4 _ HA.o (by rw[t.o];simp[*])) y.o])
    |(refine⟨Z x.A-(j+1),AA,j+1,rfl,AA,nk,(c.new _).put c.B _,AA,By.put (By.new u.o o _) o _,?_⟩
      rw[AC,any_take_succ _ HA.o,D.o,t.o];simp[*])
  have bb:j=Z x.A:=AA;subst bb;rw[AS]at D;refine mr ?_;exact⟨Z l-(i+1),AA,i+1,rfl,AA,nk,Ot y.o (by rw[hv.o];exact D.o)⟩
 have bc:i=Z l:=AA;subst bc;refine mr ?_
 first
 |exact⟨_,rfl,v,A.o,by rw[G.o,Ci y.o],c⟩
 |exact⟨_,rfl,v,A.o,by rw[G.o,Ci y.o]⟩
end Go.Proofs.YtmoeoppbmhfbpabGreatDoorJ
