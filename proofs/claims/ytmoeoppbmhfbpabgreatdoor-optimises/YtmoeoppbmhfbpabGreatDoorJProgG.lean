import Derived.Test.YtmoeoppbmhfbpabGreatDoorJGramD
set_option maxHeartbeats 16000000
set_option maxRecDepth 100000
set_option linter.all false
open List renaming length->Z
namespace Go.Proofs.YtmoeoppbmhfbpabGreatDoorJ
open Go.Abs
variable {Bd:Nat}
def RS.new {t o N id s y}(h:RS Bd t o N id s y)(cs):RS Bd t o N id s (y.new cs):=
 ⟨by rw[Ah h.lt];exact h.C,by have:=h.lt;rw[Aa];omega,h.own,h.suf,h.len⟩
def RS.put {t o N id s y}(h:RS Bd t o N id s y){p}(a:o<p)(cs):RS Bd t o N id s (y.put p cs):=
 ⟨by rw[Aj a];exact h.C,h.lt,h.own,h.suf,h.len⟩
def RS.lay {t o N id s y}(h:RS Bd t o N id s y)(n):RS Bd t o N id s (y.lay n):=by
 refine⟨h.C,h.lt,?_,h.suf,h.len⟩;rcases h.own with e|⟨k,h1,h2,h3,h4⟩;exact .inl e;exact .inr ⟨k,h1,by rw[La];omega,by rw[Ve h2];exact h3,h4⟩
def Zr {p:Prop}(h:p:=by repeat (first|(with_reducible assumption)|(with_reducible apply RS.put;rotate_left;(first|omega|(simp only[Aa,Ac,Az,H6]at*;omega)))|(with_reducible apply RS.new)|(with_reducible apply RS.lay)|assumption)):p:=h
def Rs.new {o a b i j}(h:Rs o a i b j)(cs):Rs o a i (b.new cs) j:=⟨h.keep.new cs,h.nid⟩
def Rs.lay {o a b i j}(h:Rs o a i b j)(n):Rs o a i (b.lay n) j:=⟨h.keep.lay n,h.nid⟩
def An.putN {o id p y c}(h:An o id y c)(d:y.B<=p)(cs):An o id y (c.put p cs):=
 ⟨h.B,λq a b=>by simp[St.put];rw[if_neg AA];exact h.C q a b,λq a b=>by simp[St.put];rw[if_neg AA];exact h.ver q a b,h.D,h.top⟩
def Rs.put {o p a b i j}(h:Rs o a i b j)(c:a.B<=p)(cs):Rs o a i (b.put p cs) j:=⟨h.keep.putN c cs,h.nid⟩
def Rs.transX {o a b c i j}(h:Rs o a i b j)(k:AQ o b c):Rs o a i c j:=h.trans (Rs.ofX k)
def Zu {p:Prop}(h:p:=by repeat (first|exact Rs.refl _ _ _|(with_reducible assumption)|(with_reducible apply Rs.put;rotate_left;(first|omega|(simp only[Aa,Ac,Az,H6]at*;omega)))|(with_reducible apply Rs.new)|(with_reducible apply Rs.lay)|(refine Rs.trans ?_ (by with_reducible assumption))|(refine Rs.transX ?_ (by with_reducible assumption)))):p:=h
def An.x {o a b}(h:An o 0 a b):AQ o a b:=⟨h.B,h.C,h.ver,h.D,λk c=>h.top k c AA⟩
def Own.keepX {o σ0 y a id n}(h:Own σ0 y id n)(k:AQ o y a):Own σ0 a id n:=by
 rcases h with h|⟨j,h1,h2,h3,h4,h5⟩;exact .inl h;exact .inr ⟨j,h1,h2,BZ h3 k.D,(k.top j h3).trans h4,h5⟩
def Own.made' {σ0 b:St}(h:σ0.D<=b.D){n}(a:0<n):Own σ0 (b.lay n) (b.D+2) n:=.inr ⟨b.D,rfl,h,by simp[St.lay],by simp[St.lay],a⟩
def RS.app {t o N id b r X Y}(h:RS Bd t o N id r X)(c:Y.C=X.C)(d:Y.B=X.B)(f:X.D<Y.D)(a:∀k,k<X.D->k+2≠b->Y.top k=X.top k)(g:id=1\/id≠b):RS Bd t o N id r Y:=by
 refine⟨by rw[c];exact h.C,by rw[d];exact h.lt,?_,h.suf,h.len⟩;rcases h.own with e|⟨k,h1,h2,h3,h4⟩;exact .inl e;exact .inr ⟨k,h1,AA,(a k h2 AA).trans h3,h4⟩
def DL.apart {y X id a n m}(h:DL y id n)(g:Own y X a m):id=1\/id≠a:=by
 rcases h with⟨rfl,-⟩|⟨k,h1,h2,-⟩;exact .inl rfl;rcases g with⟨rfl,-⟩|⟨j,g1,g2,-⟩<;>omega
def K6 {c q}(h:(A5 c q).ok=false):A5 c q= .bad q:=by
 cases q with
 |nil=>rfl
 |cons b r=>
  unfold A5 at h⊢;dsimp only at h⊢;split at h;cases h;rename_i a;rw[if_neg a]
abbrev Ef (s:Tx):Rd ol:=Uu C0 2 s
def lL {t o N id s y}(I:Z t<=1000)(H:RS Bd t o N id s y):
  ni 184 [ptr o 0] y λx i=>∃n d c,x=tp [sl d n c,my ((Ef s).ok)]/\AQ o y i/\RS Bd t o N id (Ef s).rest i/\Rd.Val (Ef s) λf=>n=Z f/\c=A0 f:=by
 have hn:=H.lt;refine Z9 37 [.tmp 2,.tmp 3] Tryz.func184 ?_;refine m0 ?_;intro yb ya;refine Xi (W6 I H) ?_;rintro _ _ ⟨v,k,rfl,L,C,A⟩;(have U:=L.B);refine m6 ?_ ?_<;>intro h ae
 ·rename_i K;obtain⟨e,g⟩:=Rd.ok_false h;have a:=CZ.none (n:=2) g;rw[g]at C;refine⟨_,rfl,0,1,[],by rw[Ef,a];rfl,Zs,?_,by rw[Ef,a];trivial⟩;rw[Ef,a];exact Zr
 rename_i K;obtain⟨w,q,g⟩:=Rd.ok_true h;have a:=CZ.first (n:=2) g;rw[g]at C A;have A:Aq w=(v,k):=A;have C:RS Bd t o N id q K:=C;have W:[my v,ic k]=A0 [w]:=by simp[A0,T4,A]
 rw[W]
 refine Ae (λm G i=>∃(f:ol) (q:Tx) (d:Nat),m=3-Z f/\G 0=ptr o 0/\G 6=sl d (Z f) (A0 f)/\AQ o y i/\RS Bd t o N id q i/\Own y i d (Z f)/\Z f<=3/\AC (CZ C0 2 s f q)) 2
  ⟨[w],q,_,rfl,rfl,rfl,Zs,Zr,?_,nk,a⟩ ?_
 ·exact Own.made' (b:=(K.new _).put _ _) L.D nr
 clear L C A U W a g h;rintro m G i ⟨f,q,d,rfl,h0,h6,O,B,hO,a6,F⟩;have az:=Fh f;have a4:=O.B;by_cases a5:Z f<3
 ·repeat' first|refine Z1 ?_|refine Z8 λyb ya=>?_|refine Z4 ?_;clear ya yb|refine Z2 ?_ ?_<;>intro h ae<;>try exact Xp|refine Z6 ?_;intro l yn M V Q P ad S|(refine Z5 ?_;first|(refine Xi (Kf I nu) ?_;rintro _ _ ⟨rfl,ap,av⟩;(have U:=ap.B))|(refine Xi (W6 I nu) ?_;rintro _ _ ⟨v,k,rfl,Y,z,p⟩;(have ay:=Y.B)))|refine Z3 ?_|exact Zt|apply ya.o;clear ya yb
  ·rename_i R J _ j;obtain⟨u,r,E⟩:=Rd.ok_true J;rw[E]at h z;obtain⟨e,g⟩:=Rd.ok_false h;rw[show (Rd.got u r).rest=r from rfl]at g z;have a:=F.o.fail AA E g;rw[g]at z;refine⟨_,rfl,0,1,[],by rw[Ef,a];rfl,Zs,?_,by rw[Ef,a];trivial⟩;rw[Ef,a];exact Zr
  ·rename_i R J _ j;obtain⟨u,r,E⟩:=Rd.ok_true J;rw[E]at h z p;obtain⟨x,T,g⟩:=Rd.ok_true h;rw[show (Rd.got u r).rest=r from rfl]at g z p;have a:=F.o.next AA E g;rw[g]at z p;have p:Aq x=(v,k):=p;have a3:AQ o y ((j.new [my false,ic 0]).put j.B [my v,ic k]):=Zs;have X:Own y ((j.new [my false,ic 0]).put j.B [my v,ic k]) d (Z f):=Own.put (Own.new (Own.keepX (Own.keepX hO ap) Y) _) _ _;have a0:RS Bd t o N id T ((j.new [my false,ic 0]).put j.B [my v,ic k]):=Zr;refine Tw (o:=o) (idn:=0) (σ0:=y) (by first|exact Gl) (a3.kr 0) X nr (by rfl) az (by rfl) (by rfl) nr AA AA ?_;intro l yn M V Q P ad S D hid;refine Z3 ?_
   refine mr ?_;refine⟨3-Z (f++[x]),by simp;omega,f++[x],T,l,rfl,?_,V.x,?_,nn M,by simp;omega,a⟩
   ·rw[kQ,T4,p];simp
   exact a0.app Q P S D (H.own.apart X)
  have a:=F.o.stop h;rename_i R;rw[K6 h]at av;refine⟨_,rfl,_,d,_,by rw[Ef,a];rfl,Zs,?_,by rw[Ef,a];exact⟨rfl,rfl⟩⟩;rw[Ef,a];exact Zr
 refine mr ?_;have a:=F.o.full AA
 first
 |exact⟨_,rfl,_,d,_,by rw[Ef,a];rfl,O,by rw[Ef,a];exact B,by rw[Ef,a];exact⟨rfl,rfl⟩⟩
 |exact⟨_,rfl,_,d,_,by rw[Ef,a];rfl,by rw[Ef,a];exact B,by rw[Ef,a];exact⟨rfl,rfl⟩⟩
variable {Bd:Nat}
structure PA (N:ol)(a:AE)(k:Int)(n:Nat)(c:oh):Prop where
 mem:a.B∈N
 idx:k=(N.idxOf a.B:Nat)
 len:n=Z a.A
 cells:c=A0 a.A
def xO (nt s):Ea nt s=(E7 s).bnd λp r=>(A5 40 r).bnd λ_ r=>(Ef r).bnd λa r=>(A5 41 r).bnd λ_ r=>.got {nt:=nt,B:=p,A:=a} r:=by
 unfold Ea Yh Ef Uu;cases E7 s with
 |bad e=>rfl
 |got p r=>
  simp only[Rd.bnd];cases A5 40 r with
  |bad e=>rfl
  |got u r=>
   simp only[Rd.bnd];cases C0 r with
   |bad e=>rfl
   |got w r=>
    simp only[Rd.bnd];cases D9 C0 2 r<;>rfl
def W7 (nt){t o N id s y}(E:Z t<=1000)(O:RS Bd t o N id s y):
  ni 130 [ptr o 0] y λx F=>∃k n i c b id',x=tp [ag [ic k,sl i n c],my ((Ea nt s).ok)]/\Rs o y id F id'/\RS Bd t o b id' (Ea nt s).rest F/\N<+:b/\Rd.Val (Ea nt s) λa=>PA b a k n c:=by
 have X:=O.lt;rw[xO];refine Z9 34 [.cell 2 122,.tmp 3] Tryz.func130 ?_
 repeat' first|refine Z1 ?_|refine Z8 λyb ya=>?_|refine Z4 ?_;clear ya yb|refine Z2 ?_ ?_<;>intro h Y<;>try exact Xp|(refine Z5 ?_;first|(refine Xi (Mg E (Zr)) ?_;rintro _ _ ⟨k,b,id',rfl,G,C,z,I⟩;(have K:=G.keep.B;(try simp only[Aa,Ac,Az]at K);have U:=G.keep.C))|(refine Xi (Kf E nu) ?_;rintro _ _ ⟨rfl,H,d⟩;(have L:=H.B;(try simp only[Aa,Ac,Az]at L);have W:=H.C))|(refine Xi (lL E nu) ?_;rintro _ _ ⟨n,i,c,rfl,J,f,q⟩;(have M:=J.B;(try simp only[Aa,Ac,Az]at M);have ap:=J.C)))|refine Z3 ?_|exact Zt|apply ya.o;clear ya yb
 ·obtain⟨e,m⟩:=Rd.ok_false h;rw[m]at C⊢;simp only[Rd.rest]at C;exact⟨_,rfl,0,0,1,[],b,id',rfl,Zu,by show RS Bd t o b id' e _;exact Zr,z,trivial⟩
 ·obtain⟨p,r,m⟩:=Rd.ok_true (show (E7 s).ok=true by assumption);rw[m]at C d h⊢;rw[show (Rd.got p r).rest=r from rfl]at h d;obtain⟨e,g⟩:=Rd.ok_false h;rw[g]at d;simp only[Rd.rest]at d;simp only[Rd.bnd,g];exact⟨_,rfl,0,0,1,[],b,id',rfl,Zu,by show RS Bd t o b id' e _;exact Zr,z,trivial⟩
 ·obtain⟨p,r,m⟩:=Rd.ok_true (show (E7 s).ok=true by assumption);have l:(A5 40 (E7 s).rest).ok=true:=nu
  rw[m]at l f h⊢;rw[show (Rd.got p r).rest=r from rfl]at l h f;obtain⟨u,v,g⟩:=Rd.ok_true l;rw[g]at h f;rw[show (Rd.got u v).rest=v from rfl]at h f;obtain⟨e,j⟩:=Rd.ok_false h;rw[j]at f;simp only[Rd.rest]at f;simp only[Rd.bnd,g,j];exact⟨_,rfl,0,0,1,[],b,id',rfl,Zu,by show RS Bd t o b id' e _;exact Zr,z,trivial⟩
 obtain⟨p,r,m⟩:=Rd.ok_true (show (E7 s).ok=true by assumption);have l:(A5 40 (E7 s).rest).ok=true:=nu;rw[m]at l f h d q I⊢;rw[show (Rd.got p r).rest=r from rfl]at l h f d q;obtain⟨u,v,g⟩:=Rd.ok_true l;rw[g]at h f d q;rw[show (Rd.got u v).rest=v from rfl]at h f d q;obtain⟨B,D,j⟩:=Rd.ok_true h;rw[j]at f d q;rw[show (Rd.got B D).rest=D from rfl]at f d;obtain⟨P,R⟩:p∈b/\k=(b.idxOf p:Nat):=I;obtain⟨T,S⟩:n=Z B/\c=A0 B:=q;simp only[Rd.bnd,g,j];cases A:A5 41 D with
 |bad e=>
  rw[A]at d;simp only[Rd.rest]at d;exact⟨_,rfl,k,n,i,c,b,id',by simp only[Rd.rest,g,j,A,Rd.ok,Rd.bnd],Zu,by show RS Bd t o b id' e _;exact Zr,z,trivial⟩
 |got V Q=>
  rw[A]at d;simp only[Rd.rest]at d;exact⟨_,rfl,k,n,i,c,b,id',by simp only[Rd.rest,g,j,A,Rd.ok,Rd.bnd],Zu,by show RS Bd t o b id' Q _;exact Zr,z,⟨P,R,T,S⟩⟩
def vE (s):K4 s=Ea (A5 33 s).ok (A5 33 s).rest:=by
 cases s with
 |nil=>rfl
 |cons b r=>
  unfold K4 A5;dsimp only;split<;>rfl
def Pj {t o N id s y}(l:Z t<=1000)(u:RS Bd t o N id s y):
  ni 242 [ptr o 0] y λx g=>∃b k n d c f id',x=tp [ag [my b,ic k,sl d n c],my ((K4 s).ok)]/\Rs o y id g id'/\RS Bd t o f id' (K4 s).rest g/\N<+:f/\Rd.Val (K4 s) λa=>b=a.nt/\PA f a k n c:=by
 have E:=u.lt;rw[vE];refine Z9 18 [.cell 2 198,.tmp 3] Tryz.func242 ?_
 (repeat (refine m0 ?_;intro yb ya;(first|(refine Xi (Kf l (Zr)) ?_;rintro _ _ ⟨rfl,i,D⟩;(have z:=i.B;(try simp only[Aa,Ac,Az]at z);have B:=i.C))|(refine Xi (W7 (A5 33 s).ok l nu) ?_;rintro _ _ ⟨k,n,d,c,f,id',rfl,p,A,q,j⟩;(have v:=p.keep.B;(try simp only[Aa,Ac,Az]at v);have C:=p.keep.C)))));refine mr ?_
 refine⟨_,rfl,(A5 33 s).ok,k,n,d,c,f,id',rfl,Zu,Zr,q,?_⟩;cases m:Ea (A5 33 s).ok (A5 33 s).rest with
 |bad e=>trivial
 |got a r=>
  rw[m]at j;exact⟨(Jg m).2.2.symm,j⟩
def PL (N:ol)(a:AE)(c:oh):Prop:=a.B∈N/\∃b,c=[my a.nt,ic (N.idxOf a.B:Nat),sl b (Z a.A) (A0 a.A)]
def Eh {N}(a c)(h:PL N a c):Z c=3:=by obtain⟨-,b,rfl⟩:=h;rfl
def PL.mono {N f}(e:N<+:f)(a c)(h:PL N a c):PL f a c:=by
 obtain⟨d,b,rfl⟩:=h;exact⟨e.subset d,b,by rw[gP e d]⟩
def PL.of {N a b k n d c}(e:b=a.nt)(h:PA N a k n c):PL N a [my b,ic k,sl d n c]:=by
 obtain⟨f,rfl,rfl,rfl⟩:=h;subst e;exact⟨f,d,rfl⟩
def PI (N:ol)(x:AB)(c:oh):Prop:=x.h.B∈N/\∃a id b,EL (PL N) x.A b/\c=[my x.o,ic (N.idxOf x.h.B:Nat),sl a (Z x.h.A) (A0 x.h.A),sl id (Z x.A) b]
def Ew {N}(x c)(h:PI N x c):Z c=4:=by obtain⟨-,a,id,b,-,rfl⟩:=h;rfl
def PI.mono {N e}(a:N<+:e)(x c)(h:PI N x c):PI e x c:=by
 obtain⟨d,g,id,b,f,rfl⟩:=h;exact⟨a.subset d,g,id,b,f.mono (PL.mono a),by rw[gP a d]⟩
variable {Bd:Nat}
def Jh (s:Tx):Rd Unit:=(A5 58 s).bnd λ_ r=>A5 45 r
def kZ {t o N id s y}(f:Z t<=1000)(i:RS Bd t o N id s y):
  ni 204 [ptr o 0] y λx d=>x=my ((Jh s).ok)/\AQ o y d/\RS Bd t o N id (Jh s).rest d:=by
 unfold Jh;refine Z9 8 [.tmp 2] Tryz.func204 ?_
 repeat' first|refine Z1 ?_|refine Z8 λyb ya=>?_|refine Z4 ?_;clear ya yb|refine Z2 ?_ ?_<;>intro h g<;>try exact Xp|refine Z5 ?_;refine Xi (Kf f nu) ?_;rintro _ _ ⟨rfl,c,a⟩|refine Z3 ?_|exact Zt|apply ya.o;clear ya yb
 ·obtain⟨e,b⟩:=Rd.ok_false h;rw[b]at a⊢
  first|exact⟨_,rfl,rfl,c,a⟩|exact⟨_,rfl,rfl,a⟩|exact⟨_,rfl,c,a⟩
 obtain⟨u,r,b⟩:=Rd.ok_true h;rw[b]at a⊢
 first|exact⟨_,rfl,rfl,Zs,a⟩|exact⟨_,rfl,rfl,a⟩|exact⟨_,rfl,Zs,a⟩
def sX {σ0 d c a b n}(h:c=1\/c≠b)(e:Own σ0 d b n)(g:0<n)(f:a=c\/d.D+2<=a):a=1\/a≠b:=by
 rcases e with⟨-,rfl⟩|⟨k,h1,h2,h3,h4,h5⟩<;>omega
def Zx {σ0 e b a n}(h:b=1\/b≠a)(d:Own σ0 e a n):a=1\/a≠b:=by
 rcases d with⟨c,rfl⟩|⟨k,c,h2,h3,h4,h5⟩<;>omega
def DL.fresh {y id n}(h:DL y id n):id=1\/id≠y.D+2:=by
 rcases h with⟨rfl,-⟩|⟨k,h1,h2,-⟩<;>omega
def fG {X a b idn n}(h:DL X a n)(d:a=1\/a≠b)(c:idn=b\/X.D+2<=idn):a=1\/a≠idn:=by
 rcases h with⟨rfl,-⟩|⟨k,h1,h2,-⟩<;>omega
abbrev El (s:Tx):Rd oq:=Uu K4 4 s
def qS {t o N id s y}(X:Z t<=1000)(hR:RS Bd t o N id s y):
  ni 205 [ptr o 0] y λx D=>∃n a c S id',x=tp [sl a n c,my ((El s).ok)]/\Rs o y id D id'/\RS Bd t o S id' (El s).rest D/\N<+:S/\Rd.Val (El s) λj=>n=Z j/\EL (PL S) j c:=by
 have hn:=hR.lt;refine Z9 37 [.tmp 2,.tmp 3] Tryz.func205 ?_;refine m0 ?_;intro yb ya;refine Xi (Pj X hR) ?_;rintro _ _ ⟨b,k,n,z,c,H,p,rfl,aw,F,T,a7⟩;(have ai:=aw.keep.B);refine m6 ?_ ?_<;>intro h af
 ·rename_i y1;obtain⟨e,l⟩:=Rd.ok_false h;have f:=CZ.none (n:=4) l;rw[l]at F;simp only[Rd.rest]at F;refine⟨_,rfl,0,1,[],H,p,by rw[El,f];rfl,Zu,?_,T,by rw[El,f];trivial⟩;rw[El,f];show RS Bd t o H p e _;exact Zr
 rename_i y1;obtain⟨w,q,l⟩:=Rd.ok_true h;have f:=CZ.first (n:=4) l;rw[l]at F a7;obtain⟨B,M⟩:b=w.nt/\PA H w k n c:=a7;have F:RS Bd t o H p q y1:=F;have K:PL H w [my b,ic k,sl z n c]:=PL.of B M;have ap:Z [my b,ic k,sl z n c]=3:=rfl;generalize a4:[my b,ic k,sl z n c]=cw at K ap
 refine Ae (λm R D=>∃(j:oq) (q:Tx) (a:Nat) (d:oh) (A:ol) (g:Nat),m=5-Z j/\R 0=ptr o 0/\R 6=sl a (Z j) d/\Rs o y id D g/\RS Bd t o A g q D/\Own y D a (Z j)/\AC (g=1\/g≠a)/\N<+:A/\0<Z j/\Z j<=5/\Z d=Z j*3/\AC (EL (PL A) j d)/\AC (CZ K4 4 s j q)) 4
  ⟨[w],q,_,cw,H,p,rfl,rfl,by rw[<-a4];rfl,Zu,Zr,Own.made' (b:=(y1.new _).put _ _) aw.keep.D nr,F.own.fresh,T,nk,nk,nn ap,EL.single K,f⟩ ?_
 clear aw F ai f l h K a4 ap M B T;rintro m R D ⟨j,q,a,d,A,g,rfl,h0,h6,hS,I,hO,a6,J,bb,bh,bc,Q,P⟩;have bf:=hS.keep.B;by_cases bg:Z j<5
 ·repeat' first|refine Z1 ?_|refine Z8 λyb ya=>?_|refine Z4 ?_;clear ya yb|refine Z2 ?_ ?_<;>intro h af<;>try exact Xp|refine Z6 ?_;intro G yn am an ac ab ae aa|(refine Z5 ?_;first|(refine Xi (Kf X nu) ?_;rintro _ _ ⟨rfl,a3,ax⟩;(have ai:=a3.B))|(refine Xi (Pj X nu) ?_;rintro _ _ ⟨b,k,n,z,c,E,i,rfl,av,v,U,O⟩;(have ba:=av.keep.B)))|refine Z3 ?_|exact Zt|apply ya.o;clear ya yb
  ·rename_i y2 au _ C;obtain⟨u,r,B⟩:=Rd.ok_true au;rw[B]at h v;obtain⟨e,l⟩:=Rd.ok_false h;rw[show (Rd.got u r).rest=r from rfl]at l v;have f:=P.o.fail AA B l;rw[l]at v;simp only[Rd.rest]at v;refine⟨_,rfl,0,1,[],E,i,by rw[El,f];rfl,Zu,?_,J.trans U,by rw[El,f];trivial⟩;rw[El,f];show RS Bd t o E i e _;exact Zr
  ·rename_i y2 au _ C;obtain⟨u,r,B⟩:=Rd.ok_true au;rw[B]at h v O;obtain⟨x,Y,l⟩:=Rd.ok_true h;rw[show (Rd.got u r).rest=r from rfl]at l v O;have f:=P.o.next AA B l;rw[l]at v O;obtain⟨a5,M⟩:b=x.nt/\PA E x k n c:=O;have v:RS Bd t o E i Y C:=v;have K:PL E x [my b,ic k,sl z n c]:=PL.of a5 M;have a8:Rs o y id ((C.new [my false,ic 0,nilS]).put C.B [my b,ic k,sl z n c]) i:=Zu;have W:=Own.keepX hO a3;have be:=Own.keepR W av.keep (Zx a6.o W);have bd:Own y ((C.new [my false,ic 0,nilS]).put C.B [my b,ic k,sl z n c]) a (Z j):=Own.put (Own.new be _) _ _;have a9:RS Bd t o E i Y ((C.new [my false,ic 0,nilS]).put C.B [my b,ic k,sl z n c]):=Zr;have aj:i=1\/i≠a:=sX a6.o W bb av.nid;refine Tw (o:=o) (idn:=id) (σ0:=y) (by first|exact G5) a8.keep bd nr (by rfl) bc (by rfl) (by rfl) nr AA AA ?_;intro G yn am an ac ab ae aa L V;refine Z3 ?_
   refine mr ?_;refine⟨5-Z (j++[x]),by simp;omega,j++[x],Y,G,d++[my b,ic k,sl z n c],E,i,rfl,by simp[a5],⟨an,a8.nid⟩,a9.app ac ab aa L aj,nn am,fG a9.own aj V,J.trans U,nk,by simp;omega,by simp;omega,EL.append (Q.o.mono (PL.mono U)) (EL.single K),f⟩
  have f:=P.o.stop h;rename_i y2;rw[K6 h]at ax;simp only[Rd.rest]at ax;refine⟨_,rfl,_,a,_,A,g,by rw[El,f];rfl,Zu,?_,J,by rw[El,f];exact⟨rfl,Q.o⟩⟩;rw[El,f];show RS Bd t o A g q _;exact Zr
 refine mr ?_;have f:=P.o.full AA
 first
 |exact⟨_,rfl,_,a,d,A,g,by rw[El,f];rfl,hS,by rw[El,f];exact I,J,by rw[El,f];exact⟨rfl,Q.o⟩⟩
 |exact⟨_,rfl,_,a,d,A,g,by rw[El,f];rfl,by rw[El,f];exact I,J,by rw[El,f];exact⟨rfl,Q.o⟩⟩
variable {Bd:Nat}
def fJ (l:Nat)(t:Tx)(o:Nat)(N:ol)(id:Nat)(y:St)(p:Rd AB)(x:AV)(f:St):Prop:=
 ∃b k g n c i m d e a,x=tp [ag [my b,ic k,sl g n c,sl i m d],my p.ok]/\Rs o y id f a/\RS l t o e a p.rest f/\N<+:e/\Rd.Val p λj=>PI e j [my b,ic k,sl g n c,sl i m d]
def fU {t o N id s y}(m:Z t<=1000)(q:RS Bd t o N id s y):
  ni 173 [ptr o 0] y (fJ Bd t o N id y (gB s)):=by
 have F:=q.lt;unfold gB fJ;refine Z9 20 [.cell 2 125,.tmp 3] Tryz.func173 ?_
 repeat' first|refine Z1 ?_|refine Z8 λyb ya=>?_|refine Z4 ?_;clear ya yb|refine Z2 ?_ ?_<;>intro h B<;>try exact Xp|(refine Z5 ?_;first|(refine Xi (Mg m (Zr)) ?_;rintro _ _ ⟨k,b,a,rfl,g,i,f,l⟩;(have z:=g.keep.B;(try simp only[Aa,Ac,Az]at z);have E:=g.keep.C))|(refine Xi (Kf m nu) ?_;rintro _ _ ⟨rfl,j,c⟩;(have v:=j.B;(try simp only[Aa,Ac,Az]at v);have C:=j.C)))|refine Z3 ?_|exact Zt|apply ya.o;clear ya yb
 ·obtain⟨e,d⟩:=Rd.ok_false h;rw[d]at i⊢;simp only[Rd.rest]at i;exact⟨_,rfl,false,0,1,0,[],1,0,[],b,a,rfl,Zu,by show RS Bd t o b a e _;exact Zr,f,trivial⟩
 obtain⟨p,r,d⟩:=Rd.ok_true h;rw[d]at c l⊢;rw[show (Rd.got p r).rest=r from rfl]at c⊢;obtain⟨u,A⟩:p∈b/\k=(b.idxOf p:Nat):=l;simp only[Rd.bnd];cases n:A5 46 r with
 |bad e=>
  rw[n]at c;simp only[Rd.rest]at c;exact⟨_,rfl,true,k,1,0,[],1,0,[],b,a,rfl,Zu,by show RS Bd t o b a e _;exact Zr,f,trivial⟩
 |got D x=>
  rw[n]at c;simp only[Rd.rest]at c;exact⟨_,rfl,true,k,1,0,[],1,0,[],b,a,rfl,Zu,by show RS Bd t o b a x _;exact Zr,f,⟨u,1,1,[],rfl,by rw[A];rfl⟩⟩
def mL (h r):Po h r=if (A5 46 r).ok=true then .got {o:=false,h:=h,A:=[]} (A5 46 r).rest
  else (Jh r).bnd λ_ r=>(El r).bnd λe r=>(A5 46 r).bnd λ_ r=>.got {o:=false,h:=h,A:=e} r:=by
 cases r with
 |nil=>rfl
 |cons b r=>
  have d:Po h (b::r)=if ((b.toNat:Int)==46)=true then .got {o:=false,h:=h,A:=[]} r else
   (A5 58 (b::r)).bnd λ_ r=>(A5 45 r).bnd λ_ r=>Ua h r:=rfl
  rw[d];by_cases a:((b.toNat:Int)==46)=true;have c:A5 46 (b::r)= .got () r:=by unfold A5;dsimp only;rw[if_pos a]
  rw[if_pos a,c];rfl;have c:A5 46 (b::r)= .bad (b::r):=by unfold A5;dsimp only;rw[if_neg a]
  rw[if_neg a,c,if_neg (by simp[Rd.ok])];unfold Jh Ua El Uu;rw[Gy];congr 1;funext u r1;congr 1;funext u r2;rw[Gy];congr 1;funext l r3;rw[Gy];rfl
def qQ {t o N id s y}(H:Z t<=1000)(Y:RS Bd t o N id s y):
  ni 174 [ptr o 0] y (fJ Bd t o N id y (Pp s)):=by
 have hn:=Y.lt;unfold Pp fJ;simp only[mL];refine Z9 38 [.cell 2 125,.tmp 3] Tryz.func174 ?_
 repeat' first|refine Z1 ?_|refine Z8 λyb ya=>?_|refine Z4 ?_;clear ya yb|refine Z2 ?_ ?_<;>intro h a4<;>try exact Xp|(refine Z5 ?_;first|(refine Xi (W7 false H (Zr)) ?_;rintro _ _ ⟨k,n,p,c,q,g,rfl,R,S,C,G⟩;(have ao:=R.keep.B;(try simp only[Aa,Ac,Az]at ao);have a3:=R.keep.C))|(refine Xi (Kf H (Zr)) ?_;rintro _ _ ⟨rfl,T,i⟩;(have an:=T.B;(try simp only[Aa,Ac,Az]at an);have a0:=T.C))|(refine Xi (kZ H nu) ?_;rintro _ _ ⟨rfl,U,B⟩;(have W:=U.B;(try simp only[Aa,Ac,Az]at W);have az:=U.C))|(refine Xi (qS H nu) ?_;rintro _ _ ⟨m,J,d,l,b,rfl,V,j,E,D⟩;(have ak:=V.keep.B;(try simp only[Aa,Ac,Az]at ak);have ay:=V.keep.C)))|refine Z3 ?_|exact Zt|apply ya.o;clear ya yb
 ·obtain⟨e,v⟩:=Rd.ok_false h;rw[v]at S⊢;simp only[Rd.rest]at S;exact⟨_,rfl,false,0,1,0,[],1,0,[],q,g,rfl,Zu,by show RS Bd t o q g e _;exact Zr,C,trivial⟩
 ·obtain⟨a,r,v⟩:=Rd.ok_true (show (Ea false s).ok=true by assumption);rw[v]at h i G⊢;have h:(A5 46 r).ok=true:=h;have i:RS Bd t o q g (A5 46 r).rest _:=i;obtain⟨I,K,L,M⟩:PA q a k n c:=G;simp only[Rd.bnd,h,if_true];exact⟨_,rfl,false,k,p,n,c,1,0,[],q,g,rfl,Zu,by show RS Bd t o q g (A5 46 r).rest _;exact Zr,C,⟨I,p,1,[],rfl,by rw[K,L,M];rfl⟩⟩
 ·obtain⟨a,r,v⟩:=Rd.ok_true (show (Ea false s).ok=true by assumption);have f:(A5 46 (Ea false s).rest).ok=false:=nu
  rw[v]at h f B⊢;have f:(A5 46 r).ok=false:=f;rw[show (Rd.got a r).rest=r from rfl,K6 f]at h B;obtain⟨e,x⟩:=Rd.ok_false (show (Jh r).ok=false from h);have B:RS Bd t o q g (Jh r).rest _:=B;rw[x]at B;simp only[Rd.rest]at B;simp only[Rd.bnd,f,x,EI,if_false];exact⟨_,rfl,false,0,1,0,[],1,0,[],q,g,rfl,Zu,by show RS Bd t o q g e _;exact Zr,C,trivial⟩
 ·obtain⟨a,r,v⟩:=Rd.ok_true (show (Ea false s).ok=true by assumption);have f:(A5 46 (Ea false s).rest).ok=false:=nu
  have A:(Jh (A5 46 (Ea false s).rest).rest).ok=true:=nu;rw[v]at h f A j⊢;have f:(A5 46 r).ok=false:=f;rw[show (Rd.got a r).rest=r from rfl,K6 f]at h A j;obtain⟨u,z,x⟩:=Rd.ok_true (show (Jh r).ok=true from A);rw[show (Rd.bad r:Rd Unit).rest=r from rfl,x]at h j;obtain⟨e,F⟩:=Rd.ok_false (show (El z).ok=false from h);have j:RS Bd t o l b (El z).rest _:=j;rw[F]at j;simp only[Rd.rest]at j;simp only[Rd.bnd,f,x,F,EI,if_false];exact⟨_,rfl,false,0,1,0,[],1,0,[],l,b,rfl,Zu,by show RS Bd t o l b e _;exact Zr,C.trans E,trivial⟩
 obtain⟨a,r,v⟩:=Rd.ok_true (show (Ea false s).ok=true by assumption);have f:(A5 46 (Ea false s).rest).ok=false:=nu;have A:(Jh (A5 46 (Ea false s).rest).rest).ok=true:=nu;rw[v]at h f A j G D i⊢;have f:(A5 46 r).ok=false:=f;rw[show (Rd.got a r).rest=r from rfl,K6 f]at h A j D i;obtain⟨u,z,x⟩:=Rd.ok_true (show (Jh r).ok=true from A);rw[show (Rd.bad r:Rd Unit).rest=r from rfl,x]at h j D i;obtain⟨O,P,F⟩:=Rd.ok_true (show (El z).ok=true from h);have j:RS Bd t o l b (El z).rest _:=j;have i:RS Bd t o l b (A5 46 (El z).rest).rest _:=i;rw[show (Rd.got u z).rest=z from rfl]at D;rw[F]at j i D;obtain⟨I,K,L,M⟩:PA q a k n c:=G;obtain⟨w1,X⟩:m=Z O/\EL (PL l) O d:=D;have i:RS Bd t o l b (A5 46 P).rest _:=i;simp only[Rd.bnd,Rd.rest,K6 f,f,x,F,EI,if_false];cases Q:A5 46 P with
 |bad e=>
  rw[Q]at i;simp only[Rd.rest]at i;exact⟨_,rfl,false,k,p,n,c,J,m,d,l,b,rfl,Zu,by show RS Bd t o l b e _;exact Zr,C.trans E,trivial⟩
 |got u2 r4=>
  rw[Q]at i;simp only[Rd.rest]at i;exact⟨_,rfl,false,k,p,n,c,J,m,d,l,b,rfl,Zu,by show RS Bd t o l b r4 _;exact Zr,C.trans E,⟨E.subset I,p,J,d,X,by rw[K,L,M,w1,gP E I]⟩⟩
def mP (s):F4 s=if (A5 63 s).ok=true then gB (A5 63 s).rest else Pp (A5 63 s).rest:=by
 cases s with
 |nil=>rfl
 |cons b r=>
  unfold F4 A5;dsimp only;split<;>simp[Rd.ok,Rd.rest]
def qR {t o N id s y}(f:Z t<=1000)(u:RS Bd t o N id s y):
  ni 120 [ptr o 0] y (fJ Bd t o N id y (F4 s)):=by
 have D:=u.lt;rw[mP];unfold fJ;refine Z9 14 [.cell 2 125,.tmp 3] Tryz.func120 ?_
 repeat' first|refine Z1 ?_|refine Z8 λyb ya=>?_|refine Z4 ?_;clear ya yb|refine Z2 ?_ ?_<;>intro h C<;>try exact Xp|(refine Z5 ?_;first|(refine Xi (Kf f (Zr)) ?_;rintro _ _ ⟨rfl,l,A⟩;(have z:=l.B;(try simp only[Aa,Ac,Az]at z);have B:=l.C))|(refine Xi (fU f nu) ?_;rintro _ _ ⟨b,k,i,n,c,r,m,d,j,a,rfl,e,x,p,q⟩;(have g:=e.keep.B;(try simp only[Aa,Ac,Az]at g);have v:=e.keep.C))|(refine Xi (qQ f nu) ?_;rintro _ _ ⟨b,k,i,n,c,r,m,d,j,a,rfl,e,x,p,q⟩;(have g:=e.keep.B;(try simp only[Aa,Ac,Az]at g);have v:=e.keep.C)))|refine Z3 ?_|exact Zt|apply ya.o;clear ya yb
 all_goals exact⟨_,rfl,b,k,i,n,c,r,m,d,j,a,rfl,Zu,Zr,p,q⟩
variable {Bd:Nat}
def IB (s:Tx)(xs:n0)(q:Tx):Prop:=Z xs<=16/\Cc 16 s=(Cc (16-Z xs) q).bnd λa r=>.got (xs++a) r
def IB.start (s):IB s [] s:=by
 refine⟨nk,?_⟩;simp only[CQ,PH,FE];cases Cc 16 s<;>rfl
def Ye (n):Cc n []= .got [] []:=by cases n<;>rfl
def T9 (b r):Cc 0 (b::r)= .bad (b::r):=rfl
def Nk (n b r):Cc (n+1) (b::r)=(F4 (b::r)).bnd λx r=>(Cc n r).bnd λxs r=>.got (x::xs) r:=rfl
def IB.done {s xs}(h:IB s xs []):Cc 16 s= .got xs []:=by
 rw[h.2,Ye];simp[Rd.bnd]
def IB.full {s xs b r}(h:IB s xs (b::r))(a:Z xs=16):Cc 16 s= .bad (b::r):=by
 rw[h.2,a,T9];rfl
def IB.fail {s xs b r e}(h:IB s xs (b::r))(d:Z xs<16)(a:F4 (b::r)= .bad e):Cc 16 s= .bad e:=by
 obtain⟨k,c⟩:∃k,16-Z xs=k+1:=⟨15-Z xs,AA⟩;rw[h.2,c,Nk,a];rfl
def IB.next {s xs b r a x}(h:IB s xs (b::r))(e:Z xs<16)(c:F4 (b::r)= .got x a):IB s (xs++[x]) a:=by
 obtain⟨k,d⟩:∃k,16-Z xs=k+1:=⟨15-Z xs,AA⟩;refine⟨by simp;omega,?_⟩;rw[h.2,d,Nk,c,show 16-Z (xs++[x])=k by simp;omega];simp only[Rd.bnd];cases Cc k a<;>simp
def oW {σ0 d c a b n}(h:c=1\/c≠b)(f:Own σ0 d b n)(g:a=c\/d.D+2<=a):a=1\/a≠b:=by
 rcases f with⟨e,-⟩|⟨k,e,h2,h3,h4,h5⟩<;>omega
def lM {t o N id s y}(ht:Z t<=1000)(L:RS Bd t o N id s y):
  ni 70 [ptr o 0] y λx r=>∃n a c J id',x=tp [sl a n c,my ((Cc 16 s).ok)]/\Rs o y id r id'/\RS Bd t o J id' (Cc 16 s).rest r/\N<+:J/\Rd.Val (Cc 16 s) λxs=>n=Z xs/\EL (PI J) xs c:=by
 have hn:=L.lt;have a4:DL y id (Z N):=L.own;refine Z9 33 [.tmp 2,.tmp 3] Tryz.func70 ?_;refine mr ?_
 refine Ae (λm H r=>∃(xs:n0) (q:Tx) (a:Nat) (d:oh) (l:ol) (f:Nat),m=16-Z xs/\H 0=ptr o 0/\H 4=sl a (Z xs) d/\Rs o y id r f/\RS Bd t o l f q r/\Own y r a (Z xs)/\AC (f=1\/f≠a)/\N<+:l/\Z xs<=16/\Z d=Z xs*4/\AC (EL (PI l) xs d)/\AC (IB s xs q)) 16
  ⟨[],s,1,[],N,id,rfl,rfl,rfl,Rs.refl _ _ _,L,Own.nil _ _,by rcases a4 with⟨e,-⟩|⟨k,e,-⟩;exact .inl e;exact .inr AA,List.prefix_refl _,nk,nk,rfl,IB.start s⟩ ?_
 rintro m H r ⟨xs,q,a,d,l,f,rfl,h0,h4,K,i,M,Y,A,a0,a3,S,G⟩;have a8:=K.keep.B;have a9:=i.lt;have I:=i.C;have ap:=Je i.suf;unfold Pk dO at I;refine mr ?_;refine Ax Ag (λ_=>True) [9] [0,1,2,3,4,5,6,7,8] [9] AH (λ_ _ _ h=>h) ?_;intro yb ya;cases q with
 |nil=>
  simp only[CQ,PH]at I ap;refine Z3 ?_;refine mr ?_;have j:=G.o.done
  first
  |exact⟨_,rfl,_,a,d,l,f,by rw[j];rfl,K,by rw[j];exact i,A,by rw[j];exact⟨rfl,S.o⟩⟩
  |exact⟨_,rfl,_,a,d,l,f,by rw[j];rfl,by rw[j];exact i,A,by rw[j];exact⟨rfl,S.o⟩⟩
 |cons b0 r0=>
  simp only[BQ]at I ap;refine Z3 ?_;by_cases au:Z xs<16
  ·repeat' first|refine Z1 ?_|refine Z8 λyb ya=>?_|refine Z4 ?_;clear ya yb|refine Z2 ?_ ?_<;>intro h ae<;>try exact Xp|refine Z6 ?_;intro u yn af ah W V ad X|refine Z5 ?_;refine Xi (qR ht nu) ?_;rintro _ _ ⟨b,k,B,n,c,C,m,e,z,g,rfl,R,D,P,aw⟩;(have az:=R.keep.B)|refine Z3 ?_|exact Zt|apply ya.o;clear ya yb
   ·exfalso;simp at h;omega
   ·rename_i p;obtain⟨e2,F⟩:=Rd.ok_false h;have j:=G.o.fail au F;rw[F]at D;simp only[Rd.rest]at D;refine⟨_,rfl,0,1,[],z,g,by rw[j];rfl,Zu,?_,A.trans P,by rw[j];trivial⟩;rw[j];show RS Bd t o z g e2 _;exact Zr
   rename_i p;obtain⟨x,Q,F⟩:=Rd.ok_true h;have j:=G.o.next au F;rw[F]at D aw;have hC:PI z x [my b,ic k,sl B n c,sl C m e]:=aw;have D:RS Bd t o z g Q p:=D;have ax:Rs o y id ((p.new [my false,ic 0,nilS,nilS]).put p.B [my b,ic k,sl B n c,sl C m e]) g:=Zu;have a6:=Own.keepR M R.keep (Zx Y.o M);have a5:Own y ((p.new [my false,ic 0,nilS,nilS]).put p.B [my b,ic k,sl B n c,sl C m e]) a (Z xs):=Own.put (Own.new a6 _) _ _;have U:RS Bd t o z g Q ((p.new [my false,ic 0,nilS,nilS]).put p.B [my b,ic k,sl B n c,sl C m e]):=Zr;have T:g=1\/g≠a:=oW Y.o M R.nid;refine Tw (o:=o) (idn:=id) (σ0:=y) (by first|exact Mw) ax.keep a5 nr (by rfl) a3 (by rfl) (by rfl) nr AA AA ?_;intro u yn af ah W V ad X E O;refine Z3 ?_;refine mr ?_;refine⟨16-Z (xs++[x]),by simp;omega,xs++[x],Q,u,d++[my b,ic k,sl B n c,sl C m e],z,g,rfl,nk,⟨ah,ax.nid⟩,U.app W V X E T,nn af,fG U.own T O,A.trans P,by simp;omega,by simp;omega,EL.append (S.o.mono (PI.mono P)) (EL.single hC),j⟩
  have a7:Z xs=16:=AA;have j:=G.o.full a7;have v:AC _:=j;clear j;refine mr ?_
  first
  |exact⟨_,rfl,0,1,[],l,f,by rw[v.o];rfl,K,by rw[v.o];exact i,A,by rw[v.o];trivial⟩
  |exact⟨_,rfl,0,1,[],l,f,by rw[v.o];rfl,by rw[v.o];exact i,A,by rw[v.o];trivial⟩
end Go.Proofs.YtmoeoppbmhfbpabGreatDoorJ
