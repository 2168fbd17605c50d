import Derived.ProofKit
import Derived.OpenShut
import Derived.Below
import Derived.Carry
import Derived.Deep.Slices
import Derived.Shelf.Strconv.Itoa3
import Derived.Test.YtmoeoppbmhfbpabGreatDoorB
set_option maxHeartbeats 16000000
set_option maxRecDepth 100000
set_option linter.all false
open List
open List renaming length->Z
namespace Go.Proofs.YtmoeoppbmhfbpabGreatDoorJ
open Go.Abs Tryz
variable {Bd:Nat}
def RS.new {t o N id s y}(h:RS Bd t o N id s y)(cs):RS Bd t o N id s (y.new cs):=
 ⟨Ah h.lt▸h.C,by have:=h.lt;rw[Aa];omega,h.own,h.suf,h.len⟩
def RS.put {t o N id s y}(h:RS Bd t o N id s y){p}(a:o<p)(cs):RS Bd t o N id s (y.put p cs):=
 ⟨by rw[Aj a];exact h.C,h.lt,h.own,h.suf,h.len⟩
def RS.lay {t o N id s y}(h:RS Bd t o N id s y)(n):RS Bd t o N id s (y.lay n):=by refine⟨h.C,h.lt,?_,h.suf,h.len⟩;obtain e|⟨k,a,b,c,d⟩:=h.own;exact .inl e;exact .inr ⟨k,a,by grind[La],Ve b▸c,d⟩
def Zr {p:Prop}(h:p:=by repeat (first|(with_reducible assumption)|(with_reducible apply RS.put;rotate_left;(first|omega|(simp only[Aa,Ac,Az,H6]at*;omega)))|(with_reducible apply RS.new)|(with_reducible apply RS.lay)|assumption)):p:=h
def Rs.new {o a b i j}(h:Rs o a i b j)(cs):Rs o a i (b.new cs) j:=⟨h.keep.new cs,h.nid⟩
def Rs.lay {o a b i j}(h:Rs o a i b j)(n):Rs o a i (b.lay n) j:=⟨h.keep.lay n,h.nid⟩
def An.putN {o id p y c}(h:An o id y c)(d:y.B<=p)(cs):An o id y (c.put p cs):=
 ⟨h.B,λq a b=>by simp[St.put];rw[if_neg L];exact h.C q a b,λq a b=>by simp[St.put];rw[if_neg L];exact h.ver q a b,h.D,h.top⟩
def Rs.put {o p a b i j}(h:Rs o a i b j)(c:a.B<=p)(cs):Rs o a i (b.put p cs) j:=⟨h.keep.putN c cs,h.nid⟩
def Rs.transX {o a b c i j}(h:Rs o a i b j)(k:AQ o b c):Rs o a i c j:=h.trans (Rs.ofX k)
def Zu {p:Prop}(h:p:=by repeat (first|exact Rs.refl _ _ _|(with_reducible assumption)|(with_reducible apply Rs.put;rotate_left;(first|omega|(simp only[Aa,Ac,Az,H6]at*;omega)))|(with_reducible apply Rs.new)|(with_reducible apply Rs.lay)|(refine Rs.trans ?_ (by with_reducible assumption))|(refine Rs.transX ?_ (by with_reducible assumption)))):p:=h
def An.x {o a b}(h:An o 0 a b):AQ o a b:=⟨h.B,h.C,h.ver,h.D,λk c=>h.top k c L⟩
def J.keepX {o σ0 y a id n}(h:J σ0 y id n)(k:AQ o y a):J σ0 a id n:=by obtain h|⟨j,c,d,b,e,f⟩:=h;exact .inl h;exact .inr ⟨j,c,d,BZ b k.D,(k.top j b).trans e,f⟩
def J.made' {σ0 b:St}(h:σ0.D<=b.D){n}(a:0<n):J σ0 (b.lay n) (b.D+2) n:=.inr ⟨b.D,rfl,h,by simp[St.lay],by simp[St.lay],a⟩
def RS.app {t o N id b l i j}(h:RS Bd t o N id l i)(c:j.C=i.C)(d:j.B=i.B)(f:i.D<j.D)(a:∀k,k<i.D->k+2≠b->j.top k=i.top k)(g:id=1\/id≠b):RS Bd t o N id l j:=by refine⟨c▸h.C,d▸h.lt,?_,h.suf,h.len⟩;obtain e|⟨k,m,n,p,q⟩:=h.own;exact .inl e;exact .inr ⟨k,m,L,(a k n L).trans p,q⟩
def DL.apart {y b id a n m}(h:DL y id n)(g:J y b a m):id=1\/id≠a:=by obtain⟨rfl,-⟩|⟨k,c,d,-⟩:=h;exact .inl rfl;rcases g with⟨rfl,-⟩|⟨j,g1,g2,-⟩<;>omega
def K6 {c q}(h:(A5 c q).ok=false):A5 c q= .bad q:=by
 cases q with
 |nil=>rfl
 |cons b d=>
  unfold A5 at h⊢;dsimp only at h⊢;split at h;cases h;rename_i a;rw[if_neg a]
abbrev Ef (s:Tx):Rd ol:=Uu C0 2 s
def lL {t o N id s y}(I:Z t<=1000)(l:RS Bd t o N id s y):
  ni 184 [ptr o 0] y λx i=>∃n d c,x=tp [sl d n c,my ((Ef s).ok)]/\AQ o y i/\RS Bd t o N id (Ef s).rest i/\Rd.Val (Ef s) λf=>n=Z f/\c=A0 f:=by
 have hn:=l.lt;refine wl func184 ?_;refine m0 ?_;intro yb ya;refine Xi (W6 I l) ?_;rintro _ _ ⟨v,k,rfl,D,C,A⟩;have ab:=D.B;refine m6 ?_ ?_<;>intro h ae
 ·rename_i K;let⟨af,g⟩:=Rd.ok_false h;have a:=CZ.none (n:=2) g;rw[g]at C;refine⟨_,rfl,0,1,[],by rw[Ef,a];rfl,Zs,?_,by rw[Ef,a];trivial⟩;rw[Ef,a];exact Zr
 rename_i K;let⟨w,q,g⟩:=Rd.ok_true h;have a:=CZ.first (n:=2) g;rw[g]at C A;have A:Aq w=(v,k):=A;have C:RS Bd t o N id q K:=C;have ac:[my v,Y k]=A0 [w]:=by simp[A0,T4,A]
 rw[ac]
 refine Ae (λa9 G i=>∃(f:ol) (q:Tx) (d:Nat),a9=3-Z f/\G 0=ptr o 0/\G 6=sl d (Z f) (A0 f)/\AQ o y i/\RS Bd t o N id q i/\J y i d (Z f)/\Z f<=3/\V (CZ C0 2 s f q)) 2
  ⟨[w],q,_,rfl,rfl,rfl,Zs,Zr,?_,nk,a⟩ ?_
 ·exact J.made' (b:=(K.new _).put _ _) D.D nr
 rintro a9 G i ⟨f,q,d,rfl,h0,h6,U,B,hO,a6,F⟩;have az:=Fh f;have a4:=U.B;by_cases a5:Z f<3
 ·repeat' first|refine Z1 ?_|refine Z8 λyb ya=>?_|refine Z4 ?_;clear ya yb|refine Z2 ?_ ?_<;>intro h ae<;>try exact Xp|refine Z6 ?_;intro a8 yn M a1 Q P ad S|(refine Z5 ?_;first|(refine Xi (Kf I nu) ?_;rintro _ _ ⟨rfl,ap,av⟩;(have ab:=ap.B))|(refine Xi (W6 I nu) ?_;rintro _ _ ⟨v,k,rfl,a7,z,p⟩;(have ay:=a7.B)))|refine Z3 ?_|exact Zt|apply ya.o;clear ya yb
  ·rename_i R m _ j;let⟨u,e,E⟩:=Rd.ok_true m;rw[E]at h z;let⟨af,g⟩:=Rd.ok_false h;rw[show (Rd.got u e).rest=e from rfl]at g z;have a:=F.o.fail L E g;rw[g]at z;refine⟨_,rfl,0,1,[],by rw[Ef,a];rfl,Zs,?_,by rw[Ef,a];trivial⟩;rw[Ef,a];exact Zr
  ·rename_i R m _ j;let⟨u,e,E⟩:=Rd.ok_true m;rw[E]at h z p;let⟨x,T,g⟩:=Rd.ok_true h;rw[show (Rd.got u e).rest=e from rfl]at g z p;have a:=F.o.next L E g;rw[g]at z p;have p:Aq x=(v,k):=p;have a3:AQ o y ((j.new [my false,Y 0]).put j.B [my v,Y k]):=Zs;have a2:J y ((j.new [my false,Y 0]).put j.B [my v,Y k]) d (Z f):=J.put (J.new (J.keepX (J.keepX hO ap) a7) _) _ _;have a0:RS Bd t o N id T ((j.new [my false,Y 0]).put j.B [my v,Y k]):=Zr;refine Tw (o:=o) (idn:=0) (σ0:=y) (by exact Gl) (a3.kr 0) a2 nr (by rfl) az (by rfl) (by rfl) nr L L ?_;intro a8 yn M a1 Q P ad S aa ah;refine Z3 ?_
   refine X ?_;refine⟨3-Z (f++[x]),by simp;omega,f++[x],T,a8,rfl,?_,a1.x,?_,nn M,by simp;omega,a⟩
   ·rw[kQ,T4,p];simp
   exact a0.app Q P S aa (l.own.apart a2)
  have a:=F.o.stop h;rename_i R;rw[K6 h]at av;refine⟨_,rfl,_,d,_,by rw[Ef,a];rfl,Zs,?_,by rw[Ef,a];exact⟨rfl,rfl⟩⟩;rw[Ef,a];exact Zr
 refine X ?_;have a:=F.o.full L
 first
 |exact⟨_,rfl,_,d,_,by rw[Ef,a];rfl,U,by rw[Ef,a];exact B,by rw[Ef,a];exact⟨rfl,rfl⟩⟩
 |exact⟨_,rfl,_,d,_,by rw[Ef,a];rfl,by rw[Ef,a];exact B,by rw[Ef,a];exact⟨rfl,rfl⟩⟩
variable {Bd:Nat}
structure PA (N:ol)(a:AE)(k:Int)(n:Nat)(c:oh):Prop where
 mem:a.B∈N
 idx:k=(N.idxOf a.B:Nat)
 len:n=Z a.A
 cells:c=A0 a.A
def xO (c s):Ea c s=(E7 s).bnd λp b=>(A5 40 b).bnd λ_ b=>(Ef b).bnd λa b=>(A5 41 b).bnd λ_ b=>.got {nt:=c,B:=p,A:=a} b:=by
 unfold Ea Yh Ef Uu;cases E7 s with
 |bad e=>rfl
 |got p b=>
  simp only[Rd.bnd];cases A5 40 b with
  |bad e=>rfl
  |got u b=>
   simp only[Rd.bnd];cases C0 b with
   |bad e=>rfl
   |got w b=>
    simp only[Rd.bnd];cases D9 C0 2 b<;>rfl
def W7 (Q){t o N id s y}(E:Z t<=1000)(U:RS Bd t o N id s y):
  ni 130 [ptr o 0] y λx F=>∃k n i c b id',x=tp [ag [Y k,sl i n c],my ((Ea Q s).ok)]/\Rs o y id F id'/\RS Bd t o b id' (Ea Q s).rest F/\N<+:b/\Rd.Val (Ea Q s) λa=>PA b a k n c:=by
 have a8:=U.lt;rw[xO];refine wl func130 ?_
 repeat' first|refine Z1 ?_|refine Z8 λyb ya=>?_|refine Z4 ?_;clear ya yb|refine Z2 ?_ ?_<;>intro h a9<;>try exact Xp|(refine Z5 ?_;first|(refine Xi (Mg E (Zr)) ?_;rintro _ _ ⟨k,b,id',rfl,G,C,z,I⟩;(have K:=G.keep.B;(try simp only[Aa,Ac,Az]at K);have a5:=G.keep.C))|(refine Xi (Kf E nu) ?_;rintro _ _ ⟨rfl,R,d⟩;(have T:=R.B;(try simp only[Aa,Ac,Az]at T);have a7:=R.C))|(refine Xi (lL E nu) ?_;rintro _ _ ⟨n,i,c,rfl,S,f,q⟩;(have M:=S.B;(try simp only[Aa,Ac,Az]at M);have ap:=S.C)))|refine Z3 ?_|exact Zt|apply ya.o;clear ya yb
 ·let⟨e,m⟩:=Rd.ok_false h;rw[m]at C⊢;simp only[Rd.rest]at C;exact⟨_,rfl,0,0,1,[],b,id',rfl,Zu,by show RS Bd t o b id' e _;exact Zr,z,trivial⟩
 ·let⟨p,P,m⟩:=Rd.ok_true (show (E7 s).ok=true by assumption);rw[m]at C d h⊢;rw[show (Rd.got p P).rest=P from rfl]at h d;let⟨e,g⟩:=Rd.ok_false h;rw[g]at d;simp only[Rd.rest]at d;simp only[Rd.bnd,g];exact⟨_,rfl,0,0,1,[],b,id',rfl,Zu,by show RS Bd t o b id' e _;exact Zr,z,trivial⟩
 ·let⟨p,P,m⟩:=Rd.ok_true (show (E7 s).ok=true by assumption);have l:(A5 40 (E7 s).rest).ok:=nu
  rw[m]at l f h⊢;rw[show (Rd.got p P).rest=P from rfl]at l h f;let⟨u,v,g⟩:=Rd.ok_true l;rw[g]at h f;rw[show (Rd.got u v).rest=v from rfl]at h f;let⟨e,j⟩:=Rd.ok_false h;rw[j]at f;simp only[Rd.rest]at f;simp only[Rd.bnd,g,j];exact⟨_,rfl,0,0,1,[],b,id',rfl,Zu,by show RS Bd t o b id' e _;exact Zr,z,trivial⟩
 let⟨p,P,m⟩:=Rd.ok_true (show (E7 s).ok=true by assumption);have l:(A5 40 (E7 s).rest).ok:=nu;rw[m]at l f h d q I⊢;rw[show (Rd.got p P).rest=P from rfl]at l h f d q;let⟨u,v,g⟩:=Rd.ok_true l;rw[g]at h f d q;rw[show (Rd.got u v).rest=v from rfl]at h f d q;let⟨B,D,j⟩:=Rd.ok_true h;rw[j]at f d q;rw[show (Rd.got B D).rest=D from rfl]at f d;let⟨a0,a2⟩:p∈b/\k=(b.idxOf p:Nat):=I;let⟨a4,a3⟩:n=Z B/\c=A0 B:=q;simp only[Rd.bnd,g,j];cases A:A5 41 D with
 |bad e=>
  rw[A]at d;simp only[Rd.rest]at d;exact⟨_,rfl,k,n,i,c,b,id',by simp only[Rd.rest,g,j,A,Rd.ok,Rd.bnd],Zu,by show RS Bd t o b id' e _;exact Zr,z,trivial⟩
 |got a6 a1=>
  rw[A]at d;simp only[Rd.rest]at d;exact⟨_,rfl,k,n,i,c,b,id',by simp only[Rd.rest,g,j,A,Rd.ok,Rd.bnd],Zu,by show RS Bd t o b id' a1 _;exact Zr,z,⟨a0,a2,a4,a3⟩⟩
def vE (s):K4 s=Ea (A5 33 s).ok (A5 33 s).rest:=by
 cases s with
 |nil=>rfl
 |cons b a=>
  unfold K4 A5;dsimp only;split<;>rfl
def Pj {t o N id s y}(l:Z t<=1000)(u:RS Bd t o N id s y):
  ni 242 [ptr o 0] y λx g=>∃b k n d c f id',x=tp [ag [my b,Y k,sl d n c],my ((K4 s).ok)]/\Rs o y id g id'/\RS Bd t o f id' (K4 s).rest g/\N<+:f/\Rd.Val (K4 s) λa=>b=a.nt/\PA f a k n c:=by
 have E:=u.lt;rw[vE];refine wl func242 ?_
 (repeat (refine m0 ?_;intro yb ya;(first|(refine Xi (Kf l (Zr)) ?_;rintro _ _ ⟨rfl,i,D⟩;(have z:=i.B;(try simp only[Aa,Ac,Az]at z);have B:=i.C))|(refine Xi (W7 (A5 33 s).ok l nu) ?_;rintro _ _ ⟨k,n,d,c,f,id',rfl,p,A,q,j⟩;(have v:=p.keep.B;(try simp only[Aa,Ac,Az]at v);have C:=p.keep.C)))));refine X ?_
 refine⟨_,rfl,(A5 33 s).ok,k,n,d,c,f,id',rfl,Zu,Zr,q,?_⟩;cases m:Ea (A5 33 s).ok (A5 33 s).rest with
 |bad e=>trivial
 |got a F=>
  rw[m]at j;exact⟨(Jg m).2.2.symm,j⟩
def PL (N:ol)(a:AE)(c:oh):Prop:=a.B∈N/\∃b,c=[my a.nt,Y (N.idxOf a.B:Nat),sl b (Z a.A) (A0 a.A)]
def Eh {N}(a c)(h:PL N a c):Z c=3:=by obtain⟨-,b,rfl⟩:=h;rfl
def PL.mono {N f}(e:N<+:f)(a c)(h:PL N a c):PL f a c:=by obtain⟨d,b,rfl⟩:=h;exact⟨e.subset d,b,by rw[gP e d]⟩
def PL.of {N a b k n d c}(e:b=a.nt)(h:PA N a k n c):PL N a [my b,Y k,sl d n c]:=by obtain⟨f,rfl,rfl,rfl⟩:=h;subst e;exact⟨f,d,rfl⟩
def PI (N:ol)(x:AB)(c:oh):Prop:=x.h.B∈N/\∃a id b,r (PL N) x.A b/\c=[my x.o,Y (N.idxOf x.h.B:Nat),sl a (Z x.h.A) (A0 x.h.A),sl id (Z x.A) b]
def Ew {N}(x c)(h:PI N x c):Z c=4:=by obtain⟨-,a,id,b,-,rfl⟩:=h;rfl
def PI.mono {N e}(a:N<+:e)(x c)(h:PI N x c):PI e x c:=by obtain⟨d,g,id,b,f,rfl⟩:=h;exact⟨a.subset d,g,id,b,f.mono (PL.mono a),by rw[gP a d]⟩
variable {Bd:Nat}
def Jh (s:Tx):Rd Unit:=(A5 58 s).bnd λ_ a=>A5 45 a
def kZ {t o N id s y}(f:Z t<=1000)(i:RS Bd t o N id s y):
  ni 204 [ptr o 0] y λx d=>x=my ((Jh s).ok)/\AQ o y d/\RS Bd t o N id (Jh s).rest d:=by
 rw[Jh];apply wl func204
 repeat' first|refine Z1 ?_|refine Z8 λyb ya=>?_|refine Z4 ?_;clear ya yb|refine Z2 ?_ ?_<;>intro h g<;>try exact Xp|refine Z5 ?_;apply Xi (Kf f nu);rintro _ _ ⟨rfl,c,a⟩|refine Z3 ?_|exact Zt|apply ya.o;clear ya yb
 ·let⟨e,b⟩:=Rd.ok_false h;rw[b]at a⊢
  exact⟨_,rfl,rfl,a⟩
 let⟨u,j,b⟩:=Rd.ok_true h;rw[b]at a⊢
 exact⟨_,rfl,rfl,Zs,a⟩
def sX {σ0 d c a b n}(h:c=1\/c≠b)(e:J σ0 d b n)(g:0<n)(f:a=c\/d.D+2<=a):a=1\/a≠b:=by rcases e with⟨-,rfl⟩|⟨k,h1,h2,h3,h4,h5⟩<;>omega
def Zx {σ0 e b a n}(h:b=1\/b≠a)(d:J σ0 e a n):a=1\/a≠b:=gp
def DL.fresh {y id n}(h:DL y id n):id=1\/id≠y.D+2:=by rcases h with⟨rfl,-⟩|⟨k,h1,h2,-⟩<;>omega
def fG {e a b idn n}(h:DL e a n)(d:a=1\/a≠b)(c:idn=b\/e.D+2<=idn):a=1\/a≠idn:=by rcases h with⟨rfl,-⟩|⟨k,h1,h2,-⟩<;>omega
abbrev El (s:Tx):Rd oq:=Uu K4 4 s
def qS {t o N id s y}(a0:Z t<=1000)(hR:RS Bd t o N id s y):
  ni 205 [ptr o 0] y λx D=>∃n a c S id',x=tp [sl a n c,my ((El s).ok)]/\Rs o y id D id'/\RS Bd t o S id' (El s).rest D/\N<+:S/\Rd.Val (El s) λj=>n=Z j/\r (PL S) j c:=by
 have hn:=hR.lt;refine wl func205 ?_;refine m0 ?_;intro yb ya;refine Xi (Pj a0 hR) ?_;rintro _ _ ⟨b,k,n,z,c,e,p,rfl,aw,F,T,a7⟩;have ai:=aw.keep.B;refine m6 ?_ ?_<;>intro h af
 ·rename_i y1;let⟨a2,l⟩:=Rd.ok_false h;have f:=CZ.none (n:=4) l;rw[l]at F;simp only[Rd.rest]at F;refine⟨_,rfl,0,1,[],e,p,by rw[El,f];rfl,Zu,?_,T,by rw[El,f];trivial⟩;rw[El,f];show RS Bd t o e p a2 _;exact Zr
 rename_i y1;let⟨w,q,l⟩:=Rd.ok_true h;have f:=CZ.first (n:=4) l;rw[l]at F a7;let⟨B,M⟩:b=w.nt/\PA e w k n c:=a7;have F:RS Bd t o e p q y1:=F;have K:PL e w [my b,Y k,sl z n c]:=PL.of B M;have ap:Z [my b,Y k,sl z n c]=3:=rfl;generalize a4:[my b,Y k,sl z n c]=cw at K ap
 refine Ae (λao R D=>∃(j:oq) (q:Tx) (a:Nat) (d:oh) (A:ol) (g:Nat),ao=5-Z j/\R 0=ptr o 0/\R 6=sl a (Z j) d/\Rs o y id D g/\RS Bd t o A g q D/\J y D a (Z j)/\V (g=1\/g≠a)/\N<+:A/\0<Z j/\Z j<=5/\Z d=Z j*3/\V (r (PL A) j d)/\V (CZ K4 4 s j q)) 4
  ⟨[w],q,_,cw,e,p,rfl,rfl,by rw[<-a4];rfl,Zu,Zr,J.made' (b:=(y1.new _).put _ _) aw.keep.D nr,F.own.fresh,T,nk,nk,nn ap,r.single K,f⟩ ?_
 clear aw F ai f l h K a4 ap M B T;rintro ao R D ⟨j,q,a,d,A,g,rfl,h0,h6,hS,ak,hO,a6,m,bb,bh,bc,Q,P⟩;have bf:=hS.keep.B;by_cases bg:Z j<5
 ·repeat' first|refine Z1 ?_|refine Z8 λyb ya=>?_|refine Z4 ?_;clear ya yb|refine Z2 ?_ ?_<;>intro h af<;>try exact Xp|refine Z6 ?_;intro ah yn am an ac ab ae aa|(refine Z5 ?_;first|(refine Xi (Kf a0 nu) ?_;rintro _ _ ⟨rfl,a3,ax⟩;(have ai:=a3.B))|(refine Xi (Pj a0 nu) ?_;rintro _ _ ⟨b,k,n,z,c,E,i,rfl,av,v,U,G⟩;(have ba:=av.keep.B)))|refine Z3 ?_|exact Zt|apply ya.o;clear ya yb
  ·rename_i y2 au _ C;let⟨ad,u,B⟩:=Rd.ok_true au;rw[B]at h v;let⟨a2,l⟩:=Rd.ok_false h;rw[show (Rd.got ad u).rest=u from rfl]at l v;have f:=P.o.fail L B l;rw[l]at v;simp only[Rd.rest]at v;refine⟨_,rfl,0,1,[],E,i,by rw[El,f];rfl,Zu,?_,m.trans U,by rw[El,f];trivial⟩;rw[El,f];show RS Bd t o E i a2 _;exact Zr
  ·rename_i y2 au _ C;let⟨ad,u,B⟩:=Rd.ok_true au;rw[B]at h v G;let⟨x,a1,l⟩:=Rd.ok_true h;rw[show (Rd.got ad u).rest=u from rfl]at l v G;have f:=P.o.next L B l;rw[l]at v G;let⟨a5,M⟩:b=x.nt/\PA E x k n c:=G;have v:RS Bd t o E i a1 C:=v;have K:PL E x [my b,Y k,sl z n c]:=PL.of a5 M;have a8:Rs o y id ((C.new [my false,Y 0,H]).put C.B [my b,Y k,sl z n c]) i:=Zu;have I:=J.keepX hO a3;have be:=J.keepR I av.keep (Zx a6.o I);have bd:J y ((C.new [my false,Y 0,H]).put C.B [my b,Y k,sl z n c]) a (Z j):=J.put (J.new be _) _ _;have a9:RS Bd t o E i a1 ((C.new [my false,Y 0,H]).put C.B [my b,Y k,sl z n c]):=Zr;have aj:i=1\/i≠a:=sX a6.o I bb av.nid;refine Tw (o:=o) (idn:=id) (σ0:=y) (by exact G5) a8.keep bd nr (by rfl) bc (by rfl) (by rfl) nr L L ?_;intro ah yn am an ac ab ae aa ay az;refine Z3 ?_
   refine X ?_;refine⟨5-Z (j++[x]),by simp;omega,j++[x],a1,ah,d++[my b,Y k,sl z n c],E,i,rfl,ns a5,⟨an,a8.nid⟩,a9.app ac ab aa ay aj,nn am,fG a9.own aj az,m.trans U,nk,by simp;omega,by simp;omega,r.append (Q.o.mono (PL.mono U)) (r.single K),f⟩
  have f:=P.o.stop h;rename_i y2;rw[K6 h]at ax;simp only[Rd.rest]at ax;refine⟨_,rfl,_,a,_,A,g,by rw[El,f];rfl,Zu,?_,m,by rw[El,f];exact⟨rfl,Q.o⟩⟩;rw[El,f];show RS Bd t o A g q _;exact Zr
 refine X ?_;have f:=P.o.full L
 first
 |exact⟨_,rfl,_,a,d,A,g,by rw[El,f];rfl,hS,by rw[El,f];exact ak,m,by rw[El,f];exact⟨rfl,Q.o⟩⟩
 |exact⟨_,rfl,_,a,d,A,g,by rw[El,f];rfl,by rw[El,f];exact ak,m,by rw[El,f];exact⟨rfl,Q.o⟩⟩
variable {Bd:Nat}
def fJ (l:Nat)(t:Tx)(o:Nat)(N:ol)(id:Nat)(y:St)(p:Rd AB)(x:AV)(f:St):Prop:=
 ∃b k g n c i m d e a,x=tp [ag [my b,Y k,sl g n c,sl i m d],my p.ok]/\Rs o y id f a/\RS l t o e a p.rest f/\N<+:e/\Rd.Val p λj=>PI e j [my b,Y k,sl g n c,sl i m d]
def fU {t o N id s y}(m:Z t<=1000)(q:RS Bd t o N id s y):
  ni 173 [ptr o 0] y (fJ Bd t o N id y (gB s)):=by
 have F:=q.lt;unfold gB fJ;refine wl func173 ?_
 repeat' first|refine Z1 ?_|refine Z8 λyb ya=>?_|refine Z4 ?_;clear ya yb|refine Z2 ?_ ?_<;>intro h B<;>try exact Xp|(refine Z5 ?_;first|(refine Xi (Mg m (Zr)) ?_;rintro _ _ ⟨k,b,a,rfl,g,i,f,l⟩;(have z:=g.keep.B;(try simp only[Aa,Ac,Az]at z);have E:=g.keep.C))|(refine Xi (Kf m nu) ?_;rintro _ _ ⟨rfl,j,c⟩;(have v:=j.B;(try simp only[Aa,Ac,Az]at v);have C:=j.C)))|refine Z3 ?_|exact Zt|apply ya.o;clear ya yb
 ·let⟨e,d⟩:=Rd.ok_false h;rw[d]at i⊢;simp only[Rd.rest]at i;exact⟨_,rfl,false,0,1,0,[],1,0,[],b,a,rfl,Zu,by show RS Bd t o b a e _;exact Zr,f,trivial⟩
 let⟨p,G,d⟩:=Rd.ok_true h;rw[d]at c l⊢;rw[show (Rd.got p G).rest=G from rfl]at c⊢;let⟨u,A⟩:p∈b/\k=(b.idxOf p:Nat):=l;simp only[Rd.bnd];cases n:A5 46 G with
 |bad e=>
  rw[n]at c;simp only[Rd.rest]at c;exact⟨_,rfl,true,k,1,0,[],1,0,[],b,a,rfl,Zu,by show RS Bd t o b a e _;exact Zr,f,trivial⟩
 |got D x=>
  rw[n]at c;simp only[Rd.rest]at c;exact⟨_,rfl,true,k,1,0,[],1,0,[],b,a,rfl,Zu,by show RS Bd t o b a x _;exact Zr,f,⟨u,1,1,[],rfl,by rw[A];rfl⟩⟩
def mL (h f):Po h f=if (A5 46 f).ok=true then .got {o:=false,h:=h,A:=[]} (A5 46 f).rest
  else (Jh f).bnd λ_ f=>(El f).bnd λe f=>(A5 46 f).bnd λ_ f=>.got {o:=false,h:=h,A:=e} f:=by
 cases f with
 |nil=>rfl
 |cons b f=>
  have d:Po h (b::f)=if ((b.toNat:Int)==46)=true then .got {o:=false,h:=h,A:=[]} f else
   (A5 58 (b::f)).bnd λ_ f=>(A5 45 f).bnd λ_ f=>Ua h f:=rfl
  rw[d];by_cases a:((b.toNat:Int)==46)=true;have c:A5 46 (b::f)= .got () f:=by grind[A5]
  rw[if_pos a,c];rfl;have c:A5 46 (b::f)= .bad (b::f):=by grind[A5]
  rw[if_neg a,c,if_neg (by simp[Rd.ok])];unfold Jh Ua El Uu;rw[Gy];congr 1;funext u r1;congr 1;funext u r2;rw[Gy];congr 1;funext l r3;rw[Gy];rfl
def qQ {t o N id s y}(R:Z t<=1000)(ab:RS Bd t o N id s y):
  ni 174 [ptr o 0] y (fJ Bd t o N id y (Pp s)):=by
 have hn:=ab.lt;unfold Pp fJ;simp only[mL];refine wl func174 ?_
 repeat' first|refine Z1 ?_|refine Z8 λyb ya=>?_|refine Z4 ?_;clear ya yb|refine Z2 ?_ ?_<;>intro h a4<;>try exact Xp|(refine Z5 ?_;first|(refine Xi (W7 false R (Zr)) ?_;rintro _ _ ⟨k,n,p,c,q,g,rfl,a1,a2,C,G⟩;(have ao:=a1.keep.B;(try simp only[Aa,Ac,Az]at ao);have a3:=a1.keep.C))|(refine Xi (Kf R (Zr)) ?_;rintro _ _ ⟨rfl,a5,i⟩;(have an:=a5.B;(try simp only[Aa,Ac,Az]at an);have a0:=a5.C))|(refine Xi (kZ R nu) ?_;rintro _ _ ⟨rfl,a6,B⟩;(have a9:=a6.B;(try simp only[Aa,Ac,Az]at a9);have az:=a6.C))|(refine Xi (qS R nu) ?_;rintro _ _ ⟨m,S,d,l,b,rfl,a7,j,E,D⟩;(have ak:=a7.keep.B;(try simp only[Aa,Ac,Az]at ak);have ay:=a7.keep.C)))|refine Z3 ?_|exact Zt|apply ya.o;clear ya yb
 ·let⟨e,v⟩:=Rd.ok_false h;rw[v]at a2⊢;simp only[Rd.rest]at a2;exact⟨_,rfl,false,0,1,0,[],1,0,[],q,g,rfl,Zu,by show RS Bd t o q g e _;exact Zr,C,trivial⟩
 ·let⟨a,u,v⟩:=Rd.ok_true (show (Ea false s).ok=true by assumption);rw[v]at h i G⊢;have h:(A5 46 u).ok:=h;have i:RS Bd t o q g (A5 46 u).rest _:=i;let⟨I,K,T,M⟩:PA q a k n c:=G;simp only[Rd.bnd,h,if_true];exact⟨_,rfl,false,k,p,n,c,1,0,[],q,g,rfl,Zu,by show RS Bd t o q g (A5 46 u).rest _;exact Zr,C,⟨I,p,1,[],rfl,by rw[K,T,M];rfl⟩⟩
 ·let⟨a,u,v⟩:=Rd.ok_true (show (Ea false s).ok=true by assumption);have f:(A5 46 (Ea false s).rest).ok=false:=nu
  rw[v]at h f B⊢;have f:(A5 46 u).ok=false:=f;rw[show (Rd.got a u).rest=u from rfl,K6 f]at h B;let⟨e,x⟩:=Rd.ok_false (show (Jh u).ok=false from h);have B:RS Bd t o q g (Jh u).rest _:=B;rw[x]at B;simp only[Rd.rest]at B;simp only[Rd.bnd,f,x,EI,if_false];exact⟨_,rfl,false,0,1,0,[],1,0,[],q,g,rfl,Zu,by show RS Bd t o q g e _;exact Zr,C,trivial⟩
 ·let⟨a,u,v⟩:=Rd.ok_true (show (Ea false s).ok=true by assumption);have f:(A5 46 (Ea false s).rest).ok=false:=nu
  have A:(Jh (A5 46 (Ea false s).rest).rest).ok:=nu;rw[v]at h f A j⊢;have f:(A5 46 u).ok=false:=f;rw[show (Rd.got a u).rest=u from rfl,K6 f]at h A j;let⟨a8,z,x⟩:=Rd.ok_true (show (Jh u).ok=true from A);rw[show (Rd.bad u:Rd Unit).rest=u from rfl,x]at h j;let⟨e,F⟩:=Rd.ok_false (show (El z).ok=false from h);have j:RS Bd t o l b (El z).rest _:=j;rw[F]at j;simp only[Rd.rest]at j;simp only[Rd.bnd,f,x,F,EI,if_false];exact⟨_,rfl,false,0,1,0,[],1,0,[],l,b,rfl,Zu,by show RS Bd t o l b e _;exact Zr,C.trans E,trivial⟩
 let⟨a,u,v⟩:=Rd.ok_true (show (Ea false s).ok=true by assumption);have f:(A5 46 (Ea false s).rest).ok=false:=nu;have A:(Jh (A5 46 (Ea false s).rest).rest).ok:=nu;rw[v]at h f A j G D i⊢;have f:(A5 46 u).ok=false:=f;rw[show (Rd.got a u).rest=u from rfl,K6 f]at h A j D i;let⟨a8,z,x⟩:=Rd.ok_true (show (Jh u).ok=true from A);rw[show (Rd.bad u:Rd Unit).rest=u from rfl,x]at h j D i;let⟨U,P,F⟩:=Rd.ok_true (show (El z).ok=true from h);have j:RS Bd t o l b (El z).rest _:=j;have i:RS Bd t o l b (A5 46 (El z).rest).rest _:=i;rw[show (Rd.got a8 z).rest=z from rfl]at D;rw[F]at j i D;let⟨I,K,T,M⟩:PA q a k n c:=G;let⟨w1,aa⟩:m=Z U/\r (PL l) U d:=D;have i:RS Bd t o l b (A5 46 P).rest _:=i;simp only[Rd.bnd,Rd.rest,K6 f,f,x,F,EI,if_false];cases Q:A5 46 P with
 |bad e=>
  rw[Q]at i;simp only[Rd.rest]at i;exact⟨_,rfl,false,k,p,n,c,S,m,d,l,b,rfl,Zu,by show RS Bd t o l b e _;exact Zr,C.trans E,trivial⟩
 |got u2 r4=>
  rw[Q]at i;simp only[Rd.rest]at i;exact⟨_,rfl,false,k,p,n,c,S,m,d,l,b,rfl,Zu,by show RS Bd t o l b r4 _;exact Zr,C.trans E,⟨E.subset I,p,S,d,aa,by rw[K,T,M,w1,gP E I]⟩⟩
def mP (s):F4 s=if (A5 63 s).ok=true then gB (A5 63 s).rest else Pp (A5 63 s).rest:=by
 cases s with
 |nil=>rfl
 |cons b a=>
  unfold F4 A5;dsimp only;split<;>simp[Rd.ok,Rd.rest]
def qR {t o N id s y}(f:Z t<=1000)(u:RS Bd t o N id s y):
  ni 120 [ptr o 0] y (fJ Bd t o N id y (F4 s)):=by
 have D:=u.lt;rw[mP];unfold fJ;refine wl func120 ?_
 repeat' first|refine Z1 ?_|refine Z8 λyb ya=>?_|refine Z4 ?_;clear ya yb|refine Z2 ?_ ?_<;>intro h C<;>try exact Xp|(refine Z5 ?_;first|(refine Xi (Kf f (Zr)) ?_;rintro _ _ ⟨rfl,l,A⟩;(have z:=l.B;(try simp only[Aa,Ac,Az]at z);have B:=l.C))|(refine Xi (fU f nu) ?_;rintro _ _ ⟨b,k,i,n,c,E,m,d,j,a,rfl,e,x,p,q⟩;(have g:=e.keep.B;(try simp only[Aa,Ac,Az]at g);have v:=e.keep.C))|(refine Xi (qQ f nu) ?_;rintro _ _ ⟨b,k,i,n,c,E,m,d,j,a,rfl,e,x,p,q⟩;(have g:=e.keep.B;(try simp only[Aa,Ac,Az]at g);have v:=e.keep.C)))|refine Z3 ?_|exact Zt|apply ya.o;clear ya yb
 all_goals exact⟨_,rfl,b,k,i,n,c,E,m,d,j,a,rfl,Zu,Zr,p,q⟩
variable {Bd:Nat}
def IB (s:Tx)(xs:n0)(q:Tx):Prop:=Z xs<=16/\Cc 16 s=(Cc (16-Z xs) q).bnd λa b=>.got (xs++a) b
def IB.start (s):IB s [] s:=by refine⟨nk,?_⟩;simp only[CQ,PH,FE];cases Cc 16 s<;>rfl
theorem Ye (n):Cc n []= .got [] []:=by cases n<;>rfl
theorem T9 (b a):Cc 0 (b::a)= .bad (b::a):=rfl
def Nk (n b a):Cc (n+1) (b::a)=(F4 (b::a)).bnd λx a=>(Cc n a).bnd λxs a=>.got (x::xs) a:=rfl
def IB.done {s xs}(h:IB s xs []):Cc 16 s= .got xs []:=by rw[h.2,Ye];simp[Rd.bnd]
def IB.full {s xs b c}(h:IB s xs (b::c))(a:Z xs=16):Cc 16 s= .bad (b::c):=by rw[h.2,a,T9];rfl
def IB.fail {s xs b f e}(h:IB s xs (b::f))(d:Z xs<16)(a:F4 (b::f)= .bad e):Cc 16 s= .bad e:=by let⟨k,c⟩:∃k,16-Z xs=k+1:=⟨15-Z xs,L⟩;rw[h.2,c,Nk,a];rfl
def IB.next {s xs b f a x}(h:IB s xs (b::f))(e:Z xs<16)(c:F4 (b::f)= .got x a):IB s (xs++[x]) a:=by let⟨k,d⟩:∃k,16-Z xs=k+1:=⟨15-Z xs,L⟩;refine⟨gp,?_⟩;rw[h.2,d,Nk,c,show 16-Z (xs++[x])=k by simp;omega];simp only[Rd.bnd];cases Cc k a<;>simp
def oW {σ0 d c a b n}(h:c=1\/c≠b)(f:J σ0 d b n)(g:a=c\/d.D+2<=a):a=1\/a≠b:=by rcases f with⟨e,-⟩|⟨k,e,h2,h3,h4,h5⟩<;>omega
def lM {t o N id s y}(ht:Z t<=1000)(Lqx:RS Bd t o N id s y):
  ni 70 [ptr o 0] y λx u=>∃n a c Jqx id',x=tp [sl a n c,my ((Cc 16 s).ok)]/\Rs o y id u id'/\RS Bd t o Jqx id' (Cc 16 s).rest u/\N<+:Jqx/\Rd.Val (Cc 16 s) λxs=>n=Z xs/\r (PI Jqx) xs c:=by
 have a4:=Lqx.own;refine wl func70 ?_;refine X ?_
 refine Ae (λm E u=>∃(xs:n0) (q:Tx) (a:Nat) (d:oh) (l:ol) (f:Nat),m=16-Z xs/\E 0=ptr o 0/\E 4=sl a (Z xs) d/\Rs o y id u f/\RS Bd t o l f q u/\J y u a (Z xs)/\V (f=1\/f≠a)/\N<+:l/\Z xs<=16/\Z d=Z xs*4/\V (r (PI l) xs d)/\V (IB s xs q)) 16
  ⟨[],s,1,[],N,id,rfl,rfl,rfl,Rs.refl _ _ _,Lqx,J.nil _ _,by obtain⟨e,-⟩|⟨k,e,-⟩:=a4;exact .inl e;exact .inr L,prefix_refl _,nk,nk,rfl,IB.start s⟩ ?_
 rintro m E u ⟨xs,q,a,d,l,f,rfl,h0,h4,K,i,M,ab,A,a0,a3,S,G⟩;have a8:=K.keep.B;have a9:=i.lt;have I:=i.C;have ap:=Je i.suf;unfold Pk dO at I;refine X ?_;refine Ax Ag (λ_=>True) [9] [0,1,2,3,4,5,6,7,8] [9] AH (λ_ _ _ h=>h) ?_;intro yb ya;cases q with
 |nil=>
  simp only[CQ,PH]at I ap;refine X ?_;have j:=G.o.done
  first
  |exact⟨_,rfl,_,a,d,l,f,by rw[j];rfl,K,by rw[j];exact i,A,by rw[j];exact⟨rfl,S.o⟩⟩
  |exact⟨_,rfl,_,a,d,l,f,by rw[j];rfl,by rw[j];exact i,A,by rw[j];exact⟨rfl,S.o⟩⟩
 |cons b0 r0=>
  simp only[BQ]at I ap;refine Z3 ?_;by_cases au:Z xs<16
  ·repeat' first|refine Z1 ?_|refine Z8 λyb ya=>?_|refine Z4 ?_;clear ya yb|refine Z2 ?_ ?_<;>intro h ae<;>try exact Xp|refine Z6 ?_;intro ac yn af ah a2 a1 ad aa|refine Z5 ?_;refine Xi (qR ht nu) ?_;rintro _ _ ⟨b,k,B,n,c,C,m,e,z,g,rfl,R,D,P,aw⟩;(have az:=R.keep.B)|refine Z3 ?_|exact Zt|apply ya.o;clear ya yb
   ·exfalso;simp at h;omega
   ·rename_i p;let⟨e2,F⟩:=Rd.ok_false h;have j:=G.o.fail au F;rw[F]at D;simp only[Rd.rest]at D;refine⟨_,rfl,0,1,[],z,g,by rw[j];rfl,Zu,?_,A.trans P,by rw[j];trivial⟩;rw[j];show RS Bd t o z g e2 _;exact Zr
   rename_i p;let⟨x,Q,F⟩:=Rd.ok_true h;have j:=G.o.next au F;rw[F]at D aw;have hC:=aw;have D:=D;have ax:Rs o y id ((p.new [my false,Y 0,H,H]).put p.B [my b,Y k,sl B n c,sl C m e]) g:=Zu;have a6:=J.keepR M R.keep (Zx ab.o M);have a5:J y ((p.new [my false,Y 0,H,H]).put p.B [my b,Y k,sl B n c,sl C m e]) a (Z xs):=J.put (J.new a6 _) _ _;have U:RS Bd t o z g Q ((p.new [my false,Y 0,H,H]).put p.B [my b,Y k,sl B n c,sl C m e]):=Zr;have T:g=1\/g≠a:=oW ab.o M R.nid;refine Tw (o:=o) (idn:=id) (σ0:=y) (by exact Mw) ax.keep a5 nr (by rfl) a3 (by rfl) (by rfl) nr L L ?_;intro ac yn af ah a2 a1 ad aa ai aj;refine X ?_;refine⟨16-Z (xs++[x]),by simp;omega,xs++[x],Q,ac,d++[my b,Y k,sl B n c,sl C m e],z,g,rfl,nk,⟨ah,ax.nid⟩,U.app a2 a1 aa ai T,nn af,fG U.own T aj,A.trans P,by simp;omega,by simp;omega,r.append (S.o.mono (PI.mono P)) (r.single hC),j⟩
  have a7:Z xs=16:=L;have j:=G.o.full a7;have v:V _:=j;clear j;refine X ?_
  first
  |exact⟨_,rfl,0,1,[],l,f,by rw[v.o];rfl,K,by rw[v.o];exact i,A,by rw[v.o];trivial⟩
  |exact⟨_,rfl,0,1,[],l,f,by rw[v.o];rfl,by rw[v.o];exact i,A,by rw[v.o];trivial⟩
def PC (N:ol)(a:AE)(c:oh):Prop:=a.B∈N/\∃b,c=[Y (N.idxOf a.B:Nat),sl b (Z a.A) (A0 a.A)]
def iN {N}(a c)(h:PC N a c):Z c=2:=by obtain⟨-,b,rfl⟩:=h;rfl
def Pu {N l cs i a}(h:r (PL N) l cs)(f:l[i]?=some a):a.B∈N/\∃b g,cs.drop (i*3)=my a.nt::Y (N.idxOf a.B:Nat)::sl b (Z a.A) (A0 a.A)::g:=by obtain⟨c,g,⟨d,b,rfl⟩,e⟩:=r.get Eh h f;grind
def OZ {N l cs i a}(h:r (PC N) l cs)(f:l[i]?=some a):a.B∈N/\∃b g,cs.drop (i*2)=Y (N.idxOf a.B:Nat)::sl b (Z a.A) (A0 a.A)::g:=by obtain⟨c,g,⟨d,b,rfl⟩,e⟩:=r.get iN h f;grind
def Ih {N l cs i x}(h:r (PI N) l cs)(f:l[i]?=some x):x.h.B∈N/\∃ih id b g,r (PL N) x.A b/\cs.drop (i*4)=my x.o::Y (N.idxOf x.h.B:Nat)::sl ih (Z x.h.A) (A0 x.h.A)::sl id (Z x.A) b::g:=by obtain⟨c,g,⟨d,ih,id,b,a,rfl⟩,e⟩:=r.get Ew h f;grind
def XS {N l cs}(h:r (PC N) l cs):∀c∈cs,Plain c:=by
 induction l generalizing cs with
 |nil=>obtain rfl:cs=[]:=h;simp
 |cons a l e=>
  obtain⟨i,j,⟨-,g,rfl⟩,f,rfl⟩:=h;intro c b;obtain b|b:=AW.1 b;simp only[BD,EK,DZ]at b;obtain rfl|rfl:=b;exact .inl ⟨_,rfl⟩;refine .inr ⟨_,_,_,rfl,λx d=>?_⟩;simp only[A0,EX,T4,BD,EK,DZ]at d;obtain⟨w,-,rfl|rfl⟩:=d<;>exact⟨_,rfl⟩;exact e f c b
def uW {xs c:oh}{n u v a b}(d:Z xs=n):((xs++u::v::c).set n a).set (n+1) b=xs++a::b::c:=jx
def U8 {m}(h:0<m)(u v:AV):(replicate m [u,v]).flatten=u::v::(replicate (m-1) [u,v]).flatten:=by obtain⟨k,rfl⟩:∃k,m=k+1:=⟨m-1,L⟩;rw[replicate_succ];rfl
def xK (N x c)(I:PI N x c)(K:x.o=false)(T:Z x.A<=1000)(d):ni 133 [ag c] d λE g=>∃(o n:Nat) (cs:oh),E=fx o 0 n/\d.B<=o/\g.C o=cs/\W d g/\(∀c∈cs,Plain c)/\(n=Z (Af x)/\r (PC N) (Af x) cs):=by
 obtain⟨B,q,id,b,z,rfl⟩:=I;have a3:=r.length Eh z;refine wl func133 ?_;refine X ?_;have v:W d (d.new [my false,Y (N.idxOf x.h.B:Nat),sl q (Z x.h.A) (A0 x.h.A),sl id (Z x.A) b]):=(W.refl _).new _;have u:((Z x.A:Int)+1).toNat=Z x.A+1:=L
 refine Ae (λm s g=>∃(k:Nat) (e:oh),m=Z x.A-k/\k<=Z x.A/\s 3=fx (d.B+1) 0 (Z x.A+1)/\s 18=sl id (Z x.A) b/\s 19=Y (Z x.A)/\s 20=Y k/\W d g/\d.B+1<g.B/\g.C (d.B+1)=e/\Z e=(Z x.A+1)*2/\V (∃f,e=f++(replicate (Z x.A-k) [Y 0,H]).flatten/\Z f=(1+k)*2/\r (PC N) (x.h::x.A.take k) f)) (Z x.A)
  ⟨0,_,L,L,by simp[upd,u],AG,AG,rfl,(v.new _).put L _,BJ,Ak,ns u,[Y (N.idxOf x.h.B:Nat),sl q (Z x.h.A) (A0 x.h.A)],?_,nk,r.single ⟨B,q,rfl⟩⟩ ?_
 ·rw[u,U8 L];rfl
 clear v;rintro m s g ⟨k,e,rfl,U,a0,a4,S,a1,t,P,C,F,A⟩;have a2:=t.B;by_cases D:k<Z x.A
 ·obtain⟨a,p⟩:=gq D;obtain⟨y,l,E,R⟩:=Pu z p;have G:V (x.A[k]?=some a):=p;clear p;have M:((k:Int)+1).toNat=k+1:=L
  refine X ?_;have Q:V (∃f,(e.set ((k+1)*2) (Y (N.idxOf a.B:Nat))).set ((k+1)*2+1) (sl l (Z a.A) (A0 a.A))=f++(replicate (Z x.A-(k+1)) [Y 0,H]).flatten/\Z f=(1+(k+1))*2/\r (PC N) (x.h::x.A.take (k+1)) f):=by
   let⟨f,j,e2,i⟩:=A.o;refine⟨f++[Y (N.idxOf a.B:Nat),sl l (Z a.A) (A0 a.A)],?_,by simp[e2];omega,?_⟩
   ·rw[j,U8 L,uW (by rw[e2];omega)];simp[Nat.sub_sub]
   rw[AT,G.o];exact r.append i (r.single ⟨y,l,rfl⟩)
  refine⟨Z x.A-(k+1),L,k+1,(e.set ((k+1)*2) (Y (N.idxOf a.B:Nat))).set ((k+1)*2+1) (sl l (Z a.A) (A0 a.A)),?_⟩
  ((repeat' refine Zi ?_ ?_)<;>first|exact Xq|exact (((t.new _).put t.B _).put L _)|exact Ak|exact Q|exact (by simp[F])|exact Xs)
 obtain rfl:k=Z x.A:=L;let⟨f,j,e2,i⟩:=A.o;rw[GX,replicate_zero,flatten_nil,EJ]at j;rw[AS]at i;subst j;have a5:Af x=x.h::x.A:=by simp[Af,K]
 refine X ?_;exact⟨_,rfl,d.B+1,_,e,rfl,L,C,XS i,rfl,i⟩
def qY (N x c)(e:PI N x c)(i:x.o)(d):ni 133 [ag c] d λk a=>k=H/\W d a:=by
 obtain⟨j,g,id,b,f,rfl⟩:=e;apply wl func133;refine X ?_
 first
 |exact⟨_,rfl,rfl,Xs⟩
 |exact⟨rfl,Xs⟩
def Nj (N x c)(e:PI N x c)(f:x.o->x.A=[])(i:Z x.A<=1000)(d):ni 133 [ag c] d λg b=>∃id cs,g=sl id (Z (Af x)) cs/\r (PC N) (Af x) cs/\W d b:=by by_cases a:x.o=true;refine (qY N x c e a d).mono λg b h=>?_;obtain⟨rfl,h⟩:=h;exact⟨1,[],by grind[Af],by grind[Af,r],h⟩;have a:x.o=false:=nn a;refine (AF.freeze (xK N x c e a i d)).mono λg b h=>?_;grind
def Gm {b k w}(h:b[k]?=some w):∃g,(A0 b).drop (k*2)=my ((Aq w).1)::Y (Aq w).2::g:=by
 have f:∀b:ol,r (λw c=>c=T4 w) b (A0 b):=by
  intro b;induction b with
  |nil=>rfl
  |cons a l d=>exact⟨T4 a,A0 l,rfl,d,by simp[A0]⟩
 obtain⟨c,g,rfl,e⟩:=r.get (z:=2) (λa c h=>by rw[h];rfl) (f b) h;exact⟨g,e⟩
def Ot {p:Nat->Bool}{i}(h:∀j,j<i->p j=false)(a:p i=false):∀j,j<i+1->p j=false:=λj b=>gp
def Ql (v:Int)(w:Tx):Bool:=(Aq w).1&&(Aq w).2==v
def nU (a:AE)(v:Int)(i:Nat):Bool:=match a.A[i]? with|some w=>Ql v w|none=>false
def lX (k u a v)(y:Z a.A<=1000)(d):ni 217 [ag [Y k,sl u (Z a.A) (A0 a.A)],Y v] d λm c=>m=Y (Bn (nU a v) (Z a.A))/\W d c:=by
 have G:=Fh a.A;refine wl func217 ?_;refine X ?_
 refine wn [1,8,9] 10 (Z a.A) (λi s c=>W d c/\V (∀j,j<i->nU a v j=false)) ⟨Xs,λj E=>L⟩ ?_
 rintro i s c _ _ _ ⟨o,b⟩;by_cases n:i<Z a.A
 ·obtain⟨w,e⟩:=gq n;obtain⟨m,f⟩:=Gm e;have p:V (nU a v i=Ql v w):=by rw[V,nU,e]
  clear e;have z:=o.B;generalize l:(Aq w).1=x at f;generalize g:(Aq w).2=t at f;have q:V (Ql v w=(x&&t==v)):=by rw[V,Ql,l,g]
  clear l g
  repeat' first|refine Z1 ?_|refine Z8 λyb ya=>?_|refine Z4 ?_;clear ya yb|refine Z2 ?_ ?_<;>intro h B<;>try exact Xp|refine Z3 ?_|exact Zt|apply ya.o;clear ya yb
  ·exact⟨_,rfl,by rw[Gq n (by rw[p.o,q.o];simp[*]) b.o],Xs⟩
  all_goals exact⟨Xs,Ot b.o (by rw[p.o,q.o];simp[*])⟩
 obtain rfl:i=Z a.A:=L;refine X ?_
 exact⟨_,rfl,by rw[Ci b.o]⟩
def sC {α:Type}(l:List α)(q p)(c:∀i,p i=match l[i]? with|some w=>q w|none=>false):(decide (Bn p (Z l)≠ -1))=l.any q:=by
 by_cases h:l.any q=true;rw[h];rw[CU]at h;let⟨w,g,e⟩:=h;let⟨i,a,f⟩:=getElem_of_mem g;by_cases b:Bn p (Z l)= -1;exfalso;rw[Bn]at b;split at b;omega;rename_i d;rw[KB]at d;have:=d i (nn a);rw[c,AK a,f]at this;simp[e]at this;simpa using b;have h:l.any q=false:=nn h
 rw[h,Ci (λi a=>gp)]
 simp
def xJ (k g)(a:AE)(v)(c:Z a.A<=1000)(d):ni 232 [ag [Y k,sl g (Z a.A) (A0 a.A)],Y v] d λj b=>j=my (a.A.any (Ql v))/\W d b:=by have e:=sC a.A (Ql v) (nU a v) (λi=>by grind[nU]);apply wl func232;apply mt (lX _ _ a v c);rintro yb ya _ _ ⟨rfl,f⟩;refine X ?_;refine⟨_,rfl,?_,Xs⟩;grind
def Ga (x:AB)(v:Int):Bool:=x.A.any λa=>!a.nt&&a.A.any (Ql v)
def mD (N x c v)(y:PI N x c)(p:x.fits)(d):ni 192 [ag c,Y v] d λm f=>m=my (Ga x v)/\W d f:=by
 obtain⟨B,A,id,b,n,rfl⟩:=y;have C:=r.length Eh n;let⟨M,E,q⟩:=p;refine wl func192 ?_;refine X ?_
 refine wn [1,8,9] 10 (Z x.A) (λi s f=>W d f/\V ((x.A.take i).any (λa=>!a.nt&&a.A.any (Ql v))=false)) ⟨Xs,by simp[V]⟩ ?_
 rintro i s f _ _ _ ⟨l,e⟩;by_cases j:i<Z x.A
 ·obtain⟨a,g⟩:=gq j;have o:=q a (AY g);obtain⟨u,K,m,z⟩:=Pu n g;have k:V (x.A[i]?=some a):=g;clear g;have D:=l.B
  repeat' first|refine Z1 ?_|refine Z8 λyb ya=>?_|refine Z4 ?_;clear ya yb|refine Z2 ?_ ?_<;>intro h t<;>try exact Xp|refine Z5 ?_;refine Xi (xJ _ _ a v o _) ?_;rintro _ _ ⟨rfl,F⟩|refine Z3 ?_|exact Zt|apply ya.o;clear ya yb
  ·exact⟨_,rfl,by rw[Ga,D4 _ k.o (by simp[*])],Xs⟩
  all_goals
   refine⟨Xs,?_⟩;rw[V,any_take_succ _ k.o,e.o];simp[*]
 obtain rfl:i=Z x.A:=L;rw[AS]at e;refine X ?_
 exact⟨_,rfl,by rw[Ga,e.o]⟩
def Fi (x:AB):Bool:=!(Af x).any λa=>a.A.any λw=>(Aq w).1&&!Ga x (Aq w).2
def Xy (N x c)(D:PI N x c)(E:x.o->x.A=[])(k:x.fits)(d):ni 146 [ag c] d λu f=>u=my (Fi x)/\W d f:=by
 have y:=Nj N x c D E (ny k.1);have T:=λa2=>mD N x c a2 D k;obtain⟨hm,p,id,b,hb,rfl⟩:=D;have a5:=r.length Eh hb;have a6:=k.atoms;have U:∀a∈Af x,Z a.A<=1000:=by
  intro a q;unfold Af at q;obtain h|h:=AW.1 q
  ·split at h
   ·cases h
   simp at h;subst h;exact k.2.1
  exact k.2.2 a h
 refine wl func146 ?_;refine mt y ?_;rintro yb ya _ _ ⟨ac,aa,rfl,M,o⟩;have m:=o.C;have ah:=o.B;(try simp only[Aa,Ac,Az]at ah);refine X ?_;rename_i l;have a4:=r.length iN M;have Q:l.C d.B=[my x.o,Y (N.idxOf x.h.B:Nat),sl p (Z x.h.A) (A0 x.h.A),sl id (Z x.A) b]:=by rw[m _ (by rw[Aa];omega),Ao]
 have o:W (d.new [my x.o,Y (N.idxOf x.h.B:Nat),sl p (Z x.h.A) (A0 x.h.A),sl id (Z x.A) b]) l:=o
 refine wn [1,8,9] 10 (Z (Af x)) (λi s f=>W l f/\V (((Af x).take i).any (λa=>a.A.any λw=>(Aq w).1&&!Ga x (Aq w).2)=false)) ⟨W.refl _,by simp[V]⟩ ?_
 rintro i s f _ ⟨C,a1,a9⟩ a0 ⟨g,B⟩;have K:=g.B;have n:f.C d.B=[my x.o,Y (N.idxOf x.h.B:Nat),sl p (Z x.h.A) (A0 x.h.A),sl id (Z x.A) b]:=by rw[g.C _ L,Q]
 have a7:W d l:=((W.refl d).new _).trans o;clear m;by_cases v:i<Z (Af x)
 ·obtain⟨a,e⟩:=gq v;have ax:=U a (AY e);obtain⟨q,ia,u,hd⟩:=OZ M e;have F:V ((Af x)[i]?=some a):=e;clear e;have a3:=Fh a.A
  refine X ?_
  refine wn [1,8,9,10,15,16] 17 (Z a.A) (λj s f=>W l f/\V ((a.A.take j).any (λw=>(Aq w).1&&!Ga x (Aq w).2)=false)) ⟨(g.new _).put g.B _,by simp[V]⟩ ?_
  clear n g K C a1 a9 a0;rintro j s f _ _ _ ⟨g,z⟩;have K:=g.B;have n:f.C d.B=[my x.o,Y (N.idxOf x.h.B:Nat),sl p (Z x.h.A) (A0 x.h.A),sl id (Z x.A) b]:=by rw[g.C _ L,Q]
  by_cases S:j<Z a.A
  ·obtain⟨w,e⟩:=gq S;obtain⟨r2,A⟩:=Gm e;have I:V (a.A[j]?=some w):=e;clear e;generalize P:(Aq w).1=w1 at A;generalize t:(Aq w).2=R at A;have G:V (((Aq w).1&&!Ga x (Aq w).2)=(w1&&!Ga x R)):=by rw[V,P,t]
   clear P t
   repeat' first|refine Z1 ?_|refine Z8 λyb ya=>?_|refine Z4 ?_;clear ya yb|refine Z2 ?_ ?_<;>intro h ab<;>try exact Xp|refine Z5 ?_;refine Xi (T _ _) ?_;rintro _ _ ⟨rfl,a8⟩|refine Z3 ?_|exact Zt|apply ya.o;clear ya yb
   ·exact⟨_,rfl,by rw[Fi,D4 _ F.o (D4 _ I.o (by rw[G.o];simp[*]))];rfl,Xs⟩
   all_goals
    refine⟨Xs,?_⟩;rw[V,any_take_succ _ I.o,z.o,G.o];simp[*]
  obtain rfl:j=Z a.A:=L;rw[AS]at z;refine X ?_;skip;rw[V,any_take_succ _ F.o,B.o,z.o];rfl
 obtain rfl:i=Z (Af x):=L;rw[AS]at B;refine X ?_;exact⟨_,rfl,by rw[Fi,B.o];rfl,Xs⟩
abbrev Cq (N:ol)(idn:Nat)(l:n0)(a:Nat)(cs:oh):AV:=ag [lw idn N,sl a (Z l) cs]
structure Bk (N:ol)(l:n0)(cs:oh):Prop where
 el:r (PI N) l cs
 len:Z l<=16
 fits:∀x∈l,x.fits
 o:∀x∈l,x.o->x.A=[]
 nm:Z N<=2000
 pos:∀x∈l,∀a∈Af x,0<Z a.A
def Oi (l:n0)(i:Nat):Bool:=match l[i]? with|some x=>!Fi x|none=>false
def PI.of {N x ih id b}(a:x.h.B∈N)(h:r (PL N) x.A b):PI N x [my x.o,Y (N.idxOf x.h.B:Nat),sl ih (Z x.h.A) (A0 x.h.A),sl id (Z x.A) b]:=⟨a,ih,id,b,h,rfl⟩
def To (N l cs idn u)(a:Bk N l cs)(d):ni 122 [Cq N idn l u cs] d λm e=>m=Y (Bn (Oi l) (Z l))/\W d e:=by
 have I:=r.length Ew a.el;have A:=a.len;refine wl func122 ?_;refine X ?_
 refine wn [6,7] 8 (Z l) (λi s e=>W d e/\V (∀j,j<i->Oi l j=false)) ⟨Xs,λj G=>L⟩ ?_
 rintro i s e _ _ _ ⟨p,c⟩;have B:=p.B;by_cases g:i<Z l;obtain⟨x,f⟩:=gq g;have n:=a.fits x (AY f);have o:=a.o x (AY f);obtain⟨k,y,id,b,m,q,v⟩:=Ih a.el f;have t:V (Oi l i=!Fi x):=by rw[V,Oi,f]
 clear f;refine mt (Xy N x _ (PI.of k q) o n) ?_;rintro yb ya _ _ ⟨rfl,z⟩;refine m6 ?_ ?_<;>intro h E;exact⟨_,rfl,by rw[Gq g (by rw[t.o];simp[*]) c.o],Xs⟩;exact⟨Xs,Ot c.o (by rw[t.o];simp[*])⟩;obtain rfl:i=Z l:=L;refine X ?_
 exact⟨_,rfl,by rw[Ci c.o]⟩
def Ju (S:oq)(p:Tx):Nat:=match S.find? (λa=>a.B==p)with|some a=>Z a.A|none=>0
def Se (S:oq):Prop:=∀b∈S,0<Z b.A/\Z b.A=Ju S b.B
theorem XE (S a p):Ju (S++[a]) p=match S.find? (λa=>a.B==p)with|some b=>Z b.A|none=>if a.B=p then Z a.A else 0:=by grind[Ju]
theorem Zd {S}(h:Se S)(p):Ju S p=0↔S.find? (λa=>a.B==p)=none:=by
 rw[Ju];cases c:S.find? (λa=>a.B==p)with
 |none=>simp
 |some b=>
  have d:=(h b (ME c)).1;constructor;intro e;have e:Z b.A=0:=e;omega;intro e;cases e
theorem eZ {S}(h:Se S)(a):S.any (clash a)↔(Ju S a.B≠0/\Ju S a.B≠Z a.A):=by
 rw[CU];constructor;rintro⟨b,f,d⟩;simp only[clash,BM,DO,CV]at d;have:=h b f;rw[d.1]at this;omega;rintro⟨j,k⟩;have i:S.find? (λb=>b.B==a.B)≠none:=λe=>j ((Zd h _).2 e);cases c:S.find? (λb=>b.B==a.B)with
 |none=>cases i c
 |some b=>
  have g:=find?_some (p:=λb:AE=>b.B==a.B) c;have l:Ju S a.B=Z b.A:=by grind[Ju]
  exact⟨b,ME c,by simp_all[clash,FV,CV]⟩
def Zc {S}(h:Se S)(a p):Ju (S++[a]) p=if p=a.B/\Ju S a.B=0 then Z a.A else Ju S p:=by grind[XE,Ju,Zd]
def eY {S a}(h:Se S)(f:0<Z a.A)(d:S.any (clash a)=false):Se (S++[a]):=by
 have i:¬(Ju S a.B≠0/\Ju S a.B≠Z a.A):=λe=>by grind[eZ]
 intro b c;rw[Zc h];obtain c|c:=AW.1 c;have:=h b c;refine⟨this.1,?_⟩;by_cases e:b.B=a.B/\Ju S a.B=0;rw[e.1]at this;omega;rw[if_neg e];exact this.2;simp at c;subst c;refine⟨f,?_⟩;by_cases e:Ju S b.B=0;rw[if_pos ⟨rfl,e⟩];rw[if_neg (gp)];omega
def XC:Se []:=λb a=>gp
def Pe (n:Nat)(a:Nat->Int):oh:=(range n).map λi=>Y (a i)
def Zb (n cc):Z (Pe n cc)=n:=by simp[Pe]
def N0 {n i}(cc)(h:i<n):(Pe n cc)[i]?=some (Y (cc i)):=by grind[Pe]
def WX {n i}(cc v):(Pe n cc).set i (Y v)=Pe n (λj=>if j=i then v else cc j):=by
 apply FL;intro j;rw[GH];by_cases a:j<n;rw[N0 (λj=>if j=i then v else cc j) a];by_cases e:i=j;subst e;rw[if_pos rfl,Zb,if_pos a];simp;rw[if_neg e,N0 _ a,if_neg (λd=>e d.symm)];have b:(Pe n λj=>if j=i then v else cc j)[j]?=none:=by grind[Pe]
 have c:(Pe n cc)[j]?=none:=by grind[Pe]
 rw[b,c];split;rw[Zb];rw[if_neg L];rfl
def yX (n):replicate n (Y 0)=Pe n λ_=>0:=by apply FL;intro j;by_cases a:j<n;rw[N0 _ a];simp[a];simp[Pe,a]
def E9 {N:ol}{p q}(b:p∈N)(a:q∈N)(h:N.idxOf p=N.idxOf q):p=q:=by have d:=FN (CS b);grind
def EG (N:ol)(S:oq)(a:Nat->Int):Prop:=∀p∈N,a (N.idxOf p)=(Ju S p:Nat)
def EG.step {N S b a}(h:EG N S b)(g:Se S)(i:a.B∈N):
  (b (N.idxOf a.B)=0->EG N (S++[a]) (λj=>if j=N.idxOf a.B then (Z a.A:Int)else b j))/\(b (N.idxOf a.B)≠0->EG N (S++[a]) b):=by have k:=h a.B i;constructor;intro e p c;rw[Zc g];dsimp only;by_cases f:p=a.B;subst f;rw[if_pos rfl,if_pos ⟨rfl,L⟩];rw[if_neg (λd=>f (E9 c i d)),if_neg (gp)];exact h p c;intro e p c;rw[Zc g,if_neg (gp)];exact h p c
def Uy (N l cs idn a0)(t:Bk N l cs)(d):ni 121 [Cq N idn l a0 cs] d λa3 g=>a3=Y (Bn (Gn l) (Z l))/\W d g:=by
 have T:=r.length Ew t.el;have bm:=t.len;have hN:=t.nm;refine wl func121 ?_;refine X ?_
 refine Ae (λa1 s g=>∃(i:Nat) (e:Nat->Int),a1=Z l-i/\i<=Z l/\s 3=fx (d.B+1) 0 (Z N)/\s 13=sl a0 (Z l) cs/\s 14=Y (Z l)/\s 15=Y i/\W d g/\d.B+1<g.B/\g.C (d.B+1)=Pe (Z N) e/\V (EG N (Ha l i) e)/\V (Se (Ha l i))/\V (TV l i)) (Z l)
  ⟨0,λ_=>0,L,L,?_,rfl,rfl,rfl,Xs,AM,?_,?_,by simp[V,Ha,XC],λa h=>L⟩ ?_
 simp[upd];show (if d.B+1=d.B+1 then _ else _)=_;rw[if_pos rfl];exact yX _;intro ak hp;simp[Ha,Ju];rintro a1 s g ⟨i,e,rfl,hi,aa,ac,a5,a6,f,y,K,u,k,F⟩;have a8:=f.B;by_cases a4:i<Z l;obtain⟨x,o⟩:=gq a4;have P:=t.fits x (AY o);have ba:=t.o x (AY o);have a9:=t.pos x (AY o);obtain⟨hm,ih,id,b,a3,G,hd⟩:=Ih t.el o;have M:V (l[i]?=some x):=o;clear o;have b3:=P.atoms;refine m0 ?_;intro yb ya;refine Xi (Nj N x _ (PI.of hm G) ba (ny P.1) _) ?_;rintro _ _ ⟨ae,af,rfl,bf,R⟩;have ah:=R.C;have ai:=R.B;(try simp only[Aa,Ac,Az]at ai);refine X ?_;rename_i d1;have bq:=r.length iN bf;have be:W d d1:=Xs;have aj:d1.C (d.B+1)=Pe (Z N) e:=by
  rw[ah _ (by simp only[Aa,Ac];omega),Aj L,Ah y];exact K
 clear ah
 refine wn [3,4,13,14,15,21,22] 23 (Z (Af x)) (λj s g=>∃e:Nat->Int,W d g/\d.B+1<g.B/\g.C (d.B+1)=Pe (Z N) e/\V (EG N (Ct l x i j) e)/\V (Se (Ct l x i j))/\V (TN l x i j)) ⟨e,be,L,aj,by simpa[Ct]using u,by simpa[Ct]using k,λb h=>L⟩ ?_
 clear aj f K u k R ai a8 aa ac a5 a6 y e be;rintro j s g _ _ _ ⟨e,f,y,K,u,k,q⟩;have a8:=f.B;by_cases S:j<Z (Af x);obtain⟨a,o⟩:=gq S;have a2:=a9 a (AY o);obtain⟨E,ia,r2,bb⟩:=OZ bf o;have C:V ((Af x)[j]?=some a):=o;clear o;have U:V (Mh l x i j=(Ct l x i j).any (clash a)):=by rw[V,Mh,C.o]
 have Q:=CS E;have D:=u.o.step k.o E;have p:=u.o a.B E;have bc:=N0 e Q;have B:=λad=>WX (n:=Z N) (i:=N.idxOf a.B) e ad;have b0:=Zb (Z N) e;generalize br:e (N.idxOf a.B)=c at bc D p;clear br;generalize N.idxOf a.B=ix at bb bc Q D B;have T:=eZ k.o a;have bg:V _:=D;have m:V _:=p;have I:V _:=T;clear D p T;by_cases A:(c==0)=true;have b2:((Pe (Z N) e).set ix (Y (Z a.A)))[ix]?=some (Y (Z a.A)):=by rw[B,N0 _ Q];simp
 have b1:((Z a.A:Int) !=Z a.A)=false:=nk;have bu:c=0:=nn A;have bz:V _:=B;clear B;refine X ?_;refine Ax Ag (λ_=>True) [8] [0,1,2,3,4,5,6,7] [8] AH (λ_ _ _ h=>h) ?_;intro yb ya;refine X ?_;have z:(Ct l x i j).any (clash a)=false:=by
  cases v:(Ct l x i j).any (clash a)
  ·rfl
  exfalso;have h1:=(I.o.1 v).1;have h2:=m.o;omega
 refine⟨_,((f.new _).put f.B _).put L _,L,bz.o _,?_,?_,Ot q.o (by rw[U.o];exact z)⟩;rw[V,I3 C.o];exact bg.o.1 bu;rw[V,I3 C.o];exact eY k.o a2 z;have A:(c==0)=false:=nn A;clear B;refine X ?_;refine Ax Ag (λ_=>True) [8] [0,1,2,3,4,5,6,7] [8] AH (λ_ _ _ h=>h) ?_;intro yb ya;refine Z3 ?_;refine m6 ?_ ?_<;>intro h ab;have bd:c≠0:=nn A;have bv:c≠Z a.A:=nn h;have bp:=I.o.2 ⟨ny m.o,ny m.o⟩;have bi:Gn l i:=by
  unfold Gn;rw[M.o];dsimp only;rw[CU];exact⟨j,nn S,by rw[U.o];exact bp⟩
 exact⟨_,rfl,by rw[Gq a4 bi F.o],(f.new _).put f.B _⟩;have bd:c≠0:=nn A;have bv:c=Z a.A:=nn h;have z:(Ct l x i j).any (clash a)=false:=by
  cases v:(Ct l x i j).any (clash a)
  ·rfl
  exfalso;have h1:=(I.o.1 v).2;have h2:=m.o;omega
 refine⟨e,(f.new _).put f.B _,L,rfl,?_,?_,Ot q.o (by rw[U.o];exact z)⟩;rw[V,I3 C.o];exact bg.o.2 bd;rw[V,I3 C.o];exact eY k.o a2 z;obtain rfl:j=Z (Af x):=L;refine X ?_;have bh:Ct l x i (Z (Af x))=Ha l (i+1):=by rw[dH M.o];simp[Ct]
 rw[bh]at u k;refine⟨Z l-(i+1),L,i+1,e,rfl,L,nk,rfl,u,k,Ot F.o ?_⟩;unfold Gn;rw[M.o];dsimp only;rw[EV];intro b G;have bw:=q.o b (nn G);simp[bw];obtain rfl:i=Z l:=L;refine X ?_
 exact⟨_,rfl,by rw[Ci F.o]⟩
def Iq (n:Nat)(f:Nat->Bool):oh:=(range n).map λi=>my (f i)
def E0 (n f):Z (Iq n f)=n:=by simp[Iq]
def Hh {n i}(f)(h:i<n):(Iq n f)[i]?=some (my (f i)):=by grind[Iq]
theorem Ze {n i}(f v):(Iq n f).set i (my v)=Iq n (λj=>if j=i then v else f j):=by
 apply FL;intro j;rw[GH];by_cases a:j<n;rw[Hh (λj=>if j=i then v else f j) a];by_cases e:i=j;subst e;rw[if_pos rfl,E0,if_pos a];simp;rw[if_neg e,Hh _ a,if_neg (λd=>e d.symm)];have b:(Iq n λj=>if j=i then v else f j)[j]?=none:=by grind[Iq]
 have c:(Iq n f)[j]?=none:=by grind[Iq]
 rw[b,c];split;rw[E0];rw[if_neg L];rfl
def fA (n):replicate n (my false)=Iq n λ_=>false:=by apply FL;intro j;by_cases a:j<n;rw[Hh _ a];simp[a];simp[Iq,a]
def F3 (B n k:Nat):oh:=(range k).map λi=>fx (B+i) 0 n
theorem I5 (B n k):Z (F3 B n k)=k:=by simp[F3]
def qL (B n k):F3 B n (k+1)=F3 B n k++[fx (B+k) 0 n]:=by simp[F3,range_succ]
def I6 {B n k i}(h:i<k):(F3 B n k).drop i=fx (B+i) 0 n::(F3 B n k).drop (i+1):=by simp_all[ET,I5,F3]
def By (B n:Nat)(M:Nat->Nat->Bool)(d:St):Prop:=∀i,i<n->d.C (B+i)=Iq n (M i)
def By.keep {B n M d a}(h:By B n M d)(k:W d a)(c:B+n<=d.B):By B n M a:=λi b=>by rw[k.C _ L];exact h i b
def By.new {B n M d}(h:By B n M d)(b:B+n<=d.B)(cs):By B n M (d.new cs):=λi a=>by rw[Ah L];exact h i a
def By.put {B n o M d}(h:By B n M d)(b:B+n<=o)(cs):By B n M (d.put o cs):=λi a=>by rw[Aj L];exact h i a
def By.set {B n p q M d}(h:By B n M d)(f:p<n)(v):By B n (set2 M p q v) (d.put (B+p) ((Iq n (M p)).set q (my v))):=λi b=>by
 by_cases e:i=p;subst e;rw[Ak,Ze];congr 1;funext j;simp[set2];have a:(d.put (B+p) ((Iq n (M p)).set q (my v))).C (B+i)=d.C (B+i):=by grind[Aj,Oh]
 rw[a,h i b];congr 1;funext j;simp[set2,e]
def Yj (N:ol)(l:n0)(p q:Nat):Prop:=∃x∈l,N.idxOf x.h.B=p/\∃a∈x.A,N.idxOf a.B=q
def jl (N:ol)(x:AB)(b:oq)(p q:Nat):Prop:=N.idxOf x.h.B=p/\∃a∈b,N.idxOf a.B=q
def Dw (N:ol)(l:n0)(M:Nat->Nat->Bool):Prop:=∀p q,M p q↔Yj N l p q
def BX (N:ol)(l:n0)(x:AB)(b:oq)(M:Nat->Nat->Bool):Prop:=∀p q,M p q↔Yj N l p q\/jl N x b p q
def BX.step {N l x j a M}(h:BX N l x (x.A.take j) M)(g:x.A[j]?=some a):BX N l x (x.A.take (j+1)) (set2 M (N.idxOf x.h.B) (N.idxOf a.B) true):=by intro p q;rw[AT,g];rw[set2];by_cases e:p=N.idxOf x.h.B/\q=N.idxOf a.B;rw[if_pos e];simp only[true_iff];exact .inr ⟨e.1.symm,a,nk,e.2.symm⟩;rw[if_neg e,h p q];constructor;rintro (h|⟨f,b,c,d⟩);exact .inl h;exact .inr ⟨f,b,ns c,d⟩;rintro (h|⟨f,b,c,d⟩);exact .inl h;simp only[BN,AW,FY]at c;obtain c|rfl:=c;exact .inr ⟨f,b,c,d⟩;cases e ⟨f.symm,d.symm⟩
def BX.zero {N l x M}(h:Dw N l M):BX N l x (x.A.take 0) M:=by intro p q;rw[h p q];constructor;exact .inl;rintro (h|⟨-,b,a,-⟩)<;>grind
def BX.done {N}{l:n0}{x i M}(h:BX N (l.take i) x x.A M)(b:l[i]?=some x):Dw N (l.take (i+1)) M:=by intro p q;rw[h p q,AT,b];constructor;rintro (⟨y,a,g⟩|g);exact⟨y,ns a,g⟩;exact⟨x,nk,g⟩;rintro⟨y,a,g⟩;simp only[BN,AW,FY]at a;obtain a|rfl:=a;exact .inl ⟨y,a,g⟩;exact .inr g
def Un (N l cs idn q)(C:Bk N l cs)(d):ni 206 [Cq N idn l q cs] d λa1 c=>∃f B M,a1=sl f (Z N) (F3 B (Z N) (Z N))/\W d c/\d.B<=B/\B+Z N<=c.B/\By B (Z N) M c/\Dw N l M:=by
 have bv:=r.length Ew C.el;have bi:=C.len;have hN:=C.nm;refine wl func206 ?_;refine X ?_
 refine Ae (λa0 s c=>∃(k f:Nat),a0=Z N-k/\k<=Z N/\s 1=ptr d.B 0/\s 3=sl f k (F3 (d.B+1) (Z N) k)/\s 12=Y (Z N)/\s 13=Y k/\W d c/\J d c f k/\c.B=d.B+1+k/\c.C d.B=[lw idn N,sl q (Z l) cs]/\V (∀i,i<k->c.C (d.B+1+i)=Iq (Z N) λ_=>false)) (Z N)
  ⟨0,1,L,L,rfl,rfl,rfl,rfl,Xs,J.nil _ _,rfl,Ao,λi hi=>L⟩ ?_
 rintro a0 s c ⟨k,f,rfl,hk,h1,z,br,bq,g,ak,G,U,t⟩;have bc:=I5 (d.B+1) (Z N) k;by_cases E:k<Z N;refine nh ?_;intro yb ya;have bp:W d (c.new (replicate (Z N) (my false))):=g.new _;refine hZ bp ?_;intro a2 dn ah ai T aa af ab;have bf:dn.C d.B=[lw idn N,sl q (Z l) cs]:=by rw[T,Ah L];exact U
 rw[Aa,G]at aa;refine X ?_;refine⟨Z N-(k+1),L,k+1,a2,rfl,L,by rw[qL],nk,ah,L,?_⟩;intro i hi
 try rw[T]
 by_cases am:i=k;subst am;rw[<-G,Ao,fA];rw[Ah L];exact t.o i L;obtain rfl:k=Z N:=L;refine mw ?_;intro h ae;have I:By (d.B+1) (Z N) (λ_ _=>false) c:=t.o;have y:d.B+1+Z N<=c.B:=L;clear t G ak U bq br h1
 refine wn [3,25,26] 27 (Z l) (λi s c=>∃M:Nat->Nat->Bool,W d c/\d.B+1+Z N<=c.B/\V (By (d.B+1) (Z N) M c)/\V (Dw N (l.take i) M)) ⟨λ_ _=>false,g,y,I,λav an=>by simp[Yj]⟩ ?_
 clear I y z g h ae E hk;rintro i s c _ ⟨z,a3,ad⟩ a5 ⟨M,g,y,t,v⟩;have R:=g.B;by_cases E:i<Z l;obtain⟨x,u⟩:=gq E;have a8:=C.fits x (AY u);obtain⟨aj,F,id,b,a1,P,hd⟩:=Ih C.el u;have HX:V (l[i]?=some x):=u;clear u;have bw:=r.length Eh P;have bu:=a8.1;have D:=CS aj;refine X ?_;have Q:W d ((c.new [my false,Y 0,H,H]).put c.B [my x.o,Y (N.idxOf x.h.B:Nat),sl F (Z x.h.A) (A0 x.h.A),sl id (Z x.A) b]):=(g.new _).put g.B _;have p:=(t.o.new y [my false,Y 0,H,H]).put y [my x.o,Y (N.idxOf x.h.B:Nat),sl F (Z x.h.A) (A0 x.h.A),sl id (Z x.A) b];generalize a6:c.B=K at Q p y
 refine wn [3,6,25,26,27,32,33] 34 (Z x.A) (λj s o=>∃M:Nat->Nat->Bool,W d o/\K<o.B/\o.C K=[my x.o,Y (N.idxOf x.h.B:Nat),sl F (Z x.h.A) (A0 x.h.A),sl id (Z x.A) b]/\V (By (d.B+1) (Z N) M o)/\V (BX N (l.take i) x (x.A.take j) M)) ⟨M,?_,?_,?_,?_,BX.zero v.o⟩ ?_
 exact Q;rw[Ac,Aa];omega;rw[Ak];exact p;clear p Q g t v z a3 ad a5 R M a6;rintro j s o _ _ _ ⟨M,g,bg,ao,t,v⟩;have R:=g.B;by_cases ap:j<Z x.A;obtain⟨a,u⟩:=gq ap;obtain⟨ha,ia,r2,a9⟩:=Pu P u;have HA:V (x.A[j]?=some a):=u;clear u;have be:=CS ha;have bd:=I6 (B:=d.B+1) (n:=Z N) (k:=Z N) D;have bh:=t.o _ D;have bb:=E0 (Z N) (M (N.idxOf x.h.B));have A:=BX.step v.o HA.o;have e:V _:=A;have S:=λ(au:St) (a4:By (d.B+1) (Z N) M au)=>By.set (q:=N.idxOf a.B) a4 D true;have m:V _:=S;clear A S;generalize N.idxOf x.h.B=ph at ao D bd bh bb e m;generalize N.idxOf a.B=qa at a9 be e m;refine X ?_;refine Ax Ag (λ_=>True) [10] [0,1,2,3,4,5,6,7,8,9] [10] AH (λ_ _ _ h=>h) ?_;intro yb ya;refine X ?_;exact⟨_,((g.new _).put g.B _).put L _,L,m.o _ (By.put (By.new t.o L _) L _),e.o⟩;obtain rfl:j=Z x.A:=L;rw[AS]at v;refine X ?_;exact⟨M,L,t,BX.done v.o HX.o⟩;obtain rfl:i=Z l:=L;rw[AS]at v;refine X ?_;exact⟨_,rfl,f,d.B+1,M,rfl,L,y,t.o,v.o⟩
def xM {n M c m i k}(h:part n M m i k c)(e:fw M m i k=M i k):part n M m i (k+1) c:=by intro a b;rw[h];grind
def xL {n M g m i}(h:part n M m i 0 g)(e:M i m=false):part n M m (i+1) 0 g:=by intro a b;rw[h];by_cases d:(a<i/\b<n)\/(a=i/\b<0);rw[if_pos d,if_pos L];rw[if_neg d];by_cases c:(a<i+1/\b<n)\/(a=i+1/\b<0);rw[if_pos c];have f:a=i:=L;rw[f];simp[fw,e];rw[if_neg c]
def P6 (N l cs idn U)(F:Bk N l cs)(d):ni 175 [Cq N idn l U cs] d λac a=>∃c B M,ac=sl c (Z N) (F3 B (Z N) (Z N))/\W d a/\d.B<=B/\B+Z N<=a.B/\By B (Z N) (F9 (Z N) M (Z N)) a/\Dw N l M:=by
 have hN:=F.nm;refine wl func175 ?_;refine mt (Un N l cs idn U F) ?_;rintro yb ya _ _ ⟨c,B,t,rfl,bb,bc,R,S,P⟩;(rw[Aa]at bc);refine X ?_;rename_i a4;have D:V (Dw N l t):=P;clear P;have bh:=I5 B (Z N) (Z N);have T:W d a4:=Xs;clear bb
 refine wn [3,10] 11 (Z N) (λm s a=>W d a/\B+Z N<=a.B/\V (By B (Z N) (F9 (Z N) t m) a)) ⟨T,R,S⟩ ?_
 clear T S R;rintro m s a _ ⟨j,p⟩ o ⟨f,g,b⟩;by_cases u:m<Z N;generalize K:F9 (Z N) t m=M at b;have be:V _:=K;clear K;refine X ?_
 refine wn [3,4,10,11,15] 16 (Z N) (λi s a=>∃y:Nat->Nat->Bool,W d a/\B+Z N<=a.B/\V (By B (Z N) y a)/\V (part (Z N) M m i 0 y)) ⟨M,f,g,b,dV⟩ ?_
 clear f g b j p o;rintro i s a _ ⟨j,A,p,o,a1⟩ ad ⟨y,f,g,b,e⟩;by_cases x:i<Z N;have bi:=I6 (B:=B) (n:=Z N) (k:=Z N) x;have a7:=b.o _ x;have a8:=E0 (Z N) (y i);have v:=Hh (y i) u;obtain⟨-,z,-⟩:=X7 e.o (by omega:0<Z N) u;rw[z]at v;have a9:V _:=z;clear z;refine m6 ?_ ?_<;>intro h aa;exact⟨y,b,xL e.o h⟩;have ab:M i m:=h
 refine wn [3,4,5,10,11,15,16,28] 29 (Z N) (λk s a=>∃y:Nat->Nat->Bool,W d a/\B+Z N<=a.B/\V (By B (Z N) y a)/\V (part (Z N) M m i k y)) ⟨y,f,g,b,e⟩ ?_
 clear f g b e j A p o a1 ad v a8 a7 a9 h y;rintro k s a _ _ _ ⟨y,f,g,b,e⟩;by_cases I:k<Z N;obtain⟨-,-,G⟩:=X7 e.o I u;have bg:=I6 (B:=B) (n:=Z N) (k:=Z N) u;have a6:=b.o _ x;have a5:=b.o _ u;have a3:=E0 (Z N) (y i);have a0:=E0 (Z N) (y m);have v:=Hh (y m) I;rw[G]at v;clear G;have C:=By.set (q:=k) b.o x true;have bf:V _:=C;clear C;generalize Q:M m k=a2 at v;have E:V _:=Q;clear Q;cases a2
 ·refine X ?_;exact⟨y,b,xM e.o (by simp[fw,E.o])⟩
 refine X ?_;exact⟨_,f.put L _,bf.o,mE e.o (by simp[fw,ab,E.o])⟩
 obtain rfl:k=Z N:=L;refine X ?_;exact⟨y,b,mF e.o⟩;obtain rfl:i=Z N:=L;refine X ?_;skip;rw[V,show F9 (Z N) t (m+1)=y by rw[mG e.o,<-be.o];rfl];exact b.o;obtain rfl:m=Z N:=L;refine X ?_
 first
 |exact⟨_,rfl,c,B,t,rfl,f,L,g,b.o,D.o⟩
 |exact⟨_,rfl,c,B,t,rfl,L,g,b.o,D.o⟩
def MW (N:ol)(U:Nat->Nat->Bool)(h:Tx)(a:AE):Bool:=a.nt&&(((N.idxOf a.B:Nat):Int)==((N.idxOf h:Nat):Int)||U (N.idxOf a.B) (N.idxOf h))
def dS (N:ol)(l:n0)(U:Nat->Nat->Bool)(i:Nat):Bool:=match l[i]? with|some x=>x.A.any (MW N U x.h.B)|none=>false
def bA (N l cs idn a0)(g:Bk N l cs)(d):ni 123 [Cq N idn l a0 cs] d λa1 p=>∃M,Dw N l M/\a1=Y (Bn (dS N l (F9 (Z N) M (Z N))) (Z l))/\W d p:=by
 have bg:=r.length Ew g.el;have ba:=g.len;have hN:=g.nm;refine wl func123 ?_;refine mt (P6 N l cs idn a0 g) ?_;rintro yb ya _ _ ⟨ae,B,v,rfl,b,bd,P,m,C⟩;(rw[Aa]at bd;have aj:=b.C;have R:=b.B;(try simp only[Aa,Ac,Az]at R));refine X ?_;rename_i d1;have A:V (Dw N l v):=C;clear C aj;have bf:=I5 B (Z N) (Z N);have Q:W d d1:=Xs;clear b;generalize T:F9 (Z N) v (Z N)=U at m;have G:V _:=T;clear T
 refine wn [3,13,14] 15 (Z l) (λi s p=>W d p/\B+Z N<=p.B/\V (By B (Z N) U p)/\V (∀j,j<i->dS N l U j=false)) ⟨Q,P,m,λj hj=>L⟩ ?_
 clear Q m P R;rintro i s p _ ⟨a2,a5,a4⟩ a3 ⟨c,o,u,y⟩;have S:=c.B;by_cases F:i<Z l
 ·obtain⟨x,f⟩:=gq F;have ac:=g.fits x (AY f);obtain⟨a6,ih,id,ad,a1,I,hd⟩:=Ih g.el f;have hv:V (dS N l U i=x.A.any (MW N U x.h.B)):=by rw[V,dS,f]
  clear f;have bh:=r.length Eh I;have be:=ac.1;have K:=CS a6;refine X ?_
  refine wn [3,4,6,13,14,15,24,25] 26 (Z x.A) (λj s e=>W d e/\B+Z N<=e.B/\V (By B (Z N) U e)/\V ((x.A.take j).any (MW N U x.h.B)=false)) ⟨(c.new _).put c.B _,BJ,By.put (By.new u.o o _) o _,by simp[V]⟩ ?_
  clear c u o a2 a5 a4 a3 S;rintro j s e _ ⟨_,_,h6,_,_,_,_,_⟩ _ ⟨c,o,u,D⟩;have S:=c.B;by_cases an:j<Z x.A
  ·obtain⟨a,f⟩:=gq an;obtain⟨ha,ia,r2,aa⟩:=Pu I f;have q:V (x.A[j]?=some a):=f;clear f;have z:=CS ha;have a8:=I6 (B:=B) (n:=Z N) (k:=Z N) z;have a9:=u.o _ z;have a7:=E0 (Z N) (U (N.idxOf a.B));have E:=Hh (U (N.idxOf a.B)) K;have t:V (MW N U x.h.B a=(a.nt&&(((N.idxOf a.B:Nat):Int)==((N.idxOf x.h.B:Nat):Int)||U (N.idxOf a.B) (N.idxOf x.h.B)))):=rfl;generalize hu:U (N.idxOf a.B) (N.idxOf x.h.B)=uu at E t;clear hu;generalize N.idxOf a.B=pa at aa z a8 a9 a7 E t;generalize N.idxOf x.h.B=ph at h6 E t K
   repeat' first|refine Z1 ?_|refine Z8 λyb ya=>?_|refine Z4 ?_;clear ya yb|refine Z2 ?_ ?_<;>intro h ab<;>try exact Xp|refine Z3 ?_|exact Zt|apply ya.o;clear ya yb
   all_goals
    first
    |(refine⟨_,rfl,v,A.o,?_,(c.new _).put c.B _⟩
      rw[G.o,Gq F (by rw[hv.o];exact D4 _ q.o (by rw[t.o];simp[*])) y.o])
    |(refine⟨(c.new _).put c.B _,L,By.put (By.new u.o o _) o _,?_⟩
      rw[V,any_take_succ _ q.o,D.o,t.o];simp[*])
  obtain rfl:j=Z x.A:=L;rw[AS]at D;refine X ?_;exact Ot y.o (by rw[hv.o];exact D.o)
 obtain rfl:i=Z l:=L;refine X ?_
 first
 |exact⟨_,rfl,v,A.o,by rw[G.o,Ci y.o],c⟩
 |exact⟨_,rfl,v,A.o,by rw[G.o,Ci y.o]⟩
def VT (w:Tx):Prop:=(∃b,w=[b]/\Bs b.toNat)\/(w≠[]/\∀b∈w,A6 b.toNat)
def VA (a:AE):Prop:=∀w∈a.A,VT w
def UQ {s g w}(h:C0 s= .got w g):VT w:=by
 cases s with
 |nil=>cases h
 |cons b q=>
  unfold C0 at h;dsimp only at h;split at h;rename_i e;cases h;exact .inl ⟨b,rfl,e⟩;split at h;rename_i f;cases h;refine .inr ⟨nk,λc a=>?_⟩;simp at a;subst a;rw[CB];exact .inr f;split at h;rename_i d;cases h;refine .inr ⟨nk,λc a=>?_⟩;obtain rfl|a:=BD.1 a;rw[CB];exact .inl d;exact (Ek A6 2 q).2 c a;cases h
def Ol {α:Type}{f}{P:α->Prop}(c:∀s x m,f s= .got x m->P x):∀(n:Nat) (s:Tx) (xs:List α) (m:Tx),D9 f n s= .got xs m->∀x∈xs,P x
 |0,s,xs,m,h=>by grind[D9]
 |n+1,[],xs,m,h=>by grind[D9]
 |n+1,b::q,xs,m,h=>by rw[D9]at h;split at h;let⟨x,l,g,d⟩:=A8 h;let⟨j,k,e,i⟩:=A8 d;cases i;intro y a;obtain rfl|a:=BD.1 a;exact c _ _ _ g;exact Ol c n _ _ _ e y a;cases h;simp
def Om {T:Tx->Prop}(c:∀s w o,C0 s= .got w o->T w){d s o a}(h:Ea d s= .got a o):∀w∈a.A,T w:=by unfold Ea Yh at h;obtain⟨p,j,-,h⟩:=A8 h;obtain⟨u,g,-,h⟩:=A8 h;let⟨w,i,f,h⟩:=A8 h;let⟨l,n,e,h⟩:=A8 h;obtain⟨m,k,-,h⟩:=A8 h;cases h;intro y b;obtain rfl|b:=BD.1 b;exact c _ _ _ f;exact Ol c _ _ _ _ e y b
def mO {T:Tx->Prop}(b:∀s w c,C0 s= .got w c->T w){s c a}(h:K4 s= .got a c):∀w∈a.A,T w:=by rw[vE]at h;exact Om b h
def xN {T:Tx->Prop}(d:∀s w z,C0 s= .got w z->T w){s z x}(h:F4 s= .got x z):∀a∈Af x,∀w∈a.A,T w:=by rw[mP]at h;split at h;rw[gB]at h;obtain⟨p,j,-,h⟩:=A8 h;obtain⟨u,f,-,h⟩:=A8 h;cases h;simp[Af];rw[Pp]at h;let⟨a,j,e,h⟩:=A8 h;rw[mL]at h;split at h;cases h;intro y b;simp[Af]at b;subst b;exact Om d e;obtain⟨u,f,-,h⟩:=A8 h;let⟨o,m,c,h⟩:=A8 h;obtain⟨q,t,-,h⟩:=A8 h;cases h;intro y b;simp[Af]at b;obtain rfl|b:=b;exact Om d e;rw[El,Uu]at c;let⟨l,n,g,c⟩:=A8 c;let⟨k,v,i,c⟩:=A8 c;cases c;obtain rfl|b:=BD.1 b;exact mO d g;exact Ol (λ_ _ _ h=>mO d h) _ _ _ _ i y b
def Lx {T:Tx->Prop}(d:∀s w k,C0 s= .got w k->T w):∀(n:Nat) (s:Tx) (l:n0) (k:Tx),Cc n s= .got l k->∀x∈l,∀a∈Af x,∀w∈a.A,T w
 |n,[],l,k,h=>by simp_all[Ye]
 |0,b::q,l,k,h=>by simp_all[T9]
 |n+1,b::q,l,k,h=>by rw[Nk]at h;let⟨x,i,f,h⟩:=A8 h;let⟨j,g,e,h⟩:=A8 h;cases h;intro y c;obtain rfl|c:=BD.1 c;exact xN d f;exact Lx d n _ _ _ e y c
def Td (n s l b)(h:Cc n s= .got l b):∀x∈l,∀a∈Af x,VA a:=Lx (T:=VT) (λ_ _ _ h=>UQ h) n s l b h
def R3 {w}(h:VT w):(Aq w).1=Ab w:=by
 obtain⟨b,rfl,a⟩|⟨e,d⟩:=h;rw[Et a];simp[Ab,a];cases w with
 |nil=>cases e rfl
 |cons b f=>
  have c:=d b nk;have a:Bs b.toNat=false:=by grind[Bs,A6]
  rw[Nw a];simp[Ab,a]
def RE {u t}(k:VT u)(l:VT t)(a:Ab t):Ql (Aq t).2 u=(u==t):=by
 obtain⟨b,rfl,i⟩:∃b,t=[b]/\Bs b.toNat:=by
  obtain h|⟨n,m⟩:=l;exact h;exfalso;cases t with
  |nil=>exact n rfl
  |cons b o=>
   have d:=m b nk;simp[Ab]at a;simp[A6]at d;simp[Bs]at a;omega
 rw[Et i];rw[Ql];obtain⟨c,rfl,j⟩|⟨n,m⟩:=k;rw[Et j];simp only[FV];by_cases e:c=b;subst e;simp;have:(c.toNat:Int)≠b.toNat:=λh=>e (UInt8.toNat_inj.1 L);have g:((c.toNat:Int)-65==(b.toNat:Int)-65)=false:=gp
 have f:(([c]:Tx)==[b])=false:=nn e;rw[g,f];have g:(Aq u).1=false:=by
  rw[R3 (.inr ⟨n,m⟩)];cases u with
  |nil=>rfl
  |cons c o=>
   have d:=m c nk;cases a:Ab (c::o)
   ·rfl
   simp[Ab,Bs]at a;simp[A6]at d;omega
 have f:(u==[b])=false:=by grind[A6,Bs]
 rw[g,f];rfl
def Ev {α:Type}{l:List α}{p q}(h:∀a∈l,p a=q a):l.any p=l.any q:=gp
def XF {x}(d:∀a∈Af x,VA a){t}(g:VT t)(c:Ab t):Ga x (Aq t).2=Ma x t:=by
 rw[Ga,Ma];apply Ev;intro a b;have f:=d a (by grind[Af]);cases i:a.nt with
 |true=>simp
 |false=>
  simp only[JX,FV];exact Ev λu e=>RE (f u e) g c
def J8 {x}(b:∀a∈Af x,VA a):Fi x=Db x:=by
 unfold Fi Db;congr 1;apply Ev;intro a d;unfold zI bC;apply Ev;intro w e;have c:=b a d w e;rw[R3 c];cases f:Ab w
 ·rfl
 rw[XF b c f]
def Rz {p q n}(h:∀i,i<n->p i=q i):Bn p n=Bn q n:=by
 have e:(range n).find? p=(range n).find? q:=by
  have c:∀i∈range n,p i=q i:=λi g=>h i (nn g);generalize range n=l at c;induction l with
  |nil=>rfl
  |cons a l f=>simp only[find?_cons];rw[c a nk,f (λb d=>c b (gp))]
 unfold Bn;rw[e]
def wN {N l}(d:∀x∈l,x.h.B∈N/\∀a∈x.A,a.B∈N){i j}(h:Way (Yj N l) i j):∃p q,p∈N/\q∈N/\N.idxOf p=i/\N.idxOf q=j/\Way (Gs l) p q:=by
 induction h with
 |one e=>
  let⟨x,b,f,a,c,g⟩:=e;exact⟨x.h.B,a.B,(d x b).1,(d x b).2 a c,f,g,.one ⟨x,b,rfl,a,c,rfl⟩⟩
 |more e _ m=>
  let⟨x,b,f,a,c,g⟩:=e;let⟨p,q,n,k,o,e2,w⟩:=m;have:a.B=p:=E9 ((d x b).2 a c) n L;subst this;exact⟨x.h.B,q,(d x b).1,k,f,e2,.more ⟨x,b,rfl,a,c,rfl⟩ w⟩
def pO {N l p q}(h:Way (Gs l) p q):Way (Yj N l) (N.idxOf p) (N.idxOf q):=by
 induction h with
 |one e=>
  obtain⟨x,c,rfl,a,b,rfl⟩:=e;exact .one ⟨x,c,rfl,a,b,rfl⟩
 |more e _ d=>
  obtain⟨x,c,rfl,a,b,rfl⟩:=e;exact .more ⟨x,c,rfl,a,b,rfl⟩ d
def Way.map' {α:Type}{E F:α->α->Prop}(h:∀a b,E a b->F a b){a b}(w:Way E a b):Way F a b:=by
 induction w with
 |one e=>exact .one (h _ _ e)
 |more e _ c=>exact .more (h _ _ e) c
def XZ {N l M}(d:∀x∈l,x.h.B∈N/\∀a∈x.A,a.B∈N)(j:∀x∈l,x.o->x.A=[])(e:Dw N l M){p q}(t:p∈N)(g:q∈N)(o:∃y∈l,y.o=false/\y.h.B=q):
  F9 (Z N) M (Z N) (N.idxOf p) (N.idxOf q)=J2 l p q:=by
 have s:NA (Z N) M:=by
  intro a b n;obtain⟨x,f,rfl,c,i,rfl⟩:=(e a b).1 n;grind
 rw[GI,gR s,Ks j o];constructor;intro w;let⟨v,z,k,u,A,e2,m⟩:=wN d (w.map' λa b h=>(e a b).1 h);rw[<-E9 k t A,<-E9 u g e2];exact m;intro w;exact (pO w).map' λa b h=>(e a b).2 h
def fK {N}:∀{l:oq} {cs:oh},r (PL N) l cs->∀a∈l,a.B∈N
 |[],cs,h,a,f=>gp
 |b::l,cs,⟨c,d,g,i,e⟩,a,f=>by obtain rfl|f:=BD.1 f;exact g.1;exact fK i a f
def T0 {N}:∀{l:n0} {cs:oh},r (PI N) l cs->∀x∈l,x.h.B∈N/\∀a∈x.A,a.B∈N
 |[],cs,h,a,f=>gp
 |b::l,cs,⟨c,d,g,j,e⟩,a,f=>by obtain rfl|f:=BD.1 f;obtain⟨i,n,id,m,k,-⟩:=g;exact⟨i,fK k⟩;exact T0 j a f
def ZG {N l cs M}(f:Bk N l cs)(k:Dw N l M):Bn (dS N l (F9 (Z N) M (Z N))) (Z l)=Bn (Hd l) (Z l):=by
 have c:=T0 f.el;apply Rz;intro i g;rw[dS,Hd];rw[AK g];dsimp only;have b:=AR g;generalize l[i]=x at b;apply Ev;intro a d;rw[MW,zH];have j:x.o=false:=by
  cases h:x.o
  ·rfl
  rw[f.o x b h]at d;cases d
 rw[XZ c f.o k ((c x b).2 a d) (c x b).1 ⟨x,b,j,rfl⟩];congr 2;rw[GI];simp only[DO];constructor;intro e;exact E9 ((c x b).2 a d) (c x b).1 L;intro e;rw[e]
def wR {l}(c:∀x∈l,∀a∈Af x,VA a):Bn (Oi l) (Z l)=Bn (Dp l) (Z l):=by apply Rz;intro i b;rw[Oi,Dp];rw[AK b];dsimp only;rw[J8 (c _ (AR b))]
def Yy (N l cs idn C)(b:Bk N l cs)(k:∀x∈l,∀a∈Af x,VA a)(z):ni 71 [Cq N idn l C cs] z λD c=>D=two (Co l)/\W z c:=by
 have y:=@Lc (Gn l) (Z l);have q:=@Lc (Dp l) (Z l);have B:=@Lc (Hd l) (Z l);have g:=wR k;have e:=To N l cs idn C b;rw[g]at e;have m:∀z,ni 123 [Cq N idn l C cs] z λD c=>D=Y (Bn (Hd l) (Z l))/\W z c:=λz=>by
  refine AF.mono (bA N l cs idn C b z) ?_;rintro _ _ ⟨M,p,rfl,j⟩;exact⟨by rw[ZG b p],j⟩
 clear g;refine wl func71 ?_
 repeat' first|refine Z1 ?_|refine Z8 λyb ya=>?_|refine Z4 ?_;clear ya yb|refine Z2 ?_ ?_<;>intro h s<;>try exact Xp|(refine Z5 ?_;first|(refine Xi (Uy N l cs idn C b _) ?_;rintro _ _ ⟨rfl,i⟩;(have t:=i.C;have o:=i.B;(try simp only[Aa,Ac,Az]at o)))|(refine Xi (e _) ?_;rintro _ _ ⟨rfl,f⟩;(have v:=f.C;have u:=f.B))|(refine Xi (m _) ?_;rintro _ _ ⟨rfl,A⟩))|refine Z3 ?_|exact Zt|apply ya.o;clear ya yb
 ·have d:Bn (Gn l) (Z l)≠ -1:=nn h
  exact⟨_,rfl,by unfold Co;rw[if_pos L],Xs⟩
 ·have d:Bn (Gn l) (Z l)= -1:=nn (show (Bn (Gn l) (Z l) != -1)=false by assumption)
  have e2:Bn (Dp l) (Z l)≠ -1:=nn h;exact⟨_,rfl,by unfold Co;rw[if_neg L,if_pos L],Xs⟩
 ·have d:Bn (Gn l) (Z l)= -1:=nn (show (Bn (Gn l) (Z l) != -1)=false by assumption)
  have e2:Bn (Dp l) (Z l)= -1:=nn (show (Bn (Dp l) (Z l) != -1)=false by assumption);have n:Bn (Hd l) (Z l)≠ -1:=nn h;exact⟨_,rfl,by unfold Co;rw[if_neg L,if_neg L,if_pos L],Xs⟩
 have d:Bn (Gn l) (Z l)= -1:=nn (show (Bn (Gn l) (Z l) != -1)=false by assumption);have e2:Bn (Dp l) (Z l)= -1:=nn (show (Bn (Dp l) (Z l) != -1)=false by assumption);have n:Bn (Hd l) (Z l)= -1:=nn h;exact⟨_,rfl,by unfold Co;rw[if_neg L,if_neg L,if_neg L],Xs⟩
def lm {N l cs}(q:r (PI N) l cs)(n:Z l<=16)(g:∀x∈l,Dc x)(o:Z N<=2000):Bk N l cs:=by
 refine⟨q,n,λx f=>?_,λx f b=>((g x f).2.1 b).2.2,o,λx f a c=>?_⟩;obtain⟨-,j,k⟩:=g x f;cases b:x.o
 ·obtain⟨e,-,d,i⟩:=k b;have:=e.2.2.1;exact⟨L,L,λa c=>by have:=(i a c).2.2.1;omega⟩
 obtain⟨-,e,d⟩:=j b;exact⟨gp,gp,gp⟩
 obtain⟨-,j,k⟩:=g x f;unfold Af at c;cases b:x.o
 ·obtain⟨e,-,d,i⟩:=k b;simp[b]at c;have m:En a->0<Z a.A:=λw=>by
   have:=w.2.1;cases p:a.A with
   |nil=>cases this p
   |cons y s=>simp
  rcases c with rfl|c;exact m e;exact m (i a c)
 obtain⟨-,e,d⟩:=j b;simp[b,d]at c
def iT {l}(h:(Co l).1=0):Co l=(0,0):=by grind[Co]
def RA (t:Tx)(c:Nat)(b:oh)(d:Nat)(e:oh):Prop:=
 ∃N l,Cc 16 t= .got l []/\Bk N l e/\c=Z N/\b=N.map O/\d=Z l/\(∀x∈l,∀a∈Af x,VA a)/\∀x∈l,Dc x
def rN (t z):ni 37 [O t] z λN a2=>∃idn D Lqx a1 T x,N=tp [ag [sl idn D Lqx,sl a1 T x],Y (Av t).1,Y (Av t).2]/\W z a2/\((Av t).1=0->D<=600/\RA t D Lqx T x):=by
 refine wl func37 ?_;by_cases e:600<Z t
 ·have k:Av t=(1,0):=by unfold Av;rw[if_pos e]
  have a:V _:=k;clear k;refine X ?_;refine⟨_,rfl,1,0,[],1,0,[],by rw[a.o],Xs,by rw[a.o];intro h;simp at h⟩
 have g:=Hb t;have R:Z t<=1000:=L;have K:RS 0 t (z.B+1) [] 1 t (((z.new [H,H]).new [O [],Y 0,H]).put (z.B+1) [O t,Y 0,H]):=by
  refine⟨?_,Nat.lt_succ_self _,.inl ⟨rfl,rfl⟩,suffix_refl _,nk⟩;rw[Ak];simp[Pk,dO]
 have u:=lM R K;have A:W z (((z.new [H,H]).new [O [],Y 0,H]).put (z.B+1) [O t,Y 0,H]):=(((W.refl z).new _).new _).put L _;cases b:Cc 16 t with
 |bad a7=>
  rw[b]at u g;dsimp only at g;have k:Av t=(2,((Z t-Z a7:Nat):Int)):=by
   unfold Av;rw[if_neg e,g,if_pos (KA _)]
  have a:V _:=k;have I:V _:=u;have C:V _:=A;clear k g K u b A;refine m0 ?_;intro yb ya;refine Xi (I.o) ?_;rintro _ _ ⟨n,q,c,s,m,rfl,f,v,a4,G⟩;have E:=f.keep.C;have F:=f.keep.B;(try simp only[Aa,Ac,Az]at F);refine X ?_;rename_i d;have B:=v.C;unfold Pk dO at B;simp only[Rd.rest]at B;have a3:d.C z.B=[H,H]:=by
   rw[E _ BJ L,Aj L,Ah (by rw[Aa];omega),Ao]
  have o:W z d:=An.keep C.o f.keep L (.inl L);clear E;refine Ax Ag (λp=>p=z.B+1) [5] [0,1,2] [3,4,5] AH (λ_ _ _ h=>h) ?_;intro yb ya;have U:∀i,Kept (λa8=>!([5]:List Nat).contains a8) (λp=>p=z.B+1) d i (d.put z.B [H,H]):=λi _ p b hF=>by
   subst hF;simp[St.put]
  refine Z3 ?_;refine⟨λp h=>h.elim,λp h=>h.elim,λp h=>by cases h;rfl,?_⟩
  try (refine And.intro (U _) ?_)
  try (refine And.intro (U _) ?_)
  refine X ?_;refine⟨_,rfl,1,0,[],1,0,[],by rw[a.o],o.put (AU _) _,by rw[a.o];intro h;simp at h⟩
 |got l N=>
  rw[b]at u g;dsimp only at g;let⟨p1,S,p3,P⟩:=Ep R b;have M:=Td _ _ _ _ b;cases (Ka _ _ _ _ b).2.1;have k:Av t=Co l:=by
   unfold Av;rw[if_neg e,g,if_neg L,S]
  have a:V _:=k;have I:V _:=u;have C:V _:=A;have a5:V _:=b;clear k g K u b A S p1
  repeat' first|refine Z1 ?_|refine Z8 λyb ya=>?_|refine Z4 ?_;clear ya yb|refine Z2 ?_ ?_<;>intro h ai<;>try exact Xp|(refine Z5 ?_;first|(refine Xi (I.o) ?_;rintro _ _ ⟨n,q,c,s,m,rfl,f,v,a4,G⟩;(have E:=f.keep.C;have F:=f.keep.B;(try simp only[Aa,Ac,Az]at F);have B:=v.C;unfold Pk dO at B;obtain⟨rfl,a6⟩:n=Z l/\r (PI s) l c:=G;have Q:=lm a6 p3 P (ny v.len)))|(refine Xi (Yy s l c m q Q M _) ?_;rintro _ _ ⟨rfl,y⟩;(have aa:=y.C;have a9:=y.B;(try simp only[Aa,Ac,Az]at a9))))|refine Z3 ?_|exact Zt|apply ya.o;clear ya yb
  ·rename_i d a0 _ z2;have o:W z d:=An.keep C.o f.keep L (.inl L);have j:=(((o.new [H,H]).put o.B _).trans y);exact⟨_,rfl,1,0,[],1,0,[],by rw[a.o],j.put (AU _) _,by rw[a.o];intro h0;simp[h0]at h⟩
  rename_i d a0 _ z2;have o:W z d:=An.keep C.o f.keep L (.inl L);have j:=(((o.new [H,H]).put o.B _).trans y);have hw:=iT (l:=l) (nn h);exact⟨_,rfl,m,Z s,s.map O,q,Z l,c,by rw[a.o,hw],j.put (AU _) _,λ_=>⟨by have:=v.len;simp only[Rd.rest,CQ]at this;omega,s,l,a5.o,Q,rfl,rfl,rfl,M,P⟩⟩
def yE (t z):ni 37 [O t] z λk f=>∃idn c b a d e,k=tp [ag [sl idn c b,sl a d e],Y (Av t).1,Y (Av t).2]/\W z f/\((Av t).1=0->RA t c b d e):=
 AF.mono (rN t z) λk f ⟨idn,c,b,a,d,e,j,g,i⟩=>⟨idn,c,b,a,d,e,j,g,λh=>(i h).2⟩
structure iR where
 kind:Int
 n:Int
 m:Int
 s:Tx
 e:Tx
 f:Tx
def EO (o:iR)(c:oh):Prop:=c=[Y o.kind,Y o.n,Y o.m,O o.s,O o.e,O o.f]
def SI (o:iR)(c)(h:EO o c):Z c=6:=by rw[h];rfl
def lh {l:List iR}{cs i}{o:iR}(h:r EO l cs)(a:l[i]?=some o):∃b,cs.drop (i*6)=Y o.kind::Y o.n::Y o.m::O o.s::O o.e::O o.f::b:=by obtain⟨c,b,rfl,e⟩:=r.get SI h a;exact⟨b,e⟩
def T6 (s z):ni 60 [O s] z λf b=>f=two (Av s)/\W z b:=by
 have a:=Hb s;refine aP s (λd c=>?_) ?_ z;cases h:Cc 16 s with
 |bad e=>rw[h]at a;cases c (a▸KA _)
 |got l f=>exact (Ep L h).1
 rw[a];cases h:Cc 16 s with
 |bad e=>exact⟨Int.le_trans nr (KA (Z s-Z e)),Int.ofNat_le.2 (Nat.sub_le _ _)⟩
 |got l f=>exact⟨show (-1:Int)<= -1 by decide,show (-1:Int)<=(Z s:Int)by omega⟩
def VX (c z):ni 35 [Y c] z λx a=>x=Y c/\a=z:=by
 refine wl func35 ?_;refine X ?_
 exact⟨_,rfl,rfl⟩
def Plays (lo b:Int)(l:List iR):Prop:=∀o∈l,lo<=o.kind->o.kind<=b->∀c,EO o c->∀z,ni 33 [ag c] z λd a=>d=my true/\W z a
def upto_spec (l:List iR)(cs x lo k)(f:r EO l cs)(D:Z l<=9223372036854775807)(n:Plays lo k l)(z):ni 10 [sl x (Z l) cs,Y lo,Y k] z λm b=>m=Y (-1)/\W z b:=by
 have q:=r.length SI f;refine wl func10 ?_;refine X ?_
 refine wn [0,1,2] 7 (Z l) (λi s b=>W z b) (W.refl _) ?_
 rintro i s b _ _ _ e;have u:=e.B;by_cases g:i<Z l
 ·obtain⟨o,d⟩:=gq g;have c:=n o (AY d);obtain⟨m,p⟩:=lh f d;clear d;by_cases a:lo<=o.kind/\o.kind<=k
  ·have j:=c a.1 a.2 _ rfl;have v:=a.1;have t:=a.2;clear c a
   refine mt j ?_;rintro yb ya _ _ ⟨rfl,y⟩;refine X ?_
   all_goals
    first
    |exact Xs
  clear c;refine m6 ?_ ?_<;>intro h C
  all_goals
   first
   |exact Xs
   |(exfalso;simp only[CV]at*;omega)
 obtain rfl:i=Z l:=L;refine X ?_
 exact⟨_,rfl,rfl⟩
open Go.RowKit (Below)
def st0:St:={C:=λ_=>[],B:=0,top:=λ_=>0,D:=0,ver:=λ_=>0}
def gh0 (a:World):Gh:={blk:=λ_=>0,cur:=λ_=>0,cap:=λ_=>0,siz:=λ_=>0,per:=λb _=>b<a.heap.size,base:=a.heap.size,w0:=a}
def inv0 (f)(c:Abs.Hyp f.heap.size f):Abs.Inv (gh0 f) st0 f:=
 ⟨λo h=>absurd h (Nat.not_lt_zero _),λo d h=>absurd h (Nat.not_lt_zero _),λk h=>absurd h (Nat.not_lt_zero _),λk e h=>absurd h (Nat.not_lt_zero _),λo k h=>absurd h (Nat.not_lt_zero _),
  λb a h=>h,λb a h=>h,Below.refl _ _,AU _,c⟩
def calls_law {f x n v}(h:AF prog f [x] st0 λo a=>o=my true/\W st0 a)(i:VR (gh0 n) st0 n v x)(d:Abs.Hyp n.heap.size n):
  Calls prog f #[v] n λe b=>e= .returned (.bool true)/\Below n.heap.size n b:=by apply (h.2 (gh0 n) n #[v] (inv0 n d) (AP.cons i (AP.nil _))).mono;rintro e b ⟨g,m,y,a,rfl,l,E,k,rfl,-⟩;have j:=k.unfold;refine⟨by rw[j],?_⟩;have c:=l.below;rw[E.base,E.w0]at c;exact c
def rQ {w a R b o xs d}(h:FI w a R b o xs)(g:FI w a R b (o+Z xs) d):FI w a R b o (xs++d):=λi x c=>by rw[getElem?_append]at c;split at c;exact h i x c;rename_i e;have:=g (i-Z xs) x c;rwa[show o+Z xs+(i-Z xs)=o+i by omega]at this
def opC (o:iR):oh:=[Y o.kind,Y o.n,Y o.m,O o.s,O o.e,O o.f]
def MR (o:iR):List Value:=[.int .i64 o.kind,.int .i64 o.n,.int .i64 o.m,.string (bs o.s),.string (bs o.e),.string (bs o.f)]
def opAt (w:World)(b a:Nat)(o:iR):Prop:=∀c,c<6->w.cell? ⟨b,a+c,none⟩=(MR o)[c]?
def fv {w c G z b d}{o:iR}(e:∀k,c b k)(h:opAt w b d o):FI w c (VR G z w) b d (opC o):=λi x a=>by
 refine⟨e _,?_⟩
 match i,a with
 |0,a=>simp[opC]at a;subst a;exact⟨_,h 0 nr,VR.sc _⟩
 |1,a=>simp[opC]at a;subst a;exact⟨_,h 1 nr,VR.sc _⟩
 |2,a=>simp[opC]at a;subst a;exact⟨_,h 2 nr,VR.sc _⟩
 |3,a=>simp[opC]at a;subst a;exact⟨_,h 3 nr,VR.sc _⟩
 |4,a=>simp[opC]at a;subst a;exact⟨_,h 4 nr,VR.sc _⟩
 |5,a=>simp[opC]at a;subst a;exact⟨_,h 5 nr,VR.sc _⟩
 |i+6,a=>simp[opC]at a
def vK {w c G z b}(d:∀k,c b k):∀(l:List iR) (a:Nat),(∀i o,l[i]?=some o->opAt w b (a+i*6) o)->FI w c (VR G z w) b a (l.flatMap opC)
 |[],a,h=>λi x e=>gp
 |o::l,a,h=>by rw[DN];refine rQ (fv d (nn (h 0 o rfl))) (vK d l _ λi f g=>?_);have:=h (i+1) f (nn g);rwa[show a+(i+1)*6=a+Z (opC o)+i*6 by simp[opC];omega]at this
def RV:∀l:List iR,r EO l (l.flatMap opC)
 |[]=>rfl
 |o::l=>⟨opC o,l.flatMap opC,rfl,RV l,gp⟩
def vJ {p:Nat->iR->Prop}:∀(n:Nat),(∀i,i<n->∃o,p i o)->∃l:List iR,Z l=n/\∀i o,l[i]?=some o->p i o
 |0,_=>⟨[],rfl,λi o h=>by simp at h⟩
 |n+1,h=>by
  let⟨l,c,d⟩:=vJ n λi a=>h i L;let⟨o,b⟩:=h n L;refine⟨l++[o],ns c,λi f a=>?_⟩;grind
def vV:prog.cellsOf 26=6:=AH
def cells3:prog.cellsOf 3=1:=AH
def js:prog.cellsOf 9=1:=AH
def YV {Q:Type}{e:TypeId×Value->Q}{w base c d g cs}{x:DataW Q×List MemPlace}(h:DataW.trod e prog w base c d g 26 cs=some x):∃o:iR,cs=MR o/\o.n<=9223372036854775807/\Z o.e<=9223372036854775807:=by
 obtain⟨S,n,-,-,q,i,f⟩:=DataW.trod_struct underlying26 h;rw[vV]at q
 match S,i with
 |[G,I,K,T,F,M],_=>
  have v:DataW.trod e prog w base c d n 3 ((cs.drop 0).take (prog.cellsOf 3))=some G:=f 0 _ rfl;have p:DataW.trod e prog w base c d n 3 ((cs.drop 1).take (prog.cellsOf 3))=some I:=f 1 _ rfl;have z:DataW.trod e prog w base c d n 3 ((cs.drop 2).take (prog.cellsOf 3))=some K:=f 2 _ rfl;have C:DataW.trod e prog w base c d n 9 ((cs.drop 3).take (prog.cellsOf 9))=some T:=f 3 _ rfl;have y:DataW.trod e prog w base c d n 9 ((cs.drop 4).take (prog.cellsOf 9))=some F:=f 4 _ rfl;have l:DataW.trod e prog w base c d n 9 ((cs.drop 5).take (prog.cellsOf 9))=some M:=f 5 _ rfl;rw[cells3]at v p z;rw[js]at C y l;obtain⟨k,R,-,-⟩:=DataW.trod_int underlying3 v;obtain⟨a,m,-,D⟩:=DataW.trod_int underlying3 p;have N:IntKind.i64.max=9223372036854775807:=nr;simp only[Lit.wf,N,CV,BM]at D;obtain⟨b,e2,-,-⟩:=DataW.trod_int underlying3 z;obtain⟨s,B,-,-⟩:=DataW.trod_string underlying9 C;obtain⟨t,E,-,A⟩:=DataW.trod_string underlying9 y;obtain⟨u,j,-,-⟩:=DataW.trod_string underlying9 l
  match cs,q with
  |[a2,U,a0,a1,a3,P],_=>
   simp at R m e2 B E j;subst R m e2 B E j;exact⟨⟨k,a,b,s.data.toList,t.data.toList,u.data.toList⟩,by grind[MR,lg],D.2,by rw[maxLen]at A;simpa using A⟩
def open_script2 {R:Type}{v:TypeId×Value->R}{P g q s a c f}{x:DataW R×List MemPlace}(h:DataW.trod v prog P 0 g q s 22 [.slice a c f]=some x):
  ∃(l:List iR) (cs:oh),r EO l cs/\Z l<=9223372036854775807/\(∀o∈l,o.n<=9223372036854775807/\Z o.e<=9223372036854775807)/\VR (gh0 P) st0 P (.slice a c f) (sl 0 (Z l) cs):=by
 rcases Deep.open_slice underlying22 h with⟨u,-⟩|⟨a',len',cap',m,n,D,Pl,u,-,hl,hm,ai,-,ad⟩;simp at u;obtain⟨rfl,rfl,rfl⟩:=u;exact⟨[],[],rfl,nk,nk,VR.fold ⟨none,0,rfl,⟨AU _,λh=>L⟩,λh=>absurd rfl h,λk G=>L⟩⟩;simp at u;obtain⟨rfl,rfl,rfl⟩:=u;have a0:c<=m:=gp
 rw[vV]at ad;have M:∀i,i<c->∃o:iR,(∀Q,Q<6->P.cell? ((a'.add (i*6)).add Q)=(MR o)[Q]?)/\o.n<=9223372036854775807/\Z o.e<=9223372036854775807:=by intro i j;let⟨B,K,I⟩:=ad i L;obtain⟨o,rfl,U⟩:=YV I;obtain⟨-,-,S⟩:=World.cells?_some K;exact⟨o,S,U⟩
 let⟨l,t,p⟩:=vJ c M;have z:=λi o j=>(p i o j).1;refine⟨l,l.flatMap opC,RV l,by rw[t];rw[maxLen]at hm;omega,(λo T=>by let⟨i,j⟩:=CL T;grind),VR.fold ⟨some a',f,gp,⟨L,λh=>L⟩,λE=>?_,λk G=>L⟩⟩;have F:0<Z l:=gp
 let⟨b,d,e⟩:=a';have y:=z 0 l[0] (AK F) 0 nr;have C:e=none:=by
  have:P.cell? ⟨b,d,e⟩=some (.int .i64 l[0].kind):=by simpa[Addr.add,MR]using y
  exact World.cell?_spot this
 subst C;have N:b<P.heap.size:=by
  have:P.cell? ⟨b,d,none⟩=some (.int .i64 l[0].kind):=by simpa[Addr.add,MR]using y
  unfold World.cell? at this;grind
 refine⟨b,d,rfl,vK (λ_=>N) l d λi o j Q A=>?_⟩;have:=z i o j Q A;rw[<-this];congr 1;unfold Addr.add;split<;>split<;>simp_all<;>omega
end Go.Proofs.YtmoeoppbmhfbpabGreatDoorJ
namespace Go.Proofs
open Go.Shelf
def Tryz.laysM171_ren:Go.Shelf.Ren:=⟨λ|171=>88|243=>143|246=>191|283=>228|284=>229|285=>230|286=>231|129=>259|317=>258|318=>260|319=>261|320=>262|337=>267|338=>268|n=>n,λ|3=>3|9=>9|2=>2|4=>4|171=>276|0=>0|53=>277|37=>87|5=>5|173=>280|212=>298|51=>299|20=>20|213=>300|46=>301|232=>306|233=>307|n=>n,λ|17=>0|18=>1|19=>2|n=>n⟩
theorem Tryz.laysM171:Go.Proofs.LaysM.n171 Tryz.prog Tryz.laysM171_ren:=by repeat' first|kernel_rfl|exact λ_=>rfl|constructor
end Go.Proofs
namespace Go.Proofs.YtmoeoppbmhfbpabGreatDoorJ
open Go.Abs Go.Sort Tryz
open Go.RowKit (Below)
theorem Nt (w:World)(k a){b}(h:b<w.heap.size):(grow (w.drewN k) a).heap[b]?=w.heap[b]?:=by show (w.heap++a)[b]?=w.heap[b]?;grind
def yN (w:World)(k a){b o}(h:b<w.heap.size):(grow (w.drewN k) a).cell? ⟨b,o,none⟩=w.cell? ⟨b,o,none⟩:=by
 unfold World.cell?;rw[Nt w k a h]
def yK {G d w}(I:Abs.Inv G d w)(k x):Abs.Inv G d (grow (w.drewN k) x)/\CH G d w G d (grow (w.drewN k) x):=by
 have E:CH G d w G d (grow (w.drewN k) x):=⟨rfl,rfl,AU _,λ_ _=>rfl,AU _,λ_ _=>⟨AU _,rfl,λ_=>⟨rfl,rfl⟩⟩,λb l p=>⟨p,yN w k x (I.perlt _ _ p)⟩,λo h=>⟨AU _,λ_=>Nt w k x (I.blk_lt h)⟩⟩;have f:w.heap.size<=(grow (w.drewN k) x).heap.size:=jx
 refine⟨⟨λp n=>?_,I.inj,λk q=>?_,I.linj,I.apart,λb l p=>BZ (I.perlt _ _ p) f,I.perlo,?_,BI I.le f,I.hyp⟩,E⟩;let⟨g,t,i⟩:=I.C p n;refine⟨g,BZ t f,λu=>?_⟩;let⟨⟨c,e,a,m⟩,y⟩:=i u;exact⟨⟨c,e,by grind[Nt],VR.all E m⟩,y⟩;let⟨g,⟨c,e,a,m⟩,i⟩:=I.lin k q;exact⟨g,⟨c,e,by grind[Nt],m⟩,i⟩;have a:=I.below;have v:=I.le;exact⟨a.os,a.tape,a.output,BI a.size f,λj s=>by rw[Nt _ _ _ L];exact a.block j s⟩
def eJ (n)(j:0<=n)(g:n<=9999)(b):ni 88 [Y n] b λx σ'=>x=O (Lib.itoa n)/\σ'=b:=by
 refine⟨AH,λG w a I A=>?_⟩;obtain⟨v,rfl⟩:∃v,a=#[v]:=by
  have c:=A.1
  match a,c with
  |⟨[v]⟩,_=>exact⟨v,rfl⟩
 obtain rfl:v= .int .i64 n:=(A.2 0 v _ rfl rfl).unfold;apply (Any.strconv_Itoa Tryz.laysM171 n L L w (I.hyp w I.below)).mono;rintro e i ⟨rfl,k,f,rfl⟩;let⟨d,E⟩:=yK I k f;exact⟨_,G,_,b,rfl,d,E,VR.sc _,rfl,rfl⟩
open Go.Abs Tryz
def DT (w:Tx):Prop:=Ab w\/(Ab w=false/\Lib.itoa (Aq w).2=w/\0<=(Aq w).2/\(Aq w).2<=999)
theorem jI {b m}(h:b.toNat=m):UInt8.ofNat m=b:=h▸UInt8.ofNat_toNat
theorem Za {v d}(a:1<=v)(b:d<=9):Lib.decDigits (v*10+d)=Lib.decDigits v++[UInt8.ofNat (48+d)]:=by rw[Lib.decDigits,dif_neg L,show (v*10+d) / 10=v by omega,show (v*10+d) % 10=d by omega]
def iA {w}{m:Nat}(a:Ab w=false)(e:w≠[])(c:Iw w=(m:Int))(f:m<=999)(d:Lib.decDigits m=w):DT w:=by
 cases w with
 |nil=>cases e rfl
 |cons b g=>
  refine .inr ⟨a,?_⟩;rw[Nw a];dsimp only;rw[c];exact⟨by rw[Lib.itoa_nonneg,d],L,L⟩
def mK (s w x)(h:C0 s= .got w x):DT w:=by
 cases s with
 |nil=>cases h
 |cons b q=>
  unfold C0 at h;dsimp only at h;split at h;rename_i a;cases h;exact .inl a;rename_i a;have a:Bs b.toNat=false:=nn a;split at h;rename_i p;cases h;have f:b.toNat=48:=gp
  exact iA (m:=0) a nk (by grind[Iw]) L (by rw[Lib.decDigits_one L,jI f]);split at h;rename_i o;cases h;have v:49<=b.toNat/\b.toNat<=57:=by grind[Gv]
  have e:=(Ek A6 2 q).2;have l:Z (Ay A6 2 q).1<=2:=by
   cases q with
   |nil=>simp[Ay]
   |cons c q=>
    rw[Ay];split;cases q with
    |nil=>simp[Ay]
    |cons d q=>rw[Ay];split<;>simp[Ay]
    simp
  have k:∀c:UInt8,A6 c.toNat->48<=c.toNat/\c.toNat<=57:=λc j=>by grind[A6]
  have g:Lib.decDigits (b.toNat-48)=[b]:=by rw[Lib.decDigits_one L,jI (show b.toNat=48+(b.toNat-48)by omega)]
  generalize (Ay A6 2 q).1=n at e l
  match n,e,l with
  |[],_,_=>exact iA (m:=b.toNat-48) a nk (by grind[Iw]) L g
  |[c],e,_=>
   have j:=k c (e c nk);have i:Lib.decDigits ((b.toNat-48)*10+(c.toNat-48))=[b,c]:=by grind[Za,jI]
   exact iA (m:=(b.toNat-48)*10+(c.toNat-48)) a nk (by grind[Iw]) L i
  |[c,d],e,_=>
   have j:=k c (e c nk);have u:=k d (e d nk);have i:Lib.decDigits ((b.toNat-48)*10+(c.toNat-48))=[b,c]:=by grind[Za,jI]
   have t:Lib.decDigits (((b.toNat-48)*10+(c.toNat-48))*10+(d.toNat-48))=[b,c,d]:=by rw[Za L L,i,jI (show d.toNat=48+(d.toNat-48)by omega)];rfl
   exact iA (m:=((b.toNat-48)*10+(c.toNat-48))*10+(d.toNat-48)) a nk (by grind[Iw]) L t
  cases h
def Bv (l:ol)(s:Tx):Int:=if s∈l then ((l.idxOf s:Nat):Int)else -1
def Jb (l p n)(u:Z l<=10000000)(m):ni 68 [lw p l,O n] m λx σ'=>x=Y (Bv l n)/\σ'=m:=by
 apply wl func68;refine mu ?_
 refine wn [0,1] 5 (Z l) (λi b σ'=>σ'=m/\V (∀a,a<i->l[a]?≠some n)) ⟨rfl,λa s=>L⟩ ?_
 rintro i b σ' _ _ _ ⟨f,d⟩;subst f;by_cases g:i<Z l
 ·have k:=A1 g;have c:V (l[i]?=some l[i]):=AK g;generalize l[i]=w at k c
  repeat' first|refine Z1 ?_|refine Z8 λyb ya=>?_|refine Z4 ?_;clear ya yb|refine Z2 ?_ ?_<;>intro h y<;>try exact Xp|refine Z7 ?_|exact Zt|apply ya.o;clear ya yb
  ·have e:w=n:=nn h
   subst e;have j:w∈l:=AY c.o;exact⟨_,rfl,by rw[Bv,if_pos j,Ov d.o c.o]⟩
  have e:w≠n:=nn h;skip;intro a s;by_cases q:a=i
  ·subst q;rw[c.o];simpa using e
  exact d.o a L
 obtain rfl:i=Z l:=L;have o:=Qe d.o;refine mu ?_;exact⟨_,rfl,by grind[Bv]⟩
def Er (acc:ol)(t:Tx):ol:=if Ab t/\t∉acc then acc++[t]else acc
def Fu (acc:ol)(a:ol):ol:=a.foldl Er acc
def Au (x:AB):ol:=Fu [] ((Af x).flatMap (·.A))
theorem Ro (a):∀acc,Z (Fu acc a)<=Z acc+Z a:=by
 induction a with
 |nil=>intro acc;simp[Fu]
 |cons t a b=>
  intro acc;have:=b (Er acc t);have c:Z (Er acc t)<=Z acc+1:=by grind[Er]
  simp only[Fu,FW,BQ]at*
  omega
def dZ (acc ts t):Fu acc (ts++[t])=Er (Fu acc ts) t:=by simp[Fu]
def gC (x c)(M:AJ x c)(t:x.fits)(b):ni 98 [ag c] b λI σ'=>∃id,I=lw id (Au x)/\W b σ':=by
 have hA:=Qq x c M (ny t.1);obtain⟨ih,id,a9,hb,rfl⟩:=M.cells;have a5:=t.atoms;have a3:∀a∈Af x,Z a.A<=1000:=by
  intro a F;unfold Af at F;obtain h|h:=AW.1 F
  ·split at h
   ·cases h
   simp at h;subst h;exact t.2.1
  exact t.2.2 a h
 refine wl func98 ?_
 repeat' first|refine Z1 ?_|refine Z8 λyb ya=>?_|refine Z4 ?_;clear ya yb|refine Z2 ?_ ?_<;>intro h D<;>try exact Xp|refine Z6 ?_;intro g A u a0 R ab Q U|refine Z5 ?_;refine Xi (hA _) ?_;rintro _ _ ⟨aa,a6,rfl,N,K⟩;(have y:=K.B;(try simp only[Aa,Ac,Az]at y))|refine Z7 ?_|exact Zt|apply ya.o;clear ya yb
 rename_i a2;have a4:=r.length A7 N;have E:W b a2:=Xs;clear K
 refine wn [4] 5 (Z (Af x)) (λj s σ'=>∃(d:Nat) (l:ol),s 3=lw d l/\W b σ'/\J b σ' d (Z l)/\Z l<=j*1000/\V (l=Fu [] (((Af x).take j).flatMap (·.A)))) ⟨1,[],rfl,E,J.nil _ _,nk,by simp[V,Fu]⟩ ?_
 clear E y;rintro j s σ' _ C a1 ⟨d,l,B,p,f,i,e⟩;by_cases G:j<Z (Af x)
 ·obtain⟨a,o⟩:=gq G;have a8:=a3 a (AY o);obtain⟨ia,I,a7⟩:=Ca N o;have P:V ((Af x)[j]?=some a):=o;clear o
  refine mu ?_
  refine wn [4,5] 6 (Z a.A) (λk s σ'=>∃(d:Nat) (l:ol),s 3=lw d l/\W b σ'/\J b σ' d (Z l)/\Z l<=j*1000+k/\V (l=Fu [] (((Af x).take j).flatMap (·.A)++a.A.take k))) ⟨d,l,by simp[upd,B],p,f,L,nn e⟩ ?_
  clear p f e i B C a1 l;rintro k s σ' _ _ _ ⟨d,l,B,p,f,i,e⟩;by_cases m:k<Z a.A
  ·have av:=A1 m;have n:V (a.A[k]?=some a.A[k]):=AK m;generalize a.A[k]=w at av n;have v:V (Fu [] (((Af x).take j).flatMap (·.A)++a.A.take (k+1))=Er l w):=by
    rw[V,AT,n.o,BN,<-CR,dZ,<-e.o]
   repeat' first|refine Z1 ?_|refine Z8 λyb ya=>?_|refine Z4 ?_;clear ya yb|refine Z2 ?_ ?_<;>intro h D<;>try exact Xp|refine Z6 ?_;intro g A u a0 R ab Q U|(refine Z5 ?_;first|(refine Xi (Cg _ _) ?_;rintro _ _ ⟨rfl,rfl⟩)|(refine Xi (Jb l d w L _) ?_;rintro _ _ ⟨rfl,rfl⟩))|refine Z7 ?_|exact Zt|apply ya.o;clear ya yb
   ·have T:w∉l:=λq=>by
     rw[Bv,if_pos q]at D;omega
    have z:Ab w:=nu;refine⟨g,l++[w],nk,nn u,by simp;omega,?_⟩;rw[V,v.o,Er,if_pos ⟨z,T⟩]
   ·have S:w∈l:=by
     by_cases q:w∈l
     ·exact q
     rw[Bv,if_neg q]at D;omega
    refine⟨d,l,nk,f,L,?_⟩;rw[V,v.o,Er,if_neg (λh=>h.2 S)]
   have z:Ab w=false:=nu;refine⟨d,l,nk,f,L,?_⟩;rw[V,v.o,Er,if_neg (λh=>by rw[z]at h;cases h.1)]
  obtain rfl:k=Z a.A:=L;rw[AS]at e;refine mu ?_;exact⟨d,l,nk,f,L,by rw[V,AT,P.o];simpa using e.o⟩
 obtain rfl:j=Z (Af x):=L;rw[AS]at e;refine mu ?_;rw[Au,<-e.o]
 exact⟨_,rfl,d,rfl⟩
def Im (k:Int):UInt8:=UInt8.ofNat (IntKind.u8.wrap (IntKind.i64.wrap (65+Int.tmod k 26))).toNat
def C6 (l:ol)(t:Tx):Tx:=if Ab t=true then [Im (Bv l t)]else t
def Ph (k:Nat):Tx:=if k=0 then [40]else [44]
def Ii (l:ol):Nat->ol->Tx
 |_,[]=>[]
 |k,t::a=>Ph k++C6 l t++Ii l (k+1) a
def Ob (l):∀(a:ol) (k:Nat) (t:Tx),Ii l k (a++[t])=Ii l k a++(Ph (k+Z a)++C6 l t)
 |[],k,t=>by simp[Ii]
 |u::a,k,t=>by rw[EW,Ii,Ob l a (k+1) t,Ii];grind
def Ec (l:ol)(a:AE):Tx:=(if a.nt=true then [33]else [])++a.B++Ii l 0 a.A++[41]
def short (a:AE):Prop:=Z a.B<=1000/\Z a.A<=1000/\∀t∈a.A,Z t<=1000
def U2 (l t)(h:Z t<=1000):Z (C6 l t)<=1000:=by grind[C6]
def Vo (l):∀(a:ol) (k:Nat),(∀t∈a,Z t<=1000)->Z (Ii l k a)<=Z a*1001
 |[],k,h=>by simp[Ii]
 |t::a,k,h=>by
  have d:=U2 l t (h t nk);have c:=Vo l a (k+1) λu b=>h u (ns b);have e:Z (Ph k)=1:=by grind[Ph]
  simp only[Ii,AX,BQ];omega
def tG (a:AE):Tx:=(if a.nt=true then [33]else [])++a.B
def Vm (l Q a c)(a0:Bf a c)(x:Z l<=10000000)(S:short a)(P):ni 119 [ag c,lw Q l] P λa5 σ'=>a5=O (Ec l a)/\W P σ':=by
 obtain⟨F,rfl⟩:=a0;obtain⟨a8,a7,E⟩:=S;have a6:({data:=#[33]}:ByteArray)=bs [33]:=rfl;refine Z9 47 [.tmp 4] func119 ?_;cases d:a.nt
 ·refine mu ?_
  refine Ae (λm s σ'=>∃(k:Nat) (b:Tx),m=Z a.A-k/\k<=Z a.A/\s 1=lw Q l/\s 2=ptr P.B 0/\s 5=O b/\s 6=Y k/\W P σ'/\σ'.C P.B=[my a.nt,O a.B,lw F a.A]/\P.B<σ'.B/\Z b<=1001+k*1001/\V (b=tG a++Ii l 0 (a.A.take k))) (Z a.A)
   ⟨0,tG a,L,L,rfl,rfl,by simp[upd,tG,d],rfl,Xs,by rw[d];exact Ao,by simp[Aa],by simp[tG,d];omega,by simp[V,Ii]⟩ ?_
  rintro m s σ' ⟨k,b,rfl,G,R,a3,I,N,C,K,a2,M,j⟩;have T:({data:=#[40]}:ByteArray)=bs [40]:=rfl;have a1:({data:=#[44]}:ByteArray)=bs [44]:=rfl;have a4:({data:=#[41]}:ByteArray)=bs [41]:=rfl;have U:∀z:UInt8,({data:=#[z]}:ByteArray)=bs [z]:=λ_=>rfl;by_cases p:k<Z a.A
  ·have y:=A1 p;have t:V (a.A[k]?=some a.A[k]):=AK p;have v:=E a.A[k] (AR p);generalize a.A[k]=w at y t v;have n:V (tG a++Ii l 0 (a.A.take (k+1))=b++(Ph k++C6 l w)):=by
    rw[V,AT,t.o,BN,Ob,j.o,CN,ER L,DY,CR]
   have q:Z (C6 l w)<=1000:=U2 l w v;have u:Z (Ph k)=1:=by unfold Ph;split<;>rfl
   have o:V (Z (C6 l w)<=1000):=q;have i:V (Z (Ph k)=1):=u;clear q u;by_cases g:k=0
   ·have D:((k:Int)==0)=true:=by simp[g]
    have f:V (Ph k=[40]):=by simp[V,Ph,g]
    clear g
    repeat' first|refine Z1 ?_|refine Z8 λyb ya=>?_|refine Z4 ?_;clear ya yb|refine Z2 ?_ ?_<;>intro h A<;>try exact Xp|(refine Z5 ?_;first|(refine Xi (Cg _ _) ?_;rintro _ _ ⟨rfl,rfl⟩)|(refine Xi (Jb l Q w x _) ?_;rintro _ _ ⟨rfl,rfl⟩))|refine Z7 ?_|exact Zt|apply ya.o;clear ya yb
    ·have e:Ab w=true:=nu
     refine⟨Z a.A-(k+1),L,k+1,b++(Ph k++C6 l w),rfl,L,by rw[f.o,C6,if_pos e];simp[Im],nk,Xs,by have:=o.o;have:=i.o;simp only[AX];omega,by rw[V,n.o]⟩
    have e:Ab w=false:=nu;refine⟨Z a.A-(k+1),L,k+1,b++(Ph k++C6 l w),rfl,L,by rw[f.o,C6,if_neg (by rw[e];simp)];simp,nk,by have:=o.o;have:=i.o;simp only[AX];omega,by rw[V,n.o]⟩
   have D:((k:Int)==0)=false:=by simp;omega
   have f:V (Ph k=[44]):=by simp[V,Ph,g]
   clear g
   repeat' first|refine Z1 ?_|refine Z8 λyb ya=>?_|refine Z4 ?_;clear ya yb|refine Z2 ?_ ?_<;>intro h A<;>try exact Xp|(refine Z5 ?_;first|(refine Xi (Cg _ _) ?_;rintro _ _ ⟨rfl,rfl⟩)|(refine Xi (Jb l Q w x _) ?_;rintro _ _ ⟨rfl,rfl⟩))|refine Z7 ?_|exact Zt|apply ya.o;clear ya yb
   ·have e:Ab w=true:=nu
    refine⟨Z a.A-(k+1),L,k+1,b++(Ph k++C6 l w),rfl,L,by rw[f.o,C6,if_pos e];simp[Im],nk,Xs,by have:=o.o;have:=i.o;simp only[AX];omega,by rw[V,n.o]⟩
   have e:Ab w=false:=nu;refine⟨Z a.A-(k+1),L,k+1,b++(Ph k++C6 l w),rfl,L,by rw[f.o,C6,if_neg (by rw[e];simp)];simp,nk,by have:=o.o;have:=i.o;simp only[AX];omega,by rw[V,n.o]⟩
  have B:k=Z a.A:=L;subst B;rw[AS]at j;refine mu ?_
  first
  |exact⟨_,rfl,by rw[j.o];simp[Ec,tG,d],C⟩
  |exact⟨_,rfl,by rw[j.o];simp[Ec,tG,d]⟩
 refine mu ?_
 refine Ae (λm s σ'=>∃(k:Nat) (b:Tx),m=Z a.A-k/\k<=Z a.A/\s 1=lw Q l/\s 2=ptr P.B 0/\s 5=O b/\s 6=Y k/\W P σ'/\σ'.C P.B=[my a.nt,O a.B,lw F a.A]/\P.B<σ'.B/\Z b<=1001+k*1001/\V (b=tG a++Ii l 0 (a.A.take k))) (Z a.A)
  ⟨0,tG a,L,L,rfl,rfl,by simp[upd,tG,d],rfl,Xs,by rw[d];exact Ao,by simp[Aa],by simp[tG,d];omega,by simp[V,Ii]⟩ ?_
 rintro m s σ' ⟨k,b,rfl,G,R,a3,I,N,C,K,a2,M,j⟩;have T:({data:=#[40]}:ByteArray)=bs [40]:=rfl;have a1:({data:=#[44]}:ByteArray)=bs [44]:=rfl;have a4:({data:=#[41]}:ByteArray)=bs [41]:=rfl;have U:∀z:UInt8,({data:=#[z]}:ByteArray)=bs [z]:=λ_=>rfl;by_cases p:k<Z a.A
 ·have y:=A1 p;have t:V (a.A[k]?=some a.A[k]):=AK p;have v:=E a.A[k] (AR p);generalize a.A[k]=w at y t v;have n:V (tG a++Ii l 0 (a.A.take (k+1))=b++(Ph k++C6 l w)):=by
   rw[V,AT,t.o,BN,Ob,j.o,CN,ER L,DY,CR]
  have q:Z (C6 l w)<=1000:=U2 l w v;have u:Z (Ph k)=1:=by unfold Ph;split<;>rfl
  have o:V (Z (C6 l w)<=1000):=q;have i:V (Z (Ph k)=1):=u;clear q u;by_cases g:k=0
  ·have D:((k:Int)==0)=true:=by simp[g]
   have f:V (Ph k=[40]):=by simp[V,Ph,g]
   clear g
   repeat' first|refine Z1 ?_|refine Z8 λyb ya=>?_|refine Z4 ?_;clear ya yb|refine Z2 ?_ ?_<;>intro h A<;>try exact Xp|(refine Z5 ?_;first|(refine Xi (Cg _ _) ?_;rintro _ _ ⟨rfl,rfl⟩)|(refine Xi (Jb l Q w x _) ?_;rintro _ _ ⟨rfl,rfl⟩))|refine Z7 ?_|exact Zt|apply ya.o;clear ya yb
   ·have e:Ab w=true:=nu
    refine⟨Z a.A-(k+1),L,k+1,b++(Ph k++C6 l w),rfl,L,by rw[f.o,C6,if_pos e];simp[Im],nk,Xs,by have:=o.o;have:=i.o;simp only[AX];omega,by rw[V,n.o]⟩
   have e:Ab w=false:=nu;refine⟨Z a.A-(k+1),L,k+1,b++(Ph k++C6 l w),rfl,L,by rw[f.o,C6,if_neg (by rw[e];simp)];simp,nk,by have:=o.o;have:=i.o;simp only[AX];omega,by rw[V,n.o]⟩
  have D:((k:Int)==0)=false:=by simp;omega
  have f:V (Ph k=[44]):=by simp[V,Ph,g]
  clear g
  repeat' first|refine Z1 ?_|refine Z8 λyb ya=>?_|refine Z4 ?_;clear ya yb|refine Z2 ?_ ?_<;>intro h A<;>try exact Xp|(refine Z5 ?_;first|(refine Xi (Cg _ _) ?_;rintro _ _ ⟨rfl,rfl⟩)|(refine Xi (Jb l Q w x _) ?_;rintro _ _ ⟨rfl,rfl⟩))|refine Z7 ?_|exact Zt|apply ya.o;clear ya yb
  ·have e:Ab w=true:=nu
   refine⟨Z a.A-(k+1),L,k+1,b++(Ph k++C6 l w),rfl,L,by rw[f.o,C6,if_pos e];simp[Im],nk,Xs,by have:=o.o;have:=i.o;simp only[AX];omega,by rw[V,n.o]⟩
  have e:Ab w=false:=nu;refine⟨Z a.A-(k+1),L,k+1,b++(Ph k++C6 l w),rfl,L,by rw[f.o,C6,if_neg (by rw[e];simp)];simp,nk,by have:=o.o;have:=i.o;simp only[AX];omega,by rw[V,n.o]⟩
 have B:k=Z a.A:=L;subst B;rw[AS]at j;refine mu ?_
 first
 |exact⟨_,rfl,by rw[j.o];simp[Ec,tG,d],C⟩
 |exact⟨_,rfl,by rw[j.o];simp[Ec,tG,d]⟩
def aJ (j:Nat):Tx:=if j=0 then [58,45]else [44]
def Ht (l:ol):Nat->oq->Tx
 |_,[]=>[]
 |j,a::b=>aJ j++Ec l a++Ht l (j+1) b
def Ss (l):∀(c:oq) (j:Nat) (a:AE),Ht l j (c++[a])=Ht l j c++(aJ (j+Z c)++Ec l a)
 |[],j,a=>by simp[Ht]
 |b::c,j,a=>by rw[EW,Ht,Ss l c (j+1) a,Ht];grind
def Ln {l a}(h:short a):Z (Ec l a)<=1002003:=by
 let⟨d,c,b⟩:=h;have f:=Vo l a.A 0 b;have e:Z (if a.nt=true then ([33]:Tx)else [])<=1:=gp
 simp only[Ec,AX,KZ];omega
def tH (j):Z (aJ j)<=2:=by grind[aJ]
def Bw (x:AB):Tx:=if x.o=true then 63::x.h.B++[46]else Ec (Au x) x.h++Ht (Au x) 0 x.A++[46]
def AB.short (x:AB):Prop:=Go.Proofs.YtmoeoppbmhfbpabGreatDoorJ.short x.h/\∀a∈x.A,Go.Proofs.YtmoeoppbmhfbpabGreatDoorJ.short a
theorem oM {x}(e:x.fits):Z ((Af x).flatMap (·.A))<=1001*1000:=by
 have f:=e.atoms;have d:∀a∈Af x,Z a.A<=1000:=by
  intro a g;rw[Af]at g;obtain h|h:=AW.1 g;split at h;cases h;simp at h;subst h;exact e.2.1;exact e.2.2 a h
 generalize Af x=c at f d;have:Z (c.flatMap (·.A))<=Z c*1000:=by
  clear f;induction c with
  |nil=>simp
  |cons a c i=>
   have k:=i λb j=>d b (ns j);have l:=d a nk;simp only[DN,AX,BQ];omega
 omega
def mT {x}(a:x.fits):Z (Au x)<=10000000:=by grind[Ro,Af,oM,Au]
def Ll (x c)(T:AJ x c)(G:x.fits)(hs:x.short)(e):ni 112 [ag c] e λaa σ'=>aa=O (Bw x)/\W e σ':=by
 have p:=gC x c T G;have z:=mT G;have a8:=G.1;obtain⟨t,id,a2,P,rfl⟩:=T.cells;have bb:=r.length A7 P;obtain⟨B,a5⟩:=hs;have a9:=B.1;have bd:({data:=#[63]}:ByteArray)=bs [63]:=rfl;have bf:({data:=#[46]}:ByteArray)=bs [46]:=rfl;have bg:({data:=#[44]}:ByteArray)=bs [44]:=rfl;have be:({data:=#[58,45]}:ByteArray)=bs [58,45]:=rfl;refine Z9 43 [.tmp 2] func112 ?_;cases o:x.o
 ·have ac:=Ln (l:=Au x) B;unfold A4 ko at p⊢;rw[o]at p⊢;have n:=λi e=>Vm (Au x) i x.h [my x.h.nt,O x.h.B,lw t x.h.A] ⟨t,rfl⟩ z B e;generalize N:Au x=f at p z n ac;have R:V _:=N;clear N
  repeat' first|refine Z1 ?_|refine Z8 λyb ya=>?_|refine Z4 ?_;clear ya yb|refine Z2 ?_ ?_<;>intro h I<;>try exact Xp|(refine Z5 ?_;first|(refine Xi (p _) ?_;rintro _ _ ⟨i,rfl,b⟩;(have S:=b.C;have a1:=b.B;(try simp only[Aa,Ac,Az]at a1)))|(refine Xi (n _ _) ?_;rintro _ _ ⟨rfl,g⟩;(have u:=g.C;have A:=g.B)))|refine Z7 ?_|exact Zt|apply ya.o;clear ya yb
  rename_i ae k;have Q:W e k:=Xs;have D:k.C e.B=[my false,my x.h.nt,O x.h.B,lw t x.h.A,sl id (Z x.A) a2]:=by
   rw[u _ L,S _ (by rw[Aa];omega),Ao]
  have U:e.B<k.B:=L;clear S u b g a1 A p n
  refine Ae (λa4 s σ'=>∃(j:Nat) (d:Tx),a4=Z x.A-j/\j<=Z x.A/\s 1=ptr e.B 0/\s 3=lw i f/\s 4=O d/\s 5=Y j/\W e σ'/\σ'.C e.B=[my false,my x.h.nt,O x.h.B,lw t x.h.A,sl id (Z x.A) a2]/\e.B<σ'.B/\Z d<=1002003+j*1002010/\V (d=Ec f x.h++Ht f 0 (x.A.take j))) (Z x.A)
   ⟨0,Ec f x.h,L,L,AG,AG,AG,rfl,Q,D,U,L,by simp[V,Ht]⟩ ?_
  clear Q D U;rintro a4 s σ' ⟨j,d,rfl,hj,h1,h3,h4,h5,hK,D,ba,bc,v⟩;by_cases a0:j<Z x.A
  ·have y:=AK a0;have F:=a5 x.A[j] (AR a0);obtain⟨K,aa,ab⟩:=Ca P y;generalize x.A[j]=a at ab y F;have HG:V (x.A[j]?=some a):=y;clear y;have C:V (Ec f x.h++Ht f 0 (x.A.take (j+1))=d++(aJ j++Ec f a)):=by
    rw[V,AT,HG.o,BN,Ss,v.o,CN,ER L,DY,CR]
   have ad:=Ln (l:=f) F;have m:V (Z (aJ j)<=2):=tH j;have n:=λe=>Vm f i a [my a.nt,O a.B,lw K a.A] ⟨K,rfl⟩ z F e;generalize a3:Ec f a=M at n ad C;clear a3;by_cases q:j=0
   ·have a7:((j:Int)==0)=true:=by simp[q]
    have E:V (aJ j=[58,45]):=by simp[V,aJ,q]
    clear q
    repeat' first|refine Z1 ?_|refine Z8 λyb ya=>?_|refine Z4 ?_;clear ya yb|refine Z2 ?_ ?_<;>intro h I<;>try exact Xp|refine Z5 ?_;refine Xi (n _) ?_;rintro _ _ ⟨rfl,g⟩;(have u:=g.C;have A:=g.B)|refine Z7 ?_|exact Zt|apply ya.o;clear ya yb
    refine⟨Z x.A-(j+1),L,j+1,d++(aJ j++M),rfl,L,by rw[E.o];simp,nk,Xs,L,by have:=m.o;simp only[AX];omega,by rw[V,C.o]⟩
   have a7:((j:Int)==0)=false:=by simp;omega
   have E:V (aJ j=[44]):=by simp[V,aJ,q]
   clear q
   repeat' first|refine Z1 ?_|refine Z8 λyb ya=>?_|refine Z4 ?_;clear ya yb|refine Z2 ?_ ?_<;>intro h I<;>try exact Xp|refine Z5 ?_;refine Xi (n _) ?_;rintro _ _ ⟨rfl,g⟩;(have u:=g.C;have A:=g.B)|refine Z7 ?_|exact Zt|apply ya.o;clear ya yb
   refine⟨Z x.A-(j+1),L,j+1,d++(aJ j++M),rfl,L,by rw[E.o];simp,nk,Xs,L,by have:=m.o;simp only[AX];omega,by rw[V,C.o]⟩
  have a6:j=Z x.A:=L;subst a6;rw[AS]at v;refine mu ?_
  first
  |exact⟨_,rfl,by rw[v.o];simp[Bw,o,R.o],hK⟩
  |exact⟨_,rfl,by rw[v.o];simp[Bw,o,R.o]⟩
 unfold A4 ko;rw[o];refine mu ?_;exact⟨_,rfl,by simp[Bw,o],Xs⟩
def Bj (l:n0):Tx:=l.flatMap Bw
def iU {l}:∀(c:oq) (j:Nat),(∀a∈c,short a)->Z (Ht l j c)<=Z c*1002010
 |[],j,h=>by simp[Ht]
 |a::c,j,h=>by have f:=Ln (l:=l) (h a nk);have e:=iU (l:=l) c (j+1) λb d=>h b (ns d);have g:=tH j;simp only[Ht,AX,BQ];omega
def Lm {x}(b:x.fits)(a:x.short):Z (Bw x)<=1100000000:=by have e:=Ln (l:=Au x) a.1;have c:=iU (l:=Au x) x.A 0 a.2;have f:=b.1;have d:=a.1.1;rw[Bw];grind
def Py (l cs D)(p:r AJ l cs)(K:Z l<=16)(y:∀x∈l,x.fits)(C:∀x∈l,x.short)(c):ni 64 [sl D (Z l) cs] c λm σ'=>m=O (Bj l)/\W c σ':=by
 have F:=r.length Cf p;refine wl func64 ?_;refine mu ?_
 refine wn [0] 4 (Z l) (λi s σ'=>∃a:Tx,s 3=O a/\W c σ'/\Z a<=i*1100000000/\V (a=Bj (l.take i))) ⟨[],rfl,W.refl _,nk,by simp[V,Bj]⟩ ?_
 rintro i s σ' _ _ _ ⟨a,I,z,E,d⟩;by_cases f:i<Z l
 ·obtain⟨x,e⟩:=gq f;have g:=y x (AY e);have j:=C x (AY e);obtain⟨o,id,b,m,q,u⟩:=Cv p e;have B:V (l[i]?=some x):=e;clear e;have v:=Lm g j;have k:=λc=>Ll x _ (AJ.of (ih:=o) (id:=id) q) g j c;rw[A4]at k;generalize n:Bw x=t at k v;have A:V _:=n;clear n
  repeat' first|refine Z1 ?_|refine Z8 λyb ya=>?_|refine Z4 ?_;clear ya yb|refine Z2 ?_ ?_<;>intro h G<;>try exact Xp|refine Z5 ?_;refine Xi (k _) ?_;rintro _ _ ⟨rfl,M⟩|refine Z7 ?_|exact Zt|apply ya.o;clear ya yb
  refine⟨a++t,nk,Xs,by simp only[AX];omega,?_⟩;rw[V,AT,B.o,d.o];simp[Bj,A.o]
 obtain rfl:i=Z l:=L;rw[AS]at d;refine mu ?_
 first
 |exact⟨_,rfl,by rw[d.o],z⟩
 |exact⟨_,rfl,by rw[d.o]⟩
def wU {a t}(h:t∈a):Z t<=Z (Ch a):=by
 induction a with
 |nil=>cases h
 |cons u a b=>
  rw[Ch]at*
  simp only[DN,AX,BQ];obtain rfl|h:=BD.1 h;omega;have:=b h;omega
def bL {a t}(h:t∈a):Z t<=Z (Bp a):=by
 cases a with
 |nil=>cases h
 |cons u a=>
  rw[Bp];simp only[AX];obtain rfl|h:=BD.1 h;omega;have:=wU h;omega
def T2 {a}(c:Z a.A<=3)(h:Z (Bh a)<=1000):short a:=by rw[Bh]at h;simp only[AX,BQ]at h;refine⟨L,L,λt b=>?_⟩;have:=bL b;omega
def jE {x}(m:Dc x)(h:Z (Bz x)<=1000):x.short:=by
 obtain⟨-,i,k⟩:=m;unfold Bz at h;cases b:x.o
 ·rw[if_neg (gp)]at h;obtain⟨d,-,g,j⟩:=k b;unfold D1 at h;simp only[AX]at h;refine⟨T2 d.2.2.1 L,λa c=>?_⟩;have l:x.A≠[]:=gp
  rw[if_neg l]at h;simp only[BQ]at h;have n:=bL (mem_map_of_mem (f:=Cl) c);have o:Z (Bh a)<=Z (Cl a):=by grind[Cl]
  exact T2 (j a c).2.2.1 L
 rw[if_pos b]at h;obtain⟨-,d,g⟩:=i b;simp only[BQ]at h;exact⟨⟨L,gp,gp⟩,gp⟩
def pY {l x}(h:x∈l):Z (Bz x)<=Z (Cr l):=by
 induction l with
 |nil=>cases h
 |cons y l a=>
  rw[Cr]at*
  simp only[DN,AX];obtain rfl|h:=BD.1 h;omega;have:=a h;omega
def T8 {s l e}(d:Z s<=1000)(h:Cc 16 s= .got l e):∀x∈l,x.short:=by obtain⟨b,-,-,c⟩:=Ka _ _ _ _ h;intro x a;have:=pY a;rw[<-b]at this;exact jE (c x a) L
def encI (t:Tx):AV:=Y (Aq t).2
def nE {l k}(h:k<Z l):(l.map encI).drop k=Y (Aq l[k]).2::(l.map encI).drop (k+1):=by simp_all[ET,encI]
def VL (l:ol):Prop:=∀t∈l,VT t/\Ab t
def vQ {t u}(a:VT t)(b:VT u)(d:Ab t)(c:Ab u)(h:(Aq t).2=(Aq u).2):t=u:=by have:=RE a b c;rw[Ql]at this;rw[R3 a,d,h]at this;grind
def Rn (l K t)(Lqx:Z l<=10000000)(y:VL l)(I:VT t)(F:Ab t)(m):ni 85 [Y (Aq t).2,sl K (Z l) (l.map encI)] m λx σ'=>x=Y (Bv l t)/\σ'=m:=by
 have f:∀u∈l,(Aq u).2=(Aq t).2->u=t:=λu o h=>vQ (y u o).1 I (y u o).2 F h;generalize p:(Aq t).2=v at f;have z:V _:=p;clear p;refine wl func85 ?_;refine X ?_
 refine wn [0,7,8] 9 (Z l) (λi b σ'=>σ'=m/\V (∀a,a<i->l[a]?≠some t)) ⟨rfl,λa E=>L⟩ ?_
 rintro i b σ' _ _ _ ⟨k,g⟩;subst k;by_cases j:i<Z l;have q:=nE j;have d:V (l[i]?=some l[i]):=AK j;have e:=f l[i] (AR j);generalize l[i]=w at q d e;generalize n:(Aq w).2=B at q e;have G:V _:=n;have s:V _:=e;clear n e f;refine m6 ?_ ?_<;>intro h M;have c:w=t:=s.o (nn h);have A:t∈l:=c▸AY d.o
 exact⟨_,rfl,by rw[Bv,if_pos A,Ov g.o (by rw[d.o,c])]⟩;have c:w≠t:=by
  rintro rfl;have:B=v:=by rw[<-G.o,<-z.o]
  simp[this]at h
 skip;intro a E;by_cases D:a=i;subst D;rw[d.o];simpa using c;exact g.o a L;obtain rfl:i=Z l:=L;have C:=Qe g.o;refine X ?_;exact⟨_,rfl,by rw[Bv,if_neg C]⟩
def ZX {l t}(h:VL l)(b:VT t):VL (Er l t):=by rw[Er];split;rename_i c;intro u a;obtain a|a:=AW.1 a;exact h u a;simp at a;subst a;exact⟨b,c.1⟩;exact h
def Sv (N t cs ida)(S:r (PC N) t cs)(ad:∀a∈t,VA a)(hn:Z t<=1001)(a9:∀a∈t,Z a.A<=1000)(e):
  ni 150 [sl ida (Z t) cs] e λT σ'=>∃id,T=sl id (Z (Fu [] (t.flatMap (·.A)))) ((Fu [] (t.flatMap (·.A))).map encI)/\VL (Fu [] (t.flatMap (·.A)))/\W e σ':=by
 have bf:=r.length iN S;refine wl func150 ?_;refine X ?_
 refine wn [9,10] 11 (Z t) (λj s σ'=>∃(b:Nat) (l:ol),s 3=sl b (Z l) (l.map encI)/\W e σ'/\J e σ' b (Z l)/\Z l<=j*1000/\V (VL l)/\V (l=Fu [] ((t.take j).flatMap (·.A)))) ⟨1,[],rfl,W.refl _,J.nil _ _,nk,(λai ac=>by cases ac),by simp[V,Fu]⟩ ?_
 rintro j s σ' _ ⟨C,B⟩ A ⟨b,l,F,c,i,q,d,g⟩;by_cases D:j<Z t
 ·obtain⟨a,f⟩:=gq D;have a4:=a9 a (AY f);have G:=ad a (AY f);obtain⟨ah,a3,T,ae⟩:=OZ S f;have U:V (t[j]?=some a):=f;have bd:V (VA a):=G;clear f G;have be:=Fh a.A;have R:=c.B
  refine X ?_
  refine Ae (λm s σ'=>∃(k b:Nat) (l:ol),m=Z a.A-k/\k<=Z a.A/\s 3=sl b (Z l) (l.map encI)/\s 9=sl ida (Z t) cs/\s 10=Y (Z t)/\s 11=Y j/\s 16=sl a3 (Z a.A) (A0 a.A)/\s 17=Y (Z a.A)/\s 18=Y k/\W e σ'/\J e σ' b (Z l)/\Z l<=j*1000+k/\V (VL l)/\V (l=Fu [] ((t.take j).flatMap (·.A)++a.A.take k))) (Z a.A)
   ⟨0,b,l,L,L,by simp[upd,F],by simp[upd,C],by simp[upd,B],by simp[upd,A],AG,rfl,rfl,(c.new _).put c.B _,J.put (J.new i _) _ _,L,d,nn g⟩ ?_
  clear c i g q d F C B A R l;rintro m s σ' ⟨k,b,l,rfl,hk,F,C,B,A,bi,bh,bg,c,i,q,d,g⟩;have R:=c.B;by_cases a0:k<Z a.A
  ·obtain⟨w,f⟩:=gq a0;have u:=bd.o w (AY f);obtain⟨r2,p⟩:=Gm f;have z:V (Fu [] ((t.take j).flatMap (·.A)++a.A.take (k+1))=Er l w):=by
    rw[V,AT,f,BN,<-CR,dZ,<-g.o]
   have a1:V (VL (Er l w)):=ZX d.o u;clear f;have x:=R3 u;cases n:Ab w
   ·rw[n]at x;rw[x]at p;generalize (Aq w).2=I at p;refine X ?_;refine⟨Z a.A-(k+1),L,k+1,b,l,rfl,L,rfl,nk,(c.new _).put c.B _,J.put (J.new i _) _ _,L,d,?_⟩;rw[V,z.o,Er,if_neg (λh=>by rw[n]at h;cases h.1)]
   rw[n]at x;rw[x]at p;have M:=λe=>Rn l b w L d.o u n e;generalize Q:(Aq w).2=I at p M;have a7:V _:=Q;clear Q
   repeat' first|refine Z1 ?_|refine Z8 λyb ya=>?_|refine Z4 ?_;clear ya yb|refine Z2 ?_ ?_<;>intro h af<;>try exact Xp|refine Z6 ?_;intro o E K ak a6 ab a2 aa|refine Z5 ?_;refine Xi (M _) ?_;rintro _ _ ⟨rfl,rfl⟩|refine Z3 ?_|exact Zt|apply ya.o;clear ya yb
   ·have v:Bv l w= -1:=nn h
    have a5:w∉l:=λy=>by rw[Bv,if_pos y]at v;omega
    have ba:W e ((σ'.new [my false,Y 0]).put σ'.B [my true,Y I]):=(c.new _).put c.B _;refine Bo (by first|exact S3) ba (J.put (J.new i _) _ _) nr (by rfl) nk (by rfl) (by rfl) nr L L ?_;intro o E K ak a6 ab a2 aa;refine Z3 ?_;refine X ?_;have P:Er l w=l++[w]:=by rw[Er,if_pos ⟨n,a5⟩]
    refine⟨Z a.A-(k+1),L,k+1,o,l++[w],rfl,L,?_,nk,nn K,by simp;omega,by rw[<-P];exact a1,by rw[V,z.o,P]⟩;simp[encI,a7.o]
   have v:Bv l w≠ -1:=nn h;have a8:w∈l:=by
    by_cases y:w∈l
    ·exact y
    rw[Bv,if_neg y]at v;exact absurd rfl v
   refine⟨Z a.A-(k+1),L,k+1,b,l,rfl,L,rfl,nk,(c.new _).put c.B _,J.put (J.new i _) _ _,L,d,?_⟩;rw[V,z.o,Er,if_neg (λh=>h.2 a8)]
  obtain rfl:k=Z a.A:=L;rw[AS]at g;refine X ?_;exact⟨b,l,nk,i,L,d,by rw[V,AT,U.o];simpa using g.o⟩
 obtain rfl:j=Z t:=L;rw[AS]at g;refine X ?_;rw[<-g.o]
 exact⟨_,rfl,b,rfl,d.o⟩
def Kz (l:ol)(t:Tx):oh:=[my (Ab t),Y (if Ab t=true then Bv l t else (Aq t).2)]
def D6 (l:ol)(a:ol):oh:=a.flatMap (Kz l)
def qT (l b):Z (D6 l b)=Z b*2:=by
 induction b with
 |nil=>rfl
 |cons a b c=>rw[D6]at*;rw[DN,AX,c];simp[Kz];omega
def lO (l ts x):D6 l (ts++[x])=D6 l ts++Kz l x:=by simp[D6]
def Rm (l ido m P a)(Jqx:Z l<=10000000)(M:VL l)(F:VA a)(a0:Z a.A<=1000)(b):
  ni 144 [ag [Y m,sl P (Z a.A) (A0 a.A)],sl ido (Z l) (l.map encI)] b λR σ'=>∃id,R=ag [Y m,sl id (Z a.A) (D6 l a.A)]/\W b σ':=by
 have a3:=Fh a.A;have G:V (VA a):=F;clear F;refine wl func144 ?_;refine X ?_
 refine wn [1,4,5,12,13] 14 (Z a.A) (λk s σ'=>∃(n:Nat) (e:oh),W b σ'/\b.B+2<σ'.B/\σ'.C (b.B+1)=[Y 0,H]/\σ'.C (b.B+2)=[Y m,sl n k e]/\J b σ' n k/\Z e=k*2/\V (e=D6 l (a.A.take k))) ⟨1,[],?_,?_,?_,?_,J.nil _ _,nk,by simp[V,D6]⟩ ?_
 exact ((((W.refl b).new _).new _).new _).put L _;simp only[Ac,Aa];omega;rw[Aj L,Ah AM,Be (by rw[Aa];omega) (by rw[Aa];omega)];rw[show b.B+2=b.B+1+1 by omega,Ak];rintro k s σ' _ _ _ ⟨n,e,c,Q,a1,T,C,B,p⟩;have S:=c.B;by_cases E:k<Z a.A;obtain⟨w,j⟩:=gq E;have x:=G.o w (AY j);obtain⟨U,f⟩:=Gm j;have D:V (D6 l (a.A.take (k+1))=e++Kz l w):=by
  rw[V,AT,j,BN,lO,<-p.o]
 clear j;have o:=R3 x;cases g:Ab w
 ·rw[g]at o;rw[o]at f;have i:V (Kz l w=[my false,Y (Aq w).2]):=by simp[V,Kz,g]
  generalize (Aq w).2=u at f i;refine nh ?_;intro yb ya;have q:W b ((σ'.new [my false,Y 0]).put σ'.B [my false,Y u]):=(c.new _).put c.B _;refine Bo (by first|exact Gl) q (J.put (J.new C _) _ _) nr (by rfl) B (by rfl) (by rfl) nr L L ?_;intro d v t y N z K I;simp only[Ac,Aa]at z;refine Z3 ?_;refine X ?_;refine⟨d,_,y.put L _,L,rfl,J.put t _ _,by simp;omega,?_⟩;rw[V,D.o,i.o]
 rw[g]at o;rw[o]at f;have A:=λb=>Rn l ido w Jqx M x g b;have i:V (Kz l w=[my true,Y (Bv l w)]):=by simp[V,Kz,g]
 generalize (Aq w).2=u at f A;refine m0 ?_;intro yb ya;refine Xi (A _) ?_;rintro _ _ ⟨rfl,rfl⟩;refine nh ?_;intro yb ya;have q:W b (((σ'.new [my false,Y 0]).put σ'.B [my true,Y u]).put σ'.B [my true,Y (Bv l w)]):=((c.new _).put c.B _).put c.B _;refine Bo (by first|exact Gl) q (J.put (J.put (J.new C _) _ _) _ _) nr (by rfl) B (by rfl) (by rfl) nr L L ?_;intro d v t y N z K I;simp only[Ac,Aa]at z;refine Z3 ?_;refine X ?_;refine⟨d,_,y.put L _,L,rfl,J.put t _ _,by simp;omega,?_⟩;rw[V,D.o,i.o]
 obtain rfl:k=Z a.A:=L;rw[AS]at p;refine X ?_;exact⟨_,rfl,n,by rw[p.o],c.put L _⟩
def Ut (N x c)(k:PI N x c)(n:x.o->x.A=[])(e:x.fits)(q:∀a∈Af x,VA a)(f):ni 96 [ag c] f λD σ'=>∃id,D=sl id (Z (Au x)) ((Au x).map encI)/\VL (Au x)/\W f σ':=by
 have o:=Nj N x c k n (ny e.1);have s:∀a∈Af x,Z a.A<=1000:=by
  intro a m;rw[Af]at m;obtain h|h:=AW.1 m
  ·split at h
   ·cases h
   simp at h;subst h;exact e.2.1
  exact e.2.2 a h
 have p:=e.atoms;have l:=λj d i f=>Sv N (Af x) j d i q p s f;obtain⟨t,B,id,b,C,rfl⟩:=k;rw[Au];generalize Fu [] ((Af x).flatMap (·.A))=z at l;apply wl func96
 repeat' first|refine Z1 ?_|refine Z8 λyb ya=>?_|refine Z4 ?_;clear ya yb|refine Z2 ?_ ?_<;>intro h u<;>try exact Xp|(refine Z5 ?_;first|(apply Xi (o _);rintro _ _ ⟨d,j,rfl,i,A⟩)|(apply Xi (l _ _ nu _);rintro _ _ ⟨g,rfl,v,y⟩))|refine Z3 ?_|exact Zt|apply ya.o;clear ya yb
 exact⟨_,rfl,g,rfl,Xs⟩
def RL (N l:ol)(a:AE)(c:oh):Prop:=∃b,c=[my a.nt,Y (N.idxOf a.B:Nat),sl b (Z a.A) (D6 l a.A)]
def RU {N l}(a c)(h:RL N l a c):Z c=3:=by obtain⟨b,rfl⟩:=h;rfl
def lj {N l d cs i a}(h:r (RL N l) d cs)(f:d[i]?=some a):∃b g,cs.drop (i*3)=my a.nt::Y (N.idxOf a.B:Nat)::sl b (Z a.A) (D6 l a.A)::g:=by obtain⟨c,g,⟨b,rfl⟩,e⟩:=r.get RU h f;exact⟨b,g,e⟩
def RI (N l:ol)(x:AB)(c:oh):Prop:=∃a id b,r (RL N l) x.A b/\c=[my x.o,Y (N.idxOf x.h.B:Nat),sl a (Z x.h.A) (D6 l x.h.A),sl id (Z x.A) b]
def gM (N x c)(hc:PI N x c)(ho:x.o->x.A=[])(y:x.fits)(hV:∀a∈Af x,VA a)(bf:VA x.h)(bg:∀a∈x.A,VA a)(d):
  ni 93 [ag c] d λa4 σ'=>∃c',a4=ag c'/\RI N (Au x) x c'/\VL (Au x)/\W d σ':=by
 have a8:=λd=>Ut N x c hc ho y hV d;have U:=mT y;have bo:=y.1;have bd:=y.2.2;obtain⟨hm,i,id,a1,hb,rfl⟩:=hc;have bq:=r.length Eh hb;have I:=λg f (R:Z g<=10000000) A d=>Rm g f (N.idxOf x.h.B:Nat) i x.h R A bf y.2.1 d;have bi:=λg f (a:AE) C M (R:Z g<=10000000) A hv d=>Rm g f (N.idxOf a.B:Nat) C a R A hv (bd a M) d;generalize Au x=g at a8 U;have I:=λf A d=>I g f U A d;refine wl func93 ?_;refine mt a8 ?_;rintro yb ya _ l ⟨f,rfl,bh,v⟩;have S:=v.C;have ao:=v.B;simp only[Aa]at ao;refine X ?_;have b:l.C d.B=[my x.o,Y (N.idxOf x.h.B:Nat),sl i (Z x.h.A) (A0 x.h.A),sl id (Z x.A) a1]:=by
  rw[S _ AM,Ah AM,Ao]
 have B:l.C (d.B+1)=[my false,Y 0,H,H]:=by
  rw[S _ AM,Be (by rw[Aa];omega) (by rw[Aa];omega)]
 have G:W d l:=Xs;have a9:V (VL g):=bh;refine A2 (Q:=λa2 s σ'=>a2= .normal/\∃o p:Nat,s 1=ptr d.B 0/\s 2=ptr (d.B+1) 0/\s 3=sl f (Z g) (g.map encI)/\s 4=ptr o 0/\d.B+1<o/\o<σ'.B/\σ'.C d.B=[my x.o,Y (N.idxOf x.h.B:Nat),sl i (Z x.h.A) (A0 x.h.A),sl id (Z x.A) a1]/\σ'.C (d.B+1)=[my false,Y 0,H,H]/\σ'.C o=[my x.o,Y (N.idxOf x.h.B:Nat),sl p (Z x.h.A) (D6 g x.h.A),H]/\W d σ') ?_ ?_;refine bT [8] [0,1,2,3,4] 4 (nv 9 31) ?_;have a5:=λd=>I f a9.o d;refine D8 (rs:=[5,7]) AH nk ?_;intro aj z;simp only[BD,EK,DZ]at z;obtain rfl|rfl:=z;refine Am ?_;intro yb ya;refine Z3 ?_;refine AF.mono (a5 _) ?_;rintro _ n ⟨p,rfl,j⟩;have t:=j.C;have an:=j.B;refine ux ?_;refine D8 (rs:=[6,7]) AH nk ?_;intro aj z;simp only[BD,EK,DZ]at z;obtain rfl|rfl:=z;refine ta ?_;refine rl 7 ?_;refine rl 8 ?_;refine Aw AH ⟨rfl,n.B,p,AG,AG,AG,AG,L,BJ,?_,?_,Ak,?_⟩;rw[Aj L,Ah L,t _ L,b];rw[Aj L,Ah L,t _ L,B];exact ((G.trans j).new _).put L _;refine ta ?_;refine rl 6 ?_;refine rl 8 ?_;refine Aw AH ⟨rfl,n.B,p,AG,AG,AG,AG,L,BJ,?_,?_,Ak,?_⟩;rw[Aj L,Ah L,t _ L,b];rw[Aj L,Ah L,t _ L,B];exact ((G.trans j).new _).put L _;refine ta ?_;refine tn 5 a5 ?_;rintro yb ya _ n ⟨p,rfl,j⟩;have t:=j.C;have an:=j.B;simp only[Aa]at an;refine ux ?_;refine rl 6 ?_;refine rl 8 ?_;refine Aw AH ⟨rfl,l.B,p,AG,AG,AG,AG,L,BJ,?_,?_,Ak,?_⟩;rw[Aj L,t _ (by rw[Aa];omega),Ah L,b];rw[Aj L,t _ (by rw[Aa];omega),Ah L,B];exact ((G.new _).trans j).put L _;rintro a2 s n ⟨rfl,o,p,h1,ai,ad,ah,bp,m,ba,T,P,q⟩;have a6:=q.B;refine X ?_
 refine wn [2,3,4,18,19] 20 (Z x.A) (λk s σ'=>∃(E:Nat) (u:oh),W d σ'/\o<σ'.B/\σ'.C (d.B+1)=[my false,Y 0,H,H]/\σ'.C o=[my x.o,Y (N.idxOf x.h.B:Nat),sl p (Z x.h.A) (D6 g x.h.A),sl E k u]/\J d σ' E k/\Z u=k*3/\V (r (RL N g) (x.A.take k) u)) ⟨1,[],q,m,T,P,J.nil _ _,nk,rfl⟩ ?_
 clear h1 ai ad ah ba T P q m a6;rintro k s σ' _ _ _ ⟨E,u,q,m,T,P,hO,bc,K⟩;have a6:=q.B;by_cases a7:k<Z x.A;obtain⟨a,D⟩:=gq a7;have e:=(AY D);obtain⟨M,C,a4,hd⟩:=Pu hb D;have hR:=λd=>bi g f a C e U a9.o (bg _ e) d;have HG:V (x.A[k]?=some a):=D;clear D e;refine mt hR ?_;rintro yb ya _ _ ⟨i4,rfl,F⟩;have bb:=F.C;have a0:=F.B;simp only[Aa,Ac]at a0;refine nh ?_;intro yb ya;rename_i ap;have bn:=((q.new [my false,Y 0,H]).put q.B _).trans F;have bm:=J.keep (J.put (J.new hO [my false,Y 0,H]) σ'.B [my a.nt,Y (N.idxOf a.B:Nat),sl C (Z a.A) (A0 a.A)]) F;refine hZ ((bn.new _).put L _) ?_;intro ac au ak am af aa ae ab;simp only[Ac,Aa]at aa;refine X ?_;refine⟨ac,_,am.put L _,L,rfl,J.put ak _ _,by simp;omega,?_⟩;rw[V,AT,HG.o];exact r.append K.o (r.single ⟨i4,rfl⟩);obtain rfl:k=Z x.A:=L;rw[AS]at K;refine X ?_;exact⟨_,rfl,_,rfl,⟨p,E,u,K.o,rfl⟩,q.put L _⟩
end Go.Proofs.YtmoeoppbmhfbpabGreatDoorJ
