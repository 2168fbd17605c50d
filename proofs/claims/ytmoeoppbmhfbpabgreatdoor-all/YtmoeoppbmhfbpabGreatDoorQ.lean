import Derived.Test.YtmoeoppbmhfbpabGreatDoorN
set_option maxHeartbeats 64000000
set_option maxRecDepth 100000
set_option linter.all false
open List
open List renaming length->Z
namespace Go.Proofs.YtmoeoppbmhfbpabGreatDoorJ
open Go.Abs Tryz
def g_ {l i t}(b:T3 l)(n:Z t=3)(a:i<Z l):lsp (Fg l) (i*3) (As t)=Fg (l.set i t):=by
 have f:=J4 b;have c:=Io n;rw[Hw _ _ _ (gp),c];have e:l=l.take i++l[i]::l.drop (i+1):=jx
 have e2:l.set i t=l.take i++t::l.drop (i+1):=gp
 have g:Z (Fg (l.take i))=i*3:=by
  rw[J4 (λx j=>b x (JI j)),CN,ER (Nat.le_of_lt a)]
 have d:=Io (b _ (AR a));have k:Fg l=Fg (l.take i)++(As l[i]++Fg (l.drop (i+1))):=by
  unfold Fg
  conv=>lhs;rw[e]
  rw[KC,DN]
 have m:Fg (l.set i t)=Fg (l.take i)++(As t++Fg (l.drop (i+1))):=by rw[e2];simp[Fg]
 rw[m,k,<-g,take_left,CR];congr 1;congr 1;rw[show Z (Fg (l.take i))+3=Z (Fg (l.take i))+Z (As l[i]) by rw[d],drop_length_add_append,drop_left]
structure B_ (acc:List Ck)(t:Ck)(A B:List Ck):Prop where
 eq:A++B=acc
 le:∀b∈B,nz t b
def B_.done {acc t A B}(h:B_ acc t A B)(n:px acc)(i:T3 acc)(s:Z t=3)(m:∀a,A.getLast?=some a->nz t a=false):px (A++t::B)/\(A++t::B).Perm (acc++[t]):=by
 have g:=n;rw[<-h.eq]at g i;rw[px]at g;rw[pairwise_append]at g;let⟨j,q,p⟩:=g;have o:∀a∈A,nz t a=false:=λa c=>by
  obtain e|⟨u,z,e⟩:=eq_nil_or_concat A;rw[e]at c;cases c;rw[concat_eq_append]at e;have k:=m z (gp);rw[e]at c j;obtain f|f:=AW.1 c;have l:=(pairwise_append.1 j).2.2 a f z nk;exact ue (i a (gp)) (i z (gp)) s l k;simp at f;exact f▸k
 refine⟨?_,?_⟩;rw[px];rw[pairwise_append,pairwise_cons];refine⟨j,⟨λb d=>s7 (h.le b d),q⟩,λa c b d=>?_⟩;obtain rfl|d:=BD.1 d;exact o a c;exact p a c b d;exact h.eq▸perm_middle.trans ((perm_append_singleton t (A++B)).symm)
def Atn {P t b q σ0 d g n lo x xs f K}(z:P0 P t=some (3,b,q))(l:Z q=3)(F:Z f=3)(D:f.all Abs.flat)(B:(n+1)*b<=140737488355328)(A:n+1<=1099511627776)
  (E:lo<=d.B) (a1:σ0.B<=lo) (m:W σ0 d) (N:PS lo d x n xs) (h:∀o a σ',PS lo σ' (Abs.gx o (n+1) a) (n+1) (xs++f)->d.B<=σ'.B->(∀p,p<d.B->(∀c,x≠Abs.gx p n c)->σ'.C p=d.C p/\o≠p)->W σ0 σ'->K (Abs.gx o (n+1) a) σ'):Jx P t t x (sl g 1 f) d K:=by apply WR (xs:=xs) z L l L D L B A;obtain h|⟨o,a,R,y,G,I,M,-,-⟩:=N;exact .inl h;exact .inr ⟨o,a,R,y,G,I,M⟩;rintro o a C ⟨a2,k,e2,rfl⟩ j i;obtain⟨rfl,-,-⟩|⟨U,Q,rfl,y,G,I,M,S,T⟩:=N;simp at k;simp at k;obtain⟨rfl,rfl⟩:=k;refine h _ _ _ (.inr ⟨_,_,rfl,L,e2,Ak▸j,Ak▸i,S,T⟩) (AU _) (λp v a0=>?_) (m.put L _);have s:p≠U:=λe=>a0 Q (gp);exact⟨Dz s,λe=>s e.symm⟩;intro a C j u i;exact h _ _ _ (.inr ⟨_,_,rfl,L,u,Ao▸j,Ao▸i,E,AM⟩) AM (λp v _=>⟨Ah L,L⟩) (m.new _)
def PS.tup {lo a o b n i Lqx t}(h:PS lo a (Abs.gx o n b) n (Fg Lqx))(f:T3 Lqx)(m:n=Z Lqx)(c:Lqx[i]?=some t):∃q,(a.C o).drop (i*3)=As t++q:=by
 obtain⟨p,d,e,-,-,-,-,k⟩:=h.gx (ny ((BA.1 c).1));simp at e;obtain⟨rfl,rfl⟩:=e;obtain⟨-,q,j⟩:=Kw f c;have g:=J4 f;have l:=(BA.1 c).1;refine⟨q++(a.C o).drop (n*3),?_⟩
 conv=>lhs;rw[<-KD (n*3) (a.C o),k]
 rw[NG (gp),j,CR]
def PS.len {lo b o a n j}(h:PS lo b (Abs.gx o n a) n j)(f:0<n):Z (b.C o)=a*3/\n<=a/\lo<=o/\o<b.B:=by obtain⟨l,c,e,d,i,k,g,-⟩:=h.gx f;grind
def Abv (l G)(h3:T3 l)(hl:Z l<=5000)(v):ni 86 [sl G (Z l) (Fg l)] v λad σ'=>∃id Lqx,ad=sl id (Z Lqx) (Fg Lqx)/\Lqx.Perm l/\px Lqx/\W v σ':=by
 have cn:=J4 h3;refine wl func86 ?_;refine X ?_
 refine Ae (λm s σ'=>∃(i:Nat) (a0:AV) (Lqx:List Ck),m=Z l-i/\i<=Z l/\s 3=a0/\s 8=sl G (Z l) (Fg l)/\s 9=Y (Z l)/\s 10=Y i/\W v σ'/\PS v.B σ' a0 (Z Lqx) (Fg Lqx)/\Z Lqx<=5000/\V (Lqx.Perm (l.take i)/\px Lqx)) (Z l)
  ⟨0,H,[],L,L,AG,by simp[upd,AL],AG,AG,Xs,.inl ⟨rfl,rfl,rfl⟩,nk,nk,Pairwise.nil⟩ ?_
 rintro m s σ' ⟨i,a0,Lqx,rfl,hi,az,h8,h9,a8,f,E,ct,P⟩;have bc:=f.B;by_cases bv:i<Z l
 ·obtain⟨t,ak⟩:=gq bv;obtain⟨I,ad,hd⟩:=Kw h3 ak;have cj:V (l.take (i+1)=l.take i++[t]):=by rw[V,AT,ak,BN]
  have a7:T3 Lqx:=λx M=>h3 x (JI (P.o.1.subset M));have b9:Z Lqx=i:=by have:=P.o.1.length_eq;rw[CN,ER hi]at this;exact this
  have b8:Z Lqx<=i:=L;clear ak b9;have f1:=Io I;have f2:=Ow I;have f3:=Jm I;have f4:=Qj I;have f5:=Fo t;have f6:=eM I;have b0:=E.flat;refine nh ?_;intro yb ya;have bm:∀c,a0≠gx σ'.B (Z Lqx) c:=λc e=>by
   obtain⟨e2,-,-⟩|⟨a4,ai,e2,-,-,-,-,-,h7⟩:=E
   ·rw[e2]at e;simp at e
   rw[e2]at e;simp at e;omega
  refine Atn (lo:=v.B) (σ0:=v) (by exact G6) (by rfl) f1 f5 L L (by simp only[Az,Ac,Aa];omega) L (((f.new _).put f.B _).lay 1) (E.keep ((((W.refl _).new _).put (AU _) _).lay 1)) ?_;intro g D ao a6 bf au aa;simp only[Az,Ac,Aa]at bf;let⟨z,a5⟩:=au σ'.B (by simp only[Az,Ac,Aa];omega) bm;rw[H6,Ak]at z;rw[<-Q9]at a6;clear au bm E b0;refine X ?_
  refine Ae (λm s d=>∃(A B:List Ck),m=Z A/\s 3=gx g (Z Lqx+1) D/\s 5=ptr σ'.B 0/\s 6=Y (Z A)/\s 8=sl G (Z l) (Fg l)/\s 9=Y (Z l)/\s 10=Y i/\W v d/\σ'.B<d.B/\d.C σ'.B=As t/\PS v.B d (gx g (Z Lqx+1) D) (Z Lqx+1) (Fg (A++t::B))/\V (B_ Lqx t A B)) (Z Lqx)
   ⟨Lqx,[],rfl,AI,AI,AG,AI,AI,AI,aa,L,z,a6,nk,nk⟩ ?_
  clear az h8 h9 a8 a6 z aa f bc bf;rintro m s d ⟨A,B,rfl,az,h5,K,h8,h9,a8,f,bu,z,E,p⟩;have bc:=f.B;have ce:Z A+Z B=Z Lqx:=by have:=congrArg length p.o.eq;simpa using this
  have F:Z (A++t::B)=Z Lqx+1:=by simp;omega
  have S:T3 (A++t::B):=λx M=>by
   obtain h|h:=AW.1 M
   ·exact a7 x (by rw[<-p.o.eq];simp[h])
   obtain rfl|h:=BD.1 h
   ·exact I
   exact a7 x (by rw[<-p.o.eq];simp[h])
  let⟨ab,b4,ae,an⟩:=E.len L;have U:V ((∀a2,A.getLast?=some a2->nz t a2=false)->(A++t::B).Perm (l.take (i+1))/\px (A++t::B)):=λhA=>by
   let⟨r1,r2⟩:=p.o.done P.o.2 a7 I hA;refine⟨?_,r1⟩;rw[cj.o];exact r2.trans (P.o.1.append_right [t])
  obtain rfl|⟨a,u,bn⟩:=eq_nil_or_concat A
  ·have T:V (([]++t::B).Perm (l.take (i+1))/\px ([]++t::B)):=U.o nk;have b6:PS v.B d (gx g (Z Lqx+1) D) (Z ([]++t::B)) (Fg ([]++t::B)):=by rw[F];exact E
   have cu:s 6=Y 0:=K;have ci:decide ((0:Int)<0)=false:=rfl;have ch:decide ((0:Int)>0)=false:=rfl;clear U K;refine X ?_;refine A2 (Q:=λe q a1=>e= .normal/\q 34=my false/\q 3=gx g (Z Lqx+1) D/\q 5=ptr σ'.B 0/\q 8=sl G (Z l) (Fg l)/\q 9=Y (Z l)/\q 10=Y i/\a1=d) ?_ ?_
   ·refine bT [] [0,1,2,3,4,5,6,7,8,9,10,11] 2 (nv 14 4095) ?_;refine rl 12 ?_;refine vk [13] ?_;refine⟨rfl,?_⟩;simp[upd, *]
   rintro e q C ⟨rfl,y,g3,g5,g8,g9,am,rfl⟩;refine De y ?_;refine X ?_;exact⟨Z l-(i+1),L,i+1,gx g (Z Lqx+1) D,[]++t::B,qk b6 T⟩
  rw[concat_eq_append]at bn;subst bn;rw[show Z (a++[u])=Z a+1 by simp]at K ce;have bg:(a++[u]++t::B)[Z a]?=some u:=nk;have av:(a++[u]++t::B)[Z a+1]?=some t:=by rw[JY nk];simp
  let⟨r1,bi⟩:=E.tup S F.symm bg;let⟨r2,bh⟩:=E.tup S F.symm av;have o:=S u nk;have b7:=λv=>Afp t u I o v;have bb:V (nz t u=false->(a++[u]++t::B).Perm (l.take (i+1))/\px (a++[u]++t::B)):=λh=>U.o (λa2 ha=>by simp at ha;subst ha;exact h)
  have ba:V (nz t u->B_ Lqx t a (u::B)):=λh=>⟨by rw[<-p.o.eq];simp,λah b=>by
   obtain rfl|b:=BD.1 b
   ·exact h
   exact p.o.le ah b⟩
  have ay:V (((a++[u]++t::B).set (Z a+1) u).set (Z a) t=a++t::u::B):=by
   rw[V,set_append_right _ _ nk];simp
  have be:=g_ (l:=a++[u]++t::B) (i:=Z a+1) (t:=u) S o (by rw[F];omega);have bp:T3 ((a++[u]++t::B).set (Z a+1) u):=λx M=>by
   obtain h|rfl:=NI M
   ·exact S x h
   exact o
  have a3:=g_ (l:=(a++[u]++t::B).set (Z a+1) u) (i:=Z a) (t:=t) bp I (by rw[LC,F];omega);rw[ay.o]at a3;have bq:V (∀C,PS v.B C (gx g (Z Lqx+1) D) (Z Lqx+1) (Fg (a++[u]++t::B))->PS v.B ((C.put g (lsp (C.C g) ((Z a+1)*3) (As u))).put g (lsp (lsp (C.C g) ((Z a+1)*3) (As u)) (Z a*3) (As t))) (gx g (Z Lqx+1) D) (Z Lqx+1) (Fg (a++t::u::B))):=λC h=>by
   have g1:=h.set (i:=Z a+1) (c:=As u) L (Io o);rw[be]at g1;have g2:=g1.set (i:=Z a) (c:=As t) L (Io I);rw[a3,Ak]at g2;exact g2
  have k1:=Io o;have k2:=Ow o;have k3:=Jm o;have k5:=Fo u;have k6:=eM o;have ax:PS v.B d (gx g (Z Lqx+1) D) (Z (a++[u]++t::B)) (Fg (a++[u]++t::B)):=by rw[F];exact E
  have br:((Z a:Int)+1)-1=(Z a:Int):=L;have cf:s 6=Y ((Z a:Int)+1):=by rw[K];simp
  clear U p bg av be a3 bp ay K;generalize bo:Z a=j at*
  have ck:V (Z a=j):=bo;clear bo;have ci:decide ((0:Int)<(j:Int)+1):=by rw[CV];omega
  have ch:decide ((j:Int)+1>0):=by rw[CV];omega
  have cm:((j:Int)+1).toNat=j+1:=L;refine X ?_;refine A2 (Q:=λe q a1=>e= .normal/\q 34=my (nz t u)/\q 3=gx g (Z Lqx+1) D/\q 5=ptr σ'.B 0/\q 6=Y ((j:Int)+1)/\q 8=sl G (Z l) (Fg l)/\q 9=Y (Z l)/\q 10=Y i/\W d a1) ?_ ?_
  ·refine bT [] [0,1,2,3,4,5,6,7,8,9,10,11] 2 (nv 14 4095) ?_;refine tn 12 b7 ?_;rintro yb ya _ n ⟨rfl,R⟩;refine ux ?_;refine vk [13] ?_;refine⟨rfl,?_⟩;simp[upd, *]
  rintro e q n ⟨rfl,y,g3,g5,g6,g8,g9,am,R⟩;have b3:=R.B;have ap:=R.C;have N:n.C g=d.C g:=ap _ an;have b2:(n.C g).drop (j*3)=As u++r1:=by rw[N];exact bi
  have b1:(n.C g).drop ((j+1)*3)=As t++r2:=by rw[N];exact bh
  have af:Z (n.C g)=D*3:=by rw[N];exact ab
  have ac:n.C σ'.B=As t:=by rw[ap _ bu];exact z
  have cd:=f.trans R;have a9:V _:=bq.o n (E.keep R);have aw:=ax.keep R;clear az h5 cf h8 h9 a8 bi bh ab z N ap E ax bq;cases b:nz t u
  ·have T:V _:=bb.o b;rw[b]at y;refine De y ?_;clear b bb ba;refine X ?_;refine⟨Z l-(i+1),L,i+1,gx g (Z Lqx+1) D,a++[u]++t::B,?_⟩
   ((repeat' refine Zi ?_ ?_)<;>first|exact Xq|exact aw|exact T|exact (by rw[F];omega)|exact Xs)
  have T:V _:=ba.o b;rw[b]at y;refine Cj y ?_;clear b bb ba;have cq:j+1<Z Lqx+1:=L;have cp:∀c,(n.put g c).C σ'.B=As t:=λc=>by rw[Dz (Ne.symm a5)];exact ac
  have bw:Z (lsp (n.C g) ((j+1)*3) (As u))=D*3:=by rw[L0];exact af
  have cr:j*3+3<=D*3:=L;refine X ?_;refine⟨Z a,nk,a,u::B,?_⟩
  ((repeat' refine Zi ?_ ?_)<;>first|exact Xq|exact a9|exact T|exact ((cd.put ae _).put ae _)|exact (by rw[ck.o])|exact (by rw[Dz (Ne.symm a5),Dz (Ne.symm a5)];exact ac)|exact Xs)
 obtain rfl:i=Z l:=L;let⟨e1,e2⟩:=P.o;rw[AS]at e1;obtain⟨rfl,hn,-⟩|⟨a4,ai,rfl,g2,g3,g4,g5,g6,g7⟩:=E
 ·have:Lqx=[]:=GG hn;subst this
  refine X ?_;exact⟨_,rfl,1,[],rfl,e1,e2⟩
 refine yf (t:=3) (o:=a4) (k:=Z Lqx*3) g7 az (by rw[g4];omega) ?_;rw[g5];refine X ?_;exact⟨_,rfl,0,Lqx,rfl,e1,e2,f.put g6 _⟩
def vn:∀{Lqx d:List Ck},T3 Lqx->Lqx.Perm d->px Lqx->px d->Lqx=d
 |[],d,_,c,_,_=>jx
 |a::Lqx,[],_,c,_,_=>jx
 |a::Lqx,b::d,l,c,f,g=>by
  rw[px]at f g;rw[pairwise_cons]at f g;have m:T3 (b::d):=λx i=>l x (c.symm.subset i);have n:a=b:=by
   have k:a∈b::d:=c.subset nk;have j:b∈a::Lqx:=c.symm.subset nk;obtain e|k:=BD.1 k;exact e;obtain e|j:=BD.1 j;exact e.symm;exact f_ (l a nk) (m b nk) (g.1 a k) (f.1 b j)
  subst n;rw[vn (λx i=>l x (IM _ i)) (perm_cons a|>.1 c) f.2 g.2]
def ς (t:Ck):List Ck->List Ck
 |[]=>[t]
 |u::l=>if nz t u=true then t::u::l else u::ς t l
def pg:List Ck->List Ck
 |[]=>[]
 |t::l=>ς t (pg l)
def uf (t):∀l,(ς t l).Perm (t::l)
 |[]=>Perm.refl _
 |u::l=>by
  rw[ς];split
  ·exact Perm.refl _
  exact ((uf t l).cons u).trans (Perm.swap _ _ _)
def si:∀l,(pg l).Perm l
 |[]=>Perm.refl _
 |t::l=>(uf t _).trans ((si l).cons t)
def vo {t}(d:Z t=3):∀{l:List Ck},T3 l->px l->px (ς t l)
 |[],_,_=>by simp[ς,px]
 |u::l,c,h=>by rw[px]at h;rw[pairwise_cons]at h;have e:=c u nk;rw[ς];split;rename_i b;rw[px];rw[pairwise_cons,pairwise_cons];refine⟨λx a=>?_,h.1,h.2⟩;obtain rfl|a:=BD.1 a;exact s7 b;exact ue d e (c x (IM _ a)) (s7 b) (h.1 x a);rename_i b;have:=vo d (λx a=>c x (IM _ a)) h.2;rw[px]at this⊢;rw[pairwise_cons];refine⟨λx a=>?_,this⟩;obtain rfl|a:=BD.1 ((uf t l).subset a);simpa using b;exact h.1 x a
def ug:∀{l:List Ck},T3 l->px (pg l)
 |[],_=>Pairwise.nil
 |t::l,b=>vo (b t nk) (λx a=>b x (IM _ ((si l).subset a))) (ug (λx a=>b x (IM _ a)))
def uh {Lqx l}(b:T3 l)(a:Lqx.Perm l)(c:px Lqx):Lqx=pg l:=
 vn (λx d=>b x (a.subset d)) (a.trans (si l).symm) c (ug b)
def pn (a:Tx)(t:Ck):Tx:=a++[40]++ri t++[41,46]
def qq (N:ol)(rk:Nat->List Ck)(acc:Tx×List Int)(x:AB):Tx×List Int:=
 if x.o/\((N.idxOf x.h.B:Nat):Int)∉acc.2 then (acc.1++(rk (N.idxOf x.h.B)).flatMap (pn x.h.B),acc.2++[((N.idxOf x.h.B:Nat):Int)])else acc
def qd (N:ol)(rk:Nat->List Ck)(l:n0):Tx×List Int:=l.foldl (qq N rk) ([],[])
def sb (N:ol)(rk:Nat->List Ck)(l:n0):Tx:=(qd N rk l).1
def Adv {N rk}{l:n0}{i x}(h:l[i]?=some x):qd N rk (l.take (i+1))=qq N rk (qd N rk (l.take i)) x:=by simp_all[qd,AT,BN]
def Al6 {t}(o:Z t=3)(m:∀y∈t,-1<=y/\y<=9999):Z (ri t)<=60:=by
 have g:Z (qw t)<=3:=by
  rw[qw];have:=(takeWhile_prefix (λx=>decide (x≠ -1)) (l:=t)).length_le;omega
 have d:∀y∈qw t,0<=y/\y<=9999:=λy i=>by
  have e:=(takeWhile_subset _ i:y∈t);have f:∀(l:List Int),y∈l.takeWhile (λx=>decide (x≠ -1))->y≠ -1:=λl=>by
   induction l with
   |nil=>intro h;cases h
   |cons z l j=>
    intro h;rw[takeWhile_cons]at h;split at h;rename_i k;obtain rfl|h:=BD.1 h;simpa using k;exact j h;cases h
  have n:=f t i;grind
 rw[ri];generalize qw t=l at g d
 match l,g with
 |[],_=>simp[pe]
 |[a],_=>have:=r8 a (d a nk).1 (d a nk).2;simp[pe];omega
 |[a,b],_=>
  have e:=r8 a (d a nk).1 (d a nk).2;have f:=r8 b (d b nk).1 (d b nk).2;simp[pe];omega
 |[a,b,c],_=>
  have e:=r8 a (d a nk).1 (d a nk).2;have f:=r8 b (d b nk).1 (d b nk).2;have n:=r8 c (d c nk).1 (d c nk).2;simp[pe];omega
def x9 (N l cs A g)(hB:Bk N l cs)(cy:∀x∈l,Z x.h.B<=600)(u ot M d b)(dm:Z N<=Z M)(bp:∀x∈M,∀t∈x.2,∀y∈t,-1<=y/\y<=9999)(c)(E:BL c u ot M d b):
  ni 52 [ptr u 0,Cq N A l g cs] c λan σ'=>an=O (sb N (λk=>pg (Ba M (k:Int))) l)/\W c σ':=by
 have dn:=r.length Ew hB.el;have cq:=hB.len;have du:=hB.nm;have hE:=hB.el;have lo:=E.lo;have lt:=E.lt;have ai:=E.ob;have ak:=E.oc;have cl:=E.pl;have dk:=Ji M;have dq:({data:=#[40]}:ByteArray)=bs [40]:=rfl;have dp:({data:=#[41,46]}:ByteArray)=bs [41,46]:=rfl;have dr:({data:=#[]}:ByteArray)=bs []:=rfl;generalize b1:(λk:Nat=>pg (Ba M (k:Int)))=rk;have db:V (∀k:Nat,rk k=pg (Ba M (k:Int))):=λk=>by rw[<-b1]
 clear b1;unfold Cq;refine wl func52 ?_;refine mu ?_
 refine Ae (λam s σ'=>∃(i T:Nat),am=Z l-i/\i<=Z l/\s 0=ptr u 0/\s 3=ptr c.B 0/\s 5=O (qd N rk (l.take i)).1/\s 6=sl T (Z (qd N rk (l.take i)).2) (As (qd N rk (l.take i)).2)/\s 14=sl g (Z l) cs/\s 15=Y (Z l)/\s 16=Y i/\W c σ'/\c.B<σ'.B/\σ'.C c.B=[lw A N,sl g (Z l) cs]/\J c σ' T (Z (qd N rk (l.take i)).2)/\Z (qd N rk (l.take i)).2<=i/\Z (qd N rk (l.take i)).1<=i*4000000) (Z l)
  ⟨0,1,L,L,by simp[upd,AL],AG,by simp[upd,qd];try rfl,by simp[upd,qd,As],AG,AG,AG,Xs,AM,by rw[Ao],by simp[qd,J.nil],by simp[qd],by simp[qd]⟩ ?_
 rintro am s σ' ⟨i,T,rfl,hi,h0,h3,h5,h6,bw,bv,bu,p,b6,z,K,bn,bc⟩;have bh:=p.B;by_cases b7:i<Z l
 ·obtain⟨x,G⟩:=gq b7;obtain⟨hm,ih,id,bb,an,hb,hd⟩:=Ih hE G;have b0:=(AY G);have q:V _:=Adv (N:=N) (rk:=rk) G;generalize cx:qd N rk (l.take i)=b4 at*
  clear G cx;obtain⟨T1,T2⟩:=b4;simp only at h5 h6 K bn bc;cases n:x.o
  ·rw[n]at hd;have HN:V (qd N rk (l.take (i+1))=(T1,T2)):=by rw[V,q.o,qq,if_neg (by simp[n])]
   clear n q;refine mu ?_;refine⟨Z l-(i+1),L,i+1,T,?_⟩;rw[HN.o];refine⟨rfl,L,rfl,rfl,nk,(p.new _).put p.B _,L,J.put (J.new K _) _ _,BI bn (Nat.le_succ i),?_⟩;exact BI bc (GW _ (Nat.le_succ i))
  rw[n]at hd;have ct:=idxOf_lt_length_iff.2 hm;have R:=λc=>H7 ((N.idxOf x.h.B:Nat):Int) T2 T L c;have dh:=B9 T2;by_cases P:((N.idxOf x.h.B:Nat):Int)∈T2
  ·have HN:V (qd N rk (l.take (i+1))=(T1,T2)):=by rw[V,q.o,qq,if_neg (by simp[P])]
   rw[if_pos P]at R;have cp:(((T2.idxOf ((N.idxOf x.h.B:Nat):Int):Nat):Int) != -1)=true:=nk;generalize T2.idxOf ((N.idxOf x.h.B:Nat):Int)=cu at R cp;clear n q P
   repeat' first|refine Z1 ?_|refine Z8 λyb ya=>?_|refine Z4 ?_;clear ya yb|refine Z2 ?_ ?_<;>intro h af<;>try exact Xp|refine Z6 ?_;intro a bt ab aa a4 ad ae ac|refine Z5 ?_;refine Xi (R _) ?_;rintro _ _ ⟨rfl,F⟩;(have bf:=((p.new _).put p.B _).trans F;have aj:=F.B;have v:=F.C;simp only[Ac,Aa]at aj v;have br:=J.keep (J.put (J.new K _) _ _) F)|refine Z7 ?_|exact Zt|apply ya.o;clear ya yb
   rename_i ap;have ba:ap.C c.B=[lw A N,sl g (Z l) cs]:=by rw[v _ L,Aj L,Ah L,z]
   refine⟨Z l-(i+1),L,i+1,T,?_⟩;rw[HN.o];refine⟨rfl,L,rfl,rfl,nk,L,br,BI bn (Nat.le_succ i),?_⟩;exact BI bc (GW _ (Nat.le_succ i))
  rw[if_neg P]at R;have a8:M[N.idxOf x.h.B]?=some (M[N.idxOf x.h.B]'L):=AK L;generalize M[N.idxOf x.h.B]'L=y at a8;have I:=AY a8;have dl:=Jj a8;have b9:=λc=>Abv y.2 y.1 (E.t3 y I) (E.ln y I) c;have HN:V (∀e,e.Perm y.2->px e->qd N rk (l.take (i+1))=(T1++e.flatMap (pn x.h.B),T2++[((N.idxOf x.h.B:Nat):Int)])):=λe h1 h2=>by
   rw[q.o,qq,if_pos ⟨n,P⟩];have:rk (N.idxOf x.h.B)=e:=by rw[db.o,show Ba M ((N.idxOf x.h.B:Nat):Int)=y.2 by simp[Ba,a8],uh (E.t3 y I) h1 h2]
   rw[this]
  have bd:(N.map O).drop (N.idxOf x.h.B)=O x.h.B::(N.map O).drop (N.idxOf x.h.B+1):=by
   rw[ET (nn ct)];simp
  have dj:=cy x b0;have ck:=E.ln y I;have cj:=bp y I;have cm:=E.t3 y I;generalize (N.map O).drop (N.idxOf x.h.B+1)=rest at bd;generalize cn:N.idxOf x.h.B=o at*
  generalize x.h.B=C at*
  clear n q P cn a8;have a5:σ'.C u=[fx ot 0 (Z M),Y d,Y b]:=by rw[p.C _ lo,ai]
  have az:σ'.C ot=Gp M:=by rw[p.C _ lt,ak]
  repeat' first|refine Z1 ?_|refine Z8 λyb ya=>?_|refine Z4 ?_;clear ya yb|refine Z2 ?_ ?_<;>intro h af<;>try exact Xp|refine Z6 ?_;intro a bt ab aa a4 ad ae ac|(refine Z5 ?_;first|(refine Xi (R _) ?_;rintro _ _ ⟨rfl,F⟩;(have bf:=((p.new _).put p.B _).trans F;have aj:=F.B;have v:=F.C;simp only[Ac,Aa]at aj v;have br:=J.keep (J.put (J.new K _) _ _) F;have a6:=bf.C u lo;rw[ai]at a6;have a3:=bf.C ot lt;rw[ak]at a3;have ba:=v c.B L;rw[Aj L,Ah L,z]at ba))|(refine Xi (b9 _) ?_;rintro _ _ ⟨bj,e,rfl,be,cz,a9⟩;(have cg:=aa.trans a9;have bg:=a9.B;have ay:=a9.C;have cd:=J.keep ab a9;have de:V _:=HN.o e be cz)))|refine Z7 ?_|exact Zt|apply ya.o;clear ya yb
  rename_i ap _ c1;have bz:c1.C c.B=[lw A N,sl g (Z l) cs]:=by rw[ay _ L,a4,ba]
  have dw:Z e<=5000:=by rw[be.length_eq];exact ck
  have cf:T3 e:=λa1 hu=>cm a1 (be.subset hu);have c6:∀a1∈e,∀ao∈a1,-1<=ao/\ao<=9999:=λa1 hu=>cj a1 (be.subset hu);have di:=J4 cf
  refine wn [0,3,6,9,14,15,16,43,44] 45 (Z e) (λj s f=>∃m:Tx,s 5=O m/\W c f/\c.B<f.B/\f.C c.B=[lw A N,sl g (Z l) cs]/\J c f a (Z T2+1)/\Z m<=i*4000000+j*700/\V (m=T1++(e.take j).flatMap (pn C))) ⟨T1,AI,cg,L,bz,cd,BI bc (Nat.le_add_right _ _),by simp[V]⟩ ?_
  clear h0 h3 h5 h6 bw bv bu p b6 z K bh a5 az bf aj v br a6 a3 ba ab aa a4 ad ae ac a9 cg bg ay cd bz R b9 F;rintro j s f _ ⟨h0,h3,h6,h9,bw,bv,bu,c9,c8⟩ c7 ⟨m,h5,p,b6,z,K,cw,hW⟩;have bh:=p.B;by_cases a7:j<Z e
  ·have G:=AK a7;obtain⟨S,r5,cv⟩:=Kw cf G;have bi:=c6 _ (AR a7);generalize e[j]=t at cv G S bi;have ci:V (∀W',W'=m++pn C t->W'=T1++(e.take (j+1)).flatMap (pn C)):=λW' a2=>by
    rw[a2,hW.o,AT,G,BN];simp
   have bq:=λc=>xz t S bi c;have bm:=Al6 S bi;clear G hW;have f1:=Io S;have f2:=Ow S;have f3:=Jm S;have f4:=Qj S;have f5:=Fo t;have f6:=eM S;generalize b2:ri t=px at bq bm;have dc:V (pn C t=C++[40]++px++[41,46]):=by rw[V,pn,b2]
   clear b2;refine mu ?_;have ch:W c ((f.new [Y 0,Y 0,Y 0]).put f.B (As t)):=(p.new _).put p.B _;generalize a0:(f.new [Y 0,Y 0,Y 0]).put f.B (As t)=D at*
   have nb:D.B=f.B+1:=by rw[<-a0];rfl
   have bl:D.C f.B=As t:=by rw[<-a0,Ak]
   have o3:D.C c.B=[lw A N,sl g (Z l) cs]:=by rw[<-a0,Aj L,Ah L,z]
   have ce:J c D a (Z T2+1):=by rw[<-a0];exact J.put (J.new K _) _ _
   clear a0;refine A2 (Q:=λa2 B bx=>a2= .normal/\B 0=ptr u 0/\B 3=ptr c.B 0/\B 5=O (m++(C++[40]++px++[41,46]))/\B 6=sl a (Z T2+1) (As T2++[Y o])/\B 9=Y o/\B 14=sl g (Z l) cs/\B 15=Y (Z l)/\B 16=Y i/\B 43=sl bj (Z e) (Fg e)/\B 44=Y (Z e)/\B 45=Y j/\W D bx) ?_ ?_
   ·refine Ar Ag (λ_=>True) [] [0,1,2,3,4,5,6,7] 5 (nv 13 255) AH (λ_ _ _ h=>by cases h.1) ?_;intro yb ya;refine Z7 ?_;refine ya.o _ ?_;clear ya yb;refine Ai (i:=8) AH ?_;refine Am ?_;intro yb ya;refine Z7 ?_;refine AF.mono (bq _) ?_;rintro _ b3 ⟨rfl,U⟩;refine Z7 ?_;refine ya.o _ _ ⟨Al U,?_⟩;clear ya yb;refine Df [9,10,11,12] AH AH (λ_ _ _ h=>by cases h.1) U.B (λbk ho _=>U.ver bk ho) ?_;intro yb ya;refine Z7 ?_;refine ya.o _ _ ⟨rfl,?_⟩;simp[upd, *]
   rintro a2 B b3 ⟨rfl,g0,g3,g5,g6,g9,c2,c3,c4,c5,ca,cb,U⟩;have co:=U.B;have o5:b3.C c.B=[lw A N,sl g (Z l) cs]:=by rw[U.C _ L,o3]
   have dx:=ch.trans U;have dt:=J.keep ce U;have da:V (m++(C++[40]++px++[41,46])=T1++(e.take (j+1)).flatMap (pn C)):=ci.o _ (by rw[dc.o]);have df:Z (m++(C++[40]++px++[41,46]))<=i*4000000+(j+1)*700:=by simp;omega
   clear h0 h3 h5 h6 h9 bw bv bu c9 c8 c7 ch o3 bl ce z K p bh ci bq;generalize m++(C++[40]++px++[41,46])=W2 at*
   refine mu ?_;refine⟨W2,?_⟩;exact m9 da
  have cr:j=Z e:=L;subst cr;have b8:=hW.o;rw[AS]at b8;refine mu ?_;refine⟨Z l-(i+1),L,i+1,a,?_⟩;rw[de.o];have b5:Z (T1++e.flatMap (pn C))<=(i+1)*4000000:=by
   rw[<-b8,If];exact BI cw (JJ L _)
  have bo:Z (T2++[(o:Int)])=Z T2+1:=nk;refine⟨rfl,L,rfl,?_,nk,?_,?_,b5⟩
  ·show _=X2 a (T2++[(o:Int)]);unfold X2;rw[bo,Abz]
  ·show J c f a (Z (T2++[(o:Int)]));rw[bo];exact K
  show Z (T2++[(o:Int)])<=i+1;rw[bo];omega
 obtain rfl:i=Z l:=L;rw[AS]at h5;refine mu ?_
 exact⟨_,rfl,rfl⟩
def ui {p n}(h:¬0<=Bn p n):∀i,i<n->p i=false:=by grind[Bn]
structure H_ (l:n0):Prop where
 odd:∀i,i<Z l->Gn l i=false
 saf:∀x∈l,Db x=true
 kn:∀i,i<Z l->Hd l i=false
def h_ {l}(h:(Co l).1=0):H_ l:=by rw[Co]at h;split at h;simp at h;rename_i b;split at h;simp at h;rename_i c;split at h;simp at h;rename_i e;refine⟨ui b,λx d=>?_,ui e⟩;let⟨i,a⟩:=CL d;have:=ui c i (BA.1 a).1;rw[Dp]at this;rw[a]at this;simpa using this
def vp {l}(h:∀i,i<Z l->Gn l i=false)(n:∀x∈l,∀a∈Af x,0<Z a.A):Se (l.flatMap Af):=by
 have g:∀i,i<=Z l->Se (Ha l i):=by
  intro i;induction i with
  |zero=>intro _;simp[Ha,XC]
  |succ i m=>
   intro p;have c:=AK (show i<Z l by omega);generalize l[i]=x at c;rw[tr c];have b:∀j,j<=Z (Af x)->Se (Ct l x i j):=by
    intro j;induction j with
    |zero=>intro _;simpa[Ct]using m L
    |succ j o=>
     intro q;have f:=AK (show j<Z (Af x) by omega);have k:=AR (show j<Z (Af x) by omega);generalize (Af x)[j]=a at f k;rw[I3 f];apply eY (o L) (n x (AY c) a k);have d:=h i L;rw[Gn]at d;rw[c]at d;have e:=EV.1 d j (gp);rw[Mh]at e;rw[f]at e;simpa using e
   exact b _ (AU _)
 have:=g (Z l) (AU _);simpa[Ha]using this
def Afw {S}(h:Se S){a b}(c:a∈S)(f:b∈S):clash a b=false:=by rw[clash];by_cases e:b.B=a.B;have g:=(h a c).2;have d:=(h b f).2;rw[e]at d;simp[e];omega;simp[e]
def Apo {S}(h:Se S):∀T,T<+:S->∀a∈S,T.any (clash a)=false:=λT c a d=>by rw[EV];intro b e;rw[Afw h d (c.subset e)];simp
def uj:∀{F A:oq},Se A->(∀a∈F,0<Z a.A)->po A F=false->Se (A++F)
 |[],A,h,_,_=>nn h
 |a::F,A,h,d,c=>by rw[po]at c;rw[Bool.or_eq_false_iff]at c;have:=uj (F:=F) (A:=A++[a]) (eY h (d a nk) c.1) (λb e=>d b (ns e)) c.2;grind
def ζ (N:ol)(S:oq)(k:Nat):Nat:=Ju S (N.getD k [])
def s8 {N:ol}{p}(h:p∈N):N.getD (N.idxOf p) []=p:=gp
def I_ {N S}(b:Se S){a}(d:a∈S)(c:a.B∈N):Z a.A=ζ N S (N.idxOf a.B):=by rw[ζ];rw[s8 c];exact (b a d).2
def i_ {w}(f:VT w)(d:DT w):((Aq w).1->0<=(Aq w).2/\(Aq w).2<26)/\((Aq w).1=false->∃n:Nat,(Aq w).2=(n:Int)/\n<1026):=by
 obtain⟨b,rfl,a⟩|⟨i,g⟩:=f;rw[Et a];rw[Bs]at a;simp at a;exact⟨(λ_=>gp),(λh=>gp)⟩;have c:Ab w=false:=by
  cases w with
  |nil=>rfl
  |cons b l=>
   have:=g b nk;rw[Ab,A6]at*
   rw[Bs];simp at this⊢;omega
 have e:=R3 (.inr ⟨i,g⟩:VT w);rw[e,c];refine⟨(λh=>gp),λ_=>?_⟩;obtain h|⟨-,-,j,k⟩:=d;rw[c]at h;cases h;exact⟨(Aq w).2.toNat,L,L⟩
def vr {N b}(h:N<+:b){x}(c:x.h.B∈N/\∀a∈x.A,a.B∈N):Ce b x=Ce N x:=by
 unfold Ce;congr 1;unfold Eg;rw[gP h c.1];apply CG;intro a d;unfold E6 Eg;rw[gP h (c.2 a d)]
def Au9 {N S x}(Lqx:Se S)(Jqx:∀a∈Af x,a∈S)(k:x.h.B∈N/\∀a∈x.A,a.B∈N)(F:x.o=false)(C:Dc x)(t:∀a∈Af x,VA a)(P:∀a∈Af x,∀w∈a.A,DT w)(y:Db x)(T:∀a∈x.A,a.nt->a.B≠x.h.B):RW (Z N) (ζ N S) (Ce N x):=by
 have d:∀a,a=x.h\/a∈x.A->a∈Af x:=λa b=>by grind[Af]
 let⟨U,a3,a4,a0⟩:=C.2.2 F;have n:∀l∈(Ce N x).A,∃a∈x.A,l=E6 N a:=λl f=>by obtain⟨a,b,rfl⟩:=AN.1 f;grind
 have q:∀(B:ol) (v:Int),(true,v)∈B.map Aq->∃w∈B,(Aq w).1/\(Aq w).2=v:=λB v h=>gp
 have A:∀a∈Af x,∀w∈a.A,_:=λa b w g=>i_ (t a b w g) (P a b w g);have K:∀p∈N,N.idxOf p<Z N:=λp u=>CS u;refine⟨⟨by simp[Ce,Eg];exact U.2.2.1,⟨_,rfl,K _ k.1⟩,by grind[Ce],λl f=>?_,λl f=>?_⟩,λl f R=>?_,?_,λl f=>?_,λa5 Q e=>?_,λv o=>?_,λl f v o=>?_,λv o=>?_⟩;obtain⟨a,b,rfl⟩:=n l f;simp[E6,Eg];exact (a0 a b).2.2.1;obtain⟨a,b,rfl⟩:=n l f;exact⟨_,rfl,K _ (k.2 a b)⟩;obtain⟨a,b,rfl⟩:=n l f;intro a1;simp only[E6,Eg,Ce]at a1;exact T a b R (E9 (k.2 a b) k.1 L);simp only[Ce,Eg,BV,DK];exact I_ Lqx (Jqx _ (d _ (.inl rfl))) k.1;obtain⟨a,b,rfl⟩:=n l f;simp only[E6,Eg,BV,DK];exact I_ Lqx (Jqx _ (d _ (.inr b))) (k.2 a b);obtain⟨w,g,rfl⟩:=AN.1 Q;exact (A _ (d _ (.inl rfl)) w g).2 e;let⟨w,g,m,e2⟩:=q _ v o;rw[<-e2];exact (A _ (d _ (.inl rfl)) w g).1 m;obtain⟨a,b,rfl⟩:=n l f;let⟨w,g,m,e2⟩:=q _ v o;rw[<-e2];exact (A _ (d _ (.inr b)) w g).1 m;have D:∃a∈Af x,∃w∈a.A,(Aq w).1/\(Aq w).2=v:=by obtain h|⟨l,f,-,h⟩:=o;let⟨w,i,j,s⟩:=q _ v (AO.1 h);exact⟨_,d _ (.inl rfl),w,i,j,s⟩;obtain⟨a,b,rfl⟩:=n l f;let⟨w,i,j,s⟩:=q _ v (AO.1 h);exact⟨a,d _ (.inr b),w,i,j,s⟩
 let⟨a,b,w,I,m,e2⟩:=D;have z:Ma x w:=by rw[Db]at y;simp only[FJ]at y;have i:=EV.1 y a b;rw[zI]at i;simp only[CU,not_exists,not_and]at i;have j:=i w I;rw[bC]at j;rw[<-R3 (t a b w I),m]at j;simpa using j
 rw[Ma]at z;rw[CU]at z;let⟨c,e,G⟩:=z;rw[CU]at G;let⟨a2,M,E⟩:=G;simp only[BM,FJ,DO]at E;refine⟨E6 N c,AN.2 ⟨c,e,rfl⟩,E.1,?_⟩;rw[AO];refine AN.2 ⟨a2,M,?_⟩;rw[E.2,<-m,<-e2]
def tf {T:Tx->Prop}(i:∀s w t,C0 s= .got w t->T w):∀(n:Nat) (s:Tx) (F:oq) (t:Tx),oz n s= .got F t->∀a∈F,∀w∈a.A,T w
 |n,[],F,t,h=>by grind[so]
 |0,b::s,F,t,h=>by cases h
 |n+1,b::s,F,t,h=>by
  rw[sp]at h;cases c:qo (b::s)with
  |bad e=>rw[c]at h;cases h
  |got x j=>
   rw[c]at h;simp only[Rd.bnd]at h;cases d:oz n j with
   |bad e=>rw[d]at h;cases h
   |got l q=>
    rw[d]at h;cases h;intro a f;obtain rfl|f:=BD.1 f;rw[qo]at c;cases g:Ea false (b::s)with
    |bad e=>rw[g]at c;cases c
    |got p m=>
     rw[g]at c;simp only[Rd.bnd]at c;split at c;cases k:A5 46 m with
     |bad e=>rw[k]at c;cases c
     |got u o=>
      rw[k]at c;cases c;exact Om i g
     cases c
    exact tf i n j l t d a f
def Asn {σ0 d σ' g c M M'}(a:W σ0 d)(h:KM g c M M' d σ')(l:σ0.B<=g)(m:σ0.B<=c)(j:∀x∈M,x.1=1\/σ0.D+2<=x.1):W σ0 σ':=
 ⟨BI a.B h.B,λo b=>by rw[h.C o (BZ b a.B) L L];exact a.C o b,λo b=>by rw[h.ver o (BZ b a.B) L L];exact a.ver o b,BI a.D h.D,λk f=>by
  rw[h.top k (BZ f a.D) (λx i=>gp)];exact a.top k f⟩
def Aqc {N b}(h:N<+:b){l}(c:∀x∈l,x.h.B∈N/\∀a∈x.A,a.B∈N)(s):(pz l s).map (Ce b)=(pz l s).map (Ce N):=by apply CG;intro x d;exact vr h (c x (BP.1 d).1)
def ve {N b}(h:N<+:b){l}(c:∀x∈l,x.h.B∈N/\∀a∈x.A,a.B∈N)(B):∀s,yz b l B s=yz N l B s
 |0=>rfl
 |s+1=>by show y9 _ _=y9 _ _;rw[Aqc h c,ve h c B s]
def xa {N a}(h:N<+:a)(rk):∀{l:n0} (acc:Tx×List Int),(∀x∈l,x.h.B∈N)->l.foldl (qq a rk) acc=l.foldl (qq N rk) acc
 |[],acc,_=>rfl
 |x::l,acc,b=>by
  rw[FW,FW];have:qq a rk acc x=qq N rk acc x:=by
   unfold qq;rw[gP h (b x nk)]
  rw[this];exact xa h rk _ (λy c=>b y (ns c))
def sa {N l cs}(h:r (PI N) l cs):∀x∈l,x.h.B∈N/\∀a∈x.A,a.B∈N:=λx f=>by let⟨i,m⟩:=CL f;obtain⟨e,o,id,b,q,g,-⟩:=Ih h m;refine⟨e,λa k=>?_⟩;let⟨j,n⟩:=CL k;obtain⟨c,p,⟨d,-⟩,-⟩:=r.get Eh g n;exact d
def Ψ (l:n0)(F:oq)(n:Int)(x:Tx)(k e:Int):Prop:=
 ∃(N:ol) (M b:MM) (d:Int),(∀y∈l,y.h.B∈N/\∀a∈y.A,a.B∈N)/\(∀a∈F,a.B∈N)/\GY (Z N) (F.map (Eg N)) M/\(∀z∈b,T3 z.2)/\zk N l M n (Z l+1) b d/\
  if n<d then x=[]/\k=0/\e=9 else x=sb N (λj=>pg (Ba b (j:Int))) l/\k=d/\e=0/\∀z∈b,∀u∈z.2,∀y∈u,-1<=y/\y<=9999
def re (t f:Tx)(n:Int)(x:Tx)(k e:Int):Prop:=
 if 600<Z t\/400<Z f then x=[]/\k=0/\e=1
 else if (Av t).1≠0 then x=[]/\k=0/\e=(Av t).1
 else if n<0\/200<n then x=[]/\k=0/\e=6
 else∃l,Cc 16 t= .got l []/\if pd l f≠0 then x=[]/\k=0/\e=pd l f else∃F,oz 400 f= .got F []/\Ψ l F n x k e
structure Ω (N:ol)(l:n0)(cs:oh):Prop where
 bk:Bk N l cs
 nl:Z N<=600
 rt:H_ l
 va:∀x∈l,∀a∈Af x,VA a
 dt:∀x∈l,∀a∈Af x,∀w∈a.A,DT w
 wi:∀x∈l,Dc x
 nn:∀x∈l,Z x.h.B<=600
def Ω.cons {N l cs}(h:Ω N l cs):Se (l.flatMap Af):=vp h.rt.odd h.bk.pos
def Ω.bkr {N i l cs}(h:Ω N l cs)(f:N<+:i){F}(k:Se (l.flatMap Af++F)):ψ N l (Z i) (ζ i (l.flatMap Af++F)):=by have d:=sa h.bk.el;refine⟨f.length_le,d,h.rt.kn,λx b j=>?_⟩;rw[<-vr f (d x b)];refine Au9 k (λa c=>AW.2 (.inl (EX.2 ⟨x,b,c⟩))) ⟨f.subset (d x b).1,λa c=>f.subset ((d x b).2 a c)⟩ j (h.wi x b) (h.va x b) (h.dt x b) (h.rt.saf x b) (λa c g e=>?_);have:=vz h.bk.o h.rt.kn h.bk.len b c g;grind
def As4 {N S}(g:Se S){a}(f:a∈S)(i:a.B∈N)(c:qx a)(d:∀w∈a.A,VT w/\DT w):Sh (ζ N S) (N.idxOf a.B) (C4 (Eg N a)):=by refine⟨(a.A.map Aq).map (·.2),rfl,?_,λx j=>?_⟩;rw[BV,BV];exact I_ g f i;obtain⟨p,e,rfl⟩:=AN.1 j;obtain⟨w,b,rfl⟩:=AN.1 e;apply (i_ (d w b).1 (d w b).2).2;rw[qx,Jz]at c;grind
def Au6 {ar k t}(h:Sh ar k t):∀y∈t,-1<=y/\y<=9999:=λy b=>by
 obtain⟨l,rfl,-,c⟩:=h;have a:∀i:Nat,-1<=(l[i]?).getD (-1)/\(l[i]?).getD (-1)<=9999:=λi=>by
  cases d:l[i]? with
  |none=>simp
  |some z=>
   obtain⟨n,rfl,e⟩:=c z (AY d);simp;omega
 rw[Ej]at b;grind
def Ao2 {t l}(g:Z t<=600)(h:Cc 16 t= .got l []):∀x∈l,Z x.h.B<=600:=λx e=>by
 obtain⟨c,-,-,-⟩:=Ka _ _ _ _ h;have d:Z (Bz x)<=Z (Cr l):=by
  rw[Cr];obtain⟨a,b,rfl⟩:=append_of_mem e;simp;omega
 have f:Z x.h.B<=Z (Bz x):=by grind[Bz,D1,Bh]
 rw[<-c]at d;omega
def Am6 (t f n C):ni 25 [O t,O f,Y n] C λak σ'=>∃x k e,ak=tp [O x,Y k,Y e]/\re t f n x k e/\W C σ':=by
 by_cases aa:600<Z t
 ·have cv:decide ((Z t:Int)>600):=by rw[CV];omega
  have E:V (re t f n [] 0 1):=by rw[V,re,if_pos (.inl aa)];exact⟨rfl,rfl,rfl⟩
  clear aa;refine wl func25 ?_
  refine mu ?_
  exact⟨_,rfl,[],0,1,rfl,E.o,W.refl _⟩
 ·have cv:decide ((Z t:Int)>600)=false:=by rw[decide_eq_false_iff_not];omega
  by_cases hF:400<Z f
  ·have b1:decide ((Z f:Int)>400):=by rw[CV];omega
   have E:V (re t f n [] 0 1):=by rw[V,re,if_pos (.inr hF)];exact⟨rfl,rfl,rfl⟩
   refine Z9 59 [.tmp 6,.tmp 7,.tmp 8] func25 ?_
   refine mu ?_
   exact⟨_,rfl,[],0,1,rfl,E.o,W.refl _⟩
  ·have b1:decide ((Z f:Int)>400)=false:=by rw[decide_eq_false_iff_not];omega
   have E:V (∀x k e,re t f n x k e↔if (Av t).1≠0 then x=[]/\k=0/\e=(Av t).1
 else if n<0\/200<n then x=[]/\k=0/\e=6
 else∃l,Cc 16 t= .got l []/\if pd l f≠0 then x=[]/\k=0/\e=pd l f else∃F,oz 400 f= .got F []/\Ψ l F n x k e):=λx k e=>by rw[re,if_neg (by simp[aa,hF])]
   have bv:=λC=>rN t C;have bg:V ((Av t).1=0->∀n1 c1 n2 K,n1<=600/\RA t n1 c1 n2 K->∃N l,Cc 16 t= .got l []/\Ω N l K/\n1=Z N/\c1=N.map O/\n2=Z l):=λh0 n1 c1 n2 K ⟨h6,N,l,P,hB,z,e2,e3,cp,cn⟩=>by
    let⟨cq,hw⟩:=zW h0 P;refine⟨N,l,P,⟨hB,L,h_ hw,cp,Lx (T:=DT) mK 16 t l [] P,cn,Ao2 cq P⟩,z,e2,e3⟩
   generalize Av t=rc at*
   let⟨o,p0⟩:=rc;simp only at bv E bg;refine wl func25 ?_
   repeat' first|refine Z1 ?_|refine Z8 λyb ya=>?_|refine Z4 ?_;clear ya yb|refine Z2 ?_ ?_<;>intro h a4<;>try exact Xp|refine Z5 ?_;refine Xi (bv _) ?_;rintro _ _ ⟨a1,n1,c1,a2,n2,K,rfl,D,G⟩;(have HB:V _:=G;clear G;have cm:=D.B)|refine Z7 ?_|exact Zt|apply ya.o;clear ya yb
   ·have I:o≠0:=nn h
    exact⟨_,rfl,[],0,o,rfl,(E.o _ _ _).2 (by rw[if_pos I];exact⟨rfl,rfl,rfl⟩),(D.new _).put D.B _⟩
   ·skip
    have I:¬o≠0:=by
     have:(o !=0)=false:=nu
     simpa using this
    exact⟨_,rfl,[],0,6,rfl,(E.o _ _ _).2 (by rw[if_neg I,if_pos (.inr nu)];exact⟨rfl,rfl,rfl⟩),(D.new _).put D.B _⟩
   ·rename St=>σ1;have I:o=0:=by
     have:(o !=0)=false:=nu
     simpa using this
    have ct:0<=n:=nu
    have c6:n<=200:=nu
    obtain⟨N,l,P,hT,rfl,rfl,rfl⟩:=bg.o I _ _ _ _ (HB.o I);have be:V (∀x k e,(if pd l f≠0 then x=[]/\k=0/\e=pd l f else∃F,oz 400 f= .got F []/\Ψ l F n x k e)->re t f n x k e):=λx k e h=>(E.o x k e).2 (by rw[if_neg (by simp[I]),if_neg L];exact⟨l,P,h⟩);have ba:=λC=>xy N l K a1 a2 hT.bk hT.nl (Apo hT.cons) f (by have:decide ((Z f:Int)>400)=false:=b1;rw[decide_eq_false_iff_not]at this;omega) C;unfold Cq at ba;have q:V _:=hT;clear hT P E bg HB;have bw:=(D.new [H,H]).put D.B [lw a1 N,sl a2 (Z l) K]
    repeat' first|refine Z1 ?_|refine Z8 λyb ya=>?_|refine Z4 ?_;clear ya yb|refine Z2 ?_ ?_<;>intro h a4<;>try exact Xp|refine Z5 ?_;refine Xi (ba _) ?_;rintro _ _ ⟨ae,nf,np,fc,rfl,az,bn⟩;(have cf:V _:=bn;clear bn;have a7:=az.B;have af:=az.C;simp only[Ac,Aa]at a7 af;have bb:=bw.trans az;have a6:=af σ1.B L;rw[Ak]at a6)|refine Z7 ?_|exact Zt|apply ya.o;clear ya yb
    ·have A:pd l f≠0:=nn h
     exact⟨_,rfl,[],0,pd l f,rfl,be.o _ _ _ (by rw[if_pos A];exact⟨rfl,rfl,rfl⟩)⟩
    ·rename St=>σ2;have A:pd l f=0:=nn h
     obtain⟨F,d,v,rfl,rfl,g,c8,hE⟩:=cf.o A;have b9:V (∀x k e,Ψ l F n x k e->re t f n x k e):=λx k e h=>be.o x k e (by rw[if_neg (ns A)];exact⟨F,v,h⟩);obtain⟨-,b6,-,a3⟩:=rh _ _ _ _ v;have a5:∀a∈F,a.B∈d:=λa m=>by
      let⟨ad,hi⟩:=CL m;exact (s9 hE hi).1
     have ap:po (l.flatMap Af) F=false:=by
      unfold pd at A;rw[v]at A;simp only at A;cases ho:po (l.flatMap Af) F
      ·rfl
      rw[ho]at A;simp at A
     have ao:∀a∈F,0<Z a.A:=λa m=>by
      have:=(a3 a m).1.2.1;cases hh:a.A with
      |nil=>exact absurd hh this
      |cons y ys=>simp
     have hS:=uj q.o.cons ao ap;have b7:=q.o.bkr g hS;have bo:∀a∈F,∀w∈a.A,VT w/\DT w:=λa m w hw=>⟨tf (T:=VT) (λ_ _ _ h=>UQ h) _ _ _ _ v a m w hw,tf (T:=DT) mK _ _ _ _ v a m w hw⟩
     have a8:=λC=>Y1 (Z d) (F.map (Eg d)) fc ae n (y_ hE) L (by rw[BV];omega) (λa m=>by
      obtain⟨b,G,rfl⟩:=AN.1 m
      exact⟨by simp[Eg];exact (a3 b G).1.2.2.1,_,rfl,CS (a5 b G)⟩) C
     rw[BV]at a8;have bc:V (∀M,GY (Z d) (F.map (Eg d)) M->lu (ζ d (l.flatMap Af++F)) M):=λM i k u hu=>by
      let⟨a,m,z,e2⟩:=(i.mem k u).1 hu;obtain⟨b,G,rfl⟩:=AN.1 m;have:=As4 hS (AW.2 (.inr G)) (a5 b G) (a3 b G).2.2 (bo b G);rw[e2];have e3:k=d.idxOf b.B:=by simp only[Eg]at z;omega
      rw[e3];exact this
     have ce:V _:=b7;have cd:V _:=a5;have cy:Z F<=400:=b6;clear v a3 a5 ap ao hS b7 bo cf be A hE ba b6
     repeat' first|refine Z1 ?_|refine Z8 λyb ya=>?_|refine Z4 ?_;clear ya yb|refine Z2 ?_ ?_<;>intro h a4<;>try exact Xp|refine Z5 ?_;refine Xi (a8 _) ?_;rintro _ _ ⟨ot,M,rfl,i,ay,cz,a9,au⟩;(have ck:=ay.B;have an:=ay.C)|refine Z7 ?_|exact Zt|apply ya.o;clear ya yb
     rename St=>σ3;let⟨p,a0⟩:∃b4,b4=((σ3.new [H,Y 0,Y 0]).put σ3.B [fx ot 0 (Z d),Y 0,Y n]):=⟨_,rfl⟩;rw[<-a0];have aj:W σ3 p:=by rw[a0];exact ((W.refl σ3).new _).put (AU _) _
     have cx:W C p:=(bb.trans ay).trans aj;have n4:p.B=σ3.B+1:=by rw[a0];rfl
     have ch:p.C σ1.B=[lw a1 N,sl a2 (Z l) K]:=by rw[aj.C _ L,an _ L,a6]
     have cr:=a9.lt;have bq:=i.len;have bu:BL p σ3.B ot M 0 n:=(a9.keep aj).mob (by rw[a0,Ak,bq]) L L;have bp:∀y∈M,y.1=1\/C.D+2<=y.1:=λy R=>by have:=bb.D;rcases au y R with h|h<;>omega
     have bh:tot M<=1000:=by have:=i.tot;rw[BV]at this;omega
     have b0:=yc N l K a1 a2 (Z d) (ζ d (l.flatMap Af++F)) q.o.bk ce.o σ3.B ot n ct L M bq (bc.o M i) i.nd bh p bu;have bi:=J_ ce.o (B:=MD M) (bc.o M i);unfold Cq at b0;have bf:V _:=i;have b8:V _:=bi;clear a0 a9 au i bu bi bc a8 ay az bw bb af an a6 D
     repeat' first|refine Z1 ?_|refine Z8 λyb ya=>?_|refine Z4 ?_;clear ya yb|refine Z2 ?_ ?_<;>intro h a4<;>try exact Xp|(refine Z5 ?_;first|(refine Xi (b0) ?_;rintro _ _ ⟨s,c,U,ai,bz⟩;(have S:V _:=bz;clear bz;have cj:=ai.B;have cw:=Asn cx ai L L bp;have cu:=Qm σ3.B ot s c n _ U;have cg:=ai.C σ1.B L L L;rw[ch]at cg))|(refine Xi (cu) ?_;rintro _ _ ⟨rfl,rfl⟩))|refine Z7 ?_|exact Zt|apply ya.o;clear ya yb
     ·refine⟨_,rfl,[],0,9,rfl,b9.o _ _ _ ⟨d,M,s,c,λy R=>⟨g.subset ((sa q.o.bk.el y R).1),λa m=>g.subset ((sa q.o.bk.el y R).2 a m)⟩,cd.o,bf.o,U.t3,?_,by rw[if_pos nu];exact⟨rfl,rfl,rfl⟩⟩⟩;unfold zk;rw[ve g (sa q.o.bk.el)];exact S.o
     ·rename St=>σ5;have ac:¬n<c:=L;have b2:zk d l M n (Z l+1) s c:=by
       unfold zk;rw[ve g (sa q.o.bk.el)];exact S.o
      have br:∀k u,MD s k u->Sh (ζ d (l.flatMap Af++F)) k u:=λk u hu=>by
       obtain⟨-,ab,-⟩|⟨ab,-⟩:=S.o.2.2
       ·exact b8.o _ _ _ ((ab k u).1 hu)
       ·exact absurd ab ac
      have ah:∀x∈s,∀u∈x.2,∀y∈u,-1<=y/\y<=9999:=λx hx u hu=>by
       let⟨k,hk⟩:=CL hx;exact Au6 (br k u (by unfold MD;rw[Cp hk];exact hu))
      have bm:Z N<=Z s:=by
       have:=S.o.1;have:=g.length_le;omega
      have ax:=x9 N l K a1 a2 q.o.bk q.o.nn σ3.B ot s c n bm ah σ5 U;have z:sb N (λj=>pg (Ba s (j:Int))) l=sb d (λj=>pg (Ba s (j:Int))) l:=by
       unfold sb qd;rw[xa g _ _ (λx hx=>(sa q.o.bk.el x hx).1)]
      rw[z]at ax;have HR:V (re t f n (sb d (λj=>pg (Ba s (j:Int))) l) c 0):=b9.o _ _ _ ⟨d,M,s,c,λy R=>⟨g.subset ((sa q.o.bk.el y R).1),λa m=>g.subset ((sa q.o.bk.el y R).2 a m)⟩,cd.o,bf.o,U.t3,b2,by rw[if_neg ac];exact⟨rfl,rfl,rfl,ah⟩⟩;generalize sb d (λj=>pg (Ba s (j:Int))) l=tx at ax HR;unfold Cq at ax;have ci:=U.ob;have b5:=U.lo;clear z b2 br ah bm S b8 bf bp bh;refine A2 (Q:=λe s' am=>e= .normal/\s' 6=O tx/\s' 7=Y c/\s' 8=Y 0/\W σ5 am) ?_ ?_
      ·refine bT [] [0,2,3] 4 (nv 7 13) ?_;refine Ai (i:=1) AH ?_;refine Am ?_;intro yb ya;refine Z7 ?_;refine AF.mono ax ?_;rintro _ b3 ⟨rfl,av⟩;refine ux ?_;refine vk [4,5,6] ?_;refine⟨rfl,?_⟩;simp[upd, *]
      ·rintro e s' b3 ⟨rfl,g6,g7,g8,av⟩
       refine mu ?_
       exact⟨_,rfl,tx,c,0,rfl,HR.o,cw.trans av⟩
   ·skip
    have I:¬o≠0:=by
     have:(o !=0)=false:=nu
     simpa using this
    exact⟨_,rfl,[],0,6,rfl,(E.o _ _ _).2 (by rw[if_neg I,if_pos (.inl nu)];exact⟨rfl,rfl,rfl⟩),(D.new _).put D.B _⟩
def An2 {a}(h:IT a)(c:a.nt=false)(b:qx a)(d):qo (Bh a++46::d)= .got a d:=by rw[qo];have:=mQ h (46::d);rw[c]at this;rw[this,Es,if_pos b];rfl
def xc:∀(n:Nat) (F:oq),(∀a∈F,IT a/\a.nt=false/\qx a)->Z F<=n->oz n (F.flatMap λa=>Bh a++[46])= .got F []
 |n,[],_,_=>by grind[so]
 |0,a::F,_,h=>gp
 |n+1,a::F,c,h=>by
  let⟨l,k,m⟩:=c a nk;have f:=xc n F (λb j=>c b (ns j)) (nn h);rw[DN];have e:(Bh a++[46])++F.flatMap (λa=>Bh a++[46])=Bh a++46::F.flatMap (λa=>Bh a++[46]):=nk;rw[e];have g:∃b p,Bh a++46::F.flatMap (λa=>Bh a++[46])=b::p:=by
   cases i:Bh a++46::F.flatMap (λa=>Bh a++[46])with
   |nil=>simp at i
   |cons b p=>exact⟨b,p,rfl⟩
  have d:=An2 l k m (F.flatMap λa=>Bh a++[46]);let⟨b,p,o⟩:=g;rw[o]at d⊢;rw[sp,d,Es,f];rfl
def Axi (l:n0):Prop:=∀x∈l,x.o->x.A=[]
structure ξ (l:n0):Prop where
 o:Axi l
 loo:Υ l
 len:Z l<=16
section
variable {l l':n0}
theorem xd (a:ξ l)(p):ov l p<=Z l:=Ac6 a.loo ((se a.o a.loo a.len p _).2 (AU _))
theorem su {s x}(c:x∈pz l s):x∈l/\x.o=false/\ov l x.h.B=s:=by let⟨b,a⟩:=BP.1 c;rw[pf]at a;grind
end
def ο:ol->MM->List (Tx×Ck)
 |_,[]=>[]
 |N,x::M=>x.2.map (λt=>(N.headD [],t))++ο N.tail M
def t8:∀(N:ol) (M:MM),(Z (ο N M):Int)=tot M
 |_,[]=>rfl
 |N,x::M=>by have:=t8 N.tail M;rw[Ey];rw[ο];grind
def tg (N:ol)(k):N.tail.getD k []=N.getD (k+1) []:=gp
def U_ {p t}:∀{N:ol} {M:MM},(p,t)∈ο N M↔∃k:Nat,N.getD k []=p/\MD M k t
 |N,[]=>by constructor;intro h;cases h;rintro⟨k,-,h⟩;simp[MD,Ba]at h
 |N,x::M=>by
  rw[ο];rw[AW,AN,U_];constructor;rintro (⟨u,a,e⟩|⟨k,e,h⟩);cases e;exact⟨0,by cases N<;>rfl,a⟩;exact⟨k+1,gp,by rw[MD,Ba]at*;simpa using h⟩;rintro⟨k,e,h⟩;cases k with
  |zero=>exact .inl ⟨t,h,by rw[<-e];cases N<;>rfl⟩
  |succ k=>exact .inr ⟨k,gp,by rw[MD,Ba]at*;simpa using h⟩
def xe:∀{N:ol} {M:MM},(∀x∈M,x.2.Nodup)->(∀k b t c,MD M k t->MD M b c->N.getD k []=N.getD b []->k=b)->(ο N M).Nodup
 |N,[],_,_=>GN
 |N,x::M,h,d=>by
  rw[ο];have a:∀k t,MD M k t->MD (x::M) (k+1) t:=λk t g=>by grind[MD,Ba]
  refine IP.2 ⟨?_,xe (λy j=>h y (ns j)) (λk b t c g m e=>?_),?_⟩;have:=h x nk;rw[Nodup]at*
  rw[pairwise_map];exact this.imp (λn e=>n (gp));have:=d (k+1) (b+1) t c (a k t g) (a b c m) (gp);omega;rintro⟨p,t⟩ f ⟨q,u⟩ i e;cases e;let⟨v,l,e⟩:=AN.1 f;cases e;let⟨k,e,g⟩:=U_.1 i;have:=d 0 (k+1) t t l (a k t g) (by rw[<-tg,e];cases N<;>rfl);omega
def qy (T:Tx->List Ck)(acc:Tx×ol)(x:AB):Tx×ol:=if x.o/\x.h.B∉acc.2 then (acc.1++(T x.h.B).flatMap (pn x.h.B),acc.2++[x.h.B])else acc
def sy (T:Tx->List Ck)(l:n0):Tx:=(l.foldl (qy T) ([],[])).1
def vf {N rk T}:∀{l:n0} (a:Tx) (b:ol),(∀x∈l,x.h.B∈N/\rk (N.idxOf x.h.B)=T x.h.B)->(∀p∈b,p∈N)->
  (l.foldl (qq N rk) (a,b.map λp=>((N.idxOf p:Nat):Int))).1=(l.foldl (qy T) (a,b)).1
 |[],a,b,_,_=>rfl
 |x::l,a,b,h,f=>by
  rw[FW,FW];let⟨i,n⟩:=h x nk;have k:(((N.idxOf x.h.B:Nat):Int)∈b.map λp=>((N.idxOf p:Nat):Int))↔x.h.B∈b:=by
   rw[AN];constructor;rintro⟨q,m,e⟩;have:N.idxOf q=N.idxOf x.h.B:=L;exact E9 (f q m) i this▸m;grind
  have j:=λy o=>h y (IM x o);by_cases c:x.o/\x.h.B∉b;have d:qq N rk (a,b.map λp=>((N.idxOf p:Nat):Int)) x=(a++(T x.h.B).flatMap (pn x.h.B),(b++[x.h.B]).map λp=>((N.idxOf p:Nat):Int)):=by grind[qq]
  have e2:qy T (a,b) x=(a++(T x.h.B).flatMap (pn x.h.B),b++[x.h.B]):=if_pos c;rw[d,e2];refine vf _ _ j (λp s=>?_);obtain g|g:=AW.1 s;exact f p g;exact FY.1 g▸i;have d:qq N rk (a,b.map λp=>((N.idxOf p:Nat):Int)) x=(a,b.map λp=>((N.idxOf p:Nat):Int)):=by grind[qq]
  have e2:qy T (a,b) x=(a,b):=if_neg c;rw[d,e2];exact vf _ _ j f
section
variable {l l':n0} {N N':ol} {F F':oq} {M M':MM}
theorem yz.has {B}:∀{s:Nat} {k:Nat} {t:Ck},B k t->yz N l B s k t
 |0,_,_,h=>h
 |s+1,_,_,h=>y9.base (yz.has h)
theorem Axn {M}(h:∀x∈M,x.2.Nodup)(k:Nat):(Ba M (k:Int)).Nodup:=by grind[Ba]
theorem rowT {M}(h:∀x∈M,T3 x.2)(k:Nat):T3 (Ba M (k:Int)):=by
 rw[Ba];cases a:M[(k:Int).toNat]? with
 |none=>intro t b;simp at b
 |some x=>exact h x (AY a)
theorem xf {a b}(d:a.Nodup)(f:b.Nodup)(c:T3 a)(e:T3 b)(h:∀t,t∈a↔t∈b):pg a=pg b:=
 uh e ((si a).trans ((perm_ext_iff_of_nodup d f).2 h)) (ug c)
end
structure χ (t f:Tx)(n:Int)(l:n0)(F:oq):Prop where
 tl:Z t<=600
 fl:Z f<=400
 ck:(Av t).1=0
 n0:0<=n
 n1:n<=200
 par:Cc 16 t= .got l []
 fac:oz 400 f= .got F []
 fe:pd l f=0
section
variable {t f x:Tx} {n k e:Int} {l:n0} {F:oq}
theorem Ane (a:χ t f n l F):H_ l:=h_ (zW a.ck a.par).2
theorem V_ (b:χ t f n l F):ξ l:=by have a:Axi l:=λx c a=>(((dY _ _ _ _ b.par) x c).o a).2.2;exact⟨a,u9 a (Ane b).kn,(Ka _ _ _ _ b.par).2.2.1⟩
theorem Arm (c:χ t f n l F):Se (l.flatMap Af++F):=by
 have i:=dY _ _ _ _ c.par
 have j:=vp (Ane c).odd (λx g a e=>by
  unfold Af at e;rcases AW.1 e with h|h;cases b:x.o
  ·rw[b]at h;simp at h;rw[h];exact length_pos_iff.2 ((i x g).rule b).1.ne
  rw[b]at h;simp at h
  cases b:x.o with
  |true=>rw[((i x g).o b).2.2]at h;cases h
  |false=>exact length_pos_iff.2 (((i x g).rule b).2.2.2 a h).ne)
 have d:=c.fe;rw[pd]at d;rw[c.fac]at d;simp only at d;apply uj j (λa e=>length_pos_iff.2 ((rh _ _ _ _ c.fac).2.2.2 a e).1.2.1);grind
end
def Apc {a}(h:En a):46∉Bh a:=λb=>by
 obtain h|h|h|h:=Aja h b
 ·exact Awh h nk
 all_goals exact absurd h nr
def vg:∀(n:Nat) (s:Tx) (F:oq) (p:Tx),oz n s= .got F p->∀a∈F,IT a
 |n,[],F,p,h=>by grind[so]
 |0,b::s,F,p,h=>by cases h
 |n+1,b::s,F,p,h=>by rw[sp]at h;let⟨x,g,c,h⟩:=A8 h;let⟨e,o,f,h⟩:=A8 h;cases h;intro a d;obtain rfl|d:=BD.1 d;rw[qo]at c;let⟨l,k,i,c⟩:=A8 c;split at c;let⟨u,j,m,c⟩:=A8 c;cases c;exact Yg i;cases c;exact vg n g e p f a d
abbrev pw:=Tx->Ck->Prop
def π (ν:Tx->Int)(t:Tx):Int:=if Ab t=true then ν t else (Aq t).2
def zi (ν:Tx->Int)(a:AE):Ck:=Ej (a.A.map (π ν))
def zo (M D:pw)(ν:Tx->Int)(a:AE):Prop:=if a.nt=true then¬M a.B (zi ν a)else D a.B (zi ν a)
def Clo (l:n0)(M D:pw):Prop:=∀x∈l,x.o=false->∀b,(∀a∈x.A,zo M D b a)->D x.h.B (zi b x.h)
def zg (l:n0)(B M:pw):pw:=λp t=>∀D:pw,(∀p t,B p t->D p t)->Clo l M D->D p t
def zp (l:n0)(B M:pw):Prop:=∀p t,M p t↔zg l B M p t
def zo.mono {M D b:pw}{ν a}(h:zo M D ν a)(c:∀p t,D p t->b p t):zo M b ν a:=by grind[zo]
def zg.base {l}{B M:pw}{p t}(h:B p t):zg l B M p t:=λD a _=>a p t h
def zg.clo (l)(B M:pw):Clo l M (zg l B M):=λx d c e h D i b=>b x d c e λa f=>(h a f).mono λp t g=>g D i b
section
variable {l:n0} (hr:ξ l)
include hr
theorem uk {x}(c:x∈l){a}(b:a∈x.A):ov l a.B<=ov l x.h.B:=
 (se hr.o hr.loo hr.len _ _).1 (tt (.inr (.one ⟨x,c,rfl,a,b,rfl⟩)) ((se hr.o hr.loo hr.len _ _).2 (AU _)))
theorem um {x}(b:x∈l){a}(d:a∈x.A)(c:a.nt):ov l a.B<ov l x.h.B:=
 (se hr.o hr.loo hr.len _ _).1 ⟨x,b,.inl rfl,a,d,c,(se hr.o hr.loo hr.len _ _).2 (AU _)⟩
theorem uo {B:pw}:∀{M M':pw},zp l B M->zp l B M'->∀s p t,ov l p<s->M p t->M' p t
 |M,M',h,j,0,p,t,f,_=>absurd f (Nat.not_lt_zero _)
 |M,M',h,j,s+1,p,t,f,g=>by
  have:=(h p t).1 g (λp t=>ov l p<s+1->zg l B M' p t) (λp t d _=>zg.base d) λx c k m d n=>
   zg.clo l B M' x c k m λa i=>by have b:=d a i;rw[zo]at b⊢;by_cases e:a.nt=true;rw[if_pos e]at b⊢;have:=um hr c i e;exact λg=>b (uo j h s _ _ L g);rw[if_neg e]at b⊢;have:=uk hr c i;exact b L
  exact (j p t).2 (this f)
theorem zp.uniq {B M M':pw}(h:zp l B M)(a:zp l B M')(p t):M p t↔M' p t:=⟨uo hr h a _ p t (Nat.lt_succ_self _),uo hr a h _ p t (Nat.lt_succ_self _)⟩
end
def zu (N:ol)(D:Gb):pw:=λp t=>p∈N/\D (N.idxOf p) t
def o_ {N a}(ν):B8 (Eg N a) ν=zi (λw=>ν (Aq w).2) a:=by rw[B8,zi,Eg];simp only[BH];congr 1;refine CG λt _=>?_;simp only[Function.comp,Ei,π,Cb]
def p_ {N a}(b:∀t∈a.A,UT t)(ν):zi ν a=B8 (Eg N a) λv=>ν (Km (true,v)):=by
 unfold B8 zi Eg;simp only[BH];congr 1;refine CG λt c=>?_;simp only[Function.comp,Ei,π,Cb];cases d:Ab t
 ·rfl
 have e:(true,(Aq t).2)=Aq t:=GB (by grind[Cb]) rfl;simp only[if_true];rw[e,(b t c).dec.1]
def uq {N l B}(a:∀x∈l,x.h.B∈N){p}(b:p∈N){t s}(c:ov l p<s):∀{s':Nat},s<=s'->yz N l B s' (N.idxOf p) t->yz N l B s (N.idxOf p) t
 |0,h,g=>absurd c L
 |s'+1,h,g=>by by_cases e:s=s'+1;subst e;exact g;refine uq a b c (s':=s') L (y9.nonhead (λm f e2=>?_) g);obtain⟨x,i,rfl⟩:=AN.1 f;let⟨d,k,j⟩:=su i;simp only[Ce,Eg,DK]at e2;rw[E9 (a x d) b e2]at j;omega
def q_ {N l}(n:ξ l)(j:∀x∈l,x.h.B∈N/\∀a∈x.A,a.B∈N)(y:∀x∈l,x.o=false->∀a,a=x.h\/a∈x.A->∀t∈a.A,UT t){B}(E:∀k t,B k t->∃p∈N,k=N.idxOf p):zp l (zu N B) (zu N (yz N l B (Z l+1))):=by
 intro p t;constructor;rintro⟨A,g⟩;have u:∀s,s<=Z l+1->∀k t,yz N l B s k t->∃p∈N,k=N.idxOf p/\zg l (zu N B) (zu N (yz N l B (Z l+1))) p t:=λs=>by
  induction s with
  |zero=>
   intro _ k t g;obtain⟨q,d,rfl⟩:=E k t g;exact⟨q,d,rfl,zg.base ⟨d,g⟩⟩
  |succ s F=>
   intro C k t g;refine y9.least (F L) (λQ D o G=>?_) g;obtain⟨x,c,rfl⟩:=AN.1 D;let⟨b,M,K⟩:=su c;refine⟨x.h.B,(j x b).1,rfl,?_⟩;show zg _ _ _ _ (B8 (Eg N x.h) o);rw[o_];refine zg.clo l _ _ x b M _ λa f=>?_;have i:=G (E6 N a) (AN.2 ⟨a,f,rfl⟩);rw[Lk,E6]at i;dsimp only at i;rw[o_]at i;rw[zo];by_cases e:a.nt=true;rw[if_pos e]at i⊢;rintro⟨d,g⟩;have:=um n b f e;exact i (uq (λx c=>(j x c).1) d (s:=s) L L g);rw[if_neg e]at i⊢;let⟨q,d,e2,g⟩:=i;have:a.B=q:=E9 ((j x b).2 a f) d e2;subst this;exact g
 let⟨q,d,e,g⟩:=u _ (AU _) _ _ g;exact E9 A d e▸g;intro h;refine h _ (λp t g=>⟨g.1,yz.has g.2⟩) λx c m o I=>⟨(j x c).1,?_⟩;have C:=xd n x.h.B;refine yz.up (s:=ov l x.h.B+1) L ?_;rw[p_ (N:=N) (y x c m _ (.inl rfl))];have z:x∈pz l (ov l x.h.B):=BP.2 ⟨c,by grind[pf]⟩;refine y9.cl ((pz l (ov l x.h.B)).map (Ce N)) (yz N l B (ov l x.h.B)) (Ce N x) (AN.2 ⟨x,z,rfl⟩) (λv=>o (Km (true,v))) λk P=>?_;obtain⟨a,f,rfl⟩:=AN.1 P;have b:=I a f;rw[zo]at b;rw[p_ (N:=N) (y x c m a (.inr f))]at b;rw[Lk,E6];dsimp only;by_cases e:a.nt=true;rw[if_pos e]at b⊢;exact λg=>b ⟨(j x c).2 a f,yz.up L g⟩;rw[if_neg e]at b⊢;have:=uk n c f;exact uq (λx c=>(j x c).1) b.1 (s:=ov l x.h.B+1) L L b.2
def rk (F:oq):pw:=λp t=>∃a∈F,a.B=p/\t=C4 (Eg [] a)
def Av4 {N F M}(e:∀a∈F,a.B∈N)(d:GY (Z N) (F.map (Eg N)) M):zu N (MD M)=rk F:=by
 funext p t;refine propext ⟨?_,?_⟩;rintro⟨f,h⟩;let⟨b,j,i,e2⟩:=(d.mem _ t).1 h;obtain⟨a,c,rfl⟩:=AN.1 j;have g:N.idxOf a.B=N.idxOf p:=by grind[Eg]
 exact⟨a,c,E9 (e a c) f g,e2⟩;rintro⟨a,c,rfl,rfl⟩;exact⟨e a c,(d.mem _ _).2 ⟨Eg N a,AN.2 ⟨a,c,rfl⟩,rfl,rfl⟩⟩
def Av5 {N}{F:oq}{M}(f:∀a∈F,a.B∈N)(c:GY (Z N) (F.map (Eg N)) M)(k t)(h:MD M k t):∃p∈N,k=N.idxOf p:=by obtain⟨b,g,e,-⟩:=(c.mem _ t).1 h;obtain⟨a,d,rfl⟩:=AN.1 g;exact⟨a.B,f a d,by grind[Eg]⟩
def r_ {N l}(b:∀x∈l,x.h.B∈N/\∀a∈x.A,a.B∈N){B}(c:∀k t,B k t->∃p∈N,k=N.idxOf p):∀s k t,yz N l B s k t->∃p∈N,k=N.idxOf p
 |0,k,t,g=>c k t g
 |s+1,k,t,g=>y9.least (r_ b c s) (λi d f _=>by
  obtain⟨x,e,rfl⟩:=AN.1 d
  exact⟨x.h.B,(b x (su e).1).1,rfl⟩) g
abbrev rm:=Tx×Ck
def η (S:pw)(Lqx:List rm):Prop:=Lqx.Nodup/\∀p t,(p,t)∈Lqx↔S p t
def D_ (S:pw)(Lqx:List rm):Prop:=Lqx.Nodup/\∀p t,(p,t)∈Lqx->S p t
def qe (Lqx:List rm)(p:Tx):List Ck:=(Lqx.filter λy=>y.1==p).map (·.2)
def δ {Lqx:List rm}{p t}:t∈qe Lqx p↔(p,t)∈Lqx:=by simp_all[qe,AN,BP,DO]
def tj {Lqx:List rm}(h:Lqx.Nodup)(p):(qe Lqx p).Nodup:=by rw[qe,Nodup];rw[pairwise_map];refine Pairwise.imp_of_mem (λ{a b} f i g e=>g ?_) (h.filter _);grind
def sk {S:pw}{Lqx a:List rm}(h:η S Lqx)(b:D_ S a):Z a<=Z Lqx:=td a Lqx b.1 λ⟨p,t⟩ c=>(h.2 p t).2 (b.2 p t c)
def η.sb {S:pw}{Lqx:List rm}(h:η S Lqx):D_ S Lqx:=⟨h.1,λp t=>(h.2 p t).1⟩
def υ (l:n0)(F:oq)(n:Int)(x:Tx)(k e:Int):Prop:=∃(M:pw) (L0 a:List rm),zp l (rk F) M/\η (rk F) L0/\
 ((D_ M a/\n<(Z a:Int)-Z L0/\x=[]/\k=0/\e=9)\/(η M a/\¬n<(Z a:Int)-Z L0/\k=(Z a:Int)-Z L0/\e=0/\x=sy (λp=>pg (qe a p)) l))
def pq (t f:Tx)(n:Int)(x:Tx)(k e:Int):Prop:=
 if 600<Z t\/400<Z f then x=[]/\k=0/\e=1
 else if (Av t).1≠0 then x=[]/\k=0/\e=(Av t).1
 else if n<0\/200<n then x=[]/\k=0/\e=6
 else∃l,Cc 16 t= .got l []/\if pd l f≠0 then x=[]/\k=0/\e=pd l f else∃F,oz 400 f= .got F []/\υ l F n x k e
def K_ {l F}{M:pw}(h:zp l (rk F) M){p t}(g:M p t):Z t=3:=
 (h p t).1 g (λ_ t=>Z t=3) (λp t ⟨a,_,_,e⟩=>by rw[e];rfl) λx _ _ b _=>rfl
def Au2 {T T2}(h:∀p,T p=T2 p)(l):sy T l=sy T2 l:=by rw[show T=T2 from funext h]
def Am7 {l}(q:ξ l){F n x j k o e m}(h:υ l F n x k e)(c:υ l F n j o m):x=j/\k=o/\e=m:=by let⟨M,L0,u,s,g,h⟩:=h;let⟨y,G,A,z,i,c⟩:=c;obtain rfl:y=M:=funext λp=>funext λt=>propext (zp.uniq q z s p t);have B:=sk g i.sb;have E:=sk i g.sb;obtain⟨b,v,rfl,rfl,rfl⟩|⟨b,v,rfl,rfl,rfl⟩:=h;obtain⟨a,f,rfl,rfl,rfl⟩|⟨a,f,rfl,rfl,rfl⟩:=c;exact⟨rfl,rfl,rfl⟩;have:=sk a b;omega;obtain⟨a,f,rfl,rfl,rfl⟩|⟨a,f,rfl,rfl,rfl⟩:=c;have:=sk b a;omega;have D:=sk b a.sb;have C:=sk a b.sb;refine⟨Au2 (λp=>xf (tj b.1 p) (tj a.1 p) (λt d=>?_) (λt d=>?_) λt=>?_) l,L,rfl⟩;exact K_ s ((b.2 p t).1 (δ.1 d));exact K_ s ((a.2 p t).1 (δ.1 d));rw[δ,δ,b.2,a.2]
def L_ {N M}(b:∀x∈M,x.2.Nodup)(c:∀k t,MD M k t->∃q∈N,k=N.idxOf q):η (zu N (MD M)) (ο N M):=by refine⟨xe b λk i t d g l e=>?_,λp t=>?_⟩;obtain⟨q,a,rfl⟩:=c k t g;obtain⟨m,f,rfl⟩:=c i d l;rw[s8 a,s8 f]at e;rw[e];rw[U_];constructor;rintro⟨k,e,g⟩;obtain⟨q,a,rfl⟩:=c k t g;rw[s8 a]at e;subst e;exact⟨a,g⟩;rintro⟨j,g⟩;exact⟨_,s8 j,g⟩
def Awz {l}(C:ξ l)(D:∀x∈l,x.o=false->∀a,a=x.h\/a∈x.A->∀t∈a.A,UT t){F n x k e}(h:Ψ l F n x k e):υ l F n x k e:=by let⟨N,M,v,a1,m,B,d,G,⟨a0,U,E⟩,i⟩:=h;have s:=Av5 B d;have j:=q_ C m D s;have o:=L_ d.nd s;rw[Av4 B d]at j o;have A:∀k t,yz N l (MD M) (Z l+1) k t->∃q∈N,k=N.idxOf q:=λk t g=>r_ m s _ k t g;have K:=t8 N M;obtain⟨u,c,f⟩|⟨u,S,-,T,-,P,ad⟩:=E;rw[if_neg u]at i;obtain⟨rfl,rfl,rfl,-⟩:=i;have b:=L_ f λk t g=>A k t ((c k t).1 g);have Q:zu N (MD v)=zu N (yz N l (MD M) (Z l+1)):=funext λp=>funext λt=>propext (and_congr Iff.rfl (c _ t));rw[Q]at b;have R:=t8 N v;refine⟨_,_,_,j,o,.inr ⟨b,L,L,rfl,?_⟩⟩;refine vf (N:=N) [] [] (λy z=>⟨(m y z).1,?_⟩) nk;refine xf (Axn f _) (tj b.1 _) (rowT G _) (λt I=>K_ j ((b.2 _ t).1 (δ.1 I))) λt=>?_;rw[δ,b.2];exact⟨λg=>⟨(m y z).1,(c _ _).1 g⟩,λg=>(c _ _).2 g.2⟩;rw[if_pos u]at i;obtain⟨rfl,rfl,rfl⟩:=i;have b:=L_ T λk t g=>A k t (P k t g);have R:=t8 N S;exact⟨_,_,_,j,o,.inl ⟨⟨b.1,λp t g=>⟨((b.2 p t).1 g).1,P _ _ ((b.2 p t).1 g).2⟩⟩,L,rfl,rfl,rfl⟩⟩
def v6 {t l}(f:(Av t).1=0)(o:Cc 16 t= .got l []):∀x∈l,x.o=false->∀a,a=x.h\/a∈x.A->∀t∈a.A,UT t:=λx m e a b w d=>by
 have p:=(H9 f).1;have c:FG x:=P4 f x (by rw[(Ep L o).2.1];exact m);have g:a∈Af x:=by grind[Ap]
 let⟨j,q,s,k⟩:=c.w.2.2 e;have i:En a:=gp
 have n:short a:=by obtain rfl|b:=b;exact c.sh.1;exact c.sh.2 a b
 exact j7 (c.dt a g w d) (i.2.2.2 w d) (n.2.2 w d) (c.va a g w d)
def Awy {t f x n k e}(h:re t f n x k e):pq t f n x k e:=by rw[re]at h;rw[pq];split;rename_i c;rw[if_pos c]at h;exact h;rename_i g;rw[if_neg g]at h;split;rename_i c;rw[if_pos c]at h;exact h;rename_i i;rw[if_neg i]at h;split;rename_i c;rw[if_pos c]at h;exact h;rename_i j;rw[if_neg j]at h;let⟨l,a,h⟩:=h;refine⟨l,a,?_⟩;split;rename_i c;rw[if_pos c]at h;exact h;rename_i m;rw[if_neg m]at h;let⟨F,b,h⟩:=h;have d:χ t f n l F:=⟨L,L,L,L,L,a,b,L⟩;exact⟨F,b,Awz (V_ d) (v6 d.ck a) h⟩
def Am8 {t f x o n k i e g}(h:pq t f n x k e)(a:pq t f n o i g):x=o/\k=i/\e=g:=by rw[pq]at h a;split at h;rename_i c;rw[if_pos c]at a;exact⟨gp,gp,gp⟩;rename_i p;rw[if_neg p]at a;split at h;rename_i c;rw[if_pos c]at a;exact⟨gp,gp,gp⟩;rename_i z;rw[if_neg z]at a;split at h;rename_i c;rw[if_pos c]at a;exact⟨gp,gp,gp⟩;rename_i q;rw[if_neg q]at a;let⟨l,d,h⟩:=h;let⟨y,m,a⟩:=a;rw[d]at m;cases m;split at h;rename_i c;rw[if_pos c]at a;exact⟨gp,gp,gp⟩;rename_i u;rw[if_neg u]at a;let⟨F,j,h⟩:=h;let⟨v,b,a⟩:=a;rw[j]at b;cases b;have s:χ t f n l F:=⟨L,L,L,L,L,d,j,L⟩;exact Am7 (V_ s) h a
structure qg (ar:Tx->Nat)(a:AE):Prop where
 nt:a.nt=false
 le:Z a.A<=3
 ln:Z a.A=ar a.B
 ps:0<Z a.A
 pl:Z a.B<=1000
 tm:∀t∈a.A,UT t/\Ab t=false
def nj (a:AE):rm:=(a.B,C4 (Eg [] a))
theorem tk (μ a):nj (G3 μ a)=(a.B,zi (λv=>(Aq (μ v)).2) a):=by rw[nj,C4,Eg,zi,G3];simp only[BH];congr 2;refine CG λt _=>?_;simp only[Function.comp,Ij,π];grind
def Avh (a):nj (wT a)=nj a:=rfl
def uv {t}(h:UT t)(a:Ab t=false):Km (false,(Aq t).2)=t:=by have e:(false,(Aq t).2)=Aq t:=GB (by grind[Cb]) rfl;rw[e,h.dec.1]
def sn {ar a b}(d:qg ar a)(f:qg ar b)(h:nj a=nj b):a=b:=by
 let⟨e,e2⟩:=Prod.mk.inj h;have m:a.A.map (λt=>(Aq t).2)=b.A.map λt=>(Aq t).2:=by
  refine Sz (by rw[BV,BV,d.ln,f.ln,e]) (by rw[BV];exact d.le) ?_;unfold C4 Eg at e2;simp only[BH]at e2;exact e2
 have c:∀l:ol,(∀t∈l,UT t/\Ab t=false)->(l.map λt=>(Aq t).2).map (λn=>Km (false,n))=l:=λl g=>by
  rw[BH]
  conv=>rhs;rw[<-IE l]
  exact CG λt k=>uv (g t k).1 (g t k).2
 have j:a.A=b.A:=by rw[<-c a.A d.tm,m,c b.A f.tm]
 have i:=d.nt.trans f.nt.symm;cases a;cases b;simp only at e j i;subst e;subst j;subst i;rfl
structure M_ (ar:Tx->Nat)(l:n0)(F:oq):Prop where
 rg:ξ l
 ut:∀x∈l,x.o=false->∀a,a=x.h\/a∈x.A->(∀t∈a.A,UT t)/\Z a.A<=3/\Z a.A=ar a.B/\0<Z a.A/\Z a.B<=1000
 hnt:∀x∈l,x.o=false->x.h.nt=false
 saf:∀x∈l,x.o=false->tD false x
 fac:∀a∈F,qg ar a
structure κ (ar:Tx->Nat)(l:n0)(F:oq)(M:pw)(s:Nat)(A:oq):Prop where
 gf:∀a∈A,qg ar a
 nd:A.Nodup
 fa:∀a∈F,a∈A
 sub:∀a∈A,M a.B (C4 (Eg [] a))
 low:∀p t,ov l p<s->M p t->∃a∈A,nj a=(p,t)
section
variable {ar:Tx->Nat} {l:n0} {F:oq} (hf:M_ ar l F) {M:pw} (hM:zp l (rk F) M) {s:Nat} {A:oq}
include hf
theorem s_ {x}(f:x∈l)(e:x.o=false){a}(m:a=x.h\/a∈x.A){μ}(j:∀v∈a.A,Ab v->UT (μ v)/\Ab (μ v)=false):qg ar (wT (G3 μ a)):=by
 let⟨d,g,o,k,i⟩:=hf.ut x f e a m;refine⟨rfl,by grind[wT,G3],by grind[wT,G3],by simp_all[wT,G3,BV],i,λt n=>?_⟩;obtain⟨u,b,rfl⟩:=AN.1 n;rw[Ij];grind
theorem v7 {d:oq}(j:∀a∈d,qg ar a){x}(k:x∈l)(i:x.o=false){μ}(o:∀a∈x.A,Pt false a->G3 μ a∈d){a}(c:a=x.h\/(a∈x.A/\Pt false a=false)):∀v∈a.A,Ab v->UT (μ v)/\Ab (μ v)=false:=λv e f=>by
 let⟨b,n,m,g⟩:=hf.saf x k i v f (gp)
 refine (j _ (o b n m)).tm (μ v) (AN.2 ⟨v,g,?_⟩);rw[Ij];rw[if_pos f]
end
section
variable {ar:Tx->Nat} {l:n0} {F:oq} (hf:M_ ar l F) {M:pw} (hM:zp l (rk F) M) {s:Nat} {A:oq}
include hf
include hM
theorem t_ (h:κ ar l F M s A):NN false (pz l s) A λa=>qg ar a/\M a.B (C4 (Eg [] a)):=by
 refine⟨λa c=>⟨h.gf a c,h.sub a c⟩,λv o z x u b B=>?_⟩;let⟨d,f,C⟩:=su u;obtain⟨i,j,t,rfl⟩:=B;have p:∀a∈v,qg ar a:=λa c=>(o a c).1;have k:=s_ hf d f (.inl rfl) (v7 hf p d f j (.inl rfl));have D:wT (G3 i x.h)=G3 i x.h:=by
  rw[wT,G3];simp[hf.hnt x d f]
 rw[D]at k;refine⟨k,?_⟩;have y:=(Prod.mk.inj (tk i x.h)).2;rw[y];refine (hM _ _).2 (zg.clo l (rk F) M x d f _ λa c=>?_);have e2:=(Prod.mk.inj (tk i a)).2;rw[zo];by_cases e:a.nt=true;rw[if_pos e,<-e2];intro g;have m:Pt false a=false:=by grind[Pt]
 have:=um hf.rg d c e;let⟨b,n,q⟩:=h.low _ _ L g;apply t a c m;rw[<-sn (h.gf b n) (s_ hf d f (.inr c) (v7 hf p d f j (.inr ⟨c,m⟩))) (by rw[q,Avh];rfl)];exact z b n;rw[if_neg e,<-e2];exact (hM _ _).1 (o _ (j a c (by grind[Pt]))).2
theorem Amv {q m}(h:κ ar l F M s A)(z:wE false (pz l s) A q m):κ ar l F M (s+1) m:=by
 have K:=z.least _ (t_ hf hM h);have I:∀a∈m,M a.B (C4 (Eg [] a)):=λa c=>(K a c).2;refine⟨λa c=>(K a c).1,z.nd,λa c=>z.gv a (h.fa a c),I,λp t y a6=>?_⟩;refine (hM p t).1 a6 (λp t=>ov l p<s+1->∃a∈m,nj a=(p,t)) (λp t ⟨a,c,g,e2⟩ _=>⟨a,z.gv a (h.fa a c),by rw[<-g,e2];rfl⟩) (λx E G j a0 ap=>?_) y;have T:∀a∈x.A,a.nt=false->∃b∈m,nj b=(a.B,zi j a):=λa c B=>by
  have d:=a0 a c;rw[zo]at d;rw[if_neg (ns B)]at d;have:=uk hf.rg E c;exact d L
 have S:∀a∈x.A,a.nt->¬M a.B (zi j a):=λa c B=>by grind[zo]
 by_cases a2:ov l x.h.B<s
 let⟨b,k,e⟩:=h.low _ _ a2 ((hM _ _).2 (zg.clo l (rk F) M x E G j λa c=>by
  rw[zo];by_cases e:a.nt=true;rw[if_pos e];exact S a c e;rw[if_neg e];let⟨b,k,i⟩:=T a c (nn e);let⟨g,e2⟩:=Prod.mk.inj i;have:=(hM _ _).1 (I b k);grind))
 exact⟨b,z.gv b k,e⟩;have a5:x∈pz l s:=BP.2 ⟨E,by grind[pf]⟩;let f:Tx->Tx:=λv=>Km (false,j v);have C:∀a∈x.A,a.nt=false->G3 f a∈m/\∀v∈a.A,Ab v->(Aq (f v)).2=j v:=λa c B=>by
  let⟨b,k,i⟩:=T a c B;let⟨g,e2⟩:=Prod.mk.inj i;obtain⟨u1,u2,u3,-⟩:=hf.ut x E G a (.inr c);have D:=(K b k).1;have N:b.A.map (λt=>(Aq t).2)=a.A.map (π j):=by
   refine Sz (by rw[BV,BV,D.ln,u3,g]) (by rw[BV];exact D.le) ?_;rw[C4,Eg]at e2;simp only[BH]at e2;exact e2
  have Q:b.A=a.A.map (Ij f):=by
   have d:(b.A.map λt=>(Aq t).2).map (λn=>Km (false,n))=b.A:=by
    rw[BH]
    conv=>rhs;rw[<-IE b.A]
    exact CG λt o=>uv (D.tm t o).1 (D.tm t o).2
   rw[<-d,N,BH];refine CG λt o=>?_;simp only[Function.comp,Ij,π];cases u:Ab t
   ·exact uv (u1 t o) u
   rfl
  have e5:G3 f a=b:=by
   cases b with
   |mk a4 bp bt=>
    simp only at g Q;have:a4=false:=D.nt;rw[G3];rw[B,<-g,<-Q,this]
  refine⟨e5▸k,λv u R=>?_⟩;let⟨a7,P⟩:=CL u;have d:(b.A.map λt=>(Aq t).2)[a7]?=some (j v):=by rw[N,DC,P];simp[π,R]
  rw[Q,BH,DC,P]at d;simpa[Ij,R]using d
 have U:∀a,(a=x.h\/(a∈x.A/\Pt false a=false))->zi (λv=>(Aq (f v)).2) a=zi j a:=λa c=>by
  unfold zi;congr 1;refine CG λt o=>?_;unfold π;cases u:Ab t
  ·rfl
  rw[if_pos rfl,if_pos rfl]
  obtain⟨b,k,a8,a3⟩:=hf.saf x E G t u (gp)
  exact (C b k (by grind[Pt])).2 t a3 u
 have ah:U1 false m x (G3 f x.h):=⟨f,λa c y=>(C a c (by grind[Pt])).1,λa c y a1=>by
  have d:=I _ a1;have e2:=(Prod.mk.inj (tk f a)).2;apply S a c (by grind[Pt]);rw[<-U a (.inr ⟨c,y⟩),<-e2]
  exact d,rfl⟩
 obtain d|d:=z.cl x a5 _ ah;exact⟨_,d,by grind[tk]⟩;cases d
theorem Au4 {c}(h:κ ar l F M s A)(n:pD false (pz l s) A c):∃Lqx:List rm,D_ M Lqx/\c<Z Lqx:=by let⟨Lqx,g,j,f⟩:=n _ (t_ hf hM h);refine⟨Lqx.map nj,⟨?_,λp t i=>?_⟩,gp⟩;rw[Nodup];rw[pairwise_map];exact Pairwise.imp_of_mem (λ{a b} d m o e=>o (sn (f a d).1 (f b m).1 e)) g;let⟨a,d,e⟩:=AN.1 i;let⟨k,e2⟩:=Prod.mk.inj e;grind
theorem Amu {A d}(f:wE false [] F d A):κ ar l F M 0 A/\η (rk F) (A.map nj):=by have g:=f.least (·∈F) ⟨λa c=>c,λ_ _ _ x i=>gp⟩;refine⟨⟨λa c=>hf.fac a (g a c),f.nd,f.gv,λa c=>(hM _ _).2 (zg.base ⟨a,g a c,rfl,rfl⟩),λp t h=>absurd h (Nat.not_lt_zero _)⟩,?_,λp t=>?_⟩;rw[Nodup];rw[pairwise_map];exact Pairwise.imp_of_mem (λ{a b} c k m e=>m (sn (hf.fac a (g a c)) (hf.fac b (g b k)) e)) f.nd;constructor;intro h;let⟨a,c,e⟩:=AN.1 h;let⟨j,e2⟩:=Prod.mk.inj e;exact⟨a,g a c,j,e2.symm⟩;rintro⟨a,c,rfl,rfl⟩;exact AN.2 ⟨a,f.gv a c,rfl⟩
theorem Ara (h:κ ar l F M (Z l+1) A):η M (A.map nj):=by refine⟨?_,λp t=>⟨λg=>?_,λg=>?_⟩⟩;rw[Nodup];rw[pairwise_map];exact Pairwise.imp_of_mem (λ{a b} c i d e=>d (sn (h.gf a c) (h.gf b i) e)) h.nd;let⟨a,c,e⟩:=AN.1 g;let⟨f,e2⟩:=Prod.mk.inj e;rw[<-f,<-e2];exact h.sub a c;have:=xd hf.rg p;let⟨a,c,e⟩:=h.low p t L g;exact AN.2 ⟨a,c,e⟩
end
def qh:ol->ol->Bool
 |t::a,u::b=>if Z t≠Z u then decide (Z t<Z u)else if t≠u then Op.bytesLess t u else qh a b
 |_,_=>false
def Aol {a b:ol}{i t u}(f:a[i]?=some t)(d:b[i]?=some u):qh (a.drop i) (b.drop i)=if Z t≠Z u then decide (Z t<Z u)else if t≠u then Op.bytesLess t u else qh (a.drop (i+1)) (b.drop (i+1)):=by let⟨c,g⟩:=BA.1 f;let⟨e,e2⟩:=BA.1 d;rw[ET c,ET e,g,e2];rfl
def uw (a b q p)(y:Bf a q)(D:Bf b p)(M:Z a.A<=Z b.A)(Lqx:Z b.A<=1000)(f):ni 118 [ag q,ag p] f λl σ'=>l=my (qh a.A b.A)/\W f σ':=by
 obtain⟨z,rfl⟩:=y;obtain⟨E,rfl⟩:=D;refine wl func118 ?_;refine X ?_
 refine Ae (λm s σ'=>∃(i:Nat),m=Z a.A-i/\i<=Z a.A/\s 2=ptr f.B 0/\s 3=ptr (f.B+1) 0/\s 5=Y i/\W f σ'/\f.B+1<σ'.B/\σ'.C f.B=[my a.nt,O a.B,lw z a.A]/\σ'.C (f.B+1)=[my b.nt,O b.B,lw E b.A]/\V (qh a.A b.A=qh (a.A.drop i) (b.A.drop i))) (Z a.A)
  ⟨0,L,L,AG,AG,AG,Xs,AM,by rw[Ah AM,Ao],by first|exact Ao|simp[Ao],by simp[V]⟩ ?_
 rintro m s σ' ⟨i,rfl,Q,N,P,R,k,I,K,G,e⟩;by_cases v:i<Z a.A;have o:=AK v;have n:=AK (show i<Z b.A by omega);have F:=A1 v;have C:=A1 (show i<Z b.A by omega);generalize a.A[i]=t at o F;generalize b.A[i]=u at n C;have g:V _:=Aol o n;by_cases j:Z t≠Z u;have B:((Z t:Int) !=(Z u:Int))=true:=by simp;omega
 have c:V (qh a.A b.A=decide ((Z t:Int)<(Z u:Int))):=by rw[V,e.o,g.o,if_pos j];simp
 refine X ?_
 first|exact⟨_,rfl,by rw[c.o],k⟩|exact⟨_,rfl,by rw[c.o]⟩
 have B:((Z t:Int) !=(Z u:Int))=false:=by simp;omega
 by_cases d:t≠u;have A:(t !=u):=nn d;have x:(t==u)=false:=nn d;have c:V (qh a.A b.A=Op.bytesLess t u):=by rw[V,e.o,g.o,if_neg j,if_pos d]
 refine X ?_
 exact⟨_,rfl,by rw[c.o]⟩
 have A:(t !=u)=false:=nn d;have x:(t==u):=nn d;have c:V (qh a.A b.A=qh (a.A.drop (i+1)) (b.A.drop (i+1))):=by rw[V,e.o,g.o,if_neg j,if_neg d]
 refine X ?_;refine⟨Z a.A-(i+1),L,i+1,?_⟩;exact m9 c;have c:V (qh a.A b.A=false):=by
  rw[V,e.o,drop_of_length_le L];unfold qh;rfl
 clear e;refine X ?_
 exact⟨_,rfl,by rw[c.o]⟩
def qm (d:Nat):UInt8:=UInt8.ofNat (48+d)
def N_ {a b}(d:a<=9)(c:b<=9):qm a<qm b↔a<b:=by unfold qm;rw[UInt8.lt_iff_toNat_lt];simp only[UInt8.toNat_ofNat'];omega
def u_ {a b}(d:a<=9)(c:b<=9):qm a=qm b↔a=b:=by unfold qm;rw[<-UInt8.toNat_inj];simp only[UInt8.toNat_ofNat'];omega
def v_ {v}(h:v<=999):(v<10/\Lib.decDigits v=[qm v])\/(10<=v/\v<100/\Lib.decDigits v=[qm (v / 10),qm (v % 10)])\/(100<=v/\Lib.decDigits v=[qm (v / 100),qm (v / 10 % 10),qm (v % 10)]):=by
 have two:∀v,10<=v->v<100->Lib.decDigits v=[qm (v / 10),qm (v % 10)]:=λv a b=>by
  have:=Za (v:=v / 10) (d:=v % 10) L L;rw[show v / 10*10+v % 10=v by omega,Lib.decDigits_one (show v / 10<10 by omega)]at this;exact this
 by_cases a:v<10;exact .inl ⟨a,Lib.decDigits_one a⟩;by_cases b:v<100;exact .inr (.inl ⟨L,b,two v L b⟩);refine .inr (.inr ⟨L,?_⟩);have:=Za (v:=v / 10) (d:=v % 10) L L;rw[show v / 10*10+v % 10=v by omega,two (v / 10) L L,show v / 10 / 10=v / 100 by omega]at this;exact this
def Ar3 {v w}(f:v<=999)(e:w<=999):(Z (Lib.decDigits v)≠Z (Lib.decDigits w)->decide (Z (Lib.decDigits v)<Z (Lib.decDigits w))=decide (v<w))/\(Z (Lib.decDigits v)=Z (Lib.decDigits w)->Op.bytesLess (Lib.decDigits v) (Lib.decDigits w)=decide (v<w)):=by
 rcases v_ f with⟨c,b⟩|⟨a0,c,b⟩|⟨c,b⟩<;>rcases v_ e with⟨d,a⟩|⟨b0,d,a⟩|⟨d,a⟩<;>rw[b,a]<;>refine⟨λh=>?_,λh=>?_⟩<;>simp only[BQ,CQ,ne_eq,not_true_eq_false]at h⊢ <;>first
  |(exact absurd h nr)
  |(rw[GI,CV,CV];omega)
  |(rw[GI,CV]
    simp only[Op.bytesLess,Bool.or_false,Bool.and_false,LF,BM,CV,DO];rw[N_ L L]
    try rw[N_ L L,u_ L L]
    try rw[N_ L L,u_ L L]
    all_goals omega)
def O_ {t}(h:UT t)(b:Ab t=false):∃v:Nat,v<=999/\(Aq t).2=v/\t=Lib.decDigits v:=by
 obtain a|⟨-,c,d,f⟩:=h.1;rw[b]at a;cases a;refine⟨(Aq t).2.toNat,L,L,?_⟩;have e:(Aq t).2=(((Aq t).2.toNat:Nat):Int):=L;rw[e]at c
 conv=>lhs;rw[<-c]
 rw[Lib.itoa];rw[if_neg L,DK]
def w_:∀{ts us:ol},(∀t∈ts,UT t/\Ab t=false)->(∀t∈us,UT t/\Ab t=false)->qh ts us=nz (ts.map λt=>(Aq t).2) (us.map λt=>(Aq t).2)
 |[],_,_,_=>by simp[qh,nz]
 |_::_,[],_,_=>by simp[qh,nz]
 |t::ts,u::us,b,c=>by
  let⟨v,n,l,i⟩:=O_ (b t nk).1 (b t nk).2;let⟨w,p,f,g⟩:=O_ (c u nk).1 (c u nk).2;have m:=w_ (ts:=ts) (us:=us) (λx d=>b x (ns d)) λx d=>c x (ns d);let⟨j,k⟩:=Ar3 n p;rw[<-i,<-g]at j k;simp only[CC,qh,nz];grind
def Asi:∀{xs c:List Int},Z xs=Z c->Z xs<=3->nz (Ej xs) (Ej c)=nz xs c
 |[],[],_,_=>by simp[Ej,nz]
 |[a],[b],_,_=>by simp[Ej,nz]
 |[a,e],[b,d],_,_=>by simp[Ej,nz]
 |[a,e,f],[b,d,g],_,_=>by simp[Ej,nz]
 |[],_::_,h,_=>gp
 |_::_,[],h,_=>gp
 |[_],_::_::_,h,_=>gp
 |[_,_],[_],h,_=>gp
 |[_,_],_::_::_::_,h,_=>gp
 |[_,_,_],[_],h,_=>gp
 |[_,_,_],[_,_],h,_=>gp
 |[_,_,_],_::_::_::_::_,h,_=>gp
 |_::_::_::_::_,_,_,h=>gp
def P_ {ar a b}(c:qg ar a)(d:qg ar b)(e:a.B=b.B):qh a.A b.A=nz (nj a).2 (nj b).2:=by rw[w_ c.tm d.tm];unfold nj C4 Eg;simp only[BH];exact (Asi (by rw[BV,BV,c.ln,d.ln,e]) (by rw[BV];exact c.le)).symm
def pb (a b:AE):Bool:=nz (nj a).2 (nj b).2
def Ξ (a):Z (nj a).2=3:=rfl
def Avp {a b c}(d:pb b a=false)(h2:pb c b=false):pb c a=false:=ue (Ξ a) (Ξ b) (Ξ c) d h2
def Q_ {a b}(h:pb a b):pb b a=false:=s7 h
theorem uz (a):pb a a=false:=ud _
def Avq {ar a b}(e:qg ar a)(f:qg ar b)(c:a.B=b.B)(d:pb a b=false)(h2:pb b a=false):a=b:=sn e f (GB c (f_ (Ξ a) (Ξ b) d h2))
def zl (A:oq)(p:Tx)(a:Int)(b:AE):Prop:=b.B=p/\(a= -1\/∃(j:Nat) (c:AE),a=j/\A[j]?=some c/\pb c b)
def ze (A:oq)(p:Tx)(a:Int)(i:Nat)(d:Int):Prop:=(d= -1/\∀b∈A.take i,¬zl A p a b)\/∃(j:Nat) (b:AE),d=j/\A[j]?=some b/\zl A p a b/\∀c∈A.take i,zl A p a c->pb c b=false
def ze.skip {A p f i m w}(h:ze A p f i m)(n:A[i]?=some w)(k:¬zl A p f w):ze A p f (i+1) m:=by
 have l:∀b∈A.take (i+1),b∈A.take i\/b=w:=λb d=>by simp_all[AT]
 obtain⟨e,g⟩|⟨j,b,e,g,q,s⟩:=h;exact .inl ⟨e,λb d=>gp⟩;exact .inr ⟨j,b,e,g,q,λc o a=>gp⟩
def ze.keep {A p f i j w b}(h:ze A p f i (j:Nat))(m:A[i]?=some w)(g:A[j]?=some b)(l:pb w b=false):ze A p f (i+1) (j:Nat):=by obtain⟨k,-⟩|⟨n,s,k,e,o,q⟩:=h;omega;obtain rfl:n=j:=L;rw[g]at e;cases e;refine .inr ⟨n,b,rfl,g,o,λc a d=>?_⟩;rw[AT,m]at a;obtain a|a:=AW.1 a;exact q c a d;have:c=w:=nn a;exact this▸l
def ze.new {A p f i k w}(h:ze A p f i k)(m:A[i]?=some w)(o:zl A p f w)(l:k= -1\/∃(j:Nat) (b:AE),k=j/\A[j]?=some b/\pb w b):ze A p f (i+1) (i:Nat):=by refine .inr ⟨i,w,rfl,m,o,λc a d=>?_⟩;rw[AT,m]at a;obtain a|a:=AW.1 a;obtain⟨n,g⟩|⟨j,b,n,g,v,q⟩:=h;cases (g c a) d;obtain l|⟨s,t,u,e2,e⟩:=l;omega;obtain rfl:s=j:=L;rw[g]at e2;cases e2;exact Avp (Q_ e) (q c a d);have:c=w:=nn a;exact this▸uz w
structure zq (A:oq)(p:Tx)(la:Int)(K:oq):Prop where
 mem:∀b∈K,b∈A/\b.B=p
 srt:K.Pairwise fun a b=>pb a b=true
 las:(la= -1/\K=[])\/∃(j:Nat) (b:AE) (K0:oq),la=j/\A[j]?=some b/\K=K0++[b]
 all:∀b∈A,b.B=p->b∈K\/∀c∈K,pb c b
section
variable {ar:Tx->Nat} {A K:oq} (hg:∀a∈A,qg ar a) {p:Tx} {la:Int}
include hg
theorem zq.cnd (h:zq A p la K){b}(g:b∈A)(f:zl A p la b):∀c∈K,pb c b:=by obtain a|a:=h.all b g f.1;exfalso;obtain⟨-,rfl⟩|⟨j,d,K0,m,e2,rfl⟩:=h.las;cases a;obtain i|⟨l,c,n,k,e⟩:=f.2;omega;obtain rfl:l=j:=L;rw[e2]at k;cases k;obtain a|a:=AW.1 a;have:=(pairwise_append.1 h.srt).2.2 b a d nk;rw[Q_ this]at e;cases e;have:b=d:=nn a;rw[this,uz]at e;cases e;exact a
theorem zq.more (h:zq A p la K){j b}(n:A[j]?=some b)(i:zl A p la b)(s:∀c∈A,zl A p la c->pb c b=false):zq A p (j:Nat) (K++[b]):=by
 have k:=AY n;have u:=h.cnd hg k i;refine⟨λc a=>?_,?_,.inr ⟨j,b,K,rfl,n,rfl⟩,λe l f=>?_⟩;obtain g|g:=AW.1 a;exact h.mem c g;have:c=b:=nn g;rw[this];exact⟨k,i.1⟩
 exact pairwise_append.2 ⟨h.srt,nk,λc a d t=>gp⟩
 obtain g|g:=h.all e l f;exact .inl (GK _ g)
 have y:zl A p la e:=⟨f,by
  obtain⟨q,-⟩|⟨x,d,K0,v,e2,rfl⟩:=h.las;exact .inl q
  exact .inr ⟨x,d,v,e2,g d nk⟩⟩
 cases o:pb b e
 ·have:=Avq (hg e l) (hg b k) (f.trans i.1.symm) (s e l y) o;exact .inl (gp)
 refine .inr λc a=>?_;rcases AW.1 a with m|m;exact g c m;have:c=b:=nn m;rw[this];exact o
theorem zq.done (h:zq A p la K)(u:∀b∈A,¬zl A p la b)(q:A.Nodup):K.map (λa=>(nj a).2)=pg (qe (A.map nj) p):=by
 have n:∀b,b∈K↔b∈A/\b.B=p:=λb=>⟨h.mem b,λ⟨c,k⟩=>by
  obtain g|g:=h.all b c k;exact g;refine absurd ⟨k,?_⟩ (u b c);obtain⟨c,-⟩|⟨v,d,K0,l,e2,rfl⟩:=h.las;exact .inl c;grind⟩
 have m:(A.map nj).Nodup:=by rw[Nodup];rw[pairwise_map];exact Pairwise.imp_of_mem (λ{a b} s i o e=>o (sn (hg a s) (hg b i) e)) q
 refine uh (λt j=>?_) ?_ ?_;obtain⟨a,-,e⟩:=AN.1 (δ.1 j);rw[<-(Prod.mk.inj e).2];rfl;refine (perm_ext_iff_of_nodup ?_ (tj m p)).2 λt=>?_;rw[Nodup];rw[pairwise_map];refine h.srt.imp λ{a b} f e=>?_;rw[pb]at f;rw[e,ud]at f;cases f;rw[δ];constructor;intro j;obtain⟨b,i,rfl⟩:=AN.1 j;let⟨c,k⟩:=(n b).1 i;exact AN.2 ⟨b,c,GB k rfl⟩;intro j;let⟨b,i,e⟩:=AN.1 j;let⟨l,e2⟩:=Prod.mk.inj e;exact AN.2 ⟨b,(n b).2 ⟨i,l⟩,e2⟩;rw[px];rw[pairwise_map];exact h.srt.imp λf=>Q_ f
end
def zq.len {A K p d}(h:zq A p d K):Z K<=Z A:=by
 have c:K.Nodup:=h.srt.imp λa e=>by grind[uz]
 classical exact td K A c λb f=>(h.mem b f).1
def Aq5:∀{xs:List Int},(∀x∈xs,0<=x)->Z xs<=3->qw (Ej xs)=xs
 |[],_,_=>by simp[qw,Ej]
 |[a],h,_=>by have:=h a nk;have d:a≠ -1:=L;simp[qw,Ej,takeWhile,d]
 |[a,b],h,_=>by have f:=h a nk;have i:=h b nk;have d:a≠ -1:=L;have e:b≠ -1:=L;simp[qw,Ej,takeWhile,d,e]
 |[a,b,c],h,_=>by have f:=h a nk;have i:=h b nk;have j:=h c nk;have d:a≠ -1:=L;have e:b≠ -1:=L;have g:c≠ -1:=L;simp[qw,Ej,takeWhile,d,e,g]
 |_::_::_::_::_,_,h=>gp
def x_ {ar a}(h:qg ar a)(m:0<Z a.A):Ec [] a++[46]=pn a.B (nj a).2:=by
 have l:ri (nj a).2=pe (a.A.map λt=>(Aq t).2):=by
  rw[ri];congr 1;have:(nj a).2=Ej (a.A.map λt=>(Aq t).2):=by rw[nj,C4,Eg];simp only[BH];rfl
  rw[this];refine Aq5 (λx k=>?_) (by rw[BV];exact h.le);obtain⟨t,c,rfl⟩:=AN.1 k;obtain⟨v,-,e,-⟩:=O_ (h.tm t c).1 (h.tm t c).2;omega
 have b:∀t∈a.A,Lib.itoa (Aq t).2=t/\C6 [] t=t:=λt c=>by let⟨i,f⟩:=h.tm t c;refine⟨?_,if_neg (ns f)⟩;obtain g|g:=i.1;rw[f]at g;cases g;exact g.2.1
 rw[pn,Ec];rw[l,if_neg (by simp[h.nt])];have j:=h.le
 match d:a.A,m,j with
 |[t],_,_=>
  rw[d]at b;simp[pe,Ii,Ph,(b t nk).1,(b t nk).2]
 |[t,u],_,_=>
  rw[d]at b;simp[pe,Ii,Ph,(b t nk).1,(b t nk).2,(b u nk).1,(b u nk).2]
 |[t,u,v],_,_=>
  rw[d]at b;simp[pe,Ii,Ph,(b t nk).1,(b t nk).2,(b u nk).1,(b u nk).2,(b v nk).1,(b v nk).2]
 |_::_::_::_::_,_,h=>simp at h
end Go.Proofs.YtmoeoppbmhfbpabGreatDoorJ
