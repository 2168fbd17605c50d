import Derived.Test.YtmoeoppbmhfbpabGreatDoorG
import Derived.Test.YtmoeoppbmhfbpabGreatDoorLa
set_option maxHeartbeats 64000000
set_option maxRecDepth 100000
set_option linter.all false
open List
open List renaming length->Z
namespace Go.Proofs.YtmoeoppbmhfbpabGreatDoorJ
open Go.Abs Tryz
def Aji (t n m T li y ts)(he:ql t n m 0)(b2:q8 t=(T,0))(hT:Z T<=1000)(hg:nV T)(hI:Bl T=li)(cq:0<=n)(bc:li[n.toNat]?=some y)(dh:Z li<=1000)(af:0<=m)(an:m<Z y.A)(Jqx:Put y m.toNat ts)(f):
  ni 57 [O t,Y n,Y m,O (Bp ts),Y 0] f λa σ'=>a=my true/\W f σ':=by
 have b6:∀f,ni 97 [O t,Y n,Y m] f λa σ'=>a=Y 0/\W f σ':=λf=>(w8 t n m f).mono λa σ' ⟨e',h1,C,h3⟩=>⟨by rw[h1,w9 C he],h3⟩;have bg:=λf=>xg t f;rw[b2]at bg;have bp:=λf=>L2 T hT (ny hg.1) hg.2 f;rw[hI]at bp;have bi:=λae hc f=>gC y ae hc Jqx.fits f;have db:=Ai8 (λu K=>(Jqx.solid u K).2);have bq:=λf=>Sd (Bp ts) 44 (by have:=Jqx.len;have:=Jqx.few;omega) f;rw[oF (λu K=>(Jqx.solid u K).1)]at bq;have df:=(BA.1 bc).1;have de:((n.toNat:Nat):Int)=n:=Int.toNat_of_nonneg cq;have cr:((m.toNat:Nat):Int)=m:=Int.toNat_of_nonneg af;have cn:n<(Z li:Int):=L;have cg:V _:=bc;have E:V _:=Jqx;have bf:=Jqx.few;have a2:=Jqx.len;have cf:V (∀u∈ts,Z u<=1000):=λu K=>(Jqx.solid u K).2;have da:=Jqx.fits.1;clear he b2 hg hI bc Jqx;generalize bw:Au y=d at bi bf a2;have bu:V _:=bw;clear bw;have di:((Z ts:Int) !=(Z d:Int))=false:=ns a2
 have av:V _:=a2;clear a2;refine wl func57 ?_
 repeat' first|refine Z1 ?_|refine Z8 λyb ya=>?_|refine Z4 ?_;clear ya yb|refine Z2 ?_ ?_<;>intro h a5<;>try exact Xp|refine Z6 ?_;intro g ad A aa ac a4 ab a3|(refine Z5 ?_;first|(refine Xi (b6 _) ?_;rintro _ _ ⟨rfl,ce⟩;(have a9:=ce.B))|(refine Xi (bg _) ?_;rintro _ _ ⟨rfl,z⟩;(have ao:=z.B))|(refine Xi (bp _) ?_;rintro _ _ ⟨ap,cs,rfl,hE,cd⟩;(have a8:=cd.B;have dj:=r.length Cf hE;let⟨I,id,b,a,hb,hd⟩:=Cv hE cg.o;have bh:=bi _ (AJ.of (ih:=I) (id:=id) hb);unfold A4 at bh))|(refine Xi (bh _) ?_;rintro _ _ ⟨ai,rfl,bn⟩;(have ax:=bn.C;have ay:=bn.B;simp only[Aa,Ac]at ay))|(refine Xi (bq _) ?_;rintro _ _ ⟨ah,rfl,bm⟩;(have aw:=bm.C;have a7:=bm.B)))|refine Z7 ?_|exact Zt|apply ya.o;clear ya yb
 rename_i ak b3 N;let⟨o,G⟩:∃o,o=ak.B:=⟨_,rfl⟩;have b8:W f N:=Xs;have l:N.C o=(ko y I id b):=by rw[G,aw _ L,ax _ BJ,Ak]
 have M:o<N.B:=L;have dc:f.B<=o:=L;rw[<-G];clear ce z cd bn bm a9 ao a8 ay a7 ax aw bh bi bq bp bg b6 G;have bz:∀i,(d.zip ts).take (i+1)=(d.zip ts).take i++((d.zip ts)[i]?).toList:=λi=>AT;have P:Z (d.zip ts)=Z d:=by rw[length_zip,av.o];exact Nat.min_self _
 refine Ae (λS s σ'=>∃(i q:Nat) (p:Tx),S=Z d-i/\i<=Z d/\s 2=Y m/\s 3=O (Bp ts)/\s 14=ptr o 0/\s 15=lw ai d/\s 16=lw ah ts/\s 17=O p/\s 18=sl q i (Ds ((d.zip ts).take i))/\s 19=Y i/\W f σ'/\o<σ'.B/\σ'.C o=(ko y I id b)/\J f σ' q i/\Z p<=i*1001/\V (p=Bp (ts.take i))) (Z d)
  ⟨0,1,[],L,L,by simp[upd,AL],by simp[upd,AL],AG,AG,AG,AG,by simp[upd,Ds],rfl,b8,M,l,J.nil _ _,nk,by simp[V,Bp]⟩ ?_
 clear b8 M l;rintro S s σ' ⟨i,q,p,rfl,hi,C,h3,e,c8,c7,c6,B,cz,c,M,l,hO,cv,hA⟩;have a6:=c.B;by_cases R:i<Z d
 ·have au:i<Z ts:=ny av.o
  have g1:=A1 R;have g2:=A1 au;have bb:=cf.o ts[i] (AR au);have F:V (Ds ((d.zip ts).take (i+1))=Ds ((d.zip ts).take i)++[O d[i],O ts[i]]):=by
   rw[V,bz i,AK (by rw[P];exact R),BN,mB,getElem_zip]
  have U:V (Bp (ts.take (i+1))=p++((if i=0 then []else [44])++ts[i])):=by
   rw[V,AT,AK au,BN,Vw,hA.o];by_cases h0:i=0
   ·subst h0;simp
   have cp:ts.take i≠[]:=by
    intro a1;have:=congrArg length a1;rw[CN,CQ]at this;omega
   rw[if_neg cp,if_neg h0]
  have ba:Z (Ds ((d.zip ts).take i))=i*2:=by rw[Qa,CN,P];omega
  generalize d[i]=v at g1 F;generalize ts[i]=u at g2 F U bb;generalize Ds ((d.zip ts).take i)=xs at B F ba;by_cases x:i=0
  ·have ct:decide ((0:Int)<(i:Int))=false:=ns x
   have U:V (Bp (ts.take (i+1))=p++u):=by rw[V,U.o,if_pos x];simp
   clear x;refine mu ?_;refine Ax Ag (λ_=>True) [11,12] [0,1,2,3,4,5,6,7,8,9] [10,11,12] AH (λ_ _ _ h=>h) ?_;have cx:W σ' (σ'.lay 1):=(W.refl _).lay 1;intro yb ya
   repeat' first|refine Z1 ?_|refine Z8 λyb ya=>?_|refine Z4 ?_;clear ya yb|refine Z2 ?_ ?_<;>intro h a5<;>try exact Xp|refine Z6 ?_;intro g ad A aa ac a4 ab a3|refine Z7 ?_|exact Zt|apply ya.o;clear ya yb
   exact⟨Z d-(i+1),L,i+1,g,p++u,rfl,L,rfl,by rw[F.o],nk,A,by simp only[AX,BQ,CQ];omega,by rw[V,U.o]⟩
  have ct:decide ((0:Int)<(i:Int)):=by simp;omega
  have U:V (Bp (ts.take (i+1))=p++([44]++u)):=by rw[V,U.o,if_neg x]
  have dm:({data:=#[44]}:ByteArray)=bs [44]:=rfl;clear x;refine mu ?_;refine Ax Ag (λ_=>True) [11,12] [0,1,2,3,4,5,6,7,8,9] [10,11,12] AH (λ_ _ _ h=>h) ?_;have cx:W σ' (σ'.lay 1):=(W.refl _).lay 1;intro yb ya
  repeat' first|refine Z1 ?_|refine Z8 λyb ya=>?_|refine Z4 ?_;clear ya yb|refine Z2 ?_ ?_<;>intro h a5<;>try exact Xp|refine Z6 ?_;intro g ad A aa ac a4 ab a3|refine Z7 ?_|exact Zt|apply ya.o;clear ya yb
  exact⟨Z d-(i+1),L,i+1,g,p++[44]++u,rfl,L,rfl,by rw[F.o],nk,A,by simp only[AX,BQ,CQ];omega,by rw[V,U.o,CR]⟩
 obtain rfl:i=Z d:=L;have cy:p=Bp ts:=by rw[hA.o,<-av.o,AS]
 subst cy;rw[show (d.zip ts).take (Z d)=d.zip ts by rw[<-P,AS]]at B;have ba:Z (Ds (d.zip ts))=Z d*2:=by rw[Qa,P]
 have b0:∀i,i<Z d->∃v u a,(Ds (d.zip ts)).drop (i*2)=O v::O u::a/\(v∈y.h.A->u=v):=by
  intro i hi;have cu:i<Z (d.zip ts):=by rw[P];exact hi
  let⟨a,hr⟩:=X6 (AK cu);exact⟨_,_,a,hr,E.o.h _ (by rw[bu.o];exact AR _)⟩
 have b7:∀(j:Nat) (a0:AE),y.A[j]?=some a0->∀f,ni 101 [ag (ko y I id b),Y j,Y m,sl q (Z d) (Ds (d.zip ts))] f λa σ'=>a=my true/\W f σ':=by
  intro j a0 ha f;have h:=Ae6 y _ j m.toNat (d.zip ts) q a0 (AJ.of (ih:=I) (id:=id) hb) E.o.fits ha (by rw[P];omega) (by have:=E.o.lands j a0 ha;rw[bu.o]at this;exact this) f;rw[P,cr]at h;exact h
 have cw:=λv f=>yp y.h _ v ⟨I,rfl⟩ E.o.fits.2.1 f;have dk:=r.length A7 hb;generalize Ds (d.zip ts)=xs at B ba b0 b7;clear bz P cf bu cg E hE hd;refine mu ?_
 refine Ae (λS s σ'=>∃i:Nat,S=Z d-i/\i<=Z d/\s 2=Y m/\s 14=ptr o 0/\s 18=sl q (Z d) xs/\s 20=Y i/\W f σ'/\o<σ'.B/\σ'.C o=(ko y I id b)) (Z d)
  ⟨0,L,L,by simp[upd,C],by simp[upd,e],by simp[upd,B],rfl,c,M,l⟩ ?_
 clear c M l a6 C h3 e c8 c7 c6 B cz hO cv hA R;rintro S s σ' ⟨i,rfl,hi,C,e,B,D,c,M,l⟩;have a6:=c.B;by_cases R:i<Z d
 ·let⟨v,u,r2,hd,bv⟩:=b0 i R;have c9:V _:=bv;clear bv
  refine mu ?_;refine A2 (Q:=λa1 k aj=>a1= .normal/\k 2=Y m/\k 14=ptr o 0/\k 18=sl q (Z d) xs/\k 20=Y i/\k 109=my false/\W σ' aj) ?_ ?_
  ·refine bT [] [0,1,2,3,4,5,6] 14 (nv 21 127) ?_;refine tn 7 (cw v) ?_;rintro yb ya _ N ⟨bo,rfl,b1,z⟩;refine ux ?_;have ao:=z.B;refine Df [8,9,10,11,12,13,14,15,16,17,18,19,20] AH AH (λ_ _ _ h=>by cases h.1) z.B (λo G _=>z.ver o G) ?_;intro yb ya;cases bo with
   |true=>
    obtain rfl:u=v:=c9.o (b1.1 rfl);have dl:(u !=u)=false:=nk;refine Z7 ?_;refine ya.o _ _ ⟨rfl,?_⟩;simp[upd,C,e,B,D];exact z
   |false=>
    have cj:v∉y.h.A:=λh=>by cases b1.2 h
    refine Z7 ?_;refine ya.o _ _ ⟨rfl,?_⟩;simp[upd,C,e,B,D]
    exact z
  clear C e B D;rintro a1 k am ⟨rfl,C,e,B,D,br,b9⟩;have cm:am.C o=(ko y I id b):=by rw[b9.C _ M];exact l
  have ci:=b9.B;clear l;refine mu ?_;refine De br ?_;refine mu ?_;exact⟨Z d-(i+1),L,i+1,rfl,L,nk,Xs,L⟩
 obtain rfl:i=Z d:=L;refine mu ?_
 refine wn [2,14,18] 21 (Z y.A) (λj s σ'=>W f σ'/\o<σ'.B/\σ'.C o=(ko y I id b)) ⟨c,M,l⟩ ?_
 clear c M l a6 C e B D R hi;rintro j s σ' _ _ _ ⟨c,M,l⟩;have a6:=c.B;by_cases R:j<Z y.A
 ·have hL:=b7 j _ (AK R)
  repeat' first|refine Z1 ?_|refine Z8 λyb ya=>?_|refine Z4 ?_;clear ya yb|refine Z2 ?_ ?_<;>intro h a5<;>try exact Xp|refine Z6 ?_;intro g ad A aa ac a4 ab a3|refine Z5 ?_;refine Xi (hL _) ?_;rintro _ _ ⟨rfl,z⟩;(have ch:=z.C;have ao:=z.B)|refine Z7 ?_|exact Zt|apply ya.o;clear ya yb
  exact⟨Xs,L⟩
 refine mu ?_;exact⟨_,rfl,rfl⟩
theorem Ahw {i:Nat}(h:i<26):aH Aq [Im (i:Int)]=i:=by grind[aH,Et,E4,Fv]
theorem T_ {y s n}(b:Au y=(range n).map λi=>[Im ((i:Nat):Int)]){p}(a:p∈(Au y).zip (pp s n)):∃i:Nat,i<n/\p.1=[Im (i:Int)]/\p.2=Km (s.2 i):=by grind[pp]
def vd {t u}:∀(l:List (Tx×Tx)) (acc:Tx),(∀p∈l,p.1=t->p.2=u)->l.foldl (qz t) acc=u\/(l.foldl (qz t) acc=acc/\∀p∈l,p.1≠t)
 |[],acc,_=>.inr ⟨rfl,λp a=>gp⟩
 |q::l,acc,h=>by have b:=vd l (qz t acc q) λp a=>h p (ns a);rw[FW];obtain b|⟨b,d⟩:=b;exact .inl b;by_cases c:q.1=t;left;rw[b,qz,if_pos c];exact h q nk c;right;refine⟨by grind[qz],λp a=>?_⟩;obtain rfl|a:=BD.1 a;exact c;exact d p a
def Ave {N y k s0 s}(f:lr y)(R:y.fits)(T:∀a∈y.A,a.B∈N)(o:∀a∈y.A,∀b∈y.A,a.B=b.B->Z a.A=Z b.A)(Jqx:C9 Mx (y.h.A.map Aq) (y.h.A.map Aq)=some s0)(h:Mz N y k s0=some s):Put y k (pp s (Z (Au y))):=by
 let⟨S,C,F⟩:=found f T o Jqx h;have j:=f.ord;have M:=f.len;generalize a1:Z (Au y)=n at j M C;have D:∀i:Nat,i<n->Ab [Im (i:Int)]:=λi c=>E4 L L;refine⟨R,L,by grind[pp],λt g=>?_,λp m E=>?_,λa3 a K=>?_⟩;rw[pp]at g;rw[AN]at g;obtain⟨i,c,rfl⟩:=g;let⟨u,d,e⟩:=C i (nn c);rw[e,d.dec.1];exact⟨qD d.2.1,d.2.2.1⟩;let⟨i,c,l,e2⟩:=T_ j m;have d:=f.ut y.h (Ap (.inl ⟨f.o,rfl⟩)) _ E;have A:=S p.1 E (l▸D i c);have v:aH Aq p.1=i:=l▸Ahw L
 rw[v]at A;rw[e2,A];exact d.dec.1;have z:=AY K;obtain⟨b,Q,G,U,P⟩:=F a z;refine⟨b,Q,G.symm,U.symm,?_⟩;rw[<-P];apply CG;intro t g;have d:=f.ut a (Ap (.inr z)) t g;unfold U0 r6;cases B:Ab t
 ·rw[if_neg nk]
  rcases vd (t:=t) (u:=t) ((Au y).zip (pp s n)) t (λp m a0=>by grind[T_])with q|⟨q,-⟩
  exact q.symm;exact q.symm
 rw[if_pos rfl]
 rcases vd (t:=t) (u:=Km (s.2 (aH Aq t))) ((Au y).zip (pp s n)) t (λp m a0=>by grind[T_,aH,Aq,Ahw])with q|⟨-,q⟩
 exact q.symm;exfalso;have x:t∈Au y:=No _ _ _ (.inr ⟨EX.2 ⟨a,Ap (.inr z),g⟩,B⟩);obtain⟨i,c⟩:=CL x;have a2:=(BA.1 c).1;have I:((Au y).zip (pp s n))[i]?=some (t,(pp s n)[i]'(by grind[pp])):=gp
 exact q _ (AY I) rfl
def yq (t n m p)(h:rf t n m p)(i):ni 57 [O t,Y n,Y m,O p.1,Y p.2] i λa1 σ'=>a1=my true/\W i σ':=by
 rw[rf]at h;by_cases f:(Av t).1=0;rw[if_neg (ns f)]at h;let⟨N,l,a7,d,h⟩:=h;have v:=d.items;obtain⟨rfl,g⟩|⟨x,b,ak,U,c,B,a0,a9,y,h⟩:=h;refine vc t n m 6 ?_ nr i;rw[ql];rw[if_neg (ns f),v];by_cases F:m<0;rw[if_pos (.inr (.inr (.inl F)))];obtain g|g|⟨x,c,u⟩:=g;by_cases M:n<0;rw[if_pos (.inl M)];rw[if_pos];right;right;right;intro x c;rw[qf]at g;rw[if_pos L,c]at g;have B:x.o:=nn g;rw[((d.wit x (AY c)).2.1 B).2.2];simp;omega;cases F g;rw[if_pos];right;right;right;intro aa G;rw[c]at G;cases G;exact u;have u:=AY c;have a3:=(BA.1 c).1;let⟨a5,A,K⟩:=d.ask u B m.toNat;have E:=A.e0;rw[y]at E;cases E;have z:∀e,((Db (C8 x m.toNat)/\Hj x m.toNat)/\e=0\/¬(Db (C8 x m.toNat)/\Hj x m.toNat)/\e=10)->ql t n m e:=λe h=>by grind[ql]
 rw[<-K]at z;cases o:Mz N (ren x) m.toNat b with
 |none=>
  rw[o]at h;subst h;exact vc t n m 10 (z _ (.inr ⟨(λ⟨a6,a2⟩=>gp),rfl⟩)) nr i
 |some s=>
  rw[o]at h;subst h;have R:=(T0 d.bk.el x u).2
  have T:=Ave (N:=N) (k:=m.toNat) (s0:=b) (s:=s) A.ino A.fits (λa j=>by
   simp only[ren,AN]at j;obtain⟨C,D,rfl⟩:=j;exact R C D) (λa j a8 q Q=>by
   simp only[ren,AN]at j q;obtain⟨C,D,rfl⟩:=j;obtain⟨P,S,rfl⟩:=q
   simpa[Br]using dM d.ok x (v▸u) C (Ap (.inr D)) P (Ap (.inr S)) Q) y o
  let⟨a4,I⟩:=d.whole;refine Aji t n m (Bj l) (l.map ren) (ren x) _ (z 0 (.inl ⟨⟨s,o⟩,rfl⟩)) (by grind[q8]) L I (Ns d.wit d.wi) U (gp) (by rw[BV];have:=d.bk.len;omega) a0 (by grind[ren]) T i
 rw[if_pos f]at h;subst h;exact vc t n m _ (by grind[ql]) f i
def Auc (o:iR)(y:o.kind=5)(c)(k:EO o c)(a):ni 33 [ag c] a λi σ'=>i=my true/\W a σ':=by
 have z:=λa=>Aa0 o.s o.n o.m a;rw[EO]at k;subst k;rw[y]at*
 refine wl func33 ?_
 repeat' first|refine Z1 ?_|refine Z8 λyb ya=>?_|refine Z4 ?_;clear ya yb|refine Z2 ?_ ?_<;>intro h x<;>try exact Xp|refine Z5 ?_;refine Xi (z _) ?_;rintro _ _ ⟨p,rfl,l,q⟩;(have A:=q.C;have u:=q.B;have v:=λa=>yq o.s o.n o.m p l a;clear l;(try simp only[Aa,Ac,Az]at u))|refine Z7 ?_|exact Zt|apply ya.o;clear ya yb
 rename_i d;refine A2 (Q:=λe n f=>e= .normal/\n 2=my true/\W a f) ?_ ?_
 ·refine bT [] [0,1,2,3,4,5,6,7] 3 (nv 11 255) ?_;refine tn 8 (VX _) ?_;rintro yb ya _ s ⟨rfl,b⟩
  replace b:=b.symm;subst b;have g:W d d:=W.refl _;refine ux ?_;refine tn 9 v ?_;rintro yb ya _ j ⟨rfl,m⟩;refine ux ?_;refine rl 10 ?_;refine Aw AH ⟨rfl,?_,?_⟩
  ·exact if_pos rfl
  clear g;exact Xs
 rintro e n j ⟨rfl,B,t⟩;refine mu ?_
 first|exact⟨_,rfl,rfl,t⟩|exact⟨_,rfl,rfl⟩
def Abz (l n):As (l++[n])=As l++[Y n]:=by simp[As]
def q9 (t:Tx)(n:Int)(b:Bool)(e:Int):Prop:=
 if (Av t).1≠0 then b=false/\e=(Av t).1 else
 if n<0\/(Z (Bl t):Int)<=n\/(∀x,(Bl t)[n.toNat]?=some x->x.o)then b=false/\e=6 else
 ∃x,(Bl t)[n.toNat]?=some x/\x.o=false/\Qu (Bl t) n.toNat x b/\e=0
def xq (t n j):ni 59 [O t,Y n] j λa σ'=>∃b e,a=tp [my b,Y e]/\q9 t n b e/\W j σ':=by
 have B:=λj=>T6 t j;by_cases g:(Av t).1=0
 ·let⟨ab,aa,a,I⟩:=H9 g;let⟨C,Q,M,a9⟩:=Ep L I;have p:=P4 g;have v:=λj=>L2 t L (ny C.1) C.2 j;rw[<-Q]at M;have k:V (∀b e,(if n<0\/(Z (Bl t):Int)<=n\/(∀x,(Bl t)[n.toNat]?=some x->x.o)then b=false/\e=6 else∃x,(Bl t)[n.toNat]?=some x/\x.o=false/\Qu (Bl t) n.toNat x b/\e=0)->q9 t n b e):=λb e h=>by
   unfold q9;rw[if_neg (ns g)];exact h
  have ax:((Av t).1 !=0)=false:=ns g
  generalize Bl t=d at v p M k;by_cases E:n<0\/(Z d:Int)<=n
  ·have i:V (q9 t n false 6):=k.o _ _ (by
    rw[if_pos]
    ·exact⟨rfl,rfl⟩
    obtain h|h:=E
    ·exact .inl h
    exact .inr (.inl h))
   clear k p;refine wl func59 ?_
   (repeat (refine m0 ?_;intro yb ya;(first|(refine Xi (B _) ?_;rintro _ _ ⟨rfl,D⟩)|(refine Xi (v _) ?_;rintro _ _ ⟨c,q,rfl,f,N⟩))));refine m6 ?_ ?_<;>intro h a6
   all_goals
    first
    |exact⟨_,rfl,_,_,rfl,i.o,Xs⟩
    |(exfalso;simp only[CV,decide_eq_false_iff_not]at*;omega)
  have S:0<=n:=L;have K:n.toNat<Z d:=L;have T:=Int.toNat_of_nonneg S;have P:n<(Z d:Int):=L;have a3:decide ((Z d:Int)<=n)=false:=nn P;have A:=AK K;have z:=p _ (AR K);generalize R:d[n.toNat]=x at A z;have o:V _:=A;cases m:x.o
  ·have l:=z.cl m;have a7:=(z.w.2.2 m).2.2.1;have s:=λq c (f:r AJ d q) j=>aO d q c n.toNat x f L o.o L l.2.1 (λa5 F=>⟨l.2.2 a5 F,z.var (by simp[Af,m,F])⟩) (λy u a4=>(p y u).rule a4) j;rw[T]at s
   have i:V (∀b,Qu d n.toNat x b->q9 t n b 0):=λb G=>k.o b 0 (by
    rw[if_neg (λh=>by
     rcases h with h|h|h
     ·omega
     ·omega
     have:=h x o.o;rw[m]at this;cases this)]
    exact⟨x,o.o,m,G,rfl⟩)
   clear k R A p E l;refine Z9 37 [.tmp 4,.tmp 5] func59 ?_
   (repeat (refine m0 ?_;intro yb ya;(first|(refine Xi (B _) ?_;rintro _ _ ⟨rfl,D⟩)|(refine Xi (v _) ?_;rintro _ _ ⟨c,q,rfl,f,N⟩;(have a1:=r.length Cf f;obtain⟨ih,id,b,a,G,a2⟩:=Cv f o.o;have ah:=s q c f))|(refine Xi (ah _) ?_;rintro _ _ ⟨b,rfl,U,a8⟩;(have a0:V _:=i.o _ U;clear U)))));refine X ?_
   all_goals
    first
    |exact⟨_,rfl,_,_,rfl,a0.o,Xs⟩
    |(exfalso;simp only[CV,decide_eq_false_iff_not]at*;omega)
  have i:V (q9 t n false 6):=k.o _ _ (by
   rw[if_pos]
   ·exact⟨rfl,rfl⟩
   exact .inr (.inr λy u=>by rw[o.o]at u;cases u;exact m))
  clear k R A p E;refine Z9 37 [.tmp 4,.tmp 5] func59 ?_
  (repeat (refine m0 ?_;intro yb ya;(first|(refine Xi (B _) ?_;rintro _ _ ⟨rfl,D⟩)|(refine Xi (v _) ?_;rintro _ _ ⟨c,q,rfl,f,N⟩;(have a1:=r.length Cf f;obtain⟨ih,id,b,a,G,a2⟩:=Cv f o.o)))));refine X ?_
  all_goals
   first
   |exact⟨_,rfl,_,_,rfl,i.o,Xs⟩
   |(exfalso;simp only[CV,decide_eq_false_iff_not]at*;omega)
 have ax:((Av t).1 !=0):=nn g;have i:V (q9 t n false (Av t).1):=by rw[V];unfold q9;rw[if_pos g];exact⟨rfl,rfl⟩
 clear g;refine wl func59 ?_;refine mt B ?_;rintro yb ya _ _ ⟨rfl,D⟩;refine X ?_
 exact⟨_,rfl,_,_,rfl,i.o⟩
def s6 (b:UInt8):Prop:=B6 b.toNat\/Bs b.toNat\/A6 b.toNat
def Awh {b}(h:s6 b):b∉[33,40,41,44,45,46,58,63]:=λa=>by simp only[BD,EK,DZ]at a;rcases a with rfl|rfl|rfl|rfl|rfl|rfl|rfl|rfl<;>revert h<;>rw[s6]<;>decide
def Aq7 {t}(h:Mm t){b}(a:b∈t):s6 b:=.inr (h.2 b a)
def Asa {t}(h:Jy t){b}(a:b∈t):s6 b:=.inl (h.2 b a)
def Adm {ts b}(h:b∈Ch ts):b=44\/∃t∈ts,b∈t:=by grind[Ch]
def Ado {ts b}(h:b∈Bp ts):b=44\/∃t∈ts,b∈t:=by
 cases ts with
 |nil=>cases h
 |cons t ts=>
  obtain h|h:=AW.1 h;exact .inr ⟨t,nk,h⟩;obtain h|⟨u,c,a⟩:=Adm h;exact .inl h;exact .inr ⟨u,ns c,a⟩
def Aja {a}(h:En a){b}(c:b∈Bh a):s6 b\/b=40\/b=41\/b=44:=by rw[Bh]at c;obtain c|c:=AW.1 c;exact .inl (Asa h.1 c);obtain rfl|c:=BD.1 c;exact .inr (.inl rfl);obtain c|c:=AW.1 c;obtain rfl|⟨t,d,c⟩:=Ado c;exact .inr (.inr (.inr rfl));exact .inl (Aq7 (h.2.2.2 t d) c);simp at c;exact .inr (.inr (.inl c))
end Go.Proofs.YtmoeoppbmhfbpabGreatDoorJ
namespace Go.Abs
def Atl {P t z b p f g m n o a xs e K}(x:P0 P t=some (z,b,p))
  (v:0<z) (i:Z p=z) (j:Z e=m*z) (M:e.all flat) (u:0<m) (F:(n+m)*b<=140737488355328) (D:n+m<=1099511627776)
  (A:0<a) (I:n<=a) (d:Z (f.C o)=a*z) (l:(f.C o).take (n*z)=xs)
  (G:n+m<=a->∀cs:oh,Z cs=a*z->cs.take ((n+m)*z)=xs++e->K (gx o (n+m) a) (f.put o cs))
  (Jqx:∀(c:Nat) (cs:oh),Z cs=c*z->n+m<=c->cs.take ((n+m)*z)=xs++e->K (gx f.B (n+m) c) (f.new cs)):Jx P t t (gx o n a) (sl g m e) f K:=by
 right;refine⟨z,b,p,g,m,e,x,rfl,rfl,v,i,j,M,u,?_⟩;have B:∀k,Z (replicate k (p.map cst1)).flatten=k*z:=λk=>jx
 have s:Z xs=n*z:=by rw[<-l,CN,d];exact ER (GW _ I)
 have C:(n+m)*z=Z (xs++e):=gp
 refine .inr ⟨o,n,a,rfl,F,D,d,A,λq=>?_,λq c y=>?_⟩;have E:n*z+Z e<=Z (f.C o):=by rw[j,d,<-FM];exact GW _ q
 refine G q _ (by grind[L0]) ?_;rw[Hw _ _ _ E,l,C,take_left];refine Jqx c _ ?_ y ?_;rw[l,AX,AX,s,j,B,<-FM,<-FM];congr 1;omega;rw[l,C,take_left]
def yf {P N c Q s d o n f k t}(g:o<d.B)(z:s t=gx o n f)(U:k<=Z (d.C o))
  (h:Mn P N c Q (upd s t (sl 0 n ((d.C o).take k))) (d.put o [])):Mn P N c Q s d:=λG a w R=>by
 let⟨l,p,E,x,a1⟩:=R.inv.freeze g
 have m:FK N l (upd s t (sl 0 n ((d.C o).take k))) (d.put o []) a w:=⟨R.defers,R.size,λq=>by
  rw[upd];by_cases b:q=t;rw[if_pos b];subst b;have i:=R.tmps q;rw[z]at i;let⟨j,e2,T⟩:=VR.of_gx i;refine VR.fold ⟨some ⟨G.blk o,0,none⟩,f,j,⟨e2,λh=>gp⟩,λD=>⟨G.blk o,0,rfl,λq a3 b=>?_⟩,λM S=>L⟩;have B:d.C o≠[]:=λe=>D (gp);obtain⟨⟨F,a2,C,A⟩,-⟩:=(R.inv.C o g).2.2 B;rw[GF]at b;split at b
  case isFalse=>cases b
  let⟨u,I,v⟩:=A.get b;refine⟨x _,u,?_,v.ext E⟩;simp only[World.cell?,C,DY];simpa using I
  rw[if_neg b];exact (R.tmps q).ext E,p⟩
 exact wp_mono (h l a w m) λe a0 K y=>y.ext E
end Go.Abs
namespace Go.Proofs.YtmoeoppbmhfbpabGreatDoorJ
open Go.Abs Tryz
def y9 (R:List E3)(B:Gb):Gb:=λk t=>∀D:Gb,(∀k t,B k t->D k t)->NL R B D->D k t
def y9.base {R B k t}(h:B k t):y9 R B k t:=λD a _=>a k t h
def Lk.mono {N D b ν l}(h:Lk N D ν l)(c:∀k t,D k t->b k t):Lk N b ν l:=by grind[Lk]
def Lk.anti {N b D ν l}(h:Lk N D ν l)(c:l.neg->b l.a.p.toNat (B8 l.a ν)->N l.a.p.toNat (B8 l.a ν)):Lk b D ν l:=by grind[Lk]
def y9.cl (R B):NL R B (y9 R B):=λf d b h D e a=>a f d b (λl c=>(h l c).mono (λk t g=>g D e a))
def y9.nonhead {R B k t}(a:∀d∈R,d.h.p.toNat≠k)(h:y9 R B k t):B k t:=by have:=h (λj u=>j=k->B j u) (λj u g _=>g) (λd b c _ e=>absurd e (a d b));grind
def y9.least {R B D}(b:∀k t,B k t->D k t)(a:NL R B D){k t}(h:y9 R B k t):D k t:=h D b a
def C_ (R:List E3):Prop:=∀b∈R,∀l∈b.A,l.neg->∀a∈R,a.h.p.toNat≠l.a.p.toNat
def Ao5 {np ar R B}(a:∀f∈R,RW np ar f)(e:∀k t,B k t->Sh ar k t):LN np ar R (y9 R B):=
 ⟨a,λf c d h=>y9.cl R B f c d (λl b=>(h l b).anti (λ_ g=>y9.base g)),λk t h=>h.least e (gy a)⟩
def Ar7 {R B M}(a:C_ R)(f:∀k t,B k t->MD M k t):IA R (y9 R B) M:=λg d l c b t e=>f _ _ (e.nonhead (a g d l c b))
def Aky {R B M'}(c:C_ R)(j:∀k t,B k t->MD M' k t)(i:NL R (y9 R B) (MD M')){k t}(h:y9 R B k t):MD M' k t:=
 h.least j (λm b f g=>i m b f (λl a=>(g l a).anti (λd e=>e.nonhead (c m b l a d))))
def ti (ar:Nat->Nat)(R:List E3)(M:MM):Gb:=λk t=>Sh ar k t/\((∃a∈R,∃l∈a.A,l.neg/\l.a.p.toNat=k)->MD M k t)
def Ao6 {np ar R M}(a:∀p∈R,RW np ar p)(d:C_ R):LN np ar R (ti ar R M):=
 ⟨a,λp b j h=>⟨gy (N:=ti ar R M) a p b j (λl f=>(h l f).mono (λ_ _ g=>g.1)),λ⟨o,n,m,i,c,e⟩=>absurd e.symm (d o n m i c p b)⟩,λk t h=>h.1⟩
def Ar8 {ar R M}:IA R (ti ar R M) M:=λe c l b a t d=>d.2 ⟨e,c,l,b,a,rfl⟩
def Ari {D M M' d c b}(h:BG D M M' d c)(j:tot M-d+b<=4000):Room M' c b:=λx f=>by
 have g:=h.cnt;let⟨k,e⟩:=CL f;have:∀(M:MM) (k:Nat) (x:Nat×List Ck),M[k]?=some x->(Z x.2:Int)<=tot M:=by
  intro M;induction M with
  |nil=>intro k x h;simp at h
  |cons y M a=>
   intro k x h;have i:0<=tot M:=by
    clear a h;induction M with
    |nil=>simp[tot,H1]
    |cons z M a=>rw[Ey];omega
   rw[Ey];cases k with
   |zero=>simp at h;subst h;omega
   |succ k=>have:=a k x (nn h);omega
 have:=this M' k x e;omega
def pf (l:n0)(s:Nat)(x:AB):Bool:=!x.o&&(ov l x.h.B==s)
def pz (l:n0)(s:Nat):n0:=l.filter (pf l s)
def yz (N:ol)(l:n0)(B:Gb):Nat->Gb
 |0=>B
 |s+1=>y9 ((pz l s).map (Ce N)) (yz N l B s)
structure ψ (N:ol)(l:n0)(np:Nat)(ar:Nat->Nat):Prop where
 nn:Z N<=np
 hN:∀x∈l,x.h.B∈N/\∀a∈x.A,a.B∈N
 kn:∀i,i<Z l->Hd l i=false
 rw':∀x∈l,x.o=false->RW np ar (Ce N x)
def Aoy {N:ol}{p q}(b:p∈N)(d:q∈N)(h:N.idxOf p=N.idxOf q):p=q:=by
 have a:N[N.idxOf p]?=some p:=gp;grind
def vz {l}(b:∀x∈l,x.o->x.A=[])(e:∀i,i<Z l->Hd l i=false)(j:Z l<=16){x}(k:x∈l){a}(g:a∈x.A)(f:a.nt):ov l a.B<ov l x.h.B:=by have c:=se b (u9 b e) j;have d:=(c a.B (ov l a.B)).2 (AU _);have m:ou l (ov l a.B+1) x.h.B:=⟨x,k,.inl rfl,a,g,f,d⟩;grind
def Anb {N l np ar}(h:ψ N l np ar)(f:∀x∈l,x.o->x.A=[])(i:Z l<=16)(s):C_ ((pz l s).map (Ce N)):=λv j k q g u p e=>by obtain⟨x,m,rfl⟩:=AN.1 j;obtain⟨y,o,rfl⟩:=AN.1 p;obtain⟨a,c,rfl⟩:=AN.1 q;let⟨b,n⟩:=BP.1 m;let⟨d,t⟩:=BP.1 o;simp only[pf,BM,DO]at n t;simp only[Ce,Eg,E6,DK]at e;have e2:=Aoy (h.hN y d).1 ((h.hN x b).2 a c) e;have:=vz f h.kn i b c g;grind
def n_ {N l np ar}(h:ψ N l np ar)(s):∀e∈(pz l s).map (Ce N),RW np ar e:=λe c=>by obtain⟨x,d,rfl⟩:=AN.1 c;let⟨a,b⟩:=BP.1 d;simp only[pf,BM]at b;exact h.rw' x a (nn b.1)
def yz.up {N l B k t}:∀{s s':Nat},s<=s'->yz N l B s k t->yz N l B s' k t
 |s,0,h,g=>gp
 |s,s'+1,h,g=>by by_cases e:s=s'+1;subst e;exact g;exact y9.base (yz.up (s:=s) (s':=s') L g)
def zk (N:ol)(l:n0)(M:MM)(b:Int)(s:Nat)(c:MM)(d:Int):Prop:=
 Z c=Z M/\d=tot c-tot M/\
 ((¬b<d/\(∀k t,MD c k t↔yz N l (MD M) s k t)/\∀x∈c,x.2.Nodup)\/
  (b<d/\∃a:MM,Z a=Z M/\(∀x∈a,x.2.Nodup)/\(∀k t,MD M k t->MD a k t)/\(∀k t,MD a k t->yz N l (MD M) s k t)/\b<tot a-tot M))
def zk.start {N l M b}(c:0<=b)(a:∀x∈M,x.2.Nodup):zk N l M b 0 M 0:=
 ⟨rfl,L,.inl ⟨L,λk t=>Iff.rfl,a⟩⟩
def Av2 {N l np ar}(h:ψ N l np ar)(u:∀x∈l,x.o->x.A=[])(E:Z l<=16){M c b q s}(C:zk N l M b s c q)(F:lu ar c)(A:∀k t,yz N l (MD M) s k t->Sh ar k t):
  ∃D:Gb,LN np ar ((pz l s).map (Ce N)) D/\(∀k t,MD c k t->D k t)/\IA ((pz l s).map (Ce N)) D c/\(∀k t,D k t->Sh ar k t)/\
   ∀M' d,BG D c M' q d->(¬b<d->NL ((pz l s).map (Ce N)) D (MD M'))->zk N l M b (s+1) M' d:=by have o:=n_ h s;have j:=Anb h u E s;let⟨m,e2,G⟩:=C;obtain⟨z,f,v⟩|⟨z,K,P,Q,R,S,T⟩:=G;have i:=Ao5 (B:=yz N l (MD M) s) o A;refine⟨y9 ((pz l s).map (Ce N)) (yz N l (MD M) s),i,λk t g=>y9.base ((f k t).1 g),Ar7 j (λk t g=>(f k t).2 g),λk t g=>i.sh k t g,λM' d a I=>?_⟩;have y:=a.cnt;have p:=a.inD (λk t g=>y9.base ((f k t).1 g));have e:=a.nodup v;refine⟨a.len.trans m,L,?_⟩;by_cases n:b<d;exact .inr ⟨n,M',a.len.trans m,e,λk t g=>a.sub ((f k t).2 (yz.up (Nat.zero_le s) g)),p,L⟩;refine .inl ⟨n,λk t=>⟨p k t,λg=>?_⟩,e⟩;exact Aky j (λk t g=>a.sub ((f k t).2 g)) (I n) g;have i:=Ao6 (M:=c) o j;refine⟨ti ar ((pz l s).map (Ce N)) c,i,λk t g=>⟨F k t g,λ_=>g⟩,Ar8,λk t g=>g.1,λM' d a I=>?_⟩;have y:=a.cnt;have U:=(PY c M' a.len a.lens).1;exact⟨a.len.trans m,L,.inr ⟨L,K,P,Q,R,λk t g=>y9.base (S k t g),T⟩⟩
def J_ {N l np ar}(h:ψ N l np ar){B}(a:∀k t,B k t->Sh ar k t):∀s k t,yz N l B s k t->Sh ar k t
 |0,k,t,g=>a k t g
 |s+1,k,t,g=>g.least (J_ h a s) (gy (n_ h s))
def Arf {l s q y}(h:l[q]?=some y):(l.take (q+1)).filter (pf l s)=(l.take q).filter (pf l s)++if pf l s y=true then [y]else []:=by rw[AT,h,BN,Em]
def yc (N l cs idn d np ar)(Jqx:Bk N l cs)(U:ψ N l np ar)(v K b)(cg:0<=b)(b3:b<=1000)(M)(hn:Z M=np)(hS:lu ar M)(ad:∀x∈M,x.2.Nodup)(ht:tot M<=1000)(c)(hM:BL c v K M 0 b):
  ni 50 [ptr v 0,Cq N idn l d cs] c λbd σ'=>∃M' u,BL σ' v K M' u b/\KM v K M M' c σ'/\zk N l M b (Z l+1) M' u:=by
 have cr:=r.length Ew Jqx.el;have ay:=Jqx.len;have ct:=Jqx.nm;have hE:=Jqx.el;have bc:=λc=>wj N l cs idn d Jqx c;have a1:∀a0∈N,L7 N l (Z l) (N.idxOf a0)=ov l a0:=λa0 hp=>wz ay Jqx.o U.hN U.kn hp;have b2:=J_ U (B:=MD M) hS;generalize L7 N l (Z l)=I at bc a1;have lo:=hM.lo;have lt:=hM.lt;unfold Cq at bc⊢;refine wl func50 ?_;refine mt bc ?_;rintro yb ya _ _ ⟨o,rfl,k,b7,bn,C⟩;have aw:=C.B;have am:=C.C;simp only[Aa]at aw am b7;refine X ?_;rename_i a3;have p:a3.C c.B=[lw idn N,sl d (Z l) cs]:=by rw[am _ L,Ao]
 have bf:W c a3:=((W.refl c).new _).trans C
 refine Ae (λm s σ'=>∃(q:Nat) (e:MM) (n:Int),m=Z l+1-q/\q<=Z l+1/\s 0=ptr v 0/\s 3=ptr c.B 0/\s 4=fx o 0 (Z N)/\s 5=Y q/\BL σ' v K e n b/\KM v K M e c σ'/\o<σ'.B/\σ'.C c.B=[lw idn N,sl d (Z l) cs]/\σ'.C o=Pe (Z N) I/\0<=n/\n<=1000000/\V (zk N l M b q e n/\lu ar e)) (Z l+1)
  ⟨0,M,0,L,L,by simp[upd,AL],AG,AG,AG,hM.keep bf,KM.ofKeep bf,bn,p,k,L,L,zk.start cg ad,hS⟩ ?_
 clear bf C am aw p k bn;rintro m s σ' ⟨q,e,n,rfl,hq,h0,h3,h4,h5,A,ap,b6,p,k,cq,cf,S⟩;have cj:=ap.B;have b4:=A.lo;have b5:=A.lt;by_cases cm:q<=Z l
 ·have ck:(q:Int)<=16:=L
  refine X ?_
  refine Ae (λm s z=>∃(j P:Nat) (a:n0) (i:oh),m=Z l-j/\j<=Z l/\s 0=ptr v 0/\s 3=ptr c.B 0/\s 4=fx o 0 (Z N)/\s 5=Y q/\s 6=sl P (Z a) i/\s 20=sl d (Z l) cs/\s 21=Y (Z l)/\s 22=Y j/\W σ' z/\J σ' z P (Z a)/\Z i=Z a*4/\Z a<=j/\V (a=(l.take j).filter (pf l q)/\r pK (a.map (Ce N)) i)) (Z l)
   ⟨0,1,[],[],L,L,AI,AI,AI,AI,AG,AI,AI,AG,W.refl _,J.nil _ _,rfl,nk,nk,rfl⟩ ?_
  clear h0 h3 h4 h5;rintro m s z ⟨j,P,a,i,rfl,hj,h0,h3,h4,h5,h6,cx,cw,cv,f,hO,b0,cu,E⟩;have bz:=f.B;have b9:z.C o=Pe (Z N) I:=by rw[f.C _ b6,k]
  by_cases a9:j<Z l
  ·have G:=AK a9;obtain⟨t,jh,jd,jb,r2,bo,ce⟩:=Ih hE G;generalize l[j]=y at G bo ce t;have Q:V _:=Arf (s:=q) G;have R:=jw (PI.of (ih:=jh) (id:=jd) t bo);have cd:=idxOf_lt_length_iff.2 t;have bb:=N0 I cd;rw[a1 _ t]at bb;clear G;cases F:y.o
   ·rw[F]at R;by_cases g:ov l y.h.B=q
    ·have T:V (a++[y]=(l.take (j+1)).filter (pf l q)/\r pK ((a++[y]).map (Ce N)) (i++[my false,Y (N.idxOf y.h.B:Nat),sl jh (Z y.h.A) (A0 y.h.A),sl jd (Z y.A) jb])):=⟨by rw[Q.o,if_pos (by simp[pf,F,g]),E.o.1],by rw[EU];exact r.append E.o.2 (r.single R)⟩;rw[g]at bb;clear Q R g
     refine nh ?_;intro yb ya;refine Bo (by first|exact Mw) ((f.new _).put f.B _) (J.put (J.new hO _) _ _) nr (by rfl) (b0) (by rfl) (by rfl) nr L L ?_;intro ae b1 ab av ax aj au ai;refine Z3 ?_;refine X ?_;refine⟨Z l-(j+1),L,j+1,ae,a++[y],i++[my false,Y (N.idxOf y.h.B:Nat),sl jh (Z y.h.A) (A0 y.h.A),sl jd (Z y.A) jb],?_⟩
     ((repeat' refine Zi ?_ ?_)<;>first|exact Xq|exact T|exact (by rw[AX];exact ab)|exact Xs)
    have T:V (a=(l.take (j+1)).filter (pf l q)/\r pK (a.map (Ce N)) i):=⟨by rw[Q.o,if_neg (by simp[pf,F,g]),EJ];exact E.o.1,E.o.2⟩;have b8:((ov l y.h.B:Int)==(q:Int))=false:=by simp;omega
    generalize ov l y.h.B=sy at bb b8;clear Q R g;refine X ?_;refine⟨Z l-(j+1),L,j+1,P,a,i,?_⟩
    ((repeat' refine Zi ?_ ?_)<;>first|exact Xq|exact T|exact ((f.new _).put f.B _)|exact (J.put (J.new hO _) _ _)|exact Xs)
   have T:V (a=(l.take (j+1)).filter (pf l q)/\r pK (a.map (Ce N)) i):=⟨by rw[Q.o,if_neg (by simp[pf,F]),EJ];exact E.o.1,E.o.2⟩;clear Q R;refine X ?_;refine⟨Z l-(j+1),L,j+1,P,a,i,?_⟩
   ((repeat' refine Zi ?_ ?_)<;>first|exact Xq|exact T|exact ((f.new _).put f.B _)|exact (J.put (J.new hO _) _ _)|exact Xs)
  obtain rfl:j=Z l:=L;let⟨be,br⟩:=E.o;rw[AS]at be;let⟨D,hF,ba,a8,bi,an⟩:=Av2 U Jqx.o ay S.o.1 S.o.2 (b2 q);have bq:a=pz l q:=be;rw[<-bq]at hF a8 an;have az:Z e=np:=by have:=S.o.1.1;rw[this];exact hn
  have bm:Room e n b:=Ari (BG.refl D e n) (ny S.o.1.2.1);have bv:=λc (h:BL c v K e n b)=>Sa hF v K b L L e n az ba a8 bm L cf i P br (by rw[BV];omega) c h;rw[BV]at bv;have bh:V (∀M' u,BG D e M' n u->(¬b<u->NL (a.map (Ce N)) D (MD M'))->zk N l M b (q+1) M' u/\lu ar M'):=λM' u g1 g2=>⟨an M' u g1 g2,λa4 aa ac=>bi a4 aa (g1.inD ba a4 aa ac)⟩;clear hF a8 an bq be br E ba bi bm az;refine m0 ?_;intro yb ya;refine Xi (bv _ (A.keep (Xs))) ?_;rintro _ _ ⟨M',u,ch,ao,bu,cp,cn,bp⟩;have ci:V _:=bh.o M' u bu bp;clear bu bp;have bw:=ao.B;have ak:=ao.C;have bg:=(ap.trans (KM.ofKeep f)).trans ao;refine X ?_;rename_i a2;refine⟨Z l+1-(q+1),L,q+1,M',u,?_⟩;have e1:a2.C c.B=[lw idn N,sl d (Z l) cs]:=by rw[ak _ L L L,f.C _ L,p]
  have e2:a2.C o=Pe (Z N) I:=by rw[ak _ L L L,f.C _ L,k]
  clear ak
  ((repeat' refine Zi ?_ ?_)<;>first|exact Xq|exact ch|exact bg|exact ci|exact e1|exact e2|exact (by rw[f.C _ L,p])|exact Xs)
 obtain rfl:q=Z l+1:=L;refine X ?_;exact⟨_,rfl,e,n,A,ap,S.o.1⟩
def Av9 {t N l cs ar}(h:CW t N l cs)(i:aG l ar):OJ N l (NT N ar):=by
 have m:∀y∈l,Z y.A<=5:=λy d=>by
  have o:=h.wit y d;cases c:y.o
  ·exact (o.2.2 c).2.2.1
  rw[(o.2.1 c).2.2];simp
 refine⟨m,λy d c=>jf (jg h i d c) (m y d),λy d c=>?_,λy d c a j=>?_⟩;have f:=jg h i d c;refine⟨QS f.vt,λk n=>?_⟩;rw[Fq]at n;obtain⟨b,g,rfl⟩:=AN.1 n;rw[Md];exact QS (f.vb b g);have f:=jg h i d c;rw[Fy]at j;rw[Fq,BH]at j;obtain⟨b,g,rfl⟩:=AN.1 j;have e:=Ts (N:=N) (b:=b) λt v=>(f.vb b g t v).1;have p:=gQ (f.A b g) (f.vb b g);rw[eA]at e;simp only[Prod.mk.injEq]at e;have s:(Fx (Fz (Z N:Int) (E6 N b)).a).p.toNat=K0 N b:=by show (Fz (Z N:Int) (E6 N b)).a.p.toNat=_;rw[aA,DK]
 show Sh _ (Fx (Fz (Z N:Int) (E6 N b)).a).p.toNat (C4 (Fx (Fz (Z N:Int) (E6 N b)).a));rw[s,<-e.2];refine⟨_,rfl,?_,λz x=>?_⟩;rw[BV,sW (f.A b g).mem];exact p.len;obtain⟨u,q,rfl⟩:=AN.1 x;exact WU (p.gt u q)
def sj (t:Tx)(n:Int)(b:Bool)(e:Int):Prop:=∀c f,q9 t n c f->b=c/\e=f
def Ant {t l n}(i:(Av t).1=0)(e:Bl t=l)(h:qf l n=false):sj t n false 6:=by
 intro c f a;rw[q9]at a;rw[if_neg (ns i),e,if_pos]at a;exact⟨a.1.symm,a.2.symm⟩;rw[qf]at h;grind
def Arv {t N l cs n x b}(a:CW t N l cs)(q:0<=n)(e:l[n.toNat]?=some x)(j:x.o=false)
  (m:aD ((oth l n.toNat (Z l)).map (Ed N)) (Fy N x) (Ed N x).h.p.toNat (C4 (Fx (Ed N x).h)) b):sj t n b 0:=by
 intro c f i;have s:=(BA.1 e).1;rw[q9]at i
 rw[if_neg (by simp[a.ok]),a.items,if_neg (λh=>gp)]at i
 obtain⟨y,d,-,p,o⟩:=i;rw[e]at d;cases d;let⟨k,g⟩:=SV a.ok;rw[a.items]at g;exact⟨zN (ar:=k) ⟨λy d=>jg a g (E8 d).1 (E8 d).2,jg a g (AY e) j⟩ p m,o.symm⟩
def yd (t n g):ni 58 [O t,Y n] g λa4 σ'=>∃b e,a4=tp [my b,Y e]/\sj t n b e/\W g σ':=by
 have K:=λg=>yE t g;by_cases a:(Av t).1=0
 ·have U:((Av t).1 !=0)=false:=nn a
  have k:V ((Av t).1=0):=a;have a3:Z t<=600:=by
   by_cases T:600<Z t
   ·unfold Av at a;rw[if_pos T]at a;simp at a
   omega
  clear a;refine wl func58 ?_
  repeat' first|refine Z1 ?_|refine Z8 λyb ya=>?_|refine Z4 ?_;clear ya yb|refine Z2 ?_ ?_<;>intro h C<;>try exact Xp|refine Z5 ?_;refine Xi (K _) ?_;rintro _ _ ⟨j,a2,P,i,a1,u,rfl,B,d⟩;(have a0:=B.B;obtain⟨N,l,G,z,rfl,rfl,rfl,Q,I⟩:=d k.o;have f:CW t N l u:=⟨k.o,a3,G,z,I⟩;have s:V _:=f;have v:=λg=>xj N l u j i n z g;clear d G Q I f)|refine Z7 ?_|exact Zt|apply ya.o;clear ya yb
  rename_i a5;cases m:qf l n
  ·rw[m]at v;have F:V (sj t n false 6):=Ant k.o s.o.items m;clear m
   repeat' first|refine Z1 ?_|refine Z8 λyb ya=>?_|refine Z4 ?_;clear ya yb|refine Z2 ?_ ?_<;>intro h C<;>try exact Xp|refine Z5 ?_;refine Xi (v _) ?_;rintro _ _ ⟨rfl,o⟩;(have R:=o.C;have A:=o.B;simp only[Aa,Ac]at A)|refine Z7 ?_|exact Zt|apply ya.o;clear ya yb
   exact⟨_,rfl,_,_,rfl,F.o,Xs⟩
  obtain⟨y,x,E,p⟩:=xk m;have M:((n.toNat:Nat):Int)=n:=Int.toNat_of_nonneg y;rw[m]at v;obtain⟨ar,D⟩:=SV k.o;rw[s.o.items]at D;have c:=λg=>aV N l u j i n.toNat _ x z (Av9 s.o D) E p g;rw[M]at c;have F:V (∀b,aD ((oth l n.toNat (Z l)).map (Ed N)) (Fy N x) (Ed N x).h.p.toNat (C4 (Fx (Ed N x).h)) b->sj t n b 0):=λb d=>Arv s.o y E p d
  repeat' first|refine Z1 ?_|refine Z8 λyb ya=>?_|refine Z4 ?_;clear ya yb|refine Z2 ?_ ?_<;>intro h C<;>try exact Xp|(refine Z5 ?_;first|(refine Xi (v _) ?_;rintro _ _ ⟨rfl,o⟩;(have R:=o.C;have A:=o.B))|(refine Xi (c _) ?_;rintro _ _ ⟨b,rfl,d,a6⟩;(have S:V _:=F.o b d;clear d)))|refine Z7 ?_|exact Zt|apply ya.o;clear ya yb
  exact⟨_,rfl,_,_,rfl,S.o,Xs⟩
 have U:((Av t).1 !=0):=nn a;have k:V (sj t n false (Av t).1):=λa7 a8 q=>by
  unfold q9 at q;rw[if_pos a]at q;exact⟨q.1.symm,q.2.symm⟩
 clear a;refine wl func58 ?_
 repeat' first|refine Z1 ?_|refine Z8 λyb ya=>?_|refine Z4 ?_;clear ya yb|refine Z2 ?_ ?_<;>intro h C<;>try exact Xp|refine Z5 ?_;refine Xi (K _) ?_;rintro _ _ ⟨j,a2,P,i,a1,u,rfl,B,d⟩;(have a0:=B.B;clear d)|refine Z7 ?_|exact Zt|apply ya.o;clear ya yb
 exact⟨_,rfl,_,_,rfl,k.o,Xs⟩
def Aqw (o:iR)(s:o.kind=6)(c)(i:EO o c)(d):ni 33 [ag c] d λA σ'=>A=my true/\W d σ':=by
 have n:=λd=>yd o.s o.n d;have p:=λd=>xq o.s o.n d;rw[EO]at i;subst i;rw[s]at*
 apply wl func33
 repeat' first|refine Z1 ?_|refine Z8 λyb ya=>?_|refine Z4 ?_;clear ya yb|refine Z2 ?_ ?_<;>intro h x<;>try exact Xp|(refine Z5 ?_;first|(apply Xi (n _);rintro _ _ ⟨b,e,rfl,l,k⟩;(have z:=k.C;have u:=k.B;have q:V _:=l;clear l;(try simp only[Aa,Ac,Az]at u)))|(refine Xi (p _) ?_;rintro _ _ ⟨c,f,rfl,j,g⟩;(have y:=g.C;have v:=g.B;let⟨t,m⟩:=q.o _ _ j;subst t;subst m;clear j))|(refine Xi (VX _ _) ?_;rintro _ _ ⟨rfl,a⟩;(replace a:=a.symm;subst a)))|refine Z7 ?_|exact Zt|apply ya.o;clear ya yb
 all_goals
  first
  |exact⟨_,rfl,rfl,Xs⟩
  |exact⟨_,rfl,rfl⟩
  |(exfalso;simp at*;done)
section
variable {Bd:Nat}
def qx (a:AE):Bool:=Jz (a.A.map Aq)
def qo (s:Tx):Rd AE:=(Ea false s).bnd λa b=>if qx a=true then (A5 46 b).bnd λ_ b=>.got a b else .bad b
def oz:Nat->Tx->Rd oq
 |_,[]=>.got [] []
 |0,s=>.bad s
 |n+1,s=>(qo s).bnd λx b=>(oz n b).bnd λa b=>.got (x::a) b
theorem so (n):oz n []= .got [] []:=by cases n<;>rfl
theorem sp (n b a):oz (n+1) (b::a)=(qo (b::a)).bnd λx a=>(oz n a).bnd λxs a=>.got (x::xs) a:=rfl
def zm (s:Tx)(xs:oq)(q:Tx):Prop:=Z xs+Z q<=400/\oz 400 s=(oz (400-Z xs) q).bnd λa b=>.got (xs++a) b
theorem zm.start {s}(h:Z s<=400):zm s [] s:=by refine⟨nn h,?_⟩;simp only[CQ,PH,FE];cases oz 400 s<;>rfl
theorem zm.done {s xs}(h:zm s xs []):oz 400 s= .got xs []:=by rw[h.2,so];simp[Rd.bnd]
theorem zm.fail {s xs b d e}(h:zm s xs (b::d))(c:qo (b::d)= .bad e):oz 400 s= .bad e:=by have:=h.1;simp only[BQ]at this;let⟨k,a⟩:∃k,400-Z xs=k+1:=⟨399-Z xs,L⟩;rw[h.2,a,sp,c];rfl
theorem v8 {s o a}(h:qo s= .got a o):s=Bh a++46::o/\En a/\a.nt=false/\qx a:=by
 rw[qo]at h;cases d:Ea false s with
 |bad e=>rw[d]at h;cases h
 |got n f=>
  rw[d]at h;simp only[Rd.bnd]at h;split at h;rename_i j;cases b:A5 46 f with
  |bad e=>rw[b]at h;cases h
  |got u l=>
   rw[b]at h;cases h;let⟨k,e2,g⟩:=Jg d;refine⟨?_,e2,g,j⟩;rw[k];congr 1;cases f with
   |nil=>cases b
   |cons c m=>
    unfold A5 at b;dsimp only at b;split at b;rename_i i;cases b;have:c=46:=by have:=DO.1 i;apply UInt8.toNat_inj.1;grind
    rw[this];cases b
  cases h
theorem tq {b σ'}(k:W b σ')(o):AQ o b σ':=⟨k.B,λp a _=>k.C p a,λp a _=>k.ver p a,k.D,k.top⟩
theorem RS.keep {t o N id s a σ'}(h:RS Bd t o N id s a)(k:W a σ'):RS Bd t o N id s σ':=h.stepX (tq k o) (k.C o h.lt▸h.C) h.suf (AU _)
theorem zm.next {s xs b g a x}(h:zm s xs (b::g))(c:qo (b::g)= .got x a):zm s (xs++[x]) a:=by have d:=h.1;have f:=congrArg length (v8 c).1;simp only[BQ,AX]at d f;let⟨k,e⟩:∃k,400-Z xs=k+1:=⟨399-Z xs,L⟩;refine⟨gp,?_⟩;rw[h.2,e,sp,c,show 400-Z (xs++[x])=k by simp;omega];simp only[Rd.bnd];cases oz k a<;>simp
def qt (N:ol)(a:AE)(c:oh):Prop:=a.B∈N/\∃b,c=[Y (N.idxOf a.B:Nat),sl b (Z a.A) (A0 a.A)]
theorem R_ {N}(a c)(h:qt N a c):Z c=2:=by obtain⟨-,b,rfl⟩:=h;rfl
theorem qt.mono {N d}(f:N<+:d)(a c)(h:qt N a c):qt d a c:=by obtain⟨e,b,rfl⟩:=h;exact⟨f.subset e,b,by rw[gP f e]⟩
theorem y_ {N}:∀{l:oq} {c:oh},r (qt N) l c->r O9 (l.map (Eg N)) c
 |[],_,h=>h
 |a::l,_,⟨c,f,⟨d,b,e⟩,h,e2⟩=>⟨c,f,⟨b,by simp_all[Eg,Jr]⟩,y_ h,e2⟩
theorem Aac {t o N id v}(bc:Z t<=400)(hR:RS Bd t o N id t v):
  ni 78 [ptr o 0] v λx σ'=>∃n l c R id' r',x=tp [sl l n c,my ((oz 400 t).ok)]/\Rs o v id σ' id'/\RS Bd t o R id' r' σ'/\N<+:R/\Rd.Val (oz 400 t) λxs=>n=Z xs/\r (qt R) xs c:=by
 have ht:Z t<=1000:=L;have hn:=hR.lt;have bg:DL v id (Z N):=hR.own;refine wl func78 ?_;refine X ?_
 refine Ae (λa1 s' σ'=>∃(xs:oq) (q:Tx) (l:Nat) (d:oh) (T:ol) (s:Nat),a1=400-Z xs/\s' 0=ptr o 0/\s' 4=sl l (Z xs) d/\Rs o v id σ' s/\RS Bd t o T s q σ'/\J v σ' l (Z xs)/\V (s=1\/s≠l)/\N<+:T/\Z d=Z xs*2/\V (r (qt T) xs d)/\V (zm t xs q)) 400
  ⟨[],t,1,[],N,id,rfl,rfl,rfl,Rs.refl _ _ _,hR,J.nil _ _,by obtain⟨e,-⟩|⟨k,e,-⟩:=bg;exact .inl e;exact .inr L,prefix_refl _,nk,rfl,zm.start bc⟩ ?_
 rintro a1 s' σ' ⟨xs,q,l,d,T,s,rfl,h0,h4,hS,y,hO,a9,p,bf,hE,G⟩;have bn:=hS.keep.B;have be:=y.lt;have a0:=y.C;have a8:=Je y.suf;have bb:=G.o.1;unfold Pk dO at a0;refine X ?_;refine Ax Ag (λ_=>True) [9] [0,1,2,3,4,5,6,7,8] [9] AH (λ_ _ _ h=>h) ?_;intro yb ya;cases q with
 |nil=>
  simp only[CQ,PH]at a0 a8;refine X ?_;have z:=G.o.done
  first
  |exact⟨_,rfl,_,l,d,T,s,[],by rw[z];rfl,hS,y,p,by rw[z];exact⟨rfl,hE.o⟩⟩
  |exact⟨_,rfl,_,l,d,T,s,[],by rw[z];rfl,y,p,by rw[z];exact⟨rfl,hE.o⟩⟩
 |cons b0 r0=>
  simp only[BQ]at a0 a8 bb;have M:=W7 (Bd:=Bd) false ht y;have P:V (∀e,qo (b0::r0)= .bad e->oz 400 t= .bad e):=λe he=>G.o.fail he;cases z:Ea false (b0::r0)with
  |bad e=>
   rw[z]at M;have B:V (oz 400 t= .bad e):=P.o e (by unfold qo;rw[z];rfl);clear z P;simp only[Rd.ok,Rd.rest,Rd.Val]at M;refine Z3 ?_;refine m0 ?_;intro yb ya;refine Xi (M) ?_;rintro _ _ ⟨k,n,b,c,i,f,rfl,I,a7,K,-⟩;have an:=I.keep.B;refine X ?_;rename_i g;refine⟨_,rfl,0,1,[],i,f,e,by rw[B.o];rfl,Zu,?_,p.trans K,by rw[B.o];trivial⟩;exact Zr
  |got a j=>
   rw[z]at M;simp only[Rd.ok,Rd.rest,Rd.Val]at M;have Q:=λ(k:Int) (b:Nat) (v:St)=>Pq k b (a.A.map Aq) (by have:=(Jg z).2.1.2.2.1;simp;omega) v;unfold X1 at Q;rw[Jr,BV]at Q;have u:V (qo (b0::r0)=if qx a=true then (A5 46 j).bnd λ_ ai=>.got a ai else .bad j):=by rw[V,qo,z];rfl
   rw[show Jz (a.A.map Aq)=qx a from rfl]at Q;clear z;cases m:qx a
   ·have B:V (oz 400 t= .bad j):=P.o j (by rw[u.o,m];rfl);rw[m]at Q;clear m u P;refine Z3 ?_
    (repeat (refine m0 ?_;intro yb ya;(first|(refine Xi (M) ?_;rintro _ _ ⟨k,n,b,c,i,f,rfl,I,a7,K,⟨m1,rfl,rfl,rfl⟩⟩;(have an:=I.keep.B))|(refine Xi (Q _ _ _) ?_;rintro _ _ ⟨rfl,A⟩))));refine X ?_
    rename_i g ak;have C:Rs o v id ((g.new [Y 0,H]).put g.B [Y (i.idxOf a.B:Nat),sl b (Z a.A) (A0 a.A)]) f:=Zu;have E:RS Bd t o i f j ((g.new [Y 0,H]).put g.B [Y (i.idxOf a.B:Nat),sl b (Z a.A) (A0 a.A)]):=Zr;exact⟨_,rfl,0,1,[],i,f,j,by rw[B.o];rfl,C.transX (tq A o),E.keep A,p.trans K,by rw[B.o];trivial⟩
   rw[m]at Q;have U:=λ(i:ol) (f:Nat) (aj:St) (h:RS Bd t o i f j aj)=>Kf (c:=46) ht h;cases S:(A5 46 j)with
   |bad e=>
    have B:V (oz 400 t= .bad e):=P.o e (by rw[u.o,m,S];rfl);rw[S]at U;simp only[Rd.ok,Rd.rest]at U;clear m u P S;refine Z3 ?_
    (repeat (refine m0 ?_;intro yb ya;(first|(refine Xi (M) ?_;rintro _ _ ⟨k,n,b,c,i,f,rfl,I,a7,K,⟨m1,rfl,rfl,rfl⟩⟩;(have an:=I.keep.B;rename_i g;have C:Rs o v id ((g.new [Y 0,H]).put g.B [Y (i.idxOf a.B:Nat),sl b (Z a.A) (A0 a.A)]) f:=(Zu);have E:RS Bd t o i f j ((g.new [Y 0,H]).put g.B [Y (i.idxOf a.B:Nat),sl b (Z a.A) (A0 a.A)]):=(Zr)))|(refine Xi (Q _ _ _) ?_;rintro _ _ ⟨rfl,A⟩;(have a5:=C.transX (tq A o);have a6:=E.keep A))|(refine Xi (U i f _ a6) ?_;rintro _ _ ⟨rfl,D,F⟩))));refine X ?_
    exact⟨_,rfl,0,1,[],i,f,e,by rw[B.o];rfl,a5.transX D,F,p.trans K,by rw[B.o];trivial⟩
   |got au r3=>
    have B:V (zm t (xs++[a]) r3):=G.o.next (by rw[u.o,m,S];rfl);rw[S]at U;simp only[Rd.ok,Rd.rest]at U;clear m u P S;refine Z3 ?_
    (repeat (refine m0 ?_;intro yb ya;(first|(refine Xi (M) ?_;rintro _ _ ⟨k,n,b,c,i,f,rfl,I,a7,K,⟨m1,rfl,rfl,rfl⟩⟩;(have an:=I.keep.B;rename_i g;have C:Rs o v id ((g.new [Y 0,H]).put g.B [Y (i.idxOf a.B:Nat),sl b (Z a.A) (A0 a.A)]) f:=(Zu);have E:RS Bd t o i f j ((g.new [Y 0,H]).put g.B [Y (i.idxOf a.B:Nat),sl b (Z a.A) (A0 a.A)]):=(Zr)))|(refine Xi (Q _ _ _) ?_;rintro _ _ ⟨rfl,A⟩;(have a5:=C.transX (tq A o);have a6:=E.keep A))|(refine Xi (U i f _ a6) ?_;rintro _ _ ⟨rfl,D,F⟩))));refine nh ?_;intro yb ya
    rename_i ak am;have bm:=J.keepR hO I.keep (Zx a9.o hO);have bi:J v ((g.new [Y 0,H]).put g.B [Y (i.idxOf a.B:Nat),sl b (Z a.A) (A0 a.A)]) l (Z xs):=J.put (J.new bm _) _ _;have bh:=J.keepX (J.keep bi A) D;have ba:=a5.transX D;have aw:f=1\/f≠l:=oW a9.o hO I.nid;have ah:=A.B;simp only[Ac,Aa]at ah;have bo:=be;have o6:am.C g.B=[Y (i.idxOf a.B:Nat),sl b (Z a.A) (A0 a.A)]:=by rw[D.C _ L L,A.C _ BJ,Ak]
    have hC:qt i a [Y (i.idxOf a.B:Nat),sl b (Z a.A) (A0 a.A)]:=⟨m1,b,rfl⟩;refine X ?_;refine Tw (o:=o) (idn:=id) (σ0:=v) (by first|exact F5) ba.keep bh nr (by rfl) bf (by rfl) (by rfl) nr L L ?_;intro af ap a4 ac ab aa ao a2 ad ae;refine Z3 ?_;refine X ?_;refine⟨400-Z (xs++[a]),by simp;omega,xs++[a],r3,af,d++[Y (i.idxOf a.B:Nat),sl b (Z a.A) (A0 a.A)],i,f,rfl,nk,⟨ac,ba.nid⟩,F.app ab aa a2 ad aw,nn a4,fG F.own aw ae,p.trans K,by simp;omega,r.append (hE.o.mono (qt.mono K)) (r.single hC),B⟩
def po (A:oq):oq->Bool
 |[]=>false
 |a::F=>A.any (clash a)||po (A++[a]) F
theorem An4 {F}:∀{A:oq} {i:Nat} {a:AE},F[i]?=some a->(A++F.take i).any (clash a)->po A F:=by
 induction F with
 |nil=>intro A i a h;simp at h
 |cons b F d=>
  intro A i a h c;rw[po];cases i with
  |zero=>
   simp at h c;subst h;rw[LF];left;rw[CU];exact c
  |succ i=>
   rw[LF];right;exact d (A:=A++[b]) (i:=i) (nn h) (nn c)
theorem Ajz {F}:∀{A:oq},(∀(i:Nat) (a:AE),F[i]?=some a->(A++F.take i).any (clash a)=false)->po A F=false:=by
 induction F with
 |nil=>intro A _;rfl
 |cons b F c=>
  intro A h;rw[po];rw[Bool.or_eq_false_iff];refine⟨nn (h 0 b rfl),c λi a d=>?_⟩;have:=h (i+1) a (nn d);simpa using this
theorem EG.put {N S cc a}(h:EG N S cc)(b:Se S)(k:S.any (clash a)=false)(c:a.B∈N):EG N (S++[a]) (λj=>if j=N.idxOf a.B then (Z a.A:Int)else cc j):=by
 have m:=h a.B c;by_cases e:cc (N.idxOf a.B)=0;exact (h.step b c).1 e;have f:=(h.step b c).2 e;have l:¬(Ju S a.B≠0/\Ju S a.B≠Z a.A):=λg=>by grind[eZ]
 intro p i;dsimp only;by_cases d:N.idxOf p=N.idxOf a.B;rw[if_pos d,<-f p i,d];omega;rw[if_neg d];exact f p i
theorem tr {l i x}(h:l[i]?=some x):Ha l (i+1)=Ct l x i (Z (Af x)):=by simp_all[Ha,Ct,AT,BN,KC,AS]
theorem s9 {N l cs i a}(h:r (qt N) l cs)(d:l[i]?=some a):a.B∈N/\∃b g,cs.drop (i*2)=Y (N.idxOf a.B:Nat)::sl b (Z a.A) (A0 a.A)::g:=by obtain⟨c,g,⟨f,b,rfl⟩,e⟩:=r.get R_ h d;grind
theorem yg (N d)(hN:N<+:d)(l cs idn Lqx)(T:Bk N l cs)(hT:∀S,S<+:l.flatMap Af->∀a∈l.flatMap Af,S.any (clash a)=false)(F U a1)(hF:r (qt d) F U)(cd:Z F<=1000)(b0:∀a∈F,0<Z a.A/\Z a.A<=3)(b9:Z d<=2500)(g):
  ni 79 [Cq N idn l Lqx cs,sl a1 (Z F) U,Y (Z d)] g λa2 σ'=>a2=my (po (l.flatMap Af) F)/\W g σ':=by
 have hE:r (PI d) l cs:=T.el.mono (PI.mono hN);have az:=r.length Ew hE;have b7:=r.length R_ hF;have bp:=T.len;unfold Cq;refine wl func79 ?_;refine X ?_
 refine Ae (λm s σ'=>∃(i:Nat) (f:Nat->Int),m=Z l-i/\i<=Z l/\s 1=sl a1 (Z F) U/\s 7=fx (g.B+1) 0 (Z d)/\s 17=sl Lqx (Z l) cs/\s 18=Y (Z l)/\s 19=Y i/\W g σ'/\g.B+1<σ'.B/\σ'.C (g.B+1)=Pe (Z d) f/\V (EG d (Ha l i) f)/\V (Se (Ha l i))) (Z l)
  ⟨0,λ_=>0,L,L,rfl,?_,rfl,rfl,rfl,Xs,AM,?_,?_,by simp[V,Ha,XC]⟩ ?_
 ·simp[upd]
 ·show (if g.B+1=g.B+1 then _ else _)=_;rw[if_pos rfl];exact yX _
 ·intro b3 hp;simp[Ha,Ju]
 rintro m s σ' ⟨i,f,rfl,v,K,h7,a8,a7,a6,o,M,u,y,D⟩;have G:=o.B;by_cases E:i<Z l
 ·obtain⟨x,t⟩:=gq E;have ax:=T.fits x (AY t);have bb:=T.o x (AY t);have ba:=T.pos x (AY t);obtain⟨hm,ih,id,b,a2,P,ac⟩:=Ih hE t;have HX:V (l[i]?=some x):=t;clear t;have b8:=ax.atoms
  refine m0 ?_;intro yb ya;refine Xi (Nj d x _ (PI.of hm P) bb (ny ax.1) _) ?_;rintro _ _ ⟨an,af,rfl,bh,a5⟩;have aj:=a5.C;have ak:=a5.B;(try simp only[Aa,Ac,Az]at ak);refine X ?_;rename_i ab;have bw:=r.length iN bh;have bg:W g ab:=Xs;have am:ab.C (g.B+1)=Pe (Z d) f:=by
   rw[aj _ (by simp only[Aa,Ac];omega),Aj L,Ah M];exact u
  clear aj
  refine wn [1,7,17,18,19,24,25] 26 (Z (Af x)) (λj s σ'=>∃f:Nat->Int,W g σ'/\g.B+1<σ'.B/\σ'.C (g.B+1)=Pe (Z d) f/\V (EG d (Ct l x i j) f)/\V (Se (Ct l x i j))) ⟨f,bg,L,am,by simpa[Ct]using y,by simpa[Ct]using D⟩ ?_
  clear am o u y D a5 ak G K h7 a8 a7 a6 M f bg;rintro j s σ' _ ⟨K,h7,a8,a7,a6,_,_⟩ _ ⟨f,o,M,u,y,D⟩;have G:=o.B;by_cases ai:j<Z (Af x)
  ·obtain⟨a,t⟩:=gq ai;have a0:=ba a (AY t);have ah:=(AY t);obtain⟨e,ia,r2,bc⟩:=OZ bh t
   have B:(Ct l x i j).any (clash a)=false:=hT _ (by
    unfold Ct Ha;have e1:l=l.take i++x::l.drop (i+1):=by
     let⟨K,h2⟩:=BA.1 HX.o;rw[<-h2];exact (KD i l).symm.trans (by rw[ET K])
    conv=>rhs;rw[e1]
    rw[KC,DN]
    exact (prefix_append_right_inj _).2 ((take_prefix j _).trans (prefix_append _ _))) a (EX.2 ⟨x,AY HX.o,ah⟩)
   have C:V (EG d (Ct l x i (j+1)) (λq=>if q=d.idxOf a.B then (Z a.A:Int)else f q)/\Se (Ct l x i (j+1))):=by
    rw[V,I3 t];exact⟨y.o.put D.o B e,eY D.o a0 B⟩
   have R:=CS e;have I:=λa4=>WX (n:=Z d) (i:=d.idxOf a.B) f a4;have bo:=Zb (Z d) f;clear t B ah;generalize d.idxOf a.B=p at bc R I C;refine X ?_;exact⟨λq=>if q=p then (Z a.A:Int)else f q,qk C.o.1 C.o.2⟩
  obtain rfl:j=Z (Af x):=L;have C:V (EG d (Ha l (i+1)) f/\Se (Ha l (i+1))):=by
   rw[V,tr HX.o];exact⟨y.o,D.o⟩
  refine X ?_;refine⟨Z l-(i+1),L,i+1,f,?_⟩;exact nf C.o.1 C.o.2
 obtain rfl:i=Z l:=L;have e0:Ha l (Z l)=l.flatMap Af:=by simp[Ha]
 rw[e0]at y D;generalize l.flatMap Af=A at y D;refine X ?_
 refine Ae (λm s σ'=>∃(k:Nat) (f:Nat->Int),m=Z F-k/\k<=Z F/\s 7=fx (g.B+1) 0 (Z d)/\s 39=sl a1 (Z F) U/\s 40=Y (Z F)/\s 41=Y k/\W g σ'/\g.B+1<σ'.B/\σ'.C (g.B+1)=Pe (Z d) f/\V (EG d (A++F.take k) f/\Se (A++F.take k)/\∀(i:Nat) (a:AE),i<k->F[i]?=some a->(A++F.take i).any (clash a)=false)) (Z F)
  ⟨0,f,L,L,AI,AI,AI,AG,o,M,u,nn y.o,nn D.o,λi a v=>L⟩ ?_
 clear K h7 a8 a7 a6 o M u y D G f E;rintro m s σ' ⟨k,f,rfl,hk,h7,cg,cf,ce,o,M,u,y⟩;have G:=o.B;by_cases E:k<Z F
 ·obtain⟨a,t⟩:=gq E;obtain⟨e,ao,a2,ac⟩:=s9 hF t;have a0:=b0 _ (AY t);let⟨c1,c2,c3⟩:=y.o;have HG:V (F[k]?=some a):=t;have av:V (A++F.take (k+1)=A++F.take k++[a]):=by rw[V,AT,t,BN,CR]
  have R:=CS e;have Q:=c1.step c2 e;have ay:=c1 a.B e;have be:=N0 f R;have I:=λa4=>WX (n:=Z d) (i:=d.idxOf a.B) f a4;have bo:=Zb (Z d) f;have az:=eZ c2 a;have bn:V (((A++F.take k).any (clash a)=false)->∀(i:Nat) (b:AE),i<k+1->F[i]?=some b->(A++F.take i).any (clash b)=false):=λhh i b v P=>by
   by_cases ad:i=k
   ·subst ad;rw[HG.o]at P;cases P;exact hh
   exact c3 i b L P
  generalize bz:f (d.idxOf a.B)=c at be Q ay;clear bz t c1 c3 y;generalize d.idxOf a.B=p at ac be R Q I;have bm:V _:=c2;have bi:V _:=Q;have aw:V _:=ay;have a9:V _:=az;clear Q ay az c2;by_cases z:(c==0)=true
  ·have b6:((Pe (Z d) f).set p (Y (Z a.A)))[p]?=some (Y (Z a.A)):=by rw[I,N0 _ R];simp
   have b2:((Z a.A:Int) !=Z a.A)=false:=nk;have aa:c=0:=nn z;have b1:V _:=I;have B:(A++F.take k).any (clash a)=false:=by
    cases hq:(A++F.take k).any (clash a)
    ·rfl
    exfalso;have K:=(a9.o.1 hq).1;have h2:=aw.o;omega
   have C:V (EG d (A++F.take (k+1)) (λj=>if j=p then (Z a.A:Int)else f j)/\Se (A++F.take (k+1))/\∀(i:Nat) (b:AE),i<k+1->F[i]?=some b->(A++F.take i).any (clash b)=false):=by
    refine⟨?_,?_,bn.o B⟩
    ·rw[av.o];exact bi.o.1 aa
    rw[av.o];exact eY bm.o a0.1 B
   clear I B aa;refine X ?_;refine Ax Ag (λ_=>True) [8] [0,1,2,3,4,5,6,7] [8] AH (λ_ _ _ h=>h) ?_;intro yb ya;refine X ?_;refine⟨Z F-(k+1),L,k+1,λj=>if j=p then (Z a.A:Int)else f j,?_⟩
   ((repeat' refine Zi ?_ ?_)<;>first|exact Xq|exact C|exact (((o.new _).put o.B _).put L _)|exact (b1.o _)|exact Xs)
  have z:(c==0)=false:=nn z;clear I;refine X ?_;refine Ax Ag (λ_=>True) [8] [0,1,2,3,4,5,6,7] [8] AH (λ_ _ _ h=>h) ?_;intro yb ya;refine Z3 ?_;refine m6 ?_ ?_<;>intro h ae
  ·have a3:c≠0:=nn z
   have bf:c≠Z a.A:=nn h;have bv:=a9.o.2 ⟨ny aw.o,ny aw.o⟩;exact⟨_,rfl,by rw[An4 HG.o bv],(o.new _).put o.B _⟩
  have a3:c≠0:=nn z;have bf:c=Z a.A:=nn h;have B:(A++F.take k).any (clash a)=false:=by
   cases hq:(A++F.take k).any (clash a)
   ·rfl
   exfalso;have K:=(a9.o.1 hq).2;have h2:=aw.o;omega
  have C:V (EG d (A++F.take (k+1)) f/\Se (A++F.take (k+1))/\∀(i:Nat) (b:AE),i<k+1->F[i]?=some b->(A++F.take i).any (clash b)=false):=by
   refine⟨?_,?_,bn.o B⟩
   ·rw[av.o];exact bi.o.2 a3
   rw[av.o];exact eY bm.o a0.1 B
  clear bf a3 B;exact⟨Z F-(k+1),L,k+1,f,oj⟩
 obtain rfl:k=Z F:=L;have hz:po A F=false:=Ajz λi a v=>y.o.2.2 i a (BA.1 v).1 v;rw[hz];refine X ?_
 exact⟨_,rfl,rfl⟩
def qi (N:ol)(l:n0)(k:Nat):Bool:=l.any λx=>!x.o&&decide (N.idxOf x.h.B=k)
theorem u0 {α:Type}{l:List α}{f i x}(h:(l.take i).any f=false)(a:l[i]?=some x)(b:f x=false):(l.take (i+1)).any f=false:=by simp_all[AT,BN,MH]
theorem z_ {α:Type}{l:List α}{f}{i:Nat}{x}(a:l[i]?=some x)(b:f x):l.any f:=CU.2 ⟨x,AY a,b⟩
theorem yh (N l cs q)(I:flat q)(e k:Nat)(u:r (PI N) l cs)(K:Z l<=1000)(p):ni 134 [ag [q,sl e (Z l) cs],Y k] p λm σ'=>m=my (qi N l k)/\W p σ':=by
 have F:=r.length Ew u;refine wl func134 ?_;refine X ?_
 refine wn [1,8,9] 10 (Z l) (λi s σ'=>W p σ'/\V (qi N (l.take i) k=false)) ⟨Xs,by simp[V,qi]⟩ ?_
 rintro i s σ' _ _ _ ⟨t,a⟩;have D:=t.B;by_cases z:i<Z l;have c:=AK z;obtain⟨B,n,id,b,m,A,f⟩:=Ih u c;generalize l[i]=x at f c B A;cases d:x.o
 ·rw[d]at f;by_cases g:N.idxOf x.h.B=k;have o:(((N.idxOf x.h.B:Nat):Int)==(k:Int))=true:=by simp[g]
  have j:V (qi N l k=true):=z_ c (by simp[d,g]);clear c a d g;generalize N.idxOf x.h.B=v at f o;refine X ?_;exact⟨_,rfl,by rw[j.o],Xs⟩;have o:(((N.idxOf x.h.B:Nat):Int)==(k:Int))=false:=nn (by omega:¬((N.idxOf x.h.B:Nat):Int)=k);have j:V (qi N (l.take (i+1)) k=false):=u0 a.o c (by simp[g]);clear c a d g;generalize N.idxOf x.h.B=v at f o;refine X ?_;skip;exact m9 j
 rw[d]at f;have j:=u0 a.o c (by simp[d]);clear c a d;refine X ?_;skip;exact m9 j
 obtain rfl:i=Z l:=L;have a:=a.o;rw[AS]at a;rw[a];refine X ?_
 exact⟨_,rfl,rfl⟩
theorem yi (N b)(Jqx:N<+:b)(l cs idn d)(t:Bk N l cs)(F j f)(y:r (qt b) F j)(M:Z F<=1000)(c):
  ni 80 [Cq N idn l d cs,sl f (Z F) j] c λm σ'=>m=my (F.any λa=>qi b l (b.idxOf a.B))/\W c σ':=by
 have z:r (PI b) l cs:=t.el.mono (PI.mono Jqx);have Q:=r.length R_ y;have S:=t.len;have D:=λ(k:Nat) c=>yh b l cs (lw idn N) rfl d k z L c;unfold Cq;refine wl func80 ?_;refine X ?_
 refine wn [2,7,8] 9 (Z F) (λk s σ'=>W c σ'/\c.B<σ'.B/\σ'.C c.B=[lw idn N,sl d (Z l) cs]/\V ((F.take k).any (λa=>qi b l (b.idxOf a.B))=false)) ⟨Xs,AM,by rw[Ao],by simp[V]⟩ ?_
 rintro k s σ' _ _ _ ⟨i,T,E,e⟩;have P:=i.B;by_cases G:k<Z F
 ·obtain⟨a,g⟩:=gq G;obtain⟨B,C,m,p⟩:=s9 y g;have u:=D (b.idxOf a.B);have o:V (qi b l (b.idxOf a.B)->F.any (λa=>qi b l (b.idxOf a.B))):=λh=>z_ g h;have q:V (qi b l (b.idxOf a.B)=false->(F.take (k+1)).any (λa=>qi b l (b.idxOf a.B))=false):=λh=>u0 e.o g h;clear g e;generalize b.idxOf a.B=K at p u o q
  refine mt u ?_;rintro yb ya _ _ ⟨rfl,n⟩;have A:=n.B;have v:=n.C;simp only[Ac,Aa]at A v;have R:=((i.new _).put i.B _).trans n;refine m6 ?_ ?_<;>intro h x
  ·exact⟨_,rfl,by rw[o.o nu]⟩
  have I:V ((F.take (k+1)).any (λa=>qi b l (b.idxOf a.B))=false):=q.o nu;exact oj
 obtain rfl:k=Z F:=L;have e:=e.o;rw[AS]at e;rw[e];refine X ?_
 exact⟨_,rfl,rfl⟩
end
def ρ (l:n0)(p:Tx):Bool:=l.any λx=>!x.o&&decide (x.h.B=p)
def d_ {N l}(c:∀x∈l,x.h.B∈N){p}(b:p∈N):qi N l (N.idxOf p)=ρ l p:=by rw[qi,ρ];rw[GI,CU,CU];constructor;rintro⟨x,a,h⟩;simp only[BM,CV]at h;exact⟨x,a,by simp only[BM,CV];exact⟨h.1,E9 (c x a) b h.2⟩⟩;grind
def e_ {α:Type}{l:List α}{f g}(h:∀a∈l,f a=g a):l.any f=l.any g:=gp
def pd (l:n0)(t:Tx):Int:=match oz 400 t with
 |.bad _=>7
 |.got F _=>if po (l.flatMap Af) F=true then 3 else if F.any (λa=>ρ l a.B)=true then 8 else 0
def rh:∀(n:Nat) (s:Tx) (F:oq) (u:Tx),oz n s= .got F u->u=[]/\Z F<=n/\s=F.flatMap (λa=>Bh a++[46])/\∀a∈F,En a/\a.nt=false/\qx a=true
 |n,[],F,u,h=>by grind[so]
 |0,b::s,F,u,h=>by cases h
 |n+1,b::s,F,u,h=>by
  rw[sp]at h;cases c:qo (b::s)with
  |bad e=>rw[c]at h;cases h
  |got x g=>
   rw[c]at h;simp only[Rd.bnd]at h;cases d:oz n g with
   |bad e=>rw[d]at h;cases h
   |got i t=>
    rw[d]at h;cases h;let⟨l,e2,m,o⟩:=rh n g i u d;let⟨q,p,j,k⟩:=v8 c;refine⟨l,gp,?_,λa f=>?_⟩;rw[q,m];simp;obtain rfl|f:=BD.1 f;exact⟨p,j,k⟩;exact o a f
def xy (N l cs idn B)(hB:Bk N l cs)(b7:Z N<=600)(hT:∀S,S<+:l.flatMap Af->∀a∈l.flatMap Af,S.any (clash a)=false)(t)(ht:Z t<=400)(b):
  ni 48 [Cq N idn l B cs,O t] b λad σ'=>∃(f n np:Nat) (j:oh),ad=tp [sl f n j,Y np,Y (pd l t)]/\W b σ'/\(pd l t=0->∃F q,oz 400 t= .got F []/\n=Z F/\np=Z q/\N<+:q/\Z q<=1000/\r (qt q) F j):=by
 have ao:=λq e F j f k h1 h2 h3 b=>yg N q e l cs idn B hB hT F j f k h1 h2 h3 b;have au:=λq e F j f k h1 b=>yi N q e l cs idn B hB F j f k h1 b;have bp:∀x∈l,x.h.B∈N:=λx U=>by
  obtain⟨i,p⟩:=CL U;exact (Ih hB.el p).1
 unfold Cq at ao au⊢;refine wl func48 ?_;refine X ?_
 refine Ae (λa6 s σ'=>∃(i A:Nat),a6=Z N-i/\i<=Z N/\s 2=ptr b.B 0/\s 7=ptr (b.B+1) 0/\s 15=lw idn N/\s 16=Y (Z N)/\s 17=Y i/\W b σ'/\b.B+1<σ'.B/\σ'.C b.B=[lw idn N,sl B (Z l) cs]/\σ'.C (b.B+1)=[O t,Y 0,sl A i ((N.take i).map O)]/\J b σ' A i) (Z N)
  ⟨0,1,L,L,AG,AG,AG,AG,rfl,Xs,BJ,?_,?_,J.nil _ _⟩ ?_
 rw[Aj L,Ah AM,Ao];rw[Ak];simp;rintro a6 s σ' ⟨i,A,rfl,p,h2,h7,cf,ce,cd,hK,bv,bf,bc,hO⟩;by_cases bo:i<Z N;have aw:=AK bo;have b0:(N.map O).drop i=O N[i]::(N.map O).drop (i+1):=by
  rw[ET (nn bo)];simp
 generalize N[i]=w at aw b0;have HX:V ((N.take i).map O++[O w]=(N.take (i+1)).map O):=by rw[V,AT,aw];simp
 have bu:Z ((N.take i).map O)=i*1:=by simp;omega
 clear aw;generalize (N.take i).map O=xs at bc HX bu;refine m5 ?_;intro yb ya;intro idn ak ac ab af ah ai ae;refine X ?_;refine⟨Z N-(i+1),L,i+1,idn,?_⟩;exact⟨rfl,L,nk,ab.put L _,by rw[<-HX.o],J.put ac _ _⟩;obtain rfl:i=Z N:=L;rw[AS]at bc;have bq:RS (Z N) t (b.B+1) N A t σ':=by
  refine⟨by rw[bc];simp[Pk,dO],bv,?_,suffix_refl _,L,L⟩;obtain a1|⟨a4,e1,e2,e3,e4,e5⟩:=hO;exact .inl a1;exact .inr ⟨a4,e1,e3,e4,e5⟩
 have D:A<2\/b.D+2<=A:=by
  rcases hO with a1|⟨a4,e1,e2,e3,e4,e5⟩<;>omega
 have G:=Aac (Bd:=Z N) ht bq;cases m:oz 400 t with
 |bad a1=>
  have a5:pd l t=7:=by unfold pd;rw[m]
  rw[m]at G;simp only[Rd.ok,Rd.Val]at G;rw[a5];refine m0 ?_;intro yb ya;refine Xi (G) ?_;rintro _ _ ⟨n,g,c,d,a0,r2,rfl,o,z,u,-⟩;have av:=o.keep.B;have M:=An.keep hK o.keep L D;refine X ?_
  exact⟨_,rfl,1,0,0,[],rfl,λh=>by simp at h⟩
 |got F r0=>
  obtain⟨rfl,b8,-,bm⟩:=rh _ _ _ _ m;rw[m]at G;simp only[Rd.ok,Rd.Val]at G;have a5:pd l t=if po (l.flatMap Af) F=true then 3 else if F.any (λa=>ρ l a.B)=true then 8 else 0:=by unfold pd;rw[m]
  rw[a5]
  have b1:∀a∈F,0<Z a.A/\Z a.A<=3:=λa y=>⟨by
   have:=(bm a y).1.2.1;cases hh:a.A with
   |nil=>exact absurd hh this
   |cons am ys=>simp,(bm a y).1.2.2.1⟩
  have ba:Z F<=1000:=L;clear m a5 bm;generalize b9:l.flatMap Af=aa at*
  have I:=λq e j f k=>ao q e F j f k ba b1;have a2:=λq e j f k=>au q e F j f k ba;cases an:po aa F
  ·simp only[an]at I;simp only[EI,if_false];clear an;cases be:F.any (λa=>ρ l a.B)with
   |true=>
    have bn:∀(d:ol),N<+:d->∀(j:oh) (f:Nat),r (qt d) F j->F.any (λa=>qi d l (d.idxOf a.B))=true:=λd hP j f hE=>by
     rw[<-be];refine e_ λa y=>d_ (λx U=>hP.subset (bp x U)) ?_;obtain⟨i,p⟩:=CL y;exact (s9 hE p).1
    simp only[if_true];clear be
    (repeat (refine m0 ?_;intro yb ya;(first|(refine Xi (G) ?_;rintro _ _ ⟨n,g,c,d,a0,r2,rfl,o,z,u,⟨rfl,v⟩⟩;(have av:=o.keep.B;have M:=An.keep hK o.keep L D;have Q:=z.C;unfold Pk dO at Q;have R:=o.keep.C b.B L L;rw[bf]at R;have E:=λb=>I d u c g v (by have:=z.len;omega) b;have T:=λb=>a2 d u c g v b;rw[bn d u c g v]at T))|(refine Xi (E _) ?_;rintro _ _ ⟨rfl,C⟩;(have K:=M.trans C;have a3:=C.C;have bh:=C.B))|(refine Xi (T _) ?_;rintro _ _ ⟨rfl,P⟩;(have bi:=K.trans P)))));refine X ?_
    first|exact⟨_,rfl,1,0,0,[],rfl,bi,λh=>by simp at h⟩|exact⟨_,rfl,1,0,0,[],rfl,λh=>by simp at h⟩
   |false=>
    have bn:∀(d:ol),N<+:d->∀(j:oh) (f:Nat),r (qt d) F j->F.any (λa=>qi d l (d.idxOf a.B))=false:=λd hP j f hE=>by
     rw[<-be];refine e_ λa y=>d_ (λx U=>hP.subset (bp x U)) ?_;obtain⟨i,p⟩:=CL y;exact (s9 hE p).1
    simp only[EI,if_false];clear be
    (repeat (refine m0 ?_;intro yb ya;(first|(refine Xi (G) ?_;rintro _ _ ⟨n,g,c,d,a0,r2,rfl,o,z,u,⟨rfl,v⟩⟩;(have av:=o.keep.B;have M:=An.keep hK o.keep L D;have Q:=z.C;unfold Pk dO at Q;have R:=o.keep.C b.B L L;rw[bf]at R;have E:=λb=>I d u c g v (by have:=z.len;omega) b;have T:=λb=>a2 d u c g v b;rw[bn d u c g v]at T))|(refine Xi (E _) ?_;rintro _ _ ⟨rfl,C⟩;(have K:=M.trans C;have a3:=C.C;have bh:=C.B))|(refine Xi (T _) ?_;rintro _ _ ⟨rfl,P⟩;(have bi:=K.trans P;have bg:=P.C;have br:=P.B)))));refine X ?_
    rename_i ap _ ax _ ay
    refine Ax Ag (λ_=>True) [] [0,1,2,3,4,5,6] [] AH (λ_ _ _ h=>h) ?_;intro yb ya;refine X ?_
    first|exact⟨_,rfl,g,Z F,Z d,c,rfl,bi,λ_=>⟨F,d,rfl,rfl,rfl,u,by have:=z.len;omega,v⟩⟩|exact⟨_,rfl,g,Z F,Z d,c,rfl,λ_=>⟨F,d,rfl,rfl,rfl,u,by have:=z.len;omega,v⟩⟩
  simp only[an]at I;simp only[if_true]
  (repeat (refine m0 ?_;intro yb ya;(first|(refine Xi (G) ?_;rintro _ _ ⟨n,g,c,d,a0,r2,rfl,o,z,u,⟨rfl,v⟩⟩;(have av:=o.keep.B;have M:=An.keep hK o.keep L D;have Q:=z.C;unfold Pk dO at Q;have R:=o.keep.C b.B L L;rw[bf]at R;have E:=λb=>I d u c g v (by have:=z.len;omega) b))|(refine Xi (E _) ?_;rintro _ _ ⟨rfl,C⟩;(have K:=M.trans C)))));refine X ?_
  first|exact⟨_,rfl,1,0,0,[],rfl,K,λh=>by simp at h⟩|exact⟨_,rfl,1,0,0,[],rfl,λh=>by simp at h⟩
def nz:List Int->List Int->Bool
 |x::t,y::u=>if x=y then nz t u else decide (x<y)
 |_,_=>false
def Aok {t u:List Int}{i x y}(d:t[i]?=some x)(b:u[i]?=some y):nz (t.drop i) (u.drop i)=if x=y then nz (t.drop (i+1)) (u.drop (i+1))else decide (x<y):=by let⟨a,e⟩:=BA.1 d;let⟨c,e2⟩:=BA.1 b;rw[ET a,ET c,e,e2];rfl
def ud:∀t:List Int,nz t t=false
 |[]=>rfl
 |x::t=>by simp[nz,ud t]
def s7:∀{t u:List Int},nz t u->nz u t=false
 |[],_,h=>by grind[nz]
 |_::_,[],h=>by grind[nz]
 |x::t,y::u,h=>by rw[nz]at h⊢;by_cases e:x=y;subst e;simp only[if_true]at h⊢;exact s7 h;grind
def Axq (a b c d e f):nz [d,e,f] [a,b,c]=false↔(a<d\/(a=d/\(b<e\/(b=e/\c<=f)))):=by grind[nz]
def ue {t u v}(m:Z t=3)(k:Z u=3)(l:Z v=3)(j:nz u t=false)(h2:nz v u=false):nz v t=false:=by
 match t,u,v,m,k,l with
 |[a,b,c],[d,e,f],[g,h,i],_,_,_=>
  rw[Axq]at j h2⊢;omega
def f_ {t u}(l:Z t=3)(k:Z u=3)(g:nz t u=false)(h2:nz u t=false):t=u:=by
 match t,u,l,k with
 |[a,b,c],[d,e,f],_,_=>
  simp only[nz]at g h2;by_cases i:a=d;subst i;simp only[if_true]at g h2;by_cases e2:b=e;subst e2;simp only[if_true]at g h2;by_cases j:c=f;rw[j];rw[if_neg j]at g;rw[if_neg (λe=>j e.symm)]at h2;simp at g h2;omega;rw[if_neg e2]at g;rw[if_neg (λe=>e2 e.symm)]at h2;simp at g h2;omega;rw[if_neg i]at g;rw[if_neg (λe=>i e.symm)]at h2;simp at g h2;omega
def Afp (t u)(e:Z t=3)(d:Z u=3)(a):ni 142 [ag (As t),ag (As u)] a λm σ'=>m=my (nz t u)/\W a σ':=by
 apply wl func142;refine mu ?_
 refine wn [2,3] 6 3 (λi s σ'=>σ'=(a.new (As t)).new (As u)/\V (nz t u=nz (t.drop i) (u.drop i))) ⟨rfl,by simp[V]⟩ ?_
 rintro i s σ' _ _ _ ⟨rfl,f⟩;by_cases v:i<3
 ·have j:t[i]?=some t[i]:=AK L;have g:u[i]?=some u[i]:=AK L;have p:=Qk j;have q:=Qk g;have b:V _:=Aok j g;generalize t[i]=x at p b;generalize u[i]=y at q b;clear j g
  refine mu ?_;refine Ax Ag (λ_=>True) [] [0,1,2,3,4,5,6] [] AH (λ_ _ _ h=>h) ?_;intro yb ya
  repeat' first|refine Z1 ?_|refine Z8 λyb ya=>?_|refine Z4 ?_;clear ya yb|refine Z2 ?_ ?_<;>intro h c<;>try exact Xp|refine Z7 ?_|exact Zt|apply ya.o;clear ya yb
  ·refine Ax Ag (λ_=>True) [] [0,1,2,3,4,5,6,7] [] AH (λ_ _ _ h=>h) ?_;intro yb ya
   refine mu ?_;have o:x≠y:=nn h;exact⟨_,rfl,by rw[f.o,b.o,if_neg o],((W.refl a).new _).new _⟩
  have l:x=y:=nn h;have n:V (nz t u=nz (t.drop (i+1)) (u.drop (i+1))):=by rw[V,f.o,b.o,if_pos l]
  skip;exact m9 n
 obtain rfl:i=3:=L;have k:nz t u=false:=by rw[f.o,JU L];rfl
 rw[k];refine mu ?_;exact⟨_,rfl,rfl,((W.refl a).new _).new _⟩
def pe:List Int->Tx
 |[]=>[]
 |x::a=>Lib.itoa x++a.flatMap λy=>44::Lib.itoa y
def Aso (l x):pe (l++[x])=if l=[]then Lib.itoa x else pe l++44::Lib.itoa x:=by
 cases l with
 |nil=>simp[pe]
 |cons y l=>simp[pe]
def qw (t:Ck):List Int:=t.takeWhile (λx=>decide (x≠ -1))
def ri (t:Ck):Tx:=pe (qw t)
def vm {t i}(h:∀x∈t.take i,x≠ -1)(a:t[i]?=some (-1)\/Z t<=i):qw t=t.take i:=by
 rw[qw]
 conv=>lhs;rw[<-KD i t]
 rw[takeWhile_append_of_pos (λx c=>nn (h x c))];obtain a|a:=a;let⟨b,d⟩:=BA.1 a;rw[ET b,d];simp;rw[JU a];simp
def r8 (x)(e:0<=x)(d:x<=9999):Z (Lib.itoa x)<=10:=by
 have b:∀(k u:Nat),u<10^(k+1)->Z (Lib.decDigits u)<=k+1:=by
  intro k;induction k with
  |zero=>intro u a;rw[Lib.decDigits,dif_pos (nn a)];simp
  |succ k c=>
   intro u a;rw[Lib.decDigits];split;simp;rw[AX];have:=c (u / 10) (gp);simp;omega
 rw[Lib.itoa];rw[if_neg L];have:=b 3 x.toNat (gp);omega
def xz (t)(k:Z t=3)(D:∀x∈t,-1<=x/\x<=9999)(d):ni 87 [ag (As t)] d λu σ'=>u=O (ri t)/\W d σ':=by
 have a1:=Io k;have R:=Jm k;have Q:=Qj k;have G:=Fo t;have I:({data:=#[44]}:ByteArray)=bs [44]:=rfl;have U:=SK;refine wl func87 ?_;refine mu ?_
 refine Ae (λm s σ'=>∃i:Nat,m=3-i/\i<=3/\s 3=O (pe (t.take i))/\s 6=ag (As t)/\s 7=Y i/\W d σ'/\Z (pe (t.take i))<=20*i/\V (∀x∈t.take i,x≠ -1)) 3
  ⟨0,L,L,by simp[upd,pe];try rfl,AI,AG,Xs,by simp[pe],by simp[V]⟩ ?_
 rintro m s σ' ⟨i,rfl,T,A,P,a0,a2,B,n⟩;by_cases S:i<3
 ·have a:t[i]?=some t[i]:=AK L;have z:=Qk a;have C:=D t[i] (AR L);generalize t[i]=x at z a C;by_cases f:x= -1
  ·subst f;have c:V (ri t=pe (t.take i)):=by rw[V,ri,vm n.o (.inl a)]
   clear a;refine mu ?_
   exact⟨_,rfl,by rw[c.o]⟩
  have F:(x== -1)=false:=nn f;have p:=λd=>eJ x L L d;have g:V (pe (t.take (i+1))=if i=0 then Lib.itoa x else pe (t.take i)++44::Lib.itoa x):=by
   rw[V,AT,a,BN,Aso];by_cases e:i=0
   ·subst e;simp
   rw[if_neg e,if_neg (λh=>by have:=congrArg length h;rw[CN,CQ]at this;omega)]
  have v:V (∀y∈t.take (i+1),y≠ -1):=λy o=>by
   rw[AT,a,BN]at o;obtain h|h:=AW.1 o
   ·exact n.o y h
   simp at h;subst h;exact f
  by_cases e:i=0
  ·subst e;have b:V (pe (t.take 1)=Lib.itoa x):=by rw[V];have:=g.o;simpa using this
   have q:pe (t.take 0)=[]:=by simp[pe]
   rw[q]at A;have N:(As t).head?=some (Y x):=by rw[head?_eq_getElem?];exact z
   have l:=r8 x L L;clear a f g q
   repeat' first|refine Z1 ?_|refine Z8 λyb ya=>?_|refine Z4 ?_;clear ya yb|refine Z2 ?_ ?_<;>intro h j<;>try exact Xp|refine Z5 ?_;refine Xi (p _) ?_;rintro _ _ ⟨rfl,rfl⟩|refine Z7 ?_|exact Zt|apply ya.o;clear ya yb
   exact⟨3-(0+1),L,1,rfl,L,by rw[b.o],rfl,by rw[b.o];omega,v⟩
  have M:decide ((i:Int)>0):=by simp;omega
  have b:V (pe (t.take (i+1))=pe (t.take i)++44::Lib.itoa x):=by have:=g.o;rwa[if_neg e]at this
  have l:=r8 x L L;have E:V (Z (pe (t.take (i+1)))<=20*(i+1)):=by rw[V,b.o];simp;omega
  clear a f g;generalize K:pe (t.take i)=js at A B b
  repeat' first|refine Z1 ?_|refine Z8 λyb ya=>?_|refine Z4 ?_;clear ya yb|refine Z2 ?_ ?_<;>intro h j<;>try exact Xp|refine Z5 ?_;refine Xi (p _) ?_;rintro _ _ ⟨rfl,rfl⟩|refine Z7 ?_|exact Zt|apply ya.o;clear ya yb
  exact⟨3-(i+1),L,i+1,rfl,L,by rw[b.o];simp[O],nk,E,v⟩
 obtain rfl:i=3:=L;have c:V (ri t=pe (t.take 3)):=by rw[V,ri,vm n.o (.inr L)]
 refine mu ?_
 exact⟨_,rfl,by rw[c.o]⟩
def px (l:List Ck):Prop:=l.Pairwise λa b=>nz b a=false
end Go.Proofs.YtmoeoppbmhfbpabGreatDoorJ
