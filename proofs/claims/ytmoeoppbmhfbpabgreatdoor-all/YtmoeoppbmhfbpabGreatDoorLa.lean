import Derived.Test.YtmoeoppbmhfbpabGreatDoorL
set_option maxHeartbeats 64000000
set_option maxRecDepth 100000
set_option linter.all false
open List
open List renaming length->Z
namespace Go.Proofs.YtmoeoppbmhfbpabGreatDoorJ
open Go.Abs Tryz
def PY:∀(M M':MM),Z M'=Z M->(∀k:Nat,Z (Ba M k)<=Z (Ba M' k))->(tot M<=tot M'/\(tot M'<=tot M->∀k:Nat,Z (Ba M' k)=Z (Ba M k)))
 |[],M',a,h=>by have:M'=[]:=GG (nn a);subst this;exact⟨Int.le_refl _,λ_ k=>rfl⟩
 |x::M,[],a,h=>by simp at a
 |x::M,y::M',a,h=>by
  let⟨d,b⟩:=PY M M' (nn a) (λk=>by have:=h (k+1);simpa[Ba]using this);have c:=h 0;simp[Ba]at c;rw[Ey,Ey];refine⟨L,λe k=>?_⟩;cases k with
  |zero=>simp[Ba];omega
  |succ k=>
   have:=b L k;simpa[Ba]using this
def BG.lens {D M M' d a}(h:BG D M M' d a)(k:Nat):Z (Ba M k)<=Z (Ba M' k):=by obtain⟨n,e,-,-⟩:=h.ext k;rw[e];simp
def BG.same {D M M' d c}(h:BG D M M' d c)(b:tot M'<=tot M)(k:Nat):Ba M' k=Ba M k:=by have a:=(PY M M' h.len h.lens).2 b k;obtain⟨n,e,-,-⟩:=h.ext k;rw[e]at a⊢;have:n=[]:=nn a;rw[this,EJ]
def Sf {z g c M d b}(a:BL z g c M d b):∀n∈H1 M,0<=n/\n<=5000:=λn f=>by obtain⟨x,e,rfl⟩:=AN.1 f;have:=a.ln x e;omega
def Jt (M):Z (H1 M)=Z M:=by simp[H1]
def XD {M k}(a:k<Z M):((H1 M)[k]?).getD 0=(Z (Ba M (k:Int)):Int):=by simp_all[AK,Cp,H1]
def LK (D:Gb)(R:List E3)(b c:MM):Prop:=∀d∈R,∀a,(∀l∈d.A,Lk D (MD b) a l)->MD c d.h.p.toNat (B8 d.h a)
def Yq {N D ν l}(a:l.neg=false)(h:Lk N D ν l):D l.a.p.toNat (B8 l.a ν):=by grind[Lk]
theorem nH {N D ν l}(a:l.neg)(h:Lk N D ν l):¬N l.a.p.toNat (B8 l.a ν):=by grind[Lk]
def ZO {np ar R D a g M2 F p x}(y:LN np ar R D)(I:Z a=np)(A:BG D a g F p)(E:LK D R a g)(h2:BG D g M2 p x)(B:∀s∈R,DD D g M2 (H1 a) s (Z s.A)):LK D R g M2:=λs n b h=>by
 by_cases u:∀l∈s.A,Lk D (MD a) b l;exact h2.sub (E s n b u);let⟨l,t⟩:∃l,¬(l∈s.A->Lk D (MD a) b l):=Classical.not_forall.1 u;have m:=Classical.byContradiction λf=>t (λc=>absurd c f);have q:¬Lk D (MD a) b l:=λf=>t (λ_=>f);have o:l.neg=false:=by grind[nH,Lk]
 have j:¬MD a l.a.p.toNat (B8 l.a b):=λf=>q (by grind[Lk]);let⟨i,v⟩:=CL m;have z:=(BA.1 v).1;let⟨k,C,G⟩:=(y.rw s n).rok.bp l m;apply B s n i l z v o b h;obtain⟨K,e,-,-⟩:=A.ext k;have d:=Yq o (h l m);rw[MD]at d j;rw[C]at d j⊢;rw[DK]at d j;rw[DK,XD L,DK];rw[e]at d⊢;rw[drop_left];obtain c|c:=AW.1 d;cases j c;exact c
def Zh {R D c a np ar o i}(j:LN np ar R D)(n:BG D c a o i)(g:LK D R c a)(m:tot a<=tot c):NL R D (MD a):=λq d f h=>g q d f (λl e=>by
 have:=h l e;rw[Lk]at this⊢;split;rename_i b;rw[if_pos b]at this;exact this;rename_i b;rw[if_neg b]at this;obtain⟨k,p,-⟩:=(j.rw q d).rok.bp l e;rw[MD]at this⊢;rw[p]at this⊢;rw[DK]at this⊢;rw[n.same m k]at this
 exact this)
def Sa {np ar R D}(C:LN np ar R D)(i o b)(bu: -1000000<=b)(br:b<=900000)(M d)(I:Z M=np)(hD:∀k t,MD M k t->D k t)(bw:IA R D M)(b8:Room M d b)(cn: -1000000<=d)(b6:d<=1000000)(Q U)(a7:r pK R Q)(b9:Z R<=1000)(z)(hM:BL z i o M d b):
  ni 84 [ptr i 0,sl U (Z R) Q] z λx j=>∃M' q,BL j i o M' q b/\KM i o M M' z j/\BG D M M' d q/\d<=q/\q<=1000000/\(¬b<q->NL R D (MD M')):=by
 have ck:=r.length iP a7;have au:=hM.pl;have bm:=λ(M:MM) (d:Int) z (h:BL z i o M d b)=>Sc i o M d b z h;have b2:=bm M d;have a2:V (Z M=np):=I;have cm:Z M<=np/\np<=Z M:=L;clear I;refine wl func84 ?_;refine m0 ?_;intro yb ya;refine Xi (b2 _ (hM.keep (Xs))) ?_;rintro _ _ ⟨⟨aj,rfl⟩,bi⟩;refine X ?_;rename_i bk
 refine Ae (λm s j=>∃(k:Nat) (a:MM) (c:Int),m=Z R-k/\k<=Z R/\s 0=ptr i 0/\s 1=sl U (Z R) Q/\s 4=sl aj (Z M) (As (H1 M))/\s 11=sl U (Z R) Q/\s 12=Y (Z R)/\s 13=Y k/\BL j i o a c b/\KM i o M a z j/\c<=1000000/\d<=c/\V (BG D M a d c/\Room a c b/\(¬b<c->LK D (R.take k) M a))) (Z R)
  ⟨0,M,d,L,L,by simp[upd,AL],by simp[upd,AL],AG,by simp[upd,AL],AG,rfl,hM.keep bi,KM.ofKeep bi,b6,L,BG.refl _ _ _,b8,λ_ F hr=>by simp at hr⟩ ?_
 clear bi b2;rintro m s j ⟨k,a,c,rfl,hk,h0,h1,h4,ci,ch,cg,f,y,v,B,e⟩;by_cases a8:k<Z R
 ·obtain⟨F,aa⟩:=gq a8;obtain⟨ap,ih,G,bc,rr,hd,hB⟩:=wF a7 aa;have ae:=(AY aa);have cj:V (R.take (k+1)=R.take k++[F]):=by rw[V,AT,aa,BN]
  clear aa;have ak:Z a=np:=by have:=e.o.1.len;rw[this];exact a2.o
  have cf:=λz (h:BL z i o a c b)=>eV i o a c b F [my ap,Y F.h.p,X1 ih F.h.ts,sl G (Z F.A) bc] (-1) 0 ⟨ap,ih,G,bc,rfl,hB⟩ (by rw[ak];exact (C.rw F ae).rok) L z h;have cc:V (∀ad,EQ (Mc a (-1) 0 F) ad->∀z,BL z i o a c b->ni 139 [ptr i 0,ag ad] z λx j=>∃M' q,BL j i o M' q b/\KM i o a M' z j/\BG D a M' c q/\Room M' q b/\q<=1000000/\c<=q/\(¬b<q->∀P,(∀(l:Lit) (ai:Nat),F.A[ai]?=some l->l.neg=false->B8 l.a P∈Zq a (-1) 0 ai l)->(∀l∈F.A,l.neg->¬D l.a.p.toNat (B8 l.a P))->MD M' F.h.p.toNat (B8 F.h P))):=λad h3 z hh=>
   Zp C i o b bu br a c ak (e.o.1.inD hD) (bw.gro e.o.1) e.o.2.1 L v F ae (-1) 0 ad h3 z hh
  clear ak;have l1:=f.lo;have l2:=f.lt
  (repeat (refine m0 ?_;intro yb ya;(first|(refine Xi (cf _ (f.keep (Xs))) ?_;rintro _ _ ⟨⟨_,rfl,ax,az,ay,bj,b4,rfl,ca,cb⟩,bg⟩;(have a6:=bg.B;have a5:=bg.C;simp only[Ac,Aa]at a6 a5;have K:=(((W.refl j).new _).put (AU _) _).trans bg;have cd:=cc.o _ ⟨ax,az,ay,bj,b4,rfl,ca,cb⟩))|(refine Xi (cd _ (f.keep (Xs))) ?_;rintro _ _ ⟨u,p,ab,an,S,bd,bb,ba,N⟩;(have E:V _:=S;have ao:V _:=N;clear S N;have am:=(y.trans (KM.ofKeep ((K.new _).put L _))).trans an)))));refine X ?_
  have HN:V (BG D M u d p/\Room u p b/\(¬b<p->LK D (R.take (k+1)) M u)):=by
   refine⟨e.o.1.trans E.o,bd,λA r' bo P a1=>?_⟩;rw[cj.o]at bo;obtain a4|a4:=AW.1 bo
   ·exact E.o.sub (e.o.2.2 L r' a4 P a1)
   simp at a4;subst a4;refine ao.o A P (λl ai hl a9=>?_) (λl hl a9=>nH a9 (a1 l hl));have bq:=AY hl;obtain⟨p',b3,-⟩:=(C.rw r' ae).rok.bp l bq;unfold Zq;rw[if_neg L];have:=Yq a9 (a1 l bq);unfold MD at this;rw[b3]at this⊢;exact e.o.1.sub this
  refine⟨Z R-(k+1),L,k+1,u,p,?_⟩;exact ng HN ab am
 obtain rfl:k=Z R:=L;rw[AS]at e;have b1:=bm a c;refine m0 ?_;intro yb ya;refine Xi (b1 _ (f.keep (Xs))) ?_;rintro _ _ ⟨⟨aw,rfl⟩,bh⟩;refine X ?_;rename_i z1
 refine Ae (λm s j=>∃(g a:MM) (ds c:Int) (ia G:Nat),m=2*(b-c+1).toNat+(if tot g<tot a then 1 else 0)/\s 0=ptr i 0/\s 1=sl U (Z R) Q/\s 4=sl ia (Z g) (As (H1 g))/\s 8=sl G (Z a) (As (H1 a))/\BL j i o a c b/\KM i o M a z j/\c<=1000000/\d<=c/\Z g<=5000/\(∀n∈H1 g,0<=n/\n<=5000)/\V (Z g=np/\BG D M a d c/\BG D g a ds c/\Room a c b/\(¬b<c->LK D R g a))) (2*(b-c+1).toNat+(if tot M<tot a then 1 else 0))
  ⟨M,a,d,c,aj,aw,rfl,AI,AI,AI,AG,f.keep bh,y.trans (KM.ofKeep bh),v,B,au,Sf hM,a2.o,e.o.1,e.o.1,e.o.2.1,e.o.2.2⟩ ?_
 clear h0 h1 h4 ci ch cg f y v B e bh b1 a8 hk;rintro m s z2 ⟨g,a,ds,c,ia,G,rfl,h0,h1,h4,h8,f,y,v,B,cp,bv,e⟩;have T:=Qm i o a c b;have a3:=λ(id:Nat) z=>Nv (H1 a) id (by rw[Jt];have:=f.pl;omega) (λn I=>ny (Sf f n I)) z;have ac:=λ(id:Nat) z=>Nv (H1 g) id (by rw[Jt];omega) (λn I=>ny (bv n I)) z;rw[show (H1 a).sum=tot a from rfl]at a3;rw[show (H1 g).sum=tot g from rfl]at ac;unfold X2 at a3 ac;rw[Jt]at a3 ac;by_cases ah:b<c
 ·rw[show decide (b<c)=true from by simpa using ah]at T
  refine m0 ?_;intro yb ya;refine Xi (T _ (f.keep (Xs))) ?_;rintro _ _ ⟨rfl,rfl⟩;refine X ?_
  exact⟨_,rfl,a,c,f,y,e.o.2.1,B,v,λh=>absurd ah h⟩
 rw[show decide (b<c)=false from by simpa using ah]at T;by_cases bn:tot g<tot a
 ·have b5:decide (tot a>tot g):=nn bn
  have b0:=λz (h:BL z i o a c b)=>Uz C i o b bu br a c (e.o.2.1.len.trans a2.o) (e.o.2.1.inD hD) (bw.gro e.o.2.1) e.o.2.2.2.1 L v Q U a7 b9 (H1 g) ia (by rw[Jt];exact e.o.1) bv z h;unfold X2 at b0;rw[Jt]at b0;rw[if_pos bn]
  repeat' first|refine Z1 ?_|refine Z8 λyb ya=>?_|refine Z4 ?_;clear ya yb|refine Z2 ?_ ?_<;>intro h af<;>try exact Xp|(refine Z5 ?_;first|(refine Xi (T _ (f.keep (Xs))) ?_;rintro _ _ ⟨rfl,rfl⟩)|(refine Xi (a3 _ _) ?_;rintro _ _ ⟨rfl,bf⟩;(have K:=bf))|(refine Xi (ac _ _) ?_;rintro _ _ ⟨rfl,be⟩;(have a0:=K.trans be))|(refine Xi (b0 _ (f.keep (Xs))) ?_;rintro _ _ ⟨u,p,ab,an,S,bd,bb,ba,N⟩;(have E:V _:=S;have ao:V _:=N;clear S N;have am:=(y.trans (KM.ofKeep a0)).trans an;have ce:=bm u p))|(refine Xi (ce _ (ab.keep (Xs))) ?_;rintro _ _ ⟨⟨av,rfl⟩,bz⟩))|refine Z3 ?_|exact Zt|apply ya.o;clear ya yb
  have b7:=E.o.cnt;refine⟨2*(b-p+1).toNat+(if tot a<tot u then 1 else 0),by split<;>omega,a,u,c,p,G,av,?_⟩
  have HN:V (Z a=np/\BG D M u d p/\BG D a u c p/\Room u p b/\(¬b<p->LK D R a u)):=
   ⟨e.o.2.1.len.trans a2.o,e.o.2.1.trans E.o,E.o,bd,λA=>ZO C e.o.1 e.o.2.2.1 (e.o.2.2.2.2 L) E.o (ao.o A)⟩
  ((repeat' refine Zi ?_ ?_)<;>first|exact Xq|exact HN|exact (ab.keep bz)|exact (am.trans (KM.ofKeep bz))|exact f.pl|exact (Sf f)|exact Xs)
 have b5:decide (tot a>tot g)=false:=by simp;omega
 repeat' first|refine Z1 ?_|refine Z8 λyb ya=>?_|refine Z4 ?_;clear ya yb|refine Z2 ?_ ?_<;>intro h af<;>try exact Xp|(refine Z5 ?_;first|(refine Xi (T _ (f.keep (Xs))) ?_;rintro _ _ ⟨rfl,rfl⟩)|(refine Xi (a3 _ _) ?_;rintro _ _ ⟨rfl,bf⟩;(have K:=bf))|(refine Xi (ac _ _) ?_;rintro _ _ ⟨rfl,be⟩;(have a0:=K.trans be)))|refine Z3 ?_|exact Zt|apply ya.o;clear ya yb
 exact⟨_,rfl,a,c,f.keep a0,y.trans (KM.ofKeep a0),e.o.2.1,B,v,λA=>Zh C e.o.2.2.1 (e.o.2.2.2.2 A) L⟩
def XY {ar a ν k}(u:Z a.ts<=3)(q:Z a.ts=ar k)(h:Sh ar k (B8 a ν)):∀t∈a.ts,∃n:Nat,Ei ν t=(n:Int)/\n<1026:=by
 let⟨l,e,s,o⟩:=h;intro t p;let⟨i,g⟩:=CL p;have d:=(BA.1 g).1;have b:(a.ts.map (Ei ν))[i]?=some (Ei ν t):=gp
 have j:i<Z l:=L;have c:=AK j;have m:Ei ν t=l[i]:=by grind[B8,Ej]
 exact m▸o _ (AR j)
def gy {np ar R N}(h:∀n∈R,RW np ar n):NL R N (Sh ar):=λn f d i=>by
 have a:=h n f;refine⟨n.h.ts.map (Ei d),rfl,by rw[BV];exact a.har,λx g=>?_⟩;obtain⟨t,c,rfl⟩:=AN.1 g;let⟨k,e⟩:=t;cases k with
 |false=>exact a.hc _ c rfl
 |true=>
  let⟨l,b,m,j⟩:=a.safe e (.inl (by grind[AO]));exact XY (a.rok.ba l b) (a.bar l b) (Yq m (i l b)) _ (AO.1 j)
def aZ (t:Tm):Tm:=if t.1=true then (false,1000+t.2)else t
def Fx (a:Dx):Dx:=⟨a.p,a.ts.map aZ⟩
def NP (a:List Tm):Prop:=∀t∈a,-1000000<=t.2/\t.2<=1000000
def R9 (p x ts)(M:Z ts<=1000)(A:NP ts)(z):ni 157 [ag [Y p,X1 x ts]] z λm a=>(∃id,m=ag [Y p,sl id (Z ts) (Ad (ts.map aZ))])/\W z a:=by
 have I:=Cx ts;refine wl func157 ?_;refine X ?_
 refine wn [2,3,10,11] 12 (Z ts) (λi s a=>∃(f:Nat) (d:oh),W z a/\z.B+2<a.B/\a.C (z.B+1)=[Y 0,H]/\a.C (z.B+2)=[Y p,sl f i d]/\J z a f i/\Z d=i*2/\V (d=Ad ((ts.take i).map aZ))) ⟨1,[],Xs,BJ,?_,?_,J.nil _ _,nk,by simp[V,Ad]⟩ ?_
 ·rw[Aj L,Ah AM,Be AM AM]
 ·rw[show z.B+2=z.B+1+1 from rfl,Ak]
 rintro i s a _ _ _ ⟨f,d,b,K,N,G,t,o,e⟩;have R:=b.B;by_cases u:i<Z ts
 ·obtain⟨w,g⟩:=gq u;obtain⟨m,D⟩:=C3 g;have E:=A _ (AY g);let⟨v,j⟩:=w;have q:V (Ad ((ts.take (i+1)).map aZ)=Ad ((ts.take i).map aZ)++Js (aZ (v,j))):=by
   rw[V,AT,g];simp[Ad]
  clear g;cases v
  ·refine nh ?_;intro yb ya;refine Bo (by first|exact Gl) ((b.new _).put b.B _) (J.put (J.new t _) _ _) nr (by rfl) (o) (by rfl) (by rfl) nr L L ?_;intro c y l k F n C B;refine Z3 ?_;refine X ?_;refine⟨c,d++[my false,Y j],?_⟩
   ((repeat' refine Zi ?_ ?_)<;>first|exact Xq|exact (k.put L _)|exact (J.put l _ _)|exact (by rw[V,q.o,e.o];rfl)|exact Xs)
  refine nh ?_;intro yb ya;refine Bo (by first|exact Gl) (((b.new _).put b.B _).put b.B _) (J.put (J.put (J.new t _) _ _) _ _) nr (by rfl) (o) (by rfl) (by rfl) nr L L ?_;intro c y l k F n C B;refine Z3 ?_;refine X ?_;refine⟨c,d++[my false,Y (1000+j)],?_⟩
  ((repeat' refine Zi ?_ ?_)<;>first|exact Xq|exact (k.put L _)|exact (J.put l _ _)|exact (by rw[V,q.o,e.o];rfl)|exact Xs)
 obtain rfl:i=Z ts:=L;have e:=e.o;rw[AS]at e;refine X ?_;exact⟨_,rfl,⟨f,by rfl⟩,b.put L _⟩
def Tr (m c)(C:pK m c)(U:Z m.A<=64)(u:∀l∈m.A,Z l.a.ts<=3/\NP l.a.ts)(z):ni 156 [ag c] z λx b=>(∃id cs,x=sl id (Z m.A) cs/\r O9 (m.A.map λl=>Fx l.a) cs)/\W z b:=by
 obtain⟨a2,I,A,D,rfl,t⟩:=C;have ax:=r.length Hk t;refine wl func156 ?_;refine X ?_
 refine wn [8,9] 10 (Z m.A) (λi s b=>∃(d:Nat) (a:oh),s 3=sl d i a/\W z b/\J z b d i/\Z a=i*2/\V (r O9 ((m.A.take i).map λl=>Fx l.a) a)) ⟨1,[],AG,Xs,J.nil _ _,nk,rfl⟩ ?_
 rintro i s b _ _ _ ⟨d,a,T,f,y,aw,j⟩;have av:=f.B;by_cases q:i<Z m.A
 ·obtain⟨w,g⟩:=gq q;obtain⟨id,G,E⟩:=H8 t g;obtain⟨o,p⟩:=u _ (AY g);have B:Z w.a.ts<=1000:=L;have F:=λz=>R9 w.a.p id w.a.ts B p z;have v:V ((m.A.take (i+1)).map (λl=>Fx l.a)=(m.A.take i).map (λl=>Fx l.a)++[Fx w.a]):=by rw[V,AT,g];simp
  clear g;refine mt F ?_;rintro yb ya _ _ ⟨⟨e,rfl⟩,n⟩;have S:=((f.new _).put f.B _).trans n;have P:=J.keep (J.put (J.new y _) _ _) n;refine m4 ?_;intro k Q M a1 K a0 N R;refine X ?_;refine⟨k,a++[Y w.a.p,sl e (Z w.a.ts) (Ad (w.a.ts.map aZ))],?_⟩
  ((repeat' refine Zi ?_ ?_)<;>first|exact Xq|exact (by rw[V,v.o];exact r.append j.o (r.single ⟨e,by simp[Fx]⟩))|exact Xs)
 obtain rfl:i=Z m.A:=L;rw[AS]at j;refine X ?_
 exact⟨_,rfl,d,a,rfl,j.o⟩
def Fz (n:Int)(l:Lit):Lit:=if l.neg=true then⟨false,⟨l.a.p+n,l.a.ts⟩⟩else l
def MZ (n:Int)(a:E3):E3:=⟨a.h,a.A.map (Fz n)⟩
def Y7 (m c n)(Jqx:pK m c)(hl:Z m.A<=64)(P:∀l∈m.A,0<=l.a.p/\l.a.p<=1000000)(a0:0<=n)(ax:n<=1000000)(z):ni 155 [ag c,Y n] z λx b=>(∃C,x=ag C/\pK (MZ n m) C)/\W z b:=by
 obtain⟨a1,A,G,N,rfl,E⟩:=Jqx;have U:=r.length Hk E;refine wl func155 ?_;refine X ?_
 refine wn [1,4,5,12,13] 14 (Z m.A) (λi s b=>∃(j:Nat) (a:oh),W z b/\z.B+2<b.B/\b.C (z.B+1)=[my false,Y 0,H,H]/\b.C (z.B+2)=[my false,Y m.h.p,X1 A m.h.ts,sl j i a]/\J z b j i/\Z a=i*3/\V (r Sq ((m.A.take i).map (Fz n)) a)) ⟨1,[],Xs,BJ,?_,?_,J.nil _ _,nk,rfl⟩ ?_
 ·rw[Aj L,Ah AM,Be AM AM]
 ·rw[show z.B+2=z.B+1+1 from rfl,Ak]
 rintro i s b _ _ _ ⟨j,a,d,S,au,ap,D,F,f⟩;have av:=d.B;by_cases B:i<Z m.A
 ·obtain⟨w,k⟩:=gq B;obtain⟨id,T,v⟩:=H8 E k;have R:=P _ (AY k);have p:V ((m.A.take (i+1)).map (Fz n)=(m.A.take i).map (Fz n)++[Fz n w]):=by
   rw[V,AT,k];simp
  clear k;cases g:w.neg
  ·rw[g]at v;have u:V (r Sq ((m.A.take (i+1)).map (Fz n)) (a++[my false,Y w.a.p,X1 id w.a.ts])):=by
    rw[V,p.o];refine r.append f.o (r.single ?_);rw[Fz,if_neg (by rw[g];simp)];exact⟨id,by rw[g]⟩
   clear f p;refine nh ?_;intro yb ya;refine Bo (by first|exact G5) ((d.new _).put d.B _) (J.put (J.new D _) _ _) nr (by rfl) (F) (by rfl) (by rfl) nr L L ?_;intro e I q t Q y M K;simp only[Ac,Aa]at y;refine Z3 ?_;refine X ?_;refine⟨e,a++[my false,Y w.a.p,X1 id w.a.ts],?_⟩
   ((repeat' refine Zi ?_ ?_)<;>first|exact Xq|exact (t.put L _)|exact (J.put q _ _)|exact u|exact Xs)
  rw[g]at v;have u:V (r Sq ((m.A.take (i+1)).map (Fz n)) (a++[my false,Y (w.a.p+n),X1 id w.a.ts])):=by
   rw[V,p.o];refine r.append f.o (r.single ?_);rw[Fz,if_pos g];exact⟨id,rfl⟩
  clear f p;refine nh ?_;intro yb ya;refine Bo (by first|exact G5) ((((d.new _).put d.B _).put d.B _).put d.B _) (J.put (J.put (J.put (J.new D _) _ _) _ _) _ _) nr (by rfl) (F) (by rfl) (by rfl) nr L L ?_;intro e I q t Q y M K;refine Z3 ?_;refine X ?_;refine⟨e,a++[my false,Y (w.a.p+n),X1 id w.a.ts],?_⟩
  ((repeat' refine Zi ?_ ?_)<;>first|exact Xq|exact (t.put L _)|exact (J.put q _ _)|exact u|exact Xs)
 obtain rfl:i=Z m.A:=L;rw[AS]at f;have o:Z (m.A.map (Fz n))=Z m.A:=nk;refine X ?_;exact⟨_,rfl,⟨_,rfl,false,A,j,a,by simp only[MZ];rw[o],f.o⟩,d.put L _⟩
structure GY (np:Nat)(F:List Dx)(M:MM):Prop where
 len:Z M=np
 nd:∀x∈M,x.2.Nodup
 mem:∀(k:Nat) (t:Ck),MD M k t↔∃a∈F,a.p=(k:Int)/\t=C4 a
 tot:tot M<=Z F
def jO {M}{k:Nat}{x}(h:M[k]?=some x):Ba M (k:Int)=x.2:=Cp h
def GY.nil (np):GY np [] (replicate np (1,[])):=by
 refine⟨nk,λx d=>?_,λk t=>⟨λh=>?_,λ⟨a,c,_⟩=>gp⟩,?_⟩;exact (IN.1 d).2▸GN;exfalso;rw[MD]at h;by_cases b:k<np;rw[jO (x:=(1,[])) (gp)]at h;simp at h;rw[Ba]at h;simp[b]at h;have:∀n:Nat,Go.Proofs.YtmoeoppbmhfbpabGreatDoorJ.tot (replicate n ((1:Nat),([]:List Ck)))=0:=by
  intro n;induction n with
  |zero=>rfl
  |succ n e=>rw[replicate_succ,Ey,e];rfl
 rw[this];simp
def GY.has {np F M a}{k:Nat}{x}(h:GY np F M)(m:a.p=(k:Int))(g:M[k]?=some x)(i:C4 a∈x.2):GY np (F++[a]) M:=by refine⟨h.len,h.nd,λj t=>?_,by have:=h.tot;simp;omega⟩;rw[h.mem j t];constructor;rintro⟨b,e,f,d⟩;exact⟨b,GK _ e,f,d⟩;rintro⟨b,e,f,d⟩;obtain c|c:=AW.1 e;exact⟨b,c,f,d⟩;rw[FY]at c;subst c;obtain rfl:j=k:=L;apply (h.mem j t).1;rw[MD];rw[Cp g,d];exact i
def GY.add {np F M a}{k id':Nat}{x}(h:GY np F M)(A:a.p=(k:Int))(m:M[k]?=some x)(q:C4 a∉x.2):GY np (F++[a]) (M.set k (id',x.2++[C4 a])):=by
 have B:=(BA.1 m).1;have n:=Cp (x:=(id',x.2++[C4 a])) (by rw[GH,if_pos rfl,if_pos B]);have p:∀j:Nat,j≠k->(M.set k (id',x.2++[C4 a]))[j]?=M[j]?:=λj l=>gp
 refine⟨by simp[h.len],λy z=>?_,λj t=>?_,?_⟩;obtain c|rfl:=NI z;exact h.nd y c;rw[IP];exact⟨h.nd x (AY m),nk,λu s v o e=>q (gp)⟩;by_cases l:j=k;subst l;rw[MD];rw[n,AW,FY];have f:=h.mem j t;rw[MD]at f;rw[Cp m]at f;rw[f];constructor;rintro (⟨b,g,i,d⟩|c);exact⟨b,GK _ g,i,d⟩;exact⟨a,nk,A,c⟩;rintro⟨b,g,i,d⟩;obtain c|c:=AW.1 g;exact .inl ⟨b,c,i,d⟩;rw[FY]at c;subst c;exact .inr d;have f:=h.mem j t;rw[MD,Ba]at f⊢;rw[DK]at f⊢;rw[p j l,f];constructor;rintro⟨b,g,i,d⟩;exact⟨b,GK _ g,i,d⟩;rintro⟨b,g,i,d⟩;obtain c|c:=AW.1 g;exact⟨b,c,i,d⟩;rw[FY]at c;subst c;omega;have:=Q6 M (M.set k (id',x.2++[C4 a])) k 1 nk (λj l=>gp) (λ_=>by grind[Cp]) (λc=>L);have d:=h.tot;simp;omega
structure KJ (z:St)(ot:Nat)(M:MM):Prop where
 oc:z.C ot=Gp M
 lt:ot<z.B
 live:∀x∈M,Live z x.1 (Z x.2)
 inj:∀(i j:Nat) (x y:Nat×List Ck),M[i]?=some x->M[j]?=some y->i≠j->x.1=1\/x.1≠y.1
 t3:∀x∈M,T3 x.2
 ln:∀x∈M,Z x.2<=5000
 pl:Z M<=5000
def KJ.keep {z a b M}(h:KJ z b M)(k:W z a):KJ a b M:=⟨(k.C _ h.lt).trans h.oc,BZ h.lt k.B,λx c=>(h.live x c).keep k,h.inj,h.t3,h.ln,h.pl⟩
def KJ.mob {z c a M d b}(h:KJ z a M)(e:z.C c=[fx a 0 (Z M),Y d,Y b])(f:c<z.B)(g:c≠a):BL z c a M d b:=⟨e,h.oc,f,h.lt,g,h.live,h.inj,h.t3,h.ln,h.pl⟩
def BL.mpt {z c a M d b}(h:BL z c a M d b):KJ z a M:=⟨h.oc,h.lt,h.live,h.inj,h.t3,h.ln,h.pl⟩
def W.km {σ0 z c f d M M'}(a:W σ0 z)(h:KM f d M M' z c)(l:σ0.B<=f)(m:σ0.B<=d)(j:∀x∈M,x.1=1):W σ0 c:=
 ⟨BI a.B h.B,λo b=>(h.C o (BZ b a.B) L L).trans (a.C o b),λo b=>(h.ver o (BZ b a.B) L L).trans (a.ver o b),BI a.D h.D,λk g=>(h.top k (BZ g a.D) (λx i e=>gp)).trans (a.top k g)⟩
def nC (np):Gp (replicate np (1,[]))=replicate np H:=by rw[Gp];rw[map_replicate];rfl
def Y1 (np F cs a3 b)(t:r O9 F cs)(hn:np<=5000)(bi:Z F<=1000)(bc:∀a∈F,Z a.ts<=3/\∃k:Nat,a.p=(k:Int)/\k<np)(z):
  ni 49 [Y np,sl a3 (Z F) cs,Y b] z λa4 d=>∃Jqx M,a4=ag [fx Jqx 0 np,Y 0,Y b]/\GY np F M/\W z d/\z.B<=Jqx/\KJ d Jqx M/\(∀x∈M,x.1=1\/z.D+2<=x.1):=by
 have bh:=r.length Iz t;refine wl func49 ?_;refine X ?_;let⟨c,g⟩:∃aa,aa=((((z.new [H,Y 0,Y 0]).new (replicate np H)).new [H,Y 0,Y 0]).put (z.B+1+1) [fx (z.B+1) 0 np,Y 0,Y b]):=⟨_,rfl⟩;rw[<-g];have s:W z c:=by rw[g];exact Xs
 have bd:c.B=z.B+3:=by rw[g];rfl
 have a1:c.C z.B=[H,Y 0,Y 0]:=by rw[g,Aj L,Ah AM,Ah AM,Ao]
 have ax:BL c (z.B+2) (z.B+1) (replicate np (1,[])) 0 b:=
  ⟨by rw[g,Ak];simp,by rw[nC,g,Aj L,Ah AM,Be AM AM],L,L,L,λx f=>by rw[(IN.1 f).2];exact .inl ⟨rfl,rfl⟩,λi ac x y f T _=>.inl (by rw[(IN.1 (AY f)).2]),λx f=>by rw[(IN.1 f).2];intro ad ht;simp at ht,λx f=>by rw[(IN.1 f).2];simp,nn hn⟩
 refine wn [6,7,14,15] 16 (Z F) (λi a9 d=>∃M:MM,BL d (z.B+2) (z.B+1) M 0 b/\KM (z.B+2) (z.B+1) (replicate np (1,[])) M c d/\d.C z.B=[H,Y 0,Y 0]/\V (GY np (F.take i) M)) ⟨replicate np (1,[]),ax,KM.ofKeep (W.refl _),a1,GY.nil np⟩ ?_
 clear ax a1 g;rintro i a9 d _ _ _ ⟨M,q,C,U,n⟩;have be:=C.B;by_cases a2:i<Z F
 ·obtain⟨a,j⟩:=gq a2;obtain⟨id,rr,hd⟩:=Ke t j;obtain⟨K,k,E,bg⟩:=bc _ (AY j);have G:=n.o.len;have f:=AK (l:=M) (i:=k) L;generalize M[k]'L=x at f;have S:V (F.take (i+1)=F.take i++[a]):=by rw[V,AT,j,BN]
  clear j;have a5:Z x.2<5000:=by
   have h1:=n.o.tot;have h2:(Z x.2:Int)<=Go.Proofs.YtmoeoppbmhfbpabGreatDoorJ.tot M:=by
    have hg:∀(M:MM) (k:Nat) (x:Nat×List Ck),M[k]?=some x->(Z x.2:Int)<=Go.Proofs.YtmoeoppbmhfbpabGreatDoorJ.tot M:=by
     intro M;induction M with
     |nil=>intro k x h;simp at h
     |cons y M m=>
      intro k x h;rw[Ey];have hp:∀M:MM,0<=Go.Proofs.YtmoeoppbmhfbpabGreatDoorJ.tot M:=by
       intro M;induction M with
       |nil=>exact Int.le_refl _
       |cons y M m=>rw[Ey];omega
      cases k with
      |zero=>simp at h;subst h;have:=hp M;omega
      |succ k=>have:=m k x (nn h);omega
    exact hg M k x f
   rw[CN]at h1;omega
  have B:=λz (h:BL z (c.B-1) (c.B-2) M 0 b)=>Jq (c.B-1) (c.B-2) M 0 b a id k x K E f z h;have Q:=λz (h:BL z (c.B-1) (c.B-2) M 0 b)=>Y4 (c.B-1) (c.B-2) M 0 b a id k x K E f a5 z h;rw[show c.B-1=z.B+2 by omega,show c.B-2=z.B+1 by omega]at B Q;have P:V (M[k]?=some x):=f;have N:V (a.p=(k:Int)):=E;clear f E G;by_cases v:C4 a∈x.2
  ·rw[show decide (C4 a∈x.2)=true by simpa using v]at B;have I:V (GY np (F.take (i+1)) M):=by rw[V,S.o];exact n.o.has N.o P.o v
   clear v n;have D:W d ((d.new [Y 0,H]).put d.B [Y a.p,X1 id a.ts]):=((W.refl d).new _).put (AU _) _;refine m0 ?_;intro yb ya;refine Xi (B _ (q.keep D)) ?_;rintro _ _ ⟨rfl,A⟩;have u:=D.trans A;refine X ?_;refine⟨M,?_⟩
   ((repeat' refine Zi ?_ ?_)<;>first|exact Xq|exact I|exact (q.keep u)|exact (C.trans (KM.ofKeep u))|exact (by rw[u.C _ L,U])|exact Xs)
  rw[show decide (C4 a∈x.2)=false by simpa using v]at B;have I:V (∀o,GY np (F.take (i+1)) (M.set k (o,x.2++[C4 a]))):=λo=>by rw[S.o];exact n.o.add N.o P.o v
  clear v n;have D:W d ((d.new [Y 0,H]).put d.B [Y a.p,X1 id a.ts]):=((W.refl d).new _).put (AU _) _;have a6:∀p,p<d.B+1->((d.new [Y 0,H]).put d.B [Y a.p,X1 id a.ts]).C p=((d.new [Y 0,H]).put d.B [Y a.p,X1 id a.ts]).C p:=λp _=>rfl;clear a6
  (repeat (refine m0 ?_;intro yb ya;(first|(refine Xi (B _ (q.keep D)) ?_;rintro _ _ ⟨rfl,A⟩;(have u:=D.trans A;have an:=A.C;have ao:=A.B;simp only[Ac,Aa]at ao an))|(refine Xi (Q _ (q.keep u)) ?_;rintro _ _ ⟨o,ba,a0⟩))));refine X ?_
  rename_i z2 z3;have au:=(C.trans (KM.ofKeep u)).trans a0;have a7:z3.C z.B=[H,Y 0,Y 0]:=by rw[a0.C _ L L L,u.C _ L,U]
  refine⟨M.set k (o,x.2++[C4 a]),?_⟩
  ((repeat' refine Zi ?_ ?_)<;>first|exact Xq|exact (I.o o)|exact ba|exact au|exact a7|exact Xs)
 obtain rfl:i=Z F:=L;have n:=n.o;rw[AS]at n;have G:=n.len;have a8:=q.ob;rw[G]at a8;have bf:=q.lo;have HI:V _:=n;have HM:V _:=q;have R:V _:=C;clear n q C G;refine X ?_;have bb:=W.km s R.o L L (λx f=>by rw[(IN.1 f).2]);refine⟨_,rfl,z.B+1,M,rfl,HI.o,bb.put L _,L,?_,λx f=>?_⟩
 ·have h:=HM.o.mpt;exact⟨by rw[Oh L];exact h.oc,h.lt,h.live,h.inj,h.t3,h.ln,h.pl⟩
 have ab:=s.D;obtain⟨y,T,e⟩|e|e:=R.o.mid x f
 ·rw[(IN.1 T).2]at e;exact .inl e.symm
 ·exact .inl e
 exact .inr L
def Eg (N:ol)(a:AE):Dx:=⟨(N.idxOf a.B:Nat),a.A.map Aq⟩
def E6 (N:ol)(a:AE):Lit:=⟨a.nt,Eg N a⟩
def Ce (N:ol)(x:AB):E3:=⟨Eg N x.h,x.A.map (E6 N)⟩
theorem Jr (ts):Ad (ts.map Aq)=A0 ts:=by rw[Ad,A0];rw[JG];rfl
def tF {N}:∀{l:oq} {b:oh},r (PL N) l b->r Sq (l.map (E6 N)) b
 |[],b,h=>h
 |a::l,b,h=>by obtain⟨f,e,⟨-,c,rfl⟩,d,rfl⟩:=h;exact⟨_,e,⟨c,by simp[E6,Eg,Jr]⟩,tF d,rfl⟩
def jw {N x c}(h:PI N x c):pK (Ce N x) c:=by obtain⟨e,d,id,b,a,rfl⟩:=h;exact⟨x.o,d,id,b,by simp[Ce,Eg,Jr],tF a⟩
def BS (R:List E3)(F:List Dx):Gb:=λk t=>∀D:Gb,KG R D->(∀a∈F,D a.p.toNat (C4 a))->D k t
def BS.cl (R F):KG R (BS R F):=λf c b h D a e=>a f c b (λl d=>h l d D a e)
def BS.fact {R F a}(h:a∈F):BS R F a.p.toNat (C4 a):=λD _ b=>b a h
def i7 {np ar R}(h:∀b∈R,RW np ar b)(a:∀b∈R,∀l∈b.A,l.neg=false):KG R (Sh ar):=(iE (N:=Sh ar) a).1 (gy h)
def aD (R:List E3)(F:List Dx)(k:Nat)(h:Ck)(b:Bool):Prop:=
 ∃M:MM,(∀x∈M,x.2.Nodup)/\(∀j t,MD M j t->BS R F j t)/\(if tot M<=200 then (∀j t,BS R F j t->MD M j t)/\(b=true↔MD M k h)else b=false)
def BG.nodup {D M M' d j}(h:BG D M M' d j)(o:∀x∈M,x.2.Nodup):∀x∈M',x.2.Nodup:=λx i=>by
 let⟨k,f⟩:=CL i;let⟨q,e,p,n⟩:=h.ext k;rw[Cp f]at e;have g:=h.len▸(BA.1 f).1
 have c:=AK g;rw[Cp c]at e;rw[e,IP];refine⟨o _ (AR g),p,λa m b l e2=>?_⟩;have:=(n b l).2;rw[Cp c]at this;exact this (e2 ▸ m)
def YT {R F np M M' g k h b}(i:GY np F M)(o:∀a∈F,∃k:Nat,a.p=(k:Int))(e:BG (BS R F) M M' 0 g)(n:¬(200-tot M)<g->KG R (MD M'))(c:if g<=200-tot M then (b=true↔MD M' k h)else b=false):aD R F k h b:=by refine⟨M',e.nodup i.nd,λj t f=>?_,?_⟩;refine e.inD (λj t f=>?_) j t f;let⟨a,d,u,e2⟩:=(i.mem j t).1 f;have:=BS.fact (R:=R) d;rw[u,DK]at this;exact e2▸this;have s:=e.cnt;by_cases l:tot M'<=200;rw[if_pos l];rw[if_pos L]at c;refine⟨λj t p=>p (MD M') (n L) (λa d=>?_),c⟩;let⟨q,m⟩:=o a d;apply e.sub;rw[m,DK];exact (i.mem q _).2 ⟨a,d,m,rfl⟩;rw[if_neg l];rw[if_neg L]at c;exact c
def W.km2 {σ0 z c f d M M'}(a:W σ0 z)(h:KM f d M M' z c)(m:σ0.B<=f)(n:σ0.B<=d)(l:∀x∈M,x.1=1\/σ0.D+2<=x.1):W σ0 c:=
 ⟨BI a.B h.B,λo b=>(h.C o (BZ b a.B) L L).trans (a.C o b),λo b=>(h.ver o (BZ b a.B) L L).trans (a.ver o b),BI a.D h.D,λk g=>(h.top k (BZ g a.D) (λx i e=>gp)).trans (a.top k g)⟩
def qA:∀M:MM,0<=tot M
 |[]=>Int.le_refl _
 |y::M=>by rw[Ey];have:=qA M;omega
def uM:∀(M:MM) (k:Nat) (x:Nat×List Ck),M[k]?=some x->(Z x.2:Int)<=tot M
 |[],k,x,h=>gp
 |y::M,k,x,h=>by
  rw[Ey];have a:=qA M;cases k with
  |zero=>simp at h;subst h;omega
  |succ k=>have:=uM M k x (nn h);omega
def Ed (N:ol)(x:AB):E3:=MZ (Z N:Int) (Ce N x)
def Fy (N:ol)(x:AB):List Dx:=(Ed N x).A.map λl=>Fx l.a
structure OJ (N:ol)(l:n0)(ar:Nat->Nat):Prop where
 b5:∀y∈l,Z y.A<=5
 rw':∀y∈l,y.o=false->RW (2*Z N) ar (Ed N y)
 sm:∀y∈l,y.o=false->NP (Ed N y).h.ts/\∀k∈(Ed N y).A,NP k.a.ts
 sh:∀y∈l,y.o=false->∀a∈Fy N y,Sh ar a.p.toNat (C4 a)
def f9 (N:ol)(p):N.idxOf p<=Z N:=idxOf_le_length
def aV (N l cs)(idn I n:Nat)(ar x)(hB:Bk N l cs)(P:OJ N l ar)(hx:l[n]?=some x)(v:x.o=false)(z):
  ni 102 [Cq N idn l I cs,Y n] z λm z'=>∃b,m=my b/\aD ((oth l n (Z l)).map (Ed N)) (Fy N x) (Ed N x).h.p.toNat (C4 (Fx (Ed N x).h)) b/\W z z':=by
 have ea:=r.length Ew hB.el;have dl:=hB.len;have ee:=hB.nm;have hE:=hB.el;have d5:=(BA.1 hx).1;have ax:=AY hx;obtain⟨G,ih,id,b,rr,hb,hd⟩:=Ih hE hx;have ca:∀y c,y∈l->PI N y c->∀z,ni 155 [ag c,Y (Z N)] z λm z'=>(∃a2,m=ag a2/\pK (Ed N y) a2)/\W z z':=λy c D hc z=>
  Y7 (Ce N y) c (Z N) (jw hc) (by simp only[Ce,BV];have:=P.b5 y D;omega) (λk f=>by
   obtain⟨a,-,rfl⟩:=AN.1 f;have:=f9 N a.B;simp only[E6,Eg]
   omega) L L z
 have bw:=λz=>ca x _ ax (PI.of (ih:=ih) (id:=id) G hb) z;simp only[v]at bw;have S:=P.rw' x ax v;have cj:Z (Ed N x).A=Z x.A:=by simp[Ed,MZ,Ce]
 have eb:=P.b5 x ax;have b9:=λc (hc:pK (Ed N x) c) z=>Tr (Ed N x) c hc L (λk f=>⟨S.rok.ba k f,(P.sm x ax v).2 k f⟩) z;have bm:Z (Fy N x)=Z (Ed N x).A:=by simp[Fy]
 have bn:∀a∈Fy N x,Z a.ts<=3/\∃k:Nat,a.p=(k:Int)/\k<2*Z N:=λa u=>by
  obtain⟨k,f,rfl⟩:=AN.1 u;exact⟨by simp only[Fx,BV];exact S.rok.ba k f,S.rok.bp k f⟩
 have a5:=λba b5 (hF:r O9 (Fy N x) ba) z=>Y1 (2*Z N) (Fy N x) ba b5 200 hF L L bn z;rw[bm]at a5;have dk:(2:Int)*(Z N:Int)=((2*Z N:Nat):Int):=L;have d6:(n:Int)<(Z l:Int):=L;generalize ck:Ed N x=d at bw b9 a5 cj bm bn S;generalize cx:Fy N x=T at a5 bm bn;have c6:V _:=ck;have da:V _:=cx;have dp:Z d.A<=5:=L;have ei:Z T<=5:=L;clear ck cx cj bm;unfold Cq;refine wl func102 ?_
 repeat' first|refine Z1 ?_|refine Z8 λyb ya=>?_|refine Z4 ?_;clear ya yb|refine Z2 ?_ ?_<;>intro h ac<;>try exact Xp|refine Z6 ?_;intro idn zn ak au ae ab ad aa|(refine Z5 ?_;first|(refine Xi (bw _) ?_;rintro _ _ ⟨⟨_,rfl,bh⟩,bu⟩;(have bg:=bh;obtain⟨ro,p,ap,az,rfl,ec⟩:=bh;have be:=b9 _ bg;have b3:=bu.B;simp only[Aa]at b3))|(refine Xi (be _) ?_;rintro _ _ ⟨⟨b5,fc,rfl,cz⟩,t⟩;(have bf:r O9 T fc:=(by rw[<-da.o];unfold Fy;rw[c6.o];exact cz);have a4:=a5 fc b5 bf;have b2:=t.B;simp only[Ac,Aa]at b2))|(refine Xi (a4 _) ?_;rintro _ _ ⟨A,M,rfl,br,bc,d4,b4,a6⟩;(have df:=bc.B)))|refine Z3 ?_|exact Zt|apply ya.o;clear ya yb
 rename_i U z2 g;let⟨F,a0⟩:∃c2,c2=((g.new [H,Y 0,Y 0]).put g.B [fx A 0 (2*Z N),Y 0,Y 200]):=⟨_,rfl⟩;rw[<-a0];have ct:W z U:=((W.refl z).new _).trans bu;have b8:W z z2:=((ct.new _).put L _).trans t;have cr:W z g:=b8.trans bc;have af:W g F:=by rw[a0];exact ((W.refl g).new _).put (AU _) _
 have cv:W z F:=cr.trans af;have n4:F.B=g.B+1:=by rw[a0];rfl
 have a7:=br.len;have cc:F.C U.B=[my ro,Y d.h.p,X1 p d.h.ts,sl ap (Z d.A) az]:=by rw[af.C _ L,bc.C _ L,t.C _ BJ,Ak]
 have bl:F.C z.B=[lw idn N,sl I (Z l) cs]:=by rw[af.C _ L,bc.C _ L,t.C _ BJ,Aj L,Ah L,bu.C _ AM,Ao]
 have di:=b4.lt;have a8:BL F g.B A M 0 200:=(b4.keep af).mob (by rw[a0,Ak,a7]) L L;have dr:∀y∈M,y.1=1\/z.D+2<=y.1:=λy D=>by have:=b8.D;rcases a6 y D with h|h<;>omega
 have d3:=qA M;have d2:tot M<=5:=ny br.tot
 have c5:=Sc g.B A M 0 200 F a8;have bo:=λ(id:Nat) z=>Nv (H1 M) id (by rw[Jt];omega) (λn hn=>ny (Sf a8 n hn)) z;rw[show (H1 M).sum=tot M from rfl]at bo;unfold X2 at bo;rw[Jt,a7]at bo;have a3:=a8.ob;have c8:V _:=br;have c9:V _:=a8;clear a0 bu t bc ct b8 cr b4 a6 br a8 cz bf a4 a5 b9 be bw bg;refine A2 (Q:=λbj s' am=>bj= .normal/\s' 1=Y n/\s' 2=ptr z.B 0/\s' 5=Y (Z N)/\s' 6=ptr U.B 0/\s' 7=ptr g.B 0/\W z am/\g.B<am.B/\am.C z.B=[lw idn N,sl I (Z l) cs]/\am.C U.B=[my ro,Y d.h.p,X1 p d.h.ts,sl ap (Z d.A) az]/\BL am g.B A M 0 (200-tot M)) ?_ ?_
 ·refine bT [6] [0,1] 5 (nv 7 3) ?_;refine Ai (i:=2) AH ?_;refine Am ?_;intro yb ya;refine Z3 ?_;refine AF.mono c5 ?_;rintro _ z5 ⟨⟨c3,rfl⟩,a9⟩;refine ux ?_;refine tn 3 (bo _) ?_;rintro yb ya _ z6 ⟨rfl,dv⟩;have E:=a9.trans dv;have b1:=E.B;have d0:z6.C g.B=[fx A 0 (Z M),Y 0,Y 200]:=by rw[E.C _ L,a3]
  refine ux ?_;refine rl 4 ?_;refine rl 5 ?_;refine rl 6 ?_;refine Aw AH ⟨rfl,by simp[upd,AL],AG,AG,AG,AG,(cv.trans E).put L _,by simp only[Ac];omega,?_,?_,?_⟩
  ·rw[Aj L,E.C _ L,bl]
  ·rw[Aj L,E.C _ L,cc]
  have G:=(c9.o.keep E).mpt;exact KJ.mob ⟨by rw[Aj L];exact G.oc,G.lt,G.live,G.inj,G.t3,G.ln,G.pl⟩ (by rw[Ak,a7]) (by simp only[Ac];omega) L
 rintro bj s z5 ⟨rfl,g1,g2,g5,g6,g7,a9,d7,cl,b0,cn⟩;clear c5 bo a3 c9 cv af cc bl n4;have de:=a9.B;have dy:V _:=cn;clear cn;refine X ?_
 refine Ae (λbk s z'=>∃(q i8:Nat) (e:n0) (B:oh),bk=Z l-q/\q<=Z l/\s 1=Y n/\s 5=Y (Z N)/\s 6=ptr U.B 0/\s 7=ptr g.B 0/\s 8=sl i8 (Z e) B/\s 34=sl I (Z l) cs/\s 35=Y (Z l)/\s 36=Y q/\W z5 z'/\J z5 z' i8 (Z e)/\Z B=Z e*4/\Z e<=q/\V (e=oth l n q/\r pK (e.map (Ed N)) B)) (Z l)
  ⟨0,1,[],[],L,L,AI,AI,AI,AI,AG,AG,AG,AG,W.refl _,J.nil _ _,rfl,nk,by simp[oth],rfl⟩ ?_
 clear g1 g2 g5 g6 g7;rintro bk s z6 ⟨q,i8,e,B,rfl,hq,h1,h5,h6,h7,h8,em,ek,ej,C,hO,d1,eg,K⟩;have dd:=C.B;by_cases cg:q<Z l
 ·obtain⟨y,ah⟩:=gq cg;obtain⟨cf,jh,jd,jb,r2,ch,dm⟩:=Ih hE ah;have cd:=(AY ah);have a1:V _:=mR (n:=n) ah;have bv:=λz=>ca y _ cd (PI.of (ih:=jh) (id:=jd) cf ch) z;clear ah;by_cases ay:q=n
  ·have dj:((q:Int) !=(n:Int))=false:=ns ay
   have HN:V (e=oth l n (q+1)/\r pK (e.map (Ed N)) B):=⟨by rw[a1.o,if_pos (.inl ay),EJ];exact K.o.1,K.o.2⟩;clear ay a1 bv;refine X ?_;exact⟨Z l-(q+1),L,q+1,i8,e,B,oj⟩
  have dj:((q:Int) !=(n:Int)):=by simp;omega
  cases an:y.o
  ·simp only[an]at bv;have HN:V (∀a2,pK (Ed N y) a2->e++[y]=oth l n (q+1)/\r pK ((e++[y]).map (Ed N)) (B++a2)):=λa2 dn=>⟨by rw[a1.o,if_neg (by simp[ay,an]),K.o.1],by rw[EU];exact r.append K.o.2 (r.single dn)⟩;clear ay a1;refine m0 ?_;intro yb ya;refine Xi (bv _) ?_;rintro _ _ ⟨⟨_,rfl,bh⟩,t⟩;(have dx:V _:=HN.o _ bh;obtain⟨c1,bx,bt,bp,rfl,-⟩:=bh;have eh:=((C.new _).put C.B _).trans t;have ed:=J.keep (J.put (J.new hO _) _ _) t);refine m4 ?_;intro idn zn ak au ae ab ad aa;refine X ?_;refine⟨Z l-(q+1),L,q+1,idn,e++[y],B++[my c1,Y (Ed N y).h.p,sl bx (Z (Ed N y).h.ts) (Ad (Ed N y).h.ts),sl bt (Z (Ed N y).A) bp],?_⟩
   ((repeat' refine Zi ?_ ?_)<;>first|exact Xq|exact dx|exact (by rw[AX];exact ak)|exact Xs)
  have HN:V (e=oth l n (q+1)/\r pK (e.map (Ed N)) B):=⟨by rw[a1.o,if_pos (.inr an),EJ];exact K.o.1,K.o.2⟩;clear ay a1 bv;refine X ?_;refine⟨Z l-(q+1),L,q+1,i8,e,B,?_⟩
  ((repeat' refine Zi ?_ ?_)<;>first|exact Xq|exact HN|exact ((C.new _).put C.B _)|exact (J.put (J.new hO _) _ _)|exact Xs)
 obtain rfl:q=Z l:=L;let⟨b7,cp⟩:=K.o;have ao:∀m∈e.map (Ed N),RW (2*Z N) ar m:=λm hr=>by
  obtain⟨y,D,rfl⟩:=AN.1 hr;rw[b7]at D;exact P.rw' y (E8 D).1 (E8 D).2
 have ai:∀m∈e.map (Ed N),∀k∈m.A,k.neg=false:=λm hr k f=>by
  obtain⟨y,D,rfl⟩:=AN.1 hr;obtain⟨k0,-,rfl⟩:=AN.1 f;unfold Fz;split
  ·rfl
  rename_i h;simpa using h
 have bd:LN (2*Z N) ar (e.map (Ed N)) (BS (e.map (Ed N)) T):=⟨ao,(iE ai).2 (BS.cl _ _),λk aj h=>h (Sh ar) (i7 ao ai) (λa u=>P.sh x ax v a (by rw[da.o];exact u))⟩;have cm:∀k aj,MD M k aj->BS (e.map (Ed N)) T k aj:=λk aj f=>by
  let⟨a,u,e1,e2⟩:=(c8.o.mem k aj).1 f;have:=BS.fact (R:=e.map (Ed N)) u;rw[e1,DK]at this;rw[e2];exact this
 have dq:Room M 0 (200-tot M):=λy D=>by
  let⟨k,f⟩:=CL D;have:=uM M k y f;omega
 have cy:=λz (h:BL z g.B A M 0 (200-tot M))=>Sa bd g.B A (200-tot M) L L M 0 a7 cm (λm hr k f hn=>by rw[ai m hr k f]at hn;cases hn) dq L L B i8 cp (by rw[BV];omega) z h;rw[BV]at cy;have ds:BL z6 g.B A M 0 (200-tot M):=dy.o.keep C;have bz:z6.C U.B=[my ro,Y d.h.p,X1 p d.h.ts,sl ap (Z d.A) az]:=by rw[C.C _ L,b0]
 have dt:=a9.trans C;have dz:V _:=b7;have c7:V (∀(o:MM) (j:Int) (bb:Bool),BG (BS (e.map (Ed N)) T) M o 0 j->(¬(200-tot M)<j->KG (e.map (Ed N)) (MD o))->(if j<=200-tot M then (bb↔MD o d.h.p.toNat (C4 (Fx d.h)))else bb=false)->aD ((oth l n (Z l)).map (Ed N)) T d.h.p.toNat (C4 (Fx d.h)) bb):=λo j bb h1 h2 h3=>by
  rw[<-dz.o];exact YT c8.o (λa u=>⟨_,(bn a u).2.choose_spec.1⟩) h1 h2 h3
 have dw:=λz=>R9 d.h.p p d.h.ts (ny S.rok.hd) (by have:=(P.sm x ax v).1;rw[c6.o]at this;exact this) z;clear b7 cp bd cm K ca ao;refine m0 ?_;intro yb ya;refine Xi (cy _ ds) ?_;rintro _ _ ⟨o,j,b6,av,cw,d9,-,ci⟩;have cb:V _:=cw;have db:V _:=λh=>(iE ai).1 (ci h);clear cw ci;refine nh ?_;intro yb ya;rename_i z7;have b1:=av.B;have dc:z7.C U.B=[my ro,Y d.h.p,X1 p d.h.ts,sl ap (Z d.A) az]:=by rw[av.C _ L L L,bz]
 have cq:W z z7:=W.km2 dt av L L dr;have bq:=Qm g.B A o j (200-tot M);by_cases ce:200-tot M<j
 ·rw[show decide (200-tot M<j)=true by simpa using ce]at bq;have HR:V _:=c7.o o j false cb.o db.o (by rw[if_neg L])
  refine mz ?_;refine Xi (bq _ b6) ?_;rintro _ _ ⟨rfl,rfl⟩;refine X ?_
  exact⟨_,rfl,false,rfl,HR.o⟩
 rw[show decide (200-tot M<j)=false by simpa using ce]at bq;let⟨k,f,d8⟩:=S.rok.hp;have ef:Z o=2*Z N:=by rw[cb.o.len];exact a7
 have bi:=AK (l:=o) (i:=k) L;generalize o[k]'L=x' at bi;have aw:=λid z (h:BL z g.B A o j (200-tot M))=>Jq g.B A o j (200-tot M) (Fx d.h) id k x' (by simp only[Fx,BV];exact S.rok.hd) f bi z h
 have HR:V (aD ((oth l n (Z l)).map (Ed N)) T d.h.p.toNat (C4 (Fx d.h)) (decide (C4 (Fx d.h)∈x'.2))):=c7.o o j _ cb.o db.o (by
  rw[if_pos L,f,DK];unfold MD;rw[Cp bi]
  simp)
 generalize decide (C4 (Fx d.h)∈x'.2)=bb at aw HR;simp only[Fx,X1,BV]at aw;clear bi f
 (repeat (refine mz ?_;(first|(refine Xi (bq _ b6) ?_;rintro _ _ ⟨rfl,rfl⟩)|(refine Xi (dw _) ?_;rintro _ _ ⟨⟨c4,rfl⟩,cu⟩)|(refine Xi (aw _ _ (b6.keep cu)) ?_;rintro _ _ ⟨rfl,du⟩))));refine X ?_
 exact⟨_,rfl,_,rfl,HR.o,(cq.trans cu).trans du⟩
def gE {α:Type}:∀{l m:List α},l.Nodup->(∀a∈l,a∈m)->Z l<=Z m
 |[],m,_,_=>nk
 |a::l,m,h,e=>by
  obtain⟨s,t,rfl⟩:=append_of_mem (e a nk);have f:=nodup_cons.1 h
  have:=gE (l:=l) (m:=s++t) f.2 (λb d=>gp);grind
def Oq {α j:Type}{f:α->j}:∀{l:List α},l.Nodup->(∀a∈l,∀b∈l,f a=f b->a=b)->(l.map f).Nodup
 |[],_,_=>GN
 |a::l,h,i=>by have g:=nodup_cons.1 h;rw[CC,nodup_cons];refine⟨λm=>?_,Oq g.2 λb d c k=>i b (ns d) c (ns k)⟩;grind
def Lf:Nat->MM->List (Nat×Ck)
 |_,[]=>[]
 |k,x::M=>x.2.map (λt=>(k,t))++Lf (k+1) M
theorem O0:∀(M:MM) (k:Nat),(Z (Lf k M):Int)=tot M
 |[],k=>rfl
 |x::M,k=>by simp_all[Lf,Ey,O0]
theorem Le:∀(M:MM) (k j:Nat) (t:Ck),(j,t)∈Lf k M↔k<=j/\MD M (j-k) t
 |[],k,j,t=>by simp[Lf,MD,Ba]
 |x::M,k,j,t=>by rw[Lf,AW,Le M (k+1) j t];unfold MD Ba;grind
def Ug:∀(M:MM) (k:Nat),(∀x∈M,x.2.Nodup)->(Lf k M).Nodup
 |[],k,_=>GN
 |x::M,k,h=>by rw[Lf,IP];refine⟨Oq (h x nk) (λa _ b _ e=>gp),Ug M (k+1) (λy f=>h y (ns f)),λa d b c e=>?_⟩;obtain⟨t,-,rfl⟩:=AN.1 d;let⟨j,u⟩:=b;cases e;have:=((Le M (k+1) k t).1 c).1;omega
def PX {M}{α:Type}{A}{e:α->Nat×Ck}(y:∀x∈M,x.2.Nodup)(h:∀k t,MD M k t->∃a∈A,e a=(k,t)):tot M<=Z A:=by
 have b:∀p∈Lf 0 M,∃a∈A,e a=p:=λp c=>by grind[Le]
 have d:∃g:Nat×Ck->Option α,∀p∈Lf 0 M,∃a∈A,g p=some a/\e a=p:=by refine⟨λp=>Classical.epsilon λo=>∃a∈A,o=some a/\e a=p,λp c=>?_⟩;let⟨a,i,u⟩:=b p c;have:=Classical.epsilon_spec (p:=λo=>∃a∈A,o=some a/\e a=p) ⟨some a,a,i,rfl,u⟩;exact this
 let⟨g,d⟩:=d
 have f:((Lf 0 M).map g).Nodup:=Oq (Ug M 0 y) (λp c q n l=>gp)
 have j:=gE (m:=A.map some) f (λo s=>gp)
 rw[BV,BV]at j;rw[<-O0 M 0];omega
def f7 {M}{P:List (Nat×Ck)}(b:P.Nodup)(h:∀p∈P,MD M p.1 p.2):(Z P:Int)<=tot M:=by
 have:=gE (m:=Lf 0 M) b (λp a=>by grind[Le])
 rw[<-O0 M 0];omega
def Sz {l m}(f:Z l=Z m)(g:Z l<=3)(h:Ej l=Ej m):l=m:=by refine FL λi=>?_;by_cases e:i<Z l;unfold Ej at h;simp only[cons.injEq,and_true]at h;let⟨d,c,e2⟩:=h;have b:=AK e;have a:=AK (l:=m) (i:=i) L;have:i=0\/i=1\/i=2:=L;obtain rfl|rfl|rfl:=this;rw[b,a]at d;rw[b,a];exact congrArg some d;rw[b,a]at c;rw[b,a];exact congrArg some c;rw[b,a]at e2;rw[b,a];exact congrArg some e2;rw[FD L,FD L]
def Eu:Tx->Int
 |[]=>0
 |b::a=>if b=35 then 1000+(Aq a).2 else (Aq (b::a)).2
theorem eT (b a):Eu (b::a)=if b=35 then 1000+(Aq a).2 else (Aq (b::a)).2:=rfl
def H0 (v):Eu (35::v)=1000+(Aq v).2:=by simp_all[eT]
def GT (t:Tx):Prop:=(Ab t=false/\VT t/\DT t)\/∃v,t=35::v/\Ab v/\VT v
theorem QB {v}(h:VT v)(d:Ab v):∃b,v=[b]/\Bs b.toNat:=by
 obtain h|⟨e,f⟩:=h;exact h;exfalso;cases v with
 |nil=>exact e rfl
 |cons b g=>
  have c:=f b nk;have a:Bs b.toNat:=d;rw[A6]at c;rw[Bs]at a;simp at c a;omega
def QC {v}(h:VT v)(a:Ab v=false):v≠[]/\∀b∈v,A6 b.toNat:=by obtain⟨b,rfl,h⟩|h:=h;have:Ab [b]=Bs b.toNat:=rfl;rw[this,h]at a;cases a;exact h
def Hg {t}(h:VT t)(a:Ab t=false):Eu t=(Aq t).2:=by
 let⟨d,c⟩:=QC h a;cases t with
 |nil=>cases d rfl
 |cons b e=>
  rw[eT,if_neg];rintro rfl;have:=c 35 nk;revert this;decide
def O1 {v}(h:VT v)(c:Ab v):0<=(Aq v).2/\(Aq v).2<26:=by grind[QB,Et,Bs]
def Qn {t}(h:DT t)(a:Ab t=false):Lib.itoa (Aq t).2=t/\0<=(Aq t).2/\(Aq t).2<=999:=by obtain h|⟨-,h⟩:=h;rw[h]at a;cases a;exact h
def WU {t}(h:GT t):∃n:Nat,Eu t=(n:Int)/\n<1026:=by obtain⟨a,b,c⟩|⟨v,rfl,a,b⟩:=h;rw[Hg b a];obtain⟨-,d,e2⟩:=Qn c a;exact⟨(Aq t).2.toNat,L,L⟩;let⟨d,e2⟩:=O1 b a;refine⟨(1000+(Aq v).2).toNat,?_,L⟩;rw[H0];omega
def Y3 {t u}(i:GT t)(g:GT u)(h:Eu t=Eu u):t=u:=by obtain⟨c,d,f⟩|⟨v,rfl,c,d⟩:=i;obtain⟨a,b,e⟩|⟨w,rfl,a,b⟩:=g;rw[Hg d c,Hg b a]at h;rw[<-(Qn f c).1,<-(Qn e a).1,h];exfalso;rw[Hg d c]at h;have:=(Qn f c).2.2;have:=(O1 b a).1;rw[H0]at h;omega;obtain⟨a,b,e⟩|⟨w,rfl,a,b⟩:=g;exfalso;rw[Hg b a]at h;have:=(Qn e a).2.2;have:=(O1 d c).1;rw[H0]at h;omega;rw[H0,H0]at h;rw[vQ d b c a L]
def WV {t}(h:VT t):Eu (Hn t)=(aZ (Aq t)).2:=by
 rw[Hn,aZ];rw[Cb];cases a:Ab t
 ·rw[if_neg nk,if_neg nk];exact Hg h a
 rw[if_pos rfl,if_pos rfl,H0]
def gb {t}(h:VT t)(b:DT t):GT (Hn t):=by
 rw[Hn];cases a:Ab t
 ·rw[if_neg nk];exact .inl ⟨a,h,b⟩
 rw[if_pos rfl];exact .inr ⟨t,rfl,a,h⟩
def K0 (N:ol)(a:AE):Nat:=N.idxOf a.B+(if a.nt=true then Z N else 0)
def eA (N:ol)(a:AE):Nat×Ck:=(K0 N a,Ej (a.A.map Eu))
structure ML (N:ol)(ar:Tx->Nat)(a:AE):Prop where
 mem:a.B∈N
 len:Z a.A=ar a.B
 le3:Z a.A<=3
structure GA (N:ol)(ar:Tx->Nat)(a:AE):Prop extends ML N ar a where
 gt:∀t∈a.A,GT t
def Xz {N a b}(f:a.B∈N)(e:b.B∈N)(h:K0 N a=K0 N b):a.nt=b.nt/\a.B=b.B:=by
 have i:=CS f;have g:=CS e;unfold K0 at h;have c:a.nt=b.nt:=gp
 rw[c]at h;have j:N.idxOf a.B=N.idxOf b.B:=L;refine⟨c,?_⟩;have d:=FN i;grind
def Lz {α d:Type}{f:α->d}:∀{l m:List α},(∀a∈l,∀b∈m,f a=f b->a=b)->l.map f=m.map f->l=m
 |[],[],_,_=>rfl
 |[],b::m,_,h=>gp
 |a::l,[],_,h=>gp
 |a::l,b::m,c,h=>by simp only[CC,cons.injEq]at h;rw[c a nk b nk h.1,Lz (λx e y g=>c x (ns e) y (ns g)) h.2]
def gZ {N ar a b}(c:GA N ar a)(d:GA N ar b)(h:eA N a=eA N b):a=b:=by
 unfold eA at h;simp only[Prod.mk.injEq]at h;let⟨k,f⟩:=Xz c.mem d.mem h.1;have g:Z a.A=Z b.A:=by rw[c.len,d.len,f]
 have l:=Sz (nn g) (nn c.le3) h.2;exact AE.ext' k f (Lz (λx i y j e=>Y3 (c.gt x i) (d.gt y j) e) l)
structure KP (N:ol)(ar:Tx->Nat)(y:AB):Prop where
 h:ML N ar y.h
 hnt:y.h.nt=false
 A:∀b∈y.A,ML N ar b
 vt:∀t∈y.h.A,VT t/\DT t
 vb:∀b∈y.A,∀t∈b.A,VT t/\DT t
 safe:∀v∈y.h.A,Ab v->∃b∈y.A,v∈b.A
def WN (N y):(Ed N y).h=Eg N y.h:=rfl
theorem Fq (N y):(Ed N y).A=y.A.map λb=>Fz (Z N) (E6 N b):=by simp[Ed,MZ,Ce]
def aA (N b):(Fz (Z N:Int) (E6 N b)).a.p=(K0 N b:Nat):=by grind[Fz,E6,Eg,K0]
def Md (N b):(Fz (Z N:Int) (E6 N b)).a.ts=b.A.map Aq:=by grind[Fz,E6,Eg]
def TQ (v:Int):UInt8:=UInt8.ofNat (65+v.toNat)
def MY (μ:Tx->Tx):Nu:=λv=>Eu (μ [TQ v])
def VY {μ v}(h:VT v)(c:Ab v):MY μ (Aq v).2=Eu (μ v):=by
 obtain⟨b,rfl,a⟩:=QB h c;rw[MY,TQ];rw[Et a];have d:65<=b.toNat:=by grind[Bs]
 have e:(65+((b.toNat:Int)-65).toNat)=b.toNat:=L;simp only[e,UInt8.ofNat_toNat]
def gm {μ t}(h:VT t):Ei (MY μ) (Aq t)=Eu (Ij μ t):=by
 rw[Ei];rw[Cb];cases a:Ab t
 ·rw[if_neg nk,Cm a,Hg h a]
 rw[if_pos rfl,C1 a,VY h a]
def QQ {μ}{a:ol}{p}(h:∀t∈a,VT t):B8 ⟨p,a.map Aq⟩ (MY μ)=Ej ((a.map (Ij μ)).map Eu):=by rw[B8];simp only[BH];congr 1;exact CG λt b=>gm (h t b)
def Vh {a ν}:B8 a ν=B8 ⟨0,a.ts⟩ ν:=rfl
structure N8 (N:ol)(ar:Tx->Nat)(Rd:n0)(x:AB):Prop where
 ru:∀y∈Rd,KP N ar y
 x:KP N ar x
def gQ {N ar b}(h:ML N ar b)(c:∀t∈b.A,VT t/\DT t):GA N ar (Cw b):=
 ⟨⟨h.mem,by show Z (b.A.map Hn)=_;rw[BV];exact h.len,by show Z (b.A.map Hn)<=3;rw[BV];exact h.le3⟩,λt d=>by
  obtain⟨u,a,rfl⟩:=AN.1 d
  exact gb (c u a).1 (c u a).2⟩
def Ts {N b}(a:∀t∈b.A,VT t):eA N (Cw b)=((Fz (Z N:Int) (E6 N b)).a.p.toNat,C4 (Fx (Fz (Z N:Int) (E6 N b)).a)):=by rw[eA];rw[aA,DK];refine GB rfl ?_;show Ej ((b.A.map Hn).map Eu)=Ej (((Fz (Z N:Int) (E6 N b)).a.ts.map aZ).map (·.2));rw[Md,BH,BH,BH];congr 1;exact CG λt c=>WV (a t c)
def qI {N ar Rd x}(h:N8 N ar Rd x):NN true Rd (x.A.map Cw) (λa=>GA N ar a/\BS (Rd.map (Ed N)) (Fy N x) (eA N a).1 (eA N a).2):=by
 refine⟨λa p=>?_,λC z B y n D E=>?_⟩;obtain⟨b,d,rfl⟩:=AN.1 p;refine⟨gQ (h.x.A b d) (h.x.vb b d),?_⟩;rw[Ts λt e=>(h.x.vb b d t e).1];have A:Fx (Fz (Z N:Int) (E6 N b)).a∈Fy N x:=by
  rw[Fy];rw[Fq,BH];grind
 exact BS.fact A;obtain⟨f,s,-,rfl⟩:=E;have c:=h.ru y n;have d:∀b∈y.A,GA N ar (G3 f b)/\BS (Rd.map (Ed N)) (Fy N x) (eA N (G3 f b)).1 (eA N (G3 f b)).2:=λb d=>z _ (s b d rfl);refine⟨⟨⟨c.h.mem,by show Z (y.h.A.map _)=_;rw[BV];exact c.h.len,by show Z (y.h.A.map _)<=3;rw[BV];exact c.h.le3⟩,λt e=>?_⟩,?_⟩;obtain⟨u,j,rfl⟩:=AN.1 e;cases k:Ab u with
 |false=>rw[Cm k];exact .inl ⟨k,(c.vt u j).1,(c.vt u j).2⟩
 |true=>
  let⟨b,i,v⟩:=c.safe u j k;exact (d b i).1.gt _ (AN.2 ⟨u,v,rfl⟩)
 have g:=BS.cl (Rd.map (Ed N)) (Fy N x) (Ed N y) (AN.2 ⟨y,n,rfl⟩) (MY f) (λl m=>by
  rw[Fq]at m;obtain⟨b,i,rfl⟩:=AN.1 m;have q:=(d b i).2;rw[aA,DK,Vh,Md,QQ λt e=>(c.vb b i t e).1]
  exact q)
 rw[WN,Vh]at g;have o:(Eg N y.h).ts=y.h.A.map Aq:=rfl;rw[o,QQ λt e=>(c.vt t e).1]at g;have e2:(Eg N y.h).p.toNat=(eA N (G3 f y.h)).1:=by show (((N.idxOf y.h.B:Nat):Int)).toNat=K0 N (G3 f y.h);rw[K0];have:(G3 f y.h).nt=false:=c.hnt;rw[this,DK];rfl
 exact e2▸g
def lf {N ar Rd x A}(h:N8 N ar Rd x)(p:∀a∈A,GA N ar a)(R:∀y∈Rd,CM true A [] y):KG (Rd.map (Ed N)) (λk t=>∃a∈A,eA N a=(k,t)):=by
 intro a7 T g a1;obtain⟨y,q,rfl⟩:=AN.1 T;have o:=h.ru y q;have E:∀b∈y.A,∃a∈A,a.nt=b.nt/\a.B=b.B/\a.A.map Eu=b.A.map λt=>Ei g (Aq t):=λb d=>by
  let⟨a,m,e⟩:=a1 (Fz (Z N) (E6 N b)) (by grind[Fq]);rw[aA,DK,Vh,Md]at e;rw[eA]at e;simp only[Prod.mk.injEq]at e;let⟨s,e2⟩:=e;let⟨P,D⟩:=Xz (p a m).mem (o.A b d).mem s;refine⟨a,m,P,D,?_⟩;rw[B8]at e2;simp only[BH]at e2;have:=Sz (by simp only[BV];rw[(p a m).len,(o.A b d).len,D]) (by rw[BV];exact (p a m).le3) e2;exact this
 let c:Tx->Tx:=λv=>Classical.epsilon λu=>GT u/\Eu u=g (Aq v).2;have C:∀v,(∃u,GT u/\Eu u=g (Aq v).2)->GT (c v)/\Eu (c v)=g (Aq v).2:=λv j=>Classical.epsilon_spec j;have G:∀b∈y.A,∀v∈b.A,Ab v->GT (c v)/\Eu (c v)=g (Aq v).2:=λb d v j U=>by
  obtain⟨a,m,-,-,e⟩:=E b d;let⟨i,a5⟩:=CL j;have n:(b.A.map λt=>Ei g (Aq t))[i]?=some (Ei g (Aq v)):=gp
  rw[<-e,DC]at n;cases z:a.A[i]? with
  |none=>rw[z]at n;cases n
  |some u=>
   rw[z]at n;have B:=Gf n;refine C v ⟨u,(p a m).gt u (AY z),?_⟩;rw[B];rw[Ei];rw[Cb,U,if_pos rfl]
 have I:∀t,VT t->DT t->(Ab t->GT (c t)/\Eu (c t)=g (Aq t).2)->GT (Ij c t)/\Eu (Ij c t)=Ei g (Aq t):=λt n B Q=>by
  rw[Ei];rw[Cb];cases j:Ab t
  ·rw[if_neg nk,Cm j];exact⟨.inl ⟨j,n,B⟩,Hg n j⟩
  rw[if_pos rfl,C1 j];exact Q j
 have M:∀b∈y.A,G3 c b∈A:=λb d=>by
  let⟨a,m,s,e2,a0⟩:=E b d;have:G3 c b=a:=by
   refine AE.ext' s.symm e2.symm ?_;have F:∀t∈b.A,GT (Ij c t)/\Eu (Ij c t)=Ei g (Aq t):=λt l=>I t (o.vb b d t l).1 (o.vb b d t l).2 (G b d t l);refine Lz (f:=Eu) (λu S w a2 e=>?_) ?_;obtain⟨t,l,rfl⟩:=AN.1 S;exact Y3 (F t l).1 ((p a m).gt w a2) e;show (b.A.map (Ij c)).map Eu=a.A.map Eu;rw[a0,BH];exact CG λt l=>(F t l).2
  exact this▸m
 have a6:=R y q (G3 c y.h) ⟨c,λb d _=>M b d,λb d a3=>(by cases a3),rfl⟩;have K:G3 c y.h∈A:=gp
 refine⟨G3 c y.h,K,?_⟩;rw[eA];apply GB;show K0 N (G3 c y.h)=(((N.idxOf y.h.B:Nat):Int)).toNat;rw[K0];have:(G3 c y.h).nt=false:=o.hnt;rw[this,DK];rfl;show Ej ((y.h.A.map (Ij c)).map Eu)=Ej ((y.h.A.map Aq).map (Ei g));rw[BH,BH];congr 1;refine CG λt l=>?_
 exact (I t (o.vt t l).1 (o.vt t l).2 (λj=>by
  let⟨b,d,a4⟩:=o.safe t l j;grind)).2
def zN {N ar Rd x b c}(h:N8 N ar Rd x)
  (R:(∃A,wE true Rd (x.A.map Cw) 200 A/\(c=true↔Cw x.h∈A))\/(pD true Rd (x.A.map Cw) 200/\c=false))
  (q:aD (Rd.map (Ed N)) (Fy N x) (Ed N x).h.p.toNat (C4 (Fx (Ed N x).h)) b):b=c:=by
 have y:eA N (Cw x.h)=((Ed N x).h.p.toNat,C4 (Fx (Ed N x).h)):=by
  have:=Ts (N:=N) (b:=x.h) λt f=>(h.x.vt t f).1;rw[this];have e:(Fz (Z N:Int) (E6 N x.h)).a=Eg N x.h:=by rw[Fz];rw[if_neg (by show¬x.h.nt=true;rw[h.x.hnt];simp)];rfl
  rw[e];rfl
 let⟨M,I,s,g⟩:=q;obtain⟨A,j,n⟩|⟨T,rfl⟩:=R;have m:=j.least _ (qI h);have E:=lf h (λa d=>(m a d).1) j.cl;have B:∀a∈Fy N x,∃z∈A,eA N z=(a.p.toNat,C4 a):=λa d=>by rw[Fy]at d;rw[Fq,BH]at d;obtain⟨o,Q,rfl⟩:=AN.1 d;exact⟨Cw o,j.gv _ (AN.2 ⟨o,Q,rfl⟩),Ts λt f=>(h.x.vb o Q t f).1⟩
 have u:∀k t,BS (Rd.map (Ed N)) (Fy N x) k t->∃a∈A,eA N a=(k,t):=λk t G=>G _ E B;have U:=PX I (λk t i=>u k t (s k t i));have v:=j.len;rw[if_pos L]at g;let⟨C,D⟩:=g;have:b↔c:=by rw[D,n];constructor;intro i;let⟨a,d,e⟩:=u _ _ (s _ _ i);rw[<-y]at e;exact gZ (m a d).1 (gQ h.x.h h.x.vt) e▸d;grind
 cases b<;>cases c<;>simp_all;let⟨S,F,K,l⟩:=T _ (qI h);by_cases f:tot M<=200;exfalso;rw[if_pos f]at g
 have:=f7 (M:=M) (P:=S.map (eA N)) (Oq F λa d b n e=>gZ (l a d).1 (l b n).1 e) (λp q=>gp)
 rw[BV]at this;omega;rw[if_neg f]at g;exact g
def qO {t}(h:(Av t).1=0):∀x∈Bl t,∀y∈Bl t,∀a∈Af x,∀b∈Af y,a.B=b.B->Z a.A=Z b.A:=by
 have v:∀i,i<Z (Bl t)->Gn (Bl t) i=false:=by
  rw[Av]at h;split at h;simp at h;split at h;simp at h;rw[Co]at h;split at h;simp at h;rename_i m;exact Jo m
 have d:∀(i j:Nat) (x y:AB) (a b:AE),(Bl t)[i]?=some x->(Bl t)[j]?=some y->i<j->a∈Af x->b∈Af y->a.B=b.B->Z a.A=Z b.A:=by
  intro i j x y a b e c s g f l;have o:=v j (BA.1 c).1;rw[Gn]at o;rw[c]at o;simp only[EV,mem_range]at o;let⟨k,m⟩:=CL f;have n:=o k (BA.1 m).1;rw[Mh]at n;rw[m]at n;simp only[CU,not_exists,not_and]at n
  have p:=n a (by
   rw[Ct,Ha];refine AW.2 (.inl (EX.2 ⟨x,?_,g⟩))
   exact AY (i:=i) (gp))
  rw[clash]at p;simp[l]at p;exact p
 intro x q y u a g b f l;let⟨i,e⟩:=CL q;let⟨j,c⟩:=CL u;obtain A|rfl|z:=KE i j;exact d i j x y a b e c A g f l;rw[e]at c;cases c;exact dM h x q a g b f l;exact (d j i y x b a c e z f g l.symm).symm
def aG (l:n0)(ar:Tx->Nat):Prop:=∀x∈l,∀a∈Af x,Z a.A=ar a.B
def SV {t}(h:(Av t).1=0):∃ar,aG (Bl t) ar:=by refine⟨λp=>Classical.epsilon λn=>∃x∈Bl t,∃a∈Af x,a.B=p/\Z a.A=n,λx d a c=>?_⟩;have:=Classical.epsilon_spec (p:=λn=>∃x∈Bl t,∃b∈Af x,b.B=a.B/\Z b.A=n) ⟨_,x,d,a,c,rfl,rfl⟩;let⟨y,f,b,e,g,e2⟩:=this;exact qO h x d y f a c b e g.symm▸e2
def jg {t N l cs ar}(h:CW t N l cs)(y:aG l ar){x}(k:x∈l)(j:x.o=false):KP N ar x:=by
 have s:=h.items;have q:x∈Bl t:=gp
 have e:=P4 h.ok x q;have n:=h.wi x k;have m:=e.w.2.2 j;have g:∀a,a=x.h\/a∈x.A->a∈Af x:=λa i=>by grind[Af]
 have c:=y x k;refine⟨⟨n.mem,c _ (g _ (.inl rfl)),m.1.2.2.1⟩,m.2.1,λb f=>⟨(n.wa b f).1,c _ (g _ (.inr f)),(m.2.2.2 b f).2.2.1⟩,λw d=>⟨e.va _ (g _ (.inl rfl)) w d,e.dt _ (g _ (.inl rfl)) w d⟩,λb f w d=>⟨e.va _ (g _ (.inr f)) w d,e.dt _ (g _ (.inr f)) w d⟩,λv d u=>?_⟩;obtain⟨z,p,A,-⟩:=e.rule j;obtain⟨a,i,-,o⟩:=A.saf v u (.inl d);exact⟨a,i,o⟩
def NT (N:ol)(ar:Tx->Nat)(k:Nat):Nat:=ar (N.getD (if k<Z N then k else k-Z N) [])
def sW {N ar a}(h:a.B∈N):NT N ar (K0 N a)=ar a.B:=by
 have b:=CS h;have e:N.getD (N.idxOf a.B) []=a.B:=gp
 rw[NT,K0];grind
def YM {w}(b:VT w)(a:DT w)(h:(Aq w).1=false):∃n:Nat,(Aq w).2=(n:Int)/\n<1026:=by rw[Cb]at h;obtain⟨-,c,e2⟩:=Qn a h;exact⟨(Aq w).2.toNat,L,L⟩
def yU {w}(a:VT w)(b:DT w):0<=(Aq w).2/\(Aq w).2<=999:=by
 cases h:Ab w
 ·obtain⟨-,c,e2⟩:=Qn b h;omega
 have:=O1 a h;omega
def QY {N a}(h:a.B∈N):K0 N a<2*Z N:=by have:=CS h;rw[K0];split<;>omega
def gS {a:ol}{v}(h:(true,v)∈a.map Aq):∃w∈a,Ab w/\(Aq w).2=v:=by grind[Cb]
theorem iJ (n l):(Fz n l).neg=false:=by grind[Fz]
def jf {N ar y}(h:KP N ar y)(q:Z y.A<=5):RW (2*Z N) (NT N ar) (Ed N y):=by
 have e:∀l∈(Ed N y).A,∃b∈y.A,l=Fz (Z N:Int) (E6 N b):=λl a=>by grind[Fq]
 have o:K0 N y.h=N.idxOf y.h.B:=by rw[K0];rw[h.hnt];simp
 have m:(Ed N y).h.p=((K0 N y.h:Nat):Int):=by rw[o];rfl
 have i:(Ed N y).h.ts=y.h.A.map Aq:=rfl;refine⟨⟨by rw[i,BV];exact h.h.le3,⟨_,m,QY h.h.mem⟩,by rw[Fq,BV];omega,λl a=>?_,λl a=>?_⟩,λl a j=>?_,?_,λl a=>?_,λt k n=>?_,λv c=>?_,λl a v c=>?_,λv c=>?_⟩;obtain⟨b,d,rfl⟩:=e l a;rw[Md,BV];exact (h.A b d).le3;obtain⟨b,d,rfl⟩:=e l a;exact⟨_,aA N b,QY (h.A b d).mem⟩;obtain⟨b,d,rfl⟩:=e l a;rw[iJ]at j;cases j;rw[i,BV,m,DK,sW h.h.mem];exact h.h.len;obtain⟨b,d,rfl⟩:=e l a;rw[Md,BV,aA,DK,sW (h.A b d).mem];exact (h.A b d).len;rw[i]at k;obtain⟨w,f,rfl⟩:=AN.1 k;exact YM (h.vt w f).1 (h.vt w f).2 n;rw[i]at c;obtain⟨w,f,g,rfl⟩:=gS c;exact O1 (h.vt w f).1 g;obtain⟨b,d,rfl⟩:=e l a;rw[Md]at c;obtain⟨w,f,g,rfl⟩:=gS c;exact O1 (h.vb b d w f).1 g;have c:Bm (Ed N y).h.ts v:=by grind[iJ]
 rw[AO,i]at c;obtain⟨w,f,g,rfl⟩:=gS c;let⟨b,d,p⟩:=h.safe w f g;refine⟨Fz (Z N:Int) (E6 N b),by grind[Fq],iJ _ _,?_⟩;rw[AO,Md];refine AN.2 ⟨w,p,?_⟩;rw[<-g,<-Cb]
def QS {a:ol}(h:∀t∈a,VT t/\DT t):NP (a.map Aq):=λt c=>by obtain⟨w,b,rfl⟩:=AN.1 c;have:=yU (h w b).1 (h w b).2;omega
def gO (N:ol)(l:n0)(i:Nat)(x:AB)(b:Bool):Prop:=aD ((oth l i (Z l)).map (Ed N)) (Fy N x) (Ed N x).h.p.toNat (C4 (Fx (Ed N x).h)) b
def xV (N:ol)(l:n0)(n:Nat):Prop:=∀i y,i<n->l[i]?=some y->y.o=false->C5 N l (rpl i [] l)->gO N l i y false
def OL (N:ol)(l:n0)(idn:Nat)(x:AV)(b:Bool):Prop:=
 (b=false/\xV N l (Z l))\/(b=true/\∃i y,l[i]?=some y/\y.o=false/\C5 N l (rpl i [] l)/\gO N l i y true/\xV N l i/\∃id a,x=Cq N idn (rpl i [] l) id a/\r (PI N) (rpl i [] l) a)
def GL.less {N l}(h:GL N l){i}:GL N (rpl i [] l):=by
 have b:∀y∈rpl i [] l,y∈l:=λy a=>by
  obtain h|h:=Cy a;exact h;cases h
 exact⟨BI (Rh l) h.len,h.nm,λy a=>h.msr y (b y a),λy a=>h.fits y (b y a),λy a=>h.pos y (b y a),λy a=>h.va y (b y a),λy a=>h.ar y (b y a)⟩
def Pb (N l cs idn m ar)(B:GL N l)(hI:OJ N l ar)(A:r (PI N) l cs)(I):
  ni 126 [Cq N idn l m cs] I λa0 f=>(∃x b,a0=tp [x,my b]/\OL N l idn x b/\pB x)/\W I f:=by
 have bg:=r.length Ew A;have aw:=B.len;have ba:Bk N l cs:=(B.bkm A).bk aw;have q:=λi I=>Xx N l [] cs [] idn m 1 i A rfl L nk I;have k:=λi F a2 (a8:r (PI N) (rpl i [] l) F) I=>Ib N l (rpl i [] l) cs F idn m a2 (B.bkm A) (B.less.bkm a8).bj I;simp only[CQ]at q;refine wl func126 ?_;refine X ?_
 refine wn [1,2,10,11] 12 (Z l) (λi ab f=>W I f/\I.B+1<f.B/\f.C I.B=[lw idn N,sl m (Z l) cs]/\f.C (I.B+1)=[H,H]/\V (xV N l i)) ⟨Xs,AM,by rw[Ah AM,Ao],by first|exact Ao|simp[Ao],λi a1 h=>L⟩ ?_
 rintro i ab f _ _ _ ⟨hK,bf,bd,bc,g⟩;have be:=hK.B;by_cases a6:i<Z l;obtain⟨x,e⟩:=gq a6;let⟨a5,ih,af,b,a0,a9,v⟩:=Ih A e;have n:(x.o=false->C5 N l (rpl i [] l)->gO N l i x false)->V (xV N l (i+1)):=λh j a1 hj s y P=>by obtain E|E:=FT j i;exact g.o j a1 E s y P;have:j=i:=L;subst this;rw[e]at s;cases s;exact h y P
 cases a:x.o
 ·have U:=λI=>aV N l cs idn m i ar x ba hI e a I;have q:=q i;have k:=k i;have T:V (l[i]?=some x):=e;have Q:V _:=n;have bb:V (x.o=false):=a;rw[a]at v;cases o:C5 N l (rpl i [] l)
  ·rw[o]at k;have u:=n (λ_ h=>by rw[o]at h;cases h);clear n g e o Q U
   (repeat (refine m0 ?_;intro yb ya;(first|(refine Xi (q _) ?_;rintro _ _ ⟨⟨d,C,rfl,D⟩,p⟩;(have M:=p.B;have K:=p.C;(try simp only[Ac,Aa,Az]at M K)))|(refine Xi (k C d D _) ?_;rintro _ _ ⟨⟨x7,rfl,S,⟨ad,a7,a4,ae,a3,aa,rfl⟩⟩,t⟩;(have av:=t.B;have ap:=t.C)))));refine X ?_
   skip;exact m9 u
  rw[o]at k;have R:V (C5 N l (rpl i [] l)=true):=o;clear n e o
  (repeat (refine m0 ?_;intro yb ya;(first|(apply Xi (q _);rintro _ _ ⟨⟨d,C,rfl,D⟩,p⟩;(have M:=p.B;have K:=p.C;(try simp only[Ac,Aa,Az]at M K)))|(apply Xi (k C d D _);rintro _ _ ⟨⟨x7,rfl,S,⟨ad,a7,a4,ae,a3,aa,rfl⟩⟩,t⟩;(have av:=t.B;have ap:=t.C))|(refine Xi (U _) ?_;rintro _ _ ⟨bi,rfl,c,z⟩;(have au:=z.B;have ao:=z.C;have G:V (gO N l i x bi):=c;clear c;(try simp only[Ac,Aa]at au ao))))));refine m6 ?_ ?_<;>intro h ac
  have c:=G.o;rw[h]at c;exact⟨_,rfl,⟨_,true,rfl,.inr ⟨rfl,i,x,T.o,bb.o,R.o,c,g.o,d,C,S rfl,D⟩,_,_,_,_,_,_,rfl⟩,Xs⟩;have c:=G.o;rw[h]at c;have u:=Q.o λ_ _=>c;clear c G Q T R g;skip;exact m9 u
 rw[a]at v;have u:=n (λh=>by rw[a]at h;cases h);clear n g e;refine X ?_;skip;exact m9 u
 obtain rfl:i=Z l:=L;refine X ?_;exact⟨_,rfl,⟨_,false,rfl,.inl ⟨rfl,g.o⟩,_,_,_,_,_,_,rfl⟩,Xs⟩
structure BB (N:ol)(ar:Tx->Nat)(l:n0):Prop where
 gl:GL N l
 b5:∀x∈l,Z x.A<=5
 ru:∀x∈l,x.o=false->KP N ar x
 wi:∀x∈l,WI N x
 wit:∀x∈l,Dc x
def jt {N l ar}(j:∀y∈l,Z y.A<=5)(h:∀y∈l,y.o=false->KP N ar y):OJ N l (NT N ar):=by
 refine⟨j,λy d g=>jf (h y d g) (j y d),λy d g=>?_,λy d g a i=>?_⟩;have c:=h y d g;refine⟨QS c.vt,λk n=>?_⟩;rw[Fq]at n;obtain⟨b,f,rfl⟩:=AN.1 n;rw[Md];exact QS (c.vb b f);have c:=h y d g;rw[Fy]at i;rw[Fq,BH]at i;obtain⟨b,f,rfl⟩:=AN.1 i;have e:=Ts (N:=N) (b:=b) λt p=>(c.vb b f t p).1;have m:=gQ (c.A b f) (c.vb b f);rw[eA]at e;simp only[Prod.mk.injEq]at e;have q:(Fx (Fz (Z N:Int) (E6 N b)).a).p.toNat=K0 N b:=by
  show (Fz (Z N:Int) (E6 N b)).a.p.toNat=_;rw[aA,DK]
 show Sh _ (Fx (Fz (Z N:Int) (E6 N b)).a).p.toNat (C4 (Fx (Fz (Z N:Int) (E6 N b)).a));rw[q,<-e.2];refine⟨_,rfl,?_,λz s=>?_⟩;rw[BV,sW (c.A b f).mem];exact m.len;obtain⟨u,o,rfl⟩:=AN.1 s;exact WU (m.gt u o)
def BB.bki {N ar l}(h:BB N ar l):OJ N l (NT N ar):=jt h.b5 h.ru
def j7 {t}(i:DT t)(h2:Mm t)(g:Z t<=1000)(j:VT t):UT t:=by
 refine⟨i,h2,g,λf=>?_⟩;obtain⟨b,rfl,a⟩|⟨l,m⟩:=j;simp only[Bs,BM,CV]at a;refine⟨b.toNat-65,L,?_⟩;have:=Fv (k:=((b.toNat-65:Nat):Int)) L L;have e:(Im ((b.toNat-65:Nat):Int)).toNat=b.toNat:=L;rw[UInt8.toNat_inj.1 e];cases t with
 |nil=>cases l rfl
 |cons b n=>
  have c:=m b nk;have d:Bs b.toNat:=f;simp only[Bs,A6,BM,CV]at c d;omega
def CW.rt {t N l cs}(h:CW t N l cs){ar}(v:aG l ar):BB N ar l:=by
 have j:∀x∈l,FG x:=λx c=>P4 h.ok x (h.items▸c);have p:∀y∈l,Z y.A<=5:=λy q=>(h.wi y q).A;refine⟨⟨h.bk.len,h.bk.nm,λx c=>?_,h.bk.fits,h.bk.pos,λx c=>(j x c).va,λx c a e b B=>dM h.ok x (h.items▸c) a (Ap (.inr e)) b (Ap (.inr B))⟩,p,λx c d=>jg h v c d,h.wi,h.wit⟩;have g:=h.wi x c;have k:=g.short;refine⟨g.o,ny g.A,g.mem,k.1.1,λa e=>?_⟩;have o:=h.wit x c;have d:x.o=false:=by
  cases d:x.o
  ·rfl
  simp[Af,d,g.o d]at e
 have f:a=x.h\/a∈x.A:=by grind[Af]
 let⟨u,z,A,s⟩:=o.2.2 d;have m:En a:=gp
 have n:short a:=by obtain rfl|f:=f;exact k.1;exact k.2 a f
 exact⟨m.2.2.1,n.1,λt i=>j7 ((j x c).dt a e t i) (m.2.2.2 t i) (n.2.2 t i) ((j x c).va a e t i)⟩
def BB.sub {N ar l c}(h:BB N ar l)(b:∀x∈c,x∈l)(d:Z c<=16):BB N ar c:=
 ⟨⟨d,h.gl.nm,λx a=>h.gl.msr x (b x a),λx a=>h.gl.fits x (b x a),λx a=>h.gl.pos x (b x a),λx a=>h.gl.va x (b x a),λx a=>h.gl.ar x (b x a)⟩,λx a=>h.b5 x (b x a),λx a=>h.ru x (b x a),λx a=>h.wi x (b x a),λx a=>h.wit x (b x a)⟩
def BB.less {N ar l}(h:BB N ar l)(i):BB N ar (rpl i [] l):=
 h.sub (λx a=>by obtain h|h:=Cy a;exact h;cases h) (BI (Rh l) h.gl.len)
def QA {x k}(h:Dc x)(b:x.o=false):Dc (C8 x k):=by let⟨g,i,f,d⟩:=h.2.2 b;exact⟨h.1,(λe=>by cases e),λ_=>⟨g,i,BI (JF _ _) f,λa c=>d a (EE c)⟩⟩
def j0 {N x k}(h:WI N x)(l:Dc x)(d:x.o=false):WI N (C8 x k):=by have j:=QA (k:=k) l d;have i:∀a,a∈Af (C8 x k)->WA N (Au x) a->WA N (Au (C8 x k)) a:=λa b c=>⟨c.1,c.2.1,c.2.2.1,c.2.2.2.1,λw f=>⟨(c.2.2.2.2 w f).1,(c.2.2.2.2 w f).2.1,λm=>On j b f m⟩⟩;have g:∀a∈(C8 x k).A,a∈x.A:=λa b=>EE b;exact⟨Ms h.fits,⟨h.short.1,λa b=>h.short.2 a (g a b)⟩,λa b=>h.va a (Mr d b),h.vh,λa b=>h.vb a (g a b),h.mem,BI (JF _ _) h.A,(λe=>by cases e),λ_=>⟨(h.h d).1,i _ (Ap (.inl ⟨rfl,rfl⟩)) (h.h d).2⟩,λa b=>i a (Ap (.inr b)) (h.wa a (g a b))⟩
theorem W3 {y}(i:Fi y)(k:∀a∈Af y,∀t∈a.A,UT t){a}(g:a∈Af y){t}(j:t∈a.A)(l:Ab t):∃b∈y.A,b.nt=false/\t∈b.A:=by
 rw[Fi]at i;have:=EV.1 (by simpa using i:(Af y).any (fun a=>a.A.any fun w=>(Aq w).1&&!Ga y (Aq w).2)=false) a g;have:=EV.1 (by simpa using this:a.A.any (fun w=>(Aq w).1&&!Ga y (Aq w).2)=false) t j;rw[Cb,l]at this;have c:Ga y (Aq t).2:=by simpa using this
 rw[Ga]at c;let⟨b,f,c⟩:=CU.1 c;simp only[BM,FJ,CU]at c;let⟨m,u,e,d⟩:=c;refine⟨b,f,m,?_⟩;rw[Ql]at d;simp only[BM,DO]at d;have:t=u:=DJ.inj _ _ (k a g t j) (k b (Ap (.inr f)) u e) (GB (by rw[Cb,l,d.1]) d.2.symm);exact this▸e
def BB.wo {N ar l}(h:BB N ar l){i k x}(o:l[i]?=some x)(f:x.o=false)(t:Fi (C8 x k)):BB N ar (rpl i [C8 x k] l):=by
 have e:=AY o;have d:∀y∈rpl i [C8 x k] l,y∈l\/y=C8 x k:=λy c=>by
  obtain h|h:=Cy c;exact .inl h;exact .inr (nn h)
 have n:∀a∈(C8 x k).A,a∈x.A:=λa m=>EE m;refine⟨h.gl.wo o f,λy c=>?_,λy c p=>?_,λy c=>?_,λy c=>?_⟩;obtain c|rfl:=d y c;exact h.b5 y c;exact BI (JF _ _) (h.b5 x e);obtain c|rfl:=d y c;exact h.ru y c p;have g:=h.ru x e f;refine⟨g.h,g.hnt,λb j=>g.A b (n b j),g.vt,λb j=>g.vb b (n b j),λv d q=>?_⟩;obtain⟨b,j,-,s⟩:=W3 t (λa m=>((h.gl.msr x e).at_ a (Mr f m)).2.2) (a:=x.h) (Ap (.inl ⟨rfl,rfl⟩)) d q;exact⟨b,j,s⟩;obtain c|rfl:=d y c;exact h.wi y c;exact j0 (h.wi x e) (h.wit x e) f;obtain c|rfl:=d y c;exact h.wit y c;exact QA (h.wit x e) f
def KI (R:n0)(d:oq)(S:AE->Prop):Prop:=(∀a∈d,S a)/\∀y∈R,∀c,(∀b∈y.A,S (G3 c b))->S (G3 c y.h)
def LA (R:n0)(b:oq)(a:AE):Prop:=∀S,KI R b S->S a
def LA.cl (R j):KI R j (LA R j):=⟨λa e S c=>c.1 a e,λy i g d S c=>c.2 y i g λb f=>d b f S c⟩
def XL {R d S}(h:NN true R d S):KI R d S:=
 ⟨h.1,λy j e f=>h.2 (d++y.A.map (G3 e)) (λa c=>by
  obtain c|c:=AW.1 c;exact h.1 a c;obtain⟨b,i,rfl⟩:=AN.1 c
  exact f b i) (λa c=>GK _ c) y j _ ⟨e,λa c _=>LI _ (AN.2 ⟨a,c,rfl⟩),λa c g=>(by cases g),rfl⟩⟩
section
variable {N:ol} {ar:Tx->Nat} {Rd:n0} {x:AB}
theorem eG (h:N8 N ar Rd x){a}(b:LA Rd (x.A.map Cw) a):GA N ar a/\BS (Rd.map (Ed N)) (Fy N x) (eA N a).1 (eA N a).2:=b _ (XL (qI h))
theorem kz (h:N8 N ar Rd x){A:AE->Prop}(o:∀a,A a->GA N ar a)(U:∀y∈Rd,∀μ,(∀b∈y.A,A (G3 μ b))->A (G3 μ y.h)):KG (Rd.map (Ed N)) (λk t=>∃a,A a/\eA N a=(k,t)):=by
 intro a3 z c S;obtain⟨y,F,rfl⟩:=AN.1 z;have n:=h.ru y F;have C:∀b∈y.A,∃a,A a/\a.nt=b.nt/\a.B=b.B/\a.A.map Eu=b.A.map λt=>Ei c (Aq t):=λb g=>by
  let⟨a,l,e⟩:=S (Fz (Z N) (E6 N b)) (by grind[Fq]);rw[aA,DK,Vh,Md]at e;rw[eA]at e;simp only[Prod.mk.injEq]at e;let⟨p,e2⟩:=e;let⟨Q,B⟩:=Xz (o a l).mem (n.A b g).mem p;refine⟨a,l,Q,B,?_⟩;rw[B8]at e2;simp only[BH]at e2;exact Sz (by simp only[BV];rw[(o a l).len,(n.A b g).len,B]) (by rw[BV];exact (o a l).le3) e2
 let μ:Tx->Tx:=λv=>Classical.epsilon λu=>GT u/\Eu u=c (Aq v).2;have a0:∀v,(∃u,GT u/\Eu u=c (Aq v).2)->GT (μ v)/\Eu (μ v)=c (Aq v).2:=λv d=>Classical.epsilon_spec d;have E:∀b∈y.A,∀v∈b.A,Ab v->GT (μ v)/\Eu (μ v)=c (Aq v).2:=λb g v d I=>by
  obtain⟨a,l,-,-,e⟩:=C b g;let⟨i,a2⟩:=CL d;have m:(b.A.map λt=>Ei c (Aq t))[i]?=some (Ei c (Aq v)):=gp
  rw[<-e,DC]at m;cases q:a.A[i]? with
  |none=>rw[q]at m;cases m
  |some u=>
   rw[q]at m;have s:=Gf m;refine a0 v ⟨u,(o a l).gt u (AY q),?_⟩;rw[s];rw[Ei];rw[Cb,I,if_pos rfl]
 have G:∀t,VT t->DT t->(Ab t->GT (μ t)/\Eu (μ t)=c (Aq t).2)->GT (Ij μ t)/\Eu (Ij μ t)=Ei c (Aq t):=λt m s M=>by
  unfold Ei;rw[Cb];cases d:Ab t
  ·rw[if_neg nk,Cm d];exact⟨.inl ⟨d,m,s⟩,Hg m d⟩
  rw[if_pos rfl,C1 d];exact M d
 have K:∀b∈y.A,A (G3 μ b):=λb g=>by
  let⟨a,l,p,e2,R⟩:=C b g;have:G3 μ b=a:=by
   refine AE.ext' p.symm e2.symm ?_;have D:∀t∈b.A,GT (Ij μ t)/\Eu (Ij μ t)=Ei c (Aq t):=λt j=>G t (n.vb b g t j).1 (n.vb b g t j).2 (E b g t j);refine Lz (f:=Eu) (λu P w T e=>?_) ?_;obtain⟨t,j,rfl⟩:=AN.1 P;exact Y3 (D t j).1 ((o a l).gt w T) e;show (b.A.map (Ij μ)).map Eu=a.A.map Eu;rw[R,BH];exact CG λt j=>(D t j).2
  exact this▸l
 refine⟨G3 μ y.h,U y F μ K,?_⟩;rw[eA];apply GB;show K0 N (G3 μ y.h)=(((N.idxOf y.h.B:Nat):Int)).toNat;rw[K0];have:(G3 μ y.h).nt=false:=n.hnt;rw[this,DK];rfl;show Ej ((y.h.A.map (Ij μ)).map Eu)=Ej ((y.h.A.map Aq).map (Ei c));rw[BH,BH];congr 1;refine CG λt j=>?_
 exact (G t (n.vt t j).1 (n.vt t j).2 (λd=>by
  let⟨b,g,a1⟩:=n.safe t j d;grind)).2
theorem SS (h:N8 N ar Rd x){k t}(e:BS (Rd.map (Ed N)) (Fy N x) k t):∃a,LA Rd (x.A.map Cw) a/\eA N a=(k,t):=
 e _ (kz h (λa c=>(eG h c).1) (LA.cl Rd _).2) λa c=>by rw[Fy]at c;rw[Fq,BH]at c;obtain⟨b,d,rfl⟩:=AN.1 c;exact⟨Cw b,(LA.cl Rd _).1 _ (AN.2 ⟨b,d,rfl⟩),Ts λt f=>(h.x.vb b d t f).1⟩
theorem YO (h:N8 N ar Rd x):eA N (Cw x.h)=((Ed N x).h.p.toNat,C4 (Fx (Ed N x).h)):=by
 rw[Ts (N:=N) (b:=x.h) λt a=>(h.x.vt t a).1];have e:(Fz (Z N:Int) (E6 N x.h)).a=Eg N x.h:=by
  rw[Fz];rw[if_neg (by show¬x.h.nt=true;rw[h.x.hnt];simp)];rfl
 rw[e];rfl
theorem vL (h:N8 N ar Rd x):BS (Rd.map (Ed N)) (Fy N x) (Ed N x).h.p.toNat (C4 (Fx (Ed N x).h))↔LA Rd (x.A.map Cw) (Cw x.h):=by have c:=YO h;constructor;intro d;let⟨a,b,e⟩:=SS h d;rw[<-c]at e;exact gZ (eG h b).1 (gQ h.x.h h.x.vt) e▸b;intro b;have:=(eG h b).2;grind
end
def ZM {N N2 ar ar2 R l x c}(h:N8 N ar R x)(h2:N8 N2 ar2 l c){f g:AE->AE}
  (T:∀a,LA R (x.A.map Cw) a->LA l (c.A.map Cw) (f a)/\g (f a)=a) (z:∀a,LA l (c.A.map Cw) a->LA R (x.A.map Cw) (g a)/\f (g a)=a)
  (a1:f (Cw x.h)=Cw c.h) (a0:g (Cw c.h)=Cw x.h){b B}
  (Q:aD (R.map (Ed N)) (Fy N x) (Ed N x).h.p.toNat (C4 (Fx (Ed N x).h)) b) (D:aD (l.map (Ed N2)) (Fy N2 c) (Ed N2 c).h.p.toNat (C4 (Fx (Ed N2 c).h)) B):b=B:=by
 let⟨M,S,F,q⟩:=Q;let⟨m,C,v,n⟩:=D;have P:∀{N N2:ol} {ar ar2:Tx->Nat} {R l:n0} {x c:AB} (h:N8 N ar R x) (h2:N8 N2 ar2 l c) {f g:AE->AE} (z:∀a,LA l (c.A.map Cw) a->LA R (x.A.map Cw) (g a)/\f (g a)=a) {M m:MM} (C:∀y∈m,y.2.Nodup) (v:∀j t,MD m j t->BS (l.map (Ed N2)) (Fy N2 c) j t) (o:∀j t,BS (R.map (Ed N)) (Fy N x) j t->MD M j t),tot m<=tot M:=by
  intro N N2 ar ar2 R l x c h h2 f g z M m C v o
  haveI:Nonempty AE:=⟨x.h⟩
  let d:Nat×Ck->AE:=λp=>Classical.epsilon λa=>LA R (x.A.map Cw) a/\eA N a=p;have:=PX (M:=m) (A:=Lf 0 M) (e:=λp=>eA N2 (f (d p))) C λk t s=>by
   let⟨i,U,e2⟩:=SS h2 (v k t s);let⟨u,a3⟩:=z i U;have I:=Classical.epsilon_spec (p:=λa=>LA R (x.A.map Cw) a/\eA N a=eA N (g i)) ⟨g i,u,rfl⟩;have a2:d (eA N (g i))=g i:=gZ (eG h I.1).1 (eG h u).1 I.2
   refine⟨eA N (g i),?_,gp⟩
   have:=o _ _ (eG h u).2;exact (Le M 0 _ _).2 ⟨L,this⟩
  exact O0 M 0▸this
 have G:BS (R.map (Ed N)) (Fy N x) (Ed N x).h.p.toNat (C4 (Fx (Ed N x).h))↔BS (l.map (Ed N2)) (Fy N2 c) (Ed N2 c).h.p.toNat (C4 (Fx (Ed N2 c).h)):=by grind[vL]
 by_cases K:tot M<=200;rw[if_pos K]at q;have u:=P h h2 z C v q.1;rw[if_pos L]at n;have:b↔B:=gp
 cases b<;>cases B<;>simp_all;rw[if_neg K]at q;by_cases E:tot m<=200;rw[if_pos E]at n;have u:=P h2 h T S F n.1;omega;rw[if_neg E]at n;rw[q,n]
def rA (f:Tx->Tx)(a:AE):AE:=⟨a.nt,a.B,a.A.map f⟩
def Is (m:Tx->Tx):Tx->Tx
 |[]=>[]
 |b::a=>if b=35 then 35::m a else b::a
def eN (m v):Is m (35::v)=35::m v:=by grind[Is]
def Ry {m u}(h:VT u)(a:Ab u=false):Is m u=u:=by
 let⟨d,c⟩:=QC h a;cases u with
 |nil=>rfl
 |cons b e=>
  unfold Is;dsimp only;rw[if_neg];rintro rfl;have:=c 35 nk;revert this;decide
def QW {m μ b}(h:∀t∈b.A,VT t):rA (Is m) (G3 μ b)=G3 (λv=>Is m (μ v)) b:=by
 refine AE.ext' rfl rfl ?_;show (b.A.map (Ij μ)).map (Is m)=b.A.map (Ij λv=>Is m (μ v));rw[BH];refine CG λt c=>?_;show Is m (Ij μ t)=_;cases a:Ab t
 ·rw[Cm a,Cm a,Ry (h t c) a]
 rw[C1 a,C1 a]
def Ic (Lqx:ol)(w:Tx):Tx:=(Lqx.find? λv=>C6 Lqx v==w).getD w
section
variable {x:AB} (hx:XR x)
include hx
theorem XR.back {a}(m:a∈Af x){t}(l:t∈a.A)(f:Ab t):Ic (Au x) (C6 (Au x) t)=t:=by
 have c:=hx.mem m l f;have o:∀u∈Au x,Ab u:=λu g=>by
  have:=K7 ((Af x).flatMap (·.A)) [] nk GN;exact (this.1 u g).1
 rw[Ic];cases d:(Au x).find? λv=>C6 (Au x) v==C6 (Au x) t with
 |none=>
  have:=KB.1 d t c;simp at this
 |some u=>
  have e:=ME d;have b:=find?_some d;simp only[DO]at b;show u=t;unfold C6 at b;rw[if_pos (o u e),if_pos f]at b;have p:=hx.which e;have i:=hx.which c;have q:=hx.few;rw[p.1,i.1]at b;have n:=cons.inj b;have j:=Fv (k:=((Au x).idxOf u:Nat)) L L;have e2:=Fv (k:=((Au x).idxOf t:Nat)) L L;rw[n.1]at j;exact E9 e c L
theorem XR.wvar {a}(b:a∈Af x){t}(d:t∈a.A):Ab (C6 (Au x) t)=Ab t:=Hu λc=>hx.rng b d c
theorem XR.atM_ren {a}(d:a∈Af x)(μ):G3 μ (Br (Au x) a)=G3 (λv=>μ (C6 (Au x) v)) a:=by
 refine AE.ext' rfl rfl ?_;show (a.A.map (C6 (Au x))).map (Ij μ)=_;rw[BH];refine CG λt e=>?_;show Ij μ (C6 (Au x) t)=_;have c:=hx.wvar d e;cases b:Ab t
 ·rw[b]at c;rw[Cm c,Cm b];unfold C6;rw[if_neg (gp)]
 rw[b]at c;rw[C1 c,C1 b]
theorem XR.atM_back {a}(c:a∈Af x)(μ):G3 (λv=>μ (Ic (Au x) v)) (Br (Au x) a)=G3 μ a:=by
 rw[hx.atM_ren c];refine AE.ext' rfl rfl (CG λt d=>?_);cases b:Ab t
 ·rw[Cm b,Cm b]
 rw[C1 b,C1 b,hx.back c d b]
theorem XR.frz {a}(d:a∈Af x)(f:∀t∈a.A,VT t):rA (Is (C6 (Au x))) (Cw a)=Cw (Br (Au x) a):=by
 refine AE.ext' rfl rfl ?_;show (a.A.map Hn).map (Is (C6 (Au x)))=(a.A.map (C6 (Au x))).map Hn;rw[BH,BH];refine CG λt c=>?_;show Is (C6 (Au x)) (Hn t)=Hn (C6 (Au x) t);have e:=hx.wvar d c;unfold Hn;rw[e];cases b:Ab t
 ·rw[if_neg nk,if_neg nk,Ry (f t c) b];unfold C6;rw[if_neg (gp)]
 rw[if_pos rfl,if_pos rfl,eN]
theorem XR.frz_back {a}(d:a∈Af x)(g:∀t∈a.A,VT t):rA (Is (Ic (Au x))) (Cw (Br (Au x) a))=Cw a:=by
 refine AE.ext' rfl rfl ?_;show ((a.A.map (C6 (Au x))).map Hn).map (Is (Ic (Au x)))=a.A.map Hn;rw[BH,BH];refine CG λt c=>?_;show Is (Ic (Au x)) (Hn (C6 (Au x) t))=Hn t;have f:=hx.wvar d c;unfold Hn;rw[f];cases b:Ab t
 ·rw[if_neg nk,if_neg nk];have e:C6 (Au x) t=t:=by grind[C6]
  rw[e,Ry (g t c) b]
 rw[if_pos rfl,if_pos rfl,eN,hx.back d c b]
end
def iD {R l S}(m:∀y∈R,XR y):KI R l S↔KI (R.map ren) l S:=by constructor;rintro⟨k,i⟩;refine⟨k,λz j c g=>?_⟩;obtain⟨y,d,rfl⟩:=AN.1 j;have a:=m y d;have e:=a.atM_ren (Ap (.inl ⟨a.o,rfl⟩)) c;show S (G3 c (Br (Au y) y.h));rw[e];refine i y d _ λb f=>?_;rw[<-a.atM_ren (Ap (.inr f)) c];exact g _ (AN.2 ⟨b,f,rfl⟩);rintro⟨k,i⟩;refine⟨k,λy d c g=>?_⟩;have a:=m y d;rw[<-a.atM_back (Ap (.inl ⟨a.o,rfl⟩)) c];refine i (ren y) (AN.2 ⟨y,d,rfl⟩) _ λz j=>?_;obtain⟨b,f,rfl⟩:=AN.1 j;rw[a.atM_back (Ap (.inr f)) c];exact g b f
def vS {R e c S m}(f:∀y∈R,∀a,a=y.h\/a∈y.A->∀t∈a.A,VT t)(i:∀a∈e,rA (Is m) a∈c)(h:KI R c S):KI R e λa=>S (rA (Is m) a):=
 ⟨λa k=>h.1 _ (i a k),λy d l j=>by
  show S (rA (Is m) (G3 l y.h));rw[QW (f y d _ (.inl rfl))];refine h.2 y d _ λb g=>?_;rw[<-QW (f y d b (.inr g))]
  exact j b g⟩
def vT {R g m n}(j:∀y∈R,∀t∈y.h.A,VT t)(q:∀y∈R,∀v∈y.h.A,Ab v->∃b∈y.A,v∈b.A)(l:∀a∈g,rA (Is m) (rA (Is n) a)=a):KI R g λa=>rA (Is m) (rA (Is n) a)=a:=by
 refine⟨l,λy e c p=>?_⟩;refine AE.ext' rfl rfl ?_;show ((((y.h.A.map (Ij c)).map (Is n)).map (Is m)))=y.h.A.map (Ij c);rw[BH,BH];refine CG λt f=>?_;show Is m (Is n (Ij c t))=Ij c t;cases d:Ab t
 ·rw[Cm d,Ry (j y e t f) d,Ry (j y e t f) d]
 obtain⟨b,o,k⟩:=q y e t f d;have i:(((b.A.map (Ij c)).map (Is n)).map (Is m))=b.A.map (Ij c):=congrArg AE.A (p b o);rw[BH,BH]at i;exact map_inj_left.1 i t k
variable {Bd:Nat}
def zW {t l}(h:(Av t).1=0)(a:Cc 16 t= .got l []):Z t<=600/\(Co l).1=0:=by rw[Av]at h;split at h;simp at h;rename_i b;split at h;simp at h;obtain⟨-,e,-,-⟩:=Ep L a;grind
set_option maxRecDepth 1000000
end Go.Proofs.YtmoeoppbmhfbpabGreatDoorJ
