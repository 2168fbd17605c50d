import Derived.Test.YtmoeoppbmhfbpabGreatDoorJEngY
import Derived.Test.YtmoeoppbmhfbpabGreatDoorJProgL
import Derived.Test.YtmoeoppbmhfbpabGreatDoorJPrtP
import Derived.Test.YtmoeoppbmhfbpabGreatDoorJDocJ
set_option maxHeartbeats 64000000
set_option maxRecDepth 100000
set_option linter.all false
open List renaming length->Z
namespace Go.Proofs.YtmoeoppbmhfbpabGreatDoorJ
open Go.Abs
def PY:∀(M M':MM),Z M'=Z M->(∀k:Nat,Z (Ba M k)<=Z (Ba M' k))->(tot M<=tot M'/\(tot M'<=tot M->∀k:Nat,Z (Ba M' k)=Z (Ba M k)))
 |[],M',a,h=>by
  have:M'=[]:=GG (nn a);subst this;exact⟨Int.le_refl _,λ_ k=>rfl⟩
 |x::M,[],a,h=>by simp at a
 |x::M,y::M',a,h=>by
  obtain⟨d,b⟩:=PY M M' (nn a) (λk=>by have:=h (k+1);simpa[Ba]using this);have c:=h 0;simp[Ba]at c;rw[Ey,Ey];refine⟨AA,λe k=>?_⟩;cases k with
  |zero=>simp[Ba];omega
  |succ k=>
   have:=b AA k;simpa[Ba]using this
def BG.lens {D M M' d a}(h:BG D M M' d a)(k:Nat):Z (Ba M k)<=Z (Ba M' k):=by
 obtain⟨n,e,-,-⟩:=h.ext k;rw[e];simp
def BG.same {D M M' d c}(h:BG D M M' d c)(b:tot M'<=tot M)(k:Nat):Ba M' k=Ba M k:=by
 have a:=(PY M M' h.len h.lens).2 b k;obtain⟨n,e,-,-⟩:=h.ext k;rw[e]at a⊢;have:n=[]:=nn a;rw[this,EJ]
def Sf {z g c M d b}(a:BL z g c M d b):∀n∈H1 M,0<=n/\n<=5000:=λn f=>by
 obtain⟨x,e,rfl⟩:=AN.1 f;have:=a.ln x e;omega
def Jt (M):Z (H1 M)=Z M:=by simp[H1]
def XD {M k}(a:k<Z M):((H1 M)[k]?).getD 0=(Z (Ba M (k:Int)):Int):=by
 have b:M[k]?=some M[k]:=AK a;rw[Cp b];simp[H1,a]
def LK (D:Gb)(R:List E3)(b c:MM):Prop:=∀r∈R,∀a,(∀l∈r.A,Lk D (MD b) a l)->MD c r.h.p.toNat (B8 r.h a)
def Yq {N D ν l}(a:l.neg=false)(h:Lk N D ν l):D l.a.p.toNat (B8 l.a ν):=by
 unfold Lk at h;rw[a]at h;simpa using h
def nH {N D ν l}(a:l.neg=true)(h:Lk N D ν l):¬N l.a.p.toNat (B8 l.a ν):=by
 unfold Lk at h;rw[a]at h;simpa using h
def ZO {np ar R D a g M2 F p x}(y:LN np ar R D)(I:Z a=np)(A:BG D a g F p)(E:LK D R a g)(h2:BG D g M2 p x)(B:∀r∈R,DD D g M2 (H1 a) r (Z r.A)):LK D R g M2:=λr n b h=>by
 by_cases u:∀l∈r.A,Lk D (MD a) b l;exact h2.sub (E r n b u);obtain⟨l,t⟩:∃l,¬(l∈r.A->Lk D (MD a) b l):=Classical.not_forall.1 u;have m:l∈r.A:=Classical.byContradiction λf=>t (λc=>absurd c f);have q:¬Lk D (MD a) b l:=λf=>t (λ_=>f);have o:l.neg=false:=by
  cases s:l.neg with
  |false=>rfl
  |true=>
   exfalso;have:=nH s (h l m);exact q (by unfold Lk;rw[s];simpa using this)
 have j:¬MD a l.a.p.toNat (B8 l.a b):=λf=>q (by unfold Lk;rw[o];simpa using f);obtain⟨i,v⟩:=CL m;have z:=(BA.1 v).1;obtain⟨k,C,G⟩:=(y.rw r n).rok.bp l m;refine B r n i l z v o b h ?_;obtain⟨H,e,-,-⟩:=A.ext k;have d:=Yq o (h l m);unfold MD at d j;rw[C]at d j⊢;rw[DK]at d j;rw[DK,XD AA,DK];rw[e]at d⊢;rw[List.drop_left];rcases AW.1 d with c|c;exact absurd c j;exact c
def Zh {R D c a np ar o i}(j:LN np ar R D)(n:BG D c a o i)(g:LK D R c a)(m:tot a<=tot c):NL R D (MD a):=λr d f h=>g r d f (λl e=>by
 have:=h l e;unfold Lk at this⊢;split;rename_i b;rw[if_pos b]at this;exact this;rename_i b;rw[if_neg b]at this;obtain⟨k,p,-⟩:=(j.rw r d).rok.bp l e;unfold MD at this⊢;rw[p]at this⊢;rw[DK]at this⊢;rw[n.same m k]at this
 exact this)
def Sa {np ar R D}(C:LN np ar R D)(om ot b)(bu: -1000000<=b)(br:b<=900000)(M d)(I:Z M=np)(hD:∀k t,MD M k t->D k t)(bw:IA R D M)(b8:Room M d b)(cn: -1000000<=d)(b6:d<=1000000)(rc idr)(a7:EL pK R rc)(b9:Z R<=1000)(z)(hM:BL z om ot M d b):
  ni 84 [ptr om 0,sl idr (Z R) rc] z λx j=>∃M' q,BL j om ot M' q b/\KM om ot M M' z j/\BG D M M' d q/\d<=q/\q<=1000000/\(¬b<q->NL R D (MD M')):=by
 have ck:=EL.length iP a7;have hpl:=hM.pl;have bm:=λ(M:MM) (d:Int) z (h:BL z om ot M d b)=>Sc om ot M d b z h;have b2:=bm M d;have P:AC (Z M=np):=I;have cm:Z M<=np/\np<=Z M:=AA;clear I;refine Z9 43 [] Tryz.func84 ?_;refine m0 ?_;intro yb ya;refine Xi (b2 _ (hM.keep (Xs))) ?_;rintro _ _ ⟨⟨J,rfl⟩,bi⟩;refine mr ?_;rename_i σ0
 refine Ae (λm s j=>∃(k:Nat) (a:MM) (c:Int),m=Z R-k/\k<=Z R/\s 0=ptr om 0/\s 1=sl idr (Z R) rc/\s 4=sl J (Z M) (As (H1 M))/\s 11=sl idr (Z R) rc/\s 12=ic (Z R)/\s 13=ic k/\BL j om ot a c b/\KM om ot M a z j/\c<=1000000/\d<=c/\AC (BG D M a d c/\Room a c b/\(¬b<c->LK D (R.take k) M a))) (Z R)
  ⟨0,M,d,AA,AA,by simp[upd,AL],by simp[upd,AL],AG,by simp[upd,AL],AG,rfl,hM.keep bi,KM.ofKeep bi,b6,AA,BG.refl _ _ _,b8,λ_ r hr=>by simp at hr⟩ ?_
 clear bi b2;rintro m s j ⟨k,a,c,rfl,hk,h0,h1,h4,ci,ch,cg,f,y,v,B,e⟩;by_cases a8:k<Z R
 ·have T:=AK a8;obtain⟨o,ih,G,bc,rr,hd,hB⟩:=wF a7 T;have U:=AR a8;generalize R[k]=r at hd T U hB;have cj:AC (R.take (k+1)=R.take k++[r]):=by rw[AC,AT,T,BN]
  clear T;have ak:Z a=np:=by have:=e.o.1.len;rw[this];exact P.o
  have cf:=λz (h:BL z om ot a c b)=>eV om ot a c b r [my o,ic r.h.p,sl ih (Z r.h.ts) (Ad r.h.ts),sl G (Z r.A) bc] (-1) 0 ⟨o,ih,G,bc,rfl,hB⟩ (by rw[ak];exact (C.rw r U).rok) AA z h;have cc:AC (∀Y,EQ (Mc a (-1) 0 r) Y->∀z,BL z om ot a c b->ni 139 [ptr om 0,ag Y] z λx j=>∃M' q,BL j om ot M' q b/\KM om ot a M' z j/\BG D a M' c q/\Room M' q b/\q<=1000000/\c<=q/\(¬b<q->∀H,(∀(l:Lit) (i:Nat),r.A[i]?=some l->l.neg=false->B8 l.a H∈Zq a (-1) 0 i l)->(∀l∈r.A,l.neg=true->¬D l.a.p.toNat (B8 l.a H))->MD M' r.h.p.toNat (B8 r.h H))):=λY h3 z hh=>
   Zp C om ot b bu br a c ak (e.o.1.inD hD) (bw.gro e.o.1) e.o.2.1 AA v r U (-1) 0 Y h3 z hh
  clear ak;have l1:=f.lo;have l2:=f.lt
  (repeat (refine m0 ?_;intro yb ya;(first|(refine Xi (cf _ (f.keep (Xs))) ?_;rintro _ _ ⟨⟨_,rfl,ih3,ip3,in3,pc3,nc3,rfl,ca,cb⟩,bg⟩;(have a6:=bg.B;have a5:=bg.C;simp only[Ac,Aa]at a6 a5;have K:=(((AD.refl j).new _).put (AU _) _).trans bg;have cd:=cc.o _ ⟨ih3,ip3,in3,pc3,nc3,rfl,ca,cb⟩))|(refine Xi (cd _ (f.keep (Xs))) ?_;rintro _ _ ⟨u,p,W,an,L,bd,bb,ba,N⟩;(have E:AC _:=L;have ao:AC _:=N;clear L N;have am:=(y.trans (KM.ofKeep ((K.new _).put AA _))).trans an)))));refine mr ?_
  have HN:AC (BG D M u d p/\Room u p b/\(¬b<p->LK D (R.take (k+1)) M u)):=by
   refine⟨e.o.1.trans E.o,bd,λA r' bo H a1=>?_⟩;rw[cj.o]at bo;rcases AW.1 bo with S|S
   ·exact E.o.sub (e.o.2.2 AA r' S H a1)
   simp at S;subst S;refine ao.o A H (λl i hl a9=>?_) (λl hl a9=>nH a9 (a1 l hl));have bq:=AY hl;obtain⟨p',b3,-⟩:=(C.rw r' U).rok.bp l bq;unfold Zq;rw[if_neg AA];have:=Yq a9 (a1 l bq);unfold MD at this;rw[b3]at this⊢;exact e.o.1.sub this
  refine⟨Z R-(k+1),AA,k+1,u,p,?_⟩;exact ng HN W am
 have b4:k=Z R:=AA;subst b4;rw[AS]at e;have b1:=bm a c;refine m0 ?_;intro yb ya;refine Xi (b1 _ (f.keep (Xs))) ?_;rintro _ _ ⟨⟨id1,rfl⟩,bh⟩;refine mr ?_;rename_i z1
 refine Ae (λm s j=>∃(g a:MM) (ds c:Int) (ia G:Nat),m=2*(b-c+1).toNat+(if tot g<tot a then 1 else 0)/\s 0=ptr om 0/\s 1=sl idr (Z R) rc/\s 4=sl ia (Z g) (As (H1 g))/\s 8=sl G (Z a) (As (H1 a))/\BL j om ot a c b/\KM om ot M a z j/\c<=1000000/\d<=c/\Z g<=5000/\(∀n∈H1 g,0<=n/\n<=5000)/\AC (Z g=np/\BG D M a d c/\BG D g a ds c/\Room a c b/\(¬b<c->LK D R g a))) (2*(b-c+1).toNat+(if tot M<tot a then 1 else 0))
  ⟨M,a,d,c,J,id1,rfl,AI,AI,AI,AG,f.keep bh,y.trans (KM.ofKeep bh),v,B,hpl,Sf hM,P.o,e.o.1,e.o.1,e.o.2.1,e.o.2.2⟩ ?_
 clear h0 h1 h4 ci ch cg f y v B e bh b1 a8 hk;rintro m s z2 ⟨g,a,ds,c,ia,G,rfl,h0,h1,h4,h8,f,y,v,B,cp,bv,e⟩;have O:=Qm om ot a c b;have Q:=λ(id:Nat) z=>Nv (H1 a) id (by rw[Jt];have:=f.pl;omega) (λn I=>by have:=Sf f n I;omega) z;have X:=λ(id:Nat) z=>Nv (H1 g) id (by rw[Jt];omega) (λn I=>by have:=bv n I;omega) z;rw[show (H1 a).sum=tot a from rfl]at Q;rw[show (H1 g).sum=tot g from rfl]at X;rw[Jt]at Q X;by_cases V:b<c
 ·rw[show decide (b<c)=true from by simpa using V]at O
  refine m0 ?_;intro yb ya;refine Xi (O _ (f.keep (Xs))) ?_;rintro _ _ ⟨rfl,rfl⟩;refine mr ?_
  first|exact⟨_,rfl,a,c,f,y,e.o.2.1,B,v,λh=>absurd V h⟩|exact⟨a,c,f,y,e.o.2.1,B,v,λh=>absurd V h⟩
 rw[show decide (b<c)=false from by simpa using V]at O;by_cases bn:tot g<tot a
 ·have b5:decide (tot a>tot g)=true:=nn bn
  have b0:=λz (h:BL z om ot a c b)=>Uz C om ot b bu br a c (e.o.2.1.len.trans P.o) (e.o.2.1.inD hD) (bw.gro e.o.2.1) e.o.2.2.2.1 AA v rc idr a7 b9 (H1 g) ia (by rw[Jt];exact e.o.1) bv z h;rw[Jt]at b0;rw[if_pos bn]
  repeat' first|refine Z1 ?_|refine Z8 λyb ya=>?_|refine Z4 ?_;clear ya yb|refine Z2 ?_ ?_<;>intro h af<;>try exact Xp|(refine Z5 ?_;first|(refine Xi (O _ (f.keep (Xs))) ?_;rintro _ _ ⟨rfl,rfl⟩)|(refine Xi (Q _ _) ?_;rintro _ _ ⟨rfl,bf⟩;(have K:=bf))|(refine Xi (X _ _) ?_;rintro _ _ ⟨rfl,be⟩;(have F:=K.trans be))|(refine Xi (b0 _ (f.keep (Xs))) ?_;rintro _ _ ⟨u,p,W,an,L,bd,bb,ba,N⟩;(have E:AC _:=L;have ao:AC _:=N;clear L N;have am:=(y.trans (KM.ofKeep F)).trans an;have ce:=bm u p))|(refine Xi (ce _ (W.keep (Xs))) ?_;rintro _ _ ⟨⟨ic3,rfl⟩,bz⟩))|refine Z3 ?_|exact Zt|apply ya.o;clear ya yb
  have b7:=E.o.cnt;refine⟨2*(b-p+1).toNat+(if tot a<tot u then 1 else 0),by split<;>omega,a,u,c,p,G,ic3,?_⟩
  have HN:AC (Z a=np/\BG D M u d p/\BG D a u c p/\Room u p b/\(¬b<p->LK D R a u)):=
   ⟨e.o.2.1.len.trans P.o,e.o.2.1.trans E.o,E.o,bd,λA=>ZO C e.o.1 e.o.2.2.1 (e.o.2.2.2.2 AA) E.o (ao.o A)⟩
  ((repeat' refine Zi ?_ ?_)<;>first|exact Xq|exact HN|exact (W.keep bz)|exact (am.trans (KM.ofKeep bz))|exact f.pl|exact (Sf f)|exact Xs)
 have b5:decide (tot a>tot g)=false:=by simp;omega
 repeat' first|refine Z1 ?_|refine Z8 λyb ya=>?_|refine Z4 ?_;clear ya yb|refine Z2 ?_ ?_<;>intro h af<;>try exact Xp|(refine Z5 ?_;first|(refine Xi (O _ (f.keep (Xs))) ?_;rintro _ _ ⟨rfl,rfl⟩)|(refine Xi (Q _ _) ?_;rintro _ _ ⟨rfl,bf⟩;(have K:=bf))|(refine Xi (X _ _) ?_;rintro _ _ ⟨rfl,be⟩;(have F:=K.trans be)))|refine Z3 ?_|exact Zt|apply ya.o;clear ya yb
 first|exact⟨_,rfl,a,c,f.keep F,y.trans (KM.ofKeep F),e.o.2.1,B,v,λA=>Zh C e.o.2.2.1 (e.o.2.2.2.2 A) AA⟩|exact⟨a,c,f.keep F,y.trans (KM.ofKeep F),e.o.2.1,B,v,λA=>Zh C e.o.2.2.1 (e.o.2.2.2.2 A) AA⟩
def XY {ar a ν k}(u:Z a.ts<=3)(q:Z a.ts=ar k)(h:Sh ar k (B8 a ν)):∀t∈a.ts,∃n:Nat,Ei ν t=(n:Int)/\n<1026:=by
 obtain⟨l,e,s,o⟩:=h;intro t p;obtain⟨i,g⟩:=CL p;have r:=(BA.1 g).1;have b:(a.ts.map (Ei ν))[i]?=some (Ei ν t):=by rw[DC,g];rfl
 have j:i<Z l:=AA;have c:l[i]?=some l[i]:=AK j;have m:Ei ν t=l[i]:=by
  unfold B8 Ej at e;simp only[List.cons.injEq,and_true]at e;obtain⟨d,f,e2⟩:=e;have:i=0\/i=1\/i=2:=AA;rcases this with rfl|rfl|rfl;rw[b,c]at d;exact d;rw[b,c]at f;exact f;rw[b,c]at e2;exact e2
 rw[m];exact o _ (AR j)
def gy {np ar R N}(h:∀r∈R,RW np ar r):NL R N (Sh ar):=λr f d i=>by
 have a:=h r f;refine⟨r.h.ts.map (Ei d),rfl,by rw[BV];exact a.har,λx g=>?_⟩;obtain⟨t,c,rfl⟩:=AN.1 g;obtain⟨k,e⟩:=t;cases k with
 |false=>exact a.hc _ c rfl
 |true=>
  obtain⟨l,b,m,j⟩:=a.safe e (.inl (by rw[AO];exact c));exact XY (a.rok.ba l b) (a.bar l b) (Yq m (i l b)) _ (AO.1 j)
def aZ (t:Tm):Tm:=if t.1=true then (false,1000+t.2)else t
def Fx (a:Dx):Dx:=⟨a.p,a.ts.map aZ⟩
def NP (a:List Tm):Prop:=∀t∈a,-1000000<=t.2/\t.2<=1000000
def R9 (p ids ts)(M:Z ts<=1000)(A:NP ts)(z):ni 157 [ag [ic p,sl ids (Z ts) (Ad ts)]] z λr a=>(∃id,r=ag [ic p,sl id (Z ts) (Ad (ts.map aZ))])/\AD z a:=by
 have L:=Cx ts;refine Z9 30 [.cell 2 122] Tryz.func157 ?_;refine mr ?_
 refine Ae (λm s a=>∃(i f:Nat) (d:oh),m=Z ts-i/\i<=Z ts/\s 2=ptr (z.B+1) 0/\s 3=ptr (z.B+2) 0/\s 10=sl ids (Z ts) (Ad ts)/\s 11=ic (Z ts)/\s 12=ic i/\AD z a/\z.B+2<a.B/\a.C (z.B+1)=[ic 0,nilS]/\a.C (z.B+2)=[ic p,sl f i d]/\Own z a f i/\Z d=i*2/\AC (d=Ad ((ts.take i).map aZ))) (Z ts)
  ⟨0,1,[],AA,AA,AG,AG,AG,AG,rfl,Xs,BJ,?_,?_,Own.nil _ _,nk,by simp[AC,Ad]⟩ ?_
 ·rw[Aj AA,Ah AM,Be AM AM]
 ·rw[show z.B+2=z.B+1+1 from rfl,Ak]
 rintro m s a ⟨i,f,d,rfl,K,G,I,J,Q,P,b,O,N,H,t,o,e⟩;have R:=b.B;by_cases u:i<Z ts
 ·have g:=AK u;obtain⟨r,D⟩:=C3 g;have E:=A _ (AR u);generalize ts[i]=w at D g E;obtain⟨v,j⟩:=w;have q:AC (Ad ((ts.take (i+1)).map aZ)=Ad ((ts.take i).map aZ)++Js (aZ (v,j))):=by
   rw[AC,AT,g];simp[Ad]
  clear g;cases v with
  |true=>
   refine nh ?_;intro yb ya;refine Bo (by first|exact Gl) (((b.new _).put b.B _).put b.B _) (Own.put (Own.put (Own.new t _) _ _) _ _) nr (by rfl) (o) (by rfl) (by rfl) nr AA AA ?_;intro c y l k F n C B;simp only[Ac,Aa]at n;refine Z3 ?_;refine mr ?_;refine⟨Z ts-(i+1),AA,i+1,c,d++[my false,ic (1000+j)],?_⟩
   ((repeat' refine Zi ?_ ?_)<;>first|exact Xq|exact (k.put AA _)|exact (Own.put l _ _)|exact (by rw[AC,q.o,e.o];rfl)|exact Xs)
  |false=>
   refine nh ?_;intro yb ya;refine Bo (by first|exact Gl) ((b.new _).put b.B _) (Own.put (Own.new t _) _ _) nr (by rfl) (o) (by rfl) (by rfl) nr AA AA ?_;intro c y l k F n C B;simp only[Ac,Aa]at n;refine Z3 ?_;refine mr ?_;refine⟨Z ts-(i+1),AA,i+1,c,d++[my false,ic j],?_⟩
   ((repeat' refine Zi ?_ ?_)<;>first|exact Xq|exact (k.put AA _)|exact (Own.put l _ _)|exact (by rw[AC,q.o,e.o];rfl)|exact Xs)
 have x:i=Z ts:=AA;subst x;have e:=e.o;rw[AS]at e;refine mr ?_;exact⟨_,rfl,⟨f,by first|rfl|rw[e]⟩,b.put AA _⟩
def Tr (r c)(C:pK r c)(U:Z r.A<=64)(u:∀l∈r.A,Z l.a.ts<=3/\NP l.a.ts)(z):ni 156 [ag c] z λx b=>(∃id cs,x=sl id (Z r.A) cs/\EL O9 (r.A.map λl=>Fx l.a) cs)/\AD z b:=by
 obtain⟨o,I,A,D,rfl,t⟩:=C;have ax:=EL.length Hk t;refine Z9 22 [.tmp 2] Tryz.func156 ?_;refine mr ?_
 refine Ae (λm s b=>∃(i d:Nat) (a:oh),m=Z r.A-i/\i<=Z r.A/\s 3=sl d i a/\s 8=sl A (Z r.A) D/\s 9=ic (Z r.A)/\s 10=ic i/\AD z b/\Own z b d i/\Z a=i*2/\AC (EL O9 ((r.A.take i).map λl=>Fx l.a) a)) (Z r.A)
  ⟨0,1,[],AA,AA,AG,AG,AG,rfl,Xs,Own.nil _ _,nk,rfl⟩ ?_
 rintro m s b ⟨i,d,a,rfl,X,O,S,T,V,f,y,aw,j⟩;have av:=f.B;by_cases q:i<Z r.A
 ·have g:=AK q;obtain⟨id,J,E⟩:=H8 t g;obtain⟨H,p⟩:=u _ (AR q);generalize r.A[i]=w at E g H p;have B:Z w.a.ts<=1000:=AA;have F:=λz=>R9 w.a.p id w.a.ts B p z;have v:AC ((r.A.take (i+1)).map (λl=>Fx l.a)=(r.A.take i).map (λl=>Fx l.a)++[Fx w.a]):=by
   rw[AC,AT,g];simp
  clear g;refine m0 ?_;intro yb ya;refine Xi (F _) ?_;rintro _ _ ⟨⟨e,rfl⟩,n⟩;(have L:=((f.new _).put f.B _).trans n;have P:=Own.keep (Own.put (Own.new y _) _ _) n);refine m4 ?_;intro k Q M Y K W N R;refine mr ?_;refine⟨Z r.A-(i+1),AA,i+1,k,a++[ic w.a.p,sl e (Z w.a.ts) (Ad (w.a.ts.map aZ))],?_⟩
  ((repeat' refine Zi ?_ ?_)<;>first|exact Xq|exact (by rw[AC,v.o];exact EL.append j.o (EL.single ⟨e,by simp[Fx]⟩))|exact Xs)
 have G:i=Z r.A:=AA;subst G;rw[AS]at j;refine mr ?_
 first|exact⟨_,rfl,⟨d,a,rfl,j.o⟩,f⟩|exact⟨_,rfl,d,a,rfl,j.o⟩
def Fz (n:Int)(l:Lit):Lit:=if l.neg=true then⟨false,⟨l.a.p+n,l.a.ts⟩⟩else l
def MZ (n:Int)(r:E3):E3:=⟨r.h,r.A.map (Fz n)⟩
def Y7 (r c n)(J:pK r c)(hl:Z r.A<=64)(O:∀l∈r.A,0<=l.a.p/\l.a.p<=1000000)(W:0<=n)(ax:n<=1000000)(z):ni 155 [ag c,ic n] z λx b=>(∃C,x=ag C/\pK (MZ n r) C)/\AD z b:=by
 obtain⟨o,A,G,N,rfl,E⟩:=J;have U:=EL.length Hk E;refine Z9 36 [.cell 4 125] Tryz.func155 ?_;refine mr ?_
 refine Ae (λm s b=>∃(i j:Nat) (a:oh),m=Z r.A-i/\i<=Z r.A/\s 1=ic n/\s 4=ptr (z.B+1) 0/\s 5=ptr (z.B+2) 0/\s 12=sl G (Z r.A) N/\s 13=ic (Z r.A)/\s 14=ic i/\AD z b/\z.B+2<b.B/\b.C (z.B+1)=[my false,ic 0,nilS,nilS]/\b.C (z.B+2)=[my false,ic r.h.p,sl A (Z r.h.ts) (Ad r.h.ts),sl j i a]/\Own z b j i/\Z a=i*3/\AC (EL Sq ((r.A.take i).map (Fz n)) a)) (Z r.A)
  ⟨0,1,[],AA,AA,by simp[upd,AL],AG,AG,AG,AG,rfl,Xs,BJ,?_,?_,Own.nil _ _,nk,rfl⟩ ?_
 ·rw[Aj AA,Ah AM,Be AM AM]
 ·rw[show z.B+2=z.B+1+1 from rfl,Ak]
 rintro m s b ⟨i,j,a,rfl,hi,X,h4,R,V,Y,a0,d,S,au,ap,D,F,f⟩;have av:=d.B;by_cases B:i<Z r.A
 ·have k:=AK B;obtain⟨id,T,v⟩:=H8 E k;have H:=O _ (AR B);generalize r.A[i]=w at v k H;have p:AC ((r.A.take (i+1)).map (Fz n)=(r.A.take i).map (Fz n)++[Fz n w]):=by
   rw[AC,AT,k];simp
  clear k;cases g:w.neg with
  |true=>
   rw[g]at v;have u:AC (EL Sq ((r.A.take (i+1)).map (Fz n)) (a++[my false,ic (w.a.p+n),sl id (Z w.a.ts) (Ad w.a.ts)])):=by
    rw[AC,p.o];refine EL.append f.o (EL.single ?_);rw[Fz,if_pos g];exact⟨id,rfl⟩
   clear f p;refine nh ?_;intro yb ya;refine Bo (by first|exact G5) ((((d.new _).put d.B _).put d.B _).put d.B _) (Own.put (Own.put (Own.put (Own.new D _) _ _) _ _) _ _) nr (by rfl) (F) (by rfl) (by rfl) nr AA AA ?_;intro e I q t Q y M K;simp only[Ac,Aa]at y;refine Z3 ?_;refine mr ?_;refine⟨Z r.A-(i+1),AA,i+1,e,a++[my false,ic (w.a.p+n),sl id (Z w.a.ts) (Ad w.a.ts)],?_⟩
   ((repeat' refine Zi ?_ ?_)<;>first|exact Xq|exact (t.put AA _)|exact (Own.put q _ _)|exact u|exact Xs)
  |false=>
   rw[g]at v;have u:AC (EL Sq ((r.A.take (i+1)).map (Fz n)) (a++[my false,ic w.a.p,sl id (Z w.a.ts) (Ad w.a.ts)])):=by
    rw[AC,p.o];refine EL.append f.o (EL.single ?_);rw[Fz,if_neg (by rw[g];simp)];exact⟨id,by rw[g]⟩
   clear f p;refine nh ?_;intro yb ya;refine Bo (by first|exact G5) ((d.new _).put d.B _) (Own.put (Own.new D _) _ _) nr (by rfl) (F) (by rfl) (by rfl) nr AA AA ?_;intro e I q t Q y M K;simp only[Ac,Aa]at y;refine Z3 ?_;refine mr ?_;refine⟨Z r.A-(i+1),AA,i+1,e,a++[my false,ic w.a.p,sl id (Z w.a.ts) (Ad w.a.ts)],?_⟩
   ((repeat' refine Zi ?_ ?_)<;>first|exact Xq|exact (t.put AA _)|exact (Own.put q _ _)|exact u|exact Xs)
 have P:i=Z r.A:=AA;subst P;rw[AS]at f;have L:Z (r.A.map (Fz n))=Z r.A:=nk;refine mr ?_;exact⟨_,rfl,⟨_,rfl,false,A,j,a,by simp only[MZ];rw[L],f.o⟩,d.put AA _⟩
structure GY (np:Nat)(F:List Dx)(M:MM):Prop where
 len:Z M=np
 nd:∀x∈M,x.2.Nodup
 mem:∀(k:Nat) (t:Ck),MD M k t↔∃a∈F,a.p=(k:Int)/\t=C4 a
 tot:tot M<=Z F
def jO {M}{k:Nat}{x}(h:M[k]?=some x):Ba M (k:Int)=x.2:=Cp h
def GY.nil (np):GY np [] (List.replicate np (1,[])):=by
 refine⟨nk,λx d=>?_,λk t=>⟨λh=>?_,λ⟨a,c,_⟩=>by simp at c⟩,?_⟩;rw[(IN.1 d).2];exact GN;exfalso;unfold MD at h;by_cases b:k<np;rw[jO (x:=(1,[])) (by rw[List.getElem?_replicate,if_pos b])]at h;simp at h;unfold Ba at h;simp[b]at h;have:∀n:Nat,Go.Proofs.YtmoeoppbmhfbpabGreatDoorJ.tot (List.replicate n ((1:Nat),([]:List Ck)))=0:=by
  intro n;induction n with
  |zero=>rfl
  |succ n e=>rw[List.replicate_succ,Ey,e];rfl
 rw[this];simp
def GY.has {np F M a}{k:Nat}{x}(h:GY np F M)(m:a.p=(k:Int))(g:M[k]?=some x)(i:C4 a∈x.2):GY np (F++[a]) M:=by
 refine⟨h.len,h.nd,λj t=>?_,by have:=h.tot;simp;omega⟩;rw[h.mem j t];constructor;rintro⟨b,e,f,d⟩;exact⟨b,GK _ e,f,d⟩;rintro⟨b,e,f,d⟩;rcases AW.1 e with c|c;exact⟨b,c,f,d⟩;rw[FY]at c;subst c;have l:j=k:=AA;subst l;refine (h.mem j t).1 ?_;unfold MD;rw[Cp g,d];exact i
def GY.add {np F M a}{k id':Nat}{x}(h:GY np F M)(A:a.p=(k:Int))(m:M[k]?=some x)(q:C4 a∉x.2):GY np (F++[a]) (M.set k (id',x.2++[C4 a])):=by
 have r:k<Z M:=(BA.1 m).1;have n:Ba (M.set k (id',x.2++[C4 a])) (k:Int)=x.2++[C4 a]:=Cp (x:=(id',x.2++[C4 a])) (by rw[GH,if_pos rfl,if_pos r]);have p:∀j:Nat,j≠k->(M.set k (id',x.2++[C4 a]))[j]?=M[j]?:=λj l=>by rw[GH,if_neg (λe=>l e.symm)]
 refine⟨by simp[h.len],λy z=>?_,λj t=>?_,?_⟩;rcases NI z with c|rfl;exact h.nd y c;rw[IP];exact⟨h.nd x (AY m),nk,λu s v o e=>q (by rw[FY]at o;rw[<-o,<-e];exact s)⟩;by_cases l:j=k;subst l;unfold MD;rw[n,AW,FY];have f:=h.mem j t;unfold MD at f;rw[Cp m]at f;rw[f];constructor;rintro (⟨b,g,i,d⟩|c);exact⟨b,GK _ g,i,d⟩;exact⟨a,nk,A,c⟩;rintro⟨b,g,i,d⟩;rcases AW.1 g with c|c;exact .inl ⟨b,c,i,d⟩;rw[FY]at c;subst c;exact .inr d;have f:=h.mem j t;unfold MD Ba at f⊢;rw[DK]at f⊢;rw[p j l,f];constructor;rintro⟨b,g,i,d⟩;exact⟨b,GK _ g,i,d⟩;rintro⟨b,g,i,d⟩;rcases AW.1 g with c|c;exact⟨b,c,i,d⟩;rw[FY]at c;subst c;omega;have:=Q6 M (M.set k (id',x.2++[C4 a])) k 1 nk (λj l=>by rw[p j l]) (λ_=>by rw[n,Cp m];simp) (λc=>AA);have d:=h.tot;simp;omega
structure KJ (z:St)(ot:Nat)(M:MM):Prop where
 oc:z.C ot=Gp M
 lt:ot<z.B
 live:∀x∈M,Live z x.1 (Z x.2)
 inj:∀(i j:Nat) (x y:Nat×List Ck),M[i]?=some x->M[j]?=some y->i≠j->x.1=1\/x.1≠y.1
 t3:∀x∈M,T3 x.2
 ln:∀x∈M,Z x.2<=5000
 pl:Z M<=5000
def KJ.keep {z a b M}(h:KJ z b M)(k:AD z a):KJ a b M:=⟨(k.C _ h.lt).trans h.oc,BZ h.lt k.B,λx c=>(h.live x c).keep k,h.inj,h.t3,h.ln,h.pl⟩
def KJ.mob {z c a M d b}(h:KJ z a M)(e:z.C c=[fx a 0 (Z M),ic d,ic b])(f:c<z.B)(g:c≠a):BL z c a M d b:=⟨e,h.oc,f,h.lt,g,h.live,h.inj,h.t3,h.ln,h.pl⟩
def BL.mpt {z c a M d b}(h:BL z c a M d b):KJ z a M:=⟨h.oc,h.lt,h.live,h.inj,h.t3,h.ln,h.pl⟩
def AD.km {σ0 z c f d M M'}(a:AD σ0 z)(h:KM f d M M' z c)(l:σ0.B<=f)(m:σ0.B<=d)(j:∀x∈M,x.1=1):AD σ0 c:=
 ⟨BI a.B h.B,λo b=>(h.C o (BZ b a.B) AA AA).trans (a.C o b),λo b=>(h.ver o (BZ b a.B) AA AA).trans (a.ver o b),BI a.D h.D,λk g=>(h.top k (BZ g a.D) (λx i e=>by rw[j x i]at e;omega)).trans (a.top k g)⟩
def nC (np):Gp (List.replicate np (1,[]))=List.replicate np nilS:=by
 unfold Gp;rw[List.map_replicate];rfl
def Y1 (np F cs idf b)(V:EL O9 F cs)(hn:np<=5000)(bi:Z F<=1000)(bc:∀a∈F,Z a.ts<=3/\∃k:Nat,a.p=(k:Int)/\k<np)(z):
  ni 49 [ic np,sl idf (Z F) cs,ic b] z λr d=>∃J M,r=ag [fx J 0 np,ic 0,ic b]/\GY np F M/\AD z d/\z.B<=J/\KJ d J M/\(∀x∈M,x.1=1\/z.D+2<=x.1):=by
 have bh:=EL.length Iz V;refine Z9 27 [.cell 6 77] Tryz.func49 ?_;refine mr ?_;obtain⟨c,g⟩:∃τ,τ=((((z.new [nilS,ic 0,ic 0]).new (List.replicate np nilS)).new [nilS,ic 0,ic 0]).put (z.B+1+1) [fx (z.B+1) 0 np,ic 0,ic b]):=⟨_,rfl⟩;rw[<-g];have O:AD z c:=by rw[g];exact Xs
 have bd:c.B=z.B+3:=by rw[g];rfl
 have X:c.C z.B=[nilS,ic 0,ic 0]:=by rw[g,Aj AA,Ah AM,Ah AM,Ao]
 have ax:BL c (z.B+2) (z.B+1) (List.replicate np (1,[])) 0 b:=
  ⟨by rw[g,Ak];simp,by rw[nC,g,Aj AA,Ah AM,Be AM AM],AA,AA,AA,λx f=>by rw[(IN.1 f).2];exact .inl ⟨rfl,rfl⟩,λi j x y f T _=>.inl (by rw[(IN.1 (AY f)).2]),λx f=>by rw[(IN.1 f).2];intro t ht;simp at ht,λx f=>by rw[(IN.1 f).2];simp,nn hn⟩
 refine Ae (λm s d=>∃(i:Nat) (M:MM),m=Z F-i/\i<=Z F/\s 6=ptr z.B 0/\s 7=ptr (z.B+2) 0/\s 14=sl idf (Z F) cs/\s 15=ic (Z F)/\s 16=ic i/\BL d (z.B+2) (z.B+1) M 0 b/\KM (z.B+2) (z.B+1) (List.replicate np (1,[])) M c d/\d.C z.B=[nilS,ic 0,ic 0]/\AC (GY np (F.take i) M)) (Z F)
  ⟨0,List.replicate np (1,[]),AA,AA,AG,AG,AG,AG,AG,ax,KM.ofKeep (AD.refl _),X,GY.nil np⟩ ?_
 clear ax X g;rintro m s d ⟨i,M,rfl,hi,h6,h7,bo,bn,bm,q,C,U,n⟩;have be:=C.B;by_cases Y:i<Z F
 ·have H:=AK Y;obtain⟨id,rr,hd⟩:=Ke V H;obtain⟨K,k,E,bg⟩:=bc _ (AR Y);generalize F[i]=a at H hd K E;have G:=n.o.len;have f:=AK (l:=M) (i:=k) AA;generalize M[k]'AA=x at f;have S:AC (F.take (i+1)=F.take i++[a]):=by rw[AC,AT,H,BN]
  clear H;have a5:Z x.2<5000:=by
   have h1:=n.o.tot;have h2:(Z x.2:Int)<=Go.Proofs.YtmoeoppbmhfbpabGreatDoorJ.tot M:=by
    have hg:∀(M:MM) (k:Nat) (x:Nat×List Ck),M[k]?=some x->(Z x.2:Int)<=Go.Proofs.YtmoeoppbmhfbpabGreatDoorJ.tot M:=by
     intro M;induction M with
     |nil=>intro k x h;simp at h
     |cons y M L=>
      intro k x h;rw[Ey];have hp:∀M:MM,0<=Go.Proofs.YtmoeoppbmhfbpabGreatDoorJ.tot M:=by
       intro M;induction M with
       |nil=>exact Int.le_refl _
       |cons y M L=>rw[Ey];omega
      cases k with
      |zero=>simp at h;subst h;have:=hp M;omega
      |succ k=>have:=L k x (nn h);omega
    exact hg M k x f
   rw[CN]at h1;omega
  have B:=λz (h:BL z (c.B-1) (c.B-2) M 0 b)=>Jq (c.B-1) (c.B-2) M 0 b a id k x K E f z h;have Q:=λz (h:BL z (c.B-1) (c.B-2) M 0 b)=>Y4 (c.B-1) (c.B-2) M 0 b a id k x K E f a5 z h;rw[show c.B-1=z.B+2 by omega,show c.B-2=z.B+1 by omega]at B Q;have P:AC (M[k]?=some x):=f;have N:AC (a.p=(k:Int)):=E;clear f E G;by_cases v:C4 a∈x.2
  ·rw[show decide (C4 a∈x.2)=true by simpa using v]at B;have I:AC (GY np (F.take (i+1)) M):=by rw[AC,S.o];exact n.o.has N.o P.o v
   clear v n;have D:AD d ((d.new [ic 0,nilS]).put d.B [ic a.p,sl id (Z a.ts) (Ad a.ts)]):=((AD.refl d).new _).put (AU _) _;refine m0 ?_;intro yb ya;refine Xi (B _ (q.keep D)) ?_;rintro _ _ ⟨rfl,A⟩;(have u:=D.trans A);refine mr ?_;refine⟨Z F-(i+1),AA,i+1,M,?_⟩
   ((repeat' refine Zi ?_ ?_)<;>first|exact Xq|exact I|exact (q.keep u)|exact (C.trans (KM.ofKeep u))|exact (by rw[u.C _ AA,U])|exact Xs)
  rw[show decide (C4 a∈x.2)=false by simpa using v]at B;have I:AC (∀o,GY np (F.take (i+1)) (M.set k (o,x.2++[C4 a]))):=λo=>by rw[S.o];exact n.o.add N.o P.o v
  clear v n;have D:AD d ((d.new [ic 0,nilS]).put d.B [ic a.p,sl id (Z a.ts) (Ad a.ts)]):=((AD.refl d).new _).put (AU _) _;have a6:∀p,p<d.B+1->((d.new [ic 0,nilS]).put d.B [ic a.p,sl id (Z a.ts) (Ad a.ts)]).C p=((d.new [ic 0,nilS]).put d.B [ic a.p,sl id (Z a.ts) (Ad a.ts)]).C p:=λp _=>rfl;clear a6
  (repeat (refine m0 ?_;intro yb ya;(first|(refine Xi (B _ (q.keep D)) ?_;rintro _ _ ⟨rfl,A⟩;(have u:=D.trans A;have an:=A.C;have ao:=A.B;simp only[Ac,Aa]at ao an))|(refine Xi (Q _ (q.keep u)) ?_;rintro _ _ ⟨o,ba,W⟩))));refine mr ?_
  rename_i z2 z3;have au:=(C.trans (KM.ofKeep u)).trans W;have a7:z3.C z.B=[nilS,ic 0,ic 0]:=by rw[W.C _ AA AA AA,u.C _ AA,U]
  refine⟨Z F-(i+1),AA,i+1,M.set k (o,x.2++[C4 a]),?_⟩
  ((repeat' refine Zi ?_ ?_)<;>first|exact Xq|exact (I.o o)|exact ba|exact au|exact a7|exact Xs)
 have a9:i=Z F:=AA;subst a9;have n:=n.o;rw[AS]at n;have G:=n.len;have a8:=q.ob;rw[G]at a8;have bf:=q.lo;have HI:AC _:=n;have HM:AC _:=q;have R:AC _:=C;clear n q C G;refine mr ?_;have bb:=AD.km O R.o AA AA (λx f=>by rw[(IN.1 f).2]);refine⟨_,rfl,z.B+1,M,rfl,HI.o,bb.put AA _,AA,?_,λx f=>?_⟩
 ·have h:=HM.o.mpt;exact⟨by rw[Oh AA];exact h.oc,h.lt,h.live,h.inj,h.t3,h.ln,h.pl⟩
 have hnt:=O.D;rcases R.o.mid x f with⟨y,T,e⟩|e|e
 ·rw[(IN.1 T).2]at e;exact .inl e.symm
 ·exact .inl e
 exact .inr AA
def Eg (N:ol)(a:AE):Dx:=⟨(N.idxOf a.B:Nat),a.A.map Aq⟩
def E6 (N:ol)(a:AE):Lit:=⟨a.nt,Eg N a⟩
def Ce (N:ol)(x:AB):E3:=⟨Eg N x.h,x.A.map (E6 N)⟩
def Jr (ts):Ad (ts.map Aq)=A0 ts:=by
 unfold Ad A0;rw[JG];rfl
def tF {N}:∀{l:oq} {b:oh},EL (PL N) l b->EL Sq (l.map (E6 N)) b
 |[],b,h=>h
 |a::l,b,h=>by
  obtain⟨f,e,⟨-,c,rfl⟩,d,rfl⟩:=h;exact⟨_,e,⟨c,by simp[E6,Eg,Jr]⟩,tF d,rfl⟩
def jw {N x c}(h:PI N x c):pK (Ce N x) c:=by
 obtain⟨e,d,id,b,a,rfl⟩:=h;exact⟨x.o,d,id,b,by simp[Ce,Eg,Jr],tF a⟩
def BS (R:List E3)(F:List Dx):Gb:=λk t=>∀D:Gb,KG R D->(∀a∈F,D a.p.toNat (C4 a))->D k t
def BS.cl (R F):KG R (BS R F):=λr c b h D a e=>a r c b (λl d=>h l d D a e)
def BS.fact {R F a}(h:a∈F):BS R F a.p.toNat (C4 a):=λD _ b=>b a h
def i7 {np ar R}(h:∀r∈R,RW np ar r)(a:∀r∈R,∀l∈r.A,l.neg=false):KG R (Sh ar):=(iE (N:=Sh ar) a).1 (gy h)
def aD (R:List E3)(F:List Dx)(k:Nat)(h:Ck)(b:Bool):Prop:=
 ∃M:MM,(∀x∈M,x.2.Nodup)/\(∀j t,MD M j t->BS R F j t)/\(if tot M<=200 then (∀j t,BS R F j t->MD M j t)/\(b=true↔MD M k h)else b=false)
def BG.nodup {D M M' d j}(h:BG D M M' d j)(o:∀x∈M,x.2.Nodup):∀x∈M',x.2.Nodup:=λx i=>by
 obtain⟨k,f⟩:=CL i;obtain⟨q,e,p,n⟩:=h.ext k;rw[Cp f]at e;have g:k<Z M:=by rw[<-h.len];exact (BA.1 f).1
 have c:M[k]?=some M[k]:=AK g;rw[Cp c]at e;rw[e,IP];refine⟨o _ (AR g),p,λa m b l e2=>?_⟩;have:=(n b l).2;rw[Cp c]at this;exact this (e2 ▸ m)
def YT {R F np M M' g k h b}(i:GY np F M)(o:∀a∈F,∃k:Nat,a.p=(k:Int))(e:BG (BS R F) M M' 0 g)(n:¬(200-tot M)<g->KG R (MD M'))(c:if g<=200-tot M then (b=true↔MD M' k h)else b=false):aD R F k h b:=by
 refine⟨M',e.nodup i.nd,λj t f=>?_,?_⟩;refine e.inD (λj t f=>?_) j t f;obtain⟨a,d,r,e2⟩:=(i.mem j t).1 f;have:=BS.fact (R:=R) d;rw[r,DK]at this;rw[e2];exact this;have s:=e.cnt;by_cases l:tot M'<=200;rw[if_pos l];rw[if_pos AA]at c;refine⟨λj t p=>p (MD M') (n AA) (λa d=>?_),c⟩;obtain⟨q,m⟩:=o a d;refine e.sub ?_;rw[m,DK];exact (i.mem q _).2 ⟨a,d,m,rfl⟩;rw[if_neg l];rw[if_neg AA]at c;exact c
def AD.km2 {σ0 z c f d M M'}(a:AD σ0 z)(h:KM f d M M' z c)(m:σ0.B<=f)(n:σ0.B<=d)(l:∀x∈M,x.1=1\/σ0.D+2<=x.1):AD σ0 c:=
 ⟨BI a.B h.B,λo b=>(h.C o (BZ b a.B) AA AA).trans (a.C o b),λo b=>(h.ver o (BZ b a.B) AA AA).trans (a.ver o b),BI a.D h.D,λk g=>(h.top k (BZ g a.D) (λx i e=>by rcases l x i with j|j<;>omega)).trans (a.top k g)⟩
def qA:∀M:MM,0<=tot M
 |[]=>Int.le_refl _
 |y::M=>by rw[Ey];have:=qA M;omega
def uM:∀(M:MM) (k:Nat) (x:Nat×List Ck),M[k]?=some x->(Z x.2:Int)<=tot M
 |[],k,x,h=>by simp at h
 |y::M,k,x,h=>by
  rw[Ey];have a:=qA M;cases k with
  |zero=>simp at h;subst h;omega
  |succ k=>have:=uM M k x (nn h);omega
def Ed (N:ol)(x:AB):E3:=MZ (Z N:Int) (Ce N x)
def Fy (N:ol)(x:AB):List Dx:=(Ed N x).A.map λl=>Fx l.a
structure OJ (N:ol)(l:n0)(ar:Nat->Nat):Prop where
 b5:∀y∈l,Z y.A<=5
 rw':∀y∈l,y.o=false->RW (2*Z N) ar (Ed N y)
 sm:∀y∈l,y.o=false->NP (Ed N y).h.ts/\∀k∈(Ed N y).A,NP k.a.ts
 sh:∀y∈l,y.o=false->∀a∈Fy N y,Sh ar a.p.toNat (C4 a)
def f9 (N:ol)(p):N.idxOf p<=Z N:=List.idxOf_le_length
def aV (N l cs)(idn I n:Nat)(ar x)(hB:Bk N l cs)(P:OJ N l ar)(hx:l[n]?=some x)(v:x.o=false)(z):
  ni 102 [Cq N idn l I cs,ic n] z λr z'=>∃b,r=my b/\aD ((oth l n (Z l)).map (Ed N)) (Fy N x) (Ed N x).h.p.toNat (C4 (Fx (Ed N x).h)) b/\AD z z':=by
 have ea:=EL.length Ew hB.el;have dl:=hB.len;have ee:=hB.nm;have hE:=hB.el;have d5:=(BA.1 hx).1;have ax:=AY hx;obtain⟨G,ih,id,b,rr,hb,hd⟩:=Ih hE hx;have ca:∀y c,y∈l->PI N y c->∀z,ni 155 [ag c,ic (Z N)] z λr z'=>(∃Y,r=ag Y/\pK (Ed N y) Y)/\AD z z':=λy c D hc z=>
  Y7 (Ce N y) c (Z N) (jw hc) (by simp only[Ce,BV];have:=P.b5 y D;omega) (λk f=>by
   obtain⟨a,-,rfl⟩:=AN.1 f;have:=f9 N a.B;simp only[E6,Eg]
   omega) AA AA z
 have bw:=λz=>ca x _ ax (PI.of (ih:=ih) (id:=id) G hb) z;simp only[v]at bw;have W:=P.rw' x ax v;have cj:Z (Ed N x).A=Z x.A:=by simp[Ed,MZ,Ce]
 have eb:=P.b5 x ax;have b9:=λc (hc:pK (Ed N x) c) z=>Tr (Ed N x) c hc AA (λk f=>⟨W.rok.ba k f,(P.sm x ax v).2 k f⟩) z;have bm:Z (Fy N x)=Z (Ed N x).A:=by simp[Fy]
 have bn:∀a∈Fy N x,Z a.ts<=3/\∃k:Nat,a.p=(k:Int)/\k<2*Z N:=λa O=>by
  obtain⟨k,f,rfl⟩:=AN.1 O;exact⟨by simp only[Fx,BV];exact W.rok.ba k f,W.rok.bp k f⟩
 have a5:=λcs' S (hF:EL O9 (Fy N x) cs') z=>Y1 (2*Z N) (Fy N x) cs' S 200 hF AA AA bn z;rw[bm]at a5;have dk:(2:Int)*(Z N:Int)=((2*Z N:Nat):Int):=AA;have d6:(n:Int)<(Z l:Int):=AA;generalize ck:Ed N x=d at bw b9 a5 cj bm bn W;generalize cx:Fy N x=T at a5 bm bn;have c6:AC _:=ck;have da:AC _:=cx;have dp:Z d.A<=5:=AA;have ei:Z T<=5:=AA;clear ck cx cj bm;unfold Cq;refine Z9 66 [.tmp 4] Tryz.func102 ?_
 repeat' first|refine Z1 ?_|refine Z8 λyb ya=>?_|refine Z4 ?_;clear ya yb|refine Z2 ?_ ?_<;>intro h ac<;>try exact Xp|refine Z6 ?_;intro idn zn ak au ae ab ad aa|(refine Z5 ?_;first|(refine Xi (bw _) ?_;rintro _ _ ⟨⟨_,rfl,bh⟩,bu⟩;(have bg:=bh;obtain⟨ro,p,F,H,rfl,ec⟩:=bh;have be:=b9 _ bg;have b3:=bu.B;simp only[Aa]at b3))|(refine Xi (be _) ?_;rintro _ _ ⟨⟨S,fc,rfl,cz⟩,J⟩;(have bf:EL O9 T fc:=(by rw[<-da.o];unfold Fy;rw[c6.o];exact cz);have a4:=a5 fc S bf;have b2:=J.B;simp only[Ac,Aa]at b2))|(refine Xi (a4 _) ?_;rintro _ _ ⟨A,M,rfl,br,bc,d4,b4,a6⟩;(have df:=bc.B)))|refine Z3 ?_|exact Zt|apply ya.o;clear ya yb
 rename_i U z2 g;obtain⟨V,a0⟩:∃τ,τ=((g.new [nilS,ic 0,ic 0]).put g.B [fx A 0 (2*Z N),ic 0,ic 200]):=⟨_,rfl⟩;rw[<-a0];have ct:AD z U:=((AD.refl z).new _).trans bu;have b8:AD z z2:=((ct.new _).put AA _).trans J;have cr:AD z g:=b8.trans bc;have af:AD g V:=by rw[a0];exact ((AD.refl g).new _).put (AU _) _
 have cv:AD z V:=cr.trans af;have n4:V.B=g.B+1:=by rw[a0];rfl
 have a7:=br.len;have cc:V.C U.B=[my ro,ic d.h.p,sl p (Z d.h.ts) (Ad d.h.ts),sl F (Z d.A) H]:=by rw[af.C _ AA,bc.C _ AA,J.C _ BJ,Ak]
 have obk:V.C z.B=[sl idn (Z N) (N.map str),sl I (Z l) cs]:=by rw[af.C _ AA,bc.C _ AA,J.C _ BJ,Aj AA,Ah AA,bu.C _ AM,Ao]
 have di:=b4.lt;have a8:BL V g.B A M 0 200:=(b4.keep af).mob (by rw[a0,Ak,a7]) AA AA;have dr:∀y∈M,y.1=1\/z.D+2<=y.1:=λy D=>by have:=b8.D;rcases a6 y D with h|h<;>omega
 have d3:=qA M;have d2:tot M<=5:=by have:=br.tot;omega
 have c5:=Sc g.B A M 0 200 V a8;have bo:=λ(id:Nat) z=>Nv (H1 M) id (by rw[Jt];omega) (λn hn=>by have:=Sf a8 n hn;omega) z;rw[show (H1 M).sum=tot M from rfl]at bo;rw[Jt,a7]at bo;have a3:=a8.ob;have c8:AC _:=br;have c9:AC _:=a8;clear a0 bu J bc ct b8 cr b4 a6 br a8 cz bf a4 a5 b9 be bw bg;refine A2 (Q:=λe s' u=>e= .normal/\s' 1=ic n/\s' 2=ptr z.B 0/\s' 5=ic (Z N)/\s' 6=ptr U.B 0/\s' 7=ptr g.B 0/\AD z u/\g.B<u.B/\u.C z.B=[sl idn (Z N) (N.map str),sl I (Z l) cs]/\u.C U.B=[my ro,ic d.h.p,sl p (Z d.h.ts) (Ad d.h.ts),sl F (Z d.A) H]/\BL u g.B A M 0 (200-tot M)) ?_ ?_
 ·refine Ar Ag (λ_=>True) [6] [0,1] 5 (nv 7 3) AH (λ_ _ _ h=>by cases h.1) ?_;intro yb ya;refine Z3 ?_;refine ya.o _ ?_;clear ya yb;refine Ai (i:=2) AH ?_;refine Am ?_;intro yb ya;refine Z3 ?_;refine AF.mono c5 ?_;rintro _ z5 ⟨⟨ic0,rfl⟩,a9⟩;refine Z3 ?_;refine ya.o _ _ ⟨Al a9,?_⟩;clear ya yb;refine Ai (i:=3) AH ?_;refine Am ?_;intro yb ya;refine Z3 ?_;refine AF.mono (bo _ _) ?_;rintro _ z6 ⟨rfl,dv⟩;have E:=a9.trans dv;have b1:=E.B;have d0:z6.C g.B=[fx A 0 (Z M),ic 0,ic 200]:=by rw[E.C _ AA,a3]
  refine Z3 ?_;refine ya.o _ _ ⟨Al E,?_⟩;clear ya yb;refine Ai (i:=4) AH ?_;refine Am ?_;intro yb ya;refine Z3 ?_;refine ya.o _ _ ⟨Al E,?_⟩;clear ya yb;refine Ai (i:=5) AH ?_;refine Am ?_;intro yb ya;refine Z3 ?_;refine ya.o _ _ ⟨Al E,?_⟩;clear ya yb;refine Ai (i:=6) AH ?_;refine Am ?_;intro yb ya;refine Z3 ?_;refine ya.o _ _ ⟨A3 rfl,?_⟩;clear ya yb;refine Aw AH ⟨rfl,by simp[upd,AL],AG,AG,AG,AG,(cv.trans E).put AA _,by simp only[Ac];omega,?_,?_,?_⟩
  ·rw[Aj AA,E.C _ AA,obk]
  ·rw[Aj AA,E.C _ AA,cc]
  have G:=(c9.o.keep E).mpt;exact KJ.mob ⟨by rw[Aj AA];exact G.oc,G.lt,G.live,G.inj,G.t3,G.ln,G.pl⟩ (by rw[Ak,a7]) (by simp only[Ac];omega) AA
 rintro e s z5 ⟨rfl,g1,g2,g5,g6,g7,a9,d7,obk5,b0,cn⟩;clear c5 bo a3 c9 cv af cc obk n4;have de:=a9.B;have dy:AC _:=cn;clear cn;refine mr ?_
 refine Ae (λm s z'=>∃(q i8:Nat) (L:n0) (B:oh),m=Z l-q/\q<=Z l/\s 1=ic n/\s 5=ic (Z N)/\s 6=ptr U.B 0/\s 7=ptr g.B 0/\s 8=sl i8 (Z L) B/\s 34=sl I (Z l) cs/\s 35=ic (Z l)/\s 36=ic q/\AD z5 z'/\Own z5 z' i8 (Z L)/\Z B=Z L*4/\Z L<=q/\AC (L=oth l n q/\EL pK (L.map (Ed N)) B)) (Z l)
  ⟨0,1,[],[],AA,AA,AI,AI,AI,AI,AG,AG,AG,AG,AD.refl _,Own.nil _ _,rfl,nk,by simp[oth],rfl⟩ ?_
 clear g1 g2 g5 g6 g7;rintro m s z6 ⟨q,i8,L,B,rfl,hq,h1,h5,h6,h7,h8,em,ek,ej,C,hO,d1,eg,K⟩;have dd:=C.B;by_cases cg:q<Z l
 ·have ah:=AK cg;obtain⟨cf,jh,jd,jb,r2,ch,dm⟩:=Ih hE ah;have cd:=AR cg;generalize l[q]=y at ah ch dm cf cd;have X:AC _:=mR (n:=n) ah;have bv:=λz=>ca y _ cd (PI.of (ih:=jh) (id:=jd) cf ch) z;clear ah;by_cases ay:q=n
  ·have dj:((q:Int) !=(n:Int))=false:=by simp[ay]
   have HN:AC (L=oth l n (q+1)/\EL pK (L.map (Ed N)) B):=⟨by rw[X.o,if_pos (.inl ay),EJ];exact K.o.1,K.o.2⟩;clear ay X bv;refine mr ?_;refine⟨Z l-(q+1),AA,q+1,i8,L,B,?_⟩
   ((repeat' refine Zi ?_ ?_)<;>first|exact Xq|exact HN|exact ((C.new _).put C.B _)|exact (Own.put (Own.new hO _) _ _)|exact Xs)
  have dj:((q:Int) !=(n:Int))=true:=by simp;omega
  cases an:y.o with
  |true=>
   have HN:AC (L=oth l n (q+1)/\EL pK (L.map (Ed N)) B):=⟨by rw[X.o,if_pos (.inr an),EJ];exact K.o.1,K.o.2⟩;clear ay X bv;refine mr ?_;refine⟨Z l-(q+1),AA,q+1,i8,L,B,?_⟩
   ((repeat' refine Zi ?_ ?_)<;>first|exact Xq|exact HN|exact ((C.new _).put C.B _)|exact (Own.put (Own.new hO _) _ _)|exact Xs)
  |false=>
   simp only[an]at bv;have HN:AC (∀Y,pK (Ed N y) Y->L++[y]=oth l n (q+1)/\EL pK ((L++[y]).map (Ed N)) (B++Y)):=λY dn=>⟨by rw[X.o,if_neg (by simp[ay,an]),K.o.1],by rw[EU];exact EL.append K.o.2 (EL.single dn)⟩;clear ay X;refine m0 ?_;intro yb ya;refine Xi (bv _) ?_;rintro _ _ ⟨⟨_,rfl,bh⟩,J⟩;(have dx:AC _:=HN.o _ bh;obtain⟨ro2,rih2,rib2,rbc2,rfl,-⟩:=bh;have eh:=((C.new _).put C.B _).trans J;have ed:=Own.keep (Own.put (Own.new hO _) _ _) J);refine m4 ?_;intro idn zn ak au ae ab ad aa;refine mr ?_;refine⟨Z l-(q+1),AA,q+1,idn,L++[y],B++[my ro2,ic (Ed N y).h.p,sl rih2 (Z (Ed N y).h.ts) (Ad (Ed N y).h.ts),sl rib2 (Z (Ed N y).A) rbc2],?_⟩
   ((repeat' refine Zi ?_ ?_)<;>first|exact Xq|exact dx|exact (by rw[AX];exact ak)|exact Xs)
 have dh:q=Z l:=AA;subst dh;obtain⟨b7,cp⟩:=K.o;have ao:∀r∈L.map (Ed N),RW (2*Z N) ar r:=λr hr=>by
  obtain⟨y,D,rfl⟩:=AN.1 hr;rw[b7]at D;exact P.rw' y (E8 D).1 (E8 D).2
 have ai:∀r∈L.map (Ed N),∀k∈r.A,k.neg=false:=λr hr k f=>by
  obtain⟨y,D,rfl⟩:=AN.1 hr;obtain⟨k0,-,rfl⟩:=AN.1 f;unfold Fz;split
  ·rfl
  rename_i h;simpa using h
 have bd:LN (2*Z N) ar (L.map (Ed N)) (BS (L.map (Ed N)) T):=⟨ao,(iE ai).2 (BS.cl _ _),λk t h=>h (Sh ar) (i7 ao ai) (λa O=>P.sh x ax v a (by rw[da.o];exact O))⟩;have cm:∀k t,MD M k t->BS (L.map (Ed N)) T k t:=λk t f=>by
  obtain⟨a,O,e1,e2⟩:=(c8.o.mem k t).1 f;have:=BS.fact (R:=L.map (Ed N)) O;rw[e1,DK]at this;rw[e2];exact this
 have dq:Room M 0 (200-tot M):=λy D=>by
  obtain⟨k,f⟩:=CL D;have:=uM M k y f;omega
 have cy:=λz (h:BL z g.B A M 0 (200-tot M))=>Sa bd g.B A (200-tot M) AA AA M 0 a7 cm (λr hr k f hn=>by rw[ai r hr k f]at hn;cases hn) dq AA AA B i8 cp (by rw[BV];omega) z h;rw[BV]at cy;have ds:BL z6 g.B A M 0 (200-tot M):=dy.o.keep C;have bz:z6.C U.B=[my ro,ic d.h.p,sl p (Z d.h.ts) (Ad d.h.ts),sl F (Z d.A) H]:=by rw[C.C _ AA,b0]
 have dt:=a9.trans C;have dz:AC _:=b7;have c7:AC (∀(o:MM) (j:Int) (bb:Bool),BG (BS (L.map (Ed N)) T) M o 0 j->(¬(200-tot M)<j->KG (L.map (Ed N)) (MD o))->(if j<=200-tot M then (bb=true↔MD o d.h.p.toNat (C4 (Fx d.h)))else bb=false)->aD ((oth l n (Z l)).map (Ed N)) T d.h.p.toNat (C4 (Fx d.h)) bb):=λo j bb h1 h2 h3=>by
  rw[<-dz.o];exact YT c8.o (λa O=>⟨_,(bn a O).2.choose_spec.1⟩) h1 h2 h3
 have dw:=λz=>R9 d.h.p p d.h.ts (by have:=W.rok.hd;omega) (by have:=(P.sm x ax v).1;rw[c6.o]at this;exact this) z;clear b7 cp bd cm K ca ao;refine m0 ?_;intro yb ya;refine Xi (cy _ ds) ?_;rintro _ _ ⟨o,j,b6,av,cw,d9,-,ci⟩;(have cb:AC _:=cw;have db:AC _:=λh=>(iE ai).1 (ci h);clear cw ci);refine nh ?_;intro yb ya;rename_i z7;have b1:=av.B;have dc:z7.C U.B=[my ro,ic d.h.p,sl p (Z d.h.ts) (Ad d.h.ts),sl F (Z d.A) H]:=by rw[av.C _ AA AA AA,bz]
 have cq:AD z z7:=AD.km2 dt av AA AA dr;have bq:=Qm g.B A o j (200-tot M);by_cases ce:200-tot M<j
 ·rw[show decide (200-tot M<j)=true by simpa using ce]at bq;have HR:AC _:=c7.o o j false cb.o db.o (by rw[if_neg AA])
  refine mz ?_;refine Xi (bq _ b6) ?_;rintro _ _ ⟨rfl,rfl⟩;refine mr ?_
  first|exact⟨_,rfl,false,rfl,HR.o,cq⟩|exact⟨_,rfl,false,rfl,HR.o⟩
 rw[show decide (200-tot M<j)=false by simpa using ce]at bq;obtain⟨k,f,d8⟩:=W.rok.hp;have ef:Z o=2*Z N:=by rw[cb.o.len];exact a7
 have bi:=AK (l:=o) (i:=k) AA;generalize o[k]'AA=x' at bi;have aw:=λid z (h:BL z g.B A o j (200-tot M))=>Jq g.B A o j (200-tot M) (Fx d.h) id k x' (by simp only[Fx,BV];exact W.rok.hd) f bi z h
 have HR:AC (aD ((oth l n (Z l)).map (Ed N)) T d.h.p.toNat (C4 (Fx d.h)) (decide (C4 (Fx d.h)∈x'.2))):=c7.o o j _ cb.o db.o (by
  rw[if_pos AA,f,DK];unfold MD;rw[Cp bi]
  simp)
 generalize decide (C4 (Fx d.h)∈x'.2)=bb at aw HR;simp only[Fx,BV]at aw;clear bi f
 (repeat (refine mz ?_;(first|(refine Xi (bq _ b6) ?_;rintro _ _ ⟨rfl,rfl⟩)|(refine Xi (dw _) ?_;rintro _ _ ⟨⟨idh,rfl⟩,cu⟩)|(refine Xi (aw _ _ (b6.keep cu)) ?_;rintro _ _ ⟨rfl,du⟩))));refine mr ?_
 first|exact⟨_,rfl,_,rfl,HR.o,(cq.trans cu).trans du⟩|exact⟨_,rfl,_,rfl,HR.o⟩
def gE {α:Type}:∀{l m:List α},l.Nodup->(∀a∈l,a∈m)->Z l<=Z m
 |[],m,_,_=>nk
 |a::l,m,h,e=>by
  obtain⟨s,t,rfl⟩:=List.append_of_mem (e a nk);have f:=List.nodup_cons.1 h
  have:=gE (l:=l) (m:=s++t) f.2 (λb d=>by
   have:=e b (by simp[d]);rcases AW.1 this with c|c;exact GK _ c;rcases BD.1 c with rfl|c;exact absurd d f.1
   exact LI _ c)
  simp only[BQ,AX]at this⊢;omega
def Oq {α j:Type}{f:α->j}:∀{l:List α},l.Nodup->(∀a∈l,∀b∈l,f a=f b->a=b)->(l.map f).Nodup
 |[],_,_=>GN
 |a::l,h,i=>by
  have g:=List.nodup_cons.1 h;rw[CC,List.nodup_cons];refine⟨λm=>?_,Oq g.2 λb d c k=>i b (by simp[d]) c (by simp[k])⟩;obtain⟨b,d,e⟩:=AN.1 m;have:=i b (by simp[d]) a nk e;exact g.1 (this ▸ d)
def Lf:Nat->MM->List (Nat×Ck)
 |_,[]=>[]
 |k,x::M=>x.2.map (λt=>(k,t))++Lf (k+1) M
def O0:∀(M:MM) (k:Nat),(Z (Lf k M):Int)=tot M
 |[],k=>rfl
 |x::M,k=>by rw[Lf,Ey,<-O0 M (k+1)];simp
def Le:∀(M:MM) (k j:Nat) (t:Ck),(j,t)∈Lf k M↔k<=j/\MD M (j-k) t
 |[],k,j,t=>by simp[Lf,MD,Ba]
 |x::M,k,j,t=>by
  rw[Lf,AW,Le M (k+1) j t];unfold MD Ba;simp only[DK];constructor;rintro (h|⟨c,a⟩);obtain⟨u,b,e⟩:=AN.1 h;cases e;simpa using b;refine⟨AA,?_⟩;rw[show j-k=(j-(k+1))+1 by omega,List.getElem?_cons_succ];exact a;rintro⟨c,a⟩;by_cases e:j=k;subst e;left;rw[GX,List.getElem?_cons_zero]at a;exact AN.2 ⟨t,nn a,rfl⟩;right;rw[show j-k=(j-(k+1))+1 by omega,List.getElem?_cons_succ]at a;exact⟨AA,a⟩
def Ug:∀(M:MM) (k:Nat),(∀x∈M,x.2.Nodup)->(Lf k M).Nodup
 |[],k,_=>GN
 |x::M,k,h=>by
  rw[Lf,IP];refine⟨Oq (h x nk) (λa _ b _ e=>by cases e;rfl),Ug M (k+1) (λy f=>h y (by simp[f])),λa d b c e=>?_⟩;obtain⟨t,-,rfl⟩:=AN.1 d;obtain⟨j,u⟩:=b;cases e;have:=((Le M (k+1) k t).1 c).1;omega
def PX {M}{α:Type}{A}{e:α->Nat×Ck}(y:∀x∈M,x.2.Nodup)(h:∀k t,MD M k t->∃a∈A,e a=(k,t)):tot M<=Z A:=by
 have r:∀p∈Lf 0 M,∃a∈A,e a=p:=λp c=>by
  obtain⟨k,t⟩:=p;exact h k t ((Le M 0 k t).1 c).2
 have d:∃g:Nat×Ck->Option α,∀p∈Lf 0 M,∃a∈A,g p=some a/\e a=p:=by
  refine⟨λp=>Classical.epsilon λo=>∃a∈A,o=some a/\e a=p,λp c=>?_⟩;obtain⟨a,i,u⟩:=r p c;have:=Classical.epsilon_spec (p:=λo=>∃a∈A,o=some a/\e a=p) ⟨some a,a,i,rfl,u⟩;exact this
 obtain⟨g,d⟩:=d
 have f:((Lf 0 M).map g).Nodup:=Oq (Ug M 0 y) (λp c q n l=>by
  obtain⟨a,-,f,j⟩:=d p c;obtain⟨b,-,v,z⟩:=d q n;rw[f,v]at l;cases l
  exact j.symm.trans z)
 have j:=gE (m:=A.map some) f (λo s=>by
  obtain⟨p,c,rfl⟩:=AN.1 s;obtain⟨a,i,f,-⟩:=d p c
  rw[f];exact AN.2 ⟨a,i,rfl⟩)
 rw[BV,BV]at j;rw[<-O0 M 0];omega
def f7 {M}{P:List (Nat×Ck)}(b:P.Nodup)(h:∀p∈P,MD M p.1 p.2):(Z P:Int)<=tot M:=by
 have:=gE (m:=Lf 0 M) b (λp a=>by
  obtain⟨k,t⟩:=p
  exact (Le M 0 k t).2 ⟨AA,h _ a⟩)
 rw[<-O0 M 0];omega
def Sz {l m}(f:Z l=Z m)(g:Z l<=3)(h:Ej l=Ej m):l=m:=by
 refine FL λi=>?_;by_cases e:i<Z l;unfold Ej at h;simp only[List.cons.injEq,and_true]at h;obtain⟨d,c,e2⟩:=h;have b:=AK e;have a:=AK (l:=m) (i:=i) AA;have:i=0\/i=1\/i=2:=AA;rcases this with rfl|rfl|rfl;rw[b,a]at d;rw[b,a];exact congrArg some d;rw[b,a]at c;rw[b,a];exact congrArg some c;rw[b,a]at e2;rw[b,a];exact congrArg some e2;rw[FD AA,FD AA]
end Go.Proofs.YtmoeoppbmhfbpabGreatDoorJ
