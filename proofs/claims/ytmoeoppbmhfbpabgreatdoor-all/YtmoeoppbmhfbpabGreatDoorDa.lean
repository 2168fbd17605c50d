import Derived.Test.YtmoeoppbmhfbpabGreatDoorD
set_option maxHeartbeats 32000000
set_option maxRecDepth 100000
set_option linter.all false
open List
open List renaming length->Z
namespace Go.Proofs.YtmoeoppbmhfbpabGreatDoorJ
open Go.Abs Tryz
def lv (ar:Nat)(t:Ck):Prop:=∀i,i<ar->∃k:Nat,t[i]?=some (k:Int)/\k<1026
def QN (q:AZ):Prop:=∀p∈q.A,∀t∈p.A,lv (Z p.a.ts) t
def Hi (f:Nat->Bool):oh:=(range 1026).map λi=>my (f i)
def oI:Pg 1026 (.bool false)=Hi λ_=>false:=by rw[Pg,Hi];rw[map_const'];simp[cst1]
def sR (f):Z (Hi f)=1026:=by simp[Hi]
def sS (f){k}(h:k<1026):(Hi f)[k]?=some (my (f k)):=by simp[Hi,h]
def sQ (f){k}(h:k<1026)(b):(Hi f).set k (my b)=Hi λj=>if j=k then b else f j:=by apply FL;intro n;rw[GH];by_cases a:n<1026;by_cases c:k=n;subst c;simp[Hi,a];have:n≠k:=λe=>c e.symm;simp[Hi,a,c,this];have:k≠n:=L;simp[Hi,a,this]
def wQ (a:Int)(acc:List Int)(t:Ck):List Int:=if Iu t a∈acc then acc else acc++[Iu t a]
def aL (a:List Ck)(b:Int):List Int:=a.foldl (wQ b) []
def Mo (q:AZ)(v:Int):List Int:=match q.A.find? (λp=>Bm p.a.ts v)with
 |some p=>aL p.A (Jp p.a.ts v)
 |none=>[]
def yP {α:Type}{f}{l:List α}{i x}(d:∀y∈l.take i,f y=false)(j:l[i]?=some x)(b:f x):l.find? f=some x:=by
 have e:=(BA.1 j);let⟨a,c⟩:=e
 conv=>lhs;rw[<-KD i l]
 rw[find?_append,KB.2 (λy g=>by rw[d y g];simp),ET a,c];simp[b]
def L4 (q c v)(hc:EQ q c)(I:Qt q)(hN:QN q)(d):ni 189 [ag c,Y v] d λa4 σ'=>(∃id,a4=X2 id (Mo q v))/\W d σ':=by
 obtain⟨ih,ip,am,pc,nc,rfl,a1,-⟩:=hc;have ak:=r.length Ex a1;have hl:=I.pl;have hz:=oI;refine wl func189 ?_;refine X ?_
 refine wn [1,5,6,14,15] 16 (Z q.A) (λi s σ'=>W d σ'/\d.B+1<σ'.B/\σ'.C (d.B+1)=Hi (λ_=>false)/\V (∀p∈q.A.take i,Bm p.a.ts v=false)) ⟨Xs,AM,?_,by simp[V]⟩ ?_
 ·rw[Be AM AM]
 rintro i s σ' _ ⟨h1,h5,h6,bm,bi⟩ bh ⟨g,a7,M,C⟩;have a6:=g.B;by_cases F:i<Z q.A
 ·have l:=AK F;obtain⟨id,Q,a4,hd⟩:=F0 a1 l;have bg:=I.pa _ (AR F);have bf:=I.pt _ (AR F);have T:=I.p3 _ (AR F);have a8:=hN _ (AR F);generalize q.A[i]=w at hd l bg bf T a8;have bc:Z w.a.ts<=1000:=L;have m:=λd=>Gw w.a.p id w.a.ts v bc d;have t:W d ((σ'.new [Y 0,H,H]).put σ'.B [Y w.a.p,X1 id w.a.ts,sl Q (Z w.A) (Fg w.A)]):=(g.new _).put g.B _;cases K:Bm w.a.ts v
  ·have n:Jp w.a.ts v= -1:=K1 (by simpa[Bm]using K);have D:V (∀p∈q.A.take (i+1),Bm p.a.ts v=false):=by
    rw[V,AT,l,BN];intro p n;rcases AW.1 n with n|n
    ·exact C.o p n
    simp at n;subst n;exact K
   rw[n]at m;clear n l C;refine m0 ?_;intro yb ya;refine Xi (m _) ?_;rintro _ _ ⟨rfl,u⟩;(have N:=u.B;have G:=u.C;have P:=t.trans u;simp only[Ac,Aa]at N G);refine X ?_;skip;exact m9 D
  obtain⟨o,ax,S⟩:=K3 K;have A:V (Mo q v=aL w.A o):=by rw[V,Mo,yP C.o l K];simp only[S]
  rw[S]at m;clear S l C;have ba:o<3:=L;have bb:((o:Int)== -1)=false:=nk;have bo:=J4 T;refine m0 ?_;intro yb ya;refine Xi (m _) ?_;rintro _ _ ⟨rfl,u⟩;(have N:=u.B;have G:=u.C;have P:=t.trans u;simp only[Ac,Aa]at N G);refine X ?_;rename_i ac;have o1:ac.C (d.B+1)=Hi (λ_=>false):=by rw[G _ L,Aj L,Ah L,M]
  clear G u
  refine Ae (λa3 s b=>∃(j z:Nat) (a:List Int) (f:Nat->Bool),a3=Z w.A-j/\j<=Z w.A/\s 5=X2 z a/\s 6=ptr (d.B+1) 0/\s 9=Y o/\s 27=sl Q (Z w.A) (Fg w.A)/\s 28=Y (Z w.A)/\s 29=Y j/\W d b/\d.B+1<b.B/\b.C (d.B+1)=Hi f/\J d b z (Z a)/\Z a<=j/\V (a=aL (w.A.take j) o/\∀k:Nat,f k=true↔(k:Int)∈a)) (Z w.A)
   ⟨0,1,[],λ_=>false,L,L,by simp[upd, *,As],AI,AG,AG,AG,rfl,P,L,o1,J.nil _ _,nk,by simp[aL],nk⟩ ?_
  clear o1 h1 h5 h6 bm bi bh g a7 M a6 P t;rintro a3 s b ⟨j,z,a,f,rfl,hj,h5,h6,h9,bu,br,bq,g,a7,M,hO,bn,y⟩;have a6:=g.B;have af:=B9 a;by_cases ao:j<Z w.A
  ·have l:=AK ao;obtain⟨E,r2,be⟩:=Kw T l;obtain⟨x,e,a0⟩:=a8 _ (AR ao) o ax;generalize w.A[j]=a5 at be l E e;have bp:=Qk e;have D:V (aL (w.A.take (j+1)) o=if (x:Int)∈a then a else a++[(x:Int)]):=by
    have a9:Iu a5 o=(x:Int):=by simp[Iu,e]
    rw[V,AT,l,BN,aL,foldl_append,y.o.1];simp only[FW,foldl_nil,wQ,a9];rfl
   clear l e;have f1:=Io E;have f2:=Ow E;have f3:=Jm E;have f4:=Qj E;have f5:=Fo a5;have f6:=eM E;have g1:=sS f a0;have g2:=sQ f a0 true;have g3:=sR f;by_cases B:(x:Int)∈a
   ·have U:f x=true:=(y.o.2 x).2 B;have R:V (a=aL (w.A.take (j+1)) o/\∀k:Nat,f k=true↔(k:Int)∈a):=⟨by rw[D.o,if_pos B],y.o.2⟩;rw[U]at g1;clear y D B g2
    refine X ?_;refine⟨Z w.A-(j+1),L,j+1,z,a,f,?_⟩
    ((repeat' refine Zi ?_ ?_)<;>first|exact Xq|exact (J.put (J.new hO _) _ _)|exact R|exact Xs)
   have U:f x=false:=by
    cases h:f x with
    |false=>rfl
    |true=>exact absurd ((y.o.2 x).1 h) B
   have R:V (a++[(x:Int)]=aL (w.A.take (j+1)) o/\∀k:Nat,(if k=x then true else f k)=true↔(k:Int)∈a++[(x:Int)]):=by
    refine⟨by rw[D.o,if_neg B],λk=>?_⟩;have h2:=y.o.2 k;by_cases a2:k=x
    ·subst a2;simp
    rw[if_neg a2,h2];have:¬(k:Int)=(x:Int):=L;simp[this]
   rw[U]at g1;clear y D B;refine nh ?_;intro yb ya;refine Bo (by first|exact S3) (((g.new _).put g.B _).put L _) (J.put (J.put (J.new hO _) _ _) _ _) nr (by rfl) (by rw[af,Nat.mul_one]) (by rfl) (by rfl) nr L L ?_;intro ah an ai aj ae aa ad ab;simp only[Ac,Aa]at aa;refine Z3 ?_;refine X ?_;refine⟨Z w.A-(j+1),L,j+1,ah,a++[(x:Int)],λk=>if k=x then true else f k,?_⟩
   ((repeat' refine Zi ?_ ?_)<;>first|exact Xq|exact (nn ai)|exact R|exact (by simp[As])|exact Xs)
  have bd:j=Z w.A:=L;subst bd;obtain⟨x1,-⟩:=y.o;rw[AS]at x1;rw[<-x1]at A;have A:=A.o;refine X ?_
  first|exact⟨_,rfl,⟨z,rfl⟩,g⟩|exact⟨_,rfl,⟨z,by rw[A]⟩,g⟩|exact⟨_,rfl,⟨z,rfl⟩⟩|exact⟨_,rfl,z,rfl⟩
 obtain rfl:i=Z q.A:=L;rw[AS]at C;have A:Mo q v=[]:=by
  unfold Mo;rw[KB.2 (λp n=>by rw[C.o p n];simp)]
 refine X ?_
 exact⟨_,rfl,1,rfl⟩
def Ie {P t z b E σ0 a id l n m c xs e K}(B:P0 P t=some (z,b,E))(g:W σ0 a)(u:J σ0 a id n)
  (v:0<z) (f:Z E=z) (p:Z xs=n*z) (A:Z e=m*z) (C:e.all flat) (q:0<m) (D:(n+m)*b<=140737488355328) (y:n+m<=1099511627776)
  (h:∀id' σ',J σ0 σ' id' (n+m)->W σ0 σ'->σ'.C=a.C->σ'.B=a.B->σ'.ver=a.ver->a.D<σ'.D->(∀i k,J σ0 a i k->(id=1\/id≠i)->J σ0 σ' i k/\(id'=1\/id'≠i))->K (sl id' (n+m) (xs++e)) σ'):Jx P t t (sl id n xs) (sl l m e) (a.lay c) K:=by
 unfold Jx iK;left;simp only[B];rw[if_pos ⟨trivial,v,f,p,A,C,q,D,y⟩];obtain⟨rfl,rfl⟩|⟨k,rfl,x,S,M,N⟩:=u;obtain rfl:xs=[]:=GG (nn p)
 have:=h ((a.lay c).D+2) ((a.lay c).lay m) (by rw[DY];exact J.made (g.lay c) q) ((g.lay c).lay m) rfl rfl rfl (by simp[St.lay];omega) (λi k d _=>by
  refine⟨d.keep (((W.refl _).lay _).lay _),?_⟩;right;obtain⟨rfl,-⟩|⟨j,rfl,-,T,-⟩:=d;simp[St.lay]
  simp[St.lay];omega)
 simpa using this;have s:(a.lay c).top k=n:=by simp[St.lay];rw[if_neg L];exact M
 simp only;rw[if_pos ⟨s,N⟩]
 exact h (k+2) _ (.inr ⟨k,rfl,x,by simp[St.raise,St.lay];omega,by simp[St.raise],L⟩) ((g.lay c).raise x _) rfl rfl rfl (by simp[St.raise,St.lay]) (λi j d o=>by
  have o:k+2≠i:=by rcases o with h|h<;>omega
  refine⟨?_,.inr o⟩;obtain d|⟨Q,rfl,F,R,G,I⟩:=d;exact .inl d
  exact .inr ⟨Q,rfl,F,by simp[St.raise,St.lay];omega,by simp[St.raise,St.lay];rw[if_neg L,if_neg L];exact G,I⟩)
def Fl (f:Nat->Nat):oh:=(range 1026).map λi=>Y (f i:Nat)
def mW:Pg 1026 (.int .i64 0)=Fl λ_=>0:=by rw[Pg,Fl];rw[map_const'];simp[cst1]
def Yn (f):Z (Fl f)=1026:=by simp[Fl]
def Yo (f){k}(h:k<1026):(Fl f)[k]?=some (Y (f k:Nat)):=by simp[Fl,h]
def rI (f){k}(h:k<1026)(b):(Fl f).set k (Y (b:Nat))=Fl λj=>if j=k then b else f j:=by apply FL;intro n;rw[GH];by_cases a:n<1026;by_cases c:k=n;subst c;simp[Fl,a];have:n≠k:=λe=>c e.symm;simp[Fl,a,c,this];have:k≠n:=L;simp[Fl,a,this]
def NZ (v:Int)(n:Int)(p:Part):Bool:=p.A.any λt=>Iu t (Jp p.a.ts v)==n
def Eb (l:List Part)(v n:Int):Bool:=l.all λp=>!Bm p.a.ts v||NZ v n p
def G1 (l:List Part)(v:Int)(p:Part):Part:=if Bm p.a.ts v=true then⟨p.a,p.A.filter λt=>Eb l v (Iu t (Jp p.a.ts v))⟩else p
def Ge (q:AZ)(v:Int):AZ:={q with A:=q.A.map (G1 q.A v)}
def gF (f:Nat->Nat)(a:Nat)(b:Int)(l:List Ck)(k:Nat):Nat:=if f k=a/\l.any (λt=>Iu t b==(k:Int))=true then a+1 else f k
def YI {f a b l t}{x:Nat}(g:Iu t b=(x:Int)):gF f a b (l++[t])=λk=>if k=x/\gF f a b l x=a then a+1 else gF f a b l k:=by
 funext k;have d:(l++[t]).any (λt=>Iu t b==(k:Int))=(l.any (λt=>Iu t b==(k:Int))||decide (k=x)):=by
  rw[MH];simp only[any_cons,any_nil,Bool.or_false,g];congr 1;by_cases e:k=x;subst e;simp;have:¬(x:Int)=(k:Int):=L;simp[e,this]
 unfold gF;rw[d];by_cases e:k=x;subst e;by_cases c:f k=a;cases i:l.any (λt=>Iu t b==(k:Int))<;>simp[c];simp[c];simp[e]
def gf (f a b):gF f a b []=f:=by funext k;simp[gF]
def oD (q c v)(hc:EQ q c)(hq:Qt q)(hN:QN q)(b):ni 255 [ag c,Y v] b λau σ'=>(∃c',au=ag c'/\EQ (Ge q v) c')/\W b σ':=by
 obtain⟨a1,ip,G,pc,nc,rfl,hP,cf⟩:=hc;have ax:=r.length Ex hP;have hl:=hq.pl;have hz:=mW;refine Z9 113 [.cell 4 191] func255 ?_;refine X ?_
 refine Ae (λm s σ'=>∃(i a:Nat) (f:Nat->Nat),m=Z q.A-i/\i<=Z q.A/\s 1=Y v/\s 2=ptr b.B 0/\s 4=ptr (b.B+1) 0/\s 5=ptr (b.B+2) 0/\s 6=Y a/\s 20=sl ip (Z q.A) pc/\s 21=Y (Z q.A)/\s 22=Y i/\W b σ'/\b.B+2<σ'.B/\σ'.C b.B=[Y q.h.p,X1 a1 q.h.ts,sl ip (Z q.A) pc,sl G (Z q.B) nc]/\σ'.C (b.B+1)=[Y 0,H,H,H]/\σ'.C (b.B+2)=Fl f/\a<=i/\(∀k,f k<=a)/\V (∀k,f k=a↔Eb (q.A.take i) v (k:Int)=true)) (Z q.A)
  ⟨0,0,λ_=>0,L,L,by simp[upd,AL],AG,AG,AG,AG,AG,AG,rfl,Xs,AM,?_,?_,?_,L,nk,by simp[V,Eb]⟩ ?_
 ·rw[Ah AM,Ah AM,Ao]
 ·rw[Ah AM,Be AM AM]
 ·rw[Be AM AM]
 rintro m s σ' ⟨i,a,f,rfl,hi,N,h2,h4,h5,h6,bw,bv,bu,z,a4,a9,Q,R,cq,ba,hA⟩;have bz:=z.B;by_cases I:i<Z q.A
 ·have B:=AK I;obtain⟨id,D,au,hd⟩:=F0 hP B;have bo:=hq.pa _ (AR I);have bn:=hq.pt _ (AR I);have a5:=hq.p3 _ (AR I);have a8:=hN _ (AR I);generalize q.A[i]=w at hd B bo bn a5 a8;have bh:Z w.a.ts<=1000:=L;have U:=λb=>Gw w.a.p id w.a.ts v bh b;have a7:W b ((σ'.new [Y 0,H,H]).put σ'.B [Y w.a.p,X1 id w.a.ts,sl D (Z w.A) (Fg w.A)]):=(z.new _).put z.B _;have bb:V (∀ai,Eb (q.A.take (i+1)) v ai=(Eb (q.A.take i) v ai&&(!Bm w.a.ts v||NZ v ai w))):=by
   intro ai;rw[AT,B,BN,Eb,all_append];simp[Eb]
  clear B;cases S:Bm w.a.ts v with
  |false=>
   have hp:Jp w.a.ts v= -1:=K1 (by simpa[Bm]using S);have HS:V (∀k,f k=a↔Eb (q.A.take (i+1)) v (k:Int)=true):=by
    intro k;rw[bb.o,S,hA.o k];simp
   rw[hp]at U;clear hp hA bb;refine m0 ?_;intro yb ya;refine Xi (U _) ?_;rintro _ _ ⟨rfl,A⟩;(have ao:=A.B;have E:=A.C;have a6:=a7.trans A;simp only[Ac,Aa]at ao E);refine X ?_;refine⟨Z q.A-(i+1),L,i+1,a,f,?_⟩;exact m9 HS
  |true=>
   obtain⟨d,a0,a3⟩:=K3 S;have HS:V (∀k,gF f a d w.A k=a+1↔Eb (q.A.take (i+1)) v (k:Int)=true):=by
    intro k;have N:=hA.o k;have h2:=ba k;rw[bb.o,S,BM,<-N];simp only[IY,MA,NZ,a3];unfold gF;by_cases hc:f k=a/\w.A.any (λt=>Iu t d==(k:Int))=true
    ·rw[if_pos hc];exact⟨λ_=>hc,λ_=>rfl⟩
    rw[if_neg hc];exact⟨λh=>L,λh=>absurd h hc⟩
   have ci:V (∀k,gF f a d w.A k<=a+1):=by
    intro k;have h2:=ba k;unfold gF;split<;>omega
   rw[a3]at U;clear a3 hA bb;have be:d<3:=L;have bg:((d:Int)== -1)=false:=nk;have b7:=J4 a5;refine m0 ?_;intro yb ya;refine Xi (U _) ?_;rintro _ _ ⟨rfl,A⟩;(have ao:=A.B;have E:=A.C;have a6:=a7.trans A;simp only[Ac,Aa]at ao E);refine X ?_;rename_i an;have p0:an.C b.B=[Y q.h.p,X1 a1 q.h.ts,sl ip (Z q.A) pc,sl G (Z q.B) nc]:=by rw[E _ L,Aj L,Ah L,a9]
   have p1:an.C (b.B+1)=[Y 0,H,H,H]:=by rw[E _ L,Aj L,Ah L,Q]
   have p2:an.C (b.B+2)=Fl f:=by rw[E _ L,Aj L,Ah L,R]
   clear E A
   refine Ae (λm s a2=>∃(j:Nat) (g:Nat->Nat),m=Z w.A-j/\j<=Z w.A/\s 1=Y v/\s 2=ptr b.B 0/\s 4=ptr (b.B+1) 0/\s 5=ptr (b.B+2) 0/\s 6=Y a/\s 9=Y d/\s 20=sl ip (Z q.A) pc/\s 21=Y (Z q.A)/\s 22=Y i/\s 33=sl D (Z w.A) (Fg w.A)/\s 34=Y (Z w.A)/\s 35=Y j/\W b a2/\b.B+2<a2.B/\a2.C b.B=[Y q.h.p,X1 a1 q.h.ts,sl ip (Z q.A) pc,sl G (Z q.B) nc]/\a2.C (b.B+1)=[Y 0,H,H,H]/\a2.C (b.B+2)=Fl g/\(∀k,g k<=a+1)/\V (g=gF f a d (w.A.take j))) (Z w.A)
    ⟨0,f,L,L,AI,AI,AI,AI,AI,AG,AI,AI,AI,AG,AG,rfl,a6,L,p0,p1,p2,λk=>by have:=ba k;omega,by simp[V,gf]⟩ ?_
   clear p0 p1 p2 N h2 h4 h5 h6 bw bv bu z a4 a9 Q R bz a6 a7;rintro m s a2 ⟨j,g,rfl,hj,N,h2,h4,h5,h6,h9,bw,bv,bu,cx,cw,cv,z,a4,a9,Q,R,cd,y⟩;have bz:=z.B;by_cases ap:j<Z w.A
   ·have B:=AK ap;obtain⟨e,r2,bm⟩:=Kw a5 B;obtain⟨x,T,hx⟩:=a8 _ (AR ap) d a0;generalize w.A[j]=t at bm B e T;have cc:=Qk T;have HG:V (gF f a d (w.A.take (j+1))=λk=>if k=x/\g x=a then a+1 else g k):=by
     have bd:Iu t d=(x:Int):=by simp[Iu,T]
     rw[V,AT,B,BN,YI bd,y.o]
    clear B T y;have f1:=Io e;have f2:=Ow e;have f3:=Jm e;have f4:=Qj e;have f5:=Fo t;have f6:=eM e;have g1:=Yo g hx;have g2:=rI g hx (a+1);have g3:=Yn g;by_cases K:g x=a
    ·have n:V ((λk=>if k=x then a+1 else g k)=gF f a d (w.A.take (j+1))):=by
      rw[V,HG.o];funext k;simp[K]
     have hb:((g x:Int)==(a:Int))=true:=by simp[K]
     rw[K]at g1;have ay:((a+1:Nat):Int)=(a:Int)+1:=L;rw[ay]at g2;clear ay HG;refine X ?_;refine⟨Z w.A-(j+1),L,j+1,λk=>if k=x then a+1 else g k,?_⟩
     ((repeat' refine Zi ?_ ?_)<;>first|exact Xq|exact n|exact (λk=>by have:=cd k;dsimp only;split<;>omega)|exact Xs)
    have n:V (g=gF f a d (w.A.take (j+1))):=by
     rw[V,HG.o];funext k;simp[K]
    have hb:((g x:Int)==(a:Int))=false:=by simp;omega
    clear HG K g2;refine X ?_;refine⟨Z w.A-(j+1),L,j+1,g,?_⟩;exact m9 n
   have bi:j=Z w.A:=L;subst bi;have y:=y.o;rw[AS]at y;subst y;refine X ?_;refine⟨Z q.A-(i+1),L,i+1,a+1,gF f a d w.A,?_⟩;exact nf HS ci.o
 have cb:i=Z q.A:=L;subst cb;rw[AS]at hA;clear hi;refine X ?_
 refine Ae (λm s C=>∃(k P:Nat) (M:oh),m=Z q.A-k/\k<=Z q.A/\s 1=Y v/\s 4=ptr (b.B+1) 0/\s 5=ptr (b.B+2) 0/\s 6=Y a/\s 12=ptr σ'.B 0/\s 63=sl ip (Z q.A) pc/\s 64=Y (Z q.A)/\s 65=Y k/\W b C/\σ'.B<C.B/\C.C (b.B+1)=[Y 0,H,H,H]/\C.C (b.B+2)=Fl f/\C.C σ'.B=[Y q.h.p,X1 a1 q.h.ts,sl P k M,sl G (Z q.B) nc]/\J b C P k/\Z M=k*3/\V (r Oa ((q.A.take k).map (G1 q.A v)) M)) (Z q.A)
  ⟨0,1,[],L,L,AI,AI,AI,AI,AG,AG,AG,rfl,(z.new _).put z.B _,BJ,?_,?_,?_,J.nil _ _,nk,by simp[V,r]⟩ ?_
 ·rw[Aj L,Ah L,Q]
 ·rw[Aj L,Ah L,R]
 ·rw[Ak]
 have ch:=a4;clear N h2 h4 h5 h6 bw bv bu I a9 Q R a4 z;generalize br:σ'.B=ad at*
 clear br;rintro m s C ⟨k,P,M,rfl,hk,N,h4,h5,h6,b4,b3,b2,b1,z,a4,Q,R,bc,hO,cm,y⟩;have ao:=z.B;by_cases I:k<Z q.A
 ·have B:=AK I;obtain⟨id,D,au,hd⟩:=F0 hP B;have bo:=hq.pa _ (AR I);have bn:=hq.pt _ (AR I);have a5:=hq.p3 _ (AR I);have a8:=hN _ (AR I);generalize q.A[k]=w at hd B bo bn a5 a8;have bh:Z w.a.ts<=1000:=L;have U:=λb=>Gw w.a.p id w.a.ts v bh b;have a7:W b ((C.new [Y 0,H,H]).put C.B [Y w.a.p,X1 id w.a.ts,sl D (Z w.A) (Fg w.A)]):=(z.new _).put z.B _;have HM:V ((q.A.take (k+1)).map (G1 q.A v)=(q.A.take k).map (G1 q.A v)++[G1 q.A v w]):=by
   rw[V,AT,B];simp
  clear B;cases S:Bm w.a.ts v with
  |false=>
   have hp:Jp w.a.ts v= -1:=K1 (by simpa[Bm]using S);have n:V (r Oa ((q.A.take (k+1)).map (G1 q.A v)) (M++[Y w.a.p,X1 id w.a.ts,sl D (Z w.A) (Fg w.A)])):=by
    rw[V,HM.o];refine r.append y.o (r.single ?_);rw[G1,if_neg (by rw[S];simp)];exact⟨id,D,rfl⟩
   rw[hp]at U;clear hp HM y;refine m0 ?_;intro yb ya;refine Xi (U _) ?_;rintro _ _ ⟨rfl,A⟩;(have az:=A.B;have E:=A.C;have a6:=a7.trans A;have bp:=J.keep (J.put (J.new hO _) _ _) A;simp only[Ac,Aa]at az E);refine m5 ?_;intro yb ya;intro ac av aj ak ae aa af ab;refine X ?_;refine⟨Z q.A-(k+1),L,k+1,ac,M++[Y w.a.p,X1 id w.a.ts,sl D (Z w.A) (Fg w.A)],?_⟩
   ((repeat' refine Zi ?_ ?_)<;>first|exact Xq|exact (ak.put L _)|exact (J.put aj _ _)|exact n|exact Xs)
  |true=>
   obtain⟨d,a0,a3⟩:=K3 S;have cj:V (G1 q.A v w=⟨w.a,w.A.filter λt=>Eb q.A v (Iu t d)⟩):=by rw[V,G1,if_pos S,a3]
   rw[a3]at U;clear a3;have be:d<3:=L;have bg:((d:Int)== -1)=false:=nk;have b7:=J4 a5;have ce:V _:=y;refine m0 ?_;intro yb ya;refine Xi (U _) ?_;rintro _ _ ⟨rfl,A⟩;(have az:=A.B;have E:=A.C;have a6:=a7.trans A;have bp:=J.keep (J.put (J.new hO _) _ _) A;simp only[Ac,Aa]at az E);refine X ?_;rename_i F;have p1:F.C (b.B+1)=[Y 0,H,H,H]:=by rw[E _ L,Aj L,Ah L,Q]
   have p2:F.C (b.B+2)=Fl f:=by rw[E _ L,Aj L,Ah L,R]
   have p3:F.C ad=[Y q.h.p,X1 a1 q.h.ts,sl P k M,sl G (Z q.B) nc]:=by rw[E _ L,Aj L,Ah L,bc]
   clear E A
   refine Ae (λm s l=>∃(j u:Nat) (o:List Ck) (p:oh),m=Z w.A-j/\j<=Z w.A/\s 1=Y v/\s 4=ptr (b.B+1) 0/\s 5=ptr (b.B+2) 0/\s 6=Y a/\s 12=ptr ad 0/\s 15=Y d/\s 16=ptr F.B 0/\s 63=sl ip (Z q.A) pc/\s 64=Y (Z q.A)/\s 65=Y k/\s 85=sl D (Z w.A) (Fg w.A)/\s 86=Y (Z w.A)/\s 87=Y j/\W b l/\F.B<l.B/\l.C (b.B+1)=[Y 0,H,H,H]/\l.C (b.B+2)=Fl f/\l.C ad=[Y q.h.p,X1 a1 q.h.ts,sl P k M,sl G (Z q.B) nc]/\l.C F.B=[Y w.a.p,X1 id w.a.ts,sl u (Z o) p]/\J b l P k/\J b l u (Z o)/\(u=1\/u≠P)/\Z o<=j/\Z p=Z o*3/\V (p=Fg o/\o=(w.A.take j).filter λt=>Eb q.A v (Iu t d))) (Z w.A)
    ⟨0,1,[],[],L,L,AI,AI,AI,AI,AI,AG,AG,AI,AI,AI,AG,AG,rfl,(a6.new _).put L _,BJ,?_,?_,?_,?_,J.put (J.new bp _) _ _,J.nil _ _,.inl rfl,nk,nk,⟨rfl,nk⟩⟩ ?_
   ·rw[Aj L,Ah L,p1]
   ·rw[Aj L,Ah L,p2]
   ·rw[Aj L,Ah L,p3]
   ·rw[Ak];simp
   have c5:ad<F.B:=L;clear p1 p2 p3 N h4 h5 h6 b4 b3 b2 b1 z a4 Q R bc hO bp a6 a7 y ao;rintro m s l ⟨j,u,o,p,rfl,hj,N,h4,h5,h6,b4,cz,cy,b3,b2,b1,cu,ct,cr,z,a4,Q,R,bc,ck,b0,hO,b9,cn,b6,y⟩;have b5:=z.B;by_cases ap:j<Z w.A
   ·have B:=AK ap;obtain⟨e,r2,bm⟩:=Kw a5 B;obtain⟨x,T,hx⟩:=a8 _ (AR ap) d a0;generalize w.A[j]=t at bm B e T;have cc:=Qk T;have HF:V ((w.A.take (j+1)).filter (λt=>Eb q.A v (Iu t d))=(w.A.take j).filter (λt=>Eb q.A v (Iu t d))++if f x=a then [t]else []):=by
     have bd:Iu t d=(x:Int):=by simp[Iu,T]
     rw[V,AT,B,BN,Em,bd];congr 1;have N:=hA.o x;by_cases ah:f x=a
     ·rw[if_pos ah,if_pos (N.1 ah)]
     rw[if_neg ah,if_neg (λh=>ah (N.2 h))]
    clear B T;have f1:=Io e;have f2:=Ow e;have f3:=Jm e;have f4:=Qj e;have f5:=Fo t;have f6:=eM e;have g1:=Yo f hx;have g3:=Yn f;have cp:=ba x;by_cases K:f x=a
    ·have n:V (p++As t=Fg (o++[t])/\o++[t]=(w.A.take (j+1)).filter λt=>Eb q.A v (Iu t d)):=by
      obtain⟨x1,x2⟩:=y.o;exact⟨by rw[x1,Q9],by rw[HF.o,if_pos K,x2]⟩
     have hb:((f x:Int)==(a:Int))=true:=by simp[K]
     clear y HF K;refine nh ?_;intro yb ya;refine Ie (by first|exact G6|exact Ee) ((z.new _).put z.B _) (J.put (J.new hO _) _ _) nr (by rfl) b6 (by rw[f1]) f5 nr L L ?_;intro ac av aj ak ae aa af ab bf;obtain⟨bq,b8⟩:=bf P k (J.put (J.new b0 _) _ _) b9;simp only[Ac,Aa]at aa;have aw:∀am,am<l.B->av.C am=l.C am:=λam hp=>by rw[ae,Aj L,Ah L]
     refine Z3 ?_;refine X ?_;refine⟨Z w.A-(j+1),L,j+1,ac,o++[t],p++As t,?_⟩
     ((repeat' refine Zi ?_ ?_)<;>first|exact Xq|exact (ak.put L _)|exact (nn (J.put aj _ _))|exact (J.put bq _ _)|exact n|exact Xs)
    have n:V (p=Fg o/\o=(w.A.take (j+1)).filter λt=>Eb q.A v (Iu t d)):=by
     obtain⟨x1,x2⟩:=y.o;exact⟨x1,by rw[HF.o,if_neg K,x2,EJ]⟩
    have hb:((f x:Int)==(a:Int))=false:=by simp;omega
    clear y HF K;refine X ?_;refine⟨Z w.A-(j+1),L,j+1,u,o,p,?_⟩
    ((repeat' refine Zi ?_ ?_)<;>first|exact Xq|exact (J.put (J.new hO _) _ _)|exact (J.put (J.new b0 _) _ _)|exact n|exact Xs)
   have bi:j=Z w.A:=L;subst bi;obtain⟨x1,x2⟩:=y.o;rw[AS]at x2;have n:V (r Oa ((q.A.take (k+1)).map (G1 q.A v)) (M++[Y w.a.p,X1 id w.a.ts,sl u (Z o) p])):=by
    rw[V,HM.o];refine r.append ce.o (r.single ?_);rw[cj.o,<-x2];exact⟨id,u,by rw[x1]⟩
   clear y x1 x2;refine m5 ?_;intro yb ya;intro ac av aj ak ae aa af ab;refine X ?_;refine⟨Z q.A-(k+1),L,k+1,ac,M++[Y w.a.p,X1 id w.a.ts,sl u (Z o) p],?_⟩
   ((repeat' refine Zi ?_ ?_)<;>first|exact Xq|exact (ak.put L _)|exact (J.put aj _ _)|exact n|exact Xs)
 have ca:k=Z q.A:=L;subst ca;rw[AS]at y;have cg:Z (q.A.map (G1 q.A v))=Z q.A:=by rw[BV]
 refine X ?_;exact⟨_,rfl,⟨_,rfl,a1,P,G,M,nc,by simp only[Ge];rw[cg],y.o,cf⟩,z.put L _⟩
inductive CF (q:AZ):AZ->Prop where
 |refl:CF q q
 |tail {q':AZ} (v:Int):CF q q'->CF q (Ge q' v)
theorem Ti (l v p):(G1 l v p).a=p.a:=by rw[G1];split<;>rfl
def Rq (l v p):∀t∈(G1 l v p).A,t∈p.A:=by rw[G1];split;intro t a;exact (BP.1 a).1;exact λt a=>a
def mX (l v p):Z (G1 l v p).A<=Z p.A:=by rw[G1];split;exact IS _ _;exact AU _
def VZ {q v}(h:Qt q):Qt (Ge q v):=by have d:∀p∈(Ge q v).A,∃a∈q.A,G1 q.A v a=p:=λp b=>AN.1 b;refine⟨h.hd,by simp[Ge];exact h.pl,h.nl,λp b=>?_,λp b=>?_,λp b=>?_,h.na⟩;obtain⟨a,c,rfl⟩:=d p b;rw[Ti];exact h.pa a c;obtain⟨a,c,rfl⟩:=d p b;exact BI (mX _ _ _) (h.pt a c);obtain⟨a,c,rfl⟩:=d p b;exact λt e=>h.p3 a c t (Rq _ _ _ t e)
def ZA {q v}(h:QN q):QN (Ge q v):=λp a t d=>by obtain⟨b,c,rfl⟩:=AN.1 a;rw[Ti];exact h b c t (Rq _ _ _ t d)
def CF.ok {q a}(h:CF q a)(b:Qt q):Qt a:=by
 induction h with
 |refl=>exact b
 |tail v _ c=>exact VZ c
def CF.n {q a}(h:CF q a)(b:QN q):QN a:=by
 induction h with
 |refl=>exact b
 |tail v _ c=>exact ZA c
def S9 (q:AZ)(v:Int):AZ:=if 1<Dt (q.A.map (·.a)) v then Ge q v else q
def pH (q:AZ)(vs:List Int):AZ:=vs.foldl S9 q
def lG {q}(h:Qt q):Da q.A<=320000:=by
 have g:=h.pl;have c:=h.pt;have:∀l:List Part,(∀p∈l,Z p.A<=5000)->Da l<=Z l*5000:=by
  intro l;induction l with
  |nil=>intro _;simp[Da]
  |cons a l b=>
   intro h;have f:=h a nk;have i:=b (λp d=>h p (ns d));simp only[Da,CC,sum_cons,BQ]at*
   omega
 have e:=this q.A c;omega
def yV (q c)(hc:EQ q c)(S:Qt q)(hN:QN q)(b):ni 220 [ag c] b λb8 σ'=>(∃c' U e,b8=ag c'/\EQ U c'/\CF q e/\CF q U/\U=pH e (Cs (atomsQ e))/\Da e.A<=Da U.A)/\W b σ':=by
 have I:=λb=>Yz q c hc S b;have bd:=lG S;have HC:V (EQ q c):=hc;obtain⟨bl,bt,bq,c1,bx,rfl,-,-⟩:=hc;refine wl func220 ?_;refine mt I ?_;rintro yb ya _ _ ⟨rfl,l⟩;have n:=l.B;have x:=l.C;have g:=(((W.refl b).new _).new _).trans l;simp only[Aa]at n x;refine X ?_;rename_i af;have o0:af.C b.B=[Y q.h.p,X1 bl q.h.ts,sl bt (Z q.A) c1,sl bq (Z q.B) bx]:=by rw[x _ L,Ah AM,Ao]
 have o1:af.C (b.B+1)=[Y 0,H,H,H]:=by rw[x _ L,Be AM AM]
 clear x l
 refine Ae (λm s σ'=>∃(d:AZ) (z:oh),s 1=ptr b.B 0/\s 2=ptr (b.B+1) 0/\s 3=Y m/\m<=320001/\W b σ'/\b.B+1<σ'.B/\σ'.C b.B=z/\σ'.C (b.B+1)=[Y 0,H,H,H]/\V (EQ d z/\CF q d/\(Da d.A<m\/∃e,CF q e/\d=pH e (Cs (atomsQ e))/\Da e.A=m))) (Da q.A+1)
  ⟨q,_,AG,AG,AG,L,g,L,o0,o1,HC.o,.refl,.inl L⟩ ?_
 rintro m s σ' ⟨d,z,N,T,h3,hm,f,be,ax,aw,t⟩;have C:=t.o.2.1.ok S;have bf:=t.o.2.1.n hN;have I:=λb=>Yz d z t.o.1 C b;have bg:=λb=>Kd d z t.o.1 C b;have bd:=lG C;obtain⟨c3,c5,c4,c7,c6,rfl,-,-⟩:=t.o.1;have bb:=N6 C;have b2:=Jv C;have a7:=λ(E:oh) (b9:Nat) (Q:r O9 (atomsQ d) E) (b:St)=>Hy (atomsQ d) E b9 Q bb L b;have bn:=Fs bb;have b6:V (Qt d/\QN d):=⟨C,bf⟩;by_cases bp:Da d.A<m
 ·generalize bc:Cs (atomsQ d)=k at a7 bn;have bw:V _:=bc;clear bc bb bf C;generalize a4:Da d.A=R at*
  have bz:V _:=a4;clear a4
  repeat' first|refine Z1 ?_|refine Z8 λyb ya=>?_|refine Z4 ?_;clear ya yb|refine Z2 ?_ ?_<;>intro h ae<;>try exact Xp|(refine Z5 ?_;first|(refine Xi (I _) ?_;rintro _ _ ⟨rfl,l⟩;(have n:=l.B;have x:=l.C;have g:=f.trans l;clear f l;have f:=g;clear g))|(refine Xi (bg _) ?_;rintro _ _ ⟨bj,E,rfl,Q,P⟩;(have a3:=P.B;have an:=P.C;have g:=f.trans P;clear P f;have f:=g;clear g;have ao:=a7 E bj Q))|(refine Xi (ao _) ?_;rintro _ _ ⟨⟨bk,rfl⟩,G⟩;(have a0:=G.B;have am:=G.C;have g:=f.trans G;clear G f;have f:=g;clear g)))|refine Z3 ?_|exact Zt|apply ya.o;clear ya yb
  rename_i c8 A b7 c9 ca c2;have b1:=B9 k;have D:∀p,p<σ'.B->c2.C p=σ'.C p:=λp hp=>by rw[am _ L,an _ L,x _ L,b7 _ L]
  refine Ae (λm' s u=>∃(j:Nat) (a:AZ) (K:oh),m'=Z k-j/\j<=Z k/\s 1=ptr b.B 0/\s 2=ptr (b.B+1) 0/\s 3=Y R/\s 17=X2 bk k/\s 18=Y (Z k)/\s 19=Y j/\W b u/\b.B+1<u.B/\u.C b.B=K/\u.C (b.B+1)=[Y 0,H,H,H]/\V (EQ a K/\CF q a/\a=pH d (k.take j))) (Z k)
   ⟨0,d,_,L,L,AI,AI,AI,AG,AG,rfl,f,L,rfl,by rw[D _ L,aw],by rw[D _ L,ax];exact t.o.1,t.o.2.1,by simp[pH]⟩ ?_
  clear D am an x b7 f ax aw N T h3 be I bg a7 ao Q a0 a3 n A;rintro m' s u ⟨j,a,K,rfl,hj,N,T,h3,b5,b4,b3,f,be,ax,aw,o⟩;have n:=f.B;have a5:=o.o.2.1.ok S;have bo:=o.o.2.1.n hN;have M:=λv b=>Ml a K v o.o.1 a5 b;have a8:=λv b=>oD a K v o.o.1 a5 bo b;have F:∀v,Dt (a.A.map (·.a)) v<=64:=λv=>by
   have N:=vR (a.A.map (·.a)) v;have T:=a5.pl;simp at N;omega
  have bh:V (EQ a K):=o.o.1;obtain⟨ab,a1,a2,ad,aa,rfl,-,-⟩:=o.o.1;by_cases a6:j<Z k
  ·obtain⟨v,ac⟩:=gq a6;obtain⟨b8,hd⟩:=D2 ac;have y:V (pH d (k.take (j+1))=S9 a v):=by
    rw[V,AT,ac,BN,pH,foldl_append,o.o.2.2];rfl
   clear ac;have M:=M v;have a8:=a8 v;have F:=F v;by_cases i:1<Dt (a.A.map (·.a)) v
   ·have y:V (pH d (k.take (j+1))=Ge a v):=by rw[V,y.o,S9,if_pos i]
    generalize Dt (a.A.map (·.a)) v=cn at M i F;have hb:decide ((cn:Int)>1):=by simp;omega
    clear i
    (repeat (refine m0 ?_;intro yb ya;(first|(refine Xi (M _) ?_;rintro _ _ ⟨rfl,B⟩;(have az:=B.B;have ay:=B.C;have g:=f.trans B))|(refine Xi (a8 _) ?_;rintro _ _ ⟨⟨_,rfl,b0,ai,aj,ah,ak,rfl,br,bu⟩,a9⟩;(have bm:=a9.B;have bi:=a9.C;have bv:=g.trans a9)))));refine X ?_
    refine⟨Z k-(j+1),L,j+1,Ge a v,[Y (Ge a v).h.p,sl b0 (Z (Ge a v).h.ts) (Ad (Ge a v).h.ts),sl ai (Z (Ge a v).A) ah,sl aj (Z (Ge a v).B) ak],?_⟩
    ((repeat' refine Zi ?_ ?_)<;>first|exact Xq|exact (bv.put L _)|exact (⟨⟨b0,ai,aj,ah,ak,rfl,br,bu⟩,.tail v o.o.2.1,y.o.symm⟩)|exact Xs)
   have y:V (pH d (k.take (j+1))=a):=by rw[V,y.o,S9,if_neg i]
   generalize Dt (a.A.map (·.a)) v=cn at M i F;have hb:decide ((cn:Int)>1)=false:=by simp;omega
   clear i;refine mt M ?_;rintro yb ya _ _ ⟨rfl,B⟩;have az:=B.B;have ay:=B.C;have g:=f.trans B;refine X ?_;refine⟨Z k-(j+1),L,j+1,a,[Y a.h.p,X1 ab a.h.ts,sl a1 (Z a.A) ad,sl a2 (Z a.B) aa],?_⟩
   ((repeat' refine Zi ?_ ?_)<;>first|exact Xq|exact (⟨bh.o,o.o.2.1,y.o.symm⟩)|exact Xs)
  obtain rfl:j=Z k:=L;have ba:=o.o.2.2;rw[AS]at ba
  have HF:V (EQ a [Y a.h.p,X1 ab a.h.ts,sl a1 (Z a.A) ad,sl a2 (Z a.B) aa]/\CF q a/\(Da a.A<R\/∃e,CF q e/\a=pH e (Cs (atomsQ e))/\Da e.A=R)):=
   ⟨bh.o,o.o.2.1,.inr ⟨d,t.o.2.1,by rw[bw.o];exact ba,bz.o⟩⟩
  clear ba;refine X ?_;refine⟨R,L,a,[Y a.h.p,X1 ab a.h.ts,sl a1 (Z a.A) ad,sl a2 (Z a.B) aa],?_⟩;exact m9 HF
 have hR:∃e,CF q e/\d=pH e (Cs (atomsQ e))/\Da e.A<=Da d.A:=by
  obtain h|⟨e,N,T,h3⟩:=t.o.2.2
  ·exact absurd h bp
  exact⟨e,N,T,L⟩
 have y:V _:=hR;clear hR;generalize a4:Da d.A=R at*
 refine mt I ?_;rintro yb ya _ _ ⟨rfl,l⟩;have n:=l.B;have x:=l.C;have g:=f.trans l;refine X ?_;let⟨e,r1,r2,r3⟩:=y.o;exact⟨_,rfl,⟨_,d,e,rfl,t.o.1,r1,t.o.2.1,r2,L⟩,g.put L _⟩
def Ym:∀{l m:List Int},l.Nodup->(∀x∈l,x∈m)->Z l<=Z m
 |[],m,_,_=>nk
 |a::l,m,j,f=>by
  have d:=nodup_cons.1 j;have b:=f a nk
  have g:=Ym (l:=l) (m:=m.erase a) d.2 (λx c=>by
   have i:x≠a:=λe=>d.1 (e ▸ c)
   exact (mem_erase_of_ne i).2 (f x (ns c)))
  rw[length_erase_of_mem b]at g;have:0<Z m:=length_pos_of_mem b;simp only[BQ];omega
def Vt:∀(l:List Ck) (c:Int) (acc:List Int),acc.Nodup->(l.foldl (wQ c) acc).Nodup
 |[],c,acc,h=>h
 |t::l,c,acc,h=>by rw[FW];apply Vt;rw[wQ];split;exact h;rename_i e;rw[IP];exact⟨h,nk,λa f b d=>by simp at d;subst d;rintro rfl;exact e f⟩
def Vu:∀(l:List Ck) (b:Int) (acc:List Int) (n:Int),n∈l.foldl (wQ b) acc↔n∈acc\/∃t∈l,Iu t b=n
 |[],b,acc,n=>nk
 |t::l,b,acc,n=>by rw[FW,Vu];rw[wQ];by_cases c:Iu t b∈acc;rw[if_pos c];constructor;rintro (h|⟨u,a,e⟩);exact .inl h;exact .inr ⟨u,ns a,e⟩;rintro (h|⟨u,a,e⟩);exact .inl h;obtain rfl|a:=BD.1 a;exact .inl (e ▸ c);exact .inr ⟨u,a,e⟩;rw[if_neg c];constructor;rintro (h|⟨u,a,e⟩);obtain h|h:=AW.1 h;exact .inl h;simp at h;exact .inr ⟨t,nk,h.symm⟩;exact .inr ⟨u,ns a,e⟩;rintro (h|⟨u,a,e⟩);exact .inl (AW.2 (.inl h));obtain rfl|a:=BD.1 a;exact .inl (AW.2 (.inr (ns e)));exact .inr ⟨u,a,e⟩
def Vv {q}(j:QN q)(v):Z (Mo q v)<=1026:=by have f:Z ((range 1026).map λk:Nat=>(k:Int))=1026:=nk;rw[<-f];rw[Mo];split;rename_i p c;have d:=ME c;have l:Bm p.a.ts v:=nn (find?_some c);let⟨m,a,i⟩:=K3 l;rw[i];apply Ym (Vt _ _ _ GN);intro n b;unfold aL at b;rw[Vu]at b;obtain h|⟨t,s,e⟩:=b;cases h;let⟨x,g,o⟩:=j p d t s m a;rw[AN];exact⟨x,nn o,by rw[<-e];simp[Iu,g]⟩;simp
def QV (q:AZ):Prop:=∀a∈atomsQ q,∀v,(true,v)∈a.ts->0<=v
def gX (q c)(F:EQ q c)(p:Qt q)(hN:QN q)(hV:QV q)(d):ni 222 [ag c] d λa1 σ'=>(∃b,a1=Y b/\((b= -1/\∀v∈Cs (atomsQ q),Dq q v=false)\/(b∈Cs (atomsQ q)/\Dq q b)))/\W d σ':=by
 have Q:=λd=>Kd q c F p d;have l:=λv d=>R8 q c v F p d;have M:=λv d=>L4 q c v F p hN d;have R:=λv=>Vv hN v;have P:=N6 p;have bi:=Jv p;have K:=λ(z:oh) (a8:Nat) (G:r O9 (atomsQ q) z) (d:St)=>Hy (atomsQ q) z a8 G P L d;have bd:=Fs P;obtain⟨m,ip,a2,pc,t,rfl,-,-⟩:=F;generalize Cs (atomsQ q)=a at*
 have be:=B9 a;refine wl func222 ?_
 repeat' first|refine Z1 ?_|refine Z8 λyb ya=>?_|refine Z4 ?_;clear ya yb|refine Z2 ?_ ?_<;>intro h ad<;>try exact Xp|(refine Z5 ?_;first|(refine Xi (Q _) ?_;rintro _ _ ⟨a3,z,rfl,G,D⟩;(have S:=D.B;have I:=D.C;have e:=((W.refl d).new _).trans D;have ak:=K z a3 G;simp only[Aa]at S I))|(refine Xi (ak _) ?_;rintro _ _ ⟨⟨aa,rfl⟩,E⟩;(have av:=E.B;have ai:=E.C;have n:=e.trans E;clear E e;have e:=n;clear n)))|refine Z3 ?_|exact Zt|apply ya.o;clear ya yb
 rename_i ac a4;have a0:a4.C d.B=[Y q.h.p,X1 m q.h.ts,sl ip (Z q.A) pc,sl a2 (Z q.B) t]:=by rw[ai _ L,I _ L,Ao]
 clear I ai Q K ak G D
 refine wn [1,10,11] 12 (Z a) (λj s σ'=>∃(w:Nat) (b:Int),s 3=Y b/\s 4=Y w/\W d σ'/\d.B<σ'.B/\σ'.C d.B=[Y q.h.p,X1 m q.h.ts,sl ip (Z q.A) pc,sl a2 (Z q.B) t]/\w<=1027/\V ((b= -1/\w=1027/\∀v∈a.take j,Dq q v=false)\/(b∈a/\Dq q b))) ⟨1027,-1,AG,AG,e,L,a0,L,.inl ⟨rfl,rfl,nk⟩⟩ ?_
 clear e a0 S av;rintro j s σ' _ ⟨x,_,_⟩ _ ⟨w,b,o,h4,e,bg,bb,hw,g⟩;have bc:=e.B;by_cases a5:j<Z a
 ·obtain⟨v,C⟩:=gq a5;obtain⟨a1,hd⟩:=D2 C;have i:=(AY C);have l:=l v;have M:=M v;have R:=R v
  have A:V (v∈a/\∀u∈a.take (j+1),u∈a.take j\/u=v):=⟨i,λu B=>by
   rw[AT,C,BN]at B;obtain h|h:=AW.1 B
   ·exact .inl h
   simp at h;exact .inr h⟩
  clear C i;cases k:Dq q v
  ·rw[k]at l;have y:V ((b= -1/\w=1027/\∀v∈a.take (j+1),Dq q v=false)\/(b∈a/\Dq q b=true)):=by
    rcases g.o with⟨x,T,o⟩|h
    ·refine .inl ⟨x,T,λu B=>?_⟩;rcases A.o.2 u B with h|rfl
     ·exact o u h
     exact k
    exact .inr h
   clear g A k;refine m0 ?_;intro yb ya;refine Xi (l _) ?_;rintro _ _ ⟨rfl,f⟩;(have au:=f.B;have ap:=f.C;have n:=e.trans f);refine X ?_;refine⟨w,b,?_⟩;exact m9 y
  rw[k]at l;have ba:V ((v= -1/\Z (Mo q v)=1027/\∀v∈a.take (j+1),Dq q v=false)\/(v∈a/\Dq q v=true)):=.inr ⟨A.o.1,k⟩;have a9:V (¬Z (Mo q v)<w->(b= -1/\w=1027/\∀v∈a.take (j+1),Dq q v=false)\/(b∈a/\Dq q b=true)):=λhn=>by
   rcases g.o with⟨x,T,o⟩|h
   ·omega
   exact .inr h
  clear g A k;generalize U:Mo q v=vq at*
  have bp:V _:=U;clear U;have bf:=B9 vq
  (repeat (refine m0 ?_;intro yb ya;(first|(refine Xi (l _) ?_;rintro _ _ ⟨rfl,f⟩;(have au:=f.B;have ap:=f.C;have n:=e.trans f))|(refine Xi (M _) ?_;rintro _ _ ⟨⟨ab,rfl⟩,N⟩;(have a7:=N.B;have a6:=N.C;have bh:=n.trans N)))));refine m6 ?_ ?_<;>intro h ad
  ·refine⟨Z vq,v,?_⟩
   exact m9 ba
  refine⟨w,b,?_⟩;exact m9 (a9.o L)
 obtain rfl:j=Z a:=L;rw[AS]at g;have y:V ((b= -1/\∀v∈a,Dq q v=false)\/(b∈a/\Dq q b)):=by
  obtain⟨x,-,o⟩|h:=g.o
  ·exact .inl ⟨x,o⟩
  exact .inr h
 refine X ?_
 exact⟨_,rfl,b,rfl,y.o⟩
def F1 (l:List Dx)(b c:List Int):Prop:=∀a∈l,b.any (Bm a.ts)->∀v,(true,v)∈a.ts->v∈c
def Grown (a c rs:List Int):Prop:=∃b:List Int,rs=a++b/\b.Nodup/\∀v∈b,v∈c
def Grown.le {a e rs}(h:Grown a e rs):Z rs<=Z a+Z e:=by obtain⟨d,rfl,b,c⟩:=h;have:=Ym b c;simp;omega
def Grown.snoc {c m rs}(h:Grown c m rs){v}(g:v∈m)(j:v∉rs):Grown c m (rs++[v]):=by obtain⟨l,rfl,k,i⟩:=h;refine⟨l++[v],nk,?_,?_⟩;rw[IP];exact⟨k,nk,λa f b d=>by simp at d;subst d;rintro rfl;exact j (AW.2 (.inr f))⟩;intro u e;obtain h|h:=AW.1 e;exact i u h;simp at h;subst h;exact g
def bB (q c b au)(hc:EQ q c)(hq:Qt q)(cg:Z b<=200)(e):ni 224 [ag c,X2 au b] e λav σ'=>(∃id rs,av=X2 id rs/\Grown b (Cs (atomsQ q)) rs/\F1 (atomsQ q) rs rs)/\W e σ':=by
 have b8:=λe=>Kd q c hc hq e;have bi:=N6 hq;have cn:=Jv hq;have ck:=Fs bi;have b6:∀a∈atomsQ q,∀v,(true,v)∈a.ts->v∈Cs (atomsQ q):=λa ha v i=>(Dn _ _).2 ⟨a,ha,i⟩;obtain⟨ih,ip,ac,pc,nc,rfl,-,-⟩:=hc;generalize Cs (atomsQ q)=t at*
 generalize atomsQ q=l at*
 have ch:=B9 b;refine Z9 66 [.tmp 4] func224 ?_;refine X ?_
 refine Ae (λm s σ'=>∃(j A:Nat) (rs:List Int),m=Z b-j/\j<=Z b/\s 2=ptr e.B 0/\s 5=X2 A rs/\s 14=X2 au b/\s 15=Y (Z b)/\s 16=Y j/\W e σ'/\e.B<σ'.B/\σ'.C e.B=[Y q.h.p,X1 ih q.h.ts,sl ip (Z q.A) pc,sl ac (Z q.B) nc]/\J e σ' A (Z rs)/\Z rs<=j/\V (rs=b.take j)) (Z b)
  ⟨0,1,[],L,L,AG,by simp[upd,As],by simp[upd,AL],AG,rfl,Xs,AM,by rw[Ao],J.nil _ _,nk,by simp[V]⟩ ?_
 rintro m s σ' ⟨j,A,rs,rfl,hj,y,a0,cb,ca,b9,g,N,I,x,be,U⟩;have M:=g.B;by_cases a9:j<Z b
 ·have o:=AK a9;obtain⟨av,hd⟩:=D2 o;generalize b[j]=v at hd o;have HR:V (rs++[v]=b.take (j+1)):=by rw[V,AT,o,BN,U.o]
  have b0:=B9 rs;clear o U;refine m5 ?_;intro yb ya;intro ah bj ai aj af ab ae aa;refine X ?_;refine⟨Z b-(j+1),L,j+1,ah,rs++[v],?_⟩
  ((repeat' refine Zi ?_ ?_)<;>first|exact Xq|exact (nn ai)|exact HR|exact (by simp[As])|exact Xs)
 have bc:j=Z b:=L;subst bc;rw[AS]at U;have U:=U.o.symm;subst U;clear a9 hj;refine X ?_
 refine Ae (λm s σ'=>∃(B A:Nat) (F:Int) (rs:List Int),m=2*(Z b+Z t-Z rs)+(if F<(Z rs:Int)then 1 else 0)/\(F=B\/(F= -1/\B=0))/\s 2=ptr e.B 0/\s 5=X2 A rs/\s 8=Y F/\W e σ'/\e.B<σ'.B/\σ'.C e.B=[Y q.h.p,X1 ih q.h.ts,sl ip (Z q.A) pc,sl ac (Z q.B) nc]/\J e σ' A (Z rs)/\Z rs<=Z b+Z t/\B<=Z rs/\V (Grown b t rs/\F1 l (rs.take B) rs)) (2*(Z b+Z t-Z b)+1)
  ⟨0,A,-1,b,by rw[if_pos L],.inr ⟨rfl,rfl⟩,AI,AI,AG,g,N,I,x,L,L,⟨[],nk,GN,nk⟩,λa ha h=>by simp at h⟩ ?_
 clear g N I x y a0 cb ca b9 M;rintro m s σ' ⟨B,A,F,rs,rfl,b7,y,a0,h8,g,N,I,x,be,cm,hG⟩;have M:=g.B;have b0:=B9 rs;by_cases a9:F<(Z rs:Int)
 ·rw[if_pos a9]
  refine m0 ?_;intro yb ya;refine Xi (b8 _) ?_;rintro _ _ ⟨am,cs,rfl,hE,a7⟩;(have bb:=a7.B;have a3:=a7.C;have K:=g.trans a7;have C:=J.keep x a7);refine X ?_;rename_i bk;have cj:=r.length Iz hE
  refine Ae (λm s a2=>∃(k Q:Nat) (f:List Int),m=Z l-k/\k<=Z l/\s 2=ptr e.B 0/\s 5=X2 Q f/\s 8=Y (Z rs)/\s 32=sl am (Z l) cs/\s 33=Y (Z l)/\s 34=Y k/\W e a2/\e.B<a2.B/\a2.C e.B=[Y q.h.p,X1 ih q.h.ts,sl ip (Z q.A) pc,sl ac (Z q.B) nc]/\J e a2 Q (Z f)/\Z f<=Z b+Z t/\Z rs<=Z f/\V (Grown b t f/\f.take (Z rs)=rs/\F1 (l.take k) rs f)) (Z l)
   ⟨0,A,rs,L,L,AI,AI,AI,AG,AG,rfl,K,L,by rw[a3 _ L,I],C,be,L,hG.o.1,nk,λa ha=>by simp at ha⟩ ?_
  clear K C a3 g x I N y a0 h8 M a7 bb;rintro m s a2 ⟨k,Q,f,rfl,hk,y,a0,h8,bo,bn,bm,g,N,I,x,bq,bw,z⟩;have M:=g.B;have cc:=B9 f;by_cases az:k<Z l
  ·have o:=AK az;obtain⟨ad,r2,b4⟩:=Ke hE o;have n:=bi _ (AR az);have bg:=b6 _ (AR az);generalize l[k]=a at b4 o n bg;have HT:V (l.take (k+1)=l.take k++[a]):=by rw[V,AT,o,BN]
   clear o;have br:Z f<=100000:=L;have b5:Z a.ts<=1000:=L;have a8:=λe=>L5 a.p ad a.ts f Q b5 br e;have a4:∀v∈rs,v∈f:=λv i=>by
    have:=z.o.2.1;rw[<-this]at i;exact JI i
   cases ap:f.any (Bm a.ts)with
   |false=>
    have HW:V (Grown b t f/\f.take (Z rs)=rs/\F1 (l.take (k+1)) rs f):=by
     refine⟨z.o.1,z.o.2.1,?_⟩;rw[HT.o];intro ak n h v i;rcases AW.1 n with n|n
     ·exact z.o.2.2 ak n h v i
     simp at n;subst n;rw[CU]at h;obtain⟨aw,hu,he⟩:=h;rw[EV]at ap;exact absurd he (ap aw (a4 aw hu))
    rw[ap]at a8;clear z HT a4;refine m0 ?_;intro yb ya;refine Xi (a8 _) ?_;rintro _ _ ⟨rfl,E⟩;(have ao:=E.B;have S:=E.C;have K:=((g.new _).put g.B _).trans E;have C:=J.keep (J.put (J.new x _) _ _) E;simp only[Ac,Aa]at ao S);refine X ?_;refine⟨Z l-(k+1),L,k+1,Q,f,?_⟩;exact m9 HW
   |true=>
    rw[ap]at a8;have cf:=Cx a.ts;refine m0 ?_;intro yb ya;refine Xi (a8 _) ?_;rintro _ _ ⟨rfl,E⟩;(have ao:=E.B;have S:=E.C;have K:=((g.new _).put g.B _).trans E;have C:=J.keep (J.put (J.new x _) _ _) E;simp only[Ac,Aa]at ao S);refine X ?_;rename_i ay;have b1:ay.C a2.B=[Y a.p,X1 ad a.ts]:=by rw[S _ L,Ak]
    refine Ae (λm s a1=>∃(j P:Nat) (d:List Int),m=Z a.ts-j/\j<=Z a.ts/\s 2=ptr e.B 0/\s 5=X2 P d/\s 8=Y (Z rs)/\s 32=sl am (Z l) cs/\s 33=Y (Z l)/\s 34=Y k/\s 43=X1 ad a.ts/\s 44=Y (Z a.ts)/\s 45=Y j/\W e a1/\e.B<a1.B/\a1.C e.B=[Y q.h.p,X1 ih q.h.ts,sl ip (Z q.A) pc,sl ac (Z q.B) nc]/\J e a1 P (Z d)/\Z d<=Z b+Z t/\Z rs<=Z d/\V (Grown b t d/\d.take (Z rs)=rs/\(∀v∈f,v∈d)/\∀v,(true,v)∈a.ts.take j->v∈d)) (Z a.ts)
     ⟨0,Q,f,L,L,AI,AI,AI,AI,AI,AI,AG,AG,rfl,K,L,by rw[S _ L,Aj L,Ah L,I],C,bq,bw,z.o.1,z.o.2.1,λv i=>i,nk⟩ ?_
    clear K C S g x I N y a0 h8 bo bn bm M E ao b1 a8;rintro m s a1 ⟨j,P,d,rfl,hj,y,a0,h8,bo,bn,bm,cr,cq,cp,g,N,I,x,cd,bz,D⟩;have M:=g.B;have ce:=B9 d;by_cases a5:j<Z a.ts
    ·have o:=AK a5;obtain⟨r3,b3⟩:=C3 o;have bd:=AR a5;generalize a.ts[j]=w at b3 o bd;obtain⟨w1,p⟩:=w;have bp:V (a.ts.take (j+1)=a.ts.take j++[(w1,p)]):=by rw[V,AT,o,BN]
     clear o;have bv:Z d<=100000:=L;have bf:=T7 p d;have bh:=λe=>H7 p d P bv e;have G:V ((w1=true->p∈d)->(Grown b t d/\d.take (Z rs)=rs/\(∀v∈f,v∈d)/\∀v,(true,v)∈a.ts.take (j+1)->v∈d)):=λhw=>by
      refine⟨D.o.1,D.o.2.1,D.o.2.2.1,λv i=>?_⟩;rw[bp.o]at i;rcases AW.1 i with h|h
      ·exact D.o.2.2.2 v h
      simp at h;obtain⟨h1,y⟩:=h;subst y;exact hw h1
     cases w1 with
     |false=>
      refine X ?_;refine⟨Z a.ts-(j+1),L,j+1,P,d,?_⟩
      ((repeat' refine Zi ?_ ?_)<;>first|exact Xq|exact (J.put (J.new x _) _ _)|exact (G.o (λh=>by cases h))|exact Xs)
     |true=>
      by_cases T:p∈d
      ·have a6:decide (p∉d)=false:=by simp[T]
       rw[a6]at bf;have G:=G.o (λ_=>T);have G:V _:=G;clear a6 T;refine m0 ?_;intro yb ya;refine Xi (bh _) ?_;rintro _ _ ⟨rfl,u⟩;(have ax:=u.B;have an:=u.C;have K:=((g.new _).put g.B _).trans u;have C:=J.keep (J.put (J.new x _) _ _) u;simp only[Ac,Aa]at ax an);refine X ?_;refine⟨Z a.ts-(j+1),L,j+1,P,d,?_⟩;exact m9 G
      have a6:decide (p∉d)=true:=by simp[T]
      rw[a6]at bf;have G:V (Grown b t (d++[p])/\(d++[p]).take (Z rs)=rs/\(∀v∈f,v∈d++[p])/\∀v,(true,v)∈a.ts.take (j+1)->v∈d++[p]):=by
       refine⟨D.o.1.snoc (bg p bd) T,?_,λv i=>AW.2 (.inl (D.o.2.2.1 v i)),λv i=>?_⟩
       ·rw[take_append_of_le_length bz];exact D.o.2.1
       rw[bp.o]at i;rcases AW.1 i with h|h
       ·exact AW.2 (.inl (D.o.2.2.2 v h))
       simp at h;subst h;simp
      have bu:Z d+1<=Z b+Z t:=by
       have:=G.o.1.le;simpa using this
      clear a6 T;refine m0 ?_;intro yb ya;refine Xi (bh _) ?_;rintro _ _ ⟨rfl,u⟩;(have ax:=u.B;have an:=u.C;have K:=((g.new _).put g.B _).trans u;have C:=J.keep (J.put (J.new x _) _ _) u;simp only[Ac,Aa]at ax an;have ba:=an a1.B L;rw[Ak]at ba);refine m5 ?_;intro yb ya;intro ah bj ai aj af ab ae aa;refine X ?_;refine⟨Z a.ts-(j+1),L,j+1,ah,d++[p],?_⟩
      ((repeat' refine Zi ?_ ?_)<;>first|exact Xq|exact (nn ai)|exact G|exact (by simp[As])|exact Xs)
    have bc:j=Z a.ts:=L;subst bc;have HW:V (Grown b t d/\d.take (Z rs)=rs/\F1 (l.take (k+1)) rs d):=by
     obtain⟨u1,R,u3,u4⟩:=D.o;rw[AS]at u4;refine⟨u1,R,?_⟩;rw[HT.o];intro ak n h v i;rcases AW.1 n with n|n
     ·exact u3 v (z.o.2.2 ak n h v i)
     simp at n;subst n;exact u4 v i
    clear D z HT;refine X ?_;refine⟨Z l-(k+1),L,k+1,P,d,?_⟩;exact m9 HW
  have b2:k=Z l:=L;subst b2;have HW:V (Grown b t f/\F1 l (f.take (Z rs)) f):=by
   obtain⟨u1,R,u3⟩:=z.o;rw[AS]at u3;exact⟨u1,by rw[R];exact u3⟩
  clear z;refine X ?_;refine⟨2*(Z b+Z t-Z f)+(if (Z rs:Int)<(Z f:Int)then 1 else 0),by split<;>omega,Z rs,Q,Z rs,f,?_⟩
  ((repeat' refine Zi ?_ ?_)<;>first|exact Xq|exact HW|exact (.inl rfl)|exact Xs)
 have hF:Grown b t rs/\F1 l rs rs:=by
  have hB:B=Z rs:=by rcases b7 with h|⟨h1,y⟩<;>omega
  obtain⟨u1,R⟩:=hG.o;rw[hB,AS]at R;exact⟨u1,R⟩
 have HF:V _:=hF;clear hF;have ci:decide ((Z rs:Int)>F)=false:=by simp;omega
 refine X ?_
 first|exact⟨_,rfl,⟨A,rs,rfl,HF.o.1,HF.o.2⟩,g⟩|exact⟨_,rfl,A,rs,rfl,HF.o.1,HF.o.2⟩
end Go.Proofs.YtmoeoppbmhfbpabGreatDoorJ
