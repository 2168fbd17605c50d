import Derived.Test.YtmoeoppbmhfbpabGreatDoorJEngF
set_option maxHeartbeats 32000000
set_option maxRecDepth 100000
set_option linter.all false
open List renaming length->Z
namespace Go.Proofs.YtmoeoppbmhfbpabGreatDoorJ
open Go.Abs
def lv (ar:Nat)(t:Ck):Prop:=∀i,i<ar->∃k:Nat,t[i]?=some (k:Int)/\k<1026
def QN (q:AZ):Prop:=∀p∈q.A,∀t∈p.A,lv (Z p.a.ts) t
def Hi (f:Nat->Bool):oh:=(List.range 1026).map λi=>my (f i)
def oI:Pg 1026 (.bool false)=Hi λ_=>false:=by
 unfold Pg Hi;rw[List.map_const'];simp[cst1]
def sR (f):Z (Hi f)=1026:=by simp[Hi]
def sS (f){k}(h:k<1026):(Hi f)[k]?=some (my (f k)):=by simp[Hi,h]
def sQ (f){k}(h:k<1026)(b):(Hi f).set k (my b)=Hi λj=>if j=k then b else f j:=by
 apply FL;intro n;rw[GH];by_cases a:n<1026;by_cases c:k=n;subst c;simp[Hi,a];have:n≠k:=λe=>c e.symm;simp[Hi,a,c,this];have:k≠n:=AA;simp[Hi,a,this]
def wQ (a:Int)(acc:List Int)(t:Ck):List Int:=if Iu t a∈acc then acc else acc++[Iu t a]
def aL (a:List Ck)(b:Int):List Int:=a.foldl (wQ b) []
def Mo (q:AZ)(v:Int):List Int:=match q.A.find? (λp=>Bm p.a.ts v)with
 |some p=>aL p.A (Jp p.a.ts v)
 |none=>[]
def yP {α:Type}{f}{l:List α}{i x}(d:∀y∈l.take i,f y=false)(j:l[i]?=some x)(b:f x=true):l.find? f=some x:=by
 have e:=(BA.1 j);obtain⟨a,c⟩:=e
 conv=>lhs;rw[<-KD i l]
 rw[List.find?_append,KB.2 (λy g=>by rw[d y g];simp),ET a,c];simp[b]
def L4 (q c v)(hc:EQ q c)(I:Qt q)(hN:QN q)(d):ni 189 [ag c,ic v] d λr σ'=>(∃id,r=sl id (Z (Mo q v)) (As (Mo q v)))/\AD d σ':=by
 obtain⟨ih,ip,inn,pc,nc,rfl,Y,-⟩:=hc;have hpl:=EL.length Ex Y;have hl:=I.pl;have hz:=oI;refine Z9 53 [.tmp 4] Tryz.func189 ?_;refine mr ?_
 refine Ae (λm s σ'=>∃i:Nat,m=Z q.A-i/\i<=Z q.A/\s 1=ic v/\s 5=nilS/\s 6=ptr (d.B+1) 0/\s 14=sl ip (Z q.A) pc/\s 15=ic (Z q.A)/\s 16=ic i/\AD d σ'/\d.B+1<σ'.B/\σ'.C (d.B+1)=Hi (λ_=>false)/\AC (∀p∈q.A.take i,Bm p.a.ts v=false)) (Z q.A)
  ⟨0,AA,AA,by simp[upd,AL],AG,AG,AG,AG,rfl,Xs,AM,?_,by simp[AC]⟩ ?_
 ·rw[Be AM AM]
 rintro m s σ' ⟨i,rfl,hi,h1,h5,h6,bm,bi,bh,g,a7,V,C⟩;have a6:=g.B;by_cases F:i<Z q.A
 ·have l:=AK F;obtain⟨id,H,r,hd⟩:=F0 Y l;have bg:=I.pa _ (AR F);have bf:=I.pt _ (AR F);have T:=I.p3 _ (AR F);have a8:=hN _ (AR F);generalize q.A[i]=w at hd l bg bf T a8;have bc:Z w.a.ts<=1000:=AA;have L:=λd=>Gw w.a.p id w.a.ts v bc d;have O:AD d ((σ'.new [ic 0,nilS,nilS]).put σ'.B [ic w.a.p,sl id (Z w.a.ts) (Ad w.a.ts),sl H (Z w.A) (Fg w.A)]):=(g.new _).put g.B _;cases K:Bm w.a.ts v with
  |false=>
   have n:Jp w.a.ts v= -1:=K1 (by simpa[Bm]using K);have D:AC (∀p∈q.A.take (i+1),Bm p.a.ts v=false):=by
    rw[AC,AT,l,BN];intro p n;rcases AW.1 n with n|n
    ·exact C.o p n
    simp at n;subst n;exact K
   rw[n]at L;clear n l C;refine m0 ?_;intro yb ya;refine Xi (L _) ?_;rintro _ _ ⟨rfl,u⟩;(have N:=u.B;have G:=u.C;have P:=O.trans u;simp only[Ac,Aa]at N G);refine mr ?_;refine⟨Z q.A-(i+1),AA,i+1,?_⟩;exact m9 D
  |true=>
   obtain⟨o,ax,S⟩:=K3 K;have A:AC (Mo q v=aL w.A o):=by rw[AC,Mo,yP C.o l K];simp only[S]
   rw[S]at L;clear S l C;have ba:o<3:=AA;have bb:((o:Int)== -1)=false:=nk;have bo:=J4 T;refine m0 ?_;intro yb ya;refine Xi (L _) ?_;rintro _ _ ⟨rfl,u⟩;(have N:=u.B;have G:=u.C;have P:=O.trans u;simp only[Ac,Aa]at N G);refine mr ?_;rename_i M;have o1:M.C (d.B+1)=Hi (λ_=>false):=by rw[G _ AA,Aj AA,Ah AA,V]
   clear G u
   refine Ae (λm s b=>∃(j z:Nat) (a:List Int) (f:Nat->Bool),m=Z w.A-j/\j<=Z w.A/\s 5=sl z (Z a) (As a)/\s 6=ptr (d.B+1) 0/\s 9=ic o/\s 27=sl H (Z w.A) (Fg w.A)/\s 28=ic (Z w.A)/\s 29=ic j/\AD d b/\d.B+1<b.B/\b.C (d.B+1)=Hi f/\Own d b z (Z a)/\Z a<=j/\AC (a=aL (w.A.take j) o/\∀k:Nat,f k=true↔(k:Int)∈a)) (Z w.A)
    ⟨0,1,[],λ_=>false,AA,AA,by simp[upd, *,As],AI,AG,AG,AG,rfl,P,AA,o1,Own.nil _ _,nk,by simp[aL],nk⟩ ?_
   clear o1 h1 h5 h6 bm bi bh g a7 V a6 P O;rintro m s b ⟨j,z,a,f,rfl,hj,h5,h6,h9,bu,br,bq,g,a7,V,hO,bn,y⟩;have a6:=g.B;have Q:=B9 a;by_cases ao:j<Z w.A
   ·have l:=AK ao;obtain⟨E,r2,be⟩:=Kw T l;obtain⟨x,J,X⟩:=a8 _ (AR ao) o ax;generalize w.A[j]=t at be l E J;have bp:=Qk J;have D:AC (aL (w.A.take (j+1)) o=if (x:Int)∈a then a else a++[(x:Int)]):=by
     have a9:Iu t o=(x:Int):=by simp[Iu,J]
     rw[AC,AT,l,BN,aL,List.foldl_append,y.o.1];simp only[FW,List.foldl_nil,wQ,a9];rfl
    clear l J;have f1:=Io E;have f2:=Ow E;have f3:=Jm E;have f4:=Qj E;have f5:=Fo t;have f6:=eM E;have g1:=sS f X;have g2:=sQ f X true;have g3:=sR f;by_cases B:(x:Int)∈a
    ·have U:f x=true:=(y.o.2 x).2 B;have R:AC (a=aL (w.A.take (j+1)) o/\∀k:Nat,f k=true↔(k:Int)∈a):=⟨by rw[D.o,if_pos B],y.o.2⟩;rw[U]at g1;clear y D B g2
     refine mr ?_;refine⟨Z w.A-(j+1),AA,j+1,z,a,f,?_⟩
     ((repeat' refine Zi ?_ ?_)<;>first|exact Xq|exact (Own.put (Own.new hO _) _ _)|exact R|exact Xs)
    have U:f x=false:=by
     cases h:f x with
     |false=>rfl
     |true=>exact absurd ((y.o.2 x).1 h) B
    have R:AC (a++[(x:Int)]=aL (w.A.take (j+1)) o/\∀k:Nat,(if k=x then true else f k)=true↔(k:Int)∈a++[(x:Int)]):=by
     refine⟨by rw[D.o,if_neg B],λk=>?_⟩;have h2:=y.o.2 k;by_cases e:k=x
     ·subst e;simp
     rw[if_neg e,h2];have:¬(k:Int)=(x:Int):=AA;simp[this]
    rw[U]at g1;clear y D B;refine nh ?_;intro yb ya;refine Bo (by first|exact S3) (((g.new _).put g.B _).put AA _) (Own.put (Own.put (Own.new hO _) _ _) _ _) nr (by rfl) (by rw[Q,Nat.mul_one]) (by rfl) (by rfl) nr AA AA ?_;intro W σn ai aj ae aa ad ab;simp only[Ac,Aa]at aa;refine Z3 ?_;refine mr ?_;refine⟨Z w.A-(j+1),AA,j+1,W,a++[(x:Int)],λk=>if k=x then true else f k,?_⟩
    ((repeat' refine Zi ?_ ?_)<;>first|exact Xq|exact (nn ai)|exact R|exact (by simp[As])|exact Xs)
   have bd:j=Z w.A:=AA;subst bd;obtain⟨x1,-⟩:=y.o;rw[AS]at x1;rw[<-x1]at A;have A:=A.o;refine mr ?_
   first|exact⟨_,rfl,⟨z,rfl⟩,g⟩|exact⟨_,rfl,⟨z,by rw[A]⟩,g⟩|exact⟨_,rfl,⟨z,rfl⟩⟩|exact⟨_,rfl,z,rfl⟩
 have Q:i=Z q.A:=AA;subst Q;rw[AS]at C;have A:Mo q v=[]:=by
  unfold Mo;rw[KB.2 (λp n=>by rw[C.o p n];simp)]
 refine mr ?_
 first|exact⟨_,rfl,⟨1,rfl⟩,g⟩|exact⟨_,rfl,⟨1,by rw[A];rfl⟩,g⟩|exact⟨_,rfl,1,rfl⟩|exact⟨_,rfl,1,by rw[A];rfl⟩
def Ie {P t z b r σ0 a id l n m c xs e K}(B:P0 P t=some (z,b,r))(g:AD σ0 a)(u:Own σ0 a id n)
  (v:0<z) (f:Z r=z) (p:Z xs=n*z) (A:Z e=m*z) (C:e.all flat=true) (q:0<m) (D:(n+m)*b<=140737488355328) (y:n+m<=1099511627776)
  (h:∀id' σ',Own σ0 σ' id' (n+m)->AD σ0 σ'->σ'.C=a.C->σ'.B=a.B->σ'.ver=a.ver->a.D<σ'.D->(∀i k,Own σ0 a i k->(id=1\/id≠i)->Own σ0 σ' i k/\(id'=1\/id'≠i))->K (sl id' (n+m) (xs++e)) σ'):Jx P t t (sl id n xs) (sl l m e) (a.lay c) K:=by
 unfold Jx iK;left;simp only[B];rw[if_pos ⟨trivial,v,f,p,A,C,q,D,y⟩];rcases u with⟨rfl,rfl⟩|⟨k,rfl,h2,h3,h4,h5⟩;have x:xs=[]:=GG (nn p);subst x
 have:=h ((a.lay c).D+2) ((a.lay c).lay m) (by rw[DY];exact Own.made (g.lay c) q) ((g.lay c).lay m) rfl rfl rfl (by simp[St.lay];omega) (λi k d _=>by
  refine⟨d.keep (((AD.refl _).lay _).lay _),?_⟩;right;rcases d with⟨rfl,-⟩|⟨j,rfl,-,hj,-⟩;simp[St.lay]
  simp[St.lay];omega)
 simpa using this;have s:(a.lay c).top k=n:=by simp[St.lay];rw[if_neg AA];exact h4
 simp only;rw[if_pos ⟨s,h5⟩]
 exact h (k+2) _ (.inr ⟨k,rfl,h2,by simp[St.raise,St.lay];omega,by simp[St.raise],AA⟩) ((g.lay c).raise h2 _) rfl rfl rfl (by simp[St.raise,St.lay]) (λi j d o=>by
  have o:k+2≠i:=by rcases o with h|h<;>omega
  refine⟨?_,.inr o⟩;rcases d with d|⟨j',rfl,g1,g2,g3,g4⟩;exact .inl d
  exact .inr ⟨j',rfl,g1,by simp[St.raise,St.lay];omega,by simp[St.raise,St.lay];rw[if_neg AA,if_neg AA];exact g3,g4⟩)
def Fl (f:Nat->Nat):oh:=(List.range 1026).map λi=>ic (f i:Nat)
def mW:Pg 1026 (.int .i64 0)=Fl λ_=>0:=by
 unfold Pg Fl;rw[List.map_const'];simp[cst1]
def Yn (f):Z (Fl f)=1026:=by simp[Fl]
def Yo (f){k}(h:k<1026):(Fl f)[k]?=some (ic (f k:Nat)):=by simp[Fl,h]
def rI (f){k}(h:k<1026)(b):(Fl f).set k (ic (b:Nat))=Fl λj=>if j=k then b else f j:=by
 apply FL;intro n;rw[GH];by_cases a:n<1026;by_cases c:k=n;subst c;simp[Fl,a];have:n≠k:=λe=>c e.symm;simp[Fl,a,c,this];have:k≠n:=AA;simp[Fl,a,this]
def NZ (v:Int)(n:Int)(p:Part):Bool:=p.A.any λt=>Iu t (Jp p.a.ts v)==n
def Eb (l:List Part)(v n:Int):Bool:=l.all λp=>!Bm p.a.ts v||NZ v n p
def G1 (l:List Part)(v:Int)(p:Part):Part:=if Bm p.a.ts v=true then⟨p.a,p.A.filter λt=>Eb l v (Iu t (Jp p.a.ts v))⟩else p
def Ge (q:AZ)(v:Int):AZ:={q with A:=q.A.map (G1 q.A v)}
def gF (f:Nat->Nat)(a:Nat)(b:Int)(l:List Ck)(k:Nat):Nat:=if f k=a/\l.any (λt=>Iu t b==(k:Int))=true then a+1 else f k
def YI {f a b l t}{x:Nat}(g:Iu t b=(x:Int)):gF f a b (l++[t])=λk=>if k=x/\gF f a b l x=a then a+1 else gF f a b l k:=by
 funext k;have d:(l++[t]).any (λt=>Iu t b==(k:Int))=(l.any (λt=>Iu t b==(k:Int))||decide (k=x)):=by
  rw[MH];simp only[List.any_cons,List.any_nil,Bool.or_false,g];congr 1;by_cases e:k=x;subst e;simp;have:¬(x:Int)=(k:Int):=AA;simp[e,this]
 unfold gF;rw[d];by_cases e:k=x;subst e;by_cases c:f k=a;cases i:l.any (λt=>Iu t b==(k:Int))<;>simp[c];simp[c];simp[e]
def gf (f a pl):gF f a pl []=f:=by funext k;simp[gF]
def oD (q c v)(hc:EQ q c)(hq:Qt q)(hN:QN q)(b):ni 255 [ag c,ic v] b λr σ'=>(∃c',r=ag c'/\EQ (Ge q v) c')/\AD b σ':=by
 obtain⟨Y,ip,G,pc,nc,rfl,hP,cf⟩:=hc;have hpl:=EL.length Ex hP;have hl:=hq.pl;have hz:=mW;refine Z9 113 [.cell 4 191] Tryz.func255 ?_;refine mr ?_
 refine Ae (λm s σ'=>∃(i a:Nat) (f:Nat->Nat),m=Z q.A-i/\i<=Z q.A/\s 1=ic v/\s 2=ptr b.B 0/\s 4=ptr (b.B+1) 0/\s 5=ptr (b.B+2) 0/\s 6=ic a/\s 20=sl ip (Z q.A) pc/\s 21=ic (Z q.A)/\s 22=ic i/\AD b σ'/\b.B+2<σ'.B/\σ'.C b.B=[ic q.h.p,sl Y (Z q.h.ts) (Ad q.h.ts),sl ip (Z q.A) pc,sl G (Z q.B) nc]/\σ'.C (b.B+1)=[ic 0,nilS,nilS,nilS]/\σ'.C (b.B+2)=Fl f/\a<=i/\(∀k,f k<=a)/\AC (∀k,f k=a↔Eb (q.A.take i) v (k:Int)=true)) (Z q.A)
  ⟨0,0,λ_=>0,AA,AA,by simp[upd,AL],AG,AG,AG,AG,AG,AG,rfl,Xs,AM,?_,?_,?_,AA,nk,by simp[AC,Eb]⟩ ?_
 ·rw[Ah AM,Ah AM,Ao]
 ·rw[Ah AM,Be AM AM]
 ·rw[Be AM AM]
 rintro m s σ' ⟨i,a,f,rfl,hi,N,h2,h4,h5,h6,bw,bv,bu,z,a4,a9,W,R,cq,ba,hA⟩;have bz:=z.B;by_cases I:i<Z q.A
 ·have B:=AK I;obtain⟨id,D,r,hd⟩:=F0 hP B;have bo:=hq.pa _ (AR I);have bn:=hq.pt _ (AR I);have a5:=hq.p3 _ (AR I);have a8:=hN _ (AR I);generalize q.A[i]=w at hd B bo bn a5 a8;have bh:Z w.a.ts<=1000:=AA;have U:=λb=>Gw w.a.p id w.a.ts v bh b;have a7:AD b ((σ'.new [ic 0,nilS,nilS]).put σ'.B [ic w.a.p,sl id (Z w.a.ts) (Ad w.a.ts),sl D (Z w.A) (Fg w.A)]):=(z.new _).put z.B _;have bb:AC (∀n,Eb (q.A.take (i+1)) v n=(Eb (q.A.take i) v n&&(!Bm w.a.ts v||NZ v n w))):=by
   intro n;rw[AT,B,BN,Eb,List.all_append];simp[Eb]
  clear B;cases S:Bm w.a.ts v with
  |false=>
   have hp:Jp w.a.ts v= -1:=K1 (by simpa[Bm]using S);have HS:AC (∀k,f k=a↔Eb (q.A.take (i+1)) v (k:Int)=true):=by
    intro k;rw[bb.o,S,hA.o k];simp
   rw[hp]at U;clear hp hA bb;refine m0 ?_;intro yb ya;refine Xi (U _) ?_;rintro _ _ ⟨rfl,A⟩;(have ao:=A.B;have E:=A.C;have a6:=a7.trans A;simp only[Ac,Aa]at ao E);refine mr ?_;refine⟨Z q.A-(i+1),AA,i+1,a,f,?_⟩;exact m9 HS
  |true=>
   obtain⟨d,a0,a3⟩:=K3 S;have HS:AC (∀k,gF f a d w.A k=a+1↔Eb (q.A.take (i+1)) v (k:Int)=true):=by
    intro k;have N:=hA.o k;have h2:=ba k;rw[bb.o,S,BM,<-N];simp only[IY,MA,NZ,a3];unfold gF;by_cases hc:f k=a/\w.A.any (λt=>Iu t d==(k:Int))=true
    ·rw[if_pos hc];exact⟨λ_=>hc,λ_=>rfl⟩
    rw[if_neg hc];exact⟨λh=>AA,λh=>absurd h hc⟩
   have ci:AC (∀k,gF f a d w.A k<=a+1):=by
    intro k;have h2:=ba k;unfold gF;split<;>omega
   rw[a3]at U;clear a3 hA bb;have be:d<3:=AA;have bg:((d:Int)== -1)=false:=nk;have b7:=J4 a5;refine m0 ?_;intro yb ya;refine Xi (U _) ?_;rintro _ _ ⟨rfl,A⟩;(have ao:=A.B;have E:=A.C;have a6:=a7.trans A;simp only[Ac,Aa]at ao E);refine mr ?_;rename_i X;have p0:X.C b.B=[ic q.h.p,sl Y (Z q.h.ts) (Ad q.h.ts),sl ip (Z q.A) pc,sl G (Z q.B) nc]:=by rw[E _ AA,Aj AA,Ah AA,a9]
   have p1:X.C (b.B+1)=[ic 0,nilS,nilS,nilS]:=by rw[E _ AA,Aj AA,Ah AA,W]
   have p2:X.C (b.B+2)=Fl f:=by rw[E _ AA,Aj AA,Ah AA,R]
   clear E A
   refine Ae (λm s u=>∃(j:Nat) (g:Nat->Nat),m=Z w.A-j/\j<=Z w.A/\s 1=ic v/\s 2=ptr b.B 0/\s 4=ptr (b.B+1) 0/\s 5=ptr (b.B+2) 0/\s 6=ic a/\s 9=ic d/\s 20=sl ip (Z q.A) pc/\s 21=ic (Z q.A)/\s 22=ic i/\s 33=sl D (Z w.A) (Fg w.A)/\s 34=ic (Z w.A)/\s 35=ic j/\AD b u/\b.B+2<u.B/\u.C b.B=[ic q.h.p,sl Y (Z q.h.ts) (Ad q.h.ts),sl ip (Z q.A) pc,sl G (Z q.B) nc]/\u.C (b.B+1)=[ic 0,nilS,nilS,nilS]/\u.C (b.B+2)=Fl g/\(∀k,g k<=a+1)/\AC (g=gF f a d (w.A.take j))) (Z w.A)
    ⟨0,f,AA,AA,AI,AI,AI,AI,AI,AG,AI,AI,AI,AG,AG,rfl,a6,AA,p0,p1,p2,λk=>by have:=ba k;omega,by simp[AC,gf]⟩ ?_
   clear p0 p1 p2 N h2 h4 h5 h6 bw bv bu z a4 a9 W R bz a6 a7;rintro m s u ⟨j,g,rfl,hj,N,h2,h4,h5,h6,h9,bw,bv,bu,cx,cw,cv,z,a4,a9,W,R,cd,y⟩;have bz:=z.B;by_cases ap:j<Z w.A
   ·have B:=AK ap;obtain⟨H,r2,bm⟩:=Kw a5 B;obtain⟨x,T,hx⟩:=a8 _ (AR ap) d a0;generalize w.A[j]=t at bm B H T;have cc:=Qk T;have HG:AC (gF f a d (w.A.take (j+1))=λk=>if k=x/\g x=a then a+1 else g k):=by
     have bd:Iu t d=(x:Int):=by simp[Iu,T]
     rw[AC,AT,B,BN,YI bd,y.o]
    clear B T y;have f1:=Io H;have f2:=Ow H;have f3:=Jm H;have f4:=Qj H;have f5:=Fo t;have f6:=eM H;have g1:=Yo g hx;have g2:=rI g hx (a+1);have g3:=Yn g;by_cases K:g x=a
    ·have L:AC ((λk=>if k=x then a+1 else g k)=gF f a d (w.A.take (j+1))):=by
      rw[AC,HG.o];funext k;simp[K]
     have hb:((g x:Int)==(a:Int))=true:=by simp[K]
     rw[K]at g1;have ay:((a+1:Nat):Int)=(a:Int)+1:=AA;rw[ay]at g2;clear ay HG;refine mr ?_;refine⟨Z w.A-(j+1),AA,j+1,λk=>if k=x then a+1 else g k,?_⟩
     ((repeat' refine Zi ?_ ?_)<;>first|exact Xq|exact L|exact (λk=>by have:=cd k;dsimp only;split<;>omega)|exact Xs)
    have L:AC (g=gF f a d (w.A.take (j+1))):=by
     rw[AC,HG.o];funext k;simp[K]
    have hb:((g x:Int)==(a:Int))=false:=by simp;omega
    clear HG K g2;refine mr ?_;refine⟨Z w.A-(j+1),AA,j+1,g,?_⟩;exact m9 L
   have bi:j=Z w.A:=AA;subst bi;have y:=y.o;rw[AS]at y;subst y;refine mr ?_;refine⟨Z q.A-(i+1),AA,i+1,a+1,gF f a d w.A,?_⟩;exact nf HS ci.o
 have cb:i=Z q.A:=AA;subst cb;rw[AS]at hA;clear hi;refine mr ?_
 refine Ae (λm s C=>∃(k P:Nat) (M:oh),m=Z q.A-k/\k<=Z q.A/\s 1=ic v/\s 4=ptr (b.B+1) 0/\s 5=ptr (b.B+2) 0/\s 6=ic a/\s 12=ptr σ'.B 0/\s 63=sl ip (Z q.A) pc/\s 64=ic (Z q.A)/\s 65=ic k/\AD b C/\σ'.B<C.B/\C.C (b.B+1)=[ic 0,nilS,nilS,nilS]/\C.C (b.B+2)=Fl f/\C.C σ'.B=[ic q.h.p,sl Y (Z q.h.ts) (Ad q.h.ts),sl P k M,sl G (Z q.B) nc]/\Own b C P k/\Z M=k*3/\AC (EL Oa ((q.A.take k).map (G1 q.A v)) M)) (Z q.A)
  ⟨0,1,[],AA,AA,AI,AI,AI,AI,AG,AG,AG,rfl,(z.new _).put z.B _,BJ,?_,?_,?_,Own.nil _ _,nk,by simp[AC,EL]⟩ ?_
 ·rw[Aj AA,Ah AA,W]
 ·rw[Aj AA,Ah AA,R]
 ·rw[Ak]
 have ch:=a4;clear N h2 h4 h5 h6 bw bv bu I a9 W R a4 z;generalize br:σ'.B=Q at*
 clear br;rintro m s C ⟨k,P,M,rfl,hk,N,h4,h5,h6,b4,b3,b2,b1,z,a4,W,R,bc,hO,cm,y⟩;have ao:=z.B;by_cases I:k<Z q.A
 ·have B:=AK I;obtain⟨id,D,r,hd⟩:=F0 hP B;have bo:=hq.pa _ (AR I);have bn:=hq.pt _ (AR I);have a5:=hq.p3 _ (AR I);have a8:=hN _ (AR I);generalize q.A[k]=w at hd B bo bn a5 a8;have bh:Z w.a.ts<=1000:=AA;have U:=λb=>Gw w.a.p id w.a.ts v bh b;have a7:AD b ((C.new [ic 0,nilS,nilS]).put C.B [ic w.a.p,sl id (Z w.a.ts) (Ad w.a.ts),sl D (Z w.A) (Fg w.A)]):=(z.new _).put z.B _;have HM:AC ((q.A.take (k+1)).map (G1 q.A v)=(q.A.take k).map (G1 q.A v)++[G1 q.A v w]):=by
   rw[AC,AT,B];simp
  clear B;cases S:Bm w.a.ts v with
  |false=>
   have hp:Jp w.a.ts v= -1:=K1 (by simpa[Bm]using S);have L:AC (EL Oa ((q.A.take (k+1)).map (G1 q.A v)) (M++[ic w.a.p,sl id (Z w.a.ts) (Ad w.a.ts),sl D (Z w.A) (Fg w.A)])):=by
    rw[AC,HM.o];refine EL.append y.o (EL.single ?_);rw[G1,if_neg (by rw[S];simp)];exact⟨id,D,rfl⟩
   rw[hp]at U;clear hp HM y;refine m0 ?_;intro yb ya;refine Xi (U _) ?_;rintro _ _ ⟨rfl,A⟩;(have az:=A.B;have E:=A.C;have a6:=a7.trans A;have bp:=Own.keep (Own.put (Own.new hO _) _ _) A;simp only[Ac,Aa]at az E);refine m5 ?_;intro yb ya;intro J σn aj ak ae aa af ab;refine mr ?_;refine⟨Z q.A-(k+1),AA,k+1,J,M++[ic w.a.p,sl id (Z w.a.ts) (Ad w.a.ts),sl D (Z w.A) (Fg w.A)],?_⟩
   ((repeat' refine Zi ?_ ?_)<;>first|exact Xq|exact (ak.put AA _)|exact (Own.put aj _ _)|exact L|exact Xs)
  |true=>
   obtain⟨d,a0,a3⟩:=K3 S;have cj:AC (G1 q.A v w=⟨w.a,w.A.filter λt=>Eb q.A v (Iu t d)⟩):=by rw[AC,G1,if_pos S,a3]
   rw[a3]at U;clear a3;have be:d<3:=AA;have bg:((d:Int)== -1)=false:=nk;have b7:=J4 a5;have ce:AC _:=y;refine m0 ?_;intro yb ya;refine Xi (U _) ?_;rintro _ _ ⟨rfl,A⟩;(have az:=A.B;have E:=A.C;have a6:=a7.trans A;have bp:=Own.keep (Own.put (Own.new hO _) _ _) A;simp only[Ac,Aa]at az E);refine mr ?_;rename_i F;have p1:F.C (b.B+1)=[ic 0,nilS,nilS,nilS]:=by rw[E _ AA,Aj AA,Ah AA,W]
   have p2:F.C (b.B+2)=Fl f:=by rw[E _ AA,Aj AA,Ah AA,R]
   have p3:F.C Q=[ic q.h.p,sl Y (Z q.h.ts) (Ad q.h.ts),sl P k M,sl G (Z q.B) nc]:=by rw[E _ AA,Aj AA,Ah AA,bc]
   clear E A
   refine Ae (λm s l=>∃(j V:Nat) (o:List Ck) (O:oh),m=Z w.A-j/\j<=Z w.A/\s 1=ic v/\s 4=ptr (b.B+1) 0/\s 5=ptr (b.B+2) 0/\s 6=ic a/\s 12=ptr Q 0/\s 15=ic d/\s 16=ptr F.B 0/\s 63=sl ip (Z q.A) pc/\s 64=ic (Z q.A)/\s 65=ic k/\s 85=sl D (Z w.A) (Fg w.A)/\s 86=ic (Z w.A)/\s 87=ic j/\AD b l/\F.B<l.B/\l.C (b.B+1)=[ic 0,nilS,nilS,nilS]/\l.C (b.B+2)=Fl f/\l.C Q=[ic q.h.p,sl Y (Z q.h.ts) (Ad q.h.ts),sl P k M,sl G (Z q.B) nc]/\l.C F.B=[ic w.a.p,sl id (Z w.a.ts) (Ad w.a.ts),sl V (Z o) O]/\Own b l P k/\Own b l V (Z o)/\(V=1\/V≠P)/\Z o<=j/\Z O=Z o*3/\AC (O=Fg o/\o=(w.A.take j).filter λt=>Eb q.A v (Iu t d))) (Z w.A)
    ⟨0,1,[],[],AA,AA,AI,AI,AI,AI,AI,AG,AG,AI,AI,AI,AG,AG,rfl,(a6.new _).put AA _,BJ,?_,?_,?_,?_,Own.put (Own.new bp _) _ _,Own.nil _ _,.inl rfl,nk,nk,⟨rfl,nk⟩⟩ ?_
   ·rw[Aj AA,Ah AA,p1]
   ·rw[Aj AA,Ah AA,p2]
   ·rw[Aj AA,Ah AA,p3]
   ·rw[Ak];simp
   have c5:Q<F.B:=AA;clear p1 p2 p3 N h4 h5 h6 b4 b3 b2 b1 z a4 W R bc hO bp a6 a7 y ao;rintro m s l ⟨j,V,o,O,rfl,hj,N,h4,h5,h6,b4,cz,cy,b3,b2,b1,cu,ct,cr,z,a4,W,R,bc,ck,b0,hO,b9,cn,b6,y⟩;have b5:=z.B;by_cases ap:j<Z w.A
   ·have B:=AK ap;obtain⟨H,r2,bm⟩:=Kw a5 B;obtain⟨x,T,hx⟩:=a8 _ (AR ap) d a0;generalize w.A[j]=t at bm B H T;have cc:=Qk T;have HF:AC ((w.A.take (j+1)).filter (λt=>Eb q.A v (Iu t d))=(w.A.take j).filter (λt=>Eb q.A v (Iu t d))++if f x=a then [t]else []):=by
     have bd:Iu t d=(x:Int):=by simp[Iu,T]
     rw[AC,AT,B,BN,Em,bd];congr 1;have N:=hA.o x;by_cases e:f x=a
     ·rw[if_pos e,if_pos (N.1 e)]
     rw[if_neg e,if_neg (λh=>e (N.2 h))]
    clear B T;have f1:=Io H;have f2:=Ow H;have f3:=Jm H;have f4:=Qj H;have f5:=Fo t;have f6:=eM H;have g1:=Yo f hx;have g3:=Yn f;have cp:=ba x;by_cases K:f x=a
    ·have L:AC (O++As t=Fg (o++[t])/\o++[t]=(w.A.take (j+1)).filter λt=>Eb q.A v (Iu t d)):=by
      obtain⟨x1,x2⟩:=y.o;exact⟨by rw[x1,Q9],by rw[HF.o,if_pos K,x2]⟩
     have hb:((f x:Int)==(a:Int))=true:=by simp[K]
     clear y HF K;refine nh ?_;intro yb ya;refine Ie (by first|exact G6|exact Ee) ((z.new _).put z.B _) (Own.put (Own.new hO _) _ _) nr (by rfl) b6 (by rw[f1]) f5 nr AA AA ?_;intro J σn aj ak ae aa af ab bf;obtain⟨bq,b8⟩:=bf P k (Own.put (Own.new b0 _) _ _) b9;simp only[Ac,Aa]at aa;have eob:∀p,p<l.B->σn.C p=l.C p:=λp hp=>by rw[ae,Aj AA,Ah AA]
     refine Z3 ?_;refine mr ?_;refine⟨Z w.A-(j+1),AA,j+1,J,o++[t],O++As t,?_⟩
     ((repeat' refine Zi ?_ ?_)<;>first|exact Xq|exact (ak.put AA _)|exact (nn (Own.put aj _ _))|exact (Own.put bq _ _)|exact L|exact Xs)
    have L:AC (O=Fg o/\o=(w.A.take (j+1)).filter λt=>Eb q.A v (Iu t d)):=by
     obtain⟨x1,x2⟩:=y.o;exact⟨x1,by rw[HF.o,if_neg K,x2,EJ]⟩
    have hb:((f x:Int)==(a:Int))=false:=by simp;omega
    clear y HF K;refine mr ?_;refine⟨Z w.A-(j+1),AA,j+1,V,o,O,?_⟩
    ((repeat' refine Zi ?_ ?_)<;>first|exact Xq|exact (Own.put (Own.new hO _) _ _)|exact (Own.put (Own.new b0 _) _ _)|exact L|exact Xs)
   have bi:j=Z w.A:=AA;subst bi;obtain⟨x1,x2⟩:=y.o;rw[AS]at x2;have L:AC (EL Oa ((q.A.take (k+1)).map (G1 q.A v)) (M++[ic w.a.p,sl id (Z w.a.ts) (Ad w.a.ts),sl V (Z o) O])):=by
    rw[AC,HM.o];refine EL.append ce.o (EL.single ?_);rw[cj.o,<-x2];exact⟨id,V,by rw[x1]⟩
   clear y x1 x2;refine m5 ?_;intro yb ya;intro J σn aj ak ae aa af ab;refine mr ?_;refine⟨Z q.A-(k+1),AA,k+1,J,M++[ic w.a.p,sl id (Z w.a.ts) (Ad w.a.ts),sl V (Z o) O],?_⟩
   ((repeat' refine Zi ?_ ?_)<;>first|exact Xq|exact (ak.put AA _)|exact (Own.put aj _ _)|exact L|exact Xs)
 have ca:k=Z q.A:=AA;subst ca;rw[AS]at y;have cg:Z (q.A.map (G1 q.A v))=Z q.A:=by rw[BV]
 refine mr ?_;exact⟨_,rfl,⟨_,rfl,Y,P,G,M,nc,by simp only[Ge];rw[cg],y.o,cf⟩,z.put AA _⟩
inductive CF (q:AZ):AZ->Prop where
 |refl:CF q q
 |tail {q':AZ} (v:Int):CF q q'->CF q (Ge q' v)
def Ti (l v p):(G1 l v p).a=p.a:=by unfold G1;split<;>rfl
def Rq (l v p):∀t∈(G1 l v p).A,t∈p.A:=by
 unfold G1;split;intro t a;exact (BP.1 a).1;exact λt a=>a
def mX (l v p):Z (G1 l v p).A<=Z p.A:=by
 unfold G1;split;exact IS _ _;exact AU _
def VZ {q v}(h:Qt q):Qt (Ge q v):=by
 have d:∀p∈(Ge q v).A,∃a∈q.A,G1 q.A v a=p:=λp b=>AN.1 b;refine⟨h.hd,by simp[Ge];exact h.pl,h.nl,λp b=>?_,λp b=>?_,λp b=>?_,h.na⟩;obtain⟨a,c,rfl⟩:=d p b;rw[Ti];exact h.pa a c;obtain⟨a,c,rfl⟩:=d p b;exact BI (mX _ _ _) (h.pt a c);obtain⟨a,c,rfl⟩:=d p b;exact λt e=>h.p3 a c t (Rq _ _ _ t e)
def ZA {q v}(h:QN q):QN (Ge q v):=λp a t d=>by
 obtain⟨b,c,rfl⟩:=AN.1 a;rw[Ti];exact h b c t (Rq _ _ _ t d)
def CF.ok {q a}(h:CF q a)(b:Qt q):Qt a:=by
 induction h with
 |refl=>exact b
 |tail v _ c=>exact VZ c
def CF.n {q a}(h:CF q a)(b:QN q):QN a:=by
 induction h with
 |refl=>exact b
 |tail v _ c=>exact ZA c
def S9 (q:AZ)(v:Int):AZ:=if 1<Dt (q.A.map (·.a)) v then Ge q v else q
def pH (q:AZ)(vs:List Int):AZ:=vs.foldl S9 q
def lG {q}(h:Qt q):Da q.A<=320000:=by
 have g:=h.pl;have c:=h.pt;have:∀l:List Part,(∀p∈l,Z p.A<=5000)->Da l<=Z l*5000:=by
  intro l;induction l with
  |nil=>intro _;simp[Da]
  |cons a l b=>
   intro h;have f:=h a nk;have i:=b (λp d=>h p (by simp[d]));simp only[Da,CC,List.sum_cons,BQ]at*
   omega
 have e:=this q.A c;omega
def yV (q c)(hc:EQ q c)(hq:Qt q)(hN:QN q)(b):ni 220 [ag c] b λr σ'=>(∃c' q' e,r=ag c'/\EQ q' c'/\CF q e/\CF q q'/\q'=pH e (Cs (atomsQ e))/\Da e.A<=Da q'.A)/\AD b σ':=by
 have I:=λb=>Yz q c hc hq b;have bd:=lG hq;have HC:AC (EQ q c):=hc;obtain⟨ih0,ip0,in0,pc0,nc0,rfl,-,-⟩:=hc;refine Z9 32 [.cell 2 191] Tryz.func220 ?_;refine m0 ?_;intro yb ya;refine Xi (I _) ?_;rintro _ _ ⟨rfl,l⟩;(have L:=l.B;have x:=l.C;have g:=(((AD.refl b).new _).new _).trans l;simp only[Aa]at L x);refine mr ?_;rename_i O;have o0:O.C b.B=[ic q.h.p,sl ih0 (Z q.h.ts) (Ad q.h.ts),sl ip0 (Z q.A) pc0,sl in0 (Z q.B) nc0]:=by rw[x _ AA,Ah AM,Ao]
 have o1:O.C (b.B+1)=[ic 0,nilS,nilS,nilS]:=by rw[x _ AA,Be AM AM]
 clear x l
 refine Ae (λm s σ'=>∃(d:AZ) (V:oh),s 1=ptr b.B 0/\s 2=ptr (b.B+1) 0/\s 3=ic m/\m<=320001/\AD b σ'/\b.B+1<σ'.B/\σ'.C b.B=V/\σ'.C (b.B+1)=[ic 0,nilS,nilS,nilS]/\AC (EQ d V/\CF q d/\(Da d.A<m\/∃e,CF q e/\d=pH e (Cs (atomsQ e))/\Da e.A=m))) (Da q.A+1)
  ⟨q,_,AG,AG,AG,AA,g,AA,o0,o1,HC.o,.refl,.inl AA⟩ ?_
 clear o0 o1 g L I bd HC;rintro m s σ' ⟨d,V,N,T,h3,hm,f,be,ax,aw,t⟩;have b0:=f.B;have C:=t.o.2.1.ok hq;have bf:=t.o.2.1.n hN;have I:=λb=>Yz d V t.o.1 C b;have bg:=λb=>Kd d V t.o.1 C b;have bd:=lG C;obtain⟨ihk,ipk,ink,pck,nck,rfl,-,-⟩:=t.o.1;have bb:=N6 C;have b2:=Jv C;have a7:=λ(X:oh) (i:Nat) (hE:EL O9 (atomsQ d) X) (b:St)=>Hy (atomsQ d) X i hE bb AA b;have bn:=Fs bb;have b6:AC (Qt d/\QN d):=⟨C,bf⟩;by_cases bp:Da d.A<m
 ·generalize bc:Cs (atomsQ d)=k at a7 bn;have bw:AC _:=bc;clear bc bb bf C;generalize a4:Da d.A=R at*
  have bz:AC _:=a4;clear a4
  repeat' first|refine Z1 ?_|refine Z8 λyb ya=>?_|refine Z4 ?_;clear ya yb|refine Z2 ?_ ?_<;>intro h ae<;>try exact Xp|(refine Z5 ?_;first|(refine Xi (I _) ?_;rintro _ _ ⟨rfl,l⟩;(have L:=l.B;have x:=l.C;have g:=f.trans l;clear f l;have f:=g;clear g))|(refine Xi (bg _) ?_;rintro _ _ ⟨ida,X,rfl,hE,av⟩;(have a3:=av.B;have an:=av.C;have g:=f.trans av;clear av f;have f:=g;clear g;have ao:=a7 X ida hE))|(refine Xi (ao _) ?_;rintro _ _ ⟨⟨idv,rfl⟩,au⟩;(have a0:=au.B;have am:=au.C;have g:=f.trans au;clear au f;have f:=g;clear g)))|refine Z3 ?_|exact Zt|apply ya.o;clear ya yb
  rename_i σa A n σb σc σd;have b1:=B9 k;have D:∀p,p<σ'.B->σd.C p=σ'.C p:=λp hp=>by rw[am _ AA,an _ AA,x _ AA,n _ AA]
  refine Ae (λm' s u=>∃(j:Nat) (a:AZ) (K:oh),m'=Z k-j/\j<=Z k/\s 1=ptr b.B 0/\s 2=ptr (b.B+1) 0/\s 3=ic R/\s 17=sl idv (Z k) (As k)/\s 18=ic (Z k)/\s 19=ic j/\AD b u/\b.B+1<u.B/\u.C b.B=K/\u.C (b.B+1)=[ic 0,nilS,nilS,nilS]/\AC (EQ a K/\CF q a/\a=pH d (k.take j))) (Z k)
   ⟨0,d,_,AA,AA,AI,AI,AI,AG,AG,rfl,f,AA,rfl,by rw[D _ AA,aw],by rw[D _ AA,ax];exact t.o.1,t.o.2.1,by simp[pH]⟩ ?_
  clear D am an x n f ax aw N T h3 be I bg a7 ao hE a0 a3 L A;rintro m' s u ⟨j,a,K,rfl,hj,N,T,h3,b5,b4,b3,f,be,ax,aw,o⟩;have L:=f.B;have a5:=o.o.2.1.ok hq;have bo:=o.o.2.1.n hN;have M:=λv b=>Ml a K v o.o.1 a5 b;have a8:=λv b=>oD a K v o.o.1 a5 bo b;have ap:∀v,Dt (a.A.map (·.a)) v<=64:=λv=>by
   have N:=vR (a.A.map (·.a)) v;have T:=a5.pl;simp at N;omega
  have bh:AC (EQ a K):=o.o.1;obtain⟨H,E,F,z,G,rfl,-,-⟩:=o.o.1;by_cases a6:j<Z k
  ·have Y:=AK a6;obtain⟨r,hd⟩:=D2 Y;generalize k[j]=v at hd Y;have y:AC (pH d (k.take (j+1))=S9 a v):=by
    rw[AC,AT,Y,BN,pH,List.foldl_append,o.o.2.2];rfl
   clear Y;have M:=M v;have a8:=a8 v;have ap:=ap v;by_cases J:1<Dt (a.A.map (·.a)) v
   ·have y:AC (pH d (k.take (j+1))=Ge a v):=by rw[AC,y.o,S9,if_pos J]
    generalize Dt (a.A.map (·.a)) v=cn at M J ap;have hb:decide ((cn:Int)>1)=true:=by simp;omega
    clear J
    (repeat (refine m0 ?_;intro yb ya;(first|(refine Xi (M _) ?_;rintro _ _ ⟨rfl,B⟩;(have az:=B.B;have ay:=B.C;have g:=f.trans B))|(refine Xi (a8 _) ?_;rintro _ _ ⟨⟨_,rfl,W,Q,S,P,U,rfl,br,bu⟩,a9⟩;(have bm:=a9.B;have bi:=a9.C;have bv:=g.trans a9)))));refine mr ?_
    refine⟨Z k-(j+1),AA,j+1,Ge a v,[ic (Ge a v).h.p,sl W (Z (Ge a v).h.ts) (Ad (Ge a v).h.ts),sl Q (Z (Ge a v).A) P,sl S (Z (Ge a v).B) U],?_⟩
    ((repeat' refine Zi ?_ ?_)<;>first|exact Xq|exact (bv.put AA _)|exact (⟨⟨W,Q,S,P,U,rfl,br,bu⟩,.tail v o.o.2.1,y.o.symm⟩)|exact Xs)
   have y:AC (pH d (k.take (j+1))=a):=by rw[AC,y.o,S9,if_neg J]
   generalize Dt (a.A.map (·.a)) v=cn at M J ap;have hb:decide ((cn:Int)>1)=false:=by simp;omega
   clear J;refine m0 ?_;intro yb ya;refine Xi (M _) ?_;rintro _ _ ⟨rfl,B⟩;(have az:=B.B;have ay:=B.C;have g:=f.trans B);refine mr ?_;refine⟨Z k-(j+1),AA,j+1,a,[ic a.h.p,sl H (Z a.h.ts) (Ad a.h.ts),sl E (Z a.A) z,sl F (Z a.B) G],?_⟩
   ((repeat' refine Zi ?_ ?_)<;>first|exact Xq|exact (⟨bh.o,o.o.2.1,y.o.symm⟩)|exact Xs)
  have bq:j=Z k:=AA;subst bq;have ba:=o.o.2.2;rw[AS]at ba
  have HF:AC (EQ a [ic a.h.p,sl H (Z a.h.ts) (Ad a.h.ts),sl E (Z a.A) z,sl F (Z a.B) G]/\CF q a/\(Da a.A<R\/∃e,CF q e/\a=pH e (Cs (atomsQ e))/\Da e.A=R)):=
   ⟨bh.o,o.o.2.1,.inr ⟨d,t.o.2.1,by rw[bw.o];exact ba,bz.o⟩⟩
  clear ba;refine mr ?_;refine⟨R,AA,a,[ic a.h.p,sl H (Z a.h.ts) (Ad a.h.ts),sl E (Z a.A) z,sl F (Z a.B) G],?_⟩;exact m9 HF
 have hR:∃e,CF q e/\d=pH e (Cs (atomsQ e))/\Da e.A<=Da d.A:=by
  rcases t.o.2.2 with h|⟨e,N,T,h3⟩
  ·exact absurd h bp
  exact⟨e,N,T,AA⟩
 have y:AC _:=hR;clear hR;generalize a4:Da d.A=R at*
 refine m0 ?_;intro yb ya;refine Xi (I _) ?_;rintro _ _ ⟨rfl,l⟩;(have L:=l.B;have x:=l.C;have g:=f.trans l);refine mr ?_;obtain⟨e,r1,r2,r3⟩:=y.o;exact⟨_,rfl,⟨_,d,e,rfl,t.o.1,r1,t.o.2.1,r2,AA⟩,g.put AA _⟩
def Ym:∀{l m:List Int},l.Nodup->(∀x∈l,x∈m)->Z l<=Z m
 |[],m,_,_=>nk
 |a::l,m,j,f=>by
  have d:=List.nodup_cons.1 j;have b:=f a nk
  have g:=Ym (l:=l) (m:=m.erase a) d.2 (λx c=>by
   have i:x≠a:=λe=>d.1 (e ▸ c)
   exact (List.mem_erase_of_ne i).2 (f x (by simp[c])))
  rw[List.length_erase_of_mem b]at g;have:0<Z m:=List.length_pos_of_mem b;simp only[BQ];omega
def Vt:∀(l:List Ck) (c:Int) (acc:List Int),acc.Nodup->(l.foldl (wQ c) acc).Nodup
 |[],c,acc,h=>h
 |t::l,c,acc,h=>by
  rw[FW];apply Vt;unfold wQ;split;exact h;rename_i e;rw[IP];exact⟨h,nk,λa f b d=>by simp at d;subst d;rintro rfl;exact e f⟩
def Vu:∀(l:List Ck) (b:Int) (acc:List Int) (n:Int),n∈l.foldl (wQ b) acc↔n∈acc\/∃t∈l,Iu t b=n
 |[],b,acc,n=>nk
 |t::l,b,acc,n=>by
  rw[FW,Vu];unfold wQ;by_cases c:Iu t b∈acc;rw[if_pos c];constructor;rintro (h|⟨u,a,e⟩);exact .inl h;exact .inr ⟨u,by simp[a],e⟩;rintro (h|⟨u,a,e⟩);exact .inl h;rcases BD.1 a with rfl|a;exact .inl (e ▸ c);exact .inr ⟨u,a,e⟩;rw[if_neg c];constructor;rintro (h|⟨u,a,e⟩);rcases AW.1 h with h|h;exact .inl h;simp at h;exact .inr ⟨t,nk,h.symm⟩;exact .inr ⟨u,by simp[a],e⟩;rintro (h|⟨u,a,e⟩);exact .inl (AW.2 (.inl h));rcases BD.1 a with rfl|a;exact .inl (AW.2 (.inr (by simp[e])));exact .inr ⟨u,a,e⟩
def Vv {q}(j:QN q)(v):Z (Mo q v)<=1026:=by
 have f:Z ((List.range 1026).map λk:Nat=>(k:Int))=1026:=nk;rw[<-f];unfold Mo;split;rename_i p c;have d:=ME c;have l:Bm p.a.ts v=true:=nn (List.find?_some c);obtain⟨m,a,i⟩:=K3 l;rw[i];apply Ym (Vt _ _ _ GN);intro n b;unfold aL at b;rw[Vu]at b;rcases b with h|⟨t,ht,e⟩;cases h;obtain⟨x,g,o⟩:=j p d t ht m a;rw[AN];exact⟨x,nn o,by rw[<-e];simp[Iu,g]⟩;simp
def QV (q:AZ):Prop:=∀a∈atomsQ q,∀v,(true,v)∈a.ts->0<=v
def gX (q c)(F:EQ q c)(p:Qt q)(hN:QN q)(hV:QV q)(d):ni 222 [ag c] d λr σ'=>(∃b,r=ic b/\((b= -1/\∀v∈Cs (atomsQ q),Dq q v=false)\/(b∈Cs (atomsQ q)/\Dq q b=true)))/\AD d σ':=by
 have Q:=λd=>Kd q c F p d;have l:=λv d=>R8 q c v F p d;have M:=λv d=>L4 q c v F p hN d;have R:=λv=>Vv hN v;have P:=N6 p;have bi:=Jv p;have W:=λ(z:oh) (i:Nat) (G:EL O9 (atomsQ q) z) (d:St)=>Hy (atomsQ q) z i G P AA d;have bd:=Fs P;obtain⟨O,ip,t,pc,V,rfl,-,-⟩:=F;generalize Cs (atomsQ q)=a at*
 have be:=B9 a;refine Z9 31 [.tmp 2] Tryz.func222 ?_
 repeat' first|refine Z1 ?_|refine Z8 λyb ya=>?_|refine Z4 ?_;clear ya yb|refine Z2 ?_ ?_<;>intro h ad<;>try exact Xp|(refine Z5 ?_;first|(refine Xi (Q _) ?_;rintro _ _ ⟨H,z,rfl,G,D⟩;(have S:=D.B;have I:=D.C;have e:=((AD.refl d).new _).trans D;have ak:=W z H G;simp only[Aa]at S I))|(refine Xi (ak _) ?_;rintro _ _ ⟨⟨L,rfl⟩,E⟩;(have av:=E.B;have ai:=E.C;have n:=e.trans E;clear E e;have e:=n;clear n)))|refine Z3 ?_|exact Zt|apply ya.o;clear ya yb
 rename_i σa K;have X:K.C d.B=[ic q.h.p,sl O (Z q.h.ts) (Ad q.h.ts),sl ip (Z q.A) pc,sl t (Z q.B) V]:=by rw[ai _ AA,I _ AA,Ao]
 clear I ai Q W ak G D
 refine Ae (λm s σ'=>∃(j w:Nat) (b:Int),m=Z a-j/\j<=Z a/\s 1=ptr d.B 0/\s 3=ic b/\s 4=ic w/\s 10=sl L (Z a) (As a)/\s 11=ic (Z a)/\s 12=ic j/\AD d σ'/\d.B<σ'.B/\σ'.C d.B=[ic q.h.p,sl O (Z q.h.ts) (Ad q.h.ts),sl ip (Z q.A) pc,sl t (Z q.B) V]/\w<=1027/\AC ((b= -1/\w=1027/\∀v∈a.take j,Dq q v=false)\/(b∈a/\Dq q b=true))) (Z a)
  ⟨0,1027,-1,AA,AA,AG,AG,AG,AG,AG,rfl,e,AA,X,AA,.inl ⟨rfl,rfl,nk⟩⟩ ?_
 clear e X S av;rintro m s σ' ⟨j,w,b,rfl,hj,x,o,h4,bo,bn,bm,e,bg,bb,hw,g⟩;have bc:=e.B;by_cases Y:j<Z a
 ·have C:=AK Y;obtain⟨r,hd⟩:=D2 C;have J:=AR Y;generalize a[j]=v at hd C J;have l:=l v;have M:=M v;have R:=R v
  have A:AC (v∈a/\∀u∈a.take (j+1),u∈a.take j\/u=v):=⟨J,λu B=>by
   rw[AT,C,BN]at B;rcases AW.1 B with h|h
   ·exact .inl h
   simp at h;exact .inr h⟩
  clear C J;cases k:Dq q v with
  |false=>
   rw[k]at l;have y:AC ((b= -1/\w=1027/\∀v∈a.take (j+1),Dq q v=false)\/(b∈a/\Dq q b=true)):=by
    rcases g.o with⟨x,T,o⟩|h
    ·refine .inl ⟨x,T,λu B=>?_⟩;rcases A.o.2 u B with h|rfl
     ·exact o u h
     exact k
    exact .inr h
   clear g A k;refine m0 ?_;intro yb ya;refine Xi (l _) ?_;rintro _ _ ⟨rfl,f⟩;(have au:=f.B;have ap:=f.C;have n:=e.trans f);refine mr ?_;refine⟨Z a-(j+1),AA,j+1,w,b,?_⟩;exact m9 y
  |true=>
   rw[k]at l;have ba:AC ((v= -1/\Z (Mo q v)=1027/\∀v∈a.take (j+1),Dq q v=false)\/(v∈a/\Dq q v=true)):=.inr ⟨A.o.1,k⟩;have a9:AC (¬Z (Mo q v)<w->(b= -1/\w=1027/\∀v∈a.take (j+1),Dq q v=false)\/(b∈a/\Dq q b=true)):=λhn=>by
    rcases g.o with⟨x,T,o⟩|h
    ·omega
    exact .inr h
   clear g A k;generalize U:Mo q v=vq at*
   have bp:AC _:=U;clear U;have bf:=B9 vq
   (repeat (refine m0 ?_;intro yb ya;(first|(refine Xi (l _) ?_;rintro _ _ ⟨rfl,f⟩;(have au:=f.B;have ap:=f.C;have n:=e.trans f))|(refine Xi (M _) ?_;rintro _ _ ⟨⟨idq,rfl⟩,N⟩;(have a7:=N.B;have a6:=N.C;have bh:=n.trans N)))));refine m6 ?_ ?_<;>intro h ad
   ·refine⟨Z a-(j+1),AA,j+1,Z vq,v,?_⟩
    exact m9 ba
   refine⟨Z a-(j+1),AA,j+1,w,b,?_⟩;exact m9 (a9.o AA)
 have a8:j=Z a:=AA;subst a8;rw[AS]at g;have y:AC ((b= -1/\∀v∈a,Dq q v=false)\/(b∈a/\Dq q b=true)):=by
  rcases g.o with⟨x,-,o⟩|h
  ·exact .inl ⟨x,o⟩
  exact .inr h
 refine mr ?_
 first|exact⟨_,rfl,⟨b,rfl,y.o⟩,e⟩|exact⟨_,rfl,b,rfl,y.o⟩
def F1 (l:List Dx)(b c:List Int):Prop:=∀a∈l,b.any (Bm a.ts)=true->∀v,(true,v)∈a.ts->v∈c
def Grown (a V rs:List Int):Prop:=∃b:List Int,rs=a++b/\b.Nodup/\∀v∈b,v∈V
def Grown.le {a V rs}(h:Grown a V rs):Z rs<=Z a+Z V:=by
 obtain⟨d,rfl,b,c⟩:=h;have:=Ym b c;simp;omega
def Grown.snoc {c V rs}(h:Grown c V rs){v}(g:v∈V)(j:v∉rs):Grown c V (rs++[v]):=by
 obtain⟨l,rfl,k,i⟩:=h;refine⟨l++[v],nk,?_,?_⟩;rw[IP];exact⟨k,nk,λa f b d=>by simp at d;subst d;rintro rfl;exact j (AW.2 (.inr f))⟩;intro u e;rcases AW.1 e with h|h;exact i u h;simp at h;subst h;exact g
def bB (q c init idi)(hc:EQ q c)(hq:Qt q)(cg:Z init<=200)(e):ni 224 [ag c,sl idi (Z init) (As init)] e λr σ'=>(∃id rs,r=sl id (Z rs) (As rs)/\Grown init (Cs (atomsQ q)) rs/\F1 (atomsQ q) rs rs)/\AD e σ':=by
 have b8:=λe=>Kd q c hc hq e;have bi:=N6 hq;have cn:=Jv hq;have ck:=Fs bi;have b6:∀a∈atomsQ q,∀v,(true,v)∈a.ts->v∈Cs (atomsQ q):=λa ha v i=>(Dn _ _).2 ⟨a,ha,i⟩;obtain⟨ih,ip,F,pc,nc,rfl,-,-⟩:=hc;generalize Cs (atomsQ q)=V at*
 generalize atomsQ q=l at*
 have ch:=B9 init;refine Z9 66 [.tmp 4] Tryz.func224 ?_;refine mr ?_
 refine Ae (λm s σ'=>∃(j A:Nat) (rs:List Int),m=Z init-j/\j<=Z init/\s 2=ptr e.B 0/\s 5=sl A (Z rs) (As rs)/\s 14=sl idi (Z init) (As init)/\s 15=ic (Z init)/\s 16=ic j/\AD e σ'/\e.B<σ'.B/\σ'.C e.B=[ic q.h.p,sl ih (Z q.h.ts) (Ad q.h.ts),sl ip (Z q.A) pc,sl F (Z q.B) nc]/\Own e σ' A (Z rs)/\Z rs<=j/\AC (rs=init.take j)) (Z init)
  ⟨0,1,[],AA,AA,AG,by simp[upd,As],by simp[upd,AL],AG,rfl,Xs,AM,by rw[Ao],Own.nil _ _,nk,by simp[AC]⟩ ?_
 rintro m s σ' ⟨j,A,rs,rfl,hj,J,X,cb,ca,b9,g,N,I,x,be,U⟩;have W:=g.B;by_cases a9:j<Z init
 ·have o:=AK a9;obtain⟨r,hd⟩:=D2 o;generalize init[j]=v at hd o;have HR:AC (rs++[v]=init.take (j+1)):=by rw[AC,AT,o,BN,U.o]
  have b0:=B9 rs;clear o U;refine m5 ?_;intro yb ya;intro M σn ai aj af ab ae aa;refine mr ?_;refine⟨Z init-(j+1),AA,j+1,M,rs++[v],?_⟩
  ((repeat' refine Zi ?_ ?_)<;>first|exact Xq|exact (nn ai)|exact HR|exact (by simp[As])|exact Xs)
 have bc:j=Z init:=AA;subst bc;rw[AS]at U;have U:=U.o.symm;subst U;clear a9 hj;refine mr ?_
 refine Ae (λm s σ'=>∃(B A:Nat) (O:Int) (rs:List Int),m=2*(Z init+Z V-Z rs)+(if O<(Z rs:Int)then 1 else 0)/\(O=B\/(O= -1/\B=0))/\s 2=ptr e.B 0/\s 5=sl A (Z rs) (As rs)/\s 8=ic O/\AD e σ'/\e.B<σ'.B/\σ'.C e.B=[ic q.h.p,sl ih (Z q.h.ts) (Ad q.h.ts),sl ip (Z q.A) pc,sl F (Z q.B) nc]/\Own e σ' A (Z rs)/\Z rs<=Z init+Z V/\B<=Z rs/\AC (Grown init V rs/\F1 l (rs.take B) rs)) (2*(Z init+Z V-Z init)+1)
  ⟨0,A,-1,init,by rw[if_pos AA],.inr ⟨rfl,rfl⟩,AI,AI,AG,g,N,I,x,AA,AA,⟨[],nk,GN,nk⟩,λa ha h=>by simp at h⟩ ?_
 clear g N I x J X cb ca b9 W;rintro m s σ' ⟨B,A,O,rs,rfl,b7,J,X,h8,g,N,I,x,be,cm,hG⟩;have W:=g.B;have b0:=B9 rs;by_cases a9:O<(Z rs:Int)
 ·rw[if_pos a9]
  refine m0 ?_;intro yb ya;refine Xi (b8 _) ?_;rintro _ _ ⟨ida,cs,rfl,hE,a7⟩;(have bb:=a7.B;have a3:=a7.C;have K:=g.trans a7;have L:=Own.keep x a7);refine mr ?_;rename_i σa;have cj:=EL.length Iz hE
  refine Ae (λm s y=>∃(k Q:Nat) (f:List Int),m=Z l-k/\k<=Z l/\s 2=ptr e.B 0/\s 5=sl Q (Z f) (As f)/\s 8=ic (Z rs)/\s 32=sl ida (Z l) cs/\s 33=ic (Z l)/\s 34=ic k/\AD e y/\e.B<y.B/\y.C e.B=[ic q.h.p,sl ih (Z q.h.ts) (Ad q.h.ts),sl ip (Z q.A) pc,sl F (Z q.B) nc]/\Own e y Q (Z f)/\Z f<=Z init+Z V/\Z rs<=Z f/\AC (Grown init V f/\f.take (Z rs)=rs/\F1 (l.take k) rs f)) (Z l)
   ⟨0,A,rs,AA,AA,AI,AI,AI,AG,AG,rfl,K,AA,by rw[a3 _ AA,I],L,be,AA,hG.o.1,nk,λa ha=>by simp at ha⟩ ?_
  clear K L a3 g x I N J X h8 W a7 bb;rintro m s y ⟨k,Q,f,rfl,hk,J,X,h8,bo,bn,bm,g,N,I,x,bq,bw,z⟩;have W:=g.B;have cc:=B9 f;by_cases az:k<Z l
  ·have o:=AK az;obtain⟨C,r2,b4⟩:=Ke hE o;have n:=bi _ (AR az);have bg:=b6 _ (AR az);generalize l[k]=a at b4 o n bg;have HT:AC (l.take (k+1)=l.take k++[a]):=by rw[AC,AT,o,BN]
   clear o;have br:Z f<=100000:=AA;have b5:Z a.ts<=1000:=AA;have a8:=λe=>L5 a.p C a.ts f Q b5 br e;have a4:∀v∈rs,v∈f:=λv i=>by
    have:=z.o.2.1;rw[<-this]at i;exact JI i
   cases ap:f.any (Bm a.ts)with
   |false=>
    have HW:AC (Grown init V f/\f.take (Z rs)=rs/\F1 (l.take (k+1)) rs f):=by
     refine⟨z.o.1,z.o.2.1,?_⟩;rw[HT.o];intro b n h v i;rcases AW.1 n with n|n
     ·exact z.o.2.2 b n h v i
     simp at n;subst n;rw[CU]at h;obtain⟨u,hu,he⟩:=h;rw[EV]at ap;exact absurd he (ap u (a4 u hu))
    rw[ap]at a8;clear z HT a4;refine m0 ?_;intro yb ya;refine Xi (a8 _) ?_;rintro _ _ ⟨rfl,E⟩;(have ao:=E.B;have S:=E.C;have K:=((g.new _).put g.B _).trans E;have L:=Own.keep (Own.put (Own.new x _) _ _) E;simp only[Ac,Aa]at ao S);refine mr ?_;refine⟨Z l-(k+1),AA,k+1,Q,f,?_⟩;exact m9 HW
   |true=>
    rw[ap]at a8;have cf:=Cx a.ts;refine m0 ?_;intro yb ya;refine Xi (a8 _) ?_;rintro _ _ ⟨rfl,E⟩;(have ao:=E.B;have S:=E.C;have K:=((g.new _).put g.B _).trans E;have L:=Own.keep (Own.put (Own.new x _) _ _) E;simp only[Ac,Aa]at ao S);refine mr ?_;rename_i σb;have b1:σb.C y.B=[ic a.p,sl C (Z a.ts) (Ad a.ts)]:=by rw[S _ AA,Ak]
    refine Ae (λm s t=>∃(j P:Nat) (d:List Int),m=Z a.ts-j/\j<=Z a.ts/\s 2=ptr e.B 0/\s 5=sl P (Z d) (As d)/\s 8=ic (Z rs)/\s 32=sl ida (Z l) cs/\s 33=ic (Z l)/\s 34=ic k/\s 43=sl C (Z a.ts) (Ad a.ts)/\s 44=ic (Z a.ts)/\s 45=ic j/\AD e t/\e.B<t.B/\t.C e.B=[ic q.h.p,sl ih (Z q.h.ts) (Ad q.h.ts),sl ip (Z q.A) pc,sl F (Z q.B) nc]/\Own e t P (Z d)/\Z d<=Z init+Z V/\Z rs<=Z d/\AC (Grown init V d/\d.take (Z rs)=rs/\(∀v∈f,v∈d)/\∀v,(true,v)∈a.ts.take j->v∈d)) (Z a.ts)
     ⟨0,Q,f,AA,AA,AI,AI,AI,AI,AI,AI,AG,AG,rfl,K,AA,by rw[S _ AA,Aj AA,Ah AA,I],L,bq,bw,z.o.1,z.o.2.1,λv i=>i,nk⟩ ?_
    clear K L S g x I N J X h8 bo bn bm W E ao b1 a8;rintro m s t ⟨j,P,d,rfl,hj,J,X,h8,bo,bn,bm,cr,cq,cp,g,N,I,x,cd,bz,D⟩;have W:=g.B;have ce:=B9 d;by_cases a5:j<Z a.ts
    ·have o:=AK a5;obtain⟨r3,b3⟩:=C3 o;have bd:=AR a5;generalize a.ts[j]=w at b3 o bd;obtain⟨w1,p⟩:=w;have bp:AC (a.ts.take (j+1)=a.ts.take j++[(w1,p)]):=by rw[AC,AT,o,BN]
     clear o;have bv:Z d<=100000:=AA;have bf:=T7 p d;have bh:=λe=>H7 p d P bv e;have G:AC ((w1=true->p∈d)->(Grown init V d/\d.take (Z rs)=rs/\(∀v∈f,v∈d)/\∀v,(true,v)∈a.ts.take (j+1)->v∈d)):=λhw=>by
      refine⟨D.o.1,D.o.2.1,D.o.2.2.1,λv i=>?_⟩;rw[bp.o]at i;rcases AW.1 i with h|h
      ·exact D.o.2.2.2 v h
      simp at h;obtain⟨h1,J⟩:=h;subst J;exact hw h1
     cases w1 with
     |false=>
      refine mr ?_;refine⟨Z a.ts-(j+1),AA,j+1,P,d,?_⟩
      ((repeat' refine Zi ?_ ?_)<;>first|exact Xq|exact (Own.put (Own.new x _) _ _)|exact (G.o (λh=>by cases h))|exact Xs)
     |true=>
      by_cases T:p∈d
      ·have Y:decide (p∉d)=false:=by simp[T]
       rw[Y]at bf;have G:=G.o (λ_=>T);have G:AC _:=G;clear Y T;refine m0 ?_;intro yb ya;refine Xi (bh _) ?_;rintro _ _ ⟨rfl,H⟩;(have ax:=H.B;have an:=H.C;have K:=((g.new _).put g.B _).trans H;have L:=Own.keep (Own.put (Own.new x _) _ _) H;simp only[Ac,Aa]at ax an);refine mr ?_;refine⟨Z a.ts-(j+1),AA,j+1,P,d,?_⟩;exact m9 G
      have Y:decide (p∉d)=true:=by simp[T]
      rw[Y]at bf;have G:AC (Grown init V (d++[p])/\(d++[p]).take (Z rs)=rs/\(∀v∈f,v∈d++[p])/\∀v,(true,v)∈a.ts.take (j+1)->v∈d++[p]):=by
       refine⟨D.o.1.snoc (bg p bd) T,?_,λv i=>AW.2 (.inl (D.o.2.2.1 v i)),λv i=>?_⟩
       ·rw[List.take_append_of_le_length bz];exact D.o.2.1
       rw[bp.o]at i;rcases AW.1 i with h|h
       ·exact AW.2 (.inl (D.o.2.2.2 v h))
       simp at h;subst h;simp
      have bu:Z d+1<=Z init+Z V:=by
       have:=G.o.1.le;simpa using this
      clear Y T;refine m0 ?_;intro yb ya;refine Xi (bh _) ?_;rintro _ _ ⟨rfl,H⟩;(have ax:=H.B;have an:=H.C;have K:=((g.new _).put g.B _).trans H;have L:=Own.keep (Own.put (Own.new x _) _ _) H;simp only[Ac,Aa]at ax an;have ba:=an t.B AA;rw[Ak]at ba);refine m5 ?_;intro yb ya;intro M σn ai aj af ab ae aa;refine mr ?_;refine⟨Z a.ts-(j+1),AA,j+1,M,d++[p],?_⟩
      ((repeat' refine Zi ?_ ?_)<;>first|exact Xq|exact (nn ai)|exact G|exact (by simp[As])|exact Xs)
    have bc:j=Z a.ts:=AA;subst bc;have HW:AC (Grown init V d/\d.take (Z rs)=rs/\F1 (l.take (k+1)) rs d):=by
     obtain⟨u1,R,u3,u4⟩:=D.o;rw[AS]at u4;refine⟨u1,R,?_⟩;rw[HT.o];intro b n h v i;rcases AW.1 n with n|n
     ·exact u3 v (z.o.2.2 b n h v i)
     simp at n;subst n;exact u4 v i
    clear D z HT;refine mr ?_;refine⟨Z l-(k+1),AA,k+1,P,d,?_⟩;exact m9 HW
  have b2:k=Z l:=AA;subst b2;have HW:AC (Grown init V f/\F1 l (f.take (Z rs)) f):=by
   obtain⟨u1,R,u3⟩:=z.o;rw[AS]at u3;exact⟨u1,by rw[R];exact u3⟩
  clear z;refine mr ?_;refine⟨2*(Z init+Z V-Z f)+(if (Z rs:Int)<(Z f:Int)then 1 else 0),by split<;>omega,Z rs,Q,Z rs,f,?_⟩
  ((repeat' refine Zi ?_ ?_)<;>first|exact Xq|exact HW|exact (.inl rfl)|exact Xs)
 have hF:Grown init V rs/\F1 l rs rs:=by
  have hB:B=Z rs:=by rcases b7 with h|⟨h1,J⟩<;>omega
  obtain⟨u1,R⟩:=hG.o;rw[hB,AS]at R;exact⟨u1,R⟩
 have HF:AC _:=hF;clear hF;have ci:decide ((Z rs:Int)>O)=false:=by simp;omega
 refine mr ?_
 first|exact⟨_,rfl,⟨A,rs,rfl,HF.o.1,HF.o.2⟩,g⟩|exact⟨_,rfl,A,rs,rfl,HF.o.1,HF.o.2⟩
end Go.Proofs.YtmoeoppbmhfbpabGreatDoorJ
