import Derived.Test.YtmoeoppbmhfbpabGreatDoorA
set_option maxHeartbeats 32000000
set_option maxRecDepth 100000
set_option linter.all false
open List
open List renaming length->Z
namespace Go.Proofs.YtmoeoppbmhfbpabGreatDoorJ
open Go.Abs Tryz
abbrev Tm:=Bool×Int
structure Dx where
 p:Int
 ts:List Tm
abbrev Ck:=List Int
def Js (t:Tm):oh:=[my t.1,Y t.2]
def Ad (a:List Tm):oh:=a.flatMap Js
abbrev X1 (i l):=sl i (Z l) (Ad l)
def Cx (ts):Z (Ad ts)=Z ts*2:=by
 induction ts with
 |nil=>rfl
 |cons a l b=>rw[Ad]at*;rw[DN,AX,b];simp[Js];omega
def Uj (ts x):Ad (ts++[x])=Ad ts++Js x:=by simp[Ad]
def C3 {b k w}(h:b[k]?=some w):∃g,(Ad b).drop (k*2)=my w.1::Y w.2::g:=by
 have f:∀b:List Tm,r (λw c=>c=Js w) b (Ad b):=by
  intro b;induction b with
  |nil=>rfl
  |cons a l d=>exact⟨Js a,Ad l,rfl,d,by simp[Ad]⟩
 obtain⟨c,g,rfl,e⟩:=r.get (z:=2) (λa c h=>by rw[h];rfl) (f b) h;exact⟨g,e⟩
def Jp (a:List Tm)(v:Int):Int:=if (true,v)∈a then (a.idxOf (true,v):Nat)else -1
def Y5 {α:Type}[BEq α][LawfulBEq α]{l:List α}{i x}(h:l[i]?=some x)(a:x∉l.take i):l.idxOf x=i:=by have b:=(BA.1 h).1;have:l=l.take i++l.drop i:=(KD i l).symm;rw[this,idxOf_append,if_neg a,CN,ER L,ET b];grind
def YQ {a:List Tm}{v i}(h:a[i]?=some (true,v))(b:(true,v)∉a.take i):Jp a v=i:=by rw[Jp];rw[if_pos (AY h),Y5 h b]
def K1 {a v}(b:(true,v)∉a):Jp a v= -1:=if_neg b
def Yl {α:Type}{l:List α}{i x y}(h:x∉l.take i)(b:l[i]?=some y)(a:y≠x):x∉l.take (i+1):=by rw[AT,b];grind
def Gw (p m ts v)(A:Z ts<=1000)(N):ni 217 [ag [Y p,X1 m ts],Y v] N λl b=>l=Y (Jp ts v)/\W N b:=by
 have x:=Cx ts;refine wl func217 ?_;refine X ?_
 refine wn [1,8,9] 10 (Z ts) (λi s b=>W N b/\V ((true,v)∉ts.take i)) ⟨Xs,by simp[V]⟩ ?_
 rintro i s b _ _ _ ⟨d,a⟩;by_cases n:i<Z ts
 ·obtain⟨w,c⟩:=gq n;obtain⟨l,k⟩:=C3 c;let⟨j,f⟩:=w;have g:V (ts[i]?=some (j,f)):=c;clear c;have y:=d.B
  repeat' first|refine Z1 ?_|refine Z8 λyb ya=>?_|refine Z4 ?_;clear ya yb|refine Z2 ?_ ?_<;>intro h t<;>try exact Xp|refine Z3 ?_|exact Zt|apply ya.o;clear ya yb
  ·have e:j/\f=v:=by simp_all
   obtain⟨rfl,rfl⟩:=e;exact⟨_,rfl,by rw[YQ g.o a.o],Xs⟩
  all_goals exact⟨Xs,Yl a.o g.o (by simp_all)⟩
 obtain rfl:i=Z ts:=L;rw[AS]at a;refine X ?_
 exact⟨_,rfl,by rw[K1 a.o]⟩
def Bm (a:List Tm)(v:Int):Bool:=decide ((true,v)∈a)
def YR (ts v):(Jp ts v != -1)=Bm ts v:=by grind[Jp,Bm]
def Lg (p e ts v)(a:Z ts<=1000)(N):ni 232 [ag [Y p,X1 e ts],Y v] N λf b=>f=my (Bm ts v)/\W N b:=by have d:=YR ts v;refine wl func232 ?_;refine mt (Gw _ _ _ _ a) ?_;rintro yb ya _ _ ⟨rfl,c⟩;refine X ?_;exact⟨_,rfl,rfl,Xs⟩
def Jz (a:List Tm):Bool:=a.all λt=>!t.1
def Pq (p m ts)(y:Z ts<=1000)(N):ni 131 [ag [Y p,X1 m ts]] N λl b=>l=my (Jz ts)/\W N b:=by
 have u:=Cx ts;refine wl func131 ?_;refine X ?_
 refine wn [6,7] 8 (Z ts) (λi s b=>W N b/\V (Jz (ts.take i))) ⟨Xs,by simp[V,Jz]⟩ ?_
 rintro i s b _ _ _ ⟨e,a⟩;by_cases g:i<Z ts;obtain⟨w,c⟩:=gq g;obtain⟨l,n⟩:=C3 c;have d:=(AY c);let⟨k,f⟩:=w;have j:V (ts[i]?=some (k,f)/\(k,f)∈ts):=⟨c,d⟩;clear c d;have v:=e.B;refine m6 ?_ ?_<;>intro h z
 exact⟨_,rfl,by
  have:Jz ts=false:=by
   rw[Jz];rw[IQ];exact⟨_,j.o.2,by simp_all⟩
  rw[this],Xs⟩
 exact⟨Xs,by
  have a:=a.o;rw[Jz]at a;rw[V,Jz,AT,j.o.1,all_append,a]
  simp_all⟩
 obtain rfl:i=Z ts:=L;rw[AS]at a;have a:=a.o;refine X ?_
 exact⟨_,rfl,rfl⟩
def Ej (l:List Int):Ck:=[(l[0]?).getD (-1),(l[1]?).getD (-1),(l[2]?).getD (-1)]
def As (t:List Int):oh:=t.map Y
abbrev X2 (i l):=sl i (Z l) (As l)
def Ue (p I ts)(E:Z ts<=1000)(N):ni 135 [ag [Y p,X1 I ts]] N λK a=>K=ag (As (Ej (ts.map (·.2))))/\W N a:=by
 have D:=Cx ts;have j:∃G:Nat->Int,(∀i,G i=((ts[i]?).map (·.2)).getD (-1))/\As (Ej (ts.map (·.2)))=[Y (G 0),Y (G 1),Y (G 2)]:=⟨λi=>((ts[i]?).map (·.2)).getD (-1),λ_=>rfl,by simp[As,Ej]⟩;let⟨G,c,g⟩:=j;refine wl func135 ?_;refine X ?_
 refine Ae (λm s a=>∃(i:Nat),m=3-i/\i<=3/\s 1=ptr N.B 0/\s 2=ptr (N.B+1) 0/\s 3=ptr (N.B+2) 0/\s 6=Y i/\W N a/\N.B+2<a.B/\a.C N.B=[Y p,X1 I ts]/\a.C (N.B+1)=[Y 0,Y 0,Y 0]/\a.C (N.B+2)=[Y (if 0<i then G 0 else 0),Y (if 1<i then G 1 else 0),Y (if 2<i then G 2 else 0)]) 3
  ⟨0,L,L,AG,AG,AG,rfl,Xs,by simp only[Aa,Ac];omega,?_,?_,?_⟩ ?_
 ·rw[Aj L,Ah AM,Ah AM,Ao]
 ·rw[Aj L,Ah AM,Be AM AM]
 ·rw[show N.B+2=N.B+1+1 from rfl,Ak];rfl
 rintro m s a ⟨i,rfl,C,A,x,z,B,l,o,q,t,e⟩;have v:=l.B;by_cases y:i<3
 ·by_cases n:i<Z ts
  ·have d:=AK n;obtain⟨K,f⟩:=C3 d;have b:=c i;rw[d]at b;generalize ts[i]=w at f d b;obtain⟨F,u⟩:=w;clear d c;simp only[GJ,MG]at b;rcases (show i=0\/i=1\/i=2 by omega)with rfl|rfl|rfl
   all_goals
    simp only[↓reduceIte,Nat.lt_irrefl,Nat.reduceLT,Nat.reduceMul,KY,JH]at e f b;refine X ?_
    first|exact⟨2,L,1,rfl,L,rfl,Xs,by simp[*]⟩|exact⟨1,L,2,rfl,L,rfl,Xs,by simp[*]⟩|exact⟨0,L,3,rfl,L,rfl,Xs,by simp[*]⟩
  have b:=c i;rw[FD L]at b;simp only[Option.map_none,Option.getD_none]at b;clear c;rcases (show i=0\/i=1\/i=2 by omega)with rfl|rfl|rfl
  all_goals
   simp only[↓reduceIte,Nat.lt_irrefl,Nat.reduceLT,Nat.reduceMul,KY,JH]at e b;refine X ?_
   first|exact⟨2,L,1,rfl,L,rfl,Xs,by simp[*]⟩|exact⟨1,L,2,rfl,L,rfl,Xs,by simp[*]⟩|exact⟨0,L,3,rfl,L,rfl,Xs,by simp[*]⟩
 have k:i=3:=L;subst k;simp only[↓reduceIte,Nat.reduceLT]at e;refine X ?_
 first|exact⟨_,rfl,by rw[g],Xs⟩|exact⟨_,rfl,rfl,Xs⟩
theorem B9 (l):Z (As l)=Z l:=by simp[As]
def D2 {l k n}(h:l[k]?=some n):∃d,(As l).drop k=Y n::d:=by have a:=(BA.1 h);let⟨c,b⟩:=a;refine⟨(As l).drop (k+1),?_⟩;rw[ET (by grind[B9])];simp[As,b]
def Fo (l):(As l).all flat:=by rw[CX];intro x a;obtain⟨n,-,rfl⟩:=AN.1 a;rfl
def H7 (v l id)(z:Z l<=100000)(N):ni 85 [Y v,X2 id l] N λj b=>j=Y (if v∈l then (l.idxOf v:Nat)else -1)/\W N b:=by
 have x:=B9 l;refine wl func85 ?_;refine X ?_
 refine wn [0,7,8] 9 (Z l) (λi s b=>W N b/\V (v∉l.take i)) ⟨Xs,by simp[V]⟩ ?_
 rintro i s b _ _ _ ⟨f,a⟩;by_cases k:i<Z l
 ·obtain⟨w,c⟩:=gq k;obtain⟨j,g⟩:=D2 c;have d:V (l[i]?=some w):=c;clear c;have u:=f.B
  refine m6 ?_ ?_<;>intro h t
  ·have e:w=v:=by simp_all
   subst e;exact⟨_,rfl,by rw[if_pos (AY d.o),Y5 d.o a.o]⟩
  all_goals exact Yl a.o d.o (by simp_all)
 obtain rfl:i=Z l:=L;rw[AS]at a;refine X ?_
 exact⟨_,rfl,by rw[if_neg a.o]⟩
def T7 (v)(l:List Int):((if v∈l then ((l.idxOf v:Nat):Int)else -1)== -1)=decide (v∉l):=gp
def L5 (p k ts l id)(o:Z ts<=1000)(C:Z l<=100000)(N):ni 225 [ag [Y p,X1 k ts],X2 id l] N λm b=>m=my (l.any (Bm ts))/\W N b:=by
 have F:=B9 l;apply wl func225;refine X ?_
 refine wn [2,7,8] 9 (Z l) (λi s b=>W N b/\N.B<b.B/\b.C N.B=[Y p,X1 k ts]/\V ((l.take i).any (Bm ts)=false)) ⟨Xs,AM,by rw[Ao],by simp[V]⟩ ?_
 rintro i s b _ _ _ ⟨a,q,y,c⟩;by_cases j:i<Z l;obtain⟨w,d⟩:=gq j;obtain⟨m,n⟩:=D2 d;have g:=(AY d);have f:V (l[i]?=some w/\w∈l):=⟨d,g⟩;clear d g;refine mt (Lg _ _ _ _ o) ?_;rintro yb ya _ _ ⟨rfl,e⟩;have u:=e.B;have t:=e.C;refine m6 ?_ ?_<;>intro h D
 first|exact⟨_,rfl,by rw[CU.2 ⟨w,f.o.2,nu⟩],a.trans e⟩|exact⟨_,rfl,by rw[CU.2 ⟨w,f.o.2,nu⟩]⟩
 exact⟨a.trans e,L,by
  rw[V,AT,f.o.1,MH,c.o]
  simp_all⟩
 obtain rfl:i=Z l:=L;rw[AS]at c;have c:=c.o;refine X ?_
 exact⟨_,rfl,rfl⟩
def gV (p k ts l id)(o:Z ts<=1000)(C:Z l<=100000)(N):ni 251 [ag [Y p,X1 k ts],X2 id l] N λm b=>m=my (l.all (Bm ts))/\W N b:=by
 have F:=B9 l;apply wl func251;refine X ?_
 refine wn [2,7,8] 9 (Z l) (λi s b=>W N b/\N.B<b.B/\b.C N.B=[Y p,X1 k ts]/\V ((l.take i).all (Bm ts))) ⟨Xs,AM,by rw[Ao],by simp[V]⟩ ?_
 rintro i s b _ _ _ ⟨a,q,y,c⟩;by_cases j:i<Z l;obtain⟨w,d⟩:=gq j;obtain⟨m,n⟩:=D2 d;have g:=(AY d);have f:V (l[i]?=some w/\w∈l):=⟨d,g⟩;clear d g;refine mt (Lg _ _ _ _ o) ?_;rintro yb ya _ _ ⟨rfl,e⟩;have u:=e.B;have t:=e.C;refine m6 ?_ ?_<;>intro h D
 first|exact⟨_,rfl,by rw[IQ.2 ⟨w,f.o.2,gp⟩],a.trans e⟩|exact⟨_,rfl,by rw[IQ.2 ⟨w,f.o.2,by simp_all⟩]⟩
 exact⟨a.trans e,L,by
  rw[V,AT,f.o.1,all_append,c.o]
  simp_all⟩
 obtain rfl:i=Z l:=L;rw[AS]at c;have c:=c.o;refine X ?_
 exact⟨_,rfl,rfl⟩
def Nv (l id)(B:Z l<=100000)(g:∀n∈l,0<=n/\n<=1000000)(N):ni 140 [X2 id l] N λq b=>q=Y l.sum/\W N b:=by
 have y:=B9 l;refine wl func140 ?_;refine X ?_
 refine Ae (λm s b=>∃i:Nat,m=Z l-i/\i<=Z l/\s 3=Y (l.take i).sum/\s 6=X2 id l/\s 7=Y (Z l)/\s 8=Y i/\W N b/\0<=(l.take i).sum/\(l.take i).sum<=i*1000000) (Z l)
  ⟨0,L,L,rfl,rfl,rfl,rfl,Xs,nk,nk⟩ ?_
 rintro m s b ⟨i,rfl,z,f,x,u,v,d,o,t⟩;by_cases e:i<Z l;have c:=AK e;let⟨q,j⟩:=D2 c;have k:=g l[i] (AR e);have a:V ((l.take (i+1)).sum=(l.take i).sum+l[i]):=by rw[V,AT,c];simp only[BN,sum_append,sum_cons,sum_nil];omega
 generalize l[i]=w at j c k a;clear c;generalize (l.take i).sum=p at f o t a;have A:=d.B;refine X ?_;exact⟨Z l-(i+1),L,i+1,rfl,L,by rw[a.o],nk,by rw[a.o];omega,by rw[a.o];omega⟩;obtain rfl:i=Z l:=L;rw[AS]at f;refine X ?_
 exact⟨_,rfl,rfl⟩
def aS (v n:Int)(t:Tm):Tm:=if t=(true,v)then (false,n)else t
def Bt (v n:Int)(a:List Tm):List Tm:=a.map (aS v n)
def qW {v n a}(h:Bm a v=false):Bt v n a=a:=by
 rw[Bt]
 conv=>rhs;rw[<-IE a]
 apply CG;intro t b;rw[aS];rw[if_neg];rfl;rintro rfl;simp[Bm]at h;exact h b
def Oz (p T ts v n)(R:Z ts<=1000)(N):ni 226 [ag [Y p,sl T (Z ts) (Ad ts)],Y v,Y n] N λM d=>(∃id,M=ag [Y p,sl id (Z (Bt v n ts)) (Ad (Bt v n ts))])/\W N d:=by
 have a6:=Cx ts;refine wl func226 ?_;refine mt (Lg _ _ _ _ R) ?_;rintro yb ya _ _ ⟨rfl,q⟩;have P:=q.B;have x:=q.C;(try simp only[Aa]at P x);refine m6 ?_ ?_<;>intro h ae;have e:=qW (n:=n) h;rw[e];exact⟨_,rfl,⟨_,rfl⟩,(((W.refl _).new _).new _).trans q|>.put L _⟩;rename_i z;have U:W N z:=(((W.refl _).new _).new _).trans q;have a2:=U.B;have Q:=x N.B L;have D:=x (N.B+1) L;rw[Ah AM,Ao]at Q;rw[Be AM AM]at D;clear x q;refine X ?_
 refine wn [1,2,6,7,19,20] 21 (Z ts) (λi s d=>∃(u:Nat) (f:oh),W N d/\z.B<d.B/\d.C (N.B+1)=[Y 0,H]/\d.C z.B=[Y p,sl u i f]/\J N d u i/\Z f=i*2/\V (f=Ad (Bt v n (ts.take i)))) ⟨1,[],Xs,BJ,?_,?_,J.nil _ _,nk,by simp[V,Bt,Ad]⟩ ?_
 rw[Aj L,Ah L];simp[D,cst1];rw[Ak];rintro i s d _ _ _ ⟨u,f,b,a0,a5,a3,B,C,j⟩;have ay:=b.B;by_cases S:i<Z ts;obtain⟨w,y⟩:=gq S;obtain⟨M,a4⟩:=C3 y;let⟨g,c⟩:=w;have A:V (Ad (Bt v n (ts.take (i+1)))=Ad (Bt v n (ts.take i))++Js (aS v n (g,c))):=by
  rw[V,AT,y];simp[Bt,Ad]
 clear y;by_cases o:g/\c=v;obtain⟨rfl,rfl⟩:=o;refine nh ?_;intro yb ya;refine hZ (((b.new _).put b.B _).put b.B _) ?_;intro a E k l K t I m;simp only[Ac,Aa]at t;refine X ?_;exact⟨a,f++[my false,Y n],l.put L _,L,rfl,J.put k _ _,by simp;omega,by rw[V,A.o,j.o];simp[aS,Js]⟩;have F:(g&&c==v)=false:=by
  cases g
  ·rfl
  simp at o⊢;exact o
 have G:V (aS v n (g,c)=(g,c)):=if_neg (nn o);clear o;cases g
 ·refine nh ?_;intro yb ya;refine Bo (by first|exact Gl) ((b.new _).put b.B _) (J.put (J.new B _) _ _) nr (by rfl) (C) (by rfl) (by rfl) nr L L ?_;intro a E k l K t I m;simp only[Ac,Aa]at t;refine Z3 ?_;refine X ?_;exact⟨a,f++[_,Y c],l.put L _,L,rfl,J.put k _ _,by simp;omega,by rw[V,A.o,j.o,G.o];rfl⟩
 have F:(c==v)=false:=nn F;refine nh ?_;intro yb ya;refine Bo (by first|exact Gl) ((b.new _).put b.B _) (J.put (J.new B _) _ _) nr (by rfl) (C) (by rfl) (by rfl) nr L L ?_;intro a E k l K t I m;simp only[Ac,Aa]at t;refine Z3 ?_;refine X ?_;exact⟨a,f++[_,Y c],l.put L _,L,rfl,J.put k _ _,by simp;omega,by rw[V,A.o,j.o,G.o];rfl⟩
 obtain rfl:i=Z ts:=L;have j:=j.o;rw[AS]at j;have a1:Z (Bt v n ts)=Z ts:=by simp[Bt]
 refine X ?_;exact⟨_,rfl,⟨u,by rfl⟩,b.put L _⟩
structure Part where
 a:Dx
 A:List Ck
structure AZ where
 h:Dx
 A:List Part
 B:List Dx
def Fg (l:List Ck):oh:=l.flatMap As
def T3 (l:List Ck):Prop:=∀t∈l,Z t=3
def J4 {l}(h:T3 l):Z (Fg l)=Z l*3:=by
 induction l with
 |nil=>rfl
 |cons a l b=>
  have d:=h a nk;have c:=b (λt e=>h t (ns e));rw[Fg]at*
  rw[DN,AX,c,B9,d];simp;omega
def Q9 (l t):Fg (l++[t])=Fg l++As t:=by simp[Fg]
def uQ {l k t}(d:T3 l)(h:l[k]?=some t):∃a b c j,t=[a,b,c]/\(Fg l).drop (k*3)=Y a::Y b::Y c::j:=by
 have g:∀l:List Ck,r (λt c=>c=As t/\t∈l) l (Fg l):=by
  intro l;induction l with
  |nil=>rfl
  |cons a l f=>exact⟨As a,Fg l,⟨rfl,nk⟩,r.mono (λt c h=>⟨h.1,gp⟩) f,by simp[Fg]⟩
 obtain⟨c,j,⟨rfl,-⟩,e⟩:=r.get (z:=3) (λa c h=>by rw[h.1,B9];exact d a h.2) (g l) h;have i:=d t (AY h)
 match t,i with
 |[a,b,c],_=>exact⟨a,b,c,j,rfl,by rw[e];rfl⟩
def O9 (a:Dx)(c:oh):Prop:=∃id,c=[Y a.p,X1 id a.ts]
def Oa (p:Part)(c:oh):Prop:=∃id a,c=[Y p.a.p,X1 id p.a.ts,sl a (Z p.A) (Fg p.A)]
def Iz (a c)(h:O9 a c):Z c=2:=by obtain⟨id,rfl⟩:=h;rfl
def Ex (a c)(h:Oa a c):Z c=3:=by obtain⟨id,b,rfl⟩:=h;rfl
def Ke {l cs i a}(h:r O9 l cs)(b:l[i]?=some a):∃id d,cs.drop (i*2)=Y a.p::X1 id a.ts::d:=by obtain⟨c,d,⟨id,rfl⟩,e⟩:=r.get Iz h b;exact⟨id,d,e⟩
def F0 {l cs i p}(h:r Oa l cs)(b:l[i]?=some p):∃id a d,cs.drop (i*3)=Y p.a.p::X1 id p.a.ts::sl a (Z p.A) (Fg p.A)::d:=by obtain⟨c,d,⟨id,a,rfl⟩,e⟩:=r.get Ex h b;grind
def EQ (q:AZ)(c:oh):Prop:=∃f e a b d,c=[Y q.h.p,X1 f q.h.ts,sl e (Z q.A) b,sl a (Z q.B) d]/\r Oa q.A b/\r O9 q.B d
structure Qt (q:AZ):Prop where
 hd:Z q.h.ts<=3
 pl:Z q.A<=64
 nl:Z q.B<=64
 pa:∀p∈q.A,Z p.a.ts<=3
 pt:∀p∈q.A,Z p.A<=5000
 p3:∀p∈q.A,T3 p.A
 na:∀a∈q.B,Z a.ts<=3
def Da (l:List Part):Nat:=(l.map λp=>Z p.A).sum
def qG (l p):Da (l++[p])=Da l+Z p.A:=by grind[Da]
def Yz (q c)(p:EQ q c)(g:Qt q)(N):ni 252 [ag c] N λm d=>m=Y (Da q.A:Nat)/\W N d:=by
 obtain⟨A,t,l,x,E,rfl,j,C⟩:=p;have v:=r.length Ex j;have I:=g.pl;refine wl func252 ?_;refine X ?_
 refine wn [7,8] 9 (Z q.A) (λi s d=>∃a:Nat,s 3=Y a/\W N d/\a<=i*5000/\V (a=Da (q.A.take i))) ⟨0,rfl,Xs,nk,by simp[V,Da]⟩ ?_
 rintro i s d _ _ _ ⟨a,D,e,K,b⟩;have B:=e.B;by_cases k:i<Z q.A;obtain⟨w,f⟩:=gq k;obtain⟨id,o,m,u⟩:=F0 j f;have y:=g.pt _ (AY f);have n:V (Da (q.A.take (i+1))=Da (q.A.take i)+Z w.A):=by rw[V,AT,f,BN,qG]
 clear f;refine X ?_;exact⟨a+Z w.A,nk,Xs,L,by rw[V,n.o,b.o]⟩;obtain rfl:i=Z q.A:=L;have b:=b.o;rw[AS]at b;subst b;refine X ?_
 exact⟨_,rfl,rfl⟩
def Dt (l:List Dx)(v:Int):Nat:=l.countP λa=>Bm a.ts v
def Ml (q c v)(u:EQ q c)(g:Qt q)(N):ni 254 [ag c,Y v] N λm e=>m=Y (Dt (q.A.map (·.a)) v:Nat)/\W N e:=by
 obtain⟨E,x,o,B,K,rfl,l,F⟩:=u;have A:=r.length Ex l;have M:=g.pl;refine wl func254 ?_;refine X ?_
 refine wn [1,9,10] 11 (Z q.A) (λi s e=>∃a:Nat,s 5=Y a/\W N e/\a<=i/\V (a=Dt ((q.A.take i).map (·.a)) v)) ⟨0,rfl,Xs,nk,by simp[V,Dt]⟩ ?_
 rintro i s e _ _ _ ⟨a,D,d,S,b⟩;have G:=d.B;by_cases n:i<Z q.A;obtain⟨w,f⟩:=gq n;obtain⟨id,t,m,z⟩:=F0 l f;have C:=g.pa _ (AY f);have k:V (Dt ((q.A.take (i+1)).map (·.a)) v=Dt ((q.A.take i).map (·.a)) v+if Bm w.a.ts v then 1 else 0):=by rw[V,AT,f,BN,EU,Dt,MI];simp[Dt,MJ]
 clear f;have y:Z w.a.ts<=1000:=L;refine mt (Lg _ _ _ _ y) ?_;rintro yb ya _ _ ⟨rfl,j⟩;have p:=j.B;have I:=((d.new _).put d.B _).trans j;refine m6 ?_ ?_<;>intro h P;exact⟨a+1,nk,L,by rw[V,k.o,b.o,if_pos nu]⟩;exact⟨a,nk,L,by rw[V,k.o,b.o,if_neg (by simp_all),GZ]⟩;obtain rfl:i=Z q.A:=L;have b:=b.o;rw[AS]at b;subst b;refine X ?_
 exact⟨_,rfl,rfl⟩
def atomsQ (q:AZ):List Dx:=q.h::(q.A.map (·.a)++q.B)
def Kd (q c)(a5:EQ q c)(F:Qt q)(N):ni 253 [ag c] N λp d=>∃id cs,p=sl id (Z (atomsQ q)) cs/\r O9 (atomsQ q) cs/\W N d:=by
 obtain⟨u,B,j,D,A,rfl,v,I⟩:=a5;have ab:=r.length Ex v;have ax:=r.length Iz I;have hl:=F.pl;have ay:=F.nl;refine wl func253 ?_;refine X ?_;have z:W N (N.new [Y q.h.p,X1 u q.h.ts,sl B (Z q.A) D,sl j (Z q.B) A]):=(W.refl _).new _
 refine Ae (λm s d=>∃(k e:Nat) (b:oh),m=Z q.A-k/\k<=Z q.A/\s 1=ptr N.B 0/\s 3=sl e (1+k) b/\s 12=sl B (Z q.A) D/\s 13=Y (Z q.A)/\s 14=Y k/\W N d/\N.B<d.B/\d.C N.B=[Y q.h.p,X1 u q.h.ts,sl B (Z q.A) D,sl j (Z q.B) A]/\J N d e (1+k)/\Z b=(1+k)*2/\V (r O9 (q.h::(q.A.take k).map (·.a)) b)) (Z q.A)
  ⟨0,_,_,L,L,AG,rfl,rfl,rfl,rfl,z.lay 1,by simp only[Az,Aa];omega,by rw[H6,Ao],J.made z nr,nk,r.single ⟨u,rfl⟩⟩ ?_
 rintro m s d ⟨k,e,b,rfl,S,a4,K,aw,av,au,f,ap,a2,o,n,i⟩;clear z;have P:=f.B;by_cases t:k<Z q.A;obtain⟨w,g⟩:=gq t;obtain⟨id,a9,p,C⟩:=F0 v g;have y:V (q.A[k]?=some w):=g;clear g;refine nh ?_;intro yb ya;refine hZ ((f.new _).put f.B _) ?_;intro l G x R Q U a1 a7;simp only[Ac,Aa]at U;have aa:G.C N.B=d.C N.B:=by rw[Q,Aj L,Ah L]
 refine X ?_;refine⟨Z q.A-(k+1),L,k+1,l,b++[Y w.a.p,X1 id w.a.ts],rfl,L,by simp[ID],nk,L,by simpa[ID]using x,by simp;omega,?_⟩;rw[V,AT,y.o];have:=r.append i.o (r.single (E:=O9) (a:=w.a) ⟨id,rfl⟩);simpa using this;obtain rfl:k=Z q.A:=L;rw[AS]at i;generalize T:Z q.A=M at*
 have a6:V _:=T;clear T t S;refine X ?_
 refine Ae (λm s d=>∃(k e:Nat) (b:oh),m=Z q.B-k/\k<=Z q.B/\s 3=sl e (1+M+k) b/\s 25=sl j (Z q.B) A/\s 26=Y (Z q.B)/\s 27=Y k/\W N d/\J N d e (1+M+k)/\Z b=(1+M+k)*2/\V (r O9 (q.h::(q.A.map (·.a)++q.B.take k)) b)) (Z q.B)
  ⟨0,e,b,L,L,AI,AI,AI,AG,f,nn o,nn n,nn i⟩ ?_
 clear i n o K a4 aw av au f ap a2 P;rintro m s d ⟨k,e,b,rfl,S,K,a3,a0,az,f,o,n,i⟩;have P:=f.B;by_cases t:k<Z q.B;obtain⟨w,g⟩:=gq t;obtain⟨id,p,C⟩:=Ke I g;have y:V (q.B[k]?=some w):=g;clear g;refine nh ?_;intro yb ya;refine hZ ((f.new _).put f.B _) ?_;intro l G x R Q U a1 a7;refine X ?_;refine⟨Z q.B-(k+1),L,k+1,l,b++[Y w.p,X1 id w.ts],rfl,L,by simp[ID],nk,by simpa[ID]using x,by simp;omega,?_⟩;rw[V,AT,y.o];have:=r.append i.o (r.single (E:=O9) (a:=w) ⟨id,rfl⟩);simpa using this;obtain rfl:k=Z q.B:=L;rw[AS]at i;have a8:Z (atomsQ q)=1+M+Z q.B:=by have:=a6.o;simp[atomsQ];omega
 refine X ?_;exact⟨_,rfl,e,b,by first|rfl|rw[a8],by simpa[atomsQ]using i.o⟩
def vF (acc:List Int)(t:Tm):List Int:=if t.1/\t.2∉acc then acc++[t.2]else acc
def Cs (l:List Dx):List Int:=(l.flatMap (·.ts)).foldl vF []
def gn (acc t):Z (vF acc t)<=Z acc+1:=by grind[vF]
theorem tP:∀(a:List Tm) (acc:List Int),Z (a.foldl vF acc)<=Z acc+Z a
 |[],acc=>nk
 |t::a,acc=>by have b:=tP a (vF acc t);have c:=gn acc t;grind
theorem tO:∀(a:List Tm) (acc:List Int) (v:Int),v∈a.foldl vF acc↔v∈acc\/(true,v)∈a
 |[],acc,v=>nk
 |t::a,acc,v=>by rw[FW,tO a];let⟨b,w⟩:=t;rw[vF];grind
def Dn (l v):v∈Cs l↔∃a∈l,(true,v)∈a.ts:=by simp_all[Cs,tO,EX]
theorem eO:∀(l:List Dx),(∀a∈l,Z a.ts<=3)->Z (l.flatMap (·.ts))<=Z l*3
 |[],_=>nk
 |a::l,h=>by have e:=h a nk;have d:=eO l (λb c=>h b (ns c));grind
def Fs {l}(h:∀a∈l,Z a.ts<=3):Z (Cs l)<=Z l*3:=by grind[tP,eO,Cs]
def Hy (l cs U)(Jqx:r O9 l cs)(T:∀a∈l,Z a.ts<=3)(hl:Z l<=200)(N):ni 150 [sl U (Z l) cs] N λE q=>(∃id,E=X2 id (Cs l))/\W N q:=by
 have a9:=r.length Iz Jqx;refine wl func150 ?_;refine X ?_
 refine wn [9,10] 11 (Z l) (λk s q=>∃(y:Nat) (e:List Int),s 3=X2 y e/\W N q/\J N q y (Z e)/\Z e<=k*3/\V (e=Cs (l.take k))) ⟨1,[],by simp[upd,As],Xs,J.nil _ _,nk,by simp[V,Cs]⟩ ?_
 rintro k s q _ ⟨a1,a2⟩ a0 ⟨y,e,D,c,o,I,v⟩;have G:=c.B;by_cases M:k<Z l
 ·obtain⟨a,f⟩:=gq M;obtain⟨a5,E,a4⟩:=Ke Jqx f;have hb:=T _ (AY f);have S:V (Cs (l.take (k+1))=a.ts.foldl vF (Cs (l.take k))):=by
   rw[V,AT,f];simp[Cs]
  clear f;have a7:=Cx a.ts;refine X ?_
  refine wn [9,10,11,16,17] 18 (Z a.ts) (λj s g=>∃(p:Nat) (b:List Int),s 3=X2 p b/\W N g/\J N g p (Z b)/\Z b<=k*3+j/\V (b=(a.ts.take j).foldl vF e)) ⟨y,e,AI,(c.new _).put c.B _,J.put (J.new o _) _ _,L,by simp[V]⟩ ?_
  rintro j s g _ _ _ ⟨p,b,D,c,o,I,u⟩;have G:=c.B;have a8:=B9 b;by_cases R:j<Z a.ts
  ·obtain⟨w,f⟩:=gq R;obtain⟨r2,a3⟩:=C3 f;let⟨K,d⟩:=w;have A:V ((a.ts.take (j+1)).foldl vF e=vF ((a.ts.take j).foldl vF e) (K,d)):=by
    rw[V,AT,f];simp
   clear f;have z:=T7 d b;have m:Z b<=100000:=L;cases K
   ·have t:V (vF b (false,d)=b):=by simp[V,vF]
    refine X ?_;refine⟨p,b,?_⟩
    ((repeat' refine Zi ?_ ?_)<;>first|exact Xq|exact (J.put (J.new o _) _ _)|exact (by rw[V,A.o,<-u.o,t.o])|exact Xs)
   by_cases i:d∈b
   ·have t:V (vF b (true,d)=b):=by simp[V,vF,i]
    have x:decide (d∉b)=false:=by simp[i]
    rw[x]at z;clear x i;refine m0 ?_;intro yb ya;refine Xi (H7 _ _ _ m _) ?_;rintro _ _ ⟨rfl,n⟩;(have F:=((c.new _).put c.B _).trans n;have C:=J.keep (J.put (J.new o _) _ _) n);refine X ?_;refine⟨p,b,?_⟩
    ((repeat' refine Zi ?_ ?_)<;>first|exact Xq|exact C|exact (by rw[V,A.o,<-u.o,t.o])|exact Xs)
   have t:V (vF b (true,d)=b++[d]):=by simp[V,vF,i]
   have x:decide (d∉b)=true:=by simp[i]
   rw[x]at z;clear x i;refine m0 ?_;intro yb ya;refine Xi (H7 _ _ _ m _) ?_;rintro _ _ ⟨rfl,n⟩;(have F:=((c.new _).put c.B _).trans n;have C:=J.keep (J.put (J.new o _) _ _) n;have P:=n.C _ (show g.B<_ by simp only[Ac,Aa];omega);rw[Ak]at P);refine m5 ?_;intro yb ya;intro B Nn Q ai af ab ae aa;refine X ?_;refine⟨B,b++[d],?_⟩
   ((repeat' refine Zi ?_ ?_)<;>first|exact Xq|exact (nn Q)|exact (by rw[V,A.o,<-u.o,t.o])|exact (by simp[As])|exact Xs)
  obtain rfl:j=Z a.ts:=L;rw[AS]at u;refine X ?_;refine⟨p,b,?_⟩
  ((repeat' refine Zi ?_ ?_)<;>first|exact Xq|exact (by rw[V,S.o,<-v.o,u.o])|exact Xs)
 obtain rfl:k=Z l:=L;have v:=v.o;rw[AS]at v;subst v;refine X ?_
 exact⟨_,rfl,_,rfl⟩
def N6 {q}(c:Qt q):∀a∈atomsQ q,Z a.ts<=3:=by intro a b;simp only[atomsQ,BD,AW,AN]at b;obtain rfl|⟨p,d,rfl⟩|b:=b;exact c.hd;exact c.pa p d;exact c.na a b
def Jv {q}(a:Qt q):Z (atomsQ q)<=129:=by have c:=a.pl;have b:=a.nl;simp[atomsQ];omega
def Dq (q:AZ)(v:Int):Bool:=decide (1<Dt (atomsQ q) v)
def R8 (q c v)(n:EQ q c)(f:Qt q)(N):ni 257 [ag c,Y v] N λk g=>k=my (Dq q v)/\W N g:=by
 have b:=λN=>Kd q c n f N;have F:=N6 f;have av:=Jv f;have D:∃u x y z,c=[u,x,y,z]/\c.all flat:=by
  obtain⟨U,T,E,pc,S,rfl,-,-⟩:=n;exact⟨_,_,_,_,rfl,rfl⟩
 obtain⟨u,x,y,z,rfl,ao⟩:=D;have B:V (Dq q v=decide (1<Dt (atomsQ q) v)):=rfl;generalize Dq q v=C at*
 clear n f;generalize atomsQ q=l at*
 refine wl func257 ?_;refine mt b ?_;rintro yb ya _ _ ⟨a3,m,rfl,A,e⟩;have ap:=r.length Iz A;have p:=((W.refl N).new _).trans e;refine X ?_
 refine wn [1,9,10] 11 (Z l) (λi s g=>∃a:Nat,s 5=Y a/\W N g/\a<=i/\V (a=Dt (l.take i) v)) ⟨0,rfl,p,nk,by simp[V,Dt]⟩ ?_
 clear p e;rintro i s g _ _ _ ⟨a,M,d,a0,b⟩;have Q:=d.B;by_cases o:i<Z l
 ·obtain⟨w,j⟩:=gq o;obtain⟨id,k,G⟩:=Ke A j;have K:=F _ (AY j);have t:V (Dt (l.take (i+1)) v=Dt (l.take i) v+if Bm w.ts v then 1 else 0):=by
   rw[V,AT,j,BN,Dt,MI];simp[Dt,MJ]
  clear j;have I:Z w.ts<=1000:=L;refine mt (Lg _ _ _ _ I) ?_;rintro yb ya _ _ ⟨rfl,e⟩;have P:=e.B;have a2:=((d.new _).put d.B _).trans e;refine m6 ?_ ?_<;>intro h a1
  ·refine⟨a+1,?_⟩
   ((repeat' refine Zi ?_ ?_)<;>first|exact Xq|exact (by rw[V,t.o,b.o,if_pos nu])|exact Xs)
  refine⟨a,?_⟩
  ((repeat' refine Zi ?_ ?_)<;>first|exact Xq|exact (by rw[V,t.o,b.o,if_neg (by simp_all),GZ])|exact Xs)
 obtain rfl:i=Z l:=L;have b:=b.o;rw[AS]at b;subst b;have R:decide ((Dt l v:Int)>1)=C:=by rw[B.o];congr 1;apply propext;omega
 refine X ?_
 exact⟨_,rfl,rfl⟩
def Lb (q:AZ):Nat->List Int->Bool
 |_,[]=>true
 |n,v::a=>if Dq q v=true then (if 1<n+1\/Dt (q.A.map (·.a)) v=1 then false else Lb q (n+1) a)else Lb q n a
def idleB (q:AZ)(a:Dx):Bool:=Lb q 0 (Cs [a])
def vR (l v):Dt l v<=Z l:=countP_le_length
def sH (q c a id)(Jqx:Z a.ts<=3)(C:EQ q c)(z:Qt q)(N):ni 266 [ag c,ag [Y a.p,X1 id a.ts]] N λP g=>P=my (idleB q a)/\W N g:=by
 have t:=λv N=>R8 q c v C z N;have R:=λv N=>Ml q c v C z N;have Q:∀v,Dt (q.A.map (·.a)) v<=64:=λv=>by
  have U:=vR (q.A.map (·.a)) v;have aa:=z.pl;simp at U;omega
 have T:∃B x D E,c=[B,x,D,E]/\c.all flat:=by
  obtain⟨ih,ip,ab,pc,nc,rfl,-,-⟩:=C;exact⟨_,_,_,_,rfl,rfl⟩
 obtain⟨B,x,D,E,rfl,a6⟩:=T;have m:=λ(i:Nat) (N:St)=>Hy [a] [Y a.p,X1 id a.ts] i (r.single ⟨id,rfl⟩) (by simp;exact Jqx) nk N;have a2:=Fs (l:=[a]) (by simp;exact Jqx);have a0:V (idleB q a=Lb q 0 (Cs [a])):=rfl;generalize idleB q a=e at*
 generalize Cs [a]=b at*
 have a4:=B9 b;simp only[BQ,CQ]at a2 m;refine wl func266 ?_;refine mt (m _) ?_;rintro yb ya _ _ ⟨⟨ac,rfl⟩,d⟩;have G:=((((W.refl N).new _).new _).lay 1).trans d;have p:=d.B;have k:=d.C;(try simp only[Az,Aa]at p k);refine X ?_;rename_i N1;have A:=k N.B L;rw[H6,Ah AM,Ao]at A;clear k d
 refine wn [2,10,11] 12 (Z b) (λi s g=>∃n:Nat,s 5=Y n/\W N g/\N.B<g.B/\g.C N.B=[B,x,D,E]/\n<=i/\V (e=Lb q n (b.drop i))) ⟨0,AG,G,L,A,nk,by simpa[V]using a0.o⟩ ?_
 clear G A p;rintro i s g _ _ _ ⟨n,h5,j,a5,ob,b1,o⟩;have a3:=j.B;by_cases F:i<Z b
 ·have I:=AK F;let⟨P,S⟩:=D2 I;have u:V (b.drop i=b[i]::b.drop (i+1)):=ET F;generalize b[i]=v at S u;clear I;have a7:=Q v;have f:V (e=if Dq q v=true then (if 1<n+1\/Dt (q.A.map (·.a)) v=1 then false else Lb q (n+1) (b.drop (i+1)))else Lb q n (b.drop (i+1))):=by
   rw[V,o.o,u.o,Lb]
  clear o u;cases K:Dq q v
  ·have f:V (e=Lb q n (b.drop (i+1))):=by rw[V,f.o,K];simp
   refine m0 ?_;intro yb ya;refine Xi (t _ _) ?_;rintro _ _ ⟨rfl,d⟩;(have p:=d.B;have k:=d.C;have M:=j.trans d);refine X ?_;refine⟨n,?_⟩;exact m8
  generalize a8:Dt (q.A.map (·.a)) v=a1 at*
  have f:V (e=if 1<n+1\/a1=1 then false else Lb q (n+1) (b.drop (i+1))):=by rw[V,f.o,K];simp
  repeat' first|refine Z1 ?_|refine Z8 λyb ya=>?_|refine Z4 ?_;clear ya yb|refine Z2 ?_ ?_<;>intro h ae<;>try exact Xp|(refine Z5 ?_;first|(refine Xi (t _ _) ?_;rintro _ _ ⟨rfl,d⟩;(have p:=d.B;have k:=d.C;have M:=j.trans d))|(refine Xi (R _ _) ?_;rintro _ _ ⟨rfl,y⟩;(have av:=y.B;have au:=y.C;have a9:=M.trans y)))|refine Z3 ?_|exact Zt|apply ya.o;clear ya yb
  ·have:e=false:=by
    rw[f.o,if_pos];right;simp only[DO]at h;omega
   exact⟨_,rfl,by rw[this]⟩
  ·have:e=Lb q (n+1) (b.drop (i+1)):=by
    rw[f.o,if_neg];simp only[beq_eq_false_iff_ne,ne_eq]at h;omega
   refine⟨n+1,?_⟩;exact m9 this
  have:e=false:=by
   rw[f.o,if_pos];left;omega
  exact⟨_,rfl,by rw[this]⟩
 obtain rfl:i=Z b:=L;have o:e:=by rw[o.o,IZ];rfl
 subst o;refine X ?_
 exact⟨_,rfl,rfl⟩
def F2 (q:AZ):AZ:={q with A:=q.A.eraseP λp=>idleB q p.a}
def oA {α:Type}(f:α->Bool)(l w):(l++[w]).eraseP f=if l.any f=true then l.eraseP f++[w]else if f w=true then l else l++[w]:=by by_cases h:l.any f=true;rw[if_pos h];rw[CU]at h;let⟨x,e,a⟩:=h;exact eraseP_append_left a _ e;rw[if_neg h];have g:∀b∈l,¬f b:=λb d a=>h (CU.2 ⟨b,d,a⟩);rw[eraseP_append_right _ g];by_cases c:f w=true;simp[c];simp[c]
def yT {α:Type}(f:α->Bool)(l):Z (l.eraseP f)<=Z l:=length_eraseP_le
def kF {q}(h:Qt q):Qt (F2 q):=by have b:∀p∈(F2 q).A,p∈q.A:=λp a=>mem_of_mem_eraseP a;have c:Z (F2 q).A<=Z q.A:=yT _ _;exact⟨h.hd,BI c h.pl,h.nl,λp a=>h.pa p (b p a),λp a=>h.pt p (b p a),λp a=>h.p3 p (b p a),h.na⟩
def nZ (q c)(a1:EQ q c)(M:Qt q)(u):ni 256 [ag c] u λa7 f=>(∃U,a7=ag U/\EQ (F2 q) U)/\W u f:=by
 have a2:=a1;obtain⟨G,ac,v,ae,K,rfl,P,hN⟩:=a1;have ah:=r.length Ex P;have hl:=M.pl;have z:=λ(a:Dx) (id:Nat) (T:Z a.ts<=3) u=>sH q _ a id T a2 M u;clear a2;refine wl func256 ?_;refine X ?_
 refine wn [1,2,3,13,14] 15 (Z q.A) (λk a8 f=>∃(E:Nat) (d:Bool) (o:List Part) (e:oh),a8 4=my d/\W u f/\u.B+2<f.B/\f.C u.B=[Y q.h.p,X1 G q.h.ts,sl ac (Z q.A) ae,sl v (Z q.B) K]/\f.C (u.B+1)=[Y 0,H,H,H]/\f.C (u.B+2)=[Y q.h.p,X1 G q.h.ts,sl E (Z o) e,sl v (Z q.B) K]/\J u f E (Z o)/\Z o<=k/\Z e=Z o*3/\V (r Oa o e/\d=(q.A.take k).any (λp=>idleB q p.a)/\o=(q.A.take k).eraseP λp=>idleB q p.a)) ⟨1,false,[],[],AG,Xs,BJ,?_,?_,?_,J.nil _ _,nk,nk,⟨rfl,nk,nk⟩⟩ ?_
 ·rw[Aj L,Ah AM,Ah AM,Ao]
 ·rw[Aj L,Ah AM,Be AM AM]
 ·rw[show u.B+2=u.B+1+1 by omega,Ak];simp
 rintro k a8 f _ _ _ ⟨E,d,o,e,h4,l,a6,a3,a0,az,s,a5,av,t⟩;have a4:=l.B;by_cases aa:k<Z q.A
 ·obtain⟨w,F⟩:=gq aa;obtain⟨id,b,a7,hd⟩:=F0 P F;have hb:=M.pa _ (AY F);have y:V ((q.A.take (k+1)).eraseP (λp=>idleB q p.a)=if (q.A.take k).any (λp=>idleB q p.a)=true then (q.A.take k).eraseP (λp=>idleB q p.a)++[w]else if idleB q w.a=true then q.A.take k else q.A.take k++[w]):=by
   rw[V,AT,F,BN,oA]
  have B:V ((q.A.take (k+1)).any (λp=>idleB q p.a)=((q.A.take k).any (λp=>idleB q p.a)||idleB q w.a)):=by
   rw[V,AT,F,BN,MH];simp
  have C:V ((q.A.take k).any (λp=>idleB q p.a)=false->(q.A.take k).eraseP (λp=>idleB q p.a)=q.A.take k):=λh=>eraseP_of_forall_not (λa T hf=>by
   rw[EV]at h
   exact h a T hf)
  clear F;have z:=z w.a id hb;cases d
  ·cases A:idleB q w.a with
   |true=>
    have D:V (r Oa o e/\true=(q.A.take (k+1)).any (λp=>idleB q p.a)/\o=(q.A.take (k+1)).eraseP λp=>idleB q p.a):=by
     obtain⟨n,g,j⟩:=t.o;refine⟨n,?_,?_⟩
     ·rw[B.o,<-g,A];rfl
     rw[y.o,if_neg (by rw[<-g];simp),if_pos A,j,C.o g.symm]
    clear t y B C;rw[A]at z;refine m0 ?_;intro yb ya;refine Xi (z _) ?_;rintro _ _ ⟨rfl,i⟩;(have m:=i.B;have S:=i.C;have ay:=((l.new _).put l.B _).trans i;have ax:=J.keep (J.put (J.new s _) _ _) i;simp only[Ac,Aa]at m S);refine X ?_;refine⟨E,true,o,e,?_⟩;exact m9 D
   |false=>
    have D:V (r Oa (o++[w]) (e++[Y w.a.p,X1 id w.a.ts,sl b (Z w.A) (Fg w.A)])/\false=(q.A.take (k+1)).any (λp=>idleB q p.a)/\o++[w]=(q.A.take (k+1)).eraseP λp=>idleB q p.a):=by
     obtain⟨n,g,j⟩:=t.o;refine⟨r.append n (r.single ⟨id,b,rfl⟩),?_,?_⟩
     ·rw[B.o,<-g,A];rfl
     rw[y.o,if_neg (by rw[<-g];simp),if_neg (by rw[A];simp),j,C.o g.symm]
    clear t y B C;rw[A]at z;refine m0 ?_;intro yb ya;refine Xi (z _) ?_;rintro _ _ ⟨rfl,i⟩;(have m:=i.B;have S:=i.C;have ay:=((l.new _).put l.B _).trans i;have ax:=J.keep (J.put (J.new s _) _ _) i;simp only[Ac,Aa]at m S);refine m5 ?_;intro yb ya;intro x R N I Q a9 ad ab;refine X ?_;refine⟨x,false,o++[w],e++[Y w.a.p,X1 id w.a.ts,sl b (Z w.A) (Fg w.A)],?_⟩
    ((repeat' refine Zi ?_ ?_)<;>first|exact Xq|exact (I.put L _)|exact (nn (J.put N _ _))|exact D|exact Xs)
  have D:V (r Oa (o++[w]) (e++[Y w.a.p,X1 id w.a.ts,sl b (Z w.A) (Fg w.A)])/\true=(q.A.take (k+1)).any (λp=>idleB q p.a)/\o++[w]=(q.A.take (k+1)).eraseP λp=>idleB q p.a):=by
   obtain⟨n,g,j⟩:=t.o;refine⟨r.append n (r.single ⟨id,b,rfl⟩),?_,?_⟩
   ·rw[B.o,<-g];rfl
   rw[y.o,if_pos g.symm,j]
  clear t y B C;refine nh ?_;intro yb ya;refine Bo (by first|exact Ee) ((l.new _).put l.B _) (J.put (J.new s _) _ _) nr (by rfl) (av) (by rfl) (by rfl) nr L L ?_;intro x R N I Q a9 ad ab;have af:∀p,p<f.B->R.C p=f.C p:=λp hp=>by rw[Q,Aj L,Ah L]
  refine Z3 ?_;refine X ?_;refine⟨x,true,o++[w],e++[Y w.a.p,X1 id w.a.ts,sl b (Z w.A) (Fg w.A)],?_⟩
  ((repeat' refine Zi ?_ ?_)<;>first|exact Xq|exact (I.put L _)|exact (nn (J.put N _ _))|exact D|exact Xs)
 obtain rfl:k=Z q.A:=L;obtain⟨n,-,j⟩:=t.o;rw[AS]at j;refine X ?_;exact⟨_,rfl,⟨_,rfl,G,E,v,e,K,by rw[F2,<-j],by rw[F2,<-j];exact n,hN⟩,l.put L _⟩
inductive EA (q:AZ):AZ->Prop where
 |refl:EA q q
 |tail {q':AZ}:EA q q'->EA q (F2 q')
def sD (q c)(Lqx:EQ q c)(y:Qt q)(u):ni 221 [ag c] u λT d=>(∃A x,T=ag A/\EQ x A/\Qt x/\EA q x)/\W u d:=by
 obtain⟨z,C,g,E,B,rfl,n,o⟩:=Lqx;have D:=y.pl;apply wl func221;refine X ?_
 refine Ae (λm s d=>∃(a:AZ) (l:oh),s 1=ptr u.B 0/\s 2=ptr (u.B+1) 0/\s 3=Y m/\m<=65/\W u d/\u.B+1<d.B/\d.C u.B=l/\d.C (u.B+1)=[Y 0,H,H,H]/\EQ a l/\V (Qt a/\EA q a)) (Z q.A+1)
  ⟨q,_,AG,AG,AG,L,Xs,AM,rfl,?_,⟨z,C,g,E,B,?_,n,o⟩,y,.refl⟩ ?_
 ·rw[Be AM AM]
 ·rw[Ah AM,Ao]
 rintro m s d ⟨a,l,a0,P,R,M,p,a2,N,a1,F,e⟩;have v:=F;obtain⟨z,C,g,E,B,rfl,n,o⟩:=F;have G:=λu=>nZ a _ v e.o.1 u;have K:V _:=v;clear v;have D:=e.o.1.pl;by_cases a4:Z a.A<m
 ·refine mt G ?_;rintro yb ya _ _ ⟨⟨_,rfl,j,i,b,f,k,rfl,Q,S⟩,t⟩;have U:=t.B;have a3:=t.C;have I:=p.trans t;refine X ?_
  refine⟨Z a.A,L,F2 a,[Y (F2 a).h.p,sl j (Z (F2 a).h.ts) (Ad (F2 a).h.ts),sl i (Z (F2 a).A) f,sl b (Z (F2 a).B) k],?_⟩
  ((repeat' refine Zi ?_ ?_)<;>first|exact Xq|exact (I.put L _)|exact (⟨j,i,b,f,k,rfl,Q,S⟩)|exact (⟨kF e.o.1,.tail e.o.2⟩)|exact Xs)
 refine X ?_;exact⟨_,rfl,⟨_,a,rfl,K.o,e.o.1,e.o.2⟩,p.put L _⟩
def Io {t}(h:Z t=3):Z (As t)=3:=by rw[B9,h]
def Ow {t}(h:Z t=3)(a):take 3 (As t++a)=As t:=by rw[take_append_of_le_length (Io h▸AU _),FZ (Io h▸AU _)]
def Jm {t}(h:Z t=3):take 3 (As t)=As t:=FZ (Io h▸AU _)
def Qj {t}(h:Z t=3)(x y z):lsp [x,y,z] 0 (As t)=As t:=by
 match t,h with
 |[a,b,c],_=>rfl
def eM {t}(h:Z t=3)(a):3<=Z (As t++a):=by rw[AX,Io h];omega
def Qk {t}{i:Nat}{x}(h:t[i]?=some x):(As t)[i]?=some (Y x):=by simp[As,h]
def Ux (a:List Tm)(t:Ck)(i:Nat):Bool:=match a[i]?,t[i]? with
 |some (false,n),some x=>x==n
 |some (true,v),some x=>x==(t[(Jp a v).toNat]?).getD 0
 |_,_=>false
def Mp (a:List Tm)(t:Ck):Bool:=(range (Z a)).all (Ux a t)
def sI (p m ts t)(N:Z t=3)(hn:Z ts<=3)(u):ni 185 [ag [Y p,X1 m ts],ag (As t)] u λa1 a=>a1=my (Mp ts t)/\W u a:=by
 have a3:=Cx ts;have a7:=Io N;have a6:=Jm N;have aw:Z ts<=1000:=L;have a9:∀i,i<Z ts->Ux ts t i=false->Mp ts t=false:=λi a8 h=>by
  unfold Mp;rw[IQ];exact⟨i,nn a8,by rw[h];simp⟩
 refine wl func185 ?_;refine X ?_
 refine wn [2,3,8,9] 10 (Z ts) (λi ad a=>W u a/\u.B+1<a.B/\a.C u.B=[Y p,X1 m ts]/\a.C (u.B+1)=As t/\V (∀j,j<i->Ux ts t j)) ⟨Xs,AM,?_,?_,λj F=>L⟩ ?_
 ·rw[Ah AM,Ao]
 ·rw[Be AM AM]
 rintro i ad a _ _ _ ⟨g,a4,av,P,C⟩;have a0:=g.B;by_cases S:i<Z ts
 ·obtain⟨w,q⟩:=gq S;obtain⟨a1,hd⟩:=C3 q;have v:t[i]?=some t[i]:=AK L;have ab:=Qk v;generalize t[i]=x at v ab;let⟨w1,f⟩:=w;have R:V (Ux ts t i->∀j,j<i+1->Ux ts t j):=λh j F=>by
   by_cases e:j=i
   ·subst e;exact h
   exact C.o j L
  have I:V (Ux ts t i=false->Mp ts t=false):=a9 i S;cases w1
  ·have z:V (Ux ts t i=(x==f)):=by rw[V,Ux,q,v]
   clear q v C;refine X ?_;refine Ax Ag (λ_=>True) [] [0,1,2,3,4,5,6,7,8,9,10] [] AH (λ_ _ _ h=>h) ?_;intro yb ya;refine m6 ?_ ?_<;>intro h aa
   ·exact⟨_,rfl,by rw[I.o (by rw[z.o];simp only[bne_iff_ne,ne_eq]at h;simp[h])],(g.new _).put g.B _⟩
   have T:W u ((a.new [my false,Y 0]).put a.B [my false,Y f]):=(g.new _).put g.B _;have A:∀p,p<a.B->((a.new [my false,Y 0]).put a.B [my false,Y f]).C p=a.C p:=λp hp=>by rw[Aj L,Ah L]
   refine A2 (Q:=λe b c=>e= .normal/\b 39=my false/\b 2=ptr u.B 0/\b 3=ptr (u.B+1) 0/\b 8=X1 m ts/\b 9=Y (Z ts)/\b 10=Y i/\c=(a.new [my false,Y 0]).put a.B [my false,Y f]) ?_ ?_
   ·refine Ar Ag (λ_=>True) [] [0,1,2,3,4,5,6,7,8] 5 (nv 14 511) AH (λ_ _ _ h=>by cases h.1) ?_;intro yb ya;refine Z3 ?_;refine ya.o _ ?_;clear ya yb;refine Ai (i:=9) AH ?_;refine Am ?_;intro yb ya;refine Z3 ?_;refine ya.o _ _ ⟨kept_refl,?_⟩;clear ya yb;refine Df [10,11,12,13] AH AH (λ_ _ _ h=>by cases h.1) (AU _) (λo M _=>rfl) ?_;intro yb ya;refine Z3 ?_;refine ya.o _ _ ⟨rfl,?_⟩;simp[upd, *]
   rintro e b c ⟨rfl,d,g2,ac,g8,g9,a2,rfl⟩;refine De d ?_;refine X ?_;skip
   ((repeat' refine Zi ?_ ?_)<;>first|exact Xq|exact (R.o (by rw[z.o];simpa using h))|exact Xs)
  obtain⟨s,ah,K⟩:∃k:Nat,k<Z ts/\Jp ts f=(k:Int):=by
   have E:=AY q;exact⟨ts.idxOf (true,f),idxOf_lt_length_iff.2 E,if_pos E⟩
  have D:t[s]?=some t[s]:=AK L;have ay:=Qk D;generalize t[s]=y at D ay;have z:V (Ux ts t i=(x==y)):=by rw[V,Ux,q,v];simp[K,D]
  clear q v C D;have U:=λu=>Gw p m ts f aw u;rw[K]at U;refine X ?_;refine Ax Ag (λ_=>True) [] [0,1,2,3,4,5,6,7,8,9,10] [] AH (λ_ _ _ h=>h) ?_;intro yb ya;refine X ?_;have T:W u ((a.new [my false,Y 0]).put a.B [my true,Y f]):=(g.new _).put g.B _;have A:∀p,p<a.B->((a.new [my false,Y 0]).put a.B [my true,Y f]).C p=a.C p:=λp hp=>by rw[Aj L,Ah L]
  refine A2 (Q:=λe b c=>e= .normal/\b 39=my (x !=y)/\b 2=ptr u.B 0/\b 3=ptr (u.B+1) 0/\b 8=X1 m ts/\b 9=Y (Z ts)/\b 10=Y i/\W ((a.new [my false,Y 0]).put a.B [my true,Y f]) c) ?_ ?_
  ·refine Ar Ag (λ_=>True) [] [0,1,2,3,4,5,6,7,8] 5 (nv 14 511) AH (λ_ _ _ h=>by cases h.1) ?_;intro yb ya;refine Z3 ?_;refine ya.o _ ?_;clear ya yb;refine Ai (i:=9) AH ?_;refine Am ?_;intro yb ya;refine Z3 ?_;refine AF.mono (U _) ?_;rintro _ u5 ⟨rfl,l⟩;refine Z3 ?_;refine ya.o _ _ ⟨Al l,?_⟩;clear ya yb;have G:=l.B;have n:=l.C;simp only[Ac,Aa]at G n;have o5:u5.C (u.B+1)=As t:=by rw[n _ L,A _ L,P]
   refine Df [10,11,12,13] AH AH (λ_ _ _ h=>by cases h.1) l.B (λo M _=>l.ver o M) ?_;intro yb ya;refine Z3 ?_;refine ya.o _ _ ⟨rfl,?_⟩;simp[upd, *]
  rintro e b c ⟨rfl,d,g2,ac,g8,g9,a2,l⟩;have G:=l.B;have n:=l.C;simp only[Ac,Aa]at G n;have a5:=T.trans l;have af:c.C u.B=[Y p,X1 m ts]:=by rw[n _ L,A _ L,av]
  have ai:c.C (u.B+1)=As t:=by rw[n _ L,A _ L,P]
  clear n A;cases B:x !=y with
  |true=>
   rw[B]at d;refine Cj d ?_;refine X ?_;exact⟨_,rfl,by rw[I.o (by rw[z.o];simp only[bne_iff_ne,ne_eq]at B;simp[B])]⟩
  |false=>
   rw[B]at d;refine De d ?_;refine X ?_;skip
   ((repeat' refine Zi ?_ ?_)<;>first|exact Xq|exact (R.o (by rw[z.o];simpa using B))|exact Xs)
 obtain rfl:i=Z ts:=L;have ae:Mp ts t:=by
  unfold Mp;rw[CX];intro j F;exact C.o j (nn F)
 refine X ?_
 exact⟨_,rfl,rfl⟩
def Kw {l k t}(d:T3 l)(h:l[k]?=some t):Z t=3/\∃f,(Fg l).drop (k*3)=As t++f:=by obtain⟨a,b,c,f,rfl,e⟩:=uQ d h;exact⟨rfl,f,by rw[e];rfl⟩
def Iu (t:Ck)(k:Int):Int:=(t[k.toNat]?).getD 0
def K3 {a v}(h:Bm a v):∃k:Nat,k<Z a/\Jp a v=(k:Int):=by
 have b:(true,v)∈a:=by simpa[Bm]using h
 exact⟨a.idxOf (true,v),idxOf_lt_length_iff.2 b,if_pos b⟩
def Iv (v n:Int)(p:Part):Part:=if Bm p.a.ts v=true then⟨⟨p.a.p,Bt v n p.a.ts⟩,p.A.filter λt=>Iu t (Jp p.a.ts v)==n⟩else p
def Em {α:Type}(f:α->Bool)(l x):(l++[x]).filter f=l.filter f++if f x=true then [x]else []:=by rw[IR];by_cases h:f x=true<;>simp[h]
def sE (p id a0 v n)(ha:Z p.a.ts<=3)(ht:Z p.A<=5000)(Q:T3 p.A)(u):ni 227 [ag [Y p.a.p,X1 id p.a.ts,sl a0 (Z p.A) (Fg p.A)],Y v,Y n] u λa2 b=>(∃U,a2=ag U/\Oa (Iv v n p) U)/\W u b:=by
 have bg:=J4 Q;have S:Z p.a.ts<=1000:=L;have F:=λu=>Gw p.a.p id p.a.ts v S u;have bb:=λu=>Oz p.a.p id p.a.ts v n S u;cases E:Bm p.a.ts v
 ·have N:Jp p.a.ts v= -1:=K1 (by simpa[Bm]using E);have M:V (Iv v n p=p):=if_neg (by rw[E];simp);rw[N]at F;clear N;refine Z9 44 [.cell 6 239] func227 ?_;refine m0 ?_;intro yb ya;refine Xi (F _) ?_;rintro _ _ ⟨rfl,d⟩;(have I:=d.B;have y:=d.C;have G:=(((W.refl u).new _).new _).trans d;simp only[Aa]at I y);refine X ?_;exact⟨_,rfl,⟨_,rfl,by rw[M.o];exact⟨id,a0,rfl⟩⟩,G.put L _⟩
 obtain⟨a,am,m⟩:=K3 E;have M:V (Iv v n p=⟨⟨p.a.p,Bt v n p.a.ts⟩,p.A.filter λt=>Iu t a==n⟩):=by rw[V,Iv,if_pos E,m]
 rw[m]at F;clear m;have a6:a<3:=L;have a7:((a:Int)== -1)=false:=nk;refine Z9 44 [.cell 6 239] func227 ?_
 (repeat (refine m0 ?_;intro yb ya;(first|(refine Xi (F _) ?_;rintro _ _ ⟨rfl,d⟩;(have I:=d.B;have y:=d.C;have G:=(((W.refl u).new _).new _).trans d;simp only[Aa]at I y))|(refine Xi (bb _) ?_;rintro _ _ ⟨⟨a1,rfl⟩,j⟩;(have a3:=j.B;have T:=j.C;have bc:=G.trans j)))));refine X ?_
 rename_i u1 A;have R:A.C (u.B+1)=[Y 0,H,H]:=by rw[T _ L,y _ L,Be AM AM]
 clear y T G d j
 refine wn [2,6,7,8,25,26] 27 (Z p.A) (λi ai b=>∃(q:Nat) (o:List Ck) (c:oh),W u b/\A.B<b.B/\b.C (u.B+1)=[Y 0,H,H]/\b.C A.B=[Y p.a.p,X1 a1 (Bt v n p.a.ts),sl q (Z o) c]/\J u b q (Z o)/\Z o<=i/\Z c=Z o*3/\V (c=Fg o/\o=(p.A.take i).filter λt=>Iu t a==n)) ⟨1,[],[],Xs,BJ,?_,?_,J.nil _ _,nk,nk,⟨rfl,nk⟩⟩ ?_
 ·rw[Aj L,Ah L,R]
 ·rw[Ak];simp
 clear R bc;rintro i ai b _ _ _ ⟨q,o,c,B,bi,be,bd,P,bh,ah,k⟩;have bf:=B.B;by_cases a8:i<Z p.A
 ·have C:=AK a8;obtain⟨e,a2,hd⟩:=Kw Q C;generalize p.A[i]=t at hd C e;have z:V ((p.A.take (i+1)).filter (λt=>Iu t a==n)=(p.A.take i).filter (λt=>Iu t a==n)++if (Iu t a==n)=true then [t]else []):=by
   rw[V,AT,C,BN,Em]
  have D:t[a]?=some t[a]:=AK L;have ba:=Qk D;have l:V (Iu t a=t[a]):=by simp[V,Iu,D]
  generalize t[a]=x at D ba l;clear C D;have f1:=Io e;have f2:=Ow e;have f3:=Jm e;have f4:=Qj e;have af:=Fo t;have f6:=eM e;by_cases s:x=n
  ·subst s;have K:V (c++As t=Fg (o++[t])/\o++[t]=(p.A.take (i+1)).filter λt=>Iu t a==x):=by
    obtain⟨g,f⟩:=k.o;refine⟨by rw[g,Q9],?_⟩;rw[z.o,if_pos (by rw[l.o];simp),f]
   clear k z l;refine nh ?_;intro yb ya;refine Bo (by first|exact G6) ((B.new _).put B.B _) (J.put (J.new P _) _ _) nr (by rfl) (ah) (by rw[f1]) (af) nr L L ?_;intro a4 un ak a5 ac aa ad ab;simp only[Ac,Aa]at aa;have aj:∀p,p<b.B->un.C p=b.C p:=λp N=>by rw[ac,Aj L,Ah L]
   refine Z3 ?_;refine X ?_;refine⟨a4,o++[t],c++As t,?_⟩
   ((repeat' refine Zi ?_ ?_)<;>first|exact Xq|exact (a5.put L _)|exact (nn (J.put ak _ _))|exact K|exact Xs)
  have ae:(x==n)=false:=nn s;have K:V (c=Fg o/\o=(p.A.take (i+1)).filter λt=>Iu t a==n):=by
   obtain⟨g,f⟩:=k.o;refine⟨g,?_⟩;rw[z.o,if_neg (by rw[l.o,ae];simp),f,EJ]
  clear k z l s;refine X ?_;refine⟨q,o,c,?_⟩
  ((repeat' refine Zi ?_ ?_)<;>first|exact Xq|exact (J.put (J.new P _) _ _)|exact K|exact Xs)
 have a9:i=Z p.A:=L;subst a9;obtain⟨g,f⟩:=k.o;rw[AS]at f;refine X ?_;exact⟨_,rfl,⟨_,rfl,by rw[M.o,<-f];exact⟨a1,q,by first|rfl|rw[g]⟩⟩,B.put L _⟩
def Gg (v n:Int)(a:Dx):Dx:=⟨a.p,Bt v n a.ts⟩
def Dl (v n:Int)(q:AZ):AZ:=⟨Gg v n q.h,q.A.map (Iv v n),q.B.map (Gg v n)⟩
def XT {p c}(h:Oa p c):∃x y z,c=[x,y,z]/\flat x/\flat y/\flat z:=by obtain⟨id,a,rfl⟩:=h;exact⟨_,_,_,rfl,rfl,rfl,rfl⟩
def Y0 (q c v n)(hc:EQ q c)(P:Qt q)(u):ni 190 [ag c,Y v,Y n] u λan a=>(∃D,an=ag D/\EQ (Dl v n q) D)/\W u a:=by
 obtain⟨ih,ai,a1,am,ah,rfl,hP,hN⟩:=hc;have bn:=r.length Ex hP;have b2:=r.length Iz hN;have hl:=P.pl;have b3:=P.nl;have hh:=P.hd;have bi:Z q.h.ts<=1000:=L;have bp:=λu=>Oz q.h.p ih q.h.ts v n bi u;refine wl func190 ?_;refine mt bp ?_;rintro yb ya _ _ ⟨⟨l,rfl⟩,a0⟩;have a3:=a0.B;have ao:=a0.C;have bu:=(((W.refl u).new _).new _).trans a0;simp only[Aa]at a3 ao;refine X ?_;rename_i k;have o0:k.C u.B=[Y q.h.p,X1 ih q.h.ts,sl ai (Z q.A) am,sl a1 (Z q.B) ah]:=by rw[ao _ L,Ah AM,Ao]
 have o1:k.C (u.B+1)=[Y 0,H,H,H]:=by rw[ao _ L,Be AM AM]
 clear ao a0
 refine wn [1,2,3,6,7,19,20] 21 (Z q.A) (λi ap a=>∃(K:Nat) (B:oh),W u a/\k.B<a.B/\a.C u.B=[Y q.h.p,X1 ih q.h.ts,sl ai (Z q.A) am,sl a1 (Z q.B) ah]/\a.C (u.B+1)=[Y 0,H,H,H]/\a.C k.B=[Y q.h.p,X1 l (Bt v n q.h.ts),sl K i B,H]/\J u a K i/\Z B=i*3/\V (r Oa ((q.A.take i).map (Iv v n)) B)) ⟨1,[],Xs,BJ,?_,?_,?_,J.nil _ _,nk,by simp[V,r]⟩ ?_
 ·rw[Aj L,Ah L,o0]
 ·rw[Aj L,Ah L,o1]
 ·rw[Ak]
 clear o0 o1 bu;rintro i ap a hi ⟨h1,h2,h3,h6,h7,bg,bf⟩ be ⟨K,B,A,s,ay,I,F,N,a7,hX⟩;have bb:=A.B;by_cases ae:i<Z q.A
 ·obtain⟨w,m⟩:=gq ae;obtain⟨id,a2,an,hd⟩:=F0 hP m;have az:=P.pa _ (AY m);have bd:=P.pt _ (AY m);have bc:=P.p3 _ (AY m);have HG:V ((q.A.take (i+1)).map (Iv v n)=(q.A.take i).map (Iv v n)++[Iv v n w]):=by
   rw[V,AT,m];simp
  clear m;have a8:=λu=>sE w id a2 v n az bd bc u;have b1:V _:=hX;have a6:V _:=a7;refine X ?_;have z:W u ((a.new [Y 0,H,H]).put a.B [Y w.a.p,X1 id w.a.ts,sl a2 (Z w.A) (Fg w.A)]):=(A.new _).put A.B _;have C:∀p,p<a.B->((a.new [Y 0,H,H]).put a.B [Y w.a.p,X1 id w.a.ts,sl a2 (Z w.A) (Fg w.A)]).C p=a.C p:=λp M=>by rw[Aj L,Ah L]
  refine A2 (Q:=λe f b=>e= .normal/\f 1=Y v/\f 2=Y n/\f 3=ptr u.B 0/\f 6=ptr (u.B+1) 0/\f 7=ptr k.B 0/\f 19=sl ai (Z q.A) am/\f 20=Y (Z q.A)/\f 21=Y i/\W u b/\k.B<b.B/\b.C u.B=[Y q.h.p,X1 ih q.h.ts,sl ai (Z q.A) am,sl a1 (Z q.B) ah]/\b.C (u.B+1)=[Y 0,H,H,H]/\∃d D,b.C k.B=[Y q.h.p,X1 l (Bt v n q.h.ts),sl d (i+1) (B++D),H]/\J u b d (i+1)/\Oa (Iv v n w) D) ?_ ?_
  ·refine bT [9] [0,1,2,3,4] 5 (nv 10 31) ?_;refine tn 5 a8 ?_;rintro yb ya _ u5 ⟨⟨D,rfl,y⟩,g⟩;refine ux ?_;obtain⟨b5,b6,b7,rfl,aw,ax,b4⟩:=XT y;have av:=g.B;have T:=g.C;simp only[Ac,Aa]at av T;have ba:=z.trans g;have a9:=J.keep (J.put (J.new N [Y 0,H,H]) a.B [Y w.a.p,X1 id w.a.ts,sl a2 (Z w.A) (Fg w.A)]) g;refine rl 6 ?_;refine Ai (i:=7) AH ?_;refine Am ?_;intro yb ya;refine Z3 ?_;refine Bo (by first|exact F5|exact Ee) ba a9 nr (by rfl) a7 (by rfl) (by simp[aw,ax,b4]) nr L L ?_;intro d U aj ak ad ab E aa;refine Z3 ?_;refine ya.o _ _ ⟨λ_ o x _=>by rw[E];exact g.ver o x,?_⟩;clear ya yb;refine Ai (i:=8) AH ?_;refine Am ?_;intro yb ya;refine Z3 ?_;refine ya.o _ _ ⟨λ_ o x _=>by rw[E];exact g.ver o x,?_⟩;clear ya yb;have R:∀p,p<a.B->U.C p=a.C p:=λp M=>by rw[ad,T _ L,C _ M]
   have au:U.C k.B=[Y q.h.p,X1 l (Bt v n q.h.ts),sl K i B,H]:=by rw[R _ s,F]
   refine rl 9 ?_;refine Aw AH ⟨rfl,?_⟩;simp only[upd,↓reduceIte,Nat.reduceEqDiff,h1,h2,h3,h6,h7,bg,bf,be,GM];refine⟨ak.put L _,by simp only[Ac];omega,?_,?_,d,[b5,b6,b7],?_,J.put aj _ _,y⟩
   ·rw[Aj L,R _ L,ay]
   ·rw[Aj L,R _ L,I]
   rw[Ak]
  clear C z hX N a7 ay I F s;rintro e f b ⟨rfl,g1,g2,g3,g6,g7,b8,b9,bj,A,s,ay,I,d,D,F,N,y⟩;have HX:V (r Oa ((q.A.take (i+1)).map (Iv v n)) (B++D)):=by rw[V,HG.o];exact r.append b1.o (r.single y)
  have bo:=Ex _ _ y;refine X ?_;refine⟨d,B++D,?_⟩
  ((repeat' refine Zi ?_ ?_)<;>first|exact Xq|exact HX|exact (by rw[AX,bo,a6.o];omega)|exact Xs)
 obtain rfl:i=Z q.A:=L;rw[AS]at hX;generalize hM:Z q.A=af at*
 have HM:V _:=hM;clear hM ae hi;refine X ?_
 refine wn [1,2,6,7,36,37] 38 (Z q.B) (λj ap a=>∃(S:Nat) (G:oh),W u a/\k.B<a.B/\a.C (u.B+1)=[Y 0,H,H,H]/\a.C k.B=[Y q.h.p,X1 l (Bt v n q.h.ts),sl K af B,sl S j G]/\J u a S j/\Z G=j*2/\V (r O9 ((q.B.take j).map (Gg v n)) G)) ⟨1,[],A,s,I,by rw[F],J.nil _ _,nk,by simp[V,r]⟩ ?_
 clear h1 h2 h3 h6 h7 bg bf be A s ay I F N bb;rintro j ap a _ ⟨h1,h2,h6,h7,bz,bw⟩ bv ⟨S,G,A,s,I,F,N,a5,hY⟩;have bb:=A.B;by_cases ae:j<Z q.B
 ·obtain⟨w,m⟩:=gq ae;obtain⟨id,an,hd⟩:=Ke hN m;have az:=P.na _ (AY m);have HG:V ((q.B.take (j+1)).map (Gg v n)=(q.B.take j).map (Gg v n)++[Gg v n w]):=by
   rw[V,AT,m];simp
  clear m;have bh:Z w.ts<=1000:=L;have a8:=λu=>Oz w.p id w.ts v n bh u;have b0:V _:=hY;have a4:V _:=a5;refine X ?_;have z:W u ((a.new [Y 0,H]).put a.B [Y w.p,X1 id w.ts]):=(A.new _).put A.B _;have C:∀p,p<a.B->((a.new [Y 0,H]).put a.B [Y w.p,X1 id w.ts]).C p=a.C p:=λp M=>by rw[Aj L,Ah L]
  refine A2 (Q:=λe f b=>e= .normal/\f 1=Y v/\f 2=Y n/\f 6=ptr (u.B+1) 0/\f 7=ptr k.B 0/\f 36=sl a1 (Z q.B) ah/\f 37=Y (Z q.B)/\f 38=Y j/\W u b/\k.B<b.B/\b.C (u.B+1)=[Y 0,H,H,H]/\∃d t,b.C k.B=[Y q.h.p,X1 l (Bt v n q.h.ts),sl K af B,sl d (j+1) (G++[Y w.p,X1 t (Bt v n w.ts)])]/\J u b d (j+1)) ?_ ?_
  ·refine bT [9] [0,1,2,3,4] 5 (nv 10 31) ?_;refine tn 5 a8 ?_;rintro yb ya _ u5 ⟨⟨t,rfl⟩,g⟩;refine ux ?_;have av:=g.B;have T:=g.C;simp only[Ac,Aa]at av T;have ba:=z.trans g;have a9:=J.keep (J.put (J.new N [Y 0,H]) a.B [Y w.p,X1 id w.ts]) g;refine rl 6 ?_;refine Ai (i:=7) AH ?_;refine Am ?_;intro yb ya;refine Z3 ?_;refine hZ ba ?_;intro d U aj ak ad ab E aa;refine Z3 ?_;refine ya.o _ _ ⟨λ_ o x _=>by rw[E];exact g.ver o x,?_⟩;clear ya yb;refine Ai (i:=8) AH ?_;refine Am ?_;intro yb ya;refine Z3 ?_;refine ya.o _ _ ⟨λ_ o x _=>by rw[E];exact g.ver o x,?_⟩;clear ya yb;have R:∀p,p<a.B->U.C p=a.C p:=λp M=>by rw[ad,T _ L,C _ M]
   have au:U.C k.B=[Y q.h.p,X1 l (Bt v n q.h.ts),sl K af B,sl S j G]:=by rw[R _ s,F]
   refine rl 9 ?_;refine Aw AH ⟨rfl,?_⟩;simp only[upd,↓reduceIte,Nat.reduceEqDiff,h1,h2,h6,h7,bz,bw,bv,GM];refine⟨ak.put L _,by simp only[Ac];omega,?_,d,t,?_,J.put aj _ _⟩
   ·rw[Aj L,R _ L,I]
   rw[Ak]
  clear C z hY N a5 I F s;rintro e f b ⟨rfl,g1,g2,g6,g7,bk,bl,bm,A,s,I,d,t,F,N⟩;have HX:V (r O9 ((q.B.take (j+1)).map (Gg v n)) (G++[Y w.p,X1 t (Bt v n w.ts)])):=by rw[V,HG.o];exact r.append b0.o (r.single ⟨t,rfl⟩)
  refine X ?_;refine⟨d,G++[Y w.p,X1 t (Bt v n w.ts)],?_⟩
  ((repeat' refine Zi ?_ ?_)<;>first|exact Xq|exact HX|exact (by rw[AX,a4.o];simp;omega)|exact Xs)
 obtain rfl:j=Z q.B:=L;rw[AS]at hY;have br:Z (q.A.map (Iv v n))=af:=by rw[BV];exact HM.o
 have bq:Z (q.B.map (Gg v n))=Z q.B:=by rw[BV]
 refine X ?_;exact⟨_,rfl,⟨_,rfl,l,K,S,B,G,by simp only[Dl,Gg];rw[br,bq],hX.o,hY.o⟩,A.put L _⟩
def lv (ar:Nat)(t:Ck):Prop:=∀i,i<ar->∃k:Nat,t[i]?=some (k:Int)/\k<1026
def QN (q:AZ):Prop:=∀p∈q.A,∀t∈p.A,lv (Z p.a.ts) t
def Hi (f:Nat->Bool):oh:=(range 1026).map λi=>my (f i)
def oI:Pg 1026 (.bool false)=Hi λ_=>false:=by rw[Pg,Hi];rw[map_const'];simp[cst1]
def sR (f):Z (Hi f)=1026:=by simp[Hi]
def sS (f){k}(h:k<1026):(Hi f)[k]?=some (my (f k)):=by simp[Hi,h]
def sQ (f){k}(h:k<1026)(b):(Hi f).set k (my b)=Hi λj=>if j=k then b else f j:=by apply FL;intro n;rw[GH];by_cases a:n<1026;by_cases c:k=n;subst c;simp[Hi,a];have:n≠k:=λe=>c e.symm;simp[Hi,a,c,this];have:k≠n:=L;simp[Hi,a,this]
def wQ (a:Int)(acc:List Int)(t:Ck):List Int:=if Iu t a∈acc then acc else acc++[Iu t a]
def aL (a:List Ck)(b:Int):List Int:=a.foldl (wQ b) []
def Mo (q:AZ)(v:Int):List Int:=match q.A.find? (λp=>Bm p.a.ts v)with
 |some p=>aL p.A (Jp p.a.ts v)
 |none=>[]
def yP {α:Type}{f}{l:List α}{i x}(d:∀y∈l.take i,f y=false)(j:l[i]?=some x)(b:f x):l.find? f=some x:=by
 have e:=(BA.1 j);let⟨a,c⟩:=e
 conv=>lhs;rw[<-KD i l]
 rw[find?_append,KB.2 (λy g=>by rw[d y g];simp),ET a,c];simp[b]
def L4 (q c v)(hc:EQ q c)(I:Qt q)(hN:QN q)(d):ni 189 [ag c,Y v] d λa4 σ'=>(∃id,a4=X2 id (Mo q v))/\W d σ':=by
 obtain⟨ih,ip,am,pc,nc,rfl,a1,-⟩:=hc;have ak:=r.length Ex a1;have hl:=I.pl;have hz:=oI;refine wl func189 ?_;refine X ?_
 refine wn [1,5,6,14,15] 16 (Z q.A) (λi s σ'=>W d σ'/\d.B+1<σ'.B/\σ'.C (d.B+1)=Hi (λ_=>false)/\V (∀p∈q.A.take i,Bm p.a.ts v=false)) ⟨Xs,AM,?_,by simp[V]⟩ ?_
 ·rw[Be AM AM]
 rintro i s σ' _ ⟨h1,h5,h6,bm,bi⟩ bh ⟨g,a7,M,C⟩;have a6:=g.B;by_cases F:i<Z q.A
 ·have l:=AK F;obtain⟨id,Q,a4,hd⟩:=F0 a1 l;have bg:=I.pa _ (AR F);have bf:=I.pt _ (AR F);have T:=I.p3 _ (AR F);have a8:=hN _ (AR F);generalize q.A[i]=w at hd l bg bf T a8;have bc:Z w.a.ts<=1000:=L;have m:=λd=>Gw w.a.p id w.a.ts v bc d;have t:W d ((σ'.new [Y 0,H,H]).put σ'.B [Y w.a.p,X1 id w.a.ts,sl Q (Z w.A) (Fg w.A)]):=(g.new _).put g.B _;cases K:Bm w.a.ts v
  ·have n:Jp w.a.ts v= -1:=K1 (by simpa[Bm]using K);have D:V (∀p∈q.A.take (i+1),Bm p.a.ts v=false):=by
    rw[V,AT,l,BN];intro p n;rcases AW.1 n with n|n
    ·exact C.o p n
    simp at n;subst n;exact K
   rw[n]at m;clear n l C;refine m0 ?_;intro yb ya;refine Xi (m _) ?_;rintro _ _ ⟨rfl,u⟩;(have N:=u.B;have G:=u.C;have P:=t.trans u;simp only[Ac,Aa]at N G);refine X ?_;skip;exact m9 D
  obtain⟨o,ax,S⟩:=K3 K;have A:V (Mo q v=aL w.A o):=by rw[V,Mo,yP C.o l K];simp only[S]
  rw[S]at m;clear S l C;have ba:o<3:=L;have bb:((o:Int)== -1)=false:=nk;have bo:=J4 T;refine m0 ?_;intro yb ya;refine Xi (m _) ?_;rintro _ _ ⟨rfl,u⟩;(have N:=u.B;have G:=u.C;have P:=t.trans u;simp only[Ac,Aa]at N G);refine X ?_;rename_i ac;have o1:ac.C (d.B+1)=Hi (λ_=>false):=by rw[G _ L,Aj L,Ah L,M]
  clear G u
  refine Ae (λa3 s b=>∃(j z:Nat) (a:List Int) (f:Nat->Bool),a3=Z w.A-j/\j<=Z w.A/\s 5=X2 z a/\s 6=ptr (d.B+1) 0/\s 9=Y o/\s 27=sl Q (Z w.A) (Fg w.A)/\s 28=Y (Z w.A)/\s 29=Y j/\W d b/\d.B+1<b.B/\b.C (d.B+1)=Hi f/\J d b z (Z a)/\Z a<=j/\V (a=aL (w.A.take j) o/\∀k:Nat,f k=true↔(k:Int)∈a)) (Z w.A)
   ⟨0,1,[],λ_=>false,L,L,by simp[upd, *,As],AI,AG,AG,AG,rfl,P,L,o1,J.nil _ _,nk,by simp[aL],nk⟩ ?_
  clear o1 h1 h5 h6 bm bi bh g a7 M a6 P t;rintro a3 s b ⟨j,z,a,f,rfl,hj,h5,h6,h9,bu,br,bq,g,a7,M,hO,bn,y⟩;have a6:=g.B;have af:=B9 a;by_cases ao:j<Z w.A
  ·have l:=AK ao;obtain⟨E,r2,be⟩:=Kw T l;obtain⟨x,e,a0⟩:=a8 _ (AR ao) o ax;generalize w.A[j]=a5 at be l E e;have bp:=Qk e;have D:V (aL (w.A.take (j+1)) o=if (x:Int)∈a then a else a++[(x:Int)]):=by
    have a9:Iu a5 o=(x:Int):=by simp[Iu,e]
    rw[V,AT,l,BN,aL,foldl_append,y.o.1];simp only[FW,foldl_nil,wQ,a9];rfl
   clear l e;have f1:=Io E;have f2:=Ow E;have f3:=Jm E;have f4:=Qj E;have f5:=Fo a5;have f6:=eM E;have g1:=sS f a0;have g2:=sQ f a0 true;have g3:=sR f;by_cases B:(x:Int)∈a
   ·have U:f x=true:=(y.o.2 x).2 B;have R:V (a=aL (w.A.take (j+1)) o/\∀k:Nat,f k=true↔(k:Int)∈a):=⟨by rw[D.o,if_pos B],y.o.2⟩;rw[U]at g1;clear y D B g2
    refine X ?_;refine⟨Z w.A-(j+1),L,j+1,z,a,f,?_⟩
    ((repeat' refine Zi ?_ ?_)<;>first|exact Xq|exact (J.put (J.new hO _) _ _)|exact R|exact Xs)
   have U:f x=false:=by
    cases h:f x with
    |false=>rfl
    |true=>exact absurd ((y.o.2 x).1 h) B
   have R:V (a++[(x:Int)]=aL (w.A.take (j+1)) o/\∀k:Nat,(if k=x then true else f k)=true↔(k:Int)∈a++[(x:Int)]):=by
    refine⟨by rw[D.o,if_neg B],λk=>?_⟩;have h2:=y.o.2 k;by_cases a2:k=x
    ·subst a2;simp
    rw[if_neg a2,h2];have:¬(k:Int)=(x:Int):=L;simp[this]
   rw[U]at g1;clear y D B;refine nh ?_;intro yb ya;refine Bo (by first|exact S3) (((g.new _).put g.B _).put L _) (J.put (J.put (J.new hO _) _ _) _ _) nr (by rfl) (by rw[af,Nat.mul_one]) (by rfl) (by rfl) nr L L ?_;intro ah an ai aj ae aa ad ab;simp only[Ac,Aa]at aa;refine Z3 ?_;refine X ?_;refine⟨Z w.A-(j+1),L,j+1,ah,a++[(x:Int)],λk=>if k=x then true else f k,?_⟩
   ((repeat' refine Zi ?_ ?_)<;>first|exact Xq|exact (nn ai)|exact R|exact (by simp[As])|exact Xs)
  have bd:j=Z w.A:=L;subst bd;obtain⟨x1,-⟩:=y.o;rw[AS]at x1;rw[<-x1]at A;have A:=A.o;refine X ?_
  first|exact⟨_,rfl,⟨z,rfl⟩,g⟩|exact⟨_,rfl,⟨z,by rw[A]⟩,g⟩|exact⟨_,rfl,⟨z,rfl⟩⟩|exact⟨_,rfl,z,rfl⟩
 obtain rfl:i=Z q.A:=L;rw[AS]at C;have A:Mo q v=[]:=by
  unfold Mo;rw[KB.2 (λp n=>by rw[C.o p n];simp)]
 refine X ?_
 exact⟨_,rfl,1,rfl⟩
def Ie {P t z b E σ0 a id l n m c xs e K}(B:P0 P t=some (z,b,E))(g:W σ0 a)(u:J σ0 a id n)
  (v:0<z) (f:Z E=z) (p:Z xs=n*z) (A:Z e=m*z) (C:e.all flat) (q:0<m) (D:(n+m)*b<=140737488355328) (y:n+m<=1099511627776)
  (h:∀id' σ',J σ0 σ' id' (n+m)->W σ0 σ'->σ'.C=a.C->σ'.B=a.B->σ'.ver=a.ver->a.D<σ'.D->(∀i k,J σ0 a i k->(id=1\/id≠i)->J σ0 σ' i k/\(id'=1\/id'≠i))->K (sl id' (n+m) (xs++e)) σ'):Jx P t t (sl id n xs) (sl l m e) (a.lay c) K:=by
 unfold Jx iK;left;simp only[B];rw[if_pos ⟨trivial,v,f,p,A,C,q,D,y⟩];obtain⟨rfl,rfl⟩|⟨k,rfl,x,S,M,N⟩:=u;obtain rfl:xs=[]:=GG (nn p)
 have:=h ((a.lay c).D+2) ((a.lay c).lay m) (by rw[DY];exact J.made (g.lay c) q) ((g.lay c).lay m) rfl rfl rfl (by simp[St.lay];omega) (λi k d _=>by
  refine⟨d.keep (((W.refl _).lay _).lay _),?_⟩;right;obtain⟨rfl,-⟩|⟨j,rfl,-,T,-⟩:=d;simp[St.lay]
  simp[St.lay];omega)
 simpa using this;have s:(a.lay c).top k=n:=by simp[St.lay];rw[if_neg L];exact M
 simp only;rw[if_pos ⟨s,N⟩]
 exact h (k+2) _ (.inr ⟨k,rfl,x,by simp[St.raise,St.lay];omega,by simp[St.raise],L⟩) ((g.lay c).raise x _) rfl rfl rfl (by simp[St.raise,St.lay]) (λi j d o=>by
  have o:k+2≠i:=by rcases o with h|h<;>omega
  refine⟨?_,.inr o⟩;obtain d|⟨Q,rfl,F,R,G,I⟩:=d;exact .inl d
  exact .inr ⟨Q,rfl,F,by simp[St.raise,St.lay];omega,by simp[St.raise,St.lay];rw[if_neg L,if_neg L];exact G,I⟩)
def Fl (f:Nat->Nat):oh:=(range 1026).map λi=>Y (f i:Nat)
def mW:Pg 1026 (.int .i64 0)=Fl λ_=>0:=by rw[Pg,Fl];rw[map_const'];simp[cst1]
def Yn (f):Z (Fl f)=1026:=by simp[Fl]
def Yo (f){k}(h:k<1026):(Fl f)[k]?=some (Y (f k:Nat)):=by simp[Fl,h]
def rI (f){k}(h:k<1026)(b):(Fl f).set k (Y (b:Nat))=Fl λj=>if j=k then b else f j:=by apply FL;intro n;rw[GH];by_cases a:n<1026;by_cases c:k=n;subst c;simp[Fl,a];have:n≠k:=λe=>c e.symm;simp[Fl,a,c,this];have:k≠n:=L;simp[Fl,a,this]
def NZ (v:Int)(n:Int)(p:Part):Bool:=p.A.any λt=>Iu t (Jp p.a.ts v)==n
def Eb (l:List Part)(v n:Int):Bool:=l.all λp=>!Bm p.a.ts v||NZ v n p
def G1 (l:List Part)(v:Int)(p:Part):Part:=if Bm p.a.ts v=true then⟨p.a,p.A.filter λt=>Eb l v (Iu t (Jp p.a.ts v))⟩else p
def Ge (q:AZ)(v:Int):AZ:={q with A:=q.A.map (G1 q.A v)}
def gF (f:Nat->Nat)(a:Nat)(b:Int)(l:List Ck)(k:Nat):Nat:=if f k=a/\l.any (λt=>Iu t b==(k:Int))=true then a+1 else f k
def YI {f a b l t}{x:Nat}(g:Iu t b=(x:Int)):gF f a b (l++[t])=λk=>if k=x/\gF f a b l x=a then a+1 else gF f a b l k:=by
 funext k;have d:(l++[t]).any (λt=>Iu t b==(k:Int))=(l.any (λt=>Iu t b==(k:Int))||decide (k=x)):=by
  rw[MH];simp only[any_cons,any_nil,Bool.or_false,g];congr 1;by_cases e:k=x;subst e;simp;have:¬(x:Int)=(k:Int):=L;simp[e,this]
 unfold gF;rw[d];by_cases e:k=x;subst e;by_cases c:f k=a;cases i:l.any (λt=>Iu t b==(k:Int))<;>simp[c];simp[c];simp[e]
def gf (f a b):gF f a b []=f:=by funext k;simp[gF]
def oD (q c v)(hc:EQ q c)(hq:Qt q)(hN:QN q)(b):ni 255 [ag c,Y v] b λau σ'=>(∃c',au=ag c'/\EQ (Ge q v) c')/\W b σ':=by
 obtain⟨a1,ip,G,pc,nc,rfl,hP,cf⟩:=hc;have ax:=r.length Ex hP;have hl:=hq.pl;have hz:=mW;refine Z9 113 [.cell 4 191] func255 ?_;refine X ?_
 refine Ae (λm s σ'=>∃(i a:Nat) (f:Nat->Nat),m=Z q.A-i/\i<=Z q.A/\s 1=Y v/\s 2=ptr b.B 0/\s 4=ptr (b.B+1) 0/\s 5=ptr (b.B+2) 0/\s 6=Y a/\s 20=sl ip (Z q.A) pc/\s 21=Y (Z q.A)/\s 22=Y i/\W b σ'/\b.B+2<σ'.B/\σ'.C b.B=[Y q.h.p,X1 a1 q.h.ts,sl ip (Z q.A) pc,sl G (Z q.B) nc]/\σ'.C (b.B+1)=[Y 0,H,H,H]/\σ'.C (b.B+2)=Fl f/\a<=i/\(∀k,f k<=a)/\V (∀k,f k=a↔Eb (q.A.take i) v (k:Int)=true)) (Z q.A)
  ⟨0,0,λ_=>0,L,L,by simp[upd,AL],AG,AG,AG,AG,AG,AG,rfl,Xs,AM,?_,?_,?_,L,nk,by simp[V,Eb]⟩ ?_
 ·rw[Ah AM,Ah AM,Ao]
 ·rw[Ah AM,Be AM AM]
 ·rw[Be AM AM]
 rintro m s σ' ⟨i,a,f,rfl,hi,N,h2,h4,h5,h6,bw,bv,bu,z,a4,a9,Q,R,cq,ba,hA⟩;have bz:=z.B;by_cases I:i<Z q.A
 ·have B:=AK I;obtain⟨id,D,au,hd⟩:=F0 hP B;have bo:=hq.pa _ (AR I);have bn:=hq.pt _ (AR I);have a5:=hq.p3 _ (AR I);have a8:=hN _ (AR I);generalize q.A[i]=w at hd B bo bn a5 a8;have bh:Z w.a.ts<=1000:=L;have U:=λb=>Gw w.a.p id w.a.ts v bh b;have a7:W b ((σ'.new [Y 0,H,H]).put σ'.B [Y w.a.p,X1 id w.a.ts,sl D (Z w.A) (Fg w.A)]):=(z.new _).put z.B _;have bb:V (∀ai,Eb (q.A.take (i+1)) v ai=(Eb (q.A.take i) v ai&&(!Bm w.a.ts v||NZ v ai w))):=by
   intro ai;rw[AT,B,BN,Eb,all_append];simp[Eb]
  clear B;cases S:Bm w.a.ts v with
  |false=>
   have hp:Jp w.a.ts v= -1:=K1 (by simpa[Bm]using S);have HS:V (∀k,f k=a↔Eb (q.A.take (i+1)) v (k:Int)=true):=by
    intro k;rw[bb.o,S,hA.o k];simp
   rw[hp]at U;clear hp hA bb;refine m0 ?_;intro yb ya;refine Xi (U _) ?_;rintro _ _ ⟨rfl,A⟩;(have ao:=A.B;have E:=A.C;have a6:=a7.trans A;simp only[Ac,Aa]at ao E);refine X ?_;refine⟨Z q.A-(i+1),L,i+1,a,f,?_⟩;exact m9 HS
  |true=>
   obtain⟨d,a0,a3⟩:=K3 S;have HS:V (∀k,gF f a d w.A k=a+1↔Eb (q.A.take (i+1)) v (k:Int)=true):=by
    intro k;have N:=hA.o k;have h2:=ba k;rw[bb.o,S,BM,<-N];simp only[IY,MA,NZ,a3];unfold gF;by_cases hc:f k=a/\w.A.any (λt=>Iu t d==(k:Int))=true
    ·rw[if_pos hc];exact⟨λ_=>hc,λ_=>rfl⟩
    rw[if_neg hc];exact⟨λh=>L,λh=>absurd h hc⟩
   have ci:V (∀k,gF f a d w.A k<=a+1):=by
    intro k;have h2:=ba k;unfold gF;split<;>omega
   rw[a3]at U;clear a3 hA bb;have be:d<3:=L;have bg:((d:Int)== -1)=false:=nk;have b7:=J4 a5;refine m0 ?_;intro yb ya;refine Xi (U _) ?_;rintro _ _ ⟨rfl,A⟩;(have ao:=A.B;have E:=A.C;have a6:=a7.trans A;simp only[Ac,Aa]at ao E);refine X ?_;rename_i an;have p0:an.C b.B=[Y q.h.p,X1 a1 q.h.ts,sl ip (Z q.A) pc,sl G (Z q.B) nc]:=by rw[E _ L,Aj L,Ah L,a9]
   have p1:an.C (b.B+1)=[Y 0,H,H,H]:=by rw[E _ L,Aj L,Ah L,Q]
   have p2:an.C (b.B+2)=Fl f:=by rw[E _ L,Aj L,Ah L,R]
   clear E A
   refine Ae (λm s a2=>∃(j:Nat) (g:Nat->Nat),m=Z w.A-j/\j<=Z w.A/\s 1=Y v/\s 2=ptr b.B 0/\s 4=ptr (b.B+1) 0/\s 5=ptr (b.B+2) 0/\s 6=Y a/\s 9=Y d/\s 20=sl ip (Z q.A) pc/\s 21=Y (Z q.A)/\s 22=Y i/\s 33=sl D (Z w.A) (Fg w.A)/\s 34=Y (Z w.A)/\s 35=Y j/\W b a2/\b.B+2<a2.B/\a2.C b.B=[Y q.h.p,X1 a1 q.h.ts,sl ip (Z q.A) pc,sl G (Z q.B) nc]/\a2.C (b.B+1)=[Y 0,H,H,H]/\a2.C (b.B+2)=Fl g/\(∀k,g k<=a+1)/\V (g=gF f a d (w.A.take j))) (Z w.A)
    ⟨0,f,L,L,AI,AI,AI,AI,AI,AG,AI,AI,AI,AG,AG,rfl,a6,L,p0,p1,p2,λk=>by have:=ba k;omega,by simp[V,gf]⟩ ?_
   clear p0 p1 p2 N h2 h4 h5 h6 bw bv bu z a4 a9 Q R bz a6 a7;rintro m s a2 ⟨j,g,rfl,hj,N,h2,h4,h5,h6,h9,bw,bv,bu,cx,cw,cv,z,a4,a9,Q,R,cd,y⟩;have bz:=z.B;by_cases ap:j<Z w.A
   ·have B:=AK ap;obtain⟨e,r2,bm⟩:=Kw a5 B;obtain⟨x,T,hx⟩:=a8 _ (AR ap) d a0;generalize w.A[j]=t at bm B e T;have cc:=Qk T;have HG:V (gF f a d (w.A.take (j+1))=λk=>if k=x/\g x=a then a+1 else g k):=by
     have bd:Iu t d=(x:Int):=by simp[Iu,T]
     rw[V,AT,B,BN,YI bd,y.o]
    clear B T y;have f1:=Io e;have f2:=Ow e;have f3:=Jm e;have f4:=Qj e;have f5:=Fo t;have f6:=eM e;have g1:=Yo g hx;have g2:=rI g hx (a+1);have g3:=Yn g;by_cases K:g x=a
    ·have n:V ((λk=>if k=x then a+1 else g k)=gF f a d (w.A.take (j+1))):=by
      rw[V,HG.o];funext k;simp[K]
     have hb:((g x:Int)==(a:Int))=true:=by simp[K]
     rw[K]at g1;have ay:((a+1:Nat):Int)=(a:Int)+1:=L;rw[ay]at g2;clear ay HG;refine X ?_;refine⟨Z w.A-(j+1),L,j+1,λk=>if k=x then a+1 else g k,?_⟩
     ((repeat' refine Zi ?_ ?_)<;>first|exact Xq|exact n|exact (λk=>by have:=cd k;dsimp only;split<;>omega)|exact Xs)
    have n:V (g=gF f a d (w.A.take (j+1))):=by
     rw[V,HG.o];funext k;simp[K]
    have hb:((g x:Int)==(a:Int))=false:=by simp;omega
    clear HG K g2;refine X ?_;refine⟨Z w.A-(j+1),L,j+1,g,?_⟩;exact m9 n
   have bi:j=Z w.A:=L;subst bi;have y:=y.o;rw[AS]at y;subst y;refine X ?_;refine⟨Z q.A-(i+1),L,i+1,a+1,gF f a d w.A,?_⟩;exact nf HS ci.o
 have cb:i=Z q.A:=L;subst cb;rw[AS]at hA;clear hi;refine X ?_
 refine Ae (λm s C=>∃(k P:Nat) (M:oh),m=Z q.A-k/\k<=Z q.A/\s 1=Y v/\s 4=ptr (b.B+1) 0/\s 5=ptr (b.B+2) 0/\s 6=Y a/\s 12=ptr σ'.B 0/\s 63=sl ip (Z q.A) pc/\s 64=Y (Z q.A)/\s 65=Y k/\W b C/\σ'.B<C.B/\C.C (b.B+1)=[Y 0,H,H,H]/\C.C (b.B+2)=Fl f/\C.C σ'.B=[Y q.h.p,X1 a1 q.h.ts,sl P k M,sl G (Z q.B) nc]/\J b C P k/\Z M=k*3/\V (r Oa ((q.A.take k).map (G1 q.A v)) M)) (Z q.A)
  ⟨0,1,[],L,L,AI,AI,AI,AI,AG,AG,AG,rfl,(z.new _).put z.B _,BJ,?_,?_,?_,J.nil _ _,nk,by simp[V,r]⟩ ?_
 ·rw[Aj L,Ah L,Q]
 ·rw[Aj L,Ah L,R]
 ·rw[Ak]
 have ch:=a4;clear N h2 h4 h5 h6 bw bv bu I a9 Q R a4 z;generalize br:σ'.B=ad at*
 clear br;rintro m s C ⟨k,P,M,rfl,hk,N,h4,h5,h6,b4,b3,b2,b1,z,a4,Q,R,bc,hO,cm,y⟩;have ao:=z.B;by_cases I:k<Z q.A
 ·have B:=AK I;obtain⟨id,D,au,hd⟩:=F0 hP B;have bo:=hq.pa _ (AR I);have bn:=hq.pt _ (AR I);have a5:=hq.p3 _ (AR I);have a8:=hN _ (AR I);generalize q.A[k]=w at hd B bo bn a5 a8;have bh:Z w.a.ts<=1000:=L;have U:=λb=>Gw w.a.p id w.a.ts v bh b;have a7:W b ((C.new [Y 0,H,H]).put C.B [Y w.a.p,X1 id w.a.ts,sl D (Z w.A) (Fg w.A)]):=(z.new _).put z.B _;have HM:V ((q.A.take (k+1)).map (G1 q.A v)=(q.A.take k).map (G1 q.A v)++[G1 q.A v w]):=by
   rw[V,AT,B];simp
  clear B;cases S:Bm w.a.ts v with
  |false=>
   have hp:Jp w.a.ts v= -1:=K1 (by simpa[Bm]using S);have n:V (r Oa ((q.A.take (k+1)).map (G1 q.A v)) (M++[Y w.a.p,X1 id w.a.ts,sl D (Z w.A) (Fg w.A)])):=by
    rw[V,HM.o];refine r.append y.o (r.single ?_);rw[G1,if_neg (by rw[S];simp)];exact⟨id,D,rfl⟩
   rw[hp]at U;clear hp HM y;refine m0 ?_;intro yb ya;refine Xi (U _) ?_;rintro _ _ ⟨rfl,A⟩;(have az:=A.B;have E:=A.C;have a6:=a7.trans A;have bp:=J.keep (J.put (J.new hO _) _ _) A;simp only[Ac,Aa]at az E);refine m5 ?_;intro yb ya;intro ac av aj ak ae aa af ab;refine X ?_;refine⟨Z q.A-(k+1),L,k+1,ac,M++[Y w.a.p,X1 id w.a.ts,sl D (Z w.A) (Fg w.A)],?_⟩
   ((repeat' refine Zi ?_ ?_)<;>first|exact Xq|exact (ak.put L _)|exact (J.put aj _ _)|exact n|exact Xs)
  |true=>
   obtain⟨d,a0,a3⟩:=K3 S;have cj:V (G1 q.A v w=⟨w.a,w.A.filter λt=>Eb q.A v (Iu t d)⟩):=by rw[V,G1,if_pos S,a3]
   rw[a3]at U;clear a3;have be:d<3:=L;have bg:((d:Int)== -1)=false:=nk;have b7:=J4 a5;have ce:V _:=y;refine m0 ?_;intro yb ya;refine Xi (U _) ?_;rintro _ _ ⟨rfl,A⟩;(have az:=A.B;have E:=A.C;have a6:=a7.trans A;have bp:=J.keep (J.put (J.new hO _) _ _) A;simp only[Ac,Aa]at az E);refine X ?_;rename_i F;have p1:F.C (b.B+1)=[Y 0,H,H,H]:=by rw[E _ L,Aj L,Ah L,Q]
   have p2:F.C (b.B+2)=Fl f:=by rw[E _ L,Aj L,Ah L,R]
   have p3:F.C ad=[Y q.h.p,X1 a1 q.h.ts,sl P k M,sl G (Z q.B) nc]:=by rw[E _ L,Aj L,Ah L,bc]
   clear E A
   refine Ae (λm s l=>∃(j u:Nat) (o:List Ck) (p:oh),m=Z w.A-j/\j<=Z w.A/\s 1=Y v/\s 4=ptr (b.B+1) 0/\s 5=ptr (b.B+2) 0/\s 6=Y a/\s 12=ptr ad 0/\s 15=Y d/\s 16=ptr F.B 0/\s 63=sl ip (Z q.A) pc/\s 64=Y (Z q.A)/\s 65=Y k/\s 85=sl D (Z w.A) (Fg w.A)/\s 86=Y (Z w.A)/\s 87=Y j/\W b l/\F.B<l.B/\l.C (b.B+1)=[Y 0,H,H,H]/\l.C (b.B+2)=Fl f/\l.C ad=[Y q.h.p,X1 a1 q.h.ts,sl P k M,sl G (Z q.B) nc]/\l.C F.B=[Y w.a.p,X1 id w.a.ts,sl u (Z o) p]/\J b l P k/\J b l u (Z o)/\(u=1\/u≠P)/\Z o<=j/\Z p=Z o*3/\V (p=Fg o/\o=(w.A.take j).filter λt=>Eb q.A v (Iu t d))) (Z w.A)
    ⟨0,1,[],[],L,L,AI,AI,AI,AI,AI,AG,AG,AI,AI,AI,AG,AG,rfl,(a6.new _).put L _,BJ,?_,?_,?_,?_,J.put (J.new bp _) _ _,J.nil _ _,.inl rfl,nk,nk,⟨rfl,nk⟩⟩ ?_
   ·rw[Aj L,Ah L,p1]
   ·rw[Aj L,Ah L,p2]
   ·rw[Aj L,Ah L,p3]
   ·rw[Ak];simp
   have c5:ad<F.B:=L;clear p1 p2 p3 N h4 h5 h6 b4 b3 b2 b1 z a4 Q R bc hO bp a6 a7 y ao;rintro m s l ⟨j,u,o,p,rfl,hj,N,h4,h5,h6,b4,cz,cy,b3,b2,b1,cu,ct,cr,z,a4,Q,R,bc,ck,b0,hO,b9,cn,b6,y⟩;have b5:=z.B;by_cases ap:j<Z w.A
   ·have B:=AK ap;obtain⟨e,r2,bm⟩:=Kw a5 B;obtain⟨x,T,hx⟩:=a8 _ (AR ap) d a0;generalize w.A[j]=t at bm B e T;have cc:=Qk T;have HF:V ((w.A.take (j+1)).filter (λt=>Eb q.A v (Iu t d))=(w.A.take j).filter (λt=>Eb q.A v (Iu t d))++if f x=a then [t]else []):=by
     have bd:Iu t d=(x:Int):=by simp[Iu,T]
     rw[V,AT,B,BN,Em,bd];congr 1;have N:=hA.o x;by_cases ah:f x=a
     ·rw[if_pos ah,if_pos (N.1 ah)]
     rw[if_neg ah,if_neg (λh=>ah (N.2 h))]
    clear B T;have f1:=Io e;have f2:=Ow e;have f3:=Jm e;have f4:=Qj e;have f5:=Fo t;have f6:=eM e;have g1:=Yo f hx;have g3:=Yn f;have cp:=ba x;by_cases K:f x=a
    ·have n:V (p++As t=Fg (o++[t])/\o++[t]=(w.A.take (j+1)).filter λt=>Eb q.A v (Iu t d)):=by
      obtain⟨x1,x2⟩:=y.o;exact⟨by rw[x1,Q9],by rw[HF.o,if_pos K,x2]⟩
     have hb:((f x:Int)==(a:Int))=true:=by simp[K]
     clear y HF K;refine nh ?_;intro yb ya;refine Ie (by first|exact G6|exact Ee) ((z.new _).put z.B _) (J.put (J.new hO _) _ _) nr (by rfl) b6 (by rw[f1]) f5 nr L L ?_;intro ac av aj ak ae aa af ab bf;obtain⟨bq,b8⟩:=bf P k (J.put (J.new b0 _) _ _) b9;simp only[Ac,Aa]at aa;have aw:∀am,am<l.B->av.C am=l.C am:=λam hp=>by rw[ae,Aj L,Ah L]
     refine Z3 ?_;refine X ?_;refine⟨Z w.A-(j+1),L,j+1,ac,o++[t],p++As t,?_⟩
     ((repeat' refine Zi ?_ ?_)<;>first|exact Xq|exact (ak.put L _)|exact (nn (J.put aj _ _))|exact (J.put bq _ _)|exact n|exact Xs)
    have n:V (p=Fg o/\o=(w.A.take (j+1)).filter λt=>Eb q.A v (Iu t d)):=by
     obtain⟨x1,x2⟩:=y.o;exact⟨x1,by rw[HF.o,if_neg K,x2,EJ]⟩
    have hb:((f x:Int)==(a:Int))=false:=by simp;omega
    clear y HF K;refine X ?_;refine⟨Z w.A-(j+1),L,j+1,u,o,p,?_⟩
    ((repeat' refine Zi ?_ ?_)<;>first|exact Xq|exact (J.put (J.new hO _) _ _)|exact (J.put (J.new b0 _) _ _)|exact n|exact Xs)
   have bi:j=Z w.A:=L;subst bi;obtain⟨x1,x2⟩:=y.o;rw[AS]at x2;have n:V (r Oa ((q.A.take (k+1)).map (G1 q.A v)) (M++[Y w.a.p,X1 id w.a.ts,sl u (Z o) p])):=by
    rw[V,HM.o];refine r.append ce.o (r.single ?_);rw[cj.o,<-x2];exact⟨id,u,by rw[x1]⟩
   clear y x1 x2;refine m5 ?_;intro yb ya;intro ac av aj ak ae aa af ab;refine X ?_;refine⟨Z q.A-(k+1),L,k+1,ac,M++[Y w.a.p,X1 id w.a.ts,sl u (Z o) p],?_⟩
   ((repeat' refine Zi ?_ ?_)<;>first|exact Xq|exact (ak.put L _)|exact (J.put aj _ _)|exact n|exact Xs)
 have ca:k=Z q.A:=L;subst ca;rw[AS]at y;have cg:Z (q.A.map (G1 q.A v))=Z q.A:=by rw[BV]
 refine X ?_;exact⟨_,rfl,⟨_,rfl,a1,P,G,M,nc,by simp only[Ge];rw[cg],y.o,cf⟩,z.put L _⟩
inductive CF (q:AZ):AZ->Prop where
 |refl:CF q q
 |tail {q':AZ} (v:Int):CF q q'->CF q (Ge q' v)
theorem Ti (l v p):(G1 l v p).a=p.a:=by rw[G1];split<;>rfl
def Rq (l v p):∀t∈(G1 l v p).A,t∈p.A:=by rw[G1];split;intro t a;exact (BP.1 a).1;exact λt a=>a
def mX (l v p):Z (G1 l v p).A<=Z p.A:=by rw[G1];split;exact IS _ _;exact AU _
def VZ {q v}(h:Qt q):Qt (Ge q v):=by have d:∀p∈(Ge q v).A,∃a∈q.A,G1 q.A v a=p:=λp b=>AN.1 b;refine⟨h.hd,by simp[Ge];exact h.pl,h.nl,λp b=>?_,λp b=>?_,λp b=>?_,h.na⟩;obtain⟨a,c,rfl⟩:=d p b;rw[Ti];exact h.pa a c;obtain⟨a,c,rfl⟩:=d p b;exact BI (mX _ _ _) (h.pt a c);obtain⟨a,c,rfl⟩:=d p b;exact λt e=>h.p3 a c t (Rq _ _ _ t e)
def ZA {q v}(h:QN q):QN (Ge q v):=λp a t d=>by obtain⟨b,c,rfl⟩:=AN.1 a;rw[Ti];exact h b c t (Rq _ _ _ t d)
def CF.ok {q a}(h:CF q a)(b:Qt q):Qt a:=by
 induction h with
 |refl=>exact b
 |tail v _ c=>exact VZ c
def CF.n {q a}(h:CF q a)(b:QN q):QN a:=by
 induction h with
 |refl=>exact b
 |tail v _ c=>exact ZA c
def S9 (q:AZ)(v:Int):AZ:=if 1<Dt (q.A.map (·.a)) v then Ge q v else q
def pH (q:AZ)(vs:List Int):AZ:=vs.foldl S9 q
def lG {q}(h:Qt q):Da q.A<=320000:=by
 have g:=h.pl;have c:=h.pt;have:∀l:List Part,(∀p∈l,Z p.A<=5000)->Da l<=Z l*5000:=by
  intro l;induction l with
  |nil=>intro _;simp[Da]
  |cons a l b=>
   intro h;have f:=h a nk;have i:=b (λp d=>h p (ns d));simp only[Da,CC,sum_cons,BQ]at*
   omega
 have e:=this q.A c;omega
def yV (q c)(hc:EQ q c)(S:Qt q)(hN:QN q)(b):ni 220 [ag c] b λb8 σ'=>(∃c' U e,b8=ag c'/\EQ U c'/\CF q e/\CF q U/\U=pH e (Cs (atomsQ e))/\Da e.A<=Da U.A)/\W b σ':=by
 have I:=λb=>Yz q c hc S b;have bd:=lG S;have HC:V (EQ q c):=hc;obtain⟨bl,bt,bq,c1,bx,rfl,-,-⟩:=hc;refine wl func220 ?_;refine mt I ?_;rintro yb ya _ _ ⟨rfl,l⟩;have n:=l.B;have x:=l.C;have g:=(((W.refl b).new _).new _).trans l;simp only[Aa]at n x;refine X ?_;rename_i af;have o0:af.C b.B=[Y q.h.p,X1 bl q.h.ts,sl bt (Z q.A) c1,sl bq (Z q.B) bx]:=by rw[x _ L,Ah AM,Ao]
 have o1:af.C (b.B+1)=[Y 0,H,H,H]:=by rw[x _ L,Be AM AM]
 clear x l
 refine Ae (λm s σ'=>∃(d:AZ) (z:oh),s 1=ptr b.B 0/\s 2=ptr (b.B+1) 0/\s 3=Y m/\m<=320001/\W b σ'/\b.B+1<σ'.B/\σ'.C b.B=z/\σ'.C (b.B+1)=[Y 0,H,H,H]/\V (EQ d z/\CF q d/\(Da d.A<m\/∃e,CF q e/\d=pH e (Cs (atomsQ e))/\Da e.A=m))) (Da q.A+1)
  ⟨q,_,AG,AG,AG,L,g,L,o0,o1,HC.o,.refl,.inl L⟩ ?_
 rintro m s σ' ⟨d,z,N,T,h3,hm,f,be,ax,aw,t⟩;have C:=t.o.2.1.ok S;have bf:=t.o.2.1.n hN;have I:=λb=>Yz d z t.o.1 C b;have bg:=λb=>Kd d z t.o.1 C b;have bd:=lG C;obtain⟨c3,c5,c4,c7,c6,rfl,-,-⟩:=t.o.1;have bb:=N6 C;have b2:=Jv C;have a7:=λ(E:oh) (b9:Nat) (Q:r O9 (atomsQ d) E) (b:St)=>Hy (atomsQ d) E b9 Q bb L b;have bn:=Fs bb;have b6:V (Qt d/\QN d):=⟨C,bf⟩;by_cases bp:Da d.A<m
 ·generalize bc:Cs (atomsQ d)=k at a7 bn;have bw:V _:=bc;clear bc bb bf C;generalize a4:Da d.A=R at*
  have bz:V _:=a4;clear a4
  repeat' first|refine Z1 ?_|refine Z8 λyb ya=>?_|refine Z4 ?_;clear ya yb|refine Z2 ?_ ?_<;>intro h ae<;>try exact Xp|(refine Z5 ?_;first|(refine Xi (I _) ?_;rintro _ _ ⟨rfl,l⟩;(have n:=l.B;have x:=l.C;have g:=f.trans l;clear f l;have f:=g;clear g))|(refine Xi (bg _) ?_;rintro _ _ ⟨bj,E,rfl,Q,P⟩;(have a3:=P.B;have an:=P.C;have g:=f.trans P;clear P f;have f:=g;clear g;have ao:=a7 E bj Q))|(refine Xi (ao _) ?_;rintro _ _ ⟨⟨bk,rfl⟩,G⟩;(have a0:=G.B;have am:=G.C;have g:=f.trans G;clear G f;have f:=g;clear g)))|refine Z3 ?_|exact Zt|apply ya.o;clear ya yb
  rename_i c8 A b7 c9 ca c2;have b1:=B9 k;have D:∀p,p<σ'.B->c2.C p=σ'.C p:=λp hp=>by rw[am _ L,an _ L,x _ L,b7 _ L]
  refine Ae (λm' s u=>∃(j:Nat) (a:AZ) (K:oh),m'=Z k-j/\j<=Z k/\s 1=ptr b.B 0/\s 2=ptr (b.B+1) 0/\s 3=Y R/\s 17=X2 bk k/\s 18=Y (Z k)/\s 19=Y j/\W b u/\b.B+1<u.B/\u.C b.B=K/\u.C (b.B+1)=[Y 0,H,H,H]/\V (EQ a K/\CF q a/\a=pH d (k.take j))) (Z k)
   ⟨0,d,_,L,L,AI,AI,AI,AG,AG,rfl,f,L,rfl,by rw[D _ L,aw],by rw[D _ L,ax];exact t.o.1,t.o.2.1,by simp[pH]⟩ ?_
  clear D am an x b7 f ax aw N T h3 be I bg a7 ao Q a0 a3 n A;rintro m' s u ⟨j,a,K,rfl,hj,N,T,h3,b5,b4,b3,f,be,ax,aw,o⟩;have n:=f.B;have a5:=o.o.2.1.ok S;have bo:=o.o.2.1.n hN;have M:=λv b=>Ml a K v o.o.1 a5 b;have a8:=λv b=>oD a K v o.o.1 a5 bo b;have F:∀v,Dt (a.A.map (·.a)) v<=64:=λv=>by
   have N:=vR (a.A.map (·.a)) v;have T:=a5.pl;simp at N;omega
  have bh:V (EQ a K):=o.o.1;obtain⟨ab,a1,a2,ad,aa,rfl,-,-⟩:=o.o.1;by_cases a6:j<Z k
  ·obtain⟨v,ac⟩:=gq a6;obtain⟨b8,hd⟩:=D2 ac;have y:V (pH d (k.take (j+1))=S9 a v):=by
    rw[V,AT,ac,BN,pH,foldl_append,o.o.2.2];rfl
   clear ac;have M:=M v;have a8:=a8 v;have F:=F v;by_cases i:1<Dt (a.A.map (·.a)) v
   ·have y:V (pH d (k.take (j+1))=Ge a v):=by rw[V,y.o,S9,if_pos i]
    generalize Dt (a.A.map (·.a)) v=cn at M i F;have hb:decide ((cn:Int)>1):=by simp;omega
    clear i
    (repeat (refine m0 ?_;intro yb ya;(first|(refine Xi (M _) ?_;rintro _ _ ⟨rfl,B⟩;(have az:=B.B;have ay:=B.C;have g:=f.trans B))|(refine Xi (a8 _) ?_;rintro _ _ ⟨⟨_,rfl,b0,ai,aj,ah,ak,rfl,br,bu⟩,a9⟩;(have bm:=a9.B;have bi:=a9.C;have bv:=g.trans a9)))));refine X ?_
    refine⟨Z k-(j+1),L,j+1,Ge a v,[Y (Ge a v).h.p,sl b0 (Z (Ge a v).h.ts) (Ad (Ge a v).h.ts),sl ai (Z (Ge a v).A) ah,sl aj (Z (Ge a v).B) ak],?_⟩
    ((repeat' refine Zi ?_ ?_)<;>first|exact Xq|exact (bv.put L _)|exact (⟨⟨b0,ai,aj,ah,ak,rfl,br,bu⟩,.tail v o.o.2.1,y.o.symm⟩)|exact Xs)
   have y:V (pH d (k.take (j+1))=a):=by rw[V,y.o,S9,if_neg i]
   generalize Dt (a.A.map (·.a)) v=cn at M i F;have hb:decide ((cn:Int)>1)=false:=by simp;omega
   clear i;refine mt M ?_;rintro yb ya _ _ ⟨rfl,B⟩;have az:=B.B;have ay:=B.C;have g:=f.trans B;refine X ?_;refine⟨Z k-(j+1),L,j+1,a,[Y a.h.p,X1 ab a.h.ts,sl a1 (Z a.A) ad,sl a2 (Z a.B) aa],?_⟩
   ((repeat' refine Zi ?_ ?_)<;>first|exact Xq|exact (⟨bh.o,o.o.2.1,y.o.symm⟩)|exact Xs)
  obtain rfl:j=Z k:=L;have ba:=o.o.2.2;rw[AS]at ba
  have HF:V (EQ a [Y a.h.p,X1 ab a.h.ts,sl a1 (Z a.A) ad,sl a2 (Z a.B) aa]/\CF q a/\(Da a.A<R\/∃e,CF q e/\a=pH e (Cs (atomsQ e))/\Da e.A=R)):=
   ⟨bh.o,o.o.2.1,.inr ⟨d,t.o.2.1,by rw[bw.o];exact ba,bz.o⟩⟩
  clear ba;refine X ?_;refine⟨R,L,a,[Y a.h.p,X1 ab a.h.ts,sl a1 (Z a.A) ad,sl a2 (Z a.B) aa],?_⟩;exact m9 HF
 have hR:∃e,CF q e/\d=pH e (Cs (atomsQ e))/\Da e.A<=Da d.A:=by
  obtain h|⟨e,N,T,h3⟩:=t.o.2.2
  ·exact absurd h bp
  exact⟨e,N,T,L⟩
 have y:V _:=hR;clear hR;generalize a4:Da d.A=R at*
 refine mt I ?_;rintro yb ya _ _ ⟨rfl,l⟩;have n:=l.B;have x:=l.C;have g:=f.trans l;refine X ?_;let⟨e,r1,r2,r3⟩:=y.o;exact⟨_,rfl,⟨_,d,e,rfl,t.o.1,r1,t.o.2.1,r2,L⟩,g.put L _⟩
def Ym:∀{l m:List Int},l.Nodup->(∀x∈l,x∈m)->Z l<=Z m
 |[],m,_,_=>nk
 |a::l,m,j,f=>by
  have d:=nodup_cons.1 j;have b:=f a nk
  have g:=Ym (l:=l) (m:=m.erase a) d.2 (λx c=>by
   have i:x≠a:=λe=>d.1 (e ▸ c)
   exact (mem_erase_of_ne i).2 (f x (ns c)))
  rw[length_erase_of_mem b]at g;have:0<Z m:=length_pos_of_mem b;simp only[BQ];omega
def Vt:∀(l:List Ck) (c:Int) (acc:List Int),acc.Nodup->(l.foldl (wQ c) acc).Nodup
 |[],c,acc,h=>h
 |t::l,c,acc,h=>by rw[FW];apply Vt;rw[wQ];split;exact h;rename_i e;rw[IP];exact⟨h,nk,λa f b d=>by simp at d;subst d;rintro rfl;exact e f⟩
def Vu:∀(l:List Ck) (b:Int) (acc:List Int) (n:Int),n∈l.foldl (wQ b) acc↔n∈acc\/∃t∈l,Iu t b=n
 |[],b,acc,n=>nk
 |t::l,b,acc,n=>by rw[FW,Vu];rw[wQ];by_cases c:Iu t b∈acc;rw[if_pos c];constructor;rintro (h|⟨u,a,e⟩);exact .inl h;exact .inr ⟨u,ns a,e⟩;rintro (h|⟨u,a,e⟩);exact .inl h;obtain rfl|a:=BD.1 a;exact .inl (e ▸ c);exact .inr ⟨u,a,e⟩;rw[if_neg c];constructor;rintro (h|⟨u,a,e⟩);obtain h|h:=AW.1 h;exact .inl h;simp at h;exact .inr ⟨t,nk,h.symm⟩;exact .inr ⟨u,ns a,e⟩;rintro (h|⟨u,a,e⟩);exact .inl (AW.2 (.inl h));obtain rfl|a:=BD.1 a;exact .inl (AW.2 (.inr (ns e)));exact .inr ⟨u,a,e⟩
def Vv {q}(j:QN q)(v):Z (Mo q v)<=1026:=by have f:Z ((range 1026).map λk:Nat=>(k:Int))=1026:=nk;rw[<-f];rw[Mo];split;rename_i p c;have d:=ME c;have l:Bm p.a.ts v:=nn (find?_some c);let⟨m,a,i⟩:=K3 l;rw[i];apply Ym (Vt _ _ _ GN);intro n b;unfold aL at b;rw[Vu]at b;obtain h|⟨t,s,e⟩:=b;cases h;let⟨x,g,o⟩:=j p d t s m a;rw[AN];exact⟨x,nn o,by rw[<-e];simp[Iu,g]⟩;simp
def QV (q:AZ):Prop:=∀a∈atomsQ q,∀v,(true,v)∈a.ts->0<=v
def gX (q c)(F:EQ q c)(p:Qt q)(hN:QN q)(hV:QV q)(d):ni 222 [ag c] d λa1 σ'=>(∃b,a1=Y b/\((b= -1/\∀v∈Cs (atomsQ q),Dq q v=false)\/(b∈Cs (atomsQ q)/\Dq q b)))/\W d σ':=by
 have Q:=λd=>Kd q c F p d;have l:=λv d=>R8 q c v F p d;have M:=λv d=>L4 q c v F p hN d;have R:=λv=>Vv hN v;have P:=N6 p;have bi:=Jv p;have K:=λ(z:oh) (a8:Nat) (G:r O9 (atomsQ q) z) (d:St)=>Hy (atomsQ q) z a8 G P L d;have bd:=Fs P;obtain⟨m,ip,a2,pc,t,rfl,-,-⟩:=F;generalize Cs (atomsQ q)=a at*
 have be:=B9 a;refine wl func222 ?_
 repeat' first|refine Z1 ?_|refine Z8 λyb ya=>?_|refine Z4 ?_;clear ya yb|refine Z2 ?_ ?_<;>intro h ad<;>try exact Xp|(refine Z5 ?_;first|(refine Xi (Q _) ?_;rintro _ _ ⟨a3,z,rfl,G,D⟩;(have S:=D.B;have I:=D.C;have e:=((W.refl d).new _).trans D;have ak:=K z a3 G;simp only[Aa]at S I))|(refine Xi (ak _) ?_;rintro _ _ ⟨⟨aa,rfl⟩,E⟩;(have av:=E.B;have ai:=E.C;have n:=e.trans E;clear E e;have e:=n;clear n)))|refine Z3 ?_|exact Zt|apply ya.o;clear ya yb
 rename_i ac a4;have a0:a4.C d.B=[Y q.h.p,X1 m q.h.ts,sl ip (Z q.A) pc,sl a2 (Z q.B) t]:=by rw[ai _ L,I _ L,Ao]
 clear I ai Q K ak G D
 refine wn [1,10,11] 12 (Z a) (λj s σ'=>∃(w:Nat) (b:Int),s 3=Y b/\s 4=Y w/\W d σ'/\d.B<σ'.B/\σ'.C d.B=[Y q.h.p,X1 m q.h.ts,sl ip (Z q.A) pc,sl a2 (Z q.B) t]/\w<=1027/\V ((b= -1/\w=1027/\∀v∈a.take j,Dq q v=false)\/(b∈a/\Dq q b))) ⟨1027,-1,AG,AG,e,L,a0,L,.inl ⟨rfl,rfl,nk⟩⟩ ?_
 clear e a0 S av;rintro j s σ' _ ⟨x,_,_⟩ _ ⟨w,b,o,h4,e,bg,bb,hw,g⟩;have bc:=e.B;by_cases a5:j<Z a
 ·obtain⟨v,C⟩:=gq a5;obtain⟨a1,hd⟩:=D2 C;have i:=(AY C);have l:=l v;have M:=M v;have R:=R v
  have A:V (v∈a/\∀u∈a.take (j+1),u∈a.take j\/u=v):=⟨i,λu B=>by
   rw[AT,C,BN]at B;obtain h|h:=AW.1 B
   ·exact .inl h
   simp at h;exact .inr h⟩
  clear C i;cases k:Dq q v
  ·rw[k]at l;have y:V ((b= -1/\w=1027/\∀v∈a.take (j+1),Dq q v=false)\/(b∈a/\Dq q b=true)):=by
    rcases g.o with⟨x,T,o⟩|h
    ·refine .inl ⟨x,T,λu B=>?_⟩;rcases A.o.2 u B with h|rfl
     ·exact o u h
     exact k
    exact .inr h
   clear g A k;refine m0 ?_;intro yb ya;refine Xi (l _) ?_;rintro _ _ ⟨rfl,f⟩;(have au:=f.B;have ap:=f.C;have n:=e.trans f);refine X ?_;refine⟨w,b,?_⟩;exact m9 y
  rw[k]at l;have ba:V ((v= -1/\Z (Mo q v)=1027/\∀v∈a.take (j+1),Dq q v=false)\/(v∈a/\Dq q v=true)):=.inr ⟨A.o.1,k⟩;have a9:V (¬Z (Mo q v)<w->(b= -1/\w=1027/\∀v∈a.take (j+1),Dq q v=false)\/(b∈a/\Dq q b=true)):=λhn=>by
   rcases g.o with⟨x,T,o⟩|h
   ·omega
   exact .inr h
  clear g A k;generalize U:Mo q v=vq at*
  have bp:V _:=U;clear U;have bf:=B9 vq
  (repeat (refine m0 ?_;intro yb ya;(first|(refine Xi (l _) ?_;rintro _ _ ⟨rfl,f⟩;(have au:=f.B;have ap:=f.C;have n:=e.trans f))|(refine Xi (M _) ?_;rintro _ _ ⟨⟨ab,rfl⟩,N⟩;(have a7:=N.B;have a6:=N.C;have bh:=n.trans N)))));refine m6 ?_ ?_<;>intro h ad
  ·refine⟨Z vq,v,?_⟩
   exact m9 ba
  refine⟨w,b,?_⟩;exact m9 (a9.o L)
 obtain rfl:j=Z a:=L;rw[AS]at g;have y:V ((b= -1/\∀v∈a,Dq q v=false)\/(b∈a/\Dq q b)):=by
  obtain⟨x,-,o⟩|h:=g.o
  ·exact .inl ⟨x,o⟩
  exact .inr h
 refine X ?_
 exact⟨_,rfl,b,rfl,y.o⟩
def F1 (l:List Dx)(b c:List Int):Prop:=∀a∈l,b.any (Bm a.ts)->∀v,(true,v)∈a.ts->v∈c
def Grown (a c rs:List Int):Prop:=∃b:List Int,rs=a++b/\b.Nodup/\∀v∈b,v∈c
def Grown.le {a e rs}(h:Grown a e rs):Z rs<=Z a+Z e:=by obtain⟨d,rfl,b,c⟩:=h;have:=Ym b c;simp;omega
def Grown.snoc {c m rs}(h:Grown c m rs){v}(g:v∈m)(j:v∉rs):Grown c m (rs++[v]):=by obtain⟨l,rfl,k,i⟩:=h;refine⟨l++[v],nk,?_,?_⟩;rw[IP];exact⟨k,nk,λa f b d=>by simp at d;subst d;rintro rfl;exact j (AW.2 (.inr f))⟩;intro u e;obtain h|h:=AW.1 e;exact i u h;simp at h;subst h;exact g
def bB (q c b au)(hc:EQ q c)(hq:Qt q)(cg:Z b<=200)(e):ni 224 [ag c,X2 au b] e λav σ'=>(∃id rs,av=X2 id rs/\Grown b (Cs (atomsQ q)) rs/\F1 (atomsQ q) rs rs)/\W e σ':=by
 have b8:=λe=>Kd q c hc hq e;have bi:=N6 hq;have cn:=Jv hq;have ck:=Fs bi;have b6:∀a∈atomsQ q,∀v,(true,v)∈a.ts->v∈Cs (atomsQ q):=λa ha v i=>(Dn _ _).2 ⟨a,ha,i⟩;obtain⟨ih,ip,ac,pc,nc,rfl,-,-⟩:=hc;generalize Cs (atomsQ q)=t at*
 generalize atomsQ q=l at*
 have ch:=B9 b;refine Z9 66 [.tmp 4] func224 ?_;refine X ?_
 refine Ae (λm s σ'=>∃(j A:Nat) (rs:List Int),m=Z b-j/\j<=Z b/\s 2=ptr e.B 0/\s 5=X2 A rs/\s 14=X2 au b/\s 15=Y (Z b)/\s 16=Y j/\W e σ'/\e.B<σ'.B/\σ'.C e.B=[Y q.h.p,X1 ih q.h.ts,sl ip (Z q.A) pc,sl ac (Z q.B) nc]/\J e σ' A (Z rs)/\Z rs<=j/\V (rs=b.take j)) (Z b)
  ⟨0,1,[],L,L,AG,by simp[upd,As],by simp[upd,AL],AG,rfl,Xs,AM,by rw[Ao],J.nil _ _,nk,by simp[V]⟩ ?_
 rintro m s σ' ⟨j,A,rs,rfl,hj,y,a0,cb,ca,b9,g,N,I,x,be,U⟩;have M:=g.B;by_cases a9:j<Z b
 ·have o:=AK a9;obtain⟨av,hd⟩:=D2 o;generalize b[j]=v at hd o;have HR:V (rs++[v]=b.take (j+1)):=by rw[V,AT,o,BN,U.o]
  have b0:=B9 rs;clear o U;refine m5 ?_;intro yb ya;intro ah bj ai aj af ab ae aa;refine X ?_;refine⟨Z b-(j+1),L,j+1,ah,rs++[v],?_⟩
  ((repeat' refine Zi ?_ ?_)<;>first|exact Xq|exact (nn ai)|exact HR|exact (by simp[As])|exact Xs)
 have bc:j=Z b:=L;subst bc;rw[AS]at U;have U:=U.o.symm;subst U;clear a9 hj;refine X ?_
 refine Ae (λm s σ'=>∃(B A:Nat) (F:Int) (rs:List Int),m=2*(Z b+Z t-Z rs)+(if F<(Z rs:Int)then 1 else 0)/\(F=B\/(F= -1/\B=0))/\s 2=ptr e.B 0/\s 5=X2 A rs/\s 8=Y F/\W e σ'/\e.B<σ'.B/\σ'.C e.B=[Y q.h.p,X1 ih q.h.ts,sl ip (Z q.A) pc,sl ac (Z q.B) nc]/\J e σ' A (Z rs)/\Z rs<=Z b+Z t/\B<=Z rs/\V (Grown b t rs/\F1 l (rs.take B) rs)) (2*(Z b+Z t-Z b)+1)
  ⟨0,A,-1,b,by rw[if_pos L],.inr ⟨rfl,rfl⟩,AI,AI,AG,g,N,I,x,L,L,⟨[],nk,GN,nk⟩,λa ha h=>by simp at h⟩ ?_
 clear g N I x y a0 cb ca b9 M;rintro m s σ' ⟨B,A,F,rs,rfl,b7,y,a0,h8,g,N,I,x,be,cm,hG⟩;have M:=g.B;have b0:=B9 rs;by_cases a9:F<(Z rs:Int)
 ·rw[if_pos a9]
  refine m0 ?_;intro yb ya;refine Xi (b8 _) ?_;rintro _ _ ⟨am,cs,rfl,hE,a7⟩;(have bb:=a7.B;have a3:=a7.C;have K:=g.trans a7;have C:=J.keep x a7);refine X ?_;rename_i bk;have cj:=r.length Iz hE
  refine Ae (λm s a2=>∃(k Q:Nat) (f:List Int),m=Z l-k/\k<=Z l/\s 2=ptr e.B 0/\s 5=X2 Q f/\s 8=Y (Z rs)/\s 32=sl am (Z l) cs/\s 33=Y (Z l)/\s 34=Y k/\W e a2/\e.B<a2.B/\a2.C e.B=[Y q.h.p,X1 ih q.h.ts,sl ip (Z q.A) pc,sl ac (Z q.B) nc]/\J e a2 Q (Z f)/\Z f<=Z b+Z t/\Z rs<=Z f/\V (Grown b t f/\f.take (Z rs)=rs/\F1 (l.take k) rs f)) (Z l)
   ⟨0,A,rs,L,L,AI,AI,AI,AG,AG,rfl,K,L,by rw[a3 _ L,I],C,be,L,hG.o.1,nk,λa ha=>by simp at ha⟩ ?_
  clear K C a3 g x I N y a0 h8 M a7 bb;rintro m s a2 ⟨k,Q,f,rfl,hk,y,a0,h8,bo,bn,bm,g,N,I,x,bq,bw,z⟩;have M:=g.B;have cc:=B9 f;by_cases az:k<Z l
  ·have o:=AK az;obtain⟨ad,r2,b4⟩:=Ke hE o;have n:=bi _ (AR az);have bg:=b6 _ (AR az);generalize l[k]=a at b4 o n bg;have HT:V (l.take (k+1)=l.take k++[a]):=by rw[V,AT,o,BN]
   clear o;have br:Z f<=100000:=L;have b5:Z a.ts<=1000:=L;have a8:=λe=>L5 a.p ad a.ts f Q b5 br e;have a4:∀v∈rs,v∈f:=λv i=>by
    have:=z.o.2.1;rw[<-this]at i;exact JI i
   cases ap:f.any (Bm a.ts)with
   |false=>
    have HW:V (Grown b t f/\f.take (Z rs)=rs/\F1 (l.take (k+1)) rs f):=by
     refine⟨z.o.1,z.o.2.1,?_⟩;rw[HT.o];intro ak n h v i;rcases AW.1 n with n|n
     ·exact z.o.2.2 ak n h v i
     simp at n;subst n;rw[CU]at h;obtain⟨aw,hu,he⟩:=h;rw[EV]at ap;exact absurd he (ap aw (a4 aw hu))
    rw[ap]at a8;clear z HT a4;refine m0 ?_;intro yb ya;refine Xi (a8 _) ?_;rintro _ _ ⟨rfl,E⟩;(have ao:=E.B;have S:=E.C;have K:=((g.new _).put g.B _).trans E;have C:=J.keep (J.put (J.new x _) _ _) E;simp only[Ac,Aa]at ao S);refine X ?_;refine⟨Z l-(k+1),L,k+1,Q,f,?_⟩;exact m9 HW
   |true=>
    rw[ap]at a8;have cf:=Cx a.ts;refine m0 ?_;intro yb ya;refine Xi (a8 _) ?_;rintro _ _ ⟨rfl,E⟩;(have ao:=E.B;have S:=E.C;have K:=((g.new _).put g.B _).trans E;have C:=J.keep (J.put (J.new x _) _ _) E;simp only[Ac,Aa]at ao S);refine X ?_;rename_i ay;have b1:ay.C a2.B=[Y a.p,X1 ad a.ts]:=by rw[S _ L,Ak]
    refine Ae (λm s a1=>∃(j P:Nat) (d:List Int),m=Z a.ts-j/\j<=Z a.ts/\s 2=ptr e.B 0/\s 5=X2 P d/\s 8=Y (Z rs)/\s 32=sl am (Z l) cs/\s 33=Y (Z l)/\s 34=Y k/\s 43=X1 ad a.ts/\s 44=Y (Z a.ts)/\s 45=Y j/\W e a1/\e.B<a1.B/\a1.C e.B=[Y q.h.p,X1 ih q.h.ts,sl ip (Z q.A) pc,sl ac (Z q.B) nc]/\J e a1 P (Z d)/\Z d<=Z b+Z t/\Z rs<=Z d/\V (Grown b t d/\d.take (Z rs)=rs/\(∀v∈f,v∈d)/\∀v,(true,v)∈a.ts.take j->v∈d)) (Z a.ts)
     ⟨0,Q,f,L,L,AI,AI,AI,AI,AI,AI,AG,AG,rfl,K,L,by rw[S _ L,Aj L,Ah L,I],C,bq,bw,z.o.1,z.o.2.1,λv i=>i,nk⟩ ?_
    clear K C S g x I N y a0 h8 bo bn bm M E ao b1 a8;rintro m s a1 ⟨j,P,d,rfl,hj,y,a0,h8,bo,bn,bm,cr,cq,cp,g,N,I,x,cd,bz,D⟩;have M:=g.B;have ce:=B9 d;by_cases a5:j<Z a.ts
    ·have o:=AK a5;obtain⟨r3,b3⟩:=C3 o;have bd:=AR a5;generalize a.ts[j]=w at b3 o bd;obtain⟨w1,p⟩:=w;have bp:V (a.ts.take (j+1)=a.ts.take j++[(w1,p)]):=by rw[V,AT,o,BN]
     clear o;have bv:Z d<=100000:=L;have bf:=T7 p d;have bh:=λe=>H7 p d P bv e;have G:V ((w1=true->p∈d)->(Grown b t d/\d.take (Z rs)=rs/\(∀v∈f,v∈d)/\∀v,(true,v)∈a.ts.take (j+1)->v∈d)):=λhw=>by
      refine⟨D.o.1,D.o.2.1,D.o.2.2.1,λv i=>?_⟩;rw[bp.o]at i;rcases AW.1 i with h|h
      ·exact D.o.2.2.2 v h
      simp at h;obtain⟨h1,y⟩:=h;subst y;exact hw h1
     cases w1 with
     |false=>
      refine X ?_;refine⟨Z a.ts-(j+1),L,j+1,P,d,?_⟩
      ((repeat' refine Zi ?_ ?_)<;>first|exact Xq|exact (J.put (J.new x _) _ _)|exact (G.o (λh=>by cases h))|exact Xs)
     |true=>
      by_cases T:p∈d
      ·have a6:decide (p∉d)=false:=by simp[T]
       rw[a6]at bf;have G:=G.o (λ_=>T);have G:V _:=G;clear a6 T;refine m0 ?_;intro yb ya;refine Xi (bh _) ?_;rintro _ _ ⟨rfl,u⟩;(have ax:=u.B;have an:=u.C;have K:=((g.new _).put g.B _).trans u;have C:=J.keep (J.put (J.new x _) _ _) u;simp only[Ac,Aa]at ax an);refine X ?_;refine⟨Z a.ts-(j+1),L,j+1,P,d,?_⟩;exact m9 G
      have a6:decide (p∉d)=true:=by simp[T]
      rw[a6]at bf;have G:V (Grown b t (d++[p])/\(d++[p]).take (Z rs)=rs/\(∀v∈f,v∈d++[p])/\∀v,(true,v)∈a.ts.take (j+1)->v∈d++[p]):=by
       refine⟨D.o.1.snoc (bg p bd) T,?_,λv i=>AW.2 (.inl (D.o.2.2.1 v i)),λv i=>?_⟩
       ·rw[take_append_of_le_length bz];exact D.o.2.1
       rw[bp.o]at i;rcases AW.1 i with h|h
       ·exact AW.2 (.inl (D.o.2.2.2 v h))
       simp at h;subst h;simp
      have bu:Z d+1<=Z b+Z t:=by
       have:=G.o.1.le;simpa using this
      clear a6 T;refine m0 ?_;intro yb ya;refine Xi (bh _) ?_;rintro _ _ ⟨rfl,u⟩;(have ax:=u.B;have an:=u.C;have K:=((g.new _).put g.B _).trans u;have C:=J.keep (J.put (J.new x _) _ _) u;simp only[Ac,Aa]at ax an;have ba:=an a1.B L;rw[Ak]at ba);refine m5 ?_;intro yb ya;intro ah bj ai aj af ab ae aa;refine X ?_;refine⟨Z a.ts-(j+1),L,j+1,ah,d++[p],?_⟩
      ((repeat' refine Zi ?_ ?_)<;>first|exact Xq|exact (nn ai)|exact G|exact (by simp[As])|exact Xs)
    have bc:j=Z a.ts:=L;subst bc;have HW:V (Grown b t d/\d.take (Z rs)=rs/\F1 (l.take (k+1)) rs d):=by
     obtain⟨u1,R,u3,u4⟩:=D.o;rw[AS]at u4;refine⟨u1,R,?_⟩;rw[HT.o];intro ak n h v i;rcases AW.1 n with n|n
     ·exact u3 v (z.o.2.2 ak n h v i)
     simp at n;subst n;exact u4 v i
    clear D z HT;refine X ?_;refine⟨Z l-(k+1),L,k+1,P,d,?_⟩;exact m9 HW
  have b2:k=Z l:=L;subst b2;have HW:V (Grown b t f/\F1 l (f.take (Z rs)) f):=by
   obtain⟨u1,R,u3⟩:=z.o;rw[AS]at u3;exact⟨u1,by rw[R];exact u3⟩
  clear z;refine X ?_;refine⟨2*(Z b+Z t-Z f)+(if (Z rs:Int)<(Z f:Int)then 1 else 0),by split<;>omega,Z rs,Q,Z rs,f,?_⟩
  ((repeat' refine Zi ?_ ?_)<;>first|exact Xq|exact HW|exact (.inl rfl)|exact Xs)
 have hF:Grown b t rs/\F1 l rs rs:=by
  have hB:B=Z rs:=by rcases b7 with h|⟨h1,y⟩<;>omega
  obtain⟨u1,R⟩:=hG.o;rw[hB,AS]at R;exact⟨u1,R⟩
 have HF:V _:=hF;clear hF;have ci:decide ((Z rs:Int)>F)=false:=by simp;omega
 refine X ?_
 first|exact⟨_,rfl,⟨A,rs,rfl,HF.o.1,HF.o.2⟩,g⟩|exact⟨_,rfl,A,rs,rfl,HF.o.1,HF.o.2⟩
def J0 (rs:List Int)(a:Dx):Bool:=rs.any (Bm a.ts)
def Bc (q:AZ)(rs:List Int):AZ:=⟨q.h,q.A.filter λp=>J0 rs p.a,q.B.filter (J0 rs)⟩
def Ip (q:AZ)(rs:List Int):AZ:=⟨⟨0,[]⟩,q.A.filter λp=>!J0 rs p.a,q.B.filter λa=>!J0 rs a⟩
def Uf (q c ai b5)(hc:EQ q c)(hq:Qt q)(b6:Z ai<=200)(b):ni 188 [ag c,X2 b5 ai] b λao σ'=>(∃c1 c2 rs,ao=tp [ag c1,ag c2]/\EQ (Bc q rs) c1/\EQ (Ip q rs) c2/\Grown ai (Cs (atomsQ q)) rs/\F1 (atomsQ q) rs rs)/\W b σ':=by
 have br:=λb=>bB q c ai b5 hc hq b6 b;have ca:=N6 hq;have ci:=Jv hq;have b7:=Fs ca;obtain⟨z,ip,bj,pc,nc,rfl,hP,hN⟩:=hc;have bt:=r.length Ex hP;have ce:=r.length Iz hN;have hl:=hq.pl;have cg:=hq.nl;refine wl func188 ?_;refine mt br ?_;rintro yb ya _ _ ⟨⟨aw,rs,rfl,hG,hC⟩,a6⟩;have bb:=a6.B;have ap:=a6.C;have b9:=((((W.refl b).new _).new _).new _).trans a6;simp only[Aa]at bb ap;refine X ?_;rename_i ah;have bq:Z rs<=100000:=ny hG.le
 have HG:V _:=hG;have HC:V _:=hC;clear hG hC br b7;have o0:ah.C b.B=[Y q.h.p,X1 z q.h.ts,sl ip (Z q.A) pc,sl bj (Z q.B) nc]:=by rw[ap _ L,Ah AM,Ah AM,Ao]
 have o1:ah.C (b.B+1)=[Y 0,H,H,H]:=by rw[ap _ L,Ah AM,Be AM AM]
 have o2:ah.C (b.B+2)=[Y 0,H,H,H]:=by rw[ap _ L,Be AM AM]
 clear ap a6;generalize b8:ah.B=x at*
 refine wn [2,4,5,6,7,8,21,22] 23 (Z q.A) (λk au σ'=>∃(D P:Nat) (n u:List Part) (F e:oh),W b σ'/\x+1<σ'.B/\σ'.C b.B=[Y q.h.p,X1 z q.h.ts,sl ip (Z q.A) pc,sl bj (Z q.B) nc]/\σ'.C (b.B+1)=[Y 0,H,H,H]/\σ'.C (b.B+2)=[Y 0,H,H,H]/\σ'.C x=[Y q.h.p,X1 z q.h.ts,sl D (Z n) F,H]/\σ'.C (x+1)=[Y 0,H,sl P (Z u) e,H]/\J b σ' D (Z n)/\J b σ' P (Z u)/\(D=1\/D≠P)/\Z n<=k/\Z u<=k/\Z F=Z n*3/\Z e=Z u*3/\V (r Oa n F/\r Oa u e/\n=(q.A.take k).filter (λp=>J0 rs p.a)/\u=(q.A.take k).filter λp=>!J0 rs p.a)) ⟨1,1,[],[],[],[],Xs,BJ,?_,?_,?_,?_,?_,J.nil _ _,J.nil _ _,.inl rfl,nk,nk,nk,nk,⟨rfl,rfl,nk,nk⟩⟩ ?_
 ·rw[Aj L,Ah BJ,Aj L,Ah L,o0]
 ·rw[Aj L,Ah BJ,Aj L,Ah L,o1]
 ·rw[Aj L,Ah BJ,Aj L,Ah L,o2]
 ·rw[Aj L,Ah BJ,Ak];simp
 ·rw[Ak];simp
 clear o0 o1 o2 b9 b8;rintro k au σ' hk ⟨h2,h4,h5,h6,h7,h8,cd,cc⟩ cb ⟨D,P,n,u,F,e,i,bc,b0,ba,a9,a8,a7,bm,bi,a5,b3,bf,bp,bo,hX⟩;have bn:=i.B;by_cases a3:k<Z q.A
 ·obtain⟨w,K⟩:=gq a3;obtain⟨id,a2,ao,hd⟩:=F0 hP K;have bh:=hq.pa _ (AY K);have be:Z w.a.ts<=1000:=L;have m:=λb=>L5 w.a.p id w.a.ts rs aw be bq b;have a4:W b ((σ'.new [Y 0,H,H]).put σ'.B [Y w.a.p,X1 id w.a.ts,sl a2 (Z w.A) (Fg w.A)]):=(i.new _).put i.B _;have U:V ((q.A.take (k+1)).filter (λp=>J0 rs p.a)=(q.A.take k).filter (λp=>J0 rs p.a)++if J0 rs w.a=true then [w]else []):=by
   rw[V,AT,K,BN,Em]
  have s:V ((q.A.take (k+1)).filter (λp=>!J0 rs p.a)=(q.A.take k).filter (λp=>!J0 rs p.a)++if (!J0 rs w.a)=true then [w]else []):=by
   rw[V,AT,K,BN,Em]
  clear K;rw[show rs.any (Bm w.a.ts)=J0 rs w.a from rfl]at m;cases C:J0 rs w.a
  ·rw[C]at m;have y:V (r Oa n F/\r Oa (u++[w]) (e++[Y w.a.p,X1 id w.a.ts,sl a2 (Z w.A) (Fg w.A)])/\n=(q.A.take (k+1)).filter (λp=>J0 rs p.a)/\u++[w]=(q.A.take (k+1)).filter λp=>!J0 rs p.a):=by
    obtain⟨G,E,l,g⟩:=hX.o;exact⟨G,r.append E (r.single ⟨id,a2,rfl⟩),by rw[U.o,C,l];simp,by rw[s.o,C,g];simp⟩
   clear hX U s;refine m0 ?_;intro yb ya;refine Xi (m _) ?_;rintro _ _ ⟨rfl,d⟩;(have am:=d.B;have M:=d.C;have B:=a4.trans d;simp only[Ac,Aa]at am M);refine nh ?_;intro yb ya;refine Ie (by first|exact F5|exact Ee) B (J.keep (J.put (J.new bi _) _ _) d) nr (by rfl) bo (by rfl) (by rfl) nr L L ?_;intro f a1 A T R ab ad aa an;obtain⟨az,ax⟩:=an D (Z n) (J.keep (J.put (J.new bm _) _ _) d) L;have bd:D=1\/D≠f:=L;have aj:∀p,p<σ'.B->a1.C p=σ'.C p:=λp hp=>by rw[R,M _ L,Aj L,Ah L]
   refine Z3 ?_;refine X ?_;refine⟨D,f,n,u++[w],F,e++[Y w.a.p,X1 id w.a.ts,sl a2 (Z w.A) (Fg w.A)],?_⟩
   ((repeat' refine Zi ?_ ?_)<;>first|exact Xq|exact (T.put L _)|exact (nn (J.put A _ _))|exact (J.put az _ _)|exact y|exact Xs)
  rw[C]at m;have y:V (r Oa (n++[w]) (F++[Y w.a.p,X1 id w.a.ts,sl a2 (Z w.A) (Fg w.A)])/\r Oa u e/\n++[w]=(q.A.take (k+1)).filter (λp=>J0 rs p.a)/\u=(q.A.take (k+1)).filter λp=>!J0 rs p.a):=by
   obtain⟨G,E,l,g⟩:=hX.o;exact⟨r.append G (r.single ⟨id,a2,rfl⟩),E,by rw[U.o,if_pos C,l],by rw[s.o,C,g];simp⟩
  clear hX U s;refine m0 ?_;intro yb ya;refine Xi (m _) ?_;rintro _ _ ⟨rfl,d⟩;(have am:=d.B;have M:=d.C;have B:=a4.trans d;simp only[Ac,Aa]at am M);refine nh ?_;intro yb ya;refine Ie (by first|exact F5|exact Ee) B (J.keep (J.put (J.new bm _) _ _) d) nr (by rfl) bp (by rfl) (by rfl) nr L L ?_;intro f a1 A T R ab ad aa an;obtain⟨ay,ax⟩:=an P (Z u) (J.keep (J.put (J.new bi _) _ _) d) a5;have aj:∀p,p<σ'.B->a1.C p=σ'.C p:=λp hp=>by rw[R,M _ L,Aj L,Ah L]
  refine Z3 ?_;refine X ?_;refine⟨f,P,n++[w],u,F++[Y w.a.p,X1 id w.a.ts,sl a2 (Z w.A) (Fg w.A)],e,?_⟩
  ((repeat' refine Zi ?_ ?_)<;>first|exact Xq|exact (T.put L _)|exact (nn (J.put A _ _))|exact (J.put ay _ _)|exact y|exact Xs)
 obtain rfl:k=Z q.A:=L;let⟨G,E,l,g⟩:=hX.o;rw[AS]at l g;have y:V (r Oa (q.A.filter λp=>J0 rs p.a) F/\r Oa (q.A.filter λp=>!J0 rs p.a) e/\Z n=Z (q.A.filter λp=>J0 rs p.a)/\Z u=Z (q.A.filter λp=>!J0 rs p.a)):=⟨by rw[<-l];exact G,by rw[<-g];exact E,by rw[l],by rw[g]⟩;clear G E l g hX hk;generalize Z n=n1 at*
 generalize Z u=n2 at*
 refine X ?_
 refine wn [4,5,6,7,8,45,46] 47 (Z q.B) (λj au σ'=>∃(I S:Nat) (v t:List Dx) (o N:oh),W b σ'/\x+1<σ'.B/\σ'.C (b.B+1)=[Y 0,H,H,H]/\σ'.C (b.B+2)=[Y 0,H,H,H]/\σ'.C x=[Y q.h.p,X1 z q.h.ts,sl D n1 F,sl I (Z v) o]/\σ'.C (x+1)=[Y 0,H,sl P n2 e,sl S (Z t) N]/\J b σ' I (Z v)/\J b σ' S (Z t)/\(I=1\/I≠S)/\Z v<=j/\Z t<=j/\Z o=Z v*2/\Z N=Z t*2/\V (r O9 v o/\r O9 t N/\v=(q.B.take j).filter (J0 rs)/\t=(q.B.take j).filter λa=>!J0 rs a)) ⟨1,1,[],[],[],[],i,bc,ba,a9,by rw[a8];simp,by rw[a7];simp,J.nil _ _,J.nil _ _,.inl rfl,nk,nk,nk,nk,⟨rfl,rfl,nk,nk⟩⟩ ?_
 clear h2 h4 h5 h6 h7 h8 cd cc cb i bc b0 ba a9 a8 a7 bm bi a5 b3 bf bp bo a3 bn;rintro j au σ' _ ⟨h4,h5,_,_,_,_,_⟩ _ ⟨I,S,v,t,o,N,i,bc,ba,a9,a8,a7,bv,bu,a5,bl,cf,b2,b1,hY⟩;have bn:=i.B;by_cases a3:j<Z q.B
 ·obtain⟨w,K⟩:=gq a3;obtain⟨id,ao,hd⟩:=Ke hN K;have bh:=hq.na _ (AY K);have be:Z w.ts<=1000:=L;have m:=λb=>L5 w.p id w.ts rs aw be bq b;have a4:W b ((σ'.new [Y 0,H]).put σ'.B [Y w.p,X1 id w.ts]):=(i.new _).put i.B _;have U:V ((q.B.take (j+1)).filter (J0 rs)=(q.B.take j).filter (J0 rs)++if J0 rs w=true then [w]else []):=by
   rw[V,AT,K,BN,Em]
  have s:V ((q.B.take (j+1)).filter (λa=>!J0 rs a)=(q.B.take j).filter (λa=>!J0 rs a)++if (!J0 rs w)=true then [w]else []):=by
   rw[V,AT,K,BN,Em]
  clear K;rw[show rs.any (Bm w.ts)=J0 rs w from rfl]at m;cases C:J0 rs w
  ·rw[C]at m;have HY:V (r O9 v o/\r O9 (t++[w]) (N++[Y w.p,X1 id w.ts])/\v=(q.B.take (j+1)).filter (J0 rs)/\t++[w]=(q.B.take (j+1)).filter λa=>!J0 rs a):=by
    obtain⟨G,E,l,g⟩:=hY.o;exact⟨G,r.append E (r.single ⟨id,rfl⟩),by rw[U.o,C,l];simp,by rw[s.o,C,g];simp⟩
   clear hY U s;refine m0 ?_;intro yb ya;refine Xi (m _) ?_;rintro _ _ ⟨rfl,d⟩;(have am:=d.B;have M:=d.C;have B:=a4.trans d;simp only[Ac,Aa]at am M);refine nh ?_;intro yb ya;refine Ie (by first|exact F5|exact Ee) B (J.keep (J.put (J.new bu _) _ _) d) nr (by rfl) b1 (by rfl) (by rfl) nr L L ?_;intro f a1 A T R ab ad aa an;obtain⟨az,ax⟩:=an I (Z v) (J.keep (J.put (J.new bv _) _ _) d) L;have bd:I=1\/I≠f:=L;have aj:∀p,p<σ'.B->a1.C p=σ'.C p:=λp hp=>by rw[R,M _ L,Aj L,Ah L]
   refine Z3 ?_;refine X ?_;refine⟨I,f,v,t++[w],o,N++[Y w.p,X1 id w.ts],?_⟩
   ((repeat' refine Zi ?_ ?_)<;>first|exact Xq|exact (T.put L _)|exact (nn (J.put A _ _))|exact (J.put az _ _)|exact HY|exact Xs)
  rw[C]at m;have HY:V (r O9 (v++[w]) (o++[Y w.p,X1 id w.ts])/\r O9 t N/\v++[w]=(q.B.take (j+1)).filter (J0 rs)/\t=(q.B.take (j+1)).filter λa=>!J0 rs a):=by
   obtain⟨G,E,l,g⟩:=hY.o;exact⟨r.append G (r.single ⟨id,rfl⟩),E,by rw[U.o,if_pos C,l],by rw[s.o,C,g];simp⟩
  clear hY U s;refine m0 ?_;intro yb ya;refine Xi (m _) ?_;rintro _ _ ⟨rfl,d⟩;(have am:=d.B;have M:=d.C;have B:=a4.trans d;simp only[Ac,Aa]at am M);refine nh ?_;intro yb ya;refine Ie (by first|exact F5|exact Ee) B (J.keep (J.put (J.new bv _) _ _) d) nr (by rfl) b2 (by rfl) (by rfl) nr L L ?_;intro f a1 A T R ab ad aa an;obtain⟨ay,ax⟩:=an S (Z t) (J.keep (J.put (J.new bu _) _ _) d) a5;have aj:∀p,p<σ'.B->a1.C p=σ'.C p:=λp hp=>by rw[R,M _ L,Aj L,Ah L]
  refine Z3 ?_;refine X ?_;refine⟨f,S,v++[w],t,o++[Y w.p,X1 id w.ts],N,?_⟩
  ((repeat' refine Zi ?_ ?_)<;>first|exact Xq|exact (T.put L _)|exact (nn (J.put A _ _))|exact (J.put ay _ _)|exact HY|exact Xs)
 obtain rfl:j=Z q.B:=L;obtain⟨G,E,l,g⟩:=hY.o;rw[AS]at l g;have bz:=y.o.2.2.1;have bw:=y.o.2.2.2
 have HN:V (EQ (Bc q rs) [Y q.h.p,X1 z q.h.ts,sl D n1 F,sl I (Z v) o]/\EQ (Ip q rs) [Y 0,H,sl P n2 e,sl S (Z t) N]):=
  ⟨⟨z,D,I,F,o,by simp only[Bc];rw[bz,l],y.o.1,by simp only[Bc];rw[<-l];exact G⟩,⟨1,P,S,e,N,by simp only[Ip];rw[bw,g];rfl,y.o.2.1,by simp only[Ip];rw[<-g];exact E⟩⟩
 clear G E l g hY bz bw;refine X ?_;have c4:b.B+2<x:=L;refine A2 (Q:=λb4 s' af=>b4= .normal/\s' 4=ptr (b.B+1) 0/\s' 5=ptr (b.B+2) 0/\W b af/\af.C (b.B+1)=[Y q.h.p,X1 z q.h.ts,sl D n1 F,sl I (Z v) o]/\af.C (b.B+2)=[Y 0,H,sl P n2 e,sl S (Z t) N]) ?_ ?_
 ·refine Ar Ag (λp=>p=x\/p=x+1) [3] [0] 3 (nv 4 1) AH (λ_ _ _ h=>by cases h.1) ?_;intro yb ya;refine Z3 ?_;refine⟨λp h=>.inl (Gf h).symm,ya.o _ ?_⟩;clear ya yb;have bg:∀(av:Nat->Bool) (ae:Nat) (c:oh),Kept av (λp=>p=x\/p=x+1) σ' ae (σ'.put (b.B+1) c):=λav ae c _ bk ho hF=>by
   have:bk≠b.B+1:=by rcases hF with h|h<;>omega
   simp[St.put,this]
  refine D8 (rs:=[1,2]) AH nk ?_;intro ae hi;simp only[BD,EK,DZ]at hi;obtain rfl|rfl:=hi
  ·refine ta ?_;refine Ai (i:=2) AH ?_;refine Am ?_;intro yb ya;refine Z3 ?_;refine ya.o _ _ ⟨bg _ _ _,?_⟩;clear ya yb;refine rl 3 ?_;refine Aw AH ⟨rfl,by simp[upd,h4],by simp[upd,h5],(i.put L _).put L _,?_,?_⟩
   ·rw[Aj L,Ak]
   rw[Ak]
  refine Am ?_;intro yb ya;refine Z3 ?_;refine ya.o _ _ ⟨bg _ _ _,?_⟩;clear ya yb;refine Ai (i:=1) AH ?_;refine Am ?_;intro yb ya;refine Z3 ?_;refine ya.o _ _ ⟨bg _ _ _,?_⟩;clear ya yb;refine rl 3 ?_;refine Aw AH ⟨rfl,by simp[upd,h4],by simp[upd,h5],(i.put L _).put L _,?_,?_⟩
  ·rw[Aj L,Ak]
  rw[Ak]
 rintro b4 s' af ⟨rfl,g4,g5,ch,bx,c3⟩;refine X ?_;exact⟨_,rfl,⟨_,_,rs,rfl,HN.o.1,HN.o.2,HG.o,HC.o⟩⟩
abbrev MM:=List (Nat×List Ck)
def Gp (M:MM):oh:=M.map λx=>sl x.1 (Z x.2) (Fg x.2)
def Live (a:St)(id n:Nat):Prop:=(id=1/\n=0)\/∃k,id=k+2/\k<a.D/\a.top k=n/\0<n
def Live.keep {a σ' id n}(h:Live a id n)(k:W a σ'):Live σ' id n:=by obtain h|⟨j,c,b,d,e⟩:=h;exact .inl h;exact .inr ⟨j,c,BZ b k.D,(k.top j b).trans d,e⟩
structure BL (σ:St)(om ot:Nat)(M:MM)(d b:Int):Prop where
 ob:σ.C om=[fx ot 0 (Z M),Y d,Y b]
 oc:σ.C ot=Gp M
 lo:om<σ.B
 lt:ot<σ.B
 ne:om≠ot
 live:∀x∈M,Live σ x.1 (Z x.2)
 inj:∀(i j:Nat) (x y:Nat×List Ck),M[i]?=some x->M[j]?=some y->i≠j->x.1=1\/x.1≠y.1
 t3:∀x∈M,T3 x.2
 ln:∀x∈M,Z x.2<=5000
 pl:Z M<=5000
def BL.keep {a σ' e c M d b}(h:BL a e c M d b)(k:W a σ'):BL σ' e c M d b:=
 ⟨(k.C _ h.lo).trans h.ob,(k.C _ h.lt).trans h.oc,BZ h.lo k.B,BZ h.lt k.B,h.ne,λx f=>(h.live x f).keep k,h.inj,h.t3,h.ln,h.pl⟩
def Jj {M}{k:Nat}{x}(h:M[k]?=some x):(Gp M)[k]?=some (sl x.1 (Z x.2) (Fg x.2)):=by grind[Gp]
def Ji (M):Z (Gp M)=Z M:=by simp[Gp]
def Qm (g i M d b f)(a:BL f g i M d b):ni 51 [ptr g 0] f λj σ'=>j=my (decide (b<d))/\σ'=f:=by
 have e:=a.ob;have c:decide (d>b)=decide (b<d):=rfl;refine wl func51 ?_;refine X ?_;refine Ax Ag (λ_=>True) [9] [0,1,2,3,4,5,6,7,8] [9] AH (λ_ _ _ h=>h) ?_;intro yb ya;refine X ?_
 first|exact⟨_,rfl,rfl⟩|exact⟨_,rfl,rfl,rfl⟩|exact⟨_,rfl⟩
def C4 (a:Dx):Ck:=Ej (a.ts.map (·.2))
def Jq (o s M d b a)(id k:Nat)(x)(ha:Z a.ts<=3)(R:a.p=(k:Int))(z:M[k]?=some x)(l)(n:BL l o s M d b):ni 81 [ptr o 0,ag [Y a.p,X1 id a.ts]] l λm σ'=>m=my (decide (C4 a∈x.2))/\W l σ':=by
 have a7:Z a.ts<=1000:=L;have D:=λl=>Ue a.p id a.ts a7 l;have F:=AY z;have I:=n.t3 x F;have az:=n.ln x F;have aw:=J4 I;have a3:k<Z M:=(BA.1 z).1;have ad:=n.pl;have ay:=Ji M;have a4:=Jj z;have aa:=n.lo;have a2:=n.lt;have a8:=n.ob;have a0:=n.oc;rw[R];rw[R]at D;have U:Z (Ej (a.ts.map (·.2)))=3:=rfl;have E:V (C4 a=Ej (a.ts.map (·.2))):=rfl;generalize C4 a=T at*
 generalize Ej (a.ts.map (·.2))=S at*
 obtain⟨f,g,j,rfl⟩:∃f g j,S=[f,g,j]:=by
  match S,U with
  |[f,g,j],_=>exact⟨f,g,j,rfl⟩
 simp only[As,CC,IK]at D;refine wl func81 ?_;refine mt D ?_;rintro yb ya _ _ ⟨rfl,v⟩;have a6:=v.B;have B:=v.C;have C:=((W.refl l).new _).trans v;simp only[Aa]at a6 B;refine X ?_;rename_i c;have K:W l ((c.new [Y 0,Y 0,Y 0]).put c.B [Y f,Y g,Y j]):=(C.new _).put L _;have a9:c.C l.B=[Y (k:Int),X1 id a.ts]:=by rw[B _ L,Ao]
 have P:c.C o=[fx s 0 (Z M),Y d,Y b]:=by rw[C.C _ aa,a8]
 have e2:c.C s=Gp M:=by rw[C.C _ a2,a0]
 clear B v;refine Ax Ag (λ_=>True) [] [0,1,2,3,4,5,6,7,8,9] [] AH (λ_ _ _ h=>h) ?_;intro yb ya;refine X ?_;clear a9 P e2
 refine wn [5,17,18] 19 (Z x.2) (λi ac σ'=>W l σ'/\c.B<σ'.B/\σ'.C c.B=[Y f,Y g,Y j]/\V ([f,g,j]∉x.2.take i)) ⟨K,BJ,by rw[Ak],by simp[V]⟩ ?_
 clear K;rintro i ac σ' _ _ _ ⟨A,ax,au,u⟩;have av:=A.B;by_cases a1:i<Z x.2
 ·have t:=AK a1;let⟨p,q,m,rr,N,hd⟩:=uQ I t;rw[N]at t;clear N;have G:V (x.2[i]?=some [p,q,m]):=t;clear t;by_cases y:p=f/\q=g/\m=j
  ·obtain⟨rfl,rfl,rfl⟩:=y;have ab:decide (T∈x.2):=by rw[E.o];simpa using AY G.o
   refine X ?_
   exact⟨_,rfl,rfl,Xs⟩
  have a5:(p==f&&q==g&&m==j)=false:=by
   cases h:(p==f&&q==g&&m==j)
   ·rfl
   simp at h;exact absurd ⟨h.1.1,h.1.2,h.2⟩ y
  have Q:V ([f,g,j]∉x.2.take (i+1)):=Yl u.o G.o (λe=>by simp at e;exact y ⟨e.1,e.2.1,e.2.2⟩);clear y u;refine X ?_;skip;exact m9 Q
 obtain rfl:i=Z x.2:=L;rw[AS]at u;have ab:decide (T∈x.2)=false:=by rw[E.o];simpa using u.o
 refine X ?_
 exact⟨_,rfl,rfl⟩
structure KM (om ot:Nat)(M M':MM)(σ σ':St):Prop where
 B:σ.B<=σ'.B
 C:∀o,o<σ.B->o≠om->o≠ot->σ'.C o=σ.C o
 ver:∀o,o<σ.B->o≠om->o≠ot->σ'.ver o=σ.ver o
 D:σ.D<=σ'.D
 top:∀k,k<σ.D->(∀x∈M,x.1≠k+2)->σ'.top k=σ.top k
 mid:∀x∈M',(∃y∈M,y.1=x.1)\/x.1=1\/σ.D+2<=x.1
def KM.ofKeep {f c M b σ'}(h:W b σ'):KM f c M M b σ':=
 ⟨h.B,λo a _ _=>h.C o a,λo a _ _=>h.ver o a,h.D,λk e _=>h.top k e,λx d=>.inl ⟨x,d,rfl⟩⟩
def KM.trans {j i M p M2 m a c}(h:KM j i M p m a)(g:KM j i p M2 a c):KM j i M M2 m c where
 B:=BI h.B g.B
 C:=λo b d h2=>(g.C o (BZ b h.B) d h2).trans (h.C o b d h2)
 ver:=λo b d h2=>(g.ver o (BZ b h.B) d h2).trans (h.ver o b d h2)
 D:=BI h.D g.D
 top:=λk n f=>(g.top k (BZ n h.D) (λx s e=>by
  obtain⟨y,l,e2⟩|e2|e2:=h.mid x s;exact f y l (e2.trans e);omega
  omega)).trans (h.top k n f)
 mid:=λx f=>by obtain⟨y,l,e⟩|e|e:=g.mid x f;obtain⟨z,q,e2⟩|e2|e2:=h.mid y l;exact .inl ⟨z,q,e2.trans e⟩;exact .inr (.inl L);exact .inr (.inr L);exact .inr (.inl e);exact .inr (.inr (ny h.D))
def Ty {P t z b i a id f n m c xs d K}(v:P0 P t=some (z,b,i))(p:Live a id n)
  (D:0<z) (e:Z i=z) (g:Z xs=n*z) (u:Z d=m*z) (x:d.all flat) (l:0<m) (y:(n+m)*b<=140737488355328) (s:n+m<=1099511627776)
  (h:∀id' σ',Live σ' id' (n+m)->(id'=id\/a.D+2<=id')->id'≠1->σ'.C=a.C->σ'.B=a.B->σ'.ver=a.ver->a.D<σ'.D->(∀k,k<a.D->k+2≠id->σ'.top k=a.top k)->K (sl id' (n+m) (xs++d)) σ'):Jx P t t (sl id n xs) (sl f m d) (a.lay c) K:=by
 unfold Jx iK;left;simp only[v];rw[if_pos ⟨trivial,D,e,g,u,x,l,y,s⟩];obtain⟨rfl,rfl⟩|⟨k,rfl,E,F,A⟩:=p;obtain rfl:xs=[]:=GG (nn g);have:=h ((a.lay c).D+2) ((a.lay c).lay m) (.inr ⟨(a.lay c).D,rfl,by simp[St.lay],by simp[St.lay],L⟩) (.inr (by simp[St.lay])) nk rfl rfl rfl (by grind[St.lay]) (λk q _=>(((W.refl a).lay c).lay m).top k q);simpa using this;have o:(a.lay c).top k=n:=by grind[St.lay]
 simp only;rw[if_pos ⟨o,A⟩]
 exact h (k+2) _ (.inr ⟨k,rfl,by grind[St.raise,St.lay],by simp[St.raise],L⟩) (.inl rfl) L rfl rfl rfl (by simp[St.raise,St.lay]) (λj C B=>by grind[St.raise,St.lay])
def BL.grow {f σ' v p M d b k id' x t}(c:BL f v p M d b)(A:M[k]?=some x)(P:Z t=3)(T:Z x.2<5000)
  (Lqx:Live σ' id' (Z x.2+1)) (s:id'=x.1\/f.D+2<=id') (S:id'≠1) (R:∀o,o<f.B->o≠p->σ'.C o=f.C o) (K:∀o,o<f.B->o≠p->σ'.ver o=f.ver o) (D:σ'.C p=(Gp M).set k (sl id' (Z x.2+1) (Fg x.2++As t))) (m:f.B<=σ'.B) (g:f.D<=σ'.D)
  (l:∀j,j<f.D->j+2≠x.1->σ'.top j=f.top j):BL σ' v p (M.set k (id',x.2++[t])) d b/\KM v p M (M.set k (id',x.2++[t])) f σ':=by
 have C:=AY A;have a4:=(BA.1 A).1;have B:∀(i:Nat) (y:Nat×List Ck),M[i]?=some y->i≠k->Live σ' y.1 (Z y.2)/\(y.1=1\/y.1≠id'):=λi y a q=>by
  have a2:=AY a;rcases c.live y a2 with h|⟨j,e1,e2,e3,e4⟩;exact⟨.inl h,.inl h.1⟩;have a5:y.1≠x.1:=by obtain h|h:=c.inj i k y x a A q;omega;exact h
  refine⟨.inr ⟨j,e1,BZ e2 g,(l j e2 L).trans e3,e4⟩,.inr ?_⟩;grind
 have z:∀(i:Nat) (y:Nat×List Ck),(M.set k (id',x.2++[t]))[i]?=some y->(i=k/\y=(id',x.2++[t]))\/(i≠k/\M[i]?=some y):=λi y a=>gp
 have F:∀y∈M.set k (id',x.2++[t]),y=(id',x.2++[t])\/y∈M:=λy a=>(NI a).symm;have U:∀y∈M.set k (id',x.2++[t]),∃i,(M.set k (id',x.2++[t]))[i]?=some y:=λy a=>CL a;refine⟨⟨?_,?_,BZ c.lo m,BZ c.lt m,c.ne,?_,?_,?_,?_,by simp;exact c.pl⟩,⟨m,λo G E n=>R o G n,λo G E n=>K o G n,g,λj N h=>l j N (λe=>h x C e.symm),?_⟩⟩;rw[R v c.lo c.ne,c.ob];simp;rw[D];unfold Gp;rw[map_set];congr 1;simp[Fg];intro y a;let⟨i,a1⟩:=U y a;obtain⟨-,rfl⟩|⟨q,u⟩:=z i y a1;simpa using Lqx;exact (B i y u q).1;intro i j y w a Q q;obtain⟨rfl,rfl⟩|⟨E,u⟩:=z i y a;obtain⟨rfl,rfl⟩|⟨n,I⟩:=z j w Q;cases q rfl;have:=(B j w I n).2;simp only;by_cases e:id'=w.1;obtain h|h:=this;omega;omega;exact .inr e;obtain⟨rfl,rfl⟩|⟨n,I⟩:=z j w Q;exact (B i y u E).2;exact c.inj i j y w u I q;intro y a;obtain rfl|a:=F y a;intro a3 a0;obtain h|h:=AW.1 a0;exact c.t3 x C a3 h;simp at h;subst h;exact P;exact c.t3 y a;intro y a;obtain rfl|a:=F y a;simp;omega;exact c.ln y a;intro y a;obtain rfl|a:=F y a;obtain h|h:=s;exact .inl ⟨x,C,h.symm⟩;exact .inr (.inr h);exact .inl ⟨y,a,rfl⟩
def Y4 (A t M d b a)(id k:Nat)(x)(ha:Z a.ts<=3)(D:a.p=(k:Int))(u:M[k]?=some x)(hn:Z x.2<5000)(g)(l:BL g A t M d b):ni 82 [ptr A 0,ag [Y a.p,X1 id a.ts]] g λaf σ'=>∃id',BL σ' A t (M.set k (id',x.2++[C4 a])) d b/\KM A t M (M.set k (id',x.2++[C4 a])) g σ':=by
 have a4:Z a.ts<=1000:=L;have I:=λg=>Ue a.p id a.ts a4 g;have G:=AY u;have z:=l.t3 x G;have a8:=l.live x G;have au:=J4 z;have a0:k<Z M:=(BA.1 u).1;have ac:=l.pl;have az:=Ji M;have a3:=Jj u;have lo:=l.lo;have a5:=l.lt;have a7:=l.ob;have U:=l.oc;rw[D];rw[D]at I;have v:Z (Ej (a.ts.map (·.2)))=3:=rfl;have K:V (C4 a=Ej (a.ts.map (·.2))):=rfl;generalize C4 a=R at*
 generalize Ej (a.ts.map (·.2))=P at*
 have w1:=Io v;have a2:=Fo P;have w4:=Qj v;refine wl func82 ?_;refine X ?_;refine A2 (Q:=λe T σ'=>e= .normal/\∃id',BL σ' A t (M.set k (id',x.2++[R])) d b/\KM A t M (M.set k (id',x.2++[R])) g σ') ?_ ?_;refine bT [19] [0,1,2,3,4,5,6,7,8,9,10,11,12,13,14] 5 (nv 20 32767) ?_;refine tn 15 I ?_;rintro yb ya _ m ⟨rfl,q⟩;refine ux ?_;have a6:=q.B;simp only[Aa]at a6;have f:W g m:=((W.refl g).new _).trans q;have e1:m.C A=[fx t 0 (Z M),Y d,Y b]:=by rw[f.C _ lo,a7]
 have e2:m.C t=Gp M:=by rw[f.C _ a5,U]
 refine rl 16 ?_;refine Ai (i:=17) AH ?_;refine Am ?_;intro yb ya;refine Z3 ?_;refine Ty (by exact G6) (a8.keep f) nr (by rfl) au (by rw[w1]) a2 nr L L ?_;intro p aa ax a1 N E ae B ad a9
 refine Z3 ?_;refine ya.o _ _ ⟨λ_ o n _=>by rw[B];exact q.ver o n,?_⟩;clear ya yb;refine Ai (i:=18) AH ?_;refine Am ?_;intro yb ya;refine Z3 ?_;refine ya.o _ _ ⟨λ_ o n _=>by rw[B];exact q.ver o n,?_⟩;clear ya yb;refine rl 19 ?_;refine Aw AH ⟨rfl,p,?_⟩;rw[K.o];refine BL.grow l u v hn ?_ ?_ N ?_ ?_ ?_ ?_ ?_ ?_;obtain h|⟨j,C,y,z,h4⟩:=ax;exact .inl h;exact .inr ⟨j,C,y,z,h4⟩;have:=f.D;obtain h|h:=a1;exact .inl h;exact .inr L;intro o n s;rw[show∀(S:St) c,(S.put t c).C o=S.C o from λS c=>by simp[St.put,s],E,f.C o n];intro o n s;rw[show∀(S:St) c,(S.put t c).ver o=S.ver o from λS c=>by simp[St.put,s],B,f.ver o n];rw[Ak];have:=f.B;simp only[Ac];omega;have:=f.D;simp only[Nc];omega;intro j F s;rw[Og,a9 j (BZ F f.D) s,f.top j F];rintro e T ab ⟨rfl,p,C,y⟩;refine X ?_;exact⟨_,rfl,p,C,y⟩
def H1 (M:MM):List Int:=M.map λx=>(Z x.2:Int)
def Sc (n K M d b m)(f:BL m n K M d b):ni 137 [ptr n 0] m λN σ'=>(∃id,N=sl id (Z M) (As (H1 M)))/\W m σ':=by
 have v:=f.pl;have o:=f.lt;have F:=f.ob;have t:=f.oc;refine wl func137 ?_;refine X ?_
 refine wn [10,11] 12 (Z M) (λi s σ'=>∃(e:Nat) (a:oh),s 3=sl e i a/\W m σ'/\J m σ' e i/\Z a=i/\V (a=As (H1 (M.take i)))) ⟨1,[],AG,Xs,J.nil _ _,nk,by simp[V,H1,As]⟩ ?_
 rintro i s σ' _ _ _ ⟨e,a,E,j,D,R,c⟩;have e2:σ'.C K=Gp M:=by rw[j.C _ o,t]
 by_cases l:i<Z M;obtain⟨x,g⟩:=gq l;have p:=Jj g;have y:=f.ln _ (AY g);have q:V (a++[Y (Z x.2:Int)]=As (H1 (M.take (i+1)))):=by rw[V,AT,g,c.o];simp[H1,As]
 clear g c;have P:Z a=i*1:=L;refine m5 ?_;intro yb ya;intro k u z B A I C G;refine X ?_;refine⟨k,a++[Y (Z x.2:Int)],?_⟩;exact m9 q;obtain rfl:i=Z M:=L;have c:=c.o;rw[AS]at c;refine X ?_
 exact⟨_,rfl,⟨e,rfl⟩⟩
structure Lit where
 neg:Bool
 a:Dx
structure E3 where
 h:Dx
 A:List Lit
def Sq (l:Lit)(c:oh):Prop:=∃id,c=[my l.neg,Y l.a.p,X1 id l.a.ts]
def Hk (a c)(h:Sq a c):Z c=3:=by obtain⟨id,rfl⟩:=h;rfl
def H8 {l cs i p}(h:r Sq l cs)(a:l[i]?=some p):∃id b,cs.drop (i*3)=my p.neg::Y p.a.p::X1 id p.a.ts::b:=by obtain⟨c,b,⟨id,rfl⟩,e⟩:=r.get Hk h a;exact⟨id,b,e⟩
def pK (e:E3)(c:oh):Prop:=∃o b d a,c=[my o,Y e.h.p,X1 b e.h.ts,sl d (Z e.A) a]/\r Sq e.A a
def Ba (M:MM)(p:Int):List Ck:=((M[p.toNat]?).map (·.2)).getD []
def Zq (M:MM)(a:Int)(b:Nat)(i:Nat)(l:Lit):List Ck:=if (i:Int)=a then (Ba M l.a.p).drop b else Ba M l.a.p
def oR (M:MM)(b:Int)(a:Nat)(x:Lit×Nat):Part:=⟨x.1.a,(Zq M b a x.2 x.1).filter (Mp x.1.a.ts)⟩
def Pf (M:MM)(a:Int)(b:Nat)(l:List Lit):List Part:=(l.zipIdx.filter λx=>!x.1.neg).map (oR M a b)
def Tv (l:List Lit):List Dx:=(l.filter (·.neg)).map (·.a)
def Mc (M:MM)(b:Int)(a:Nat)(c:E3):AZ:=⟨c.h,Pf M b a c.A,Tv c.A⟩
structure TS (np:Nat)(rqx:E3):Prop where
 hd:Z rqx.h.ts<=3
 hp:∃k:Nat,rqx.h.p=(k:Int)/\k<np
 bl:Z rqx.A<=64
 ba:∀l∈rqx.A,Z l.a.ts<=3
 bp:∀l∈rqx.A,∃k:Nat,l.a.p=(k:Int)/\k<np
def zL (M b a l w):Pf M b a (l++[w])=Pf M b a l++if w.neg=true then []else [oR M b a (w,Z l)]:=by rw[Pf];rw[zipIdx_append,IR,EU];congr 1;grind
def zK (l w):Tv (l++[w])=Tv l++if w.neg=true then [w.a]else []:=by rw[Tv];rw[IR,EU];congr 1;grind
def Y8 {α:Type}(l:List α)(c k){x}(a:l[k]?=some x):(l.take (k+1)).drop c=(l.take k).drop c++if c<=k then [x]else []:=by have b:=(BA.1 a).1;rw[AT,a,BN,drop_append,CN,ER L];congr 1;by_cases h:c<=k;rw[if_pos h,show c-k=0 by omega];rfl;rw[if_neg h,JU (gp)]
def Zv (i:Nat)(a:Int)(b:Nat)(c:List Tm)(l:List Ck)(j:Nat):List Ck:=(if (i:Int)=a then (l.take j).drop b else l.take j).filter (Mp c)
def zM {i b c a l j t}(f:l[j]?=some t):Zv i b c a l (j+1)=Zv i b c a l j++if (((i:Int)≠b\/c<=j)/\Mp a t)then [t]else []:=by unfold Zv;by_cases e:(i:Int)=b;rw[if_pos e,if_pos e,Y8 _ _ _ f,IR];congr 1;by_cases g:c<=j;cases d:Mp a t<;>simp[g,d];simp[g,e];rw[if_neg e,if_neg e,AT,f,BN,Em];grind
def eV (om ot M d b o c m)(f:Nat)(hc:pK o c)(hr:TS (Z M) o)(cq:f<=100000)(g)(R:BL g om ot M d b):ni 138 [ptr om 0,ag c,Y m,Y f] g λx σ'=>(∃c',x=ag c'/\EQ (Mc M m f o) c')/\W g σ':=by
 obtain⟨av,ih,ib,bc,rfl,hB⟩:=hc;have cr:=r.length Hk hB;have hl:=hr.bl;have au:=R.pl;have ci:=Ji M;have lo:=R.lo;have lt:=R.lt;have an:=R.ob;have ao:=R.oc;refine Z9 82 [.cell 8 191] func138 ?_;refine X ?_
 refine wn [0,2,3,8,9,19,20] 21 (Z o.A) (λi ak σ'=>∃(u E:Nat) (n:List Part) (q:List Dx) (F G:oh),W g σ'/\g.B+2<σ'.B/\σ'.C (g.B+1)=[Y 0,H,H,H]/\σ'.C (g.B+2)=[Y o.h.p,X1 ih o.h.ts,sl u (Z n) F,sl E (Z q) G]/\J g σ' u (Z n)/\J g σ' E (Z q)/\(u=1\/u≠E)/\Z n<=i/\Z q<=i/\Z F=Z n*3/\Z G=Z q*2/\V (r Oa n F/\r O9 q G/\n=Pf M m f (o.A.take i)/\q=Tv (o.A.take i))) ⟨1,1,[],[],[],[],Xs,BJ,?_,?_,J.nil _ _,J.nil _ _,.inl rfl,nk,nk,nk,nk,⟨rfl,rfl,by simp[Pf],by simp[Tv]⟩⟩ ?_
 ·rw[Aj L,Ah AM,Be AM AM]
 ·rw[show g.B+2=g.B+1+1 from rfl,Ak];simp
 rintro i ak σ' _ ⟨h0,h2,h3,h8,h9,b0,bz⟩ bw ⟨u,E,n,q,F,G,v,ch,a8,a7,K,N,b9,cn,cm,b6,b5,hX⟩;have cf:=v.B;have em:σ'.C om=[fx ot 0 (Z M),Y d,Y b]:=by rw[v.C _ lo,an]
 have et:σ'.C ot=Gp M:=by rw[v.C _ lt,ao]
 by_cases bh:i<Z o.A
 ·have s:=AK bh;obtain⟨id,rr,hd⟩:=H8 hB s;have bq:=hr.ba _ (AR bh);obtain⟨k,hk,ca⟩:=hr.bp _ (AR bh);generalize o.A[i]=w at hd s bq hk;have a2:V (Pf M m f (o.A.take (i+1))=Pf M m f (o.A.take i)++(if w.neg=true then []else [oR M m f (w,i)])/\Tv (o.A.take (i+1))=Tv (o.A.take i)++if w.neg=true then [w.a]else []):=by
   rw[V,AT,s,BN,zL,zK,CN,ER L];exact⟨rfl,rfl⟩
  clear s;cases S:w.neg with
  |true=>
   rw[S]at hd;have HX:V (r Oa n F/\r O9 (q++[w.a]) (G++[Y w.a.p,X1 id w.a.ts])/\n=Pf M m f (o.A.take (i+1))/\q++[w.a]=Tv (o.A.take (i+1))):=by
    obtain⟨D,C,P,U⟩:=hX.o;exact⟨D,r.append C (r.single ⟨id,rfl⟩),by rw[a2.o.1,if_pos S,EJ,P],by rw[a2.o.2,if_pos S,U]⟩
   clear hX a2;refine nh ?_;intro yb ya;refine Ie (by first|exact F5|exact G6|exact Ee) ((v.new _).put v.B _) (J.put (J.new N _) _ _) nr (by rfl) b5 (by rfl) (by rfl) nr L L ?_;intro ae aj ai af ac aa ad ab T;obtain⟨az,b8⟩:=T u (Z n) (J.put (J.new K _) _ _) L;have bd:u=1\/u≠ae:=L;simp only[Ac,Aa]at aa;have am:∀p,p<σ'.B->aj.C p=σ'.C p:=λp hp=>by rw[ac,Aj L,Ah L]
   refine Z3 ?_;refine X ?_;refine⟨u,ae,n,q++[w.a],F,G++[Y w.a.p,X1 id w.a.ts],?_⟩
   ((repeat' refine Zi ?_ ?_)<;>first|exact Xq|exact (af.put L _)|exact (nn (J.put ai _ _))|exact (J.put az _ _)|exact HX|exact Xs)
  |false=>
   rw[S]at hd;have ap:M[k]?=some M[k]:=AK ca;generalize M[k]=x at ap;have bn:=AY ap;have cp:=Jj ap;have bv:=R.t3 x bn;have cj:=R.ln x bn;have cg:=J4 bv;have HT:V (Ba M w.a.p=x.2):=by rw[V,Ba,hk];simp[ap]
   rw[hk]at hd;have br:V _:=hX;refine X ?_;refine Ax Ag (λ_=>True) [] [0,1,2,3,4,5,6,7,8,9,10] [] AH (λ_ _ _ h=>h) ?_;intro yb ya;refine X ?_
   refine wn [0,2,3,8,9,10,11,12,19,20,21,46,47] 48 (Z x.2) (λj ak a=>∃(A:Nat) (l:List Ck) (B:oh),W g a/\σ'.B+1<a.B/\a.C (g.B+1)=[Y 0,H,H,H]/\a.C (g.B+2)=[Y o.h.p,X1 ih o.h.ts,sl u (Z n) F,sl E (Z q) G]/\a.C σ'.B=[my false,Y (k:Int),X1 id w.a.ts]/\a.C (σ'.B+1)=[Y (k:Int),X1 id w.a.ts,sl A (Z l) B]/\J g a u (Z n)/\J g a E (Z q)/\J g a A (Z l)/\(A=1\/A≠u)/\(A=1\/A≠E)/\Z l<=j/\Z B=Z l*3/\V (B=Fg l/\l=Zv i m f w.a.ts x.2 j)) ⟨1,[],[],Xs,BJ,?_,?_,?_,?_,J.put (J.new (J.put (J.new K _) _ _) _) _ _,J.put (J.new (J.put (J.new N _) _ _) _) _ _,J.nil _ _,.inl rfl,.inl rfl,nk,nk,⟨rfl,by simp[Zv]⟩⟩ ?_
   ·rw[Aj L,Ah BJ,Aj L,Ah L,a8]
   ·rw[Aj L,Ah BJ,Aj L,Ah L,a7]
   ·rw[Aj L,Ah BJ,Ak]
   ·rw[Ak];simp
   generalize bm:σ'.B=ax at*
   clear bm h0 h2 h3 h8 h9 b0 bz bw v a8 a7 K N em et hX;rintro j ak a _ _ _ ⟨A,l,B,v,b7,a8,a7,b2,b1,K,N,bi,bf,be,ck,b4,y⟩;have b3:=v.B;by_cases bg:j<Z x.2
   ·have s:=AK bg;obtain⟨Q,r2,cd⟩:=Kw bv s;generalize x.2[j]=t at cd s Q;have a1:V (Zv i m f w.a.ts x.2 (j+1)=Zv i m f w.a.ts x.2 j++if (((i:Int)≠m\/f<=j)/\Mp w.a.ts t=true)then [t]else []):=zM s;clear s;have f1:=Io Q;have f2:=Ow Q;have f3:=Jm Q;have f4:=Qj Q;have f5:=Fo t;have f6:=eM Q;have a6:=λg=>sI k id w.a.ts t Q bq g;by_cases I:(i:Int)≠m\/f<=j
    ·cases hf:Mp w.a.ts t with
     |true=>
      rw[hf]at a6;have HZ:V (B++As t=Fg (l++[t])/\l++[t]=Zv i m f w.a.ts x.2 (j+1)):=by
       obtain⟨D,C⟩:=y.o;exact⟨by rw[D,Q9],by rw[a1.o,if_pos ⟨I,hf⟩,C]⟩
      clear y a1;have hs:((i:Int) !=m)=true\/(((i:Int) !=m)=false/\decide ((j:Int)>=(f:Int))=true):=by
       by_cases e:(i:Int)=m
       ·right;have:f<=j:=by rcases I with h|h;exact absurd e h;exact h
        exact⟨by simp[e],by simp;omega⟩
       left;simpa using e
      clear I;rcases hs with a5|⟨a5,bo⟩
      all_goals
       refine m0 ?_;intro yb ya;refine Xi (a6 _) ?_;rintro _ _ ⟨rfl,z⟩;(have aw:=z.B;have ah:=z.C;have bu:=((v.new _).put v.B _).trans z;have a4:=J.keep (J.put (J.new K _) _ _) z;have a3:=J.keep (J.put (J.new N _) _ _) z;have a0:=J.keep (J.put (J.new bi _) _ _) z;simp only[Ac,Aa]at aw ah;have a9:=ah a.B L;rw[Ak]at a9);refine nh ?_;intro yb ya;refine Ie (by first|exact F5|exact G6|exact Ee) bu a0 nr (by rfl) b4 (by rw[f1]) f5 nr L L ?_;intro ae aj ai af ac aa ad ab T;obtain⟨az,bd⟩:=T u (Z n) a4 bf;obtain⟨ay,bb⟩:=T E (Z q) a3 be;have am:∀p,p<a.B->aj.C p=a.C p:=λp hp=>by rw[ac,ah _ L,Aj L,Ah L]
       refine Z3 ?_;refine X ?_;refine⟨ae,l++[t],B++As t,?_⟩
       ((repeat' refine Zi ?_ ?_)<;>first|exact Xq|exact (af.put L _)|exact (nn (J.put ai _ _))|exact (J.put az _ _)|exact (J.put ay _ _)|exact HZ|exact Xs)
     |false=>
      rw[hf]at a6;have HZ:V (B=Fg l/\l=Zv i m f w.a.ts x.2 (j+1)):=by
       obtain⟨D,C⟩:=y.o;exact⟨D,by rw[a1.o,if_neg (λh=>by rw[hf]at h;cases h.2),C,EJ]⟩
      clear y a1;have hs:((i:Int) !=m)=true\/(((i:Int) !=m)=false/\decide ((j:Int)>=(f:Int))=true):=by
       by_cases e:(i:Int)=m
       ·right;have:f<=j:=by rcases I with h|h;exact absurd e h;exact h
        exact⟨by simp[e],by simp;omega⟩
       left;simpa using e
      clear I;rcases hs with a5|⟨a5,bo⟩
      all_goals
       refine m0 ?_;intro yb ya;refine Xi (a6 _) ?_;rintro _ _ ⟨rfl,z⟩;(have aw:=z.B;have ah:=z.C;have bu:=((v.new _).put v.B _).trans z;have a4:=J.keep (J.put (J.new K _) _ _) z;have a3:=J.keep (J.put (J.new N _) _ _) z;have a0:=J.keep (J.put (J.new bi _) _ _) z;simp only[Ac,Aa]at aw ah);refine X ?_;refine⟨A,l,B,?_⟩;exact m9 HZ
    have HZ:V (B=Fg l/\l=Zv i m f w.a.ts x.2 (j+1)):=by
     obtain⟨D,C⟩:=y.o;exact⟨D,by rw[a1.o,if_neg (λh=>I h.1),C,EJ]⟩
    have a5:((i:Int) !=m)=false:=by
     cases h:(i:Int) !=m with
     |false=>rfl
     |true=>exact absurd (.inl (nn h)) I
    have bo:decide ((j:Int)>=(f:Int))=false:=by
     have:¬f<=j:=λh=>I (.inr h);simp;omega
    clear y a1 I;refine X ?_;refine⟨A,l,B,?_⟩
    ((repeat' refine Zi ?_ ?_)<;>first|exact Xq|exact (J.put (J.new K _) _ _)|exact (J.put (J.new N _) _ _)|exact (J.put (J.new bi _) _ _)|exact HZ|exact Xs)
   have cb:j=Z x.2:=L;subst cb;have HX:V (r Oa (n++[⟨w.a,l⟩]) (F++[Y (k:Int),X1 id w.a.ts,sl A (Z l) B])/\r O9 q G/\n++[⟨w.a,l⟩]=Pf M m f (o.A.take (i+1))/\q=Tv (o.A.take (i+1))):=by
    obtain⟨D,C,P,U⟩:=br.o;obtain⟨z1,z2⟩:=y.o;refine⟨r.append D (r.single ⟨id,A,by rw[hk,z1]⟩),C,?_,by rw[a2.o.2,if_neg (by rw[S];simp),EJ,U]⟩;rw[a2.o.1,if_neg (by rw[S];simp),P];congr 2;unfold oR Zq;simp only[HT.o];rw[z2];unfold Zv;rw[AS]
   clear y br a2;have ce:True->J g a u (Z n):=λ_=>K;clear K;refine nh ?_;intro yb ya;refine Ie (by first|exact F5|exact G6|exact Ee) v (ce trivial) nr (by rfl) b6 (by rfl) (by rfl) nr L L ?_;intro ae aj ai af ac aa ad ab T;obtain⟨ay,bb⟩:=T E (Z q) N b9;refine Z3 ?_;refine X ?_;refine⟨ae,E,n++[⟨w.a,l⟩],q,F++[Y (k:Int),X1 id w.a.ts,sl A (Z l) B],G,?_⟩
   ((repeat' refine Zi ?_ ?_)<;>first|exact Xq|exact (af.put L _)|exact (nn (J.put ai _ _))|exact (J.put ay _ _)|exact HX|exact Xs)
 have cc:i=Z o.A:=L;subst cc;obtain⟨D,C,P,U⟩:=hX.o;rw[AS]at P U;refine X ?_;exact⟨_,rfl,⟨_,rfl,ih,u,E,F,G,by first|(simp only[Mc];done)|(simp only[Mc];rw[P,U]),by simp only[Mc];rw[<-P];exact D,by simp only[Mc];rw[<-U];exact C⟩,v.put L _⟩
abbrev Nu:=Int->Int
def Ei (ν:Nu)(t:Tm):Int:=if t.1=true then ν t.2 else t.2
def B8 (a:Dx)(ν:Nu):Ck:=Ej (a.ts.map (Ei ν))
def Pd (ν:Nu)(v n:Int):Nu:=λw=>if w=v then n else ν w
theorem AO {a v}:Bm a v↔(true,v)∈a:=by simp[Bm]
def Ft {a ν ν'}(h:∀v,Bm a.ts v->ν v=ν' v):B8 a ν=B8 a ν':=by rw[B8];congr 1;apply CG;intro t c;unfold Ei;split;rename_i b;exact h t.2 (AO.2 (gp));rfl
theorem Ku {l i}(h:i<Z l)(d:Z l<=3):(Ej l)[i]?=some l[i]:=by
 match l,d with
 |[],_=>simp at h
 |[a],_=>simp at h;subst h;rfl
 |[a,b],_=>
  rcases (show i=0\/i=1 by simp at h;omega)with rfl|rfl<;>rfl
 |[a,b,c],_=>
  rcases (show i=0\/i=1\/i=2 by simp at h;omega)with rfl|rfl|rfl<;>rfl
def J5 {a ν v}(c:Z a.ts<=3)(d:Bm a.ts v):Iu (B8 a ν) (Jp a.ts v)=ν v:=by have b:=AO.1 d;have e:=idxOf_lt_length_iff.2 b;rw[Iu,Jp];rw[if_pos b,DK,B8,Ku (nn e) (nn c)];simp[Ei]
def Lq (a v n ν):B8 (Gg v n a) ν=B8 a (Pd ν v n):=by
 unfold B8 Gg Bt;congr 1;rw[BH];apply CG;intro t c;obtain⟨b,w⟩:=t;show Ei ν (aS v n (b,w))=Ei (Pd ν v n) (b,w);by_cases h:(b,w)=(true,v);cases h;simp[aS,Ei,Pd];rw[show aS v n (b,w)=(b,w)from if_neg h];cases b
 ·simp[Ei]
 have:w≠v:=λe=>h (gp);simp[Ei,Pd,this]
def CP {a v n w}:Bm (Gg v n a).ts w↔Bm a.ts w/\w≠v:=by rw[AO,AO];rw[Gg,Bt];rw[AN];constructor;rintro⟨t,c,e⟩;rw[aS]at e;split at e;cases e;rename_i b;subst e;exact⟨c,λe=>b (gp)⟩;rintro⟨h,b⟩;refine⟨(true,w),h,?_⟩;rw[aS];rw[if_neg (λe=>b (gp))]
def Mq (neg:Int->Ck->Prop)(q:AZ)(ν:Nu):Prop:=(∀p∈q.A,B8 p.a ν∈p.A)/\∀a∈q.B,¬neg a.p (B8 a ν)
def WP (q:AZ):Prop:=∀p∈q.A,Z p.a.ts<=3/\∀t∈p.A,∃a,t=B8 p.a a
def U7 {neg q v n ν}(i:WP q):Mq neg (Dl v n q) ν↔Mq neg q (Pd ν v n):=by
 have d:∀p∈q.A,(B8 (Iv v n p).a ν∈(Iv v n p).A↔B8 p.a (Pd ν v n)∈p.A):=λp d=>by
  rw[Iv];by_cases c:Bm p.a.ts v=true;rw[if_pos c];show B8 (Gg v n p.a) ν∈_↔_;rw[Lq,BP];constructor;exact λh=>h.1;intro h;refine⟨h,?_⟩;rw[J5 (i p d).1 c];simp[Pd];rw[if_neg c]
  rw[Ft (ν:=ν) (ν':=Pd ν v n) (λw j=>by grind[Pd])]
 rw[Mq,Dl];simp only[AN,forall_exists_index,and_imp,forall_apply_eq_imp_iff₂];constructor;rintro⟨g,f⟩;exact⟨λp b=>(d p b).1 (g p b),λa e=>by have:=f a e;rwa[Lq]at this⟩;rintro⟨g,f⟩;exact⟨λp b=>(d p b).2 (g p b),λa e=>by rw[Lq];exact f a e⟩
def gj {q v n}(j:WP q):WP (Dl v n q):=by intro p l;obtain⟨a,k,rfl⟩:=AN.1 l;let⟨d,g⟩:=j a k;rw[Iv];by_cases c:Bm a.a.ts v=true;rw[if_pos c];refine⟨by grind[Bt],λt b=>?_⟩;let⟨b,f⟩:=BP.1 b;obtain⟨i,rfl⟩:=g t b;refine⟨i,?_⟩;show _=B8 (Gg v n a.a) i;rw[Lq];apply Ft;intro w m;rw[Pd];by_cases e:w=v;subst e;rw[if_pos rfl];rw[J5 d c]at f;simpa using f;rw[if_neg e];rw[if_neg c];exact⟨d,g⟩
def XI {neg q v ν}(i:WP q):Mq neg (Ge q v) ν↔Mq neg q ν:=by rw[Mq,Ge];simp only[AN,forall_exists_index,and_imp,forall_apply_eq_imp_iff₂];constructor;rintro⟨b,e⟩;exact⟨λp a=>by have:=b p a;rw[Ti]at this;exact Rq _ _ _ _ this,e⟩;rintro⟨b,e⟩;refine⟨λp a=>?_,e⟩;rw[Ti];rw[G1];by_cases d:Bm p.a.ts v=true;rw[if_pos d,BP];refine⟨b p a,?_⟩;rw[J5 (i p a).1 d];rw[Eb];rw[CX];intro c g;by_cases f:Bm c.a.ts v=true;simp only[f,IY,MA,NZ,CU];exact⟨_,b c g,by rw[J5 (i c g).1 f];simp⟩;simp[f];rw[if_neg d];exact b p a
def gk {q v}(b:WP q):WP (Ge q v):=by intro p d;obtain⟨a,c,rfl⟩:=AN.1 d;rw[Ti];exact⟨(b a c).1,λt e=>(b a c).2 t (Rq _ _ _ t e)⟩
def CF.wp {q a}(h:CF q a)(c:WP q):WP a:=by
 induction h with
 |refl=>exact c
 |tail v _ b=>exact gk b
def CF.sol {neg q a}(h:CF q a)(c:WP q)(ν):Mq neg a ν↔Mq neg q ν:=by
 induction h with
 |refl=>exact Iff.rfl
 |tail v h b=>exact (XI (h.wp c)).trans b
def mY (q v):(Ge q v).A.map (·.a)=q.A.map (·.a):=by simp_all[Ge,BH,CG,Ti]
def CF.atoms {q a}(h:CF q a):a.A.map (·.a)=q.A.map (·.a)/\a.h=q.h/\a.B=q.B:=by
 induction h with
 |refl=>exact⟨rfl,rfl,rfl⟩
 |tail v _ b=>exact⟨(mY _ _).trans b.1,b.2.1,b.2.2⟩
def CF.atomsQ {q a}(h:CF q a):atomsQ a=atomsQ q:=by
 obtain⟨c,d,b⟩:=h.atoms;unfold Go.Proofs.YtmoeoppbmhfbpabGreatDoorJ.atomsQ;rw[c,d,b]
def NM (q:AZ):Prop:=∀v,∀a∈q.A,∀b∈q.A,Bm a.a.ts v->Bm b.a.ts v->∀t∈a.A,∃u∈b.A,Iu u (Jp b.a.ts v)=Iu t (Jp a.a.ts v)
def W1 (p l):Da (p::l)=Z p.A+Da l:=by simp[Da]
def Ub (Lqx v):∀l:List Part,Da (l.map (G1 Lqx v))<=Da l/\(Da l<=Da (l.map (G1 Lqx v))->l.map (G1 Lqx v)=l)
 |[]=>gp
 |p::l=>by
  let⟨g,e⟩:=Ub Lqx v l;have f:=mX Lqx v p;rw[CC,W1,W1];refine⟨L,λh=>?_⟩;rw[e L];congr 1;have b:Z p.A<=Z (G1 Lqx v p).A:=L;rw[G1]at b⊢;split;rename_i d;rw[if_pos d]at b;simp only at b
  have:=filter_eq_self.2 (λa c=>by
   have:=length_filter_eq_length_iff.1 (Nat.le_antisymm (IS _ _) b)
   exact this a c)
  rw[this];rfl
def xF (q v):Da (S9 q v).A<=Da q.A/\(Da q.A<=Da (S9 q v).A->S9 q v=q):=by rw[S9];split;let⟨a,b⟩:=Ub q.A v q.A;refine⟨a,λh=>?_⟩;rw[Ge];rw[b h];grind
def lJ:∀(vs:List Int) (q:AZ),Da (pH q vs).A<=Da q.A/\(Da q.A<=Da (pH q vs).A->pH q vs=q/\∀v∈vs,S9 q v=q)
 |[],q=>⟨AU _,λ_=>⟨rfl,nk⟩⟩
 |v::vs,q=>by let⟨i,d⟩:=xF q v;let⟨g,b⟩:=lJ vs (S9 q v);have e:pH q (v::vs)=pH (S9 q v) vs:=rfl;grind
def N4 {l v a}(b:a∈l)(c:Bm a.ts v):0<Dt l v:=MK.2 ⟨a,b,c⟩
def eX {α:Type}{f}:∀{l:List α} {x y:α},l.countP f<=1->x∈l->y∈l->f x->f y->x=y
 |[],x,y,_,a,_,_,_=>gp
 |z::l,x,y,h,a,c,fx,b=>by rw[MJ]at h;obtain d|g:=BD.1 a;obtain e2|e:=BD.1 c;rw[d,e2];rw[<-d,if_pos fx]at h;have:0<l.countP f:=MK.2 ⟨y,e,b⟩;omega;obtain e2|e:=BD.1 c;rw[<-e2,if_pos b]at h;have:0<l.countP f:=MK.2 ⟨x,g,fx⟩;omega;exact eX L g e fx b
def ft {q}(h:∀v∈Cs (atomsQ q),S9 q v=q):NM q:=by
 intro v b g x n f k t l;by_cases j:1<Dt (q.A.map (·.a)) v;have s:v∈Cs (atomsQ q):=(Dn _ _).2 ⟨b.a,by rw[Go.Proofs.YtmoeoppbmhfbpabGreatDoorJ.atomsQ];grind,AO.1 f⟩;have d:=h v s;rw[S9]at d;rw[if_pos j]at d;have p:q.A.map (G1 q.A v)=q.A:=congrArg AZ.A d;have y:G1 q.A v b=b:=by
  let⟨i,m⟩:=CL g;grind
 have c:t∈(G1 q.A v b).A:=gp
 rw[G1]at c;rw[if_pos f]at c;have:=(BP.1 c).2;rw[Eb]at this;rw[CX]at this;have:=this x n;simp only[k,IY,MA,NZ,CU]at this;let⟨u,z,e⟩:=this;exact⟨u,z,nn e⟩;have o:(q.A.map (·.a)).countP (λa=>Bm a.ts v)<=1:=by grind[Dt]
 rw[countP_map]at o;have:=eX o g n f k;subst this;exact⟨t,l,rfl⟩
end Go.Proofs.YtmoeoppbmhfbpabGreatDoorJ
