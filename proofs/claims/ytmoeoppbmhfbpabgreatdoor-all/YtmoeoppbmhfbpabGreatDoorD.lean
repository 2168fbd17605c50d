import Derived.Test.YtmoeoppbmhfbpabGreatDoorA
set_option maxHeartbeats 16000000
set_option maxRecDepth 100000
set_option linter.all false
open List
open List renaming length->Z
namespace Go.Proofs.YtmoeoppbmhfbpabGreatDoorJ
open Go.Abs Tryz
abbrev Tm:=Bool×Int
structure Dx where
 p:Int
 ts:List Tm
abbrev Ck:=List Int
def Js (t:Tm):oh:=[my t.1,Y t.2]
def Ad (a:List Tm):oh:=a.flatMap Js
abbrev X1 (i l):=sl i (Z l) (Ad l)
def Cx (ts):Z (Ad ts)=Z ts*2:=by
 induction ts with
 |nil=>rfl
 |cons a l b=>rw[Ad]at*;rw[DN,AX,b];simp[Js];omega
def Uj (ts x):Ad (ts++[x])=Ad ts++Js x:=by simp[Ad]
def C3 {b k w}(h:b[k]?=some w):∃g,(Ad b).drop (k*2)=my w.1::Y w.2::g:=by
 have f:∀b:List Tm,r (λw c=>c=Js w) b (Ad b):=by
  intro b;induction b with
  |nil=>rfl
  |cons a l d=>exact⟨Js a,Ad l,rfl,d,by simp[Ad]⟩
 obtain⟨c,g,rfl,e⟩:=r.get (z:=2) (λa c h=>by rw[h];rfl) (f b) h;exact⟨g,e⟩
def Jp (a:List Tm)(v:Int):Int:=if (true,v)∈a then (a.idxOf (true,v):Nat)else -1
def Y5 {α:Type}[BEq α][LawfulBEq α]{l:List α}{i x}(h:l[i]?=some x)(a:x∉l.take i):l.idxOf x=i:=by have b:=(BA.1 h).1;have:l=l.take i++l.drop i:=(KD i l).symm;rw[this,idxOf_append,if_neg a,CN,ER L,ET b];grind
def YQ {a:List Tm}{v i}(h:a[i]?=some (true,v))(b:(true,v)∉a.take i):Jp a v=i:=by rw[Jp];rw[if_pos (AY h),Y5 h b]
def K1 {a v}(b:(true,v)∉a):Jp a v= -1:=if_neg b
def Yl {α:Type}{l:List α}{i x y}(h:x∉l.take i)(b:l[i]?=some y)(a:y≠x):x∉l.take (i+1):=by rw[AT,b];grind
def Gw (p m ts v)(A:Z ts<=1000)(N):ni 217 [ag [Y p,X1 m ts],Y v] N λl b=>l=Y (Jp ts v)/\W N b:=by
 have x:=Cx ts;refine wl func217 ?_;refine X ?_
 refine wn [1,8,9] 10 (Z ts) (λi s b=>W N b/\V ((true,v)∉ts.take i)) ⟨Xs,by simp[V]⟩ ?_
 rintro i s b _ _ _ ⟨d,a⟩;by_cases n:i<Z ts
 ·obtain⟨w,c⟩:=gq n;obtain⟨l,k⟩:=C3 c;let⟨j,f⟩:=w;have g:V (ts[i]?=some (j,f)):=c;clear c;have y:=d.B
  repeat' first|refine Z1 ?_|refine Z8 λyb ya=>?_|refine Z4 ?_;clear ya yb|refine Z2 ?_ ?_<;>intro h t<;>try exact Xp|refine Z3 ?_|exact Zt|apply ya.o;clear ya yb
  ·have e:j/\f=v:=by simp_all
   obtain⟨rfl,rfl⟩:=e;exact⟨_,rfl,by rw[YQ g.o a.o],Xs⟩
  all_goals exact⟨Xs,Yl a.o g.o (by simp_all)⟩
 obtain rfl:i=Z ts:=L;rw[AS]at a;refine X ?_
 exact⟨_,rfl,by rw[K1 a.o]⟩
def Bm (a:List Tm)(v:Int):Bool:=decide ((true,v)∈a)
def YR (ts v):(Jp ts v != -1)=Bm ts v:=by grind[Jp,Bm]
def Lg (p e ts v)(a:Z ts<=1000)(N):ni 232 [ag [Y p,X1 e ts],Y v] N λf b=>f=my (Bm ts v)/\W N b:=by have d:=YR ts v;refine wl func232 ?_;refine mt (Gw _ _ _ _ a) ?_;rintro yb ya _ _ ⟨rfl,c⟩;refine X ?_;exact⟨_,rfl,rfl,Xs⟩
def Jz (a:List Tm):Bool:=a.all λt=>!t.1
def Pq (p m ts)(y:Z ts<=1000)(N):ni 131 [ag [Y p,X1 m ts]] N λl b=>l=my (Jz ts)/\W N b:=by
 have u:=Cx ts;refine wl func131 ?_;refine X ?_
 refine wn [6,7] 8 (Z ts) (λi s b=>W N b/\V (Jz (ts.take i))) ⟨Xs,by simp[V,Jz]⟩ ?_
 rintro i s b _ _ _ ⟨e,a⟩;by_cases g:i<Z ts;obtain⟨w,c⟩:=gq g;obtain⟨l,n⟩:=C3 c;have d:=(AY c);let⟨k,f⟩:=w;have j:V (ts[i]?=some (k,f)/\(k,f)∈ts):=⟨c,d⟩;clear c d;have v:=e.B;refine m6 ?_ ?_<;>intro h z
 exact⟨_,rfl,by
  have:Jz ts=false:=by
   rw[Jz];rw[IQ];exact⟨_,j.o.2,by simp_all⟩
  rw[this],Xs⟩
 exact⟨Xs,by
  have a:=a.o;rw[Jz]at a;rw[V,Jz,AT,j.o.1,all_append,a]
  simp_all⟩
 obtain rfl:i=Z ts:=L;rw[AS]at a;have a:=a.o;refine X ?_
 exact⟨_,rfl,rfl⟩
def Ej (l:List Int):Ck:=[(l[0]?).getD (-1),(l[1]?).getD (-1),(l[2]?).getD (-1)]
def As (t:List Int):oh:=t.map Y
abbrev X2 (i l):=sl i (Z l) (As l)
def Ue (p I ts)(E:Z ts<=1000)(N):ni 135 [ag [Y p,X1 I ts]] N λK a=>K=ag (As (Ej (ts.map (·.2))))/\W N a:=by
 have D:=Cx ts;have j:∃G:Nat->Int,(∀i,G i=((ts[i]?).map (·.2)).getD (-1))/\As (Ej (ts.map (·.2)))=[Y (G 0),Y (G 1),Y (G 2)]:=⟨λi=>((ts[i]?).map (·.2)).getD (-1),λ_=>rfl,by simp[As,Ej]⟩;let⟨G,c,g⟩:=j;refine wl func135 ?_;refine X ?_
 refine Ae (λm s a=>∃(i:Nat),m=3-i/\i<=3/\s 1=ptr N.B 0/\s 2=ptr (N.B+1) 0/\s 3=ptr (N.B+2) 0/\s 6=Y i/\W N a/\N.B+2<a.B/\a.C N.B=[Y p,X1 I ts]/\a.C (N.B+1)=[Y 0,Y 0,Y 0]/\a.C (N.B+2)=[Y (if 0<i then G 0 else 0),Y (if 1<i then G 1 else 0),Y (if 2<i then G 2 else 0)]) 3
  ⟨0,L,L,AG,AG,AG,rfl,Xs,by simp only[Aa,Ac];omega,?_,?_,?_⟩ ?_
 ·rw[Aj L,Ah AM,Ah AM,Ao]
 ·rw[Aj L,Ah AM,Be AM AM]
 ·rw[show N.B+2=N.B+1+1 from rfl,Ak];rfl
 rintro m s a ⟨i,rfl,C,A,x,z,B,l,o,q,t,e⟩;have v:=l.B;by_cases y:i<3
 ·by_cases n:i<Z ts
  ·have d:=AK n;obtain⟨K,f⟩:=C3 d;have b:=c i;rw[d]at b;generalize ts[i]=w at f d b;obtain⟨F,u⟩:=w;clear d c;simp only[GJ,MG]at b;rcases (show i=0\/i=1\/i=2 by omega)with rfl|rfl|rfl
   all_goals
    simp only[↓reduceIte,Nat.lt_irrefl,Nat.reduceLT,Nat.reduceMul,KY,JH]at e f b;refine X ?_
    first|exact⟨2,L,1,rfl,L,rfl,Xs,by simp[*]⟩|exact⟨1,L,2,rfl,L,rfl,Xs,by simp[*]⟩|exact⟨0,L,3,rfl,L,rfl,Xs,by simp[*]⟩
  have b:=c i;rw[FD L]at b;simp only[Option.map_none,Option.getD_none]at b;clear c;rcases (show i=0\/i=1\/i=2 by omega)with rfl|rfl|rfl
  all_goals
   simp only[↓reduceIte,Nat.lt_irrefl,Nat.reduceLT,Nat.reduceMul,KY,JH]at e b;refine X ?_
   first|exact⟨2,L,1,rfl,L,rfl,Xs,by simp[*]⟩|exact⟨1,L,2,rfl,L,rfl,Xs,by simp[*]⟩|exact⟨0,L,3,rfl,L,rfl,Xs,by simp[*]⟩
 have k:i=3:=L;subst k;simp only[↓reduceIte,Nat.reduceLT]at e;refine X ?_
 first|exact⟨_,rfl,by rw[g],Xs⟩|exact⟨_,rfl,rfl,Xs⟩
theorem B9 (l):Z (As l)=Z l:=by simp[As]
def D2 {l k n}(h:l[k]?=some n):∃d,(As l).drop k=Y n::d:=by have a:=(BA.1 h);let⟨c,b⟩:=a;refine⟨(As l).drop (k+1),?_⟩;rw[ET (by grind[B9])];simp[As,b]
def Fo (l):(As l).all flat:=by rw[CX];intro x a;obtain⟨n,-,rfl⟩:=AN.1 a;rfl
def H7 (v l id)(z:Z l<=100000)(N):ni 85 [Y v,X2 id l] N λj b=>j=Y (if v∈l then (l.idxOf v:Nat)else -1)/\W N b:=by
 have x:=B9 l;refine wl func85 ?_;refine X ?_
 refine wn [0,7,8] 9 (Z l) (λi s b=>W N b/\V (v∉l.take i)) ⟨Xs,by simp[V]⟩ ?_
 rintro i s b _ _ _ ⟨f,a⟩;by_cases k:i<Z l
 ·obtain⟨w,c⟩:=gq k;obtain⟨j,g⟩:=D2 c;have d:V (l[i]?=some w):=c;clear c;have u:=f.B
  refine m6 ?_ ?_<;>intro h t
  ·have e:w=v:=by simp_all
   subst e;exact⟨_,rfl,by rw[if_pos (AY d.o),Y5 d.o a.o]⟩
  all_goals exact Yl a.o d.o (by simp_all)
 obtain rfl:i=Z l:=L;rw[AS]at a;refine X ?_
 exact⟨_,rfl,by rw[if_neg a.o]⟩
def T7 (v)(l:List Int):((if v∈l then ((l.idxOf v:Nat):Int)else -1)== -1)=decide (v∉l):=gp
def L5 (p k ts l id)(o:Z ts<=1000)(C:Z l<=100000)(N):ni 225 [ag [Y p,X1 k ts],X2 id l] N λm b=>m=my (l.any (Bm ts))/\W N b:=by
 have F:=B9 l;apply wl func225;refine X ?_
 refine wn [2,7,8] 9 (Z l) (λi s b=>W N b/\N.B<b.B/\b.C N.B=[Y p,X1 k ts]/\V ((l.take i).any (Bm ts)=false)) ⟨Xs,AM,by rw[Ao],by simp[V]⟩ ?_
 rintro i s b _ _ _ ⟨a,q,y,c⟩;by_cases j:i<Z l;obtain⟨w,d⟩:=gq j;obtain⟨m,n⟩:=D2 d;have g:=(AY d);have f:V (l[i]?=some w/\w∈l):=⟨d,g⟩;clear d g;refine mt (Lg _ _ _ _ o) ?_;rintro yb ya _ _ ⟨rfl,e⟩;have u:=e.B;have t:=e.C;refine m6 ?_ ?_<;>intro h D
 first|exact⟨_,rfl,by rw[CU.2 ⟨w,f.o.2,nu⟩],a.trans e⟩|exact⟨_,rfl,by rw[CU.2 ⟨w,f.o.2,nu⟩]⟩
 exact⟨a.trans e,L,by
  rw[V,AT,f.o.1,MH,c.o]
  simp_all⟩
 obtain rfl:i=Z l:=L;rw[AS]at c;have c:=c.o;refine X ?_
 exact⟨_,rfl,rfl⟩
def gV (p k ts l id)(o:Z ts<=1000)(C:Z l<=100000)(N):ni 251 [ag [Y p,X1 k ts],X2 id l] N λm b=>m=my (l.all (Bm ts))/\W N b:=by
 have F:=B9 l;apply wl func251;refine X ?_
 refine wn [2,7,8] 9 (Z l) (λi s b=>W N b/\N.B<b.B/\b.C N.B=[Y p,X1 k ts]/\V ((l.take i).all (Bm ts))) ⟨Xs,AM,by rw[Ao],by simp[V]⟩ ?_
 rintro i s b _ _ _ ⟨a,q,y,c⟩;by_cases j:i<Z l;obtain⟨w,d⟩:=gq j;obtain⟨m,n⟩:=D2 d;have g:=(AY d);have f:V (l[i]?=some w/\w∈l):=⟨d,g⟩;clear d g;refine mt (Lg _ _ _ _ o) ?_;rintro yb ya _ _ ⟨rfl,e⟩;have u:=e.B;have t:=e.C;refine m6 ?_ ?_<;>intro h D
 first|exact⟨_,rfl,by rw[IQ.2 ⟨w,f.o.2,gp⟩],a.trans e⟩|exact⟨_,rfl,by rw[IQ.2 ⟨w,f.o.2,by simp_all⟩]⟩
 exact⟨a.trans e,L,by
  rw[V,AT,f.o.1,all_append,c.o]
  simp_all⟩
 obtain rfl:i=Z l:=L;rw[AS]at c;have c:=c.o;refine X ?_
 exact⟨_,rfl,rfl⟩
def Nv (l id)(B:Z l<=100000)(g:∀n∈l,0<=n/\n<=1000000)(N):ni 140 [X2 id l] N λq b=>q=Y l.sum/\W N b:=by
 have y:=B9 l;refine wl func140 ?_;refine X ?_
 refine Ae (λm s b=>∃i:Nat,m=Z l-i/\i<=Z l/\s 3=Y (l.take i).sum/\s 6=X2 id l/\s 7=Y (Z l)/\s 8=Y i/\W N b/\0<=(l.take i).sum/\(l.take i).sum<=i*1000000) (Z l)
  ⟨0,L,L,rfl,rfl,rfl,rfl,Xs,nk,nk⟩ ?_
 rintro m s b ⟨i,rfl,z,f,x,u,v,d,o,t⟩;by_cases e:i<Z l;have c:=AK e;let⟨q,j⟩:=D2 c;have k:=g l[i] (AR e);have a:V ((l.take (i+1)).sum=(l.take i).sum+l[i]):=by rw[V,AT,c];simp only[BN,sum_append,sum_cons,sum_nil];omega
 generalize l[i]=w at j c k a;clear c;generalize (l.take i).sum=p at f o t a;have A:=d.B;refine X ?_;exact⟨Z l-(i+1),L,i+1,rfl,L,by rw[a.o],nk,by rw[a.o];omega,by rw[a.o];omega⟩;obtain rfl:i=Z l:=L;rw[AS]at f;refine X ?_
 exact⟨_,rfl,rfl⟩
def aS (v n:Int)(t:Tm):Tm:=if t=(true,v)then (false,n)else t
def Bt (v n:Int)(a:List Tm):List Tm:=a.map (aS v n)
def qW {v n a}(h:Bm a v=false):Bt v n a=a:=by
 rw[Bt]
 conv=>rhs;rw[<-IE a]
 apply CG;intro t b;rw[aS];rw[if_neg];rfl;rintro rfl;simp[Bm]at h;exact h b
def Oz (p T ts v n)(R:Z ts<=1000)(N):ni 226 [ag [Y p,sl T (Z ts) (Ad ts)],Y v,Y n] N λM d=>(∃id,M=ag [Y p,sl id (Z (Bt v n ts)) (Ad (Bt v n ts))])/\W N d:=by
 have a6:=Cx ts;refine wl func226 ?_;refine mt (Lg _ _ _ _ R) ?_;rintro yb ya _ _ ⟨rfl,q⟩;have P:=q.B;have x:=q.C;(try simp only[Aa]at P x);refine m6 ?_ ?_<;>intro h ae;have e:=qW (n:=n) h;rw[e];exact⟨_,rfl,⟨_,rfl⟩,(((W.refl _).new _).new _).trans q|>.put L _⟩;rename_i z;have U:W N z:=(((W.refl _).new _).new _).trans q;have a2:=U.B;have Q:=x N.B L;have D:=x (N.B+1) L;rw[Ah AM,Ao]at Q;rw[Be AM AM]at D;clear x q;refine X ?_
 refine wn [1,2,6,7,19,20] 21 (Z ts) (λi s d=>∃(u:Nat) (f:oh),W N d/\z.B<d.B/\d.C (N.B+1)=[Y 0,H]/\d.C z.B=[Y p,sl u i f]/\J N d u i/\Z f=i*2/\V (f=Ad (Bt v n (ts.take i)))) ⟨1,[],Xs,BJ,?_,?_,J.nil _ _,nk,by simp[V,Bt,Ad]⟩ ?_
 rw[Aj L,Ah L];simp[D,cst1];rw[Ak];rintro i s d _ _ _ ⟨u,f,b,a0,a5,a3,B,C,j⟩;have ay:=b.B;by_cases S:i<Z ts;obtain⟨w,y⟩:=gq S;obtain⟨M,a4⟩:=C3 y;let⟨g,c⟩:=w;have A:V (Ad (Bt v n (ts.take (i+1)))=Ad (Bt v n (ts.take i))++Js (aS v n (g,c))):=by
  rw[V,AT,y];simp[Bt,Ad]
 clear y;by_cases o:g/\c=v;obtain⟨rfl,rfl⟩:=o;refine nh ?_;intro yb ya;refine hZ (((b.new _).put b.B _).put b.B _) ?_;intro a E k l K t I m;simp only[Ac,Aa]at t;refine X ?_;exact⟨a,f++[my false,Y n],l.put L _,L,rfl,J.put k _ _,by simp;omega,by rw[V,A.o,j.o];simp[aS,Js]⟩;have F:(g&&c==v)=false:=by
  cases g
  ·rfl
  simp at o⊢;exact o
 have G:V (aS v n (g,c)=(g,c)):=if_neg (nn o);clear o;cases g
 ·refine nh ?_;intro yb ya;refine Bo (by first|exact Gl) ((b.new _).put b.B _) (J.put (J.new B _) _ _) nr (by rfl) (C) (by rfl) (by rfl) nr L L ?_;intro a E k l K t I m;simp only[Ac,Aa]at t;refine Z3 ?_;refine X ?_;exact⟨a,f++[_,Y c],l.put L _,L,rfl,J.put k _ _,by simp;omega,by rw[V,A.o,j.o,G.o];rfl⟩
 have F:(c==v)=false:=nn F;refine nh ?_;intro yb ya;refine Bo (by first|exact Gl) ((b.new _).put b.B _) (J.put (J.new B _) _ _) nr (by rfl) (C) (by rfl) (by rfl) nr L L ?_;intro a E k l K t I m;simp only[Ac,Aa]at t;refine Z3 ?_;refine X ?_;exact⟨a,f++[_,Y c],l.put L _,L,rfl,J.put k _ _,by simp;omega,by rw[V,A.o,j.o,G.o];rfl⟩
 obtain rfl:i=Z ts:=L;have j:=j.o;rw[AS]at j;have a1:Z (Bt v n ts)=Z ts:=by simp[Bt]
 refine X ?_;exact⟨_,rfl,⟨u,by rfl⟩,b.put L _⟩
structure Part where
 a:Dx
 A:List Ck
structure AZ where
 h:Dx
 A:List Part
 B:List Dx
def Fg (l:List Ck):oh:=l.flatMap As
def T3 (l:List Ck):Prop:=∀t∈l,Z t=3
def J4 {l}(h:T3 l):Z (Fg l)=Z l*3:=by
 induction l with
 |nil=>rfl
 |cons a l b=>
  have d:=h a nk;have c:=b (λt e=>h t (ns e));rw[Fg]at*
  rw[DN,AX,c,B9,d];simp;omega
def Q9 (l t):Fg (l++[t])=Fg l++As t:=by simp[Fg]
def uQ {l k t}(d:T3 l)(h:l[k]?=some t):∃a b c j,t=[a,b,c]/\(Fg l).drop (k*3)=Y a::Y b::Y c::j:=by
 have g:∀l:List Ck,r (λt c=>c=As t/\t∈l) l (Fg l):=by
  intro l;induction l with
  |nil=>rfl
  |cons a l f=>exact⟨As a,Fg l,⟨rfl,nk⟩,r.mono (λt c h=>⟨h.1,gp⟩) f,by simp[Fg]⟩
 obtain⟨c,j,⟨rfl,-⟩,e⟩:=r.get (z:=3) (λa c h=>by rw[h.1,B9];exact d a h.2) (g l) h;have i:=d t (AY h)
 match t,i with
 |[a,b,c],_=>exact⟨a,b,c,j,rfl,by rw[e];rfl⟩
def O9 (a:Dx)(c:oh):Prop:=∃id,c=[Y a.p,X1 id a.ts]
def Oa (p:Part)(c:oh):Prop:=∃id a,c=[Y p.a.p,X1 id p.a.ts,sl a (Z p.A) (Fg p.A)]
def Iz (a c)(h:O9 a c):Z c=2:=by obtain⟨id,rfl⟩:=h;rfl
def Ex (a c)(h:Oa a c):Z c=3:=by obtain⟨id,b,rfl⟩:=h;rfl
def Ke {l cs i a}(h:r O9 l cs)(b:l[i]?=some a):∃id d,cs.drop (i*2)=Y a.p::X1 id a.ts::d:=by obtain⟨c,d,⟨id,rfl⟩,e⟩:=r.get Iz h b;exact⟨id,d,e⟩
def F0 {l cs i p}(h:r Oa l cs)(b:l[i]?=some p):∃id a d,cs.drop (i*3)=Y p.a.p::X1 id p.a.ts::sl a (Z p.A) (Fg p.A)::d:=by obtain⟨c,d,⟨id,a,rfl⟩,e⟩:=r.get Ex h b;grind
def EQ (q:AZ)(c:oh):Prop:=∃f e a b d,c=[Y q.h.p,X1 f q.h.ts,sl e (Z q.A) b,sl a (Z q.B) d]/\r Oa q.A b/\r O9 q.B d
structure Qt (q:AZ):Prop where
 hd:Z q.h.ts<=3
 pl:Z q.A<=64
 nl:Z q.B<=64
 pa:∀p∈q.A,Z p.a.ts<=3
 pt:∀p∈q.A,Z p.A<=5000
 p3:∀p∈q.A,T3 p.A
 na:∀a∈q.B,Z a.ts<=3
def Da (l:List Part):Nat:=(l.map λp=>Z p.A).sum
def qG (l p):Da (l++[p])=Da l+Z p.A:=by grind[Da]
def Yz (q c)(p:EQ q c)(g:Qt q)(N):ni 252 [ag c] N λm d=>m=Y (Da q.A:Nat)/\W N d:=by
 obtain⟨A,t,l,x,E,rfl,j,C⟩:=p;have v:=r.length Ex j;have I:=g.pl;refine wl func252 ?_;refine X ?_
 refine wn [7,8] 9 (Z q.A) (λi s d=>∃a:Nat,s 3=Y a/\W N d/\a<=i*5000/\V (a=Da (q.A.take i))) ⟨0,rfl,Xs,nk,by simp[V,Da]⟩ ?_
 rintro i s d _ _ _ ⟨a,D,e,K,b⟩;have B:=e.B;by_cases k:i<Z q.A;obtain⟨w,f⟩:=gq k;obtain⟨id,o,m,u⟩:=F0 j f;have y:=g.pt _ (AY f);have n:V (Da (q.A.take (i+1))=Da (q.A.take i)+Z w.A):=by rw[V,AT,f,BN,qG]
 clear f;refine X ?_;exact⟨a+Z w.A,nk,Xs,L,by rw[V,n.o,b.o]⟩;obtain rfl:i=Z q.A:=L;have b:=b.o;rw[AS]at b;subst b;refine X ?_
 exact⟨_,rfl,rfl⟩
def Dt (l:List Dx)(v:Int):Nat:=l.countP λa=>Bm a.ts v
def Ml (q c v)(u:EQ q c)(g:Qt q)(N):ni 254 [ag c,Y v] N λm e=>m=Y (Dt (q.A.map (·.a)) v:Nat)/\W N e:=by
 obtain⟨E,x,o,B,K,rfl,l,F⟩:=u;have A:=r.length Ex l;have M:=g.pl;refine wl func254 ?_;refine X ?_
 refine wn [1,9,10] 11 (Z q.A) (λi s e=>∃a:Nat,s 5=Y a/\W N e/\a<=i/\V (a=Dt ((q.A.take i).map (·.a)) v)) ⟨0,rfl,Xs,nk,by simp[V,Dt]⟩ ?_
 rintro i s e _ _ _ ⟨a,D,d,S,b⟩;have G:=d.B;by_cases n:i<Z q.A;obtain⟨w,f⟩:=gq n;obtain⟨id,t,m,z⟩:=F0 l f;have C:=g.pa _ (AY f);have k:V (Dt ((q.A.take (i+1)).map (·.a)) v=Dt ((q.A.take i).map (·.a)) v+if Bm w.a.ts v then 1 else 0):=by rw[V,AT,f,BN,EU,Dt,MI];simp[Dt,MJ]
 clear f;have y:Z w.a.ts<=1000:=L;refine mt (Lg _ _ _ _ y) ?_;rintro yb ya _ _ ⟨rfl,j⟩;have p:=j.B;have I:=((d.new _).put d.B _).trans j;refine m6 ?_ ?_<;>intro h P;exact⟨a+1,nk,L,by rw[V,k.o,b.o,if_pos nu]⟩;exact⟨a,nk,L,by rw[V,k.o,b.o,if_neg (by simp_all),GZ]⟩;obtain rfl:i=Z q.A:=L;have b:=b.o;rw[AS]at b;subst b;refine X ?_
 exact⟨_,rfl,rfl⟩
def atomsQ (q:AZ):List Dx:=q.h::(q.A.map (·.a)++q.B)
def Kd (q c)(a5:EQ q c)(F:Qt q)(N):ni 253 [ag c] N λp d=>∃id cs,p=sl id (Z (atomsQ q)) cs/\r O9 (atomsQ q) cs/\W N d:=by
 obtain⟨u,B,j,D,A,rfl,v,I⟩:=a5;have ab:=r.length Ex v;have ax:=r.length Iz I;have hl:=F.pl;have ay:=F.nl;refine wl func253 ?_;refine X ?_;have z:W N (N.new [Y q.h.p,X1 u q.h.ts,sl B (Z q.A) D,sl j (Z q.B) A]):=(W.refl _).new _
 refine Ae (λm s d=>∃(k e:Nat) (b:oh),m=Z q.A-k/\k<=Z q.A/\s 1=ptr N.B 0/\s 3=sl e (1+k) b/\s 12=sl B (Z q.A) D/\s 13=Y (Z q.A)/\s 14=Y k/\W N d/\N.B<d.B/\d.C N.B=[Y q.h.p,X1 u q.h.ts,sl B (Z q.A) D,sl j (Z q.B) A]/\J N d e (1+k)/\Z b=(1+k)*2/\V (r O9 (q.h::(q.A.take k).map (·.a)) b)) (Z q.A)
  ⟨0,_,_,L,L,AG,rfl,rfl,rfl,rfl,z.lay 1,by simp only[Az,Aa];omega,by rw[H6,Ao],J.made z nr,nk,r.single ⟨u,rfl⟩⟩ ?_
 rintro m s d ⟨k,e,b,rfl,S,a4,K,aw,av,au,f,ap,a2,o,n,i⟩;clear z;have P:=f.B;by_cases t:k<Z q.A;obtain⟨w,g⟩:=gq t;obtain⟨id,a9,p,C⟩:=F0 v g;have y:V (q.A[k]?=some w):=g;clear g;refine nh ?_;intro yb ya;refine hZ ((f.new _).put f.B _) ?_;intro l G x R Q U a1 a7;simp only[Ac,Aa]at U;have aa:G.C N.B=d.C N.B:=by rw[Q,Aj L,Ah L]
 refine X ?_;refine⟨Z q.A-(k+1),L,k+1,l,b++[Y w.a.p,X1 id w.a.ts],rfl,L,by simp[ID],nk,L,by simpa[ID]using x,by simp;omega,?_⟩;rw[V,AT,y.o];have:=r.append i.o (r.single (E:=O9) (a:=w.a) ⟨id,rfl⟩);simpa using this;obtain rfl:k=Z q.A:=L;rw[AS]at i;generalize T:Z q.A=M at*
 have a6:V _:=T;clear T t S;refine X ?_
 refine Ae (λm s d=>∃(k e:Nat) (b:oh),m=Z q.B-k/\k<=Z q.B/\s 3=sl e (1+M+k) b/\s 25=sl j (Z q.B) A/\s 26=Y (Z q.B)/\s 27=Y k/\W N d/\J N d e (1+M+k)/\Z b=(1+M+k)*2/\V (r O9 (q.h::(q.A.map (·.a)++q.B.take k)) b)) (Z q.B)
  ⟨0,e,b,L,L,AI,AI,AI,AG,f,nn o,nn n,nn i⟩ ?_
 clear i n o K a4 aw av au f ap a2 P;rintro m s d ⟨k,e,b,rfl,S,K,a3,a0,az,f,o,n,i⟩;have P:=f.B;by_cases t:k<Z q.B;obtain⟨w,g⟩:=gq t;obtain⟨id,p,C⟩:=Ke I g;have y:V (q.B[k]?=some w):=g;clear g;refine nh ?_;intro yb ya;refine hZ ((f.new _).put f.B _) ?_;intro l G x R Q U a1 a7;refine X ?_;refine⟨Z q.B-(k+1),L,k+1,l,b++[Y w.p,X1 id w.ts],rfl,L,by simp[ID],nk,by simpa[ID]using x,by simp;omega,?_⟩;rw[V,AT,y.o];have:=r.append i.o (r.single (E:=O9) (a:=w) ⟨id,rfl⟩);simpa using this;obtain rfl:k=Z q.B:=L;rw[AS]at i;have a8:Z (atomsQ q)=1+M+Z q.B:=by have:=a6.o;simp[atomsQ];omega
 refine X ?_;exact⟨_,rfl,e,b,by first|rfl|rw[a8],by simpa[atomsQ]using i.o⟩
def vF (acc:List Int)(t:Tm):List Int:=if t.1/\t.2∉acc then acc++[t.2]else acc
def Cs (l:List Dx):List Int:=(l.flatMap (·.ts)).foldl vF []
def gn (acc t):Z (vF acc t)<=Z acc+1:=by grind[vF]
theorem tP:∀(a:List Tm) (acc:List Int),Z (a.foldl vF acc)<=Z acc+Z a
 |[],acc=>nk
 |t::a,acc=>by have b:=tP a (vF acc t);have c:=gn acc t;grind
theorem tO:∀(a:List Tm) (acc:List Int) (v:Int),v∈a.foldl vF acc↔v∈acc\/(true,v)∈a
 |[],acc,v=>nk
 |t::a,acc,v=>by rw[FW,tO a];let⟨b,w⟩:=t;rw[vF];grind
def Dn (l v):v∈Cs l↔∃a∈l,(true,v)∈a.ts:=by simp_all[Cs,tO,EX]
theorem eO:∀(l:List Dx),(∀a∈l,Z a.ts<=3)->Z (l.flatMap (·.ts))<=Z l*3
 |[],_=>nk
 |a::l,h=>by have e:=h a nk;have d:=eO l (λb c=>h b (ns c));grind
def Fs {l}(h:∀a∈l,Z a.ts<=3):Z (Cs l)<=Z l*3:=by grind[tP,eO,Cs]
def Hy (l cs U)(Jqx:r O9 l cs)(T:∀a∈l,Z a.ts<=3)(hl:Z l<=200)(N):ni 150 [sl U (Z l) cs] N λE q=>(∃id,E=X2 id (Cs l))/\W N q:=by
 have a9:=r.length Iz Jqx;refine wl func150 ?_;refine X ?_
 refine wn [9,10] 11 (Z l) (λk s q=>∃(y:Nat) (e:List Int),s 3=X2 y e/\W N q/\J N q y (Z e)/\Z e<=k*3/\V (e=Cs (l.take k))) ⟨1,[],by simp[upd,As],Xs,J.nil _ _,nk,by simp[V,Cs]⟩ ?_
 rintro k s q _ ⟨a1,a2⟩ a0 ⟨y,e,D,c,o,I,v⟩;have G:=c.B;by_cases M:k<Z l
 ·obtain⟨a,f⟩:=gq M;obtain⟨a5,E,a4⟩:=Ke Jqx f;have hb:=T _ (AY f);have S:V (Cs (l.take (k+1))=a.ts.foldl vF (Cs (l.take k))):=by
   rw[V,AT,f];simp[Cs]
  clear f;have a7:=Cx a.ts;refine X ?_
  refine wn [9,10,11,16,17] 18 (Z a.ts) (λj s g=>∃(p:Nat) (b:List Int),s 3=X2 p b/\W N g/\J N g p (Z b)/\Z b<=k*3+j/\V (b=(a.ts.take j).foldl vF e)) ⟨y,e,AI,(c.new _).put c.B _,J.put (J.new o _) _ _,L,by simp[V]⟩ ?_
  rintro j s g _ _ _ ⟨p,b,D,c,o,I,u⟩;have G:=c.B;have a8:=B9 b;by_cases R:j<Z a.ts
  ·obtain⟨w,f⟩:=gq R;obtain⟨r2,a3⟩:=C3 f;let⟨K,d⟩:=w;have A:V ((a.ts.take (j+1)).foldl vF e=vF ((a.ts.take j).foldl vF e) (K,d)):=by
    rw[V,AT,f];simp
   clear f;have z:=T7 d b;have m:Z b<=100000:=L;cases K
   ·have t:V (vF b (false,d)=b):=by simp[V,vF]
    refine X ?_;refine⟨p,b,?_⟩
    ((repeat' refine Zi ?_ ?_)<;>first|exact Xq|exact (J.put (J.new o _) _ _)|exact (by rw[V,A.o,<-u.o,t.o])|exact Xs)
   by_cases i:d∈b
   ·have t:V (vF b (true,d)=b):=by simp[V,vF,i]
    have x:decide (d∉b)=false:=by simp[i]
    rw[x]at z;clear x i;refine m0 ?_;intro yb ya;refine Xi (H7 _ _ _ m _) ?_;rintro _ _ ⟨rfl,n⟩;(have F:=((c.new _).put c.B _).trans n;have C:=J.keep (J.put (J.new o _) _ _) n);refine X ?_;refine⟨p,b,?_⟩
    ((repeat' refine Zi ?_ ?_)<;>first|exact Xq|exact C|exact (by rw[V,A.o,<-u.o,t.o])|exact Xs)
   have t:V (vF b (true,d)=b++[d]):=by simp[V,vF,i]
   have x:decide (d∉b)=true:=by simp[i]
   rw[x]at z;clear x i;refine m0 ?_;intro yb ya;refine Xi (H7 _ _ _ m _) ?_;rintro _ _ ⟨rfl,n⟩;(have F:=((c.new _).put c.B _).trans n;have C:=J.keep (J.put (J.new o _) _ _) n;have P:=n.C _ (show g.B<_ by simp only[Ac,Aa];omega);rw[Ak]at P);refine m5 ?_;intro yb ya;intro B Nn Q ai af ab ae aa;refine X ?_;refine⟨B,b++[d],?_⟩
   ((repeat' refine Zi ?_ ?_)<;>first|exact Xq|exact (nn Q)|exact (by rw[V,A.o,<-u.o,t.o])|exact (by simp[As])|exact Xs)
  obtain rfl:j=Z a.ts:=L;rw[AS]at u;refine X ?_;refine⟨p,b,?_⟩
  ((repeat' refine Zi ?_ ?_)<;>first|exact Xq|exact (by rw[V,S.o,<-v.o,u.o])|exact Xs)
 obtain rfl:k=Z l:=L;have v:=v.o;rw[AS]at v;subst v;refine X ?_
 exact⟨_,rfl,_,rfl⟩
def N6 {q}(c:Qt q):∀a∈atomsQ q,Z a.ts<=3:=by intro a b;simp only[atomsQ,BD,AW,AN]at b;obtain rfl|⟨p,d,rfl⟩|b:=b;exact c.hd;exact c.pa p d;exact c.na a b
def Jv {q}(a:Qt q):Z (atomsQ q)<=129:=by have c:=a.pl;have b:=a.nl;simp[atomsQ];omega
def Dq (q:AZ)(v:Int):Bool:=decide (1<Dt (atomsQ q) v)
def R8 (q c v)(n:EQ q c)(f:Qt q)(N):ni 257 [ag c,Y v] N λk g=>k=my (Dq q v)/\W N g:=by
 have b:=λN=>Kd q c n f N;have F:=N6 f;have av:=Jv f;have D:∃u x y z,c=[u,x,y,z]/\c.all flat:=by
  obtain⟨U,T,E,pc,S,rfl,-,-⟩:=n;exact⟨_,_,_,_,rfl,rfl⟩
 obtain⟨u,x,y,z,rfl,ao⟩:=D;have B:V (Dq q v=decide (1<Dt (atomsQ q) v)):=rfl;generalize Dq q v=C at*
 clear n f;generalize atomsQ q=l at*
 refine wl func257 ?_;refine mt b ?_;rintro yb ya _ _ ⟨a3,m,rfl,A,e⟩;have ap:=r.length Iz A;have p:=((W.refl N).new _).trans e;refine X ?_
 refine wn [1,9,10] 11 (Z l) (λi s g=>∃a:Nat,s 5=Y a/\W N g/\a<=i/\V (a=Dt (l.take i) v)) ⟨0,rfl,p,nk,by simp[V,Dt]⟩ ?_
 clear p e;rintro i s g _ _ _ ⟨a,M,d,a0,b⟩;have Q:=d.B;by_cases o:i<Z l
 ·obtain⟨w,j⟩:=gq o;obtain⟨id,k,G⟩:=Ke A j;have K:=F _ (AY j);have t:V (Dt (l.take (i+1)) v=Dt (l.take i) v+if Bm w.ts v then 1 else 0):=by
   rw[V,AT,j,BN,Dt,MI];simp[Dt,MJ]
  clear j;have I:Z w.ts<=1000:=L;refine mt (Lg _ _ _ _ I) ?_;rintro yb ya _ _ ⟨rfl,e⟩;have P:=e.B;have a2:=((d.new _).put d.B _).trans e;refine m6 ?_ ?_<;>intro h a1
  ·refine⟨a+1,?_⟩
   ((repeat' refine Zi ?_ ?_)<;>first|exact Xq|exact (by rw[V,t.o,b.o,if_pos nu])|exact Xs)
  refine⟨a,?_⟩
  ((repeat' refine Zi ?_ ?_)<;>first|exact Xq|exact (by rw[V,t.o,b.o,if_neg (by simp_all),GZ])|exact Xs)
 obtain rfl:i=Z l:=L;have b:=b.o;rw[AS]at b;subst b;have R:decide ((Dt l v:Int)>1)=C:=by rw[B.o];congr 1;apply propext;omega
 refine X ?_
 exact⟨_,rfl,rfl⟩
def Lb (q:AZ):Nat->List Int->Bool
 |_,[]=>true
 |n,v::a=>if Dq q v=true then (if 1<n+1\/Dt (q.A.map (·.a)) v=1 then false else Lb q (n+1) a)else Lb q n a
def idleB (q:AZ)(a:Dx):Bool:=Lb q 0 (Cs [a])
def vR (l v):Dt l v<=Z l:=countP_le_length
def sH (q c a id)(Jqx:Z a.ts<=3)(C:EQ q c)(z:Qt q)(N):ni 266 [ag c,ag [Y a.p,X1 id a.ts]] N λP g=>P=my (idleB q a)/\W N g:=by
 have t:=λv N=>R8 q c v C z N;have R:=λv N=>Ml q c v C z N;have Q:∀v,Dt (q.A.map (·.a)) v<=64:=λv=>by
  have U:=vR (q.A.map (·.a)) v;have aa:=z.pl;simp at U;omega
 have T:∃B x D E,c=[B,x,D,E]/\c.all flat:=by
  obtain⟨ih,ip,ab,pc,nc,rfl,-,-⟩:=C;exact⟨_,_,_,_,rfl,rfl⟩
 obtain⟨B,x,D,E,rfl,a6⟩:=T;have m:=λ(i:Nat) (N:St)=>Hy [a] [Y a.p,X1 id a.ts] i (r.single ⟨id,rfl⟩) (by simp;exact Jqx) nk N;have a2:=Fs (l:=[a]) (by simp;exact Jqx);have a0:V (idleB q a=Lb q 0 (Cs [a])):=rfl;generalize idleB q a=e at*
 generalize Cs [a]=b at*
 have a4:=B9 b;simp only[BQ,CQ]at a2 m;refine wl func266 ?_;refine mt (m _) ?_;rintro yb ya _ _ ⟨⟨ac,rfl⟩,d⟩;have G:=((((W.refl N).new _).new _).lay 1).trans d;have p:=d.B;have k:=d.C;(try simp only[Az,Aa]at p k);refine X ?_;rename_i N1;have A:=k N.B L;rw[H6,Ah AM,Ao]at A;clear k d
 refine wn [2,10,11] 12 (Z b) (λi s g=>∃n:Nat,s 5=Y n/\W N g/\N.B<g.B/\g.C N.B=[B,x,D,E]/\n<=i/\V (e=Lb q n (b.drop i))) ⟨0,AG,G,L,A,nk,by simpa[V]using a0.o⟩ ?_
 clear G A p;rintro i s g _ _ _ ⟨n,h5,j,a5,ob,b1,o⟩;have a3:=j.B;by_cases F:i<Z b
 ·have I:=AK F;let⟨P,S⟩:=D2 I;have u:V (b.drop i=b[i]::b.drop (i+1)):=ET F;generalize b[i]=v at S u;clear I;have a7:=Q v;have f:V (e=if Dq q v=true then (if 1<n+1\/Dt (q.A.map (·.a)) v=1 then false else Lb q (n+1) (b.drop (i+1)))else Lb q n (b.drop (i+1))):=by
   rw[V,o.o,u.o,Lb]
  clear o u;cases K:Dq q v
  ·have f:V (e=Lb q n (b.drop (i+1))):=by rw[V,f.o,K];simp
   refine m0 ?_;intro yb ya;refine Xi (t _ _) ?_;rintro _ _ ⟨rfl,d⟩;(have p:=d.B;have k:=d.C;have M:=j.trans d);refine X ?_;refine⟨n,?_⟩;exact m8
  generalize a8:Dt (q.A.map (·.a)) v=a1 at*
  have f:V (e=if 1<n+1\/a1=1 then false else Lb q (n+1) (b.drop (i+1))):=by rw[V,f.o,K];simp
  repeat' first|refine Z1 ?_|refine Z8 λyb ya=>?_|refine Z4 ?_;clear ya yb|refine Z2 ?_ ?_<;>intro h ae<;>try exact Xp|(refine Z5 ?_;first|(refine Xi (t _ _) ?_;rintro _ _ ⟨rfl,d⟩;(have p:=d.B;have k:=d.C;have M:=j.trans d))|(refine Xi (R _ _) ?_;rintro _ _ ⟨rfl,y⟩;(have av:=y.B;have au:=y.C;have a9:=M.trans y)))|refine Z3 ?_|exact Zt|apply ya.o;clear ya yb
  ·have:e=false:=by
    rw[f.o,if_pos];right;simp only[DO]at h;omega
   exact⟨_,rfl,by rw[this]⟩
  ·have:e=Lb q (n+1) (b.drop (i+1)):=by
    rw[f.o,if_neg];simp only[beq_eq_false_iff_ne,ne_eq]at h;omega
   refine⟨n+1,?_⟩;exact m9 this
  have:e=false:=by
   rw[f.o,if_pos];left;omega
  exact⟨_,rfl,by rw[this]⟩
 obtain rfl:i=Z b:=L;have o:e:=by rw[o.o,IZ];rfl
 subst o;refine X ?_
 exact⟨_,rfl,rfl⟩
def F2 (q:AZ):AZ:={q with A:=q.A.eraseP λp=>idleB q p.a}
def oA {α:Type}(f:α->Bool)(l w):(l++[w]).eraseP f=if l.any f=true then l.eraseP f++[w]else if f w=true then l else l++[w]:=by by_cases h:l.any f=true;rw[if_pos h];rw[CU]at h;let⟨x,e,a⟩:=h;exact eraseP_append_left a _ e;rw[if_neg h];have g:∀b∈l,¬f b:=λb d a=>h (CU.2 ⟨b,d,a⟩);rw[eraseP_append_right _ g];by_cases c:f w=true;simp[c];simp[c]
def yT {α:Type}(f:α->Bool)(l):Z (l.eraseP f)<=Z l:=length_eraseP_le
def kF {q}(h:Qt q):Qt (F2 q):=by have b:∀p∈(F2 q).A,p∈q.A:=λp a=>mem_of_mem_eraseP a;have c:Z (F2 q).A<=Z q.A:=yT _ _;exact⟨h.hd,BI c h.pl,h.nl,λp a=>h.pa p (b p a),λp a=>h.pt p (b p a),λp a=>h.p3 p (b p a),h.na⟩
def nZ (q c)(a1:EQ q c)(M:Qt q)(u):ni 256 [ag c] u λa7 f=>(∃U,a7=ag U/\EQ (F2 q) U)/\W u f:=by
 have a2:=a1;obtain⟨G,ac,v,ae,K,rfl,P,hN⟩:=a1;have ah:=r.length Ex P;have hl:=M.pl;have z:=λ(a:Dx) (id:Nat) (T:Z a.ts<=3) u=>sH q _ a id T a2 M u;clear a2;refine wl func256 ?_;refine X ?_
 refine wn [1,2,3,13,14] 15 (Z q.A) (λk a8 f=>∃(E:Nat) (d:Bool) (o:List Part) (e:oh),a8 4=my d/\W u f/\u.B+2<f.B/\f.C u.B=[Y q.h.p,X1 G q.h.ts,sl ac (Z q.A) ae,sl v (Z q.B) K]/\f.C (u.B+1)=[Y 0,H,H,H]/\f.C (u.B+2)=[Y q.h.p,X1 G q.h.ts,sl E (Z o) e,sl v (Z q.B) K]/\J u f E (Z o)/\Z o<=k/\Z e=Z o*3/\V (r Oa o e/\d=(q.A.take k).any (λp=>idleB q p.a)/\o=(q.A.take k).eraseP λp=>idleB q p.a)) ⟨1,false,[],[],AG,Xs,BJ,?_,?_,?_,J.nil _ _,nk,nk,⟨rfl,nk,nk⟩⟩ ?_
 ·rw[Aj L,Ah AM,Ah AM,Ao]
 ·rw[Aj L,Ah AM,Be AM AM]
 ·rw[show u.B+2=u.B+1+1 by omega,Ak];simp
 rintro k a8 f _ _ _ ⟨E,d,o,e,h4,l,a6,a3,a0,az,s,a5,av,t⟩;have a4:=l.B;by_cases aa:k<Z q.A
 ·obtain⟨w,F⟩:=gq aa;obtain⟨id,b,a7,hd⟩:=F0 P F;have hb:=M.pa _ (AY F);have y:V ((q.A.take (k+1)).eraseP (λp=>idleB q p.a)=if (q.A.take k).any (λp=>idleB q p.a)=true then (q.A.take k).eraseP (λp=>idleB q p.a)++[w]else if idleB q w.a=true then q.A.take k else q.A.take k++[w]):=by
   rw[V,AT,F,BN,oA]
  have B:V ((q.A.take (k+1)).any (λp=>idleB q p.a)=((q.A.take k).any (λp=>idleB q p.a)||idleB q w.a)):=by
   rw[V,AT,F,BN,MH];simp
  have C:V ((q.A.take k).any (λp=>idleB q p.a)=false->(q.A.take k).eraseP (λp=>idleB q p.a)=q.A.take k):=λh=>eraseP_of_forall_not (λa T hf=>by
   rw[EV]at h
   exact h a T hf)
  clear F;have z:=z w.a id hb;cases d
  ·cases A:idleB q w.a with
   |true=>
    have D:V (r Oa o e/\true=(q.A.take (k+1)).any (λp=>idleB q p.a)/\o=(q.A.take (k+1)).eraseP λp=>idleB q p.a):=by
     obtain⟨n,g,j⟩:=t.o;refine⟨n,?_,?_⟩
     ·rw[B.o,<-g,A];rfl
     rw[y.o,if_neg (by rw[<-g];simp),if_pos A,j,C.o g.symm]
    clear t y B C;rw[A]at z;refine m0 ?_;intro yb ya;refine Xi (z _) ?_;rintro _ _ ⟨rfl,i⟩;(have m:=i.B;have S:=i.C;have ay:=((l.new _).put l.B _).trans i;have ax:=J.keep (J.put (J.new s _) _ _) i;simp only[Ac,Aa]at m S);refine X ?_;refine⟨E,true,o,e,?_⟩;exact m9 D
   |false=>
    have D:V (r Oa (o++[w]) (e++[Y w.a.p,X1 id w.a.ts,sl b (Z w.A) (Fg w.A)])/\false=(q.A.take (k+1)).any (λp=>idleB q p.a)/\o++[w]=(q.A.take (k+1)).eraseP λp=>idleB q p.a):=by
     obtain⟨n,g,j⟩:=t.o;refine⟨r.append n (r.single ⟨id,b,rfl⟩),?_,?_⟩
     ·rw[B.o,<-g,A];rfl
     rw[y.o,if_neg (by rw[<-g];simp),if_neg (by rw[A];simp),j,C.o g.symm]
    clear t y B C;rw[A]at z;refine m0 ?_;intro yb ya;refine Xi (z _) ?_;rintro _ _ ⟨rfl,i⟩;(have m:=i.B;have S:=i.C;have ay:=((l.new _).put l.B _).trans i;have ax:=J.keep (J.put (J.new s _) _ _) i;simp only[Ac,Aa]at m S);refine m5 ?_;intro yb ya;intro x R N I Q a9 ad ab;refine X ?_;refine⟨x,false,o++[w],e++[Y w.a.p,X1 id w.a.ts,sl b (Z w.A) (Fg w.A)],?_⟩
    ((repeat' refine Zi ?_ ?_)<;>first|exact Xq|exact (I.put L _)|exact (nn (J.put N _ _))|exact D|exact Xs)
  have D:V (r Oa (o++[w]) (e++[Y w.a.p,X1 id w.a.ts,sl b (Z w.A) (Fg w.A)])/\true=(q.A.take (k+1)).any (λp=>idleB q p.a)/\o++[w]=(q.A.take (k+1)).eraseP λp=>idleB q p.a):=by
   obtain⟨n,g,j⟩:=t.o;refine⟨r.append n (r.single ⟨id,b,rfl⟩),?_,?_⟩
   ·rw[B.o,<-g];rfl
   rw[y.o,if_pos g.symm,j]
  clear t y B C;refine nh ?_;intro yb ya;refine Bo (by first|exact Ee) ((l.new _).put l.B _) (J.put (J.new s _) _ _) nr (by rfl) (av) (by rfl) (by rfl) nr L L ?_;intro x R N I Q a9 ad ab;have af:∀p,p<f.B->R.C p=f.C p:=λp hp=>by rw[Q,Aj L,Ah L]
  refine Z3 ?_;refine X ?_;refine⟨x,true,o++[w],e++[Y w.a.p,X1 id w.a.ts,sl b (Z w.A) (Fg w.A)],?_⟩
  ((repeat' refine Zi ?_ ?_)<;>first|exact Xq|exact (I.put L _)|exact (nn (J.put N _ _))|exact D|exact Xs)
 obtain rfl:k=Z q.A:=L;obtain⟨n,-,j⟩:=t.o;rw[AS]at j;refine X ?_;exact⟨_,rfl,⟨_,rfl,G,E,v,e,K,by rw[F2,<-j],by rw[F2,<-j];exact n,hN⟩,l.put L _⟩
inductive EA (q:AZ):AZ->Prop where
 |refl:EA q q
 |tail {q':AZ}:EA q q'->EA q (F2 q')
def sD (q c)(Lqx:EQ q c)(y:Qt q)(u):ni 221 [ag c] u λT d=>(∃A x,T=ag A/\EQ x A/\Qt x/\EA q x)/\W u d:=by
 obtain⟨z,C,g,E,B,rfl,n,o⟩:=Lqx;have D:=y.pl;apply wl func221;refine X ?_
 refine Ae (λm s d=>∃(a:AZ) (l:oh),s 1=ptr u.B 0/\s 2=ptr (u.B+1) 0/\s 3=Y m/\m<=65/\W u d/\u.B+1<d.B/\d.C u.B=l/\d.C (u.B+1)=[Y 0,H,H,H]/\EQ a l/\V (Qt a/\EA q a)) (Z q.A+1)
  ⟨q,_,AG,AG,AG,L,Xs,AM,rfl,?_,⟨z,C,g,E,B,?_,n,o⟩,y,.refl⟩ ?_
 ·rw[Be AM AM]
 ·rw[Ah AM,Ao]
 rintro m s d ⟨a,l,a0,P,R,M,p,a2,N,a1,F,e⟩;have v:=F;obtain⟨z,C,g,E,B,rfl,n,o⟩:=F;have G:=λu=>nZ a _ v e.o.1 u;have K:V _:=v;clear v;have D:=e.o.1.pl;by_cases a4:Z a.A<m
 ·refine mt G ?_;rintro yb ya _ _ ⟨⟨_,rfl,j,i,b,f,k,rfl,Q,S⟩,t⟩;have U:=t.B;have a3:=t.C;have I:=p.trans t;refine X ?_
  refine⟨Z a.A,L,F2 a,[Y (F2 a).h.p,sl j (Z (F2 a).h.ts) (Ad (F2 a).h.ts),sl i (Z (F2 a).A) f,sl b (Z (F2 a).B) k],?_⟩
  ((repeat' refine Zi ?_ ?_)<;>first|exact Xq|exact (I.put L _)|exact (⟨j,i,b,f,k,rfl,Q,S⟩)|exact (⟨kF e.o.1,.tail e.o.2⟩)|exact Xs)
 refine X ?_;exact⟨_,rfl,⟨_,a,rfl,K.o,e.o.1,e.o.2⟩,p.put L _⟩
def Io {t}(h:Z t=3):Z (As t)=3:=by rw[B9,h]
def Ow {t}(h:Z t=3)(a):take 3 (As t++a)=As t:=by rw[take_append_of_le_length (Io h▸AU _),FZ (Io h▸AU _)]
def Jm {t}(h:Z t=3):take 3 (As t)=As t:=FZ (Io h▸AU _)
def Qj {t}(h:Z t=3)(x y z):lsp [x,y,z] 0 (As t)=As t:=by
 match t,h with
 |[a,b,c],_=>rfl
def eM {t}(h:Z t=3)(a):3<=Z (As t++a):=by rw[AX,Io h];omega
def Qk {t}{i:Nat}{x}(h:t[i]?=some x):(As t)[i]?=some (Y x):=by simp[As,h]
def Ux (a:List Tm)(t:Ck)(i:Nat):Bool:=match a[i]?,t[i]? with
 |some (false,n),some x=>x==n
 |some (true,v),some x=>x==(t[(Jp a v).toNat]?).getD 0
 |_,_=>false
def Mp (a:List Tm)(t:Ck):Bool:=(range (Z a)).all (Ux a t)
def sI (p m ts t)(N:Z t=3)(hn:Z ts<=3)(u):ni 185 [ag [Y p,X1 m ts],ag (As t)] u λa1 a=>a1=my (Mp ts t)/\W u a:=by
 have a3:=Cx ts;have a7:=Io N;have a6:=Jm N;have aw:Z ts<=1000:=L;have a9:∀i,i<Z ts->Ux ts t i=false->Mp ts t=false:=λi a8 h=>by
  unfold Mp;rw[IQ];exact⟨i,nn a8,by rw[h];simp⟩
 refine wl func185 ?_;refine X ?_
 refine wn [2,3,8,9] 10 (Z ts) (λi ad a=>W u a/\u.B+1<a.B/\a.C u.B=[Y p,X1 m ts]/\a.C (u.B+1)=As t/\V (∀j,j<i->Ux ts t j)) ⟨Xs,AM,?_,?_,λj F=>L⟩ ?_
 ·rw[Ah AM,Ao]
 ·rw[Be AM AM]
 rintro i ad a _ _ _ ⟨g,a4,av,P,C⟩;have a0:=g.B;by_cases S:i<Z ts
 ·obtain⟨w,q⟩:=gq S;obtain⟨a1,hd⟩:=C3 q;have v:t[i]?=some t[i]:=AK L;have ab:=Qk v;generalize t[i]=x at v ab;let⟨w1,f⟩:=w;have R:V (Ux ts t i->∀j,j<i+1->Ux ts t j):=λh j F=>by
   by_cases e:j=i
   ·subst e;exact h
   exact C.o j L
  have I:V (Ux ts t i=false->Mp ts t=false):=a9 i S;cases w1
  ·have z:V (Ux ts t i=(x==f)):=by rw[V,Ux,q,v]
   clear q v C;refine X ?_;refine Ax Ag (λ_=>True) [] [0,1,2,3,4,5,6,7,8,9,10] [] AH (λ_ _ _ h=>h) ?_;intro yb ya;refine m6 ?_ ?_<;>intro h aa
   ·exact⟨_,rfl,by rw[I.o (by rw[z.o];simp only[bne_iff_ne,ne_eq]at h;simp[h])],(g.new _).put g.B _⟩
   have T:W u ((a.new [my false,Y 0]).put a.B [my false,Y f]):=(g.new _).put g.B _;have A:∀p,p<a.B->((a.new [my false,Y 0]).put a.B [my false,Y f]).C p=a.C p:=λp hp=>by rw[Aj L,Ah L]
   refine A2 (Q:=λe b c=>e= .normal/\b 39=my false/\b 2=ptr u.B 0/\b 3=ptr (u.B+1) 0/\b 8=X1 m ts/\b 9=Y (Z ts)/\b 10=Y i/\c=(a.new [my false,Y 0]).put a.B [my false,Y f]) ?_ ?_
   ·refine Ar Ag (λ_=>True) [] [0,1,2,3,4,5,6,7,8] 5 (nv 14 511) AH (λ_ _ _ h=>by cases h.1) ?_;intro yb ya;refine Z3 ?_;refine ya.o _ ?_;clear ya yb;refine Ai (i:=9) AH ?_;refine Am ?_;intro yb ya;refine Z3 ?_;refine ya.o _ _ ⟨kept_refl,?_⟩;clear ya yb;refine Df [10,11,12,13] AH AH (λ_ _ _ h=>by cases h.1) (AU _) (λo M _=>rfl) ?_;intro yb ya;refine Z3 ?_;refine ya.o _ _ ⟨rfl,?_⟩;simp[upd, *]
   rintro e b c ⟨rfl,d,g2,ac,g8,g9,a2,rfl⟩;refine De d ?_;refine X ?_;skip
   ((repeat' refine Zi ?_ ?_)<;>first|exact Xq|exact (R.o (by rw[z.o];simpa using h))|exact Xs)
  obtain⟨s,ah,K⟩:∃k:Nat,k<Z ts/\Jp ts f=(k:Int):=by
   have E:=AY q;exact⟨ts.idxOf (true,f),idxOf_lt_length_iff.2 E,if_pos E⟩
  have D:t[s]?=some t[s]:=AK L;have ay:=Qk D;generalize t[s]=y at D ay;have z:V (Ux ts t i=(x==y)):=by rw[V,Ux,q,v];simp[K,D]
  clear q v C D;have U:=λu=>Gw p m ts f aw u;rw[K]at U;refine X ?_;refine Ax Ag (λ_=>True) [] [0,1,2,3,4,5,6,7,8,9,10] [] AH (λ_ _ _ h=>h) ?_;intro yb ya;refine X ?_;have T:W u ((a.new [my false,Y 0]).put a.B [my true,Y f]):=(g.new _).put g.B _;have A:∀p,p<a.B->((a.new [my false,Y 0]).put a.B [my true,Y f]).C p=a.C p:=λp hp=>by rw[Aj L,Ah L]
  refine A2 (Q:=λe b c=>e= .normal/\b 39=my (x !=y)/\b 2=ptr u.B 0/\b 3=ptr (u.B+1) 0/\b 8=X1 m ts/\b 9=Y (Z ts)/\b 10=Y i/\W ((a.new [my false,Y 0]).put a.B [my true,Y f]) c) ?_ ?_
  ·refine Ar Ag (λ_=>True) [] [0,1,2,3,4,5,6,7,8] 5 (nv 14 511) AH (λ_ _ _ h=>by cases h.1) ?_;intro yb ya;refine Z3 ?_;refine ya.o _ ?_;clear ya yb;refine Ai (i:=9) AH ?_;refine Am ?_;intro yb ya;refine Z3 ?_;refine AF.mono (U _) ?_;rintro _ u5 ⟨rfl,l⟩;refine Z3 ?_;refine ya.o _ _ ⟨Al l,?_⟩;clear ya yb;have G:=l.B;have n:=l.C;simp only[Ac,Aa]at G n;have o5:u5.C (u.B+1)=As t:=by rw[n _ L,A _ L,P]
   refine Df [10,11,12,13] AH AH (λ_ _ _ h=>by cases h.1) l.B (λo M _=>l.ver o M) ?_;intro yb ya;refine Z3 ?_;refine ya.o _ _ ⟨rfl,?_⟩;simp[upd, *]
  rintro e b c ⟨rfl,d,g2,ac,g8,g9,a2,l⟩;have G:=l.B;have n:=l.C;simp only[Ac,Aa]at G n;have a5:=T.trans l;have af:c.C u.B=[Y p,X1 m ts]:=by rw[n _ L,A _ L,av]
  have ai:c.C (u.B+1)=As t:=by rw[n _ L,A _ L,P]
  clear n A;cases B:x !=y with
  |true=>
   rw[B]at d;refine Cj d ?_;refine X ?_;exact⟨_,rfl,by rw[I.o (by rw[z.o];simp only[bne_iff_ne,ne_eq]at B;simp[B])]⟩
  |false=>
   rw[B]at d;refine De d ?_;refine X ?_;skip
   ((repeat' refine Zi ?_ ?_)<;>first|exact Xq|exact (R.o (by rw[z.o];simpa using B))|exact Xs)
 obtain rfl:i=Z ts:=L;have ae:Mp ts t:=by
  unfold Mp;rw[CX];intro j F;exact C.o j (nn F)
 refine X ?_
 exact⟨_,rfl,rfl⟩
def Kw {l k t}(d:T3 l)(h:l[k]?=some t):Z t=3/\∃f,(Fg l).drop (k*3)=As t++f:=by obtain⟨a,b,c,f,rfl,e⟩:=uQ d h;exact⟨rfl,f,by rw[e];rfl⟩
def Iu (t:Ck)(k:Int):Int:=(t[k.toNat]?).getD 0
def K3 {a v}(h:Bm a v):∃k:Nat,k<Z a/\Jp a v=(k:Int):=by
 have b:(true,v)∈a:=by simpa[Bm]using h
 exact⟨a.idxOf (true,v),idxOf_lt_length_iff.2 b,if_pos b⟩
def Iv (v n:Int)(p:Part):Part:=if Bm p.a.ts v=true then⟨⟨p.a.p,Bt v n p.a.ts⟩,p.A.filter λt=>Iu t (Jp p.a.ts v)==n⟩else p
def Em {α:Type}(f:α->Bool)(l x):(l++[x]).filter f=l.filter f++if f x=true then [x]else []:=by rw[IR];by_cases h:f x=true<;>simp[h]
def sE (p id a0 v n)(ha:Z p.a.ts<=3)(ht:Z p.A<=5000)(Q:T3 p.A)(u):ni 227 [ag [Y p.a.p,X1 id p.a.ts,sl a0 (Z p.A) (Fg p.A)],Y v,Y n] u λa2 b=>(∃U,a2=ag U/\Oa (Iv v n p) U)/\W u b:=by
 have bg:=J4 Q;have S:Z p.a.ts<=1000:=L;have F:=λu=>Gw p.a.p id p.a.ts v S u;have bb:=λu=>Oz p.a.p id p.a.ts v n S u;cases E:Bm p.a.ts v
 ·have N:Jp p.a.ts v= -1:=K1 (by simpa[Bm]using E);have M:V (Iv v n p=p):=if_neg (by rw[E];simp);rw[N]at F;clear N;refine Z9 44 [.cell 6 239] func227 ?_;refine m0 ?_;intro yb ya;refine Xi (F _) ?_;rintro _ _ ⟨rfl,d⟩;(have I:=d.B;have y:=d.C;have G:=(((W.refl u).new _).new _).trans d;simp only[Aa]at I y);refine X ?_;exact⟨_,rfl,⟨_,rfl,by rw[M.o];exact⟨id,a0,rfl⟩⟩,G.put L _⟩
 obtain⟨a,am,m⟩:=K3 E;have M:V (Iv v n p=⟨⟨p.a.p,Bt v n p.a.ts⟩,p.A.filter λt=>Iu t a==n⟩):=by rw[V,Iv,if_pos E,m]
 rw[m]at F;clear m;have a6:a<3:=L;have a7:((a:Int)== -1)=false:=nk;refine Z9 44 [.cell 6 239] func227 ?_
 (repeat (refine m0 ?_;intro yb ya;(first|(refine Xi (F _) ?_;rintro _ _ ⟨rfl,d⟩;(have I:=d.B;have y:=d.C;have G:=(((W.refl u).new _).new _).trans d;simp only[Aa]at I y))|(refine Xi (bb _) ?_;rintro _ _ ⟨⟨a1,rfl⟩,j⟩;(have a3:=j.B;have T:=j.C;have bc:=G.trans j)))));refine X ?_
 rename_i u1 A;have R:A.C (u.B+1)=[Y 0,H,H]:=by rw[T _ L,y _ L,Be AM AM]
 clear y T G d j
 refine wn [2,6,7,8,25,26] 27 (Z p.A) (λi ai b=>∃(q:Nat) (o:List Ck) (c:oh),W u b/\A.B<b.B/\b.C (u.B+1)=[Y 0,H,H]/\b.C A.B=[Y p.a.p,X1 a1 (Bt v n p.a.ts),sl q (Z o) c]/\J u b q (Z o)/\Z o<=i/\Z c=Z o*3/\V (c=Fg o/\o=(p.A.take i).filter λt=>Iu t a==n)) ⟨1,[],[],Xs,BJ,?_,?_,J.nil _ _,nk,nk,⟨rfl,nk⟩⟩ ?_
 ·rw[Aj L,Ah L,R]
 ·rw[Ak];simp
 clear R bc;rintro i ai b _ _ _ ⟨q,o,c,B,bi,be,bd,P,bh,ah,k⟩;have bf:=B.B;by_cases a8:i<Z p.A
 ·have C:=AK a8;obtain⟨e,a2,hd⟩:=Kw Q C;generalize p.A[i]=t at hd C e;have z:V ((p.A.take (i+1)).filter (λt=>Iu t a==n)=(p.A.take i).filter (λt=>Iu t a==n)++if (Iu t a==n)=true then [t]else []):=by
   rw[V,AT,C,BN,Em]
  have D:t[a]?=some t[a]:=AK L;have ba:=Qk D;have l:V (Iu t a=t[a]):=by simp[V,Iu,D]
  generalize t[a]=x at D ba l;clear C D;have f1:=Io e;have f2:=Ow e;have f3:=Jm e;have f4:=Qj e;have af:=Fo t;have f6:=eM e;by_cases s:x=n
  ·subst s;have K:V (c++As t=Fg (o++[t])/\o++[t]=(p.A.take (i+1)).filter λt=>Iu t a==x):=by
    obtain⟨g,f⟩:=k.o;refine⟨by rw[g,Q9],?_⟩;rw[z.o,if_pos (by rw[l.o];simp),f]
   clear k z l;refine nh ?_;intro yb ya;refine Bo (by first|exact G6) ((B.new _).put B.B _) (J.put (J.new P _) _ _) nr (by rfl) (ah) (by rw[f1]) (af) nr L L ?_;intro a4 un ak a5 ac aa ad ab;simp only[Ac,Aa]at aa;have aj:∀p,p<b.B->un.C p=b.C p:=λp N=>by rw[ac,Aj L,Ah L]
   refine Z3 ?_;refine X ?_;refine⟨a4,o++[t],c++As t,?_⟩
   ((repeat' refine Zi ?_ ?_)<;>first|exact Xq|exact (a5.put L _)|exact (nn (J.put ak _ _))|exact K|exact Xs)
  have ae:(x==n)=false:=nn s;have K:V (c=Fg o/\o=(p.A.take (i+1)).filter λt=>Iu t a==n):=by
   obtain⟨g,f⟩:=k.o;refine⟨g,?_⟩;rw[z.o,if_neg (by rw[l.o,ae];simp),f,EJ]
  clear k z l s;refine X ?_;refine⟨q,o,c,?_⟩
  ((repeat' refine Zi ?_ ?_)<;>first|exact Xq|exact (J.put (J.new P _) _ _)|exact K|exact Xs)
 have a9:i=Z p.A:=L;subst a9;obtain⟨g,f⟩:=k.o;rw[AS]at f;refine X ?_;exact⟨_,rfl,⟨_,rfl,by rw[M.o,<-f];exact⟨a1,q,by first|rfl|rw[g]⟩⟩,B.put L _⟩
def Gg (v n:Int)(a:Dx):Dx:=⟨a.p,Bt v n a.ts⟩
def Dl (v n:Int)(q:AZ):AZ:=⟨Gg v n q.h,q.A.map (Iv v n),q.B.map (Gg v n)⟩
def XT {p c}(h:Oa p c):∃x y z,c=[x,y,z]/\flat x/\flat y/\flat z:=by obtain⟨id,a,rfl⟩:=h;exact⟨_,_,_,rfl,rfl,rfl,rfl⟩
def Y0 (q c v n)(hc:EQ q c)(P:Qt q)(u):ni 190 [ag c,Y v,Y n] u λan a=>(∃D,an=ag D/\EQ (Dl v n q) D)/\W u a:=by
 obtain⟨ih,ai,a1,am,ah,rfl,hP,hN⟩:=hc;have bn:=r.length Ex hP;have b2:=r.length Iz hN;have hl:=P.pl;have b3:=P.nl;have hh:=P.hd;have bi:Z q.h.ts<=1000:=L;have bp:=λu=>Oz q.h.p ih q.h.ts v n bi u;refine wl func190 ?_;refine mt bp ?_;rintro yb ya _ _ ⟨⟨l,rfl⟩,a0⟩;have a3:=a0.B;have ao:=a0.C;have bu:=(((W.refl u).new _).new _).trans a0;simp only[Aa]at a3 ao;refine X ?_;rename_i k;have o0:k.C u.B=[Y q.h.p,X1 ih q.h.ts,sl ai (Z q.A) am,sl a1 (Z q.B) ah]:=by rw[ao _ L,Ah AM,Ao]
 have o1:k.C (u.B+1)=[Y 0,H,H,H]:=by rw[ao _ L,Be AM AM]
 clear ao a0
 refine wn [1,2,3,6,7,19,20] 21 (Z q.A) (λi ap a=>∃(K:Nat) (B:oh),W u a/\k.B<a.B/\a.C u.B=[Y q.h.p,X1 ih q.h.ts,sl ai (Z q.A) am,sl a1 (Z q.B) ah]/\a.C (u.B+1)=[Y 0,H,H,H]/\a.C k.B=[Y q.h.p,X1 l (Bt v n q.h.ts),sl K i B,H]/\J u a K i/\Z B=i*3/\V (r Oa ((q.A.take i).map (Iv v n)) B)) ⟨1,[],Xs,BJ,?_,?_,?_,J.nil _ _,nk,by simp[V,r]⟩ ?_
 ·rw[Aj L,Ah L,o0]
 ·rw[Aj L,Ah L,o1]
 ·rw[Ak]
 clear o0 o1 bu;rintro i ap a hi ⟨h1,h2,h3,h6,h7,bg,bf⟩ be ⟨K,B,A,s,ay,I,F,N,a7,hX⟩;have bb:=A.B;by_cases ae:i<Z q.A
 ·obtain⟨w,m⟩:=gq ae;obtain⟨id,a2,an,hd⟩:=F0 hP m;have az:=P.pa _ (AY m);have bd:=P.pt _ (AY m);have bc:=P.p3 _ (AY m);have HG:V ((q.A.take (i+1)).map (Iv v n)=(q.A.take i).map (Iv v n)++[Iv v n w]):=by
   rw[V,AT,m];simp
  clear m;have a8:=λu=>sE w id a2 v n az bd bc u;have b1:V _:=hX;have a6:V _:=a7;refine X ?_;have z:W u ((a.new [Y 0,H,H]).put a.B [Y w.a.p,X1 id w.a.ts,sl a2 (Z w.A) (Fg w.A)]):=(A.new _).put A.B _;have C:∀p,p<a.B->((a.new [Y 0,H,H]).put a.B [Y w.a.p,X1 id w.a.ts,sl a2 (Z w.A) (Fg w.A)]).C p=a.C p:=λp M=>by rw[Aj L,Ah L]
  refine A2 (Q:=λe f b=>e= .normal/\f 1=Y v/\f 2=Y n/\f 3=ptr u.B 0/\f 6=ptr (u.B+1) 0/\f 7=ptr k.B 0/\f 19=sl ai (Z q.A) am/\f 20=Y (Z q.A)/\f 21=Y i/\W u b/\k.B<b.B/\b.C u.B=[Y q.h.p,X1 ih q.h.ts,sl ai (Z q.A) am,sl a1 (Z q.B) ah]/\b.C (u.B+1)=[Y 0,H,H,H]/\∃d D,b.C k.B=[Y q.h.p,X1 l (Bt v n q.h.ts),sl d (i+1) (B++D),H]/\J u b d (i+1)/\Oa (Iv v n w) D) ?_ ?_
  ·refine bT [9] [0,1,2,3,4] 5 (nv 10 31) ?_;refine tn 5 a8 ?_;rintro yb ya _ u5 ⟨⟨D,rfl,y⟩,g⟩;refine ux ?_;obtain⟨b5,b6,b7,rfl,aw,ax,b4⟩:=XT y;have av:=g.B;have T:=g.C;simp only[Ac,Aa]at av T;have ba:=z.trans g;have a9:=J.keep (J.put (J.new N [Y 0,H,H]) a.B [Y w.a.p,X1 id w.a.ts,sl a2 (Z w.A) (Fg w.A)]) g;refine rl 6 ?_;refine Ai (i:=7) AH ?_;refine Am ?_;intro yb ya;refine Z3 ?_;refine Bo (by first|exact F5|exact Ee) ba a9 nr (by rfl) a7 (by rfl) (by simp[aw,ax,b4]) nr L L ?_;intro d U aj ak ad ab E aa;refine Z3 ?_;refine ya.o _ _ ⟨λ_ o x _=>by rw[E];exact g.ver o x,?_⟩;clear ya yb;refine Ai (i:=8) AH ?_;refine Am ?_;intro yb ya;refine Z3 ?_;refine ya.o _ _ ⟨λ_ o x _=>by rw[E];exact g.ver o x,?_⟩;clear ya yb;have R:∀p,p<a.B->U.C p=a.C p:=λp M=>by rw[ad,T _ L,C _ M]
   have au:U.C k.B=[Y q.h.p,X1 l (Bt v n q.h.ts),sl K i B,H]:=by rw[R _ s,F]
   refine rl 9 ?_;refine Aw AH ⟨rfl,?_⟩;simp only[upd,↓reduceIte,Nat.reduceEqDiff,h1,h2,h3,h6,h7,bg,bf,be,GM];refine⟨ak.put L _,by simp only[Ac];omega,?_,?_,d,[b5,b6,b7],?_,J.put aj _ _,y⟩
   ·rw[Aj L,R _ L,ay]
   ·rw[Aj L,R _ L,I]
   rw[Ak]
  clear C z hX N a7 ay I F s;rintro e f b ⟨rfl,g1,g2,g3,g6,g7,b8,b9,bj,A,s,ay,I,d,D,F,N,y⟩;have HX:V (r Oa ((q.A.take (i+1)).map (Iv v n)) (B++D)):=by rw[V,HG.o];exact r.append b1.o (r.single y)
  have bo:=Ex _ _ y;refine X ?_;refine⟨d,B++D,?_⟩
  ((repeat' refine Zi ?_ ?_)<;>first|exact Xq|exact HX|exact (by rw[AX,bo,a6.o];omega)|exact Xs)
 obtain rfl:i=Z q.A:=L;rw[AS]at hX;generalize hM:Z q.A=af at*
 have HM:V _:=hM;clear hM ae hi;refine X ?_
 refine wn [1,2,6,7,36,37] 38 (Z q.B) (λj ap a=>∃(S:Nat) (G:oh),W u a/\k.B<a.B/\a.C (u.B+1)=[Y 0,H,H,H]/\a.C k.B=[Y q.h.p,X1 l (Bt v n q.h.ts),sl K af B,sl S j G]/\J u a S j/\Z G=j*2/\V (r O9 ((q.B.take j).map (Gg v n)) G)) ⟨1,[],A,s,I,by rw[F],J.nil _ _,nk,by simp[V,r]⟩ ?_
 clear h1 h2 h3 h6 h7 bg bf be A s ay I F N bb;rintro j ap a _ ⟨h1,h2,h6,h7,bz,bw⟩ bv ⟨S,G,A,s,I,F,N,a5,hY⟩;have bb:=A.B;by_cases ae:j<Z q.B
 ·obtain⟨w,m⟩:=gq ae;obtain⟨id,an,hd⟩:=Ke hN m;have az:=P.na _ (AY m);have HG:V ((q.B.take (j+1)).map (Gg v n)=(q.B.take j).map (Gg v n)++[Gg v n w]):=by
   rw[V,AT,m];simp
  clear m;have bh:Z w.ts<=1000:=L;have a8:=λu=>Oz w.p id w.ts v n bh u;have b0:V _:=hY;have a4:V _:=a5;refine X ?_;have z:W u ((a.new [Y 0,H]).put a.B [Y w.p,X1 id w.ts]):=(A.new _).put A.B _;have C:∀p,p<a.B->((a.new [Y 0,H]).put a.B [Y w.p,X1 id w.ts]).C p=a.C p:=λp M=>by rw[Aj L,Ah L]
  refine A2 (Q:=λe f b=>e= .normal/\f 1=Y v/\f 2=Y n/\f 6=ptr (u.B+1) 0/\f 7=ptr k.B 0/\f 36=sl a1 (Z q.B) ah/\f 37=Y (Z q.B)/\f 38=Y j/\W u b/\k.B<b.B/\b.C (u.B+1)=[Y 0,H,H,H]/\∃d t,b.C k.B=[Y q.h.p,X1 l (Bt v n q.h.ts),sl K af B,sl d (j+1) (G++[Y w.p,X1 t (Bt v n w.ts)])]/\J u b d (j+1)) ?_ ?_
  ·refine bT [9] [0,1,2,3,4] 5 (nv 10 31) ?_;refine tn 5 a8 ?_;rintro yb ya _ u5 ⟨⟨t,rfl⟩,g⟩;refine ux ?_;have av:=g.B;have T:=g.C;simp only[Ac,Aa]at av T;have ba:=z.trans g;have a9:=J.keep (J.put (J.new N [Y 0,H]) a.B [Y w.p,X1 id w.ts]) g;refine rl 6 ?_;refine Ai (i:=7) AH ?_;refine Am ?_;intro yb ya;refine Z3 ?_;refine hZ ba ?_;intro d U aj ak ad ab E aa;refine Z3 ?_;refine ya.o _ _ ⟨λ_ o x _=>by rw[E];exact g.ver o x,?_⟩;clear ya yb;refine Ai (i:=8) AH ?_;refine Am ?_;intro yb ya;refine Z3 ?_;refine ya.o _ _ ⟨λ_ o x _=>by rw[E];exact g.ver o x,?_⟩;clear ya yb;have R:∀p,p<a.B->U.C p=a.C p:=λp M=>by rw[ad,T _ L,C _ M]
   have au:U.C k.B=[Y q.h.p,X1 l (Bt v n q.h.ts),sl K af B,sl S j G]:=by rw[R _ s,F]
   refine rl 9 ?_;refine Aw AH ⟨rfl,?_⟩;simp only[upd,↓reduceIte,Nat.reduceEqDiff,h1,h2,h6,h7,bz,bw,bv,GM];refine⟨ak.put L _,by simp only[Ac];omega,?_,d,t,?_,J.put aj _ _⟩
   ·rw[Aj L,R _ L,I]
   rw[Ak]
  clear C z hY N a5 I F s;rintro e f b ⟨rfl,g1,g2,g6,g7,bk,bl,bm,A,s,I,d,t,F,N⟩;have HX:V (r O9 ((q.B.take (j+1)).map (Gg v n)) (G++[Y w.p,X1 t (Bt v n w.ts)])):=by rw[V,HG.o];exact r.append b0.o (r.single ⟨t,rfl⟩)
  refine X ?_;refine⟨d,G++[Y w.p,X1 t (Bt v n w.ts)],?_⟩
  ((repeat' refine Zi ?_ ?_)<;>first|exact Xq|exact HX|exact (by rw[AX,a4.o];simp;omega)|exact Xs)
 obtain rfl:j=Z q.B:=L;rw[AS]at hY;have br:Z (q.A.map (Iv v n))=af:=by rw[BV];exact HM.o
 have bq:Z (q.B.map (Gg v n))=Z q.B:=by rw[BV]
 refine X ?_;exact⟨_,rfl,⟨_,rfl,l,K,S,B,G,by simp only[Dl,Gg];rw[br,bq],hX.o,hY.o⟩,A.put L _⟩
end Go.Proofs.YtmoeoppbmhfbpabGreatDoorJ
