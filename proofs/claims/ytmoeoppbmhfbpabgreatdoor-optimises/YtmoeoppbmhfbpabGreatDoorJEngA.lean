import Derived.Test.YtmoeoppbmhfbpabGreatDoorJFacts
import Derived.Test.YtmoeoppbmhfbpabGreatDoorJAbsWp
set_option maxHeartbeats 16000000
set_option maxRecDepth 100000
set_option linter.all false
open List renaming length->Z
namespace Go.Proofs.YtmoeoppbmhfbpabGreatDoorJ
open Go.Abs
abbrev Tm:=Bool×Int
structure Dx where
 p:Int
 ts:List Tm
abbrev Ck:=List Int
def Js (t:Tm):oh:=[my t.1,ic t.2]
def Ad (a:List Tm):oh:=a.flatMap Js
def Cx (ts):Z (Ad ts)=Z ts*2:=by
 induction ts with
 |nil=>rfl
 |cons a l b=>unfold Ad at*;rw[DN,AX,b];simp[Js];omega
def Uj (ts x):Ad (ts++[x])=Ad ts++Js x:=by simp[Ad]
def C3 {b k w}(h:b[k]?=some w):∃r,(Ad b).drop (k*2)=my w.1::ic w.2::r:=by
 have f:∀b:List Tm,EL (λw c=>c=Js w) b (Ad b):=by
  intro b;induction b with
  |nil=>rfl
  |cons a l d=>exact⟨Js a,Ad l,rfl,d,by simp[Ad]⟩
 obtain⟨c,r,rfl,e⟩:=EL.get (z:=2) (λa c h=>by rw[h];rfl) (f b) h;exact⟨r,e⟩
def Jp (a:List Tm)(v:Int):Int:=if (true,v)∈a then (a.idxOf (true,v):Nat)else -1
def Y5 {α:Type}[BEq α][LawfulBEq α]{l:List α}{i x}(h:l[i]?=some x)(a:x∉l.take i):l.idxOf x=i:=by
 have b:=(BA.1 h).1;have:l=l.take i++l.drop i:=(KD i l).symm;rw[this,List.idxOf_append,if_neg a,CN,ER AA,ET b];have:=(BA.1 h).2;simp[this]
def YQ {a:List Tm}{v i}(h:a[i]?=some (true,v))(b:(true,v)∉a.take i):Jp a v=i:=by
 unfold Jp;rw[if_pos (AY h),Y5 h b]
def K1 {a v}(b:(true,v)∉a):Jp a v= -1:=if_neg b
def Yl {α:Type}{l:List α}{i x y}(h:x∉l.take i)(b:l[i]?=some y)(a:y≠x):x∉l.take (i+1):=by
 rw[AT,b];simp only[BN,AW,FY,not_or];exact⟨h,λe=>a e.symm⟩
def Gw (p ids ts v)(A:Z ts<=1000)(N):ni 217 [ag [ic p,sl ids (Z ts) (Ad ts)],ic v] N λr b=>r=ic (Jp ts v)/\AD N b:=by
 have x:=Cx ts;refine Z9 25 [.tmp 4] Tryz.func217 ?_;refine mr ?_
 refine Ae (λm s b=>∃i:Nat,m=Z ts-i/\i<=Z ts/\s 1=ic v/\s 8=sl ids (Z ts) (Ad ts)/\s 9=ic (Z ts)/\s 10=ic i/\AD N b/\AC ((true,v)∉ts.take i)) (Z ts)
  ⟨0,AA,AA,rfl,rfl,rfl,rfl,Xs,by simp[AC]⟩ ?_
 rintro m s b ⟨i,rfl,z,B,o,q,u,d,a⟩;by_cases n:i<Z ts
 ·have c:=AK n;obtain⟨r,k⟩:=C3 c;generalize ts[i]=w at k c;obtain⟨j,f⟩:=w;have g:AC (ts[i]?=some (j,f)):=c;clear c;have y:=d.B
  repeat' first|refine Z1 ?_|refine Z8 λyb ya=>?_|refine Z4 ?_;clear ya yb|refine Z2 ?_ ?_<;>intro h t<;>try exact Xp|refine Z3 ?_|exact Zt|apply ya.o;clear ya yb
  ·have e:j=true/\f=v:=by simp_all
   obtain⟨rfl,rfl⟩:=e;exact⟨_,rfl,by rw[YQ g.o a.o],Xs⟩
  all_goals exact⟨Z ts-(i+1),AA,i+1,rfl,AA,nk,Xs,Yl a.o g.o (by simp_all)⟩
 have l:i=Z ts:=AA;subst l;rw[AS]at a;refine mr ?_
 first|exact⟨_,rfl,by rw[K1 a.o],d⟩|exact⟨_,rfl,by rw[K1 a.o]⟩
def Bm (a:List Tm)(v:Int):Bool:=decide ((true,v)∈a)
def YR (ts v):(Jp ts v != -1)=Bm ts v:=by
 unfold Jp Bm;split<;>rename_i h<;>simp[h]
def Lg (p ids ts v)(a:Z ts<=1000)(N):ni 232 [ag [ic p,sl ids (Z ts) (Ad ts)],ic v] N λr b=>r=my (Bm ts v)/\AD N b:=by
 have d:=YR ts v;refine Z9 9 [.tmp 4] Tryz.func232 ?_;refine m0 ?_;intro yb ya;refine Xi (Gw _ _ _ _ a _) ?_;rintro _ _ ⟨rfl,c⟩;refine mr ?_;exact⟨_,rfl,rfl,Xs⟩
def Jz (a:List Tm):Bool:=a.all λt=>!t.1
def Pq (p ids ts)(y:Z ts<=1000)(N):ni 131 [ag [ic p,sl ids (Z ts) (Ad ts)]] N λr b=>r=my (Jz ts)/\AD N b:=by
 have u:=Cx ts;refine Z9 15 [.tmp 2] Tryz.func131 ?_;refine mr ?_
 refine Ae (λm s b=>∃i:Nat,m=Z ts-i/\i<=Z ts/\s 6=sl ids (Z ts) (Ad ts)/\s 7=ic (Z ts)/\s 8=ic i/\AD N b/\AC (Jz (ts.take i)=true)) (Z ts)
  ⟨0,AA,AA,rfl,rfl,rfl,Xs,by simp[AC,Jz]⟩ ?_
 rintro m s b ⟨i,rfl,x,t,o,q,e,a⟩;by_cases g:i<Z ts;have c:=AK g;obtain⟨r,n⟩:=C3 c;have d:=AR g;generalize ts[i]=w at n c d;obtain⟨k,f⟩:=w;have j:AC (ts[i]?=some (k,f)/\(k,f)∈ts):=⟨c,d⟩;clear c d;have v:=e.B;refine m6 ?_ ?_<;>intro h z
 exact⟨_,rfl,by
  have:Jz ts=false:=by
   unfold Jz;rw[IQ];exact⟨_,j.o.2,by simp_all⟩
  rw[this],Xs⟩
 exact⟨Z ts-(i+1),AA,i+1,rfl,AA,nk,Xs,by
  have a:=a.o;unfold Jz at a;rw[AC,Jz,AT,j.o.1,List.all_append,a]
  simp_all⟩
 have l:i=Z ts:=AA;subst l;rw[AS]at a;have a:=a.o;refine mr ?_
 first|exact⟨_,rfl,rfl,e⟩|exact⟨_,rfl,rfl⟩
def Ej (l:List Int):Ck:=[(l[0]?).getD (-1),(l[1]?).getD (-1),(l[2]?).getD (-1)]
def As (t:List Int):oh:=t.map ic
def Ue (p ids ts)(E:Z ts<=1000)(N):ni 135 [ag [ic p,sl ids (Z ts) (Ad ts)]] N λr a=>r=ag (As (Ej (ts.map (·.2))))/\AD N a:=by
 have D:=Cx ts;have j:∃L:Nat->Int,(∀i,L i=((ts[i]?).map (·.2)).getD (-1))/\As (Ej (ts.map (·.2)))=[ic (L 0),ic (L 1),ic (L 2)]:=⟨λi=>((ts[i]?).map (·.2)).getD (-1),λ_=>rfl,by simp[As,Ej]⟩;obtain⟨L,c,g⟩:=j;refine Z9 26 [.cell 2 141] Tryz.func135 ?_;refine mr ?_
 refine Ae (λm s a=>∃(i:Nat),m=3-i/\i<=3/\s 1=ptr N.B 0/\s 2=ptr (N.B+1) 0/\s 3=ptr (N.B+2) 0/\s 6=ic i/\AD N a/\N.B+2<a.B/\a.C N.B=[ic p,sl ids (Z ts) (Ad ts)]/\a.C (N.B+1)=[ic 0,ic 0,ic 0]/\a.C (N.B+2)=[ic (if 0<i then L 0 else 0),ic (if 1<i then L 1 else 0),ic (if 2<i then L 2 else 0)]) 3
  ⟨0,AA,AA,AG,AG,AG,rfl,Xs,by simp only[Aa,Ac];omega,?_,?_,?_⟩ ?_
 ·rw[Aj AA,Ah AM,Ah AM,Ao]
 ·rw[Aj AA,Ah AM,Be AM AM]
 ·rw[show N.B+2=N.B+1+1 from rfl,Ak];rfl
 rintro m s a ⟨i,rfl,C,A,x,z,B,l,o,q,t,e⟩;have v:=l.B;by_cases y:i<3
 ·by_cases n:i<Z ts
  ·have d:=AK n;obtain⟨r,f⟩:=C3 d;have b:=c i;rw[d]at b;generalize ts[i]=w at f d b;obtain⟨F,u⟩:=w;clear d c;simp only[GJ,MG]at b;rcases (show i=0\/i=1\/i=2 by omega)with rfl|rfl|rfl
   all_goals
    simp only[↓reduceIte,Nat.lt_irrefl,Nat.reduceLT,Nat.reduceMul,KY,JH]at e f b;refine mr ?_
    first|exact⟨2,AA,1,rfl,AA,rfl,Xs,by simp[*]⟩|exact⟨1,AA,2,rfl,AA,rfl,Xs,by simp[*]⟩|exact⟨0,AA,3,rfl,AA,rfl,Xs,by simp[*]⟩
  have b:=c i;rw[FD AA]at b;simp only[Option.map_none,Option.getD_none]at b;clear c;rcases (show i=0\/i=1\/i=2 by omega)with rfl|rfl|rfl
  all_goals
   simp only[↓reduceIte,Nat.lt_irrefl,Nat.reduceLT,Nat.reduceMul,KY,JH]at e b;refine mr ?_
   first|exact⟨2,AA,1,rfl,AA,rfl,Xs,by simp[*]⟩|exact⟨1,AA,2,rfl,AA,rfl,Xs,by simp[*]⟩|exact⟨0,AA,3,rfl,AA,rfl,Xs,by simp[*]⟩
 have k:i=3:=AA;subst k;simp only[↓reduceIte,Nat.reduceLT]at e;refine mr ?_
 first|exact⟨_,rfl,by rw[g],Xs⟩|exact⟨_,rfl,rfl,Xs⟩
def B9 (l):Z (As l)=Z l:=by simp[As]
def D2 {l k n}(h:l[k]?=some n):∃r,(As l).drop k=ic n::r:=by
 have a:=(BA.1 h);obtain⟨c,b⟩:=a;refine⟨(As l).drop (k+1),?_⟩;rw[ET (by rw[B9];exact c)];simp[As,b]
def Fo (l):(As l).all flat=true:=by
 rw[CX];intro x a;obtain⟨n,-,rfl⟩:=AN.1 a;rfl
def H7 (v l id)(z:Z l<=100000)(N):ni 85 [ic v,sl id (Z l) (As l)] N λr b=>r=ic (if v∈l then (l.idxOf v:Nat)else -1)/\AD N b:=by
 have x:=B9 l;refine Z9 19 [.tmp 4] Tryz.func85 ?_;refine mr ?_
 refine Ae (λm s b=>∃i:Nat,m=Z l-i/\i<=Z l/\s 0=ic v/\s 7=sl id (Z l) (As l)/\s 8=ic (Z l)/\s 9=ic i/\AD N b/\AC (v∉l.take i)) (Z l)
  ⟨0,AA,AA,rfl,rfl,rfl,rfl,Xs,by simp[AC]⟩ ?_
 rintro m s b ⟨i,rfl,y,q,n,o,p,f,a⟩;by_cases k:i<Z l
 ·have c:=AK k;obtain⟨r,g⟩:=D2 c;generalize l[i]=w at g c;have d:AC (l[i]?=some w):=c;clear c;have u:=f.B
  refine m6 ?_ ?_<;>intro h t
  ·have e:w=v:=by simp_all
   subst e;exact⟨_,rfl,by rw[if_pos (AY d.o),Y5 d.o a.o]⟩
  all_goals exact⟨Z l-(i+1),AA,i+1,rfl,AA,nk,Yl a.o d.o (by simp_all)⟩
 have j:i=Z l:=AA;subst j;rw[AS]at a;refine mr ?_
 first|exact⟨_,rfl,by rw[if_neg a.o],f⟩|exact⟨_,rfl,by rw[if_neg a.o]⟩
def T7 (v)(l:List Int):((if v∈l then ((l.idxOf v:Nat):Int)else -1)== -1)=decide (v∉l):=by
 split<;>rename_i h<;>simp[h]
def L5 (p ids ts l id)(o:Z ts<=1000)(C:Z l<=100000)(N):ni 225 [ag [ic p,sl ids (Z ts) (Ad ts)],sl id (Z l) (As l)] N λr b=>r=my (l.any (Bm ts))/\AD N b:=by
 have F:=B9 l;refine Z9 17 [.tmp 4] Tryz.func225 ?_;refine mr ?_
 refine Ae (λm s b=>∃i:Nat,m=Z l-i/\i<=Z l/\s 2=ptr N.B 0/\s 7=sl id (Z l) (As l)/\s 8=ic (Z l)/\s 9=ic i/\AD N b/\N.B<b.B/\b.C N.B=[ic p,sl ids (Z ts) (Ad ts)]/\AC ((l.take i).any (Bm ts)=false)) (Z l)
  ⟨0,AA,AA,AG,AG,AG,rfl,Xs,AM,by rw[Ao],by simp[AC]⟩ ?_
 rintro m s b ⟨i,rfl,E,x,z,A,B,a,q,y,c⟩;have v:=a.B;by_cases j:i<Z l;have d:=AK j;obtain⟨r,n⟩:=D2 d;have g:=AR j;generalize l[i]=w at n d g;have f:AC (l[i]?=some w/\w∈l):=⟨d,g⟩;clear d g;refine m0 ?_;intro yb ya;refine Xi (Lg _ _ _ _ o _) ?_;rintro _ _ ⟨rfl,e⟩;(have u:=e.B;have t:=e.C);refine m6 ?_ ?_<;>intro h D
 first|exact⟨_,rfl,by rw[CU.2 ⟨w,f.o.2,nu⟩],a.trans e⟩|exact⟨_,rfl,by rw[CU.2 ⟨w,f.o.2,nu⟩]⟩
 exact⟨Z l-(i+1),AA,i+1,rfl,AA,nk,a.trans e,AA,by
  rw[AC,AT,f.o.1,MH,c.o]
  simp_all⟩
 have k:i=Z l:=AA;subst k;rw[AS]at c;have c:=c.o;refine mr ?_
 first|exact⟨_,rfl,rfl,a⟩|exact⟨_,rfl,rfl⟩|exact⟨_,rfl,a⟩|exact a|exact⟨_,rfl,by rw[c],a⟩|exact⟨_,rfl,by rw[c]⟩
def gV (p ids ts l id)(o:Z ts<=1000)(C:Z l<=100000)(N):ni 251 [ag [ic p,sl ids (Z ts) (Ad ts)],sl id (Z l) (As l)] N λr b=>r=my (l.all (Bm ts))/\AD N b:=by
 have F:=B9 l;refine Z9 18 [.tmp 4] Tryz.func251 ?_;refine mr ?_
 refine Ae (λm s b=>∃i:Nat,m=Z l-i/\i<=Z l/\s 2=ptr N.B 0/\s 7=sl id (Z l) (As l)/\s 8=ic (Z l)/\s 9=ic i/\AD N b/\N.B<b.B/\b.C N.B=[ic p,sl ids (Z ts) (Ad ts)]/\AC ((l.take i).all (Bm ts)=true)) (Z l)
  ⟨0,AA,AA,AG,AG,AG,rfl,Xs,AM,by rw[Ao],by simp[AC]⟩ ?_
 rintro m s b ⟨i,rfl,E,x,z,A,B,a,q,y,c⟩;have v:=a.B;by_cases j:i<Z l;have d:=AK j;obtain⟨r,n⟩:=D2 d;have g:=AR j;generalize l[i]=w at n d g;have f:AC (l[i]?=some w/\w∈l):=⟨d,g⟩;clear d g;refine m0 ?_;intro yb ya;refine Xi (Lg _ _ _ _ o _) ?_;rintro _ _ ⟨rfl,e⟩;(have u:=e.B;have t:=e.C);refine m6 ?_ ?_<;>intro h D
 first|exact⟨_,rfl,by rw[IQ.2 ⟨w,f.o.2,by simp_all⟩],a.trans e⟩|exact⟨_,rfl,by rw[IQ.2 ⟨w,f.o.2,by simp_all⟩]⟩
 exact⟨Z l-(i+1),AA,i+1,rfl,AA,nk,a.trans e,AA,by
  rw[AC,AT,f.o.1,List.all_append,c.o]
  simp_all⟩
 have k:i=Z l:=AA;subst k;rw[AS]at c;have c:=c.o;refine mr ?_
 first|exact⟨_,rfl,rfl,a⟩|exact⟨_,rfl,rfl⟩|exact⟨_,rfl,a⟩|exact a|exact⟨_,rfl,by rw[c],a⟩|exact⟨_,rfl,by rw[c]⟩
def Nv (l id)(B:Z l<=100000)(g:∀n∈l,0<=n/\n<=1000000)(N):ni 140 [sl id (Z l) (As l)] N λr b=>r=ic l.sum/\AD N b:=by
 have y:=B9 l;refine Z9 17 [.tmp 2] Tryz.func140 ?_;refine mr ?_
 refine Ae (λm s b=>∃i:Nat,m=Z l-i/\i<=Z l/\s 3=ic (l.take i).sum/\s 6=sl id (Z l) (As l)/\s 7=ic (Z l)/\s 8=ic i/\AD N b/\0<=(l.take i).sum/\(l.take i).sum<=i*1000000) (Z l)
  ⟨0,AA,AA,rfl,rfl,rfl,rfl,Xs,nk,nk⟩ ?_
 rintro m s b ⟨i,rfl,z,f,x,u,v,d,o,t⟩;by_cases e:i<Z l;have c:=AK e;obtain⟨r,j⟩:=D2 c;have k:=g l[i] (AR e);have a:AC ((l.take (i+1)).sum=(l.take i).sum+l[i]):=by
  rw[AC,AT,c];simp only[BN,List.sum_append,List.sum_cons,List.sum_nil];omega
 generalize l[i]=w at j c k a;clear c;generalize (l.take i).sum=p at f o t a;have A:=d.B;refine mr ?_;exact⟨Z l-(i+1),AA,i+1,rfl,AA,by rw[a.o],nk,by rw[a.o];omega,by rw[a.o];omega⟩;have q:i=Z l:=AA;subst q;rw[AS]at f;refine mr ?_
 first|exact⟨_,rfl,rfl,d⟩|exact⟨_,rfl,rfl⟩|exact⟨_,rfl,d⟩
def aS (v n:Int)(t:Tm):Tm:=if t=(true,v)then (false,n)else t
def Bt (v n:Int)(a:List Tm):List Tm:=a.map (aS v n)
def qW {v n a}(h:Bm a v=false):Bt v n a=a:=by
 unfold Bt
 conv=>rhs;rw[<-IE a]
 apply CG;intro t b;unfold aS;rw[if_neg];rfl;rintro rfl;simp[Bm]at h;exact h b
def Oz (p ids ts v n)(R:Z ts<=1000)(N):ni 226 [ag [ic p,sl ids (Z ts) (Ad ts)],ic v,ic n] N λr d=>(∃id,r=ag [ic p,sl id (Z (Bt v n ts)) (Ad (Bt v n ts))])/\AD N d:=by
 have Y:=Cx ts;refine Z9 43 [.cell 6 122] Tryz.func226 ?_;refine m0 ?_;intro yb ya;refine Xi (Lg _ _ _ _ R _) ?_;rintro _ _ ⟨rfl,q⟩;(have L:=q.B;have x:=q.C;(try simp only[Aa]at L x));refine m6 ?_ ?_<;>intro h ae;have e:=qW (n:=n) h;rw[e];exact⟨_,rfl,⟨_,rfl⟩,(((AD.refl _).new _).new _).trans q|>.put AA _⟩;rename_i z;have U:AD N z:=(((AD.refl _).new _).new _).trans q;have M:=U.B;have Q:=x N.B AA;have J:=x (N.B+1) AA;rw[Ah AM,Ao]at Q;rw[Be AM AM]at J;clear x q;refine mr ?_
 refine Ae (λm s d=>∃(i u:Nat) (f:oh),m=Z ts-i/\i<=Z ts/\s 1=ic v/\s 2=ic n/\s 6=ptr (N.B+1) 0/\s 7=ptr z.B 0/\s 19=sl ids (Z ts) (Ad ts)/\s 20=ic (Z ts)/\s 21=ic i/\AD N d/\z.B<d.B/\d.C (N.B+1)=[ic 0,nilS]/\d.C z.B=[ic p,sl u i f]/\Own N d u i/\Z f=i*2/\AC (f=Ad (Bt v n (ts.take i)))) (Z ts)
  ⟨0,1,[],AA,AA,by simp[upd,AL],by simp[upd,AL],AG,AG,AG,AG,rfl,Xs,BJ,?_,?_,Own.nil _ _,nk,by simp[AC,Bt,Ad]⟩ ?_
 rw[Aj AA,Ah AA];simp[J,cst1];rw[Ak];rintro m s d ⟨i,u,f,rfl,hi,h1,h2,h6,h7,W,X,a3,b,a0,V,O,B,C,j⟩;have ay:=b.B;by_cases S:i<Z ts;have y:=AK S;obtain⟨r,P⟩:=C3 y;generalize ts[i]=w at P y;obtain⟨g,c⟩:=w;have A:AC (Ad (Bt v n (ts.take (i+1)))=Ad (Bt v n (ts.take i))++Js (aS v n (g,c))):=by
  rw[AC,AT,y];simp[Bt,Ad]
 clear y;by_cases o:g=true/\c=v;obtain⟨rfl,rfl⟩:=o;refine nh ?_;intro yb ya;refine Bo (by first|exact Gl) (((b.new _).put b.B _).put b.B _) (Own.put (Own.put (Own.new B _) _ _) _ _) nr (by rfl) (C) (by rfl) (by rfl) nr AA AA ?_;intro a E k l K t I H;simp only[Ac,Aa]at t;refine Z3 ?_;refine mr ?_;exact⟨Z ts-(i+1),AA,i+1,a,f++[my false,ic n],rfl,AA,nk,l.put AA _,AA,rfl,Own.put k _ _,by simp;omega,by rw[AC,A.o,j.o];simp[aS,Js]⟩;have F:(g&&c==v)=false:=by
  cases g with
  |false=>rfl
  |true=>simp at o⊢;exact o
 have G:AC (aS v n (g,c)=(g,c)):=if_neg (nn o);clear o;cases g with
 |false=>
  refine nh ?_;intro yb ya;refine Bo (by first|exact Gl) ((b.new _).put b.B _) (Own.put (Own.new B _) _ _) nr (by rfl) (C) (by rfl) (by rfl) nr AA AA ?_;intro a E k l K t I H;simp only[Ac,Aa]at t;refine Z3 ?_;refine mr ?_;exact⟨Z ts-(i+1),AA,i+1,a,f++[_,ic c],rfl,AA,nk,l.put AA _,AA,rfl,Own.put k _ _,by simp;omega,by rw[AC,A.o,j.o,G.o];rfl⟩
 |true=>
  have F:(c==v)=false:=nn F;refine nh ?_;intro yb ya;refine Bo (by first|exact Gl) ((b.new _).put b.B _) (Own.put (Own.new B _) _ _) nr (by rfl) (C) (by rfl) (by rfl) nr AA AA ?_;intro a E k l K t I H;simp only[Ac,Aa]at t;refine Z3 ?_;refine mr ?_;exact⟨Z ts-(i+1),AA,i+1,a,f++[_,ic c],rfl,AA,nk,l.put AA _,AA,rfl,Own.put k _ _,by simp;omega,by rw[AC,A.o,j.o,G.o];rfl⟩
 have T:i=Z ts:=AA;subst T;have j:=j.o;rw[AS]at j;have D:Z (Bt v n ts)=Z ts:=by simp[Bt]
 refine mr ?_;exact⟨_,rfl,⟨u,by first|rfl|rw[D,j]⟩,b.put AA _⟩
structure Part where
 a:Dx
 A:List Ck
structure AZ where
 h:Dx
 A:List Part
 B:List Dx
def Fg (l:List Ck):oh:=l.flatMap As
def T3 (l:List Ck):Prop:=∀t∈l,Z t=3
def J4 {l}(h:T3 l):Z (Fg l)=Z l*3:=by
 induction l with
 |nil=>rfl
 |cons a l b=>
  have d:=h a nk;have c:=b (λt e=>h t (by simp[e]));unfold Fg at*
  rw[DN,AX,c,B9,d];simp;omega
def Q9 (l t):Fg (l++[t])=Fg l++As t:=by simp[Fg]
def uQ {l k t}(d:T3 l)(h:l[k]?=some t):∃a b c r,t=[a,b,c]/\(Fg l).drop (k*3)=ic a::ic b::ic c::r:=by
 have g:∀l:List Ck,EL (λt c=>c=As t/\t∈l) l (Fg l):=by
  intro l;induction l with
  |nil=>rfl
  |cons a l f=>exact⟨As a,Fg l,⟨rfl,nk⟩,EL.mono (λt c h=>⟨h.1,by simp[h.2]⟩) f,by simp[Fg]⟩
 obtain⟨c,r,⟨rfl,-⟩,e⟩:=EL.get (z:=3) (λa c h=>by rw[h.1,B9];exact d a h.2) (g l) h;have i:=d t (AY h)
 match t,i with
 |[a,b,c],_=>exact⟨a,b,c,r,rfl,by rw[e];rfl⟩
def O9 (a:Dx)(c:oh):Prop:=∃id,c=[ic a.p,sl id (Z a.ts) (Ad a.ts)]
def Oa (p:Part)(c:oh):Prop:=∃id a,c=[ic p.a.p,sl id (Z p.a.ts) (Ad p.a.ts),sl a (Z p.A) (Fg p.A)]
def Iz (a c)(h:O9 a c):Z c=2:=by obtain⟨id,rfl⟩:=h;rfl
def Ex (a c)(h:Oa a c):Z c=3:=by obtain⟨id,b,rfl⟩:=h;rfl
def Ke {l cs i a}(h:EL O9 l cs)(b:l[i]?=some a):∃id r,cs.drop (i*2)=ic a.p::sl id (Z a.ts) (Ad a.ts)::r:=by
 obtain⟨c,r,⟨id,rfl⟩,e⟩:=EL.get Iz h b;exact⟨id,r,e⟩
def F0 {l cs i p}(h:EL Oa l cs)(b:l[i]?=some p):∃id a r,cs.drop (i*3)=ic p.a.p::sl id (Z p.a.ts) (Ad p.a.ts)::sl a (Z p.A) (Fg p.A)::r:=by
 obtain⟨c,r,⟨id,a,rfl⟩,e⟩:=EL.get Ex h b;exact⟨id,a,r,e⟩
def EQ (q:AZ)(c:oh):Prop:=∃f e a b d,c=[ic q.h.p,sl f (Z q.h.ts) (Ad q.h.ts),sl e (Z q.A) b,sl a (Z q.B) d]/\EL Oa q.A b/\EL O9 q.B d
structure Qt (q:AZ):Prop where
 hd:Z q.h.ts<=3
 pl:Z q.A<=64
 nl:Z q.B<=64
 pa:∀p∈q.A,Z p.a.ts<=3
 pt:∀p∈q.A,Z p.A<=5000
 p3:∀p∈q.A,T3 p.A
 na:∀a∈q.B,Z a.ts<=3
def Da (l:List Part):Nat:=(l.map λp=>Z p.A).sum
def qG (l p):Da (l++[p])=Da l+Z p.A:=by simp[Da,List.sum_append]
def Yz (q c)(p:EQ q c)(g:Qt q)(N):ni 252 [ag c] N λr d=>r=ic (Da q.A:Nat)/\AD N d:=by
 obtain⟨A,t,l,x,E,rfl,j,C⟩:=p;have v:=EL.length Ex j;have I:=g.pl;refine Z9 20 [.tmp 2] Tryz.func252 ?_;refine mr ?_
 refine Ae (λm s d=>∃i a:Nat,m=Z q.A-i/\i<=Z q.A/\s 3=ic a/\s 7=sl t (Z q.A) x/\s 8=ic (Z q.A)/\s 9=ic i/\AD N d/\a<=i*5000/\AC (a=Da (q.A.take i))) (Z q.A)
  ⟨0,0,AA,AA,rfl,rfl,rfl,rfl,Xs,nk,by simp[AC,Da]⟩ ?_
 rintro m s d ⟨i,a,rfl,J,D,F,G,H,e,K,b⟩;have B:=e.B;by_cases k:i<Z q.A;have f:=AK k;obtain⟨id,o,r,u⟩:=F0 j f;have y:=g.pt _ (AR k);generalize q.A[i]=w at u f y;have n:AC (Da (q.A.take (i+1))=Da (q.A.take i)+Z w.A):=by
  rw[AC,AT,f,BN,qG]
 clear f;refine mr ?_;exact⟨Z q.A-(i+1),AA,i+1,a+Z w.A,rfl,AA,nk,nk,Xs,AA,by rw[AC,n.o,b.o]⟩;have z:i=Z q.A:=AA;subst z;have b:=b.o;rw[AS]at b;subst b;refine mr ?_
 first|exact⟨_,rfl,rfl,e⟩|exact⟨_,rfl,rfl⟩|exact⟨_,rfl,e⟩|exact e
def Dt (l:List Dx)(v:Int):Nat:=l.countP λa=>Bm a.ts v
def Ml (q c v)(u:EQ q c)(g:Qt q)(N):ni 254 [ag c,ic v] N λr e=>r=ic (Dt (q.A.map (·.a)) v:Nat)/\AD N e:=by
 obtain⟨E,x,o,B,L,rfl,l,J⟩:=u;have A:=EL.length Ex l;have O:=g.pl;refine Z9 23 [.tmp 4] Tryz.func254 ?_;refine mr ?_
 refine Ae (λm s e=>∃i a:Nat,m=Z q.A-i/\i<=Z q.A/\s 1=ic v/\s 5=ic a/\s 9=sl x (Z q.A) B/\s 10=ic (Z q.A)/\s 11=ic i/\AD N e/\a<=i/\AC (a=Dt ((q.A.take i).map (·.a)) v)) (Z q.A)
  ⟨0,0,AA,AA,rfl,rfl,rfl,rfl,rfl,Xs,nk,by simp[AC,Dt]⟩ ?_
 rintro m s e ⟨i,a,rfl,Q,K,D,M,F,R,d,S,b⟩;have G:=d.B;by_cases n:i<Z q.A;have f:=AK n;obtain⟨id,t,r,z⟩:=F0 l f;have C:=g.pa _ (AR n);generalize q.A[i]=w at z f C;have k:AC (Dt ((q.A.take (i+1)).map (·.a)) v=Dt ((q.A.take i).map (·.a)) v+if Bm w.a.ts v then 1 else 0):=by
  rw[AC,AT,f,BN,EU,Dt,MI];simp[Dt,MJ]
 clear f;have y:Z w.a.ts<=1000:=AA;refine m0 ?_;intro yb ya;refine Xi (Lg _ _ _ _ y _) ?_;rintro _ _ ⟨rfl,j⟩;(have H:=j.B;have I:=((d.new _).put d.B _).trans j);refine m6 ?_ ?_<;>intro h P;exact⟨Z q.A-(i+1),AA,i+1,a+1,rfl,AA,nk,nk,AA,by rw[AC,k.o,b.o,if_pos nu]⟩;exact⟨Z q.A-(i+1),AA,i+1,a,rfl,AA,nk,nk,AA,by rw[AC,k.o,b.o,if_neg (by simp_all),GZ]⟩;have p:i=Z q.A:=AA;subst p;have b:=b.o;rw[AS]at b;subst b;refine mr ?_
 first|exact⟨_,rfl,rfl,d⟩|exact⟨_,rfl,rfl⟩|exact⟨_,rfl,d⟩|exact d
def atomsQ (q:AZ):List Dx:=q.h::(q.A.map (·.a)++q.B)
def Kd (q c)(W:EQ q c)(F:Qt q)(N):ni 253 [ag c] N λr d=>∃id cs,r=sl id (Z (atomsQ q)) cs/\EL O9 (atomsQ q) cs/\AD N d:=by
 obtain⟨u,B,j,D,A,rfl,H,I⟩:=W;have hpl:=EL.length Ex H;have ax:=EL.length Iz I;have hl:=F.pl;have ay:=F.nl;refine Z9 37 [.tmp 2] Tryz.func253 ?_;refine mr ?_;have z:AD N (N.new [ic q.h.p,sl u (Z q.h.ts) (Ad q.h.ts),sl B (Z q.A) D,sl j (Z q.B) A]):=(AD.refl _).new _
 refine Ae (λm s d=>∃(k e:Nat) (b:oh),m=Z q.A-k/\k<=Z q.A/\s 1=ptr N.B 0/\s 3=sl e (1+k) b/\s 12=sl B (Z q.A) D/\s 13=ic (Z q.A)/\s 14=ic k/\AD N d/\N.B<d.B/\d.C N.B=[ic q.h.p,sl u (Z q.h.ts) (Ad q.h.ts),sl B (Z q.A) D,sl j (Z q.B) A]/\Own N d e (1+k)/\Z b=(1+k)*2/\AC (EL O9 (q.h::(q.A.take k).map (·.a)) b)) (Z q.A)
  ⟨0,_,_,AA,AA,AG,rfl,rfl,rfl,rfl,z.lay 1,by simp only[Az,Aa];omega,by rw[H6,Ao],Own.made z nr,nk,EL.single ⟨u,rfl⟩⟩ ?_
 rintro m s d ⟨k,e,b,rfl,J,V,K,aw,av,au,f,ap,U,o,n,i⟩;clear z;have P:=f.B;by_cases t:k<Z q.A;have g:=AK t;obtain⟨id,T,r,C⟩:=F0 H g;generalize q.A[k]=w at C g;have y:AC (q.A[k]?=some w):=g;clear g;refine nh ?_;intro yb ya;refine Bo (by first|exact F5) ((f.new _).put f.B _) (Own.put (Own.new o _) _ _) nr (by rfl) (n) (by rfl) (by rfl) nr AA AA ?_;intro l G x R Q O S Y;simp only[Ac,Aa]at O;have eob:G.C N.B=d.C N.B:=by rw[Q,Aj AA,Ah AA]
 refine Z3 ?_;refine mr ?_;refine⟨Z q.A-(k+1),AA,k+1,l,b++[ic w.a.p,sl id (Z w.a.ts) (Ad w.a.ts)],rfl,AA,by simp[ID],nk,AA,by simpa[ID]using x,by simp;omega,?_⟩;rw[AC,AT,y.o];have:=EL.append i.o (EL.single (E:=O9) (a:=w.a) ⟨id,rfl⟩);simpa using this;have v:k=Z q.A:=AA;subst v;rw[AS]at i;generalize L:Z q.A=M at*
 have X:AC _:=L;clear L t J;refine mr ?_
 refine Ae (λm s d=>∃(k e:Nat) (b:oh),m=Z q.B-k/\k<=Z q.B/\s 3=sl e (1+M+k) b/\s 25=sl j (Z q.B) A/\s 26=ic (Z q.B)/\s 27=ic k/\AD N d/\Own N d e (1+M+k)/\Z b=(1+M+k)*2/\AC (EL O9 (q.h::(q.A.map (·.a)++q.B.take k)) b)) (Z q.B)
  ⟨0,e,b,AA,AA,AI,AI,AI,AG,f,nn o,nn n,nn i⟩ ?_
 clear i n o K V aw av au f ap U P;rintro m s d ⟨k,e,b,rfl,J,K,a3,a0,az,f,o,n,i⟩;have P:=f.B;by_cases t:k<Z q.B;have g:=AK t;obtain⟨id,r,C⟩:=Ke I g;generalize q.B[k]=w at C g;have y:AC (q.B[k]?=some w):=g;clear g;refine nh ?_;intro yb ya;refine Bo (by first|exact F5) ((f.new _).put f.B _) (Own.put (Own.new o _) _ _) nr (by rfl) (n) (by rfl) (by rfl) nr AA AA ?_;intro l G x R Q O S Y;refine Z3 ?_;refine mr ?_;refine⟨Z q.B-(k+1),AA,k+1,l,b++[ic w.p,sl id (Z w.ts) (Ad w.ts)],rfl,AA,by simp[ID],nk,by simpa[ID]using x,by simp;omega,?_⟩;rw[AC,AT,y.o];have:=EL.append i.o (EL.single (E:=O9) (a:=w) ⟨id,rfl⟩);simpa using this;have v:k=Z q.B:=AA;subst v;rw[AS]at i;have p:Z (atomsQ q)=1+M+Z q.B:=by have:=X.o;simp[atomsQ];omega
 refine mr ?_;exact⟨_,rfl,e,b,by first|rfl|rw[p],by simpa[atomsQ]using i.o⟩
def vF (acc:List Int)(t:Tm):List Int:=if t.1=true/\t.2∉acc then acc++[t.2]else acc
def Cs (l:List Dx):List Int:=(l.flatMap (·.ts)).foldl vF []
def gn (acc t):Z (vF acc t)<=Z acc+1:=by unfold vF;split<;>simp
def tP:∀(a:List Tm) (acc:List Int),Z (a.foldl vF acc)<=Z acc+Z a
 |[],acc=>nk
 |t::a,acc=>by
  have b:=tP a (vF acc t);have c:=gn acc t;simp only[FW,BQ];omega
def tO:∀(a:List Tm) (acc:List Int) (v:Int),v∈a.foldl vF acc↔v∈acc\/(true,v)∈a
 |[],acc,v=>nk
 |t::a,acc,v=>by
  rw[FW,tO a];obtain⟨b,w⟩:=t;unfold vF;by_cases h:b=true/\w∉acc;rw[if_pos h];obtain⟨rfl,e⟩:=h;simp only[AW,BD,EK,DZ,Prod.mk.injEq,GM];constructor;rintro ((h|rfl)|h);exact .inl h;exact .inr (.inl rfl);exact .inr (.inr h);rintro (h|rfl|h);exact .inl (.inl h);exact .inl (.inr rfl);exact .inr h;rw[if_neg h];simp only[BD,Prod.mk.injEq];constructor;rintro (h|h);exact .inl h;exact .inr (.inr h);rintro (c|⟨rfl,rfl⟩|c);exact .inl c;by_cases d:v∈acc;exact .inl d;exact absurd ⟨rfl,d⟩ h;exact .inr c
def Dn (l v):v∈Cs l↔∃a∈l,(true,v)∈a.ts:=by
 unfold Cs;rw[tO];simp[EX]
def eO:∀(l:List Dx),(∀a∈l,Z a.ts<=3)->Z (l.flatMap (·.ts))<=Z l*3
 |[],_=>nk
 |a::l,h=>by
  have e:=h a nk;have d:=eO l (λb c=>h b (by simp[c]));simp only[DN,AX,BQ];omega
def Fs {l}(h:∀a∈l,Z a.ts<=3):Z (Cs l)<=Z l*3:=by
 have b:=tP (l.flatMap (·.ts)) [];have c:=eO l h;unfold Cs;simp only[CQ]at b;omega
def Hy (l cs idl)(J:EL O9 l cs)(T:∀a∈l,Z a.ts<=3)(hl:Z l<=200)(N):ni 150 [sl idl (Z l) cs] N λr q=>(∃id,r=sl id (Z (Cs l)) (As (Cs l)))/\AD N q:=by
 have a9:=EL.length Iz J;refine Z9 39 [.tmp 2] Tryz.func150 ?_;refine mr ?_
 refine Ae (λm s q=>∃(k y:Nat) (e:List Int),m=Z l-k/\k<=Z l/\s 3=sl y (Z e) (As e)/\s 9=sl idl (Z l) cs/\s 10=ic (Z l)/\s 11=ic k/\AD N q/\Own N q y (Z e)/\Z e<=k*3/\AC (e=Cs (l.take k))) (Z l)
  ⟨0,1,[],AA,AA,by simp[upd,As],rfl,rfl,rfl,Xs,Own.nil _ _,nk,by simp[AC,Cs]⟩ ?_
 rintro m s q ⟨k,y,e,rfl,hk,D,E,F,C,c,o,I,v⟩;have G:=c.B;by_cases M:k<Z l
 ·have f:=AK M;obtain⟨z,r,W⟩:=Ke J f;have hb:=T _ (AR M);generalize l[k]=a at W f hb;have S:AC (Cs (l.take (k+1))=a.ts.foldl vF (Cs (l.take k))):=by
   rw[AC,AT,f];simp[Cs]
  clear f;have a7:=Cx a.ts;refine mr ?_
  refine Ae (λm s g=>∃(j p:Nat) (b:List Int),m=Z a.ts-j/\j<=Z a.ts/\s 3=sl p (Z b) (As b)/\s 9=sl idl (Z l) cs/\s 10=ic (Z l)/\s 11=ic k/\s 16=sl z (Z a.ts) (Ad a.ts)/\s 17=ic (Z a.ts)/\s 18=ic j/\AD N g/\Own N g p (Z b)/\Z b<=k*3+j/\AC (b=(a.ts.take j).foldl vF e)) (Z a.ts)
   ⟨0,y,e,AA,AA,AI,AI,AI,AI,AI,AI,rfl,(c.new _).put c.B _,Own.put (Own.new o _) _ _,AA,by simp[AC]⟩ ?_
  clear D E F C c o G I;rintro m s g ⟨j,p,b,rfl,hj,D,E,F,C,bc,bb,ba,c,o,I,u⟩;have G:=c.B;have a8:=B9 b;by_cases Y:j<Z a.ts
  ·have f:=AK Y;obtain⟨r2,Q⟩:=C3 f;generalize a.ts[j]=w at Q f;obtain⟨K,d⟩:=w;have A:AC ((a.ts.take (j+1)).foldl vF e=vF ((a.ts.take j).foldl vF e) (K,d)):=by
    rw[AC,AT,f];simp
   clear f;have L:=T7 d b;have H:Z b<=100000:=AA;cases K with
   |false=>
    have t:AC (vF b (false,d)=b):=by simp[AC,vF]
    refine mr ?_;refine⟨Z a.ts-(j+1),AA,j+1,p,b,?_⟩
    ((repeat' refine Zi ?_ ?_)<;>first|exact Xq|exact (Own.put (Own.new o _) _ _)|exact (by rw[AC,A.o,<-u.o,t.o])|exact Xs)
   |true=>
    by_cases i:d∈b
    ·have t:AC (vF b (true,d)=b):=by simp[AC,vF,i]
     have x:decide (d∉b)=false:=by simp[i]
     rw[x]at L;clear x i;refine m0 ?_;intro yb ya;refine Xi (H7 _ _ _ H _) ?_;rintro _ _ ⟨rfl,n⟩;(have V:=((c.new _).put c.B _).trans n;have O:=Own.keep (Own.put (Own.new o _) _ _) n);refine mr ?_;refine⟨Z a.ts-(j+1),AA,j+1,p,b,?_⟩
     ((repeat' refine Zi ?_ ?_)<;>first|exact Xq|exact O|exact (by rw[AC,A.o,<-u.o,t.o])|exact Xs)
    have t:AC (vF b (true,d)=b++[d]):=by simp[AC,vF,i]
    have x:decide (d∉b)=true:=by simp[i]
    rw[x]at L;clear x i;refine m0 ?_;intro yb ya;refine Xi (H7 _ _ _ H _) ?_;rintro _ _ ⟨rfl,n⟩;(have V:=((c.new _).put c.B _).trans n;have O:=Own.keep (Own.put (Own.new o _) _ _) n;have P:=n.C _ (show g.B<_ by simp only[Ac,Aa];omega);rw[Ak]at P);refine m5 ?_;intro yb ya;intro B Nn X ai af ab ae aa;refine mr ?_;refine⟨Z a.ts-(j+1),AA,j+1,B,b++[d],?_⟩
    ((repeat' refine Zi ?_ ?_)<;>first|exact Xq|exact (nn X)|exact (by rw[AC,A.o,<-u.o,t.o])|exact (by simp[As])|exact Xs)
  have R:j=Z a.ts:=AA;subst R;rw[AS]at u;refine mr ?_;refine⟨Z l-(k+1),AA,k+1,p,b,?_⟩
  ((repeat' refine Zi ?_ ?_)<;>first|exact Xq|exact (by rw[AC,S.o,<-v.o,u.o])|exact Xs)
 have U:k=Z l:=AA;subst U;have v:=v.o;rw[AS]at v;subst v;refine mr ?_
 first|exact⟨_,rfl,⟨_,rfl⟩,c⟩|exact⟨_,rfl,_,rfl⟩|exact⟨_,rfl,⟨_,rfl⟩⟩
def N6 {q}(c:Qt q):∀a∈atomsQ q,Z a.ts<=3:=by
 intro a b;simp only[atomsQ,BD,AW,AN]at b;rcases b with rfl|⟨p,hp,rfl⟩|b;exact c.hd;exact c.pa p hp;exact c.na a b
def Jv {q}(a:Qt q):Z (atomsQ q)<=129:=by
 have c:=a.pl;have b:=a.nl;simp[atomsQ];omega
def Dq (q:AZ)(v:Int):Bool:=decide (1<Dt (atomsQ q) v)
def R8 (q c v)(n:EQ q c)(f:Qt q)(N):ni 257 [ag c,ic v] N λr g=>r=my (Dq q v)/\AD N g:=by
 have b:=λN=>Kd q c n f N;have F:=N6 f;have av:=Jv f;have D:∃u x y z,c=[u,x,y,z]/\c.all flat=true:=by
  obtain⟨O,T,E,pc,S,rfl,-,-⟩:=n;exact⟨_,_,_,_,rfl,rfl⟩
 obtain⟨u,x,y,z,rfl,ao⟩:=D;have B:AC (Dq q v=decide (1<Dt (atomsQ q) v)):=rfl;generalize Dq q v=C at*
 clear n f;generalize atomsQ q=l at*
 refine Z9 23 [.tmp 4] Tryz.func257 ?_;refine m0 ?_;intro yb ya;refine Xi (b _) ?_;rintro _ _ ⟨k,H,rfl,A,e⟩;(have ap:=EL.length Iz A;have p:=((AD.refl N).new _).trans e);refine mr ?_
 refine Ae (λm s g=>∃i a:Nat,m=Z l-i/\i<=Z l/\s 1=ic v/\s 5=ic a/\s 9=sl k (Z l) H/\s 10=ic (Z l)/\s 11=ic i/\AD N g/\a<=i/\AC (a=Dt (l.take i) v)) (Z l)
  ⟨0,0,AA,AA,rfl,rfl,rfl,rfl,rfl,p,nk,by simp[AC,Dt]⟩ ?_
 clear p e;rintro m s g ⟨i,a,rfl,X,R,M,U,ax,aw,d,V,b⟩;have Q:=d.B;by_cases o:i<Z l
 ·have j:=AK o;obtain⟨id,r,J⟩:=Ke A j;have K:=F _ (AR o);generalize l[i]=w at J j K;have t:AC (Dt (l.take (i+1)) v=Dt (l.take i) v+if Bm w.ts v then 1 else 0):=by
   rw[AC,AT,j,BN,Dt,MI];simp[Dt,MJ]
  clear j;have I:Z w.ts<=1000:=AA;refine m0 ?_;intro yb ya;refine Xi (Lg _ _ _ _ I _) ?_;rintro _ _ ⟨rfl,e⟩;(have P:=e.B;have Y:=((d.new _).put d.B _).trans e);refine m6 ?_ ?_<;>intro h W
  ·refine⟨Z l-(i+1),AA,i+1,a+1,?_⟩
   ((repeat' refine Zi ?_ ?_)<;>first|exact Xq|exact (by rw[AC,t.o,b.o,if_pos nu])|exact Xs)
  refine⟨Z l-(i+1),AA,i+1,a,?_⟩
  ((repeat' refine Zi ?_ ?_)<;>first|exact Xq|exact (by rw[AC,t.o,b.o,if_neg (by simp_all),GZ])|exact Xs)
 have G:i=Z l:=AA;subst G;have b:=b.o;rw[AS]at b;subst b;have L:decide ((Dt l v:Int)>1)=C:=by rw[B.o];congr 1;apply propext;omega
 refine mr ?_
 first|exact⟨_,rfl,rfl,d⟩|exact⟨_,rfl,rfl⟩|exact⟨_,rfl,d⟩|exact d|exact⟨_,rfl,by rw[<-L]⟩
def Lb (q:AZ):Nat->List Int->Bool
 |_,[]=>true
 |n,v::a=>if Dq q v=true then (if 1<n+1\/Dt (q.A.map (·.a)) v=1 then false else Lb q (n+1) a)else Lb q n a
def idleB (q:AZ)(a:Dx):Bool:=Lb q 0 (Cs [a])
def vR (l v):Dt l v<=Z l:=List.countP_le_length
def sH (q c a id)(J:Z a.ts<=3)(C:EQ q c)(z:Qt q)(N):ni 266 [ag c,ag [ic a.p,sl id (Z a.ts) (Ad a.ts)]] N λr g=>r=my (idleB q a)/\AD N g:=by
 have L:=λv N=>R8 q c v C z N;have R:=λv N=>Ml q c v C z N;have Q:∀v,Dt (q.A.map (·.a)) v<=64:=λv=>by
  have U:=vR (q.A.map (·.a)) v;have P:=z.pl;simp at U;omega
 have O:∃B x D E,c=[B,x,D,E]/\c.all flat=true:=by
  obtain⟨ih,ip,T,pc,nc,rfl,-,-⟩:=C;exact⟨_,_,_,_,rfl,rfl⟩
 obtain⟨B,x,D,E,rfl,a6⟩:=O;have H:=λ(i:Nat) (N:St)=>Hy [a] [ic a.p,sl id (Z a.ts) (Ad a.ts)] i (EL.single ⟨id,rfl⟩) (by simp;exact J) nk N;have X:=Fs (l:=[a]) (by simp;exact J);have V:AC (idleB q a=Lb q 0 (Cs [a])):=rfl;generalize idleB q a=e at*
 generalize Cs [a]=b at*
 have a4:=B9 b;simp only[BQ,CQ]at X H;refine Z9 31 [.tmp 4] Tryz.func266 ?_;refine m0 ?_;intro yb ya;refine Xi (H _ _) ?_;rintro _ _ ⟨⟨t,rfl⟩,d⟩;(have G:=((((AD.refl N).new _).new _).lay 1).trans d;have p:=d.B;have k:=d.C;(try simp only[Az,Aa]at p k));refine mr ?_;rename_i N1;have A:=k N.B AA;rw[H6,Ah AM,Ao]at A;clear k d
 refine Ae (λm s g=>∃i n:Nat,m=Z b-i/\i<=Z b/\s 2=ptr N.B 0/\s 5=ic n/\s 10=sl t (Z b) (As b)/\s 11=ic (Z b)/\s 12=ic i/\AD N g/\N.B<g.B/\g.C N.B=[B,x,D,E]/\n<=i/\AC (e=Lb q n (b.drop i))) (Z b)
  ⟨0,0,AA,AA,AG,AG,AG,AI,rfl,G,AA,A,nk,by simpa[AC]using V.o⟩ ?_
 clear G A p;rintro m s g ⟨i,n,rfl,hi,P,h5,bc,bb,ba,j,a5,ob,b1,o⟩;have a3:=j.B;by_cases F:i<Z b
 ·have I:=AK F;obtain⟨r,S⟩:=D2 I;have u:AC (b.drop i=b[i]::b.drop (i+1)):=ET F;generalize b[i]=v at S u;clear I;have a7:=Q v;have f:AC (e=if Dq q v=true then (if 1<n+1\/Dt (q.A.map (·.a)) v=1 then false else Lb q (n+1) (b.drop (i+1)))else Lb q n (b.drop (i+1))):=by
   rw[AC,o.o,u.o,Lb]
  clear o u;cases K:Dq q v with
  |false=>
   have f:AC (e=Lb q n (b.drop (i+1))):=by rw[AC,f.o,K];simp
   refine m0 ?_;intro yb ya;refine Xi (L _ _) ?_;rintro _ _ ⟨rfl,d⟩;(have p:=d.B;have k:=d.C;have M:=j.trans d);refine mr ?_;refine⟨Z b-(i+1),AA,i+1,n,?_⟩;exact m8
  |true=>
   generalize a8:Dt (q.A.map (·.a)) v=W at*
   have f:AC (e=if 1<n+1\/W=1 then false else Lb q (n+1) (b.drop (i+1))):=by rw[AC,f.o,K];simp
   repeat' first|refine Z1 ?_|refine Z8 λyb ya=>?_|refine Z4 ?_;clear ya yb|refine Z2 ?_ ?_<;>intro h ae<;>try exact Xp|(refine Z5 ?_;first|(refine Xi (L _ _) ?_;rintro _ _ ⟨rfl,d⟩;(have p:=d.B;have k:=d.C;have M:=j.trans d))|(refine Xi (R _ _) ?_;rintro _ _ ⟨rfl,y⟩;(have av:=y.B;have au:=y.C;have a9:=M.trans y)))|refine Z3 ?_|exact Zt|apply ya.o;clear ya yb
   ·have:e=false:=by
     rw[f.o,if_pos];right;simp only[DO]at h;omega
    exact⟨_,rfl,by rw[this]⟩
   ·have:e=Lb q (n+1) (b.drop (i+1)):=by
     rw[f.o,if_neg];simp only[beq_eq_false_iff_ne,ne_eq]at h;omega
    refine⟨Z b-(i+1),AA,i+1,n+1,?_⟩;exact m9 this
   have:e=false:=by
    rw[f.o,if_pos];left;omega
   exact⟨_,rfl,by rw[this]⟩
 have Y:i=Z b:=AA;subst Y;have o:e=true:=by rw[o.o,IZ];rfl
 subst o;refine mr ?_
 first|exact⟨_,rfl,rfl,j⟩|exact⟨_,rfl,rfl⟩|exact⟨_,rfl,j⟩|exact j
end Go.Proofs.YtmoeoppbmhfbpabGreatDoorJ
