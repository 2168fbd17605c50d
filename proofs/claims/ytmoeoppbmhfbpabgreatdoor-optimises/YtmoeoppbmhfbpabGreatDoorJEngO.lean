import Derived.Test.YtmoeoppbmhfbpabGreatDoorJEngJ
set_option maxHeartbeats 32000000
set_option maxRecDepth 100000
set_option linter.all false
open List renaming length->Z
namespace Go.Proofs.YtmoeoppbmhfbpabGreatDoorJ
open Go.Abs
def J0 (rs:List Int)(a:Dx):Bool:=rs.any (Bm a.ts)
def Bc (q:AZ)(rs:List Int):AZ:=⟨q.h,q.A.filter λp=>J0 rs p.a,q.B.filter (J0 rs)⟩
def Ip (q:AZ)(rs:List Int):AZ:=⟨⟨0,[]⟩,q.A.filter λp=>!J0 rs p.a,q.B.filter λa=>!J0 rs a⟩
def Uf (q c init idi)(hc:EQ q c)(hq:Qt q)(b6:Z init<=200)(b):ni 188 [ag c,sl idi (Z init) (As init)] b λr σ'=>(∃c1 c2 rs,r=tp [ag c1,ag c2]/\EQ (Bc q rs) c1/\EQ (Ip q rs) c2/\Grown init (Cs (atomsQ q)) rs/\F1 (atomsQ q) rs rs)/\AD b σ':=by
 have br:=λb=>bB q c init idi hc hq b6 b;have ca:=N6 hq;have ci:=Jv hq;have b7:=Fs ca;obtain⟨X,ip,inn,pc,nc,rfl,hP,hN⟩:=hc;have hpl:=EL.length Ex hP;have ce:=EL.length Iz hN;have hl:=hq.pl;have cg:=hq.nl;refine Z9 69 [.cell 4 191,.cell 5 191] Tryz.func188 ?_;refine m0 ?_;intro yb ya;refine Xi (br _) ?_;rintro _ _ ⟨⟨T,rs,rfl,hG,hC⟩,a6⟩;(have bb:=a6.B;have ap:=a6.C;have b9:=((((AD.refl b).new _).new _).new _).trans a6;simp only[Aa]at bb ap);refine mr ?_;rename_i R;have bq:Z rs<=100000:=by have:=hG.le;omega
 have HG:AC _:=hG;have HC:AC _:=hC;clear hG hC br b7;have o0:R.C b.B=[ic q.h.p,sl X (Z q.h.ts) (Ad q.h.ts),sl ip (Z q.A) pc,sl inn (Z q.B) nc]:=by rw[ap _ AA,Ah AM,Ah AM,Ao]
 have o1:R.C (b.B+1)=[ic 0,nilS,nilS,nilS]:=by rw[ap _ AA,Ah AM,Be AM AM]
 have o2:R.C (b.B+2)=[ic 0,nilS,nilS,nilS]:=by rw[ap _ AA,Be AM AM]
 clear ap a6;generalize b8:R.B=x at*
 refine Ae (λm s σ'=>∃(k D P:Nat) (n u:List Part) (F H:oh),m=Z q.A-k/\k<=Z q.A/\s 2=ptr b.B 0/\s 4=ptr (b.B+1) 0/\s 5=ptr (b.B+2) 0/\s 6=sl T (Z rs) (As rs)/\s 7=ptr x 0/\s 8=ptr (x+1) 0/\s 21=sl ip (Z q.A) pc/\s 22=ic (Z q.A)/\s 23=ic k/\AD b σ'/\x+1<σ'.B/\σ'.C b.B=[ic q.h.p,sl X (Z q.h.ts) (Ad q.h.ts),sl ip (Z q.A) pc,sl inn (Z q.B) nc]/\σ'.C (b.B+1)=[ic 0,nilS,nilS,nilS]/\σ'.C (b.B+2)=[ic 0,nilS,nilS,nilS]/\σ'.C x=[ic q.h.p,sl X (Z q.h.ts) (Ad q.h.ts),sl D (Z n) F,nilS]/\σ'.C (x+1)=[ic 0,nilS,sl P (Z u) H,nilS]/\Own b σ' D (Z n)/\Own b σ' P (Z u)/\(D=1\/D≠P)/\Z n<=k/\Z u<=k/\Z F=Z n*3/\Z H=Z u*3/\AC (EL Oa n F/\EL Oa u H/\n=(q.A.take k).filter (λp=>J0 rs p.a)/\u=(q.A.take k).filter λp=>!J0 rs p.a)) (Z q.A)
  ⟨0,1,1,[],[],[],[],AA,AA,AG,AG,AG,AG,AG,AG,AG,AG,rfl,Xs,BJ,?_,?_,?_,?_,?_,Own.nil _ _,Own.nil _ _,.inl rfl,nk,nk,nk,nk,⟨rfl,rfl,nk,nk⟩⟩ ?_
 ·rw[Aj AA,Ah BJ,Aj AA,Ah AA,o0]
 ·rw[Aj AA,Ah BJ,Aj AA,Ah AA,o1]
 ·rw[Aj AA,Ah BJ,Aj AA,Ah AA,o2]
 ·rw[Aj AA,Ah BJ,Ak];simp
 ·rw[Ak];simp
 clear o0 o1 o2 b9 b8;rintro m s σ' ⟨k,D,P,n,u,F,H,rfl,hk,h2,h4,h5,h6,h7,h8,cd,cc,cb,J,bc,b0,ba,a9,a8,a7,bm,bi,a5,b3,bf,bp,bo,hX⟩;have bn:=J.B;by_cases a3:k<Z q.A
 ·have K:=AK a3;obtain⟨id,z,r,hd⟩:=F0 hP K;have bh:=hq.pa _ (AR a3);generalize q.A[k]=w at hd K bh;have be:Z w.a.ts<=1000:=AA;have L:=λb=>L5 w.a.p id w.a.ts rs T be bq b;have a4:AD b ((σ'.new [ic 0,nilS,nilS]).put σ'.B [ic w.a.p,sl id (Z w.a.ts) (Ad w.a.ts),sl z (Z w.A) (Fg w.A)]):=(J.new _).put J.B _;have U:AC ((q.A.take (k+1)).filter (λp=>J0 rs p.a)=(q.A.take k).filter (λp=>J0 rs p.a)++if J0 rs w.a=true then [w]else []):=by
   rw[AC,AT,K,BN,Em]
  have V:AC ((q.A.take (k+1)).filter (λp=>!J0 rs p.a)=(q.A.take k).filter (λp=>!J0 rs p.a)++if (!J0 rs w.a)=true then [w]else []):=by
   rw[AC,AT,K,BN,Em]
  clear K;rw[show rs.any (Bm w.a.ts)=J0 rs w.a from rfl]at L;cases C:J0 rs w.a with
  |true=>
   rw[C]at L;have W:AC (EL Oa (n++[w]) (F++[ic w.a.p,sl id (Z w.a.ts) (Ad w.a.ts),sl z (Z w.A) (Fg w.A)])/\EL Oa u H/\n++[w]=(q.A.take (k+1)).filter (λp=>J0 rs p.a)/\u=(q.A.take (k+1)).filter λp=>!J0 rs p.a):=by
    obtain⟨G,E,l,g⟩:=hX.o;exact⟨EL.append G (EL.single ⟨id,z,rfl⟩),E,by rw[U.o,if_pos C,l],by rw[V.o,C,g];simp⟩
   clear hX U V;refine m0 ?_;intro yb ya;refine Xi (L _) ?_;rintro _ _ ⟨rfl,d⟩;(have am:=d.B;have M:=d.C;have a0:=a4.trans d;simp only[Ac,Aa]at am M);refine nh ?_;intro yb ya;refine Ie (by first|exact F5|exact Ee) a0 (Own.keep (Own.put (Own.new bm _) _ _) d) nr (by rfl) bp (by rfl) (by rfl) nr AA AA ?_;intro f y Y ak ac ab ad aa an;obtain⟨ay,ax⟩:=an P (Z u) (Own.keep (Own.put (Own.new bi _) _ _) d) a5;have eob:∀p,p<σ'.B->y.C p=σ'.C p:=λp hp=>by rw[ac,M _ AA,Aj AA,Ah AA]
   refine Z3 ?_;refine mr ?_;refine⟨Z q.A-(k+1),AA,k+1,f,P,n++[w],u,F++[ic w.a.p,sl id (Z w.a.ts) (Ad w.a.ts),sl z (Z w.A) (Fg w.A)],H,?_⟩
   ((repeat' refine Zi ?_ ?_)<;>first|exact Xq|exact (ak.put AA _)|exact (nn (Own.put Y _ _))|exact (Own.put ay _ _)|exact W|exact Xs)
  |false=>
   rw[C]at L;have W:AC (EL Oa n F/\EL Oa (u++[w]) (H++[ic w.a.p,sl id (Z w.a.ts) (Ad w.a.ts),sl z (Z w.A) (Fg w.A)])/\n=(q.A.take (k+1)).filter (λp=>J0 rs p.a)/\u++[w]=(q.A.take (k+1)).filter λp=>!J0 rs p.a):=by
    obtain⟨G,E,l,g⟩:=hX.o;exact⟨G,EL.append E (EL.single ⟨id,z,rfl⟩),by rw[U.o,C,l];simp,by rw[V.o,C,g];simp⟩
   clear hX U V;refine m0 ?_;intro yb ya;refine Xi (L _) ?_;rintro _ _ ⟨rfl,d⟩;(have am:=d.B;have M:=d.C;have a0:=a4.trans d;simp only[Ac,Aa]at am M);refine nh ?_;intro yb ya;refine Ie (by first|exact F5|exact Ee) a0 (Own.keep (Own.put (Own.new bi _) _ _) d) nr (by rfl) bo (by rfl) (by rfl) nr AA AA ?_;intro f y Y ak ac ab ad aa an;obtain⟨az,ax⟩:=an D (Z n) (Own.keep (Own.put (Own.new bm _) _ _) d) AA;have bd:D=1\/D≠f:=AA;have eob:∀p,p<σ'.B->y.C p=σ'.C p:=λp hp=>by rw[ac,M _ AA,Aj AA,Ah AA]
   refine Z3 ?_;refine mr ?_;refine⟨Z q.A-(k+1),AA,k+1,D,f,n,u++[w],F,H++[ic w.a.p,sl id (Z w.a.ts) (Ad w.a.ts),sl z (Z w.A) (Fg w.A)],?_⟩
   ((repeat' refine Zi ?_ ?_)<;>first|exact Xq|exact (ak.put AA _)|exact (nn (Own.put Y _ _))|exact (Own.put az _ _)|exact W|exact Xs)
 have b4:k=Z q.A:=AA;subst b4;obtain⟨G,E,l,g⟩:=hX.o;rw[AS]at l g;have W:AC (EL Oa (q.A.filter λp=>J0 rs p.a) F/\EL Oa (q.A.filter λp=>!J0 rs p.a) H/\Z n=Z (q.A.filter λp=>J0 rs p.a)/\Z u=Z (q.A.filter λp=>!J0 rs p.a)):=⟨by rw[<-l];exact G,by rw[<-g];exact E,by rw[l],by rw[g]⟩;clear G E l g hX hk;generalize Z n=n1 at*
 generalize Z u=n2 at*
 refine mr ?_
 refine Ae (λm s σ'=>∃(j I S:Nat) (v t:List Dx) (O N:oh),m=Z q.B-j/\j<=Z q.B/\s 4=ptr (b.B+1) 0/\s 5=ptr (b.B+2) 0/\s 6=sl T (Z rs) (As rs)/\s 7=ptr x 0/\s 8=ptr (x+1) 0/\s 45=sl inn (Z q.B) nc/\s 46=ic (Z q.B)/\s 47=ic j/\AD b σ'/\x+1<σ'.B/\σ'.C (b.B+1)=[ic 0,nilS,nilS,nilS]/\σ'.C (b.B+2)=[ic 0,nilS,nilS,nilS]/\σ'.C x=[ic q.h.p,sl X (Z q.h.ts) (Ad q.h.ts),sl D n1 F,sl I (Z v) O]/\σ'.C (x+1)=[ic 0,nilS,sl P n2 H,sl S (Z t) N]/\Own b σ' I (Z v)/\Own b σ' S (Z t)/\(I=1\/I≠S)/\Z v<=j/\Z t<=j/\Z O=Z v*2/\Z N=Z t*2/\AC (EL O9 v O/\EL O9 t N/\v=(q.B.take j).filter (J0 rs)/\t=(q.B.take j).filter λa=>!J0 rs a)) (Z q.B)
  ⟨0,1,1,[],[],[],[],AA,AA,AI,AI,AI,AI,AI,AI,AI,AG,J,bc,ba,a9,by rw[a8];simp,by rw[a7];simp,Own.nil _ _,Own.nil _ _,.inl rfl,nk,nk,nk,nk,⟨rfl,rfl,nk,nk⟩⟩ ?_
 clear h2 h4 h5 h6 h7 h8 cd cc cb J bc b0 ba a9 a8 a7 bm bi a5 b3 bf bp bo a3 bn;rintro m s σ' ⟨j,I,S,v,t,O,N,rfl,hj,h4,h5,h6,h7,h8,cm,ck,cj,J,bc,ba,a9,a8,a7,bv,bu,a5,hm1,cf,b2,b1,hY⟩;have bn:=J.B;by_cases a3:j<Z q.B
 ·have K:=AK a3;obtain⟨id,r,hd⟩:=Ke hN K;have bh:=hq.na _ (AR a3);generalize q.B[j]=w at hd K bh;have be:Z w.ts<=1000:=AA;have L:=λb=>L5 w.p id w.ts rs T be bq b;have a4:AD b ((σ'.new [ic 0,nilS]).put σ'.B [ic w.p,sl id (Z w.ts) (Ad w.ts)]):=(J.new _).put J.B _;have U:AC ((q.B.take (j+1)).filter (J0 rs)=(q.B.take j).filter (J0 rs)++if J0 rs w=true then [w]else []):=by
   rw[AC,AT,K,BN,Em]
  have V:AC ((q.B.take (j+1)).filter (λa=>!J0 rs a)=(q.B.take j).filter (λa=>!J0 rs a)++if (!J0 rs w)=true then [w]else []):=by
   rw[AC,AT,K,BN,Em]
  clear K;rw[show rs.any (Bm w.ts)=J0 rs w from rfl]at L;cases C:J0 rs w with
  |true=>
   rw[C]at L;have HY:AC (EL O9 (v++[w]) (O++[ic w.p,sl id (Z w.ts) (Ad w.ts)])/\EL O9 t N/\v++[w]=(q.B.take (j+1)).filter (J0 rs)/\t=(q.B.take (j+1)).filter λa=>!J0 rs a):=by
    obtain⟨G,E,l,g⟩:=hY.o;exact⟨EL.append G (EL.single ⟨id,rfl⟩),E,by rw[U.o,if_pos C,l],by rw[V.o,C,g];simp⟩
   clear hY U V;refine m0 ?_;intro yb ya;refine Xi (L _) ?_;rintro _ _ ⟨rfl,d⟩;(have am:=d.B;have M:=d.C;have a0:=a4.trans d;simp only[Ac,Aa]at am M);refine nh ?_;intro yb ya;refine Ie (by first|exact F5|exact Ee) a0 (Own.keep (Own.put (Own.new bv _) _ _) d) nr (by rfl) b2 (by rfl) (by rfl) nr AA AA ?_;intro f y Y ak ac ab ad aa an;obtain⟨ay,ax⟩:=an S (Z t) (Own.keep (Own.put (Own.new bu _) _ _) d) a5;have eob:∀p,p<σ'.B->y.C p=σ'.C p:=λp hp=>by rw[ac,M _ AA,Aj AA,Ah AA]
   refine Z3 ?_;refine mr ?_;refine⟨Z q.B-(j+1),AA,j+1,f,S,v++[w],t,O++[ic w.p,sl id (Z w.ts) (Ad w.ts)],N,?_⟩
   ((repeat' refine Zi ?_ ?_)<;>first|exact Xq|exact (ak.put AA _)|exact (nn (Own.put Y _ _))|exact (Own.put ay _ _)|exact HY|exact Xs)
  |false=>
   rw[C]at L;have HY:AC (EL O9 v O/\EL O9 (t++[w]) (N++[ic w.p,sl id (Z w.ts) (Ad w.ts)])/\v=(q.B.take (j+1)).filter (J0 rs)/\t++[w]=(q.B.take (j+1)).filter λa=>!J0 rs a):=by
    obtain⟨G,E,l,g⟩:=hY.o;exact⟨G,EL.append E (EL.single ⟨id,rfl⟩),by rw[U.o,C,l];simp,by rw[V.o,C,g];simp⟩
   clear hY U V;refine m0 ?_;intro yb ya;refine Xi (L _) ?_;rintro _ _ ⟨rfl,d⟩;(have am:=d.B;have M:=d.C;have a0:=a4.trans d;simp only[Ac,Aa]at am M);refine nh ?_;intro yb ya;refine Ie (by first|exact F5|exact Ee) a0 (Own.keep (Own.put (Own.new bu _) _ _) d) nr (by rfl) b1 (by rfl) (by rfl) nr AA AA ?_;intro f y Y ak ac ab ad aa an;obtain⟨az,ax⟩:=an I (Z v) (Own.keep (Own.put (Own.new bv _) _ _) d) AA;have bd:I=1\/I≠f:=AA;have eob:∀p,p<σ'.B->y.C p=σ'.C p:=λp hp=>by rw[ac,M _ AA,Aj AA,Ah AA]
   refine Z3 ?_;refine mr ?_;refine⟨Z q.B-(j+1),AA,j+1,I,f,v,t++[w],O,N++[ic w.p,sl id (Z w.ts) (Ad w.ts)],?_⟩
   ((repeat' refine Zi ?_ ?_)<;>first|exact Xq|exact (ak.put AA _)|exact (nn (Own.put Y _ _))|exact (Own.put az _ _)|exact HY|exact Xs)
 have b5:j=Z q.B:=AA;subst b5;obtain⟨G,E,l,g⟩:=hY.o;rw[AS]at l g;have bz:=W.o.2.2.1;have bw:=W.o.2.2.2
 have HN:AC (EQ (Bc q rs) [ic q.h.p,sl X (Z q.h.ts) (Ad q.h.ts),sl D n1 F,sl I (Z v) O]/\EQ (Ip q rs) [ic 0,nilS,sl P n2 H,sl S (Z t) N]):=
  ⟨⟨X,D,I,F,O,by simp only[Bc];rw[bz,l],W.o.1,by simp only[Bc];rw[<-l];exact G⟩,⟨1,P,S,H,N,by simp only[Ip];rw[bw,g];rfl,W.o.2.1,by simp only[Ip];rw[<-g];exact E⟩⟩
 clear G E l g hY bz bw;refine mr ?_;have o7b:b.B+2<x:=AA;refine A2 (Q:=λe s' B=>e= .normal/\s' 4=ptr (b.B+1) 0/\s' 5=ptr (b.B+2) 0/\AD b B/\B.C (b.B+1)=[ic q.h.p,sl X (Z q.h.ts) (Ad q.h.ts),sl D n1 F,sl I (Z v) O]/\B.C (b.B+2)=[ic 0,nilS,sl P n2 H,sl S (Z t) N]) ?_ ?_
 ·refine Ar Ag (λp=>p=x\/p=x+1) [3] [0] 3 (nv 4 1) AH (λ_ _ _ h=>by cases h.1) ?_;intro yb ya;refine Z3 ?_;refine⟨λp h=>.inl (Gf h).symm,ya.o _ ?_⟩;clear ya yb;have bg:∀(A:Nat->Bool) (i:Nat) (c:oh),Kept A (λp=>p=x\/p=x+1) σ' i (σ'.put (b.B+1) c):=λA i c _ o ho hF=>by
   have:o≠b.B+1:=by rcases hF with h|h<;>omega
   simp[St.put,this]
  refine D8 (rs:=[1,2]) AH nk ?_;intro i hi;simp only[BD,EK,DZ]at hi;rcases hi with rfl|rfl
  ·refine Am ?_;intro yb ya;refine Z3 ?_;refine ya.o _ _ ⟨kept_refl,?_⟩;clear ya yb;refine Ai (i:=2) AH ?_;refine Am ?_;intro yb ya;refine Z3 ?_;refine ya.o _ _ ⟨bg _ _ _,?_⟩;clear ya yb;refine Ai (i:=3) AH ?_;refine Am ?_;intro yb ya;refine Z3 ?_;refine ya.o _ _ ⟨A3 rfl,?_⟩;clear ya yb;refine Aw AH ⟨rfl,by simp[upd,h4],by simp[upd,h5],(J.put AA _).put AA _,?_,?_⟩
   ·rw[Aj AA,Ak]
   rw[Ak]
  refine Am ?_;intro yb ya;refine Z3 ?_;refine ya.o _ _ ⟨bg _ _ _,?_⟩;clear ya yb;refine Ai (i:=1) AH ?_;refine Am ?_;intro yb ya;refine Z3 ?_;refine ya.o _ _ ⟨bg _ _ _,?_⟩;clear ya yb;refine Ai (i:=3) AH ?_;refine Am ?_;intro yb ya;refine Z3 ?_;refine ya.o _ _ ⟨A3 rfl,?_⟩;clear ya yb;refine Aw AH ⟨rfl,by simp[upd,h4],by simp[upd,h5],(J.put AA _).put AA _,?_,?_⟩
  ·rw[Aj AA,Ak]
  rw[Ak]
 rintro e s' B ⟨rfl,g4,g5,ch,o71,o72⟩;refine mr ?_;exact⟨_,rfl,⟨_,_,rs,rfl,HN.o.1,HN.o.2,HG.o,HC.o⟩⟩
abbrev MM:=List (Nat×List Ck)
def Gp (M:MM):oh:=M.map λx=>sl x.1 (Z x.2) (Fg x.2)
def Live (a:St)(id n:Nat):Prop:=(id=1/\n=0)\/∃k,id=k+2/\k<a.D/\a.top k=n/\0<n
def Live.keep {a σ' id n}(h:Live a id n)(k:AD a σ'):Live σ' id n:=by
 rcases h with h|⟨j,h1,h2,h3,h4⟩;exact .inl h;exact .inr ⟨j,h1,BZ h2 k.D,(k.top j h2).trans h3,h4⟩
structure BL (σ:St)(om ot:Nat)(M:MM)(d b:Int):Prop where
 ob:σ.C om=[fx ot 0 (Z M),ic d,ic b]
 oc:σ.C ot=Gp M
 lo:om<σ.B
 lt:ot<σ.B
 ne:om≠ot
 live:∀x∈M,Live σ x.1 (Z x.2)
 inj:∀(i j:Nat) (x y:Nat×List Ck),M[i]?=some x->M[j]?=some y->i≠j->x.1=1\/x.1≠y.1
 t3:∀x∈M,T3 x.2
 ln:∀x∈M,Z x.2<=5000
 pl:Z M<=5000
def BL.keep {a σ' e c M d b}(h:BL a e c M d b)(k:AD a σ'):BL σ' e c M d b:=
 ⟨(k.C _ h.lo).trans h.ob,(k.C _ h.lt).trans h.oc,BZ h.lo k.B,BZ h.lt k.B,h.ne,λx f=>(h.live x f).keep k,h.inj,h.t3,h.ln,h.pl⟩
def Jj {M}{k:Nat}{x}(h:M[k]?=some x):(Gp M)[k]?=some (sl x.1 (Z x.2) (Fg x.2)):=by simp[Gp,h]
def Ji (M):Z (Gp M)=Z M:=by simp[Gp]
def Qm (om ot M d b σ)(a:BL σ om ot M d b):ni 51 [ptr om 0] σ λr σ'=>r=my (decide (b<d))/\σ'=σ:=by
 have e:=a.ob;have c:decide (d>b)=decide (b<d):=rfl;refine Z9 12 [.tmp 2] Tryz.func51 ?_;refine mr ?_;refine Ax Ag (λ_=>True) [9] [0,1,2,3,4,5,6,7,8] [9] AH (λ_ _ _ h=>h) ?_;intro yb ya;refine mr ?_
 first|exact⟨_,rfl,rfl⟩|exact⟨_,rfl,rfl,rfl⟩|exact⟨_,rfl⟩
def C4 (a:Dx):Ck:=Ej (a.ts.map (·.2))
def Jq (om ot M d b a)(id k:Nat)(x)(ha:Z a.ts<=3)(H:a.p=(k:Int))(z:M[k]?=some x)(l)(n:BL l om ot M d b):ni 81 [ptr om 0,ag [ic a.p,sl id (Z a.ts) (Ad a.ts)]] l λr σ'=>r=my (decide (C4 a∈x.2))/\AD l σ':=by
 have V:Z a.ts<=1000:=AA;have D:=λl=>Ue a.p id a.ts V l;have F:=AY z;have I:=n.t3 x F;have az:=n.ln x F;have aw:=J4 I;have a3:k<Z M:=(BA.1 z).1;have hpl:=n.pl;have ay:=Ji M;have a4:=Jj z;have Y:=n.lo;have T:=n.lt;have W:=n.ob;have R:=n.oc;rw[H];rw[H]at D;have O:Z (Ej (a.ts.map (·.2)))=3:=rfl;have E:AC (C4 a=Ej (a.ts.map (·.2))):=rfl;generalize C4 a=L at*
 generalize Ej (a.ts.map (·.2))=J at*
 obtain⟨f,g,j,rfl⟩:∃f g j,J=[f,g,j]:=by
  match J,O with
  |[f,g,j],_=>exact⟨f,g,j,rfl⟩
 simp only[As,CC,IK]at D;refine Z9 27 [.tmp 4] Tryz.func81 ?_;refine m0 ?_;intro yb ya;refine Xi (D _) ?_;rintro _ _ ⟨rfl,v⟩;(have U:=v.B;have B:=v.C;have C:=((AD.refl l).new _).trans v;simp only[Aa]at U B);refine mr ?_;rename_i c;have K:AD l ((c.new [ic 0,ic 0,ic 0]).put c.B [ic f,ic g,ic j]):=(C.new _).put AA _;have X:c.C l.B=[ic (k:Int),sl id (Z a.ts) (Ad a.ts)]:=by rw[B _ AA,Ao]
 have P:c.C om=[fx ot 0 (Z M),ic d,ic b]:=by rw[C.C _ Y,W]
 have e2:c.C ot=Gp M:=by rw[C.C _ T,R]
 clear B v;refine Ax Ag (λ_=>True) [] [0,1,2,3,4,5,6,7,8,9] [] AH (λ_ _ _ h=>h) ?_;intro yb ya;refine mr ?_;clear X P e2
 refine Ae (λm s σ'=>∃i:Nat,m=Z x.2-i/\i<=Z x.2/\s 5=ptr c.B 0/\s 17=sl x.1 (Z x.2) (Fg x.2)/\s 18=ic (Z x.2)/\s 19=ic i/\AD l σ'/\c.B<σ'.B/\σ'.C c.B=[ic f,ic g,ic j]/\AC ([f,g,j]∉x.2.take i)) (Z x.2)
  ⟨0,AA,AA,AG,AG,AG,rfl,K,BJ,by rw[Ak],by simp[AC]⟩ ?_
 clear K;rintro m s σ' ⟨i,rfl,hi,h5,a8,a7,a6,A,ax,au,u⟩;have av:=A.B;by_cases S:i<Z x.2
 ·have t:=AK S;obtain⟨p,q,r,rr,N,hd⟩:=uQ I t;rw[N]at t;clear N;have G:AC (x.2[i]?=some [p,q,r]):=t;clear t;by_cases y:p=f/\q=g/\r=j
  ·obtain⟨rfl,rfl,rfl⟩:=y;have o:decide (L∈x.2)=true:=by rw[E.o];simpa using AY G.o
   refine mr ?_
   first|exact⟨_,rfl,rfl,Xs⟩|exact⟨_,rfl,by rw[o],Xs⟩|(refine⟨_,rfl,?_⟩;((repeat' refine Zi ?_ ?_)<;>first|exact Xq|exact (by rw[o])|exact Xs))
  have a5:(p==f&&q==g&&r==j)=false:=by
   cases h:(p==f&&q==g&&r==j)with
   |false=>rfl
   |true=>simp at h;exact absurd ⟨h.1.1,h.1.2,h.2⟩ y
  have Q:AC ([f,g,j]∉x.2.take (i+1)):=Yl u.o G.o (λe=>by simp at e;exact y ⟨e.1,e.2.1,e.2.2⟩);clear y u;refine mr ?_;refine⟨Z x.2-(i+1),AA,i+1,?_⟩;exact m9 Q
 have ap:i=Z x.2:=AA;subst ap;rw[AS]at u;have o:decide (L∈x.2)=false:=by rw[E.o];simpa using u.o
 refine mr ?_
 first|exact⟨_,rfl,rfl,A⟩|exact⟨_,rfl,rfl⟩|exact⟨_,rfl,by rw[o],A⟩|exact⟨_,rfl,by rw[o]⟩
structure KM (om ot:Nat)(M M':MM)(σ σ':St):Prop where
 B:σ.B<=σ'.B
 C:∀o,o<σ.B->o≠om->o≠ot->σ'.C o=σ.C o
 ver:∀o,o<σ.B->o≠om->o≠ot->σ'.ver o=σ.ver o
 D:σ.D<=σ'.D
 top:∀k,k<σ.D->(∀x∈M,x.1≠k+2)->σ'.top k=σ.top k
 mid:∀x∈M',(∃y∈M,y.1=x.1)\/x.1=1\/σ.D+2<=x.1
def KM.ofKeep {f c M b σ'}(h:AD b σ'):KM f c M M b σ':=
 ⟨h.B,λo a _ _=>h.C o a,λo a _ _=>h.ver o a,h.D,λk e _=>h.top k e,λx d=>.inl ⟨x,d,rfl⟩⟩
def KM.trans {j i M p M2 m a c}(h:KM j i M p m a)(g:KM j i p M2 a c):KM j i M M2 m c where
 B:=BI h.B g.B
 C:=λo b d h2=>(g.C o (BZ b h.B) d h2).trans (h.C o b d h2)
 ver:=λo b d h2=>(g.ver o (BZ b h.B) d h2).trans (h.ver o b d h2)
 D:=BI h.D g.D
 top:=λk n f=>(g.top k (BZ n h.D) (λx r e=>by
  rcases h.mid x r with⟨y,l,e2⟩|e2|e2;exact f y l (e2.trans e);omega
  omega)).trans (h.top k n f)
 mid:=λx f=>by
  rcases g.mid x f with⟨y,l,e⟩|e|e;rcases h.mid y l with⟨z,q,e2⟩|e2|e2;exact .inl ⟨z,q,e2.trans e⟩;exact .inr (.inl AA);exact .inr (.inr AA);exact .inr (.inl e);exact .inr (.inr (by have:=h.D;omega))
def Ty {P t z b i a id f n m c xs d K}(v:P0 P t=some (z,b,i))(p:Live a id n)
  (r:0<z) (e:Z i=z) (g:Z xs=n*z) (u:Z d=m*z) (x:d.all flat=true) (l:0<m) (y:(n+m)*b<=140737488355328) (s:n+m<=1099511627776)
  (h:∀id' σ',Live σ' id' (n+m)->(id'=id\/a.D+2<=id')->id'≠1->σ'.C=a.C->σ'.B=a.B->σ'.ver=a.ver->a.D<σ'.D->(∀k,k<a.D->k+2≠id->σ'.top k=a.top k)->K (sl id' (n+m) (xs++d)) σ'):Jx P t t (sl id n xs) (sl f m d) (a.lay c) K:=by
 unfold Jx iK;left;simp only[v];rw[if_pos ⟨trivial,r,e,g,u,x,l,y,s⟩];rcases p with⟨rfl,rfl⟩|⟨k,rfl,h3,h4,h5⟩;have A:xs=[]:=GG (nn g);subst A;have:=h ((a.lay c).D+2) ((a.lay c).lay m) (.inr ⟨(a.lay c).D,rfl,by simp[St.lay],by simp[St.lay],AA⟩) (.inr (by simp[St.lay])) nk rfl rfl rfl (by simp[St.lay];omega) (λk q _=>(((AD.refl a).lay c).lay m).top k q);simpa using this;have o:(a.lay c).top k=n:=by simp[St.lay];rw[if_neg AA];exact h4
 simp only;rw[if_pos ⟨o,h5⟩]
 exact h (k+2) _ (.inr ⟨k,rfl,by simp[St.raise,St.lay];omega,by simp[St.raise],AA⟩) (.inl rfl) AA rfl rfl rfl (by simp[St.raise,St.lay]) (λj C B=>by
  simp[St.raise,St.lay]
  rw[if_neg AA,if_neg AA])
def BL.grow {f σ' v p M d b k id' x t}(c:BL f v p M d b)(A:M[k]?=some x)(P:Z t=3)(T:Z x.2<5000)
  (L:Live σ' id' (Z x.2+1)) (s:id'=x.1\/f.D+2<=id') (S:id'≠1) (r:∀o,o<f.B->o≠p->σ'.C o=f.C o) (K:∀o,o<f.B->o≠p->σ'.ver o=f.ver o) (D:σ'.C p=(Gp M).set k (sl id' (Z x.2+1) (Fg x.2++As t))) (m:f.B<=σ'.B) (g:f.D<=σ'.D)
  (l:∀j,j<f.D->j+2≠x.1->σ'.top j=f.top j):BL σ' v p (M.set k (id',x.2++[t])) d b/\KM v p M (M.set k (id',x.2++[t])) f σ':=by
 have C:=AY A;have I:k<Z M:=(BA.1 A).1;have B:∀(i:Nat) (y:Nat×List Ck),M[i]?=some y->i≠k->Live σ' y.1 (Z y.2)/\(y.1=1\/y.1≠id'):=λi y a q=>by
  have R:=AY a;rcases c.live y R with h|⟨j,e1,e2,e3,e4⟩;exact⟨.inl h,.inl h.1⟩;have U:y.1≠x.1:=by
   rcases c.inj i k y x a A q with h|h;omega;exact h
  refine⟨.inr ⟨j,e1,BZ e2 g,(l j e2 AA).trans e3,e4⟩,.inr ?_⟩;rcases s with h|h<;>omega
 have z:∀(i:Nat) (y:Nat×List Ck),(M.set k (id',x.2++[t]))[i]?=some y->(i=k/\y=(id',x.2++[t]))\/(i≠k/\M[i]?=some y):=λi y a=>by
  rw[GH]at a;by_cases e:k=i;subst e;rw[if_pos rfl,if_pos I]at a;exact .inl ⟨rfl,(Gf a).symm⟩;rw[if_neg e]at a;exact .inr ⟨λh=>e h.symm,a⟩
 have F:∀y∈M.set k (id',x.2++[t]),y=(id',x.2++[t])\/y∈M:=λy a=>(NI a).symm;have J:∀y∈M.set k (id',x.2++[t]),∃i,(M.set k (id',x.2++[t]))[i]?=some y:=λy a=>CL a;refine⟨⟨?_,?_,BZ c.lo m,BZ c.lt m,c.ne,?_,?_,?_,?_,by simp;exact c.pl⟩,⟨m,λo G E n=>r o G n,λo G E n=>K o G n,g,λj N h=>l j N (λe=>h x C e.symm),?_⟩⟩;rw[r v c.lo c.ne,c.ob];simp;rw[D];unfold Gp;rw[List.map_set];congr 1;simp[Fg];intro y a;obtain⟨i,Q⟩:=J y a;rcases z i y Q with⟨-,rfl⟩|⟨q,ad⟩;simpa using L;exact (B i y ad q).1;intro i j y w a H q;rcases z i y a with⟨rfl,rfl⟩|⟨E,ad⟩;rcases z j w H with⟨rfl,rfl⟩|⟨n,af⟩;exact absurd rfl q;have:=(B j w af n).2;simp only;by_cases e:id'=w.1;rcases this with h|h;omega;omega;exact .inr e;rcases z j w H with⟨rfl,rfl⟩|⟨n,af⟩;exact (B i y ad E).2;exact c.inj i j y w ad af q;intro y a;rcases F y a with rfl|a;intro u O;rcases AW.1 O with h|h;exact c.t3 x C u h;simp at h;subst h;exact P;exact c.t3 y a;intro y a;rcases F y a with rfl|a;simp;omega;exact c.ln y a;intro y a;rcases F y a with rfl|a;rcases s with h|h;exact .inl ⟨x,C,h.symm⟩;exact .inr (.inr h);exact .inl ⟨y,a,rfl⟩
def Y4 (om ot M d b a)(id k:Nat)(x)(ha:Z a.ts<=3)(D:a.p=(k:Int))(u:M[k]?=some x)(hn:Z x.2<5000)(g)(l:BL g om ot M d b):ni 82 [ptr om 0,ag [ic a.p,sl id (Z a.ts) (Ad a.ts)]] g λr σ'=>∃id',BL σ' om ot (M.set k (id',x.2++[C4 a])) d b/\KM om ot M (M.set k (id',x.2++[C4 a])) g σ':=by
 have U:Z a.ts<=1000:=AA;have H:=λg=>Ue a.p id a.ts U g;have G:=AY u;have z:=l.t3 x G;have Y:=l.live x G;have au:=J4 z;have a0:k<Z M:=(BA.1 u).1;have hpl:=l.pl;have az:=Ji M;have a3:=Jj u;have lo:=l.lo;have V:=l.lt;have X:=l.ob;have O:=l.oc;rw[D];rw[D]at H;have v:Z (Ej (a.ts.map (·.2)))=3:=rfl;have K:AC (C4 a=Ej (a.ts.map (·.2))):=rfl;generalize C4 a=J at*
 generalize Ej (a.ts.map (·.2))=P at*
 have w1:=Io v;have T:=Fo P;have w4:=Qj v;refine Z9 23 [] Tryz.func82 ?_;refine mr ?_;refine A2 (Q:=λe L σ'=>e= .normal/\∃id',BL σ' om ot (M.set k (id',x.2++[J])) d b/\KM om ot M (M.set k (id',x.2++[J])) g σ') ?_ ?_;refine Ar Ag (λ_=>True) [19] [0,1,2,3,4,5,6,7,8,9,10,11,12,13,14] 5 (nv 20 32767) AH (λ_ _ _ h=>by cases h.1) ?_;intro yb ya;refine Z3 ?_;refine ya.o _ ?_;clear ya yb;refine Ai (i:=15) AH ?_;refine Am ?_;intro yb ya;refine Z3 ?_;refine AF.mono (H _) ?_;rintro _ m ⟨rfl,q⟩;refine Z3 ?_;refine ya.o _ _ ⟨Al q,?_⟩;clear ya yb;have W:=q.B;simp only[Aa]at W;have f:AD g m:=((AD.refl g).new _).trans q;have e1:m.C om=[fx ot 0 (Z M),ic d,ic b]:=by rw[f.C _ lo,X]
 have e2:m.C ot=Gp M:=by rw[f.C _ V,O]
 refine Ai (i:=16) AH ?_;refine Am ?_;intro yb ya;refine Z3 ?_;refine ya.o _ _ ⟨Al (q.lay 1),?_⟩;clear ya yb;refine Ai (i:=17) AH ?_;refine Am ?_;intro yb ya;refine Z3 ?_;refine Ty (by first|exact G6) (Y.keep f) nr (by rfl) au (by rw[w1]) T nr AA AA ?_;intro p A ax R N E ae B ad t;have e3:A.C ot=Gp M:=by rw[E,e2]
 refine Z3 ?_;refine ya.o _ _ ⟨λ_ o n _=>by rw[B];exact q.ver o n,?_⟩;clear ya yb;refine Ai (i:=18) AH ?_;refine Am ?_;intro yb ya;refine Z3 ?_;refine ya.o _ _ ⟨λ_ o n _=>by rw[B];exact q.ver o n,?_⟩;clear ya yb;refine Ai (i:=19) AH ?_;refine Am ?_;intro yb ya;refine Z3 ?_;refine ya.o _ _ ⟨A3 rfl,?_⟩;clear ya yb;refine Aw AH ⟨rfl,p,?_⟩;rw[K.o];refine BL.grow l u v hn ?_ ?_ N ?_ ?_ ?_ ?_ ?_ ?_;rcases ax with h|⟨j,C,y,z,h4⟩;exact .inl h;exact .inr ⟨j,C,y,z,h4⟩;have:=f.D;rcases R with h|h;exact .inl h;exact .inr AA;intro o n s;rw[show∀(S:St) c,(S.put ot c).C o=S.C o from λS c=>by simp[St.put,s],E,f.C o n];intro o n s;rw[show∀(S:St) c,(S.put ot c).ver o=S.ver o from λS c=>by simp[St.put,s],B,f.ver o n];rw[Ak];have:=f.B;simp only[Ac];omega;have:=f.D;simp only[Nc];omega;intro j F s;rw[Og,t j (BZ F f.D) s,f.top j F];rintro e L I ⟨rfl,p,C,y⟩;refine mr ?_;exact⟨_,rfl,p,C,y⟩
def H1 (M:MM):List Int:=M.map λx=>(Z x.2:Int)
def Sc (om ot M d b σ)(f:BL σ om ot M d b):ni 137 [ptr om 0] σ λr σ'=>(∃id,r=sl id (Z M) (As (H1 M)))/\AD σ σ':=by
 have v:=f.pl;have K:=Ji M;have H:=f.lo;have o:=f.lt;have F:=f.ob;have t:=f.oc;refine Z9 23 [.tmp 2] Tryz.func137 ?_;refine mr ?_
 refine Ae (λm s σ'=>∃(i e:Nat) (a:oh),m=Z M-i/\i<=Z M/\s 3=sl e i a/\s 10=fx ot 0 (Z M)/\s 11=ic (Z M)/\s 12=ic i/\AD σ σ'/\Own σ σ' e i/\Z a=i/\AC (a=As (H1 (M.take i)))) (Z M)
  ⟨0,1,[],AA,AA,AG,AG,AG,rfl,Xs,Own.nil _ _,nk,by simp[AC,H1,As]⟩ ?_
 rintro m s σ' ⟨i,e,a,rfl,J,E,Q,P,O,j,D,R,c⟩;have N:=j.B;have e2:σ'.C ot=Gp M:=by rw[j.C _ o,t]
 by_cases l:i<Z M;have g:=AK l;have p:=Jj g;have y:=f.ln _ (AR l);generalize M[i]=x at g p y;have q:AC (a++[ic (Z x.2:Int)]=As (H1 (M.take (i+1)))):=by
  rw[AC,AT,g,c.o];simp[H1,As]
 clear g c;have L:Z a=i*1:=AA;refine m5 ?_;intro yb ya;intro k u z B A I C G;refine mr ?_;refine⟨Z M-(i+1),AA,i+1,k,a++[ic (Z x.2:Int)],?_⟩;exact m9 q;have n:i=Z M:=AA;subst n;have c:=c.o;rw[AS]at c;refine mr ?_
 first|exact⟨_,rfl,⟨e,by rw[c]⟩,j⟩|exact⟨_,rfl,e,by rw[c]⟩|exact⟨_,rfl,⟨e,rfl⟩⟩
structure Lit where
 neg:Bool
 a:Dx
structure E3 where
 h:Dx
 A:List Lit
def Sq (l:Lit)(c:oh):Prop:=∃id,c=[my l.neg,ic l.a.p,sl id (Z l.a.ts) (Ad l.a.ts)]
def Hk (a c)(h:Sq a c):Z c=3:=by obtain⟨id,rfl⟩:=h;rfl
def H8 {l cs i p}(h:EL Sq l cs)(a:l[i]?=some p):∃id r,cs.drop (i*3)=my p.neg::ic p.a.p::sl id (Z p.a.ts) (Ad p.a.ts)::r:=by
 obtain⟨c,r,⟨id,rfl⟩,e⟩:=EL.get Hk h a;exact⟨id,r,e⟩
def pK (r:E3)(c:oh):Prop:=∃o b d a,c=[my o,ic r.h.p,sl b (Z r.h.ts) (Ad r.h.ts),sl d (Z r.A) a]/\EL Sq r.A a
def Ba (M:MM)(p:Int):List Ck:=((M[p.toNat]?).map (·.2)).getD []
def Zq (M:MM)(a:Int)(b:Nat)(i:Nat)(l:Lit):List Ck:=if (i:Int)=a then (Ba M l.a.p).drop b else Ba M l.a.p
def oR (M:MM)(b:Int)(a:Nat)(x:Lit×Nat):Part:=⟨x.1.a,(Zq M b a x.2 x.1).filter (Mp x.1.a.ts)⟩
def Pf (M:MM)(a:Int)(b:Nat)(l:List Lit):List Part:=(l.zipIdx.filter λx=>!x.1.neg).map (oR M a b)
def Tv (l:List Lit):List Dx:=(l.filter (·.neg)).map (·.a)
def Mc (M:MM)(b:Int)(a:Nat)(r:E3):AZ:=⟨r.h,Pf M b a r.A,Tv r.A⟩
structure TS (np:Nat)(r:E3):Prop where
 hd:Z r.h.ts<=3
 hp:∃k:Nat,r.h.p=(k:Int)/\k<np
 bl:Z r.A<=64
 ba:∀l∈r.A,Z l.a.ts<=3
 bp:∀l∈r.A,∃k:Nat,l.a.p=(k:Int)/\k<np
def zL (M nw fr l w):Pf M nw fr (l++[w])=Pf M nw fr l++if w.neg=true then []else [oR M nw fr (w,Z l)]:=by
 unfold Pf;rw[List.zipIdx_append,IR,EU];congr 1;cases h:w.neg<;>simp[h]
def zK (l w):Tv (l++[w])=Tv l++if w.neg=true then [w.a]else []:=by
 unfold Tv;rw[IR,EU];congr 1;cases h:w.neg<;>simp[h]
def Y8 {α:Type}(l:List α)(fr k){x}(a:l[k]?=some x):(l.take (k+1)).drop fr=(l.take k).drop fr++if fr<=k then [x]else []:=by
 have b:=(BA.1 a).1;rw[AT,a,BN,List.drop_append,CN,ER AA];congr 1;by_cases h:fr<=k;rw[if_pos h,show fr-k=0 by omega];rfl;rw[if_neg h,JU (by simp;omega)]
def Zv (i:Nat)(a:Int)(b:Nat)(c:List Tm)(l:List Ck)(j:Nat):List Ck:=(if (i:Int)=a then (l.take j).drop b else l.take j).filter (Mp c)
def zM {i b c a l j t}(f:l[j]?=some t):Zv i b c a l (j+1)=Zv i b c a l j++if (((i:Int)≠b\/c<=j)/\Mp a t=true)then [t]else []:=by
 unfold Zv;by_cases e:(i:Int)=b;rw[if_pos e,if_pos e,Y8 _ _ _ f,IR];congr 1;by_cases g:c<=j;cases d:Mp a t<;>simp[g,d];simp[g,e];rw[if_neg e,if_neg e,AT,f,BN,Em];congr 1;cases d:Mp a t<;>simp[e]
def eV (om ot M d b r c nw)(f:Nat)(hc:pK r c)(hr:TS (Z M) r)(cq:f<=100000)(g)(R:BL g om ot M d b):ni 138 [ptr om 0,ag c,ic nw,ic f] g λx σ'=>(∃c',x=ag c'/\EQ (Mc M nw f r) c')/\AD g σ':=by
 obtain⟨o,ih,ib,bc,rfl,hB⟩:=hc;have cr:=EL.length Hk hB;have hl:=hr.bl;have hpl:=R.pl;have ci:=Ji M;have lo:=R.lo;have lt:=R.lt;have obm:=R.ob;have ocm:=R.oc;refine Z9 82 [.cell 8 191] Tryz.func138 ?_;refine mr ?_
 refine Ae (λm s σ'=>∃(i u E:Nat) (n:List Part) (q:List Dx) (F G:oh),m=Z r.A-i/\i<=Z r.A/\s 0=ptr om 0/\s 2=ic nw/\s 3=ic f/\s 8=ptr (g.B+1) 0/\s 9=ptr (g.B+2) 0/\s 19=sl ib (Z r.A) bc/\s 20=ic (Z r.A)/\s 21=ic i/\AD g σ'/\g.B+2<σ'.B/\σ'.C (g.B+1)=[ic 0,nilS,nilS,nilS]/\σ'.C (g.B+2)=[ic r.h.p,sl ih (Z r.h.ts) (Ad r.h.ts),sl u (Z n) F,sl E (Z q) G]/\Own g σ' u (Z n)/\Own g σ' E (Z q)/\(u=1\/u≠E)/\Z n<=i/\Z q<=i/\Z F=Z n*3/\Z G=Z q*2/\AC (EL Oa n F/\EL O9 q G/\n=Pf M nw f (r.A.take i)/\q=Tv (r.A.take i))) (Z r.A)
  ⟨0,1,1,[],[],[],[],AA,AA,by simp[upd,AL],by simp[upd,AL],by simp[upd,AL],AG,AG,AG,AG,rfl,Xs,BJ,?_,?_,Own.nil _ _,Own.nil _ _,.inl rfl,nk,nk,nk,nk,⟨rfl,rfl,by simp[Pf],by simp[Tv]⟩⟩ ?_
 ·rw[Aj AA,Ah AM,Be AM AM]
 ·rw[show g.B+2=g.B+1+1 from rfl,Ak];simp
 rintro m s σ' ⟨i,u,E,n,q,F,G,rfl,hi,h0,h2,h3,h8,h9,b0,bz,bw,v,ch,a8,a7,K,N,b9,cn,cm,b6,b5,hX⟩;have cf:=v.B;have em:σ'.C om=[fx ot 0 (Z M),ic d,ic b]:=by rw[v.C _ lo,obm]
 have et:σ'.C ot=Gp M:=by rw[v.C _ lt,ocm]
 by_cases bh:i<Z r.A
 ·have J:=AK bh;obtain⟨id,rr,hd⟩:=H8 hB J;have bq:=hr.ba _ (AR bh);obtain⟨k,hk,ca⟩:=hr.bp _ (AR bh);generalize r.A[i]=w at hd J bq hk;have V:AC (Pf M nw f (r.A.take (i+1))=Pf M nw f (r.A.take i)++(if w.neg=true then []else [oR M nw f (w,i)])/\Tv (r.A.take (i+1))=Tv (r.A.take i)++if w.neg=true then [w.a]else []):=by
   rw[AC,AT,J,BN,zL,zK,CN,ER AA];exact⟨rfl,rfl⟩
  clear J;cases S:w.neg with
  |true=>
   rw[S]at hd;have HX:AC (EL Oa n F/\EL O9 (q++[w.a]) (G++[ic w.a.p,sl id (Z w.a.ts) (Ad w.a.ts)])/\n=Pf M nw f (r.A.take (i+1))/\q++[w.a]=Tv (r.A.take (i+1))):=by
    obtain⟨D,C,P,O⟩:=hX.o;exact⟨D,EL.append C (EL.single ⟨id,rfl⟩),by rw[V.o.1,if_pos S,EJ,P],by rw[V.o.2,if_pos S,O]⟩
   clear hX V;refine nh ?_;intro yb ya;refine Ie (by first|exact F5|exact G6|exact Ee) ((v.new _).put v.B _) (Own.put (Own.new N _) _ _) nr (by rfl) b5 (by rfl) (by rfl) nr AA AA ?_;intro y H Y W ac aa ad ab T;obtain⟨az,b8⟩:=T u (Z n) (Own.put (Own.new K _) _ _) AA;have bd:u=1\/u≠y:=AA;simp only[Ac,Aa]at aa;have eob:∀p,p<σ'.B->H.C p=σ'.C p:=λp hp=>by rw[ac,Aj AA,Ah AA]
   refine Z3 ?_;refine mr ?_;refine⟨Z r.A-(i+1),AA,i+1,u,y,n,q++[w.a],F,G++[ic w.a.p,sl id (Z w.a.ts) (Ad w.a.ts)],?_⟩
   ((repeat' refine Zi ?_ ?_)<;>first|exact Xq|exact (W.put AA _)|exact (nn (Own.put Y _ _))|exact (Own.put az _ _)|exact HX|exact Xs)
  |false=>
   rw[S]at hd;have ap:M[k]?=some M[k]:=AK ca;generalize M[k]=x at ap;have bn:=AY ap;have cp:=Jj ap;have bv:=R.t3 x bn;have cj:=R.ln x bn;have cg:=J4 bv;have HT:AC (Ba M w.a.p=x.2):=by rw[AC,Ba,hk];simp[ap]
   rw[hk]at hd;have br:AC _:=hX;refine mr ?_;refine Ax Ag (λ_=>True) [] [0,1,2,3,4,5,6,7,8,9,10] [] AH (λ_ _ _ h=>h) ?_;intro yb ya;refine mr ?_
   refine Ae (λm s a=>∃(j A:Nat) (l:List Ck) (B:oh),m=Z x.2-j/\j<=Z x.2/\s 0=ptr om 0/\s 2=ic nw/\s 3=ic f/\s 8=ptr (g.B+1) 0/\s 9=ptr (g.B+2) 0/\s 10=ic i/\s 11=ptr σ'.B 0/\s 12=ptr (σ'.B+1) 0/\s 19=sl ib (Z r.A) bc/\s 20=ic (Z r.A)/\s 21=ic i/\s 46=sl x.1 (Z x.2) (Fg x.2)/\s 47=ic (Z x.2)/\s 48=ic j/\AD g a/\σ'.B+1<a.B/\a.C (g.B+1)=[ic 0,nilS,nilS,nilS]/\a.C (g.B+2)=[ic r.h.p,sl ih (Z r.h.ts) (Ad r.h.ts),sl u (Z n) F,sl E (Z q) G]/\a.C σ'.B=[my false,ic (k:Int),sl id (Z w.a.ts) (Ad w.a.ts)]/\a.C (σ'.B+1)=[ic (k:Int),sl id (Z w.a.ts) (Ad w.a.ts),sl A (Z l) B]/\Own g a u (Z n)/\Own g a E (Z q)/\Own g a A (Z l)/\(A=1\/A≠u)/\(A=1\/A≠E)/\Z l<=j/\Z B=Z l*3/\AC (B=Fg l/\l=Zv i nw f w.a.ts x.2 j)) (Z x.2)
    ⟨0,1,[],[],AA,AA,AI,AI,AI,AI,AI,AI,AI,AI,AI,AI,AI,AI,AI,AG,Xs,BJ,?_,?_,?_,?_,Own.put (Own.new (Own.put (Own.new K _) _ _) _) _ _,Own.put (Own.new (Own.put (Own.new N _) _ _) _) _ _,Own.nil _ _,.inl rfl,.inl rfl,nk,nk,⟨rfl,by simp[Zv]⟩⟩ ?_
   ·rw[Aj AA,Ah BJ,Aj AA,Ah AA,a8]
   ·rw[Aj AA,Ah BJ,Aj AA,Ah AA,a7]
   ·rw[Aj AA,Ah BJ,Ak]
   ·rw[Ak];simp
   generalize bm:σ'.B=o11 at*
   clear bm h0 h2 h3 h8 h9 b0 bz bw v a8 a7 K N em et hX;rintro m s a ⟨j,A,l,B,rfl,hj,h0,h2,h3,h8,h9,cx,cw,cv,b0,bz,bw,cu,ct,h48,v,b7,a8,a7,b2,b1,K,N,bi,bf,be,ck,b4,L⟩;have b3:=v.B;by_cases bg:j<Z x.2
   ·have J:=AK bg;obtain⟨Q,r2,cd⟩:=Kw bv J;generalize x.2[j]=t at cd J Q;have U:AC (Zv i nw f w.a.ts x.2 (j+1)=Zv i nw f w.a.ts x.2 j++if (((i:Int)≠nw\/f<=j)/\Mp w.a.ts t=true)then [t]else []):=zM J;clear J;have f1:=Io Q;have f2:=Ow Q;have f3:=Jm Q;have f4:=Qj Q;have f5:=Fo t;have f6:=eM Q;have a6:=λg=>sI k id w.a.ts t Q bq g;by_cases I:(i:Int)≠nw\/f<=j
    ·cases hf:Mp w.a.ts t with
     |true=>
      rw[hf]at a6;have HZ:AC (B++As t=Fg (l++[t])/\l++[t]=Zv i nw f w.a.ts x.2 (j+1)):=by
       obtain⟨D,C⟩:=L.o;exact⟨by rw[D,Q9],by rw[U.o,if_pos ⟨I,hf⟩,C]⟩
      clear L U;have hs:((i:Int) !=nw)=true\/(((i:Int) !=nw)=false/\decide ((j:Int)>=(f:Int))=true):=by
       by_cases e:(i:Int)=nw
       ·right;have:f<=j:=by rcases I with h|h;exact absurd e h;exact h
        exact⟨by simp[e],by simp;omega⟩
       left;simpa using e
      clear I;rcases hs with a5|⟨a5,bo⟩
      all_goals
       refine m0 ?_;intro yb ya;refine Xi (a6 _) ?_;rintro _ _ ⟨rfl,z⟩;(have aw:=z.B;have X:=z.C;have bu:=((v.new _).put v.B _).trans z;have a4:=Own.keep (Own.put (Own.new K _) _ _) z;have a3:=Own.keep (Own.put (Own.new N _) _ _) z;have a0:=Own.keep (Own.put (Own.new bi _) _ _) z;simp only[Ac,Aa]at aw X;have a9:=X a.B AA;rw[Ak]at a9);refine nh ?_;intro yb ya;refine Ie (by first|exact F5|exact G6|exact Ee) bu a0 nr (by rfl) b4 (by rw[f1]) f5 nr AA AA ?_;intro y H Y W ac aa ad ab T;obtain⟨az,bd⟩:=T u (Z n) a4 bf;obtain⟨ay,bb⟩:=T E (Z q) a3 be;have eob:∀p,p<a.B->H.C p=a.C p:=λp hp=>by rw[ac,X _ AA,Aj AA,Ah AA]
       refine Z3 ?_;refine mr ?_;refine⟨Z x.2-(j+1),AA,j+1,y,l++[t],B++As t,?_⟩
       ((repeat' refine Zi ?_ ?_)<;>first|exact Xq|exact (W.put AA _)|exact (nn (Own.put Y _ _))|exact (Own.put az _ _)|exact (Own.put ay _ _)|exact HZ|exact Xs)
     |false=>
      rw[hf]at a6;have HZ:AC (B=Fg l/\l=Zv i nw f w.a.ts x.2 (j+1)):=by
       obtain⟨D,C⟩:=L.o;exact⟨D,by rw[U.o,if_neg (λh=>by rw[hf]at h;cases h.2),C,EJ]⟩
      clear L U;have hs:((i:Int) !=nw)=true\/(((i:Int) !=nw)=false/\decide ((j:Int)>=(f:Int))=true):=by
       by_cases e:(i:Int)=nw
       ·right;have:f<=j:=by rcases I with h|h;exact absurd e h;exact h
        exact⟨by simp[e],by simp;omega⟩
       left;simpa using e
      clear I;rcases hs with a5|⟨a5,bo⟩
      all_goals
       refine m0 ?_;intro yb ya;refine Xi (a6 _) ?_;rintro _ _ ⟨rfl,z⟩;(have aw:=z.B;have X:=z.C;have bu:=((v.new _).put v.B _).trans z;have a4:=Own.keep (Own.put (Own.new K _) _ _) z;have a3:=Own.keep (Own.put (Own.new N _) _ _) z;have a0:=Own.keep (Own.put (Own.new bi _) _ _) z;simp only[Ac,Aa]at aw X);refine mr ?_;refine⟨Z x.2-(j+1),AA,j+1,A,l,B,?_⟩;exact m9 HZ
    have HZ:AC (B=Fg l/\l=Zv i nw f w.a.ts x.2 (j+1)):=by
     obtain⟨D,C⟩:=L.o;exact⟨D,by rw[U.o,if_neg (λh=>I h.1),C,EJ]⟩
    have a5:((i:Int) !=nw)=false:=by
     cases h:(i:Int) !=nw with
     |false=>rfl
     |true=>exact absurd (.inl (nn h)) I
    have bo:decide ((j:Int)>=(f:Int))=false:=by
     have:¬f<=j:=λh=>I (.inr h);simp;omega
    clear L U I;refine mr ?_;refine⟨Z x.2-(j+1),AA,j+1,A,l,B,?_⟩
    ((repeat' refine Zi ?_ ?_)<;>first|exact Xq|exact (Own.put (Own.new K _) _ _)|exact (Own.put (Own.new N _) _ _)|exact (Own.put (Own.new bi _) _ _)|exact HZ|exact Xs)
   have cb:j=Z x.2:=AA;subst cb;have HX:AC (EL Oa (n++[⟨w.a,l⟩]) (F++[ic (k:Int),sl id (Z w.a.ts) (Ad w.a.ts),sl A (Z l) B])/\EL O9 q G/\n++[⟨w.a,l⟩]=Pf M nw f (r.A.take (i+1))/\q=Tv (r.A.take (i+1))):=by
    obtain⟨D,C,P,O⟩:=br.o;obtain⟨z1,z2⟩:=L.o;refine⟨EL.append D (EL.single ⟨id,A,by rw[hk,z1]⟩),C,?_,by rw[V.o.2,if_neg (by rw[S];simp),EJ,O]⟩;rw[V.o.1,if_neg (by rw[S];simp),P];congr 2;unfold oR Zq;simp only[HT.o];rw[z2];unfold Zv;rw[AS]
   clear L br V;have ce:True->Own g a u (Z n):=λ_=>K;clear K;refine nh ?_;intro yb ya;refine Ie (by first|exact F5|exact G6|exact Ee) v (ce trivial) nr (by rfl) b6 (by rfl) (by rfl) nr AA AA ?_;intro y H Y W ac aa ad ab T;obtain⟨ay,bb⟩:=T E (Z q) N b9;refine Z3 ?_;refine mr ?_;refine⟨Z r.A-(i+1),AA,i+1,y,E,n++[⟨w.a,l⟩],q,F++[ic (k:Int),sl id (Z w.a.ts) (Ad w.a.ts),sl A (Z l) B],G,?_⟩
   ((repeat' refine Zi ?_ ?_)<;>first|exact Xq|exact (W.put AA _)|exact (nn (Own.put Y _ _))|exact (Own.put ay _ _)|exact HX|exact Xs)
 have cc:i=Z r.A:=AA;subst cc;obtain⟨D,C,P,O⟩:=hX.o;rw[AS]at P O;refine mr ?_;exact⟨_,rfl,⟨_,rfl,ih,u,E,F,G,by first|(simp only[Mc];done)|(simp only[Mc];rw[P,O]),by simp only[Mc];rw[<-P];exact D,by simp only[Mc];rw[<-O];exact C⟩,v.put AA _⟩
abbrev Nu:=Int->Int
def Ei (ν:Nu)(t:Tm):Int:=if t.1=true then ν t.2 else t.2
def B8 (a:Dx)(ν:Nu):Ck:=Ej (a.ts.map (Ei ν))
def Pd (ν:Nu)(v n:Int):Nu:=λw=>if w=v then n else ν w
def AO {a v}:Bm a v=true↔(true,v)∈a:=by simp[Bm]
def Ft {a ν ν'}(h:∀v,Bm a.ts v=true->ν v=ν' v):B8 a ν=B8 a ν':=by
 unfold B8;congr 1;apply CG;intro t c;unfold Ei;split;rename_i b;exact h t.2 (AO.2 (by obtain⟨x,y⟩:=t;simp at b;subst b;exact c));rfl
def Ku {l i}(h:i<Z l)(d:Z l<=3):(Ej l)[i]?=some l[i]:=by
 match l,d with
 |[],_=>simp at h
 |[a],_=>simp at h;subst h;rfl
 |[a,b],_=>
  rcases (show i=0\/i=1 by simp at h;omega)with rfl|rfl<;>rfl
 |[a,b,c],_=>
  rcases (show i=0\/i=1\/i=2 by simp at h;omega)with rfl|rfl|rfl<;>rfl
def J5 {a ν v}(c:Z a.ts<=3)(d:Bm a.ts v=true):Iu (B8 a ν) (Jp a.ts v)=ν v:=by
 have b:=AO.1 d;have e:=List.idxOf_lt_length_iff.2 b;unfold Iu Jp;rw[if_pos b,DK,B8,Ku (nn e) (nn c)];simp[Ei]
def Lq (a v n ν):B8 (Gg v n a) ν=B8 a (Pd ν v n):=by
 unfold B8 Gg Bt;congr 1;rw[BH];apply CG;intro t c;obtain⟨b,w⟩:=t;show Ei ν (aS v n (b,w))=Ei (Pd ν v n) (b,w);by_cases h:(b,w)=(true,v);cases h;simp[aS,Ei,Pd];rw[show aS v n (b,w)=(b,w)from if_neg h];cases b with
 |false=>simp[Ei]
 |true=>
  have:w≠v:=λe=>h (by rw[e]);simp[Ei,Pd,this]
def CP {a v n w}:Bm (Gg v n a).ts w=true↔Bm a.ts w=true/\w≠v:=by
 rw[AO,AO];unfold Gg Bt;rw[AN];constructor;rintro⟨t,c,e⟩;unfold aS at e;split at e;cases e;rename_i b;subst e;exact⟨c,λe=>b (by rw[e])⟩;rintro⟨h,b⟩;refine⟨(true,w),h,?_⟩;unfold aS;rw[if_neg (λe=>b (by cases e;rfl))]
def Mq (neg:Int->Ck->Prop)(q:AZ)(ν:Nu):Prop:=(∀p∈q.A,B8 p.a ν∈p.A)/\∀a∈q.B,¬neg a.p (B8 a ν)
def WP (q:AZ):Prop:=∀p∈q.A,Z p.a.ts<=3/\∀t∈p.A,∃a,t=B8 p.a a
def U7 {neg q v n ν}(i:WP q):Mq neg (Dl v n q) ν↔Mq neg q (Pd ν v n):=by
 have d:∀p∈q.A,(B8 (Iv v n p).a ν∈(Iv v n p).A↔B8 p.a (Pd ν v n)∈p.A):=λp d=>by
  unfold Iv;by_cases c:Bm p.a.ts v=true;rw[if_pos c];show B8 (Gg v n p.a) ν∈_↔_;rw[Lq,BP];constructor;exact λh=>h.1;intro h;refine⟨h,?_⟩;rw[J5 (i p d).1 c];simp[Pd];rw[if_neg c]
  rw[Ft (ν:=ν) (ν':=Pd ν v n) (λw j=>by
   unfold Pd;rw[if_neg];rintro rfl
   exact c j)]
 unfold Mq Dl;simp only[AN,forall_exists_index,and_imp,forall_apply_eq_imp_iff₂];constructor;rintro⟨g,f⟩;exact⟨λp b=>(d p b).1 (g p b),λa e=>by have:=f a e;rwa[Lq]at this⟩;rintro⟨g,f⟩;exact⟨λp b=>(d p b).2 (g p b),λa e=>by rw[Lq];exact f a e⟩
def gj {q v n}(j:WP q):WP (Dl v n q):=by
 intro p l;obtain⟨a,k,rfl⟩:=AN.1 l;obtain⟨d,g⟩:=j a k;unfold Iv;by_cases c:Bm a.a.ts v=true;rw[if_pos c];refine⟨by simp[Bt];exact d,λt b=>?_⟩;obtain⟨b,f⟩:=BP.1 b;obtain⟨i,rfl⟩:=g t b;refine⟨i,?_⟩;show _=B8 (Gg v n a.a) i;rw[Lq];apply Ft;intro w m;unfold Pd;by_cases e:w=v;subst e;rw[if_pos rfl];rw[J5 d c]at f;simpa using f;rw[if_neg e];rw[if_neg c];exact⟨d,g⟩
def XI {neg q v ν}(i:WP q):Mq neg (Ge q v) ν↔Mq neg q ν:=by
 unfold Mq Ge;simp only[AN,forall_exists_index,and_imp,forall_apply_eq_imp_iff₂];constructor;rintro⟨b,e⟩;exact⟨λp a=>by have:=b p a;rw[Ti]at this;exact Rq _ _ _ _ this,e⟩;rintro⟨b,e⟩;refine⟨λp a=>?_,e⟩;rw[Ti];unfold G1;by_cases d:Bm p.a.ts v=true;rw[if_pos d,BP];refine⟨b p a,?_⟩;rw[J5 (i p a).1 d];unfold Eb;rw[CX];intro c g;by_cases f:Bm c.a.ts v=true;simp only[f,IY,MA,NZ,CU];exact⟨_,b c g,by rw[J5 (i c g).1 f];simp⟩;simp[f];rw[if_neg d];exact b p a
def gk {q v}(b:WP q):WP (Ge q v):=by
 intro p d;obtain⟨a,c,rfl⟩:=AN.1 d;rw[Ti];exact⟨(b a c).1,λt e=>(b a c).2 t (Rq _ _ _ t e)⟩
def CF.wp {q a}(h:CF q a)(c:WP q):WP a:=by
 induction h with
 |refl=>exact c
 |tail v _ b=>exact gk b
def CF.sol {neg q a}(h:CF q a)(c:WP q)(ν):Mq neg a ν↔Mq neg q ν:=by
 induction h with
 |refl=>exact Iff.rfl
 |tail v h b=>exact (XI (h.wp c)).trans b
def mY (q v):(Ge q v).A.map (·.a)=q.A.map (·.a):=by
 unfold Ge;simp only[BH];apply CG;intro p _;exact Ti _ _ _
def CF.atoms {q a}(h:CF q a):a.A.map (·.a)=q.A.map (·.a)/\a.h=q.h/\a.B=q.B:=by
 induction h with
 |refl=>exact⟨rfl,rfl,rfl⟩
 |tail v _ b=>exact⟨(mY _ _).trans b.1,b.2.1,b.2.2⟩
def CF.atomsQ {q a}(h:CF q a):atomsQ a=atomsQ q:=by
 obtain⟨c,d,b⟩:=h.atoms;unfold Go.Proofs.YtmoeoppbmhfbpabGreatDoorJ.atomsQ;rw[c,d,b]
def NM (q:AZ):Prop:=∀v,∀a∈q.A,∀b∈q.A,Bm a.a.ts v=true->Bm b.a.ts v=true->∀t∈a.A,∃u∈b.A,Iu u (Jp b.a.ts v)=Iu t (Jp a.a.ts v)
def W1 (p l):Da (p::l)=Z p.A+Da l:=by simp[Da]
def Ub (L v):∀l:List Part,Da (l.map (G1 L v))<=Da l/\(Da l<=Da (l.map (G1 L v))->l.map (G1 L v)=l)
 |[]=>by simp[Da]
 |p::l=>by
  obtain⟨g,e⟩:=Ub L v l;have f:=mX L v p;rw[CC,W1,W1];refine⟨AA,λh=>?_⟩;rw[e AA];congr 1;have b:Z p.A<=Z (G1 L v p).A:=AA;unfold G1 at b⊢;split;rename_i d;rw[if_pos d]at b;simp only at b
  have:=List.filter_eq_self.2 (λa c=>by
   have:=List.length_filter_eq_length_iff.1 (Nat.le_antisymm (IS _ _) b)
   exact this a c)
  rw[this];rfl
def xF (q v):Da (S9 q v).A<=Da q.A/\(Da q.A<=Da (S9 q v).A->S9 q v=q):=by
 unfold S9;split;obtain⟨a,b⟩:=Ub q.A v q.A;refine⟨a,λh=>?_⟩;unfold Ge;rw[b h];exact⟨AU _,λ_=>rfl⟩
def lJ:∀(vs:List Int) (q:AZ),Da (pH q vs).A<=Da q.A/\(Da q.A<=Da (pH q vs).A->pH q vs=q/\∀v∈vs,S9 q v=q)
 |[],q=>⟨AU _,λ_=>⟨rfl,nk⟩⟩
 |v::vs,q=>by
  obtain⟨i,d⟩:=xF q v;obtain⟨g,b⟩:=lJ vs (S9 q v);have e:pH q (v::vs)=pH (S9 q v) vs:=rfl;rw[e];refine⟨AA,λh=>?_⟩;have e2:=d AA;rw[e2]at b⊢;obtain⟨f,c⟩:=b (by rw[e2]at h;omega);refine⟨f,λw a=>?_⟩;rcases BD.1 a with rfl|a;exact e2;exact c w a
def N4 {l v a}(b:a∈l)(c:Bm a.ts v=true):0<Dt l v:=MK.2 ⟨a,b,c⟩
def eX {α:Type}{f}:∀{l:List α} {x y:α},l.countP f<=1->x∈l->y∈l->f x=true->f y=true->x=y
 |[],x,y,_,a,_,_,_=>by cases a
 |z::l,x,y,h,a,c,fx,b=>by
  rw[MJ]at h;rcases BD.1 a with d|ab;rcases BD.1 c with e2|aa;rw[d,e2];rw[<-d,if_pos fx]at h;have:0<l.countP f:=MK.2 ⟨y,aa,b⟩;omega;rcases BD.1 c with e2|aa;rw[<-e2,if_pos b]at h;have:0<l.countP f:=MK.2 ⟨x,ab,fx⟩;omega;exact eX AA ab aa fx b
def ft {q}(h:∀v∈Cs (atomsQ q),S9 q v=q):NM q:=by
 intro v b g x n f k t l;by_cases j:1<Dt (q.A.map (·.a)) v;have s:v∈Cs (atomsQ q):=(Dn _ _).2 ⟨b.a,by unfold Go.Proofs.YtmoeoppbmhfbpabGreatDoorJ.atomsQ;simp;right;left;exact⟨b,g,rfl⟩,AO.1 f⟩;have d:=h v s;unfold S9 at d;rw[if_pos j]at d;have p:q.A.map (G1 q.A v)=q.A:=congrArg AZ.A d;have y:G1 q.A v b=b:=by
  obtain⟨i,m⟩:=CL g;have:(q.A.map (G1 q.A v))[i]?=some (G1 q.A v b):=by simp[m]
  rw[p,m]at this;exact (Gf this).symm
 have c:t∈(G1 q.A v b).A:=by rw[y];exact l
 unfold G1 at c;rw[if_pos f]at c;have:=(BP.1 c).2;unfold Eb at this;rw[CX]at this;have:=this x n;simp only[k,IY,MA,NZ,CU]at this;obtain⟨u,r,e⟩:=this;exact⟨u,r,nn e⟩;have o:(q.A.map (·.a)).countP (λa=>Bm a.ts v)<=1:=by unfold Dt at j;omega
 rw[List.countP_map]at o;have:=eX o g n f k;subst this;exact⟨t,l,rfl⟩
end Go.Proofs.YtmoeoppbmhfbpabGreatDoorJ
