import Derived.Test.YtmoeoppbmhfbpabGreatDoorJEngV
import Derived.Test.YtmoeoppbmhfbpabGreatDoorJEngO
import Derived.Test.YtmoeoppbmhfbpabGreatDoorJRspC
set_option maxHeartbeats 32000000
set_option maxRecDepth 100000
set_option linter.all false
open List renaming length->Z
namespace Go.Proofs.YtmoeoppbmhfbpabGreatDoorJ
open Go.Abs
def OW (fz:Bool)(x:AB)(n:Int):Prop:=(n= -1/\∀a∈x.A,Pt fz a=false)\/∃(j:Nat) (b:AE),n=j/\x.A[j]?=some b/\Pt fz b=true
def EM (fz:Bool)(x:AB)(i:Nat)(n:Int):Prop:=(n= -1/\∀a∈x.A.take i,Pt fz a=false)\/∃(j:Nat) (b:AE),n=j/\j<i/\x.A[j]?=some b/\Pt fz b=true
def EM.skip {fz x i n w}(h:EM fz x i n)(g:x.A[i]?=some w)(k:Pt fz w=false):EM fz x (i+1) n:=by
 rcases h with⟨d,f⟩|⟨j,b,d,f,h3,h4⟩;refine .inl ⟨d,λa e=>?_⟩;rw[AT,g]at e;rcases AW.1 e with c|c;exact f a c;simp at c;subst c;exact k;exact .inr ⟨j,b,d,AA,h3,h4⟩
def qM (x c fz)(hc:AJ x c)(S:x.fits)(d):ni 239 [ag c,my fz] d λr z=>∃n,r=ic n/\OW fz x n/\AD d z:=by
 obtain⟨T,id,b,W,rfl⟩:=hc.cells;have bb:=EL.length A7 W;have hb5:=S.1;unfold A4;refine Z9 43 [.tmp 4] Tryz.func239 ?_;refine mu ?_
 refine Ae (λm s z=>∃(i:Nat) (n:Int),m=Z x.A-i/\i<=Z x.A/\s 1=my fz/\s 2=ptr d.B 0/\s 5=ic n/\s 6=ic i/\AD d z/\d.B<z.B/\z.C d.B=[my x.o,my x.h.nt,str x.h.B,sl T (Z x.h.A) (x.h.A.map str),sl id (Z x.A) b]/\AC (EM fz x i n)) (Z x.A)
  ⟨0,-1,AA,AA,by simp[upd,AL],AG,AG,AG,Xs,AM,Ao,.inl ⟨rfl,λa ha=>by simp at ha⟩⟩ ?_
 rintro m s z ⟨i,n,rfl,hi,p,u,O,R,E,au,Y,P⟩;have a8:=E.B;by_cases av:i<Z x.A;have I:=AK av;obtain⟨ia,r,hd⟩:=Ca W I;have X:=S.2.2 _ (AR av);generalize x.A[i]=w at hd I X;cases q:Pt fz w with
 |false=>
  have H:AC (EM fz x (i+1) n):=P.o.skip I q;have t:w.nt=true:=by unfold Pt at q;simp at q;exact q.2
  have L:fz=false:=by unfold Pt at q;simp at q;exact q.1
  subst L;clear I q;refine mu ?_;refine⟨Z x.A-(i+1),AA,i+1,n,?_⟩;exact m9 H
 |true=>
  have H:AC (EM fz x (i+1) (i:Nat)):=.inr ⟨i,w,rfl,AA,I,q⟩;have ap:w.nt=false\/(w.nt=true/\fz=true):=by
   unfold Pt at q;cases hw:w.nt with
   |false=>exact .inl rfl
   |true=>rw[hw]at q;simp at q;exact .inr ⟨rfl,q⟩
  clear q;have ax:AC (EM fz x (i+1) n\/n= -1):=by
   rcases P.o with⟨p,u⟩|⟨j,b,p,u,h3,h4⟩;exact .inr p;exact .inl (.inr ⟨j,b,p,AA,h3,h4⟩)
  have M:=λd=>M9 w _ ⟨ia,rfl⟩ X d;have a3:=eF w;generalize Kh w=A at M a3;clear I;have ah:n= -1\/∃(j:Nat) (N:AE),n=j/\x.A[j]?=some N:=by
   rcases P.o with⟨p,u⟩|⟨j,b,p,u,h3,h4⟩;exact .inl p;exact .inr ⟨j,b,p,h3⟩
  rcases ah with a0|⟨j,N,az,aj⟩;subst a0;have a6:decide ((-1:Int)<0)=true:=nr;rcases ap with t|⟨t,L⟩
  
  refine mu ?_;refine A2 (Q:=λe f g=>e= .normal/\f 40=my true/\f 1=s 1/\f 2=s 2/\f 5=s 5/\f 6=s 6/\g=z) ?_ ?_;refine Ar Ag (λ_=>True) [] [0,1,2,3,4,5,6,7,9,10,11,12,13] 4 (nv 17 16127) AH (λ_ _ _ h=>by cases h.1) ?_;intro yb ya;refine Z7 ?_;refine ya.o _ ?_;clear ya yb;refine Ai (i:=8) AH ?_;refine Am ?_;intro yb ya;refine Z7 ?_;refine ya.o _ _ ⟨kept_refl,?_⟩;clear ya yb;refine Ai (i:=14) AH ?_;refine Am ?_;intro yb ya;refine Z7 ?_;refine ya.o _ _ ⟨kept_refl,?_⟩;clear ya yb;refine Df [15,16] AH AH (λ_ _ _ h=>by cases h.1) (AU _) (λo J _=>rfl) ?_;intro yb ya;refine Z7 ?_;refine ya.o _ _ ⟨rfl,?_⟩;simp[upd];rintro e f g ⟨rfl,k,D,F,G,C,rfl⟩;rw[p]at D;rw[u]at F;rw[O]at G;rw[R]at C;refine Cj k ?_;refine mu ?_;refine⟨Z x.A-(i+1),AA,i+1,(i:Nat),?_⟩;exact m9 H;subst L;refine mu ?_;refine A2 (Q:=λe f g=>e= .normal/\f 40=my true/\f 1=s 1/\f 2=s 2/\f 5=s 5/\f 6=s 6/\g=z) ?_ ?_;refine Ar Ag (λ_=>True) [] [0,1,2,3,4,5,6,7,9,10,11,12,13] 4 (nv 17 16127) AH (λ_ _ _ h=>by cases h.1) ?_;intro yb ya;refine Z7 ?_;refine ya.o _ ?_;clear ya yb;refine Ai (i:=8) AH ?_;refine Am ?_;intro yb ya;refine Z7 ?_;refine ya.o _ _ ⟨kept_refl,?_⟩;clear ya yb;refine Ai (i:=14) AH ?_;refine Am ?_;intro yb ya;refine Z7 ?_;refine ya.o _ _ ⟨kept_refl,?_⟩;clear ya yb;refine Df [15,16] AH AH (λ_ _ _ h=>by cases h.1) (AU _) (λo J _=>rfl) ?_;intro yb ya;refine Z7 ?_;refine ya.o _ _ ⟨rfl,?_⟩;simp[upd];rintro e f g ⟨rfl,k,D,F,G,C,rfl⟩;rw[p]at D;rw[u]at F;rw[O]at G;rw[R]at C;refine Cj k ?_;refine mu ?_;refine⟨Z x.A-(i+1),AA,i+1,(i:Nat),?_⟩;exact m9 H;subst az;have a9:=(BA.1 aj).1;obtain⟨ja,r2,ba⟩:=Ca W aj;have a7:=S.2.2 _ (AY aj);have U:=λd=>M9 N _ ⟨ja,rfl⟩ a7 d;have a4:=eF N;generalize Kh N=B at U a4;have aw:AC (EM fz x (i+1) (j:Nat)):=by
   rcases ax.o with h|h;exact h;omega
  clear ax aj;have a6:decide ((j:Int)<0)=false:=nk;rcases ap with t|⟨t,L⟩
  
  rw[t]at M;refine mu ?_;refine A2 (Q:=λe f g=>e= .normal/\f 40=my (decide ((A:Int)<B))/\f 1=s 1/\f 2=s 2/\f 5=s 5/\f 6=s 6/\AD z g) ?_ ?_;refine Ar Ag (λ_=>True) [] [0,1,2,3,4,5,6,7,9,10,11,12,13] 4 (nv 17 16127) AH (λ_ _ _ h=>by cases h.1) ?_;intro yb ya;refine Z7 ?_;refine ya.o _ ?_;clear ya yb;refine Ai (i:=8) AH ?_;refine Am ?_;intro yb ya;refine Z7 ?_;refine AF.mono (M _) ?_;rintro _ d5 ⟨rfl,y⟩;refine Z7 ?_;refine ya.o _ _ ⟨Al y,?_⟩;clear ya yb;refine Ai (i:=14) AH ?_;refine Am ?_;intro yb ya;refine Z7 ?_;refine AF.mono (U _) ?_;rintro _ d6 ⟨rfl,l⟩;refine Z7 ?_;refine ya.o _ _ ⟨Al (y.trans l),?_⟩;clear ya yb;refine Df [15,16] AH AH (λ_ _ _ h=>by cases h.1) (y.trans l).B (λo J _=>(y.trans l).ver o J) ?_;intro yb ya;refine Z7 ?_;refine ya.o _ _ ⟨rfl,?_⟩;simp[upd,y.trans l];rintro e f g ⟨rfl,k,D,F,G,C,l⟩;rw[p]at D;rw[u]at F;rw[O]at G;rw[R]at C;have ak:=l.B;have K:=l.C;have ay:g.C d.B=[my x.o,my x.h.nt,str x.h.B,sl T (Z x.h.A) (x.h.A.map str),sl id (Z x.A) b]:=by rw[K _ au,Y]
  clear K;by_cases v:(A:Int)<B;rw[show decide ((A:Int)<B)=true from by simpa using v]at k;refine Cj k ?_;refine mu ?_;refine⟨Z x.A-(i+1),AA,i+1,(i:Nat),?_⟩;exact nf H (E.trans l);rw[show decide ((A:Int)<B)=false from by simpa using v]at k;refine De k ?_;refine mu ?_;refine⟨Z x.A-(i+1),AA,i+1,(j:Nat),?_⟩;exact nf aw (E.trans l);subst L;rw[t]at M;refine mu ?_;refine A2 (Q:=λe f g=>e= .normal/\f 40=my (decide ((A:Int)<B))/\f 1=s 1/\f 2=s 2/\f 5=s 5/\f 6=s 6/\AD z g) ?_ ?_;refine Ar Ag (λ_=>True) [] [0,1,2,3,4,5,6,7,9,10,11,12,13] 4 (nv 17 16127) AH (λ_ _ _ h=>by cases h.1) ?_;intro yb ya;refine Z7 ?_;refine ya.o _ ?_;clear ya yb;refine Ai (i:=8) AH ?_;refine Am ?_;intro yb ya;refine Z7 ?_;refine AF.mono (M _) ?_;rintro _ d5 ⟨rfl,y⟩;refine Z7 ?_;refine ya.o _ _ ⟨Al y,?_⟩;clear ya yb;refine Ai (i:=14) AH ?_;refine Am ?_;intro yb ya;refine Z7 ?_;refine AF.mono (U _) ?_;rintro _ d6 ⟨rfl,l⟩;refine Z7 ?_;refine ya.o _ _ ⟨Al (y.trans l),?_⟩;clear ya yb;refine Df [15,16] AH AH (λ_ _ _ h=>by cases h.1) (y.trans l).B (λo J _=>(y.trans l).ver o J) ?_;intro yb ya;refine Z7 ?_;refine ya.o _ _ ⟨rfl,?_⟩;simp[upd,y.trans l];rintro e f g ⟨rfl,k,D,F,G,C,l⟩;rw[p]at D;rw[u]at F;rw[O]at G;rw[R]at C;have ak:=l.B;have K:=l.C;have ay:g.C d.B=[my x.o,my x.h.nt,str x.h.B,sl T (Z x.h.A) (x.h.A.map str),sl id (Z x.A) b]:=by rw[K _ au,Y]
  clear K;by_cases v:(A:Int)<B;rw[show decide ((A:Int)<B)=true from by simpa using v]at k;refine Cj k ?_;refine mu ?_;refine⟨Z x.A-(i+1),AA,i+1,(i:Nat),?_⟩;exact nf H (E.trans l);rw[show decide ((A:Int)<B)=false from by simpa using v]at k;refine De k ?_;refine mu ?_;refine⟨Z x.A-(i+1),AA,i+1,(j:Nat),?_⟩;exact nf aw (E.trans l)
 have a5:i=Z x.A:=AA;subst a5;have V:OW fz x n:=by
  rcases P.o with⟨p,u⟩|⟨j,b,p,u,h3,h4⟩;rw[AS]at u;exact .inl ⟨p,u⟩;exact .inr ⟨j,b,p,h3,h4⟩
 refine mu ?_
 first|exact⟨_,rfl,n,rfl,V,E⟩|exact⟨n,rfl,V,E⟩|exact⟨_,rfl,n,rfl,V⟩
def VF {a}(h:DX a):Z (Ls a)<=1100000:=by
 have j:=h.1.2;have i:=h.2.2;have d:∀b:ol,(∀t∈b,Clean t)->Z (b.flatMap λt=>(44:UInt8)::t)<=Z b*1001:=by
  intro b;induction b with
  |nil=>intro _;simp
  |cons t b e=>
   intro c;have k:=e (λu f=>c u (by simp[f]));have e2:=(c t nk).2;simp only[DN,AX,BQ];omega
 have g:=d a.A h.2.1;unfold Ls;simp only[AX];have:Z (if a.nt=true then [(33:UInt8)]else [])<=1:=by split<;>simp
 omega
def Qh (x:AB)(i:Nat):Tx:=((x.h::x.A).take i).flatMap λa=>Ls a++[46]
def eH {x i w}(h:(x.h::x.A)[i]?=some w):Qh x (i+1)=Qh x i++(Ls w++[46]):=by
 unfold Qh;rw[AT,h,KC];simp
def xG (x c)(hc:AJ x c)(W:iQ x)(hb5:Z x.A<=1000)(d):ni 264 [ag c] d λr f=>r=str (Fb x)/\AD d f:=by
 obtain⟨H,id,b,hb,rfl⟩:=hc.cells;have a5:=EL.length A7 hb;have a8:({data:=#[33]}:ByteArray)=bs [33]:=rfl;have a7:({data:=#[44]}:ByteArray)=bs [44]:=rfl;have a6:({data:=#[46]}:ByteArray)=bs [46]:=rfl;unfold A4;refine Z9 49 [.tmp 2] Tryz.func264 ?_;refine mu ?_
 refine Ae (λm s f=>∃(i:Nat) (n:Int) (e:Tx),m=Z x.A+1-i/\i<=Z x.A+1/\n=(i:Int)-1/\s 1=ptr d.B 0/\s 3=str e/\s 4=ic n/\AD d f/\d.B<f.B/\f.C d.B=[my x.o,my x.h.nt,str x.h.B,sl H (Z x.h.A) (x.h.A.map str),sl id (Z x.A) b]/\Z e<=i*1100001/\AC (e=Qh x i)) (Z x.A+1)
  ⟨0,-1,[],AA,AA,AA,AG,AG,AG,Xs,AM,Ao,nk,by simp[AC,Qh]⟩ ?_
 rintro m s v ⟨i,n,e,rfl,hi,hn,F,E,G,q,y,A,z,j⟩;have D:=q.B;by_cases l:i<Z x.A+1;have O:AC _:=j.o;clear j;have a4:decide (n<(Z x.A:Int))=true:=by simp;omega
 have az:n<=(i:Int)-1/\(i:Int)-1<=n:=AA;clear hn;by_cases U:i=0;have K:decide ((0:Int)<=n)=false:=by simp;omega
 have M:decide (n>=0)=false:=K;have L:AC (Qh x (i+1)=Qh x i++(Ls x.h++[46])):=eH (by rw[U];rfl);have B:=W.2.1;have ax:=B.1.2;have N:=B.2.2;clear U;cases u:x.h.nt with
 |true=>
  refine mu ?_
  refine Ae (λm s f=>∃(k:Nat) (a:Tx),m=Z x.h.A-k/\k<=Z x.h.A/\s 1=ptr d.B 0/\s 3=str a/\s 4=ic n/\s 5=ptr v.B 0/\s 6=ic k/\AD d f/\v.B<f.B/\f.C d.B=[my x.o,my x.h.nt,str x.h.B,sl H (Z x.h.A) (x.h.A.map str),sl id (Z x.A) b]/\f.C v.B=[my x.h.nt,str x.h.B,sl H (Z x.h.A) (x.h.A.map str)]/\Z a<=i*1100001+1001+k*1001/\AC (a=(e++[33]++x.h.B)++(x.h.A.take k).flatMap λt=>44::t)) (Z x.h.A)
   ⟨0,(e++[33]++x.h.B),AA,AA,AI,AG,AI,AG,AG,Xs,BJ,by simp (disch:=omega) only[Aj,Ah,Aa,A,u],by simp only[Ak,u],by simp only[AX,BQ,CQ];omega,by simp[AC]⟩ ?_
  have R:=y;clear F E G A y q D z K M;rintro m s f ⟨k,a,rfl,S,F,E,G,P,T,q,y,A,Q,z,j⟩;have D:=q.B;by_cases l:k<Z x.h.A;have g:=AK l;have C:=A1 l;have J:=(B.2.1 _ (AR l)).2;generalize x.h.A[k]=t at C g J;have p:AC ((a++[44])++t=(e++[33]++x.h.B)++(x.h.A.take (k+1)).flatMap λt=>44::t):=by
   rw[AC,AT,g,KC,j.o];simp
  have o:Z ((a++[44])++t)<=i*1100001+1001+(k+1)*1001:=by simp only[AX,BQ,CQ];omega
  clear g;refine mu ?_;refine⟨Z x.h.A-(k+1),AA,k+1,(a++[44])++t,?_⟩;exact nf p o;have I:k=Z x.h.A:=AA;subst I;have p:AC (a++[46]=Qh x (i+1)):=by
   rw[AC,L.o,j.o,AS,<-O.o];simp[Ls,u]
  have V:Z a<=i*1100001+1100000:=BI z (by rw[ID];exact JJ (BI (JJ (GW 1001 N) 1001) nr) _);have o:Z (a++[46])<=(i+1)*1100001:=by simp only[AX,BQ,CQ];omega
  refine mu ?_;refine⟨Z x.A+1-(i+1),AA,i+1,n+1,a++[46],?_⟩;exact nf p o
 |false=>
  refine mu ?_
  refine Ae (λm s f=>∃(k:Nat) (a:Tx),m=Z x.h.A-k/\k<=Z x.h.A/\s 1=ptr d.B 0/\s 3=str a/\s 4=ic n/\s 5=ptr v.B 0/\s 6=ic k/\AD d f/\v.B<f.B/\f.C d.B=[my x.o,my x.h.nt,str x.h.B,sl H (Z x.h.A) (x.h.A.map str),sl id (Z x.A) b]/\f.C v.B=[my x.h.nt,str x.h.B,sl H (Z x.h.A) (x.h.A.map str)]/\Z a<=i*1100001+1001+k*1001/\AC (a=(e++x.h.B)++(x.h.A.take k).flatMap λt=>44::t)) (Z x.h.A)
   ⟨0,(e++x.h.B),AA,AA,AI,AG,AI,AG,AG,Xs,BJ,by simp (disch:=omega) only[Aj,Ah,Aa,A,u],by simp only[Ak,u],by simp only[AX,BQ,CQ];omega,by simp[AC]⟩ ?_
  have R:=y;clear F E G A y q D z K M;rintro m s f ⟨k,a,rfl,S,F,E,G,P,T,q,y,A,Q,z,j⟩;have D:=q.B;by_cases l:k<Z x.h.A;have g:=AK l;have C:=A1 l;have J:=(B.2.1 _ (AR l)).2;generalize x.h.A[k]=t at C g J;have p:AC ((a++[44])++t=(e++x.h.B)++(x.h.A.take (k+1)).flatMap λt=>44::t):=by
   rw[AC,AT,g,KC,j.o];simp
  have o:Z ((a++[44])++t)<=i*1100001+1001+(k+1)*1001:=by simp only[AX,BQ,CQ];omega
  clear g;refine mu ?_;refine⟨Z x.h.A-(k+1),AA,k+1,(a++[44])++t,?_⟩;exact nf p o;have I:k=Z x.h.A:=AA;subst I;have p:AC (a++[46]=Qh x (i+1)):=by
   rw[AC,L.o,j.o,AS,<-O.o];simp[Ls,u]
  have V:Z a<=i*1100001+1100000:=BI z (by rw[ID];exact JJ (BI (JJ (GW 1001 N) 1001) nr) _);have o:Z (a++[46])<=(i+1)*1100001:=by simp only[AX,BQ,CQ];omega
  refine mu ?_;refine⟨Z x.A+1-(i+1),AA,i+1,n+1,a++[46],?_⟩;exact nf p o
 have K:decide ((0:Int)<=n)=true:=by simp;omega
 have M:decide (n>=0)=true:=K;have a3:0<=n:=AA;have X:n.toNat<Z x.A:=AA;have a0:n<(Z x.A:Int):=AA;have g:=AK X;have B:=W.2.2 _ (AR X);obtain⟨Y,r,C⟩:=Ca hb g;generalize x.A[n.toNat]=w at g B C;have L:AC (Qh x (i+1)=Qh x i++(Ls w++[46])):=eH (by rw[show i=n.toNat+1 by omega];exact g);have ax:=B.1.2;have N:=B.2.2;clear g U;cases u:w.nt with
 |true=>
  refine mu ?_
  refine Ae (λm s f=>∃(k:Nat) (a:Tx),m=Z w.A-k/\k<=Z w.A/\s 1=ptr d.B 0/\s 3=str a/\s 4=ic n/\s 5=ptr v.B 0/\s 6=ic k/\AD d f/\v.B<f.B/\f.C d.B=[my x.o,my x.h.nt,str x.h.B,sl H (Z x.h.A) (x.h.A.map str),sl id (Z x.A) b]/\f.C v.B=[my w.nt,str w.B,sl Y (Z w.A) (w.A.map str)]/\Z a<=i*1100001+1001+k*1001/\AC (a=(e++[33]++w.B)++(w.A.take k).flatMap λt=>44::t)) (Z w.A)
   ⟨0,(e++[33]++w.B),AA,AA,AI,AG,AI,AG,AG,Xs,BJ,by simp (disch:=omega) only[Aj,Ah,Aa,A,u],by simp only[Ak,u],by simp only[AX,BQ,CQ];omega,by simp[AC]⟩ ?_
  have R:=y;clear F E G A y q D z K M;rintro m s f ⟨k,a,rfl,S,F,E,G,P,T,q,y,A,Q,z,j⟩;have D:=q.B;by_cases l:k<Z w.A;have g:=AK l;have C:=A1 l;have J:=(B.2.1 _ (AR l)).2;generalize w.A[k]=t at C g J;have p:AC ((a++[44])++t=(e++[33]++w.B)++(w.A.take (k+1)).flatMap λt=>44::t):=by
   rw[AC,AT,g,KC,j.o];simp
  have o:Z ((a++[44])++t)<=i*1100001+1001+(k+1)*1001:=by simp only[AX,BQ,CQ];omega
  clear g;refine mu ?_;refine⟨Z w.A-(k+1),AA,k+1,(a++[44])++t,?_⟩;exact nf p o;have I:k=Z w.A:=AA;subst I;have p:AC (a++[46]=Qh x (i+1)):=by
   rw[AC,L.o,j.o,AS,<-O.o];simp[Ls,u]
  have V:Z a<=i*1100001+1100000:=BI z (by rw[ID];exact JJ (BI (JJ (GW 1001 N) 1001) nr) _);have o:Z (a++[46])<=(i+1)*1100001:=by simp only[AX,BQ,CQ];omega
  refine mu ?_;refine⟨Z x.A+1-(i+1),AA,i+1,n+1,a++[46],?_⟩;exact nf p o
 |false=>
  refine mu ?_
  refine Ae (λm s f=>∃(k:Nat) (a:Tx),m=Z w.A-k/\k<=Z w.A/\s 1=ptr d.B 0/\s 3=str a/\s 4=ic n/\s 5=ptr v.B 0/\s 6=ic k/\AD d f/\v.B<f.B/\f.C d.B=[my x.o,my x.h.nt,str x.h.B,sl H (Z x.h.A) (x.h.A.map str),sl id (Z x.A) b]/\f.C v.B=[my w.nt,str w.B,sl Y (Z w.A) (w.A.map str)]/\Z a<=i*1100001+1001+k*1001/\AC (a=(e++w.B)++(w.A.take k).flatMap λt=>44::t)) (Z w.A)
   ⟨0,(e++w.B),AA,AA,AI,AG,AI,AG,AG,Xs,BJ,by simp (disch:=omega) only[Aj,Ah,Aa,A,u],by simp only[Ak,u],by simp only[AX,BQ,CQ];omega,by simp[AC]⟩ ?_
  have R:=y;clear F E G A y q D z K M;rintro m s f ⟨k,a,rfl,S,F,E,G,P,T,q,y,A,Q,z,j⟩;have D:=q.B;by_cases l:k<Z w.A;have g:=AK l;have C:=A1 l;have J:=(B.2.1 _ (AR l)).2;generalize w.A[k]=t at C g J;have p:AC ((a++[44])++t=(e++w.B)++(w.A.take (k+1)).flatMap λt=>44::t):=by
   rw[AC,AT,g,KC,j.o];simp
  have o:Z ((a++[44])++t)<=i*1100001+1001+(k+1)*1001:=by simp only[AX,BQ,CQ];omega
  clear g;refine mu ?_;refine⟨Z w.A-(k+1),AA,k+1,(a++[44])++t,?_⟩;exact nf p o;have I:k=Z w.A:=AA;subst I;have p:AC (a++[46]=Qh x (i+1)):=by
   rw[AC,L.o,j.o,AS,<-O.o];simp[Ls,u]
  have V:Z a<=i*1100001+1100000:=BI z (by rw[ID];exact JJ (BI (JJ (GW 1001 N) 1001) nr) _);have o:Z (a++[46])<=(i+1)*1100001:=by simp only[AX,BQ,CQ];omega
  refine mu ?_;refine⟨Z x.A+1-(i+1),AA,i+1,n+1,a++[46],?_⟩;exact nf p o
 have ay:i=Z x.A+1:=AA;subst ay;have j:=j.o;have:Qh x (Z x.A+1)=Fb x:=by unfold Qh Fb;rw[FZ nk]
 rw[this]at j;subst j;refine mu ?_
 first|exact⟨_,rfl,rfl,q⟩|exact⟨_,rfl,rfl⟩|exact⟨rfl,q⟩
def JB (d:St)(R:List (Nat×Nat)):Prop:=(∀x∈R,Live d x.1 x.2)/\∀(i j:Nat) (x y:Nat×Nat),R[i]?=some x->R[j]?=some y->i≠j->x.1=1\/x.1≠y.1
def JB.keep {d a R}(h:JB d R)(k:AD d a):JB a R:=⟨λx b=>(h.1 x b).keep k,h.2⟩
structure KW (ow:Nat)(R R':List (Nat×Nat))(d d':St):Prop where
 B:d.B<=d'.B
 C:∀o,o<d.B->o≠ow->d'.C o=d.C o
 ver:∀o,o<d.B->o≠ow->d'.ver o=d.ver o
 D:d.D<=d'.D
 top:∀k,k<d.D->(∀x∈R,x.1≠k+2)->d'.top k=d.top k
 mid:∀x∈R',(∃y∈R,y.1=x.1)\/x.1=1\/d.D+2<=x.1
def KW.ofKeep {ow R d b}(h:AD d b):KW ow R R d b:=
 ⟨h.B,λo a _=>h.C o a,λo a _=>h.ver o a,h.D,λk e _=>h.top k e,λx c=>.inl ⟨x,c,rfl⟩⟩
def KW.trans {ow M m M2 d i j}(h:KW ow M m d i)(g:KW ow m M2 i j):KW ow M M2 d j where
 B:=BI h.B g.B
 C:=λo a b=>(g.C o (BZ a h.B) b).trans (h.C o a b)
 ver:=λo a b=>(g.ver o (BZ a h.B) b).trans (h.ver o a b)
 D:=BI h.D g.D
 top:=λk l c=>(g.top k (BZ l h.D) (λx p e=>by
  rcases h.mid x p with⟨y,f,e2⟩|e2|e2;exact c y f (e2.trans e);omega
  omega)).trans (h.top k l c)
 mid:=λx c=>by
  rcases g.mid x c with⟨y,f,e⟩|e|e;rcases h.mid y f with⟨z,n,e2⟩|e2|e2;exact .inl ⟨z,n,e2.trans e⟩;exact .inr (.inl AA);exact .inr (.inr AA);exact .inr (.inl e);exact .inr (.inr (by have:=h.D;omega))
def JB.grow {d b ow R k id' x}(q:JB d R)(p:R[k]?=some x)(F:Live b id' (x.2+1))(m:id'=x.1\/d.D+2<=id')(G:id'≠1)
  (t:∀o,o<d.B->o≠ow->b.C o=d.C o) (I:∀o,o<d.B->o≠ow->b.ver o=d.ver o) (r:d.B<=b.B) (c:d.D<=b.D)
  (f:∀j,j<d.D->j+2≠x.1->b.top j=d.top j):JB b (R.set k (id',x.2+1))/\KW ow R (R.set k (id',x.2+1)) d b:=by
 have v:=AY p;have B:k<Z R:=(BA.1 p).1;have s:∀(i:Nat) (y:Nat×Nat),R[i]?=some y->i≠k->Live b y.1 y.2/\(y.1=1\/y.1≠id'):=λi y a D=>by
  have C:=AY a;rcases q.1 y C with h|⟨j,e1,e2,e3,e4⟩;exact⟨.inl h,.inl h.1⟩;have J:y.1≠x.1:=by
   rcases q.2 i k y x a p D with h|h;omega;exact h
  refine⟨.inr ⟨j,e1,BZ e2 c,(f j e2 AA).trans e3,e4⟩,.inr ?_⟩;rcases m with h|h<;>omega
 have l:∀(i:Nat) (y:Nat×Nat),(R.set k (id',x.2+1))[i]?=some y->(i=k/\y=(id',x.2+1))\/(i≠k/\R[i]?=some y):=λi y a=>by
  rw[GH]at a;by_cases e:k=i;subst e;rw[if_pos rfl,if_pos B]at a;exact .inl ⟨rfl,(Gf a).symm⟩;rw[if_neg e]at a;exact .inr ⟨λh=>e h.symm,a⟩
 refine⟨⟨λy a=>?_,λi j y z a A E=>?_⟩,⟨r,t,I,c,λj H h=>f j H (λe=>h x v e.symm),λy a=>?_⟩⟩;obtain⟨i,u⟩:=CL a;rcases l i y u with⟨-,rfl⟩|⟨g,h2⟩;exact F;exact (s i y h2 g).1;rcases l i y a with⟨g,rfl⟩|⟨g,h2⟩;rcases l j z A with⟨n,rfl⟩|⟨n,h4⟩;omega;rcases (s j z h4 n).2 with h|h;exact .inr λe=>G (Eq.trans e h);exact .inr (λe=>h e.symm);rcases l j z A with⟨n,rfl⟩|⟨n,h4⟩;exact (s i y h2 g).2;exact q.2 i j y z h2 h4 E;obtain⟨i,u⟩:=CL a;rcases l i y u with⟨-,rfl⟩|⟨g,h2⟩;rcases m with h|h;exact .inl ⟨x,v,h.symm⟩;exact .inr (.inr h);exact .inl ⟨y,AY h2,rfl⟩
abbrev BK:=List (Nat×ol)
def Q2 (B:BK):oh:=B.map λx=>sl x.1 (Z x.2) (x.2.map str)
def C7 (ida nA:Nat)(cA:oh)(fz:Bool)(mo:Int)(ido nO:Nat)(oc:oh)(B:BK):oh:=[sl ida nA cA,my fz,ic mo,sl ido nO oc]++Q2 B
def Dv (ido nO:Nat)(B:BK):List (Nat×Nat):=(ido,nO)::B.map λx=>(x.1,Z x.2)
structure FC (d:St)(ow ida nA:Nat)(cA:oh)(fz:Bool)(mo:Int)(ido:Nat)(O:oq)(oc:oh)(B:BK)(N:Nat):Prop where
 ob:d.C ow=C7 ida nA cA fz mo ido (Z O) oc B
 lo:ow<d.B
 bl:Z B=4096
 oe:EL Bf O oc
 rw':JB d (Dv ido (Z O) B)
 bn:∀x∈B,Z x.2<=N
def FC.keep {d a ow ida nA cA fz mo ido O oc B N}(h:FC d ow ida nA cA fz mo ido O oc B N)(k:AD d a):FC a ow ida nA cA fz mo ido O oc B N:=
 ⟨(k.C _ h.lo).trans h.ob,BZ h.lo k.B,h.bl,h.oe,h.rw'.keep k,h.bn⟩
def Yu (n:Nat)(c:UInt8):Nat:=(n*31+c.toNat) % 4096
def Jn (s:Tx):Nat:=s.foldl Yu 0
def Sp (B:BK)(s:Tx):Prop:=∃x,B[Jn s]?=some x/\s∈x.2
def ZY {B s t id' y}(c:B[Jn t]?=some y):Sp (B.set (Jn t) (id',y.2++[t])) s↔Sp B s\/s=t:=by
 have d:=(BA.1 c).1;unfold Sp;constructor;rintro⟨x,a,b⟩;rw[GH]at a;by_cases e:Jn t=Jn s;rw[if_pos e,if_pos AA]at a;cases a;rcases AW.1 b with h|h;exact .inl ⟨y,by rw[<-e];exact c,h⟩;exact .inr (nn h);rw[if_neg e]at a;exact .inl ⟨x,a,b⟩;rintro (⟨x,a,b⟩|rfl);by_cases e:Jn t=Jn s;rw[<-e,c]at a;cases a;exact⟨_,by rw[<-e,GH,if_pos rfl,if_pos d],GK _ b⟩;exact⟨x,by rw[GH,if_neg e];exact a,b⟩;exact⟨_,by rw[GH,if_pos rfl,if_pos d],nk⟩
def Jc {ida nA cA fz mo ido nO oc B}(a:Z B=4096):Z (C7 ida nA cA fz mo ido nO oc B)=4100:=by simp[C7,Q2,a]
def pN {ida nA cA fz mo ido nO oc B k y}(a:B[k]?=some y):(C7 ida nA cA fz mo ido nO oc B)[4+k]?=some (sl y.1 (Z y.2) (y.2.map str)):=by
 unfold C7;rw[JY nk];simp[Q2,a]
def jA {ida nA cA fz mo ido nO oc B k y}:(C7 ida nA cA fz mo ido nO oc B).set (4+k) (sl y.1 (Z y.2) (y.2.map str))=C7 ida nA cA fz mo ido nO oc (B.set k y):=by
 unfold C7;rw[List.set_append_right _ _ nk];simp[Q2,List.map_set]
def xE {ido nO B k y}:Dv ido nO (B.set k y)=(Dv ido nO B).set (k+1) (y.1,Z y.2):=by
 simp[Dv,List.map_set]
def FC.addB {d a ow ida nA cA fz mo ido O oc B N k id' y t}(h:FC d ow ida nA cA fz mo ido O oc B N)(n:B[k]?=some y)
  (u:Live a id' (Z y.2+1)) (m:id'=y.1\/d.D+2<=id') (v:id'≠1)
  (l:∀o,o<d.B->o≠ow->a.C o=d.C o) (s:∀o,o<d.B->o≠ow->a.ver o=d.ver o) (f:d.B<=a.B) (b:d.D<=a.D)
  (c:∀j,j<d.D->j+2≠y.1->a.top j=d.top j) (i:a.C ow=(C7 ida nA cA fz mo ido (Z O) oc B).set (4+k) (sl id' (Z y.2+1) (y.2.map str++[str t]))):
  FC a ow ida nA cA fz mo ido O oc (B.set k (id',y.2++[t])) (N+1)/\KW ow (Dv ido (Z O) B) (Dv ido (Z O) (B.set k (id',y.2++[t]))) d a:=by
 have g:(Dv ido (Z O) B)[k+1]?=some (y.1,Z y.2):=by simp[Dv,n]
 obtain⟨r,p⟩:=JB.grow (ow:=ow) h.rw' g u m v l s f b c;have e:Dv ido (Z O) (B.set k (id',y.2++[t]))=(Dv ido (Z O) B).set (k+1) (id',Z y.2+1):=by rw[xE];simp
 rw[e];refine⟨⟨?_,BZ h.lo f,by simp[h.bl],h.oe,by rw[e];exact r,λx g=>?_⟩,p⟩;rw[i,<-jA];simp;rcases NI g with q|rfl;have:=h.bn x q;omega;have:=h.bn y (AY n);simp;omega
def sZ (x c)(hc:AJ x c)(K:iQ x)(V:Z x.A<=1000)(ow ida nA cA fz mo ido O oc B N)(hN:N<=1000000000000)(d)(z:FC d ow ida nA cA fz mo ido O oc B N):
  ni 238 [ptr ow 0,ag c] d λr p=>(Sp B (Fb x)/\r=my true/\AD d p)\/(¬Sp B (Fb x)/\r=my false/\∃id' y,B[Jn (Fb x)]?=some y/\FC p ow ida nA cA fz mo ido O oc (B.set (Jn (Fb x)) (id',y.2++[Fb x])) (N+1)/\KW ow (Dv ido (Z O) B) (Dv ido (Z O) (B.set (Jn (Fb x)) (id',y.2++[Fb x]))) d p):=by
 have a3:=λd=>xG x c hc K V d;obtain⟨ih,id,b,hb,rfl⟩:=hc.cells;unfold A4;unfold A4 at a3;have bo:Z (Fb x)<=1200000000:=by
  have ap:∀l:oq,(∀a∈l,DX a)->Z (l.flatMap λa=>Ls a++[46])<=Z l*1100001:=by
   intro l;induction l with
   |nil=>intro _;simp
   |cons a l ih=>
    intro hh;have e1:=ih (λu g=>hh u (by simp[g]));have e2:=VF (hh a nk);simp only[DN,AX,BQ,CQ];omega
  have:=ap (x.h::x.A) (λa U=>by
   rcases BD.1 U with rfl|U
   ·exact K.2.1
   exact K.2.2 a U)
  unfold Fb;simp only[BQ]at this;omega
 generalize Fb x=f at*
 have bb:=z.lo;have a9:=z.ob;have bi:=Jc (ida:=ida) (nA:=nA) (cA:=cA) (fz:=fz) (mo:=mo) (ido:=ido) (nO:=Z O) (oc:=oc) z.bl;refine Z9 61 [.tmp 4] Tryz.func238 ?_
 repeat' first|refine Z1 ?_|refine Z8 λyb ya=>?_|refine Z4 ?_;clear ya yb|refine Z2 ?_ ?_<;>intro h ae<;>try exact Xp|refine Z6 ?_;intro G dn ai aj T ab I aa|refine Z5 ?_;refine Xi (a3 _) ?_;rintro _ _ ⟨rfl,Y⟩;(have ao:=Y.B;have an:=Y.C;simp only[Aa]at ao an)|refine Z7 ?_|exact Zt|apply ya.o;clear ya yb
 rename_i L;have H:AD d L:=((AD.refl d).new _).trans Y;have au:L.C ow=C7 ida nA cA fz mo ido (Z O) oc B:=by rw[H.C _ bb,a9]
 refine Ae (λm s p=>∃(i n:Nat),m=Z f-i/\i<=Z f/\s 0=ptr ow 0/\s 5=str f/\s 6=ic n/\s 7=ic i/\p=L/\n<4096/\AC (n=(f.take i).foldl Yu 0)) (Z f)
  ⟨0,0,AA,AA,by simp[upd,AL],AG,AG,AG,rfl,nr,by simp[AC]⟩ ?_
 rintro m s p ⟨i,n,rfl,hi,h0,h5,h6,h7,rfl,hn,W⟩;by_cases C:i<Z f
 ·have E:=AK C;generalize f[i]=t at E;have bq:t.toNat<256:=t.toNat_lt;have ba:Int.tmod ((n:Int)*31+(t.toNat:Int)) 4096=((Yu n t:Nat):Int):=rfl;have M:AC (Yu n t=(f.take (i+1)).foldl Yu 0):=by
   rw[AC,AT,E,List.foldl_append,<-W.o];rfl
  have bm:Yu n t<4096:=Nat.mod_lt _ nr;refine mu ?_;refine⟨Z f-(i+1),AA,i+1,Yu n t,?_⟩;exact m9 M
 have bc:i=Z f:=AA;subst bc;have P:n=Jn f:=by have h:=W.o;rw[AS]at h;exact h
 obtain⟨y,A⟩:∃y,B[n]?=some y:=⟨B[n]'(by rw[z.bl];exact hn),AK _⟩;have bp:=pN (ida:=ida) (nA:=nA) (cA:=cA) (fz:=fz) (mo:=mo) (ido:=ido) (nO:=Z O) (oc:=oc) A;have bh:=z.bn y (AY A);rw[<-P];have a5:AC (Sp B f↔f∈y.2):=by
  unfold Sp;rw[<-P];exact⟨λ⟨x,h1,h2⟩=>by rw[A]at h1;cases h1;exact h2,λh=>⟨y,A,h⟩⟩
 have X:AC (B[n]?=some y):=A;have HW:AC _:=z.keep H;clear W P A C hi;generalize az:C7 ida nA cA fz mo ido (Z O) oc B=wc at*
 have bf:AC _:=az;clear az;refine mu ?_
 refine Ae (λm s τ=>∃(q:Nat),m=Z y.2-q/\q<=Z y.2/\s 0=ptr ow 0/\s 5=str f/\s 6=ic n/\s 8=ic q/\τ=p/\AC (∀u∈y.2.take q,u≠f)) (Z y.2)
  ⟨0,AA,AA,AI,AI,AI,AG,rfl,λu g=>by simp at g⟩ ?_
 clear h0 h5 h6 h7;rintro m s d2 ⟨q,rfl,hq,h0,h5,h6,h8,rfl,a4⟩;by_cases C:q<Z y.2
 ·have E:=AK C;have hd:=A1 C;have a0:=AR C;generalize y.2[q]=u at hd E a0;by_cases g:u=f
  ·have a7:(u==f)=true:=by simp[g]
   have HR:AC (Sp B f):=a5.o.2 (g ▸ a0);clear g;refine mu ?_
   first
   |exact⟨_,rfl,.inl ⟨HR.o,rfl,H⟩⟩
   |exact⟨_,rfl,.inl ⟨HR.o,rfl⟩⟩
  have a7:(u==f)=false:=nn g;have M:AC (∀u∈y.2.take (q+1),u≠f):=λv hv=>by
   rw[AT,E]at hv;rcases AW.1 hv with J|J
   ·exact a4.o v J
   simp at J;subst J;exact g
  clear g;refine mu ?_;refine⟨Z y.2-(q+1),AA,q+1,?_⟩;exact m9 M
 have a8:q=Z y.2:=AA;subst a8;have bg:AC (¬Sp B f):=λh=>a4.o f (by rw[AS];exact a5.o.1 h) rfl
 have bd:Live d2 y.1 (Z y.2):=HW.o.rw'.1 (y.1,Z y.2) (by
  refine IM _ (AN.2 ⟨y,AY X.o,rfl⟩))
 have a6:Z (y.2.map str)=Z y.2*1:=nk;refine mu ?_;refine A2 (Q:=λe s' k=>e= .normal/\∃id',FC k ow ida nA cA fz mo ido O oc (B.set n (id',y.2++[f])) (N+1)/\KW ow (Dv ido (Z O) B) (Dv ido (Z O) (B.set n (id',y.2++[f]))) d2 k) ?_ ?_
 ·refine Ar Ag (λ_=>True) [14] [0,1,2,3,4,5,6,7,8,11,12] 4 (nv 15 6655) AH (λ_ _ _ h=>by cases h.1) ?_;intro yb ya;refine Z7 ?_;refine ya.o _ ?_;clear ya yb;refine Ai (i:=9) AH ?_;refine Am ?_;intro yb ya;refine Z7 ?_;refine ya.o _ _ ⟨Al ((AD.refl _).lay 1),?_⟩;clear ya yb;refine Ai (i:=10) AH ?_;refine Am ?_;intro yb ya;refine Z7 ?_;refine Ty (by first|exact S1) bd nr (by rfl) a6 (by rfl) (by rfl) nr AA AA ?_;intro G dn be av aw T ab I aa F;refine Z7 ?_;refine ya.o _ _ ⟨λ_ o R _=>by rw[I],?_⟩;clear ya yb;have eow:dn.C ow=wc:=by rw[T,au]
  refine Ai (i:=13) AH ?_;refine Am ?_;intro yb ya;refine Z7 ?_;refine ya.o _ _ ⟨λ_ o R _=>by rw[I],?_⟩;clear ya yb;refine Ai (i:=14) AH ?_;refine Am ?_;intro yb ya;refine Z7 ?_;refine ya.o _ _ ⟨A3 rfl,?_⟩;clear ya yb;refine Aw AH ⟨rfl,G,?_⟩;refine FC.addB HW.o X.o ?_ av aw ?_ ?_ ?_ ?_ ?_ ?_
  ·exact be
  ·intro o R D;rw[show∀(S:St) c,(S.put ow c).C o=S.C o from λS c=>by simp[St.put,D],T]
  ·intro o R D;rw[show∀(S:St) c,(S.put ow c).ver o=S.ver o from λS c=>by simp[St.put,D],I]
  ·simp only[Ac];omega
  ·simp only[Nc];omega
  ·intro j hj D;rw[Og];exact F j hj D
  rw[Ak,bf.o]
 rintro e s' k ⟨rfl,id',g1,g2⟩;refine mu ?_;exact⟨_,rfl,.inr ⟨bg.o,rfl,id',y,X.o,g1,(KW.ofKeep H).trans g2⟩⟩
def oE (x c A cA ida)(M:AJ x c)(D:x.fits)(K:EL Bf A cA)(S:Z A<=1000)(J:∀b∈A,Z b.A<=1000)(d):ni 240 [ag c,sl ida (Z A) cA] d λr g=>∃b,r=my b/\(b=true↔∃a∈x.A,a.nt=true/\wT a∈A)/\AD d g:=by
 obtain⟨E,id,b,C,rfl⟩:=M.cells;have aw:=EL.length A7 C;have N:=D.1;unfold A4;refine Z9 25 [.tmp 4] Tryz.func240 ?_;refine mr ?_
 refine Ae (λm s g=>∃i:Nat,m=Z x.A-i/\i<=Z x.A/\s 1=sl ida (Z A) cA/\s 2=ptr d.B 0/\s 5=ic i/\AD d g/\d.B<g.B/\g.C d.B=[my x.o,my x.h.nt,str x.h.B,sl E (Z x.h.A) (x.h.A.map str),sl id (Z x.A) b]/\AC (∀a∈x.A.take i,¬(a.nt=true/\wT a∈A))) (Z x.A)
  ⟨0,AA,AA,by simp[upd,AL],AG,AG,Xs,AM,Ao,λa f=>by simp at f⟩ ?_
 rintro m s g ⟨i,rfl,W,t,z,U,e,Y,X,y⟩;have ap:=e.B;by_cases G:i<Z x.A
 ·have j:=AK G;obtain⟨B,r,O⟩:=Ca C j;generalize x.A[i]=w at O j;have p:AC (¬(w.nt=true/\wT w∈A)->∀a∈x.A.take (i+1),¬(a.nt=true/\wT a∈A)):=λQ a f=>by
   rw[AT,j]at f;rcases AW.1 f with l|l
   ·exact y.o a l
   simp at l;subst l;exact Q
  have L:AC (w∈x.A):=AY j;clear j;cases k:w.nt with
  |false=>
   have q:AC _:=p.o (λh=>by rw[k]at h;cases h.1);clear p;refine mr ?_;refine⟨Z x.A-(i+1),AA,i+1,?_⟩
   ((repeat' refine Zi ?_ ?_)<;>first|exact Xq|exact q|exact ((e.new _).put e.B _)|exact Xs)
  |true=>
   have F:=λd=>Gt A cA ida (wT w) [my false,str w.B,sl B (Z w.A) (w.A.map str)] K ⟨B,rfl⟩ S J d;refine m0 ?_;intro yb ya;refine Xi (F _) ?_;rintro _ _ ⟨P,rfl,u,n⟩;(have v:AC _:=u;clear u;have H:=n.B;have T:=n.C;simp only[Ac,Aa]at H T);refine m6 ?_ ?_<;>intro h V
   ·have R:(true=true↔∃a∈x.A,a.nt=true/\wT a∈A):=⟨λ_=>⟨w,L.o,k,v.o.1 nu⟩,λ_=>rfl⟩;exact⟨_,rfl,true,rfl,R,(((e.new _).put e.B _).put e.B _).trans n⟩
   have q:AC _:=p.o (λh=>by
    have t:=v.o.2 h.2;have z:P=false:=nu
    rw[z]at t;cases t)
   refine⟨Z x.A-(i+1),AA,i+1,?_⟩
   ((repeat' refine Zi ?_ ?_)<;>first|exact Xq|exact q|exact ((((e.new _).put e.B _).put e.B _).trans n)|exact Xs)
 have I:i=Z x.A:=AA;subst I;have o:(false=true↔∃a∈x.A,a.nt=true/\wT a∈A):=⟨λh=>(by cases h),λ⟨a,f,h⟩=>absurd h (y.o a (by rw[AS];exact f))⟩;refine mr ?_
 first|exact⟨_,rfl,false,rfl,o,e⟩|exact⟨false,rfl,o,e⟩|exact⟨_,rfl,false,rfl,o⟩
def Hr (b a:Nat):Nat->Nat
 |0=>b
 |p+1=>1+a*Hr b a p
structure H3 (A:oq)(cA:oh):Prop where
 el:EL Bf A cA
 len:Z A<=1000
 gnd:∀a∈A,aI a
 cl:∀a∈A,DX a
structure CJ (fz:Bool)(c0 p:Nat)(x:AB):Prop where
 cl:iQ x
 len:Z x.A<=1000
 saf:tD fz x
 cnt:x.A.countP (Pt fz)=p
 neg:c0=1\/∀a∈x.A,Pt fz a=true
def CJ.fits {fz c p x}(h:CJ fz c p x):x.fits:=⟨h.len,h.cl.2.1.2.2,λa b=>(h.cl.2.2 a b).2.2⟩
def iC {α:Type}(p){l:List α}{j a}(h:l[j]?=some a)(b:p a=true):(l.eraseIdx j).countP p+1=l.countP p:=by
 have d:=(BA.1 h).1;have c:=(BA.1 h).2;have e:l=l.take j++a::l.drop (j+1):=by
  rw[<-c,List.getElem_cons_drop,KD]
 rw[List.eraseIdx_eq_take_drop_succ,MI];have e2:l.countP p=(l.take j).countP p+((l.drop (j+1)).countP p+1):=by
  conv=>lhs;rw[e]
  rw[MI,MJ,if_pos b]
 omega
def CJ.step {fz k p x y j t b}(h:CJ fz k (p+1) x)(i:x.A[j]?=some b)(s:Pt fz b=true)(d:aI t)(l:DX t)(f:Kp x j t=some y):CJ fz k p (C8 y j)/\Z (C8 y j).A=Z x.A-1:=by
 obtain⟨B,z,c,v,rfl,g,-⟩:=Vj f h.cl.1 d;have q:=(BA.1 i).1;have o:Z (C8 (Rv c x) j).A=Z x.A-1:=by
  simp only[C8,Rv];rw[List.length_eraseIdx_of_lt (nn q),BV]
 refine⟨⟨YP h.cl l d f,by have:=h.len;omega,VH h.saf h.cl.1 d f,?_,?_⟩,o⟩;have A:(Rv c x).A.countP (Pt fz)=p+1:=by
  rw[<-h.cnt];simp only[Rv];rw[List.countP_map];rfl
 have n:Pt fz t=true:=by
  have:(Rv c x).A[j]?=some (G3 c b):=by simp[Rv,i]
  rw[this]at g;cases g;exact s
 have:=iC (Pt fz) g n;show ((Rv c x).A.eraseIdx j).countP (Pt fz)=p;omega;rcases h.neg with e|e;exact .inl e;refine .inr λa r=>?_;obtain⟨m,u,rfl⟩:=AN.1 (EE r);exact e m u
def Ul (fz:Bool)(A:oq)(cA:oh)(ida:Nat)(mo:Int)(i p:Nat)(x:AB)(ow ido:Nat)(O:oq)(B:BK)(N:Nat)(d g:St):Prop:=
 ∃a b c e f,FC g ow ida (Z A) cA fz mo a b c e f/\KW ow (Dv ido (Z O) B) (Dv a (Z b) e) d g/\aE fz A mo x O (Sp B) b (Sp e)/\f+Z O<=N+Z b+Hr i (Z A) p
end Go.Proofs.YtmoeoppbmhfbpabGreatDoorJ
