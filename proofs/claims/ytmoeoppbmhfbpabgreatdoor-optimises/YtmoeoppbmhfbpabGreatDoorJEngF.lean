import Derived.Test.YtmoeoppbmhfbpabGreatDoorJEngA
set_option maxHeartbeats 16000000
set_option maxRecDepth 100000
set_option linter.all false
open List renaming length->Z
namespace Go.Proofs.YtmoeoppbmhfbpabGreatDoorJ
open Go.Abs
def F2 (q:AZ):AZ:={q with A:=q.A.eraseP λp=>idleB q p.a}
def oA {α:Type}(f:α->Bool)(l w):(l++[w]).eraseP f=if l.any f=true then l.eraseP f++[w]else if f w=true then l else l++[w]:=by
 by_cases h:l.any f=true;rw[if_pos h];rw[CU]at h;obtain⟨x,e,a⟩:=h;exact List.eraseP_append_left a _ e;rw[if_neg h];have g:∀b∈l,¬f b=true:=λb d a=>h (CU.2 ⟨b,d,a⟩);rw[List.eraseP_append_right _ g];by_cases c:f w=true;simp[c];simp[c]
def yT {α:Type}(f:α->Bool)(l):Z (l.eraseP f)<=Z l:=List.length_eraseP_le
def kF {q}(h:Qt q):Qt (F2 q):=by
 have b:∀p∈(F2 q).A,p∈q.A:=λp a=>List.mem_of_mem_eraseP a;have c:Z (F2 q).A<=Z q.A:=yT _ _;exact⟨h.hd,BI c h.pl,h.nl,λp a=>h.pa p (b p a),λp a=>h.pt p (b p a),λp a=>h.p3 p (b p a),h.na⟩
def nZ (q c)(V:EQ q c)(M:Qt q)(u):ni 256 [ag c] u λr f=>(∃U,r=ag U/\EQ (F2 q) U)/\AD u f:=by
 have X:=V;obtain⟨G,W,v,Y,K,rfl,P,hN⟩:=V;have hpl:=EL.length Ex P;have hl:=M.pl;have z:=λ(a:Dx) (id:Nat) (O:Z a.ts<=3) u=>sH q _ a id O X M u;clear X;refine Z9 35 [.cell 2 191] Tryz.func256 ?_;refine mr ?_
 refine Ae (λm s f=>∃(k E:Nat) (d:Bool) (o:List Part) (e:oh),m=Z q.A-k/\k<=Z q.A/\s 1=ptr u.B 0/\s 2=ptr (u.B+1) 0/\s 3=ptr (u.B+2) 0/\s 4=my d/\s 13=sl W (Z q.A) Y/\s 14=ic (Z q.A)/\s 15=ic k/\AD u f/\u.B+2<f.B/\f.C u.B=[ic q.h.p,sl G (Z q.h.ts) (Ad q.h.ts),sl W (Z q.A) Y,sl v (Z q.B) K]/\f.C (u.B+1)=[ic 0,nilS,nilS,nilS]/\f.C (u.B+2)=[ic q.h.p,sl G (Z q.h.ts) (Ad q.h.ts),sl E (Z o) e,sl v (Z q.B) K]/\Own u f E (Z o)/\Z o<=k/\Z e=Z o*3/\AC (EL Oa o e/\d=(q.A.take k).any (λp=>idleB q p.a)/\o=(q.A.take k).eraseP λp=>idleB q p.a)) (Z q.A)
  ⟨0,1,false,[],[],AA,AA,AG,AG,AG,AG,AG,AG,rfl,Xs,BJ,?_,?_,?_,Own.nil _ _,nk,nk,⟨rfl,nk,nk⟩⟩ ?_
 ·rw[Aj AA,Ah AM,Ah AM,Ao]
 ·rw[Aj AA,Ah AM,Be AM AM]
 ·rw[show u.B+2=u.B+1+1 by omega,Ak];simp
 rintro m s f ⟨k,E,d,o,e,rfl,hk,h1,h2,h3,h4,a9,a8,a7,l,a6,a3,a0,az,J,a5,av,t⟩;have a4:=l.B;by_cases T:k<Z q.A
 ·have F:=AK T;obtain⟨id,b,r,hd⟩:=F0 P F;have hb:=M.pa _ (AR T);generalize q.A[k]=w at hd F hb;have y:AC ((q.A.take (k+1)).eraseP (λp=>idleB q p.a)=if (q.A.take k).any (λp=>idleB q p.a)=true then (q.A.take k).eraseP (λp=>idleB q p.a)++[w]else if idleB q w.a=true then q.A.take k else q.A.take k++[w]):=by
   rw[AC,AT,F,BN,oA]
  have B:AC ((q.A.take (k+1)).any (λp=>idleB q p.a)=((q.A.take k).any (λp=>idleB q p.a)||idleB q w.a)):=by
   rw[AC,AT,F,BN,MH];simp
  have C:AC ((q.A.take k).any (λp=>idleB q p.a)=false->(q.A.take k).eraseP (λp=>idleB q p.a)=q.A.take k):=λh=>List.eraseP_of_forall_not (λa O hf=>by
   rw[EV]at h
   exact h a O hf)
  clear F;have z:=z w.a id hb;cases d with
  |true=>
   have D:AC (EL Oa (o++[w]) (e++[ic w.a.p,sl id (Z w.a.ts) (Ad w.a.ts),sl b (Z w.A) (Fg w.A)])/\true=(q.A.take (k+1)).any (λp=>idleB q p.a)/\o++[w]=(q.A.take (k+1)).eraseP λp=>idleB q p.a):=by
    obtain⟨n,g,j⟩:=t.o;refine⟨EL.append n (EL.single ⟨id,b,rfl⟩),?_,?_⟩
    ·rw[B.o,<-g];rfl
    rw[y.o,if_pos g.symm,j]
   clear t y B C;refine nh ?_;intro yb ya;refine Bo (by first|exact Ee) ((l.new _).put l.B _) (Own.put (Own.new J _) _ _) nr (by rfl) (av) (by rfl) (by rfl) nr AA AA ?_;intro x R N I Q S ad ab;simp only[Ac,Aa]at S;have eob:∀p,p<f.B->R.C p=f.C p:=λp hp=>by rw[Q,Aj AA,Ah AA]
   refine Z3 ?_;refine mr ?_;refine⟨Z q.A-(k+1),AA,k+1,x,true,o++[w],e++[ic w.a.p,sl id (Z w.a.ts) (Ad w.a.ts),sl b (Z w.A) (Fg w.A)],?_⟩
   ((repeat' refine Zi ?_ ?_)<;>first|exact Xq|exact (I.put AA _)|exact (nn (Own.put N _ _))|exact D|exact Xs)
  |false=>
   cases A:idleB q w.a with
   |true=>
    have D:AC (EL Oa o e/\true=(q.A.take (k+1)).any (λp=>idleB q p.a)/\o=(q.A.take (k+1)).eraseP λp=>idleB q p.a):=by
     obtain⟨n,g,j⟩:=t.o;refine⟨n,?_,?_⟩
     ·rw[B.o,<-g,A];rfl
     rw[y.o,if_neg (by rw[<-g];simp),if_pos A,j,C.o g.symm]
    clear t y B C;rw[A]at z;refine m0 ?_;intro yb ya;refine Xi (z _) ?_;rintro _ _ ⟨rfl,i⟩;(have H:=i.B;have L:=i.C;have ay:=((l.new _).put l.B _).trans i;have ax:=Own.keep (Own.put (Own.new J _) _ _) i;simp only[Ac,Aa]at H L);refine mr ?_;refine⟨Z q.A-(k+1),AA,k+1,E,true,o,e,?_⟩;exact m9 D
   |false=>
    have D:AC (EL Oa (o++[w]) (e++[ic w.a.p,sl id (Z w.a.ts) (Ad w.a.ts),sl b (Z w.A) (Fg w.A)])/\false=(q.A.take (k+1)).any (λp=>idleB q p.a)/\o++[w]=(q.A.take (k+1)).eraseP λp=>idleB q p.a):=by
     obtain⟨n,g,j⟩:=t.o;refine⟨EL.append n (EL.single ⟨id,b,rfl⟩),?_,?_⟩
     ·rw[B.o,<-g,A];rfl
     rw[y.o,if_neg (by rw[<-g];simp),if_neg (by rw[A];simp),j,C.o g.symm]
    clear t y B C;rw[A]at z;refine m0 ?_;intro yb ya;refine Xi (z _) ?_;rintro _ _ ⟨rfl,i⟩;(have H:=i.B;have L:=i.C;have ay:=((l.new _).put l.B _).trans i;have ax:=Own.keep (Own.put (Own.new J _) _ _) i;simp only[Ac,Aa]at H L);refine m5 ?_;intro yb ya;intro x R N I Q S ad ab;refine mr ?_;refine⟨Z q.A-(k+1),AA,k+1,x,false,o++[w],e++[ic w.a.p,sl id (Z w.a.ts) (Ad w.a.ts),sl b (Z w.A) (Fg w.A)],?_⟩
    ((repeat' refine Zi ?_ ?_)<;>first|exact Xq|exact (I.put AA _)|exact (nn (Own.put N _ _))|exact D|exact Xs)
 have aw:k=Z q.A:=AA;subst aw;obtain⟨n,-,j⟩:=t.o;rw[AS]at j;refine mr ?_;exact⟨_,rfl,⟨_,rfl,G,E,v,e,K,by rw[F2,<-j],by rw[F2,<-j];exact n,hN⟩,l.put AA _⟩
inductive EA (q:AZ):AZ->Prop where
 |refl:EA q q
 |tail {q':AZ}:EA q q'->EA q (F2 q')
def sD (q c)(L:EQ q c)(y:Qt q)(u):ni 221 [ag c] u λr d=>(∃A x,r=ag A/\EQ x A/\Qt x/\EA q x)/\AD u d:=by
 obtain⟨z,C,g,E,B,rfl,n,o⟩:=L;have D:=y.pl;refine Z9 19 [.cell 2 191] Tryz.func221 ?_;refine mr ?_
 refine Ae (λm s d=>∃(a:AZ) (l:oh),s 1=ptr u.B 0/\s 2=ptr (u.B+1) 0/\s 3=ic m/\m<=65/\AD u d/\u.B+1<d.B/\d.C u.B=l/\d.C (u.B+1)=[ic 0,nilS,nilS,nilS]/\EQ a l/\AC (Qt a/\EA q a)) (Z q.A+1)
  ⟨q,_,AG,AG,AG,AA,Xs,AM,rfl,?_,⟨z,C,g,E,B,?_,n,o⟩,y,.refl⟩ ?_
 ·rw[Be AM AM]
 ·rw[Ah AM,Ao]
 clear n o D;rintro m s d ⟨a,l,S,P,R,M,p,U,N,T,F,e⟩;have Q:=p.B;have v:=F;obtain⟨z,C,g,E,B,rfl,n,o⟩:=F;have G:=λu=>nZ a _ v e.o.1 u;have K:AC _:=v;clear v;have D:=e.o.1.pl;by_cases W:Z a.A<m
 ·refine m0 ?_;intro yb ya;refine Xi (G _) ?_;rintro _ _ ⟨⟨_,rfl,j,i,b,f,k,rfl,H,J⟩,t⟩;(have O:=t.B;have V:=t.C;have I:=p.trans t);refine mr ?_
  refine⟨Z a.A,AA,F2 a,[ic (F2 a).h.p,sl j (Z (F2 a).h.ts) (Ad (F2 a).h.ts),sl i (Z (F2 a).A) f,sl b (Z (F2 a).B) k],?_⟩
  ((repeat' refine Zi ?_ ?_)<;>first|exact Xq|exact (I.put AA _)|exact (⟨j,i,b,f,k,rfl,H,J⟩)|exact (⟨kF e.o.1,.tail e.o.2⟩)|exact Xs)
 refine mr ?_;exact⟨_,rfl,⟨_,a,rfl,K.o,e.o.1,e.o.2⟩,p.put AA _⟩
def Io {t}(h:Z t=3):Z (As t)=3:=by rw[B9,h]
def Ow {t}(h:Z t=3)(r):List.take 3 (As t++r)=As t:=by rw[List.take_append_of_le_length (by rw[Io h];exact AU _),FZ (by rw[Io h];exact AU _)]
def Jm {t}(h:Z t=3):List.take 3 (As t)=As t:=FZ (by rw[Io h];exact AU _)
def Qj {t}(h:Z t=3)(x y z):lsp [x,y,z] 0 (As t)=As t:=by
 match t,h with
 |[a,b,c],_=>rfl
def eM {t}(h:Z t=3)(r):3<=Z (As t++r):=by rw[AX,Io h];omega
def Qk {t}{i:Nat}{x}(h:t[i]?=some x):(As t)[i]?=some (ic x):=by simp[As,h]
def Ux (a:List Tm)(t:Ck)(i:Nat):Bool:=match a[i]?,t[i]? with
 |some (false,n),some x=>x==n
 |some (true,v),some x=>x==(t[(Jp a v).toNat]?).getD 0
 |_,_=>false
def Mp (a:List Tm)(t:Ck):Bool:=(List.range (Z a)).all (Ux a t)
def sI (p ids ts t)(N:Z t=3)(hn:Z ts<=3)(u):ni 185 [ag [ic p,sl ids (Z ts) (Ad ts)],ag (As t)] u λr a=>r=my (Mp ts t)/\AD u a:=by
 have a3:=Cx ts;have a7:=Io N;have a6:=Jm N;have aw:Z ts<=1000:=AA;have W:∀i,i<Z ts->Ux ts t i=false->Mp ts t=false:=λi O h=>by
  unfold Mp;rw[IQ];exact⟨i,nn O,by rw[h];simp⟩
 refine Z9 41 [.tmp 4] Tryz.func185 ?_;refine mr ?_
 refine Ae (λm s a=>∃i:Nat,m=Z ts-i/\i<=Z ts/\s 2=ptr u.B 0/\s 3=ptr (u.B+1) 0/\s 8=sl ids (Z ts) (Ad ts)/\s 9=ic (Z ts)/\s 10=ic i/\AD u a/\u.B+1<a.B/\a.C u.B=[ic p,sl ids (Z ts) (Ad ts)]/\a.C (u.B+1)=As t/\AC (∀j,j<i->Ux ts t j=true)) (Z ts)
  ⟨0,AA,AA,AG,AG,AG,AG,rfl,Xs,AM,?_,?_,λj F=>AA⟩ ?_
 ·rw[Ah AM,Ao]
 ·rw[Be AM AM]
 rintro m s a ⟨i,rfl,O,h2,h3,h8,h9,a8,g,a4,av,P,C⟩;have a0:=g.B;by_cases S:i<Z ts
 ·have q:=AK S;obtain⟨r,hd⟩:=C3 q;have v:t[i]?=some t[i]:=AK AA;have X:=Qk v;generalize ts[i]=w at hd q;generalize t[i]=x at v X;obtain⟨w1,f⟩:=w;have R:AC (Ux ts t i=true->∀j,j<i+1->Ux ts t j=true):=λh j F=>by
   by_cases e:j=i
   ·subst e;exact h
   exact C.o j AA
  have I:AC (Ux ts t i=false->Mp ts t=false):=W i S;cases w1 with
  |false=>
   have z:AC (Ux ts t i=(x==f)):=by rw[AC,Ux,q,v]
   clear q v C;refine mr ?_;refine Ax Ag (λ_=>True) [] [0,1,2,3,4,5,6,7,8,9,10] [] AH (λ_ _ _ h=>h) ?_;intro yb ya;refine m6 ?_ ?_<;>intro h aa
   ·exact⟨_,rfl,by rw[I.o (by rw[z.o];simp only[bne_iff_ne,ne_eq]at h;simp[h])],(g.new _).put g.B _⟩
   have T:AD u ((a.new [my false,ic 0]).put a.B [my false,ic f]):=(g.new _).put g.B _;have A:∀p,p<a.B->((a.new [my false,ic 0]).put a.B [my false,ic f]).C p=a.C p:=λp hp=>by rw[Aj AA,Ah AA]
   refine A2 (Q:=λe b c=>e= .normal/\b 39=my false/\b 2=ptr u.B 0/\b 3=ptr (u.B+1) 0/\b 8=sl ids (Z ts) (Ad ts)/\b 9=ic (Z ts)/\b 10=ic i/\c=(a.new [my false,ic 0]).put a.B [my false,ic f]) ?_ ?_
   ·refine Ar Ag (λ_=>True) [] [0,1,2,3,4,5,6,7,8] 5 (nv 14 511) AH (λ_ _ _ h=>by cases h.1) ?_;intro yb ya;refine Z3 ?_;refine ya.o _ ?_;clear ya yb;refine Ai (i:=9) AH ?_;refine Am ?_;intro yb ya;refine Z3 ?_;refine ya.o _ _ ⟨kept_refl,?_⟩;clear ya yb;refine Df [10,11,12,13] AH AH (λ_ _ _ h=>by cases h.1) (AU _) (λo M _=>rfl) ?_;intro yb ya;refine Z3 ?_;refine ya.o _ _ ⟨rfl,?_⟩;simp[upd, *]
   rintro e b c ⟨rfl,d,g2,Y,g8,g9,E,rfl⟩;refine De d ?_;refine mr ?_;refine⟨Z ts-(i+1),AA,i+1,?_⟩
   ((repeat' refine Zi ?_ ?_)<;>first|exact Xq|exact (R.o (by rw[z.o];simpa using h))|exact Xs)
  |true=>
   obtain⟨H,hpl,K⟩:∃k:Nat,k<Z ts/\Jp ts f=(k:Int):=by
    have J:=AY q;exact⟨ts.idxOf (true,f),List.idxOf_lt_length_iff.2 J,if_pos J⟩
   have D:t[H]?=some t[H]:=AK AA;have ay:=Qk D;generalize t[H]=y at D ay;have z:AC (Ux ts t i=(x==y)):=by rw[AC,Ux,q,v];simp[K,D]
   clear q v C D;have U:=λu=>Gw p ids ts f aw u;rw[K]at U;refine mr ?_;refine Ax Ag (λ_=>True) [] [0,1,2,3,4,5,6,7,8,9,10] [] AH (λ_ _ _ h=>h) ?_;intro yb ya;refine mr ?_;have T:AD u ((a.new [my false,ic 0]).put a.B [my true,ic f]):=(g.new _).put g.B _;have A:∀p,p<a.B->((a.new [my false,ic 0]).put a.B [my true,ic f]).C p=a.C p:=λp hp=>by rw[Aj AA,Ah AA]
   refine A2 (Q:=λe b c=>e= .normal/\b 39=my (x !=y)/\b 2=ptr u.B 0/\b 3=ptr (u.B+1) 0/\b 8=sl ids (Z ts) (Ad ts)/\b 9=ic (Z ts)/\b 10=ic i/\AD ((a.new [my false,ic 0]).put a.B [my true,ic f]) c) ?_ ?_
   ·refine Ar Ag (λ_=>True) [] [0,1,2,3,4,5,6,7,8] 5 (nv 14 511) AH (λ_ _ _ h=>by cases h.1) ?_;intro yb ya;refine Z3 ?_;refine ya.o _ ?_;clear ya yb;refine Ai (i:=9) AH ?_;refine Am ?_;intro yb ya;refine Z3 ?_;refine AF.mono (U _) ?_;rintro _ u5 ⟨rfl,l⟩;refine Z3 ?_;refine ya.o _ _ ⟨Al l,?_⟩;clear ya yb;have G:=l.B;have n:=l.C;simp only[Ac,Aa]at G n;have o5:u5.C (u.B+1)=As t:=by rw[n _ AA,A _ AA,P]
    refine Df [10,11,12,13] AH AH (λ_ _ _ h=>by cases h.1) l.B (λo M _=>l.ver o M) ?_;intro yb ya;refine Z3 ?_;refine ya.o _ _ ⟨rfl,?_⟩;simp[upd, *]
   rintro e b c ⟨rfl,d,g2,Y,g8,g9,E,l⟩;have G:=l.B;have n:=l.C;simp only[Ac,Aa]at G n;have a5:=T.trans l;have V:c.C u.B=[ic p,sl ids (Z ts) (Ad ts)]:=by rw[n _ AA,A _ AA,av]
   have o51:c.C (u.B+1)=As t:=by rw[n _ AA,A _ AA,P]
   clear n A;cases B:x !=y with
   |true=>
    rw[B]at d;refine Cj d ?_;refine mr ?_;exact⟨_,rfl,by rw[I.o (by rw[z.o];simp only[bne_iff_ne,ne_eq]at B;simp[B])]⟩
   |false=>
    rw[B]at d;refine De d ?_;refine mr ?_;refine⟨Z ts-(i+1),AA,i+1,?_⟩
    ((repeat' refine Zi ?_ ?_)<;>first|exact Xq|exact (R.o (by rw[z.o];simpa using B))|exact Xs)
 have ax:i=Z ts:=AA;subst ax;have L:Mp ts t=true:=by
  unfold Mp;rw[CX];intro j F;exact C.o j (nn F)
 refine mr ?_
 first|exact⟨_,rfl,by rw[L],g⟩|exact⟨_,rfl,by rw[L]⟩|exact⟨_,rfl,g⟩|exact⟨_,rfl,rfl⟩|exact g
def Kw {l k t}(d:T3 l)(h:l[k]?=some t):Z t=3/\∃r,(Fg l).drop (k*3)=As t++r:=by
 obtain⟨a,b,c,r,rfl,e⟩:=uQ d h;exact⟨rfl,r,by rw[e];rfl⟩
def Iu (t:Ck)(k:Int):Int:=(t[k.toNat]?).getD 0
def K3 {a v}(h:Bm a v=true):∃k:Nat,k<Z a/\Jp a v=(k:Int):=by
 have b:(true,v)∈a:=by simpa[Bm]using h
 exact⟨a.idxOf (true,v),List.idxOf_lt_length_iff.2 b,if_pos b⟩
def Iv (v n:Int)(p:Part):Part:=if Bm p.a.ts v=true then⟨⟨p.a.p,Bt v n p.a.ts⟩,p.A.filter λt=>Iu t (Jp p.a.ts v)==n⟩else p
def Em {α:Type}(f:α->Bool)(l x):(l++[x]).filter f=l.filter f++if f x=true then [x]else []:=by
 rw[IR];by_cases h:f x=true<;>simp[h]
def sE (p id idt v n)(ha:Z p.a.ts<=3)(ht:Z p.A<=5000)(Q:T3 p.A)(u):ni 227 [ag [ic p.a.p,sl id (Z p.a.ts) (Ad p.a.ts),sl idt (Z p.A) (Fg p.A)],ic v,ic n] u λr b=>(∃U,r=ag U/\Oa (Iv v n p) U)/\AD u b:=by
 have bg:=J4 Q;have S:Z p.a.ts<=1000:=AA;have F:=λu=>Gw p.a.p id p.a.ts v S u;have bb:=λu=>Oz p.a.p id p.a.ts v n S u;cases E:Bm p.a.ts v with
 |false=>
  have N:Jp p.a.ts v= -1:=K1 (by simpa[Bm]using E);have M:AC (Iv v n p=p):=if_neg (by rw[E];simp);rw[N]at F;clear N;refine Z9 44 [.cell 6 239] Tryz.func227 ?_;refine m0 ?_;intro yb ya;refine Xi (F _) ?_;rintro _ _ ⟨rfl,d⟩;(have I:=d.B;have y:=d.C;have G:=(((AD.refl u).new _).new _).trans d;simp only[Aa]at I y);refine mr ?_;exact⟨_,rfl,⟨_,rfl,by rw[M.o];exact⟨id,idt,rfl⟩⟩,G.put AA _⟩
 |true=>
  obtain⟨a,hpl,J⟩:=K3 E;have M:AC (Iv v n p=⟨⟨p.a.p,Bt v n p.a.ts⟩,p.A.filter λt=>Iu t a==n⟩):=by rw[AC,Iv,if_pos E,J]
  rw[J]at F;clear J;have a6:a<3:=AA;have a7:((a:Int)== -1)=false:=nk;refine Z9 44 [.cell 6 239] Tryz.func227 ?_
  (repeat (refine m0 ?_;intro yb ya;(first|(refine Xi (F _) ?_;rintro _ _ ⟨rfl,d⟩;(have I:=d.B;have y:=d.C;have G:=(((AD.refl u).new _).new _).trans d;simp only[Aa]at I y))|(refine Xi (bb _) ?_;rintro _ _ ⟨⟨j,rfl⟩,H⟩;(have a3:=H.B;have T:=H.C;have bc:=G.trans H)))));refine mr ?_
  rename_i u1 A;have R:A.C (u.B+1)=[ic 0,nilS,nilS]:=by rw[T _ AA,y _ AA,Be AM AM]
  clear y T G d H
  refine Ae (λm s b=>∃(i q:Nat) (o:List Ck) (c:oh),m=Z p.A-i/\i<=Z p.A/\s 2=ic n/\s 6=ptr (u.B+1) 0/\s 7=ic a/\s 8=ptr A.B 0/\s 25=sl idt (Z p.A) (Fg p.A)/\s 26=ic (Z p.A)/\s 27=ic i/\AD u b/\A.B<b.B/\b.C (u.B+1)=[ic 0,nilS,nilS]/\b.C A.B=[ic p.a.p,sl j (Z (Bt v n p.a.ts)) (Ad (Bt v n p.a.ts)),sl q (Z o) c]/\Own u b q (Z o)/\Z o<=i/\Z c=Z o*3/\AC (c=Fg o/\o=(p.A.take i).filter λt=>Iu t a==n)) (Z p.A)
   ⟨0,1,[],[],AA,AA,by simp[upd,AL],AG,AG,AG,AG,AG,rfl,Xs,BJ,?_,?_,Own.nil _ _,nk,nk,⟨rfl,nk⟩⟩ ?_
  ·rw[Aj AA,Ah AA,R]
  ·rw[Ak];simp
  clear R bc;rintro m s b ⟨i,q,o,c,rfl,hi,h2,h6,h7,h8,bo,bn,bm,B,bi,be,bd,P,bh,Y,k⟩;have bf:=B.B;by_cases a8:i<Z p.A
  ·have C:=AK a8;obtain⟨e,r,hd⟩:=Kw Q C;generalize p.A[i]=t at hd C e;have z:AC ((p.A.take (i+1)).filter (λt=>Iu t a==n)=(p.A.take i).filter (λt=>Iu t a==n)++if (Iu t a==n)=true then [t]else []):=by
    rw[AC,AT,C,BN,Em]
   have D:t[a]?=some t[a]:=AK AA;have ba:=Qk D;have l:AC (Iu t a=t[a]):=by simp[AC,Iu,D]
   generalize t[a]=x at D ba l;clear C D;have f1:=Io e;have f2:=Ow e;have f3:=Jm e;have f4:=Qj e;have X:=Fo t;have f6:=eM e;by_cases L:x=n
   ·subst L;have K:AC (c++As t=Fg (o++[t])/\o++[t]=(p.A.take (i+1)).filter λt=>Iu t a==x):=by
     obtain⟨g,f⟩:=k.o;refine⟨by rw[g,Q9],?_⟩;rw[z.o,if_pos (by rw[l.o];simp),f]
    clear k z l;refine nh ?_;intro yb ya;refine Bo (by first|exact G6) ((B.new _).put B.B _) (Own.put (Own.new P _) _ _) nr (by rfl) (Y) (by rw[f1]) (X) nr AA AA ?_;intro O un ak V ac aa ad ab;simp only[Ac,Aa]at aa;have eob:∀p,p<b.B->un.C p=b.C p:=λp N=>by rw[ac,Aj AA,Ah AA]
    refine Z3 ?_;refine mr ?_;refine⟨Z p.A-(i+1),AA,i+1,O,o++[t],c++As t,?_⟩
    ((repeat' refine Zi ?_ ?_)<;>first|exact Xq|exact (V.put AA _)|exact (nn (Own.put ak _ _))|exact K|exact Xs)
   have W:(x==n)=false:=nn L;have K:AC (c=Fg o/\o=(p.A.take (i+1)).filter λt=>Iu t a==n):=by
    obtain⟨g,f⟩:=k.o;refine⟨g,?_⟩;rw[z.o,if_neg (by rw[l.o,W];simp),f,EJ]
   clear k z l L;refine mr ?_;refine⟨Z p.A-(i+1),AA,i+1,q,o,c,?_⟩
   ((repeat' refine Zi ?_ ?_)<;>first|exact Xq|exact (Own.put (Own.new P _) _ _)|exact K|exact Xs)
  have a9:i=Z p.A:=AA;subst a9;obtain⟨g,f⟩:=k.o;rw[AS]at f;refine mr ?_;exact⟨_,rfl,⟨_,rfl,by rw[M.o,<-f];exact⟨j,q,by first|rfl|rw[g]⟩⟩,B.put AA _⟩
def Gg (v n:Int)(a:Dx):Dx:=⟨a.p,Bt v n a.ts⟩
def Dl (v n:Int)(q:AZ):AZ:=⟨Gg v n q.h,q.A.map (Iv v n),q.B.map (Gg v n)⟩
def XT {p c}(h:Oa p c):∃x y z,c=[x,y,z]/\flat x=true/\flat y=true/\flat z=true:=by
 obtain⟨id,a,rfl⟩:=h;exact⟨_,_,_,rfl,rfl,rfl,rfl⟩
def Y0 (q c v n)(hc:EQ q c)(P:Qt q)(u):ni 190 [ag c,ic v,ic n] u λr a=>(∃D,r=ag D/\EQ (Dl v n q) D)/\AD u a:=by
 obtain⟨ih,U,C,V,S,rfl,hP,hN⟩:=hc;have hpl:=EL.length Ex hP;have b2:=EL.length Iz hN;have hl:=P.pl;have b3:=P.nl;have hh:=P.hd;have bi:Z q.h.ts<=1000:=AA;have bp:=λu=>Oz q.h.p ih q.h.ts v n bi u;refine Z9 53 [.cell 6 191] Tryz.func190 ?_;refine m0 ?_;intro yb ya;refine Xi (bp _) ?_;rintro _ _ ⟨⟨l,rfl⟩,a0⟩;(have a3:=a0.B;have ao:=a0.C;have bu:=(((AD.refl u).new _).new _).trans a0;simp only[Aa]at a3 ao);refine mr ?_;rename_i k;have o0:k.C u.B=[ic q.h.p,sl ih (Z q.h.ts) (Ad q.h.ts),sl U (Z q.A) V,sl C (Z q.B) S]:=by rw[ao _ AA,Ah AM,Ao]
 have o1:k.C (u.B+1)=[ic 0,nilS,nilS,nilS]:=by rw[ao _ AA,Be AM AM]
 clear ao a0
 refine Ae (λm s a=>∃(i K:Nat) (B:oh),m=Z q.A-i/\i<=Z q.A/\s 1=ic v/\s 2=ic n/\s 3=ptr u.B 0/\s 6=ptr (u.B+1) 0/\s 7=ptr k.B 0/\s 19=sl U (Z q.A) V/\s 20=ic (Z q.A)/\s 21=ic i/\AD u a/\k.B<a.B/\a.C u.B=[ic q.h.p,sl ih (Z q.h.ts) (Ad q.h.ts),sl U (Z q.A) V,sl C (Z q.B) S]/\a.C (u.B+1)=[ic 0,nilS,nilS,nilS]/\a.C k.B=[ic q.h.p,sl l (Z (Bt v n q.h.ts)) (Ad (Bt v n q.h.ts)),sl K i B,nilS]/\Own u a K i/\Z B=i*3/\AC (EL Oa ((q.A.take i).map (Iv v n)) B)) (Z q.A)
  ⟨0,1,[],AA,AA,by simp[upd,AL],by simp[upd,AL],AG,AG,AG,AG,AG,rfl,Xs,BJ,?_,?_,?_,Own.nil _ _,nk,by simp[AC,EL]⟩ ?_
 ·rw[Aj AA,Ah AA,o0]
 ·rw[Aj AA,Ah AA,o1]
 ·rw[Ak]
 clear o0 o1 bu;rintro m s a ⟨i,K,B,rfl,hi,h1,h2,h3,h6,h7,bg,bf,be,A,J,ay,I,F,N,a7,hX⟩;have bb:=A.B;by_cases L:i<Z q.A
 ·have H:=AK L;obtain⟨id,E,r,hd⟩:=F0 hP H;have az:=P.pa _ (AR L);have bd:=P.pt _ (AR L);have bc:=P.p3 _ (AR L);generalize q.A[i]=w at hd H az bd bc;have HG:AC ((q.A.take (i+1)).map (Iv v n)=(q.A.take i).map (Iv v n)++[Iv v n w]):=by
   rw[AC,AT,H];simp
  clear H;have a8:=λu=>sE w id E v n az bd bc u;have b1:AC _:=hX;have a6:AC _:=a7;refine mr ?_;have X:AD u ((a.new [ic 0,nilS,nilS]).put a.B [ic w.a.p,sl id (Z w.a.ts) (Ad w.a.ts),sl E (Z w.A) (Fg w.A)]):=(A.new _).put A.B _;have Y:∀p,p<a.B->((a.new [ic 0,nilS,nilS]).put a.B [ic w.a.p,sl id (Z w.a.ts) (Ad w.a.ts),sl E (Z w.A) (Fg w.A)]).C p=a.C p:=λp hp=>by rw[Aj AA,Ah AA]
  refine A2 (Q:=λe f b=>e= .normal/\f 1=ic v/\f 2=ic n/\f 3=ptr u.B 0/\f 6=ptr (u.B+1) 0/\f 7=ptr k.B 0/\f 19=sl U (Z q.A) V/\f 20=ic (Z q.A)/\f 21=ic i/\AD u b/\k.B<b.B/\b.C u.B=[ic q.h.p,sl ih (Z q.h.ts) (Ad q.h.ts),sl U (Z q.A) V,sl C (Z q.B) S]/\b.C (u.B+1)=[ic 0,nilS,nilS,nilS]/\∃d D,b.C k.B=[ic q.h.p,sl l (Z (Bt v n q.h.ts)) (Ad (Bt v n q.h.ts)),sl d (i+1) (B++D),nilS]/\Own u b d (i+1)/\Oa (Iv v n w) D) ?_ ?_
  ·refine Ar Ag (λ_=>True) [9] [0,1,2,3,4] 5 (nv 10 31) AH (λ_ _ _ h=>by cases h.1) ?_;intro yb ya;refine Z3 ?_;refine ya.o _ ?_;clear ya yb;refine Ai (i:=5) AH ?_;refine Am ?_;intro yb ya;refine Z3 ?_;refine AF.mono (a8 _) ?_;rintro _ u5 ⟨⟨D,rfl,W⟩,g⟩;refine Z3 ?_;refine ya.o _ _ ⟨Al g,?_⟩;clear ya yb;obtain⟨x,y,z,rfl,fx1,fx2,fx3⟩:=XT W;have av:=g.B;have T:=g.C;simp only[Ac,Aa]at av T;have ba:=X.trans g;have a9:=Own.keep (Own.put (Own.new N [ic 0,nilS,nilS]) a.B [ic w.a.p,sl id (Z w.a.ts) (Ad w.a.ts),sl E (Z w.A) (Fg w.A)]) g;refine Ai (i:=6) AH ?_;refine Am ?_;intro yb ya;refine Z3 ?_;refine ya.o _ _ ⟨Al (g.lay 1),?_⟩;clear ya yb;refine Ai (i:=7) AH ?_;refine Am ?_;intro yb ya;refine Z3 ?_;refine Bo (by first|exact F5|exact Ee) ba a9 nr (by rfl) a7 (by rfl) (by simp[fx1,fx2,fx3]) nr AA AA ?_;intro d un aj ak ad ab ac aa;refine Z3 ?_;refine ya.o _ _ ⟨λ_ o O _=>by rw[ac];exact g.ver o O,?_⟩;clear ya yb;refine Ai (i:=8) AH ?_;refine Am ?_;intro yb ya;refine Z3 ?_;refine ya.o _ _ ⟨λ_ o O _=>by rw[ac];exact g.ver o O,?_⟩;clear ya yb;have R:∀p,p<a.B->un.C p=a.C p:=λp hp=>by rw[ad,T _ AA,Y _ hp]
   have en1:un.C k.B=[ic q.h.p,sl l (Z (Bt v n q.h.ts)) (Ad (Bt v n q.h.ts)),sl K i B,nilS]:=by rw[R _ J,F]
   refine Ai (i:=9) AH ?_;refine Am ?_;intro yb ya;refine Z3 ?_;refine ya.o _ _ ⟨A3 rfl,?_⟩;clear ya yb;refine Aw AH ⟨rfl,?_⟩;simp only[upd,↓reduceIte,Nat.reduceEqDiff,h1,h2,h3,h6,h7,bg,bf,be,GM];refine⟨ak.put AA _,by simp only[Ac];omega,?_,?_,d,[x,y,z],?_,Own.put aj _ _,W⟩
   ·rw[Aj AA,R _ AA,ay]
   ·rw[Aj AA,R _ AA,I]
   rw[Ak]
  clear Y X hX N a7 ay I F J;rintro e f b ⟨rfl,g1,g2,g3,g6,g7,g19,g20,g21,A,J,ay,I,d,D,F,N,W⟩;have HX:AC (EL Oa ((q.A.take (i+1)).map (Iv v n)) (B++D)):=by rw[AC,HG.o];exact EL.append b1.o (EL.single W)
  have bo:=Ex _ _ W;refine mr ?_;refine⟨Z q.A-(i+1),AA,i+1,d,B++D,?_⟩
  ((repeat' refine Zi ?_ ?_)<;>first|exact Xq|exact HX|exact (by rw[AX,bo,a6.o];omega)|exact Xs)
 have bn:i=Z q.A:=AA;subst bn;rw[AS]at hX;generalize hM:Z q.A=M at*
 have HM:AC _:=hM;clear hM L hi;refine mr ?_
 refine Ae (λm s a=>∃(j i4:Nat) (G:oh),m=Z q.B-j/\j<=Z q.B/\s 1=ic v/\s 2=ic n/\s 6=ptr (u.B+1) 0/\s 7=ptr k.B 0/\s 36=sl C (Z q.B) S/\s 37=ic (Z q.B)/\s 38=ic j/\AD u a/\k.B<a.B/\a.C (u.B+1)=[ic 0,nilS,nilS,nilS]/\a.C k.B=[ic q.h.p,sl l (Z (Bt v n q.h.ts)) (Ad (Bt v n q.h.ts)),sl K M B,sl i4 j G]/\Own u a i4 j/\Z G=j*2/\AC (EL O9 ((q.B.take j).map (Gg v n)) G)) (Z q.B)
  ⟨0,1,[],AA,AA,AI,AI,AI,AI,AI,AI,AG,A,J,I,by rw[F],Own.nil _ _,nk,by simp[AC,EL]⟩ ?_
 clear h1 h2 h3 h6 h7 bg bf be A J ay I F N bb;rintro m s a ⟨j,i4,G,rfl,hj,h1,h2,h6,h7,bz,bw,bv,A,J,I,F,N,a5,hY⟩;have bb:=A.B;by_cases L:j<Z q.B
 ·have H:=AK L;obtain⟨id,r,hd⟩:=Ke hN H;have az:=P.na _ (AR L);generalize q.B[j]=w at hd H az;have HG:AC ((q.B.take (j+1)).map (Gg v n)=(q.B.take j).map (Gg v n)++[Gg v n w]):=by
   rw[AC,AT,H];simp
  clear H;have bh:Z w.ts<=1000:=AA;have a8:=λu=>Oz w.p id w.ts v n bh u;have b0:AC _:=hY;have a4:AC _:=a5;refine mr ?_;have X:AD u ((a.new [ic 0,nilS]).put a.B [ic w.p,sl id (Z w.ts) (Ad w.ts)]):=(A.new _).put A.B _;have Y:∀p,p<a.B->((a.new [ic 0,nilS]).put a.B [ic w.p,sl id (Z w.ts) (Ad w.ts)]).C p=a.C p:=λp hp=>by rw[Aj AA,Ah AA]
  refine A2 (Q:=λe f b=>e= .normal/\f 1=ic v/\f 2=ic n/\f 6=ptr (u.B+1) 0/\f 7=ptr k.B 0/\f 36=sl C (Z q.B) S/\f 37=ic (Z q.B)/\f 38=ic j/\AD u b/\k.B<b.B/\b.C (u.B+1)=[ic 0,nilS,nilS,nilS]/\∃d t,b.C k.B=[ic q.h.p,sl l (Z (Bt v n q.h.ts)) (Ad (Bt v n q.h.ts)),sl K M B,sl d (j+1) (G++[ic w.p,sl t (Z (Bt v n w.ts)) (Ad (Bt v n w.ts))])]/\Own u b d (j+1)) ?_ ?_
  ·refine Ar Ag (λ_=>True) [9] [0,1,2,3,4] 5 (nv 10 31) AH (λ_ _ _ h=>by cases h.1) ?_;intro yb ya;refine Z3 ?_;refine ya.o _ ?_;clear ya yb;refine Ai (i:=5) AH ?_;refine Am ?_;intro yb ya;refine Z3 ?_;refine AF.mono (a8 _) ?_;rintro _ u5 ⟨⟨t,rfl⟩,g⟩;refine Z3 ?_;refine ya.o _ _ ⟨Al g,?_⟩;clear ya yb;have av:=g.B;have T:=g.C;simp only[Ac,Aa]at av T;have ba:=X.trans g;have a9:=Own.keep (Own.put (Own.new N [ic 0,nilS]) a.B [ic w.p,sl id (Z w.ts) (Ad w.ts)]) g;refine Ai (i:=6) AH ?_;refine Am ?_;intro yb ya;refine Z3 ?_;refine ya.o _ _ ⟨Al (g.lay 1),?_⟩;clear ya yb;refine Ai (i:=7) AH ?_;refine Am ?_;intro yb ya;refine Z3 ?_;refine Bo (by first|exact F5|exact Ee) ba a9 nr (by rfl) a5 (by rfl) (by rfl) nr AA AA ?_;intro d un aj ak ad ab ac aa;refine Z3 ?_;refine ya.o _ _ ⟨λ_ o O _=>by rw[ac];exact g.ver o O,?_⟩;clear ya yb;refine Ai (i:=8) AH ?_;refine Am ?_;intro yb ya;refine Z3 ?_;refine ya.o _ _ ⟨λ_ o O _=>by rw[ac];exact g.ver o O,?_⟩;clear ya yb;have R:∀p,p<a.B->un.C p=a.C p:=λp hp=>by rw[ad,T _ AA,Y _ hp]
   have en1:un.C k.B=[ic q.h.p,sl l (Z (Bt v n q.h.ts)) (Ad (Bt v n q.h.ts)),sl K M B,sl i4 j G]:=by rw[R _ J,F]
   refine Ai (i:=9) AH ?_;refine Am ?_;intro yb ya;refine Z3 ?_;refine ya.o _ _ ⟨A3 rfl,?_⟩;clear ya yb;refine Aw AH ⟨rfl,?_⟩;simp only[upd,↓reduceIte,Nat.reduceEqDiff,h1,h2,h6,h7,bz,bw,bv,GM];refine⟨ak.put AA _,by simp only[Ac];omega,?_,d,t,?_,Own.put aj _ _⟩
   ·rw[Aj AA,R _ AA,I]
   rw[Ak]
  clear Y X hY N a5 I F J;rintro e f b ⟨rfl,g1,g2,g6,g7,g36,g37,g38,A,J,I,d,t,F,N⟩;have HX:AC (EL O9 ((q.B.take (j+1)).map (Gg v n)) (G++[ic w.p,sl t (Z (Bt v n w.ts)) (Ad (Bt v n w.ts))])):=by rw[AC,HG.o];exact EL.append b0.o (EL.single ⟨t,rfl⟩)
  refine mr ?_;refine⟨Z q.B-(j+1),AA,j+1,d,G++[ic w.p,sl t (Z (Bt v n w.ts)) (Ad (Bt v n w.ts))],?_⟩
  ((repeat' refine Zi ?_ ?_)<;>first|exact Xq|exact HX|exact (by rw[AX,a4.o];simp;omega)|exact Xs)
 have bm:j=Z q.B:=AA;subst bm;rw[AS]at hY;have br:Z (q.A.map (Iv v n))=M:=by rw[BV];exact HM.o
 have bq:Z (q.B.map (Gg v n))=Z q.B:=by rw[BV]
 refine mr ?_;exact⟨_,rfl,⟨_,rfl,l,K,i4,B,G,by simp only[Dl,Gg];rw[br,bq],hX.o,hY.o⟩,A.put AA _⟩
end Go.Proofs.YtmoeoppbmhfbpabGreatDoorJ
