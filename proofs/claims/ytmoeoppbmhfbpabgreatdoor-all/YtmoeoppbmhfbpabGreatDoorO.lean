import Derived.Test.YtmoeoppbmhfbpabGreatDoorMa
set_option maxHeartbeats 64000000
set_option maxRecDepth 100000
set_option linter.all false
open List
open List renaming length->Z
namespace Go.Proofs.YtmoeoppbmhfbpabGreatDoorJ
open Go.Abs Tryz
def Ho (c:UInt8):Bool:=decide (c=115\/c=97\/c=114\/c=117\/c=108)
def nQ (c t):ni 72 [sc (.int .u8 c.toNat)] t λu σ'=>u=my (Ho c)/\σ'=t:=by
 have a:∀(k:UInt8) (n:Int),n=(k.toNat:Int)->((c.toNat:Int)==n)=decide (c=k):=λk n e=>e▸ZN
 have l:=a 115 115 rfl;have e2:=a 97 97 rfl;have m:=a 114 114 rfl;have o:=a 117 117 rfl;have f:=a 108 108 rfl;have d:Ho c=(decide (c=115)||(decide (c=97)||(decide (c=114)||(decide (c=117)||decide (c=108))))):=by rw[Ho];simp only[Bool.decide_or]
 have b:V _:=d;clear a d;generalize decide (c=115)=q at l b;generalize decide (c=97)=i at e2 b;generalize decide (c=114)=p at m b;generalize decide (c=117)=g at o b;generalize decide (c=108)=j at f b;cases q<;>cases i<;>cases p<;>cases g<;>cases j
 all_goals
  refine wl func72 ?_
  repeat' first|refine Z1 ?_|refine Z8 λyb ya=>?_|refine Z4 ?_;clear ya yb|refine Z2 ?_ ?_<;>intro h s<;>try exact Xp|refine Z3 ?_|exact Zt|apply ya.o;clear ya yb
  exact⟨_,rfl,by rw[b.o];rfl⟩
def Dd (t:Tx):Bool:=decide (Z t<=8)&&t.all Ho
def Zw (t f):ni 38 [O t] f λz σ'=>z=my (Dd t)/\σ'=f:=by
 have e:=λc f=>nQ c f;by_cases u:8<Z t;have q:decide ((8:Int)<(Z t:Int)):=gp
 have g:V (Dd t=false):=by rw[V,Dd,KF L];rfl
 apply wl func38;refine X ?_;exact⟨_,rfl,by rw[g.o]⟩;have q:decide ((8:Int)<(Z t:Int))=false:=gp
 apply wl func38;refine X ?_
 refine Ae (λm s σ'=>∃i:Nat,m=Z t-i/\i<=Z t/\s 0=O t/\s 3=Y i/\σ'=f/\V (∀c∈t.take i,Ho c)) (Z t)
  ⟨0,L,L,rfl,rfl,rfl,by simp[V]⟩ ?_
 rintro m s σ' ⟨i,rfl,x,v,y,p,j⟩;by_cases o:i<Z t;have k:=AK o;generalize t[i]=c at k;have e:=e c;cases a:Ho c
 ·rw[a]at e;have g:V (Dd t=false):=by
   have:t.all Ho=false:=IQ.2 ⟨c,AY k,gp⟩;rw[V,Dd,this];simp
  refine m0 ?_;intro yb ya;apply Xi (e _);rintro _ _ ⟨rfl,rfl⟩;refine X ?_;exact⟨_,rfl,by rw[g.o]⟩
 rw[a]at e;have n:V (∀c∈t.take (i+1),Ho c):=by
  rw[V,AT,k,BN];intro d b;rcases AW.1 b with b|b;exact j.o d b;simp at b;subst b;exact a
 refine m0 ?_;intro yb ya;apply Xi (e _);rintro _ _ ⟨rfl,rfl⟩;refine X ?_;refine⟨Z t-(i+1),L,i+1,?_⟩;exact m9 n
 have l:i=Z t:=L;have g:V (Dd t):=by simp_all[AS,Dd,LJ]
 refine X ?_;exact⟨_,rfl,by rw[g.o]⟩
inductive FH (T:n0->Option n0->Prop)(b:Int)(l:n0)(m:Int):n0->Int->Prop where
 |refl:FH T b l m l m
 |snoc {l1 l2:n0} {m1:Int}:FH T b l m l1 m1->m1<b->T l1 (some l2)->FH T b l m l2 (m1+1)
def OY (T:n0->Option n0->Prop)(b:Int)(l:n0)(m:Int)(a:n0)(c:Int):Prop:=FH T b l m a c/\(b<=c\/T a none)
inductive GPss (T:UInt8->n0->Option n0->Prop)(b:Int)(l:n0)(m:Int):Tx->n0->Int->Prop where
 |nil:GPss T b l m [] l m
 |snoc {ps:Tx} {c:UInt8} {l1 l2:n0} {m1 m2:Int}:GPss T b l m ps l1 m1->OY (T c) b l1 m1 l2 m2->GPss T b l m (ps++[c]) l2 m2
structure aC (T:n0->Option n0->Prop)(N:ol)(ar:Tx->Nat)(c:UInt8):Prop where
 call:∀(l:n0) (cs:oh) (idn idi:Nat),BB N ar l->r (PI N) l cs->∀σ:St,ni 73 [Cq N idn l idi cs,sc (.int .u8 c.toNat)] σ fun rqx σ'=>(∃x b,rqx=tp [x,my b]/\DW T N l idn x b)/\W σ σ'
 rt:∀l l',T l (some l')->BB N ar l->BB N ar l'
def Uw (T N ar l cs idn D t b)(bh:0<=b)(bg:b<=9223372036854775807)(ba:Z t<=8)(ht:∀c∈t,aC (T c) N ar c)(hR:BB N ar l)(hE:r (PI N) l cs)(n):
  ni 39 [Cq N idn l D cs,O t,Y b] n λam σ'=>(∃l' id c' m,am=tp [Cq N idn l' id c',Y m]/\GPss T b l 0 t l' m/\BB N ar l'/\r (PI N) l' c')/\W n σ':=by
 have U:=λl cs D c (hc:aC (T c) N ar c) hR hE n=>hc.call l cs idn D hR hE n;refine wl func39 ?_;refine X ?_
 refine wn [1,2,3,6] 9 (Z t) (λi s σ'=>∃(m:Int) (v:n0) (ad:Nat) (M:oh),0<=m/\m<=b/\s 8=Y m/\W n σ'/\n.B+1<σ'.B/\σ'.C n.B=[lw idn N,sl ad (Z v) M]/\σ'.C (n.B+1)=[H,H]/\V (GPss T b l 0 (t.take i) v m/\BB N ar v/\r (PI N) v M)) ⟨0,l,D,cs,L,L,AG,Xs,AM,by rw[Ah AM,Ao],by first|exact Ao|simp[Ao],⟨GPss.nil,hR,hE⟩⟩ ?_
 rintro i s σ' _ ⟨h1,h2,h3,h6⟩ h9 ⟨m,v,ad,M,b2,b3,h8,F,ao,ab,a8,q⟩;have ax:=F.B;by_cases az:i<Z t;obtain⟨c,ah⟩:=gq az;have av:=ht c (AY ah);have a2:V (∀f d,OY (T c) b v m f d->GPss T b l 0 (t.take (i+1)) f d):=λf d h=>by rw[AT,ah,BN];exact GPss.snoc q.o.1 h
 have a3:V (BB N ar v):=q.o.2.1;have a4:V (r (PI N) v M):=q.o.2.2;clear q;refine X ?_
 refine Ae (λaj s a=>∃(d:Int) (f:n0) (u:Nat) (C:oh),aj=(b-d).toNat/\m<=d/\d<=b/\s 1=O t/\s 2=Y b/\s 3=ptr n.B 0/\s 6=ptr (n.B+1) 0/\s 8=Y d/\s 9=Y i/\W n a/\n.B+1<a.B/\a.C n.B=[lw idn N,sl u (Z f) C]/\a.C (n.B+1)=[H,H]/\V (FH (T c) b v m f d/\BB N ar f/\r (PI N) f C)) (b-m).toNat
  ⟨m,v,ad,M,rfl,L,L,AI,AI,AI,AI,AI,AI,F,ao,ab,a8,⟨FH.refl,a3.o,a4.o⟩⟩ ?_
 rintro aj s a ⟨d,f,u,C,rfl,bd,bf,h1,h2,h3,h6,h8,h9,F,ao,ab,a8,q⟩;have ax:=F.B;by_cases au:d<b;have U:=U f C u c av q.o.2.1 q.o.2.2;have ap:decide (d<b):=nn au;refine X ?_;apply A2 (Q:=λe y g=>e= .normal/\∃(x I k:Nat) (E:oh) (K z:Nat) (G:oh) (b':Bool),y 10=ptr x 0/\a.B<=x/\x<g.B/\g.C x=[sl I k E,sl K z G]/\y 11=my b'/\DW (T c) N f idn (ag [sl I k E,sl K z G]) b'/\y 1=s 1/\y 2=s 2/\y 3=s 3/\y 6=s 6/\y 8=s 8/\y 9=s 9/\W a g);have bm:(∀p:Nat,some n.B=some p->p<a.B)=True:=eq_true λp e=>by cases e;omega
 have bi:(∀p:Nat,False->p<a.B)=True:=eq_true λp e=>e.elim;refine Ar Ag (λp=>p<a.B) [] [0,1,2,3] 7 (nv 11 15) AH (λ_ _ _ h=>by cases h.1) ?_;intro yb ya;refine Z3 ?_;refine ya.o _ ?_;clear ya yb;refine D8 (rs:=[4,8]) AH nk ?_;intro b4 hj;simp only[BD,EK,DZ]at hj;obtain rfl|rfl:=hj;refine Am ?_;intro yb ya;refine Z3 ?_;refine AF.mono (U _) ?_;rintro _ a1 ⟨⟨x5,b5,rfl,R⟩,B⟩;obtain⟨I,k,E,K,z,G,rfl⟩:=R.1;have af:=B.B;refine ux ?_;refine Hv [5,6,7] 3 6 (nv 11 255) rfl AH AH (λ_ _ _ h=>by cases h.1) (B).B (λo j _=>(B).ver o j) ?_;intro yb ya;refine Z3 ?_;refine ya.o _ ?_;clear ya yb;refine rl 8 ?_;refine Ai (i:=9) AH ?_;refine Am ?_;intro yb ya;refine Z3 ?_;refine ya.o _ _ ⟨λ_ o j _=>by simp[St.put,St.new];omega,?_⟩;clear ya yb;refine Df [10] AH AH (λ_ _ _ h=>by cases h.1) BJ (λo j _=>by simp[St.put,St.new];omega) ?_;intro yb ya;refine Z3 ?_;refine ya.o _ _ ⟨rfl,a1.B,I,k,E,K,z,G,b5,AG,L,BJ,by rw[Ak],AG,R,AG,AG,AG,AG,AG,AG,(B.new _).put L _⟩;refine ta ?_;refine tn 4 U ?_;rintro yb ya _ a1 ⟨⟨x5,b5,rfl,R⟩,B⟩;obtain⟨I,k,E,K,z,G,rfl⟩:=R.1;have af:=B.B;have ae:=B.C;simp only[Aa]at af ae;have aa:W a a1:=((W.refl _).new _).trans B;have a5:a1.C a.B=[H,H]:=by rw[ae _ L,Ao]
 refine ux ?_;refine Hv [5,6,7] 2 5 (nv 11 511) rfl AH AH (λ_ _ _ h=>by cases h.1) (aa).B (λo j _=>(aa).ver o j) ?_;intro yb ya;refine Z3 ?_;refine ya.o _ ?_;clear ya yb;refine Ai (i:=9) AH ?_;apply Am;intro yb ya;refine Z3 ?_;refine ya.o _ _ ⟨λ_ o j hF=>by simp[St.put];omega,?_⟩;clear ya yb;refine Df [10] AH AH (λ_ _ _ h=>by cases h.1) (by simp only[Ac];omega) (λo j hF=>by simp[St.put];omega) ?_;intro yb ya;refine Z3 ?_;refine ya.o _ _ ⟨rfl,a.B,I,k,E,K,z,G,b5,AG,L,by simp only[Ac];omega,by rw[Ak],AG,R,AG,AG,AG,AG,AG,AG,aa.put L _⟩;rintro e y g ⟨rfl,x,I,k,E,K,z,G,b',b0,bc,bb,a7,b1,a9,g1,g2,g3,g6,g8,g9,a6⟩;rw[h1]at g1;rw[h2]at g2;rw[h3]at g3;rw[h6]at g6;rw[h8]at g8;rw[h9]at g9;have aa:=F.trans a6;have b6:g.C n.B=[lw idn N,sl u (Z f) C]:=by rw[a6.C _ L,ab]
 have b7:g.C (n.B+1)=[H,H]:=by rw[a6.C _ L,a8]
 obtain⟨-,o,S,an,aw⟩:=a9;clear h1 h2 h3 h6 h8 h9 F a6 ab a8 U;cases o with
 |none=>
  simp only[Option.isSome_none]at an;subst an;have ac:=a2.o f d ⟨q.o.1,.inr S⟩;have P:V (GPss T b l 0 (t.take (i+1)) f d/\BB N ar f/\r (PI N) f C):=⟨ac,q.o.2⟩;clear ac a2 q S aw;refine X ?_;refine⟨d,f,u,C,?_⟩;exact m9 P
 |some A=>
  simp only[Option.isSome_some]at an;subst an;let⟨ak,c3,ay,a0⟩:=aw A rfl;simp only[DataW.agg.injEq,cons.injEq,and_true]at ay;let⟨e1,e2⟩:=ay;rw[e1,e2]at a7;have P:V (FH (T c) b v m A (d+1)/\BB N ar A/\r (PI N) A c3):=⟨FH.snoc q.o.1 au S,av.rt _ _ S q.o.2.1,a0⟩;clear a2 q S aw a0 e1 e2;refine X ?_;refine⟨(b-(d+1)).toNat,L,d+1,A,ak,c3,?_⟩;exact m9 P
 have be:d=b:=L;have ac:=a2.o f d ⟨q.o.1,.inl L⟩;have P:V (GPss T b l 0 (t.take (i+1)) f d/\BB N ar f/\r (PI N) f C):=⟨ac,q.o.2⟩;have ap:decide (d<b)=false:=nn au;refine X ?_;refine⟨d,f,u,C,?_⟩;exact m9 P;obtain rfl:i=Z t:=L;rw[AS]at q;refine X ?_;exact⟨_,rfl,⟨v,ad,M,m,rfl,q.o⟩,Xs⟩
abbrev qC (p:Tx×Int×Int):AV:=tp [O p.1,Y p.2.1,Y p.2.2]
def Mi (T:ol->UInt8->n0->Option n0->Prop)(t c:Tx)(b:Int)(f:Tx×Int×Int):Prop:=
 if (Av t).1≠0 then f=([],0,(Av t).1)else
 if Dd c=false then f=([],0,11)else
 if b<0 then f=([],0,6)else
 ∃N l e d a m,CW t N l e/\aG l d/\BB N d a/\GPss (T N) b l 0 c a m/\f=(Bj a,m,0)
def Yw (T t v b)(hb:b<=9223372036854775807)(I:Dd v->∀N ar,∀c∈v,aC (T N c) N ar c)(f):ni 15 [O t,O v,Y b] f λE σ'=>∃p,E=qC p/\Mi T t v b p/\W f σ':=by
 have A:=λf=>yE t f;have u:=λf=>Zw v f;by_cases i:(Av t).1=0;have B:V ((Av t).1=0):=i;have a5:((Av t).1 !=0)=false:=nn i;have ad:Z t<=600:=by
  by_cases hl:600<Z t;rw[Av]at i;rw[if_pos hl]at i;simp at i;omega
 have q:V (∀E,(if Dd v=false then E=([],0,11)else if b<0 then E=([],0,6)else∃N l F ar d m,CW t N l F/\aG l ar/\BB N ar d/\GPss (T N) b l 0 v d m/\E=(Bj d,m,0))->Mi T t v b E):=λE h=>by rw[Mi];rw[if_neg (by simp[B.o])];exact h
 clear i;cases a:Dd v
 ·rw[a]at u;have n:V (Mi T t v b ([],0,11)):=q.o _ (by rw[if_pos a]);clear q a;refine Z9 38 [.tmp 6,.tmp 7,.tmp 8] func15 ?_
  (repeat (refine m0 ?_;intro yb ya;(first|(refine Xi (A _) ?_;rintro _ _ ⟨e,D,C,g,Q,o,rfl,j,k⟩;(have G:=j.B;clear k))|(refine Xi (u _) ?_;rintro _ _ ⟨rfl,rfl⟩))));refine X ?_
  exact⟨_,rfl,_,rfl,n.o,Xs⟩
 rw[a]at u;have aa:Z v<=8:=by
  unfold Dd at a;simp only[BM,CV]at a;exact a.1
 by_cases y:b<0;have a0:decide (b<0):=nn y;have n:V (Mi T t v b ([],0,6)):=q.o _ (by rw[if_neg (by simp[a]),if_pos y]);clear q a;refine Z9 38 [.tmp 6,.tmp 7,.tmp 8] func15 ?_
 (repeat (refine m0 ?_;intro yb ya;(first|(refine Xi (A _) ?_;rintro _ _ ⟨e,D,C,g,Q,o,rfl,j,k⟩;(have G:=j.B;clear k))|(refine Xi (u _) ?_;rintro _ _ ⟨rfl,rfl⟩))));refine X ?_
 exact⟨_,rfl,_,rfl,n.o,Xs⟩;have a0:decide (b<0)=false:=nn y;have n:V (∀E,(∃N l F ar d m,CW t N l F/\aG l ar/\BB N ar d/\GPss (T N) b l 0 v d m/\E=(Bj d,m,0))->Mi T t v b E):=λE h=>q.o _ (by rw[if_neg (by simp[a]),if_neg y];exact h);have a9:V (∃ar,aG (Bl t) ar):=SV B.o;have ab:V _:=I a;apply Z9 38 [.tmp 6,.tmp 7,.tmp 8] func15
 (repeat (refine m0 ?_;intro yb ya;(first|(apply Xi (A _);rintro _ _ ⟨e,D,C,g,Q,o,rfl,j,k⟩;(have G:=j.B;obtain⟨N,l,a,P,rfl,rfl,rfl,ax,K⟩:=k B.o;have x:CW t N l o:=⟨B.o,ad,a,P,K⟩;have s:∃ar,aG l ar:=(by rw[<-x.items];exact a9.o);obtain⟨ar,s⟩:=s;have a4:=λf=>Uw (T N) N ar l o e g v b L hb aa (ab.o N ar) (x.rt s) P.el f;have a6:V _:=x;have a8:V _:=s;clear a k ax K x s))|(refine Xi (u _) ?_;rintro _ _ ⟨rfl,rfl⟩)|(refine Xi (a4 _) ?_;rintro _ _ ⟨⟨d,a1,a7,S,rfl,U,z,a3⟩,M⟩;(have ak:=M.B;simp only[Ac,Aa]at ak;have ac:=λf=>sO N d a7 e a1 ((z.gl.bkm a3).bk z.gl.len) z.wi f;have a2:V (Mi T t v b (Bj d,S,0)):=n.o _ ⟨N,l,o,ar,d,S,a6.o,a8.o,z,U,rfl⟩;clear U))|(refine Xi (ac _) ?_;rintro _ _ ⟨rfl,R⟩;(have aw:=R.B)))));refine X ?_
 exact⟨_,rfl,_,rfl,a2.o,(((((j.new _).put L _).trans M).new _).put L _).trans R⟩
 have a5:((Av t).1 !=0):=nn i;have n:V (Mi T t v b ([],0,(Av t).1)):=by rw[Mi];rw[if_pos i];rfl
 clear i;refine wl func15 ?_;refine mt A ?_;rintro yb ya _ _ ⟨e,D,C,g,Q,o,rfl,j,k⟩;have G:=j.B;clear k;refine X ?_;exact⟨_,rfl,_,rfl,n.o,Xs⟩
def KQ (N:ol)(l:n0)(o:Option n0):Prop:=
 (o=none/\xW N l (Z l))\/∃i k y,o=some (rpl i [C8 y k] l)/\l[i]?=some y/\y.o=false/\k<Z y.A/\eC N l i k/\xW N l i/\∀a,a<k->eC N l i a=false
def KS (N:ol)(l:n0)(o:Option n0):Prop:=
 (o=none/\xV N l (Z l))\/∃i y,o=some (rpl i [] l)/\l[i]?=some y/\y.o=false/\C5 N l (rpl i [] l)/\gO N l i y true/\xV N l i
def NU.stp {N l idn x b}(h:NU N l idn x b)(a:pB x):DW (KQ N) N l idn x b:=by refine⟨a,?_⟩;obtain⟨rfl,h⟩|⟨rfl,i,k,y,d,f,g,j,m,n,id,o,p,q⟩:=h;exact⟨none,.inl ⟨rfl,h⟩,rfl,λc e=>gp⟩;exact⟨_,.inr ⟨i,k,y,rfl,d,f,g,j,m,n⟩,rfl,λc e=>gp⟩
def OL.stp {N l idn x b}(h:OL N l idn x b)(a:pB x):DW (KS N) N l idn x b:=by refine⟨a,?_⟩;obtain⟨rfl,h⟩|⟨rfl,i,y,d,f,g,j,k,id,m,n,o⟩:=h;exact⟨none,.inl ⟨rfl,h⟩,rfl,λc e=>gp⟩;exact⟨_,.inr ⟨i,y,rfl,d,f,g,j,k⟩,rfl,λc e=>gp⟩
def KQ.rt {N ar l b}(h:KQ N l (some b))(c:BB N ar l):BB N ar b:=by obtain⟨h,-⟩|⟨i,k,y,h,f,g,j,e,-⟩:=h;cases h;cases h;apply c.wo f g;rw[eC]at e;rw[f]at e;simp only[BM]at e;let⟨s,a⟩:=NF.1 e.1;rw[IX]at a;obtain⟨d,-,a⟩:=Option.bind_eq_some_iff.1 a;rw[Mz]at a;split at a;assumption;cases a
def KS.rt {N ar l a}(h:KS N l (some a))(b:BB N ar l):BB N ar a:=by obtain⟨h,-⟩|⟨i,y,h,-⟩:=h;cases h;cases h;exact b.less i
def zD (N ar l cs idn t)(k:BB N ar l)(o:r (PI N) l cs)(a):
  ni 73 [Cq N idn l t cs,sc (.int .u8 (97:UInt8).toNat)] a λA σ'=>(∃x b,A=tp [x,my b]/\DW (KQ N) N l idn x b)/\W a σ':=by have j:=λa=>Q0 N l cs idn t k.gl o a;apply wl func73;refine mt j ?_;rintro yb ya _ _ ⟨⟨i,p,rfl,c,e⟩,d⟩;have m:V _:=c;have f:V (pB i):=e;obtain⟨s,v,u,z,y,q,rfl⟩:=e;clear c;have g:=d.B;have n:=d.C;(try simp only[Aa]at g n);refine X ?_;exact⟨_,rfl,⟨_,p,rfl,NU.stp m.o f.o⟩,Xs⟩
def zB (N ar l cs idn t)(e:BB N ar l)(o:r (PI N) l cs)(a):
  ni 73 [Cq N idn l t cs,sc (.int .u8 (114:UInt8).toNat)] a λz σ'=>(∃x b,z=tp [x,my b]/\DW (KS N) N l idn x b)/\W a σ':=by have k:=λa=>Pb N l cs idn t _ e.gl e.bki o a;apply wl func73;refine mt k ?_;rintro yb ya _ _ ⟨⟨j,p,rfl,c,f⟩,d⟩;have m:V _:=c;have g:V (pB j):=f;obtain⟨s,v,u,A,y,q,rfl⟩:=f;clear c;have i:=d.B;have n:=d.C;(try simp only[Aa]at i n);refine X ?_;exact⟨_,rfl,⟨_,p,rfl,OL.stp m.o g.o⟩,Xs⟩
def FQ (N:ol)(c:UInt8)(l:n0)(o:Option n0):Prop:=
 (c=115/\KT N l o)\/(c=97/\KQ N l o)\/(c=114/\KS N l o)\/(c=117/\KU N l o)\/(c=108/\KR N l o)
def DW.mono {T a N l idn x b}(h:DW T N l idn x b)(c:∀o,T l o->a l o):DW a N l idn x b:=by let⟨f,o,d,e⟩:=h;exact⟨f,o,c o d,e⟩
def mh (N ar):aC (FQ N 115) N ar 115:=
 ⟨λl f d c a j e=>(zA N ar l f d c a j e).mono λp m ⟨⟨x,b,k,g⟩,i⟩=>⟨⟨x,b,k,g.mono λo h=>.inl ⟨rfl,h⟩⟩,i⟩,λl n h a=>by
  obtain⟨-,h⟩|⟨h,-⟩|⟨h,-⟩|⟨h,-⟩|⟨h,-⟩:=h
  ·exact h.rt a
  all_goals cases h⟩
def me (N ar):aC (FQ N 97) N ar 97:=
 ⟨λl f d c a j e=>(zD N ar l f d c a j e).mono λp m ⟨⟨x,b,k,g⟩,i⟩=>⟨⟨x,b,k,g.mono λo h=>.inr (.inl ⟨rfl,h⟩)⟩,i⟩,λl n h a=>by
  obtain⟨h,-⟩|⟨-,h⟩|⟨h,-⟩|⟨h,-⟩|⟨h,-⟩:=h
  ·cases h
  ·exact h.rt a
  all_goals cases h⟩
def mg (N ar):aC (FQ N 114) N ar 114:=
 ⟨λl f d c a j e=>(zB N ar l f d c a j e).mono λp m ⟨⟨x,b,k,g⟩,i⟩=>⟨⟨x,b,k,g.mono λo h=>.inr (.inr (.inl ⟨rfl,h⟩))⟩,i⟩,λl n h a=>by
  obtain⟨h,-⟩|⟨h,-⟩|⟨-,h⟩|⟨h,-⟩|⟨h,-⟩:=h
  ·cases h
  ·cases h
  ·exact h.rt a
  all_goals cases h⟩
def mi (N ar):aC (FQ N 117) N ar 117:=
 ⟨λl f d c a j e=>(yZ N ar l f d c a j e).mono λp m ⟨⟨x,b,k,g⟩,i⟩=>⟨⟨x,b,k,g.mono λo h=>.inr (.inr (.inr (.inl ⟨rfl,h⟩)))⟩,i⟩,λl n h a=>by
  obtain⟨h,-⟩|⟨h,-⟩|⟨h,-⟩|⟨-,h⟩|⟨h,-⟩:=h;cases h;cases h;cases h;exact h.rt a
  cases h⟩
def mf (N ar):aC (FQ N 108) N ar 108:=
 ⟨λl f d c a j e=>(zC N ar l f d c a j e).mono λp m ⟨⟨x,b,k,g⟩,i⟩=>⟨⟨x,b,k,g.mono λo h=>.inr (.inr (.inr (.inr ⟨rfl,h⟩)))⟩,i⟩,λl n h a=>by
  obtain⟨h,-⟩|⟨h,-⟩|⟨h,-⟩|⟨h,-⟩|⟨-,h⟩:=h;cases h;cases h;cases h;cases h
  exact h.rt a⟩
def mc {a}(h:Dd a)(N ar):∀c∈a,aC (FQ N c) N ar c:=λc d=>by rw[Dd]at h;simp only[BM,CX]at h;have b:=h.2 c d;rw[Ho]at b;obtain rfl|rfl|rfl|rfl|rfl:=of_decide_eq_true b;exact mh N ar;exact me N ar;exact mg N ar;exact mi N ar;exact mf N ar
def xR (t d b)(a:b<=9223372036854775807)(e):ni 15 [O t,O d,Y b] e λf σ'=>∃p,f=qC p/\Mi FQ t d b p/\W e σ':=
 Yw FQ t d b a (λh N c=>mc h N c) e
def QF {N l x k q}:∀z∈uL N l x k q,z.o=false:=λz a=>by obtain⟨b,-,rfl⟩:=AN.1 a;rfl
theorem VV {l ar}(h:aG l ar)(i):Gn l i=false:=by
 rw[Gn];cases g:l[i]? with
 |none=>rfl
 |some x=>
  simp only;rw[EV];intro j _;rw[Mh];cases n:(Af x)[j]? with
  |none=>simp
  |some a=>
   simp only[JE];rw[EV];intro b c;have d:=AY g;have m:=h x d a (AY n);have o:Z b.A=ar b.B:=by obtain c|c:=AW.1 c;let⟨y,k,f⟩:=EX.1 c;exact h y (JI k) b f;exact h x d b (JI c)
   rw[clash];simp only[BM,DO,CV,not_and,ne_eq,Decidable.not_not];intro e;rw[m,o,e]
def Vl {l c ar}(E:aG c ar)(C:∀x∈c,Db x)(f:(Co l).1=0)(F:∀x∈l,x.o->x.A=[])(v:∀x∈c,x.o->x.A=[])
  (t:∀x∈c,∃y∈l,y.o=x.o/\y.h.B=x.h.B/\∀a∈x.A,∃b∈y.A,b.B=a.B/\b.nt=a.nt):Co c=(0,0):=by
 have A:∀i,i<Z l->Hd l i=false:=by
  rw[Co]at f;split at f;cases f;split at f;cases f;split at f;cases f;rename_i h;exact Jo h
 have G:∀p q,Gs c p q->Gs l p q:=λp q ⟨x,g,D,a,k,B⟩=>by obtain⟨y,o,-,e,d⟩:=t x g;obtain⟨b,d,s,-⟩:=d a k;exact⟨y,o,e.trans D,b,d,s.trans B⟩
 have z:∀i,i<Z c->Hd c i=false:=λi n=>by
  rw[Hd];rw[AK n];simp only;have g:=AR n;generalize c[i]=x at g;rw[EV];intro a k K;let⟨y,o,s,e2,d⟩:=t x g;let⟨b,d,M,I⟩:=d a k;let⟨j,u⟩:=CL o;have:=A j (BA.1 u).1;rw[Hd]at this;rw[u]at this;simp only at this;apply EV.1 this b d;rw[zH]at K⊢;simp only[BM,LF,DO]at K⊢;rw[I,M,e2];refine⟨K.1,?_⟩;have m:x.o=false:=gp
  obtain h|h:=K.2;exact .inl h;refine .inr ?_;rw[Ks v ⟨x,g,m,rfl⟩]at h;rw[Ks F ⟨y,o,s.trans m,e2⟩];exact h.map' G
 rw[Co]
 rw[if_neg (by grind[Ci,VV]),if_neg (by grind[Ci,Dp]),if_neg (by grind[Ci])]
def BB.xr {N ar l}(h:BB N ar l){x}(b:x∈l)(c:x.o=false):XR x:=
 ⟨λa d t e=>by
  have:=((h.gl.msr x b).at_ a d).2.2 t e
  exact⟨this.1,this.2.1,this.2.2.1⟩,c,ny (jk (h.wit x b))⟩
def U3 {x}(a:x.o=false):C8 x (Z x.A)=x:=by rw[C8];rw[LG (AU _),<-a]
def VI {N ar l}(h:BB N ar l){x}(c:x∈l)(g:Db x):Db (ren x):=by
 cases b:x.o
 ·have f:=h.xr c b;have d:=f.safe (Z x.A);have e:C8 (ren x) (Z x.A)=ren x:=by
   have:=U3 (x:=ren x) b;simpa[ren]using this
  rw[e,U3 b,g]at d;rw[<-J8 (x:=ren x) λa j w k=>Me (f.inO.ut a j w k)];exact d
 have i:=(h.gl.msr x c).o b;unfold Db;simp[Af,ren,b,i]
def QU {x}(h:iS x)(k:x.o=false->XR x):iS (ren x):=by
 refine⟨h.nm,λd=>?_,λd=>?_⟩;let⟨j,g,i⟩:=h.o d;exact⟨j,by grind[ren,Br],by grind[ren]⟩;let⟨j,g,i,p⟩:=h.rule d;have k:=k d;have c:∀a∈Af x,IT a->IT (Br (Au x) a):=λa f e=>by
  refine⟨e.nm,by simpa[Br]using e.ne,by simpa[Br]using e.few,λt m=>?_⟩;simp only[Br,AN]at m;obtain⟨u,l,rfl⟩:=m;rw[C6];split;rename_i o;have:=k.rng f l o;exact .inl ⟨_,rfl,E4 this.1 this.2⟩;exact e.tm u l
 refine⟨c _ (Ap (.inl ⟨d,rfl⟩)) j,g,by grind[ren],λa f=>?_⟩;simp only[ren,AN]at f;obtain⟨b,n,rfl⟩:=f;exact c b (Ap (.inr n)) (p b n)
def ju {N ar l}(d:BB N ar l)(q:(Co l).1=0)(n:Jk l)(t:∀x∈l,iS x):Av (Bj l)=(0,0)/\Bl (Bj l)=l.map ren:=by
 have p:=Ns d.wit d.wi;refine⟨?_,p⟩;have o:Z (Bj l)<=600:=by
  rw[Oc d.wit];have s:=bM l d.wit;rw[Jk]at n;grind
 have j:Eo (Bj l)= -1:=by rw[Hb,Oc d.wit,Te 16 (l.map ren) (λy e=>?_) (by rw[BV];exact d.gl.len)];obtain⟨x,c,rfl⟩:=AN.1 e;exact QU (t x c) λf=>d.xr c f
 rw[Av];rw[if_neg L,if_neg (gp),p];refine Vl (l:=l) (ar:=ar) (λy e a i=>?_) (λy e=>?_) q (λx c=>(d.gl.msr x c).o) (λy e f=>?_) (λy e=>?_);obtain⟨x,c,rfl⟩:=AN.1 e;cases f:x.o with
 |true=>
  have g:=(d.gl.msr x c).o f;simp[Af,ren,f,g]at i
 |false=>
  have m:=d.ru x c f;have k:a=Br (Au x) x.h\/a∈x.A.map (Br (Au x)):=by grind[Af,ren]
  obtain rfl|k:=k;show Z (x.h.A.map _)=_;rw[BV];exact m.h.len;obtain⟨b,g,rfl⟩:=AN.1 k;show Z (b.A.map _)=_;rw[BV];exact (m.A b g).len
 obtain⟨x,c,rfl⟩:=AN.1 e;exact VI d c (Pw q c);obtain⟨x,c,rfl⟩:=AN.1 e;have:=(d.gl.msr x c).o f;simp[ren,this];obtain⟨x,c,rfl⟩:=AN.1 e;refine⟨x,c,rfl,rfl,λa i=>?_⟩;simp only[ren,AN]at i;obtain⟨b,g,rfl⟩:=i;exact⟨b,g,rfl,rfl⟩
def RY {d}(h:d<=9):A6 ((UInt8.ofNat (48+d)).toNat:Int):=by have:d=0\/d=1\/d=2\/d=3\/d=4\/d=5\/d=6\/d=7\/d=8\/d=9:=L;rcases this with rfl|rfl|rfl|rfl|rfl|rfl|rfl|rfl|rfl|rfl<;>decide
def rH {d}(a:1<=d)(h:d<=9):Gv ((UInt8.ofNat (48+d)).toNat:Int):=by have:d=1\/d=2\/d=3\/d=4\/d=5\/d=6\/d=7\/d=8\/d=9:=L;rcases this with rfl|rfl|rfl|rfl|rfl|rfl|rfl|rfl|rfl<;>decide
def ge {n}(h:n<=999):JN (Lib.decDigits n):=by by_cases b:n<10;rw[Lib.decDigits_one b];by_cases d:n=0;subst d;exact .inr (.inl rfl);exact .inr (.inr ⟨_,[],rfl,rH L L,nk,nk⟩);by_cases e:n<100;rw[Lib.decDigits_two b e];exact .inr (.inr ⟨_,_,rfl,rH L L,λc a=>by simp only[BD,EK,DZ]at a;subst a;exact RY L,nk⟩);rw[Lib.decDigits,dif_neg b,Lib.decDigits_two L L];refine .inr (.inr ⟨UInt8.ofNat (48+n / 10 / 10),[UInt8.ofNat (48+n / 10 % 10),UInt8.ofNat (48+n % 10)],rfl,rH L L,λc a=>?_,nk⟩);simp only[BD,EK,DZ]at a;rcases a with rfl|rfl<;>exact RY L
def j8 {t}(h:UT t):JN t:=by
 cases b:Ab t
 ·rcases h.1 with a|⟨-,a,h2,h3⟩;rw[b]at a;cases a;obtain⟨n,c⟩:=Int.eq_ofNat_of_zero_le h2;rw[c]at a h3;rw[<-a,Lib.itoa_nonneg];exact ge L
 obtain⟨k,d,rfl⟩:=h.2.2.2 b;exact .inl ⟨_,rfl,E4 L L⟩
def k8 {N ar l}(g:BB N ar l)(e:∀x∈l,tE x.h.B/\∀a∈x.A,tE a.B):∀x∈l,iS x:=λx c=>by have k:=g.gl.msr x c;have i:=g.wit x c;refine⟨(e x c).1,i.2.1,λf=>?_⟩;let⟨p,m,q,o⟩:=i.2.2 f;have b:∀a∈Af x,tE a.B->En a->IT a:=λa d s j=>⟨s,j.2.1,j.2.2.1,λt n=>j8 ((k.at_ a d).2.2 t n)⟩;exact⟨b _ (Ap (.inl ⟨f,rfl⟩)) (e x c).1 p,m,q,λa d=>b a (Ap (.inr d)) ((e x c).2 a d) (o a d)⟩
def K9 (l:n0)(p:Tx):Prop:=∃x∈l,x.h.B=p\/∃a∈x.A,a.B=p
def Rk (l:n0)(p:Tx):Prop:=∃x∈l,x.o=false/\x.h.B=p
def QX {N q}(h:q∈N)(b){a}(c:a.p=((N.idxOf q:Nat):Int)):(N7 N b a).B=q:=by show (N[a.p.toNat]?).getD []=q;rw[c,DK,AK (CS h),FN];rfl
def jD {N ar l}(n:BB N ar l){x}(j:x∈l)(i:x.o=false){k q z}(v:z∈uL N l x k q):z.h.B=x.h.B/\∀a∈z.A,∃y∈l,∃b∈y.A,b.B=a.B:=by obtain⟨R,s,rfl⟩:=AN.1 v;let⟨y,D,e⟩:=mem_filterMap.1 s;let⟨A,p⟩:=BP.1 D;simp only[Fw,BM,FJ,CV]at p;rw[Kt]at e;let⟨a,G,e⟩:=Option.bind_eq_some_iff.1 e;obtain⟨P,M,rfl⟩:=Option.map_eq_some_iff.1 e;refine⟨QX (n.gl.msr x j).mem false rfl,λb E=>?_⟩;obtain⟨m,t,rfl⟩:=AN.1 E;obtain⟨Q,g,rfl⟩:=AN.1 t;obtain⟨I,u,rfl⟩:=AN.1 g;have f:∀w∈l,w.o=false->∀d∈w.A,∀(m:Lit),m.a.p=((N.idxOf d.B:Nat):Int)->∃y∈l,∃b∈y.A,b.B=(N7 N m.neg (lN (Fc (Fj P ⟨(Ce N x).h,rpl k (Fj BU (Ce N y)).A (Ce N x).A⟩)) (P9 P m.a))).B:=λw o B d c m C=>⟨w,o,d,c,(QX ((n.ru w o B).A d c).mem m.neg C).symm⟩;obtain h|h:=Cy u;obtain⟨d,c,rfl⟩:=AN.1 h;exact f x j i d c _ rfl;obtain⟨K,F,rfl⟩:=AN.1 h;obtain⟨d,c,rfl⟩:=AN.1 F;exact f y A p.1 d c _ rfl
def VB {l i p e}(h:Ez l i p=some e):∃y∈l,∃b∈y.A,b.B=e:=by
 rw[Ez]at h;split at h
 case h_2=>cases h
 rename_i y c;split at h
 case isFalse=>cases h
 split at h
 case h_2=>cases h
 rename_i a d;cases h;have g:y∈E5 l i p:=gp
 obtain⟨⟨z,j⟩,f,rfl⟩:=AN.1 g;grind
def Lu {N l}(c:∀x∈l,x.h.B∈N){p}(d:p∈N):Dr N l (N.idxOf p)↔Rk l p:=by rw[Dr,Rk];simp only[CU,BM,FJ,CV];constructor;rintro⟨x,a,b,f⟩;refine⟨x,a,b,?_⟩;have e:=RD (c x a) d;rw[f]at e;simpa using e.symm;rintro⟨x,a,b,rfl⟩;exact⟨x,a,b,rfl⟩
def Vb {N ar l}(b:BB N ar l){p}(h:K9 l p):p∈N:=by
 obtain⟨x,c,h⟩:=h;rcases h with rfl|⟨a,ha,rfl⟩;exact (b.gl.msr x c).mem;cases d:x.o
 ·exact ((b.ru x c d).A a ha).mem
 rw[(b.gl.msr x c).o d]at ha;cases ha
def Mv {N l M}(k:∀x∈l,x.h.B∈N/\∀a∈x.A,a.B∈N)(v:Dw N l M){p q}(g:p∈N)(f:q∈N):F9 (Z N) M (Z N) (N.idxOf p) (N.idxOf q)↔Way (Gs l) p q:=by
 have u:NA (Z N) M:=λa b h=>by
  let⟨x,c,m,y,d,e2⟩:=(v a b).1 h;grind
 rw[gR u];have one:∀p q:Tx,p∈N->q∈N->(M (N.idxOf p) (N.idxOf q)↔Gs l p q):=λp q g f=>by rw[v];constructor;rintro⟨x,c,m,y,d,e2⟩;exact⟨x,c,E9 (k x c).1 g m,y,d,E9 ((k x c).2 y d) f e2⟩;rintro⟨x,c,rfl,y,d,rfl⟩;exact⟨x,c,rfl,y,d,rfl⟩
 constructor;intro h;have n:∀i j,Way (λa b=>M a b) i j->∀p q:Tx,p∈N->q∈N->N.idxOf p=i->N.idxOf q=j->Way (Gs l) p q:=λi j h=>by
  induction h with
  |one e=>
   rintro p q g f rfl rfl;exact .one ((one p q g f).1 e)
  |more e _ o=>
   rintro p q g f rfl rfl;obtain⟨x,c,m,y,d,rfl⟩:=(v _ _).1 e;have s:=(k x c).2 y d;exact .more ((one p y.B g s).1 e) (o y.B q s f rfl rfl)
 exact n _ _ h p q g f rfl rfl;intro h;induction h with
 |one e=>exact .one ((one _ _ g f).2 e)
 |more e _ o=>
  have t:=e;obtain⟨x,c,rfl,y,d,rfl⟩:=t;exact .more ((one _ _ g ((k x c).2 y d)).2 e) (o ((k x c).2 y d) f)
def YZ {l q}:K9 (l.map ren) q↔K9 l q:=by constructor;rintro⟨y,g,h⟩;obtain⟨x,d,rfl⟩:=AN.1 g;refine⟨x,d,h.imp id λ⟨a,c,e⟩=>?_⟩;obtain⟨b,f,rfl⟩:=AN.1 c;exact⟨b,f,e⟩;rintro⟨x,d,h⟩;exact⟨ren x,AN.2 ⟨x,d,rfl⟩,h.imp id λ⟨a,c,e⟩=>⟨_,AN.2 ⟨a,c,rfl⟩,e⟩⟩
def XM {l q}:Rk (l.map ren) q↔Rk l q:=by constructor;rintro⟨y,b,h⟩;obtain⟨x,a,rfl⟩:=AN.1 b;exact⟨x,a,h⟩;rintro⟨x,a,h⟩;exact⟨ren x,AN.2 ⟨x,a,rfl⟩,h⟩
def XN {x}(h:x.o=false->XR x)(j:x.o->x.h.A=[]/\x.A=[]):ren (ren x)=ren x:=by
 cases e:x.o
 ·have f:=h e;have p:=f.inO;have b:∀a∈Af x,Br (Au (ren x)) (Br (Au x) a)=Br (Au x) a:=λa c=>by
   unfold Br;simp only[AE.mk.injEq,GM,BH];refine CG λt k=>?_;simp only[Function.comp];have q:=f.ut c k;generalize o:C6 (Au x) t=w at q;cases d:Ab w with
   |false=>unfold C6;rw[if_neg (gp)]
   |true=>
    have n:w∈Au (ren x):=by
     rw[f.ord];refine AN.2 ⟨t,f.mem c k ?_,o⟩;rw[<-Hu (l:=Au x) λd=>f.rng c k d,o];exact d
    have g:=CS n;have m:=FN g;have j:=p.ord;unfold C6 Bv;rw[if_pos d,if_pos n];generalize (Au (ren x)).idxOf w=i at g m;rw[<-m];have:(Au (ren x))[i]?=some [Im (i:Nat)]:=gp
    rw[AK g]at this;simpa using this.symm
  show (⟨x.o,Br (Au (ren x)) (Br (Au x) x.h),(x.A.map (Br (Au x))).map (Br (Au (ren x)))⟩:AB)=⟨x.o,Br (Au x) x.h,x.A.map (Br (Au x))⟩;rw[b _ (Ap (.inl ⟨e,rfl⟩)),BH];congr 1;exact CG λa c=>b a (Ap (.inr c))
 obtain⟨s,u⟩:=j e;simp[ren,Br,s,u]
def Ri {α a:Type}(f:α->a)(n o l):rpl n (o.map f) (l.map f)=(rpl n o l).map f:=by unfold rpl;rw[zipIdx_map,JG,LH];grind
structure OK {ι:Type}(I:ι->Prop)(e e2:ι->Tm):Prop where
 inj:∀p q,I p->I q->(e p=e q↔e2 p=e2 q)
 var:∀p,I p->(e p).1=(e2 p).1
 num:∀p,I p->(e p).1=false->e2 p=e p
 v1:∀p,I p->zU (e p)
 v2:∀p,I p->zU (e2 p)
section
variable {ι:Type} {I:ι->Prop} {e e2:ι->Tm}
def zS (I:ι->Prop)(e e2:ι->Tm)(P a:List Tm):Prop:=Z P=52/\Z a=52/\∀p,I p->∃q,I q/\Hl P (e p)=e q/\Hl a (e2 p)=e2 q
theorem fZ {P v w t}(g:Z P=52)(f:zU t)(c:v.1):Hl (Us P v w) t=if Hl P t=v then w else Hl P t:=by
 obtain⟨b,n⟩:=t;cases b
 ·have a:∀Q,Hl Q (false,n)=(false,n):=λQ=>if_neg nk;rw[a,a,if_neg];intro h;rw[<-h]at c;cases c
 obtain⟨k,i,e⟩:=f rfl;dsimp only at e;subst e;have d:=AK (show k<Z P by omega);unfold Hl Us;simp only[if_true,DK,DC,d,GJ,MG]
theorem yB (c:OK I e e2){P i}(h:zS I e e2 P i){p q:ι}(F:I p)(x:I q):(Np P (e p) (e q)=none/\Np i (e2 p) (e2 q)=none)\/∃t d,Np P (e p) (e q)=some t/\Np i (e2 p) (e2 q)=some d/\zS I e e2 t d:=by
 let⟨a,f,D,z⟩:=h.2.2 p F;let⟨b,k,C,y⟩:=h.2.2 q x;have j:∀{v w:ι},I v->I w->(e v).1->zS I e e2 (Us P (e v) (e w)) (Us i (e2 v) (e2 w)):=λ{v w} o E u=>
  ⟨by rw[Of];exact h.1,by rw[Of];exact h.2.1,λA l=>by
   let⟨s,n,B,G⟩:=h.2.2 A l;rw[fZ h.1 (c.v1 A l) u,fZ h.2.1 (c.v2 A l) (c.var v o▸u),B,G];by_cases g:e s=e v;rw[if_pos g,if_pos ((c.inj s v n o).1 g)];exact⟨w,E,rfl,rfl⟩;rw[if_neg g,if_neg λm=>g ((c.inj s v n o).2 m)];grind⟩
 unfold Np;rw[D,z,C,y];by_cases g:e a=e b;rw[if_pos g,if_pos ((c.inj a b f k).1 g)];exact .inr ⟨P,i,rfl,rfl,h⟩;rw[if_neg g,if_neg λm=>g ((c.inj a b f k).2 m),<-c.var a f,<-c.var b k];grind
theorem eD (j:OK I e e2):∀(Lqx M:List ι) (P b:List Tm),zS I e e2 P b->(∀p∈Lqx,I p)->(∀p∈M,I p)->(Dy P (Lqx.map e) (M.map e)=none/\Dy b (Lqx.map e2) (M.map e2)=none)\/∃c a,Dy P (Lqx.map e) (M.map e)=some c/\Dy b (Lqx.map e2) (M.map e2)=some a/\zS I e e2 c a
 |[],M,P,b,h,_,_=>.inr ⟨P,b,rfl,rfl,h⟩
 |p::Lqx,[],P,b,h,_,_=>.inl ⟨rfl,rfl⟩
 |p::Lqx,q::M,P,b,h,i,k=>by simp only[CC,Dy];obtain⟨g,f⟩|⟨c,a,g,f,m⟩:=yB j h (i p nk) (k q nk);rw[g,f];exact .inl ⟨rfl,rfl⟩;rw[g,f];exact eD j Lqx M c a m (λl d=>i l (ns d)) λl d=>k l (ns d)
theorem X3 {t}(h:zU t):Hl BY t=t:=by
 obtain⟨b,n⟩:=t;cases b
 ·rfl
 obtain⟨k,a,e⟩:=h rfl;dsimp only at e;subst e;simp[Hl,BY,a]
theorem UP (b:OK I e e2):zS I e e2 BY BY:=⟨Ni,Ni,λp a=>⟨p,a,X3 (b.v1 p a),X3 (b.v2 p a)⟩⟩
theorem nT {a:Type}{h h2:a->Int}{p}:∀K:List a,(∀q∈K,h q=h p↔h2 q=h2 p)->(K.map h).idxOf (h p)=(K.map h2).idxOf (h2 p)
 |[],_=>rfl
 |q::K,g=>by rw[CC,CC,JZ,JZ,nT K λc b=>g c (ns b)];grind
theorem Vs {i:Type}{Jqx:i->Prop}{g g2}(l:∀p q,Jqx p->Jqx q->(g p=g q↔g2 p=g2 q))(d:∀p,Jqx p->(g p).1=(g2 p).1):∀(Lqx K:List i),(∀p∈Lqx,Jqx p)->(∀p∈K,Jqx p/\(g p).1)->
  ∃m:List i,(∀p∈m,Jqx p/\(g p).1)/\(Lqx.map g).foldl vF (K.map λp=>(g p).2)=m.map (λp=>(g p).2)/\(Lqx.map g2).foldl vF (K.map λp=>(g2 p).2)=m.map λp=>(g2 p).2
 |[],K,_,e=>⟨K,e,rfl,rfl⟩
 |p::Lqx,K,j,e=>by
  have f:=j p nk;have s:∀q∈K,(g p).1->((g q).2=(g p).2↔(g2 q).2=(g2 p).2):=λq a b=>gp
  have o:(g p).1->((g p).2∈K.map (λp=>(g p).2)↔(g2 p).2∈K.map λp=>(g2 p).2):=λb=>gp
  rw[CC,CC,FW,FW];by_cases c:(g p).1/\(g p).2∉K.map λp=>(g p).2;have k:(g2 p).1/\(g2 p).2∉K.map λp=>(g2 p).2:=⟨d p f▸c.1,λh=>c.2 ((o c.1).2 h)⟩;have t:vF (K.map λp=>(g p).2) (g p)=(K++[p]).map λp=>(g p).2:=by grind[vF]
  have e2:vF (K.map λp=>(g2 p).2) (g2 p)=(K++[p]).map λp=>(g2 p).2:=by grind[vF]
  rw[t,e2];exact Vs l d Lqx (K++[p]) (λq a=>j q (ns a)) λq a=>gp
  have k:¬((g2 p).1/\(g2 p).2∉K.map λp=>(g2 p).2):=λh=>gp
  rw[vF,if_neg c,vF,if_neg k];exact Vs l d Lqx K (λq a=>j q (ns a)) e
theorem VJ {i:Type}{Jqx:i->Prop}{g g2}(o:∀p q,Jqx p->Jqx q->(g p=g q↔g2 p=g2 q))(d:∀p,Jqx p->(g p).1=(g2 p).1)(u:∀p,Jqx p->(g p).1=false->g2 p=g p){Lqx:List i}(j:∀p∈Lqx,Jqx p){p}(t:p∈Lqx):G8 ((Lqx.map g).foldl vF []) (g p)=G8 ((Lqx.map g2).foldl vF []) (g2 p):=by
 obtain⟨K,k,n,e2⟩:=Vs o d Lqx [] j nk;simp only[IK]at n e2;rw[n,e2];have b:=j p t;unfold G8;rw[<-d p b];cases c:(g p).1
 ·rw[u p b c];rfl
 have f:∀q∈K,((g q).2=(g p).2↔(g2 q).2=(g2 p).2):=λq a=>gp
 have l:(g p).2∈K.map (λp=>(g p).2)↔(g2 p).2∈K.map λp=>(g2 p).2:=gp
 have s:=nT (h:=λp=>(g p).2) (h2:=λp=>(g2 p).2) (p:=p) K f;simp only[if_true];unfold lZ;by_cases e:(g p).2∈K.map λp=>(g p).2;rw[if_pos e,if_pos (l.1 e)];rw[s];rw[if_neg e,if_neg λh=>e (l.2 h)]
end
abbrev LT:=Bool×Tx
def Hm:LT->Tm
 |(false,t)=>Aq t
 |(true,t)=>Hl BU (Aq t)
def IW (s:Bool)(a:AE):Bool×AE:=(s,a)
def aX (x:AB)(k:Nat)(y:AB):List (Bool×AE):=rpl k (y.A.map (IW true)) (x.A.map (IW false))
def nN (x:AB)(B:List (Bool×AE)):List LT:=(x.h.A.map λt=>(false,t))++B.flatMap λb=>b.2.A.map λt=>(b.1,t)
def pI (x:AB)(B:List (Bool×AE))(f:LT->Tx):AB:=⟨false,⟨false,x.h.B,x.h.A.map λt=>f (false,t)⟩,B.map λb=>⟨b.2.nt,b.2.B,b.2.A.map λt=>f (b.1,t)⟩⟩
theorem rT {x y k b}(h:b∈aX x k y):(b.1=false/\b.2∈x.A)\/(b.1/\b.2∈y.A):=by obtain h|h:=Cy h;obtain⟨a,c,rfl⟩:=AN.1 h;exact .inl ⟨rfl,c⟩;obtain⟨a,c,rfl⟩:=AN.1 h;exact .inr ⟨rfl,c⟩
def pV {N x y k}(j:∀a∈x.A,a.B∈N)(C:x.h.B∈N)(m:∀a∈y.A,a.B∈N):(Kt N x k y).map (Cz N)=(x.A[k]?).bind λa=>(Dy BY (a.A.map λt=>Hm (false,t)) (y.h.A.map λt=>Hm (true,t))).map λP=>
  pI x (aX x k y) λp=>Km (G8 (((nN x (aX x k y)).map λp=>Hl P (Hm p)).foldl vF []) (Hl P (Hm p))):=by
 rw[Kt];cases z:x.A[k]? with
 |none=>rfl
 |some a=>
  simp only[FU];have l:(Fj BU (Ce N y)).h.ts=y.h.A.map λt=>Hm (true,t):=by simp only[Fj,P9,Ce,Eg,BH];rfl
  have e:a.A.map Aq=a.A.map λt=>Hm (false,t):=rfl;rw[l,e];cases Dy BY (a.A.map λt=>Hm (false,t)) (y.h.A.map λt=>Hm (true,t))with
  |none=>rfl
  |some P=>
   simp only[GJ,Option.some.injEq];let d:Bool×AE->Lit:=λb=>⟨b.2.nt,⟨(N.idxOf b.2.B:Nat),b.2.A.map λt=>Hl P (Hm (b.1,t))⟩⟩;have A:((rpl k (Fj BU (Ce N y)).A (Ce N x).A).map (qX P))=(aX x k y).map d:=by
    have v:(Fj BU (Ce N y)).A=(y.A.map (IW true)).map λb:Bool×AE=>(⟨b.2.nt,⟨(N.idxOf b.2.B:Nat),b.2.A.map λt=>Hm (b.1,t)⟩⟩:Lit):=by
     simp only[Fj,Ce,BH];refine CG λb _=>?_;simp only[Function.comp,E6,Eg,qX,P9,IW,BH];rfl
    have o:(Ce N x).A=(x.A.map (IW false)).map λb:Bool×AE=>(⟨b.2.nt,⟨(N.idxOf b.2.B:Nat),b.2.A.map λt=>Hm (b.1,t)⟩⟩:Lit):=by simp only[Ce,BH];refine CG λb _=>?_;simp only[Function.comp,E6,Eg,IW];rfl
    rw[v,o,Ri,BH];refine CG λb _=>?_;simp only[Function.comp,qX,P9,BH,d];rfl
   have s:Fj P ⟨(Ce N x).h,rpl k (Fj BU (Ce N y)).A (Ce N x).A⟩=⟨⟨(N.idxOf x.h.B:Nat),x.h.A.map λt=>Hl P (Hm (false,t))⟩,(aX x k y).map d⟩:=by rw[Fj];simp only;rw[show P9 P (Ce N x).h=⟨(N.idxOf x.h.B:Nat),x.h.A.map λt=>Hl P (Hm (false,t))⟩by simp only[P9,Ce,Eg,BH];rfl];congr 1
   have i:Fc ⟨⟨(N.idxOf x.h.B:Nat),x.h.A.map λt=>Hl P (Hm (false,t))⟩,(aX x k y).map d⟩=((nN x (aX x k y)).map λp=>Hl P (Hm p)).foldl vF []:=by rw[Fc,Cs,Hs,nN];congr 1;simp only[DN,EU,BH,LH,JG];rfl
   rw[s];rw[Fa,Cz,pI];rw[i];have c:∀(q:Tx) (b:Bool) (f:List Tm) (B:List Int),q∈N->N7 N b (lN B ⟨(N.idxOf q:Nat),f⟩)=⟨b,q,f.map λu=>Km (G8 B u)⟩:=λq b f B g=>by rw[N7,lN];simp only[DK,BH];rw[AK (CS g),FN];rfl
   simp only[BH];congr 1;rw[c _ _ _ _ C,BH];rfl;refine CG λb n=>?_;simp only[Function.comp,JS,d];rw[c _ _ _ _ (by grind[rT]),BH];rfl
def nG (x y:AB):Bool->ol
 |false=>Au x
 |true=>Au y
def rY (x y:AB)(p:LT):Prop:=∃a,(p.1=false/\a∈Af x\/p.1/\a∈Af y)/\p.2∈a.A
def O8 {t}(h:UT t):Hl BU (Aq t)=if Ab t=true then (true,26+(Aq t).2)else Aq t:=by
 cases a:Ab t
 ·have c:(Aq t).1=false:=by grind[Cb]
  rw[Hl,if_neg (gp)];rfl
 obtain⟨k,b,-,e⟩:=h.enc a;rw[e];simp[Hl,BU,b,show k<52 by omega]
def Sr {t}(h:Ab t=false)(l):C6 l t=t:=if_neg (ns h)
def sG {p q}(c:UT p.2)(e:UT q.2)(h:Hm p=Hm q):p.2=q.2/\(Ab p.2->p.1=q.1):=by
 have v:∀p:LT,UT p.2->Hm p=if Ab p.2=true then (true,(if p.1=true then 26 else 0)+(Aq p.2).2)else Aq p.2:=λp c=>by
  obtain⟨s,t⟩:=p;cases s
  ·show Aq t=_;cases m:Ab t with
   |true=>
    have l:(Aq t).1=true:=by grind[Cb]
    exact GB l nk
   |false=>rfl
  rw[Hm,O8 c];rfl
 rw[v p c,v q e]at h;cases b:Ab p.2
 ·cases a:Ab q.2 with
  |true=>
   rw[b,a,if_neg Bool.false_ne_true,if_pos rfl]at h;have:(Aq p.2).1=true:=gp
   rw[Cb,b]at this;cases this
  |false=>
   rw[b,a,if_neg Bool.false_ne_true,if_neg Bool.false_ne_true]at h;exact⟨DJ.inj _ _ c e h,λh=>gp⟩
 obtain⟨k,x,f,n⟩:=c.enc b;cases a:Ab q.2 with
 |true=>
  obtain⟨j,u,g,i⟩:=e.enc a;rw[b,a,if_pos rfl,if_pos rfl,n,i]at h;have d:=(Prod.mk.inj h).2;dsimp only at d;cases y:p.1<;>cases o:q.1<;>rw[y,o]at d<;>simp at d;exact⟨gp,λ_=>rfl⟩;omega;omega;have:k=j:=L;exact⟨gp,λ_=>rfl⟩
 |false=>
  rw[b,a,if_pos rfl,if_neg Bool.false_ne_true]at h;have:(Aq q.2).1=true:=gp
  rw[Cb,a]at this;cases this
def gT {p}(h:UT p.2):zU (Hm p):=by
 intro b;obtain⟨s,t⟩:=p;cases s
 ·have a:Ab t=true:=by rw[<-Cb];exact b
  obtain⟨k,c,-,e⟩:=h.enc a;exact⟨k,L,by show (Aq t).2=_;rw[e]⟩
 cases a:Ab t with
 |true=>
  obtain⟨k,c,-,e⟩:=h.enc a;refine⟨26+k,L,?_⟩;show (Hl BU (Aq t)).2=_;rw[O8 h,a,if_pos rfl,e];simp
 |false=>
  have:(Hl BU (Aq t)).1=true:=b;rw[O8 h,a,if_neg nk,Cb,a]at this;cases this
def Nx {p}(h:UT p.2):(Hm p).1=Ab p.2:=by
 obtain⟨s,t⟩:=p;cases s
 ·exact Cb t
 show (Hl BU (Aq t)).1=_;rw[O8 h];cases a:Ab t with
 |true=>rfl
 |false=>rw[if_neg nk,Cb];exact a
def YN {x y}(o:XR x)(E:XR y)(D:∀a∈Af x,∀t∈a.A,UT t)(C:∀a∈Af y,∀t∈a.A,UT t):OK (rY x y) Hm λp=>Hm (p.1,C6 (nG x y p.1) p.2):=by
 have i:∀p,rY x y p->UT p.2:=λp ⟨a,h,j⟩=>gp
 have g:∀p,rY x y p->UT (C6 (nG x y p.1) p.2)/\Ab (C6 (nG x y p.1) p.2)=Ab p.2:=λp ⟨a,h,j⟩=>by obtain⟨e,h⟩|⟨e,h⟩:=h;rw[e];exact⟨o.ut h j,Hu λd=>o.rng h j d⟩;rw[e];exact⟨E.ut h j,Hu λd=>E.rng h j d⟩
 refine⟨λp q c l=>⟨λh=>?_,λh=>?_⟩,λp c=>?_,λp c d=>?_,λp c=>gT (i p c),λp c=>gT (g p c).1⟩;obtain⟨f,n⟩:=sG (i p c) (i q l) h;cases d:Ab p.2
 ·have u:Ab q.2=false:=gp
  rw[Sr d,Sr u];have:∀p:LT,UT p.2->Ab p.2=false->Hm p=Aq p.2:=λp c d=>by
   obtain⟨s,t⟩:=p;cases s with
   |false=>rfl
   |true=>rw[Hm,O8 c,if_neg (gp)]
  rw[this _ (i p c) d,this _ (i q l) u,f]
 rw[n d,f]
 let⟨f,n⟩:=sG (p:=(p.1,C6 (nG x y p.1) p.2)) (q:=(q.1,C6 (nG x y q.1) q.2)) (g p c).1 (g q l).1 h;simp only at f n;have A:Ab p.2=Ab q.2:=gp
 cases d:Ab p.2
 ·rw[d]at A;rw[Sr d,Sr A.symm]at h;exact h
 have z:=n (gp);obtain⟨a,m,B⟩:=c;obtain⟨b,k,v⟩:=l;have:p.2=q.2:=by
  rw[<-z]at k f;rcases m with⟨e,m⟩|⟨e,m⟩;rw[e]at f;rcases k with⟨-,k⟩|⟨e2,-⟩;exact o.inj m k B v f;rw[e]at e2;cases e2;rw[e]at f;rcases k with⟨e2,-⟩|⟨-,k⟩;rw[e]at e2;cases e2;exact E.inj m k B v f
 rw[show p=q from GB z this]
 rw[Nx (i p c),Nx (g p c).1,(g p c).2];rw[Nx (i p c)]at d;rw[Sr d]
def ZI (x k y):aX (ren x) k (ren y)=(aX x k y).map λb=>(b.1,Br (nG x y b.1) b.2):=by
 unfold aX ren;simp only[BH];have a:y.A.map (IW true∘Br (Au y))=(y.A.map (IW true)).map λb=>(b.1,Br (nG x y b.1) b.2):=by rw[BH];rfl
 have c:x.A.map (IW false∘Br (Au x))=(x.A.map (IW false)).map λb=>(b.1,Br (nG x y b.1) b.2):=by rw[BH];rfl
 rw[a,c,Ri]
def ZH (x y B):nN (ren x) (B.map λb=>(b.1,Br (nG x y b.1) b.2))=(nN x B).map λp=>(p.1,C6 (nG x y p.1) p.2):=by unfold nN;simp only[EU,BH,LH,JG,ren,Br];rfl
def RP {x y k}(f:x.o=false)(g:y.o=false){p}(h:p∈nN x (aX x k y)):rY x y p:=by obtain h|h:=AW.1 h;obtain⟨t,a,rfl⟩:=AN.1 h;exact⟨x.h,.inl ⟨rfl,Ap (.inl ⟨f,rfl⟩)⟩,a⟩;let⟨b,d,h⟩:=EX.1 h;obtain⟨t,a,rfl⟩:=AN.1 h;obtain⟨e,c⟩|⟨e,c⟩:=rT d;exact⟨b.2,.inl ⟨e,Ap (.inr c)⟩,a⟩;exact⟨b.2,.inr ⟨e,Ap (.inr c)⟩,a⟩
def tQ {N N2 x y k}(A:XR x)(v:XR y)(Lqx:∀a∈Af x,∀t∈a.A,UT t)(F:∀a∈Af y,∀t∈a.A,UT t)(B:x.h.B∈N/\∀a∈x.A,a.B∈N)(G:∀a∈y.A,a.B∈N)(m:x.h.B∈N2/\∀a∈x.A,a.B∈N2)(S:∀a∈y.A,a.B∈N2):(Kt N x k y).map (Cz N)=(Kt N2 (ren x) k (ren y)).map (Cz N2):=by
 rw[pV B.2 B.1 G,pV (x:=ren x) (y:=ren y) (λa d=>by
  obtain⟨b,f,rfl⟩:=AN.1 d;exact m.2 b f) m.1 λa d=>by obtain⟨b,f,rfl⟩:=AN.1 d;exact S b f]
 have n:=YN A v Lqx F;show _=((x.A.map (Br (Au x)))[k]?).bind _;rw[DC];cases d:x.A[k]? with
 |none=>rfl
 |some a=>
  have I:=AY d;simp only[FU,GJ];have D:(Br (Au x) a).A.map (λt=>Hm (false,t))=(a.A.map λt=>(false,t)).map λp:LT=>Hm (p.1,C6 (nG x y p.1) p.2):=by simp only[Br,BH];rfl
  have e2:(ren y).h.A.map (λt=>Hm (true,t))=(y.h.A.map λt=>(true,t)).map λp:LT=>Hm (p.1,C6 (nG x y p.1) p.2):=by simp only[ren,Br,BH];rfl
  have K:a.A.map (λt=>Hm (false,t))=(a.A.map λt=>(false,t)).map Hm:=jx
  have M:y.h.A.map (λt=>Hm (true,t))=(y.h.A.map λt=>(true,t)).map Hm:=jx
  rw[D,e2,K,M]
  rcases eD n (a.A.map λt=>(false,t)) (y.h.A.map λt=>(true,t)) BY BY (UP n) (λp c=>by
   obtain⟨t,e,rfl⟩:=AN.1 c;exact⟨a,.inl ⟨rfl,Ap (.inr I)⟩,e⟩) (λp c=>by
   obtain⟨t,e,rfl⟩:=AN.1 c
   exact⟨y.h,.inr ⟨rfl,Ap (.inl ⟨v.o,rfl⟩)⟩,e⟩)with⟨u,s⟩|⟨P,P2,u,s,hR⟩
  rw[u,s];rfl;rw[u,s];simp only[GJ,Option.some.injEq];rw[ZI,ZH x y];simp only[BH];have Q:∀p∈nN x (aX x k y),rY x y p:=λp c=>RP A.o v.o c;have o:=hR.2.2;have j:∀p∈nN x (aX x k y),Km (G8 (((nN x (aX x k y)).map λp=>Hl P (Hm p)).foldl vF []) (Hl P (Hm p)))=Km (G8 (((nN x (aX x k y)).map ((λp=>Hl P2 (Hm p))∘λp=>(p.1,C6 (nG x y p.1) p.2))).foldl vF []) (Hl P2 (Hm (p.1,C6 (nG x y p.1) p.2)))):=λp c=>by
   congr 1
   exact VJ (Jqx:=rY x y) (g:=λp=>Hl P (Hm p)) (g2:=(λp=>Hl P2 (Hm p))∘λp=>(p.1,C6 (nG x y p.1) p.2)) (λp q c C=>by
    let⟨a,d,i,l⟩:=o p c;let⟨b,f,R,E⟩:=o q C;simp only[Function.comp];rw[i,l,R,E];exact n.inj a b d f) (λp c=>by
    let⟨a,d,i,l⟩:=o p c;simp only[Function.comp];rw[i,l];exact n.var a d) (λp c z=>by
    let⟨a,d,i,l⟩:=o p c;simp only[Function.comp]at z⊢;rw[i]at z;rw[i,l]
    exact n.num a d z) Q c
  rw[pI];congr 1;show (⟨false,x.h.B,x.h.A.map _⟩:AE)=⟨false,x.h.B,(x.h.A.map (C6 (Au x))).map _⟩;rw[BH];congr 1;exact CG λt e=>j (false,t) (GK _ (AN.2 ⟨t,e,rfl⟩));rw[BH];refine CG λb f=>?_;simp only[Function.comp,Br,BH,AE.mk.injEq,GM];exact CG λt e=>j (b.1,t) (LI _ (EX.2 ⟨b,f,AN.2 ⟨t,e,rfl⟩⟩))
def Vd (f:Tx->Tx)(x:AB):AB:=⟨x.o,⟨x.h.nt,x.h.B,x.h.A.map f⟩,x.A.map λa=>⟨a.nt,a.B,a.A.map f⟩⟩
def nR {f:Tx->Tx}{t}:∀Lqx:ol,(∀u∈Lqx,f u=f t->u=t)->(Lqx.map f).idxOf (f t)=Lqx.idxOf t/\(f t∈Lqx.map f↔t∈Lqx)
 |[],_=>⟨rfl,nk⟩
 |u::Lqx,h=>by let⟨a,d⟩:=nR (f:=f) (t:=t) Lqx λv i=>h v (ns i);grind
def ig {f x}(v:∀a∈Af x,∀t∈a.A,Ab (f t)=Ab t)(G:∀a∈Af x,∀t∈a.A,Ab t=false->f t=t)(s:∀a∈Af x,∀b∈Af x,∀t∈a.A,∀u∈b.A,Ab t->Ab u->f t=f u->t=u)(D:x.o->x.h.A=[]/\x.A=[]):ren (Vd f x)=ren x:=by
 cases e:x.o
 ·have i:∀t,t∈(Af x).flatMap (·.A)->∃a∈Af x,t∈a.A:=λt m=>gp
  have z:(Af (Vd f x)).flatMap (·.A)=((Af x).flatMap (·.A)).map f:=by simp[Af,Vd,e,JG,LH]
  have m:Au (Vd f x)=(Au x).map f:=by
   rw[Au];rw[z]
   have:=Yi f ((Af x).flatMap (·.A)) [] nk (λt m=>gp) (λt u k j B F h=>gp)
   exact this
  have n:=(K7 ((Af x).flatMap (·.A)) [] nk GN).1;have l:∀a∈Af x,Br (Au (Vd f x)) ⟨a.nt,a.B,a.A.map f⟩=Br (Au x) a:=λa c=>by
   unfold Br;simp only[AE.mk.injEq,GM,BH];refine CG λt o=>?_;simp only[Function.comp];unfold C6;rw[v a c t o];cases q:Ab t
   ·rw[if_neg nk,if_neg nk,G a c t o q]
   rw[if_pos rfl,if_pos rfl,m];let⟨y,p⟩:=nR (f:=f) (t:=t) (Au x) λu E g=>by have A:=n u E;grind
   unfold Bv;by_cases d:t∈Au x;rw[if_pos d,if_pos (p.2 d),y];rw[if_neg d,if_neg λg=>d (p.1 g)]
  show (⟨x.o,Br (Au (Vd f x)) ⟨x.h.nt,x.h.B,x.h.A.map f⟩,(x.A.map λa=>(⟨a.nt,a.B,a.A.map f⟩:AE)).map (Br (Au (Vd f x)))⟩:AB)=⟨x.o,Br (Au x) x.h,x.A.map (Br (Au x))⟩;rw[l _ (Ap (.inl ⟨e,rfl⟩)),BH];congr 1;exact CG λa c=>l a (Ap (.inr c))
 let⟨k,j⟩:=D e;simp[ren,Vd,Br,k,j]
def QT {x}(i:XR x)(k):ren (C8 (ren x) k)=ren (C8 x k):=by
 have g:∀a∈Af (C8 x k),a∈Af x:=λa c=>by
  have c:a=x.h\/a∈x.A.eraseIdx k:=by grind[Af,C8]
  obtain rfl|c:=c;exact Ap (.inl ⟨i.o,rfl⟩);exact Ap (.inr (EE c))
 have e:C8 (ren x) k=Vd (C6 (Au x)) (C8 x k):=by simp_all[C8,ren,Vd,Br,Hz]
 rw[e];exact ig (λa c t d=>Hu λf=>i.rng (g a c) d f) (λa c t d f=>Sr f _) (λa c b j t d u l _ _ h=>i.inj (g a c) (g b j) d l h) λh=>by cases h
structure Sx (x y:AB):Prop where
 rn:ren x=ren y
 len:Z (Bz x)=Z (Bz y)
 sf:Db x=Db y
def Sx.refl (x):Sx x x:=⟨rfl,rfl,rfl⟩
def Sx.symm {x y}(h:Sx x y):Sx y x:=⟨h.rn.symm,h.len.symm,h.sf.symm⟩
def Sx.trans {x y z}(h:Sx x y)(g:Sx y z):Sx x z:=⟨h.rn.trans g.rn,h.len.trans g.len,h.sf.trans g.sf⟩
def Sx.o {x y}(h:Sx x y):x.o=y.o:=by simpa[ren]using congrArg AB.o h.rn
def Sx.B {x y}(h:Sx x y):x.h.B=y.h.B:=by simpa[ren,Br]using congrArg (λz:AB=>z.h.B) h.rn
def Sx.bl {x y}(h:Sx x y):Z x.A=Z y.A:=by have:=congrArg (λz:AB=>Z z.A) h.rn;simpa[ren]using this
def Sx.lit {x y}(h:Sx x y){j:Nat}{a}(d:x.A[j]?=some a):∃b,y.A[j]?=some b/\b.nt=a.nt/\b.B=a.B/\Z b.A=Z a.A:=by have:=congrArg (λz:AB=>z.A[j]?) h.rn;simp only[ren,DC,d,GJ]at this;let⟨b,c,e⟩:=Option.map_eq_some_iff.1 this.symm;refine⟨b,c,by grind[Br],by grind[Br],?_⟩;have:=congrArg (λz:AE=>Z z.A) e;simpa[Br]using this
def Sx.mem {x y}(h:Sx x y){a}(d:a∈x.A):∃b∈y.A,b.nt=a.nt/\b.B=a.B/\Z b.A=Z a.A:=by let⟨j,e⟩:=CL d;let⟨b,c,h⟩:=h.lit e;grind
def Sx.hl {x y}(h:Sx x y):Z x.h.A=Z y.h.A:=by have:=congrArg (λz:AB=>Z z.h.A) h.rn;simpa[ren,Br]using this
def pW {x}(i:Dc x)(g:∀a∈Af x,∀t∈a.A,UT t):Z (Bz (ren x))=Z (Bz x):=by
 apply Nat.le_antisymm (jF i);have n:∀l:ol,∀t,UT t->Z t<=Z (C6 l t):=λl t d=>by
  rw[C6];split;rename_i j;obtain⟨k,-,rfl⟩:=d.2.2.2 j;simp;exact AU _
 have f:∀a∈Af x,Z (Bh a)<=Z (Bh (Br (Au x) a)):=λa e=>by have:=Q5 id (C6 (Au x)) a.A λt d=>n _ t (g a e t d);rw[IE]at this;unfold Bh Br;grind
 cases b:x.o
 ·have m:=f _ (Ap (.inl ⟨b,rfl⟩));have o:=Q5 Cl (λa=>Cl (Br (Au x) a)) x.A λa e=>by have:=f a (Ap (.inr e));unfold Cl;rw[AX,AX];show _<=Z (if a.nt=true then [33]else ([]:Tx))+_;omega
  unfold Bz;rw[if_neg (gp),if_neg (by grind[ren])];rw[D1];show _<=Z (Bh (Br (Au x) x.h)++(if x.A.map (Br (Au x))=[]then []else 58::45::Bp ((x.A.map (Br (Au x))).map Cl)));rw[BH,AX,AX];by_cases c:x.A=[];rw[if_pos c,if_pos (ns c)];simpa using m;rw[if_neg c,if_neg (nn c)];simp only[BQ];have p:Z (Bp (x.A.map Cl))<=Z (Bp (x.A.map (Cl∘Br (Au x)))):=o;omega
 simp[Bz,ren,Br,b]
def gz {x}(d:x.o=false->XR x)(g:x.o->x.h.A=[]/\x.A=[]):Db (ren x)=Db x:=by
 cases e:x.o
 ·have d:=d e;have c:=d.safe (Z x.A);have e2:C8 (ren x) (Z x.A)=ren x:=by have:=U3 (x:=ren x) e;simpa[ren]using this
  rw[e2,U3 e]at c;rw[<-J8 (x:=ren x) λa i w j=>Me (d.inO.ut a i w j)];exact c
 let⟨c,f⟩:=g e;have:ren x=x:=by let⟨o,⟨n,p,k⟩,b⟩:=x;simp only at c f;subst c;subst f;rfl
 rw[this]
def BB.ut {N ar l}(h:BB N ar l){x}(c:x∈l):∀a∈Af x,∀t∈a.A,UT t:=λa b=>((h.gl.msr x c).at_ a b).2.2
def BB.sx {N ar l}(h:BB N ar l){x}(b:x∈l):Sx x (ren x):=
 ⟨(XN (λa=>h.xr b a) λa=>((h.wit x b).2.1 a).2).symm,(pW (h.wit x b) (h.ut b)).symm,(gz (λa=>h.xr b a) λa=>((h.wit x b).2.1 a).2).symm⟩
def LS (l m:n0):Prop:=∃a:List (AB×AB),l=a.map (·.1)/\m=a.map (·.2)/\∀p∈a,Sx p.1 p.2
def LS.refl (l):LS l l:=⟨l.map λx=>(x,x),by simp[Function.comp_def],by simp[Function.comp_def],λp a=>by
 obtain⟨x,-,rfl⟩:=AN.1 a
 exact Sx.refl x⟩
def LS.symm {l m}(h:LS l m):LS m l:=by
 obtain⟨c,rfl,rfl,h⟩:=h
 exact⟨c.map Prod.swap,jx,jx,λp b=>by
  obtain⟨q,a,rfl⟩:=AN.1 b
  exact (h q a).symm⟩
def LS.len {l m}(h:LS l m):Z l=Z m:=by obtain⟨a,rfl,rfl,-⟩:=h;simp
def LS.get {l m}(h:LS l m){i:Nat}{x}(a:l[i]?=some x):∃y,m[i]?=some y/\Sx x y:=by obtain⟨b,rfl,rfl,h⟩:=h;grind
def LS.mem {l m}(h:LS l m){x}(a:x∈l):∃y∈m,Sx x y:=by let⟨i,c⟩:=CL a;let⟨y,b,h⟩:=h.get c;grind
def LS.ren {l m}(h:LS l m):l.map ren=m.map ren:=by obtain⟨b,rfl,rfl,h⟩:=h;rw[BH,BH];exact CG λp a=>(h p a).rn
def LS.rpl {l m o b}(h:LS l m)(g:LS o b)(i):LS (rpl i o l) (rpl i b m):=by obtain⟨c,rfl,rfl,h⟩:=h;obtain⟨d,rfl,rfl,g⟩:=g;refine⟨YtmoeoppbmhfbpabGreatDoorJ.rpl i d c,by rw[Ri],by rw[Ri],λp a=>?_⟩;obtain a|a:=Cy a;exact h p a;exact g p a
def LS.one {x y}(h:Sx x y):LS [x] [y]:=⟨[(x,y)],rfl,rfl,λp a=>gp⟩
def LS.filter {l m}(h:LS l m){f g}(b:∀x y,x∈l->y∈m->Sx x y->f x=g y):LS (l.filter f) (m.filter g):=by obtain⟨c,rfl,rfl,h⟩:=h;refine⟨c.filter λp=>f p.1,by rw[filter_map];rfl,?_,λp a=>h p (BP.1 a).1⟩;rw[filter_map];congr 1;exact filter_congr λp a=>(b p.1 p.2 (AN.2 ⟨p,a,rfl⟩) (AN.2 ⟨p,a,rfl⟩) (h p a)).symm
def LS.of_ren {N ar l}(h:BB N ar l):LS l (l.map YtmoeoppbmhfbpabGreatDoorJ.ren):=⟨l.map λx=>(x,YtmoeoppbmhfbpabGreatDoorJ.ren x),by simp[Function.comp_def],jx,λp a=>by
 obtain⟨x,b,rfl⟩:=AN.1 a
 exact h.sx b⟩
def LS.nmd {l m}(h:LS l m){p}(c:K9 l p):K9 m p:=by let⟨x,g,c⟩:=c;let⟨y,i,d⟩:=h.mem g;refine⟨y,i,?_⟩;obtain rfl|⟨a,j,rfl⟩:=c;exact .inl d.B.symm;obtain⟨b,f,-,e,-⟩:=d.mem j;exact .inr ⟨b,f,e⟩
def LS.rld {l m}(h:LS l m){p}(c:Rk l p):Rk m p:=by obtain⟨x,d,b,rfl⟩:=c;let⟨y,e,a⟩:=h.mem d;exact⟨y,e,a.o.symm.trans b,a.B.symm⟩
def LS.once {l m}(h:LS l m){p q}(j:Gs l p q):Gs m p q:=by obtain⟨x,d,rfl,a,i,rfl⟩:=j;let⟨y,f,c⟩:=h.mem d;obtain⟨b,g,-,e,-⟩:=c.mem i;exact⟨y,f,c.B.symm,b,g,e⟩
def aW (N:ol)(l:n0):Prop:=∀x∈l,x.h.B∈N/\∀a∈x.A,a.B∈N
def BB.nm {N ar l}(h:BB N ar l):aW N l:=λx b=>⟨Vb h ⟨x,b,.inl rfl⟩,λa c=>Vb h ⟨x,b,.inr ⟨a,c,rfl⟩⟩⟩
def Rr {N l m}(f:aW N l)(c:aW N m):Rt N m l=false↔∀p,K9 m p->Rk l p->Rk m p:=by
 have u:∀p,K9 m p->p∈N:=λp ⟨x,b,h⟩=>by
  obtain rfl|⟨a,y,rfl⟩:=h;exact (c x b).1;exact (c x b).2 a y
 constructor;intro h p d i;have g:=u p d;have s:=CS g;have:=EV.1 h (N.idxOf p) (nn s);have A:=(Lu (λx b=>(f x b).1) g).2 i;have e2:Il N m (N.idxOf p):=by let⟨x,b,d⟩:=d;refine CU.2 ⟨x,b,?_⟩;obtain rfl|⟨a,y,rfl⟩:=d;simp;simp only[LF,CU,CV];exact .inr ⟨a,y,rfl⟩
 rw[A,e2]at this;apply (Lu (λx b=>(c x b).1) g).1;simpa using this;intro h;refine EV.2 λk _ o=>?_;simp only[BM,FJ]at o;let⟨⟨d,i⟩,t⟩:=o;let⟨x,b,n⟩:=CU.1 d;simp only[BM,FJ,CV]at n;let⟨z,j,q⟩:=CU.1 t;simp only[LF,CU,CV]at q;have v:K9 m x.h.B:=by refine⟨z,j,?_⟩;obtain e|⟨a,y,e⟩:=q;exact .inl (E9 (c z j).1 (f x b).1 L);exact .inr ⟨a,y,E9 ((c z j).2 a y) (f x b).1 L⟩
 have:=(Lu (λx b=>(c x b).1) (f x b).1).2 (h _ v ⟨x,b,n.1,rfl⟩);rw[n.2,i]at this;cases this
def zX {l}(h:(Co l).1=0):∃ar,aG l ar:=by
 have F:∀i,i<Z l->Gn l i=false:=by
  rw[Co]at h;split at h;cases h;rename_i E;exact Jo E
 have two:∀(i j:Nat) (x y:AB) (a b:AE),i<=j->l[i]?=some x->l[j]?=some y->a∈Af x->b∈Af y->a.B=b.B->Z a.A=Z b.A:=λi j x y a b G o m g u e=>by
  have f:∀(n k:Nat) (c d:AE),(Af y)[k]?=some d->c∈Ct l y j k->c.B=d.B->Z c.A=Z d.A:=λn k c d A C e=>by
   have t:=F j (BA.1 m).1;rw[Gn]at t;rw[m]at t;simp only at t;have q:=(BA.1 A).1;have:=EV.1 t k (nn q);rw[Mh]at this;rw[A]at this;simp only[JE]at this;have:=EV.1 this c C;rw[clash]at this;simp only[BM,DO,CV,not_and,ne_eq,Decidable.not_not]at this;exact this e
  let⟨n,s⟩:=CL u;by_cases D:i<j;refine f 0 n a b s (GK _ (EX.2 ⟨x,AY (i:=i) (gp),g⟩)) e;have:i=j:=L;subst this;rw[o]at m;cases m;let⟨k,q⟩:=CL g;obtain I|I|I:=KE k n;exact f 0 n a b s (LI _ (AY (i:=k) (gp))) e;subst I;rw[q]at s;cases s;rfl;exact (f 0 k b a q (LI _ (AY (i:=n) (gp))) e.symm).symm
 refine⟨λp=>Classical.epsilon λn=>∃x∈l,∃a∈Af x,a.B=p/\Z a.A=n,λx o a g=>?_⟩;let⟨y,m,b,u,v,e2⟩:=Classical.epsilon_spec (p:=λn=>∃x∈l,∃b∈Af x,b.B=a.B/\Z b.A=n) ⟨_,x,o,a,g,rfl,rfl⟩;let⟨i,B⟩:=CL o;let⟨j,z⟩:=CL m;grind
def Qw {l m}(h:LS l m)(u:∀x∈l,x.o->x.A=[])(s:∀x∈m,x.o->x.A=[])(n:(Co l).1=0):(Co m).1=0:=by
 let⟨q,p⟩:=zX n;have g:=h.symm;rw[Vl (l:=l) (ar:=q) (λy i a f=>?_) (λy i=>?_) n u s λy i=>?_];let⟨x,d,c⟩:=g.mem i;have o:(y.o=false/\a=y.h)\/a∈y.A:=by grind[Af]
 obtain⟨j,rfl⟩|o:=o;have:=p x d x.h (Ap (.inl ⟨c.o.symm.trans j,rfl⟩));rw[c.hl,this,c.B];obtain⟨b,k,-,e,e2⟩:=c.mem o;have:=p x d b (Ap (.inr k));rw[<-e2,this,e];let⟨x,d,c⟩:=g.mem i;exact c.sf▸Pw n d;let⟨x,d,c⟩:=g.mem i;refine⟨x,d,c.o.symm,c.B.symm,λa f=>?_⟩;obtain⟨b,k,t,e2,-⟩:=c.mem f;exact⟨b,k,e2,t⟩
def fM {l m}(h:LS l m):Z (Cr l)=Z (Cr m):=by
 obtain⟨e,rfl,rfl,h⟩:=h;unfold Cr;induction e with
 |nil=>rfl
 |cons p e b=>
  have d:=(h p nk).len;have c:=b λq a=>h q (ns a);simp only[CC,DN,AX];rw[d,c]
def SC {N N2 l m d b}(h:LS l d)(g:LS m b)(f:aW N l)(u:aW N m)(v:aW N2 d)(z:aW N2 b)(n:∀x∈m,x.o->x.A=[])(t:∀x∈b,x.o->x.A=[])(c:C5 N l m):C5 N2 d b:=by rw[C5]at c⊢;simp only[BM,FJ,DO]at c⊢;let⟨a,e,s⟩:=c;refine⟨?_,?_,Qw g n t s⟩;rw[Jk]at a⊢;simp only[BM,CV,CX]at a⊢;refine⟨g.len▸a.1,λy o=>?_,fM g▸a.2.2⟩;let⟨x,j,k⟩:=g.symm.mem o;exact k.bl▸a.2.1 x j;rw[Rr f u]at e;rw[Rr v z];exact λp q i=>g.rld (e p (g.symm.nmd q) (h.symm.rld i))
section
variable {N N2:ol} {ar ar2:Tx->Nat} {R R2:n0} {x x2:AB}
theorem RN (h:N8 N ar R x)(n:∀y∈R,XR y)(g:XR x){a}(d:LA R (x.A.map Cw) a):LA (R.map ren) ((ren x).A.map Cw) (rA (Is (C6 (Au x))) a)/\rA (Is (Ic (Au x))) (rA (Is (C6 (Au x))) a)=a:=by
 have j:∀y∈R,∀a,a=y.h\/a∈y.A->∀t∈a.A,VT t:=λy e a d t f=>by
  obtain rfl|d:=d;exact ((h.ru y e).vt t f).1;exact ((h.ru y e).vb a d t f).1
 have i:∀b∈x.A,∀t∈b.A,VT t:=λb c t f=>(h.x.vb b c t f).1;have k:∀a∈x.A.map Cw,rA (Is (C6 (Au x))) a∈(ren x).A.map Cw:=λa d=>by obtain⟨b,c,rfl⟩:=AN.1 d;rw[g.frz (Ap (.inr c)) (i b c)];exact AN.2 ⟨_,AN.2 ⟨b,c,rfl⟩,rfl⟩
 have m:∀a∈x.A.map Cw,rA (Is (Ic (Au x))) (rA (Is (C6 (Au x))) a)=a:=λa d=>by obtain⟨b,c,rfl⟩:=AN.1 d;rw[g.frz (Ap (.inr c)) (i b c),g.frz_back (Ap (.inr c)) (i b c)]
 exact⟨λS l=>d _ (vS j k ((iD n).2 l)),d (λa=>rA (Is (Ic (Au x))) (rA (Is (C6 (Au x))) a)=a) (vT (λy e=>j y e _ (.inl rfl)) (λy e=>(h.ru y e).safe) m)⟩
theorem RO (h:N8 N ar R x)(m:∀y∈R,XR y)(j:XR x){a}(e:LA (R.map ren) ((ren x).A.map Cw) a):LA R (x.A.map Cw) (rA (Is (Ic (Au x))) a)/\rA (Is (C6 (Au x))) (rA (Is (Ic (Au x))) a)=a:=by
 have l:∀y∈R,∀a,a=y.h\/a∈y.A->∀t∈a.A,VT t:=λy f a e t g=>by
  obtain rfl|e:=e;exact ((h.ru y f).vt t g).1;exact ((h.ru y f).vb a e t g).1
 have k:∀b∈x.A,∀t∈b.A,VT t:=λb d t g=>(h.x.vb b d t g).1;have n:∀a∈(ren x).A.map Cw,rA (Is (Ic (Au x))) a∈x.A.map Cw:=λa e=>by obtain⟨c,i,rfl⟩:=AN.1 e;obtain⟨b,d,rfl⟩:=AN.1 i;rw[j.frz_back (Ap (.inr d)) (k b d)];grind
 have p:∀a∈(ren x).A.map Cw,rA (Is (C6 (Au x))) (rA (Is (Ic (Au x))) a)=a:=λa e=>by obtain⟨c,i,rfl⟩:=AN.1 e;obtain⟨b,d,rfl⟩:=AN.1 i;rw[j.frz_back (Ap (.inr d)) (k b d),j.frz (Ap (.inr d)) (k b d)]
 exact⟨λS o=>e _ ((iD m).1 (vS l n o)),e (λa=>rA (Is (C6 (Au x))) (rA (Is (Ic (Au x))) a)=a) ((iD m).1 (vT (λy f=>l y f _ (.inl rfl)) (λy f=>(h.ru y f).safe) p))⟩
theorem YG (h:N8 N ar R x)(h2:N8 N2 ar2 R2 x2)(q:∀y∈R,XR y)(c:XR x)(v:∀y∈R2,XR y)(e:XR x2)(hR:R.map ren=R2.map ren)(j:ren x=ren x2){b s}
  (u:aD (R.map (Ed N)) (Fy N x) (Ed N x).h.p.toNat (C4 (Fx (Ed N x).h)) b) (k:aD (R2.map (Ed N2)) (Fy N2 x2) (Ed N2 x2).h.p.toNat (C4 (Fx (Ed N2 x2).h)) s):b=s:=by
 have i:∀{N:ol} {ar:Tx->Nat} {R:n0} {x:AB} (h:N8 N ar R x) (c:XR x),rA (Is (C6 (Au x))) (Cw x.h)=Cw (ren x).h/\rA (Is (Ic (Au x))) (Cw (ren x).h)=Cw x.h:=λh c=>
  ⟨c.frz (Ap (.inl ⟨c.o,rfl⟩)) λt n=>(h.x.vt t n).1,c.frz_back (Ap (.inl ⟨c.o,rfl⟩)) λt n=>(h.x.vt t n).1⟩
 refine ZM h h2 (f:=λa=>rA (Is (Ic (Au x2))) (rA (Is (C6 (Au x))) a)) (g:=λa=>rA (Is (Ic (Au x))) (rA (Is (C6 (Au x2))) a)) (λa o=>?_) (λa o=>?_) ?_ ?_ u k;let⟨d,p⟩:=RN h q c o;rw[hR,j]at d;let⟨l,m⟩:=RO h2 v e d;exact⟨l,gp⟩;let⟨d,p⟩:=RN h2 v e o;rw[<-hR,<-j]at d;let⟨l,m⟩:=RO h q c d;exact⟨l,gp⟩;rw[(i h c).1,j,(i h2 e).2];rw[(i h2 e).1,<-j,(i h c).2]
end
def MO (o b:Option n0):Prop:=(o=none/\b=none)\/∃m a,o=some m/\b=some a/\LS m a
def NR (l:n0)(q:Tx):Prop:=∃x∈l,x.o/\(x.h.B=q\/Way (Gs l) x.h.B q)
def Vq {N l M}(b:aW N l)(e:Dw N l M){q}(c:q∈N):Kr N (F9 (Z N) M (Z N)) l (N.idxOf q)↔NR l q:=by rw[Kr,NR];simp only[CU,BM,LF,CV];constructor;rintro⟨x,a,d,h⟩;refine⟨x,a,d,?_⟩;obtain h|h:=h;exact .inl (E9 (b x a).1 c h);exact .inr ((Mv b e (b x a).1 c).1 h);rintro⟨x,a,d,h⟩;refine⟨x,a,d,?_⟩;obtain rfl|h:=h;exact .inl rfl;exact .inr ((Mv b e (b x a).1 c).2 h)
section
variable {N N2:ol} {ar ar2:Tx->Nat} {l l2:n0} (h:LS l l2) (hR:BB N ar l) (hR2:BB N2 ar2 l2)
include h
theorem LS.way {p q}(w:Way (Gs l) p q):Way (Gs l2) p q:=w.map' λ_ _=>h.once
theorem LS.wnt {q}(w:NR l q):NR l2 q:=by let⟨x,c,b,w⟩:=w;let⟨y,d,a⟩:=h.mem c;refine⟨y,d,a.o.symm.trans b,?_⟩;rw[<-a.B];exact w.imp id λw=>h.way w
include hR hR2
theorem Zj {m a}(g:LS m a)(e:aW N m)(b:aW N2 a)(c:∀x∈m,x.o->x.A=[])(d:∀x∈a,x.o->x.A=[]):C5 N l m=C5 N2 l2 a:=
 GI.2 ⟨SC h g hR.nm e hR2.nm b c d,SC h.symm g.symm hR2.nm b hR.nm e d c⟩
theorem kq {o f}(e:KT N l o)(b:KT N2 l2 f):MO o f:=by
 let⟨M,s,e⟩:=e;let⟨i,n,b⟩:=b
 have c:LS (Hq N (F9 (Z N) M (Z N)) l) (Hq N2 (F9 (Z N2) i (Z N2)) l2):=h.filter λx y a p m=>GI.2 (by
  rw[Vq hR.nm s (hR.nm x a).1,Vq hR2.nm n (hR2.nm y p).1,m.B]
  exact⟨λw=>h.wnt w,λw=>h.symm.wnt w⟩)
 have j:=Zj h hR hR2 c (λx a=>hR.nm x (BP.1 a).1) (λx a=>hR2.nm x (BP.1 a).1) (λx a=>(hR.gl.msr x (BP.1 a).1).o) (λx a=>(hR2.gl.msr x (BP.1 a).1).o);have t:=c.len;have q:=h.len;generalize Hq N (F9 (Z N) M (Z N)) l=K at*
 generalize Hq N2 (F9 (Z N2) i (Z N2)) l2=z at*
 obtain⟨g,rfl⟩|⟨g,v⟩:=e;obtain⟨-,rfl⟩|⟨k,-⟩:=b;exact .inl ⟨rfl,rfl⟩;exact absurd L k;obtain⟨k,-⟩|⟨-,u⟩:=b;exact absurd L g;rcases v with⟨d,rfl⟩|⟨d,rfl⟩<;>obtain⟨e2,rfl⟩|⟨e2,rfl⟩:=u;exact .inl ⟨rfl,rfl⟩;rw[<-j,d]at e2;cases e2;rw[<-j,d]at e2;cases e2;exact .inr ⟨K,z,rfl,rfl,c⟩
end
def RF {p q:Nat->Nat->Bool}{D:Nat->Nat->Prop}(e:∀i k,D i k->p i k=q i k){i k d c}(l:D i k)(h2:D d c)(j:p i k)(f:q d c)(m:∀b a,D b a->b<i->p b a=false)(o:∀a,a<k->p i a=false)(n:∀b a,D b a->b<d->q b a=false)(g:∀a,a<c->q d a=false):i=d/\k=c:=gp
def dF {x}(g:XR x)(k){N:ol}(l:∀a∈x.A,a.B∈N)(c:∀a∈x.A,∀b∈x.A,a.B=b.B->Z a.A=Z b.A):Hj (ren x) k↔Hj x k:=by
 let⟨z,o,v⟩:=g.search (N:=N) (k:=k) l c
 let⟨y,j,A⟩:=P1 DJ N (ren x) k (λa f=>by
  obtain⟨b,i,rfl⟩:=AN.1 f;exact l b i) (λt d=>g.inO.ut _ (Ap (.inl ⟨g.o,rfl⟩)) t d) (λa f t d=>g.inO.ut _ (Ap (.inr f)) t d) (λa f b i e=>by
  obtain⟨m,n,rfl⟩:=AN.1 f;obtain⟨q,s,rfl⟩:=AN.1 i
  simpa[Br]using c m n q s e) λt d u p e=>DJ.inj t u d p e;grind
def fQ {N ar l}(m:BB N ar l){x}(j:x∈l)(i:x.o=false)(k):(IX N x k).isSome↔Db (C8 (ren x) k)/\Hj (ren x) k:=by
 have f:=m.ut j;have n:=m.xr j i;have p:=(m.nm x j).2;have b:=m.gl.ar x j;let⟨A,s,y⟩:=P1 DJ N x k p (λt g=>f _ (Ap (.inl ⟨i,rfl⟩)) t g) (λa c t g=>f _ (Ap (.inr c)) t g) b λt g u f e=>DJ.inj t u g f e;rw[dF n k p b,<-y];have B:Db (C8 (ren x) k)=Fi (C8 x k):=by
  have d:∀z:AB,(∀a∈Af z,∀t∈a.A,UT t)->z.o=false->Fi (C8 z k)=Db (C8 z k):=λz q v=>J8 (x:=C8 z k) λa c w o=>by
   have c:a=z.h\/a∈z.A.eraseIdx k:=by grind[Af,C8]
   obtain rfl|c:=c;exact Me (q _ (Ap (.inl ⟨v,rfl⟩)) w o);exact Me (q _ (Ap (.inr (EE c))) w o)
  rw[<-d (ren x) n.inO.ut i,n.safe k,d x f i]
 rw[B];rw[IX];rw[s];simp only[FU];rw[Mz];split;rename_i d;rw[NF];exact⟨λh=>⟨d,h⟩,λh=>h.2⟩;rename_i d;simp[d]
section
variable {N N2:ol} {ar ar2:Tx->Nat} {l l2:n0} (h:LS l l2) (hR:BB N ar l) (hR2:BB N2 ar2 l2)
theorem Nm {N l o}(b:aW N l)(a:aW N o)(i):aW N (rpl i o l):=λx c=>by obtain h|h:=Cy c;exact b x h;exact a x h
theorem Nl {N ar l o}(hR:BB N ar l)(b:∀z∈o,z.o=false)(i):∀x∈rpl i o l,x.o->x.A=[]:=λx c a=>by obtain h|h:=Cy c;exact (hR.gl.msr x h).o a;rw[b x h]at a;cases a
theorem SL (hR:BB N ar l)(hR2:BB N2 ar2 l2){x y}(c:x∈l)(v:y∈l2)(i:x.o=false)(t:y.o=false)(g:Sx x y)(k):Sx (C8 x k) (C8 y k):=by
 have one:∀{N:ol} {ar:Tx->Nat} {l:n0} (hR:BB N ar l) {x:AB} (c:x∈l) (d:x.o=false),Sx (C8 x k) (C8 (ren x) k):=λ{N ar l} hR {x} c d=>by
  have f:=hR.xr c d;have u:=hR.ut c;have g:∀a∈Af (C8 x k),a∈Af x:=λa b=>by
   have b:a=x.h\/a∈x.A.eraseIdx k:=by grind[Af,C8]
   obtain rfl|b:=b;exact Ap (.inl ⟨d,rfl⟩);exact Ap (.inr (EE b))
  have o:∀a∈Af (C8 (ren x) k),a∈Af (ren x):=λa b=>by
   have b:a=(ren x).h\/a∈(ren x).A.eraseIdx k:=by grind[Af,C8]
   obtain rfl|b:=b;exact Ap (.inl ⟨d,rfl⟩);exact Ap (.inr (EE b))
  have j:∀z:AB,Dc z->z.o=false->Dc (C8 z k):=λz n s=>by let⟨B,p,C,q⟩:=n.2.2 s;exact⟨n.1,(λe=>by cases e),λ_=>⟨B,p,BI (JF _ _) C,λa b=>q a (EE b)⟩⟩
  refine⟨(QT f k).symm,?_,?_⟩;rw[<-pW (j x (hR.wit x c) d) λa b=>u a (g a b),<-QT f k,pW (j (ren x) (Ky (hR.wit x c) (hR.wi x c)) d) λa b=>f.inO.ut a (o a b)];rw[<-J8 (x:=C8 (ren x) k) λa b w A=>Me (f.inO.ut a (o a b) w A),f.safe k]
 have D:=one hR c i;have m:=one hR2 v t;rw[<-g.rn]at m;exact D.trans m.symm
include h hR hR2
theorem rF {i x}(b:l[i]?=some x)(d:x.o=false)(k):eC N l i k=eC N2 l2 i k:=by
 let⟨y,o,j⟩:=h.get b;have e:=AY b;have g:=AY o;have n:=j.o.symm.trans d;have q:(IX N x k).isSome=(IX N2 y k).isSome:=GI.2 (by rw[fQ hR e d,fQ hR2 g n,j.rn]);have p:∀{N:ol} {l:n0} (f:aW N l) {x:AB} (b:x∈l),aW N [C8 x k]:=λ{N l} f {x} b=>by
  intro z c;simp at c;subst c;exact⟨(f x b).1,λa s=>(f x b).2 a (EE s)⟩
 have m:∀x:AB,∀z∈[C8 x k],z.o=false:=λx z c=>by simp at c;subst c;rfl
 have e2:=Zj h hR hR2 (h.rpl (LS.one (SL hR hR2 e g d n j k)) i) (Nm hR.nm (p hR.nm e) i) (Nm hR2.nm (p hR2.nm g) i) (Nl hR (m x) i) (Nl hR2 (m y) i);unfold eC;grind
theorem kw {o n}(c:KQ N l o)(s:KQ N2 l2 n):MO o n:=by
 have t:∀{i:Nat} {x:AB} {k:Nat},l[i]?=some x->k<Z x.A->x.o=false:=λ{i x k} a b=>by
  cases d:x.o
  ·rfl
  rw[(hR.gl.msr x (AY a)).o d]at b;cases b
 obtain⟨rfl,m⟩|⟨i,k,y,rfl,B,d,b,C,m,K⟩:=c;obtain⟨rfl,-⟩|⟨i,k,y,rfl,B,d,b,C,-⟩:=s;exact .inl ⟨rfl,rfl⟩;let⟨x,a,c⟩:=h.symm.get B;have F:=c.bl▸b
 rw[<-rF h hR hR2 a (t a F),m i x (BA.1 a).1 a k F]at C;cases C;obtain⟨rfl,v⟩|⟨R,S,T,rfl,E,I,P,G,Q,M⟩:=s;let⟨x,a,c⟩:=h.get B;rw[rF h hR hR2 B d,v i x (BA.1 a).1 a k (c.bl▸b)]at C;cases C;let⟨x2,e,u⟩:=h.symm.get E
 obtain⟨rfl,rfl⟩:=RF (p:=eC N l) (q:=eC N2 l2) (D:=λi k=>∃x,l[i]?=some x/\k<Z x.A) (λi k ⟨x,a,b⟩=>rF h hR hR2 a (t a b) k) ⟨y,B,b⟩ ⟨x2,e,u.bl▸P⟩ C G (λg f ⟨x,a,b⟩ j=>m g x j a f b) K (λg f ⟨x,a,b⟩ j=>by
  let⟨z,A,c⟩:=h.get a
  exact Q g z j A f (c.bl▸b)) M
 rw[B]at e;cases e;exact .inr ⟨_,_,rfl,rfl,h.rpl (LS.one (SL hR hR2 (AY B) (AY E) d I u.symm k)) i⟩
theorem im (i):LS (oth l i (Z l)) (oth l2 i (Z l2)):=by obtain⟨c,rfl,rfl,b⟩:=h;refine⟨(c.eraseIdx i).filter λp=>!p.1.o,?_,?_,λp a=>b p (EE (BP.1 a).1)⟩;rw[oth];rw[AS,Hz,filter_map];rfl;rw[oth];rw[AS,Hz,filter_map];congr 1;exact filter_congr λp a=>by simp only[Function.comp,(b p (EE a)).o]
theorem gN {i x y}(f:l[i]?=some x)(j:l2[i]?=some y)(d:x.o=false){b k}(p:gO N l i x b)(c:gO N2 l2 i y k):b=k:=by let⟨q,g,n⟩:=h.get f;rw[j]at g;cases g;have o:=AY f;have e:=AY j;have m:=n.o.symm.trans d;exact YG (ar:=ar) (ar2:=ar2) ⟨λz a=>hR.ru z (E8 a).1 (E8 a).2,hR.ru x o d⟩ ⟨λz a=>hR2.ru z (E8 a).1 (E8 a).2,hR2.ru y e m⟩ (λz a=>hR.xr (E8 a).1 (E8 a).2) (hR.xr o d) (λz a=>hR2.xr (E8 a).1 (E8 a).2) (hR2.xr e m) (im h hR hR2 i).ren n.rn p c
theorem Vi (i):C5 N l (rpl i [] l)=C5 N2 l2 (rpl i [] l2):=
 Zj h hR hR2 (h.rpl (LS.refl []) i) (Nm hR.nm (λx b=>gp) i) (Nm hR2.nm (λx b=>gp) i) (Nl hR (λz a=>gp) i) (Nl hR2 (λz a=>gp) i)
theorem ks {o p}(a:KS N l o)(n:KS N2 l2 p):MO o p:=by
 obtain⟨rfl,m⟩|⟨i,x,rfl,c,s,A,t,m⟩:=a;obtain⟨rfl,-⟩|⟨i,y,rfl,b,s,A,t,-⟩:=n;exact .inl ⟨rfl,rfl⟩;let⟨x,c,a⟩:=h.symm.get b;have d:=a.o.symm.trans s;have:=gN h hR hR2 c b d (m i x (BA.1 c).1 c d (by grind[Vi])) t;cases this;obtain⟨rfl,k⟩|⟨j,y,rfl,b,u,B,v,k⟩:=n;let⟨y,b,a⟩:=h.get c;have:=gN h hR hR2 c b s t (k i y (BA.1 b).1 b (a.o.symm.trans s) (by grind[Vi]));cases this;have e:i=j:=by
  obtain g|g|g:=KE i j;let⟨z,f,a⟩:=h.get c;have:=gN h hR hR2 c f s t (k i z g f (a.o.symm.trans s) (by grind[Vi]));cases this;exact g;let⟨z,f,a⟩:=h.symm.get b;have q:=a.o.symm.trans u;have:=gN h hR hR2 f b q (m j z g f q (by grind[Vi])) v;cases this
 subst e;exact .inr ⟨_,_,rfl,rfl,h.rpl (LS.refl []) i⟩
end
def SY {N N2 ar ar2 l b}(d:BB N ar l)(a:BB N2 ar2 b){x y}(e:x∈l)(c:y∈b)(f:Sx x y):Bw x=Bw y:=by rw[Kq (d.wit x e),Kq (a.wit y c),f.rn]
def Va {l n q y}(a:y∈E5 l n q):y∈l:=by obtain⟨c,b,rfl⟩:=AN.1 a;grind
section
variable {N N2:ol} {ar ar2:Tx->Nat} {l l2:n0} (h:LS l l2) (hR:BB N ar l) (hR2:BB N2 ar2 l2)
include h hR hR2
theorem TF {x y}(M:x∈l)(i:y∈l2)(g:x.o=false)(u:Sx x y)(k q):uL N l x k q=uL N2 l2 y k q:=by
 have e:∀(N:ol) (l:n0) (x:AB),uL N l x k q=(l.filter (Fw q)).filterMap λz=>(Kt N x k z).map (Cz N):=λN l x=>by grind[uL,Lo]
 rw[e,e];have I:=u.o.symm.trans g
 have A:∀{z w:AB},w∈l2->Sx z w->z.h.B∈N2/\∀a∈z.A,a.B∈N2:=λ{z w} d j=>⟨by rw[j.B];exact (hR2.nm w d).1,λa E=>by
  obtain⟨b,P,-,e,-⟩:=j.mem E
  rw[<-e];exact (hR2.nm w d).2 b P⟩
 have m:∀z w,z∈l->w∈l2->z.o=false->Sx z w->(Kt N x k z).map (Cz N)=(Kt N2 y k w).map (Cz N2):=λz w t d B j=>by
  have D:=j.o.symm.trans B;rw[tQ (N:=N) (N2:=N2) (hR.xr M g) (hR.xr t B) (hR.ut M) (hR.ut t) (hR.nm x M) (hR.nm z t).2 (A i u) (A d j).2,tQ (N:=N2) (N2:=N2) (hR2.xr i I) (hR2.xr d D) (hR2.ut i) (hR2.ut d) (hR2.nm y i) (hR2.nm w d).2 (hR2.nm y i) (hR2.nm w d).2,u.rn,j.rn]
 obtain⟨K,rfl,rfl,v⟩:=h;clear M i;have n:∀p∈K,p.1∈K.map (·.1):=λp c=>AN.2 ⟨p,c,rfl⟩;have C:∀p∈K,p.2∈K.map (·.2):=λp c=>AN.2 ⟨p,c,rfl⟩;have o:∀p∈K,p.1.o=false->(Kt N x k p.1).map (Cz N)=(Kt N2 y k p.2).map (Cz N2):=λp c g=>m _ _ (n p c) (C p c) g (v p c);clear n C hR hR2 A m;induction K with
 |nil=>rfl
 |cons p K s=>
  have s:=s (λq f=>v q (gp)) λq f=>o q (gp);have c:=v p nk;have G:Fw q p.1=Fw q p.2:=by unfold Fw;rw[c.o,c.B]
  simp only[CC,filter_cons];rw[<-G];cases f:Fw q p.1
  ·exact s
  have g:p.1.o=false:=by grind[Fw]
  have F:=o p nk g;simp only[if_true];rw[filterMap_cons,filterMap_cons,F,s]
theorem ir {M M2}(Q:Dw N l M)(B:Dw N2 l2 M2){i k x a}(f:l[i]?=some x)(g:x.o=false)(j:x.A[k]?=some a):Tg N (F9 (Z N) M (Z N)) l i k=Tg N2 (F9 (Z N2) M2 (Z N2)) l2 i k:=by
 let⟨y,s,m⟩:=h.get f;obtain⟨b,u,C,e2,-⟩:=m.lit j;have n:=AY f;have p:=AY s;have P:=(hR.nm x n).2 a (AY j);have o:=(hR2.nm y p).2 b (AY u);have D:y.o=false:=m.o.symm.trans g
 have E:F9 (Z N) M (Z N) (N.idxOf a.B) (N.idxOf a.B)=F9 (Z N2) M2 (Z N2) (N2.idxOf b.B) (N2.idxOf b.B):=GI.2 (by
  rw[Mv hR.nm Q P P,Mv hR2.nm B o o,e2]
  exact⟨λw=>h.way w,λw=>h.symm.way w⟩)
 have v:Dr N l (N.idxOf a.B)=Dr N2 l2 (N2.idxOf b.B):=GI.2 (by
  rw[Lu (λx f=>(hR.nm x f).1) P,Lu (λx f=>(hR2.nm x f).1) o,e2]
  exact⟨λw=>h.rld w,λw=>h.symm.rld w⟩)
 have t:∀{N:ol} {ar:Tx->Nat} {l:n0} (hR:BB N ar l) {x:AB} (f:x∈l) (g:x.o=false) (q:Tx),aW N (uL N l x k q):=λ{N ar l} hR {x} f g q=>by intro z F;let⟨A,R⟩:=jD hR f g F;refine⟨A▸(hR.nm x f).1,λc I=>?_⟩;let⟨w,T,d,K,e⟩:=R c I;exact e▸(hR.nm w T).2 d K
 have G:C5 N l (rpl i (uL N l x k a.B) l)=C5 N2 l2 (rpl i (uL N2 l2 y k b.B) l2):=by have S:=TF h hR hR2 n p g m k a.B;rw[e2];refine Zj h hR hR2 (h.rpl (S▸LS.refl _) i) (Nm hR.nm (t hR n g _) i) (Nm hR2.nm (t hR2 p D _) i) (Nl hR QF i) (Nl hR2 QF i)
 unfold Tg;rw[f,s];simp only;rw[j,u];simp only;rw[C,E,v,G]
theorem kl {o A}(f:KU N l o)(j:KU N2 l2 A):MO o A:=by
 let⟨M,I,f⟩:=f;let⟨C,K,j⟩:=j;have G:∀{N:ol} {ar:Tx->Nat} {l:n0} (hR:BB N ar l) {i:Nat} {x:AB} {k:Nat},l[i]?=some x->k<Z x.A->x.o=false:=λ{N ar l} hR {i x k} c d=>by
  cases g:x.o
  ·rfl
  rw[(hR.gl.msr x (AY c)).o g]at d;cases d
 have t:∀{i k:Nat} {x:AB},l[i]?=some x->k<Z x.A->Tg N (F9 (Z N) M (Z N)) l i k=Tg N2 (F9 (Z N2) C (Z N2)) l2 i k:=λ{i k x} c d=>ir h hR hR2 I K c (G hR c d) (AK d);obtain⟨rfl,u⟩|⟨i,k,y,a,rfl,b,g,z,e,u,ak⟩:=f;obtain⟨rfl,-⟩|⟨i,k,y,a,rfl,b,g,z,e,-⟩:=j;exact .inl ⟨rfl,rfl⟩;let⟨x,c,f⟩:=h.symm.get b;have B:=f.bl▸(BA.1 z).1
 rw[<-t c B,u i x (BA.1 c).1 c k B]at e;cases e;have d:=(BA.1 z).1;obtain⟨rfl,F⟩|⟨i2,k2,y2,a2,rfl,Q,au,R,U,hm,an⟩:=j;let⟨x,c,f⟩:=h.get b;rw[t b d,F i x (BA.1 c).1 c k (f.bl▸d)]at e;cases e;have T:=(BA.1 R).1;let⟨x2,n,v⟩:=h.symm.get Q
 obtain⟨rfl,rfl⟩:=RF (p:=Tg N (F9 (Z N) M (Z N)) l) (q:=Tg N2 (F9 (Z N2) C (Z N2)) l2) (D:=λi k=>∃x,l[i]?=some x/\k<Z x.A) (λi k ⟨x,c,d⟩=>t c d) ⟨y,b,d⟩ ⟨x2,n,v.bl▸T⟩ e U (λP m ⟨x,c,d⟩ s=>u P x s c m d) ak (λP m ⟨x,c,d⟩ s=>by
  let⟨a1,S,f⟩:=h.get c
  exact hm P a1 s S m (f.bl▸d)) an
 rw[b]at n;cases n;obtain⟨a3,E,-,a0,-⟩:=v.symm.lit z;rw[R]at E;cases E;refine .inr ⟨_,_,rfl,rfl,h.rpl ?_ i⟩;rw[a0,TF h hR hR2 (AY b) (AY Q) g v.symm k a.B];exact LS.refl _
theorem iv (n q):LS (E5 l n q) (E5 l2 n q):=by
 obtain⟨e,rfl,rfl,b⟩:=h;refine⟨(e.zipIdx.filter λp=>Ik n q (p.1.1,p.2)).map (·.1),?_,?_,λp a=>?_⟩;rw[E5];rw[zipIdx_map,filter_map,BH,BH];rfl;rw[E5];rw[zipIdx_map,filter_map,BH,BH];have:e.zipIdx.filter (Ik n q∘Prod.map (·.2) id)=e.zipIdx.filter λp=>Ik n q (p.1.1,p.2):=filter_congr λp a=>by
  have c:=b p.1 (LB a);simp only[Function.comp,Prod.map,id,Ik,Fw];rw[c.o,c.B]
 rw[this];rfl;obtain⟨f,d,rfl⟩:=AN.1 a;exact b _ (LB (BP.1 d).1)
theorem gw {x y}(i:x∈l)(m:y∈l2)(d:Sx x y):Jf x=Jf y/\(match x.A with|[a]=>some a.B|_=>none)=(match y.A with|[a]=>some a.B|_=>none):=by
 have p:=d.bl;have n:=SY hR hR2 i m d;have o:=d.B;have g:=λj a=>@Sx.lit x y d j a;unfold Jf;rw[n,o];generalize x.A=k at*
 generalize y.A=q at*
 match k,q,p with
 |[],[],_=>exact⟨rfl,rfl⟩
 |[a],[b],_=>
  obtain⟨c,f,-,e,-⟩:=g 0 a rfl;have:b=c:=nn f;subst this;simp only;rw[e];exact⟨rfl,rfl⟩
 |_::_::_,_::_::_,_=>exact⟨rfl,rfl⟩
theorem Wy (n q):Ez l n q=Ez l2 n q:=by
 have a:=iv h hR hR2 n q;have b:=λy=>@Va l n q y;have e:=λy=>@Va l2 n q y;unfold Ez;generalize E5 l n q=A at*
 generalize E5 l2 n q=B at*
 match A,B,a.len,a with
 |[],[],_,_=>rfl
 |[x],[y],_,a=>
  let⟨z,d,c⟩:=a.get (i:=0) rfl;have:y=z:=nn d;subst this;obtain⟨f,e2⟩:=gw h hR hR2 (b x nk) (e y nk) c;simp only;rw[f];split;exact e2;rfl
 |_::_::_,_::_::_,_,_=>rfl
theorem gD {i x}(g:l[i]?=some x):Yk N l i=Yk N2 l2 i:=by
 obtain⟨y,n,f⟩:=h.get g;have j:=AY g;have q:=AY n;unfold Yk;rw[g,n];simp only;have s:Lj x=Lj y:=by unfold Lj;rw[SY hR hR2 j q f,f.B]
 rw[s,<-Wy h hR hR2,<-f.B];congr 1;cases d:Ez l i x.h.B with
 |none=>rfl
 |some e=>
  simp only;have m:∀{N:ol} {l:n0},aW N l->Ez l i x.h.B=some e->x.h.B∈N->aW N [Cn x.h.B e]:=λ{N l} v A p=>by
   intro z c;simp at c;subst c;obtain⟨w,u,b,t,rfl⟩:=VB A;have d:=(v w u).2 b t
   exact⟨p,λa o=>by
    simp only[Cn,BD,EK,DZ]at o;grind⟩
  have k:∀z∈[Cn x.h.B e],z.o=false:=λz c=>by simp at c;subst c;rfl
  exact Zj h hR hR2 (h.rpl (LS.refl _) i) (Nm hR.nm (m hR.nm d (hR.nm x j).1) i) (Nm hR2.nm (m hR2.nm (by grind[Wy]) (f.B▸(hR2.nm y q).1)) i) (Nl hR k i) (Nl hR2 k i)
theorem ku {o m}(b:KR N l o)(k:KR N2 l2 m):MO o m:=by
 obtain⟨rfl,f⟩|⟨i,x,e,rfl,a,-,v,s,f⟩:=b;obtain⟨rfl,-⟩|⟨i,y,e,rfl,c,-,v,s,-⟩:=k;exact .inl ⟨rfl,rfl⟩;let⟨x,a,b⟩:=h.symm.get c;rw[<-gD h hR hR2 a,f i (BA.1 a).1]at s;cases s;obtain⟨rfl,d⟩|⟨j,y,e2,rfl,c,-,u,t,d⟩:=k;let⟨y,c,b⟩:=h.get a;rw[gD h hR hR2 a,d i (BA.1 c).1]at s;cases s;have p:i=j:=by
  obtain g|g|g:=KE i j;rw[gD h hR hR2 a,d i g]at s;cases s;exact g;obtain⟨z,q,-⟩:=h.symm.get c;rw[<-gD h hR hR2 q,f j g]at t;cases t
 subst p;let⟨A,n,b⟩:=h.get a;rw[c]at n;cases n;rw[<-Wy h hR hR2,<-b.B,v]at u;cases u;refine .inr ⟨_,_,rfl,rfl,h.rpl ?_ i⟩;exact b.B▸LS.refl _
theorem TM {c o d}(b:FQ N c l o)(a:FQ N2 c l2 d):MO o d:=by
 rcases b with⟨rfl,b⟩|⟨rfl,b⟩|⟨rfl,b⟩|⟨rfl,b⟩|⟨rfl,b⟩<;>rcases a with⟨e,a⟩|⟨e,a⟩|⟨e,a⟩|⟨e,a⟩|⟨e,a⟩<;>first|cases e;done|skip
 exact kq h hR hR2 b a;exact kw h hR hR2 b a;exact ks h hR hR2 b a;exact kl h hR hR2 b a;exact ku h hR hR2 b a
end
def LS.mk {l m}(c:Z l=Z m)(h:∀(i:Nat) (x y:AB),l[i]?=some x->m[i]?=some y->Sx x y):LS l m:=
 ⟨l.zip m,by rw[map_fst_zip L],by rw[map_snd_zip L],λp b=>by
  let⟨i,a⟩:=CL b;rw[getElem?_zip_eq_some]at a;grind⟩
def LS.trans {l m k}(h:LS l m)(g:LS m k):LS l k:=LS.mk (h.len.trans g.len) λi x z b d=>by let⟨y,c,f⟩:=h.get b;let⟨w,a,e⟩:=g.get c;rw[d]at a;cases a;exact f.trans e
def GR (T:n0->Option n0->Prop):Nat->n0->n0->Prop
 |0,l,a=>a=l
 |k+1,l,a=>∃b,T l (some b)/\GR T k b a
def GR.snoc {T}:∀{k:Nat} {l a b:n0},GR T k l a->T a (some b)->GR T (k+1) l b
 |0,_,_,_,e,h=>by cases e;exact⟨_,h,rfl⟩
 |k+1,_,_,_,⟨m,d,c⟩,h=>⟨m,d,c.snoc h⟩
def FH.stps {T b m a l c}(h:FH T b l m c a):∃k:Nat,a=m+k/\GR T k l c/\(0<k->a<=b):=by
 induction h with
 |refl=>exact⟨0,L,rfl,L⟩
 |snoc _ g f d=>
  obtain⟨k,e,h,-⟩:=d;exact⟨k+1,L,h.snoc f,L⟩
def Ly (p:Tx)(x:AB):Bool:=x.h.B==p||x.A.any λa=>a.B==p
def lK (l cs B p)(A:r AJ l cs)(I:Z l<=1000)(C:∀x∈l,x.fits)(k):ni 200 [sl B (Z l) cs,O p] k λm σ'=>m=my (l.any (Ly p))/\W k σ':=by
 have G:=r.length Cf A;refine wl func200 ?_;refine X ?_
 refine wn [0,1] 5 (Z l) (λi s σ'=>W k σ'/\V ((l.take i).any (Ly p)=false)) ⟨W.refl _,by simp[V]⟩ ?_
 rintro i s σ' _ _ _ ⟨j,n⟩;have F:=j.B;by_cases y:i<Z l;have c:V (l[i]?=some l[i]):=AK y;let⟨u,id,b,m,z,D⟩:=Cv A c.o;have v:=C l[i] (AR y);generalize l[i]=x at c z D v;have e:=λk=>Yp x p _ (AJ.of (ih:=u) (id:=id) z) (ny v.1) k;rw[A4]at e;have f:V (Ly p x->l.any (Ly p)):=λh=>D4 _ c.o h;have o:V (Ly p x=false->(l.take (i+1)).any (Ly p)=false):=λh=>by rw[any_take_succ _ c.o,n.o,h];rfl
 clear n;by_cases g:x.h.B=p;have q:(x.h.B==p):=nn g;have d:V (l.any (Ly p)):=f.o (by rw[Ly];rw[q];rfl);clear f o c e g;refine X ?_
 first|exact⟨_,rfl,by rw[d.o],j⟩|exact⟨_,rfl,by rw[d.o]⟩
 have q:(x.h.B==p)=false:=nn g;cases e2:x.A.any λa=>a.B==p
 ·have d:V ((l.take (i+1)).any (Ly p)=false):=o.o (by rw[Ly];rw[q,e2];rfl);rw[e2]at e;clear f o c g e2;refine mt e ?_;rintro yb ya _ _ ⟨rfl,t⟩;refine X ?_;skip;exact nf d (j.trans t)
 have d:V (l.any (Ly p)):=f.o (by rw[Ly];rw[q,e2];rfl);rw[e2]at e;clear f o c g e2;refine mt e ?_;rintro yb ya _ _ ⟨rfl,t⟩;refine X ?_
 first|exact⟨_,rfl,by rw[d.o],j.trans t⟩|exact⟨_,rfl,by rw[d.o]⟩
 obtain rfl:i=Z l:=L;rw[AS]at n;refine X ?_
 first|exact⟨_,rfl,by rw[n.o],j⟩|exact⟨_,rfl,by rw[n.o]⟩
def Mt (l:n0)(p:Tx)(x:AB):Bool:=x.o&&(x.h.B==p||J2 l x.h.B p)
def fS (l cs v p)(t:r AJ l cs)(z:Z l<=16)(A:∀x∈l,x.fits)(k):ni 163 [sl v (Z l) cs,O p] k λK σ'=>K=my (l.any (Mt l p))/\W k σ':=by
 have F:=r.length Cf t;refine wl func163 ?_;refine X ?_
 refine Ae (λm s σ'=>∃i:Nat,m=Z l-i/\i<=Z l/\s 0=sl v (Z l) cs/\s 1=O p/\s 5=Y i/\W k σ'/\V ((l.take i).any (Mt l p)=false)) (Z l)
  ⟨0,L,L,by simp[upd,AL],by simp[upd,AL],AG,W.refl _,by simp[V]⟩ ?_
 rintro m s σ' ⟨i,rfl,N,I,M,D,j,n⟩;have G:=j.B;by_cases y:i<Z l;have c:V (l[i]?=some l[i]):=AK y;let⟨E,id,b,K,C,B⟩:=Cv t c.o;generalize l[i]=x at c C B;have f:=λk=>Sy l cs v x.h.B p t z A k;have d:V (Mt l p x->l.any (Mt l p)=true):=λh=>D4 _ c.o h;have e:V (Mt l p x=false->(l.take (i+1)).any (Mt l p)=false):=λh=>by rw[any_take_succ _ c.o,n.o,h];rfl
 clear n;cases o:x.o with
 |false=>
  have a:V ((l.take (i+1)).any (Mt l p)=false):=e.o (by rw[Mt];rw[o];rfl);clear d e c f;refine X ?_;refine⟨Z l-(i+1),L,i+1,?_⟩;exact m9 a
 |true=>
  by_cases g:x.h.B=p;have q:(x.h.B==p):=nn g;have a:V (l.any (Mt l p)):=d.o (by rw[Mt];rw[o,q];rfl);clear d e c f g;refine X ?_
  first|exact⟨_,rfl,by rw[a.o],j⟩|exact⟨_,rfl,by rw[a.o]⟩
  have q:(x.h.B==p)=false:=nn g;cases e2:J2 l x.h.B p with
  |true=>
   have a:V (l.any (Mt l p)):=d.o (by rw[Mt];rw[o,q,e2];rfl);rw[e2]at f;clear d e c g e2;refine mt f ?_;rintro yb ya _ _ ⟨rfl,u⟩;refine X ?_
   first|exact⟨_,rfl,by rw[a.o],j.trans u⟩|exact⟨_,rfl,by rw[a.o]⟩
  |false=>
   have a:V ((l.take (i+1)).any (Mt l p)=false):=e.o (by rw[Mt];rw[o,q,e2];rfl);rw[e2]at f;clear d e c g e2;refine mt f ?_;rintro yb ya _ _ ⟨rfl,u⟩;refine X ?_;refine⟨Z l-(i+1),L,i+1,?_⟩;exact nf a (j.trans u)
 obtain rfl:i=Z l:=L;rw[AS]at n;refine X ?_
 first|exact⟨_,rfl,by rw[n.o],j⟩|exact⟨_,rfl,by rw[n.o]⟩
theorem I4 {α:Type}{n}{o l:List α}(q:n<Z l):rpl n o l=l.take n++o++l.drop (n+1):=by
 have c:∀(l:List α) (k n:Nat) (o:List α),k<=n->n<k+Z l->(l.zipIdx k).flatMap (λp=>if p.2=n then o else [p.1])=l.take (n-k)++o++l.drop (n-k+1):=λl=>by
  induction l with
  |nil=>intro k n o i f;simp at f;omega
  |cons a l g=>
   intro k n o i f;rw[zipIdx_cons,DN];by_cases e:k=n;subst e;simp only[if_true,GX,take_zero,FE,drop_succ_cons,JH];congr 1;have:∀(l:List α) (j:Nat),k<j->(l.zipIdx j).flatMap (λp=>if p.2=k then o else [p.1])=l:=λl=>by
    induction l with
    |nil=>intro j _;rfl
    |cons b l d=>
     intro j m;rw[zipIdx_cons,DN,d (j+1) L];simp only;rw[if_neg L];rfl
   exact this l (k+1) L;simp only;rw[if_neg e,g (k+1) n o L (gp)];have e2:n-k=(n-(k+1))+1:=L;rw[e2];simp
 have:=c l 0 n o (Nat.zero_le _) L;simpa[rpl]using this
def G7 (l o cs co a2 ido n)(I:r AJ l cs)(C:r AJ o co)(hl:Z l<=1000)(ho:Z o<=1000)(a7:n<Z l)(m):
  ni 165 [sl a2 (Z l) cs,Y n,sl ido (Z o) co] m λa8 σ'=>∃id U,a8=sl id (Z (rpl n o l)) U/\r AJ (rpl n o l) U/\W m σ':=by
 have az:=r.length Cf I;have ax:=r.length Cf C;rw[I4 a7];refine wl func165 ?_;refine X ?_
 refine wn [0,1,2] 8 n (λi s σ'=>∃(b:Nat) (a:oh),s 7=sl b i a/\W m σ'/\J m σ' b i/\Z a=i*5/\V (r AJ (l.take i) a)) ⟨1,[],AG,W.refl _,J.nil _ _,rfl,by simp[V,r]⟩ ?_
 rintro i s σ' _ ⟨B,G,F⟩ a5 ⟨b,a,z,t,x,v,c⟩;have N:=t.B;by_cases A:i<n
 ·have e:=AK (show i<Z l by omega);let⟨d,f,g,S,u,D⟩:=Cv I e;generalize l[i]=y at e u D;have q:V (r AJ (l.take (i+1)) (a++(ko y d f g))):=by rw[V,AT,e];exact r.append c.o (r.single ⟨[my y.h.nt,O y.h.B,lw d y.h.A],f,g,⟨d,rfl⟩,u,rfl⟩)
  clear e c;refine m5 ?_;intro yb ya;intro p E a1 K M R P Q;refine X ?_;refine⟨p,a++(ko y d f g),?_⟩;exact m9 q
 obtain rfl:i=n:=L;refine X ?_
 refine wn [0,1,2] 9 (Z o) (λj s σ'=>∃(b:Nat) (a:oh),s 7=sl b (i+j) a/\W m σ'/\J m σ' b (i+j)/\Z a=(i+j)*5/\V (r AJ (l.take i++o.take j) a)) ⟨b,a,by simp[upd,z],t,x,v,by simpa[V]using c.o⟩ ?_
 clear B G F z a5 t x v c a b N A;rintro j s σ' _ ⟨B,G,F⟩ a9 ⟨b,a,z,t,x,v,c⟩;have N:=t.B;by_cases A:j<Z o
 ·obtain⟨y,e⟩:=gq A;let⟨d,f,g,S,u,D⟩:=Cv C e;have q:V (r AJ (l.take i++o.take (j+1)) (a++(ko y d f g))):=by rw[V,AT,e,<-CR];exact r.append c.o (r.single ⟨[my y.h.nt,O y.h.B,lw d y.h.A],f,g,⟨d,rfl⟩,u,rfl⟩)
  clear e c;refine m5 ?_;intro yb ya;intro p E a1 K M R P Q;refine X ?_;refine⟨p,a++(ko y d f g),?_⟩;exact m9 q
 obtain rfl:j=Z o:=L;rw[AS]at c;refine X ?_
 refine Ae (λa3 s σ'=>∃(k b:Nat) (a:oh),a3=Z l-k/\i+1<=k/\k<=Z l/\s 0=sl a2 (Z l) cs/\s 7=sl b (i+Z o+(k-(i+1))) a/\s 10=Y k/\W m σ'/\J m σ' b (i+Z o+(k-(i+1)))/\Z a=(i+Z o+(k-(i+1)))*5/\V (r AJ (l.take i++o++(l.drop (i+1)).take (k-(i+1))) a)) (Z l-(i+1))
  ⟨i+1,b,a,L,L,L,by simp[upd,B],by simp[upd,z],AG,t,nn x,nn v,by simpa[V]using c.o⟩ ?_
 rintro a3 s σ' ⟨k,b,a,rfl,ay,hk,B,z,a0,t,x,v,c⟩;have N:=t.B;by_cases A:k<Z l
 ·obtain⟨y,e⟩:=gq A;let⟨d,f,g,S,u,D⟩:=Cv I e;have a4:k+1-(i+1)=(k-(i+1))+1:=L;have q:V (r AJ (l.take i++o++(l.drop (i+1)).take (k+1-(i+1))) (a++(ko y d f g))):=by rw[V,a4,AT,IJ,show i+1+(k-(i+1))=k by omega,e,<-CR];exact r.append c.o (r.single ⟨[my y.h.nt,O y.h.B,lw d y.h.A],f,g,⟨d,rfl⟩,u,rfl⟩)
  have T:V (i+Z o+(k+1-(i+1))=i+Z o+(k-(i+1))+1):=by rw[V];omega
  have a6:i+Z o+(k-(i+1))<=3000:=L;generalize i+Z o+(k-(i+1))=w at v x z T a6;refine m5 ?_;intro yb ya;intro p E a1 K M R P Q;refine X ?_;refine⟨Z l-(k+1),L,k+1,p,a++(ko y d f g),?_⟩;rw[T.o]
  ((repeat' refine Zi ?_ ?_)<;>first|exact Xq|exact q|exact (by rw[AX];simp;omega)|exact Xs)
 obtain rfl:k=Z l:=L
 have q:V (r AJ (l.take i++o++l.drop (i+1)) a/\i+Z o+(Z l-(i+1))=Z (l.take i++o++l.drop (i+1))):=⟨by
  have:=c.o;rw[FZ (l:=l.drop (i+1)) (by rw[length_drop];omega)]at this
  exact this,by simp only[AX,CN,length_drop];omega⟩
 refine X ?_
 exact⟨_,rfl,b,a,by rw[q.o.2],q.o.1⟩
end Go.Proofs.YtmoeoppbmhfbpabGreatDoorJ
