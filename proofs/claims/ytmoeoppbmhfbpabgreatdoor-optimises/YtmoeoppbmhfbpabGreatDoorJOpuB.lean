import Derived.Test.YtmoeoppbmhfbpabGreatDoorJLinA
import Derived.Test.YtmoeoppbmhfbpabGreatDoorJEngV
import Derived.Test.YtmoeoppbmhfbpabGreatDoorJPrtP
import Derived.Test.YtmoeoppbmhfbpabGreatDoorJAgrB
import Derived.Test.YtmoeoppbmhfbpabGreatDoorJOptE
import Derived.Test.YtmoeoppbmhfbpabGreatDoorJSpaB
import Derived.KernelRfl
set_option maxHeartbeats 64000000
set_option maxRecDepth 100000
set_option linter.all false
open List renaming length->Z
namespace Go.Proofs.YtmoeoppbmhfbpabGreatDoorJ
open Go.Abs
def Ho (c:UInt8):Bool:=decide (c=115\/c=97\/c=114\/c=117\/c=108)
def nQ (c σ):ni 72 [sc (.int .u8 c.toNat)] σ λr σ'=>r=my (Ho c)/\σ'=σ:=by
 have a:∀(k:UInt8) (n:Int),n=(k.toNat:Int)->((c.toNat:Int)==n)=decide (c=k):=λk n e=>by rw[e];exact ZN
 have l:=a 115 115 rfl;have e2:=a 97 97 rfl;have m:=a 114 114 rfl;have o:=a 117 117 rfl;have f:=a 108 108 rfl;have d:Ho c=(decide (c=115)||(decide (c=97)||(decide (c=114)||(decide (c=117)||decide (c=108))))):=by
  unfold Ho;simp only[Bool.decide_or]
 have b:AC _:=d;clear a d;generalize decide (c=115)=q at l b;generalize decide (c=97)=i at e2 b;generalize decide (c=114)=p at m b;generalize decide (c=117)=g at o b;generalize decide (c=108)=j at f b;cases q<;>cases i<;>cases p<;>cases g<;>cases j
 all_goals
  refine Z9 10 [.tmp 2] Tryz.func72 ?_
  repeat' first|refine Z1 ?_|refine Z8 λyb ya=>?_|refine Z4 ?_;clear ya yb|refine Z2 ?_ ?_<;>intro h s<;>try exact Xp|refine Z3 ?_|exact Zt|apply ya.o;clear ya yb
  exact⟨_,rfl,by rw[b.o];rfl⟩
def Dd (t:Tx):Bool:=decide (Z t<=8)&&t.all Ho
def Zw (t f):ni 38 [str t] f λr σ'=>r=my (Dd t)/\σ'=f:=by
 have e:=λc f=>nQ c f;by_cases u:8<Z t;have q:decide ((8:Int)<(Z t:Int))=true:=by simp;omega
 have g:AC (Dd t=false):=by rw[AC,Dd,KF AA];rfl
 refine Z9 18 [.tmp 2] Tryz.func38 ?_;refine mr ?_;exact⟨_,rfl,by rw[g.o]⟩;have q:decide ((8:Int)<(Z t:Int))=false:=by simp;omega
 refine Z9 18 [.tmp 2] Tryz.func38 ?_;refine mr ?_
 refine Ae (λm s σ'=>∃i:Nat,m=Z t-i/\i<=Z t/\s 0=str t/\s 3=ic i/\σ'=f/\AC (∀c∈t.take i,Ho c=true)) (Z t)
  ⟨0,AA,AA,rfl,rfl,rfl,by simp[AC]⟩ ?_
 rintro m s σ' ⟨i,rfl,x,v,y,p,j⟩;by_cases o:i<Z t;have k:=AK o;generalize t[i]=c at k;have e:=e c;cases a:Ho c with
 |true=>
  rw[a]at e;have n:AC (∀c∈t.take (i+1),Ho c=true):=by
   rw[AC,AT,k,BN];intro d b;rcases AW.1 b with b|b;exact j.o d b;simp at b;subst b;exact a
  clear j a;refine m0 ?_;intro yb ya;refine Xi (e _) ?_;rintro _ _ ⟨rfl,rfl⟩;refine mr ?_;refine⟨Z t-(i+1),AA,i+1,?_⟩;exact m9 n
 |false=>
  rw[a]at e;have g:AC (Dd t=false):=by
   have:t.all Ho=false:=IQ.2 ⟨c,AY k,by simp[a]⟩;rw[AC,Dd,this];simp
  clear j a;refine m0 ?_;intro yb ya;refine Xi (e _) ?_;rintro _ _ ⟨rfl,rfl⟩;refine mr ?_;exact⟨_,rfl,by rw[g.o]⟩
 have l:i=Z t:=AA;have g:AC (Dd t=true):=by
  have:=j.o;rw[l,AS]at this;rw[AC,Dd,LJ AA,CX.2 this];rfl
 clear j;refine mr ?_;exact⟨_,rfl,by rw[g.o]⟩
inductive FH (T:n0->Option n0->Prop)(b:Int)(l:n0)(m:Int):n0->Int->Prop where
 |refl:FH T b l m l m
 |snoc {l1 l2:n0} {m1:Int}:FH T b l m l1 m1->m1<b->T l1 (some l2)->FH T b l m l2 (m1+1)
def OY (T:n0->Option n0->Prop)(b:Int)(l:n0)(m:Int)(a:n0)(c:Int):Prop:=FH T b l m a c/\(b<=c\/T a none)
inductive GPss (T:UInt8->n0->Option n0->Prop)(b:Int)(l:n0)(m:Int):Tx->n0->Int->Prop where
 |nil:GPss T b l m [] l m
 |snoc {ps:Tx} {c:UInt8} {l1 l2:n0} {m1 m2:Int}:GPss T b l m ps l1 m1->OY (T c) b l1 m1 l2 m2->GPss T b l m (ps++[c]) l2 m2
structure aC (T:n0->Option n0->Prop)(N:ol)(ar:Tx->Nat)(c:UInt8):Prop where
 call:∀(l:n0) (cs:oh) (idn idi:Nat),BB N ar l->EL (PI N) l cs->∀σ:St,ni 73 [Cq N idn l idi cs,sc (.int .u8 c.toNat)] σ fun r σ'=>(∃x b,r=tp [x,my b]/\DW T N l idn x b)/\AD σ σ'
 rt:∀l l',T l (some l')->BB N ar l->BB N ar l'
def Uw (T N ar l cs idn D t b)(bh:0<=b)(bg:b<=9223372036854775807)(ba:Z t<=8)(ht:∀c∈t,aC (T c) N ar c)(hR:BB N ar l)(hE:EL (PI N) l cs)(n):
  ni 39 [Cq N idn l D cs,str t,ic b] n λr σ'=>(∃l' id c' m,r=tp [Cq N idn l' id c',ic m]/\GPss T b l 0 t l' m/\BB N ar l'/\EL (PI N) l' c')/\AD n σ':=by
 have hC:=λl cs D c (hc:aC (T c) N ar c) hR hE n=>hc.call l cs idn D hR hE n;refine Z9 36 [.cell 6 62,.tmp 7] Tryz.func39 ?_;refine mr ?_
 refine Ae (λk s σ'=>∃(i:Nat) (m:Int) (v:n0) (z:Nat) (M:oh),k=Z t-i/\i<=Z t/\0<=m/\m<=b/\s 1=str t/\s 2=ic b/\s 3=ptr n.B 0/\s 6=ptr (n.B+1) 0/\s 8=ic m/\s 9=ic i/\AD n σ'/\n.B+1<σ'.B/\σ'.C n.B=[sl idn (Z N) (N.map str),sl z (Z v) M]/\σ'.C (n.B+1)=[nilS,nilS]/\AC (GPss T b l 0 (t.take i) v m/\BB N ar v/\EL (PI N) v M)) (Z t)
  ⟨0,0,l,D,cs,AA,AA,AA,AA,rfl,rfl,AG,AG,AG,AG,Xs,AM,by rw[Ah AM,Ao],by first|exact Ao|simp[Ao],⟨GPss.nil,hR,hE⟩⟩ ?_
 rintro k s σ' ⟨i,m,v,z,M,rfl,hi,hm0,hm1,h1,h2,h3,h6,h8,h9,F,ao,V,S,q⟩;have ax:=F.B;by_cases az:i<Z t;have ah:=AK az;have av:=ht t[i] (AR az);generalize t[i]=c at ah av;have O:AC (∀f d,OY (T c) b v m f d->GPss T b l 0 (t.take (i+1)) f d):=λf d h=>by
  rw[AT,ah,BN];exact GPss.snoc q.o.1 h
 have a3:AC (BB N ar v):=q.o.2.1;have a4:AC (EL (PI N) v M):=q.o.2.2;clear q;refine mr ?_
 refine Ae (λk s a=>∃(d:Int) (f:n0) (u:Nat) (C:oh),k=(b-d).toNat/\m<=d/\d<=b/\s 1=str t/\s 2=ic b/\s 3=ptr n.B 0/\s 6=ptr (n.B+1) 0/\s 8=ic d/\s 9=ic i/\AD n a/\n.B+1<a.B/\a.C n.B=[sl idn (Z N) (N.map str),sl u (Z f) C]/\a.C (n.B+1)=[nilS,nilS]/\AC (FH (T c) b v m f d/\BB N ar f/\EL (PI N) f C)) (b-m).toNat
  ⟨m,v,z,M,rfl,AA,AA,AI,AI,AI,AI,AI,AI,F,ao,V,S,⟨FH.refl,a3.o,a4.o⟩⟩ ?_
 clear h1 h2 h3 h6 h8 h9 F ao V S ax a3 a4;rintro k s a ⟨d,f,u,C,rfl,bd,bf,h1,h2,h3,h6,h8,h9,F,ao,V,S,q⟩;have ax:=F.B;by_cases au:d<b;have hC:=hC f C u c av q.o.2.1 q.o.2.2;have ap:decide (d<b)=true:=nn au;refine mr ?_;refine A2 (Q:=λe y g=>e= .normal/\∃(x I J:Nat) (E:oh) (K L:Nat) (G:oh) (b':Bool),y 10=ptr x 0/\a.B<=x/\x<g.B/\g.C x=[sl I J E,sl K L G]/\y 11=my b'/\DW (T c) N f idn (ag [sl I J E,sl K L G]) b'/\y 1=s 1/\y 2=s 2/\y 3=s 3/\y 6=s 6/\y 8=s 8/\y 9=s 9/\AD a g) ?_ ?_;have bm:(∀p:Nat,some n.B=some p->p<a.B)=True:=eq_true λp e=>by cases e;omega
 have bi:(∀p:Nat,False->p<a.B)=True:=eq_true λp e=>e.elim;refine Ar Ag (λp=>p<a.B) [] [0,1,2,3] 7 (nv 11 15) AH (λ_ _ _ h=>by cases h.1) ?_;intro yb ya;refine Z3 ?_;refine ya.o _ ?_;clear ya yb;refine D8 (rs:=[4,8]) AH nk ?_;intro j hj;simp only[BD,EK,DZ]at hj;rcases hj with rfl|rfl;refine Am ?_;intro yb ya;refine Z3 ?_;refine AF.mono (hC _) ?_;rintro _ A ⟨⟨x5,b5,rfl,R⟩,B⟩;obtain⟨I,J,E,K,L,G,rfl⟩:=R.1;have af:=B.B;refine Z3 ?_;refine ya.o _ _ ⟨Al B,?_⟩;clear ya yb;refine Hv [5,6,7] 3 6 (nv 11 255) rfl AH AH (λ_ _ _ h=>by cases h.1) (B).B (λo H _=>(B).ver o H) ?_;intro yb ya;refine Z3 ?_;refine ya.o _ ?_;clear ya yb;refine Ai (i:=8) AH ?_;refine Am ?_;intro yb ya;refine Z3 ?_;refine ya.o _ _ ⟨Al ((AD.refl _).new _),?_⟩;clear ya yb;refine Ai (i:=9) AH ?_;refine Am ?_;intro yb ya;refine Z3 ?_;refine ya.o _ _ ⟨λ_ o H _=>by simp[St.put,St.new];omega,?_⟩;clear ya yb;refine Df [10] AH AH (λ_ _ _ h=>by cases h.1) BJ (λo H _=>by simp[St.put,St.new];omega) ?_;intro yb ya;refine Z3 ?_;refine ya.o _ _ ⟨rfl,A.B,I,J,E,K,L,G,b5,AG,AA,BJ,by rw[Ak],AG,R,AG,AG,AG,AG,AG,AG,(B.new _).put AA _⟩;refine Am ?_;intro yb ya;refine Z3 ?_;refine ya.o _ _ ⟨Al ((AD.refl _).new _),?_⟩;clear ya yb;refine Ai (i:=4) AH ?_;refine Am ?_;intro yb ya;refine Z3 ?_;refine AF.mono (hC _) ?_;rintro _ A ⟨⟨x5,b5,rfl,R⟩,B⟩;obtain⟨I,J,E,K,L,G,rfl⟩:=R.1;have af:=B.B;have ae:=B.C;simp only[Aa]at af ae;have U:AD a A:=((AD.refl _).new _).trans B;have a5:A.C a.B=[nilS,nilS]:=by rw[ae _ AA,Ao]
 refine Z3 ?_;refine ya.o _ _ ⟨Al U,?_⟩;clear ya yb;refine Hv [5,6,7] 2 5 (nv 11 511) rfl AH AH (λ_ _ _ h=>by cases h.1) (U).B (λo H _=>(U).ver o H) ?_;intro yb ya;refine Z3 ?_;refine ya.o _ ?_;clear ya yb;refine Ai (i:=9) AH ?_;refine Am ?_;intro yb ya;refine Z3 ?_;refine ya.o _ _ ⟨λ_ o H hF=>by simp[St.put];omega,?_⟩;clear ya yb;refine Df [10] AH AH (λ_ _ _ h=>by cases h.1) (by simp only[Ac];omega) (λo H hF=>by simp[St.put];omega) ?_;intro yb ya;refine Z3 ?_;refine ya.o _ _ ⟨rfl,a.B,I,J,E,K,L,G,b5,AG,AA,by simp only[Ac];omega,by rw[Ak],AG,R,AG,AG,AG,AG,AG,AG,U.put AA _⟩;rintro e y g ⟨rfl,x,I,J,E,K,L,G,b',g10,bc,bb,a7,g11,a9,g1,g2,g3,g6,g8,g9,P⟩;rw[h1]at g1;rw[h2]at g2;rw[h3]at g3;rw[h6]at g6;rw[h8]at g8;rw[h9]at g9;have U:=F.trans P;have a6:=P.B;have oz0:g.C n.B=[sl idn (Z N) (N.map str),sl u (Z f) C]:=by rw[P.C _ AA,V]
 have oz1:g.C (n.B+1)=[nilS,nilS]:=by rw[P.C _ AA,S]
 obtain⟨-,o,ai,an,aw⟩:=a9;clear h1 h2 h3 h6 h8 h9 F P V S hC;cases o with
 |none=>
  simp only[Option.isSome_none]at an;subst an;have Y:=O.o f d ⟨q.o.1,.inr ai⟩;have X:AC (GPss T b l 0 (t.take (i+1)) f d/\BB N ar f/\EL (PI N) f C):=⟨Y,q.o.2⟩;clear Y O q ai aw;refine mr ?_;refine⟨Z t-(i+1),AA,i+1,d,f,u,C,?_⟩;exact m9 X
 |some W=>
  simp only[Option.isSome_some]at an;subst an;obtain⟨id3,c3,ay,a0⟩:=aw W rfl;simp only[DataW.agg.injEq,List.cons.injEq,and_true]at ay;obtain⟨e1,e2⟩:=ay;rw[e1,e2]at a7;have X:AC (FH (T c) b v m W (d+1)/\BB N ar W/\EL (PI N) W c3):=⟨FH.snoc q.o.1 au ai,av.rt _ _ ai q.o.2.1,a0⟩;clear O q ai aw a0 e1 e2;refine mr ?_;refine⟨(b-(d+1)).toNat,AA,d+1,W,id3,c3,?_⟩;exact m9 X
 have be:d=b:=AA;have Y:=O.o f d ⟨q.o.1,.inl AA⟩;have X:AC (GPss T b l 0 (t.take (i+1)) f d/\BB N ar f/\EL (PI N) f C):=⟨Y,q.o.2⟩;clear Y O q;have ap:decide (d<b)=false:=nn au;refine mr ?_;refine⟨Z t-(i+1),AA,i+1,d,f,u,C,?_⟩;exact m9 X;have a8:i=Z t:=AA;subst a8;rw[AS]at q;refine mr ?_;exact⟨_,rfl,⟨v,z,M,m,rfl,q.o⟩,Xs⟩
abbrev qC (p:Tx×Int×Int):AV:=tp [str p.1,ic p.2.1,ic p.2.2]
def Mi (T:ol->UInt8->n0->Option n0->Prop)(t c:Tx)(b:Int)(r:Tx×Int×Int):Prop:=
 if (Av t).1≠0 then r=([],0,(Av t).1)else
 if Dd c=false then r=([],0,11)else
 if b<0 then r=([],0,6)else
 ∃N l e d a m,CW t N l e/\aG l d/\BB N d a/\GPss (T N) b l 0 c a m/\r=(Bj a,m,0)
def Yw (T t ps b)(hb:b<=9223372036854775807)(I:Dd ps=true->∀N ar,∀c∈ps,aC (T N c) N ar c)(f):ni 15 [str t,str ps,ic b] f λr σ'=>∃p,r=qC p/\Mi T t ps b p/\AD f σ':=by
 have A:=λf=>yE t f;have u:=λf=>Zw ps f;by_cases i:(Av t).1=0;have B:AC ((Av t).1=0):=i;have U:((Av t).1 !=0)=false:=nn i;have v:Z t<=600:=by
  by_cases hl:600<Z t;unfold Av at i;rw[if_pos hl]at i;simp at i;omega
 have q:AC (∀r,(if Dd ps=false then r=([],0,11)else if b<0 then r=([],0,6)else∃N l F ar d m,CW t N l F/\aG l ar/\BB N ar d/\GPss (T N) b l 0 ps d m/\r=(Bj d,m,0))->Mi T t ps b r):=λr h=>by
  unfold Mi;rw[if_neg (by simp[B.o])];exact h
 clear i;cases a:Dd ps with
 |false=>
  rw[a]at u;have n:AC (Mi T t ps b ([],0,11)):=q.o _ (by rw[if_pos a]);clear q a;refine Z9 38 [.tmp 6,.tmp 7,.tmp 8] Tryz.func15 ?_
  (repeat (refine m0 ?_;intro yb ya;(first|(refine Xi (A _) ?_;rintro _ _ ⟨e,D,C,g,H,o,rfl,j,k⟩;(have G:=j.B;clear k))|(refine Xi (u _) ?_;rintro _ _ ⟨rfl,rfl⟩))));refine mr ?_
  exact⟨_,rfl,_,rfl,n.o,Xs⟩
 |true=>
  rw[a]at u;have W:Z ps<=8:=by
   unfold Dd at a;simp only[BM,CV]at a;exact a.1
  by_cases y:b<0;have a0:decide (b<0)=true:=nn y;have n:AC (Mi T t ps b ([],0,6)):=q.o _ (by rw[if_neg (by simp[a]),if_pos y]);clear q a;refine Z9 38 [.tmp 6,.tmp 7,.tmp 8] Tryz.func15 ?_
  (repeat (refine m0 ?_;intro yb ya;(first|(refine Xi (A _) ?_;rintro _ _ ⟨e,D,C,g,H,o,rfl,j,k⟩;(have G:=j.B;clear k))|(refine Xi (u _) ?_;rintro _ _ ⟨rfl,rfl⟩))));refine mr ?_
  exact⟨_,rfl,_,rfl,n.o,Xs⟩;have a0:decide (b<0)=false:=nn y;have n:AC (∀r,(∃N l F ar d m,CW t N l F/\aG l ar/\BB N ar d/\GPss (T N) b l 0 ps d m/\r=(Bj d,m,0))->Mi T t ps b r):=λr h=>q.o _ (by rw[if_neg (by simp[a]),if_neg y];exact h);have a9:AC (∃ar,aG (Bl t) ar):=SV B.o;have X:AC _:=I a;clear q a I;refine Z9 38 [.tmp 6,.tmp 7,.tmp 8] Tryz.func15 ?_
  (repeat (refine m0 ?_;intro yb ya;(first|(refine Xi (A _) ?_;rintro _ _ ⟨e,D,C,g,H,o,rfl,j,k⟩;(have G:=j.B;obtain⟨N,l,a,P,rfl,rfl,rfl,ax,K⟩:=k B.o;have x:CW t N l o:=⟨B.o,v,a,P,K⟩;have s:∃ar,aG l ar:=(by rw[<-x.items];exact a9.o);obtain⟨ar,s⟩:=s;have S:=λf=>Uw (T N) N ar l o e g ps b AA hb W (X.o N ar) (x.rt s) P.el f;have a6:AC _:=x;have a8:AC _:=s;clear a k ax K x s))|(refine Xi (u _) ?_;rintro _ _ ⟨rfl,rfl⟩)|(refine Xi (S _) ?_;rintro _ _ ⟨⟨d,E,V,L,rfl,O,z,R⟩,M⟩;(have ak:=M.B;simp only[Ac,Aa]at ak;have Y:=λf=>sO N d V e E ((z.gl.bkm R).bk z.gl.len) z.wi f;have Q:AC (Mi T t ps b (Bj d,L,0)):=n.o _ ⟨N,l,o,ar,d,L,a6.o,a8.o,z,O,rfl⟩;clear O))|(refine Xi (Y _) ?_;rintro _ _ ⟨rfl,J⟩;(have aw:=J.B)))));refine mr ?_
  exact⟨_,rfl,_,rfl,Q.o,(((((j.new _).put AA _).trans M).new _).put AA _).trans J⟩
 have U:((Av t).1 !=0)=true:=nn i;have n:AC (Mi T t ps b ([],0,(Av t).1)):=by unfold Mi;rw[if_pos i];rfl
 clear i;refine Z9 38 [.tmp 6,.tmp 7,.tmp 8] Tryz.func15 ?_;refine m0 ?_;intro yb ya;refine Xi (A _) ?_;rintro _ _ ⟨e,D,C,g,H,o,rfl,j,k⟩;(have G:=j.B;clear k);refine mr ?_;exact⟨_,rfl,_,rfl,n.o,Xs⟩
def KQ (N:ol)(l:n0)(o:Option n0):Prop:=
 (o=none/\xW N l (Z l))\/∃i k y,o=some (rpl i [C8 y k] l)/\l[i]?=some y/\y.o=false/\k<Z y.A/\eC N l i k=true/\xW N l i/\∀a,a<k->eC N l i a=false
def KS (N:ol)(l:n0)(o:Option n0):Prop:=
 (o=none/\xV N l (Z l))\/∃i y,o=some (rpl i [] l)/\l[i]?=some y/\y.o=false/\C5 N l (rpl i [] l)=true/\gO N l i y true/\xV N l i
def NU.stp {N l idn x b}(h:NU N l idn x b)(a:pB x):DW (KQ N) N l idn x b:=by
 refine⟨a,?_⟩;rcases h with⟨rfl,h⟩|⟨rfl,i,k,y,h1,h2,h3,h4,h5,h6,id,c',h7,h8⟩;exact⟨none,.inl ⟨rfl,h⟩,rfl,λc e=>by cases e⟩;exact⟨_,.inr ⟨i,k,y,rfl,h1,h2,h3,h4,h5,h6⟩,rfl,λc e=>by cases e;exact⟨id,c',h7,h8⟩⟩
def OL.stp {N l idn x b}(h:OL N l idn x b)(a:pB x):DW (KS N) N l idn x b:=by
 refine⟨a,?_⟩;rcases h with⟨rfl,h⟩|⟨rfl,i,y,h1,h2,h3,h4,h5,id,c',h7,h8⟩;exact⟨none,.inl ⟨rfl,h⟩,rfl,λc e=>by cases e⟩;exact⟨_,.inr ⟨i,y,rfl,h1,h2,h3,h4,h5⟩,rfl,λc e=>by cases e;exact⟨id,c',h7,h8⟩⟩
def KQ.rt {N ar l b}(h:KQ N l (some b))(c:BB N ar l):BB N ar b:=by
 rcases h with⟨h,-⟩|⟨i,k,y,h,h1,h2,h3,h4,-⟩;cases h;cases h;refine c.wo h1 h2 ?_;unfold eC at h4;rw[h1]at h4;simp only[BM]at h4;obtain⟨s,a⟩:=NF.1 h4.1;unfold IX at a;obtain⟨d,-,a⟩:=Option.bind_eq_some_iff.1 a;unfold Mz at a;split at a;assumption;cases a
def KS.rt {N ar l a}(h:KS N l (some a))(b:BB N ar l):BB N ar a:=by
 rcases h with⟨h,-⟩|⟨i,y,h,-⟩;cases h;cases h;exact b.less i
def zD (N ar l cs idn idi)(k:BB N ar l)(o:EL (PI N) l cs)(a):
  ni 73 [Cq N idn l idi cs,sc (.int .u8 (97:UInt8).toNat)] a λr σ'=>(∃x b,r=tp [x,my b]/\DW (KQ N) N l idn x b)/\AD a σ':=by
 have j:=λa=>Q0 N l cs idn idi k.gl o a;have t:((((97:UInt8).toNat:Nat):Int)==115)=false:=rfl;have e2:((((97:UInt8).toNat:Nat):Int)==97)=true:=rfl;refine Z9 38 [.cell 4 62,.tmp 5] Tryz.func73 ?_;refine m0 ?_;intro yb ya;refine Xi (j _) ?_;rintro _ _ ⟨⟨i,p,rfl,c,e⟩,d⟩;(have m:AC _:=c;have f:AC (pB i):=e;obtain⟨s,v,u,z,y,q,rfl⟩:=e;clear c;have g:=d.B;have n:=d.C;(try simp only[Aa]at g n));refine mr ?_;exact⟨_,rfl,⟨_,p,rfl,NU.stp m.o f.o⟩,Xs⟩
def zB (N ar l cs idn idi)(e:BB N ar l)(o:EL (PI N) l cs)(a):
  ni 73 [Cq N idn l idi cs,sc (.int .u8 (114:UInt8).toNat)] a λr σ'=>(∃x b,r=tp [x,my b]/\DW (KS N) N l idn x b)/\AD a σ':=by
 have k:=λa=>Pb N l cs idn idi _ e.gl e.bki o a;have t:((((114:UInt8).toNat:Nat):Int)==115)=false:=rfl;have e2:((((114:UInt8).toNat:Nat):Int)==97)=false:=rfl;have z:((((114:UInt8).toNat:Nat):Int)==114)=true:=rfl;refine Z9 38 [.cell 4 62,.tmp 5] Tryz.func73 ?_;refine m0 ?_;intro yb ya;refine Xi (k _) ?_;rintro _ _ ⟨⟨j,p,rfl,c,f⟩,d⟩;(have m:AC _:=c;have g:AC (pB j):=f;obtain⟨s,v,u,A,y,q,rfl⟩:=f;clear c;have i:=d.B;have n:=d.C;(try simp only[Aa]at i n));refine mr ?_;exact⟨_,rfl,⟨_,p,rfl,OL.stp m.o g.o⟩,Xs⟩
def FQ (N:ol)(c:UInt8)(l:n0)(o:Option n0):Prop:=
 (c=115/\KT N l o)\/(c=97/\KQ N l o)\/(c=114/\KS N l o)\/(c=117/\KU N l o)\/(c=108/\KR N l o)
def DW.mono {T a N l idn x b}(h:DW T N l idn x b)(c:∀o,T l o->a l o):DW a N l idn x b:=by
 obtain⟨f,o,d,e⟩:=h;exact⟨f,o,c o d,e⟩
def mh (N ar):aC (FQ N 115) N ar 115:=
 ⟨λl f d c a j e=>(zA N ar l f d c a j e).mono λr m ⟨⟨x,b,k,g⟩,i⟩=>⟨⟨x,b,k,g.mono λo h=>.inl ⟨rfl,h⟩⟩,i⟩,λl n h a=>by
  rcases h with⟨-,h⟩|⟨h,-⟩|⟨h,-⟩|⟨h,-⟩|⟨h,-⟩
  ·exact h.rt a
  all_goals cases h⟩
def me (N ar):aC (FQ N 97) N ar 97:=
 ⟨λl f d c a j e=>(zD N ar l f d c a j e).mono λr m ⟨⟨x,b,k,g⟩,i⟩=>⟨⟨x,b,k,g.mono λo h=>.inr (.inl ⟨rfl,h⟩)⟩,i⟩,λl n h a=>by
  rcases h with⟨h,-⟩|⟨-,h⟩|⟨h,-⟩|⟨h,-⟩|⟨h,-⟩
  ·cases h
  ·exact h.rt a
  all_goals cases h⟩
def mg (N ar):aC (FQ N 114) N ar 114:=
 ⟨λl f d c a j e=>(zB N ar l f d c a j e).mono λr m ⟨⟨x,b,k,g⟩,i⟩=>⟨⟨x,b,k,g.mono λo h=>.inr (.inr (.inl ⟨rfl,h⟩))⟩,i⟩,λl n h a=>by
  rcases h with⟨h,-⟩|⟨h,-⟩|⟨-,h⟩|⟨h,-⟩|⟨h,-⟩
  ·cases h
  ·cases h
  ·exact h.rt a
  all_goals cases h⟩
def mi (N ar):aC (FQ N 117) N ar 117:=
 ⟨λl f d c a j e=>(yZ N ar l f d c a j e).mono λr m ⟨⟨x,b,k,g⟩,i⟩=>⟨⟨x,b,k,g.mono λo h=>.inr (.inr (.inr (.inl ⟨rfl,h⟩)))⟩,i⟩,λl n h a=>by
  rcases h with⟨h,-⟩|⟨h,-⟩|⟨h,-⟩|⟨-,h⟩|⟨h,-⟩;cases h;cases h;cases h;exact h.rt a
  cases h⟩
def mf (N ar):aC (FQ N 108) N ar 108:=
 ⟨λl f d c a j e=>(zC N ar l f d c a j e).mono λr m ⟨⟨x,b,k,g⟩,i⟩=>⟨⟨x,b,k,g.mono λo h=>.inr (.inr (.inr (.inr ⟨rfl,h⟩)))⟩,i⟩,λl n h a=>by
  rcases h with⟨h,-⟩|⟨h,-⟩|⟨h,-⟩|⟨h,-⟩|⟨-,h⟩;cases h;cases h;cases h;cases h
  exact h.rt a⟩
def mc {a}(h:Dd a=true)(N ar):∀c∈a,aC (FQ N c) N ar c:=λc d=>by
 unfold Dd at h;simp only[BM,CX]at h;have b:=h.2 c d;unfold Ho at b;rcases of_decide_eq_true b with rfl|rfl|rfl|rfl|rfl;exact mh N ar;exact me N ar;exact mg N ar;exact mi N ar;exact mf N ar
def xR (t ps b)(a:b<=9223372036854775807)(σ):ni 15 [str t,str ps,ic b] σ λr σ'=>∃p,r=qC p/\Mi FQ t ps b p/\AD σ σ':=
 Yw FQ t ps b a (λh N c=>mc h N c) σ
def QF {N l x k q}:∀z∈uL N l x k q,z.o=false:=λz a=>by
 obtain⟨r,-,rfl⟩:=AN.1 a;rfl
def VV {l ar}(h:aG l ar)(i):Gn l i=false:=by
 unfold Gn;cases g:l[i]? with
 |none=>rfl
 |some x=>
  simp only;rw[EV];intro j _;unfold Mh;cases n:(Af x)[j]? with
  |none=>simp
  |some a=>
   simp only[JE];rw[EV];intro b c;have d:=AY g;have m:=h x d a (AY n);have o:Z b.A=ar b.B:=by
    rcases AW.1 c with c|c;obtain⟨y,k,f⟩:=EX.1 c;exact h y (JI k) b f;exact h x d b (JI c)
   unfold clash;simp only[BM,DO,CV,not_and,ne_eq,Decidable.not_not];intro e;rw[m,o,e]
def Vl {l c ar}(E:aG c ar)(C:∀x∈c,Db x=true)(f:(Co l).1=0)(F:∀x∈l,x.o=true->x.A=[])(v:∀x∈c,x.o=true->x.A=[])
  (t:∀x∈c,∃y∈l,y.o=x.o/\y.h.B=x.h.B/\∀a∈x.A,∃b∈y.A,b.B=a.B/\b.nt=a.nt):Co c=(0,0):=by
 have A:∀i,i<Z l->Hd l i=false:=by
  unfold Co at f;split at f;cases f;split at f;cases f;split at f;cases f;rename_i h;exact Jo h
 have G:∀p q,Gs c p q->Gs l p q:=λp q ⟨x,g,D,a,k,B⟩=>by
  obtain⟨y,o,-,e,d⟩:=t x g;obtain⟨b,d,s,-⟩:=d a k;exact⟨y,o,e.trans D,b,d,s.trans B⟩
 have z:∀i,i<Z c->Hd c i=false:=λi n=>by
  unfold Hd;rw[AK n];simp only;have g:=AR n;generalize c[i]=x at g;rw[EV];intro a k r;obtain⟨y,o,s,e2,d⟩:=t x g;obtain⟨b,d,H,I⟩:=d a k;obtain⟨j,u⟩:=CL o;have:=A j (BA.1 u).1;unfold Hd at this;rw[u]at this;simp only at this;refine EV.1 this b d ?_;unfold zH at r⊢;simp only[BM,LF,DO]at r⊢;rw[I,H,e2];refine⟨r.1,?_⟩;have m:x.o=false:=by
   cases h:x.o with
   |false=>rfl
   |true=>rw[v x g h]at k;cases k
  rcases r.2 with h|h;exact .inl h;refine .inr ?_;rw[Ks v ⟨x,g,m,rfl⟩]at h;rw[Ks F ⟨y,o,s.trans m,e2⟩];exact h.map' G
 unfold Co
 rw[if_neg (by rw[Ci λi _=>VV E i];decide),if_neg (by
  rw[Ci λi n=>?_];decide;unfold Dp;rw[AK n];simp only
  rw[C _ (AR n)];rfl),if_neg (by rw[Ci z];decide)]
def BB.xr {N ar l}(h:BB N ar l){x}(b:x∈l)(c:x.o=false):XR x:=
 ⟨λa d t e=>by
  have:=((h.gl.msr x b).at_ a d).2.2 t e
  exact⟨this.1,this.2.1,this.2.2.1⟩,c,by have:=jk (h.wit x b);omega⟩
def U3 {x}(a:x.o=false):C8 x (Z x.A)=x:=by
 unfold C8;rw[LG (AU _),<-a]
def VI {N ar l}(h:BB N ar l){x}(c:x∈l)(g:Db x=true):Db (ren x)=true:=by
 cases b:x.o with
 |true=>
  have i:=(h.gl.msr x c).o b;unfold Db;simp[Af,ren,b,i]
 |false=>
  have f:=h.xr c b;have d:=f.safe (Z x.A);have e:C8 (ren x) (Z x.A)=ren x:=by
   have:=U3 (x:=ren x) b;simpa[ren]using this
  rw[e,U3 b,g]at d;rw[<-J8 (x:=ren x) λa j w k=>Me (f.inO.ut a j w k)];exact d
def QU {x}(h:iS x)(k:x.o=false->XR x):iS (ren x):=by
 refine⟨h.nm,λd=>?_,λd=>?_⟩;obtain⟨j,g,i⟩:=h.o d;exact⟨j,by simp[ren,Br,g],by simp[ren,i]⟩;obtain⟨j,g,i,p⟩:=h.rule d;have k:=k d;have c:∀a∈Af x,IT a->IT (Br (Au x) a):=λa f e=>by
  refine⟨e.nm,by simpa[Br]using e.ne,by simpa[Br]using e.few,λt m=>?_⟩;simp only[Br,AN]at m;obtain⟨u,l,rfl⟩:=m;unfold C6;split;rename_i o;have:=k.rng f l o;exact .inl ⟨_,rfl,E4 this.1 this.2⟩;exact e.tm u l
 refine⟨c _ (Ap (.inl ⟨d,rfl⟩)) j,g,by simpa[ren]using i,λa f=>?_⟩;simp only[ren,AN]at f;obtain⟨b,n,rfl⟩:=f;exact c b (Ap (.inr n)) (p b n)
def ju {N ar l}(d:BB N ar l)(q:(Co l).1=0)(n:Jk l=true)(r:∀x∈l,iS x):Av (Bj l)=(0,0)/\Bl (Bj l)=l.map ren:=by
 have p:=Ns d.wit d.wi;refine⟨?_,p⟩;have o:Z (Bj l)<=600:=by
  rw[Oc d.wit];have s:=bM l d.wit;unfold Jk at n;simp only[BM,CV]at n;omega
 have j:Eo (Bj l)= -1:=by
  rw[Hb,Oc d.wit,Te 16 (l.map ren) (λy e=>?_) (by rw[BV];exact d.gl.len)];obtain⟨x,c,rfl⟩:=AN.1 e;exact QU (r x c) λf=>d.xr c f
 unfold Av;rw[if_neg AA,if_neg (by rw[j];decide),p];refine Vl (l:=l) (ar:=ar) (λy e a i=>?_) (λy e=>?_) q (λx c=>(d.gl.msr x c).o) (λy e f=>?_) (λy e=>?_);obtain⟨x,c,rfl⟩:=AN.1 e;cases f:x.o with
 |true=>
  have g:=(d.gl.msr x c).o f;simp[Af,ren,f,g]at i
 |false=>
  have m:=d.ru x c f;have k:a=Br (Au x) x.h\/a∈x.A.map (Br (Au x)):=by simpa[Af,ren,f]using i
  rcases k with rfl|k;show Z (x.h.A.map _)=_;rw[BV];exact m.h.len;obtain⟨b,g,rfl⟩:=AN.1 k;show Z (b.A.map _)=_;rw[BV];exact (m.A b g).len
 obtain⟨x,c,rfl⟩:=AN.1 e;exact VI d c (Pw q c);obtain⟨x,c,rfl⟩:=AN.1 e;have:=(d.gl.msr x c).o f;simp[ren,this];obtain⟨x,c,rfl⟩:=AN.1 e;refine⟨x,c,rfl,rfl,λa i=>?_⟩;simp only[ren,AN]at i;obtain⟨b,g,rfl⟩:=i;exact⟨b,g,rfl,rfl⟩
def RY {d}(h:d<=9):A6 ((UInt8.ofNat (48+d)).toNat:Int)=true:=by
 have:d=0\/d=1\/d=2\/d=3\/d=4\/d=5\/d=6\/d=7\/d=8\/d=9:=AA;rcases this with rfl|rfl|rfl|rfl|rfl|rfl|rfl|rfl|rfl|rfl<;>decide
def rH {d}(a:1<=d)(h:d<=9):Gv ((UInt8.ofNat (48+d)).toNat:Int)=true:=by
 have:d=1\/d=2\/d=3\/d=4\/d=5\/d=6\/d=7\/d=8\/d=9:=AA;rcases this with rfl|rfl|rfl|rfl|rfl|rfl|rfl|rfl|rfl<;>decide
def ge {n}(h:n<=999):JN (Lib.decDigits n):=by
 by_cases b:n<10;rw[Lib.decDigits_one b];by_cases d:n=0;subst d;exact .inr (.inl rfl);exact .inr (.inr ⟨_,[],rfl,rH AA AA,nk,nk⟩);by_cases e:n<100;rw[Lib.decDigits_two b e];exact .inr (.inr ⟨_,_,rfl,rH AA AA,λc a=>by simp only[BD,EK,DZ]at a;subst a;exact RY AA,nk⟩);rw[Lib.decDigits,dif_neg b,Lib.decDigits_two AA AA];refine .inr (.inr ⟨UInt8.ofNat (48+n / 10 / 10),[UInt8.ofNat (48+n / 10 % 10),UInt8.ofNat (48+n % 10)],rfl,rH AA AA,λc a=>?_,nk⟩);simp only[BD,EK,DZ]at a;rcases a with rfl|rfl<;>exact RY AA
def j8 {t}(h:UT t):JN t:=by
 cases b:Ab t with
 |true=>
  obtain⟨k,d,rfl⟩:=h.2.2.2 b;exact .inl ⟨_,rfl,E4 AA AA⟩
 |false=>
  rcases h.1 with a|⟨-,a,h2,h3⟩;rw[b]at a;cases a;obtain⟨n,c⟩:=Int.eq_ofNat_of_zero_le h2;rw[c]at a h3;rw[<-a,Lib.itoa_nonneg];exact ge AA
def k8 {N ar l}(g:BB N ar l)(e:∀x∈l,tE x.h.B/\∀a∈x.A,tE a.B):∀x∈l,iS x:=λx c=>by
 have k:=g.gl.msr x c;have i:=g.wit x c;refine⟨(e x c).1,i.2.1,λf=>?_⟩;obtain⟨p,m,q,o⟩:=i.2.2 f;have b:∀a∈Af x,tE a.B->En a->IT a:=λa d r j=>⟨r,j.2.1,j.2.2.1,λt n=>j8 ((k.at_ a d).2.2 t n)⟩;exact⟨b _ (Ap (.inl ⟨f,rfl⟩)) (e x c).1 p,m,q,λa d=>b a (Ap (.inr d)) ((e x c).2 a d) (o a d)⟩
def K9 (l:n0)(p:Tx):Prop:=∃x∈l,x.h.B=p\/∃a∈x.A,a.B=p
def Rk (l:n0)(p:Tx):Prop:=∃x∈l,x.o=false/\x.h.B=p
def QX {N q}(h:q∈N)(b){a}(c:a.p=((N.idxOf q:Nat):Int)):(N7 N b a).B=q:=by
 show (N[a.p.toNat]?).getD []=q;rw[c,DK,AK (CS h),FN];rfl
def jD {N ar l}(n:BB N ar l){x}(j:x∈l)(i:x.o=false){k q z}(v:z∈uL N l x k q):z.h.B=x.h.B/\∀a∈z.A,∃y∈l,∃b∈y.A,b.B=a.B:=by
 obtain⟨r,s,rfl⟩:=AN.1 v;obtain⟨y,D,e⟩:=List.mem_filterMap.1 s;obtain⟨A,p⟩:=BP.1 D;simp only[Fw,BM,FJ,CV]at p;unfold Kt at e;obtain⟨a,G,e⟩:=Option.bind_eq_some_iff.1 e;obtain⟨P,H,rfl⟩:=Option.map_eq_some_iff.1 e;refine⟨QX (n.gl.msr x j).mem false rfl,λb E=>?_⟩;obtain⟨m,t,rfl⟩:=AN.1 E;obtain⟨J,g,rfl⟩:=AN.1 t;obtain⟨I,u,rfl⟩:=AN.1 g;have f:∀w∈l,w.o=false->∀d∈w.A,∀(m:Lit),m.a.p=((N.idxOf d.B:Nat):Int)->∃y∈l,∃b∈y.A,b.B=(N7 N m.neg (lN (Fc (Fj P ⟨(Ce N x).h,rpl k (Fj BU (Ce N y)).A (Ce N x).A⟩)) (P9 P m.a))).B:=λw o B d c m C=>⟨w,o,d,c,(QX ((n.ru w o B).A d c).mem m.neg C).symm⟩;rcases Cy u with h|h;obtain⟨d,c,rfl⟩:=AN.1 h;exact f x j i d c _ rfl;obtain⟨K,F,rfl⟩:=AN.1 h;obtain⟨d,c,rfl⟩:=AN.1 F;exact f y A p.1 d c _ rfl
def VB {l i p e}(h:Ez l i p=some e):∃y∈l,∃b∈y.A,b.B=e:=by
 unfold Ez at h;split at h
 case h_2=>cases h
 rename_i y c;split at h
 case isFalse=>cases h
 split at h
 case h_2=>cases h
 rename_i a d;cases h;have g:y∈E5 l i p:=by rw[c];simp
 obtain⟨⟨z,j⟩,f,rfl⟩:=AN.1 g;exact⟨z,LB (BP.1 f).1,a,by rw[show z.A=[a]from d];simp,rfl⟩
def Lu {N l}(c:∀x∈l,x.h.B∈N){p}(d:p∈N):Dr N l (N.idxOf p)=true↔Rk l p:=by
 unfold Dr Rk;simp only[CU,BM,FJ,CV];constructor;rintro⟨x,a,b,f⟩;refine⟨x,a,b,?_⟩;have e:=RD (c x a) d;rw[f]at e;simpa using e.symm;rintro⟨x,a,b,rfl⟩;exact⟨x,a,b,rfl⟩
def Vb {N ar l}(b:BB N ar l){p}(h:K9 l p):p∈N:=by
 obtain⟨x,c,h⟩:=h;rcases h with rfl|⟨a,ha,rfl⟩;exact (b.gl.msr x c).mem;cases d:x.o with
 |true=>rw[(b.gl.msr x c).o d]at ha;cases ha
 |false=>exact ((b.ru x c d).A a ha).mem
def Mv {N l M}(k:∀x∈l,x.h.B∈N/\∀a∈x.A,a.B∈N)(r:Dw N l M){p q}(g:p∈N)(f:q∈N):F9 (Z N) M (Z N) (N.idxOf p) (N.idxOf q)=true↔Way (Gs l) p q:=by
 have u:NA (Z N) M:=λa b h=>by
  obtain⟨x,c,m,y,d,e2⟩:=(r a b).1 h;rw[<-m,<-e2];exact⟨CS (k x c).1,CS ((k x c).2 y d)⟩
 rw[gR u];have one:∀p q:Tx,p∈N->q∈N->(M (N.idxOf p) (N.idxOf q)=true↔Gs l p q):=λp q g f=>by
  rw[r];constructor;rintro⟨x,c,m,y,d,e2⟩;exact⟨x,c,E9 (k x c).1 g m,y,d,E9 ((k x c).2 y d) f e2⟩;rintro⟨x,c,rfl,y,d,rfl⟩;exact⟨x,c,rfl,y,d,rfl⟩
 constructor;intro h;have n:∀i j,Way (λa b=>M a b=true) i j->∀p q:Tx,p∈N->q∈N->N.idxOf p=i->N.idxOf q=j->Way (Gs l) p q:=λi j h=>by
  induction h with
  |one e=>
   rintro p q g f rfl rfl;exact .one ((one p q g f).1 e)
  |more e _ o=>
   rintro p q g f rfl rfl;obtain⟨x,c,m,y,d,rfl⟩:=(r _ _).1 e;have s:=(k x c).2 y d;exact .more ((one p y.B g s).1 e) (o y.B q s f rfl rfl)
 exact n _ _ h p q g f rfl rfl;intro h;induction h with
 |one e=>exact .one ((one _ _ g f).2 e)
 |more e _ o=>
  have t:=e;obtain⟨x,c,rfl,y,d,rfl⟩:=t;exact .more ((one _ _ g ((k x c).2 y d)).2 e) (o ((k x c).2 y d) f)
def YZ {l q}:K9 (l.map ren) q↔K9 l q:=by
 constructor;rintro⟨y,g,h⟩;obtain⟨x,d,rfl⟩:=AN.1 g;refine⟨x,d,h.imp id λ⟨a,c,e⟩=>?_⟩;obtain⟨b,f,rfl⟩:=AN.1 c;exact⟨b,f,e⟩;rintro⟨x,d,h⟩;exact⟨ren x,AN.2 ⟨x,d,rfl⟩,h.imp id λ⟨a,c,e⟩=>⟨_,AN.2 ⟨a,c,rfl⟩,e⟩⟩
def XM {l q}:Rk (l.map ren) q↔Rk l q:=by
 constructor;rintro⟨y,b,h⟩;obtain⟨x,a,rfl⟩:=AN.1 b;exact⟨x,a,h⟩;rintro⟨x,a,h⟩;exact⟨ren x,AN.2 ⟨x,a,rfl⟩,h⟩
def XN {x}(h:x.o=false->XR x)(j:x.o=true->x.h.A=[]/\x.A=[]):ren (ren x)=ren x:=by
 cases e:x.o with
 |true=>
  obtain⟨s,r⟩:=j e;simp[ren,Br,s,r]
 |false=>
  have f:=h e;have p:=f.inO;have b:∀a∈Af x,Br (Au (ren x)) (Br (Au x) a)=Br (Au x) a:=λa c=>by
   unfold Br;simp only[AE.mk.injEq,GM,BH];refine CG λt k=>?_;simp only[Function.comp];have q:=f.ut c k;generalize o:C6 (Au x) t=w at q;cases d:Ab w with
   |false=>unfold C6;rw[if_neg (by simp[d])]
   |true=>
    have n:w∈Au (ren x):=by
     rw[f.ord];refine AN.2 ⟨t,f.mem c k ?_,o⟩;rw[<-Hu (l:=Au x) λd=>f.rng c k d,o];exact d
    have g:=CS n;have m:=FN g;have u:=p.len;have j:=p.ord;unfold C6 Bv;rw[if_pos d,if_pos n];generalize (Au (ren x)).idxOf w=i at g m;rw[<-m];have:(Au (ren x))[i]?=some [Im (i:Nat)]:=by
     rw[j,DC,List.getElem?_range g];rfl
    rw[AK g]at this;simpa using this.symm
  show (⟨x.o,Br (Au (ren x)) (Br (Au x) x.h),(x.A.map (Br (Au x))).map (Br (Au (ren x)))⟩:AB)=⟨x.o,Br (Au x) x.h,x.A.map (Br (Au x))⟩;rw[b _ (Ap (.inl ⟨e,rfl⟩)),BH];congr 1;exact CG λa c=>b a (Ap (.inr c))
def Ri {α a:Type}(f:α->a)(n o l):rpl n (o.map f) (l.map f)=(rpl n o l).map f:=by
 unfold rpl;rw[List.zipIdx_map,JG,LH];congr 1;funext p;simp only[Prod.map,id];split<;>rfl
structure OK {ι:Type}(I:ι->Prop)(e e2:ι->Tm):Prop where
 inj:∀p q,I p->I q->(e p=e q↔e2 p=e2 q)
 var:∀p,I p->(e p).1=(e2 p).1
 num:∀p,I p->(e p).1=false->e2 p=e p
 v1:∀p,I p->zU (e p)
 v2:∀p,I p->zU (e2 p)
section
variable {ι:Type} {I:ι->Prop} {e e2:ι->Tm}
def zS (I:ι->Prop)(e e2:ι->Tm)(P a:List Tm):Prop:=Z P=52/\Z a=52/\∀p,I p->∃q,I q/\Hl P (e p)=e q/\Hl a (e2 p)=e2 q
theorem fZ {P v w t}(g:Z P=52)(f:zU t)(c:v.1=true):Hl (Us P v w) t=if Hl P t=v then w else Hl P t:=by
 obtain⟨b,n⟩:=t;cases b with
 |true=>
  obtain⟨k,i,e⟩:=f rfl;dsimp only at e;subst e;have d:=AK (show k<Z P by omega);unfold Hl Us;simp only[if_true,DK,DC,d,GJ,MG]
 |false=>
  have a:∀Q,Hl Q (false,n)=(false,n):=λQ=>if_neg nk;rw[a,a,if_neg];intro h;rw[<-h]at c;cases c
theorem yB (c:OK I e e2){P i}(h:zS I e e2 P i){p q:ι}(F:I p)(x:I q):(Np P (e p) (e q)=none/\Np i (e2 p) (e2 q)=none)\/∃t d,Np P (e p) (e q)=some t/\Np i (e2 p) (e2 q)=some d/\zS I e e2 t d:=by
 obtain⟨a,f,D,z⟩:=h.2.2 p F;obtain⟨b,k,H,y⟩:=h.2.2 q x;have j:∀{v w:ι},I v->I w->(e v).1=true->zS I e e2 (Us P (e v) (e w)) (Us i (e2 v) (e2 w)):=λ{v w} o E u=>
  ⟨by rw[Of];exact h.1,by rw[Of];exact h.2.1,λr l=>by
   obtain⟨s,n,B,G⟩:=h.2.2 r l;rw[fZ h.1 (c.v1 r l) u,fZ h.2.1 (c.v2 r l) (by rw[<-c.var v o];exact u),B,G];by_cases g:e s=e v;rw[if_pos g,if_pos ((c.inj s v n o).1 g)];exact⟨w,E,rfl,rfl⟩;rw[if_neg g,if_neg λm=>g ((c.inj s v n o).2 m)]
   exact⟨s,n,rfl,rfl⟩⟩
 unfold Np;rw[D,z,H,y];by_cases g:e a=e b;rw[if_pos g,if_pos ((c.inj a b f k).1 g)];exact .inr ⟨P,i,rfl,rfl,h⟩;rw[if_neg g,if_neg λm=>g ((c.inj a b f k).2 m),<-c.var a f,<-c.var b k];cases A:(e b).1 with
 |true=>exact .inr ⟨_,_,rfl,rfl,j k f A⟩
 |false=>
  cases C:(e a).1 with
  |true=>exact .inr ⟨_,_,rfl,rfl,j f k C⟩
  |false=>exact .inl ⟨rfl,rfl⟩
theorem eD (j:OK I e e2):∀(L M:List ι) (P b:List Tm),zS I e e2 P b->(∀p∈L,I p)->(∀p∈M,I p)->(Dy P (L.map e) (M.map e)=none/\Dy b (L.map e2) (M.map e2)=none)\/∃c a,Dy P (L.map e) (M.map e)=some c/\Dy b (L.map e2) (M.map e2)=some a/\zS I e e2 c a
 |[],M,P,b,h,_,_=>.inr ⟨P,b,rfl,rfl,h⟩
 |p::L,[],P,b,h,_,_=>.inl ⟨rfl,rfl⟩
 |p::L,q::M,P,b,h,i,k=>by
  simp only[CC,Dy];rcases yB j h (i p nk) (k q nk)with⟨g,f⟩|⟨c,a,g,f,h3⟩;rw[g,f];exact .inl ⟨rfl,rfl⟩;rw[g,f];exact eD j L M c a h3 (λr d=>i r (by simp[d])) λr d=>k r (by simp[d])
theorem X3 {t}(h:zU t):Hl BY t=t:=by
 obtain⟨b,n⟩:=t;cases b with
 |true=>
  obtain⟨k,a,e⟩:=h rfl;dsimp only at e;subst e;simp[Hl,BY,a]
 |false=>rfl
theorem UP (b:OK I e e2):zS I e e2 BY BY:=⟨Ni,Ni,λp a=>⟨p,a,X3 (b.v1 p a),X3 (b.v2 p a)⟩⟩
theorem nT {a:Type}{h h2:a->Int}{p}:∀K:List a,(∀q∈K,h q=h p↔h2 q=h2 p)->(K.map h).idxOf (h p)=(K.map h2).idxOf (h2 p)
 |[],_=>rfl
 |q::K,g=>by
  rw[CC,CC,JZ,JZ,nT K λr b=>g r (by simp[b])];have:=g q nk;by_cases e:h q=h p;rw[e,this.1 e];simp;have e2:¬h2 q=h2 p:=λe2=>e (this.2 e2);have c:(h q==h p)=false:=nn e;have d:(h2 q==h2 p)=false:=nn e2;rw[c,d]
theorem Vs {i:Type}{J:i->Prop}{g g2}(l:∀p q,J p->J q->(g p=g q↔g2 p=g2 q))(d:∀p,J p->(g p).1=(g2 p).1):∀(L K:List i),(∀p∈L,J p)->(∀p∈K,J p/\(g p).1=true)->
  ∃m:List i,(∀p∈m,J p/\(g p).1=true)/\(L.map g).foldl vF (K.map λp=>(g p).2)=m.map (λp=>(g p).2)/\(L.map g2).foldl vF (K.map λp=>(g2 p).2)=m.map λp=>(g2 p).2
 |[],K,_,e=>⟨K,e,rfl,rfl⟩
 |p::L,K,j,e=>by
  have f:=j p nk;have s:∀q∈K,(g p).1=true->((g q).2=(g p).2↔(g2 q).2=(g2 p).2):=λq a b=>by
   obtain⟨r,n⟩:=e q a;have:=l q p r f;constructor;intro h;rw[this.1 (GB (by rw[n,b]) h)];intro h;rw[this.2 (GB (by rw[<-d q r,<-d p f,n,b]) h)]
  have o:(g p).1=true->((g p).2∈K.map (λp=>(g p).2)↔(g2 p).2∈K.map λp=>(g2 p).2):=λb=>by
   simp only[AN];exact⟨λ⟨q,a,h⟩=>⟨q,a,(s q a b).1 h⟩,λ⟨q,a,h⟩=>⟨q,a,(s q a b).2 h⟩⟩
  rw[CC,CC,FW,FW];by_cases c:(g p).1=true/\(g p).2∉K.map λp=>(g p).2;have k:(g2 p).1=true/\(g2 p).2∉K.map λp=>(g2 p).2:=⟨by rw[<-d p f];exact c.1,λh=>c.2 ((o c.1).2 h)⟩;have t:vF (K.map λp=>(g p).2) (g p)=(K++[p]).map λp=>(g p).2:=by rw[vF,if_pos c];simp
  have e2:vF (K.map λp=>(g2 p).2) (g2 p)=(K++[p]).map λp=>(g2 p).2:=by rw[vF,if_pos k];simp
  rw[t,e2];exact Vs l d L (K++[p]) (λq a=>j q (by simp[a])) λq a=>by
   rcases AW.1 a with a|a;exact e q a;simp at a;subst a;exact⟨f,c.1⟩
  have k:¬((g2 p).1=true/\(g2 p).2∉K.map λp=>(g2 p).2):=λh=>by
   have b:(g p).1=true:=by rw[d p f];exact h.1
   exact c ⟨b,λg=>h.2 ((o b).1 g)⟩
  rw[vF,if_neg c,vF,if_neg k];exact Vs l d L K (λq a=>j q (by simp[a])) e
theorem VJ {i:Type}{J:i->Prop}{g g2}(o:∀p q,J p->J q->(g p=g q↔g2 p=g2 q))(d:∀p,J p->(g p).1=(g2 p).1)(u:∀p,J p->(g p).1=false->g2 p=g p){L:List i}(j:∀p∈L,J p){p}(t:p∈L):G8 ((L.map g).foldl vF []) (g p)=G8 ((L.map g2).foldl vF []) (g2 p):=by
 obtain⟨K,r,n,e2⟩:=Vs o d L [] j nk;simp only[IK]at n e2;rw[n,e2];have b:=j p t;unfold G8;rw[<-d p b];cases c:(g p).1 with
 |false=>rw[u p b c];rfl
 |true=>
  have f:∀q∈K,((g q).2=(g p).2↔(g2 q).2=(g2 p).2):=λq a=>by
   obtain⟨m,k⟩:=r q a;have:=o q p m b;constructor;intro h;rw[this.1 (GB (by rw[k,c]) h)];intro h;rw[this.2 (GB (by rw[<-d q m,<-d p b,k,c]) h)]
  have l:(g p).2∈K.map (λp=>(g p).2)↔(g2 p).2∈K.map λp=>(g2 p).2:=by
   simp only[AN];exact⟨λ⟨q,a,h⟩=>⟨q,a,(f q a).1 h⟩,λ⟨q,a,h⟩=>⟨q,a,(f q a).2 h⟩⟩
  have s:=nT (h:=λp=>(g p).2) (h2:=λp=>(g2 p).2) (p:=p) K f;simp only[if_true];unfold lZ;by_cases e:(g p).2∈K.map λp=>(g p).2;rw[if_pos e,if_pos (l.1 e)];rw[s];rw[if_neg e,if_neg λh=>e (l.2 h)]
end
abbrev LT:=Bool×Tx
def Hm:LT->Tm
 |(false,t)=>Aq t
 |(true,t)=>Hl BU (Aq t)
def IW (s:Bool)(a:AE):Bool×AE:=(s,a)
def aX (x:AB)(k:Nat)(y:AB):List (Bool×AE):=rpl k (y.A.map (IW true)) (x.A.map (IW false))
def nN (x:AB)(B:List (Bool×AE)):List LT:=(x.h.A.map λt=>(false,t))++B.flatMap λb=>b.2.A.map λt=>(b.1,t)
def pI (x:AB)(B:List (Bool×AE))(f:LT->Tx):AB:=⟨false,⟨false,x.h.B,x.h.A.map λt=>f (false,t)⟩,B.map λb=>⟨b.2.nt,b.2.B,b.2.A.map λt=>f (b.1,t)⟩⟩
def rT {x y k b}(h:b∈aX x k y):(b.1=false/\b.2∈x.A)\/(b.1=true/\b.2∈y.A):=by
 rcases Cy h with h|h;obtain⟨a,c,rfl⟩:=AN.1 h;exact .inl ⟨rfl,c⟩;obtain⟨a,c,rfl⟩:=AN.1 h;exact .inr ⟨rfl,c⟩
def pV {N x y k}(j:∀a∈x.A,a.B∈N)(r:x.h.B∈N)(m:∀a∈y.A,a.B∈N):(Kt N x k y).map (Cz N)=(x.A[k]?).bind λa=>(Dy BY (a.A.map λt=>Hm (false,t)) (y.h.A.map λt=>Hm (true,t))).map λP=>
  pI x (aX x k y) λp=>Km (G8 (((nN x (aX x k y)).map λp=>Hl P (Hm p)).foldl vF []) (Hl P (Hm p))):=by
 unfold Kt;cases z:x.A[k]? with
 |none=>rfl
 |some a=>
  simp only[FU];have l:(Fj BU (Ce N y)).h.ts=y.h.A.map λt=>Hm (true,t):=by
   simp only[Fj,P9,Ce,Eg,BH];rfl
  have e:a.A.map Aq=a.A.map λt=>Hm (false,t):=rfl;rw[l,e];cases Dy BY (a.A.map λt=>Hm (false,t)) (y.h.A.map λt=>Hm (true,t))with
  |none=>rfl
  |some P=>
   simp only[GJ,Option.some.injEq];let d:Bool×AE->Lit:=λb=>⟨b.2.nt,⟨(N.idxOf b.2.B:Nat),b.2.A.map λt=>Hl P (Hm (b.1,t))⟩⟩;have A:((rpl k (Fj BU (Ce N y)).A (Ce N x).A).map (qX P))=(aX x k y).map d:=by
    have v:(Fj BU (Ce N y)).A=(y.A.map (IW true)).map λb:Bool×AE=>(⟨b.2.nt,⟨(N.idxOf b.2.B:Nat),b.2.A.map λt=>Hm (b.1,t)⟩⟩:Lit):=by
     simp only[Fj,Ce,BH];refine CG λb _=>?_;simp only[Function.comp,E6,Eg,qX,P9,IW,BH];rfl
    have o:(Ce N x).A=(x.A.map (IW false)).map λb:Bool×AE=>(⟨b.2.nt,⟨(N.idxOf b.2.B:Nat),b.2.A.map λt=>Hm (b.1,t)⟩⟩:Lit):=by
     simp only[Ce,BH];refine CG λb _=>?_;simp only[Function.comp,E6,Eg,IW];rfl
    rw[v,o,Ri,BH];refine CG λb _=>?_;simp only[Function.comp,qX,P9,BH,d];rfl
   have s:Fj P ⟨(Ce N x).h,rpl k (Fj BU (Ce N y)).A (Ce N x).A⟩=⟨⟨(N.idxOf x.h.B:Nat),x.h.A.map λt=>Hl P (Hm (false,t))⟩,(aX x k y).map d⟩:=by
    unfold Fj;simp only;rw[show P9 P (Ce N x).h=⟨(N.idxOf x.h.B:Nat),x.h.A.map λt=>Hl P (Hm (false,t))⟩by simp only[P9,Ce,Eg,BH];rfl];congr 1
   have i:Fc ⟨⟨(N.idxOf x.h.B:Nat),x.h.A.map λt=>Hl P (Hm (false,t))⟩,(aX x k y).map d⟩=((nN x (aX x k y)).map λp=>Hl P (Hm p)).foldl vF []:=by
    unfold Fc Cs Hs nN;congr 1;simp only[DN,EU,BH,LH,JG];rfl
   rw[s];unfold Fa Cz pI;rw[i];have c:∀(q:Tx) (b:Bool) (f:List Tm) (V:List Int),q∈N->N7 N b (lN V ⟨(N.idxOf q:Nat),f⟩)=⟨b,q,f.map λu=>Km (G8 V u)⟩:=λq b f V g=>by
    unfold N7 lN;simp only[DK,BH];rw[AK (CS g),FN];rfl
   simp only[BH];congr 1;rw[c _ _ _ _ r,BH];rfl;refine CG λb n=>?_;simp only[Function.comp,JS,d];rw[c _ _ _ _ (by rcases rT n with⟨-,h⟩|⟨-,h⟩;exact j _ h;exact m _ h),BH];rfl
def nG (x y:AB):Bool->ol
 |false=>Au x
 |true=>Au y
def rY (x y:AB)(p:LT):Prop:=∃a,(p.1=false/\a∈Af x\/p.1=true/\a∈Af y)/\p.2∈a.A
def O8 {t}(h:UT t):Hl BU (Aq t)=if Ab t=true then (true,26+(Aq t).2)else Aq t:=by
 cases a:Ab t with
 |true=>
  obtain⟨k,b,-,e⟩:=h.enc a;rw[e];simp[Hl,BU,b,show k<52 by omega]
 |false=>
  have c:(Aq t).1=false:=by rw[Cb];exact a
  rw[Hl,if_neg (by simp[c])];rfl
def Sr {t}(h:Ab t=false)(l):C6 l t=t:=if_neg (by simp[h])
def sG {p q}(c:UT p.2)(e:UT q.2)(h:Hm p=Hm q):p.2=q.2/\(Ab p.2=true->p.1=q.1):=by
 have v:∀p:LT,UT p.2->Hm p=if Ab p.2=true then (true,(if p.1=true then 26 else 0)+(Aq p.2).2)else Aq p.2:=λp c=>by
  obtain⟨s,t⟩:=p;cases s with
  |true=>rw[Hm,O8 c];rfl
  |false=>
   show Aq t=_;cases m:Ab t with
   |true=>
    have l:(Aq t).1=true:=by rw[Cb];exact m
    exact GB l nk
   |false=>rfl
 rw[v p c,v q e]at h;cases b:Ab p.2 with
 |true=>
  obtain⟨k,x,f,n⟩:=c.enc b;cases a:Ab q.2 with
  |true=>
   obtain⟨j,u,g,i⟩:=e.enc a;rw[b,a,if_pos rfl,if_pos rfl,n,i]at h;have d:=(Prod.mk.inj h).2;dsimp only at d;cases r:p.1<;>cases o:q.1<;>rw[r,o]at d<;>simp at d;exact⟨by rw[f,g,d],λ_=>rfl⟩;omega;omega;have:k=j:=AA;exact⟨by rw[f,g,this],λ_=>rfl⟩
  |false=>
   rw[b,a,if_pos rfl,if_neg Bool.false_ne_true]at h;have:(Aq q.2).1=true:=by rw[<-h]
   rw[Cb,a]at this;cases this
 |false=>
  cases a:Ab q.2 with
  |true=>
   rw[b,a,if_neg Bool.false_ne_true,if_pos rfl]at h;have:(Aq p.2).1=true:=by rw[h]
   rw[Cb,b]at this;cases this
  |false=>
   rw[b,a,if_neg Bool.false_ne_true,if_neg Bool.false_ne_true]at h;exact⟨DJ.inj _ _ c e h,λh=>by cases h⟩
def gT {p}(h:UT p.2):zU (Hm p):=by
 intro b;obtain⟨s,t⟩:=p;cases s with
 |false=>
  have a:Ab t=true:=by rw[<-Cb];exact b
  obtain⟨k,c,-,e⟩:=h.enc a;exact⟨k,AA,by show (Aq t).2=_;rw[e]⟩
 |true=>
  cases a:Ab t with
  |true=>
   obtain⟨k,c,-,e⟩:=h.enc a;refine⟨26+k,AA,?_⟩;show (Hl BU (Aq t)).2=_;rw[O8 h,a,if_pos rfl,e];simp
  |false=>
   have:(Hl BU (Aq t)).1=true:=b;rw[O8 h,a,if_neg nk,Cb,a]at this;cases this
def Nx {p}(h:UT p.2):(Hm p).1=Ab p.2:=by
 obtain⟨s,t⟩:=p;cases s with
 |false=>exact Cb t
 |true=>
  show (Hl BU (Aq t)).1=_;rw[O8 h];cases a:Ab t with
  |true=>rfl
  |false=>rw[if_neg nk,Cb];exact a
def YN {x y}(o:XR x)(r:XR y)(D:∀a∈Af x,∀t∈a.A,UT t)(C:∀a∈Af y,∀t∈a.A,UT t):OK (rY x y) Hm λp=>Hm (p.1,C6 (nG x y p.1) p.2):=by
 have i:∀p,rY x y p->UT p.2:=λp ⟨a,h,j⟩=>by
  rcases h with⟨-,h⟩|⟨-,h⟩;exact D a h _ j;exact C a h _ j
 have g:∀p,rY x y p->UT (C6 (nG x y p.1) p.2)/\Ab (C6 (nG x y p.1) p.2)=Ab p.2:=λp ⟨a,h,j⟩=>by
  rcases h with⟨e,h⟩|⟨e,h⟩;rw[e];exact⟨o.ut h j,Hu λd=>o.rng h j d⟩;rw[e];exact⟨r.ut h j,Hu λd=>r.rng h j d⟩
 refine⟨λp q c l=>⟨λh=>?_,λh=>?_⟩,λp c=>?_,λp c d=>?_,λp c=>gT (i p c),λp c=>gT (g p c).1⟩;obtain⟨f,n⟩:=sG (i p c) (i q l) h;cases d:Ab p.2 with
 |true=>rw[n d,f]
 |false=>
  have u:Ab q.2=false:=by rw[<-f];exact d
  rw[Sr d,Sr u];have:∀p:LT,UT p.2->Ab p.2=false->Hm p=Aq p.2:=λp c d=>by
   obtain⟨s,t⟩:=p;cases s with
   |false=>rfl
   |true=>rw[Hm,O8 c,if_neg (by simp[d])]
  rw[this _ (i p c) d,this _ (i q l) u,f]
 obtain⟨f,n⟩:=sG (p:=(p.1,C6 (nG x y p.1) p.2)) (q:=(q.1,C6 (nG x y q.1) q.2)) (g p c).1 (g q l).1 h;simp only at f n;have A:Ab p.2=Ab q.2:=by rw[<-(g p c).2,<-(g q l).2,f]
 cases d:Ab p.2 with
 |true=>
  have z:=n (by rw[(g p c).2];exact d);obtain⟨a,m,B⟩:=c;obtain⟨b,k,v⟩:=l;have:p.2=q.2:=by
   rw[<-z]at k f;rcases m with⟨e,m⟩|⟨e,m⟩;rw[e]at f;rcases k with⟨-,k⟩|⟨e2,-⟩;exact o.inj m k B v f;rw[e]at e2;cases e2;rw[e]at f;rcases k with⟨e2,-⟩|⟨-,k⟩;rw[e]at e2;cases e2;exact r.inj m k B v f
  rw[show p=q from GB z this]
 |false=>
  rw[d]at A;rw[Sr d,Sr A.symm]at h;exact h
 rw[Nx (i p c),Nx (g p c).1,(g p c).2];rw[Nx (i p c)]at d;rw[Sr d]
def ZI (x k y):aX (ren x) k (ren y)=(aX x k y).map λb=>(b.1,Br (nG x y b.1) b.2):=by
 unfold aX ren;simp only[BH];have a:y.A.map (IW true∘Br (Au y))=(y.A.map (IW true)).map λb=>(b.1,Br (nG x y b.1) b.2):=by rw[BH];rfl
 have c:x.A.map (IW false∘Br (Au x))=(x.A.map (IW false)).map λb=>(b.1,Br (nG x y b.1) b.2):=by rw[BH];rfl
 rw[a,c,Ri]
def ZH (x y B):nN (ren x) (B.map λb=>(b.1,Br (nG x y b.1) b.2))=(nN x B).map λp=>(p.1,C6 (nG x y p.1) p.2):=by
 unfold nN;simp only[EU,BH,LH,JG,ren,Br];rfl
def RP {x y k}(f:x.o=false)(g:y.o=false){p}(h:p∈nN x (aX x k y)):rY x y p:=by
 rcases AW.1 h with h|h;obtain⟨t,a,rfl⟩:=AN.1 h;exact⟨x.h,.inl ⟨rfl,Ap (.inl ⟨f,rfl⟩)⟩,a⟩;obtain⟨b,d,h⟩:=EX.1 h;obtain⟨t,a,rfl⟩:=AN.1 h;rcases rT d with⟨e,c⟩|⟨e,c⟩;exact⟨b.2,.inl ⟨e,Ap (.inr c)⟩,a⟩;exact⟨b.2,.inr ⟨e,Ap (.inr c)⟩,a⟩
def tQ {N N2 x y k}(A:XR x)(v:XR y)(L:∀a∈Af x,∀t∈a.A,UT t)(F:∀a∈Af y,∀t∈a.A,UT t)(B:x.h.B∈N/\∀a∈x.A,a.B∈N)(G:∀a∈y.A,a.B∈N)(m:x.h.B∈N2/\∀a∈x.A,a.B∈N2)(r:∀a∈y.A,a.B∈N2):(Kt N x k y).map (Cz N)=(Kt N2 (ren x) k (ren y)).map (Cz N2):=by
 rw[pV B.2 B.1 G,pV (x:=ren x) (y:=ren y) (λa d=>by
  obtain⟨b,f,rfl⟩:=AN.1 d;exact m.2 b f) m.1 λa d=>by
  obtain⟨b,f,rfl⟩:=AN.1 d;exact r b f]
 have n:=YN A v L F;show _=((x.A.map (Br (Au x)))[k]?).bind _;rw[DC];cases d:x.A[k]? with
 |none=>rfl
 |some a=>
  have I:=AY d;simp only[FU,GJ];have D:(Br (Au x) a).A.map (λt=>Hm (false,t))=(a.A.map λt=>(false,t)).map λp:LT=>Hm (p.1,C6 (nG x y p.1) p.2):=by simp only[Br,BH];rfl
  have e2:(ren y).h.A.map (λt=>Hm (true,t))=(y.h.A.map λt=>(true,t)).map λp:LT=>Hm (p.1,C6 (nG x y p.1) p.2):=by simp only[ren,Br,BH];rfl
  have K:a.A.map (λt=>Hm (false,t))=(a.A.map λt=>(false,t)).map Hm:=by rw[BH];rfl
  have M:y.h.A.map (λt=>Hm (true,t))=(y.h.A.map λt=>(true,t)).map Hm:=by rw[BH];rfl
  rw[D,e2,K,M]
  rcases eD n (a.A.map λt=>(false,t)) (y.h.A.map λt=>(true,t)) BY BY (UP n) (λp c=>by
   obtain⟨t,e,rfl⟩:=AN.1 c;exact⟨a,.inl ⟨rfl,Ap (.inr I)⟩,e⟩) (λp c=>by
   obtain⟨t,e,rfl⟩:=AN.1 c
   exact⟨y.h,.inr ⟨rfl,Ap (.inl ⟨v.o,rfl⟩)⟩,e⟩)with⟨u,s⟩|⟨P,P2,u,s,hR⟩
  rw[u,s];rfl;rw[u,s];simp only[GJ,Option.some.injEq];rw[ZI,ZH x y];simp only[BH];have H:∀p∈nN x (aX x k y),rY x y p:=λp c=>RP A.o v.o c;have o:∀p,rY x y p->∃q,rY x y q/\Hl P (Hm p)=Hm q/\Hl P2 (Hm (p.1,C6 (nG x y p.1) p.2))=Hm (q.1,C6 (nG x y q.1) q.2):=hR.2.2;have j:∀p∈nN x (aX x k y),Km (G8 (((nN x (aX x k y)).map λp=>Hl P (Hm p)).foldl vF []) (Hl P (Hm p)))=Km (G8 (((nN x (aX x k y)).map ((λp=>Hl P2 (Hm p))∘λp=>(p.1,C6 (nG x y p.1) p.2))).foldl vF []) (Hl P2 (Hm (p.1,C6 (nG x y p.1) p.2)))):=λp c=>by
   congr 1
   exact VJ (J:=rY x y) (g:=λp=>Hl P (Hm p)) (g2:=(λp=>Hl P2 (Hm p))∘λp=>(p.1,C6 (nG x y p.1) p.2)) (λp q c C=>by
    obtain⟨a,d,i,l⟩:=o p c;obtain⟨b,f,O,E⟩:=o q C;simp only[Function.comp];rw[i,l,O,E];exact n.inj a b d f) (λp c=>by
    obtain⟨a,d,i,l⟩:=o p c;simp only[Function.comp];rw[i,l];exact n.var a d) (λp c z=>by
    obtain⟨a,d,i,l⟩:=o p c;simp only[Function.comp]at z⊢;rw[i]at z;rw[i,l]
    exact n.num a d z) H c
  unfold pI;congr 1;show (⟨false,x.h.B,x.h.A.map _⟩:AE)=⟨false,x.h.B,(x.h.A.map (C6 (Au x))).map _⟩;rw[BH];congr 1;exact CG λt e=>j (false,t) (GK _ (AN.2 ⟨t,e,rfl⟩));rw[BH];refine CG λb f=>?_;simp only[Function.comp,Br,BH,AE.mk.injEq,GM];exact CG λt e=>j (b.1,t) (LI _ (EX.2 ⟨b,f,AN.2 ⟨t,e,rfl⟩⟩))
end Go.Proofs.YtmoeoppbmhfbpabGreatDoorJ
