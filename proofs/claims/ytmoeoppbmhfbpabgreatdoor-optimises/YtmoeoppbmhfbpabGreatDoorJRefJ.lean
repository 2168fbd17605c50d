import Derived.Test.YtmoeoppbmhfbpabGreatDoorJRefA
set_option maxHeartbeats 16000000
set_option maxRecDepth 100000
set_option linter.all false
open List renaming length->Z
namespace Go.Proofs.YtmoeoppbmhfbpabGreatDoorJ
open Go.Abs
def clash (a b:AE):Bool:=b.B==a.B&&decide (Z b.A≠Z a.A)
def Ha (l:n0)(i:Nat):oq:=(l.take i).flatMap Af
def Ct (l:n0)(x:AB)(i j:Nat):oq:=Ha l i++(Af x).take j
def Mh (l:n0)(x:AB)(i j:Nat):Bool:=match (Af x)[j]? with|some a=>(Ct l x i j).any (clash a)|none=>false
def Gn (l:n0)(i:Nat):Bool:=match l[i]? with|some x=>(List.range (Z (Af x))).any (Mh l x i)|none=>false
def TV (l:n0)(i:Nat):Prop:=∀a,a<i->Gn l a=false
def TN (l:n0)(x:AB)(i j:Nat):Prop:=∀b,b<j->Mh l x i b=false
def OF (a:AE)(s:oq)(k:Nat):Prop:=(s.take k).any (clash a)=false
def I3 {l x i j a}(h:(Af x)[j]?=some a):Ct l x i (j+1)=Ct l x i j++[a]:=by
 unfold Ct;rw[AT,h,CR];rfl
def W2 {l x i j a}(h:(Af x)[j]?=some a):Z (Ct l x i (j+1))=Z (Ct l x i j)+1:=by
 rw[I3 h];simp
def dH {l x i}(h:l[i]?=some x):Ct l x i (Z (Af x))=Ct l x (i+1) 0:=by
 unfold Ct Ha;rw[AS,AT,h,List.take_zero,EJ];simp
def AB.fits.atoms {x}(h:x.fits):Z (Af x)<=1001:=by
 obtain⟨a,b,c⟩:=h;unfold Af;split<;>simp<;>omega
def VK {l}(a:∀x∈l,x.fits):∀i,Z (Ha l i)<=i*1001:=by
 intro i;induction i with
 |zero=>simp[Ha]
 |succ i b=>
  unfold Ha at*
  rw[AT,KC,AX];cases h:l[i]? with
  |none=>simp only[Option.toList_none,List.flatMap_nil,CQ];omega
  |some x=>
   have:=(a x (AY h)).atoms;simp only[BN,DN,List.flatMap_nil,EJ];omega
def VU (l cs idl)(R:EL AJ l cs)(hl:Z l<=16)(Q:∀x∈l,x.fits)(z):ni 161 [sl idl (Z l) cs] z λr d=>r=ic (Bn (Gn l) (Z l))/\AD z d:=by
 have ba:=EL.length Cf R;refine Z9 65 [.tmp 2] Tryz.func161 ?_;refine mr ?_
 refine Ae (λm s d=>∃(i c:Nat) (e:oh),m=Z l-i/\i<=Z l/\s 0=sl idl (Z l) cs/\s 3=sl c (Z (Ha l i)) e/\s 4=ic i/\AD z d/\Own z d c (Z (Ha l i))/\EL Bf (Ha l i) e/\TV l i) (Z l)
  ⟨0,1,[],AA,AA,rfl,rfl,rfl,AD.refl _,Own.nil _ _,rfl,λa h=>AA⟩ ?_
 rintro m s d ⟨i,c,e,rfl,hi,t,n,u,o,g,f,E⟩;have hpl:=VK Q i;by_cases D:i<Z l
 ·obtain⟨ih1,V,b1,r1,U,a3⟩:=Cv R (AK D);have H:=Q l[i] (AR D);have C:AC (l[i]?=some l[i]):=AK D;generalize l[i]=x at U a3 H C;have bb:=H.atoms
  refine m0 ?_;intro yb ya;refine Xi (Qq _ _ (AJ.of U) (by have:=H.1;omega) _) ?_;rintro _ _ ⟨v,y,rfl,O,L⟩;refine mr ?_;rename_i z1;have a5:=EL.length A7 O
  refine Ae (λm s d=>∃(j c:Nat) (e:oh),m=Z (Af x)-j/\j<=Z (Af x)/\s 0=sl idl (Z l) cs/\s 3=sl c (Z (Ct l x i j)) e/\s 4=ic i/\s 5=sl v (Z (Af x)) y/\s 6=ic j/\AD z d/\Own z d c (Z (Ct l x i j))/\EL Bf (Ct l x i j) e/\TN l x i j) (Z (Af x))
   ⟨0,c,e,AA,AA,by simp[upd,t],by simp[upd,n,Ct],by simp[upd,u],AG,rfl,o.trans L,by simpa[Ct]using g.keep L,by simpa[Ct]using f,λb h=>AA⟩ ?_
  clear o g f t n u L c e;rintro m s d ⟨j,c,e,rfl,hj,t,n,u,G,K,o,g,f,P⟩;have a9:Z (Ct l x i j)<=100000:=by unfold Ct;simp;omega
  by_cases I:j<Z (Af x)
  ·obtain⟨ia,r,hd⟩:=Ca O (AK I);have q:AC ((Af x)[j]?=some (Af x)[j]):=AK I;generalize (Af x)[j]=a at hd q;have a8:=EL.length A7 f
   refine mr ?_
   refine Ae (λm s d=>∃k:Nat,m=Z (Ct l x i j)-k/\k<=Z (Ct l x i j)/\s 0=sl idl (Z l) cs/\s 3=sl c (Z (Ct l x i j)) e/\s 4=ic i/\s 5=sl v (Z (Af x)) y/\s 6=ic j/\s 7=ic k/\AD z d/\Own z d c (Z (Ct l x i j))/\OF a (Ct l x i j) k) (Z (Ct l x i j))
    ⟨0,AA,AA,by simp[upd,t],by simp[upd,n],by simp[upd,u],by simp[upd,G],by simp[upd,K],rfl,o,g,by simp[OF]⟩ ?_
   clear o g t n u G K;rintro m s d ⟨k,rfl,hk,t,n,u,G,K,h7,o,g,A⟩;by_cases N:k<Z (Ct l x i j)
   ·obtain⟨ib,r',W⟩:=Ca f (AK N);have F:AC ((Ct l x i j)[k]?=some (Ct l x i j)[k]):=AK N;generalize (Ct l x i j)[k]=b at W F
    refine mr ?_;refine Ax Ag (λ_=>True) [25] [0,1,2,3,4,5,6,7,8,9,10,11,12,13,14,15,16,17,18,19,20,21,22,23,24] [25] AH (λ_ _ _ h=>h) ?_;intro yb ya;refine Z3 ?_
    repeat' first|refine Z1 ?_|refine Z8 λyb ya=>?_|refine Z4 ?_;clear ya yb|refine Z2 ?_ ?_<;>intro h ac<;>try exact Xp|refine Z6 ?_;intro B zn J X ae ab ad aa|refine Z3 ?_|exact Zt|apply ya.o;clear ya yb
    all_goals
     first
     |exact⟨_,rfl,by
      rw[Gq (p:=Gn l) D ?_ E];unfold Gn;rw[C.o];refine D4 (k:=j) (a:=j) _ (by simp[I]) ?_;unfold Mh;rw[q.o];refine D4 _ F.o ?_;simp[clash, *]
      first|done|(simp at h;omega)⟩
     |exact⟨Z (Ct l x i j)-(k+1),AA,k+1,rfl,AA,nk,by
      unfold OF at*
      rw[any_take_succ _ F.o,A]
      first
      |(simp[clash, *];done)
      |(simp[clash];intro _;simp at h;omega)⟩
   have T:k=Z (Ct l x i j):=AA;have S:Mh l x i j=false:=by
    unfold Mh;rw[q.o];rw[T]at A;unfold OF at A;rw[AS]at A;exact A
   have HN:AC (Mh l x i j=false):=S;clear S;subst T;refine m5 ?_;intro yb ya;intro B zn J X ae ab ad aa;refine mr ?_;rw[<-W2 (l:=l) (i:=i) q.o]at J;refine⟨Z (Af x)-(j+1),AA,j+1,B,_,rfl,AA,by rw[W2 q.o],nk,J,by rw[I3 q.o];exact f.append (EL.single ⟨_,rfl⟩),?_⟩;intro b M;by_cases a6:b=j
   ·subst a6;exact HN.o
   exact P b AA
  have Y:j=Z (Af x):=AA;subst Y;rw[dH C.o]at n g f;refine mr ?_;refine⟨Z l-(i+1),AA,i+1,c,e,rfl,AA,by simp[Ct],nk,by simpa[Ct]using g,by simpa[Ct]using f,?_⟩;intro a ha;by_cases a7:a=i
  ·subst a7;unfold Gn;rw[C.o];simp only;rw[EV];intro b M;rw[List.mem_range]at M;simp[P b M]
  exact E a AA
 have a0:i=Z l:=AA;subst a0;refine mr ?_
 first
 |exact⟨_,rfl,by rw[Ci E],o⟩
 |exact⟨_,rfl,by rw[Ci E]⟩
def Dp (l:n0)(i:Nat):Bool:=match l[i]? with|some x=>!Db x|none=>false
def mb (l:n0)(i:Nat):Prop:=∀a,a<i->Dp l a=false
def Co (l:n0):Int×Int:=
 if 0<=Bn (Gn l) (Z l) then (3,Bn (Gn l) (Z l))
 else if 0<=Bn (Dp l) (Z l) then (4,Bn (Dp l) (Z l))
 else if 0<=Bn (Hd l) (Z l) then (5,Bn (Hd l) (Z l))
 else (0,0)
abbrev two (p:Int×Int):AV:=tp [ic p.1,ic p.2]
def eP {p n}:Bn p n<n+1:=by
 unfold Bn;split;rename_i i h;have:=ME h;simp at this;omega;omega
def Lc {p n}: -1<=Bn p n:=by
 unfold Bn;split<;>omega
def pL (l cs idl)(g:EL AJ l cs)(A:Z l<=16)(n:∀x∈l,x.fits)(z):ni 105 [sl idl (Z l) cs] z λr c=>r=two (Co l)/\AD z c:=by
 have M:=EL.length Cf g;have H:=@Lc (Gn l) (Z l);have C:=@eP (Gn l) (Z l);have N:=@Lc (Hd l) (Z l);have O:=@eP (Hd l) (Z l);refine Z9 28 [.tmp 2,.tmp 3] Tryz.func105 ?_;refine m0 ?_;intro yb ya;refine Xi (VU l cs idl g A n _) ?_;rintro _ _ ⟨rfl,u⟩;refine m6 ?_ ?_<;>intro h q
 first
 |exact⟨_,rfl,by unfold Co;rw[if_pos (nn h)],nu⟩
 |exact⟨_,rfl,by unfold Co;rw[if_pos (nn h)]⟩
 have y:¬0<=Bn (Gn l) (Z l):=nn h;have o:AC (¬0<=Bn (Gn l) (Z l)):=y;clear y q h H C;rename_i K
 refine Ae (λm s c=>∃i:Nat,m=Z l-i/\i<=Z l/\s 0=sl idl (Z l) cs/\s 4=ic i/\AD z c/\mb l i) (Z l)
  ⟨0,AA,AA,rfl,rfl,u,λa h=>AA⟩ ?_
 rintro m s c ⟨i,rfl,R,Q,S,d,e⟩;clear u;by_cases j:i<Z l;obtain⟨I,E,T,P,t,J⟩:=Cv g (AK j);have v:=n l[i] (AR j);have k:AC (l[i]?=some l[i]):=AK j;generalize l[i]=x at t J v k;refine m0 ?_;intro yb ya;refine Xi (dJ _ _ (AJ.of t) v _) ?_;rintro _ _ ⟨rfl,b⟩;refine m6 ?_ ?_<;>intro h q;have f:Bn (Dp l) (Z l)=i:=Gq j (by unfold Dp;rw[k.o];simpa using h) e;exact⟨_,rfl,by unfold Co;rw[if_neg o.o,f,if_pos AA],d.trans b⟩;have F:Db x=true:=h
 exact⟨Z l-(i+1),AA,i+1,rfl,AA,nk,d.trans b,λa L=>by
  by_cases D:a=i;subst D;unfold Dp;rw[k.o];simp[F]
  exact e a AA⟩
 have G:i=Z l:=AA;subst G;have f:=Ci (p:=Dp l) e;have B:AC (¬0<=Bn (Dp l) (Z l)):=by rw[f];simp[AC]
 clear f e;refine m0 ?_;intro yb ya;refine Xi (yI l cs idl g A n _) ?_;rintro _ _ ⟨rfl,b⟩;refine m6 ?_ ?_<;>intro h q;exact⟨_,rfl,by unfold Co;rw[if_neg o.o,if_neg B.o,if_pos (nn h)],d.trans b⟩;exact⟨_,rfl,by unfold Co;rw[if_neg o.o,if_neg B.o,if_neg (nn h)],d.trans b⟩
def P5:List UInt8->Bool
 |[]=>false
 |b::_=>(b.toNat:Int)==63
def rE (t:List UInt8):AB:={o:=true,h:={nt:=false,B:=(t.drop 1).take (Z t-1),A:=[]},A:=[]}
def T5 (t:List UInt8):AB:=
 {o:=false,h:=D3 ((t.drop 0).take (B7 t 58-0)),A:=if B7 t 58<Z t then (Ix ((t.drop (B7 t 58+2)).take (Z t-(B7 t 58+2))) 44).map D3 else []}
def Ir (t:List UInt8):AB:=if P5 t then rE t else T5 t
def Bl (s:List UInt8):n0:=(Ix s 46).map Ir
def gA (t:List UInt8):Prop:=Z t<=1000/\t≠[]/\(P5 t=false->B7 t 58<Z t->B7 t 58+2<=Z t)
def H4 {α b:Type}{l:List α}{k a}(f:α->b)(h:l[k]?=some a):(l.take (k+1)).map f=(l.take k).map f++[f a]:=by
 rw[AT,h];simp
def L8 (c):∀(s:List UInt8) (d:Bool) (a:List UInt8),∀t∈Cd c s d a,Z t<=Z a+Z s
 |[],d,a=>by
  unfold Cd;split
  ·intro t e;cases e
  intro t e;simp at e;subst e;simp
 |b::r,d,a=>by
  unfold Cd
  all_goals
   simp only[];generalize (if ((b.toNat:Int)==41)=true then false else _)=f;split
   ·intro t e;rcases BD.1 e with rfl|e
    ·simp
    have:=L8 c r f [] t e;simp at this⊢;omega
   intro t e;have:=L8 c r f (a++[b]) t e;simp at this⊢;omega
def L6 {s c t}(h:t∈Ix s c):Z t<=Z s:=by
 have:=L8 c s false [] t h;simpa using this
def Qo {s c}:Z (Ix s c)<=Z s+1:=Kn c s false []
def L2 (s)(hs:Z s<=1000)(hc:Z (Ix s 46)<=1000)(hp:∀t∈Ix s 46,gA t)(z):ni 62 [str s] z λr f=>∃id cs,r=sl id (Z (Bl s)) cs/\EL AJ (Bl s) cs/\AD z f:=by
 refine Z9 70 [.tmp 2] Tryz.func62 ?_;refine m0 ?_;intro yb ya;refine Xi (Sd s _ AA _) ?_;rintro _ _ ⟨J,rfl,az⟩;refine mr ?_;rename_i z1;unfold Bl;generalize Ix s 46=a at hc hp
 refine Ae (λm s f=>∃(i d:Nat) (B:oh),m=Z a-i/\i<=Z a/\s 3=sl d i B/\s 4=sl J (Z a) (a.map str)/\s 5=ic i/\AD z f/\Own z f d i/\EL AJ ((a.take i).map Ir) B) (Z a)
  ⟨0,1,[],AA,AA,rfl,rfl,rfl,az,Own.nil _ _,rfl⟩ ?_
 rintro m s f ⟨i,d,B,rfl,W,T,h4,h5,n,D,y⟩;clear az;have au:=EL.length Cf y;simp only[BV,CN,ER W]at au;have Q:AC (EL AJ ((a.take i).map Ir) B):=y;clear y;by_cases aw:i<Z a
 ·have a3:=A1 aw;obtain⟨p1,p2,P⟩:=hp a[i] (AR aw);have L:AC (a[i]?=some a[i]):=AK aw;generalize a[i]=t at a3 p1 p2 P L;have bc:=R1 t 58;cases t with
  |nil=>exact absurd rfl p2
  |cons b r=>
   have a4:(b::r)[0]?=some b:=rfl;simp only[BQ]at p1 P bc;by_cases G:((b.toNat:Int)==63)=true
   ·refine m5 ?_;intro yb ya;intro c K v I O V N X;refine mr ?_
    refine⟨Z a-(i+1),AA,i+1,c,_,rfl,AA,rfl,nk,v,?_⟩;rw[H4 Ir L.o];refine Q.o.append (EL.single ?_);have W:Ir (b::r)=rE (b::r):=by unfold Ir;rw[if_pos (by exact G)]
    rw[W];exact⟨_,1,[],⟨1,rfl⟩,rfl,by simp[rE]⟩
   have G:((b.toNat:Int)==63)=false:=nn G;have HI:AC (Ir (b::r)=T5 (b::r)):=by unfold AC Ir;rw[if_neg (by simp[P5];simpa using G)]
   have p4:=P G;clear P;by_cases ax:B7 (b::r) 58<Z r+1
   ·have p5:=p4 ax;clear p4
    (repeat (refine m0 ?_;intro yb ya;(first|(refine Xi (Ld _ _ (by first|omega|(simp;omega)) _) ?_;rintro _ _ ⟨rfl,rfl⟩)|(refine Xi (Tu _ (by first|omega|(simp;omega)) _) ?_;rintro _ _ ⟨_,rfl,⟨C,rfl⟩,p⟩;(have ka:=p.B))|(refine Xi (Sd _ _ (by first|omega|(simp;omega)) _) ?_;rintro _ _ ⟨Y,rfl,H⟩;(have R:=H.C _ (by rw[Ac,Aa];exact Nat.lt_succ_self _);rw[Ak]at R;have kc:=H.B;simp only[Ac,Aa]at kc)))));refine mr ?_
    rename_i z2 g zc;rw[show ((B7 (b::r) 58:Nat)+2:Int).toNat=B7 (b::r) 58+2 by omega];have ay:=@Qo (List.take (Z r+1-(B7 (b::r) 58+2)) (List.drop (B7 (b::r) 58+2) (b::r))) 44;have av:=λt=>@L6 (List.take (Z r+1-(B7 (b::r) 58+2)) (List.drop (B7 (b::r) 58+2) (b::r))) 44 t;have a7:Z (List.take (Z r+1-(B7 (b::r) 58+2)) (List.drop (B7 (b::r) 58+2) (b::r)))<=1000:=by simp;omega
    have HR:AC (T5 (b::r)={o:=false,h:=D3 (List.take (B7 (b::r) 58) (b::r)),A:=(Ix (List.take (Z r+1-(B7 (b::r) 58+2)) (List.drop (B7 (b::r) 58+2) (b::r))) 44).map D3}):=by
     unfold AC T5;rw[if_pos (nn ax)];simp
    generalize Ix (List.take (Z r+1-(B7 (b::r) 58+2)) (List.drop (B7 (b::r) 58+2) (b::r))) 44=e at ay av HR;generalize Z (List.take (Z r+1-(B7 (b::r) 58+2)) (List.drop (B7 (b::r) 58+2) (b::r)))=lq at ay av a7;generalize D3 (List.take (B7 (b::r) 58) (b::r))=u at R HR H;have ap:AD g zc:=(((AD.refl g).new _).put (AU _) _).trans H;have bh:AD z g:=n.trans p;have hO':Own z g d i:=D.keep p
    refine Ae (λm s f=>∃(k l:Nat) (F:oh),m=Z e-k/\k<=Z e/\s 3=sl d i B/\s 4=sl J (Z a) (a.map str)/\s 5=ic i/\s 8=ptr g.B 0/\s 9=sl Y (Z e) (e.map str)/\s 10=ic k/\AD g f/\Own g f l k/\f.C g.B=[my false,my u.nt,str u.B,sl C (Z u.A) (u.A.map str),sl l k F]/\g.B<f.B/\AC (EL Bf ((e.take k).map D3) F)) (Z e)
     ⟨0,1,[],AA,AA,by simp[upd,T],by simp[upd,h4],by simp[upd,h5],AG,AG,rfl,ap,Own.nil _ _,R,AA,rfl⟩ ?_
    clear ap H R kc T h4 h5 n p D ka;rintro m s f ⟨k,l,F,rfl,hk,T,h4,h5,h8,h9,bm,n,D,U,hn,M⟩;have an:=EL.length A7 M.o;simp only[BV,CN,ER hk]at an;by_cases S:k<Z e
    ·have a5:=A1 S;have a6:=av e[k] (AR S);have HM:AC (e[k]?=some e[k]):=AK S;generalize e[k]=t at a5 a6 HM
     refine mr ?_;refine Ax Ag (λ_=>True) [10] [0,1,2,3,4,5] [6,7,8,9,10] AH (λ_ _ _ h=>h) ?_;intro yb ya;refine Z3 ?_;refine mz ?_;refine Xi (Tu _ AA _) ?_;rintro _ _ ⟨_,rfl,⟨it,rfl⟩,E⟩;(have kt:=E.C _ hn;rw[U]at kt;have ktn:=E.B;have bg:=n.trans E;have be:=D.keep E);refine mr ?_;refine And.intro (Al (E.lay 1)) ?_;refine Bo (by first|exact It|exact Q8) bg be nr (by rfl) an (by rfl) (by rfl) nr AA AA ?_;intro c K v I O V N X;have a9:∀q,Kept (λj=>![10].contains j) (λx=>True) f q K:=λq _ o U _=>by rw[N];exact E.ver o U
     have bi:K.C g.B=[my false,my u.nt,str u.B,sl C (Z u.A) (u.A.map str),sl l k F]:=by rw[O];exact kt
     refine Z3 ?_
     repeat' first|refine And.intro (a9 _) ?_|refine And.intro (A3 rfl) ?_
     refine mr ?_;have a0:EL Bf ((e.take (k+1)).map D3) (F++[sc (Value.bool (D3 t).nt),str (D3 t).B,sl it (Z (D3 t).A) (List.map str (D3 t).A)]):=by
      rw[H4 D3 HM.o];exact M.o.append (EL.single ⟨_,rfl⟩)
     first
     |exact⟨Z e-(k+1),AA,k+1,c,_,rfl,AA,nk,I.put (AU _) _,v,rfl,a0⟩
     |exact⟨Z e-(k+1),AA,k+1,c,_,rfl,AA,nk,I.put (AU _) _,v,rfl,AA,a0⟩
    have a8:k=Z e:=AA;subst a8;rw[AS]at M;have bf:=bh.trans n;have bd:=hO'.keep n;clear n D;refine m5 ?_;intro yb ya;intro c K v I O V N X;refine mr ?_;refine⟨Z a-(i+1),AA,i+1,c,_,rfl,AA,rfl,nk,v,?_⟩;rw[H4 Ir L.o];refine Q.o.append (EL.single ?_);rw[HI.o,HR.o];exact⟨_,l,F,⟨C,rfl⟩,M.o,nk⟩
   clear p4
   (repeat (refine m0 ?_;intro yb ya;(first|(refine Xi (Ld _ _ (by first|omega|(simp;omega)) _) ?_;rintro _ _ ⟨rfl,rfl⟩)|(refine Xi (Tu _ (by first|omega|(simp;omega)) _) ?_;rintro _ _ ⟨_,rfl,⟨C,rfl⟩,p⟩;(have ka:=p.B)))));refine nh ?_;intro yb ya
   rename_i z2 g;have bf:=((n.trans p).new [sc (Value.bool false),sc (Value.bool false),sc (Value.string (bs [])),nilS,nilS]).put (n.trans p).B [sc (Value.bool false),sc (Value.bool (D3 (List.take (B7 (b::r) 58) (b::r))).nt),str (D3 (List.take (B7 (b::r) 58) (b::r))).B,sl C (Z (D3 (List.take (B7 (b::r) 58) (b::r))).A) (List.map str (D3 (List.take (B7 (b::r) 58) (b::r))).A),nilS];have bd:=D.keep ((p.new [sc (Value.bool false),sc (Value.bool false),sc (Value.string (bs [])),nilS,nilS]).put p.B [sc (Value.bool false),sc (Value.bool (D3 (List.take (B7 (b::r) 58) (b::r))).nt),str (D3 (List.take (B7 (b::r) 58) (b::r))).B,sl C (Z (D3 (List.take (B7 (b::r) 58) (b::r))).A) (List.map str (D3 (List.take (B7 (b::r) 58) (b::r))).A),nilS]);refine m4 ?_;intro c K v I O V N X;refine mr ?_;refine⟨Z a-(i+1),AA,i+1,c,_,rfl,AA,rfl,nk,v,?_⟩;rw[H4 Ir L.o];refine Q.o.append (EL.single ?_);rw[HI.o];unfold T5;rw[if_neg (nn ax)];exact⟨_,1,[],⟨C,rfl⟩,rfl,nk⟩
 have ba:i=Z a:=AA;subst ba;refine mr ?_;have y:=Q.o;rw[AS]at y
 first
 |exact⟨_,rfl,d,B,nk,y,n⟩
 |exact⟨_,rfl,d,B,nk,y⟩
def oO (nt s):Z (Ps nt s).A<=Z s:=by
 unfold Ps;simp only;split;rename_i h;refine BI Qo ?_;simp;omega;simp
def Uk (s):Z (D3 s).A<=Z s:=by
 unfold D3;refine BI (oO _ _) ?_;unfold Jd;split;simp;exact AU _
def rV {t}(h:Z t<=1000):(Ir t).fits:=by
 unfold Ir;split;exact⟨by simp[rE],by simp[rE],by simp[rE]⟩;unfold T5;refine⟨?_,?_,?_⟩;simp only;split;rw[BV];refine BI Qo ?_;simp;omega;simp;simp only;refine BI (Uk _) ?_;simp;omega;simp only;split;intro a b;rw[AN]at b;obtain⟨u,c,rfl⟩:=b;refine BI (Uk _) ?_;refine BI (L6 c) ?_;simp;omega;simp
def nV (s:List UInt8):Prop:=Z (Ix s 46)<=16/\∀t∈Ix s 46,gA t
def Av (s:List UInt8):Int×Int:=
 if 600<Z s then (1,0)else if 0<=Eo s then (2,Eo s)else Co (Bl s)
def aP (s)(d:Z s<=600->¬0<=Eo s->nV s)(e: -1<=Eo s/\Eo s<=Z s)(z):ni 60 [str s] z λr j=>r=two (Av s)/\AD z j:=by
 obtain⟨y,v⟩:=e;refine Z9 18 [.tmp 2,.tmp 3] Tryz.func60 ?_;by_cases b:600<Z s
 ·have g:Av s=(1,0):=by unfold Av;rw[if_pos b]
  refine mr ?_;exact⟨_,rfl,rfl,AD.refl _⟩
 have d:=d AA;by_cases f:0<=Eo s
 ·have g:Av s=(2,Eo s):=by unfold Av;rw[if_neg b,if_pos f]
  refine m0 ?_;intro yb ya;refine Xi (X4 s AA _) ?_;rintro _ _ ⟨rfl,a⟩;refine mr ?_
  first
  |exact⟨_,rfl,rfl,a⟩
  |exact⟨_,rfl,rfl⟩
 have g:Av s=Co (Bl s):=by unfold Av;rw[if_neg b,if_neg f]
 obtain⟨p,i⟩:=d f;have k:Z (Bl s)<=16:=by unfold Bl;simpa using p
 have u:∀x∈Bl s,x.fits:=by
  intro x c;unfold Bl at c;rw[AN]at c;obtain⟨t,m,rfl⟩:=c;exact rV (i t m).1
 repeat' first|refine Z1 ?_|refine Z8 λyb ya=>?_|refine Z4 ?_;clear ya yb|refine Z2 ?_ ?_<;>intro h B<;>try exact Xp|(refine Z5 ?_;first|(refine Xi (X4 s AA _) ?_;rintro _ _ ⟨rfl,a⟩)|(refine Xi (L2 s AA AA i _) ?_;rintro _ _ ⟨q,A,rfl,n,l⟩)|(refine Xi (pL _ _ _ n k u _) ?_;rintro _ _ ⟨rfl,o⟩))|refine Z3 ?_|exact Zt|apply ya.o;clear ya yb
 exact⟨_,rfl,rfl,(a.trans l).trans o⟩
abbrev Tx:=List UInt8
abbrev ol:=List Tx
inductive Rd (α:Type) where
 |bad (e:Tx)
 |got (x:α) (r:Tx)
def Rd.bnd {α a:Type}:Rd α->(α->Tx->Rd a)->Rd a
 |.bad e,_=>.bad e
 |.got x r,f=>f x r
def A6 (c:Int):Bool:=decide (48<=c)&&decide (c<=57)
def A5 (c:Int):Tx->Rd Unit
 |[]=>.bad []
 |b::r=>if ((b.toNat:Int)==c)=true then .got () r else .bad (b::r)
def Ay (p:Int->Bool):Nat->Tx->Tx×Tx
 |0,s=>([],s)
 |_+1,[]=>([],[])
 |n+1,b::r=>if p b.toNat=true then (b::(Ay p n r).1,(Ay p n r).2)else ([],b::r)
def E7 (s:Tx):Rd Tx:=if (Ay B6 6 s).1=[]then .bad s else .got (Ay B6 6 s).1 (Ay B6 6 s).2
def C0:Tx->Rd Tx
 |[]=>.bad []
 |b::r=>if Bs b.toNat=true then .got [b] r else if ((b.toNat:Int)==48)=true then .got [b] r
  else if Gv b.toNat=true then .got (b::(Ay A6 2 r).1) (Ay A6 2 r).2 else .bad (b::r)
def D9 {α:Type}(f:Tx->Rd α):Nat->Tx->Rd (List α)
 |0,s=>.got [] s
 |_+1,[]=>.got [] []
 |n+1,b::r=>if ((b.toNat:Int)==44)=true then
  (f r).bnd λx a=>(D9 f n a).bnd λd c=>.got (x::d) c
  else .got [] (b::r)
def Yh (a:Bool)(p:Tx)(s:Tx):Rd AE:=
 (C0 s).bnd λt r=>(D9 C0 2 r).bnd λb r=>(A5 41 r).bnd λ_ r=>.got {nt:=a,B:=p,A:=t::b} r
def Ea (a:Bool)(s:Tx):Rd AE:=
 (E7 s).bnd λp r=>(A5 40 r).bnd λ_ r=>Yh a p r
def K4:Tx->Rd AE
 |[]=>.bad []
 |b::r=>if ((b.toNat:Int)==33)=true then Ea true r else Ea false (b::r)
def Ua (h:AE)(s:Tx):Rd AB:=
 (K4 s).bnd λl r=>(D9 K4 4 r).bnd λa r=>(A5 46 r).bnd λ_ r=>.got {o:=false,h:=h,A:=l::a} r
def Po (h:AE):Tx->Rd AB
 |[]=>.bad []
 |b::r=>if ((b.toNat:Int)==46)=true then .got {o:=false,h:=h,A:=[]} r else
  (A5 58 (b::r)).bnd λ_ r=>(A5 45 r).bnd λ_ r=>Ua h r
def Pp (s:Tx):Rd AB:=(Ea false s).bnd λh r=>Po h r
def gB (s:Tx):Rd AB:=
 (E7 s).bnd λp r=>(A5 46 r).bnd λ_ r=>.got {o:=true,h:={nt:=false,B:=p,A:=[]},A:=[]} r
def F4:Tx->Rd AB
 |[]=>.bad []
 |b::r=>if ((b.toNat:Int)==63)=true then gB r else Pp (b::r)
def Cc:Nat->Tx->Rd n0
 |_,[]=>.got [] []
 |0,s=>.bad s
 |n+1,s=>(F4 s).bnd λx r=>(Cc n r).bnd λa r=>.got (x::a) r
def stop:BE->Tx->Option Tx
 |X,[]=>if X.st !=0 then some []else none
 |X,c::r=>if (A9 X c).2=true then stop (A9 X c).1 r else some (c::r)
def xD:∀(s:Tx) (X:BE) (i:Nat),
  (match (M8 X s i).2 with|some j=>(j:Int)|none=>if (M8 X s i).1.st !=0 then ((i+Z s:Nat):Int)else -1)=match stop X s with|some r=>((i+Z s-Z r:Nat):Int)|none=> -1:=by
 intro s;induction s with
 |nil=>intro X i;simp only[M8,stop];split<;>simp_all
 |cons c r a=>
  intro X i;unfold M8 stop;by_cases h:(A9 X c).2=true;simp only[h,if_true];have:=a (A9 X c).1 (i+1);rw[show i+Z (c::r)=i+1+Z r by simp;omega];exact this;simp only[h];simp
def mA (s):Eo s=match stop J6 s with|some r=>((Z s-Z r:Nat):Int)|none=> -1:=by
 have:=xD s J6 0;unfold Eo;rw[DY]at this;rw[<-this];rfl
def BW {α:Type}(P:BE->Prop)(a:Rd α)(o:Option Tx):Prop:=
 match a with
 |.bad e=>o=some e
 |.got _ r=>∃b,P b/\o=stop b r
def BW.bind {α c:Type}{P Q a o}{f:α->Tx->Rd c}(h:BW P a o)(k:∀x r b,P b->BW Q (f x r) (stop b r)):BW Q (a.bnd f) o:=by
 cases a with
 |bad e=>exact h
 |got x r=>
  obtain⟨b,d,rfl⟩:=h;exact k x r b d
def BW.ret {α:Type}{P}{x:α}{r X}(h:P X):BW P (.got x r) (stop X r):=⟨X,h,rfl⟩
def BW.err {α:Type}{P e o}(h:o=some e):BW (α:=α) P (.bad e) o:=h
def Dk {X c r}(h:(A9 X c).2=true):stop X (c::r)=stop (A9 X c).1 r:=by
 rw[stop,if_pos h]
def Gj {X c r}(h:(A9 X c).2=false):stop X (c::r)=some (c::r):=by
 rw[stop,if_neg (by simp[h])]
def Du {X}(h:X.st≠0):stop X []=some []:=by
 rw[stop,if_pos (nn h)]
def OQ (X a:BE):Prop:=a.items=X.items/\a.lits=X.lits/\a.h=X.h
def UI:∀(n:Nat) (s:Tx) (X:BE),X.st=5->X.letters=6-(n:Int)->n<=6->
  BW (λi=>i.st=6/\i.A=0/\OQ X i) (A5 40 (Ay B6 n s).2) (stop X s):=by
 intro n;induction n with
 |zero=>
  intro s X d g k;cases s with
  |nil=>exact BW.err (Du AA)
  |cons b r=>
   unfold Ay A5;simp only;by_cases c:((b.toNat:Int)==40)=true;rw[if_pos c];have e:A9 X b=({X with A:=0,st:=6},true):=by
    simp[A9,D7,d,g,c]
   rw[Dk (by rw[e]),e];exact BW.ret ⟨rfl,rfl,rfl,rfl,rfl⟩;rw[if_neg c];refine BW.err (Gj ?_);simp[A9,D7,d,g,c]
 |succ n j=>
  intro s X d g k;cases s with
  |nil=>exact BW.err (Du AA)
  |cons b r=>
   unfold Ay;by_cases f:B6 b.toNat=true;rw[if_pos f];have e:A9 X b=({X with letters:=X.letters+1},true):=by
    simp[A9,D7,d,f];omega
   rw[Dk (by rw[e]),e];exact j r {X with letters:=X.letters+1} d (by simp;omega) AA;rw[if_neg f];unfold A5;simp only;by_cases c:((b.toNat:Int)==40)=true;rw[if_pos c];have e:A9 X b=({X with A:=0,st:=6},true):=by
    simp[A9,D7,d,f,c]
   rw[Dk (by rw[e]),e];exact BW.ret ⟨rfl,rfl,rfl,rfl,rfl⟩;rw[if_neg c];refine BW.err (Gj ?_);simp[A9,D7,d,f,c]
def Gy {α b c:Type}(a:Rd α)(f)(g:b->Tx->Rd c):(a.bnd f).bnd g=a.bnd λx r=>(f x r).bnd g:=by cases a<;>rfl
def CB {c}:A6 c=true↔(Gv c=true\/(c==48)=true):=by
 simp[A6,Gv];omega
def Nq {c}(h:Bs c=true):Gv c=false:=by
 simp[Bs,Gv]at*;omega
def M4 {X s}(f:X.st=7)(h:∀b r,s=b::r->A6 b.toNat=true->¬X.digits<3):stop X s=stop {X with st:=8} s:=by
 cases s with
 |nil=>rw[Du AA,Du nk]
 |cons b r=>
  have k:=h b r rfl;have g:¬((X.st==7)=true/\decide (X.digits<3)=true/\(Gv b.toNat=true\/((b.toNat:Int)==48)=true)):=by
   rintro⟨-,j,i⟩;exact k (CB.2 i) (nn j)
  have l:A9 X b=if ((b.toNat:Int)==41)=true then ({X with lits:=if (!X.h)=true then X.lits+1 else X.lits,st:=9},true)else if ((b.toNat:Int)==44)=true/\decide (X.A<3)=true then ({X with st:=6},true)else (X,false):=by
   unfold A9 D7;rw[if_pos (by simp[f]),if_neg (by simp[f]),if_neg (by simp[f]),if_neg g]
  have e2:A9 {X with st:=8} b=if ((b.toNat:Int)==41)=true then ({X with lits:=if (!X.h)=true then X.lits+1 else X.lits,st:=9},true)else if ((b.toNat:Int)==44)=true/\decide (X.A<3)=true then ({X with st:=6},true)else ({X with st:=8},false):=by
   unfold A9 D7;rw[if_pos nk,if_neg nk,if_neg nk,if_neg nk]
  unfold stop;rw[l,e2];by_cases e:((b.toNat:Int)==41)=true;rw[if_pos e,if_pos e];rw[if_neg e,if_neg e];by_cases d:((b.toNat:Int)==44)=true/\decide (X.A<3)=true;rw[if_pos d,if_pos d];rw[if_neg d,if_neg d];rfl
def pQ:∀(n:Nat) (s:Tx) (X:BE),X.st=7->X.digits=3-(n:Int)->∃f,f.st=8/\f.A=X.A/\OQ X f/\stop X s=stop f (Ay A6 n s).2:=by
 intro n;induction n with
 |zero=>
  intro s X a l;exact⟨{X with st:=8},rfl,rfl,⟨rfl,rfl,rfl⟩,M4 a (λ_ _ _ _=>AA)⟩
 |succ n k=>
  intro s X a l;cases s with
  |nil=>exact⟨{X with st:=8},rfl,rfl,⟨rfl,rfl,rfl⟩,M4 a (λ_ _ h _=>by cases h)⟩
  |cons b r=>
   unfold Ay;by_cases g:A6 b.toNat=true;rw[if_pos g];have e:A9 X b=({X with digits:=X.digits+1},true):=by
    have:=CB.1 g;unfold A9 D7;rw[if_pos (by simp[a]),if_neg (by simp[a]),if_neg (by simp[a]),if_pos ⟨by simp[a],by simp;omega,this⟩]
   rw[Dk (by rw[e]),e];obtain⟨f,p,m,o,t⟩:=k r {X with digits:=X.digits+1} a (by simp;omega);exact⟨f,p,m,o,t⟩;rw[if_neg g];exact⟨{X with st:=8},rfl,rfl,⟨rfl,rfl,rfl⟩,M4 a (λc q h j=>by cases h;exact absurd j g)⟩
def jB (s X)(f:X.st=6):BW (λd=>d.st=8/\d.A=X.A+1/\OQ X d) (C0 s) (stop X s):=by
 cases s with
 |nil=>exact BW.err (Du AA)
 |cons b r=>
  unfold C0;by_cases a:Bs b.toNat=true;simp only[a,if_true];have e:A9 X b=({X with A:=X.A+1,digits:=1,st:=8},true):=by
   simp[A9,D7,f,a,Nq a]
  rw[Dk (by rw[e]),e];exact BW.ret ⟨rfl,rfl,rfl,rfl,rfl⟩;simp only[a];by_cases g:((b.toNat:Int)==48)=true;have c:Gv b.toNat=false:=by simp[Gv]at*;omega
  simp only[g,if_true];have e:A9 X b=({X with A:=X.A+1,digits:=1,st:=8},true):=by
   simp[A9,D7,f,a,g,c]
  rw[Dk (by rw[e]),e];exact BW.ret ⟨rfl,rfl,rfl,rfl,rfl⟩;simp only[g];by_cases c:Gv b.toNat=true;simp only[c,if_true];have e:A9 X b=({X with A:=X.A+1,digits:=1,st:=7},true):=by
   simp[A9,D7,f,c]
  rw[Dk (by rw[e]),e];obtain⟨d,k,i,j,l⟩:=pQ 2 r {X with A:=X.A+1,digits:=1,st:=7} rfl nk;exact⟨d,⟨k,i,j⟩,l⟩;simp only[c];refine BW.err (Gj ?_);simp[A9,D7,f,a,g,c]
def OI (c a:Int)(b:Bool)(X:BE):Prop:=X.st=9/\X.items=c/\X.h=b/\X.lits=if b=true then a else a+1
def bI {g:Type}(s X)(k:g)(c:X.st=8)(h:∀b r,s=b::r->((b.toNat:Int)==44)=true->¬X.A<3):
  BW (OI X.items X.lits X.h) ((A5 41 s).bnd λ_ r=>.got k r) (stop X s):=by
 cases s with
 |nil=>exact BW.err (Du AA)
 |cons b r=>
  unfold A5;have i:=h b r rfl;by_cases a:((b.toNat:Int)==41)=true;simp only[a,if_true];have e:A9 X b=({X with lits:=if (!X.h)=true then X.lits+1 else X.lits,st:=9},true):=by
   simp[A9,D7,c,a]
  rw[Dk (by rw[e]),e];refine BW.ret ⟨rfl,rfl,rfl,?_⟩;cases X.h<;>simp;simp only[a];refine BW.err (Gj ?_);simp[A9,D7,c,a];rw[if_neg];rintro⟨f,j⟩;have:=i (nn f);omega
def UM {g:Type}:∀(n:Nat) (s:Tx) (X:BE) (k:ol->g),X.st=8->X.A=3-(n:Int)->
  BW (OI X.items X.lits X.h) ((D9 C0 n s).bnd λf r=>(A5 41 r).bnd λ_ r=>.got (k f) r) (stop X s):=by
 intro n;induction n with
 |zero=>
  intro s X k a t;exact bI s X (k []) a (λ_ _ _ _=>AA)
 |succ n o=>
  intro s X k a t;cases s with
  |nil=>exact BW.err (Du AA)
  |cons b r=>
   unfold D9;by_cases d:((b.toNat:Int)==44)=true;simp only[d,if_true];have e:A9 X b=({X with st:=6},true):=by
    have:¬((b.toNat:Int)==41)=true:=by simp at*;omega
    simp[A9,D7,a,d,this];omega
   rw[Dk (by rw[e]),e,Gy];refine BW.bind (jB r {X with st:=6} rfl) ?_;rintro x m p ⟨y,u,v,z,l⟩;rw[Gy];have:=o m p (λf=>k (x::f)) y (by simp at u;omega);rw[v,z,l]at this;exact this;simp only[d];exact bI (b::r) X (k []) a (λc q h j=>by cases h;exact absurd j d)
def Vr (nt b r X it li hd)(i:B6 b.toNat=true->∃a,A9 X b=(a,true)/\a.st=5/\a.letters=1/\a.items=it/\a.lits=li/\a.h=hd)
  (x:B6 b.toNat=false->(A9 X b).2=false):BW (OI it li hd) (Ea nt (b::r)) (stop X (b::r)):=by
 unfold Ea E7;by_cases c:B6 b.toNat=true;obtain⟨a,e,D,H,s,p,f⟩:=i c;rw[Dk (by rw[e]),e];have d:Ay B6 6 (b::r)=(b::(Ay B6 5 r).1,(Ay B6 5 r).2):=by rw[Ay,if_pos c]
 rw[d];simp only[reduceCtorEq,if_false,Rd.bnd];refine BW.bind (UI 5 r a D AA AA) ?_;rintro _ g o ⟨q,G,u,E,C⟩;unfold Yh;refine BW.bind (jB g o q) ?_;rintro t j y ⟨l,F,k,z,n⟩;have:=UM 2 j y (λm=>({nt:=nt,B:=b::(Ay B6 5 r).1,A:=t::m}:AE)) l AA;rw[k,u,s,z,E,p,n,C,f]at this;exact this;have v:B6 b.toNat=false:=nn c;have d:Ay B6 6 (b::r)=([],b::r):=by rw[Ay,if_neg c]
 rw[d];simp only[if_true,Rd.bnd];exact BW.err (Gj (x v))
def tL (s X)(g:X.st=3):BW (OI X.items X.lits X.h) (K4 s) (stop X s):=by
 cases s with
 |nil=>exact BW.err (Du AA)
 |cons b r=>
  unfold K4;by_cases f:((b.toNat:Int)==33)=true;simp only[f,if_true];have e:A9 X b=({X with letters:=1,st:=4},true):=by simp[A9,C2,g,f]
  rw[Dk (by rw[e]),e];cases r with
  |nil=>
   refine BW.err (Du nk)
  |cons c q=>
   refine Vr true c q _ _ _ _ (λd=>⟨{X with letters:=1,st:=5},?_,rfl,rfl,rfl,rfl,rfl⟩) (λd=>?_);simp[A9,C2,d];simp[A9,C2,d]
  simp only[f];refine Vr false b r _ _ _ _ (λd=>⟨{X with letters:=1,st:=5},?_,rfl,rfl,rfl,rfl,rfl⟩) (λd=>?_);simp[A9,C2,g,f,d];simp[A9,C2,g,f,d]
def Next (a:Int)(X:BE):Prop:=X.st=0/\X.items=a+1
def tM {f:Type}(s X)(k:f)(d:X.st=9)(i:X.h=false)(h:∀b r,s=b::r->((b.toNat:Int)==44)=true->¬X.lits<5):
  BW (Next X.items) ((A5 46 s).bnd λ_ r=>.got k r) (stop X s):=by
 cases s with
 |nil=>exact BW.err (Du AA)
 |cons b r=>
  unfold A5;have g:=h b r rfl;by_cases a:((b.toNat:Int)==46)=true;simp only[a,if_true];have e:A9 X b=({X with items:=X.items+1,st:=0},true):=by simp[A9,C2,d,a]
  rw[Dk (by rw[e]),e];exact BW.ret ⟨rfl,rfl⟩;simp only[a];refine BW.err (Gj ?_);simp[A9,C2,d,a,i];rw[if_neg];rintro⟨j,l⟩;have:=g (nn j);omega
def UJ {j:Type}:∀(n:Nat) (s:Tx) (X:BE) (k:oq->j),X.st=9->X.h=false->X.lits=5-(n:Int)->
  BW (Next X.items) ((D9 K4 n s).bnd λg r=>(A5 46 r).bnd λ_ r=>.got (k g) r) (stop X s):=by
 intro n;induction n with
 |zero=>
  intro s X k d a u;exact tM s X (k []) d a (λ_ _ _ _=>AA)
 |succ n p=>
  intro s X k d a u;cases s with
  |nil=>exact BW.err (Du AA)
  |cons b r=>
   unfold D9;by_cases f:((b.toNat:Int)==44)=true;simp only[f,if_true];have e:A9 X b=({X with st:=3},true):=by
    have i:¬((b.toNat:Int)==46)=true:=by simp at*;omega
    simp[A9,C2,d,f,i,a];omega
   rw[Dk (by rw[e]),e,Gy];refine BW.bind (tL r {X with st:=3} rfl) ?_;rintro x o t ⟨i,v,y,z⟩;rw[Gy];have:=p o t (λg=>k (x::g)) i (by rw[y];exact a) (by simp[a]at z;omega);rw[v]at this;exact this;simp only[f];exact tM (b::r) X (k []) d a (λc q h m=>by cases h;exact absurd m f)
def UL (h s X)(e:X.st=3)(a:X.h=false)(c:X.lits=0):BW (Next X.items) (Ua h s) (stop X s):=by
 unfold Ua;refine BW.bind (tL s X e) ?_;rintro x r f ⟨g,d,i,b⟩;have:=UJ 4 r f (λj=>({o:=false,h:=h,A:=x::j}:AB)) g (by rw[i];exact a) (by simp[a,c]at b;omega);rw[d]at this;exact this
def UH (h s X)(i:X.st=9)(k:X.h=true)(l:X.lits=0):BW (Next X.items) (Po h s) (stop X s):=by
 cases s with
 |nil=>exact BW.err (Du AA)
 |cons b r=>
  unfold Po;by_cases a:((b.toNat:Int)==46)=true;simp only[a,if_true];have e:A9 X b=({X with items:=X.items+1,st:=0},true):=by simp[A9,C2,i,a]
  rw[Dk (by rw[e]),e];exact BW.ret ⟨rfl,rfl⟩;simp only[a];unfold A5;by_cases f:((b.toNat:Int)==58)=true;simp only[f,if_true];have e:A9 X b=({X with st:=10},true):=by simp[A9,C2,i,a,f,k]
  rw[Dk (by rw[e]),e];cases r with
  |nil=>exact BW.err (Du nk)
  |cons c q=>
   by_cases g:((c.toNat:Int)==45)=true;simp only[g,if_true,Rd.bnd];have e:A9 {X with st:=10} c=({X with h:=false,st:=3},true):=by simp[A9,C2,g]
   simp only[EI,if_false];rw[Dk (by rw[e]),e];exact UL h q {X with h:=false,st:=3} rfl rfl l;simp only[g,Rd.bnd];refine BW.err (Gj ?_);simp[A9,C2,g]
  simp only[f];refine BW.err (Gj ?_);simp[A9,C2,i,a,f,k]
def wO:∀(n:Nat) (s:Tx) (X:BE) (k:Tx->AB),X.st=2->X.letters=6-(n:Int)->
  BW (Next X.items) ((A5 46 (Ay B6 n s).2).bnd λ_ r=>.got (k (Ay B6 n s).1) r) (stop X s):=by
 intro n;induction n with
 |zero=>
  intro s X k f i;cases s with
  |nil=>exact BW.err (Du AA)
  |cons b r=>
   unfold Ay A5;by_cases c:((b.toNat:Int)==46)=true;simp only[c,if_true];have e:A9 X b=({X with items:=X.items+1,st:=0},true):=by simp[A9,C2,f,i,c]
   rw[Dk (by rw[e]),e];exact BW.ret ⟨rfl,rfl⟩;simp only[c];refine BW.err (Gj ?_);simp[A9,C2,f,i,c]
 |succ n j=>
  intro s X k f i;cases s with
  |nil=>exact BW.err (Du AA)
  |cons b r=>
   unfold Ay;by_cases g:B6 b.toNat=true;simp only[g,if_true];have e:A9 X b=({X with letters:=X.letters+1,st:=2},true):=by
    simp[A9,C2,f,g];omega
   rw[Dk (by rw[e]),e];exact j r {X with letters:=X.letters+1,st:=2} (λx=>k (b::x)) rfl (by simp;omega);simp only[g];unfold A5;by_cases c:((b.toNat:Int)==46)=true;simp only[EI,if_false,c,if_true];have e:A9 X b=({X with items:=X.items+1,st:=0},true):=by simp[A9,C2,f,g,c]
   rw[Dk (by rw[e]),e];exact BW.ret ⟨rfl,rfl⟩;simp only[EI,if_false,c];refine BW.err (Gj ?_);simp[A9,C2,f,g,c]
def UK (b r X)(f:X.st=0)(g:X.items≠16):BW (Next X.items) (F4 (b::r)) (stop X (b::r)):=by
 unfold F4;by_cases d:((b.toNat:Int)==63)=true;simp only[d,if_true];have e:A9 X b=({X with h:=true,letters:=0,lits:=0,st:=1},true):=by simp[A9,C2,f,g,d]
 rw[Dk (by rw[e]),e];unfold gB E7;cases r with
 |nil=>exact BW.err (Du nk)
 |cons c q=>
  by_cases a:B6 c.toNat=true;have i:Ay B6 6 (c::q)=(c::(Ay B6 5 q).1,(Ay B6 5 q).2):=by rw[Ay,if_pos a]
  rw[i];simp only[reduceCtorEq,if_false,Rd.bnd];have e:A9 {X with h:=true,letters:=0,lits:=0,st:=1} c=({X with h:=true,letters:=1,lits:=0,st:=2},true):=by simp[A9,C2,a]
  rw[Dk (by rw[e]),e];exact wO 5 q {X with h:=true,letters:=1,lits:=0,st:=2} (λx=>{o:=true,h:={nt:=false,B:=c::x,A:=[]},A:=[]}) rfl nk;have i:Ay B6 6 (c::q)=([],c::q):=by rw[Ay,if_neg a]
  rw[i];simp only[if_true,Rd.bnd];refine BW.err (Gj ?_);simp[A9,C2,a]
 simp only[d];unfold Pp;refine BW.bind (Vr false b r X X.items 0 true (λa=>⟨{X with h:=true,letters:=1,lits:=0,st:=5},?_,rfl,rfl,rfl,rfl,rfl⟩) (λa=>?_)) ?_;simp[A9,C2,f,g,d,a];simp[A9,C2,f,g,d,a];rintro x r j ⟨m,k,l,n⟩;have:=UH x r j m l (nn n);rw[k]at this;exact this
def wP:∀(n:Nat) (s:Tx) (X:BE),X.st=0->X.items=16-(n:Int)->stop X s=match Cc n s with|.bad e=>some e|.got _ _=>none:=by
 intro n;induction n with
 |zero=>
  intro s X a f;cases s with
  |nil=>simp[stop,Cc,a]
  |cons b r=>
   simp only[Cc];refine Gj ?_;simp[A9,C2,a,f]
 |succ n g=>
  intro s X a f;cases s with
  |nil=>simp[stop,Cc,a]
  |cons b r=>
   have c:=UK b r X a AA;unfold Cc;cases d:F4 (b::r)with
   |bad e=>rw[d]at c;exact c
   |got x q=>
    rw[d]at c;obtain⟨j,⟨k,l⟩,i⟩:=c;rw[i,g q j k AA];simp only[Rd.bnd];cases Cc n q<;>rfl
def Hb (s):Eo s=match Cc 16 s with|.bad e=>((Z s-Z e:Nat):Int)|.got _ _=> -1:=by
 rw[mA,wP 16 s J6 rfl rfl];cases Cc 16 s<;>rfl
def L9 {b:UInt8}(c)(h:((b.toNat:Int)==(c.toNat:Int))=true):b=c:=by
 have:b.toNat=c.toNat:=by simp at h;omega
 exact UInt8.toNat_inj.1 this
def Jy (p:Tx):Prop:=p≠[]/\∀b∈p,B6 b.toNat=true
def Mm (t:Tx):Prop:=t≠[]/\∀b∈t,Bs b.toNat=true\/A6 b.toNat=true
def En (a:AE):Prop:=Jy a.B/\a.A≠[]/\Z a.A<=3/\∀t∈a.A,Mm t
def Dc (x:AB):Prop:=Jy x.h.B/\(x.o=true->x.h.nt=false/\x.h.A=[]/\x.A=[])/\(x.o=false->En x.h/\x.h.nt=false/\Z x.A<=5/\∀a∈x.A,En a)
def Ch (a:ol):Tx:=a.flatMap λt=>44::t
def Bp:ol->Tx
 |[]=>[]
 |t::a=>t++Ch a
def Bh (a:AE):Tx:=a.B++40::(Bp a.A++[41])
def Cl (a:AE):Tx:=(if a.nt=true then [33]else [])++Bh a
def D1 (x:AB):Tx:=Bh x.h++(if x.A=[]then []else 58::45::Bp (x.A.map Cl))
def Bz (x:AB):Tx:=if x.o=true then 63::x.h.B else D1 x
def A8 {α b:Type}{a:Rd α}{f}{y:b}{r}(h:a.bnd f= .got y r):∃x q,a= .got x q/\f x q= .got y r:=by
 cases a with
 |bad e=>cases h
 |got x q=>exact⟨x,q,rfl,h⟩
def I7 {c s r x}(h:A5 c.toNat s= .got x r):s=c::r:=by
 cases s with
 |nil=>cases h
 |cons b q=>
  unfold A5 at h;dsimp only at h;split at h;rename_i a;cases h;rw[L9 c a];cases h
def Ek (p):∀(n:Nat) (s:Tx),s=(Ay p n s).1++(Ay p n s).2/\(∀b∈(Ay p n s).1,p b.toNat=true)
 |0,s=>by simp[Ay]
 |n+1,[]=>by simp[Ay]
 |n+1,b::r=>by
  unfold Ay;split;rename_i h;obtain⟨e,d⟩:=Ek p n r;refine⟨by simp;exact e,?_⟩;intro c a;rcases BD.1 a with rfl|a;exact h;exact d c a;simp
def Qc {s r p}(h:E7 s= .got p r):s=p++r/\Jy p:=by
 unfold E7 at h;split at h;cases h;rename_i a;cases h;exact⟨(Ek B6 6 s).1,a,(Ek B6 6 s).2⟩
def Ya {s r t}(h:C0 s= .got t r):s=t++r/\Mm t:=by
 cases s with
 |nil=>cases h
 |cons b q=>
  unfold C0 at h;dsimp only at h;split at h;rename_i d;cases h;exact⟨rfl,nk,by simp[d]⟩;split at h;rename_i i;cases h;refine⟨rfl,nk,?_⟩;intro c a;simp at a;subst a;right;simp[A6]at*
  omega;split at h;rename_i f;cases h;obtain⟨g,e⟩:=Ek A6 2 q;refine⟨by simp;exact g,nk,?_⟩;intro c a;rcases BD.1 a with rfl|a;right;exact CB.2 (.inl f);right;exact e c a;cases h
def Yc {α:Type}{W:α->Prop}{u f}(g:∀s x r,f s= .got x r->s=u x++r/\W x):∀(n:Nat) (s:Tx) (xs:List α) (r:Tx),D9 f n s= .got xs r->
  s=Ch (xs.map u)++r/\Z xs<=n/\∀x∈xs,W x:=by
 intro n;induction n with
 |zero=>intro s xs r h;cases h;simp[Ch]
 |succ n e=>
  intro s xs r h;cases s with
  |nil=>cases h;simp[Ch]
  |cons b q=>
   unfold D9 at h;split at h;rename_i i;obtain⟨x,z,o,j⟩:=A8 h;obtain⟨t,v,l,p⟩:=A8 j;cases p;obtain⟨k,d⟩:=g _ _ _ o;obtain⟨m,A,c⟩:=e _ _ _ l;refine⟨?_,by simp;omega,?_⟩;rw[L9 44 i,k,m];simp[Ch];intro y a;rcases BD.1 a with rfl|a;exact d;exact c y a;cases h;simp[Ch]
def Jg {d s r a}(h:Ea d s= .got a r):s=Bh a++r/\En a/\a.nt=d:=by
 unfold Ea Yh at h;obtain⟨p,D,q,h⟩:=A8 h;obtain⟨_,A,k,h⟩:=A8 h;obtain⟨t,B,m,h⟩:=A8 h;obtain⟨E,F,v,h⟩:=A8 h;obtain⟨_,C,e,h⟩:=A8 h;cases h;obtain⟨j,l⟩:=Qc q;have z:=I7 (c:=40) k;obtain⟨i,g⟩:=Ya m;obtain⟨f,G,n⟩:=Yc (u:=id) (λs x r h=>Ya h) _ _ _ _ v;have o:=I7 (c:=41) e;refine⟨?_,⟨l,nk,by simp;omega,?_⟩,rfl⟩;rw[j,z,i,f,o];simp[Bh,Bp];intro y b;rcases BD.1 b with rfl|b;exact g;exact n y b
def dX {s r a}(h:K4 s= .got a r):s=Cl a++r/\En a:=by
 cases s with
 |nil=>cases h
 |cons b q=>
  unfold K4 at h;dsimp only at h;split at h;rename_i f;obtain⟨e,c,d⟩:=Jg h;exact⟨by rw[L9 33 f,e];simp[Cl,d],c⟩;obtain⟨e,c,d⟩:=Jg h;exact⟨by rw[e];simp[Cl,d],c⟩
def Yf {s r x}(h:F4 s= .got x r):s=Bz x++46::r/\Dc x:=by
 cases s with
 |nil=>cases h
 |cons b q=>
  unfold F4 at h;dsimp only at h;split at h;rename_i C;unfold gB at h;obtain⟨p,j,g,h⟩:=A8 h;obtain⟨_,v,f,h⟩:=A8 h;cases h;obtain⟨e,a⟩:=Qc g;have d:=I7 (c:=46) f;exact⟨by rw[L9 63 C,e,d];simp[Bz],a,nk,nk⟩;unfold Pp at h;obtain⟨K,j,g,h⟩:=A8 h;obtain⟨e,a,d⟩:=Jg g;cases j with
  |nil=>cases h
  |cons c v=>
   unfold Po at h;dsimp only at h;split at h;rename_i u;cases h;exact⟨by rw[e,L9 46 u];simp[Bz,D1],a.1,nk,λ_=>⟨a,d,nk,nk⟩⟩;unfold Ua at h;obtain⟨_,I,f,h⟩:=A8 h;obtain⟨_,L,o,h⟩:=A8 h;obtain⟨l,J,E,h⟩:=A8 h;obtain⟨G,H,k,h⟩:=A8 h;obtain⟨_,M,A,h⟩:=A8 h;cases h;have F:=I7 (c:=58) f;have m:=I7 (c:=45) o;obtain⟨t,B⟩:=dX E;obtain⟨n,N,D⟩:=Yc (λs x r h=>dX h) _ _ _ _ k;have z:=I7 (c:=46) A;refine⟨by rw[e,F,m,t,n,z];simp[Bz,D1,Bp],a.1,nk,λ_=>⟨a,d,by simp;omega,?_⟩⟩;intro y i;rcases BD.1 i with rfl|i;exact B;exact D y i
def Cr (l:n0):Tx:=l.flatMap λx=>Bz x++[46]
def Ka:∀(n:Nat) (s:Tx) (l:n0) (r:Tx),Cc n s= .got l r->s=Cr l/\r=[]/\Z l<=n/\∀x∈l,Dc x:=by
 intro n;induction n with
 |zero=>
  intro s l r h;cases s with
  |nil=>cases h;simp[Cr]
  |cons b q=>cases h
 |succ n c=>
  intro s l r h;cases s with
  |nil=>cases h;simp[Cr]
  |cons b q=>
   unfold Cc at h;obtain⟨x,o,j,h⟩:=A8 h;obtain⟨p,m,g,h⟩:=A8 h;cases h;obtain⟨f,i⟩:=Yf j;obtain⟨k,e,t,d⟩:=c _ _ _ g;refine⟨by rw[f,k];simp[Cr],e,by simp;omega,?_⟩;intro y a;rcases BD.1 a with rfl|a;exact i;exact d y a
end Go.Proofs.YtmoeoppbmhfbpabGreatDoorJ
