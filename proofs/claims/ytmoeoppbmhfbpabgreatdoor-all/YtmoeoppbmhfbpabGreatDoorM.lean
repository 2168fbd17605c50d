import Derived.Test.YtmoeoppbmhfbpabGreatDoorJ
import Derived.Test.YtmoeoppbmhfbpabGreatDoorLa
set_option maxHeartbeats 64000000
set_option maxRecDepth 100000
set_option linter.all false
open List
open List renaming length->Z
namespace Go.Proofs.YtmoeoppbmhfbpabGreatDoorJ
open Go.Abs Tryz
def lN (l:List Int)(a:Dx):Dx:=⟨a.p,a.ts.map (G8 l)⟩
def JS (l:List Int)(x:Lit):Lit:=⟨x.neg,lN l x.a⟩
def Fa (a:E3):E3:=⟨lN (Fc a) a.h,a.A.map (JS (Fc a))⟩
def bJ {i}(c:LP i):Z (Fc i)<=1000:=by
 have g:=Fs (l:=Hs i) λa b=>by
  obtain rfl|b:=BD.1 b;exact c.h3;obtain⟨l,d,rfl⟩:=AN.1 b;exact c.b3 l d
 have e:=c.bl;have f:Z (Hs i)=Z i.A+1:=by simp[Hs]
 rw[Fc];omega
def xQ (b c)(hc:T1 false b c)(y:LP b)(z):
  ni 93 [ag c] z λx g=>(∃c',x=ag c'/\T1 false (Fa b) c')/\W z g:=by
 have u:=λz=>Mk b c hc y z;have bb:=bJ y;have bh:=y.bl;obtain⟨K,id,a0,rfl,hb⟩:=hc;have bg:=r.length Hk hb;unfold Fa;generalize Fc b=j at u bb;have R:=λd z=>Oy j d b.h.p K b.h.ts L (ny y.h3) z;have U:=λd (a:Lit) G (ha:a∈b.A) z=>Oy j d a.a.p G a.a.ts L (ny (y.b3 a ha)) z;refine wl func93 ?_;refine mt u ?_;rintro yb ya _ _ ⟨⟨d,rfl⟩,P⟩;have m:=P.C;have ao:=P.B;simp only[Aa]at ao;refine X ?_;rename_i B;have e:B.C z.B=[my false,Y b.h.p,X1 K b.h.ts,sl id (Z b.A) a0]:=by
  rw[m _ AM,Ah AM,Ao]
 have C:B.C (z.B+1)=[my false,Y 0,H,H]:=by
  rw[m _ AM,Be (by rw[Aa];omega) (by rw[Aa];omega)]
 have i:W z B:=Xs;clear m P;refine A2 (Q:=λa1 s g=>a1= .normal/\∃o l:Nat,s 1=ptr z.B 0/\s 2=ptr (z.B+1) 0/\s 3=X2 d j/\s 4=ptr o 0/\z.B+1<o/\o<g.B/\g.C z.B=[my false,Y b.h.p,X1 K b.h.ts,sl id (Z b.A) a0]/\g.C (z.B+1)=[my false,Y 0,H,H]/\g.C o=[my false,Y b.h.p,sl l (Z b.h.ts) (Ad (b.h.ts.map (G8 j))),H]/\W z g) ?_ ?_
 ·refine bT [8] [0,1,2,3,4] 4 (nv 9 31) ?_;have a2:=λz=>R d z;refine D8 (rs:=[5,7]) AH nk ?_;intro ai v;simp only[BD,EK,DZ]at v;obtain rfl|rfl:=v
  ·refine Am ?_;intro yb ya;refine Z3 ?_;refine AF.mono (a2 _) ?_;rintro _ F ⟨⟨l,rfl⟩,f⟩;have q:=f.C;have an:=f.B;refine ux ?_;refine D8 (rs:=[6,7]) AH nk ?_;intro ai v;simp only[BD,EK,DZ]at v;obtain rfl|rfl:=v
   ·refine ta ?_;refine rl 7 ?_;refine rl 8 ?_;refine Aw AH ⟨rfl,F.B,l,AG,AG,AG,AG,L,BJ,?_,?_,Ak,?_⟩
    ·rw[Aj L,Ah L,q _ L,e]
    ·rw[Aj L,Ah L,q _ L,C]
    exact ((i.trans f).new _).put L _
   refine ta ?_;refine rl 6 ?_;refine rl 8 ?_;refine Aw AH ⟨rfl,F.B,l,AG,AG,AG,AG,L,BJ,?_,?_,Ak,?_⟩
   ·rw[Aj L,Ah L,q _ L,e]
   ·rw[Aj L,Ah L,q _ L,C]
   exact ((i.trans f).new _).put L _
  refine ta ?_;refine tn 5 a2 ?_;rintro yb ya _ F ⟨⟨l,rfl⟩,f⟩;have q:=f.C;have an:=f.B;simp only[Aa]at an;refine ux ?_;refine rl 6 ?_;refine rl 8 ?_;refine Aw AH ⟨rfl,B.B,l,AG,AG,AG,AG,L,BJ,?_,?_,Ak,?_⟩
  ·rw[Aj L,q _ (by rw[Aa];omega),Ah L,e]
  ·rw[Aj L,q _ (by rw[Aa];omega),Ah L,C]
  exact ((i.new _).trans f).put L _
 rintro a1 s F ⟨rfl,o,l,h1,a3,a4,a5,bf,M,a8,T,S,n⟩;have N:=n.B;clear i e C ao R;refine X ?_
 refine wn [2,3,4,18,19] 20 (Z b.A) (λk s g=>∃(D:Nat) (p:oh),W z g/\o<g.B/\g.C (z.B+1)=[my false,Y 0,H,H]/\g.C o=[my false,Y b.h.p,sl l (Z b.h.ts) (Ad (b.h.ts.map (G8 j))),sl D k p]/\J z g D k/\Z p=k*3/\V (r Sq ((b.A.take k).map (JS j)) p)) ⟨1,[],n,M,T,S,J.nil _ _,nk,rfl⟩ ?_
 clear h1 a3 a4 a5 a8 T S n M N;rintro k s g _ _ _ ⟨D,p,n,M,T,S,hO,ba,A⟩;have N:=n.B;by_cases ad:k<Z b.A
 ·obtain⟨a,E⟩:=gq ad;obtain⟨G,rr,hd⟩:=H8 hb E;have ah:=λz=>U d a G (AY E) z;have HX:V (∀t,r Sq ((b.A.take (k+1)).map (JS j)) (p++[my a.neg,Y a.a.p,sl t (Z a.a.ts) (Ad (a.a.ts.map (G8 j)))])):=λt=>by
   rw[AT,E,BN,EU];exact r.append A.o (r.single ⟨t,by simp[JS,lN]⟩)
  clear E A U;refine mt ah ?_;rintro yb ya _ _ ⟨⟨t,rfl⟩,I⟩;have a9:=I.C;have ay:=I.B;simp only[Aa,Ac]at ay;refine nh ?_;intro yb ya;rename_i z4;have be:=((n.new [my false,Y 0,H]).put n.B _).trans I;have bd:=J.keep (J.put (J.new hO [my false,Y 0,H]) g.B [my a.neg,Y a.a.p,X1 G a.a.ts]) I;refine hZ ((be.new _).put L _) ?_;intro ac zn ak am af aa ae ab;simp only[Ac,Aa]at aa;refine X ?_;exact⟨ac,p++[my a.neg,Y a.a.p,sl t (Z a.a.ts) (Ad (a.a.ts.map (G8 j)))],qj (HX.o t)⟩
 obtain rfl:k=Z b.A:=L;rw[AS]at A;refine X ?_;exact⟨_,rfl,⟨_,rfl,l,D,p,by simp[lN],A.o⟩,n.put L _⟩
def rS (b o c)(n:Nat)(Lqx i2 b2)(N:T1 o b c)(bi:Z b.A<=100)(hL:r Sq Lqx b2)(hl:Z Lqx<=100)(z):
  ni 211 [ag c,Y n,sl i2 (Z Lqx) b2] z λx l=>(∃c',x=ag c'/\T1 false ⟨b.h,rpl n Lqx b.A⟩ c')/\W z l:=by
 obtain⟨C,id,a8,rfl,hb⟩:=N;have bg:=r.length Hk hb;have bh:=r.length Hk hL;refine wl func211 ?_;refine X ?_
 refine wn [1,2,6,7,16,17] 18 (Z b.A) (λk s l=>∃(d:Nat) (R:List Lit) (e:oh),W z l/\z.B+2<l.B/\l.C (z.B+1)=[my false,Y 0,H,H]/\l.C (z.B+2)=[my false,Y b.h.p,X1 C b.h.ts,sl d (Z R) e]/\J z l d (Z R)/\Z e=Z R*3/\Z R<=k*(Z Lqx+1)/\V (R=rpl n Lqx (b.A.take k)/\r Sq R e)) ⟨1,[],[],?_,?_,?_,?_,J.nil _ _,nk,nk,⟨by simp[rpl],rfl⟩⟩ ?_
 ·exact ((((W.refl z).new _).new _).new _).put L _
 ·simp only[Ac,Aa];omega
 ·rw[Aj L,Ah AM,Be (by rw[Aa];omega) (by rw[Aa];omega)]
 ·rw[show z.B+2=z.B+1+1 by omega,Ak];rfl
 rintro k s l _ ⟨h1,a4,h6,h7,a3,a5⟩ a0 ⟨d,R,e,g,T,m,D,u,E,be,p⟩;have U:=g.B;by_cases ba:k<Z b.A
 ·obtain⟨a,A⟩:=gq ba;obtain⟨P,rr,hd⟩:=H8 hb A;have bm:Z R<=10100:=BI be (BI (Nat.mul_le_mul (by omega:k<=100) (by omega:Z Lqx+1<=101)) nr);have S:=Rj (n:=n) (o:=Lqx) b.A (k+1);have f:=W5 (n:=n) (o:=Lqx) A;rw[<-p.o.1]at f;by_cases v:k=n
  ·rw[if_pos v]at f;have a9:((k:Int) !=(n:Int))=false:=ns v
   have a2:V _:=f;have a6:V (r Sq R e):=p.o.2;rw[f,AX]at S;clear f A p v;refine X ?_
   refine wn [1,2,6,7,16,17,18,32,33] 34 (Z Lqx) (λj s q=>∃(d:Nat) (i:oh),W z q/\z.B+2<q.B/\q.C (z.B+1)=[my false,Y 0,H,H]/\q.C (z.B+2)=[my false,Y b.h.p,X1 C b.h.ts,sl d (Z R+j) i]/\J z q d (Z R+j)/\Z i=(Z R+j)*3/\V (r Sq (R++Lqx.take j) i)) ⟨d,e,Xs,BJ,by rw[Aj L,Ah L,m],by rw[Aj L,Ah L,D];rfl,(nn (J.put (J.new u _) _ _)),nn E,nn a6⟩ ?_
   clear h1 a4 h6 h7 a3 a5 a0 g u U E a6 m D T;rintro j s q _ _ _ ⟨d,i,g,T,m,D,u,a7,B⟩;have U:=g.B;by_cases ax:j<Z Lqx
   ·obtain⟨y,F⟩:=gq ax;obtain⟨Q,rj,bd⟩:=H8 hL F;have bf:V (r Sq (R++Lqx.take (j+1)) (i++[my y.neg,Y y.a.p,X1 Q y.a.ts])):=by
     rw[V,AT,F,BN,<-CR];exact r.append B.o (r.single ⟨Q,rfl⟩)
    clear F B;refine nh ?_;intro yb ya;refine hZ ((g.new _).put g.B _) ?_;intro t zn M K ad a1 ac ab;refine X ?_;exact⟨t,i++[my y.neg,Y y.a.p,X1 Q y.a.ts],oj⟩
   obtain rfl:j=Z Lqx:=L;rw[AS]at B;have I:V (R++Lqx=rpl n Lqx (b.A.take (k+1))/\r Sq (R++Lqx) i):=⟨a2.o.symm,B.o⟩
   rw[<-AX]at D
   refine X ?_;refine⟨d,R++Lqx,i,?_⟩;exact m9 I
  rw[if_neg v]at f;have a9:((k:Int) !=(n:Int)):=nn (by omega:¬(k:Int)=n);have I:V (R++[a]=rpl n Lqx (b.A.take (k+1))/\r Sq (R++[a]) (e++[my a.neg,Y a.a.p,X1 P a.a.ts])):=⟨f.symm,r.append p.o.2 (r.single ⟨P,rfl⟩)⟩;rw[f]at S;clear f A p v;refine nh ?_;intro yb ya;refine hZ ((g.new _).put g.B _) ?_;intro t zn M K ad a1 ac ab;refine X ?_;refine⟨t,R++[a],e++[my a.neg,Y a.a.p,X1 P a.a.ts],?_⟩
  ((repeat' refine Zi ?_ ?_)<;>first|exact Xq|exact I|exact (K.put L _)|exact ((nn (J.put M _ _)))|exact ((by simp[E];omega))|exact ((nn Ak))|exact Xs)
 obtain rfl:k=Z b.A:=L;let⟨G,e2⟩:=p.o;rw[AS]at G;have HE:V (∀c,c=[my false,Y b.h.p,X1 C b.h.ts,sl d (Z R) e]->T1 false ⟨b.h,rpl n Lqx b.A⟩ c):=λc N=>by
  rw[<-G];exact⟨C,d,e,N,e2⟩
 clear p G e2;refine X ?_;exact⟨_,rfl,⟨_,rfl,HE.o _ rfl⟩,g.put L _⟩
def OT (t:Tm):Prop:=∃w,UT w/\Aq w=t
def OT.dec {t}(h:OT t):UT (Km t)/\Aq (Km t)=t:=by obtain⟨w,a,rfl⟩:=h;rw[a.dec.1];exact⟨a,rfl⟩
def pS {k:Nat}(e:k<26):UT [Im k]/\Aq [Im k]=(true,(k:Int)):=by have a:=E4 (k:=(k:Int)) L L;have d:=a;refine⟨⟨.inl d,⟨nk,λb c=>?_⟩,nk,λ_=>⟨k,e,rfl⟩⟩,?_⟩;simp at c;subst c;exact .inl a;rw[Et a,Fv L L];congr 1;omega
def iq {k:Nat}(a:k<26):OT (true,(k:Int)):=⟨_,(pS a).1,(pS a).2⟩
def KV (t:Tm):Prop:=zU t/\(t.1=false->OT t)
def OT.w {t}(h:OT t):KV t:=by refine⟨λa=>?_,λ_=>h⟩;obtain⟨w,b,rfl⟩:=h;rw[Cb]at a;obtain⟨k,c,-,e⟩:=b.enc a;grind
structure II (P:List Tm):Prop where
 len:Z P=52
 w:∀t∈P,KV t
def II.of {P}(h:II P){t}(a:KV t):KV (Hl P t):=by
 rw[Hl];split;rename_i b;cases e:P[t.2.toNat]? with
 |none=>exact a
 |some u=>exact h.w u (AY e)
 exact a
def II.wi {P}(h:II P){v t}(c:KV t):II (Us P v t):=
 ⟨by rw[Of];exact h.len,λu b=>by
  obtain⟨x,a,rfl⟩:=AN.1 b;split;exact c
  exact h.w x a⟩
def JP:OT (false,0):=⟨[48],⟨.inr ⟨rfl,(by show Lib.itoa 0=[48];simp[Lib.itoa,Lib.decDigits]),nr,nr⟩,⟨nk,nr⟩,nk,λh=>by cases h⟩,rfl⟩
def SD:II BU:=⟨oV,λt a=>by
 obtain⟨i,b,rfl⟩:=AN.1 a;split;exact⟨λ_=>⟨26+i,L,nk⟩,λh=>gp⟩
 exact JP.w⟩
def QZ:II BY:=⟨Ni,λt a=>by
 obtain⟨i,b,rfl⟩:=AN.1 a
 exact⟨λ_=>⟨i,nn b,rfl⟩,λh=>gp⟩⟩
def rK:∀{d f P b:List Tm},II P->(∀t∈d,KV t)->(∀t∈f,KV t)->Dy P d f=some b->II b
 |[],_,P,b,h,_,_,e=>by cases e;exact h
 |_::_,[],_,_,_,_,_,e=>by cases e
 |t::d,u::f,P,b,h,i,g,e=>by rw[Dy]at e;let⟨Q,a,e⟩:=Option.bind_eq_some_iff.1 e;refine rK ?_ (λx c=>i x (ns c)) (λx c=>g x (ns c)) e;rw[Np]at a;have k:=h.of (i t nk);have j:=h.of (g u nk);split at a;cases a;exact h;split at a;cases a;exact h.wi k;split at a;cases a;exact h.wi j;cases a
def KO (q:Tx):Prop:=Jy q/\Z q<=1000
structure JK (N:ol)(ar:Tx->Nat)(a:Dx):Prop where
 nm:∃q∈N,a.p=(N.idxOf q:Nat)/\KO q/\Z a.ts=ar q
 pos:0<Z a.ts
 le3:Z a.ts<=3
 w:∀t∈a.ts,KV t
structure GQ (N:ol)(ar:Tx->Nat)(rqx:E3):Prop where
 hd:JK N ar rqx.h
 bd:∀l∈rqx.A,JK N ar l.a
 bl:Z rqx.A<=100
def GQ.r52 {N ar c}(h:GQ N ar c):LP c:=⟨h.hd.le3,λl a=>(h.bd l a).le3,h.bl,λt b=>(h.hd.w t b).1,λl a t b=>((h.bd l a).w t b).1⟩
def JK.pin {N ar a}(h:JK N ar a){P}(b:II P):JK N ar (P9 P a):=by
 let⟨q,f,d,e,g⟩:=h.nm
 exact⟨⟨q,f,d,e,by grind[P9]⟩,by simpa[P9]using h.pos,by simpa[P9]using h.le3,λt i=>by
  obtain⟨u,c,rfl⟩:=AN.1 i
  exact b.of (h.w u c)⟩
def GQ.pin {N ar d}(h:GQ N ar d){P}(a:II P):GQ N ar (Fj P d):=
 ⟨h.hd.pin a,λl b=>by
  obtain⟨k,c,rfl⟩:=AN.1 b
  exact (h.bd k c).pin a,by simpa[Fj]using h.bl⟩
def GQ.join {N ar f s}(h:GQ N ar f)(g:GQ N ar s)(n)(c:Z f.A<=5)(e:Z s.A<=5):GQ N ar ⟨f.h,rpl n s.A f.A⟩:=
 ⟨h.hd,λl a=>by
  obtain a|a:=Cy a;exact h.bd l a;exact g.bd l a,by
  have b:=Rj (n:=n) (o:=s.A) f.A (Z f.A);rw[AS]at b;have d:Z f.A*(Z s.A+1)<=5*6:=Nat.mul_le_mul c L;grind⟩
def sV {N ar x}(g:KP N ar x)(j:KL N x)(f:x.o=false)(d:Dc x):GQ N ar (Ce N x):=by
 let⟨o,p,q,n⟩:=d.2.2 f;have c:∀a∈Af x,ML N ar a->En a->JK N ar (Eg N a):=λa b e i=>
  ⟨⟨a.B,e.mem,rfl,⟨i.1,(j.at_ a b).2.1⟩,by simp[Eg,e.len]⟩,by simpa[Eg,length_pos_iff]using i.2.1,by simpa[Eg]using e.le3,λt m=>by
   obtain⟨w,d,rfl⟩:=AN.1 m
   exact OT.w ⟨w,(j.at_ a b).2.2 w d,rfl⟩⟩
 refine⟨c _ (Ap (.inl ⟨f,rfl⟩)) g.h o,λl k=>?_,by grind[Ce]⟩;obtain⟨a,b,rfl⟩:=AN.1 k;exact c a (Ap (.inr b)) (g.A a b) (n a b)
def Kt (N:ol)(x:AB)(k:Nat)(y:AB):Option E3:=
 (x.A[k]?).bind λa=>(Dy BY (a.A.map Aq) (Fj BU (Ce N y)).h.ts).map λP=>Fa (Fj P ⟨(Ce N x).h,rpl k (Fj BU (Ce N y)).A (Ce N x).A⟩)
def Fw (q:Tx)(y:AB):Bool:=!y.o&&decide (y.h.B=q)
def Lo (N:ol)(l:n0)(x:AB)(k:Nat)(q:Tx):List E3:=(l.filter (Fw q)).filterMap (Kt N x k)
structure IF (N:ol)(ar:Tx->Nat)(a:Dx):Prop where
 nm:∃q∈N,a.p=(N.idxOf q:Nat)/\KO q/\Z a.ts=ar q
 pos:0<Z a.ts
 le3:Z a.ts<=3
 ot:∀t∈a.ts,OT t
structure FB (N:ol)(ar:Tx->Nat)(rqx:E3):Prop where
 hd:IF N ar rqx.h
 bd:∀l∈rqx.A,IF N ar l.a
def N7 (N:ol)(b:Bool)(a:Dx):AE:=⟨b,(N[a.p.toNat]?).getD [],a.ts.map Km⟩
def Cz (N:ol)(a:E3):AB:=⟨false,N7 N false a.h,a.A.map λl=>N7 N l.neg l.a⟩
def IF.at {N ar a}(h:IF N ar a)(b):(N7 N b a).B∈N/\KO (N7 N b a).B/\Z (N7 N b a).A=ar (N7 N b a).B/\Eg N (N7 N b a)=a/\∀t∈(N7 N b a).A,UT t:=by
 let⟨q,f,d,i,j⟩:=h.nm;have e:(N7 N b a).B=q:=by
  show (N[a.p.toNat]?).getD []=q;rw[d,DK,AK (CS f),FN];rfl
 rw[e];refine⟨f,i,by grind[N7],?_,λt c=>?_⟩;rw[Eg];rw[e,<-d];show (⟨a.p,(a.ts.map Km).map Aq⟩:Dx)=a;have:(a.ts.map Km).map Aq=a.ts:=by
  rw[BH]
  conv=>rhs;rw[<-IE a.ts]
  exact CG λt c=>(h.ot t c).dec.2
 rw[this];obtain⟨u,g,rfl⟩:=AN.1 c;exact (h.ot u g).dec.1
def FB.rul {N ar d}(h:FB N ar d):Ce N (Cz N d)=d:=by
 let⟨c,b⟩:=d;rw[Ce,Cz];simp only[(h.hd.at false).2.2.2.1,BH];congr 1
 conv=>rhs;rw[<-IE b]
 refine CG λl a=>?_;show (⟨(N7 N l.neg l.a).nt,Eg N (N7 N l.neg l.a)⟩:Lit)=l;rw[((h.bd l a).at l.neg).2.2.2.1];rfl
def pG {N}:∀{l:oq} {b:oh},(∀a∈l,a.B∈N)->r Sq (l.map (E6 N)) b->r (PL N) l b
 |[],_,_,h=>h
 |a::l,_,g,⟨c,d,⟨id,e⟩,i,e2⟩=>⟨c,d,⟨g a nk,id,by simp_all[E6,Eg,Jr]⟩,pG (λb f=>g b (ns f)) i,e2⟩
def OV {N x c}(h:PI N x c):T1 x.o (Ce N x) c:=by obtain⟨e,d,id,b,a,rfl⟩:=h;exact⟨d,id,b,by simp[Ce,Eg,Jr],tF a⟩
def pE {N x c}(f:x.h.B∈N)(h2:∀a∈x.A,a.B∈N)(h:T1 x.o (Ce N x) c):PI N x c:=by obtain⟨e,id,b,rfl,d⟩:=h;exact⟨f,e,id,b,pG h2 d,by simp[Ce,Eg,Jr]⟩
def FB.pi {N ar f}(h:FB N ar f){c}(b:T1 false f c):PI N (Cz N f) c:=by refine pE (h.hd.at false).1 (λa d=>?_) (by rw[h.rul];exact b);obtain⟨l,e,rfl⟩:=AN.1 d;exact ((h.bd l e).at l.neg).1
def FB.atoms {N ar f}(h:FB N ar f){a}(d:a∈Af (Cz N f)):∃m b,a=N7 N b m/\IF N ar m:=by
 have c:a=N7 N false f.h\/a∈f.A.map λl=>N7 N l.neg l.a:=by grind[Af,Cz]
 obtain rfl|c:=c;exact⟨_,_,rfl,h.hd⟩;obtain⟨l,e,rfl⟩:=AN.1 c;exact⟨_,_,rfl,h.bd l e⟩
def FB.msr {N ar g}(h:FB N ar g)(d:Z g.A<=1000):KL N (Cz N g):=
 ⟨(λe=>by cases e),by grind[Cz],(h.hd.at false).1,(h.hd.at false).2.1.2,λa f=>by
  obtain⟨m,b,rfl,c⟩:=h.atoms f
  exact⟨by simpa[N7]using c.le3,(c.at b).2.1.2,(c.at b).2.2.2.2⟩⟩
def JK.ren {N ar a}(h:JK N ar a){vs}(g:∀v,(true,v)∈a.ts->v∈vs)(m:Z vs<=26):IF N ar (lN vs a):=by
 let⟨q,k,i,j,l⟩:=h.nm;refine⟨⟨q,k,i,j,by grind[lN]⟩,by simpa[lN]using h.pos,by simpa[lN]using h.le3,λt f=>?_⟩;obtain⟨⟨b,v⟩,d,rfl⟩:=AN.1 f;cases b with
 |true=>
  have c:=g v d;have n:=CS c;have e:G8 vs (true,v)=(true,((vs.idxOf v:Nat):Int)):=by grind[G8,lZ]
  exact e▸iq L
 |false=>exact (h.w _ d).2 rfl
def GQ.ord {N ar m}(h:GQ N ar m)(g:Z m.A<=5):FB N ar (Fa m):=by
 have b:Z (Fc m)<=26:=by
  have j:=Fs (l:=Hs m) λa c=>by obtain rfl|c:=BD.1 c;exact h.hd.le3;obtain⟨l,b,rfl⟩:=AN.1 c;exact (h.bd l b).le3
  have i:Z (Hs m)=Z m.A+1:=by simp[Hs]
  rw[Fc];omega
 refine⟨h.hd.ren (λv d=>(Dn _ _).2 ⟨m.h,by simp[Hs],d⟩) b,λl f=>?_⟩;obtain⟨k,e,rfl⟩:=AN.1 f;exact (h.bd k e).ren (λv d=>(Dn _ _).2 ⟨k.a,by simp only[Hs,BD,AN];grind,d⟩) b
def vP {N:ol}{p q}(b:p∈N)(a:q∈N):(((N.idxOf p:Nat):Int) !=((N.idxOf q:Nat):Int))=!decide (p=q):=by
 by_cases h:p=q;subst h;simp
 have:N.idxOf p≠N.idxOf q:=λe=>h (by
  have d:=FN (CS b);grind)
 simp[h];omega
def wS {N}{l:n0}{x k q i y}(h:l[i]?=some y):Lo N (l.take (i+1)) x k q=Lo N (l.take i) x k q++(if Fw q y=true then (Kt N x k y).toList else []):=by rw[Lo];rw[AT,h,BN,IR,filterMap_append];congr 1;grind
def Uo (N ar l cs idn ak)(o:BB N ar l)(hE:r (PI N) l cs)(x c)(k:Nat)(a)(hx:x∈l)(p:x.o=false)(hc:PI N x c)(ha:x.A[k]?=some a)(z):
  ni 179 [Cq N idn l ak cs,ag c,Y k] z λa0 B=>(∃id c',a0=sl id (Z (Lo N l x k a.B)) c'/\r (T1 false) (Lo N l x k a.B) c')/\W z B:=by
 have cw:=o.gl.len;have dz:=r.length Ew hE;have b6:=AY ha;have hW:=λy hy M=>sV (o.ru y hy M) (o.gl.msr y hy) M (o.wit y hy);have bq:=hW x hx p;have ds:=o.b5 x hx;have c8:=((o.ru x hx p).A a b6).mem;have be:=((o.ru x hx p).A a b6).len;have b4:=OV hc;rw[p]at b4;have b0:(Ce N x).A[k]?=some (E6 N a):=by simp[Ce,ha]
 have cf:=bq.bd _ (AY b0);have b9:=b4;obtain⟨ih,ib,bc,rfl,hb⟩:=b4;let⟨ia,ra,c5⟩:=H8 hb b0;have c7:=r.length Hk hb;have ck:Z (Ce N x).A=Z x.A:=by simp[Ce]
 have dw:k<Z x.A:=(BA.1 ha).1;have HU:V (∀y,Kt N x k y=(Dy BY (E6 N a).a.ts (Fj BU (Ce N y)).h.ts).map λP=>Fa (Fj P ⟨(Ce N x).h,rpl k (Fj BU (Ce N y)).A (Ce N x).A⟩)):=λy=>by
  unfold Kt;rw[ha];rfl
 have C:(E6 N a).a.p=((N.idxOf a.B:Nat):Int):=rfl;have ce:Z (E6 N a).a.ts=ar a.B:=by simp[E6,Eg,be]
 generalize Ce N x=d at bq b9 b0 hb c7 ck HU;generalize (E6 N a).a=A at c5 cf HU C ce;have da:Z d.A<=5:=L;have dx:k<Z d.A:=L;have dm:V _:=C;have dn:V _:=ce;have dh:V (T1 false d [my false,Y d.h.p,X1 ih d.h.ts,sl ib (Z d.A) bc]):=b9;have HR:V (BB N ar l):=o;have HW:V (∀y∈l,y.o=false->GQ N ar (Ce N y)):=hW;have df:V (GQ N ar d):=bq;have cg:V (JK N ar A):=cf;clear b9 o hW bq cf ha b6 b0 hc ck C ce be;refine wl func179 ?_;refine X ?_
 refine wn [2,4,8,24,25] 26 (Z l) (λi a4 B=>∃(id:Nat) (R:List E3) (c:oh),a4 7=sl id (Z R) c/\W z B/\z.B+2<B.B/\B.C (z.B+1)=[my false,Y d.h.p,X1 ih d.h.ts,sl ib (Z d.A) bc]/\B.C (z.B+2)=[Y A.p,X1 ia A.ts]/\J z B id (Z R)/\Z c=Z R*4/\Z R<=i/\V (R=Lo N (l.take i) x k a.B/\r (T1 false) R c)) ⟨1,[],[],AG,?_,?_,?_,?_,J.nil _ _,nk,nk,⟨by simp[Lo],rfl⟩⟩ ?_
 ·exact ((((W.refl z).new _).new _).new _).put L _
 ·simp only[Ac,Aa];omega
 ·rw[Aj L,Ah AM,Be (by rw[Aa];omega) (by rw[Aa];omega)]
 ·rw[show z.B+2=z.B+1+1 by omega,Ak]
 rintro i a4 B _ _ _ ⟨id,R,c,h7,t,dt,dq,dp,hO,c6,d0,b⟩;have dr:=t.B;by_cases ci:i<Z l
 ·have D:=AK ci;have ba:=AR ci;have ch:=((HR.o).gl.msr l[i] ba).mem;have m:=λ(M:l[i].o=false)=>HW.o l[i] ba M;have cr:=HR.o.b5 l[i] ba;have K:=λ(M:l[i].o=false)=>(HR.o.ru l[i] ba M).h.len;let⟨cy,ry,T,s⟩:=r.get Ew hE D;have T:=OV T;have n:=wS (N:=N) (x:=x) (k:=k) (q:=a.B) D;have E:=vP ch c8;have bo:(Ce N l[i]).h.p=((N.idxOf l[i].h.B:Nat):Int):=rfl;have b7:Z (Ce N l[i]).A=Z l[i].A:=by simp[Ce]
  have bp:Z (Ce N l[i]).h.ts=Z l[i].h.A:=by simp[Ce,Eg]
  have f:=HU.o l[i];generalize l[i]=y at D ba ch m cr K T s n E bo b7 bp f;generalize Ce N y=e at m T bo b7 bp f;have c9:Z e.A<=5:=L;have de:V _:=bp;clear b7 bp;have bf:=T;obtain⟨jh,jb,jc,rfl,cx⟩:=T;simp only[EW,FE]at s;rw[<-bo,<-dm.o]at E;clear bo;cases U:y.o
  ·rw[U]at s bf;by_cases bb:y.h.B=a.B
   ·have cv:(e.h.p !=A.p)=false:=by rw[E];simp[bb]
    have b8:=m U;have I:=b8.pin SD;have C:=λz=>apart_spec e b8.r52 false _ bf z;have bn:Z A.ts=Z (Fj BU e).h.ts:=by
     rw[dn.o,<-bb,<-K U,<-de.o];simp[Fj,P9]
    have F:=λjh z=>yA A (Fj BU e).h ia jh bn (by have:=cg.o.le3;omega) (λa3 ht=>(cg.o.w a3 ht).1) (λa3 ht=>(I.hd.w a3 ht).1) z;have cj:Z (Fj BU e).A<=5:=by simp[Fj];omega
    have br:∀P,Dy BY A.ts (Fj BU e).h.ts=some P->II P:=λP ad=>rK QZ cg.o.w I.hd.w ad;have bm:=df.o.join I k da cj;generalize Fj BU e=v at I C bn F cj br bm f;have cc:=λjb jc (h:r Sq v.A jc) z=>rS d false _ k v.A jb jc dh.o L h L z;have dy:=Gx;have hz:=Oj;have dv:=U9;have d5:V _:=bn;clear bf m K E b8 bn cx;cases hm:Dy BY A.ts v.h.ts with
    |none=>
     rw[hm]at f F;have g:V (R=Lo N (l.take (i+1)) x k a.B/\r (T1 false) R c):=by
      rw[n,f];simp;exact b.o
     have ct:=H5 (P:=CY) (by simp[CY]);have cu:=P7 (P:=CY) (Q:=CY) (by simp[CY]) (by simp[CY]);unfold PF at F;clear n f b D hm br cc bm I
     (repeat (refine m0 ?_;intro yb ya;(first|(refine Xi (C _) ?_;rintro _ _ ⟨⟨_,rfl,G⟩,u⟩;(have ai:=((t.new _).put t.B _).trans u;have cb:=J.keep (J.put (J.new hO _) _ _) u;have av:=u.B;have an:=u.C;(try simp only[Aa,Ac]at av an);obtain⟨zh,zb,zc,rfl,G⟩:=G;clear G))|(refine Xi (F _ _) ?_;rintro _ _ ⟨rfl,j⟩;(have ah:=((ai.new _).put ai.B _).trans j;have ca:=J.keep (J.put (J.new cb _) _ _) j;have au:=j.B;have am:=j.C;(try simp only[Aa,Ac]at au am))))));refine X ?_
     refine⟨id,R,c,?_⟩
     ((repeat' refine Zi ?_ ?_)<;>first|exact Xq|exact g|exact (J.put (J.new ca _) _ _)|exact ((ah.new _).put ah.B _)|exact Xs)
    |some P=>
     rw[hm]at f F;have S:=br P hm;have cm:=bm.pin S;have cd:=λc (h:T1 false ⟨d.h,rpl k v.A d.A⟩ c) z=>dT P S.len _ bm.r52 false c h z;have bu:=λc (h:T1 false (Fj P ⟨d.h,rpl k v.A d.A⟩) c) z=>xQ _ c h cm.r52 z;have g:V (∀a2,T1 false (Fa (Fj P ⟨d.h,rpl k v.A d.A⟩)) a2->R++[Fa (Fj P ⟨d.h,rpl k v.A d.A⟩)]=Lo N (l.take (i+1)) x k a.B/\r (T1 false) (R++[Fa (Fj P ⟨d.h,rpl k v.A d.A⟩)]) (c++a2)):=λa2 s=>by
      refine⟨?_,r.append b.o.2 (r.single s)⟩;rw[n,f];simp[Fw,U,bb];exact b.o.1
     have ct:=H5 S.len;have cu:=P7 (P:=CY) (by simp[CY]) S.len;have du:=G9 S.len;unfold PF at F;clear n f b D hm br cm bm I S;generalize (⟨d.h,rpl k v.A d.A⟩:E3)=a5 at cc cd bu g;generalize Fj P a5=aa at cd bu g;generalize Fa aa=a1 at bu g
     repeat' first|refine Z1 ?_|refine Z8 λyb ya=>?_|refine Z4 ?_;clear ya yb|refine Z2 ?_ ?_<;>intro h af<;>try exact Xp|refine Z6 ?_;intro idn zn a6 bg ae ac aj ab|(refine Z5 ?_;first|(refine Xi (C _) ?_;rintro _ _ ⟨⟨_,rfl,G⟩,u⟩;(have ai:=((t.new _).put t.B _).trans u;have cb:=J.keep (J.put (J.new hO _) _ _) u;have av:=u.B;have an:=u.C;(try simp only[Aa,Ac]at av an);obtain⟨zh,zb,zc,rfl,G⟩:=G))|(refine Xi (F _ _) ?_;rintro _ _ ⟨rfl,j⟩;(have ah:=((ai.new _).put ai.B _).trans j;have ca:=J.keep (J.put (J.new cb _) _ _) j;have au:=j.B;have am:=j.C;(try simp only[Aa,Ac]at au am)))|(refine Xi (cc _ _ G _) ?_;rintro _ _ ⟨⟨_,rfl,cq⟩,bz⟩;(have bi:=((ah.new _).put ah.B _).trans bz;have dc:=J.keep (J.put (J.new ca _) _ _) bz;have b3:=bz.B;have a9:=bz.C;(try simp only[Aa,Ac]at b3 a9);have dl:V _:=cq;obtain⟨bd,ax,az,rfl,-⟩:=cq))|(refine Xi (cd _ dl.o _) ?_;rintro _ _ ⟨⟨_,rfl,cp⟩,bw⟩;(have bh:=((bi.new _).put bi.B _).trans bw;have db:=J.keep (J.put (J.new dc _) _ _) bw;have b2:=bw.B;have a8:=bw.C;(try simp only[Aa,Ac]at b2 a8);have dk:V _:=cp;obtain⟨bj,ay,b5,rfl,-⟩:=cp))|(refine Xi (bu _ dk.o _) ?_;rintro _ _ ⟨⟨_,rfl,cn⟩,bv⟩;(have dd:=((bh.new _).put bh.B _).trans bv;have d1:=J.keep (J.put (J.new db _) _ _) bv;have b1:=bv.B;have a7:=bv.C;(try simp only[Aa,Ac]at b1 a7);have dj:V _:=g.o _ cn;obtain⟨aw,ao,ap,rfl,-⟩:=cn)))|refine Z3 ?_|exact Zt|apply ya.o;clear ya yb
     have di:V _:=dj.o;refine⟨idn,R++[a1],c++[my false,Y a1.h.p,X1 aw a1.h.ts,sl ao (Z a1.A) ap],?_⟩
     ((repeat' refine Zi ?_ ?_)<;>first|exact Xq|exact (nn a6)|exact di|exact ((by simp[c6];omega))|exact (by rw[ae,a7 _ L,Aj L,Ah L,a8 _ L,Aj L,Ah L,a9 _ L,Aj L,Ah L,am _ L,Aj L,Ah L,an _ L,Aj L,Ah L];assumption)|exact Xs)
   have cv:(e.h.p !=A.p)=true:=by rw[E];simp[bb]
   have g:V (R=Lo N (l.take (i+1)) x k a.B/\r (T1 false) R c):=by
    rw[n];simp[Fw,bb];exact b.o
   clear n b D bf m K E f;refine X ?_;refine⟨id,R,c,?_⟩;exact m9 g
  have g:V (R=Lo N (l.take (i+1)) x k a.B/\r (T1 false) R c):=by
   rw[n];simp[Fw,U];exact b.o
  rw[U]at s;clear n b D bf m K E f;refine X ?_;refine⟨id,R,c,?_⟩;exact m9 g
 obtain rfl:i=Z l:=L;let⟨e1,e2⟩:=b.o;rw[AS]at e1;have HF:V (∀a0,a0=sl id (Z R) c->∃id c',a0=sl id (Z (Lo N l x k a.B)) c'/\r (T1 false) (Lo N l x k a.B) c'):=λa0 hr=>by
  rw[<-e1];exact⟨id,c,hr,e2⟩
 clear b e1 e2;refine X ?_
 exact⟨_,rfl,HF.o _ rfl⟩
def TL {α j:Type}{E}{i:j->oh->Prop}{f}:∀{l:List α} {cs:oh},r E l cs->(∀a∈l,∀c,E a c->i (f a) c)->r i (l.map f) cs
 |[],_,h,_=>h
 |a::l,_,⟨c,d,n,m,e⟩,g=>⟨c,d,g a nk c n,TL m (λb k=>g b (ns k)),e⟩
def uL (N:ol)(l:n0)(x:AB)(k:Nat)(q:Tx):n0:=(Lo N l x k q).map (Cz N)
def QD {N ar l}(c:BB N ar l){x}(i:x∈l)(d:x.o=false){k a}(n:x.A[k]?=some a){z}(h:z∈Lo N l x k a.B):∃s,GQ N ar s/\z=Fa s:=by
 have j:=λy b f=>sV (c.ru y b f) (c.gl.msr y b) f (c.wit y b);let⟨y,b,e⟩:=mem_filterMap.1 h;let⟨g,o⟩:=BP.1 b;simp only[Fw,BM,FJ,CV]at o;rw[Kt]at e;rw[n]at e;obtain⟨P,u,rfl⟩:=Option.map_eq_some_iff.1 e;have p:=j x i d;have m:=(j y g o.1).pin SD;have q:Z (Ce N x).A<=5:=by simp[Ce];exact c.b5 x i
 have t:Z (Fj BU (Ce N y)).A<=5:=by simp[Fj,Ce];exact c.b5 y g
 have v:=p.bd (E6 N a) (by simp only[Ce,AN];grind);exact⟨_,(p.join m k q t).pin (rK QZ v.w m.hd.w u),rfl⟩
def gs {N ar l}(i:BB N ar l){x}(f:x∈l)(b:x.o=false){k a}(g:x.A[k]?=some a){y}(h:y∈uL N l x k a.B)(d:Z y.A<=5):∃m,y=Cz N m/\FB N ar m/\Z m.A<=5:=by
 obtain⟨m,e,rfl⟩:=AN.1 h;obtain⟨s,j,rfl⟩:=QD i f b g e;have c:Z s.A<=5:=by grind[Cz,Fa]
 exact⟨_,rfl,j.ord c,by grind[Fa]⟩
def kf {N ar l}(q:BB N ar l){x}(m:x∈l)(b:x.o=false){k a}(p:x.A[k]?=some a){c}(h:r (T1 false) (Lo N l x k a.B) c):r (PJ N) (uL N l x k a.B) c:=by
 refine TL h λv j c e=>?_;obtain⟨s,g,rfl⟩:=QD q m b p j;have d:Z (Cz N (Fa s)).A=Z s.A:=by simp[Cz,Fa]
 have u:=g.bl;by_cases i:Z s.A<=5;have f:=g.ord i;exact .inl ⟨f.pi e,f.msr (by grind[Fa])⟩;obtain⟨n,t,o,rfl,-⟩:=e;exact .inr ⟨gp,gp,false,(Fa s).h.p,n,Z (Fa s).h.ts,Ad (Fa s).h.ts,t,o,by grind[Fa]⟩
def Ys {l}(h:Jk l):Z l<=16/\∀x∈l,Z x.A<=5:=by grind[Jk]
def PJ.pi {N x c}(h:PJ N x c)(a:Z x.A<=5):PI N x c/\KL N x:=h.resolve_right λh=>ny h.1
def FB.fits {N ar e}(h:FB N ar e)(d:Z e.A<=5):(Cz N e).fits:=by refine⟨by grind[Cz],by have:=h.hd.le3;simp[Cz,N7];omega,λa b=>?_⟩;obtain⟨l,c,rfl⟩:=AN.1 b;have:=(h.bd l c).le3;simp[N7];omega
def MN (N:ol)(ar:Tx->Nat)(o:n0):Prop:=∀y∈o,Z y.A<=5->∃a,y=Cz N a/\FB N ar a/\Z a.A<=5
def OP {N ar l}(e:BB N ar l){x}(f:x∈l)(b:x.o=false){k a}(d:x.A[k]?=some a):MN N ar (uL N l x k a.B):=λy g c=>gs e f b d g c
def gu (N l x k q):Z (uL N l x k q)<=Z l:=by grind[uL,Lo]
def SN {N ar l o}(k:BB N ar l)(u:MN N ar o)(i)(v:Jk (rpl i o l)):GL N (rpl i o l):=by
 let⟨s,q⟩:=Ys v;have g:∀y∈rpl i o l,y∈l\/∃A,y=Cz N A/\FB N ar A/\Z A.A<=5:=λy f=>by
  obtain h|h:=Cy f;exact .inl h;exact .inr (u y h (q y f))
 refine⟨s,k.gl.nm,λy f=>?_,λy f=>?_,λy f=>?_,λy f=>?_,λy f=>?_⟩;obtain h|⟨A,rfl,z,j⟩:=g y f;exact k.gl.msr y h;exact z.msr L;obtain h|⟨A,rfl,z,j⟩:=g y f;exact k.gl.fits y h;exact z.fits j;obtain h|⟨A,rfl,z,j⟩:=g y f;exact k.gl.pos y h;intro a p;obtain⟨m,b,rfl,g⟩:=z.atoms p;simpa[N7]using g.pos;obtain h|⟨A,rfl,z,j⟩:=g y f;exact k.gl.va y h;intro a p w t;obtain⟨m,b,rfl,g⟩:=z.atoms p;exact Me ((g.at b).2.2.2.2 w t);obtain h|⟨A,rfl,z,j⟩:=g y f;exact k.gl.ar y h;intro a p b j e;obtain⟨m,c,rfl,g⟩:=z.atoms (Ap (.inr p));obtain⟨n,d,rfl,x⟩:=z.atoms (Ap (.inr j));rw[(g.at c).2.2.1,(x.at d).2.2.1,e]
def SO {N ar l o}(a:BB N ar l)(g:MN N ar o)(k:Z o<=16)(i){c}(h:r (PJ N) (rpl i o l) c):PK N (rpl i o l) c:=by have e:=a.gl.len;refine⟨h,?_,λb=>(SN a g i b).bkm (Qv h λy f c d=>(d.pi ((Ys b).2 y f)).1)⟩;have j:=Rj (n:=i) (o:=o) l (Z l);rw[AS]at j;have m:Z l*(Z o+1)<=16*17:=Nat.mul_le_mul e L;omega
def Pw {l}(h:(Co l).1=0){x}(b:x∈l):Db x:=by rw[Co]at h;split at h;cases h;split at h;cases h;rename_i c;let⟨i,a,e⟩:=getElem_of_mem b;have:=sB c i a;rw[Dp]at this;grind
def FB.wit {N ar k}(h:FB N ar k)(f:Z k.A<=5):Dc (Cz N k):=by
 have c:∀m b,IF N ar m->En (N7 N b m):=λm b d=>⟨(d.at b).2.1.1,by
  have:=d.pos;intro e;have:=congrArg length e;simp[N7]at this
  simp[this]at*,by simpa[N7]using d.le3,λt i=>((d.at b).2.2.2.2 t i).2.1⟩
 refine⟨(h.hd.at false).2.1.1,(λe=>by cases e),λ_=>⟨c _ _ h.hd,rfl,by grind[Cz],λa j=>?_⟩⟩;obtain⟨l,g,rfl⟩:=AN.1 j;exact c _ _ (h.bd l g)
def FB.wi {N ar s}(h:FB N ar s)(f:Z s.A<=5):WI N (Cz N s):=by
 have p:=h.wit f;have j:∀m b,IF N ar m->short (N7 N b m):=λm b c=>⟨(c.at b).2.1.2,by have:=c.le3;simp[N7];omega,λt k=>((c.at b).2.2.2.2 t k).2.2.1⟩;have g:∀m b,IF N ar m->VA (N7 N b m):=λm b c t k=>Me ((c.at b).2.2.2.2 t k);have o:∀a∈Af (Cz N s),WA N (Au (Cz N s)) a:=λa d=>by
  obtain⟨m,b,rfl,c⟩:=h.atoms d;exact⟨(c.at b).1,by simpa[N7]using c.pos,(j m b c).2.1,(c.at b).2.1.2,λw n=>⟨((c.at b).2.2.2.2 w n).1,((c.at b).2.2.2.2 w n).2.2.1,λq=>On p d n q⟩⟩
 refine⟨h.fits f,⟨j _ _ h.hd,λa d=>?_⟩,λa d=>?_,g _ _ h.hd,λa d=>?_,(h.hd.at false).1,by grind[Cz],(λe=>by cases e),λ_=>⟨rfl,o _ (Ap (.inl ⟨rfl,rfl⟩))⟩,λa d=>o a (Ap (.inr d))⟩;obtain⟨l,i,rfl⟩:=AN.1 d;exact j _ _ (h.bd l i);obtain⟨m,b,rfl,c⟩:=h.atoms d;exact g _ _ c;obtain⟨l,i,rfl⟩:=AN.1 d;exact g _ _ (h.bd l i)
def FB.ru {N ar q}(h:FB N ar q)(o:Db (Cz N q)):KP N ar (Cz N q):=by
 have i:∀m b,IF N ar m->ML N ar (N7 N b m):=λm b c=>⟨(c.at b).1,(c.at b).2.2.1,by simpa[N7]using c.le3⟩;have g:∀m b,IF N ar m->∀t∈(N7 N b m).A,VT t/\DT t:=λm b c t e=>⟨Me ((c.at b).2.2.2.2 t e),((c.at b).2.2.2.2 t e).1⟩;have j:∀a∈Af (Cz N q),VA a:=λa d t e=>by
  obtain⟨m,b,rfl,c⟩:=h.atoms d;grind
 refine⟨i _ _ h.hd,rfl,λa d=>?_,g _ _ h.hd,λa d=>?_,λv c n=>?_⟩;obtain⟨l,f,rfl⟩:=AN.1 d;exact i _ _ (h.bd l f);obtain⟨l,f,rfl⟩:=AN.1 d;exact g _ _ (h.bd l f)
 obtain⟨b,k,-,p⟩:=W3 (J8 j▸o) (λa d=>by
  obtain⟨m,b,rfl,c⟩:=h.atoms d
  exact (c.at b).2.2.2.2) (a:=(Cz N q).h) (Ap (.inl ⟨rfl,rfl⟩)) c n
 exact⟨b,k,p⟩
def OR {N ar l o}(c:BB N ar l)(f:MN N ar o)(i)(b:C5 N l (rpl i o l)):BB N ar (rpl i o l):=by
 rw[C5]at b;simp only[BM,DO]at b;obtain⟨g,-,k⟩:=b;have e:=(Ys g).2;have d:∀y∈rpl i o l,y∈l\/∃m,y=Cz N m/\FB N ar m/\Z m.A<=5:=λy a=>by
  obtain h|h:=Cy a;exact .inl h;exact .inr (f y h (e y a))
 refine⟨SN c f i g,e,λy a j=>?_,λy a=>?_,λy a=>?_⟩;obtain h|⟨m,rfl,n,b⟩:=d y a;exact c.ru y h j;exact n.ru (Pw k a);obtain h|⟨m,rfl,n,b⟩:=d y a;exact c.wi y h;exact n.wi b;obtain h|⟨m,rfl,n,b⟩:=d y a;exact c.wit y h;exact n.wit b
def Tg (N:ol)(U:Nat->Nat->Bool)(l:n0)(i k:Nat):Bool:=match l[i]? with
 |some x=>(match x.A[k]? with
  |some a=>!a.nt&&(!U (N.idxOf a.B) (N.idxOf a.B)&&(Dr N l (N.idxOf a.B)&&C5 N l (rpl i (uL N l x k a.B) l)))
  |none=>false)
 |none=>false
def xU (N:ol)(U:Nat->Nat->Bool)(l:n0)(n:Nat):Prop:=∀i y,i<n->l[i]?=some y->∀k,k<Z y.A->Tg N U l i k=false
def LY (N:ol)(l:n0)(idn:Nat)(x:AV)(b:Bool):Prop:=∃M,Dw N l M/\
 ((b=false/\xU N (F9 (Z N) M (Z N)) l (Z l))\/(b=true/\∃i k y a,l[i]?=some y/\y.o=false/\y.A[k]?=some a/\Tg N (F9 (Z N) M (Z N)) l i k/\xU N (F9 (Z N) M (Z N)) l i/\(∀d,d<k->Tg N (F9 (Z N) M (Z N)) l i d=false)/\∃id c,x=Cq N idn (rpl i (uL N l y k a.B) l) id c/\r (PI N) (rpl i (uL N l y k a.B) l) c))
def SH {N}(x c)(h:PJ N x c):PM c:=by obtain⟨h,-⟩|⟨-,-,o,p,d,e,f,a,b,rfl⟩:=h;exact pF h;exact⟨_,_,_,_,_,_,_,_,rfl⟩
def Q1 (N ar l cs idn c)(hR:BB N ar l)(Q:r (PI N) l cs)(z):
  ni 127 [Cq N idn l c cs] z λa0 o=>(∃x b,a0=tp [x,my b]/\LY N l idn x b/\pB x)/\W z o:=by
 have T:=hR.gl;have cw:=r.length Ew Q;have ba:=T.len;have hN:=T.nm;have b5:=λz=>P6 N l cs idn c ((T.bkm Q).bk ba) z;have ck:V (r (PJ N) l cs):=Qv Q λx hx a1 hc=>.inl ⟨hc,T.msr x hx⟩;have HB:V (JM N l cs):=T.bkm Q;have y:V (BB N ar l):=hR;clear T hR;refine Z9 71 [.cell 2 62,.tmp 3] func127 ?_;refine m0 ?_;intro yb ya;refine Xi (b5 _) ?_;rintro _ _ ⟨c2,B,M0,rfl,be,ci,cz,br,b9⟩;(have bn:=be.B;have ai:=be.C;(try simp only[Aa,Ac]at bn ai ci));refine X ?_;rename_i z1;have af:z1.C z.B=[lw idn N,sl c (Z l) cs]:=by rw[ai _ L,Ah AM,Ao]
 have ah:z1.C (z.B+1)=[H,H]:=by rw[ai _ L];first|exact Ao|simp[Ao]
 have cd:V (Dw N l M0):=b9;generalize b7:F9 (Z N) M0 (Z N)=U at br;have HU:V _:=b7;have b8:W z z1:=(((W.refl z).new _).new _).trans be;clear b9 b7 be ai b5
 refine wn [1,2,4,17,18] 19 (Z l) (λi a6 o=>W z o/\z1.B<=o.B/\o.C z.B=[lw idn N,sl c (Z l) cs]/\o.C (z.B+1)=[H,H]/\V (By B (Z N) U o)/\V (xU N U l i)) ⟨b8,L,af,ah,br,λi a2 h=>L⟩ ?_
 clear b8 af ah br;rintro i a6 o _ ⟨h1,h2,h4,cc,cb⟩ ca ⟨hK,ct,bh,bg,j,K⟩;have cn:=hK.B;by_cases b1:i<Z l
 ·have ak:=AK b1;have S:=AR b1;have b3:=y.o.gl.fits l[i] S;have bz:=y.o.gl.msr l[i] S;obtain⟨b0,ih,aa,b,a0,bd,hd⟩:=Ih Q ak;generalize l[i]=x at hd ak b0 bd S b3 bz;have cy:=b3.1;have cx:=r.length Eh bd;have HG:V (l[i]?=some x):=ak;clear ak
  refine X ?_
  refine wn [1,2,4,5,6,17,18,19,25,26] 27 (Z x.A) (λk a6 C=>W z C/\o.B<C.B/\C.C z.B=[lw idn N,sl c (Z l) cs]/\C.C (z.B+1)=[H,H]/\C.C o.B=[my x.o,Y (N.idxOf x.h.B:Nat),sl ih (Z x.h.A) (A0 x.h.A),sl aa (Z x.A) b]/\V (By B (Z N) U C)/\V (∀d,d<k->Tg N U l i d=false)) ⟨Xs,BJ,by rw[Aj L,Ah L,bh],by rw[Aj L,Ah L,bg],by rw[Ak],By.put (By.new j.o L _) L _,λd h=>L⟩ ?_
  clear h1 h2 h4 cc cb ca hK bh bg j;rintro k a6 C _ ⟨h1,h2,_,_,_,_,_,_,_,_⟩ _ ⟨hK,cg,bh,bg,ce,j,bb⟩;have cf:=hK.B;by_cases az:k<Z x.A
  ·have f:x.o=false:=by
    cases h:x.o with
    |false=>rfl
    |true=>rw[bz.o h]at az;cases az
   have G:=AK az;obtain⟨b4,ia,ra,bc⟩:=Pu bd G;generalize x.A[k]=a at G b4 bc;have g:Tg N U l i k=(!a.nt&&(!U (N.idxOf a.B) (N.idxOf a.B)&&(Dr N l (N.idxOf a.B)&&C5 N l (rpl i (uL N l x k a.B) l)))):=by unfold Tg;rw[HG.o];dsimp only;rw[G]
   have A:V (Tg N U l i k=false->∀d,d<k+1->Tg N U l i d=false):=λhf d b2=>by
    rcases FT d k with h|h
    ·exact bb.o d h
    rw[show d=k by omega,hf]
   have hp:=CS b4;have F:=λz=>Nh N l cs idn c (N.idxOf a.B) Q L z
   have D:=λa1 (hc:PI N x a1) z=>(Uo N ar l cs idn c y.o Q x a1 k a S f hc G z).mono (R':=λa0 o=>(∃id e,a0=sl id (Z (uL N l x k a.B)) e/\r (PJ N) (uL N l x k a.B) e)/\W z o) (λa0 o h=>by
    obtain⟨⟨id,e,rfl,h1⟩,h2⟩:=h
    exact⟨⟨id,e,by simp[uL],kf y.o S f G h1⟩,h2⟩)
   have ap:Z (uL N l x k a.B)<=16:=BI (gu _ _ _ _ _) ba;have b6:Z (uL N l x k a.B)<=1000:=L;have s:=λco bt (h:r (PJ N) (uL N l x k a.B) co) z=>Nb (E:=PJ N) SH N l (uL N l x k a.B) cs co idn c bt i ck.o h L b6 z;have q:=λe au (h:r (PJ N) (rpl i (uL N l x k a.B) l) e) z=>Ib N l (rpl i (uL N l x k a.B) l) cs e idn c au HB.o (SO y.o (OP y.o S f G) ap i h) z;have t:V (∀e,C5 N l (rpl i (uL N l x k a.B) l)=true->r (PJ N) (rpl i (uL N l x k a.B) l) e->r (PI N) (rpl i (uL N l x k a.B) l) e):=λe hb h=>by
    unfold C5 at hb;simp only[BM]at hb;exact Qv h λa2 hy a1 hc=>(hc.pi ((Ys hb.1).2 a2 hy)).1
   have u:V (∀id e I,Tg N U l i k=true->I=Cq N idn (rpl i (uL N l x k a.B) l) id e->r (PI N) (rpl i (uL N l x k a.B) l) e->LY N l idn I true):=λid e I ho bo bp=>⟨M0,cd.o,by
    rw[HU.o]
    exact .inr ⟨rfl,i,k,x,a,HG.o,f,G,ho,K.o,bb.o,id,e,bo,bp⟩⟩
   have bq:=PI.of (ih:=ih) (id:=aa) b0 bd;rw[f]at ce bq;have cj:V _:=bq;clear bq G bb;cases a3:a.nt with
   |true=>
    have M:V (∀d,d<k+1->Tg N U l i d=false):=A.o (by rw[g,a3];rfl);rw[a3]at bc;clear g A F D s q t u;refine X ?_;skip
    ((repeat' refine Zi ?_ ?_)<;>first|exact Xq|exact M|exact (by rw[f];assumption)|exact (By.put (By.new j.o L _) L _)|exact Xs)
   |false=>
    rw[a3]at bc g;generalize N.idxOf a.B=p at bc hp g F;have cr:=I6 (B:=B) (n:=Z N) (k:=Z N) hp;have cq:=I5 B (Z N) (Z N);have cu:=j.o _ hp;have cp:=E0 (Z N) (U p);have bw:=Hh (U p) hp;have aj:∀ae,(C.new ae).C (B+p)=C.C (B+p):=λae=>Ah L;cases m:U p p with
    |true=>
     have M:V (∀d,d<k+1->Tg N U l i d=false):=A.o (by rw[g,m];rfl);rw[m]at bw;clear g A F D s q t u aj m;refine X ?_;skip
     ((repeat' refine Zi ?_ ?_)<;>first|exact Xq|exact M|exact (by rw[f];assumption)|exact (By.put (By.new j.o L _) L _)|exact Xs)
    |false=>
     rw[m]at bw g;cases R:Dr N l p with
     |false=>
      have M:V (∀d,d<k+1->Tg N U l i d=false):=A.o (by rw[g,R];rfl);rw[R]at F;clear g A D s q t u aj m R;refine m0 ?_;intro yb ya;refine Xi (F _) ?_;rintro _ _ ⟨rfl,v⟩;(have ad:=v.B;have ac:=v.C;(try simp only[Ac,Aa]at ad ac));refine X ?_;skip
      ((repeat' refine Zi ?_ ?_)<;>first|exact Xq|exact M|exact (by rw[f];assumption)|exact (By.keep (By.put (By.new j.o L _) L _) v BJ)|exact Xs)
     |true=>
      rw[R]at F g;simp only[JX,FV]at g;rw[<-g]at q t;clear ap;generalize uL N l x k a.B=am at D s q t u b6;generalize rpl i am l=ab at s q t u;have D:=λz=>D _ cj.o z;cases P:Tg N U l i k with
      |true=>
       rw[P]at q t;have cm:V (∀id e I,I=Cq N idn ab id e->r (PJ N) ab e->LY N l idn I true):=λid e I bo bp=>u.o id e I P bo (t.o e rfl bp);clear g A t u aj m R P K
       (repeat (refine m0 ?_;intro yb ya;(first|(refine Xi (F _) ?_;rintro _ _ ⟨rfl,v⟩;(have ad:=v.B;have ac:=v.C;(try simp only[Ac,Aa]at ad ac)))|(refine Xi (D _) ?_;rintro _ _ ⟨⟨bj,c4,rfl,bu⟩,a9⟩;(have ay:=a9.B;have aw:=a9.C;(try simp only[Ac,Aa]at ay aw)))|(refine Xi (s _ _ bu _) ?_;rintro _ _ ⟨⟨a4,c6,rfl,bf⟩,a8⟩;(have ax:=a8.B;have av:=a8.C;(try simp only[Ac,Aa,Az]at ax av)))|(refine Xi (q c6 a4 bf _) ?_;rintro _ _ ⟨⟨x7,rfl,bv,⟨bk,bx,an,bl,c1,ao,rfl⟩⟩,a7⟩;(have bm:=a7.B;have bi:=a7.C)))));refine X ?_
       exact⟨_,rfl,⟨_,true,rfl,cm.o _ _ _ (bv rfl) bf,_,_,_,_,_,_,rfl⟩,Xs⟩
      |false=>
       rw[P]at q;have M:V (∀d,d<k+1->Tg N U l i d=false):=A.o P;clear g A t u aj m R P
       (repeat (refine m0 ?_;intro yb ya;(first|(refine Xi (F _) ?_;rintro _ _ ⟨rfl,v⟩;(have ad:=v.B;have ac:=v.C;(try simp only[Ac,Aa]at ad ac)))|(refine Xi (D _) ?_;rintro _ _ ⟨⟨bj,c4,rfl,bu⟩,a9⟩;(have ay:=a9.B;have aw:=a9.C;(try simp only[Ac,Aa]at ay aw)))|(refine Xi (s _ _ bu _) ?_;rintro _ _ ⟨⟨a4,c6,rfl,bf⟩,a8⟩;(have ax:=a8.B;have av:=a8.C;(try simp only[Ac,Aa,Az]at ax av)))|(refine Xi (q c6 a4 bf _) ?_;rintro _ _ ⟨⟨x7,rfl,bv,⟨bk,bx,an,bl,c1,ao,rfl⟩⟩,a7⟩;(have bm:=a7.B;have bi:=a7.C)))));refine X ?_
       skip
       ((repeat' refine Zi ?_ ?_)<;>first|exact Xq|exact M|exact (by rw[f];assumption)|exact (By.put (By.new (By.keep (By.put (By.new j.o L _) L _) (((v.trans a9).trans a8).trans a7) BJ) L _) L _)|exact Xs)
  have cv:k=Z x.A:=L;have HA:V (xU N U l (i+1)):=λa5 a2 hj hy d b2=>by
   rcases FT a5 i with h|h
   ·exact K.o a5 a2 h hy d b2
   have:a5=i:=L;subst this;rw[HG.o]at hy;cases hy;exact bb.o d L
  clear bb HG K;refine X ?_;skip;exact m9 HA
 have ch:i=Z l:=L;subst ch;have u:V (∀x,LY N l idn x false):=λx=>⟨M0,cd.o,by rw[HU.o];exact .inl ⟨rfl,K.o⟩⟩;clear K;refine X ?_;exact⟨_,rfl,⟨_,false,rfl,u.o _,_,_,_,_,_,_,rfl⟩,Xs⟩
end Go.Proofs.YtmoeoppbmhfbpabGreatDoorJ
