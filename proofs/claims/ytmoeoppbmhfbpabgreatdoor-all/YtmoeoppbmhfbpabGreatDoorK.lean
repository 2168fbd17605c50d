import Derived.Test.YtmoeoppbmhfbpabGreatDoorI
set_option maxHeartbeats 64000000
set_option maxRecDepth 100000
set_option linter.all false
open List
open List renaming length->Z
namespace Go.Proofs.YtmoeoppbmhfbpabGreatDoorJ
open Go.Abs Tryz
structure GL (N:ol)(l:n0):Prop where
 len:Z l<=16
 nm:Z N<=2000
 msr:∀x∈l,KL N x
 fits:∀x∈l,x.fits
 pos:∀x∈l,∀a∈Af x,0<Z a.A
 va:∀x∈l,∀a∈Af x,VA a
 ar:∀x∈l,∀a∈x.A,∀b∈x.A,a.B=b.B->Z a.A=Z b.A
def GL.bkm {N l cs}(h:GL N l)(a:r (PI N) l cs):JM N l cs:=⟨a,ny h.len,h.nm,h.msr,h.fits,h.pos,h.va⟩
def Cy {α:Type}{n}{o l:List α}{x}(h:x∈rpl n o l):x∈l\/x∈o:=by grind[rpl]
def uX {α:Type}{n}{y:α}(l):Z (rpl n [y] l)=Z l:=by
 rw[rpl];rw[length_flatMap];have a:∀(l:List α) (k:Nat),((l.zipIdx k).map λp=>Z (if p.2=n then [y]else [p.1])).sum=Z l:=by
  intro l;induction l with
  |nil=>intro k;simp
  |cons x l b=>
   intro k;have:=b (k+1);simp only[zipIdx_cons,CC,sum_cons,BQ];rw[this];split<;>simp<;>omega
 exact a l 0
def Rh {α:Type}{n}(l:List α):Z (rpl n [] l)<=Z l:=by
 rw[rpl];rw[length_flatMap];have a:∀(l:List α) (k:Nat),((l.zipIdx k).map λp=>Z (if p.2=n then []else [p.1])).sum<=Z l:=by
  intro l;induction l with
  |nil=>intro k;simp
  |cons x l b=>
   intro k;have:=b (k+1);simp only[zipIdx_cons,CC,sum_cons,BQ];split<;>simp<;>omega
 exact a l 0
def Mr {x k}(c:x.o=false){a}(h:a∈Af (C8 x k)):a∈Af x:=by
 have b:a=x.h\/a∈x.A.eraseIdx k:=by grind[Af,C8]
 obtain rfl|b:=b;exact Ap (.inl ⟨c,rfl⟩);exact Ap (.inr (EE b))
def GL.wo {N l}(h:GL N l){i k x}(n:l[i]?=some x)(j:x.o=false):GL N (rpl i [C8 x k] l):=by
 have g:=AY n;have f:∀y∈rpl i [C8 x k] l,y∈l\/y=C8 x k:=λy c=>by
  obtain h|h:=Cy c;exact .inl h;exact .inr (nn h)
 have m:=h.msr x g;refine⟨by rw[uX];exact h.len,h.nm,λy c=>?_,λy c=>?_,λy c=>?_,λy c=>?_,λy c=>?_⟩;obtain c|rfl:=f y c;exact h.msr y c;exact⟨(λe=>by cases e),BI (JF _ _) m.A,m.mem,m.hpl,λa d=>m.at_ a (Mr j d)⟩;obtain c|rfl:=f y c;exact h.fits y c;exact Ms (h.fits x g);obtain c|rfl:=f y c;exact h.pos y c;exact λa d=>h.pos x g a (Mr j d);obtain c|rfl:=f y c;exact h.va y c;exact λa d=>h.va x g a (Mr j d);obtain c|rfl:=f y c;exact h.ar y c;exact λa d b o=>h.ar x g a (EE d) b (EE o)
def IX (N:ol)(x:AB)(k:Nat):Option Sw:=(C9 Mx (x.h.A.map Aq) (x.h.A.map Aq)).bind λa=>Mz N x k a
def fY {N l}(h:GL N l){x}(d:x∈l)(n:x.o=false)(c)(k:Nat)(j:PI N x c)(q):ni 94 [ag c,Y k] q λs σ'=>s=Q3 (IX N x k)/\W q σ':=by have m:=h.msr x d;have g:=m.at_ x.h (Ap (.inl ⟨n,rfl⟩));obtain⟨p,i,-⟩:=bF DJ x.h.A g.2.2;have:=lV N x c k p j (h.fits x d) i (λt e=>(g.2.2 t e).varOk) (λa f=>⟨(h.fits x d).2.2 a f,λt e=>((m.at_ a (Ap (.inr f))).2.2 t e).varOk,λb o=>h.ar x d a f b (EE o)⟩) q;rw[IX,i];exact this
def pB (x:AV):Prop:=∃b e c a d f,x=ag [sl b e c,sl a d f]
def eC (N:ol)(l:n0)(i k:Nat):Bool:=match l[i]? with
 |some x=>(IX N x k).isSome&&C5 N l (rpl i [C8 x k] l)
 |none=>false
def xW (N:ol)(l:n0)(n:Nat):Prop:=∀i y,i<n->l[i]?=some y->∀k,k<Z y.A->eC N l i k=false
def NU (N:ol)(l:n0)(idn:Nat)(x:AV)(b:Bool):Prop:=
 (b=false/\xW N l (Z l))\/(b=true/\∃i k y,l[i]?=some y/\y.o=false/\k<Z y.A/\eC N l i k/\xW N l i/\(∀c,c<k->eC N l i c=false)/\∃id a,x=Cq N idn (rpl i [C8 y k] l) id a/\r (PI N) (rpl i [C8 y k] l) a)
def Q0 (N l cs idn j)(D:GL N l)(y:r (PI N) l cs)(a):
  ni 125 [Cq N idn l j cs] a λaa σ'=>(∃x b,aa=tp [x,my b]/\NU N l idn x b/\pB x)/\W a σ':=by
 have cd:=r.length Ew y;have bz:=D.len;have b8:=Di;have b7:=Rb;have b6:∀s,take 78 (D5 s)=D5 s:=λs=>FZ (by rw[Di];exact AU _);have ca:∀s a0,lsp (D5 s) 0 (D5 a0)=D5 a0:=λs a0=>I8 (by rw[Di,Di]);have cc:∀s,(D5 s).all flat:=λs=>by
  rw[CX];intro x hx;obtain⟨ax,-,rfl⟩:=AN.1 hx;unfold lA;split
  ·rfl
  split<;>rfl
 refine wl func125 ?_;refine X ?_
 refine wn [1,2,13,14] 15 (Z l) (λi s σ'=>W a σ'/\a.B+1<σ'.B/\σ'.C a.B=[lw idn N,sl j (Z l) cs]/\σ'.C (a.B+1)=[H,H]/\V (xW N l i)) ⟨Xs,AM,by rw[Ah AM,Ao],by first|exact Ao|simp[Ao],λi ab h=>L⟩ ?_
 rintro i s σ' _ ⟨h1,h2,bp,bo⟩ bn ⟨m,b9,R,z,G⟩;have b5:=m.B;by_cases bi:i<Z l
 ·obtain⟨x,T⟩:=gq bi;have Q:=(AY T);have bm:=D.fits x Q;have bh:=D.msr x Q;obtain⟨a6,p,g,b,aa,U,hd⟩:=Ih y T;have b3:=bm.1;have ce:=r.length Eh U;have C:V (l[i]?=some x):=T;clear T
  refine X ?_
  refine wn [1,2,4,5,13,14,15,21,22] 23 (Z x.A) (λk s f=>W a f/\σ'.B<f.B/\f.C a.B=[lw idn N,sl j (Z l) cs]/\f.C (a.B+1)=[H,H]/\f.C σ'.B=[my x.o,Y (N.idxOf x.h.B:Nat),sl p (Z x.h.A) (A0 x.h.A),sl g (Z x.A) b]/\V (∀c,c<k->eC N l i c=false)) ⟨Xs,BJ,by rw[Aj L,Ah L,R],by rw[Aj L,Ah L,z],by rw[Ak],λc h=>L⟩ ?_
  clear h1 h2 bp bo bn m R z;rintro k s f _ _ _ ⟨m,bw,R,z,bf,u⟩;have bq:=m.B;by_cases am:k<Z x.A
  ·have e:x.o=false:=by
    cases h:x.o
    ·rfl
    rw[bh.o h]at am;cases am
   have q:=λa=>fY D Q e _ k (PI.of (ih:=p) (id:=g) a6 U) a;simp only[e]at q bf;have t:eC N l i k=((IX N x k).isSome&&C5 N l (rpl i [C8 x k] l)):=by unfold eC;rw[C.o]
   cases F:IX N x k with
   |none=>
    rw[F]at q t;simp only[Q3]at q;have K:V (∀c,c<k+1->eC N l i c=false):=λc a8=>by
     obtain h|h:=FT c k
     ·exact u.o c h
     rw[show c=k by omega,t];rfl
    clear u t F;refine mt q ?_;rintro yb ya _ _ ⟨rfl,o⟩;have ao:=o.B;have I:=o.C;refine X ?_;rename_i d;have b4:W a ((d.new (D5 Mx)).put d.B (D5 Mx)):=((m.trans o).new _).put L _;have ap:((d.new (D5 Mx)).put d.B (D5 Mx)).C a.B=[lw idn N,sl j (Z l) cs]:=by rw[Aj L,Ah L,I _ L,R]
    have bu:((d.new (D5 Mx)).put d.B (D5 Mx)).C (a.B+1)=[H,H]:=by rw[Aj L,Ah L,I _ L,z]
    have br:((d.new (D5 Mx)).put d.B (D5 Mx)).C σ'.B=[my x.o,Y (N.idxOf x.h.B:Nat),sl p (Z x.h.A) (A0 x.h.A),sl g (Z x.A) b]:=by rw[Aj L,Ah L,I _ L,bf,e]
    skip
    ((repeat' refine Zi ?_ ?_)<;>first|exact Xq|exact K|exact b4|exact ap|exact bu|exact br|exact Xs)
   |some sw=>
    rw[F]at q t;simp only[Q3]at q;simp only[Option.isSome_some,FV]at t;have bb:=λa=>Pm N x _ k (PI.of (ih:=p) (id:=g) a6 U) b3 a;simp only[e]at bb;have be:=D.wo (k:=k) C.o e;have bc:=λco au (b1:r (PI N) [C8 x k] co) a=>Xx N l [C8 x k] cs co idn j au i y b1 L nk a;have v:=λA ae (a9:r (PI N) (rpl i [C8 x k] l) A) a=>Ib N l (rpl i [C8 x k] l) cs A idn j ae (D.bkm y) (be.bkm a9).bj a;simp only[KZ]at bc;rw[<-t]at v;cases E:eC N l i k
    ·rw[E]at v;have K:V (∀c,c<k+1->eC N l i c=false):=λc a8=>by
      rcases FT c k with h|h
      ·exact u.o c h
      rw[show c=k by omega,E]
     clear u t F be E
     (repeat (refine m0 ?_;intro yb ya;(first|(refine Xi (q _) ?_;rintro _ _ ⟨rfl,o⟩;(have ao:=o.B;have I:=o.C))|(refine Xi (bb _) ?_;rintro _ _ ⟨c2,rfl,bd,M⟩;(have ak:=M.B;have ai:=M.C;(try simp only[Ac,Aa]at ak ai);obtain⟨a7,a3,a2,b2,ba,rfl⟩:=bd))|(refine Xi (bc _ _ (r.single (PI.of (ih:=a3) (id:=a2) a7 ba)) _) ?_;rintro _ _ ⟨⟨B,c6,rfl,S⟩,n⟩;(have aj:=n.B;have ah:=n.C;(try simp only[Ac,Aa,Az]at aj ah)))|(refine Xi (v c6 B S _) ?_;rintro _ _ ⟨⟨x7,rfl,bg,⟨ac,av,af,ad,aw,an,rfl⟩⟩,P⟩;(have a5:=P.B;have a4:=P.C)))));refine X ?_
     skip;exact m9 K
    rw[E]at v;have HC:V (∀id A x',x'=Cq N idn (rpl i [C8 x k] l) id A->r (PI N) (rpl i [C8 x k] l) A->NU N l idn x' true):=λid A x' bv a9=>.inr ⟨rfl,i,k,x,C.o,e,am,E,G.o,u.o,id,A,bv,a9⟩;clear u t F be E G C
    (repeat (refine m0 ?_;intro yb ya;(first|(refine Xi (q _) ?_;rintro _ _ ⟨rfl,o⟩;(have ao:=o.B;have I:=o.C))|(refine Xi (bb _) ?_;rintro _ _ ⟨c2,rfl,bd,M⟩;(have ak:=M.B;have ai:=M.C;(try simp only[Ac,Aa]at ak ai);obtain⟨a7,a3,a2,b2,ba,rfl⟩:=bd))|(refine Xi (bc _ _ (r.single (PI.of (ih:=a3) (id:=a2) a7 ba)) _) ?_;rintro _ _ ⟨⟨B,c6,rfl,S⟩,n⟩;(have aj:=n.B;have ah:=n.C;(try simp only[Ac,Aa,Az]at aj ah)))|(refine Xi (v c6 B S _) ?_;rintro _ _ ⟨⟨x7,rfl,bg,⟨ac,av,af,ad,aw,an,rfl⟩⟩,P⟩;(have a5:=P.B;have a4:=P.C)))));refine X ?_
    exact⟨_,rfl,⟨_,true,rfl,HC.o _ _ _ (bg rfl) S,_,_,_,_,_,_,rfl⟩,Xs⟩
  have cb:k=Z x.A:=L;have HA:V (xW N l (i+1)):=λa1 ab hj hy c a8=>by
   obtain h|h:=FT a1 i
   ·exact G.o a1 ab h hy c a8
   have:a1=i:=L;subst this;rw[C.o]at hy;cases hy;exact u.o c L
  clear u C G;refine X ?_;skip;exact m9 HA
 obtain rfl:i=Z l:=L;refine X ?_;exact⟨_,rfl,⟨_,false,rfl,.inl ⟨rfl,G.o⟩,_,_,_,_,_,_,rfl⟩,Xs⟩
def Kr (N:ol)(U:Nat->Nat->Bool)(l:n0)(q:Nat):Bool:=l.any λx=>x.o&&(decide (N.idxOf x.h.B=q)||U (N.idxOf x.h.B) q)
def pP {N U}{l:n0}{i x}(h:l[i]?=some x)(q):Kr N U (l.take (i+1)) q=(Kr N U (l.take i) q||(x.o&&(decide (N.idxOf x.h.B=q)||U (N.idxOf x.h.B) q))):=by simp_all[Kr,AT,BN,MH]
def Zf {n f g}(h:∀q,q<n->f q=g q):Iq n f=Iq n g:=by simp_all[Iq,CG]
def fW (N l cs idn I)(F:Bk N l cs)(b):ni 176 [Cq N idn l I cs] b λa3 σ'=>∃o M,a3=fx o 0 (Z N)/\W b σ'/\b.B<=o/\o<σ'.B/\Dw N l M/\σ'.C o=Iq (Z N) (Kr N (F9 (Z N) M (Z N)) l):=by
 have bg:=r.length Ew F.el;have a9:=F.len;have hN:=F.nm;have bh:=fA (Z N);refine wl func176 ?_;refine mt (P6 N l cs idn I F) ?_;rintro yb ya _ _ ⟨a4,B,D,rfl,j,bb,ap,Q,T⟩;(rw[Aa]at bb;have af:=j.C;have am:=j.B;(try simp only[Aa,Ac,Az]at am af));refine X ?_;rename_i a;have a5:V (Dw N l D):=T;clear T af;have bd:=I5 B (Z N) (Z N);have bi:W b a:=((W.refl b).new _).trans j;clear j;generalize hU:F9 (Z N) D (Z N)=U at Q;have aa:V _:=hU;clear hU
 refine Ae (λa2 s σ'=>∃i:Nat,a2=Z l-i/\i<=Z l/\s 3=sl a4 (Z N) (F3 B (Z N) (Z N))/\s 4=fx a.B 0 (Z N)/\s 16=sl I (Z l) cs/\s 17=Y (Z l)/\s 18=Y i/\W b σ'/\a.B<σ'.B/\σ'.C a.B=Iq (Z N) (Kr N U (l.take i))/\V (By B (Z N) U σ')) (Z l)
  ⟨0,L,L,AG,AG,AG,AG,rfl,Xs,AM,by rw[Ao];rfl,By.new Q ap _⟩ ?_
 clear Q;rintro a2 s σ' ⟨i,rfl,hi,ae,h4,ac,ad,aj,z,C,e,u⟩;have aw:=z.B;by_cases a8:i<Z l
 ·have G:=AK a8;obtain⟨R,ih,id,ak,a3,hb,m⟩:=Ih F.el G;generalize l[i]=x at m G hb R;have t:=pP (N:=N) (U:=U) G;have E:=CS R;cases f:x.o
  ·rw[f]at m t;have ai:σ'.C a.B=Iq (Z N) (Kr N U (l.take (i+1))):=by
    rw[e];exact Zf λq _=>by rw[t q];simp
   clear t G e f;generalize N.idxOf x.h.B=c at*
   refine X ?_;refine⟨Z l-(i+1),L,i+1,?_⟩
   ((repeat' refine Zi ?_ ?_)<;>first|exact Xq|exact (By.put (By.new u.o L _) L _)|exact (by rw[Aj L,Ah L,ai])|exact Xs)
  rw[f]at m t;clear G f;generalize N.idxOf x.h.B=c at*
  generalize Kr N U (l.take i)=y at e t;generalize ah:Kr N U (l.take (i+1))=w1 at t;have a6:V _:=ah;have a7:V (∀q,w1 q=(y q||(true&&(decide (c=q)||U c q)))):=t;clear t ah;have be:=I6 (B:=B) (n:=Z N) (k:=Z N) E;have P:=u.o _ E;have bc:=E0 (Z N) (U c);have an:=E0 (Z N) y;have ax:=Ze (n:=Z N) (i:=c) y true;refine X ?_
  refine wn [3,4,16,17,18,35,36] 37 (Z N) (λp s d=>∃g:Nat->Bool,W b d/\a.B<d.B/\d.C a.B=Iq (Z N) g/\V (By B (Z N) U d)/\V (∀q,g q=(y q||decide (c=q)||(decide (q<p)&&U c q)))) ⟨λa1=>if a1=c then true else y a1,Xs,BJ,by rw[Ak],By.put (By.put (By.new u.o L _) L _) L _,λq=>by
    by_cases h:q=c
    ·simp[h]
    simp[h,Ne.symm h]⟩ ?_
  clear ae h4 ac ad aj z C e u P ax an aw;rintro p s d _ _ _ ⟨g,z,C,e,u,v⟩;have aw:=z.B;by_cases au:p<Z N
  ·have P:=u.o _ E;have S:=Hh (U c) au;have bf:=E0 (Z N) g;cases A:U c p with
   |true=>
    rw[A]at S;have ax:=Ze (n:=Z N) (i:=p) g true;have K:V (∀q,(if q=p then true else g q)=(y q||decide (c=q)||(decide (q<p+1)&&U c q))):=λq=>by
     by_cases h:q=p
     ·simp[h,A]
     rw[if_neg h,v.o q,show decide (q<p+1)=decide (q<p)from by rw[decide_eq_decide];omega]
    clear v A;refine X ?_;refine⟨λq=>if q=p then true else g q,?_⟩
    ((repeat' refine Zi ?_ ?_)<;>first|exact Xq|exact K|exact (By.put u.o L _)|exact (by rw[Ak])|exact Xs)
   |false=>
    rw[A]at S;have K:V (∀q,g q=(y q||decide (c=q)||(decide (q<p+1)&&U c q))):=λq=>by
     by_cases h:q=p
     ·rw[v.o q];simp[h,A]
     rw[v.o q,show decide (q<p+1)=decide (q<p)from by rw[decide_eq_decide];omega]
    clear v A;refine X ?_;refine⟨g,?_⟩;exact m9 K
  have ab:p=Z N:=L;have ai:d.C a.B=Iq (Z N) (Kr N U (l.take (i+1))):=by
   rw[e,a6.o];exact Zf λq hq=>by rw[a7.o q,v.o q,ab];simp[hq,Bool.or_assoc]
  clear v e a7 a6;refine X ?_;refine⟨Z l-(i+1),L,i+1,?_⟩;exact m9 u
 obtain rfl:i=Z l:=L;rw[AS]at e;refine X ?_
 exact⟨_,rfl,_,D,rfl,L,C,a5.o,by rw[aa.o];exact e⟩
def GL.sub {N l c}(h:GL N l)(b:∀x∈c,x∈l)(d:Z c<=16):GL N c:=
 ⟨d,h.nm,λx a=>h.msr x (b x a),λx a=>h.fits x (b x a),λx a=>h.pos x (b x a),λx a=>h.va x (b x a),λx a=>h.ar x (b x a)⟩
def Hq (N:ol)(U:Nat->Nat->Bool)(l:n0):n0:=l.filter λx=>Kr N U l (N.idxOf x.h.B)
def MQ (N:ol)(l:n0)(idn:Nat)(x:AV)(b:Bool):Prop:=∃M,Dw N l M/\
 ((Z (Hq N (F9 (Z N) M (Z N)) l)=Z l/\b=false)\/
  (Z (Hq N (F9 (Z N) M (Z N)) l)≠Z l/\b=C5 N l (Hq N (F9 (Z N) M (Z N)) l)/\(b=true->∃id a,x=Cq N idn (Hq N (F9 (Z N) M (Z N)) l) id a/\r (PI N) (Hq N (F9 (Z N) M (Z N)) l) a)))
def yS {α:Type}{f}{l:List α}{i x}(h:l[i]?=some x):(l.take (i+1)).filter f=(l.take i).filter f++if f x=true then [x]else []:=by rw[AT,h,BN,IR];grind
def Mu (N l cs idn m)(t:GL N l)(G:r (PI N) l cs)(d):
  ni 124 [Cq N idn l m cs] d λa5 σ'=>(∃x b,a5=tp [x,my b]/\MQ N l idn x b/\pB x)/\W d σ':=by
 have bq:=r.length Ew G;have av:=t.len;have hN:=t.nm;have bn:Bk N l cs:=(t.bkm G).bk av;have a3:=λd=>fW N l cs idn m bn d;refine wl func124 ?_;refine mt a3 ?_;rintro yb ya _ _ ⟨ow,B,rfl,F,ap,bg,a8,D⟩;have ao:=F.B;have E:=F.C;(try simp only[Aa,Ac]at ao E ap);refine X ?_;rename_i k;have j:k.C d.B=[lw idn N,sl m (Z l) cs]:=by rw[E _ L,Ah AM,Ao]
 have e:k.C (d.B+1)=[H,H]:=by rw[E _ L];exact Ao
 have a2:V (Dw N l B):=a8;generalize Q:F9 (Z N) B (Z N)=ah at D;have HU:V _:=Q;have a4:W d k:=(((W.refl d).new _).new _).trans F;clear a8 Q F E a3;generalize ax:Kr N ah l=w at D;have HW:V _:=ax;clear ax
 refine wn [1,2,4,12,13] 14 (Z l) (λi a6 σ'=>∃(id:Nat) (R:n0) (c:oh),a6 5=sl id (Z R) c/\W d σ'/\k.B<=σ'.B/\σ'.C ow=Iq (Z N) w/\σ'.C d.B=[lw idn N,sl m (Z l) cs]/\σ'.C (d.B+1)=[H,H]/\J d σ' id (Z R)/\Z c=Z R*4/\Z R<=i/\V (R=(l.take i).filter (λx=>w (N.idxOf x.h.B))/\r (PI N) R c)) ⟨1,[],[],AG,a4,L,D,j,e,J.nil _ _,nk,nk,⟨nk,rfl⟩⟩ ?_
 clear a4 D j e;rintro i a6 σ' _ _ _ ⟨id,R,c,h5,I,bp,ae,j,e,T,S,bu,g⟩;have bo:=I.B;have br:=E0 (Z N) w;by_cases bh:i<Z l
 ·have y:=AK bh;obtain⟨u,U,A,b,a5,a0,hd⟩:=Ih G y;generalize l[i]=x at hd y u a0;have bf:=CS u;have q:=yS (f:=λx:AB=>w (N.idxOf x.h.B)) y;have a1:=Hh w bf;cases o:w (N.idxOf x.h.B)
  ·simp only[o,EI,if_false,EJ]at q;rw[o]at a1;have K:V (R=(l.take (i+1)).filter (λx=>w (N.idxOf x.h.B))/\r (PI N) R c):=⟨by rw[q,<-g.o.1],g.o.2⟩;clear q y g o;refine X ?_;refine⟨id,R,c,?_⟩
   ((repeat' refine Zi ?_ ?_)<;>first|exact Xq|exact K|exact (J.put (J.new T _) _ _)|exact (by rw[Aj L,Ah L,ae])|exact (by rw[Aj L,Ah L,j])|exact (by rw[Aj L,Ah L,e])|exact Xs)
  simp only[o,if_true]at q;rw[o]at a1;have K:V (R++[x]=(l.take (i+1)).filter (λx=>w (N.idxOf x.h.B))/\r (PI N) (R++[x]) (c++[my x.o,Y (N.idxOf x.h.B:Nat),sl U (Z x.h.A) (A0 x.h.A),sl A (Z x.A) b])):=⟨by rw[q,<-g.o.1],r.append g.o.2 (r.single (PI.of u a0))⟩;clear q y g o;refine nh ?_;intro yb ya;refine Bo (by first|exact Mw) ((I.new _).put I.B _) (J.put (J.new T _) _ _) nr (by rfl) (S) (by rfl) (by rfl) nr L L ?_;intro ai af aj am ac aa ad ab;simp only[Ac,Aa]at aa;have n:∀p,p<σ'.B->af.C p=σ'.C p:=λp hp=>by rw[ac,Aj L,Ah L]
  refine Z3 ?_;refine X ?_;refine⟨ai,R++[x],c++[my x.o,Y (N.idxOf x.h.B:Nat),sl U (Z x.h.A) (A0 x.h.A),sl A (Z x.A) b],?_⟩
  ((repeat' refine Zi ?_ ?_)<;>first|exact Xq|exact K|exact ((nn aj))|exact ((by simp[S];omega))|exact (by rw[n _ L,ae])|exact (by rw[n _ L,j])|exact (by rw[n _ L,e])|exact Xs)
 obtain rfl:i=Z l:=L;rw[AS]at g;have P:R=Hq N (F9 (Z N) B (Z N)) l:=by rw[g.o.1,Hq,HU.o,HW.o]
 have z:V _:=P;have v:V (r (PI N) R c):=g.o.2;have a9:GL N R:=t.sub (λx s=>(BP.1 (by rw[<-g.o.1];exact s)).1) L;have M:=λd=>Ib N l R cs c idn m id (t.bkm G) (a9.bkm v.o).bj d;clear g P a9;by_cases a:Z R=Z l
 ·have bi:((Z R:Int)==(Z l:Int)):=ns a
  have C:V (∀x,MQ N l idn x false):=λx=>⟨B,a2.o,.inl ⟨by rw[<-z.o];exact a,rfl⟩⟩;clear M a;refine X ?_;exact⟨_,rfl,⟨_,false,rfl,C.o _,_,_,_,_,_,_,rfl⟩,Xs⟩
 have bi:((Z R:Int)==(Z l:Int))=false:=nn (by omega:¬(Z R:Int)=Z l);have C:V (∀x,(C5 N l R->x=Cq N idn R id c)->MQ N l idn x (C5 N l R)):=λx s=>⟨B,a2.o,.inr ⟨by rw[<-z.o];exact a,by rw[<-z.o],λhb=>⟨id,c,by rw[<-z.o];exact s hb,by rw[<-z.o];exact v.o⟩⟩⟩;generalize C5 N l R=bb at M C;clear a;refine mt M ?_;rintro yb ya _ _ ⟨⟨x7,rfl,be,⟨au,ay,ak,aw,az,an,rfl⟩⟩,a7⟩;have bd:=a7.B;have bc:=a7.C;refine X ?_;exact⟨_,rfl,⟨_,bb,rfl,C.o _ be,_,_,_,_,_,_,rfl⟩,Xs⟩
def tE (p:Tx):Prop:=Jy p/\Z p<=6
def JN (t:Tx):Prop:=(∃b,t=[b]/\Bs b.toNat)\/t=[48]\/∃b a,t=b::a/\Gv b.toNat/\(∀c∈a,A6 c.toNat)/\Z a<=2
structure IT (a:AE):Prop where
 nm:tE a.B
 ne:a.A≠[]
 few:Z a.A<=3
 tm:∀t∈a.A,JN t
structure iS (x:AB):Prop where
 nm:tE x.h.B
 o:x.o->x.h.nt=false/\x.h.A=[]/\x.A=[]
 rule:x.o=false->IT x.h/\x.h.nt=false/\Z x.A<=5/\∀a∈x.A,IT a
theorem Tb (p):∀(n:Nat) (t c:Tx),(∀b∈t,p b.toNat)->Z t<=n->(∀b q,c=b::q->p b.toNat=false)->Ay p n (t++c)=(t,c)
 |n,[],c,_,_,a=>by
  cases n with
  |zero=>rfl
  |succ n=>
   cases c with
   |nil=>rfl
   |cons b q=>
    show Ay p (n+1) (b::q)=_;rw[Ay];rw[if_neg (gp)]
 |0,b::t,c,_,d,_=>gp
 |n+1,b::t,c,e,d,a=>by simp_all[Ay,Tb]
def Qb (p):∀(n:Nat) (s:Tx),Z (Ay p n s).1<=n
 |0,s=>by simp[Ay]
 |n+1,[]=>by simp[Ay]
 |n+1,b::a=>by rw[Ay];split;have:=Qb p n a;simp;omega;simp
def mM {p c}(h:tE p)(a:∀b q,c=b::q->B6 b.toNat=false):E7 (p++c)= .got p c:=by rw[E7];rw[Tb B6 6 p c h.1.2 h.2 a];rw[if_neg h.1.1]
def mN {s a p}(h:E7 s= .got p a):tE p:=by refine⟨(Qc h).2,?_⟩;rw[E7]at h;split at h;cases h;cases h;exact Qb _ _ _
def mJ {t d}(h:JN t)(c:∀b q,d=b::q->A6 b.toNat=false):C0 (t++d)= .got t d:=by obtain⟨b,rfl,a⟩|rfl|⟨b,q,rfl,a,g,f⟩:=h;show C0 (b::d)=_;unfold C0;dsimp only;rw[if_pos a];show C0 (48::d)=_;unfold C0;dsimp only;rw[if_neg nr,if_pos nr];show C0 (b::(q++d))=_;unfold C0;dsimp only;rw[if_neg,if_neg,if_pos a,Tb A6 2 q d g f c];intro e;simp only[Gv,BM,CV]at a;simp at e;omega;intro e;rw[Nq e]at a;cases a
def UR {s e t}(h:C0 s= .got t e):JN t:=by
 cases s with
 |nil=>cases h
 |cons b q=>
  unfold C0 at h;dsimp only at h;split at h;rename_i c;cases h;exact .inl ⟨b,rfl,c⟩;split at h;rename_i d;cases h;have:b=48:=L9 48 d;rw[this];exact .inr (.inl rfl);split at h;rename_i a;cases h;exact .inr (.inr ⟨b,_,rfl,a,(Ek A6 2 q).2,Qb _ _ _⟩);cases h
def Es {α a:Type}(x b)(f:α->Tx->Rd a):(Rd.got x b).bnd f=f x b:=rfl
def K5 {c a}:A5 c.toNat (c::a)= .got () a:=by grind[A5]
def Pz (t ts):Ch (t::ts)=44::(t++Ch ts):=by simp[Ch]
def Yd {α:Type}{f u c}(d:c≠44){P:α->Prop}(g:∀x l,P x->(∀b q,l=b::q->b=44\/b=c)->f (u x++l)= .got x l):∀(n:Nat) (xs:List α) (l:Tx),(∀x∈xs,P x)->Z xs<=n->D9 f n (Ch (xs.map u)++c::l)= .got xs (c::l)
 |0,[],l,_,_=>rfl
 |n+1,[],l,_,_=>by
  show D9 f (n+1) (c::l)=_;rw[D9]
  rw[if_neg (by
   intro h
   exact d (L9 44 h))]
 |0,x::xs,l,_,a=>gp
 |n+1,x::xs,l,i,a=>by
  rw[CC,Pz];show D9 f (n+1) (44::((u x++Ch (xs.map u))++c::l))=_;rw[D9];rw[if_pos nr,CR,g x _ (i x nk) ?_];rw[Es,Yd d g n xs l (λy j=>i y (ns j)) (nn a)];rfl;intro b q e;cases xs with
  |nil=>simp[Ch]at e;exact .inr e.1.symm
  |cons y k=>rw[CC,Pz]at e;simp at e;exact .inl e.1.symm
def nd {b:UInt8}(h:b=44\/b=41):A6 b.toNat=false:=by rcases h with rfl|rfl<;>decide
def mQ {a}(h:IT a)(n):Ea a.nt (Bh a++n)= .got a n:=by
 rw[Ea,Bh];rw[CR,mM h.nm (λb q e=>by simp at e;rw[<-e.1];decide)];rw[Es,EW];rw[show (40:Int)=((40:UInt8).toNat:Int)from rfl,K5];rw[Es];let⟨t,f,e⟩:=exists_cons_of_ne_nil h.ne;have g:=h.tm;have i:=h.few;rw[e]at g i;rw[e,Bp];rw[Yh];have e2:((t++Ch f++[41])++n:Tx)=t++(Ch (f.map id)++41::n):=nk;rw[e2,mJ (g t nk) ?_];rw[Es,Yd (u:=id) (c:=41) nr (P:=JN) (λx n k j=>mJ k λb q e=>nd (j b q e)) 2 f n (λy l=>g y (ns l)) (nn i)];rw[Es,show (41:Int)=((41:UInt8).toNat:Int)from rfl,K5];rw[Es,<-e];intro b q d;cases f with
 |nil=>simp[Ch]at d;exact nd (.inr d.1.symm)
 |cons y m=>rw[CC,Pz]at d;simp at d;exact nd (.inl d.1.symm)
def vC {a}(h:IT a)(i):K4 (Cl a++i)= .got a i:=by
 have c:=mQ h i;cases d:a.nt
 ·rw[d]at c;rw[show Cl a++i=Bh a++i by grind[Cl]];obtain⟨b,q,e,g,f⟩:=L3 h.nm.1;have e2:Bh a++i=b::(q++40::(Bp a.A++[41])++i):=by grind[Bh]
  rw[e2]at c⊢;unfold K4;dsimp only;rw[if_neg (gp)];exact c
 rw[d]at c;rw[show Cl a++i=33::(Bh a++i)by grind[Cl]];unfold K4;grind
def UU {x}(h:iS x)(C):F4 (Bz x++46::C)= .got x C:=by
 cases a:x.o
 ·obtain⟨i,g,d,m⟩:=h.rule a;have t:F4 (Bz x++46::C)=Pp (Bz x++46::C):=by
   obtain⟨b,q,e,A,v⟩:=L3 h.nm.1;have e2:Bz x++46::C=b::(q++40::(Bp x.h.A++[41])++(if x.A=[]then []else 58::45::Bp (x.A.map Cl))++46::C):=by grind[Bz,D1,Bh]
   rw[e2];unfold F4;grind
  rw[t,Bz,if_neg (gp),D1,CR];unfold Pp;have s:=mQ i ((if x.A=[]then []else 58::45::Bp (x.A.map Cl))++46::C);rw[g]at s;rw[s,Es];by_cases f:x.A=[];rw[if_pos f];show Po x.h (46::C)=_;unfold Po;dsimp only;rw[if_pos nr];rw[<-f,<-a];rw[if_neg f];obtain⟨l,k,e⟩:=exists_cons_of_ne_nil f;rw[e]at d m;rw[e,CC,Bp];have e2:(58::45::(Cl l++Ch (k.map Cl))++46::C:Tx)=58::45::(Cl l++(Ch (k.map Cl)++46::C)):=nk;rw[e2];unfold Po;dsimp only;rw[if_neg nr];rw[show (58:Int)=((58:UInt8).toNat:Int)from rfl,K5];rw[Es,show (45:Int)=((45:UInt8).toNat:Int)from rfl,K5];rw[Es];unfold Ua;rw[vC (m l nk),Es,Yd (u:=Cl) (c:=46) nr (P:=IT) (λy q j _=>vC j q) 4 k C (λy j=>m y (gp)) (nn d)];rw[Es,show (46:Int)=((46:UInt8).toNat:Int)from rfl,K5];rw[Es,<-e,<-a]
 obtain⟨i,g,d⟩:=h.o a;rw[Bz,if_pos a];show F4 (63::(x.h.B++46::C))=_;unfold F4;dsimp only;rw[if_pos nr];unfold gB;rw[mM h.nm (λb q e=>by simp at e;rw[<-e.1];decide)];rw[Es,show (46:Int)=((46:UInt8).toNat:Int)from rfl,K5];rw[Es];obtain⟨o,⟨n,p,z⟩,B⟩:=x;simp only at i g d a;subst i;subst g;subst d;subst a;rfl
theorem Te:∀(n:Nat) (l:n0),(∀x∈l,iS x)->Z l<=n->Cc n (Cr l)= .got l []
 |n,[],_,_=>by cases n<;>rfl
 |0,x::l,_,a=>gp
 |n+1,x::l,h,a=>by
  have e:Cr (x::l)=Bz x++46::Cr l:=by simp[Cr]
  have g:Bz x++46::Cr l≠[]:=nk;let⟨b,q,e2⟩:=exists_cons_of_ne_nil g;rw[e];have c:=UU (h x nk) (Cr l);rw[e2]at c⊢;show ((F4 (b::q)).bnd λx i=>(Cc n i).bnd λd i=>.got (x::d) i)=_;rw[c,Es,Te n l (λy f=>h y (ns f)) (nn a)];rfl
def US {α:Type}{f}{P:α->Prop}(a:∀s x b,f s= .got x b->P x){n s xs b}(h:D9 f n s= .got xs b):∀x∈xs,P x:=Ol a n s xs b h
def Yg {c s x a}(h:Ea c s= .got a x):IT a:=by have b:=(Jg h).2.1;have d:=Om (T:=JN) (λ_ _ _ h=>UR h) h;refine⟨?_,b.2.1,b.2.2.1,d⟩;rw[Ea]at h;let⟨p,q,e,h⟩:=A8 h;let⟨u,f,l,h⟩:=A8 h;rw[Yh]at h;let⟨t,i,m,h⟩:=A8 h;let⟨k,o,v,h⟩:=A8 h;let⟨n,j,g,h⟩:=A8 h;cases h;exact mN e
def vD {s c a}(h:K4 s= .got a c):IT a:=by
 cases s with
 |nil=>cases h
 |cons b q=>
  unfold K4 at h;dsimp only at h;split at h;exact Yg h;exact Yg h
def UV {s F x}(h:F4 s= .got x F):iS x:=by
 have d:=(Yf h).2;cases s with
 |nil=>cases h
 |cons b q=>
  unfold F4 at h;dsimp only at h;split at h;rw[gB]at h;let⟨p,q,i,h⟩:=A8 h;let⟨u,o,A,h⟩:=A8 h;cases h;exact⟨mN i,d.2.1,(λe=>gp)⟩;rw[Pp]at h;let⟨t,q,i,h⟩:=A8 h;have m:=Yg i;have f:x.h=t/\x.o=false/\∀a∈x.A,IT a:=by
   cases q with
   |nil=>cases h
   |cons c q=>
    unfold Po at h;dsimp only at h;split at h;cases h;exact⟨rfl,rfl,nk⟩;let⟨_,o,_,h⟩:=A8 h;let⟨_,C,_,h⟩:=A8 h;rw[Ua]at h;let⟨l,E,y,h⟩:=A8 h;let⟨z,D,n,h⟩:=A8 h;let⟨_,B,_,h⟩:=A8 h;cases h;refine⟨rfl,rfl,λa g=>?_⟩;obtain rfl|g:=BD.1 g;exact vD y;exact US (λ_ _ _ h=>vD h) n a g
  let⟨j,e2,v⟩:=f;refine⟨j▸m.nm,d.2.1,λk=>⟨j▸m,(d.2.2 k).2.1,(d.2.2 k).2.2.1,v⟩⟩
def dY:∀(n:Nat) (s:Tx) (l:n0) (m:Tx),Cc n s= .got l m->∀x∈l,iS x
 |n,[],l,m,h=>by cases n<;>(cases h;intro x d;cases d)
 |0,b::s,l,m,h=>by cases h
 |n+1,b::s,l,m,h=>by have e:=h;let⟨x,q,f,g⟩:=A8 e;let⟨c,k,i,j⟩:=A8 g;cases j;intro y a;obtain rfl|a:=BD.1 a;exact UV f;exact dY n _ _ _ i y a
end Go.Proofs.YtmoeoppbmhfbpabGreatDoorJ
namespace Go.Abs
def WR {P t z b g d i m n x xs c K}(N:P0 P t=some (z,b,g))
  (F:0<z) (f:Z g=z) (e:Z c=m*z) (G:c.all flat) (C:0<m) (u:(n+m)*b<=140737488355328) (s:n+m<=1099511627776)
  (A:(x=H/\n=0/\xs=[])\/∃o a,x=gx o n a/\0<n/\n<=a/\Z (d.C o)=a*z/\(d.C o).take (n*z)=xs)
  (E:∀o a cs,((∃q,x=gx o n q/\n+m<=q/\a=q)->Z cs=a*z->cs.take ((n+m)*z)=xs++c->K (gx o (n+m) a) (d.put o cs)))
  (M:∀a cs,Z cs=a*z->n+m<=a->cs.take ((n+m)*z)=xs++c->K (gx d.B (n+m) a) (d.new cs)):Jx P t t x (sl i m c) d K:=by
 right;refine⟨z,b,g,i,m,c,N,rfl,rfl,F,f,e,G,C,?_⟩;have v:∀k,Z (replicate k (g.map cst1)).flatten=k*z:=λk=>jx
 obtain⟨rfl,rfl,rfl⟩|⟨o,a,rfl,R,Q,I,B⟩:=A;refine .inl ⟨rfl,nn u,nn s,λa l=>?_⟩;have:=M a (c++(replicate (a-m) (g.map cst1)).flatten) (by rw[AX,e,v,<-FM];congr 1;omega) L (gp);rw[DY]at this;exact this;have p:Z xs=n*z:=by rw[<-B,CN,I];exact ER (GW _ Q)
 refine .inr ⟨o,n,a,rfl,u,s,I,L,λl=>?_,λl j D=>?_⟩;have y:n*z+Z c<=Z (d.C o):=by rw[e,I,<-FM];exact GW _ l
 refine E o a _ ⟨a,rfl,l,rfl⟩ (by grind[L0]) ?_;rw[Hw _ _ _ y,B];have:(n+m)*z=Z (xs++c):=gp
 rw[this,take_left];refine M j _ ?_ D ?_;rw[B,AX,AX,p,e,v,<-FM,<-FM];congr 1;omega;rw[B];have:(n+m)*z=Z (xs++c):=gp
 rw[this,take_left]
def Zk {P N c Q s b o p n f j k d}(B:o<b.B)(hp:p<b.B)(Lqx:o≠p)(S:b.C p=d)(l:d[j]?=some (gx o n f))(hk:k<=Z (b.C o))
  (h:Mn P N c Q s ((b.put o []).put p (d.set j (sl 0 n ((b.C o).take k))))):Mn P N c Q s b:=λa7 a w R=>by
 let⟨m,u,E,M,D⟩:=R.inv.freeze B;have F:(b.put o []).C p=d:=by grind[St.put]
 have y:(b.put o []).C p≠[]:=λe=>gp
 let⟨x,C⟩:=u.retell (o:=p) hp y (d.set j (sl 0 n ((b.C o).take k))) (λa8 z=>by
  rw[F]at z;refine⟨by rw[LC];exact z.1,λi v a5 I g=>?_⟩;by_cases t:i=j;subst t;have an:=(BA.1 l).1;rw[getElem?_set_self an]at g;cases g;let⟨K,e2,e3⟩:=VR.of_gx (z.2 i v _ I l);refine VR.fold ⟨some ⟨m.blk o,0,none⟩,f,K,⟨e2,λh=>gp⟩,λa0=>⟨m.blk o,0,rfl,λaa ab q=>?_⟩,λk' ap=>L⟩;have T:b.C o≠[]:=λe=>a0 (gp);obtain⟨⟨a9,a6,A,U⟩,-⟩:=(R.inv.C o B).2.2 T;rw[GF]at q;split at q
  case isFalse=>cases q
  let⟨a4,a1,a2⟩:=U.get q;refine⟨D▸M _,a4,?_,a2.ext E⟩;rw[D];simp only[World.cell?,A,DY];simpa using a1;rw[NH (Ne.symm t)]at g
  exact z.2 i v a5 I g)
 have G:FK N m s ((b.put o []).put p (d.set j (sl 0 n ((b.C o).take k)))) a w:=⟨R.defers,R.size,λa3=>(R.tmps a3).ext (E.trans C),x⟩;exact wp_mono (h m a w G) λe a' w' hc=>hc.ext (E.trans C)
end Go.Abs
namespace Go.Proofs.YtmoeoppbmhfbpabGreatDoorJ
open Go.Abs Tryz
def Rf {a}(h:Jz a.ts)(ν):B8 a ν=C4 a:=by
 unfold B8 C4;congr 1;apply CG;intro t c;unfold Jz at h;rw[CX]at h;have:=h t c;obtain⟨b,w⟩:=t;cases b
 ·rfl
 simp at this
def sT (t:Ck)(a:List Tm)(x:Tm×Nat):List Tm:=if x.1.1=true then Bt x.1.2 (Iu t (x.2:Nat)) a else a
def Si (a:List Tm)(t:Ck)(b:List Tm):List Tm:=a.zipIdx.foldl (sT t) b
def Qp (l:List Ck)(a:Dx)(p:Part):Part:=⟨p.a,p.A.filter λt=>!decide (C4 ⟨a.p,Si p.a.ts t a.ts⟩∈l)⟩
def zG (a x t ts):Si (a++[x]) t ts=sT t (Si a t ts) (x,Z a):=by grind[Si]
def UN (μ v):Pd μ v (μ v)=μ:=by grind[Pd]
def vW {t v}:∀(l:List (Tm×Nat)) (c:List Tm),Bm (l.foldl (sT t) c) v->Bm c v/\∀x∈l,x.1≠(true,v)
 |[],c,h=>⟨h,nk⟩
 |x::l,c,h=>by
  rw[FW]at h;obtain⟨d,f⟩:=vW l _ h;unfold sT at d;obtain⟨⟨g,j⟩,i⟩:=x;cases g
  ·simp only[EI,if_false]at d
   exact⟨d,λy b=>gp⟩
  simp only[if_true]at d;have:=(CP (a:=⟨0,c⟩)).1 d;grind
theorem ZP {c a μ}(s:Z c.ts<=3)(C:∀v,Bm a.ts v->Bm c.ts v):C4 ⟨a.p,Si c.ts (B8 c μ) a.ts⟩=B8 a μ:=by
 have g:∀(l:List (Tm×Nat)) (d:List Tm),(∀x∈l,c.ts[x.2]?=some x.1)->B8 ⟨a.p,l.foldl (sT (B8 c μ)) d⟩ μ=B8 ⟨a.p,d⟩ μ:=by
  intro l;induction l with
  |nil=>intro d _;rfl
  |cons x l p=>
   intro d n;rw[FW,p _ (λy A=>n y (IM _ A))];rw[sT];split;rename_i f;let⟨⟨E,e⟩,j⟩:=x;simp only at f;subst f;have m:=n _ IL;have D:=(BA.1 m).1;have k:Iu (B8 c μ) ((j:Nat):Int)=μ e:=by simp_all[Iu,DK,B8,Ku,Ei]
   show B8 ⟨a.p,Bt e (Iu (B8 c μ) ((j:Nat):Int)) d⟩ μ=_;rw[k];have:=Lq ⟨a.p,d⟩ e (μ e) μ;rw[UN]at this;exact this;rfl
 have u:∀x∈c.ts.zipIdx,c.ts[x.2]?=some x.1:=λx f=>gp
 have z:=g c.ts.zipIdx a.ts u;have q:Jz (Si c.ts (B8 c μ) a.ts):=by
  unfold Jz;rw[CX];intro t k;obtain⟨b,w⟩:=t;cases b
  ·rfl
  exfalso;obtain⟨F,o⟩:=vW c.ts.zipIdx a.ts (AO.2 k);have:=AO.1 (C w F);obtain⟨i,B⟩:=CL this;exact o ((true,w),i) (mem_zipIdx_iff_getElem?.2 B) rfl
 exact Rf (a:=⟨a.p,Si c.ts (B8 c μ) a.ts⟩) q μ▸z
def ZQ {l a p ν}(b:Z p.a.ts<=3)(c:∀v,Bm a.ts v->Bm p.a.ts v):B8 p.a ν∈(Qp l a p).A↔B8 p.a ν∈p.A/\B8 a ν∉l:=by simp_all[Qp,BP,ZP]
def gY (n ot M d b p a)(id z ida k:Nat)(x)(b8:Z p.a.ts<=3)(b7:Z p.A<=5000)(h3:T3 p.A)(ha:Z a.ts<=3)(hk:a.p=(k:Int))(hx:M[k]?=some x)(c)(hM:BL c n ot M d b):ni 219 [ptr n 0,ag [Y p.a.p,X1 id p.a.ts,sl z (Z p.A) (Fg p.A)],ag [Y a.p,X1 ida a.ts]] c λae σ'=>(∃idn,ae=ag [Y p.a.p,X1 id p.a.ts,sl idn (Z (Qp x.2 a p).A) (Fg (Qp x.2 a p).A)])/\W c σ':=by
 have b6:=J4 h3;have cc:=Cx p.a.ts;have HR:V ((Qp x.2 a p).A=p.A.filter λt=>!decide (C4 ⟨a.p,Si p.a.ts t a.ts⟩∈x.2)):=rfl;have a9:V (∀(f:List Tm) (i:Nat) (g:St),Z f<=3->W c g->ni 81 [ptr n 0,ag [Y a.p,X1 i f]] g λae σ'=>ae=my (decide (C4 ⟨a.p,f⟩∈x.2))/\W g σ'):=λf i g h1 h2=>Jq n ot M d b ⟨a.p,f⟩ i k x h1 hk hx g (hM.keep h2);generalize hG:(λt:Ck=>C4 ⟨a.p,Si p.a.ts t a.ts⟩)=B at*
 have HG:V (∀t,B t=C4 ⟨a.p,Si p.a.ts t a.ts⟩):=λt=>by rw[<-hG]
 have b1:V ((Qp x.2 a p).A=p.A.filter λt=>!decide (B t∈x.2)):=by
  rw[V,HR.o];congr 1;funext t;rw[HG.o t]
 clear hG HR hk hx hM;generalize Qp x.2 a p=bp at*
 refine wl func219 ?_;refine X ?_
 refine wn [0,4,5,6,7,17,18] 19 (Z p.A) (λi an σ'=>∃(m:Nat) (o:List Ck) (C:oh),W c σ'/\c.B+3<σ'.B/\σ'.C c.B=[Y p.a.p,X1 id p.a.ts,sl z (Z p.A) (Fg p.A)]/\σ'.C (c.B+1)=[Y a.p,X1 ida a.ts]/\σ'.C (c.B+2)=[Y 0,H,H]/\σ'.C (c.B+3)=[Y p.a.p,X1 id p.a.ts,sl m (Z o) C]/\J c σ' m (Z o)/\Z o<=i/\Z C=Z o*3/\V (C=Fg o/\o=(p.A.take i).filter λt=>!decide (B t∈x.2))) ⟨1,[],[],Xs,BJ,?_,?_,?_,?_,J.nil _ _,nk,nk,⟨rfl,nk⟩⟩ ?_
 ·rw[Aj L,Ah AM,Ah AM,Ah AM,Ao]
 ·rw[Aj L,Ah AM,Ah AM,Be AM AM]
 ·rw[Aj L,Ah AM,Be AM AM]
 ·rw[show c.B+3=c.B+1+1+1 from rfl,Ak];simp
 rintro i an σ' _ ⟨h0,h4,h5,h6,h7,bc,bb⟩ ba ⟨m,o,C,hK,ca,b4,b3,b2,bg,hO,b9,bh,P⟩;have b5:=hK.B;by_cases bi:i<Z p.A
 ·obtain⟨t,am⟩:=gq bi;obtain⟨G,ae,hd⟩:=Kw h3 am;have T:V ((p.A.take (i+1)).filter (λt=>!decide (B t∈x.2))=(p.A.take i).filter (λt=>!decide (B t∈x.2))++if (!decide (B t∈x.2))=true then [t]else []):=by
   rw[V,AT,am,BN,Em]
  clear am;have f1:=Io G;have f2:=Ow G;have f3:=Jm G;have f4:=Qj G;have f5:=Fo t;have f6:=eM G;refine X ?_
  refine wn [0,4,5,6,7,9,10,17,18,19,26,27] 28 (Z p.a.ts) (λj an l=>∃(v:Nat) (f:List Tm),W σ' l/\σ'.B+1<l.B/\l.C σ'.B=As t/\l.C (σ'.B+1)=[Y a.p,X1 v f]/\Z f<=3/\V (f=Si (p.a.ts.take j) t a.ts)) ⟨ida,a.ts,Xs,BJ,?_,?_,ha,rfl⟩ ?_
  ·rw[Aj L,Ah BJ,Ak]
  ·rw[Ak]
  clear h0 h4 h5 h6 h7 bc bb ba;rintro j an l hj ⟨h0,h4,h5,h6,h7,h9,b0,bc,bb,ba,bz,bw⟩ bv ⟨v,f,E,a6,af,ap,be,U⟩;have au:=E.B;by_cases av:j<Z p.a.ts
  ·obtain⟨w,aj⟩:=gq av;obtain⟨rj,br⟩:=C3 aj;let⟨w1,D⟩:=w;have s:t[j]?=some t[j]:=AK L;have bo:=Qk s;have a5:V (Iu t (j:Nat)=t[j]):=by simp[V,Iu,s]
   generalize t[j]=y at s bo a5;have F:V (Si (p.a.ts.take (j+1)) t a.ts=if w1=true then Bt D y f else f):=by
    rw[V,AT,aj,BN,zG,CN,ER hj,<-U.o];unfold sT;simp only[a5.o]
   clear aj s a5 U;cases w1
   ·have bd:V (f=Si (p.a.ts.take (j+1)) t a.ts):=by rw[V,F.o];rfl
    clear F;refine X ?_;refine⟨v,f,?_⟩;exact m9 bd
   have bd:V (Bt D y f=Si (p.a.ts.take (j+1)) t a.ts):=by rw[V,F.o];rfl
   clear F;have bu:=λc=>Oz a.p v f D y L c;have bq:Z (Bt D y f)<=3:=by simpa[Bt]using be
   refine X ?_;have bf:W σ' ((l.new [my false,Y 0]).put l.B [my true,Y D]):=(E.new _).put au _;refine A2 (Q:=λax u a1=>ax= .normal/\u 0=ptr n 0/\u 4=ptr c.B 0/\u 5=ptr (c.B+1) 0/\u 6=ptr (c.B+2) 0/\u 7=ptr (c.B+3) 0/\u 9=ptr σ'.B 0/\u 10=ptr (σ'.B+1) 0/\u 17=sl z (Z p.A) (Fg p.A)/\u 18=Y (Z p.A)/\u 19=Y i/\u 26=X1 id p.a.ts/\u 27=Y (Z p.a.ts)/\u 28=Y j/\W σ' a1/\σ'.B+1<a1.B/\a1.C σ'.B=As t/\∃idn,a1.C (σ'.B+1)=[Y a.p,X1 idn (Bt D y f)]) ?_ ?_
   ·refine Ar Ag (λ_=>True) [7] [0,1,2,3,4,5] 2 (nv 8 63) AH (λ_ _ _ h=>by cases h.1) ?_;intro yb ya;refine Z3 ?_;refine ya.o _ ?_;clear ya yb;refine Ai (i:=6) AH ?_;refine Am ?_;intro yb ya;refine Z3 ?_;refine AF.mono (bu _) ?_;rintro _ aw ⟨⟨idn,rfl⟩,K⟩;have ay:=K.B;simp only[Ac,Aa]at ay;have a3:=K.C;simp only[Ac,Aa]at a3;have az:aw.C σ'.B=As t:=by rw[a3 _ L,Aj L,Ah L,af]
    have c5:aw.C (σ'.B+1)=[Y a.p,X1 v f]:=by rw[a3 _ L,Aj L,Ah L,ap]
    refine Z3 ?_;refine ya.o _ _ ⟨Al K,?_⟩;clear ya yb;refine Ai (i:=7) AH ?_;refine Am ?_;intro yb ya;refine Z3 ?_;refine ya.o _ _ ⟨A3 rfl,?_⟩;clear ya yb;refine Aw AH ⟨rfl,AI,AI,AI,AI,AI,AI,AI,AI,AI,AI,AI,AI,AI,(bf.trans K).put L _,by simp only[Ac];omega,by rw[Aj L,az],idn,Ak⟩
   rintro ax s2 c8 ⟨rfl,g0,g4,g5,g6,g7,g9,bl,bm,bn,bt,bx,c1,c2,cd,cb,c3,idn,c4⟩;clear h0 h4 h5 h6 h7 h9 b0 bc bb ba bz bw bv af ap bf E au a6;refine X ?_;refine⟨idn,Bt D y f,?_⟩;exact m9 bd
  obtain rfl:j=Z p.a.ts:=L;have HB:V (C4 ⟨a.p,f⟩=B t):=by
   rw[V,HG.o t,U.o,AS]
  have N:=λg hh=>a9.o f v g be hh;rw[HB.o]at N;have S:=hK.trans E;clear U HB hj av;cases I:decide (B t∈x.2)
  ·have HX:V (C++As t=Fg (o++[t])/\o++[t]=(p.A.take (i+1)).filter λt=>!decide (B t∈x.2)):=by
    obtain⟨q,e⟩:=P.o;refine⟨by rw[q,Q9],?_⟩;rw[T.o,I,<-e];simp
   rw[I]at N;clear P T I;refine m0 ?_;intro yb ya;refine Xi (N _ S) ?_;rintro _ _ ⟨rfl,A⟩;(have a4:=A.B;have R:=(E.trans A).C;have a0:=A.C;have a8:=S.trans A;have a7:=J.keep hO (E.trans A));refine nh ?_;intro yb ya;rename_i ao;have c6:ao.C σ'.B=As t:=by rw[a0 _ L,af]
   have c7:ao.C (c.B+3)=[Y p.a.p,X1 id p.a.ts,sl m (Z o) C]:=by rw[R _ L,bg]
   refine X ?_;refine Bo (by first|exact G6) (a8) (a7) nr (by rfl) (bh) (by rw[f1]) (f5) nr L L ?_;intro idn bj ah ai ac ab ad aa;have bk:∀a2,a2<σ'.B->bj.C a2=σ'.C a2:=λa2 hq=>by rw[ac,R _ hq]
   refine Z3 ?_;refine X ?_;refine⟨idn,o++[t],C++As t,?_⟩
   ((repeat' refine Zi ?_ ?_)<;>first|exact Xq|exact (ai.put L _)|exact (nn (J.put ah _ _))|exact HX|exact Xs)
  have HX:V (C=Fg o/\o=(p.A.take (i+1)).filter λt=>!decide (B t∈x.2)):=by
   obtain⟨q,e⟩:=P.o;refine⟨q,?_⟩;rw[T.o,I,e];simp
  rw[I]at N;clear P T I;refine m0 ?_;intro yb ya;refine Xi (N _ S) ?_;rintro _ _ ⟨rfl,A⟩;(have a4:=A.B;have R:=(E.trans A).C;have a8:=S.trans A;have a7:=J.keep hO (E.trans A));refine X ?_;refine⟨m,o,C,?_⟩
  ((repeat' refine Zi ?_ ?_)<;>first|exact Xq|exact a8|exact a7|exact HX|exact (by rw[R _ L];assumption)|exact Xs)
 obtain rfl:i=Z p.A:=L;let⟨q,e⟩:=P.o;rw[AS]at e;refine X ?_;exact⟨_,rfl,⟨_,by rw[b1.o,<-e]<;>rfl⟩,hK.put L _⟩
def qV (a:Dx)(p:Part):Bool:=(Cs [a]).all (Bm p.a.ts)
def JR {a p}:qV a p↔∀v,Bm a.ts v->Bm p.a.ts v:=by rw[qV];rw[CX];constructor;intro h v c;exact h v ((Dn _ _).2 ⟨a,nk,AO.1 c⟩);intro h v c;let⟨b,d,e⟩:=(Dn _ _).1 c;simp at d;subst d;exact h v (AO.2 e)
def oC (k l n)(b:([k,l,n]:oh).all flat)(a:Dx)(ida j):ni 218 [ag [k,l,H,n],ag [Y a.p,X1 ida a.ts]] j λo σ'=>o=Y (-1)/\W j σ':=by
 simp only[all_cons,all_nil,Bool.and_true,BM]at b;let⟨g,i,f⟩:=b;apply wl func218;refine X ?_
 refine Ae (λm s σ'=>m=0/\s 9=Y 0/\s 10=Y 0/\W j σ') 0
  ⟨rfl,AG,AG,Xs⟩ ?_
 rintro m s σ' ⟨rfl,e,d,c⟩;refine X ?_;grind
def oB (R S T)(N:([R,S,T]:oh).all flat)(Lqx)(hL:∀p∈Lqx,Z p.a.ts<=3)(aj:Z Lqx<=64)(o m U)(E:r Oa Lqx U)(a ida)(K:Z a.ts<=3)(b)(aa:o<b.B)(av:Z Lqx<=m)(a6:Z (b.C o)=m*3)(an:(b.C o).take (Z Lqx*3)=U):ni 218 [ag [R,S,gx o (Z Lqx) m,T],ag [Y a.p,X1 ida a.ts]] b λs σ'=>((∃(i:Nat) (p:Part),s=Y i/\Lqx[i]?=some p/\qV a p)\/(s=Y (-1)/\∀p∈Lqx,qV a p=false))/\W b σ':=by
 simp only[all_cons,all_nil,Bool.and_true,BM]at N;let⟨f0,f1,f3⟩:=N;have G:=λ(i:Nat) (b:St)=>Hy [a] [Y a.p,X1 ida a.ts] i (r.single ⟨ida,rfl⟩) (by simp;exact K) nk b;have a2:=Fs (l:=[a]) (by simp;exact K);have a1:V (∀p,qV a p=(Cs [a]).all (Bm p.a.ts)):=λp=>rfl;generalize Cs [a]=vs at*
 simp only[BQ,CQ]at a2 G;have A:=r.length Ex E;refine wl func218 ?_;refine X ?_
 refine wn [2,3,8,9] 10 (Z Lqx) (λi ae σ'=>W b σ'/\b.B+1<σ'.B/\σ'.C (b.B+1)=[Y a.p,X1 ida a.ts]/\V (∀p∈Lqx.take i,qV a p=false)) ⟨Xs,BJ,?_,by simp[V]⟩ ?_
 rw[Be AM AM];rintro i ae σ' _ ⟨a8,a9,ac,ad⟩ a7 ⟨t,a5,I,k⟩;have a3:=t.B;by_cases D:i<Z Lqx;obtain⟨w,u⟩:=gq D;obtain⟨id,c,s,z⟩:=F0 E u;have ak:=hL _ (AY u);have F:σ'.C o=b.C o:=t.C o aa;have ao:(σ'.C o).drop (i*3)=Y w.a.p::X1 id w.a.ts::sl c (Z w.A) (Fg w.A)::(s++(b.C o).drop (Z Lqx*3)):=by
  rw[F]
  conv=>lhs;rw[<-KD (Z Lqx*3) (b.C o),an]
  rw[NG (by rw[A];omega),z];rfl
 have ap:o≠σ'.B:=L;have M:V (qV a w=false->∀p∈Lqx.take (i+1),qV a p=false):=λhw p B=>by
  rw[AT,u,BN]at B;obtain h|h:=AW.1 B;exact k.o p h;simp at h;subst h;exact hw
 have v:V (Lqx[i]?=some w):=u;have P:=λ(i:Nat) (b:St)=>gV w.a.p id w.a.ts vs i L L b;rw[<-a1.o w]at P;have a4:σ'.B≠o:=λe=>ap e.symm;clear u k F;refine mw ?_;intro h ab;have ax:W b ((σ'.new [Y 0,H,H]).put σ'.B [Y w.a.p,X1 id w.a.ts,sl c (Z w.A) (Fg w.A)]):=(t.new _).put t.B _;have kv:∀p,p<σ'.B->((σ'.new [Y 0,H,H]).put σ'.B [Y w.a.p,X1 id w.a.ts,sl c (Z w.A) (Fg w.A)]).C p=σ'.C p:=λp B=>by rw[Aj L,Ah L]
 generalize d:(σ'.new [Y 0,H,H]).put σ'.B [Y w.a.p,X1 id w.a.ts,sl c (Z w.A) (Fg w.A)]=f at*
 have nb:f.B=σ'.B+1:=by rw[<-d];rfl
 have o6:f.C σ'.B=[Y w.a.p,X1 id w.a.ts,sl c (Z w.A) (Fg w.A)]:=by rw[<-d,Ak]
 have o3:f.C (b.B+1)=[Y a.p,X1 ida a.ts]:=by rw[kv _ L,I]
 clear d;refine A2 (Q:=λe j af=>e= .normal/\j 20=my (qV a w)/\j 2=ptr b.B 0/\j 3=ptr (b.B+1) 0/\j 5=Y i/\j 8=gx o (Z Lqx) m/\j 9=Y (Z Lqx)/\j 10=Y i/\W f af) ?_ ?_;refine bT [] [0,1,2] 3 (nv 6 7) ?_;refine rl 3 ?_;refine tn 4 (G _) ?_;rintro yb ya _ ay ⟨⟨ah,rfl⟩,y⟩;have am:=y.B;refine ux ?_;refine tn 5 (P _) ?_;rintro yb ya _ x ⟨rfl,q⟩;refine ux ?_;refine Aw AH ⟨rfl,AI,AI,AI,AI,AI,AI,AI,(((W.refl _).lay 1).trans y).trans q⟩;rintro e j x ⟨rfl,g,g2,g3,g5,g8,g9,ai,q⟩;have aw:=ax.trans q;have au:=q.B;have oe:x.C (b.B+1)=[Y a.p,X1 ida a.ts]:=by rw[q.C _ L,o3]
 clear a8 a9 ac ad a7 h ab I z ao;cases n:qV a w
 ·have a0:V (∀p∈Lqx.take (i+1),qV a p=false):=M.o n;rw[n]at g;clear n M;refine De g ?_;refine X ?_;skip;exact m9 a0
 have C:V (qV a w=true):=n;rw[n]at g;clear n;refine Cj g ?_;refine X ?_
 first|exact⟨_,rfl,.inl ⟨i,w,rfl,v.o,C.o⟩⟩|exact⟨_,rfl,.inl ⟨i,w,rfl,v.o,C.o⟩,aw⟩
 obtain rfl:i=Z Lqx:=L;rw[AS]at k;refine X ?_
 exact⟨_,rfl,.inr ⟨rfl,k.o⟩⟩
def PS (lo:Nat)(b:St)(x:AV)(n:Nat)(c:oh):Prop:=(x=H/\n=0/\c=[])\/∃o a,x=gx o n a/\0<n/\n<=a/\Z (b.C o)=a*3/\(b.C o).take (n*3)=c/\lo<=o/\o<b.B
theorem Dz {a:St}{p o c}(h:o≠p):(a.put p c).C o=a.C o:=by grind[St.put]
def PS.flat {lo a x n b}(h:PS lo a x n b):flat x:=by rcases h with⟨rfl,-,-⟩|⟨o,cap,rfl,-⟩<;>rfl
def PS.keep {lo a σ' x n b}(h:PS lo a x n b)(k:W a σ'):PS lo σ' x n b:=by obtain h|⟨o,d,e,f,g,i,j,l,c⟩:=h;exact .inl h;have:=k.C o c;exact .inr ⟨o,d,e,f,g,this▸i,this▸j,l,BZ c k.B⟩
def PS.put {lo a x n b}(h:PS lo a x n b){p}(d:p<lo)(c):PS lo (a.put p c) x n b:=by obtain h|⟨o,e,f,g,i,j,k,l,m⟩:=h;exact .inl h;have:(a.put p c).C o=a.C o:=Dz L;exact .inr ⟨o,e,f,g,i,this▸j,this▸k,l,m⟩
def wA {P t b l σ0 c i n lo x xs d K}(z:P0 P t=some (3,b,l))(e:Z l=3)(D:Z d=3)(y:d.all Abs.flat)(A:(n+1)*b<=140737488355328)(u:n+1<=1099511627776)
  (v:lo<=c.B) (C:σ0.B<=lo) (m:W σ0 c) (k:PS lo c x n xs) (h:∀q σ',PS lo σ' q (n+1) (xs++d)->c.B<=σ'.B->(∀p,p<lo->σ'.C p=c.C p)->W σ0 σ'->K q σ'):Jx P t t x (sl i 1 d) c K:=by apply WR (xs:=xs) z L e L y L A u;obtain h|⟨o,a,N,F,G,I,M,-,-⟩:=k;exact .inl h;exact .inr ⟨o,a,N,F,G,I,M⟩;rintro o a S ⟨E,f,e2,rfl⟩ g j;obtain⟨rfl,-,-⟩|⟨U,T,rfl,F,G,I,M,Q,R⟩:=k;simp at f;simp at f;obtain⟨rfl,rfl⟩:=f;refine h _ _ (.inr ⟨_,_,rfl,L,e2,Ak▸g,Ak▸j,Q,R⟩) (AU _) (λp B=>Dz L) (m.put L _);intro a S g s j;exact h _ _ (.inr ⟨_,_,rfl,L,s,Ao▸g,Ao▸j,v,AM⟩) AM (λp B=>Ah L) (m.new _)
def oK {P N c Q s σ0 a lo p j n b l x}(f:W σ0 a)(y:σ0.B<=lo)(D:σ0.B<=p)(A:p<lo)(z:lo<=a.B)(m:PS lo a x n l)(g:a.C p=b)(d:b[j]?=some x)
  (h:∀(t:Nat) (σ':St),W σ0 σ'->σ'.B=a.B->σ'.C p=b.set j (sl t n l)->(∀o,o<lo->o≠p->σ'.C o=a.C o)->Mn P N c Q s σ'):Mn P N c Q s a:=by obtain⟨rfl,rfl,rfl⟩|⟨o,E,rfl,F,G,I,B,K,C⟩:=m;refine h 1 a f rfl ?_ (λ_ _ _=>rfl);rw[g];apply FL;intro i;by_cases e:j=i;subst e;rw[getElem?_set_self (BA.1 d).1,d];rw[NH e];refine Zk (o:=o) (p:=p) (k:=n*3) C L L g d (gp) ?_;rw[B];exact h 0 _ ((f.put L _).put D _) rfl Ak (λq v u=>by grind[Dz])
def WB {l c a m}(b:a+Z c<=m)(h2:m<=Z l):(lsp l a c).take m=lsp (l.take m) a c:=by rw[Hw _ _ _ L,Hw _ _ _ (gp),take_take,ER L,drop_take,take_append];rw[AX,CN,ER L,FZ (gp)]
def SJ {α:Type}{E z}(f:∀a c,E a c->Z c=z):∀{l:List α} {cs:oh} {i:Nat} {a:α} {c:oh},r E l cs->i<Z l->E a c->r E (l.set i a) (lsp cs (i*z) c)
 |[],_,i,_,_,_,j,_=>gp
 |b::l,cs,0,a,c,⟨d,s,m,k,e⟩,j,g=>by subst e;have n:=f _ _ m;have e2:=f _ _ g;refine⟨c,s,g,k,?_⟩;rw[KY,Hw _ _ _ (gp)];grind
 |b::l,cs,i+1,a,c,⟨d,s,m,k,e⟩,j,g=>by
  subst e;have n:=f _ _ m;have e2:=f _ _ g;have p:=r.length f k;have o:i<Z l:=nn j;have q:i*z+z<=Z s:=by rw[p,<-If];exact GW _ o
  refine⟨d,lsp s (i*z) c,m,SJ f k o g,?_⟩;rw[Hw c (d++s) _ (gp),Hw c s _ (gp)];rw[If,<-n,Nat.add_comm (i*Z d),take_length_add_append,ID,drop_length_add_append];simp
def PS.set {lo b o a n i d c}(h:PS lo b (gx o n a) n d)(g:i<n)(f:Z c=3):PS lo (b.put o (lsp (b.C o) (i*3) c)) (gx o n a) n (lsp d (i*3) c):=by obtain⟨h,-,-⟩|⟨t,q,e,j,k,s,l,m,p⟩:=h;simp at h;simp at e;obtain⟨rfl,rfl⟩:=e;refine .inr ⟨o,a,rfl,j,k,by grind[Ak,L0],?_,m,p⟩;rw[Ak,WB (gp) (gp),l]
def sF (lo m n q)(c:([m,n,q]:oh).all flat)(Lqx)(e:∀p∈Lqx,Z p.a.ts<=3)(b:Z Lqx<=64)(u s)(g:r Oa Lqx s)(a ida)(f:Z a.ts<=3)(l)(k:PS lo l u (Z Lqx) s):ni 218 [ag [m,n,u,q],ag [Y a.p,X1 ida a.ts]] l λt σ'=>((∃(i:Nat) (p:Part),t=Y i/\Lqx[i]?=some p/\qV a p)\/(t=Y (-1)/\∀p∈Lqx,qV a p=false))/\W l σ':=by obtain⟨rfl,j,-⟩|⟨o,v,rfl,B,A,x,y,C,z⟩:=k;apply AF.mono (oC m n q c a ida l);rintro t σ' ⟨rfl,d⟩;have:Lqx=[]:=GG j;subst this;exact⟨.inr ⟨rfl,nk⟩,d⟩;exact oB m n q c Lqx e b o v s g a ida f l z A x y
structure FP (neg:Int->Ck->Prop)(q:AZ)(k:Nat)(Lqx:List Part)(Nn:List Dx):Prop where
 atm:Lqx.map (·.a)=q.A.map (·.a)
 sub:∀p∈Lqx,∃p0∈q.A,p.a=p0.a/\p.A.Sublist p0.A
 nsub:Nn.Sublist (q.B.take k)
 uns:∀a∈Nn,Jz a.ts=false
 sol:∀ν,((∀p∈q.A,B8 p.a ν∈p.A)/\∀a∈q.B.take k,¬neg a.p (B8 a ν))↔((∀p∈Lqx,B8 p.a ν∈p.A)/\∀a∈Nn,¬neg a.p (B8 a ν))
def FP.start (neg q):FP neg q 0 q.A []:=
 ⟨rfl,λp a=>⟨p,a,rfl,MF _⟩,nk,nk,λb=>nk⟩
def I0 {α:Type}{l:List α}{k a}(h:l[k]?=some a):l.take (k+1)=l.take k++[a]:=by rw[AT,h,BN]
def FP.keepN {neg q k Lqx e a}(h:FP neg q k Lqx e)(d:q.B[k]?=some a)(g:Jz a.ts=false):FP neg q (k+1) Lqx (e++[a]):=by refine⟨h.atm,h.sub,I0 d▸h.nsub.append (MF _),λb c=>?_,λf=>?_⟩;obtain c|c:=AW.1 c;exact h.uns b c;simp at c;subst c;exact g;have:=h.sol f;rw[I0 d];simp only[AW,FY,or_imp,forall_and,forall_eq];rw[<-and_assoc,this,and_assoc]
def FP.drop {neg q k Lqx c a}(h:FP neg q k Lqx c)(b:q.B[k]?=some a)(d:∀ν,¬neg a.p (B8 a ν)):FP neg q (k+1) Lqx c:=by refine⟨h.atm,h.sub,I0 b▸h.nsub.trans (sublist_append_left _ _),h.uns,λν=>?_⟩;have:=h.sol ν;rw[I0 b];grind
def FP.bar {neg q k i Lqx s a p l}(h:FP neg q k Lqx s)(u:q.B[k]?=some a)(j:Lqx[i]?=some p)(C:Z p.a.ts<=3)(M:qV a p)(I:∀t,neg a.p t↔t∈l):FP neg q (k+1) (Lqx.set i (Qp l a p)) s:=by
 have A:=(BA.1 j).1;have v:=AY j;refine⟨?_,λb f=>?_,I0 u▸h.nsub.trans (sublist_append_left _ _),h.uns,λd=>?_⟩;rw[<-h.atm];apply FL;intro n;rw[DC,DC];by_cases e:i=n;subst e;rw[getElem?_set_self A,j];rfl;rw[NH e];obtain o|rfl:=NI f;exact h.sub b o;let⟨G,c,m,D⟩:=h.sub p v;exact⟨G,c,m,LD.trans D⟩;have E:=h.sol d;rw[I0 u];simp only[AW,FY,or_imp,forall_and,forall_eq];rw[<-and_assoc,E,I];have B:=ZQ (l:=l) (a:=a) (p:=p) (ν:=d) C (JR.1 M);have F:(∀b∈Lqx.set i (Qp l a p),B8 b.a d∈b.A)↔(∀b∈Lqx,B8 b.a d∈b.A)/\B8 a d∉l:=by
  constructor;intro g;have c:=B.1 (g (Qp l a p) (mem_set A _));refine⟨λb f=>?_,c.2⟩;let⟨n,K⟩:=CL f;by_cases e:i=n;subst e;rw[j]at K;cases K;exact c.1;exact g b (AY (NH e▸K));rintro⟨c,m⟩ b f;obtain o|rfl:=NI f;exact c b o;exact B.2 ⟨c p v,m⟩
 rw[F];constructor;rintro⟨⟨x,y⟩,z⟩;exact⟨⟨x,z⟩,y⟩;rintro⟨⟨x,z⟩,y⟩;exact⟨⟨x,y⟩,z⟩
structure Tz (q:AZ):Prop where
 ok:Qt q
 n:QN q
 w:WP q
 wf:pA q
def EA.ok {q a}(h:EA q a)(d:Qt q):Qt a/\a.B=q.B/\∀p∈a.A,p∈q.A:=by
 induction h with
 |refl=>exact⟨d,rfl,λp b=>b⟩
 |tail h c=>exact⟨kF c.1,c.2.1,λp b=>c.2.2 p (mem_of_mem_eraseP b)⟩
def XW {q a}(h:CF q a)(e:pA q):pA a:=λv b=>by
 let⟨k,e2,c⟩:=h.atoms;rw[e2,c]at b;let⟨p,f,i⟩:=e v b;have:p.a∈a.A.map (·.a):=gp;grind
def FP.fin {neg q Lqx o}(h:FP neg q (Z q.B) Lqx o)(d:Tz q):Tz ⟨q.h,Lqx,o⟩/\GP neg q ⟨q.h,Lqx,o⟩:=by
 have A:∀a∈o,a∈q.B:=λa b=>by
  have:=h.nsub.subset b;rwa[AS]at this
 have u:=h.sol;rw[AS]at u;have y:∀p∈q.A,∃l∈Lqx,l.a=p.a:=λp c=>by
  have:p.a∈Lqx.map (·.a):=by rw[h.atm];exact AN.2 ⟨p,c,rfl⟩
  let⟨l,x,s⟩:=AN.1 this;exact⟨l,x,s⟩
 refine⟨⟨⟨d.ok.hd,?_,?_,λp c=>?_,λp c=>?_,λp c=>?_,λa b=>d.ok.na a (A a b)⟩,λp c t k=>?_,λp c=>?_,λv m=>?_⟩,rfl,λa b=>?_,λn j=>(u n).1 j,λn j=>⟨n,(u n).2 j,λ_ _=>rfl⟩⟩;have:=congrArg length h.atm;simp at this;exact this▸d.ok.pl;have:=h.nsub.length_le;rw[AS]at this;exact BI this d.ok.nl;let⟨e,f,i,g⟩:=h.sub p c;exact i▸d.ok.pa e f;let⟨e,f,i,g⟩:=h.sub p c;exact BI g.length_le (d.ok.pt e f);let⟨e,f,i,g⟩:=h.sub p c;exact λt k=>d.ok.p3 e f t (g.subset k);let⟨e,f,i,g⟩:=h.sub p c;exact i▸d.n e f t (g.subset k);let⟨e,f,i,g⟩:=h.sub p c;rw[i];exact⟨(d.w e f).1,λt k=>(d.w e f).2 t (g.subset k)⟩
 let⟨p,c,z⟩:=d.wf v (gp)
 let⟨l,x,s⟩:=y p c;exact⟨l,x,s▸z⟩;rw[atomsQ]at b⊢;simp only[BD,AW]at b⊢;obtain b|b|b:=b;exact .inl b;rw[h.atm]at b;exact .inr (.inl b);exact .inr (.inr (A a b))
def PS.gx {lo b x n c}(h:PS lo b x n c)(d:0<n):∃o a,x=Abs.gx o n a/\lo<=o/\o<b.B/\Z (b.C o)=a*3/\n<=a/\(b.C o).take (n*3)=c:=by obtain⟨-,h,-⟩|⟨o,a,e,l,f,g,i,j,k⟩:=h;omega;exact⟨o,a,e,j,k,g,f,i⟩
def BO (neg:Int->Ck->Prop)(M:MM)(q:AZ):Prop:=∀a∈q.B,∃(k:Nat) (x:Nat×List Ck),a.p=(k:Int)/\M[k]?=some x/\∀t,neg a.p t↔t∈x.2
def lp (neg:Int->Ck->Prop)(q:AZ)(x:AV):Prop:=∃b,(x=tp [ag b,my false]/\Z b=4/\b.all flat/\∀d,¬Mq neg q d)\/∃c,x=tp [ag b,my true]/\EQ c b/\Tz c/\NE c/\GP neg q c/\∀a∈c.B,a∈q.B/\Jz a.ts=false
def eR (neg q c om ot M d b)(hc:EQ q c)(hA:Tz q)(dw:BO neg M q)(f)(hM:BL f om ot M d b):ni 186 [ptr om 0,ag c] f λbl σ'=>lp neg q bl/\W f σ':=by
 obtain⟨T,ip,dg,pc,nc,rfl,hP,cp⟩:=hc;have eo:=r.length Ex hP;have d6:=r.length Iz cp;have hl:=hA.ok.pl;have ea:=hA.ok.nl;have dh:=hA.ok.na;have HM:V (BL f om ot M d b):=hM;clear hM;refine wl func186 ?_;refine X ?_
 refine wn [0,3,4,6,18,19] 20 (Z q.A) (λi ap σ'=>∃(s:AV) (z:oh),W f σ'/\f.B+2<σ'.B/\σ'.C f.B=[Y q.h.p,X1 T q.h.ts,sl ip (Z q.A) pc,sl dg (Z q.B) nc]/\σ'.C (f.B+1)=[Y 0,H,H,H]/\σ'.C (f.B+2)=[Y q.h.p,X1 T q.h.ts,s,H]/\PS (f.B+3) σ' s i z/\V (r Oa (q.A.take i) z)) ⟨H,[],Xs,BJ,?_,?_,?_,.inl ⟨rfl,rfl,rfl⟩,rfl⟩ ?_
 ·rw[Aj L,Ah AM,Ah AM,Ao]
 ·rw[Aj L,Ah AM,Be AM AM]
 ·rw[show f.B+2=f.B+1+1 from rfl,Ak]
 rintro i ap σ' hi ⟨h0,h3,h4,h6,d3,d2⟩ d1 ⟨s,z,D,az,cz,U,t,m,hE⟩;have a8:=D.B;have ci:=m.flat;by_cases P:i<Z q.A
 ·obtain⟨w,j⟩:=gq P;obtain⟨id,bk,bl,hd⟩:=F0 hP j;have HX:V (r Oa (q.A.take (i+1)) (z++[Y w.a.p,X1 id w.a.ts,sl bk (Z w.A) (Fg w.A)])):=by
   rw[V,AT,j,BN];exact r.append hE.o (r.single ⟨id,bk,rfl⟩)
  clear j hE;refine nh ?_;intro yb ya;refine wA (lo:=f.B+3) (σ0:=f) (by exact Ee) (by rfl) (by rfl) (by rfl) L L (by simp only[Az,Ac,Aa];omega) L (((D.new _).put D.B _).lay 1) (m.keep ((((W.refl _).new _).put (AU _) _).lay 1)) ?_;intro X' bx cn di ba am;simp only[Az,Ac,Aa]at di;have ej:∀p,p<f.B+3->bx.C p=σ'.C p:=λp F=>by rw[ba p F,H6,Aj L,Ah L]
  obtain⟨og,cg,rfl,-⟩:=cn.gx L;clear ba m;refine X ?_;refine⟨gx og (i+1) cg,z++[Y w.a.p,X1 id w.a.ts,sl bk (Z w.A) (Fg w.A)],?_⟩
  ((repeat' refine Zi ?_ ?_)<;>first|exact Xq|exact (am.put L _)|exact (cn.put L _)|exact HX|exact Xs)
 obtain rfl:i=Z q.A:=L;rw[AS]at hE;have ds:=hA.ok.pa;have bg:=hA.ok.pt;have dt:=hA.ok.p3;have ca:V (r Oa q.A z/\r O9 [] []/\FP neg q 0 q.A []):=⟨hE.o,rfl,FP.start neg q⟩;clear hE hi;refine X ?_
 refine wn [0,4,6,32,33] 34 (Z q.B) (λk ap σ'=>∃(I:Nat) (s:AV) (e:List Part) (v:List Dx) (z g:oh),W f σ'/\f.B+2<σ'.B/\σ'.C (f.B+1)=[Y 0,H,H,H]/\σ'.C (f.B+2)=[Y q.h.p,X1 T q.h.ts,s,sl I (Z v) g]/\PS (f.B+3) σ' s (Z e) z/\J f σ' I (Z v)/\Z g=Z v*2/\Z v<=k/\Z e<=64/\V (r Oa e z/\r O9 v g/\FP neg q k e v)) ⟨1,s,q.A,[],z,[],D,az,U,t,m,J.nil _ _,nk,nk,hl,ca⟩ ?_
 clear h0 h3 h4 h6 d3 d2 d1 D az cz U t m ci a8 P ca;rintro k ap σ' hk ⟨h0,h4,h6,d0,cw⟩ cv ⟨I,s,e,v,z,g,D,az,U,t,m,hO,de,ee,e0,A⟩;have a8:=D.B;have ci:=m.flat;by_cases P:k<Z q.B
 ·obtain⟨a,j⟩:=gq P;obtain⟨K,bl,hd⟩:=Ke cp j;have N:=(AY j);have bq:=dh _ N;obtain⟨ka,x,bd,hx,b2⟩:=dw _ N;have cq:∀p∈e,Z p.a.ts<=3/\Z p.A<=5000/\T3 p.A:=λp F=>by
   let⟨p0,g1,g2,g3⟩:=A.o.2.2.sub p F;exact⟨by rw[g2];exact ds p0 g1,BI g3.length_le (bg p0 g1),λbt ht=>dt p0 g1 bt (g3.subset ht)⟩
  have B:V (q.B[k]?=some a/\a∈q.B/\a.p=(ka:Int)/\M[ka]?=some x/\∀bt,neg a.p bt↔bt∈x.2):=⟨j,N,bd,hx,b2⟩;have bg:=λ(y:St) (hh:PS (f.B+3) y s (Z e) z)=>sF (f.B+3) (Y q.h.p) (X1 T q.h.ts) (sl I (Z v) g) rfl e (λp F=>(cq p F).1) e0 s z A.o.1 a K bq y hh;have bf:=λ(y:St)=>Pq a.p K a.ts L y;have ct:=λ(y:St) (hh:W f y)=>Jq om ot M d b a K ka x bq bd hx y (HM.o.keep hh);have bm:=λ(p:Part) (E bj:Nat) (g1:Z p.a.ts<=3) (g2:Z p.A<=5000) (g3:T3 p.A) (y:St) (hh:W f y)=>gY om ot M d b p a E bj K ka x g1 g2 g3 bq bd hx y (HM.o.keep hh);have ay:V _:=bm;clear j N bd hx b2 bm
  repeat' first|refine Z1 ?_|refine Z8 λyb ya=>?_|refine Z4 ?_;clear ya yb|refine Z2 ?_ ?_<;>intro h ae<;>try exact Xp|refine Z6 ?_;intro u bx ao am af aa ah ab|(refine Z5 ?_;refine Xi (bg _ (m.keep (((W.refl _).new _).put (AU _) _))) ?_;rintro _ _ ⟨(⟨i,p,rfl,F,cc⟩|⟨rfl,d5⟩),C⟩)|refine Z3 ?_|exact Zt|apply ya.o;clear ya yb
  ·rename_i l;have ak:=C.B;have G:=C.C;simp only[Ac,Aa]at ak G;have bv:=((D.new _).put D.B _).trans C;have an:=G σ'.B L;rw[Ak]at an;have hi:i<Z e:=(BA.1 F).1;let⟨cd,b0,db⟩:=cq p (AY F);have be:=(m.keep (((W.refl _).new _).put (AU _) _)).keep C;obtain⟨o,ai,rfl,d9,ch,ck,ed,b9⟩:=be.gx L;let⟨E,bj,rp,cj⟩:=F0 A.o.1 F;have b6:=r.length Ex A.o.1;have dd:(l.C o).drop (i*3)=Y p.a.p::X1 E p.a.ts::sl bj (Z p.A) (Fg p.A)::(rp++(l.C o).drop (Z e*3)):=by
    conv=>lhs;rw[<-KD (Z e*3) (l.C o),b9]
    rw[NG (by rw[b6];omega),cj];rfl
   have o6:l.C (f.B+2)=[Y q.h.p,X1 T q.h.ts,gx o (Z e) ai,sl I (Z v) g]:=by rw[G _ L,Aj L,Ah L,t]
   have o4:l.C (f.B+1)=[Y 0,H,H,H]:=by rw[G _ L,Aj L,Ah L,U]
   have br:J f l I (Z v):=J.keep (J.put (J.new hO _) _ _) C;have cu:=ay.o p E bj cd b0 db;have a0:V (∀u,r Oa (e.set i (Qp x.2 a p)) (lsp z (i*3) [Y p.a.p,X1 E p.a.ts,sl u (Z (Qp x.2 a p).A) (Fg (Qp x.2 a p).A)])/\r O9 v g/\FP neg q (k+1) (e.set i (Qp x.2 a p)) v):=λu=>⟨SJ Ex A.o.1 hi ⟨E,u,rfl⟩,A.o.2.1,A.o.2.2.bar B.o.1 F cd cc B.o.2.2.2.2⟩;have ec:i*3+3<=ai*3:=L;have dc:o≠f.B+2:=L;have b1:o≠f.B+1:=L;clear b9 cj b6 ay A U t m bg bf ct G D az hO cc F h ae;generalize Qp x.2 a p=bp at*
   refine A2 (Q:=λc3 s' ac=>c3= .normal/\s' 0=ptr om 0/\s' 4=ptr (f.B+1) 0/\s' 6=ptr (f.B+2) 0/\s' 32=sl dg (Z q.B) nc/\s' 33=Y (Z q.B)/\s' 34=Y k/\W f ac/\f.B+2<ac.B/\ac.C (f.B+1)=[Y 0,H,H,H]/\ac.C (f.B+2)=[Y q.h.p,X1 T q.h.ts,gx o (Z e) ai,sl I (Z v) g]/\J f ac I (Z v)/\∃u,PS (f.B+3) ac (gx o (Z e) ai) (Z e) (lsp z (i*3) [Y p.a.p,X1 E p.a.ts,sl u (Z bp.A) (Fg bp.A)])) ?_ ?_
   ·refine bT [12] [0,1,2,3,4,5,6,7,8,9] 3 (nv 13 1023) ?_;refine Ai (i:=10) AH ?_;refine Am ?_;intro yb ya;refine Z3 ?_;refine AF.mono (cu _ bv) ?_;rintro _ ei ⟨⟨u,rfl⟩,R⟩;have ep:=R.B;have bn:=R.C;have dm:Z (ei.C o)=ai*3:=by rw[bn o ch,ck]
    refine ux ?_;refine rl 11 ?_;refine rl 12 ?_;refine Aw AH ⟨rfl,AI,AI,AI,AI,AI,AI,(bv.trans R).put L _,by simp only[Ac];omega,by rw[Dz b1.symm,bn _ L,o4],by rw[Dz dc.symm,bn _ L,o6],J.put (J.keep br R) _ _,u,by rw[<-bn o ch];exact PS.set (c:=[Y p.a.p,X1 E p.a.ts,sl u (Z bp.A) (Fg bp.A)]) (be.keep R) hi rfl⟩
   rintro c3 s2 et ⟨rfl,g0,g4,g6,ek,em,en,ef,d8,er,es,e1,u,dr⟩;have cx:=a0.o u;have d4:V _:=cx;clear h0 h4 h6 d0 cw cv be br o6 o4 dd a0 cx cu ck an;refine X ?_;exact⟨I,gx o (Z e) ai,e.set i bp,v,lsp z (i*3) [Y p.a.p,X1 E p.a.ts,sl u (Z bp.A) (Fg bp.A)],g,qk d4 e1⟩
  rename_i l;have ak:=C.B;have G:=C.C;simp only[Ac,Aa]at ak G;have bv:=((D.new _).put D.B _).trans C;have an:=G σ'.B L;rw[Ak]at an;have o6:l.C (f.B+2)=[Y q.h.p,X1 T q.h.ts,s,sl I (Z v) g]:=by rw[G _ L,Aj L,Ah L,t]
  have o4:l.C (f.B+1)=[Y 0,H,H,H]:=by rw[G _ L,Aj L,Ah L,U]
  have br:J f l I (Z v):=J.keep (J.put (J.new hO _) _ _) C;have be:=(m.keep (((W.refl _).new _).put (AU _) _)).keep C;clear ay U t m bg G D hO C
  repeat' first|refine Z1 ?_|refine Z8 λyb ya=>?_|refine Z4 ?_;clear ya yb|refine Z2 ?_ ?_<;>intro h ae<;>try exact Xp|refine Z6 ?_;intro u bx ao am af aa ah ab|(refine Z5 ?_;first|(refine Xi (bf _) ?_;rintro _ _ ⟨rfl,R⟩;(have c6:=R.B;have aw:=R.C;have cr:=bv.trans R;have e7:=aw σ'.B L;rw[an]at e7;have e8:=aw (f.B+2) L;rw[o6]at e8;have e9:=aw (f.B+1) L;rw[o4]at e9;have dv:=J.keep br R;have cm:=be.keep R))|(refine Xi (ct _ cr) ?_;rintro _ _ ⟨rfl,bi⟩;(have c5:=bi.B;have bw:=bi.C;have dz:=cr.trans bi)))|refine Z3 ?_|exact Zt|apply ya.o;clear ya yb
  ·have a0:V (r Oa e z/\r O9 (v++[a]) (g++[Y a.p,X1 K a.ts])/\FP neg q (k+1) e (v++[a])):=⟨A.o.1,r.append A.o.2.1 (r.single ⟨K,rfl⟩),A.o.2.2.keepN B.o.1 nu⟩;have dn:PS (f.B+3) bx s (Z e) z:=by
    have:=cm;unfold PS at this⊢;rw[af,aa];exact this
   refine⟨u,s,e,v++[a],z,g++[Y a.p,X1 K a.ts],?_⟩
   ((repeat' refine Zi ?_ ?_)<;>first|exact Xq|exact (am.put L _)|exact (dn.put L _)|exact (nn (J.put ao _ _))|exact a0|exact Xs)
  ·have bz:Jz a.ts:=nu
   exact⟨_,rfl,⟨_,.inl ⟨rfl,rfl,rfl,λau c1=>c1.2 a B.o.2.1 ((B.o.2.2.2.2 _).2 (by rw[Rf bz];simpa using h))⟩⟩,dz.put L _⟩
  have bz:Jz a.ts:=nu
  have a0:V (r Oa e z/\r O9 v g/\FP neg q (k+1) e v):=⟨A.o.1,A.o.2.1,A.o.2.2.drop B.o.1 (λau hn=>by
   have:=(B.o.2.2.2.2 _).1 hn;rw[Rf bz]at this
   simp[this]at h)⟩
  exact⟨I,s,e,v,z,g,qs (cm.keep bi) (J.keep dv bi) a0⟩
 obtain rfl:k=Z q.B:=L;let⟨S,dq⟩:=A.o.2.2.fin hA;have HU:V (∀a∈v,a∈q.B/\Jz a.ts=false):=λa ha=>⟨by have:=A.o.2.2.nsub.subset ha;rwa[AS]at this,A.o.2.2.uns a ha⟩;refine oK (lo:=f.B+3) (p:=f.B+2) (j:=2) D L L L L m t rfl ?_;intro ad c2 b4 d7 dk ce;have eq:c2.C (f.B+2)=[Y q.h.p,X1 T q.h.ts,sl ad (Z e) z,sl I (Z v) g]:=dk;have eg:c2.C (f.B+1)=[Y 0,H,H,H]:=by rw[ce _ L L,U]
 have df:f.B+2<c2.B:=L;have bh:=λf=>yV ⟨q.h,e,v⟩ [Y q.h.p,X1 T q.h.ts,sl ad (Z e) z,sl I (Z v) g] ⟨T,ad,I,z,g,rfl,A.o.1,A.o.2.1⟩ S.ok S.n f;clear m U t D A hO de hk ce dk az P a8;have a8:=b4.B;refine mt bh ?_;rintro yb ya _ _ ⟨⟨_,n,qp,rfl,⟨cl,ad,co,dl,dj,rfl,b3,dy⟩,n1,n2,n3,n4⟩,C⟩;have N3:V (n=pH qp (Cs (atomsQ qp))):=n3;clear n3;have ak:=C.B;have G:=C.C;have bu:=b4.trans C;refine X ?_;rename_i y;have o1:y.C (f.B+1)=[Y 0,H,H,H]:=by rw[G _ L,eg]
 have b7:WP n:=n2.wp S.w;have bo:Qt n:=n2.ok S.ok;have cf:QN n:=n2.n S.n;have bb:n.B=v:=n2.atoms.2.2;have cb:GP neg q n:=dq.trans (n2.red S.w);have a9:pA n:=XW n2 S.wf;have bc:NM n:=by
  let⟨g1,g2⟩:=(lJ (Cs (atomsQ qp)) qp).2 (by rw[<-N3.o];exact n4);rw[N3.o,g1];exact ft g2
 have b5:V (WP n/\Qt n/\QN n/\n.B=v/\GP neg q n/\pA n/\NM n):=⟨b7,bo,cf,bb,cb,a9,bc⟩;clear b7 cf bb cb a9 bc n1 n2 N3 n4 G C bh;have eb:=bo.pl;have c8:=bo.pt;clear bo;have da:=r.length Ex b3
 refine wn [4,6,72,73] 74 (Z n.A) (λaj ap l=>W f l/\f.B+2<l.B/\l.C (f.B+1)=[Y 0,H,H,H]/\l.C (f.B+2)=[Y n.h.p,X1 cl n.h.ts,sl ad (Z n.A) dl,sl co (Z n.B) dj]/\V (∀p∈n.A.take aj,p.A≠[])) ⟨bu.put L _,by simp only[Ac];omega,by rw[Aj L,o1],by rw[Ak],by simp[V]⟩ ?_
 clear h4 h6 cw cv o1 bu ak b4;rintro aj ap l _ _ _ ⟨D,az,U,t,hJ⟩;have a8:=D.B;by_cases P:aj<Z n.A
 ·obtain⟨w,j⟩:=gq P;obtain⟨id,bk,bl,hd⟩:=F0 b3 j;have N:=(AY j);have c7:=c8 _ N;by_cases he:w.A=[]
  ·have b8:Z w.A=0:=by rw[he];rfl
   have HF:V (∀au,¬Mq neg q au):=λau c1=>by
    have h1:=(b5.o.2.2.2.2.1.to au c1).1 w N;rw[he]at h1;cases h1
   have hb:((Z w.A:Int)==0):=by rw[b8];rfl
   clear j b8 he hJ;refine X ?_;exact⟨_,rfl,⟨_,.inl ⟨rfl,rfl,rfl,HF.o⟩⟩,((D.new _).put D.B _).put L _⟩
  have hb:((Z w.A:Int)==0)=false:=by
   have:Z w.A≠0:=λh=>he (GG h);simp;exact he
  have HJ:V (∀p∈n.A.take (aj+1),p.A≠[]):=by
   rw[V,AT,j,BN];intro p F;obtain h|h:=AW.1 F
   ·exact hJ.o p h
   simp at h;subst h;exact he
  clear j he hJ;refine X ?_;skip;exact m9 HJ
 obtain rfl:aj=Z n.A:=L;rw[AS]at hJ;let⟨a1,a2,a3,a4,a5,a6,a7⟩:=b5.o;have dp:=λf=>sD n _ ⟨cl,ad,co,dl,dj,rfl,b3,dy⟩ a2 f;have cy:V (NE n):=hJ.o;clear a1 a2 a3 a4 a5 a6 a7 hJ;refine mt dp ?_;rintro yb ya _ _ ⟨⟨_,q2,rfl,⟨e3,e5,e4,eh,e6,rfl,du,dx⟩,c9,c4⟩,C⟩;have ak:=C.B;have G:=C.C;have bu:=D.trans C;refine X ?_;let⟨a1,a2,a3,a4,a5,a6,a7⟩:=b5.o;let⟨t1,t2,t3⟩:=c4.red (neg:=neg) a1 cy.o a7;obtain⟨-,u2,u3⟩:=c4.ok a2;exact⟨_,rfl,⟨_,.inr ⟨q2,rfl,⟨e3,e5,e4,eh,e6,rfl,du,dx⟩,⟨c9,λp F=>a3 p (u3 p F),λp F=>a1 p (u3 p F),t3 a6⟩,λp F=>cy.o p (u3 p F),a5.trans t1,λa ha=>HU.o a (by rw[<-a4,<-u2];exact ha)⟩⟩,bu.put L _⟩
def Nf (v n p):Z (Iv v n p).a.ts=Z p.a.ts/\Z (Iv v n p).A<=Z p.A/\∀t∈(Iv v n p).A,t∈p.A:=by rw[Iv];split;exact⟨by simp[Bt],IS _ _,λt a=>(BP.1 a).1⟩;grind
def GE {v n p w}:Bm (Iv v n p).a.ts w↔Bm p.a.ts w/\w≠v:=by rw[Iv];by_cases h:Bm p.a.ts v=true;rw[if_pos h];exact CP (a:=p.a);grind
def Vg {q v n w}(h:FA (Dl v n q) w):FA q w/\w≠v:=by let⟨a,c,d⟩:=h;rw[atomsQ,Dl]at c;simp only[BD,AW,AN]at c;obtain rfl|⟨g,⟨p,e,rfl⟩,rfl⟩|⟨b,f,rfl⟩:=c;have:=CP.1 d;exact⟨⟨q.h,by simp[atomsQ],this.1⟩,this.2⟩;have:=GE.1 d;exact⟨⟨p.a,Lv e,this.1⟩,this.2⟩;have:=CP.1 d;exact⟨⟨b,by grind[atomsQ],this.1⟩,this.2⟩
def lQ {q v n}(h:Tz q):Tz (Dl v n q):=by
 have i:∀p∈(Dl v n q).A,∃b∈q.A,Iv v n b=p:=λp d=>AN.1 d;have k:∀a∈(Dl v n q).B,∃e∈q.B,Gg v n e=a:=λa f=>AN.1 f;refine⟨⟨by simp[Dl,Gg,Bt];exact h.ok.hd,by simp[Dl];exact h.ok.pl,by simp[Dl];exact h.ok.nl,λp d=>?_,λp d=>?_,λp d=>?_,?_⟩,λp d t j=>?_,gj h.w,λw g=>?_⟩;obtain⟨b,c,rfl⟩:=i p d;exact (Nf v n b).1▸h.ok.pa b c;obtain⟨b,c,rfl⟩:=i p d;exact BI (Nf v n b).2.1 (h.ok.pt b c);obtain⟨b,c,rfl⟩:=i p d;exact λt j=>h.ok.p3 b c t ((Nf v n b).2.2 t j);intro a f;obtain⟨e,c,rfl⟩:=k a f;simp[Gg,Bt];exact h.ok.na e c;obtain⟨b,c,rfl⟩:=i p d;exact (Nf v n b).1▸h.n b c t ((Nf v n b).2.2 t j);have l:(Bm q.h.ts w\/∃a∈q.B,Bm a.ts w)/\w≠v:=by
  obtain g|⟨a,f,g⟩:=g;have:=CP.1 g;exact⟨.inl this.1,this.2⟩;obtain⟨e,c,rfl⟩:=k a f;have:=CP.1 g;exact⟨.inr ⟨e,c,this.1⟩,this.2⟩
 let⟨p,d,m⟩:=h.wf w l.1;exact⟨Iv v n p,AN.2 ⟨p,d,rfl⟩,GE.2 ⟨m,l.2⟩⟩
def Na {q d}(h:Tz q)(i:Z d.h.ts<=3)(c:d.A.Sublist q.A)(e:d.B.Sublist q.B)(g:pA d):Tz d:=
 ⟨⟨i,BI c.length_le h.ok.pl,BI e.length_le h.ok.nl,λp b=>h.ok.pa p (c.subset b),λp b=>h.ok.pt p (c.subset b),λp b=>h.ok.p3 p (c.subset b),λa f=>h.ok.na a (e.subset f)⟩,
  λp b=>h.n p (c.subset b),λp b=>h.w p (c.subset b),g⟩
def Yt {q}(d:pA q){v}(h:FA q v):∃p∈q.A,Bm p.a.ts v:=by let⟨a,b,c⟩:=h;rw[atomsQ]at b;simp only[BD,AW,AN]at b;obtain rfl|⟨p,e,rfl⟩|b:=b;exact d v (.inl c);exact⟨p,e,c⟩;exact d v (.inr ⟨a,b,c⟩)
def iX {q rs}(c:pA q)(k:F1 (atomsQ q) rs rs)(j:∀v,Bm q.h.ts v->v∈rs):pA (Bc q rs):=λv f=>by
 have e:v∈rs/\∃p∈q.A,Bm p.a.ts v:=by
  obtain h|⟨a,l,h⟩:=f;exact⟨j v h,c v (.inl h)⟩;let⟨b,g⟩:=BP.1 l;exact⟨k a (by grind[atomsQ]) g v (AO.1 h),c v (.inr ⟨a,b,h⟩)⟩
 let⟨b,p,i,d⟩:=e;exact⟨p,BP.2 ⟨i,CU.2 ⟨v,b,d⟩⟩,d⟩
def XX {q rs}(f:pA q)(i:F1 (atomsQ q) rs rs):pA (Ip q rs):=λv g=>by
 rcases g with h|⟨a,ha,h⟩;simp[Ip,Bm]at h;obtain⟨j,b⟩:=BP.1 ha;obtain⟨p,c,d⟩:=f v (.inr ⟨a,j,h⟩);refine⟨p,BP.2 ⟨c,?_⟩,d⟩;cases e:J0 rs p.a
 ·rfl
 have:=i p.a (Lv c) e v (AO.1 d);have:J0 rs a=true:=CU.2 ⟨v,this,h⟩;grind
def BO.sub {neg M q c}(h:BO neg M q)(g:∀a∈c.B,∃b∈q.B,a.p=b.p):BO neg M c:=λa d=>by let⟨b,f,e⟩:=g a d;exact e▸h b f
def BO.put {neg M q}(h:BO neg M q)(v n):BO neg M (Dl v n q):=h.sub λa c=>by obtain⟨b,d,rfl⟩:=AN.1 c;exact⟨b,d,rfl⟩
def BO.near {neg M q}(h:BO neg M q)(rs):BO neg M (Bc q rs):=h.sub λa b=>⟨a,(BP.1 b).1,rfl⟩
def BO.far {neg M q}(h:BO neg M q)(rs):BO neg M (Ip q rs):=h.sub λa b=>⟨a,(BP.1 b).1,rfl⟩
def VE {a:Dx}(h:Jz a.ts=false):∃v,Bm a.ts v:=by
 unfold Jz at h;rw[IQ]at h;obtain⟨⟨b,w⟩,d,c⟩:=h;cases b
 ·simp at c
 exact⟨w,AO.2 d⟩
def Vk (neg:Int->Ck->Prop)(f i:Nat)(M:MM)(d b:Int)(j:List Int):Prop:=∀(q:AZ) (c:oh),EQ q c->Tz q->BO neg M q->QV q->q.h.ts=[]->(∀v,FA q v->v∈j)->∀a,BL a f i M d b->ni 187 [ptr f 0,ag c] a λk e=>(∃b,k=my b/\(b=true↔∃g,Mq neg q g))/\W a e
def Y6 (neg a u M d b F)(hH:Vk neg a u M d b F)(q c v)(P:EQ q c)(k:Tz q)(a5:BO neg M q)(hV:QV q)(T:q.h.ts=[])(a0:∀w,FA q w->w≠v->w∈F)(f)(hM:BL f a u M d b):ni 223 [ptr a 0,ag c,Y v] f λl σ'=>(∃b,l=my b/\(b=true↔∃n∈Mo q v,∃ν,Mq neg (Dl v n q) ν))/\W f σ':=by
 have Q:=λf=>L4 q c v P k.ok k.n f;have ba:=Vv k.n v;have K:=λn f=>Y0 q c v n P k.ok f;have HM:V (BL f a u M d b):=hM;clear hM;have a7:∀(n:Int) (z:oh),EQ (Dl v n q) z->∀e,W f e->ni 187 [ptr a 0,ag z] e λl σ'=>(∃b,l=my b/\(b↔∃ν,Mq neg (Dl v n q) ν))/\W e σ':=λn z i e ay=>
  hH _ z i (lQ k) (a5.put v n) (λak ha w m=>by
   obtain⟨⟨b,hb,a3⟩,-⟩:=Vg (q:=q) (v:=v) (n:=n) (w:=w) ⟨ak,ha,AO.2 m⟩;exact hV b hb w (AO.1 a3)) (by simp[Dl,Gg,Bt,T]) (λw m=>by
   let⟨p,i⟩:=Vg m
   exact a0 w p i) e (HM.o.keep ay)
 clear T;obtain⟨R,ip,a1,pc,U,rfl,-,-⟩:=P;generalize Mo q v=g at*
 have bc:=B9 g;refine wl func223 ?_;refine mt Q ?_;rintro yb ya _ _ ⟨⟨ao,rfl⟩,y⟩;have I:=y.B;have E:=y.C;have o:=((W.refl f).new _).trans y;simp only[Aa]at I E;refine X ?_;rename_i e;have G:e.C f.B=[Y q.h.p,X1 R q.h.ts,sl ip (Z q.A) pc,sl a1 (Z q.B) U]:=by rw[E _ L,Ao]
 clear E y Q
 refine wn [0,2,4,12,13] 14 (Z g) (λj am σ'=>W f σ'/\f.B<σ'.B/\σ'.C f.B=[Y q.h.p,X1 R q.h.ts,sl ip (Z q.A) pc,sl a1 (Z q.B) U]/\V (∀n∈g.take j,¬ ∃ν,Mq neg (Dl v n q) ν)) ⟨o,L,G,by simp[V]⟩ ?_
 clear o G I;rintro j am σ' _ ⟨_,i,_,_,_⟩ _ ⟨D,bd,ob,A⟩;have a9:=D.B;by_cases ah:j<Z g;obtain⟨n,t⟩:=gq ah;obtain⟨l,hd⟩:=D2 t;have C:=(AY t);have S:V (n∈g/\g[j]?=some n):=⟨C,t⟩;clear t C;have K:=K n
 (repeat (refine m0 ?_;intro yb ya;(first|(refine Xi (K _) ?_;rintro _ _ ⟨⟨_,rfl,ab,aa,ac,ad,af,rfl,a4,a6⟩,s⟩;(have ax:=s.B;have aw:=s.C;have o:=D.trans s;have a8:=a7 n _ ⟨ab,aa,ac,ad,af,rfl,a4,a6⟩))|(refine Xi (a8 _ ((o.new _).put L _)) ?_;rintro _ _ ⟨⟨bb,rfl,N⟩,B⟩;(have aj:=B.B;have ai:=B.C;have be:=((o.new _).put L _).trans B;have av:V _:=N;clear N;simp only[Ac,Aa]at aj ai)))));refine m6 ?_ ?_<;>intro h ae
 exact⟨_,rfl,⟨true,rfl,λ_=>⟨n,S.o.1,av.o.1 nu⟩,λ_=>rfl⟩⟩;have HN:V (∀n∈g.take (j+1),¬ ∃ν,Mq neg (Dl v n q) ν):=by
  rw[V,AT,S.o.2,BN];intro an hu;obtain x|x:=AW.1 hu;exact A.o an x;simp at x;subst x;intro a2;have:=av.o.2 a2;rw[this]at h;cases h
 skip;exact m9 HN;obtain rfl:j=Z g:=L;rw[AS]at A;refine X ?_
 exact⟨_,rfl,⟨false,rfl,(λh=>by cases h),λ⟨n,p,i⟩=>absurd i (A.o n p)⟩⟩
def Rx {q rs v}(h:FA (Bc q rs) v):FA q v:=by let⟨a,b,c⟩:=h;refine⟨a,?_,c⟩;rw[atomsQ,Bc]at b;rw[atomsQ];grind
def vN {q rs v}(h:FA (Ip q rs) v):FA q v/\v∉rs:=by
 let⟨a,d,e⟩:=h;rw[atomsQ,Ip]at d;simp only[BD,AW,AN]at d
 have c:∀b:Dx,b∈atomsQ q->(!J0 rs b)->Bm b.ts v->FA q v/\v∉rs:=λb i g f=>⟨⟨b,i,f⟩,λj=>by grind[J0]⟩
 obtain rfl|⟨p,k,rfl⟩|h:=d;simp[Bm]at e;exact c p.a (Lv (BP.1 k).1) (BP.1 k).2 e;exact c a (by grind[atomsQ]) (BP.1 h).2 e
def Uh (neg n s M d q c)(IH:∀V':List Int,Z V'<Z c->Vk neg n s M d q V'):Vk neg n s M d q c:=by
 intro a1 bt hc hA bn hV hh b2 x hM;have bi:=λg hk=>eR neg a1 bt n s M d q hc hA bn g (BL.keep hM (show W x g from hk));have HM:V (BL x n s M d q):=hM;clear hM;obtain⟨ih,ip,cl,pc,nc,rfl,-,-⟩:=hc;have HH:V (a1.h.ts=[]):=hh;clear hh;refine wl func187 ?_
 repeat' first|refine Z1 ?_|refine Z8 λyb ya=>?_|refine Z4 ?_;clear ya yb|refine Z2 ?_ ?_<;>intro h ae<;>try exact Xp|(refine Z5 ?_;refine Xi (bi _ ((W.refl _).new _)) ?_;rintro _ _ ⟨⟨c',(⟨rfl,cn,cp,a8⟩|⟨f,rfl,⟨ao,am,bb,af,ak,rfl,bm,bo⟩,t,a5,o,ai⟩)⟩,F⟩)|refine Z3 ?_|exact Zt|apply ya.o;clear ya yb
 ·rename_i g;have ab:=F.B;have o0:=F.C x.B AM;rw[Ao]at o0;simp only[Aa]at ab;have P:=(((W.refl x).new _).trans F);have ci:V (∀j,¬Mq neg a1 j):=a8;clear a8
  refine X ?_;exact⟨_,rfl,⟨false,rfl,(λh=>by cases h),λ⟨j,m⟩=>absurd m (ci.o j)⟩,P.put L _⟩
 have ab:=F.B;have av:=F.C;simp only[Aa]at ab av;have cc:=((W.refl x).new _).trans F;have ba:f.h.ts=[]:=by rw[o.hd];exact HH.o
 have aj:BO neg M f:=bn.sub λa k=>⟨a,(ai a k).1,rfl⟩;have S:QV f:=λa k v u=>hV a (o.at_ a k) v u;have ac:∀v,FA f v->v∈c:=λv u=>b2 v (u.sub o.at_);have bv:=λx=>gX f _ ⟨ao,am,bb,af,ak,rfl,bm,bo⟩ t.ok t.n S x;have bw:V _:=ba;clear ba
 repeat' first|refine Z1 ?_|refine Z8 λyb ya=>?_|refine Z4 ?_;clear ya yb|refine Z2 ?_ ?_<;>intro h ae<;>try exact Xp|refine Z5 ?_;refine Xi (bv _) ?_;rintro _ _ ⟨⟨b,rfl,hb⟩,P⟩;(have HB:V _:=hb;clear hb;have ay:=P.B;have au:=P.C;have bq:=(cc.put L _).trans P)|refine Z3 ?_|exact Zt|apply ya.o;clear ya yb
 ·have bc:b= -1:=nn h
  have a9:∀v∈Cs (atomsQ f),Dq f v=false:=by
   obtain⟨-,D⟩|⟨z,-⟩:=HB.o
   ·exact D
   let⟨a,k,u⟩:=(Dn _ _).1 z;have:=S a k b u;omega
  have b3:∀v,Dt (f.A.map (·.a)) v<=1:=λv=>by
   have cm:Dt (f.A.map (·.a)) v<=Dt (atomsQ f) v:=by
    unfold atomsQ;rw[H2,Fp];omega
   by_cases G:v∈Cs (atomsQ f)
   ·have:=a9 v G;unfold Dq at this;rw[decide_eq_false_iff_not]at this;omega
   have:Dt (atomsQ f) v=0:=by
    obtain h0|h0:=Nat.eq_zero_or_pos (Dt (atomsQ f) v)
    ·exact h0
    let⟨a,k,b6⟩:=MK.1 h0;exact absurd ((Dn _ _).2 ⟨a,k,AO.1 b6⟩) G
   omega
  let⟨j,m⟩:=mZ (l:=f.A) (λp y=>⟨a5 p y,(t.w p y).2⟩) b3
  have hS:Mq neg f j:=⟨m,λa k=>by
   exfalso;let⟨v,u⟩:=VE (ai a k).2;let⟨p,y,I⟩:=t.wf v (.inr ⟨a,k,u⟩);have z:0<Dt (f.A.map (·.a)) v:=N4 (AN.2 ⟨p,y,rfl⟩) I;have D:=N4 k u;have h3:Dt (atomsQ f) v=Dt (f.A.map (·.a)) v+Dt f.B v+if Bm f.h.ts v=true then 1 else 0:=by
    unfold atomsQ;rw[H2,Fp]
   have G:v∈Cs (atomsQ f):=(Dn _ _).2 ⟨p.a,Lv y,AO.1 I⟩;have:=a9 v G;unfold Dq at this;rw[decide_eq_false_iff_not]at this
   omega⟩
  obtain⟨A,aa,-⟩:=o.back j hS
  exact⟨_,rfl,⟨true,rfl,λ_=>⟨A,aa⟩,λ_=>rfl⟩⟩
 have bc:b≠ -1:=nn h;have b4:b∈Cs (atomsQ f):=by
  obtain⟨z,-⟩|⟨z,-⟩:=HB.o
  ·exact absurd z bc
  exact z
 have bd:FA f b:=by
  let⟨a,k,u⟩:=(Dn _ _).1 b4;exact⟨a,k,AO.2 u⟩
 have a3:=ac b bd;have bf:Z (c.erase b)<Z c:=by
  rw[length_erase_of_mem a3];have:=length_pos_of_mem a3;omega
 have C:=IH (c.erase b) bf;have bh:=λ(id:Nat) x=>Uf f _ [b] id ⟨ao,am,bb,af,ak,rfl,bm,bo⟩ t.ok nk x;simp only[X2,BQ,CQ,As,CC,IK,DY]at bh;have cj:V (∀(i:List Int) (N:oh),F1 (atomsQ f) i i->EQ (Bc f i) N->∀g,W x g->ni 223 [ptr n 0,ag N,Y b] g λa2 E=>(∃Q,a2=my Q/\(Q↔∃bj∈Mo (Bc f i) b,∃j,Mq neg (Dl b bj (Bc f i)) j))/\W g E):=λi N a7 ch g a0=>
  Y6 neg n s M d q (c.erase b) C (Bc f i) N b ch (Na t t.ok.hd LD LD (iX t.wf a7 (λv u=>by rw[bw.o]at u;simp[Bm]at u))) (aj.near i)
   (λa k w B=>by
    let⟨a',a4,az⟩:=Rx (rs:=i) ⟨a,k,AO.2 B⟩
    exact S a' a4 w (AO.1 az)) bw.o (λw B b1=>(mem_erase_of_ne b1).2 (ac w (Rx B))) g (HM.o.keep a0)
 have ck:V (∀(i:List Int) (T:oh),b∈i->F1 (atomsQ f) i i->EQ (Ip f i) T->∀g,W x g->ni 187 [ptr n 0,ag T] g λa2 E=>(∃Q,a2=my Q/\(Q↔∃j,Mq neg (Ip f i) j))/\W g E):=λi T R a7 cg g a0=>
  C (Ip f i) T cg (Na t (by simp[Ip]) LD LD (XX t.wf a7)) (aj.far i)
   (λa k w B=>by
    obtain⟨⟨a',a4,az⟩,-⟩:=vN (rs:=i) ⟨a,k,AO.2 B⟩;exact S a' a4 w (AO.1 az)) rfl (λw B=>by
    let⟨z,D⟩:=vN B
    exact (mem_erase_of_ne (λe=>D (by rw[e];exact R))).2 (ac w z)) g (HM.o.keep a0)
 clear C IH bi bv a3 bf;have o3:=au x.B (by simp only[Ac];omega);rw[Ak]at o3;simp only[Ac]at ay
 repeat' first|refine Z1 ?_|refine Z8 λyb ya=>?_|refine Z4 ?_;clear ya yb|refine Z2 ?_ ?_<;>intro h ae<;>try exact Xp|(refine Z5 ?_;first|(refine Xi (bh _ _) ?_;rintro _ _ ⟨⟨_,_,i,rfl,⟨bx,c4,c2,c8,c6,rfl,b9,cb⟩,⟨c1,c5,c3,c9,c7,rfl,b8,ca⟩,hG,U⟩,bu⟩;(have R:b∈i:=(by obtain⟨ad,e,-,-⟩:=hG;rw[e];simp);have ce:=cj.o i _ U ⟨bx,c4,c2,c8,c6,rfl,b9,cb⟩;have cf:=ck.o i _ R U ⟨c1,c5,c3,c9,c7,rfl,b8,ca⟩;have HC:V _:=U;clear U hG;have ax:=bu.B;simp only[Az]at ax;have bp:=(bq.lay 1).trans bu))|(refine Xi (ce _ ((((bp.new _).new _).put L _).put L _)) ?_;rintro _ _ ⟨⟨b5,rfl,ah⟩,a6⟩;(have b0:V _:=ah;clear ah;have aw:=a6.B;have ap:=a6.C;simp only[Ac,Aa]at aw ap;have br:=((((bp.new _).new _).put L _).put L _).trans a6))|(refine Xi (cf _ br) ?_;rintro _ _ ⟨⟨b7,rfl,be⟩,cd⟩;(have bz:V _:=be;clear be;have cq:=br.trans cd)))|refine Z3 ?_|exact Zt|apply ya.o;clear ya yb
 ·refine⟨_,rfl,false,rfl,(λh=>by cases h),λ⟨j,m⟩=>?_⟩;have z:=o.to j m;have D:=lD (rs:=i) z;have K:WP (Bc f i):=λp y=>t.w p (BP.1 y).1;let⟨p,y,I⟩:=Yt t.wf bd;have h3:=tN (v:=b) K D ⟨p,BP.2 ⟨y,CU.2 ⟨b,R,I⟩⟩,I⟩
  have h4:Mq neg (Dl b (j b) (Bc f i)) j:=(U7 K).2 (by
   have:Pd j b (j b)=j:=by
    funext w;unfold Pd;split
    ·rename_i e;rw[e]
    rfl
   rw[this];exact D)
  have:=b0.o.2 ⟨j b,h3,j,h4⟩;rw[this]at h;cases h
 refine⟨_,rfl,b7,rfl,λh7=>?_,λ⟨j,m⟩=>bz.o.2 ⟨j,uV (o.to j m)⟩⟩;obtain⟨bj,-,co,bk⟩:=b0.o.1 h;let⟨cr,bl⟩:=bz.o.1 h7;have K:WP (Bc f i):=λp y=>t.w p (BP.1 y).1;obtain⟨A,aa,-⟩:=o.back _ (dG HC.o ((U7 K).1 bk) bl);exact⟨A,aa⟩
def Ui (neg g i M d b):∀(k:Nat) (f:List Int),Z f<=k->Vk neg g i M d b f:=by
 intro k;induction k with
 |zero=>exact λf c=>Uh neg g i M d b f (λa h=>L)
 |succ k e=>exact λf c=>Uh neg g i M d b f (λa h=>e a L)
end Go.Proofs.YtmoeoppbmhfbpabGreatDoorJ
