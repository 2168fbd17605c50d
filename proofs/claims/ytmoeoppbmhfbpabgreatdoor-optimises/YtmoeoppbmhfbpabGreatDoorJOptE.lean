import Derived.Test.YtmoeoppbmhfbpabGreatDoorJDocJ
import Derived.Test.YtmoeoppbmhfbpabGreatDoorJFacts
import Derived.Test.YtmoeoppbmhfbpabGreatDoorJEngV
import Derived.Test.YtmoeoppbmhfbpabGreatDoorJSpaB
import Derived.Test.YtmoeoppbmhfbpabGreatDoorJProgR
import Derived.Test.YtmoeoppbmhfbpabGreatDoorJAbsWp
set_option maxHeartbeats 64000000
set_option maxRecDepth 100000
set_option linter.all false
open List renaming length->Z
namespace Go.Proofs.YtmoeoppbmhfbpabGreatDoorJ
open Go.Abs
structure GL (N:ol)(l:n0):Prop where
 len:Z l<=16
 nm:Z N<=2000
 msr:∀x∈l,KL N x
 fits:∀x∈l,x.fits
 pos:∀x∈l,∀a∈Af x,0<Z a.A
 va:∀x∈l,∀a∈Af x,VA a
 ar:∀x∈l,∀a∈x.A,∀b∈x.A,a.B=b.B->Z a.A=Z b.A
def GL.bkm {N l cs}(h:GL N l)(a:EL (PI N) l cs):JM N l cs:=⟨a,by have:=h.len;omega,h.nm,h.msr,h.fits,h.pos,h.va⟩
def Cy {α:Type}{n}{o l:List α}{x}(h:x∈rpl n o l):x∈l\/x∈o:=by
 unfold rpl at h;obtain⟨p,b,a⟩:=EX.1 h;split at a;exact .inr a;simp at a;subst a;exact .inl (LB b)
def uX {α:Type}{n}{y:α}(l):Z (rpl n [y] l)=Z l:=by
 unfold rpl;rw[List.length_flatMap];have a:∀(l:List α) (k:Nat),((l.zipIdx k).map λp=>Z (if p.2=n then [y]else [p.1])).sum=Z l:=by
  intro l;induction l with
  |nil=>intro k;simp
  |cons x l b=>
   intro k;have:=b (k+1);simp only[List.zipIdx_cons,CC,List.sum_cons,BQ];rw[this];split<;>simp<;>omega
 exact a l 0
def Rh {α:Type}{n}(l:List α):Z (rpl n [] l)<=Z l:=by
 unfold rpl;rw[List.length_flatMap];have a:∀(l:List α) (k:Nat),((l.zipIdx k).map λp=>Z (if p.2=n then []else [p.1])).sum<=Z l:=by
  intro l;induction l with
  |nil=>intro k;simp
  |cons x l b=>
   intro k;have:=b (k+1);simp only[List.zipIdx_cons,CC,List.sum_cons,BQ];split<;>simp<;>omega
 exact a l 0
def Mr {x k}(c:x.o=false){a}(h:a∈Af (C8 x k)):a∈Af x:=by
 have b:a=x.h\/a∈x.A.eraseIdx k:=by simpa[Af,C8]using h
 rcases b with rfl|b;exact Ap (.inl ⟨c,rfl⟩);exact Ap (.inr (EE b))
def GL.wo {N l}(h:GL N l){i k x}(n:l[i]?=some x)(j:x.o=false):GL N (rpl i [C8 x k] l):=by
 have g:=AY n;have f:∀y∈rpl i [C8 x k] l,y∈l\/y=C8 x k:=λy c=>by
  rcases Cy c with h|h;exact .inl h;exact .inr (nn h)
 have m:=h.msr x g;refine⟨by rw[uX];exact h.len,h.nm,λy c=>?_,λy c=>?_,λy c=>?_,λy c=>?_,λy c=>?_⟩;rcases f y c with c|rfl;exact h.msr y c;exact⟨(λe=>by cases e),BI (JF _ _) m.A,m.mem,m.hpl,λa d=>m.at_ a (Mr j d)⟩;rcases f y c with c|rfl;exact h.fits y c;exact Ms (h.fits x g);rcases f y c with c|rfl;exact h.pos y c;exact λa d=>h.pos x g a (Mr j d);rcases f y c with c|rfl;exact h.va y c;exact λa d=>h.va x g a (Mr j d);rcases f y c with c|rfl;exact h.ar y c;exact λa d b o=>h.ar x g a (EE d) b (EE o)
def IX (N:ol)(x:AB)(k:Nat):Option Sw:=(C9 Mx (x.h.A.map Aq) (x.h.A.map Aq)).bind λa=>Mz N x k a
def fY {N l}(h:GL N l){x}(d:x∈l)(n:x.o=false)(c)(k:Nat)(j:PI N x c)(σ):ni 94 [ag c,ic k] σ λr σ'=>r=Q3 (IX N x k)/\AD σ σ':=by
 have m:=h.msr x d;have g:=m.at_ x.h (Ap (.inl ⟨n,rfl⟩));obtain⟨p,i,-⟩:=bF DJ x.h.A g.2.2;have:=lV N x c k p j (h.fits x d) i (λt e=>(g.2.2 t e).varOk) (λa f=>⟨(h.fits x d).2.2 a f,λt e=>((m.at_ a (Ap (.inr f))).2.2 t e).varOk,λb o=>h.ar x d a f b (EE o)⟩) σ;rw[IX,i];exact this
def pB (x:AV):Prop:=∃b e c a d f,x=ag [sl b e c,sl a d f]
def eC (N:ol)(l:n0)(i k:Nat):Bool:=match l[i]? with
 |some x=>(IX N x k).isSome&&C5 N l (rpl i [C8 x k] l)
 |none=>false
def xW (N:ol)(l:n0)(n:Nat):Prop:=∀i y,i<n->l[i]?=some y->∀k,k<Z y.A->eC N l i k=false
def NU (N:ol)(l:n0)(idn:Nat)(x:AV)(b:Bool):Prop:=
 (b=false/\xW N l (Z l))\/(b=true/\∃i k y,l[i]?=some y/\y.o=false/\k<Z y.A/\eC N l i k=true/\xW N l i/\(∀c,c<k->eC N l i c=false)/\∃id a,x=Cq N idn (rpl i [C8 y k] l) id a/\EL (PI N) (rpl i [C8 y k] l) a)
def Q0 (N l cs idn idi)(D:GL N l)(V:EL (PI N) l cs)(a):
  ni 125 [Cq N idn l idi cs] a λr σ'=>(∃x b,r=tp [x,my b]/\NU N l idn x b/\pB x)/\AD a σ':=by
 have cd:=EL.length Ew V;have bz:=D.len;have b8:=Di;have b7:=Rb;have b6:∀s,List.take 78 (D5 s)=D5 s:=λs=>FZ (by rw[Di];exact AU _);have ca:∀s Y,lsp (D5 s) 0 (D5 Y)=D5 Y:=λs Y=>I8 (by rw[Di,Di]);have cc:∀s,(D5 s).all flat=true:=λs=>by
  rw[CX];intro x hx;obtain⟨n,-,rfl⟩:=AN.1 hx;unfold lA;split
  ·rfl
  split<;>rfl
 refine Z9 53 [.cell 2 62,.tmp 3] Tryz.func125 ?_;refine mr ?_
 refine Ae (λm s σ'=>∃(i:Nat),m=Z l-i/\i<=Z l/\s 1=ptr a.B 0/\s 2=ptr (a.B+1) 0/\s 13=sl idi (Z l) cs/\s 14=ic (Z l)/\s 15=ic i/\AD a σ'/\a.B+1<σ'.B/\σ'.C a.B=[sl idn (Z N) (N.map str),sl idi (Z l) cs]/\σ'.C (a.B+1)=[nilS,nilS]/\AC (xW N l i)) (Z l)
  ⟨0,AA,AA,AG,AG,AG,AG,rfl,Xs,AM,by rw[Ah AM,Ao],by first|exact Ao|simp[Ao],λi y h=>AA⟩ ?_
 rintro m s σ' ⟨i,rfl,hi,h1,h2,bp,bo,bn,H,b9,R,W,G⟩;have b5:=H.B;by_cases bi:i<Z l
 ·have T:=AK bi;have Q:=AR bi;have bm:=D.fits l[i] Q;have bh:=D.msr l[i] Q;obtain⟨a6,p,g,b,r,U,hd⟩:=Ih V T;generalize l[i]=x at hd T a6 U Q bm bh;have b3:=bm.1;have ce:=EL.length Eh U;have C:AC (l[i]?=some x):=T;clear T
  refine mr ?_
  refine Ae (λm s f=>∃(k:Nat),m=Z x.A-k/\k<=Z x.A/\s 1=ptr a.B 0/\s 2=ptr (a.B+1) 0/\s 4=ic i/\s 5=ptr σ'.B 0/\s 13=sl idi (Z l) cs/\s 14=ic (Z l)/\s 15=ic i/\s 21=sl g (Z x.A) b/\s 22=ic (Z x.A)/\s 23=ic k/\AD a f/\σ'.B<f.B/\f.C a.B=[sl idn (Z N) (N.map str),sl idi (Z l) cs]/\f.C (a.B+1)=[nilS,nilS]/\f.C σ'.B=[my x.o,ic (N.idxOf x.h.B:Nat),sl p (Z x.h.A) (A0 x.h.A),sl g (Z x.A) b]/\AC (∀c,c<k->eC N l i c=false)) (Z x.A)
   ⟨0,AA,AA,AI,AI,AI,AI,AI,AI,AI,AG,AG,AG,Xs,BJ,by rw[Aj AA,Ah AA,R],by rw[Aj AA,Ah AA,W],by rw[Ak],λc h=>AA⟩ ?_
  clear h1 h2 bp bo bn H R W;rintro m s f ⟨k,rfl,hk,h1,h2,h4,h5,bp,bo,bn,ch,cg,cf,H,bw,R,W,bf,u⟩;have bq:=H.B;by_cases am:k<Z x.A
  ·have e:x.o=false:=by
    cases h:x.o with
    |false=>rfl
    |true=>rw[bh.o h]at am;cases am
   have q:=λa=>fY D Q e _ k (PI.of (ih:=p) (id:=g) a6 U) a;simp only[e]at q bf;have t:eC N l i k=((IX N x k).isSome&&C5 N l (rpl i [C8 x k] l)):=by unfold eC;rw[C.o]
   cases F:IX N x k with
   |none=>
    rw[F]at q t;simp only[Q3]at q;have HN:AC (∀c,c<k+1->eC N l i c=false):=λc a8=>by
     rcases FT c k with h|h
     ·exact u.o c h
     rw[show c=k by omega,t];rfl
    clear u t F;refine m0 ?_;intro yb ya;refine Xi (q _) ?_;rintro _ _ ⟨rfl,o⟩;(have ao:=o.B;have I:=o.C);refine mr ?_;rename_i d;have b4:AD a ((d.new (D5 Mx)).put d.B (D5 Mx)):=((H.trans o).new _).put AA _;have hz0:((d.new (D5 Mx)).put d.B (D5 Mx)).C a.B=[sl idn (Z N) (N.map str),sl idi (Z l) cs]:=by rw[Aj AA,Ah AA,I _ AA,R]
    have bu:((d.new (D5 Mx)).put d.B (D5 Mx)).C (a.B+1)=[nilS,nilS]:=by rw[Aj AA,Ah AA,I _ AA,W]
    have br:((d.new (D5 Mx)).put d.B (D5 Mx)).C σ'.B=[my x.o,ic (N.idxOf x.h.B:Nat),sl p (Z x.h.A) (A0 x.h.A),sl g (Z x.A) b]:=by rw[Aj AA,Ah AA,I _ AA,bf,e]
    refine⟨Z x.A-(k+1),AA,k+1,?_⟩
    ((repeat' refine Zi ?_ ?_)<;>first|exact Xq|exact HN|exact b4|exact hz0|exact bu|exact br|exact Xs)
   |some sw=>
    rw[F]at q t;simp only[Q3]at q;simp only[Option.isSome_some,FV]at t;have bb:=λa=>Pm N x _ k (PI.of (ih:=p) (id:=g) a6 U) b3 a;simp only[e]at bb;have be:=D.wo (k:=k) C.o e;have bc:=λco ido (b1:EL (PI N) [C8 x k] co) a=>Xx N l [C8 x k] cs co idn idi ido i V b1 AA nk a;have O:=λA X (a9:EL (PI N) (rpl i [C8 x k] l) A) a=>Ib N l (rpl i [C8 x k] l) cs A idn idi X (D.bkm V) (be.bkm a9).bj a;simp only[KZ]at bc;rw[<-t]at O;cases E:eC N l i k with
    |true=>
     rw[E]at O;have HC:AC (∀id A x',x'=Cq N idn (rpl i [C8 x k] l) id A->EL (PI N) (rpl i [C8 x k] l) A->NU N l idn x' true):=λid A x' bv a9=>.inr ⟨rfl,i,k,x,C.o,e,am,E,G.o,u.o,id,A,bv,a9⟩;clear u t F be E G C
     (repeat (refine m0 ?_;intro yb ya;(first|(refine Xi (q _) ?_;rintro _ _ ⟨rfl,o⟩;(have ao:=o.B;have I:=o.C))|(refine Xi (bb _) ?_;rintro _ _ ⟨c2,rfl,bd,M⟩;(have ak:=M.B;have ai:=M.C;(try simp only[Ac,Aa]at ak ai);obtain⟨a7,z,v,b2,ba,rfl⟩:=bd))|(refine Xi (bc _ _ (EL.single (PI.of (ih:=z) (id:=v) a7 ba)) _) ?_;rintro _ _ ⟨⟨B,c6,rfl,S⟩,L⟩;(have aj:=L.B;have ah:=L.C;(try simp only[Ac,Aa,Az]at aj ah)))|(refine Xi (O c6 B S _) ?_;rintro _ _ ⟨⟨x7,rfl,bg,⟨J,n71,c71,K,n72,c72,rfl⟩⟩,P⟩;(have a5:=P.B;have a4:=P.C)))));refine mr ?_
     exact⟨_,rfl,⟨_,true,rfl,HC.o _ _ _ (bg rfl) S,_,_,_,_,_,_,rfl⟩,Xs⟩
    |false=>
     rw[E]at O;have HN:AC (∀c,c<k+1->eC N l i c=false):=λc a8=>by
      rcases FT c k with h|h
      ·exact u.o c h
      rw[show c=k by omega,E]
     clear u t F be E
     (repeat (refine m0 ?_;intro yb ya;(first|(refine Xi (q _) ?_;rintro _ _ ⟨rfl,o⟩;(have ao:=o.B;have I:=o.C))|(refine Xi (bb _) ?_;rintro _ _ ⟨c2,rfl,bd,M⟩;(have ak:=M.B;have ai:=M.C;(try simp only[Ac,Aa]at ak ai);obtain⟨a7,z,v,b2,ba,rfl⟩:=bd))|(refine Xi (bc _ _ (EL.single (PI.of (ih:=z) (id:=v) a7 ba)) _) ?_;rintro _ _ ⟨⟨B,c6,rfl,S⟩,L⟩;(have aj:=L.B;have ah:=L.C;(try simp only[Ac,Aa,Az]at aj ah)))|(refine Xi (O c6 B S _) ?_;rintro _ _ ⟨⟨x7,rfl,bg,⟨J,n71,c71,K,n72,c72,rfl⟩⟩,P⟩;(have a5:=P.B;have a4:=P.C)))));refine mr ?_
     refine⟨Z x.A-(k+1),AA,k+1,?_⟩;exact m9 HN
  have cb:k=Z x.A:=AA;have HA:AC (xW N l (i+1)):=λj y hj hy c a8=>by
   rcases FT j i with h|h
   ·exact G.o j y h hy c a8
   have:j=i:=AA;subst this;rw[C.o]at hy;cases hy;exact u.o c AA
  clear u C G;refine mr ?_;refine⟨Z l-(i+1),AA,i+1,?_⟩;exact m9 HA
 have b0:i=Z l:=AA;subst b0;refine mr ?_;exact⟨_,rfl,⟨_,false,rfl,.inl ⟨rfl,G.o⟩,_,_,_,_,_,_,rfl⟩,Xs⟩
def Kr (N:ol)(U:Nat->Nat->Bool)(l:n0)(q:Nat):Bool:=l.any λx=>x.o&&(decide (N.idxOf x.h.B=q)||U (N.idxOf x.h.B) q)
def pP {N U}{l:n0}{i x}(h:l[i]?=some x)(q):Kr N U (l.take (i+1)) q=(Kr N U (l.take i) q||(x.o&&(decide (N.idxOf x.h.B=q)||U (N.idxOf x.h.B) q))):=by
 unfold Kr;rw[AT,h,BN,MH];simp
def Zf {n f g}(h:∀q,q<n->f q=g q):Iq n f=Iq n g:=by
 unfold Iq;exact CG λq a=>by rw[h q (nn a)]
def fW (N l cs idn idi)(F:Bk N l cs)(σ):ni 176 [Cq N idn l idi cs] σ λr σ'=>∃o M,r=fx o 0 (Z N)/\AD σ σ'/\σ.B<=o/\o<σ'.B/\Dw N l M/\σ'.C o=Iq (Z N) (Kr N (F9 (Z N) M (Z N)) l):=by
 have bg:=EL.length Ew F.el;have a9:=F.len;have hN:=F.nm;have bh:=fA (Z N);refine Z9 49 [.tmp 2] Tryz.func176 ?_;refine m0 ?_;intro yb ya;refine Xi (P6 N l cs idn idi F _) ?_;rintro _ _ ⟨E,B,D,rfl,H,bb,ap,Q,a0⟩;(rw[Aa]at bb;have af:=H.C;have am:=H.B;(try simp only[Aa,Ac,Az]at am af));refine mr ?_;rename_i a;have I:AC (Dw N l D):=a0;clear a0 af;have bd:=I5 B (Z N) (Z N);have bi:AD σ a:=((AD.refl σ).new _).trans H;clear H;generalize hU:F9 (Z N) D (Z N)=U at Q;have J:AC _:=hU;clear hU
 refine Ae (λm s σ'=>∃i:Nat,m=Z l-i/\i<=Z l/\s 3=sl E (Z N) (F3 B (Z N) (Z N))/\s 4=fx a.B 0 (Z N)/\s 16=sl idi (Z l) cs/\s 17=ic (Z l)/\s 18=ic i/\AD σ σ'/\a.B<σ'.B/\σ'.C a.B=Iq (Z N) (Kr N U (l.take i))/\AC (By B (Z N) U σ')) (Z l)
  ⟨0,AA,AA,AG,AG,AG,AG,rfl,Xs,AM,by rw[Ao];rfl,By.new Q ap _⟩ ?_
 clear Q;rintro m s σ' ⟨i,rfl,hi,W,h4,S,T,Y,z,C,e,u⟩;have aw:=z.B;by_cases a8:i<Z l
 ·have G:=AK a8;obtain⟨R,ih,id,b,r,hb,L⟩:=Ih F.el G;generalize l[i]=x at L G hb R;have t:=pP (N:=N) (U:=U) G;have O:=CS R;cases f:x.o with
  |false=>
   rw[f]at L t;have ai:σ'.C a.B=Iq (Z N) (Kr N U (l.take (i+1))):=by
    rw[e];exact Zf λq _=>by rw[t q];simp
   clear t G e f;generalize N.idxOf x.h.B=c at*
   refine mr ?_;refine⟨Z l-(i+1),AA,i+1,?_⟩
   ((repeat' refine Zi ?_ ?_)<;>first|exact Xq|exact (By.put (By.new u.o AA _) AA _)|exact (by rw[Aj AA,Ah AA,ai])|exact Xs)
  |true=>
   rw[f]at L t;clear G f;generalize N.idxOf x.h.B=c at*
   generalize Kr N U (l.take i)=y at e t;generalize ah:Kr N U (l.take (i+1))=w1 at t;have a6:AC _:=ah;have a7:AC (∀q,w1 q=(y q||(true&&(decide (c=q)||U c q)))):=t;clear t ah;have be:=I6 (B:=B) (n:=Z N) (k:=Z N) O;have V:=u.o _ O;have bc:=E0 (Z N) (U c);have an:=E0 (Z N) y;have ax:=Ze (n:=Z N) (i:=c) y true;refine mr ?_
   refine Ae (λm s d=>∃(p:Nat) (g:Nat->Bool),m=Z N-p/\p<=Z N/\s 3=sl E (Z N) (F3 B (Z N) (Z N))/\s 4=fx a.B 0 (Z N)/\s 16=sl idi (Z l) cs/\s 17=ic (Z l)/\s 18=ic i/\s 35=fx (B+c) 0 (Z N)/\s 36=ic (Z N)/\s 37=ic p/\AD σ d/\a.B<d.B/\d.C a.B=Iq (Z N) g/\AC (By B (Z N) U d)/\AC (∀q,g q=(y q||decide (c=q)||(decide (q<p)&&U c q)))) (Z N)
    ⟨0,λj=>if j=c then true else y j,AA,AA,AI,AI,AI,AI,AI,AG,AG,AG,Xs,BJ,by rw[Ak],By.put (By.put (By.new u.o AA _) AA _) AA _,λq=>by
     by_cases h:q=c
     ·simp[h]
     simp[h,Ne.symm h]⟩ ?_
   clear W h4 S T Y z C e u V ax an aw;rintro m s d ⟨p,g,rfl,hp,W,h4,S,T,Y,bo,bn,bm,z,C,e,u,v⟩;have aw:=z.B;by_cases au:p<Z N
   ·have V:=u.o _ O;have X:=Hh (U c) au;have bf:=E0 (Z N) g;cases A:U c p with
    |true=>
     rw[A]at X;have ax:=Ze (n:=Z N) (i:=p) g true;have K:AC (∀q,(if q=p then true else g q)=(y q||decide (c=q)||(decide (q<p+1)&&U c q))):=λq=>by
      by_cases h:q=p
      ·simp[h,A]
      rw[if_neg h,v.o q,show decide (q<p+1)=decide (q<p)from by rw[decide_eq_decide];omega]
     clear v A;refine mr ?_;refine⟨Z N-(p+1),AA,p+1,λq=>if q=p then true else g q,?_⟩
     ((repeat' refine Zi ?_ ?_)<;>first|exact Xq|exact K|exact (By.put u.o AA _)|exact (by rw[Ak])|exact Xs)
    |false=>
     rw[A]at X;have K:AC (∀q,g q=(y q||decide (c=q)||(decide (q<p+1)&&U c q))):=λq=>by
      by_cases h:q=p
      ·rw[v.o q];simp[h,A]
      rw[v.o q,show decide (q<p+1)=decide (q<p)from by rw[decide_eq_decide];omega]
     clear v A;refine mr ?_;refine⟨Z N-(p+1),AA,p+1,g,?_⟩;exact m9 K
   have P:p=Z N:=AA;have ai:d.C a.B=Iq (Z N) (Kr N U (l.take (i+1))):=by
    rw[e,a6.o];exact Zf λq hq=>by rw[a7.o q,v.o q,P];simp[hq,Bool.or_assoc]
   clear v e a7 a6;refine mr ?_;refine⟨Z l-(i+1),AA,i+1,?_⟩;exact m9 u
 have ba:i=Z l:=AA;subst ba;rw[AS]at e;refine mr ?_
 first|exact⟨_,rfl,_,D,rfl,z,AA,C,I.o,by rw[J.o];exact e⟩|exact⟨_,rfl,_,D,rfl,AA,C,I.o,by rw[J.o];exact e⟩|exact⟨_,rfl,_,D,AA,C,I.o,by rw[J.o];exact e⟩|(trace_state;exact⟨_,rfl,_,D,rfl,z,AA,C,I.o,by rw[J.o];exact e⟩)
def GL.sub {N l c}(h:GL N l)(b:∀x∈c,x∈l)(d:Z c<=16):GL N c:=
 ⟨d,h.nm,λx a=>h.msr x (b x a),λx a=>h.fits x (b x a),λx a=>h.pos x (b x a),λx a=>h.va x (b x a),λx a=>h.ar x (b x a)⟩
def Hq (N:ol)(U:Nat->Nat->Bool)(l:n0):n0:=l.filter λx=>Kr N U l (N.idxOf x.h.B)
def MQ (N:ol)(l:n0)(idn:Nat)(x:AV)(b:Bool):Prop:=∃M,Dw N l M/\
 ((Z (Hq N (F9 (Z N) M (Z N)) l)=Z l/\b=false)\/
  (Z (Hq N (F9 (Z N) M (Z N)) l)≠Z l/\b=C5 N l (Hq N (F9 (Z N) M (Z N)) l)/\(b=true->∃id a,x=Cq N idn (Hq N (F9 (Z N) M (Z N)) l) id a/\EL (PI N) (Hq N (F9 (Z N) M (Z N)) l) a)))
def yS {α:Type}{f}{l:List α}{i x}(h:l[i]?=some x):(l.take (i+1)).filter f=(l.take i).filter f++if f x=true then [x]else []:=by
 rw[AT,h,BN,IR];cases a:f x<;>simp[a]
def Mu (N l cs idn idi)(t:GL N l)(G:EL (PI N) l cs)(d):
  ni 124 [Cq N idn l idi cs] d λr σ'=>(∃x b,r=tp [x,my b]/\MQ N l idn x b/\pB x)/\AD d σ':=by
 have bq:=EL.length Ew G;have av:=t.len;have hN:=t.nm;have bn:Bk N l cs:=(t.bkm G).bk av;have X:=λd=>fW N l cs idn idi bn d;refine Z9 41 [.cell 2 62,.tmp 3] Tryz.func124 ?_;refine m0 ?_;intro yb ya;refine Xi (X _) ?_;rintro _ _ ⟨ow,B,rfl,F,ap,bg,a8,D⟩;(have ao:=F.B;have E:=F.C;(try simp only[Aa,Ac]at ao E ap));refine mr ?_;rename_i k;have j:k.C d.B=[sl idn (Z N) (N.map str),sl idi (Z l) cs]:=by rw[E _ AA,Ah AM,Ao]
 have e:k.C (d.B+1)=[nilS,nilS]:=by rw[E _ AA];first|exact Ao|simp[Ao]
 have W:AC (Dw N l B):=a8;generalize Q:F9 (Z N) B (Z N)=U at D;have HU:AC _:=Q;have Y:AD d k:=(((AD.refl d).new _).new _).trans F;clear a8 Q F E X;generalize ax:Kr N U l=w at D;have HW:AC _:=ax;clear ax
 refine Ae (λm s σ'=>∃(i id:Nat) (R:n0) (c:oh),m=Z l-i/\i<=Z l/\s 1=ptr d.B 0/\s 2=ptr (d.B+1) 0/\s 4=fx ow 0 (Z N)/\s 5=sl id (Z R) c/\s 12=sl idi (Z l) cs/\s 13=ic (Z l)/\s 14=ic i/\AD d σ'/\k.B<=σ'.B/\σ'.C ow=Iq (Z N) w/\σ'.C d.B=[sl idn (Z N) (N.map str),sl idi (Z l) cs]/\σ'.C (d.B+1)=[nilS,nilS]/\Own d σ' id (Z R)/\Z c=Z R*4/\Z R<=i/\AC (R=(l.take i).filter (λx=>w (N.idxOf x.h.B))/\EL (PI N) R c)) (Z l)
  ⟨0,1,[],[],AA,AA,AG,AG,AG,AG,AG,AG,rfl,Y,AA,D,j,e,Own.nil _ _,nk,nk,⟨nk,rfl⟩⟩ ?_
 clear Y D j e;rintro m s σ' ⟨i,id,R,c,rfl,hi,h1,h2,h4,h5,bz,bw,bv,I,bp,v,j,e,T,S,bu,g⟩;have bo:=I.B;have br:=E0 (Z N) w;by_cases bh:i<Z l
 ·have y:=AK bh;obtain⟨L,O,A,b,r,a0,hd⟩:=Ih G y;generalize l[i]=x at hd y L a0;have bf:=CS L;have q:=yS (f:=λx:AB=>w (N.idxOf x.h.B)) y;have V:=Hh w bf;cases o:w (N.idxOf x.h.B)with
  |true=>
   simp only[o,if_true]at q;rw[o]at V;have K:AC (R++[x]=(l.take (i+1)).filter (λx=>w (N.idxOf x.h.B))/\EL (PI N) (R++[x]) (c++[my x.o,ic (N.idxOf x.h.B:Nat),sl O (Z x.h.A) (A0 x.h.A),sl A (Z x.A) b])):=⟨by rw[q,<-g.o.1],EL.append g.o.2 (EL.single (PI.of L a0))⟩;clear q y g o;refine nh ?_;intro yb ya;refine Bo (by first|exact Mw) ((I.new _).put I.B _) (Own.put (Own.new T _) _ _) nr (by rfl) (S) (by rfl) (by rfl) nr AA AA ?_;intro u J aj am ac aa ad ab;simp only[Ac,Aa]at aa;have n:∀p,p<σ'.B->J.C p=σ'.C p:=λp hp=>by rw[ac,Aj AA,Ah AA]
   refine Z3 ?_;refine mr ?_;refine⟨Z l-(i+1),AA,i+1,u,R++[x],c++[my x.o,ic (N.idxOf x.h.B:Nat),sl O (Z x.h.A) (A0 x.h.A),sl A (Z x.A) b],?_⟩
   ((repeat' refine Zi ?_ ?_)<;>first|exact Xq|exact K|exact ((nn aj))|exact ((by simp[S];omega))|exact (by rw[n _ AA,v])|exact (by rw[n _ AA,j])|exact (by rw[n _ AA,e])|exact Xs)
  |false=>
   simp only[o,EI,if_false,EJ]at q;rw[o]at V;have K:AC (R=(l.take (i+1)).filter (λx=>w (N.idxOf x.h.B))/\EL (PI N) R c):=⟨by rw[q,<-g.o.1],g.o.2⟩;clear q y g o;refine mr ?_;refine⟨Z l-(i+1),AA,i+1,id,R,c,?_⟩
   ((repeat' refine Zi ?_ ?_)<;>first|exact Xq|exact K|exact (Own.put (Own.new T _) _ _)|exact (by rw[Aj AA,Ah AA,v])|exact (by rw[Aj AA,Ah AA,j])|exact (by rw[Aj AA,Ah AA,e])|exact Xs)
 have bm:i=Z l:=AA;subst bm;rw[AS]at g;have P:R=Hq N (F9 (Z N) B (Z N)) l:=by rw[g.o.1,Hq,HU.o,HW.o]
 have z:AC _:=P;have HE:AC (EL (PI N) R c):=g.o.2;have a9:GL N R:=t.sub (λx H=>(BP.1 (by rw[<-g.o.1];exact H)).1) AA;have M:=λd=>Ib N l R cs c idn idi id (t.bkm G) (a9.bkm HE.o).bj d;clear g P a9;by_cases a:Z R=Z l
 ·have bi:((Z R:Int)==(Z l:Int))=true:=by simp[a]
  have C:AC (∀x,MQ N l idn x false):=λx=>⟨B,W.o,.inl ⟨by rw[<-z.o];exact a,rfl⟩⟩;clear M a;refine mr ?_;exact⟨_,rfl,⟨_,false,rfl,C.o _,_,_,_,_,_,_,rfl⟩,Xs⟩
 have bi:((Z R:Int)==(Z l:Int))=false:=nn (by omega:¬(Z R:Int)=Z l);have C:AC (∀x,(C5 N l R=true->x=Cq N idn R id c)->MQ N l idn x (C5 N l R)):=λx H=>⟨B,W.o,.inr ⟨by rw[<-z.o];exact a,by rw[<-z.o],λhb=>⟨id,c,by rw[<-z.o];exact H hb,by rw[<-z.o];exact HE.o⟩⟩⟩;generalize C5 N l R=bb at M C;clear a;refine m0 ?_;intro yb ya;refine Xi (M _) ?_;rintro _ _ ⟨⟨x7,rfl,be,⟨id71,n71,c71,id72,n72,c72,rfl⟩⟩,a7⟩;(have bd:=a7.B;have bc:=a7.C);refine mr ?_;exact⟨_,rfl,⟨_,bb,rfl,C.o _ be,_,_,_,_,_,_,rfl⟩,Xs⟩
def tE (p:Tx):Prop:=Jy p/\Z p<=6
def JN (t:Tx):Prop:=(∃b,t=[b]/\Bs b.toNat=true)\/t=[48]\/∃b r,t=b::r/\Gv b.toNat=true/\(∀c∈r,A6 c.toNat=true)/\Z r<=2
structure IT (a:AE):Prop where
 nm:tE a.B
 ne:a.A≠[]
 few:Z a.A<=3
 tm:∀t∈a.A,JN t
structure iS (x:AB):Prop where
 nm:tE x.h.B
 o:x.o=true->x.h.nt=false/\x.h.A=[]/\x.A=[]
 rule:x.o=false->IT x.h/\x.h.nt=false/\Z x.A<=5/\∀a∈x.A,IT a
def Tb (p):∀(n:Nat) (t r:Tx),(∀b∈t,p b.toNat=true)->Z t<=n->(∀b q,r=b::q->p b.toNat=false)->Ay p n (t++r)=(t,r)
 |n,[],r,_,_,a=>by
  cases n with
  |zero=>rfl
  |succ n=>
   cases r with
   |nil=>rfl
   |cons b q=>
    show Ay p (n+1) (b::q)=_;unfold Ay;rw[if_neg (by simp[a b q rfl])]
 |0,b::t,r,_,d,_=>by simp at d
 |n+1,b::t,r,e,d,a=>by
  show Ay p (n+1) (b::(t++r))=_;unfold Ay;rw[if_pos (e b nk),Tb p n t r (λc f=>e c (by simp[f])) (nn d) a]
def Qb (p):∀(n:Nat) (s:Tx),Z (Ay p n s).1<=n
 |0,s=>by simp[Ay]
 |n+1,[]=>by simp[Ay]
 |n+1,b::r=>by
  unfold Ay;split;have:=Qb p n r;simp;omega;simp
def mM {p r}(h:tE p)(a:∀b q,r=b::q->B6 b.toNat=false):E7 (p++r)= .got p r:=by
 unfold E7;rw[Tb B6 6 p r h.1.2 h.2 a];rw[if_neg h.1.1]
def mN {s r p}(h:E7 s= .got p r):tE p:=by
 refine⟨(Qc h).2,?_⟩;unfold E7 at h;split at h;cases h;cases h;exact Qb _ _ _
def mJ {t r}(h:JN t)(c:∀b q,r=b::q->A6 b.toNat=false):C0 (t++r)= .got t r:=by
 rcases h with⟨b,rfl,a⟩|rfl|⟨b,q,rfl,a,hq,hl⟩;show C0 (b::r)=_;unfold C0;dsimp only;rw[if_pos a];show C0 (48::r)=_;unfold C0;dsimp only;rw[if_neg nr,if_pos nr];show C0 (b::(q++r))=_;unfold C0;dsimp only;rw[if_neg,if_neg,if_pos a,Tb A6 2 q r hq hl c];intro e;simp only[Gv,BM,CV]at a;simp at e;omega;intro e;rw[Nq e]at a;cases a
def UR {s r t}(h:C0 s= .got t r):JN t:=by
 cases s with
 |nil=>cases h
 |cons b q=>
  unfold C0 at h;dsimp only at h;split at h;rename_i c;cases h;exact .inl ⟨b,rfl,c⟩;split at h;rename_i d;cases h;have:b=48:=L9 48 d;rw[this];exact .inr (.inl rfl);split at h;rename_i a;cases h;exact .inr (.inr ⟨b,_,rfl,a,(Ek A6 2 q).2,Qb _ _ _⟩);cases h
def Es {α a:Type}(x r)(f:α->Tx->Rd a):(Rd.got x r).bnd f=f x r:=rfl
def K5 {c r}:A5 c.toNat (c::r)= .got () r:=by unfold A5;dsimp only;rw[if_pos nk]
def Pz (t ts):Ch (t::ts)=44::(t++Ch ts):=by simp[Ch]
def Yd {α:Type}{f u c}(d:c≠44){P:α->Prop}(g:∀x r,P x->(∀b q,r=b::q->b=44\/b=c)->f (u x++r)= .got x r):∀(n:Nat) (xs:List α) (r:Tx),(∀x∈xs,P x)->Z xs<=n->D9 f n (Ch (xs.map u)++c::r)= .got xs (c::r)
 |0,[],r,_,_=>rfl
 |n+1,[],r,_,_=>by
  show D9 f (n+1) (c::r)=_;unfold D9
  rw[if_neg (by
   intro h
   exact d (L9 44 h))]
 |0,x::xs,r,_,a=>by simp at a
 |n+1,x::xs,r,i,a=>by
  rw[CC,Pz];show D9 f (n+1) (44::((u x++Ch (xs.map u))++c::r))=_;unfold D9;rw[if_pos nr,CR,g x _ (i x nk) ?_];rw[Es,Yd d g n xs r (λy j=>i y (by simp[j])) (nn a)];rfl;intro b q e;cases xs with
  |nil=>simp[Ch]at e;exact .inr e.1.symm
  |cons y k=>rw[CC,Pz]at e;simp at e;exact .inl e.1.symm
def nd {b:UInt8}(h:b=44\/b=41):A6 b.toNat=false:=by rcases h with rfl|rfl<;>decide
def mQ {a}(h:IT a)(r):Ea a.nt (Bh a++r)= .got a r:=by
 unfold Ea Bh;rw[CR,mM h.nm (λb q e=>by simp at e;rw[<-e.1];decide)];rw[Es,EW];rw[show (40:Int)=((40:UInt8).toNat:Int)from rfl,K5];rw[Es];obtain⟨t,f,e⟩:=List.exists_cons_of_ne_nil h.ne;have g:=h.tm;have i:=h.few;rw[e]at g i;rw[e,Bp];unfold Yh;have e2:((t++Ch f++[41])++r:Tx)=t++(Ch (f.map id)++41::r):=nk;rw[e2,mJ (g t nk) ?_];rw[Es,Yd (u:=id) (c:=41) nr (P:=JN) (λx r k j=>mJ k λb q e=>nd (j b q e)) 2 f r (λy l=>g y (by simp[l])) (nn i)];rw[Es,show (41:Int)=((41:UInt8).toNat:Int)from rfl,K5];rw[Es,<-e];intro b q d;cases f with
 |nil=>simp[Ch]at d;exact nd (.inr d.1.symm)
 |cons y m=>rw[CC,Pz]at d;simp at d;exact nd (.inl d.1.symm)
def vC {a}(h:IT a)(r):K4 (Cl a++r)= .got a r:=by
 have c:=mQ h r;cases d:a.nt with
 |true=>
  rw[d]at c;rw[show Cl a++r=33::(Bh a++r)by simp[Cl,d]];unfold K4;dsimp only;rw[if_pos nr];exact c
 |false=>
  rw[d]at c;rw[show Cl a++r=Bh a++r by simp[Cl,d]];obtain⟨b,q,e,g,f⟩:=L3 h.nm.1;have e2:Bh a++r=b::(q++40::(Bp a.A++[41])++r):=by unfold Bh;rw[e];simp
  rw[e2]at c⊢;unfold K4;dsimp only;rw[if_neg (by simp;omega)];exact c
def UU {x}(h:iS x)(r):F4 (Bz x++46::r)= .got x r:=by
 cases a:x.o with
 |true=>
  obtain⟨i,g,d⟩:=h.o a;rw[Bz,if_pos a];show F4 (63::(x.h.B++46::r))=_;unfold F4;dsimp only;rw[if_pos nr];unfold gB;rw[mM h.nm (λb q e=>by simp at e;rw[<-e.1];decide)];rw[Es,show (46:Int)=((46:UInt8).toNat:Int)from rfl,K5];rw[Es];obtain⟨o,⟨n,p,z⟩,B⟩:=x;simp only at i g d a;subst i;subst g;subst d;subst a;rfl
 |false=>
  obtain⟨i,g,d,m⟩:=h.rule a;have t:F4 (Bz x++46::r)=Pp (Bz x++46::r):=by
   obtain⟨b,q,e,A,v⟩:=L3 h.nm.1;have e2:Bz x++46::r=b::(q++40::(Bp x.h.A++[41])++(if x.A=[]then []else 58::45::Bp (x.A.map Cl))++46::r):=by
    unfold Bz D1 Bh;rw[if_neg (by simp[a]),e];simp
   rw[e2];unfold F4;dsimp only;rw[if_neg (by simp;omega)]
  rw[t,Bz,if_neg (by simp[a]),D1,CR];unfold Pp;have s:=mQ i ((if x.A=[]then []else 58::45::Bp (x.A.map Cl))++46::r);rw[g]at s;rw[s,Es];by_cases f:x.A=[];rw[if_pos f];show Po x.h (46::r)=_;unfold Po;dsimp only;rw[if_pos nr];rw[<-f,<-a];rw[if_neg f];obtain⟨l,k,e⟩:=List.exists_cons_of_ne_nil f;rw[e]at d m;rw[e,CC,Bp];have e2:(58::45::(Cl l++Ch (k.map Cl))++46::r:Tx)=58::45::(Cl l++(Ch (k.map Cl)++46::r)):=nk;rw[e2];unfold Po;dsimp only;rw[if_neg nr];rw[show (58:Int)=((58:UInt8).toNat:Int)from rfl,K5];rw[Es,show (45:Int)=((45:UInt8).toNat:Int)from rfl,K5];rw[Es];unfold Ua;rw[vC (m l nk),Es,Yd (u:=Cl) (c:=46) nr (P:=IT) (λy q j _=>vC j q) 4 k r (λy j=>m y (by simp[j])) (nn d)];rw[Es,show (46:Int)=((46:UInt8).toNat:Int)from rfl,K5];rw[Es,<-e,<-a]
def Te:∀(n:Nat) (l:n0),(∀x∈l,iS x)->Z l<=n->Cc n (Cr l)= .got l []
 |n,[],_,_=>by cases n<;>rfl
 |0,x::l,_,a=>by simp at a
 |n+1,x::l,h,a=>by
  have e:Cr (x::l)=Bz x++46::Cr l:=by simp[Cr]
  have g:Bz x++46::Cr l≠[]:=nk;obtain⟨b,q,e2⟩:=List.exists_cons_of_ne_nil g;rw[e];have c:=UU (h x nk) (Cr l);rw[e2]at c⊢;show ((F4 (b::q)).bnd λx r=>(Cc n r).bnd λd r=>.got (x::d) r)=_;rw[c,Es,Te n l (λy f=>h y (by simp[f])) (nn a)];rfl
def US {α:Type}{f}{P:α->Prop}(a:∀s x r,f s= .got x r->P x){n s xs r}(h:D9 f n s= .got xs r):∀x∈xs,P x:=Ol a n s xs r h
def Yg {c s r a}(h:Ea c s= .got a r):IT a:=by
 have b:=(Jg h).2.1;have d:=Om (T:=JN) (λ_ _ _ h=>UR h) h;refine⟨?_,b.2.1,b.2.2.1,d⟩;unfold Ea at h;obtain⟨p,q,e,h⟩:=A8 h;obtain⟨u,f,l,h⟩:=A8 h;unfold Yh at h;obtain⟨t,i,m,h⟩:=A8 h;obtain⟨k,o,v,h⟩:=A8 h;obtain⟨n,j,g,h⟩:=A8 h;cases h;exact mN e
def vD {s r a}(h:K4 s= .got a r):IT a:=by
 cases s with
 |nil=>cases h
 |cons b q=>
  unfold K4 at h;dsimp only at h;split at h;exact Yg h;exact Yg h
def UV {s r x}(h:F4 s= .got x r):iS x:=by
 have d:=(Yf h).2;cases s with
 |nil=>cases h
 |cons b q=>
  unfold F4 at h;dsimp only at h;split at h;unfold gB at h;obtain⟨p,q,i,h⟩:=A8 h;obtain⟨u,o,A,h⟩:=A8 h;cases h;exact⟨mN i,d.2.1,(λe=>by cases e)⟩;unfold Pp at h;obtain⟨t,q,i,h⟩:=A8 h;have m:=Yg i;have f:x.h=t/\x.o=false/\∀a∈x.A,IT a:=by
   cases q with
   |nil=>cases h
   |cons c q=>
    unfold Po at h;dsimp only at h;split at h;cases h;exact⟨rfl,rfl,nk⟩;obtain⟨_,o,_,h⟩:=A8 h;obtain⟨_,C,_,h⟩:=A8 h;unfold Ua at h;obtain⟨l,E,y,h⟩:=A8 h;obtain⟨z,D,n,h⟩:=A8 h;obtain⟨_,B,_,h⟩:=A8 h;cases h;refine⟨rfl,rfl,λa g=>?_⟩;rcases BD.1 g with rfl|g;exact vD y;exact US (λ_ _ _ h=>vD h) n a g
  obtain⟨j,e2,v⟩:=f;refine⟨by rw[j];exact m.nm,d.2.1,λk=>⟨by rw[j];exact m,(d.2.2 k).2.1,(d.2.2 k).2.2.1,v⟩⟩
def dY:∀(n:Nat) (s:Tx) (l:n0) (r:Tx),Cc n s= .got l r->∀x∈l,iS x
 |n,[],l,r,h=>by
  cases n<;>(cases h;intro x d;cases d)
 |0,b::s,l,r,h=>by cases h
 |n+1,b::s,l,r,h=>by
  have e:((F4 (b::s)).bnd λx r=>(Cc n r).bnd λc r=>.got (x::c) r)= .got l r:=h;obtain⟨x,q,f,g⟩:=A8 e;obtain⟨c,k,i,j⟩:=A8 g;cases j;intro y a;rcases BD.1 a with rfl|a;exact UV f;exact dY n _ _ _ i y a
end Go.Proofs.YtmoeoppbmhfbpabGreatDoorJ
namespace Go.Abs
def WR {P t z b g d i m n x xs c K}(H:P0 P t=some (z,b,g))
  (F:0<z) (f:Z g=z) (e:Z c=m*z) (G:c.all flat=true) (C:0<m) (u:(n+m)*b<=140737488355328) (s:n+m<=1099511627776)
  (A:(x=nilS/\n=0/\xs=[])\/∃o a,x=gx o n a/\0<n/\n<=a/\Z (d.C o)=a*z/\(d.C o).take (n*z)=xs)
  (E:∀o a cs,((∃q,x=gx o n q/\n+m<=q/\a=q)->Z cs=a*z->cs.take ((n+m)*z)=xs++c->K (gx o (n+m) a) (d.put o cs)))
  (r:∀a cs,Z cs=a*z->n+m<=a->cs.take ((n+m)*z)=xs++c->K (gx d.B (n+m) a) (d.new cs)):Jx P t t x (sl i m c) d K:=by
 right;refine⟨z,b,g,i,m,c,H,rfl,rfl,F,f,e,G,C,?_⟩;have v:∀k,Z (List.replicate k (g.map cst1)).flatten=k*z:=λk=>by
  induction k with
  |zero=>simp
  |succ k B=>rw[List.replicate_succ,List.flatten_cons,AX,B,BV,f,If,Nat.add_comm]
 rcases A with⟨rfl,rfl,rfl⟩|⟨o,a,rfl,ah,ae,hlen,ab⟩;refine .inl ⟨rfl,nn u,nn s,λa l=>?_⟩;have:=r a (c++(List.replicate (a-m) (g.map cst1)).flatten) (by rw[AX,e,v,<-FM];congr 1;omega) AA (by rw[DY,<-e,List.take_left];rfl);rw[DY]at this;exact this;have p:Z xs=n*z:=by rw[<-ab,CN,hlen];exact ER (GW _ ae)
 refine .inr ⟨o,n,a,rfl,u,s,hlen,AA,λl=>?_,λl j D=>?_⟩;have y:n*z+Z c<=Z (d.C o):=by rw[e,hlen,<-FM];exact GW _ l
 refine E o a _ ⟨a,rfl,l,rfl⟩ (by rw[L0];exact hlen) ?_;rw[Hw _ _ _ y,ab];have:(n+m)*z=Z (xs++c):=by rw[AX,p,e,FM]
 rw[this,List.take_left];refine r j _ ?_ D ?_;rw[ab,AX,AX,p,e,v,<-FM,<-FM];congr 1;omega;rw[ab];have:(n+m)*z=Z (xs++c):=by rw[AX,p,e,FM]
 rw[this,List.take_left]
def Zk {P N c Q s b o p n f j k d}(B:o<b.B)(hp:p<b.B)(L:o≠p)(S:b.C p=d)(l:d[j]?=some (gx o n f))(hk:k<=Z (b.C o))
  (h:Mn P N c Q s ((b.put o []).put p (d.set j (sl 0 n ((b.C o).take k))))):Mn P N c Q s b:=λG a w R=>by
 obtain⟨m,I',E,M,D⟩:=R.inv.freeze B;have F:(b.put o []).C p=d:=by simp[St.put,L.symm,S]
 have J:(b.put o []).C p≠[]:=λe=>by rw[F]at e;rw[e]at l;simp at l
 obtain⟨I2,C⟩:=I'.retell (o:=p) hp J (d.set j (sl 0 n ((b.C o).take k))) (λY z=>by
  rw[F]at z;refine⟨by rw[LC];exact z.1,λi v x I g=>?_⟩;by_cases H:i=j;subst H;have an:=(BA.1 l).1;rw[List.getElem?_set_self an]at g;cases g;obtain⟨K,e2,e3⟩:=VR.of_gx (z.2 i v _ I l);refine VR.fold ⟨some ⟨m.blk o,0,none⟩,f,K,⟨e2,λh=>by cases h⟩,λV=>⟨m.blk o,0,rfl,λq y r=>?_⟩,λk' ap=>AA⟩;have T:b.C o≠[]:=λe=>V (by rw[e];simp);obtain⟨⟨cur,A,O,U⟩,-⟩:=(R.inv.C o B).2.2 T;rw[GF]at r;split at r
  case isFalse=>cases r
  obtain⟨u,W,X⟩:=U.get r;refine⟨by rw[D];exact M _,u,?_,X.ext E⟩;rw[D];simp only[World.cell?,O,DY];simpa using W;rw[NH (Ne.symm H)]at g
  exact z.2 i v x I g)
 have R2:FK N m s ((b.put o []).put p (d.set j (sl 0 n ((b.C o).take k)))) a w:=⟨R.defers,R.size,λt=>(R.tmps t).ext (E.trans C),I2⟩;exact wp_mono (h m a w R2) λe a' w' hc=>hc.ext (E.trans C)
end Go.Abs
namespace Go.Proofs.YtmoeoppbmhfbpabGreatDoorJ
open Go.Abs
def Rf {a}(h:Jz a.ts=true)(ν):B8 a ν=C4 a:=by
 unfold B8 C4;congr 1;apply CG;intro t c;unfold Jz at h;rw[CX]at h;have:=h t c;obtain⟨b,w⟩:=t;cases b with
 |false=>rfl
 |true=>simp at this
def sT (t:Ck)(a:List Tm)(x:Tm×Nat):List Tm:=if x.1.1=true then Bt x.1.2 (Iu t (x.2:Nat)) a else a
def Si (a:List Tm)(t:Ck)(b:List Tm):List Tm:=a.zipIdx.foldl (sT t) b
def Qp (l:List Ck)(a:Dx)(p:Part):Part:=⟨p.a,p.A.filter λt=>!decide (C4 ⟨a.p,Si p.a.ts t a.ts⟩∈l)⟩
def zG (ps x t ts):Si (ps++[x]) t ts=sT t (Si ps t ts) (x,Z ps):=by
 unfold Si;rw[List.zipIdx_append,List.foldl_append];simp
def UN (μ v):Pd μ v (μ v)=μ:=by
 funext w;unfold Pd;split;rename_i e;rw[e];rfl
def vW {t v}:∀(l:List (Tm×Nat)) (c:List Tm),Bm (l.foldl (sT t) c) v=true->Bm c v=true/\∀x∈l,x.1≠(true,v)
 |[],c,h=>⟨h,nk⟩
 |x::l,c,h=>by
  rw[FW]at h;obtain⟨d,f⟩:=vW l _ h;unfold sT at d;obtain⟨⟨g,j⟩,i⟩:=x;cases g with
  |false=>
   simp only[EI,if_false]at d
   exact⟨d,λy b=>by
    rcases BD.1 b with rfl|b;simp
    exact f y b⟩
  |true=>
   simp only[if_true]at d;have:=(CP (a:=⟨0,c⟩)).1 d
   exact⟨this.1,λy b=>by
    rcases BD.1 b with rfl|b;simp only[ne_eq,Prod.mk.injEq,GM];exact λe=>this.2 e.symm
    exact f y b⟩
def ZP {c a μ}(s:Z c.ts<=3)(C:∀v,Bm a.ts v=true->Bm c.ts v=true):C4 ⟨a.p,Si c.ts (B8 c μ) a.ts⟩=B8 a μ:=by
 have g:∀(l:List (Tm×Nat)) (d:List Tm),(∀x∈l,c.ts[x.2]?=some x.1)->B8 ⟨a.p,l.foldl (sT (B8 c μ)) d⟩ μ=B8 ⟨a.p,d⟩ μ:=by
  intro l;induction l with
  |nil=>intro d _;rfl
  |cons x l p=>
   intro d n;rw[FW,p _ (λy A=>n y (IM _ A))];unfold sT;split;rename_i f;obtain⟨⟨E,e⟩,j⟩:=x;simp only at f;subst f;have m:c.ts[j]?=some (true,e):=n _ IL;have D:=(BA.1 m).1;have k:Iu (B8 c μ) ((j:Nat):Int)=μ e:=by
    unfold Iu;rw[DK,B8,Ku (nn D) (nn s)];have:=(BA.1 m).2;simp[this,Ei]
   show B8 ⟨a.p,Bt e (Iu (B8 c μ) ((j:Nat):Int)) d⟩ μ=_;rw[k];have:=Lq ⟨a.p,d⟩ e (μ e) μ;rw[UN]at this;exact this;rfl
 have u:∀x∈c.ts.zipIdx,c.ts[x.2]?=some x.1:=λx f=>by
  obtain⟨y,i⟩:=x;exact List.mem_zipIdx_iff_getElem?.1 f
 have z:=g c.ts.zipIdx a.ts u;have q:Jz (Si c.ts (B8 c μ) a.ts)=true:=by
  unfold Jz;rw[CX];intro t k;obtain⟨b,w⟩:=t;cases b with
  |false=>rfl
  |true=>
   exfalso;obtain⟨r,o⟩:=vW c.ts.zipIdx a.ts (AO.2 k);have:=AO.1 (C w r);obtain⟨i,B⟩:=CL this;exact o ((true,w),i) (List.mem_zipIdx_iff_getElem?.2 B) rfl
 rw[<-Rf (a:=⟨a.p,Si c.ts (B8 c μ) a.ts⟩) q μ];exact z
def ZQ {l a p ν}(b:Z p.a.ts<=3)(c:∀v,Bm a.ts v=true->Bm p.a.ts v=true):B8 p.a ν∈(Qp l a p).A↔B8 p.a ν∈p.A/\B8 a ν∉l:=by
 unfold Qp;rw[BP,ZP b c];simp
def gY (om ot M d b p a)(id z ida k:Nat)(x)(b8:Z p.a.ts<=3)(b7:Z p.A<=5000)(h3:T3 p.A)(ha:Z a.ts<=3)(hk:a.p=(k:Int))(hx:M[k]?=some x)(c)(hM:BL c om ot M d b):ni 219 [ptr om 0,ag [ic p.a.p,sl id (Z p.a.ts) (Ad p.a.ts),sl z (Z p.A) (Fg p.A)],ag [ic a.p,sl ida (Z a.ts) (Ad a.ts)]] c λr σ'=>(∃idn,r=ag [ic p.a.p,sl id (Z p.a.ts) (Ad p.a.ts),sl idn (Z (Qp x.2 a p).A) (Fg (Qp x.2 a p).A)])/\AD c σ':=by
 have b6:=J4 h3;have cc:=Cx p.a.ts;have HR:AC ((Qp x.2 a p).A=p.A.filter λt=>!decide (C4 ⟨a.p,Si p.a.ts t a.ts⟩∈x.2)):=rfl;have a9:AC (∀(f:List Tm) (i:Nat) (g:St),Z f<=3->AD c g->ni 81 [ptr om 0,ag [ic a.p,sl i (Z f) (Ad f)]] g λr σ'=>r=my (decide (C4 ⟨a.p,f⟩∈x.2))/\AD g σ'):=λf i g h1 h2=>Jq om ot M d b ⟨a.p,f⟩ i k x h1 hk hx g (hM.keep h2);generalize hG:(λt:Ck=>C4 ⟨a.p,Si p.a.ts t a.ts⟩)=B at*
 have HG:AC (∀t,B t=C4 ⟨a.p,Si p.a.ts t a.ts⟩):=λt=>by rw[<-hG]
 have b1:AC ((Qp x.2 a p).A=p.A.filter λt=>!decide (B t∈x.2)):=by
  rw[AC,HR.o];congr 1;funext t;rw[HG.o t]
 clear hG HR hk hx hM;generalize Qp x.2 a p=bp at*
 refine Z9 55 [.cell 6 239] Tryz.func219 ?_;refine mr ?_
 refine Ae (λm s σ'=>∃(i L:Nat) (o:List Ck) (C:oh),m=Z p.A-i/\i<=Z p.A/\s 0=ptr om 0/\s 4=ptr c.B 0/\s 5=ptr (c.B+1) 0/\s 6=ptr (c.B+2) 0/\s 7=ptr (c.B+3) 0/\s 17=sl z (Z p.A) (Fg p.A)/\s 18=ic (Z p.A)/\s 19=ic i/\AD c σ'/\c.B+3<σ'.B/\σ'.C c.B=[ic p.a.p,sl id (Z p.a.ts) (Ad p.a.ts),sl z (Z p.A) (Fg p.A)]/\σ'.C (c.B+1)=[ic a.p,sl ida (Z a.ts) (Ad a.ts)]/\σ'.C (c.B+2)=[ic 0,nilS,nilS]/\σ'.C (c.B+3)=[ic p.a.p,sl id (Z p.a.ts) (Ad p.a.ts),sl L (Z o) C]/\Own c σ' L (Z o)/\Z o<=i/\Z C=Z o*3/\AC (C=Fg o/\o=(p.A.take i).filter λt=>!decide (B t∈x.2))) (Z p.A)
  ⟨0,1,[],[],AA,AA,by simp[upd,AL],AG,AG,AG,AG,AG,AG,rfl,Xs,BJ,?_,?_,?_,?_,Own.nil _ _,nk,nk,⟨rfl,nk⟩⟩ ?_
 ·rw[Aj AA,Ah AM,Ah AM,Ah AM,Ao]
 ·rw[Aj AA,Ah AM,Ah AM,Be AM AM]
 ·rw[Aj AA,Ah AM,Be AM AM]
 ·rw[show c.B+3=c.B+1+1+1 from rfl,Ak];simp
 rintro m s σ' ⟨i,L,o,C,rfl,hi,h0,h4,h5,h6,h7,bc,bb,ba,hK,ca,b4,b3,b2,bg,hO,b9,bh,P⟩;have b5:=hK.B;by_cases bi:i<Z p.A
 ·have X:=AK bi;obtain⟨G,r,hd⟩:=Kw h3 X;generalize p.A[i]=t at hd X G;have T:AC ((p.A.take (i+1)).filter (λt=>!decide (B t∈x.2))=(p.A.take i).filter (λt=>!decide (B t∈x.2))++if (!decide (B t∈x.2))=true then [t]else []):=by
   rw[AC,AT,X,BN,Em]
  clear X;have f1:=Io G;have f2:=Ow G;have f3:=Jm G;have f4:=Qj G;have f5:=Fo t;have f6:=eM G;refine mr ?_
  refine Ae (λm s l=>∃(j v:Nat) (f:List Tm),m=Z p.a.ts-j/\j<=Z p.a.ts/\s 0=ptr om 0/\s 4=ptr c.B 0/\s 5=ptr (c.B+1) 0/\s 6=ptr (c.B+2) 0/\s 7=ptr (c.B+3) 0/\s 9=ptr σ'.B 0/\s 10=ptr (σ'.B+1) 0/\s 17=sl z (Z p.A) (Fg p.A)/\s 18=ic (Z p.A)/\s 19=ic i/\s 26=sl id (Z p.a.ts) (Ad p.a.ts)/\s 27=ic (Z p.a.ts)/\s 28=ic j/\AD σ' l/\σ'.B+1<l.B/\l.C σ'.B=As t/\l.C (σ'.B+1)=[ic a.p,sl v (Z f) (Ad f)]/\Z f<=3/\AC (f=Si (p.a.ts.take j) t a.ts)) (Z p.a.ts)
   ⟨0,ida,a.ts,AA,AA,AI,AI,AI,AI,AI,AI,AI,AI,AI,AI,AI,AI,AG,Xs,BJ,?_,?_,ha,rfl⟩ ?_
  ·rw[Aj AA,Ah BJ,Ak]
  ·rw[Ak]
  clear h0 h4 h5 h6 h7 bc bb ba;rintro m s l ⟨j,v,f,rfl,hj,h0,h4,h5,h6,h7,h9,b0,bc,bb,ba,bz,bw,bv,E,a6,F,K,be,hT⟩;have au:=E.B;by_cases av:j<Z p.a.ts
  ·have U:=AK av;obtain⟨rj,br⟩:=C3 U;generalize p.a.ts[j]=w at br U;obtain⟨w1,D⟩:=w;have V:t[j]?=some t[j]:=AK AA;have bo:=Qk V;have a5:AC (Iu t (j:Nat)=t[j]):=by simp[AC,Iu,V]
   generalize t[j]=y at V bo a5;have W:AC (Si (p.a.ts.take (j+1)) t a.ts=if w1=true then Bt D y f else f):=by
    rw[AC,AT,U,BN,zG,CN,ER hj,<-hT.o];unfold sT;simp only[a5.o]
   clear U V a5 hT;cases w1 with
   |false=>
    have bd:AC (f=Si (p.a.ts.take (j+1)) t a.ts):=by rw[AC,W.o];rfl
    clear W;refine mr ?_;refine⟨Z p.a.ts-(j+1),AA,j+1,v,f,?_⟩;exact m9 bd
   |true=>
    have bd:AC (Bt D y f=Si (p.a.ts.take (j+1)) t a.ts):=by rw[AC,W.o];rfl
    clear W;have bu:=λc=>Oz a.p v f D y AA c;have bq:Z (Bt D y f)<=3:=by simpa[Bt]using be
    refine mr ?_;have bf:AD σ' ((l.new [my false,ic 0]).put l.B [my true,ic D]):=(E.new _).put au _;refine A2 (Q:=λe u n=>e= .normal/\u 0=ptr om 0/\u 4=ptr c.B 0/\u 5=ptr (c.B+1) 0/\u 6=ptr (c.B+2) 0/\u 7=ptr (c.B+3) 0/\u 9=ptr σ'.B 0/\u 10=ptr (σ'.B+1) 0/\u 17=sl z (Z p.A) (Fg p.A)/\u 18=ic (Z p.A)/\u 19=ic i/\u 26=sl id (Z p.a.ts) (Ad p.a.ts)/\u 27=ic (Z p.a.ts)/\u 28=ic j/\AD σ' n/\σ'.B+1<n.B/\n.C σ'.B=As t/\∃idn,n.C (σ'.B+1)=[ic a.p,sl idn (Z (Bt D y f)) (Ad (Bt D y f))]) ?_ ?_
    ·refine Ar Ag (λ_=>True) [7] [0,1,2,3,4,5] 2 (nv 8 63) AH (λ_ _ _ h=>by cases h.1) ?_;intro yb ya;refine Z3 ?_;refine ya.o _ ?_;clear ya yb;refine Ai (i:=6) AH ?_;refine Am ?_;intro yb ya;refine Z3 ?_;refine AF.mono (bu _) ?_;rintro _ R ⟨⟨idn,rfl⟩,Y⟩;have knb:=Y.B;simp only[Ac,Aa]at knb;have a3:=Y.C;simp only[Ac,Aa]at a3;have og0:R.C σ'.B=As t:=by rw[a3 _ AA,Aj AA,Ah AA,F]
     have og1:R.C (σ'.B+1)=[ic a.p,sl v (Z f) (Ad f)]:=by rw[a3 _ AA,Aj AA,Ah AA,K]
     refine Z3 ?_;refine ya.o _ _ ⟨Al Y,?_⟩;clear ya yb;refine Ai (i:=7) AH ?_;refine Am ?_;intro yb ya;refine Z3 ?_;refine ya.o _ _ ⟨A3 rfl,?_⟩;clear ya yb;refine Aw AH ⟨rfl,AI,AI,AI,AI,AI,AI,AI,AI,AI,AI,AI,AI,AI,(bf.trans Y).put AA _,by simp only[Ac];omega,by rw[Aj AA,og0],idn,Ak⟩
    rintro e s2 σ3 ⟨rfl,g0,g4,g5,g6,g7,g9,g10,g17,g18,g19,g26,g27,g28,cd,cb,oe0,idn,oe1⟩;clear h0 h4 h5 h6 h7 h9 b0 bc bb ba bz bw bv F K bf E au a6;refine mr ?_;refine⟨Z p.a.ts-(j+1),AA,j+1,idn,Bt D y f,?_⟩;exact m9 bd
  have bm:j=Z p.a.ts:=AA;subst bm;have HB:AC (C4 ⟨a.p,f⟩=B t):=by
   rw[AC,HG.o t,hT.o,AS]
  have N:=λg hh=>a9.o f v g be hh;rw[HB.o]at N;have S:=hK.trans E;clear hT HB hj av;cases I:decide (B t∈x.2)with
  |true=>
   have HX:AC (C=Fg o/\o=(p.A.take (i+1)).filter λt=>!decide (B t∈x.2)):=by
    obtain⟨O,H⟩:=P.o;refine⟨O,?_⟩;rw[T.o,I,H];simp
   rw[I]at N;clear P T I;refine m0 ?_;intro yb ya;refine Xi (N _ S) ?_;rintro _ _ ⟨rfl,A⟩;(have a4:=A.B;have ak:=(E.trans A).C;have a8:=S.trans A;have a7:=Own.keep hO (E.trans A));refine mr ?_;refine⟨Z p.A-(i+1),AA,i+1,L,o,C,?_⟩
   ((repeat' refine Zi ?_ ?_)<;>first|exact Xq|exact a8|exact a7|exact HX|exact (by rw[ak _ AA];assumption)|exact Xs)
  |false=>
   have HX:AC (C++As t=Fg (o++[t])/\o++[t]=(p.A.take (i+1)).filter λt=>!decide (B t∈x.2)):=by
    obtain⟨O,H⟩:=P.o;refine⟨by rw[O,Q9],?_⟩;rw[T.o,I,<-H];simp
   rw[I]at N;clear P T I;refine m0 ?_;intro yb ya;refine Xi (N _ S) ?_;rintro _ _ ⟨rfl,A⟩;(have a4:=A.B;have ak:=(E.trans A).C;have a0:=A.C;have a8:=S.trans A;have a7:=Own.keep hO (E.trans A));refine nh ?_;intro yb ya;rename_i J;have oh0:J.C σ'.B=As t:=by rw[a0 _ AA,F]
   have oh3:J.C (c.B+3)=[ic p.a.p,sl id (Z p.a.ts) (Ad p.a.ts),sl L (Z o) C]:=by rw[ak _ AA,bg]
   refine mr ?_;refine Bo (by first|exact G6) (a8) (a7) nr (by rfl) (bh) (by rw[f1]) (f5) nr AA AA ?_;intro idn σn ah ai ac ab ad aa;have eob:∀q,q<σ'.B->σn.C q=σ'.C q:=λq hq=>by rw[ac,ak _ hq]
   refine Z3 ?_;refine mr ?_;refine⟨Z p.A-(i+1),AA,i+1,idn,o++[t],C++As t,?_⟩
   ((repeat' refine Zi ?_ ?_)<;>first|exact Xq|exact (ai.put AA _)|exact (nn (Own.put ah _ _))|exact HX|exact Xs)
 have bn:i=Z p.A:=AA;subst bn;obtain⟨O,H⟩:=P.o;rw[AS]at H;refine mr ?_;exact⟨_,rfl,⟨_,by rw[b1.o,<-H]<;>first|rfl|rw[O]⟩,hK.put AA _⟩
end Go.Proofs.YtmoeoppbmhfbpabGreatDoorJ
