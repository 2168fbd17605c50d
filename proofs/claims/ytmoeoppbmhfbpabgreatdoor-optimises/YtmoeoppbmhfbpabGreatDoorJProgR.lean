import Derived.Test.YtmoeoppbmhfbpabGreatDoorJProgL
import Derived.ProofKit
import Derived.OpenShut
import Derived.Below
import Derived.Carry
import Derived.Deep.Slices
set_option maxHeartbeats 16000000
set_option maxRecDepth 100000
set_option linter.all false
open List renaming length->Z
namespace Go.Proofs.YtmoeoppbmhfbpabGreatDoorJ
open Go.Abs
def VT (w:Tx):Prop:=(∃b,w=[b]/\Bs b.toNat=true)\/(w≠[]/\∀b∈w,A6 b.toNat=true)
def VA (a:AE):Prop:=∀w∈a.A,VT w
def UQ {s r w}(h:C0 s= .got w r):VT w:=by
 cases s with
 |nil=>cases h
 |cons b q=>
  unfold C0 at h;dsimp only at h;split at h;rename_i e;cases h;exact .inl ⟨b,rfl,e⟩;split at h;rename_i f;cases h;refine .inr ⟨nk,λc a=>?_⟩;simp at a;subst a;rw[CB];exact .inr f;split at h;rename_i d;cases h;refine .inr ⟨nk,λc a=>?_⟩;rcases BD.1 a with rfl|a;rw[CB];exact .inl d;exact (Ek A6 2 q).2 c a;cases h
def Ol {α:Type}{f}{P:α->Prop}(c:∀s x r,f s= .got x r->P x):∀(n:Nat) (s:Tx) (xs:List α) (r:Tx),D9 f n s= .got xs r->∀x∈xs,P x
 |0,s,xs,r,h=>by unfold D9 at h;cases h;simp
 |n+1,[],xs,r,h=>by unfold D9 at h;cases h;simp
 |n+1,b::q,xs,r,h=>by
  unfold D9 at h;split at h;obtain⟨x,l,g,d⟩:=A8 h;obtain⟨j,k,e,i⟩:=A8 d;cases i;intro y a;rcases BD.1 a with rfl|a;exact c _ _ _ g;exact Ol c n _ _ _ e y a;cases h;simp
def Om {T:Tx->Prop}(c:∀s w r,C0 s= .got w r->T w){d s r a}(h:Ea d s= .got a r):∀w∈a.A,T w:=by
 unfold Ea Yh at h;obtain⟨p,j,-,h⟩:=A8 h;obtain⟨u,g,-,h⟩:=A8 h;obtain⟨w,i,f,h⟩:=A8 h;obtain⟨l,n,e,h⟩:=A8 h;obtain⟨m,k,-,h⟩:=A8 h;cases h;intro y b;rcases BD.1 b with rfl|b;exact c _ _ _ f;exact Ol c _ _ _ _ e y b
def mO {T:Tx->Prop}(b:∀s w r,C0 s= .got w r->T w){s r a}(h:K4 s= .got a r):∀w∈a.A,T w:=by rw[vE]at h;exact Om b h
def xN {T:Tx->Prop}(d:∀s w r,C0 s= .got w r->T w){s r x}(h:F4 s= .got x r):∀a∈Af x,∀w∈a.A,T w:=by
 rw[mP]at h;split at h;unfold gB at h;obtain⟨p,j,-,h⟩:=A8 h;obtain⟨u,f,-,h⟩:=A8 h;cases h;simp[Af];unfold Pp at h;obtain⟨a,j,e,h⟩:=A8 h;rw[mL]at h;split at h;cases h;intro y b;simp[Af]at b;subst b;exact Om d e;obtain⟨u,f,-,h⟩:=A8 h;obtain⟨o,m,c,h⟩:=A8 h;obtain⟨q,t,-,h⟩:=A8 h;cases h;intro y b;simp[Af]at b;rcases b with rfl|b;exact Om d e;unfold El Uu at c;obtain⟨l,n,g,c⟩:=A8 c;obtain⟨k,v,i,c⟩:=A8 c;cases c;rcases BD.1 b with rfl|b;exact mO d g;exact Ol (λ_ _ _ h=>mO d h) _ _ _ _ i y b
def Lx {T:Tx->Prop}(d:∀s w r,C0 s= .got w r->T w):∀(n:Nat) (s:Tx) (l:n0) (r:Tx),Cc n s= .got l r->∀x∈l,∀a∈Af x,∀w∈a.A,T w
 |n,[],l,r,h=>by rw[Ye]at h;cases h;simp
 |0,b::q,l,r,h=>by rw[T9]at h;cases h
 |n+1,b::q,l,r,h=>by
  rw[Nk]at h;obtain⟨x,i,f,h⟩:=A8 h;obtain⟨j,g,e,h⟩:=A8 h;cases h;intro y c;rcases BD.1 c with rfl|c;exact xN d f;exact Lx d n _ _ _ e y c
def Td (n s l r)(h:Cc n s= .got l r):∀x∈l,∀a∈Af x,VA a:=Lx (T:=VT) (λ_ _ _ h=>UQ h) n s l r h
def R3 {w}(h:VT w):(Aq w).1=Ab w:=by
 rcases h with⟨b,rfl,a⟩|⟨hn,hd⟩;rw[Et a];simp[Ab,a];cases w with
 |nil=>exact absurd rfl hn
 |cons b r=>
  have c:=hd b nk;have a:Bs b.toNat=false:=by
   cases a:Bs b.toNat with
   |false=>rfl
   |true=>simp[A6]at c;simp[Bs]at a;omega
  rw[Nw a];simp[Ab,a]
def RE {u t}(k:VT u)(l:VT t)(a:Ab t=true):Ql (Aq t).2 u=(u==t):=by
 obtain⟨b,rfl,i⟩:∃b,t=[b]/\Bs b.toNat=true:=by
  rcases l with h|⟨hn,hd⟩;exact h;exfalso;cases t with
  |nil=>exact hn rfl
  |cons b r=>
   have d:=hd b nk;simp[Ab]at a;simp[A6]at d;simp[Bs]at a;omega
 rw[Et i];unfold Ql;rcases k with⟨c,rfl,j⟩|⟨hn,hd⟩;rw[Et j];simp only[FV];by_cases e:c=b;subst e;simp;have:(c.toNat:Int)≠b.toNat:=λh=>e (UInt8.toNat_inj.1 AA);have g:((c.toNat:Int)-65==(b.toNat:Int)-65)=false:=by simp;omega
 have f:(([c]:Tx)==[b])=false:=nn e;rw[g,f];have g:(Aq u).1=false:=by
  rw[R3 (.inr ⟨hn,hd⟩)];cases u with
  |nil=>rfl
  |cons c r=>
   have d:=hd c nk;cases a:Ab (c::r)with
   |false=>rfl
   |true=>simp[Ab,Bs]at a;simp[A6]at d;omega
 have f:(u==[b])=false:=by
  simp;rintro rfl;have:=hd b nk;simp[A6]at this;simp[Bs]at i;omega
 rw[g,f];rfl
def Ev {α:Type}{l:List α}{p q}(h:∀a∈l,p a=q a):l.any p=l.any q:=by
 induction l with
 |nil=>rfl
 |cons a l d=>simp only[List.any_cons];rw[h a nk,d (λb c=>h b (by simp[c]))]
def XF {x}(d:∀a∈Af x,VA a){t}(g:VT t)(c:Ab t=true):Ga x (Aq t).2=Ma x t:=by
 unfold Ga Ma;apply Ev;intro a b;have f:VA a:=d a (by unfold Af;simp[b]);cases i:a.nt with
 |true=>simp
 |false=>
  simp only[JX,FV];exact Ev λu e=>RE (f u e) g c
def J8 {x}(b:∀a∈Af x,VA a):Fi x=Db x:=by
 unfold Fi Db;congr 1;apply Ev;intro a d;unfold zI bC;apply Ev;intro w e;have c:=b a d w e;rw[R3 c];cases f:Ab w with
 |false=>rfl
 |true=>rw[XF b c f]
def Rz {p q n}(h:∀i,i<n->p i=q i):Bn p n=Bn q n:=by
 have e:(List.range n).find? p=(List.range n).find? q:=by
  have c:∀i∈List.range n,p i=q i:=λi g=>h i (nn g);generalize List.range n=l at c;induction l with
  |nil=>rfl
  |cons a l f=>simp only[List.find?_cons];rw[c a nk,f (λb d=>c b (by simp[d]))]
 unfold Bn;rw[e]
def wN {N l}(d:∀x∈l,x.h.B∈N/\∀a∈x.A,a.B∈N){i j}(h:Way (Yj N l) i j):∃p q,p∈N/\q∈N/\N.idxOf p=i/\N.idxOf q=j/\Way (Gs l) p q:=by
 induction h with
 |one e=>
  obtain⟨x,b,f,a,c,g⟩:=e;exact⟨x.h.B,a.B,(d x b).1,(d x b).2 a c,f,g,.one ⟨x,b,rfl,a,c,rfl⟩⟩
 |more e _ m=>
  obtain⟨x,b,f,a,c,g⟩:=e;obtain⟨p,q,n,k,o,e2,w⟩:=m;have:a.B=p:=E9 ((d x b).2 a c) n AA;subst this;exact⟨x.h.B,q,(d x b).1,k,f,e2,.more ⟨x,b,rfl,a,c,rfl⟩ w⟩
def pO {N l p q}(h:Way (Gs l) p q):Way (Yj N l) (N.idxOf p) (N.idxOf q):=by
 induction h with
 |one e=>
  obtain⟨x,c,rfl,a,b,rfl⟩:=e;exact .one ⟨x,c,rfl,a,b,rfl⟩
 |more e _ d=>
  obtain⟨x,c,rfl,a,b,rfl⟩:=e;exact .more ⟨x,c,rfl,a,b,rfl⟩ d
def Way.map' {α:Type}{E F:α->α->Prop}(h:∀a b,E a b->F a b){a b}(w:Way E a b):Way F a b:=by
 induction w with
 |one e=>exact .one (h _ _ e)
 |more e _ c=>exact .more (h _ _ e) c
def XZ {N l M}(d:∀x∈l,x.h.B∈N/\∀a∈x.A,a.B∈N)(j:∀x∈l,x.o=true->x.A=[])(e:Dw N l M){p q}(t:p∈N)(g:q∈N)(o:∃y∈l,y.o=false/\y.h.B=q):
  F9 (Z N) M (Z N) (N.idxOf p) (N.idxOf q)=J2 l p q:=by
 have s:NA (Z N) M:=by
  intro a b n;obtain⟨x,f,rfl,c,i,rfl⟩:=(e a b).1 n;exact⟨CS (d x f).1,CS ((d x f).2 c i)⟩
 rw[GI,gR s,Ks j o];constructor;intro w;obtain⟨v,z,k,u,r,e2,m⟩:=wN d (w.map' λa b h=>(e a b).1 h);rw[<-E9 k t r,<-E9 u g e2];exact m;intro w;exact (pO w).map' λa b h=>(e a b).2 h
def fK {N}:∀{l:oq} {cs:oh},EL (PL N) l cs->∀a∈l,a.B∈N
 |[],cs,h,a,f=>by cases f
 |b::l,cs,⟨c,d,g,i,e⟩,a,f=>by
  rcases BD.1 f with rfl|f;exact g.1;exact fK i a f
def T0 {N}:∀{l:n0} {cs:oh},EL (PI N) l cs->∀x∈l,x.h.B∈N/\∀a∈x.A,a.B∈N
 |[],cs,h,a,f=>by cases f
 |b::l,cs,⟨c,d,g,j,e⟩,a,f=>by
  rcases BD.1 f with rfl|f;obtain⟨i,n,id,m,k,-⟩:=g;exact⟨i,fK k⟩;exact T0 j a f
def ZG {N l cs M}(f:Bk N l cs)(k:Dw N l M):Bn (dS N l (F9 (Z N) M (Z N))) (Z l)=Bn (Hd l) (Z l):=by
 have c:=T0 f.el;apply Rz;intro i g;unfold dS Hd;rw[AK g];dsimp only;have b:=AR g;generalize l[i]=x at b;apply Ev;intro a d;unfold MW zH;have j:x.o=false:=by
  cases h:x.o with
  |false=>rfl
  |true=>rw[f.o x b h]at d;cases d
 rw[XZ c f.o k ((c x b).2 a d) (c x b).1 ⟨x,b,j,rfl⟩];congr 2;rw[GI];simp only[DO];constructor;intro e;exact E9 ((c x b).2 a d) (c x b).1 AA;intro e;rw[e]
def wR {l}(c:∀x∈l,∀a∈Af x,VA a):Bn (Oi l) (Z l)=Bn (Dp l) (Z l):=by
 apply Rz;intro i b;unfold Oi Dp;rw[AK b];dsimp only;rw[J8 (c _ (AR b))]
def Yy (N l cs idn idi)(b:Bk N l cs)(k:∀x∈l,∀a∈Af x,VA a)(z):ni 71 [Cq N idn l idi cs] z λr c=>r=two (Co l)/\AD z c:=by
 have y:=@Lc (Gn l) (Z l);have q:=@Lc (Dp l) (Z l);have B:=@Lc (Hd l) (Z l);have g:=wR k;have e:=To N l cs idn idi b;rw[g]at e;have m:∀z,ni 123 [Cq N idn l idi cs] z λr c=>r=ic (Bn (Hd l) (Z l))/\AD z c:=λz=>by
  refine AF.mono (bA N l cs idn idi b z) ?_;rintro _ _ ⟨M,p,rfl,j⟩;exact⟨by rw[ZG b p],j⟩
 clear g;refine Z9 20 [.tmp 2,.tmp 3] Tryz.func71 ?_
 repeat' first|refine Z1 ?_|refine Z8 λyb ya=>?_|refine Z4 ?_;clear ya yb|refine Z2 ?_ ?_<;>intro h s<;>try exact Xp|(refine Z5 ?_;first|(refine Xi (Uy N l cs idn idi b _) ?_;rintro _ _ ⟨rfl,i⟩;(have t:=i.C;have o:=i.B;(try simp only[Aa,Ac,Az]at o)))|(refine Xi (e _) ?_;rintro _ _ ⟨rfl,f⟩;(have v:=f.C;have u:=f.B))|(refine Xi (m _) ?_;rintro _ _ ⟨rfl,A⟩))|refine Z3 ?_|exact Zt|apply ya.o;clear ya yb
 ·have d:Bn (Gn l) (Z l)≠ -1:=nn h
  exact⟨_,rfl,by unfold Co;rw[if_pos AA],Xs⟩
 ·have d:Bn (Gn l) (Z l)= -1:=nn (show (Bn (Gn l) (Z l) != -1)=false by assumption)
  have e2:Bn (Dp l) (Z l)≠ -1:=nn h;exact⟨_,rfl,by unfold Co;rw[if_neg AA,if_pos AA],Xs⟩
 ·have d:Bn (Gn l) (Z l)= -1:=nn (show (Bn (Gn l) (Z l) != -1)=false by assumption)
  have e2:Bn (Dp l) (Z l)= -1:=nn (show (Bn (Dp l) (Z l) != -1)=false by assumption);have n:Bn (Hd l) (Z l)≠ -1:=nn h;exact⟨_,rfl,by unfold Co;rw[if_neg AA,if_neg AA,if_pos AA],Xs⟩
 have d:Bn (Gn l) (Z l)= -1:=nn (show (Bn (Gn l) (Z l) != -1)=false by assumption);have e2:Bn (Dp l) (Z l)= -1:=nn (show (Bn (Dp l) (Z l) != -1)=false by assumption);have n:Bn (Hd l) (Z l)= -1:=nn h;exact⟨_,rfl,by unfold Co;rw[if_neg AA,if_neg AA,if_neg AA],Xs⟩
def lm {N l cs}(q:EL (PI N) l cs)(n:Z l<=16)(g:∀x∈l,Dc x)(o:Z N<=2000):Bk N l cs:=by
 refine⟨q,n,λx f=>?_,λx f b=>((g x f).2.1 b).2.2,o,λx f a c=>?_⟩;obtain⟨-,j,k⟩:=g x f;cases b:x.o with
 |true=>
  obtain⟨-,e,d⟩:=j b;exact⟨by simp[d],by simp[e],by simp[d]⟩
 |false=>
  obtain⟨e,-,d,i⟩:=k b;have:=e.2.2.1;exact⟨AA,AA,λa c=>by have:=(i a c).2.2.1;omega⟩
 obtain⟨-,j,k⟩:=g x f;unfold Af at c;cases b:x.o with
 |true=>
  obtain⟨-,e,d⟩:=j b;simp[b,d]at c
 |false=>
  obtain⟨e,-,d,i⟩:=k b;simp[b]at c;have m:En a->0<Z a.A:=λw=>by
   have:=w.2.1;cases p:a.A with
   |nil=>exact absurd p this
   |cons y r=>simp
  rcases c with rfl|c;exact m e;exact m (i a c)
def iT {l}(h:(Co l).1=0):Co l=(0,0):=by
 unfold Co at h⊢;split;rename_i a;rw[if_pos a]at h;cases h;rename_i a;rw[if_neg a]at h;split;rename_i b;rw[if_pos b]at h;cases h;rename_i b;rw[if_neg b]at h;split;rename_i c;rw[if_pos c]at h;cases h;rfl
def RA (t:Tx)(c:Nat)(b:oh)(d:Nat)(e:oh):Prop:=
 ∃N l,Cc 16 t= .got l []/\Bk N l e/\c=Z N/\b=N.map str/\d=Z l/\(∀x∈l,∀a∈Af x,VA a)/\∀x∈l,Dc x
def rN (t z):ni 37 [str t] z λr W=>∃idn D L G T O,r=tp [ag [sl idn D L,sl G T O],ic (Av t).1,ic (Av t).2]/\AD z W/\((Av t).1=0->D<=600/\RA t D L T O):=by
 refine Z9 41 [.cell 2 62,.tmp 3,.tmp 4] Tryz.func37 ?_;by_cases H:600<Z t
 ·have k:Av t=(1,0):=by unfold Av;rw[if_pos H]
  have a:AC _:=k;clear k;refine mr ?_;refine⟨_,rfl,1,0,[],1,0,[],by rw[a.o],Xs,by rw[a.o];intro h;simp at h⟩
 have g:=Hb t;have R:Z t<=1000:=AA;have K:RS 0 t (z.B+1) [] 1 t (((z.new [nilS,nilS]).new [str [],ic 0,nilS]).put (z.B+1) [str t,ic 0,nilS]):=by
  refine⟨?_,Nat.lt_succ_self _,.inl ⟨rfl,rfl⟩,List.suffix_refl _,nk⟩;rw[Ak];simp[Pk,dO]
 have u:=lM R K;have A:AD z (((z.new [nilS,nilS]).new [str [],ic 0,nilS]).put (z.B+1) [str t,ic 0,nilS]):=(((AD.refl z).new _).new _).put AA _;cases b:Cc 16 t with
 |bad e=>
  rw[b]at u g;dsimp only at g;have k:Av t=(2,((Z t-Z e:Nat):Int)):=by
   unfold Av;rw[if_neg H,g,if_pos (KA _)]
  have a:AC _:=k;have I:AC _:=u;have C:AC _:=A;clear k g K u b A;refine m0 ?_;intro yb ya;refine Xi (I.o) ?_;rintro _ _ ⟨n,q,c,s,m,rfl,f,v,a4,V⟩;(have E:=f.keep.C;have F:=f.keep.B;(try simp only[Aa,Ac,Az]at F));refine mr ?_;rename_i d;have B:=v.C;unfold Pk dO at B;simp only[Rd.rest]at B;have a3:d.C z.B=[nilS,nilS]:=by
   rw[E _ BJ AA,Aj AA,Ah (by rw[Aa];omega),Ao]
  have o:AD z d:=An.keep C.o f.keep AA (.inl AA);clear E;refine Ax Ag (λp=>p=z.B+1) [5] [0,1,2] [3,4,5] AH (λ_ _ _ h=>h) ?_;intro yb ya;have U:∀i,Kept (λj=>!([5]:List Nat).contains j) (λp=>p=z.B+1) d i (d.put z.B [nilS,nilS]):=λi _ p b hF=>by
   subst hF;simp[St.put]
  refine Z3 ?_;refine⟨λp h=>h.elim,λp h=>h.elim,λp h=>by cases h;rfl,?_⟩
  try (refine And.intro (U _) ?_)
  try (refine And.intro (U _) ?_)
  refine mr ?_;refine⟨_,rfl,1,0,[],1,0,[],by rw[a.o],o.put (AU _) _,by rw[a.o];intro h;simp at h⟩
 |got l r=>
  rw[b]at u g;dsimp only at g;obtain⟨p1,S,p3,P⟩:=Ep R b;have M:=Td _ _ _ _ b;have az:=(Ka _ _ _ _ b).2.1;subst az;have k:Av t=Co l:=by
   unfold Av;rw[if_neg H,g,if_neg AA,S]
  have a:AC _:=k;have I:AC _:=u;have C:AC _:=A;have X:AC _:=b;clear k g K u b A S p1
  repeat' first|refine Z1 ?_|refine Z8 λyb ya=>?_|refine Z4 ?_;clear ya yb|refine Z2 ?_ ?_<;>intro h ai<;>try exact Xp|(refine Z5 ?_;first|(refine Xi (I.o) ?_;rintro _ _ ⟨n,q,c,s,m,rfl,f,v,a4,V⟩;(have E:=f.keep.C;have F:=f.keep.B;(try simp only[Aa,Ac,Az]at F);have B:=v.C;unfold Pk dO at B;obtain⟨rfl,Y⟩:n=Z l/\EL (PI s) l c:=V;have Q:=lm Y p3 P (by have:=v.len;omega)))|(refine Xi (Yy s l c m q Q M _) ?_;rintro _ _ ⟨rfl,y⟩;(have N:=y.C;have x:=y.B;(try simp only[Aa,Ac,Az]at x))))|refine Z3 ?_|exact Zt|apply ya.o;clear ya yb
  ·rename_i d a0 _ z2;have o:AD z d:=An.keep C.o f.keep AA (.inl AA);have J:=(((o.new [nilS,nilS]).put o.B _).trans y);exact⟨_,rfl,1,0,[],1,0,[],by rw[a.o],J.put (AU _) _,by rw[a.o];intro h0;simp[h0]at h⟩
  rename_i d a0 _ z2;have o:AD z d:=An.keep C.o f.keep AA (.inl AA);have J:=(((o.new [nilS,nilS]).put o.B _).trans y);have hw:=iT (l:=l) (nn h);exact⟨_,rfl,m,Z s,s.map str,q,Z l,c,by rw[a.o,hw],J.put (AU _) _,λ_=>⟨by have:=v.len;simp only[Rd.rest,CQ]at this;omega,s,l,X.o,Q,rfl,rfl,rfl,M,P⟩⟩
def yE (t z):ni 37 [str t] z λr f=>∃idn c b a d e,r=tp [ag [sl idn c b,sl a d e],ic (Av t).1,ic (Av t).2]/\AD z f/\((Av t).1=0->RA t c b d e):=
 AF.mono (rN t z) λr f ⟨idn,c,b,a,d,e,j,g,i⟩=>⟨idn,c,b,a,d,e,j,g,λh=>(i h).2⟩
structure iR where
 kind:Int
 n:Int
 m:Int
 s:Tx
 e:Tx
 f:Tx
def EO (o:iR)(c:oh):Prop:=c=[ic o.kind,ic o.n,ic o.m,str o.s,str o.e,str o.f]
def SI (o:iR)(c)(h:EO o c):Z c=6:=by rw[h];rfl
def lh {l:List iR}{cs i}{o:iR}(h:EL EO l cs)(a:l[i]?=some o):∃r,cs.drop (i*6)=ic o.kind::ic o.n::ic o.m::str o.s::str o.e::str o.f::r:=by
 obtain⟨c,r,rfl,e⟩:=EL.get SI h a;exact⟨r,e⟩
def T6 (s z):ni 60 [str s] z λr b=>r=two (Av s)/\AD z b:=by
 have a:=Hb s;refine aP s (λd c=>?_) ?_ z;cases h:Cc 16 s with
 |bad e=>rw[h]at a;exact absurd (by rw[a];exact KA _) c
 |got l r=>exact (Ep AA h).1
 rw[a];cases h:Cc 16 s with
 |bad e=>exact⟨Int.le_trans nr (KA (Z s-Z e)),Int.ofNat_le.2 (Nat.sub_le _ _)⟩
 |got l r=>exact⟨show (-1:Int)<= -1 by decide,show (-1:Int)<=(Z s:Int)by omega⟩
def VX (c z):ni 35 [ic c] z λx a=>x=ic c/\a=z:=by
 refine Z9 4 [.tmp 2] Tryz.func35 ?_;refine mr ?_
 first|exact⟨_,rfl,rfl,rfl⟩|exact⟨_,rfl,rfl⟩|exact⟨_,rfl⟩
def Plays (lo b:Int)(l:List iR):Prop:=∀o∈l,lo<=o.kind->o.kind<=b->∀c,EO o c->∀z,ni 33 [ag c] z λr a=>r=my true/\AD z a
def upto_spec (l:List iR)(cs ids lo hi)(f:EL EO l cs)(D:Z l<=9223372036854775807)(n:Plays lo hi l)(z):ni 10 [sl ids (Z l) cs,ic lo,ic hi] z λr b=>r=ic (-1)/\AD z b:=by
 have q:=EL.length SI f;refine Z9 35 [.tmp 6] Tryz.func10 ?_;refine mr ?_
 refine Ae (λm s b=>∃i:Nat,m=Z l-i/\i<=Z l/\s 0=sl ids (Z l) cs/\s 1=ic lo/\s 2=ic hi/\s 7=ic i/\AD z b) (Z l)
  ⟨0,AA,AA,rfl,rfl,rfl,rfl,AD.refl _⟩ ?_
 rintro m s b ⟨i,rfl,F,E,A,x,B,e⟩;have u:=e.B;by_cases g:i<Z l
 ·have d:=AK g;have c:=n l[i] (AR g);obtain⟨r,p⟩:=lh f d;generalize l[i]=o at p d c;clear d;by_cases a:lo<=o.kind/\o.kind<=hi
  ·have j:=c a.1 a.2 _ rfl;have v:=a.1;have t:=a.2;clear c a
   refine m0 ?_;intro yb ya;refine Xi (j _) ?_;rintro _ _ ⟨rfl,y⟩;refine mr ?_
   all_goals
    first
    |exact⟨Z l-(i+1),AA,i+1,rfl,AA,nk,Xs⟩
  clear c;refine m6 ?_ ?_<;>intro h C
  all_goals
   first
   |exact⟨Z l-(i+1),AA,i+1,rfl,AA,nk,Xs⟩
   |(exfalso;simp only[CV]at*;omega)
 have k:i=Z l:=AA;subst k;refine mr ?_
 first|exact⟨_,rfl,rfl,e⟩|exact⟨_,rfl,rfl⟩|exact⟨_,rfl⟩
open Go.RowKit (Below)
def st0:St:={C:=λ_=>[],B:=0,top:=λ_=>0,D:=0,ver:=λ_=>0}
def gh0 (W:World):Gh:={blk:=λ_=>0,cur:=λ_=>0,cap:=λ_=>0,siz:=λ_=>0,per:=λb _=>b<W.heap.size,base:=W.heap.size,w0:=W}
def inv0 (W)(c:Abs.Hyp W.heap.size W):Abs.Inv (gh0 W) st0 W:=
 ⟨λo h=>absurd h (Nat.not_lt_zero _),λo d h=>absurd h (Nat.not_lt_zero _),λk h=>absurd h (Nat.not_lt_zero _),λk e h=>absurd h (Nat.not_lt_zero _),λo k h=>absurd h (Nat.not_lt_zero _),
  λb a h=>h,λb a h=>h,Below.refl _ _,AU _,c⟩
def calls_law {f x W v}(h:AF Tryz.prog f [x] st0 λr a=>r=my true/\AD st0 a)(i:VR (gh0 W) st0 W v x)(d:Abs.Hyp W.heap.size W):
  Calls Tryz.prog f #[v] W λe b=>e= .returned (.bool true)/\Below W.heap.size W b:=by
 refine (h.2 (gh0 W) W #[v] (inv0 W d) (AP.cons i (AP.nil _))).mono ?_;rintro e b ⟨g,m,y,a,rfl,l,E,k,rfl,-⟩;have j:g= .bool true:=k.unfold;refine⟨by rw[j],?_⟩;have c:=l.below;rw[E.base,E.w0]at c;exact c
def rQ {w a R b o xs d}(h:FI w a R b o xs)(g:FI w a R b (o+Z xs) d):FI w a R b o (xs++d):=λi x c=>by
 rw[List.getElem?_append]at c;split at c;exact h i x c;rename_i e;have:=g (i-Z xs) x c;rwa[show o+Z xs+(i-Z xs)=o+i by omega]at this
def opC (o:iR):oh:=[ic o.kind,ic o.n,ic o.m,str o.s,str o.e,str o.f]
def MR (o:iR):List Value:=[.int .i64 o.kind,.int .i64 o.n,.int .i64 o.m,.string (bs o.s),.string (bs o.e),.string (bs o.f)]
def opAt (w:World)(b a:Nat)(o:iR):Prop:=∀r,r<6->w.cell? ⟨b,a+r,none⟩=(MR o)[r]?
def fv {w c G z b d}{o:iR}(e:∀k,c b k)(h:opAt w b d o):FI w c (VR G z w) b d (opC o):=λi x a=>by
 refine⟨e _,?_⟩
 match i,a with
 |0,a=>simp[opC]at a;subst a;exact⟨_,h 0 nr,VR.sc _⟩
 |1,a=>simp[opC]at a;subst a;exact⟨_,h 1 nr,VR.sc _⟩
 |2,a=>simp[opC]at a;subst a;exact⟨_,h 2 nr,VR.sc _⟩
 |3,a=>simp[opC]at a;subst a;exact⟨_,h 3 nr,VR.sc _⟩
 |4,a=>simp[opC]at a;subst a;exact⟨_,h 4 nr,VR.sc _⟩
 |5,a=>simp[opC]at a;subst a;exact⟨_,h 5 nr,VR.sc _⟩
 |i+6,a=>simp[opC]at a
def vK {w c G z b}(d:∀k,c b k):∀(l:List iR) (a:Nat),(∀i o,l[i]?=some o->opAt w b (a+i*6) o)->FI w c (VR G z w) b a (l.flatMap opC)
 |[],a,h=>λi x e=>by simp at e
 |o::l,a,h=>by
  rw[DN];refine rQ (fv d (nn (h 0 o rfl))) (vK d l _ λi f g=>?_);have:=h (i+1) f (nn g);rwa[show a+(i+1)*6=a+Z (opC o)+i*6 by simp[opC];omega]at this
def RV:∀l:List iR,EL EO l (l.flatMap opC)
 |[]=>rfl
 |o::l=>⟨opC o,l.flatMap opC,rfl,RV l,by rw[DN]⟩
def vJ {p:Nat->iR->Prop}:∀(n:Nat),(∀i,i<n->∃o,p i o)->∃l:List iR,Z l=n/\∀i o,l[i]?=some o->p i o
 |0,_=>⟨[],rfl,λi o h=>by simp at h⟩
 |n+1,h=>by
  obtain⟨l,c,d⟩:=vJ n λi a=>h i AA;obtain⟨o,b⟩:=h n AA;refine⟨l++[o],by simp[c],λi f a=>?_⟩;rw[List.getElem?_append]at a;split at a;exact d i f a;rename_i g;have:i=n:=by
   by_cases e:i-Z l=0;omega;rw[FD (by simp;omega)]at a;cases a
  subst this;rw[show i-Z l=0 by omega]at a;simp at a;subst a;exact b
def vV:Tryz.prog.cellsOf 26=6:=AH
def cells3:Tryz.prog.cellsOf 3=1:=AH
def js:Tryz.prog.cellsOf 9=1:=AH
def YV {H:Type}{e:TypeId×Value->H}{w base c d g cs}{x:DataW H×List MemPlace}(h:DataW.trod e Tryz.prog w base c d g 26 cs=some x):∃o:iR,cs=MR o/\o.n<=9223372036854775807/\Z o.e<=9223372036854775807:=by
 obtain⟨J,n,-,-,q,i,f⟩:=DataW.trod_struct Tryz.underlying26 h;rw[vV]at q
 match J,i with
 |[G,I,K,L,F,M],_=>
  have v:DataW.trod e Tryz.prog w base c d n 3 ((cs.drop 0).take (Tryz.prog.cellsOf 3))=some G:=f 0 _ rfl;have p:DataW.trod e Tryz.prog w base c d n 3 ((cs.drop 1).take (Tryz.prog.cellsOf 3))=some I:=f 1 _ rfl;have z:DataW.trod e Tryz.prog w base c d n 3 ((cs.drop 2).take (Tryz.prog.cellsOf 3))=some K:=f 2 _ rfl;have C:DataW.trod e Tryz.prog w base c d n 9 ((cs.drop 3).take (Tryz.prog.cellsOf 9))=some L:=f 3 _ rfl;have y:DataW.trod e Tryz.prog w base c d n 9 ((cs.drop 4).take (Tryz.prog.cellsOf 9))=some F:=f 4 _ rfl;have l:DataW.trod e Tryz.prog w base c d n 9 ((cs.drop 5).take (Tryz.prog.cellsOf 9))=some M:=f 5 _ rfl;rw[cells3]at v p z;rw[js]at C y l;obtain⟨k,r,-,-⟩:=DataW.trod_int Tryz.underlying3 v;obtain⟨a,m,-,D⟩:=DataW.trod_int Tryz.underlying3 p;have N:IntKind.i64.max=9223372036854775807:=nr;simp only[Lit.wf,N,CV,BM]at D;obtain⟨b,e2,-,-⟩:=DataW.trod_int Tryz.underlying3 z;obtain⟨s,B,-,-⟩:=DataW.trod_string Tryz.underlying9 C;obtain⟨t,E,-,A⟩:=DataW.trod_string Tryz.underlying9 y;obtain⟨u,j,-,-⟩:=DataW.trod_string Tryz.underlying9 l
  match cs,q with
  |[S,O,Q,R,T,P],_=>
   simp at r m e2 B E j;subst r m e2 B E j;exact⟨⟨k,a,b,s.data.toList,t.data.toList,u.data.toList⟩,by simp only[MR,<-lg],D.2,by unfold maxLen at A;simpa using A⟩
def open_script2 {H:Type}{v:TypeId×Value->H}{W g q s a c f}{x:DataW H×List MemPlace}(h:DataW.trod v Tryz.prog W 0 g q s 22 [.slice a c f]=some x):
  ∃(l:List iR) (cs:oh),EL EO l cs/\Z l<=9223372036854775807/\(∀o∈l,o.n<=9223372036854775807/\Z o.e<=9223372036854775807)/\VR (gh0 W) st0 W (.slice a c f) (sl 0 (Z l) cs):=by
 rcases Deep.open_slice Tryz.underlying22 h with⟨u,-⟩|⟨a',len',cap',m,n,D,Pl,u,-,hl,hm,ai,-,ad⟩;simp at u;obtain⟨rfl,rfl,rfl⟩:=u;exact⟨[],[],rfl,nk,nk,VR.fold ⟨none,0,rfl,⟨AU _,λh=>AA⟩,λh=>absurd rfl h,λk G=>AA⟩⟩;simp at u;obtain⟨rfl,rfl,rfl⟩:=u;have P:c<=m:=by rw[ai];split<;>omega
 rw[vV]at ad;have M:∀i,i<c->∃o:iR,(∀r,r<6->W.cell? ((a'.add (i*6)).add r)=(MR o)[r]?)/\o.n<=9223372036854775807/\Z o.e<=9223372036854775807:=by
  intro i j;obtain⟨B,K,I⟩:=ad i AA;obtain⟨o,rfl,O⟩:=YV I;obtain⟨-,-,J⟩:=World.cells?_some K;exact⟨o,J,O⟩
 obtain⟨l,t,p⟩:=vJ c M;have z:=λi o j=>(p i o j).1;refine⟨l,l.flatMap opC,RV l,by rw[t];unfold maxLen at hm;omega,(λo L=>by obtain⟨i,j⟩:=CL L;exact (p i o j).2),VR.fold ⟨some a',f,by rw[t],⟨AA,λh=>AA⟩,λE=>?_,λk G=>AA⟩⟩;have F:0<Z l:=by
  cases l with
  |nil=>exact absurd rfl E
  |cons o r=>simp
 obtain⟨b,d,e⟩:=a';have y:=z 0 l[0] (AK F) 0 nr;have C:e=none:=by
  have:W.cell? ⟨b,d,e⟩=some (.int .i64 l[0].kind):=by simpa[Addr.add,MR]using y
  exact World.cell?_spot this
 subst C;have N:b<W.heap.size:=by
  have:W.cell? ⟨b,d,none⟩=some (.int .i64 l[0].kind):=by simpa[Addr.add,MR]using y
  unfold World.cell? at this;rcases FT b W.heap.size with h|h;exact h;simp[JD h]at this
 refine⟨b,d,rfl,vK (λ_=>N) l d λi o j r A=>?_⟩;have:=z i o j r A;rw[<-this];congr 1;unfold Addr.add;split<;>split<;>simp_all<;>omega
end Go.Proofs.YtmoeoppbmhfbpabGreatDoorJ
