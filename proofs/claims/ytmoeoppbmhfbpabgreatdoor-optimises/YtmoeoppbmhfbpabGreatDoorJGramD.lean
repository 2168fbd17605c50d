import Derived.Test.YtmoeoppbmhfbpabGreatDoorJRefJ
set_option maxHeartbeats 16000000
set_option maxRecDepth 100000
set_option linter.all false
open List renaming length->Z
namespace Go.Proofs.YtmoeoppbmhfbpabGreatDoorJ
open Go.Abs
def Kx {b:UInt8}(h:B6 b.toNat=true):97<=b.toNat/\b.toNat<=122:=by simp[B6]at h;omega
def kH {b:UInt8}(h:Bs b.toNat=true\/A6 b.toNat=true):48<=b.toNat/\b.toNat<=90/\b.toNat≠58:=by
 simp[Bs,A6]at h;omega
def I9 {c}:∀(p r:Tx) (d:Bool) (a:Tx),(∀b∈p,b.toNat≠40/\b.toNat≠41/\(b.toNat:Int)≠c)->Cd c (p++r) d a=Cd c r d (a++p):=by
 intro p;induction p with
 |nil=>intro r d a _;simp
 |cons b p f=>
  intro r d a h;obtain⟨l,j,k⟩:=h b (IL ..);rw[EW,Cd];have g:((b.toNat:Int)==40)=false:=by simp;omega
  have e2:((b.toNat:Int)==41)=false:=by simp;omega
  have i:((b.toNat:Int)==c)=false:=by simp;omega
  simp only[g,e2,i,EI,if_false,false_and];rw[f r d (a++[b]) (λx e=>h x (IM _ e))];simp
def XB {c}:∀(p r:Tx) (a:Tx),(∀b∈p,b.toNat≠41)->Cd c (p++r) true a=Cd c r true (a++p):=by
 intro p;induction p with
 |nil=>intro r a _;simp
 |cons b p d=>
  intro r a h;have f:=h b (IL ..);rw[EW,Cd];have e2:((b.toNat:Int)==41)=false:=by simp;omega
  simp only[e2,EI,if_false,ite_self,reduceCtorEq,and_false];rw[d r (a++[b]) (λx e=>h x (IM _ e))];simp
def WY {c}(r d cur):Cd c (40::r) d cur=Cd c r true (cur++[40]):=by
 rw[Cd];simp
def yY {c}(a:c≠41)(r d cur):Cd c (41::r) d cur=Cd c r false (cur++[41]):=by
 rw[Cd];simp;intro h;exact absurd h.symm a
def RZ {c}(b:c.toNat≠40)(h2:c.toNat≠41)(r cur):Cd c.toNat (c::r) false cur=cur::Cd c.toNat r false []:=by
 rw[Cd];have a:((c.toNat:Int)==40)=false:=by simp;omega
 have e2:((c.toNat:Int)==41)=false:=by simp;omega
 simp[a,e2]
def wD (c:Int)(t:Tx):Prop:=t≠[]/\∀r a,Cd c (t++r) false a=Cd c r false (a++t)
def WZ:∀(b:ol) (a:Tx),(∀t∈b,wD 44 t)->a≠[]->Cd 44 (Ch b) false a=a::b:=by
 intro b;induction b with
 |nil=>intro a _ c;simp[Ch,Cd,c]
 |cons t b f=>
  intro a h c;obtain⟨i,g⟩:=h t (IL ..);have e:Ch (t::b)=44::(t++Ch b):=by simp[Ch]
  rw[e,show (44:Int)=((44:UInt8).toNat:Int)from rfl,RZ nr nr,show ((44:UInt8).toNat:Int)=44 from rfl,g,FE,f t (λx d=>h x (IM _ d)) i]
def oF {a}(h:∀t∈a,wD 44 t):Ix (Bp a) 44=a:=by
 cases a with
 |nil=>simp[Bp,Ix,Cd]
 |cons t a=>
  obtain⟨d,c⟩:=h t (IL ..);unfold Ix Bp;rw[c,FE,WZ a t (λx b=>h x (IM _ b)) d]
def qD {t}(h:Mm t):wD 44 t:=by
 refine⟨h.1,λr a=>I9 _ _ _ _ λb c=>?_⟩;have:=kH (h.2 b c);omega
def xY {a b}(h:b∈Ch a):b=44\/∃t∈a,b∈t:=by
 unfold Ch at h;rw[EX]at h;obtain⟨t,c,d⟩:=h;rcases BD.1 d with h|h;exact .inl h;exact .inr ⟨t,c,h⟩
def xZ {a b}(h:b∈Bp a):b=44\/∃t∈a,b∈t:=by
 cases a with
 |nil=>cases h
 |cons t a=>
  unfold Bp at h;rcases AW.1 h with h|h;exact .inr ⟨t,IL ..,h⟩;rcases xY h with h|⟨u,hu,h⟩;exact .inl h;exact .inr ⟨u,IM _ hu,h⟩
def oT {a}(h:En a){b}(c:b∈Bp a.A):b.toNat=44\/(48<=b.toNat/\b.toNat<=90/\b.toNat≠58):=by
 rcases xZ c with rfl|⟨t,ht,c⟩;exact .inl rfl;exact .inr (kH ((h.2.2.2 t ht).2 b c))
def oG {c}(e:c=44\/c=46){a}(h:En a)(r cur):Cd c (Bh a++r) false cur=Cd c r false (cur++Bh a):=by
 unfold Bh;rw[CR,I9 a.B _ _ _ (λb d=>by have:=Kx (h.1.2 b d);omega),EW,WY,CR,XB (Bp a.A) _ _ (λb d=>by have:=oT h d;omega)];rw[EW,FE,yY AA];simp
def iB {c}(e:c=44\/c=46){a}(h:En a)(r cur):Cd c (Cl a++r) false cur=Cd c r false (cur++Cl a):=by
 unfold Cl;rw[CR,I9 (if a.nt=true then [33]else []) _ _ _ (λb d=>by split at d<;>simp at d;subst d;simp;omega),oG e h];simp
def jG (a):Bh a≠[]:=by unfold Bh;simp
def YB (a):Cl a≠[]:=by unfold Cl;simp[jG]
def yF {a}(h:En a):wD 44 (Cl a):=⟨YB a,λr b=>iB (.inl rfl) h r b⟩
def sL:∀(l:oq) (r c:Tx),(∀a∈l,En a)->Cd 46 (Ch (l.map Cl)++r) false c=Cd 46 r false (c++Ch (l.map Cl)):=by
 intro l;induction l with
 |nil=>intro r c _;simp[Ch]
 |cons a l g=>
  intro r c h;have e:Ch ((a::l).map Cl)=[44]++(Cl a++Ch (l.map Cl)):=by simp[Ch]
  rw[e,CR,I9 [44] _ _ _ (λb d=>by simp at d;subst d;decide),CR,iB (.inr rfl) (h a (IL ..)),g _ _ (λx f=>h x (IM _ f))];simp
def XA {x}(h:Dc x)(r cur):Cd 46 (Bz x++r) false cur=Cd 46 r false (cur++Bz x):=by
 obtain⟨k,n,i⟩:=h;unfold Bz;by_cases c:x.o=true
 rw[if_pos c,I9 (63::x.h.B) _ _ _ (λb a=>by
  rcases BD.1 a with rfl|a;decide
  have:=Kx (k.2 b a);omega)]
 obtain⟨j,m,o,d⟩:=i (nn c);rw[if_neg c];unfold D1;rw[CR,oG (.inr rfl) j];cases a:x.A with
 |nil=>simp
 |cons l f=>
  rw[a]at d;rw[if_neg nk];have e:(58::45::Bp ((l::f).map Cl))=[58,45]++(Cl l++Ch (f.map Cl)):=by simp[Bp]
  rw[e,CR,I9 [58,45] _ _ _ (λb a=>by simp at a;rcases a with rfl|rfl<;>decide),CR,iB (.inr rfl) (d l (IL ..)),sL _ _ _ (λx g=>d x (IM _ g))];simp
def O3:∀(l:n0),(∀x∈l,Dc x)->Ix (Cr l) 46=l.map Bz:=by
 intro l;induction l with
 |nil=>intro _;simp[Cr,Ix,Cd]
 |cons x l a=>
  intro h;have e:Cr (x::l)=Bz x++(46::Cr l):=by simp[Cr]
  have c:=a λy b=>h y (IM _ b);unfold Ix at*
  rw[e,XA (h x (IL ..)),show (46:Int)=((46:UInt8).toNat:Int)from rfl,RZ nr nr,show ((46:UInt8).toNat:Int)=46 from rfl,c];simp
def Tp {c}:∀(p r:Tx),(∀b∈p,(b.toNat:Int)≠c)->B7 (p++r) c=Z p+B7 r c:=by
 intro p;induction p with
 |nil=>intro r _;simp
 |cons b p a=>
  intro r h;have:=a r λx d=>h x (IM _ d);unfold B7 at*
  have e:((b.toNat:Int)==c)=false:=nn (h b (IL ..));rw[EW,List.findIdx_cons,e];simp only[cond_false,BQ];omega
def eQ {c}(r):B7 (c::r) c.toNat=0:=by unfold B7;rw[List.findIdx_cons];simp
def VQ {c}:B7 [] c=0:=rfl
def L3 {p}(h:Jy p):∃b q,p=b::q/\97<=b.toNat/\b.toNat<=122:=by
 obtain⟨c,a⟩:=h;cases p with
 |nil=>exact absurd rfl c
 |cons b q=>exact⟨b,q,rfl,Kx (a b (IL ..))⟩
def XG {a}(h:En a):Ps a.nt (Bh a)=a:=by
 have f:B7 (Bh a) 40=Z a.B:=by
  unfold Bh;rw[Tp a.B _ (λb d=>by have:=Kx (h.1.2 b d);omega),show (40:Int)=((40:UInt8).toNat:Int)from rfl,eQ];rfl
 have e:Z (Bh a)=Z a.B+1+Z (Bp a.A)+1:=by unfold Bh;simp;omega
 unfold Ps;rw[f,if_pos AA];have g:((Bh a).drop 0).take (Z a.B-0)=a.B:=by unfold Bh;simp
 have e2:((Bh a).drop (Z a.B+1)).take (Z (Bh a)-1-(Z a.B+1))=Bp a.A:=by
  rw[e];unfold Bh;rw[show a.B++40::(Bp a.A++[41])=(a.B++[40])++(Bp a.A++[41])by simp];rw[NG nk,List.drop_of_length_le nk,FE];rw[show Z a.B+1+Z (Bp a.A)+1-1-(Z a.B+1)=Z (Bp a.A) by omega];simp
 rw[g,e2,oF (λt c=>qD (h.2.2.2 t c))]
def Zm {a}(h:En a):D3 (Cl a)=a:=by
 obtain⟨b,q,f,i,g⟩:=L3 h.1;have e:=XG h;unfold D3 Cl;cases d:a.nt with
 |true=>
  have c:Pr ((if true=true then [33]else [])++Bh a)=true:=rfl;have e2:Jd ((if true=true then [33]else [])++Bh a)=Bh a:=by
   unfold Jd;rw[if_pos c];simp
  rw[c,e2,<-d,e]
 |false=>
  have c:Pr ((if false=true then [33]else [])++Bh a)=false:=by
   unfold Bh;rw[f];simp[Pr];omega
  have e2:Jd ((if false=true then [33]else [])++Bh a)=Bh a:=by
   unfold Jd;rw[if_neg (by rw[c];simp)];simp
  rw[c,e2,<-d,e]
def Q4 {a}(h:a.nt=false):Cl a=Bh a:=by unfold Cl;simp[h]
def TP {a}(h:En a):∀b∈Bh a,(b.toNat:Int)≠58:=by
 intro b c;unfold Bh at c;rcases AW.1 c with c|c;have:=Kx (h.1.2 b c);omega;rcases BD.1 c with rfl|c;decide;rcases AW.1 c with c|c;have:=oT h c;omega;simp at c;subst c;decide
def Jl {x}(h:Dc x):Ir (Bz x)=x/\Bz x≠[]/\(P5 (Bz x)=false->B7 (Bz x) 58<Z (Bz x)->B7 (Bz x) 58+2<=Z (Bz x)):=by
 obtain⟨y,u,v⟩:=h;obtain⟨b,q,C,H,G⟩:=L3 y;unfold Bz;by_cases f:x.o=true;rw[if_pos f];obtain⟨d,g,E⟩:=u f;have c:P5 (63::x.h.B)=true:=rfl;refine⟨?_,nk,λh=>by rw[c]at h;cases h⟩;unfold Ir;rw[if_pos c];unfold rE;obtain⟨k,⟨n,p,t⟩,s⟩:=x;simp at*
 simp[*];rw[if_neg f];obtain⟨d,g,E,m⟩:=v (nn f);have c:P5 (D1 x)=false:=by unfold D1 Bh;rw[C];simp[P5];omega
 cases r:x.A with
 |nil=>
  have e:D1 x=Bh x.h:=by unfold D1;rw[if_pos r];simp
  have j:B7 (D1 x) 58=Z (D1 x):=by
   have:=Tp (Bh x.h) [] (TP d);rw[EJ,VQ]at this;rw[e];omega
  refine⟨?_,by rw[e];exact jG _,λ_ h=>AA⟩;unfold Ir;rw[if_neg (by simp[c])];unfold T5;rw[j,if_neg AA];have e2:((D1 x).drop 0).take (Z (D1 x)-0)=Cl x.h:=by rw[e,Q4 g];simp
  rw[e2,Zm d];obtain⟨k,A,s⟩:=x;simp at*
  simp[*]
 |cons l F=>
  have e:D1 x=Bh x.h++(58::45::Bp (x.A.map Cl)):=by unfold D1;rw[if_neg (by rw[r];simp)]
  have j:B7 (D1 x) 58=Z (Bh x.h):=by
   have:=Tp (Bh x.h) (58::45::Bp (x.A.map Cl)) (TP d);rw[e,this,show (58:Int)=((58:UInt8).toNat:Int)from rfl,eQ];rfl
  have z:Z (D1 x)=Z (Bh x.h)+2+Z (Bp (x.A.map Cl)):=by rw[e];simp;omega
  refine⟨?_,by rw[e];simp,λ_ _=>AA⟩;unfold Ir;rw[if_neg (by simp[c])];unfold T5;rw[j,if_pos AA];have e2:((D1 x).drop 0).take (Z (Bh x.h)-0)=Cl x.h:=by rw[e,Q4 g];simp
  have B:((D1 x).drop (Z (Bh x.h)+2)).take (Z (D1 x)-(Z (Bh x.h)+2))=Bp (x.A.map Cl):=by
   rw[z,e,show Bh x.h++(58::45::Bp (x.A.map Cl))=(Bh x.h++[58,45])++Bp (x.A.map Cl)by simp];rw[NG nk,List.drop_of_length_le nk,FE];exact FZ AA
  rw[e2,B,Zm d,oF (λt o=>by
   rw[AN]at o;obtain⟨a,i,rfl⟩:=o
   exact yF (m a i))]
  have D:(x.A.map Cl).map D3=x.A:=by
   rw[BH]
   conv=>rhs;rw[<-IE x.A]
   exact CG λa i=>Zm (m a i)
  rw[D];obtain⟨k,A,s⟩:=x;simp at*
  simp[*]
def Ep {s l r}(k:Z s<=1000)(h:Cc 16 s= .got l r):nV s/\Bl s=l/\Z l<=16/\∀x∈l,Dc x:=by
 obtain⟨e,m,f,a⟩:=Ka _ _ _ _ h;have b:=O3 l a;refine⟨⟨?_,?_⟩,?_,f,a⟩;rw[e,b];simpa using f;intro t d;have j:=L6 d;rw[e,b,AN]at d;obtain⟨x,c,rfl⟩:=d;obtain⟨n,g,i⟩:=Jl (a x c);exact⟨AA,g,i⟩;unfold Bl;rw[e,b,BH]
 conv=>rhs;rw[<-IE l]
 exact CG λx c=>(Jl (a x c)).1
inductive Way {α:Type}(E:α->α->Prop):α->α->Prop
 |one {a b:α}:E a b->Way E a b
 |more {a b c:α}:E a b->Way E b c->Way E a c
def Way.join {α:Type}{E:α->α->Prop}{a b c}(h:Way E a b)(k:Way E b c):Way E a c:=by
 induction h with
 |one e=>exact .more e k
 |more e _ d=>exact .more e (d k)
def NA (n:Nat)(M:Nat->Nat->Bool):Prop:=∀a b,M a b=true->a<n/\b<n
def jm {n M}(r:NA n M):∀(m:Nat),m<=n->NA n (F9 n M m)/\(∀a b,M a b=true->F9 n M m a b=true)/\(∀a b,F9 n M m a b=true->Way (λa b=>M a b=true) a b)/\
  (∀a b c,b<m->F9 n M m a b=true->F9 n M m b c=true->F9 n M m a c=true):=by
 intro m;induction m with
 |zero=>intro _;exact⟨r,λ_ _ h=>h,λ_ _ h=>.one h,λ_ _ _ h=>AA⟩
 |succ m q=>
  intro x;obtain⟨j,s,l,o⟩:=q AA;have e:∀a b,F9 n M (m+1) a b=true↔F9 n M m a b=true\/(F9 n M m a m=true/\F9 n M m m b=true):=by
   intro a b;show NV n (F9 n M m) m a b=true↔_;unfold NV fw;split;simp;rename_i u;constructor;exact .inl;rintro (h|⟨d,g⟩);exact h;exact absurd ⟨(j _ _ d).1,(j _ _ g).2⟩ u
  refine⟨?_,?_,?_,?_⟩;intro a b h;rcases (e a b).1 h with h|⟨d,g⟩;exact j _ _ h;exact⟨(j _ _ d).1,(j _ _ g).2⟩;intro a b h;exact (e a b).2 (.inl (s _ _ h));intro a b h;rcases (e a b).1 h with h|⟨d,g⟩;exact l _ _ h;exact (l _ _ d).join (l _ _ g);intro a b c g f i;rw[e]at f i⊢;by_cases v:b=m;subst v;have t:F9 n M b a b=true:=by rcases f with h|⟨h,_⟩<;>exact h
  have p:F9 n M b b c=true:=by rcases i with h|⟨_,h⟩<;>exact h
  exact .inr ⟨t,p⟩;have k:b<m:=AA;rcases f with f|⟨d,af⟩<;>rcases i with i|⟨ae,hc⟩;exact .inl (o _ _ _ k f i);exact .inr ⟨o _ _ _ k f ae,hc⟩;exact .inr ⟨d,o _ _ _ k af i⟩;exact .inr ⟨d,hc⟩
def gR {n M}(d:NA n M)(a b):F9 n M n a b=true↔Way (λa b=>M a b=true) a b:=by
 obtain⟨j,c,g,i⟩:=jm d n (AU _);refine⟨g a b,λh=>?_⟩;induction h with
 |one e=>exact c _ _ e
 |more e _ f=>exact i _ _ _ (d _ _ e).2 (c _ _ e) f
def iY (l i k):aK l i k=true↔Way (λa b=>Ny l a b=true) i k:=by
 have c:∀a b,Ny l a b=true->a<Z l/\b<Z l:=by
  intro a b h;unfold Ny at h;split at h;rename_i x y f j;exact⟨(BA.1 f).1,(BA.1 j).1⟩;cases h
 have e:(λa b=>if a<Z l/\b<Z l then Ny l a b else false)=Ny l:=by
  funext a b;split;rfl;rename_i g;cases d:Ny l a b with
  |false=>rfl
  |true=>exact absurd (c a b d) g
 unfold aK;rw[e];exact gR c i k
def Gs (l:n0)(p q:Tx):Prop:=∃x∈l,x.h.B=p/\∃a∈x.A,a.B=q
def CO {l i k}:Ny l i k=true↔∃x y,l[i]?=some x/\l[k]?=some y/\y.o=false/\∃a∈x.A,a.B=y.h.B:=by
 unfold Ny;constructor;intro h;split at h;rename_i x y b c;refine⟨x,y,b,c,?_⟩;simp at h;exact h;cases h;rintro⟨x,y,b,c,d,a,e,f⟩;rw[b,c];simp only[d,JX,FV];exact CU.2 ⟨a,e,by simp[f]⟩
def wL {l i k}(h:Way (λa b=>Ny l a b=true) i k):∃x y,l[i]?=some x/\l[k]?=some y/\y.o=false/\Way (Gs l) x.h.B y.h.B:=by
 induction h with
 |one e=>
  obtain⟨x,y,c,d,m,a,f,g⟩:=CO.1 e;exact⟨x,y,c,d,m,.one ⟨x,AY c,rfl,a,f,g⟩⟩
 |more e _ n=>
  obtain⟨x,y,c,d,m,a,f,g⟩:=CO.1 e;obtain⟨r,z,j,o,p,q⟩:=n;rw[d]at j;cases j;exact⟨x,z,c,o,p,.more ⟨x,AY c,rfl,a,f,g⟩ q⟩
def wM {l}(E:∀x∈l,x.o=true->x.A=[]){p q}(h:Way (Gs l) p q):∀(k:Nat) (y:AB),l[k]?=some y->y.o=false->y.h.B=q->∃(i:Nat) (x:AB),l[i]?=some x/\x.h.B=p/\Way (λa b=>Ny l a b=true) i k:=by
 induction h with
 |one e=>
  intro k y o t m;obtain⟨x,n,s,a,c,r⟩:=e;obtain⟨i,d⟩:=CL n;exact⟨i,x,d,s,.one (CO.2 ⟨x,y,d,o,t,a,c,by rw[r,m]⟩)⟩
 |more e _ B=>
  intro k y o t m;obtain⟨x,n,s,a,c,r⟩:=e;obtain⟨i,d⟩:=CL n;obtain⟨j,z,g,C,v⟩:=B k y o t m;have D:z.o=false:=by
   have F:z.A≠[]:=by
    cases v with
    |one e=>
     obtain⟨A,_,f,_,_,a,c,_⟩:=CO.1 e;rw[g]at f;cases f;intro u;rw[u]at c;cases c
    |more e _=>
     obtain⟨A,_,f,_,_,a,c,_⟩:=CO.1 e;rw[g]at f;cases f;intro u;rw[u]at c;cases c
   cases G:z.o with
   |false=>rfl
   |true=>exact absurd (E z (AY g) G) F
  exact⟨i,x,d,s,.more (CO.2 ⟨x,z,d,g,D,a,c,by rw[r,C]⟩) v⟩
def Ks {l}(j:∀x∈l,x.o=true->x.A=[]){p q}(g:∃y∈l,y.o=false/\y.h.B=q):J2 l p q=true↔Way (Gs l) p q:=by
 unfold J2;constructor;intro h;rw[CU]at h;obtain⟨i,-,h⟩:=h;rw[CU]at h;obtain⟨k,-,h⟩:=h;unfold rZ at h;simp only[BM,DO]at h;obtain⟨⟨e,a⟩,b⟩:=h;obtain⟨x,y,m,c,_,n⟩:=wL ((iY l i k).1 e);unfold Kl at a b;rw[m]at a;rw[c]at b;rw[<-a,<-b];exact n;intro h;obtain⟨y,c,e,a⟩:=g;obtain⟨k,d⟩:=CL c;obtain⟨i,x,f,b,o⟩:=wM j h k y d e a;rw[CU];refine⟨i,nn ((BA.1 f).1),?_⟩;rw[CU];refine⟨k,nn ((BA.1 d).1),?_⟩;unfold rZ Kl;rw[(iY l i k).2 o,f,d];simp[a,b]
def Rw (c σ):ni 214 [sc (.int .u8 c)] σ λx σ'=>x=my (B6 c)/\σ'=σ:=by
 refine Z9 9 [.tmp 2] Tryz.func214 ?_;refine m6 ?_ ?_<;>intro h a
 all_goals exact⟨_,rfl,by simp[B6, *]⟩
def Hf (c σ):ni 248 [sc (.int .u8 c)] σ λx σ'=>x=my (Bs c)/\σ'=σ:=by
 refine Z9 9 [.tmp 2] Tryz.func248 ?_;refine m6 ?_ ?_<;>intro h a
 all_goals exact⟨_,rfl,by simp[Bs, *]⟩
def He (c σ):ni 249 [sc (.int .u8 c)] σ λx σ'=>x=my (A6 c)/\σ'=σ:=by
 refine Z9 9 [.tmp 2] Tryz.func249 ?_;refine m6 ?_ ?_<;>intro h a
 all_goals exact⟨_,rfl,by simp[A6, *]⟩
def dO (t:Tx)(k:Nat)(a:AV):oh:=[str t,ic k,a]
def takeB (t:Tx)(k:Nat)(c:Int):Bool:=match t[k]? with|some b=>(b.toNat:Int)==c|none=>false
def takeN (t:Tx)(k:Nat)(c:Int):Nat:=if takeB t k c=true then k+1 else k
def wY (t k o nm c)(l:Z t<=1000)(g:k<=Z t)(σ)(f:σ.C o=dO t k nm)(j:o<σ.B):ni 132 [ptr o 0,sc (.int .u8 c)] σ λx σ'=>x=my (takeB t k c)/\AQ o σ σ'/\σ'.C o=dO t (takeN t k c) nm:=by
 unfold dO at*
 refine Z9 35 [.tmp 4] Tryz.func132 ?_;refine mr ?_;refine Ax Ag (λ_=>True) [22] [0,1,2,3,4,5,6,7,8,9,10,11,12,13,14,15,16,17,18,19,20,21] [22] AH (λ_ _ _ h=>h) ?_;intro yb ya;by_cases e:k<Z t;have d:=AK e;generalize t[k]=b at d;refine Z3 ?_;refine m6 ?_ ?_<;>intro h i;have a:takeB t k c=false:=by simp[takeB,d];simpa using h
 exact⟨_,rfl,by rw[a],AQ.refl _ _,by simp[takeN,a]⟩;have a:takeB t k c=true:=by simp[takeB,d];simpa using h
 exact⟨_,rfl,by rw[a],(AQ.refl _ _).put _,by simp[takeN,a]⟩;have d:t[k]?=none:=by simp;omega
 refine Z3 ?_;refine mr ?_;have a:takeB t k c=false:=by simp[takeB,d]
 exact⟨_,rfl,by rw[a],AQ.refl _ _,by simp[takeN,a]⟩
def Pk (t s:Tx)(a:AV):oh:=dO t (Z t-Z s) a
def Rc {t s:Tx}(h:s<:+t):t[Z t-Z s]?=s.head?:=by
 obtain⟨p,rfl⟩:=h;rw[AX,Nat.add_sub_cancel,JY (AU _),GX];cases s<;>rfl
def S5 {t s:Tx}{b}(h:(b::s)<:+t):s<:+t:=(List.suffix_cons b s).trans h
def Je {t s:Tx}(h:s<:+t):Z s<=Z t:=h.length_le
def S4 (t s o nm c)(m:Z t<=1000)(g:s<:+t)(σ)(l:σ.C o=Pk t s nm)(n:o<σ.B):
  ni 132 [ptr o 0,sc (.int .u8 c)] σ λx σ'=>AQ o σ σ'/\match A5 c s with
   |.got _ r=>x=my true/\σ'.C o=Pk t r nm/\r<:+t
   |.bad e=>x=my false/\σ'.C o=Pk t s nm/\e=s:=by
 have p:=Je g;refine AF.mono (wY t _ o nm c m AA σ l n) ?_;rintro x σ' ⟨rfl,k,f⟩;refine⟨k,?_⟩;have i:=Rc g;cases s with
 |nil=>
  have a:takeB t (Z t-Z ([]:Tx)) c=false:=by unfold takeB;rw[i];rfl
  refine⟨by rw[a],?_,rfl⟩;rw[f,takeN,a];rfl
 |cons b r=>
  have a:takeB t (Z t-Z (b::r)) c=((b.toNat:Int)==c):=by unfold takeB;rw[i];rfl
  unfold A5;by_cases d:((b.toNat:Int)==c)=true;rw[d]at a;simp only[d,if_true];refine⟨by rw[a],?_,S5 g⟩;rw[f,takeN,a,Pk];simp only[if_true,BQ]at*
  rw[show Z t-(Z r+1)+1=Z t-Z r by omega];have j:((b.toNat:Int)==c)=false:=nn d;rw[j]at a;simp only[j,EI,if_false];refine⟨by rw[a],?_,trivial⟩;rw[f,takeN,a];rfl
def Iw (a:Tx):Int:=a.foldl (λv b=>v*10+((b.toNat:Int)-48)) 0
def Oo (ds b):Iw (ds++[b])=Iw ds*10+((b.toNat:Int)-48):=by simp[Iw]
def NB (s a q:Tx):Prop:=Z a<=3/\Ay A6 3 s=(a++(Ay A6 (3-Z a) q).1,(Ay A6 (3-Z a) q).2)/\0<=Iw a/\(Z a=0->Iw a=0)/\(Z a=1->Iw a<=9)/\(Z a=2->Iw a<=99)
def WW (s):NB s [] s:=⟨nk,nk,by simp[Iw],by simp[Iw],nk,nk⟩
def yW {s a q b}(h:NB s a (b::q))(k:Z a<3)(d:A6 b.toNat=true):NB s (a++[b]) q:=by
 obtain⟨n,f,m,i,g,l⟩:=h;have j:48<=b.toNat/\b.toNat<=57:=by simp[A6]at d;omega
 have e:3-Z a=(3-Z (a++[b]))+1:=by simp;omega
 rw[e,Ay,if_pos d]at f;refine⟨by simp;omega,by rw[f];simp,?_,nk,?_,?_⟩;rw[Oo];omega;intro c;rw[Oo];have:=i (by simp at c;simp[c]);omega;intro c;rw[Oo];have:=g (by simp at c;omega);omega
def Y9 {s a q}(h:NB s a q)(c:Z a=3\/q=[]\/∃b r,q=b::r/\A6 b.toNat=false):Ay A6 3 s=(a,q):=by
 obtain⟨f,d,-⟩:=h;rw[d];rcases c with c|rfl|⟨b,r,rfl,hb⟩;rw[c];simp[Ay];cases e:3-Z a<;>simp[Ay];cases e:3-Z a<;>simp[Ay,hb]
def Ur (t s o nm)(K:Z t<=1000)(y:s<:+t)(σ)(A:σ.C o=Pk t s nm)(F:o<σ.B)(l:∀b r,s=b::r->((b.toNat:Int)==48)=false):
  ni 250 [ptr o 0] σ λx σ'=>AQ o σ σ'/\∃q,σ'.C o=Pk t q nm/\q<:+t/\q=(Ay A6 3 s).2/\x=ic (Iw (Ay A6 3 s).1):=by
 have E:A5 48 s= .bad s:=by
  cases s with
  |nil=>rfl
  |cons b r=>unfold A5;simp only[l b r rfl];simp
 have i:=S4 t s o nm 48 K y σ A F;rw[E]at i;refine Z9 57 [.tmp 2] Tryz.func250 ?_;refine m0 ?_;intro yb ya;refine Xi (i) ?_;rintro _ _ ⟨k,rfl,n,-⟩;refine mr ?_;rename_i g;have v:o<g.B:=BZ F k.B;clear i E A
 refine Ae (λm f σ'=>∃(q a:Tx),m=3-Z a/\f 0=ptr o 0/\f 3=ic (Iw a)/\f 4=ic (Z a)/\AQ o σ σ'/\σ'.C o=Pk t q nm/\o<σ'.B/\q<:+t/\AC (NB s a q)) 3
  ⟨s,[],rfl,rfl,rfl,rfl,k,n,v,y,WW s⟩ ?_
 rintro m f σ' ⟨q,a,rfl,R,P,U,J,j,T,d,e⟩;clear k n v;have C:=Je d;have G:=Rc d;have H:=e.o;obtain⟨N,-,Q,z,B,D⟩:=H;unfold Pk dO at j;refine mr ?_;refine Ax Ag (λ_=>True) [25] [0,1,2,3,4,5,6,7,8,9,10,11,12,13,14,15,16,17,18,19,20,21,22,23] [24,25] AH (λ_ _ _ h=>h) ?_;intro yb ya;cases q with
 |nil=>
  simp only[CQ,PH]at j G C;refine Z3 ?_;refine mr ?_
  all_goals
   have c:=Y9 e.o (.inr (.inl rfl));exact⟨_,rfl,[],by simp[Pk,dO],d,by rw[c],by rw[c]⟩
 |cons b r=>
  simp only[BQ,List.head?_cons]at j G C;have I:=S5 d;refine Z3 ?_;have p:A6 b.toNat=true->48<=(b.toNat:Int)/\(b.toNat:Int)<=57:=λh=>by simp[A6]at h;omega
  repeat' first|refine Z1 ?_|refine Z8 λyb ya=>?_|refine Z4 ?_;clear ya yb|refine Z2 ?_ ?_<;>intro h S<;>try exact Xp|refine Z5 ?_;refine Xi (He _ _) ?_;rintro _ _ ⟨rfl,rfl⟩|refine Z3 ?_|exact Zt|apply ya.o;clear ya yb
  all_goals
   first
   |(have c:=Y9 e.o (.inr (.inr ⟨b,r,rfl,nu⟩))
     exact⟨_,rfl,b::r,by simp[Pk,dO],d,by rw[c],by rw[c]⟩)
   |(have c:=Y9 e.o (.inl AA)
     exact⟨_,rfl,b::r,by simp[Pk,dO],d,by rw[c],by rw[c]⟩)
   |skip
  have u:A6 b.toNat=true:=nu;have p:=p u;have M:Z a<3:=AA;have O:Iw a<=99:=by
   have:Z a=0\/Z a=1\/Z a=2:=AA;rcases this with h|h|h
   ·have:=z h;omega
   ·have:=B h;omega
   exact D h
  clear z B D;refine Ax Ag (λ_=>True) [14] [0,1,2,3,4,5,6,7,8,9,10,11,12,13] [14] AH (λ_ _ _ h=>h) ?_;intro yb ya;refine Z3 ?_;refine mr ?_;have L:IntKind.i64.wrap (Iw a*10+IntKind.i64.wrap (IntKind.u8.wrap ((b.toNat:Int)-48)))=Iw (a++[b]):=by
   rw[Abs.u8w AA AA,show IntKind.i64.wrap ((b.toNat:Int)-48)=(b.toNat:Int)-48 from Abs.i64w AA AA,Abs.i64w AA AA,Oo]
  rw[L];refine⟨3-Z (a++[b]),by simp;omega,r,a++[b],rfl,rfl,nk,J.put _,?_,I,yW e.o M u⟩;unfold Pk dO;rw[show ((Z t-(Z r+1):Nat):Int)+1=((Z t-Z r:Nat):Int)by omega]
variable {Bd:Nat}
namespace Rd
def ok {α:Type}:Rd α->Bool
 |.bad _=>false
 |.got _ _=>true
def rest {α:Type}:Rd α->Tx
 |.bad e=>e
 |.got _ r=>r
def Val {α:Type}:Rd α->(α->Prop)->Prop
 |.bad _,_=>True
 |.got a _,P=>P a
def ok_true {α:Type}{x:Rd α}(h:x.ok=true):∃a r,x= .got a r:=by
 cases x with
 |bad e=>cases h
 |got a r=>exact⟨a,r,rfl⟩
def ok_false {α:Type}{x:Rd α}(h:x.ok=false):∃e,x= .bad e:=by
 cases x with
 |bad e=>exact⟨e,rfl⟩
 |got a r=>cases h
def Gy {α b c:Type}(x:Rd α)(f)(g:b->Tx->Rd c):(x.bnd f).bnd g=x.bnd λa r=>(f a r).bnd g:=by cases x<;>rfl
def Val.mono {α:Type}{x:Rd α}{P Q}(h:Val x P)(k:∀a,P a->Q a):Val x Q:=by
 cases x with
 |bad e=>trivial
 |got a r=>exact k a h
end Rd
def Uu {α:Type}(f:Tx->Rd α)(n:Nat)(s:Tx):Rd (List α):=(f s).bnd λx r=>(D9 f n r).bnd λa r=>.got (x::a) r
def CZ {α:Type}(f:Tx->Rd α)(n:Nat)(s:Tx)(xs:List α)(q:Tx):Prop:=
 Z xs<=n+1/\0<Z xs/\Uu f n s=(D9 f (n+1-Z xs) q).bnd λa r=>.got (xs++a) r
def CZ.first {α:Type}{f:Tx->Rd α}{n s r x}(h:f s= .got x r):CZ f n s [x] r:=by
 refine⟨nk,nk,?_⟩;unfold Uu;rw[h];simp only[Rd.bnd,List.length_singleton,Nat.add_sub_cancel,List.singleton_append]
def CZ.none {α:Type}{f:Tx->Rd α}{n s e}(h:f s= .bad e):Uu f n s= .bad e:=by
 unfold Uu;rw[h];rfl
def CZ.full {α:Type}{f:Tx->Rd α}{n s q xs}(h:CZ f n s xs q)(a:n+1<=Z xs):Uu f n s= .got xs q:=by
 rw[h.2.2,show n+1-Z xs=0 by omega];simp[D9,Rd.bnd]
def CZ.stop {α:Type}{f:Tx->Rd α}{n s q xs}(h:CZ f n s xs q)(a:(A5 44 q).ok=false):Uu f n s= .got xs q:=by
 rw[h.2.2];cases e:n+1-Z xs with
 |zero=>simp[D9,Rd.bnd]
 |succ k=>
  cases q with
  |nil=>simp[D9,Rd.bnd]
  |cons b r=>
   unfold A5 at a;dsimp only at a;have d:((b.toNat:Int)==44)=false:=by
    by_cases c:((b.toNat:Int)==44)=true;rw[if_pos c]at a;cases a;simpa using c
   unfold D9;rw[if_neg (by rw[d];simp)];simp[Rd.bnd]
def CZ.fail {α:Type}{f:Tx->Rd α}{n s q r e xs u}(h:CZ f n s xs q)(i:Z xs<n+1)(a:A5 44 q= .got u r)(d:f r= .bad e):Uu f n s= .bad e:=by
 rw[h.2.2];obtain⟨k,g⟩:∃k,n+1-Z xs=k+1:=⟨n-Z xs,by omega⟩;rw[g];cases q with
 |nil=>cases a
 |cons b q=>
  unfold A5 at a;dsimp only at a;by_cases c:((b.toNat:Int)==44)=true;rw[if_pos c]at a;cases a;rw[D9,if_pos c,d];rfl;rw[if_neg c]at a;cases a
def CZ.next {α:Type}{f:Tx->Rd α}{n s q r d xs u x}(h:CZ f n s xs q)(i:Z xs<n+1)(a:A5 44 q= .got u r)(e:f r= .got x d):CZ f n s (xs++[x]) d:=by
 refine⟨by simp;omega,nk,?_⟩;rw[h.2.2];obtain⟨k,g⟩:∃k,n+1-Z xs=k+1:=⟨n-Z xs,by omega⟩;rw[g,show n+1-Z (xs++[x])=k by simp;omega];cases q with
 |nil=>cases a
 |cons b q=>
  unfold A5 at a;dsimp only at a;by_cases c:((b.toNat:Int)==44)=true;rw[if_pos c]at a;cases a;rw[D9,if_pos c,e];simp only[Rd.bnd];cases D9 f k d<;>simp[Rd.bnd];rw[if_neg c]at a;cases a
structure An (o id:Nat)(σ σ':St):Prop where
 B:σ.B<=σ'.B
 C:∀p,p<σ.B->p≠o->σ'.C p=σ.C p
 ver:∀p,p<σ.B->p≠o->σ'.ver p=σ.ver p
 D:σ.D<=σ'.D
 top:∀k,k<σ.D->k+2≠id->σ'.top k=σ.top k
def An.refl (o id σ):An o id σ σ:=⟨Nat.le_refl _,λ_ _ _=>rfl,λ_ _ _=>rfl,Nat.le_refl _,λ_ _ _=>rfl⟩
def AQ.kr {o a σ'}(h:AQ o a σ')(id):An o id a σ':=⟨h.B,h.C,h.ver,h.D,λk b _=>h.top k b⟩
def AD.kr {b σ'}(h:AD b σ')(o id):An o id b σ':=⟨h.B,λp a _=>h.C p a,λp a _=>h.ver p a,h.D,λk c _=>h.top k c⟩
def An.trans {o id id' a b c}(h:An o id a b)(g:id'=id\/a.D+2<=id')(k:An o id' b c):An o id a c:=
 ⟨Nat.le_trans h.B k.B,λp e d=>(k.C p (Nat.lt_of_lt_of_le e h.B) d).trans (h.C p e d),λp e d=>(k.ver p (Nat.lt_of_lt_of_le e h.B) d).trans (h.ver p e d),
  Nat.le_trans h.D k.D,λj f d=>(k.top j (Nat.lt_of_lt_of_le f h.D) (by omega)).trans (h.top j f d)⟩
def An.put {o id c σ'}(h:An o id c σ')(cs):An o id c (σ'.put o cs):=
 ⟨h.B,λp b a=>by simp[St.put,a];exact h.C p b a,λp b a=>by simp[St.put,a];exact h.ver p b a,h.D,h.top⟩
def An.lay {o id a b}(h:An o id a b)(n):An o id a (b.lay n):=by
 have:=h.D;exact⟨h.B,h.C,h.ver,by simp[St.lay];omega,λk c d=>by simp[St.lay];rw[if_neg (by omega)];exact h.top k c d⟩
def An.new {o id a b}(h:An o id a b)(cs):An o id a (b.new cs):=by
 have:=h.B;exact⟨by simp[St.new];omega,λp c d=>by simp[St.new];rw[if_neg (by omega)];exact h.C p c d,h.ver,h.D,h.top⟩
def An.raise {o id a b}(h:An o id a b){k}(e:a.D<=k\/k+2=id)(n):An o id a (b.raise k n):=
 ⟨h.B,h.C,h.ver,h.D,λj d c=>by simp[St.raise];rw[if_neg (by omega)];exact h.top j d c⟩
def An.keep {o id a b c}(h:AD a b)(k:An o id b c)(f:a.B<=o)(g:id<2\/a.D+2<=id):AD a c:=
 ⟨Nat.le_trans h.B k.B,λp d=>(k.C p (Nat.lt_of_lt_of_le d h.B) (by omega)).trans (h.C p d),λp d=>(k.ver p (Nat.lt_of_lt_of_le d h.B) (by omega)).trans (h.ver p d),
  Nat.le_trans h.D k.D,λj e=>(k.top j (Nat.lt_of_lt_of_le e h.D) (by omega)).trans (h.top j e)⟩
def DL (a:St)(id n:Nat):Prop:=(id=1/\n=0)\/∃k,id=k+2/\k<a.D/\a.top k=n/\0<n
def DL.keepX {o a σ' id n}(h:DL a id n)(k:AQ o a σ'):DL σ' id n:=by
 rcases h with h|⟨j,h1,h3,h4,h5⟩;exact .inl h;exact .inr ⟨j,h1,Nat.lt_of_lt_of_le h3 k.D,(k.top j h3).trans h4,h5⟩
def Own.keepR {o idn σ0 a σ' id n}(h:Own σ0 a id n)(k:An o idn a σ')(b:id=1\/id≠idn):Own σ0 σ' id n:=by
 rcases h with h|⟨j,h1,h2,h3,h4,h5⟩;exact .inl h;exact .inr ⟨j,h1,h2,Nat.lt_of_lt_of_le h3 k.D,(k.top j h3 (by omega)).trans h4,h5⟩
def DL.keepR {o idn a σ' id n}(h:DL a id n)(k:An o idn a σ')(b:id=1\/id≠idn):DL σ' id n:=by
 rcases h with h|⟨j,h1,h3,h4,h5⟩;exact .inl h;exact .inr ⟨j,h1,Nat.lt_of_lt_of_le h3 k.D,(k.top j h3 (by omega)).trans h4,h5⟩
def Ve {a:St}{n k}(h:k<a.D):(a.lay n).top k=a.top k:=by simp[St.lay];intro e;omega
def xH {a:St}{n k j}(h:j≠k):(a.raise k n).top j=a.top j:=by simp[St.raise,h]
def Tw {P t z b q σ0 a o idn id i n m c xs d K}(y:P0 P t=some (z,b,q))(f:An o idn σ0 a)(s:Own σ0 a id n)
  (u:0<z) (e:Z q=z) (l:Z xs=n*z) (x:Z d=m*z) (A:d.all flat=true) (p:0<m) (B:(n+m)*b<=140737488355328) (v:n+m<=1099511627776)
  (h:∀id' σ',Own σ0 σ' id' (n+m)->An o idn σ0 σ'->σ'.C=a.C->σ'.B=a.B->σ'.ver=a.ver->a.D<σ'.D->(∀k,k<a.D->k+2≠id->σ'.top k=a.top k)->(id'=id\/a.D+2<=id')->K (sl id' (n+m) (xs++d)) σ'):Jx P t t (sl id n xs) (sl i m d) (a.lay c) K:=by
 unfold Jx iK;left;simp only[y];rw[if_pos ⟨trivial,u,e,l,x,A,p,B,v⟩];rcases s with⟨rfl,rfl⟩|⟨k,rfl,h2,h3,h4,h5⟩;have C:xs=[]:=List.eq_nil_of_length_eq_zero (nn l);subst C;have E:=f.D
 have:=h ((a.lay c).D+2) ((a.lay c).lay m) (by rw[Nat.zero_add];exact .inr ⟨(a.lay c).D,rfl,by simp[St.lay];omega,by simp[St.lay],by simp[St.lay],p⟩) ((f.lay c).lay m) rfl rfl rfl (by simp[St.lay];omega)
  (λj g _=>by rw[Ve (by rw[La];omega),Ve g]) (by rw[La];omega)
 simpa using this;have r:(a.lay c).top k=n:=by simp[St.lay];rw[if_neg (by omega)];exact h4
 simp only;rw[if_pos ⟨r,h5⟩]
 exact h (k+2) _ (.inr ⟨k,rfl,h2,by simp[St.raise,St.lay];omega,by simp[St.raise],by omega⟩) ((f.lay c).raise (.inl h2) _) rfl rfl rfl (by simp[St.raise,St.lay])
  (λj g D=>by rw[xH (by omega),Ve g]) (.inl rfl)
def tA {P t z b j}{σ0 a:St}{o id f n m c xs d K}(v:P0 P t=some (z,b,j))(q:DL a id n)
  (r:0<z) (e:Z j=z) (g:Z xs=n*z) (u:Z d=m*z) (x:d.all flat=true) (i:0<m) (y:(n+m)*b<=140737488355328) (s:n+m<=1099511627776)
  (h:∀id' σ',DL σ' id' (n+m)->An o id a σ'->σ'.C=a.C->σ'.B=a.B->σ'.ver=a.ver->(id'=id\/a.D+2<=id')->K (sl id' (n+m) (xs++d)) σ'):Jx P t t (sl id n xs) (sl f m d) (a.lay c) K:=by
 unfold Jx iK;left;simp only[v];rw[if_pos ⟨trivial,r,e,g,u,x,i,y,s⟩];have l:=An.refl o id a;rcases q with⟨rfl,rfl⟩|⟨k,rfl,h3,h4,h5⟩;have A:xs=[]:=List.eq_nil_of_length_eq_zero (nn g);subst A;have:=h ((a.lay c).D+2) ((a.lay c).lay m) (by rw[Nat.zero_add];exact .inr ⟨(a.lay c).D,rfl,by simp[St.lay],by simp[St.lay],i⟩) ((l.lay c).lay m) rfl rfl rfl (by rw[La];omega);simpa using this;have p:(a.lay c).top k=n:=by simp[St.lay];rw[if_neg (by omega)];exact h4
 simp only;rw[if_pos ⟨p,h5⟩];exact h (k+2) _ (.inr ⟨k,rfl,by simp[St.raise,St.lay];omega,by simp[St.raise],by omega⟩) ((l.lay c).raise (.inr rfl) _) rfl rfl rfl (.inl rfl)
structure RS (Bd:Nat)(t:Tx)(o:Nat)(N:ol)(id:Nat)(s:Tx)(σ:St):Prop where
 C:σ.C o=Pk t s (sl id (Z N) (N.map str))
 lt:o<σ.B
 own:DL σ id (Z N)
 suf:s<:+t
 len:Z N+Z s<=Bd+Z t/\Bd<=1000
structure Rs (o:Nat)(σ:St)(id:Nat)(σ':St)(id':Nat):Prop where
 keep:An o id σ σ'
 nid:id'=id\/σ.D+2<=id'
def Rs.refl (o σ id):Rs o σ id σ id:=⟨An.refl _ _ _,.inl rfl⟩
def Rs.trans {o a b c i j k}(h:Rs o a i b j)(g:Rs o b j c k):Rs o a i c k:=
 ⟨h.keep.trans h.nid g.keep,by have:=h.keep.D;rcases h.nid with e|e<;>rcases g.nid with d|d<;>omega⟩
def Rs.ofX {o a b i}(h:AQ o a b):Rs o a i b i:=⟨h.kr i,.inl rfl⟩
def RS.stepX {t o N id s r a σ'}(h:RS Bd t o N id s a)(k:AQ o a σ')(b:σ'.C o=Pk t r (sl id (Z N) (N.map str)))(c:r<:+t)(d:Z r<=Z s):RS Bd t o N id r σ':=
 ⟨b,Nat.lt_of_lt_of_le h.lt k.B,h.own.keepX k,c,by have:=h.len;omega⟩
def rC (c s):(A5 c s).rest<:+s:=by
 cases s with
 |nil=>exact List.suffix_refl _
 |cons b r=>
  unfold A5;dsimp only;split;exact List.suffix_cons b r;exact List.suffix_refl _
def Kf {t o N id s c b}(l:Z t<=1000)(h:RS Bd t o N id s b):
  ni 132 [ptr o 0,sc (.int .u8 c)] b λx σ'=>x=my ((A5 c s).ok)/\AQ o b σ'/\RS Bd t o N id (A5 c s).rest σ':=by
 refine AF.mono (S4 t s o _ c l h.suf b h.C h.lt) ?_;rintro x σ' ⟨a,g⟩;have d:=rC c s;have f:=d.length_le;have i:=d.trans h.suf;cases k:A5 c s with
 |bad e=>
  rw[k]at g d f i;obtain⟨rfl,j,rfl⟩:=g;exact⟨rfl,a,h.stepX a j i f⟩
 |got u r=>
  rw[k]at g d f i;obtain⟨rfl,j,-⟩:=g;exact⟨rfl,a,h.stepX a j i f⟩
variable {Bd:Nat}
def AQ.new {o a σ'}(h:AQ o a σ')(cs):AQ o a (σ'.new cs):=by
 have:=h.B;exact⟨by simp[St.new];omega,λp c b=>by simp[St.new];rw[if_neg (by omega)];exact h.C p c b,h.ver,h.D,h.top⟩
def AQ.putN {o p b σ'}(h:AQ o b σ')(d:b.B<=p)(cs):AQ o b (σ'.put p cs):=
 ⟨h.B,λq a c=>by simp[St.put];rw[if_neg (by omega)];exact h.C q a c,λq a c=>by simp[St.put];rw[if_neg (by omega)];exact h.ver q a c,h.D,h.top⟩
def AQ.lay {o a b}(h:AQ o a b)(n):AQ o a (b.lay n):=by
 have:=h.D;exact⟨h.B,h.C,h.ver,by simp[St.lay];omega,λk c=>by simp[St.lay];rw[if_neg (by omega)];exact h.top k c⟩
def Zs {p:Prop}(h:p:=by repeat (first|exact AQ.refl _ _|(with_reducible assumption)|(with_reducible apply AQ.putN;rotate_left;(first|omega|(simp only[Aa,Ac,Az,H6]at*;omega)))|(with_reducible apply AQ.new)|(with_reducible apply AQ.lay)|(with_reducible refine AQ.trans ?_ nu))):p:=h
def Aq:Tx->Bool×Int
 |[]=>(false,0)
 |b::r=>if Bs b.toNat=true then (true,(b.toNat:Int)-65)else (false,Iw (b::r))
def Et {b r}(h:Bs b.toNat=true):Aq (b::r)=(true,(b.toNat:Int)-65):=by unfold Aq;dsimp only;rw[if_pos h]
def Nw {b r}(h:Bs b.toNat=false):Aq (b::r)=(false,Iw (b::r)):=by unfold Aq;dsimp only;rw[if_neg (by rw[h];simp)]
def T4 (x:Tx):oh:=[my ((Aq x).1),ic (Aq x).2]
def A0 (a:ol):oh:=a.flatMap T4
def Fh (ts):Z (A0 ts)=Z ts*2:=by
 induction ts with
 |nil=>rfl
 |cons a l b=>unfold A0 at*;rw[List.flatMap_cons,List.length_append,b];simp[T4];omega
def kQ (ts x):A0 (ts++[x])=A0 ts++T4 x:=by simp[A0]
def mI (p n s):(Ay p n s).2<:+s:=⟨(Ay p n s).1,(Ek p n s).1.symm⟩
def Yb (s):(C0 s).rest<:+s:=by
 cases s with
 |nil=>exact List.suffix_refl _
 |cons b r=>
  unfold C0;dsimp only;split;exact List.suffix_cons b r;split;exact List.suffix_cons b r;split;exact (mI A6 2 r).trans (List.suffix_cons b r);exact List.suffix_refl _
def aQ (t r b o nm)(k:Z t<=1000)(j:(b::r)<:+t)(σ)(f:σ.C o=Pk t (b::r) nm)(i:o<σ.B)(c:((b.toNat:Int)==48)=true):
  ni 250 [ptr o 0] σ λx σ'=>AQ o σ σ'/\σ'.C o=Pk t r nm/\x=ic 0:=by
 have g:A5 48 (b::r)= .got () r:=by unfold A5;dsimp only;rw[if_pos c]
 have e:=S4 t (b::r) o nm 48 k j σ f i;rw[g]at e;refine Z9 57 [.tmp 2] Tryz.func250 ?_;refine m0 ?_;intro yb ya;refine Xi (e) ?_;rintro _ _ ⟨a,rfl,d,-⟩;refine mr ?_
 first|exact⟨_,rfl,a,d,rfl⟩|exact⟨_,rfl,a,d⟩|exact⟨_,rfl,a,rfl⟩|exact⟨_,rfl,rfl⟩
def W6 {t o N id s a}(Q:Z t<=1000)(P:RS Bd t o N id s a):
  ni 216 [ptr o 0] a λx σ'=>∃v k,x=tp [ag [my v,ic k],my ((C0 s).ok)]/\AQ o a σ'/\RS Bd t o N id (C0 s).rest σ'/\Rd.Val (C0 s) λw=>Aq w=(v,k):=by
 have z:AC (RS Bd t o N id s a):=P;obtain⟨D,p,-,C,-⟩:=P;have U:=Je C;have R:=Rc C;have i:AC (Z (C0 s).rest<=Z s):=(Yb s).length_le;have d:AC ((C0 s).rest<:+t):=(Yb s).trans C;generalize l:sl id (Z N) (N.map str)=y at D;have l:AC (sl id (Z N) (N.map str)=y):=l;have S:AC (a.C o=Pk t s y):=D;unfold Pk dO at D;refine Z9 46 [.cell 2 151,.tmp 3] Tryz.func216 ?_;refine mr ?_;refine Ax Ag (λ_=>True) [9] [0,1,2,3,4,5,6,7,8] [9] nq (λ_ _ _ h=>h) ?_;intro yb ya;cases s with
 |nil=>
  simp only[List.length_nil,Nat.sub_zero]at D R U;refine Z3 ?_;refine mr ?_;have f:AQ o a ((a.new [my false,ic 0]).put a.B [my false,ic 0]):=((AQ.refl _ _).new _).putN (Nat.le_refl _) _;refine⟨_,rfl,false,0,rfl,f,z.o.stepX f ?_ d.o i.o,trivial⟩;rw[l.o,Aj p,Ah p];exact S.o
 |cons b r=>
  simp only[List.length_cons,List.head?_cons]at D R U;refine Z3 ?_;refine mr ?_;refine Ax Ag (λ_=>True) [9] [0,1,2,3,4,5,6,7,8] [9] nq (λ_ _ _ h=>h) ?_;intro yb ya;refine Z3 ?_;have X:A6 b.toNat=true->48<=(b.toNat:Int)/\(b.toNat:Int)<=57:=λh=>by simp[A6]at h;omega
  have H:Bs b.toNat=true->65<=(b.toNat:Int)/\(b.toNat:Int)<=90:=λh=>by simp[Bs]at h;omega
  have L:AC ((a.new [my false,ic 0]).C o=Pk t (b::r) y):=by rw[AC,Ah p];exact S.o
  have T:o<(a.new [my false,ic 0]).B:=by rw[Aa];omega
  have F:AC (AQ o a (a.new [my false,ic 0])):=(AQ.refl _ _).new _;by_cases c:((b.toNat:Int)==48)=true;have g:Bs b.toNat=false:=by
   cases g:Bs b.toNat with
   |false=>rfl
   |true=>have:=H g;simp at c;omega
  have m:A6 b.toNat=true:=by simp at c;simp[A6];omega
  have n:C0 (b::r)= .got [b] r:=by
   unfold C0;dsimp only;rw[if_neg (by rw[g];simp),if_pos c]
  rw[n]at i d;have E:AC (Aq [b]=(false,0)):=by
   rw[AC,Nw g];simp at c;simp[Iw];omega
  (repeat (refine m0 ?_;intro yb ya;(first|(refine Xi (Hf _ _) ?_;rintro _ _ ⟨rfl,rfl⟩)|(refine Xi (He _ _) ?_;rintro _ _ ⟨rfl,rfl⟩)|(refine Xi (aQ t r b o y Q C _ L.o T c) ?_;rintro _ _ ⟨u,A,rfl⟩;(have I:=u.C a.B (by rw[Aa];omega) (by omega);rw[Ao]at I;have M:AC _:=u;have J:AC _:=A;clear u A)))));refine mr ?_
  rename_i j;have f:AQ o a (j.put a.B [my false,ic 0]):=(F.o.trans M.o).putN (Nat.le_refl _) _;refine⟨_,rfl,false,0,rfl,f,z.o.stepX f ?_ d.o i.o,E.o⟩;rw[l.o,Aj p];exact J.o;have c:((b.toNat:Int)==48)=false:=nn c;by_cases g:Bs b.toNat=true;have n:C0 (b::r)= .got [b] r:=by
   unfold C0;dsimp only;rw[if_pos g]
  rw[n]at i d;have E:AC (Aq [b]=(true,(b.toNat:Int)-65)):=by
   exact Et g
  have H:=H g;have K:IntKind.i64.wrap (IntKind.u8.wrap ((b.toNat:Int)-65))=(b.toNat:Int)-65:=by
   rw[Abs.u8w (by omega) (by omega),Abs.i64w (by omega) (by omega)]
  refine m0 ?_;intro yb ya;refine Xi (Hf _ _) ?_;rintro _ _ ⟨rfl,rfl⟩;refine mr ?_;have f:AQ o a (((a.new [my false,ic 0]).put o [str t,ic ((Z t-(Z r+1):Nat)+1),y]).put a.B [my true,ic ((b.toNat:Int)-65)]):=(F.o.put _).putN (Nat.le_refl _) _;refine⟨_,rfl,true,_,rfl,f,z.o.stepX f ?_ d.o i.o,E.o⟩;rw[l.o,Aj p,Ak];unfold Pk dO;rw[show ((Z t-(Z r+1):Nat):Int)+1=((Z t-Z r:Nat):Int)by omega];rfl;have g:Bs b.toNat=false:=nn g;by_cases m:A6 b.toNat=true;have G:=Ur t (b::r) o y Q C _ L.o T (λb' Y e=>by cases e;exact c);have K:Ay A6 3 (b::r)=(b::(Ay A6 2 r).1,(Ay A6 2 r).2):=by rw[Ay,if_pos m]
  rw[K]at G;have G:AC _:=G;have B:Gv b.toNat=true:=by
   rcases CB.1 m with h|h;exact h;rw[c]at h;cases h
  have n:C0 (b::r)= .got (b::(Ay A6 2 r).1) (Ay A6 2 r).2:=by
   unfold C0;dsimp only;rw[if_neg (by rw[g];simp),if_neg (by rw[c];simp),if_pos B]
  rw[n]at i d;have E:AC (Aq (b::(Ay A6 2 r).1)=(false,Iw (b::(Ay A6 2 r).1))):=by
   exact Nw g
  clear K
  (repeat (refine m0 ?_;intro yb ya;(first|(refine Xi (Hf _ _) ?_;rintro _ _ ⟨rfl,rfl⟩)|(refine Xi (He _ _) ?_;rintro _ _ ⟨rfl,rfl⟩)|(refine Xi (G.o) ?_;rintro _ _ ⟨u,q,A,W,O,rfl⟩;(have I:=u.C a.B (by rw[Aa];omega) (by omega);rw[Ao]at I;have M:AC _:=u;have J:AC _:=A;have V:AC _:=O;clear u A O)))));refine mr ?_
  rename_i j;have f:AQ o a (j.put a.B [my false,ic (Iw (b::(Ay A6 2 r).1))]):=(F.o.trans M.o).putN (Nat.le_refl _) _;refine⟨_,rfl,false,_,rfl,f,z.o.stepX f ?_ d.o i.o,E.o⟩;rw[l.o,Aj p,show (Rd.got (b::(Ay A6 2 r).1) (Ay A6 2 r).2).rest=q from V.o.symm];exact J.o;have m:A6 b.toNat=false:=nn m;have B:Gv b.toNat=false:=by
   cases B:Gv b.toNat with
   |false=>rfl
   |true=>rw[CB.2 (.inl B)]at m;cases m
  have n:C0 (b::r)= .bad (b::r):=by
   unfold C0;dsimp only;rw[if_neg (by rw[g];simp),if_neg (by rw[c];simp),if_neg (by rw[B];simp)]
  rw[n]at i d
  (repeat (refine m0 ?_;intro yb ya;(first|(refine Xi (Hf _ _) ?_;rintro _ _ ⟨rfl,rfl⟩)|(refine Xi (He _ _) ?_;rintro _ _ ⟨rfl,rfl⟩))));refine mr ?_
  have f:AQ o a ((a.new [my false,ic 0]).put a.B [my false,ic 0]):=F.o.putN (Nat.le_refl _) _;refine⟨_,rfl,false,0,rfl,f,z.o.stepX f ?_ d.o i.o,trivial⟩;rw[l.o,Aj p];exact L.o
variable {Bd:Nat}
def vM (N:ol)(n:Tx):ol:=if n∈N then N else N++[n]
def gK (N n):n∈vM N n:=by unfold vM;split<;>simp_all
def gJ (N n):N<+:vM N n:=by
 unfold vM;split;exact List.prefix_refl _;exact List.prefix_append _ _
def gP {N a:ol}{n}(h:N<+:a)(b:n∈N):a.idxOf n=N.idxOf n:=by
 obtain⟨r,rfl⟩:=h;rw[List.idxOf_append,if_pos b]
def gL (N n):(vM N n).idxOf n=N.idxOf n:=by
 unfold vM;split;rfl;rename_i h;rw[List.idxOf_append,if_neg h,List.idxOf_eq_length h];simp
def Ov:∀{N:ol} {i:Nat} {n:Tx},(∀a,a<i->N[a]?≠some n)->N[i]?=some n->N.idxOf n=i
 |[],i,n,h,b=>by simp at b
 |x::N,0,n,h,b=>by simp at b;subst b;simp
 |x::N,i+1,n,h,b=>by
  have c:=h 0 (by omega);have e:=Ov (N:=N) (i:=i) (n:=n) (λa f=>by have:=h (a+1) (by omega);simpa using this) (nn b);have d:(x==n)=false:=by
   simp at c;simpa using c
  rw[List.idxOf_cons,d,e];rfl
def Qe {N:ol}{n}(h:∀a,a<Z N->N[a]?≠some n):n∉N:=λd=>by
 obtain⟨i,b,c⟩:=List.getElem_of_mem d;exact h i b (by rw[List.getElem?_eq_getElem b,c])
def YS {t o N id s c}(n)(X:Z t<=1000)(r:RS Bd t o N id s c)(U:Z N+1+Z s<=Bd+Z t):
  ni 215 [ptr o 0,str n] c λx σ'=>∃id',x=ic (N.idxOf n:Nat)/\Rs o c id σ' id'/\RS Bd t o (vM N n) id' s σ':=by
 have L:AC (RS Bd t o N id s c):=r;obtain⟨y,hn,q,v,z⟩:=r;have C:AC (DL c id (Z N)):=q;clear q;have Q:=Je v;unfold Pk dO at y;refine Z9 38 [.tmp 4] Tryz.func215 ?_;refine mr ?_
 refine Ae (λm b σ'=>∃i:Nat,m=Z N-i/\i<=Z N/\b 0=ptr o 0/\b 1=str n/\b 10=sl id (Z N) (N.map str)/\b 11=ic (Z N)/\b 12=ic i/\σ'=c/\AC (∀a,a<i->N[a]?≠some n)) (Z N)
  ⟨0,by omega,by omega,rfl,rfl,rfl,rfl,rfl,rfl,λa E=>by omega⟩ ?_
 rintro m b σ' ⟨i,rfl,Y,V,S,O,P,T,l,f⟩;subst l;by_cases A:i<Z N;have M:=A1 A;have e:AC (N[i]?=some N[i]):=List.getElem?_eq_getElem A;generalize N[i]=w at M e;refine m6 ?_ ?_<;>intro h R;have p:w=n:=nn h;subst p;have D:w∈N:=List.mem_of_getElem? e.o;refine⟨_,rfl,id,by rw[Ov f.o e.o],Rs.refl _ _ _,?_⟩;rw[vM,if_pos D];exact L.o;have p:w≠n:=nn h;refine⟨Z N-(i+1),by omega,i+1,rfl,by omega,nk,?_⟩;intro a E;by_cases K:a=i;subst K;rw[e.o];simpa using p;exact f.o a (by omega);have J:i=Z N:=by omega
 subst J;have u:=Qe f.o;refine nh ?_;intro yb ya;refine tA (σ0:=σ') (o:=o) (by first|exact S1) C.o nr (by rfl) nk (by rfl) (by rfl) nr (by omega) (by omega) ?_;intro id' d g G H aa ad k;have I:o<d.B:=by omega
 have W:d.C o=[str t,ic (Z t-Z s:Nat),sl id (Z N) (N.map str)]:=by rw[H];exact y
 refine Z3 ?_;refine mr ?_;have F:vM N n=N++[n]:=by rw[vM,if_neg u]
 have B:N.idxOf n=Z N:=List.idxOf_eq_length u;refine⟨_,rfl,id',by rw[B,show ((Z N+1:Nat):Int)-1=Z N by omega],⟨G.put _,k⟩,?_⟩;rw[F];refine⟨?_,I,?_,v,by simp;omega⟩;rw[Ak];simp[Pk,dO];rcases g with h|⟨j,q1,q2,q3,q4⟩;exact .inl ⟨h.1,by have:=h.2;omega⟩;exact .inr ⟨j,q1,q2,by rw[Og,q3];simp,nk⟩
def X5 {t o N id s a}(ds){n}(e:Z t<=1000)(c:RS Bd t o N id s a)(d:Z N+1+Z s<=Bd+Z t)(b:n=ds):
  ni 215 [ptr o 0,str n] a λx σ'=>∃id',x=ic (N.idxOf ds:Nat)/\Rs o a id σ' id'/\RS Bd t o (vM N ds) id' s σ':=by
 subst b;exact YS n e c d
variable {Bd:Nat}
def smalls (s a q:Tx):Prop:=Z a<=6/\s=a++q/\Ay B6 6 s=(a++(Ay B6 (6-Z a) q).1,(Ay B6 (6-Z a) q).2)
def qF (s):smalls s [] s:=⟨nk,nk,nk⟩
def lF {s a q b}(h:smalls s a (b::q))(g:Z a<6)(d:B6 b.toNat=true):smalls s (a++[b]) q:=by
 obtain⟨i,f,c⟩:=h;have e:6-Z a=(6-Z (a++[b]))+1:=by simp;omega
 rw[e,Ay,if_pos d]at c;exact⟨by simp;omega,by rw[f];simp,by rw[c];simp⟩
def Lr {s a q}(h:smalls s a q)(c:Z a=6\/q=[]\/∃b r,q=b::r/\B6 b.toNat=false):Ay B6 6 s=(a,q):=by
 obtain⟨f,-,d⟩:=h;rw[d];rcases c with c|rfl|⟨b,r,rfl,hb⟩;rw[c];simp[Ay];cases e:6-Z a<;>simp[Ay];cases e:6-Z a<;>simp[Ay,hb]
def wZ {t s:Tx}(h:s<:+t):t.drop (Z t-Z s)=s:=by
 obtain⟨p,rfl⟩:=h;simp
def UF {t s a q:Tx}(h:s<:+t)(e:s=a++q){k}(b:k=Z a):(t.drop (Z t-Z s)).take k=a:=by
 rw[wZ h,e,b];simp
def S6 {t s a q:Tx}(h:s<:+t)(e:s=a++q){j k}(c:j=Z t-Z s)(b:k=Z a):(t.drop j).take k=a:=by
 subst c;exact UF h e b
def dW {s a q}(h:Ay B6 6 s=(a,q))(b:Z a=0):E7 s= .bad s:=by
 have:a=[]:=List.eq_nil_of_length_eq_zero b;unfold E7;rw[h,if_pos this]
def Tc {s a q}(h:Ay B6 6 s=(a,q))(b:Z a≠0):E7 s= .got a q:=by
 unfold E7;rw[h,if_neg (by intro e;simp at e;simp[e]at b)]
def Mg {t o N id s v}(K:Z t<=1000)(O:RS Bd t o N id s v):
  ni 183 [ptr o 0] v λx σ'=>∃k G id',x=tp [ic k,my ((E7 s).ok)]/\Rs o v id σ' id'/\RS Bd t o G id' (E7 s).rest σ'/\N<+:G/\Rd.Val (E7 s) λn=>n∈G/\k=(G.idxOf n:Nat):=by
 have j:AC (RS Bd t o N id s v):=O;obtain⟨I,V,-,p,-⟩:=O;have ay:=Je p;generalize z:sl id (Z N) (N.map str)=L at I;have W:AC (v.C o=Pk t s L):=I;unfold Pk dO at I;refine Z9 67 [.tmp 2,.tmp 3] Tryz.func183 ?_;refine mr ?_
 refine Ae (λm J σ'=>∃(q a:Tx),m=6-Z a/\J 0=ptr o 0/\J 4=ic (Z t-Z s:Nat)/\AQ o v σ'/\σ'.C o=Pk t q L/\o<σ'.B/\q<:+t/\Z s=Z a+Z q/\AC (smalls s a q)) 6
  ⟨s,[],rfl,rfl,rfl,AQ.refl _ _,W.o,V,p,nk,qF s⟩ ?_
 rintro m J σ' ⟨q,a,rfl,h0,Y,d,H,az,u,M,f⟩;clear I;have P:=Je u;have Q:=Rc u;have a0:=f.o.1;have D:AC (σ'.C o=Pk t q L):=H;unfold Pk dO at H;refine mr ?_;refine Ax Ag (λ_=>True) [30] [0,1,2,3,4,5,6,7,8,9,10,11,12,13,14,15,16,17,18,19,20,21,22,23,24,25,26,27,28] [29,30] nq (λ_ _ _ h=>h) ?_;intro yb ya;cases q with
 |nil=>
  simp only[List.length_nil,Nat.sub_zero,Nat.add_zero]at H Q P M;refine Z3 ?_;refine m6 ?_ ?_<;>intro h U
  all_goals have g:=Lr f.o (.inr (.inl rfl))
  ·
   have i:Z a=0:=by simp at h;omega
   have c:=dW g i;have y:=f.o.2.1;rw[List.eq_nil_of_length_eq_zero i,List.nil_append]at y;refine⟨_,rfl,0,N,id,by rw[c];rfl,Rs.ofX d,?_,List.prefix_refl _,by rw[c];trivial⟩;rw[c];exact j.o.stepX d (by rw[z];exact y ▸ D.o) p (Nat.le_refl _)
  
  have i:Z a≠0:=by simp at h;omega
  have c:=Tc g i;have l:=j.o.stepX d (by rw[z];exact D.o) u (by first|omega|(simp only[List.length_cons,List.length_nil];omega));have R:=j.o.len;have E:AC _:=l;have F:AC _:=f;have e:AC _:=c;have C:AC _:=d;clear l c d g;refine Ax Ag (λ_=>True) [10] [0,1,2,3,4,5,6,7,8,9] [10] nq (λ_ _ _ h=>h) ?_;intro yb ya;refine Z3 ?_;refine m0 ?_;intro yb ya;refine Xi (X5 a K E.o (by first|omega|(simp only[List.length_cons,List.length_nil];omega)) (by refine S6 p F.o.2.1 ?_ ?_<;>first|omega|(simp only[List.length_cons,List.length_nil,Nat.add_zero];omega))) ?_;rintro _ _ ⟨id',rfl,A,B⟩;refine mr ?_;refine⟨_,rfl,_,vM N a,id',by rw[e.o];rfl,(Rs.ofX C.o).trans A,?_,gJ _ _,?_⟩
  ·rw[e.o];exact B
  rw[e.o];exact⟨gK _ _,by rw[gL]⟩
 |cons b r=>
  simp only[List.length_cons,List.head?_cons]at H Q P M;have S:=S5 u;refine Z3 ?_
  repeat' first|refine Z1 ?_|refine Z8 λyb ya=>?_|refine Z4 ?_;clear ya yb|refine Z2 ?_ ?_<;>intro h U<;>try exact Xp|refine Z5 ?_;refine Xi (Rw _ _) ?_;rintro _ _ ⟨rfl,rfl⟩|refine Z3 ?_|exact Zt|apply ya.o;clear ya yb
  ·have X:Z a<6:=by omega
   have T:B6 b.toNat=true:=nu;refine⟨6-Z (a++[b]),by simp;omega,r,a++[b],rfl,d.put _,?_,S,by simp;omega,lF f.o X T⟩;unfold Pk dO;rw[show ((Z t-(Z r+1):Nat):Int)+1=((Z t-Z r:Nat):Int)by omega]
  ·have g:=Lr f.o (.inr (.inr ⟨b,r,rfl,nu⟩));have i:Z a=0:=by simp at h;omega
   have c:=dW g i;have y:=f.o.2.1;rw[List.eq_nil_of_length_eq_zero i,List.nil_append]at y;refine⟨_,rfl,0,N,id,by rw[c];rfl,Rs.ofX d,?_,List.prefix_refl _,by rw[c];trivial⟩;rw[c];exact j.o.stepX d (by rw[z];exact y ▸ D.o) p (Nat.le_refl _)
  ·have g:=Lr f.o (.inr (.inr ⟨b,r,rfl,nu⟩));have i:Z a≠0:=by simp at h;omega
   have c:=Tc g i;have l:=j.o.stepX d (by rw[z];exact D.o) u (by first|omega|(simp only[List.length_cons,List.length_nil];omega));have R:=j.o.len;have E:AC _:=l;have F:AC _:=f;have e:AC _:=c;have C:AC _:=d;clear l c d g;refine Ax Ag (λ_=>True) [10] [0,1,2,3,4,5,6,7,8,9] [10] nq (λ_ _ _ h=>h) ?_;intro yb ya;refine Z3 ?_;refine m0 ?_;intro yb ya;refine Xi (X5 a K E.o (by first|omega|(simp only[List.length_cons,List.length_nil];omega)) (by refine S6 p F.o.2.1 ?_ ?_<;>first|omega|(simp only[List.length_cons,List.length_nil,Nat.add_zero];omega))) ?_;rintro _ _ ⟨id',rfl,A,B⟩;refine mr ?_;refine⟨_,rfl,_,vM N a,id',by rw[e.o];rfl,(Rs.ofX C.o).trans A,?_,gJ _ _,?_⟩
   ·rw[e.o];exact B
   rw[e.o];exact⟨gK _ _,by rw[gL]⟩
  ·exfalso;simp at h;omega
  have g:=Lr f.o (.inl (by omega));have i:Z a≠0:=by simp at h;omega
  have c:=Tc g i;have l:=j.o.stepX d (by rw[z];exact D.o) u (by first|omega|(simp only[List.length_cons,List.length_nil];omega));have R:=j.o.len;have E:AC _:=l;have F:AC _:=f;have e:AC _:=c;have C:AC _:=d;clear l c d g;refine Ax Ag (λ_=>True) [10] [0,1,2,3,4,5,6,7,8,9] [10] nq (λ_ _ _ h=>h) ?_;intro yb ya;refine Z3 ?_;refine m0 ?_;intro yb ya;refine Xi (X5 a K E.o (by first|omega|(simp only[List.length_cons,List.length_nil];omega)) (by refine S6 p F.o.2.1 ?_ ?_<;>first|omega|(simp only[List.length_cons,List.length_nil,Nat.add_zero];omega))) ?_;rintro _ _ ⟨id',rfl,A,B⟩;refine mr ?_;refine⟨_,rfl,_,vM N a,id',by rw[e.o];rfl,(Rs.ofX C.o).trans A,?_,gJ _ _,?_⟩
  ·rw[e.o];exact B
  rw[e.o];exact⟨gK _ _,by rw[gL]⟩
end Go.Proofs.YtmoeoppbmhfbpabGreatDoorJ
