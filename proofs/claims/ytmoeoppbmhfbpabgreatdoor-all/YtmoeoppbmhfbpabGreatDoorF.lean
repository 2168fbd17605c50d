import Derived.Test.YtmoeoppbmhfbpabGreatDoorE
set_option maxHeartbeats 32000000
set_option maxRecDepth 100000
set_option linter.all false
open List
open List renaming length->Z
namespace Go.Proofs.YtmoeoppbmhfbpabGreatDoorJ
open Go.Abs Tryz
def L1 {k}(b:0<=k)(a:k<26):Im k=UInt8.ofNat (IntKind.u8.wrap (65+k)).toNat:=by grind[Im,i64w]
def WT (l:ol)(a:AE):Prop:=∀w∈a.A,DT w/\Z w<=1000/\(Ab w->0<=Bv l w/\Bv l w<26)
def WA (N l:ol)(a:AE):Prop:=a.B∈N/\0<Z a.A/\Z a.A<=1000/\Z a.B<=1000/\WT l a
structure WI (N:ol)(x:AB):Prop where
 fits:x.fits
 short:x.short
 va:∀a∈Af x,VA a
 vh:VA x.h
 vb:∀a∈x.A,VA a
 mem:x.h.B∈N
 A:Z x.A<=5
 o:x.o->x.A=[]
 h:x.o=false->x.h.nt=false/\WA N (Au x) x.h
 wa:∀a∈x.A,WA N (Au x) a
def nB {acc t u}(h:t∈acc\/(t=u/\Ab u)):t∈Er acc u:=by grind[Er]
def No:∀(a acc:ol) (t:Tx),(t∈acc\/(t∈a/\Ab t))->t∈Fu acc a
 |[],acc,t,h=>by obtain h|⟨h,-⟩:=h;exact h;cases h
 |u::a,acc,t,h=>by show t∈Fu (Er acc u) a;apply No a;obtain h|⟨h,b⟩:=h;exact .inl (nB (.inl h));obtain rfl|h:=BD.1 h;exact .inl (nB (.inr ⟨rfl,b⟩));exact .inr ⟨h,b⟩
def nX {c:oq}(h:∀a∈c,Z a.A<=3):Z (c.flatMap (·.A))<=Z c*3:=by
 induction c with
 |nil=>simp
 |cons a c e=>
  have f:=e λb d=>h b (ns d);have g:=h a nk;simp only[DN,AX,BQ];omega
theorem Ap {x a}(h:(x.o=false/\a=x.h)\/a∈x.A):a∈Af x:=by grind[Af]
def On {x}(n:Dc x){a}(m:a∈Af x){w}(j:w∈a.A)(o:Ab w):0<=Bv (Au x) w/\Bv (Au x) w<26:=by
 have f:w∈Au x:=No _ _ _ (.inr ⟨EX.2 ⟨a,m,j⟩,o⟩);have u:=CS f;have p:=Ro ((Af x).flatMap (·.A)) [];let⟨t,g,i⟩:=n;have q:Z (Af x)<=6/\∀b∈Af x,Z b.A<=3:=by
  cases c:x.o
  ·obtain⟨k,-,e2,l⟩:=i c;refine⟨by grind[Af],λb d=>?_⟩;simp[Af,c]at d;rcases d with rfl|d;exact k.2.2.1;exact (l b d).2.2.1
  obtain⟨-,-,e⟩:=g c;simp[Af,c,e]
 have v:=nX q.2;have s:Z (Au x)<=18:=by grind[Au]
 rw[Bv];grind
def j6 {t N l cs C}(q:Z t<=1000)(k:Cc 16 t= .got l C)(f:Bk N l cs)(u:∀x∈l,Dc x):∀x∈l,WI N x:=by
 intro x d;have m:=Td 16 t l C k x d;have y:=Lx (T:=DT) mK 16 t l C k x d;have i:=T8 q k x d;have e:=T0 f.el x d;have g:=u x d;have j:=f.fits x d;have n:∀a,a∈Af x->a.B∈N->En a->short a->Z a.A<=1000->WA N (Au x) a:=λa b A s o B=>
  ⟨A,length_pos_iff.2 s.2.1,B,o.1,λw e=>⟨y a b w e,o.2.2 w e,λz=>On g b e z⟩⟩
 refine⟨j,i,m,?_,?_,e.1,?_,f.o x d,?_,?_⟩;cases c:x.o
 ·exact m x.h (Ap (.inl ⟨c,rfl⟩))
 intro w p;rw[(g.2.1 c).2.1]at p;cases p
 exact λa b=>m a (Ap (.inr b));cases c:x.o
 ·exact (g.2.2 c).2.2.1
 rw[f.o x d c];simp
 intro c;obtain⟨v,e2,-⟩:=g.2.2 c;exact⟨e2,n x.h (Ap (.inl ⟨c,rfl⟩)) e.1 v i.1 j.2.1⟩;intro a b;have c:x.o=false:=by
  cases h:x.o
  ·rfl
  rw[f.o x d h]at b;cases b
 exact n a (Ap (.inr b)) (e.2 a b) ((g.2.2 c).2.2.2 a b) (i.2 a b) (j.2.2 a b)
def Br (l:ol)(a:AE):AE:={nt:=a.nt,B:=a.B,A:=a.A.map (C6 l)}
def ren (x:AB):AB:={o:=x.o,h:=Br (Au x) x.h,A:=x.A.map (Br (Au x))}
theorem Fv {k}(b:0<=k)(a:k<26):((Im k).toNat:Int)=65+k:=by rw[L1 b a,u8w L L];rw[UInt8.toNat_ofNat_of_lt' (gp)];omega
theorem E4 {k}(b:0<=k)(a:k<26):Bs (Im k).toNat:=by grind[Fv,Bs]
def Hu {l w}(c:Ab w->0<=Bv l w/\Bv l w<26):Ab (C6 l w)=Ab w:=by rw[C6];split;rename_i h;let⟨a,b⟩:=c h;exact h▸E4 a b;rfl
def jq {l w}(f:DT w)(e:Ab w->0<=Bv l w/\Bv l w<26):Aq (C6 l w)=(Ab w,if Ab w=true then Bv l w else (Aq w).2):=by
 rw[C6];split;rename_i h;let⟨a,d⟩:=e h;rw[Et (E4 a d),Fv a d,h];congr 1;omega;rename_i h;have c:Ab w=false:=nn h;rw[c];cases w with
 |nil=>rfl
 |cons b g=>rw[Nw c]
def TK {N l a}(h:WA N l a):∀w∈a.A,DT w/\(Ab w->0<=Bv l w/\Bv l w<26):=λw b=>⟨(h.2.2.2.2 w b).1,(h.2.2.2.2 w b).2.2⟩
def zY (l):∀(a:ol) (k:Nat),0<k->Ii l k a=Ch (a.map (C6 l))
 |[],k,_=>rfl
 |t::a,k,b=>by rw[Ii,zY l a (k+1) L,Ph,if_neg L];simp[Ch]
theorem wI {l a}(h:a≠[]):Ii l 0 a=40::Bp (a.map (C6 l)):=by
 cases a with
 |nil=>cases h rfl
 |cons t a=>rw[Ii,zY l a 1 L];simp[Ph,Bp]
def Qx {l a}(h:a.A≠[]):Ec l a=Cl (Br l a):=by grind[Ec,Cl,Bh,wI,Br]
def zZ {l}:∀(b:oq) (k:Nat),0<k->(∀a∈b,a.A≠[])->Ht l k b=Ch ((b.map (Br l)).map Cl)
 |[],k,_,_=>rfl
 |a::b,k,e,h=>by rw[Ht,zZ b (k+1) L (λc d=>h c (ns d)),aJ,if_neg L,Qx (h a nk)];simp[Ch]
def bD {l b}(h:∀a∈b,a.A≠[]):Ht l 0 b=if b=[]then []else 58::45::Bp ((b.map (Br l)).map Cl):=by
 cases b with
 |nil=>rfl
 |cons a b=>
  rw[Ht,zZ b 1 L (λc d=>h c (ns d)),Qx (h a nk),if_neg nk];simp[aJ,Bp]
def Kq {x}(e:Dc x):Bw x=Bz (ren x)++[46]:=by
 obtain⟨-,j,f⟩:=e;unfold Bw Bz;cases b:x.o
 ·obtain⟨i,c,-,g⟩:=f b;rw[if_neg nk,if_neg (by grind[ren]),Qx i.2.1,bD (λa d=>(g a d).2.1),Q4 (by grind[Br])];unfold D1;simp[ren]
 simp[ren,Br,b]
def dN {N l:ol}{a}(h:En a)(i:∀w∈a.A,Ab w->0<=Bv l w/\Bv l w<26):En (Br l a):=by let⟨n,k,m,o⟩:=h;refine⟨n,by simp_all[Br],by grind[Br],λt d=>?_⟩;simp only[Br,AN]at d;obtain⟨w,c,rfl⟩:=d;rw[C6];split;rename_i j;let⟨g,f⟩:=i w c j;exact⟨nk,λb e=>by grind[E4]⟩;exact o w c
theorem Ky {N x}(l:Dc x)(i:WI N x):Dc (ren x):=by let⟨p,m,n⟩:=l;refine⟨p,λb=>?_,λb=>?_⟩;let⟨e,c,d⟩:=m b;exact⟨e,by grind[ren,Br],by grind[ren]⟩;let⟨e,c,d,o⟩:=n b;refine⟨dN (N:=N) e (λw f=>(TK (i.h b).2 w f).2),c,by grind[ren],λa j=>?_⟩;simp only[ren,AN]at j;obtain⟨g,k,rfl⟩:=j;exact dN (N:=N) (o g k) (λw f=>(TK (i.wa g k) w f).2)
def Oc {l}(a:∀x∈l,Dc x):Bj l=Cr (l.map ren):=by
 rw[Bj,Cr];induction l with
 |nil=>rfl
 |cons x l b=>
  rw[DN,CC,DN,Kq (a x nk),b λy c=>a y (ns c)]
def Ns {N l}(b:∀x∈l,Dc x)(e:∀x∈l,WI N x):Bl (Bj l)=l.map ren:=by
 have d:∀y∈l.map ren,Dc y:=λy a=>by grind[Ky]
 rw[Oc b];rw[Bl];rw[O3 _ d,BH]
 conv=>rhs;rw[<-IE (l.map ren)]
 apply CG;intro y a;exact (Jl (d y a)).1
def pZ (l w)(f:DT w)(c:Ab w->0<=Bv l w/\Bv l w<26)(M):ni 149 [ag (Kz l w)] M λp M'=>p=O (C6 l w)/\W M M':=by
 have m:∀z:UInt8,({data:=#[z]}:ByteArray)=bs [z]:=λ_=>rfl;unfold Kz;cases b:Ab w
 ·obtain⟨i,j,o⟩:Lib.itoa (Aq w).2=w/\0<=(Aq w).2/\(Aq w).2<=999:=by
   rcases f with h|h
   ·rw[b]at h;cases h
   exact h.2
  have d:=λM=>eJ (Aq w).2 j L M;rw[if_neg nk];rw[i]at d;have a:V (C6 l w=w):=by rw[V,C6,if_neg (by rw[b];simp)]
  generalize (Aq w).2=v at d;clear c f;refine Z9 14 [.tmp 2] func149 ?_
  repeat' first|refine Z1 ?_|refine Z8 λyb ya=>?_|refine Z4 ?_;clear ya yb|refine Z2 ?_ ?_<;>intro h n<;>try exact Xp|refine Z5 ?_;refine Xi (d _) ?_;rintro _ _ ⟨rfl,rfl⟩|refine Z7 ?_|exact Zt|apply ya.o;clear ya yb
  exact⟨_,rfl,by rw[a.o],Xs⟩
 obtain⟨e,g⟩:=c b;have a:V (C6 l w=[UInt8.ofNat (IntKind.u8.wrap (65+Bv l w)).toNat]):=by rw[V,C6,if_pos b,L1 e g]
 rw[if_pos rfl];generalize Bv l w=k at e g a;clear c;refine Z9 14 [.tmp 2] func149 ?_;refine mu ?_;exact⟨_,rfl,by rw[a.o],Xs⟩
def qU {l b k w}(h:b[k]?=some w):∃g,(D6 l b).drop (k*2)=my (Ab w)::Y (if Ab w=true then Bv l w else (Aq w).2)::g:=by
 have f:∀b:ol,r (λw c=>c=Kz l w) b (D6 l b):=by
  intro b;induction b with
  |nil=>rfl
  |cons a l d=>exact⟨Kz _ a,D6 _ l,rfl,d,by simp[D6]⟩
 obtain⟨c,g,rfl,e⟩:=r.get (z:=2) (λa c h=>by rw[h];rfl) (f b) h;exact⟨g,e⟩
def JQ (l:ol)(k:Nat)(a:ol):Tx:=if k=0 then [40]else Ii l 0 (a.take k)
def VM {l b k w}(h:b[k]?=some w):JQ l (k+1) b=JQ l k b++((if k=0 then []else [44])++C6 l w):=by
 have c:k<Z b:=(BA.1 h).1;unfold JQ;rw[if_neg L,AT,h,BN,Ob,CN,ER L,DY];by_cases a:k=0;subst a;simp[Ii,Ph];rw[if_neg a,if_neg a];simp[Ph,a]
def Zn (N l idn D a)(C:a.B∈N)(Q:Z N<=2000)(a7:0<Z a.A)(a8:Z a.A<=1000)(F:Z a.B<=1000)(G:WT l a)(M):
  ni 182 [ag [Y (N.idxOf a.B:Nat),sl D (Z a.A) (D6 l a.A)],lw idn N] M λP M'=>P=O (a.B++Ii l 0 a.A++[41])/\W M M':=by
 have av:=qT l a.A;have a0:({data:=#[40]}:ByteArray)=bs [40]:=rfl;have ax:({data:=#[44]}:ByteArray)=bs [44]:=rfl;have a2:({data:=#[41]}:ByteArray)=bs [41]:=rfl;have j:=CS C;have I:(N.map O).drop (N.idxOf a.B)=O a.B::(N.map O).drop (N.idxOf a.B+1):=by
  have:=A1 j;rwa[FN j]at this
 generalize N.idxOf a.B=K at j I;refine wl func182 ?_;refine mu ?_
 refine Ae (λm s M'=>∃(k:Nat) (b:Tx),m=Z a.A-k/\k<=Z a.A/\s 5=O b/\s 15=sl D (Z a.A) (D6 l a.A)/\s 16=Y (Z a.A)/\s 17=Y k/\W M M'/\Z b<=1001+k*1001/\V (b=a.B++JQ l k a.A)) (Z a.A)
  ⟨0,a.B++[40],L,L,AG,AG,AG,rfl,Xs,by simp;omega,by simp[V,JQ]⟩ ?_
 rintro m s M' ⟨k,b,rfl,a1,S,U,a4,a5,f,aw,n⟩;have a6:=f.B;by_cases q:k<Z a.A
 ·have o:=AK q;let⟨x,p,y⟩:=G a.A[k] (AR q);let⟨P,u⟩:=qU (l:=l) o;have c:V (a.B++JQ l (k+1) a.A=b++((if k=0 then []else [44])++C6 l a.A[k])):=by
   rw[V,VM o,n.o,CR]
  have z:=U2 l a.A[k] p;have e:=λM=>pZ l a.A[k] x y M;unfold Kz at e;generalize C6 l a.A[k]=i at c e z;generalize (if Ab a.A[k]=true then Bv l a.A[k]else (Aq a.A[k]).2)=a3 at e u;generalize Ab a.A[k]=T at e u;clear o x p y;by_cases g:k=0
  ·have R:decide ((0:Int)<(k:Int))=false:=ns g
   have c:V (a.B++JQ l (k+1) a.A=b++i):=by rw[V,c.o,if_pos g];simp
   clear g
   repeat' first|refine Z1 ?_|refine Z8 λyb ya=>?_|refine Z4 ?_;clear ya yb|refine Z2 ?_ ?_<;>intro h E<;>try exact Xp|refine Z5 ?_;refine Xi (e _) ?_;rintro _ _ ⟨rfl,d⟩;(have A:=d.C;have B:=d.B)|refine Z7 ?_|exact Zt|apply ya.o;clear ya yb
   exact⟨Z a.A-(k+1),L,k+1,b++i,rfl,L,rfl,nk,((f.new _).put f.B _).trans d,by simp only[AX];omega,by rw[V,c.o]⟩
  have R:decide ((0:Int)<(k:Int)):=by simp;omega
  have c:V (a.B++JQ l (k+1) a.A=b++([44]++i)):=by rw[V,c.o,if_neg g]
  clear g
  repeat' first|refine Z1 ?_|refine Z8 λyb ya=>?_|refine Z4 ?_;clear ya yb|refine Z2 ?_ ?_<;>intro h E<;>try exact Xp|refine Z5 ?_;refine Xi (e _) ?_;rintro _ _ ⟨rfl,d⟩;(have A:=d.C;have B:=d.B)|refine Z7 ?_|exact Zt|apply ya.o;clear ya yb
  exact⟨Z a.A-(k+1),L,k+1,b++([44]++i),rfl,L,by rw[CR],nk,((f.new _).put f.B _).trans d,by simp only[AX,KZ];omega,by rw[V,c.o]⟩
 obtain rfl:k=Z a.A:=L;have v:b=a.B++Ii l 0 a.A:=by rw[n.o,JQ,if_neg L,AS]
 have t:V _:=v;clear n v;refine mu ?_
 first
 |exact⟨_,rfl,by rw[t.o],f⟩
 |exact⟨_,rfl,by rw[t.o]⟩
def JC (l:ol)(a:AE):Tx:=a.B++Ii l 0 a.A++[41]
def vB {N l a}(h:WA N l a):Z (JC l a)<=1003000:=by let⟨f,d,e,g,b⟩:=h;have:=Vo l a.A 0 λt c=>(b t c).2.1;simp only[JC,AX,KZ];omega
def Ng (a:AE):Tx:=if a.nt=true then [33]else []
def Vn (l a):Ec l a=Ng a++JC l a:=by simp[Ec,Ng,JC]
def rU (N l idn x c)(a5:RI N l x c)(P:Z N<=2000)(K:x.h.B∈N)(ac:Z x.h.B<=1000)(aa:Z x.A<=5)(B:x.o=false->x.h.nt=false/\WA N l x.h)(S:∀a∈x.A,WA N l a)(M):
  ni 129 [ag c,lw idn N] M λb M'=>b=O (if x.o=true then 63::x.h.B++[46]else Ec l x.h++Ht l 0 x.A++[46])/\W M M':=by
 obtain⟨s,id,ab,U,rfl⟩:=a5;have a7:=r.length RU U;have a9:({data:=#[63]}:ByteArray)=bs [63]:=rfl;have bb:({data:=#[46]}:ByteArray)=bs [46]:=rfl;have bc:({data:=#[44]}:ByteArray)=bs [44]:=rfl;have bd:({data:=#[33]}:ByteArray)=bs [33]:=rfl;have ba:({data:=#[58,45]}:ByteArray)=bs [58,45]:=rfl;cases a4:x.o
 ·obtain⟨g,q⟩:=B a4;have a2:=vB q;have A:=λM=>Zn N l idn s x.h q.1 P q.2.1 q.2.2.1 q.2.2.2.1 q.2.2.2.2 M;have u:V (Ec l x.h=JC l x.h):=by rw[V,Vn,Ng,g];simp
  have A:∀M,ni 182 [ag [Y (N.idxOf x.h.B:Nat),sl s (Z x.h.A) (D6 l x.h.A)],lw idn N] M λb M'=>b=O (JC l x.h)/\W M M':=A;generalize JC l x.h=o at a2 A u;clear B q K g;rw[if_neg nk,u.o];refine Z9 49 [.tmp 4] func129 ?_
  repeat' first|refine Z1 ?_|refine Z8 λyb ya=>?_|refine Z4 ?_;clear ya yb|refine Z2 ?_ ?_<;>intro h z<;>try exact Xp|refine Z5 ?_;refine Xi (A _) ?_;rintro _ _ ⟨rfl,C⟩;(have av:=C.C;have Q:=C.B;simp only[Aa]at Q)|refine Z7 ?_|exact Zt|apply ya.o;clear ya yb
  rename_i M1
  refine wn [1,23,24] 25 (Z x.A) (λj a0 M'=>∃d:Tx,a0 5=O d/\W M M'/\Z d<=1003000+j*1003010/\V (d=o++Ht l 0 (x.A.take j))) ⟨o,AG,Xs,L,by simp[V,Ht]⟩ ?_
  clear C av Q;rintro j a0 M' _ _ _ ⟨d,h5,k,a8,y⟩;have a6:=k.B;by_cases T:j<Z x.A
  ·have E:=AK T;have p:=S x.A[j] (AR T);obtain⟨R,b,D⟩:=lj U E;have e:V (o++Ht l 0 (x.A.take (j+1))=d++(aJ j++(Ng x.A[j]++JC l x.A[j]))):=by
    rw[V,AT,E,BN,Ss,Vn,y.o,CN,ER L,DY,CR]
   have u:=vB p;have t:∀M,ni 182 [ag [Y (N.idxOf x.A[j].B:Nat),sl R (Z x.A[j].A) (D6 l x.A[j].A)],lw idn N] M λb M'=>b=O (JC l x.A[j])/\W M M':=λM=>Zn N l idn R x.A[j] p.1 P p.2.1 p.2.2.1 p.2.2.2.1 p.2.2.2.2 M;have v:V (Ng x.A[j]=if x.A[j].nt=true then [33]else []):=rfl;clear E p;generalize x.A[j]=a at D e u t v;generalize JC l a=n at e u t;cases g:a.nt with
   |true=>
    rw[g]at D;have e:V (o++Ht l 0 (x.A.take (j+1))=d++(aJ j++([33]++n))):=by rw[V,e.o,v.o,if_pos g]
    clear v;by_cases i:j=0
    ·have m:((j:Int)==0)=true:=by simp[i]
     have e:V (o++Ht l 0 (x.A.take (j+1))=d++([58,45]++([33]++n))):=by rw[V,e.o,aJ,if_pos i]
     clear i
     repeat' first|refine Z1 ?_|refine Z8 λyb ya=>?_|refine Z4 ?_;clear ya yb|refine Z2 ?_ ?_<;>intro h z<;>try exact Xp|refine Z5 ?_;refine Xi (t _) ?_;rintro _ _ ⟨rfl,f⟩;(have F:=f.C;have G:=f.B)|refine Z7 ?_|exact Zt|apply ya.o;clear ya yb
     exact⟨d++([58,45]++([33]++n)),nk,((k.new _).put k.B _).trans f,by simp;omega,by rw[V,e.o]⟩
    have m:((j:Int)==0)=false:=by simp;omega
    have e:V (o++Ht l 0 (x.A.take (j+1))=d++([44]++([33]++n))):=by rw[V,e.o,aJ,if_neg i]
    clear i
    repeat' first|refine Z1 ?_|refine Z8 λyb ya=>?_|refine Z4 ?_;clear ya yb|refine Z2 ?_ ?_<;>intro h z<;>try exact Xp|refine Z5 ?_;refine Xi (t _) ?_;rintro _ _ ⟨rfl,f⟩;(have F:=f.C;have G:=f.B)|refine Z7 ?_|exact Zt|apply ya.o;clear ya yb
    exact⟨d++([44]++([33]++n)),nk,((k.new _).put k.B _).trans f,by simp;omega,by rw[V,e.o]⟩
   |false=>
    rw[g]at D;have e:V (o++Ht l 0 (x.A.take (j+1))=d++(aJ j++([]++n))):=by rw[V,e.o,v.o,if_neg (by rw[g];simp)]
    clear v;by_cases i:j=0
    ·have m:((j:Int)==0)=true:=by simp[i]
     have e:V (o++Ht l 0 (x.A.take (j+1))=d++([58,45]++([]++n))):=by rw[V,e.o,aJ,if_pos i]
     clear i
     repeat' first|refine Z1 ?_|refine Z8 λyb ya=>?_|refine Z4 ?_;clear ya yb|refine Z2 ?_ ?_<;>intro h z<;>try exact Xp|refine Z5 ?_;refine Xi (t _) ?_;rintro _ _ ⟨rfl,f⟩;(have F:=f.C;have G:=f.B)|refine Z7 ?_|exact Zt|apply ya.o;clear ya yb
     exact⟨d++([58,45]++([]++n)),nk,((k.new _).put k.B _).trans f,by simp;omega,by rw[V,e.o]⟩
    have m:((j:Int)==0)=false:=by simp;omega
    have e:V (o++Ht l 0 (x.A.take (j+1))=d++([44]++([]++n))):=by rw[V,e.o,aJ,if_neg i]
    clear i
    repeat' first|refine Z1 ?_|refine Z8 λyb ya=>?_|refine Z4 ?_;clear ya yb|refine Z2 ?_ ?_<;>intro h z<;>try exact Xp|refine Z5 ?_;refine Xi (t _) ?_;rintro _ _ ⟨rfl,f⟩;(have F:=f.C;have G:=f.B)|refine Z7 ?_|exact Zt|apply ya.o;clear ya yb
    exact⟨d++([44]++([]++n)),nk,((k.new _).put k.B _).trans f,by simp;omega,by rw[V,e.o]⟩
  have a3:j=Z x.A:=L;subst a3;rw[AS]at y;refine mu ?_
  first
  |exact⟨_,rfl,by rw[y.o],k⟩
  |exact⟨_,rfl,by rw[y.o]⟩
 have I:=CS K;have a1:(N.map O).drop (N.idxOf x.h.B)=O x.h.B::(N.map O).drop (N.idxOf x.h.B+1):=by
  have:=A1 I;rwa[FN I]at this
 generalize N.idxOf x.h.B=ix at I a1;clear B S;refine Z9 49 [.tmp 4] func129 ?_;refine mu ?_;exact⟨_,rfl,nk,Xs⟩
def Kk (N l cs idn P)(u:Bk N l cs)(x c)(i:PI N x c)(a:WI N x)(M):ni 74 [Cq N idn l P cs,ag c] M λK M'=>K=O (Bw x)/\W M M':=by
 have q:=u.nm;have o:=Lm a.fits a.short;obtain⟨j,g,id,b,y,rfl⟩:=i;have s:=λM=>gM N x _ (PI.of (ih:=g) (id:=id) j y) a.o a.fits a.va a.vh a.vb M;have d:=λc t M=>rU N (Au x) idn x c t q a.mem a.short.1.1 a.A a.h a.wa M;have d:∀c,RI N (Au x) x c->∀M,ni 129 [ag c,lw idn N] M λK M'=>K=O (Bw x)/\W M M':=d;generalize m:Bw x=C at d o⊢;apply wl func74
 repeat' first|refine Z1 ?_|refine Z8 λyb ya=>?_|refine Z4 ?_;clear ya yb|refine Z2 ?_ ?_<;>intro h D<;>try exact Xp|(refine Z5 ?_;first|(apply Xi (s _);rintro _ _ ⟨E,rfl,p,Q,f⟩;(have R:=f.C;have B:=f.B;(try simp only[Aa,Ac,Az]at B);obtain⟨z,v,F,n,rfl⟩:=p))|(refine Xi (d _ ⟨_,_,_,n,rfl⟩ _) ?_;rintro _ _ ⟨rfl,k⟩))|refine Z7 ?_|exact Zt|apply ya.o;clear ya yb
 rename_i G I;have A:=(((W.refl M).new _).new _).trans f;have e:=((A.new _).put L _).trans k
 first
  |exact⟨_,rfl,rfl,e⟩
  |exact⟨rfl,e⟩
  |exact e
def sO (N l cs idn b)(c:Bk N l cs)(E:∀x∈l,WI N x)(M):ni 40 [Cq N idn l b cs] M λm M'=>m=O (Bj l)/\W M M':=by
 have a0:=r.length Ew c.el;have T:=c.len;have K:=c.nm;have G:=c.el;refine wl func40 ?_;refine mu ?_
 refine wn [1,7,8] 9 (Z l) (λi s M'=>∃a:Tx,s 3=O a/\W M M'/\M.B<M'.B/\M'.C M.B=[lw idn N,sl b (Z l) cs]/\Z a<=i*1100000000/\V (a=Bj (l.take i))) ⟨[],AG,Xs,AM,Ao,nk,by simp[V,Bj]⟩ ?_
 rintro i s M' _ _ _ ⟨a,Q,f,U,A,a1,e⟩;have ap:=f.B;by_cases q:i<Z l
 ·obtain⟨x,j⟩:=gq q;have d:=E x (AY j);obtain⟨p,o,id,a2,m,u,F⟩:=Ih G j;have B:V (l[i]?=some x):=j;clear j;have z:=Lm d.fits d.short;have n:=λM=>Kk N l cs idn b c x _ (PI.of (ih:=o) (id:=id) p u) d M;generalize t:Bw x=k at n z;have y:V _:=t;clear t d
  repeat' first|refine Z1 ?_|refine Z8 λyb ya=>?_|refine Z4 ?_;clear ya yb|refine Z2 ?_ ?_<;>intro h S<;>try exact Xp|refine Z5 ?_;refine Xi (n _) ?_;rintro _ _ ⟨rfl,g⟩;(have P:=g.C;have I:=g.B;(try simp only[Aa,Ac,Az]at I))|refine Z7 ?_|exact Zt|apply ya.o;clear ya yb
  rename_i R;have C:=((f.new _).put f.B _).trans g;have D:V (a++k=Bj (l.take (i+1))):=by
   rw[V,AT,B.o,e.o];simp[Bj,y.o]
  have v:length (a++k)<=(i+1)*1100000000:=by simp only[AX];omega
  exact⟨a++k,qs C D v⟩
 obtain rfl:i=Z l:=L;rw[AS]at e;refine mu ?_
 first
 |exact⟨_,rfl,by rw[e.o],f⟩
 |exact⟨_,rfl,by rw[e.o]⟩
def P3 (p:Tx)(x:AB):Bool:=!x.o&&x.h.B==p
def F7 (l:n0)(p:Tx):Bool:=l.any (P3 p)
def W4 (l cs m p)(e:r AJ l cs)(t:Z l<=16)(M):ni 115 [sl m (Z l) cs,O p] M λj M'=>j=my (F7 l p)/\M'=M:=by
 have y:=r.length Cf e;refine wl func115 ?_
 repeat' first|refine Z1 ?_|refine Z8 λyb ya=>?_|refine Z4 ?_;clear ya yb|refine Z2 ?_ ?_<;>intro h f<;>try exact Xp|refine Z3 ?_|exact Zt|apply ya.o;clear ya yb
 refine wn [0,1] 5 (Z l) (λi s M'=>M'=M/\V ((l.take i).any (P3 p)=false)) ⟨rfl,by simp[V]⟩ ?_
 rintro i s M' _ _ _ ⟨o,c⟩;subst o;by_cases n:i<Z l
 ·obtain⟨x,a⟩:=gq n;obtain⟨u,id,b,j,k,g⟩:=Cv e a;have d:V (l[i]?=some x):=a;clear a
  repeat' first|refine Z1 ?_|refine Z8 λyb ya=>?_|refine Z4 ?_;clear ya yb|refine Z2 ?_ ?_<;>intro h f<;>try exact Xp|refine Z3 ?_|exact Zt|apply ya.o;clear ya yb
  ·exact⟨_,rfl,by rw[F7,D4 _ d.o (by simp only[P3];simp[*])]⟩
  all_goals
   skip;rw[V,any_take_succ _ d.o,c.o];simp only[P3];simp[*]
 obtain rfl:i=Z l:=L;rw[AS]at c;refine X ?_;exact⟨_,rfl,by rw[F7,c.o]⟩
section rounds
variable {N:ol} {l:n0} (D:Tx->Nat)
end rounds
theorem sB {p n}(h:¬0<=Bn p n):∀i,i<n->p i=false:=by grind[Bn]
abbrev Sw:=(Nat->Bool)×(Nat->Bool×Int)
def Mx:Sw:=(λ_=>false,λ_=>(false,0))
def lA (s:Sw)(n:Nat):AV:=if n<26 then my (s.1 n)else if n % 2=0 then my ((s.2 ((n-26) / 2)).1)else Y (s.2 ((n-26) / 2)).2
def D5 (s:Sw):oh:=(range 78).map (lA s)
theorem Di (s):Z (D5 s)=78:=by simp[D5]
theorem Rb:PU.map cst1=D5 Mx:=rfl
theorem UE {s i}(h:i<26):(D5 s)[i]?=some (my (s.1 i)):=by grind[D5,lA]
theorem UD {s i}(h:i<26)(v):(D5 s).set i (my v)=D5 (λj=>if j=i then v else s.1 j,s.2):=by apply FL;intro n;rw[GH];by_cases b:n<78;by_cases a:i=n;subst a;simp[D5,lA,h,b];have:n≠i:=λe=>a e.symm;simp[D5,lA,b,a,this];have:i≠n:=L;simp[D5,b,this]
theorem Ww {s n}(h:n<78):(D5 s)[n]?=some (lA s n):=by grind[D5]
theorem lB (s){i}(h:i<26):∃f,(D5 s).drop (26+i*2)=my ((s.2 i).1)::Y (s.2 i).2::f:=by
 have e:lA s (26+i*2)=my ((s.2 i).1):=by grind[lA]
 have e2:lA s (26+i*2+1)=Y (s.2 i).2:=by grind[lA]
 refine⟨(D5 s).drop (26+i*2+1+1),?_⟩;have a:26+i*2<Z (D5 s):=by grind[Di]
 have d:26+i*2+1<Z (D5 s):=by grind[Di]
 rw[ET a,ET d];have c:=AK a;have b:=AK d;rw[Ww L,e]at c;rw[Ww L,e2]at b;rw[<-Gf c,<-Gf b]
theorem UC (s){i}(h:i<26)(b v):lsp (D5 s) (26+i*2) [my b,Y v]=D5 (s.1,λj=>if j=i then (b,v)else s.2 j):=by rw[Hw _ _ _ (by grind[Di])];apply FL;intro n;have f:=Di s;by_cases a:n<78;rw[Ww a];by_cases d:n<26+i*2;rw[CR,MB (gp),GF,if_pos d,Ww a];congr 1;unfold lA;by_cases c:n<26;rw[if_pos c,if_pos c];have:(n-26) / 2≠i:=L;simp[c,this];by_cases g:n<26+i*2+2;rw[CR,JY (gp),CN,ER L];obtain e|e:=(show n=26+i*2\/n=26+i*2+1 by omega);subst e;simp only[GX,EW,getElem?_cons_zero];rw[lA];rw[if_neg L,if_pos L,show (26+i*2-26) / 2=i by omega];simp;subst e;rw[show 26+i*2+1-(26+i*2)=1 by omega];simp only[EW,getElem?_cons_succ,getElem?_cons_zero];rw[lA];rw[if_neg L,if_neg L,show (26+i*2+1-26) / 2=i by omega];simp;rw[JY (gp)];simp only[AX,CN,BQ,CQ];rw[IJ,ER L,show 26+i*2+2+(n-(26+i*2+(0+1+1)))=n by omega,Ww a];congr 1;unfold lA;have:(n-26) / 2≠i:=L;have c:¬n<26:=L;simp[c,this];rw[FD (gp),FD (by grind[Di])]
theorem UB (s){i}(h:i<26)(b v):((D5 s).set (26+i*2) (my b)).set (26+i*2+1) (Y v)=D5 (s.1,λj=>if j=i then (b,v)else s.2 j):=UC s h b v
def J1 (s:Sw)(e b:Bool×Int):Option Sw:=
 if e.1=true then
  (if s.1 e.2.toNat=true then (if s.2 e.2.toNat=b then some s else none)
   else some (λj=>if j=e.2.toNat then true else s.1 j,λj=>if j=e.2.toNat then b else s.2 j))
 else if e=b then some s else none
def C9:Sw->List (Bool×Int)->List (Bool×Int)->Option Sw
 |s,[],_=>some s
 |_,_::_,[]=>none
 |s,e::c,b::bs=>(J1 s e b).bind λa=>C9 a c bs
def Q3:Option Sw->AV
 |some s=>tp [ag (D5 s),my true]
 |none=>tp [ag (D5 Mx),my false]
def varOk (t:Tx):Prop:=(Aq t).1->∃k:Nat,k<26/\(Aq t).2=(k:Int)
theorem pM {s}{b a:ol}{k t u}(j:b[k]?=some t)(f:a[k]?=some u):C9 s ((b.drop k).map Aq) ((a.drop k).map Aq)=(J1 s (Aq t) (Aq u)).bind λe=>C9 e ((b.drop (k+1)).map Aq) ((a.drop (k+1)).map Aq):=by have g:=(BA.1 j);have d:=(BA.1 f);let⟨c,l⟩:=g;let⟨i,e2⟩:=d;rw[ET c,ET i,l,e2];rfl
theorem bE (s p q ts us i1 v)(I:p=q->Z ts=Z us)(hn:Z ts<=1000)(x:∀t∈ts,varOk t)(M):
  ni 147 [ag (D5 s),ag [Y p,sl i1 (Z ts) (A0 ts)],ag [Y q,sl v (Z us) (A0 us)]] M λac M'=>ac=Q3 (if p=q then C9 s (ts.map Aq) (us.map Aq)else none)/\W M M':=by
 have a6:=Fh ts;have a5:=Fh us;have a9:=Di;have a8:=Rb;have a7:∀s,take 78 (D5 s)=D5 s:=λs=>FZ (by rw[Di];exact AU _);have bd:∀s a,lsp (D5 s) 0 (D5 a)=D5 a:=λs a=>I8 (by rw[Di,Di]);have be:∀s,(D5 s).all flat:=λs=>by
  rw[CX];intro af Q;obtain⟨ae,-,rfl⟩:=AN.1 Q;unfold lA;split;rfl;split<;>rfl
 by_cases z:p=q;have R:V (Z ts=Z us):=I z;have U:(p !=q)=false:=ns z
 rw[if_pos z];clear I z;refine wl func147 ?_;refine X ?_
 refine wn [3,5,6,18,19] 20 (Z ts) (λk ad M'=>∃a:Sw,W M M'/\M.B+3<M'.B/\M'.C M.B=D5 a/\M'.C (M.B+2)=[Y q,sl v (Z us) (A0 us)]/\M'.C (M.B+3)=D5 Mx/\V (C9 s (ts.map Aq) (us.map Aq)=C9 a ((ts.drop k).map Aq) ((us.drop k).map Aq))) ⟨s,Xs,AM,?_,?_,?_,by simp[V]⟩ ?_
 rw[Ah AM,Ah AM,Ah AM,Ao];rw[Ah AM,Be AM AM];rw[Be AM AM];rintro k ad M' _ _ _ ⟨a,c,bc,a3,a0,az,F⟩;have a4:=c.B;by_cases N:k<Z ts;have a1:k<Z us:=ny R.o
 have E:=AK N;have G:=AK a1;have A:=x ts[k] (AR N);let⟨r1,n⟩:=Gm E;let⟨r2,P⟩:=Gm G;have f:V (C9 s (ts.map Aq) (us.map Aq)=(J1 a (Aq ts[k]) (Aq us[k])).bind λa=>C9 a ((ts.drop (k+1)).map Aq) ((us.drop (k+1)).map Aq)):=by rw[V,F.o,pM E G]
 unfold varOk at A;clear E G F;generalize Aq ts[k]=e at n f A;generalize Aq us[k]=aa at P f;obtain⟨S,e2⟩:=e;obtain⟨l,i⟩:=aa;dsimp only at n P A;cases S
 ·by_cases d:(false,e2)=(l,i);have C:V (C9 s (ts.map Aq) (us.map Aq)=C9 a ((ts.drop (k+1)).map Aq) ((us.drop (k+1)).map Aq)):=by
   rw[V,f.o];unfold J1;simp[d]
  cases d;clear f A;refine X ?_;exact⟨a,(((c.new _).put c.B _).new _).put L _,L,rfl,C⟩;have b:V (C9 s (ts.map Aq) (us.map Aq)=none):=by
   rw[V,f.o];unfold J1;simp[d]
  have T:(false==l&&e2==i)=false:=by
   cases y:(false==l&&e2==i)with
   |false=>rfl
   |true=>simp at y;exact absurd (by rw[<-y.1,y.2]) d
  clear f A d;refine X ?_;exact⟨_,rfl,by rw[b.o];rfl,((((c.new _).put c.B _).new _).put L _).put L _⟩
 obtain⟨o,B,rfl⟩:=A rfl;have g:=UE (s:=a) B;obtain⟨r3,D⟩:=lB a B;cases u:a.1 o with
 |true=>
  rw[u]at g;by_cases d:a.2 o=(l,i);have C:V (C9 s (ts.map Aq) (us.map Aq)=C9 a ((ts.drop (k+1)).map Aq) ((us.drop (k+1)).map Aq)):=by
   rw[V,f.o];unfold J1;simp[u,d]
  rw[d]at D;dsimp only at D;clear f u d;refine X ?_;exact⟨a,((((c.new _).put c.B _).new _).put L _).put c.B _,L,rfl,C⟩;have b:V (C9 s (ts.map Aq) (us.map Aq)=none):=by
   rw[V,f.o];unfold J1;simp[u,d]
  clear f u;generalize a.2 o=ab at D d;obtain⟨K,m⟩:=ab;have T:(K==l&&m==i)=false:=by
   cases y:(K==l&&m==i)with
   |false=>rfl
   |true=>simp at y;exact absurd (by rw[y.1,y.2]) d
  dsimp only at D;clear d;refine X ?_;exact⟨_,rfl,by rw[b.o];rfl,(((((c.new _).put c.B _).new _).put L _).put c.B _).put L _⟩
 |false=>
  rw[u]at g;have bb:=UD (s:=a) B true;have ba:=λa=>UB a B l i;have C:V (C9 s (ts.map Aq) (us.map Aq)=C9 (λj=>if j=o then true else a.1 j,λj=>if j=o then (l,i)else a.2 j) ((ts.drop (k+1)).map Aq) ((us.drop (k+1)).map Aq)):=by
   rw[V,f.o];unfold J1;simp[u]
  obtain⟨r4,a2⟩:=lB (λj=>if j=o then true else a.1 j,λj=>if j=o then (l,i)else a.2 j) B;simp only[if_true]at a2;clear f u;refine X ?_;exact⟨(λj=>if j=o then true else a.1 j,λj=>if j=o then (l,i)else a.2 j),((((((c.new _).put c.B _).new _).put L _).put (AU _) _).put (AU _) _).put c.B _,L,rfl,C⟩
 obtain rfl:k=Z ts:=L;have hR:C9 s (ts.map Aq) (us.map Aq)=some a:=by rw[F.o,IZ];simp[C9]
 refine X ?_;exact⟨_,rfl,rfl,c.put L _⟩;have U:(p !=q):=nn z;rw[if_neg z];clear I z;refine wl func147 ?_;refine X ?_;exact⟨_,rfl,rfl,((((((W.refl _).new _).new _).new _).new _).put L _)⟩
structure Lt where
 nt:Bool
 pr:Nat
 es:List (Bool×Int)
def Hp (left:List Lt):List Lt->Sw->Option Sw
 |[],s=>some s
 |x::a,s=>left.findSome? λb=>if b.nt=x.nt/\x.pr=b.pr then (C9 s x.es b.es).bind (Hp left a)else none
def Hc (e:Tx->Bool×Int)(N:ol)(a:AE):Lt:=⟨a.nt,N.idxOf a.B,a.A.map e⟩
def U0 (θ:Tx->Tx)(t:Tx):Tx:=if Ab t=true then θ t else t
def gH (θ:Tx->Tx)(a b:AE):Prop:=a.nt=b.nt/\a.B=b.B/\a.A.map (U0 θ)=b.A
def Hj (x:AB)(k:Nat):Prop:=∃c:Tx->Tx,(∀t∈x.h.A,Ab t->c t=t)/\∀a∈x.A,∃b∈x.A.eraseIdx k,gH c a b
structure GU (e:Tx->Bool×Int)(U:Tx->Prop):Prop where
 var:∀t,U t->(e t).1=Ab t
 inj:∀t u,U t->U u->e t=e u->t=u
 pos:∀t,U t->Ab t->0<=(e t).2
def aH (e:Tx->Bool×Int)(t:Tx):Nat:=(e t).2.toNat
theorem GU.same {e U}(T:GU e U){t u}(b:U t)(a:U u)(d:Ab t)(c:Ab u)(h:aH e t=aH e u):t=u:=by apply T.inj t u b a;have g:=T.var t b;have f:=T.var u a;have i:=T.pos t b d;have j:=T.pos u a c;unfold aH at h;grind
def ND (e:Tx->Bool×Int)(U:Tx->Prop)(s:Sw)(θ:Tx->Tx):Prop:=∀t,U t->Ab t->s.1 (aH e t)->s.2 (aH e t)=e (θ t)
def Do (s a:Sw):Prop:=∀k,s.1 k->a.1 k/\a.2 k=s.2 k
theorem Do.refl (s):Do s s:=λk h=>⟨h,rfl⟩
theorem Do.trans {a b c}(h:Do a b)(g:Do b c):Do a c:=λk e=>by let⟨j,f⟩:=h k e;let⟨i,d⟩:=g k j;grind
def IG (e:Tx->Bool×Int)(s:Sw)(t u:Tx):Prop:=if Ab t=true then s.1 (aH e t)/\s.2 (aH e t)=e u else e t=e u
theorem IG.grow {e s b t u}(h:IG e s t u)(g:Do s b):IG e b t u:=by
 rw[IG]at*
 split;rename_i a;rw[if_pos a]at h;let⟨d,c⟩:=g _ h.1;exact⟨d,c.trans h.2⟩;rename_i a;rw[if_neg a]at h;exact h
section
variable {e:Tx->Bool×Int} {U:Tx->Prop} (T:GU e U)
include T
theorem dD {s θ t u}(b:ND e U s θ)(g:U t)(c:U0 θ t=u):∃m,J1 s (e t) (e u)=some m/\ND e U m θ:=by rw[U0]at c;rw[J1];rw[T.var t g];split at c;rename_i a;subst c;rw[if_pos a];by_cases f:s.1 (e t).2.toNat=true;rw[if_pos f,if_pos (show s.2 (e t).2.toNat=e (θ t)from b t g a f)];exact⟨s,rfl,b⟩;rw[if_neg f];refine⟨_,rfl,λk i l d=>?_⟩;by_cases j:aH e k=(e t).2.toNat;have:=T.same i g l a j;subst this;simp[aH];dsimp only at d⊢;rw[if_neg j]at d⊢;exact b k i l d;rename_i a;subst c;rw[if_neg a,if_pos rfl];exact⟨s,rfl,b⟩
theorem bG:∀(a b:ol) (s:Sw) (θ:Tx->Tx),ND e U s θ->(∀t∈a,U t)->a.map (U0 θ)=b->∃d,C9 s (a.map e) (b.map e)=some d/\ND e U d θ
 |[],b,s,θ,c,_,_=>⟨s,by simp[C9],c⟩
 |t::a,b,s,θ,c,f,i=>by subst i;let⟨g,n,k⟩:=dD T (u:=U0 θ t) c (f t nk) rfl;let⟨m,l,o⟩:=bG a _ g θ k (λj h=>f j (ns h)) rfl;refine⟨m,?_,o⟩;simp only[CC,C9,n,FU];exact l
theorem VC {s c t u}(g:U t)(h:J1 s (e t) (e u)=some c):Do s c/\IG e c t u:=by rw[J1]at h;rw[T.var t g]at h;rw[IG];split at h;rename_i b;rw[if_pos b];split at h;rename_i d;split at h;rename_i a;cases h;exact⟨Do.refl _,d,a⟩;cases h;rename_i d;cases h;refine⟨λk f=>?_,by simp[aH],by simp[aH]⟩;have:k≠(e t).2.toNat:=λe=>d (e ▸ f);simp[this,f];rename_i b;rw[if_neg b];split at h;rename_i a;cases h;exact⟨Do.refl _,a⟩;cases h
theorem Vp:∀(b d:ol) (s a:Sw),(∀t∈b,U t)->C9 s (b.map e) (d.map e)=some a->Do s a/\∀(i:Nat) (t u:Tx),b[i]?=some t->d[i]?=some u->IG e a t u
 |[],d,s,a,_,h=>by simp_all[IK,C9,Do.refl]
 |t::b,[],s,a,_,h=>by grind[C9]
 |t::b,u::d,s,a,l,h=>by
  simp only[CC,C9]at h;cases j:J1 s (e t) (e u)with
  |none=>rw[j]at h;cases h
  |some m=>
   rw[j]at h;simp only[FU]at h;let⟨p,q⟩:=VC T (l t nk) j;let⟨k,o⟩:=Vp b d m a (λg h=>l g (ns h)) h;refine⟨p.trans k,λi g n c f=>?_⟩;cases i with
   |zero=>simp at c f;subst c;subst f;exact q.grow k
   |succ i=>simp at c f;exact o i g n c f
theorem eB (N)(left:oq)(θ):∀(c:oq) (s:Sw),ND e U s θ->(∀a∈c,∀t∈a.A,U t)->(∀a∈c,∃b∈left,gH θ a b)->∃m,Hp (left.map (Hc e N)) (c.map (Hc e N)) s=some m
 |[],s,_,_,_=>⟨s,by simp[Hp]⟩
 |a::c,s,o,j,g=>by
  let⟨b,n,x,q,f⟩:=g a nk;let⟨i,v,p⟩:=bG T a.A b.A s θ o (j a nk) f;let⟨y,l⟩:=eB N left θ c i p (λd h=>j d (ns h)) (λd h=>g d (ns h));simp only[CC,Hp];have u:(left.map (Hc e N)).findSome? (λb=>if b.nt=(Hc e N a).nt/\(Hc e N a).pr=b.pr then (C9 s (Hc e N a).es b.es).bind (Hp (left.map (Hc e N)) (c.map (Hc e N)))else none)≠none:=by grind[Hc,C9]
  exact Option.ne_none_iff_exists'.1 u
theorem mU (N)(left:oq):∀(d:oq) (s g:Sw),(∀a∈d,a.B∈N/\∀t∈a.A,U t)->(∀b∈left,b.B∈N)->Hp (left.map (Hc e N)) (d.map (Hc e N)) s=some g->Do s g/\∀a∈d,∃b∈left,a.nt=b.nt/\a.B=b.B/\∀(i:Nat) (t u:Tx),a.A[i]?=some t->b.A[i]?=some u->IG e g t u
 |[],s,g,_,_,h=>by simp_all[IK,Hp,Do.refl]
 |a::d,s,g,m,q,h=>by
  simp only[CC,Hp]at h;rw[findSome?_eq_some_iff]at h;obtain⟨D,c,E,v,f,-⟩:=h;have x:c∈left.map (Hc e N):=gp
  obtain⟨b,p,rfl⟩:=AN.1 x;split at f;rename_i F;cases l:C9 s (Hc e N a).es (Hc e N b).es with
  |none=>rw[l]at f;cases f
  |some o=>
   rw[l]at f;simp only[FU]at f;let⟨B,C⟩:=Vp T a.A b.A s o (m a nk).2 l;let⟨n,A⟩:=mU N left d o g (λj h=>m j (ns h)) q f;refine⟨B.trans n,λj k=>?_⟩;obtain rfl|k:=BD.1 k;exact⟨b,p,F.1.symm,E9 (m _ nk).1 (q b p) F.2,λi t u z y=>(C i t u z y).grow n⟩;exact A j k
  cases f
end
theorem bF {e U}(T:GU e U)(b:ol)(f:∀t∈b,U t):∃s,C9 Mx (b.map e) (b.map e)=some s/\(∀θ:Tx->Tx,(∀t∈b,Ab t->θ t=t)->∀t,U t->Ab t->s.1 (aH e t)->t∈b)/\∀t∈b,IG e s t t:=by
 have k:∀(g:ol) (s:Sw),(∀t∈g,U t)->(∀t,U t->Ab t->s.1 (aH e t)->s.2 (aH e t)=e t)->∃l,C9 s (g.map e) (g.map e)=some l/\(∀t,U t->Ab t->l.1 (aH e t)->l.2 (aH e t)=e t/\(t∈g\/s.1 (aH e t))):=by
  intro g;induction g with
  |nil=>exact λs _ m=>⟨s,by simp[C9],λt d j h=>⟨m t d j h,.inr h⟩⟩
  |cons u g D=>
   intro s f m;let⟨y,a,n⟩:=dD T (θ:=λt=>t) (t:=u) (u:=u) m (f u nk) (by grind[U0]);let⟨z,x,B⟩:=D y (λt h=>f t (ns h)) n;refine⟨z,by simp_all[CC,C9,FU],λt d j h=>?_⟩;let⟨v,c⟩:=B t d j h;refine⟨v,?_⟩;obtain c|c:=c;exact .inl (ns c);rw[J1]at a;rw[T.var u (f u nk)]at a;split at a;rename_i A;split at a;split at a;cases a;exact .inr c;cases a;cases a;dsimp only at c;by_cases p:aH e t=(e u).2.toNat;have:=T.same d (f u nk) j A p;exact .inl (gp);rw[if_neg p]at c;exact .inr c;split at a;cases a;exact .inr c;cases a
 let⟨s,a,n⟩:=k b Mx f (λt _ _ h=>by grind[Mx]);obtain⟨-,C⟩:=Vp T b b Mx s f a;refine⟨s,a,λθ _ t d j h=>?_,λt d=>?_⟩;obtain q|q:=(n t d j h).2;exact q;simp[Mx]at q;let⟨i,o⟩:=CL d;exact C i t t o o
theorem P1 {e U}(T:GU e U)(N x k)(F:∀a∈x.A,a.B∈N)(y:∀t∈x.h.A,U t)(s:∀a∈x.A,∀t∈a.A,U t)
  (q:∀a∈x.A,∀b∈x.A,a.B=b.B->Z a.A=Z b.A) (R:∀t,U t->∀u,U u->e t=e u->t=u):
  ∃m,C9 Mx (x.h.A.map e) (x.h.A.map e)=some m/\((∃d,Hp ((x.A.eraseIdx k).map (Hc e N)) (x.A.map (Hc e N)) m=some d)↔Hj x k):=by
 let⟨m,a2,a1,G⟩:=bF T x.h.A y;refine⟨m,a2,?_,?_⟩;rintro⟨d,P⟩;have K:∀b∈x.A.eraseIdx k,b∈x.A:=λb l=>EE l;let⟨a5,a4⟩:=mU T N (x.A.eraseIdx k) x.A m d (λa j=>⟨F a j,s a j⟩) (λb l=>F b (K b l)) P;have o:∀t:Tx,∃u:Tx,(U t/\Ab t/\∃p,U p/\d.2 (aH e t)=e p)->(U u/\d.2 (aH e t)=e u):=λt=>by
  by_cases h:U t/\Ab t/\∃p,U p/\d.2 (aH e t)=e p;let⟨u,v⟩:=h.2.2;exact⟨u,λ_=>v⟩;exact⟨t,λM=>absurd M h⟩
 let n:Tx->Tx:=λt=>Classical.choose (o t);have Q:∀t u,U t->Ab t->U u->d.2 (aH e t)=e u->n t=u:=λt u f c v h=>by let⟨a6,a7⟩:=Classical.choose_spec (o t) ⟨f,c,u,v,h⟩;grind
 refine⟨n,λt f c=>?_,λa j=>?_⟩;have:=(G t f).grow a5;rw[IG]at this;rw[if_pos c]at this;exact Q t t (y t f) c (y t f) this.2;let⟨b,l,S,B,a0⟩:=a4 a j;have A:=K b l;refine⟨b,l,S,B,?_⟩;have a8:=q a j b A B;apply FL;intro i;rw[DC];by_cases I:i<Z a.A;have C:=AK I;have e2:=AK (show i<Z b.A by omega);have D:=s a j _ (AR I);have E:=s b A _ (AR (show i<Z b.A by omega));have:=a0 i _ _ C e2;rw[C,e2];simp only[GJ];congr 1;rw[IG]at this;rw[U0];split;rename_i c;rw[if_pos c]at this;exact Q _ _ D c E this.2;rename_i c;rw[if_neg c]at this;exact R _ D _ E this;rw[FD L,FD L];rfl;rintro⟨n,g,a3⟩;refine eB T N (x.A.eraseIdx k) n x.A m (λt f c h=>?_) s a3;have z:=a1 n g t f c h;have:=G t z;rw[IG]at this;rw[if_pos c]at this;rw[this.2,g t z c]
def Dg:List (Tx×Tx)->ol->ol->Option (List (Tx×Tx))
 |l,t::b,u::a=>if Ab t=true then Dg (l++[(t,u)]) b a else if t=u then Dg l b a else none
 |l,_,_=>some l
def Dh (l:List (Tx×Tx))(a b:AE):Option (List (Tx×Tx)):=if a.nt=b.nt/\a.B=b.B/\Z a.A=Z b.A then Dg l a.A b.A else none
def Agree (l:List (Tx×Tx)):Prop:=∀p∈l,∀q∈l,p.1=q.1->p.2=q.2
def iH (k m way:Nat):Nat:=if k<=way % m then way % m+1 else way % m
def gather (x:AB)(k:Nat):oq->Nat->List (Tx×Tx)->Option (List (Tx×Tx))
 |[],_,l=>some l
 |a::d,c,l=>match x.A[iH k (Z x.A-1) c]? with
  |some b=>(Dh l a b).bind λe=>gather x k d (c / (Z x.A-1)) e
  |none=>none
theorem Lw:∀(c e:ol) (l d:List (Tx×Tx)),Z c=Z e->Dg l c e=some d->(∀p∈l,p∈d)/\∀(i:Nat) (t u:Tx),c[i]?=some t->e[i]?=some u->(if Ab t=true then (t,u)∈d else t=u)
 |[],e,l,d,_,h=>by grind[Dg]
 |t::c,[],l,d,g,h=>gp
 |t::c,u::e,l,d,g,h=>by
  simp only[Dg]at h;have o:Z c=Z e:=nn g;split at h;rename_i m;let⟨f,n⟩:=Lw c e _ d o h;refine⟨λp s=>f p (ns s),λi k j a b=>?_⟩;cases i with
  |zero=>simp at a b;subst a;subst b;rw[if_pos m];exact f _ nk
  |succ i=>simp at a b;exact n i k j a b
  rename_i m;split at h;rename_i q;let⟨f,n⟩:=Lw c e _ d o h;refine⟨f,λi k j a b=>?_⟩;cases i with
  |zero=>simp at a b;subst a;subst b;rw[if_neg m];exact q
  |succ i=>simp at a b;exact n i k j a b
  cases h
theorem J9 (θ):∀(b:ol) (l:List (Tx×Tx)),(∀p∈l,p.2=θ p.1)->∃e,Dg l b (b.map (U0 θ))=some e/\∀p∈e,p.2=θ p.1
 |[],l,c=>⟨l,by simp[Dg],c⟩
 |t::b,l,c=>by
  simp only[CC,Dg];rw[U0];by_cases d:Ab t=true;rw[if_pos d,if_pos d];exact J9 θ b _ λp a=>gp
  rw[if_neg d,if_neg d,if_pos rfl];exact J9 θ b l c
theorem oP {x:AB}{k way}(b:k<Z x.A)(a:0<Z x.A-1):x.A[iH k (Z x.A-1) way]?=(x.A.eraseIdx k)[way % (Z x.A-1)]?:=by grind[iH]
theorem Yv {x k}(o:k<Z x.A)(m:0<Z x.A-1):∀(c:oq) (way:Nat) (l e:List (Tx×Tx)),gather x k c way l=some e->(∀p∈l,p∈e)/\∀a∈c,∃b∈x.A.eraseIdx k,a.nt=b.nt/\a.B=b.B/\Z a.A=Z b.A/\∀(i:Nat) (t u:Tx),a.A[i]?=some t->b.A[i]?=some u->(if Ab t=true then (t,u)∈e else t=u)
 |[],way,l,e,h=>by grind[gather]
 |a::c,way,l,e,h=>by
  simp only[gather]at h;rw[oP o m]at h;split at h;rename_i b A;cases d:Dh l a b with
  |none=>rw[d]at h;cases h
  |some n=>
   rw[d]at h;simp only[FU]at h;rw[Dh]at d;split at d;rename_i f;let⟨B,z⟩:=Lw a.A b.A l n f.2.2 d;let⟨q,s⟩:=Yv o m c _ n e h;refine⟨λp d=>q p (B p d),λC j=>?_⟩;obtain rfl|j:=BD.1 j;refine⟨b,AY A,f.1,f.2.1,f.2.2,λi t u y v=>?_⟩;have:=z i t u y v;split at this;rename_i g;rw[if_pos g];exact q _ this;rename_i g;rw[if_neg g];exact this;exact s C j;cases d
  cases h
theorem Ud {x k}(f:k<Z x.A)(e:0<Z x.A-1)(θ):∀(d:oq) (l:List (Tx×Tx)),(∀p∈l,p.2=θ p.1)->(∀a∈d,∃b∈x.A.eraseIdx k,gH θ a b)->∃way,way<(Z x.A-1)^Z d/\∃o,gather x k d way l=some o/\∀p∈o,p.2=θ p.1
 |[],l,g,_=>⟨0,nk,l,by simp[gather],g⟩
 |a::d,l,g,h=>by
  let⟨b,B,q,u,j⟩:=h a nk;let⟨i,y,A⟩:=J9 θ a.A l g;let⟨way,D,E,v,s⟩:=Ud f e θ d i A λG t=>h G (ns t);let⟨c,m⟩:=CL B;have n:c<Z x.A-1:=gp
  have C:(c+(Z x.A-1)*way) % (Z x.A-1)=c:=by rw[Nat.add_mul_mod_self_left,Nat.mod_eq_of_lt n]
  have z:(c+(Z x.A-1)*way) / (Z x.A-1)=way:=by rw[Nat.add_mul_div_left _ _ e,Nat.div_eq_of_lt n,DY]
  refine⟨c+(Z x.A-1)*way,?_,E,?_,s⟩;rw[BQ,Nat.pow_succ,Nat.mul_comm ((Z x.A-1)^Z d)];have F:(Z x.A-1)*way+(Z x.A-1)<=(Z x.A-1)*(Z x.A-1)^Z d:=by rw[<-Nat.mul_succ];exact Nat.mul_le_mul_left _ D
  omega;simp only[gather];rw[oP f e,C,m,z];simp only;have:Dh l a b=some i:=by grind[Dh]
  rw[this,FU];exact v
def aB (x:AB)(k way:Nat):Prop:=∃a l,Dh [] x.h x.h=some a/\gather x k x.A way a=some l/\Agree l
theorem X9 {a}:∃l,Dh [] a a=some l/\∀p∈l,p.2=p.1:=by
 let⟨l,b,c⟩:=J9 (λt=>t) a.A [] nk;have:a.A.map (U0 λt=>t)=a.A:=by simp_all[IE,CG,U0]
 rw[this]at b;exact⟨l,by grind[Dh],c⟩
theorem xB {x k}(y:k<Z x.A):(0<Z x.A-1/\∃way,way<(Z x.A-1)^Z x.A/\aB x k way)↔Hj x k:=by
 constructor;rintro⟨v,way,-,j,l,d,S,M⟩;let⟨B,s⟩:=Yv y v x.A way j l S;have o:∀t:Tx,∃u:Tx,(∃C,(t,C)∈l)->(t,u)∈l:=λt=>by
  by_cases h:∃C,(t,C)∈l;let⟨u,a0⟩:=h;exact⟨u,λ_=>a0⟩;exact⟨t,λQ=>absurd Q h⟩
 let n:Tx->Tx:=λt=>Classical.choose (o t);have P:∀t u,(t,u)∈l->n t=u:=λt u h=>M _ (Classical.choose_spec (o t) ⟨u,h⟩) _ h rfl;refine⟨n,λt a1 e=>?_,λa R=>?_⟩;rw[Dh]at d;rw[if_pos ⟨rfl,rfl,rfl⟩]at d;let⟨i,z⟩:=CL a1;have:=(Lw _ _ _ _ rfl d).2 i t t z z;rw[if_pos e]at this;exact P t t (B _ this);let⟨b,D,I,K,a5,U⟩:=s a R;refine⟨b,D,I,K,?_⟩;apply FL;intro i;rw[DC];by_cases z:i<Z a.A;have F:=AK z;have e2:=AK (show i<Z b.A by omega);have:=U i _ _ F e2;rw[F,e2];simp only[GJ];congr 1;rw[U0];split;rename_i e;rw[if_pos e]at this;exact P _ _ this;rename_i e;rw[if_neg e]at this;exact this;rw[FD L,FD L];rfl;rintro⟨n,a2,G⟩;have v:0<Z x.A-1:=by obtain⟨b,D,-⟩:=G x.A[k] (AR y);have:=length_pos_of_mem D;rw[length_eraseIdx_of_lt y]at this;exact this
 let⟨j,d,N⟩:=X9 (a:=x.h);have a3:∀p∈j,p.2=n p.1:=by
  intro p c;rw[N p c];have:p.1∈x.h.A/\Ab p.1:=by
   have A:∀(m f:ol) (l g:List (Tx×Tx)),Dg l m f=some g->∀p∈g,p∈l\/(p.1∈m/\Ab p.1):=by
    intro m;induction m with
    |nil=>intro f l g h p c;simp only[Dg]at h;cases h;exact .inl c
    |cons t m E=>
     intro f l g h p c;cases f with
     |nil=>simp only[Dg]at h;cases h;exact .inl c
     |cons u f=>
      simp only[Dg]at h;split at h;rename_i e;obtain q|q:=E f _ g h p c;obtain q|q:=AW.1 q;exact .inl q;simp at q;subst q;exact .inr ⟨nk,e⟩;exact .inr ⟨gp,q.2⟩;split at h;obtain q|q:=E f _ g h p c;exact .inl q;exact .inr ⟨gp,q.2⟩;cases h
   rw[Dh]at d;rw[if_pos ⟨rfl,rfl,rfl⟩]at d;obtain q|q:=A _ _ _ _ d p c;cases q;exact q
  exact (a2 p.1 this.1 this.2).symm
 let⟨way,T,l,B,s⟩:=Ud y v n x.A j a3 G;exact⟨v,way,T,j,l,d,B,λp c q a4 h=>gp⟩
def C8 (x:AB)(k:Nat):AB:={o:=false,h:=x.h,A:=x.A.eraseIdx k}
def Pi (a:oq)(k n:Nat):oq:=(a.take n).eraseIdx k
def tK {b k n a}(h:b[n]?=some a)(d:n≠k):Pi b k (n+1)=Pi b k n++[a]:=by
 have f:=(BA.1 h).1;have c:Z (b.take n)=n:=gp
 unfold Pi;rw[AT,h,BN];by_cases e:k<n;rw[eraseIdx_append_of_lt_length L];rw[LG (gp),LG L]
def iV {b k a}(h:b[k]?=some a):Pi b k (k+1)=Pi b k k:=by
 have d:=(BA.1 h).1;have c:Z (b.take k)=k:=gp
 unfold Pi;have e:(b.take k).eraseIdx k=b.take k:=LG L;rw[e,AT,h,BN,eraseIdx_append_of_length_le L,c,GX];simp
def tI (a k n):Z (Pi a k n)<=n:=by grind[Pi]
def tJ (a k):Pi a k (Z a)=a.eraseIdx k:=by rw[Pi];rw[AS]
def Pm (N x c)(k:Nat)(Lqx:PI N x c)(hn:Z x.A<=1000)(b):ni 145 [ag c,Y k] b λm σ'=>∃y,m=ag y/\PI N (C8 x k) y/\W b σ':=by
 obtain⟨I,v,id,a3,D,rfl⟩:=Lqx;have T:=r.length Eh D;refine wl func145 ?_;refine X ?_
 refine wn [1,4,5,12,13] 14 (Z x.A) (λn s σ'=>∃(i:Nat) (e:oh),W b σ'/\b.B+2<σ'.B/\σ'.C (b.B+1)=[my false,Y 0,H,H]/\σ'.C (b.B+2)=[my false,Y (N.idxOf x.h.B:Nat),sl v (Z x.h.A) (A0 x.h.A),sl i (Z (Pi x.A k n)) e]/\J b σ' i (Z (Pi x.A k n))/\Z e=Z (Pi x.A k n)*3/\V (r (PL N) (Pi x.A k n) e)) ⟨1,[],Xs,BJ,?_,?_,J.nil _ _,by simp[Pi],by simp[V,Pi,r]⟩ ?_
 rw[Aj L,Ah AM,Be AM AM];rw[show b.B+2=b.B+1+1 by omega,Ak];simp[Pi];rintro n s σ' _ _ _ ⟨i,e,g,a1,a0,E,p,o,j⟩;have G:=tI x.A k n;by_cases K:n<Z x.A;obtain⟨a,l⟩:=gq K;obtain⟨z,B,m,U⟩:=Pu D l;have A:V (x.A[n]?=some a):=l;clear l;generalize F:Pi x.A k n=t at E p o j G;have C:V _:=F;clear F;by_cases f:n=k;have R:((n:Int) !=(k:Int))=false:=ns f
 have d:V (Pi x.A k (n+1)=t):=by
  rw[V,<-C.o,f];exact iV (by rw[<-f];exact A.o)
 clear f;refine X ?_;exact⟨i,e,(g.new _).put g.B _,L,by rw[d.o],by rw[d.o];exact J.put (J.new p _) _ _,by rw[d.o];exact o,by rw[V,d.o];exact j.o⟩;have R:((n:Int) !=(k:Int)):=by simp;omega
 have d:V (Pi x.A k (n+1)=t++[a]):=by
  rw[V,<-C.o];exact tK A.o f
 clear f;refine nh ?_;intro yb ya;refine hZ ((g.new _).put g.B _) ?_;intro u M S P ad Q ac a2;have q:V (Z (Pi x.A k (n+1))=Z t+1):=by rw[V,d.o];simp
 refine X ?_;refine⟨u,e++[my a.nt,Y (N.idxOf a.B:Nat),sl B (Z a.A) (A0 a.A)],P.put L _,L,by rw[q.o],by rw[q.o];exact J.put S _ _,by rw[q.o];simp;omega,?_⟩;rw[V,d.o];exact r.append j.o (r.single ⟨z,B,rfl⟩);obtain rfl:n=Z x.A:=L;rw[tJ]at E j;refine X ?_;exact⟨_,rfl,_,rfl,⟨I,v,i,e,j.o,rfl⟩,g.put L _⟩
def bH (o):∃s b,Q3 o=tp [ag (D5 s),my b]/\(b=false->o=none)/\(b=true->∃a,o=some a):=by
 cases o with
 |none=>exact⟨Mx,false,rfl,λ_=>rfl,λh=>gp⟩
 |some s=>exact⟨s,true,rfl,(λh=>gp),λ_=>⟨s,rfl⟩⟩
def fB (Lqx:List Lt)(rest:List Lt)(s:Sw)(x b:Lt):Option Sw:=if b.nt=x.nt/\x.pr=b.pr then (C9 s x.es b.es).bind (Hp Lqx rest)else none
def VS {α d:Type}{f}{l:List α}{i:Nat}{b}{o:d}(g:∀j,j<i->∀c,l[j]?=some c->f c=none)(n:l[i]?=some b)(k:f b=some o):l.findSome? f=some o:=by rw[findSome?_eq_some_iff];obtain⟨m,rfl⟩:=BA.1 n;refine⟨l.take i,l[i],l.drop (i+1),jx,k,λc e=>?_⟩;let⟨j,a⟩:=CL e;grind
def yQ {α b:Type}{f:α->Option b}{l}(e:∀j,j<Z l->∀c,l[j]?=some c->f c=none):l.findSome? f=none:=by rw[findSome?_eq_none_iff];intro c d;let⟨j,a⟩:=CL d;grind
def PO (left:oq)(a:AE):Prop:=Z a.A<=1000/\(∀t∈a.A,varOk t)/\∀b∈left,a.B=b.B->Z a.A=Z b.A
def xS (N left cl ad)(hL:r (PL N) left cl)(bl:Z left<=1000):∀(f:oq) (cs:oh) (y:Nat) (s:Sw) (k:St),r (PL N) f cs->Z f<=1000->(∀a∈f,PO left a)->
  ni 148 [ag (D5 s),sl y (Z f) cs,sl ad (Z left) cl] k λau σ'=>au=Q3 (Hp (left.map (Hc Aq N)) (f.map (Hc Aq N)) s)/\W k σ':=by
 have b9:=Di;have b8:=Rb;have b7:∀s,take 78 (D5 s)=D5 s:=λs=>FZ (by rw[Di];exact AU _);have cd:∀s p,lsp (D5 s) 0 (D5 p)=D5 p:=λs p=>I8 (by rw[Di,Di]);have ce:∀s,(D5 s).all flat:=λs=>by
  rw[CX];intro bt hx;obtain⟨br,-,rfl⟩:=AN.1 hx;unfold lA;split;rfl;split<;>rfl
 have bw:=r.length Eh hL;intro f;induction f with
 |nil=>
  intro cs y s k hE _ _;obtain rfl:cs=[]:=hE;have M:Q3 (Hp (left.map (Hc Aq N)) (([]:oq).map (Hc Aq N)) s)=tp [ag (D5 s),my true]:=rfl;rw[M];clear M;refine wl func148 ?_;refine X ?_;exact⟨_,rfl,rfl,Xs⟩
 |cons a f P=>
  intro cs y s k hE hn a4;have a6:=r.length Eh hE;obtain⟨c0,ao,⟨b1,K,rfl⟩,hd,rfl⟩:=hE;have cf:=r.length Eh hd;let⟨b0,bz,b2⟩:=a4 a nk;have ak:∀a∈f,PO left a:=λa' h=>a4 a' (ns h);have bq:Z f<=1000:=by simp at hn;omega
  have P:=λs k=>P ao 0 s k hd bq ak;clear a4 ak hn;have M:V (Hp (left.map (Hc Aq N)) ((a::f).map (Hc Aq N)) s=(left.map (Hc Aq N)).findSome? (fB (left.map (Hc Aq N)) (f.map (Hc Aq N)) s (Hc Aq N a))):=rfl;rw[M.o];generalize bh:fB (left.map (Hc Aq N)) (f.map (Hc Aq N)) s (Hc Aq N a)=C;have bm:V _:=bh;clear bh M;simp only[BQ,EW,FE]at a6⊢;refine wl func148 ?_;refine X ?_
  refine wn [1,2,3,6,8,21,22] 23 (Z left) (λi bj σ'=>W k σ'/\k.B+2<σ'.B/\σ'.C k.B=D5 s/\σ'.C (k.B+1)=D5 Mx/\σ'.C (k.B+2)=[my a.nt,Y (N.idxOf a.B:Nat),sl K (Z a.A) (A0 a.A)]/\V (∀j,j<i->∀c,(left.map (Hc Aq N))[j]?=some c->C c=none)) ⟨Xs,by simp only[Aa,Ac];omega,?_,?_,?_,λj hj=>L⟩ ?_
  rw[Aj L,Ah AM,Ah AM,Ao];rw[Aj L,Ah AM,Be AM AM];rw[show k.B+2=k.B+1+1 by omega,Ak];rintro i bj σ' _ ⟨h1,t,x,U,h8,G,m⟩ E ⟨D,cc,ay,ax,aw,a8⟩;have b5:=D.B;by_cases bf:i<Z left;have z:=AK bf;have a7:=AR bf;have bg:=b2 left[i] a7;let⟨hb,ib,au,bu⟩:=Pu hL z;have a9:(left.map (Hc Aq N))[i]?=some (Hc Aq N left[i]):=by rw[DC,z];rfl
  generalize left[i]=b at bu z hb bg a9 a7;have bi:V _:=a9;clear z a9 a7;have ac:V (C (Hc Aq N b)=none->∀j,j<i+1->∀c,(left.map (Hc Aq N))[j]?=some c->C c=none):=λh j hj c hc=>by
   by_cases a1:j=i;subst a1;rw[bi.o]at hc;cases hc;exact h;exact a8.o j L c hc
  have bo:N.idxOf a.B=N.idxOf b.B->Z a.A=Z b.A:=λh=>bg (E9 b1 hb h);by_cases v:b.nt=a.nt;have bp:(b.nt==a.nt):=ns v
  have d:=λk=>bE s (N.idxOf a.B:Nat) (N.idxOf b.B:Nat) a.A b.A K ib (λh=>bo L) b0 bz k;have n:V (C (Hc Aq N b)=(if ((N.idxOf a.B:Nat):Int)=((N.idxOf b.B:Nat):Int)then C9 s (a.A.map Aq) (b.A.map Aq)else none).bind (Hp (left.map (Hc Aq N)) (f.map (Hc Aq N)))):=by
   rw[V,<-bm.o];unfold fB Hc;dsimp only;by_cases hp:N.idxOf a.B=N.idxOf b.B;rw[if_pos ⟨v,hp⟩,if_pos L];rw[if_neg (λh=>hp h.2),if_neg L];rfl
  generalize (if ((N.idxOf a.B:Nat):Int)=((N.idxOf b.B:Nat):Int)then C9 s (a.A.map Aq) (b.A.map Aq)else none)=ow at d n;cases ow with
  |none=>
   simp only[Q3]at d;have a5:V (C (Hc Aq N b)=none):=n;refine mt d ?_;rintro yb ya _ _ ⟨rfl,F⟩;have e:=F.C;have ah:=F.B;simp only[Aa,Ac]at ah;refine X ?_;exact⟨(((((D.new _).put D.B _).trans F).new _).put L _),L,ac.o a5.o⟩
  |some B=>
   simp only[Q3]at d;have S:=P B;let⟨I,l,a0,bd,bc⟩:=bH (Hp (left.map (Hc Aq N)) (f.map (Hc Aq N)) B);rw[a0]at S;have HW:V (Q3 (C (Hc Aq N b))=tp [ag (D5 I),my l]/\(l=false->C (Hc Aq N b)=none)/\(l->∃p,C (Hc Aq N b)=some p)):=by
    rw[V,n.o];exact⟨a0,bd,bc⟩
   clear a0 bd bc n;refine mt d ?_;rintro yb ya _ _ ⟨rfl,F⟩;have e:=F.C;have ah:=F.B;simp only[Aa,Ac]at ah;refine X ?_;rename_i g;have ba:W k ((g.new (D5 Mx)).put g.B (D5 B)):=((((D.new _).put D.B _).trans F).new _).put L _;have bk:((g.new (D5 Mx)).put g.B (D5 B)).B=g.B+1:=rfl;have am:((g.new (D5 Mx)).put g.B (D5 B)).C g.B=D5 B:=Ak;have ai:((g.new (D5 Mx)).put g.B (D5 B)).C k.B=D5 s:=by rw[Aj L,Ah L,e _ BJ,Aj L,Ah L,ay]
   have a2:((g.new (D5 Mx)).put g.B (D5 B)).C (k.B+1)=D5 Mx:=by rw[Aj L,Ah L,e _ BJ,Aj L,Ah L,ax]
   have af:((g.new (D5 Mx)).put g.B (D5 B)).C (k.B+2)=[my a.nt,Y (N.idxOf a.B:Nat),sl K (Z a.A) (A0 a.A)]:=by rw[Aj L,Ah L,e _ BJ,Aj L,Ah L,aw]
   generalize (g.new (D5 Mx)).put g.B (D5 B)=R at ba bk am ai a2 af;clear F e d ay ax aw D;refine A2 (Q:=λa1 p σ'=>a1= .normal/\∃o:Nat,p 1=sl y (Z f+1) (my a.nt::Y (N.idxOf a.B:Nat)::sl K (Z a.A) (A0 a.A)::ao)/\p 2=sl ad (Z left) cl/\p 3=ptr k.B 0/\p 6=ptr (k.B+1) 0/\p 8=ptr (k.B+2) 0/\p 21=sl ad (Z left) cl/\p 22=Y (Z left)/\p 23=Y i/\p 12=my l/\p 13=ptr o 0/\R.B<=o/\o<σ'.B/\σ'.C o=D5 I/\W R σ') ?_ ?_;refine bT [10] [0,1,2,3] 7 (nv 11 15) ?_;refine D8 (rs:=[4,8]) AH nk ?_;intro j hj;simp only[BD,EK,DZ]at hj;obtain rfl|rfl:=hj;refine Am ?_;intro yb ya;refine Z3 ?_;refine AF.mono (S _) ?_;rintro _ ab ⟨rfl,q⟩;have aj:=q.B;refine ux ?_;refine Bu (i:=5) _ (tp [ag (D5 I),my l]) rfl rfl rfl rfl rfl AH AH (λ_ _ _ h=>by cases h.1) (λo u _=>q.ver o u) ?_;refine Bu (i:=6) _ (ag (D5 I)) rfl rfl rfl rfl rfl AH AH (λ_ _ _ h=>by cases h.1) (λo u _=>q.ver o u) ?_;refine Bu (i:=7) _ (my l) rfl rfl rfl rfl rfl AH AH (λ_ _ _ h=>by cases h.1) (λo u _=>q.ver o u) ?_;refine rl 8 ?_;refine rl 9 ?_;refine rl 10 ?_;refine Aw AH ⟨rfl,ab.B,by simp[upd,BC,h1],by simp[upd,BC,t],by simp[upd,BC,x],by simp[upd,BC,U],by simp[upd,BC,h8],by simp[upd,BC,G],by simp[upd,BC,m],by simp[upd,BC,E],by simp[upd,BC],by simp[upd,BC],L,BJ,Ak,(q.new _).put L _⟩;refine ta ?_;refine tn 4 S ?_;rintro yb ya _ ab ⟨rfl,bb⟩;have az:=bb.C;have aj:=bb.B;simp only[Aa]at aj;have b4:ab.C R.B=D5 Mx:=by rw[az _ (by rw[Aa];omega),Ao]
   have q:=((W.refl R).new (D5 Mx)).trans bb;refine ux ?_;refine Bu (i:=5) _ (tp [ag (D5 I),my l]) rfl rfl rfl rfl rfl AH AH (λ_ _ _ h=>by cases h.1) (λo u _=>q.ver o u) ?_;refine Bu (i:=6) _ (ag (D5 I)) rfl rfl rfl rfl rfl AH AH (λ_ _ _ h=>by cases h.1) (λo u _=>q.ver o u) ?_;refine Bu (i:=7) _ (my l) rfl rfl rfl rfl rfl AH AH (λ_ _ _ h=>by cases h.1) (λo u _=>q.ver o u) ?_;refine rl 9 ?_;refine rl 10 ?_;refine Aw AH ⟨rfl,g.B+1,by simp[upd,BC,h1],by simp[upd,BC,t],by simp[upd,BC,x],by simp[upd,BC,U],by simp[upd,BC,h8],by simp[upd,BC,G],by simp[upd,BC,m],by simp[upd,BC,E],by simp[upd,BC],by simp[upd,BC],L,by simp only[Ac];omega,Ak,q.put L _⟩;clear h1 t x U h8 G m E;rintro a1 p aa ⟨rfl,o,h1,t,x,U,h8,G,m,E,ch,cg,b6,ca,cb,A⟩;have T:=A.C;have bn:=A.B;have b3:=ba.trans A;have ay:aa.C k.B=D5 s:=by rw[T _ L,ai]
   have ax:aa.C (k.B+1)=D5 Mx:=by rw[T _ L,a2]
   have aw:aa.C (k.B+2)=[my a.nt,Y (N.idxOf a.B:Nat),sl K (Z a.A) (A0 a.A)]:=by rw[T _ L,af]
   clear T am ai a2 af A ba S P;cases l
   ·refine X ?_;exact⟨L,ac.o (HW.o.2.1 rfl)⟩
   refine X ?_;obtain⟨s2,be⟩:=HW.o.2.2 rfl;refine⟨_,rfl,?_,b3.put L _⟩;rw[VS a8.o bi.o be,<-be,HW.o.1]
  have bp:(b.nt==a.nt)=false:=nn v;have a5:V (C (Hc Aq N b)=none):=by
   rw[V,<-bm.o];unfold fB Hc;exact if_neg (λh=>v h.1)
  clear v;refine X ?_;exact⟨(D.new _).put D.B _,L,ac.o a5.o⟩;obtain rfl:i=Z left:=L;have a3:V ((left.map (Hc Aq N)).findSome? C=none):=yQ (by rw[BV];exact a8.o);refine X ?_;exact⟨_,rfl,by rw[a3.o];rfl,D.put L _⟩
def Km (e:Bool×Int):Tx:=if e.1=true then [UInt8.ofNat (IntKind.u8.wrap (65+e.2)).toNat]else Lib.itoa e.2
def TW (e:Bool×Int):Prop:=0<=e.2/\(e.1->e.2<26)/\e.2<=999/\Z (Km e)<=1000
def jR (e)(h:TW e)(a):ni 149 [ag [my e.1,Y e.2]] a λl σ'=>l=O (Km e)/\W a σ':=by
 have j:∀z:UInt8,({data:=#[z]}:ByteArray)=bs [z]:=λ_=>rfl;obtain⟨b,v⟩:=e;obtain⟨f,d,i,-⟩:=h;dsimp only at f d i⊢;cases b
 ·have g:=λa=>eJ v f L a;have c:V (Km (false,v)=Lib.itoa v):=rfl;generalize Lib.itoa v=w at g c;refine Z9 14 [.tmp 2] func149 ?_
  repeat' first|refine Z1 ?_|refine Z8 λyb ya=>?_|refine Z4 ?_;clear ya yb|refine Z2 ?_ ?_<;>intro h k<;>try exact Xp|refine Z5 ?_;refine Xi (g _) ?_;rintro _ _ ⟨rfl,rfl⟩|refine Z7 ?_|exact Zt|apply ya.o;clear ya yb
  exact⟨_,rfl,by rw[c.o],Xs⟩
 have d:=d rfl;have c:V (Km (true,v)=[UInt8.ofNat (IntKind.u8.wrap (65+v)).toNat]):=rfl;refine Z9 14 [.tmp 2] func149 ?_;refine mu ?_;exact⟨_,rfl,by rw[c.o],Xs⟩
def Vw (a t):Bp (a++[t])=Bp a++((if a=[]then []else [44])++t):=by
 cases a with
 |nil=>simp[Bp,Ch]
 |cons u a=>simp[Bp,Ch]
def Mz (N:ol)(y:AB)(k:Nat)(a:Sw):Option Sw:=if Fi (C8 y k)=true then Hp ((y.A.eraseIdx k).map (Hc Aq N)) (y.A.map (Hc Aq N)) a else none
def Ms {y k}(h:y.fits):(C8 y k).fits:=
 ⟨BI (JF _ _) h.1,h.2.1,λa b=>h.2.2 a (EE b)⟩
def lV (N y c k s0)(Jqx:PI N y c)(o:y.fits)(R:C9 Mx (y.h.A.map Aq) (y.h.A.map Aq)=some s0)(hv:∀t∈y.h.A,varOk t)(U:∀a∈y.A,PO (y.A.eraseIdx k) a)(d):
  ni 94 [ag c,Y k] d λa5 σ'=>a5=Q3 (Mz N y k s0)/\W d σ':=by
 have bb:=Di;have ba:=Rb;have a9:∀s,take 78 (D5 s)=D5 s:=λs=>FZ (by rw[Di];exact AU _);have bc:∀s p,lsp (D5 s) 0 (D5 p)=D5 p:=λs p=>I8 (by rw[Di,Di]);have bd:∀s,(D5 s).all flat:=λs=>by
  rw[CX];intro ac u;obtain⟨ab,-,rfl⟩:=AN.1 u;unfold lA;split
  ·rfl
  split<;>rfl
 have M:=λd=>Pm N y c k Jqx o.1 d;have i:=λc' x d=>Xy N (C8 y k) c' x (λh=>by cases h) (Ms o) d;have K:=o.1;obtain⟨hm,ih,id,a2,hb,rfl⟩:=Jqx;have j:=λP T d=>bE Mx (N.idxOf y.h.B:Nat) (N.idxOf y.h.B:Nat) y.h.A y.h.A P T (λ_=>rfl) o.2.1 hv d;rw[if_pos rfl,R]at j;simp only[Q3]at j;have F:=λcl D hL C d=>xS N (y.A.eraseIdx k) cl D hL (BI (JF _ _) K) y.A a2 C s0 d hb K U;obtain⟨z,a6,l,-,-⟩:=bH (Hp ((y.A.eraseIdx k).map (Hc Aq N)) (y.A.map (Hc Aq N)) s0);rw[l]at F;cases m:Fi (C8 y k)with
 |false=>
  have E:V (Q3 (Mz N y k s0)=tp [ag (D5 Mx),my false]):=by rw[V,Mz,if_neg (by rw[m];simp)];rfl
  rw[m]at i;clear F j l;refine wl func94 ?_
  repeat' first|refine Z1 ?_|refine Z8 λyb ya=>?_|refine Z4 ?_;clear ya yb|refine Z2 ?_ ?_<;>intro h a1<;>try exact Xp|(refine Z5 ?_;first|(refine Xi (M _) ?_;rintro _ _ ⟨B,rfl,e,g⟩;(have Q:=g.C;have q:=g.B;simp only[Aa]at q;have G:=i B e;obtain⟨a7,aa,a8,S,n,rfl⟩:=e))|(refine Xi (G _) ?_;rintro _ _ ⟨rfl,f⟩;(have v:=f.C;have A:=f.B;simp only[Aa,Ac]at A)))|refine Z7 ?_|exact Zt|apply ya.o;clear ya yb
  exact⟨_,rfl,by rw[E.o],Xs⟩
 |true=>
  have E:V (Q3 (Mz N y k s0)=tp [ag (D5 z),my a6]):=by rw[V,Mz,if_pos m];exact l
  rw[m]at i;clear l;refine wl func94 ?_
  repeat' first|refine Z1 ?_|refine Z8 λyb ya=>?_|refine Z4 ?_;clear ya yb|refine Z2 ?_ ?_<;>intro h a1<;>try exact Xp|(refine Z5 ?_;first|(refine Xi (M _) ?_;rintro _ _ ⟨B,rfl,e,g⟩;(have Q:=g.C;have q:=g.B;simp only[Aa]at q;have G:=i B e;obtain⟨a7,aa,a8,S,n,rfl⟩:=e))|(refine Xi (G _) ?_;rintro _ _ ⟨rfl,f⟩;(have v:=f.C;have A:=f.B;simp only[Aa,Ac]at A))|(refine Xi (j _ _ _) ?_;rintro _ _ ⟨rfl,b⟩;(have a3:=b.C;have a4:=b.B))|(refine Xi (F _ _ n _ _) ?_;rintro _ _ ⟨rfl,I⟩;(have a0:=I.C;have an:=I.B;simp only[Aa,Ac]at an)))|refine Z7 ?_|exact Zt|apply ya.o;clear ya yb
  exact⟨_,rfl,by rw[E.o],Xs⟩
theorem Cb (t):(Aq t).1=Ab t:=by
 cases t with
 |nil=>rfl
 |cons b a=>
  unfold Aq Ab;dsimp only;split;rename_i h;rw[h];rename_i h;simp at h;rw[h]
def UT (t:Tx):Prop:=DT t/\Mm t/\Z t<=1000/\(Ab t->∃k:Nat,k<26/\t=[Im k])
def UT.enc {t}(h:UT t)(a:Ab t):∃k:Nat,k<26/\t=[Im k]/\Aq t=(true,(k:Int)):=by obtain⟨k,b,rfl⟩:=h.2.2.2 a;refine⟨k,b,rfl,?_⟩;rw[Et (E4 L L),Fv L L];congr 1;omega
def DJ:GU Aq UT where
 var:=λt _=>Cb t
 inj:=λt u a f h=>by
  have c:Ab t=Ab u:=by grind[Cb]
  cases b:Ab t
  ·rcases a.1 with d|⟨-,d,-⟩;rw[b]at d;cases d;rcases f.1 with h2|⟨-,h2,-⟩;rw[<-c,b]at h2;cases h2;rw[<-d,<-h2,h]
  obtain⟨k,l,rfl,g⟩:=a.enc b;obtain⟨j,i,rfl,e2⟩:=f.enc (gp);grind
 pos:=λt a c=>by obtain⟨k,-,-,e⟩:=a.enc c;exact e▸KA _
def UT.varOk {t}(h:UT t):varOk t:=λa=>by rw[Cb]at a;obtain⟨k,b,-,e⟩:=h.enc a;grind
def UT.dec {t}(h:UT t):Km (Aq t)=t/\TW (Aq t):=by
 have f:Km (Aq t)=t:=by
  cases b:Ab t
  ·rcases h.1 with a|⟨-,a,-⟩;rw[b]at a;cases a;unfold Km;rw[if_neg (by grind[Cb]),a]
  obtain⟨k,c,rfl,e⟩:=h.enc b;rw[e];unfold Km;rw[if_pos rfl,L1 L L]
 refine⟨f,?_,?_,?_,by rw[f];exact h.2.2.1⟩;cases b:Ab t with
 |true=>obtain⟨k,c,-,e⟩:=h.enc b;exact e▸KA _
 |false=>
  obtain a|a:=h.1;rw[b]at a;cases a;exact a.2.2.1
 intro d;rw[Cb]at d;obtain⟨k,c,-,e⟩:=h.enc d;rw[e];show (k:Int)<26;omega;cases b:Ab t
 ·rcases h.1 with a|a;rw[b]at a;cases a;exact a.2.2.2
 obtain⟨k,c,-,e⟩:=h.enc b;rw[e];show (k:Int)<=999;omega
structure lr (y:AB):Prop where
 ut:∀a∈Af y,∀t∈a.A,UT t
 o:y.o=false
 ord:Au y=(range (Z (Au y))).map fun i=>[Im (i:Nat)]
 len:Z (Au y)<=26
def K8 {acc t u}(h:∀v∈acc,Ab v)(a:u∈Er acc t):Ab u/\(u∈acc\/u=t):=by grind[Er]
def K7:∀(f acc:ol),(∀v∈acc,Ab v)->acc.Nodup->(∀v∈Fu acc f,Ab v/\(v∈acc\/v∈f))/\(Fu acc f).Nodup
 |[],acc,h,g=>⟨λv c=>⟨h v c,.inl c⟩,g⟩
 |t::f,acc,h,g=>by
  have n:(Er acc t).Nodup:=by grind[Er]
  let⟨o,m⟩:=K7 f (Er acc t) (λv c=>(K8 h c).1) n;refine⟨λv c=>?_,m⟩;let⟨k,d⟩:=o v c;refine⟨k,?_⟩;obtain d|d:=d;obtain q|q:=(K8 h d).2;exact .inl q;exact .inr (ns q);exact .inr (ns d)
def Yi (w):∀(c acc:ol),(∀v∈acc,Ab v)->(∀t∈c,Ab (w t)=Ab t)->(∀t u,(t∈acc\/t∈c)->(u∈acc\/u∈c)->Ab t->Ab u->w t=w u->t=u)->Fu (acc.map w) (c.map w)=(Fu acc c).map w
 |[],acc,_,_,_=>rfl
 |t::c,acc,i,m,l=>by
  show Fu (Er (acc.map w) (w t)) (c.map w)=(Fu (Er acc t) c).map w;have e:Er (acc.map w) (w t)=(Er acc t).map w:=by
   unfold Er;rw[m t nk];by_cases d:Ab t=true/\t∉acc;have o:w t∉acc.map w:=λj=>gp
   rw[if_pos d,if_pos ⟨d.1,o⟩,EU,CC,IK];rw[if_neg d,if_neg (λh=>d ⟨h.1,λj=>h.2 (AN.2 ⟨t,j,rfl⟩)⟩)]
  rw[e];refine Yi w c (Er acc t) (λv h=>(K8 i h).1) (λn h=>m n (ns h)) (λa b g f=>l a b ?_ ?_);obtain g|g:=g;obtain q|q:=(K8 i g).2;exact .inl q;exact .inr (ns q);exact .inr (ns g);obtain f|f:=f;obtain q|q:=(K8 i f).2;exact .inl q;exact .inr (ns q);exact .inr (ns f)
theorem Hz {α b:Type}(f:α->b):∀(l:List α) (k:Nat),(l.map f).eraseIdx k=(l.eraseIdx k).map f
 |[],k=>rfl
 |a::l,0=>rfl
 |a::l,k+1=>by simp_all[Hz]
structure XR (x:AB):Prop where
 dt:∀a∈Af x,∀t∈a.A,DT t/\Mm t/\Z t<=1000
 o:x.o=false
 few:Z (Au x)<=26
section
variable {x:AB} (hx:XR x)
include hx
theorem XR.mem {a}(b:a∈Af x){t}(d:t∈a.A)(c:Ab t):t∈Au x:=No _ _ _ (.inr ⟨EX.2 ⟨a,b,d⟩,c⟩)
theorem XR.which {t}(h:t∈Au x):Bv (Au x) t=((Au x).idxOf t:Nat)/\(Au x).idxOf t<Z (Au x):=⟨by grind[Bv],CS h⟩
theorem XR.rng {a}(b:a∈Af x){t}(d:t∈a.A)(c:Ab t):0<=Bv (Au x) t/\Bv (Au x) t<26:=by let⟨e,e2⟩:=hx.which (hx.mem b d c);have:=hx.few;rw[e];omega
theorem XR.inj {a b}(i:a∈Af x)(g:b∈Af x){t u}(f:t∈a.A)(e:u∈b.A)(h:C6 (Au x) t=C6 (Au x) u):t=u:=by
 have q:=Hu (l:=Au x) (λc=>hx.rng i f c);have p:=Hu (l:=Au x) (λc=>hx.rng g e c);have k:Ab t=Ab u:=gp
 cases c:Ab t
 ·have d:Ab u=false:=gp
  unfold C6 at h;rwa[if_neg (gp),if_neg (gp)]at h
 have d:Ab u=true:=gp
 have m:=hx.rng i f c;have n:=hx.rng g e d;unfold C6 at h;rw[if_pos c,if_pos d]at h;have y:Im (Bv (Au x) t)=Im (Bv (Au x) u):=nn h;have s:((Im (Bv (Au x) t)).toNat:Int)=(Im (Bv (Au x) u)).toNat:=gp
 rw[Fv m.1 m.2,Fv n.1 n.2]at s;have j:=hx.mem i f c;have o:=hx.mem g e d;have v:=(hx.which j).1;have e2:=(hx.which o).1;exact E9 j o L
theorem XR.ut {a}(f:a∈Af x){t}(g:t∈a.A):UT (C6 (Au x) t):=by
 obtain⟨j,k,l⟩:=hx.dt a f t g;cases c:Ab t
 ·have e:C6 (Au x) t=t:=by grind[C6]
  rw[e];exact⟨j,k,l,λh=>gp⟩
 obtain⟨i,m⟩:=hx.rng f g c;have e:C6 (Au x) t=[Im ((Bv (Au x) t).toNat:Nat)]:=by grind[C6]
 rw[e];exact⟨.inl (E4 L L),⟨nk,λb d=>by grind[E4]⟩,nk,λ_=>⟨_,L,rfl⟩⟩
theorem XR.atoms:Af (ren x)=(Af x).map (Br (Au x)):=by grind[Af,ren]
theorem XR.ord:Au (ren x)=(Au x).map (C6 (Au x)):=by
 have d:(Af (ren x)).flatMap (·.A)=((Af x).flatMap (·.A)).map (C6 (Au x)):=by
  rw[hx.atoms,JG,LH];rfl
 have c:∀t,t∈(Af x).flatMap (·.A)->∃a∈Af x,t∈a.A:=λt i=>gp
 have:=Yi (C6 (Au x)) ((Af x).flatMap (·.A)) [] nk (λt i=>by
  let⟨a,e,g⟩:=c t i;exact Hu (λk=>hx.rng e g k)) (λt u d f _ _ h=>by
  obtain d|d:=d;cases d;obtain f|f:=f;cases f;let⟨a,e,g⟩:=c t d;let⟨b,j,l⟩:=c u f
  exact hx.inj e j g l h)
 show Fu [] ((Af (ren x)).flatMap (·.A))=_;exact d▸this
theorem XR.inO:lr (ren x) where
 ut:=λa d t f=>by rw[hx.atoms]at d;obtain⟨l,g,rfl⟩:=AN.1 d;simp only[Br,AN]at f;obtain⟨m,k,rfl⟩:=f;exact hx.ut g k
 o:=hx.o
 ord:=by rw[hx.ord,BV];have b:=(K7 ((Af x).flatMap (·.A)) [] nk GN);apply FL;intro i;rw[DC,DC];by_cases c:i<Z (Au x);rw[AK c,getElem?_range c];simp only[GJ];congr 1;have e:=AR c;have j:=(b.1 _ e).1;rw[C6];rw[if_pos j];have:(Au x).idxOf (Au x)[i]=i:=Nodup.idxOf_getElem b.2 i c;rw[(hx.which e).1,this];rw[FD L,FD (nn c)];rfl
 len:=by rw[hx.ord,BV];exact hx.few
theorem XR.tell:GU (λt=>Aq (C6 (Au x) t)) (λt=>∃a∈Af x,t∈a.A) where
 var:=λt ⟨a,c,d⟩=>by rw[Cb];exact Hu (λe=>hx.rng c d e)
 inj:=λt u ⟨a,c,d⟩ ⟨b,f,g⟩ h=>hx.inj c f d g (DJ.inj _ _ (hx.ut c d) (hx.ut f g) h)
 pos:=λt ⟨a,c,d⟩ e=>DJ.pos _ (hx.ut c d) (Hu (λe=>hx.rng c d e)▸e)
theorem XR.search {N k}(o:∀a∈x.A,a.B∈N)(c:∀a∈x.A,∀b∈x.A,a.B=b.B->Z a.A=Z b.A):
  ∃e,C9 Mx ((ren x).h.A.map Aq) ((ren x).h.A.map Aq)=some e/\((∃g,Hp (((ren x).A.eraseIdx k).map (Hc Aq N)) ((ren x).A.map (Hc Aq N)) e=some g)↔Hj x k):=by
 let⟨e,i,p⟩:=P1 hx.tell N x k o (λt d=>⟨x.h,Ap (.inl ⟨hx.o,rfl⟩),d⟩) (λa n t d=>⟨a,Ap (.inr n),d⟩) c (λt d u j h=>hx.tell.inj t u d j h);have l:(ren x).h.A.map Aq=x.h.A.map λt=>Aq (C6 (Au x) t):=by simp[ren,Br]
 have e2:∀f:oq,(f.map (Br (Au x))).map (Hc Aq N)=f.map (Hc (λt=>Aq (C6 (Au x) t)) N):=λf=>by simp_all[BH,CG,Hc,Br]
 have m:(ren x).A.eraseIdx k=(x.A.eraseIdx k).map (Br (Au x)):=by simp[ren,Hz]
 refine⟨e,l▸i,?_⟩;rw[m,show (ren x).A=x.A.map (Br (Au x))from rfl,e2,e2];exact p
theorem XR.safe (k):Fi (C8 (ren x) k)=Db (C8 x k):=by
 rw[Fi,Db];congr 1;have v:(C8 (ren x) k).A=(x.A.eraseIdx k).map (Br (Au x)):=by simp[C8,ren,Hz]
 have m:Af (C8 (ren x) k)=(Af (C8 x k)).map (Br (Au x)):=by simp[Af,C8,ren,Hz]
 have l:∀b∈x.A.eraseIdx k,b∈Af x:=λb g=>Ap (.inr (EE g));rw[m,any_map];apply Ev;intro a f;have d:a∈Af x:=by simp[Af,C8]at f;obtain rfl|f:=f;exact Ap (.inl ⟨hx.o,rfl⟩);exact l a f
 unfold zI bC;simp only[Function.comp,Br,any_map];apply Ev;intro t e;simp only[Function.comp];rw[Cb,Hu (λc=>hx.rng d e c)];cases c:Ab t
 ·rfl
 congr 2;unfold Ga Ma;rw[v,any_map];show _=(x.A.eraseIdx k).any _;apply Ev;intro b g;have i:=l b g;simp only[Function.comp,Br,any_map];have n:∀u∈b.A,Ql (Aq (C6 (Au x) t)).2 (C6 (Au x) u)=(u==t):=λu j=>by
  unfold Ql;rw[GI];simp only[BM,DO];constructor;rintro⟨s,o⟩;exact hx.inj i d j e (DJ.inj _ _ (hx.ut i j) (hx.ut d e) (GB (by rw[s,Cb,Hu (λc=>hx.rng d e c),c]) o));rintro rfl;exact⟨by rw[Cb,Hu (λc=>hx.rng d e c),c],rfl⟩
 rw[Ev (p:=Ql (Aq (C6 (Au x) t)).2∘C6 (Au x)) (q:=λu=>u==t) n];cases b.nt<;>simp
end
structure CW (t:Tx)(N:ol)(l:n0)(cs:oh):Prop where
 ok:(Av t).1=0
 len:Z t<=600
 parse:Cc 16 t= .got l []
 bk:Bk N l cs
 wit:∀x∈l,Dc x
def CW.items {t N l cs}(h:CW t N l cs):Bl t=l:=(Ep (ny h.len) h.parse).2.1
def CW.wi {t N l cs}(h:CW t N l cs):∀x∈l,WI N x:=j6 (ny h.len) h.parse h.bk h.wit
def jk {x}(g:Dc x):Z (Au x)<=18:=by
 have i:=Ro ((Af x).flatMap (·.A)) [];let⟨n,d,j⟩:=g;have k:Z (Af x)<=6/\∀b∈Af x,Z b.A<=3:=by
  cases a:x.o
  ·obtain⟨l,-,e2,f⟩:=j a;refine⟨by grind[Af],λb c=>?_⟩;simp[Af,a]at c;rcases c with rfl|c;exact l.2.2.1;exact (f b c).2.2.1
  obtain⟨-,-,e⟩:=d a;simp[Af,a,e]
 have m:=nX k.2;rw[Au];grind
def Jo {p n}(h:¬0<=Bn p n):∀i,i<n->p i=false:=by grind[Bn]
def dM {t}(h:(Av t).1=0):∀x∈Bl t,∀a∈Af x,∀b∈Af x,a.B=b.B->Z a.A=Z b.A:=by
 have s:∀i,i<Z (Bl t)->Gn (Bl t) i=false:=by
  rw[Av]at h;split at h;simp at h;split at h;simp at h;rw[Co]at h;split at h;simp at h;rename_i c;exact Jo c
 intro x p a v b q f;let⟨i,o⟩:=CL p;have l:=s i (BA.1 o).1;rw[Gn]at l;rw[o]at l;simp only[EV,mem_range]at l;let⟨j,d⟩:=CL v;let⟨k,c⟩:=CL q;have e:∀(j k:Nat) (a b:AE),(Af x)[j]?=some a->(Af x)[k]?=some b->k<j->a.B=b.B->Z a.A=Z b.A:=by
  intro j k a b d c m f;have g:=l j (BA.1 d).1;rw[Mh]at g;rw[d]at g;simp only[CU,not_exists,not_and]at g
  have n:=g b (by
   rw[Ct]
   exact AW.2 (.inr (AY (i:=k) (gp))))
  rw[clash]at n;grind
 obtain m|rfl|u:=KE j k;exact (e k j b a c d m f.symm).symm;rw[d]at c;cases c;rfl;exact e j k a b d c u f
def Me {t}(h:UT t):VT t:=by
 cases i:Ab t
 ·refine .inr ⟨h.2.1.1,λb g=>?_⟩;rcases h.2.1.2 b g with q|q;exfalso;rcases h.1 with d|⟨-,d,h2,h3⟩;rw[i]at d;cases d;have l:∀(u:Nat),∀c∈Lib.decDigits u,c.toNat<=57:=by
   intro u;induction u using Nat.strongRecOn with
   |_ u j=>
    intro c a;by_cases f:u<10;rw[Lib.decDigits_one f]at a;simp only[FY]at a;subst a;rw[UInt8.toNat_ofNat_of_lt' (gp)];omega;rw[Lib.decDigits,dif_neg f]at a;rcases AW.1 a with q|q;exact j (u / 10) L c q;simp only[FY]at q;subst q;rw[UInt8.toNat_ofNat_of_lt' (gp)];omega
  have e:b∈Lib.itoa (Aq t).2:=gp
  unfold Lib.itoa at e;rw[if_neg L]at e;have:=l _ b e;simp[Bs]at q;omega;exact q
 obtain⟨k,m,rfl,-⟩:=h.enc i;exact .inl ⟨_,rfl,E4 L L⟩
def jC {α:Type}(g h):∀l:List α,(∀a∈l,Z (g a)<=Z (h a))->Z (Ch (l.map g))<=Z (Ch (l.map h))
 |[],_=>gp
 |a::l,c=>by
  have e:=jC g h l λb d=>c b (ns d);have f:=c a nk;unfold Ch at*;grind
def Q5 {α:Type}(g h):∀l:List α,(∀a∈l,Z (g a)<=Z (h a))->Z (Bp (l.map g))<=Z (Bp (l.map h))
 |[],_=>gp
 |a::l,c=>by have e:=jC g h l λb d=>c b (ns d);have f:=c a nk;simp only[CC,Bp,AX];omega
def gh {l t}(h:Mm t):Z (C6 l t)<=Z t:=by rw[C6];split;have:=length_pos_iff.2 h.1;simp only[BQ,CQ];omega;exact AU _
def jH {l a}(h:En a):Z (Bh (Br l a))<=Z (Bh a):=by have b:=Q5 (C6 l) id a.A λt c=>gh (h.2.2.2 t c);rw[IE]at b;unfold Bh Br;grind
def YC {l a}(h:En a):Z (Cl (Br l a))<=Z (Cl a):=by have b:=jH (l:=l) h;unfold Cl;rw[AX,AX];show Z (if a.nt=true then [33]else ([]:Tx))+_<=_;omega
def jF {x}(h:Dc x):Z (Bz (ren x))<=Z (Bz x):=by
 unfold Bz;cases c:x.o
 ·obtain⟨g,-,-,f⟩:=h.2.2 c;rw[if_neg (by grind[ren]),if_neg nk];have i:=jH (l:=Au x) g;have e:=Q5 (λa=>Cl (Br (Au x) a)) Cl x.A λa d=>YC (f a d);unfold D1;show Z (Bh (Br (Au x) x.h)++(if x.A.map (Br (Au x))=[]then []else 58::45::Bp ((x.A.map (Br (Au x))).map Cl)))<=_;rw[BH,AX,AX];by_cases b:x.A=[];rw[if_pos (gp),if_pos b];simpa using i;rw[if_neg (nn b),if_neg b];simp only[BQ];have j:Z (Bp (x.A.map (Cl∘Br (Au x))))<=Z (Bp (x.A.map Cl)):=e;omega
 rw[if_pos (by grind[ren]),if_pos rfl];simp[ren,Br]
def bM:∀l:n0,(∀x∈l,Dc x)->Z (Cr (l.map ren))<=Z (Cr l)
 |[],_=>gp
 |x::l,h=>by
  have c:=bM l λy a=>h y (ns a);have b:=jF (h x nk);unfold Cr at*;grind
def mC (p:Tx×Tx):oh:=[O p.1,O p.2]
def Ds (l:List (Tx×Tx)):oh:=l.flatMap mC
def Qa (l):Z (Ds l)=Z l*2:=by
 induction l with
 |nil=>rfl
 |cons a l b=>rw[Ds]at*;rw[DN,AX,b];simp[mC];omega
def mB (l p):Ds (l++[p])=Ds l++[O p.1,O p.2]:=by simp[Ds,mC]
def X6 {l k p}(h:l[k]?=some p):∃f,(Ds l).drop (k*2)=O p.1::O p.2::f:=by
 have d:∀l:List (Tx×Tx),r (λp c=>c=mC p) l (Ds l):=by
  intro l;induction l with
  |nil=>rfl
  |cons a l b=>exact⟨mC a,Ds l,rfl,b,by simp[Ds]⟩
 obtain⟨c,f,rfl,e⟩:=r.get (z:=2) (λa c h=>by rw[h];rfl) (d l) h;exact⟨f,e⟩
structure CE (σ σ':St):Prop where
 B:σ.B<=σ'.B
 C:∀o,o<σ.B->σ'.C o=σ.C o
 ver:∀o,o<σ.B->σ'.ver o=σ.ver o
def CE.refl (a):CE a a:=⟨AU _,λ_ _=>rfl,λ_ _=>rfl⟩
def CE.new {a b}(h:CE a b)(cs):CE a (b.new cs):=by let⟨f,d,e⟩:=h;exact⟨by grind[St.new],λo c=>by grind[Ah],λo c=>e o c⟩
def CE.of {a b c}(h:CE a b)(f:c.C=b.C)(h2:c.B=b.B)(e:c.ver=b.ver):CE a c:=⟨h2▸h.B,λo d=>f▸h.C o d,λo d=>e▸h.ver o d⟩
def rB (l:List (Tx×Tx)):Option (List (Tx×Tx))->List (Tx×Tx)->Bool->Prop
 |some a,c,b=>c=a/\b=true
 |none,c,b=>b=false
def mH {l}{b a:ol}{k t u}(f:b[k]?=some t)(d:a[k]?=some u):Dg l (b.drop k) (a.drop k)=if Ab t=true then Dg (l++[(t,u)]) (b.drop (k+1)) (a.drop (k+1))else if t=u then Dg l (b.drop (k+1)) (a.drop (k+1))else none:=by let⟨c,g⟩:=BA.1 f;let⟨e,e2⟩:=BA.1 d;rw[ET c,ET e,g,e2];rfl
def X8 (σ0 l id a b E M)(U:Bf a E)(a4:Bf b M)(hl:Z l<=1000000)(bb:Z a.A<=1000)(e)(y:W σ0 e)(x:J σ0 e id (Z l)):
  ni 233 [sl id (Z l) (Ds l),ag E,ag M] e λa6 σ'=>∃id' d ok,a6=tp [sl id' (Z d) (Ds d),my ok]/\rB l (Dh l a b) d ok/\Z d<=Z l+1000/\J σ0 σ' id' (Z d)/\W σ0 σ'/\CE e σ':=by
 obtain⟨a3,rfl⟩:=U;obtain⟨P,rfl⟩:=a4;have ac:=Qa l;by_cases f:a.nt=b.nt;have K:(a.nt==b.nt):=ns f
 by_cases n:a.B=b.B;have N:(a.B==b.B):=ns n
 by_cases q:Z a.A=Z b.A;have F:((Z a.A:Int) !=(Z b.A:Int))=false:=ns q
 have i:V (Dh l a b=Dg l a.A b.A):=by rw[V,Dh,if_pos ⟨f,n,q⟩]
 have a5:V _:=q;clear f n q;refine wl func233 ?_;refine X ?_
 refine Ae (λm s σ'=>∃(k id':Nat) (d:List (Tx×Tx)),m=Z a.A-k/\k<=Z a.A/\s 0=sl id' (Z d) (Ds d)/\s 4=ptr e.B 0/\s 5=ptr (e.B+1) 0/\s 8=Y k/\W σ0 σ'/\CE e σ'/\e.B+1<σ'.B/\σ'.C e.B=[my a.nt,O a.B,lw a3 a.A]/\σ'.C (e.B+1)=[my b.nt,O b.B,lw P b.A]/\J σ0 σ' id' (Z d)/\Z d<=Z l+k/\V (Dg l a.A b.A=Dg d (a.A.drop k) (b.A.drop k))) (Z a.A)
  ⟨0,id,l,L,L,by simp[upd,AL],AG,AG,rfl,(y.new _).new _,((CE.refl e).new _).new _,AM,?_,?_,J.new (J.new x _) _,L,by simp[V]⟩ ?_
 rw[Ah AM,Ao];rw[Be AM AM];rintro m s σ' ⟨k,id',d,rfl,hk,h0,h4,h5,h8,hK,S,ba,a9,a8,B,aa,z⟩;have az:=Qa d;by_cases D:k<Z a.A;have C:k<Z b.A:=ny a5.o
 have I:=A1 D;have a1:=A1 C;have g:V (Dg l a.A b.A=if Ab a.A[k]=true then Dg (d++[(a.A[k],b.A[k])]) (a.A.drop (k+1)) (b.A.drop (k+1))else if a.A[k]=b.A[k]then Dg d (a.A.drop (k+1)) (b.A.drop (k+1))else none):=by
  rw[V,z.o,mH (AK D) (AK C)]
 generalize a.A[k]=t at I g;generalize b.A[k]=u at a1 g;clear z;cases j:Ab t
 ·have p:=λe=>Cg t e;rw[j]at p;by_cases o:t=u;have R:(t==u)=true:=by simp[o]
  have g:V (Dg l a.A b.A=Dg d (a.A.drop (k+1)) (b.A.drop (k+1))):=by rw[V,g.o,if_neg (by rw[j];simp),if_pos o]
  clear j o;refine m0 ?_;intro yb ya;refine Xi (p _) ?_;rintro _ _ ⟨rfl,c⟩;(replace c:=c.symm;subst c);refine X ?_;refine Ax Ag (λ_=>True) [] [0,1,2,3,4,5,6,7,8,9,10] [] AH (λ_ _ _ h=>h) ?_;intro yb ya;refine X ?_;exact⟨Z a.A-(k+1),L,k+1,id',d,rfl,L,rfl,nk,B,L,g⟩;have R:(t==u)=false:=nn o;have g:V (Dg l a.A b.A=none):=by rw[V,g.o,if_neg (by rw[j];simp),if_neg o]
  clear j o;refine m0 ?_;intro yb ya;refine Xi (p _) ?_;rintro _ _ ⟨rfl,c⟩;(replace c:=c.symm;subst c);refine X ?_;refine Ax Ag (λ_=>True) [] [0,1,2,3,4,5,6,7,8,9,10] [] AH (λ_ _ _ h=>h) ?_;intro yb ya;refine X ?_;exact⟨_,rfl,id',d,false,rfl,by rw[i.o,g.o];rfl,L,B⟩
 have g:V (Dg l a.A b.A=Dg (d++[(t,u)]) (a.A.drop (k+1)) (b.A.drop (k+1))):=by rw[V,g.o,if_pos j]
 have p:=λe=>Cg t e;rw[j]at p;clear j;refine m0 ?_;intro yb ya;refine Xi (p _) ?_;rintro _ _ ⟨rfl,c⟩;(replace c:=c.symm;subst c);refine X ?_;refine Ax Ag (λ_=>True) [13,14] [0,1,2,3,4,5,6,7,8,9,10,11] [12,13,14] AH (λ_ _ _ h=>h) ?_;have bc:W σ' (σ'.lay 1):=(W.refl _).lay 1;intro yb ya;refine m4 ?_;intro A a7 a2 aj a0 Q T ab;refine X ?_;exact⟨Z a.A-(k+1),L,k+1,A,d++[(t,u)],rfl,L,by rw[mB];simp,nk,S.of a0 Q T,nn a2,by simp;omega,g⟩
 obtain rfl:k=Z a.A:=L;have G:V (Dh l a b=some d):=by rw[V,i.o,z.o,IZ];simp[Dg]
 refine X ?_;exact⟨_,rfl,id',d,true,rfl,by rw[G.o];exact⟨rfl,rfl⟩,L,B⟩;have F:((Z a.A:Int) !=(Z b.A:Int)):=nn (show¬(Z a.A:Int)=(Z b.A:Int)by omega);have i:Dh l a b=none:=by rw[Dh,if_neg (λh=>q h.2.2)]
 have v:V _:=i;clear f n q i;refine wl func233 ?_;refine X ?_;refine⟨_,rfl,id,l,false,rfl,by rw[v.o];rfl,L,J.new (J.new x _) _,(y.new _).new _,((CE.refl e).new _).new _⟩;have N:(a.B==b.B)=false:=nn n;have i:Dh l a b=none:=by rw[Dh,if_neg (λh=>n h.2.1)]
 have v:V _:=i;clear f n i;refine wl func233 ?_;refine X ?_;refine⟨_,rfl,id,l,false,rfl,by rw[v.o];rfl,L,J.new (J.new x _) _,(y.new _).new _,((CE.refl e).new _).new _⟩;have K:(a.nt==b.nt)=false:=nn f;have i:Dh l a b=none:=by rw[Dh,if_neg (λh=>f h.1)]
 have v:V _:=i;clear f i;refine wl func233 ?_;refine X ?_;refine⟨_,rfl,id,l,false,rfl,by rw[v.o];rfl,L,J.new (J.new x _) _,(y.new _).new _,((CE.refl e).new _).new _⟩
def zT (l:List (Tx×Tx))(i k:Nat):Prop:=∀b,b<k->∀p q,l[i]?=some p->l[b]?=some q->p.1=q.1->p.2=q.2
def XH {l}(h:∀i,i<Z l->zT l i i):Agree l:=by intro p f q d c;let⟨i,b⟩:=CL f;let⟨k,a⟩:=CL d;have j:=(BA.1 b).1;have e:=(BA.1 a).1;obtain g|rfl|m:=KE i k;exact (h k e i g q p a b c.symm).symm;rw[b]at a;cases a;rfl;exact h i j k m p q b a c
def sY (l id)(hl:Z l<=1000000)(M):ni 234 [sl id (Z l) (Ds l)] M λa4 σ'=>∃b,a4=my b/\(b=true↔Agree l)/\σ'=M:=by
 have a5:=Qa l;refine wl func234 ?_;refine X ?_
 refine Ae (λm s σ'=>∃i:Nat,m=Z l-i/\i<=Z l/\s 0=sl id (Z l) (Ds l)/\s 3=Y i/\σ'=M/\V (∀j,j<i->zT l j j)) (Z l)
  ⟨0,L,L,rfl,rfl,rfl,λj Q=>L⟩ ?_
 rintro m s σ' ⟨i,rfl,hi,C,y,d,o⟩;subst d;by_cases T:i<Z l;refine X ?_
 refine Ae (λm s c=>∃k:Nat,m=i-k/\k<=i/\s 0=sl id (Z l) (Ds l)/\s 3=Y i/\s 4=Y k/\c=σ'/\V (zT l i k)) i
  ⟨0,L,L,by simp[upd,C],by simp[upd,y],rfl,rfl,λb a0=>L⟩ ?_
 clear C y;rintro m s c ⟨k,rfl,hk,C,y,h4,d,S⟩;subst d;by_cases a7:k<i;have x:=AK T;have u:=AK (show k<Z l by omega);let⟨r1,R⟩:=X6 x;let⟨a6,I⟩:=X6 u;have G:V _:=x;have D:V _:=u;clear x u;generalize l[i]=p at R G;generalize l[k]=q at I D;have f:V ((p.1=q.1->p.2=q.2)->zT l i (k+1)):=λh b a0 a1 a3 F t a=>by
  by_cases e:b=k;subst e;rw[G.o]at F;rw[D.o]at t;cases F;cases t;exact h a;exact S.o b L a1 a3 F t a
 have n:V (p.1=q.1->p.2≠q.2->¬Agree l):=λP N o=>N (o p (AY G.o) q (AY D.o) P);let⟨z,E⟩:=p;let⟨v,A⟩:=q;dsimp only at R I f n;by_cases a:z=v;have U:(z==v):=ns a
 by_cases g:E=A;have K:(E==A):=ns g
 have B:V (zT l i (k+1)):=f.o λ_=>g;clear f n a g;refine X ?_;refine Ax Ag (λ_=>True) [] [0,1,2,3,4,5,6,7,8,9,10,11,12,13,14,15,16,17,18,19,20,21,22,23] [] AH (λ_ _ _ h=>h) ?_;intro yb ya;refine X ?_;exact⟨i-(k+1),L,k+1,rfl,L,nk,B⟩;have K:(E==A)=false:=nn g;have a2:V (¬Agree l):=n.o a g;clear f n a g;refine X ?_;refine Ax Ag (λ_=>True) [] [0,1,2,3,4,5,6,7,8,9,10,11,12,13,14,15,16,17,18,19,20,21,22,23] [] AH (λ_ _ _ h=>h) ?_;intro yb ya;refine X ?_;exact⟨_,rfl,false,rfl,(λh=>by cases h),λh=>absurd h a2.o⟩;have U:(z==v)=false:=nn a;have B:V (zT l i (k+1)):=f.o λh=>absurd h a;clear f n a;refine X ?_;refine Ax Ag (λ_=>True) [] [0,1,2,3,4,5,6,7,8,9,10,11,12,13,14,15,16,17,18,19,20,21,22,23] [] AH (λ_ _ _ h=>h) ?_;intro yb ya;refine X ?_;exact⟨i-(k+1),L,k+1,rfl,L,nk,B⟩;obtain rfl:k=i:=L;refine X ?_
 exact⟨Z l-(k+1),L,k+1,rfl,L,nk,λj Q=>by
  by_cases e:j=k;subst e;exact S.o
  exact o.o j L⟩
 obtain rfl:i=Z l:=L;have ap:=XH o.o;refine X ?_;exact⟨_,rfl,true,rfl,nk⟩
def dR {n i}(a:1<=n)(c:n<=5)(b:i<=n):(n-1)^i<=1024:=by have:∀n,n<6->∀i,i<6->i<=n->1<=n->(n-1)^i<=1024:=nr;exact this n L i L b a
def wK (n:Nat)(u:1<=n)(q:n<=5)(m):ni 193 [Y n] m λo σ'=>o=Y ((n-1)^n:Nat)/\σ'=m:=by
 let⟨M,v⟩:∃M:Nat,n=M+1:=⟨n-1,L⟩;have y:(n:Int)-1=(M:Int):=L;have e:n-1=M:=L;clear v;have c:=λi d=>dR (n:=n) (i:=i) u q d;rw[e]at c⊢;clear e;refine wl func193 ?_;refine X ?_
 refine wn [0] 4 n (λi s σ'=>∃p:Nat,s 3=Y p/\σ'=m/\V (p=M^i)/\p<=1024) ⟨1,rfl,rfl,by simp[V],L⟩ ?_
 rintro i s σ' _ _ _ ⟨p,z,b,a,j⟩;subst b;by_cases l:i<n;have k:(p:Int)*(M:Int)=((p*M:Nat):Int):=nk;have f:p*M<=1024:=by rw[a.o,<-Nat.pow_succ];exact c (i+1) l
 have g:V (p*M=M^(i+1)):=by rw[V,Nat.pow_succ,a.o]
 generalize p*M=t at k f g;refine X ?_;exact⟨t,nk,g,f⟩;obtain rfl:i=n:=L;refine X ?_
 first
 |exact⟨_,rfl,by rw[a.o],rfl⟩
 |exact⟨_,rfl,by rw[a.o]⟩
def nW {x k j way l a b}(e:x.A[j]?=some a)(d:x.A[iH k (Z x.A-1) way]?=some b):gather x k (x.A.drop j) way l=(Dh l a b).bind λf=>gather x k (x.A.drop (j+1)) (way / (Z x.A-1)) f:=by let⟨c,g⟩:=BA.1 e;rw[ET c,g];simp only[gather];rw[d]
def ZR {x:AB}{k way}(b:k<Z x.A)(a:0<Z x.A-1):iH k (Z x.A-1) way<Z x.A:=by have:=Nat.mod_lt way a;rw[iH];split<;>omega
def qH (x c)(k way:Nat)(hc:AJ x c)(hx:x.fits)(h5:Z x.A<=5)(hk:k<Z x.A)(hm:0<Z x.A-1)(a8:way<=1024)(q):ni 194 [ag c,Y k,Y way] q λae C=>∃b,ae=my b/\(b=true↔aB x k way)/\W q C:=by
 obtain⟨T,id,b,hb,rfl⟩:=hc.cells;unfold A4;have b5:=r.length A7 hb;have bq:=hx.2.1;have bu:=hx.2.2;let⟨M,hM⟩:∃M:Nat,Z x.A-1=M:=⟨_,rfl⟩;have b4:(Z x.A:Int)-1=(M:Int):=L;have b6:¬((M:Int)=0):=L;have ax:∀w:Nat,Int.tmod (w:Int) (M:Int)=((w % M:Nat):Int):=λw=>rfl;have ay:∀w:Nat,Int.tdiv (w:Int) (M:Int)=((w / M:Nat):Int):=λw=>rfl;have ab:=λe (I:W q e)=>X8 q [] 1 x.h x.h _ _ ⟨T,rfl⟩ ⟨T,rfl⟩ nk bq e I (J.nil q e);obtain⟨p,af,-⟩:=X9 (a:=x.h);have bb:V (aB x k way↔∃l,gather x k x.A way p=some l/\Agree l):=by
  unfold aB;constructor;rintro⟨l0,l,D,E,F⟩;rw[af]at D;cases D;exact⟨l,E,F⟩;rintro⟨l,E,F⟩;exact⟨p,l,af,E,F⟩
 rw[af]at ab;clear af;have ab:∀e,W q e->ni 233 [H,ag [my x.h.nt,O x.h.B,lw T x.h.A],ag [my x.h.nt,O x.h.B,lw T x.h.A]] e λae C=>∃v,ae=tp [sl v (Z p) (Ds p),my true]/\Z p<=1000/\J q C v (Z p)/\W q C/\CE e C:=λe I=>(ab e I).mono λae C ⟨v,t,ok,D,⟨E,F⟩,h4,h5,h6,N⟩=>by
  subst E F;exact⟨v,D,nn h4,h5,h6,N⟩
 refine wl func194 ?_;refine m0 ?_;intro yb ya;refine Xi (ab _ ((W.refl q).new _)) ?_;rintro _ _ ⟨ak,rfl,bw,bi,bm,am⟩;have ap:=am.C;have au:=am.B;simp only[Aa]at au;refine X ?_;rename_i q1;have av:q1.C q.B=(ko x T id b):=by rw[ap _ (by rw[Aa];omega),Ao]
 refine Ae (λah s C=>∃(j d v:Nat) (t:List (Tx×Tx)),ah=Z x.A-j/\j<=Z x.A/\d<=1024/\s 1=Y k/\s 2=Y d/\s 3=ptr q.B 0/\s 7=Y (Z x.A)/\s 8=sl v (Z t) (Ds t)/\s 10=Y j/\W q C/\q.B<C.B/\C.C q.B=(ko x T id b)/\J q C v (Z t)/\Z t<=1000+j*1000/\V (gather x k x.A way p=gather x k (x.A.drop j) d t)) (Z x.A)
  ⟨0,way,ak,p,L,L,a8,by simp[upd,AL],by simp[upd,AL],AG,AG,AG,rfl,bm,L,av,bi,L,by simp[V]⟩ ?_
 clear av bm bi am ap au bw ab;rintro ah s C ⟨j,d,v,t,rfl,hj,bo,D,E,F,N,h8,a2,I,be,a4,a1,an,hG⟩;have b2:=I.B;by_cases bf:j<Z x.A;have ai:=AK bf;have a3:=ZR (x:=x) (k:=k) (way:=d) hk hm;have aj:=AK a3;have G:V (gather x k x.A way p=(Dh t x.A[j] x.A[iH k (Z x.A-1) d]).bind λt=>gather x k (x.A.drop (j+1)) (d / (Z x.A-1)) t):=by
  rw[V,hG.o,nW ai aj]
 let⟨ia,r1,br⟩:=Ca hb ai;let⟨ib,r2,aa⟩:=Ca hb aj;have bd:=bu x.A[j] (AR bf);generalize x.A[j]=a at br G bd;generalize x.A[iH k (Z x.A-1) d]=U at aa G;have a5:=λe I a1=>X8 q t v a U _ _ ⟨ia,rfl⟩ ⟨ib,rfl⟩ L bd e I a1;clear hG ai aj;rw[hM]at a3 G aa;have a7:d / M<=1024:=BI (Nat.div_le_self _ _) bo;have bn:d % M<M:=Nat.mod_lt _ L;generalize bc:d / M=S at G a7;have bh:Int.tdiv (d:Int) (M:Int)=(S:Int):=by rw[ay,bc]
 have aw:=ax d;unfold iH at a3 aa;generalize d % M=wm at a3 aa aw bn;clear bc ay ax;have b3:((wm:Int)+1).toNat=wm+1:=L;by_cases bg:k<=wm;rw[if_pos bg]at a3 aa;refine X ?_;refine A2 (Q:=λad A B=>ad= .normal/\∃(f:Nat) (n:List (Tx×Tx)) (g:Bool),A 1=Y k/\A 2=Y S/\A 3=ptr q.B 0/\A 7=Y (Z x.A)/\A 10=Y j/\A 12=sl f (Z n) (Ds n)/\A 13=my g/\rB t (Dh t a U) n g/\Z n<=Z t+1000/\J q B f (Z n)/\W q B/\CE C B) ?_ ?_;refine bT [] [0,1,2,3,4,5,6,7,8,9,10] 6 (nv 17 2047) ?_;refine Ai (i:=11) AH ?_;refine Am ?_;intro yb ya;refine Z3 ?_;refine AF.mono (a5 _ I a1) ?_;rintro _ q5 ⟨f,n,g,rfl,z,a0,R,ac,y⟩;refine Z3 ?_;refine ya.o _ _ ⟨λ_ o u _=>y.ver o u,?_⟩;clear ya yb;refine Bu (i:=12) _ (tp [sl f (Z n) (Ds n),my g]) rfl rfl rfl rfl rfl AH AH (λ_ _ _ h=>by cases h.1) (λo u _=>y.ver o u) ?_;refine Bu (i:=13) _ (sl f (Z n) (Ds n)) rfl rfl rfl rfl rfl AH AH (λ_ _ _ h=>by cases h.1) (λo u _=>y.ver o u) ?_;refine Bu (i:=14) _ (my g) rfl rfl rfl rfl rfl AH AH (λ_ _ _ h=>by cases h.1) (λo u _=>y.ver o u) ?_;refine Bu (i:=15) _ (sl f (Z n) (Ds n)) rfl rfl rfl rfl rfl AH AH (λ_ _ _ h=>by cases h.1) (λo u _=>y.ver o u) ?_;refine Bu (i:=16) _ (my g) rfl rfl rfl rfl rfl AH AH (λ_ _ _ h=>by cases h.1) (λo u _=>y.ver o u) ?_;refine Aw AH ⟨rfl,f,n,g,by simp[upd,BC,D],by simp[upd,BC],by simp[upd,BC,F],by simp[upd,BC,N],by simp[upd,BC,a2],by simp[upd,BC],by simp[upd,BC],z,a0,R,ac,y⟩;clear D E F N h8 a2 a5;rintro ad A q6 ⟨rfl,f,n,g,D,E,F,N,a2,b1,b0,z,a0,R,ac,y⟩;have a6:=y.B;have a9:q6.C q.B=(ko x T id b):=by rw[y.C _ be];exact a4
 clear a4 I a1;have m:V _:=z;clear z;cases g
 ·have P:V (gather x k x.A way p=none):=by
   have h:=m.o;rw[V,G.o];cases K:Dh t a U with
   |none=>rfl
   |some l3=>rw[K]at h;cases h.2
  clear G m;refine X ?_;exact⟨_,rfl,false,rfl,(λh=>by cases h),λh=>by rw[bb.o]at h;obtain⟨l,h,-⟩:=h;rw[P.o]at h;cases h⟩
 have P:V (gather x k x.A way p=gather x k (x.A.drop (j+1)) S n):=by
  have h:=m.o;rw[V,G.o];cases K:Dh t a U with
  |none=>rw[K]at h;cases h
  |some l3=>rw[K]at h;rw[<-h.1];rfl
 clear G m;refine X ?_;exact⟨Z x.A-(j+1),L,j+1,S,f,n,rfl,L,a7,rfl,rfl,nk,L,R,L,P⟩
 rw[if_neg bg]at a3 aa;refine X ?_;refine A2 (Q:=λad A B=>ad= .normal/\∃(f:Nat) (n:List (Tx×Tx)) (g:Bool),A 1=Y k/\A 2=Y S/\A 3=ptr q.B 0/\A 7=Y (Z x.A)/\A 10=Y j/\A 12=sl f (Z n) (Ds n)/\A 13=my g/\rB t (Dh t a U) n g/\Z n<=Z t+1000/\J q B f (Z n)/\W q B/\CE C B) ?_ ?_;refine bT [] [0,1,2,3,4,5,6,7,8,9,10] 6 (nv 17 2047) ?_;refine Ai (i:=11) AH ?_;refine Am ?_;intro yb ya;refine Z3 ?_;refine AF.mono (a5 _ I a1) ?_;rintro _ q5 ⟨f,n,g,rfl,z,a0,R,ac,y⟩;refine Z3 ?_;refine ya.o _ _ ⟨λ_ o u _=>y.ver o u,?_⟩;clear ya yb;refine Bu (i:=12) _ (tp [sl f (Z n) (Ds n),my g]) rfl rfl rfl rfl rfl AH AH (λ_ _ _ h=>by cases h.1) (λo u _=>y.ver o u) ?_;refine Bu (i:=13) _ (sl f (Z n) (Ds n)) rfl rfl rfl rfl rfl AH AH (λ_ _ _ h=>by cases h.1) (λo u _=>y.ver o u) ?_;refine Bu (i:=14) _ (my g) rfl rfl rfl rfl rfl AH AH (λ_ _ _ h=>by cases h.1) (λo u _=>y.ver o u) ?_;refine Bu (i:=15) _ (sl f (Z n) (Ds n)) rfl rfl rfl rfl rfl AH AH (λ_ _ _ h=>by cases h.1) (λo u _=>y.ver o u) ?_;refine Bu (i:=16) _ (my g) rfl rfl rfl rfl rfl AH AH (λ_ _ _ h=>by cases h.1) (λo u _=>y.ver o u) ?_;refine Aw AH ⟨rfl,f,n,g,by simp[upd,BC,D],by simp[upd,BC],by simp[upd,BC,F],by simp[upd,BC,N],by simp[upd,BC,a2],by simp[upd,BC],by simp[upd,BC],z,a0,R,ac,y⟩;clear D E F N h8 a2 a5;rintro ad A q6 ⟨rfl,f,n,g,D,E,F,N,a2,b1,b0,z,a0,R,ac,y⟩;have a6:=y.B;have a9:q6.C q.B=(ko x T id b):=by rw[y.C _ be];exact a4
 clear a4 I a1;have m:V _:=z;clear z;cases g
 ·have P:V (gather x k x.A way p=none):=by
   have h:=m.o;rw[V,G.o];cases K:Dh t a U with
   |none=>rfl
   |some l3=>rw[K]at h;cases h.2
  clear G m;refine X ?_;exact⟨_,rfl,false,rfl,(λh=>by cases h),λh=>by rw[bb.o]at h;obtain⟨l,h,-⟩:=h;rw[P.o]at h;cases h⟩
 have P:V (gather x k x.A way p=gather x k (x.A.drop (j+1)) S n):=by
  have h:=m.o;rw[V,G.o];cases K:Dh t a U with
  |none=>rw[K]at h;cases h
  |some l3=>rw[K]at h;rw[<-h.1];rfl
 clear G m;refine X ?_;exact⟨Z x.A-(j+1),L,j+1,S,f,n,rfl,L,a7,rfl,rfl,nk,L,R,L,P⟩
 obtain rfl:j=Z x.A:=L;have hR:V (gather x k x.A way p=some t):=by rw[V,hG.o,IZ];simp[gather]
 have bz:=λq=>sY t v L q;refine mt bz ?_;rintro yb ya _ _ ⟨ba,rfl,bv,hq⟩;(replace hq:=hq.symm;subst hq);refine X ?_;exact⟨_,rfl,ba,rfl,by rw[bb.o,bv];exact⟨λh=>⟨t,hR.o,h⟩,λ⟨l,D,E⟩=>by rw[hR.o]at D;cases D;exact E⟩⟩
def Kg (x c)(k:Nat)(Lqx:AJ x c)(hn:Z x.A<=1000)(q):ni 153 [ag c,Y k] q λm d=>∃v,m=ag v/\AJ (C8 x k) v/\W q d:=by
 obtain⟨l,id,b,E,rfl⟩:=Lqx.cells;unfold A4;have a6:=r.length A7 E;refine wl func153 ?_;refine X ?_
 refine wn [1,2,4,5] 6 (Z x.A) (λn s d=>∃(i:Nat) (g:oh),W q d/\q.B+2<d.B/\d.C q.B=(ko x l id b)/\d.C (q.B+1)=[my false,my false,O [],H,H]/\d.C (q.B+2)=[my false,my x.h.nt,O x.h.B,lw l x.h.A,sl i (Z (Pi x.A k n)) g]/\J q d i (Z (Pi x.A k n))/\Z g=Z (Pi x.A k n)*3/\V (r Bf (Pi x.A k n) g)) ⟨1,[],Xs,BJ,?_,?_,?_,J.nil _ _,by simp[Pi],by simp[V,Pi,r]⟩ ?_
 rw[Aj L,Ah AM,Ah AM,Ao];rw[Aj L,Ah AM,Be AM AM];rw[show q.B+2=q.B+1+1 by omega,Ak];simp[Pi];rintro n s d _ _ _ ⟨i,g,B,S,a0,T,A,z,F,j⟩;have I:=tI x.A k n;by_cases K:n<Z x.A;obtain⟨a,o⟩:=gq K;obtain⟨C,m,N⟩:=Ca E o;have y:V (x.A[n]?=some a):=o;clear o;generalize G:Pi x.A k n=t at A z F j I;have D:V _:=G;clear G;by_cases f:n=k;have M:((n:Int) !=(k:Int))=false:=ns f
 have e:V (Pi x.A k (n+1)=t):=by
  rw[V,<-D.o,f];exact iV (by rw[<-f];exact y.o)
 clear f;refine X ?_;exact⟨i,g,by rw[e.o],by rw[e.o];exact z,by rw[e.o];exact F,by rw[V,e.o];exact j.o⟩;have M:((n:Int) !=(k:Int)):=by simp;omega
 have e:V (Pi x.A k (n+1)=t++[a]):=by
  rw[V,<-D.o];exact tK y.o f
 clear f;refine X ?_;refine Ax Ag (λ_=>True) [8,9,10] [0,1,2,3,4,5,6] [7,8,9,10] AH (λ_ _ _ h=>h) ?_;have a7:W d (d.lay 1):=(W.refl _).lay 1;have p:V (Z (Pi x.A k (n+1))=Z t+1):=by rw[V,e.o];simp
 intro yb ya;refine m4 ?_;intro u qn P Q R a1 U aa;refine X ?_;refine⟨u,g++[my a.nt,O a.B,lw C a.A],Q.put L _,by rw[p.o],by rw[p.o];exact J.put P _ _,by rw[p.o];simp;omega,?_⟩;rw[V,e.o];exact r.append j.o (r.single ⟨C,rfl⟩);obtain rfl:n=Z x.A:=L;rw[tJ]at A j;refine X ?_;exact⟨_,rfl,_,rfl,AJ.of (x:=C8 x k) (ih:=l) (id:=i) j.o,B.put L _⟩
def lI (x c k)(P:AJ x c)(F:x.fits)(N:Z x.A<=5)(S:k<Z x.A)(q):ni 151 [ag c,Y k] q λae l=>∃b,ae=my b/\(b=true↔(Db (C8 x k)/\Hj x k))/\W q l:=by
 have C:=λq=>Kg x c k P F.1 q;have v:=λc' a7 q=>dJ (C8 x k) c' a7 (Ms F) q;have o:=λa d f q=>qH x c k a P F N S d f q;have Q:=xB (x:=x) (k:=k) S;have u:V (Db (C8 x k)=false->¬(Db (C8 x k)/\Hj x k)):=λh=>by rw[h];simp
 have e2:V (¬0<Z x.A-1->¬(Db (C8 x k)/\Hj x k)):=λh=>by rw[<-Q];simp[h]
 have y:V (Db (C8 x k)->0<Z x.A-1->((Db (C8 x k)/\Hj x k)↔∃a,a<(Z x.A-1)^Z x.A/\aB x k a)):=λh d=>by
  rw[h,<-Q];exact⟨λh=>h.2.2,λh=>⟨rfl,d,h⟩⟩
 clear Q;generalize (Db (C8 x k)/\Hj x k)=K at u e2 y;obtain⟨R,id,b,hb,rfl⟩:=P.cells;unfold A4 at C o⊢;by_cases d:0<Z x.A-1
 ·have a5:¬((Z x.A:Int)<2):=L;have B:=λq=>wK (Z x.A) L N q;have a4:=dR (n:=Z x.A) (i:=Z x.A) L N (AU _);have o:=λa f q=>o a d f q;cases A:Db (C8 x k)
  ·have j:V (¬K):=u.o A;rw[A]at v;refine Z9 29 [.tmp 4] func151 ?_
   repeat' first|refine Z1 ?_|refine Z8 λyb ya=>?_|refine Z4 ?_;clear ya yb|refine Z2 ?_ ?_<;>intro h a1<;>try exact Xp|(refine Z5 ?_;first|(refine Xi (C _) ?_;rintro _ _ ⟨s,rfl,z,p⟩;(have I:=p.C;have m:=p.B;have t:=v s z;obtain⟨ac,ab,b2,ba,rfl⟩:=z.cells;unfold A4 at t))|(refine Xi (t _) ?_;rintro _ _ ⟨rfl,D⟩))|refine Z3 ?_|exact Zt|apply ya.o;clear ya yb
   exact⟨_,rfl,false,rfl,⟨(λh=>by cases h),λh=>absurd h j.o⟩,Xs⟩
  have j:V (K↔∃a,a<(Z x.A-1)^Z x.A/\aB x k a):=y.o A d;rw[A]at v;generalize (Z x.A-1)^Z x.A=M at B a4 j;clear u e2 y;refine Z9 29 [.tmp 4] func151 ?_
  repeat' first|refine Z1 ?_|refine Z8 λyb ya=>?_|refine Z4 ?_;clear ya yb|refine Z2 ?_ ?_<;>intro h a1<;>try exact Xp|(refine Z5 ?_;first|(refine Xi (C _) ?_;rintro _ _ ⟨s,rfl,z,p⟩;(have I:=p.C;have m:=p.B;simp only[Aa]at m;have t:=v s z;obtain⟨ac,ab,b2,ba,rfl⟩:=z.cells;unfold A4 at t))|(refine Xi (t _) ?_;rintro _ _ ⟨rfl,D⟩;(have aa:=D.C;have av:=D.B)))|refine Z3 ?_|exact Zt|apply ya.o;clear ya yb
  rename_i q1 U;have T:W q U:=Xs;have a2:U.C q.B=(ko x R id b):=by rw[aa _ L,I _ (by rw[Aa];omega),Ao]
  refine wn [1,2,5] 6 M (λa af l=>W q l/\q.B<l.B/\l.C q.B=(ko x R id b)/\V (∀w,w<a->¬aB x k w)) ⟨T,L,a2,λw f=>L⟩ ?_
  clear p D I aa m av a2 T t v C;rintro a af l f _ _ ⟨e,bf,be,ax⟩;have bc:=e.B;by_cases a6:a<M
  ·have bb:=λq=>o a L q
   (repeat (refine m0 ?_;intro yb ya;(first|(refine Xi (B _) ?_;rintro _ _ ⟨rfl,g⟩;(replace g:=g.symm;subst g))|(refine Xi (bb _) ?_;rintro _ _ ⟨bs,rfl,a8,E⟩;(have az:=E.C;have a0:=E.B)))));refine m6 ?_ ?_<;>intro h a1
   ·exact⟨_,rfl,true,rfl,⟨λ_=>j.o.2 ⟨a,a6,nu⟩,λ_=>rfl⟩,e.trans E⟩
   have a9:bs=false:=nu
   exact⟨e.trans E,L,λw bd=>by
    by_cases ad:w=a
    ·subst ad;intro G;have:=a8.2 G;rw[a9]at this;cases this
    exact ax.o w L⟩
  have a3:a=M:=L;subst a3;refine m0 ?_;intro yb ya;refine Xi (B _) ?_;rintro _ _ ⟨rfl,g⟩;(replace g:=g.symm;subst g);refine X ?_;exact⟨_,rfl,false,rfl,⟨(λh=>by cases h),λh=>by obtain⟨w,f,G⟩:=j.o.1 h;exact absurd G (ax.o w f)⟩⟩
 have a5:(Z x.A:Int)<2:=L;have j:V (¬K):=e2.o d;clear o u e2 y;refine wl func151 ?_;refine X ?_;exact⟨_,rfl,false,rfl,⟨(λh=>by cases h),λh=>absurd h j.o⟩,Xs⟩
def H9 {t}(a:(Av t).1=0):Z t<=600/\∃l f,Cc 16 t= .got l f:=by
 have b:Z t<=600:=by
  by_cases d:600<Z t;rw[Av]at a;rw[if_pos d]at a;simp at a;omega
 refine⟨b,?_⟩;have c:=Hb t;cases h:Cc 16 t with
 |got l f=>exact⟨l,f,rfl⟩
 |bad e=>
  rw[h]at c;have c:=c;rw[Av]at a;rw[if_neg L,c,if_pos (KA _)]at a;simp at a
def J7 (a b:AE):Prop:=a.nt=b.nt/\a.B=b.B/\a.A=b.A
def dI (a b M R)(Jqx:Bf a M)(U:Bf b R)(a5:Z a.A<=1000)(q):ni 196 [ag M,ag R] q λa0 g=>∃C,a0=my C/\(C=true↔J7 a b)/\W q g:=by
 obtain⟨N,rfl⟩:=Jqx;obtain⟨K,rfl⟩:=U;by_cases c:a.nt=b.nt;have P:(a.nt==b.nt):=ns c
 by_cases f:a.B=b.B;have I:(a.B==b.B):=ns f
 by_cases o:Z a.A=Z b.A;have G:((Z a.A:Int) !=(Z b.A:Int))=false:=ns o
 have p:V (J7 a b↔a.A=b.A):=⟨λh=>h.2.2,λh=>⟨c,f,h⟩⟩;have z:V _:=o;generalize J7 a b=n at p;clear c f o;refine wl func196 ?_;refine X ?_
 refine Ae (λm s g=>∃k:Nat,m=Z a.A-k/\k<=Z a.A/\s 2=ptr q.B 0/\s 3=ptr (q.B+1) 0/\s 5=Y k/\W q g/\q.B+1<g.B/\g.C q.B=[my a.nt,O a.B,lw N a.A]/\g.C (q.B+1)=[my b.nt,O b.B,lw K b.A]/\V (∀j,j<k->a.A[j]?=b.A[j]?)) (Z a.A)
  ⟨0,L,L,AG,AG,rfl,Xs,AM,?_,?_,λj x=>L⟩ ?_
 rw[Ah AM,Ao];rw[Be AM AM];rintro m s g ⟨k,rfl,a2,B,v,a1,a3,a6,a4,a7,D⟩;by_cases y:k<Z a.A;have A:k<Z b.A:=ny z.o
 have T:=A1 y;have F:=A1 A;have i:V (a.A[k]?=some a.A[k]/\b.A[k]?=some b.A[k]):=⟨AK y,AK A⟩;generalize a.A[k]=t at T i;generalize b.A[k]=u at F i;by_cases l:t=u;have S:(t==u):=ns l
 have Q:V (∀j,j<k+1->a.A[j]?=b.A[j]?):=λj x=>by
  by_cases e:j=k;subst e;rw[i.o.1,i.o.2,l];exact D.o j L
 clear l;refine X ?_;refine Ax Ag (λ_=>True) [] [0,1,2,3,4,5,6,7,8,9,10] [] AH (λ_ _ _ h=>h) ?_;intro yb ya;refine X ?_;exact⟨Z a.A-(k+1),L,k+1,rfl,L,nk,Q⟩;have S:(t==u)=false:=nn l
 have d:V (¬n):=λh=>l (by
  have B:=p.o.1 h;have v:=i.o.1;rw[B,i.o.2]at v
  exact (Gf v).symm)
 clear l;refine X ?_;refine Ax Ag (λ_=>True) [] [0,1,2,3,4,5,6,7,8,9,10] [] AH (λ_ _ _ h=>h) ?_;intro yb ya;refine X ?_;exact⟨_,rfl,false,rfl,⟨(λh=>by cases h),λh=>absurd h d.o⟩⟩;obtain rfl:k=Z a.A:=L
 have E:V n:=p.o.2 (by
  apply FL;intro j;by_cases x:j<Z a.A;exact D.o j x
  rw[FD L,FD (ny z.o)])
 refine X ?_;exact⟨_,rfl,true,rfl,⟨λ_=>E.o,λ_=>rfl⟩⟩;have G:((Z a.A:Int) !=(Z b.A:Int)):=nn (show¬(Z a.A:Int)=(Z b.A:Int)by omega);have d:V (¬J7 a b):=λh=>o (by rw[h.2.2]);generalize J7 a b=n at d;clear c f o;refine wl func196 ?_;refine X ?_;exact⟨_,rfl,false,rfl,⟨(λh=>by cases h),λh=>absurd h d.o⟩,Xs⟩;have I:(a.B==b.B)=false:=nn f;have d:V (¬J7 a b):=λh=>f h.2.1;generalize J7 a b=n at d;clear c f;refine wl func196 ?_;refine X ?_;exact⟨_,rfl,false,rfl,⟨(λh=>by cases h),λh=>absurd h d.o⟩,Xs⟩;have P:(a.nt==b.nt)=false:=nn c;have d:V (¬J7 a b):=λh=>c h.1;generalize J7 a b=n at d;clear c;refine wl func196 ?_;refine X ?_;exact⟨_,rfl,false,rfl,⟨(λh=>by cases h),λh=>absurd h d.o⟩,Xs⟩
def iW (m cs id a N)(B:r Bf m cs)(F:Bf a N)(a4:Z m<=1000)(M:∀b∈m,Z b.A<=1000)(v:∃b∈m,J7 b a)(q):ni 154 [sl id (Z m) cs,ag N] q λQ d=>Q=my true/\W q d:=by
 obtain⟨A,rfl⟩:=F;have ap:=r.length A7 B;have E:=λb f u q=>dI b a [my b.nt,O b.B,lw f b.A] _ ⟨f,rfl⟩ ⟨A,rfl⟩ (M b u) q;have I:V _:=v;clear v;refine wl func154 ?_;refine X ?_
 refine wn [0,3] 5 (Z m) (λi s d=>W q d/\q.B<d.B/\d.C q.B=[my a.nt,O a.B,lw A a.A]/\V (∀j,j<i->∀b,m[j]?=some b->¬J7 b a)) ⟨Xs,by simp[Aa],Ao,λj k=>L⟩ ?_
 rintro i s d _ _ _ ⟨p,a5,a1,y⟩;have U:=p.B;by_cases x:i<Z m;obtain⟨b,l⟩:=gq x;obtain⟨f,Q,T⟩:=Ca B l;have n:=λq=>E b f (AY l) q;have G:V _:=l;clear l;generalize C:J7 b a=a2 at n;have S:V _:=C;clear C;refine X ?_;refine Ax Ag (λ_=>True) [5] [0,1,2,3,4] [5] AH (λ_ _ _ h=>h) ?_;intro yb ya;refine mz ?_;refine Xi (n _) ?_;rintro _ _ ⟨K,rfl,D,g⟩;have P:=g.C;have a0:=g.B;refine m6 ?_ ?_<;>intro h a3;exact⟨_,rfl,rfl,p.trans g⟩;refine⟨p.trans g,L,λj k c t=>?_⟩;by_cases e:j=i;subst e;rw[G.o]at t;cases t;rw[S.o];intro o;have z:=D.2 o;have R:K=false:=nu;rw[R]at z;cases z;exact y.o j L c t;exfalso;let⟨b,u,o⟩:=I.o;let⟨j,k⟩:=CL u;exact y.o j (ny ((BA.1 k).1)) b k o
end Go.Proofs.YtmoeoppbmhfbpabGreatDoorJ
