import Derived.Test.YtmoeoppbmhfbpabGreatDoorJShelf
import Derived.Test.YtmoeoppbmhfbpabGreatDoorJProgR
import Derived.Test.YtmoeoppbmhfbpabGreatDoorJProgL
import Derived.Test.YtmoeoppbmhfbpabGreatDoorJRefA
set_option maxHeartbeats 16000000
set_option maxRecDepth 100000
set_option linter.all false
open List renaming length->Z
namespace Go.Proofs.YtmoeoppbmhfbpabGreatDoorJ
open Go.Abs
def L1 {k}(b:0<=k)(a:k<26):Im k=UInt8.ofNat (IntKind.u8.wrap (65+k)).toNat:=by
 unfold Im;rw[Int.tmod_eq_of_lt b a,i64w AA AA]
def WT (l:ol)(a:AE):Prop:=∀w∈a.A,DT w/\Z w<=1000/\(Ab w=true->0<=Bv l w/\Bv l w<26)
def WA (N l:ol)(a:AE):Prop:=a.B∈N/\0<Z a.A/\Z a.A<=1000/\Z a.B<=1000/\WT l a
structure WI (N:ol)(x:AB):Prop where
 fits:x.fits
 short:x.short
 va:∀a∈Af x,VA a
 vh:VA x.h
 vb:∀a∈x.A,VA a
 mem:x.h.B∈N
 A:Z x.A<=5
 o:x.o=true->x.A=[]
 h:x.o=false->x.h.nt=false/\WA N (Au x) x.h
 wa:∀a∈x.A,WA N (Au x) a
def nB {acc t u}(h:t∈acc\/(t=u/\Ab u=true)):t∈Er acc u:=by
 unfold Er;split;rcases h with h|⟨rfl,-⟩;exact AW.2 (.inl h);exact AW.2 (.inr nk);rename_i b;rcases h with h|⟨rfl,hv⟩;exact h;exact Classical.byContradiction λa=>b ⟨hv,a⟩
def No:∀(a acc:ol) (t:Tx),(t∈acc\/(t∈a/\Ab t=true))->t∈Fu acc a
 |[],acc,t,h=>by
  rcases h with h|⟨h,-⟩;exact h;cases h
 |u::a,acc,t,h=>by
  show t∈Fu (Er acc u) a;apply No a;rcases h with h|⟨h,hv⟩;exact .inl (nB (.inl h));rcases BD.1 h with rfl|h;exact .inl (nB (.inr ⟨rfl,hv⟩));exact .inr ⟨h,hv⟩
def nX {c:oq}(h:∀a∈c,Z a.A<=3):Z (c.flatMap (·.A))<=Z c*3:=by
 induction c with
 |nil=>simp
 |cons a c e=>
  have f:=e λb d=>h b (by simp[d]);have g:=h a nk;simp only[DN,AX,BQ];omega
def Ap {x a}(h:(x.o=false/\a=x.h)\/a∈x.A):a∈Af x:=by
 unfold Af;rcases h with⟨h,rfl⟩|h;exact AW.2 (.inl (by rw[h];simp));exact AW.2 (.inr h)
def On {x}(n:Dc x){a}(m:a∈Af x){w}(j:w∈a.A)(o:Ab w=true):0<=Bv (Au x) w/\Bv (Au x) w<26:=by
 have f:w∈Au x:=No _ _ _ (.inr ⟨EX.2 ⟨a,m,j⟩,o⟩);have u:=CS f;have p:=Ro ((Af x).flatMap (·.A)) [];obtain⟨t,g,i⟩:=n;have q:Z (Af x)<=6/\∀b∈Af x,Z b.A<=3:=by
  cases c:x.o with
  |true=>
   obtain⟨-,-,e⟩:=g c;simp[Af,c,e]
  |false=>
   obtain⟨k,-,e2,l⟩:=i c;refine⟨by simp[Af,c];omega,λb d=>?_⟩;simp[Af,c]at d;rcases d with rfl|d;exact k.2.2.1;exact (l b d).2.2.1
 have r:=nX q.2;have s:Z (Au x)<=18:=by
  unfold Au;rw[CQ,DY]at p;omega
 unfold Bv;rw[if_pos f];omega
def j6 {t N l cs r}(q:Z t<=1000)(k:Cc 16 t= .got l r)(f:Bk N l cs)(u:∀x∈l,Dc x):∀x∈l,WI N x:=by
 intro x d;have m:=Td 16 t l r k x d;have y:=Lx (T:=DT) mK 16 t l r k x d;have i:=T8 q k x d;have e:=T0 f.el x d;have g:=u x d;have j:=f.fits x d;have n:∀a,a∈Af x->a.B∈N->En a->short a->Z a.A<=1000->WA N (Au x) a:=λa b A s o B=>
  ⟨A,List.length_pos_iff.2 s.2.1,B,o.1,λw e=>⟨y a b w e,o.2.2 w e,λz=>On g b e z⟩⟩
 refine⟨j,i,m,?_,?_,e.1,?_,f.o x d,?_,?_⟩;cases c:x.o with
 |true=>intro w p;rw[(g.2.1 c).2.1]at p;cases p
 |false=>exact m x.h (Ap (.inl ⟨c,rfl⟩))
 exact λa b=>m a (Ap (.inr b));cases c:x.o with
 |true=>rw[f.o x d c];simp
 |false=>exact (g.2.2 c).2.2.1
 intro c;obtain⟨v,e2,-⟩:=g.2.2 c;exact⟨e2,n x.h (Ap (.inl ⟨c,rfl⟩)) e.1 v i.1 j.2.1⟩;intro a b;have c:x.o=false:=by
  cases h:x.o with
  |false=>rfl
  |true=>rw[f.o x d h]at b;cases b
 exact n a (Ap (.inr b)) (e.2 a b) ((g.2.2 c).2.2.2 a b) (i.2 a b) (j.2.2 a b)
def Br (l:ol)(a:AE):AE:={nt:=a.nt,B:=a.B,A:=a.A.map (C6 l)}
def ren (x:AB):AB:={o:=x.o,h:=Br (Au x) x.h,A:=x.A.map (Br (Au x))}
def Fv {k}(b:0<=k)(a:k<26):((Im k).toNat:Int)=65+k:=by
 rw[L1 b a,u8w AA AA];rw[UInt8.toNat_ofNat_of_lt' (by show (65+k).toNat<256;omega)];omega
def E4 {k}(b:0<=k)(a:k<26):Bs (Im k).toNat=true:=by
 rw[Fv b a];simp[Bs];omega
def Hu {l w}(c:Ab w=true->0<=Bv l w/\Bv l w<26):Ab (C6 l w)=Ab w:=by
 unfold C6;split;rename_i h;obtain⟨a,b⟩:=c h;rw[h];exact E4 a b;rfl
def jq {l w}(f:DT w)(e:Ab w=true->0<=Bv l w/\Bv l w<26):Aq (C6 l w)=(Ab w,if Ab w=true then Bv l w else (Aq w).2):=by
 unfold C6;split;rename_i h;obtain⟨a,d⟩:=e h;rw[Et (E4 a d),Fv a d,h];congr 1;omega;rename_i h;have c:Ab w=false:=nn h;rw[c];cases w with
 |nil=>rfl
 |cons b r=>rw[Nw c]
def TK {N l a}(h:WA N l a):∀w∈a.A,DT w/\(Ab w=true->0<=Bv l w/\Bv l w<26):=λw b=>⟨(h.2.2.2.2 w b).1,(h.2.2.2.2 w b).2.2⟩
def zY (l):∀(a:ol) (k:Nat),0<k->Ii l k a=Ch (a.map (C6 l))
 |[],k,_=>rfl
 |t::a,k,b=>by
  rw[Ii,zY l a (k+1) AA,Ph,if_neg AA];simp[Ch]
def wI {l a}(h:a≠[]):Ii l 0 a=40::Bp (a.map (C6 l)):=by
 cases a with
 |nil=>exact absurd rfl h
 |cons t a=>rw[Ii,zY l a 1 AA];simp[Ph,Bp]
def Qx {l a}(h:a.A≠[]):Ec l a=Cl (Br l a):=by
 unfold Ec Cl Bh;rw[wI h];cases b:a.nt<;>simp[Br,b]
def zZ {l}:∀(b:oq) (k:Nat),0<k->(∀a∈b,a.A≠[])->Ht l k b=Ch ((b.map (Br l)).map Cl)
 |[],k,_,_=>rfl
 |a::b,k,e,h=>by
  rw[Ht,zZ b (k+1) AA (λc d=>h c (by simp[d])),aJ,if_neg AA,Qx (h a nk)];simp[Ch]
def bD {l b}(h:∀a∈b,a.A≠[]):Ht l 0 b=if b=[]then []else 58::45::Bp ((b.map (Br l)).map Cl):=by
 cases b with
 |nil=>rfl
 |cons a b=>
  rw[Ht,zZ b 1 AA (λc d=>h c (by simp[d])),Qx (h a nk),if_neg nk];simp[aJ,Bp]
def Kq {x}(e:Dc x):Bw x=Bz (ren x)++[46]:=by
 obtain⟨-,j,f⟩:=e;unfold Bw Bz;cases b:x.o with
 |true=>simp[ren,Br,b]
 |false=>
  obtain⟨i,c,-,g⟩:=f b;rw[if_neg nk,if_neg (by simp[ren,b]),Qx i.2.1,bD (λa d=>(g a d).2.1),Q4 (by simpa[Br]using c)];unfold D1;simp[ren]
def dN {N l:ol}{a}(h:En a)(i:∀w∈a.A,Ab w=true->0<=Bv l w/\Bv l w<26):En (Br l a):=by
 obtain⟨n,k,m,o⟩:=h;refine⟨n,by simpa[Br]using k,by simpa[Br]using m,λt d=>?_⟩;simp only[Br,AN]at d;obtain⟨w,c,rfl⟩:=d;unfold C6;split;rename_i j;obtain⟨g,f⟩:=i w c j;exact⟨nk,λb e=>by simp at e;subst e;exact .inl (E4 g f)⟩;exact o w c
def Ky {N x}(l:Dc x)(i:WI N x):Dc (ren x):=by
 obtain⟨p,m,n⟩:=l;refine⟨p,λb=>?_,λb=>?_⟩;obtain⟨e,c,d⟩:=m b;exact⟨e,by simp[ren,Br,c],by simp[ren,d]⟩;obtain⟨e,c,d,o⟩:=n b;refine⟨dN (N:=N) e (λw f=>(TK (i.h b).2 w f).2),c,by simpa[ren]using d,λa j=>?_⟩;simp only[ren,AN]at j;obtain⟨g,k,rfl⟩:=j;exact dN (N:=N) (o g k) (λw f=>(TK (i.wa g k) w f).2)
def Oc {l}(a:∀x∈l,Dc x):Bj l=Cr (l.map ren):=by
 unfold Bj Cr;induction l with
 |nil=>rfl
 |cons x l b=>
  rw[DN,CC,DN,Kq (a x nk),b λy c=>a y (by simp[c])]
def Ns {N l}(b:∀x∈l,Dc x)(e:∀x∈l,WI N x):Bl (Bj l)=l.map ren:=by
 have d:∀y∈l.map ren,Dc y:=λy a=>by
  obtain⟨x,c,rfl⟩:=AN.1 a;exact Ky (b x c) (e x c)
 rw[Oc b];unfold Bl;rw[O3 _ d,BH]
 conv=>rhs;rw[<-IE (l.map ren)]
 apply CG;intro y a;exact (Jl (d y a)).1
def pZ (l w)(f:DT w)(c:Ab w=true->0<=Bv l w/\Bv l w<26)(M):ni 149 [ag (Kz l w)] M λr M'=>r=str (C6 l w)/\AD M M':=by
 have m:∀z:UInt8,({data:=#[z]}:ByteArray)=bs [z]:=λ_=>rfl;unfold Kz;cases b:Ab w with
 |true=>
  obtain⟨e,g⟩:=c b;have a:AC (C6 l w=[UInt8.ofNat (IntKind.u8.wrap (65+Bv l w)).toNat]):=by rw[AC,C6,if_pos b,L1 e g]
  rw[if_pos rfl];generalize Bv l w=k at e g a;clear c;refine Z9 14 [.tmp 2] Tryz.func149 ?_;refine mu ?_;exact⟨_,rfl,by rw[a.o],Xs⟩
 |false=>
  obtain⟨i,j,o⟩:Lib.itoa (Aq w).2=w/\0<=(Aq w).2/\(Aq w).2<=999:=by
   rcases f with h|h
   ·rw[b]at h;cases h
   exact h.2
  have d:=λM=>eJ (Aq w).2 j AA M;rw[if_neg nk];rw[i]at d;have a:AC (C6 l w=w):=by rw[AC,C6,if_neg (by rw[b];simp)]
  generalize (Aq w).2=v at d;clear c f;refine Z9 14 [.tmp 2] Tryz.func149 ?_
  repeat' first|refine Z1 ?_|refine Z8 λyb ya=>?_|refine Z4 ?_;clear ya yb|refine Z2 ?_ ?_<;>intro h n<;>try exact Xp|refine Z5 ?_;refine Xi (d _) ?_;rintro _ _ ⟨rfl,rfl⟩|refine Z7 ?_|exact Zt|apply ya.o;clear ya yb
  exact⟨_,rfl,by rw[a.o],Xs⟩
def qU {l b k w}(h:b[k]?=some w):∃r,(D6 l b).drop (k*2)=my (Ab w)::ic (if Ab w=true then Bv l w else (Aq w).2)::r:=by
 have f:∀b:ol,EL (λw c=>c=Kz l w) b (D6 l b):=by
  intro b;induction b with
  |nil=>rfl
  |cons a l d=>exact⟨Kz _ a,D6 _ l,rfl,d,by simp[D6]⟩
 obtain⟨c,r,rfl,e⟩:=EL.get (z:=2) (λa c h=>by rw[h];rfl) (f b) h;exact⟨r,e⟩
def JQ (l:ol)(k:Nat)(a:ol):Tx:=if k=0 then [40]else Ii l 0 (a.take k)
def VM {l b k w}(h:b[k]?=some w):JQ l (k+1) b=JQ l k b++((if k=0 then []else [44])++C6 l w):=by
 have c:k<Z b:=(BA.1 h).1;unfold JQ;rw[if_neg AA,AT,h,BN,Ob,CN,ER AA,DY];by_cases a:k=0;subst a;simp[Ii,Ph];rw[if_neg a,if_neg a];simp[Ph,a]
def Zn (N l idn ids a)(C:a.B∈N)(Q:Z N<=2000)(X:0<Z a.A)(Y:Z a.A<=1000)(F:Z a.B<=1000)(G:WT l a)(M):
  ni 182 [ag [ic (N.idxOf a.B:Nat),sl ids (Z a.A) (D6 l a.A)],sl idn (Z N) (N.map str)] M λr M'=>r=str (a.B++Ii l 0 a.A++[41])/\AD M M':=by
 have av:=qT l a.A;have P:({data:=#[40]}:ByteArray)=bs [40]:=rfl;have ax:({data:=#[44]}:ByteArray)=bs [44]:=rfl;have S:({data:=#[41]}:ByteArray)=bs [41]:=rfl;have j:=CS C;have I:(N.map str).drop (N.idxOf a.B)=str a.B::(N.map str).drop (N.idxOf a.B+1):=by
  have:=A1 j;rwa[FN j]at this
 generalize N.idxOf a.B=K at j I;refine Z9 33 [.tmp 4] Tryz.func182 ?_;refine mu ?_
 refine Ae (λm s M'=>∃(k:Nat) (b:Tx),m=Z a.A-k/\k<=Z a.A/\s 5=str b/\s 15=sl ids (Z a.A) (D6 l a.A)/\s 16=ic (Z a.A)/\s 17=ic k/\AD M M'/\Z b<=1001+k*1001/\AC (b=a.B++JQ l k a.A)) (Z a.A)
  ⟨0,a.B++[40],AA,AA,AG,AG,AG,rfl,Xs,by simp;omega,by simp[AC,JQ]⟩ ?_
 rintro m s M' ⟨k,b,rfl,R,J,O,U,V,f,aw,n⟩;have W:=f.B;by_cases q:k<Z a.A
 ·have o:=AK q;obtain⟨x,p,y⟩:=G a.A[k] (AR q);obtain⟨r,u⟩:=qU (l:=l) o;have c:AC (a.B++JQ l (k+1) a.A=b++((if k=0 then []else [44])++C6 l a.A[k])):=by
   rw[AC,VM o,n.o,CR]
  have z:=U2 l a.A[k] p;have e:=λM=>pZ l a.A[k] x y M;unfold Kz at e;generalize C6 l a.A[k]=i at c e z;generalize (if Ab a.A[k]=true then Bv l a.A[k]else (Aq a.A[k]).2)=T at e u;generalize Ab a.A[k]=L at e u;clear o x p y;by_cases g:k=0
  ·have H:decide ((0:Int)<(k:Int))=false:=by simp[g]
   have c:AC (a.B++JQ l (k+1) a.A=b++i):=by rw[AC,c.o,if_pos g];simp
   clear g
   repeat' first|refine Z1 ?_|refine Z8 λyb ya=>?_|refine Z4 ?_;clear ya yb|refine Z2 ?_ ?_<;>intro h E<;>try exact Xp|refine Z5 ?_;refine Xi (e _) ?_;rintro _ _ ⟨rfl,d⟩;(have A:=d.C;have B:=d.B)|refine Z7 ?_|exact Zt|apply ya.o;clear ya yb
   exact⟨Z a.A-(k+1),AA,k+1,b++i,rfl,AA,rfl,nk,((f.new _).put f.B _).trans d,by simp only[AX];omega,by rw[AC,c.o]⟩
  have H:decide ((0:Int)<(k:Int))=true:=by simp;omega
  have c:AC (a.B++JQ l (k+1) a.A=b++([44]++i)):=by rw[AC,c.o,if_neg g]
  clear g
  repeat' first|refine Z1 ?_|refine Z8 λyb ya=>?_|refine Z4 ?_;clear ya yb|refine Z2 ?_ ?_<;>intro h E<;>try exact Xp|refine Z5 ?_;refine Xi (e _) ?_;rintro _ _ ⟨rfl,d⟩;(have A:=d.C;have B:=d.B)|refine Z7 ?_|exact Zt|apply ya.o;clear ya yb
  exact⟨Z a.A-(k+1),AA,k+1,b++([44]++i),rfl,AA,by rw[CR],nk,((f.new _).put f.B _).trans d,by simp only[AX,KZ];omega,by rw[AC,c.o]⟩
 have D:k=Z a.A:=AA;subst D;have v:b=a.B++Ii l 0 a.A:=by rw[n.o,JQ,if_neg AA,AS]
 have t:AC _:=v;clear n v;refine mu ?_
 first
 |exact⟨_,rfl,by rw[t.o],f⟩
 |exact⟨_,rfl,by rw[t.o]⟩
def JC (l:ol)(a:AE):Tx:=a.B++Ii l 0 a.A++[41]
def vB {N l a}(h:WA N l a):Z (JC l a)<=1003000:=by
 obtain⟨f,d,e,g,b⟩:=h;have:=Vo l a.A 0 λt c=>(b t c).2.1;simp only[JC,AX,KZ];omega
def Ng (a:AE):Tx:=if a.nt=true then [33]else []
def Vn (l a):Ec l a=Ng a++JC l a:=by simp[Ec,Ng,JC]
def rU (N l idn x c)(X:RI N l x c)(P:Z N<=2000)(K:x.h.B∈N)(hpl:Z x.h.B<=1000)(Y:Z x.A<=5)(B:x.o=false->x.h.nt=false/\WA N l x.h)(S:∀a∈x.A,WA N l a)(M):
  ni 129 [ag c,sl idn (Z N) (N.map str)] M λr M'=>r=str (if x.o=true then 63::x.h.B++[46]else Ec l x.h++Ht l 0 x.A++[46])/\AD M M':=by
 obtain⟨J,id,b,O,rfl⟩:=X;have a7:=EL.length RU O;have a9:({data:=#[63]}:ByteArray)=bs [63]:=rfl;have bb:({data:=#[46]}:ByteArray)=bs [46]:=rfl;have bc:({data:=#[44]}:ByteArray)=bs [44]:=rfl;have bd:({data:=#[33]}:ByteArray)=bs [33]:=rfl;have ba:({data:=#[58,45]}:ByteArray)=bs [58,45]:=rfl;cases W:x.o with
 |true=>
  have I:=CS K;have T:(N.map str).drop (N.idxOf x.h.B)=str x.h.B::(N.map str).drop (N.idxOf x.h.B+1):=by
   have:=A1 I;rwa[FN I]at this
  generalize N.idxOf x.h.B=ix at I T;clear B S;refine Z9 49 [.tmp 4] Tryz.func129 ?_;refine mu ?_;exact⟨_,rfl,nk,Xs⟩
 |false=>
  obtain⟨g,q⟩:=B W;have U:=vB q;have A:=λM=>Zn N l idn J x.h q.1 P q.2.1 q.2.2.1 q.2.2.2.1 q.2.2.2.2 M;have u:AC (Ec l x.h=JC l x.h):=by rw[AC,Vn,Ng,g];simp
  have A:∀M,ni 182 [ag [ic (N.idxOf x.h.B:Nat),sl J (Z x.h.A) (D6 l x.h.A)],sl idn (Z N) (N.map str)] M λr M'=>r=str (JC l x.h)/\AD M M':=A;generalize JC l x.h=o at U A u;clear B q K g;rw[if_neg nk,u.o];refine Z9 49 [.tmp 4] Tryz.func129 ?_
  repeat' first|refine Z1 ?_|refine Z8 λyb ya=>?_|refine Z4 ?_;clear ya yb|refine Z2 ?_ ?_<;>intro h z<;>try exact Xp|refine Z5 ?_;refine Xi (A _) ?_;rintro _ _ ⟨rfl,C⟩;(have av:=C.C;have Q:=C.B;simp only[Aa]at Q)|refine Z7 ?_|exact Zt|apply ya.o;clear ya yb
  rename_i M1
  refine Ae (λm s M'=>∃(j:Nat) (d:Tx),m=Z x.A-j/\j<=Z x.A/\s 1=sl idn (Z N) (N.map str)/\s 5=str d/\s 23=sl id (Z x.A) b/\s 24=ic (Z x.A)/\s 25=ic j/\AD M M'/\Z d<=1003000+j*1003010/\AC (d=o++Ht l 0 (x.A.take j))) (Z x.A)
   ⟨0,o,AA,AA,by simp[upd,AL],AG,AG,AG,rfl,Xs,AA,by simp[AC,Ht]⟩ ?_
  clear C av Q;rintro m s M' ⟨j,d,rfl,hj,h1,h5,bg,bf,be,k,a8,y⟩;have a6:=k.B;by_cases L:j<Z x.A
  ·have E:=AK L;have p:=S x.A[j] (AR L);obtain⟨R,r,D⟩:=lj O E;have e:AC (o++Ht l 0 (x.A.take (j+1))=d++(aJ j++(Ng x.A[j]++JC l x.A[j]))):=by
    rw[AC,AT,E,BN,Ss,Vn,y.o,CN,ER AA,DY,CR]
   have u:=vB p;have t:∀M,ni 182 [ag [ic (N.idxOf x.A[j].B:Nat),sl R (Z x.A[j].A) (D6 l x.A[j].A)],sl idn (Z N) (N.map str)] M λr M'=>r=str (JC l x.A[j])/\AD M M':=λM=>Zn N l idn R x.A[j] p.1 P p.2.1 p.2.2.1 p.2.2.2.1 p.2.2.2.2 M;have v:AC (Ng x.A[j]=if x.A[j].nt=true then [33]else []):=rfl;clear E p;generalize x.A[j]=a at D e u t v;generalize JC l a=n at e u t;cases g:a.nt with
   |true=>
    rw[g]at D;have e:AC (o++Ht l 0 (x.A.take (j+1))=d++(aJ j++([33]++n))):=by rw[AC,e.o,v.o,if_pos g]
    clear v;by_cases i:j=0
    ·have H:((j:Int)==0)=true:=by simp[i]
     have e:AC (o++Ht l 0 (x.A.take (j+1))=d++([58,45]++([33]++n))):=by rw[AC,e.o,aJ,if_pos i]
     clear i
     repeat' first|refine Z1 ?_|refine Z8 λyb ya=>?_|refine Z4 ?_;clear ya yb|refine Z2 ?_ ?_<;>intro h z<;>try exact Xp|refine Z5 ?_;refine Xi (t _) ?_;rintro _ _ ⟨rfl,f⟩;(have F:=f.C;have G:=f.B)|refine Z7 ?_|exact Zt|apply ya.o;clear ya yb
     exact⟨Z x.A-(j+1),AA,j+1,d++([58,45]++([33]++n)),rfl,AA,nk,nk,((k.new _).put k.B _).trans f,by simp;omega,by rw[AC,e.o]⟩
    have H:((j:Int)==0)=false:=by simp;omega
    have e:AC (o++Ht l 0 (x.A.take (j+1))=d++([44]++([33]++n))):=by rw[AC,e.o,aJ,if_neg i]
    clear i
    repeat' first|refine Z1 ?_|refine Z8 λyb ya=>?_|refine Z4 ?_;clear ya yb|refine Z2 ?_ ?_<;>intro h z<;>try exact Xp|refine Z5 ?_;refine Xi (t _) ?_;rintro _ _ ⟨rfl,f⟩;(have F:=f.C;have G:=f.B)|refine Z7 ?_|exact Zt|apply ya.o;clear ya yb
    exact⟨Z x.A-(j+1),AA,j+1,d++([44]++([33]++n)),rfl,AA,nk,nk,((k.new _).put k.B _).trans f,by simp;omega,by rw[AC,e.o]⟩
   |false=>
    rw[g]at D;have e:AC (o++Ht l 0 (x.A.take (j+1))=d++(aJ j++([]++n))):=by rw[AC,e.o,v.o,if_neg (by rw[g];simp)]
    clear v;by_cases i:j=0
    ·have H:((j:Int)==0)=true:=by simp[i]
     have e:AC (o++Ht l 0 (x.A.take (j+1))=d++([58,45]++([]++n))):=by rw[AC,e.o,aJ,if_pos i]
     clear i
     repeat' first|refine Z1 ?_|refine Z8 λyb ya=>?_|refine Z4 ?_;clear ya yb|refine Z2 ?_ ?_<;>intro h z<;>try exact Xp|refine Z5 ?_;refine Xi (t _) ?_;rintro _ _ ⟨rfl,f⟩;(have F:=f.C;have G:=f.B)|refine Z7 ?_|exact Zt|apply ya.o;clear ya yb
     exact⟨Z x.A-(j+1),AA,j+1,d++([58,45]++([]++n)),rfl,AA,nk,nk,((k.new _).put k.B _).trans f,by simp;omega,by rw[AC,e.o]⟩
    have H:((j:Int)==0)=false:=by simp;omega
    have e:AC (o++Ht l 0 (x.A.take (j+1))=d++([44]++([]++n))):=by rw[AC,e.o,aJ,if_neg i]
    clear i
    repeat' first|refine Z1 ?_|refine Z8 λyb ya=>?_|refine Z4 ?_;clear ya yb|refine Z2 ?_ ?_<;>intro h z<;>try exact Xp|refine Z5 ?_;refine Xi (t _) ?_;rintro _ _ ⟨rfl,f⟩;(have F:=f.C;have G:=f.B)|refine Z7 ?_|exact Zt|apply ya.o;clear ya yb
    exact⟨Z x.A-(j+1),AA,j+1,d++([44]++([]++n)),rfl,AA,nk,nk,((k.new _).put k.B _).trans f,by simp;omega,by rw[AC,e.o]⟩
  have V:j=Z x.A:=AA;subst V;rw[AS]at y;refine mu ?_
  first
  |exact⟨_,rfl,by rw[y.o],k⟩
  |exact⟨_,rfl,by rw[y.o]⟩
def Kk (N l cs idn idi)(u:Bk N l cs)(x c)(i:PI N x c)(a:WI N x)(M):ni 74 [Cq N idn l idi cs,ag c] M λr M'=>r=str (Bw x)/\AD M M':=by
 have q:=u.nm;have o:=Lm a.fits a.short;obtain⟨j,g,id,b,y,rfl⟩:=i;have s:=λM=>gM N x _ (PI.of (ih:=g) (id:=id) j y) a.o a.fits a.va a.vh a.vb M;have d:=λc t M=>rU N (Au x) idn x c t q a.mem a.short.1.1 a.A a.h a.wa M;have d:∀c,RI N (Au x) x c->∀M,ni 129 [ag c,sl idn (Z N) (N.map str)] M λr M'=>r=str (Bw x)/\AD M M':=d;generalize m:Bw x=C at d o⊢;clear m a;refine Z9 12 [.tmp 4] Tryz.func74 ?_
 repeat' first|refine Z1 ?_|refine Z8 λyb ya=>?_|refine Z4 ?_;clear ya yb|refine Z2 ?_ ?_<;>intro h D<;>try exact Xp|(refine Z5 ?_;first|(refine Xi (s _) ?_;rintro _ _ ⟨E,rfl,p,H,f⟩;(have J:=f.C;have B:=f.B;(try simp only[Aa,Ac,Az]at B);obtain⟨z,v,F,n,rfl⟩:=p))|(refine Xi (d _ ⟨_,_,_,n,rfl⟩ _) ?_;rintro _ _ ⟨rfl,k⟩))|refine Z7 ?_|exact Zt|apply ya.o;clear ya yb
 rename_i G I;have A:=(((AD.refl M).new _).new _).trans f;have e:=((A.new _).put AA _).trans k
 first
  |exact⟨_,rfl,rfl,e⟩
  |exact⟨rfl,e⟩
  |exact e
def sO (N l cs idn idi)(c:Bk N l cs)(E:∀x∈l,WI N x)(M):ni 40 [Cq N idn l idi cs] M λr M'=>r=str (Bj l)/\AD M M':=by
 have X:=EL.length Ew c.el;have W:=c.len;have K:=c.nm;have G:=c.el;refine Z9 20 [.tmp 2] Tryz.func40 ?_;refine mu ?_
 refine Ae (λm s M'=>∃(i:Nat) (a:Tx),m=Z l-i/\i<=Z l/\s 1=ptr M.B 0/\s 3=str a/\s 7=sl idi (Z l) cs/\s 8=ic (Z l)/\s 9=ic i/\AD M M'/\M.B<M'.B/\M'.C M.B=[sl idn (Z N) (N.map str),sl idi (Z l) cs]/\Z a<=i*1100000000/\AC (a=Bj (l.take i))) (Z l)
  ⟨0,[],AA,AA,AG,AG,AG,AG,rfl,Xs,AM,Ao,nk,by simp[AC,Bj]⟩ ?_
 rintro m s M' ⟨i,a,rfl,T,O,L,P,Q,R,f,U,A,Y,e⟩;have ap:=f.B;by_cases q:i<Z l
 ·have j:=AK q;have d:=E l[i] (AR q);obtain⟨p,o,id,b,r,u,F⟩:=Ih G j;generalize l[i]=x at F j d p u;have B:AC (l[i]?=some x):=j;clear j;have z:=Lm d.fits d.short;have n:=λM=>Kk N l cs idn idi c x _ (PI.of (ih:=o) (id:=id) p u) d M;generalize t:Bw x=k at n z;have H:AC _:=t;clear t d
  repeat' first|refine Z1 ?_|refine Z8 λyb ya=>?_|refine Z4 ?_;clear ya yb|refine Z2 ?_ ?_<;>intro h S<;>try exact Xp|refine Z5 ?_;refine Xi (n _) ?_;rintro _ _ ⟨rfl,g⟩;(have J:=g.C;have I:=g.B;(try simp only[Aa,Ac,Az]at I))|refine Z7 ?_|exact Zt|apply ya.o;clear ya yb
  rename_i V;have C:=((f.new _).put f.B _).trans g;have D:AC (a++k=Bj (l.take (i+1))):=by
   rw[AC,AT,B.o,e.o];simp[Bj,H.o]
  have v:List.length (a++k)<=(i+1)*1100000000:=by simp only[AX];omega
  refine⟨Z l-(i+1),AA,i+1,a++k,?_⟩
  ((repeat' refine Zi ?_ ?_)<;>first|exact Xq|exact C|exact D|exact v|exact (by rw[g.C _ BJ,Aj AA,Ah AA,A])|exact Xs)
 have y:i=Z l:=AA;subst y;rw[AS]at e;refine mu ?_
 first
 |exact⟨_,rfl,by rw[e.o],f⟩
 |exact⟨_,rfl,by rw[e.o]⟩
def P3 (p:Tx)(x:AB):Bool:=!x.o&&x.h.B==p
def F7 (l:n0)(p:Tx):Bool:=l.any (P3 p)
def W4 (l cs idl p)(e:EL AJ l cs)(t:Z l<=16)(M):ni 115 [sl idl (Z l) cs,str p] M λr M'=>r=my (F7 l p)/\M'=M:=by
 have y:=EL.length Cf e;refine Z9 28 [.tmp 4] Tryz.func115 ?_
 repeat' first|refine Z1 ?_|refine Z8 λyb ya=>?_|refine Z4 ?_;clear ya yb|refine Z2 ?_ ?_<;>intro h f<;>try exact Xp|refine Z3 ?_|exact Zt|apply ya.o;clear ya yb
 refine Ae (λm s M'=>∃i:Nat,m=Z l-i/\i<=Z l/\s 0=sl idl (Z l) cs/\s 1=str p/\s 5=ic i/\M'=M/\AC ((l.take i).any (P3 p)=false)) (Z l)
  ⟨0,AA,AA,rfl,rfl,rfl,rfl,by simp[AC]⟩ ?_
 rintro m s M' ⟨i,rfl,z,v,A,q,o,c⟩;subst o;by_cases n:i<Z l
 ·have a:=AK n;obtain⟨u,id,b,r,k,g⟩:=Cv e a;generalize l[i]=x at g a k;have d:AC (l[i]?=some x):=a;clear a
  repeat' first|refine Z1 ?_|refine Z8 λyb ya=>?_|refine Z4 ?_;clear ya yb|refine Z2 ?_ ?_<;>intro h f<;>try exact Xp|refine Z3 ?_|exact Zt|apply ya.o;clear ya yb
  ·exact⟨_,rfl,by rw[F7,D4 _ d.o (by simp only[P3];simp[*])]⟩
  all_goals
   refine⟨Z l-(i+1),AA,i+1,rfl,AA,nk,?_⟩;rw[AC,any_take_succ _ d.o,c.o];simp only[P3];simp[*]
 have j:i=Z l:=AA;subst j;rw[AS]at c;refine mr ?_;exact⟨_,rfl,by rw[F7,c.o]⟩
section rounds
variable {N:ol} {l:n0} (D:Tx->Nat)
end rounds
theorem sB {p n}(h:¬0<=Bn p n):∀i,i<n->p i=false:=by
 intro i b;unfold Bn at h;split at h;rename_i j c;exact absurd (KA j) h;rename_i a;rw[KB]at a;simpa using a i (nn b)
abbrev Sw:=(Nat->Bool)×(Nat->Bool×Int)
def Mx:Sw:=(λ_=>false,λ_=>(false,0))
def lA (s:Sw)(n:Nat):AV:=if n<26 then my (s.1 n)else if n % 2=0 then my ((s.2 ((n-26) / 2)).1)else ic (s.2 ((n-26) / 2)).2
def D5 (s:Sw):oh:=(List.range 78).map (lA s)
theorem Di (s):Z (D5 s)=78:=by simp[D5]
theorem Rb:PU.map cst1=D5 Mx:=rfl
theorem UE {s i}(h:i<26):(D5 s)[i]?=some (my (s.1 i)):=by
 simp[D5,lA,h,show i<78 by omega]
theorem UD {s i}(h:i<26)(v):(D5 s).set i (my v)=D5 (λj=>if j=i then v else s.1 j,s.2):=by
 apply FL;intro n;rw[GH];by_cases b:n<78;by_cases a:i=n;subst a;simp[D5,lA,h,b];have:n≠i:=λe=>a e.symm;simp[D5,lA,b,a,this];have:i≠n:=AA;simp[D5,b,this]
theorem Ww {s n}(h:n<78):(D5 s)[n]?=some (lA s n):=by simp[D5,h]
theorem lB (s){i}(h:i<26):∃r,(D5 s).drop (26+i*2)=my ((s.2 i).1)::ic (s.2 i).2::r:=by
 have e:lA s (26+i*2)=my ((s.2 i).1):=by
  unfold lA;rw[if_neg AA,if_pos AA,show (26+i*2-26) / 2=i by omega]
 have e2:lA s (26+i*2+1)=ic (s.2 i).2:=by
  unfold lA;rw[if_neg AA,if_neg AA,show (26+i*2+1-26) / 2=i by omega]
 refine⟨(D5 s).drop (26+i*2+1+1),?_⟩;have a:26+i*2<Z (D5 s):=by rw[Di];omega
 have d:26+i*2+1<Z (D5 s):=by rw[Di];omega
 rw[ET a,ET d];have c:=AK a;have b:=AK d;rw[Ww AA,e]at c;rw[Ww AA,e2]at b;rw[<-Gf c,<-Gf b]
theorem UC (s){i}(h:i<26)(b v):lsp (D5 s) (26+i*2) [my b,ic v]=D5 (s.1,λj=>if j=i then (b,v)else s.2 j):=by
 rw[Hw _ _ _ (by rw[Di];simp;omega)];apply FL;intro n;have f:=Di s;by_cases a:n<78;rw[Ww a];by_cases d:n<26+i*2;rw[CR,MB (by rw[CN];omega),GF,if_pos d,Ww a];congr 1;unfold lA;by_cases c:n<26;rw[if_pos c,if_pos c];have:(n-26) / 2≠i:=AA;simp[c,this];by_cases g:n<26+i*2+2;rw[CR,JY (by rw[CN];omega),CN,ER AA];rcases (show n=26+i*2\/n=26+i*2+1 by omega)with e|e;subst e;simp only[GX,EW,List.getElem?_cons_zero];unfold lA;rw[if_neg AA,if_pos AA,show (26+i*2-26) / 2=i by omega];simp;subst e;rw[show 26+i*2+1-(26+i*2)=1 by omega];simp only[EW,List.getElem?_cons_succ,List.getElem?_cons_zero];unfold lA;rw[if_neg AA,if_neg AA,show (26+i*2+1-26) / 2=i by omega];simp;rw[JY (by simp[CN];omega)];simp only[AX,CN,BQ,CQ];rw[IJ,ER AA,show 26+i*2+2+(n-(26+i*2+(0+1+1)))=n by omega,Ww a];congr 1;unfold lA;have:(n-26) / 2≠i:=AA;have c:¬n<26:=AA;simp[c,this];rw[FD (by simp[CN,Di];omega),FD (by rw[Di];omega)]
theorem UB (s){i}(h:i<26)(b v):((D5 s).set (26+i*2) (my b)).set (26+i*2+1) (ic v)=D5 (s.1,λj=>if j=i then (b,v)else s.2 j):=UC s h b v
def J1 (s:Sw)(e b:Bool×Int):Option Sw:=
 if e.1=true then
  (if s.1 e.2.toNat=true then (if s.2 e.2.toNat=b then some s else none)
   else some (λj=>if j=e.2.toNat then true else s.1 j,λj=>if j=e.2.toNat then b else s.2 j))
 else if e=b then some s else none
def C9:Sw->List (Bool×Int)->List (Bool×Int)->Option Sw
 |s,[],_=>some s
 |_,_::_,[]=>none
 |s,e::c,b::bs=>(J1 s e b).bind λa=>C9 a c bs
def Q3:Option Sw->AV
 |some s=>tp [ag (D5 s),my true]
 |none=>tp [ag (D5 Mx),my false]
def varOk (t:Tx):Prop:=(Aq t).1=true->∃k:Nat,k<26/\(Aq t).2=(k:Int)
theorem pM {s}{b a:ol}{k t u}(j:b[k]?=some t)(f:a[k]?=some u):C9 s ((b.drop k).map Aq) ((a.drop k).map Aq)=(J1 s (Aq t) (Aq u)).bind λe=>C9 e ((b.drop (k+1)).map Aq) ((a.drop (k+1)).map Aq):=by
 have g:=(BA.1 j);have d:=(BA.1 f);obtain⟨c,l⟩:=g;obtain⟨i,e2⟩:=d;rw[ET c,ET i,l,e2];rfl
theorem bE (s p q ts us i1 i2)(I:p=q->Z ts=Z us)(hn:Z ts<=1000)(V:∀t∈ts,varOk t)(M):
  ni 147 [ag (D5 s),ag [ic p,sl i1 (Z ts) (A0 ts)],ag [ic q,sl i2 (Z us) (A0 us)]] M λr M'=>r=Q3 (if p=q then C9 s (ts.map Aq) (us.map Aq)else none)/\AD M M':=by
 have a6:=Fh ts;have a5:=Fh us;have a9:=Di;have a8:=Rb;have a7:∀s,List.take 78 (D5 s)=D5 s:=λs=>FZ (by rw[Di];exact AU _);have bd:∀s a,lsp (D5 s) 0 (D5 a)=D5 a:=λs a=>I8 (by rw[Di,Di]);have be:∀s,(D5 s).all flat=true:=λs=>by
  rw[CX];intro x Q;obtain⟨n,-,rfl⟩:=AN.1 Q;unfold lA;split;rfl;split<;>rfl
 by_cases z:p=q;have R:AC (Z ts=Z us):=I z;have U:(p !=q)=false:=by simp[z]
 rw[if_pos z];clear I z;refine Z9 62 [.cell 6 154,.tmp 7] Tryz.func147 ?_;refine mr ?_
 refine Ae (λm v M'=>∃(k:Nat) (a:Sw),m=Z ts-k/\k<=Z ts/\v 3=ptr M.B 0/\v 5=ptr (M.B+2) 0/\v 6=ptr (M.B+3) 0/\v 18=sl i1 (Z ts) (A0 ts)/\v 19=ic (Z ts)/\v 20=ic k/\AD M M'/\M.B+3<M'.B/\M'.C M.B=D5 a/\M'.C (M.B+2)=[ic q,sl i2 (Z us) (A0 us)]/\M'.C (M.B+3)=D5 Mx/\AC (C9 s (ts.map Aq) (us.map Aq)=C9 a ((ts.drop k).map Aq) ((us.drop k).map Aq))) (Z ts)
  ⟨0,s,AA,AA,AG,AG,AG,AG,AG,rfl,Xs,AM,?_,?_,?_,by simp[AC]⟩ ?_
 rw[Ah AM,Ah AM,Ah AM,Ao];rw[Ah AM,Be AM AM];rw[Be AM AM];rintro m v M' ⟨k,a,rfl,hk,h3,h5,h6,bh,bg,bf,c,bc,a3,a0,az,F⟩;have a4:=c.B;by_cases N:k<Z ts;have W:k<Z us:=by have:=R.o;omega
 have E:=AK N;have G:=AK W;have A:=V ts[k] (AR N);obtain⟨r1,O⟩:=Gm E;obtain⟨r2,P⟩:=Gm G;have f:AC (C9 s (ts.map Aq) (us.map Aq)=(J1 a (Aq ts[k]) (Aq us[k])).bind λa=>C9 a ((ts.drop (k+1)).map Aq) ((us.drop (k+1)).map Aq)):=by rw[AC,F.o,pM E G]
 unfold varOk at A;clear E G F;generalize Aq ts[k]=e at O f A;generalize Aq us[k]=b at P f;obtain⟨S,e2⟩:=e;obtain⟨l,i⟩:=b;dsimp only at O P A;cases S with
 |true=>
  obtain⟨o,B,rfl⟩:=A rfl;have J:=UE (s:=a) B;obtain⟨r3,D⟩:=lB a B;cases u:a.1 o with
  |true=>
   rw[u]at J;by_cases d:a.2 o=(l,i);have C:AC (C9 s (ts.map Aq) (us.map Aq)=C9 a ((ts.drop (k+1)).map Aq) ((us.drop (k+1)).map Aq)):=by
    rw[AC,f.o];unfold J1;simp[u,d]
   rw[d]at D;dsimp only at D;clear f u d;refine mr ?_;exact⟨Z ts-(k+1),AA,k+1,a,rfl,AA,nk,((((c.new _).put c.B _).new _).put AA _).put c.B _,AA,rfl,C⟩;have H:AC (C9 s (ts.map Aq) (us.map Aq)=none):=by
    rw[AC,f.o];unfold J1;simp[u,d]
   clear f u;generalize a.2 o=g at D d;obtain⟨K,L⟩:=g;have T:(K==l&&L==i)=false:=by
    cases y:(K==l&&L==i)with
    |false=>rfl
    |true=>simp at y;exact absurd (by rw[y.1,y.2]) d
   dsimp only at D;clear d;refine mr ?_;exact⟨_,rfl,by rw[H.o];rfl,(((((c.new _).put c.B _).new _).put AA _).put c.B _).put AA _⟩
  |false=>
   rw[u]at J;have bb:=UD (s:=a) B true;have ba:=λa=>UB a B l i;have C:AC (C9 s (ts.map Aq) (us.map Aq)=C9 (λj=>if j=o then true else a.1 j,λj=>if j=o then (l,i)else a.2 j) ((ts.drop (k+1)).map Aq) ((us.drop (k+1)).map Aq)):=by
    rw[AC,f.o];unfold J1;simp[u]
   obtain⟨r4,Y⟩:=lB (λj=>if j=o then true else a.1 j,λj=>if j=o then (l,i)else a.2 j) B;simp only[if_true]at Y;clear f u;refine mr ?_;exact⟨Z ts-(k+1),AA,k+1,(λj=>if j=o then true else a.1 j,λj=>if j=o then (l,i)else a.2 j),rfl,AA,nk,((((((c.new _).put c.B _).new _).put AA _).put (AU _) _).put (AU _) _).put c.B _,AA,rfl,C⟩
 |false=>
  by_cases d:(false,e2)=(l,i);have C:AC (C9 s (ts.map Aq) (us.map Aq)=C9 a ((ts.drop (k+1)).map Aq) ((us.drop (k+1)).map Aq)):=by
   rw[AC,f.o];unfold J1;simp[d]
  cases d;clear f A;refine mr ?_;exact⟨Z ts-(k+1),AA,k+1,a,rfl,AA,nk,(((c.new _).put c.B _).new _).put AA _,AA,rfl,C⟩;have H:AC (C9 s (ts.map Aq) (us.map Aq)=none):=by
   rw[AC,f.o];unfold J1;simp[d]
  have T:(false==l&&e2==i)=false:=by
   cases y:(false==l&&e2==i)with
   |false=>rfl
   |true=>simp at y;exact absurd (by rw[<-y.1,y.2]) d
  clear f A d;refine mr ?_;exact⟨_,rfl,by rw[H.o];rfl,((((c.new _).put c.B _).new _).put AA _).put AA _⟩
 have X:k=Z ts:=AA;subst X;have hR:C9 s (ts.map Aq) (us.map Aq)=some a:=by rw[F.o,IZ];simp[C9]
 refine mr ?_;exact⟨_,rfl,rfl,c.put AA _⟩;have U:(p !=q)=true:=nn z;rw[if_neg z];clear I z;refine Z9 62 [.cell 6 154,.tmp 7] Tryz.func147 ?_;refine mr ?_;exact⟨_,rfl,rfl,((((((AD.refl _).new _).new _).new _).new _).put AA _)⟩
structure Lt where
 nt:Bool
 pr:Nat
 es:List (Bool×Int)
def Hp (left:List Lt):List Lt->Sw->Option Sw
 |[],s=>some s
 |x::a,s=>left.findSome? λb=>if b.nt=x.nt/\x.pr=b.pr then (C9 s x.es b.es).bind (Hp left a)else none
def Hc (e:Tx->Bool×Int)(N:ol)(a:AE):Lt:=⟨a.nt,N.idxOf a.B,a.A.map e⟩
def U0 (θ:Tx->Tx)(t:Tx):Tx:=if Ab t=true then θ t else t
def gH (θ:Tx->Tx)(a b:AE):Prop:=a.nt=b.nt/\a.B=b.B/\a.A.map (U0 θ)=b.A
def Hj (x:AB)(k:Nat):Prop:=∃c:Tx->Tx,(∀t∈x.h.A,Ab t=true->c t=t)/\∀a∈x.A,∃b∈x.A.eraseIdx k,gH c a b
structure GU (e:Tx->Bool×Int)(U:Tx->Prop):Prop where
 var:∀t,U t->(e t).1=Ab t
 inj:∀t u,U t->U u->e t=e u->t=u
 pos:∀t,U t->Ab t=true->0<=(e t).2
def aH (e:Tx->Bool×Int)(t:Tx):Nat:=(e t).2.toNat
theorem GU.same {e U}(T:GU e U){t u}(b:U t)(a:U u)(d:Ab t=true)(c:Ab u=true)(h:aH e t=aH e u):t=u:=by
 apply T.inj t u b a;have g:=T.var t b;have f:=T.var u a;have i:=T.pos t b d;have j:=T.pos u a c;unfold aH at h;apply GB;rw[g,f,d,c];omega
def ND (e:Tx->Bool×Int)(U:Tx->Prop)(s:Sw)(θ:Tx->Tx):Prop:=∀t,U t->Ab t=true->s.1 (aH e t)=true->s.2 (aH e t)=e (θ t)
def Do (s a:Sw):Prop:=∀k,s.1 k=true->a.1 k=true/\a.2 k=s.2 k
theorem Do.refl (s):Do s s:=λk h=>⟨h,rfl⟩
theorem Do.trans {a b c}(h:Do a b)(g:Do b c):Do a c:=λk e=>by
 obtain⟨j,f⟩:=h k e;obtain⟨i,d⟩:=g k j;exact⟨i,d.trans f⟩
def IG (e:Tx->Bool×Int)(s:Sw)(t u:Tx):Prop:=if Ab t=true then s.1 (aH e t)=true/\s.2 (aH e t)=e u else e t=e u
theorem IG.grow {e s b t u}(h:IG e s t u)(g:Do s b):IG e b t u:=by
 unfold IG at*
 split;rename_i a;rw[if_pos a]at h;obtain⟨d,c⟩:=g _ h.1;exact⟨d,c.trans h.2⟩;rename_i a;rw[if_neg a]at h;exact h
section
variable {e:Tx->Bool×Int} {U:Tx->Prop} (T:GU e U)
include T
theorem dD {s θ t u}(b:ND e U s θ)(g:U t)(c:U0 θ t=u):∃m,J1 s (e t) (e u)=some m/\ND e U m θ:=by
 unfold U0 at c;unfold J1;rw[T.var t g];split at c;rename_i a;subst c;rw[if_pos a];by_cases f:s.1 (e t).2.toNat=true;rw[if_pos f,if_pos (show s.2 (e t).2.toNat=e (θ t)from b t g a f)];exact⟨s,rfl,b⟩;rw[if_neg f];refine⟨_,rfl,λk i l d=>?_⟩;by_cases j:aH e k=(e t).2.toNat;have:=T.same i g l a j;subst this;simp[aH];dsimp only at d⊢;rw[if_neg j]at d⊢;exact b k i l d;rename_i a;subst c;rw[if_neg a,if_pos rfl];exact⟨s,rfl,b⟩
theorem bG:∀(a b:ol) (s:Sw) (θ:Tx->Tx),ND e U s θ->(∀t∈a,U t)->a.map (U0 θ)=b->∃d,C9 s (a.map e) (b.map e)=some d/\ND e U d θ
 |[],b,s,θ,c,_,_=>⟨s,by simp[C9],c⟩
 |t::a,b,s,θ,c,f,i=>by
  subst i;obtain⟨g,n,k⟩:=dD T (u:=U0 θ t) c (f t nk) rfl;obtain⟨m,l,o⟩:=bG a _ g θ k (λj h=>f j (by simp[h])) rfl;refine⟨m,?_,o⟩;simp only[CC,C9,n,FU];exact l
theorem VC {s c t u}(g:U t)(h:J1 s (e t) (e u)=some c):Do s c/\IG e c t u:=by
 unfold J1 at h;rw[T.var t g]at h;unfold IG;split at h;rename_i b;rw[if_pos b];split at h;rename_i d;split at h;rename_i a;cases h;exact⟨Do.refl _,d,a⟩;cases h;rename_i d;cases h;refine⟨λk f=>?_,by simp[aH],by simp[aH]⟩;have:k≠(e t).2.toNat:=λe=>d (e ▸ f);simp[this,f];rename_i b;rw[if_neg b];split at h;rename_i a;cases h;exact⟨Do.refl _,a⟩;cases h
theorem Vp:∀(b d:ol) (s a:Sw),(∀t∈b,U t)->C9 s (b.map e) (d.map e)=some a->Do s a/\∀(i:Nat) (t u:Tx),b[i]?=some t->d[i]?=some u->IG e a t u
 |[],d,s,a,_,h=>by
  simp only[IK,C9]at h;cases h;exact⟨Do.refl _,λi t u c=>by simp at c⟩
 |t::b,[],s,a,_,h=>by simp[C9]at h
 |t::b,u::d,s,a,l,h=>by
  simp only[CC,C9]at h;cases j:J1 s (e t) (e u)with
  |none=>rw[j]at h;cases h
  |some m=>
   rw[j]at h;simp only[FU]at h;obtain⟨p,q⟩:=VC T (l t nk) j;obtain⟨k,o⟩:=Vp b d m a (λg h=>l g (by simp[h])) h;refine⟨p.trans k,λi g n c f=>?_⟩;cases i with
   |zero=>simp at c f;subst c;subst f;exact q.grow k
   |succ i=>simp at c f;exact o i g n c f
theorem eB (N)(left:oq)(θ):∀(c:oq) (s:Sw),ND e U s θ->(∀a∈c,∀t∈a.A,U t)->(∀a∈c,∃b∈left,gH θ a b)->∃m,Hp (left.map (Hc e N)) (c.map (Hc e N)) s=some m
 |[],s,_,_,_=>⟨s,by simp[Hp]⟩
 |a::c,s,o,j,g=>by
  obtain⟨b,n,x,q,r⟩:=g a nk;obtain⟨i,v,p⟩:=bG T a.A b.A s θ o (j a nk) r;obtain⟨y,l⟩:=eB N left θ c i p (λd h=>j d (by simp[h])) (λd h=>g d (by simp[h]));simp only[CC,Hp];have u:(left.map (Hc e N)).findSome? (λb=>if b.nt=(Hc e N a).nt/\(Hc e N a).pr=b.pr then (C9 s (Hc e N a).es b.es).bind (Hp (left.map (Hc e N)) (c.map (Hc e N)))else none)≠none:=by
   intro k;rw[List.findSome?_eq_none_iff]at k;have:=k (Hc e N b) (AN.2 ⟨b,n,rfl⟩);rw[if_pos ⟨x.symm,by simp[Hc,q]⟩]at this;have f:C9 s (Hc e N a).es (Hc e N b).es=some i:=v;rw[f,FU,l]at this;cases this
  exact Option.ne_none_iff_exists'.1 u
theorem mU (N)(left:oq):∀(d:oq) (s g:Sw),(∀a∈d,a.B∈N/\∀t∈a.A,U t)->(∀b∈left,b.B∈N)->Hp (left.map (Hc e N)) (d.map (Hc e N)) s=some g->Do s g/\∀a∈d,∃b∈left,a.nt=b.nt/\a.B=b.B/\∀(i:Nat) (t u:Tx),a.A[i]?=some t->b.A[i]?=some u->IG e g t u
 |[],s,g,_,_,h=>by
  simp only[IK,Hp]at h;cases h;exact⟨Do.refl _,λa h=>by cases h⟩
 |a::d,s,g,m,q,h=>by
  simp only[CC,Hp]at h;rw[List.findSome?_eq_some_iff]at h;obtain⟨D,c,E,v,f,-⟩:=h;have x:c∈left.map (Hc e N):=by rw[v];simp
  obtain⟨b,p,rfl⟩:=AN.1 x;split at f;rename_i r;cases l:C9 s (Hc e N a).es (Hc e N b).es with
  |none=>rw[l]at f;cases f
  |some o=>
   rw[l]at f;simp only[FU]at f;obtain⟨B,C⟩:=Vp T a.A b.A s o (m a nk).2 l;obtain⟨n,A⟩:=mU N left d o g (λj h=>m j (by simp[h])) q f;refine⟨B.trans n,λj k=>?_⟩;rcases BD.1 k with rfl|k;exact⟨b,p,r.1.symm,E9 (m _ nk).1 (q b p) r.2,λi t u z y=>(C i t u z y).grow n⟩;exact A j k
  cases f
end
theorem bF {e U}(T:GU e U)(b:ol)(f:∀t∈b,U t):∃s,C9 Mx (b.map e) (b.map e)=some s/\(∀θ:Tx->Tx,(∀t∈b,Ab t=true->θ t=t)->∀t,U t->Ab t=true->s.1 (aH e t)=true->t∈b)/\∀t∈b,IG e s t t:=by
 have k:∀(g:ol) (s:Sw),(∀t∈g,U t)->(∀t,U t->Ab t=true->s.1 (aH e t)=true->s.2 (aH e t)=e t)->∃l,C9 s (g.map e) (g.map e)=some l/\(∀t,U t->Ab t=true->l.1 (aH e t)=true->l.2 (aH e t)=e t/\(t∈g\/s.1 (aH e t)=true)):=by
  intro g;induction g with
  |nil=>exact λs _ m=>⟨s,by simp[C9],λt d j h=>⟨m t d j h,.inr h⟩⟩
  |cons u g r=>
   intro s f m;obtain⟨y,a,n⟩:=dD T (θ:=λt=>t) (t:=u) (u:=u) m (f u nk) (by unfold U0;split<;>rfl);obtain⟨z,x,B⟩:=r y (λt h=>f t (by simp[h])) n;refine⟨z,by simp only[CC,C9,a,FU];exact x,λt d j h=>?_⟩;obtain⟨v,c⟩:=B t d j h;refine⟨v,?_⟩;rcases c with c|c;exact .inl (by simp[c]);unfold J1 at a;rw[T.var u (f u nk)]at a;split at a;rename_i A;split at a;split at a;cases a;exact .inr c;cases a;cases a;dsimp only at c;by_cases p:aH e t=(e u).2.toNat;have:=T.same d (f u nk) j A p;exact .inl (by simp[this]);rw[if_neg p]at c;exact .inr c;split at a;cases a;exact .inr c;cases a
 obtain⟨s,a,n⟩:=k b Mx f (λt _ _ h=>by simp[Mx]at h);obtain⟨-,C⟩:=Vp T b b Mx s f a;refine⟨s,a,λθ _ t d j h=>?_,λt d=>?_⟩;rcases (n t d j h).2 with q|q;exact q;simp[Mx]at q;obtain⟨i,o⟩:=CL d;exact C i t t o o
theorem P1 {e U}(T:GU e U)(N x k)(F:∀a∈x.A,a.B∈N)(y:∀t∈x.h.A,U t)(s:∀a∈x.A,∀t∈a.A,U t)
  (q:∀a∈x.A,∀b∈x.A,a.B=b.B->Z a.A=Z b.A) (H:∀t,U t->∀u,U u->e t=e u->t=u):
  ∃m,C9 Mx (x.h.A.map e) (x.h.A.map e)=some m/\((∃d,Hp ((x.A.eraseIdx k).map (Hc e N)) (x.A.map (Hc e N)) m=some d)↔Hj x k):=by
 obtain⟨m,V,R,G⟩:=bF T x.h.A y;refine⟨m,V,?_,?_⟩;rintro⟨d,P⟩;have K:∀b∈x.A.eraseIdx k,b∈x.A:=λb l=>EE l;obtain⟨g,X⟩:=mU T N (x.A.eraseIdx k) x.A m d (λa j=>⟨F a j,s a j⟩) (λb l=>F b (K b l)) P;have o:∀t:Tx,∃u:Tx,(U t/\Ab t=true/\∃p,U p/\d.2 (aH e t)=e p)->(U u/\d.2 (aH e t)=e u):=λt=>by
  by_cases h:U t/\Ab t=true/\∃p,U p/\d.2 (aH e t)=e p;obtain⟨u,v⟩:=h.2.2;exact⟨u,λ_=>v⟩;exact⟨t,λM=>absurd M h⟩
 let n:Tx->Tx:=λt=>Classical.choose (o t);have r:∀t u,U t->Ab t=true->U u->d.2 (aH e t)=e u->n t=u:=λt u f c v h=>by
  obtain⟨O,S⟩:=Classical.choose_spec (o t) ⟨f,c,u,v,h⟩;exact H _ O _ v (S.symm.trans h)
 refine⟨n,λt f c=>?_,λa j=>?_⟩;have:=(G t f).grow g;unfold IG at this;rw[if_pos c]at this;exact r t t (y t f) c (y t f) this.2;obtain⟨b,l,L,B,Q⟩:=X a j;have A:=K b l;refine⟨b,l,L,B,?_⟩;have Y:=q a j b A B;apply FL;intro i;rw[DC];by_cases I:i<Z a.A;have C:=AK I;have e2:=AK (show i<Z b.A by omega);have D:=s a j _ (AR I);have E:=s b A _ (AR (show i<Z b.A by omega));have:=Q i _ _ C e2;rw[C,e2];simp only[GJ];congr 1;unfold IG at this;unfold U0;split;rename_i c;rw[if_pos c]at this;exact r _ _ D c E this.2;rename_i c;rw[if_neg c]at this;exact H _ D _ E this;rw[FD AA,FD AA];rfl;rintro⟨n,J,W⟩;refine eB T N (x.A.eraseIdx k) n x.A m (λt f c h=>?_) s W;have z:=R n J t f c h;have:=G t z;unfold IG at this;rw[if_pos c]at this;rw[this.2,J t z c]
def Dg:List (Tx×Tx)->ol->ol->Option (List (Tx×Tx))
 |l,t::b,u::a=>if Ab t=true then Dg (l++[(t,u)]) b a else if t=u then Dg l b a else none
 |l,_,_=>some l
def Dh (l:List (Tx×Tx))(a b:AE):Option (List (Tx×Tx)):=if a.nt=b.nt/\a.B=b.B/\Z a.A=Z b.A then Dg l a.A b.A else none
def Agree (l:List (Tx×Tx)):Prop:=∀p∈l,∀q∈l,p.1=q.1->p.2=q.2
def iH (k m way:Nat):Nat:=if k<=way % m then way % m+1 else way % m
def gather (x:AB)(k:Nat):oq->Nat->List (Tx×Tx)->Option (List (Tx×Tx))
 |[],_,l=>some l
 |a::d,c,l=>match x.A[iH k (Z x.A-1) c]? with
  |some b=>(Dh l a b).bind λe=>gather x k d (c / (Z x.A-1)) e
  |none=>none
theorem Lw:∀(c e:ol) (l d:List (Tx×Tx)),Z c=Z e->Dg l c e=some d->(∀p∈l,p∈d)/\∀(i:Nat) (t u:Tx),c[i]?=some t->e[i]?=some u->(if Ab t=true then (t,u)∈d else t=u)
 |[],e,l,d,_,h=>by
  simp only[Dg]at h;cases h;exact⟨λp h=>h,λi t u a=>by simp at a⟩
 |t::c,[],l,d,g,h=>by simp at g
 |t::c,u::e,l,d,g,h=>by
  simp only[Dg]at h;have o:Z c=Z e:=nn g;split at h;rename_i m;obtain⟨f,n⟩:=Lw c e _ d o h;refine⟨λp r=>f p (by simp[r]),λi k j a b=>?_⟩;cases i with
  |zero=>simp at a b;subst a;subst b;rw[if_pos m];exact f _ nk
  |succ i=>simp at a b;exact n i k j a b
  rename_i m;split at h;rename_i q;obtain⟨f,n⟩:=Lw c e _ d o h;refine⟨f,λi k j a b=>?_⟩;cases i with
  |zero=>simp at a b;subst a;subst b;rw[if_neg m];exact q
  |succ i=>simp at a b;exact n i k j a b
  cases h
theorem J9 (θ):∀(b:ol) (l:List (Tx×Tx)),(∀p∈l,p.2=θ p.1)->∃e,Dg l b (b.map (U0 θ))=some e/\∀p∈e,p.2=θ p.1
 |[],l,c=>⟨l,by simp[Dg],c⟩
 |t::b,l,c=>by
  simp only[CC,Dg];unfold U0;by_cases d:Ab t=true;rw[if_pos d,if_pos d];exact J9 θ b _ λp a=>by
   rcases AW.1 a with a|a;exact c p a;simp at a;subst a;rfl
  rw[if_neg d,if_neg d,if_pos rfl];exact J9 θ b l c
theorem oP {x:AB}{k way}(b:k<Z x.A)(a:0<Z x.A-1):x.A[iH k (Z x.A-1) way]?=(x.A.eraseIdx k)[way % (Z x.A-1)]?:=by
 rw[List.getElem?_eraseIdx];unfold iH;by_cases h:k<=way % (Z x.A-1);rw[if_pos h,if_neg AA];rw[if_neg h,if_pos AA]
theorem Yv {x k}(o:k<Z x.A)(m:0<Z x.A-1):∀(c:oq) (way:Nat) (l e:List (Tx×Tx)),gather x k c way l=some e->(∀p∈l,p∈e)/\∀a∈c,∃b∈x.A.eraseIdx k,a.nt=b.nt/\a.B=b.B/\Z a.A=Z b.A/\∀(i:Nat) (t u:Tx),a.A[i]?=some t->b.A[i]?=some u->(if Ab t=true then (t,u)∈e else t=u)
 |[],way,l,e,h=>by
  simp only[gather]at h;cases h;exact⟨λp h=>h,λa h=>by cases h⟩
 |a::c,way,l,e,h=>by
  simp only[gather]at h;rw[oP o m]at h;split at h;rename_i b A;cases d:Dh l a b with
  |none=>rw[d]at h;cases h
  |some n=>
   rw[d]at h;simp only[FU]at h;unfold Dh at d;split at d;rename_i f;obtain⟨B,z⟩:=Lw a.A b.A l n f.2.2 d;obtain⟨q,s⟩:=Yv o m c _ n e h;refine⟨λp d=>q p (B p d),λr j=>?_⟩;rcases BD.1 j with rfl|j;refine⟨b,AY A,f.1,f.2.1,f.2.2,λi t u y v=>?_⟩;have:=z i t u y v;split at this;rename_i g;rw[if_pos g];exact q _ this;rename_i g;rw[if_neg g];exact this;exact s r j;cases d
  cases h
theorem Ud {x k}(f:k<Z x.A)(e:0<Z x.A-1)(θ):∀(d:oq) (l:List (Tx×Tx)),(∀p∈l,p.2=θ p.1)->(∀a∈d,∃b∈x.A.eraseIdx k,gH θ a b)->∃way,way<(Z x.A-1)^Z d/\∃o,gather x k d way l=some o/\∀p∈o,p.2=θ p.1
 |[],l,g,_=>⟨0,nk,l,by simp[gather],g⟩
 |a::d,l,g,h=>by
  obtain⟨b,B,q,u,j⟩:=h a nk;obtain⟨i,y,A⟩:=J9 θ a.A l g;obtain⟨way,D,E,v,s⟩:=Ud f e θ d i A λr t=>h r (by simp[t]);obtain⟨c,m⟩:=CL B;have n:c<Z x.A-1:=by
   have:=(BA.1 m).1;rw[List.length_eraseIdx_of_lt f]at this;exact this
  have C:(c+(Z x.A-1)*way) % (Z x.A-1)=c:=by rw[Nat.add_mul_mod_self_left,Nat.mod_eq_of_lt n]
  have z:(c+(Z x.A-1)*way) / (Z x.A-1)=way:=by rw[Nat.add_mul_div_left _ _ e,Nat.div_eq_of_lt n,DY]
  refine⟨c+(Z x.A-1)*way,?_,E,?_,s⟩;rw[BQ,Nat.pow_succ,Nat.mul_comm ((Z x.A-1)^Z d)];have F:(Z x.A-1)*way+(Z x.A-1)<=(Z x.A-1)*(Z x.A-1)^Z d:=by
   rw[<-Nat.mul_succ];exact Nat.mul_le_mul_left _ D
  omega;simp only[gather];rw[oP f e,C,m,z];simp only;have:Dh l a b=some i:=by
   unfold Dh;rw[if_pos ⟨q,u,by rw[<-j,BV]⟩,<-j];exact y
  rw[this,FU];exact v
def aB (x:AB)(k way:Nat):Prop:=∃a l,Dh [] x.h x.h=some a/\gather x k x.A way a=some l/\Agree l
theorem X9 {a}:∃l,Dh [] a a=some l/\∀p∈l,p.2=p.1:=by
 obtain⟨l,b,c⟩:=J9 (λt=>t) a.A [] nk;have:a.A.map (U0 λt=>t)=a.A:=by
  conv=>rhs;rw[<-IE a.A]
  apply CG;intro t _;unfold U0;split<;>rfl
 rw[this]at b;exact⟨l,by unfold Dh;rw[if_pos ⟨rfl,rfl,rfl⟩];exact b,c⟩
theorem xB {x k}(y:k<Z x.A):(0<Z x.A-1/\∃way,way<(Z x.A-1)^Z x.A/\aB x k way)↔Hj x k:=by
 constructor;rintro⟨v,way,-,j,l,d,O,M⟩;obtain⟨B,s⟩:=Yv y v x.A way j l O;have o:∀t:Tx,∃u:Tx,(∃C,(t,C)∈l)->(t,u)∈l:=λt=>by
  by_cases h:∃C,(t,C)∈l;obtain⟨u,P⟩:=h;exact⟨u,λ_=>P⟩;exact⟨t,λJ=>absurd J h⟩
 let n:Tx->Tx:=λt=>Classical.choose (o t);have r:∀t u,(t,u)∈l->n t=u:=λt u h=>M _ (Classical.choose_spec (o t) ⟨u,h⟩) _ h rfl;refine⟨n,λt Q e=>?_,λa L=>?_⟩;unfold Dh at d;rw[if_pos ⟨rfl,rfl,rfl⟩]at d;obtain⟨i,z⟩:=CL Q;have:=(Lw _ _ _ _ rfl d).2 i t t z z;rw[if_pos e]at this;exact r t t (B _ this);obtain⟨b,D,I,K,V,U⟩:=s a L;refine⟨b,D,I,K,?_⟩;apply FL;intro i;rw[DC];by_cases z:i<Z a.A;have F:=AK z;have e2:=AK (show i<Z b.A by omega);have:=U i _ _ F e2;rw[F,e2];simp only[GJ];congr 1;unfold U0;split;rename_i e;rw[if_pos e]at this;exact r _ _ this;rename_i e;rw[if_neg e]at this;exact this;rw[FD AA,FD AA];rfl;rintro⟨n,R,G⟩;have v:0<Z x.A-1:=by
  obtain⟨b,D,-⟩:=G x.A[k] (AR y);have:=List.length_pos_of_mem D;rw[List.length_eraseIdx_of_lt y]at this;exact this
 obtain⟨j,d,N⟩:=X9 (a:=x.h);have S:∀p∈j,p.2=n p.1:=by
  intro p c;rw[N p c];have:p.1∈x.h.A/\Ab p.1=true:=by
   have A:∀(m f:ol) (l g:List (Tx×Tx)),Dg l m f=some g->∀p∈g,p∈l\/(p.1∈m/\Ab p.1=true):=by
    intro m;induction m with
    |nil=>intro f l g h p c;simp only[Dg]at h;cases h;exact .inl c
    |cons t m E=>
     intro f l g h p c;cases f with
     |nil=>simp only[Dg]at h;cases h;exact .inl c
     |cons u f=>
      simp only[Dg]at h;split at h;rename_i e;rcases E f _ g h p c with q|q;rcases AW.1 q with q|q;exact .inl q;simp at q;subst q;exact .inr ⟨nk,e⟩;exact .inr ⟨by simp[q.1],q.2⟩;split at h;rcases E f _ g h p c with q|q;exact .inl q;exact .inr ⟨by simp[q.1],q.2⟩;cases h
   unfold Dh at d;rw[if_pos ⟨rfl,rfl,rfl⟩]at d;rcases A _ _ _ _ d p c with q|q;cases q;exact q
  exact (R p.1 this.1 this.2).symm
 obtain⟨way,T,l,B,s⟩:=Ud y v n x.A j S G;exact⟨v,way,T,j,l,d,B,λp c q H h=>by rw[s p c,s q H,h]⟩
end Go.Proofs.YtmoeoppbmhfbpabGreatDoorJ
