import Derived.Test.YtmoeoppbmhfbpabGreatDoorJOpsB
import Derived.Test.YtmoeoppbmhfbpabGreatDoorJLinA
import Derived.Test.YtmoeoppbmhfbpabGreatDoorJDpsC
import Derived.Test.YtmoeoppbmhfbpabGreatDoorJOpuB
import Derived.Test.YtmoeoppbmhfbpabGreatDoorJProgR
set_option maxHeartbeats 64000000
set_option maxRecDepth 100000
set_option linter.all false
open List renaming length->Z
namespace Go.Proofs.YtmoeoppbmhfbpabGreatDoorJ
open Go.Abs
def Yr (p e:Tx):Tx:=p++[40,65,44,66,41,58,45]++e++[40,65,44,67,41,44]++p++[40,67,44,66,41,46]
def ZC {p e}(f:Jy p)(r:Jy e):Dc (Cn p e):=by
 have t:∀b:UInt8,Bs b.toNat=true->Mm [b]:=λb o=>⟨nk,λc g=>by simp at g;subst g;exact .inl o⟩;have i:=t 65 rfl;have k:=t 66 rfl;have j:=t 67 rfl;have d:∀(n:Bool) (q u v:Tx),Jy q->Mm u->Mm v->En ⟨n,q,[u,v]⟩:=λn q u v y s x=>⟨y,nk,nk,λw m=>by simp at m;rcases m with rfl|rfl;exact s;exact x⟩
 exact⟨f,(λh=>by cases h),λ_=>⟨d _ _ _ _ f i k,rfl,by simp[Cn],λa l=>by
  simp[Cn]at l;rcases l with rfl|rfl;exact d _ _ _ _ r i j
  exact d _ _ _ _ f j k⟩⟩
def fu (p e):Yr p e=Cr [Cn p e]:=by simp[Yr,Cr,Bz,D1,Bh,Cl,Bp,Ch,Cn]
def ZD {p e}(i:tE p)(d:tE e):Z (Yr p e)<=1000/\Z (Ix (Yr p e) 46)<=1000/\(∀t∈Ix (Yr p e) 46,gA t)/\Bl (Yr p e)=[Cn p e]:=by
 have f:=ZC i.1 d.1;have b:Ix (Yr p e) 46=[Bz (Cn p e)]:=by
  rw[fu,O3 _ (λx g=>by simp at g;subst g;exact f)];rfl
 have l:=i.2;have k:=d.2;have j:Z (Yr p e)<=1000:=by simp[Yr];omega
 have c:=Jl f;refine⟨j,by rw[b];simp,λt a=>?_,by unfold Bl;rw[b];simp[c.1]⟩;have:=L6 a;rw[b]at a;simp at a;subst a;exact⟨AA,c.2⟩
def nI {p e}(j:tE p)(i:tE e):(Cn p e).fits/\(Cn p e).short:=by
 have d:=j.2;have g:=i.2;have b:∀(n:Bool) (q:Tx) (u v:UInt8),Z q<=6->short ⟨n,q,[[u],[v]]⟩:=λn q u v h=>⟨by simp;omega,nk,λt f=>by simp at f;rcases f with rfl|rfl<;>simp⟩;refine⟨⟨by simp[Cn],by simp[Cn],λa c=>?_⟩,b _ _ _ _ d,λa c=>?_⟩;simp[Cn]at c;rcases c with rfl|rfl<;>simp;simp[Cn]at c;rcases c with rfl|rfl;exact b _ _ _ _ g;exact b _ _ _ _ d
def S8 (q e:Tx)(y:AB):Tx:=match y.A with
 |[a]=>if (Bw y==S7 q a.B)=true then a.B else e
 |_=>e
def Rp (l:n0)(i:Nat)(q:Tx):Tx:=(E5 l i q).foldl (S8 q) []
def xT (l:n0)(i:Nat)(x:AB):Bool:=Lj x&&(decide (Z (E5 l i x.h.B)=1)&&(!decide (Rp l i x.h.B=[])&&(!decide (Rp l i x.h.B=x.h.B)&&Bb l (rpl i [Cn x.h.B (Rp l i x.h.B)] l))))
def IV (l:n0)(n:Nat):Prop:=∀i x,i<n->l[i]?=some x->xT l i x=false
def LO (l:n0)(o:Option n0):Prop:=
 (o=none/\IV l (Z l))\/∃i x,o=some (rpl i [Cn x.h.B (Rp l i x.h.B)] l)/\l[i]?=some x/\xT l i x=true/\IV l i
def VW {l:n0}{n q k y}(h:l[k]?=some y):Rp (l.take (k+1)) n q=if Ik n q (y,k)=true then S8 q (Rp (l.take k) n q) y else Rp (l.take k) n q:=by
 unfold Rp;rw[Tf h];split;rw[List.foldl_append];rfl;rw[EJ]
def RG {l}(i:∀x∈l,iS x)(n q):Rp l n q=[]\/tE (Rp l n q):=by
 have c:∀(L:n0) (e:Tx),(∀x∈L,iS x)->(e=[]\/tE e)->L.foldl (S8 q) e=[]\/tE (L.foldl (S8 q) e):=λL=>by
  induction L with
  |nil=>intro e _ h;exact h
  |cons x L j=>
   intro e g h;rw[FW];refine j _ (λy m=>g y (by simp[m])) ?_;unfold S8;split;rename_i a d;split;refine .inr ?_;have b:=g x nk;cases f:x.o with
   |true=>rw[(b.o f).2.2]at d;cases d
   |false=>exact ((b.rule f).2.2.2 a (by rw[d];simp)).nm
   exact h;exact h
 refine c _ _ (λx b=>?_) (.inl rfl);obtain⟨p,k,rfl⟩:=AN.1 b;exact i _ (LB (BP.1 k).1)
def iu {l i x}(b:l[i]?=some x)(h:IV l i)(h2:xT l i x=false):IV l (i+1):=λj y c a=>by
 by_cases e:j=i;subst e;rw[b]at a;cases a;exact h2;exact h j y AA a
def Re (l cs idl)(J:EL AJ l cs)(hl:Z l<=16)(U:∀x∈l,x.fits/\x.short)(hg:∀x∈l,iS x)(O):
  ni 111 [sl idl (Z l) cs] O λr f=>∃o m id c',r=tp [sl id (Z m) c',my o.isSome]/\LO l o/\(∀W,o=some W->m=W)/\EL AJ m c'/\AD O f:=by
 have b4:=EL.length Cf J;have k1:({data:=#[40,65,44,66,41,58,45]}:ByteArray)=bs [40,65,44,66,41,58,45]:=rfl;have k2:({data:=#[40,65,44,67,41,44]}:ByteArray)=bs [40,65,44,67,41,44]:=rfl;have k3:({data:=#[40,67,44,66,41,46]}:ByteArray)=bs [40,67,44,66,41,46]:=rfl;have k4:({data:=#[40,65,44,66,41,46]}:ByteArray)=bs [40,65,44,66,41,46]:=rfl;have k5:({data:=#[]}:ByteArray)=bs []:=rfl;refine Z9 127 [.tmp 2,.tmp 3] Tryz.func111 ?_;refine mu ?_
 refine Ae (λq s f=>∃i:Nat,q=Z l-i/\i<=Z l/\s 0=sl idl (Z l) cs/\s 4=ic i/\AD O f/\AC (IV l i)) (Z l)
  ⟨0,AA,AA,by simp[upd,AL],AG,AD.refl _,λi' x' h=>AA⟩ ?_
 rintro q s f ⟨i,rfl,hi,V,h4,D,ap⟩;have a7:=D.B;by_cases a9:i<Z l
 ·have HG:AC (l[i]?=some l[i]):=AK a9;obtain⟨ih,id,b,r,hb,hd⟩:=Cv J HG.o;have X:=AR a9;generalize l[i]=x at HG hb hd X;have hW:=λO=>Ll x _ ⟨[my x.h.nt,str x.h.B,sl ih (Z x.h.A) (x.h.A.map str)],id,b,⟨ih,rfl⟩,hb,rfl⟩ (U x X).1 (U x X).2 O;have hpl:=(hg x X).nm.2;have HA:AC (∀t,t=sK x.h.B->(Bw x==t)=Lj x):=λt e=>by rw[e];rfl
  have v:AC (xT l i x=false->IV l (i+1)):=λh=>iu HG.o ap.o h;generalize Bw x=w at hW HA
  repeat' first|refine Z1 ?_|refine Z8 λyb ya=>?_|refine Z4 ?_;clear ya yb|refine Z2 ?_ ?_<;>intro h aa<;>try exact Xp|refine Z5 ?_;refine Xi (hW _) ?_;rintro _ _ ⟨rfl,be⟩;(have a6:=be.B)|refine Z7 ?_|exact Zt|apply ya.o;clear ya yb
  ·have C:AC (IV l (i+1)):=v.o (by
    have:=HA.o _ rfl;unfold xT;rw[<-this];simp only[sK]at*
    rw[h];rfl)
   clear HA v;refine⟨Z l-(i+1),AA,i+1,?_⟩;exact m9 C
  have Y:AC (Lj x=true):=by
   rw[AC,<-HA.o _ rfl];simp only[sK];exact h
  clear HA h hW;have A:=D.trans be;clear D be a6 a7
  refine Ae (λq s f=>∃(k n:Nat) (e:Tx),q=Z l-k/\k<=Z l/\n<=k/\Z e<=6/\s 0=sl idl (Z l) cs/\s 4=ic i/\s 5=str x.h.B/\s 6=ic n/\s 7=str e/\s 8=ic k/\AD O f/\AC (n=Z (E5 (l.take k) i x.h.B)/\e=Rp (l.take k) i x.h.B)) (Z l)
   ⟨0,0,[],AA,AA,AA,nk,by simp[upd,V],by simp[upd,h4],AG,AG,AG,AG,A,⟨rfl,rfl⟩⟩ ?_
  clear V h4 A;rintro q s f ⟨k,n,e,rfl,hk,b1,b3,V,h4,h5,h6,h7,h8,D,j⟩;have a7:=D.B;by_cases au:k<Z l
  ·have a5:AC (l[k]?=some l[k]):=AK au;obtain⟨jh,jd,jb,r2,ba,ax⟩:=Cv J a5.o;have an:=AR au;generalize l[k]=y at a5 ba ax an;have M:AC (∀b,Ik i x.h.B (y,k)=b->E5 (l.take (k+1)) i x.h.B=E5 (l.take k) i x.h.B++(if b=true then [y]else [])/\Rp (l.take (k+1)) i x.h.B=if b=true then S8 x.h.B (Rp (l.take k) i x.h.B) y else Rp (l.take k) i x.h.B):=λb e=>by
    subst e;exact⟨Tf a5.o,VW a5.o⟩
   have G:AC (Ik i x.h.B (y,k)=false->n=Z (E5 (l.take (k+1)) i x.h.B)/\e=Rp (l.take (k+1)) i x.h.B):=λh=>by
    obtain⟨a1,a2⟩:=M.o _ h;rw[a1,a2];simpa using j.o
   by_cases H:k=i
   ·have bv:((k:Int)==(i:Int))=true:=by simp[H]
    have g:AC _:=G.o (by simp[Ik,H]);clear G M j H;refine mu ?_;refine⟨Z l-(k+1),AA,k+1,n,e,?_⟩;exact m9 g
   have bv:((k:Int)==(i:Int))=false:=by simp;omega
   cases L:y.o with
   |true=>
    have g:AC _:=G.o (by simp[Ik,Fw,L]);clear G M j H;rw[L]at ax;refine mu ?_;refine⟨Z l-(k+1),AA,k+1,n,e,?_⟩;exact m9 g
   |false=>
    by_cases p:y.h.B=x.h.B
    ·have a8:(y.h.B==x.h.B)=true:=nn p
     have N:AC (n+1=Z (E5 (l.take (k+1)) i x.h.B)/\Rp (l.take (k+1)) i x.h.B=S8 x.h.B e y):=by
      obtain⟨a1,a2⟩:=M.o true (by simp[Ik,Fw,H,L,p]);rw[AC,a1,a2,j.o.1,<-j.o.2];simp
     have bc:=λO=>Ll y _ ⟨[my y.h.nt,str y.h.B,sl jh (Z y.h.A) (y.h.A.map str)],jd,jb,⟨jh,rfl⟩,ba,rfl⟩ (U y an).1 (U y an).2 O;rw[L]at ax bc;have bi:AC (iS y):=hg y an;have bq:=(U y an).1.1;clear G M j H p;refine mu ?_;by_cases P:Z y.A=1
     ·obtain⟨a,aw⟩:=List.length_eq_one_iff.1 P;have br:((Z y.A:Int)==1)=true:=by rw[P];rfl
      obtain⟨ia,ra,bn⟩:=Ca ba (show y.A[0]?=some a by rw[aw];rfl);simp only[KY,JH]at bn;subst bn;have b5:=(((bi.o.rule L).2.2.2 a (by rw[aw];simp)).nm).2;have av:AC (Rp (l.take (k+1)) i x.h.B=if (Bw y==S7 x.h.B a.B)=true then a.B else e):=by
       rw[AC,N.o.2,S8,aw]
      have a0:AC _:=N.o.1;clear N bi;have ca:0<Z y.A:=AA;generalize Bw y=wy at bc av;generalize Z y.A=yl at*
      clear aw P;refine A2 (Q:=λe' c u=>e'= .normal/\c 90=my (wy==S7 x.h.B a.B)/\c 0=sl idl (Z l) cs/\c 4=ic i/\c 5=str x.h.B/\c 6=ic (n+1:Nat)/\c 7=str e/\c 8=ic k/\AD f u) ?_ ?_
      ·refine Ar Ag (λ_=>True) [] [0,1,2,3,4,5,6,7,8,9,10,11,13,14,15,16,17,18,19,20,21,22,23,24] 3 (nv 27 33550335) AH (λ_ _ _ h=>by cases h.1) ?_;intro yb ya;refine Z7 ?_;refine ya.o _ ?_;clear ya yb;refine Ai (i:=12) AH ?_;refine Am ?_;intro yb ya;refine Z7 ?_;refine AF.mono (bc _) ?_;rintro _ O2 ⟨rfl,A⟩;refine Z7 ?_;refine ya.o _ _ ⟨Al A,?_⟩;clear ya yb;refine Df [25,26] AH AH (λ_ _ _ h=>by cases h.1) A.B (λo ho _=>A.ver o ho) ?_;intro yb ya;refine Z7 ?_;refine ya.o _ _ ⟨rfl,by simp[upd,S7],AI,AI,AI,AI,AI,AI,A⟩
      rintro e' c u ⟨rfl,d,g0,g4,g5,g6,g7,g8,A⟩;have b6:=D.trans A;clear V h4 h5 h6 h7 h8 D A a7;cases K:(wy==S7 x.h.B a.B)with
      |true=>
       rw[K]at d;have g:AC (n+1=Z (E5 (l.take (k+1)) i x.h.B)/\a.B=Rp (l.take (k+1)) i x.h.B):=⟨a0.o,by rw[av.o,K];rfl⟩;clear a0 av K;refine Cj d ?_;refine mu ?_;refine⟨Z l-(k+1),AA,k+1,n+1,a.B,?_⟩;exact m9 g
      |false=>
       rw[K]at d;have g:AC (n+1=Z (E5 (l.take (k+1)) i x.h.B)/\e=Rp (l.take (k+1)) i x.h.B):=⟨a0.o,by rw[av.o,K];rfl⟩;clear a0 av K;refine De d ?_;refine mu ?_;refine⟨Z l-(k+1),AA,k+1,n+1,e,?_⟩;exact m9 g
     have br:((Z y.A:Int)==1)=false:=by simp;omega
     have g:AC (n+1=Z (E5 (l.take (k+1)) i x.h.B)/\e=Rp (l.take (k+1)) i x.h.B):=⟨N.o.1,by
      rw[N.o.2,S8];split
      ·rename_i a ha;rw[ha]at P;exact absurd rfl P
      rfl⟩
     clear N bi;generalize Z y.A=yl at*
     clear P;refine A2 (Q:=λe' c u=>e'= .normal/\c 90=my false/\c 0=sl idl (Z l) cs/\c 4=ic i/\c 5=str x.h.B/\c 6=ic (n+1:Nat)/\c 7=str e/\c 8=ic k/\u=f) ?_ ?_
     ·refine Ar Ag (λ_=>True) [] [0,1,2,3,4,5,6,7,8,9,10,11,13,14,15,16,17,18,19,20,21,22,23,24] 3 (nv 27 33550335) AH (λ_ _ _ h=>by cases h.1) ?_;intro yb ya;refine Z7 ?_;refine ya.o _ ?_;clear ya yb;refine Ai (i:=12) AH ?_;refine Am ?_;intro yb ya;refine Z7 ?_;refine ya.o _ _ ⟨kept_refl,?_⟩;clear ya yb;refine Df [25,26] AH AH (λ_ _ _ h=>by cases h.1) (AU _) (λo ho _=>rfl) ?_;intro yb ya;refine Z7 ?_;refine ya.o _ _ ⟨rfl,AG,AI,AI,AI,AI,AI,AI,rfl⟩
     rintro e' c u ⟨rfl,d,g0,g4,g5,g6,g7,g8,rfl⟩;clear V h4 h5 h6 h7 h8;refine De d ?_;refine mu ?_;refine⟨Z l-(k+1),AA,k+1,n+1,e,?_⟩;exact m9 g
    have a8:(y.h.B==x.h.B)=false:=nn p;have g:AC _:=G.o (by simp[Ik,Fw,p]);clear G M j H;rw[L]at ax;refine mu ?_;refine⟨Z l-(k+1),AA,k+1,n,e,?_⟩;exact m9 g
  have bu:k=Z l:=AA;subst bu;have j:=j.o;rw[AS]at j;obtain⟨bp,az⟩:=j;have F:AC (xT l i x=(decide (n=1)&&(!decide (e=[])&&(!decide (e=x.h.B)&&Bb l (rpl i [Cn x.h.B e] l))))):=by rw[AC,xT,Y.o,<-bp,<-az];rfl
  have HV:AC (e=Rp l i x.h.B):=az;have B:=RG hg i x.h.B;rw[<-az]at B;clear bp az;by_cases bm:n=1
  ·subst bm;by_cases E:e=[]
   ·have bw:(e==([]:Tx))=true:=by rw[E];rfl
    have C:AC (IV l (i+1)):=v.o (by rw[F.o,E];simp);clear v F HV Y B E;refine mu ?_;refine⟨Z l-(i+1),AA,i+1,?_⟩;exact m9 C
   have bw:(e==([]:Tx))=false:=nn E;have B:=B.resolve_left E;by_cases S:e=x.h.B
   ·have a8:(e==x.h.B)=true:=nn S
    have C:AC (IV l (i+1)):=v.o (by rw[F.o,S];simp);clear v F HV Y B E S;refine mu ?_;refine⟨Z l-(i+1),AA,i+1,?_⟩;exact m9 C
   have a8:(e==x.h.B)=false:=nn S;have a4:AC (xT l i x=Bb l (rpl i [Cn x.h.B e] l)):=by rw[AC,F.o];simp[E,S]
   have bb:=(hg x X).nm;obtain⟨t1,t2,t3,t4⟩:=ZD bb B;have bz:∀t,t=Yr x.h.B e->∀O,ni 62 [str t] O λr f=>∃id cs,r=sl id 1 cs/\EL AJ [Cn x.h.B e] cs/\AD O f:=λt et O=>by
    subst et;exact (L2 _ t1 t2 t3 O).mono λr f ⟨id,cs,a1,a2,a3⟩=>⟨id,cs,by rw[a1,t4];rfl,by rw[<-t4];exact a2,a3⟩
   have bo:=λI co (ay:EL AJ [Cn x.h.B e] co) O=>G7 l [Cn x.h.B e] cs co idl I i J ay AA nk a9 O
   have bh:=λidm cm (hm:EL AJ (rpl i [Cn x.h.B e] l) cm) O=>Gd l (rpl i [Cn x.h.B e] l) cs cm idl idm J hm AA (by rw[uX];omega) (λz T=>by
    rcases Cy T with T|T
    ·exact U z T
    simp at T;subst T;exact nI bb B) O
   have HY:AC (xT l i x=true->LO l (some (rpl i [Cn x.h.B e] l))):=λh=>.inr ⟨i,x,by rw[<-HV.o],HG.o,h,ap.o⟩;clear t1 t2 t3 t4 F HV Y B E S bb ap;generalize Bb l (rpl i [Cn x.h.B e] l)=ab at bh a4;generalize rpl i [Cn x.h.B e] l=R at bo bh HY
   repeat' first|refine Z1 ?_|refine Z8 λyb ya=>?_|refine Z4 ?_;clear ya yb|refine Z2 ?_ ?_<;>intro h aa<;>try exact Xp|(refine Z5 ?_;first|(refine Xi (bz _ (by simp[Yr]) _) ?_;rintro _ _ ⟨I,co,rfl,ay,b9⟩;(have bd:=bo I co ay;clear ay))|(refine Xi (bd _) ?_;rintro _ _ ⟨idr,cr,rfl,bf,b8⟩;(have bg:=bh idr cr bf;have b0:AC _:=bf;clear bf))|(refine Xi (bg _) ?_;rintro _ _ ⟨rfl,b7⟩;(cases ab)))|refine Z7 ?_|exact Zt|apply ya.o;clear ya yb
   ·have C:AC (IV l (i+1)):=v.o a4.o;clear v HY a4;refine⟨Z l-(i+1),AA,i+1,?_⟩
    exact m9 C
   exact⟨_,rfl,some R,R,idr,cr,rfl,HY.o a4.o,(by intro W h;cases h;rfl),b0.o,Xs⟩
  have b2:((n:Int) !=1)=true:=by simp;omega
  have C:AC (IV l (i+1)):=v.o (by rw[F.o,KF bm];rfl);clear v F HV Y B;refine mu ?_;refine⟨Z l-(i+1),AA,i+1,?_⟩;exact m9 C
 have HR:AC (LO l none):=.inl ⟨rfl,λi' x' h h'=>ap.o i' x' AA h'⟩;clear ap;refine mu ?_
 first|exact⟨_,rfl,none,l,idl,cs,rfl,HR.o,(by intro W h;cases h),J,D⟩|exact⟨_,rfl,none,l,idl,cs,rfl,HR.o,(by intro W h;cases h),J⟩
def pJ:LT->Tx
 |(false,t)=>t
 |(true,t)=>Ta t
def R5 (p):Ab (pJ p)=Ab p.2:=by
 obtain⟨s,t⟩:=p;cases s with
 |false=>rfl
 |true=>
  show Ab (Ta t)=Ab t;unfold Ta;split;cases t<;>rfl;rfl
def R6 {p}(h:Ab p.2=false):pJ p=p.2:=by
 obtain⟨s,t⟩:=p;cases s with
 |false=>rfl
 |true=>exact if_neg (nn h)
def gU {p}(a:UT p.2)(h:Ab p.2=false):Hm p=Aq p.2:=by
 obtain⟨s,t⟩:=p;cases s with
 |false=>rfl
 |true=>rw[Hm,O8 a,if_neg (nn h)]
def R7 {p q}(d:UT p.2)(c:UT q.2):Hm p=Hm q↔pJ p=pJ q:=by
 constructor;intro h;obtain⟨e,i⟩:=sG d c h;cases a:Ab p.2 with
 |true=>rw[show p=q from GB (i a) e]
 |false=>rw[R6 a,R6 (by rw[<-e];exact a),e]
 intro h;have f:Ab p.2=Ab q.2:=by rw[<-R5,<-R5,h]
 cases a:Ab p.2 with
 |false=>
  have b:Ab q.2=false:=by rw[<-f];exact a
  rw[R6 a,R6 b]at h;rw[gU d a,gU c b,h]
 |true=>
  have b:Ab q.2=true:=by rw[<-f];exact a
  obtain⟨k,-,g,-⟩:=d.enc a;obtain⟨j,-,e2,-⟩:=c.enc b;obtain⟨s,t⟩:=p;obtain⟨l,m⟩:=q;simp only at g e2;subst g;subst e2;cases s<;>cases l<;>simp only[pJ,Ta,a,b,if_true]at h;rw[h];simp at h;simp at h;have:Im k=Im j:=nn h;rw[this]
def IU (I:LT->Prop)(P:List Tm)(Q:Tx->Tx):Prop:=Z P=52/\∀p,I p->∃q,I q/\Hl P (Hm p)=Hm q/\Q (pJ p)=pJ q
def IU.put {I}(a:∀p,I p->UT p.2){P Q}(h:IU I P Q){v w}(b:I v)(i:I w)(j:Ab v.2=true):IU I (Us P (Hm v) (Hm w)) λt=>if Q t=pJ v then pJ w else Q t:=
 ⟨by rw[Of];exact h.1,λr d=>by
  obtain⟨s,c,f,k⟩:=h.2 r d;rw[fZ h.1 (gT (a r d)) (by rw[Nx (a v b)];exact j),f];simp only[k];by_cases g:Hm s=Hm v;rw[if_pos g,if_pos ((R7 (a s c) (a v b)).1 g)];exact⟨w,i,rfl,rfl⟩;rw[if_neg g,if_neg λe=>g ((R7 (a s c) (a v b)).2 e)]
  exact⟨s,c,rfl,rfl⟩⟩
def uY {z}(h:z.o=false)(v t Q):Dj v t (Vd Q z)=Vd (λu=>if Q u=v then t else Q u) z:=by
 simp only[Dj,F8,Vd,BH,h,Function.comp_def]
def Vf {x y}(b:∀p,rY x y p->UT p.2){j a}(c:x.A[j]?=some a)(o:Z a.A=Z y.h.A)(d:∀t∈a.A,rY x y (false,t))(f:∀t∈y.h.A,rY x y (true,t)):∀(m k:Nat) (P:List Tm) (Q:Tx->Tx),k+m=Z y.h.A->IU (rY x y) P Q->
  (Kj j (Z x.A) m k (Vd Q (Pv x y))=none/\Dy P ((a.A.drop k).map λt=>Hm (false,t)) ((y.h.A.drop k).map λt=>Hm (true,t))=none)\/∃z Q',Kj j (Z x.A) m k (Vd Q (Pv x y))=some (Vd Q' (Pv x y))/\Dy P ((a.A.drop k).map λt=>Hm (false,t)) ((y.h.A.drop k).map λt=>Hm (true,t))=some z/\IU (rY x y) z Q'
 |0,k,P,Q,E,h=>.inr ⟨P,Q,rfl,by rw[JU AA];rfl,h⟩
 |m+1,k,P,Q,E,h=>by
  have l:k<Z a.A:=AA;have n:k<Z y.h.A:=AA;obtain⟨p,s,G,F⟩:=h.2 (false,a.A[k]) (d _ (AR l));obtain⟨q,i,I,A⟩:=h.2 (true,y.h.A[k]) (f _ (AR n));have B:(Vd Q (Pv x y)).A[j]?=some ⟨a.nt,a.B,a.A.map Q⟩:=by
   rw[Vd,DC,Pv,MB (BA.1 c).1,c];rfl
  have C:(Vd Q (Pv x y)).A[Z x.A]?=some ⟨y.h.nt,y.h.B,(y.h.A.map Ta).map Q⟩:=by
   rw[Vd,DC,Pv,JY (AU _),GX];rfl
  rw[eI B C (t:=pJ p) (u:=pJ q) (by rw[DC,AK l];exact congrArg some F) (by rw[DC,DC,AK n];exact congrArg some A),ET l,ET n,CC,CC,Dy,Np,G,I];have v:=b p s;have r:=b q i;by_cases e:pJ p=pJ q;rw[if_pos e,if_pos ((R7 v r).2 e)];exact Vf b c o d f m (k+1) P Q AA h;rw[if_neg e,if_neg λg=>e ((R7 v r).1 g),Nx v,Nx r,R5,R5,uY rfl,uY rfl];cases D:Ab q.2 with
  |true=>exact Vf b c o d f m (k+1) _ _ AA (h.put b i s D)
  |false=>
   cases H:Ab p.2 with
   |true=>exact Vf b c o d f m (k+1) _ _ AA (h.put b s i H)
   |false=>exact .inl ⟨rfl,rfl⟩
def jp {x y j}(b:j<Z x.A)(a:x.h.nt=false)(Q):Tq j (Z x.A) (Vd Q (Pv x y))=pI x (aX x j y) λp=>Q (pJ p):=by
 unfold Tq pI aX;rw[I4 (nn b)];have e:Z x.A+1-Z x.A=1:=AA;simp only[Vd,Pv,a,EU,CC,BH,List.map_take,List.map_drop,List.take_left',BV];rw[List.drop_append,JU nk];simp only[BV,e,List.drop_succ_cons,JH,FE,Function.comp_def,Gz,IW,pJ,BH]
def Su {j:Type}{J:j->Prop}{g f}(i:∀p q,J p->J q->(g p=g q↔f p=f q))(e:∀p,J p->(g p).1=Ab (f p)):∀(L K:List j),(∀p∈L,J p)->(∀p∈K,J p/\(g p).1=true)->
  ∃l:List j,(∀p∈l,J p/\(g p).1=true)/\(L.map g).foldl vF (K.map λp=>(g p).2)=l.map (λp=>(g p).2)/\(L.map f).foldl Er (K.map f)=l.map f
 |[],K,_,b=>⟨K,b,rfl,rfl⟩
 |p::L,K,k,b=>by
  have d:=k p nk;have m:(g p).1=true->((g p).2∈K.map (λp=>(g p).2)↔f p∈K.map f):=λo=>by
   simp only[AN];exact⟨λ⟨q,a,h⟩=>⟨q,a,(i q p (b q a).1 d).1 (GB (by rw[(b q a).2,o]) h)⟩,λ⟨q,a,h⟩=>⟨q,a,by rw[(i q p (b q a).1 d).2 h]⟩⟩
  rw[CC,CC,FW,FW];by_cases c:(g p).1=true/\(g p).2∉K.map λp=>(g p).2;have n:vF (K.map λp=>(g p).2) (g p)=(K++[p]).map λp=>(g p).2:=by rw[vF,if_pos c];simp
  have e2:Er (K.map f) (f p)=(K++[p]).map f:=by rw[Er,if_pos ⟨by rw[<-e p d];exact c.1,λh=>c.2 ((m c.1).2 h)⟩];simp
  rw[n,e2];exact Su i e L (K++[p]) (λq a=>k q (by simp[a])) λq a=>by
   rcases AW.1 a with a|a;exact b q a;simp at a;subst a;exact⟨d,c.1⟩
  rw[vF,if_neg c,Er,if_neg λh=>c ⟨by rw[e p d];exact h.1,λg=>h.2 ((m (by rw[e p d];exact h.1)).1 g)⟩];exact Su i e L K (λq a=>k q (by simp[a])) b
def nS {b:Type}{g:b->Int}{f:b->Tx}{p}:∀K:List b,(∀q∈K,g q=g p↔f q=f p)->(K.map g).idxOf (g p)=(K.map f).idxOf (f p)/\(g p∈K.map g↔f p∈K.map f)
 |[],_=>⟨rfl,nk⟩
 |q::K,h=>by
  obtain⟨i,c⟩:=nS (g:=g) (f:=f) (p:=p) K λr d=>h r (by simp[d]);have:=h q nk;rw[CC,CC,JZ,JZ,i,BD,BD,c,eq_comm (a:=g p),eq_comm (a:=f p),this];refine⟨?_,Iff.rfl⟩;by_cases e:f q=f p;rw[e,this.2 e];simp;rw[show (g q==g p)=false by simpa using λe2=>e (this.1 e2),show (f q==f p)=false by simpa using e]
def gg {r:Type}{J:r->Prop}{g f}(k:∀p q,J p->J q->(g p=g q↔f p=f q))(n:∀p,J p->(g p).1=Ab (f p))(v:∀p,J p->(g p).1=false->Km (g p)=f p){L}(l:∀p∈L,J p)(x:Z L<=26){p}(o:p∈L):C6 (Fu [] (L.map f)) (f p)=Km (G8 ((L.map g).foldl vF []) (g p)):=by
 have b:=l p o;have d:=No (L.map f) [] (f p);have a:=Ro (L.map f) [];obtain⟨K,i,m,e2⟩:=Su k n L [] l nk;simp only[IK]at m e2;unfold Fu at d a⊢;rw[e2]at d a⊢;rw[m];unfold G8 C6;rw[<-n p b]at d⊢;cases c:(g p).1 with
 |false=>
  rw[<-v p b c];simp[Km,c]
 |true=>
  obtain⟨t,u⟩:=nS (g:=λp=>(g p).2) (f:=f) (p:=p) K λq e=>⟨λh=>(k q p (i q e).1 b).1 (GB (by rw[(i q e).2,c]) h),λh=>by rw[(k q p (i q e).1 b).2 h]⟩;have j:f p∈K.map f:=d (.inr ⟨AN.2 ⟨p,o,rfl⟩,c⟩);have s:=CS j;simp only[CQ,BV]at a s;simp only[if_true];unfold lZ Bv;rw[if_pos j,if_pos (u.2 j),t,L1 AA AA];unfold Km;rw[if_pos rfl]
def yJ {x B f c}(h:∀p∈nN x B,f p=c p):pI x B f=pI x B c:=by
 unfold pI;congr 1;congr 1;exact CG λt a=>h (false,t) (GK _ (AN.2 ⟨t,a,rfl⟩));refine CG λb d=>?_;congr 1;exact CG λt a=>h (b.1,t) (LI _ (EX.2 ⟨b,d,AN.2 ⟨t,a,rfl⟩⟩))
def ii (x B f):ren (pI x B f)=pI x B λp=>C6 (Fu [] ((nN x B).map f)) (f p):=by
 have e:Au (pI x B f)=Fu [] ((nN x B).map f):=by
  unfold Au Af;congr 1;simp only[pI,nN,EI,if_false,EW,FE,DN,JG,EU,BH,LH];rfl
 unfold ren;rw[e];simp only[pI,Br,BH,Function.comp_def]
def flat3 {B:List (Bool×AE)}(h:∀b∈B,Z b.2.A<=3):Z (B.flatMap λb=>b.2.A.map λt=>(b.1,t))<=3*Z B:=by
 induction B with
 |nil=>simp
 |cons b B d=>
  have f:=h b nk;have e:=d λc a=>h c (by simp[a]);rw[DN,AX,BV,BQ];omega
def JW (w u:AB):Prop:=w.o=false/\Z w.A=Z u.A/\(w.h.nt=false/\w.h.A≠[]/\∀a∈w.A,a.A≠[])/\(Z w.A<=5->ren w=u)
section
variable {N:ol} {ar:Tx->Nat} {l:n0} (hR:BB N ar l)
include hR
theorem WJ {x y}(o:x∈l)(k:x.o=false)(A:y∈l)(C:y.o=false){j a}(v:x.A[j]?=some a)(d:y.h.B=a.B):
  (joinL x j y=none/\(Kt N x j y).map (Cz N)=none)\/∃w u,joinL x j y=some w/\(Kt N x j y).map (Cz N)=some u/\JW w u:=by
 have L:=AY v;have i:∀p,rY x y p->UT p.2:=λp ⟨b,h,m⟩=>by
  rcases h with⟨-,h⟩|⟨-,h⟩;exact hR.ut o b h _ m;exact hR.ut A b h _ m
 have T:Z a.A=Z y.h.A:=by rw[((hR.ru x o k).A a L).len,(hR.ru y A C).h.len,d]
 have z:=(hR.wit x o).2.2 k;have V:=(hR.wit y A).2.2 C;have U:Vd id (Pv x y)=Pv x y:=by simp[Vd,Pv]
 have D:=Vf i v T (λt m=>⟨a,.inl ⟨rfl,Ap (.inr L)⟩,m⟩) (λt m=>⟨y.h,.inr ⟨rfl,Ap (.inl ⟨C,rfl⟩)⟩,m⟩) (Z y.h.A) 0 BY id AA ⟨Ni,λp d=>⟨p,d,X3 (gT (i p d)),rfl⟩⟩;rw[pV (hR.nm x o).2 (hR.nm x o).1 (hR.nm y A).2,v,FU];unfold joinL;rw[U]at D;simp only[JH]at D;rcases D with⟨F,E⟩|⟨P,Q,F,E,s⟩;rw[F,E];exact .inl ⟨rfl,rfl⟩;rw[F,E];refine .inr ⟨_,_,rfl,rfl,?_⟩;rw[jp (BA.1 v).1 z.2.1];have K:∀b∈aX x j y,En b.2:=λb e=>by
  rcases rT e with⟨-,h⟩|⟨-,h⟩;exact z.2.2.2 _ h;exact V.2.2.2 _ h
 refine⟨rfl,by simp[pI],⟨rfl,by simpa[pI]using z.1.2.1,λc G=>?_⟩,λI=>?_⟩;obtain⟨b,e,rfl⟩:=AN.1 G;simpa using (K b e).2.1;rw[ii];refine yJ λp d=>?_;have S:Z (nN x (aX x j y))<=26:=by
  have s:=flat3 (B:=aX x j y) λb e=>(K b e).2.2.1;have W:=z.1.2.2.1;have I:Z (aX x j y)<=5:=by simpa[pI]using I
  unfold nN;rw[AX,BV];omega
 refine gg (J:=rY x y) (g:=λp=>Hl P (Hm p)) (f:=λp=>Q (pJ p)) (λp q d M=>?_) (λp d=>?_) (λp d H=>?_) (λp d=>RP k C d) S d;obtain⟨b,e,n,r⟩:=s.2 p d;obtain⟨c,G,O,R⟩:=s.2 q M;rw[n,r,O,R];exact R7 (i b e) (i c G);obtain⟨b,e,n,r⟩:=s.2 p d;rw[n,r,Nx (i b e),R5];obtain⟨b,e,n,r⟩:=s.2 p d;rw[n,Nx (i b e)]at H;rw[n,r,gU (i b e) H,R6 H,(i b e).dec.1]
theorem ke {x}(n:x∈l)(d:x.o=false){j a}(q:x.A[j]?=some a):∃L:List (AB×AB),uR l x j a.B=L.map (·.1)/\uL N l x j a.B=L.map (·.2)/\∀p∈L,JW p.1 p.2:=by
 have c:∀M:n0,(∀y∈M,y∈l/\Fw a.B y=true)->∃L:List (AB×AB),M.filterMap (joinL x j)=L.map (·.1)/\M.filterMap (λy=>(Kt N x j y).map (Cz N))=L.map (·.2)/\∀p∈L,JW p.1 p.2:=λM=>by
  induction M with
  |nil=>intro _;exact⟨[],rfl,rfl,λp b=>by cases b⟩
  |cons y M o=>
   intro h;obtain⟨L,t,r,m⟩:=o λz s=>h z (by simp[s]);obtain⟨g,k⟩:=h y nk;simp only[Fw,BM,FJ,CV]at k;rw[List.filterMap_cons,List.filterMap_cons,t,r];rcases WJ hR n d g k.1 q k.2 with⟨i,f⟩|⟨w,u,i,f,g3⟩;rw[i,f];exact⟨L,rfl,rfl,m⟩;rw[i,f]
   exact⟨(w,u)::L,rfl,rfl,λp b=>by
    rcases BD.1 b with rfl|b;exact g3
    exact m p b⟩
 have e:uL N l x j a.B=(l.filter (Fw a.B)).filterMap λy=>(Kt N x j y).map (Cz N):=by
  unfold uL Lo;rw[List.map_filterMap]
 rw[e];exact c _ λy g=>BP.1 g
end
def TT (x:AB):Prop:=x.o=false->x.h.nt=false/\x.h.A≠[]/\∀a∈x.A,a.A≠[]
def wH {x}(h:TT x):Bw x=Bz (ren x)++[46]:=by
 unfold Bw Bz;cases a:x.o with
 |true=>simp[ren,Br,a]
 |false=>
  obtain⟨b,d,c⟩:=h a;rw[if_neg nk,if_neg (by simp[ren,a]),Qx d,bD c,Q4 (by simpa[Br]using b)];unfold D1;simp[ren]
structure NS (N:ol)(l m md:n0):Prop where
 nm:aW N m
 ls:LS m (md.map ren)
 wr:∀x∈md,TT x
 wi:∀x∈md.map ren,Dc x
 gi:C5 N l m=true->∀x∈md.map ren,iS x
def NS.items {N l m a}(h:NS N l m a):Bj a=Cr (a.map ren)/\Bl (Bj a)=a.map ren:=by
 have e:Bj a=Cr (a.map ren):=by
  unfold Bj Cr;rw[JG,List.flatMap_def,List.flatMap_def,CG λx b=>wH (h.wr x b)]
 refine⟨e,?_⟩;rw[e];unfold Bl;rw[O3 _ h.wi,BH]
 conv=>rhs;rw[<-IE (a.map ren)]
 exact CG λy c=>(Jl (h.wi y c)).1
def NS.allow {N l m a}(h:NS N l m a)(H:aW N l):Bb l a=C5 N l m:=by
 obtain⟨r,C⟩:=h.items;have s:∀x∈a.map ren,x.o=true->x.A=[]:=λx b f=>((h.wi x b).2.1 f).2.2;have v:∀x∈m,x.o=true->x.A=[]:=λx b f=>by
  obtain⟨y,o,d⟩:=h.ls.mem b;exact GG (by rw[d.bl,s y o (by rw[<-d.o];exact f)];rfl)
 have B:Z a=Z m:=by rw[h.ls.len,BV]
 have t:(∀x∈a,Z x.A<=5)↔∀x∈m,Z x.A<=5:=by
  constructor;intro g x b;obtain⟨y,o,d⟩:=h.ls.mem b;obtain⟨z,j,rfl⟩:=AN.1 o;rw[d.bl];simpa[ren]using g z j;intro g z j;obtain⟨x,b,d⟩:=h.ls.symm.mem (AN.2 ⟨z,j,rfl⟩);have:=g x b;rw[<-d.bl]at this;simpa[ren]using this
 have A:(!l.any (Ki a))=!Rt N m l:=by
  congr 1;refine GI.2 ?_;rw[<-Decidable.not_iff_not,JE,JE,Rr H h.nm,EV];have u:∀p,F7 a p=true↔Rk m p:=λp=>by
   have:F7 a p=true↔Rk a p:=by
    unfold F7 Rk P3;simp only[CU,BM,FJ,DO]
   rw[this,<-XM];exact⟨λw=>h.ls.symm.rld w,λw=>h.ls.rld w⟩
  have D:∀p,a.any (Ly p)=true↔K9 m p:=λp=>by
   have:a.any (Ly p)=true↔K9 a p:=by
    unfold K9 Ly;simp only[CU,LF,DO]
   rw[this,<-YZ];exact⟨λw=>h.ls.symm.nmd w,λw=>h.ls.nmd w⟩
  constructor;rintro h p F ⟨x,b,f,rfl⟩;have:=h x b;unfold Ki at this;rw[f,(D _).2 F]at this;refine (u _).1 ?_;simpa using this;intro h x b e;unfold Ki at e;simp only[BM,FJ]at e;have:=(u _).2 (h _ ((D _).1 e.2.1) ⟨x,b,e.1,rfl⟩);rw[e.2.2]at this;cases this
 have I:=fM h.ls;refine GI.2 ⟨λg=>?_,λg=>?_⟩;unfold Bb at g;rw[A]at g;simp only[BM,CV,CX,DO]at g;obtain⟨E,i,c,k⟩:=g;unfold Av at c;split at c;cases c;rename_i n;split at c;cases c;rw[C]at c;rw[r]at n;unfold C5 Jk;simp only[BM,CV,CX,DO];exact⟨⟨AA,t.1 i,AA⟩,k,Qw h.ls.symm s v c⟩;have G:=h.gi g;unfold C5 Jk at g;simp only[BM,CV,CX,DO]at g;obtain⟨⟨E,i,c⟩,k,n⟩:=g;unfold Bb;rw[A];simp only[BM,CV,CX,DO];refine⟨AA,t.2 i,?_,k⟩;have q:Eo (Bj a)= -1:=by rw[Hb,r,Te 16 (a.map ren) G (by rw[BV];omega)]
 unfold Av;rw[if_neg (by rw[r];omega),if_neg (by rw[q];decide),C];exact Qw h.ls v s n
section
variable {N:ol} {ar:Tx->Nat} {l:n0} (hR:BB N ar l) (hg:∀x∈l,iS x)
include hR hg
theorem RH {p}(h:K9 l p):tE p:=by
 obtain⟨y,c,rfl|⟨a,b,rfl⟩⟩:=h;exact (hg y c).nm;cases d:y.o with
 |true=>rw[((hg y c).o d).2.2]at b;cases b
 |false=>exact (((hg y c).rule d).2.2.2 a b).nm
theorem SF {i}(u:i<Z l){L:List (AB×AB)}(k:∀p∈L,JW p.1 p.2)(s:MN N ar (L.map (·.2)))(A:∀z∈L.map (·.2),K9 l z.h.B/\∀a∈z.A,K9 l a.B):
  Bb l (rpl i (L.map (·.1)) l)=C5 N l (rpl i (L.map (·.2)) l)/\(C5 N l (rpl i (L.map (·.2)) l)=true->LS (rpl i (L.map (·.2)) l) (Bl (Bj (rpl i (L.map (·.1)) l)))):=by
 have inr:∀{o:n0} {z:AB},z∈o->z∈rpl i o l:=λ{o z} b=>by rw[I4 u];simp[b]
 by_cases d:∀p∈L,Z p.2.A<=5;have m:∀z∈rpl i (L.map (·.2)) l,K9 l z.h.B/\∀a∈z.A,K9 l a.B:=λz b=>by
  rcases Cy b with h|h;exact⟨⟨z,h,.inl rfl⟩,λa f=>⟨z,h,.inr ⟨a,f,rfl⟩⟩⟩;exact A z h
 have q:(rpl i (L.map (·.1)) l).map ren=rpl i (L.map (·.2)) (l.map ren):=by
  rw[<-Ri,BH];congr 1;exact CG λp c=>(k p c).2.2.2 (by rw[(k p c).2.1];exact d p c)
 have n:NS N l (rpl i (L.map (·.2)) l) (rpl i (L.map (·.1)) l):=by
  refine⟨λz b=>⟨Vb hR (m z b).1,λa f=>Vb hR ((m z b).2 a f)⟩,?_,λz b=>?_,λz b=>?_,λv z b=>?_⟩;rw[q];exact (LS.of_ren hR).rpl (LS.refl _) i;rcases Cy b with h|h;exact λg=>⟨((hR.wit z h).2.2 g).2.1,((hR.wit z h).2.2 g).1.2.1,λa f=>(((hR.wit z h).2.2 g).2.2.2 a f).2.1⟩;obtain⟨p,c,rfl⟩:=AN.1 h;exact λ_=>(k p c).2.2.1;rw[q]at b;rcases Cy b with h|h;obtain⟨y,j,rfl⟩:=AN.1 h;exact Ky (hR.wit y j) (hR.wi y j);obtain⟨p,c,rfl⟩:=AN.1 h;obtain⟨r,e,C,B⟩:=s _ h (d p c);rw[e];exact C.wit B;rw[q]at b;rcases Cy b with h|h;obtain⟨y,j,rfl⟩:=AN.1 h;exact QU (hg y j) λg=>hR.xr j g;exact k8 (OR hR s i v) (λz b=>⟨RH hR hg (m z b).1,λa f=>RH hR hg ((m z b).2 a f)⟩) z (inr h)
 exact⟨n.allow hR.nm,λ_=>by rw[n.items.2];exact n.ls⟩;simp only[Classical.not_forall]at d;obtain⟨p,c,d⟩:=d;have t:C5 N l (rpl i (L.map (·.2)) l)=false:=by
  unfold C5 Jk;rw[show (rpl i (L.map (·.2)) l).all (λx=>decide (Z x.A<=5))=false from IQ.2 ⟨p.2,inr (AN.2 ⟨p,c,rfl⟩),nn d⟩];simp
 have e2:Bb l (rpl i (L.map (·.1)) l)=false:=by
  unfold Bb;rw[show (rpl i (L.map (·.1)) l).all (λx=>decide (Z x.A<=5))=false from IQ.2 ⟨p.1,inr (AN.2 ⟨p,c,rfl⟩),by rw[(k p c).2.1];simpa using d⟩];simp
 rw[t,e2];exact⟨rfl,λh=>by cases h⟩
theorem OU {i x}(m:l[i]?=some x)(d:x.o=false){j a}(n:x.A[j]?=some a):Bb l (rpl i (uR l x j a.B) l)=C5 N l (rpl i (uL N l x j a.B) l)/\(C5 N l (rpl i (uL N l x j a.B) l)=true->LS (rpl i (uL N l x j a.B) l) (Bl (Bj (rpl i (uR l x j a.B) l)))):=by
 have f:=AY m;obtain⟨L,u,p,t⟩:=ke hR f d n;have o:=OP hR f d n;have k:=λz (g:z∈uL N l x j a.B)=>jD hR f d g;rw[p]at o k;rw[u,p]
 exact SF hR hg (BA.1 m).1 t o λz g=>⟨⟨x,f,.inl (k z g).1.symm⟩,λb s=>by
  obtain⟨y,r,c,q,e⟩:=(k z g).2 b s
  exact⟨y,r,.inr ⟨c,q,e⟩⟩⟩
def LR (S:n0->Option n0->Prop)(l:n0)(o:Option n0):Prop:=(o=none/\S l none)\/∃a m,o=some a/\S l (some m)/\LS m (Bl (Bj a))
theorem j9 {o}(h:LV l o):LR (KU N) l o:=by
 classical
 let M:Nat->Nat->Bool:=λp q=>decide (Yj N l p q);have t:Dw N l M:=λp q=>decide_eq_true_iff;have v:∀x∈l,x.o=true->x.A=[]:=λx b=>(hR.gl.msr x b).o;have g:∀{i:Nat} {x:AB} {k:Nat} {a:AE},l[i]?=some x->x.A[k]?=some a->x.o=false:=λ{i x k a} b c=>by
  cases f:x.o with
  |false=>rfl
  |true=>rw[v x (AY b) f]at c;simp at c
 have n:∀{i:Nat} {x:AB} {k:Nat} {a:AE},l[i]?=some x->x.A[k]?=some a->Tg N (F9 (Z N) M (Z N)) l i k=okD l i x k a:=λ{i x k a} b c=>by
  have z:=AY b;have m:=(hR.nm x z).2 a (AY c)
  have r:Dr N l (N.idxOf a.B)=F7 l a.B:=GI.2 (by
   rw[Lu (λy d=>(hR.nm y d).1) m];unfold F7 Rk P3
   simp only[CU,BM,FJ,DO])
  unfold Tg okD;rw[b];simp only;rw[c];simp only;rw[(OU hR hg b (g b c) c).1,r];cases A:F7 l a.B with
  |false=>simp
  |true=>
   rw[A,Lu (λy d=>(hR.nm y d).1) m]at r;have B:F9 (Z N) M (Z N) (N.idxOf a.B) (N.idxOf a.B)=J2 l a.B a.B:=GI.2 (by rw[Mv hR.nm t m m,Ks v r]);rw[B];simp[Bool.and_left_comm]
 rcases h with⟨rfl,h⟩|⟨i,x,j,a,rfl,b,c,h1,h2,h3⟩;exact .inl ⟨rfl,M,t,.inl ⟨rfl,λi y s d k e=>by rw[n d (AK e)];exact h i y s d k _ (AK e)⟩⟩;have f:=g b c;refine .inr ⟨_,_,rfl,⟨M,t,.inr ⟨i,j,x,a,rfl,b,f,c,by rw[n b c];exact h1,λC y s d k e=>by rw[n d (AK e)];exact h2 C y s d k _ (AK e),λk e=>?_⟩⟩,(OU hR hg b f c).2 ?_⟩;have u:k<Z x.A:=Nat.lt_trans e (BA.1 c).1;rw[n b (AK u)];exact h3 k _ e (AK u);rw[<-(OU hR hg b f c).1];unfold okD at h1;simp only[BM]at h1;exact h1.2.2.2
theorem dE {i q}:Ez l i q=if Z (E5 l i q)=1/\Rp l i q≠[]/\Rp l i q≠q then some (Rp l i q)else none:=by
 have j:∀y∈E5 l i q,y∈l/\y.o=false/\y.h.B=q:=λy c=>by
  refine⟨Va c,?_⟩;obtain⟨p,g,rfl⟩:=AN.1 c;have:=(BP.1 g).2;unfold Ik Fw at this;simp only[BM,FJ,CV]at this;exact this.2
 unfold Ez Rp;split;rename_i y e;rw[e]at j⊢;obtain⟨c,k,rfl⟩:=j y nk;by_cases f:∃a,y.A=[a];obtain⟨a,b⟩:=f;have m:a.B≠[]:=(((hg y c).rule k).2.2.2 a (by rw[b];simp)).nm.1.1;have d:S8 y.h.B [] y=if (Bw y==S7 y.h.B a.B)=true then a.B else []:=by rw[S8,b]
 have e2:Jf y=(!decide (a.B=y.h.B)&&(Bw y==S7 y.h.B a.B)):=by rw[Jf,b]
 rw[b];simp only[BQ,CQ,FW,List.foldl_nil,d,e2];generalize (Bw y==S7 y.h.B a.B)=w;cases w with
 |false=>simp
 |true=>by_cases g:a.B=y.h.B<;>simp[g,m]
 have d:S8 y.h.B [] y=[]:=by
  unfold S8;split;rename_i a b;exact absurd ⟨a,b⟩ f;rfl
 have e2:Jf y=false:=by
  unfold Jf;split;rename_i a b;exact absurd ⟨a,b⟩ f;rfl
 simp[d,e2];rename_i e;rw[if_neg];rintro⟨h,-⟩;obtain⟨y,c⟩:=List.length_eq_one_iff.1 h;exact e y c
theorem kx {o}(h:LO l o):LR (KR N) l o:=by
 have al:∀{i:Nat} {x:AB} {e:Tx},l[i]?=some x->Lj x=true->Ez l i x.h.B=some e->Bb l (rpl i [Cn x.h.B e] l)=C5 N l (rpl i [Cn x.h.B e] l)/\(C5 N l (rpl i [Cn x.h.B e] l)=true->LS (rpl i [Cn x.h.B e] l) (Bl (Bj (rpl i [Cn x.h.B e] l)))):=λ{i x e} b d f=>by
  have D:=AY b;have A:K9 l x.h.B:=⟨x,D,.inl rfl⟩;have M:K9 l e:=by
   unfold Ez at f;split at f;rename_i y H;split at f;split at f;rename_i a K;cases f;exact⟨y,Va (by rw[H];simp),.inr ⟨a,by rw[K];simp,rfl⟩⟩;cases f;cases f;cases f
  exact SF hR hg (BA.1 b).1 (L:=[(Cn x.h.B e,Cn x.h.B e)]) (λp C=>by
   simp at C;subst C
   exact⟨rfl,rfl,⟨rfl,by simp[Cn],λa d=>by simp[Cn]at d;rcases d with rfl|rfl<;>simp⟩,λ_=>rfl⟩) (rP hR b d f) λz v=>by
   simp at v;subst v;exact⟨A,λa d=>by simp[Cn]at d;rcases d with rfl|rfl;exact M;exact A⟩
 have m:∀{i:Nat} {x:AB},l[i]?=some x->Yk N l i=xT l i x:=λ{i x} b=>by
  unfold Yk xT;rw[b];simp only;cases d:Lj x with
  |false=>rfl
  |true=>
   have c:=dE hR hg (i:=i) (q:=x.h.B);rw[FV,FV];by_cases g:Z (E5 l i x.h.B)=1/\Rp l i x.h.B≠[]/\Rp l i x.h.B≠x.h.B;rw[if_pos g]at c;rw[c];simp only;rw[<-(al b d c).1];simp[g];rw[if_neg g]at c;rw[c];simp only;by_cases s:Z (E5 l i x.h.B)=1;by_cases t:Rp l i x.h.B=[];simp[t];by_cases u:Rp l i x.h.B=x.h.B;simp[u];exact absurd ⟨s,t,u⟩ g;simp[s]
 rcases h with⟨rfl,h⟩|⟨i,x,rfl,b,h1,h2⟩;exact .inl ⟨rfl,.inl ⟨rfl,λi k=>by rw[m (AK k)];exact h i _ k (AK k)⟩⟩;have k:=(BA.1 b).1;have c:=dE hR hg (i:=i) (q:=x.h.B);have r:=h1;unfold xT at r;simp only[BM,CV,FJ,decide_eq_false_iff_not]at r;obtain⟨n,G,I,F,E⟩:=r;rw[if_pos ⟨G,I,F⟩]at c
 exact .inr ⟨_,_,rfl,.inr ⟨i,x,_,rfl,b,n,c,by rw[m b];exact h1,λj J=>by
  have B:j<Z l:=AA
  rw[m (AK B)];exact h2 j _ J (AK B)⟩,(al b n c).2 (by rw[<-(al b n c).1];exact E)⟩
end
def l6:FO LO 108:=λl v f q A O=>by
 have c:=q.p;have g:=q.rt.2.1;have u:=λO=>Re l v f A c.len c.fs g O;have C:((((108:UInt8).toNat:Nat):Int)==115)=false:=rfl;have e2:((((108:UInt8).toNat:Nat):Int)==97)=false:=rfl;have D:((((108:UInt8).toNat:Nat):Int)==114)=false:=rfl;have E:((((108:UInt8).toNat:Nat):Int)==117)=false:=rfl;have t:AC (∀o,LO l o->∀a,o=some a->wB a):=λo h a e=>by
  subst e;rcases h with⟨h,-⟩|⟨i,x,h,hx,ht,-⟩;cases h;cases h;unfold xT at ht;simp only[BM,FJ,decide_eq_false_iff_not]at ht;have s:=ht.2.2.2.2
  exact⟨(Gi s).1,(Gi s).2,λy b=>by
   rcases Cy b with b|b;exact c.fs y b;simp at b;subst b
   exact nI (g x (AY hx)).nm ((RG g _ _).resolve_left ht.2.2.1)⟩
 clear c;refine Z9 35 [.tmp 4,.tmp 5] Tryz.func63 ?_;refine m0 ?_;intro yb ya;refine Xi (u _) ?_;rintro _ _ ⟨o,m,id,n,rfl,j,k,p,B⟩;(have d:AC _:=j;have z:AC _:=k;clear j k);refine mr ?_;have r:AC (∀a,o=some a->m=a/\wB a):=λa e=>⟨z.o a e,t.o o d.o a e⟩
 first|exact⟨_,rfl,o,m,id,n,rfl,d.o,r.o,p,B⟩|exact⟨_,rfl,o,m,id,n,rfl,d.o,r.o,p⟩
def JA (c:UInt8)(l:n0)(o:Option n0):Prop:=(c=115/\NO l o)\/(c=97/\LU l o)\/(c=114/\LM l o)\/(c=117/\LV l o)\/(c=108/\LO l o)
def ly {n}(h:Dd n=true):∀c∈n,FO (JA c) c:=λc q l i a g j O=>by
 unfold Dd at h;simp only[BM,CX]at h;have p:=h.2 c q;unfold Ho at p;rcases of_decide_eq_true p with rfl|rfl|rfl|rfl|rfl;exact (l8 l i a g j O).mono λr k ⟨o,m,id,b,f,d,e⟩=>⟨o,m,id,b,f,.inl ⟨rfl,d⟩,e⟩;exact (l5 l i a g j O).mono λr k ⟨o,m,id,b,f,d,e⟩=>⟨o,m,id,b,f,.inr (.inl ⟨rfl,d⟩),e⟩;exact (l7 l i a g j O).mono λr k ⟨o,m,id,b,f,d,e⟩=>⟨o,m,id,b,f,.inr (.inr (.inl ⟨rfl,d⟩)),e⟩;exact (l9 l i a g j O).mono λr k ⟨o,m,id,b,f,d,e⟩=>⟨o,m,id,b,f,.inr (.inr (.inr (.inl ⟨rfl,d⟩))),e⟩;exact (l6 l i a g j O).mono λr k ⟨o,m,id,b,f,d,e⟩=>⟨o,m,id,b,f,.inr (.inr (.inr (.inr ⟨rfl,d⟩))),e⟩
def qE {S c:n0->Option n0->Prop}{N ar l o}(h:S l o)(b:∀o,S l o->c l o)(a:∀d,S l (some d)->BB N ar d):LR c l o:=by
 cases o with
 |none=>exact .inl ⟨rfl,b _ h⟩
 |some m=>exact .inr ⟨m,m,rfl,b _ h,by rw[Ns (a m h).wit (a m h).wi];exact LS.of_ren (a m h)⟩
def LR.mono {S d l o}(h:LR S l o)(c:∀o,S l o->d l o):LR d l o:=by
 rcases h with⟨b,a⟩|⟨md,m,b,a,h3⟩;exact .inl ⟨b,c _ a⟩;exact .inr ⟨md,m,b,c _ a,h3⟩
def jr {N ar l}(a:BB N ar l)(b:∀x∈l,iS x){c o}(h:JA c l o):LR (FQ N c) l o:=by
 rcases h with⟨rfl,h⟩|⟨rfl,h⟩|⟨rfl,h⟩|⟨rfl,h⟩|⟨rfl,h⟩;exact qE (kj a b h) (λo h=>.inl ⟨rfl,h⟩) λd h=>h.rt a;exact qE (kg a b h) (λo h=>.inr (.inl ⟨rfl,h⟩)) λd h=>h.rt a;exact qE (k9 a b h) (λo h=>.inr (.inr (.inl ⟨rfl,h⟩))) λd h=>h.rt a;exact (j9 a b h).mono λo h=>.inr (.inr (.inr (.inl ⟨rfl,h⟩)));exact (kx a b h).mono λo h=>.inr (.inr (.inr (.inr ⟨rfl,h⟩)))
def FQ.rt {N ar l a c}(h:FQ N c l (some a))(b:BB N ar l):BB N ar a:=by
 rcases h with⟨-,h⟩|⟨-,h⟩|⟨-,h⟩|⟨-,h⟩|⟨-,h⟩<;>exact h.rt b
section
variable {c:UInt8} {N:ol} {ar:Tx->Nat}
theorem Tn {l f o d}(h:LS l f)(hR:BB N ar l)(k:EN f)(i:FQ N c l o)(j:JA c f d):(o=none/\d=none)\/∃m b,o=some m/\d=some b/\LS m (Bl (Bj b))/\BB N ar m:=by
 obtain⟨⟨p,n,a⟩,hg,-⟩:=k.rt;rcases jr a hg j with⟨rfl,g⟩|⟨b,m2,rfl,g,h3⟩;rcases TM h hR a i g with⟨rfl,-⟩|⟨_,_,-,e,-⟩;exact .inl ⟨rfl,rfl⟩;cases e;rcases TM h hR a i g with⟨-,e⟩|⟨m,_,rfl,e,hL⟩;cases e;cases e;exact .inr ⟨m,b,rfl,rfl,hL.trans h3,i.rt hR⟩
theorem nY:∀{k d:Nat} {l i f a:n0},LS l i->BB N ar l->EN i->GR (FQ N c) k l f->LL (JA c) d i a->
  (k<=d/\∃b,LS f b/\BB N ar f/\EN b/\LL (JA c) (d-k) b a)\/(d<k/\∃b,LS b a/\BB N ar b/\EN a/\GR (FQ N c) (k-d) b f)
 |0,d,l,i,f,a,h,hR,j,e,g=>by cases e;exact .inl ⟨AA,i,h,hR,j,g⟩
 |k+1,0,l,i,f,a,h,hR,j,g,e=>by cases e;exact .inr ⟨AA,l,h,hR,j,g⟩
 |k+1,d+1,l,i,f,a,h,hR,j,⟨m,t,p⟩,⟨u,s,o,n⟩=>by
  rcases Tn h hR j t s with⟨e,-⟩|⟨_,_,e,e2,n1,n2⟩;cases e;cases e;cases e2;rw[show d+1-(k+1)=d-k by omega,show k+1-(d+1)=k-d by omega];rcases nY n1 n2 ⟨_,o.1,rfl⟩ p n with⟨q,r⟩|⟨q,r⟩;exact .inl ⟨AA,r⟩;exact .inr ⟨AA,r⟩
theorem yO {b m x f l t s a}(h:LS l t)(hR:BB N ar l)(B:EN t)(g:OY (FQ N c) b l m s x)(gd:PE (JA c) b t m a f):LS s a/\x=f/\BB N ar s/\EN a:=by
 obtain⟨k,E,A,D⟩:=g.1.stps;obtain⟨i,e2,C,y⟩:=gd.1.dst;rcases nY h hR B A C with⟨z,r,p,n,o,d⟩|⟨z,r,p,n,o,d⟩;by_cases e:k=i;subst e;rw[GX]at d;cases d;exact⟨p,AA,n,o⟩;have:=y AA;obtain⟨j,u⟩:∃j,i-k=j+1:=⟨i-k-1,AA⟩;rw[u]at d;obtain⟨w,v,-⟩:=d;rcases g.2 with q|q;omega;rcases Tn p n o q v with⟨-,c⟩|⟨_,_,c,-⟩<;>cases c;have:=D AA;obtain⟨j,u⟩:∃j,k-i=j+1:=⟨k-i-1,AA⟩;rw[u]at d;obtain⟨w,v,-⟩:=d;rcases gd.2 with q|q;omega;rcases Tn p n o v q with⟨c,-⟩|⟨_,_,-,c,-⟩<;>cases c
end
def VP {N ar b l j}(h:LS l j)(u:BB N ar l)(t:EN j){f i m}(g:GPss (FQ N) b l 0 f i m):
  ∀{a:n0} {d:Int},DPss JA b j 0 f a d->LS i a/\m=d/\BB N ar i/\EN a:=by
 induction g with
 |nil=>
  intro a d gd;generalize e:([]:Tx)=f at gd;cases gd with
  |nil=>exact⟨h,rfl,u,t⟩
  |snoc v k=>simp at e
 |snoc v k n=>
  rename_i f c y A x z;intro a d gd;generalize e:f++[c]=B at gd;cases gd with
  |nil=>simp at e
  |snoc o q=>
   obtain⟨rfl,e2⟩:=List.append_inj' e rfl;cases e2;obtain⟨p,rfl,r,s⟩:=n o;exact yO p r s k q
def UY {t f b p q}(h:Mi FQ t f b p)(g:Lh JA t f b q):p=q:=by
 unfold Mi at h;unfold Lh at g;split at h;rename_i a;rw[if_pos a]at g;rw[h,g];rename_i a;rw[if_neg a]at g;split at h;rename_i c;rw[if_pos c]at g;rw[h,g];rename_i c;rw[if_neg c]at g;split at h;rename_i d;rw[if_pos d]at g;rw[h,g];rename_i d;rw[if_neg d]at g;obtain⟨N,l,C,z,B,m,i,x,v,s,rfl⟩:=h;obtain⟨o,D,u,rfl⟩:=g;obtain⟨j,n,A,k⟩:=VP (by rw[i.items];exact LS.refl l) (i.rt x) ⟨t,nn a,rfl⟩ s u;obtain⟨⟨y,r,e⟩,-⟩:=k.rt;rw[Oc v.wit,Oc e.wit,j.ren,n]
def plays_opt (o:iR)(t:o.kind=7)(l:o.n<=9223372036854775807)(c)(f:EO o c)(O):ni 33 [ag c] O λr b=>r=my true/\AD O b:=by
 have s:=λO=>(xR o.s o.e o.n l O).mono λr b h=>show∃x k e,r=tp [str x,ic k,ic e]/\(∀q,Lh JA o.s o.e o.n q->q=(x,k,e))/\AD O b from by
  obtain⟨⟨x,k,e⟩,y,u,v⟩:=h;exact⟨x,k,e,y,λq m=>(UY u m).symm,v⟩
 have p:=λO=>W9 JA o.s o.e o.n l (λ_ h=>ly h) O;unfold EO at f;subst f;rw[t]at*
 refine Z9 154 [.tmp 2] Tryz.func33 ?_
 repeat' first|refine Z1 ?_|refine Z8 λyb ya=>?_|refine Z4 ?_;clear ya yb|refine Z2 ?_ ?_<;>intro h C<;>try exact Xp|(refine Z5 ?_;first|(refine Xi (s _) ?_;rintro _ _ ⟨x,k,e,rfl,j,i⟩;(have D:=i.C;have z:=i.B;have n:AC _:=j;clear j;(try simp only[Aa,Ac,Az]at z)))|(refine Xi (p _) ?_;rintro _ _ ⟨q,rfl,d,g⟩;(have E:=g.C;have B:=g.B;have A:=n.o _ d;subst A;clear d))|(refine Xi (VX _ _) ?_;rintro _ _ ⟨rfl,a⟩;(replace a:=a.symm;subst a)))|refine Z7 ?_|exact Zt|apply ya.o;clear ya yb
 all_goals
  first
  |exact⟨_,rfl,rfl,Xs⟩
  |exact⟨_,rfl,rfl⟩
  |(exfalso;simp at*;done)
def optimises_spec (l:List iR)(cs ids)(i:EL EO l cs)(f:Z l<=9223372036854775807)(j:∀o∈l,o.n<=9223372036854775807)(a):AF Tryz.prog 3 [sl ids (Z l) cs] a λr σ'=>r=sc (.bool true)/\AD a σ':=by
 have g:Plays 7 7 l:=λo e n k c d a=>plays_opt o (by omega) (j o e) c d a;refine Z9 6 [.tmp 2] Tryz.func3 ?_
 repeat' first|refine Z1 ?_|refine Z8 λyb ya=>?_|refine Z4 ?_;clear ya yb|refine Z2 ?_ ?_<;>intro h m<;>try exact Xp|refine Z5 ?_;refine Xi (upto_spec l cs ids 7 7 i f g _) ?_;rintro _ _ ⟨rfl,b⟩|refine Z3 ?_|exact Zt|apply ya.o;clear ya yb
 first|exact⟨_,rfl,rfl,b⟩|exact⟨_,rfl,rfl⟩|exact⟨_,rfl⟩
end Go.Proofs.YtmoeoppbmhfbpabGreatDoorJ
