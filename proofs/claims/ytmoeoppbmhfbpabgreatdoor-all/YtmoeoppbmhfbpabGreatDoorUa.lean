import Derived.Test.YtmoeoppbmhfbpabGreatDoorU
set_option maxHeartbeats 64000000
set_option maxRecDepth 100000
set_option linter.all false
open List
open List renaming length->Z
namespace Go.Proofs.YtmoeoppbmhfbpabGreatDoorJ
open Go.Abs Tryz
def Yr (p e:Tx):Tx:=p++[40,65,44,66,41,58,45]++e++[40,65,44,67,41,44]++p++[40,67,44,66,41,46]
def ZC {p e}(f:Jy p)(z:Jy e):Dc (Cn p e):=by
 have t:∀b:UInt8,Bs b.toNat->Mm [b]:=λb o=>⟨nk,λc g=>gp⟩;have i:=t 65 rfl;have k:=t 66 rfl;have j:=t 67 rfl;have d:∀(n:Bool) (q u v:Tx),Jy q->Mm u->Mm v->En ⟨n,q,[u,v]⟩:=λn q u v y s x=>⟨y,nk,nk,λw m=>gp⟩
 exact⟨f,(λh=>by cases h),λ_=>⟨d _ _ _ _ f i k,rfl,by simp[Cn],λa l=>by grind[Cn]⟩⟩
theorem fu (p e):Yr p e=Cr [Cn p e]:=by simp[Yr,Cr,Bz,D1,Bh,Cl,Bp,Ch,Cn]
def ZD {p e}(i:tE p)(d:tE e):Z (Yr p e)<=1000/\Z (Ix (Yr p e) 46)<=1000/\(∀t∈Ix (Yr p e) 46,gA t)/\Bl (Yr p e)=[Cn p e]:=by
 have f:=ZC i.1 d.1;have b:Ix (Yr p e) 46=[Bz (Cn p e)]:=by grind[fu,O3]
 have l:=i.2;have k:=d.2;have j:Z (Yr p e)<=1000:=by simp[Yr];omega
 have c:=Jl f;refine⟨j,gp,λt a=>?_,by grind[Bl]⟩;have:=L6 a;rw[b]at a;simp at a;subst a;exact⟨L,c.2⟩
def nI {p e}(j:tE p)(i:tE e):(Cn p e).fits/\(Cn p e).short:=by
 have d:=j.2;have g:=i.2;have b:∀(n:Bool) (q:Tx) (u v:UInt8),Z q<=6->short ⟨n,q,[[u],[v]]⟩:=λn q u v h=>⟨gp,nk,λt f=>gp⟩;refine⟨⟨by simp[Cn],by simp[Cn],λa c=>?_⟩,b _ _ _ _ d,λa c=>?_⟩;simp[Cn]at c;rcases c with rfl|rfl<;>simp;simp[Cn]at c;obtain rfl|rfl:=c;exact b _ _ _ _ g;exact b _ _ _ _ d
def S8 (q e:Tx)(y:AB):Tx:=match y.A with
 |[a]=>if (Bw y==S7 q a.B)=true then a.B else e
 |_=>e
def Rp (l:n0)(i:Nat)(q:Tx):Tx:=(E5 l i q).foldl (S8 q) []
def xT (l:n0)(i:Nat)(x:AB):Bool:=Lj x&&(decide (Z (E5 l i x.h.B)=1)&&(!decide (Rp l i x.h.B=[])&&(!decide (Rp l i x.h.B=x.h.B)&&Bb l (rpl i [Cn x.h.B (Rp l i x.h.B)] l))))
def IV (l:n0)(n:Nat):Prop:=∀i x,i<n->l[i]?=some x->xT l i x=false
def LO (l:n0)(o:Option n0):Prop:=
 (o=none/\IV l (Z l))\/∃i x,o=some (rpl i [Cn x.h.B (Rp l i x.h.B)] l)/\l[i]?=some x/\xT l i x/\IV l i
def VW {l:n0}{n q k y}(h:l[k]?=some y):Rp (l.take (k+1)) n q=if Ik n q (y,k)=true then S8 q (Rp (l.take k) n q) y else Rp (l.take k) n q:=by grind[Rp,Tf]
def RG {l}(i:∀x∈l,iS x)(n q):Rp l n q=[]\/tE (Rp l n q):=by
 have c:∀(o:n0) (e:Tx),(∀x∈o,iS x)->(e=[]\/tE e)->o.foldl (S8 q) e=[]\/tE (o.foldl (S8 q) e):=λo=>by
  induction o with
  |nil=>intro e _ h;exact h
  |cons x o j=>
   intro e g h;rw[FW];apply j _ (λy m=>g y (ns m));rw[S8];split;rename_i a d;split;refine .inr ?_;have b:=g x nk;cases f:x.o
   ·exact ((b.rule f).2.2.2 a (gp)).nm
   rw[(b.o f).2.2]at d;cases d
   exact h;exact h
 refine c _ _ (λx b=>?_) (.inl rfl);obtain⟨p,k,rfl⟩:=AN.1 b;grind
def iu {l i x}(b:l[i]?=some x)(h:IV l i)(h2:xT l i x=false):IV l (i+1):=λj y c a=>by by_cases e:j=i;subst e;rw[b]at a;cases a;exact h2;exact h j y L a
def Re (l cs q)(Jqx:r AJ l cs)(hl:Z l<=16)(U:∀x∈l,x.fits/\x.short)(hg:∀x∈l,iS x)(p):
  ni 111 [sl q (Z l) cs] p λai f=>∃o m id c',ai=tp [sl id (Z m) c',my o.isSome]/\LO l o/\(∀ak,o=some ak->m=ak)/\r AJ m c'/\W p f:=by
 have b4:=r.length Cf Jqx;have k1:({data:=#[40,65,44,66,41,58,45]}:ByteArray)=bs [40,65,44,66,41,58,45]:=rfl;have k2:({data:=#[40,65,44,67,41,44]}:ByteArray)=bs [40,65,44,67,41,44]:=rfl;have k3:({data:=#[40,67,44,66,41,46]}:ByteArray)=bs [40,67,44,66,41,46]:=rfl;have k4:({data:=#[40,65,44,66,41,46]}:ByteArray)=bs [40,65,44,66,41,46]:=rfl;have k5:({data:=#[]}:ByteArray)=bs []:=rfl;refine wl func111 ?_;refine mu ?_
 refine Ae (λah s f=>∃i:Nat,ah=Z l-i/\i<=Z l/\s 0=sl q (Z l) cs/\s 4=Y i/\W p f/\V (IV l i)) (Z l)
  ⟨0,L,L,by simp[upd,AL],AG,W.refl _,λi' x' h=>L⟩ ?_
 rintro ah s f ⟨i,rfl,hi,ac,h4,D,ap⟩;have a7:=D.B;by_cases a9:i<Z l
 ·have HG:V (l[i]?=some l[i]):=AK a9;let⟨ih,id,b,ai,hb,hd⟩:=Cv Jqx HG.o;have ad:=AR a9;generalize l[i]=x at HG hb hd ad;have hW:=λp=>Ll x _ ⟨[my x.h.nt,O x.h.B,lw ih x.h.A],id,b,⟨ih,rfl⟩,hb,rfl⟩ (U x ad).1 (U x ad).2 p;have bt:=(hg x ad).nm.2;have I:V (∀t,t=sK x.h.B->(Bw x==t)=Lj x):=λt e=>by rw[e];rfl
  have v:V (xT l i x=false->IV l (i+1)):=λh=>iu HG.o ap.o h;generalize Bw x=w at hW I
  repeat' first|refine Z1 ?_|refine Z8 λyb ya=>?_|refine Z4 ?_;clear ya yb|refine Z2 ?_ ?_<;>intro h aa<;>try exact Xp|refine Z5 ?_;refine Xi (hW _) ?_;rintro _ _ ⟨rfl,be⟩;(have a6:=be.B)|refine Z7 ?_|exact Zt|apply ya.o;clear ya yb
  ·have C:V (IV l (i+1)):=v.o (by
    have:=I.o _ rfl;unfold xT;rw[<-this];simp only[sK]at*
    rw[h];rfl)
   clear I v;refine⟨Z l-(i+1),L,i+1,?_⟩;exact m9 C
  have ae:V (Lj x):=by
   rw[V,<-I.o _ rfl];simp only[sK];exact h
  clear I h hW;have A:=D.trans be;clear D be a6 a7
  refine Ae (λah s f=>∃(k n:Nat) (e:Tx),ah=Z l-k/\k<=Z l/\n<=k/\Z e<=6/\s 0=sl q (Z l) cs/\s 4=Y i/\s 5=O x.h.B/\s 6=Y n/\s 7=O e/\s 8=Y k/\W p f/\V (n=Z (E5 (l.take k) i x.h.B)/\e=Rp (l.take k) i x.h.B)) (Z l)
   ⟨0,0,[],L,L,L,nk,by simp[upd,ac],by simp[upd,h4],AG,AG,AG,AG,A,⟨rfl,rfl⟩⟩ ?_
  clear ac h4 A;rintro ah s f ⟨k,n,e,rfl,hk,b1,b3,ac,h4,h5,h6,h7,h8,D,j⟩;have a7:=D.B;by_cases au:k<Z l
  ·have a5:V (l[k]?=some l[k]):=AK au;let⟨jh,jd,jb,r2,ba,ax⟩:=Cv Jqx a5.o;have an:=AR au;generalize l[k]=y at a5 ba ax an;have M:V (∀b,Ik i x.h.B (y,k)=b->E5 (l.take (k+1)) i x.h.B=E5 (l.take k) i x.h.B++(if b=true then [y]else [])/\Rp (l.take (k+1)) i x.h.B=if b=true then S8 x.h.B (Rp (l.take k) i x.h.B) y else Rp (l.take k) i x.h.B):=λb e=>by
    subst e;exact⟨Tf a5.o,VW a5.o⟩
   have G:V (Ik i x.h.B (y,k)=false->n=Z (E5 (l.take (k+1)) i x.h.B)/\e=Rp (l.take (k+1)) i x.h.B):=λh=>by
    let⟨a1,a2⟩:=M.o _ h;rw[a1,a2];simpa using j.o
   by_cases u:k=i
   ·have bv:((k:Int)==(i:Int)):=ns u
    have g:V _:=G.o (by simp[Ik,u]);clear G M j u;refine mu ?_;refine⟨Z l-(k+1),L,k+1,n,e,?_⟩;exact m9 g
   have bv:((k:Int)==(i:Int))=false:=by simp;omega
   cases z:y.o
   ·by_cases af:y.h.B=x.h.B
    ·have a8:(y.h.B==x.h.B)=true:=nn af
     have N:V (n+1=Z (E5 (l.take (k+1)) i x.h.B)/\Rp (l.take (k+1)) i x.h.B=S8 x.h.B e y):=by
      obtain⟨a1,a2⟩:=M.o true (by simp[Ik,Fw,u,z,af]);rw[V,a1,a2,j.o.1,<-j.o.2];simp
     have bc:=λp=>Ll y _ ⟨[my y.h.nt,O y.h.B,lw jh y.h.A],jd,jb,⟨jh,rfl⟩,ba,rfl⟩ (U y an).1 (U y an).2 p;rw[z]at ax bc;have bi:V (iS y):=hg y an;have bq:=(U y an).1.1;clear G M j u af;refine mu ?_;by_cases P:Z y.A=1
     ·obtain⟨a,aw⟩:=length_eq_one_iff.1 P;have br:((Z y.A:Int)==1)=true:=by rw[P];rfl
      obtain⟨ia,ra,bn⟩:=Ca ba (show y.A[0]?=some a by rw[aw];rfl);simp only[KY,JH]at bn;subst bn;have b5:=(((bi.o.rule z).2.2.2 a (by rw[aw];simp)).nm).2;have av:V (Rp (l.take (k+1)) i x.h.B=if (Bw y==S7 x.h.B a.B)=true then a.B else e):=by
       rw[V,N.o.2,S8,aw]
      have a0:V _:=N.o.1;clear N bi;have ca:0<Z y.A:=L;generalize Bw y=wy at bc av;generalize Z y.A=yl at*
      clear aw P;refine A2 (Q:=λe' c aj=>e'= .normal/\c 90=my (wy==S7 x.h.B a.B)/\c 0=sl q (Z l) cs/\c 4=Y i/\c 5=O x.h.B/\c 6=Y (n+1:Nat)/\c 7=O e/\c 8=Y k/\W f aj) ?_ ?_
      ·refine Ar Ag (λ_=>True) [] [0,1,2,3,4,5,6,7,8,9,10,11,13,14,15,16,17,18,19,20,21,22,23,24] 3 (nv 27 33550335) AH (λ_ _ _ h=>by cases h.1) ?_;intro yb ya;refine Z7 ?_;refine ya.o _ ?_;clear ya yb;refine Ai (i:=12) AH ?_;refine Am ?_;intro yb ya;refine Z7 ?_;refine AF.mono (bc _) ?_;rintro _ O2 ⟨rfl,A⟩;refine Z7 ?_;refine ya.o _ _ ⟨Al A,?_⟩;clear ya yb;refine Df [25,26] AH AH (λ_ _ _ h=>by cases h.1) A.B (λo ho _=>A.ver o ho) ?_;intro yb ya;refine Z7 ?_;refine ya.o _ _ ⟨rfl,by simp[upd,S7],AI,AI,AI,AI,AI,AI,A⟩
      rintro e' c aj ⟨rfl,d,g0,g4,g5,g6,g7,g8,A⟩;have b6:=D.trans A;clear ac h4 h5 h6 h7 h8 D A a7;cases K:(wy==S7 x.h.B a.B)with
      |true=>
       rw[K]at d;have g:V (n+1=Z (E5 (l.take (k+1)) i x.h.B)/\a.B=Rp (l.take (k+1)) i x.h.B):=⟨a0.o,by rw[av.o,K];rfl⟩;clear a0 av K;refine Cj d ?_;refine mu ?_;refine⟨Z l-(k+1),L,k+1,n+1,a.B,?_⟩;exact m9 g
      |false=>
       rw[K]at d;have g:V (n+1=Z (E5 (l.take (k+1)) i x.h.B)/\e=Rp (l.take (k+1)) i x.h.B):=⟨a0.o,by rw[av.o,K];rfl⟩;clear a0 av K;refine De d ?_;refine mu ?_;refine⟨Z l-(k+1),L,k+1,n+1,e,?_⟩;exact m9 g
     have br:((Z y.A:Int)==1)=false:=by simp;omega
     have g:V (n+1=Z (E5 (l.take (k+1)) i x.h.B)/\e=Rp (l.take (k+1)) i x.h.B):=⟨N.o.1,by
      rw[N.o.2,S8];split
      ·rename_i a ha;rw[ha]at P;exact absurd rfl P
      rfl⟩
     clear N bi;generalize Z y.A=yl at*
     clear P;refine A2 (Q:=λe' c aj=>e'= .normal/\c 90=my false/\c 0=sl q (Z l) cs/\c 4=Y i/\c 5=O x.h.B/\c 6=Y (n+1:Nat)/\c 7=O e/\c 8=Y k/\aj=f) ?_ ?_
     ·refine Ar Ag (λ_=>True) [] [0,1,2,3,4,5,6,7,8,9,10,11,13,14,15,16,17,18,19,20,21,22,23,24] 3 (nv 27 33550335) AH (λ_ _ _ h=>by cases h.1) ?_;intro yb ya;refine Z7 ?_;refine ya.o _ ?_;clear ya yb;refine Ai (i:=12) AH ?_;refine Am ?_;intro yb ya;refine Z7 ?_;refine ya.o _ _ ⟨kept_refl,?_⟩;clear ya yb;refine Df [25,26] AH AH (λ_ _ _ h=>by cases h.1) (AU _) (λo ho _=>rfl) ?_;intro yb ya;refine Z7 ?_;refine ya.o _ _ ⟨rfl,AG,AI,AI,AI,AI,AI,AI,rfl⟩
     rintro e' c aj ⟨rfl,d,g0,g4,g5,g6,g7,g8,rfl⟩;clear ac h4 h5 h6 h7 h8;refine De d ?_;refine mu ?_;refine⟨Z l-(k+1),L,k+1,n+1,e,?_⟩;exact m9 g
    have a8:(y.h.B==x.h.B)=false:=nn af;have g:V _:=G.o (by simp[Ik,Fw,af]);clear G M j u;rw[z]at ax;refine mu ?_;refine⟨Z l-(k+1),L,k+1,n,e,?_⟩;exact m9 g
   have g:V _:=G.o (by simp[Ik,Fw,z]);clear G M j u;rw[z]at ax;refine mu ?_;refine⟨Z l-(k+1),L,k+1,n,e,?_⟩;exact m9 g
  obtain rfl:k=Z l:=L;have j:=j.o;rw[AS]at j;obtain⟨bp,az⟩:=j;have F:V (xT l i x=(decide (n=1)&&(!decide (e=[])&&(!decide (e=x.h.B)&&Bb l (rpl i [Cn x.h.B e] l))))):=by rw[V,xT,ae.o,<-bp,<-az];rfl
  have R:V (e=Rp l i x.h.B):=az;have B:=RG hg i x.h.B;rw[<-az]at B;clear bp az;by_cases bm:n=1
  ·subst bm;by_cases E:e=[]
   ·have bw:(e==([]:Tx))=true:=by rw[E];rfl
    have C:V (IV l (i+1)):=v.o (by rw[F.o,E];simp);clear v F R ae B E;refine mu ?_;refine⟨Z l-(i+1),L,i+1,?_⟩;exact m9 C
   have bw:(e==([]:Tx))=false:=nn E;have B:=B.resolve_left E;by_cases S:e=x.h.B
   ·have a8:(e==x.h.B)=true:=nn S
    have C:V (IV l (i+1)):=v.o (by rw[F.o,S];simp);clear v F R ae B E S;refine mu ?_;refine⟨Z l-(i+1),L,i+1,?_⟩;exact m9 C
   have a8:(e==x.h.B)=false:=nn S;have a4:V (xT l i x=Bb l (rpl i [Cn x.h.B e] l)):=by rw[V,F.o];simp[E,S]
   have bb:=(hg x ad).nm;let⟨t1,t2,t3,t4⟩:=ZD bb B;have bz:∀t,t=Yr x.h.B e->∀p,ni 62 [O t] p λai f=>∃id cs,ai=sl id 1 cs/\r AJ [Cn x.h.B e] cs/\W p f:=λt et p=>by
    subst et;exact (L2 _ t1 t2 t3 p).mono λai f ⟨id,cs,a1,a2,a3⟩=>⟨id,cs,by rw[a1,t4];rfl,by rw[<-t4];exact a2,a3⟩
   have bo:=λam co (ay:r AJ [Cn x.h.B e] co) p=>G7 l [Cn x.h.B e] cs co q am i Jqx ay L nk a9 p
   have bh:=λbk cm (hm:r AJ (rpl i [Cn x.h.B e] l) cm) p=>Gd l (rpl i [Cn x.h.B e] l) cs cm q bk Jqx hm L (by rw[uX];omega) (λbl T=>by
    obtain T|T:=Cy T
    ·exact U bl T
    simp at T;subst T;exact nI bb B) p
   have HY:V (xT l i x->LO l (some (rpl i [Cn x.h.B e] l))):=λh=>.inr ⟨i,x,by rw[<-R.o],HG.o,h,ap.o⟩;clear t1 t2 t3 t4 F R ae B E S bb ap;generalize Bb l (rpl i [Cn x.h.B e] l)=ab at bh a4;generalize rpl i [Cn x.h.B e] l=ao at bo bh HY
   repeat' first|refine Z1 ?_|refine Z8 λyb ya=>?_|refine Z4 ?_;clear ya yb|refine Z2 ?_ ?_<;>intro h aa<;>try exact Xp|(refine Z5 ?_;first|(refine Xi (bz _ (by simp[Yr]) _) ?_;rintro _ _ ⟨am,co,rfl,ay,b9⟩;(have bd:=bo am co ay;clear ay))|(refine Xi (bd _) ?_;rintro _ _ ⟨bj,cr,rfl,bf,b8⟩;(have bg:=bh bj cr bf;have b0:V _:=bf;clear bf))|(refine Xi (bg _) ?_;rintro _ _ ⟨rfl,b7⟩;(cases ab)))|refine Z7 ?_|exact Zt|apply ya.o;clear ya yb
   ·have C:V (IV l (i+1)):=v.o a4.o;clear v HY a4;refine⟨Z l-(i+1),L,i+1,?_⟩
    exact m9 C
   exact⟨_,rfl,some ao,ao,bj,cr,rfl,HY.o a4.o,(by intro ak h;cases h;rfl),b0.o,Xs⟩
  have b2:((n:Int) !=1):=by simp;omega
  have C:V (IV l (i+1)):=v.o (by rw[F.o,KF bm];rfl);clear v F R ae B;refine mu ?_;refine⟨Z l-(i+1),L,i+1,?_⟩;exact m9 C
 have HR:V (LO l none):=.inl ⟨rfl,λi' x' h h'=>ap.o i' x' L h'⟩;clear ap;refine mu ?_
 exact⟨_,rfl,none,l,q,cs,rfl,HR.o,(by intro ak h;cases h),Jqx⟩
def pJ:LT->Tx
 |(false,t)=>t
 |(true,t)=>Ta t
theorem R5 (p):Ab (pJ p)=Ab p.2:=by
 obtain⟨s,t⟩:=p;cases s
 ·rfl
 show Ab (Ta t)=Ab t;unfold Ta;split;cases t<;>rfl;rfl
def R6 {p}(h:Ab p.2=false):pJ p=p.2:=by
 obtain⟨s,t⟩:=p;cases s
 ·rfl
 exact if_neg (nn h)
def gU {p}(a:UT p.2)(h:Ab p.2=false):Hm p=Aq p.2:=by
 obtain⟨s,t⟩:=p;cases s
 ·rfl
 rw[Hm,O8 a,if_neg (nn h)]
def R7 {p q}(d:UT p.2)(c:UT q.2):Hm p=Hm q↔pJ p=pJ q:=by
 constructor;intro h;obtain⟨e,i⟩:=sG d c h;cases a:Ab p.2
 ·rw[R6 a,R6 (gp),e]
 rw[show p=q from GB (i a) e]
 intro h;have f:Ab p.2=Ab q.2:=by grind[R5]
 cases a:Ab p.2
 ·have b:Ab q.2=false:=gp
  rw[R6 a,R6 b]at h;rw[gU d a,gU c b,h]
 have b:Ab q.2=true:=gp
 obtain⟨k,-,g,-⟩:=d.enc a;obtain⟨j,-,e2,-⟩:=c.enc b;obtain⟨s,t⟩:=p;obtain⟨l,m⟩:=q;simp only at g e2;subst g;subst e2;cases s<;>cases l<;>simp only[pJ,Ta,a,b,if_true]at h;rw[h];simp at h;simp at h;have:Im k=Im j:=nn h;rw[this]
def IU (I:LT->Prop)(P:List Tm)(Q:Tx->Tx):Prop:=Z P=52/\∀p,I p->∃q,I q/\Hl P (Hm p)=Hm q/\Q (pJ p)=pJ q
def IU.put {I}(a:∀p,I p->UT p.2){P Q}(h:IU I P Q){v w}(b:I v)(i:I w)(j:Ab v.2):IU I (Us P (Hm v) (Hm w)) λt=>if Q t=pJ v then pJ w else Q t:=
 ⟨by rw[Of];exact h.1,λl d=>by
  let⟨s,c,f,k⟩:=h.2 l d;rw[fZ h.1 (gT (a l d)) (Nx (a v b)▸j),f];simp only[k];by_cases g:Hm s=Hm v;rw[if_pos g,if_pos ((R7 (a s c) (a v b)).1 g)];exact⟨w,i,rfl,rfl⟩;rw[if_neg g,if_neg λe=>g ((R7 (a s c) (a v b)).2 e)];grind⟩
def uY {z}(h:z.o=false)(v t Q):Dj v t (Vd Q z)=Vd (λu=>if Q u=v then t else Q u) z:=by simp_all[Dj,F8,Vd,BH]
def Vf {x y}(b:∀p,rY x y p->UT p.2){j a}(c:x.A[j]?=some a)(o:Z a.A=Z y.h.A)(d:∀t∈a.A,rY x y (false,t))(f:∀t∈y.h.A,rY x y (true,t)):∀(m k:Nat) (P:List Tm) (Q:Tx->Tx),k+m=Z y.h.A->IU (rY x y) P Q->
  (Kj j (Z x.A) m k (Vd Q (Pv x y))=none/\Dy P ((a.A.drop k).map λt=>Hm (false,t)) ((y.h.A.drop k).map λt=>Hm (true,t))=none)\/∃z Q',Kj j (Z x.A) m k (Vd Q (Pv x y))=some (Vd Q' (Pv x y))/\Dy P ((a.A.drop k).map λt=>Hm (false,t)) ((y.h.A.drop k).map λt=>Hm (true,t))=some z/\IU (rY x y) z Q'
 |0,k,P,Q,E,h=>.inr ⟨P,Q,rfl,by rw[JU L];rfl,h⟩
 |m+1,k,P,Q,E,h=>by
  have l:k<Z a.A:=L;have n:k<Z y.h.A:=L;let⟨p,s,G,F⟩:=h.2 (false,a.A[k]) (d _ (AR l));let⟨q,i,I,A⟩:=h.2 (true,y.h.A[k]) (f _ (AR n));have B:(Vd Q (Pv x y)).A[j]?=some ⟨a.nt,a.B,a.A.map Q⟩:=by
   rw[Vd,DC,Pv,MB (BA.1 c).1,c];rfl
  have C:(Vd Q (Pv x y)).A[Z x.A]?=some ⟨y.h.nt,y.h.B,(y.h.A.map Ta).map Q⟩:=by rw[Vd,DC,Pv,JY (AU _),GX];rfl
  rw[eI B C (t:=pJ p) (u:=pJ q) (by rw[DC,AK l];exact congrArg some F) (by rw[DC,DC,AK n];exact congrArg some A),ET l,ET n,CC,CC,Dy,Np,G,I];have v:=b p s;have K:=b q i;by_cases e:pJ p=pJ q;rw[if_pos e,if_pos ((R7 v K).2 e)];exact Vf b c o d f m (k+1) P Q L h;rw[if_neg e,if_neg λg=>e ((R7 v K).1 g),Nx v,Nx K,R5,R5,uY rfl,uY rfl];cases D:Ab q.2 with
  |true=>exact Vf b c o d f m (k+1) _ _ L (h.put b i s D)
  |false=>
   cases M:Ab p.2
   ·exact .inl ⟨rfl,rfl⟩
   exact Vf b c o d f m (k+1) _ _ L (h.put b s i M)
def jp {x y j}(b:j<Z x.A)(a:x.h.nt=false)(Q):Tq j (Z x.A) (Vd Q (Pv x y))=pI x (aX x j y) λp=>Q (pJ p):=by rw[Tq,pI,aX];rw[I4 (nn b)];have e:Z x.A+1-Z x.A=1:=L;simp only[Vd,Pv,a,EU,CC,BH,map_take,map_drop,take_left',BV];rw[drop_append,JU nk];simp only[BV,e,drop_succ_cons,JH,FE,Function.comp_def,Gz,IW,pJ,BH]
def Su {j:Type}{Jqx:j->Prop}{g f}(i:∀p q,Jqx p->Jqx q->(g p=g q↔f p=f q))(e:∀p,Jqx p->(g p).1=Ab (f p)):∀(Lqx K:List j),(∀p∈Lqx,Jqx p)->(∀p∈K,Jqx p/\(g p).1)->
  ∃l:List j,(∀p∈l,Jqx p/\(g p).1)/\(Lqx.map g).foldl vF (K.map λp=>(g p).2)=l.map (λp=>(g p).2)/\(Lqx.map f).foldl Er (K.map f)=l.map f
 |[],K,_,b=>⟨K,b,rfl,rfl⟩
 |p::Lqx,K,k,b=>by
  have d:=k p nk;have m:(g p).1->((g p).2∈K.map (λp=>(g p).2)↔f p∈K.map f):=λo=>gp
  rw[CC,CC,FW,FW];by_cases c:(g p).1/\(g p).2∉K.map λp=>(g p).2;have n:vF (K.map λp=>(g p).2) (g p)=(K++[p]).map λp=>(g p).2:=by grind[vF]
  have e2:Er (K.map f) (f p)=(K++[p]).map f:=by grind[Er]
  rw[n,e2];exact Su i e Lqx (K++[p]) (λq a=>k q (ns a)) λq a=>gp
  rw[vF,if_neg c,Er,if_neg λh=>c ⟨e p d▸h.1,λg=>h.2 ((m (e p d▸h.1)).1 g)⟩];exact Su i e Lqx K (λq a=>k q (ns a)) b
def nS {b:Type}{g:b->Int}{f:b->Tx}{p}:∀K:List b,(∀q∈K,g q=g p↔f q=f p)->(K.map g).idxOf (g p)=(K.map f).idxOf (f p)/\(g p∈K.map g↔f p∈K.map f)
 |[],_=>⟨rfl,nk⟩
 |q::K,h=>by let⟨i,c⟩:=nS (g:=g) (f:=f) (p:=p) K λa d=>h a (ns d);grind
def gg {y:Type}{Jqx:y->Prop}{g f}(k:∀p q,Jqx p->Jqx q->(g p=g q↔f p=f q))(n:∀p,Jqx p->(g p).1=Ab (f p))(v:∀p,Jqx p->(g p).1=false->Km (g p)=f p){Lqx}(l:∀p∈Lqx,Jqx p)(x:Z Lqx<=26){p}(o:p∈Lqx):C6 (Fu [] (Lqx.map f)) (f p)=Km (G8 ((Lqx.map g).foldl vF []) (g p)):=by
 have b:=l p o;have d:=No (Lqx.map f) [] (f p);have a:=Ro (Lqx.map f) [];obtain⟨K,i,m,e2⟩:=Su k n Lqx [] l nk;simp only[IK]at m e2;unfold Fu at d a⊢;rw[e2]at d a⊢;rw[m];unfold G8 C6;rw[<-n p b]at d⊢;cases c:(g p).1
 ·rw[<-v p b c];simp[Km,c]
 obtain⟨t,u⟩:=nS (g:=λp=>(g p).2) (f:=f) (p:=p) K λq e=>⟨λh=>(k q p (i q e).1 b).1 (GB (gp) h),λh=>gp⟩;have j:=d (.inr ⟨AN.2 ⟨p,o,rfl⟩,c⟩);have s:=CS j;simp only[CQ,BV]at a s;simp only[if_true];unfold lZ Bv;rw[if_pos j,if_pos (u.2 j),t,L1 L L];unfold Km;rw[if_pos rfl]
def yJ {x B f c}(h:∀p∈nN x B,f p=c p):pI x B f=pI x B c:=by rw[pI];congr 1;congr 1;exact CG λt a=>h (false,t) (GK _ (AN.2 ⟨t,a,rfl⟩));refine CG λb d=>?_;congr 1;exact CG λt a=>h (b.1,t) (LI _ (EX.2 ⟨b,d,AN.2 ⟨t,a,rfl⟩⟩))
def ii (x B f):ren (pI x B f)=pI x B λp=>C6 (Fu [] ((nN x B).map f)) (f p):=by
 have e:Au (pI x B f)=Fu [] ((nN x B).map f):=by
  rw[Au,Af];congr 1;simp only[pI,nN,EI,if_false,EW,FE,DN,JG,EU,BH,LH];rfl
 rw[ren];rw[e];simp only[pI,Br,BH,Function.comp_def]
def flat3 {B:List (Bool×AE)}(h:∀b∈B,Z b.2.A<=3):Z (B.flatMap λb=>b.2.A.map λt=>(b.1,t))<=3*Z B:=by
 induction B with
 |nil=>simp
 |cons b B d=>
  have f:=h b nk;have e:=d λc a=>h c (ns a);rw[DN,AX,BV,BQ];omega
def JW (w u:AB):Prop:=w.o=false/\Z w.A=Z u.A/\(w.h.nt=false/\w.h.A≠[]/\∀a∈w.A,a.A≠[])/\(Z w.A<=5->ren w=u)
section
variable {N:ol} {ar:Tx->Nat} {l:n0} (hR:BB N ar l)
include hR
theorem WJ {x y}(o:x∈l)(k:x.o=false)(A:y∈l)(C:y.o=false){j a}(v:x.A[j]?=some a)(d:y.h.B=a.B):
  (joinL x j y=none/\(Kt N x j y).map (Cz N)=none)\/∃w u,joinL x j y=some w/\(Kt N x j y).map (Cz N)=some u/\JW w u:=by
 have T:=AY v;have i:∀p,rY x y p->UT p.2:=λp ⟨b,h,m⟩=>by
  obtain⟨-,h⟩|⟨-,h⟩:=h;exact hR.ut o b h _ m;exact hR.ut A b h _ m
 have a0:Z a.A=Z y.h.A:=by rw[((hR.ru x o k).A a T).len,(hR.ru y A C).h.len,d]
 have z:=(hR.wit x o).2.2 k;have a4:=(hR.wit y A).2.2 C;have a1:Vd id (Pv x y)=Pv x y:=by simp[Vd,Pv]
 have D:=Vf i v a0 (λa3 m=>⟨a,.inl ⟨rfl,Ap (.inr T)⟩,m⟩) (λa3 m=>⟨y.h,.inr ⟨rfl,Ap (.inl ⟨C,rfl⟩)⟩,m⟩) (Z y.h.A) 0 BY id L ⟨Ni,λp d=>⟨p,d,X3 (gT (i p d)),rfl⟩⟩;rw[pV (hR.nm x o).2 (hR.nm x o).1 (hR.nm y A).2,v,FU];rw[joinL];rw[a1]at D;simp only[JH]at D;obtain⟨F,E⟩|⟨P,Q,F,E,s⟩:=D;rw[F,E];exact .inl ⟨rfl,rfl⟩;rw[F,E];refine .inr ⟨_,_,rfl,rfl,?_⟩;rw[jp (BA.1 v).1 z.2.1];have K:∀b∈aX x j y,En b.2:=λb e=>by grind[rT]
 refine⟨rfl,by simp[pI],⟨rfl,by simpa[pI]using z.1.2.1,λc G=>?_⟩,λI=>?_⟩;obtain⟨b,e,rfl⟩:=AN.1 G;simpa using (K b e).2.1;rw[ii];refine yJ λp d=>?_;have S:Z (nN x (aX x j y))<=26:=by
  have s:=flat3 (B:=aX x j y) λb e=>(K b e).2.2.1;have a5:=z.1.2.2.1;have I:Z (aX x j y)<=5:=by grind[pI]
  rw[nN];grind
 refine gg (Jqx:=rY x y) (g:=λp=>Hl P (Hm p)) (f:=λp=>Q (pJ p)) (λp a2 d M=>?_) (λp d=>?_) (λp d t=>?_) (λp d=>RP k C d) S d;let⟨b,e,n,q⟩:=s.2 p d;let⟨c,G,U,R⟩:=s.2 a2 M;rw[n,q,U,R];exact R7 (i b e) (i c G);let⟨b,e,n,q⟩:=s.2 p d;rw[n,q,Nx (i b e),R5];let⟨b,e,n,q⟩:=s.2 p d;rw[n,Nx (i b e)]at t;rw[n,q,gU (i b e) t,R6 t,(i b e).dec.1]
theorem ke {x}(n:x∈l)(d:x.o=false){j a}(q:x.A[j]?=some a):∃Lqx:List (AB×AB),uR l x j a.B=Lqx.map (·.1)/\uL N l x j a.B=Lqx.map (·.2)/\∀p∈Lqx,JW p.1 p.2:=by
 have c:∀M:n0,(∀y∈M,y∈l/\Fw a.B y)->∃Lqx:List (AB×AB),M.filterMap (joinL x j)=Lqx.map (·.1)/\M.filterMap (λy=>(Kt N x j y).map (Cz N))=Lqx.map (·.2)/\∀p∈Lqx,JW p.1 p.2:=λM=>by
  induction M with
  |nil=>intro _;exact⟨[],rfl,rfl,λp b=>gp⟩
  |cons y M o=>
   intro h;let⟨Lqx,t,v,m⟩:=o λz s=>h z (ns s);let⟨g,k⟩:=h y nk;simp only[Fw,BM,FJ,CV]at k;rw[filterMap_cons,filterMap_cons,t,v];obtain⟨i,f⟩|⟨w,u,i,f,A⟩:=WJ hR n d g k.1 q k.2;rw[i,f];exact⟨Lqx,rfl,rfl,m⟩;rw[i,f]
   exact⟨(w,u)::Lqx,rfl,rfl,λp b=>gp⟩
 have e:uL N l x j a.B=(l.filter (Fw a.B)).filterMap λy=>(Kt N x j y).map (Cz N):=by grind[uL,Lo]
 rw[e];exact c _ λy g=>BP.1 g
end
def TT (x:AB):Prop:=x.o=false->x.h.nt=false/\x.h.A≠[]/\∀a∈x.A,a.A≠[]
def wH {x}(h:TT x):Bw x=Bz (ren x)++[46]:=by
 unfold Bw Bz;cases a:x.o
 ·obtain⟨b,d,c⟩:=h a;rw[if_neg nk,if_neg (by grind[ren]),Qx d,bD c,Q4 (by grind[Br])];unfold D1;simp[ren]
 simp[ren,Br,a]
structure NS (N:ol)(l m md:n0):Prop where
 nm:aW N m
 ls:LS m (md.map ren)
 wr:∀x∈md,TT x
 wi:∀x∈md.map ren,Dc x
 gi:C5 N l m->∀x∈md.map ren,iS x
def NS.items {N l m a}(h:NS N l m a):Bj a=Cr (a.map ren)/\Bl (Bj a)=a.map ren:=by
 have e:Bj a=Cr (a.map ren):=by
  rw[Bj,Cr];rw[JG,flatMap_def,flatMap_def,CG λx b=>wH (h.wr x b)]
 refine⟨e,?_⟩;rw[e];rw[Bl];rw[O3 _ h.wi,BH]
 conv=>rhs;rw[<-IE (a.map ren)]
 exact CG λy c=>(Jl (h.wi y c)).1
def NS.allow {N l m a}(h:NS N l m a)(K:aW N l):Bb l a=C5 N l m:=by
 let⟨M,C⟩:=h.items;have s:∀x∈a.map ren,x.o->x.A=[]:=λx b f=>((h.wi x b).2.1 f).2.2;have v:∀x∈m,x.o->x.A=[]:=λx b f=>by
  let⟨y,o,d⟩:=h.ls.mem b;exact GG (by rw[d.bl,s y o (d.o▸f)];rfl)
 have B:Z a=Z m:=by rw[h.ls.len,BV]
 have t:(∀x∈a,Z x.A<=5)↔∀x∈m,Z x.A<=5:=by constructor;intro g x b;let⟨y,o,d⟩:=h.ls.mem b;obtain⟨z,j,rfl⟩:=AN.1 o;rw[d.bl];simpa[ren]using g z j;intro g z j;let⟨x,b,d⟩:=h.ls.symm.mem (AN.2 ⟨z,j,rfl⟩);have:=g x b;rw[<-d.bl]at this;simpa[ren]using this
 have A:(!l.any (Ki a))=!Rt N m l:=by
  congr 1;refine GI.2 ?_;rw[<-Decidable.not_iff_not,JE,JE,Rr K h.nm,EV];have u:∀p,F7 a p↔Rk m p:=λp=>by
   have:F7 a p↔Rk a p:=by grind[F7,Rk,P3]
   rw[this,<-XM];exact⟨λw=>h.ls.symm.rld w,λw=>h.ls.rld w⟩
  have D:∀p,a.any (Ly p)↔K9 m p:=λp=>by
   have:a.any (Ly p)↔K9 a p:=by grind[K9,Ly]
   rw[this,<-YZ];exact⟨λw=>h.ls.symm.nmd w,λw=>h.ls.nmd w⟩
  constructor;rintro h p F ⟨x,b,f,rfl⟩;have:=h x b;rw[Ki]at this;rw[f,(D _).2 F]at this;refine (u _).1 ?_;simpa using this;intro h x b e;rw[Ki]at e;simp only[BM,FJ]at e;have:=(u _).2 (h _ ((D _).1 e.2.1) ⟨x,b,e.1,rfl⟩);rw[e.2.2]at this;cases this
 have I:=fM h.ls;refine GI.2 ⟨λg=>?_,λg=>?_⟩;rw[Bb]at g;rw[A]at g;simp only[BM,CV,CX,DO]at g;let⟨E,i,c,k⟩:=g;rw[Av]at c;split at c;cases c;rename_i n;split at c;cases c;rw[C]at c;rw[M]at n;rw[C5,Jk];simp only[BM,CV,CX,DO];exact⟨⟨L,t.1 i,L⟩,k,Qw h.ls.symm s v c⟩;have G:=h.gi g;rw[C5,Jk]at g;simp only[BM,CV,CX,DO]at g;let⟨⟨E,i,c⟩,k,n⟩:=g;rw[Bb];rw[A];simp only[BM,CV,CX,DO];refine⟨L,t.2 i,?_,k⟩;have q:Eo (Bj a)= -1:=by simp_all[Hb,Te,ren,BV]
 rw[Av];rw[if_neg (gp),if_neg (gp),C];exact Qw h.ls v s n
section
variable {N:ol} {ar:Tx->Nat} {l:n0} (hR:BB N ar l) (hg:∀x∈l,iS x)
include hR hg
theorem RH {p}(h:K9 l p):tE p:=by
 obtain⟨y,c,rfl|⟨a,b,rfl⟩⟩:=h;exact (hg y c).nm;cases d:y.o
 ·exact (((hg y c).rule d).2.2.2 a b).nm
 rw[((hg y c).o d).2.2]at b;cases b
theorem SF {i}(u:i<Z l){Lqx:List (AB×AB)}(k:∀p∈Lqx,JW p.1 p.2)(s:MN N ar (Lqx.map (·.2)))(A:∀z∈Lqx.map (·.2),K9 l z.h.B/\∀a∈z.A,K9 l a.B):
  Bb l (rpl i (Lqx.map (·.1)) l)=C5 N l (rpl i (Lqx.map (·.2)) l)/\(C5 N l (rpl i (Lqx.map (·.2)) l)->LS (rpl i (Lqx.map (·.2)) l) (Bl (Bj (rpl i (Lqx.map (·.1)) l)))):=by
 have inr:∀{o:n0} {z:AB},z∈o->z∈rpl i o l:=λ{o z} b=>by grind[I4]
 by_cases d:∀p∈Lqx,Z p.2.A<=5;have m:∀z∈rpl i (Lqx.map (·.2)) l,K9 l z.h.B/\∀a∈z.A,K9 l a.B:=λz b=>by obtain h|h:=Cy b;exact⟨⟨z,h,.inl rfl⟩,λa f=>⟨z,h,.inr ⟨a,f,rfl⟩⟩⟩;exact A z h
 have q:(rpl i (Lqx.map (·.1)) l).map ren=rpl i (Lqx.map (·.2)) (l.map ren):=by rw[<-Ri,BH];congr 1;exact CG λp c=>(k p c).2.2.2 ((k p c).2.1▸d p c)
 have n:NS N l (rpl i (Lqx.map (·.2)) l) (rpl i (Lqx.map (·.1)) l):=by refine⟨λz b=>⟨Vb hR (m z b).1,λa f=>Vb hR ((m z b).2 a f)⟩,?_,λz b=>?_,λz b=>?_,λv z b=>?_⟩;exact q▸(LS.of_ren hR).rpl (LS.refl _) i;obtain h|h:=Cy b;exact λg=>⟨((hR.wit z h).2.2 g).2.1,((hR.wit z h).2.2 g).1.2.1,λa f=>(((hR.wit z h).2.2 g).2.2.2 a f).2.1⟩;obtain⟨p,c,rfl⟩:=AN.1 h;exact λ_=>(k p c).2.2.1;rw[q]at b;obtain h|h:=Cy b;obtain⟨y,j,rfl⟩:=AN.1 h;exact Ky (hR.wit y j) (hR.wi y j);obtain⟨p,c,rfl⟩:=AN.1 h;let⟨D,e,C,B⟩:=s _ h (d p c);exact e▸C.wit B;rw[q]at b;obtain h|h:=Cy b;obtain⟨y,j,rfl⟩:=AN.1 h;exact QU (hg y j) λg=>hR.xr j g;exact k8 (OR hR s i v) (λz b=>⟨RH hR hg (m z b).1,λa f=>RH hR hg ((m z b).2 a f)⟩) z (inr h)
 exact⟨n.allow hR.nm,λ_=>n.items.2▸n.ls⟩;simp only[Classical.not_forall]at d;let⟨p,c,d⟩:=d;have t:C5 N l (rpl i (Lqx.map (·.2)) l)=false:=by grind[C5,Jk]
 have e2:Bb l (rpl i (Lqx.map (·.1)) l)=false:=by rw[Bb];rw[show (rpl i (Lqx.map (·.1)) l).all (λx=>decide (Z x.A<=5))=false from IQ.2 ⟨p.1,inr (AN.2 ⟨p,c,rfl⟩),by rw[(k p c).2.1];simpa using d⟩];simp
 rw[t,e2];exact⟨rfl,λh=>gp⟩
theorem OU {i x}(m:l[i]?=some x)(d:x.o=false){j a}(n:x.A[j]?=some a):Bb l (rpl i (uR l x j a.B) l)=C5 N l (rpl i (uL N l x j a.B) l)/\(C5 N l (rpl i (uL N l x j a.B) l)->LS (rpl i (uL N l x j a.B) l) (Bl (Bj (rpl i (uR l x j a.B) l)))):=by
 have f:=AY m;let⟨A,u,p,t⟩:=ke hR f d n;have o:=OP hR f d n;have k:=λz (g:z∈uL N l x j a.B)=>jD hR f d g;rw[p]at o k;rw[u,p]
 exact SF hR hg (BA.1 m).1 t o λz g=>⟨⟨x,f,.inl (k z g).1.symm⟩,λb s=>by
  let⟨y,v,c,q,e⟩:=(k z g).2 b s
  exact⟨y,v,.inr ⟨c,q,e⟩⟩⟩
def LR (S:n0->Option n0->Prop)(l:n0)(o:Option n0):Prop:=(o=none/\S l none)\/∃a m,o=some a/\S l (some m)/\LS m (Bl (Bj a))
theorem j9 {o}(h:LV l o):LR (KU N) l o:=by
 classical
 let M:Nat->Nat->Bool:=λp q=>decide (Yj N l p q);have t:Dw N l M:=λp q=>decide_eq_true_iff;have v:∀x∈l,x.o->x.A=[]:=λx b=>(hR.gl.msr x b).o;have g:∀{i:Nat} {x:AB} {k:Nat} {a:AE},l[i]?=some x->x.A[k]?=some a->x.o=false:=λ{i x k a} b c=>gp
 have n:∀{i:Nat} {x:AB} {k:Nat} {a:AE},l[i]?=some x->x.A[k]?=some a->Tg N (F9 (Z N) M (Z N)) l i k=okD l i x k a:=λ{i x k a} b c=>by
  have z:=AY b;have m:=(hR.nm x z).2 a (AY c)
  have E:Dr N l (N.idxOf a.B)=F7 l a.B:=GI.2 (by
   rw[Lu (λy d=>(hR.nm y d).1) m];unfold F7 Rk P3;grind)
  unfold Tg okD;rw[b];simp only;rw[c];simp only;rw[(OU hR hg b (g b c) c).1,E];cases A:F7 l a.B
  ·simp
  rw[A,Lu (λy d=>(hR.nm y d).1) m]at E;have B:F9 (Z N) M (Z N) (N.idxOf a.B) (N.idxOf a.B)=J2 l a.B a.B:=GI.2 (by rw[Mv hR.nm t m m,Ks v E]);rw[B];simp[Bool.and_left_comm]
 obtain⟨rfl,h⟩|⟨i,x,j,a,rfl,b,c,D,F,G⟩:=h;exact .inl ⟨rfl,M,t,.inl ⟨rfl,λi y s d k e=>n d (AK e)▸h i y s d k _ (AK e)⟩⟩;have f:=g b c;refine .inr ⟨_,_,rfl,⟨M,t,.inr ⟨i,j,x,a,rfl,b,f,c,n b c▸D,λC y s d k e=>n d (AK e)▸F C y s d k _ (AK e),λk e=>?_⟩⟩,(OU hR hg b f c).2 ?_⟩;have u:=Nat.lt_trans e (BA.1 c).1;exact n b (AK u)▸G k _ e (AK u);rw[<-(OU hR hg b f c).1];rw[okD]at D;simp only[BM]at D;exact D.2.2.2
theorem dE {i q}:Ez l i q=if Z (E5 l i q)=1/\Rp l i q≠[]/\Rp l i q≠q then some (Rp l i q)else none:=by
 have j:∀y∈E5 l i q,y∈l/\y.o=false/\y.h.B=q:=λy c=>by
  refine⟨Va c,?_⟩;obtain⟨p,g,rfl⟩:=AN.1 c;have:=(BP.1 g).2;rw[Ik,Fw]at this;grind
 rw[Ez,Rp];split;rename_i y e;rw[e]at j⊢;obtain⟨c,k,rfl⟩:=j y nk;by_cases f:∃a,y.A=[a];let⟨a,b⟩:=f;have m:=(((hg y c).rule k).2.2.2 a (gp)).nm.1.1;have d:S8 y.h.B [] y=if (Bw y==S7 y.h.B a.B)=true then a.B else []:=by rw[S8,b]
 have e2:Jf y=(!decide (a.B=y.h.B)&&(Bw y==S7 y.h.B a.B)):=by rw[Jf,b]
 rw[b];simp only[BQ,CQ,FW,foldl_nil,d,e2];generalize (Bw y==S7 y.h.B a.B)=w;cases w
 ·simp
 by_cases g:a.B=y.h.B<;>simp[g,m]
 have d:S8 y.h.B [] y=[]:=by grind[S8]
 have e2:Jf y=false:=by grind[Jf]
 simp[d,e2];rename_i e;rw[if_neg];rintro⟨h,-⟩;let⟨y,c⟩:=length_eq_one_iff.1 h;exact e y c
theorem kx {o}(h:LO l o):LR (KR N) l o:=by
 have al:∀{i:Nat} {x:AB} {e:Tx},l[i]?=some x->Lj x=true->Ez l i x.h.B=some e->Bb l (rpl i [Cn x.h.B e] l)=C5 N l (rpl i [Cn x.h.B e] l)/\(C5 N l (rpl i [Cn x.h.B e] l)->LS (rpl i [Cn x.h.B e] l) (Bl (Bj (rpl i [Cn x.h.B e] l)))):=λ{i x e} b d f=>by
  have D:=AY b;have A:K9 l x.h.B:=⟨x,D,.inl rfl⟩;have M:K9 l e:=by unfold Ez at f;split at f;rename_i y t;split at f;split at f;rename_i a K;cases f;exact⟨y,Va (by rw[t];simp),.inr ⟨a,gp,rfl⟩⟩;cases f;cases f;cases f
  exact SF hR hg (BA.1 b).1 (Lqx:=[(Cn x.h.B e,Cn x.h.B e)]) (λp C=>by
   simp at C;subst C
   exact⟨rfl,rfl,⟨rfl,by simp[Cn],λa d=>by grind[Cn]⟩,λ_=>rfl⟩) (rP hR b d f) λz v=>by grind[Cn]
 have m:∀{i:Nat} {x:AB},l[i]?=some x->Yk N l i=xT l i x:=λ{i x} b=>by grind[Yk,xT,Lj,dE]
 obtain⟨rfl,h⟩|⟨i,x,rfl,b,s,P⟩:=h;exact .inl ⟨rfl,.inl ⟨rfl,λi k=>m (AK k)▸h i _ k (AK k)⟩⟩;have k:=(BA.1 b).1;have c:=dE hR hg (i:=i) (q:=x.h.B);have g:=s;rw[xT]at g;simp only[BM,CV,FJ,decide_eq_false_iff_not]at g;let⟨n,G,I,F,E⟩:=g;rw[if_pos ⟨G,I,F⟩]at c
 exact .inr ⟨_,_,rfl,.inr ⟨i,x,_,rfl,b,n,c,m b▸s,λj u=>by
  have B:j<Z l:=L
  exact m (AK B)▸P j _ u (AK B)⟩,(al b n c).2 ((al b n c).1▸E)⟩
end
def l6:FO LO 108:=λl v f q A D=>by
 have c:=q.p;have g:=q.rt.2.1;have u:=λD=>Re l v f A c.len c.fs g D;have t:V (∀o,LO l o->∀a,o=some a->wB a):=λo h a e=>by
  subst e;obtain⟨h,-⟩|⟨i,x,h,F,C,-⟩:=h;cases h;cases h;rw[xT]at C;simp only[BM,FJ,decide_eq_false_iff_not]at C;have s:=C.2.2.2.2
  exact⟨(Gi s).1,(Gi s).2,λy b=>by
   obtain b|b:=Cy b;exact c.fs y b;simp at b;subst b
   exact nI (g x (AY F)).nm ((RG g _ _).resolve_left C.2.2.1)⟩
 apply wl func63;refine mt u ?_;rintro yb ya _ _ ⟨o,m,id,n,rfl,j,k,p,B⟩;have d:V _:=j;have z:V _:=k;clear j k;refine X ?_;have E:V (∀a,o=some a->m=a/\wB a):=λa e=>⟨z.o a e,t.o o d.o a e⟩
 first|exact⟨_,rfl,o,m,id,n,rfl,d.o,E.o,p,B⟩|exact⟨_,rfl,o,m,id,n,rfl,d.o,E.o,p⟩
def JA (c:UInt8)(l:n0)(o:Option n0):Prop:=(c=115/\NO l o)\/(c=97/\LU l o)\/(c=114/\LM l o)\/(c=117/\LV l o)\/(c=108/\LO l o)
def ly {n}(h:Dd n):∀c∈n,FO (JA c) c:=λc q l i a g j s=>by rw[Dd]at h;simp only[BM,CX]at h;have p:=h.2 c q;rw[Ho]at p;obtain rfl|rfl|rfl|rfl|rfl:=of_decide_eq_true p;exact (l8 l i a g j s).mono λt k ⟨o,m,id,b,f,d,e⟩=>⟨o,m,id,b,f,.inl ⟨rfl,d⟩,e⟩;exact (l5 l i a g j s).mono λt k ⟨o,m,id,b,f,d,e⟩=>⟨o,m,id,b,f,.inr (.inl ⟨rfl,d⟩),e⟩;exact (l7 l i a g j s).mono λt k ⟨o,m,id,b,f,d,e⟩=>⟨o,m,id,b,f,.inr (.inr (.inl ⟨rfl,d⟩)),e⟩;exact (l9 l i a g j s).mono λt k ⟨o,m,id,b,f,d,e⟩=>⟨o,m,id,b,f,.inr (.inr (.inr (.inl ⟨rfl,d⟩))),e⟩;exact (l6 l i a g j s).mono λt k ⟨o,m,id,b,f,d,e⟩=>⟨o,m,id,b,f,.inr (.inr (.inr (.inr ⟨rfl,d⟩))),e⟩
def qE {S c:n0->Option n0->Prop}{N ar l o}(h:S l o)(b:∀o,S l o->c l o)(a:∀d,S l (some d)->BB N ar d):LR c l o:=by
 cases o with
 |none=>exact .inl ⟨rfl,b _ h⟩
 |some m=>exact .inr ⟨m,m,rfl,b _ h,Ns (a m h).wit (a m h).wi▸LS.of_ren (a m h)⟩
def LR.mono {S d l o}(h:LR S l o)(c:∀o,S l o->d l o):LR d l o:=by obtain⟨b,a⟩|⟨f,m,b,a,e⟩:=h;exact .inl ⟨b,c _ a⟩;exact .inr ⟨f,m,b,c _ a,e⟩
def jr {N ar l}(a:BB N ar l)(b:∀x∈l,iS x){c o}(h:JA c l o):LR (FQ N c) l o:=by obtain⟨rfl,h⟩|⟨rfl,h⟩|⟨rfl,h⟩|⟨rfl,h⟩|⟨rfl,h⟩:=h;exact qE (kj a b h) (λo h=>.inl ⟨rfl,h⟩) λd h=>h.rt a;exact qE (kg a b h) (λo h=>.inr (.inl ⟨rfl,h⟩)) λd h=>h.rt a;exact qE (k9 a b h) (λo h=>.inr (.inr (.inl ⟨rfl,h⟩))) λd h=>h.rt a;exact (j9 a b h).mono λo h=>.inr (.inr (.inr (.inl ⟨rfl,h⟩)));exact (kx a b h).mono λo h=>.inr (.inr (.inr (.inr ⟨rfl,h⟩)))
def FQ.rt {N ar l a c}(h:FQ N c l (some a))(b:BB N ar l):BB N ar a:=by rcases h with⟨-,h⟩|⟨-,h⟩|⟨-,h⟩|⟨-,h⟩|⟨-,h⟩<;>exact h.rt b
section
variable {c:UInt8} {N:ol} {ar:Tx->Nat}
theorem Tn {l f o d}(h:LS l f)(hR:BB N ar l)(k:EN f)(i:FQ N c l o)(j:JA c f d):(o=none/\d=none)\/∃m b,o=some m/\d=some b/\LS m (Bl (Bj b))/\BB N ar m:=by obtain⟨⟨p,n,a⟩,hg,-⟩:=k.rt;obtain⟨rfl,g⟩|⟨b,t,rfl,g,q⟩:=jr a hg j;obtain⟨rfl,-⟩|⟨_,_,-,e,-⟩:=TM h hR a i g;exact .inl ⟨rfl,rfl⟩;cases e;obtain⟨-,e⟩|⟨m,_,rfl,e,s⟩:=TM h hR a i g;cases e;cases e;exact .inr ⟨m,b,rfl,rfl,s.trans q,i.rt hR⟩
theorem nY:∀{k d:Nat} {l i f a:n0},LS l i->BB N ar l->EN i->GR (FQ N c) k l f->LL (JA c) d i a->
  (k<=d/\∃b,LS f b/\BB N ar f/\EN b/\LL (JA c) (d-k) b a)\/(d<k/\∃b,LS b a/\BB N ar b/\EN a/\GR (FQ N c) (k-d) b f)
 |0,d,l,i,f,a,h,hR,j,e,g=>by cases e;grind
 |k+1,0,l,i,f,a,h,hR,j,g,e=>by cases e;grind
 |k+1,d+1,l,i,f,a,h,hR,j,⟨m,t,p⟩,⟨u,s,o,n⟩=>by obtain⟨e,-⟩|⟨_,_,e,e2,x,y⟩:=Tn h hR j t s;cases e;cases e;cases e2;rw[show d+1-(k+1)=d-k by omega,show k+1-(d+1)=k-d by omega];obtain⟨q,v⟩|⟨q,v⟩:=nY x y ⟨_,o.1,rfl⟩ p n;exact .inl ⟨L,v⟩;exact .inr ⟨L,v⟩
theorem yO {b m x f l t s a}(h:LS l t)(hR:BB N ar l)(B:EN t)(g:OY (FQ N c) b l m s x)(gd:PE (JA c) b t m a f):LS s a/\x=f/\BB N ar s/\EN a:=by let⟨k,E,A,D⟩:=g.1.stps;let⟨i,e2,C,y⟩:=gd.1.dst;obtain⟨z,F,p,n,o,d⟩|⟨z,F,p,n,o,d⟩:=nY h hR B A C;by_cases e:k=i;subst e;rw[GX]at d;cases d;exact⟨p,L,n,o⟩;have:=y L;let⟨j,u⟩:∃j,i-k=j+1:=⟨i-k-1,L⟩;rw[u]at d;obtain⟨w,v,-⟩:=d;obtain q|q:=g.2;omega;rcases Tn p n o q v with⟨-,c⟩|⟨_,_,c,-⟩<;>cases c;have:=D L;let⟨j,u⟩:∃j,k-i=j+1:=⟨k-i-1,L⟩;rw[u]at d;obtain⟨w,v,-⟩:=d;obtain q|q:=gd.2;omega;rcases Tn p n o v q with⟨c,-⟩|⟨_,_,-,c,-⟩<;>cases c
end
def VP {N ar b l j}(h:LS l j)(u:BB N ar l)(t:EN j){f i m}(g:GPss (FQ N) b l 0 f i m):
  ∀{a:n0} {d:Int},DPss JA b j 0 f a d->LS i a/\m=d/\BB N ar i/\EN a:=by
 induction g with
 |nil=>
  intro a d gd;generalize e:([]:Tx)=f at gd;cases gd with
  |nil=>exact⟨h,rfl,u,t⟩
  |snoc v k=>simp at e
 |snoc v k n=>
  rename_i f c y A x z;intro a d gd;generalize e:f++[c]=B at gd;cases gd with
  |nil=>simp at e
  |snoc o q=>
   obtain⟨rfl,e2⟩:=append_inj' e rfl;cases e2;obtain⟨p,rfl,C,s⟩:=n o;exact yO p C s k q
theorem UY {t f b p q}(h:Mi FQ t f b p)(g:Lh JA t f b q):p=q:=by rw[Mi]at h;rw[Lh]at g;split at h;rename_i a;rw[if_pos a]at g;rw[h,g];rename_i a;rw[if_neg a]at g;split at h;rename_i c;rw[if_pos c]at g;rw[h,g];rename_i c;rw[if_neg c]at g;split at h;rename_i d;rw[if_pos d]at g;rw[h,g];rename_i d;rw[if_neg d]at g;obtain⟨N,l,C,z,B,m,i,x,v,s,rfl⟩:=h;obtain⟨o,D,u,rfl⟩:=g;let⟨j,n,A,k⟩:=VP (i.items▸LS.refl l) (i.rt x) ⟨t,nn a,rfl⟩ s u;obtain⟨⟨y,E,e⟩,-⟩:=k.rt;rw[Oc v.wit,Oc e.wit,j.ren,n]
def plays_opt (o:iR)(t:o.kind=7)(l:o.n<=9223372036854775807)(c)(f:EO o c)(m):ni 33 [ag c] m λu b=>u=my true/\W m b:=by
 have s:=λm=>(xR o.s o.e o.n l m).mono λu b h=>show∃x k e,u=tp [O x,Y k,Y e]/\(∀q,Lh JA o.s o.e o.n q->q=(x,k,e))/\W m b from by grind[UY]
 have p:=λm=>W9 JA o.s o.e o.n l (λ_ h=>ly h) m;rw[EO]at f;subst f;rw[t]at*
 apply wl func33
 repeat' first|refine Z1 ?_|refine Z8 λyb ya=>?_|refine Z4 ?_;clear ya yb|refine Z2 ?_ ?_<;>intro h C<;>try exact Xp|(refine Z5 ?_;first|(apply Xi (s _);rintro _ _ ⟨x,k,e,rfl,j,i⟩;(have D:=i.C;have z:=i.B;have n:V _:=j;clear j;(try simp only[Aa,Ac,Az]at z)))|(refine Xi (p _) ?_;rintro _ _ ⟨q,rfl,d,g⟩;(have E:=g.C;have B:=g.B;cases n.o _ d;clear d))|(refine Xi (VX _ _) ?_;rintro _ _ ⟨rfl,a⟩;(replace a:=a.symm;subst a)))|refine Z7 ?_|exact Zt|apply ya.o;clear ya yb
 all_goals
  first
  |exact⟨_,rfl,rfl,Xs⟩
  |exact⟨_,rfl,rfl⟩
  |(exfalso;simp at*;done)
end Go.Proofs.YtmoeoppbmhfbpabGreatDoorJ
