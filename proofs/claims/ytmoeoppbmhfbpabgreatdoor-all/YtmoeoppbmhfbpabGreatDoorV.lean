import Derived.Test.YtmoeoppbmhfbpabGreatDoorQ
set_option maxHeartbeats 64000000
set_option maxRecDepth 100000
set_option linter.all false
open List
open List renaming length->Z
namespace Go.Proofs.YtmoeoppbmhfbpabGreatDoorJ
open Go.Abs Tryz
def ye (ar A cA ida p)(hE:r Bf A cA)(hl:Z A<=1000)(n:∀a∈A,qg ar a)(hp:∀a∈A,0<Z a.A/\short a)(hn:A.Nodup)(G):
  ni 69 [sl ida (Z A) cA,O p] G λah σ'=>ah=O ((pg (qe (A.map nj) p)).flatMap (pn p))/\W G σ':=by
 have b6:=r.length A7 hE;have b7:({data:=#[]}:ByteArray)=bs []:=rfl;have bw:({data:=#[46]}:ByteArray)=bs [46]:=rfl;refine wl func69 ?_;refine mu ?_
 refine Ae (λaf s σ'=>∃(K:oq) (T:Int) (aa:Tx),af=Z A+1-Z K/\s 0=sl ida (Z A) cA/\s 1=O p/\s 5=O aa/\s 6=Y T/\s 7=Y (Z K)/\W G σ'/\Z aa<=Z K*10000/\Z K<=Z A/\V (zq A p T K/\aa=K.flatMap λb=>pn p (nj b).2)) (Z A+1)
  ⟨[],-1,[],nk,by simp[upd,AL],by simp[upd,AL],AG,AG,AG,W.refl _,nk,nk,⟨nk,nk,.inl ⟨rfl,rfl⟩,λb hb hp=>.inr nk⟩,rfl⟩ ?_
 rintro af s σ' ⟨K,T,aa,rfl,S,z,a1,a0,h7,d,b8,bz,hA⟩;have br:decide ((Z K:Int)<=(Z A:Int)):=nn bz;refine mu ?_
 refine wn [0,1,5,6,7] 9 (Z A) (λi s σ'=>∃C:Int,s 8=Y C/\W G σ'/\V (ze A p T i C)) ⟨-1,AG,d,.inl ⟨rfl,λb hb=>by simp at hb⟩⟩ ?_
 clear S z a1 a0 h7 d br;rintro i s σ' _ ⟨S,z,a1,a0,h7⟩ h9 ⟨C,h8,d,E⟩;have b0:=d.B;have ao:V (∀(j:Nat) (b:AE),C=j->A[j]?=some b->b.B=p):=λj b e hb=>by
  obtain⟨z,-⟩|⟨j',b',z,h2,h3,-⟩:=E.o
  ·omega
  have:j'=j:=L;subst this;rw[hb]at h2;cases h2;exact h3.1
 have ad:C= -1\/∃(j:Nat) (b:AE),C=j/\A[j]?=some b:=by
  obtain⟨z,-⟩|⟨j',b',z,h2,-⟩:=E.o
  ·exact .inl z
  exact .inr ⟨j',b',z,h2⟩
 by_cases be:i<Z A
 ·obtain⟨w,F⟩:=gq be;obtain⟨ia,ah,hd⟩:=Ca hE F;have an:=(AY F);by_cases D:w.B=p
  ·have b1:(w.B !=p)=false:=nn D
   have aj:(w.B==p):=nn D;obtain⟨a9,ab⟩|⟨j0,a2,K0,a9,av,ab⟩:=hA.o.1.las
   ·have HC:V (zl A p T w):=⟨D,.inl a9⟩;have U:V ((C= -1\/∃(j:Nat) (b:AE),C=j/\A[j]?=some b/\pb w b)->ze A p T (i+1) (i:Nat)):=λh=>E.o.new F HC.o h;have ax:V (∀(j:Nat) (b:AE),C=j->A[j]?=some b->pb w b=false->ze A p T (i+1) (j:Nat)):=λj b e hb hl=>(e ▸ E.o).keep F hb hl;subst a9;have bh:decide ((-1:Int)>=0)=false:=nr
    have bg:decide ((0:Int)<= -1)=false:=nr;clear F HC;refine mu ?_;refine A2 (Q:=λe f g=>e= .normal/\f 44=my false/\f 0=s 0/\f 1=s 1/\f 5=s 5/\f 6=s 6/\f 7=s 7/\f 8=s 8/\f 9=s 9/\W σ' g) ?_ ?_
    ·refine bT [] [0,1,2,3,4,5,6,7,8,9,10,11,12,13,14,15,16,17,18] 4 (nv 23 524287) ?_;refine rl 19 ?_;refine vk [20,21,22] ?_;refine⟨rfl,?_⟩;simp[upd,W.refl]
    
    rintro e f g ⟨rfl,q,R,o,m,M,N,P,I,t⟩;rw[S]at R;rw[z]at o;rw[a1]at m;rw[a0]at M;rw[h7]at N;rw[h8]at P;rw[h9]at I;have v:=d.trans t;have b4:=v.B;refine De q ?_;clear S z a1 a0 h7 h8 h9 d t q;obtain a6|⟨j,b,a5,c⟩:=ad
    ·subst a6;have x:V _:=U.o (.inl rfl);have a7:decide ((-1:Int)<0):=nr
     clear U ax;refine mu ?_;refine A2 (Q:=λe k l=>e= .normal/\k 57=my true/\k 0=f 0/\k 1=f 1/\k 5=f 5/\k 6=f 6/\k 7=f 7/\k 8=f 8/\k 9=f 9/\W g l) ?_ ?_
     ·refine bT [] [0,1,2,3,4,5,6,7,8,9,10] 2 (nv 13 2047) ?_;refine rl 11 ?_;refine vk [12] ?_;refine⟨rfl,?_⟩;simp[upd,W.refl]
     rintro e k l ⟨rfl,u,k0,k1,k5,k6,k7,k8,k9,y⟩;rw[R]at k0;rw[o]at k1;rw[m]at k5;rw[M]at k6;rw[N]at k7;rw[P]at k8;rw[I]at k9;refine Cj u ?_;refine mu ?_;refine⟨(i:Nat),?_⟩;exact nf x (v.trans y)
    subst a5;have bf:=(BA.1 c).1;let⟨ja,r2,bm⟩:=Ca hE c;have B:=AY c;have aw:=λG=>uw w b _ _ ⟨ia,rfl⟩ ⟨ja,rfl⟩ (by rw[(n w an).ln,(n b B).ln,D,ao.o j b rfl c];exact AU _) (ny ((n b B).le)) G;rw[P_ (n w an) (n b B) (by rw[D,ao.o j b rfl c]),D]at aw;have a7:decide ((j:Int)<0)=false:=nk;have HL:V (pb w b=nz (nj w).2 (nj b).2):=rfl;have x:V (pb w b->_):=λh=>U.o (.inr ⟨j,b,rfl,c,h⟩);have a8:V (pb w b=false->_):=λh=>ax.o j b rfl c h;clear U ax c B;generalize nz (nj w).2 (nj b).2=lb at aw HL;rw[HL.o]at x a8;clear HL;refine mu ?_;refine A2 (Q:=λe k l=>e= .normal/\k 57=my lb/\k 0=f 0/\k 1=f 1/\k 5=f 5/\k 6=f 6/\k 7=f 7/\k 8=f 8/\k 9=f 9/\W g l) ?_ ?_
    ·refine bT [] [0,1,2,3,4,5,6,7,8,9,10] 2 (nv 13 2047) ?_;refine tn 11 aw ?_;rintro yb ya _ ae ⟨rfl,a4⟩;refine ux ?_;refine vk [12] ?_;refine⟨rfl,?_⟩;simp[upd,a4]
    rintro e k l ⟨rfl,u,k0,k1,k5,k6,k7,k8,k9,y⟩;rw[R]at k0;rw[o]at k1;rw[m]at k5;rw[M]at k6;rw[N]at k7;rw[P]at k8;rw[I]at k9;cases lb
    ·have ay:V _:=a8.o rfl;refine De u ?_;refine mu ?_;refine⟨(j:Nat),?_⟩;exact nf ay (v.trans y)
    have ay:V _:=x.o rfl;refine Cj u ?_;refine mu ?_;refine⟨(i:Nat),?_⟩;exact nf ay (v.trans y)
   subst a9;have bi:=AY av;have bc:a2.B=p:=(hA.o.1.mem a2 (by rw[ab];simp)).2;let⟨b3,r0,bv⟩:=Ca hE av;have b2:=(BA.1 av).1;have a3:=λG=>uw a2 w _ _ ⟨b3,rfl⟩ ⟨ia,rfl⟩ (by rw[(n w an).ln,(n a2 bi).ln,D,bc];exact AU _) (ny ((n w an).le)) G;rw[P_ (n a2 bi) (n w an) (by rw[D,bc]),D,bc]at a3;have bh:decide ((j0:Int)>=0):=nk;have bg:decide ((0:Int)<=(j0:Int)):=nk;cases az:nz (nj a2).2 (nj w).2 with
   |true=>
    have HC:V (zl A p (j0:Nat) w):=⟨D,.inr ⟨j0,a2,rfl,av,az⟩⟩;have U:V ((C= -1\/∃(j:Nat) (b:AE),C=j/\A[j]?=some b/\pb w b)->ze A p (j0:Nat) (i+1) (i:Nat)):=λh=>E.o.new F HC.o h;have ax:V (∀(j:Nat) (b:AE),C=j->A[j]?=some b->pb w b=false->ze A p (j0:Nat) (i+1) (j:Nat)):=λj b e hb hl=>(e ▸ E.o).keep F hb hl;rw[az]at a3;clear F HC av az ab;refine mu ?_;refine A2 (Q:=λe f g=>e= .normal/\f 44=my false/\f 0=s 0/\f 1=s 1/\f 5=s 5/\f 6=s 6/\f 7=s 7/\f 8=s 8/\f 9=s 9/\W σ' g) ?_ ?_
    ·refine bT [] [0,1,2,3,4,5,6,7,8,9,10,11,12,13,14,15,16,17,18] 4 (nv 23 524287) ?_;refine tn 19 a3 ?_;rintro yb ya _ ae ⟨rfl,a4⟩;refine ux ?_;refine vk [20,21,22] ?_;refine⟨rfl,?_⟩;simp[upd,a4]
    clear a3 bv bh bg;rintro e f g ⟨rfl,q,R,o,m,M,N,P,I,t⟩;rw[S]at R;rw[z]at o;rw[a1]at m;rw[a0]at M;rw[h7]at N;rw[h8]at P;rw[h9]at I;have v:=d.trans t;have b4:=v.B;refine De q ?_;clear S z a1 a0 h7 h8 h9 d t q;obtain a6|⟨j,b,a5,c⟩:=ad
    ·subst a6;have x:V _:=U.o (.inl rfl);have a7:decide ((-1:Int)<0):=nr
     clear U ax;refine mu ?_;refine A2 (Q:=λe k l=>e= .normal/\k 57=my true/\k 0=f 0/\k 1=f 1/\k 5=f 5/\k 6=f 6/\k 7=f 7/\k 8=f 8/\k 9=f 9/\W g l) ?_ ?_
     ·refine bT [] [0,1,2,3,4,5,6,7,8,9,10] 2 (nv 13 2047) ?_;refine rl 11 ?_;refine vk [12] ?_;refine⟨rfl,?_⟩;simp[upd,W.refl]
     rintro e k l ⟨rfl,u,k0,k1,k5,k6,k7,k8,k9,y⟩;rw[R]at k0;rw[o]at k1;rw[m]at k5;rw[M]at k6;rw[N]at k7;rw[P]at k8;rw[I]at k9;refine Cj u ?_;refine mu ?_;refine⟨(i:Nat),?_⟩;exact nf x (v.trans y)
    subst a5;have bf:=(BA.1 c).1;let⟨ja,r2,bm⟩:=Ca hE c;have B:=AY c;have aw:=λG=>uw w b _ _ ⟨ia,rfl⟩ ⟨ja,rfl⟩ (by rw[(n w an).ln,(n b B).ln,D,ao.o j b rfl c];exact AU _) (ny ((n b B).le)) G;rw[P_ (n w an) (n b B) (by rw[D,ao.o j b rfl c]),D]at aw;have a7:decide ((j:Int)<0)=false:=nk;have HL:V (pb w b=nz (nj w).2 (nj b).2):=rfl;have x:V (pb w b->_):=λh=>U.o (.inr ⟨j,b,rfl,c,h⟩);have a8:V (pb w b=false->_):=λh=>ax.o j b rfl c h;clear U ax c B;generalize nz (nj w).2 (nj b).2=lb at aw HL;rw[HL.o]at x a8;clear HL;refine mu ?_;refine A2 (Q:=λe k l=>e= .normal/\k 57=my lb/\k 0=f 0/\k 1=f 1/\k 5=f 5/\k 6=f 6/\k 7=f 7/\k 8=f 8/\k 9=f 9/\W g l) ?_ ?_
    ·refine bT [] [0,1,2,3,4,5,6,7,8,9,10] 2 (nv 13 2047) ?_;refine tn 11 aw ?_;rintro yb ya _ ae ⟨rfl,a4⟩;refine ux ?_;refine vk [12] ?_;refine⟨rfl,?_⟩;simp[upd,a4]
    rintro e k l ⟨rfl,u,k0,k1,k5,k6,k7,k8,k9,y⟩;rw[R]at k0;rw[o]at k1;rw[m]at k5;rw[M]at k6;rw[N]at k7;rw[P]at k8;rw[I]at k9;cases lb
    ·have ay:V _:=a8.o rfl;refine De u ?_;refine mu ?_;refine⟨(j:Nat),?_⟩;exact nf ay (v.trans y)
    have ay:V _:=x.o rfl;refine Cj u ?_;refine mu ?_;refine⟨(i:Nat),?_⟩;exact nf ay (v.trans y)
   |false=>
    have HN:V (ze A p (j0:Nat) (i+1) C):=E.o.skip F λhc=>by
     obtain h|⟨j',b5,e1,e2,e3⟩:=hc.2
     ·omega
     have:j'=j0:=L;subst this;rw[av]at e2;cases e2;unfold pb at e3;rw[az]at e3;cases e3
    rw[az]at a3;clear F av az ab ao ad E;refine mu ?_;refine A2 (Q:=λe f g=>e= .normal/\f 44=my true/\f 0=s 0/\f 1=s 1/\f 5=s 5/\f 6=s 6/\f 7=s 7/\f 8=s 8/\f 9=s 9/\W σ' g) ?_ ?_
    ·refine bT [] [0,1,2,3,4,5,6,7,8,9,10,11,12,13,14,15,16,17,18] 4 (nv 23 524287) ?_;refine tn 19 a3 ?_;rintro yb ya _ ae ⟨rfl,a4⟩;refine ux ?_;refine vk [20,21,22] ?_;refine⟨rfl,?_⟩;simp[upd,a4]
    
    rintro e f g ⟨rfl,q,R,o,m,M,N,P,I,t⟩;rw[S]at R;rw[z]at o;rw[a1]at m;rw[a0]at M;rw[h7]at N;rw[h8]at P;rw[h9]at I;refine Cj q ?_;refine mu ?_;refine⟨C,?_⟩;exact nf HN (d.trans t)
  have b1:(w.B !=p):=nn D;have aj:(w.B==p)=false:=nn D;have HN:V (ze A p T (i+1) C):=E.o.skip F λhc=>D hc.1;clear F ao ad E;refine mu ?_;refine A2 (Q:=λe f g=>e= .normal/\f 44=my true/\f 0=s 0/\f 1=s 1/\f 5=s 5/\f 6=s 6/\f 7=s 7/\f 8=s 8/\f 9=s 9/\W σ' g) ?_ ?_
  ·refine bT [] [0,1,2,3,4,5,6,7,8,9,10,11,12,13,14,15,16,17,18] 4 (nv 23 524287) ?_;refine rl 19 ?_;refine vk [20,21,22] ?_;refine⟨rfl,?_⟩;simp[upd,W.refl]
  
  rintro e f g ⟨rfl,q,R,o,m,M,N,P,I,t⟩;rw[S]at R;rw[z]at o;rw[a1]at m;rw[a0]at M;rw[h7]at N;rw[h8]at P;rw[h9]at I;refine Cj q ?_;refine mu ?_;refine⟨C,?_⟩;exact nf HN (d.trans t)
 obtain rfl:i=Z A:=L;obtain⟨a6,bb⟩|⟨j,b,a5,c,hc,au⟩:=E.o
 ·subst a6;rw[AS]at bb;have HR:V (aa=(pg (qe (A.map nj) p)).flatMap (pn p)):=by
   rw[V,hA.o.2,<-hA.o.1.done n bb hn,JG]
  have a7:decide ((-1:Int)<0):=nr;clear hA E bb ao ad;refine mu ?_
  exact⟨_,rfl,by rw[HR.o]⟩
 subst a5;rw[AS]at au;have B:=AY c;have bf:=(BA.1 c).1;let⟨ja,r2,bm⟩:=Ca hE c;have a7:decide ((j:Int)<0)=false:=nk;have ap:=hA.o.1.more n c hc au;have am:=ap.len;simp only[AX,BQ,CQ]at am;have ba:=(hp b B).2;have bq:Z (Ec [] b)<=5000:=by
  have z:=Vo [] b.A 0 ba.2.2;have h2:=(n b B).le;have h3:=ba.1;unfold Ec;rw[if_neg (by simp[(n b B).nt])];simp only[AX,CQ,BQ];omega
 have HR:V (zq A p (j:Nat) (K++[b])/\aa++Ec [] b++[46]=(K++[b]).flatMap λb=>pn p (nj b).2):=⟨ap,by
  rw[KC,<-hA.o.2,CR,x_ (n b B) (hp b B).1,hc.1];simp⟩
 have bn:=λG=>Vm [] 1 b _ ⟨ja,rfl⟩ nk ba G;generalize Ec [] b=wb at bn bq HR;clear hA E au ao ad ap hc c B
 repeat' first|refine Z1 ?_|refine Z8 λyb ya=>?_|refine Z4 ?_;clear ya yb|refine Z2 ?_ ?_<;>intro h b9<;>try exact Xp|refine Z5 ?_;refine Xi (bn _) ?_;rintro _ _ ⟨rfl,bo⟩;(have bp:=bo.B)|refine Z7 ?_|exact Zt|apply ya.o;clear ya yb
 exact⟨Z A+1-Z (K++[b]),by simp;omega,K++[b],(j:Nat),aa++wb++[46],qk HR (d.trans bo)⟩
def rq (lo:Nat)(b:St)(x:AV)(n:Nat)(c:oh):Prop:=∃o a,x=gx o n a/\0<a/\n<=a/\Z (b.C o)=a*3/\(b.C o).take (n*3)=c/\lo<=o/\o<b.B
def rq.keep {lo b σ' x n d}(h:rq lo b x n d)(k:W b σ'):rq lo σ' x n d:=by let⟨o,a,f,g,l,j,i,e,c⟩:=h;have:=k.C o c;exact⟨o,a,f,g,l,this▸j,this▸i,e,BZ c k.B⟩
def W_ {P t b k σ0 a d n lo x xs c K}(s:P0 P t=some (3,b,k))(i:Z k=3)(I:Z c=3)(M:c.all Abs.flat)(D:(n+1)*b<=140737488355328)(y:n+1<=1099511627776)
  (z:lo<=a.B) (Jqx:σ0.B<=lo) (j:W σ0 a) (A:rq lo a x n xs) (h:∀l σ',rq lo σ' l (n+1) (xs++c)->a.B<=σ'.B->(∀p,p<lo->σ'.C p=a.C p)->W σ0 σ'->K l σ'):Jx P t t x (sl d 1 c) a K:=by obtain⟨o,v,rfl,B,q,F,C,u,E⟩:=A;refine Atl (xs:=xs) s L i L M L D y B q F C (λe G g f=>?_) (λm G g e f=>?_);exact h _ _ ⟨_,_,rfl,L,e,Ak▸g,Ak▸f,u,E⟩ (AU _) (λp N=>Dz L) (j.put L _);exact h _ _ ⟨_,_,rfl,L,e,Ao▸g,Ao▸f,z,AM⟩ AM (λp N=>Ah L) (j.new _)
def Asz {Lqx}{c a:oh}(e:r Bf Lqx c){k b}(d:Lqx[k]?=some b)(g:a.take (Z Lqx*3)=c):∃ib l,a.drop (k*3)=my b.nt::O b.B::lw ib b.A::l:=by
 let⟨ib,l,f⟩:=Ca e d;have j:=(BA.1 d).1;have i:=r.length A7 e;refine⟨ib,l++a.drop (Z Lqx*3),?_⟩
 conv=>lhs;rw[<-KD (Z Lqx*3) a]
 rw[g,drop_append,f,show k*3-Z c=0 by omega];simp
def Ajy:∀{F A:oq} {i:Nat} {a:AE},F[i]?=some a->po (A++F.take i) (F.drop i)=((A++F.take i).any (clash a)||po (A++F.take (i+1)) (F.drop (i+1))):=λ{F A i a} h=>by let⟨b,c⟩:=BA.1 h;rw[ET b,c,po,AT,h];simp
def qu (l:n0)(F:oq):Int:=if po (l.flatMap Af) F=true then 3 else if F.any (λa=>F7 l a.B)=true then 8 else 0
def xu (l cs v F cF a2)(hE:r AJ l cs)(hl:Z l<=16)(hf:∀x∈l,x.fits)(hF:r Bf F cF)(bq:Z F<=1000)(z):
  ni 66 [sl v (Z l) cs,sl a2 (Z F) cF] z λa5 σ'=>a5=Y (qu l F)/\W z σ':=by
 have bo:=r.length Cf hE;have bn:=r.length A7 hF;refine wl func66 ?_;refine X ?_
 refine wn [0,1] 6 (Z l) (λi s σ'=>∃(x:AV) (f:oh),s 5=x/\W z σ'/\rq z.B σ' x (Z (Ha l i)) f/\V (r Bf (Ha l i) f)) ⟨_,[],rfl,Xs,⟨z.B,8,rfl,L,by simp[Ha],by simp[Ao],by simp[Ha],AU _,AM⟩,by simp[V,Ha,r]⟩ ?_
 rintro i s σ' _ ⟨N,M⟩ h6 ⟨u,f,R,D,g,E⟩;have aa:=VK hf i;have t:=D.B;by_cases a3:i<Z l;let⟨an,ai,b1,r1,ac,bg⟩:=Cv hE (AK a3);have a6:=hf l[i] (AR a3);have HX:V (l[i]?=some l[i]):=AK a3;generalize l[i]=y at ac bg a6 HX;have bp:=a6.atoms;have B:Abs.flat u:=by obtain⟨o,p,rfl,-⟩:=g;rfl
 refine m0 ?_;intro yb ya;refine Xi (Qq _ _ (AJ.of ac) (ny a6.1) _) ?_;rintro _ _ ⟨af,ae,rfl,ba,a8⟩;refine X ?_;rename_i ao;have bh:=r.length A7 ba
 refine Ae (λm s σ'=>∃(j:Nat) (x:AV) (f:oh),m=Z (Af y)-j/\j<=Z (Af y)/\s 0=sl v (Z l) cs/\s 1=sl a2 (Z F) cF/\s 5=x/\s 6=Y i/\s 7=sl af (Z (Af y)) ae/\s 8=Y j/\W z σ'/\rq z.B σ' x (Z (Ct l y i j)) f/\V (r Bf (Ct l y i j) f)) (Z (Af y))
  ⟨0,u,f,L,L,by simp[upd,N],by simp[upd,M],by simp[upd,R],by simp[upd,h6],AG,AG,D.trans a8,by simpa[Ct]using g.keep a8,by simpa[Ct]using E⟩ ?_
 clear D g E N M R h6 a8 f B u t;rintro m s σ' ⟨j,u,f,rfl,hj,N,M,R,h6,h7,h8,D,g,E⟩;have t:=D.B;have ay:Z (Ct l y i j)<=100000:=by unfold Ct;simp;omega
 have B:Abs.flat u:=by obtain⟨o,p,rfl,-⟩:=g;rfl
 by_cases aj:j<Z (Af y);let⟨S,a5,a4⟩:=Ca ba (AK aj);have n:V ((Af y)[j]?=some (Af y)[j]):=AK aj;generalize (Af y)[j]=a at a4 n;have C:V (Ct l y i (j+1)=Ct l y i j++[a]):=I3 n.o;have HS:V (r Bf (Ct l y i (j+1)) (f++[my a.nt,O a.B,lw S a.A])):=by
  rw[V,C.o];exact E.o.append (r.single ⟨S,rfl⟩)
 have K:Z (Ct l y i (j+1))=Z (Ct l y i j)+1:=by rw[C.o];simp
 clear E;refine nh ?_;intro yb ya;refine W_ (lo:=z.B) (σ0:=z) (by exact It) (by rfl) (by rfl) (by rfl) L L (by simp only[Az,Ac,Aa];omega) (AU _) (D.lay 1) (g.keep ((W.refl _).lay 1)) ?_;intro a1 ad T bc ak ah;rw[<-K]at T;have bf:Abs.flat a1:=by obtain⟨o,p,rfl,-⟩:=T;rfl
 clear g ak K;refine X ?_;refine⟨Z (Af y)-(j+1),L,j+1,a1,f++[my a.nt,O a.B,lw S a.A],?_⟩;exact nf T HS;have a9:j=Z (Af y):=L;have HS:V (r Bf (Ha l (i+1)) f):=by rw[V,tr HX.o,<-a9];exact E.o
 have g:rq z.B σ' u (Z (Ha l (i+1))) f:=by rw[tr HX.o,<-a9];exact g
 clear E;refine X ?_;refine⟨u,f,?_⟩;exact nf g HS;obtain rfl:i=Z l:=L;have ab:Ha l (Z l)=l.flatMap Af:=by unfold Ha;rw[AS]
 rw[ab]at g E aa;clear ab;have ax:V (qu l F=if po (l.flatMap Af) F=true then 3 else if F.any (λa=>F7 l a.B)=true then 8 else 0):=rfl;generalize l.flatMap Af=P at g E aa ax;have B:Abs.flat u:=by obtain⟨o,p,rfl,-⟩:=g;rfl
 refine X ?_
 refine Ae (λm s σ'=>∃(q:Nat) (x:AV) (f:oh),m=Z F-q/\q<=Z F/\s 0=sl v (Z l) cs/\s 1=sl a2 (Z F) cF/\s 5=x/\s 9=Y q/\W z σ'/\rq z.B σ' x (Z (P++F.take q)) f/\V (r Bf (P++F.take q) f/\po P F=po (P++F.take q) (F.drop q))) (Z F)
  ⟨0,u,f,L,L,by simp[upd,N],by simp[upd,M],by simp[upd,R],AG,D,nn g,nn E.o,nk⟩ ?_
 clear D g E N M R h6 f B u t;rintro m s σ' ⟨q,u,f,rfl,hq,N,M,R,h9,D,g,E⟩;have t:=D.B;have ay:Z (P++F.take q)<=100000:=by rw[AX,CN];omega
 by_cases aj:q<Z F;have n:V (F[q]?=some F[q]):=AK aj;let⟨S,a5,a4⟩:=Ca hF n.o;generalize F[q]=a at a4 n;have HT:V _:=Ajy (A:=P) n.o;have C:V (P++F.take (q+1)=(P++F.take q)++[a]):=by rw[V,AT,n.o];simp
 have K:Z (P++F.take (q+1))=Z (P++F.take q)+1:=by rw[C.o,AX];rfl
 generalize P++F.take q=c at g E ay HT C K;obtain⟨o,p,rfl,c1,c2,c3,c4,c5,c6⟩:=g;have az:V (po P F=(c.any (clash a)||po (P++F.take (q+1)) (F.drop (q+1)))):=by rw[V,E.o.2,HT.o]
 have HE:V (r Bf c f):=E.o.1;clear E HT;refine X ?_
 refine Ae (λm s e=>∃k:Nat,m=Z c-k/\k<=Z c/\s 0=sl v (Z l) cs/\s 1=sl a2 (Z F) cF/\s 5=gx o (Z c) p/\s 9=Y q/\s 10=Y k/\e=σ'/\V (OF a c k)) (Z c)
  ⟨0,L,L,by simp[upd,N],by simp[upd,M],by simp[upd,R],by simp[upd,h9],AG,rfl,by simp[V,OF]⟩ ?_
 clear N M R h9;rintro m s e ⟨k,rfl,hk,N,M,R,h9,bu,rfl,Q⟩;by_cases am:k<Z c;have HB:V (c[k]?=some c[k]):=AK am;let⟨ib,r',a7⟩:=Asz HE.o HB.o c4;generalize c[k]=b at a7 HB;have bm:(e.C o)[k*3+1]?=some (O b.B):=by rw[<-IJ,a7];rfl
 have bi:(e.C o)[k*3+2]?=some (lw ib b.A):=by rw[<-IJ,a7];rfl
 have d:V (clash a b=(b.B==a.B&&decide (Z b.A≠Z a.A))):=rfl;have a0:V (clash a b=false->OF a c (k+1)):=λh=>by unfold OF at*;rw[any_take_succ _ HB.o,Q.o,h];rfl
 have ou:V (clash a b->qu l F=3):=λh=>by
  rw[ax.o,if_pos];rw[az.o,D4 _ HB.o h];rfl
 clear Q;by_cases U:b.B=a.B;have t1:(b.B==a.B):=nn U;by_cases e2:Z b.A=Z a.A;have t2:((Z b.A:Int) !=(Z a.A:Int))=false:=by simp;omega
 have I:V (OF a c (k+1)):=a0.o (by rw[d.o];simp[e2]);clear a0 ou d U e2;refine X ?_;refine Ax Ag (λ_=>True) [25] [0,1,2,3,4,5,6,7,8,9,10,11,12,13,14,15,16,17,18,19,20,21,22,23,24] [25] AH (λ_ _ _ h=>h) ?_;intro yb ya;refine X ?_;refine⟨Z c-(k+1),L,k+1,?_⟩;exact m9 I;have t2:((Z b.A:Int) !=(Z a.A:Int)):=by simp;omega
 have I:V (qu l F=3):=ou.o (by rw[d.o];simp[U,e2]);clear a0 ou d U e2;refine X ?_;refine Ax Ag (λ_=>True) [25] [0,1,2,3,4,5,6,7,8,9,10,11,12,13,14,15,16,17,18,19,20,21,22,23,24] [25] AH (λ_ _ _ h=>h) ?_;intro yb ya;refine X ?_
 exact⟨_,rfl,by rw[I.o]⟩
 have t1:(b.B==a.B)=false:=nn U;have I:V (OF a c (k+1)):=a0.o (by rw[d.o];simp[U]);clear a0 ou d U;refine X ?_;refine Ax Ag (λ_=>True) [25] [0,1,2,3,4,5,6,7,8,9,10,11,12,13,14,15,16,17,18,19,20,21,22,23,24] [25] AH (λ_ _ _ h=>h) ?_;intro yb ya;refine X ?_;refine⟨Z c-(k+1),L,k+1,?_⟩;exact m9 I;obtain rfl:k=Z c:=L
 have HO:V (r Bf (P++F.take (q+1)) (f++[my a.nt,O a.B,lw S a.A])/\po P F=po (P++F.take (q+1)) (F.drop (q+1))):=⟨by
  rw[C.o];exact HE.o.append (r.single ⟨S,rfl⟩),by
  have:=Q.o;unfold OF at this;rw[AS]at this
  rw[az.o,this,MA]⟩
 have g:rq z.B e (gx o (Z c) p) (Z c) f:=⟨o,p,rfl,c1,c2,c3,c4,c5,c6⟩;clear Q az HE;refine nh ?_;intro yb ya;refine W_ (lo:=z.B) (σ0:=z) (by exact It) (by rfl) (by rfl) (by rfl) L L (by simp only[Az,Ac,Aa];omega) (AU _) (D.lay 1) (g.keep ((W.refl _).lay 1)) ?_;intro a1 ad T bc ak ah;rw[<-K]at T;have bf:Abs.flat a1:=by obtain⟨o,p,rfl,-⟩:=T;rfl
 clear g ak K c1 c2 c3 c4 c5 c6;refine X ?_;refine⟨Z F-(q+1),L,q+1,a1,f++[my a.nt,O a.B,lw S a.A],?_⟩;exact nf T HO;obtain rfl:q=Z F:=L;have HR:V (qu l F=if F.any (λa=>F7 l a.B)=true then 8 else 0):=by
  have:=E.o.2;rw[IZ]at this;rw[V,ax.o,this,if_neg (by simp[po])]
 have B:Abs.flat u:=by obtain⟨o,p,rfl,-⟩:=g;rfl
 clear E g ax ay;refine X ?_
 refine Ae (λm s e=>∃k:Nat,m=Z F-k/\k<=Z F/\s 0=sl v (Z l) cs/\s 1=sl a2 (Z F) cF/\s 11=Y k/\W z e/\V ((F.take k).any (λa=>F7 l a.B)=false)) (Z F)
  ⟨0,L,L,by simp[upd,N],by simp[upd,M],AG,D,by simp[V]⟩ ?_
 clear N M R h9 D t B;rintro m s e ⟨k,rfl,hk,N,M,br,D,Q⟩;have t:=D.B;by_cases am:k<Z F;have n:V (F[k]?=some F[k]):=AK am;obtain⟨S,a5,a4⟩:=Ca hF n.o;generalize F[k]=a at a4 n;have aw:=λz=>W4 l cs v a.B hE hl z;cases G:F7 l a.B
 ·have I:V ((F.take (k+1)).any (λa=>F7 l a.B)=false):=by rw[V,any_take_succ (λa=>F7 l a.B) n.o,Q.o,G];rfl
  rw[G]at aw;clear G Q n;refine m0 ?_;intro yb ya;refine Xi (aw _) ?_;rintro _ _ ⟨rfl,rfl⟩;refine X ?_;refine⟨Z F-(k+1),L,k+1,?_⟩;exact m9 I
 have I:V (qu l F=8):=by rw[V,HR.o,if_pos (D4 (λa=>F7 l a.B) n.o G)]
 rw[G]at aw;clear G Q HR n;refine m0 ?_;intro yb ya;refine Xi (aw _) ?_;rintro _ _ ⟨rfl,rfl⟩;refine X ?_
 first|exact⟨_,rfl,by rw[I.o],D⟩|exact⟨_,rfl,by rw[I.o]⟩
 obtain rfl:k=Z F:=L;rw[AS]at Q;have I:V (qu l F=0):=by rw[V,HR.o,Q.o];rfl
 clear Q HR;refine X ?_
 exact⟨_,rfl,by rw[I.o]⟩
inductive zt (l:n0)(lim:Nat)(A0:oq):Nat->oq->Prop where
 |zero:zt l lim A0 0 A0
 |succ {s:Nat} {A A':oq}:zt l lim A0 s A->wE false (pz l s) A lim A'->zt l lim A0 (s+1) A'
def zt.stg {ar l F}(d:M_ ar l F){M:pw}(f:zp l (rk F) M){a A0}(c:κ ar l F M 0 A0){s A}(h:zt l a A0 s A):κ ar l F M s A:=by
 induction h with
 |zero=>exact c
 |succ _ e b=>exact Amv d f b e
def Θ (l:n0)(F:oq)(n:Nat)(A:oq)(k:Int)(ok:Bool):Prop:=∃A0,wE false [] F (Z F) A0/\
 ((ok=true/\zt l (Z A0+n) A0 (Z l+1) A/\Z A<=Z A0+n/\k=(Z A:Int)-Z A0)\/(ok=false/\k=0/\∃s A1,s<=Z l/\zt l (Z A0+n) A0 s A1/\pD false (pz l s) A1 (Z A0+n)))
def Au8 {F}(h:pD false [] F (Z F)):False:=by
 let⟨g,b,f,e⟩:=h (·∈F) ⟨λa c=>c,λ_ _ _ x d=>by cases d⟩;have:Z g<=Z F:=by classical exact td g F b e
 omega
def Arh {l k i y}(h:l[i]?=some y):(l.take (i+1)).filter (pf l k)=(l.take i).filter (pf l k)++if pf l k y=true then [y]else []:=by rw[AT,h,BN,IR];congr 1;cases a:pf l k y<;>simp[a]
def xw (l cs C F cF)(I n:Nat)(hE:r AJ l cs)(hl:Z l<=16)(hf:∀x∈l,x.fits)(hF:H3 F cF)(bz:Z F<=400)(hn:n<=200)(hr:∀x∈l,x.o=false->iM false 600 x)(c):
  ni 67 [sl C (Z l) cs,sl I (Z F) cF,Y n] c λe σ'=>∃A ida cA k ok,e=tp [sl ida (Z A) cA,Y k,my ok]/\Θ l F n A k ok/\(ok=true->H3 A cA)/\W c σ':=by
 have bv:=r.length Cf hE;have a9:∀b,b<=600->∀x∈l,x.o=false->iM false b x:=λb bm x B ho=>by
  obtain⟨c0,ap,d,q⟩:=hr x B ho;exact⟨c0,ap,d,λaj ha=>q aj L⟩
 have bf:∀c,ni 116 [H,sl I (Z F) cF,my false,Y (Z F)] c λe σ'=>(∃A ida cA,e=tp [sl ida (Z A) cA,my true]/\H3 A cA/\wE false [] F (Z F) A)/\W c σ':=λc=>(fR false [] [] 1 F cF I (Z F) rfl nk hF L (AU _) (λx B=>by cases B) c).mono λe σ' ⟨d,q⟩=>by
  obtain h|⟨-,h⟩:=d
  ·exact⟨h,q⟩
  exact absurd h Au8
 have ay:∀(b:Nat) (a:n0) (f:oh) (z:Nat) (A:oq) (cA:oh) (ida:Nat),r AJ a f->Z a<=1000->H3 A cA->b<=600->Z A<=b->(∀x∈a,x∈l/\x.o=false)->∀c,ni 116 [sl z (Z a) f,sl ida (Z A) cA,my false,Y b] c λe σ'=>∃E a1 u ok,e=tp [sl a1 (Z E) u,my ok]/\((ok/\H3 E u/\wE false a A b E)\/(ok=false/\E=[]/\pD false a A b))/\W c σ':=λb a f z A cA ida d q U h4 h5 h6 c=>(fR false a f z A cA ida b d q U L h5 (λx B=>a9 b h4 x (h6 x B).1 (h6 x B).2) c).mono λe σ' ⟨d,q⟩=>by
  obtain⟨A,ida,cA,a0,U,h4⟩|⟨a0,U⟩:=d
  ·exact⟨A,ida,cA,true,a0,.inl ⟨rfl,U,h4⟩,q⟩
  exact⟨[],1,[],false,a0,.inr ⟨rfl,rfl,U⟩,q⟩
 clear a9 hr;refine wl func67 ?_;refine mt bf ?_;rintro yb ya _ _ ⟨⟨A0,am,c0,rfl,be,az⟩,ak⟩;(have b0:=az.len;have br:V _:=be;have bi:V _:=az;clear be az);refine X ?_;rename_i b5;clear bf
 refine Ae (λm s σ'=>∃(k:Nat) (A:oq) (ida:Nat) (cA:oh),m=Z l+1-k/\k<=Z l+1/\s 0=sl C (Z l) cs/\s 2=Y n/\s 9=sl ida (Z A) cA/\s 11=Y ((Z A0+n:Nat):Int)/\s 12=Y k/\W c σ'/\Z A<=Z A0+n/\V (H3 A cA/\zt l (Z A0+n) A0 k A)) (Z l+1)
  ⟨0,A0,am,c0,L,L,by simp[upd,AL],by simp[upd,AL],AG,AG,AG,ak,L,br.o,.zero⟩ ?_
 rintro m s σ' ⟨k,A,ida,cA,rfl,hk,h0,q,h9,a5,T,o,bh,P⟩;have a7:=o.B;by_cases ba:k<=Z l
 ·have bb:decide ((k:Int)<=(Z l:Int)):=nn ba
  refine X ?_
  refine Ae (λm s σ'=>∃(i z:Nat) (a:n0) (f:oh),m=Z l-i/\i<=Z l/\s 0=sl C (Z l) cs/\s 2=Y n/\s 9=sl ida (Z A) cA/\s 11=Y ((Z A0+n:Nat):Int)/\s 12=Y k/\s 13=sl z (Z a) f/\s 14=Y i/\W c σ'/\J c σ' z (Z a)/\Z f=Z a*5/\Z a<=i/\V (a=(l.take i).filter (pf l k)/\r AJ a f)) (Z l)
   ⟨0,1,[],[],L,L,by simp[upd,h0],by simp[upd,q],by simp[upd,h9],by simp[upd,a5],by simp[upd,T],AG,AG,o,J.nil _ _,rfl,nk,nk,rfl⟩ ?_
  clear h0 q h9 a5 T o a7 bb;rintro m s σ' ⟨i,z,a,f,rfl,hi,h0,q,h9,a5,T,b2,b1,o,M,bu,bw,t⟩;have a7:=o.B;by_cases aw:i<Z l
  ·obtain⟨y,S⟩:=gq aw;obtain⟨N,jd,jb,r2,bc,bp⟩:=Cv hE S;have Q:V _:=Arh (k:=k) S;clear S;have v:=λc=>xm l cs C y.h.B hE hl hf c;have a8:ov l y.h.B<=100000000:=by
    unfold ov;split
    ·rename_i b4 hd;have:=find?_some hd;have hm:=ME hd;rw[mem_range]at hm;omega
    omega
   cases p:y.o
   ·by_cases j:ov l y.h.B=k
    ·have ax:((ov l y.h.B:Int)==(k:Int))=true:=by simp;omega
     have G:V (a++[y]=(l.take (i+1)).filter (pf l k)/\r AJ (a++[y]) (f++[my y.o,my y.h.nt,O y.h.B,sl N (Z y.h.A) (y.h.A.map O),sl jd (Z y.A) jb])):=⟨by rw[Q.o,if_pos (by simp[pf,p,j]),t.o.1],r.append t.o.2 (r.single ⟨[my y.h.nt,O y.h.B,sl N (Z y.h.A) (y.h.A.map O)],jd,jb,⟨N,rfl⟩,bc,rfl⟩)⟩;rw[p]at G;clear Q t j;generalize ov l y.h.B=st at v ax a8;refine m0 ?_;intro yb ya;refine Xi (v _) ?_;rintro _ _ ⟨rfl,D⟩;(have o:=o.trans D;have M:=J.keep M D);refine m5 ?_;intro yb ya;intro a4 an a2 ab ae ad aa ac;refine X ?_;refine⟨Z l-(i+1),L,i+1,a4,a++[y],f++[my false,my y.h.nt,O y.h.B,sl N (Z y.h.A) (y.h.A.map O),sl jd (Z y.A) jb],?_⟩
     ((repeat' refine Zi ?_ ?_)<;>first|exact Xq|exact G|exact (by rw[AX];exact a2)|exact Xs)
    have ax:((ov l y.h.B:Int)==(k:Int))=false:=by simp;omega
    have G:V (a=(l.take (i+1)).filter (pf l k)/\r AJ a f):=⟨by rw[Q.o,if_neg (by simp[pf,p,j]),EJ];exact t.o.1,t.o.2⟩;clear Q t j;generalize ov l y.h.B=st at v ax a8;refine m0 ?_;intro yb ya;refine Xi (v _) ?_;rintro _ _ ⟨rfl,D⟩;(have o:=o.trans D;have M:=J.keep M D);refine X ?_;refine⟨Z l-(i+1),L,i+1,z,a,f,?_⟩;exact m9 G
   have G:V (a=(l.take (i+1)).filter (pf l k)/\r AJ a f):=⟨by rw[Q.o,if_neg (by simp[pf,p]),EJ];exact t.o.1,t.o.2⟩;clear Q t;refine X ?_;refine⟨Z l-(i+1),L,i+1,z,a,f,?_⟩;exact m9 G
  obtain rfl:i=Z l:=L;let⟨K,bg⟩:=t.o;rw[AS]at K;have ay:=ay (Z A0+n) a f z A cA ida bg L P.o.1 L bh λx B=>by
   rw[K]at B;exact⟨(su B).1,(su B).2.1⟩
  have a6:V (a=pz l k):=K;clear K bg t
  repeat' first|refine Z1 ?_|refine Z8 λyb ya=>?_|refine Z4 ?_;clear ya yb|refine Z2 ?_ ?_<;>intro h b3<;>try exact Xp|refine Z6 ?_;intro a4 an a2 ab ae ad aa ac|(refine Z5 ?_;refine Xi (ay _) ?_;rintro _ _ ⟨E,a1,u,ok,rfl,av,D⟩;(rcases av with⟨rfl,hT,hS⟩|⟨rfl,rfl,hS⟩<;>have g:V _:=hS<;>clear hS))|refine Z3 ?_|exact Zt|apply ya.o;clear ya yb
  ·have bq:=g.o.len;have G:V (H3 E u/\zt l (Z A0+n) A0 (k+1) E):=⟨hT,.succ P.o.2 (by rw[<-a6.o];exact g.o)⟩;clear g a6 hT;refine⟨Z l+1-(k+1),L,k+1,E,a1,u,?_⟩
   exact nf G (o.trans D)
  have R:Θ l F n [] 0 false:=⟨A0,bi.o,.inr ⟨rfl,rfl,k,A,ba,P.o.2,by rw[<-a6.o];exact g.o⟩⟩;exact⟨_,rfl,[],1,[],0,false,rfl,R,(by intro h;cases h),o.trans D⟩
 have bb:decide ((k:Int)<=(Z l:Int))=false:=by simp;omega
 obtain rfl:k=Z l+1:=L;have R:V (Θ l F n A ((Z A:Int)-Z A0) true):=⟨A0,bi.o,.inl ⟨rfl,P.o.2,bh,rfl⟩⟩;have ah:V (H3 A cA):=P.o.1;have ao:(Z A:Int)-(((Z A0+n:Nat):Int)-(n:Int))=(Z A:Int)-Z A0:=L;clear P;refine X ?_
 exact⟨_,rfl,A,ida,cA,_,true,rfl,R.o,λ_=>ah.o⟩
def rz (a:AE):AB:=⟨false,a,[]⟩
def zj (t:Tx)(a:AE):Prop:=t=Bh a/\IT a/\En a/\a.nt=false/\qx a
def G_ (a):Bz (rz a)=Bh a:=by simp[Bz,D1,rz]
def X_ {a}:qx a↔∀t∈a.A,Ab t=false:=by rw[qx,Jz];rw[CX];constructor;intro h t b;have:=h (Aq t) (AN.2 ⟨t,b,rfl⟩);rw[Cb]at this;simpa using this;intro h x c;obtain⟨t,b,rfl⟩:=AN.1 c;rw[Cb];simpa using h t b
def vi {x}(a:x.o=false)(b:x.A=[]):Db x=qx x.h:=by rw[GI,X_];unfold Db zI bC Ma Af;rw[b,a];simp
def Avv {t l m x}(b:Cc 16 (t++[46])= .got l m)(j:l=[x])(a:x.o=false)(f:x.A=[])(d:Db x):zj t x.h:=by
 subst j;obtain⟨c,-,-,g⟩:=Ka _ _ _ _ b;have e:=dY _ _ _ _ b x nk;have i:=g x nk;have k:t=Bz x:=by
  simp only[Cr,DN,flatMap_nil,EJ]at c;exact (append_inj' c rfl).1
 rw[vi a f]at d;refine⟨?_,(e.rule a).1,(i.2.2 a).1,(e.rule a).2.1,d⟩;rw[k];rw[Bz,D1];rw[f,a];simp
def vj {t a}(h:zj t a):Cc 16 (t++[46])= .got [rz a] []:=by
 let⟨d,c,k,f,j⟩:=h
 have:=Te 16 [rz a] (λx g=>by
  have:x=rz a:=nn g;subst this
  exact⟨c.nm,(λe=>by cases e),λ_=>⟨c,f,by simp[rz],λb i=>by cases i⟩⟩) nk
 simp only[Cr,DN,flatMap_nil,EJ,G_]at this;exact d▸this
def Y_ {l m:Tx}(h:m≠[]):(l++m).getLast?=m.getLast?:=by
 rw[getLast?_append];cases e:m.getLast? with
 |none=>cases h (getLast?_eq_none_iff.1 e)
 |some _=>rfl
def ua:∀(s:Tx) (d:Bool) (a:Tx),(a++s=(Cd 46 s d a).flatMap (·++[46]))\/∃e c,Cd 46 s d a=e++[c]/\a++s=e.flatMap (·++[46])++c/\c≠[]
 |[],d,a=>by rw[Cd];by_cases h:a=[];rw[if_pos h];subst h;exact .inl rfl;rw[if_neg h];exact .inr ⟨[],a,rfl,nk,h⟩
 |b::m,d,a=>by
  unfold Cd;simp only[];generalize (if ((b.toNat:Int)==41)=true then false else _)=f;split;rename_i g;have i:b=46:=by
   have:=g.1;simp only[DO]at this;exact UInt8.toNat_inj.1 (by show b.toNat=46;omega)
  subst i;obtain h|⟨e,c,j,k,l⟩:=ua m f [];refine .inl ?_;rw[DN,<-h];simp;refine .inr ⟨a::e,c,by rw[j];rfl,?_,l⟩;rw[DN,CR,CR,<-k];simp;obtain h|⟨e,c,j,k,l⟩:=ua m f (a++[b]);exact .inl (by rw[<-h];simp);exact .inr ⟨e,c,j,by rw[<-k];simp,l⟩
def Apb {s F}(p:s≠[])(o:Z s<=400)(k:Z (Ix s 46)=Z F/\∀(i:Nat) (t:Tx) (a:AE),(Ix s 46)[i]?=some t->F[i]?=some a->zj t a)(g:s.getLast?=some 46):oz 400 s= .got F []:=by
 have q:∀{P:ol} {F:oq},Z P=Z F->(∀(i:Nat) (t:Tx) (a:AE),P[i]?=some t->F[i]?=some a->zj t a)->P=F.map Bh/\∀a∈F,zj (Bh a) a:=λ{P F} l c=>by
  have e:P=F.map Bh:=by refine FL λi=>?_;rw[DC];by_cases f:i<Z P;rw[AK f,AK (show i<Z F by omega)];exact congrArg some (c i _ _ (AK f) (AK (show i<Z F by omega))).1;rw[FD L,FD L];rfl
  refine⟨e,λa b=>?_⟩;let⟨i,f⟩:=CL b;have:=c i (Bh a) a (by rw[e,DC,f];rfl) f;exact this
 let⟨j,e2⟩:=q k.1 k.2;obtain h|⟨x,u,l,c,v⟩:=ua s false [];rw[FE]at h;have h:s=(Ix s 46).flatMap (·++[46]):=h;rw[j,JG]at h;have d:Z F<=400:=by
  have:Z F<=Z s:=by
   rw[h];clear h j e2 k g p o;induction F with
   |nil=>simp
   |cons a F y=>rw[DN,AX];simp only[AX,BQ,CQ];omega
  omega
 have:=xc 400 F (λa b=>⟨(e2 a b).2.1,(e2 a b).2.2.2.1,(e2 a b).2.2.2.2⟩) d;exact h▸this;exfalso;have m:u∈Ix s 46:=by show u∈Cd 46 s false [];rw[l];simp
 rw[j]at m;let⟨a,b,e⟩:=AN.1 m;have n:=Apc (e2 a b).2.2.1;rw[FE]at c;rw[c,Y_ v]at g;rw[e]at n;exact n (mem_of_getLast? g)
def vl {s F n}(h:oz 400 s= .got F n):Ix s 46=F.map Bh/\(∀a∈F,zj (Bh a) a)/\(s≠[]->s.getLast?=some 46):=by
 obtain⟨-,-,g,d⟩:=rh _ _ _ _ h;have j:=vg _ _ _ _ h;have e:s=Cr (F.map rz):=by
  rw[g];rw[Cr];rw[JG];congr 1;funext a;rw[G_]
 refine⟨?_,λa c=>⟨rfl,j a c,(d a c).1,(d a c).2.1,(d a c).2.2⟩,λi=>?_⟩
 rw[e,O3 _ λx l=>by
  obtain⟨a,c,rfl⟩:=AN.1 l
  exact⟨(d a c).1.1,(λe=>by cases e),λ_=>⟨(d a c).1,(d a c).2.1,by simp[rz],λb m=>by cases m⟩⟩,BH]
 exact CG λa _=>G_ a;rw[g]at i⊢;clear h g d j e;induction F with
 |nil=>exact absurd rfl i
 |cons a F k=>
  rw[DN];by_cases f:F.flatMap (λa=>Bh a++[46])=[];rw[f];simp;rw[Y_ f];exact k f
def r5 (s:Tx)(A:oq)(ok:Bool):Prop:=(ok=true/\oz 400 s= .got A [])\/(ok=false/\∃e,oz 400 s= .bad e)
def Z_ (s):(∃e,oz 400 s= .bad e)\/∃F,oz 400 s= .got F []:=by
 cases h:oz 400 s with
 |bad e=>exact .inl ⟨e,rfl⟩
 |got F a=>exact .inr ⟨F,by rw[(rh _ _ _ _ h).1]⟩
def Av3 {s t}(b:t∈Ix s 46)(d:∀a,¬zj t a):∃e,oz 400 s= .bad e:=by obtain h|⟨F,h⟩:=Z_ s;exact h;obtain⟨c,g,-⟩:=vl h;rw[c]at b;obtain⟨a,f,rfl⟩:=AN.1 b;cases (d a) (g a f)
def xx (s0)(hs:Z s0<=400)(n):ni 65 [O s0] n λac σ'=>∃A ida cA ok,ac=tp [sl ida (Z A) cA,my ok]/\r5 s0 A ok/\r Bf A cA/\W n σ':=by
 have cg:({data:=#[]}:ByteArray)=bs []:=rfl;have bw:({data:=#[46]}:ByteArray)=bs [46]:=rfl;by_cases h0:s0=[]
 ·subst h0;have k:V (r5 [] [] true):=.inl ⟨rfl,so 400⟩;have hb:(([]:Tx)==[]):=rfl;clear hs;refine wl func65 ?_
  refine mu ?_;exact⟨_,rfl,[],1,[],true,rfl,k.o,rfl,W.refl _⟩
 have bo:(s0==[])=false:=nn h0;have a5:=λn=>Sd s0 46 L n;have bv:=Qo (s:=s0) (c:=46);have HP:V (∀t∈Ix s0 46,Z t<=Z s0):=λt ht=>L6 ht;have bc:V (∀t∈Ix s0 46,(∀a,¬zj t a)->r5 s0 [] false):=λt ht hn=>.inr ⟨rfl,Av3 ht hn⟩
 have bm:V (∀a1:oq,Z (Ix s0 46)=Z a1->(∀(i:Nat) (t:Tx) (a:AE),(Ix s0 46)[i]?=some t->a1[i]?=some a->zj t a)->(s0.getLast?=some 46->r5 s0 a1 true)/\(s0.getLast?≠some 46->r5 s0 a1 false)):=λa1 P q=>⟨λh=>.inl ⟨rfl,Apb h0 hs ⟨P,q⟩ h⟩,λh=>.inr ⟨rfl,by
  obtain aa|⟨F',aa⟩:=Z_ s0
  ·exact aa
  exact absurd ((vl aa).2.2 h0) h⟩⟩
 generalize Ix s0 46=C at a5 bv HP bc bm;refine wl func65 ?_
 repeat' first|refine Z1 ?_|refine Z8 λyb ya=>?_|refine Z4 ?_;clear ya yb|refine Z2 ?_ ?_<;>intro h E<;>try exact Xp|refine Z6 ?_;intro d f D m I B G a0|refine Z5 ?_;refine Xi (a5 _) ?_;rintro _ _ ⟨ae,rfl,ad⟩|refine Z7 ?_|exact Zt|apply ya.o;clear ya yb
 refine Ae (λab s σ'=>∃(i a2:Nat) (A:oq) (y:oh),ab=Z C-i/\i<=Z C/\s 0=O s0/\s 4=sl a2 i y/\s 5=lw ae C/\s 6=Y i/\W n σ'/\J n σ' a2 i/\Z y=i*3/\V (Z A=i/\r Bf A y/\∀(j:Nat) (t:Tx) (a:AE),C[j]?=some t->A[j]?=some a->zj t a)) (Z C)
  ⟨0,1,[],[],L,L,by simp[upd,AL],AG,AG,AG,ad,J.nil _ _,rfl,rfl,rfl,λj t a P q=>by simp at q⟩ ?_
 clear a5;rintro ab s σ' ⟨i,a2,A,y,rfl,hi,h0,h4,h5,h6,g,hO,b9,p⟩;have b8:=g.B;by_cases bh:i<Z C
 ·have am:=AK bh;have bu:=A1 bh;have hm:=AR bh;generalize C[i]=t at am bu hm;have cd:=HP.o t hm;have M:=λn=>X4 (t++[46]) (by simp;omega) n;cases b:Cc 16 (t++[46])with
  |bad e=>
   have T:=Hb (t++[46]);rw[b]at T;have k:V (r5 s0 [] false):=bc.o t hm λa h=>by rw[vj h]at b;cases b
   rw[T]at M;have bz:((((Z (t++[46])-Z e:Nat):Int)) != -1)=true:=by first|(simp;done)|(simp;omega)
   clear T b p;generalize (Z (t++[46])-Z e)=pv at M bz
   repeat' first|refine Z1 ?_|refine Z8 λyb ya=>?_|refine Z4 ?_;clear ya yb|refine Z2 ?_ ?_<;>intro h E<;>try exact Xp|refine Z6 ?_;intro d f D m I B G a0|refine Z5 ?_;refine Xi (M _) ?_;rintro _ _ ⟨rfl,u⟩|refine Z7 ?_|exact Zt|apply ya.o;clear ya yb
   exact⟨_,rfl,[],1,[],false,rfl,k.o,rfl,g.trans u⟩
  |got a3 ac=>
   have T:=Hb (t++[46]);rw[b]at T;rw[T]at M;let⟨g1,g2,g3,g4⟩:=Ep (by simp;omega) b;have z:=λn=>L2 (t++[46]) (by simp;omega) (ny g1.1) g1.2 n;rw[g2]at z;have af:((-1:Int) != -1)=false:=rfl;have HF:V (∀x,a3=[x]->x.o=false->x.A=[]->Db x->zj t x.h):=λx P q h3 h4=>Avv b P q h3 h4;have HX:V (∀a,zj t a->a3=[rz a]):=λa h=>by rw[vj h]at b;cases b;rfl
   have bf:V (∀x∈a3,Dc x):=g4;clear T b g1 g2;by_cases bi:Z a3=1
   ·obtain⟨x,rfl⟩:=length_eq_one_iff.1 bi;have a9:x.fits:=by
     have hw:=bf.o x nk;cases ho:x.o with
     |true=>
      obtain⟨w1,w2,w3⟩:=hw.2.1 ho;exact⟨by rw[w3];simp,by rw[w2];simp,λa ha=>by rw[w3]at ha;cases ha⟩
     |false=>
      obtain⟨w1,w2,w3,w4⟩:=hw.2.2 ho;exact⟨L,by have:=w1.2.2.1;omega,λa ha=>by have:=(w4 a ha).2.2.1;omega⟩
    have b2:(((1:Nat):Int) !=1)=false:=rfl;by_cases N:x.o=false/\x.A=[]/\Db x=true
    ·obtain⟨l,Q,be⟩:=N;have bp:=HF.o x rfl l Q be;have S:=λc (hc:AJ x c) n=>dJ x c hc a9 n;rw[be]at S
     have HN:V (∀o,Z (A++[x.h])=i+1/\r Bf (A++[x.h]) (y++[my x.h.nt,O x.h.B,lw o x.h.A])/\∀(j:Nat) (t:Tx) (a:AE),C[j]?=some t->(A++[x.h])[j]?=some a->zj t a):=λo=>⟨by rw[AX,p.o.1];rfl,p.o.2.1.append (r.single ⟨o,rfl⟩),λj t' a P q=>by
      have b6:=p.o.1;rcases KE j (Z A) with h|h|h
      ·rw[MB h]at q;exact p.o.2.2 j t' a P q
      ·subst h;rw[JY (AU _)]at q;simp at q;rw[b6,am]at P;cases P;rw[<-q];exact bp
      rw[FD (by simp;omega)]at q
      cases q⟩
     clear p bp HF HX bf am
     repeat' first|refine Z1 ?_|refine Z8 λyb ya=>?_|refine Z4 ?_;clear ya yb|refine Z2 ?_ ?_<;>intro h E<;>try exact Xp|refine Z6 ?_;intro d f D m I B G a0|(refine Z5 ?_;first|(refine Xi (M _) ?_;rintro _ _ ⟨rfl,u⟩)|(refine Xi (z _) ?_;rintro _ _ ⟨a4,a6,rfl,v,K⟩;(obtain⟨o,id,a7,r9,ba,R⟩:=Cv v (show [x][0]?=some x from rfl);have az:=r.length Cf v;have U:=S _ (AJ.of (ih:=o) (id:=id) ba);unfold A4 ko at U;simp only[l,Q]at R U))|(refine Xi (U _) ?_;rintro _ _ ⟨rfl,bg⟩;(have cj:=((g.trans u).trans K).trans bg;have ci:=J.keep (J.keep (J.keep hO u) K) bg)))|refine Z7 ?_|exact Zt|apply ya.o;clear ya yb
     refine⟨Z C-(i+1),L,i+1,d,A++[x.h],y++[my x.h.nt,O x.h.B,lw o x.h.A],?_⟩;have b7:V _:=HN.o o;exact m9 b7
    have k:V (r5 s0 [] false):=bc.o t hm λa h=>by
     have e:=HX.o a h;have e:x=rz a:=nn e;subst e;exact N ⟨rfl,rfl,by rw[vi rfl rfl];exact h.2.2.2.2⟩
    have S:=λc (hc:AJ x c) n=>dJ x c hc a9 n;clear p HF HX bf am;cases l:x.o with
    |true=>
     clear N S
     repeat' first|refine Z1 ?_|refine Z8 λyb ya=>?_|refine Z4 ?_;clear ya yb|refine Z2 ?_ ?_<;>intro h E<;>try exact Xp|refine Z6 ?_;intro d f D m I B G a0|(refine Z5 ?_;first|(refine Xi (M _) ?_;rintro _ _ ⟨rfl,u⟩)|(refine Xi (z _) ?_;rintro _ _ ⟨a4,a6,rfl,v,K⟩;(obtain⟨o,id,a7,r9,ba,R⟩:=Cv v (show [x][0]?=some x from rfl);have az:=r.length Cf v;simp only[l]at R)))|refine Z7 ?_|exact Zt|apply ya.o;clear ya yb
     exact⟨_,rfl,[],1,[],false,rfl,k.o,rfl,(g.trans u).trans K⟩
    |false=>
     by_cases Q:x.A=[]
     ·have be:Db x=false:=by
       cases h:Db x with
       |false=>rfl
       |true=>exact absurd ⟨l,Q,h⟩ N
      rw[be]at S;clear N
      repeat' first|refine Z1 ?_|refine Z8 λyb ya=>?_|refine Z4 ?_;clear ya yb|refine Z2 ?_ ?_<;>intro h E<;>try exact Xp|refine Z6 ?_;intro d f D m I B G a0|(refine Z5 ?_;first|(refine Xi (M _) ?_;rintro _ _ ⟨rfl,u⟩)|(refine Xi (z _) ?_;rintro _ _ ⟨a4,a6,rfl,v,K⟩;(obtain⟨o,id,a7,r9,ba,R⟩:=Cv v (show [x][0]?=some x from rfl);have az:=r.length Cf v;have U:=S _ (AJ.of (ih:=o) (id:=id) ba);unfold A4 ko at U;simp only[l,Q]at R U))|(refine Xi (U _) ?_;rintro _ _ ⟨rfl,bg⟩))|refine Z7 ?_|exact Zt|apply ya.o;clear ya yb
      exact⟨_,rfl,[],1,[],false,rfl,k.o,rfl,((g.trans u).trans K).trans bg⟩
     have ch:decide ((Z x.A:Int)>0)=true:=by simp;exact length_pos_iff.2 Q
     have b0:decide ((0:Int)<(Z x.A:Int))=true:=by simp;exact length_pos_iff.2 Q
     clear N S Q
     repeat' first|refine Z1 ?_|refine Z8 λyb ya=>?_|refine Z4 ?_;clear ya yb|refine Z2 ?_ ?_<;>intro h E<;>try exact Xp|refine Z6 ?_;intro d f D m I B G a0|(refine Z5 ?_;first|(refine Xi (M _) ?_;rintro _ _ ⟨rfl,u⟩)|(refine Xi (z _) ?_;rintro _ _ ⟨a4,a6,rfl,v,K⟩;(obtain⟨o,id,a7,r9,ba,R⟩:=Cv v (show [x][0]?=some x from rfl);have az:=r.length Cf v;simp only[l]at R)))|refine Z7 ?_|exact Zt|apply ya.o;clear ya yb
     exact⟨_,rfl,[],1,[],false,rfl,k.o,rfl,(g.trans u).trans K⟩
   have k:V (r5 s0 [] false):=bc.o t hm λa h=>by
    rw[HX.o a h]at bi;exact bi rfl
   have b2:((Z a3:Int) !=1):=by simp;omega
   clear p HF HX bf am
   repeat' first|refine Z1 ?_|refine Z8 λyb ya=>?_|refine Z4 ?_;clear ya yb|refine Z2 ?_ ?_<;>intro h E<;>try exact Xp|refine Z6 ?_;intro d f D m I B G a0|(refine Z5 ?_;first|(refine Xi (M _) ?_;rintro _ _ ⟨rfl,u⟩)|(refine Xi (z _) ?_;rintro _ _ ⟨a4,a6,rfl,v,K⟩))|refine Z7 ?_|exact Zt|apply ya.o;clear ya yb
   exact⟨_,rfl,[],1,[],false,rfl,k.o,rfl,(g.trans u).trans K⟩
 have cf:i=Z C:=L;have a8:=bm.o A (ny p.o.1) p.o.2.2;have bq:V (Z A=Z C):=by have:=p.o.1;rw[V];omega
 have ce:0<Z s0:=length_pos_iff.2 (by intro e;rw[e]at bo;cases bo);have bn:=AK (show Z s0-1<Z s0 by omega);have ah:s0.getLast?=s0[Z s0-1]?:=getLast?_eq_getElem?;rw[bn]at ah;generalize s0[Z s0-1]=lb at bn ah;rw[ah]at a8;have HE:V (r Bf A y):=p.o.2.1;have br:((Z s0:Int)-1)=((Z s0-1:Nat):Int):=L;clear p bc bm HP ah;by_cases F:lb=46
 ·have k:V (r5 s0 A true):=a8.1 (by rw[F]);have b1:((lb.toNat:Int)==46):=by rw[F];rfl
  clear a8 F;refine mu ?_;refine Ax Ag (λ_=>True) [] [0,1,2,3,4,5,6,7,8] [] AH (λ_ _ _ h=>h) ?_;intro yb ya;refine Z7 ?_;refine mu ?_;have bb:=bq.o
  exact⟨_,rfl,A,a2,y,true,by rw[bb],k.o,HE.o⟩
 have k:V (r5 s0 A false):=a8.2 (nn F);have b1:((lb.toNat:Int)==46)=false:=by
  have:¬lb.toNat=46:=λe=>F (UInt8.toNat_inj.1 e);simp;omega
 clear a8 F;refine mu ?_;refine Ax Ag (λ_=>True) [] [0,1,2,3,4,5,6,7,8] [] AH (λ_ _ _ h=>h) ?_;intro yb ya;refine Z7 ?_;refine mu ?_;have bb:=bq.o
 exact⟨_,rfl,A,a2,y,false,by rw[bb],k.o,HE.o⟩
def Au5 {l}(f:ξ l)(g:∀x∈l,x.o=false->∀a,a=x.h\/a∈x.A->∀t∈a.A,UT t)(F):∃M,zp l (rk F) M:=by
 let N:ol:=l.flatMap (λx=>x.h.B::x.A.map (·.B))++F.map (·.B);have m:∀x∈l,x.h.B∈N/\∀a∈x.A,a.B∈N:=λx d=>⟨GK _ (EX.2 ⟨x,d,nk⟩),λa b=>GK _ (EX.2 ⟨x,d,by simp only[BD,AN];exact .inr ⟨a,b,rfl⟩⟩)⟩;have c:∀a∈F,a.B∈N:=λa b=>LI _ (AN.2 ⟨a,b,rfl⟩);have h:=q_ f m g (B:=λk t=>∃a∈F,k=N.idxOf a.B/\t=C4 (Eg [] a)) λk t ⟨a,b,e,_⟩=>⟨a.B,c a b,e⟩;have e:zu N (λk t=>∃a∈F,k=N.idxOf a.B/\t=C4 (Eg [] a))=rk F:=by
  funext p t;refine propext ⟨?_,?_⟩;rintro⟨j,a,b,i,e2⟩;exact⟨a,b,(E9 j (c a b) i).symm,e2⟩;rintro⟨a,b,rfl,e2⟩;exact⟨c a b,a,b,rfl,e2⟩
 rw[e]at h;exact⟨_,h⟩
def FG.saf {x}(h:FG x)(k:x.o=false):tD false x:=λv n e=>by
 have i:=h.safe;rw[Db]at i;simp only[FJ,EV]at i;have c:∀b∈Af x,v∈b.A->∃a∈x.A,Pt false a/\v∈a.A:=λb o p=>by
  have d:=i b o;rw[zI]at d;simp only[JE,EV]at d;have f:bC x v=false:=nn (d v p);rw[bC]at f;rw[n,FV]at f;have j:Ma x v:=nn f;rw[Ma]at j;simp only[CU,BM,DO]at j;obtain⟨a,g,u,m,l,rfl⟩:=j;exact⟨a,g,by simpa[Pt]using l,m⟩
 obtain e|⟨a,g,-,q⟩:=e;exact c x.h (Ap (.inl ⟨k,rfl⟩)) e;exact c a (Ap (.inr g)) q
def a_ {c0 a}(b:a<=600)(d:c0<=1):∀p,Hr c0 a p<=700^p
 |0=>by simp[Hr];omega
 |p+1=>by have c:=a_ b d p;rw[Hr];have f:a*Hr c0 a p<=600*700^p:=Nat.mul_le_mul b c;have e:1<=700^p:=Nat.one_le_pow _ _ L;rw[Nat.pow_succ];omega
def b_ {a}(b:a<=600):∀p,Hr 0 a (p+1)<=700^p
 |0=>by simp[Hr]
 |p+1=>by have c:=b_ b p;rw[Hr];have d:a*Hr 0 a (p+1)<=600*700^p:=Nat.mul_le_mul b c;have e:1<=700^p:=Nat.one_le_pow _ _ L;rw[Nat.pow_succ];omega
def FG.ruleF {x}(h:FG x)(b:x.o=false):iM false 600 x:=by
 have m:=(h.w.2.2 b).2.2.1;have c:x.A.countP (Pt false)<=Z x.A:=countP_le_length;have f:∀q,q<=4->(700:Nat)^q<=240100000000:=λq k=>by
  have:(700:Nat)^q<=700^4:=Nat.pow_le_pow_right L k;omega
 by_cases g:∀a∈x.A,Pt false a=true;refine⟨0,x.A.countP (Pt false),⟨h.cl b,L,h.saf b,rfl,.inr g⟩,λa d=>?_⟩;generalize x.A.countP (Pt false)=p at c
 match p,c with
 |0,_=>simp[Hr]
 |p+1,c=>
  have i:=b_ d p;have j:=f p L;omega
 have l:x.A.countP (Pt false)<Z x.A:=by refine Nat.lt_of_le_of_ne c λe=>g ?_;exact countP_eq_length.1 e
 refine⟨1,x.A.countP (Pt false),⟨h.cl b,L,h.saf b,rfl,.inl rfl⟩,λa d=>?_⟩;have i:=a_ (c0:=1) d L (x.A.countP (Pt false));have j:=f (x.A.countP (Pt false)) L;omega
section
variable {t f:Tx} {n:Int} {l:n0} {F:oq} (hK:χ t f n l F)
include hK
theorem uc {x}(a:x∈l):FG x:=P4 hK.ck x (by rw[(Ep (ny hK.tl) hK.par).2.1];exact a)
theorem c_:M_ (Ju (l.flatMap Af++F)) l F:=by
 have k:=Arm hK;refine⟨V_ hK,λx e d a c=>?_,λx e d=>((uc hK e).w.2.2 d).2.1,λx e d=>(uc hK e).saf d,λa c=>?_⟩;have i:=uc hK e;let⟨o,u,v,p⟩:=i.w.2.2 d;have n:En a:=by
  obtain rfl|c:=c;exact o;exact p a c
 have q:short a:=by obtain rfl|c:=c;exact i.sh.1;exact i.sh.2 a c
 have f:=k a (GK _ (EX.2 ⟨x,e,by
  obtain rfl|c:=c;exact Ap (.inl ⟨d,rfl⟩)
  exact Ap (.inr c)⟩))
 exact⟨v6 hK.ck hK.par x e d a c,n.2.2.1,f.2,f.1,q.1⟩;have j:=vg _ _ _ _ hK.fac a c;let⟨m,s,t⟩:=(rh _ _ _ _ hK.fac).2.2.2 a c;have f:=k a (LI _ c);refine⟨s,j.few,f.2,f.1,ny j.nm.2,λw g=>⟨j7 (tf (T:=DT) mK _ _ _ _ hK.fac a c w g) (m.2.2.2 w g) ?_ (tf (T:=VT) (λ_ _ _ h=>UQ h) _ _ _ _ hK.fac a c w g),X_.1 t w g⟩⟩;obtain⟨b,rfl,-⟩|rfl|⟨b,z,rfl,-,-,y⟩:=j.tm w g;simp;simp;simp;omega
theorem Arl {cF}(f:r Bf F cF):H3 F cF/\Z F<=400:=by have e:=(rh _ _ _ _ hK.fac).2.1;have c:=c_ hK;refine⟨⟨f,L,λa b t d=>((c.fac a b).tm t d).2,λa b=>vU ((rh _ _ _ _ hK.fac).2.2.2 a b).1 ⟨(c.fac a b).pl,ny ((c.fac a b).le),λt d=>((c.fac a b).tm t d).1.2.2.1⟩⟩,e⟩
theorem Asb {A k ok}{N:Nat}(B:(N:Int)=n)(m:Θ l F N A k ok):(ok=false->υ l F n [] 0 9)/\(ok=true->υ l F n (sy (λp=>pg (qe (A.map nj) p)) l) k 0/\(∀a∈A,qg (Ju (l.flatMap Af++F)) a)/\A.Nodup/\Z A<=1000):=by have b:=c_ hK;let⟨M,c⟩:=Au5 b.rg (λx o j a q=>(b.ut x o j a q).1) F;let⟨A0,i,h⟩:=m;let⟨g,f⟩:=Amu b c i;have t:=i.len;have z:=(rh _ _ _ _ hK.fac).2.1;have v:=hK.n1;obtain⟨rfl,d,u,rfl⟩|⟨rfl,rfl,s,A1,G,d,D⟩:=h;have e:=d.stg b c g;refine⟨λh=>(by cases h),λ_=>⟨⟨M,A0.map nj,A.map nj,c,f,.inr ⟨Ara b c e,?_,?_,rfl,rfl⟩⟩,e.gf,e.nd,L⟩⟩;rw[BV,BV];omega;rw[BV,BV];let⟨C,E,y⟩:=Au4 b c (d.stg b c g) D;refine⟨λ_=>⟨M,A0.map nj,C,c,f,.inl ⟨E,?_,rfl,rfl,rfl⟩⟩,λh=>(by cases h)⟩;rw[BV];omega
end
def Asf {ar A}(o:∀a∈A,qg ar a)(p):Z ((pg (qe (A.map nj) p)).flatMap (pn p))<=Z A*10000:=by
 have c:∀s:List Ck,(∀t∈s,Z (pn p t)<=10000)->Z (s.flatMap (pn p))<=Z s*10000:=λs=>by
  induction s with
  |nil=>intro _;simp
  |cons t s j=>
   intro h;have i:=h t nk;have f:=j λu k=>h u (ns k);rw[DN,AX,BQ];omega
 have i:=c (pg (qe (A.map nj) p)) λt d=>by have:=δ.1 ((si _).subset d);let⟨a,n,e⟩:=AN.1 this;let⟨l,e2⟩:=Prod.mk.inj e;have b:=o a n;have g:=x_ b b.ps;rw[l]at g;have m:(nj a).2=t:=e2;rw[<-m,<-g];have f:=Vo [] a.A 0 λt d=>(b.tm t d).1.2.2.1;have q:=b.le;have v:=b.pl;rw[Ec];rw[if_neg (by simp[b.nt])];simp only[AX,CQ,BQ];omega
 have f:=(si (qe (A.map nj) p)).length_eq;have q:Z (qe (A.map nj) p)<=Z A:=by rw[qe];rw[BV];have:=IS (λy:rm=>y.1==p) (A.map nj);rw[BV]at this;exact this
 have:=GW 10000 (show Z (pg (qe (A.map nj) p))<=Z A by omega);omega
def Asd {l f F}(h:oz 400 f= .got F []):pd l f=qu l F:=by
 rw[pd,qu];rw[h];have e:(λa:AE=>ρ l a.B)=λa=>F7 l a.B:=funext λa=>by
  rw[ρ,F7];congr 1;funext x;rw[P3];rw[GI];simp
 rw[e]
def Aiz {told p}:Bv told p<0↔p∉told:=by rw[Bv];split;rename_i h;simp[h];rename_i h;simp[h]
def Amm {T}{l:n0}{i x}(h:l[i]?=some x):(l.take (i+1)).foldl (qy T) ([],[])=qy T ((l.take i).foldl (qy T) ([],[])) x:=by rw[AT,h,BN,foldl_append];rfl
def Ajq (t f n u):ni 36 [O t,O f,Y n] u λab u'=>∃x k e,ab=tp [O x,Y k,Y e]/\pq t f n x k e/\W u u':=by
 have cm:({data:=#[]}:ByteArray)=bs []:=rfl;by_cases S:600<Z t
 ·have ce:decide ((Z t:Int)>600)=true:=by rw[CV];omega
  have j:V (pq t f n [] 0 1):=by rw[V,pq,if_pos (.inl S)];exact⟨rfl,rfl,rfl⟩
  clear S;refine Z9 109 [.tmp 6,.tmp 7,.tmp 8] func36 ?_;refine mu ?_
  first|exact⟨_,rfl,[],0,1,rfl,j.o,W.refl _⟩|exact⟨_,rfl,[],0,1,rfl,j.o⟩
 have ce:decide ((Z t:Int)>600)=false:=by simp;omega
 by_cases hM:400<Z f
 ·have cd:decide ((Z f:Int)>400)=true:=by rw[CV];omega
  have j:V (pq t f n [] 0 1):=by rw[V,pq,if_pos (.inr hM)];exact⟨rfl,rfl,rfl⟩
  clear S hM;refine Z9 109 [.tmp 6,.tmp 7,.tmp 8] func36 ?_;refine mu ?_
  first|exact⟨_,rfl,[],0,1,rfl,j.o,W.refl _⟩|exact⟨_,rfl,[],0,1,rfl,j.o⟩
 have cd:decide ((Z f:Int)>400)=false:=by simp;omega
 have hC:=λu=>T6 t u;by_cases G:(Av t).1=0
 case neg=>
  have b6:((Av t).1 !=0)=true:=nn G;have j:V (pq t f n [] 0 (Av t).1):=by rw[V,pq,if_neg L,if_pos G];exact⟨rfl,rfl,rfl⟩
  clear S hM G;refine Z9 109 [.tmp 6,.tmp 7,.tmp 8] func36 ?_
  repeat' first|refine Z1 ?_|refine Z8 λyb ya=>?_|refine Z4 ?_;clear ya yb|refine Z2 ?_ ?_<;>intro h C<;>try exact Xp|refine Z6 ?_;intro g B v q E z D y|refine Z5 ?_;refine Xi (hC _) ?_;rintro _ _ ⟨rfl,M⟩|refine Z7 ?_|exact Zt|apply ya.o;clear ya yb
  first|exact⟨_,rfl,[],0,_,rfl,j.o,M⟩|exact⟨_,rfl,[],0,_,rfl,j.o⟩
 have b6:((Av t).1 !=0)=false:=nn G;by_cases hn:n<0\/200<n
 ·have j:V (pq t f n [] 0 6):=by rw[V,pq,if_neg L,if_neg (by simp[G]),if_pos hn];exact⟨rfl,rfl,rfl⟩
  clear S hM G;by_cases h0:n<0
  ·have d1:decide (n<0)=true:=nn h0
   clear hn h0;refine Z9 109 [.tmp 6,.tmp 7,.tmp 8] func36 ?_
   repeat' first|refine Z1 ?_|refine Z8 λyb ya=>?_|refine Z4 ?_;clear ya yb|refine Z2 ?_ ?_<;>intro h C<;>try exact Xp|refine Z6 ?_;intro g B v q E z D y|refine Z5 ?_;refine Xi (hC _) ?_;rintro _ _ ⟨rfl,M⟩|refine Z7 ?_|exact Zt|apply ya.o;clear ya yb
   first|exact⟨_,rfl,[],0,6,rfl,j.o,M⟩|exact⟨_,rfl,[],0,6,rfl,j.o⟩
  have d1:decide (n<0)=false:=nn h0;have d2:decide (n>200)=true:=by rw[CV];omega
  clear hn h0;refine Z9 109 [.tmp 6,.tmp 7,.tmp 8] func36 ?_
  repeat' first|refine Z1 ?_|refine Z8 λyb ya=>?_|refine Z4 ?_;clear ya yb|refine Z2 ?_ ?_<;>intro h C<;>try exact Xp|refine Z6 ?_;intro g B v q E z D y|refine Z5 ?_;refine Xi (hC _) ?_;rintro _ _ ⟨rfl,M⟩|refine Z7 ?_|exact Zt|apply ya.o;clear ya yb
  first|exact⟨_,rfl,[],0,6,rfl,j.o,M⟩|exact⟨_,rfl,[],0,6,rfl,j.o⟩
 have d1:decide (n<0)=false:=by simp;omega
 have d2:decide (n>200)=false:=by simp;omega
 obtain⟨-,l,ab,ai⟩:=H9 G;have ah:ab=[]:=(Ka _ _ _ _ ai).2.1;subst ah;obtain⟨g1,g2,g3,g4⟩:=Ep L ai;have bu:=λu=>xx f L u;have hI:=λu=>L2 t L (by have:=g1.1;omega) g1.2 u;rw[g2]at hI;have P:V (∀x k e,(if pd l f≠0 then x=[]/\k=0/\e=pd l f else∃F,oz 400 f= .got F []/\υ l F n x k e)->pq t f n x k e):=λx k e h=>by
  rw[pq,if_neg L,if_neg (by simp[G]),if_neg hn];exact⟨l,ai,h⟩
 have HF:V (∀x∈l,FG x):=λx hx=>P4 G x (by rw[g2];exact hx);have HK:V (∀F,oz 400 f= .got F []->pd l f=0->χ t f n l F):=λF h1 h2=>⟨L,L,G,L,L,ai,h1,h2⟩;have ax:∀x∈l,x.fits:=λx hx=>by
  have hw:=g4 x hx;cases ho:x.o with
  |true=>
   obtain⟨w1,w2,w3⟩:=hw.2.1 ho;exact⟨by rw[w3];simp,by rw[w2];simp,λa K=>by rw[w3]at K;cases K⟩
  |false=>
   obtain⟨w1,w2,w3,w4⟩:=hw.2.2 ho;exact⟨L,by have:=w1.2.2.1;omega,λa K=>by have:=(w4 a K).2.2.1;omega⟩
 have bw:∀x∈l,x.o=false->iM false 600 x:=λx hx ho=>(HF.o x hx).ruleF ho;obtain⟨a4,hN⟩:∃a4:Nat,(a4:Int)=n:=⟨n.toNat,L⟩;have b9:a4<=200:=L;clear g1 g2 g4 ai G S hM HF;refine Z9 109 [.tmp 6,.tmp 7,.tmp 8] func36 ?_
 repeat' first|refine Z1 ?_|refine Z8 λyb ya=>?_|refine Z4 ?_;clear ya yb|refine Z2 ?_ ?_<;>intro h C<;>try exact Xp|refine Z6 ?_;intro g B v q E z D y|refine Z5 ?_;refine Xi (hC _) ?_;rintro _ _ ⟨rfl,M⟩|refine Z7 ?_|exact Zt|apply ya.o;clear ya yb
 refine AF.mono (bu _) ?_;rintro _ u2 ⟨F,ae,cF,ok,rfl,b2,bh,a5⟩;have aa:=M.trans a5;have bi:=aa.B;clear bu hC M a5;rcases b2 with⟨rfl,I⟩|⟨rfl,e,I⟩
 case inr=>
  have j:V (pq t f n [] 0 7):=P.o [] 0 7 (by
   have:pd l f=7:=by unfold pd;rw[I]
   rw[if_pos (by rw[this];decide)]
   exact⟨rfl,rfl,this.symm⟩)
  clear P HK I;refine Z7 ?_;refine mu ?_
  first|exact⟨_,rfl,[],0,7,rfl,j.o,aa⟩|exact⟨_,rfl,[],0,7,rfl,j.o⟩
 have Q:=Asd (l:=l) I;have cg:Z F<=400:=(rh _ _ _ _ I).2.1;have az:=λN o b u=>xu l N o F cF ae b g3 ax bh L u;by_cases a1:qu l F=0
 case neg=>
  have bb:(qu l F !=0)=true:=nn a1;have j:V (pq t f n [] 0 (qu l F)):=P.o [] 0 _ (by rw[if_pos (by rw[Q];exact a1)];exact⟨rfl,rfl,Q.symm⟩);clear P HK I Q a1;generalize qu l F=mi at az bb j;refine Z7 ?_
  repeat' first|refine Z1 ?_|refine Z8 λyb ya=>?_|refine Z4 ?_;clear ya yb|refine Z2 ?_ ?_<;>intro h C<;>try exact Xp|refine Z6 ?_;intro g B v q E z D y|(refine Z5 ?_;first|(refine Xi (hI _) ?_;rintro _ _ ⟨o,N,rfl,b,a9⟩;(have b7:=r.length Cf b;have am:=az N o b))|(refine Xi (am _) ?_;rintro _ _ ⟨rfl,a8⟩))|refine Z7 ?_|exact Zt|apply ya.o;clear ya yb
  first|exact⟨_,rfl,[],0,mi,rfl,j.o,(aa.trans a9).trans a8⟩|exact⟨_,rfl,[],0,mi,rfl,j.o⟩
 have bb:(qu l F !=0)=false:=nn a1;rw[a1]at az Q;have bb:((0:Int) !=0)=false:=rfl;have bg:=HK.o F I Q;have be:=λN o b u=>xw l N o F cF ae a4 b g3 ax (Arl bg bh).1 cg b9 bw u;rw[hN]at be;have HR:V (∀{A:oq} {k:Int} {ok:Bool},Θ l F a4 A k ok->(ok=false->pq t f n [] 0 9)/\(ok=true->pq t f n (sy (λp=>pg (qe (A.map nj) p)) l) k 0/\(∀a∈A,qg (Ju (l.flatMap Af++F)) a)/\A.Nodup/\Z A<=1000)):=λ{A k ok} h=>by
  obtain⟨h1,h2⟩:=Asb bg hN h;have hz:¬pd l f≠0:=by rw[Q];simp
  refine⟨λe=>P.o _ _ _ (by rw[if_neg hz];exact⟨F,I,h1 e⟩),λe=>?_⟩;obtain⟨h3,h4⟩:=h2 e;exact⟨P.o _ _ _ (by rw[if_neg hz];exact⟨F,I,h3⟩),h4⟩
 clear P HK I Q a1 bg bh;generalize Ju (l.flatMap Af++F)=ar at HR;refine Z7 ?_
 repeat' first|refine Z1 ?_|refine Z8 λyb ya=>?_|refine Z4 ?_;clear ya yb|refine Z2 ?_ ?_<;>intro h C<;>try exact Xp|refine Z6 ?_;intro g B v q E z D y|(refine Z5 ?_;first|(refine Xi (hI _) ?_;rintro _ _ ⟨o,N,rfl,b,a9⟩;(have b7:=r.length Cf b;have am:=az N o b;have ay:=be N o b;clear az be hI))|(refine Xi (am _) ?_;rintro _ _ ⟨rfl,a8⟩;(clear am)))|refine Z7 ?_|exact Zt|apply ya.o;clear ya yb
 refine AF.mono (ay _) ?_;rintro _ u5 ⟨A,ad,cA,k,ok,rfl,a6,bc,br⟩;have bf:=((aa.trans a9).trans a8).trans br;have an:=bf.B;clear ay a9 a8 br aa bi;cases ok with
 |false=>
  have j:V (pq t f n [] 0 9):=(HR.o a6).1 rfl;clear HR a6 bc;refine Z7 ?_;refine mu ?_
  first|exact⟨_,rfl,[],0,9,rfl,j.o,bf⟩|exact⟨_,rfl,[],0,9,rfl,j.o⟩
 |true=>
  obtain⟨hq,U,ac,ch⟩:=(HR.o a6).2 rfl;have hT:=bc rfl;have j:V _:=hq;have bv:V (∀p,Z ((pg (qe (A.map nj) p)).flatMap (pn p))<=Z A*10000):=λp=>Asf U p;have bq:=λp u=>ye ar A cA ad p hT.el ch U (λa K=>⟨(U a K).ps,(U a K).pl,by have:=(U a K).le;omega,λt ht=>((U a K).tm t ht).1.2.2.1⟩) ac u;have ck:=r.length A7 hT.el;clear HR a6 bc hq U ac hT;generalize bo:(λp=>pg (qe (A.map nj) p))=T at j;have bn:∀p,pg (qe (A.map nj) p)=T p:=λp=>by rw[<-bo]
  simp only[bn]at bq bv;clear bo bn;refine Z7 ?_;refine mu ?_
  refine Ae (λaf s u'=>∃(i a3:Nat) (d:Tx) (c:ol),af=Z l-i/\i<=Z l/\s 13=sl o (Z l) N/\s 14=sl ad (Z A) cA/\s 15=Y k/\s 16=O d/\s 17=lw a3 c/\s 18=Y i/\W u u'/\J u u' a3 (Z c)/\Z c<=i/\V ((l.take i).foldl (qy T) ([],[])=(d,c)/\Z d<=i*10000000)) (Z l)
   ⟨0,1,[],[],L,L,AG,AG,AG,AG,AG,AG,bf,J.nil _ _,nk,by simp[V]⟩ ?_
  rintro af s u' ⟨i,a3,d,c,rfl,hi,cu,ct,cr,cq,cp,cn,hK,hO,ci,m⟩;have bi:=hK.B;have bm:=m.o.2;by_cases bz:i<Z l
  ·have ak:=AK bz;obtain⟨ih,id,aj,ab,hb,hd⟩:=Cv b ak;generalize l[i]=x at ak hb hd;have a0:V _:=Amm (T:=T) ak;have a7:=λu=>Jb c a3 x.h.B L u;have av:=Aiz (told:=c) (p:=x.h.B);clear ak;cases aw:x.o with
   |false=>
    have R:V ((l.take (i+1)).foldl (qy T) ([],[])=(d,c)/\Z d<=(i+1)*10000000):=⟨by rw[a0.o,m.o.1,qy,if_neg (by simp[aw])],BI bm (GW _ (Nat.le_succ i))⟩;clear a0 m av;refine mu ?_;refine⟨Z l-(i+1),L,i+1,a3,d,c,?_⟩;exact m9 R
   |true=>
    by_cases a2:x.h.B∈c
    ·have ba:decide (Bv c x.h.B<0)=false:=by simp only[decide_eq_false_iff_not];exact λh=>av.1 h a2
     have R:V ((l.take (i+1)).foldl (qy T) ([],[])=(d,c)/\Z d<=(i+1)*10000000):=⟨by rw[a0.o,m.o.1,qy,if_neg (by simp[a2])],BI bm (GW _ (Nat.le_succ i))⟩;clear a0 m av a2;generalize Bv c x.h.B=wh at a7 ba
     repeat' first|refine Z1 ?_|refine Z8 λyb ya=>?_|refine Z4 ?_;clear ya yb|refine Z2 ?_ ?_<;>intro h C<;>try exact Xp|refine Z6 ?_;intro g B v q E z D y|refine Z5 ?_;refine Xi (a7 _) ?_;rintro _ _ ⟨rfl,rfl⟩|refine Z7 ?_|exact Zt|apply ya.o;clear ya yb
     refine⟨Z l-(i+1),L,i+1,a3,d,c,?_⟩;exact m9 R
    have ba:decide (Bv c x.h.B<0)=true:=by simp only[CV];exact av.2 a2
    have bp:=bq x.h.B;have b0:Z ((T x.h.B).flatMap (pn x.h.B))<=10000000:=by have:=bv.o x.h.B;omega
    have R:V ((l.take (i+1)).foldl (qy T) ([],[])=(d++(T x.h.B).flatMap (pn x.h.B),c++[x.h.B])/\Z (d++(T x.h.B).flatMap (pn x.h.B))<=(i+1)*10000000):=⟨by rw[a0.o,m.o.1,qy,if_pos ⟨aw,a2⟩],by rw[AX];omega⟩;clear a0 m av a2;generalize Bv c x.h.B=wh at a7 ba;generalize (T x.h.B).flatMap (pn x.h.B)=tx at bp b0 R;have cj:Z (c.map O)=Z c*1:=nk
    repeat' first|refine Z1 ?_|refine Z8 λyb ya=>?_|refine Z4 ?_;clear ya yb|refine Z2 ?_ ?_<;>intro h C<;>try exact Xp|refine Z6 ?_;intro g B v q E z D y|(refine Z5 ?_;first|(refine Xi (a7 _) ?_;rintro _ _ ⟨rfl,rfl⟩)|(refine Xi (bp _) ?_;rintro _ _ ⟨rfl,a5⟩;(have cf:=q.trans a5;have b8:=J.keep v a5)))|refine Z7 ?_|exact Zt|apply ya.o;clear ya yb
    refine⟨Z l-(i+1),L,i+1,g,d++tx,c++[x.h.B],?_⟩
    ((repeat' refine Zi ?_ ?_)<;>first|exact Xq|exact R|exact cf|exact (nn b8)|exact Xs)
  have b1:i=Z l:=L;subst b1;rw[AS]at m;have HX:V (pq t f n d k 0):=by
   have:=j.o;unfold sy at this;rw[m.o.1]at this;exact this
  clear m j;refine mu ?_
  first|exact⟨_,rfl,d,k,0,rfl,HX.o,hK⟩|exact⟨_,rfl,d,k,0,rfl,HX.o⟩
def Awd (o:iR)(B:o.kind=4)(c)(i:EO o c)(u):ni 33 [ag c] u λI g=>I=my true/\W u g:=by
 have v:=λu=>(Am6 o.s o.e o.n u).mono λI g h=>show∃x k e,I=tp [O x,Y k,Y e]/\(∀a d b,pq o.s o.e o.n a d b->x=a/\k=d/\e=b)/\W u g from by
  let⟨x,k,e,p,y,D⟩:=h;exact⟨x,k,e,p,λa d b h=>Am8 (Awy y) h,D⟩
 have q:=λu=>Ajq o.s o.e o.n u;rw[EO]at i;subst i;rw[B]at*
 apply wl func33
 repeat' first|refine Z1 ?_|refine Z8 λyb ya=>?_|refine Z4 ?_;clear ya yb|refine Z2 ?_ ?_<;>intro h E<;>try exact Xp|(refine Z5 ?_;first|(apply Xi (v _);rintro _ _ ⟨x,k,e,rfl,l,n⟩;(have K:=n.C;have s:=n.B;have A:V _:=l;clear l;(try simp only[Aa,Ac,Az]at s)))|(refine Xi (q _) ?_;rintro _ _ ⟨a,d,b,rfl,j,m⟩;(have F:=m.C;have G:=m.B;let⟨z,t,C⟩:=A.o _ _ _ j;subst z;subst t;subst C;clear j))|(refine Xi (VX _ _) ?_;rintro _ _ ⟨rfl,f⟩;(replace f:=f.symm;subst f)))|refine Z7 ?_|exact Zt|apply ya.o;clear ya yb
 all_goals
  first
  |exact⟨_,rfl,rfl,Xs⟩
  |exact⟨_,rfl,rfl⟩
  |(exfalso;simp at*;done)
end Go.Proofs.YtmoeoppbmhfbpabGreatDoorJ
