import Derived.Test.YtmoeoppbmhfbpabGreatDoorIRefA
set_option maxHeartbeats 16000000
set_option maxRecDepth 100000
set_option linter.all false
open List renaming length->Z
namespace Go.Proofs.YtmoeoppbmhfbpabGreatDoorI
open Go.Abs
def Ki (l:List AB)(i:Nat):List UInt8:=match l[i]? with|some x=>x.h.B|none=>[]
def sC (l:List AB)(p q:List UInt8)(i k:Nat):Bool:=I0 l i k&&Ki l i==p&&Ki l k==q
def Tr (l:List AB)(p q:List UInt8):Bool:=(List.range (Z l)).any fun i=>(List.range (Z l)).any fun k=>sC l p q i k
def m7 (l:List AB)(p q:List UInt8)(i:Nat):Prop:=∀a,a<i->∀b,b<Z l->sC l p q a b=false
def YV (l:List AB)(p q:List UInt8)(i k:Nat):Prop:=∀b,b<k->sC l p q i b=false
theorem xG (l cs idl p q)(hE:EL AN l cs)(hl:Z l<=16)(hf:∀x∈l,x.fits)(y):AF Tryz.prog 166 [sl idl (Z l) cs,str p,str q] y fun r y'=>r=sc (.bool (Tr l p q))/\AE y y':=by
 have ax:=EL.length Cj hE;have an:=Fa;have ao:∀M,List.take 256 (Ej M)=Ej M:=fun M=>FW (by rw[Fa];exact AR _);have ap:∀M,lsp (Lb 256 (.bool false)) 0 (Ej M)=Ej M:=fun M=>F3 (by rw[Fa];simp[Lb]);have a0:Z (Lb 256 (.bool false))=256:=by simp[Lb]
 have au:∀M,(Ej M).all flat=true:=fun M=>by simp[Ej,flat,Value.oneCell']
 refine Z9 49 [.tmp 6] Tryz.func166 ?_
 refine qb ?_;intro yd yb;refine Xi (iS l cs idl hE hl hf _) ?_;rintro _ _ ⟨rfl,ai⟩;refine pz ?_
 rename_i y1;have hτo:((y1.new (Lb 256 (.bool false))).put y1.B (Ej (I0 l))).C y1.B=Ej (I0 l):=Ak;have hτK:AE y ((y1.new (Lb 256 (.bool false))).put y1.B (Ej (I0 l))):=(ai.new _).put ai.B _;generalize (y1.new (Lb 256 (.bool false))).put y1.B (Ej (I0 l))=τ at hτo hτK
 refine Ae (fun m s y'=>∃i:Nat,m=Z l-i/\i<=Z l/\s 0=sl idl (Z l) cs/\s 1=str p/\s 2=str q/\s 7=ptr y1.B 0/\s 8=ic i/\y'=τ/\m7 l p q i) (Z l)
  ⟨0,AA,AA,rfl,rfl,rfl,rfl,rfl,rfl,fun a h=>AA⟩ ?_
 rintro m s y' ⟨i,rfl,hi,h0,h1,h2,h7,h8,hy,ah⟩
 replace hy:=hy.symm
 subst hy;by_cases af:i<Z l
 ·refine pz ?_
  refine Ae (fun m s y'=>∃k:Nat,m=Z l-k/\k<=Z l/\s 0=sl idl (Z l) cs/\s 1=str p/\s 2=str q/\s 7=ptr y1.B 0/\s 8=ic i/\s 9=ic k/\y'=τ/\YV l p q i k) (Z l)
   ⟨0,AA,AA,by simp[upd,h0],by simp[upd,h1],by simp[upd,h2],by simp[upd,h7],by simp[upd,h8],rfl,rfl,fun b h=>AA⟩ ?_
  clear h0 h1 h2 h7 h8;rintro m s y' ⟨k,rfl,hk,h0,h1,h2,h7,h8,h9,hy,ac⟩
  replace hy:=hy.symm
  subst hy;by_cases aa:k<Z l
  ·obtain⟨ih1,id1,b1,r1,az,aw⟩:=Ds hE (AJ af);obtain⟨ih2,id2,b2,r2,ay,av⟩:=Ds hE (AJ aa);have g1:=Nq (I0 l) (i:=i) (k:=k) AA AA;have ae:Ki l i=l[i].h.B:=by simp[Ki,af]
   have ad:Ki l k=l[k].h.B:=by simp[Ki,aa]
   have HH:AD (Ki l i=l[i].h.B/\Ki l k=l[k].h.B):=⟨ae,ad⟩;clear ae ad
   repeat' first|refine Z1 ?_|refine Z8 fun yd yb=>?_|refine Z4 ?_;clear yb yd|refine Z2 ?_ ?_<;>intro h ab<;>try exact Xp|refine Z3 ?_|exact Zt|apply yb.o;clear yb yd
   all_goals
    obtain⟨ae,ad⟩:=HH.o
    first
    |exact⟨_,rfl,by rw[Tr,Ek (k:=i) (a:=i) _ (by simp[af]) (Ek (k:=k) (a:=k) _ (by simp[aa]) (by simp only[sC,ae,ad, *,Bool.and_self]))]⟩
    |exact⟨Z l-(k+1),AA,k+1,rfl,AA,by simp,fun b hb=>by
     by_cases ak:b=k
     ·subst ak;simp only[sC,ae,ad, *,Bool.and_false,Bool.false_and,Bool.and_true]
     ·exact ac b AA⟩
  ·have aj:k=Z l:=AA;subst aj
   refine pz ?_
   exact⟨Z l-(i+1),AA,i+1,rfl,AA,by simp,fun a ha=>by
    by_cases am:a=i
    ·subst am;exact ac
    ·exact ah a AA⟩
 ·have hil:i=Z l:=AA;subst hil
  refine pz ?_
  have hu:Tr l p q=false:=by
   unfold Tr;rw[EB];intro a ha;rw[KV]at ha;simp only[MV];rw[EB];intro b hb;rw[KV]at hb;simp[ah a ha b hb]
  first
  |exact⟨_,rfl,by rw[hu],hτK⟩
  |exact⟨_,rfl,by rw[hu]⟩
def Bf (p:Nat->Bool)(n:Nat):Int:=match (List.range n).find? p with|some i=>(i:Int)|none=> -1
theorem Gx {p n i}(hi:i<n)(hp:p i=true)(hn:∀a,a<i->p a=false):Bf p n=i:=by
 unfold Bf;have:(List.range n).find? p=some i:=by
  rw[List.find?_range_eq_some];exact⟨hp,by simpa using hi,fun a ha=>by simp[hn a ha]⟩
 rw[this]
theorem Ch {p n}(hn:∀a,a<n->p a=false):Bf p n= -1:=by
 unfold Bf;have:(List.range n).find? p=none:=by
  rw[IX];intro a ha;simp[hn a (by simpa using ha)]
 rw[this]
def tF (l:List AB)(h:List UInt8)(a:AC):Bool:=a.nt&&(a.B==h||Tr l a.B h)
def Gc (l:List AB)(i:Nat):Bool:=match l[i]? with|some x=>x.A.any (tF l x.h.B)|none=>false
def gk (l:List AB)(i:Nat):Prop:=∀a,a<i->Gc l a=false
def PN (l:List AB)(x:AB)(j:Nat):Prop:=(x.A.take j).any (tF l x.h.B)=false
theorem zA (l cs idl)(hE:EL AN l cs)(hl:Z l<=16)(hf:∀x∈l,x.fits)(y):AF Tryz.prog 162 [sl idl (Z l) cs] y fun r y'=>r=ic (Bf (Gc l) (Z l))/\AE y y':=by
 have ap:=EL.length Cj hE;refine Z9 56 [.tmp 2] Tryz.func162 ?_
 refine zz ?_
 refine Ae (fun m s y'=>∃i:Nat,m=Z l-i/\i<=Z l/\s 0=sl idl (Z l) cs/\s 3=ic i/\AE y y'/\gk l i) (Z l)
  ⟨0,AA,AA,rfl,rfl,AE.refl _,fun a h=>AA⟩ ?_
 rintro m s y' ⟨i,rfl,hi,h0,h3,hK,ad⟩;by_cases ae:i<Z l
 ·obtain⟨ih1,id1,b1,r1,af,ak⟩:=Ds hE (AJ ae);have ai:=hf l[i] (AT ae);have HX:AD (l[i]?=some l[i]):=AJ ae;generalize l[i]=x at af ak ai HX;have au:=EL.length Bb af;have ao:=ai.1
  refine pz ?_
  refine Ae (fun m s y'=>∃j:Nat,m=Z x.A-j/\j<=Z x.A/\s 0=sl idl (Z l) cs/\s 3=ic i/\s 4=ic j/\AE y y'/\PN l x j) (Z x.A)
   ⟨0,AA,AA,by simp[upd,h0],by simp[upd,h3],rfl,hK,by simp[PN]⟩ ?_
  clear hK h0 h3;rintro m s y' ⟨j,rfl,hj,h0,h3,h4,hK,aa⟩;by_cases ac:j<Z x.A
  ·obtain⟨ia,r,hd⟩:=Cf af (AJ ac);have HG:AD (x.A[j]?=some x.A[j]):=AJ ac;generalize x.A[j]=a at hd HG
   refine pz ?_
   refine Ay Ag (fun _=>True) [24] [0,1,2,3,4,5,6,7,8,9,10,11,12,13,14,15,16,17,18,19,20,21] [22,23,24] AH (fun _ _ _ h=>h) ?_;intro yd yb;refine Z3 ?_
   repeat' first|refine Z1 ?_|refine Z8 fun yd yb=>?_|refine Z4 ?_;clear yb yd|refine Z2 ?_ ?_<;>intro h ab<;>try exact Xp|refine Z5 ?_;refine Xi (xG l cs idl _ _ hE hl hf _) ?_;rintro _ _ ⟨rfl,ah⟩;(have an:=ah.B)|refine Z3 ?_|exact Zt|apply yb.o;clear yb yd
   all_goals
    first
    |exact⟨_,rfl,by rw[Gx (p:=Gc l) ae (by unfold Gc;rw[HX.o];exact Ek _ HG.o (by simp[tF, *])) ad],by first|exact ((hK.new _).put hK.B _).trans ah|exact (hK.new _).put hK.B _⟩
    |exact⟨Z x.A-(j+1),AA,j+1,rfl,AA,by simp,by first|exact ((hK.new _).put hK.B _).trans ah|exact (hK.new _).put hK.B _,by unfold PN at*;rw[any_take_succ _ HG.o,aa];simp[tF, *]⟩
  ·have aj:j=Z x.A:=AA;subst aj
   refine pz ?_
   refine⟨Z l-(i+1),AA,i+1,rfl,AA,by simp,?_⟩;intro a ha;by_cases am:a=i
   ·subst am;unfold PN at aa;rw[AS]at aa;unfold Gc;rw[HX.o];exact aa
   ·exact ad a AA
 ·have hil:i=Z l:=AA;subst hil
  refine pz ?_
  first
  |exact⟨_,rfl,by rw[Ch ad],hK⟩
  |exact⟨_,rfl,by rw[Ch ad]⟩
def clash (a b:AC):Bool:=b.B==a.B&&decide (Z b.A≠Z a.A)
def C6 (l:List AB)(i:Nat):List AC:=(l.take i).flatMap Af
def Ca (l:List AB)(x:AB)(i j:Nat):List AC:=C6 l i++(Af x).take j
def Ma (l:List AB)(x:AB)(i j:Nat):Bool:=match (Af x)[j]? with|some a=>(Ca l x i j).any (clash a)|none=>false
def Gm (l:List AB)(i:Nat):Bool:=match l[i]? with|some x=>(List.range (Z (Af x))).any (Ma l x i)|none=>false
def UU (l:List AB)(i:Nat):Prop:=∀a,a<i->Gm l a=false
def SO (l:List AB)(x:AB)(i j:Nat):Prop:=∀b,b<j->Ma l x i b=false
def X8 (a:AC)(s:List AC)(k:Nat):Prop:=(s.take k).any (clash a)=false
theorem G1 {l x i j a}(h:(Af x)[j]?=some a):Ca l x i (j+1)=Ca l x i j++[a]:=by
 unfold Ca;rw[AU,h,CX];rfl
theorem Wt {l x i j a}(h:(Af x)[j]?=some a):Z (Ca l x i (j+1))=Z (Ca l x i j)+1:=by
 rw[G1 h];simp
theorem cP {l x i}(h:l[i]?=some x):Ca l x i (Z (Af x))=Ca l x (i+1) 0:=by
 unfold Ca C6;rw[AS,AU,h,List.take_zero,FA];simp
theorem AB.fits.atoms {x}(h:x.fits):Z (Af x)<=1001:=by
 obtain⟨f1,f2,f3⟩:=h;unfold Af;split<;>simp<;>omega
theorem lU {l}(hf:∀x∈l,x.fits):∀i,Z (C6 l i)<=i*1001:=by
 intro i;induction i with
 |zero=>simp[C6]
 |succ i ih=>
  unfold C6 at*
  rw[AU,JL,AX];cases h:l[i]? with
  |none=>simp only[Option.toList_none,MH,CP];omega
  |some x=>
   have:=(hf x (BD h)).atoms;simp only[BJ,DK,MH,FA];omega
theorem mh (l cs idl)(hE:EL AN l cs)(hl:Z l<=16)(hf:∀x∈l,x.fits)(y):AF Tryz.prog 161 [sl idl (Z l) cs] y fun r y'=>r=ic (Bf (Gm l) (Z l))/\AE y y':=by
 have a8:=EL.length Cj hE;refine Z9 65 [.tmp 2] Tryz.func161 ?_
 refine zz ?_
 refine Ae (fun m s y'=>∃(i ids:Nat) (ss:List AV),m=Z l-i/\i<=Z l/\s 0=sl idl (Z l) cs/\s 3=sl ids (Z (C6 l i)) ss/\s 4=ic i/\AE y y'/\Own y y' ids (Z (C6 l i))/\EL Bo (C6 l i) ss/\UU l i) (Z l)
  ⟨0,1,[],AA,AA,rfl,rfl,rfl,AE.refl _,Own.nil _ _,rfl,fun a h=>AA⟩ ?_
 rintro m s y' ⟨i,ids,ss,rfl,hi,h0,h3,h4,hK,hO,hS,af⟩;have hpl:=lU hf i;by_cases ah:i<Z l
 ·obtain⟨ih1,id1,b1,r1,an,ax⟩:=Ds hE (AJ ah);have ai:=hf l[i] (AT ah);have HX:AD (l[i]?=some l[i]):=AJ ah;generalize l[i]=x at an ax ai HX;have a9:=ai.atoms
  refine qb ?_;intro yd yb;refine Xi (L5 _ _ (AN.of an) (by have:=ai.1;omega) _) ?_;rintro _ _ ⟨ida,cs2,rfl,ap,aj⟩;refine pz ?_
  rename_i y1;have az:=EL.length Bb ap
  refine Ae (fun m s y'=>∃(j ids:Nat) (ss:List AV),m=Z (Af x)-j/\j<=Z (Af x)/\s 0=sl idl (Z l) cs/\s 3=sl ids (Z (Ca l x i j)) ss/\s 4=ic i/\s 5=sl ida (Z (Af x)) cs2/\s 6=ic j/\AE y y'/\Own y y' ids (Z (Ca l x i j))/\EL Bo (Ca l x i j) ss/\SO l x i j) (Z (Af x))
   ⟨0,ids,ss,AA,AA,by simp[upd,h0],by simp[upd,h3,Ca],by simp[upd,h4],AG,rfl,hK.trans aj,by simpa[Ca]using hO.keep aj,by simpa[Ca]using hS,fun b h=>AA⟩ ?_
  clear hK hO hS h0 h3 h4 aj ids ss;rintro m s y' ⟨j,ids,ss,rfl,hj,h0,h3,h4,h5,h6,hK,hO,hS,ad⟩;have a7:Z (Ca l x i j)<=100000:=by unfold Ca;simp;omega
  by_cases ac:j<Z (Af x)
  ·obtain⟨ia,r,hd⟩:=Cf ap (AJ ac);have HG:AD ((Af x)[j]?=some (Af x)[j]):=AJ ac;generalize (Af x)[j]=a at hd HG;have a6:=EL.length Bb hS
   refine pz ?_
   refine Ae (fun m s y'=>∃k:Nat,m=Z (Ca l x i j)-k/\k<=Z (Ca l x i j)/\s 0=sl idl (Z l) cs/\s 3=sl ids (Z (Ca l x i j)) ss/\s 4=ic i/\s 5=sl ida (Z (Af x)) cs2/\s 6=ic j/\s 7=ic k/\AE y y'/\Own y y' ids (Z (Ca l x i j))/\X8 a (Ca l x i j) k) (Z (Ca l x i j))
    ⟨0,AA,AA,by simp[upd,h0],by simp[upd,h3],by simp[upd,h4],by simp[upd,h5],by simp[upd,h6],rfl,hK,hO,by simp[X8]⟩ ?_
   clear hK hO h0 h3 h4 h5 h6;rintro m s y' ⟨k,rfl,hk,h0,h3,h4,h5,h6,h7,hK,hO,ab⟩;by_cases ae:k<Z (Ca l x i j)
   ·obtain⟨ib,r',ay⟩:=Cf hS (AJ ae);have HB:AD ((Ca l x i j)[k]?=some (Ca l x i j)[k]):=AJ ae;generalize (Ca l x i j)[k]=b at ay HB
    refine pz ?_
    refine Ay Ag (fun _=>True) [25] [0,1,2,3,4,5,6,7,8,9,10,11,12,13,14,15,16,17,18,19,20,21,22,23,24] [25] AH (fun _ _ _ h=>h) ?_;intro yd yb;refine Z3 ?_
    repeat' first|refine Z1 ?_|refine Z8 fun yd yb=>?_|refine Z4 ?_;clear yb yd|refine Z2 ?_ ?_<;>intro h aa<;>try exact Xp|refine Z3 ?_|exact Zt|apply yb.o;clear yb yd
    all_goals
     first
     |exact⟨_,rfl,by
      rw[Gx (p:=Gm l) ah ?_ af];unfold Gm;rw[HX.o];refine Ek (k:=j) (a:=j) _ (by simp[ac]) ?_;unfold Ma;rw[HG.o];refine Ek _ HB.o ?_;simp[clash, *]
      first|done|(simp at h;omega)⟩
     |exact⟨Z (Ca l x i j)-(k+1),AA,k+1,rfl,AA,by simp,by
      unfold X8 at*
      rw[any_take_succ _ HB.o,ab]
      first
      |(simp[clash, *];done)
      |(simp[clash];intro _;simp at h;omega)⟩
   ·have am:k=Z (Ca l x i j):=AA;have ak:Ma l x i j=false:=by
     unfold Ma;rw[HG.o];rw[am]at ab;unfold X8 at ab;rw[AS]at ab;exact ab
    have HN:AD (Ma l x i j=false):=ak;clear ak;subst am
    refine qd ?_;intro yd yb;intro idn yn ao ba a5 av a4 au;refine pz ?_
    rw[<-Wt (l:=l) (i:=i) HG.o]at ao;refine⟨Z (Af x)-(j+1),AA,j+1,idn,_,rfl,AA,by rw[Wt HG.o],by simp,ao,by rw[G1 HG.o];exact hS.append (EL.single ⟨_,rfl⟩),?_⟩;intro b hb;by_cases a0:b=j
    ·subst a0;exact HN.o
    ·exact ad b AA
  ·have aw:j=Z (Af x):=AA;subst aw;rw[cP HX.o]at h3 hO hS
   refine pz ?_
   refine⟨Z l-(i+1),AA,i+1,ids,ss,rfl,AA,by simp[Ca],by simp,by simpa[Ca]using hO,by simpa[Ca]using hS,?_⟩;intro a ha;by_cases a3:a=i
   ·subst a3;unfold Gm;rw[HX.o];simp only;rw[EB];intro b hb;rw[KV]at hb;simp[ad b hb]
   ·exact af a AA
 ·have hil:i=Z l:=AA;subst hil
  refine pz ?_
  first
  |exact⟨_,rfl,by rw[Ch af],hK⟩
  |exact⟨_,rfl,by rw[Ch af]⟩
def Df (l:List AB)(i:Nat):Bool:=match l[i]? with|some x=>!Dx x|none=>false
def ku (l:List AB)(i:Nat):Prop:=∀a,a<i->Df l a=false
def Cn (l:List AB):Int×Int:=
 if 0<=Bf (Gm l) (Z l) then (3,Bf (Gm l) (Z l))
 else if 0<=Bf (Df l) (Z l) then (4,Bf (Df l) (Z l))
 else if 0<=Bf (Gc l) (Z l) then (5,Bf (Gc l) (Z l))
 else (0,0)
abbrev two (p:Int×Int):AV:=tp [ic p.1,ic p.2]
theorem dV {p n}:Bf p n<n+1:=by
 unfold Bf;split
 ·rename_i i h;have:=LK h;simp at this;omega
 ·omega
theorem K6 {p n}: -1<=Bf p n:=by
 unfold Bf;split<;>omega
theorem pN (l cs idl)(hE:EL AN l cs)(hl:Z l<=16)(hf:∀x∈l,x.fits)(y):AF Tryz.prog 105 [sl idl (Z l) cs] y fun r y'=>r=two (Cn l)/\AE y y':=by
 have am:=EL.length Cj hE;have g1:=@K6 (Gm l) (Z l);have g2:=@dV (Gm l) (Z l);have g3:=@K6 (Gc l) (Z l);have g4:=@dV (Gc l) (Z l);refine Z9 28 [.tmp 2,.tmp 3] Tryz.func105 ?_
 refine qb ?_;intro yd yb;refine Xi (mh l cs idl hE hl hf _) ?_;rintro _ _ ⟨rfl,ah⟩;refine qe ?_ ?_<;>intro h aa
 ·first
  |exact⟨_,rfl,by unfold Cn;rw[if_pos (by simpa using h)],by assumption⟩
  |exact⟨_,rfl,by unfold Cn;rw[if_pos (by simpa using h)]⟩
 ·have ho:¬0<=Bf (Gm l) (Z l):=by simpa using h
  have HO:AD (¬0<=Bf (Gm l) (Z l)):=ho;clear ho aa h g1 g2;rename_i y1
  refine Ae (fun m s y'=>∃i:Nat,m=Z l-i/\i<=Z l/\s 0=sl idl (Z l) cs/\s 4=ic i/\AE y y'/\ku l i) (Z l)
   ⟨0,AA,AA,rfl,rfl,ah,fun a h=>AA⟩ ?_
  rintro m s y' ⟨i,rfl,hi,h0,h4,hK,ac⟩;clear ah;by_cases ad:i<Z l
  ·obtain⟨ih1,id1,b1,r1,af,aj⟩:=Ds hE (AJ ad);have ae:=hf l[i] (AT ad);have HX:AD (l[i]?=some l[i]):=AJ ad;generalize l[i]=x at af aj ae HX
   refine qb ?_;intro yd yb;refine Xi (Sq _ _ (AN.of af) ae _) ?_;rintro _ _ ⟨rfl,ab⟩;refine qe ?_ ?_<;>intro h aa
   ·have hu:Bf (Df l) (Z l)=i:=Gx ad (by unfold Df;rw[HX.o];simpa using h) ac;exact⟨_,rfl,by unfold Cn;rw[if_neg HO.o,hu,if_pos AA],hK.trans ab⟩
   ·have ai:Dx x=true:=h
    exact⟨Z l-(i+1),AA,i+1,rfl,AA,by simp,hK.trans ab,fun a ha=>by
     by_cases ak:a=i
     ·subst ak;unfold Df;rw[HX.o];simp[ai]
     ·exact ac a AA⟩
  ·have hil:i=Z l:=AA;subst hil;have hu:=Ch (p:=Df l) ac;have HU:AD (¬0<=Bf (Df l) (Z l)):=by rw[hu];simp[AD]
   clear hu ac
   refine qb ?_;intro yd yb;refine Xi (zA l cs idl hE hl hf _) ?_;rintro _ _ ⟨rfl,ab⟩;refine qe ?_ ?_<;>intro h aa
   ·exact⟨_,rfl,by unfold Cn;rw[if_neg HO.o,if_neg HU.o,if_pos (by simpa using h)],hK.trans ab⟩
   ·exact⟨_,rfl,by unfold Cn;rw[if_neg HO.o,if_neg HU.o,if_neg (by simpa using h)],hK.trans ab⟩
def Pu:List UInt8->Bool
 |[]=>false
 |b::_=>(b.toNat:Int)==63
def rG (t:List UInt8):AB:={o:=true,h:={nt:=false,B:=(t.drop 1).take (Z t-1),A:=[]},A:=[]}
def Tu (t:List UInt8):AB:=
 {o:=false,h:=D2 ((t.drop 0).take (B8 t 58-0)),A:=if B8 t 58<Z t then (Gq ((t.drop (B8 t 58+2)).take (Z t-(B8 t 58+2))) 44).map D2 else []}
def Iz (t:List UInt8):AB:=if Pu t then rG t else Tu t
def Cb (s:List UInt8):List AB:=(Gq s 46).map Iz
def vT (t:List UInt8):Prop:=Z t<=1000/\t≠[]/\(Pu t=false->B8 t 58<Z t->B8 t 58+2<=Z t)
theorem H3 {α β:Type}{l:List α}{k a}(f:α->β)(h:l[k]?=some a):(l.take (k+1)).map f=(l.take k).map f++[f a]:=by
 rw[AU,h];simp
theorem L1 (c):∀(s:List UInt8) (d:Bool) (cur:List UInt8),∀t∈B7 c s d cur,Z t<=Z cur+Z s
 |[],d,cur=>by
  unfold B7;split
  ·intro t ht;cases ht
  ·intro t ht;simp at ht;subst ht;simp
 |b::r,d,cur=>by
  unfold B7
  all_goals
   simp only[];generalize (if ((b.toNat:Int)==41)=true then false else _)=d2;split
   ·intro t ht;rcases BB.1 ht with rfl|ht
    ·simp
    ·have:=L1 c r d2 [] t ht;simp at this⊢;omega
   ·intro t ht;have:=L1 c r d2 (cur++[b]) t ht;simp at this⊢;omega
theorem Ly {s c t}(h:t∈Gq s c):Z t<=Z s:=by
 have:=L1 c s false [] t h;simpa using this
theorem Lz {s c}:Z (Gq s c)<=Z s+1:=Kk c s false []
theorem Jr (s)(hs:Z s<=1000)(hc:Z (Gq s 46)<=1000)(hp:∀t∈Gq s 46,vT t)(y):AF Tryz.prog 62 [str s] y fun r y'=>∃id cs,r=sl id (Z (Cb s)) cs/\EL AN (Cb s) cs/\AE y y':=by
 refine Z9 70 [.tmp 2] Tryz.func62 ?_
 refine qb ?_;intro yd yb;refine Xi (Nw s _ AA _) ?_;rintro _ _ ⟨idt,rfl,az⟩;refine pz ?_
 rename_i y1;unfold Cb;generalize Gq s 46=ts at hc hp
 refine Ae (fun m s y'=>∃(i ids:Nat) (ss:List AV),m=Z ts-i/\i<=Z ts/\s 3=sl ids i ss/\s 4=sl idt (Z ts) (ts.map str)/\s 5=ic i/\AE y y'/\Own y y' ids i/\EL AN ((ts.take i).map Iz) ss) (Z ts)
  ⟨0,1,[],AA,AA,rfl,rfl,rfl,az,Own.nil _ _,rfl⟩ ?_
 rintro m s y' ⟨i,ids,ss,rfl,hi,h3,h4,h5,hK,hO,hS⟩;clear az;have au:=EL.length Cj hS;simp only[BP,CV,EZ hi]at au;have HS:AD (EL AN ((ts.take i).map Iz) ss):=hS;clear hS;by_cases aw:i<Z ts
 ·have a3:=A7 aw;obtain⟨p1,p2,p3⟩:=hp ts[i] (AT aw);have HX:AD (ts[i]?=some ts[i]):=AJ aw;generalize ts[i]=t at a3 p1 p2 p3 HX;have ba:=Rr t 58;cases t with
  |nil=>exact absurd rfl p2
  |cons b r=>
   have a4:(b::r)[0]?=some b:=rfl;simp only[BQ]at p1 p3 ba;by_cases am:((b.toNat:Int)==63)=true
   ·refine qd ?_;intro yd yb;intro idn yn af ah ad ab ac aa;refine pz ?_
    refine⟨Z ts-(i+1),AA,i+1,idn,_,rfl,AA,rfl,by simp,af,?_⟩;rw[H3 Iz HX.o];refine HS.o.append (EL.single ?_);have hi:Iz (b::r)=rG (b::r):=by unfold Iz;rw[if_pos (by exact am)]
    rw[hi];exact⟨_,1,[],⟨1,rfl⟩,rfl,by simp[rG]⟩
   ·have am:((b.toNat:Int)==63)=false:=by simpa using am
    have HI:AD (Iz (b::r)=Tu (b::r)):=by unfold AD Iz;rw[if_neg (by simp[Pu];simpa using am)]
    have p4:=p3 am;clear p3;by_cases ax:B8 (b::r) 58<Z r+1
    ·have p5:=p4 ax;clear p4
     (repeat (refine qb ?_;intro yd yb;(first|(refine Xi (K7 _ _ (by first|omega|(simp;omega)) _) ?_;rintro _ _ ⟨rfl,rfl⟩)|(refine Xi (Tf _ (by first|omega|(simp;omega)) _) ?_;rintro _ _ ⟨_,rfl,⟨ia,rfl⟩,ai⟩;(have ka:=ai.B))|(refine Xi (Nw _ _ (by first|omega|(simp;omega)) _) ?_;rintro _ _ ⟨idc,rfl,ao⟩;(have ko:=ao.C _ (by rw[Ab,Aa];exact Nat.lt_succ_self _);rw[Ak]at ko;have kc:=ao.B;simp only[Ab,Aa]at kc)))));refine pz ?_
     rename_i y2 ya yc;rw[show ((B8 (b::r) 58:Nat)+2:Int).toNat=B8 (b::r) 58+2 by omega];have ay:=@Lz (List.take (Z r+1-(B8 (b::r) 58+2)) (List.drop (B8 (b::r) 58+2) (b::r))) 44;have av:=fun t=>@Ly (List.take (Z r+1-(B8 (b::r) 58+2)) (List.drop (B8 (b::r) 58+2) (b::r))) 44 t;have a7:Z (List.take (Z r+1-(B8 (b::r) 58+2)) (List.drop (B8 (b::r) 58+2) (b::r)))<=1000:=by simp;omega
     have HR:AD (Tu (b::r)={o:=false,h:=D2 (List.take (B8 (b::r) 58) (b::r)),A:=(Gq (List.take (Z r+1-(B8 (b::r) 58+2)) (List.drop (B8 (b::r) 58+2) (b::r))) 44).map D2}):=by
      unfold AD Tu;rw[if_pos (by simpa using ax)];simp
     generalize Gq (List.take (Z r+1-(B8 (b::r) 58+2)) (List.drop (B8 (b::r) 58+2) (b::r))) 44=ms at ay av HR;generalize Z (List.take (Z r+1-(B8 (b::r) 58+2)) (List.drop (B8 (b::r) 58+2) (b::r)))=lq at ay av a7;generalize D2 (List.take (B8 (b::r) 58) (b::r))=hd at ko HR ao;have ap:AE ya yc:=(((AE.refl ya).new _).put (AR _) _).trans ao;have bh:AE y ya:=hK.trans ai;have be:Own y ya ids i:=hO.keep ai
     refine Ae (fun m s y'=>∃(k idb:Nat) (bb:List AV),m=Z ms-k/\k<=Z ms/\s 3=sl ids i ss/\s 4=sl idt (Z ts) (ts.map str)/\s 5=ic i/\s 8=ptr ya.B 0/\s 9=sl idc (Z ms) (ms.map str)/\s 10=ic k/\AE ya y'/\Own ya y' idb k/\y'.C ya.B=[sc (.bool false),sc (.bool hd.nt),str hd.B,sl ia (Z hd.A) (hd.A.map str),sl idb k bb]/\ya.B<y'.B/\AD (EL Bo ((ms.take k).map D2) bb)) (Z ms)
      ⟨0,1,[],AA,AA,by simp[upd,h3],by simp[upd,h4],by simp[upd,h5],AG,AG,rfl,ap,Own.nil _ _,ko,AA,rfl⟩ ?_
     clear ap ao ko kc h3 h4 h5 hK ai hO ka;rintro m s y' ⟨k,idb,bb,rfl,hk,h3,h4,h5,h8,h9,bl,hK,hO,ho,hn,hB⟩;have an:=EL.length Bb hB.o;simp only[BP,CV,EZ hk]at an;by_cases aj:k<Z ms
     ·have a5:=A7 aj;have a6:=av ms[k] (AT aj);have HM:AD (ms[k]?=some ms[k]):=AJ aj;generalize ms[k]=t at a5 a6 HM
      refine pz ?_
      refine Ay Ag (fun _=>True) [10] [0,1,2,3,4,5] [6,7,8,9,10] AH (fun _ _ _ h=>h) ?_;intro yd yb;refine Z3 ?_
      refine p9 ?_;refine Xi (Tf _ AA _) ?_;rintro _ _ ⟨_,rfl,⟨it,rfl⟩,ak⟩;(have kt:=ak.C _ hn;rw[ho]at kt;have ktn:=ak.B;have bg:=hK.trans ak;have bd:=hO.keep ak);refine pz ?_
      refine And.intro (Al (ak.lay 1)) ?_;refine Bn (by first|exact Wm|exact I3) bg bd (by decide) (by rfl) an (by rfl) (by rfl) (by decide) AA AA ?_;intro idn yn af ah ad ab ac aa;have a9:∀q,Kept (fun j=>![10].contains j) (fun x=>True) y' q yn:=fun q _ o ho _=>by rw[ac];exact ak.ver o ho
      have bi:yn.C ya.B=[sc (.bool false),sc (.bool hd.nt),str hd.B,sl ia (Z hd.A) (hd.A.map str),sl idb k bb]:=by rw[ad];exact kt
      refine Z3 ?_
      repeat' first|refine And.intro (a9 _) ?_|refine And.intro (A5 rfl) ?_
      refine pz ?_
      have a0:EL Bo ((ms.take (k+1)).map D2) (bb++[sc (Value.bool (D2 t).nt),str (D2 t).B,sl it (Z (D2 t).A) (List.map str (D2 t).A)]):=by
       rw[H3 D2 HM.o];exact hB.o.append (EL.single ⟨_,rfl⟩)
      first
      |exact⟨Z ms-(k+1),AA,k+1,idn,_,rfl,AA,by simp,ah.put (AR _) _,af,rfl,a0⟩
      |exact⟨Z ms-(k+1),AA,k+1,idn,_,rfl,AA,by simp,ah.put (AR _) _,af,rfl,AA,a0⟩
     ·have a8:k=Z ms:=AA;subst a8;rw[AS]at hB;have bf:=bh.trans hK;have bc:=be.keep hK;clear hK hO
      refine qd ?_;intro yd yb;intro idn yn af ah ad ab ac aa;refine pz ?_
      refine⟨Z ts-(i+1),AA,i+1,idn,_,rfl,AA,rfl,by simp,af,?_⟩;rw[H3 Iz HX.o];refine HS.o.append (EL.single ?_);rw[HI.o,HR.o];exact⟨_,idb,bb,⟨ia,rfl⟩,hB.o,by simp⟩
    ·clear p4
     (repeat (refine qb ?_;intro yd yb;(first|(refine Xi (K7 _ _ (by first|omega|(simp;omega)) _) ?_;rintro _ _ ⟨rfl,rfl⟩)|(refine Xi (Tf _ (by first|omega|(simp;omega)) _) ?_;rintro _ _ ⟨_,rfl,⟨ia,rfl⟩,ai⟩;(have ka:=ai.B)))));refine qm ?_;intro yd yb
     rename_i y2 ya;have bf:=((hK.trans ai).new [sc (Value.bool false),sc (Value.bool false),sc (Value.string (bs [])),nilS,nilS]).put (hK.trans ai).B [sc (Value.bool false),sc (Value.bool (D2 (List.take (B8 (b::r) 58) (b::r))).nt),str (D2 (List.take (B8 (b::r) 58) (b::r))).B,sl ia (Z (D2 (List.take (B8 (b::r) 58) (b::r))).A) (List.map str (D2 (List.take (B8 (b::r) 58) (b::r))).A),nilS];have bc:=hO.keep ((ai.new [sc (Value.bool false),sc (Value.bool false),sc (Value.string (bs [])),nilS,nilS]).put ai.B [sc (Value.bool false),sc (Value.bool (D2 (List.take (B8 (b::r) 58) (b::r))).nt),str (D2 (List.take (B8 (b::r) 58) (b::r))).B,sl ia (Z (D2 (List.take (B8 (b::r) 58) (b::r))).A) (List.map str (D2 (List.take (B8 (b::r) 58) (b::r))).A),nilS])
     refine qc ?_;intro idn yn af ah ad ab ac aa;refine pz ?_
     refine⟨Z ts-(i+1),AA,i+1,idn,_,rfl,AA,rfl,by simp,af,?_⟩;rw[H3 Iz HX.o];refine HS.o.append (EL.single ?_);rw[HI.o];unfold Tu;rw[if_neg (by simpa using ax)];exact⟨_,1,[],⟨ia,rfl⟩,rfl,by simp⟩
 ·have hil:i=Z ts:=AA;subst hil
  refine pz ?_
  have hS:=HS.o;rw[AS]at hS
  first
  |exact⟨_,rfl,ids,ss,by simp,hS,hK⟩
  |exact⟨_,rfl,ids,ss,by simp,hS⟩
theorem oM (nt s):Z (Pk nt s).A<=Z s:=by
 unfold Pk;simp only;split
 ·rename_i h;refine BO Lz ?_;simp;omega
 ·simp
theorem Ub (s):Z (D2 s).A<=Z s:=by
 unfold D2;refine BO (oM _ _) ?_;unfold Jk;split
 ·simp
 ·exact AR _
theorem rX {t}(h:Z t<=1000):(Iz t).fits:=by
 unfold Iz;split
 ·exact⟨by simp[rG],by simp[rG],by simp[rG]⟩
 ·unfold Tu;refine⟨?_,?_,?_⟩
  ·simp only;split
   ·rw[BP];refine BO Lz ?_;simp;omega
   ·simp
  ·simp only;refine BO (Ub _) ?_;simp;omega
  ·simp only;split
   ·intro a ha;rw[AO]at ha;obtain⟨u,hu,rfl⟩:=ha;refine BO (Ub _) ?_;refine BO (Ly hu) ?_;simp;omega
   ·simp
def nQ (s:List UInt8):Prop:=Z (Gq s 46)<=16/\∀t∈Gq s 46,vT t
def Au (s:List UInt8):Int×Int:=
 if 600<Z s then (1,0)else if 0<=Fc s then (2,Fc s)else Cn (Cb s)
theorem Zv (s)(hg:Z s<=600->¬0<=Fc s->nQ s)(hpl: -1<=Fc s/\Fc s<=Z s)(y):AF Tryz.prog 60 [str s] y fun r y'=>r=two (Au s)/\AE y y':=by
 obtain⟨q1,q2⟩:=hpl;refine Z9 18 [.tmp 2,.tmp 3] Tryz.func60 ?_;by_cases hL:600<Z s
 ·have hr:Au s=(1,0):=by unfold Au;rw[if_pos hL]
  refine pz ?_
  exact⟨_,rfl,rfl,AE.refl _⟩
 ·have hg:=hg AA;by_cases hP:0<=Fc s
  ·have hr:Au s=(2,Fc s):=by unfold Au;rw[if_neg hL,if_pos hP]
   refine qb ?_;intro yd yb;refine Xi (Pz s AA _) ?_;rintro _ _ ⟨rfl,ab⟩;refine pz ?_
   first
   |exact⟨_,rfl,rfl,ab⟩
   |exact⟨_,rfl,rfl⟩
  ·have hr:Au s=Cn (Cb s):=by unfold Au;rw[if_neg hL,if_neg hP]
   obtain⟨g1,g2⟩:=hg hP;have hil:Z (Cb s)<=16:=by unfold Cb;simpa using g1
   have ac:∀x∈Cb s,x.fits:=by
    intro x hx;unfold Cb at hx;rw[AO]at hx;obtain⟨t,ht,rfl⟩:=hx;exact rX (g2 t ht).1
   repeat' first|refine Z1 ?_|refine Z8 fun yd yb=>?_|refine Z4 ?_;clear yb yd|refine Z2 ?_ ?_<;>intro h aa<;>try exact Xp|(refine Z5 ?_;first|(refine Xi (Pz s AA _) ?_;rintro _ _ ⟨rfl,ab⟩)|(refine Xi (Jr s AA AA g2 _) ?_;rintro _ _ ⟨idi,ci,rfl,af,ae⟩)|(refine Xi (pN _ _ _ af hil ac _) ?_;rintro _ _ ⟨rfl,ad⟩))|refine Z3 ?_|exact Zt|apply yb.o;clear yb yd
   exact⟨_,rfl,rfl,(ab.trans ae).trans ad⟩
end Go.Proofs.YtmoeoppbmhfbpabGreatDoorI
