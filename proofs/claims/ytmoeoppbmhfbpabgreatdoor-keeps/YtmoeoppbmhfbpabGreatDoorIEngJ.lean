import Derived.Test.YtmoeoppbmhfbpabGreatDoorIEngF
set_option maxHeartbeats 32000000
set_option maxRecDepth 100000
set_option linter.all false
open List renaming length->Z
namespace Go.Proofs.YtmoeoppbmhfbpabGreatDoorI
open Go.Abs
def XZ (ar:Nat)(t:Cc):Prop:=∀i,i<ar->∃k:Nat,t[i]?=some (k:Int)/\k<1026
def QN (q:AY):Prop:=∀p∈q.A,∀t∈p.A,XZ (Z p.a.ts) t
def Hg (f:Nat->Bool):List AV:=(List.range 1026).map fun i=>sc (.bool (f i))
theorem oE:Lb 1026 (.bool false)=Hg fun _=>false:=by
 unfold Lb Hg;rw[List.map_const'];simp[cst1]
theorem tC (f):Z (Hg f)=1026:=by simp[Hg]
theorem tD (f){k}(h:k<1026):(Hg f)[k]?=some (sc (.bool (f k))):=by simp[Hg,h]
theorem tA (f){k}(h:k<1026)(b):(Hg f).set k (sc (.bool b))=Hg fun j=>if j=k then b else f j:=by
 apply FS;intro n;rw[GK];by_cases hn:n<1026
 ·by_cases he:k=n
  ·subst he;simp[Hg,hn]
  ·have:n≠k:=fun e=>he e.symm;simp[Hg,hn,he,this]
 ·have:k≠n:=AA;simp[Hg,hn,this]
def xF (pl:Int)(acc:List Int)(t:Cc):List Int:=if I4 t pl∈acc then acc else acc++[I4 t pl]
def Zl (tups:List Cc)(pl:Int):List Int:=tups.foldl (xF pl) []
def Mf (q:AY)(v:Int):List Int:=match q.A.find? (fun p=>Bj p.a.ts v)with
 |some p=>Zl p.A (Ju p.a.ts v)
 |none=>[]
theorem zI {α:Type}{f}{l:List α}{i x}(hn:∀y∈l.take i,f y=false)(hi:l[i]?=some x)(hx:f x=true):l.find? f=some x:=by
 have aa:=(BG.1 hi);obtain⟨h1,h2⟩:=aa
 conv=>lhs;rw[<-KJ i l]
 rw[List.find?_append,IX.2 (fun y hy=>by rw[hn y hy];simp),FJ h1,h2];simp[hx]
theorem Lw (q c v)(hc:EQ q c)(hq:Qo q)(hN:QN q)(σ):AF Tryz.prog 189 [ag c,ic v] σ fun r σ'=>(∃id,r=sl id (Z (Mf q v)) (As (Mf q v)))/\AE σ σ':=by
 obtain⟨ih,ip,inn,pc,nc,rfl,hP,-⟩:=hc;have hpl:=EL.length E8 hP;have hl:=hq.pl;have hz:=oE;refine Z9 53 [.tmp 4] Tryz.func189 ?_
 refine zz ?_
 refine Ae (fun m s σ'=>∃i:Nat,m=Z q.A-i/\i<=Z q.A/\s 1=ic v/\s 5=nilS/\s 6=ptr (σ.B+1) 0/\s 14=sl ip (Z q.A) pc/\s 15=ic (Z q.A)/\s 16=ic i/\AE σ σ'/\σ.B+1<σ'.B/\σ'.C (σ.B+1)=Hg (fun _=>false)/\AD (∀p∈q.A.take i,Bj p.a.ts v=false)) (Z q.A)
  ⟨0,AA,AA,by simp[upd,AM],AG,AG,AG,AG,rfl,Xs,AK,?_,by simp[AD]⟩ ?_
 ·rw[Bg AK AK]
 rintro m s σ' ⟨i,rfl,hi,h1,h5,h6,bi,bh,bg,hK,a4,ao,hA⟩;have a3:=hK.B;by_cases aj:i<Z q.A
 ·have aa:=AJ aj;obtain⟨id,idt,r,hd⟩:=F5 hP aa;have be:=hq.pa _ (AT aj);have bd:=hq.pt _ (AT aj);have aw:=hq.p3 _ (AT aj);have a5:=hN _ (AT aj);generalize q.A[i]=w at hd aa be bd aw a5;have ba:Z w.a.ts<=1000:=AA;have an:=fun σ=>G4 w.a.p id w.a.ts v ba σ;have ay:AE σ ((σ'.new [ic 0,nilS,nilS]).put σ'.B [ic w.a.p,sl id (Z w.a.ts) (Ad w.a.ts),sl idt (Z w.A) (Fo w.A)]):=(hK.new _).put hK.B _;cases hv:Bj w.a.ts v with
  |false=>
   have hp:Ju w.a.ts v= -1:=Kv (by simpa[Bj]using hv);have HS:AD (∀p∈q.A.take (i+1),Bj p.a.ts v=false):=by
    rw[AD,AU,aa,BJ];intro p hp;rcases AW.1 hp with hp|hp
    ·exact hA.o p hp
    ·simp at hp;subst hp;exact hv
   rw[hp]at an;clear hp aa hA
   refine qb ?_;intro yd yb;refine Xi (an _) ?_;rintro _ _ ⟨rfl,ad⟩;(have af:=ad.B;have ac:=ad.C;have ax:=ay.trans ad;simp only[Ab,Aa]at af ac);refine pz ?_
   refine⟨Z q.A-(i+1),AA,i+1,?_⟩
   exact qh HS
  |true=>
   obtain⟨pl,ap,au⟩:=Kw hv;have HR:AD (Mf q v=Zl w.A pl):=by rw[AD,Mf,zI hA.o aa hv];simp only[au]
   rw[au]at an;clear au aa hA;have a8:pl<3:=AA;have a9:((pl:Int)== -1)=false:=by simp
   have bm:=J4 aw
   refine qb ?_;intro yd yb;refine Xi (an _) ?_;rintro _ _ ⟨rfl,ad⟩;(have af:=ad.B;have ac:=ad.C;have ax:=ay.trans ad;simp only[Ab,Aa]at af ac);refine pz ?_
   rename_i σ1;have o1:σ1.C (σ.B+1)=Hg (fun _=>false):=by rw[ac _ AA,Aj AA,Ah AA,ao]
   clear ac ad
   refine Ae (fun m s σ''=>∃(j i3:Nat) (vs:List Int) (f:Nat->Bool),m=Z w.A-j/\j<=Z w.A/\s 5=sl i3 (Z vs) (As vs)/\s 6=ptr (σ.B+1) 0/\s 9=ic pl/\s 27=sl idt (Z w.A) (Fo w.A)/\s 28=ic (Z w.A)/\s 29=ic j/\AE σ σ''/\σ.B+1<σ''.B/\σ''.C (σ.B+1)=Hg f/\Own σ σ'' i3 (Z vs)/\Z vs<=j/\AD (vs=Zl (w.A.take j) pl/\∀k:Nat,f k=true↔(k:Int)∈vs)) (Z w.A)
    ⟨0,1,[],fun _=>false,AA,AA,by simp[upd, *,As],AI,AG,AG,AG,rfl,ax,AA,o1,Own.nil _ _,by simp,by simp[Zl],by simp⟩ ?_
   clear o1 h1 h5 h6 bi bh bg hK a4 ao a3 ax ay;rintro m s σ'' ⟨j,i3,vs,f,rfl,hj,h5,h6,h9,bq,bp,bo,hK,a4,ao,hO,bl,hX⟩;have a3:=hK.B;have hil:=B9 vs;by_cases ai:j<Z w.A
   ·have aa:=AJ ai;obtain⟨ah,r2,bc⟩:=Ks aw aa;obtain⟨x,am,hx⟩:=a5 _ (AT ai) pl ap;generalize w.A[j]=t at bc aa ah am;have bn:=Qe am;have HS:AD (Zl (w.A.take (j+1)) pl=if (x:Int)∈vs then vs else vs++[(x:Int)]):=by
     have a7:I4 t pl=(x:Int):=by simp[I4,am]
     rw[AD,AU,aa,BJ,Zl,List.foldl_append,hX.o.1];simp only[IB,List.foldl_nil,xF,a7];rfl
    clear aa am;have f1:=Ir ah;have f2:=On ah;have f3:=Js ah;have f4:=Qd ah;have f5:=Fw t;have f6:=dS ah;have g1:=tD f hx;have g2:=tA f hx true;have g3:=tC f;by_cases hm:(x:Int)∈vs
    ·have av:f x=true:=(hX.o.2 x).2 hm;have HX:AD (vs=Zl (w.A.take (j+1)) pl/\∀k:Nat,f k=true↔(k:Int)∈vs):=⟨by rw[HS.o,if_pos hm],hX.o.2⟩;rw[av]at g1;clear hX HS hm g2
     refine pz ?_
     refine⟨Z w.A-(j+1),AA,j+1,i3,vs,f,?_⟩
     ((repeat' refine Zi ?_ ?_)<;>first|exact Xq|exact (Own.put (Own.new hO _) _ _)|exact HX|exact Xs)
    ·have av:f x=false:=by
      cases h:f x with
      |false=>rfl
      |true=>exact absurd ((hX.o.2 x).1 h) hm
     have HX:AD (vs++[(x:Int)]=Zl (w.A.take (j+1)) pl/\∀k:Nat,(if k=x then true else f k)=true↔(k:Int)∈vs++[(x:Int)]):=by
      refine⟨by rw[HS.o,if_neg hm],fun k=>?_⟩;have h2:=hX.o.2 k;by_cases e:k=x
      ·subst e;simp
      ·rw[if_neg e,h2];have:¬(k:Int)=(x:Int):=AA;simp[this]
     rw[av]at g1;clear hX HS hm
     refine qm ?_;intro yd yb
     refine Bn (by first|exact Si) (((hK.new _).put hK.B _).put AA _) (Own.put (Own.put (Own.new hO _) _ _) _ _) (by decide) (by rfl) (by rw[hil,Nat.mul_one]) (by rfl) (by rfl) (by decide) AA AA ?_;intro idn σn a6 bf a0 ae az ak;simp only[Ab,Aa]at ae;refine Z3 ?_
     refine pz ?_
     refine⟨Z w.A-(j+1),AA,j+1,idn,vs++[(x:Int)],fun k=>if k=x then true else f k,?_⟩
     ((repeat' refine Zi ?_ ?_)<;>first|exact Xq|exact (by simpa using a6)|exact HX|exact (by simp[As])|exact Xs)
   ·have bb:j=Z w.A:=AA;subst bb;obtain⟨x1,-⟩:=hX.o;rw[AS]at x1;rw[<-x1]at HR;have HR:=HR.o
    refine pz ?_
    first|exact⟨_,rfl,⟨i3,rfl⟩,hK⟩|exact⟨_,rfl,⟨i3,by rw[HR]⟩,hK⟩|exact⟨_,rfl,⟨i3,rfl⟩⟩|exact⟨_,rfl,i3,rfl⟩
 ·have hil:i=Z q.A:=AA;subst hil;rw[AS]at hA;have HR:Mf q v=[]:=by
   unfold Mf;rw[IX.2 (fun p hp=>by rw[hA.o p hp];simp)]
  refine pz ?_
  first|exact⟨_,rfl,⟨1,rfl⟩,hK⟩|exact⟨_,rfl,⟨1,by rw[HR];rfl⟩,hK⟩|exact⟨_,rfl,1,rfl⟩|exact⟨_,rfl,1,by rw[HR];rfl⟩
theorem Il {P t z b zc σ0 σ id id2 n m m' xs ys K}(ht:O5 P t=some (z,b,zc))(hK:AE σ0 σ)(hO:Own σ0 σ id n)
  (hz:0<z) (hzc:Z zc=z) (hx:Z xs=n*z) (hy:Z ys=m*z) (hf:ys.all flat=true) (hm:0<m) (hb:(n+m)*b<=140737488355328) (hl:n+m<=1099511627776)
  (h:∀id' σ',Own σ0 σ' id' (n+m)->AE σ0 σ'->σ'.C=σ.C->σ'.B=σ.B->σ'.ver=σ.ver->σ.D<σ'.D->(∀i k,Own σ0 σ i k->(id=1\/id≠i)->Own σ0 σ' i k/\(id'=1\/id'≠i))->K (sl id' (n+m) (xs++ys)) σ'):Iv P t t (sl id n xs) (sl id2 m ys) (σ.lay m') K:=by
 unfold Iv iE;left;simp only[ht];rw[if_pos ⟨trivial,hz,hzc,hx,hy,hf,hm,hb,hl⟩];rcases hO with⟨rfl,rfl⟩|⟨k,rfl,h2,h3,h4,h5⟩
 ·have ab:xs=[]:=GQ (by simpa using hx);subst ab
  have:=h ((σ.lay m').D+2) ((σ.lay m').lay m) (by rw[EJ];exact Own.made (hK.lay m') hm) ((hK.lay m').lay m) rfl rfl rfl (by simp[St.lay];omega) (fun i k ho _=>by
   refine⟨ho.keep (((AE.refl _).lay _).lay _),?_⟩;right;rcases ho with⟨rfl,-⟩|⟨j,rfl,-,hj,-⟩
   ·simp[St.lay]
   ·simp[St.lay];omega)
  simpa using this
 ·have e1:(σ.lay m').top k=n:=by simp[St.lay];rw[if_neg AA];exact h4
  simp only;rw[if_pos ⟨e1,h5⟩]
  exact h (k+2) _ (.inr ⟨k,rfl,h2,by simp[St.raise,St.lay];omega,by simp[St.raise],AA⟩) ((hK.lay m').raise h2 _) rfl rfl rfl (by simp[St.raise,St.lay]) (fun i j ho aa=>by
   have aa:k+2≠i:=by rcases aa with h|h<;>omega
   refine⟨?_,.inr aa⟩;rcases ho with ho|⟨j',rfl,g1,g2,g3,g4⟩
   ·exact .inl ho
   ·exact .inr ⟨j',rfl,g1,by simp[St.raise,St.lay];omega,by simp[St.raise,St.lay];rw[if_neg AA,if_neg AA];exact g3,g4⟩)
def Fu (f:Nat->Nat):List AV:=(List.range 1026).map fun i=>ic (f i:Nat)
theorem mT:Lb 1026 (.int .i64 0)=Fu fun _=>0:=by
 unfold Lb Fu;rw[List.map_const'];simp[cst1]
theorem X9 (f):Z (Fu f)=1026:=by simp[Fu]
theorem Ya (f){k}(h:k<1026):(Fu f)[k]?=some (ic (f k:Nat)):=by simp[Fu,h]
theorem rK (f){k}(h:k<1026)(b):(Fu f).set k (ic (b:Nat))=Fu fun j=>if j=k then b else f j:=by
 apply FS;intro n;rw[GK];by_cases hn:n<1026
 ·by_cases he:k=n
  ·subst he;simp[Fu,hn]
  ·have:n≠k:=fun e=>he e.symm;simp[Fu,hn,he,this]
 ·have:k≠n:=AA;simp[Fu,hn,this]
def NU (v:Int)(n:Int)(p:Part):Bool:=p.A.any fun t=>I4 t (Ju p.a.ts v)==n
def El (l:List Part)(v n:Int):Bool:=l.all fun p=>!Bj p.a.ts v||NU v n p
def G8 (l:List Part)(v:Int)(p:Part):Part:=if Bj p.a.ts v=true then⟨p.a,p.A.filter fun t=>El l v (I4 t (Ju p.a.ts v))⟩else p
def Gn (q:AY)(v:Int):AY:={q with A:=q.A.map (G8 q.A v)}
def gF (f:Nat->Nat)(a:Nat)(pl:Int)(l:List Cc)(k:Nat):Nat:=if f k=a/\l.any (fun t=>I4 t pl==(k:Int))=true then a+1 else f k
theorem YO {f a pl l t}{x:Nat}(ht:I4 t pl=(x:Int)):gF f a pl (l++[t])=fun k=>if k=x/\gF f a pl l x=a then a+1 else gF f a pl l k:=by
 funext k;have aa:(l++[t]).any (fun t=>I4 t pl==(k:Int))=(l.any (fun t=>I4 t pl==(k:Int))||decide (k=x)):=by
  rw[LM];simp only[List.any_cons,List.any_nil,MO,ht];congr 1;by_cases e:k=x
  ·subst e;simp
  ·have:¬(x:Int)=(k:Int):=AA;simp[e,this]
 unfold gF;rw[aa];by_cases e:k=x
 ·subst e;by_cases h1:f k=a
  ·cases h2:l.any (fun t=>I4 t pl==(k:Int))<;>simp[h1]
  ·simp[h1]
 ·simp[e]
theorem nz (f a pl):gF f a pl []=f:=by funext k;simp[gF]
theorem nX (q c v)(hc:EQ q c)(hq:Qo q)(hN:QN q)(σ):AF Tryz.prog 255 [ag c,ic v] σ fun r σ'=>(∃c',r=ag c'/\EQ (Gn q v) c')/\AE σ σ':=by
 obtain⟨ih,ip,inn,pc,nc,rfl,hP,cd⟩:=hc;have hpl:=EL.length E8 hP;have hl:=hq.pl;have hz:=mT;refine Z9 113 [.cell 4 191] Tryz.func255 ?_
 refine zz ?_
 refine Ae (fun m s σ'=>∃(i a:Nat) (f:Nat->Nat),m=Z q.A-i/\i<=Z q.A/\s 1=ic v/\s 2=ptr σ.B 0/\s 4=ptr (σ.B+1) 0/\s 5=ptr (σ.B+2) 0/\s 6=ic a/\s 20=sl ip (Z q.A) pc/\s 21=ic (Z q.A)/\s 22=ic i/\AE σ σ'/\σ.B+2<σ'.B/\σ'.C σ.B=[ic q.h.p,sl ih (Z q.h.ts) (Ad q.h.ts),sl ip (Z q.A) pc,sl inn (Z q.B) nc]/\σ'.C (σ.B+1)=[ic 0,nilS,nilS,nilS]/\σ'.C (σ.B+2)=Fu f/\a<=i/\(∀k,f k<=a)/\AD (∀k,f k=a↔El (q.A.take i) v (k:Int)=true)) (Z q.A)
  ⟨0,0,fun _=>0,AA,AA,by simp[upd,AM],AG,AG,AG,AG,AG,AG,rfl,Xs,AK,?_,?_,?_,AA,by simp,by simp[AD,El]⟩ ?_
 ·rw[Ah AK,Ah AK,Ao]
 ·rw[Ah AK,Bg AK AK]
 ·rw[Bg AK AK]
 rintro m s σ' ⟨i,a,f,rfl,hi,h1,h2,h4,h5,h6,bv,bu,br,hK,ay,a9,am,ak,cn,ba,hA⟩;have bw:=hK.B;by_cases af:i<Z q.A
 ·have aa:=AJ af;obtain⟨id,idt,r,hd⟩:=F5 hP aa;have bn:=hq.pa _ (AT af);have bm:=hq.pt _ (AT af);have az:=hq.p3 _ (AT af);have a5:=hN _ (AT af);generalize q.A[i]=w at hd aa bn bm az a5;have bh:Z w.a.ts<=1000:=AA;have ao:=fun σ=>G4 w.a.p id w.a.ts v bh σ;have a3:AE σ ((σ'.new [ic 0,nilS,nilS]).put σ'.B [ic w.a.p,sl id (Z w.a.ts) (Ad w.a.ts),sl idt (Z w.A) (Fo w.A)]):=(hK.new _).put hK.B _;have bb:AD (∀n,El (q.A.take (i+1)) v n=(El (q.A.take i) v n&&(!Bj w.a.ts v||NU v n w))):=by
   intro n;rw[AU,aa,BJ,El,List.all_append];simp[El]
  clear aa;cases hv:Bj w.a.ts v with
  |false=>
   have hp:Ju w.a.ts v= -1:=Kv (by simpa[Bj]using hv);have HS:AD (∀k,f k=a↔El (q.A.take (i+1)) v (k:Int)=true):=by
    intro k;rw[bb.o,hv,hA.o k];simp
   rw[hp]at ao;clear hp hA bb
   refine qb ?_;intro yd yb;refine Xi (ao _) ?_;rintro _ _ ⟨rfl,ad⟩;(have ah:=ad.B;have ab:=ad.C;have a0:=a3.trans ad;simp only[Ab,Aa]at ah ab);refine pz ?_
   refine⟨Z q.A-(i+1),AA,i+1,a,f,?_⟩
   exact qh HS
  |true=>
   obtain⟨pl,aw,ax⟩:=Kw hv;have HS:AD (∀k,gF f a pl w.A k=a+1↔El (q.A.take (i+1)) v (k:Int)=true):=by
    intro k;have h1:=hA.o k;have h2:=ba k;rw[bb.o,hv,BX,<-h1];simp only[JA,MP,NU,ax];unfold gF;by_cases hc:f k=a/\w.A.any (fun t=>I4 t pl==(k:Int))=true
    ·rw[if_pos hc];exact⟨fun _=>hc,fun _=>rfl⟩
    ·rw[if_neg hc];exact⟨fun h=>AA,fun h=>absurd h hc⟩
   have cg:AD (∀k,gF f a pl w.A k<=a+1):=by
    intro k;have h2:=ba k;unfold gF;split<;>omega
   rw[ax]at ao;clear ax hA bb;have be:pl<3:=AA;have bg:((pl:Int)== -1)=false:=by simp
   have b6:=J4 az
   refine qb ?_;intro yd yb;refine Xi (ao _) ?_;rintro _ _ ⟨rfl,ad⟩;(have ah:=ad.B;have ab:=ad.C;have a0:=a3.trans ad;simp only[Ab,Aa]at ah ab);refine pz ?_
   rename_i σ1;have p0:σ1.C σ.B=[ic q.h.p,sl ih (Z q.h.ts) (Ad q.h.ts),sl ip (Z q.A) pc,sl inn (Z q.B) nc]:=by rw[ab _ AA,Aj AA,Ah AA,a9]
   have p1:σ1.C (σ.B+1)=[ic 0,nilS,nilS,nilS]:=by rw[ab _ AA,Aj AA,Ah AA,am]
   have p2:σ1.C (σ.B+2)=Fu f:=by rw[ab _ AA,Aj AA,Ah AA,ak]
   clear ab ad
   refine Ae (fun m s σ''=>∃(j:Nat) (g:Nat->Nat),m=Z w.A-j/\j<=Z w.A/\s 1=ic v/\s 2=ptr σ.B 0/\s 4=ptr (σ.B+1) 0/\s 5=ptr (σ.B+2) 0/\s 6=ic a/\s 9=ic pl/\s 20=sl ip (Z q.A) pc/\s 21=ic (Z q.A)/\s 22=ic i/\s 33=sl idt (Z w.A) (Fo w.A)/\s 34=ic (Z w.A)/\s 35=ic j/\AE σ σ''/\σ.B+2<σ''.B/\σ''.C σ.B=[ic q.h.p,sl ih (Z q.h.ts) (Ad q.h.ts),sl ip (Z q.A) pc,sl inn (Z q.B) nc]/\σ''.C (σ.B+1)=[ic 0,nilS,nilS,nilS]/\σ''.C (σ.B+2)=Fu g/\(∀k,g k<=a+1)/\AD (g=gF f a pl (w.A.take j))) (Z w.A)
    ⟨0,f,AA,AA,AI,AI,AI,AI,AI,AG,AI,AI,AI,AG,AG,rfl,a0,AA,p0,p1,p2,fun k=>by have:=ba k;omega,by simp[AD,nz]⟩ ?_
   clear p0 p1 p2 h1 h2 h4 h5 h6 bv bu br hK ay a9 am ak bw a0 a3;rintro m s σ'' ⟨j,g,rfl,hj,h1,h2,h4,h5,h6,h9,bv,bu,br,cu,ct,cr,hK,ay,a9,am,ak,cb,hX⟩;have bw:=hK.B;by_cases ai:j<Z w.A
   ·have aa:=AJ ai;obtain⟨ae,r2,bl⟩:=Ks az aa;obtain⟨x,an,hx⟩:=a5 _ (AT ai) pl aw;generalize w.A[j]=t at bl aa ae an;have ca:=Qe an;have HG:AD (gF f a pl (w.A.take (j+1))=fun k=>if k=x/\g x=a then a+1 else g k):=by
     have bd:I4 t pl=(x:Int):=by simp[I4,an]
     rw[AD,AU,aa,BJ,YO bd,hX.o]
    clear aa an hX;have f1:=Ir ae;have f2:=On ae;have f3:=Js ae;have f4:=Qd ae;have f5:=Fw t;have f6:=dS ae;have g1:=Ya g hx;have g2:=rK g hx (a+1);have g3:=X9 g;by_cases hm:g x=a
    ·have HX:AD ((fun k=>if k=x then a+1 else g k)=gF f a pl (w.A.take (j+1))):=by
      rw[AD,HG.o];funext k;simp[hm]
     have hb:((g x:Int)==(a:Int))=true:=by simp[hm]
     rw[hm]at g1;have ap:((a+1:Nat):Int)=(a:Int)+1:=AA;rw[ap]at g2;clear ap HG
     refine pz ?_
     refine⟨Z w.A-(j+1),AA,j+1,fun k=>if k=x then a+1 else g k,?_⟩
     ((repeat' refine Zi ?_ ?_)<;>first|exact Xq|exact HX|exact (fun k=>by have:=cb k;dsimp only;split<;>omega)|exact Xs)
    ·have HX:AD (g=gF f a pl (w.A.take (j+1))):=by
      rw[AD,HG.o];funext k;simp[hm]
     have hb:((g x:Int)==(a:Int))=false:=by simp;omega
     clear HG hm g2
     refine pz ?_
     refine⟨Z w.A-(j+1),AA,j+1,g,?_⟩
     exact qh HX
   ·have bi:j=Z w.A:=AA;subst bi;have hX:=hX.o;rw[AS]at hX;subst hX
    refine pz ?_
    refine⟨Z q.A-(i+1),AA,i+1,a+1,gF f a pl w.A,?_⟩
    exact qi HS cg.o
 ·have hil:i=Z q.A:=AA;subst hil;rw[AS]at hA;clear hi
  refine pz ?_
  refine Ae (fun m s σ2=>∃(k i3:Nat) (xs:List AV),m=Z q.A-k/\k<=Z q.A/\s 1=ic v/\s 4=ptr (σ.B+1) 0/\s 5=ptr (σ.B+2) 0/\s 6=ic a/\s 12=ptr σ'.B 0/\s 63=sl ip (Z q.A) pc/\s 64=ic (Z q.A)/\s 65=ic k/\AE σ σ2/\σ'.B<σ2.B/\σ2.C (σ.B+1)=[ic 0,nilS,nilS,nilS]/\σ2.C (σ.B+2)=Fu f/\σ2.C σ'.B=[ic q.h.p,sl ih (Z q.h.ts) (Ad q.h.ts),sl i3 k xs,sl inn (Z q.B) nc]/\Own σ σ2 i3 k/\Z xs=k*3/\AD (EL N7 ((q.A.take k).map (G8 q.A v)) xs)) (Z q.A)
   ⟨0,1,[],AA,AA,AI,AI,AI,AI,AG,AG,AG,rfl,(hK.new _).put hK.B _,BM,?_,?_,?_,Own.nil _ _,by simp,by simp[AD,EL]⟩ ?_
  ·rw[Aj AA,Ah AA,am]
  ·rw[Aj AA,Ah AA,ak]
  ·rw[Ak]
  have cf:=ay;clear h1 h2 h4 h5 h6 bv bu br af a9 am ak ay hK;generalize bq:σ'.B=o12 at*
  clear bq;rintro m s σ2 ⟨k,i3,xs,rfl,hk,h1,h4,h5,h6,b3,b2,b1,b0,hK,ay,am,ak,bc,hO,cj,hX⟩;have ah:=hK.B;by_cases af:k<Z q.A
  ·have aa:=AJ af;obtain⟨id,idt,r,hd⟩:=F5 hP aa;have bn:=hq.pa _ (AT af);have bm:=hq.pt _ (AT af);have az:=hq.p3 _ (AT af);have a5:=hN _ (AT af);generalize q.A[k]=w at hd aa bn bm az a5;have bh:Z w.a.ts<=1000:=AA;have ao:=fun σ=>G4 w.a.p id w.a.ts v bh σ;have a3:AE σ ((σ2.new [ic 0,nilS,nilS]).put σ2.B [ic w.a.p,sl id (Z w.a.ts) (Ad w.a.ts),sl idt (Z w.A) (Fo w.A)]):=(hK.new _).put hK.B _;have HM:AD ((q.A.take (k+1)).map (G8 q.A v)=(q.A.take k).map (G8 q.A v)++[G8 q.A v w]):=by
    rw[AD,AU,aa];simp
   clear aa;cases hv:Bj w.a.ts v with
   |false=>
    have hp:Ju w.a.ts v= -1:=Kv (by simpa[Bj]using hv);have HX:AD (EL N7 ((q.A.take (k+1)).map (G8 q.A v)) (xs++[ic w.a.p,sl id (Z w.a.ts) (Ad w.a.ts),sl idt (Z w.A) (Fo w.A)])):=by
     rw[AD,HM.o];refine EL.append hX.o (EL.single ?_);rw[G8,if_neg (by rw[hv];simp)];exact⟨id,idt,rfl⟩
    rw[hp]at ao;clear hp HM hX
    refine qb ?_;intro yd yb;refine Xi (ao _) ?_;rintro _ _ ⟨rfl,ad⟩;(have av:=ad.B;have ab:=ad.C;have a0:=a3.trans ad;have bo:=Own.keep (Own.put (Own.new hO _) _ _) ad;simp only[Ab,Aa]at av ab);refine qd ?_;intro yd yb;intro idn σn a6 a7 a4 aj a8 au;refine pz ?_
    refine⟨Z q.A-(k+1),AA,k+1,idn,xs++[ic w.a.p,sl id (Z w.a.ts) (Ad w.a.ts),sl idt (Z w.A) (Fo w.A)],?_⟩
    ((repeat' refine Zi ?_ ?_)<;>first|exact Xq|exact (a7.put AA _)|exact (Own.put a6 _ _)|exact HX|exact Xs)
   |true=>
    obtain⟨pl,aw,ax⟩:=Kw hv;have ch:AD (G8 q.A v w=⟨w.a,w.A.filter fun t=>El q.A v (I4 t pl)⟩):=by rw[AD,G8,if_pos hv,ax]
    rw[ax]at ao;clear ax;have be:pl<3:=AA;have bg:((pl:Int)== -1)=false:=by simp
    have b6:=J4 az;have cc:AD _:=hX
    refine qb ?_;intro yd yb;refine Xi (ao _) ?_;rintro _ _ ⟨rfl,ad⟩;(have av:=ad.B;have ab:=ad.C;have a0:=a3.trans ad;have bo:=Own.keep (Own.put (Own.new hO _) _ _) ad;simp only[Ab,Aa]at av ab);refine pz ?_
    rename_i σ3;have p1:σ3.C (σ.B+1)=[ic 0,nilS,nilS,nilS]:=by rw[ab _ AA,Aj AA,Ah AA,am]
    have p2:σ3.C (σ.B+2)=Fu f:=by rw[ab _ AA,Aj AA,Ah AA,ak]
    have p3:σ3.C o12=[ic q.h.p,sl ih (Z q.h.ts) (Ad q.h.ts),sl i3 k xs,sl inn (Z q.B) nc]:=by rw[ab _ AA,Aj AA,Ah AA,bc]
    clear ab ad
    refine Ae (fun m s σ4=>∃(j i5:Nat) (o:List Cc) (ys:List AV),m=Z w.A-j/\j<=Z w.A/\s 1=ic v/\s 4=ptr (σ.B+1) 0/\s 5=ptr (σ.B+2) 0/\s 6=ic a/\s 12=ptr o12 0/\s 15=ic pl/\s 16=ptr σ3.B 0/\s 63=sl ip (Z q.A) pc/\s 64=ic (Z q.A)/\s 65=ic k/\s 85=sl idt (Z w.A) (Fo w.A)/\s 86=ic (Z w.A)/\s 87=ic j/\AE σ σ4/\σ3.B<σ4.B/\σ4.C (σ.B+1)=[ic 0,nilS,nilS,nilS]/\σ4.C (σ.B+2)=Fu f/\σ4.C o12=[ic q.h.p,sl ih (Z q.h.ts) (Ad q.h.ts),sl i3 k xs,sl inn (Z q.B) nc]/\σ4.C σ3.B=[ic w.a.p,sl id (Z w.a.ts) (Ad w.a.ts),sl i5 (Z o) ys]/\Own σ σ4 i3 k/\Own σ σ4 i5 (Z o)/\(i5=1\/i5≠i3)/\Z o<=j/\Z ys=Z o*3/\AD (ys=Fo o/\o=(w.A.take j).filter fun t=>El q.A v (I4 t pl))) (Z w.A)
     ⟨0,1,[],[],AA,AA,AI,AI,AI,AI,AI,AG,AG,AI,AI,AI,AG,AG,rfl,(a0.new _).put AA _,BM,?_,?_,?_,?_,Own.put (Own.new bo _) _ _,Own.nil _ _,.inl rfl,by simp,by simp,⟨rfl,by simp⟩⟩ ?_
    ·rw[Aj AA,Ah AA,p1]
    ·rw[Aj AA,Ah AA,p2]
    ·rw[Aj AA,Ah AA,p3]
    ·rw[Ak];simp
    have cx:o12<σ3.B:=AA;clear p1 p2 p3 h1 h4 h5 h6 b3 b2 b1 b0 hK ay am ak bc hO bo a0 a3 hX ah;rintro m s σ4 ⟨j,i5,o,ys,rfl,hj,h1,h4,h5,h6,b3,cw,cv,b2,b1,b0,cq,cp,co,hK,ay,am,ak,bc,ci,bz,hO,b8,ck,b5,hX⟩;have b4:=hK.B;by_cases ai:j<Z w.A
    ·have aa:=AJ ai;obtain⟨ae,r2,bl⟩:=Ks az aa;obtain⟨x,an,hx⟩:=a5 _ (AT ai) pl aw;generalize w.A[j]=t at bl aa ae an;have ca:=Qe an;have HF:AD ((w.A.take (j+1)).filter (fun t=>El q.A v (I4 t pl))=(w.A.take j).filter (fun t=>El q.A v (I4 t pl))++if f x=a then [t]else []):=by
      have bd:I4 t pl=(x:Int):=by simp[I4,an]
      rw[AD,AU,aa,BJ,Ez,bd];congr 1;have h1:=hA.o x;by_cases e:f x=a
      ·rw[if_pos e,if_pos (h1.1 e)]
      ·rw[if_neg e,if_neg (fun h=>e (h1.2 h))]
     clear aa an;have f1:=Ir ae;have f2:=On ae;have f3:=Js ae;have f4:=Qd ae;have f5:=Fw t;have f6:=dS ae;have g1:=Ya f hx;have g3:=X9 f;have cm:=ba x;by_cases hm:f x=a
     ·have HX:AD (ys++As t=Fo (o++[t])/\o++[t]=(w.A.take (j+1)).filter fun t=>El q.A v (I4 t pl)):=by
       obtain⟨x1,x2⟩:=hX.o;exact⟨by rw[x1,Qz],by rw[HF.o,if_pos hm,x2]⟩
      have hb:((f x:Int)==(a:Int))=true:=by simp[hm]
      clear hX HF hm
      refine qm ?_;intro yd yb
      refine Il (by first|exact G9|exact En) ((hK.new _).put hK.B _) (Own.put (Own.new hO _) _ _) (by decide) (by rfl) b5 (by rw[f1]) f5 (by decide) AA AA ?_;intro idn σn a6 a7 a4 aj a8 au bf;obtain⟨bp,b7⟩:=bf i3 k (Own.put (Own.new bz _) _ _) b8;simp only[Ab,Aa]at aj;have eob:∀p,p<σ4.B->σn.C p=σ4.C p:=fun p hp=>by rw[a4,Aj AA,Ah AA]
      refine Z3 ?_
      refine zz ?_
      refine⟨Z w.A-(j+1),AA,j+1,idn,o++[t],ys++As t,?_⟩
      ((repeat' refine Zi ?_ ?_)<;>first|exact Xq|exact (a7.put AA _)|exact (by simpa using Own.put a6 _ _)|exact (Own.put bp _ _)|exact HX|exact Xs)
     ·have HX:AD (ys=Fo o/\o=(w.A.take (j+1)).filter fun t=>El q.A v (I4 t pl)):=by
       obtain⟨x1,x2⟩:=hX.o;exact⟨x1,by rw[HF.o,if_neg hm,x2,FA]⟩
      have hb:((f x:Int)==(a:Int))=false:=by simp;omega
      clear hX HF hm
      refine pz ?_
      refine⟨Z w.A-(j+1),AA,j+1,i5,o,ys,?_⟩
      ((repeat' refine Zi ?_ ?_)<;>first|exact Xq|exact (Own.put (Own.new hO _) _ _)|exact (Own.put (Own.new bz _) _ _)|exact HX|exact Xs)
    ·have bi:j=Z w.A:=AA;subst bi;obtain⟨x1,x2⟩:=hX.o;rw[AS]at x2;have HX:AD (EL N7 ((q.A.take (k+1)).map (G8 q.A v)) (xs++[ic w.a.p,sl id (Z w.a.ts) (Ad w.a.ts),sl i5 (Z o) ys])):=by
      rw[AD,HM.o];refine EL.append cc.o (EL.single ?_);rw[ch.o,<-x2];exact⟨id,i5,by rw[x1]⟩
     clear hX x1 x2
     refine qd ?_;intro yd yb;intro idn σn a6 a7 a4 aj a8 au;refine pz ?_
     refine⟨Z q.A-(k+1),AA,k+1,idn,xs++[ic w.a.p,sl id (Z w.a.ts) (Ad w.a.ts),sl i5 (Z o) ys],?_⟩
     ((repeat' refine Zi ?_ ?_)<;>first|exact Xq|exact (a7.put AA _)|exact (Own.put a6 _ _)|exact HX|exact Xs)
  ·have b9:k=Z q.A:=AA;subst b9;rw[AS]at hX;have ce:Z (q.A.map (G8 q.A v))=Z q.A:=by rw[BP]
   refine pz ?_
   exact⟨_,rfl,⟨_,rfl,ih,i3,inn,xs,nc,by simp only[Gn];rw[ce],hX.o,cd⟩,hK.put AA _⟩
inductive CF (q:AY):AY->Prop where
 |refl:CF q q
 |tail {q':AY} (v:Int):CF q q'->CF q (Gn q' v)
theorem S0 (l v p):(G8 l v p).a=p.a:=by unfold G8;split<;>rfl
theorem Rc (l v p):∀t∈(G8 l v p).A,t∈p.A:=by
 unfold G8;split
 ·intro t ht;exact (BV.1 ht).1
 ·exact fun t ht=>ht
theorem mU (l v p):Z (G8 l v p).A<=Z p.A:=by
 unfold G8;split
 ·exact KE _ _
 ·exact AR _
theorem kl {q v}(h:Qo q):Qo (Gn q v):=by
 have hm:∀p∈(Gn q v).A,∃p0∈q.A,G8 q.A v p0=p:=fun p hp=>AO.1 hp;refine⟨h.hd,by simp[Gn];exact h.pl,h.nl,fun p hp=>?_,fun p hp=>?_,fun p hp=>?_,h.na⟩
 ·obtain⟨p0,h0,rfl⟩:=hm p hp;rw[S0];exact h.pa p0 h0
 ·obtain⟨p0,h0,rfl⟩:=hm p hp;exact BO (mU _ _ _) (h.pt p0 h0)
 ·obtain⟨p0,h0,rfl⟩:=hm p hp;exact fun t ht=>h.p3 p0 h0 t (Rc _ _ _ t ht)
theorem pk {q v}(h:QN q):QN (Gn q v):=fun p hp t ht=>by
 obtain⟨p0,h0,rfl⟩:=AO.1 hp;rw[S0];exact h p0 h0 t (Rc _ _ _ t ht)
theorem CF.ok {q q'}(h:CF q q')(hq:Qo q):Qo q':=by
 induction h with
 |refl=>exact hq
 |tail v _ ih=>exact kl ih
theorem CF.n {q q'}(h:CF q q')(hq:QN q):QN q':=by
 induction h with
 |refl=>exact hq
 |tail v _ ih=>exact pk ih
def Sr (q:AY)(v:Int):AY:=if 1<Dn (q.A.map (·.a)) v then Gn q v else q
def pJ (q:AY)(vs:List Int):AY:=vs.foldl Sr q
theorem lD {q}(h:Qo q):C5 q.A<=320000:=by
 have h1:=h.pl;have h2:=h.pt;have:∀l:List Part,(∀p∈l,Z p.A<=5000)->C5 l<=Z l*5000:=by
  intro l;induction l with
  |nil=>intro _;simp[C5]
  |cons a l ih=>
   intro h;have h3:=h a (by simp);have h4:=ih (fun p hp=>h p (by simp[hp]));simp only[C5,CU,List.sum_cons,BQ]at*
   omega
 have h5:=this q.A h2;omega
theorem zO (q c)(hc:EQ q c)(hq:Qo q)(hN:QN q)(σ):AF Tryz.prog 220 [ag c] σ fun r σ'=>(∃c' q' qp,r=ag c'/\EQ q' c'/\CF q qp/\CF q q'/\q'=pJ qp (Co (atomsQ qp))/\C5 qp.A<=C5 q'.A)/\AE σ σ':=by
 have hS:=fun σ=>Yk q c hc hq σ;have bd:=lD hq;have HC:AD (EQ q c):=hc;obtain⟨ih0,ip0,in0,pc0,nc0,rfl,-,-⟩:=hc;refine Z9 32 [.cell 2 191] Tryz.func220 ?_
 refine qb ?_;intro yd yb;refine Xi (hS _) ?_;rintro _ _ ⟨rfl,ad⟩;(have ac:=ad.B;have aa:=ad.C;have ab:=(((AE.refl σ).new _).new _).trans ad;simp only[Aa]at ac aa);refine pz ?_
 rename_i σ1;have o0:σ1.C σ.B=[ic q.h.p,sl ih0 (Z q.h.ts) (Ad q.h.ts),sl ip0 (Z q.A) pc0,sl in0 (Z q.B) nc0]:=by rw[aa _ AA,Ah AK,Ao]
 have o1:σ1.C (σ.B+1)=[ic 0,nilS,nilS,nilS]:=by rw[aa _ AA,Bg AK AK]
 clear aa ad
 refine Ae (fun m s σ'=>∃(qk:AY) (ck:List AV),s 1=ptr σ.B 0/\s 2=ptr (σ.B+1) 0/\s 3=ic m/\m<=320001/\AE σ σ'/\σ.B+1<σ'.B/\σ'.C σ.B=ck/\σ'.C (σ.B+1)=[ic 0,nilS,nilS,nilS]/\AD (EQ qk ck/\CF q qk/\(C5 qk.A<m\/∃qp,CF q qp/\qk=pJ qp (Co (atomsQ qp))/\C5 qp.A=m))) (C5 q.A+1)
  ⟨q,_,AG,AG,AG,AA,ab,AA,o0,o1,HC.o,.refl,.inl AA⟩ ?_
 clear o0 o1 ab ac hS bd HC;rintro m s σ' ⟨qk,ck,h1,h2,h3,hm,hK,be,ax,aw,hQ⟩;have bz:=hK.B;have ah:=hQ.o.2.1.ok hq;have bf:=hQ.o.2.1.n hN;have hS:=fun σ=>Yk qk ck hQ.o.1 ah σ;have bg:=fun σ=>Kc qk ck hQ.o.1 ah σ;have bd:=lD ah;obtain⟨ihk,ipk,ink,pck,nck,rfl,-,-⟩:=hQ.o.1;have bb:=N0 ah;have b1:=Jz ah;have a7:=fun (cs:List AV) (i:Nat) (hE:EL O1 (atomsQ qk) cs) (σ:St)=>Hy (atomsQ qk) cs i hE bb AA σ;have bm:=Fz bb;have b5:AD (Qo qk/\QN qk):=⟨ah,bf⟩;by_cases bo:C5 qk.A<m
 ·generalize bc:Co (atomsQ qk)=vs at a7 bm;have bv:AD _:=bc;clear bc bb bf ah;generalize a4:C5 qk.A=sz at*
  have bw:AD _:=a4;clear a4
  repeat' first|refine Z1 ?_|refine Z8 fun yd yb=>?_|refine Z4 ?_;clear yb yd|refine Z2 ?_ ?_<;>intro h af<;>try exact Xp|(refine Z5 ?_;first|(refine Xi (hS _) ?_;rintro _ _ ⟨rfl,ad⟩;(have ac:=ad.B;have aa:=ad.C;have ab:=hK.trans ad;clear hK ad;have hK:=ab;clear ab))|(refine Xi (bg _) ?_;rintro _ _ ⟨ida,cs,rfl,hE,av⟩;(have a3:=av.B;have an:=av.C;have ab:=hK.trans av;clear av hK;have hK:=ab;clear ab;have ao:=a7 cs ida hE))|(refine Xi (ao _) ?_;rintro _ _ ⟨⟨idv,rfl⟩,au⟩;(have a0:=au.B;have am:=au.C;have ab:=hK.trans au;clear au hK;have hK:=ab;clear ab)))|refine Z3 ?_|exact Zt|apply yb.o;clear yb yd
  rename_i σa kno2a kob2a σb σc σd;have b0:=B9 vs;have ech:∀p,p<σ'.B->σd.C p=σ'.C p:=fun p hp=>by rw[am _ AA,an _ AA,aa _ AA,kob2a _ AA]
  refine Ae (fun m' s σ2=>∃(j:Nat) (qj:AY) (cj:List AV),m'=Z vs-j/\j<=Z vs/\s 1=ptr σ.B 0/\s 2=ptr (σ.B+1) 0/\s 3=ic sz/\s 17=sl idv (Z vs) (As vs)/\s 18=ic (Z vs)/\s 19=ic j/\AE σ σ2/\σ.B+1<σ2.B/\σ2.C σ.B=cj/\σ2.C (σ.B+1)=[ic 0,nilS,nilS,nilS]/\AD (EQ qj cj/\CF q qj/\qj=pJ qk (vs.take j))) (Z vs)
   ⟨0,qk,_,AA,AA,AI,AI,AI,AG,AG,rfl,hK,AA,rfl,by rw[ech _ AA,aw],by rw[ech _ AA,ax];exact hQ.o.1,hQ.o.2.1,by simp[pJ]⟩ ?_
  clear ech am an aa kob2a hK ax aw h1 h2 h3 be hS bg a7 ao hE a0 a3 ac kno2a;rintro m' s σ2 ⟨j,qj,cj,rfl,hj,h1,h2,h3,b4,b3,b2,hK,be,ax,aw,hJ⟩;have ac:=hK.B;have a5:=hJ.o.2.1.ok hq;have bn:=hJ.o.2.1.n hN;have ak:=fun v σ=>Mc qj cj v hJ.o.1 a5 σ;have a8:=fun v σ=>nX qj cj v hJ.o.1 a5 bn σ;have ap:∀v,Dn (qj.A.map (·.a)) v<=64:=fun v=>by
   have h1:=wO (qj.A.map (·.a)) v;have h2:=a5.pl;simp at h1;omega
  have bh:AD (EQ qj cj):=hJ.o.1;obtain⟨ihj,ipj,inj,pcj,ncj,rfl,-,-⟩:=hJ.o.1;by_cases a6:j<Z vs
  ·have ae:=AJ a6;obtain⟨r,hd⟩:=Dz ae;generalize vs[j]=v at hd ae;have HR:AD (pJ qk (vs.take (j+1))=Sr qj v):=by
    rw[AD,AU,ae,BJ,pJ,List.foldl_append,hJ.o.2.2];rfl
   clear ae;have ak:=ak v;have a8:=a8 v;have ap:=ap v;by_cases aj:1<Dn (qj.A.map (·.a)) v
   ·have HR:AD (pJ qk (vs.take (j+1))=Gn qj v):=by rw[AD,HR.o,Sr,if_pos aj]
    generalize Dn (qj.A.map (·.a)) v=cn at ak aj ap;have hb:decide ((cn:Int)>1)=true:=by simp;omega
    clear aj
    (repeat (refine qb ?_;intro yd yb;(first|(refine Xi (ak _) ?_;rintro _ _ ⟨rfl,ai⟩;(have az:=ai.B;have ay:=ai.C;have ab:=hK.trans ai))|(refine Xi (a8 _) ?_;rintro _ _ ⟨⟨_,rfl,ih6,ip6,in6,pc6,nc6,rfl,bq,br⟩,a9⟩;(have bl:=a9.B;have bi:=a9.C;have bu:=ab.trans a9)))));refine pz ?_
    refine⟨Z vs-(j+1),AA,j+1,Gn qj v,[ic (Gn qj v).h.p,sl ih6 (Z (Gn qj v).h.ts) (Ad (Gn qj v).h.ts),sl ip6 (Z (Gn qj v).A) pc6,sl in6 (Z (Gn qj v).B) nc6],?_⟩
    ((repeat' refine Zi ?_ ?_)<;>first|exact Xq|exact (bu.put AA _)|exact (⟨⟨ih6,ip6,in6,pc6,nc6,rfl,bq,br⟩,.tail v hJ.o.2.1,HR.o.symm⟩)|exact Xs)
   ·have HR:AD (pJ qk (vs.take (j+1))=qj):=by rw[AD,HR.o,Sr,if_neg aj]
    generalize Dn (qj.A.map (·.a)) v=cn at ak aj ap;have hb:decide ((cn:Int)>1)=false:=by simp;omega
    clear aj
    refine qb ?_;intro yd yb;refine Xi (ak _) ?_;rintro _ _ ⟨rfl,ai⟩;(have az:=ai.B;have ay:=ai.C;have ab:=hK.trans ai);refine pz ?_
    refine⟨Z vs-(j+1),AA,j+1,qj,[ic qj.h.p,sl ihj (Z qj.h.ts) (Ad qj.h.ts),sl ipj (Z qj.A) pcj,sl inj (Z qj.B) ncj],?_⟩
    ((repeat' refine Zi ?_ ?_)<;>first|exact Xq|exact (⟨bh.o,hJ.o.2.1,HR.o.symm⟩)|exact Xs)
  ·have bp:j=Z vs:=AA;subst bp;have ba:=hJ.o.2.2;rw[AS]at ba
   have HF:AD (EQ qj [ic qj.h.p,sl ihj (Z qj.h.ts) (Ad qj.h.ts),sl ipj (Z qj.A) pcj,sl inj (Z qj.B) ncj]/\CF q qj/\(C5 qj.A<sz\/∃qp,CF q qp/\qj=pJ qp (Co (atomsQ qp))/\C5 qp.A=sz)):=
    ⟨bh.o,hJ.o.2.1,.inr ⟨qk,hQ.o.2.1,by rw[bv.o];exact ba,bw.o⟩⟩
   clear ba
   refine pz ?_
   refine⟨sz,AA,qj,[ic qj.h.p,sl ihj (Z qj.h.ts) (Ad qj.h.ts),sl ipj (Z qj.A) pcj,sl inj (Z qj.B) ncj],?_⟩
   exact qh HF
 ·have hR:∃qp,CF q qp/\qk=pJ qp (Co (atomsQ qp))/\C5 qp.A<=C5 qk.A:=by
   rcases hQ.o.2.2 with h|⟨qp,h1,h2,h3⟩
   ·exact absurd h bo
   ·exact⟨qp,h1,h2,AA⟩
  have HR:AD _:=hR;clear hR;generalize a4:C5 qk.A=sz at*
  refine qb ?_;intro yd yb;refine Xi (hS _) ?_;rintro _ _ ⟨rfl,ad⟩;(have ac:=ad.B;have aa:=ad.C;have ab:=hK.trans ad);refine pz ?_
  obtain⟨qp,r1,r2,r3⟩:=HR.o;exact⟨_,rfl,⟨_,qk,qp,rfl,hQ.o.1,r1,hQ.o.2.1,r2,AA⟩,ab.put AA _⟩
theorem X7:∀{l m:List Int},l.Nodup->(∀x∈l,x∈m)->Z l<=Z m
 |[],m,_,_=>by simp
 |a::l,m,hn,hs=>by
  have aa:=List.nodup_cons.1 hn;have ha:=hs a (by simp)
  have h1:=X7 (l:=l) (m:=m.erase a) aa.2 (fun x hx=>by
   have ab:x≠a:=fun e=>aa.1 (e ▸ hx)
   exact (Ng ab).2 (hs x (by simp[hx])))
  rw[List.length_erase_of_mem ha]at h1;have:0<Z m:=List.length_pos_of_mem ha;simp only[BQ];omega
theorem Vd:∀(l:List Cc) (pl:Int) (acc:List Int),acc.Nodup->(l.foldl (xF pl) acc).Nodup
 |[],pl,acc,h=>h
 |t::l,pl,acc,h=>by
  rw[IB];apply Vd;unfold xF;split
  ·exact h
  ·rename_i hc;rw[JK];exact⟨h,by simp,fun a ha b hb=>by simp at hb;subst hb;rintro rfl;exact hc ha⟩
theorem Ve:∀(l:List Cc) (pl:Int) (acc:List Int) (n:Int),n∈l.foldl (xF pl) acc↔n∈acc\/∃t∈l,I4 t pl=n
 |[],pl,acc,n=>by simp
 |t::l,pl,acc,n=>by
  rw[IB,Ve];unfold xF;by_cases hc:I4 t pl∈acc
  ·rw[if_pos hc];constructor
   ·rintro (h|⟨u,hu,e⟩)
    ·exact .inl h
    ·exact .inr ⟨u,by simp[hu],e⟩
   ·rintro (h|⟨u,hu,e⟩)
    ·exact .inl h
    ·rcases BB.1 hu with rfl|hu
     ·exact .inl (e ▸ hc)
     ·exact .inr ⟨u,hu,e⟩
  ·rw[if_neg hc];constructor
   ·rintro (h|⟨u,hu,e⟩)
    ·rcases AW.1 h with h|h
     ·exact .inl h
     ·simp at h;exact .inr ⟨t,by simp,h.symm⟩
    ·exact .inr ⟨u,by simp[hu],e⟩
   ·rintro (h|⟨u,hu,e⟩)
    ·exact .inl (AW.2 (.inl h))
    ·rcases BB.1 hu with rfl|hu
     ·exact .inl (AW.2 (.inr (by simp[e])))
     ·exact .inr ⟨u,hu,e⟩
theorem Vf {q}(hN:QN q)(v):Z (Mf q v)<=1026:=by
 have hr:Z ((List.range 1026).map fun k:Nat=>(k:Int))=1026:=by simp
 rw[<-hr];unfold Mf;split
 ·rename_i p hp;have ab:=LK hp;have aa:Bj p.a.ts v=true:=by simpa using NI hp
  obtain⟨pl,hpl,ac⟩:=Kw aa;rw[ac];apply X7 (Vd _ _ _ IS);intro n hn;unfold Zl at hn;rw[Ve]at hn;rcases hn with h|⟨t,ht,e⟩
  ·cases h
  ·obtain⟨x,hx,ad⟩:=hN p ab t ht pl hpl;rw[AO];exact⟨x,by simpa using ad,by rw[<-e];simp[I4,hx]⟩
 ·simp
def QV (q:AY):Prop:=∀a∈atomsQ q,∀v,(true,v)∈a.ts->0<=v
theorem gQ (q c)(hc:EQ q c)(hq:Qo q)(hN:QN q)(hV:QV q)(σ):AF Tryz.prog 222 [ag c] σ fun r σ'=>(∃b,r=ic b/\((b= -1/\∀v∈Co (atomsQ q),Dm q v=false)\/(b∈Co (atomsQ q)/\Dm q b=true)))/\AE σ σ':=by
 have a4:=fun σ=>Kc q c hc hq σ;have af:=fun v σ=>Ru q c v hc hq σ;have aw:=fun v σ=>Lw q c v hc hq hN σ;have az:=fun v=>Vf hN v;have a5:=N0 hq;have bi:=Jz hq;have a3:=fun (cs:List AV) (i:Nat) (hE:EL O1 (atomsQ q) cs) (σ:St)=>Hy (atomsQ q) cs i hE a5 AA σ;have bd:=Fz a5;obtain⟨ih,ip,inn,pc,nc,rfl,-,-⟩:=hc;generalize Co (atomsQ q)=vs at*
 have be:=B9 vs;refine Z9 31 [.tmp 2] Tryz.func222 ?_
 repeat' first|refine Z1 ?_|refine Z8 fun yd yb=>?_|refine Z4 ?_;clear yb yd|(refine Z5 ?_;first|(refine Xi (a4 _) ?_;rintro _ _ ⟨ida,cs,rfl,hE,ao⟩;(have ai:=ao.B;have ab:=ao.C;have hK:=((AE.refl σ).new _).trans ao;have ak:=a3 cs ida hE;simp only[Aa]at ai ab))|(refine Xi (ak _) ?_;rintro _ _ ⟨⟨idv,rfl⟩,an⟩;(have av:=an.B;have ah:=an.C;have am:=hK.trans an;clear an hK;have hK:=am;clear am)))|refine Z3 ?_|exact Zt|apply yb.o;clear yb yd
 rename_i σa σb;have o0:σb.C σ.B=[ic q.h.p,sl ih (Z q.h.ts) (Ad q.h.ts),sl ip (Z q.A) pc,sl inn (Z q.B) nc]:=by rw[ah _ AA,ab _ AA,Ao]
 clear ab ah a4 a3 ak hE ao
 refine Ae (fun m s σ'=>∃(j w:Nat) (b:Int),m=Z vs-j/\j<=Z vs/\s 1=ptr σ.B 0/\s 3=ic b/\s 4=ic w/\s 10=sl idv (Z vs) (As vs)/\s 11=ic (Z vs)/\s 12=ic j/\AE σ σ'/\σ.B<σ'.B/\σ'.C σ.B=[ic q.h.p,sl ih (Z q.h.ts) (Ad q.h.ts),sl ip (Z q.A) pc,sl inn (Z q.B) nc]/\w<=1027/\AD ((b= -1/\w=1027/\∀v∈vs.take j,Dm q v=false)\/(b∈vs/\Dm q b=true))) (Z vs)
  ⟨0,1027,-1,AA,AA,AG,AG,AG,AG,AG,rfl,hK,AA,o0,AA,.inl ⟨rfl,rfl,by simp⟩⟩ ?_
 clear hK o0 ai av;rintro m s σ' ⟨j,w,b,rfl,hj,h1,h3,h4,bn,bm,bl,hK,bg,bb,hw,hB⟩;have bc:=hK.B;by_cases a0:j<Z vs
 ·have aa:=AJ a0;obtain⟨r,hd⟩:=Dz aa;have ac:=AT a0;generalize vs[j]=v at hd aa ac;have af:=af v;have aw:=aw v;have az:=az v
  have HM:AD (v∈vs/\∀u∈vs.take (j+1),u∈vs.take j\/u=v):=⟨ac,fun u hu=>by
   rw[AU,aa,BJ]at hu;rcases AW.1 hu with h|h
   ·exact .inl h
   ·simp at h;exact .inr h⟩
  clear aa ac;cases ae:Dm q v with
  |false=>
   rw[ae]at af;have HB:AD ((b= -1/\w=1027/\∀v∈vs.take (j+1),Dm q v=false)\/(b∈vs/\Dm q b=true)):=by
    rcases hB.o with⟨h1,h2,h3⟩|h
    ·refine .inl ⟨h1,h2,fun u hu=>?_⟩;rcases HM.o.2 u hu with h|rfl
     ·exact h3 u h
     ·exact ae
    ·exact .inr h
   clear hB HM ae
   refine qb ?_;intro yd yb;refine Xi (af _) ?_;rintro _ _ ⟨rfl,ad⟩;(have au:=ad.B;have ap:=ad.C;have am:=hK.trans ad);refine pz ?_
   refine⟨Z vs-(j+1),AA,j+1,w,b,?_⟩
   exact qh HB
  |true=>
   rw[ae]at af;have ba:AD ((v= -1/\Z (Mf q v)=1027/\∀v∈vs.take (j+1),Dm q v=false)\/(v∈vs/\Dm q v=true)):=.inr ⟨HM.o.1,ae⟩;have a9:AD (¬Z (Mf q v)<w->(b= -1/\w=1027/\∀v∈vs.take (j+1),Dm q v=false)\/(b∈vs/\Dm q b=true)):=fun hn=>by
    rcases hB.o with⟨h1,h2,h3⟩|h
    ·omega
    ·exact .inr h
   clear hB HM ae;generalize ay:Mf q v=vq at*
   have bo:AD _:=ay;clear ay;have bf:=B9 vq
   (repeat (refine qb ?_;intro yd yb;(first|(refine Xi (af _) ?_;rintro _ _ ⟨rfl,ad⟩;(have au:=ad.B;have ap:=ad.C;have am:=hK.trans ad))|(refine Xi (aw _) ?_;rintro _ _ ⟨⟨idq,rfl⟩,ax⟩;(have a7:=ax.B;have a6:=ax.C;have bh:=am.trans ax)))));refine qe ?_ ?_<;>intro h aj
   ·refine⟨Z vs-(j+1),AA,j+1,Z vq,v,?_⟩
    exact qh ba
   ·refine⟨Z vs-(j+1),AA,j+1,w,b,?_⟩
    exact qh (a9.o AA)
 ·have a8:j=Z vs:=AA;subst a8;rw[AS]at hB;have HB:AD ((b= -1/\∀v∈vs,Dm q v=false)\/(b∈vs/\Dm q b=true)):=by
   rcases hB.o with⟨h1,-,h3⟩|h
   ·exact .inl ⟨h1,h3⟩
   ·exact .inr h
  refine pz ?_
  first|exact⟨_,rfl,⟨b,rfl,HB.o⟩,hK⟩|exact⟨_,rfl,b,rfl,HB.o⟩
end Go.Proofs.YtmoeoppbmhfbpabGreatDoorI
