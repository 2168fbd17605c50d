import Derived.Test.YtmoeoppbmhfbpabGreatDoorJProgK
set_option maxHeartbeats 16000000
set_option maxRecDepth 100000
set_option linter.all false
namespace Go.Proofs.YtmoeoppbmhfbpabGreatDoorJ
open Go.Abs
theorem Qg (N:List Tx)(l:List RItem)(cs:List AV)(idn idi:Nat)(hB:Bk N l cs)(d:St):ACalls Tryz.prog 121 [Bs N idn l idi cs] d fun r d'=>r=sc (.int .i64 (Bb (Hb l) l.length))/\Keep d d':=by
 have a3:=EL.length Df hB.el;have bm:=hB.len;have hN:=hB.nm;refine Z9 52 [.tmp 2] Tryz.func121 ?_
 repeat' (first|refine Z1 ?_|(refine Z8 ?_;intro κ hκ)|(refine Z4 ?_;clear hκ κ)|(refine Z2 ?_ ?_<;>intro h ab<;>try exact Xp)|refine Z3 ?_|exact⟨⟩|(apply hκ.out;clear hκ κ))
 refine Ad (fun m s d'=>∃(i:Nat) (cc:Nat->Int),m=l.length-i/\i<=l.length/\s 3=fx (d.nobj+1) 0 N.length/\s 13=sl idi l.length cs/\s 14=sc (.int .i64 l.length)/\s 15=sc (.int .i64 i)/\Keep d d'/\d.nobj+1<d'.nobj/\d'.obj (d.nobj+1)=Ez N.length cc/\Aec (cntsOk N (C0 l i) cc)/\Aec (C4 (C0 l i))/\Aec (noO l i)) l.length
  ⟨0,fun _=>0,Ad6,Ad6,?_,rfl,rfl,rfl,Xs,Aea,?_,?_,by simp[Aec,C0,Tj],fun a h=>Ad6⟩ ?_
 ·simp[upd]
 ·show (if d.nobj+1=d.nobj+1 then _ else _)=_;rw[if_pos rfl];exact O2 _
 ·intro p hp;simp[C0,F3]
 rintro m s d' ⟨i,cc,rfl,hi,h3,a7,a6,a5,hK,ae,ax,hC,hS,au⟩;have a9:=hK.nobj;by_cases am:i<l.length
 ·have aa:=List.getElem?_eq_getElem am;have az:=hB.fits l[i] (Ac2 am);have bb:=hB.out l[i] (Ac2 am);have ba:=hB.pos l[i] (Ac2 am);obtain⟨hm,ih,id,b,r,hb,hd⟩:=Fi hB.el aa;generalize l[i]=x at hd aa az bb hb hm ba;have HX:Aec (l[i]?=some x):=aa;clear aa;have b3:=az.atoms
  repeat' (first|refine Z1 ?_|(refine Z8 ?_;intro κ hκ)|(refine Z4 ?_;clear hκ κ)|(refine Z2 ?_ ?_<;>intro h ab<;>try exact Xp)|(refine Z5 ?_;refine Xi (Ih N x _ (PI.of hm hb) bb (by have:=az.1;omega) _) ?_;rintro _ _ ⟨ida,cs2,rfl,bg,a4⟩;(have ah:=a4.obj;have ai:=a4.nobj;(try simp only[Aa,Ab,Ag]at ai)))|refine Z3 ?_|exact⟨⟩|(apply hκ.out;clear hκ κ))
  rename_i d1;have bq:=EL.length Ud bg;have bf:Keep d d1:=Xs;have aj:d1.obj (d.nobj+1)=Ez N.length cc:=by
   rw[ah _ (by simp only[Aa,Ab];omega),Aj Ad6,Ae ae];exact ax
  clear ah
  refine Ad (fun m s d'=>∃(j:Nat) (cc:Nat->Int),m=(Af x).length-j/\j<=(Af x).length/\s 3=fx (d.nobj+1) 0 N.length/\s 4=sc (.int .i64 i)/\s 13=sl idi l.length cs/\s 14=sc (.int .i64 l.length)/\s 15=sc (.int .i64 i)/\s 21=sl ida (Af x).length cs2/\s 22=sc (.int .i64 (Af x).length)/\s 23=sc (.int .i64 j)/\Keep d d'/\d.nobj+1<d'.nobj/\d'.obj (d.nobj+1)=Ez N.length cc/\Aec (cntsOk N (Cy l x i j) cc)/\Aec (C4 (Cy l x i j))/\Aec (Aa3 l x i j)) (Af x).length
   ⟨0,cc,Ad6,Ad6,by simp[upd,h3],Ad8,by simp[upd,a7],by simp[upd,a6],by simp[upd,a5],Ad8,rfl,rfl,bf,Ad6,aj,by simpa[Cy]using hC,by simpa[Cy]using hS,fun b h=>Ad6⟩ ?_
  clear aj hK ax hC hS a4 ai a9 h3 a7 a6 a5 ae cc bf;rintro m s d' ⟨j,cc,rfl,hj,h3,h4,a7,a6,a5,b6,b5,b4,hK,ae,ax,hC,hS,ad⟩;have a9:=hK.nobj;by_cases af:j<(Af x).length
  ·have aa:=List.getElem?_eq_getElem af;have aw:=ba (Af x)[j] (Ac2 af);obtain⟨ha,ia,r2,bc⟩:=lN bg aa;generalize (Af x)[j]=a at bc aa ha aw;have HA:Aec ((Af x)[j]?=some a):=aa;clear aa;have ac:Aec (Pn l x i j=(Cy l x i j).any (clash a)):=by rw[Aec,Pn,HA.out]
   have ay:=Ac4 ha;have ap:=hC.out.step hS.out ha;have a0:=hC.out a.pred ha;have bd:=Ey cc ay;have an:=fun v=>Nv (n:=N.length) (i:=N.idxOf a.pred) cc v;have b0:=H4 N.length cc;generalize br:cc (N.idxOf a.pred)=c at bd ap a0;clear br;generalize N.idxOf a.pred=ix at bc bd ay ap an;have a3:=Lg hS.out a;have bh:Aec _:=ap;have av:Aec _:=a0;have a8:Aec _:=a3;clear ap a0 a3;by_cases ao:(c==0)=true
   ·have b2:((Ez N.length cc).set ix (sc (.int .i64 a.terms.length)))[ix]?=some (sc (.int .i64 a.terms.length)):=by rw[an,Ey _ ay];simp
    have b1:((a.terms.length:Int) !=a.terms.length)=false:=by simp
    have bu:c=0:=by simpa using ao
    have bz:Aec _:=an;clear an
    repeat' (first|refine Z1 ?_|(refine Z8 ?_;intro κ hκ)|(refine Z4 ?_;clear hκ κ)|(refine Z2 ?_ ?_<;>intro h ab<;>try exact Xp)|refine Z3 ?_|exact⟨⟩|(apply hκ.out;clear hκ κ))
    refine A1 Ah (fun _=>True) [8] [0,1,2,3,4,5,6,7] [8] Ad9 (fun _ _ _ h=>h) ?_;intro κ hκ;refine Z3 ?_
    repeat' (first|refine Z1 ?_|(refine Z8 ?_;intro κ hκ)|(refine Z4 ?_;clear hκ κ)|(refine Z2 ?_ ?_<;>intro h ab<;>try exact Xp)|refine Z3 ?_|exact⟨⟩|(apply hκ.out;clear hκ κ))
    have ak:(Cy l x i j).any (clash a)=false:=by
     cases hq:(Cy l x i j).any (clash a)with
     |false=>rfl
     |true=>exfalso;have h1:=(a8.out.1 hq).1;have h2:=av.out;omega
    refine⟨(Af x).length-(j+1),Ad6,j+1,_,rfl,Ad6,by simp,((hK.new _).put hK.nobj _).put Ad6 _,Ad6,bz.out _,?_,?_,La ad.out (by rw[ac.out];exact ak)⟩
    ·rw[Aec,Hk HA.out];exact bh.out.1 bu
    ·rw[Aec,Hk HA.out];exact Gg hS.out aw ak
   ·have ao:(c==0)=false:=by simpa using ao
    clear an
    repeat' (first|refine Z1 ?_|(refine Z8 ?_;intro κ hκ)|(refine Z4 ?_;clear hκ κ)|(refine Z2 ?_ ?_<;>intro h ab<;>try exact Xp)|refine Z3 ?_|exact⟨⟩|(apply hκ.out;clear hκ κ))
    refine A1 Ah (fun _=>True) [8] [0,1,2,3,4,5,6,7] [8] Ad9 (fun _ _ _ h=>h) ?_;intro κ hκ;refine Z3 ?_
    repeat' (first|refine Z1 ?_|(refine Z8 ?_;intro κ hκ)|(refine Z4 ?_;clear hκ κ)|(refine Z2 ?_ ?_<;>intro h ab<;>try exact Xp)|refine Z3 ?_|exact⟨⟩|(apply hκ.out;clear hκ κ))
    ·have be:c≠0:=by simpa using ao
     have bv:c≠a.terms.length:=by simpa using h
     have bp:=a8.out.2 ⟨by have:=av.out;omega,by have:=av.out;omega⟩;have bl:Hb l i=true:=by
      unfold Hb;rw[HX.out];dsimp only;rw[Acg];exact⟨j,by simpa using af,by rw[ac.out];exact bp⟩
     exact⟨_,rfl,by rw[Js am bl au.out],(hK.new _).put hK.nobj _⟩
    ·have be:c≠0:=by simpa using ao
     have bv:c=a.terms.length:=by simpa using h
     have ak:(Cy l x i j).any (clash a)=false:=by
      cases hq:(Cy l x i j).any (clash a)with
      |false=>rfl
      |true=>exfalso;have h1:=(a8.out.1 hq).2;have h2:=av.out;omega
     refine⟨(Af x).length-(j+1),Ad6,j+1,cc,rfl,Ad6,by simp,(hK.new _).put hK.nobj _,Ad6,rfl,?_,?_,La ad.out (by rw[ac.out];exact ak)⟩
     ·rw[Aec,Hk HA.out];exact bh.out.2 be
     ·rw[Aec,Hk HA.out];exact Gg hS.out aw ak
  ·have bn:j=(Af x).length:=Ad6;subst bn
   repeat' (first|refine Z1 ?_|(refine Z8 ?_;intro κ hκ)|(refine Z4 ?_;clear hκ κ)|(refine Z2 ?_ ?_<;>intro h ab<;>try exact Xp)|refine Z3 ?_|exact⟨⟩|(apply hκ.out;clear hκ κ))
   have bi:Cy l x i (Af x).length=C0 l (i+1):=by rw[mH HX.out];simp[Cy]
   rw[bi]at hC hS;refine⟨l.length-(i+1),Ad6,i+1,cc,rfl,Ad6,by simp,rfl,hC,hS,La au.out ?_⟩;unfold Hb;rw[HX.out];dsimp only;rw[Ac1];intro b hb;have bw:=ad.out b (by simpa using hb);simp[bw]
 ·have bo:i=l.length:=Ad6;subst bo
  repeat' (first|refine Z1 ?_|(refine Z8 ?_;intro κ hκ)|(refine Z4 ?_;clear hκ κ)|(refine Z2 ?_ ?_<;>intro h ab<;>try exact Xp)|refine Z3 ?_|exact⟨⟩|(apply hκ.out;clear hκ κ))
  first|exact⟨_,rfl,by rw[Ck au.out],hK⟩|exact⟨_,rfl,by rw[Ck au.out]⟩
def G5 (n:Nat)(f:Nat->Bool):List AV:=(List.range n).map fun i=>sc (.bool (f i))
theorem Dv (n:Nat)(f:Nat->Bool):(G5 n f).length=n:=by simp[G5]
theorem F0 {n i:Nat}(f:Nat->Bool)(h:i<n):(G5 n f)[i]?=some (sc (.bool (f i))):=by simp[G5,h]
theorem Ts {n i:Nat}(f:Nat->Bool)(v:Bool):(G5 n f).set i (sc (.bool v))=G5 n (fun j=>if j=i then v else f j):=by
 apply Ab0;intro j;rw[List.getElem?_set];by_cases hj:j<n
 ·rw[F0 (fun j=>if j=i then v else f j) hj];by_cases e:i=j
  ·subst e;rw[if_pos rfl,Dv,if_pos hj];simp
  ·rw[if_neg e,F0 _ hj,if_neg (fun e'=>e e'.symm)]
 ·have h1:(G5 n fun j=>if j=i then v else f j)[j]?=none:=by simp[G5];omega
  have h2:(G5 n f)[j]?=none:=by simp[G5];omega
  rw[h1,h2];split
  ·rw[Dv];rw[if_neg Ad6]
  ·rfl
theorem Wu (n:Nat):List.replicate n (sc (.bool false))=G5 n fun _=>false:=by
 apply Ab0;intro j;by_cases hj:j<n
 ·rw[F0 _ hj];simp[hj]
 ·simp[G5,hj]
def Ek (B n k:Nat):List AV:=(List.range k).map fun i=>fx (B+i) 0 n
theorem Hl (B n k:Nat):(Ek B n k).length=k:=by simp[Ek]
theorem fI (B n k:Nat):Ek B n (k+1)=Ek B n k++[fx (B+k) 0 n]:=by simp[Ek,List.range_succ]
theorem Hm {B n k i:Nat}(h:i<k):(Ek B n k).drop i=fx (B+i) 0 n::(Ek B n k).drop (i+1):=by
 rw[Ach (by rw[Hl];exact h)];simp[Ek]
def Mat (B n:Nat)(M:Nat->Nat->Bool)(d:St):Prop:=∀i,i<n->d.obj (B+i)=G5 n (M i)
theorem Mat.keep {B n:Nat}{M:Nat->Nat->Bool}{d d':St}(h:Mat B n M d)(k:Keep d d')(hn:B+n<=d.nobj):Mat B n M d':=fun i hi=>by rw[k.obj _ Ad6];exact h i hi
theorem Mat.new {B n:Nat}{M:Nat->Nat->Bool}{d:St}(h:Mat B n M d)(hn:B+n<=d.nobj)(cs:List AV):Mat B n M (d.new cs):=fun i hi=>by rw[Ae Ad6];exact h i hi
theorem Mat.put {B n o:Nat}{M:Nat->Nat->Bool}{d:St}(h:Mat B n M d)(ho:B+n<=o)(cs:List AV):Mat B n M (d.put o cs):=fun i hi=>by rw[Aj Ad6];exact h i hi
theorem Mat.set {B n p q:Nat}{M:Nat->Nat->Bool}{d:St}(h:Mat B n M d)(hp:p<n)(v:Bool):Mat B n (set2 M p q v) (d.put (B+p) ((G5 n (M p)).set q (sc (.bool v)))):=fun i hi=>by
 by_cases e:i=p
 ·subst e;rw[Ak,Ts];congr 1;funext j;simp[set2]
 ·have hx:(d.put (B+p) ((G5 n (M p)).set q (sc (.bool v)))).obj (B+i)=d.obj (B+i):=by
   by_cases hl:i<p
   ·exact Aj Ad6
   ·exact Qp Ad6
  rw[hx,h i hi];congr 1;funext j;simp[set2,e]
def bU (N:List Tx)(l:List RItem)(p q:Nat):Prop:=∃x∈l,N.idxOf x.head.pred=p/\∃a∈x.body,N.idxOf a.pred=q
def Aaj (N:List Tx)(x:RItem)(b:List Ai)(p q:Nat):Prop:=N.idxOf x.head.pred=p/\∃a∈b,N.idxOf a.pred=q
def Dm (N:List Tx)(l:List RItem)(M:Nat->Nat->Bool):Prop:=∀p q,M p q=true↔bU N l p q
def isOnceQ (N:List Tx)(l:List RItem)(x:RItem)(b:List Ai)(M:Nat->Nat->Bool):Prop:=∀p q,M p q=true↔bU N l p q\/Aaj N x b p q
theorem isOnceQ.step {N:List Tx}{l:List RItem}{x:RItem}{j:Nat}{a:Ai}{M:Nat->Nat->Bool}(h:isOnceQ N l x (x.body.take j) M)(ha:x.body[j]?=some a):isOnceQ N l x (x.body.take (j+1)) (set2 M (N.idxOf x.head.pred) (N.idxOf a.pred) true):=by
 intro p q;rw[Abv,ha];unfold set2;by_cases e:p=N.idxOf x.head.pred/\q=N.idxOf a.pred
 ·rw[if_pos e];simp only[true_iff];exact .inr ⟨e.1.symm,a,by simp,e.2.symm⟩
 ·rw[if_neg e,h p q];constructor
  ·rintro (h|⟨h1,b,hb,h2⟩)
   ·exact .inl h
   ·exact .inr ⟨h1,b,by simp[hb],h2⟩
  ·rintro (h|⟨h1,b,hb,h2⟩)
   ·exact .inl h
   ·simp only[Ac5,Aco,Ac6]at hb;rcases hb with hb|rfl
    ·exact .inr ⟨h1,b,hb,h2⟩
    ·exact absurd ⟨h1.symm,h2.symm⟩ e
theorem isOnceQ.zero {N:List Tx}{l:List RItem}{x:RItem}{M:Nat->Nat->Bool}(h:Dm N l M):isOnceQ N l x (x.body.take 0) M:=by
 intro p q;rw[h p q];constructor
 ·exact .inl
 ·rintro (h|⟨-,b,hb,-⟩)
  ·exact h
  ·simp at hb
theorem isOnceQ.done {N:List Tx}{l:List RItem}{x:RItem}{i:Nat}{M:Nat->Nat->Bool}(h:isOnceQ N (l.take i) x x.body M)(hx:l[i]?=some x):Dm N (l.take (i+1)) M:=by
 intro p q;rw[h p q,Abv,hx];constructor
 ·rintro (⟨y,hy,g⟩|g)
  ·exact⟨y,by simp[hy],g⟩
  ·exact⟨x,by simp,g⟩
 ·rintro⟨y,hy,g⟩;simp only[Ac5,Aco,Ac6]at hy;rcases hy with hy|rfl
  ·exact .inl ⟨y,hy,g⟩
  ·exact .inr g
theorem P2 (N:List Tx)(l:List RItem)(cs:List AV)(idn idi:Nat)(hB:Bk N l cs)(d:St):ACalls Tryz.prog 206 [Bs N idn l idi cs] d fun r d'=>∃idu B M,r=sl idu N.length (Ek B N.length N.length)/\Keep d d'/\d.nobj<=B/\B+N.length<=d'.nobj/\Mat B N.length M d'/\Dm N l M:=by
 have bu:=EL.length Df hB.el;have bi:=hB.len;have hN:=hB.nm;refine Z9 51 [.tmp 2] Tryz.func206 ?_
 repeat' (first|refine Z1 ?_|(refine Z8 ?_;intro κ hκ)|(refine Z4 ?_;clear hκ κ)|(refine Z2 ?_ ?_<;>intro h ae<;>try exact Xp)|(refine Z6 ?_;intro idn dn ah ai ac aa af ab)|refine Z3 ?_|exact⟨⟩|(apply hκ.out;clear hκ κ))
 refine Ad (fun m s d'=>∃(k idu:Nat),m=N.length-k/\k<=N.length/\s 1=ptr d.nobj 0/\s 3=sl idu k (Ek (d.nobj+1) N.length k)/\s 12=sc (.int .i64 N.length)/\s 13=sc (.int .i64 k)/\Keep d d'/\Own d d' idu k/\d'.nobj=d.nobj+1+k/\d'.obj d.nobj=[sl idn N.length (N.map str),sl idi l.length cs]/\Aec (∀i,i<k->d'.obj (d.nobj+1+i)=G5 N.length fun _=>false)) N.length
  ⟨0,1,Ad6,Ad6,rfl,rfl,rfl,rfl,Xs,Own.nil _ _,rfl,Ao,fun i hi=>Ad6⟩ ?_
 rintro m s d' ⟨k,idu,rfl,hk,h1,h3,bq,bp,hK,hO,aj,a5,hM⟩;have bc:=Hl (d.nobj+1) N.length k;by_cases an:k<N.length
 ·repeat' (first|refine Z1 ?_|(refine Z8 ?_;intro κ hκ)|(refine Z4 ?_;clear hκ κ)|(refine Z2 ?_ ?_<;>intro h ae<;>try exact Xp)|(refine Z6 ?_;intro idn dn ah ai ac aa af ab)|refine Z3 ?_|exact⟨⟩|(apply hκ.out;clear hκ κ))
  have bo:Keep d (d'.new (List.replicate N.length (sc (.bool false)))):=hK.new _;refine Bn (by first|exact Mr) bo (Own.new hO _) (by decide) (by rfl) (by rw[bc,Nat.mul_one]) (by rfl) (by rfl) (by decide) Ad6 Ad6 ?_;intro idn2 dn ah ai ac aa af ab;have bf:dn.obj d.nobj=[sl idn N.length (N.map str),sl idi l.length cs]:=by rw[ac,Ae Ad6];exact a5
  rw[Aa,aj]at aa;refine Z3 ?_
  repeat' (first|refine Z1 ?_|(refine Z8 ?_;intro κ hκ)|(refine Z4 ?_;clear hκ κ)|(refine Z2 ?_ ?_<;>intro h ae<;>try exact Xp)|(refine Z6 ?_;intro idn dn ah ai ac aa af ab)|refine Z3 ?_|exact⟨⟩|(apply hκ.out;clear hκ κ))
  refine⟨N.length-(k+1),Ad6,k+1,idn2,rfl,Ad6,by rw[fI],by simp,ah,Ad6,?_⟩;intro i hi
  try rw[ac]
  by_cases e:i=k
  ·subst e;rw[<-aj,Ao,Wu]
  ·rw[Ae Ad6];exact hM.out i Ad6
 ·have bl:k=N.length:=Ad6;subst bl
  repeat' (first|refine Z1 ?_|(refine Z8 ?_;intro κ hκ)|(refine Z4 ?_;clear hκ κ)|(refine Z2 ?_ ?_<;>intro h ae<;>try exact Xp)|(refine Z6 ?_;intro idn dn ah ai ac aa af ab)|refine Z3 ?_|exact⟨⟩|(apply hκ.out;clear hκ κ))
  have ba:Mat (d.nobj+1) N.length (fun _ _=>false) d':=hM.out;have ak:d.nobj+1+N.length<=d'.nobj:=Ad6;clear hM aj hO a5 bp bq h1
  refine Ad (fun m s d'=>∃(i:Nat) (M:Nat->Nat->Bool),m=l.length-i/\i<=l.length/\s 3=sl idu N.length (Ek (d.nobj+1) N.length N.length)/\s 25=sl idi l.length cs/\s 26=sc (.int .i64 l.length)/\s 27=sc (.int .i64 i)/\Keep d d'/\d.nobj+1+N.length<=d'.nobj/\Aec (Mat (d.nobj+1) N.length M d')/\Aec (Dm N (l.take i) M)) l.length
   ⟨0,fun _ _=>false,Ad6,Ad6,by simp[upd,h3],Ad8,Ad8,rfl,hK,ak,ba,fun p q=>by simp[bU]⟩ ?_
  clear ba ak h3 hK h ae an hk;rintro m s d' ⟨i,M,rfl,hi,h3,ay,ax,aw,hK,ak,hM,hI⟩;have a3:=hK.nobj;by_cases an:i<l.length
  ·have ad:=List.getElem?_eq_getElem an;have a8:=hB.fits l[i] (Ac2 an);obtain⟨hm,ih,id,b,r,hb,hd⟩:=Fi hB.el ad;generalize l[i]=x at hd ad a8 hb hm;have HX:Aec (l[i]?=some x):=ad;clear ad;have bv:=EL.length Eb hb;have br:=a8.1;have am:=Ac4 hm
   repeat' (first|refine Z1 ?_|(refine Z8 ?_;intro κ hκ)|(refine Z4 ?_;clear hκ κ)|(refine Z2 ?_ ?_<;>intro h ae<;>try exact Xp)|(refine Z6 ?_;intro idn dn ah ai ac aa af ab)|refine Z3 ?_|exact⟨⟩|(apply hκ.out;clear hκ κ))
   have av:Keep d ((d'.new [sc (.bool false),sc (.int .i64 0),nilS,nilS]).put d'.nobj [sc (.bool x.out),sc (.int .i64 (N.idxOf x.head.pred:Nat)),sl ih x.head.terms.length (Av x.head.terms),sl id x.body.length b]):=(hK.new _).put hK.nobj _;have au:=(hM.out.new ak [sc (.bool false),sc (.int .i64 0),nilS,nilS]).put ak [sc (.bool x.out),sc (.int .i64 (N.idxOf x.head.pred:Nat)),sl ih x.head.terms.length (Av x.head.terms),sl id x.body.length b];generalize a6:d'.nobj=o6 at av au ak
   refine Ad (fun m s d''=>∃(j:Nat) (M:Nat->Nat->Bool),m=x.body.length-j/\j<=x.body.length/\s 3=sl idu N.length (Ek (d.nobj+1) N.length N.length)/\s 6=ptr o6 0/\s 25=sl idi l.length cs/\s 26=sc (.int .i64 l.length)/\s 27=sc (.int .i64 i)/\s 32=sl id x.body.length b/\s 33=sc (.int .i64 x.body.length)/\s 34=sc (.int .i64 j)/\Keep d d''/\o6<d''.nobj/\d''.obj o6=[sc (.bool x.out),sc (.int .i64 (N.idxOf x.head.pred:Nat)),sl ih x.head.terms.length (Av x.head.terms),sl id x.body.length b]/\Aec (Mat (d.nobj+1) N.length M d'')/\Aec (isOnceQ N (l.take i) x (x.body.take j) M)) x.body.length
    ⟨0,M,Ad6,Ad6,by simp[upd,h3],by simp[upd,a6],by simp[upd,ay],by simp[upd,ax],by simp[upd,aw],Ad8,rfl,rfl,?_,?_,?_,?_,isOnceQ.zero hI.out⟩ ?_
   ·exact av
   ·rw[Ab,Aa];omega
   ·rw[Ak]
   ·exact au
   clear au av hK hM hI h3 ay ax aw a3 M a6;rintro m s d'' ⟨j,M,rfl,hj,h3,h6,ay,ax,aw,b0,bz,bw,hK,bg,ao,hM,hI⟩;have a3:=hK.nobj;by_cases ap:j<x.body.length
   ·have ad:=List.getElem?_eq_getElem ap;obtain⟨ha,ia,r2,a9⟩:=N5 hb ad;generalize x.body[j]=a at a9 ad ha;have HA:Aec (x.body[j]?=some a):=ad;clear ad;have be:=Ac4 ha;have bd:=Hm (B:=d.nobj+1) (n:=N.length) (k:=N.length) am;have bh:=hM.out _ am;have bb:=Dv N.length (M (N.idxOf x.head.pred));have a4:=isOnceQ.step hI.out HA.out;have az:Aec _:=a4;have a7:=fun (τ:St) (hτ:Mat (d.nobj+1) N.length M τ)=>Mat.set (q:=N.idxOf a.pred) hτ am true;have a0:Aec _:=a7;clear a4 a7;generalize N.idxOf x.head.pred=ph at ao am bd bh bb az a0;generalize N.idxOf a.pred=qa at a9 be az a0
    repeat' (first|refine Z1 ?_|(refine Z8 ?_;intro κ hκ)|(refine Z4 ?_;clear hκ κ)|(refine Z2 ?_ ?_<;>intro h ae<;>try exact Xp)|(refine Z6 ?_;intro idn dn ah ai ac aa af ab)|refine Z3 ?_|exact⟨⟩|(apply hκ.out;clear hκ κ))
    refine A1 Ah (fun _=>True) [10] [0,1,2,3,4,5,6,7,8,9] [10] Ad9 (fun _ _ _ h=>h) ?_;intro κ hκ;refine Z3 ?_
    repeat' (first|refine Z1 ?_|(refine Z8 ?_;intro κ hκ)|(refine Z4 ?_;clear hκ κ)|(refine Z2 ?_ ?_<;>intro h ae<;>try exact Xp)|(refine Z6 ?_;intro idn dn ah ai ac aa af ab)|refine Z3 ?_|exact⟨⟩|(apply hκ.out;clear hκ κ))
    exact⟨x.body.length-(j+1),Ad6,j+1,_,rfl,Ad6,by simp,((hK.new _).put hK.nobj _).put Ad6 _,Ad6,a0.out _ (Mat.put (Mat.new hM.out Ad6 _) Ad6 _),az.out⟩
   ·have bm:j=x.body.length:=Ad6;subst bm;rw[Abt]at hI
    repeat' (first|refine Z1 ?_|(refine Z8 ?_;intro κ hκ)|(refine Z4 ?_;clear hκ κ)|(refine Z2 ?_ ?_<;>intro h ae<;>try exact Xp)|(refine Z6 ?_;intro idn dn ah ai ac aa af ab)|refine Z3 ?_|exact⟨⟩|(apply hκ.out;clear hκ κ))
    exact⟨l.length-(i+1),Ad6,i+1,M,rfl,Ad6,by simp,Ad6,hM,isOnceQ.done hI.out HX.out⟩
  ·have bn:i=l.length:=Ad6;subst bn;rw[Abt]at hI
   repeat' (first|refine Z1 ?_|(refine Z8 ?_;intro κ hκ)|(refine Z4 ?_;clear hκ κ)|(refine Z2 ?_ ?_<;>intro h ae<;>try exact Xp)|(refine Z6 ?_;intro idn dn ah ai ac aa af ab)|refine Z3 ?_|exact⟨⟩|(apply hκ.out;clear hκ κ))
   exact⟨_,rfl,idu,d.nobj+1,M,rfl,Ad6,ak,hM.out,hI.out⟩
theorem mR {n:Nat}{M W:Nat->Nat->Bool}{m i k:Nat}(h:part n M m i k W)(hv:fw M m i k=M i k):part n M m i (k+1) W:=by
 intro a b;rw[h];by_cases hc:(a<i/\b<n)\/(a=i/\b<k)
 ·rw[if_pos hc,if_pos Ad6]
 ·rw[if_neg hc];by_cases hd:(a<i/\b<n)\/(a=i/\b<k+1)
  ·rw[if_pos hd];have e1:a=i:=Ad6;have e2:b=k:=Ad6;rw[e1,e2,hv]
  ·rw[if_neg hd]
theorem mQ {n:Nat}{M W:Nat->Nat->Bool}{m i:Nat}(h:part n M m i 0 W)(hv:M i m=false):part n M m (i+1) 0 W:=by
 intro a b;rw[h];by_cases hc:(a<i/\b<n)\/(a=i/\b<0)
 ·rw[if_pos hc,if_pos Ad6]
 ·rw[if_neg hc];by_cases hd:(a<i+1/\b<n)\/(a=i+1/\b<0)
  ·rw[if_pos hd];have e1:a=i:=Ad6;rw[e1];simp[fw,hv]
  ·rw[if_neg hd]
theorem Lx (N:List Tx)(l:List RItem)(cs:List AV)(idn idi:Nat)(hB:Bk N l cs)(d:St):ACalls Tryz.prog 175 [Bs N idn l idi cs] d fun r d'=>∃idu B M,r=sl idu N.length (Ek B N.length N.length)/\Keep d d'/\d.nobj<=B/\B+N.length<=d'.nobj/\Mat B N.length (E5 N.length M N.length) d'/\Dm N l M:=by
 have hN:=hB.nm;refine Z9 49 [.tmp 2] Tryz.func175 ?_
 repeat' (first|refine Z1 ?_|(refine Z8 ?_;intro κ hκ)|(refine Z4 ?_;clear hκ κ)|(refine Z2 ?_ ?_<;>intro h aa<;>try exact Xp)|(refine Z5 ?_;refine Xi (P2 N l cs idn idi hB _) ?_;rintro _ _ ⟨idu,B,M0,rfl,bb,bc,ah,av,ax⟩;(rw[Aa]at bc))|refine Z3 ?_|exact⟨⟩|(apply hκ.out;clear hκ κ))
 rename_i d1;have az:Aec (Dm N l M0):=ax;clear ax;have bh:=Hl B N.length N.length;have aw:Keep d d1:=Xs;clear bb
 refine Ad (fun q s d'=>∃m:Nat,q=N.length-m/\m<=N.length/\s 3=sl idu N.length (Ek B N.length N.length)/\s 10=sc (.int .i64 N.length)/\s 11=sc (.int .i64 m)/\Keep d d'/\B+N.length<=d'.nobj/\Aec (Mat B N.length (E5 N.length M0 m) d')) N.length
  ⟨0,Ad6,Ad6,rfl,rfl,rfl,aw,ah,av⟩ ?_
 clear aw av ah;rintro q s d' ⟨m,rfl,hm,h3,ae,ad,hK,ac,hM⟩;by_cases aj:m<N.length
 ·generalize au:E5 N.length M0 m=M at hM;have be:Aec _:=au;clear au
  repeat' (first|refine Z1 ?_|(refine Z8 ?_;intro κ hκ)|(refine Z4 ?_;clear hκ κ)|(refine Z2 ?_ ?_<;>intro h aa<;>try exact Xp)|refine Z3 ?_|exact⟨⟩|(apply hκ.out;clear hκ κ))
  refine Ad (fun q s d'=>∃(i:Nat) (W:Nat->Nat->Bool),q=N.length-i/\i<=N.length/\s 3=sl idu N.length (Ek B N.length N.length)/\s 4=sc (.int .i64 m)/\s 10=sc (.int .i64 N.length)/\s 11=sc (.int .i64 m)/\s 15=sc (.int .i64 N.length)/\s 16=sc (.int .i64 i)/\Keep d d'/\B+N.length<=d'.nobj/\Aec (Mat B N.length W d')/\Aec (part N.length M m i 0 W)) N.length
   ⟨0,M,Ad6,Ad6,by simp[upd,h3],Ad8,by simp[upd,ae],by simp[upd,ad],rfl,rfl,hK,ac,hM,Oi⟩ ?_
  clear hK ac hM h3 ae ad;rintro q s d' ⟨i,W,rfl,hi,h3,h4,ae,ad,an,am,hK,ac,hM,hW⟩;by_cases ab:i<N.length
  ·have bi:=Hm (B:=B) (n:=N.length) (k:=N.length) ab;have a7:=hM.out _ ab;have a4:=Dv N.length (W i);have af:=F0 (W i) aj;obtain⟨-,v2,-⟩:=M8 hW.out (by omega:0<N.length) aj;rw[v2]at af;have bd:Aec _:=v2;clear v2
   repeat' (first|refine Z1 ?_|(refine Z8 ?_;intro κ hκ)|(refine Z4 ?_;clear hκ κ)|(refine Z2 ?_ ?_<;>intro h aa<;>try exact Xp)|refine Z3 ?_|exact⟨⟩|(apply hκ.out;clear hκ κ))
   ·exact⟨N.length-(i+1),Ad6,i+1,W,rfl,Ad6,by simp,hM,mQ hW.out h⟩
   ·have ak:M i m=true:=h
    refine Ad (fun q s d'=>∃(k:Nat) (W:Nat->Nat->Bool),q=N.length-k/\k<=N.length/\s 3=sl idu N.length (Ek B N.length N.length)/\s 4=sc (.int .i64 m)/\s 5=sc (.int .i64 i)/\s 10=sc (.int .i64 N.length)/\s 11=sc (.int .i64 m)/\s 15=sc (.int .i64 N.length)/\s 16=sc (.int .i64 i)/\s 28=sc (.int .i64 N.length)/\s 29=sc (.int .i64 k)/\Keep d d'/\B+N.length<=d'.nobj/\Aec (Mat B N.length W d')/\Aec (part N.length M m i k W)) N.length
     ⟨0,W,Ad6,Ad6,by simp[upd,h3],by simp[upd,h4],Ad8,by simp[upd,ae],by simp[upd,ad],by simp[upd,an],by simp[upd,am],rfl,rfl,hK,ac,hM,hW⟩ ?_
    clear hK ac hM hW h3 h4 ae ad an am af a4 a7 bd h W;rintro q s d' ⟨k,W,rfl,hk,h3,h4,h5,ae,ad,an,am,bm,bl,hK,ac,hM,hW⟩;by_cases ai:k<N.length
    ·obtain⟨-,-,v3⟩:=M8 hW.out ai aj;have bg:=Hm (B:=B) (n:=N.length) (k:=N.length) aj;have a6:=hM.out _ ab;have a5:=hM.out _ aj;have a3:=Dv N.length (W i);have a0:=Dv N.length (W m);have af:=F0 (W m) ai;rw[v3]at af;clear v3;have ao:=Mat.set (q:=k) hM.out ab true;have bf:Aec _:=ao;clear ao;generalize ap:M m k=vk at af;have ay:Aec _:=ap;clear ap;cases vk with
     |true=>
      repeat' (first|refine Z1 ?_|(refine Z8 ?_;intro κ hκ)|(refine Z4 ?_;clear hκ κ)|(refine Z2 ?_ ?_<;>intro h aa<;>try exact Xp)|refine Z3 ?_|exact⟨⟩|(apply hκ.out;clear hκ κ))
      exact⟨N.length-(k+1),Ad6,k+1,_,rfl,Ad6,by simp,hK.put Ad6 _,bf.out,Sb hW.out (by simp[fw,ak,ay.out])⟩
     |false=>
      repeat' (first|refine Z1 ?_|(refine Z8 ?_;intro κ hκ)|(refine Z4 ?_;clear hκ κ)|(refine Z2 ?_ ?_<;>intro h aa<;>try exact Xp)|refine Z3 ?_|exact⟨⟩|(apply hκ.out;clear hκ κ))
      exact⟨N.length-(k+1),Ad6,k+1,W,rfl,Ad6,by simp,hM,mR hW.out (by simp[fw,ay.out])⟩
    ·have a9:k=N.length:=Ad6;subst a9
     repeat' (first|refine Z1 ?_|(refine Z8 ?_;intro κ hκ)|(refine Z4 ?_;clear hκ κ)|(refine Z2 ?_ ?_<;>intro h aa<;>try exact Xp)|refine Z3 ?_|exact⟨⟩|(apply hκ.out;clear hκ κ))
     exact⟨N.length-(i+1),Ad6,i+1,W,rfl,Ad6,by simp,hM,Sc hW.out⟩
  ·have ba:i=N.length:=Ad6;subst ba
   repeat' (first|refine Z1 ?_|(refine Z8 ?_;intro κ hκ)|(refine Z4 ?_;clear hκ κ)|(refine Z2 ?_ ?_<;>intro h aa<;>try exact Xp)|refine Z3 ?_|exact⟨⟩|(apply hκ.out;clear hκ κ))
   refine⟨N.length-(m+1),Ad6,m+1,rfl,Ad6,by simp,?_⟩;rw[Aec,show E5 N.length M0 (m+1)=W by rw[Sd hW.out,<-be.out];rfl];exact hM.out
 ·have a8:m=N.length:=Ad6;subst a8
  repeat' (first|refine Z1 ?_|(refine Z8 ?_;intro κ hκ)|(refine Z4 ?_;clear hκ κ)|(refine Z2 ?_ ?_<;>intro h aa<;>try exact Xp)|refine Z3 ?_|exact⟨⟩|(apply hκ.out;clear hκ κ))
  first
  |exact⟨_,rfl,idu,B,M0,rfl,hK,Ad6,ac,hM.out,az.out⟩
  |exact⟨_,rfl,idu,B,M0,rfl,Ad6,ac,hM.out,az.out⟩
def qP (N:List Tx)(U:Nat->Nat->Bool)(h:Tx)(a:Ai):Bool:=a.nt&&(((N.idxOf a.pred:Nat):Int)==((N.idxOf h:Nat):Int)||U (N.idxOf a.pred) (N.idxOf h))
def V4 (N:List Tx)(l:List RItem)(U:Nat->Nat->Bool)(i:Nat):Bool:=match l[i]? with|some x=>x.body.any (qP N U x.head.pred)|none=>false
theorem Uo (N:List Tx)(l:List RItem)(cs:List AV)(idn idi:Nat)(hB:Bk N l cs)(d:St):ACalls Tryz.prog 123 [Bs N idn l idi cs] d fun r d'=>∃M,Dm N l M/\r=sc (.int .i64 (Bb (V4 N l (E5 N.length M N.length)) l.length))/\Keep d d':=by
 have bg:=EL.length Df hB.el;have ba:=hB.len;have hN:=hB.nm;refine Z9 52 [.tmp 2] Tryz.func123 ?_
 repeat' (first|refine Z1 ?_|(refine Z8 ?_;intro κ hκ)|(refine Z4 ?_;clear hκ κ)|(refine Z2 ?_ ?_<;>intro h ab<;>try exact Xp)|(refine Z5 ?_;refine Xi (Lx N l cs idn idi hB _) ?_;rintro _ _ ⟨idu,B,M0,rfl,au,bd,ah,ap,a6⟩;(rw[Aa]at bd;have aj:=au.obj;have ae:=au.nobj;(try simp only[Aa,Ab,Ag]at ae)))|refine Z3 ?_|exact⟨⟩|(apply hκ.out;clear hκ κ))
 rename_i d1;have ay:Aec (Dm N l M0):=a6;clear a6 aj;have bf:=Hl B N.length N.length;have a5:Keep d d1:=Xs;clear au;generalize hU:E5 N.length M0 N.length=U at ap;have HU:Aec _:=hU;clear hU
 refine Ad (fun m s d'=>∃i:Nat,m=l.length-i/\i<=l.length/\s 3=sl idu N.length (Ek B N.length N.length)/\s 13=sl idi l.length cs/\s 14=sc (.int .i64 l.length)/\s 15=sc (.int .i64 i)/\Keep d d'/\B+N.length<=d'.nobj/\Aec (Mat B N.length U d')/\Aec (∀j,j<i->V4 N l U j=false)) l.length
  ⟨0,Ad6,Ad6,Ad8,Ad8,Ad8,rfl,a5,ah,ap,fun j hj=>Ad6⟩ ?_
 clear a5 ap ah ae;rintro m s d' ⟨i,rfl,hi,h3,ax,aw,av,hK,ad,hM,ai⟩;have az:=hK.nobj;by_cases ao:i<l.length
 ·have aa:=List.getElem?_eq_getElem ao;have a3:=hB.fits l[i] (Ac2 ao);obtain⟨hm,ih,id,b,r,hb,hd⟩:=Fi hB.el aa;generalize l[i]=x at hd aa a3 hb hm;have hv:Aec (V4 N l U i=x.body.any (qP N U x.head.pred)):=by rw[Aec,V4,aa]
  clear aa;have bh:=EL.length Eb hb;have be:=a3.1;have a0:=Ac4 hm
  repeat' (first|refine Z1 ?_|(refine Z8 ?_;intro κ hκ)|(refine Z4 ?_;clear hκ κ)|(refine Z2 ?_ ?_<;>intro h ab<;>try exact Xp)|refine Z3 ?_|exact⟨⟩|(apply hκ.out;clear hκ κ))
  refine Ad (fun m s d''=>∃j:Nat,m=x.body.length-j/\j<=x.body.length/\s 3=sl idu N.length (Ek B N.length N.length)/\s 4=sc (.int .i64 i)/\s 6=sc (.int .i64 (N.idxOf x.head.pred:Nat))/\s 13=sl idi l.length cs/\s 14=sc (.int .i64 l.length)/\s 15=sc (.int .i64 i)/\s 24=sl id x.body.length b/\s 25=sc (.int .i64 x.body.length)/\s 26=sc (.int .i64 j)/\Keep d d''/\B+N.length<=d''.nobj/\Aec (Mat B N.length U d'')/\Aec ((x.body.take j).any (qP N U x.head.pred)=false)) x.body.length
   ⟨0,Ad6,Ad6,by simp[upd,h3],Ad8,Ad8,by simp[upd,ax],by simp[upd,aw],by simp[upd,av],Ad8,rfl,rfl,(hK.new _).put hK.nobj _,Aeb,Mat.put (Mat.new hM.out ad _) ad _,by simp[Aec]⟩ ?_
  clear hK hM ad h3 ax aw av az;rintro m s d'' ⟨j,rfl,hj,h3,h4,h6,ax,aw,av,bm,bl,bi,hK,ad,hM,ac⟩;have az:=hK.nobj;by_cases an:j<x.body.length
  ·have aa:=List.getElem?_eq_getElem an;obtain⟨ha,ia,r2,a4⟩:=N5 hb aa;generalize x.body[j]=a at a4 aa ha;have HA:Aec (x.body[j]?=some a):=aa;clear aa;have am:=Ac4 ha;have a8:=Hm (B:=B) (n:=N.length) (k:=N.length) am;have a9:=hM.out _ am;have a7:=Dv N.length (U (N.idxOf a.pred));have ak:=F0 (U (N.idxOf a.pred)) a0;have af:Aec (qP N U x.head.pred a=(a.nt&&(((N.idxOf a.pred:Nat):Int)==((N.idxOf x.head.pred:Nat):Int)||U (N.idxOf a.pred) (N.idxOf x.head.pred)))):=rfl;generalize hu:U (N.idxOf a.pred) (N.idxOf x.head.pred)=uu at ak af;clear hu;generalize N.idxOf a.pred=pa at a4 am a8 a9 a7 ak af;generalize N.idxOf x.head.pred=ph at h6 ak af a0
   repeat' (first|refine Z1 ?_|(refine Z8 ?_;intro κ hκ)|(refine Z4 ?_;clear hκ κ)|(refine Z2 ?_ ?_<;>intro h ab<;>try exact Xp)|refine Z3 ?_|exact⟨⟩|(apply hκ.out;clear hκ κ))
   all_goals
    first
    |(refine⟨_,rfl,M0,ay.out,?_,(hK.new _).put hK.nobj _⟩
      rw[HU.out,Js ao (by rw[hv.out];exact Qv _ HA.out (by rw[af.out];simp[*])) ai.out])
    |(refine⟨x.body.length-(j+1),Ad6,j+1,rfl,Ad6,by simp,(hK.new _).put hK.nobj _,Ad6,Mat.put (Mat.new hM.out ad _) ad _,?_⟩
      rw[Aec,any_take_succ _ HA.out,ac.out,af.out];simp[*])
  ·have bb:j=x.body.length:=Ad6;subst bb;rw[Abt]at ac
   repeat' (first|refine Z1 ?_|(refine Z8 ?_;intro κ hκ)|(refine Z4 ?_;clear hκ κ)|(refine Z2 ?_ ?_<;>intro h ab<;>try exact Xp)|refine Z3 ?_|exact⟨⟩|(apply hκ.out;clear hκ κ))
   exact⟨l.length-(i+1),Ad6,i+1,rfl,Ad6,by simp,La ai.out (by rw[hv.out];exact ac.out)⟩
 ·have bc:i=l.length:=Ad6;subst bc
  repeat' (first|refine Z1 ?_|(refine Z8 ?_;intro κ hκ)|(refine Z4 ?_;clear hκ κ)|(refine Z2 ?_ ?_<;>intro h ab<;>try exact Xp)|refine Z3 ?_|exact⟨⟩|(apply hκ.out;clear hκ κ))
  first
  |exact⟨_,rfl,M0,ay.out,by rw[HU.out,Ck ai.out],hK⟩
  |exact⟨_,rfl,M0,ay.out,by rw[HU.out,Ck ai.out]⟩
end Go.Proofs.YtmoeoppbmhfbpabGreatDoorJ
