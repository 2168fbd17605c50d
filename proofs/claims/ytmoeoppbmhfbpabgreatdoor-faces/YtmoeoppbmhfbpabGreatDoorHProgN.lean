import Derived.Test.YtmoeoppbmhfbpabGreatDoorHProgK
set_option linter.all false
namespace Go.Proofs.YtmoeoppbmhfbpabGreatDoorH
set_option maxHeartbeats 16000000
open Go.Abs
set_option maxRecDepth 100000
theorem Qd (N:List Tx)(l:List RItem)(cs:List AV)(idn idi:Nat)(hB:Bk N l cs)(d:St):ACalls Tryz.prog 121 [B7 N idn l idi cs] d fun r d'=>r=sc (.int .i64 (Bm (Ih l) l.length))/\Keep d d':=by
 have a0:=EL.length Dw hB.el;have bl:=hB.len;have hN:=hB.nm;refine Z9 52 [.tmp 2] Tryz.func121 ?_
 repeat' (first|refine Z1 ?_|(refine Z8 ?_;intro κ hκ)|(refine Z4 ?_;clear hκ κ)|(refine Z2 ?_ ?_<;>intro h ab<;>try exact Xp)|refine Z3 ?_|exact⟨⟩|(apply hκ.out;clear hκ κ))
 refine Ad (fun m s d'=>∃(i:Nat) (cc:Nat->Int),m=l.length-i/\i<=l.length/\s 3=fx (d.nobj+1) 0 N.length/\s 13=sl idi l.length cs/\s 14=sc (.int .i64 l.length)/\s 15=sc (.int .i64 i)/\Keep d d'/\d.nobj+1<d'.nobj/\d'.obj (d.nobj+1)=Lq N.length cc/\Ad8 (cntsOk N (Kg l i) cc)/\Ad8 (N5 (Kg l i))/\Ad8 (noO l i)) l.length
  ⟨0,fun _=>0,Ad2,Ad2,?_,rfl,rfl,rfl,Xs,Ad6,?_,?_,by simp[Ad8,Kg,sP],fun a h=>Ad2⟩ ?_
 ·simp[upd]
 ·show (if d.nobj+1=d.nobj+1 then _ else _)=_;rw[if_pos rfl];exact nV _
 ·intro p hp;simp[Kg,Hu]
 rintro m s d' ⟨i,cc,rfl,hi,h3,a6,a5,a4,hK,ae,aw,hC,hS,ar⟩;have a8:=hK.nobj;by_cases am:i<l.length
 ·have aa:=List.getElem?_eq_getElem am;have ay:=hB.fits l[i] (Acz am);have ba:=hB.out l[i] (Acz am);have a9:=hB.pos l[i] (Acz am);obtain⟨hm,ih,id,b,r,hb,hd⟩:=Gp hB.el aa;generalize l[i]=x at hd aa ay ba hb hm a9;have HX:Ad8 (l[i]?=some x):=aa;clear aa;have b1:=ay.atoms
  repeat' (first|refine Z1 ?_|(refine Z8 ?_;intro κ hκ)|(refine Z4 ?_;clear hκ κ)|(refine Z2 ?_ ?_<;>intro h ab<;>try exact Xp)|(refine Z5 ?_;refine Xi (Kh N x _ (PI.of hm hb) ba (by have:=ay.1;omega) _) ?_;rintro _ _ ⟨ida,cs2,rfl,bf,a3⟩;(have ah:=a3.obj;have ai:=a3.nobj;(try simp only[Aa,Ab,Ah]at ai)))|refine Z3 ?_|exact⟨⟩|(apply hκ.out;clear hκ κ))
  rename_i d1;have bp:=EL.length Yy bf;have be:Keep d d1:=Xs;have aj:d1.obj (d.nobj+1)=Lq N.length cc:=by
   rw[ah _ (by simp only[Aa,Ab];omega),Ai Ad2,Ae ae];exact aw
  clear ah
  refine Ad (fun m s d'=>∃(j:Nat) (cc:Nat->Int),m=(Ag x).length-j/\j<=(Ag x).length/\s 3=fx (d.nobj+1) 0 N.length/\s 4=sc (.int .i64 i)/\s 13=sl idi l.length cs/\s 14=sc (.int .i64 l.length)/\s 15=sc (.int .i64 i)/\s 21=sl ida (Ag x).length cs2/\s 22=sc (.int .i64 (Ag x).length)/\s 23=sc (.int .i64 j)/\Keep d d'/\d.nobj+1<d'.nobj/\d'.obj (d.nobj+1)=Lq N.length cc/\Ad8 (cntsOk N (Fa l x i j) cc)/\Ad8 (N5 (Fa l x i j))/\Ad8 (Aa7 l x i j)) (Ag x).length
   ⟨0,cc,Ad2,Ad2,by simp[upd,h3],Ad4,by simp[upd,a6],by simp[upd,a5],by simp[upd,a4],Ad4,rfl,rfl,be,Ad2,aj,by simpa[Fa]using hC,by simpa[Fa]using hS,fun b h=>Ad2⟩ ?_
  clear aj hK aw hC hS a3 ai a8 h3 a6 a5 a4 ae cc be;rintro m s d' ⟨j,cc,rfl,hj,h3,h4,a6,a5,a4,b4,b3,b2,hK,ae,aw,hC,hS,ad⟩;have a8:=hK.nobj;by_cases af:j<(Ag x).length
  ·have aa:=List.getElem?_eq_getElem af;have av:=a9 (Ag x)[j] (Acz af);obtain⟨ha,ia,r2,bb⟩:=tV bf aa;generalize (Ag x)[j]=a at bb aa ha av;have HA:Ad8 ((Ag x)[j]?=some a):=aa;clear aa;have ac:Ad8 (Sy l x i j=(Fa l x i j).any (clash a)):=by rw[Ad8,Sy,HA.out]
   have ax:=Ac1 ha;have ap:=hC.out.step hS.out ha;have az:=hC.out a.pred ha;have bc:=Kt cc ax;have an:=fun v=>sJ (n:=N.length) (i:=N.idxOf a.pred) cc v;have bz:=Tp N.length cc;generalize bq:cc (N.idxOf a.pred)=c at bc ap az;clear bq;generalize N.idxOf a.pred=ix at bb bc ax ap an;have a0:=Ww hS.out a;have bg:Ad8 _:=ap;have au:Ad8 _:=az;have a7:Ad8 _:=a0;clear ap az a0;by_cases ao:(c==0)=true
   ·have b0:((Lq N.length cc).set ix (sc (.int .i64 a.terms.length)))[ix]?=some (sc (.int .i64 a.terms.length)):=by rw[an,Kt _ ax];simp
    have hne:((a.terms.length:Int) !=a.terms.length)=false:=by simp
    have br:c=0:=by simpa using ao
    have bw:Ad8 _:=an;clear an
    repeat' (first|refine Z1 ?_|(refine Z8 ?_;intro κ hκ)|(refine Z4 ?_;clear hκ κ)|(refine Z2 ?_ ?_<;>intro h ab<;>try exact Xp)|refine Z3 ?_|exact⟨⟩|(apply hκ.out;clear hκ κ))
    refine Bt Ak (fun _=>True) [8] [0,1,2,3,4,5,6,7] [8] Ad5 (fun _ _ _ h=>h) ?_;intro κ hκ;refine Z3 ?_
    repeat' (first|refine Z1 ?_|(refine Z8 ?_;intro κ hκ)|(refine Z4 ?_;clear hκ κ)|(refine Z2 ?_ ?_<;>intro h ab<;>try exact Xp)|refine Z3 ?_|exact⟨⟩|(apply hκ.out;clear hκ κ))
    have ak:(Fa l x i j).any (clash a)=false:=by
     cases hq:(Fa l x i j).any (clash a)with
     |false=>rfl
     |true=>exfalso;have h1:=(a7.out.1 hq).1;have h2:=au.out;omega
    refine⟨(Ag x).length-(j+1),Ad2,j+1,_,rfl,Ad2,by simp,((hK.new _).put hK.nobj _).put Ad2 _,Ad2,bw.out _,?_,?_,Lb ad.out (by rw[ac.out];exact ak)⟩
    ·rw[Ad8,K1 HA.out];exact bg.out.1 br
    ·rw[Ad8,K1 HA.out];exact Wv hS.out av ak
   ·have ao:(c==0)=false:=by simpa using ao
    clear an
    repeat' (first|refine Z1 ?_|(refine Z8 ?_;intro κ hκ)|(refine Z4 ?_;clear hκ κ)|(refine Z2 ?_ ?_<;>intro h ab<;>try exact Xp)|refine Z3 ?_|exact⟨⟩|(apply hκ.out;clear hκ κ))
    refine Bt Ak (fun _=>True) [8] [0,1,2,3,4,5,6,7] [8] Ad5 (fun _ _ _ h=>h) ?_;intro κ hκ;refine Z3 ?_
    repeat' (first|refine Z1 ?_|(refine Z8 ?_;intro κ hκ)|(refine Z4 ?_;clear hκ κ)|(refine Z2 ?_ ?_<;>intro h ab<;>try exact Xp)|refine Z3 ?_|exact⟨⟩|(apply hκ.out;clear hκ κ))
    ·have bd:c≠0:=by simpa using ao
     have bu:c≠a.terms.length:=by simpa using h
     have bo:=a7.out.2 ⟨by have:=au.out;omega,by have:=au.out;omega⟩;have bi:Ih l i=true:=by
      unfold Ih;rw[HX.out];dsimp only;rw[Acb];exact⟨j,by simpa using af,by rw[ac.out];exact bo⟩
     exact⟨_,rfl,by rw[Jj am bi ar.out],(hK.new _).put hK.nobj _⟩
    ·have bd:c≠0:=by simpa using ao
     have bu:c=a.terms.length:=by simpa using h
     have ak:(Fa l x i j).any (clash a)=false:=by
      cases hq:(Fa l x i j).any (clash a)with
      |false=>rfl
      |true=>exfalso;have h1:=(a7.out.1 hq).2;have h2:=au.out;omega
     refine⟨(Ag x).length-(j+1),Ad2,j+1,cc,rfl,Ad2,by simp,(hK.new _).put hK.nobj _,Ad2,rfl,?_,?_,Lb ad.out (by rw[ac.out];exact ak)⟩
     ·rw[Ad8,K1 HA.out];exact bg.out.2 bd
     ·rw[Ad8,K1 HA.out];exact Wv hS.out av ak
  ·have bm:j=(Ag x).length:=Ad2;subst bm
   repeat' (first|refine Z1 ?_|(refine Z8 ?_;intro κ hκ)|(refine Z4 ?_;clear hκ κ)|(refine Z2 ?_ ?_<;>intro h ab<;>try exact Xp)|refine Z3 ?_|exact⟨⟩|(apply hκ.out;clear hκ κ))
   have bh:Fa l x i (Ag x).length=Kg l (i+1):=by rw[mD HX.out];simp[Fa]
   rw[bh]at hC hS;refine⟨l.length-(i+1),Ad2,i+1,cc,rfl,Ad2,by simp,rfl,hC,hS,Lb ar.out ?_⟩;unfold Ih;rw[HX.out];dsimp only;rw[Acy];intro b hb;have bv:=ad.out b (by simpa using hb);simp[bv]
 ·have bn:i=l.length:=Ad2;subst bn
  repeat' (first|refine Z1 ?_|(refine Z8 ?_;intro κ hκ)|(refine Z4 ?_;clear hκ κ)|(refine Z2 ?_ ?_<;>intro h ab<;>try exact Xp)|refine Z3 ?_|exact⟨⟩|(apply hκ.out;clear hκ κ))
  first|exact⟨_,rfl,by rw[Cn ar.out],hK⟩|exact⟨_,rfl,by rw[Cn ar.out]⟩
def Gv (n:Nat)(f:Nat->Bool):List AV:=(List.range n).map fun i=>sc (.bool (f i))
theorem D1 (n:Nat)(f:Nat->Bool):(Gv n f).length=n:=by simp[Gv]
theorem Ft {n i:Nat}(f:Nat->Bool)(h:i<n):(Gv n f)[i]?=some (sc (.bool (f i))):=by simp[Gv,h]
theorem Tu {n i:Nat}(f:Nat->Bool)(v:Bool):(Gv n f).set i (sc (.bool v))=Gv n (fun j=>if j=i then v else f j):=by
 apply Abw;intro j;rw[List.getElem?_set];by_cases hj:j<n
 ·rw[Ft (fun j=>if j=i then v else f j) hj];by_cases e:i=j
  ·subst e;rw[if_pos rfl,D1,if_pos hj];simp
  ·rw[if_neg e,Ft _ hj,if_neg (fun e'=>e e'.symm)]
 ·have h1:(Gv n fun j=>if j=i then v else f j)[j]?=none:=by simp[Gv];omega
  have h2:(Gv n f)[j]?=none:=by simp[Gv];omega
  rw[h1,h2];split
  ·rw[D1];rw[if_neg Ad2]
  ·rfl
theorem Wx (n:Nat):List.replicate n (sc (.bool false))=Gv n fun _=>false:=by
 apply Abw;intro j;by_cases hj:j<n
 ·rw[Ft _ hj];simp[hj]
 ·simp[Gv,hj]
def En (B n k:Nat):List AV:=(List.range k).map fun i=>fx (B+i) 0 n
theorem G7 (B n k:Nat):(En B n k).length=k:=by simp[En]
theorem fI (B n k:Nat):En B n (k+1)=En B n k++[fx (B+k) 0 n]:=by simp[En,List.range_succ]
theorem G8 {B n k i:Nat}(h:i<k):(En B n k).drop i=fx (B+i) 0 n::(En B n k).drop (i+1):=by
 rw[Acd (by rw[G7];exact h)];simp[En]
def Mat (B n:Nat)(M:Nat->Nat->Bool)(d:St):Prop:=∀i,i<n->d.obj (B+i)=Gv n (M i)
theorem Mat.keep {B n:Nat}{M:Nat->Nat->Bool}{d d':St}(h:Mat B n M d)(k:Keep d d')(hn:B+n<=d.nobj):Mat B n M d':=fun i hi=>by rw[k.obj _ Ad2];exact h i hi
theorem Mat.new {B n:Nat}{M:Nat->Nat->Bool}{d:St}(h:Mat B n M d)(hn:B+n<=d.nobj)(cs:List AV):Mat B n M (d.new cs):=fun i hi=>by rw[Ae Ad2];exact h i hi
theorem Mat.put {B n o:Nat}{M:Nat->Nat->Bool}{d:St}(h:Mat B n M d)(ho:B+n<=o)(cs:List AV):Mat B n M (d.put o cs):=fun i hi=>by rw[Ai Ad2];exact h i hi
theorem Mat.set {B n p q:Nat}{M:Nat->Nat->Bool}{d:St}(h:Mat B n M d)(hp:p<n)(v:Bool):Mat B n (set2 M p q v) (d.put (B+p) ((Gv n (M p)).set q (sc (.bool v)))):=fun i hi=>by
 by_cases e:i=p
 ·subst e;rw[Aj,Tu];congr 1;funext j;simp[set2]
 ·have hx:(d.put (B+p) ((Gv n (M p)).set q (sc (.bool v)))).obj (B+i)=d.obj (B+i):=by
   by_cases hl:i<p
   ·exact Ai Ad2
   ·exact Qm Ad2
  rw[hx,h i hi];congr 1;funext j;simp[set2,e]
def cC (N:List Tx)(l:List RItem)(p q:Nat):Prop:=∃x∈l,N.idxOf x.head.pred=p/\∃a∈x.body,N.idxOf a.pred=q
def Aat (N:List Tx)(x:RItem)(b:List RAtom)(p q:Nat):Prop:=N.idxOf x.head.pred=p/\∃a∈b,N.idxOf a.pred=q
def Dl (N:List Tx)(l:List RItem)(M:Nat->Nat->Bool):Prop:=∀p q,M p q=true↔cC N l p q
def isOnceQ (N:List Tx)(l:List RItem)(x:RItem)(b:List RAtom)(M:Nat->Nat->Bool):Prop:=∀p q,M p q=true↔cC N l p q\/Aat N x b p q
theorem isOnceQ.step {N:List Tx}{l:List RItem}{x:RItem}{j:Nat}{a:RAtom}{M:Nat->Nat->Bool}(h:isOnceQ N l x (x.body.take j) M)(ha:x.body[j]?=some a):isOnceQ N l x (x.body.take (j+1)) (set2 M (N.idxOf x.head.pred) (N.idxOf a.pred) true):=by
 intro p q;rw[Abq,ha];unfold set2;by_cases e:p=N.idxOf x.head.pred/\q=N.idxOf a.pred
 ·rw[if_pos e];simp only[true_iff];exact .inr ⟨e.1.symm,a,by simp,e.2.symm⟩
 ·rw[if_neg e,h p q];constructor
  ·rintro (h|⟨h1,b,hb,h2⟩)
   ·exact .inl h
   ·exact .inr ⟨h1,b,by simp[hb],h2⟩
  ·rintro (h|⟨h1,b,hb,h2⟩)
   ·exact .inl h
   ·simp only[Ac2,Ack,Ac3]at hb;rcases hb with hb|rfl
    ·exact .inr ⟨h1,b,hb,h2⟩
    ·exact absurd ⟨h1.symm,h2.symm⟩ e
theorem isOnceQ.zero {N:List Tx}{l:List RItem}{x:RItem}{M:Nat->Nat->Bool}(h:Dl N l M):isOnceQ N l x (x.body.take 0) M:=by
 intro p q;rw[h p q];constructor
 ·exact .inl
 ·rintro (h|⟨-,b,hb,-⟩)
  ·exact h
  ·simp at hb
theorem isOnceQ.done {N:List Tx}{l:List RItem}{x:RItem}{i:Nat}{M:Nat->Nat->Bool}(h:isOnceQ N (l.take i) x x.body M)(hx:l[i]?=some x):Dl N (l.take (i+1)) M:=by
 intro p q;rw[h p q,Abq,hx];constructor
 ·rintro (⟨y,hy,g⟩|g)
  ·exact⟨y,by simp[hy],g⟩
  ·exact⟨x,by simp,g⟩
 ·rintro⟨y,hy,g⟩;simp only[Ac2,Ack,Ac3]at hy;rcases hy with hy|rfl
  ·exact .inl ⟨y,hy,g⟩
  ·exact .inr g
theorem P3 (N:List Tx)(l:List RItem)(cs:List AV)(idn idi:Nat)(hB:Bk N l cs)(d:St):ACalls Tryz.prog 206 [B7 N idn l idi cs] d fun r d'=>∃idu B M,r=sl idu N.length (En B N.length N.length)/\Keep d d'/\d.nobj<=B/\B+N.length<=d'.nobj/\Mat B N.length M d'/\Dl N l M:=by
 have br:=EL.length Dw hB.el;have bh:=hB.len;have hN:=hB.nm;refine Z9 51 [.tmp 2] Tryz.func206 ?_
 repeat' (first|refine Z1 ?_|(refine Z8 ?_;intro κ hκ)|(refine Z4 ?_;clear hκ κ)|(refine Z2 ?_ ?_<;>intro h ae<;>try exact Xp)|(refine Z6 ?_;intro idn dn ah ai ac aa af ab)|refine Z3 ?_|exact⟨⟩|(apply hκ.out;clear hκ κ))
 refine Ad (fun m s d'=>∃(k idu:Nat),m=N.length-k/\k<=N.length/\s 1=ptr d.nobj 0/\s 3=sl idu k (En (d.nobj+1) N.length k)/\s 12=sc (.int .i64 N.length)/\s 13=sc (.int .i64 k)/\Keep d d'/\Own d d' idu k/\d'.nobj=d.nobj+1+k/\d'.obj d.nobj=[sl idn N.length (N.map str),sl idi l.length cs]/\Ad8 (∀i,i<k->d'.obj (d.nobj+1+i)=Gv N.length fun _=>false)) N.length
  ⟨0,1,Ad2,Ad2,rfl,rfl,rfl,rfl,Xs,Own.nil _ _,rfl,Am,fun i hi=>Ad2⟩ ?_
 rintro m s d' ⟨k,idu,rfl,hk,h1,h3,bp,bo,hK,hO,aj,a4,hM⟩;have bb:=G7 (d.nobj+1) N.length k;by_cases an:k<N.length
 ·repeat' (first|refine Z1 ?_|(refine Z8 ?_;intro κ hκ)|(refine Z4 ?_;clear hκ κ)|(refine Z2 ?_ ?_<;>intro h ae<;>try exact Xp)|(refine Z6 ?_;intro idn dn ah ai ac aa af ab)|refine Z3 ?_|exact⟨⟩|(apply hκ.out;clear hκ κ))
  have bn:Keep d (d'.new (List.replicate N.length (sc (.bool false)))):=hK.new _;refine Bj (by first|exact M9) bn (Own.new hO _) (by decide) (by rfl) (by rw[bb,Nat.mul_one]) (by rfl) (by rfl) (by decide) Ad2 Ad2 ?_;intro idn2 dn ah ai ac aa af ab;have be:dn.obj d.nobj=[sl idn N.length (N.map str),sl idi l.length cs]:=by rw[ac,Ae Ad2];exact a4
  rw[Aa,aj]at aa;refine Z3 ?_
  repeat' (first|refine Z1 ?_|(refine Z8 ?_;intro κ hκ)|(refine Z4 ?_;clear hκ κ)|(refine Z2 ?_ ?_<;>intro h ae<;>try exact Xp)|(refine Z6 ?_;intro idn dn ah ai ac aa af ab)|refine Z3 ?_|exact⟨⟩|(apply hκ.out;clear hκ κ))
  refine⟨N.length-(k+1),Ad2,k+1,idn2,rfl,Ad2,by rw[fI],by simp,ah,Ad2,?_⟩;intro i hi
  try rw[ac]
  by_cases e:i=k
  ·subst e;rw[<-aj,Am,Wx]
  ·rw[Ae Ad2];exact hM.out i Ad2
 ·have bi:k=N.length:=Ad2;subst bi
  repeat' (first|refine Z1 ?_|(refine Z8 ?_;intro κ hκ)|(refine Z4 ?_;clear hκ κ)|(refine Z2 ?_ ?_<;>intro h ae<;>try exact Xp)|(refine Z6 ?_;intro idn dn ah ai ac aa af ab)|refine Z3 ?_|exact⟨⟩|(apply hκ.out;clear hκ κ))
  have a9:Mat (d.nobj+1) N.length (fun _ _=>false) d':=hM.out;have ak:d.nobj+1+N.length<=d'.nobj:=Ad2;clear hM aj hO a4 bo bp h1
  refine Ad (fun m s d'=>∃(i:Nat) (M:Nat->Nat->Bool),m=l.length-i/\i<=l.length/\s 3=sl idu N.length (En (d.nobj+1) N.length N.length)/\s 25=sl idi l.length cs/\s 26=sc (.int .i64 l.length)/\s 27=sc (.int .i64 i)/\Keep d d'/\d.nobj+1+N.length<=d'.nobj/\Ad8 (Mat (d.nobj+1) N.length M d')/\Ad8 (Dl N (l.take i) M)) l.length
   ⟨0,fun _ _=>false,Ad2,Ad2,by simp[upd,h3],Ad4,Ad4,rfl,hK,ak,a9,fun p q=>by simp[cC]⟩ ?_
  clear a9 ak h3 hK h ae an hk;rintro m s d' ⟨i,M,rfl,hi,h3,ax,aw,av,hK,ak,hM,hI⟩;have a0:=hK.nobj;by_cases an:i<l.length
  ·have ad:=List.getElem?_eq_getElem an;have a7:=hB.fits l[i] (Acz an);obtain⟨hm,ih,id,b,r,hb,hd⟩:=Gp hB.el ad;generalize l[i]=x at hd ad a7 hb hm;have HX:Ad8 (l[i]?=some x):=ad;clear ad;have bu:=EL.length Dm hb;have bq:=a7.1;have am:=Ac1 hm
   repeat' (first|refine Z1 ?_|(refine Z8 ?_;intro κ hκ)|(refine Z4 ?_;clear hκ κ)|(refine Z2 ?_ ?_<;>intro h ae<;>try exact Xp)|(refine Z6 ?_;intro idn dn ah ai ac aa af ab)|refine Z3 ?_|exact⟨⟩|(apply hκ.out;clear hκ κ))
   have au:Keep d ((d'.new [sc (.bool false),sc (.int .i64 0),nilS,nilS]).put d'.nobj [sc (.bool x.out),sc (.int .i64 (N.idxOf x.head.pred:Nat)),sl ih x.head.terms.length (Aw x.head.terms),sl id x.body.length b]):=(hK.new _).put hK.nobj _;have ar:=(hM.out.new ak [sc (.bool false),sc (.int .i64 0),nilS,nilS]).put ak [sc (.bool x.out),sc (.int .i64 (N.idxOf x.head.pred:Nat)),sl ih x.head.terms.length (Aw x.head.terms),sl id x.body.length b];generalize a5:d'.nobj=o6 at au ar ak
   refine Ad (fun m s d''=>∃(j:Nat) (M:Nat->Nat->Bool),m=x.body.length-j/\j<=x.body.length/\s 3=sl idu N.length (En (d.nobj+1) N.length N.length)/\s 6=ptr o6 0/\s 25=sl idi l.length cs/\s 26=sc (.int .i64 l.length)/\s 27=sc (.int .i64 i)/\s 32=sl id x.body.length b/\s 33=sc (.int .i64 x.body.length)/\s 34=sc (.int .i64 j)/\Keep d d''/\o6<d''.nobj/\d''.obj o6=[sc (.bool x.out),sc (.int .i64 (N.idxOf x.head.pred:Nat)),sl ih x.head.terms.length (Aw x.head.terms),sl id x.body.length b]/\Ad8 (Mat (d.nobj+1) N.length M d'')/\Ad8 (isOnceQ N (l.take i) x (x.body.take j) M)) x.body.length
    ⟨0,M,Ad2,Ad2,by simp[upd,h3],by simp[upd,a5],by simp[upd,ax],by simp[upd,aw],by simp[upd,av],Ad4,rfl,rfl,?_,?_,?_,?_,isOnceQ.zero hI.out⟩ ?_
   ·exact au
   ·rw[Ab,Aa];omega
   ·rw[Aj]
   ·exact ar
   clear ar au hK hM hI h3 ax aw av a0 M a5;rintro m s d'' ⟨j,M,rfl,hj,h3,h6,ax,aw,av,bz,bw,bv,hK,bf,ao,hM,hI⟩;have a0:=hK.nobj;by_cases ap:j<x.body.length
   ·have ad:=List.getElem?_eq_getElem ap;obtain⟨ha,ia,r2,a8⟩:=L4 hb ad;generalize x.body[j]=a at a8 ad ha;have HA:Ad8 (x.body[j]?=some a):=ad;clear ad;have bd:=Ac1 ha;have bc:=G8 (B:=d.nobj+1) (n:=N.length) (k:=N.length) am;have bg:=hM.out _ am;have ba:=D1 N.length (M (N.idxOf x.head.pred));have a3:=isOnceQ.step hI.out HA.out;have ay:Ad8 _:=a3;have a6:=fun (τ:St) (hτ:Mat (d.nobj+1) N.length M τ)=>Mat.set (q:=N.idxOf a.pred) hτ am true;have az:Ad8 _:=a6;clear a3 a6;generalize N.idxOf x.head.pred=ph at ao am bc bg ba ay az;generalize N.idxOf a.pred=qa at a8 bd ay az
    repeat' (first|refine Z1 ?_|(refine Z8 ?_;intro κ hκ)|(refine Z4 ?_;clear hκ κ)|(refine Z2 ?_ ?_<;>intro h ae<;>try exact Xp)|(refine Z6 ?_;intro idn dn ah ai ac aa af ab)|refine Z3 ?_|exact⟨⟩|(apply hκ.out;clear hκ κ))
    refine Bt Ak (fun _=>True) [10] [0,1,2,3,4,5,6,7,8,9] [10] Ad5 (fun _ _ _ h=>h) ?_;intro κ hκ;refine Z3 ?_
    repeat' (first|refine Z1 ?_|(refine Z8 ?_;intro κ hκ)|(refine Z4 ?_;clear hκ κ)|(refine Z2 ?_ ?_<;>intro h ae<;>try exact Xp)|(refine Z6 ?_;intro idn dn ah ai ac aa af ab)|refine Z3 ?_|exact⟨⟩|(apply hκ.out;clear hκ κ))
    exact⟨x.body.length-(j+1),Ad2,j+1,_,rfl,Ad2,by simp,((hK.new _).put hK.nobj _).put Ad2 _,Ad2,az.out _ (Mat.put (Mat.new hM.out Ad2 _) Ad2 _),ay.out⟩
   ·have bl:j=x.body.length:=Ad2;subst bl;rw[Abn]at hI
    repeat' (first|refine Z1 ?_|(refine Z8 ?_;intro κ hκ)|(refine Z4 ?_;clear hκ κ)|(refine Z2 ?_ ?_<;>intro h ae<;>try exact Xp)|(refine Z6 ?_;intro idn dn ah ai ac aa af ab)|refine Z3 ?_|exact⟨⟩|(apply hκ.out;clear hκ κ))
    exact⟨l.length-(i+1),Ad2,i+1,M,rfl,Ad2,by simp,Ad2,hM,isOnceQ.done hI.out HX.out⟩
  ·have bm:i=l.length:=Ad2;subst bm;rw[Abn]at hI
   repeat' (first|refine Z1 ?_|(refine Z8 ?_;intro κ hκ)|(refine Z4 ?_;clear hκ κ)|(refine Z2 ?_ ?_<;>intro h ae<;>try exact Xp)|(refine Z6 ?_;intro idn dn ah ai ac aa af ab)|refine Z3 ?_|exact⟨⟩|(apply hκ.out;clear hκ κ))
   exact⟨_,rfl,idu,d.nobj+1,M,rfl,Ad2,ak,hM.out,hI.out⟩
theorem mR {n:Nat}{M W:Nat->Nat->Bool}{m i k:Nat}(h:part n M m i k W)(hv:fw M m i k=M i k):part n M m i (k+1) W:=by
 intro a b;rw[h];by_cases hc:(a<i/\b<n)\/(a=i/\b<k)
 ·rw[if_pos hc,if_pos Ad2]
 ·rw[if_neg hc];by_cases hd:(a<i/\b<n)\/(a=i/\b<k+1)
  ·rw[if_pos hd];have e1:a=i:=Ad2;have e2:b=k:=Ad2;rw[e1,e2,hv]
  ·rw[if_neg hd]
theorem mQ {n:Nat}{M W:Nat->Nat->Bool}{m i:Nat}(h:part n M m i 0 W)(hv:M i m=false):part n M m (i+1) 0 W:=by
 intro a b;rw[h];by_cases hc:(a<i/\b<n)\/(a=i/\b<0)
 ·rw[if_pos hc,if_pos Ad2]
 ·rw[if_neg hc];by_cases hd:(a<i+1/\b<n)\/(a=i+1/\b<0)
  ·rw[if_pos hd];have e1:a=i:=Ad2;rw[e1];simp[fw,hv]
  ·rw[if_neg hd]
theorem Mb (N:List Tx)(l:List RItem)(cs:List AV)(idn idi:Nat)(hB:Bk N l cs)(d:St):ACalls Tryz.prog 175 [B7 N idn l idi cs] d fun r d'=>∃idu B M,r=sl idu N.length (En B N.length N.length)/\Keep d d'/\d.nobj<=B/\B+N.length<=d'.nobj/\Mat B N.length (Fb N.length M N.length) d'/\Dl N l M:=by
 have hN:=hB.nm;refine Z9 49 [.tmp 2] Tryz.func175 ?_
 repeat' (first|refine Z1 ?_|(refine Z8 ?_;intro κ hκ)|(refine Z4 ?_;clear hκ κ)|(refine Z2 ?_ ?_<;>intro h aa<;>try exact Xp)|(refine Z5 ?_;refine Xi (P3 N l cs idn idi hB _) ?_;rintro _ _ ⟨idu,B,M0,rfl,ba,bb,ah,au,aw⟩;(rw[Aa]at bb))|refine Z3 ?_|exact⟨⟩|(apply hκ.out;clear hκ κ))
 rename_i d1;have ay:Ad8 (Dl N l M0):=aw;clear aw;have bg:=G7 B N.length N.length;have av:Keep d d1:=Xs;clear ba
 refine Ad (fun q s d'=>∃m:Nat,q=N.length-m/\m<=N.length/\s 3=sl idu N.length (En B N.length N.length)/\s 10=sc (.int .i64 N.length)/\s 11=sc (.int .i64 m)/\Keep d d'/\B+N.length<=d'.nobj/\Ad8 (Mat B N.length (Fb N.length M0 m) d')) N.length
  ⟨0,Ad2,Ad2,rfl,rfl,rfl,av,ah,au⟩ ?_
 clear av au ah;rintro q s d' ⟨m,rfl,hm,h3,ae,ad,hK,ac,hM⟩;by_cases aj:m<N.length
 ·generalize ar:Fb N.length M0 m=M at hM;have bd:Ad8 _:=ar;clear ar
  repeat' (first|refine Z1 ?_|(refine Z8 ?_;intro κ hκ)|(refine Z4 ?_;clear hκ κ)|(refine Z2 ?_ ?_<;>intro h aa<;>try exact Xp)|refine Z3 ?_|exact⟨⟩|(apply hκ.out;clear hκ κ))
  refine Ad (fun q s d'=>∃(i:Nat) (W:Nat->Nat->Bool),q=N.length-i/\i<=N.length/\s 3=sl idu N.length (En B N.length N.length)/\s 4=sc (.int .i64 m)/\s 10=sc (.int .i64 N.length)/\s 11=sc (.int .i64 m)/\s 15=sc (.int .i64 N.length)/\s 16=sc (.int .i64 i)/\Keep d d'/\B+N.length<=d'.nobj/\Ad8 (Mat B N.length W d')/\Ad8 (part N.length M m i 0 W)) N.length
   ⟨0,M,Ad2,Ad2,by simp[upd,h3],Ad4,by simp[upd,ae],by simp[upd,ad],rfl,rfl,hK,ac,hM,mP⟩ ?_
  clear hK ac hM h3 ae ad;rintro q s d' ⟨i,W,rfl,hi,h3,h4,ae,ad,an,am,hK,ac,hM,hW⟩;by_cases ab:i<N.length
  ·have bh:=G8 (B:=B) (n:=N.length) (k:=N.length) ab;have a6:=hM.out _ ab;have a3:=D1 N.length (W i);have af:=Ft (W i) aj;obtain⟨-,v2,-⟩:=bP hW.out (by omega:0<N.length) aj;rw[v2]at af;have bc:Ad8 _:=v2;clear v2
   repeat' (first|refine Z1 ?_|(refine Z8 ?_;intro κ hκ)|(refine Z4 ?_;clear hκ κ)|(refine Z2 ?_ ?_<;>intro h aa<;>try exact Xp)|refine Z3 ?_|exact⟨⟩|(apply hκ.out;clear hκ κ))
   ·exact⟨N.length-(i+1),Ad2,i+1,W,rfl,Ad2,by simp,hM,mQ hW.out h⟩
   ·have ak:M i m=true:=h
    refine Ad (fun q s d'=>∃(k:Nat) (W:Nat->Nat->Bool),q=N.length-k/\k<=N.length/\s 3=sl idu N.length (En B N.length N.length)/\s 4=sc (.int .i64 m)/\s 5=sc (.int .i64 i)/\s 10=sc (.int .i64 N.length)/\s 11=sc (.int .i64 m)/\s 15=sc (.int .i64 N.length)/\s 16=sc (.int .i64 i)/\s 28=sc (.int .i64 N.length)/\s 29=sc (.int .i64 k)/\Keep d d'/\B+N.length<=d'.nobj/\Ad8 (Mat B N.length W d')/\Ad8 (part N.length M m i k W)) N.length
     ⟨0,W,Ad2,Ad2,by simp[upd,h3],by simp[upd,h4],Ad4,by simp[upd,ae],by simp[upd,ad],by simp[upd,an],by simp[upd,am],rfl,rfl,hK,ac,hM,hW⟩ ?_
    clear hK ac hM hW h3 h4 ae ad an am af a3 a6 bc h W;rintro q s d' ⟨k,W,rfl,hk,h3,h4,h5,ae,ad,an,am,bl,bi,hK,ac,hM,hW⟩;by_cases ai:k<N.length
    ·obtain⟨-,-,v3⟩:=bP hW.out ai aj;have bf:=G8 (B:=B) (n:=N.length) (k:=N.length) aj;have a5:=hM.out _ ab;have a4:=hM.out _ aj;have a0:=D1 N.length (W i);have az:=D1 N.length (W m);have af:=Ft (W m) ai;rw[v3]at af;clear v3;have ao:=Mat.set (q:=k) hM.out ab true;have be:Ad8 _:=ao;clear ao;generalize ap:M m k=vk at af;have ax:Ad8 _:=ap;clear ap;cases vk with
     |true=>
      repeat' (first|refine Z1 ?_|(refine Z8 ?_;intro κ hκ)|(refine Z4 ?_;clear hκ κ)|(refine Z2 ?_ ?_<;>intro h aa<;>try exact Xp)|refine Z3 ?_|exact⟨⟩|(apply hκ.out;clear hκ κ))
      exact⟨N.length-(k+1),Ad2,k+1,_,rfl,Ad2,by simp,hK.put Ad2 _,be.out,qV hW.out (by simp[fw,ak,ax.out])⟩
     |false=>
      repeat' (first|refine Z1 ?_|(refine Z8 ?_;intro κ hκ)|(refine Z4 ?_;clear hκ κ)|(refine Z2 ?_ ?_<;>intro h aa<;>try exact Xp)|refine Z3 ?_|exact⟨⟩|(apply hκ.out;clear hκ κ))
      exact⟨N.length-(k+1),Ad2,k+1,W,rfl,Ad2,by simp,hM,mR hW.out (by simp[fw,ax.out])⟩
    ·have a8:k=N.length:=Ad2;subst a8
     repeat' (first|refine Z1 ?_|(refine Z8 ?_;intro κ hκ)|(refine Z4 ?_;clear hκ κ)|(refine Z2 ?_ ?_<;>intro h aa<;>try exact Xp)|refine Z3 ?_|exact⟨⟩|(apply hκ.out;clear hκ κ))
     exact⟨N.length-(i+1),Ad2,i+1,W,rfl,Ad2,by simp,hM,qW hW.out⟩
  ·have a9:i=N.length:=Ad2;subst a9
   repeat' (first|refine Z1 ?_|(refine Z8 ?_;intro κ hκ)|(refine Z4 ?_;clear hκ κ)|(refine Z2 ?_ ?_<;>intro h aa<;>try exact Xp)|refine Z3 ?_|exact⟨⟩|(apply hκ.out;clear hκ κ))
   refine⟨N.length-(m+1),Ad2,m+1,rfl,Ad2,by simp,?_⟩;rw[Ad8,show Fb N.length M0 (m+1)=W by rw[qX hW.out,<-bd.out];rfl];exact hM.out
 ·have a7:m=N.length:=Ad2;subst a7
  repeat' (first|refine Z1 ?_|(refine Z8 ?_;intro κ hκ)|(refine Z4 ?_;clear hκ κ)|(refine Z2 ?_ ?_<;>intro h aa<;>try exact Xp)|refine Z3 ?_|exact⟨⟩|(apply hκ.out;clear hκ κ))
  first
  |exact⟨_,rfl,idu,B,M0,rfl,hK,Ad2,ac,hM.out,ay.out⟩
  |exact⟨_,rfl,idu,B,M0,rfl,Ad2,ac,hM.out,ay.out⟩
def qT (N:List Tx)(U:Nat->Nat->Bool)(h:Tx)(a:RAtom):Bool:=a.nt&&(((N.idxOf a.pred:Nat):Int)==((N.idxOf h:Nat):Int)||U (N.idxOf a.pred) (N.idxOf h))
def V7 (N:List Tx)(l:List RItem)(U:Nat->Nat->Bool)(i:Nat):Bool:=match l[i]? with|some x=>x.body.any (qT N U x.head.pred)|none=>false
theorem Uv (N:List Tx)(l:List RItem)(cs:List AV)(idn idi:Nat)(hB:Bk N l cs)(d:St):ACalls Tryz.prog 123 [B7 N idn l idi cs] d fun r d'=>∃M,Dl N l M/\r=sc (.int .i64 (Bm (V7 N l (Fb N.length M N.length)) l.length))/\Keep d d':=by
 have bf:=EL.length Dw hB.el;have a9:=hB.len;have hN:=hB.nm;refine Z9 52 [.tmp 2] Tryz.func123 ?_
 repeat' (first|refine Z1 ?_|(refine Z8 ?_;intro κ hκ)|(refine Z4 ?_;clear hκ κ)|(refine Z2 ?_ ?_<;>intro h ab<;>try exact Xp)|(refine Z5 ?_;refine Xi (Mb N l cs idn idi hB _) ?_;rintro _ _ ⟨idu,B,M0,rfl,ar,bc,ah,ap,a5⟩;(rw[Aa]at bc;have aj:=ar.obj;have ae:=ar.nobj;(try simp only[Aa,Ab,Ah]at ae)))|refine Z3 ?_|exact⟨⟩|(apply hκ.out;clear hκ κ))
 rename_i d1;have ax:Ad8 (Dl N l M0):=a5;clear a5 aj;have be:=G7 B N.length N.length;have a4:Keep d d1:=Xs;clear ar;generalize hU:Fb N.length M0 N.length=U at ap;have HU:Ad8 _:=hU;clear hU
 refine Ad (fun m s d'=>∃i:Nat,m=l.length-i/\i<=l.length/\s 3=sl idu N.length (En B N.length N.length)/\s 13=sl idi l.length cs/\s 14=sc (.int .i64 l.length)/\s 15=sc (.int .i64 i)/\Keep d d'/\B+N.length<=d'.nobj/\Ad8 (Mat B N.length U d')/\Ad8 (∀j,j<i->V7 N l U j=false)) l.length
  ⟨0,Ad2,Ad2,Ad4,Ad4,Ad4,rfl,a4,ah,ap,fun j hj=>Ad2⟩ ?_
 clear a4 ap ah ae;rintro m s d' ⟨i,rfl,hi,h3,aw,av,au,hK,ad,hM,ai⟩;have ay:=hK.nobj;by_cases ao:i<l.length
 ·have aa:=List.getElem?_eq_getElem ao;have a0:=hB.fits l[i] (Acz ao);obtain⟨hm,ih,id,b,r,hb,hd⟩:=Gp hB.el aa;generalize l[i]=x at hd aa a0 hb hm;have hv:Ad8 (V7 N l U i=x.body.any (qT N U x.head.pred)):=by rw[Ad8,V7,aa]
  clear aa;have bg:=EL.length Dm hb;have bd:=a0.1;have az:=Ac1 hm
  repeat' (first|refine Z1 ?_|(refine Z8 ?_;intro κ hκ)|(refine Z4 ?_;clear hκ κ)|(refine Z2 ?_ ?_<;>intro h ab<;>try exact Xp)|refine Z3 ?_|exact⟨⟩|(apply hκ.out;clear hκ κ))
  refine Ad (fun m s d''=>∃j:Nat,m=x.body.length-j/\j<=x.body.length/\s 3=sl idu N.length (En B N.length N.length)/\s 4=sc (.int .i64 i)/\s 6=sc (.int .i64 (N.idxOf x.head.pred:Nat))/\s 13=sl idi l.length cs/\s 14=sc (.int .i64 l.length)/\s 15=sc (.int .i64 i)/\s 24=sl id x.body.length b/\s 25=sc (.int .i64 x.body.length)/\s 26=sc (.int .i64 j)/\Keep d d''/\B+N.length<=d''.nobj/\Ad8 (Mat B N.length U d'')/\Ad8 ((x.body.take j).any (qT N U x.head.pred)=false)) x.body.length
   ⟨0,Ad2,Ad2,by simp[upd,h3],Ad4,Ad4,by simp[upd,aw],by simp[upd,av],by simp[upd,au],Ad4,rfl,rfl,(hK.new _).put hK.nobj _,Ad7,Mat.put (Mat.new hM.out ad _) ad _,by simp[Ad8]⟩ ?_
  clear hK hM ad h3 aw av au ay;rintro m s d'' ⟨j,rfl,hj,h3,h4,h6,aw,av,au,bl,bi,bh,hK,ad,hM,ac⟩;have ay:=hK.nobj;by_cases an:j<x.body.length
  ·have aa:=List.getElem?_eq_getElem an;obtain⟨ha,ia,r2,a3⟩:=L4 hb aa;generalize x.body[j]=a at a3 aa ha;have HA:Ad8 (x.body[j]?=some a):=aa;clear aa;have am:=Ac1 ha;have a7:=G8 (B:=B) (n:=N.length) (k:=N.length) am;have a8:=hM.out _ am;have a6:=D1 N.length (U (N.idxOf a.pred));have ak:=Ft (U (N.idxOf a.pred)) az;have af:Ad8 (qT N U x.head.pred a=(a.nt&&(((N.idxOf a.pred:Nat):Int)==((N.idxOf x.head.pred:Nat):Int)||U (N.idxOf a.pred) (N.idxOf x.head.pred)))):=rfl;generalize hu:U (N.idxOf a.pred) (N.idxOf x.head.pred)=uu at ak af;clear hu;generalize N.idxOf a.pred=pa at a3 am a7 a8 a6 ak af;generalize N.idxOf x.head.pred=ph at h6 ak af az
   repeat' (first|refine Z1 ?_|(refine Z8 ?_;intro κ hκ)|(refine Z4 ?_;clear hκ κ)|(refine Z2 ?_ ?_<;>intro h ab<;>try exact Xp)|refine Z3 ?_|exact⟨⟩|(apply hκ.out;clear hκ κ))
   all_goals
    first
    |(refine⟨_,rfl,M0,ax.out,?_,(hK.new _).put hK.nobj _⟩
      rw[HU.out,Jj ao (by rw[hv.out];exact Qw _ HA.out (by rw[af.out];simp[*])) ai.out])
    |(refine⟨x.body.length-(j+1),Ad2,j+1,rfl,Ad2,by simp,(hK.new _).put hK.nobj _,Ad2,Mat.put (Mat.new hM.out ad _) ad _,?_⟩
      rw[Ad8,any_take_succ _ HA.out,ac.out,af.out];simp[*])
  ·have ba:j=x.body.length:=Ad2;subst ba;rw[Abn]at ac
   repeat' (first|refine Z1 ?_|(refine Z8 ?_;intro κ hκ)|(refine Z4 ?_;clear hκ κ)|(refine Z2 ?_ ?_<;>intro h ab<;>try exact Xp)|refine Z3 ?_|exact⟨⟩|(apply hκ.out;clear hκ κ))
   exact⟨l.length-(i+1),Ad2,i+1,rfl,Ad2,by simp,Lb ai.out (by rw[hv.out];exact ac.out)⟩
 ·have bb:i=l.length:=Ad2;subst bb
  repeat' (first|refine Z1 ?_|(refine Z8 ?_;intro κ hκ)|(refine Z4 ?_;clear hκ κ)|(refine Z2 ?_ ?_<;>intro h ab<;>try exact Xp)|refine Z3 ?_|exact⟨⟩|(apply hκ.out;clear hκ κ))
  first
  |exact⟨_,rfl,M0,ax.out,by rw[HU.out,Cn ai.out],hK⟩
  |exact⟨_,rfl,M0,ax.out,by rw[HU.out,Cn ai.out]⟩
end Go.Proofs.YtmoeoppbmhfbpabGreatDoorH
