import Derived.Test.YtmoeoppbmhfbpaaGreatDoorHProgL
set_option maxHeartbeats 16000000
set_option maxRecDepth 100000
set_option linter.all false
namespace Go.Proofs.YtmoeoppbmhfbpaaGreatDoorH
open Go.Abs
def Cn (n:Nat)(f:Nat->Bool):List AV:=(List.range n).map fun i=>sc (.bool (f i))
theorem C3 (n:Nat)(f:Nat->Bool):(Cn n f).length=n:=by simp[Cn]
theorem Gu {n i:Nat}(f:Nat->Bool)(h:i<n):(Cn n f)[i]?=some (sc (.bool (f i))):=by simp[Cn,h]
theorem T5 {n i:Nat}(f:Nat->Bool)(v:Bool):(Cn n f).set i (sc (.bool v))=Cn n (fun j=>if j=i then v else f j):=by
 apply Abd;intro j;rw[Aa4];by_cases hj:j<n
 ·rw[Gu (fun j=>if j=i then v else f j) hj];by_cases e:i=j
  ·subst e;rw[if_pos rfl,C3,if_pos hj];simp
  ·rw[if_neg e,Gu _ hj,if_neg (fun e'=>e e'.symm)]
 ·have h1:(Cn n fun j=>if j=i then v else f j)[j]?=none:=by simp[Cn];omega
  have h2:(Cn n f)[j]?=none:=by simp[Cn];omega
  rw[h1,h2];split
  ·rw[C3];rw[if_neg Ad2]
  ·rfl
theorem Ls (n:Nat):List.replicate n (sc (.bool false))=Cn n fun _=>false:=by
 apply Abd;intro j;by_cases hj:j<n
 ·rw[Gu _ hj];simp[hj]
 ·simp[Cn,hj]
def F2 (B n k:Nat):List AV:=(List.range k).map fun i=>fx (B+i) 0 n
theorem Lf (B n k:Nat):(F2 B n k).length=k:=by simp[F2]
theorem gI (B n k:Nat):F2 B n (k+1)=F2 B n k++[fx (B+k) 0 n]:=by simp[F2,List.range_succ]
theorem Lg {B n k i:Nat}(h:i<k):(F2 B n k).drop i=fx (B+i) 0 n::(F2 B n k).drop (i+1):=by
 rw[Abx (by rw[Lf];exact h)];simp[F2]
def Mat (B n:Nat)(M:Nat->Nat->Bool)(z:St):Prop:=∀i,i<n->z.obj (B+i)=Cn n (M i)
theorem Mat.keep {B n:Nat}{M:Nat->Nat->Bool}{z z':St}(h:Mat B n M z)(k:Keep z z')(hn:B+n<=z.nobj):Mat B n M z':=fun i hi=>by rw[k.obj _ Ad2];exact h i hi
theorem Mat.new {B n:Nat}{M:Nat->Nat->Bool}{z:St}(h:Mat B n M z)(hn:B+n<=z.nobj)(cs:List AV):Mat B n M (z.new cs):=fun i hi=>by rw[Ai Ad2];exact h i hi
theorem Mat.put {B n o:Nat}{M:Nat->Nat->Bool}{z:St}(h:Mat B n M z)(ho:B+n<=o)(cs:List AV):Mat B n M (z.put o cs):=fun i hi=>by rw[Al Ad2];exact h i hi
theorem Mat.set {B n p q:Nat}{M:Nat->Nat->Bool}{z:St}(h:Mat B n M z)(hp:p<n)(v:Bool):Mat B n (set2 M p q v) (z.put (B+p) ((Cn n (M p)).set q (sc (.bool v)))):=fun i hi=>by
 by_cases e:i=p
 ·subst e;rw[Ak,T5];congr 1;funext j;simp[set2]
 ·have hx:(z.put (B+p) ((Cn n (M p)).set q (sc (.bool v)))).obj (B+i)=z.obj (B+i):=by
   by_cases hl:i<p
   ·exact Al Ad2
   ·exact Li Ad2
  rw[hx,h i hi];congr 1;funext j;simp[set2,e]
def dI (N:List Tx)(l:List RItem)(p q:Nat):Prop:=∃x∈l,N.idxOf x.head.pred=p/\∃a∈x.body,N.idxOf a.pred=q
def zH (N:List Tx)(x:RItem)(b:List RAtom)(p q:Nat):Prop:=N.idxOf x.head.pred=p/\∃a∈b,N.idxOf a.pred=q
def Iq (N:List Tx)(l:List RItem)(M:Nat->Nat->Bool):Prop:=∀p q,M p q=true↔dI N l p q
def isOnceQ (N:List Tx)(l:List RItem)(x:RItem)(b:List RAtom)(M:Nat->Nat->Bool):Prop:=∀p q,M p q=true↔dI N l p q\/zH N x b p q
theorem isOnceQ.step {N:List Tx}{l:List RItem}{x:RItem}{j:Nat}{a:RAtom}{M:Nat->Nat->Bool}(h:isOnceQ N l x (x.body.take j) M)(ha:x.body[j]?=some a):isOnceQ N l x (x.body.take (j+1)) (set2 M (N.idxOf x.head.pred) (N.idxOf a.pred) true):=by
 intro p q;rw[Aa8,ha];unfold set2;by_cases e:p=N.idxOf x.head.pred/\q=N.idxOf a.pred
 ·rw[if_pos e];simp only[true_iff];exact .inr ⟨e.1.symm,a,by simp,e.2.symm⟩
 ·rw[if_neg e,h p q];constructor
  ·rintro (h|⟨h1,b,hb,h2⟩)
   ·exact .inl h
   ·exact .inr ⟨h1,b,by simp[hb],h2⟩
  ·rintro (h|⟨h1,b,hb,h2⟩)
   ·exact .inl h
   ·simp only[Ab9,Ab2,Acx]at hb;rcases hb with hb|rfl
    ·exact .inr ⟨h1,b,hb,h2⟩
    ·exact absurd ⟨h1.symm,h2.symm⟩ e
theorem isOnceQ.zero {N:List Tx}{l:List RItem}{x:RItem}{M:Nat->Nat->Bool}(h:Iq N l M):isOnceQ N l x (x.body.take 0) M:=by
 intro p q;rw[h p q];constructor
 ·exact .inl
 ·rintro (h|⟨-,b,hb,-⟩)
  ·exact h
  ·simp at hb
theorem isOnceQ.done {N:List Tx}{l:List RItem}{x:RItem}{i:Nat}{M:Nat->Nat->Bool}(h:isOnceQ N (l.take i) x x.body M)(hx:l[i]?=some x):Iq N (l.take (i+1)) M:=by
 intro p q;rw[h p q,Aa8,hx];constructor
 ·rintro (⟨y,hy,g⟩|g)
  ·exact⟨y,by simp[hy],g⟩
  ·exact⟨x,by simp,g⟩
 ·rintro⟨y,hy,g⟩;simp only[Ab9,Ab2,Acx]at hy;rcases hy with hy|rfl
  ·exact .inl ⟨y,hy,g⟩
  ·exact .inr g
theorem Qk (N:List Tx)(l:List RItem)(cs:List AV)(idn idi:Nat)(hB:Bk N l cs)(z:St):ACalls Tryz.prog 206 [Fa N idn l idi cs] z fun r z'=>∃idu B M,r=sl idu N.length (F2 B N.length N.length)/\Keep z z'/\z.nobj<=B/\B+N.length<=z'.nobj/\Mat B N.length M z'/\Iq N l M:=by
 have bq:=EL.length Iy hB.el;have bi:=hB.len;have hN:=hB.nm;refine Z9 51 [.tmp 2] Tryz.func206 ?_
 repeat' (first|refine Z1 ?_|(refine Z8 ?_;intro ya J)|(refine Z4 ?_;clear J ya)|(refine Z2 ?_ ?_<;>intro h ae<;>try exact Xp)|(refine Z6 ?_;intro idn zn ah ai ac aa af ab)|refine Z3 ?_|exact Zt|(apply J.out;clear J ya))
 refine Ab (fun m s z'=>∃(k idu:Nat),m=N.length-k/\k<=N.length/\s 1=ptr z.nobj 0/\s 3=sl idu k (F2 (z.nobj+1) N.length k)/\s 12=sc (.int .i64 N.length)/\s 13=sc (.int .i64 k)/\Keep z z'/\Own z z' idu k/\z'.nobj=z.nobj+1+k/\z'.obj z.nobj=[sl idn N.length (N.map str),sl idi l.length cs]/\Ad8 (∀i,i<k->z'.obj (z.nobj+1+i)=Cn N.length fun _=>false)) N.length
  ⟨0,1,Ad2,Ad2,rfl,rfl,rfl,rfl,Xs,Own.nil _ _,rfl,Am,fun i hi=>Ad2⟩ ?_
 rintro m s z' ⟨k,idu,rfl,hk,h1,h3,bo,bn,hK,hO,aj,a5,hM⟩;have bc:=Lf (z.nobj+1) N.length k;by_cases an:k<N.length
 ·repeat' (first|refine Z1 ?_|(refine Z8 ?_;intro ya J)|(refine Z4 ?_;clear J ya)|(refine Z2 ?_ ?_<;>intro h ae<;>try exact Xp)|(refine Z6 ?_;intro idn zn ah ai ac aa af ab)|refine Z3 ?_|exact Zt|(apply J.out;clear J ya))
  have bm:Keep z (z'.new (List.replicate N.length (sc (.bool false)))):=hK.new _;refine C4 (by first|exact Ni) bm (Own.new hO _) (by decide) (by rfl) (by rw[bc,Nat.mul_one]) (by rfl) (by rfl) (by decide) Ad2 Ad2 ?_;intro idn2 zn ah ai ac aa af ab;have bf:zn.obj z.nobj=[sl idn N.length (N.map str),sl idi l.length cs]:=by rw[ac,Ai Ad2];exact a5
  rw[Aa,aj]at aa;refine Z3 ?_
  repeat' (first|refine Z1 ?_|(refine Z8 ?_;intro ya J)|(refine Z4 ?_;clear J ya)|(refine Z2 ?_ ?_<;>intro h ae<;>try exact Xp)|(refine Z6 ?_;intro idn zn ah ai ac aa af ab)|refine Z3 ?_|exact Zt|(apply J.out;clear J ya))
  refine⟨N.length-(k+1),Ad2,k+1,idn2,rfl,Ad2,by rw[gI],by simp,ah,Ad2,?_⟩;intro i hi
  try rw[ac]
  by_cases e:i=k
  ·subst e;rw[<-aj,Am,Ls]
  ·rw[Ai Ad2];exact hM.out i Ad2
 ·have bj:k=N.length:=Ad2;subst bj
  repeat' (first|refine Z1 ?_|(refine Z8 ?_;intro ya J)|(refine Z4 ?_;clear J ya)|(refine Z2 ?_ ?_<;>intro h ae<;>try exact Xp)|(refine Z6 ?_;intro idn zn ah ai ac aa af ab)|refine Z3 ?_|exact Zt|(apply J.out;clear J ya))
  have ba:Mat (z.nobj+1) N.length (fun _ _=>false) z':=hM.out;have ak:z.nobj+1+N.length<=z'.nobj:=Ad2;clear hM aj hO a5 bn bo h1
  refine Ab (fun m s z'=>∃(i:Nat) (M:Nat->Nat->Bool),m=l.length-i/\i<=l.length/\s 3=sl idu N.length (F2 (z.nobj+1) N.length N.length)/\s 25=sl idi l.length cs/\s 26=sc (.int .i64 l.length)/\s 27=sc (.int .i64 i)/\Keep z z'/\z.nobj+1+N.length<=z'.nobj/\Ad8 (Mat (z.nobj+1) N.length M z')/\Ad8 (Iq N (l.take i) M)) l.length
   ⟨0,fun _ _=>false,Ad2,Ad2,by simp[upd,h3],Ad4,Ad4,rfl,hK,ak,ba,fun p q=>by simp[dI]⟩ ?_
  clear ba ak h3 hK h ae an hk;rintro m s z' ⟨i,M,rfl,hi,h3,ay,ax,aw,hK,ak,hM,hI⟩;have a3:=hK.nobj;by_cases an:i<l.length
  ·have ad:=Aav an;have a8:=hB.fits l[i] (Ab1 an);obtain⟨hm,ih,id,b,r,hb,hd⟩:=Lb hB.el ad;generalize l[i]=x at hd ad a8 hb hm;have HX:Ad8 (l[i]?=some x):=ad;clear ad;have br:=EL.length K8 hb;have bp:=a8.1;have am:=Acw hm
   repeat' (first|refine Z1 ?_|(refine Z8 ?_;intro ya J)|(refine Z4 ?_;clear J ya)|(refine Z2 ?_ ?_<;>intro h ae<;>try exact Xp)|(refine Z6 ?_;intro idn zn ah ai ac aa af ab)|refine Z3 ?_|exact Zt|(apply J.out;clear J ya))
   have av:Keep z ((z'.new [sc (.bool false),sc (.int .i64 0),nilS,nilS]).put z'.nobj [sc (.bool x.out),sc (.int .i64 (N.idxOf x.head.pred:Nat)),sl ih x.head.terms.length (A8 x.head.terms),sl id x.body.length b]):=(hK.new _).put hK.nobj _;have au:=(hM.out.new ak [sc (.bool false),sc (.int .i64 0),nilS,nilS]).put ak [sc (.bool x.out),sc (.int .i64 (N.idxOf x.head.pred:Nat)),sl ih x.head.terms.length (A8 x.head.terms),sl id x.body.length b];generalize a6:z'.nobj=o6 at av au ak
   refine Ab (fun m s z''=>∃(j:Nat) (M:Nat->Nat->Bool),m=x.body.length-j/\j<=x.body.length/\s 3=sl idu N.length (F2 (z.nobj+1) N.length N.length)/\s 6=ptr o6 0/\s 25=sl idi l.length cs/\s 26=sc (.int .i64 l.length)/\s 27=sc (.int .i64 i)/\s 32=sl id x.body.length b/\s 33=sc (.int .i64 x.body.length)/\s 34=sc (.int .i64 j)/\Keep z z''/\o6<z''.nobj/\z''.obj o6=[sc (.bool x.out),sc (.int .i64 (N.idxOf x.head.pred:Nat)),sl ih x.head.terms.length (A8 x.head.terms),sl id x.body.length b]/\Ad8 (Mat (z.nobj+1) N.length M z'')/\Ad8 (isOnceQ N (l.take i) x (x.body.take j) M)) x.body.length
    ⟨0,M,Ad2,Ad2,by simp[upd,h3],by simp[upd,a6],by simp[upd,ay],by simp[upd,ax],by simp[upd,aw],Ad4,rfl,rfl,?_,?_,?_,?_,isOnceQ.zero hI.out⟩ ?_
   ·exact av
   ·rw[Ac,Aa];omega
   ·rw[Ak]
   ·exact au
   clear au av hK hM hI h3 ay ax aw a3 M a6;rintro m s z'' ⟨j,M,rfl,hj,h3,h6,ay,ax,aw,bw,bv,bu,hK,bg,ao,hM,hI⟩;have a3:=hK.nobj;by_cases ap:j<x.body.length
   ·have ad:=Aav ap;obtain⟨ha,ia,r2,a9⟩:=fJ hb ad;generalize x.body[j]=a at a9 ad ha;have HA:Ad8 (x.body[j]?=some a):=ad;clear ad;have be:=Acw ha;have bd:=Lg (B:=z.nobj+1) (n:=N.length) (k:=N.length) am;have bh:=hM.out _ am;have bb:=C3 N.length (M (N.idxOf x.head.pred));have a4:=isOnceQ.step hI.out HA.out;have az:Ad8 _:=a4;have a7:=fun (τ:St) (hτ:Mat (z.nobj+1) N.length M τ)=>Mat.set (q:=N.idxOf a.pred) hτ am true;have a0:Ad8 _:=a7;clear a4 a7;generalize N.idxOf x.head.pred=ph at ao am bd bh bb az a0;generalize N.idxOf a.pred=qa at a9 be az a0
    repeat' (first|refine Z1 ?_|(refine Z8 ?_;intro ya J)|(refine Z4 ?_;clear J ya)|(refine Z2 ?_ ?_<;>intro h ae<;>try exact Xp)|(refine Z6 ?_;intro idn zn ah ai ac aa af ab)|refine Z3 ?_|exact Zt|(apply J.out;clear J ya))
    refine Aq Ad (fun _=>True) [10] [0,1,2,3,4,5,6,7,8,9] [10] Ad5 (fun _ _ _ h=>h) ?_;intro ya J;refine Z3 ?_
    repeat' (first|refine Z1 ?_|(refine Z8 ?_;intro ya J)|(refine Z4 ?_;clear J ya)|(refine Z2 ?_ ?_<;>intro h ae<;>try exact Xp)|(refine Z6 ?_;intro idn zn ah ai ac aa af ab)|refine Z3 ?_|exact Zt|(apply J.out;clear J ya))
    exact⟨x.body.length-(j+1),Ad2,j+1,_,rfl,Ad2,by simp,((hK.new _).put hK.nobj _).put Ad2 _,Ad2,a0.out _ (Mat.put (Mat.new hM.out Ad2 _) Ad2 _),az.out⟩
   ·have bk:j=x.body.length:=Ad2;subst bk;rw[Aa3]at hI
    repeat' (first|refine Z1 ?_|(refine Z8 ?_;intro ya J)|(refine Z4 ?_;clear J ya)|(refine Z2 ?_ ?_<;>intro h ae<;>try exact Xp)|(refine Z6 ?_;intro idn zn ah ai ac aa af ab)|refine Z3 ?_|exact Zt|(apply J.out;clear J ya))
    exact⟨l.length-(i+1),Ad2,i+1,M,rfl,Ad2,by simp,Ad2,hM,isOnceQ.done hI.out HX.out⟩
  ·have bl:i=l.length:=Ad2;subst bl;rw[Aa3]at hI
   repeat' (first|refine Z1 ?_|(refine Z8 ?_;intro ya J)|(refine Z4 ?_;clear J ya)|(refine Z2 ?_ ?_<;>intro h ae<;>try exact Xp)|(refine Z6 ?_;intro idn zn ah ai ac aa af ab)|refine Z3 ?_|exact Zt|(apply J.out;clear J ya))
   exact⟨_,rfl,idu,z.nobj+1,M,rfl,Ad2,ak,hM.out,hI.out⟩
theorem nQ {n:Nat}{M W:Nat->Nat->Bool}{m i k:Nat}(h:part n M m i k W)(hv:fw M m i k=M i k):part n M m i (k+1) W:=by
 intro a b;rw[h];by_cases hc:(a<i/\b<n)\/(a=i/\b<k)
 ·rw[if_pos hc,if_pos Ad2]
 ·rw[if_neg hc];by_cases hd:(a<i/\b<n)\/(a=i/\b<k+1)
  ·rw[if_pos hd];have e1:a=i:=Ad2;have e2:b=k:=Ad2;rw[e1,e2,hv]
  ·rw[if_neg hd]
theorem nP {n:Nat}{M W:Nat->Nat->Bool}{m i:Nat}(h:part n M m i 0 W)(hv:M i m=false):part n M m (i+1) 0 W:=by
 intro a b;rw[h];by_cases hc:(a<i/\b<n)\/(a=i/\b<0)
 ·rw[if_pos hc,if_pos Ad2]
 ·rw[if_neg hc];by_cases hd:(a<i+1/\b<n)\/(a=i+1/\b<0)
  ·rw[if_pos hd];have e1:a=i:=Ad2;rw[e1];simp[fw,hv]
  ·rw[if_neg hd]
theorem gS (N:List Tx)(l:List RItem)(cs:List AV)(idn idi:Nat)(hB:Bk N l cs)(z:St):ACalls Tryz.prog 165 [Fa N idn l idi cs] z fun r z'=>∃idu B M,r=sl idu N.length (F2 B N.length N.length)/\Keep z z'/\z.nobj<=B/\B+N.length<=z'.nobj/\Mat B N.length (P9 N.length M N.length) z'/\Iq N l M:=by
 have hN:=hB.nm;refine Z9 49 [.tmp 2] Tryz.func165 ?_
 repeat' (first|refine Z1 ?_|(refine Z8 ?_;intro ya J)|(refine Z4 ?_;clear J ya)|(refine Z2 ?_ ?_<;>intro h aa<;>try exact Xp)|(refine Z5 ?_;refine Xi (Qk N l cs idn idi hB _) ?_;rintro _ _ ⟨idu,B,M0,rfl,bb,bc,ah,av,ax⟩;(rw[Aa]at bc))|refine Z3 ?_|exact Zt|(apply J.out;clear J ya))
 rename_i z1;have az:Ad8 (Iq N l M0):=ax;clear ax;have bh:=Lf B N.length N.length;have aw:Keep z z1:=Xs;clear bb
 refine Ab (fun q s z'=>∃m:Nat,q=N.length-m/\m<=N.length/\s 3=sl idu N.length (F2 B N.length N.length)/\s 10=sc (.int .i64 N.length)/\s 11=sc (.int .i64 m)/\Keep z z'/\B+N.length<=z'.nobj/\Ad8 (Mat B N.length (P9 N.length M0 m) z')) N.length
  ⟨0,Ad2,Ad2,rfl,rfl,rfl,aw,ah,av⟩ ?_
 clear aw av ah;rintro q s z' ⟨m,rfl,hm,h3,ae,ad,hK,ac,hM⟩;by_cases aj:m<N.length
 ·generalize au:P9 N.length M0 m=M at hM;have be:Ad8 _:=au;clear au
  repeat' (first|refine Z1 ?_|(refine Z8 ?_;intro ya J)|(refine Z4 ?_;clear J ya)|(refine Z2 ?_ ?_<;>intro h aa<;>try exact Xp)|refine Z3 ?_|exact Zt|(apply J.out;clear J ya))
  refine Ab (fun q s z'=>∃(i:Nat) (W:Nat->Nat->Bool),q=N.length-i/\i<=N.length/\s 3=sl idu N.length (F2 B N.length N.length)/\s 4=sc (.int .i64 m)/\s 10=sc (.int .i64 N.length)/\s 11=sc (.int .i64 m)/\s 15=sc (.int .i64 N.length)/\s 16=sc (.int .i64 i)/\Keep z z'/\B+N.length<=z'.nobj/\Ad8 (Mat B N.length W z')/\Ad8 (part N.length M m i 0 W)) N.length
   ⟨0,M,Ad2,Ad2,by simp[upd,h3],Ad4,by simp[upd,ae],by simp[upd,ad],rfl,rfl,hK,ac,hM,Wn⟩ ?_
  clear hK ac hM h3 ae ad;rintro q s z' ⟨i,W,rfl,hi,h3,h4,ae,ad,an,am,hK,ac,hM,hW⟩;by_cases ab:i<N.length
  ·have bi:=Lg (B:=B) (n:=N.length) (k:=N.length) ab;have a7:=hM.out _ ab;have a4:=C3 N.length (W i);have af:=Gu (W i) aj;obtain⟨-,v2,-⟩:=Sr hW.out (by omega:0<N.length) aj;rw[v2]at af;have bd:Ad8 _:=v2;clear v2
   repeat' (first|refine Z1 ?_|(refine Z8 ?_;intro ya J)|(refine Z4 ?_;clear J ya)|(refine Z2 ?_ ?_<;>intro h aa<;>try exact Xp)|refine Z3 ?_|exact Zt|(apply J.out;clear J ya))
   ·exact⟨N.length-(i+1),Ad2,i+1,W,rfl,Ad2,by simp,hM,nP hW.out h⟩
   ·have ak:M i m=true:=h
    refine Ab (fun q s z'=>∃(k:Nat) (W:Nat->Nat->Bool),q=N.length-k/\k<=N.length/\s 3=sl idu N.length (F2 B N.length N.length)/\s 4=sc (.int .i64 m)/\s 5=sc (.int .i64 i)/\s 10=sc (.int .i64 N.length)/\s 11=sc (.int .i64 m)/\s 15=sc (.int .i64 N.length)/\s 16=sc (.int .i64 i)/\s 28=sc (.int .i64 N.length)/\s 29=sc (.int .i64 k)/\Keep z z'/\B+N.length<=z'.nobj/\Ad8 (Mat B N.length W z')/\Ad8 (part N.length M m i k W)) N.length
     ⟨0,W,Ad2,Ad2,by simp[upd,h3],by simp[upd,h4],Ad4,by simp[upd,ae],by simp[upd,ad],by simp[upd,an],by simp[upd,am],rfl,rfl,hK,ac,hM,hW⟩ ?_
    clear hK ac hM hW h3 h4 ae ad an am af a4 a7 bd h W;rintro q s z' ⟨k,W,rfl,hk,h3,h4,h5,ae,ad,an,am,bk,bj,hK,ac,hM,hW⟩;by_cases ai:k<N.length
    ·obtain⟨-,-,v3⟩:=Sr hW.out ai aj;have bg:=Lg (B:=B) (n:=N.length) (k:=N.length) aj;have a6:=hM.out _ ab;have a5:=hM.out _ aj;have a3:=C3 N.length (W i);have a0:=C3 N.length (W m);have af:=Gu (W m) ai;rw[v3]at af;clear v3;have ao:=Mat.set (q:=k) hM.out ab true;have bf:Ad8 _:=ao;clear ao;generalize ap:M m k=vk at af;have ay:Ad8 _:=ap;clear ap;cases vk with
     |true=>
      repeat' (first|refine Z1 ?_|(refine Z8 ?_;intro ya J)|(refine Z4 ?_;clear J ya)|(refine Z2 ?_ ?_<;>intro h aa<;>try exact Xp)|refine Z3 ?_|exact Zt|(apply J.out;clear J ya))
      exact⟨N.length-(k+1),Ad2,k+1,_,rfl,Ad2,by simp,hK.put Ad2 _,bf.out,cX hW.out (by simp[fw,ak,ay.out])⟩
     |false=>
      repeat' (first|refine Z1 ?_|(refine Z8 ?_;intro ya J)|(refine Z4 ?_;clear J ya)|(refine Z2 ?_ ?_<;>intro h aa<;>try exact Xp)|refine Z3 ?_|exact Zt|(apply J.out;clear J ya))
      exact⟨N.length-(k+1),Ad2,k+1,W,rfl,Ad2,by simp,hM,nQ hW.out (by simp[fw,ay.out])⟩
    ·have a9:k=N.length:=Ad2;subst a9
     repeat' (first|refine Z1 ?_|(refine Z8 ?_;intro ya J)|(refine Z4 ?_;clear J ya)|(refine Z2 ?_ ?_<;>intro h aa<;>try exact Xp)|refine Z3 ?_|exact Zt|(apply J.out;clear J ya))
     exact⟨N.length-(i+1),Ad2,i+1,W,rfl,Ad2,by simp,hM,cY hW.out⟩
  ·have ba:i=N.length:=Ad2;subst ba
   repeat' (first|refine Z1 ?_|(refine Z8 ?_;intro ya J)|(refine Z4 ?_;clear J ya)|(refine Z2 ?_ ?_<;>intro h aa<;>try exact Xp)|refine Z3 ?_|exact Zt|(apply J.out;clear J ya))
   refine⟨N.length-(m+1),Ad2,m+1,rfl,Ad2,by simp,?_⟩;rw[Ad8,show P9 N.length M0 (m+1)=W by rw[cZ hW.out,<-be.out];rfl];exact hM.out
 ·have a8:m=N.length:=Ad2;subst a8
  repeat' (first|refine Z1 ?_|(refine Z8 ?_;intro ya J)|(refine Z4 ?_;clear J ya)|(refine Z2 ?_ ?_<;>intro h aa<;>try exact Xp)|refine Z3 ?_|exact Zt|(apply J.out;clear J ya))
  first
  |exact⟨_,rfl,idu,B,M0,rfl,hK,Ad2,ac,hM.out,az.out⟩
  |exact⟨_,rfl,idu,B,M0,rfl,Ad2,ac,hM.out,az.out⟩
def rE (N:List Tx)(U:Nat->Nat->Bool)(h:Tx)(a:RAtom):Bool:=a.nt&&(((N.idxOf a.pred:Nat):Int)==((N.idxOf h:Nat):Int)||U (N.idxOf a.pred) (N.idxOf h))
def Wm (N:List Tx)(l:List RItem)(U:Nat->Nat->Bool)(i:Nat):Bool:=match l[i]? with|some x=>x.body.any (rE N U x.head.pred)|none=>false
theorem Uw (N:List Tx)(l:List RItem)(cs:List AV)(idn idi:Nat)(hB:Bk N l cs)(z:St):ACalls Tryz.prog 123 [Fa N idn l idi cs] z fun r z'=>∃M,Iq N l M/\r=sc (.int .i64 (A9 (Wm N l (P9 N.length M N.length)) l.length))/\Keep z z':=by
 have bg:=EL.length Iy hB.el;have ba:=hB.len;have hN:=hB.nm;refine Z9 52 [.tmp 2] Tryz.func123 ?_
 repeat' (first|refine Z1 ?_|(refine Z8 ?_;intro ya J)|(refine Z4 ?_;clear J ya)|(refine Z2 ?_ ?_<;>intro h ab<;>try exact Xp)|(refine Z5 ?_;refine Xi (gS N l cs idn idi hB _) ?_;rintro _ _ ⟨idu,B,M0,rfl,au,bd,ah,ap,a6⟩;(rw[Aa]at bd;have aj:=au.obj;have ae:=au.nobj;(try simp only[Aa,Ac,Av]at ae)))|refine Z3 ?_|exact Zt|(apply J.out;clear J ya))
 rename_i z1;have ay:Ad8 (Iq N l M0):=a6;clear a6 aj;have bf:=Lf B N.length N.length;have a5:Keep z z1:=Xs;clear au;generalize hU:P9 N.length M0 N.length=U at ap;have HU:Ad8 _:=hU;clear hU
 refine Ab (fun m s z'=>∃i:Nat,m=l.length-i/\i<=l.length/\s 3=sl idu N.length (F2 B N.length N.length)/\s 13=sl idi l.length cs/\s 14=sc (.int .i64 l.length)/\s 15=sc (.int .i64 i)/\Keep z z'/\B+N.length<=z'.nobj/\Ad8 (Mat B N.length U z')/\Ad8 (∀j,j<i->Wm N l U j=false)) l.length
  ⟨0,Ad2,Ad2,Ad4,Ad4,Ad4,rfl,a5,ah,ap,fun j hj=>Ad2⟩ ?_
 clear a5 ap ah ae;rintro m s z' ⟨i,rfl,hi,h3,ax,aw,av,hK,ad,hM,ai⟩;have az:=hK.nobj;by_cases ao:i<l.length
 ·have aa:=Aav ao;have a3:=hB.fits l[i] (Ab1 ao);obtain⟨hm,ih,id,b,r,hb,hd⟩:=Lb hB.el aa;generalize l[i]=x at hd aa a3 hb hm;have hv:Ad8 (Wm N l U i=x.body.any (rE N U x.head.pred)):=by rw[Ad8,Wm,aa]
  clear aa;have bh:=EL.length K8 hb;have be:=a3.1;have a0:=Acw hm
  repeat' (first|refine Z1 ?_|(refine Z8 ?_;intro ya J)|(refine Z4 ?_;clear J ya)|(refine Z2 ?_ ?_<;>intro h ab<;>try exact Xp)|refine Z3 ?_|exact Zt|(apply J.out;clear J ya))
  refine Ab (fun m s z''=>∃j:Nat,m=x.body.length-j/\j<=x.body.length/\s 3=sl idu N.length (F2 B N.length N.length)/\s 4=sc (.int .i64 i)/\s 6=sc (.int .i64 (N.idxOf x.head.pred:Nat))/\s 13=sl idi l.length cs/\s 14=sc (.int .i64 l.length)/\s 15=sc (.int .i64 i)/\s 24=sl id x.body.length b/\s 25=sc (.int .i64 x.body.length)/\s 26=sc (.int .i64 j)/\Keep z z''/\B+N.length<=z''.nobj/\Ad8 (Mat B N.length U z'')/\Ad8 ((x.body.take j).any (rE N U x.head.pred)=false)) x.body.length
   ⟨0,Ad2,Ad2,by simp[upd,h3],Ad4,Ad4,by simp[upd,ax],by simp[upd,aw],by simp[upd,av],Ad4,rfl,rfl,(hK.new _).put hK.nobj _,Ad7,Mat.put (Mat.new hM.out ad _) ad _,by simp[Ad8]⟩ ?_
  clear hK hM ad h3 ax aw av az;rintro m s z'' ⟨j,rfl,hj,h3,h4,h6,ax,aw,av,bk,bj,bi,hK,ad,hM,ac⟩;have az:=hK.nobj;by_cases an:j<x.body.length
  ·have aa:=Aav an;obtain⟨ha,ia,r2,a4⟩:=fJ hb aa;generalize x.body[j]=a at a4 aa ha;have HA:Ad8 (x.body[j]?=some a):=aa;clear aa;have am:=Acw ha;have a8:=Lg (B:=B) (n:=N.length) (k:=N.length) am;have a9:=hM.out _ am;have a7:=C3 N.length (U (N.idxOf a.pred));have ak:=Gu (U (N.idxOf a.pred)) a0;have af:Ad8 (rE N U x.head.pred a=(a.nt&&(((N.idxOf a.pred:Nat):Int)==((N.idxOf x.head.pred:Nat):Int)||U (N.idxOf a.pred) (N.idxOf x.head.pred)))):=rfl;generalize hu:U (N.idxOf a.pred) (N.idxOf x.head.pred)=uu at ak af;clear hu;generalize N.idxOf a.pred=pa at a4 am a8 a9 a7 ak af;generalize N.idxOf x.head.pred=ph at h6 ak af a0
   repeat' (first|refine Z1 ?_|(refine Z8 ?_;intro ya J)|(refine Z4 ?_;clear J ya)|(refine Z2 ?_ ?_<;>intro h ab<;>try exact Xp)|refine Z3 ?_|exact Zt|(apply J.out;clear J ya))
   all_goals
    first
    |(refine⟨_,rfl,M0,ay.out,?_,(hK.new _).put hK.nobj _⟩
      rw[HU.out,Fj ao (by rw[hv.out];exact Dq _ HA.out (by rw[af.out];simp[*])) ai.out])
    |(refine⟨x.body.length-(j+1),Ad2,j+1,rfl,Ad2,by simp,(hK.new _).put hK.nobj _,Ad2,Mat.put (Mat.new hM.out ad _) ad _,?_⟩
      rw[Ad8,any_take_succ _ HA.out,ac.out,af.out];simp[*])
  ·have bb:j=x.body.length:=Ad2;subst bb;rw[Aa3]at ac
   repeat' (first|refine Z1 ?_|(refine Z8 ?_;intro ya J)|(refine Z4 ?_;clear J ya)|(refine Z2 ?_ ?_<;>intro h ab<;>try exact Xp)|refine Z3 ?_|exact Zt|(apply J.out;clear J ya))
   exact⟨l.length-(i+1),Ad2,i+1,rfl,Ad2,by simp,Ju ai.out (by rw[hv.out];exact ac.out)⟩
 ·have bc:i=l.length:=Ad2;subst bc
  repeat' (first|refine Z1 ?_|(refine Z8 ?_;intro ya J)|(refine Z4 ?_;clear J ya)|(refine Z2 ?_ ?_<;>intro h ab<;>try exact Xp)|refine Z3 ?_|exact Zt|(apply J.out;clear J ya))
  first
  |exact⟨_,rfl,M0,ay.out,by rw[HU.out,Cf ai.out],hK⟩
  |exact⟨_,rfl,M0,ay.out,by rw[HU.out,Cf ai.out]⟩
def VT (w:Tx):Prop:=(∃b,w=[b]/\B6 b.toNat=true)\/(w≠[]/\∀b∈w,Az b.toNat=true)
def VA (a:RAtom):Prop:=∀w∈a.terms,VT w
theorem Ss {s r w:Tx}(h:Ce s= .got w r):VT w:=by
 cases s with
 |nil=>cases h
 |cons b q=>
  unfold Ce at h;dsimp only at h;split at h
  ·rename_i hl;cases h;exact .inl ⟨b,rfl,hl⟩
  split at h
  ·rename_i h0;cases h;refine .inr ⟨by simp,fun c hc=>?_⟩;simp at hc;subst hc;rw[digit_iff];exact .inr h0
  split at h
  ·rename_i h9;cases h;refine .inr ⟨by simp,fun c hc=>?_⟩;rcases Acd.1 hc with rfl|hc
   ·rw[digit_iff];exact .inl h9
   ·exact (D3 Az 2 q).2 c hc
  ·cases h
theorem Lk {α:Type}{f:Tx->Rd α}{P:α->Prop}(hf:∀s x r,f s= .got x r->P x):∀(n:Nat) (s:Tx) (xs:List α) (r:Tx),Dl f n s= .got xs r->∀x∈xs,P x
 |0,s,xs,r,h=>by unfold Dl at h;cases h;simp
 |n+1,[],xs,r,h=>by unfold Dl at h;cases h;simp
 |n+1,b::q,xs,r,h=>by
  unfold Dl at h;split at h
  ·obtain⟨x,q1,h1,h2⟩:=Ax h;obtain⟨ys,q2,h3,h4⟩:=Ax h2;cases h4;intro y hy;rcases Acd.1 hy with rfl|hy
   ·exact hf _ _ _ h1
   ·exact Lk hf n _ _ _ h3 y hy
  ·cases h;simp
theorem Jb {T:Tx->Prop}(hT:∀s w r,Ce s= .got w r->T w){nt:Bool}{s r:Tx}{a:RAtom}(h:C2 nt s= .got a r):∀w∈a.terms,T w:=by
 unfold C2 S4 at h;obtain⟨p,q1,-,h⟩:=Ax h;obtain⟨u,q2,-,h⟩:=Ax h;obtain⟨w,q3,h1,h⟩:=Ax h;obtain⟨ws,q4,h2,h⟩:=Ax h;obtain⟨u2,q5,-,h⟩:=Ax h;cases h;intro y hy;rcases Acd.1 hy with rfl|hy
 ·exact hT _ _ _ h1
 ·exact Lk hT _ _ _ _ h2 y hy
theorem dG {T:Tx->Prop}(hT:∀s w r,Ce s= .got w r->T w){s r:Tx}{a:RAtom}(h:I8 s= .got a r):∀w∈a.terms,T w:=by rw[lI]at h;exact Jb hT h
theorem nR {T:Tx->Prop}(hT:∀s w r,Ce s= .got w r->T w){s r:Tx}{x:RItem}(h:Ey s= .got x r):∀a∈Af x,∀w∈a.terms,T w:=by
 rw[dH]at h;split at h
 ·unfold Yt at h;obtain⟨p,q1,-,h⟩:=Ax h;obtain⟨u,q2,-,h⟩:=Ax h;cases h;simp[Af]
 ·unfold L5 at h;obtain⟨a,q1,h1,h⟩:=Ax h;rw[dD]at h;split at h
  ·cases h;intro y hy;simp[Af]at hy;subst hy;exact Jb hT h1
  ·obtain⟨u,q2,-,h⟩:=Ax h;obtain⟨ls,q3,h3,h⟩:=Ax h;obtain⟨u2,q4,-,h⟩:=Ax h;cases h;intro y hy;simp[Af]at hy;rcases hy with rfl|hy
   ·exact Jb hT h1
   ·unfold D4 Qn at h3;obtain⟨l,q5,h5,h3⟩:=Ax h3;obtain⟨ls2,q6,h6,h3⟩:=Ax h3;cases h3;rcases Acd.1 hy with rfl|hy
    ·exact dG hT h5
    ·exact Lk (fun _ _ _ h=>dG hT h) _ _ _ _ h6 y hy
theorem Jt {T:Tx->Prop}(hT:∀s w r,Ce s= .got w r->T w):∀(n:Nat) (s:Tx) (l:List RItem) (r:Tx),Bf n s= .got l r->∀x∈l,∀a∈Af x,∀w∈a.terms,T w
 |n,[],l,r,h=>by rw[Sz]at h;cases h;simp
 |0,b::q,l,r,h=>by rw[P5]at h;cases h
 |n+1,b::q,l,r,h=>by
  rw[Ku]at h;obtain⟨x,q1,h1,h⟩:=Ax h;obtain⟨xs,q2,h2,h⟩:=Ax h;cases h;intro y hy;rcases Acd.1 hy with rfl|hy
  ·exact nR hT h1
  ·exact Jt hT n _ _ _ h2 y hy
theorem Wq (n:Nat)(s:Tx)(l:List RItem)(r:Tx)(h:Bf n s= .got l r):∀x∈l,∀a∈Af x,VA a:=Jt (T:=VT) (fun _ _ _ h=>Ss h) n s l r h
theorem Q2 {w:Tx}(h:VT w):(Bu w).1=Ag w:=by
 rcases h with⟨b,rfl,hl⟩|⟨hn,hd⟩
 ·rw[Ga hl];simp[Ag,hl]
 ·cases w with
  |nil=>exact absurd rfl hn
  |cons b r=>
   have hb:=hd b (by simp);have hl:B6 b.toNat=false:=by
    cases hl:B6 b.toNat with
    |false=>rfl
    |true=>simp[Az]at hb;simp[B6]at hl;omega
   rw[Od hl];simp[Ag,hl]
theorem yJ {u t:Tx}(hu:VT u)(ht:VT t)(hv:Ag t=true):Uv (Bu t).2 u=(u==t):=by
 obtain⟨b,rfl,hl⟩:∃b,t=[b]/\B6 b.toNat=true:=by
  rcases ht with h|⟨hn,hd⟩
  ·exact h
  ·exfalso;cases t with
   |nil=>exact hn rfl
   |cons b r=>
    have hb:=hd b (by simp);simp[Ag]at hv;simp[Az]at hb;simp[B6]at hv;omega
 rw[Ga hl];unfold Uv;rcases hu with⟨c,rfl,hc⟩|⟨hn,hd⟩
 ·rw[Ga hc];simp only[Aco];by_cases e:c=b
  ·subst e;simp
  ·have:(c.toNat:Int)≠b.toNat:=fun h=>e (Acg.1 Ad2);have h1:((c.toNat:Int)-65==(b.toNat:Int)-65)=false:=by simp;omega
   have h2:(([c]:Tx)==[b])=false:=by simpa using e
   rw[h1,h2]
 ·have h1:(Bu u).1=false:=by
   rw[Q2 (.inr ⟨hn,hd⟩)];cases u with
   |nil=>rfl
   |cons c r=>
    have hb:=hd c (by simp);cases hv:Ag (c::r)with
    |false=>rfl
    |true=>simp[Ag,B6]at hv;simp[Az]at hb;omega
  have h2:(u==[b])=false:=by
   simp;rintro rfl;have:=hd b (by simp);simp[Az]at this;simp[B6]at hl;omega
  rw[h1,h2];rfl
theorem H3 {α:Type}{l:List α}{p q:α->Bool}(h:∀a∈l,p a=q a):l.any p=l.any q:=by
 induction l with
 |nil=>rfl
 |cons a l ih=>simp only[List.any_cons];rw[h a (by simp),ih (fun b hb=>h b (by simp[hb]))]
theorem sV {x:RItem}(hV:∀a∈Af x,VA a){t:Tx}(ht:VT t)(hv:Ag t=true):H0 x (Bu t).2=Hz x t:=by
 unfold H0 Hz;apply H3;intro a ha;have hA:VA a:=hV a (by unfold Af;simp[ha]);cases hn:a.nt with
 |true=>simp
 |false=>
  simp only[Abw,Aco];exact H3 fun u hu=>yJ (hA u hu) ht hv
theorem uL {x:RItem}(hV:∀a∈Af x,VA a):Mi x=E3 x:=by
 unfold Mi E3;congr 1;apply H3;intro a ha;unfold jH T8;apply H3;intro w hw;have hA:=hV a ha w hw;rw[Q2 hA];cases hv:Ag w with
 |false=>rfl
 |true=>rw[sV hV hA hv]
theorem Ob {p q:Nat->Bool}{n:Nat}(h:∀i,i<n->p i=q i):A9 p n=A9 q n:=by
 have e:(List.range n).find? p=(List.range n).find? q:=by
  have hm:∀i∈List.range n,p i=q i:=fun i hi=>h i (by simpa using hi);generalize List.range n=l at hm;induction l with
  |nil=>rfl
  |cons a l ih=>simp only[List.find?_cons];rw[hm a (by simp),ih (fun b hb=>hm b (by simp[hb]))]
 unfold A9;rw[e]
theorem mK {N:List Tx}{l:List RItem}(hN:∀x∈l,x.head.pred∈N/\∀a∈x.body,a.pred∈N){i j:Nat}(h:Way (dI N l) i j):∃p q,p∈N/\q∈N/\N.idxOf p=i/\N.idxOf q=j/\Way (M4 l) p q:=by
 induction h with
 |one e=>
  obtain⟨x,hx,h1,a,ha,h2⟩:=e;exact⟨x.head.pred,a.pred,(hN x hx).1,(hN x hx).2 a ha,h1,h2,.one ⟨x,hx,rfl,a,ha,rfl⟩⟩
 |more e _ ih=>
  obtain⟨x,hx,h1,a,ha,h2⟩:=e;obtain⟨p,q,hp,hq,e1,e2,w⟩:=ih;have:a.pred=p:=Eb ((hN x hx).2 a ha) hp Ad2;subst this;exact⟨x.head.pred,q,(hN x hx).1,hq,h1,e2,.more ⟨x,hx,rfl,a,ha,rfl⟩ w⟩
theorem fQ {N:List Tx}{l:List RItem}{p q:Tx}(h:Way (M4 l) p q):Way (dI N l) (N.idxOf p) (N.idxOf q):=by
 induction h with
 |one e=>
  obtain⟨x,hx,rfl,a,ha,rfl⟩:=e;exact .one ⟨x,hx,rfl,a,ha,rfl⟩
 |more e _ ih=>
  obtain⟨x,hx,rfl,a,ha,rfl⟩:=e;exact .more ⟨x,hx,rfl,a,ha,rfl⟩ ih
theorem Way.map' {α:Type}{E F:α->α->Prop}(h:∀a b,E a b->F a b){a b:α}(w:Way E a b):Way F a b:=by
 induction w with
 |one e=>exact .one (h _ _ e)
 |more e _ ih=>exact .more (h _ _ e) ih
theorem uA {N:List Tx}{l:List RItem}{M:Nat->Nat->Bool}(hN:∀x∈l,x.head.pred∈N/\∀a∈x.body,a.pred∈N)(ho:∀x∈l,x.out=true->x.body=[])(hM:Iq N l M){p q:Tx}(hp:p∈N)(hq:q∈N)(hy:∃y∈l,y.out=false/\y.head.pred=q):
  P9 N.length M N.length (N.idxOf p) (N.idxOf q)=Pz l p q:=by
 have hS:wP N.length M:=by
  intro a b ac;obtain⟨x,hx,rfl,c,hc,rfl⟩:=(hM a b).1 ac;exact⟨Acw (hN x hx).1,Acw ((hN x hx).2 c hc)⟩
 rw[Acv,lT hS,U4 ho hy];constructor
 ·intro w;obtain⟨p',q',ab,aa,e1,e2,w'⟩:=mK hN (w.map' fun a b h=>(hM a b).1 h);rw[<-Eb ab hp e1,<-Eb aa hq e2];exact w'
 ·intro w;exact (fQ w).map' fun a b h=>(hM a b).2 h
theorem Ya {N:List Tx}:∀{l:List RAtom} {cs:List AV},EL (PL N) l cs->∀a∈l,a.pred∈N
 |[],cs,h,a,ha=>by cases ha
 |b::l,cs,⟨c,d,hc,hd,e⟩,a,ha=>by
  rcases Acd.1 ha with rfl|ha
  ·exact hc.1
  ·exact Ya hd a ha
theorem Yb {N:List Tx}:∀{l:List RItem} {cs:List AV},EL (PI N) l cs->∀x∈l,x.head.pred∈N/\∀a∈x.body,a.pred∈N
 |[],cs,h,a,ha=>by cases ha
 |b::l,cs,⟨c,d,hc,hd,e⟩,a,ha=>by
  rcases Acd.1 ha with rfl|ha
  ·obtain⟨hm,ih,id,bb,hb,-⟩:=hc;exact⟨hm,Ya hb⟩
  ·exact Yb hd a ha
theorem vQ {N:List Tx}{l:List RItem}{cs:List AV}{M:Nat->Nat->Bool}(hB:Bk N l cs)(hM:Iq N l M):A9 (Wm N l (P9 N.length M N.length)) l.length=A9 (E5 l) l.length:=by
 have hN:=Yb hB.el;apply Ob;intro i hi;unfold Wm E5;rw[Aav hi];dsimp only;have hx:=Ab1 hi;generalize l[i]=x at hx;apply H3;intro a ha;unfold rE oU;have ho:x.out=false:=by
  cases h:x.out with
  |false=>rfl
  |true=>rw[hB.out x hx h]at ha;cases ha
 rw[uA hN hB.out hM ((hN x hx).2 a ha) (hN x hx).1 ⟨x,hx,ho,rfl⟩];congr 2;rw[Acv];simp only[Adx];constructor
 ·intro e;exact Eb ((hN x hx).2 a ha) (hN x hx).1 Ad2
 ·intro e;rw[e]
theorem mQ {l:List RItem}(hV:∀x∈l,∀a∈Af x,VA a):A9 (Lj l) l.length=A9 (C5 l) l.length:=by
 apply Ob;intro i hi;unfold Lj C5;rw[Aav hi];dsimp only;rw[uL (hV _ (Ab1 hi))]
theorem iR (N:List Tx)(l:List RItem)(cs:List AV)(idn idi:Nat)(hB:Bk N l cs)(hV:∀x∈l,∀a∈Af x,VA a)(z:St):ACalls Tryz.prog 71 [Fa N idn l idi cs] z fun r z'=>r=two (Ds l)/\Keep z z':=by
 have g1:=@Jg (Gs l) l.length;have g2:=@Jg (C5 l) l.length;have g3:=@Jg (E5 l) l.length;have hU:=mQ hV;have ab:=Pn N l cs idn idi hB;rw[hU]at ab;have aj:∀z,ACalls Tryz.prog 123 [Fa N idn l idi cs] z fun r z'=>r=sc (.int .i64 (A9 (E5 l) l.length))/\Keep z z':=fun z=>by
  refine ACalls.mono (Uw N l cs idn idi hB z) ?_;rintro _ _ ⟨M,hM,rfl,hK⟩;exact⟨by rw[vQ hB hM],hK⟩
 clear hU;refine Z9 20 [.tmp 2,.tmp 3] Tryz.func71 ?_
 repeat' (first|refine Z1 ?_|(refine Z8 ?_;intro ya J)|(refine Z4 ?_;clear J ya)|(refine Z2 ?_ ?_<;>intro h ai<;>try exact Xp)|(refine Z5 ?_;first|(refine Xi (Qr N l cs idn idi hB _) ?_;rintro _ _ ⟨rfl,ad⟩;(have af:=ad.obj;have aa:=ad.nobj;(try simp only[Aa,Ac,Av]at aa)))|(refine Xi (ab _) ?_;rintro _ _ ⟨rfl,ac⟩;(have ae:=ac.obj;have ah:=ac.nobj))|(refine Xi (aj _) ?_;rintro _ _ ⟨rfl,ak⟩))|refine Z3 ?_|exact Zt|(apply J.out;clear J ya))
 ·have e1:A9 (Gs l) l.length≠ -1:=by simpa using h
  exact⟨_,rfl,by unfold Ds;rw[if_pos Ad2],Xs⟩
 ·have e1:A9 (Gs l) l.length= -1:=by simpa using (show (A9 (Gs l) l.length != -1)=false by assumption)
  have e2:A9 (C5 l) l.length≠ -1:=by simpa using h
  exact⟨_,rfl,by unfold Ds;rw[if_neg Ad2,if_pos Ad2],Xs⟩
 ·have e1:A9 (Gs l) l.length= -1:=by simpa using (show (A9 (Gs l) l.length != -1)=false by assumption)
  have e2:A9 (C5 l) l.length= -1:=by simpa using (show (A9 (C5 l) l.length != -1)=false by assumption)
  have e3:A9 (E5 l) l.length≠ -1:=by simpa using h
  exact⟨_,rfl,by unfold Ds;rw[if_neg Ad2,if_neg Ad2,if_pos Ad2],Xs⟩
 ·have e1:A9 (Gs l) l.length= -1:=by simpa using (show (A9 (Gs l) l.length != -1)=false by assumption)
  have e2:A9 (C5 l) l.length= -1:=by simpa using (show (A9 (C5 l) l.length != -1)=false by assumption)
  have e3:A9 (E5 l) l.length= -1:=by simpa using h
  exact⟨_,rfl,by unfold Ds;rw[if_neg Ad2,if_neg Ad2,if_neg Ad2],Xs⟩
theorem Aai {N:List Tx}{l:List RItem}{cs:List AV}(hE:EL (PI N) l cs)(hl:l.length<=16)(hW:∀x∈l,Jk x)(hN:N.length<=2000):Bk N l cs:=by
 refine⟨hE,hl,fun x hx=>?_,fun x hx ho=>((hW x hx).2.1 ho).2.2,hN,fun x hx a ha=>?_⟩
 ·obtain⟨-,h2,h3⟩:=hW x hx;cases ho:x.out with
  |true=>
   obtain⟨-,q1,q2⟩:=h2 ho;exact⟨by simp[q2],by simp[q1],by simp[q2]⟩
  |false=>
   obtain⟨q1,-,q2,q3⟩:=h3 ho;have:=q1.2.2.1;exact⟨Ad2,Ad2,fun a ha=>by have:=(q3 a ha).2.2.1;omega⟩
 ·obtain⟨-,h2,h3⟩:=hW x hx;unfold Af at ha;cases ho:x.out with
  |true=>
   obtain⟨-,q1,q2⟩:=h2 ho;simp[ho,q2]at ha
  |false=>
   obtain⟨q1,-,q2,q3⟩:=h3 ho;simp[ho]at ha;have hp:Fb a->0<a.terms.length:=fun w=>by
    have:=w.2.1;cases hh:a.terms with
    |nil=>exact absurd hh this
    |cons y ys=>simp
   rcases ha with rfl|ha
   ·exact hp q1
   ·exact hp (q3 a ha)
theorem Zv {l:List RItem}(h:(Ds l).1=0):Ds l=(0,0):=by
 unfold Ds at h⊢;split
 ·rename_i h1;rw[if_pos h1]at h;cases h
 ·rename_i h1;rw[if_neg h1]at h;split
  ·rename_i h2;rw[if_pos h2]at h;cases h
  ·rename_i h2;rw[if_neg h2]at h;split
   ·rename_i h3;rw[if_pos h3]at h;cases h
   ·rfl
def rW (t:Tx)(n1:Nat)(c1:List AV)(n2:Nat)(c2:List AV):Prop:=
 ∃N l,Bf 16 t= .got l []/\Bk N l c2/\n1=N.length/\c1=N.map str/\n2=l.length/\(∀x∈l,∀a∈Af x,VA a)/\∀x∈l,Jk x
theorem iE (t:Tx)(z:St):ACalls Tryz.prog 44 [str t] z fun r z'=>∃idn n1 c1 idi n2 c2,r=tp [ag [sl idn n1 c1,sl idi n2 c2],sc (.int .i64 (A3 t).1),sc (.int .i64 (A3 t).2)]/\Keep z z'/\((A3 t).1=0->n1<=600/\rW t n1 c1 n2 c2):=by
 refine Z9 41 [.cell 2 66,.tmp 3,.tmp 4] Tryz.func44 ?_;by_cases hL:600<t.length
 ·have ad:A3 t=(1,0):=by unfold A3;rw[if_pos hL]
  have ac:Ad8 _:=ad;clear ad
  repeat' (first|refine Z1 ?_|(refine Z8 ?_;intro ya J)|(refine Z4 ?_;clear J ya)|(refine Z2 ?_ ?_<;>intro h ai<;>try exact Xp)|refine Z3 ?_|exact Zt|(apply J.out;clear J ya))
  refine⟨_,rfl,1,0,[],1,0,[],by rw[ac.out],Xs,by rw[ac.out];intro h;simp at h⟩
 ·have aa:=Fw t;have ht:t.length<=1000:=Ad2;have ap:RS 0 t (z.nobj+1) [] 1 t (((z.new [nilS,nilS]).new [str [],sc (.int .i64 0),nilS]).put (z.nobj+1) [str t,sc (.int .i64 0),nilS]):=by
   refine⟨?_,Nat.lt_succ_self _,.inl ⟨rfl,rfl⟩,Acs _,by simp⟩;rw[Ak];simp[Kc,Qm]
  have hR:=cN ht ap;have an:Keep z (((z.new [nilS,nilS]).new [str [],sc (.int .i64 0),nilS]).put (z.nobj+1) [str t,sc (.int .i64 0),nilS]):=(((Keep.refl z).new _).new _).put Ad2 _;cases hp:Bf 16 t with
  |bad e=>
   rw[hp]at hR aa;dsimp only at aa;have ad:A3 t=(2,((t.length-e.length:Nat):Int)):=by
    unfold A3;rw[if_neg hL,aa,if_pos (Acy _)]
   have ac:Ad8 _:=ad;have HR:Ad8 _:=hR;have ao:Ad8 _:=an;clear ad aa ap hR hp an
   repeat' (first|refine Z1 ?_|(refine Z8 ?_;intro ya J)|(refine Z4 ?_;clear J ya)|(refine Z2 ?_ ?_<;>intro h ai<;>try exact Xp)|(refine Z5 ?_;refine Xi (HR.out) ?_;rintro _ _ ⟨n,ids,c,N',id',rfl,ae,ak,a4,ax⟩;(have af:=ae.keep.obj;have ah:=ae.keep.nobj;(try simp only[Aa,Ac,Av]at ah)))|refine Z3 ?_|exact Zt|(apply J.out;clear J ya))
   rename_i z1;have ab:=ak.obj;unfold Kc Qm at ab;simp only[Rd.rest]at ab;have a3:z1.obj z.nobj=[nilS,nilS]:=by
    rw[af _ Ad7 Ad2,Al Ad2,Ai (by rw[Aa];omega),Am]
   have aj:Keep z z1:=KeepR.keep ao.out ae.keep Ad2 (.inl Ad2);clear af;refine Aq Ad (fun p=>p=z.nobj+1) [5] [0,1,2] [3,4,5] Ad5 (fun _ _ _ h=>h) ?_;intro ya J;have aw:∀i,Kept (fun j=>!([5]:List Nat).contains j) (fun p=>p=z.nobj+1) z1 i (z1.put z.nobj [nilS,nilS]):=fun i _ p hp hF=>by
    subst hF;simp[St.put]
   refine Z3 ?_;refine⟨fun p h=>h.elim,fun p h=>h.elim,fun p h=>by cases h;rfl,?_⟩
   try (refine And.intro (aw _) ?_)
   try (refine And.intro (aw _) ?_)
   repeat' (first|refine Z1 ?_|(refine Z8 ?_;intro ya J)|(refine Z4 ?_;clear J ya)|(refine Z2 ?_ ?_<;>intro h ai<;>try exact Xp)|refine Z3 ?_|exact Zt|(apply J.out;clear J ya))
   refine⟨_,rfl,1,0,[],1,0,[],by rw[ac.out],aj.put (Aak _) _,by rw[ac.out];intro h;simp at h⟩
  |got l r=>
   rw[hp]at hR aa;dsimp only at aa;obtain⟨p1,p2,p3,p4⟩:=Ek ht hp;have av:=Wq _ _ _ _ hp;have az:=(El _ _ _ _ hp).2.1;subst az;have ad:A3 t=Ds l:=by
    unfold A3;rw[if_neg hL,aa,if_neg Ad2,p2]
   have ac:Ad8 _:=ad;have HR:Ad8 _:=hR;have ao:Ad8 _:=an;have HP:Ad8 _:=hp;clear ad aa ap hR hp an p2 p1
   repeat' (first|refine Z1 ?_|(refine Z8 ?_;intro ya J)|(refine Z4 ?_;clear J ya)|(refine Z2 ?_ ?_<;>intro h ai<;>try exact Xp)|(refine Z5 ?_;first|(refine Xi (HR.out) ?_;rintro _ _ ⟨n,ids,c,N',id',rfl,ae,ak,a4,ax⟩;(have af:=ae.keep.obj;have ah:=ae.keep.nobj;(try simp only[Aa,Ac,Av]at ah);have ab:=ak.obj;unfold Kc Qm at ab;obtain⟨rfl,a5⟩:n=l.length/\EL (PI N') l c:=ax;have ay:=Aai a5 p3 p4 (by have:=ak.len;omega)))|(refine Xi (iR N' l c id' ids ay av _) ?_;rintro _ _ ⟨rfl,am⟩;(have kobf:=am.obj;have knof:=am.nobj;(try simp only[Aa,Ac,Av]at knof))))|refine Z3 ?_|exact Zt|(apply J.out;clear J ya))
   ·rename_i z1 a0 _ z2;have aj:Keep z z1:=KeepR.keep ao.out ae.keep Ad2 (.inl Ad2);have au:=(((aj.new [nilS,nilS]).put aj.nobj _).trans am);exact⟨_,rfl,1,0,[],1,0,[],by rw[ac.out],au.put (Aak _) _,by rw[ac.out];intro h0;simp[h0]at h⟩
   ·rename_i z1 a0 _ z2;have aj:Keep z z1:=KeepR.keep ao.out ae.keep Ad2 (.inl Ad2);have au:=(((aj.new [nilS,nilS]).put aj.nobj _).trans am);have hw:=Zv (l:=l) (by simpa using h);exact⟨_,rfl,id',N'.length,N'.map str,ids,l.length,c,by rw[ac.out,hw],au.put (Aak _) _,fun _=>⟨by have:=ak.len;simp only[Rd.rest,Abu]at this;omega,N',l,HP.out,ay,rfl,rfl,rfl,av,p4⟩⟩
end Go.Proofs.YtmoeoppbmhfbpaaGreatDoorH
