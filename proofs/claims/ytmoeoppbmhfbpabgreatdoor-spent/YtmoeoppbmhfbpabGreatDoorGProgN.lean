import Derived.Test.YtmoeoppbmhfbpabGreatDoorGProgK
set_option maxHeartbeats 16000000
set_option maxRecDepth 100000
set_option linter.all false
namespace Go.Proofs.YtmoeoppbmhfbpabGreatDoorG
open Go.Abs
theorem Q8 (N:List Tx)(l:List RItem)(cs:List AV)(idn idi:Nat)(hB:Bk N l cs)(d:St):ACalls Tryz.prog 121 [B9 N idn l idi cs] d fun r d'=>r=sc (.int .i64 (Bn (Hz l) l.length))/\Keep d d':=by
 have a0:=EL.length D2 hB.el;have bn:=hB.len;have hN:=hB.nm;refine Z9 52 [.tmp 2] Tryz.func121 ?_
 repeat' (first|refine Z1 ?_|(refine Z8 ?_;intro κ hκ)|(refine Z4 ?_;clear hκ κ)|(refine Z2 ?_ ?_<;>intro h ab<;>try exact Xp)|refine Z3 ?_|exact⟨⟩|(apply hκ.out;clear hκ κ))
 refine Ag (fun m s d'=>∃(i:Nat) (cc:Nat->Int),m=l.length-i/\i<=l.length/\s 3=fx (d.nobj+1) 0 N.length/\s 13=sl idi l.length cs/\s 14=sc (.int .i64 l.length)/\s 15=sc (.int .i64 i)/\Keep d d'/\d.nobj+1<d'.nobj/\d'.obj (d.nobj+1)=Mi N.length cc/\Agt (cntsOk N (K6 l i) cc)/\Agt (O7 (K6 l i))/\Agt (noO l i)) l.length
  ⟨0,fun _=>0,Agm,Agm,?_,rfl,rfl,rfl,Xs,Agq,?_,?_,by simp[Agt,K6,vI],fun a h=>Agm⟩ ?_
 ·simp[upd]
 ·show (if d.nobj+1=d.nobj+1 then _ else _)=_;rw[if_pos rfl];exact pV _
 ·intro p hp;simp[K6,Ia]
 rintro m s d' ⟨i,cc,rfl,hi,h3,a6,a5,a4,hK,ae,aw,hC,hS,hno⟩;have a8:=hK.nobj;by_cases am:i<l.length
 ·have aa:=List.getElem?_eq_getElem am;have ay:=hB.fits l[i] (Afa am);have ba:=hB.out l[i] (Afa am);have a9:=hB.pos l[i] (Afa am);obtain⟨hm,ih,id,b,r,hb,hd⟩:=G8 hB.el aa;generalize l[i]=x at hd aa ay ba hb hm a9;have HX:Agt (l[i]?=some x):=aa;clear aa;have b4:=ay.atoms
  repeat' (first|refine Z1 ?_|(refine Z8 ?_;intro κ hκ)|(refine Z4 ?_;clear hκ κ)|(refine Z2 ?_ ?_<;>intro h ab<;>try exact Xp)|(refine Z5 ?_;refine Xi (K7 N x _ (PI.of hm hb) ba (by have:=ay.1;omega) _) ?_;rintro _ _ ⟨ida,cs2,rfl,bg,a3⟩;(have ah:=a3.obj;have ai:=a3.nobj;(try simp only[Aa,Ab,Ah]at ai)))|refine Z3 ?_|exact⟨⟩|(apply hκ.out;clear hκ κ))
  rename_i d1;have br:=EL.length aD bg;have bf:Keep d d1:=Xs;have aj:d1.obj (d.nobj+1)=Mi N.length cc:=by
   rw[ah _ (by simp only[Aa,Ab];omega),Ai Agm,Af ae];exact aw
  clear ah
  refine Ag (fun m s d'=>∃(j:Nat) (cc:Nat->Int),m=(Ae x).length-j/\j<=(Ae x).length/\s 3=fx (d.nobj+1) 0 N.length/\s 4=sc (.int .i64 i)/\s 13=sl idi l.length cs/\s 14=sc (.int .i64 l.length)/\s 15=sc (.int .i64 i)/\s 21=sl ida (Ae x).length cs2/\s 22=sc (.int .i64 (Ae x).length)/\s 23=sc (.int .i64 j)/\Keep d d'/\d.nobj+1<d'.nobj/\d'.obj (d.nobj+1)=Mi N.length cc/\Agt (cntsOk N (E9 l x i j) cc)/\Agt (O7 (E9 l x i j))/\Agt (Adi l x i j)) (Ae x).length
   ⟨0,cc,Agm,Agm,by simp[upd,h3],Ago,by simp[upd,a6],by simp[upd,a5],by simp[upd,a4],Ago,rfl,rfl,bf,Agm,aj,by simpa[E9]using hC,by simpa[E9]using hS,fun b h=>Agm⟩ ?_
  clear aj hK aw hC hS a3 ai a8 h3 a6 a5 a4 ae cc bf;rintro m s d' ⟨j,cc,rfl,hj,h3,h4,a6,a5,a4,b7,b6,b5,hK,ae,aw,hC,hS,ad⟩;have a8:=hK.nobj;by_cases af:j<(Ae x).length
  ·have aa:=List.getElem?_eq_getElem af;have av:=a9 (Ae x)[j] (Afa af);obtain⟨ha,ia,r2,bb⟩:=wP bg aa;generalize (Ae x)[j]=a at bb aa ha av;have HA:Agt ((Ae x)[j]?=some a):=aa;clear aa;have ac:Agt (Qn l x i j=(E9 l x i j).any (clash a)):=by rw[Agt,Qn,HA.out]
   have ax:=Afd ha;have ap:=hC.out.step hS.out ha;have az:=hC.out a.pred ha;have bd:=Ll cc ax;have an:=fun v=>vB (n:=N.length) (i:=N.idxOf a.pred) cc v;have b1:=Uq N.length cc;generalize bu:cc (N.idxOf a.pred)=c at bd ap az;clear bu;generalize N.idxOf a.pred=ix at bb bd ax ap an;have a0:=Yk hS.out a;have bh:Agt _:=ap;have au:Agt _:=az;have a7:Agt _:=a0;clear ap az a0;by_cases ao:(c==0)=true
   ·have b3:((Mi N.length cc).set ix (sc (.int .i64 a.terms.length)))[ix]?=some (sc (.int .i64 a.terms.length)):=by rw[an,Ll _ ax];simp
    have b2:((a.terms.length:Int) !=a.terms.length)=false:=by simp
    have bv:c=0:=by simpa using ao
    have b0:Agt _:=an;clear an
    repeat' (first|refine Z1 ?_|(refine Z8 ?_;intro κ hκ)|(refine Z4 ?_;clear hκ κ)|(refine Z2 ?_ ?_<;>intro h ab<;>try exact Xp)|refine Z3 ?_|exact⟨⟩|(apply hκ.out;clear hκ κ))
    refine Bu Al (fun _=>True) [8] [0,1,2,3,4,5,6,7] [8] Agp (fun _ _ _ h=>h) ?_;intro κ hκ;refine Z3 ?_
    repeat' (first|refine Z1 ?_|(refine Z8 ?_;intro κ hκ)|(refine Z4 ?_;clear hκ κ)|(refine Z2 ?_ ?_<;>intro h ab<;>try exact Xp)|refine Z3 ?_|exact⟨⟩|(apply hκ.out;clear hκ κ))
    have ak:(E9 l x i j).any (clash a)=false:=by
     cases hq:(E9 l x i j).any (clash a)with
     |false=>rfl
     |true=>exfalso;have h1:=(a7.out.1 hq).1;have h2:=au.out;omega
    refine⟨(Ae x).length-(j+1),Agm,j+1,_,rfl,Agm,by simp,((hK.new _).put hK.nobj _).put Agm _,Agm,b0.out _,?_,?_,L3 ad.out (by rw[ac.out];exact ak)⟩
    ·rw[Agt,Lu HA.out];exact bh.out.1 bv
    ·rw[Agt,Lu HA.out];exact Yj hS.out av ak
   ·have ao:(c==0)=false:=by simpa using ao
    clear an
    repeat' (first|refine Z1 ?_|(refine Z8 ?_;intro κ hκ)|(refine Z4 ?_;clear hκ κ)|(refine Z2 ?_ ?_<;>intro h ab<;>try exact Xp)|refine Z3 ?_|exact⟨⟩|(apply hκ.out;clear hκ κ))
    refine Bu Al (fun _=>True) [8] [0,1,2,3,4,5,6,7] [8] Agp (fun _ _ _ h=>h) ?_;intro κ hκ;refine Z3 ?_
    repeat' (first|refine Z1 ?_|(refine Z8 ?_;intro κ hκ)|(refine Z4 ?_;clear hκ κ)|(refine Z2 ?_ ?_<;>intro h ab<;>try exact Xp)|refine Z3 ?_|exact⟨⟩|(apply hκ.out;clear hκ κ))
    ·have be:c≠0:=by simpa using ao
     have bw:c≠a.terms.length:=by simpa using h
     have bq:=a7.out.2 ⟨by have:=au.out;omega,by have:=au.out;omega⟩;have bm:Hz l i=true:=by
      unfold Hz;rw[HX.out];dsimp only;rw[Aeo];exact⟨j,by simpa using af,by rw[ac.out];exact bq⟩
     exact⟨_,rfl,by rw[J5 am bm hno.out],(hK.new _).put hK.nobj _⟩
    ·have be:c≠0:=by simpa using ao
     have bw:c=a.terms.length:=by simpa using h
     have ak:(E9 l x i j).any (clash a)=false:=by
      cases hq:(E9 l x i j).any (clash a)with
      |false=>rfl
      |true=>exfalso;have h1:=(a7.out.1 hq).2;have h2:=au.out;omega
     refine⟨(Ae x).length-(j+1),Agm,j+1,cc,rfl,Agm,by simp,(hK.new _).put hK.nobj _,Agm,rfl,?_,?_,L3 ad.out (by rw[ac.out];exact ak)⟩
     ·rw[Agt,Lu HA.out];exact bh.out.2 be
     ·rw[Agt,Lu HA.out];exact Yj hS.out av ak
  ·have bo:j=(Ae x).length:=Agm;subst bo
   repeat' (first|refine Z1 ?_|(refine Z8 ?_;intro κ hκ)|(refine Z4 ?_;clear hκ κ)|(refine Z2 ?_ ?_<;>intro h ab<;>try exact Xp)|refine Z3 ?_|exact⟨⟩|(apply hκ.out;clear hκ κ))
   have bi:E9 l x i (Ae x).length=K6 l (i+1):=by rw[oC HX.out];simp[E9]
   rw[bi]at hC hS;refine⟨l.length-(i+1),Agm,i+1,cc,rfl,Agm,by simp,rfl,hC,hS,L3 hno.out ?_⟩;unfold Hz;rw[HX.out];dsimp only;rw[Ae9];intro b hb;have bz:=ad.out b (by simpa using hb);simp[bz]
 ·have bp:i=l.length:=Agm;subst bp
  repeat' (first|refine Z1 ?_|(refine Z8 ?_;intro κ hκ)|(refine Z4 ?_;clear hκ κ)|(refine Z2 ?_ ?_<;>intro h ab<;>try exact Xp)|refine Z3 ?_|exact⟨⟩|(apply hκ.out;clear hκ κ))
  first|exact⟨_,rfl,by rw[Cq hno.out],hK⟩|exact⟨_,rfl,by rw[Cq hno.out]⟩
def Hc (n:Nat)(f:Nat->Bool):List AV:=(List.range n).map fun i=>sc (.bool (f i))
theorem D7 (n:Nat)(f:Nat->Bool):(Hc n f).length=n:=by simp[Hc]
theorem F3 {n i:Nat}(f:Nat->Bool)(h:i<n):(Hc n f)[i]?=some (sc (.bool (f i))):=by simp[Hc,h]
theorem Ut {n i:Nat}(f:Nat->Bool)(v:Bool):(Hc n f).set i (sc (.bool v))=Hc n (fun j=>if j=i then v else f j):=by
 apply Ad8;intro j;rw[List.getElem?_set];by_cases hj:j<n
 ·rw[F3 (fun j=>if j=i then v else f j) hj];by_cases e:i=j
  ·subst e;rw[if_pos rfl,D7,if_pos hj];simp
  ·rw[if_neg e,F3 _ hj,if_neg (fun e'=>e e'.symm)]
 ·have h1:(Hc n fun j=>if j=i then v else f j)[j]?=none:=by simp[Hc];omega
  have h2:(Hc n f)[j]?=none:=by simp[Hc];omega
  rw[h1,h2];split
  ·rw[D7];rw[if_neg Agm]
  ·rfl
theorem Yl (n:Nat):List.replicate n (sc (.bool false))=Hc n fun _=>false:=by
 apply Ad8;intro j;by_cases hj:j<n
 ·rw[F3 _ hj];simp[hj]
 ·simp[Hc,hj]
def E0 (B n k:Nat):List AV:=(List.range k).map fun i=>fx (B+i) 0 n
theorem Hn (B n k:Nat):(E0 B n k).length=k:=by simp[E0]
theorem iA (B n k:Nat):E0 B n (k+1)=E0 B n k++[fx (B+k) 0 n]:=by simp[E0,List.range_succ]
theorem Ho {B n k i:Nat}(h:i<k):(E0 B n k).drop i=fx (B+i) 0 n::(E0 B n k).drop (i+1):=by
 rw[Aep (by rw[Hn];exact h)];simp[E0]
def Mat (B n:Nat)(M:Nat->Nat->Bool)(d:St):Prop:=∀i,i<n->d.obj (B+i)=Hc n (M i)
theorem Mat.keep {B n:Nat}{M:Nat->Nat->Bool}{d d':St}(h:Mat B n M d)(k:Keep d d')(hn:B+n<=d.nobj):Mat B n M d':=fun i hi=>by rw[k.obj _ Agm];exact h i hi
theorem Mat.new {B n:Nat}{M:Nat->Nat->Bool}{d:St}(h:Mat B n M d)(hn:B+n<=d.nobj)(cs:List AV):Mat B n M (d.new cs):=fun i hi=>by rw[Af Agm];exact h i hi
theorem Mat.put {B n o:Nat}{M:Nat->Nat->Bool}{d:St}(h:Mat B n M d)(ho:B+n<=o)(cs:List AV):Mat B n M (d.put o cs):=fun i hi=>by rw[Ai Agm];exact h i hi
theorem Mat.set {B n p q:Nat}{M:Nat->Nat->Bool}{d:St}(h:Mat B n M d)(hp:p<n)(v:Bool):Mat B n (set2 M p q v) (d.put (B+p) ((Hc n (M p)).set q (sc (.bool v)))):=fun i hi=>by
 by_cases e:i=p
 ·subst e;rw[Aj,Ut];congr 1;funext j;simp[set2]
 ·have hx:(d.put (B+p) ((Hc n (M p)).set q (sc (.bool v)))).obj (B+i)=d.obj (B+i):=by
   by_cases hl:i<p
   ·exact Ai Agm
   ·exact Rm Agm
  rw[hx,h i hi];congr 1;funext j;simp[set2,e]
def dW (N:List Tx)(l:List RItem)(p q:Nat):Prop:=∃x∈l,N.idxOf x.head.pred=p/\∃a∈x.body,N.idxOf a.pred=q
def Ac2 (N:List Tx)(x:RItem)(b:List RAtom)(p q:Nat):Prop:=N.idxOf x.head.pred=p/\∃a∈b,N.idxOf a.pred=q
def C8 (N:List Tx)(l:List RItem)(M:Nat->Nat->Bool):Prop:=∀p q,M p q=true↔dW N l p q
def isOnceQ (N:List Tx)(l:List RItem)(x:RItem)(b:List RAtom)(M:Nat->Nat->Bool):Prop:=∀p q,M p q=true↔dW N l p q\/Ac2 N x b p q
theorem isOnceQ.step {N:List Tx}{l:List RItem}{x:RItem}{j:Nat}{a:RAtom}{M:Nat->Nat->Bool}(h:isOnceQ N l x (x.body.take j) M)(ha:x.body[j]?=some a):isOnceQ N l x (x.body.take (j+1)) (set2 M (N.idxOf x.head.pred) (N.idxOf a.pred) true):=by
 intro p q;rw[Ad3,ha];unfold set2;by_cases e:p=N.idxOf x.head.pred/\q=N.idxOf a.pred
 ·rw[if_pos e];simp only[true_iff];exact .inr ⟨e.1.symm,a,by simp,e.2.symm⟩
 ·rw[if_neg e,h p q];constructor
  ·rintro (h|⟨h1,b,hb,h2⟩)
   ·exact .inl h
   ·exact .inr ⟨h1,b,by simp[hb],h2⟩
  ·rintro (h|⟨h1,b,hb,h2⟩)
   ·exact .inl h
   ·simp only[Afe,Aew,Aff]at hb;rcases hb with hb|rfl
    ·exact .inr ⟨h1,b,hb,h2⟩
    ·exact absurd ⟨h1.symm,h2.symm⟩ e
theorem isOnceQ.zero {N:List Tx}{l:List RItem}{x:RItem}{M:Nat->Nat->Bool}(h:C8 N l M):isOnceQ N l x (x.body.take 0) M:=by
 intro p q;rw[h p q];constructor
 ·exact .inl
 ·rintro (h|⟨-,b,hb,-⟩)
  ·exact h
  ·simp at hb
theorem isOnceQ.done {N:List Tx}{l:List RItem}{x:RItem}{i:Nat}{M:Nat->Nat->Bool}(h:isOnceQ N (l.take i) x x.body M)(hx:l[i]?=some x):C8 N (l.take (i+1)) M:=by
 intro p q;rw[h p q,Ad3,hx];constructor
 ·rintro (⟨y,hy,g⟩|g)
  ·exact⟨y,by simp[hy],g⟩
  ·exact⟨x,by simp,g⟩
 ·rintro⟨y,hy,g⟩;simp only[Afe,Aew,Aff]at hy;rcases hy with hy|rfl
  ·exact .inl ⟨y,hy,g⟩
  ·exact .inr g
theorem Qz (N:List Tx)(l:List RItem)(cs:List AV)(idn idi:Nat)(hB:Bk N l cs)(d:St):ACalls Tryz.prog 206 [B9 N idn l idi cs] d fun r d'=>∃idu B M,r=sl idu N.length (E0 B N.length N.length)/\Keep d d'/\d.nobj<=B/\B+N.length<=d'.nobj/\Mat B N.length M d'/\C8 N l M:=by
 have bw:=EL.length D2 hB.el;have bm:=hB.len;have hN:=hB.nm;refine Z9 51 [.tmp 2] Tryz.func206 ?_
 repeat' (first|refine Z1 ?_|(refine Z8 ?_;intro κ hκ)|(refine Z4 ?_;clear hκ κ)|(refine Z2 ?_ ?_<;>intro h ae<;>try exact Xp)|(refine Z6 ?_;intro idn dn ah ai ac aa af ab)|refine Z3 ?_|exact⟨⟩|(apply hκ.out;clear hκ κ))
 refine Ag (fun m s d'=>∃(k idu:Nat),m=N.length-k/\k<=N.length/\s 1=ptr d.nobj 0/\s 3=sl idu k (E0 (d.nobj+1) N.length k)/\s 12=sc (.int .i64 N.length)/\s 13=sc (.int .i64 k)/\Keep d d'/\Own d d' idu k/\d'.nobj=d.nobj+1+k/\d'.obj d.nobj=[sl idn N.length (N.map str),sl idi l.length cs]/\Agt (∀i,i<k->d'.obj (d.nobj+1+i)=Hc N.length fun _=>false)) N.length
  ⟨0,1,Agm,Agm,rfl,rfl,rfl,rfl,Xs,Own.nil _ _,rfl,Ap,fun i hi=>Agm⟩ ?_
 rintro m s d' ⟨k,idu,rfl,hk,h1,h3,bu,br,hK,hO,aj,a5,hM⟩;have bd:=Hn (d.nobj+1) N.length k;by_cases an:k<N.length
 ·repeat' (first|refine Z1 ?_|(refine Z8 ?_;intro κ hκ)|(refine Z4 ?_;clear hκ κ)|(refine Z2 ?_ ?_<;>intro h ae<;>try exact Xp)|(refine Z6 ?_;intro idn dn ah ai ac aa af ab)|refine Z3 ?_|exact⟨⟩|(apply hκ.out;clear hκ κ))
  have bq:Keep d (d'.new (List.replicate N.length (sc (.bool false)))):=hK.new _;refine Bm (by first|exact Ob) bq (Own.new hO _) (by decide) (by rfl) (by rw[bd,Nat.mul_one]) (by rfl) (by rfl) (by decide) Agm Agm ?_;intro idn2 dn ah ai ac aa af ab;have bg:dn.obj d.nobj=[sl idn N.length (N.map str),sl idi l.length cs]:=by rw[ac,Af Agm];exact a5
  rw[Aa,aj]at aa;refine Z3 ?_
  repeat' (first|refine Z1 ?_|(refine Z8 ?_;intro κ hκ)|(refine Z4 ?_;clear hκ κ)|(refine Z2 ?_ ?_<;>intro h ae<;>try exact Xp)|(refine Z6 ?_;intro idn dn ah ai ac aa af ab)|refine Z3 ?_|exact⟨⟩|(apply hκ.out;clear hκ κ))
  refine⟨N.length-(k+1),Agm,k+1,idn2,rfl,Agm,by rw[iA],by simp,ah,Agm,?_⟩;intro i hi
  try rw[ac]
  by_cases e:i=k
  ·subst e;rw[<-aj,Ap,Yl]
  ·rw[Af Agm];exact hM.out i Agm
 ·have bn:k=N.length:=Agm;subst bn
  repeat' (first|refine Z1 ?_|(refine Z8 ?_;intro κ hκ)|(refine Z4 ?_;clear hκ κ)|(refine Z2 ?_ ?_<;>intro h ae<;>try exact Xp)|(refine Z6 ?_;intro idn dn ah ai ac aa af ab)|refine Z3 ?_|exact⟨⟩|(apply hκ.out;clear hκ κ))
  have ba:Mat (d.nobj+1) N.length (fun _ _=>false) d':=hM.out;have ak:d.nobj+1+N.length<=d'.nobj:=Agm;clear hM aj hO a5 br bu h1
  refine Ag (fun m s d'=>∃(i:Nat) (M:Nat->Nat->Bool),m=l.length-i/\i<=l.length/\s 3=sl idu N.length (E0 (d.nobj+1) N.length N.length)/\s 25=sl idi l.length cs/\s 26=sc (.int .i64 l.length)/\s 27=sc (.int .i64 i)/\Keep d d'/\d.nobj+1+N.length<=d'.nobj/\Agt (Mat (d.nobj+1) N.length M d')/\Agt (C8 N (l.take i) M)) l.length
   ⟨0,fun _ _=>false,Agm,Agm,by simp[upd,h3],Ago,Ago,rfl,hK,ak,ba,fun p q=>by simp[dW]⟩ ?_
  clear ba ak h3 hK h ae an hk;rintro m s d' ⟨i,M,rfl,hi,h3,ay,ax,aw,hK,ak,hM,hI⟩;have a3:=hK.nobj;by_cases an:i<l.length
  ·have ad:=List.getElem?_eq_getElem an;have a8:=hB.fits l[i] (Afa an);obtain⟨hm,ih,id,b,r,hb,hd⟩:=G8 hB.el ad;generalize l[i]=x at hd ad a8 hb hm;have HX:Agt (l[i]?=some x):=ad;clear ad;have bz:=EL.length Dp hb;have bv:=a8.1;have am:=Afd hm
   repeat' (first|refine Z1 ?_|(refine Z8 ?_;intro κ hκ)|(refine Z4 ?_;clear hκ κ)|(refine Z2 ?_ ?_<;>intro h ae<;>try exact Xp)|(refine Z6 ?_;intro idn dn ah ai ac aa af ab)|refine Z3 ?_|exact⟨⟩|(apply hκ.out;clear hκ κ))
   have av:Keep d ((d'.new [sc (.bool false),sc (.int .i64 0),nilS,nilS]).put d'.nobj [sc (.bool x.out),sc (.int .i64 (N.idxOf x.head.pred:Nat)),sl ih x.head.terms.length (Ay x.head.terms),sl id x.body.length b]):=(hK.new _).put hK.nobj _;have au:=(hM.out.new ak [sc (.bool false),sc (.int .i64 0),nilS,nilS]).put ak [sc (.bool x.out),sc (.int .i64 (N.idxOf x.head.pred:Nat)),sl ih x.head.terms.length (Ay x.head.terms),sl id x.body.length b];generalize a6:d'.nobj=o6 at av au ak
   refine Ag (fun m s d''=>∃(j:Nat) (M:Nat->Nat->Bool),m=x.body.length-j/\j<=x.body.length/\s 3=sl idu N.length (E0 (d.nobj+1) N.length N.length)/\s 6=ptr o6 0/\s 25=sl idi l.length cs/\s 26=sc (.int .i64 l.length)/\s 27=sc (.int .i64 i)/\s 32=sl id x.body.length b/\s 33=sc (.int .i64 x.body.length)/\s 34=sc (.int .i64 j)/\Keep d d''/\o6<d''.nobj/\d''.obj o6=[sc (.bool x.out),sc (.int .i64 (N.idxOf x.head.pred:Nat)),sl ih x.head.terms.length (Ay x.head.terms),sl id x.body.length b]/\Agt (Mat (d.nobj+1) N.length M d'')/\Agt (isOnceQ N (l.take i) x (x.body.take j) M)) x.body.length
    ⟨0,M,Agm,Agm,by simp[upd,h3],by simp[upd,a6],by simp[upd,ay],by simp[upd,ax],by simp[upd,aw],Ago,rfl,rfl,?_,?_,?_,?_,isOnceQ.zero hI.out⟩ ?_
   ·exact av
   ·rw[Ab,Aa];omega
   ·rw[Aj]
   ·exact au
   clear au av hK hM hI h3 ay ax aw a3 M a6;rintro m s d'' ⟨j,M,rfl,hj,h3,h6,ay,ax,aw,b2,b1,b0,hK,bh,ao,hM,hI⟩;have a3:=hK.nobj;by_cases ap:j<x.body.length
   ·have ad:=List.getElem?_eq_getElem ap;obtain⟨ha,ia,r2,a9⟩:=Mx hb ad;generalize x.body[j]=a at a9 ad ha;have HA:Agt (x.body[j]?=some a):=ad;clear ad;have bf:=Afd ha;have be:=Ho (B:=d.nobj+1) (n:=N.length) (k:=N.length) am;have bi:=hM.out _ am;have bb:=D7 N.length (M (N.idxOf x.head.pred));have a4:=isOnceQ.step hI.out HA.out;have az:Agt _:=a4;have a7:=fun (τ:St) (hτ:Mat (d.nobj+1) N.length M τ)=>Mat.set (q:=N.idxOf a.pred) hτ am true;have a0:Agt _:=a7;clear a4 a7;generalize N.idxOf x.head.pred=ph at ao am be bi bb az a0;generalize N.idxOf a.pred=qa at a9 bf az a0
    repeat' (first|refine Z1 ?_|(refine Z8 ?_;intro κ hκ)|(refine Z4 ?_;clear hκ κ)|(refine Z2 ?_ ?_<;>intro h ae<;>try exact Xp)|(refine Z6 ?_;intro idn dn ah ai ac aa af ab)|refine Z3 ?_|exact⟨⟩|(apply hκ.out;clear hκ κ))
    refine Bu Al (fun _=>True) [10] [0,1,2,3,4,5,6,7,8,9] [10] Agp (fun _ _ _ h=>h) ?_;intro κ hκ;refine Z3 ?_
    repeat' (first|refine Z1 ?_|(refine Z8 ?_;intro κ hκ)|(refine Z4 ?_;clear hκ κ)|(refine Z2 ?_ ?_<;>intro h ae<;>try exact Xp)|(refine Z6 ?_;intro idn dn ah ai ac aa af ab)|refine Z3 ?_|exact⟨⟩|(apply hκ.out;clear hκ κ))
    exact⟨x.body.length-(j+1),Agm,j+1,_,rfl,Agm,by simp,((hK.new _).put hK.nobj _).put Agm _,Agm,a0.out _ (Mat.put (Mat.new hM.out Agm _) Agm _),az.out⟩
   ·have bo:j=x.body.length:=Agm;subst bo;rw[Adz]at hI
    repeat' (first|refine Z1 ?_|(refine Z8 ?_;intro κ hκ)|(refine Z4 ?_;clear hκ κ)|(refine Z2 ?_ ?_<;>intro h ae<;>try exact Xp)|(refine Z6 ?_;intro idn dn ah ai ac aa af ab)|refine Z3 ?_|exact⟨⟩|(apply hκ.out;clear hκ κ))
    exact⟨l.length-(i+1),Agm,i+1,M,rfl,Agm,by simp,Agm,hM,isOnceQ.done hI.out HX.out⟩
  ·have bp:i=l.length:=Agm;subst bp;rw[Adz]at hI
   repeat' (first|refine Z1 ?_|(refine Z8 ?_;intro κ hκ)|(refine Z4 ?_;clear hκ κ)|(refine Z2 ?_ ?_<;>intro h ae<;>try exact Xp)|(refine Z6 ?_;intro idn dn ah ai ac aa af ab)|refine Z3 ?_|exact⟨⟩|(apply hκ.out;clear hκ κ))
   exact⟨_,rfl,idu,d.nobj+1,M,rfl,Agm,ak,hM.out,hI.out⟩
theorem oQ {n:Nat}{M W:Nat->Nat->Bool}{m i k:Nat}(h:part n M m i k W)(hv:fw M m i k=M i k):part n M m i (k+1) W:=by
 intro a b;rw[h];by_cases hc:(a<i/\b<n)\/(a=i/\b<k)
 ·rw[if_pos hc,if_pos Agm]
 ·rw[if_neg hc];by_cases hd:(a<i/\b<n)\/(a=i/\b<k+1)
  ·rw[if_pos hd];have e1:a=i:=Agm;have e2:b=k:=Agm;rw[e1,e2,hv]
  ·rw[if_neg hd]
theorem oP {n:Nat}{M W:Nat->Nat->Bool}{m i:Nat}(h:part n M m i 0 W)(hv:M i m=false):part n M m (i+1) 0 W:=by
 intro a b;rw[h];by_cases hc:(a<i/\b<n)\/(a=i/\b<0)
 ·rw[if_pos hc,if_pos Agm]
 ·rw[if_neg hc];by_cases hd:(a<i+1/\b<n)\/(a=i+1/\b<0)
  ·rw[if_pos hd];have e1:a=i:=Agm;rw[e1];simp[fw,hv]
  ·rw[if_neg hd]
theorem M9 (N:List Tx)(l:List RItem)(cs:List AV)(idn idi:Nat)(hB:Bk N l cs)(d:St):ACalls Tryz.prog 175 [B9 N idn l idi cs] d fun r d'=>∃idu B M,r=sl idu N.length (E0 B N.length N.length)/\Keep d d'/\d.nobj<=B/\B+N.length<=d'.nobj/\Mat B N.length (Ea N.length M N.length) d'/\C8 N l M:=by
 have hN:=hB.nm;refine Z9 49 [.tmp 2] Tryz.func175 ?_
 repeat' (first|refine Z1 ?_|(refine Z8 ?_;intro κ hκ)|(refine Z4 ?_;clear hκ κ)|(refine Z2 ?_ ?_<;>intro h aa<;>try exact Xp)|(refine Z5 ?_;refine Xi (Qz N l cs idn idi hB _) ?_;rintro _ _ ⟨idu,B,M0,rfl,bb,bd,ah,av,ax⟩;(rw[Aa]at bd))|refine Z3 ?_|exact⟨⟩|(apply hκ.out;clear hκ κ))
 rename_i d1;have az:Agt (C8 N l M0):=ax;clear ax;have bi:=Hn B N.length N.length;have aw:Keep d d1:=Xs;clear bb
 refine Ag (fun q s d'=>∃m:Nat,q=N.length-m/\m<=N.length/\s 3=sl idu N.length (E0 B N.length N.length)/\s 10=sc (.int .i64 N.length)/\s 11=sc (.int .i64 m)/\Keep d d'/\B+N.length<=d'.nobj/\Agt (Mat B N.length (Ea N.length M0 m) d')) N.length
  ⟨0,Agm,Agm,rfl,rfl,rfl,aw,ah,av⟩ ?_
 clear aw av ah;rintro q s d' ⟨m,rfl,hm,h3,ae,ad,hK,ac,hM⟩;by_cases aj:m<N.length
 ·generalize au:Ea N.length M0 m=M at hM;have bf:Agt _:=au;clear au
  repeat' (first|refine Z1 ?_|(refine Z8 ?_;intro κ hκ)|(refine Z4 ?_;clear hκ κ)|(refine Z2 ?_ ?_<;>intro h aa<;>try exact Xp)|refine Z3 ?_|exact⟨⟩|(apply hκ.out;clear hκ κ))
  refine Ag (fun q s d'=>∃(i:Nat) (W:Nat->Nat->Bool),q=N.length-i/\i<=N.length/\s 3=sl idu N.length (E0 B N.length N.length)/\s 4=sc (.int .i64 m)/\s 10=sc (.int .i64 N.length)/\s 11=sc (.int .i64 m)/\s 15=sc (.int .i64 N.length)/\s 16=sc (.int .i64 i)/\Keep d d'/\B+N.length<=d'.nobj/\Agt (Mat B N.length W d')/\Agt (part N.length M m i 0 W)) N.length
   ⟨0,M,Agm,Agm,by simp[upd,h3],Ago,by simp[upd,ae],by simp[upd,ad],rfl,rfl,hK,ac,hM,oO⟩ ?_
  clear hK ac hM h3 ae ad;rintro q s d' ⟨i,W,rfl,hi,h3,h4,ae,ad,an,am,hK,ac,hM,hW⟩;by_cases ab:i<N.length
  ·have bm:=Ho (B:=B) (n:=N.length) (k:=N.length) ab;have a7:=hM.out _ ab;have a4:=D7 N.length (W i);have af:=F3 (W i) aj;obtain⟨-,v2,-⟩:=dK hW.out (by omega:0<N.length) aj;rw[v2]at af;have be:Agt _:=v2;clear v2
   repeat' (first|refine Z1 ?_|(refine Z8 ?_;intro κ hκ)|(refine Z4 ?_;clear hκ κ)|(refine Z2 ?_ ?_<;>intro h aa<;>try exact Xp)|refine Z3 ?_|exact⟨⟩|(apply hκ.out;clear hκ κ))
   ·exact⟨N.length-(i+1),Agm,i+1,W,rfl,Agm,by simp,hM,oP hW.out h⟩
   ·have ak:M i m=true:=h
    refine Ag (fun q s d'=>∃(k:Nat) (W:Nat->Nat->Bool),q=N.length-k/\k<=N.length/\s 3=sl idu N.length (E0 B N.length N.length)/\s 4=sc (.int .i64 m)/\s 5=sc (.int .i64 i)/\s 10=sc (.int .i64 N.length)/\s 11=sc (.int .i64 m)/\s 15=sc (.int .i64 N.length)/\s 16=sc (.int .i64 i)/\s 28=sc (.int .i64 N.length)/\s 29=sc (.int .i64 k)/\Keep d d'/\B+N.length<=d'.nobj/\Agt (Mat B N.length W d')/\Agt (part N.length M m i k W)) N.length
     ⟨0,W,Agm,Agm,by simp[upd,h3],by simp[upd,h4],Ago,by simp[upd,ae],by simp[upd,ad],by simp[upd,an],by simp[upd,am],rfl,rfl,hK,ac,hM,hW⟩ ?_
    clear hK ac hM hW h3 h4 ae ad an am af a4 a7 be h W;rintro q s d' ⟨k,W,rfl,hk,h3,h4,h5,ae,ad,an,am,bo,bn,hK,ac,hM,hW⟩;by_cases ai:k<N.length
    ·obtain⟨-,-,v3⟩:=dK hW.out ai aj;have bh:=Ho (B:=B) (n:=N.length) (k:=N.length) aj;have a6:=hM.out _ ab;have a5:=hM.out _ aj;have a3:=D7 N.length (W i);have a0:=D7 N.length (W m);have af:=F3 (W m) ai;rw[v3]at af;clear v3;have ao:=Mat.set (q:=k) hM.out ab true;have bg:Agt _:=ao;clear ao;generalize ap:M m k=vk at af;have ay:Agt _:=ap;clear ap;cases vk with
     |true=>
      repeat' (first|refine Z1 ?_|(refine Z8 ?_;intro κ hκ)|(refine Z4 ?_;clear hκ κ)|(refine Z2 ?_ ?_<;>intro h aa<;>try exact Xp)|refine Z3 ?_|exact⟨⟩|(apply hκ.out;clear hκ κ))
      exact⟨N.length-(k+1),Agm,k+1,_,rfl,Agm,by simp,hK.put Agm _,bg.out,tD hW.out (by simp[fw,ak,ay.out])⟩
     |false=>
      repeat' (first|refine Z1 ?_|(refine Z8 ?_;intro κ hκ)|(refine Z4 ?_;clear hκ κ)|(refine Z2 ?_ ?_<;>intro h aa<;>try exact Xp)|refine Z3 ?_|exact⟨⟩|(apply hκ.out;clear hκ κ))
      exact⟨N.length-(k+1),Agm,k+1,W,rfl,Agm,by simp,hM,oQ hW.out (by simp[fw,ay.out])⟩
    ·have a9:k=N.length:=Agm;subst a9
     repeat' (first|refine Z1 ?_|(refine Z8 ?_;intro κ hκ)|(refine Z4 ?_;clear hκ κ)|(refine Z2 ?_ ?_<;>intro h aa<;>try exact Xp)|refine Z3 ?_|exact⟨⟩|(apply hκ.out;clear hκ κ))
     exact⟨N.length-(i+1),Agm,i+1,W,rfl,Agm,by simp,hM,tE hW.out⟩
  ·have ba:i=N.length:=Agm;subst ba
   repeat' (first|refine Z1 ?_|(refine Z8 ?_;intro κ hκ)|(refine Z4 ?_;clear hκ κ)|(refine Z2 ?_ ?_<;>intro h aa<;>try exact Xp)|refine Z3 ?_|exact⟨⟩|(apply hκ.out;clear hκ κ))
   refine⟨N.length-(m+1),Agm,m+1,rfl,Agm,by simp,?_⟩;rw[Agt,show Ea N.length M0 (m+1)=W by rw[tF hW.out,<-bf.out];rfl];exact hM.out
 ·have a8:m=N.length:=Agm;subst a8
  repeat' (first|refine Z1 ?_|(refine Z8 ?_;intro κ hκ)|(refine Z4 ?_;clear hκ κ)|(refine Z2 ?_ ?_<;>intro h aa<;>try exact Xp)|refine Z3 ?_|exact⟨⟩|(apply hκ.out;clear hκ κ))
  first
  |exact⟨_,rfl,idu,B,M0,rfl,hK,Agm,ac,hM.out,az.out⟩
  |exact⟨_,rfl,idu,B,M0,rfl,Agm,ac,hM.out,az.out⟩
def tC (N:List Tx)(U:Nat->Nat->Bool)(h:Tx)(a:RAtom):Bool:=a.nt&&(((N.idxOf a.pred:Nat):Int)==((N.idxOf h:Nat):Int)||U (N.idxOf a.pred) (N.idxOf h))
def W4 (N:List Tx)(l:List RItem)(U:Nat->Nat->Bool)(i:Nat):Bool:=match l[i]? with|some x=>x.body.any (tC N U x.head.pred)|none=>false
theorem Vr (N:List Tx)(l:List RItem)(cs:List AV)(idn idi:Nat)(hB:Bk N l cs)(d:St):ACalls Tryz.prog 123 [B9 N idn l idi cs] d fun r d'=>∃M,C8 N l M/\r=sc (.int .i64 (Bn (W4 N l (Ea N.length M N.length)) l.length))/\Keep d d':=by
 have bg:=EL.length D2 hB.el;have a9:=hB.len;have hN:=hB.nm;refine Z9 52 [.tmp 2] Tryz.func123 ?_
 repeat' (first|refine Z1 ?_|(refine Z8 ?_;intro κ hκ)|(refine Z4 ?_;clear hκ κ)|(refine Z2 ?_ ?_<;>intro h ab<;>try exact Xp)|(refine Z5 ?_;refine Xi (M9 N l cs idn idi hB _) ?_;rintro _ _ ⟨idu,B,M0,rfl,ap,bd,ah,ao,a5⟩;(rw[Aa]at bd;have ai:=ap.obj;have ae:=ap.nobj;(try simp only[Aa,Ab,Ah]at ae)))|refine Z3 ?_|exact⟨⟩|(apply hκ.out;clear hκ κ))
 rename_i d1;have ax:Agt (C8 N l M0):=a5;clear a5 ai;have bf:=Hn B N.length N.length;have a4:Keep d d1:=Xs;clear ap;generalize hU:Ea N.length M0 N.length=U at ao;have HU:Agt _:=hU;clear hU
 refine Ag (fun m s d'=>∃i:Nat,m=l.length-i/\i<=l.length/\s 3=sl idu N.length (E0 B N.length N.length)/\s 13=sl idi l.length cs/\s 14=sc (.int .i64 l.length)/\s 15=sc (.int .i64 i)/\Keep d d'/\B+N.length<=d'.nobj/\Agt (Mat B N.length U d')/\Agt (∀j,j<i->W4 N l U j=false)) l.length
  ⟨0,Agm,Agm,Ago,Ago,Ago,rfl,a4,ah,ao,fun j hj=>Agm⟩ ?_
 clear a4 ao ah ae;rintro m s d' ⟨i,rfl,hi,h3,aw,av,au,hK,ad,hM,hno⟩;have ay:=hK.nobj;by_cases an:i<l.length
 ·have aa:=List.getElem?_eq_getElem an;have a0:=hB.fits l[i] (Afa an);obtain⟨hm,ih,id,b,r,hb,hd⟩:=G8 hB.el aa;generalize l[i]=x at hd aa a0 hb hm;have hv:Agt (W4 N l U i=x.body.any (tC N U x.head.pred)):=by rw[Agt,W4,aa]
  clear aa;have bh:=EL.length Dp hb;have be:=a0.1;have az:=Afd hm
  repeat' (first|refine Z1 ?_|(refine Z8 ?_;intro κ hκ)|(refine Z4 ?_;clear hκ κ)|(refine Z2 ?_ ?_<;>intro h ab<;>try exact Xp)|refine Z3 ?_|exact⟨⟩|(apply hκ.out;clear hκ κ))
  refine Ag (fun m s d''=>∃j:Nat,m=x.body.length-j/\j<=x.body.length/\s 3=sl idu N.length (E0 B N.length N.length)/\s 4=sc (.int .i64 i)/\s 6=sc (.int .i64 (N.idxOf x.head.pred:Nat))/\s 13=sl idi l.length cs/\s 14=sc (.int .i64 l.length)/\s 15=sc (.int .i64 i)/\s 24=sl id x.body.length b/\s 25=sc (.int .i64 x.body.length)/\s 26=sc (.int .i64 j)/\Keep d d''/\B+N.length<=d''.nobj/\Agt (Mat B N.length U d'')/\Agt ((x.body.take j).any (tC N U x.head.pred)=false)) x.body.length
   ⟨0,Agm,Agm,by simp[upd,h3],Ago,Ago,by simp[upd,aw],by simp[upd,av],by simp[upd,au],Ago,rfl,rfl,(hK.new _).put hK.nobj _,Ags,Mat.put (Mat.new hM.out ad _) ad _,by simp[Agt]⟩ ?_
  clear hK hM ad h3 aw av au ay;rintro m s d'' ⟨j,rfl,hj,h3,h4,h6,aw,av,au,bn,bm,bi,hK,ad,hM,ac⟩;have ay:=hK.nobj;by_cases am:j<x.body.length
  ·have aa:=List.getElem?_eq_getElem am;obtain⟨ha,ia,r2,a3⟩:=Mx hb aa;generalize x.body[j]=a at a3 aa ha;have HA:Agt (x.body[j]?=some a):=aa;clear aa;have ak:=Afd ha;have a7:=Ho (B:=B) (n:=N.length) (k:=N.length) ak;have a8:=hM.out _ ak;have a6:=D7 N.length (U (N.idxOf a.pred));have aj:=F3 (U (N.idxOf a.pred)) az;have af:Agt (tC N U x.head.pred a=(a.nt&&(((N.idxOf a.pred:Nat):Int)==((N.idxOf x.head.pred:Nat):Int)||U (N.idxOf a.pred) (N.idxOf x.head.pred)))):=rfl;generalize hu:U (N.idxOf a.pred) (N.idxOf x.head.pred)=uu at aj af;clear hu;generalize N.idxOf a.pred=pa at a3 ak a7 a8 a6 aj af;generalize N.idxOf x.head.pred=ph at h6 aj af az
   repeat' (first|refine Z1 ?_|(refine Z8 ?_;intro κ hκ)|(refine Z4 ?_;clear hκ κ)|(refine Z2 ?_ ?_<;>intro h ab<;>try exact Xp)|refine Z3 ?_|exact⟨⟩|(apply hκ.out;clear hκ κ))
   all_goals
    first
    |(refine⟨_,rfl,M0,ax.out,?_,(hK.new _).put hK.nobj _⟩
      rw[HU.out,J5 an (by rw[hv.out];exact Rv _ HA.out (by rw[af.out];simp[*])) hno.out])
    |(refine⟨x.body.length-(j+1),Agm,j+1,rfl,Agm,by simp,(hK.new _).put hK.nobj _,Agm,Mat.put (Mat.new hM.out ad _) ad _,?_⟩
      rw[Agt,any_take_succ _ HA.out,ac.out,af.out];simp[*])
  ·have ba:j=x.body.length:=Agm;subst ba;rw[Adz]at ac
   repeat' (first|refine Z1 ?_|(refine Z8 ?_;intro κ hκ)|(refine Z4 ?_;clear hκ κ)|(refine Z2 ?_ ?_<;>intro h ab<;>try exact Xp)|refine Z3 ?_|exact⟨⟩|(apply hκ.out;clear hκ κ))
   exact⟨l.length-(i+1),Agm,i+1,rfl,Agm,by simp,L3 hno.out (by rw[hv.out];exact ac.out)⟩
 ·have bb:i=l.length:=Agm;subst bb
  repeat' (first|refine Z1 ?_|(refine Z8 ?_;intro κ hκ)|(refine Z4 ?_;clear hκ κ)|(refine Z2 ?_ ?_<;>intro h ab<;>try exact Xp)|refine Z3 ?_|exact⟨⟩|(apply hκ.out;clear hκ κ))
  first
  |exact⟨_,rfl,M0,ax.out,by rw[HU.out,Cq hno.out],hK⟩
  |exact⟨_,rfl,M0,ax.out,by rw[HU.out,Cq hno.out]⟩
end Go.Proofs.YtmoeoppbmhfbpabGreatDoorG
