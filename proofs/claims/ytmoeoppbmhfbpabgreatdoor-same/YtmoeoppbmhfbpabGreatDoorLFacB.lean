import Derived.Test.YtmoeoppbmhfbpabGreatDoorLAgrB
import Derived.Test.YtmoeoppbmhfbpabGreatDoorLProgL
import Derived.Test.YtmoeoppbmhfbpabGreatDoorLNegA
import Derived.Test.YtmoeoppbmhfbpabGreatDoorLShelf
set_option maxHeartbeats 64000000
set_option maxRecDepth 100000
set_option linter.all false
namespace Go.Proofs.YtmoeoppbmhfbpabGreatDoorL
open Go.Abs
def L2 (A:List RAtom):List RAtom->Bool
 |[]=>false
 |a::F=>A.any (clash a)||L2 (A++[a]) F
theorem xK {F:List RAtom}:∀{A:List RAtom} {i:Nat} {a:RAtom},F[i]?=some a->(A++F.take i).any (clash a)=true->L2 A F=true:=by
 induction F with
 |nil=>intro A i a h;simp at h
 |cons b F ih=>
  intro A i a h hc;unfold L2;cases i with
  |zero=>
   simp at h hc;subst h;rw[Aik];left;rw[Ahk];exact hc
  |succ i=>
   rw[Aik];right;exact ih (A:=A++[b]) (i:=i) (by simpa using h) (by simpa using hc)
theorem sE {F:List RAtom}:∀{A:List RAtom},(∀(i:Nat) (a:RAtom),F[i]?=some a->(A++F.take i).any (clash a)=false)->L2 A F=false:=by
 induction F with
 |nil=>intro A _;rfl
 |cons b F ih=>
  intro A h;unfold L2;rw[Bool.or_eq_false_iff];refine⟨by simpa using h 0 b rfl,ih fun i a hi=>?_⟩;have:=h (i+1) a (by simpa using hi);simpa using this
theorem cntsOk.put {N:List Tx}{S:List RAtom}{cc:Nat->Int}{a:RAtom}(h:cntsOk N S cc)(hc:Dc S)(hn:S.any (clash a)=false)(ha:a.pred∈N):cntsOk N (S++[a]) (fun j=>if j=N.idxOf a.pred then (a.terms.length:Int)else cc j):=by
 have h0:=h a.pred ha;by_cases e:cc (N.idxOf a.pred)=0
 ·exact (h.step hc ha).1 e
 ·have h1:=(h.step hc ha).2 e;have h2:¬(Fw S a.pred≠0/\Fw S a.pred≠a.terms.length):=fun g=>by rw[<-Na hc a,hn]at g;cases g
  intro p hp;dsimp only;by_cases ep:N.idxOf p=N.idxOf a.pred
  ·rw[if_pos ep,<-h1 p hp,ep];omega
  ·rw[if_neg ep];exact h1 p hp
theorem Uw {l:List RItem}{i:Nat}{x:RItem}(h:l[i]?=some x):Dk l (i+1)=Dg l x i (Ae x).length:=by
 unfold Dk Dg;rw[Agz,h,Aia,List.flatMap_append,Agw];simp[Dk]
theorem Wn {N:List Tx}{l:List RAtom}{cs:List AV}{i:Nat}{a:RAtom}(h:EL (PF N) l cs)(hi:l[i]?=some a):a.pred∈N/\∃ids r,cs.drop (i*2)=ic (N.idxOf a.pred:Nat)::sl ids a.terms.length (Aw a.terms)::r:=by
 obtain⟨c,r,⟨hm,ids,rfl⟩,e⟩:=EL.get nW h hi;exact⟨hm,ids,r,e⟩
theorem Sd (N N':List Tx)(hN:N<+:N')(l:List RItem)(cs:List AV)(idn idi:Nat)(hB:Bk N l cs)(hT:∀S,S<+:l.flatMap Ae->∀a∈l.flatMap Ae,S.any (clash a)=false)(F:List RAtom)(fc:List AV)(idf:Nat)(hF:EL (PF N') F fc)(hFl:F.length<=1000)(bw:∀a∈F,0<a.terms.length/\a.terms.length<=3)(b4:N'.length<=2500)(z:St):
  ACalls Tryz.prog 79 [Bo N idn l idi cs,sl idf F.length fc,ic N'.length] z fun r z'=>r=sc (.bool (L2 (l.flatMap Ae) F))/\Keep z z':=by
 have hE:EL (PI N') l cs:=hB.el.mono (PI.mono hN);have a3:=EL.length De hE;have b2:=EL.length nW hF;have bo:=hB.len;unfold Bo;refine Z9 68 [.tmp 6] Tryz.func79 ?_
 repeat' (first|refine Z1 ?_|(refine Z8 ?_;intro κ hκ)|(refine Z4 ?_;clear hκ κ)|(refine Z2 ?_ ?_<;>intro h ab<;>try exact Xp)|refine Z3 ?_|exact⟨⟩|(apply hκ.out;clear hκ κ))
 refine Af (fun m s z'=>∃(i:Nat) (cc:Nat->Int),m=l.length-i/\i<=l.length/\s 1=sl idf F.length fc/\s 7=fx (z.nobj+1) 0 N'.length/\s 17=sl idi l.length cs/\s 18=ic l.length/\s 19=ic i/\Keep z z'/\z.nobj+1<z'.nobj/\z'.obj (z.nobj+1)=Fv N'.length cc/\Ajs (cntsOk N' (Dk l i) cc)/\Ajs (Dc (Dk l i))) l.length
  ⟨0,fun _=>0,Ajm,Ajm,rfl,?_,rfl,rfl,rfl,Xs,Ajq,?_,?_,by simp[Ajs,Dk,V0]⟩ ?_
 ·simp[upd]
 ·show (if z.nobj+1=z.nobj+1 then _ else _)=_;rw[if_pos rfl];exact Q8 _
 ·intro p hp;simp[Dk,Fw]
 rintro m s z' ⟨i,cc,rfl,hi,h1,h7,a8,a7,a6,hK,ac,ak,hC,hS⟩;have av:=hK.nobj;by_cases ae:i<l.length
 ·have aa:=List.getElem?_eq_getElem ae;have az:=hB.fits l[i] (Ah6 ae);have bb:=hB.out l[i] (Ah6 ae);have ba:=hB.pos l[i] (Ah6 ae);obtain⟨hm,ih,id,b,r,hb,hd⟩:=En hE aa;generalize l[i]=x at hd aa az bb hb hm ba;have HX:Ajs (l[i]?=some x):=aa;clear aa;have b3:=az.atoms
  repeat' (first|refine Z1 ?_|(refine Z8 ?_;intro κ hκ)|(refine Z4 ?_;clear hκ κ)|(refine Z2 ?_ ?_<;>intro h ab<;>try exact Xp)|(refine Z5 ?_;refine Xi (Jf N' x _ (PI.of hm hb) bb (by have:=az.1;omega) _) ?_;rintro _ _ ⟨ida,cs2,rfl,bh,a5⟩;(have am:=a5.obj;have an:=a5.nobj;(try simp only[Aa,Ab,Ah]at an)))|refine Z3 ?_|exact⟨⟩|(apply hκ.out;clear hκ κ))
  rename_i z1;have bu:=EL.length Wo bh;have bg:Keep z z1:=Xs;have ao:z1.obj (z.nobj+1)=Fv N'.length cc:=by
   rw[am _ (by simp only[Aa,Ab];omega),Ai Ajm,Ag ac];exact ak
  clear am
  refine Af (fun m s z'=>∃(j:Nat) (cc:Nat->Int),m=(Ae x).length-j/\j<=(Ae x).length/\s 1=sl idf F.length fc/\s 7=fx (z.nobj+1) 0 N'.length/\s 17=sl idi l.length cs/\s 18=ic l.length/\s 19=ic i/\s 24=sl ida (Ae x).length cs2/\s 25=ic (Ae x).length/\s 26=ic j/\Keep z z'/\z.nobj+1<z'.nobj/\z'.obj (z.nobj+1)=Fv N'.length cc/\Ajs (cntsOk N' (Dg l x i j) cc)/\Ajs (Dc (Dg l x i j))) (Ae x).length
   ⟨0,cc,Ajm,Ajm,Ajn,Ajn,Ajn,Ajn,Ajn,Ajo,rfl,rfl,bg,Ajm,ao,by simpa[Dg]using hC,by simpa[Dg]using hS⟩ ?_
  clear ao hK ak hC hS a5 an av h1 h7 a8 a7 a6 ac cc bg;rintro m s z' ⟨j,cc,rfl,hj,h1,h7,a8,a7,a6,ca,b9,b8,hK,ac,ak,hC,hS⟩;have av:=hK.nobj;by_cases ai:j<(Ae x).length
  ·have aa:=List.getElem?_eq_getElem ai;have aj:=ba (Ae x)[j] (Ah6 ai);have ah:=Ah6 ai;obtain⟨ha,ia,r2,bc⟩:=qS bh aa;generalize (Ae x)[j]=a at bc aa ha aj ah
   have ad:(Dg l x i j).any (clash a)=false:=hT _ (by
    unfold Dg Dk;have e1:l=l.take i++x::l.drop (i+1):=by
     obtain⟨h1,h2⟩:=List.getElem?_eq_some_iff.1 HX.out;rw[<-h2];exact (Aiv i l).symm.trans (by rw[Ahl h1])
    conv=>rhs;rw[e1]
    rw[List.flatMap_append,Ah3]
    exact (List.prefix_append_right_inj _).2 ((List.take_prefix j _).trans (List.prefix_append _ _))) a (Ahr.2 ⟨x,Agp HX.out,ah⟩)
   have HN:Ajs (cntsOk N' (Dg l x i (j+1)) (fun q=>if q=N'.idxOf a.pred then (a.terms.length:Int)else cc q)/\Dc (Dg l x i (j+1))):=by
    rw[Ajs,Ih aa];exact⟨hC.out.put hS.out ad ha,Hd hS.out aj ad⟩
   have ap:=Ah9 ha;have af:=fun v=>P3 (n:=N'.length) (i:=N'.idxOf a.pred) cc v;have bn:=I4 N'.length cc;clear aa ad ah;generalize N'.idxOf a.pred=ix at bc ap af HN
   repeat' (first|refine Z1 ?_|(refine Z8 ?_;intro κ hκ)|(refine Z4 ?_;clear hκ κ)|(refine Z2 ?_ ?_<;>intro h ab<;>try exact Xp)|refine Z3 ?_|exact⟨⟩|(apply hκ.out;clear hκ κ))
   refine⟨(Ae x).length-(j+1),Ajm,j+1,fun q=>if q=ix then (a.terms.length:Int)else cc q,?_⟩
   ((repeat' with_reducible refine And.intro ?_ ?_)<;>first|exact Xq|exact (HN.out.1)|exact (HN.out.2)|exact (((hK.new _).put hK.nobj _).put Ajm _)|exact (af _)|exact Xs)
  ·have bq:j=(Ae x).length:=Ajm;subst bq;have HN:Ajs (cntsOk N' (Dk l (i+1)) cc/\Dc (Dk l (i+1))):=by
    rw[Ajs,Uw HX.out];exact⟨hC.out,hS.out⟩
   repeat' (first|refine Z1 ?_|(refine Z8 ?_;intro κ hκ)|(refine Z4 ?_;clear hκ κ)|(refine Z2 ?_ ?_<;>intro h ab<;>try exact Xp)|refine Z3 ?_|exact⟨⟩|(apply hκ.out;clear hκ κ))
   refine⟨l.length-(i+1),Ajm,i+1,cc,?_⟩
   ((repeat' with_reducible refine And.intro ?_ ?_)<;>first|exact Xq|exact (HN.out.1)|exact (HN.out.2)|exact Xs)
 ·have hil:i=l.length:=Ajm;subst hil;have e0:Dk l l.length=l.flatMap Ae:=by simp[Dk]
  rw[e0]at hC hS;generalize l.flatMap Ae=A at hC hS
  repeat' (first|refine Z1 ?_|(refine Z8 ?_;intro κ hκ)|(refine Z4 ?_;clear hκ κ)|(refine Z2 ?_ ?_<;>intro h ab<;>try exact Xp)|refine Z3 ?_|exact⟨⟩|(apply hκ.out;clear hκ κ))
  refine Af (fun m s z'=>∃(k:Nat) (cc:Nat->Int),m=F.length-k/\k<=F.length/\s 7=fx (z.nobj+1) 0 N'.length/\s 39=sl idf F.length fc/\s 40=ic F.length/\s 41=ic k/\Keep z z'/\z.nobj+1<z'.nobj/\z'.obj (z.nobj+1)=Fv N'.length cc/\Ajs (cntsOk N' (A++F.take k) cc/\Dc (A++F.take k)/\∀(i:Nat) (a:RAtom),i<k->F[i]?=some a->(A++F.take i).any (clash a)=false)) F.length
   ⟨0,cc,Ajm,Ajm,Ajn,Ajn,Ajn,Ajo,hK,ac,ak,by simpa using hC.out,by simpa using hS.out,fun i a hi=>Ajm⟩ ?_
  clear h1 h7 a8 a7 a6 hK ac ak hC hS av cc ae;rintro m s z' ⟨k,cc,rfl,hk,h7,b7,b6,b5,hK,ac,ak,hC⟩;have av:=hK.nobj;by_cases ae:k<F.length
  ·have aa:=List.getElem?_eq_getElem ae;obtain⟨ha,ids,r,hd⟩:=Wn hF aa;have aj:=bw _ (Ah6 ae);generalize F[k]=a at hd aa ha aj;obtain⟨c1,c2,c3⟩:=hC.out;have HG:Ajs (F[k]?=some a):=aa;have ax:Ajs (A++F.take (k+1)=A++F.take k++[a]):=by rw[Ajs,Agz,aa,Aia,Ahc]
   have ap:=Ah9 ha;have aw:=c1.step c2 ha;have a0:=c1 a.pred ha;have bd:=Fu cc ap;have af:=fun v=>P3 (n:=N'.length) (i:=N'.idxOf a.pred) cc v;have bn:=I4 N'.length cc;have a3:=Na c2 a;have bm:Ajs (((A++F.take k).any (clash a)=false)->∀(i:Nat) (b:RAtom),i<k+1->F[i]?=some b->(A++F.take i).any (clash b)=false):=fun hh i b hi hb=>by
    by_cases e:i=k
    ·subst e;rw[HG.out]at hb;cases hb;exact hh
    ·exact c3 i b Ajm hb
   generalize bv:cc (N'.idxOf a.pred)=c at bd aw a0;clear bv aa c1 c3 hC;generalize N'.idxOf a.pred=ix at hd bd ap aw af;have bl:Ajs _:=c2;have bi:Ajs _:=aw;have ay:Ajs _:=a0;have a9:Ajs _:=a3;clear aw a0 a3 c2;by_cases au:(c==0)=true
   ·have b1:((Fv N'.length cc).set ix (sc (.int .i64 a.terms.length)))[ix]?=some (sc (.int .i64 a.terms.length)):=by rw[af,Fu _ ap];simp
    have b0:((a.terms.length:Int) !=a.terms.length)=false:=by simp
    have be:c=0:=by simpa using au
    have bz:Ajs _:=af;have ad:(A++F.take k).any (clash a)=false:=by
     cases hq:(A++F.take k).any (clash a)with
     |false=>rfl
     |true=>exfalso;have h1:=(a9.out.1 hq).1;have h2:=ay.out;omega
    have HN:Ajs (cntsOk N' (A++F.take (k+1)) (fun j=>if j=ix then (a.terms.length:Int)else cc j)/\Dc (A++F.take (k+1))/\∀(i:Nat) (b:RAtom),i<k+1->F[i]?=some b->(A++F.take i).any (clash b)=false):=by
     refine⟨?_,?_,bm.out ad⟩
     ·rw[ax.out];exact bi.out.1 be
     ·rw[ax.out];exact Hd bl.out aj.1 ad
    clear af ad be
    repeat' (first|refine Z1 ?_|(refine Z8 ?_;intro κ hκ)|(refine Z4 ?_;clear hκ κ)|(refine Z2 ?_ ?_<;>intro h ab<;>try exact Xp)|refine Z3 ?_|exact⟨⟩|(apply hκ.out;clear hκ κ))
    refine A9 Aj (fun _=>True) [8] [0,1,2,3,4,5,6,7] [8] Ajp (fun _ _ _ h=>h) ?_;intro κ hκ;refine Z3 ?_
    repeat' (first|refine Z1 ?_|(refine Z8 ?_;intro κ hκ)|(refine Z4 ?_;clear hκ κ)|(refine Z2 ?_ ?_<;>intro h ab<;>try exact Xp)|refine Z3 ?_|exact⟨⟩|(apply hκ.out;clear hκ κ))
    refine⟨F.length-(k+1),Ajm,k+1,fun j=>if j=ix then (a.terms.length:Int)else cc j,?_⟩
    ((repeat' with_reducible refine And.intro ?_ ?_)<;>first|exact Xq|exact (HN)|exact (((hK.new _).put hK.nobj _).put Ajm _)|exact (bz.out _)|exact Xs)
   ·have au:(c==0)=false:=by simpa using au
    clear af
    repeat' (first|refine Z1 ?_|(refine Z8 ?_;intro κ hκ)|(refine Z4 ?_;clear hκ κ)|(refine Z2 ?_ ?_<;>intro h ab<;>try exact Xp)|refine Z3 ?_|exact⟨⟩|(apply hκ.out;clear hκ κ))
    refine A9 Aj (fun _=>True) [8] [0,1,2,3,4,5,6,7] [8] Ajp (fun _ _ _ h=>h) ?_;intro κ hκ;refine Z3 ?_
    repeat' (first|refine Z1 ?_|(refine Z8 ?_;intro κ hκ)|(refine Z4 ?_;clear hκ κ)|(refine Z2 ?_ ?_<;>intro h ab<;>try exact Xp)|refine Z3 ?_|exact⟨⟩|(apply hκ.out;clear hκ κ))
    ·have a4:c≠0:=by simpa using au
     have bf:c≠a.terms.length:=by simpa using h
     have br:=a9.out.2 ⟨by have:=ay.out;omega,by have:=ay.out;omega⟩;exact⟨_,rfl,by rw[xK HG.out br],(hK.new _).put hK.nobj _⟩
    ·have a4:c≠0:=by simpa using au
     have bf:c=a.terms.length:=by simpa using h
     have ad:(A++F.take k).any (clash a)=false:=by
      cases hq:(A++F.take k).any (clash a)with
      |false=>rfl
      |true=>exfalso;have h1:=(a9.out.1 hq).2;have h2:=ay.out;omega
     have HN:Ajs (cntsOk N' (A++F.take (k+1)) cc/\Dc (A++F.take (k+1))/\∀(i:Nat) (b:RAtom),i<k+1->F[i]?=some b->(A++F.take i).any (clash b)=false):=by
      refine⟨?_,?_,bm.out ad⟩
      ·rw[ax.out];exact bi.out.2 a4
      ·rw[ax.out];exact Hd bl.out aj.1 ad
     clear bf a4 ad;refine⟨F.length-(k+1),Ajm,k+1,cc,?_⟩
     ((repeat' with_reducible refine And.intro ?_ ?_)<;>first|exact Xq|exact (HN)|exact ((hK.new _).put hK.nobj _)|exact Xs)
  ·have bp:k=F.length:=Ajm;subst bp;have hz:L2 A F=false:=sE fun i a hi=>hC.out.2.2 i a (List.getElem?_eq_some_iff.1 hi).1 hi;rw[hz]
   repeat' (first|refine Z1 ?_|(refine Z8 ?_;intro κ hκ)|(refine Z4 ?_;clear hκ κ)|(refine Z2 ?_ ?_<;>intro h ab<;>try exact Xp)|refine Z3 ?_|exact⟨⟩|(apply hκ.out;clear hκ κ))
   first|exact⟨_,rfl,rfl,hK⟩|exact⟨_,rfl,rfl⟩
def Lw (N:List Tx)(l:List RItem)(k:Nat):Bool:=l.any fun x=>!x.out&&decide (N.idxOf x.head.pred=k)
theorem cS {α:Type}{l:List α}{f:α->Bool}{i:Nat}{x:α}(h:(l.take i).any f=false)(hi:l[i]?=some x)(hx:f x=false):(l.take (i+1)).any f=false:=by
 rw[Agz,hi,Aia,Aiz,h];simp[hx]
theorem Adp {α:Type}{l:List α}{f:α->Bool}{i:Nat}{x:α}(hi:l[i]?=some x)(hx:f x=true):l.any f=true:=Ahk.2 ⟨x,Agp hi,hx⟩
theorem fF (N:List Tx)(l:List RItem)(cs:List AV)(nm:AV)(aj:flat nm=true)(idi k:Nat)(hE:EL (PI N) l cs)(hl:l.length<=1000)(z:St):ACalls Tryz.prog 134 [ag [nm,sl idi l.length cs],sc (.int .i64 k)] z fun r z'=>r=sc (.bool (Lw N l k))/\Keep z z':=by
 have ak:=EL.length De hE;refine Z9 25 [.tmp 4] Tryz.func134 ?_
 repeat' (first|refine Z1 ?_|(refine Z8 ?_;intro κ hκ)|(refine Z4 ?_;clear hκ κ)|(refine Z2 ?_ ?_<;>intro h ab<;>try exact Xp)|refine Z3 ?_|exact⟨⟩|(apply hκ.out;clear hκ κ))
 refine Af (fun m s z'=>∃(i:Nat),m=l.length-i/\i<=l.length/\s 1=sc (.int .i64 k)/\s 8=sl idi l.length cs/\s 9=sc (.int .i64 l.length)/\s 10=sc (.int .i64 i)/\Keep z z'/\Ajs (Lw N (l.take i) k=false)) l.length
  ⟨0,Ajm,Ajm,rfl,Ajo,Ajo,rfl,Xs,by simp[Ajs,Lw]⟩ ?_
 rintro m s z' ⟨i,rfl,hi,h1,h8,h9,am,hK,hA⟩;have ai:=hK.nobj;by_cases af:i<l.length
 ·have aa:=List.getElem?_eq_getElem af;obtain⟨ae,ih,id,b,r,ah,hd⟩:=En hE aa;generalize l[i]=x at hd aa ae ah;cases ac:x.out with
  |true=>
   rw[ac]at hd;have HA:Ajs (Lw N (l.take (i+1)) k=false):=cS hA.out aa (by simp[ac]);clear aa hA ac
   repeat' (first|refine Z1 ?_|(refine Z8 ?_;intro κ hκ)|(refine Z4 ?_;clear hκ κ)|(refine Z2 ?_ ?_<;>intro h ab<;>try exact Xp)|refine Z3 ?_|exact⟨⟩|(apply hκ.out;clear hκ κ))
   refine⟨l.length-(i+1),Ajm,i+1,?_⟩
   ((repeat' with_reducible refine And.intro ?_ ?_)<;>first|exact Xq|exact (HA)|exact Xs)
  |false=>
   rw[ac]at hd;by_cases hk:N.idxOf x.head.pred=k
   ·have ad:(((N.idxOf x.head.pred:Nat):Int)==(k:Int))=true:=by simp[hk]
    have HA:Ajs (Lw N l k=true):=Adp aa (by simp[ac,hk]);clear aa hA ac hk;generalize N.idxOf x.head.pred=ix at hd ad
    repeat' (first|refine Z1 ?_|(refine Z8 ?_;intro κ hκ)|(refine Z4 ?_;clear hκ κ)|(refine Z2 ?_ ?_<;>intro h ab<;>try exact Xp)|refine Z3 ?_|exact⟨⟩|(apply hκ.out;clear hκ κ))
    exact⟨_,rfl,by rw[HA.out],Xs⟩
   ·have ad:(((N.idxOf x.head.pred:Nat):Int)==(k:Int))=false:=by simpa using (by omega:¬((N.idxOf x.head.pred:Nat):Int)=k)
    have HA:Ajs (Lw N (l.take (i+1)) k=false):=cS hA.out aa (by simp[hk]);clear aa hA ac hk;generalize N.idxOf x.head.pred=ix at hd ad
    repeat' (first|refine Z1 ?_|(refine Z8 ?_;intro κ hκ)|(refine Z4 ?_;clear hκ κ)|(refine Z2 ?_ ?_<;>intro h ab<;>try exact Xp)|refine Z3 ?_|exact⟨⟩|(apply hκ.out;clear hκ κ))
    refine⟨l.length-(i+1),Ajm,i+1,?_⟩
    ((repeat' with_reducible refine And.intro ?_ ?_)<;>first|exact Xq|exact (HA)|exact Xs)
 ·have hil:i=l.length:=Ajm;subst hil;have hA:=hA.out;rw[Agw]at hA;rw[hA]
  repeat' (first|refine Z1 ?_|(refine Z8 ?_;intro κ hκ)|(refine Z4 ?_;clear hκ κ)|(refine Z2 ?_ ?_<;>intro h ab<;>try exact Xp)|refine Z3 ?_|exact⟨⟩|(apply hκ.out;clear hκ κ))
  first|exact⟨_,rfl,rfl,hK⟩|exact⟨_,rfl,rfl⟩
theorem Xz (N N':List Tx)(hN:N<+:N')(l:List RItem)(cs:List AV)(idn idi:Nat)(hB:Bk N l cs)(F:List RAtom)(fc:List AV)(idf:Nat)(hF:EL (PF N') F fc)(hFl:F.length<=1000)(z:St):
  ACalls Tryz.prog 80 [Bo N idn l idi cs,sl idf F.length fc] z fun r z'=>r=sc (.bool (F.any fun a=>Lw N' l (N'.idxOf a.pred)))/\Keep z z':=by
 have hE:EL (PI N') l cs:=hB.el.mono (PI.mono hN);have ao:=EL.length nW hF;have ai:=hB.len;have ak:=fun (k:Nat) z=>fF N' l cs (sl idn N.length (N.map str)) rfl idi k hE Ajm z;unfold Bo;refine Z9 18 [.tmp 4] Tryz.func80 ?_
 repeat' (first|refine Z1 ?_|(refine Z8 ?_;intro κ hκ)|(refine Z4 ?_;clear hκ κ)|(refine Z2 ?_ ?_<;>intro h ac<;>try exact Xp)|refine Z3 ?_|exact⟨⟩|(apply hκ.out;clear hκ κ))
 refine Af (fun m s z'=>∃(k:Nat),m=F.length-k/\k<=F.length/\s 2=ptr z.nobj 0/\s 7=sl idf F.length fc/\s 8=ic F.length/\s 9=ic k/\Keep z z'/\z.nobj<z'.nobj/\z'.obj z.nobj=[sl idn N.length (N.map str),sl idi l.length cs]/\Ajs ((F.take k).any (fun a=>Lw N' l (N'.idxOf a.pred))=false)) F.length
  ⟨0,Ajm,Ajm,Ajo,by simp[upd,initS],Ajo,rfl,Xs,Ajq,by rw[Ap],by simp[Ajs]⟩ ?_
 rintro m s z' ⟨k,rfl,hk,h2,h7,h8,h9,hK,an,ob,hA⟩;have am:=hK.nobj;by_cases ah:k<F.length
 ·have aa:=List.getElem?_eq_getElem ah;obtain⟨ha,ids,r,hd⟩:=Wn hF aa;generalize F[k]=a at hd aa ha;have af:=ak (N'.idxOf a.pred);have HT:Ajs (Lw N' l (N'.idxOf a.pred)=true->F.any (fun a=>Lw N' l (N'.idxOf a.pred))=true):=fun h=>Adp aa h;have HF:Ajs (Lw N' l (N'.idxOf a.pred)=false->(F.take (k+1)).any (fun a=>Lw N' l (N'.idxOf a.pred))=false):=fun h=>cS hA.out aa h;clear aa hA;generalize N'.idxOf a.pred=ix at hd af HT HF
  repeat' (first|refine Z1 ?_|(refine Z8 ?_;intro κ hκ)|(refine Z4 ?_;clear hκ κ)|(refine Z2 ?_ ?_<;>intro h ac<;>try exact Xp)|(refine Z5 ?_;refine Xi (af _) ?_;rintro _ _ ⟨rfl,ae⟩;(have ad:=ae.nobj;have ab:=ae.obj;simp only[Ab,Aa]at ad ab;have ap:=((hK.new _).put hK.nobj _).trans ae))|refine Z3 ?_|exact⟨⟩|(apply hκ.out;clear hκ κ))
  ·exact⟨_,rfl,by rw[HT.out (by assumption)]⟩
  ·have HA:Ajs ((F.take (k+1)).any (fun a=>Lw N' l (N'.idxOf a.pred))=false):=HF.out (by assumption);refine⟨F.length-(k+1),Ajm,k+1,?_⟩
   ((repeat' with_reducible refine And.intro ?_ ?_)<;>first|exact Xq|exact (HA)|exact (by rw[ab _ Ajm,Ai Ajm,Ag Ajm,ob])|exact Xs)
 ·have aj:k=F.length:=Ajm;subst aj;have hA:=hA.out;rw[Agw]at hA;rw[hA]
  repeat' (first|refine Z1 ?_|(refine Z8 ?_;intro κ hκ)|(refine Z4 ?_;clear hκ κ)|(refine Z2 ?_ ?_<;>intro h ac<;>try exact Xp)|refine Z3 ?_|exact⟨⟩|(apply hκ.out;clear hκ κ))
  first|exact⟨_,rfl,rfl,hK⟩|exact⟨_,rfl,rfl⟩
def bE (l:List RItem)(p:Tx):Bool:=l.any fun x=>!x.out&&decide (x.head.pred=p)
theorem wI {N:List Tx}{l:List RItem}(hN:∀x∈l,x.head.pred∈N){p:Tx}(hp:p∈N):Lw N l (N.idxOf p)=bE l p:=by
 unfold Lw bE;rw[Ah7,Ahk,Ahk];constructor
 ·rintro⟨x,hx,h⟩;simp only[Ags,Ajj]at h;exact⟨x,hx,by simp only[Ags,Ajj];exact⟨h.1,C2 (hN x hx) hp h.2⟩⟩
 ·rintro⟨x,hx,h⟩;simp only[Ags,Ajj]at h;exact⟨x,hx,by simp only[Ags,Ajj];exact⟨h.1,by rw[h.2]⟩⟩
theorem zX {α:Type}{l:List α}{f g:α->Bool}(h:∀a∈l,f a=g a):l.any f=l.any g:=by
 rw[Ah7,Ahk,Ahk];exact⟨fun⟨a,ha,e⟩=>⟨a,ha,by rw[<-h a ha];exact e⟩,fun⟨a,ha,e⟩=>⟨a,ha,by rw[h a ha];exact e⟩⟩
def Hp (l:List RItem)(t:Tx):Int:=match C0 400 t with
 |.bad _=>7
 |.got F _=>if L2 (l.flatMap Ae) F=true then 3 else if F.any (fun a=>bE l a.pred)=true then 8 else 0
theorem Jg:∀(n:Nat) (s:Tx) (F:List RAtom) (r:Tx),C0 n s= .got F r->r=[]/\F.length<=n/\s=F.flatMap (fun a=>A7 a++[46])/\∀a∈F,D2 a/\a.nt=false/\fC a=true
 |n,[],F,r,h=>by
  rw[N9]at h;cases h;simp
 |0,b::s,F,r,h=>by cases h
 |n+1,b::s,F,r,h=>by
  rw[Jh]at h;cases h1:J4 (b::s)with
  |bad e=>rw[h1]at h;cases h
  |got x r1=>
   rw[h1]at h;simp only[Rd.bnd]at h;cases h2:C0 n r1 with
   |bad e=>rw[h2]at h;cases h
   |got xs r2=>
    rw[h2]at h;cases h;obtain⟨e1,e2,e3,e4⟩:=Jg n r1 xs r h2;obtain⟨f1,f2,f3,f4⟩:=U5 h1;refine⟨e1,by simp;omega,?_,fun a ha=>?_⟩
    ·rw[f1,e3];simp
    ·rcases Ahm.1 ha with rfl|ha
     ·exact⟨f2,f3,f4⟩
     ·exact e4 a ha
theorem Vj (N:List Tx)(l:List RItem)(cs:List AV)(idn idi:Nat)(hB:Bk N l cs)(b0:N.length<=600)(hT:∀S,S<+:l.flatMap Ae->∀a∈l.flatMap Ae,S.any (clash a)=false)(t:Tx)(ht:t.length<=400)(z:St):
  ACalls Tryz.prog 48 [Bo N idn l idi cs,str t] z fun r z'=>∃(idf n np:Nat) (fc:List AV),r=tp [sl idf n fc,ic np,ic (Hp l t)]/\Keep z z'/\(Hp l t=0->∃F N',C0 400 t= .got F []/\n=F.length/\np=N'.length/\N<+:N'/\N'.length<=1000/\EL (PF N') F fc):=by
 have br:=hB.len;have bz:(N.map str).length=N.length:=by simp
 have ao:=fun N' hN F fc idf hF h1 h2 h3 z=>Sd N N' hN l cs idn idi hB hT F fc idf hF h1 h2 h3 z;have au:=fun N' hN F fc idf hF h1 z=>Xz N N' hN l cs idn idi hB F fc idf hF h1 z;have bm:∀x∈l,x.head.pred∈N:=fun x hx=>by
  obtain⟨i,hi⟩:=List.getElem?_of_mem hx;exact (En hB.el hi).1
 unfold Bo at ao au⊢;refine Z9 47 [.tmp 4,.tmp 5,.tmp 6] Tryz.func48 ?_
 repeat' (first|refine Z1 ?_|(refine Z8 ?_;intro κ hκ)|(refine Z4 ?_;clear hκ κ)|(refine Z2 ?_ ?_<;>intro h ae<;>try exact Xp)|(refine Z6 ?_;intro idn zn ax az ah ab af aa)|refine Z3 ?_|exact⟨⟩|(apply hκ.out;clear hκ κ))
 refine Af (fun m s z'=>∃(i i3:Nat),m=N.length-i/\i<=N.length/\s 2=ptr z.nobj 0/\s 7=ptr (z.nobj+1) 0/\s 15=sl idn N.length (N.map str)/\s 16=ic N.length/\s 17=ic i/\Keep z z'/\z.nobj+1<z'.nobj/\z'.obj z.nobj=[sl idn N.length (N.map str),sl idi l.length cs]/\z'.obj (z.nobj+1)=[str t,ic 0,sl i3 i ((N.take i).map str)]/\Own z z' i3 i) N.length
  ⟨0,1,Ajm,Ajm,Ajo,Ajo,Ajo,Ajo,rfl,Xs,Ajr,?_,?_,Own.nil _ _⟩ ?_
 ·rw[Ai Ajm,Ag Ajq,Ap]
 ·rw[Ak];simp
 rintro m s z' ⟨i,i3,rfl,hi,h2,h7,b4,b3,b2,hK,bq,bc,ba,hO⟩;have bw:=hK.nobj;by_cases bl:i<N.length
 ·have aw:=List.getElem?_eq_getElem bl;have bu:(N.map str).drop i=str N[i]::(N.map str).drop (i+1):=by
   rw[Ahl (by simpa using bl)];simp
  generalize N[i]=w at aw bu;have HX:Ajs ((N.take i).map str++[str w]=(N.take (i+1)).map str):=by rw[Ajs,Agz,aw];simp
  have bp:((N.take i).map str).length=i*1:=by simp;omega
  clear aw;generalize (N.take i).map str=xs at ba HX bp
  repeat' (first|refine Z1 ?_|(refine Z8 ?_;intro κ hκ)|(refine Z4 ?_;clear hκ κ)|(refine Z2 ?_ ?_<;>intro h ae<;>try exact Xp)|(refine Z6 ?_;intro idn zn ax az ah ab af aa)|refine Z3 ?_|exact⟨⟩|(apply hκ.out;clear hκ κ))
  refine⟨N.length-(i+1),Ajm,i+1,idn,?_⟩;exact⟨rfl,Ajm,by simp,az.put Ajm _,by rw[<-HX.out],Own.put ax _ _⟩
 ·have hil:i=N.length:=Ajm;subst hil;rw[Agw]at ba;have bn:RS N.length t (z.nobj+1) N i3 t z':=by
   refine⟨by rw[ba];simp[Le,R9],bq,?_,Ah2 _,Ajm,Ajm⟩;rcases hO with e|⟨k,e1,e2,e3,e4,e5⟩
   ·exact .inl e
   ·exact .inr ⟨k,e1,e3,e4,e5⟩
  have hid:i3<2\/z.ntop+2<=i3:=by
   rcases hO with e|⟨k,e1,e2,e3,e4,e5⟩<;>omega
  have hR:=fM (Bd:=N.length) ht bn;clear bn ba hO hi;cases hp:C0 400 t with
  |bad e=>
   have a3:Hp l t=7:=by unfold Hp;rw[hp]
   rw[hp]at hR;simp only[Rd.ok,Rd.Val]at hR;rw[a3];clear hp a3 ao au
   repeat' (first|refine Z1 ?_|(refine Z8 ?_;intro κ hκ)|(refine Z4 ?_;clear hκ κ)|(refine Z2 ?_ ?_<;>intro h ae<;>try exact Xp)|(refine Z6 ?_;intro idn zn ax az ah ab af aa)|(refine Z5 ?_;refine Xi (hR) ?_;rintro _ _ ⟨n,ids,c,N2,id2,r2,rfl,ac,ak,ai,-⟩;(have av:=ac.keep.nobj;have ay:=KeepR.keep hK ac.keep Ajm hid))|refine Z3 ?_|exact⟨⟩|(apply hκ.out;clear hκ κ))
   first|exact⟨_,rfl,1,0,0,[],rfl,ay,fun h=>by simp at h⟩|exact⟨_,rfl,1,0,0,[],rfl,fun h=>by simp at h⟩
  |got F r0=>
   obtain⟨rfl,hFl,-,bg⟩:=Jg _ _ _ _ hp;rw[hp]at hR;simp only[Rd.ok,Rd.Val]at hR;have a3:Hp l t=if L2 (l.flatMap Ae) F=true then 3 else if F.any (fun a=>bE l a.pred)=true then 8 else 0:=by unfold Hp;rw[hp]
   rw[a3]
   have bv:∀a∈F,0<a.terms.length/\a.terms.length<=3:=fun a ha=>⟨by
    have:=(bg a ha).1.2.1;cases hh:a.terms with
    |nil=>exact absurd hh this
    |cons y ys=>simp,(bg a ha).1.2.2.1⟩
   have a8:F.length<=1000:=Ajm;have HP:Ajs _:=hp;clear hp a3 bg;generalize b1:l.flatMap Ae=A at*
   have a5:=fun N' hN fc idf hF=>ao N' hN F fc idf hF a8 bv;have bi:=fun N' hN fc idf hF=>au N' hN F fc idf hF a8;clear ao au;cases an:L2 A F with
   |true=>
    simp only[an]at a5;simp only[if_true];clear bi an
    repeat' (first|refine Z1 ?_|(refine Z8 ?_;intro κ hκ)|(refine Z4 ?_;clear hκ κ)|(refine Z2 ?_ ?_<;>intro h ae<;>try exact Xp)|(refine Z6 ?_;intro idn zn ax az ah ab af aa)|(refine Z5 ?_;first|(refine Xi (hR) ?_;rintro _ _ ⟨n,ids,c,N2,id2,r2,rfl,ac,ak,ai,⟨rfl,am⟩⟩;(have av:=ac.keep.nobj;have ay:=KeepR.keep hK ac.keep Ajm hid;have ad:=ak.obj;unfold Le R9 at ad;have aj:=ac.keep.obj z.nobj Ajm Ajm;rw[bc]at aj;have a4:=fun z=>a5 N2 ai c ids am (by have:=ak.len;omega) z))|(refine Xi (a4 _) ?_;rintro _ _ ⟨rfl,ap⟩;(have a6:=ay.trans ap)))|refine Z3 ?_|exact⟨⟩|(apply hκ.out;clear hκ κ))
    first|exact⟨_,rfl,1,0,0,[],rfl,a6,fun h=>by simp at h⟩|exact⟨_,rfl,1,0,0,[],rfl,fun h=>by simp at h⟩
   |false=>
    simp only[an]at a5;simp only[Ahg,if_false];clear an;cases bb:F.any (fun a=>bE l a.pred)with
    |true=>
     have bh:∀(N2:List Tx),N<+:N2->∀(fc:List AV) (idf:Nat),EL (PF N2) F fc->F.any (fun a=>Lw N2 l (N2.idxOf a.pred))=true:=fun N2 hP fc idf hE=>by
      rw[<-bb];refine zX fun a ha=>wI (fun x hx=>hP.subset (bm x hx)) ?_;obtain⟨i,hi⟩:=List.getElem?_of_mem ha;exact (Wn hE hi).1
     simp only[if_true];clear bb
     repeat' (first|refine Z1 ?_|(refine Z8 ?_;intro κ hκ)|(refine Z4 ?_;clear hκ κ)|(refine Z2 ?_ ?_<;>intro h ae<;>try exact Xp)|(refine Z6 ?_;intro idn zn ax az ah ab af aa)|(refine Z5 ?_;first|(refine Xi (hR) ?_;rintro _ _ ⟨n,ids,c,N2,id2,r2,rfl,ac,ak,ai,⟨rfl,am⟩⟩;(have av:=ac.keep.nobj;have ay:=KeepR.keep hK ac.keep Ajm hid;have ad:=ak.obj;unfold Le R9 at ad;have aj:=ac.keep.obj z.nobj Ajm Ajm;rw[bc]at aj;have a4:=fun z=>a5 N2 ai c ids am (by have:=ak.len;omega) z;have a9:=fun z=>bi N2 ai c ids am z;rw[bh N2 ai c ids am]at a9))|(refine Xi (a4 _) ?_;rintro _ _ ⟨rfl,ap⟩;(have a6:=ay.trans ap;have a0:=ap.obj;have be:=ap.nobj))|(refine Xi (a9 _) ?_;rintro _ _ ⟨rfl,a7⟩;(have bf:=a6.trans a7)))|refine Z3 ?_|exact⟨⟩|(apply hκ.out;clear hκ κ))
     first|exact⟨_,rfl,1,0,0,[],rfl,bf,fun h=>by simp at h⟩|exact⟨_,rfl,1,0,0,[],rfl,fun h=>by simp at h⟩
    |false=>
     have bh:∀(N2:List Tx),N<+:N2->∀(fc:List AV) (idf:Nat),EL (PF N2) F fc->F.any (fun a=>Lw N2 l (N2.idxOf a.pred))=false:=fun N2 hP fc idf hE=>by
      rw[<-bb];refine zX fun a ha=>wI (fun x hx=>hP.subset (bm x hx)) ?_;obtain⟨i,hi⟩:=List.getElem?_of_mem ha;exact (Wn hE hi).1
     simp only[Ahg,if_false];clear bb
     repeat' (first|refine Z1 ?_|(refine Z8 ?_;intro κ hκ)|(refine Z4 ?_;clear hκ κ)|(refine Z2 ?_ ?_<;>intro h ae<;>try exact Xp)|(refine Z6 ?_;intro idn zn ax az ah ab af aa)|(refine Z5 ?_;first|(refine Xi (hR) ?_;rintro _ _ ⟨n,ids,c,N2,id2,r2,rfl,ac,ak,ai,⟨rfl,am⟩⟩;(have av:=ac.keep.nobj;have ay:=KeepR.keep hK ac.keep Ajm hid;have ad:=ak.obj;unfold Le R9 at ad;have aj:=ac.keep.obj z.nobj Ajm Ajm;rw[bc]at aj;have a4:=fun z=>a5 N2 ai c ids am (by have:=ak.len;omega) z;have a9:=fun z=>bi N2 ai c ids am z;rw[bh N2 ai c ids am]at a9))|(refine Xi (a4 _) ?_;rintro _ _ ⟨rfl,ap⟩;(have a6:=ay.trans ap;have a0:=ap.obj;have be:=ap.nobj))|(refine Xi (a9 _) ?_;rintro _ _ ⟨rfl,a7⟩;(have bf:=a6.trans a7;have bd:=a7.obj;have bo:=a7.nobj)))|refine Z3 ?_|exact⟨⟩|(apply hκ.out;clear hκ κ))
     rename_i z1 _ z3 _ z4;have o7:z4.obj (z.nobj+1)=[str t,ic ((t.length-r2.length:Nat):Int),sl id2 N2.length (N2.map str)]:=by rw[bd _ Ajm,a0 _ Ajm];exact ad
     refine A9 Aj (fun _=>True) [] [0,1,2,3,4,5,6] [] Ajp (fun _ _ _ h=>h) ?_;intro κ hκ
     repeat' (first|refine Z1 ?_|(refine Z8 ?_;intro κ hκ)|(refine Z4 ?_;clear hκ κ)|(refine Z2 ?_ ?_<;>intro h ae<;>try exact Xp)|(refine Z6 ?_;intro idn zn ax az ah ab af aa)|refine Z3 ?_|exact⟨⟩|(apply hκ.out;clear hκ κ))
     first|exact⟨_,rfl,ids,F.length,N2.length,c,rfl,bf,fun _=>⟨F,N2,rfl,rfl,rfl,ai,by have:=ak.len;omega,am⟩⟩|exact⟨_,rfl,ids,F.length,N2.length,c,rfl,fun _=>⟨F,N2,rfl,rfl,rfl,ai,by have:=ak.len;omega,am⟩⟩
def Fp:List Int->List Int->Bool
 |x::t,y::u=>if x=y then Fp t u else decide (x<y)
 |_,_=>false
theorem yC {t u:List Int}{i:Nat}{x y:Int}(ht:t[i]?=some x)(hu:u[i]?=some y):Fp (t.drop i) (u.drop i)=if x=y then Fp (t.drop (i+1)) (u.drop (i+1))else decide (x<y):=by
 obtain⟨h1,e1⟩:=List.getElem?_eq_some_iff.1 ht;obtain⟨h2,e2⟩:=List.getElem?_eq_some_iff.1 hu;rw[Ahl h1,Ahl h2,e1,e2];rfl
theorem Pr:∀{t u:List Int},Fp t u=true->Fp u t=false
 |[],_,h=>by simp[Fp]at h
 |_::_,[],h=>by simp[Fp]at h
 |x::t,y::u,h=>by
  unfold Fp at h⊢;by_cases e:x=y
  ·subst e;simp only[if_true]at h⊢;exact Pr h
  ·rw[if_neg e]at h;rw[if_neg (fun e'=>e e'.symm)];simp at h⊢;omega
theorem Agd (a b c d e f:Int):Fp [d,e,f] [a,b,c]=false↔(a<d\/(a=d/\(b<e\/(b=e/\c<=f)))):=by
 simp only[Fp];by_cases e1:d=a
 ·rw[if_pos e1];by_cases e2:e=b
  ·rw[if_pos e2];by_cases e3:f=c
   ·rw[if_pos e3];simp;omega
   ·rw[if_neg e3];simp;omega
  ·rw[if_neg e2];simp;omega
 ·rw[if_neg e1];simp;omega
theorem Zu {t u v:List Int}(ht:t.length=3)(hu:u.length=3)(hv:v.length=3)(h1:Fp u t=false)(h2:Fp v u=false):Fp v t=false:=by
 match t,u,v,ht,hu,hv with
 |[a,b,c],[d,e,f],[g,h,i],_,_,_=>
  rw[Agd]at h1 h2⊢;omega
theorem Ab4 {t u:List Int}(ht:t.length=3)(hu:u.length=3)(h1:Fp t u=false)(h2:Fp u t=false):t=u:=by
 match t,u,ht,hu with
 |[a,b,c],[d,e,f],_,_=>
  simp only[Fp]at h1 h2;by_cases e1:a=d
  ·subst e1;simp only[if_true]at h1 h2;by_cases e2:b=e
   ·subst e2;simp only[if_true]at h1 h2;by_cases e3:c=f
    ·rw[e3]
    ·rw[if_neg e3]at h1;rw[if_neg (fun e=>e3 e.symm)]at h2;simp at h1 h2;omega
   ·rw[if_neg e2]at h1;rw[if_neg (fun e=>e2 e.symm)]at h2;simp at h1 h2;omega
  ·rw[if_neg e1]at h1;rw[if_neg (fun e=>e1 e.symm)]at h2;simp at h1 h2;omega
theorem mY (t u:Bc)(ht:t.length=3)(hu:u.length=3)(z:St):ACalls Tryz.prog 142 [ag (Am t),ag (Am u)] z fun r z'=>r=sc (.bool (Fp t u))/\Keep z z':=by
 have f1:=Ds ht;have f3:=D5 ht;have f4:=Hz ht;have f5:=Co t;have g1:=Ds hu;have g3:=D5 hu;have g4:=Hz hu;have g5:=Co u;refine Z9 24 [.tmp 4] Tryz.func142 ?_
 repeat' (first|refine Z1 ?_|(refine Z8 ?_;intro κ hκ)|(refine Z4 ?_;clear hκ κ)|(refine Z2 ?_ ?_<;>intro h aa<;>try exact Xp)|refine Z7 ?_|exact⟨⟩|(apply hκ.out;clear hκ κ))
 refine Af (fun m s z'=>∃i:Nat,m=3-i/\i<=3/\s 2=ptr z.nobj 0/\s 3=ptr (z.nobj+1) 0/\s 6=ic i/\z'=(z.new (Am t)).new (Am u)/\Ajs (Fp t u=Fp (t.drop i) (u.drop i))) 3
  ⟨0,Ajm,Ajm,Ajo,Ajo,Ajo,rfl,by simp[Ajs]⟩ ?_
 rintro m s z' ⟨i,rfl,hi,h2,h3,h6,rfl,hL⟩;by_cases ah:i<3
 ·have ac:t[i]?=some t[i]:=List.getElem?_eq_getElem Ajm;have ab:u[i]?=some u[i]:=List.getElem?_eq_getElem Ajm;have af:=Jr ac;have ae:=Jr ab;have HS:Ajs _:=yC ac ab;generalize t[i]=x at af HS;generalize u[i]=y at ae HS;clear ac ab
  repeat' (first|refine Z1 ?_|(refine Z8 ?_;intro κ hκ)|(refine Z4 ?_;clear hκ κ)|(refine Z2 ?_ ?_<;>intro h aa<;>try exact Xp)|refine Z7 ?_|exact⟨⟩|(apply hκ.out;clear hκ κ))
  refine A9 Aj (fun _=>True) [] [0,1,2,3,4,5,6] [] Ajp (fun _ _ _ h=>h) ?_;intro κ hκ
  repeat' (first|refine Z1 ?_|(refine Z8 ?_;intro κ hκ)|(refine Z4 ?_;clear hκ κ)|(refine Z2 ?_ ?_<;>intro h aa<;>try exact Xp)|refine Z7 ?_|exact⟨⟩|(apply hκ.out;clear hκ κ))
  ·refine A9 Aj (fun _=>True) [] [0,1,2,3,4,5,6,7] [] Ajp (fun _ _ _ h=>h) ?_;intro κ hκ
   repeat' (first|refine Z1 ?_|(refine Z8 ?_;intro κ hκ)|(refine Z4 ?_;clear hκ κ)|(refine Z2 ?_ ?_<;>intro h aa<;>try exact Xp)|refine Z7 ?_|exact⟨⟩|(apply hκ.out;clear hκ κ))
   have ad:x≠y:=by simpa using h
   exact⟨_,rfl,by rw[hL.out,HS.out,if_neg ad],((Keep.refl z).new _).new _⟩
  ·have he:x=y:=by simpa using h
   have HL:Ajs (Fp t u=Fp (t.drop (i+1)) (u.drop (i+1))):=by rw[Ajs,hL.out,HS.out,if_pos he]
   refine⟨3-(i+1),Ajm,i+1,?_⟩
   ((repeat' with_reducible refine And.intro ?_ ?_)<;>first|exact Xq|exact (HL)|exact Xs)
 ·have hil:i=3:=Ajm;subst hil;have hz:Fp t u=false:=by rw[hL.out,Agt Ajm];rfl
  rw[hz]
  repeat' (first|refine Z1 ?_|(refine Z8 ?_;intro κ hκ)|(refine Z4 ?_;clear hκ κ)|(refine Z2 ?_ ?_<;>intro h aa<;>try exact Xp)|refine Z7 ?_|exact⟨⟩|(apply hκ.out;clear hκ κ))
  exact⟨_,rfl,rfl,((Keep.refl z).new _).new _⟩
def jn:List Int->Tx
 |[]=>[]
 |x::xs=>Lib.itoa x++xs.flatMap fun y=>44::Lib.itoa y
theorem Acd (l:List Int)(x:Int):jn (l++[x])=if l=[]then Lib.itoa x else jn l++44::Lib.itoa x:=by
 cases l with
 |nil=>simp[jn]
 |cons y l=>simp[jn]
def tups (t:Bc):List Int:=t.takeWhile (fun x=>decide (x≠ -1))
def aV (t:Bc):Tx:=jn (tups t)
theorem Uh {t:Bc}{i:Nat}(h:∀x∈t.take i,x≠ -1)(he:t[i]?=some (-1)\/t.length<=i):tups t=t.take i:=by
 unfold tups
 conv=>lhs;rw[<-Aiv i t]
 rw[List.takeWhile_append_of_pos (fun x hx=>by simpa using h x hx)];rcases he with he|he
 ·obtain⟨h1,h2⟩:=List.getElem?_eq_some_iff.1 he;rw[Ahl h1,h2];simp
 ·rw[Agt he];simp
theorem Ho (x:Int)(h0:0<=x)(h1:x<=9999):(Lib.itoa x).length<=10:=by
 have key:∀(k u:Nat),u<10^(k+1)->(Lib.decDigits u).length<=k+1:=by
  intro k;induction k with
  |zero=>intro u hu;rw[Lib.decDigits,dif_pos (by simpa using hu)];simp
  |succ k ih=>
   intro u hu;rw[Lib.decDigits];split
   ·simp
   ·rw[Aha];have:=ih (u / 10) (by rw[Nat.pow_succ]at hu;omega);simp;omega
 unfold Lib.itoa;rw[if_neg Ajm];have:=key 3 x.toNat (by simp;omega);omega
theorem Xx (t:Bc)(ht:t.length=3)(hb:∀x∈t,-1<=x/\x<=9999)(z:St):ACalls Tryz.prog 87 [ag (Am t)] z fun r z'=>r=str (aV t)/\Keep z z':=by
 have f1:=Ds ht;have f3:=D5 ht;have f4:=Hz ht;have f5:=Co t;have ap:({data:=#[44]}:ByteArray)=bs [44]:=rfl;have aj:=vM;refine Z9 24 [.tmp 2] Tryz.func87 ?_
 repeat' (first|refine Z1 ?_|(refine Z8 ?_;intro κ hκ)|(refine Z4 ?_;clear hκ κ)|(refine Z2 ?_ ?_<;>intro h aa<;>try exact Xp)|refine Z7 ?_|exact⟨⟩|(apply hκ.out;clear hκ κ))
 refine Af (fun m s z'=>∃i:Nat,m=3-i/\i<=3/\s 3=str (jn (t.take i))/\s 6=ag (Am t)/\s 7=ic i/\Keep z z'/\(jn (t.take i)).length<=20*i/\Ajs (∀x∈t.take i,x≠ -1)) 3
  ⟨0,Ajm,Ajm,by simp[upd,jn];try rfl,Ajn,Ajo,Xs,by simp[jn],by simp[Ajs]⟩ ?_
 rintro m s z' ⟨i,rfl,hi,h3,h6,h7,hK,af,hN⟩;by_cases ak:i<3
 ·have ab:t[i]?=some t[i]:=List.getElem?_eq_getElem Ajm;have ad:=Jr ab;have ae:=hb t[i] (Ah6 Ajm);generalize t[i]=x at ad ab ae;by_cases hx:x= -1
  ·subst hx;have HR:Ajs (aV t=jn (t.take i)):=by rw[Ajs,aV,Uh hN.out (.inl ab)]
   clear ab
   repeat' (first|refine Z1 ?_|(refine Z8 ?_;intro κ hκ)|(refine Z4 ?_;clear hκ κ)|(refine Z2 ?_ ?_<;>intro h aa<;>try exact Xp)|refine Z7 ?_|exact⟨⟩|(apply hκ.out;clear hκ κ))
   first|exact⟨_,rfl,by rw[HR.out],hK⟩|exact⟨_,rfl,by rw[HR.out]⟩
  ·have ai:(x== -1)=false:=by simpa using hx
   have hI:=fun z=>Q0 x Ajm Ajm z;have HT:Ajs (jn (t.take (i+1))=if i=0 then Lib.itoa x else jn (t.take i)++44::Lib.itoa x):=by
    rw[Ajs,Agz,ab,Aia,Acd];by_cases e:i=0
    ·subst e;simp
    ·rw[if_neg e,if_neg (fun h=>by have:=congrArg List.length h;rw[Ahb,Ahi]at this;omega)]
   have HN:Ajs (∀y∈t.take (i+1),y≠ -1):=fun y hy=>by
    rw[Agz,ab,Aia]at hy;rcases Ahs.1 hy with h|h
    ·exact hN.out y h
    ·simp at h;subst h;exact hx
   by_cases e:i=0
   ·subst e;have HJ:Ajs (jn (t.take 1)=Lib.itoa x):=by rw[Ajs];have:=HT.out;simpa using this
    have ac:jn (t.take 0)=[]:=by simp[jn]
    rw[ac]at h3;have ao:(Am t).head?=some (ic x):=by rw[List.head?_eq_getElem?];exact ad
    have hil:=Ho x Ajm Ajm;clear ab hx HT ac
    repeat' (first|refine Z1 ?_|(refine Z8 ?_;intro κ hκ)|(refine Z4 ?_;clear hκ κ)|(refine Z2 ?_ ?_<;>intro h aa<;>try exact Xp)|(refine Z5 ?_;refine Xi (hI _) ?_;rintro _ _ ⟨rfl,rfl⟩)|refine Z7 ?_|exact⟨⟩|(apply hκ.out;clear hκ κ))
    exact⟨3-(0+1),Ajm,1,rfl,Ajm,by rw[HJ.out],rfl,by rw[HJ.out];omega,HN⟩
   ·have an:decide ((i:Int)>0)=true:=by simp;omega
    have HJ:Ajs (jn (t.take (i+1))=jn (t.take i)++44::Lib.itoa x):=by have:=HT.out;rwa[if_neg e]at this
    have hil:=Ho x Ajm Ajm;have ah:Ajs ((jn (t.take (i+1))).length<=20*(i+1)):=by rw[Ajs,HJ.out];simp;omega
    clear ab hx HT;generalize am:jn (t.take i)=js at h3 af HJ
    repeat' (first|refine Z1 ?_|(refine Z8 ?_;intro κ hκ)|(refine Z4 ?_;clear hκ κ)|(refine Z2 ?_ ?_<;>intro h aa<;>try exact Xp)|(refine Z5 ?_;refine Xi (hI _) ?_;rintro _ _ ⟨rfl,rfl⟩)|refine Z7 ?_|exact⟨⟩|(apply hκ.out;clear hκ κ))
    exact⟨3-(i+1),Ajm,i+1,rfl,Ajm,by rw[HJ.out];simp[str],by simp,ah,HN⟩
 ·have hil:i=3:=Ajm;subst hil;have HR:Ajs (aV t=jn (t.take 3)):=by rw[Ajs,aV,Uh hN.out (.inr Ajm)]
  repeat' (first|refine Z1 ?_|(refine Z8 ?_;intro κ hκ)|(refine Z4 ?_;clear hκ κ)|(refine Z2 ?_ ?_<;>intro h aa<;>try exact Xp)|refine Z7 ?_|exact⟨⟩|(apply hκ.out;clear hκ κ))
  first|exact⟨_,rfl,by rw[HR.out],hK⟩|exact⟨_,rfl,by rw[HR.out]⟩
end Go.Proofs.YtmoeoppbmhfbpabGreatDoorL
