import Derived.Test.YtmoeoppbmhfbpaaGreatDoorHFolD
import Derived.Test.YtmoeoppbmhfbpaaGreatDoorHProgL
import Derived.Test.YtmoeoppbmhfbpaaGreatDoorHNegA
import Derived.Test.YtmoeoppbmhfbpaaGreatDoorHShelf
set_option maxHeartbeats 64000000
set_option maxRecDepth 100000
set_option linter.all false
namespace Go.Proofs.YtmoeoppbmhfbpaaGreatDoorH
open Go.Abs
def Gr (A:List RAtom):List RAtom->Bool
 |[]=>false
 |a::F=>A.any (clash a)||Gr (A++[a]) F
theorem rK {F:List RAtom}:∀{A:List RAtom} {i:Nat} {a:RAtom},F[i]?=some a->(A++F.take i).any (clash a)=true->Gr A F=true:=by
 induction F with
 |nil=>intro A i a h;simp at h
 |cons b F ih=>
  intro A i a h hc;unfold Gr;cases i with
  |zero=>
   simp at h hc;subst h;rw[Ac4];left;rw[Ab0];exact hc
  |succ i=>
   rw[Ac4];right;exact ih (A:=A++[b]) (i:=i) (by simpa using h) (by simpa using hc)
theorem nU {F:List RAtom}:∀{A:List RAtom},(∀(i:Nat) (a:RAtom),F[i]?=some a->(A++F.take i).any (clash a)=false)->Gr A F=false:=by
 induction F with
 |nil=>intro A _;rfl
 |cons b F ih=>
  intro A h;unfold Gr;rw[Bool.or_eq_false_iff];refine⟨by simpa using h 0 b rfl,ih fun i a hi=>?_⟩;have:=h (i+1) a (by simpa using hi);simpa using this
theorem cntsOk.put {N:List Tx}{S:List RAtom}{cc:Nat->Int}{a:RAtom}(h:cntsOk N S cc)(hc:Dd S)(hn:S.any (clash a)=false)(ha:a.pred∈N):cntsOk N (S++[a]) (fun j=>if j=N.idxOf a.pred then (a.terms.length:Int)else cc j):=by
 have h0:=h a.pred ha;by_cases e:cc (N.idxOf a.pred)=0
 ·exact (h.step hc ha).1 e
 ·have h1:=(h.step hc ha).2 e;have h2:¬(Fl S a.pred≠0/\Fl S a.pred≠a.terms.length):=fun g=>by rw[<-Lq hc a,hn]at g;cases g
  intro p hp;dsimp only;by_cases ep:N.idxOf p=N.idxOf a.pred
  ·rw[if_pos ep,<-h1 p hp,ep];omega
  ·rw[if_neg ep];exact h1 p hp
theorem Jr {l:List RItem}{i:Nat}{x:RItem}(h:l[i]?=some x):Ca l (i+1)=Bh l x i (Af x).length:=by
 unfold Ca Bh;rw[Aa8,h,Ab9,Ab7,Aa3];simp[Ca]
theorem Uj {N:List Tx}{l:List RAtom}{cs:List AV}{i:Nat}{a:RAtom}(h:EL (PF N) l cs)(hi:l[i]?=some a):a.pred∈N/\∃ids r,cs.drop (i*2)=ic (N.idxOf a.pred:Nat)::sl ids a.terms.length (A8 a.terms)::r:=by
 obtain⟨c,r,⟨hm,ids,rfl⟩,e⟩:=EL.get jR h hi;exact⟨hm,ids,r,e⟩
theorem Qo (N N':List Tx)(hN:N<+:N')(l:List RItem)(cs:List AV)(idn idi:Nat)(hB:Bk N l cs)(hT:∀S,S<+:l.flatMap Af->∀a∈l.flatMap Af,S.any (clash a)=false)(F:List RAtom)(fc:List AV)(idf:Nat)(hF:EL (PF N') F fc)(b4:F.length<=1000)(bv:∀a∈F,0<a.terms.length/\a.terms.length<=3)(b3:N'.length<=2500)(z:St):
  ACalls Tryz.prog 73 [Fa N idn l idi cs,sl idf F.length fc,ic N'.length] z fun r z'=>r=sc (.bool (Gr (l.flatMap Af) F))/\Keep z z':=by
 have hE:EL (PI N') l cs:=hB.el.mono (PI.mono hN);have a3:=EL.length Iy hE;have b1:=EL.length jR hF;have bm:=hB.len;unfold Fa;refine Z9 68 [.tmp 6] Tryz.func73 ?_
 repeat' (first|refine Z1 ?_|(refine Z8 ?_;intro ya J)|(refine Z4 ?_;clear J ya)|(refine Z2 ?_ ?_<;>intro h ab<;>try exact Xp)|refine Z3 ?_|exact Zt|(apply J.out;clear J ya))
 refine Ab (fun m s z'=>∃(i:Nat) (cc:Nat->Int),m=l.length-i/\i<=l.length/\s 1=sl idf F.length fc/\s 7=fx (z.nobj+1) 0 N'.length/\s 17=sl idi l.length cs/\s 18=ic l.length/\s 19=ic i/\Keep z z'/\z.nobj+1<z'.nobj/\z'.obj (z.nobj+1)=E8 N'.length cc/\Ad8 (cntsOk N' (Ca l i) cc)/\Ad8 (Dd (Ca l i))) l.length
  ⟨0,fun _=>0,Ad2,Ad2,rfl,?_,rfl,rfl,rfl,Xs,Ad6,?_,?_,by simp[Ad8,Ca,Ty]⟩ ?_
 ·simp[upd]
 ·show (if z.nobj+1=z.nobj+1 then _ else _)=_;rw[if_pos rfl];exact Pq _
 ·intro p hp;simp[Ca,Fl]
 rintro m s z' ⟨i,cc,rfl,hi,h1,h7,a8,a7,a6,hK,ac,ak,hC,hS⟩;have av:=hK.nobj;by_cases ae:i<l.length
 ·have aa:=Aav ae;have az:=hB.fits l[i] (Ab1 ae);have bb:=hB.out l[i] (Ab1 ae);have ba:=hB.pos l[i] (Ab1 ae);obtain⟨hm,ih,id,b,r,hb,hd⟩:=Lb hE aa;generalize l[i]=x at hd aa az bb hb hm ba;have HX:Ad8 (l[i]?=some x):=aa;clear aa;have b2:=az.atoms
  repeat' (first|refine Z1 ?_|(refine Z8 ?_;intro ya J)|(refine Z4 ?_;clear J ya)|(refine Z2 ?_ ?_<;>intro h ab<;>try exact Xp)|(refine Z5 ?_;refine Xi (Kt N' x _ (PI.of hm hb) bb (by have:=az.1;omega) _) ?_;rintro _ _ ⟨ida,cs2,rfl,bh,a5⟩;(have am:=a5.obj;have an:=a5.nobj;(try simp only[Aa,Ac,Av]at an)))|refine Z3 ?_|exact Zt|(apply J.out;clear J ya))
  rename_i z1;have br:=EL.length Zk bh;have bg:Keep z z1:=Xs;have ao:z1.obj (z.nobj+1)=E8 N'.length cc:=by
   rw[am _ (by simp only[Aa,Ac];omega),Al Ad2,Ai ac];exact ak
  clear am
  refine Ab (fun m s z'=>∃(j:Nat) (cc:Nat->Int),m=(Af x).length-j/\j<=(Af x).length/\s 1=sl idf F.length fc/\s 7=fx (z.nobj+1) 0 N'.length/\s 17=sl idi l.length cs/\s 18=ic l.length/\s 19=ic i/\s 24=sl ida (Af x).length cs2/\s 25=ic (Af x).length/\s 26=ic j/\Keep z z'/\z.nobj+1<z'.nobj/\z'.obj (z.nobj+1)=E8 N'.length cc/\Ad8 (cntsOk N' (Bh l x i j) cc)/\Ad8 (Dd (Bh l x i j))) (Af x).length
   ⟨0,cc,Ad2,Ad2,Ad3,Ad3,Ad3,Ad3,Ad3,Ad4,rfl,rfl,bg,Ad2,ao,by simpa[Bh]using hC,by simpa[Bh]using hS⟩ ?_
  clear ao hK ak hC hS a5 an av h1 h7 a8 a7 a6 ac cc bg;rintro m s z' ⟨j,cc,rfl,hj,h1,h7,a8,a7,a6,ca,b9,b8,hK,ac,ak,hC,hS⟩;have av:=hK.nobj;by_cases ai:j<(Af x).length
  ·have aa:=Aav ai;have aj:=ba (Af x)[j] (Ab1 ai);have ah:=Ab1 ai;obtain⟨ha,ia,r2,bc⟩:=tO bh aa;generalize (Af x)[j]=a at bc aa ha aj ah
   have ad:(Bh l x i j).any (clash a)=false:=hT _ (by
    unfold Bh Ca;have e1:l=l.take i++x::l.drop (i+1):=by
     obtain⟨h1,h2⟩:=Aau.1 HX.out;rw[<-h2];exact (Ada i l).symm.trans (by rw[Abx h1])
    conv=>rhs;rw[e1]
    rw[Ab7,Aca]
    exact (List.prefix_append_right_inj _).2 ((List.take_prefix j _).trans (List.prefix_append _ _))) a (Acl.2 ⟨x,Aax HX.out,ah⟩)
   have HN:Ad8 (cntsOk N' (Bh l x i (j+1)) (fun q=>if q=N'.idxOf a.pred then (a.terms.length:Int)else cc q)/\Dd (Bh l x i (j+1))):=by
    rw[Ad8,Et aa];exact⟨hC.out.put hS.out ad ha,Gb hS.out aj ad⟩
   have ap:=Acw ha;have af:=fun v=>Oh (n:=N'.length) (i:=N'.idxOf a.pred) cc v;have bl:=Hy N'.length cc;clear aa ad ah;generalize N'.idxOf a.pred=ix at bc ap af HN
   repeat' (first|refine Z1 ?_|(refine Z8 ?_;intro ya J)|(refine Z4 ?_;clear J ya)|(refine Z2 ?_ ?_<;>intro h ab<;>try exact Xp)|refine Z3 ?_|exact Zt|(apply J.out;clear J ya))
   refine⟨(Af x).length-(j+1),Ad2,j+1,fun q=>if q=ix then (a.terms.length:Int)else cc q,?_⟩
   ((repeat' refine Zi ?_ ?_)<;>first|exact Xq|exact HN.out.1|exact HN.out.2|exact (((hK.new _).put hK.nobj _).put Ad2 _)|exact (af _)|exact Xs)
  ·have bo:j=(Af x).length:=Ad2;subst bo;have HN:Ad8 (cntsOk N' (Ca l (i+1)) cc/\Dd (Ca l (i+1))):=by
    rw[Ad8,Jr HX.out];exact⟨hC.out,hS.out⟩
   repeat' (first|refine Z1 ?_|(refine Z8 ?_;intro ya J)|(refine Z4 ?_;clear J ya)|(refine Z2 ?_ ?_<;>intro h ab<;>try exact Xp)|refine Z3 ?_|exact Zt|(apply J.out;clear J ya))
   refine⟨l.length-(i+1),Ad2,i+1,cc,?_⟩
   ((repeat' refine Zi ?_ ?_)<;>first|exact Xq|exact HN.out.1|exact HN.out.2|exact Xs)
 ·have bp:i=l.length:=Ad2;subst bp;have e0:Ca l l.length=l.flatMap Af:=by simp[Ca]
  rw[e0]at hC hS;generalize l.flatMap Af=A at hC hS
  repeat' (first|refine Z1 ?_|(refine Z8 ?_;intro ya J)|(refine Z4 ?_;clear J ya)|(refine Z2 ?_ ?_<;>intro h ab<;>try exact Xp)|refine Z3 ?_|exact Zt|(apply J.out;clear J ya))
  refine Ab (fun m s z'=>∃(k:Nat) (cc:Nat->Int),m=F.length-k/\k<=F.length/\s 7=fx (z.nobj+1) 0 N'.length/\s 39=sl idf F.length fc/\s 40=ic F.length/\s 41=ic k/\Keep z z'/\z.nobj+1<z'.nobj/\z'.obj (z.nobj+1)=E8 N'.length cc/\Ad8 (cntsOk N' (A++F.take k) cc/\Dd (A++F.take k)/\∀(i:Nat) (a:RAtom),i<k->F[i]?=some a->(A++F.take i).any (clash a)=false)) F.length
   ⟨0,cc,Ad2,Ad2,Ad3,Ad3,Ad3,Ad4,hK,ac,ak,by simpa using hC.out,by simpa using hS.out,fun i a hi=>Ad2⟩ ?_
  clear h1 h7 a8 a7 a6 hK ac ak hC hS av cc ae;rintro m s z' ⟨k,cc,rfl,hk,h7,b7,b6,b5,hK,ac,ak,hC⟩;have av:=hK.nobj;by_cases ae:k<F.length
  ·have aa:=Aav ae;obtain⟨ha,ids,r,hd⟩:=Uj hF aa;have aj:=bv _ (Ab1 ae);generalize F[k]=a at hd aa ha aj;obtain⟨c1,c2,c3⟩:=hC.out;have HG:Ad8 (F[k]?=some a):=aa;have ax:Ad8 (A++F.take (k+1)=A++F.take k++[a]):=by rw[Ad8,Aa8,aa,Ab9,Abl]
   have ap:=Acw ha;have aw:=c1.step c2 ha;have a0:=c1 a.pred ha;have bd:=E7 cc ap;have af:=fun v=>Oh (n:=N'.length) (i:=N'.idxOf a.pred) cc v;have bl:=Hy N'.length cc;have a3:=Lq c2 a;have bk:Ad8 (((A++F.take k).any (clash a)=false)->∀(i:Nat) (b:RAtom),i<k+1->F[i]?=some b->(A++F.take i).any (clash b)=false):=fun hh i b hi hb=>by
    by_cases e:i=k
    ·subst e;rw[HG.out]at hb;cases hb;exact hh
    ·exact c3 i b Ad2 hb
   generalize bu:cc (N'.idxOf a.pred)=c at bd aw a0;clear bu aa c1 c3 hC;generalize N'.idxOf a.pred=ix at hd bd ap aw af;have bj:Ad8 _:=c2;have bi:Ad8 _:=aw;have ay:Ad8 _:=a0;have a9:Ad8 _:=a3;clear aw a0 a3 c2;by_cases au:(c==0)=true
   ·have b0:((E8 N'.length cc).set ix (sc (.int .i64 a.terms.length)))[ix]?=some (sc (.int .i64 a.terms.length)):=by rw[af,E7 _ ap];simp
    have bz:((a.terms.length:Int) !=a.terms.length)=false:=by simp
    have be:c=0:=by simpa using au
    have bw:Ad8 _:=af;have ad:(A++F.take k).any (clash a)=false:=by
     cases hq:(A++F.take k).any (clash a)with
     |false=>rfl
     |true=>exfalso;have h1:=(a9.out.1 hq).1;have h2:=ay.out;omega
    have HN:Ad8 (cntsOk N' (A++F.take (k+1)) (fun j=>if j=ix then (a.terms.length:Int)else cc j)/\Dd (A++F.take (k+1))/\∀(i:Nat) (b:RAtom),i<k+1->F[i]?=some b->(A++F.take i).any (clash b)=false):=by
     refine⟨?_,?_,bk.out ad⟩
     ·rw[ax.out];exact bi.out.1 be
     ·rw[ax.out];exact Gb bj.out aj.1 ad
    clear af ad be
    repeat' (first|refine Z1 ?_|(refine Z8 ?_;intro ya J)|(refine Z4 ?_;clear J ya)|(refine Z2 ?_ ?_<;>intro h ab<;>try exact Xp)|refine Z3 ?_|exact Zt|(apply J.out;clear J ya))
    refine Aq Ad (fun _=>True) [8] [0,1,2,3,4,5,6,7] [8] Ad5 (fun _ _ _ h=>h) ?_;intro ya J;refine Z3 ?_
    repeat' (first|refine Z1 ?_|(refine Z8 ?_;intro ya J)|(refine Z4 ?_;clear J ya)|(refine Z2 ?_ ?_<;>intro h ab<;>try exact Xp)|refine Z3 ?_|exact Zt|(apply J.out;clear J ya))
    refine⟨F.length-(k+1),Ad2,k+1,fun j=>if j=ix then (a.terms.length:Int)else cc j,?_⟩
    ((repeat' refine Zi ?_ ?_)<;>first|exact Xq|exact HN|exact (((hK.new _).put hK.nobj _).put Ad2 _)|exact (bw.out _)|exact Xs)
   ·have au:(c==0)=false:=by simpa using au
    clear af
    repeat' (first|refine Z1 ?_|(refine Z8 ?_;intro ya J)|(refine Z4 ?_;clear J ya)|(refine Z2 ?_ ?_<;>intro h ab<;>try exact Xp)|refine Z3 ?_|exact Zt|(apply J.out;clear J ya))
    refine Aq Ad (fun _=>True) [8] [0,1,2,3,4,5,6,7] [8] Ad5 (fun _ _ _ h=>h) ?_;intro ya J;refine Z3 ?_
    repeat' (first|refine Z1 ?_|(refine Z8 ?_;intro ya J)|(refine Z4 ?_;clear J ya)|(refine Z2 ?_ ?_<;>intro h ab<;>try exact Xp)|refine Z3 ?_|exact Zt|(apply J.out;clear J ya))
    ·have a4:c≠0:=by simpa using au
     have bf:c≠a.terms.length:=by simpa using h
     have bq:=a9.out.2 ⟨by have:=ay.out;omega,by have:=ay.out;omega⟩;exact⟨_,rfl,by rw[rK HG.out bq],(hK.new _).put hK.nobj _⟩
    ·have a4:c≠0:=by simpa using au
     have bf:c=a.terms.length:=by simpa using h
     have ad:(A++F.take k).any (clash a)=false:=by
      cases hq:(A++F.take k).any (clash a)with
      |false=>rfl
      |true=>exfalso;have h1:=(a9.out.1 hq).2;have h2:=ay.out;omega
     have HN:Ad8 (cntsOk N' (A++F.take (k+1)) cc/\Dd (A++F.take (k+1))/\∀(i:Nat) (b:RAtom),i<k+1->F[i]?=some b->(A++F.take i).any (clash b)=false):=by
      refine⟨?_,?_,bk.out ad⟩
      ·rw[ax.out];exact bi.out.2 a4
      ·rw[ax.out];exact Gb bj.out aj.1 ad
     clear bf a4 ad;refine⟨F.length-(k+1),Ad2,k+1,cc,?_⟩
     ((repeat' refine Zi ?_ ?_)<;>first|exact Xq|exact HN|exact ((hK.new _).put hK.nobj _)|exact Xs)
  ·have bn:k=F.length:=Ad2;subst bn;have hz:Gr A F=false:=nU fun i a hi=>hC.out.2.2 i a (Aau.1 hi).1 hi;rw[hz]
   repeat' (first|refine Z1 ?_|(refine Z8 ?_;intro ya J)|(refine Z4 ?_;clear J ya)|(refine Z2 ?_ ?_<;>intro h ab<;>try exact Xp)|refine Z3 ?_|exact Zt|(apply J.out;clear J ya))
   first|exact⟨_,rfl,rfl,hK⟩|exact⟨_,rfl,rfl⟩
def Kn (N:List Tx)(l:List RItem)(k:Nat):Bool:=l.any fun x=>!x.out&&decide (N.idxOf x.head.pred=k)
theorem Ze {α:Type}{l:List α}{f:α->Bool}{i:Nat}{x:α}(h:(l.take i).any f=false)(hi:l[i]?=some x)(hx:f x=false):(l.take (i+1)).any f=false:=by
 rw[Aa8,hi,Ab9,Ac8,h];simp[hx]
theorem xG {α:Type}{l:List α}{f:α->Bool}{i:Nat}{x:α}(hi:l[i]?=some x)(hx:f x=true):l.any f=true:=Ab0.2 ⟨x,Aax hi,hx⟩
theorem cE (N:List Tx)(l:List RItem)(cs:List AV)(nm:AV)(ak:flat nm=true)(idi k:Nat)(hE:EL (PI N) l cs)(hl:l.length<=1000)(z:St):ACalls Tryz.prog 127 [ag [nm,sl idi l.length cs],sc (.int .i64 k)] z fun r z'=>r=sc (.bool (Kn N l k))/\Keep z z':=by
 have am:=EL.length Iy hE;refine Z9 25 [.tmp 4] Tryz.func127 ?_
 repeat' (first|refine Z1 ?_|(refine Z8 ?_;intro ya J)|(refine Z4 ?_;clear J ya)|(refine Z2 ?_ ?_<;>intro h ab<;>try exact Xp)|refine Z3 ?_|exact Zt|(apply J.out;clear J ya))
 refine Ab (fun m s z'=>∃(i:Nat),m=l.length-i/\i<=l.length/\s 1=sc (.int .i64 k)/\s 8=sl idi l.length cs/\s 9=sc (.int .i64 l.length)/\s 10=sc (.int .i64 i)/\Keep z z'/\Ad8 (Kn N (l.take i) k=false)) l.length
  ⟨0,Ad2,Ad2,rfl,Ad4,Ad4,rfl,Xs,by simp[Ad8,Kn]⟩ ?_
 rintro m s z' ⟨i,rfl,hi,h1,h8,h9,an,hK,hA⟩;have aj:=hK.nobj;by_cases af:i<l.length
 ·have aa:=Aav af;obtain⟨ae,ih,id,b,r,ai,hd⟩:=Lb hE aa;generalize l[i]=x at hd aa ae ai;cases ac:x.out with
  |true=>
   rw[ac]at hd;have HA:Ad8 (Kn N (l.take (i+1)) k=false):=Ze hA.out aa (by simp[ac]);clear aa hA ac
   repeat' (first|refine Z1 ?_|(refine Z8 ?_;intro ya J)|(refine Z4 ?_;clear J ya)|(refine Z2 ?_ ?_<;>intro h ab<;>try exact Xp)|refine Z3 ?_|exact Zt|(apply J.out;clear J ya))
   refine⟨l.length-(i+1),Ad2,i+1,?_⟩
   ((repeat' refine Zi ?_ ?_)<;>first|exact Xq|exact HA|exact Xs)
  |false=>
   rw[ac]at hd;by_cases hk:N.idxOf x.head.pred=k
   ·have ad:(((N.idxOf x.head.pred:Nat):Int)==(k:Int))=true:=by simp[hk]
    have HA:Ad8 (Kn N l k=true):=xG aa (by simp[ac,hk]);clear aa hA ac hk;generalize N.idxOf x.head.pred=ix at hd ad
    repeat' (first|refine Z1 ?_|(refine Z8 ?_;intro ya J)|(refine Z4 ?_;clear J ya)|(refine Z2 ?_ ?_<;>intro h ab<;>try exact Xp)|refine Z3 ?_|exact Zt|(apply J.out;clear J ya))
    exact⟨_,rfl,by rw[HA.out],Xs⟩
   ·have ad:(((N.idxOf x.head.pred:Nat):Int)==(k:Int))=false:=by simpa using (by omega:¬((N.idxOf x.head.pred:Nat):Int)=k)
    have HA:Ad8 (Kn N (l.take (i+1)) k=false):=Ze hA.out aa (by simp[hk]);clear aa hA ac hk;generalize N.idxOf x.head.pred=ix at hd ad
    repeat' (first|refine Z1 ?_|(refine Z8 ?_;intro ya J)|(refine Z4 ?_;clear J ya)|(refine Z2 ?_ ?_<;>intro h ab<;>try exact Xp)|refine Z3 ?_|exact Zt|(apply J.out;clear J ya))
    refine⟨l.length-(i+1),Ad2,i+1,?_⟩
    ((repeat' refine Zi ?_ ?_)<;>first|exact Xq|exact HA|exact Xs)
 ·have ah:i=l.length:=Ad2;subst ah;have hA:=hA.out;rw[Aa3]at hA;rw[hA]
  repeat' (first|refine Z1 ?_|(refine Z8 ?_;intro ya J)|(refine Z4 ?_;clear J ya)|(refine Z2 ?_ ?_<;>intro h ab<;>try exact Xp)|refine Z3 ?_|exact Zt|(apply J.out;clear J ya))
  first|exact⟨_,rfl,rfl,hK⟩|exact⟨_,rfl,rfl⟩
theorem U0 (N N':List Tx)(hN:N<+:N')(l:List RItem)(cs:List AV)(idn idi:Nat)(hB:Bk N l cs)(F:List RAtom)(fc:List AV)(idf:Nat)(hF:EL (PF N') F fc)(au:F.length<=1000)(z:St):
  ACalls Tryz.prog 74 [Fa N idn l idi cs,sl idf F.length fc] z fun r z'=>r=sc (.bool (F.any fun a=>Kn N' l (N'.idxOf a.pred)))/\Keep z z':=by
 have hE:EL (PI N') l cs:=hB.el.mono (PI.mono hN);have ao:=EL.length jR hF;have ai:=hB.len;have ak:=fun (k:Nat) z=>cE N' l cs (sl idn N.length (N.map str)) rfl idi k hE Ad2 z;unfold Fa;refine Z9 18 [.tmp 4] Tryz.func74 ?_
 repeat' (first|refine Z1 ?_|(refine Z8 ?_;intro ya J)|(refine Z4 ?_;clear J ya)|(refine Z2 ?_ ?_<;>intro h ac<;>try exact Xp)|refine Z3 ?_|exact Zt|(apply J.out;clear J ya))
 refine Ab (fun m s z'=>∃(k:Nat),m=F.length-k/\k<=F.length/\s 2=ptr z.nobj 0/\s 7=sl idf F.length fc/\s 8=ic F.length/\s 9=ic k/\Keep z z'/\z.nobj<z'.nobj/\z'.obj z.nobj=[sl idn N.length (N.map str),sl idi l.length cs]/\Ad8 ((F.take k).any (fun a=>Kn N' l (N'.idxOf a.pred))=false)) F.length
  ⟨0,Ad2,Ad2,Ad4,by simp[upd,initS],Ad4,rfl,Xs,Ad6,by rw[Am],by simp[Ad8]⟩ ?_
 rintro m s z' ⟨k,rfl,hk,h2,h7,h8,h9,hK,an,ob,hA⟩;have am:=hK.nobj;by_cases ah:k<F.length
 ·have aa:=Aav ah;obtain⟨ha,ids,r,hd⟩:=Uj hF aa;generalize F[k]=a at hd aa ha;have af:=ak (N'.idxOf a.pred);have HT:Ad8 (Kn N' l (N'.idxOf a.pred)=true->F.any (fun a=>Kn N' l (N'.idxOf a.pred))=true):=fun h=>xG aa h;have HF:Ad8 (Kn N' l (N'.idxOf a.pred)=false->(F.take (k+1)).any (fun a=>Kn N' l (N'.idxOf a.pred))=false):=fun h=>Ze hA.out aa h;clear aa hA;generalize N'.idxOf a.pred=ix at hd af HT HF
  repeat' (first|refine Z1 ?_|(refine Z8 ?_;intro ya J)|(refine Z4 ?_;clear J ya)|(refine Z2 ?_ ?_<;>intro h ac<;>try exact Xp)|(refine Z5 ?_;refine Xi (af _) ?_;rintro _ _ ⟨rfl,ae⟩;(have ad:=ae.nobj;have ab:=ae.obj;simp only[Ac,Aa]at ad ab;have ap:=((hK.new _).put hK.nobj _).trans ae))|refine Z3 ?_|exact Zt|(apply J.out;clear J ya))
  ·exact⟨_,rfl,by rw[HT.out (by assumption)]⟩
  ·have HA:Ad8 ((F.take (k+1)).any (fun a=>Kn N' l (N'.idxOf a.pred))=false):=HF.out (by assumption);refine⟨F.length-(k+1),Ad2,k+1,?_⟩
   ((repeat' refine Zi ?_ ?_)<;>first|exact Xq|exact HA|exact (by rw[ab _ Ad2,Al Ad2,Ai Ad2,ob])|exact Xs)
 ·have aj:k=F.length:=Ad2;subst aj;have hA:=hA.out;rw[Aa3]at hA;rw[hA]
  repeat' (first|refine Z1 ?_|(refine Z8 ?_;intro ya J)|(refine Z4 ?_;clear J ya)|(refine Z2 ?_ ?_<;>intro h ac<;>try exact Xp)|refine Z3 ?_|exact Zt|(apply J.out;clear J ya))
  first|exact⟨_,rfl,rfl,hK⟩|exact⟨_,rfl,rfl⟩
def gH (l:List RItem)(p:Tx):Bool:=l.any fun x=>!x.out&&decide (x.head.pred=p)
theorem qW {N:List Tx}{l:List RItem}(hN:∀x∈l,x.head.pred∈N){p:Tx}(hp:p∈N):Kn N l (N.idxOf p)=gH l p:=by
 unfold Kn gH;rw[Acv,Ab0,Ab0];constructor
 ·rintro⟨x,hx,h⟩;simp only[Aaz,Adw]at h;exact⟨x,hx,by simp only[Aaz,Adw];exact⟨h.1,Eb (hN x hx) hp h.2⟩⟩
 ·rintro⟨x,hx,h⟩;simp only[Aaz,Adw]at h;exact⟨x,hx,by simp only[Aaz,Adw];exact⟨h.1,by rw[h.2]⟩⟩
theorem sY {α:Type}{l:List α}{f g:α->Bool}(h:∀a∈l,f a=g a):l.any f=l.any g:=by
 rw[Acv,Ab0,Ab0];exact⟨fun⟨a,ha,e⟩=>⟨a,ha,by rw[<-h a ha];exact e⟩,fun⟨a,ha,e⟩=>⟨a,ha,by rw[h a ha];exact e⟩⟩
def F1 (l:List RItem)(t:Tx):Int:=match Bw 400 t with
 |.bad _=>7
 |.got F _=>if Gr (l.flatMap Af) F=true then 3 else if F.any (fun a=>gH l a.pred)=true then 8 else 0
theorem Ct:∀(n:Nat) (s:Tx) (F:List RAtom) (r:Tx),Bw n s= .got F r->r=[]/\F.length<=n/\s=F.flatMap (fun a=>A4 a++[46])/\∀a∈F,Fb a/\a.nt=false/\Nq a=true
 |n,[],F,r,h=>by
  rw[F5]at h;cases h;simp
 |0,b::s,F,r,h=>by cases h
 |n+1,b::s,F,r,h=>by
  rw[Fp]at h;cases h1:G5 (b::s)with
  |bad e=>rw[h1]at h;cases h
  |got x r1=>
   rw[h1]at h;simp only[Rd.bnd]at h;cases h2:Bw n r1 with
   |bad e=>rw[h2]at h;cases h
   |got xs r2=>
    rw[h2]at h;cases h;obtain⟨e1,e2,e3,e4⟩:=Ct n r1 xs r h2;obtain⟨f1,f2,f3,f4⟩:=S1 h1;refine⟨e1,by simp;omega,?_,fun a ha=>?_⟩
    ·rw[f1,e3];simp
    ·rcases Acd.1 ha with rfl|ha
     ·exact⟨f2,f3,f4⟩
     ·exact e4 a ha
theorem Tc (N:List Tx)(l:List RItem)(cs:List AV)(idn idi:Nat)(hB:Bk N l cs)(bz:N.length<=600)(hT:∀S,S<+:l.flatMap Af->∀a∈l.flatMap Af,S.any (clash a)=false)(t:Tx)(ht:t.length<=400)(z:St):
  ACalls Tryz.prog 45 [Fa N idn l idi cs,str t] z fun r z'=>∃(idf n np:Nat) (fc:List AV),r=tp [sl idf n fc,ic np,ic (F1 l t)]/\Keep z z'/\(F1 l t=0->∃F N',Bw 400 t= .got F []/\n=F.length/\np=N'.length/\N<+:N'/\N'.length<=1000/\EL (PF N') F fc):=by
 have bp:=hB.len;have bw:(N.map str).length=N.length:=by simp
 have ao:=fun N' hN F fc idf hF h1 h2 h3 z=>Qo N N' hN l cs idn idi hB hT F fc idf hF h1 h2 h3 z;have au:=fun N' hN F fc idf hF h1 z=>U0 N N' hN l cs idn idi hB F fc idf hF h1 z;have bk:∀x∈l,x.head.pred∈N:=fun x hx=>by
  obtain⟨i,hi⟩:=Acp hx;exact (Lb hB.el hi).1
 unfold Fa at ao au⊢;refine Z9 47 [.tmp 4,.tmp 5,.tmp 6] Tryz.func45 ?_
 repeat' (first|refine Z1 ?_|(refine Z8 ?_;intro ya J)|(refine Z4 ?_;clear J ya)|(refine Z2 ?_ ?_<;>intro h ae<;>try exact Xp)|(refine Z6 ?_;intro idn zn ax az ah ab af aa)|refine Z3 ?_|exact Zt|(apply J.out;clear J ya))
 refine Ab (fun m s z'=>∃(i i3:Nat),m=N.length-i/\i<=N.length/\s 2=ptr z.nobj 0/\s 7=ptr (z.nobj+1) 0/\s 15=sl idn N.length (N.map str)/\s 16=ic N.length/\s 17=ic i/\Keep z z'/\z.nobj+1<z'.nobj/\z'.obj z.nobj=[sl idn N.length (N.map str),sl idi l.length cs]/\z'.obj (z.nobj+1)=[str t,ic 0,sl i3 i ((N.take i).map str)]/\Own z z' i3 i) N.length
  ⟨0,1,Ad2,Ad2,Ad4,Ad4,Ad4,Ad4,rfl,Xs,Ad7,?_,?_,Own.nil _ _⟩ ?_
 ·rw[Al Ad2,Ai Ad6,Am]
 ·rw[Ak];simp
 rintro m s z' ⟨i,i3,rfl,hi,h2,h7,b4,b3,b2,hK,bo,bc,ba,hO⟩;have bv:=hK.nobj;by_cases bj:i<N.length
 ·have aw:=Aav bj;have br:(N.map str).drop i=str N[i]::(N.map str).drop (i+1):=by
   rw[Abx (by simpa using bj)];simp
  generalize N[i]=w at aw br;have HX:Ad8 ((N.take i).map str++[str w]=(N.take (i+1)).map str):=by rw[Ad8,Aa8,aw];simp
  have bn:((N.take i).map str).length=i*1:=by simp;omega
  clear aw;generalize (N.take i).map str=xs at ba HX bn
  repeat' (first|refine Z1 ?_|(refine Z8 ?_;intro ya J)|(refine Z4 ?_;clear J ya)|(refine Z2 ?_ ?_<;>intro h ae<;>try exact Xp)|(refine Z6 ?_;intro idn zn ax az ah ab af aa)|refine Z3 ?_|exact Zt|(apply J.out;clear J ya))
  refine⟨N.length-(i+1),Ad2,i+1,idn,?_⟩;exact⟨rfl,Ad2,by simp,az.put Ad2 _,by rw[<-HX.out],Own.put ax _ _⟩
 ·have bq:i=N.length:=Ad2;subst bq;rw[Aa3]at ba;have bl:RS N.length t (z.nobj+1) N i3 t z':=by
   refine⟨by rw[ba];simp[Kc,Qm],bo,?_,Acs _,Ad2,Ad2⟩;rcases hO with e|⟨k,e1,e2,e3,e4,e5⟩
   ·exact .inl e
   ·exact .inr ⟨k,e1,e3,e4,e5⟩
  have hid:i3<2\/z.ntop+2<=i3:=by
   rcases hO with e|⟨k,e1,e2,e3,e4,e5⟩<;>omega
  have hR:=cO (Bd:=N.length) ht bl;clear bl ba hO hi;cases hp:Bw 400 t with
  |bad e=>
   have a3:F1 l t=7:=by unfold F1;rw[hp]
   rw[hp]at hR;simp only[Rd.ok,Rd.Val]at hR;rw[a3];clear hp a3 ao au
   repeat' (first|refine Z1 ?_|(refine Z8 ?_;intro ya J)|(refine Z4 ?_;clear J ya)|(refine Z2 ?_ ?_<;>intro h ae<;>try exact Xp)|(refine Z6 ?_;intro idn zn ax az ah ab af aa)|(refine Z5 ?_;refine Xi (hR) ?_;rintro _ _ ⟨n,ids,c,N2,id2,r2,rfl,ac,ak,ai,-⟩;(have av:=ac.keep.nobj;have ay:=KeepR.keep hK ac.keep Ad2 hid))|refine Z3 ?_|exact Zt|(apply J.out;clear J ya))
   first|exact⟨_,rfl,1,0,0,[],rfl,ay,fun h=>by simp at h⟩|exact⟨_,rfl,1,0,0,[],rfl,fun h=>by simp at h⟩
  |got F r0=>
   obtain⟨rfl,b0,-,bg⟩:=Ct _ _ _ _ hp;rw[hp]at hR;simp only[Rd.ok,Rd.Val]at hR;have a3:F1 l t=if Gr (l.flatMap Af) F=true then 3 else if F.any (fun a=>gH l a.pred)=true then 8 else 0:=by unfold F1;rw[hp]
   rw[a3]
   have bu:∀a∈F,0<a.terms.length/\a.terms.length<=3:=fun a ha=>⟨by
    have:=(bg a ha).1.2.1;cases hh:a.terms with
    |nil=>exact absurd hh this
    |cons y ys=>simp,(bg a ha).1.2.2.1⟩
   have a8:F.length<=1000:=Ad2;have HP:Ad8 _:=hp;clear hp a3 bg;generalize b1:l.flatMap Af=A at*
   have a5:=fun N' hN fc idf hF=>ao N' hN F fc idf hF a8 bu;have bi:=fun N' hN fc idf hF=>au N' hN F fc idf hF a8;clear ao au;cases an:Gr A F with
   |true=>
    simp only[an]at a5;simp only[if_true];clear bi an
    repeat' (first|refine Z1 ?_|(refine Z8 ?_;intro ya J)|(refine Z4 ?_;clear J ya)|(refine Z2 ?_ ?_<;>intro h ae<;>try exact Xp)|(refine Z6 ?_;intro idn zn ax az ah ab af aa)|(refine Z5 ?_;first|(refine Xi (hR) ?_;rintro _ _ ⟨n,ids,c,N2,id2,r2,rfl,ac,ak,ai,⟨rfl,am⟩⟩;(have av:=ac.keep.nobj;have ay:=KeepR.keep hK ac.keep Ad2 hid;have ad:=ak.obj;unfold Kc Qm at ad;have aj:=ac.keep.obj z.nobj Ad2 Ad2;rw[bc]at aj;have a4:=fun z=>a5 N2 ai c ids am (by have:=ak.len;omega) z))|(refine Xi (a4 _) ?_;rintro _ _ ⟨rfl,ap⟩;(have a6:=ay.trans ap)))|refine Z3 ?_|exact Zt|(apply J.out;clear J ya))
    first|exact⟨_,rfl,1,0,0,[],rfl,a6,fun h=>by simp at h⟩|exact⟨_,rfl,1,0,0,[],rfl,fun h=>by simp at h⟩
   |false=>
    simp only[an]at a5;simp only[Abq,if_false];clear an;cases bb:F.any (fun a=>gH l a.pred)with
    |true=>
     have bh:∀(N2:List Tx),N<+:N2->∀(fc:List AV) (idf:Nat),EL (PF N2) F fc->F.any (fun a=>Kn N2 l (N2.idxOf a.pred))=true:=fun N2 hP fc idf hE=>by
      rw[<-bb];refine sY fun a ha=>qW (fun x hx=>hP.subset (bk x hx)) ?_;obtain⟨i,hi⟩:=Acp ha;exact (Uj hE hi).1
     simp only[if_true];clear bb
     repeat' (first|refine Z1 ?_|(refine Z8 ?_;intro ya J)|(refine Z4 ?_;clear J ya)|(refine Z2 ?_ ?_<;>intro h ae<;>try exact Xp)|(refine Z6 ?_;intro idn zn ax az ah ab af aa)|(refine Z5 ?_;first|(refine Xi (hR) ?_;rintro _ _ ⟨n,ids,c,N2,id2,r2,rfl,ac,ak,ai,⟨rfl,am⟩⟩;(have av:=ac.keep.nobj;have ay:=KeepR.keep hK ac.keep Ad2 hid;have ad:=ak.obj;unfold Kc Qm at ad;have aj:=ac.keep.obj z.nobj Ad2 Ad2;rw[bc]at aj;have a4:=fun z=>a5 N2 ai c ids am (by have:=ak.len;omega) z;have a9:=fun z=>bi N2 ai c ids am z;rw[bh N2 ai c ids am]at a9))|(refine Xi (a4 _) ?_;rintro _ _ ⟨rfl,ap⟩;(have a6:=ay.trans ap;have a0:=ap.obj;have be:=ap.nobj))|(refine Xi (a9 _) ?_;rintro _ _ ⟨rfl,a7⟩;(have bf:=a6.trans a7)))|refine Z3 ?_|exact Zt|(apply J.out;clear J ya))
     first|exact⟨_,rfl,1,0,0,[],rfl,bf,fun h=>by simp at h⟩|exact⟨_,rfl,1,0,0,[],rfl,fun h=>by simp at h⟩
    |false=>
     have bh:∀(N2:List Tx),N<+:N2->∀(fc:List AV) (idf:Nat),EL (PF N2) F fc->F.any (fun a=>Kn N2 l (N2.idxOf a.pred))=false:=fun N2 hP fc idf hE=>by
      rw[<-bb];refine sY fun a ha=>qW (fun x hx=>hP.subset (bk x hx)) ?_;obtain⟨i,hi⟩:=Acp ha;exact (Uj hE hi).1
     simp only[Abq,if_false];clear bb
     repeat' (first|refine Z1 ?_|(refine Z8 ?_;intro ya J)|(refine Z4 ?_;clear J ya)|(refine Z2 ?_ ?_<;>intro h ae<;>try exact Xp)|(refine Z6 ?_;intro idn zn ax az ah ab af aa)|(refine Z5 ?_;first|(refine Xi (hR) ?_;rintro _ _ ⟨n,ids,c,N2,id2,r2,rfl,ac,ak,ai,⟨rfl,am⟩⟩;(have av:=ac.keep.nobj;have ay:=KeepR.keep hK ac.keep Ad2 hid;have ad:=ak.obj;unfold Kc Qm at ad;have aj:=ac.keep.obj z.nobj Ad2 Ad2;rw[bc]at aj;have a4:=fun z=>a5 N2 ai c ids am (by have:=ak.len;omega) z;have a9:=fun z=>bi N2 ai c ids am z;rw[bh N2 ai c ids am]at a9))|(refine Xi (a4 _) ?_;rintro _ _ ⟨rfl,ap⟩;(have a6:=ay.trans ap;have a0:=ap.obj;have be:=ap.nobj))|(refine Xi (a9 _) ?_;rintro _ _ ⟨rfl,a7⟩;(have bf:=a6.trans a7;have bd:=a7.obj;have bm:=a7.nobj)))|refine Z3 ?_|exact Zt|(apply J.out;clear J ya))
     rename_i z1 _ z3 _ z4;have o7:z4.obj (z.nobj+1)=[str t,ic ((t.length-r2.length:Nat):Int),sl id2 N2.length (N2.map str)]:=by rw[bd _ Ad2,a0 _ Ad2];exact ad
     refine Aq Ad (fun _=>True) [] [0,1,2,3,4,5,6] [] Ad5 (fun _ _ _ h=>h) ?_;intro ya J
     repeat' (first|refine Z1 ?_|(refine Z8 ?_;intro ya J)|(refine Z4 ?_;clear J ya)|(refine Z2 ?_ ?_<;>intro h ae<;>try exact Xp)|(refine Z6 ?_;intro idn zn ax az ah ab af aa)|refine Z3 ?_|exact Zt|(apply J.out;clear J ya))
     first|exact⟨_,rfl,ids,F.length,N2.length,c,rfl,bf,fun _=>⟨F,N2,rfl,rfl,rfl,ai,by have:=ak.len;omega,am⟩⟩|exact⟨_,rfl,ids,F.length,N2.length,c,rfl,fun _=>⟨F,N2,rfl,rfl,rfl,ai,by have:=ak.len;omega,am⟩⟩
def Cy:List Int->List Int->Bool
 |x::t,y::u=>if x=y then Cy t u else decide (x<y)
 |_,_=>false
theorem rR {t u:List Int}{i:Nat}{x y:Int}(ht:t[i]?=some x)(hu:u[i]?=some y):Cy (t.drop i) (u.drop i)=if x=y then Cy (t.drop (i+1)) (u.drop (i+1))else decide (x<y):=by
 obtain⟨h1,e1⟩:=Aau.1 ht;obtain⟨h2,e2⟩:=Aau.1 hu;rw[Abx h1,Abx h2,e1,e2];rfl
theorem Yw:∀t:List Int,Cy t t=false
 |[]=>rfl
 |x::t=>by simp[Cy,Yw t]
theorem Kv:∀{t u:List Int},Cy t u=true->Cy u t=false
 |[],_,h=>by simp[Cy]at h
 |_::_,[],h=>by simp[Cy]at h
 |x::t,y::u,h=>by
  unfold Cy at h⊢;by_cases e:x=y
  ·subst e;simp only[if_true]at h⊢;exact Kv h
  ·rw[if_neg e]at h;rw[if_neg (fun e'=>e e'.symm)];simp at h⊢;omega
theorem Aag (a b c d e f:Int):Cy [d,e,f] [a,b,c]=false↔(a<d\/(a=d/\(b<e\/(b=e/\c<=f)))):=by
 simp only[Cy];by_cases e1:d=a
 ·rw[if_pos e1];by_cases e2:e=b
  ·rw[if_pos e2];by_cases e3:f=c
   ·rw[if_pos e3];simp;omega
   ·rw[if_neg e3];simp;omega
  ·rw[if_neg e2];simp;omega
 ·rw[if_neg e1];simp;omega
theorem Pe {t u v:List Int}(ht:t.length=3)(hu:u.length=3)(hv:v.length=3)(h1:Cy u t=false)(h2:Cy v u=false):Cy v t=false:=by
 match t,u,v,ht,hu,hv with
 |[a,b,c],[d,e,f],[g,h,i],_,_,_=>
  rw[Aag]at h1 h2⊢;omega
theorem lN {t u:List Int}(ht:t.length=3)(hu:u.length=3)(h1:Cy t u=false)(h2:Cy u t=false):t=u:=by
 match t,u,ht,hu with
 |[a,b,c],[d,e,f],_,_=>
  simp only[Cy]at h1 h2;by_cases e1:a=d
  ·subst e1;simp only[if_true]at h1 h2;by_cases e2:b=e
   ·subst e2;simp only[if_true]at h1 h2;by_cases e3:c=f
    ·rw[e3]
    ·rw[if_neg e3]at h1;rw[if_neg (fun e=>e3 e.symm)]at h2;simp at h1 h2;omega
   ·rw[if_neg e2]at h1;rw[if_neg (fun e=>e2 e.symm)]at h2;simp at h1 h2;omega
  ·rw[if_neg e1]at h1;rw[if_neg (fun e=>e1 e.symm)]at h2;simp at h1 h2;omega
theorem iW (t u:Bj)(ht:t.length=3)(hu:u.length=3)(z:St):ACalls Tryz.prog 133 [ag (Aj t),ag (Aj u)] z fun r z'=>r=sc (.bool (Cy t u))/\Keep z z':=by
 have f1:=Dj ht;have f3:=D1 ht;have f4:=G3 ht;have f5:=Cj t;have g1:=Dj hu;have g3:=D1 hu;have g4:=G3 hu;have g5:=Cj u;refine Z9 24 [.tmp 4] Tryz.func133 ?_
 repeat' (first|refine Z1 ?_|(refine Z8 ?_;intro ya J)|(refine Z4 ?_;clear J ya)|(refine Z2 ?_ ?_<;>intro h aa<;>try exact Xp)|refine Z7 ?_|exact Zt|(apply J.out;clear J ya))
 refine Ab (fun m s z'=>∃i:Nat,m=3-i/\i<=3/\s 2=ptr z.nobj 0/\s 3=ptr (z.nobj+1) 0/\s 6=ic i/\z'=(z.new (Aj t)).new (Aj u)/\Ad8 (Cy t u=Cy (t.drop i) (u.drop i))) 3
  ⟨0,Ad2,Ad2,Ad4,Ad4,Ad4,rfl,by simp[Ad8]⟩ ?_
 rintro m s z' ⟨i,rfl,hi,h2,h3,h6,rfl,hL⟩;by_cases ai:i<3
 ·have ac:t[i]?=some t[i]:=Aav Ad2;have ab:u[i]?=some u[i]:=Aav Ad2;have ah:=Ir ac;have af:=Ir ab;have HS:Ad8 _:=rR ac ab;generalize t[i]=x at ah HS;generalize u[i]=y at af HS;clear ac ab
  repeat' (first|refine Z1 ?_|(refine Z8 ?_;intro ya J)|(refine Z4 ?_;clear J ya)|(refine Z2 ?_ ?_<;>intro h aa<;>try exact Xp)|refine Z7 ?_|exact Zt|(apply J.out;clear J ya))
  refine Aq Ad (fun _=>True) [] [0,1,2,3,4,5,6] [] Ad5 (fun _ _ _ h=>h) ?_;intro ya J
  repeat' (first|refine Z1 ?_|(refine Z8 ?_;intro ya J)|(refine Z4 ?_;clear J ya)|(refine Z2 ?_ ?_<;>intro h aa<;>try exact Xp)|refine Z7 ?_|exact Zt|(apply J.out;clear J ya))
  ·refine Aq Ad (fun _=>True) [] [0,1,2,3,4,5,6,7] [] Ad5 (fun _ _ _ h=>h) ?_;intro ya J
   repeat' (first|refine Z1 ?_|(refine Z8 ?_;intro ya J)|(refine Z4 ?_;clear J ya)|(refine Z2 ?_ ?_<;>intro h aa<;>try exact Xp)|refine Z7 ?_|exact Zt|(apply J.out;clear J ya))
   have ad:x≠y:=by simpa using h
   exact⟨_,rfl,by rw[hL.out,HS.out,if_neg ad],((Keep.refl z).new _).new _⟩
  ·have he:x=y:=by simpa using h
   have HL:Ad8 (Cy t u=Cy (t.drop (i+1)) (u.drop (i+1))):=by rw[Ad8,hL.out,HS.out,if_pos he]
   refine⟨3-(i+1),Ad2,i+1,?_⟩
   ((repeat' refine Zi ?_ ?_)<;>first|exact Xq|exact HL|exact Xs)
 ·have ae:i=3:=Ad2;subst ae;have hz:Cy t u=false:=by rw[hL.out,Aa0 Ad2];rfl
  rw[hz]
  repeat' (first|refine Z1 ?_|(refine Z8 ?_;intro ya J)|(refine Z4 ?_;clear J ya)|(refine Z2 ?_ ?_<;>intro h aa<;>try exact Xp)|refine Z7 ?_|exact Zt|(apply J.out;clear J ya))
  exact⟨_,rfl,rfl,((Keep.refl z).new _).new _⟩
def jn:List Int->Tx
 |[]=>[]
 |x::xs=>Lib.itoa x++xs.flatMap fun y=>44::Lib.itoa y
theorem vS (l:List Int)(x:Int):jn (l++[x])=if l=[]then Lib.itoa x else jn l++44::Lib.itoa x:=by
 cases l with
 |nil=>simp[jn]
 |cons y l=>simp[jn]
def tups (t:Bj):List Int:=t.takeWhile (fun x=>decide (x≠ -1))
def Ra (t:Bj):Tx:=jn (tups t)
theorem Sf {t:Bj}{i:Nat}(h:∀x∈t.take i,x≠ -1)(he:t[i]?=some (-1)\/t.length<=i):tups t=t.take i:=by
 unfold tups
 conv=>lhs;rw[<-Ada i t]
 rw[List.takeWhile_append_of_pos (fun x hx=>by simpa using h x hx)];rcases he with he|he
 ·obtain⟨h1,h2⟩:=Aau.1 he;rw[Abx h1,h2];simp
 ·rw[Aa0 he];simp
theorem Gt (x:Int)(h0:0<=x)(h1:x<=9999):(Lib.itoa x).length<=10:=by
 have key:∀(k u:Nat),u<10^(k+1)->(Lib.decDigits u).length<=k+1:=by
  intro k;induction k with
  |zero=>intro u hu;rw[Lib.decDigits,dif_pos (by simpa using hu)];simp
  |succ k ih=>
   intro u hu;rw[Lib.decDigits];split
   ·simp
   ·rw[Abj];have:=ih (u / 10) (by rw[Nat.pow_succ]at hu;omega);simp;omega
 unfold Lib.itoa;rw[if_neg Ad2];have:=key 3 x.toNat (by simp;omega);omega
theorem Uy (t:Bj)(ht:t.length=3)(hb:∀x∈t,-1<=x/\x<=9999)(z:St):ACalls Tryz.prog 81 [ag (Aj t)] z fun r z'=>r=str (Ra t)/\Keep z z':=by
 have f1:=Dj ht;have f3:=D1 ht;have f4:=G3 ht;have f5:=Cj t;have au:({data:=#[44]}:ByteArray)=bs [44]:=rfl;have ak:=qF;refine Z9 24 [.tmp 2] Tryz.func81 ?_
 repeat' (first|refine Z1 ?_|(refine Z8 ?_;intro ya J)|(refine Z4 ?_;clear J ya)|(refine Z2 ?_ ?_<;>intro h aa<;>try exact Xp)|refine Z7 ?_|exact Zt|(apply J.out;clear J ya))
 refine Ab (fun m s z'=>∃i:Nat,m=3-i/\i<=3/\s 3=str (jn (t.take i))/\s 6=ag (Aj t)/\s 7=ic i/\Keep z z'/\(jn (t.take i)).length<=20*i/\Ad8 (∀x∈t.take i,x≠ -1)) 3
  ⟨0,Ad2,Ad2,by simp[upd,jn];try rfl,Ad3,Ad4,Xs,by simp[jn],by simp[Ad8]⟩ ?_
 rintro m s z' ⟨i,rfl,hi,h3,h6,h7,hK,ah,hN⟩;by_cases am:i<3
 ·have ab:t[i]?=some t[i]:=Aav Ad2;have ae:=Ir ab;have af:=hb t[i] (Ab1 Ad2);generalize t[i]=x at ae ab af;by_cases hx:x= -1
  ·subst hx;have HR:Ad8 (Ra t=jn (t.take i)):=by rw[Ad8,Ra,Sf hN.out (.inl ab)]
   clear ab
   repeat' (first|refine Z1 ?_|(refine Z8 ?_;intro ya J)|(refine Z4 ?_;clear J ya)|(refine Z2 ?_ ?_<;>intro h aa<;>try exact Xp)|refine Z7 ?_|exact Zt|(apply J.out;clear J ya))
   first|exact⟨_,rfl,by rw[HR.out],hK⟩|exact⟨_,rfl,by rw[HR.out]⟩
  ·have aj:(x== -1)=false:=by simpa using hx
   have hI:=fun z=>oD x Ad2 Ad2 z;have HT:Ad8 (jn (t.take (i+1))=if i=0 then Lib.itoa x else jn (t.take i)++44::Lib.itoa x):=by
    rw[Ad8,Aa8,ab,Ab9,vS];by_cases e:i=0
    ·subst e;simp
    ·rw[if_neg e,if_neg (fun h=>by have:=congrArg List.length h;rw[Abk,Abu]at this;omega)]
   have HN:Ad8 (∀y∈t.take (i+1),y≠ -1):=fun y hy=>by
    rw[Aa8,ab,Ab9]at hy;rcases Ab2.1 hy with h|h
    ·exact hN.out y h
    ·simp at h;subst h;exact hx
   by_cases e:i=0
   ·subst e;have HJ:Ad8 (jn (t.take 1)=Lib.itoa x):=by rw[Ad8];have:=HT.out;simpa using this
    have ad:jn (t.take 0)=[]:=by simp[jn]
    rw[ad]at h3;have ap:(Aj t).head?=some (ic x):=by rw[List.head?_eq_getElem?];exact ae
    have ac:=Gt x Ad2 Ad2;clear ab hx HT ad
    repeat' (first|refine Z1 ?_|(refine Z8 ?_;intro ya J)|(refine Z4 ?_;clear J ya)|(refine Z2 ?_ ?_<;>intro h aa<;>try exact Xp)|(refine Z5 ?_;refine Xi (hI _) ?_;rintro _ _ ⟨rfl,rfl⟩)|refine Z7 ?_|exact Zt|(apply J.out;clear J ya))
    exact⟨3-(0+1),Ad2,1,rfl,Ad2,by rw[HJ.out],rfl,by rw[HJ.out];omega,HN⟩
   ·have ao:decide ((i:Int)>0)=true:=by simp;omega
    have HJ:Ad8 (jn (t.take (i+1))=jn (t.take i)++44::Lib.itoa x):=by have:=HT.out;rwa[if_neg e]at this
    have ac:=Gt x Ad2 Ad2;have ai:Ad8 ((jn (t.take (i+1))).length<=20*(i+1)):=by rw[Ad8,HJ.out];simp;omega
    clear ab hx HT;generalize an:jn (t.take i)=js at h3 ah HJ
    repeat' (first|refine Z1 ?_|(refine Z8 ?_;intro ya J)|(refine Z4 ?_;clear J ya)|(refine Z2 ?_ ?_<;>intro h aa<;>try exact Xp)|(refine Z5 ?_;refine Xi (hI _) ?_;rintro _ _ ⟨rfl,rfl⟩)|refine Z7 ?_|exact Zt|(apply J.out;clear J ya))
    exact⟨3-(i+1),Ad2,i+1,rfl,Ad2,by rw[HJ.out];simp[str],by simp,ai,HN⟩
 ·have ac:i=3:=Ad2;subst ac;have HR:Ad8 (Ra t=jn (t.take 3)):=by rw[Ad8,Ra,Sf hN.out (.inr Ad2)]
  repeat' (first|refine Z1 ?_|(refine Z8 ?_;intro ya J)|(refine Z4 ?_;clear J ya)|(refine Z2 ?_ ?_<;>intro h aa<;>try exact Xp)|refine Z7 ?_|exact Zt|(apply J.out;clear J ya))
  first|exact⟨_,rfl,by rw[HR.out],hK⟩|exact⟨_,rfl,by rw[HR.out]⟩
end Go.Proofs.YtmoeoppbmhfbpaaGreatDoorH
