import Derived.Test.YtmoeoppbmhfbpabGreatDoorIFacts
import Derived.Test.YtmoeoppbmhfbpabGreatDoorIAbsWp
set_option maxHeartbeats 16000000
set_option maxRecDepth 100000
set_option linter.all false
open List renaming length->Z
namespace Go.Proofs.YtmoeoppbmhfbpabGreatDoorI
open Go.Abs
abbrev Tm:=Bool×Int
structure Dv where
 p:Int
 ts:List Tm
abbrev Cc:=List Int
def Jx (t:Tm):List AV:=[sc (.bool t.1),ic t.2]
def Ad (ts:List Tm):List AV:=ts.flatMap Jx
theorem Cs (ts):Z (Ad ts)=Z ts*2:=by
 induction ts with
 |nil=>rfl
 |cons a l ih=>unfold Ad at*;rw[DK,AX,ih];simp[Jx];omega
theorem Ua (ts x):Ad (ts++[x])=Ad ts++Jx x:=by simp[Ad]
theorem Cz {ts k w}(h:ts[k]?=some w):∃r,(Ad ts).drop (k*2)=sc (.bool w.1)::ic w.2::r:=by
 have hE:∀ts:List Tm,EL (fun w c=>c=Jx w) ts (Ad ts):=by
  intro ts;induction ts with
  |nil=>rfl
  |cons a l ih=>exact⟨Jx a,Ad l,rfl,ih,by simp[Ad]⟩
 obtain⟨c,r,rfl,e⟩:=EL.get (z:=2) (fun a c h=>by rw[h];rfl) (hE ts) h;exact⟨r,e⟩
def Ju (ts:List Tm)(v:Int):Int:=if (true,v)∈ts then (ts.idxOf (true,v):Nat)else -1
theorem Yp {α:Type}[BEq α][LawfulBEq α]{l:List α}{i x}(h:l[i]?=some x)(hn:x∉l.take i):l.idxOf x=i:=by
 have hi:=(BG.1 h).1;have:l=l.take i++l.drop i:=(KJ i l).symm;rw[this,List.idxOf_append,if_neg hn,CV,EZ AA,FJ hi];have:=(BG.1 h).2;simp[this]
theorem XC {ts:List Tm}{v i}(h:ts[i]?=some (true,v))(hn:(true,v)∉ts.take i):Ju ts v=i:=by
 unfold Ju;rw[if_pos (BD h),Yp h hn]
theorem Kv {ts v}(hn:(true,v)∉ts):Ju ts v= -1:=if_neg hn
theorem X6 {α:Type}{l:List α}{i x y}(h:x∉l.take i)(hi:l[i]?=some y)(hy:y≠x):x∉l.take (i+1):=by
 rw[AU,hi];simp only[BJ,AW,GF,not_or];exact⟨h,fun e=>hy e.symm⟩
theorem G4 (p ids ts v)(hn:Z ts<=1000)(A):AF Tryz.prog 217 [ag [ic p,sl ids (Z ts) (Ad ts)],ic v] A fun r A'=>r=ic (Ju ts v)/\AE A A':=by
 have af:=Cs ts;refine Z9 25 [.tmp 4] Tryz.func217 ?_
 refine zz ?_
 refine Ae (fun m s A'=>∃i:Nat,m=Z ts-i/\i<=Z ts/\s 1=ic v/\s 8=sl ids (Z ts) (Ad ts)/\s 9=ic (Z ts)/\s 10=ic i/\AE A A'/\AD ((true,v)∉ts.take i)) (Z ts)
  ⟨0,AA,AA,rfl,rfl,rfl,rfl,Xs,by simp[AD]⟩ ?_
 rintro m s A' ⟨i,rfl,hi,h1,h8,h9,ah,hK,ab⟩;by_cases ad:i<Z ts
 ·have aa:=AJ ad;obtain⟨r,hd⟩:=Cz aa;generalize ts[i]=w at hd aa;obtain⟨w1,w2⟩:=w;have HG:AD (ts[i]?=some (w1,w2)):=aa;clear aa;have ae:=hK.B
  repeat' first|refine Z1 ?_|refine Z8 fun yd yb=>?_|refine Z4 ?_;clear yb yd|refine Z2 ?_ ?_<;>intro h ac<;>try exact Xp|refine Z3 ?_|exact Zt|apply yb.o;clear yb yd
  ·have e:w1=true/\w2=v:=by simp_all
   obtain⟨rfl,rfl⟩:=e;exact⟨_,rfl,by rw[XC HG.o ab.o],Xs⟩
  all_goals exact⟨Z ts-(i+1),AA,i+1,rfl,AA,by simp,Xs,X6 ab.o HG.o (by simp_all)⟩
 ·have hil:i=Z ts:=AA;subst hil;rw[AS]at ab
  refine pz ?_
  first|exact⟨_,rfl,by rw[Kv ab.o],hK⟩|exact⟨_,rfl,by rw[Kv ab.o]⟩
def Bj (ts:List Tm)(v:Int):Bool:=decide ((true,v)∈ts)
theorem gs (ts v):(Ju ts v != -1)=Bj ts v:=by
 unfold Ju Bj;split<;>rename_i h<;>simp[h]
theorem K8 (p ids ts v)(hn:Z ts<=1000)(A):AF Tryz.prog 232 [ag [ic p,sl ids (Z ts) (Ad ts)],ic v] A fun r A'=>r=sc (.bool (Bj ts v))/\AE A A':=by
 have hp:=gs ts v;refine Z9 9 [.tmp 4] Tryz.func232 ?_
 refine qb ?_;intro yd yb;refine Xi (G4 _ _ _ _ hn _) ?_;rintro _ _ ⟨rfl,hK⟩;refine pz ?_
 exact⟨_,rfl,rfl,Xs⟩
def I5 (ts:List Tm):Bool:=ts.all fun t=>!t.1
theorem Pi (p ids ts)(hn:Z ts<=1000)(A):AF Tryz.prog 131 [ag [ic p,sl ids (Z ts) (Ad ts)]] A fun r A'=>r=sc (.bool (I5 ts))/\AE A A':=by
 have ah:=Cs ts;refine Z9 15 [.tmp 2] Tryz.func131 ?_
 refine pz ?_
 refine Ae (fun m s A'=>∃i:Nat,m=Z ts-i/\i<=Z ts/\s 6=sl ids (Z ts) (Ad ts)/\s 7=ic (Z ts)/\s 8=ic i/\AE A A'/\AD (I5 (ts.take i)=true)) (Z ts)
  ⟨0,AA,AA,rfl,rfl,rfl,Xs,by simp[AD,I5]⟩ ?_
 rintro m s A' ⟨i,rfl,hi,h6,h7,h8,hK,ab⟩;by_cases ae:i<Z ts
 ·have aa:=AJ ae;obtain⟨r,hd⟩:=Cz aa;have ac:=AT ae;generalize ts[i]=w at hd aa ac;obtain⟨w1,w2⟩:=w;have HG:AD (ts[i]?=some (w1,w2)/\(w1,w2)∈ts):=⟨aa,ac⟩;clear aa ac;have af:=hK.B
  refine qe ?_ ?_<;>intro h ad
  ·exact⟨_,rfl,by
    have:I5 ts=false:=by
     unfold I5;rw[LH];exact⟨_,HG.o.2,by simp_all⟩
    rw[this],Xs⟩
  ·exact⟨Z ts-(i+1),AA,i+1,rfl,AA,by simp,Xs,by
    have ab:=ab.o;unfold I5 at ab;rw[AD,I5,AU,HG.o.1,List.all_append,ab]
    simp_all⟩
 ·have hil:i=Z ts:=AA;subst hil;rw[AS]at ab;have ab:=ab.o
  refine pz ?_
  first|exact⟨_,rfl,rfl,hK⟩|exact⟨_,rfl,rfl⟩
def C4 (l:List Int):Cc:=[(l[0]?).getD (-1),(l[1]?).getD (-1),(l[2]?).getD (-1)]
def As (t:List Int):List AV:=t.map ic
theorem T6 (p ids ts)(hn:Z ts<=1000)(A):AF Tryz.prog 135 [ag [ic p,sl ids (Z ts) (Ad ts)]] A fun r A'=>r=ag (As (C4 (ts.map (·.2))))/\AE A A':=by
 have ak:=Cs ts;have af:∃L:Nat->Int,(∀i,L i=((ts[i]?).map (·.2)).getD (-1))/\As (C4 (ts.map (·.2)))=[ic (L 0),ic (L 1),ic (L 2)]:=⟨fun i=>((ts[i]?).map (·.2)).getD (-1),fun _=>rfl,by simp[As,C4]⟩;obtain⟨L,hL,hT⟩:=af;refine Z9 26 [.cell 2 141] Tryz.func135 ?_
 refine pz ?_
 refine Ae (fun m s A'=>∃(i:Nat),m=3-i/\i<=3/\s 1=ptr A.B 0/\s 2=ptr (A.B+1) 0/\s 3=ptr (A.B+2) 0/\s 6=ic i/\AE A A'/\A.B+2<A'.B/\A'.C A.B=[ic p,sl ids (Z ts) (Ad ts)]/\A'.C (A.B+1)=[ic 0,ic 0,ic 0]/\A'.C (A.B+2)=[ic (if 0<i then L 0 else 0),ic (if 1<i then L 1 else 0),ic (if 2<i then L 2 else 0)]) 3
  ⟨0,AA,AA,AG,AG,AG,rfl,Xs,by simp only[Aa,Ab];omega,?_,?_,?_⟩ ?_
 ·rw[Aj AA,Ah AK,Ah AK,Ao]
 ·rw[Aj AA,Ah AK,Bg AK AK]
 ·rw[show A.B+2=A.B+1+1 from rfl,Ak];rfl
 rintro m s A' ⟨i,rfl,hi,h1,h2,h3,h6,hK,am,ai,ah,ad⟩;have aj:=hK.B;by_cases an:i<3
 ·by_cases hl:i<Z ts
  ·have aa:=AJ hl;obtain⟨r,hd⟩:=Cz aa;have ab:=hL i;rw[aa]at ab;generalize ts[i]=w at hd aa ab;obtain⟨w1,w2⟩:=w;clear aa hL;simp only[GZ,Option.getD_some]at ab;rcases (show i=0\/i=1\/i=2 by omega)with rfl|rfl|rfl
   all_goals
    simp only[↓reduceIte,Nat.lt_irrefl,Nat.reduceLT,Nat.reduceMul,MX,NT]at ad hd ab
    refine pz ?_
    first|exact⟨2,AA,1,rfl,AA,rfl,Xs,by simp[*]⟩|exact⟨1,AA,2,rfl,AA,rfl,Xs,by simp[*]⟩|exact⟨0,AA,3,rfl,AA,rfl,Xs,by simp[*]⟩
  ·have ab:=hL i;rw[FK AA]at ab;simp only[Option.map_none,Option.getD_none]at ab;clear hL;rcases (show i=0\/i=1\/i=2 by omega)with rfl|rfl|rfl
   all_goals
    simp only[↓reduceIte,Nat.lt_irrefl,Nat.reduceLT,Nat.reduceMul,MX,NT]at ad ab
    refine pz ?_
    first|exact⟨2,AA,1,rfl,AA,rfl,Xs,by simp[*]⟩|exact⟨1,AA,2,rfl,AA,rfl,Xs,by simp[*]⟩|exact⟨0,AA,3,rfl,AA,rfl,Xs,by simp[*]⟩
 ·have ae:i=3:=AA;subst ae;simp only[↓reduceIte,Nat.reduceLT]at ad
  refine pz ?_
  first|exact⟨_,rfl,by rw[hT],Xs⟩|exact⟨_,rfl,rfl,Xs⟩
theorem B9 (l):Z (As l)=Z l:=by simp[As]
theorem Dz {l k n}(h:l[k]?=some n):∃r,(As l).drop k=ic n::r:=by
 have hk:=(BG.1 h);obtain⟨h1,h2⟩:=hk;refine⟨(As l).drop (k+1),?_⟩;rw[FJ (by rw[B9];exact h1)];simp[As,h2]
theorem Fw (l):(As l).all flat=true:=by
 rw[EK];intro x hx;obtain⟨n,-,rfl⟩:=AO.1 hx;rfl
theorem H7 (v l id)(hn:Z l<=100000)(A):AF Tryz.prog 85 [ic v,sl id (Z l) (As l)] A fun r A'=>r=ic (if v∈l then (l.idxOf v:Nat)else -1)/\AE A A':=by
 have af:=B9 l;refine Z9 19 [.tmp 4] Tryz.func85 ?_
 refine zz ?_
 refine Ae (fun m s A'=>∃i:Nat,m=Z l-i/\i<=Z l/\s 0=ic v/\s 7=sl id (Z l) (As l)/\s 8=ic (Z l)/\s 9=ic i/\AE A A'/\AD (v∉l.take i)) (Z l)
  ⟨0,AA,AA,rfl,rfl,rfl,rfl,Xs,by simp[AD]⟩ ?_
 rintro m s A' ⟨i,rfl,hi,h0,h7,h8,h9,hK,ab⟩;by_cases ad:i<Z l
 ·have aa:=AJ ad;obtain⟨r,hd⟩:=Dz aa;generalize l[i]=w at hd aa;have HG:AD (l[i]?=some w):=aa;clear aa;have ae:=hK.B
  refine qe ?_ ?_<;>intro h ac
  ·have e:w=v:=by simp_all
   subst e;exact⟨_,rfl,by rw[if_pos (BD HG.o),Yp HG.o ab.o]⟩
  all_goals exact⟨Z l-(i+1),AA,i+1,rfl,AA,by simp,X6 ab.o HG.o (by simp_all)⟩
 ·have hil:i=Z l:=AA;subst hil;rw[AS]at ab
  refine pz ?_
  first|exact⟨_,rfl,by rw[if_neg ab.o],hK⟩|exact⟨_,rfl,by rw[if_neg ab.o]⟩
theorem Tw (v)(l:List Int):((if v∈l then ((l.idxOf v:Nat):Int)else -1)== -1)=decide (v∉l):=by
 split<;>rename_i h<;>simp[h]
theorem Lx (p ids ts l id)(hn:Z ts<=1000)(hl:Z l<=100000)(A):AF Tryz.prog 225 [ag [ic p,sl ids (Z ts) (Ad ts)],sl id (Z l) (As l)] A fun r A'=>r=sc (.bool (l.any (Bj ts)))/\AE A A':=by
 have aj:=B9 l;refine Z9 17 [.tmp 4] Tryz.func225 ?_
 refine zz ?_
 refine Ae (fun m s A'=>∃i:Nat,m=Z l-i/\i<=Z l/\s 2=ptr A.B 0/\s 7=sl id (Z l) (As l)/\s 8=ic (Z l)/\s 9=ic i/\AE A A'/\A.B<A'.B/\A'.C A.B=[ic p,sl ids (Z ts) (Ad ts)]/\AD ((l.take i).any (Bj ts)=false)) (Z l)
  ⟨0,AA,AA,AG,AG,AG,rfl,Xs,AK,by rw[Ao],by simp[AD]⟩ ?_
 rintro m s A' ⟨i,rfl,hi,h2,h7,h8,h9,hK,ak,ob,hA⟩;have ai:=hK.B;by_cases ae:i<Z l
 ·have aa:=AJ ae;obtain⟨r,hd⟩:=Dz aa;have ab:=AT ae;generalize l[i]=w at hd aa ab;have HG:AD (l[i]?=some w/\w∈l):=⟨aa,ab⟩;clear aa ab
  refine qb ?_;intro yd yb;refine Xi (K8 _ _ _ _ hn _) ?_;rintro _ _ ⟨rfl,ac⟩;(have ah:=ac.B;have af:=ac.C);refine qe ?_ ?_<;>intro h ad
  ·first|exact⟨_,rfl,by rw[CW.2 ⟨w,HG.o.2,by assumption⟩],hK.trans ac⟩|exact⟨_,rfl,by rw[CW.2 ⟨w,HG.o.2,by assumption⟩]⟩
  ·exact⟨Z l-(i+1),AA,i+1,rfl,AA,by simp,hK.trans ac,AA,by
    rw[AD,AU,HG.o.1,LM,hA.o]
    simp_all⟩
 ·have hil:i=Z l:=AA;subst hil;rw[AS]at hA;have hA:=hA.o
  refine pz ?_
  first|exact⟨_,rfl,rfl,hK⟩|exact⟨_,rfl,rfl⟩|exact⟨_,rfl,hK⟩|exact hK|exact⟨_,rfl,by rw[hA],hK⟩|exact⟨_,rfl,by rw[hA]⟩
theorem gO (p ids ts l id)(hn:Z ts<=1000)(hl:Z l<=100000)(A):AF Tryz.prog 251 [ag [ic p,sl ids (Z ts) (Ad ts)],sl id (Z l) (As l)] A fun r A'=>r=sc (.bool (l.all (Bj ts)))/\AE A A':=by
 have aj:=B9 l;refine Z9 18 [.tmp 4] Tryz.func251 ?_
 refine pz ?_
 refine Ae (fun m s A'=>∃i:Nat,m=Z l-i/\i<=Z l/\s 2=ptr A.B 0/\s 7=sl id (Z l) (As l)/\s 8=ic (Z l)/\s 9=ic i/\AE A A'/\A.B<A'.B/\A'.C A.B=[ic p,sl ids (Z ts) (Ad ts)]/\AD ((l.take i).all (Bj ts)=true)) (Z l)
  ⟨0,AA,AA,AG,AG,AG,rfl,Xs,AK,by rw[Ao],by simp[AD]⟩ ?_
 rintro m s A' ⟨i,rfl,hi,h2,h7,h8,h9,hK,ak,ob,hA⟩;have ai:=hK.B;by_cases ae:i<Z l
 ·have aa:=AJ ae;obtain⟨r,hd⟩:=Dz aa;have ab:=AT ae;generalize l[i]=w at hd aa ab;have HG:AD (l[i]?=some w/\w∈l):=⟨aa,ab⟩;clear aa ab
  refine qb ?_;intro yd yb;refine Xi (K8 _ _ _ _ hn _) ?_;rintro _ _ ⟨rfl,ad⟩;(have ah:=ad.B;have af:=ad.C);refine qe ?_ ?_<;>intro h ac
  ·first|exact⟨_,rfl,by rw[LH.2 ⟨w,HG.o.2,by simp_all⟩],hK.trans ad⟩|exact⟨_,rfl,by rw[LH.2 ⟨w,HG.o.2,by simp_all⟩]⟩
  ·exact⟨Z l-(i+1),AA,i+1,rfl,AA,by simp,hK.trans ad,AA,by
    rw[AD,AU,HG.o.1,List.all_append,hA.o]
    simp_all⟩
 ·have hil:i=Z l:=AA;subst hil;rw[AS]at hA;have hA:=hA.o
  refine pz ?_
  first|exact⟨_,rfl,rfl,hK⟩|exact⟨_,rfl,rfl⟩|exact⟨_,rfl,hK⟩|exact hK|exact⟨_,rfl,by rw[hA],hK⟩|exact⟨_,rfl,by rw[hA]⟩
theorem Np (l id)(hn:Z l<=100000)(h0:∀n∈l,0<=n/\n<=1000000)(A):AF Tryz.prog 140 [sl id (Z l) (As l)] A fun r A'=>r=ic l.sum/\AE A A':=by
 have ae:=B9 l;refine Z9 17 [.tmp 2] Tryz.func140 ?_
 refine pz ?_
 refine Ae (fun m s A'=>∃i:Nat,m=Z l-i/\i<=Z l/\s 3=ic (l.take i).sum/\s 6=sl id (Z l) (As l)/\s 7=ic (Z l)/\s 8=ic i/\AE A A'/\0<=(l.take i).sum/\(l.take i).sum<=i*1000000) (Z l)
  ⟨0,AA,AA,rfl,rfl,rfl,rfl,Xs,by simp,by simp⟩ ?_
 rintro m s A' ⟨i,rfl,hi,h3,h6,h7,h8,hK,b0,b1⟩;by_cases ac:i<Z l
 ·have aa:=AJ ac;obtain⟨r,hd⟩:=Dz aa;have hb:=h0 l[i] (AT ac);have hs:AD ((l.take (i+1)).sum=(l.take i).sum+l[i]):=by
   rw[AD,AU,aa];simp only[BJ,List.sum_append,List.sum_cons,List.sum_nil];omega
  generalize l[i]=w at hd aa hb hs;clear aa;generalize (l.take i).sum=acc at h3 b0 b1 hs;have ad:=hK.B
  refine pz ?_
  exact⟨Z l-(i+1),AA,i+1,rfl,AA,by rw[hs.o],by simp,by rw[hs.o];omega,by rw[hs.o];omega⟩
 ·have hil:i=Z l:=AA;subst hil;rw[AS]at h3
  refine pz ?_
  first|exact⟨_,rfl,rfl,hK⟩|exact⟨_,rfl,rfl⟩|exact⟨_,rfl,hK⟩
def Zx (v n:Int)(t:Tm):Tm:=if t=(true,v)then (false,n)else t
def Br (v n:Int)(ts:List Tm):List Tm:=ts.map (Zx v n)
theorem qX {v n ts}(h:Bj ts v=false):Br v n ts=ts:=by
 unfold Br
 conv=>rhs;rw[<-IY ts]
 apply CK;intro t ht;unfold Zx;rw[if_neg]
 ·rfl
 ·rintro rfl;simp[Bj]at h;exact h ht
theorem Ou (p ids ts v n)(hn:Z ts<=1000)(A):AF Tryz.prog 226 [ag [ic p,sl ids (Z ts) (Ad ts)],ic v,ic n] A fun r A'=>(∃id,r=ag [ic p,sl id (Z (Br v n ts)) (Ad (Br v n ts))])/\AE A A':=by
 have ay:=Cs ts;refine Z9 43 [.cell 6 122] Tryz.func226 ?_
 refine qb ?_;intro yd yb;refine Xi (K8 _ _ _ _ hn _) ?_;rintro _ _ ⟨rfl,ai⟩;(have am:=ai.B;have ab:=ai.C;(try simp only[Aa]at am ab));refine qe ?_ ?_<;>intro h ad
 ·have e:=qX (n:=n) h;rw[e];exact⟨_,rfl,⟨_,rfl⟩,(((AE.refl _).new _).new _).trans ai|>.put AA _⟩
 ·rename_i A1;have aw:AE A A1:=(((AE.refl _).new _).new _).trans ai;have kn1:=aw.B;have au:=ab A.B AA;have ao:=ab (A.B+1) AA;rw[Ah AK,Ao]at au;rw[Bg AK AK]at ao;clear ab ai
  refine zz ?_
  refine Ae (fun m s A'=>∃(i i3:Nat) (xs:List AV),m=Z ts-i/\i<=Z ts/\s 1=ic v/\s 2=ic n/\s 6=ptr (A.B+1) 0/\s 7=ptr A1.B 0/\s 19=sl ids (Z ts) (Ad ts)/\s 20=ic (Z ts)/\s 21=ic i/\AE A A'/\A1.B<A'.B/\A'.C (A.B+1)=[ic 0,nilS]/\A'.C A1.B=[ic p,sl i3 i xs]/\Own A A' i3 i/\Z xs=i*2/\AD (xs=Ad (Br v n (ts.take i)))) (Z ts)
   ⟨0,1,[],AA,AA,by simp[upd,AM],by simp[upd,AM],AG,AG,AG,AG,rfl,Xs,BM,?_,?_,Own.nil _ _,by simp,by simp[AD,Br,Ad]⟩ ?_
  ·rw[Aj AA,Ah AA];simp[ao,cst1]
  ·rw[Ak]
  rintro m s A' ⟨i,i3,xs,rfl,hi,h1,h2,h6,h7,a4,a3,a0,hK,az,oc1,oc2,hO,an,hX⟩;have ax:=hK.B;by_cases av:i<Z ts
  ·have ac:=AJ av;obtain⟨r,hd⟩:=Cz ac;generalize ts[i]=w at hd ac;obtain⟨w1,w2⟩:=w;have HG:AD (Ad (Br v n (ts.take (i+1)))=Ad (Br v n (ts.take i))++Jx (Zx v n (w1,w2))):=by
    rw[AD,AU,ac];simp[Br,Ad]
   clear ac;by_cases hc:w1=true/\w2=v
   ·obtain⟨rfl,rfl⟩:=hc
    refine qm ?_;intro yd yb
    refine Bn (by first|exact E0) (((hK.new _).put hK.B _).put hK.B _) (Own.put (Own.put (Own.new hO _) _ _) _ _) (by decide) (by rfl) (an) (by rfl) (by rfl) (by decide) AA AA ?_;intro idn An af ah ak aa aj ae;simp only[Ab,Aa]at aa;refine Z3 ?_
    refine zz ?_
    exact⟨Z ts-(i+1),AA,i+1,idn,xs++[sc (.bool false),ic n],rfl,AA,by simp,ah.put AA _,AA,rfl,Own.put af _ _,by simp;omega,by rw[AD,HG.o,hX.o];simp[Zx,Jx]⟩
   ·have ap:(w1&&w2==v)=false:=by
     cases w1 with
     |false=>rfl
     |true=>simp at hc⊢;exact hc
    have hP:AD (Zx v n (w1,w2)=(w1,w2)):=if_neg (by simpa using hc);clear hc;cases w1 with
    |false=>
     refine qm ?_;intro yd yb
     refine Bn (by first|exact E0) ((hK.new _).put hK.B _) (Own.put (Own.new hO _) _ _) (by decide) (by rfl) (an) (by rfl) (by rfl) (by decide) AA AA ?_;intro idn An af ah ak aa aj ae;simp only[Ab,Aa]at aa;refine Z3 ?_
     refine zz ?_
     exact⟨Z ts-(i+1),AA,i+1,idn,xs++[_,ic w2],rfl,AA,by simp,ah.put AA _,AA,rfl,Own.put af _ _,by simp;omega,by rw[AD,HG.o,hX.o,hP.o];rfl⟩
    |true=>
     have ap:(w2==v)=false:=by simpa using ap
     refine qm ?_;intro yd yb
     refine Bn (by first|exact E0) ((hK.new _).put hK.B _) (Own.put (Own.new hO _) _ _) (by decide) (by rfl) (an) (by rfl) (by rfl) (by decide) AA AA ?_;intro idn An af ah ak aa aj ae;simp only[Ab,Aa]at aa;refine Z3 ?_
     refine zz ?_
     exact⟨Z ts-(i+1),AA,i+1,idn,xs++[_,ic w2],rfl,AA,by simp,ah.put AA _,AA,rfl,Own.put af _ _,by simp;omega,by rw[AD,HG.o,hX.o,hP.o];rfl⟩
  ·have hil:i=Z ts:=AA;subst hil;have hX:=hX.o;rw[AS]at hX;have hpl:Z (Br v n ts)=Z ts:=by simp[Br]
   refine pz ?_
   exact⟨_,rfl,⟨i3,by first|rfl|rw[hpl,hX]⟩,hK.put AA _⟩
structure Part where
 a:Dv
 A:List Cc
structure AY where
 h:Dv
 A:List Part
 B:List Dv
def Fo (l:List Cc):List AV:=l.flatMap As
def T3 (l:List Cc):Prop:=∀t∈l,Z t=3
theorem J4 {l}(h:T3 l):Z (Fo l)=Z l*3:=by
 induction l with
 |nil=>rfl
 |cons a l ih=>
  have h1:=h a (by simp);have h2:=ih (fun t ht=>h t (by simp[ht]));unfold Fo at*
  rw[DK,AX,h2,B9,h1];simp;omega
theorem Qz (l t):Fo (l++[t])=Fo l++As t:=by simp[Fo]
theorem vI {l k t}(h3:T3 l)(h:l[k]?=some t):∃a b c r,t=[a,b,c]/\(Fo l).drop (k*3)=ic a::ic b::ic c::r:=by
 have hE:∀l:List Cc,EL (fun t c=>c=As t/\t∈l) l (Fo l):=by
  intro l;induction l with
  |nil=>rfl
  |cons a l ih=>exact⟨As a,Fo l,⟨rfl,by simp⟩,EL.mono (fun t c h=>⟨h.1,by simp[h.2]⟩) ih,by simp[Fo]⟩
 obtain⟨c,r,⟨rfl,-⟩,e⟩:=EL.get (z:=3) (fun a c h=>by rw[h.1,B9];exact h3 a h.2) (hE l) h;have ht:=h3 t (BD h)
 match t,ht with
 |[a,b,c],_=>exact⟨a,b,c,r,rfl,by rw[e];rfl⟩
def O1 (a:Dv)(c:List AV):Prop:=∃id,c=[ic a.p,sl id (Z a.ts) (Ad a.ts)]
def N7 (p:Part)(c:List AV):Prop:=∃id idt,c=[ic p.a.p,sl id (Z p.a.ts) (Ad p.a.ts),sl idt (Z p.A) (Fo p.A)]
theorem I9 (a c)(h:O1 a c):Z c=2:=by obtain⟨id,rfl⟩:=h;rfl
theorem E8 (a c)(h:N7 a c):Z c=3:=by obtain⟨id,idt,rfl⟩:=h;rfl
theorem Kd {l cs i a}(h:EL O1 l cs)(hi:l[i]?=some a):∃id r,cs.drop (i*2)=ic a.p::sl id (Z a.ts) (Ad a.ts)::r:=by
 obtain⟨c,r,⟨id,rfl⟩,e⟩:=EL.get I9 h hi;exact⟨id,r,e⟩
theorem F5 {l cs i p}(h:EL N7 l cs)(hi:l[i]?=some p):∃id idt r,cs.drop (i*3)=ic p.a.p::sl id (Z p.a.ts) (Ad p.a.ts)::sl idt (Z p.A) (Fo p.A)::r:=by
 obtain⟨c,r,⟨id,idt,rfl⟩,e⟩:=EL.get E8 h hi;exact⟨id,idt,r,e⟩
def EQ (q:AY)(c:List AV):Prop:=∃ih ip inn pc nc,c=[ic q.h.p,sl ih (Z q.h.ts) (Ad q.h.ts),sl ip (Z q.A) pc,sl inn (Z q.B) nc]/\EL N7 q.A pc/\EL O1 q.B nc
structure Qo (q:AY):Prop where
 hd:Z q.h.ts<=3
 pl:Z q.A<=64
 nl:Z q.B<=64
 pa:∀p∈q.A,Z p.a.ts<=3
 pt:∀p∈q.A,Z p.A<=5000
 p3:∀p∈q.A,T3 p.A
 na:∀a∈q.B,Z a.ts<=3
def C5 (l:List Part):Nat:=(l.map fun p=>Z p.A).sum
theorem qI (l p):C5 (l++[p])=C5 l+Z p.A:=by simp[C5,List.sum_append]
theorem Yk (q c)(hc:EQ q c)(hq:Qo q)(A):AF Tryz.prog 252 [ag c] A fun r A'=>r=ic (C5 q.A:Nat)/\AE A A':=by
 obtain⟨ih,ip,inn,pc,nc,rfl,hP,hN⟩:=hc;have hpl:=EL.length E8 hP;have hl:=hq.pl;refine Z9 20 [.tmp 2] Tryz.func252 ?_
 refine zz ?_
 refine Ae (fun m s A'=>∃i a:Nat,m=Z q.A-i/\i<=Z q.A/\s 3=ic a/\s 7=sl ip (Z q.A) pc/\s 8=ic (Z q.A)/\s 9=ic i/\AE A A'/\a<=i*5000/\AD (a=C5 (q.A.take i))) (Z q.A)
  ⟨0,0,AA,AA,rfl,rfl,rfl,rfl,Xs,by simp,by simp[AD,C5]⟩ ?_
 rintro m s A' ⟨i,a,rfl,hi,h3,h7,h8,h9,hK,b1,hA⟩;have ad:=hK.B;by_cases ac:i<Z q.A
 ·have aa:=AJ ac;obtain⟨id,idt,r,hd⟩:=F5 hP aa;have hb:=hq.pt _ (AT ac);generalize q.A[i]=w at hd aa hb;have HG:AD (C5 (q.A.take (i+1))=C5 (q.A.take i)+Z w.A):=by
   rw[AD,AU,aa,BJ,qI]
  clear aa
  refine pz ?_
  exact⟨Z q.A-(i+1),AA,i+1,a+Z w.A,rfl,AA,by simp,by simp,Xs,AA,by rw[AD,HG.o,hA.o]⟩
 ·have hil:i=Z q.A:=AA;subst hil;have hA:=hA.o;rw[AS]at hA;subst hA
  refine pz ?_
  first|exact⟨_,rfl,rfl,hK⟩|exact⟨_,rfl,rfl⟩|exact⟨_,rfl,hK⟩|exact hK
def Dn (l:List Dv)(v:Int):Nat:=l.countP fun a=>Bj a.ts v
theorem Mc (q c v)(hc:EQ q c)(hq:Qo q)(A):AF Tryz.prog 254 [ag c,ic v] A fun r A'=>r=ic (Dn (q.A.map (·.a)) v:Nat)/\AE A A':=by
 obtain⟨ih,ip,inn,pc,nc,rfl,hP,hN⟩:=hc;have hpl:=EL.length E8 hP;have hl:=hq.pl;refine Z9 23 [.tmp 4] Tryz.func254 ?_
 refine zz ?_
 refine Ae (fun m s A'=>∃i a:Nat,m=Z q.A-i/\i<=Z q.A/\s 1=ic v/\s 5=ic a/\s 9=sl ip (Z q.A) pc/\s 10=ic (Z q.A)/\s 11=ic i/\AE A A'/\a<=i/\AD (a=Dn ((q.A.take i).map (·.a)) v)) (Z q.A)
  ⟨0,0,AA,AA,rfl,rfl,rfl,rfl,rfl,Xs,by simp,by simp[AD,Dn]⟩ ?_
 rintro m s A' ⟨i,a,rfl,hi,h1,h5,h9,ak,aj,hK,b1,hA⟩;have ah:=hK.B;by_cases ad:i<Z q.A
 ·have aa:=AJ ad;obtain⟨id,idt,r,hd⟩:=F5 hP aa;have hb:=hq.pa _ (AT ad);generalize q.A[i]=w at hd aa hb;have HG:AD (Dn ((q.A.take (i+1)).map (·.a)) v=Dn ((q.A.take i).map (·.a)) v+if Bj w.a.ts v then 1 else 0):=by
   rw[AD,AU,aa,BJ,FO,Dn,MR];simp[Dn,MZ]
  clear aa;have ab:Z w.a.ts<=1000:=AA
  refine qb ?_;intro yd yb;refine Xi (K8 _ _ _ _ ab _) ?_;rintro _ _ ⟨rfl,ae⟩;(have af:=ae.B;have ai:=((hK.new _).put hK.B _).trans ae);refine qe ?_ ?_<;>intro h ac
  ·exact⟨Z q.A-(i+1),AA,i+1,a+1,rfl,AA,by simp,by simp,AA,by rw[AD,HG.o,hA.o,if_pos (by assumption)]⟩
  ·exact⟨Z q.A-(i+1),AA,i+1,a,rfl,AA,by simp,by simp,AA,by rw[AD,HG.o,hA.o,if_neg (by simp_all),IE]⟩
 ·have hil:i=Z q.A:=AA;subst hil;have hA:=hA.o;rw[AS]at hA;subst hA
  refine pz ?_
  first|exact⟨_,rfl,rfl,hK⟩|exact⟨_,rfl,rfl⟩|exact⟨_,rfl,hK⟩|exact hK
def atomsQ (q:AY):List Dv:=q.h::(q.A.map (·.a)++q.B)
theorem Kc (q c)(hc:EQ q c)(hq:Qo q)(A):AF Tryz.prog 253 [ag c] A fun r A'=>∃id cs,r=sl id (Z (atomsQ q)) cs/\EL O1 (atomsQ q) cs/\AE A A':=by
 obtain⟨ih,ip,inn,pc,nc,rfl,hP,hN⟩:=hc;have hpl:=EL.length E8 hP;have ax:=EL.length I9 hN;have hl:=hq.pl;have ay:=hq.nl;refine Z9 37 [.tmp 2] Tryz.func253 ?_
 refine pz ?_
 have ak:AE A (A.new [ic q.h.p,sl ih (Z q.h.ts) (Ad q.h.ts),sl ip (Z q.A) pc,sl inn (Z q.B) nc]):=(AE.refl _).new _
 refine Ae (fun m s A'=>∃(k i3:Nat) (xs:List AV),m=Z q.A-k/\k<=Z q.A/\s 1=ptr A.B 0/\s 3=sl i3 (1+k) xs/\s 12=sl ip (Z q.A) pc/\s 13=ic (Z q.A)/\s 14=ic k/\AE A A'/\A.B<A'.B/\A'.C A.B=[ic q.h.p,sl ih (Z q.h.ts) (Ad q.h.ts),sl ip (Z q.A) pc,sl inn (Z q.B) nc]/\Own A A' i3 (1+k)/\Z xs=(1+k)*2/\AD (EL O1 (q.h::(q.A.take k).map (·.a)) xs)) (Z q.A)
  ⟨0,_,_,AA,AA,AG,rfl,rfl,rfl,rfl,ak.lay 1,by simp only[Av,Aa];omega,by rw[H6,Ao],Own.made ak (by decide),by simp,EL.single ⟨ih,rfl⟩⟩ ?_
 rintro m s A' ⟨k,i3,xs,rfl,hk,h1,h3,aw,av,au,hK,ao,ob,hO,ad,hE⟩;clear ak;have an:=hK.B;by_cases ah:k<Z q.A
 ·have aa:=AJ ah;obtain⟨id,idt,r,hd⟩:=F5 hP aa;generalize q.A[k]=w at hd aa;have HG:AD (q.A[k]?=some w):=aa;clear aa
  refine qm ?_;intro yd yb
  refine Bn (by first|exact Ge) ((hK.new _).put hK.B _) (Own.put (Own.new hO _) _ _) (by decide) (by rfl) (ad) (by rfl) (by rfl) (by decide) AA AA ?_;intro idn An aj ap ae ac am af;simp only[Ab,Aa]at ac;have eob:An.C A.B=A'.C A.B:=by rw[ae,Aj AA,Ah AA]
  refine Z3 ?_
  refine pz ?_
  refine⟨Z q.A-(k+1),AA,k+1,idn,xs++[ic w.a.p,sl id (Z w.a.ts) (Ad w.a.ts)],rfl,AA,by simp[IW],by simp,AA,by simpa[IW]using aj,by simp;omega,?_⟩;rw[AD,AU,HG.o];have:=EL.append hE.o (EL.single (E:=O1) (a:=w.a) ⟨id,rfl⟩);simpa using this
 ·have ai:k=Z q.A:=AA;subst ai;rw[AS]at hE;generalize hM:Z q.A=M at*
  have HM:AD _:=hM;clear hM ah hk
  refine pz ?_
  refine Ae (fun m s A'=>∃(k i3:Nat) (xs:List AV),m=Z q.B-k/\k<=Z q.B/\s 3=sl i3 (1+M+k) xs/\s 25=sl inn (Z q.B) nc/\s 26=ic (Z q.B)/\s 27=ic k/\AE A A'/\Own A A' i3 (1+M+k)/\Z xs=(1+M+k)*2/\AD (EL O1 (q.h::(q.A.map (·.a)++q.B.take k)) xs)) (Z q.B)
   ⟨0,i3,xs,AA,AA,AI,AI,AI,AG,hK,by simpa using hO,by simpa using ad,by simpa using hE⟩ ?_
  clear hE ad hO h3 h1 aw av au hK ao ob an;rintro m s A' ⟨k,i3,xs,rfl,hk,h3,a3,a0,az,hK,hO,ad,hE⟩;have an:=hK.B;by_cases ah:k<Z q.B
  ·have aa:=AJ ah;obtain⟨id,r,hd⟩:=Kd hN aa;generalize q.B[k]=w at hd aa;have HG:AD (q.B[k]?=some w):=aa;clear aa
   refine qm ?_;intro yd yb
   refine Bn (by first|exact Ge) ((hK.new _).put hK.B _) (Own.put (Own.new hO _) _ _) (by decide) (by rfl) (ad) (by rfl) (by rfl) (by decide) AA AA ?_;intro idn An aj ap ae ac am af;refine Z3 ?_
   refine pz ?_
   refine⟨Z q.B-(k+1),AA,k+1,idn,xs++[ic w.p,sl id (Z w.ts) (Ad w.ts)],rfl,AA,by simp[IW],by simp,by simpa[IW]using aj,by simp;omega,?_⟩;rw[AD,AU,HG.o];have:=EL.append hE.o (EL.single (E:=O1) (a:=w) ⟨id,rfl⟩);simpa using this
  ·have ai:k=Z q.B:=AA;subst ai;rw[AS]at hE;have hlen:Z (atomsQ q)=1+M+Z q.B:=by have:=HM.o;simp[atomsQ];omega
   refine pz ?_
   exact⟨_,rfl,i3,xs,by first|rfl|rw[hlen],by simpa[atomsQ]using hE.o⟩
def vF (acc:List Int)(t:Tm):List Int:=if t.1=true/\t.2∉acc then acc++[t.2]else acc
def Co (l:List Dv):List Int:=(l.flatMap (·.ts)).foldl vF []
theorem XD (acc t):Z (vF acc t)<=Z acc+1:=by unfold vF;split<;>simp
theorem eV:∀(ts:List Tm) (acc:List Int),Z (ts.foldl vF acc)<=Z acc+Z ts
 |[],acc=>by simp
 |t::ts,acc=>by
  have h1:=eV ts (vF acc t);have h2:=XD acc t;simp only[IB,BQ];omega
theorem eU:∀(ts:List Tm) (acc:List Int) (v:Int),v∈ts.foldl vF acc↔v∈acc\/(true,v)∈ts
 |[],acc,v=>by simp
 |t::ts,acc,v=>by
  rw[IB,eU ts];obtain⟨b,w⟩:=t;unfold vF;by_cases h:b=true/\w∉acc
  ·rw[if_pos h];obtain⟨rfl,hw⟩:=h;simp only[AW,BB,EN,DY,Prod.mk.injEq,JC];constructor
   ·rintro ((h|rfl)|h)
    ·exact .inl h
    ·exact .inr (.inl rfl)
    ·exact .inr (.inr h)
   ·rintro (h|rfl|h)
    ·exact .inl (.inl h)
    ·exact .inl (.inr rfl)
    ·exact .inr h
  ·rw[if_neg h];simp only[BB,Prod.mk.injEq];constructor
   ·rintro (h|h)
    ·exact .inl h
    ·exact .inr (.inr h)
   ·rintro (h'|⟨rfl,rfl⟩|h')
    ·exact .inl h'
    ·by_cases hm:v∈acc
     ·exact .inl hm
     ·exact absurd ⟨rfl,hm⟩ h
    ·exact .inr h'
theorem Dk (l v):v∈Co l↔∃a∈l,(true,v)∈a.ts:=by
 unfold Co;rw[eU];simp[DR]
theorem dU:∀(l:List Dv),(∀a∈l,Z a.ts<=3)->Z (l.flatMap (·.ts))<=Z l*3
 |[],_=>by simp
 |a::l,h=>by
  have h1:=h a (by simp);have h2:=dU l (fun b hb=>h b (by simp[hb]));simp only[DK,AX,BQ];omega
theorem Fz {l}(h:∀a∈l,Z a.ts<=3):Z (Co l)<=Z l*3:=by
 have h1:=eV (l.flatMap (·.ts)) [];have h2:=dU l h;unfold Co;simp only[CP]at h1;omega
theorem Hy (l cs idl)(hE:EL O1 l cs)(h3:∀a∈l,Z a.ts<=3)(hl:Z l<=200)(A):AF Tryz.prog 150 [sl idl (Z l) cs] A fun r A'=>(∃id,r=sl id (Z (Co l)) (As (Co l)))/\AE A A':=by
 have a7:=EL.length I9 hE;refine Z9 39 [.tmp 2] Tryz.func150 ?_
 refine zz ?_
 refine Ae (fun m s A'=>∃(k i3:Nat) (vs:List Int),m=Z l-k/\k<=Z l/\s 3=sl i3 (Z vs) (As vs)/\s 9=sl idl (Z l) cs/\s 10=ic (Z l)/\s 11=ic k/\AE A A'/\Own A A' i3 (Z vs)/\Z vs<=k*3/\AD (vs=Co (l.take k))) (Z l)
  ⟨0,1,[],AA,AA,by simp[upd,As],rfl,rfl,rfl,Xs,Own.nil _ _,by simp,by simp[AD,Co]⟩ ?_
 rintro m s A' ⟨k,i3,vs,rfl,hk,ao,h9,au,ap,hK,hO,aj,hV⟩;have ah:=hK.B;by_cases am:k<Z l
 ·have aa:=AJ am;obtain⟨ida,r,hd⟩:=Kd hE aa;have hb:=h3 _ (AT am);generalize l[k]=a at hd aa hb;have HG:AD (Co (l.take (k+1))=a.ts.foldl vF (Co (l.take k))):=by
   rw[AD,AU,aa];simp[Co]
  clear aa;have a6:=Cs a.ts
  refine pz ?_
  refine Ae (fun m s A''=>∃(j i4:Nat) (ws:List Int),m=Z a.ts-j/\j<=Z a.ts/\s 3=sl i4 (Z ws) (As ws)/\s 9=sl idl (Z l) cs/\s 10=ic (Z l)/\s 11=ic k/\s 16=sl ida (Z a.ts) (Ad a.ts)/\s 17=ic (Z a.ts)/\s 18=ic j/\AE A A''/\Own A A'' i4 (Z ws)/\Z ws<=k*3+j/\AD (ws=(a.ts.take j).foldl vF vs)) (Z a.ts)
   ⟨0,i3,vs,AA,AA,AI,AI,AI,AI,AI,AI,rfl,(hK.new _).put hK.B _,Own.put (Own.new hO _) _ _,AA,by simp[AD]⟩ ?_
  clear ao h9 au ap hK hO ah aj;rintro m s A'' ⟨j,i4,ws,rfl,hj,ao,h9,au,ap,bb,ba,a9,hK,hO,aj,hW⟩;have ah:=hK.B;have hil:=B9 ws;by_cases af:j<Z a.ts
  ·have aa:=AJ af;obtain⟨r2,az⟩:=Cz aa;generalize a.ts[j]=w at az aa;obtain⟨w1,w2⟩:=w;have HS:AD ((a.ts.take (j+1)).foldl vF vs=vF ((a.ts.take j).foldl vF vs) (w1,w2)):=by
    rw[AD,AU,aa];simp
   clear aa;have ak:=Tw w2 ws;have ai:Z ws<=100000:=AA;cases w1 with
   |false=>
    have HN:AD (vF ws (false,w2)=ws):=by simp[AD,vF]
    refine pz ?_
    refine⟨Z a.ts-(j+1),AA,j+1,i4,ws,?_⟩
    ((repeat' refine Zi ?_ ?_)<;>first|exact Xq|exact (Own.put (Own.new hO _) _ _)|exact (by rw[AD,HS.o,<-hW.o,HN.o])|exact Xs)
   |true=>
    by_cases hm:w2∈ws
    ·have HN:AD (vF ws (true,w2)=ws):=by simp[AD,vF,hm]
     have ad:decide (w2∉ws)=false:=by simp[hm]
     rw[ad]at ak;clear ad hm
     refine qb ?_;intro yd yb;refine Xi (H7 _ _ _ ai _) ?_;rintro _ _ ⟨rfl,ac⟩;(have a3:=((hK.new _).put hK.B _).trans ac;have an:=Own.keep (Own.put (Own.new hO _) _ _) ac);refine pz ?_
     refine⟨Z a.ts-(j+1),AA,j+1,i4,ws,?_⟩
     ((repeat' refine Zi ?_ ?_)<;>first|exact Xq|exact an|exact (by rw[AD,HS.o,<-hW.o,HN.o])|exact Xs)
    ·have HN:AD (vF ws (true,w2)=ws++[w2]):=by simp[AD,vF,hm]
     have ad:decide (w2∉ws)=true:=by simp[hm]
     rw[ad]at ak;clear ad hm
     refine qb ?_;intro yd yb;refine Xi (H7 _ _ _ ai _) ?_;rintro _ _ ⟨rfl,ac⟩;(have a3:=((hK.new _).put hK.B _).trans ac;have an:=Own.keep (Own.put (Own.new hO _) _ _) ac;have ae:=ac.C _ (show A''.B<_ by simp only[Ab,Aa];omega);rw[Ak]at ae);refine qd ?_;intro yd yb;intro idn An a0 a8 a5 aw a4 av;refine pz ?_
     refine⟨Z a.ts-(j+1),AA,j+1,idn,ws++[w2],?_⟩
     ((repeat' refine Zi ?_ ?_)<;>first|exact Xq|exact (by simpa using a0)|exact (by rw[AD,HS.o,<-hW.o,HN.o])|exact (by simp[As])|exact Xs)
  ·have ay:j=Z a.ts:=AA;subst ay;rw[AS]at hW
   refine pz ?_
   refine⟨Z l-(k+1),AA,k+1,i4,ws,?_⟩
   ((repeat' refine Zi ?_ ?_)<;>first|exact Xq|exact (by rw[AD,HG.o,<-hV.o,hW.o])|exact Xs)
 ·have ax:k=Z l:=AA;subst ax;have hV:=hV.o;rw[AS]at hV;subst hV
  refine pz ?_
  first|exact⟨_,rfl,⟨_,rfl⟩,hK⟩|exact⟨_,rfl,_,rfl⟩|exact⟨_,rfl,⟨_,rfl⟩⟩
theorem N0 {q}(hq:Qo q):∀a∈atomsQ q,Z a.ts<=3:=by
 intro a ha;simp only[atomsQ,BB,AW,AO]at ha;rcases ha with rfl|⟨p,hp,rfl⟩|ha
 ·exact hq.hd
 ·exact hq.pa p hp
 ·exact hq.na a ha
theorem Jz {q}(hq:Qo q):Z (atomsQ q)<=129:=by
 have h1:=hq.pl;have h2:=hq.nl;simp[atomsQ];omega
def Dm (q:AY)(v:Int):Bool:=decide (1<Dn (atomsQ q) v)
theorem Ru (q c v)(hc:EQ q c)(hq:Qo q)(A):AF Tryz.prog 257 [ag c,ic v] A fun r A'=>r=sc (.bool (Dm q v))/\AE A A':=by
 have hA:=fun A=>Kc q c hc hq A;have ae:=N0 hq;have au:=Jz hq;have ak:∃x0 x1 x2 x3,c=[x0,x1,x2,x3]/\c.all flat=true:=by
  obtain⟨ih,ip,inn,pc,nc,rfl,-,-⟩:=hc;exact⟨_,_,_,_,rfl,rfl⟩
 obtain⟨x0,x1,x2,x3,rfl,an⟩:=ak;have HL:AD (Dm q v=decide (1<Dn (atomsQ q) v)):=rfl;generalize Dm q v=lb at*
 clear hc hq;generalize atomsQ q=l at*
 refine Z9 23 [.tmp 4] Tryz.func257 ?_
 refine qb ?_;intro yd yb;refine Xi (hA _) ?_;rintro _ _ ⟨ida,cs,rfl,hE,ac⟩;(have ao:=EL.length I9 hE;have ah:=((AE.refl A).new _).trans ac);refine pz ?_
 refine Ae (fun m s A'=>∃i a:Nat,m=Z l-i/\i<=Z l/\s 1=ic v/\s 5=ic a/\s 9=sl ida (Z l) cs/\s 10=ic (Z l)/\s 11=ic i/\AE A A'/\a<=i/\AD (a=Dn (l.take i) v)) (Z l)
  ⟨0,0,AA,AA,rfl,rfl,rfl,rfl,rfl,ah,by simp,by simp[AD,Dn]⟩ ?_
 clear ah ac;rintro m s A' ⟨i,a,rfl,hi,h1,h5,h9,aw,av,hK,b1,hA⟩;have am:=hK.B;by_cases af:i<Z l
 ·have aa:=AJ af;obtain⟨id,r,hd⟩:=Kd hE aa;have hb:=ae _ (AT af);generalize l[i]=w at hd aa hb;have HG:AD (Dn (l.take (i+1)) v=Dn (l.take i) v+if Bj w.ts v then 1 else 0):=by
   rw[AD,AU,aa,BJ,Dn,MR];simp[Dn,MZ]
  clear aa;have ab:Z w.ts<=1000:=AA
  refine qb ?_;intro yd yb;refine Xi (K8 _ _ _ _ ab _) ?_;rintro _ _ ⟨rfl,ac⟩;(have ai:=ac.B;have ap:=((hK.new _).put hK.B _).trans ac);refine qe ?_ ?_<;>intro h ad
  ·refine⟨Z l-(i+1),AA,i+1,a+1,?_⟩
   ((repeat' refine Zi ?_ ?_)<;>first|exact Xq|exact (by rw[AD,HG.o,hA.o,if_pos (by assumption)])|exact Xs)
  ·refine⟨Z l-(i+1),AA,i+1,a,?_⟩
   ((repeat' refine Zi ?_ ?_)<;>first|exact Xq|exact (by rw[AD,HG.o,hA.o,if_neg (by simp_all),IE])|exact Xs)
 ·have hil:i=Z l:=AA;subst hil;have hA:=hA.o;rw[AS]at hA;subst hA;have aj:decide ((Dn l v:Int)>1)=lb:=by rw[HL.o];congr 1;apply propext;omega
  refine pz ?_
  first|exact⟨_,rfl,rfl,hK⟩|exact⟨_,rfl,rfl⟩|exact⟨_,rfl,hK⟩|exact hK|exact⟨_,rfl,by rw[<-aj]⟩
def K5 (q:AY):Nat->List Int->Bool
 |_,[]=>true
 |n,v::vs=>if Dm q v=true then (if 1<n+1\/Dn (q.A.map (·.a)) v=1 then false else K5 q (n+1) vs)else K5 q n vs
def idleB (q:AY)(a:Dv):Bool:=K5 q 0 (Co [a])
theorem wO (l v):Dn l v<=Z l:=List.countP_le_length
theorem sQ (q c a id)(ha:Z a.ts<=3)(hc:EQ q c)(hq:Qo q)(A):AF Tryz.prog 266 [ag c,ag [ic a.p,sl id (Z a.ts) (Ad a.ts)]] A fun r A'=>r=sc (.bool (idleB q a))/\AE A A':=by
 have hL:=fun v A=>Ru q c v hc hq A;have az:=fun v A=>Mc q c v hc hq A;have ax:∀v,Dn (q.A.map (·.a)) v<=64:=fun v=>by
  have h1:=wO (q.A.map (·.a)) v;have h2:=hq.pl;simp at h1;omega
 have ay:∃x0 x1 x2 x3,c=[x0,x1,x2,x3]/\c.all flat=true:=by
  obtain⟨ih,ip,inn,pc,nc,rfl,-,-⟩:=hc;exact⟨_,_,_,_,rfl,rfl⟩
 obtain⟨x0,x1,x2,x3,rfl,a5⟩:=ay;have ad:=fun (i:Nat) (A:St)=>Hy [a] [ic a.p,sl id (Z a.ts) (Ad a.ts)] i (EL.single ⟨id,rfl⟩) (by simp;exact ha) (by simp) A;have aw:=Fz (l:=[a]) (by simp;exact ha);have HI:AD (idleB q a=K5 q 0 (Co [a])):=rfl;generalize idleB q a=ib at*
 generalize Co [a]=vs at*
 have a3:=B9 vs;simp only[BQ,CP]at aw ad;refine Z9 31 [.tmp 4] Tryz.func266 ?_
 refine qb ?_;intro yd yb;refine Xi (ad _ _) ?_;rintro _ _ ⟨⟨idv,rfl⟩,aa⟩;(have ao:=((((AE.refl A).new _).new _).lay 1).trans aa;have ac:=aa.B;have ab:=aa.C;(try simp only[Av,Aa]at ac ab));refine pz ?_
 rename_i A1;have ai:=ab A.B AA;rw[H6,Ah AK,Ao]at ai;clear ab aa
 refine Ae (fun m s A'=>∃i n:Nat,m=Z vs-i/\i<=Z vs/\s 2=ptr A.B 0/\s 5=ic n/\s 10=sl idv (Z vs) (As vs)/\s 11=ic (Z vs)/\s 12=ic i/\AE A A'/\A.B<A'.B/\A'.C A.B=[x0,x1,x2,x3]/\n<=i/\AD (ib=K5 q n (vs.drop i))) (Z vs)
  ⟨0,0,AA,AA,AG,AG,AG,AI,rfl,ao,AA,ai,by simp,by simpa[AD]using HI.o⟩ ?_
 clear ao ai ac;rintro m s A' ⟨i,n,rfl,hi,h2,h5,bb,ba,a9,hK,a4,ob,b1,hI⟩;have a0:=hK.B;by_cases am:i<Z vs
 ·have ah:=AJ am;obtain⟨r,hd⟩:=Dz ah;have aj:AD (vs.drop i=vs[i]::vs.drop (i+1)):=FJ am;generalize vs[i]=v at hd aj;clear ah;have a6:=ax v;have af:AD (ib=if Dm q v=true then (if 1<n+1\/Dn (q.A.map (·.a)) v=1 then false else K5 q (n+1) (vs.drop (i+1)))else K5 q n (vs.drop (i+1))):=by
   rw[AD,hI.o,aj.o,K5]
  clear hI aj;cases an:Dm q v with
  |false=>
   have af:AD (ib=K5 q n (vs.drop (i+1))):=by rw[AD,af.o,an];simp
   refine qb ?_;intro yd yb;refine Xi (hL _ _) ?_;rintro _ _ ⟨rfl,aa⟩;(have ac:=aa.B;have ab:=aa.C;have ap:=hK.trans aa);refine pz ?_
   refine⟨Z vs-(i+1),AA,i+1,n,?_⟩
   exact qg
  |true=>
   generalize a7:Dn (q.A.map (·.a)) v=cn at*
   have af:AD (ib=if 1<n+1\/cn=1 then false else K5 q (n+1) (vs.drop (i+1))):=by rw[AD,af.o,an];simp
   repeat' first|refine Z1 ?_|refine Z8 fun yd yb=>?_|refine Z4 ?_;clear yb yd|refine Z2 ?_ ?_<;>intro h ae<;>try exact Xp|(refine Z5 ?_;first|(refine Xi (hL _ _) ?_;rintro _ _ ⟨rfl,aa⟩;(have ac:=aa.B;have ab:=aa.C;have ap:=hK.trans aa))|(refine Xi (az _ _) ?_;rintro _ _ ⟨rfl,ak⟩;(have av:=ak.B;have au:=ak.C;have a8:=ap.trans ak)))|refine Z3 ?_|exact Zt|apply yb.o;clear yb yd
   ·have:ib=false:=by
     rw[af.o,if_pos];right;simp only[EH]at h;omega
    exact⟨_,rfl,by rw[this]⟩
   ·have:ib=K5 q (n+1) (vs.drop (i+1)):=by
     rw[af.o,if_neg];simp only[beq_eq_false_iff_ne,ne_eq]at h;omega
    refine⟨Z vs-(i+1),AA,i+1,n+1,?_⟩
    exact qh this
   ·have:ib=false:=by
     rw[af.o,if_pos];left;omega
    exact⟨_,rfl,by rw[this]⟩
 ·have hil:i=Z vs:=AA;subst hil;have hI:ib=true:=by rw[hI.o,JZ];rfl
  subst hI
  refine pz ?_
  first|exact⟨_,rfl,rfl,hK⟩|exact⟨_,rfl,rfl⟩|exact⟨_,rfl,hK⟩|exact hK
end Go.Proofs.YtmoeoppbmhfbpabGreatDoorI
