import Derived.Test.YtmoeoppbmhfbpabGreatDoorHFacts
import Derived.Test.YtmoeoppbmhfbpabGreatDoorHAbsWp
set_option linter.all false
namespace Go.Proofs.YtmoeoppbmhfbpabGreatDoorH
set_option maxHeartbeats 16000000
open Go.Abs
set_option maxRecDepth 100000
abbrev Tm:=Bool×Int
structure C3 where
 p:Int
 ts:List Tm
abbrev Ca:=List Int
abbrev ic (n:Int):AV:=sc (.int .i64 n)
def Hs (t:Tm):List AV:=[sc (.bool t.1),ic t.2]
def Ac (ts:List Tm):List AV:=ts.flatMap Hs
theorem Ce (ts:List Tm):(Ac ts).length=ts.length*2:=by
 induction ts with
 |nil=>rfl
 |cons a l ih=>unfold Ac at*;rw[Acv,Ab2,ih];simp[Hs];omega
theorem P1 (ts:List Tm)(x:Tm):Ac (ts++[x])=Ac ts++Hs x:=by simp[Ac]
theorem Cg {ts:List Tm}{k:Nat}{w:Tm}(h:ts[k]?=some w):∃r,(Ac ts).drop (k*2)=sc (.bool w.1)::ic w.2::r:=by
 have hE:∀ts:List Tm,EL (fun w c=>c=Hs w) ts (Ac ts):=by
  intro ts;induction ts with
  |nil=>rfl
  |cons a l ih=>exact⟨Hs a,Ac l,rfl,ih,by simp[Ac]⟩
 obtain⟨c,r,rfl,e⟩:=EL.get (z:=2) (fun a c h=>by rw[h];rfl) (hE ts) h;exact⟨r,e⟩
def Hp (ts:List Tm)(v:Int):Int:=if (true,v)∈ts then (ts.idxOf (true,v):Nat)else -1
theorem Tf {α:Type}[BEq α][LawfulBEq α]{l:List α}{i:Nat}{x:α}(h:l[i]?=some x)(hn:x∉l.take i):l.idxOf x=i:=by
 have hi:=(List.getElem?_eq_some_iff.1 h).1;have:l=l.take i++l.drop i:=(Ac8 i l).symm;rw[this,List.idxOf_append,if_neg hn,Ab3,Ab6 Ad2,Acd hi];have:=(List.getElem?_eq_some_iff.1 h).2;simp[this]
theorem vE {ts:List Tm}{v:Int}{i:Nat}(h:ts[i]?=some (true,v))(hn:(true,v)∉ts.take i):Hp ts v=i:=by
 unfold Hp;rw[if_pos (Abh h),Tf h hn]
theorem It {ts:List Tm}{v:Int}(hn:(true,v)∉ts):Hp ts v= -1:=if_neg hn
theorem Sz {α:Type}{l:List α}{i:Nat}{x y:α}(h:x∉l.take i)(hi:l[i]?=some y)(hy:y≠x):x∉l.take (i+1):=by
 rw[Abq,hi];simp only[Ac2,Ack,Ac3,not_or];exact⟨h,fun e=>hy e.symm⟩
theorem Fc (p:Int)(ids:Nat)(ts:List Tm)(v:Int)(hn:ts.length<=1000)(N:St):ACalls Tryz.prog 217 [ag [ic p,sl ids ts.length (Ac ts)],ic v] N fun r N'=>r=ic (Hp ts v)/\Keep N N':=by
 have ah:=Ce ts;refine Z9 25 [.tmp 4] Tryz.func217 ?_
 repeat' (first|refine Z1 ?_|(refine Z8 ?_;intro κ hκ)|(refine Z4 ?_;clear hκ κ)|(refine Z2 ?_ ?_<;>intro h ac<;>try exact Xp)|refine Z3 ?_|exact⟨⟩|(apply hκ.out;clear hκ κ))
 refine Ad (fun m s N'=>∃i:Nat,m=ts.length-i/\i<=ts.length/\s 1=ic v/\s 8=sl ids ts.length (Ac ts)/\s 9=ic ts.length/\s 10=ic i/\Keep N N'/\Ad8 ((true,v)∉ts.take i)) ts.length
  ⟨0,Ad2,Ad2,rfl,rfl,rfl,rfl,Xs,by simp[Ad8]⟩ ?_
 rintro m s N' ⟨i,rfl,hi,h1,h8,h9,ai,hK,ab⟩;by_cases ad:i<ts.length
 ·have aa:=List.getElem?_eq_getElem ad;obtain⟨r,hd⟩:=Cg aa;generalize ts[i]=w at hd aa;obtain⟨w1,w2⟩:=w;have HG:Ad8 (ts[i]?=some (w1,w2)):=aa;clear aa;have af:=hK.nobj
  repeat' (first|refine Z1 ?_|(refine Z8 ?_;intro κ hκ)|(refine Z4 ?_;clear hκ κ)|(refine Z2 ?_ ?_<;>intro h ac<;>try exact Xp)|refine Z3 ?_|exact⟨⟩|(apply hκ.out;clear hκ κ))
  ·have e:w1=true/\w2=v:=by simp_all
   obtain⟨rfl,rfl⟩:=e;exact⟨_,rfl,by rw[vE HG.out ab.out],Xs⟩
  all_goals exact⟨ts.length-(i+1),Ad2,i+1,rfl,Ad2,by simp,Xs,Sz ab.out HG.out (by simp_all)⟩
 ·have ae:i=ts.length:=Ad2;subst ae;rw[Abn]at ab
  repeat' (first|refine Z1 ?_|(refine Z8 ?_;intro κ hκ)|(refine Z4 ?_;clear hκ κ)|(refine Z2 ?_ ?_<;>intro h ac<;>try exact Xp)|refine Z3 ?_|exact⟨⟩|(apply hκ.out;clear hκ κ))
  first|exact⟨_,rfl,by rw[It ab.out],hK⟩|exact⟨_,rfl,by rw[It ab.out]⟩
def Bc (ts:List Tm)(v:Int):Bool:=decide ((true,v)∈ts)
theorem vG (ts:List Tm)(v:Int):(Hp ts v != -1)=Bc ts v:=by
 unfold Hp Bc;split<;>rename_i h<;>simp[h]
theorem I4 (p:Int)(ids:Nat)(ts:List Tm)(v:Int)(hn:ts.length<=1000)(N:St):ACalls Tryz.prog 232 [ag [ic p,sl ids ts.length (Ac ts)],ic v] N fun r N'=>r=sc (.bool (Bc ts v))/\Keep N N':=by
 have hp:=vG ts v;refine Z9 9 [.tmp 4] Tryz.func232 ?_
 repeat' (first|refine Z1 ?_|(refine Z8 ?_;intro κ hκ)|(refine Z4 ?_;clear hκ κ)|(refine Z2 ?_ ?_<;>intro h aa<;>try exact Xp)|(refine Z5 ?_;refine Xi (Fc _ _ _ _ hn _) ?_;rintro _ _ ⟨rfl,hK⟩)|refine Z3 ?_|exact⟨⟩|(apply hκ.out;clear hκ κ))
 exact⟨_,rfl,rfl,Xs⟩
def H1 (ts:List Tm):Bool:=ts.all fun t=>!t.1
theorem L3 (p:Int)(ids:Nat)(ts:List Tm)(hn:ts.length<=1000)(N:St):ACalls Tryz.prog 131 [ag [ic p,sl ids ts.length (Ac ts)]] N fun r N'=>r=sc (.bool (H1 ts))/\Keep N N':=by
 have ai:=Ce ts;refine Z9 15 [.tmp 2] Tryz.func131 ?_
 repeat' (first|refine Z1 ?_|(refine Z8 ?_;intro κ hκ)|(refine Z4 ?_;clear hκ κ)|(refine Z2 ?_ ?_<;>intro h ad<;>try exact Xp)|refine Z3 ?_|exact⟨⟩|(apply hκ.out;clear hκ κ))
 refine Ad (fun m s N'=>∃i:Nat,m=ts.length-i/\i<=ts.length/\s 6=sl ids ts.length (Ac ts)/\s 7=ic ts.length/\s 8=ic i/\Keep N N'/\Ad8 (H1 (ts.take i)=true)) ts.length
  ⟨0,Ad2,Ad2,rfl,rfl,rfl,Xs,by simp[Ad8,H1]⟩ ?_
 rintro m s N' ⟨i,rfl,hi,h6,h7,h8,hK,ab⟩;by_cases ae:i<ts.length
 ·have aa:=List.getElem?_eq_getElem ae;obtain⟨r,hd⟩:=Cg aa;have ac:=Acz ae;generalize ts[i]=w at hd aa ac;obtain⟨w1,w2⟩:=w;have HG:Ad8 (ts[i]?=some (w1,w2)/\(w1,w2)∈ts):=⟨aa,ac⟩;clear aa ac;have ah:=hK.nobj
  repeat' (first|refine Z1 ?_|(refine Z8 ?_;intro κ hκ)|(refine Z4 ?_;clear hκ κ)|(refine Z2 ?_ ?_<;>intro h ad<;>try exact Xp)|refine Z3 ?_|exact⟨⟩|(apply hκ.out;clear hκ κ))
  ·exact⟨_,rfl,by
    have:H1 ts=false:=by
     unfold H1;rw[Ade];exact⟨_,HG.out.2,by simp_all⟩
    rw[this],Xs⟩
  ·exact⟨ts.length-(i+1),Ad2,i+1,rfl,Ad2,by simp,Xs,by
    have ab:=ab.out;unfold H1 at ab;rw[Ad8,H1,Abq,HG.out.1,List.all_append,ab]
    simp_all⟩
 ·have af:i=ts.length:=Ad2;subst af;rw[Abn]at ab;have ab:=ab.out
  repeat' (first|refine Z1 ?_|(refine Z8 ?_;intro κ hκ)|(refine Z4 ?_;clear hκ κ)|(refine Z2 ?_ ?_<;>intro h ad<;>try exact Xp)|refine Z3 ?_|exact⟨⟩|(apply hκ.out;clear hκ κ))
  first|exact⟨_,rfl,rfl,hK⟩|exact⟨_,rfl,rfl⟩
def D7 (l:List Int):Ca:=[(l[0]?).getD (-1),(l[1]?).getD (-1),(l[2]?).getD (-1)]
def Ar (t:List Int):List AV:=t.map ic
theorem Pw (p:Int)(ids:Nat)(ts:List Tm)(hn:ts.length<=1000)(N:St):ACalls Tryz.prog 135 [ag [ic p,sl ids ts.length (Ac ts)]] N fun r N'=>r=ag (Ar (D7 (ts.map (·.2))))/\Keep N N':=by
 have ak:=Ce ts;have af:∃L:Nat->Int,(∀i,L i=((ts[i]?).map (·.2)).getD (-1))/\Ar (D7 (ts.map (·.2)))=[ic (L 0),ic (L 1),ic (L 2)]:=⟨fun i=>((ts[i]?).map (·.2)).getD (-1),fun _=>rfl,by simp[Ar,D7]⟩;obtain⟨L,hL,hT⟩:=af;refine Z9 26 [.cell 2 141] Tryz.func135 ?_
 repeat' (first|refine Z1 ?_|(refine Z8 ?_;intro κ hκ)|(refine Z4 ?_;clear hκ κ)|(refine Z2 ?_ ?_<;>intro h ac<;>try exact Xp)|refine Z3 ?_|exact⟨⟩|(apply hκ.out;clear hκ κ))
 refine Ad (fun m s N'=>∃(i:Nat),m=3-i/\i<=3/\s 1=ptr N.nobj 0/\s 2=ptr (N.nobj+1) 0/\s 3=ptr (N.nobj+2) 0/\s 6=ic i/\Keep N N'/\N.nobj+2<N'.nobj/\N'.obj N.nobj=[ic p,sl ids ts.length (Ac ts)]/\N'.obj (N.nobj+1)=[ic 0,ic 0,ic 0]/\N'.obj (N.nobj+2)=[ic (if 0<i then L 0 else 0),ic (if 1<i then L 1 else 0),ic (if 2<i then L 2 else 0)]) 3
  ⟨0,Ad2,Ad2,Ad4,Ad4,Ad4,rfl,Xs,by simp only[Aa,Ab];omega,?_,?_,?_⟩ ?_
 ·rw[Ai Ad2,Ae Ad6,Ae Ad6,Am]
 ·rw[Ai Ad2,Ae Ad6,Bp Ad6 Ad6]
 ·rw[show N.nobj+2=N.nobj+1+1 from rfl,Aj];rfl
 rintro m s N' ⟨i,rfl,hi,h1,h2,h3,h6,hK,am,ai,ah,ad⟩;have aj:=hK.nobj;by_cases an:i<3
 ·by_cases hl:i<ts.length
  ·have aa:=List.getElem?_eq_getElem hl;obtain⟨r,hd⟩:=Cg aa;have ab:=hL i;rw[aa]at ab;generalize ts[i]=w at hd aa ab;obtain⟨w1,w2⟩:=w;clear aa hL;simp only[Option.map_some,Option.getD_some]at ab;rcases (show i=0\/i=1\/i=2 by omega)with rfl|rfl|rfl
   all_goals
    simp only[↓reduceIte,Nat.lt_irrefl,Nat.reduceLT,Nat.reduceMul,Abz,List.drop_zero]at ad hd ab
    repeat' (first|refine Z1 ?_|(refine Z8 ?_;intro κ hκ)|(refine Z4 ?_;clear hκ κ)|(refine Z2 ?_ ?_<;>intro h ac<;>try exact Xp)|refine Z3 ?_|exact⟨⟩|(apply hκ.out;clear hκ κ))
    first|exact⟨2,Ad2,1,rfl,Ad2,rfl,Xs,by simp[*]⟩|exact⟨1,Ad2,2,rfl,Ad2,rfl,Xs,by simp[*]⟩|exact⟨0,Ad2,3,rfl,Ad2,rfl,Xs,by simp[*]⟩
  ·have ab:=hL i;rw[List.getElem?_eq_none Ad2]at ab;simp only[Option.map_none,Option.getD_none]at ab;clear hL;rcases (show i=0\/i=1\/i=2 by omega)with rfl|rfl|rfl
   all_goals
    simp only[↓reduceIte,Nat.lt_irrefl,Nat.reduceLT,Nat.reduceMul,Abz,List.drop_zero]at ad ab
    repeat' (first|refine Z1 ?_|(refine Z8 ?_;intro κ hκ)|(refine Z4 ?_;clear hκ κ)|(refine Z2 ?_ ?_<;>intro h ac<;>try exact Xp)|refine Z3 ?_|exact⟨⟩|(apply hκ.out;clear hκ κ))
    first|exact⟨2,Ad2,1,rfl,Ad2,rfl,Xs,by simp[*]⟩|exact⟨1,Ad2,2,rfl,Ad2,rfl,Xs,by simp[*]⟩|exact⟨0,Ad2,3,rfl,Ad2,rfl,Xs,by simp[*]⟩
 ·have ae:i=3:=Ad2;subst ae;simp only[↓reduceIte,Nat.reduceLT]at ad
  repeat' (first|refine Z1 ?_|(refine Z8 ?_;intro κ hκ)|(refine Z4 ?_;clear hκ κ)|(refine Z2 ?_ ?_<;>intro h ac<;>try exact Xp)|refine Z3 ?_|exact⟨⟩|(apply hκ.out;clear hκ κ))
  first|exact⟨_,rfl,by rw[hT],Xs⟩|exact⟨_,rfl,rfl,Xs⟩
theorem Bn (l:List Int):(Ar l).length=l.length:=by simp[Ar]
theorem C8 {l:List Int}{k:Nat}{n:Int}(h:l[k]?=some n):∃r,(Ar l).drop k=ic n::r:=by
 have hk:=(List.getElem?_eq_some_iff.1 h);obtain⟨h1,h2⟩:=hk;refine⟨(Ar l).drop (k+1),?_⟩;rw[Acd (by rw[Bn];exact h1)];simp[Ar,h2]
theorem Ee (l:List Int):(Ar l).all flat=true:=by
 rw[Abg];intro x hx;obtain⟨n,-,rfl⟩:=Acm.1 hx;rfl
theorem Gd (v:Int)(l:List Int)(id:Nat)(hn:l.length<=100000)(N:St):ACalls Tryz.prog 85 [ic v,sl id l.length (Ar l)] N fun r N'=>r=ic (if v∈l then (l.idxOf v:Nat)else -1)/\Keep N N':=by
 have ah:=Bn l;refine Z9 19 [.tmp 4] Tryz.func85 ?_
 repeat' (first|refine Z1 ?_|(refine Z8 ?_;intro κ hκ)|(refine Z4 ?_;clear hκ κ)|(refine Z2 ?_ ?_<;>intro h ac<;>try exact Xp)|refine Z3 ?_|exact⟨⟩|(apply hκ.out;clear hκ κ))
 refine Ad (fun m s N'=>∃i:Nat,m=l.length-i/\i<=l.length/\s 0=ic v/\s 7=sl id l.length (Ar l)/\s 8=ic l.length/\s 9=ic i/\Keep N N'/\Ad8 (v∉l.take i)) l.length
  ⟨0,Ad2,Ad2,rfl,rfl,rfl,rfl,Xs,by simp[Ad8]⟩ ?_
 rintro m s N' ⟨i,rfl,hi,h0,h7,h8,h9,hK,ab⟩;by_cases ad:i<l.length
 ·have aa:=List.getElem?_eq_getElem ad;obtain⟨r,hd⟩:=C8 aa;generalize l[i]=w at hd aa;have HG:Ad8 (l[i]?=some w):=aa;clear aa;have af:=hK.nobj
  repeat' (first|refine Z1 ?_|(refine Z8 ?_;intro κ hκ)|(refine Z4 ?_;clear hκ κ)|(refine Z2 ?_ ?_<;>intro h ac<;>try exact Xp)|refine Z3 ?_|exact⟨⟩|(apply hκ.out;clear hκ κ))
  ·have e:w=v:=by simp_all
   subst e;exact⟨_,rfl,by rw[if_pos (Abh HG.out),Tf HG.out ab.out]⟩
  all_goals exact⟨l.length-(i+1),Ad2,i+1,rfl,Ad2,by simp,Sz ab.out HG.out (by simp_all)⟩
 ·have ae:i=l.length:=Ad2;subst ae;rw[Abn]at ab
  repeat' (first|refine Z1 ?_|(refine Z8 ?_;intro κ hκ)|(refine Z4 ?_;clear hκ κ)|(refine Z2 ?_ ?_<;>intro h ac<;>try exact Xp)|refine Z3 ?_|exact⟨⟩|(apply hκ.out;clear hκ κ))
  first|exact⟨_,rfl,by rw[if_neg ab.out],hK⟩|exact⟨_,rfl,by rw[if_neg ab.out]⟩
theorem Pp (v:Int)(l:List Int):((if v∈l then ((l.idxOf v:Nat):Int)else -1)== -1)=decide (v∉l):=by
 split<;>rename_i h<;>simp[h]
theorem Jm (p:Int)(ids:Nat)(ts:List Tm)(l:List Int)(id:Nat)(hn:ts.length<=1000)(hl:l.length<=100000)(N:St):ACalls Tryz.prog 225 [ag [ic p,sl ids ts.length (Ac ts)],sl id l.length (Ar l)] N fun r N'=>r=sc (.bool (l.any (Bc ts)))/\Keep N N':=by
 have ak:=Bn l;refine Z9 17 [.tmp 4] Tryz.func225 ?_
 repeat' (first|refine Z1 ?_|(refine Z8 ?_;intro κ hκ)|(refine Z4 ?_;clear hκ κ)|(refine Z2 ?_ ?_<;>intro h ac<;>try exact Xp)|refine Z3 ?_|exact⟨⟩|(apply hκ.out;clear hκ κ))
 refine Ad (fun m s N'=>∃i:Nat,m=l.length-i/\i<=l.length/\s 2=ptr N.nobj 0/\s 7=sl id l.length (Ar l)/\s 8=ic l.length/\s 9=ic i/\Keep N N'/\N.nobj<N'.nobj/\N'.obj N.nobj=[ic p,sl ids ts.length (Ac ts)]/\Ad8 ((l.take i).any (Bc ts)=false)) l.length
  ⟨0,Ad2,Ad2,Ad4,Ad4,Ad4,rfl,Xs,Ad6,by rw[Am],by simp[Ad8]⟩ ?_
 rintro m s N' ⟨i,rfl,hi,h2,h7,h8,h9,hK,am,ob,hA⟩;have aj:=hK.nobj;by_cases ae:i<l.length
 ·have aa:=List.getElem?_eq_getElem ae;obtain⟨r,hd⟩:=C8 aa;have ab:=Acz ae;generalize l[i]=w at hd aa ab;have HG:Ad8 (l[i]?=some w/\w∈l):=⟨aa,ab⟩;clear aa ab
  repeat' (first|refine Z1 ?_|(refine Z8 ?_;intro κ hκ)|(refine Z4 ?_;clear hκ κ)|(refine Z2 ?_ ?_<;>intro h ac<;>try exact Xp)|(refine Z5 ?_;refine Xi (I4 _ _ _ _ hn _) ?_;rintro _ _ ⟨rfl,ad⟩;(have ah:=ad.nobj;have af:=ad.obj))|refine Z3 ?_|exact⟨⟩|(apply hκ.out;clear hκ κ))
  ·first|exact⟨_,rfl,by rw[Acb.2 ⟨w,HG.out.2,by assumption⟩],hK.trans ad⟩|exact⟨_,rfl,by rw[Acb.2 ⟨w,HG.out.2,by assumption⟩]⟩
  ·exact⟨l.length-(i+1),Ad2,i+1,rfl,Ad2,by simp,hK.trans ad,Ad2,by
    rw[Ad8,Abq,HG.out.1,Adf,hA.out]
    simp_all⟩
 ·have ai:i=l.length:=Ad2;subst ai;rw[Abn]at hA;have hA:=hA.out
  repeat' (first|refine Z1 ?_|(refine Z8 ?_;intro κ hκ)|(refine Z4 ?_;clear hκ κ)|(refine Z2 ?_ ?_<;>intro h ac<;>try exact Xp)|refine Z3 ?_|exact⟨⟩|(apply hκ.out;clear hκ κ))
  first|exact⟨_,rfl,rfl,hK⟩|exact⟨_,rfl,rfl⟩|exact⟨_,rfl,hK⟩|exact hK|exact⟨_,rfl,by rw[hA],hK⟩|exact⟨_,rfl,by rw[hA]⟩
theorem Ym (p:Int)(ids:Nat)(ts:List Tm)(l:List Int)(id:Nat)(hn:ts.length<=1000)(hl:l.length<=100000)(N:St):ACalls Tryz.prog 251 [ag [ic p,sl ids ts.length (Ac ts)],sl id l.length (Ar l)] N fun r N'=>r=sc (.bool (l.all (Bc ts)))/\Keep N N':=by
 have ak:=Bn l;refine Z9 18 [.tmp 4] Tryz.func251 ?_
 repeat' (first|refine Z1 ?_|(refine Z8 ?_;intro κ hκ)|(refine Z4 ?_;clear hκ κ)|(refine Z2 ?_ ?_<;>intro h ac<;>try exact Xp)|refine Z3 ?_|exact⟨⟩|(apply hκ.out;clear hκ κ))
 refine Ad (fun m s N'=>∃i:Nat,m=l.length-i/\i<=l.length/\s 2=ptr N.nobj 0/\s 7=sl id l.length (Ar l)/\s 8=ic l.length/\s 9=ic i/\Keep N N'/\N.nobj<N'.nobj/\N'.obj N.nobj=[ic p,sl ids ts.length (Ac ts)]/\Ad8 ((l.take i).all (Bc ts)=true)) l.length
  ⟨0,Ad2,Ad2,Ad4,Ad4,Ad4,rfl,Xs,Ad6,by rw[Am],by simp[Ad8]⟩ ?_
 rintro m s N' ⟨i,rfl,hi,h2,h7,h8,h9,hK,am,ob,hA⟩;have aj:=hK.nobj;by_cases ae:i<l.length
 ·have aa:=List.getElem?_eq_getElem ae;obtain⟨r,hd⟩:=C8 aa;have ab:=Acz ae;generalize l[i]=w at hd aa ab;have HG:Ad8 (l[i]?=some w/\w∈l):=⟨aa,ab⟩;clear aa ab
  repeat' (first|refine Z1 ?_|(refine Z8 ?_;intro κ hκ)|(refine Z4 ?_;clear hκ κ)|(refine Z2 ?_ ?_<;>intro h ac<;>try exact Xp)|(refine Z5 ?_;refine Xi (I4 _ _ _ _ hn _) ?_;rintro _ _ ⟨rfl,ad⟩;(have ah:=ad.nobj;have af:=ad.obj))|refine Z3 ?_|exact⟨⟩|(apply hκ.out;clear hκ κ))
  ·first|exact⟨_,rfl,by rw[Ade.2 ⟨w,HG.out.2,by simp_all⟩],hK.trans ad⟩|exact⟨_,rfl,by rw[Ade.2 ⟨w,HG.out.2,by simp_all⟩]⟩
  ·exact⟨l.length-(i+1),Ad2,i+1,rfl,Ad2,by simp,hK.trans ad,Ad2,by
    rw[Ad8,Abq,HG.out.1,List.all_append,hA.out]
    simp_all⟩
 ·have ai:i=l.length:=Ad2;subst ai;rw[Abn]at hA;have hA:=hA.out
  repeat' (first|refine Z1 ?_|(refine Z8 ?_;intro κ hκ)|(refine Z4 ?_;clear hκ κ)|(refine Z2 ?_ ?_<;>intro h ac<;>try exact Xp)|refine Z3 ?_|exact⟨⟩|(apply hκ.out;clear hκ κ))
  first|exact⟨_,rfl,rfl,hK⟩|exact⟨_,rfl,rfl⟩|exact⟨_,rfl,hK⟩|exact hK|exact⟨_,rfl,by rw[hA],hK⟩|exact⟨_,rfl,by rw[hA]⟩
theorem Kp (l:List Int)(id:Nat)(hn:l.length<=100000)(h0:∀n∈l,0<=n/\n<=1000000)(N:St):ACalls Tryz.prog 140 [sl id l.length (Ar l)] N fun r N'=>r=ic l.sum/\Keep N N':=by
 have af:=Bn l;refine Z9 17 [.tmp 2] Tryz.func140 ?_
 repeat' (first|refine Z1 ?_|(refine Z8 ?_;intro κ hκ)|(refine Z4 ?_;clear hκ κ)|(refine Z2 ?_ ?_<;>intro h ab<;>try exact Xp)|refine Z3 ?_|exact⟨⟩|(apply hκ.out;clear hκ κ))
 refine Ad (fun m s N'=>∃i:Nat,m=l.length-i/\i<=l.length/\s 3=ic (l.take i).sum/\s 6=sl id l.length (Ar l)/\s 7=ic l.length/\s 8=ic i/\Keep N N'/\0<=(l.take i).sum/\(l.take i).sum<=i*1000000) l.length
  ⟨0,Ad2,Ad2,rfl,rfl,rfl,rfl,Xs,by simp,by simp⟩ ?_
 rintro m s N' ⟨i,rfl,hi,h3,h6,h7,h8,hK,b0,b1⟩;by_cases ac:i<l.length
 ·have aa:=List.getElem?_eq_getElem ac;obtain⟨r,hd⟩:=C8 aa;have hb:=h0 l[i] (Acz ac);have hs:Ad8 ((l.take (i+1)).sum=(l.take i).sum+l[i]):=by
   rw[Ad8,Abq,aa];simp only[Ac2,List.sum_append,List.sum_cons,List.sum_nil];omega
  generalize l[i]=w at hd aa hb hs;clear aa;generalize (l.take i).sum=acc at h3 b0 b1 hs;have ae:=hK.nobj
  repeat' (first|refine Z1 ?_|(refine Z8 ?_;intro κ hκ)|(refine Z4 ?_;clear hκ κ)|(refine Z2 ?_ ?_<;>intro h ab<;>try exact Xp)|refine Z3 ?_|exact⟨⟩|(apply hκ.out;clear hκ κ))
  exact⟨l.length-(i+1),Ad2,i+1,rfl,Ad2,by rw[hs.out],by simp,by rw[hs.out];omega,by rw[hs.out];omega⟩
 ·have ad:i=l.length:=Ad2;subst ad;rw[Abn]at h3
  repeat' (first|refine Z1 ?_|(refine Z8 ?_;intro κ hκ)|(refine Z4 ?_;clear hκ κ)|(refine Z2 ?_ ?_<;>intro h ab<;>try exact Xp)|refine Z3 ?_|exact⟨⟩|(apply hκ.out;clear hκ κ))
  first|exact⟨_,rfl,rfl,hK⟩|exact⟨_,rfl,rfl⟩|exact⟨_,rfl,hK⟩
def Um (v n:Int)(t:Tm):Tm:=if t=(true,v)then (false,n)else t
def Bh (v n:Int)(ts:List Tm):List Tm:=ts.map (Um v n)
theorem fT {v n:Int}{ts:List Tm}(h:Bc ts v=false):Bh v n ts=ts:=by
 unfold Bh
 conv=>rhs;rw[<-Acn ts]
 apply Aco;intro t ht;unfold Um;rw[if_neg]
 ·rfl
 ·rintro rfl;simp[Bc]at h;exact h ht
theorem Lh (p:Int)(ids:Nat)(ts:List Tm)(v n:Int)(hn:ts.length<=1000)(N:St):ACalls Tryz.prog 226 [ag [ic p,sl ids ts.length (Ac ts)],ic v,ic n] N fun r N'=>(∃id,r=ag [ic p,sl id (Bh v n ts).length (Ac (Bh v n ts))])/\Keep N N':=by
 have ay:=Ce ts;refine Z9 43 [.cell 6 122] Tryz.func226 ?_
 repeat' (first|refine Z1 ?_|(refine Z8 ?_;intro κ hκ)|(refine Z4 ?_;clear hκ κ)|(refine Z2 ?_ ?_<;>intro h ae<;>try exact Xp)|(refine Z6 ?_;intro idn Nn af ah ad aa ac ab)|(refine Z5 ?_;refine Xi (I4 _ _ _ _ hn _) ?_;rintro _ _ ⟨rfl,ak⟩;(have am:=ak.nobj;have ai:=ak.obj;(try simp only[Aa]at am ai)))|refine Z3 ?_|exact⟨⟩|(apply hκ.out;clear hκ κ))
 ·have e:=fT (n:=n) h;rw[e];exact⟨_,rfl,⟨_,rfl⟩,(((Keep.refl _).new _).new _).trans ak|>.put Ad2 _⟩
 ·rename_i N1;have aw:Keep N N1:=(((Keep.refl _).new _).new _).trans ak;have kn1:=aw.nobj;have ar:=ai N.nobj Ad2;have ao:=ai (N.nobj+1) Ad2;rw[Ae Ad6,Am]at ar;rw[Bp Ad6 Ad6]at ao;clear ai ak
  repeat' (first|refine Z1 ?_|(refine Z8 ?_;intro κ hκ)|(refine Z4 ?_;clear hκ κ)|(refine Z2 ?_ ?_<;>intro h ae<;>try exact Xp)|(refine Z6 ?_;intro idn Nn af ah ad aa ac ab)|refine Z3 ?_|exact⟨⟩|(apply hκ.out;clear hκ κ))
  refine Ad (fun m s N'=>∃(i i3:Nat) (xs:List AV),m=ts.length-i/\i<=ts.length/\s 1=ic v/\s 2=ic n/\s 6=ptr (N.nobj+1) 0/\s 7=ptr N1.nobj 0/\s 19=sl ids ts.length (Ac ts)/\s 20=ic ts.length/\s 21=ic i/\Keep N N'/\N1.nobj<N'.nobj/\N'.obj (N.nobj+1)=[ic 0,nilS]/\N'.obj N1.nobj=[ic p,sl i3 i xs]/\Own N N' i3 i/\xs.length=i*2/\Ad8 (xs=Ac (Bh v n (ts.take i)))) ts.length
   ⟨0,1,[],Ad2,Ad2,by simp[upd,initS],by simp[upd,initS],Ad4,Ad4,Ad4,Ad4,rfl,Xs,Ad7,?_,?_,Own.nil _ _,by simp,by simp[Ad8,Bh,Ac]⟩ ?_
  ·rw[Ai Ad2,Ae Ad2];simp[ao,cst1]
  ·rw[Aj]
  rintro m s N' ⟨i,i3,xs,rfl,hi,h1,h2,h6,h7,a4,a3,a0,hK,az,oc1,oc2,hO,an,hX⟩;have ax:=hK.nobj;by_cases au:i<ts.length
  ·have aj:=List.getElem?_eq_getElem au;obtain⟨r,hd⟩:=Cg aj;generalize ts[i]=w at hd aj;obtain⟨w1,w2⟩:=w;have HG:Ad8 (Ac (Bh v n (ts.take (i+1)))=Ac (Bh v n (ts.take i))++Hs (Um v n (w1,w2))):=by
    rw[Ad8,Abq,aj];simp[Bh,Ac]
   clear aj;by_cases hc:w1=true/\w2=v
   ·obtain⟨rfl,rfl⟩:=hc
    repeat' (first|refine Z1 ?_|(refine Z8 ?_;intro κ hκ)|(refine Z4 ?_;clear hκ κ)|(refine Z2 ?_ ?_<;>intro h ae<;>try exact Xp)|(refine Z6 ?_;intro idn Nn af ah ad aa ac ab)|refine Z3 ?_|exact⟨⟩|(apply hκ.out;clear hκ κ))
    refine Bj (by first|exact Ds) (((hK.new _).put hK.nobj _).put hK.nobj _) (Own.put (Own.put (Own.new hO _) _ _) _ _) (by decide) (by rfl) (an) (by rfl) (by rfl) (by decide) Ad2 Ad2 ?_;intro idn Nn af ah ad aa ac ab;simp only[Ab,Aa]at aa;refine Z3 ?_
    repeat' (first|refine Z1 ?_|(refine Z8 ?_;intro κ hκ)|(refine Z4 ?_;clear hκ κ)|(refine Z2 ?_ ?_<;>intro h ae<;>try exact Xp)|(refine Z6 ?_;intro idn Nn af ah ad aa ac ab)|refine Z3 ?_|exact⟨⟩|(apply hκ.out;clear hκ κ))
    exact⟨ts.length-(i+1),Ad2,i+1,idn,xs++[sc (.bool false),ic n],rfl,Ad2,by simp,ah.put Ad2 _,Ad2,rfl,Own.put af _ _,by simp;omega,by rw[Ad8,HG.out,hX.out];simp[Um,Hs]⟩
   ·have ap:(w1&&w2==v)=false:=by
     cases w1 with
     |false=>rfl
     |true=>simp at hc⊢;exact hc
    have hP:Ad8 (Um v n (w1,w2)=(w1,w2)):=if_neg (by simpa using hc);clear hc;cases w1 with
    |false=>
     repeat' (first|refine Z1 ?_|(refine Z8 ?_;intro κ hκ)|(refine Z4 ?_;clear hκ κ)|(refine Z2 ?_ ?_<;>intro h ae<;>try exact Xp)|(refine Z6 ?_;intro idn Nn af ah ad aa ac ab)|refine Z3 ?_|exact⟨⟩|(apply hκ.out;clear hκ κ))
     refine Bj (by first|exact Ds) ((hK.new _).put hK.nobj _) (Own.put (Own.new hO _) _ _) (by decide) (by rfl) (an) (by rfl) (by rfl) (by decide) Ad2 Ad2 ?_;intro idn Nn af ah ad aa ac ab;simp only[Ab,Aa]at aa;refine Z3 ?_
     repeat' (first|refine Z1 ?_|(refine Z8 ?_;intro κ hκ)|(refine Z4 ?_;clear hκ κ)|(refine Z2 ?_ ?_<;>intro h ae<;>try exact Xp)|(refine Z6 ?_;intro idn Nn af ah ad aa ac ab)|refine Z3 ?_|exact⟨⟩|(apply hκ.out;clear hκ κ))
     exact⟨ts.length-(i+1),Ad2,i+1,idn,xs++[_,ic w2],rfl,Ad2,by simp,ah.put Ad2 _,Ad2,rfl,Own.put af _ _,by simp;omega,by rw[Ad8,HG.out,hX.out,hP.out];rfl⟩
    |true=>
     have ap:(w2==v)=false:=by simpa using ap
     repeat' (first|refine Z1 ?_|(refine Z8 ?_;intro κ hκ)|(refine Z4 ?_;clear hκ κ)|(refine Z2 ?_ ?_<;>intro h ae<;>try exact Xp)|(refine Z6 ?_;intro idn Nn af ah ad aa ac ab)|refine Z3 ?_|exact⟨⟩|(apply hκ.out;clear hκ κ))
     refine Bj (by first|exact Ds) ((hK.new _).put hK.nobj _) (Own.put (Own.new hO _) _ _) (by decide) (by rfl) (an) (by rfl) (by rfl) (by decide) Ad2 Ad2 ?_;intro idn Nn af ah ad aa ac ab;simp only[Ab,Aa]at aa;refine Z3 ?_
     repeat' (first|refine Z1 ?_|(refine Z8 ?_;intro κ hκ)|(refine Z4 ?_;clear hκ κ)|(refine Z2 ?_ ?_<;>intro h ae<;>try exact Xp)|(refine Z6 ?_;intro idn Nn af ah ad aa ac ab)|refine Z3 ?_|exact⟨⟩|(apply hκ.out;clear hκ κ))
     exact⟨ts.length-(i+1),Ad2,i+1,idn,xs++[_,ic w2],rfl,Ad2,by simp,ah.put Ad2 _,Ad2,rfl,Own.put af _ _,by simp;omega,by rw[Ad8,HG.out,hX.out,hP.out];rfl⟩
  ·have av:i=ts.length:=Ad2;subst av;have hX:=hX.out;rw[Abn]at hX;have hpl:(Bh v n ts).length=ts.length:=by simp[Bh]
   repeat' (first|refine Z1 ?_|(refine Z8 ?_;intro κ hκ)|(refine Z4 ?_;clear hκ κ)|(refine Z2 ?_ ?_<;>intro h ae<;>try exact Xp)|(refine Z6 ?_;intro idn Nn af ah ad aa ac ab)|refine Z3 ?_|exact⟨⟩|(apply hκ.out;clear hκ κ))
   exact⟨_,rfl,⟨i3,by first|rfl|rw[hpl,hX]⟩,hK.put Ad2 _⟩
structure Part where
 a:C3
 tups:List Ca
structure Qry where
 head:C3
 parts:List Part
 nots:List C3
def D9 (l:List Ca):List AV:=l.flatMap Ar
def T3 (l:List Ca):Prop:=∀t∈l,t.length=3
theorem H5 {l:List Ca}(h:T3 l):(D9 l).length=l.length*3:=by
 induction l with
 |nil=>rfl
 |cons a l ih=>
  have h1:=h a (by simp);have h2:=ih (fun t ht=>h t (by simp[ht]));unfold D9 at*
  rw[Acv,Ab2,h2,Bn,h1];simp;omega
theorem Na (l:List Ca)(t:Ca):D9 (l++[t])=D9 l++Ar t:=by simp[D9]
theorem jV {l:List Ca}{k:Nat}{t:Ca}(h3:T3 l)(h:l[k]?=some t):∃a b c r,t=[a,b,c]/\(D9 l).drop (k*3)=ic a::ic b::ic c::r:=by
 have hE:∀l:List Ca,EL (fun t c=>c=Ar t/\t∈l) l (D9 l):=by
  intro l;induction l with
  |nil=>rfl
  |cons a l ih=>exact⟨Ar a,D9 l,⟨rfl,by simp⟩,EL.mono (fun t c h=>⟨h.1,by simp[h.2]⟩) ih,by simp[D9]⟩
 obtain⟨c,r,⟨rfl,-⟩,e⟩:=EL.get (z:=3) (fun a c h=>by rw[h.1,Bn];exact h3 a h.2) (hE l) h;have ht:=h3 t (Abh h)
 match t,ht with
 |[a,b,c],_=>exact⟨a,b,c,r,rfl,by rw[e];rfl⟩
def Lk (a:C3)(c:List AV):Prop:=∃id,c=[ic a.p,sl id a.ts.length (Ac a.ts)]
def Ky (p:Part)(c:List AV):Prop:=∃id idt,c=[ic p.a.p,sl id p.a.ts.length (Ac p.a.ts),sl idt p.tups.length (D9 p.tups)]
theorem G4 (a:C3)(c:List AV)(h:Lk a c):c.length=2:=by obtain⟨id,rfl⟩:=h;rfl
theorem Dx (a:Part)(c:List AV)(h:Ky a c):c.length=3:=by obtain⟨id,idt,rfl⟩:=h;rfl
theorem Ib {l:List C3}{cs:List AV}{i:Nat}{a:C3}(h:EL Lk l cs)(hi:l[i]?=some a):∃id r,cs.drop (i*2)=ic a.p::sl id a.ts.length (Ac a.ts)::r:=by
 obtain⟨c,r,⟨id,rfl⟩,e⟩:=EL.get G4 h hi;exact⟨id,r,e⟩
theorem Ek {l:List Part}{cs:List AV}{i:Nat}{p:Part}(h:EL Ky l cs)(hi:l[i]?=some p):∃id idt r,cs.drop (i*3)=ic p.a.p::sl id p.a.ts.length (Ac p.a.ts)::sl idt p.tups.length (D9 p.tups)::r:=by
 obtain⟨c,r,⟨id,idt,rfl⟩,e⟩:=EL.get Dx h hi;exact⟨id,idt,r,e⟩
def EQ (q:Qry)(c:List AV):Prop:=∃ih ip inn pc nc,c=[ic q.head.p,sl ih q.head.ts.length (Ac q.head.ts),sl ip q.parts.length pc,sl inn q.nots.length nc]/\EL Ky q.parts pc/\EL Lk q.nots nc
structure Ms (q:Qry):Prop where
 hd:q.head.ts.length<=3
 pl:q.parts.length<=64
 nl:q.nots.length<=64
 pa:∀p∈q.parts,p.a.ts.length<=3
 pt:∀p∈q.parts,p.tups.length<=5000
 p3:∀p∈q.parts,T3 p.tups
 na:∀a∈q.nots,a.ts.length<=3
def Ck (l:List Part):Nat:=(l.map fun p=>p.tups.length).sum
theorem fF (l:List Part)(p:Part):Ck (l++[p])=Ck l+p.tups.length:=by simp[Ck,List.sum_append]
theorem Ta (q:Qry)(c:List AV)(hc:EQ q c)(hq:Ms q)(N:St):ACalls Tryz.prog 252 [ag c] N fun r N'=>r=ic (Ck q.parts:Nat)/\Keep N N':=by
 obtain⟨ih,ip,inn,pc,nc,rfl,hP,hN⟩:=hc;have hpl:=EL.length Dx hP;have hl:=hq.pl;refine Z9 20 [.tmp 2] Tryz.func252 ?_
 repeat' (first|refine Z1 ?_|(refine Z8 ?_;intro κ hκ)|(refine Z4 ?_;clear hκ κ)|(refine Z2 ?_ ?_<;>intro h ab<;>try exact Xp)|refine Z3 ?_|exact⟨⟩|(apply hκ.out;clear hκ κ))
 refine Ad (fun m s N'=>∃i a:Nat,m=q.parts.length-i/\i<=q.parts.length/\s 3=ic a/\s 7=sl ip q.parts.length pc/\s 8=ic q.parts.length/\s 9=ic i/\Keep N N'/\a<=i*5000/\Ad8 (a=Ck (q.parts.take i))) q.parts.length
  ⟨0,0,Ad2,Ad2,rfl,rfl,rfl,rfl,Xs,by simp,by simp[Ad8,Ck]⟩ ?_
 rintro m s N' ⟨i,a,rfl,hi,h3,h7,h8,h9,hK,b1,hA⟩;have ae:=hK.nobj;by_cases ac:i<q.parts.length
 ·have aa:=List.getElem?_eq_getElem ac;obtain⟨id,idt,r,hd⟩:=Ek hP aa;have hb:=hq.pt _ (Acz ac);generalize q.parts[i]=w at hd aa hb;have HG:Ad8 (Ck (q.parts.take (i+1))=Ck (q.parts.take i)+w.tups.length):=by
   rw[Ad8,Abq,aa,Ac2,fF]
  clear aa
  repeat' (first|refine Z1 ?_|(refine Z8 ?_;intro κ hκ)|(refine Z4 ?_;clear hκ κ)|(refine Z2 ?_ ?_<;>intro h ab<;>try exact Xp)|refine Z3 ?_|exact⟨⟩|(apply hκ.out;clear hκ κ))
  exact⟨q.parts.length-(i+1),Ad2,i+1,a+w.tups.length,rfl,Ad2,by simp,by simp,Xs,Ad2,by rw[Ad8,HG.out,hA.out]⟩
 ·have ad:i=q.parts.length:=Ad2;subst ad;have hA:=hA.out;rw[Abn]at hA;subst hA
  repeat' (first|refine Z1 ?_|(refine Z8 ?_;intro κ hκ)|(refine Z4 ?_;clear hκ κ)|(refine Z2 ?_ ?_<;>intro h ab<;>try exact Xp)|refine Z3 ?_|exact⟨⟩|(apply hκ.out;clear hκ κ))
  first|exact⟨_,rfl,rfl,hK⟩|exact⟨_,rfl,rfl⟩|exact⟨_,rfl,hK⟩|exact hK
def C0 (l:List C3)(v:Int):Nat:=l.countP fun a=>Bc a.ts v
theorem Jv (q:Qry)(c:List AV)(v:Int)(hc:EQ q c)(hq:Ms q)(N:St):ACalls Tryz.prog 254 [ag c,ic v] N fun r N'=>r=ic (C0 (q.parts.map (·.a)) v:Nat)/\Keep N N':=by
 obtain⟨ih,ip,inn,pc,nc,rfl,hP,hN⟩:=hc;have hpl:=EL.length Dx hP;have hl:=hq.pl;refine Z9 23 [.tmp 4] Tryz.func254 ?_
 repeat' (first|refine Z1 ?_|(refine Z8 ?_;intro κ hκ)|(refine Z4 ?_;clear hκ κ)|(refine Z2 ?_ ?_<;>intro h ac<;>try exact Xp)|refine Z3 ?_|exact⟨⟩|(apply hκ.out;clear hκ κ))
 refine Ad (fun m s N'=>∃i a:Nat,m=q.parts.length-i/\i<=q.parts.length/\s 1=ic v/\s 5=ic a/\s 9=sl ip q.parts.length pc/\s 10=ic q.parts.length/\s 11=ic i/\Keep N N'/\a<=i/\Ad8 (a=C0 ((q.parts.take i).map (·.a)) v)) q.parts.length
  ⟨0,0,Ad2,Ad2,rfl,rfl,rfl,rfl,rfl,Xs,by simp,by simp[Ad8,C0]⟩ ?_
 rintro m s N' ⟨i,a,rfl,hi,h1,h5,h9,am,ak,hK,b1,hA⟩;have ai:=hK.nobj;by_cases ad:i<q.parts.length
 ·have aa:=List.getElem?_eq_getElem ad;obtain⟨id,idt,r,hd⟩:=Ek hP aa;have hb:=hq.pa _ (Acz ad);generalize q.parts[i]=w at hd aa hb;have HG:Ad8 (C0 ((q.parts.take (i+1)).map (·.a)) v=C0 ((q.parts.take i).map (·.a)) v+if Bc w.a.ts v then 1 else 0):=by
   rw[Ad8,Abq,aa,Ac2,Abt,C0,List.countP_append];simp[C0,List.countP_cons]
  clear aa;have ab:w.a.ts.length<=1000:=Ad2
  repeat' (first|refine Z1 ?_|(refine Z8 ?_;intro κ hκ)|(refine Z4 ?_;clear hκ κ)|(refine Z2 ?_ ?_<;>intro h ac<;>try exact Xp)|(refine Z5 ?_;refine Xi (I4 _ _ _ _ ab _) ?_;rintro _ _ ⟨rfl,ae⟩;(have af:=ae.nobj;have aj:=((hK.new _).put hK.nobj _).trans ae))|refine Z3 ?_|exact⟨⟩|(apply hκ.out;clear hκ κ))
  ·exact⟨q.parts.length-(i+1),Ad2,i+1,a+1,rfl,Ad2,by simp,by simp,Ad2,by rw[Ad8,HG.out,hA.out,if_pos (by assumption)]⟩
  ·exact⟨q.parts.length-(i+1),Ad2,i+1,a,rfl,Ad2,by simp,by simp,Ad2,by rw[Ad8,HG.out,hA.out,if_neg (by simp_all),Abi]⟩
 ·have ah:i=q.parts.length:=Ad2;subst ah;have hA:=hA.out;rw[Abn]at hA;subst hA
  repeat' (first|refine Z1 ?_|(refine Z8 ?_;intro κ hκ)|(refine Z4 ?_;clear hκ κ)|(refine Z2 ?_ ?_<;>intro h ac<;>try exact Xp)|refine Z3 ?_|exact⟨⟩|(apply hκ.out;clear hκ κ))
  first|exact⟨_,rfl,rfl,hK⟩|exact⟨_,rfl,rfl⟩|exact⟨_,rfl,hK⟩|exact hK
def atomsQ (q:Qry):List C3:=q.head::(q.parts.map (·.a)++q.nots)
theorem H9 (q:Qry)(c:List AV)(hc:EQ q c)(hq:Ms q)(N:St):ACalls Tryz.prog 253 [ag c] N fun r N'=>∃id cs,r=sl id (atomsQ q).length cs/\EL Lk (atomsQ q) cs/\Keep N N':=by
 obtain⟨ih,ip,inn,pc,nc,rfl,hP,hN⟩:=hc;have hpl:=EL.length Dx hP;have ax:=EL.length G4 hN;have hl:=hq.pl;have ay:=hq.nl;refine Z9 37 [.tmp 2] Tryz.func253 ?_
 repeat' (first|refine Z1 ?_|(refine Z8 ?_;intro κ hκ)|(refine Z4 ?_;clear hκ κ)|(refine Z2 ?_ ?_<;>intro h af<;>try exact Xp)|(refine Z6 ?_;intro idn Nn ah ai ad aa ae ab)|refine Z3 ?_|exact⟨⟩|(apply hκ.out;clear hκ κ))
 have ao:Keep N (N.new [ic q.head.p,sl ih q.head.ts.length (Ac q.head.ts),sl ip q.parts.length pc,sl inn q.nots.length nc]):=(Keep.refl _).new _
 refine Ad (fun m s N'=>∃(k i3:Nat) (xs:List AV),m=q.parts.length-k/\k<=q.parts.length/\s 1=ptr N.nobj 0/\s 3=sl i3 (1+k) xs/\s 12=sl ip q.parts.length pc/\s 13=ic q.parts.length/\s 14=ic k/\Keep N N'/\N.nobj<N'.nobj/\N'.obj N.nobj=[ic q.head.p,sl ih q.head.ts.length (Ac q.head.ts),sl ip q.parts.length pc,sl inn q.nots.length nc]/\Own N N' i3 (1+k)/\xs.length=(1+k)*2/\Ad8 (EL Lk (q.head::(q.parts.take k).map (·.a)) xs)) q.parts.length
  ⟨0,_,_,Ad2,Ad2,Ad4,rfl,rfl,rfl,rfl,ao.lay 1,by simp only[Ah,Aa];omega,by rw[As,Am],Own.made ao (by decide),by simp,EL.single ⟨ih,rfl⟩⟩ ?_
 rintro m s N' ⟨k,i3,xs,rfl,hk,h1,h3,aw,av,au,hK,ar,ob,hO,aj,hE⟩;clear ao;have ap:=hK.nobj;by_cases ak:k<q.parts.length
 ·have ac:=List.getElem?_eq_getElem ak;obtain⟨id,idt,r,hd⟩:=Ek hP ac;generalize q.parts[k]=w at hd ac;have HG:Ad8 (q.parts[k]?=some w):=ac;clear ac
  repeat' (first|refine Z1 ?_|(refine Z8 ?_;intro κ hκ)|(refine Z4 ?_;clear hκ κ)|(refine Z2 ?_ ?_<;>intro h af<;>try exact Xp)|(refine Z6 ?_;intro idn Nn ah ai ad aa ae ab)|refine Z3 ?_|exact⟨⟩|(apply hκ.out;clear hκ κ))
  refine Bj (by first|exact Er) ((hK.new _).put hK.nobj _) (Own.put (Own.new hO _) _ _) (by decide) (by rfl) (aj) (by rfl) (by rfl) (by decide) Ad2 Ad2 ?_;intro idn Nn ah ai ad aa ae ab;simp only[Ab,Aa]at aa;have eob:Nn.obj N.nobj=N'.obj N.nobj:=by rw[ad,Ai Ad2,Ae Ad2]
  refine Z3 ?_
  repeat' (first|refine Z1 ?_|(refine Z8 ?_;intro κ hκ)|(refine Z4 ?_;clear hκ κ)|(refine Z2 ?_ ?_<;>intro h af<;>try exact Xp)|(refine Z6 ?_;intro idn Nn ah ai ad aa ae ab)|refine Z3 ?_|exact⟨⟩|(apply hκ.out;clear hκ κ))
  refine⟨q.parts.length-(k+1),Ad2,k+1,idn,xs++[ic w.a.p,sl id w.a.ts.length (Ac w.a.ts)],rfl,Ad2,by simp[Abp],by simp,Ad2,by simpa[Abp]using ah,by simp;omega,?_⟩;rw[Ad8,Abq,HG.out];have:=EL.append hE.out (EL.single (E:=Lk) (a:=w.a) ⟨id,rfl⟩);simpa using this
 ·have an:k=q.parts.length:=Ad2;subst an;rw[Abn]at hE;generalize hM:q.parts.length=M at*
  have HM:Ad8 _:=hM;clear hM ak hk
  repeat' (first|refine Z1 ?_|(refine Z8 ?_;intro κ hκ)|(refine Z4 ?_;clear hκ κ)|(refine Z2 ?_ ?_<;>intro h af<;>try exact Xp)|(refine Z6 ?_;intro idn Nn ah ai ad aa ae ab)|refine Z3 ?_|exact⟨⟩|(apply hκ.out;clear hκ κ))
  refine Ad (fun m s N'=>∃(k i3:Nat) (xs:List AV),m=q.nots.length-k/\k<=q.nots.length/\s 3=sl i3 (1+M+k) xs/\s 25=sl inn q.nots.length nc/\s 26=ic q.nots.length/\s 27=ic k/\Keep N N'/\Own N N' i3 (1+M+k)/\xs.length=(1+M+k)*2/\Ad8 (EL Lk (q.head::(q.parts.map (·.a)++q.nots.take k)) xs)) q.nots.length
   ⟨0,i3,xs,Ad2,Ad2,Ad3,Ad3,Ad3,Ad4,hK,by simpa using hO,by simpa using aj,by simpa using hE⟩ ?_
  clear hE aj hO h3 h1 aw av au hK ar ob ap;rintro m s N' ⟨k,i3,xs,rfl,hk,h3,a3,a0,az,hK,hO,aj,hE⟩;have ap:=hK.nobj;by_cases ak:k<q.nots.length
  ·have ac:=List.getElem?_eq_getElem ak;obtain⟨id,r,hd⟩:=Ib hN ac;generalize q.nots[k]=w at hd ac;have HG:Ad8 (q.nots[k]?=some w):=ac;clear ac
   repeat' (first|refine Z1 ?_|(refine Z8 ?_;intro κ hκ)|(refine Z4 ?_;clear hκ κ)|(refine Z2 ?_ ?_<;>intro h af<;>try exact Xp)|(refine Z6 ?_;intro idn Nn ah ai ad aa ae ab)|refine Z3 ?_|exact⟨⟩|(apply hκ.out;clear hκ κ))
   refine Bj (by first|exact Er) ((hK.new _).put hK.nobj _) (Own.put (Own.new hO _) _ _) (by decide) (by rfl) (aj) (by rfl) (by rfl) (by decide) Ad2 Ad2 ?_;intro idn Nn ah ai ad aa ae ab;refine Z3 ?_
   repeat' (first|refine Z1 ?_|(refine Z8 ?_;intro κ hκ)|(refine Z4 ?_;clear hκ κ)|(refine Z2 ?_ ?_<;>intro h af<;>try exact Xp)|(refine Z6 ?_;intro idn Nn ah ai ad aa ae ab)|refine Z3 ?_|exact⟨⟩|(apply hκ.out;clear hκ κ))
   refine⟨q.nots.length-(k+1),Ad2,k+1,idn,xs++[ic w.p,sl id w.ts.length (Ac w.ts)],rfl,Ad2,by simp[Abp],by simp,by simpa[Abp]using ah,by simp;omega,?_⟩;rw[Ad8,Abq,HG.out];have:=EL.append hE.out (EL.single (E:=Lk) (a:=w) ⟨id,rfl⟩);simpa using this
  ·have an:k=q.nots.length:=Ad2;subst an;rw[Abn]at hE;have am:(atomsQ q).length=1+M+q.nots.length:=by have:=HM.out;simp[atomsQ];omega
   repeat' (first|refine Z1 ?_|(refine Z8 ?_;intro κ hκ)|(refine Z4 ?_;clear hκ κ)|(refine Z2 ?_ ?_<;>intro h af<;>try exact Xp)|(refine Z6 ?_;intro idn Nn ah ai ad aa ae ab)|refine Z3 ?_|exact⟨⟩|(apply hκ.out;clear hκ κ))
   exact⟨_,rfl,i3,xs,by first|rfl|rw[am],by simpa[atomsQ]using hE.out⟩
end Go.Proofs.YtmoeoppbmhfbpabGreatDoorH
