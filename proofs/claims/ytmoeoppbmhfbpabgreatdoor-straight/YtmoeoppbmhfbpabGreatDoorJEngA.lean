import Derived.Test.YtmoeoppbmhfbpabGreatDoorJFacts
import Derived.Test.YtmoeoppbmhfbpabGreatDoorJAbsWp
set_option maxHeartbeats 16000000
set_option maxRecDepth 100000
set_option linter.all false
namespace Go.Proofs.YtmoeoppbmhfbpabGreatDoorJ
open Go.Abs
abbrev Tm:=Bool×Int
structure C6 where
 p:Int
 ts:List Tm
abbrev Bc:=List Int
abbrev ic (n:Int):AV:=sc (.int .i64 n)
def Il (t:Tm):List AV:=[sc (.bool t.1),ic t.2]
def Ac (ts:List Tm):List AV:=ts.flatMap Il
theorem Cc (ts:List Tm):(Ac ts).length=ts.length*2:=by
 induction ts with
 |nil=>rfl
 |cons a l ih=>unfold Ac at*;rw[Acz,Ab6,ih];simp[Il];omega
theorem Pw (ts:List Tm)(x:Tm):Ac (ts++[x])=Ac ts++Il x:=by simp[Ac]
theorem Ci {ts:List Tm}{k:Nat}{w:Tm}(h:ts[k]?=some w):∃r,(Ac ts).drop (k*2)=sc (.bool w.1)::ic w.2::r:=by
 have hE:∀ts:List Tm,EL (fun w c=>c=Il w) ts (Ac ts):=by
  intro ts;induction ts with
  |nil=>rfl
  |cons a l ih=>exact⟨Il a,Ac l,rfl,ih,by simp[Ac]⟩
 obtain⟨c,r,rfl,e⟩:=EL.get (z:=2) (fun a c h=>by rw[h];rfl) (hE ts) h;exact⟨r,e⟩
def H3 (ts:List Tm)(v:Int):Int:=if (true,v)∈ts then (ts.idxOf (true,v):Nat)else -1
theorem Tc {α:Type}[BEq α][LawfulBEq α]{l:List α}{i:Nat}{x:α}(h:l[i]?=some x)(hn:x∉l.take i):l.idxOf x=i:=by
 have hi:=(List.getElem?_eq_some_iff.1 h).1;have:l=l.take i++l.drop i:=(Adl i l).symm;rw[this,List.idxOf_append,if_neg hn,Ab7,Aca Ad6,Ach hi];have:=(List.getElem?_eq_some_iff.1 h).2;simp[this]
theorem uN {ts:List Tm}{v:Int}{i:Nat}(h:ts[i]?=some (true,v))(hn:(true,v)∉ts.take i):H3 ts v=i:=by
 unfold H3;rw[if_pos (Abm h),Tc h hn]
theorem I5 {ts:List Tm}{v:Int}(hn:(true,v)∉ts):H3 ts v= -1:=if_neg hn
theorem Sq {α:Type}{l:List α}{i:Nat}{x y:α}(h:x∉l.take i)(hi:l[i]?=some y)(hy:y≠x):x∉l.take (i+1):=by
 rw[Abv,hi];simp only[Ac5,Aco,Ac6,not_or];exact⟨h,fun e=>hy e.symm⟩
theorem Ff (p:Int)(ids:Nat)(ts:List Tm)(v:Int)(hn:ts.length<=1000)(N:St):ACalls Tryz.prog 217 [ag [ic p,sl ids ts.length (Ac ts)],ic v] N fun r N'=>r=ic (H3 ts v)/\Keep N N':=by
 have ah:=Cc ts;refine Z9 25 [.tmp 4] Tryz.func217 ?_
 repeat' (first|refine Z1 ?_|(refine Z8 ?_;intro κ hκ)|(refine Z4 ?_;clear hκ κ)|(refine Z2 ?_ ?_<;>intro h ac<;>try exact Xp)|refine Z3 ?_|exact⟨⟩|(apply hκ.out;clear hκ κ))
 refine Ad (fun m s N'=>∃i:Nat,m=ts.length-i/\i<=ts.length/\s 1=ic v/\s 8=sl ids ts.length (Ac ts)/\s 9=ic ts.length/\s 10=ic i/\Keep N N'/\Aec ((true,v)∉ts.take i)) ts.length
  ⟨0,Ad6,Ad6,rfl,rfl,rfl,rfl,Xs,by simp[Aec]⟩ ?_
 rintro m s N' ⟨i,rfl,hi,h1,h8,h9,ai,hK,ab⟩;by_cases ad:i<ts.length
 ·have aa:=List.getElem?_eq_getElem ad;obtain⟨r,hd⟩:=Ci aa;generalize ts[i]=w at hd aa;obtain⟨w1,w2⟩:=w;have HG:Aec (ts[i]?=some (w1,w2)):=aa;clear aa;have af:=hK.nobj
  repeat' (first|refine Z1 ?_|(refine Z8 ?_;intro κ hκ)|(refine Z4 ?_;clear hκ κ)|(refine Z2 ?_ ?_<;>intro h ac<;>try exact Xp)|refine Z3 ?_|exact⟨⟩|(apply hκ.out;clear hκ κ))
  ·have e:w1=true/\w2=v:=by simp_all
   obtain⟨rfl,rfl⟩:=e;exact⟨_,rfl,by rw[uN HG.out ab.out],Xs⟩
  all_goals exact⟨ts.length-(i+1),Ad6,i+1,rfl,Ad6,by simp,Xs,Sq ab.out HG.out (by simp_all)⟩
 ·have ae:i=ts.length:=Ad6;subst ae;rw[Abt]at ab
  repeat' (first|refine Z1 ?_|(refine Z8 ?_;intro κ hκ)|(refine Z4 ?_;clear hκ κ)|(refine Z2 ?_ ?_<;>intro h ac<;>try exact Xp)|refine Z3 ?_|exact⟨⟩|(apply hκ.out;clear hκ κ))
  first|exact⟨_,rfl,by rw[I5 ab.out],hK⟩|exact⟨_,rfl,by rw[I5 ab.out]⟩
def A5 (ts:List Tm)(v:Int):Bool:=decide ((true,v)∈ts)
theorem uO (ts:List Tm)(v:Int):(H3 ts v != -1)=A5 ts v:=by
 unfold H3 A5;split<;>rename_i h<;>simp[h]
theorem Je (p:Int)(ids:Nat)(ts:List Tm)(v:Int)(hn:ts.length<=1000)(N:St):ACalls Tryz.prog 232 [ag [ic p,sl ids ts.length (Ac ts)],ic v] N fun r N'=>r=sc (.bool (A5 ts v))/\Keep N N':=by
 have hp:=uO ts v;refine Z9 9 [.tmp 4] Tryz.func232 ?_
 repeat' (first|refine Z1 ?_|(refine Z8 ?_;intro κ hκ)|(refine Z4 ?_;clear hκ κ)|(refine Z2 ?_ ?_<;>intro h aa<;>try exact Xp)|(refine Z5 ?_;refine Xi (Ff _ _ _ _ hn _) ?_;rintro _ _ ⟨rfl,hK⟩)|refine Z3 ?_|exact⟨⟩|(apply hκ.out;clear hκ κ))
 exact⟨_,rfl,rfl,Xs⟩
def F5 (ts:List Tm):Bool:=ts.all fun t=>!t.1
theorem Iv (p:Int)(ids:Nat)(ts:List Tm)(hn:ts.length<=1000)(N:St):ACalls Tryz.prog 131 [ag [ic p,sl ids ts.length (Ac ts)]] N fun r N'=>r=sc (.bool (F5 ts))/\Keep N N':=by
 have ai:=Cc ts;refine Z9 15 [.tmp 2] Tryz.func131 ?_
 repeat' (first|refine Z1 ?_|(refine Z8 ?_;intro κ hκ)|(refine Z4 ?_;clear hκ κ)|(refine Z2 ?_ ?_<;>intro h ad<;>try exact Xp)|refine Z3 ?_|exact⟨⟩|(apply hκ.out;clear hκ κ))
 refine Ad (fun m s N'=>∃i:Nat,m=ts.length-i/\i<=ts.length/\s 6=sl ids ts.length (Ac ts)/\s 7=ic ts.length/\s 8=ic i/\Keep N N'/\Aec (F5 (ts.take i)=true)) ts.length
  ⟨0,Ad6,Ad6,rfl,rfl,rfl,Xs,by simp[Aec,F5]⟩ ?_
 rintro m s N' ⟨i,rfl,hi,h6,h7,h8,hK,ab⟩;by_cases ae:i<ts.length
 ·have aa:=List.getElem?_eq_getElem ae;obtain⟨r,hd⟩:=Ci aa;have ac:=Ac2 ae;generalize ts[i]=w at hd aa ac;obtain⟨w1,w2⟩:=w;have HG:Aec (ts[i]?=some (w1,w2)/\(w1,w2)∈ts):=⟨aa,ac⟩;clear aa ac;have ah:=hK.nobj
  repeat' (first|refine Z1 ?_|(refine Z8 ?_;intro κ hκ)|(refine Z4 ?_;clear hκ κ)|(refine Z2 ?_ ?_<;>intro h ad<;>try exact Xp)|refine Z3 ?_|exact⟨⟩|(apply hκ.out;clear hκ κ))
  ·exact⟨_,rfl,by
    have:F5 ts=false:=by
     unfold F5;rw[Adm];exact⟨_,HG.out.2,by simp_all⟩
    rw[this],Xs⟩
  ·exact⟨ts.length-(i+1),Ad6,i+1,rfl,Ad6,by simp,Xs,by
    have ab:=ab.out;unfold F5 at ab;rw[Aec,F5,Abv,HG.out.1,List.all_append,ab]
    simp_all⟩
 ·have af:i=ts.length:=Ad6;subst af;rw[Abt]at ab;have ab:=ab.out
  repeat' (first|refine Z1 ?_|(refine Z8 ?_;intro κ hκ)|(refine Z4 ?_;clear hκ κ)|(refine Z2 ?_ ?_<;>intro h ad<;>try exact Xp)|refine Z3 ?_|exact⟨⟩|(apply hκ.out;clear hκ κ))
  first|exact⟨_,rfl,rfl,hK⟩|exact⟨_,rfl,rfl⟩
def Es (l:List Int):Bc:=[(l[0]?).getD (-1),(l[1]?).getD (-1),(l[2]?).getD (-1)]
def icells (t:List Int):List AV:=t.map ic
theorem Pr (p:Int)(ids:Nat)(ts:List Tm)(hn:ts.length<=1000)(N:St):ACalls Tryz.prog 135 [ag [ic p,sl ids ts.length (Ac ts)]] N fun r N'=>r=ag (icells (Es (ts.map (·.2))))/\Keep N N':=by
 have ak:=Cc ts;have af:∃L:Nat->Int,(∀i,L i=((ts[i]?).map (·.2)).getD (-1))/\icells (Es (ts.map (·.2)))=[ic (L 0),ic (L 1),ic (L 2)]:=⟨fun i=>((ts[i]?).map (·.2)).getD (-1),fun _=>rfl,by simp[icells,Es]⟩;obtain⟨L,hL,hT⟩:=af;refine Z9 26 [.cell 2 141] Tryz.func135 ?_
 repeat' (first|refine Z1 ?_|(refine Z8 ?_;intro κ hκ)|(refine Z4 ?_;clear hκ κ)|(refine Z2 ?_ ?_<;>intro h ac<;>try exact Xp)|refine Z3 ?_|exact⟨⟩|(apply hκ.out;clear hκ κ))
 refine Ad (fun m s N'=>∃(i:Nat),m=3-i/\i<=3/\s 1=ptr N.nobj 0/\s 2=ptr (N.nobj+1) 0/\s 3=ptr (N.nobj+2) 0/\s 6=ic i/\Keep N N'/\N.nobj+2<N'.nobj/\N'.obj N.nobj=[ic p,sl ids ts.length (Ac ts)]/\N'.obj (N.nobj+1)=[ic 0,ic 0,ic 0]/\N'.obj (N.nobj+2)=[ic (if 0<i then L 0 else 0),ic (if 1<i then L 1 else 0),ic (if 2<i then L 2 else 0)]) 3
  ⟨0,Ad6,Ad6,Ad8,Ad8,Ad8,rfl,Xs,by simp only[Aa,Ab];omega,?_,?_,?_⟩ ?_
 ·rw[Aj Ad6,Ae Aea,Ae Aea,Ao]
 ·rw[Aj Ad6,Ae Aea,Bu Aea Aea]
 ·rw[show N.nobj+2=N.nobj+1+1 from rfl,Ak];rfl
 rintro m s N' ⟨i,rfl,hi,h1,h2,h3,h6,hK,am,ai,ah,ad⟩;have aj:=hK.nobj;by_cases an:i<3
 ·by_cases hl:i<ts.length
  ·have aa:=List.getElem?_eq_getElem hl;obtain⟨r,hd⟩:=Ci aa;have ab:=hL i;rw[aa]at ab;generalize ts[i]=w at hd aa ab;obtain⟨w1,w2⟩:=w;clear aa hL;simp only[Option.map_some,Option.getD_some]at ab;rcases (show i=0\/i=1\/i=2 by omega)with rfl|rfl|rfl
   all_goals
    simp only[↓reduceIte,Nat.lt_irrefl,Nat.reduceLT,Nat.reduceMul,Ab3,List.drop_zero]at ad hd ab
    repeat' (first|refine Z1 ?_|(refine Z8 ?_;intro κ hκ)|(refine Z4 ?_;clear hκ κ)|(refine Z2 ?_ ?_<;>intro h ac<;>try exact Xp)|refine Z3 ?_|exact⟨⟩|(apply hκ.out;clear hκ κ))
    first|exact⟨2,Ad6,1,rfl,Ad6,rfl,Xs,by simp[*]⟩|exact⟨1,Ad6,2,rfl,Ad6,rfl,Xs,by simp[*]⟩|exact⟨0,Ad6,3,rfl,Ad6,rfl,Xs,by simp[*]⟩
  ·have ab:=hL i;rw[List.getElem?_eq_none Ad6]at ab;simp only[Option.map_none,Option.getD_none]at ab;clear hL;rcases (show i=0\/i=1\/i=2 by omega)with rfl|rfl|rfl
   all_goals
    simp only[↓reduceIte,Nat.lt_irrefl,Nat.reduceLT,Nat.reduceMul,Ab3,List.drop_zero]at ad ab
    repeat' (first|refine Z1 ?_|(refine Z8 ?_;intro κ hκ)|(refine Z4 ?_;clear hκ κ)|(refine Z2 ?_ ?_<;>intro h ac<;>try exact Xp)|refine Z3 ?_|exact⟨⟩|(apply hκ.out;clear hκ κ))
    first|exact⟨2,Ad6,1,rfl,Ad6,rfl,Xs,by simp[*]⟩|exact⟨1,Ad6,2,rfl,Ad6,rfl,Xs,by simp[*]⟩|exact⟨0,Ad6,3,rfl,Ad6,rfl,Xs,by simp[*]⟩
 ·have ae:i=3:=Ad6;subst ae;simp only[↓reduceIte,Nat.reduceLT]at ad
  repeat' (first|refine Z1 ?_|(refine Z8 ?_;intro κ hκ)|(refine Z4 ?_;clear hκ κ)|(refine Z2 ?_ ?_<;>intro h ac<;>try exact Xp)|refine Z3 ?_|exact⟨⟩|(apply hκ.out;clear hκ κ))
  first|exact⟨_,rfl,by rw[hT],Xs⟩|exact⟨_,rfl,rfl,Xs⟩
theorem A8 (l:List Int):(icells l).length=l.length:=by simp[icells]
theorem Co {l:List Int}{k:Nat}{n:Int}(h:l[k]?=some n):∃r,(icells l).drop k=ic n::r:=by
 have hk:=(List.getElem?_eq_some_iff.1 h);obtain⟨h1,h2⟩:=hk;refine⟨(icells l).drop (k+1),?_⟩;rw[Ach (by rw[A8];exact h1)];simp[icells,h2]
theorem Ce (l:List Int):(icells l).all flat=true:=by
 rw[Abl];intro x hx;obtain⟨n,-,rfl⟩:=Acs.1 hx;rfl
theorem cT (l:List Int)(n:Int):icells (l++[n])=icells l++[ic n]:=by simp[icells]
theorem Ex (v:Int)(l:List Int)(id:Nat)(hn:l.length<=100000)(N:St):ACalls Tryz.prog 85 [ic v,sl id l.length (icells l)] N fun r N'=>r=ic (if v∈l then (l.idxOf v:Nat)else -1)/\Keep N N':=by
 have ah:=A8 l;refine Z9 19 [.tmp 4] Tryz.func85 ?_
 repeat' (first|refine Z1 ?_|(refine Z8 ?_;intro κ hκ)|(refine Z4 ?_;clear hκ κ)|(refine Z2 ?_ ?_<;>intro h ac<;>try exact Xp)|refine Z3 ?_|exact⟨⟩|(apply hκ.out;clear hκ κ))
 refine Ad (fun m s N'=>∃i:Nat,m=l.length-i/\i<=l.length/\s 0=ic v/\s 7=sl id l.length (icells l)/\s 8=ic l.length/\s 9=ic i/\Keep N N'/\Aec (v∉l.take i)) l.length
  ⟨0,Ad6,Ad6,rfl,rfl,rfl,rfl,Xs,by simp[Aec]⟩ ?_
 rintro m s N' ⟨i,rfl,hi,h0,h7,h8,h9,hK,ab⟩;by_cases ad:i<l.length
 ·have aa:=List.getElem?_eq_getElem ad;obtain⟨r,hd⟩:=Co aa;generalize l[i]=w at hd aa;have HG:Aec (l[i]?=some w):=aa;clear aa;have af:=hK.nobj
  repeat' (first|refine Z1 ?_|(refine Z8 ?_;intro κ hκ)|(refine Z4 ?_;clear hκ κ)|(refine Z2 ?_ ?_<;>intro h ac<;>try exact Xp)|refine Z3 ?_|exact⟨⟩|(apply hκ.out;clear hκ κ))
  ·have e:w=v:=by simp_all
   subst e;exact⟨_,rfl,by rw[if_pos (Abm HG.out),Tc HG.out ab.out]⟩
  all_goals exact⟨l.length-(i+1),Ad6,i+1,rfl,Ad6,by simp,Sq ab.out HG.out (by simp_all)⟩
 ·have ae:i=l.length:=Ad6;subst ae;rw[Abt]at ab
  repeat' (first|refine Z1 ?_|(refine Z8 ?_;intro κ hκ)|(refine Z4 ?_;clear hκ κ)|(refine Z2 ?_ ?_<;>intro h ac<;>try exact Xp)|refine Z3 ?_|exact⟨⟩|(apply hκ.out;clear hκ κ))
  first|exact⟨_,rfl,by rw[if_neg ab.out],hK⟩|exact⟨_,rfl,by rw[if_neg ab.out]⟩
theorem Pi (v:Int)(l:List Int):((if v∈l then ((l.idxOf v:Nat):Int)else -1)== -1)=decide (v∉l):=by
 split<;>rename_i h<;>simp[h]
theorem Jw (p:Int)(ids:Nat)(ts:List Tm)(l:List Int)(id:Nat)(hn:ts.length<=1000)(hl:l.length<=100000)(N:St):ACalls Tryz.prog 225 [ag [ic p,sl ids ts.length (Ac ts)],sl id l.length (icells l)] N fun r N'=>r=sc (.bool (l.any (A5 ts)))/\Keep N N':=by
 have ak:=A8 l;refine Z9 17 [.tmp 4] Tryz.func225 ?_
 repeat' (first|refine Z1 ?_|(refine Z8 ?_;intro κ hκ)|(refine Z4 ?_;clear hκ κ)|(refine Z2 ?_ ?_<;>intro h ac<;>try exact Xp)|refine Z3 ?_|exact⟨⟩|(apply hκ.out;clear hκ κ))
 refine Ad (fun m s N'=>∃i:Nat,m=l.length-i/\i<=l.length/\s 2=ptr N.nobj 0/\s 7=sl id l.length (icells l)/\s 8=ic l.length/\s 9=ic i/\Keep N N'/\N.nobj<N'.nobj/\N'.obj N.nobj=[ic p,sl ids ts.length (Ac ts)]/\Aec ((l.take i).any (A5 ts)=false)) l.length
  ⟨0,Ad6,Ad6,Ad8,Ad8,Ad8,rfl,Xs,Aea,by rw[Ao],by simp[Aec]⟩ ?_
 rintro m s N' ⟨i,rfl,hi,h2,h7,h8,h9,hK,am,ob,hA⟩;have aj:=hK.nobj;by_cases ae:i<l.length
 ·have aa:=List.getElem?_eq_getElem ae;obtain⟨r,hd⟩:=Co aa;have ab:=Ac2 ae;generalize l[i]=w at hd aa ab;have HG:Aec (l[i]?=some w/\w∈l):=⟨aa,ab⟩;clear aa ab
  repeat' (first|refine Z1 ?_|(refine Z8 ?_;intro κ hκ)|(refine Z4 ?_;clear hκ κ)|(refine Z2 ?_ ?_<;>intro h ac<;>try exact Xp)|(refine Z5 ?_;refine Xi (Je _ _ _ _ hn _) ?_;rintro _ _ ⟨rfl,ad⟩;(have ah:=ad.nobj;have af:=ad.obj))|refine Z3 ?_|exact⟨⟩|(apply hκ.out;clear hκ κ))
  ·first|exact⟨_,rfl,by rw[Acg.2 ⟨w,HG.out.2,by assumption⟩],hK.trans ad⟩|exact⟨_,rfl,by rw[Acg.2 ⟨w,HG.out.2,by assumption⟩]⟩
  ·exact⟨l.length-(i+1),Ad6,i+1,rfl,Ad6,by simp,hK.trans ad,Ad6,by
    rw[Aec,Abv,HG.out.1,Adn,hA.out]
    simp_all⟩
 ·have ai:i=l.length:=Ad6;subst ai;rw[Abt]at hA;have hA:=hA.out
  repeat' (first|refine Z1 ?_|(refine Z8 ?_;intro κ hκ)|(refine Z4 ?_;clear hκ κ)|(refine Z2 ?_ ?_<;>intro h ac<;>try exact Xp)|refine Z3 ?_|exact⟨⟩|(apply hκ.out;clear hκ κ))
  first|exact⟨_,rfl,rfl,hK⟩|exact⟨_,rfl,rfl⟩|exact⟨_,rfl,hK⟩|exact hK|exact⟨_,rfl,by rw[hA],hK⟩|exact⟨_,rfl,by rw[hA]⟩
theorem Yl (p:Int)(ids:Nat)(ts:List Tm)(l:List Int)(id:Nat)(hn:ts.length<=1000)(hl:l.length<=100000)(N:St):ACalls Tryz.prog 251 [ag [ic p,sl ids ts.length (Ac ts)],sl id l.length (icells l)] N fun r N'=>r=sc (.bool (l.all (A5 ts)))/\Keep N N':=by
 have ak:=A8 l;refine Z9 18 [.tmp 4] Tryz.func251 ?_
 repeat' (first|refine Z1 ?_|(refine Z8 ?_;intro κ hκ)|(refine Z4 ?_;clear hκ κ)|(refine Z2 ?_ ?_<;>intro h ac<;>try exact Xp)|refine Z3 ?_|exact⟨⟩|(apply hκ.out;clear hκ κ))
 refine Ad (fun m s N'=>∃i:Nat,m=l.length-i/\i<=l.length/\s 2=ptr N.nobj 0/\s 7=sl id l.length (icells l)/\s 8=ic l.length/\s 9=ic i/\Keep N N'/\N.nobj<N'.nobj/\N'.obj N.nobj=[ic p,sl ids ts.length (Ac ts)]/\Aec ((l.take i).all (A5 ts)=true)) l.length
  ⟨0,Ad6,Ad6,Ad8,Ad8,Ad8,rfl,Xs,Aea,by rw[Ao],by simp[Aec]⟩ ?_
 rintro m s N' ⟨i,rfl,hi,h2,h7,h8,h9,hK,am,ob,hA⟩;have aj:=hK.nobj;by_cases ae:i<l.length
 ·have aa:=List.getElem?_eq_getElem ae;obtain⟨r,hd⟩:=Co aa;have ab:=Ac2 ae;generalize l[i]=w at hd aa ab;have HG:Aec (l[i]?=some w/\w∈l):=⟨aa,ab⟩;clear aa ab
  repeat' (first|refine Z1 ?_|(refine Z8 ?_;intro κ hκ)|(refine Z4 ?_;clear hκ κ)|(refine Z2 ?_ ?_<;>intro h ac<;>try exact Xp)|(refine Z5 ?_;refine Xi (Je _ _ _ _ hn _) ?_;rintro _ _ ⟨rfl,ad⟩;(have ah:=ad.nobj;have af:=ad.obj))|refine Z3 ?_|exact⟨⟩|(apply hκ.out;clear hκ κ))
  ·first|exact⟨_,rfl,by rw[Adm.2 ⟨w,HG.out.2,by simp_all⟩],hK.trans ad⟩|exact⟨_,rfl,by rw[Adm.2 ⟨w,HG.out.2,by simp_all⟩]⟩
  ·exact⟨l.length-(i+1),Ad6,i+1,rfl,Ad6,by simp,hK.trans ad,Ad6,by
    rw[Aec,Abv,HG.out.1,List.all_append,hA.out]
    simp_all⟩
 ·have ai:i=l.length:=Ad6;subst ai;rw[Abt]at hA;have hA:=hA.out
  repeat' (first|refine Z1 ?_|(refine Z8 ?_;intro κ hκ)|(refine Z4 ?_;clear hκ κ)|(refine Z2 ?_ ?_<;>intro h ac<;>try exact Xp)|refine Z3 ?_|exact⟨⟩|(apply hκ.out;clear hκ κ))
  first|exact⟨_,rfl,rfl,hK⟩|exact⟨_,rfl,rfl⟩|exact⟨_,rfl,hK⟩|exact hK|exact⟨_,rfl,by rw[hA],hK⟩|exact⟨_,rfl,by rw[hA]⟩
theorem Ps (l:List Int)(id:Nat)(hn:l.length<=100000)(h0:∀n∈l,0<=n/\n<=1000000)(N:St):ACalls Tryz.prog 140 [sl id l.length (icells l)] N fun r N'=>r=ic l.sum/\Keep N N':=by
 have af:=A8 l;refine Z9 17 [.tmp 2] Tryz.func140 ?_
 repeat' (first|refine Z1 ?_|(refine Z8 ?_;intro κ hκ)|(refine Z4 ?_;clear hκ κ)|(refine Z2 ?_ ?_<;>intro h ab<;>try exact Xp)|refine Z3 ?_|exact⟨⟩|(apply hκ.out;clear hκ κ))
 refine Ad (fun m s N'=>∃i:Nat,m=l.length-i/\i<=l.length/\s 3=ic (l.take i).sum/\s 6=sl id l.length (icells l)/\s 7=ic l.length/\s 8=ic i/\Keep N N'/\0<=(l.take i).sum/\(l.take i).sum<=i*1000000) l.length
  ⟨0,Ad6,Ad6,rfl,rfl,rfl,rfl,Xs,by simp,by simp⟩ ?_
 rintro m s N' ⟨i,rfl,hi,h3,h6,h7,h8,hK,b0,b1⟩;by_cases ac:i<l.length
 ·have aa:=List.getElem?_eq_getElem ac;obtain⟨r,hd⟩:=Co aa;have hb:=h0 l[i] (Ac2 ac);have hs:Aec ((l.take (i+1)).sum=(l.take i).sum+l[i]):=by
   rw[Aec,Abv,aa];simp only[Ac5,List.sum_append,List.sum_cons,List.sum_nil];omega
  generalize l[i]=w at hd aa hb hs;clear aa;generalize (l.take i).sum=acc at h3 b0 b1 hs;have ae:=hK.nobj
  repeat' (first|refine Z1 ?_|(refine Z8 ?_;intro κ hκ)|(refine Z4 ?_;clear hκ κ)|(refine Z2 ?_ ?_<;>intro h ab<;>try exact Xp)|refine Z3 ?_|exact⟨⟩|(apply hκ.out;clear hκ κ))
  exact⟨l.length-(i+1),Ad6,i+1,rfl,Ad6,by rw[hs.out],by simp,by rw[hs.out];omega,by rw[hs.out];omega⟩
 ·have ad:i=l.length:=Ad6;subst ad;rw[Abt]at h3
  repeat' (first|refine Z1 ?_|(refine Z8 ?_;intro κ hκ)|(refine Z4 ?_;clear hκ κ)|(refine Z2 ?_ ?_<;>intro h ab<;>try exact Xp)|refine Z3 ?_|exact⟨⟩|(apply hκ.out;clear hκ κ))
  first|exact⟨_,rfl,rfl,hK⟩|exact⟨_,rfl,rfl⟩|exact⟨_,rfl,hK⟩
def Um (v n:Int)(t:Tm):Tm:=if t=(true,v)then (false,n)else t
def Ba (v n:Int)(ts:List Tm):List Tm:=ts.map (Um v n)
theorem fS {v n:Int}{ts:List Tm}(h:A5 ts v=false):Ba v n ts=ts:=by
 unfold Ba
 conv=>rhs;rw[<-List.map_id ts]
 apply Acu;intro t ht;unfold Um;rw[if_neg]
 ·rfl
 ·rintro rfl;simp[A5]at h;exact h ht
theorem Lf (p:Int)(ids:Nat)(ts:List Tm)(v n:Int)(hn:ts.length<=1000)(N:St):ACalls Tryz.prog 226 [ag [ic p,sl ids ts.length (Ac ts)],ic v,ic n] N fun r N'=>(∃id,r=ag [ic p,sl id (Ba v n ts).length (Ac (Ba v n ts))])/\Keep N N':=by
 have az:=Cc ts;refine Z9 43 [.cell 6 122] Tryz.func226 ?_
 repeat' (first|refine Z1 ?_|(refine Z8 ?_;intro κ hκ)|(refine Z4 ?_;clear hκ κ)|(refine Z2 ?_ ?_<;>intro h ae<;>try exact Xp)|(refine Z6 ?_;intro idn Nn af ah ad aa ac ab)|(refine Z5 ?_;refine Xi (Je _ _ _ _ hn _) ?_;rintro _ _ ⟨rfl,ak⟩;(have am:=ak.nobj;have ai:=ak.obj;(try simp only[Aa]at am ai)))|refine Z3 ?_|exact⟨⟩|(apply hκ.out;clear hκ κ))
 ·have e:=fS (n:=n) h;rw[e];exact⟨_,rfl,⟨_,rfl⟩,(((Keep.refl _).new _).new _).trans ak|>.put Ad6 _⟩
 ·rename_i N1;have ax:Keep N N1:=(((Keep.refl _).new _).new _).trans ak;have kn1:=ax.nobj;have au:=ai N.nobj Ad6;have ao:=ai (N.nobj+1) Ad6;rw[Ae Aea,Ao]at au;rw[Bu Aea Aea]at ao;clear ai ak
  repeat' (first|refine Z1 ?_|(refine Z8 ?_;intro κ hκ)|(refine Z4 ?_;clear hκ κ)|(refine Z2 ?_ ?_<;>intro h ae<;>try exact Xp)|(refine Z6 ?_;intro idn Nn af ah ad aa ac ab)|refine Z3 ?_|exact⟨⟩|(apply hκ.out;clear hκ κ))
  refine Ad (fun m s N'=>∃(i i3:Nat) (xs:List AV),m=ts.length-i/\i<=ts.length/\s 1=ic v/\s 2=ic n/\s 6=ptr (N.nobj+1) 0/\s 7=ptr N1.nobj 0/\s 19=sl ids ts.length (Ac ts)/\s 20=ic ts.length/\s 21=ic i/\Keep N N'/\N1.nobj<N'.nobj/\N'.obj (N.nobj+1)=[ic 0,nilS]/\N'.obj N1.nobj=[ic p,sl i3 i xs]/\Own N N' i3 i/\xs.length=i*2/\Aec (xs=Ac (Ba v n (ts.take i)))) ts.length
   ⟨0,1,[],Ad6,Ad6,by simp[upd,initS],by simp[upd,initS],Ad8,Ad8,Ad8,Ad8,rfl,Xs,Aeb,?_,?_,Own.nil _ _,by simp,by simp[Aec,Ba,Ac]⟩ ?_
  ·rw[Aj Ad6,Ae Ad6];simp[ao,cst1]
  ·rw[Ak]
  rintro m s N' ⟨i,i3,xs,rfl,hi,h1,h2,h6,h7,a5,a4,a3,hK,a0,oc1,oc2,hO,an,hX⟩;have ay:=hK.nobj;by_cases av:i<ts.length
  ·have aj:=List.getElem?_eq_getElem av;obtain⟨r,hd⟩:=Ci aj;generalize ts[i]=w at hd aj;obtain⟨w1,w2⟩:=w;have HG:Aec (Ac (Ba v n (ts.take (i+1)))=Ac (Ba v n (ts.take i))++Il (Um v n (w1,w2))):=by
    rw[Aec,Abv,aj];simp[Ba,Ac]
   clear aj;by_cases hc:w1=true/\w2=v
   ·obtain⟨rfl,rfl⟩:=hc
    repeat' (first|refine Z1 ?_|(refine Z8 ?_;intro κ hκ)|(refine Z4 ?_;clear hκ κ)|(refine Z2 ?_ ?_<;>intro h ae<;>try exact Xp)|(refine Z6 ?_;intro idn Nn af ah ad aa ac ab)|refine Z3 ?_|exact⟨⟩|(apply hκ.out;clear hκ κ))
    refine Bn (by first|exact Ee) (((hK.new _).put hK.nobj _).put hK.nobj _) (Own.put (Own.put (Own.new hO _) _ _) _ _) (by decide) (by rfl) (an) (by rfl) (by rfl) (by decide) Ad6 Ad6 ?_;intro idn Nn af ah ad aa ac ab;simp only[Ab,Aa]at aa;refine Z3 ?_
    repeat' (first|refine Z1 ?_|(refine Z8 ?_;intro κ hκ)|(refine Z4 ?_;clear hκ κ)|(refine Z2 ?_ ?_<;>intro h ae<;>try exact Xp)|(refine Z6 ?_;intro idn Nn af ah ad aa ac ab)|refine Z3 ?_|exact⟨⟩|(apply hκ.out;clear hκ κ))
    exact⟨ts.length-(i+1),Ad6,i+1,idn,xs++[sc (.bool false),ic n],rfl,Ad6,by simp,ah.put Ad6 _,Ad6,rfl,Own.put af _ _,by simp;omega,by rw[Aec,HG.out,hX.out];simp[Um,Il]⟩
   ·have ap:(w1&&w2==v)=false:=by
     cases w1 with
     |false=>rfl
     |true=>simp at hc⊢;exact hc
    have hP:Aec (Um v n (w1,w2)=(w1,w2)):=if_neg (by simpa using hc);clear hc;cases w1 with
    |false=>
     repeat' (first|refine Z1 ?_|(refine Z8 ?_;intro κ hκ)|(refine Z4 ?_;clear hκ κ)|(refine Z2 ?_ ?_<;>intro h ae<;>try exact Xp)|(refine Z6 ?_;intro idn Nn af ah ad aa ac ab)|refine Z3 ?_|exact⟨⟩|(apply hκ.out;clear hκ κ))
     refine Bn (by first|exact Ee) ((hK.new _).put hK.nobj _) (Own.put (Own.new hO _) _ _) (by decide) (by rfl) (an) (by rfl) (by rfl) (by decide) Ad6 Ad6 ?_;intro idn Nn af ah ad aa ac ab;simp only[Ab,Aa]at aa;refine Z3 ?_
     repeat' (first|refine Z1 ?_|(refine Z8 ?_;intro κ hκ)|(refine Z4 ?_;clear hκ κ)|(refine Z2 ?_ ?_<;>intro h ae<;>try exact Xp)|(refine Z6 ?_;intro idn Nn af ah ad aa ac ab)|refine Z3 ?_|exact⟨⟩|(apply hκ.out;clear hκ κ))
     exact⟨ts.length-(i+1),Ad6,i+1,idn,xs++[_,ic w2],rfl,Ad6,by simp,ah.put Ad6 _,Ad6,rfl,Own.put af _ _,by simp;omega,by rw[Aec,HG.out,hX.out,hP.out];rfl⟩
    |true=>
     have ap:(w2==v)=false:=by simpa using ap
     repeat' (first|refine Z1 ?_|(refine Z8 ?_;intro κ hκ)|(refine Z4 ?_;clear hκ κ)|(refine Z2 ?_ ?_<;>intro h ae<;>try exact Xp)|(refine Z6 ?_;intro idn Nn af ah ad aa ac ab)|refine Z3 ?_|exact⟨⟩|(apply hκ.out;clear hκ κ))
     refine Bn (by first|exact Ee) ((hK.new _).put hK.nobj _) (Own.put (Own.new hO _) _ _) (by decide) (by rfl) (an) (by rfl) (by rfl) (by decide) Ad6 Ad6 ?_;intro idn Nn af ah ad aa ac ab;simp only[Ab,Aa]at aa;refine Z3 ?_
     repeat' (first|refine Z1 ?_|(refine Z8 ?_;intro κ hκ)|(refine Z4 ?_;clear hκ κ)|(refine Z2 ?_ ?_<;>intro h ae<;>try exact Xp)|(refine Z6 ?_;intro idn Nn af ah ad aa ac ab)|refine Z3 ?_|exact⟨⟩|(apply hκ.out;clear hκ κ))
     exact⟨ts.length-(i+1),Ad6,i+1,idn,xs++[_,ic w2],rfl,Ad6,by simp,ah.put Ad6 _,Ad6,rfl,Own.put af _ _,by simp;omega,by rw[Aec,HG.out,hX.out,hP.out];rfl⟩
  ·have aw:i=ts.length:=Ad6;subst aw;have hX:=hX.out;rw[Abt]at hX;have hpl:(Ba v n ts).length=ts.length:=by simp[Ba]
   repeat' (first|refine Z1 ?_|(refine Z8 ?_;intro κ hκ)|(refine Z4 ?_;clear hκ κ)|(refine Z2 ?_ ?_<;>intro h ae<;>try exact Xp)|(refine Z6 ?_;intro idn Nn af ah ad aa ac ab)|refine Z3 ?_|exact⟨⟩|(apply hκ.out;clear hκ κ))
   exact⟨_,rfl,⟨i3,by first|rfl|rw[hpl,hX]⟩,hK.put Ad6 _⟩
structure Part where
 a:C6
 tups:List Bc
structure Qry where
 head:C6
 parts:List Part
 nots:List C6
def Cx (l:List Bc):List AV:=l.flatMap icells
def T3 (l:List Bc):Prop:=∀t∈l,t.length=3
theorem Ef {l:List Bc}(h:T3 l):(Cx l).length=l.length*3:=by
 induction l with
 |nil=>rfl
 |cons a l ih=>
  have h1:=h a (by simp);have h2:=ih (fun t ht=>h t (by simp[ht]));unfold Cx at*
  rw[Acz,Ab6,h2,A8,h1];simp;omega
theorem Ke (l:List Bc)(t:Bc):Cx (l++[t])=Cx l++icells t:=by simp[Cx]
theorem kA {l:List Bc}{k:Nat}{t:Bc}(h3:T3 l)(h:l[k]?=some t):∃a b c r,t=[a,b,c]/\(Cx l).drop (k*3)=ic a::ic b::ic c::r:=by
 have hE:∀l:List Bc,EL (fun t c=>c=icells t/\t∈l) l (Cx l):=by
  intro l;induction l with
  |nil=>rfl
  |cons a l ih=>exact⟨icells a,Cx l,⟨rfl,by simp⟩,EL.mono (fun t c h=>⟨h.1,by simp[h.2]⟩) ih,by simp[Cx]⟩
 obtain⟨c,r,⟨rfl,-⟩,e⟩:=EL.get (z:=3) (fun a c h=>by rw[h.1,A8];exact h3 a h.2) (hE l) h;have ht:=h3 t (Abm h)
 match t,ht with
 |[a,b,c],_=>exact⟨a,b,c,r,rfl,by rw[e];rfl⟩
def Mg (a:C6)(c:List AV):Prop:=∃id,c=[ic a.p,sl id a.ts.length (Ac a.ts)]
def K3 (p:Part)(c:List AV):Prop:=∃id idt,c=[ic p.a.p,sl id p.a.ts.length (Ac p.a.ts),sl idt p.tups.length (Cx p.tups)]
theorem Hi (a:C6)(c:List AV)(h:Mg a c):c.length=2:=by obtain⟨id,rfl⟩:=h;rfl
theorem Dt (a:Part)(c:List AV)(h:K3 a c):c.length=3:=by obtain⟨id,idt,rfl⟩:=h;rfl
theorem Ip {l:List C6}{cs:List AV}{i:Nat}{a:C6}(h:EL Mg l cs)(hi:l[i]?=some a):∃id r,cs.drop (i*2)=ic a.p::sl id a.ts.length (Ac a.ts)::r:=by
 obtain⟨c,r,⟨id,rfl⟩,e⟩:=EL.get Hi h hi;exact⟨id,r,e⟩
theorem Eh {l:List Part}{cs:List AV}{i:Nat}{p:Part}(h:EL K3 l cs)(hi:l[i]?=some p):∃id idt r,cs.drop (i*3)=ic p.a.p::sl id p.a.ts.length (Ac p.a.ts)::sl idt p.tups.length (Cx p.tups)::r:=by
 obtain⟨c,r,⟨id,idt,rfl⟩,e⟩:=EL.get Dt h hi;exact⟨id,idt,r,e⟩
def EQ (q:Qry)(c:List AV):Prop:=∃ih ip inn pc nc,c=[ic q.head.p,sl ih q.head.ts.length (Ac q.head.ts),sl ip q.parts.length pc,sl inn q.nots.length nc]/\EL K3 q.parts pc/\EL Mg q.nots nc
structure Me (q:Qry):Prop where
 hd:q.head.ts.length<=3
 pl:q.parts.length<=64
 nl:q.nots.length<=64
 pa:∀p∈q.parts,p.a.ts.length<=3
 pt:∀p∈q.parts,p.tups.length<=5000
 p3:∀p∈q.parts,T3 p.tups
 na:∀a∈q.nots,a.ts.length<=3
def Ch (l:List Part):Nat:=(l.map fun p=>p.tups.length).sum
theorem fC (l:List Part)(p:Part):Ch (l++[p])=Ch l+p.tups.length:=by simp[Ch,List.sum_append]
theorem S8 (q:Qry)(c:List AV)(hc:EQ q c)(hq:Me q)(N:St):ACalls Tryz.prog 252 [ag c] N fun r N'=>r=ic (Ch q.parts:Nat)/\Keep N N':=by
 obtain⟨ih,ip,inn,pc,nc,rfl,hP,hN⟩:=hc;have hpl:=EL.length Dt hP;have hl:=hq.pl;refine Z9 20 [.tmp 2] Tryz.func252 ?_
 repeat' (first|refine Z1 ?_|(refine Z8 ?_;intro κ hκ)|(refine Z4 ?_;clear hκ κ)|(refine Z2 ?_ ?_<;>intro h ab<;>try exact Xp)|refine Z3 ?_|exact⟨⟩|(apply hκ.out;clear hκ κ))
 refine Ad (fun m s N'=>∃i a:Nat,m=q.parts.length-i/\i<=q.parts.length/\s 3=ic a/\s 7=sl ip q.parts.length pc/\s 8=ic q.parts.length/\s 9=ic i/\Keep N N'/\a<=i*5000/\Aec (a=Ch (q.parts.take i))) q.parts.length
  ⟨0,0,Ad6,Ad6,rfl,rfl,rfl,rfl,Xs,by simp,by simp[Aec,Ch]⟩ ?_
 rintro m s N' ⟨i,a,rfl,hi,h3,h7,h8,h9,hK,b1,hA⟩;have ae:=hK.nobj;by_cases ac:i<q.parts.length
 ·have aa:=List.getElem?_eq_getElem ac;obtain⟨id,idt,r,hd⟩:=Eh hP aa;have hb:=hq.pt _ (Ac2 ac);generalize q.parts[i]=w at hd aa hb;have HG:Aec (Ch (q.parts.take (i+1))=Ch (q.parts.take i)+w.tups.length):=by
   rw[Aec,Abv,aa,Ac5,fC]
  clear aa
  repeat' (first|refine Z1 ?_|(refine Z8 ?_;intro κ hκ)|(refine Z4 ?_;clear hκ κ)|(refine Z2 ?_ ?_<;>intro h ab<;>try exact Xp)|refine Z3 ?_|exact⟨⟩|(apply hκ.out;clear hκ κ))
  exact⟨q.parts.length-(i+1),Ad6,i+1,a+w.tups.length,rfl,Ad6,by simp,by simp,Xs,Ad6,by rw[Aec,HG.out,hA.out]⟩
 ·have ad:i=q.parts.length:=Ad6;subst ad;have hA:=hA.out;rw[Abt]at hA;subst hA
  repeat' (first|refine Z1 ?_|(refine Z8 ?_;intro κ hκ)|(refine Z4 ?_;clear hκ κ)|(refine Z2 ?_ ?_<;>intro h ab<;>try exact Xp)|refine Z3 ?_|exact⟨⟩|(apply hκ.out;clear hκ κ))
  first|exact⟨_,rfl,rfl,hK⟩|exact⟨_,rfl,rfl⟩|exact⟨_,rfl,hK⟩|exact hK
def Cv (l:List C6)(v:Int):Nat:=l.countP fun a=>A5 a.ts v
theorem J2 (q:Qry)(c:List AV)(v:Int)(hc:EQ q c)(hq:Me q)(N:St):ACalls Tryz.prog 254 [ag c,ic v] N fun r N'=>r=ic (Cv (q.parts.map (·.a)) v:Nat)/\Keep N N':=by
 obtain⟨ih,ip,inn,pc,nc,rfl,hP,hN⟩:=hc;have hpl:=EL.length Dt hP;have hl:=hq.pl;refine Z9 23 [.tmp 4] Tryz.func254 ?_
 repeat' (first|refine Z1 ?_|(refine Z8 ?_;intro κ hκ)|(refine Z4 ?_;clear hκ κ)|(refine Z2 ?_ ?_<;>intro h ac<;>try exact Xp)|refine Z3 ?_|exact⟨⟩|(apply hκ.out;clear hκ κ))
 refine Ad (fun m s N'=>∃i a:Nat,m=q.parts.length-i/\i<=q.parts.length/\s 1=ic v/\s 5=ic a/\s 9=sl ip q.parts.length pc/\s 10=ic q.parts.length/\s 11=ic i/\Keep N N'/\a<=i/\Aec (a=Cv ((q.parts.take i).map (·.a)) v)) q.parts.length
  ⟨0,0,Ad6,Ad6,rfl,rfl,rfl,rfl,rfl,Xs,by simp,by simp[Aec,Cv]⟩ ?_
 rintro m s N' ⟨i,a,rfl,hi,h1,h5,h9,am,ak,hK,b1,hA⟩;have ai:=hK.nobj;by_cases ad:i<q.parts.length
 ·have aa:=List.getElem?_eq_getElem ad;obtain⟨id,idt,r,hd⟩:=Eh hP aa;have hb:=hq.pa _ (Ac2 ad);generalize q.parts[i]=w at hd aa hb;have HG:Aec (Cv ((q.parts.take (i+1)).map (·.a)) v=Cv ((q.parts.take i).map (·.a)) v+if A5 w.a.ts v then 1 else 0):=by
   rw[Aec,Abv,aa,Ac5,Abx,Cv,List.countP_append];simp[Cv,List.countP_cons]
  clear aa;have ab:w.a.ts.length<=1000:=Ad6
  repeat' (first|refine Z1 ?_|(refine Z8 ?_;intro κ hκ)|(refine Z4 ?_;clear hκ κ)|(refine Z2 ?_ ?_<;>intro h ac<;>try exact Xp)|(refine Z5 ?_;refine Xi (Je _ _ _ _ ab _) ?_;rintro _ _ ⟨rfl,ae⟩;(have af:=ae.nobj;have aj:=((hK.new _).put hK.nobj _).trans ae))|refine Z3 ?_|exact⟨⟩|(apply hκ.out;clear hκ κ))
  ·exact⟨q.parts.length-(i+1),Ad6,i+1,a+1,rfl,Ad6,by simp,by simp,Ad6,by rw[Aec,HG.out,hA.out,if_pos (by assumption)]⟩
  ·exact⟨q.parts.length-(i+1),Ad6,i+1,a,rfl,Ad6,by simp,by simp,Ad6,by rw[Aec,HG.out,hA.out,if_neg (by simp_all),Abn]⟩
 ·have ah:i=q.parts.length:=Ad6;subst ah;have hA:=hA.out;rw[Abt]at hA;subst hA
  repeat' (first|refine Z1 ?_|(refine Z8 ?_;intro κ hκ)|(refine Z4 ?_;clear hκ κ)|(refine Z2 ?_ ?_<;>intro h ac<;>try exact Xp)|refine Z3 ?_|exact⟨⟩|(apply hκ.out;clear hκ κ))
  first|exact⟨_,rfl,rfl,hK⟩|exact⟨_,rfl,rfl⟩|exact⟨_,rfl,hK⟩|exact hK
def atomsQ (q:Qry):List C6:=q.head::(q.parts.map (·.a)++q.nots)
theorem Im (q:Qry)(c:List AV)(hc:EQ q c)(hq:Me q)(N:St):ACalls Tryz.prog 253 [ag c] N fun r N'=>∃id cs,r=sl id (atomsQ q).length cs/\EL Mg (atomsQ q) cs/\Keep N N':=by
 obtain⟨ih,ip,inn,pc,nc,rfl,hP,hN⟩:=hc;have hpl:=EL.length Dt hP;have ay:=EL.length Hi hN;have hl:=hq.pl;have az:=hq.nl;refine Z9 37 [.tmp 2] Tryz.func253 ?_
 repeat' (first|refine Z1 ?_|(refine Z8 ?_;intro κ hκ)|(refine Z4 ?_;clear hκ κ)|(refine Z2 ?_ ?_<;>intro h af<;>try exact Xp)|(refine Z6 ?_;intro idn Nn ah ai ad aa ae ab)|refine Z3 ?_|exact⟨⟩|(apply hκ.out;clear hκ κ))
 have ao:Keep N (N.new [ic q.head.p,sl ih q.head.ts.length (Ac q.head.ts),sl ip q.parts.length pc,sl inn q.nots.length nc]):=(Keep.refl _).new _
 refine Ad (fun m s N'=>∃(k i3:Nat) (xs:List AV),m=q.parts.length-k/\k<=q.parts.length/\s 1=ptr N.nobj 0/\s 3=sl i3 (1+k) xs/\s 12=sl ip q.parts.length pc/\s 13=ic q.parts.length/\s 14=ic k/\Keep N N'/\N.nobj<N'.nobj/\N'.obj N.nobj=[ic q.head.p,sl ih q.head.ts.length (Ac q.head.ts),sl ip q.parts.length pc,sl inn q.nots.length nc]/\Own N N' i3 (1+k)/\xs.length=(1+k)*2/\Aec (EL Mg (q.head::(q.parts.take k).map (·.a)) xs)) q.parts.length
  ⟨0,_,_,Ad6,Ad6,Ad8,rfl,rfl,rfl,rfl,ao.lay 1,by simp only[Ag,Aa];omega,by rw[Ap,Ao],Own.made ao (by decide),by simp,EL.single ⟨ih,rfl⟩⟩ ?_
 rintro m s N' ⟨k,i3,xs,rfl,hk,h1,h3,ax,aw,av,hK,au,ob,hO,aj,hE⟩;clear ao;have ap:=hK.nobj;by_cases ak:k<q.parts.length
 ·have ac:=List.getElem?_eq_getElem ak;obtain⟨id,idt,r,hd⟩:=Eh hP ac;generalize q.parts[k]=w at hd ac;have HG:Aec (q.parts[k]?=some w):=ac;clear ac
  repeat' (first|refine Z1 ?_|(refine Z8 ?_;intro κ hκ)|(refine Z4 ?_;clear hκ κ)|(refine Z2 ?_ ?_<;>intro h af<;>try exact Xp)|(refine Z6 ?_;intro idn Nn ah ai ad aa ae ab)|refine Z3 ?_|exact⟨⟩|(apply hκ.out;clear hκ κ))
  refine Bn (by first|exact D1) ((hK.new _).put hK.nobj _) (Own.put (Own.new hO _) _ _) (by decide) (by rfl) (aj) (by rfl) (by rfl) (by decide) Ad6 Ad6 ?_;intro idn Nn ah ai ad aa ae ab;simp only[Ab,Aa]at aa;have eob:Nn.obj N.nobj=N'.obj N.nobj:=by rw[ad,Aj Ad6,Ae Ad6]
  refine Z3 ?_
  repeat' (first|refine Z1 ?_|(refine Z8 ?_;intro κ hκ)|(refine Z4 ?_;clear hκ κ)|(refine Z2 ?_ ?_<;>intro h af<;>try exact Xp)|(refine Z6 ?_;intro idn Nn ah ai ad aa ae ab)|refine Z3 ?_|exact⟨⟩|(apply hκ.out;clear hκ κ))
  refine⟨q.parts.length-(k+1),Ad6,k+1,idn,xs++[ic w.a.p,sl id w.a.ts.length (Ac w.a.ts)],rfl,Ad6,by simp[Abu],by simp,Ad6,by simpa[Abu]using ah,by simp;omega,?_⟩;rw[Aec,Abv,HG.out];have:=EL.append hE.out (EL.single (E:=Mg) (a:=w.a) ⟨id,rfl⟩);simpa using this
 ·have an:k=q.parts.length:=Ad6;subst an;rw[Abt]at hE;generalize hM:q.parts.length=M at*
  have HM:Aec _:=hM;clear hM ak hk
  repeat' (first|refine Z1 ?_|(refine Z8 ?_;intro κ hκ)|(refine Z4 ?_;clear hκ κ)|(refine Z2 ?_ ?_<;>intro h af<;>try exact Xp)|(refine Z6 ?_;intro idn Nn ah ai ad aa ae ab)|refine Z3 ?_|exact⟨⟩|(apply hκ.out;clear hκ κ))
  refine Ad (fun m s N'=>∃(k i3:Nat) (xs:List AV),m=q.nots.length-k/\k<=q.nots.length/\s 3=sl i3 (1+M+k) xs/\s 25=sl inn q.nots.length nc/\s 26=ic q.nots.length/\s 27=ic k/\Keep N N'/\Own N N' i3 (1+M+k)/\xs.length=(1+M+k)*2/\Aec (EL Mg (q.head::(q.parts.map (·.a)++q.nots.take k)) xs)) q.nots.length
   ⟨0,i3,xs,Ad6,Ad6,Ad7,Ad7,Ad7,Ad8,hK,by simpa using hO,by simpa using aj,by simpa using hE⟩ ?_
  clear hE aj hO h3 h1 ax aw av hK au ob ap;rintro m s N' ⟨k,i3,xs,rfl,hk,h3,a4,a3,a0,hK,hO,aj,hE⟩;have ap:=hK.nobj;by_cases ak:k<q.nots.length
  ·have ac:=List.getElem?_eq_getElem ak;obtain⟨id,r,hd⟩:=Ip hN ac;generalize q.nots[k]=w at hd ac;have HG:Aec (q.nots[k]?=some w):=ac;clear ac
   repeat' (first|refine Z1 ?_|(refine Z8 ?_;intro κ hκ)|(refine Z4 ?_;clear hκ κ)|(refine Z2 ?_ ?_<;>intro h af<;>try exact Xp)|(refine Z6 ?_;intro idn Nn ah ai ad aa ae ab)|refine Z3 ?_|exact⟨⟩|(apply hκ.out;clear hκ κ))
   refine Bn (by first|exact D1) ((hK.new _).put hK.nobj _) (Own.put (Own.new hO _) _ _) (by decide) (by rfl) (aj) (by rfl) (by rfl) (by decide) Ad6 Ad6 ?_;intro idn Nn ah ai ad aa ae ab;refine Z3 ?_
   repeat' (first|refine Z1 ?_|(refine Z8 ?_;intro κ hκ)|(refine Z4 ?_;clear hκ κ)|(refine Z2 ?_ ?_<;>intro h af<;>try exact Xp)|(refine Z6 ?_;intro idn Nn ah ai ad aa ae ab)|refine Z3 ?_|exact⟨⟩|(apply hκ.out;clear hκ κ))
   refine⟨q.nots.length-(k+1),Ad6,k+1,idn,xs++[ic w.p,sl id w.ts.length (Ac w.ts)],rfl,Ad6,by simp[Abu],by simp,by simpa[Abu]using ah,by simp;omega,?_⟩;rw[Aec,Abv,HG.out];have:=EL.append hE.out (EL.single (E:=Mg) (a:=w) ⟨id,rfl⟩);simpa using this
  ·have an:k=q.nots.length:=Ad6;subst an;rw[Abt]at hE;have am:(atomsQ q).length=1+M+q.nots.length:=by have:=HM.out;simp[atomsQ];omega
   repeat' (first|refine Z1 ?_|(refine Z8 ?_;intro κ hκ)|(refine Z4 ?_;clear hκ κ)|(refine Z2 ?_ ?_<;>intro h af<;>try exact Xp)|(refine Z6 ?_;intro idn Nn ah ai ad aa ae ab)|refine Z3 ?_|exact⟨⟩|(apply hκ.out;clear hκ κ))
   exact⟨_,rfl,i3,xs,by first|rfl|rw[am],by simpa[atomsQ]using hE.out⟩
end Go.Proofs.YtmoeoppbmhfbpabGreatDoorJ
