import Derived.Test.YtmoeoppbmhfbpaaGreatDoorHFacts
import Derived.Test.YtmoeoppbmhfbpaaGreatDoorHAbsWp
set_option maxHeartbeats 16000000
set_option maxRecDepth 100000
set_option linter.all false
namespace Go.Proofs.YtmoeoppbmhfbpaaGreatDoorH
open Go.Abs
abbrev Tm:=Bool×Int
structure Ee where
 p:Int
 ts:List Tm
abbrev Bj:=List Int
abbrev ic (n:Int):AV:=sc (.int .i64 n)
def W9 (t:Tm):List AV:=[sc (.bool t.1),ic t.2]
def Ae (ts:List Tm):List AV:=ts.flatMap W9
theorem En (ts:List Tm):(Ae ts).length=ts.length*2:=by
 induction ts with
 |nil=>rfl
 |cons a l ih=>unfold Ae at*;rw[Aca,Abj,ih];simp[W9];omega
theorem Eo {ts:List Tm}{k:Nat}{w:Tm}(h:ts[k]?=some w):∃r,(Ae ts).drop (k*2)=sc (.bool w.1)::ic w.2::r:=by
 have hE:∀ts:List Tm,EL (fun w c=>c=W9 w) ts (Ae ts):=by
  intro ts;induction ts with
  |nil=>rfl
  |cons a l ih=>exact⟨W9 a,Ae l,rfl,ih,by simp[Ae]⟩
 obtain⟨c,r,rfl,e⟩:=EL.get (z:=2) (fun a c h=>by rw[h];rfl) (hE ts) h;exact⟨r,e⟩
def Hw (ts:List Tm)(v:Int):Int:=if (true,v)∈ts then (ts.idxOf (true,v):Nat)else -1
theorem Tr {α:Type}[BEq α][LawfulBEq α]{l:List α}{i:Nat}{x:α}(h:l[i]?=some x)(hn:x∉l.take i):l.idxOf x=i:=by
 have hi:=(Aau.1 h).1;have:l=l.take i++l.drop i:=(Ada i l).symm;rw[this,List.idxOf_append,if_neg hn,Abk,Abp Ad2,Abx hi];have:=(Aau.1 h).2;simp[this]
theorem uW {ts:List Tm}{v:Int}{i:Nat}(h:ts[i]?=some (true,v))(hn:(true,v)∉ts.take i):Hw ts v=i:=by
 unfold Hw;rw[if_pos (Aax h),Tr h hn]
theorem I6 {ts:List Tm}{v:Int}(hn:(true,v)∉ts):Hw ts v= -1:=if_neg hn
theorem S5 {α:Type}{l:List α}{i:Nat}{x y:α}(h:x∉l.take i)(hi:l[i]?=some y)(hy:y≠x):x∉l.take (i+1):=by
 rw[Aa8,hi];simp only[Ab9,Ab2,Acx,not_or];exact⟨h,fun e=>hy e.symm⟩
theorem Fq (p:Int)(ids:Nat)(ts:List Tm)(v:Int)(hn:ts.length<=1000)(A:St):ACalls Tryz.prog 210 [ag [ic p,sl ids ts.length (Ae ts)],ic v] A fun r A'=>r=ic (Hw ts v)/\Keep A A':=by
 have ah:=En ts;refine Z9 25 [.tmp 4] Tryz.func210 ?_
 repeat' (first|refine Z1 ?_|(refine Z8 ?_;intro ya J)|(refine Z4 ?_;clear J ya)|(refine Z2 ?_ ?_<;>intro h ac<;>try exact Xp)|refine Z3 ?_|exact Zt|(apply J.out;clear J ya))
 refine Ab (fun m s A'=>∃i:Nat,m=ts.length-i/\i<=ts.length/\s 1=ic v/\s 8=sl ids ts.length (Ae ts)/\s 9=ic ts.length/\s 10=ic i/\Keep A A'/\Ad8 ((true,v)∉ts.take i)) ts.length
  ⟨0,Ad2,Ad2,rfl,rfl,rfl,rfl,Xs,by simp[Ad8]⟩ ?_
 rintro m s A' ⟨i,rfl,hi,h1,h8,h9,ai,hK,ab⟩;by_cases ad:i<ts.length
 ·have aa:=Aav ad;obtain⟨r,hd⟩:=Eo aa;generalize ts[i]=w at hd aa;obtain⟨w1,w2⟩:=w;have HG:Ad8 (ts[i]?=some (w1,w2)):=aa;clear aa;have af:=hK.nobj
  repeat' (first|refine Z1 ?_|(refine Z8 ?_;intro ya J)|(refine Z4 ?_;clear J ya)|(refine Z2 ?_ ?_<;>intro h ac<;>try exact Xp)|refine Z3 ?_|exact Zt|(apply J.out;clear J ya))
  ·have e:w1=true/\w2=v:=by simp_all
   obtain⟨rfl,rfl⟩:=e;exact⟨_,rfl,by rw[uW HG.out ab.out],Xs⟩
  all_goals exact⟨ts.length-(i+1),Ad2,i+1,rfl,Ad2,by simp,Xs,S5 ab.out HG.out (by simp_all)⟩
 ·have ae:i=ts.length:=Ad2;subst ae;rw[Aa3]at ab
  repeat' (first|refine Z1 ?_|(refine Z8 ?_;intro ya J)|(refine Z4 ?_;clear J ya)|(refine Z2 ?_ ?_<;>intro h ac<;>try exact Xp)|refine Z3 ?_|exact Zt|(apply J.out;clear J ya))
  first|exact⟨_,rfl,by rw[I6 ab.out],hK⟩|exact⟨_,rfl,by rw[I6 ab.out]⟩
def Bb (ts:List Tm)(v:Int):Bool:=decide ((true,v)∈ts)
theorem uX (ts:List Tm)(v:Int):(Hw ts v != -1)=Bb ts v:=by
 unfold Hw Bb;split<;>rename_i h<;>simp[h]
theorem Jh (p:Int)(ids:Nat)(ts:List Tm)(v:Int)(hn:ts.length<=1000)(A:St):ACalls Tryz.prog 199 [ag [ic p,sl ids ts.length (Ae ts)],ic v] A fun r A'=>r=sc (.bool (Bb ts v))/\Keep A A':=by
 have hp:=uX ts v;refine Z9 9 [.tmp 4] Tryz.func199 ?_
 repeat' (first|refine Z1 ?_|(refine Z8 ?_;intro ya J)|(refine Z4 ?_;clear J ya)|(refine Z2 ?_ ?_<;>intro h aa<;>try exact Xp)|(refine Z5 ?_;refine Xi (Fq _ _ _ _ hn _) ?_;rintro _ _ ⟨rfl,hK⟩)|refine Z3 ?_|exact Zt|(apply J.out;clear J ya))
 exact⟨_,rfl,rfl,Xs⟩
def Gn (ts:List Tm):Bool:=ts.all fun t=>!t.1
theorem It (p:Int)(ids:Nat)(ts:List Tm)(hn:ts.length<=1000)(A:St):ACalls Tryz.prog 125 [ag [ic p,sl ids ts.length (Ae ts)]] A fun r A'=>r=sc (.bool (Gn ts))/\Keep A A':=by
 have ai:=En ts;refine Z9 15 [.tmp 2] Tryz.func125 ?_
 repeat' (first|refine Z1 ?_|(refine Z8 ?_;intro ya J)|(refine Z4 ?_;clear J ya)|(refine Z2 ?_ ?_<;>intro h ad<;>try exact Xp)|refine Z3 ?_|exact Zt|(apply J.out;clear J ya))
 refine Ab (fun m s A'=>∃i:Nat,m=ts.length-i/\i<=ts.length/\s 6=sl ids ts.length (Ae ts)/\s 7=ic ts.length/\s 8=ic i/\Keep A A'/\Ad8 (Gn (ts.take i)=true)) ts.length
  ⟨0,Ad2,Ad2,rfl,rfl,rfl,Xs,by simp[Ad8,Gn]⟩ ?_
 rintro m s A' ⟨i,rfl,hi,h6,h7,h8,hK,ab⟩;by_cases ae:i<ts.length
 ·have aa:=Aav ae;obtain⟨r,hd⟩:=Eo aa;have ac:=Ab1 ae;generalize ts[i]=w at hd aa ac;obtain⟨w1,w2⟩:=w;have HG:Ad8 (ts[i]?=some (w1,w2)/\(w1,w2)∈ts):=⟨aa,ac⟩;clear aa ac;have ah:=hK.nobj
  repeat' (first|refine Z1 ?_|(refine Z8 ?_;intro ya J)|(refine Z4 ?_;clear J ya)|(refine Z2 ?_ ?_<;>intro h ad<;>try exact Xp)|refine Z3 ?_|exact Zt|(apply J.out;clear J ya))
  ·exact⟨_,rfl,by
    have:Gn ts=false:=by
     unfold Gn;rw[List.all_eq_false];exact⟨_,HG.out.2,by simp_all⟩
    rw[this],Xs⟩
  ·exact⟨ts.length-(i+1),Ad2,i+1,rfl,Ad2,by simp,Xs,by
    have ab:=ab.out;unfold Gn at ab;rw[Ad8,Gn,Aa8,HG.out.1,List.all_append,ab]
    simp_all⟩
 ·have af:i=ts.length:=Ad2;subst af;rw[Aa3]at ab;have ab:=ab.out
  repeat' (first|refine Z1 ?_|(refine Z8 ?_;intro ya J)|(refine Z4 ?_;clear J ya)|(refine Z2 ?_ ?_<;>intro h ad<;>try exact Xp)|refine Z3 ?_|exact Zt|(apply J.out;clear J ya))
  first|exact⟨_,rfl,rfl,hK⟩|exact⟨_,rfl,rfl⟩
def C8 (l:List Int):Bj:=[(l[0]?).getD (-1),(l[1]?).getD (-1),(l[2]?).getD (-1)]
def Aj (t:List Int):List AV:=t.map ic
theorem Qb (p:Int)(ids:Nat)(ts:List Tm)(hn:ts.length<=1000)(A:St):ACalls Tryz.prog 128 [ag [ic p,sl ids ts.length (Ae ts)]] A fun r A'=>r=ag (Aj (C8 (ts.map (·.2))))/\Keep A A':=by
 have ak:=En ts;have af:∃L:Nat->Int,(∀i,L i=((ts[i]?).map (·.2)).getD (-1))/\Aj (C8 (ts.map (·.2)))=[ic (L 0),ic (L 1),ic (L 2)]:=⟨fun i=>((ts[i]?).map (·.2)).getD (-1),fun _=>rfl,by simp[Aj,C8]⟩;obtain⟨L,hL,hT⟩:=af;refine Z9 26 [.cell 2 125] Tryz.func128 ?_
 repeat' (first|refine Z1 ?_|(refine Z8 ?_;intro ya J)|(refine Z4 ?_;clear J ya)|(refine Z2 ?_ ?_<;>intro h ac<;>try exact Xp)|refine Z3 ?_|exact Zt|(apply J.out;clear J ya))
 refine Ab (fun m s A'=>∃(i:Nat),m=3-i/\i<=3/\s 1=ptr A.nobj 0/\s 2=ptr (A.nobj+1) 0/\s 3=ptr (A.nobj+2) 0/\s 6=ic i/\Keep A A'/\A.nobj+2<A'.nobj/\A'.obj A.nobj=[ic p,sl ids ts.length (Ae ts)]/\A'.obj (A.nobj+1)=[ic 0,ic 0,ic 0]/\A'.obj (A.nobj+2)=[ic (if 0<i then L 0 else 0),ic (if 1<i then L 1 else 0),ic (if 2<i then L 2 else 0)]) 3
  ⟨0,Ad2,Ad2,Ad4,Ad4,Ad4,rfl,Xs,by simp only[Aa,Ac];omega,?_,?_,?_⟩ ?_
 ·rw[Al Ad2,Ai Ad6,Ai Ad6,Am]
 ·rw[Al Ad2,Ai Ad6,Cd Ad6 Ad6]
 ·rw[show A.nobj+2=A.nobj+1+1 from rfl,Ak];rfl
 rintro m s A' ⟨i,rfl,hi,h1,h2,h3,h6,hK,am,ai,ah,ad⟩;have aj:=hK.nobj;by_cases an:i<3
 ·by_cases hl:i<ts.length
  ·have aa:=Aav hl;obtain⟨r,hd⟩:=Eo aa;have ab:=hL i;rw[aa]at ab;generalize ts[i]=w at hd aa ab;obtain⟨w1,w2⟩:=w;clear aa hL;simp only[Ab3,Option.getD_some]at ab;rcases (show i=0\/i=1\/i=2 by omega)with rfl|rfl|rfl
   all_goals
    simp only[↓reduceIte,Nat.lt_irrefl,Nat.reduceLT,Nat.reduceMul,Nat.zero_mul,List.drop_zero]at ad hd ab
    repeat' (first|refine Z1 ?_|(refine Z8 ?_;intro ya J)|(refine Z4 ?_;clear J ya)|(refine Z2 ?_ ?_<;>intro h ac<;>try exact Xp)|refine Z3 ?_|exact Zt|(apply J.out;clear J ya))
    first|exact⟨2,Ad2,1,rfl,Ad2,rfl,Xs,by simp[*]⟩|exact⟨1,Ad2,2,rfl,Ad2,rfl,Xs,by simp[*]⟩|exact⟨0,Ad2,3,rfl,Ad2,rfl,Xs,by simp[*]⟩
  ·have ab:=hL i;rw[Aa7 Ad2]at ab;simp only[Option.map_none,Option.getD_none]at ab;clear hL;rcases (show i=0\/i=1\/i=2 by omega)with rfl|rfl|rfl
   all_goals
    simp only[↓reduceIte,Nat.lt_irrefl,Nat.reduceLT,Nat.reduceMul,Nat.zero_mul,List.drop_zero]at ad ab
    repeat' (first|refine Z1 ?_|(refine Z8 ?_;intro ya J)|(refine Z4 ?_;clear J ya)|(refine Z2 ?_ ?_<;>intro h ac<;>try exact Xp)|refine Z3 ?_|exact Zt|(apply J.out;clear J ya))
    first|exact⟨2,Ad2,1,rfl,Ad2,rfl,Xs,by simp[*]⟩|exact⟨1,Ad2,2,rfl,Ad2,rfl,Xs,by simp[*]⟩|exact⟨0,Ad2,3,rfl,Ad2,rfl,Xs,by simp[*]⟩
 ·have ae:i=3:=Ad2;subst ae;simp only[↓reduceIte,Nat.reduceLT]at ad
  repeat' (first|refine Z1 ?_|(refine Z8 ?_;intro ya J)|(refine Z4 ?_;clear J ya)|(refine Z2 ?_ ?_<;>intro h ac<;>try exact Xp)|refine Z3 ?_|exact Zt|(apply J.out;clear J ya))
  first|exact⟨_,rfl,by rw[hT],Xs⟩|exact⟨_,rfl,rfl,Xs⟩
theorem Bm (l:List Int):(Aj l).length=l.length:=by simp[Aj]
theorem Db {l:List Int}{k:Nat}{n:Int}(h:l[k]?=some n):∃r,(Aj l).drop k=ic n::r:=by
 have hk:=(Aau.1 h);obtain⟨h1,h2⟩:=hk;refine⟨(Aj l).drop (k+1),?_⟩;rw[Abx (by rw[Bm];exact h1)];simp[Aj,h2]
theorem Cj (l:List Int):(Aj l).all flat=true:=by
 rw[Aaw];intro x hx;obtain⟨n,-,rfl⟩:=Acf.1 hx;rfl
theorem eB (l:List Int)(n:Int):Aj (l++[n])=Aj l++[ic n]:=by simp[Aj]
theorem Gk (v:Int)(l:List Int)(id:Nat)(hn:l.length<=100000)(A:St):ACalls Tryz.prog 79 [ic v,sl id l.length (Aj l)] A fun r A'=>r=ic (if v∈l then (l.idxOf v:Nat)else -1)/\Keep A A':=by
 have ah:=Bm l;refine Z9 19 [.tmp 4] Tryz.func79 ?_
 repeat' (first|refine Z1 ?_|(refine Z8 ?_;intro ya J)|(refine Z4 ?_;clear J ya)|(refine Z2 ?_ ?_<;>intro h ac<;>try exact Xp)|refine Z3 ?_|exact Zt|(apply J.out;clear J ya))
 refine Ab (fun m s A'=>∃i:Nat,m=l.length-i/\i<=l.length/\s 0=ic v/\s 7=sl id l.length (Aj l)/\s 8=ic l.length/\s 9=ic i/\Keep A A'/\Ad8 (v∉l.take i)) l.length
  ⟨0,Ad2,Ad2,rfl,rfl,rfl,rfl,Xs,by simp[Ad8]⟩ ?_
 rintro m s A' ⟨i,rfl,hi,h0,h7,h8,h9,hK,ab⟩;by_cases ad:i<l.length
 ·have aa:=Aav ad;obtain⟨r,hd⟩:=Db aa;generalize l[i]=w at hd aa;have HG:Ad8 (l[i]?=some w):=aa;clear aa;have af:=hK.nobj
  repeat' (first|refine Z1 ?_|(refine Z8 ?_;intro ya J)|(refine Z4 ?_;clear J ya)|(refine Z2 ?_ ?_<;>intro h ac<;>try exact Xp)|refine Z3 ?_|exact Zt|(apply J.out;clear J ya))
  ·have e:w=v:=by simp_all
   subst e;exact⟨_,rfl,by rw[if_pos (Aax HG.out),Tr HG.out ab.out]⟩
  all_goals exact⟨l.length-(i+1),Ad2,i+1,rfl,Ad2,by simp,S5 ab.out HG.out (by simp_all)⟩
 ·have ae:i=l.length:=Ad2;subst ae;rw[Aa3]at ab
  repeat' (first|refine Z1 ?_|(refine Z8 ?_;intro ya J)|(refine Z4 ?_;clear J ya)|(refine Z2 ?_ ?_<;>intro h ac<;>try exact Xp)|refine Z3 ?_|exact Zt|(apply J.out;clear J ya))
  first|exact⟨_,rfl,by rw[if_neg ab.out],hK⟩|exact⟨_,rfl,by rw[if_neg ab.out]⟩
theorem P4 (v:Int)(l:List Int):((if v∈l then ((l.idxOf v:Nat):Int)else -1)== -1)=decide (v∉l):=by
 split<;>rename_i h<;>simp[h]
theorem Jz (p:Int)(ids:Nat)(ts:List Tm)(l:List Int)(id:Nat)(hn:ts.length<=1000)(hl:l.length<=100000)(A:St):ACalls Tryz.prog 218 [ag [ic p,sl ids ts.length (Ae ts)],sl id l.length (Aj l)] A fun r A'=>r=sc (.bool (l.any (Bb ts)))/\Keep A A':=by
 have ak:=Bm l;refine Z9 17 [.tmp 4] Tryz.func218 ?_
 repeat' (first|refine Z1 ?_|(refine Z8 ?_;intro ya J)|(refine Z4 ?_;clear J ya)|(refine Z2 ?_ ?_<;>intro h ac<;>try exact Xp)|refine Z3 ?_|exact Zt|(apply J.out;clear J ya))
 refine Ab (fun m s A'=>∃i:Nat,m=l.length-i/\i<=l.length/\s 2=ptr A.nobj 0/\s 7=sl id l.length (Aj l)/\s 8=ic l.length/\s 9=ic i/\Keep A A'/\A.nobj<A'.nobj/\A'.obj A.nobj=[ic p,sl ids ts.length (Ae ts)]/\Ad8 ((l.take i).any (Bb ts)=false)) l.length
  ⟨0,Ad2,Ad2,Ad4,Ad4,Ad4,rfl,Xs,Ad6,by rw[Am],by simp[Ad8]⟩ ?_
 rintro m s A' ⟨i,rfl,hi,h2,h7,h8,h9,hK,am,ob,hA⟩;have aj:=hK.nobj;by_cases ae:i<l.length
 ·have aa:=Aav ae;obtain⟨r,hd⟩:=Db aa;have ab:=Ab1 ae;generalize l[i]=w at hd aa ab;have HG:Ad8 (l[i]?=some w/\w∈l):=⟨aa,ab⟩;clear aa ab
  repeat' (first|refine Z1 ?_|(refine Z8 ?_;intro ya J)|(refine Z4 ?_;clear J ya)|(refine Z2 ?_ ?_<;>intro h ac<;>try exact Xp)|(refine Z5 ?_;refine Xi (Jh _ _ _ _ hn _) ?_;rintro _ _ ⟨rfl,ad⟩;(have ah:=ad.nobj;have af:=ad.obj))|refine Z3 ?_|exact Zt|(apply J.out;clear J ya))
  ·first|exact⟨_,rfl,by rw[Ab0.2 ⟨w,HG.out.2,by assumption⟩],hK.trans ad⟩|exact⟨_,rfl,by rw[Ab0.2 ⟨w,HG.out.2,by assumption⟩]⟩
  ·exact⟨l.length-(i+1),Ad2,i+1,rfl,Ad2,by simp,hK.trans ad,Ad2,by
    rw[Ad8,Aa8,HG.out.1,Ac8,hA.out]
    simp_all⟩
 ·have ai:i=l.length:=Ad2;subst ai;rw[Aa3]at hA;have hA:=hA.out
  repeat' (first|refine Z1 ?_|(refine Z8 ?_;intro ya J)|(refine Z4 ?_;clear J ya)|(refine Z2 ?_ ?_<;>intro h ac<;>try exact Xp)|refine Z3 ?_|exact Zt|(apply J.out;clear J ya))
  first|exact⟨_,rfl,rfl,hK⟩|exact⟨_,rfl,rfl⟩|exact⟨_,rfl,hK⟩|exact hK|exact⟨_,rfl,by rw[hA],hK⟩|exact⟨_,rfl,by rw[hA]⟩
theorem Y1 (p:Int)(ids:Nat)(ts:List Tm)(l:List Int)(id:Nat)(hn:ts.length<=1000)(hl:l.length<=100000)(A:St):ACalls Tryz.prog 246 [ag [ic p,sl ids ts.length (Ae ts)],sl id l.length (Aj l)] A fun r A'=>r=sc (.bool (l.all (Bb ts)))/\Keep A A':=by
 have ak:=Bm l;refine Z9 18 [.tmp 4] Tryz.func246 ?_
 repeat' (first|refine Z1 ?_|(refine Z8 ?_;intro ya J)|(refine Z4 ?_;clear J ya)|(refine Z2 ?_ ?_<;>intro h ac<;>try exact Xp)|refine Z3 ?_|exact Zt|(apply J.out;clear J ya))
 refine Ab (fun m s A'=>∃i:Nat,m=l.length-i/\i<=l.length/\s 2=ptr A.nobj 0/\s 7=sl id l.length (Aj l)/\s 8=ic l.length/\s 9=ic i/\Keep A A'/\A.nobj<A'.nobj/\A'.obj A.nobj=[ic p,sl ids ts.length (Ae ts)]/\Ad8 ((l.take i).all (Bb ts)=true)) l.length
  ⟨0,Ad2,Ad2,Ad4,Ad4,Ad4,rfl,Xs,Ad6,by rw[Am],by simp[Ad8]⟩ ?_
 rintro m s A' ⟨i,rfl,hi,h2,h7,h8,h9,hK,am,ob,hA⟩;have aj:=hK.nobj;by_cases ae:i<l.length
 ·have aa:=Aav ae;obtain⟨r,hd⟩:=Db aa;have ab:=Ab1 ae;generalize l[i]=w at hd aa ab;have HG:Ad8 (l[i]?=some w/\w∈l):=⟨aa,ab⟩;clear aa ab
  repeat' (first|refine Z1 ?_|(refine Z8 ?_;intro ya J)|(refine Z4 ?_;clear J ya)|(refine Z2 ?_ ?_<;>intro h ac<;>try exact Xp)|(refine Z5 ?_;refine Xi (Jh _ _ _ _ hn _) ?_;rintro _ _ ⟨rfl,ad⟩;(have ah:=ad.nobj;have af:=ad.obj))|refine Z3 ?_|exact Zt|(apply J.out;clear J ya))
  ·first|exact⟨_,rfl,by rw[List.all_eq_false.2 ⟨w,HG.out.2,by simp_all⟩],hK.trans ad⟩|exact⟨_,rfl,by rw[List.all_eq_false.2 ⟨w,HG.out.2,by simp_all⟩]⟩
  ·exact⟨l.length-(i+1),Ad2,i+1,rfl,Ad2,by simp,hK.trans ad,Ad2,by
    rw[Ad8,Aa8,HG.out.1,List.all_append,hA.out]
    simp_all⟩
 ·have ai:i=l.length:=Ad2;subst ai;rw[Aa3]at hA;have hA:=hA.out
  repeat' (first|refine Z1 ?_|(refine Z8 ?_;intro ya J)|(refine Z4 ?_;clear J ya)|(refine Z2 ?_ ?_<;>intro h ac<;>try exact Xp)|refine Z3 ?_|exact Zt|(apply J.out;clear J ya))
  first|exact⟨_,rfl,rfl,hK⟩|exact⟨_,rfl,rfl⟩|exact⟨_,rfl,hK⟩|exact hK|exact⟨_,rfl,by rw[hA],hK⟩|exact⟨_,rfl,by rw[hA]⟩
theorem Qc (l:List Int)(id:Nat)(hn:l.length<=100000)(h0:∀n∈l,0<=n/\n<=1000000)(A:St):ACalls Tryz.prog 115 [sl id l.length (Aj l)] A fun r A'=>r=ic l.sum/\Keep A A':=by
 have af:=Bm l;refine Z9 17 [.tmp 2] Tryz.func115 ?_
 repeat' (first|refine Z1 ?_|(refine Z8 ?_;intro ya J)|(refine Z4 ?_;clear J ya)|(refine Z2 ?_ ?_<;>intro h ab<;>try exact Xp)|refine Z3 ?_|exact Zt|(apply J.out;clear J ya))
 refine Ab (fun m s A'=>∃i:Nat,m=l.length-i/\i<=l.length/\s 3=ic (l.take i).sum/\s 6=sl id l.length (Aj l)/\s 7=ic l.length/\s 8=ic i/\Keep A A'/\0<=(l.take i).sum/\(l.take i).sum<=i*1000000) l.length
  ⟨0,Ad2,Ad2,rfl,rfl,rfl,rfl,Xs,by simp,by simp⟩ ?_
 rintro m s A' ⟨i,rfl,hi,h3,h6,h7,h8,hK,b0,b1⟩;by_cases ac:i<l.length
 ·have aa:=Aav ac;obtain⟨r,hd⟩:=Db aa;have hb:=h0 l[i] (Ab1 ac);have hs:Ad8 ((l.take (i+1)).sum=(l.take i).sum+l[i]):=by
   rw[Ad8,Aa8,aa];simp only[Ab9,List.sum_append,List.sum_cons,List.sum_nil];omega
  generalize l[i]=w at hd aa hb hs;clear aa;generalize (l.take i).sum=acc at h3 b0 b1 hs;have ae:=hK.nobj
  repeat' (first|refine Z1 ?_|(refine Z8 ?_;intro ya J)|(refine Z4 ?_;clear J ya)|(refine Z2 ?_ ?_<;>intro h ab<;>try exact Xp)|refine Z3 ?_|exact Zt|(apply J.out;clear J ya))
  exact⟨l.length-(i+1),Ad2,i+1,rfl,Ad2,by rw[hs.out],by simp,by rw[hs.out];omega,by rw[hs.out];omega⟩
 ·have ad:i=l.length:=Ad2;subst ad;rw[Aa3]at h3
  repeat' (first|refine Z1 ?_|(refine Z8 ?_;intro ya J)|(refine Z4 ?_;clear J ya)|(refine Z2 ?_ ?_<;>intro h ab<;>try exact Xp)|refine Z3 ?_|exact Zt|(apply J.out;clear J ya))
  first|exact⟨_,rfl,rfl,hK⟩|exact⟨_,rfl,rfl⟩|exact⟨_,rfl,hK⟩
def Ut (v n:Int)(t:Tm):Tm:=if t=(true,v)then (false,n)else t
def Bg (v n:Int)(ts:List Tm):List Tm:=ts.map (Ut v n)
theorem gR {v n:Int}{ts:List Tm}(h:Bb ts v=false):Bg v n ts=ts:=by
 unfold Bg
 conv=>rhs;rw[<-List.map_id ts]
 apply Acn;intro t ht;unfold Ut;rw[if_neg]
 ·rfl
 ·rintro rfl;simp[Bb]at h;exact h ht
theorem Lp (p:Int)(ids:Nat)(ts:List Tm)(v n:Int)(hn:ts.length<=1000)(A:St):ACalls Tryz.prog 219 [ag [ic p,sl ids ts.length (Ae ts)],ic v,ic n] A fun r A'=>(∃id,r=ag [ic p,sl id (Bg v n ts).length (Ae (Bg v n ts))])/\Keep A A':=by
 have a0:=En ts;refine Z9 43 [.cell 6 94] Tryz.func219 ?_
 repeat' (first|refine Z1 ?_|(refine Z8 ?_;intro ya J)|(refine Z4 ?_;clear J ya)|(refine Z2 ?_ ?_<;>intro h ae<;>try exact Xp)|(refine Z6 ?_;intro idn An af ah ad aa ac ab)|(refine Z5 ?_;refine Xi (Jh _ _ _ _ hn _) ?_;rintro _ _ ⟨rfl,ak⟩;(have am:=ak.nobj;have ai:=ak.obj;(try simp only[Aa]at am ai)))|refine Z3 ?_|exact Zt|(apply J.out;clear J ya))
 ·have e:=gR (n:=n) h;rw[e];exact⟨_,rfl,⟨_,rfl⟩,(((Keep.refl _).new _).new _).trans ak|>.put Ad2 _⟩
 ·rename_i A1;have ay:Keep A A1:=(((Keep.refl _).new _).new _).trans ak;have kn1:=ay.nobj;have au:=ai A.nobj Ad2;have ao:=ai (A.nobj+1) Ad2;rw[Ai Ad6,Am]at au;rw[Cd Ad6 Ad6]at ao;clear ai ak
  repeat' (first|refine Z1 ?_|(refine Z8 ?_;intro ya J)|(refine Z4 ?_;clear J ya)|(refine Z2 ?_ ?_<;>intro h ae<;>try exact Xp)|(refine Z6 ?_;intro idn An af ah ad aa ac ab)|refine Z3 ?_|exact Zt|(apply J.out;clear J ya))
  refine Ab (fun m s A'=>∃(i i3:Nat) (xs:List AV),m=ts.length-i/\i<=ts.length/\s 1=ic v/\s 2=ic n/\s 6=ptr (A.nobj+1) 0/\s 7=ptr A1.nobj 0/\s 19=sl ids ts.length (Ae ts)/\s 20=ic ts.length/\s 21=ic i/\Keep A A'/\A1.nobj<A'.nobj/\A'.obj (A.nobj+1)=[ic 0,nilS]/\A'.obj A1.nobj=[ic p,sl i3 i xs]/\Own A A' i3 i/\xs.length=i*2/\Ad8 (xs=Ae (Bg v n (ts.take i)))) ts.length
   ⟨0,1,[],Ad2,Ad2,by simp[upd,initS],by simp[upd,initS],Ad4,Ad4,Ad4,Ad4,rfl,Xs,Ad7,?_,?_,Own.nil _ _,by simp,by simp[Ad8,Bg,Ae]⟩ ?_
  ·rw[Al Ad2,Ai Ad2];simp[ao,cst1]
  ·rw[Ak]
  rintro m s A' ⟨i,i3,xs,rfl,hi,h1,h2,h6,h7,a6,a5,a4,hK,a3,oc1,oc2,hO,an,hX⟩;have az:=hK.nobj;by_cases aw:i<ts.length
  ·have aj:=Aav aw;obtain⟨r,hd⟩:=Eo aj;generalize ts[i]=w at hd aj;obtain⟨w1,w2⟩:=w;have HG:Ad8 (Ae (Bg v n (ts.take (i+1)))=Ae (Bg v n (ts.take i))++W9 (Ut v n (w1,w2))):=by
    rw[Ad8,Aa8,aj];simp[Bg,Ae]
   clear aj;by_cases hc:w1=true/\w2=v
   ·obtain⟨rfl,rfl⟩:=hc
    repeat' (first|refine Z1 ?_|(refine Z8 ?_;intro ya J)|(refine Z4 ?_;clear J ya)|(refine Z2 ?_ ?_<;>intro h ae<;>try exact Xp)|(refine Z6 ?_;intro idn An af ah ad aa ac ab)|refine Z3 ?_|exact Zt|(apply J.out;clear J ya))
    refine C4 (by first|exact Kh) (((hK.new _).put hK.nobj _).put hK.nobj _) (Own.put (Own.put (Own.new hO _) _ _) _ _) (by decide) (by rfl) (an) (by rfl) (by rfl) (by decide) Ad2 Ad2 ?_;intro idn An af ah ad aa ac ab;simp only[Ac,Aa]at aa;refine Z3 ?_
    repeat' (first|refine Z1 ?_|(refine Z8 ?_;intro ya J)|(refine Z4 ?_;clear J ya)|(refine Z2 ?_ ?_<;>intro h ae<;>try exact Xp)|(refine Z6 ?_;intro idn An af ah ad aa ac ab)|refine Z3 ?_|exact Zt|(apply J.out;clear J ya))
    exact⟨ts.length-(i+1),Ad2,i+1,idn,xs++[sc (.bool false),ic n],rfl,Ad2,by simp,ah.put Ad2 _,Ad2,rfl,Own.put af _ _,by simp;omega,by rw[Ad8,HG.out,hX.out];simp[Ut,W9]⟩
   ·have ap:(w1&&w2==v)=false:=by
     cases w1 with
     |false=>rfl
     |true=>simp at hc⊢;exact hc
    have hP:Ad8 (Ut v n (w1,w2)=(w1,w2)):=if_neg (by simpa using hc);clear hc;cases w1 with
    |false=>
     repeat' (first|refine Z1 ?_|(refine Z8 ?_;intro ya J)|(refine Z4 ?_;clear J ya)|(refine Z2 ?_ ?_<;>intro h ae<;>try exact Xp)|(refine Z6 ?_;intro idn An af ah ad aa ac ab)|refine Z3 ?_|exact Zt|(apply J.out;clear J ya))
     refine C4 (by first|exact Kh) ((hK.new _).put hK.nobj _) (Own.put (Own.new hO _) _ _) (by decide) (by rfl) (an) (by rfl) (by rfl) (by decide) Ad2 Ad2 ?_;intro idn An af ah ad aa ac ab;simp only[Ac,Aa]at aa;refine Z3 ?_
     repeat' (first|refine Z1 ?_|(refine Z8 ?_;intro ya J)|(refine Z4 ?_;clear J ya)|(refine Z2 ?_ ?_<;>intro h ae<;>try exact Xp)|(refine Z6 ?_;intro idn An af ah ad aa ac ab)|refine Z3 ?_|exact Zt|(apply J.out;clear J ya))
     exact⟨ts.length-(i+1),Ad2,i+1,idn,xs++[_,ic w2],rfl,Ad2,by simp,ah.put Ad2 _,Ad2,rfl,Own.put af _ _,by simp;omega,by rw[Ad8,HG.out,hX.out,hP.out];rfl⟩
    |true=>
     have ap:(w2==v)=false:=by simpa using ap
     repeat' (first|refine Z1 ?_|(refine Z8 ?_;intro ya J)|(refine Z4 ?_;clear J ya)|(refine Z2 ?_ ?_<;>intro h ae<;>try exact Xp)|(refine Z6 ?_;intro idn An af ah ad aa ac ab)|refine Z3 ?_|exact Zt|(apply J.out;clear J ya))
     refine C4 (by first|exact Kh) ((hK.new _).put hK.nobj _) (Own.put (Own.new hO _) _ _) (by decide) (by rfl) (an) (by rfl) (by rfl) (by decide) Ad2 Ad2 ?_;intro idn An af ah ad aa ac ab;simp only[Ac,Aa]at aa;refine Z3 ?_
     repeat' (first|refine Z1 ?_|(refine Z8 ?_;intro ya J)|(refine Z4 ?_;clear J ya)|(refine Z2 ?_ ?_<;>intro h ae<;>try exact Xp)|(refine Z6 ?_;intro idn An af ah ad aa ac ab)|refine Z3 ?_|exact Zt|(apply J.out;clear J ya))
     exact⟨ts.length-(i+1),Ad2,i+1,idn,xs++[_,ic w2],rfl,Ad2,by simp,ah.put Ad2 _,Ad2,rfl,Own.put af _ _,by simp;omega,by rw[Ad8,HG.out,hX.out,hP.out];rfl⟩
  ·have ax:i=ts.length:=Ad2;subst ax;have hX:=hX.out;rw[Aa3]at hX;have av:(Bg v n ts).length=ts.length:=by simp[Bg]
   repeat' (first|refine Z1 ?_|(refine Z8 ?_;intro ya J)|(refine Z4 ?_;clear J ya)|(refine Z2 ?_ ?_<;>intro h ae<;>try exact Xp)|(refine Z6 ?_;intro idn An af ah ad aa ac ab)|refine Z3 ?_|exact Zt|(apply J.out;clear J ya))
   exact⟨_,rfl,⟨i3,by first|rfl|rw[av,hX]⟩,hK.put Ad2 _⟩
structure Part where
 a:Ee
 tups:List Bj
structure Qry where
 head:Ee
 parts:List Part
 nots:List Ee
def C7 (l:List Bj):List AV:=l.flatMap Aj
def T3 (l:List Bj):Prop:=∀t∈l,t.length=3
theorem Er {l:List Bj}(h:T3 l):(C7 l).length=l.length*3:=by
 induction l with
 |nil=>rfl
 |cons a l ih=>
  have h1:=h a (by simp);have h2:=ih (fun t ht=>h t (by simp[ht]));unfold C7 at*
  rw[Aca,Abj,h2,Bm,h1];simp;omega
theorem Ki (l:List Bj)(t:Bj):C7 (l++[t])=C7 l++Aj t:=by simp[C7]
theorem kZ {l:List Bj}{k:Nat}{t:Bj}(h3:T3 l)(h:l[k]?=some t):∃a b c r,t=[a,b,c]/\(C7 l).drop (k*3)=ic a::ic b::ic c::r:=by
 have hE:∀l:List Bj,EL (fun t c=>c=Aj t/\t∈l) l (C7 l):=by
  intro l;induction l with
  |nil=>rfl
  |cons a l ih=>exact⟨Aj a,C7 l,⟨rfl,by simp⟩,EL.mono (fun t c h=>⟨h.1,by simp[h.2]⟩) ih,by simp[C7]⟩
 obtain⟨c,r,⟨rfl,-⟩,e⟩:=EL.get (z:=3) (fun a c h=>by rw[h.1,Bm];exact h3 a h.2) (hE l) h;have ht:=h3 t (Aax h)
 match t,ht with
 |[a,b,c],_=>exact⟨a,b,c,r,rfl,by rw[e];rfl⟩
def Ot (a:Ee)(c:List AV):Prop:=∃id,c=[ic a.p,sl id a.ts.length (Ae a.ts)]
def La (p:Part)(c:List AV):Prop:=∃id idt,c=[ic p.a.p,sl id p.a.ts.length (Ae p.a.ts),sl idt p.tups.length (C7 p.tups)]
theorem Hg (a:Ee)(c:List AV)(h:Ot a c):c.length=2:=by obtain⟨id,rfl⟩:=h;rfl
theorem D6 (a:Part)(c:List AV)(h:La a c):c.length=3:=by obtain⟨id,idt,rfl⟩:=h;rfl
theorem Il {l:List Ee}{cs:List AV}{i:Nat}{a:Ee}(h:EL Ot l cs)(hi:l[i]?=some a):∃id r,cs.drop (i*2)=ic a.p::sl id a.ts.length (Ae a.ts)::r:=by
 obtain⟨c,r,⟨id,rfl⟩,e⟩:=EL.get Hg h hi;exact⟨id,r,e⟩
theorem Eu {l:List Part}{cs:List AV}{i:Nat}{p:Part}(h:EL La l cs)(hi:l[i]?=some p):∃id idt r,cs.drop (i*3)=ic p.a.p::sl id p.a.ts.length (Ae p.a.ts)::sl idt p.tups.length (C7 p.tups)::r:=by
 obtain⟨c,r,⟨id,idt,rfl⟩,e⟩:=EL.get D6 h hi;exact⟨id,idt,r,e⟩
def EQ (q:Qry)(c:List AV):Prop:=∃ih ip inn pc nc,c=[ic q.head.p,sl ih q.head.ts.length (Ae q.head.ts),sl ip q.parts.length pc,sl inn q.nots.length nc]/\EL La q.parts pc/\EL Ot q.nots nc
structure M9 (q:Qry):Prop where
 hd:q.head.ts.length<=3
 pl:q.parts.length<=64
 nl:q.nots.length<=64
 pa:∀p∈q.parts,p.a.ts.length<=3
 pt:∀p∈q.parts,p.tups.length<=5000
 p3:∀p∈q.parts,T3 p.tups
 na:∀a∈q.nots,a.ts.length<=3
def Cm (l:List Part):Nat:=(l.map fun p=>p.tups.length).sum
theorem gD (l:List Part)(p:Part):Cm (l++[p])=Cm l+p.tups.length:=by simp[Cm,List.sum_append]
theorem Tl (q:Qry)(c:List AV)(hc:EQ q c)(hq:M9 q)(A:St):ACalls Tryz.prog 247 [ag c] A fun r A'=>r=ic (Cm q.parts:Nat)/\Keep A A':=by
 obtain⟨ih,ip,inn,pc,nc,rfl,hP,hN⟩:=hc;have af:=EL.length D6 hP;have hl:=hq.pl;refine Z9 20 [.tmp 2] Tryz.func247 ?_
 repeat' (first|refine Z1 ?_|(refine Z8 ?_;intro ya J)|(refine Z4 ?_;clear J ya)|(refine Z2 ?_ ?_<;>intro h ab<;>try exact Xp)|refine Z3 ?_|exact Zt|(apply J.out;clear J ya))
 refine Ab (fun m s A'=>∃i a:Nat,m=q.parts.length-i/\i<=q.parts.length/\s 3=ic a/\s 7=sl ip q.parts.length pc/\s 8=ic q.parts.length/\s 9=ic i/\Keep A A'/\a<=i*5000/\Ad8 (a=Cm (q.parts.take i))) q.parts.length
  ⟨0,0,Ad2,Ad2,rfl,rfl,rfl,rfl,Xs,by simp,by simp[Ad8,Cm]⟩ ?_
 rintro m s A' ⟨i,a,rfl,hi,h3,h7,h8,h9,hK,b1,hA⟩;have ae:=hK.nobj;by_cases ac:i<q.parts.length
 ·have aa:=Aav ac;obtain⟨id,idt,r,hd⟩:=Eu hP aa;have hb:=hq.pt _ (Ab1 ac);generalize q.parts[i]=w at hd aa hb;have HG:Ad8 (Cm (q.parts.take (i+1))=Cm (q.parts.take i)+w.tups.length):=by
   rw[Ad8,Aa8,aa,Ab9,gD]
  clear aa
  repeat' (first|refine Z1 ?_|(refine Z8 ?_;intro ya J)|(refine Z4 ?_;clear J ya)|(refine Z2 ?_ ?_<;>intro h ab<;>try exact Xp)|refine Z3 ?_|exact Zt|(apply J.out;clear J ya))
  exact⟨q.parts.length-(i+1),Ad2,i+1,a+w.tups.length,rfl,Ad2,by simp,by simp,Xs,Ad2,by rw[Ad8,HG.out,hA.out]⟩
 ·have ad:i=q.parts.length:=Ad2;subst ad;have hA:=hA.out;rw[Aa3]at hA;subst hA
  repeat' (first|refine Z1 ?_|(refine Z8 ?_;intro ya J)|(refine Z4 ?_;clear J ya)|(refine Z2 ?_ ?_<;>intro h ab<;>try exact Xp)|refine Z3 ?_|exact Zt|(apply J.out;clear J ya))
  first|exact⟨_,rfl,rfl,hK⟩|exact⟨_,rfl,rfl⟩|exact⟨_,rfl,hK⟩|exact hK
def Cz (l:List Ee)(v:Int):Nat:=l.countP fun a=>Bb a.ts v
theorem Ka (q:Qry)(c:List AV)(v:Int)(hc:EQ q c)(hq:M9 q)(A:St):ACalls Tryz.prog 249 [ag c,ic v] A fun r A'=>r=ic (Cz (q.parts.map (·.a)) v:Nat)/\Keep A A':=by
 obtain⟨ih,ip,inn,pc,nc,rfl,hP,hN⟩:=hc;have aj:=EL.length D6 hP;have hl:=hq.pl;refine Z9 23 [.tmp 4] Tryz.func249 ?_
 repeat' (first|refine Z1 ?_|(refine Z8 ?_;intro ya J)|(refine Z4 ?_;clear J ya)|(refine Z2 ?_ ?_<;>intro h ac<;>try exact Xp)|refine Z3 ?_|exact Zt|(apply J.out;clear J ya))
 refine Ab (fun m s A'=>∃i a:Nat,m=q.parts.length-i/\i<=q.parts.length/\s 1=ic v/\s 5=ic a/\s 9=sl ip q.parts.length pc/\s 10=ic q.parts.length/\s 11=ic i/\Keep A A'/\a<=i/\Ad8 (a=Cz ((q.parts.take i).map (·.a)) v)) q.parts.length
  ⟨0,0,Ad2,Ad2,rfl,rfl,rfl,rfl,rfl,Xs,by simp,by simp[Ad8,Cz]⟩ ?_
 rintro m s A' ⟨i,a,rfl,hi,h1,h5,h9,an,am,hK,b1,hA⟩;have ai:=hK.nobj;by_cases ad:i<q.parts.length
 ·have aa:=Aav ad;obtain⟨id,idt,r,hd⟩:=Eu hP aa;have hb:=hq.pa _ (Ab1 ad);generalize q.parts[i]=w at hd aa hb;have HG:Ad8 (Cz ((q.parts.take (i+1)).map (·.a)) v=Cz ((q.parts.take i).map (·.a)) v+if Bb w.a.ts v then 1 else 0):=by
   rw[Ad8,Aa8,aa,Ab9,Aba,Cz,Adb];simp[Cz,Adc]
  clear aa;have ab:w.a.ts.length<=1000:=Ad2
  repeat' (first|refine Z1 ?_|(refine Z8 ?_;intro ya J)|(refine Z4 ?_;clear J ya)|(refine Z2 ?_ ?_<;>intro h ac<;>try exact Xp)|(refine Z5 ?_;refine Xi (Jh _ _ _ _ ab _) ?_;rintro _ _ ⟨rfl,ae⟩;(have af:=ae.nobj;have ak:=((hK.new _).put hK.nobj _).trans ae))|refine Z3 ?_|exact Zt|(apply J.out;clear J ya))
  ·exact⟨q.parts.length-(i+1),Ad2,i+1,a+1,rfl,Ad2,by simp,by simp,Ad2,by rw[Ad8,HG.out,hA.out,if_pos (by assumption)]⟩
  ·exact⟨q.parts.length-(i+1),Ad2,i+1,a,rfl,Ad2,by simp,by simp,Ad2,by rw[Ad8,HG.out,hA.out,if_neg (by simp_all),Aay]⟩
 ·have ah:i=q.parts.length:=Ad2;subst ah;have hA:=hA.out;rw[Aa3]at hA;subst hA
  repeat' (first|refine Z1 ?_|(refine Z8 ?_;intro ya J)|(refine Z4 ?_;clear J ya)|(refine Z2 ?_ ?_<;>intro h ac<;>try exact Xp)|refine Z3 ?_|exact Zt|(apply J.out;clear J ya))
  first|exact⟨_,rfl,rfl,hK⟩|exact⟨_,rfl,rfl⟩|exact⟨_,rfl,hK⟩|exact hK
def atomsQ (q:Qry):List Ee:=q.head::(q.parts.map (·.a)++q.nots)
theorem Ii (q:Qry)(c:List AV)(hc:EQ q c)(hq:M9 q)(A:St):ACalls Tryz.prog 248 [ag c] A fun r A'=>∃id cs,r=sl id (atomsQ q).length cs/\EL Ot (atomsQ q) cs/\Keep A A':=by
 obtain⟨ih,ip,inn,pc,nc,rfl,hP,hN⟩:=hc;have ay:=EL.length D6 hP;have az:=EL.length Hg hN;have hl:=hq.pl;have a0:=hq.nl;refine Z9 37 [.tmp 2] Tryz.func248 ?_
 repeat' (first|refine Z1 ?_|(refine Z8 ?_;intro ya J)|(refine Z4 ?_;clear J ya)|(refine Z2 ?_ ?_<;>intro h af<;>try exact Xp)|(refine Z6 ?_;intro idn An ah ai ad aa ae ab)|refine Z3 ?_|exact Zt|(apply J.out;clear J ya))
 have ao:Keep A (A.new [ic q.head.p,sl ih q.head.ts.length (Ae q.head.ts),sl ip q.parts.length pc,sl inn q.nots.length nc]):=(Keep.refl _).new _
 refine Ab (fun m s A'=>∃(k i3:Nat) (xs:List AV),m=q.parts.length-k/\k<=q.parts.length/\s 1=ptr A.nobj 0/\s 3=sl i3 (1+k) xs/\s 12=sl ip q.parts.length pc/\s 13=ic q.parts.length/\s 14=ic k/\Keep A A'/\A.nobj<A'.nobj/\A'.obj A.nobj=[ic q.head.p,sl ih q.head.ts.length (Ae q.head.ts),sl ip q.parts.length pc,sl inn q.nots.length nc]/\Own A A' i3 (1+k)/\xs.length=(1+k)*2/\Ad8 (EL Ot (q.head::(q.parts.take k).map (·.a)) xs)) q.parts.length
  ⟨0,_,_,Ad2,Ad2,Ad4,rfl,rfl,rfl,rfl,ao.lay 1,by simp only[Av,Aa];omega,by rw[Gj,Am],Own.made ao (by decide),by simp,EL.single ⟨ih,rfl⟩⟩ ?_
 rintro m s A' ⟨k,i3,xs,rfl,hk,h1,h3,ax,aw,av,hK,au,ob,hO,aj,hE⟩;clear ao;have ap:=hK.nobj;by_cases ak:k<q.parts.length
 ·have ac:=Aav ak;obtain⟨id,idt,r,hd⟩:=Eu hP ac;generalize q.parts[k]=w at hd ac;have HG:Ad8 (q.parts[k]?=some w):=ac;clear ac
  repeat' (first|refine Z1 ?_|(refine Z8 ?_;intro ya J)|(refine Z4 ?_;clear J ya)|(refine Z2 ?_ ?_<;>intro h af<;>try exact Xp)|(refine Z6 ?_;intro idn An ah ai ad aa ae ab)|refine Z3 ?_|exact Zt|(apply J.out;clear J ya))
  refine C4 (by first|exact Ef) ((hK.new _).put hK.nobj _) (Own.put (Own.new hO _) _ _) (by decide) (by rfl) (aj) (by rfl) (by rfl) (by decide) Ad2 Ad2 ?_;intro idn An ah ai ad aa ae ab;simp only[Ac,Aa]at aa;have eob:An.obj A.nobj=A'.obj A.nobj:=by rw[ad,Al Ad2,Ai Ad2]
  refine Z3 ?_
  repeat' (first|refine Z1 ?_|(refine Z8 ?_;intro ya J)|(refine Z4 ?_;clear J ya)|(refine Z2 ?_ ?_<;>intro h af<;>try exact Xp)|(refine Z6 ?_;intro idn An ah ai ad aa ae ab)|refine Z3 ?_|exact Zt|(apply J.out;clear J ya))
  refine⟨q.parts.length-(k+1),Ad2,k+1,idn,xs++[ic w.a.p,sl id w.a.ts.length (Ae w.a.ts)],rfl,Ad2,by simp[Aa5],by simp,Ad2,by simpa[Aa5]using ah,by simp;omega,?_⟩;rw[Ad8,Aa8,HG.out];have:=EL.append hE.out (EL.single (E:=Ot) (a:=w.a) ⟨id,rfl⟩);simpa using this
 ·have an:k=q.parts.length:=Ad2;subst an;rw[Aa3]at hE;generalize hM:q.parts.length=M at*
  have HM:Ad8 _:=hM;clear hM ak hk
  repeat' (first|refine Z1 ?_|(refine Z8 ?_;intro ya J)|(refine Z4 ?_;clear J ya)|(refine Z2 ?_ ?_<;>intro h af<;>try exact Xp)|(refine Z6 ?_;intro idn An ah ai ad aa ae ab)|refine Z3 ?_|exact Zt|(apply J.out;clear J ya))
  refine Ab (fun m s A'=>∃(k i3:Nat) (xs:List AV),m=q.nots.length-k/\k<=q.nots.length/\s 3=sl i3 (1+M+k) xs/\s 25=sl inn q.nots.length nc/\s 26=ic q.nots.length/\s 27=ic k/\Keep A A'/\Own A A' i3 (1+M+k)/\xs.length=(1+M+k)*2/\Ad8 (EL Ot (q.head::(q.parts.map (·.a)++q.nots.take k)) xs)) q.nots.length
   ⟨0,i3,xs,Ad2,Ad2,Ad3,Ad3,Ad3,Ad4,hK,by simpa using hO,by simpa using aj,by simpa using hE⟩ ?_
  clear hE aj hO h3 h1 ax aw av hK au ob ap;rintro m s A' ⟨k,i3,xs,rfl,hk,h3,a5,a4,a3,hK,hO,aj,hE⟩;have ap:=hK.nobj;by_cases ak:k<q.nots.length
  ·have ac:=Aav ak;obtain⟨id,r,hd⟩:=Il hN ac;generalize q.nots[k]=w at hd ac;have HG:Ad8 (q.nots[k]?=some w):=ac;clear ac
   repeat' (first|refine Z1 ?_|(refine Z8 ?_;intro ya J)|(refine Z4 ?_;clear J ya)|(refine Z2 ?_ ?_<;>intro h af<;>try exact Xp)|(refine Z6 ?_;intro idn An ah ai ad aa ae ab)|refine Z3 ?_|exact Zt|(apply J.out;clear J ya))
   refine C4 (by first|exact Ef) ((hK.new _).put hK.nobj _) (Own.put (Own.new hO _) _ _) (by decide) (by rfl) (aj) (by rfl) (by rfl) (by decide) Ad2 Ad2 ?_;intro idn An ah ai ad aa ae ab;refine Z3 ?_
   repeat' (first|refine Z1 ?_|(refine Z8 ?_;intro ya J)|(refine Z4 ?_;clear J ya)|(refine Z2 ?_ ?_<;>intro h af<;>try exact Xp)|(refine Z6 ?_;intro idn An ah ai ad aa ae ab)|refine Z3 ?_|exact Zt|(apply J.out;clear J ya))
   refine⟨q.nots.length-(k+1),Ad2,k+1,idn,xs++[ic w.p,sl id w.ts.length (Ae w.ts)],rfl,Ad2,by simp[Aa5],by simp,by simpa[Aa5]using ah,by simp;omega,?_⟩;rw[Ad8,Aa8,HG.out];have:=EL.append hE.out (EL.single (E:=Ot) (a:=w) ⟨id,rfl⟩);simpa using this
  ·have an:k=q.nots.length:=Ad2;subst an;rw[Aa3]at hE;have am:(atomsQ q).length=1+M+q.nots.length:=by have:=HM.out;simp[atomsQ];omega
   repeat' (first|refine Z1 ?_|(refine Z8 ?_;intro ya J)|(refine Z4 ?_;clear J ya)|(refine Z2 ?_ ?_<;>intro h af<;>try exact Xp)|(refine Z6 ?_;intro idn An ah ai ad aa ae ab)|refine Z3 ?_|exact Zt|(apply J.out;clear J ya))
   exact⟨_,rfl,i3,xs,by first|rfl|rw[am],by simpa[atomsQ]using hE.out⟩
end Go.Proofs.YtmoeoppbmhfbpaaGreatDoorH
