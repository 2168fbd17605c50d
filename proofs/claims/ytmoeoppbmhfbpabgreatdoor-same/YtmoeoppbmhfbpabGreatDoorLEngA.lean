import Derived.Test.YtmoeoppbmhfbpabGreatDoorLFacts
import Derived.Test.YtmoeoppbmhfbpabGreatDoorLAbsWp
set_option maxHeartbeats 16000000
set_option maxRecDepth 100000
set_option linter.all false
namespace Go.Proofs.YtmoeoppbmhfbpabGreatDoorL
open Go.Abs
abbrev Tm:=Bool×Int
structure Df where
 p:Int
 ts:List Tm
abbrev Bc:=List Int
abbrev ic (n:Int):AV:=sc (.int .i64 n)
def I3 (t:Tm):List AV:=[sc (.bool t.1),ic t.2]
def Ac (ts:List Tm):List AV:=ts.flatMap I3
theorem Ci (ts:List Tm):(Ac ts).length=ts.length*2:=by
 induction ts with
 |nil=>rfl
 |cons a l ih=>unfold Ac at*;rw[Ah3,Aha,ih];simp[I3];omega
theorem Rz (ts:List Tm)(x:Tm):Ac (ts++[x])=Ac ts++I3 x:=by simp[Ac]
theorem Cm {ts:List Tm}{k:Nat}{w:Tm}(h:ts[k]?=some w):∃r,(Ac ts).drop (k*2)=sc (.bool w.1)::ic w.2::r:=by
 have hE:∀ts:List Tm,EL (fun w c=>c=I3 w) ts (Ac ts):=by
  intro ts;induction ts with
  |nil=>rfl
  |cons a l ih=>exact⟨I3 a,Ac l,rfl,ih,by simp[Ac]⟩
 obtain⟨c,r,rfl,e⟩:=EL.get (z:=2) (fun a c h=>by rw[h];rfl) (hE ts) h;exact⟨r,e⟩
def Iz (ts:List Tm)(v:Int):Int:=if (true,v)∈ts then (ts.idxOf (true,v):Nat)else -1
theorem Vt {α:Type}[BEq α][LawfulBEq α]{l:List α}{i:Nat}{x:α}(h:l[i]?=some x)(hn:x∉l.take i):l.idxOf x=i:=by
 have hi:=(List.getElem?_eq_some_iff.1 h).1;have:l=l.take i++l.drop i:=(Aiv i l).symm;rw[this,List.idxOf_append,if_neg hn,Ahb,Ahf Ajm,Ahl hi];have:=(List.getElem?_eq_some_iff.1 h).2;simp[this]
theorem Abq {ts:List Tm}{v:Int}{i:Nat}(h:ts[i]?=some (true,v))(hn:(true,v)∉ts.take i):Iz ts v=i:=by
 unfold Iz;rw[if_pos (Agp h),Vt h hn]
theorem J1 {ts:List Tm}{v:Int}(hn:(true,v)∉ts):Iz ts v= -1:=if_neg hn
theorem Va {α:Type}{l:List α}{i:Nat}{x y:α}(h:x∉l.take i)(hi:l[i]?=some y)(hy:y≠x):x∉l.take (i+1):=by
 rw[Agz,hi];simp only[Aia,Ahs,Aib,not_or];exact⟨h,fun e=>hy e.symm⟩
theorem Ga (p:Int)(ids:Nat)(ts:List Tm)(v:Int)(hn:ts.length<=1000)(N:St):ACalls Tryz.prog 217 [ag [ic p,sl ids ts.length (Ac ts)],ic v] N fun r N'=>r=ic (Iz ts v)/\Keep N N':=by
 have af:=Ci ts;refine Z9 25 [.tmp 4] Tryz.func217 ?_
 repeat' (first|refine Z1 ?_|(refine Z8 ?_;intro κ hκ)|(refine Z4 ?_;clear hκ κ)|(refine Z2 ?_ ?_<;>intro h ac<;>try exact Xp)|refine Z3 ?_|exact⟨⟩|(apply hκ.out;clear hκ κ))
 refine Af (fun m s N'=>∃i:Nat,m=ts.length-i/\i<=ts.length/\s 1=ic v/\s 8=sl ids ts.length (Ac ts)/\s 9=ic ts.length/\s 10=ic i/\Keep N N'/\Ajs ((true,v)∉ts.take i)) ts.length
  ⟨0,Ajm,Ajm,rfl,rfl,rfl,rfl,Xs,by simp[Ajs]⟩ ?_
 rintro m s N' ⟨i,rfl,hi,h1,h8,h9,ah,hK,ab⟩;by_cases ad:i<ts.length
 ·have aa:=List.getElem?_eq_getElem ad;obtain⟨r,hd⟩:=Cm aa;generalize ts[i]=w at hd aa;obtain⟨w1,w2⟩:=w;have HG:Ajs (ts[i]?=some (w1,w2)):=aa;clear aa;have ae:=hK.nobj
  repeat' (first|refine Z1 ?_|(refine Z8 ?_;intro κ hκ)|(refine Z4 ?_;clear hκ κ)|(refine Z2 ?_ ?_<;>intro h ac<;>try exact Xp)|refine Z3 ?_|exact⟨⟩|(apply hκ.out;clear hκ κ))
  ·have e:w1=true/\w2=v:=by simp_all
   obtain⟨rfl,rfl⟩:=e;exact⟨_,rfl,by rw[Abq HG.out ab.out],Xs⟩
  all_goals exact⟨ts.length-(i+1),Ajm,i+1,rfl,Ajm,by simp,Xs,Va ab.out HG.out (by simp_all)⟩
 ·have hil:i=ts.length:=Ajm;subst hil;rw[Agw]at ab
  repeat' (first|refine Z1 ?_|(refine Z8 ?_;intro κ hκ)|(refine Z4 ?_;clear hκ κ)|(refine Z2 ?_ ?_<;>intro h ac<;>try exact Xp)|refine Z3 ?_|exact⟨⟩|(apply hκ.out;clear hκ κ))
  first|exact⟨_,rfl,by rw[J1 ab.out],hK⟩|exact⟨_,rfl,by rw[J1 ab.out]⟩
def A8 (ts:List Tm)(v:Int):Bool:=decide ((true,v)∈ts)
theorem Abr (ts:List Tm)(v:Int):(Iz ts v != -1)=A8 ts v:=by
 unfold Iz A8;split<;>rename_i h<;>simp[h]
theorem Kc (p:Int)(ids:Nat)(ts:List Tm)(v:Int)(hn:ts.length<=1000)(N:St):ACalls Tryz.prog 232 [ag [ic p,sl ids ts.length (Ac ts)],ic v] N fun r N'=>r=sc (.bool (A8 ts v))/\Keep N N':=by
 have hp:=Abr ts v;refine Z9 9 [.tmp 4] Tryz.func232 ?_
 repeat' (first|refine Z1 ?_|(refine Z8 ?_;intro κ hκ)|(refine Z4 ?_;clear hκ κ)|(refine Z2 ?_ ?_<;>intro h aa<;>try exact Xp)|(refine Z5 ?_;refine Xi (Ga _ _ _ _ hn _) ?_;rintro _ _ ⟨rfl,hK⟩)|refine Z3 ?_|exact⟨⟩|(apply hκ.out;clear hκ κ))
 exact⟨_,rfl,rfl,Xs⟩
def Hw (ts:List Tm):Bool:=ts.all fun t=>!t.1
theorem Js (p:Int)(ids:Nat)(ts:List Tm)(hn:ts.length<=1000)(N:St):ACalls Tryz.prog 131 [ag [ic p,sl ids ts.length (Ac ts)]] N fun r N'=>r=sc (.bool (Hw ts))/\Keep N N':=by
 have ah:=Ci ts;refine Z9 15 [.tmp 2] Tryz.func131 ?_
 repeat' (first|refine Z1 ?_|(refine Z8 ?_;intro κ hκ)|(refine Z4 ?_;clear hκ κ)|(refine Z2 ?_ ?_<;>intro h ad<;>try exact Xp)|refine Z3 ?_|exact⟨⟩|(apply hκ.out;clear hκ κ))
 refine Af (fun m s N'=>∃i:Nat,m=ts.length-i/\i<=ts.length/\s 6=sl ids ts.length (Ac ts)/\s 7=ic ts.length/\s 8=ic i/\Keep N N'/\Ajs (Hw (ts.take i)=true)) ts.length
  ⟨0,Ajm,Ajm,rfl,rfl,rfl,Xs,by simp[Ajs,Hw]⟩ ?_
 rintro m s N' ⟨i,rfl,hi,h6,h7,h8,hK,ab⟩;by_cases ae:i<ts.length
 ·have aa:=List.getElem?_eq_getElem ae;obtain⟨r,hd⟩:=Cm aa;have ac:=Ah6 ae;generalize ts[i]=w at hd aa ac;obtain⟨w1,w2⟩:=w;have HG:Ajs (ts[i]?=some (w1,w2)/\(w1,w2)∈ts):=⟨aa,ac⟩;clear aa ac;have af:=hK.nobj
  repeat' (first|refine Z1 ?_|(refine Z8 ?_;intro κ hκ)|(refine Z4 ?_;clear hκ κ)|(refine Z2 ?_ ?_<;>intro h ad<;>try exact Xp)|refine Z3 ?_|exact⟨⟩|(apply hκ.out;clear hκ κ))
  ·exact⟨_,rfl,by
    have:Hw ts=false:=by
     unfold Hw;rw[Aix];exact⟨_,HG.out.2,by simp_all⟩
    rw[this],Xs⟩
  ·exact⟨ts.length-(i+1),Ajm,i+1,rfl,Ajm,by simp,Xs,by
    have ab:=ab.out;unfold Hw at ab;rw[Ajs,Hw,Agz,HG.out.1,List.all_append,ab]
    simp_all⟩
 ·have hil:i=ts.length:=Ajm;subst hil;rw[Agw]at ab;have ab:=ab.out
  repeat' (first|refine Z1 ?_|(refine Z8 ?_;intro κ hκ)|(refine Z4 ?_;clear hκ κ)|(refine Z2 ?_ ?_<;>intro h ad<;>try exact Xp)|refine Z3 ?_|exact⟨⟩|(apply hκ.out;clear hκ κ))
  first|exact⟨_,rfl,rfl,hK⟩|exact⟨_,rfl,rfl⟩
def C5 (l:List Int):Bc:=[(l[0]?).getD (-1),(l[1]?).getD (-1),(l[2]?).getD (-1)]
def Am (t:List Int):List AV:=t.map ic
theorem Ru (p:Int)(ids:Nat)(ts:List Tm)(hn:ts.length<=1000)(N:St):ACalls Tryz.prog 135 [ag [ic p,sl ids ts.length (Ac ts)]] N fun r N'=>r=ag (Am (C5 (ts.map (·.2))))/\Keep N N':=by
 have ak:=Ci ts;have af:∃L:Nat->Int,(∀i,L i=((ts[i]?).map (·.2)).getD (-1))/\Am (C5 (ts.map (·.2)))=[ic (L 0),ic (L 1),ic (L 2)]:=⟨fun i=>((ts[i]?).map (·.2)).getD (-1),fun _=>rfl,by simp[Am,C5]⟩;obtain⟨L,hL,hT⟩:=af;refine Z9 26 [.cell 2 141] Tryz.func135 ?_
 repeat' (first|refine Z1 ?_|(refine Z8 ?_;intro κ hκ)|(refine Z4 ?_;clear hκ κ)|(refine Z2 ?_ ?_<;>intro h ac<;>try exact Xp)|refine Z3 ?_|exact⟨⟩|(apply hκ.out;clear hκ κ))
 refine Af (fun m s N'=>∃(i:Nat),m=3-i/\i<=3/\s 1=ptr N.nobj 0/\s 2=ptr (N.nobj+1) 0/\s 3=ptr (N.nobj+2) 0/\s 6=ic i/\Keep N N'/\N.nobj+2<N'.nobj/\N'.obj N.nobj=[ic p,sl ids ts.length (Ac ts)]/\N'.obj (N.nobj+1)=[ic 0,ic 0,ic 0]/\N'.obj (N.nobj+2)=[ic (if 0<i then L 0 else 0),ic (if 1<i then L 1 else 0),ic (if 2<i then L 2 else 0)]) 3
  ⟨0,Ajm,Ajm,Ajo,Ajo,Ajo,rfl,Xs,by simp only[Aa,Ab];omega,?_,?_,?_⟩ ?_
 ·rw[Ai Ajm,Ag Ajq,Ag Ajq,Ap]
 ·rw[Ai Ajm,Ag Ajq,Bt Ajq Ajq]
 ·rw[show N.nobj+2=N.nobj+1+1 from rfl,Ak];rfl
 rintro m s N' ⟨i,rfl,hi,h1,h2,h3,h6,hK,am,ai,ah,ad⟩;have aj:=hK.nobj;by_cases an:i<3
 ·by_cases hl:i<ts.length
  ·have aa:=List.getElem?_eq_getElem hl;obtain⟨r,hd⟩:=Cm aa;have ab:=hL i;rw[aa]at ab;generalize ts[i]=w at hd aa ab;obtain⟨w1,w2⟩:=w;clear aa hL;simp only[Ais,Aiy]at ab;rcases (show i=0\/i=1\/i=2 by omega)with rfl|rfl|rfl
   all_goals
    simp only[↓reduceIte,Nat.lt_irrefl,Nat.reduceLT,Nat.reduceMul,Ag7,List.drop_zero]at ad hd ab
    repeat' (first|refine Z1 ?_|(refine Z8 ?_;intro κ hκ)|(refine Z4 ?_;clear hκ κ)|(refine Z2 ?_ ?_<;>intro h ac<;>try exact Xp)|refine Z3 ?_|exact⟨⟩|(apply hκ.out;clear hκ κ))
    first|exact⟨2,Ajm,1,rfl,Ajm,rfl,Xs,by simp[*]⟩|exact⟨1,Ajm,2,rfl,Ajm,rfl,Xs,by simp[*]⟩|exact⟨0,Ajm,3,rfl,Ajm,rfl,Xs,by simp[*]⟩
  ·have ab:=hL i;rw[List.getElem?_eq_none Ajm]at ab;simp only[Option.map_none,Option.getD_none]at ab;clear hL;rcases (show i=0\/i=1\/i=2 by omega)with rfl|rfl|rfl
   all_goals
    simp only[↓reduceIte,Nat.lt_irrefl,Nat.reduceLT,Nat.reduceMul,Ag7,List.drop_zero]at ad ab
    repeat' (first|refine Z1 ?_|(refine Z8 ?_;intro κ hκ)|(refine Z4 ?_;clear hκ κ)|(refine Z2 ?_ ?_<;>intro h ac<;>try exact Xp)|refine Z3 ?_|exact⟨⟩|(apply hκ.out;clear hκ κ))
    first|exact⟨2,Ajm,1,rfl,Ajm,rfl,Xs,by simp[*]⟩|exact⟨1,Ajm,2,rfl,Ajm,rfl,Xs,by simp[*]⟩|exact⟨0,Ajm,3,rfl,Ajm,rfl,Xs,by simp[*]⟩
 ·have ae:i=3:=Ajm;subst ae;simp only[↓reduceIte,Nat.reduceLT]at ad
  repeat' (first|refine Z1 ?_|(refine Z8 ?_;intro κ hκ)|(refine Z4 ?_;clear hκ κ)|(refine Z2 ?_ ?_<;>intro h ac<;>try exact Xp)|refine Z3 ?_|exact⟨⟩|(apply hκ.out;clear hκ κ))
  first|exact⟨_,rfl,by rw[hT],Xs⟩|exact⟨_,rfl,rfl,Xs⟩
theorem Bn (l:List Int):(Am l).length=l.length:=by simp[Am]
theorem Dm {l:List Int}{k:Nat}{n:Int}(h:l[k]?=some n):∃r,(Am l).drop k=ic n::r:=by
 have hk:=(List.getElem?_eq_some_iff.1 h);obtain⟨h1,h2⟩:=hk;refine⟨(Am l).drop (k+1),?_⟩;rw[Ahl (by rw[Bn];exact h1)];simp[Am,h2]
theorem Co (l:List Int):(Am l).all flat=true:=by
 rw[Ago];intro x hx;obtain⟨n,-,rfl⟩:=Ahv.1 hx;rfl
theorem iP (l:List Int)(n:Int):Am (l++[n])=Am l++[ic n]:=by simp[Am]
theorem Ft (v:Int)(l:List Int)(id:Nat)(hn:l.length<=100000)(N:St):ACalls Tryz.prog 85 [ic v,sl id l.length (Am l)] N fun r N'=>r=ic (if v∈l then (l.idxOf v:Nat)else -1)/\Keep N N':=by
 have af:=Bn l;refine Z9 19 [.tmp 4] Tryz.func85 ?_
 repeat' (first|refine Z1 ?_|(refine Z8 ?_;intro κ hκ)|(refine Z4 ?_;clear hκ κ)|(refine Z2 ?_ ?_<;>intro h ac<;>try exact Xp)|refine Z3 ?_|exact⟨⟩|(apply hκ.out;clear hκ κ))
 refine Af (fun m s N'=>∃i:Nat,m=l.length-i/\i<=l.length/\s 0=ic v/\s 7=sl id l.length (Am l)/\s 8=ic l.length/\s 9=ic i/\Keep N N'/\Ajs (v∉l.take i)) l.length
  ⟨0,Ajm,Ajm,rfl,rfl,rfl,rfl,Xs,by simp[Ajs]⟩ ?_
 rintro m s N' ⟨i,rfl,hi,h0,h7,h8,h9,hK,ab⟩;by_cases ad:i<l.length
 ·have aa:=List.getElem?_eq_getElem ad;obtain⟨r,hd⟩:=Dm aa;generalize l[i]=w at hd aa;have HG:Ajs (l[i]?=some w):=aa;clear aa;have ae:=hK.nobj
  repeat' (first|refine Z1 ?_|(refine Z8 ?_;intro κ hκ)|(refine Z4 ?_;clear hκ κ)|(refine Z2 ?_ ?_<;>intro h ac<;>try exact Xp)|refine Z3 ?_|exact⟨⟩|(apply hκ.out;clear hκ κ))
  ·have e:w=v:=by simp_all
   subst e;exact⟨_,rfl,by rw[if_pos (Agp HG.out),Vt HG.out ab.out]⟩
  all_goals exact⟨l.length-(i+1),Ajm,i+1,rfl,Ajm,by simp,Va ab.out HG.out (by simp_all)⟩
 ·have hil:i=l.length:=Ajm;subst hil;rw[Agw]at ab
  repeat' (first|refine Z1 ?_|(refine Z8 ?_;intro κ hκ)|(refine Z4 ?_;clear hκ κ)|(refine Z2 ?_ ?_<;>intro h ac<;>try exact Xp)|refine Z3 ?_|exact⟨⟩|(apply hκ.out;clear hκ κ))
  first|exact⟨_,rfl,by rw[if_neg ab.out],hK⟩|exact⟨_,rfl,by rw[if_neg ab.out]⟩
theorem Rl (v:Int)(l:List Int):((if v∈l then ((l.idxOf v:Nat):Int)else -1)== -1)=decide (v∉l):=by
 split<;>rename_i h<;>simp[h]
theorem K1 (p:Int)(ids:Nat)(ts:List Tm)(l:List Int)(id:Nat)(hn:ts.length<=1000)(hl:l.length<=100000)(N:St):ACalls Tryz.prog 225 [ag [ic p,sl ids ts.length (Ac ts)],sl id l.length (Am l)] N fun r N'=>r=sc (.bool (l.any (A8 ts)))/\Keep N N':=by
 have aj:=Bn l;refine Z9 17 [.tmp 4] Tryz.func225 ?_
 repeat' (first|refine Z1 ?_|(refine Z8 ?_;intro κ hκ)|(refine Z4 ?_;clear hκ κ)|(refine Z2 ?_ ?_<;>intro h ac<;>try exact Xp)|refine Z3 ?_|exact⟨⟩|(apply hκ.out;clear hκ κ))
 refine Af (fun m s N'=>∃i:Nat,m=l.length-i/\i<=l.length/\s 2=ptr N.nobj 0/\s 7=sl id l.length (Am l)/\s 8=ic l.length/\s 9=ic i/\Keep N N'/\N.nobj<N'.nobj/\N'.obj N.nobj=[ic p,sl ids ts.length (Ac ts)]/\Ajs ((l.take i).any (A8 ts)=false)) l.length
  ⟨0,Ajm,Ajm,Ajo,Ajo,Ajo,rfl,Xs,Ajq,by rw[Ap],by simp[Ajs]⟩ ?_
 rintro m s N' ⟨i,rfl,hi,h2,h7,h8,h9,hK,ak,ob,hA⟩;have ai:=hK.nobj;by_cases ae:i<l.length
 ·have aa:=List.getElem?_eq_getElem ae;obtain⟨r,hd⟩:=Dm aa;have ab:=Ah6 ae;generalize l[i]=w at hd aa ab;have HG:Ajs (l[i]?=some w/\w∈l):=⟨aa,ab⟩;clear aa ab
  repeat' (first|refine Z1 ?_|(refine Z8 ?_;intro κ hκ)|(refine Z4 ?_;clear hκ κ)|(refine Z2 ?_ ?_<;>intro h ac<;>try exact Xp)|(refine Z5 ?_;refine Xi (Kc _ _ _ _ hn _) ?_;rintro _ _ ⟨rfl,ad⟩;(have ah:=ad.nobj;have af:=ad.obj))|refine Z3 ?_|exact⟨⟩|(apply hκ.out;clear hκ κ))
  ·first|exact⟨_,rfl,by rw[Ahk.2 ⟨w,HG.out.2,by assumption⟩],hK.trans ad⟩|exact⟨_,rfl,by rw[Ahk.2 ⟨w,HG.out.2,by assumption⟩]⟩
  ·exact⟨l.length-(i+1),Ajm,i+1,rfl,Ajm,by simp,hK.trans ad,Ajm,by
    rw[Ajs,Agz,HG.out.1,Aiz,hA.out]
    simp_all⟩
 ·have hil:i=l.length:=Ajm;subst hil;rw[Agw]at hA;have hA:=hA.out
  repeat' (first|refine Z1 ?_|(refine Z8 ?_;intro κ hκ)|(refine Z4 ?_;clear hκ κ)|(refine Z2 ?_ ?_<;>intro h ac<;>try exact Xp)|refine Z3 ?_|exact⟨⟩|(apply hκ.out;clear hκ κ))
  first|exact⟨_,rfl,rfl,hK⟩|exact⟨_,rfl,rfl⟩|exact⟨_,rfl,hK⟩|exact hK|exact⟨_,rfl,by rw[hA],hK⟩|exact⟨_,rfl,by rw[hA]⟩
theorem cG (p:Int)(ids:Nat)(ts:List Tm)(l:List Int)(id:Nat)(hn:ts.length<=1000)(hl:l.length<=100000)(N:St):ACalls Tryz.prog 251 [ag [ic p,sl ids ts.length (Ac ts)],sl id l.length (Am l)] N fun r N'=>r=sc (.bool (l.all (A8 ts)))/\Keep N N':=by
 have aj:=Bn l;refine Z9 18 [.tmp 4] Tryz.func251 ?_
 repeat' (first|refine Z1 ?_|(refine Z8 ?_;intro κ hκ)|(refine Z4 ?_;clear hκ κ)|(refine Z2 ?_ ?_<;>intro h ac<;>try exact Xp)|refine Z3 ?_|exact⟨⟩|(apply hκ.out;clear hκ κ))
 refine Af (fun m s N'=>∃i:Nat,m=l.length-i/\i<=l.length/\s 2=ptr N.nobj 0/\s 7=sl id l.length (Am l)/\s 8=ic l.length/\s 9=ic i/\Keep N N'/\N.nobj<N'.nobj/\N'.obj N.nobj=[ic p,sl ids ts.length (Ac ts)]/\Ajs ((l.take i).all (A8 ts)=true)) l.length
  ⟨0,Ajm,Ajm,Ajo,Ajo,Ajo,rfl,Xs,Ajq,by rw[Ap],by simp[Ajs]⟩ ?_
 rintro m s N' ⟨i,rfl,hi,h2,h7,h8,h9,hK,ak,ob,hA⟩;have ai:=hK.nobj;by_cases ae:i<l.length
 ·have aa:=List.getElem?_eq_getElem ae;obtain⟨r,hd⟩:=Dm aa;have ab:=Ah6 ae;generalize l[i]=w at hd aa ab;have HG:Ajs (l[i]?=some w/\w∈l):=⟨aa,ab⟩;clear aa ab
  repeat' (first|refine Z1 ?_|(refine Z8 ?_;intro κ hκ)|(refine Z4 ?_;clear hκ κ)|(refine Z2 ?_ ?_<;>intro h ac<;>try exact Xp)|(refine Z5 ?_;refine Xi (Kc _ _ _ _ hn _) ?_;rintro _ _ ⟨rfl,ad⟩;(have ah:=ad.nobj;have af:=ad.obj))|refine Z3 ?_|exact⟨⟩|(apply hκ.out;clear hκ κ))
  ·first|exact⟨_,rfl,by rw[Aix.2 ⟨w,HG.out.2,by simp_all⟩],hK.trans ad⟩|exact⟨_,rfl,by rw[Aix.2 ⟨w,HG.out.2,by simp_all⟩]⟩
  ·exact⟨l.length-(i+1),Ajm,i+1,rfl,Ajm,by simp,hK.trans ad,Ajm,by
    rw[Ajs,Agz,HG.out.1,List.all_append,hA.out]
    simp_all⟩
 ·have hil:i=l.length:=Ajm;subst hil;rw[Agw]at hA;have hA:=hA.out
  repeat' (first|refine Z1 ?_|(refine Z8 ?_;intro κ hκ)|(refine Z4 ?_;clear hκ κ)|(refine Z2 ?_ ?_<;>intro h ac<;>try exact Xp)|refine Z3 ?_|exact⟨⟩|(apply hκ.out;clear hκ κ))
  first|exact⟨_,rfl,rfl,hK⟩|exact⟨_,rfl,rfl⟩|exact⟨_,rfl,hK⟩|exact hK|exact⟨_,rfl,by rw[hA],hK⟩|exact⟨_,rfl,by rw[hA]⟩
theorem L8 (l:List Int)(id:Nat)(hn:l.length<=100000)(h0:∀n∈l,0<=n/\n<=1000000)(N:St):ACalls Tryz.prog 140 [sl id l.length (Am l)] N fun r N'=>r=ic l.sum/\Keep N N':=by
 have ae:=Bn l;refine Z9 17 [.tmp 2] Tryz.func140 ?_
 repeat' (first|refine Z1 ?_|(refine Z8 ?_;intro κ hκ)|(refine Z4 ?_;clear hκ κ)|(refine Z2 ?_ ?_<;>intro h ab<;>try exact Xp)|refine Z3 ?_|exact⟨⟩|(apply hκ.out;clear hκ κ))
 refine Af (fun m s N'=>∃i:Nat,m=l.length-i/\i<=l.length/\s 3=ic (l.take i).sum/\s 6=sl id l.length (Am l)/\s 7=ic l.length/\s 8=ic i/\Keep N N'/\0<=(l.take i).sum/\(l.take i).sum<=i*1000000) l.length
  ⟨0,Ajm,Ajm,rfl,rfl,rfl,rfl,Xs,by simp,by simp⟩ ?_
 rintro m s N' ⟨i,rfl,hi,h3,h6,h7,h8,hK,b0,b1⟩;by_cases ac:i<l.length
 ·have aa:=List.getElem?_eq_getElem ac;obtain⟨r,hd⟩:=Dm aa;have hb:=h0 l[i] (Ah6 ac);have hs:Ajs ((l.take (i+1)).sum=(l.take i).sum+l[i]):=by
   rw[Ajs,Agz,aa];simp only[Aia,List.sum_append,List.sum_cons,List.sum_nil];omega
  generalize l[i]=w at hd aa hb hs;clear aa;generalize (l.take i).sum=acc at h3 b0 b1 hs;have ad:=hK.nobj
  repeat' (first|refine Z1 ?_|(refine Z8 ?_;intro κ hκ)|(refine Z4 ?_;clear hκ κ)|(refine Z2 ?_ ?_<;>intro h ab<;>try exact Xp)|refine Z3 ?_|exact⟨⟩|(apply hκ.out;clear hκ κ))
  exact⟨l.length-(i+1),Ajm,i+1,rfl,Ajm,by rw[hs.out],by simp,by rw[hs.out];omega,by rw[hs.out];omega⟩
 ·have hil:i=l.length:=Ajm;subst hil;rw[Agw]at h3
  repeat' (first|refine Z1 ?_|(refine Z8 ?_;intro κ hκ)|(refine Z4 ?_;clear hκ κ)|(refine Z2 ?_ ?_<;>intro h ab<;>try exact Xp)|refine Z3 ?_|exact⟨⟩|(apply hκ.out;clear hκ κ))
  first|exact⟨_,rfl,rfl,hK⟩|exact⟨_,rfl,rfl⟩|exact⟨_,rfl,hK⟩
def Wz (v n:Int)(t:Tm):Tm:=if t=(true,v)then (false,n)else t
def Bg (v n:Int)(ts:List Tm):List Tm:=ts.map (Wz v n)
theorem lP {v n:Int}{ts:List Tm}(h:A8 ts v=false):Bg v n ts=ts:=by
 unfold Bg
 conv=>rhs;rw[<-Ahw ts]
 apply Ahx;intro t ht;unfold Wz;rw[if_neg]
 ·rfl
 ·rintro rfl;simp[A8]at h;exact h ht
theorem M8 (p:Int)(ids:Nat)(ts:List Tm)(v n:Int)(hn:ts.length<=1000)(N:St):ACalls Tryz.prog 226 [ag [ic p,sl ids ts.length (Ac ts)],ic v,ic n] N fun r N'=>(∃id,r=ag [ic p,sl id (Bg v n ts).length (Ac (Bg v n ts))])/\Keep N N':=by
 have ay:=Ci ts;refine Z9 43 [.cell 6 122] Tryz.func226 ?_
 repeat' (first|refine Z1 ?_|(refine Z8 ?_;intro κ hκ)|(refine Z4 ?_;clear hκ κ)|(refine Z2 ?_ ?_<;>intro h ae<;>try exact Xp)|(refine Z6 ?_;intro idn Nn af ah ad aa ac ab)|(refine Z5 ?_;refine Xi (Kc _ _ _ _ hn _) ?_;rintro _ _ ⟨rfl,ak⟩;(have am:=ak.nobj;have ai:=ak.obj;(try simp only[Aa]at am ai)))|refine Z3 ?_|exact⟨⟩|(apply hκ.out;clear hκ κ))
 ·have e:=lP (n:=n) h;rw[e];exact⟨_,rfl,⟨_,rfl⟩,(((Keep.refl _).new _).new _).trans ak|>.put Ajm _⟩
 ·rename_i N1;have aw:Keep N N1:=(((Keep.refl _).new _).new _).trans ak;have kn1:=aw.nobj;have au:=ai N.nobj Ajm;have ao:=ai (N.nobj+1) Ajm;rw[Ag Ajq,Ap]at au;rw[Bt Ajq Ajq]at ao;clear ai ak
  repeat' (first|refine Z1 ?_|(refine Z8 ?_;intro κ hκ)|(refine Z4 ?_;clear hκ κ)|(refine Z2 ?_ ?_<;>intro h ae<;>try exact Xp)|(refine Z6 ?_;intro idn Nn af ah ad aa ac ab)|refine Z3 ?_|exact⟨⟩|(apply hκ.out;clear hκ κ))
  refine Af (fun m s N'=>∃(i i3:Nat) (xs:List AV),m=ts.length-i/\i<=ts.length/\s 1=ic v/\s 2=ic n/\s 6=ptr (N.nobj+1) 0/\s 7=ptr N1.nobj 0/\s 19=sl ids ts.length (Ac ts)/\s 20=ic ts.length/\s 21=ic i/\Keep N N'/\N1.nobj<N'.nobj/\N'.obj (N.nobj+1)=[ic 0,nilS]/\N'.obj N1.nobj=[ic p,sl i3 i xs]/\Own N N' i3 i/\xs.length=i*2/\Ajs (xs=Ac (Bg v n (ts.take i)))) ts.length
   ⟨0,1,[],Ajm,Ajm,by simp[upd,initS],by simp[upd,initS],Ajo,Ajo,Ajo,Ajo,rfl,Xs,Ajr,?_,?_,Own.nil _ _,by simp,by simp[Ajs,Bg,Ac]⟩ ?_
  ·rw[Ai Ajm,Ag Ajm];simp[ao,cst1]
  ·rw[Ak]
  rintro m s N' ⟨i,i3,xs,rfl,hi,h1,h2,h6,h7,a4,a3,a0,hK,az,oc1,oc2,hO,an,hX⟩;have ax:=hK.nobj;by_cases av:i<ts.length
  ·have aj:=List.getElem?_eq_getElem av;obtain⟨r,hd⟩:=Cm aj;generalize ts[i]=w at hd aj;obtain⟨w1,w2⟩:=w;have HG:Ajs (Ac (Bg v n (ts.take (i+1)))=Ac (Bg v n (ts.take i))++I3 (Wz v n (w1,w2))):=by
    rw[Ajs,Agz,aj];simp[Bg,Ac]
   clear aj;by_cases hc:w1=true/\w2=v
   ·obtain⟨rfl,rfl⟩:=hc
    repeat' (first|refine Z1 ?_|(refine Z8 ?_;intro κ hκ)|(refine Z4 ?_;clear hκ κ)|(refine Z2 ?_ ?_<;>intro h ae<;>try exact Xp)|(refine Z6 ?_;intro idn Nn af ah ad aa ac ab)|refine Z3 ?_|exact⟨⟩|(apply hκ.out;clear hκ κ))
    refine Bh (by first|exact Eb) (((hK.new _).put hK.nobj _).put hK.nobj _) (Own.put (Own.put (Own.new hO _) _ _) _ _) (by decide) (by rfl) (an) (by rfl) (by rfl) (by decide) Ajm Ajm ?_;intro idn Nn af ah ad aa ac ab;simp only[Ab,Aa]at aa;refine Z3 ?_
    repeat' (first|refine Z1 ?_|(refine Z8 ?_;intro κ hκ)|(refine Z4 ?_;clear hκ κ)|(refine Z2 ?_ ?_<;>intro h ae<;>try exact Xp)|(refine Z6 ?_;intro idn Nn af ah ad aa ac ab)|refine Z3 ?_|exact⟨⟩|(apply hκ.out;clear hκ κ))
    exact⟨ts.length-(i+1),Ajm,i+1,idn,xs++[sc (.bool false),ic n],rfl,Ajm,by simp,ah.put Ajm _,Ajm,rfl,Own.put af _ _,by simp;omega,by rw[Ajs,HG.out,hX.out];simp[Wz,I3]⟩
   ·have ap:(w1&&w2==v)=false:=by
     cases w1 with
     |false=>rfl
     |true=>simp at hc⊢;exact hc
    have hP:Ajs (Wz v n (w1,w2)=(w1,w2)):=if_neg (by simpa using hc);clear hc;cases w1 with
    |false=>
     repeat' (first|refine Z1 ?_|(refine Z8 ?_;intro κ hκ)|(refine Z4 ?_;clear hκ κ)|(refine Z2 ?_ ?_<;>intro h ae<;>try exact Xp)|(refine Z6 ?_;intro idn Nn af ah ad aa ac ab)|refine Z3 ?_|exact⟨⟩|(apply hκ.out;clear hκ κ))
     refine Bh (by first|exact Eb) ((hK.new _).put hK.nobj _) (Own.put (Own.new hO _) _ _) (by decide) (by rfl) (an) (by rfl) (by rfl) (by decide) Ajm Ajm ?_;intro idn Nn af ah ad aa ac ab;simp only[Ab,Aa]at aa;refine Z3 ?_
     repeat' (first|refine Z1 ?_|(refine Z8 ?_;intro κ hκ)|(refine Z4 ?_;clear hκ κ)|(refine Z2 ?_ ?_<;>intro h ae<;>try exact Xp)|(refine Z6 ?_;intro idn Nn af ah ad aa ac ab)|refine Z3 ?_|exact⟨⟩|(apply hκ.out;clear hκ κ))
     exact⟨ts.length-(i+1),Ajm,i+1,idn,xs++[_,ic w2],rfl,Ajm,by simp,ah.put Ajm _,Ajm,rfl,Own.put af _ _,by simp;omega,by rw[Ajs,HG.out,hX.out,hP.out];rfl⟩
    |true=>
     have ap:(w2==v)=false:=by simpa using ap
     repeat' (first|refine Z1 ?_|(refine Z8 ?_;intro κ hκ)|(refine Z4 ?_;clear hκ κ)|(refine Z2 ?_ ?_<;>intro h ae<;>try exact Xp)|(refine Z6 ?_;intro idn Nn af ah ad aa ac ab)|refine Z3 ?_|exact⟨⟩|(apply hκ.out;clear hκ κ))
     refine Bh (by first|exact Eb) ((hK.new _).put hK.nobj _) (Own.put (Own.new hO _) _ _) (by decide) (by rfl) (an) (by rfl) (by rfl) (by decide) Ajm Ajm ?_;intro idn Nn af ah ad aa ac ab;simp only[Ab,Aa]at aa;refine Z3 ?_
     repeat' (first|refine Z1 ?_|(refine Z8 ?_;intro κ hκ)|(refine Z4 ?_;clear hκ κ)|(refine Z2 ?_ ?_<;>intro h ae<;>try exact Xp)|(refine Z6 ?_;intro idn Nn af ah ad aa ac ab)|refine Z3 ?_|exact⟨⟩|(apply hκ.out;clear hκ κ))
     exact⟨ts.length-(i+1),Ajm,i+1,idn,xs++[_,ic w2],rfl,Ajm,by simp,ah.put Ajm _,Ajm,rfl,Own.put af _ _,by simp;omega,by rw[Ajs,HG.out,hX.out,hP.out];rfl⟩
  ·have hil:i=ts.length:=Ajm;subst hil;have hX:=hX.out;rw[Agw]at hX;have hpl:(Bg v n ts).length=ts.length:=by simp[Bg]
   repeat' (first|refine Z1 ?_|(refine Z8 ?_;intro κ hκ)|(refine Z4 ?_;clear hκ κ)|(refine Z2 ?_ ?_<;>intro h ae<;>try exact Xp)|(refine Z6 ?_;intro idn Nn af ah ad aa ac ab)|refine Z3 ?_|exact⟨⟩|(apply hκ.out;clear hκ κ))
   exact⟨_,rfl,⟨i3,by first|rfl|rw[hpl,hX]⟩,hK.put Ajm _⟩
structure Part where
 a:Df
 tups:List Bc
structure Qry where
 head:Df
 parts:List Part
 nots:List Df
def Dd (l:List Bc):List AV:=l.flatMap Am
def T3 (l:List Bc):Prop:=∀t∈l,t.length=3
theorem E7 {l:List Bc}(h:T3 l):(Dd l).length=l.length*3:=by
 induction l with
 |nil=>rfl
 |cons a l ih=>
  have h1:=h a (by simp);have h2:=ih (fun t ht=>h t (by simp[ht]));unfold Dd at*
  rw[Ah3,Aha,h2,Bn,h1];simp;omega
theorem Lp (l:List Bc)(t:Bc):Dd (l++[t])=Dd l++Am t:=by simp[Dd]
theorem pH {l:List Bc}{k:Nat}{t:Bc}(h3:T3 l)(h:l[k]?=some t):∃a b c r,t=[a,b,c]/\(Dd l).drop (k*3)=ic a::ic b::ic c::r:=by
 have hE:∀l:List Bc,EL (fun t c=>c=Am t/\t∈l) l (Dd l):=by
  intro l;induction l with
  |nil=>rfl
  |cons a l ih=>exact⟨Am a,Dd l,⟨rfl,by simp⟩,EL.mono (fun t c h=>⟨h.1,by simp[h.2]⟩) ih,by simp[Dd]⟩
 obtain⟨c,r,⟨rfl,-⟩,e⟩:=EL.get (z:=3) (fun a c h=>by rw[h.1,Bn];exact h3 a h.2) (hE l) h;have ht:=h3 t (Agp h)
 match t,ht with
 |[a,b,c],_=>exact⟨a,b,c,r,rfl,by rw[e];rfl⟩
def Mm (a:Df)(c:List AV):Prop:=∃id,c=[ic a.p,sl id a.ts.length (Ac a.ts)]
def Mk (p:Part)(c:List AV):Prop:=∃id idt,c=[ic p.a.p,sl id p.a.ts.length (Ac p.a.ts),sl idt p.tups.length (Dd p.tups)]
theorem Ic (a:Df)(c:List AV)(h:Mm a c):c.length=2:=by obtain⟨id,rfl⟩:=h;rfl
theorem Ef (a:Part)(c:List AV)(h:Mk a c):c.length=3:=by obtain⟨id,idt,rfl⟩:=h;rfl
theorem Jl {l:List Df}{cs:List AV}{i:Nat}{a:Df}(h:EL Mm l cs)(hi:l[i]?=some a):∃id r,cs.drop (i*2)=ic a.p::sl id a.ts.length (Ac a.ts)::r:=by
 obtain⟨c,r,⟨id,rfl⟩,e⟩:=EL.get Ic h hi;exact⟨id,r,e⟩
theorem Fa {l:List Part}{cs:List AV}{i:Nat}{p:Part}(h:EL Mk l cs)(hi:l[i]?=some p):∃id idt r,cs.drop (i*3)=ic p.a.p::sl id p.a.ts.length (Ac p.a.ts)::sl idt p.tups.length (Dd p.tups)::r:=by
 obtain⟨c,r,⟨id,idt,rfl⟩,e⟩:=EL.get Ef h hi;exact⟨id,idt,r,e⟩
def EQ (q:Qry)(c:List AV):Prop:=∃ih ip inn pc nc,c=[ic q.head.p,sl ih q.head.ts.length (Ac q.head.ts),sl ip q.parts.length pc,sl inn q.nots.length nc]/\EL Mk q.parts pc/\EL Mm q.nots nc
structure Ou (q:Qry):Prop where
 hd:q.head.ts.length<=3
 pl:q.parts.length<=64
 nl:q.nots.length<=64
 pa:∀p∈q.parts,p.a.ts.length<=3
 pt:∀p∈q.parts,p.tups.length<=5000
 p3:∀p∈q.parts,T3 p.tups
 na:∀a∈q.nots,a.ts.length<=3
def Cr (l:List Part):Nat:=(l.map fun p=>p.tups.length).sum
theorem lB (l:List Part)(p:Part):Cr (l++[p])=Cr l+p.tups.length:=by simp[Cr,List.sum_append]
theorem Vq (q:Qry)(c:List AV)(hc:EQ q c)(hq:Ou q)(N:St):ACalls Tryz.prog 252 [ag c] N fun r N'=>r=ic (Cr q.parts:Nat)/\Keep N N':=by
 obtain⟨ih,ip,inn,pc,nc,rfl,hP,hN⟩:=hc;have hpl:=EL.length Ef hP;have hl:=hq.pl;refine Z9 20 [.tmp 2] Tryz.func252 ?_
 repeat' (first|refine Z1 ?_|(refine Z8 ?_;intro κ hκ)|(refine Z4 ?_;clear hκ κ)|(refine Z2 ?_ ?_<;>intro h ab<;>try exact Xp)|refine Z3 ?_|exact⟨⟩|(apply hκ.out;clear hκ κ))
 refine Af (fun m s N'=>∃i a:Nat,m=q.parts.length-i/\i<=q.parts.length/\s 3=ic a/\s 7=sl ip q.parts.length pc/\s 8=ic q.parts.length/\s 9=ic i/\Keep N N'/\a<=i*5000/\Ajs (a=Cr (q.parts.take i))) q.parts.length
  ⟨0,0,Ajm,Ajm,rfl,rfl,rfl,rfl,Xs,by simp,by simp[Ajs,Cr]⟩ ?_
 rintro m s N' ⟨i,a,rfl,hi,h3,h7,h8,h9,hK,b1,hA⟩;have ad:=hK.nobj;by_cases ac:i<q.parts.length
 ·have aa:=List.getElem?_eq_getElem ac;obtain⟨id,idt,r,hd⟩:=Fa hP aa;have hb:=hq.pt _ (Ah6 ac);generalize q.parts[i]=w at hd aa hb;have HG:Ajs (Cr (q.parts.take (i+1))=Cr (q.parts.take i)+w.tups.length):=by
   rw[Ajs,Agz,aa,Aia,lB]
  clear aa
  repeat' (first|refine Z1 ?_|(refine Z8 ?_;intro κ hκ)|(refine Z4 ?_;clear hκ κ)|(refine Z2 ?_ ?_<;>intro h ab<;>try exact Xp)|refine Z3 ?_|exact⟨⟩|(apply hκ.out;clear hκ κ))
  exact⟨q.parts.length-(i+1),Ajm,i+1,a+w.tups.length,rfl,Ajm,by simp,by simp,Xs,Ajm,by rw[Ajs,HG.out,hA.out]⟩
 ·have hil:i=q.parts.length:=Ajm;subst hil;have hA:=hA.out;rw[Agw]at hA;subst hA
  repeat' (first|refine Z1 ?_|(refine Z8 ?_;intro κ hκ)|(refine Z4 ?_;clear hκ κ)|(refine Z2 ?_ ?_<;>intro h ab<;>try exact Xp)|refine Z3 ?_|exact⟨⟩|(apply hκ.out;clear hκ κ))
  first|exact⟨_,rfl,rfl,hK⟩|exact⟨_,rfl,rfl⟩|exact⟨_,rfl,hK⟩|exact hK
def C8 (l:List Df)(v:Int):Nat:=l.countP fun a=>A8 a.ts v
theorem La (q:Qry)(c:List AV)(v:Int)(hc:EQ q c)(hq:Ou q)(N:St):ACalls Tryz.prog 254 [ag c,ic v] N fun r N'=>r=ic (C8 (q.parts.map (·.a)) v:Nat)/\Keep N N':=by
 obtain⟨ih,ip,inn,pc,nc,rfl,hP,hN⟩:=hc;have hpl:=EL.length Ef hP;have hl:=hq.pl;refine Z9 23 [.tmp 4] Tryz.func254 ?_
 repeat' (first|refine Z1 ?_|(refine Z8 ?_;intro κ hκ)|(refine Z4 ?_;clear hκ κ)|(refine Z2 ?_ ?_<;>intro h ac<;>try exact Xp)|refine Z3 ?_|exact⟨⟩|(apply hκ.out;clear hκ κ))
 refine Af (fun m s N'=>∃i a:Nat,m=q.parts.length-i/\i<=q.parts.length/\s 1=ic v/\s 5=ic a/\s 9=sl ip q.parts.length pc/\s 10=ic q.parts.length/\s 11=ic i/\Keep N N'/\a<=i/\Ajs (a=C8 ((q.parts.take i).map (·.a)) v)) q.parts.length
  ⟨0,0,Ajm,Ajm,rfl,rfl,rfl,rfl,rfl,Xs,by simp,by simp[Ajs,C8]⟩ ?_
 rintro m s N' ⟨i,a,rfl,hi,h1,h5,h9,ak,aj,hK,b1,hA⟩;have ah:=hK.nobj;by_cases ad:i<q.parts.length
 ·have aa:=List.getElem?_eq_getElem ad;obtain⟨id,idt,r,hd⟩:=Fa hP aa;have hb:=hq.pa _ (Ah6 ad);generalize q.parts[i]=w at hd aa hb;have HG:Ajs (C8 ((q.parts.take (i+1)).map (·.a)) v=C8 ((q.parts.take i).map (·.a)) v+if A8 w.a.ts v then 1 else 0):=by
   rw[Ajs,Agz,aa,Aia,Ag1,C8,List.countP_append];simp[C8,List.countP_cons]
  clear aa;have ab:w.a.ts.length<=1000:=Ajm
  repeat' (first|refine Z1 ?_|(refine Z8 ?_;intro κ hκ)|(refine Z4 ?_;clear hκ κ)|(refine Z2 ?_ ?_<;>intro h ac<;>try exact Xp)|(refine Z5 ?_;refine Xi (Kc _ _ _ _ ab _) ?_;rintro _ _ ⟨rfl,ae⟩;(have af:=ae.nobj;have ai:=((hK.new _).put hK.nobj _).trans ae))|refine Z3 ?_|exact⟨⟩|(apply hκ.out;clear hκ κ))
  ·exact⟨q.parts.length-(i+1),Ajm,i+1,a+1,rfl,Ajm,by simp,by simp,Ajm,by rw[Ajs,HG.out,hA.out,if_pos (by assumption)]⟩
  ·exact⟨q.parts.length-(i+1),Ajm,i+1,a,rfl,Ajm,by simp,by simp,Ajm,by rw[Ajs,HG.out,hA.out,if_neg (by simp_all),Agq]⟩
 ·have hil:i=q.parts.length:=Ajm;subst hil;have hA:=hA.out;rw[Agw]at hA;subst hA
  repeat' (first|refine Z1 ?_|(refine Z8 ?_;intro κ hκ)|(refine Z4 ?_;clear hκ κ)|(refine Z2 ?_ ?_<;>intro h ac<;>try exact Xp)|refine Z3 ?_|exact⟨⟩|(apply hκ.out;clear hκ κ))
  first|exact⟨_,rfl,rfl,hK⟩|exact⟨_,rfl,rfl⟩|exact⟨_,rfl,hK⟩|exact hK
def atomsQ (q:Qry):List Df:=q.head::(q.parts.map (·.a)++q.nots)
theorem Jk (q:Qry)(c:List AV)(hc:EQ q c)(hq:Ou q)(N:St):ACalls Tryz.prog 253 [ag c] N fun r N'=>∃id cs,r=sl id (atomsQ q).length cs/\EL Mm (atomsQ q) cs/\Keep N N':=by
 obtain⟨ih,ip,inn,pc,nc,rfl,hP,hN⟩:=hc;have hpl:=EL.length Ef hP;have ay:=EL.length Ic hN;have hl:=hq.pl;have az:=hq.nl;refine Z9 37 [.tmp 2] Tryz.func253 ?_
 repeat' (first|refine Z1 ?_|(refine Z8 ?_;intro κ hκ)|(refine Z4 ?_;clear hκ κ)|(refine Z2 ?_ ?_<;>intro h af<;>try exact Xp)|(refine Z6 ?_;intro idn Nn ah ai ad aa ae ab)|refine Z3 ?_|exact⟨⟩|(apply hκ.out;clear hκ κ))
 have ao:Keep N (N.new [ic q.head.p,sl ih q.head.ts.length (Ac q.head.ts),sl ip q.parts.length pc,sl inn q.nots.length nc]):=(Keep.refl _).new _
 refine Af (fun m s N'=>∃(k i3:Nat) (xs:List AV),m=q.parts.length-k/\k<=q.parts.length/\s 1=ptr N.nobj 0/\s 3=sl i3 (1+k) xs/\s 12=sl ip q.parts.length pc/\s 13=ic q.parts.length/\s 14=ic k/\Keep N N'/\N.nobj<N'.nobj/\N'.obj N.nobj=[ic q.head.p,sl ih q.head.ts.length (Ac q.head.ts),sl ip q.parts.length pc,sl inn q.nots.length nc]/\Own N N' i3 (1+k)/\xs.length=(1+k)*2/\Ajs (EL Mm (q.head::(q.parts.take k).map (·.a)) xs)) q.parts.length
  ⟨0,_,_,Ajm,Ajm,Ajo,rfl,rfl,rfl,rfl,ao.lay 1,by simp only[Ah,Aa];omega,by rw[As,Ap],Own.made ao (by decide),by simp,EL.single ⟨ih,rfl⟩⟩ ?_
 rintro m s N' ⟨k,i3,xs,rfl,hk,h1,h3,ax,aw,av,hK,au,ob,hO,aj,hE⟩;clear ao;have ap:=hK.nobj;by_cases ak:k<q.parts.length
 ·have ac:=List.getElem?_eq_getElem ak;obtain⟨id,idt,r,hd⟩:=Fa hP ac;generalize q.parts[k]=w at hd ac;have HG:Ajs (q.parts[k]?=some w):=ac;clear ac
  repeat' (first|refine Z1 ?_|(refine Z8 ?_;intro κ hκ)|(refine Z4 ?_;clear hκ κ)|(refine Z2 ?_ ?_<;>intro h af<;>try exact Xp)|(refine Z6 ?_;intro idn Nn ah ai ad aa ae ab)|refine Z3 ?_|exact⟨⟩|(apply hκ.out;clear hκ κ))
  refine Bh (by first|exact Es) ((hK.new _).put hK.nobj _) (Own.put (Own.new hO _) _ _) (by decide) (by rfl) (aj) (by rfl) (by rfl) (by decide) Ajm Ajm ?_;intro idn Nn ah ai ad aa ae ab;simp only[Ab,Aa]at aa;have eob:Nn.obj N.nobj=N'.obj N.nobj:=by rw[ad,Ai Ajm,Ag Ajm]
  refine Z3 ?_
  repeat' (first|refine Z1 ?_|(refine Z8 ?_;intro κ hκ)|(refine Z4 ?_;clear hκ κ)|(refine Z2 ?_ ?_<;>intro h af<;>try exact Xp)|(refine Z6 ?_;intro idn Nn ah ai ad aa ae ab)|refine Z3 ?_|exact⟨⟩|(apply hκ.out;clear hκ κ))
  refine⟨q.parts.length-(k+1),Ajm,k+1,idn,xs++[ic w.a.p,sl id w.a.ts.length (Ac w.a.ts)],rfl,Ajm,by simp[Agx],by simp,Ajm,by simpa[Agx]using ah,by simp;omega,?_⟩;rw[Ajs,Agz,HG.out];have:=EL.append hE.out (EL.single (E:=Mm) (a:=w.a) ⟨id,rfl⟩);simpa using this
 ·have an:k=q.parts.length:=Ajm;subst an;rw[Agw]at hE;generalize hM:q.parts.length=M at*
  have HM:Ajs _:=hM;clear hM ak hk
  repeat' (first|refine Z1 ?_|(refine Z8 ?_;intro κ hκ)|(refine Z4 ?_;clear hκ κ)|(refine Z2 ?_ ?_<;>intro h af<;>try exact Xp)|(refine Z6 ?_;intro idn Nn ah ai ad aa ae ab)|refine Z3 ?_|exact⟨⟩|(apply hκ.out;clear hκ κ))
  refine Af (fun m s N'=>∃(k i3:Nat) (xs:List AV),m=q.nots.length-k/\k<=q.nots.length/\s 3=sl i3 (1+M+k) xs/\s 25=sl inn q.nots.length nc/\s 26=ic q.nots.length/\s 27=ic k/\Keep N N'/\Own N N' i3 (1+M+k)/\xs.length=(1+M+k)*2/\Ajs (EL Mm (q.head::(q.parts.map (·.a)++q.nots.take k)) xs)) q.nots.length
   ⟨0,i3,xs,Ajm,Ajm,Ajn,Ajn,Ajn,Ajo,hK,by simpa using hO,by simpa using aj,by simpa using hE⟩ ?_
  clear hE aj hO h3 h1 ax aw av hK au ob ap;rintro m s N' ⟨k,i3,xs,rfl,hk,h3,a4,a3,a0,hK,hO,aj,hE⟩;have ap:=hK.nobj;by_cases ak:k<q.nots.length
  ·have ac:=List.getElem?_eq_getElem ak;obtain⟨id,r,hd⟩:=Jl hN ac;generalize q.nots[k]=w at hd ac;have HG:Ajs (q.nots[k]?=some w):=ac;clear ac
   repeat' (first|refine Z1 ?_|(refine Z8 ?_;intro κ hκ)|(refine Z4 ?_;clear hκ κ)|(refine Z2 ?_ ?_<;>intro h af<;>try exact Xp)|(refine Z6 ?_;intro idn Nn ah ai ad aa ae ab)|refine Z3 ?_|exact⟨⟩|(apply hκ.out;clear hκ κ))
   refine Bh (by first|exact Es) ((hK.new _).put hK.nobj _) (Own.put (Own.new hO _) _ _) (by decide) (by rfl) (aj) (by rfl) (by rfl) (by decide) Ajm Ajm ?_;intro idn Nn ah ai ad aa ae ab;refine Z3 ?_
   repeat' (first|refine Z1 ?_|(refine Z8 ?_;intro κ hκ)|(refine Z4 ?_;clear hκ κ)|(refine Z2 ?_ ?_<;>intro h af<;>try exact Xp)|(refine Z6 ?_;intro idn Nn ah ai ad aa ae ab)|refine Z3 ?_|exact⟨⟩|(apply hκ.out;clear hκ κ))
   refine⟨q.nots.length-(k+1),Ajm,k+1,idn,xs++[ic w.p,sl id w.ts.length (Ac w.ts)],rfl,Ajm,by simp[Agx],by simp,by simpa[Agx]using ah,by simp;omega,?_⟩;rw[Ajs,Agz,HG.out];have:=EL.append hE.out (EL.single (E:=Mm) (a:=w) ⟨id,rfl⟩);simpa using this
  ·have an:k=q.nots.length:=Ajm;subst an;rw[Agw]at hE;have am:(atomsQ q).length=1+M+q.nots.length:=by have:=HM.out;simp[atomsQ];omega
   repeat' (first|refine Z1 ?_|(refine Z8 ?_;intro κ hκ)|(refine Z4 ?_;clear hκ κ)|(refine Z2 ?_ ?_<;>intro h af<;>try exact Xp)|(refine Z6 ?_;intro idn Nn ah ai ad aa ae ab)|refine Z3 ?_|exact⟨⟩|(apply hκ.out;clear hκ κ))
   exact⟨_,rfl,i3,xs,by first|rfl|rw[am],by simpa[atomsQ]using hE.out⟩
end Go.Proofs.YtmoeoppbmhfbpabGreatDoorL
