import Derived.Test.YtmoeoppbmhfbpabGreatDoorGFacts
import Derived.Test.YtmoeoppbmhfbpabGreatDoorGAbsWp
set_option maxHeartbeats 16000000
set_option maxRecDepth 100000
set_option linter.all false
namespace Go.Proofs.YtmoeoppbmhfbpabGreatDoorG
open Go.Abs
abbrev Tm:=Bool×Int
structure C4 where
 p:Int
 ts:List Tm
abbrev Ca:=List Int
abbrev ic (n:Int):AV:=sc (.int .i64 n)
def H8 (t:Tm):List AV:=[sc (.bool t.1),ic t.2]
def Ac (ts:List Tm):List AV:=ts.flatMap H8
theorem Ch (ts:List Tm):(Ac ts).length=ts.length*2:=by
 induction ts with
 |nil=>rfl
 |cons a l ih=>unfold Ac at*;rw[Ae5,Aee,ih];simp[H8];omega
theorem Qw (ts:List Tm)(x:Tm):Ac (ts++[x])=Ac ts++H8 x:=by simp[Ac]
theorem Cm {ts:List Tm}{k:Nat}{w:Tm}(h:ts[k]?=some w):∃r,(Ac ts).drop (k*2)=sc (.bool w.1)::ic w.2::r:=by
 have hE:∀ts:List Tm,EL (fun w c=>c=H8 w) ts (Ac ts):=by
  intro ts;induction ts with
  |nil=>rfl
  |cons a l ih=>exact⟨H8 a,Ac l,rfl,ih,by simp[Ac]⟩
 obtain⟨c,r,rfl,e⟩:=EL.get (z:=2) (fun a c h=>by rw[h];rfl) (hE ts) h;exact⟨r,e⟩
def H5 (ts:List Tm)(v:Int):Int:=if (true,v)∈ts then (ts.idxOf (true,v):Nat)else -1
theorem Uj {α:Type}[BEq α][LawfulBEq α]{l:List α}{i:Nat}{x:α}(h:l[i]?=some x)(hn:x∉l.take i):l.idxOf x=i:=by
 have hi:=(List.getElem?_eq_some_iff.1 h).1;have:l=l.take i++l.drop i:=(Afn i l).symm;rw[this,List.idxOf_append,if_neg hn,Aef,Aej Agm,Aep hi];have:=(List.getElem?_eq_some_iff.1 h).2;simp[this]
theorem yD {ts:List Tm}{v:Int}{i:Nat}(h:ts[i]?=some (true,v))(hn:(true,v)∉ts.take i):H5 ts v=i:=by
 unfold H5;rw[if_pos (Adt h),Uj h hn]
theorem Jc {ts:List Tm}{v:Int}(hn:(true,v)∉ts):H5 ts v= -1:=if_neg hn
theorem T4 {α:Type}{l:List α}{i:Nat}{x y:α}(h:x∉l.take i)(hi:l[i]?=some y)(hy:y≠x):x∉l.take (i+1):=by
 rw[Ad3,hi];simp only[Afe,Aew,Aff,not_or];exact⟨h,fun e=>hy e.symm⟩
theorem Fq (p:Int)(ids:Nat)(ts:List Tm)(v:Int)(hn:ts.length<=1000)(N:St):ACalls Tryz.prog 217 [ag [ic p,sl ids ts.length (Ac ts)],ic v] N fun r N'=>r=ic (H5 ts v)/\Keep N N':=by
 have af:=Ch ts;refine Z9 25 [.tmp 4] Tryz.func217 ?_
 repeat' (first|refine Z1 ?_|(refine Z8 ?_;intro κ hκ)|(refine Z4 ?_;clear hκ κ)|(refine Z2 ?_ ?_<;>intro h ab<;>try exact Xp)|refine Z3 ?_|exact⟨⟩|(apply hκ.out;clear hκ κ))
 refine Ag (fun m s N'=>∃i:Nat,m=ts.length-i/\i<=ts.length/\s 1=ic v/\s 8=sl ids ts.length (Ac ts)/\s 9=ic ts.length/\s 10=ic i/\Keep N N'/\Agt ((true,v)∉ts.take i)) ts.length
  ⟨0,Agm,Agm,rfl,rfl,rfl,rfl,Xs,by simp[Agt]⟩ ?_
 rintro m s N' ⟨i,rfl,hi,h1,h8,h9,ah,hK,hno⟩;by_cases ac:i<ts.length
 ·have aa:=List.getElem?_eq_getElem ac;obtain⟨r,hd⟩:=Cm aa;generalize ts[i]=w at hd aa;obtain⟨w1,w2⟩:=w;have HG:Agt (ts[i]?=some (w1,w2)):=aa;clear aa;have ae:=hK.nobj
  repeat' (first|refine Z1 ?_|(refine Z8 ?_;intro κ hκ)|(refine Z4 ?_;clear hκ κ)|(refine Z2 ?_ ?_<;>intro h ab<;>try exact Xp)|refine Z3 ?_|exact⟨⟩|(apply hκ.out;clear hκ κ))
  ·have e:w1=true/\w2=v:=by simp_all
   obtain⟨rfl,rfl⟩:=e;exact⟨_,rfl,by rw[yD HG.out hno.out],Xs⟩
  all_goals exact⟨ts.length-(i+1),Agm,i+1,rfl,Agm,by simp,Xs,T4 hno.out HG.out (by simp_all)⟩
 ·have ad:i=ts.length:=Agm;subst ad;rw[Adz]at hno
  repeat' (first|refine Z1 ?_|(refine Z8 ?_;intro κ hκ)|(refine Z4 ?_;clear hκ κ)|(refine Z2 ?_ ?_<;>intro h ab<;>try exact Xp)|refine Z3 ?_|exact⟨⟩|(apply hκ.out;clear hκ κ))
  first|exact⟨_,rfl,by rw[Jc hno.out],hK⟩|exact⟨_,rfl,by rw[Jc hno.out]⟩
def Bc (ts:List Tm)(v:Int):Bool:=decide ((true,v)∈ts)
theorem yE (ts:List Tm)(v:Int):(H5 ts v != -1)=Bc ts v:=by
 unfold H5 Bc;split<;>rename_i h<;>simp[h]
theorem Jn (p:Int)(ids:Nat)(ts:List Tm)(v:Int)(hn:ts.length<=1000)(N:St):ACalls Tryz.prog 232 [ag [ic p,sl ids ts.length (Ac ts)],ic v] N fun r N'=>r=sc (.bool (Bc ts v))/\Keep N N':=by
 have hp:=yE ts v;refine Z9 9 [.tmp 4] Tryz.func232 ?_
 repeat' (first|refine Z1 ?_|(refine Z8 ?_;intro κ hκ)|(refine Z4 ?_;clear hκ κ)|(refine Z2 ?_ ?_<;>intro h aa<;>try exact Xp)|(refine Z5 ?_;refine Xi (Fq _ _ _ _ hn _) ?_;rintro _ _ ⟨rfl,hK⟩)|refine Z3 ?_|exact⟨⟩|(apply hκ.out;clear hκ κ))
 exact⟨_,rfl,rfl,Xs⟩
def Ih (ts:List Tm):Bool:=ts.all fun t=>!t.1
theorem Mw (p:Int)(ids:Nat)(ts:List Tm)(hn:ts.length<=1000)(N:St):ACalls Tryz.prog 131 [ag [ic p,sl ids ts.length (Ac ts)]] N fun r N'=>r=sc (.bool (Ih ts))/\Keep N N':=by
 have ah:=Ch ts;refine Z9 15 [.tmp 2] Tryz.func131 ?_
 repeat' (first|refine Z1 ?_|(refine Z8 ?_;intro κ hκ)|(refine Z4 ?_;clear hκ κ)|(refine Z2 ?_ ?_<;>intro h ac<;>try exact Xp)|refine Z3 ?_|exact⟨⟩|(apply hκ.out;clear hκ κ))
 refine Ag (fun m s N'=>∃i:Nat,m=ts.length-i/\i<=ts.length/\s 6=sl ids ts.length (Ac ts)/\s 7=ic ts.length/\s 8=ic i/\Keep N N'/\Agt (Ih (ts.take i)=true)) ts.length
  ⟨0,Agm,Agm,rfl,rfl,rfl,Xs,by simp[Agt,Ih]⟩ ?_
 rintro m s N' ⟨i,rfl,hi,h6,h7,h8,hK,hno⟩;by_cases ad:i<ts.length
 ·have aa:=List.getElem?_eq_getElem ad;obtain⟨r,hd⟩:=Cm aa;have ab:=Afa ad;generalize ts[i]=w at hd aa ab;obtain⟨w1,w2⟩:=w;have HG:Agt (ts[i]?=some (w1,w2)/\(w1,w2)∈ts):=⟨aa,ab⟩;clear aa ab;have af:=hK.nobj
  repeat' (first|refine Z1 ?_|(refine Z8 ?_;intro κ hκ)|(refine Z4 ?_;clear hκ κ)|(refine Z2 ?_ ?_<;>intro h ac<;>try exact Xp)|refine Z3 ?_|exact⟨⟩|(apply hκ.out;clear hκ κ))
  ·exact⟨_,rfl,by
    have:Ih ts=false:=by
     unfold Ih;rw[Aft];exact⟨_,HG.out.2,by simp_all⟩
    rw[this],Xs⟩
  ·exact⟨ts.length-(i+1),Agm,i+1,rfl,Agm,by simp,Xs,by
    have hno:=hno.out;unfold Ih at hno;rw[Agt,Ih,Ad3,HG.out.1,List.all_append,hno]
    simp_all⟩
 ·have ae:i=ts.length:=Agm;subst ae;rw[Adz]at hno;have hno:=hno.out
  repeat' (first|refine Z1 ?_|(refine Z8 ?_;intro κ hκ)|(refine Z4 ?_;clear hκ κ)|(refine Z2 ?_ ?_<;>intro h ac<;>try exact Xp)|refine Z3 ?_|exact⟨⟩|(apply hκ.out;clear hκ κ))
  first|exact⟨_,rfl,rfl,hK⟩|exact⟨_,rfl,rfl⟩
def Df (l:List Int):Ca:=[(l[0]?).getD (-1),(l[1]?).getD (-1),(l[2]?).getD (-1)]
def As (t:List Int):List AV:=t.map ic
theorem Qr (p:Int)(ids:Nat)(ts:List Tm)(hn:ts.length<=1000)(N:St):ACalls Tryz.prog 135 [ag [ic p,sl ids ts.length (Ac ts)]] N fun r N'=>r=ag (As (Df (ts.map (·.2))))/\Keep N N':=by
 have ak:=Ch ts;have af:∃L:Nat->Int,(∀i,L i=((ts[i]?).map (·.2)).getD (-1))/\As (Df (ts.map (·.2)))=[ic (L 0),ic (L 1),ic (L 2)]:=⟨fun i=>((ts[i]?).map (·.2)).getD (-1),fun _=>rfl,by simp[As,Df]⟩;obtain⟨L,hL,hT⟩:=af;refine Z9 26 [.cell 2 141] Tryz.func135 ?_
 repeat' (first|refine Z1 ?_|(refine Z8 ?_;intro κ hκ)|(refine Z4 ?_;clear hκ κ)|(refine Z2 ?_ ?_<;>intro h ac<;>try exact Xp)|refine Z3 ?_|exact⟨⟩|(apply hκ.out;clear hκ κ))
 refine Ag (fun m s N'=>∃(i:Nat),m=3-i/\i<=3/\s 1=ptr N.nobj 0/\s 2=ptr (N.nobj+1) 0/\s 3=ptr (N.nobj+2) 0/\s 6=ic i/\Keep N N'/\N.nobj+2<N'.nobj/\N'.obj N.nobj=[ic p,sl ids ts.length (Ac ts)]/\N'.obj (N.nobj+1)=[ic 0,ic 0,ic 0]/\N'.obj (N.nobj+2)=[ic (if 0<i then L 0 else 0),ic (if 1<i then L 1 else 0),ic (if 2<i then L 2 else 0)]) 3
  ⟨0,Agm,Agm,Ago,Ago,Ago,rfl,Xs,by simp only[Aa,Ab];omega,?_,?_,?_⟩ ?_
 ·rw[Ai Agm,Af Agq,Af Agq,Ap]
 ·rw[Ai Agm,Af Agq,Bs Agq Agq]
 ·rw[show N.nobj+2=N.nobj+1+1 from rfl,Aj];rfl
 rintro m s N' ⟨i,rfl,hi,h1,h2,h3,h6,hK,hno,ai,ah,ad⟩;have aj:=hK.nobj;by_cases am:i<3
 ·by_cases hl:i<ts.length
  ·have aa:=List.getElem?_eq_getElem hl;obtain⟨r,hd⟩:=Cm aa;have ab:=hL i;rw[aa]at ab;generalize ts[i]=w at hd aa ab;obtain⟨w1,w2⟩:=w;clear aa hL;simp only[Afk,Option.getD_some]at ab;rcases (show i=0\/i=1\/i=2 by omega)with rfl|rfl|rfl
   all_goals
    simp only[↓reduceIte,Nat.lt_irrefl,Nat.reduceLT,Nat.reduceMul,Aeb,List.drop_zero]at ad hd ab
    repeat' (first|refine Z1 ?_|(refine Z8 ?_;intro κ hκ)|(refine Z4 ?_;clear hκ κ)|(refine Z2 ?_ ?_<;>intro h ac<;>try exact Xp)|refine Z3 ?_|exact⟨⟩|(apply hκ.out;clear hκ κ))
    first|exact⟨2,Agm,1,rfl,Agm,rfl,Xs,by simp[*]⟩|exact⟨1,Agm,2,rfl,Agm,rfl,Xs,by simp[*]⟩|exact⟨0,Agm,3,rfl,Agm,rfl,Xs,by simp[*]⟩
  ·have ab:=hL i;rw[List.getElem?_eq_none Agm]at ab;simp only[Option.map_none,Option.getD_none]at ab;clear hL;rcases (show i=0\/i=1\/i=2 by omega)with rfl|rfl|rfl
   all_goals
    simp only[↓reduceIte,Nat.lt_irrefl,Nat.reduceLT,Nat.reduceMul,Aeb,List.drop_zero]at ad ab
    repeat' (first|refine Z1 ?_|(refine Z8 ?_;intro κ hκ)|(refine Z4 ?_;clear hκ κ)|(refine Z2 ?_ ?_<;>intro h ac<;>try exact Xp)|refine Z3 ?_|exact⟨⟩|(apply hκ.out;clear hκ κ))
    first|exact⟨2,Agm,1,rfl,Agm,rfl,Xs,by simp[*]⟩|exact⟨1,Agm,2,rfl,Agm,rfl,Xs,by simp[*]⟩|exact⟨0,Agm,3,rfl,Agm,rfl,Xs,by simp[*]⟩
 ·have ae:i=3:=Agm;subst ae;simp only[↓reduceIte,Nat.reduceLT]at ad
  repeat' (first|refine Z1 ?_|(refine Z8 ?_;intro κ hκ)|(refine Z4 ?_;clear hκ κ)|(refine Z2 ?_ ?_<;>intro h ac<;>try exact Xp)|refine Z3 ?_|exact⟨⟩|(apply hκ.out;clear hκ κ))
  first|exact⟨_,rfl,by rw[hT],Xs⟩|exact⟨_,rfl,rfl,Xs⟩
theorem Bp (l:List Int):(As l).length=l.length:=by simp[As]
theorem C9 {l:List Int}{k:Nat}{n:Int}(h:l[k]?=some n):∃r,(As l).drop k=ic n::r:=by
 have hk:=(List.getElem?_eq_some_iff.1 h);obtain⟨h1,h2⟩:=hk;refine⟨(As l).drop (k+1),?_⟩;rw[Aep (by rw[Bp];exact h1)];simp[As,h2]
theorem Ep (l:List Int):(As l).all flat=true:=by
 rw[Ads];intro x hx;obtain⟨n,-,rfl⟩:=Aey.1 hx;rfl
theorem Gv (v:Int)(l:List Int)(id:Nat)(hn:l.length<=100000)(N:St):ACalls Tryz.prog 85 [ic v,sl id l.length (As l)] N fun r N'=>r=ic (if v∈l then (l.idxOf v:Nat)else -1)/\Keep N N':=by
 have af:=Bp l;refine Z9 19 [.tmp 4] Tryz.func85 ?_
 repeat' (first|refine Z1 ?_|(refine Z8 ?_;intro κ hκ)|(refine Z4 ?_;clear hκ κ)|(refine Z2 ?_ ?_<;>intro h ab<;>try exact Xp)|refine Z3 ?_|exact⟨⟩|(apply hκ.out;clear hκ κ))
 refine Ag (fun m s N'=>∃i:Nat,m=l.length-i/\i<=l.length/\s 0=ic v/\s 7=sl id l.length (As l)/\s 8=ic l.length/\s 9=ic i/\Keep N N'/\Agt (v∉l.take i)) l.length
  ⟨0,Agm,Agm,rfl,rfl,rfl,rfl,Xs,by simp[Agt]⟩ ?_
 rintro m s N' ⟨i,rfl,hi,h0,h7,h8,h9,hK,hno⟩;by_cases ac:i<l.length
 ·have aa:=List.getElem?_eq_getElem ac;obtain⟨r,hd⟩:=C9 aa;generalize l[i]=w at hd aa;have HG:Agt (l[i]?=some w):=aa;clear aa;have ae:=hK.nobj
  repeat' (first|refine Z1 ?_|(refine Z8 ?_;intro κ hκ)|(refine Z4 ?_;clear hκ κ)|(refine Z2 ?_ ?_<;>intro h ab<;>try exact Xp)|refine Z3 ?_|exact⟨⟩|(apply hκ.out;clear hκ κ))
  ·have e:w=v:=by simp_all
   subst e;exact⟨_,rfl,by rw[if_pos (Adt HG.out),Uj HG.out hno.out]⟩
  all_goals exact⟨l.length-(i+1),Agm,i+1,rfl,Agm,by simp,T4 hno.out HG.out (by simp_all)⟩
 ·have ad:i=l.length:=Agm;subst ad;rw[Adz]at hno
  repeat' (first|refine Z1 ?_|(refine Z8 ?_;intro κ hκ)|(refine Z4 ?_;clear hκ κ)|(refine Z2 ?_ ?_<;>intro h ab<;>try exact Xp)|refine Z3 ?_|exact⟨⟩|(apply hκ.out;clear hκ κ))
  first|exact⟨_,rfl,by rw[if_neg hno.out],hK⟩|exact⟨_,rfl,by rw[if_neg hno.out]⟩
theorem Qj (v:Int)(l:List Int):((if v∈l then ((l.idxOf v:Nat):Int)else -1)== -1)=decide (v∉l):=by
 split<;>rename_i h<;>simp[h]
theorem J7 (p:Int)(ids:Nat)(ts:List Tm)(l:List Int)(id:Nat)(hn:ts.length<=1000)(hl:l.length<=100000)(N:St):ACalls Tryz.prog 225 [ag [ic p,sl ids ts.length (Ac ts)],sl id l.length (As l)] N fun r N'=>r=sc (.bool (l.any (Bc ts)))/\Keep N N':=by
 have ak:=Bp l;refine Z9 17 [.tmp 4] Tryz.func225 ?_
 repeat' (first|refine Z1 ?_|(refine Z8 ?_;intro κ hκ)|(refine Z4 ?_;clear hκ κ)|(refine Z2 ?_ ?_<;>intro h ac<;>try exact Xp)|refine Z3 ?_|exact⟨⟩|(apply hκ.out;clear hκ κ))
 refine Ag (fun m s N'=>∃i:Nat,m=l.length-i/\i<=l.length/\s 2=ptr N.nobj 0/\s 7=sl id l.length (As l)/\s 8=ic l.length/\s 9=ic i/\Keep N N'/\N.nobj<N'.nobj/\N'.obj N.nobj=[ic p,sl ids ts.length (Ac ts)]/\Agt ((l.take i).any (Bc ts)=false)) l.length
  ⟨0,Agm,Agm,Ago,Ago,Ago,rfl,Xs,Agq,by rw[Ap],by simp[Agt]⟩ ?_
 rintro m s N' ⟨i,rfl,hi,h2,h7,h8,h9,hK,hno,ob,hA⟩;have aj:=hK.nobj;by_cases ae:i<l.length
 ·have aa:=List.getElem?_eq_getElem ae;obtain⟨r,hd⟩:=C9 aa;have ab:=Afa ae;generalize l[i]=w at hd aa ab;have HG:Agt (l[i]?=some w/\w∈l):=⟨aa,ab⟩;clear aa ab
  repeat' (first|refine Z1 ?_|(refine Z8 ?_;intro κ hκ)|(refine Z4 ?_;clear hκ κ)|(refine Z2 ?_ ?_<;>intro h ac<;>try exact Xp)|(refine Z5 ?_;refine Xi (Jn _ _ _ _ hn _) ?_;rintro _ _ ⟨rfl,ad⟩;(have ah:=ad.nobj;have af:=ad.obj))|refine Z3 ?_|exact⟨⟩|(apply hκ.out;clear hκ κ))
  ·first|exact⟨_,rfl,by rw[Aeo.2 ⟨w,HG.out.2,by assumption⟩],hK.trans ad⟩|exact⟨_,rfl,by rw[Aeo.2 ⟨w,HG.out.2,by assumption⟩]⟩
  ·exact⟨l.length-(i+1),Agm,i+1,rfl,Agm,by simp,hK.trans ad,Agm,by
    rw[Agt,Ad3,HG.out.1,Afu,hA.out]
    simp_all⟩
 ·have ai:i=l.length:=Agm;subst ai;rw[Adz]at hA;have hA:=hA.out
  repeat' (first|refine Z1 ?_|(refine Z8 ?_;intro κ hκ)|(refine Z4 ?_;clear hκ κ)|(refine Z2 ?_ ?_<;>intro h ac<;>try exact Xp)|refine Z3 ?_|exact⟨⟩|(apply hκ.out;clear hκ κ))
  first|exact⟨_,rfl,rfl,hK⟩|exact⟨_,rfl,rfl⟩|exact⟨_,rfl,hK⟩|exact hK|exact⟨_,rfl,by rw[hA],hK⟩|exact⟨_,rfl,by rw[hA]⟩
theorem Zp (p:Int)(ids:Nat)(ts:List Tm)(l:List Int)(id:Nat)(hn:ts.length<=1000)(hl:l.length<=100000)(N:St):ACalls Tryz.prog 251 [ag [ic p,sl ids ts.length (Ac ts)],sl id l.length (As l)] N fun r N'=>r=sc (.bool (l.all (Bc ts)))/\Keep N N':=by
 have ak:=Bp l;refine Z9 18 [.tmp 4] Tryz.func251 ?_
 repeat' (first|refine Z1 ?_|(refine Z8 ?_;intro κ hκ)|(refine Z4 ?_;clear hκ κ)|(refine Z2 ?_ ?_<;>intro h ac<;>try exact Xp)|refine Z3 ?_|exact⟨⟩|(apply hκ.out;clear hκ κ))
 refine Ag (fun m s N'=>∃i:Nat,m=l.length-i/\i<=l.length/\s 2=ptr N.nobj 0/\s 7=sl id l.length (As l)/\s 8=ic l.length/\s 9=ic i/\Keep N N'/\N.nobj<N'.nobj/\N'.obj N.nobj=[ic p,sl ids ts.length (Ac ts)]/\Agt ((l.take i).all (Bc ts)=true)) l.length
  ⟨0,Agm,Agm,Ago,Ago,Ago,rfl,Xs,Agq,by rw[Ap],by simp[Agt]⟩ ?_
 rintro m s N' ⟨i,rfl,hi,h2,h7,h8,h9,hK,hno,ob,hA⟩;have aj:=hK.nobj;by_cases ae:i<l.length
 ·have aa:=List.getElem?_eq_getElem ae;obtain⟨r,hd⟩:=C9 aa;have ab:=Afa ae;generalize l[i]=w at hd aa ab;have HG:Agt (l[i]?=some w/\w∈l):=⟨aa,ab⟩;clear aa ab
  repeat' (first|refine Z1 ?_|(refine Z8 ?_;intro κ hκ)|(refine Z4 ?_;clear hκ κ)|(refine Z2 ?_ ?_<;>intro h ac<;>try exact Xp)|(refine Z5 ?_;refine Xi (Jn _ _ _ _ hn _) ?_;rintro _ _ ⟨rfl,ad⟩;(have ah:=ad.nobj;have af:=ad.obj))|refine Z3 ?_|exact⟨⟩|(apply hκ.out;clear hκ κ))
  ·first|exact⟨_,rfl,by rw[Aft.2 ⟨w,HG.out.2,by simp_all⟩],hK.trans ad⟩|exact⟨_,rfl,by rw[Aft.2 ⟨w,HG.out.2,by simp_all⟩]⟩
  ·exact⟨l.length-(i+1),Agm,i+1,rfl,Agm,by simp,hK.trans ad,Agm,by
    rw[Agt,Ad3,HG.out.1,List.all_append,hA.out]
    simp_all⟩
 ·have ai:i=l.length:=Agm;subst ai;rw[Adz]at hA;have hA:=hA.out
  repeat' (first|refine Z1 ?_|(refine Z8 ?_;intro κ hκ)|(refine Z4 ?_;clear hκ κ)|(refine Z2 ?_ ?_<;>intro h ac<;>try exact Xp)|refine Z3 ?_|exact⟨⟩|(apply hκ.out;clear hκ κ))
  first|exact⟨_,rfl,rfl,hK⟩|exact⟨_,rfl,rfl⟩|exact⟨_,rfl,hK⟩|exact hK|exact⟨_,rfl,by rw[hA],hK⟩|exact⟨_,rfl,by rw[hA]⟩
theorem Lh (l:List Int)(id:Nat)(hn:l.length<=100000)(h0:∀n∈l,0<=n/\n<=1000000)(N:St):ACalls Tryz.prog 140 [sl id l.length (As l)] N fun r N'=>r=ic l.sum/\Keep N N':=by
 have af:=Bp l;refine Z9 17 [.tmp 2] Tryz.func140 ?_
 repeat' (first|refine Z1 ?_|(refine Z8 ?_;intro κ hκ)|(refine Z4 ?_;clear hκ κ)|(refine Z2 ?_ ?_<;>intro h ab<;>try exact Xp)|refine Z3 ?_|exact⟨⟩|(apply hκ.out;clear hκ κ))
 refine Ag (fun m s N'=>∃i:Nat,m=l.length-i/\i<=l.length/\s 3=ic (l.take i).sum/\s 6=sl id l.length (As l)/\s 7=ic l.length/\s 8=ic i/\Keep N N'/\0<=(l.take i).sum/\(l.take i).sum<=i*1000000) l.length
  ⟨0,Agm,Agm,rfl,rfl,rfl,rfl,Xs,by simp,by simp⟩ ?_
 rintro m s N' ⟨i,rfl,hi,h3,h6,h7,h8,hK,b0,b1⟩;by_cases ac:i<l.length
 ·have aa:=List.getElem?_eq_getElem ac;obtain⟨r,hd⟩:=C9 aa;have hb:=h0 l[i] (Afa ac);have hs:Agt ((l.take (i+1)).sum=(l.take i).sum+l[i]):=by
   rw[Agt,Ad3,aa];simp only[Afe,List.sum_append,List.sum_cons,List.sum_nil];omega
  generalize l[i]=w at hd aa hb hs;clear aa;generalize (l.take i).sum=acc at h3 b0 b1 hs;have ae:=hK.nobj
  repeat' (first|refine Z1 ?_|(refine Z8 ?_;intro κ hκ)|(refine Z4 ?_;clear hκ κ)|(refine Z2 ?_ ?_<;>intro h ab<;>try exact Xp)|refine Z3 ?_|exact⟨⟩|(apply hκ.out;clear hκ κ))
  exact⟨l.length-(i+1),Agm,i+1,rfl,Agm,by rw[hs.out],by simp,by rw[hs.out];omega,by rw[hs.out];omega⟩
 ·have ad:i=l.length:=Agm;subst ad;rw[Adz]at h3
  repeat' (first|refine Z1 ?_|(refine Z8 ?_;intro κ hκ)|(refine Z4 ?_;clear hκ κ)|(refine Z2 ?_ ?_<;>intro h ab<;>try exact Xp)|refine Z3 ?_|exact⟨⟩|(apply hκ.out;clear hκ κ))
  first|exact⟨_,rfl,rfl,hK⟩|exact⟨_,rfl,rfl⟩|exact⟨_,rfl,hK⟩
def Vk (v n:Int)(t:Tm):Tm:=if t=(true,v)then (false,n)else t
def Bl (v n:Int)(ts:List Tm):List Tm:=ts.map (Vk v n)
theorem iL {v n:Int}{ts:List Tm}(h:Bc ts v=false):Bl v n ts=ts:=by
 unfold Bl
 conv=>rhs;rw[<-Aez ts]
 apply Ae0;intro t ht;unfold Vk;rw[if_neg]
 ·rfl
 ·rintro rfl;simp[Bc]at h;exact h ht
theorem L9 (p:Int)(ids:Nat)(ts:List Tm)(v n:Int)(hn:ts.length<=1000)(N:St):ACalls Tryz.prog 226 [ag [ic p,sl ids ts.length (Ac ts)],ic v,ic n] N fun r N'=>(∃id,r=ag [ic p,sl id (Bl v n ts).length (Ac (Bl v n ts))])/\Keep N N':=by
 have az:=Ch ts;refine Z9 43 [.cell 6 122] Tryz.func226 ?_
 repeat' (first|refine Z1 ?_|(refine Z8 ?_;intro κ hκ)|(refine Z4 ?_;clear hκ κ)|(refine Z2 ?_ ?_<;>intro h ae<;>try exact Xp)|(refine Z6 ?_;intro idn Nn af ah ad aa ac ab)|(refine Z5 ?_;refine Xi (Jn _ _ _ _ hn _) ?_;rintro _ _ ⟨rfl,ak⟩;(have am:=ak.nobj;have ai:=ak.obj;(try simp only[Aa]at am ai)))|refine Z3 ?_|exact⟨⟩|(apply hκ.out;clear hκ κ))
 ·have e:=iL (n:=n) h;rw[e];exact⟨_,rfl,⟨_,rfl⟩,(((Keep.refl _).new _).new _).trans ak|>.put Agm _⟩
 ·rename_i N1;have ax:Keep N N1:=(((Keep.refl _).new _).new _).trans ak;have kn1:=ax.nobj;have au:=ai N.nobj Agm;have ao:=ai (N.nobj+1) Agm;rw[Af Agq,Ap]at au;rw[Bs Agq Agq]at ao;clear ai ak
  repeat' (first|refine Z1 ?_|(refine Z8 ?_;intro κ hκ)|(refine Z4 ?_;clear hκ κ)|(refine Z2 ?_ ?_<;>intro h ae<;>try exact Xp)|(refine Z6 ?_;intro idn Nn af ah ad aa ac ab)|refine Z3 ?_|exact⟨⟩|(apply hκ.out;clear hκ κ))
  refine Ag (fun m s N'=>∃(i i3:Nat) (xs:List AV),m=ts.length-i/\i<=ts.length/\s 1=ic v/\s 2=ic n/\s 6=ptr (N.nobj+1) 0/\s 7=ptr N1.nobj 0/\s 19=sl ids ts.length (Ac ts)/\s 20=ic ts.length/\s 21=ic i/\Keep N N'/\N1.nobj<N'.nobj/\N'.obj (N.nobj+1)=[ic 0,nilS]/\N'.obj N1.nobj=[ic p,sl i3 i xs]/\Own N N' i3 i/\xs.length=i*2/\Agt (xs=Ac (Bl v n (ts.take i)))) ts.length
   ⟨0,1,[],Agm,Agm,by simp[upd,initS],by simp[upd,initS],Ago,Ago,Ago,Ago,rfl,Xs,Ags,?_,?_,Own.nil _ _,by simp,by simp[Agt,Bl,Ac]⟩ ?_
  ·rw[Ai Agm,Af Agm];simp[ao,cst1]
  ·rw[Aj]
  rintro m s N' ⟨i,i3,xs,rfl,hi,h1,h2,h6,h7,a4,a3,a0,hK,hno,oc1,oc2,hO,an,hX⟩;have ay:=hK.nobj;by_cases av:i<ts.length
  ·have aj:=List.getElem?_eq_getElem av;obtain⟨r,hd⟩:=Cm aj;generalize ts[i]=w at hd aj;obtain⟨w1,w2⟩:=w;have HG:Agt (Ac (Bl v n (ts.take (i+1)))=Ac (Bl v n (ts.take i))++H8 (Vk v n (w1,w2))):=by
    rw[Agt,Ad3,aj];simp[Bl,Ac]
   clear aj;by_cases hc:w1=true/\w2=v
   ·obtain⟨rfl,rfl⟩:=hc
    repeat' (first|refine Z1 ?_|(refine Z8 ?_;intro κ hκ)|(refine Z4 ?_;clear hκ κ)|(refine Z2 ?_ ?_<;>intro h ae<;>try exact Xp)|(refine Z6 ?_;intro idn Nn af ah ad aa ac ab)|refine Z3 ?_|exact⟨⟩|(apply hκ.out;clear hκ κ))
    refine Bm (by first|exact Dv) (((hK.new _).put hK.nobj _).put hK.nobj _) (Own.put (Own.put (Own.new hO _) _ _) _ _) (by decide) (by rfl) (an) (by rfl) (by rfl) (by decide) Agm Agm ?_;intro idn Nn af ah ad aa ac ab;simp only[Ab,Aa]at aa;refine Z3 ?_
    repeat' (first|refine Z1 ?_|(refine Z8 ?_;intro κ hκ)|(refine Z4 ?_;clear hκ κ)|(refine Z2 ?_ ?_<;>intro h ae<;>try exact Xp)|(refine Z6 ?_;intro idn Nn af ah ad aa ac ab)|refine Z3 ?_|exact⟨⟩|(apply hκ.out;clear hκ κ))
    exact⟨ts.length-(i+1),Agm,i+1,idn,xs++[sc (.bool false),ic n],rfl,Agm,by simp,ah.put Agm _,Agm,rfl,Own.put af _ _,by simp;omega,by rw[Agt,HG.out,hX.out];simp[Vk,H8]⟩
   ·have ap:(w1&&w2==v)=false:=by
     cases w1 with
     |false=>rfl
     |true=>simp at hc⊢;exact hc
    have hP:Agt (Vk v n (w1,w2)=(w1,w2)):=if_neg (by simpa using hc);clear hc;cases w1 with
    |false=>
     repeat' (first|refine Z1 ?_|(refine Z8 ?_;intro κ hκ)|(refine Z4 ?_;clear hκ κ)|(refine Z2 ?_ ?_<;>intro h ae<;>try exact Xp)|(refine Z6 ?_;intro idn Nn af ah ad aa ac ab)|refine Z3 ?_|exact⟨⟩|(apply hκ.out;clear hκ κ))
     refine Bm (by first|exact Dv) ((hK.new _).put hK.nobj _) (Own.put (Own.new hO _) _ _) (by decide) (by rfl) (an) (by rfl) (by rfl) (by decide) Agm Agm ?_;intro idn Nn af ah ad aa ac ab;simp only[Ab,Aa]at aa;refine Z3 ?_
     repeat' (first|refine Z1 ?_|(refine Z8 ?_;intro κ hκ)|(refine Z4 ?_;clear hκ κ)|(refine Z2 ?_ ?_<;>intro h ae<;>try exact Xp)|(refine Z6 ?_;intro idn Nn af ah ad aa ac ab)|refine Z3 ?_|exact⟨⟩|(apply hκ.out;clear hκ κ))
     exact⟨ts.length-(i+1),Agm,i+1,idn,xs++[_,ic w2],rfl,Agm,by simp,ah.put Agm _,Agm,rfl,Own.put af _ _,by simp;omega,by rw[Agt,HG.out,hX.out,hP.out];rfl⟩
    |true=>
     have ap:(w2==v)=false:=by simpa using ap
     repeat' (first|refine Z1 ?_|(refine Z8 ?_;intro κ hκ)|(refine Z4 ?_;clear hκ κ)|(refine Z2 ?_ ?_<;>intro h ae<;>try exact Xp)|(refine Z6 ?_;intro idn Nn af ah ad aa ac ab)|refine Z3 ?_|exact⟨⟩|(apply hκ.out;clear hκ κ))
     refine Bm (by first|exact Dv) ((hK.new _).put hK.nobj _) (Own.put (Own.new hO _) _ _) (by decide) (by rfl) (an) (by rfl) (by rfl) (by decide) Agm Agm ?_;intro idn Nn af ah ad aa ac ab;simp only[Ab,Aa]at aa;refine Z3 ?_
     repeat' (first|refine Z1 ?_|(refine Z8 ?_;intro κ hκ)|(refine Z4 ?_;clear hκ κ)|(refine Z2 ?_ ?_<;>intro h ae<;>try exact Xp)|(refine Z6 ?_;intro idn Nn af ah ad aa ac ab)|refine Z3 ?_|exact⟨⟩|(apply hκ.out;clear hκ κ))
     exact⟨ts.length-(i+1),Agm,i+1,idn,xs++[_,ic w2],rfl,Agm,by simp,ah.put Agm _,Agm,rfl,Own.put af _ _,by simp;omega,by rw[Agt,HG.out,hX.out,hP.out];rfl⟩
  ·have aw:i=ts.length:=Agm;subst aw;have hX:=hX.out;rw[Adz]at hX;have hpl:(Bl v n ts).length=ts.length:=by simp[Bl]
   repeat' (first|refine Z1 ?_|(refine Z8 ?_;intro κ hκ)|(refine Z4 ?_;clear hκ κ)|(refine Z2 ?_ ?_<;>intro h ae<;>try exact Xp)|(refine Z6 ?_;intro idn Nn af ah ad aa ac ab)|refine Z3 ?_|exact⟨⟩|(apply hκ.out;clear hκ κ))
   exact⟨_,rfl,⟨i3,by first|rfl|rw[hpl,hX]⟩,hK.put Agm _⟩
structure Part where
 a:C4
 tups:List Ca
structure Qry where
 head:C4
 parts:List Part
 nots:List C4
def Ej (l:List Ca):List AV:=l.flatMap As
def T3 (l:List Ca):Prop:=∀t∈l,t.length=3
theorem Io {l:List Ca}(h:T3 l):(Ej l).length=l.length*3:=by
 induction l with
 |nil=>rfl
 |cons a l ih=>
  have h1:=h a (by simp);have h2:=ih (fun t ht=>h t (by simp[ht]));unfold Ej at*
  rw[Ae5,Aee,h2,Bp,h1];simp;omega
theorem Oc (l:List Ca)(t:Ca):Ej (l++[t])=Ej l++As t:=by simp[Ej]
theorem lQ {l:List Ca}{k:Nat}{t:Ca}(h3:T3 l)(h:l[k]?=some t):∃a b c r,t=[a,b,c]/\(Ej l).drop (k*3)=ic a::ic b::ic c::r:=by
 have hE:∀l:List Ca,EL (fun t c=>c=As t/\t∈l) l (Ej l):=by
  intro l;induction l with
  |nil=>rfl
  |cons a l ih=>exact⟨As a,Ej l,⟨rfl,by simp⟩,EL.mono (fun t c h=>⟨h.1,by simp[h.2]⟩) ih,by simp[Ej]⟩
 obtain⟨c,r,⟨rfl,-⟩,e⟩:=EL.get (z:=3) (fun a c h=>by rw[h.1,Bp];exact h3 a h.2) (hE l) h;have ht:=h3 t (Adt h)
 match t,ht with
 |[a,b,c],_=>exact⟨a,b,c,r,rfl,by rw[e];rfl⟩
def Me (a:C4)(c:List AV):Prop:=∃id,c=[ic a.p,sl id a.ts.length (Ac a.ts)]
def Lr (p:Part)(c:List AV):Prop:=∃id idt,c=[ic p.a.p,sl id p.a.ts.length (Ac p.a.ts),sl idt p.tups.length (Ej p.tups)]
theorem Hk (a:C4)(c:List AV)(h:Me a c):c.length=2:=by obtain⟨id,rfl⟩:=h;rfl
theorem D3 (a:Part)(c:List AV)(h:Lr a c):c.length=3:=by obtain⟨id,idt,rfl⟩:=h;rfl
theorem It {l:List C4}{cs:List AV}{i:Nat}{a:C4}(h:EL Me l cs)(hi:l[i]?=some a):∃id r,cs.drop (i*2)=ic a.p::sl id a.ts.length (Ac a.ts)::r:=by
 obtain⟨c,r,⟨id,rfl⟩,e⟩:=EL.get Hk h hi;exact⟨id,r,e⟩
theorem Ew {l:List Part}{cs:List AV}{i:Nat}{p:Part}(h:EL Lr l cs)(hi:l[i]?=some p):∃id idt r,cs.drop (i*3)=ic p.a.p::sl id p.a.ts.length (Ac p.a.ts)::sl idt p.tups.length (Ej p.tups)::r:=by
 obtain⟨c,r,⟨id,idt,rfl⟩,e⟩:=EL.get D3 h hi;exact⟨id,idt,r,e⟩
def EQ (q:Qry)(c:List AV):Prop:=∃ih ip inn pc nc,c=[ic q.head.p,sl ih q.head.ts.length (Ac q.head.ts),sl ip q.parts.length pc,sl inn q.nots.length nc]/\EL Lr q.parts pc/\EL Me q.nots nc
structure Nx (q:Qry):Prop where
 hd:q.head.ts.length<=3
 pl:q.parts.length<=64
 nl:q.nots.length<=64
 pa:∀p∈q.parts,p.a.ts.length<=3
 pt:∀p∈q.parts,p.tups.length<=5000
 p3:∀p∈q.parts,T3 p.tups
 na:∀a∈q.nots,a.ts.length<=3
def Cn (l:List Part):Nat:=(l.map fun p=>p.tups.length).sum
theorem gX (l:List Part)(p:Part):Cn (l++[p])=Cn l+p.tups.length:=by simp[Cn,List.sum_append]
theorem Uf (q:Qry)(c:List AV)(hc:EQ q c)(hq:Nx q)(N:St):ACalls Tryz.prog 252 [ag c] N fun r N'=>r=ic (Cn q.parts:Nat)/\Keep N N':=by
 obtain⟨ih,ip,inn,pc,nc,rfl,hP,hN⟩:=hc;have hpl:=EL.length D3 hP;have hl:=hq.pl;refine Z9 20 [.tmp 2] Tryz.func252 ?_
 repeat' (first|refine Z1 ?_|(refine Z8 ?_;intro κ hκ)|(refine Z4 ?_;clear hκ κ)|(refine Z2 ?_ ?_<;>intro h ab<;>try exact Xp)|refine Z3 ?_|exact⟨⟩|(apply hκ.out;clear hκ κ))
 refine Ag (fun m s N'=>∃i a:Nat,m=q.parts.length-i/\i<=q.parts.length/\s 3=ic a/\s 7=sl ip q.parts.length pc/\s 8=ic q.parts.length/\s 9=ic i/\Keep N N'/\a<=i*5000/\Agt (a=Cn (q.parts.take i))) q.parts.length
  ⟨0,0,Agm,Agm,rfl,rfl,rfl,rfl,Xs,by simp,by simp[Agt,Cn]⟩ ?_
 rintro m s N' ⟨i,a,rfl,hi,h3,h7,h8,h9,hK,b1,hA⟩;have ae:=hK.nobj;by_cases ac:i<q.parts.length
 ·have aa:=List.getElem?_eq_getElem ac;obtain⟨id,idt,r,hd⟩:=Ew hP aa;have hb:=hq.pt _ (Afa ac);generalize q.parts[i]=w at hd aa hb;have HG:Agt (Cn (q.parts.take (i+1))=Cn (q.parts.take i)+w.tups.length):=by
   rw[Agt,Ad3,aa,Afe,gX]
  clear aa
  repeat' (first|refine Z1 ?_|(refine Z8 ?_;intro κ hκ)|(refine Z4 ?_;clear hκ κ)|(refine Z2 ?_ ?_<;>intro h ab<;>try exact Xp)|refine Z3 ?_|exact⟨⟩|(apply hκ.out;clear hκ κ))
  exact⟨q.parts.length-(i+1),Agm,i+1,a+w.tups.length,rfl,Agm,by simp,by simp,Xs,Agm,by rw[Agt,HG.out,hA.out]⟩
 ·have ad:i=q.parts.length:=Agm;subst ad;have hA:=hA.out;rw[Adz]at hA;subst hA
  repeat' (first|refine Z1 ?_|(refine Z8 ?_;intro κ hκ)|(refine Z4 ?_;clear hκ κ)|(refine Z2 ?_ ?_<;>intro h ab<;>try exact Xp)|refine Z3 ?_|exact⟨⟩|(apply hκ.out;clear hκ κ))
  first|exact⟨_,rfl,rfl,hK⟩|exact⟨_,rfl,rfl⟩|exact⟨_,rfl,hK⟩|exact hK
def C1 (l:List C4)(v:Int):Nat:=l.countP fun a=>Bc a.ts v
theorem Ki (q:Qry)(c:List AV)(v:Int)(hc:EQ q c)(hq:Nx q)(N:St):ACalls Tryz.prog 254 [ag c,ic v] N fun r N'=>r=ic (C1 (q.parts.map (·.a)) v:Nat)/\Keep N N':=by
 obtain⟨ih,ip,inn,pc,nc,rfl,hP,hN⟩:=hc;have hpl:=EL.length D3 hP;have hl:=hq.pl;refine Z9 23 [.tmp 4] Tryz.func254 ?_
 repeat' (first|refine Z1 ?_|(refine Z8 ?_;intro κ hκ)|(refine Z4 ?_;clear hκ κ)|(refine Z2 ?_ ?_<;>intro h ac<;>try exact Xp)|refine Z3 ?_|exact⟨⟩|(apply hκ.out;clear hκ κ))
 refine Ag (fun m s N'=>∃i a:Nat,m=q.parts.length-i/\i<=q.parts.length/\s 1=ic v/\s 5=ic a/\s 9=sl ip q.parts.length pc/\s 10=ic q.parts.length/\s 11=ic i/\Keep N N'/\a<=i/\Agt (a=C1 ((q.parts.take i).map (·.a)) v)) q.parts.length
  ⟨0,0,Agm,Agm,rfl,rfl,rfl,rfl,rfl,Xs,by simp,by simp[Agt,C1]⟩ ?_
 rintro m s N' ⟨i,a,rfl,hi,h1,h5,h9,am,ak,hK,b1,hA⟩;have ai:=hK.nobj;by_cases ad:i<q.parts.length
 ·have aa:=List.getElem?_eq_getElem ad;obtain⟨id,idt,r,hd⟩:=Ew hP aa;have hb:=hq.pa _ (Afa ad);generalize q.parts[i]=w at hd aa hb;have HG:Agt (C1 ((q.parts.take (i+1)).map (·.a)) v=C1 ((q.parts.take i).map (·.a)) v+if Bc w.a.ts v then 1 else 0):=by
   rw[Agt,Ad3,aa,Afe,Ad5,C1,List.countP_append];simp[C1,List.countP_cons]
  clear aa;have ab:w.a.ts.length<=1000:=Agm
  repeat' (first|refine Z1 ?_|(refine Z8 ?_;intro κ hκ)|(refine Z4 ?_;clear hκ κ)|(refine Z2 ?_ ?_<;>intro h ac<;>try exact Xp)|(refine Z5 ?_;refine Xi (Jn _ _ _ _ ab _) ?_;rintro _ _ ⟨rfl,ae⟩;(have af:=ae.nobj;have aj:=((hK.new _).put hK.nobj _).trans ae))|refine Z3 ?_|exact⟨⟩|(apply hκ.out;clear hκ κ))
  ·exact⟨q.parts.length-(i+1),Agm,i+1,a+1,rfl,Agm,by simp,by simp,Agm,by rw[Agt,HG.out,hA.out,if_pos (by assumption)]⟩
  ·exact⟨q.parts.length-(i+1),Agm,i+1,a,rfl,Agm,by simp,by simp,Agm,by rw[Agt,HG.out,hA.out,if_neg (by simp_all),Adu]⟩
 ·have ah:i=q.parts.length:=Agm;subst ah;have hA:=hA.out;rw[Adz]at hA;subst hA
  repeat' (first|refine Z1 ?_|(refine Z8 ?_;intro κ hκ)|(refine Z4 ?_;clear hκ κ)|(refine Z2 ?_ ?_<;>intro h ac<;>try exact Xp)|refine Z3 ?_|exact⟨⟩|(apply hκ.out;clear hκ κ))
  first|exact⟨_,rfl,rfl,hK⟩|exact⟨_,rfl,rfl⟩|exact⟨_,rfl,hK⟩|exact hK
def atomsQ (q:Qry):List C4:=q.head::(q.parts.map (·.a)++q.nots)
theorem Ir (q:Qry)(c:List AV)(hc:EQ q c)(hq:Nx q)(N:St):ACalls Tryz.prog 253 [ag c] N fun r N'=>∃id cs,r=sl id (atomsQ q).length cs/\EL Me (atomsQ q) cs/\Keep N N':=by
 obtain⟨ih,ip,inn,pc,nc,rfl,hP,hN⟩:=hc;have hpl:=EL.length D3 hP;have ax:=EL.length Hk hN;have hl:=hq.pl;have ay:=hq.nl;refine Z9 37 [.tmp 2] Tryz.func253 ?_
 repeat' (first|refine Z1 ?_|(refine Z8 ?_;intro κ hκ)|(refine Z4 ?_;clear hκ κ)|(refine Z2 ?_ ?_<;>intro h af<;>try exact Xp)|(refine Z6 ?_;intro idn Nn ah ai ad aa ae ab)|refine Z3 ?_|exact⟨⟩|(apply hκ.out;clear hκ κ))
 have ao:Keep N (N.new [ic q.head.p,sl ih q.head.ts.length (Ac q.head.ts),sl ip q.parts.length pc,sl inn q.nots.length nc]):=(Keep.refl _).new _
 refine Ag (fun m s N'=>∃(k i3:Nat) (xs:List AV),m=q.parts.length-k/\k<=q.parts.length/\s 1=ptr N.nobj 0/\s 3=sl i3 (1+k) xs/\s 12=sl ip q.parts.length pc/\s 13=ic q.parts.length/\s 14=ic k/\Keep N N'/\N.nobj<N'.nobj/\N'.obj N.nobj=[ic q.head.p,sl ih q.head.ts.length (Ac q.head.ts),sl ip q.parts.length pc,sl inn q.nots.length nc]/\Own N N' i3 (1+k)/\xs.length=(1+k)*2/\Agt (EL Me (q.head::(q.parts.take k).map (·.a)) xs)) q.parts.length
  ⟨0,_,_,Agm,Agm,Ago,rfl,rfl,rfl,rfl,ao.lay 1,by simp only[Ah,Aa];omega,by rw[Av,Ap],Own.made ao (by decide),by simp,EL.single ⟨ih,rfl⟩⟩ ?_
 rintro m s N' ⟨k,i3,xs,rfl,hk,h1,h3,aw,av,au,hK,hno,ob,hO,aj,hE⟩;clear ao;have ap:=hK.nobj;by_cases ak:k<q.parts.length
 ·have ac:=List.getElem?_eq_getElem ak;obtain⟨id,idt,r,hd⟩:=Ew hP ac;generalize q.parts[k]=w at hd ac;have HG:Agt (q.parts[k]?=some w):=ac;clear ac
  repeat' (first|refine Z1 ?_|(refine Z8 ?_;intro κ hκ)|(refine Z4 ?_;clear hκ κ)|(refine Z2 ?_ ?_<;>intro h af<;>try exact Xp)|(refine Z6 ?_;intro idn Nn ah ai ad aa ae ab)|refine Z3 ?_|exact⟨⟩|(apply hκ.out;clear hκ κ))
  refine Bm (by first|exact E5) ((hK.new _).put hK.nobj _) (Own.put (Own.new hO _) _ _) (by decide) (by rfl) (aj) (by rfl) (by rfl) (by decide) Agm Agm ?_;intro idn Nn ah ai ad aa ae ab;simp only[Ab,Aa]at aa;have eob:Nn.obj N.nobj=N'.obj N.nobj:=by rw[ad,Ai Agm,Af Agm]
  refine Z3 ?_
  repeat' (first|refine Z1 ?_|(refine Z8 ?_;intro κ hκ)|(refine Z4 ?_;clear hκ κ)|(refine Z2 ?_ ?_<;>intro h af<;>try exact Xp)|(refine Z6 ?_;intro idn Nn ah ai ad aa ae ab)|refine Z3 ?_|exact⟨⟩|(apply hκ.out;clear hκ κ))
  refine⟨q.parts.length-(k+1),Agm,k+1,idn,xs++[ic w.a.p,sl id w.a.ts.length (Ac w.a.ts)],rfl,Agm,by simp[Ad1],by simp,Agm,by simpa[Ad1]using ah,by simp;omega,?_⟩;rw[Agt,Ad3,HG.out];have:=EL.append hE.out (EL.single (E:=Me) (a:=w.a) ⟨id,rfl⟩);simpa using this
 ·have an:k=q.parts.length:=Agm;subst an;rw[Adz]at hE;generalize hM:q.parts.length=M at*
  have HM:Agt _:=hM;clear hM ak hk
  repeat' (first|refine Z1 ?_|(refine Z8 ?_;intro κ hκ)|(refine Z4 ?_;clear hκ κ)|(refine Z2 ?_ ?_<;>intro h af<;>try exact Xp)|(refine Z6 ?_;intro idn Nn ah ai ad aa ae ab)|refine Z3 ?_|exact⟨⟩|(apply hκ.out;clear hκ κ))
  refine Ag (fun m s N'=>∃(k i3:Nat) (xs:List AV),m=q.nots.length-k/\k<=q.nots.length/\s 3=sl i3 (1+M+k) xs/\s 25=sl inn q.nots.length nc/\s 26=ic q.nots.length/\s 27=ic k/\Keep N N'/\Own N N' i3 (1+M+k)/\xs.length=(1+M+k)*2/\Agt (EL Me (q.head::(q.parts.map (·.a)++q.nots.take k)) xs)) q.nots.length
   ⟨0,i3,xs,Agm,Agm,Agn,Agn,Agn,Ago,hK,by simpa using hO,by simpa using aj,by simpa using hE⟩ ?_
  clear hE aj hO h3 h1 aw av au hK hno ob ap;rintro m s N' ⟨k,i3,xs,rfl,hk,h3,a3,a0,az,hK,hO,aj,hE⟩;have ap:=hK.nobj;by_cases ak:k<q.nots.length
  ·have ac:=List.getElem?_eq_getElem ak;obtain⟨id,r,hd⟩:=It hN ac;generalize q.nots[k]=w at hd ac;have HG:Agt (q.nots[k]?=some w):=ac;clear ac
   repeat' (first|refine Z1 ?_|(refine Z8 ?_;intro κ hκ)|(refine Z4 ?_;clear hκ κ)|(refine Z2 ?_ ?_<;>intro h af<;>try exact Xp)|(refine Z6 ?_;intro idn Nn ah ai ad aa ae ab)|refine Z3 ?_|exact⟨⟩|(apply hκ.out;clear hκ κ))
   refine Bm (by first|exact E5) ((hK.new _).put hK.nobj _) (Own.put (Own.new hO _) _ _) (by decide) (by rfl) (aj) (by rfl) (by rfl) (by decide) Agm Agm ?_;intro idn Nn ah ai ad aa ae ab;refine Z3 ?_
   repeat' (first|refine Z1 ?_|(refine Z8 ?_;intro κ hκ)|(refine Z4 ?_;clear hκ κ)|(refine Z2 ?_ ?_<;>intro h af<;>try exact Xp)|(refine Z6 ?_;intro idn Nn ah ai ad aa ae ab)|refine Z3 ?_|exact⟨⟩|(apply hκ.out;clear hκ κ))
   refine⟨q.nots.length-(k+1),Agm,k+1,idn,xs++[ic w.p,sl id w.ts.length (Ac w.ts)],rfl,Agm,by simp[Ad1],by simp,by simpa[Ad1]using ah,by simp;omega,?_⟩;rw[Agt,Ad3,HG.out];have:=EL.append hE.out (EL.single (E:=Me) (a:=w) ⟨id,rfl⟩);simpa using this
  ·have an:k=q.nots.length:=Agm;subst an;rw[Adz]at hE;have am:(atomsQ q).length=1+M+q.nots.length:=by have:=HM.out;simp[atomsQ];omega
   repeat' (first|refine Z1 ?_|(refine Z8 ?_;intro κ hκ)|(refine Z4 ?_;clear hκ κ)|(refine Z2 ?_ ?_<;>intro h af<;>try exact Xp)|(refine Z6 ?_;intro idn Nn ah ai ad aa ae ab)|refine Z3 ?_|exact⟨⟩|(apply hκ.out;clear hκ κ))
   exact⟨_,rfl,i3,xs,by first|rfl|rw[am],by simpa[atomsQ]using hE.out⟩
end Go.Proofs.YtmoeoppbmhfbpabGreatDoorG
