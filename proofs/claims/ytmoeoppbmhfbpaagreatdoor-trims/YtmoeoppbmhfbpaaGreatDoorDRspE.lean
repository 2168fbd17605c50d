import Derived.Test.YtmoeoppbmhfbpaaGreatDoorDSpaE
import Derived.Test.YtmoeoppbmhfbpaaGreatDoorDFacts
import Derived.Test.YtmoeoppbmhfbpaaGreatDoorDAbsWp
set_option maxHeartbeats 16000000
set_option maxRecDepth 100000
set_option linter.all false
namespace Go.Proofs.YtmoeoppbmhfbpaaGreatDoorD
open Go.Abs
def Iu (a b:RAtom):Prop:=a.nt=b.nt/\a.pred=b.pred/\a.terms=b.terms
theorem Y0 (a b:RAtom)(ca cb:List AV)(ha:B6 a ca)(hb:B6 b cb)(hn:a.terms.length<=1000)(N:St):ACalls Tryz.prog 186 [ag ca,ag cb] N fun r N'=>∃bo,r=sc (.bool bo)/\(bo=true↔Iu a b)/\Keep N N':=by
 obtain⟨ia,rfl⟩:=ha;obtain⟨ib,rfl⟩:=hb;by_cases hnt:a.nt=b.nt
 ·have ak:(a.nt==b.nt)=true:=by simp[hnt]
  by_cases ab:a.pred=b.pred
  ·have aj:(a.pred==b.pred)=true:=by simp[ab]
   by_cases ad:a.terms.length=b.terms.length
   ·have am:((a.terms.length:Int) !=(b.terms.length:Int))=false:=by simp[ad]
    have HS:Agt (Iu a b↔a.terms=b.terms):=⟨fun h=>h.2.2,fun h=>⟨hnt,ab,h⟩⟩;have ah:Agt _:=ad;generalize Iu a b=SP at HS;clear hnt ab ad;refine Z9 45 [.tmp 4] Tryz.func186 ?_
    repeat' first|refine Z1 ?_|refine Z8 fun ya J=>?_|refine Z4 ?_;clear J ya|refine Z2 ?_ ?_<;>intro h aa<;>try exact Xp|refine Z3 ?_|exact Zt|apply J.out;clear J ya
    refine Ad (fun m s N'=>∃k:Nat,m=a.terms.length-k/\k<=a.terms.length/\s 2=ptr N.nobj 0/\s 3=ptr (N.nobj+1) 0/\s 5=sc (.int .i64 k)/\Keep N N'/\N.nobj+1<N'.nobj/\N'.obj N.nobj=[sc (.bool a.nt),str a.pred,sl ia a.terms.length (a.terms.map str)]/\N'.obj (N.nobj+1)=[sc (.bool b.nt),str b.pred,sl ib b.terms.length (b.terms.map str)]/\Agt (∀j,j<k->a.terms[j]?=b.terms[j]?)) a.terms.length
     ⟨0,Agm,Agm,Ago,Ago,rfl,Xs,Agq,?_,?_,fun j hj=>Agm⟩ ?_
    ·rw[Ah Agq,Al]
    ·rw[Ca Agq Agq]
    rintro m s N' ⟨k,rfl,hk,h2,h3,h5,hK,av,au,ap,hE⟩;by_cases af:k<a.terms.length
    ·have ae:k<b.terms.length:=by have:=ah.out;omega
     have g1:=A2 af;have g2:=A2 ae;have HX:Agt (a.terms[k]?=some a.terms[k]/\b.terms[k]?=some b.terms[k]):=⟨Adn af,Adn ae⟩;generalize a.terms[k]=t at g1 HX;generalize b.terms[k]=u at g2 HX;by_cases ac:t=u
     ·have ai:(t==u)=true:=by simp[ac]
      have ao:Agt (∀j,j<k+1->a.terms[j]?=b.terms[j]?):=fun j hj=>by
       by_cases e:j=k
       ·subst e;rw[HX.out.1,HX.out.2,ac]
       ·exact hE.out j Agm
      clear ac
      repeat' first|refine Z1 ?_|refine Z8 fun ya J=>?_|refine Z4 ?_;clear J ya|refine Z2 ?_ ?_<;>intro h aa<;>try exact Xp|refine Z3 ?_|exact Zt|apply J.out;clear J ya
      refine Aw Ag (fun _=>True) [] [0,1,2,3,4,5,6,7,8,9,10] [] Agp (fun _ _ _ h=>h) ?_;intro ya J
      repeat' first|refine Z1 ?_|refine Z8 fun ya J=>?_|refine Z4 ?_;clear J ya|refine Z2 ?_ ?_<;>intro h aa<;>try exact Xp|refine Z3 ?_|exact Zt|apply J.out;clear J ya
      exact⟨a.terms.length-(k+1),Agm,k+1,rfl,Agm,by simp,ao⟩
     ·have ai:(t==u)=false:=by simpa using ac
      have HF:Agt (¬SP):=fun h=>ac (by
       have h2:=HS.out.1 h;have h3:=HX.out.1;rw[h2,HX.out.2]at h3
       exact (Afm h3).symm)
      clear ac
      repeat' first|refine Z1 ?_|refine Z8 fun ya J=>?_|refine Z4 ?_;clear J ya|refine Z2 ?_ ?_<;>intro h aa<;>try exact Xp|refine Z3 ?_|exact Zt|apply J.out;clear J ya
      refine Aw Ag (fun _=>True) [] [0,1,2,3,4,5,6,7,8,9,10] [] Agp (fun _ _ _ h=>h) ?_;intro ya J
      repeat' first|refine Z1 ?_|refine Z8 fun ya J=>?_|refine Z4 ?_;clear J ya|refine Z2 ?_ ?_<;>intro h aa<;>try exact Xp|refine Z3 ?_|exact Zt|apply J.out;clear J ya
      exact⟨_,rfl,false,rfl,⟨(fun h=>by cases h),fun h=>absurd h HF.out⟩⟩
    ·have an:k=a.terms.length:=Agm;subst an
     have HT:Agt SP:=HS.out.2 (by
      apply Ad5;intro j;by_cases hj:j<a.terms.length
      ·exact hE.out j hj
      ·rw[Ady Agm,Ady (by have:=ah.out;omega)])
     repeat' first|refine Z1 ?_|refine Z8 fun ya J=>?_|refine Z4 ?_;clear J ya|refine Z2 ?_ ?_<;>intro h aa<;>try exact Xp|refine Z3 ?_|exact Zt|apply J.out;clear J ya
     exact⟨_,rfl,true,rfl,⟨fun _=>HT.out,fun _=>rfl⟩⟩
   ·have am:((a.terms.length:Int) !=(b.terms.length:Int))=true:=by simpa using (show¬(a.terms.length:Int)=(b.terms.length:Int)by omega)
    have HF:Agt (¬Iu a b):=fun h=>ad (by rw[h.2.2]);generalize Iu a b=SP at HF;clear hnt ab ad;refine Z9 45 [.tmp 4] Tryz.func186 ?_
    repeat' first|refine Z1 ?_|refine Z8 fun ya J=>?_|refine Z4 ?_;clear J ya|refine Z2 ?_ ?_<;>intro h aa<;>try exact Xp|refine Z3 ?_|exact Zt|apply J.out;clear J ya
    exact⟨_,rfl,false,rfl,⟨(fun h=>by cases h),fun h=>absurd h HF.out⟩,Xs⟩
  ·have aj:(a.pred==b.pred)=false:=by simpa using ab
   have HF:Agt (¬Iu a b):=fun h=>ab h.2.1;generalize Iu a b=SP at HF;clear hnt ab;refine Z9 45 [.tmp 4] Tryz.func186 ?_
   repeat' first|refine Z1 ?_|refine Z8 fun ya J=>?_|refine Z4 ?_;clear J ya|refine Z2 ?_ ?_<;>intro h aa<;>try exact Xp|refine Z3 ?_|exact Zt|apply J.out;clear J ya
   exact⟨_,rfl,false,rfl,⟨(fun h=>by cases h),fun h=>absurd h HF.out⟩,Xs⟩
 ·have ak:(a.nt==b.nt)=false:=by simpa using hnt
  have HF:Agt (¬Iu a b):=fun h=>hnt h.1;generalize Iu a b=SP at HF;clear hnt;refine Z9 45 [.tmp 4] Tryz.func186 ?_
  repeat' first|refine Z1 ?_|refine Z8 fun ya J=>?_|refine Z4 ?_;clear J ya|refine Z2 ?_ ?_<;>intro h aa<;>try exact Xp|refine Z3 ?_|exact Zt|apply J.out;clear J ya
  exact⟨_,rfl,false,rfl,⟨(fun h=>by cases h),fun h=>absurd h HF.out⟩,Xs⟩
theorem dD (ls:List RAtom)(cs:List AV)(id:Nat)(a:RAtom)(ca:List AV)(hE:EL B6 ls cs)(ha:B6 a ca)(hl:ls.length<=1000)(hn:∀b∈ls,b.terms.length<=1000)(hm:∃b∈ls,Iu b a)(N:St):ACalls Tryz.prog 147 [sl id ls.length cs,ag ca] N fun r N'=>r=sc (.bool true)/\Keep N N':=by
 obtain⟨ia,rfl⟩:=ha;have ap:=EL.length Bc hE;have aj:=fun b ib hb N=>Y0 b a [sc (.bool b.nt),str b.pred,sl ib b.terms.length (b.terms.map str)] _ ⟨ib,rfl⟩ ⟨ia,rfl⟩ (hn b hb) N;have HM:Agt _:=hm;clear hm;refine Z9 18 [.tmp 4] Tryz.func147 ?_
 refine zz ?_
 refine Ad (fun m s N'=>∃i:Nat,m=ls.length-i/\i<=ls.length/\s 0=sl id ls.length cs/\s 3=ptr N.nobj 0/\s 5=sc (.int .i64 i)/\Keep N N'/\N.nobj<N'.nobj/\N'.obj N.nobj=[sc (.bool a.nt),str a.pred,sl ia a.terms.length (a.terms.map str)]/\Agt (∀j,j<i->∀b,ls[j]?=some b->¬Iu b a)) ls.length
  ⟨0,Agm,Agm,rfl,rfl,rfl,Xs,by simp[Aa],Al,fun j hj=>Agm⟩ ?_
 rintro m s N' ⟨i,rfl,hi,h0,h3,h5,hK,ao,an,hN⟩;have am:=hK.nobj;by_cases ae:i<ls.length
 ·have aa:=Adn ae;obtain⟨ib,r,hd⟩:=Cm hE aa;have hS:=fun N=>aj ls[i] ib (Aes ae) N;generalize ls[i]=b at hd aa hS;have HG:Agt _:=aa;clear aa;generalize ad:Iu b a=SP at hS;have ak:Agt _:=ad;clear ad
  repeat' first|refine Z1 ?_|refine Z8 fun ya J=>?_|refine Z4 ?_;clear J ya|refine Z2 ?_ ?_<;>intro h ac<;>try exact Xp|refine Z3 ?_|exact Zt|apply J.out;clear J ya
  refine Aw Ag (fun _=>True) [5] [0,1,2,3,4] [5] Agp (fun _ _ _ h=>h) ?_;intro ya J
  repeat' first|refine Z1 ?_|refine Z8 fun ya J=>?_|refine Z4 ?_;clear J ya|refine Z2 ?_ ?_<;>intro h ac<;>try exact Xp|refine Z5 ?_;refine Xi (hS _) ?_;rintro _ _ ⟨bo,rfl,ai,ab⟩;(have af:=ab.obj;have ah:=ab.nobj)|refine Z3 ?_|exact Zt|apply J.out;clear J ya
  ·exact⟨_,rfl,rfl,hK.trans ab⟩
  ·refine⟨ls.length-(i+1),Agm,i+1,rfl,Agm,by simp,hK.trans ab,Agm,fun j hj c hc=>?_⟩;by_cases e:j=i
   ·subst e;rw[HG.out]at hc;cases hc;rw[ak.out];intro hs;have h1:=ai.2 hs;have h2:bo=false:=by assumption
    rw[h2]at h1;cases h1
   ·exact hN.out j Agm c hc
 ·exfalso;obtain⟨b,hb,hs⟩:=HM.out;obtain⟨j,hj⟩:=Afc hb;exact hN.out j (by have:=(Adm.1 hj).1;omega) b hj hs
abbrev Tm:=Bool×Int
structure Dy where
 p:Int
 ts:List Tm
abbrev Cc:=List Int
abbrev ic (n:Int):AV:=sc (.int .i64 n)
def Vj (t:Tm):List AV:=[sc (.bool t.1),ic t.2]
def Af (ts:List Tm):List AV:=ts.flatMap Vj
theorem Eb (ts:List Tm):(Af ts).length=ts.length*2:=by
 induction ts with
 |nil=>rfl
 |cons a l ih=>unfold Af at*;rw[Ae0,Aeb,ih];simp[Vj];omega
theorem Ec {ts:List Tm}{k:Nat}{w:Tm}(h:ts[k]?=some w):∃r,(Af ts).drop (k*2)=sc (.bool w.1)::ic w.2::r:=by
 have hE:∀ts:List Tm,EL (fun w c=>c=Vj w) ts (Af ts):=by
  intro ts;induction ts with
  |nil=>rfl
  |cons a l ih=>exact⟨Vj a,Af l,rfl,ih,by simp[Af]⟩
 obtain⟨c,r,rfl,e⟩:=EL.get (z:=2) (fun a c h=>by rw[h];rfl) (hE ts) h;exact⟨r,e⟩
def Ig (ts:List Tm)(v:Int):Int:=if (true,v)∈ts then (ts.idxOf (true,v):Nat)else -1
theorem Vg {α:Type}[BEq α][LawfulBEq α]{l:List α}{i:Nat}{x:α}(h:l[i]?=some x)(hn:x∉l.take i):l.idxOf x=i:=by
 have hi:=(Adm.1 h).1;have:l=l.take i++l.drop i:=(Afq i l).symm;rw[this,List.idxOf_append,if_neg hn,Aec,Aeh Agm,Aeo hi];have:=(Adm.1 h).2;simp[this]
theorem zJ {ts:List Tm}{v:Int}{i:Nat}(h:ts[i]?=some (true,v))(hn:(true,v)∉ts.take i):Ig ts v=i:=by
 unfold Ig;rw[if_pos (Adp h),Vg h hn]
theorem Jp {ts:List Tm}{v:Int}(hn:(true,v)∉ts):Ig ts v= -1:=if_neg hn
theorem Uu {α:Type}{l:List α}{i:Nat}{x y:α}(h:x∉l.take i)(hi:l[i]?=some y)(hy:y≠x):x∉l.take (i+1):=by
 rw[Ad0,hi];simp only[Aez,Aet,Afk,not_or];exact⟨h,fun e=>hy e.symm⟩
theorem Fz (p:Int)(ids:Nat)(ts:List Tm)(v:Int)(hn:ts.length<=1000)(N:St):ACalls Tryz.prog 210 [ag [ic p,sl ids ts.length (Af ts)],ic v] N fun r N'=>r=ic (Ig ts v)/\Keep N N':=by
 have ah:=Eb ts;refine Z9 25 [.tmp 4] Tryz.func210 ?_
 refine zz ?_
 refine Ad (fun m s N'=>∃i:Nat,m=ts.length-i/\i<=ts.length/\s 1=ic v/\s 8=sl ids ts.length (Af ts)/\s 9=ic ts.length/\s 10=ic i/\Keep N N'/\Agt ((true,v)∉ts.take i)) ts.length
  ⟨0,Agm,Agm,rfl,rfl,rfl,rfl,Xs,by simp[Agt]⟩ ?_
 rintro m s N' ⟨i,rfl,hi,h1,h8,h9,ai,hK,ab⟩;by_cases ad:i<ts.length
 ·have aa:=Adn ad;obtain⟨r,hd⟩:=Ec aa;generalize ts[i]=w at hd aa;obtain⟨w1,w2⟩:=w;have HG:Agt (ts[i]?=some (w1,w2)):=aa;clear aa;have af:=hK.nobj
  repeat' first|refine Z1 ?_|refine Z8 fun ya J=>?_|refine Z4 ?_;clear J ya|refine Z2 ?_ ?_<;>intro h ac<;>try exact Xp|refine Z3 ?_|exact Zt|apply J.out;clear J ya
  ·have e:w1=true/\w2=v:=by simp_all
   obtain⟨rfl,rfl⟩:=e;exact⟨_,rfl,by rw[zJ HG.out ab.out],Xs⟩
  all_goals exact⟨ts.length-(i+1),Agm,i+1,rfl,Agm,by simp,Xs,Uu ab.out HG.out (by simp_all)⟩
 ·have ae:i=ts.length:=Agm;subst ae;rw[Adu]at ab
  repeat' first|refine Z1 ?_|refine Z8 fun ya J=>?_|refine Z4 ?_;clear J ya|refine Z2 ?_ ?_<;>intro h ac<;>try exact Xp|refine Z3 ?_|exact Zt|apply J.out;clear J ya
  first|exact⟨_,rfl,by rw[Jp ab.out],hK⟩|exact⟨_,rfl,by rw[Jp ab.out]⟩
def A9 (ts:List Tm)(v:Int):Bool:=decide ((true,v)∈ts)
theorem zK (ts:List Tm)(v:Int):(Ig ts v != -1)=A9 ts v:=by
 unfold Ig A9;split<;>rename_i h<;>simp[h]
theorem J1 (p:Int)(ids:Nat)(ts:List Tm)(v:Int)(hn:ts.length<=1000)(N:St):ACalls Tryz.prog 199 [ag [ic p,sl ids ts.length (Af ts)],ic v] N fun r N'=>r=sc (.bool (A9 ts v))/\Keep N N':=by
 have hp:=zK ts v;refine Z9 9 [.tmp 4] Tryz.func199 ?_
 repeat' first|refine Z1 ?_|refine Z8 fun ya J=>?_|refine Z4 ?_;clear J ya|refine Z5 ?_;refine Xi (Fz _ _ _ _ hn _) ?_;rintro _ _ ⟨rfl,hK⟩|refine Z3 ?_|exact Zt|apply J.out;clear J ya
 exact⟨_,rfl,rfl,Xs⟩
def Io (ts:List Tm):Bool:=ts.all fun t=>!t.1
theorem Nf (p:Int)(ids:Nat)(ts:List Tm)(hn:ts.length<=1000)(N:St):ACalls Tryz.prog 125 [ag [ic p,sl ids ts.length (Af ts)]] N fun r N'=>r=sc (.bool (Io ts))/\Keep N N':=by
 have ai:=Eb ts;refine Z9 15 [.tmp 2] Tryz.func125 ?_
 repeat' first|refine Z1 ?_|refine Z8 fun ya J=>?_|refine Z4 ?_;clear J ya|refine Z2 ?_ ?_<;>intro h ad<;>try exact Xp|refine Z3 ?_|exact Zt|apply J.out;clear J ya
 refine Ad (fun m s N'=>∃i:Nat,m=ts.length-i/\i<=ts.length/\s 6=sl ids ts.length (Af ts)/\s 7=ic ts.length/\s 8=ic i/\Keep N N'/\Agt (Io (ts.take i)=true)) ts.length
  ⟨0,Agm,Agm,rfl,rfl,rfl,Xs,by simp[Agt,Io]⟩ ?_
 rintro m s N' ⟨i,rfl,hi,h6,h7,h8,hK,ab⟩;by_cases ae:i<ts.length
 ·have aa:=Adn ae;obtain⟨r,hd⟩:=Ec aa;have ac:=Aes ae;generalize ts[i]=w at hd aa ac;obtain⟨w1,w2⟩:=w;have HG:Agt (ts[i]?=some (w1,w2)/\(w1,w2)∈ts):=⟨aa,ac⟩;clear aa ac;have ah:=hK.nobj
  repeat' first|refine Z1 ?_|refine Z8 fun ya J=>?_|refine Z4 ?_;clear J ya|refine Z2 ?_ ?_<;>intro h ad<;>try exact Xp|refine Z3 ?_|exact Zt|apply J.out;clear J ya
  ·exact⟨_,rfl,by
    have:Io ts=false:=by
     unfold Io;rw[Afu];exact⟨_,HG.out.2,by simp_all⟩
    rw[this],Xs⟩
  ·exact⟨ts.length-(i+1),Agm,i+1,rfl,Agm,by simp,Xs,by
    have ab:=ab.out;unfold Io at ab;rw[Agt,Io,Ad0,HG.out.1,List.all_append,ab]
    simp_all⟩
 ·have af:i=ts.length:=Agm;subst af;rw[Adu]at ab;have ab:=ab.out
  repeat' first|refine Z1 ?_|refine Z8 fun ya J=>?_|refine Z4 ?_;clear J ya|refine Z2 ?_ ?_<;>intro h ad<;>try exact Xp|refine Z3 ?_|exact Zt|apply J.out;clear J ya
  first|exact⟨_,rfl,rfl,hK⟩|exact⟨_,rfl,rfl⟩
def D3 (l:List Int):Cc:=[(l[0]?).getD (-1),(l[1]?).getD (-1),(l[2]?).getD (-1)]
def Ar (t:List Int):List AV:=t.map ic
theorem Ra (p:Int)(ids:Nat)(ts:List Tm)(hn:ts.length<=1000)(N:St):ACalls Tryz.prog 128 [ag [ic p,sl ids ts.length (Af ts)]] N fun r N'=>r=ag (Ar (D3 (ts.map (·.2))))/\Keep N N':=by
 have ak:=Eb ts;have af:∃L:Nat->Int,(∀i,L i=((ts[i]?).map (·.2)).getD (-1))/\Ar (D3 (ts.map (·.2)))=[ic (L 0),ic (L 1),ic (L 2)]:=⟨fun i=>((ts[i]?).map (·.2)).getD (-1),fun _=>rfl,by simp[Ar,D3]⟩;obtain⟨L,hL,hT⟩:=af;refine Z9 26 [.cell 2 125] Tryz.func128 ?_
 repeat' first|refine Z1 ?_|refine Z8 fun ya J=>?_|refine Z4 ?_;clear J ya|refine Z2 ?_ ?_<;>intro h ac<;>try exact Xp|refine Z3 ?_|exact Zt|apply J.out;clear J ya
 refine Ad (fun m s N'=>∃(i:Nat),m=3-i/\i<=3/\s 1=ptr N.nobj 0/\s 2=ptr (N.nobj+1) 0/\s 3=ptr (N.nobj+2) 0/\s 6=ic i/\Keep N N'/\N.nobj+2<N'.nobj/\N'.obj N.nobj=[ic p,sl ids ts.length (Af ts)]/\N'.obj (N.nobj+1)=[ic 0,ic 0,ic 0]/\N'.obj (N.nobj+2)=[ic (if 0<i then L 0 else 0),ic (if 1<i then L 1 else 0),ic (if 2<i then L 2 else 0)]) 3
  ⟨0,Agm,Agm,Ago,Ago,Ago,rfl,Xs,by simp only[Aa,Ac];omega,?_,?_,?_⟩ ?_
 ·rw[Ak Agm,Ah Agq,Ah Agq,Al]
 ·rw[Ak Agm,Ah Agq,Ca Agq Agq]
 ·rw[show N.nobj+2=N.nobj+1+1 from rfl,Aj];rfl
 rintro m s N' ⟨i,rfl,hi,h1,h2,h3,h6,hK,am,ai,ah,ad⟩;have aj:=hK.nobj;by_cases an:i<3
 ·by_cases hl:i<ts.length
  ·have aa:=Adn hl;obtain⟨r,hd⟩:=Ec aa;have ab:=hL i;rw[aa]at ab;generalize ts[i]=w at hd aa ab;obtain⟨w1,w2⟩:=w;clear aa hL;simp only[Aeu,Option.getD_some]at ab;rcases (show i=0\/i=1\/i=2 by omega)with rfl|rfl|rfl
   all_goals
    simp only[↓reduceIte,Nat.lt_irrefl,Nat.reduceLT,Nat.reduceMul,Nat.zero_mul,List.drop_zero]at ad hd ab
    repeat' first|refine Z1 ?_|refine Z8 fun ya J=>?_|refine Z4 ?_;clear J ya|refine Z2 ?_ ?_<;>intro h ac<;>try exact Xp|refine Z3 ?_|exact Zt|apply J.out;clear J ya
    first|exact⟨2,Agm,1,rfl,Agm,rfl,Xs,by simp[*]⟩|exact⟨1,Agm,2,rfl,Agm,rfl,Xs,by simp[*]⟩|exact⟨0,Agm,3,rfl,Agm,rfl,Xs,by simp[*]⟩
  ·have ab:=hL i;rw[Ady Agm]at ab;simp only[Option.map_none,Option.getD_none]at ab;clear hL;rcases (show i=0\/i=1\/i=2 by omega)with rfl|rfl|rfl
   all_goals
    simp only[↓reduceIte,Nat.lt_irrefl,Nat.reduceLT,Nat.reduceMul,Nat.zero_mul,List.drop_zero]at ad ab
    repeat' first|refine Z1 ?_|refine Z8 fun ya J=>?_|refine Z4 ?_;clear J ya|refine Z2 ?_ ?_<;>intro h ac<;>try exact Xp|refine Z3 ?_|exact Zt|apply J.out;clear J ya
    first|exact⟨2,Agm,1,rfl,Agm,rfl,Xs,by simp[*]⟩|exact⟨1,Agm,2,rfl,Agm,rfl,Xs,by simp[*]⟩|exact⟨0,Agm,3,rfl,Agm,rfl,Xs,by simp[*]⟩
 ·have ae:i=3:=Agm;subst ae;simp only[↓reduceIte,Nat.reduceLT]at ad
  repeat' first|refine Z1 ?_|refine Z8 fun ya J=>?_|refine Z4 ?_;clear J ya|refine Z2 ?_ ?_<;>intro h ac<;>try exact Xp|refine Z3 ?_|exact Zt|apply J.out;clear J ya
  first|exact⟨_,rfl,by rw[hT],Xs⟩|exact⟨_,rfl,rfl,Xs⟩
theorem Bs (l:List Int):(Ar l).length=l.length:=by simp[Ar]
theorem Di {l:List Int}{k:Nat}{n:Int}(h:l[k]?=some n):∃r,(Ar l).drop k=ic n::r:=by
 have hk:=(Adm.1 h);obtain⟨h1,h2⟩:=hk;refine⟨(Ar l).drop (k+1),?_⟩;rw[Aeo (by rw[Bs];exact h1)];simp[Ar,h2]
theorem Ev (l:List Int):(Ar l).all flat=true:=by
 rw[Ado];intro x hx;obtain⟨n,-,rfl⟩:=Ae4.1 hx;rfl
theorem Jb (v:Int)(l:List Int)(id:Nat)(hn:l.length<=100000)(N:St):ACalls Tryz.prog 79 [ic v,sl id l.length (Ar l)] N fun r N'=>r=ic (if v∈l then (l.idxOf v:Nat)else -1)/\Keep N N':=by
 have ah:=Bs l;refine Z9 19 [.tmp 4] Tryz.func79 ?_
 refine zz ?_
 refine Ad (fun m s N'=>∃i:Nat,m=l.length-i/\i<=l.length/\s 0=ic v/\s 7=sl id l.length (Ar l)/\s 8=ic l.length/\s 9=ic i/\Keep N N'/\Agt (v∉l.take i)) l.length
  ⟨0,Agm,Agm,rfl,rfl,rfl,rfl,Xs,by simp[Agt]⟩ ?_
 rintro m s N' ⟨i,rfl,hi,h0,h7,h8,h9,hK,ab⟩;by_cases ad:i<l.length
 ·have aa:=Adn ad;obtain⟨r,hd⟩:=Di aa;generalize l[i]=w at hd aa;have HG:Agt (l[i]?=some w):=aa;clear aa;have af:=hK.nobj
  repeat' first|refine Z1 ?_|refine Z8 fun ya J=>?_|refine Z4 ?_;clear J ya|refine Z2 ?_ ?_<;>intro h ac<;>try exact Xp|refine Z3 ?_|exact Zt|apply J.out;clear J ya
  ·have e:w=v:=by simp_all
   subst e;exact⟨_,rfl,by rw[if_pos (Adp HG.out),Vg HG.out ab.out]⟩
  all_goals exact⟨l.length-(i+1),Agm,i+1,rfl,Agm,by simp,Uu ab.out HG.out (by simp_all)⟩
 ·have ae:i=l.length:=Agm;subst ae;rw[Adu]at ab
  repeat' first|refine Z1 ?_|refine Z8 fun ya J=>?_|refine Z4 ?_;clear J ya|refine Z2 ?_ ?_<;>intro h ac<;>try exact Xp|refine Z3 ?_|exact Zt|apply J.out;clear J ya
  first|exact⟨_,rfl,by rw[if_neg ab.out],hK⟩|exact⟨_,rfl,by rw[if_neg ab.out]⟩
theorem Q2 (v:Int)(l:List Int):((if v∈l then ((l.idxOf v:Nat):Int)else -1)== -1)=decide (v∉l):=by
 split<;>rename_i h<;>simp[h]
theorem Kn (p:Int)(ids:Nat)(ts:List Tm)(l:List Int)(id:Nat)(hn:ts.length<=1000)(hl:l.length<=100000)(N:St):ACalls Tryz.prog 218 [ag [ic p,sl ids ts.length (Af ts)],sl id l.length (Ar l)] N fun r N'=>r=sc (.bool (l.any (A9 ts)))/\Keep N N':=by
 have ak:=Bs l;refine Z9 17 [.tmp 4] Tryz.func218 ?_
 refine zz ?_
 refine Ad (fun m s N'=>∃i:Nat,m=l.length-i/\i<=l.length/\s 2=ptr N.nobj 0/\s 7=sl id l.length (Ar l)/\s 8=ic l.length/\s 9=ic i/\Keep N N'/\N.nobj<N'.nobj/\N'.obj N.nobj=[ic p,sl ids ts.length (Af ts)]/\Agt ((l.take i).any (A9 ts)=false)) l.length
  ⟨0,Agm,Agm,Ago,Ago,Ago,rfl,Xs,Agq,by rw[Al],by simp[Agt]⟩ ?_
 rintro m s N' ⟨i,rfl,hi,h2,h7,h8,h9,hK,am,ob,hA⟩;have aj:=hK.nobj;by_cases ae:i<l.length
 ·have aa:=Adn ae;obtain⟨r,hd⟩:=Di aa;have ab:=Aes ae;generalize l[i]=w at hd aa ab;have HG:Agt (l[i]?=some w/\w∈l):=⟨aa,ab⟩;clear aa ab
  repeat' first|refine Z1 ?_|refine Z8 fun ya J=>?_|refine Z4 ?_;clear J ya|refine Z2 ?_ ?_<;>intro h ad<;>try exact Xp|refine Z5 ?_;refine Xi (J1 _ _ _ _ hn _) ?_;rintro _ _ ⟨rfl,ac⟩;(have ah:=ac.nobj;have af:=ac.obj)|refine Z3 ?_|exact Zt|apply J.out;clear J ya
  ·first|exact⟨_,rfl,by rw[Aer.2 ⟨w,HG.out.2,by assumption⟩],hK.trans ac⟩|exact⟨_,rfl,by rw[Aer.2 ⟨w,HG.out.2,by assumption⟩]⟩
  ·exact⟨l.length-(i+1),Agm,i+1,rfl,Agm,by simp,hK.trans ac,Agm,by
    rw[Agt,Ad0,HG.out.1,Afv,hA.out]
    simp_all⟩
 ·have ai:i=l.length:=Agm;subst ai;rw[Adu]at hA;have hA:=hA.out
  repeat' first|refine Z1 ?_|refine Z8 fun ya J=>?_|refine Z4 ?_;clear J ya|refine Z2 ?_ ?_<;>intro h ad<;>try exact Xp|refine Z3 ?_|exact Zt|apply J.out;clear J ya
  first|exact⟨_,rfl,rfl,hK⟩|exact⟨_,rfl,rfl⟩|exact⟨_,rfl,hK⟩|exact hK|exact⟨_,rfl,by rw[hA],hK⟩|exact⟨_,rfl,by rw[hA]⟩
theorem cD (p:Int)(ids:Nat)(ts:List Tm)(l:List Int)(id:Nat)(hn:ts.length<=1000)(hl:l.length<=100000)(N:St):ACalls Tryz.prog 246 [ag [ic p,sl ids ts.length (Af ts)],sl id l.length (Ar l)] N fun r N'=>r=sc (.bool (l.all (A9 ts)))/\Keep N N':=by
 have ak:=Bs l;refine Z9 18 [.tmp 4] Tryz.func246 ?_
 repeat' first|refine Z1 ?_|refine Z8 fun ya J=>?_|refine Z4 ?_;clear J ya|refine Z2 ?_ ?_<;>intro h ac<;>try exact Xp|refine Z3 ?_|exact Zt|apply J.out;clear J ya
 refine Ad (fun m s N'=>∃i:Nat,m=l.length-i/\i<=l.length/\s 2=ptr N.nobj 0/\s 7=sl id l.length (Ar l)/\s 8=ic l.length/\s 9=ic i/\Keep N N'/\N.nobj<N'.nobj/\N'.obj N.nobj=[ic p,sl ids ts.length (Af ts)]/\Agt ((l.take i).all (A9 ts)=true)) l.length
  ⟨0,Agm,Agm,Ago,Ago,Ago,rfl,Xs,Agq,by rw[Al],by simp[Agt]⟩ ?_
 rintro m s N' ⟨i,rfl,hi,h2,h7,h8,h9,hK,am,ob,hA⟩;have aj:=hK.nobj;by_cases ae:i<l.length
 ·have aa:=Adn ae;obtain⟨r,hd⟩:=Di aa;have ab:=Aes ae;generalize l[i]=w at hd aa ab;have HG:Agt (l[i]?=some w/\w∈l):=⟨aa,ab⟩;clear aa ab
  repeat' first|refine Z1 ?_|refine Z8 fun ya J=>?_|refine Z4 ?_;clear J ya|refine Z2 ?_ ?_<;>intro h ac<;>try exact Xp|refine Z5 ?_;refine Xi (J1 _ _ _ _ hn _) ?_;rintro _ _ ⟨rfl,ad⟩;(have ah:=ad.nobj;have af:=ad.obj)|refine Z3 ?_|exact Zt|apply J.out;clear J ya
  ·first|exact⟨_,rfl,by rw[Afu.2 ⟨w,HG.out.2,by simp_all⟩],hK.trans ad⟩|exact⟨_,rfl,by rw[Afu.2 ⟨w,HG.out.2,by simp_all⟩]⟩
  ·exact⟨l.length-(i+1),Agm,i+1,rfl,Agm,by simp,hK.trans ad,Agm,by
    rw[Agt,Ad0,HG.out.1,List.all_append,hA.out]
    simp_all⟩
 ·have ai:i=l.length:=Agm;subst ai;rw[Adu]at hA;have hA:=hA.out
  repeat' first|refine Z1 ?_|refine Z8 fun ya J=>?_|refine Z4 ?_;clear J ya|refine Z2 ?_ ?_<;>intro h ac<;>try exact Xp|refine Z3 ?_|exact Zt|apply J.out;clear J ya
  first|exact⟨_,rfl,rfl,hK⟩|exact⟨_,rfl,rfl⟩|exact⟨_,rfl,hK⟩|exact hK|exact⟨_,rfl,by rw[hA],hK⟩|exact⟨_,rfl,by rw[hA]⟩
theorem Ls (l:List Int)(id:Nat)(hn:l.length<=100000)(h0:∀n∈l,0<=n/\n<=1000000)(N:St):ACalls Tryz.prog 115 [sl id l.length (Ar l)] N fun r N'=>r=ic l.sum/\Keep N N':=by
 have af:=Bs l;refine Z9 17 [.tmp 2] Tryz.func115 ?_
 repeat' first|refine Z1 ?_|refine Z8 fun ya J=>?_|refine Z4 ?_;clear J ya|refine Z2 ?_ ?_<;>intro h ab<;>try exact Xp|refine Z3 ?_|exact Zt|apply J.out;clear J ya
 refine Ad (fun m s N'=>∃i:Nat,m=l.length-i/\i<=l.length/\s 3=ic (l.take i).sum/\s 6=sl id l.length (Ar l)/\s 7=ic l.length/\s 8=ic i/\Keep N N'/\0<=(l.take i).sum/\(l.take i).sum<=i*1000000) l.length
  ⟨0,Agm,Agm,rfl,rfl,rfl,rfl,Xs,by simp,by simp⟩ ?_
 rintro m s N' ⟨i,rfl,hi,h3,h6,h7,h8,hK,b0,b1⟩;by_cases ac:i<l.length
 ·have aa:=Adn ac;obtain⟨r,hd⟩:=Di aa;have hb:=h0 l[i] (Aes ac);have hs:Agt ((l.take (i+1)).sum=(l.take i).sum+l[i]):=by
   rw[Agt,Ad0,aa];simp only[Aez,List.sum_append,List.sum_cons,List.sum_nil];omega
  generalize l[i]=w at hd aa hb hs;clear aa;generalize (l.take i).sum=acc at h3 b0 b1 hs;have ae:=hK.nobj
  repeat' first|refine Z1 ?_|refine Z8 fun ya J=>?_|refine Z4 ?_;clear J ya|refine Z2 ?_ ?_<;>intro h ab<;>try exact Xp|refine Z3 ?_|exact Zt|apply J.out;clear J ya
  exact⟨l.length-(i+1),Agm,i+1,rfl,Agm,by rw[hs.out],by simp,by rw[hs.out];omega,by rw[hs.out];omega⟩
 ·have ad:i=l.length:=Agm;subst ad;rw[Adu]at h3
  repeat' first|refine Z1 ?_|refine Z8 fun ya J=>?_|refine Z4 ?_;clear J ya|refine Z2 ?_ ?_<;>intro h ab<;>try exact Xp|refine Z3 ?_|exact Zt|apply J.out;clear J ya
  first|exact⟨_,rfl,rfl,hK⟩|exact⟨_,rfl,rfl⟩|exact⟨_,rfl,hK⟩
def Wo (v n:Int)(t:Tm):Tm:=if t=(true,v)then (false,n)else t
def Bg (v n:Int)(ts:List Tm):List Tm:=ts.map (Wo v n)
theorem lL {v n:Int}{ts:List Tm}(h:A9 ts v=false):Bg v n ts=ts:=by
 unfold Bg
 conv=>rhs;rw[<-List.map_id ts]
 apply Afa;intro t ht;unfold Wo;rw[if_neg]
 ·rfl
 ·rintro rfl;simp[A9]at h;exact h ht
theorem Mm (p:Int)(ids:Nat)(ts:List Tm)(v n:Int)(hn:ts.length<=1000)(N:St):ACalls Tryz.prog 219 [ag [ic p,sl ids ts.length (Af ts)],ic v,ic n] N fun r N'=>(∃id,r=ag [ic p,sl id (Bg v n ts).length (Af (Bg v n ts))])/\Keep N N':=by
 have az:=Eb ts;refine Z9 43 [.cell 6 94] Tryz.func219 ?_
 repeat' first|refine Z1 ?_|refine Z8 fun ya J=>?_|refine Z4 ?_;clear J ya|refine Z2 ?_ ?_<;>intro h ad<;>try exact Xp|refine Z5 ?_;refine Xi (J1 _ _ _ _ hn _) ?_;rintro _ _ ⟨rfl,ai⟩;(have am:=ai.nobj;have ab:=ai.obj;(try simp only[Aa]at am ab))|refine Z3 ?_|exact Zt|apply J.out;clear J ya
 ·have e:=lL (n:=n) h;rw[e];exact⟨_,rfl,⟨_,rfl⟩,(((Keep.refl _).new _).new _).trans ai|>.put Agm _⟩
 ·rename_i N1;have ax:Keep N N1:=(((Keep.refl _).new _).new _).trans ai;have kn1:=ax.nobj;have au:=ab N.nobj Agm;have ao:=ab (N.nobj+1) Agm;rw[Ah Agq,Al]at au;rw[Ca Agq Agq]at ao;clear ab ai
  refine zz ?_
  refine Ad (fun m s N'=>∃(i i3:Nat) (xs:List AV),m=ts.length-i/\i<=ts.length/\s 1=ic v/\s 2=ic n/\s 6=ptr (N.nobj+1) 0/\s 7=ptr N1.nobj 0/\s 19=sl ids ts.length (Af ts)/\s 20=ic ts.length/\s 21=ic i/\Keep N N'/\N1.nobj<N'.nobj/\N'.obj (N.nobj+1)=[ic 0,nilS]/\N'.obj N1.nobj=[ic p,sl i3 i xs]/\Own N N' i3 i/\xs.length=i*2/\Agt (xs=Af (Bg v n (ts.take i)))) ts.length
   ⟨0,1,[],Agm,Agm,by simp[upd,initS],by simp[upd,initS],Ago,Ago,Ago,Ago,rfl,Xs,Ags,?_,?_,Own.nil _ _,by simp,by simp[Agt,Bg,Af]⟩ ?_
  ·rw[Ak Agm,Ah Agm];simp[ao,cst1]
  ·rw[Aj]
  rintro m s N' ⟨i,i3,xs,rfl,hi,h1,h2,h6,h7,a5,a4,a3,hK,a0,oc1,oc2,hO,an,hX⟩;have ay:=hK.nobj;by_cases av:i<ts.length
  ·have ac:=Adn av;obtain⟨r,hd⟩:=Ec ac;generalize ts[i]=w at hd ac;obtain⟨w1,w2⟩:=w;have HG:Agt (Af (Bg v n (ts.take (i+1)))=Af (Bg v n (ts.take i))++Vj (Wo v n (w1,w2))):=by
    rw[Agt,Ad0,ac];simp[Bg,Af]
   clear ac;by_cases hc:w1=true/\w2=v
   ·obtain⟨rfl,rfl⟩:=hc
    repeat' first|refine Z1 ?_|refine Z8 fun ya J=>?_|refine Z4 ?_;clear J ya|refine Z2 ?_ ?_<;>intro h ad<;>try exact Xp|refine Z3 ?_|exact Zt
    refine Bz (by first|exact Hd) (((hK.new _).put hK.nobj _).put hK.nobj _) (Own.put (Own.put (Own.new hO _) _ _) _ _) (by decide) (by rfl) (an) (by rfl) (by rfl) (by decide) Agm Agm ?_;intro idn Nn af ah ak aa aj ae;simp only[Ac,Aa]at aa;refine Z3 ?_
    refine zz ?_
    exact⟨ts.length-(i+1),Agm,i+1,idn,xs++[sc (.bool false),ic n],rfl,Agm,by simp,ah.put Agm _,Agm,rfl,Own.put af _ _,by simp;omega,by rw[Agt,HG.out,hX.out];simp[Wo,Vj]⟩
   ·have ap:(w1&&w2==v)=false:=by
     cases w1 with
     |false=>rfl
     |true=>simp at hc⊢;exact hc
    have hP:Agt (Wo v n (w1,w2)=(w1,w2)):=if_neg (by simpa using hc);clear hc;cases w1 with
    |false=>
     repeat' first|refine Z1 ?_|refine Z8 fun ya J=>?_|refine Z4 ?_;clear J ya|refine Z2 ?_ ?_<;>intro h ad<;>try exact Xp|refine Z3 ?_|exact Zt
     refine Bz (by first|exact Hd) ((hK.new _).put hK.nobj _) (Own.put (Own.new hO _) _ _) (by decide) (by rfl) (an) (by rfl) (by rfl) (by decide) Agm Agm ?_;intro idn Nn af ah ak aa aj ae;simp only[Ac,Aa]at aa;refine Z3 ?_
     refine zz ?_
     exact⟨ts.length-(i+1),Agm,i+1,idn,xs++[_,ic w2],rfl,Agm,by simp,ah.put Agm _,Agm,rfl,Own.put af _ _,by simp;omega,by rw[Agt,HG.out,hX.out,hP.out];rfl⟩
    |true=>
     have ap:(w2==v)=false:=by simpa using ap
     repeat' first|refine Z1 ?_|refine Z8 fun ya J=>?_|refine Z4 ?_;clear J ya|refine Z2 ?_ ?_<;>intro h ad<;>try exact Xp|refine Z3 ?_|exact Zt
     refine Bz (by first|exact Hd) ((hK.new _).put hK.nobj _) (Own.put (Own.new hO _) _ _) (by decide) (by rfl) (an) (by rfl) (by rfl) (by decide) Agm Agm ?_;intro idn Nn af ah ak aa aj ae;simp only[Ac,Aa]at aa;refine Z3 ?_
     refine zz ?_
     exact⟨ts.length-(i+1),Agm,i+1,idn,xs++[_,ic w2],rfl,Agm,by simp,ah.put Agm _,Agm,rfl,Own.put af _ _,by simp;omega,by rw[Agt,HG.out,hX.out,hP.out];rfl⟩
  ·have aw:i=ts.length:=Agm;subst aw;have hX:=hX.out;rw[Adu]at hX;have hpl:(Bg v n ts).length=ts.length:=by simp[Bg]
   repeat' first|refine Z1 ?_|refine Z8 fun ya J=>?_|refine Z4 ?_;clear J ya|refine Z2 ?_ ?_<;>intro h ad<;>try exact Xp|refine Z3 ?_|exact Zt|apply J.out;clear J ya
   exact⟨_,rfl,⟨i3,by first|rfl|rw[hpl,hX]⟩,hK.put Agm _⟩
structure Part where
 a:Dy
 tups:List Cc
structure Qry where
 head:Dy
 parts:List Part
 nots:List Dy
def Er (l:List Cc):List AV:=l.flatMap Ar
def T3 (l:List Cc):Prop:=∀t∈l,t.length=3
theorem Ir {l:List Cc}(h:T3 l):(Er l).length=l.length*3:=by
 induction l with
 |nil=>rfl
 |cons a l ih=>
  have h1:=h a (by simp);have h2:=ih (fun t ht=>h t (by simp[ht]));unfold Er at*
  rw[Ae0,Aeb,h2,Bs,h1];simp;omega
theorem O1 (l:List Cc)(t:Cc):Er (l++[t])=Er l++Ar t:=by simp[Er]
theorem oR {l:List Cc}{k:Nat}{t:Cc}(h3:T3 l)(h:l[k]?=some t):∃a b c r,t=[a,b,c]/\(Er l).drop (k*3)=ic a::ic b::ic c::r:=by
 have hE:∀l:List Cc,EL (fun t c=>c=Ar t/\t∈l) l (Er l):=by
  intro l;induction l with
  |nil=>rfl
  |cons a l ih=>exact⟨Ar a,Er l,⟨rfl,by simp⟩,EL.mono (fun t c h=>⟨h.1,by simp[h.2]⟩) ih,by simp[Er]⟩
 obtain⟨c,r,⟨rfl,-⟩,e⟩:=EL.get (z:=3) (fun a c h=>by rw[h.1,Bs];exact h3 a h.2) (hE l) h;have ht:=h3 t (Adp h)
 match t,ht with
 |[a,b,c],_=>exact⟨a,b,c,r,rfl,by rw[e];rfl⟩
def Nk (a:Dy)(c:List AV):Prop:=∃id,c=[ic a.p,sl id a.ts.length (Af a.ts)]
def L2 (p:Part)(c:List AV):Prop:=∃id idt,c=[ic p.a.p,sl id p.a.ts.length (Af p.a.ts),sl idt p.tups.length (Er p.tups)]
theorem Hp (a:Dy)(c:List AV)(h:Nk a c):c.length=2:=by obtain⟨id,rfl⟩:=h;rfl
theorem Ef (a:Part)(c:List AV)(h:L2 a c):c.length=3:=by obtain⟨id,idt,rfl⟩:=h;rfl
theorem I4 {l:List Dy}{cs:List AV}{i:Nat}{a:Dy}(h:EL Nk l cs)(hi:l[i]?=some a):∃id r,cs.drop (i*2)=ic a.p::sl id a.ts.length (Af a.ts)::r:=by
 obtain⟨c,r,⟨id,rfl⟩,e⟩:=EL.get Hp h hi;exact⟨id,r,e⟩
theorem E6 {l:List Part}{cs:List AV}{i:Nat}{p:Part}(h:EL L2 l cs)(hi:l[i]?=some p):∃id idt r,cs.drop (i*3)=ic p.a.p::sl id p.a.ts.length (Af p.a.ts)::sl idt p.tups.length (Er p.tups)::r:=by
 obtain⟨c,r,⟨id,idt,rfl⟩,e⟩:=EL.get Ef h hi;exact⟨id,idt,r,e⟩
def EQ (q:Qry)(c:List AV):Prop:=∃ih ip inn pc nc,c=[ic q.head.p,sl ih q.head.ts.length (Af q.head.ts),sl ip q.parts.length pc,sl inn q.nots.length nc]/\EL L2 q.parts pc/\EL Nk q.nots nc
structure Om (q:Qry):Prop where
 hd:q.head.ts.length<=3
 pl:q.parts.length<=64
 nl:q.nots.length<=64
 pa:∀p∈q.parts,p.a.ts.length<=3
 pt:∀p∈q.parts,p.tups.length<=5000
 p3:∀p∈q.parts,T3 p.tups
 na:∀a∈q.nots,a.ts.length<=3
def Cy (l:List Part):Nat:=(l.map fun p=>p.tups.length).sum
theorem kT (l:List Part)(p:Part):Cy (l++[p])=Cy l+p.tups.length:=by simp[Cy,List.sum_append]
theorem U9 (q:Qry)(c:List AV)(hc:EQ q c)(hq:Om q)(N:St):ACalls Tryz.prog 247 [ag c] N fun r N'=>r=ic (Cy q.parts:Nat)/\Keep N N':=by
 obtain⟨ih,ip,inn,pc,nc,rfl,hP,hN⟩:=hc;have hpl:=EL.length Ef hP;have hl:=hq.pl;refine Z9 20 [.tmp 2] Tryz.func247 ?_
 refine zz ?_
 refine Ad (fun m s N'=>∃i a:Nat,m=q.parts.length-i/\i<=q.parts.length/\s 3=ic a/\s 7=sl ip q.parts.length pc/\s 8=ic q.parts.length/\s 9=ic i/\Keep N N'/\a<=i*5000/\Agt (a=Cy (q.parts.take i))) q.parts.length
  ⟨0,0,Agm,Agm,rfl,rfl,rfl,rfl,Xs,by simp,by simp[Agt,Cy]⟩ ?_
 rintro m s N' ⟨i,a,rfl,hi,h3,h7,h8,h9,hK,b1,hA⟩;have ae:=hK.nobj;by_cases ac:i<q.parts.length
 ·have aa:=Adn ac;obtain⟨id,idt,r,hd⟩:=E6 hP aa;have hb:=hq.pt _ (Aes ac);generalize q.parts[i]=w at hd aa hb;have HG:Agt (Cy (q.parts.take (i+1))=Cy (q.parts.take i)+w.tups.length):=by
   rw[Agt,Ad0,aa,Aez,kT]
  clear aa
  repeat' first|refine Z1 ?_|refine Z8 fun ya J=>?_|refine Z4 ?_;clear J ya|refine Z2 ?_ ?_<;>intro h ab<;>try exact Xp|refine Z3 ?_|exact Zt|apply J.out;clear J ya
  exact⟨q.parts.length-(i+1),Agm,i+1,a+w.tups.length,rfl,Agm,by simp,by simp,Xs,Agm,by rw[Agt,HG.out,hA.out]⟩
 ·have ad:i=q.parts.length:=Agm;subst ad;have hA:=hA.out;rw[Adu]at hA;subst hA
  repeat' first|refine Z1 ?_|refine Z8 fun ya J=>?_|refine Z4 ?_;clear J ya|refine Z2 ?_ ?_<;>intro h ab<;>try exact Xp|refine Z3 ?_|exact Zt|apply J.out;clear J ya
  first|exact⟨_,rfl,rfl,hK⟩|exact⟨_,rfl,rfl⟩|exact⟨_,rfl,hK⟩|exact hK
def Df (l:List Dy)(v:Int):Nat:=l.countP fun a=>A9 a.ts v
theorem Ky (q:Qry)(c:List AV)(v:Int)(hc:EQ q c)(hq:Om q)(N:St):ACalls Tryz.prog 249 [ag c,ic v] N fun r N'=>r=ic (Df (q.parts.map (·.a)) v:Nat)/\Keep N N':=by
 obtain⟨ih,ip,inn,pc,nc,rfl,hP,hN⟩:=hc;have hpl:=EL.length Ef hP;have hl:=hq.pl;refine Z9 23 [.tmp 4] Tryz.func249 ?_
 refine zz ?_
 refine Ad (fun m s N'=>∃i a:Nat,m=q.parts.length-i/\i<=q.parts.length/\s 1=ic v/\s 5=ic a/\s 9=sl ip q.parts.length pc/\s 10=ic q.parts.length/\s 11=ic i/\Keep N N'/\a<=i/\Agt (a=Df ((q.parts.take i).map (·.a)) v)) q.parts.length
  ⟨0,0,Agm,Agm,rfl,rfl,rfl,rfl,rfl,Xs,by simp,by simp[Agt,Df]⟩ ?_
 rintro m s N' ⟨i,a,rfl,hi,h1,h5,h9,am,ak,hK,b1,hA⟩;have ai:=hK.nobj;by_cases ad:i<q.parts.length
 ·have aa:=Adn ad;obtain⟨id,idt,r,hd⟩:=E6 hP aa;have hb:=hq.pa _ (Aes ad);generalize q.parts[i]=w at hd aa hb;have HG:Agt (Df ((q.parts.take (i+1)).map (·.a)) v=Df ((q.parts.take i).map (·.a)) v+if A9 w.a.ts v then 1 else 0):=by
   rw[Agt,Ad0,aa,Aez,Ad2,Df,Afw];simp[Df,Afx]
  clear aa;have ab:w.a.ts.length<=1000:=Agm
  repeat' first|refine Z1 ?_|refine Z8 fun ya J=>?_|refine Z4 ?_;clear J ya|refine Z2 ?_ ?_<;>intro h ac<;>try exact Xp|refine Z5 ?_;refine Xi (J1 _ _ _ _ ab _) ?_;rintro _ _ ⟨rfl,ae⟩;(have af:=ae.nobj;have aj:=((hK.new _).put hK.nobj _).trans ae)|refine Z3 ?_|exact Zt|apply J.out;clear J ya
  ·exact⟨q.parts.length-(i+1),Agm,i+1,a+1,rfl,Agm,by simp,by simp,Agm,by rw[Agt,HG.out,hA.out,if_pos (by assumption)]⟩
  ·exact⟨q.parts.length-(i+1),Agm,i+1,a,rfl,Agm,by simp,by simp,Agm,by rw[Agt,HG.out,hA.out,if_neg (by simp_all),Adq]⟩
 ·have ah:i=q.parts.length:=Agm;subst ah;have hA:=hA.out;rw[Adu]at hA;subst hA
  repeat' first|refine Z1 ?_|refine Z8 fun ya J=>?_|refine Z4 ?_;clear J ya|refine Z2 ?_ ?_<;>intro h ac<;>try exact Xp|refine Z3 ?_|exact Zt|apply J.out;clear J ya
  first|exact⟨_,rfl,rfl,hK⟩|exact⟨_,rfl,rfl⟩|exact⟨_,rfl,hK⟩|exact hK
def atomsQ (q:Qry):List Dy:=q.head::(q.parts.map (·.a)++q.nots)
theorem Iz (q:Qry)(c:List AV)(hc:EQ q c)(hq:Om q)(N:St):ACalls Tryz.prog 248 [ag c] N fun r N'=>∃id cs,r=sl id (atomsQ q).length cs/\EL Nk (atomsQ q) cs/\Keep N N':=by
 obtain⟨ih,ip,inn,pc,nc,rfl,hP,hN⟩:=hc;have hpl:=EL.length Ef hP;have ay:=EL.length Hp hN;have hl:=hq.pl;have az:=hq.nl;refine Z9 37 [.tmp 2] Tryz.func248 ?_
 repeat' first|refine Z1 ?_|refine Z8 fun ya J=>?_|refine Z4 ?_;clear J ya|refine Z2 ?_ ?_<;>intro h ab<;>try exact Xp|refine Z3 ?_|exact Zt|apply J.out;clear J ya
 have am:Keep N (N.new [ic q.head.p,sl ih q.head.ts.length (Af q.head.ts),sl ip q.parts.length pc,sl inn q.nots.length nc]):=(Keep.refl _).new _
 refine Ad (fun m s N'=>∃(k i3:Nat) (xs:List AV),m=q.parts.length-k/\k<=q.parts.length/\s 1=ptr N.nobj 0/\s 3=sl i3 (1+k) xs/\s 12=sl ip q.parts.length pc/\s 13=ic q.parts.length/\s 14=ic k/\Keep N N'/\N.nobj<N'.nobj/\N'.obj N.nobj=[ic q.head.p,sl ih q.head.ts.length (Af q.head.ts),sl ip q.parts.length pc,sl inn q.nots.length nc]/\Own N N' i3 (1+k)/\xs.length=(1+k)*2/\Agt (EL Nk (q.head::(q.parts.take k).map (·.a)) xs)) q.parts.length
  ⟨0,_,_,Agm,Agm,Ago,rfl,rfl,rfl,rfl,am.lay 1,by simp only[Ax,Aa];omega,by rw[Ho,Al],Own.made am (by decide),by simp,EL.single ⟨ih,rfl⟩⟩ ?_
 rintro m s N' ⟨k,i3,xs,rfl,hk,h1,h3,ax,aw,av,hK,ap,ob,hO,ad,hE⟩;clear am;have ao:=hK.nobj;by_cases ah:k<q.parts.length
 ·have aa:=Adn ah;obtain⟨id,idt,r,hd⟩:=E6 hP aa;generalize q.parts[k]=w at hd aa;have HG:Agt (q.parts[k]?=some w):=aa;clear aa
  repeat' first|refine Z1 ?_|refine Z8 fun ya J=>?_|refine Z4 ?_;clear J ya|refine Z2 ?_ ?_<;>intro h ab<;>try exact Xp|refine Z3 ?_|exact Zt|apply J.out;clear J ya
  refine Bz (by first|exact Fa) ((hK.new _).put hK.nobj _) (Own.put (Own.new hO _) _ _) (by decide) (by rfl) (ad) (by rfl) (by rfl) (by decide) Agm Agm ?_;intro idn Nn ak au ae ac an af;simp only[Ac,Aa]at ac;have eob:Nn.obj N.nobj=N'.obj N.nobj:=by rw[ae,Ak Agm,Ah Agm]
  refine Z3 ?_
  repeat' first|refine Z1 ?_|refine Z8 fun ya J=>?_|refine Z4 ?_;clear J ya|refine Z2 ?_ ?_<;>intro h ab<;>try exact Xp|refine Z3 ?_|exact Zt|apply J.out;clear J ya
  refine⟨q.parts.length-(k+1),Agm,k+1,idn,xs++[ic w.a.p,sl id w.a.ts.length (Af w.a.ts)],rfl,Agm,by simp[Adw],by simp,Agm,by simpa[Adw]using ak,by simp;omega,?_⟩;rw[Agt,Ad0,HG.out];have:=EL.append hE.out (EL.single (E:=Nk) (a:=w.a) ⟨id,rfl⟩);simpa using this
 ·have aj:k=q.parts.length:=Agm;subst aj;rw[Adu]at hE;generalize hM:q.parts.length=M at*
  have HM:Agt _:=hM;clear hM ah hk
  repeat' first|refine Z1 ?_|refine Z8 fun ya J=>?_|refine Z4 ?_;clear J ya|refine Z2 ?_ ?_<;>intro h ab<;>try exact Xp|refine Z3 ?_|exact Zt|apply J.out;clear J ya
  refine Ad (fun m s N'=>∃(k i3:Nat) (xs:List AV),m=q.nots.length-k/\k<=q.nots.length/\s 3=sl i3 (1+M+k) xs/\s 25=sl inn q.nots.length nc/\s 26=ic q.nots.length/\s 27=ic k/\Keep N N'/\Own N N' i3 (1+M+k)/\xs.length=(1+M+k)*2/\Agt (EL Nk (q.head::(q.parts.map (·.a)++q.nots.take k)) xs)) q.nots.length
   ⟨0,i3,xs,Agm,Agm,Agn,Agn,Agn,Ago,hK,by simpa using hO,by simpa using ad,by simpa using hE⟩ ?_
  clear hE ad hO h3 h1 ax aw av hK ap ob ao;rintro m s N' ⟨k,i3,xs,rfl,hk,h3,a4,a3,a0,hK,hO,ad,hE⟩;have ao:=hK.nobj;by_cases ah:k<q.nots.length
  ·have aa:=Adn ah;obtain⟨id,r,hd⟩:=I4 hN aa;generalize q.nots[k]=w at hd aa;have HG:Agt (q.nots[k]?=some w):=aa;clear aa
   repeat' first|refine Z1 ?_|refine Z8 fun ya J=>?_|refine Z4 ?_;clear J ya|refine Z2 ?_ ?_<;>intro h ab<;>try exact Xp|refine Z3 ?_|exact Zt|apply J.out;clear J ya
   refine Bz (by first|exact Fa) ((hK.new _).put hK.nobj _) (Own.put (Own.new hO _) _ _) (by decide) (by rfl) (ad) (by rfl) (by rfl) (by decide) Agm Agm ?_;intro idn Nn ak au ae ac an af;refine Z3 ?_
   repeat' first|refine Z1 ?_|refine Z8 fun ya J=>?_|refine Z4 ?_;clear J ya|refine Z2 ?_ ?_<;>intro h ab<;>try exact Xp|refine Z3 ?_|exact Zt|apply J.out;clear J ya
   refine⟨q.nots.length-(k+1),Agm,k+1,idn,xs++[ic w.p,sl id w.ts.length (Af w.ts)],rfl,Agm,by simp[Adw],by simp,by simpa[Adw]using ak,by simp;omega,?_⟩;rw[Agt,Ad0,HG.out];have:=EL.append hE.out (EL.single (E:=Nk) (a:=w) ⟨id,rfl⟩);simpa using this
  ·have aj:k=q.nots.length:=Agm;subst aj;rw[Adu]at hE;have ai:(atomsQ q).length=1+M+q.nots.length:=by have:=HM.out;simp[atomsQ];omega
   repeat' first|refine Z1 ?_|refine Z8 fun ya J=>?_|refine Z4 ?_;clear J ya|refine Z2 ?_ ?_<;>intro h ab<;>try exact Xp|refine Z3 ?_|exact Zt|apply J.out;clear J ya
   exact⟨_,rfl,i3,xs,by first|rfl|rw[ai],by simpa[atomsQ]using hE.out⟩
end Go.Proofs.YtmoeoppbmhfbpaaGreatDoorD
