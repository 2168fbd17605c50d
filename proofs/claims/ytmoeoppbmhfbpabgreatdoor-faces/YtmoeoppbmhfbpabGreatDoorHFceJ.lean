import Derived.Test.YtmoeoppbmhfbpabGreatDoorHAwkB
import Derived.Test.YtmoeoppbmhfbpabGreatDoorHPrtH
set_option linter.all false
namespace Go.Proofs.YtmoeoppbmhfbpabGreatDoorH
set_option maxHeartbeats 64000000
open Go.Abs
set_option maxRecDepth 100000
theorem cR (j:St):ACalls Tryz.prog 12 [] j fun r j'=>r=sc (.bool true)/\Keep j j':=by
 have hO:=fun j=>K9 tAw [97,114] 9 Ad2 j;have ai:({data:=#[112,40,65,41,58,45,101,40,65,44,66,41,44,102,40,66,41,46,112,40,88,41,58,45,101,40,88,44,89,41,44,101,40,88,44,90,41,46,63,112,46]}:ByteArray)=bs tAw:=rfl;have ah:({data:=#[97,114]}:ByteArray)=bs [97,114]:=rfl;have af:({data:=#[112,40,65,41,58,45,101,40,65,44,66,41,46,63,112,46]}:ByteArray)=bs [112,40,65,41,58,45,101,40,65,44,66,41,46,63,112,46]:=rfl;have ae:(([112,40,65,41,58,45,101,40,65,44,66,41,46,63,112,46]:Tx)==[112,40,65,41,58,45,101,40,65,44,66,41,46,63,112,46])=true:=rfl;refine Z9 19 [.tmp 0] Tryz.func12 ?_
 repeat' (first|refine Z1 ?_|(refine Z8 ?_;intro κ hκ)|(refine Z4 ?_;clear hκ κ)|(refine Z2 ?_ ?_<;>intro h ad<;>try exact Xp)|(refine Z5 ?_;refine Xi (hO _) ?_;rintro _ _ ⟨p0,rfl,ab,aa⟩;(have e0:=dR ab;subst e0;clear ab;have ac:=aa.nobj))|refine Z3 ?_|exact⟨⟩|(apply hκ.out;clear hκ κ))
 first|exact⟨_,rfl,rfl,aa⟩|exact⟨_,rfl,aa⟩|exact⟨_,rfl,rfl⟩
theorem gI (j:St):ACalls Tryz.prog 13 [] j fun r j'=>r=sc (.bool true)/\Keep j j':=by
 have hO:=fun j=>K9 tUs [117,115] 9 Ad2 j;have hP:=fun j=>K9 tLi [108] 1 Ad2 j;have au:({data:=#[113,40,65,41,58,45,112,40,65,44,66,41,44,103,40,66,41,46,112,40,65,44,49,41,58,45,104,40,65,41,46,112,40,65,44,66,41,58,45,107,40,66,44,65,41,46,63,113,46]}:ByteArray)=bs tUs:=rfl;have ar:({data:=#[117,115]}:ByteArray)=bs [117,115]:=rfl;have ap:({data:=#[113,40,65,41,58,45,104,40,65,41,44,103,40,49,41,46,113,40,65,41,58,45,107,40,66,44,65,41,44,103,40,66,41,46,63,113,46]}:ByteArray)=bs (B8 [H4,H3,Fi]):=by rw[uI];rfl
 have ao:({data:=#[112,40,65,44,66,41,58,45,101,40,65,44,66,41,46,112,40,65,44,66,41,58,45,112,40,65,44,67,41,44,112,40,67,44,66,41,46,63,112,46]}:ByteArray)=bs tLi:=rfl;have an:({data:=#[108]}:ByteArray)=bs [108]:=rfl;have am:({data:=#[112,40,65,44,66,41,58,45,101,40,65,44,66,41,46,112,40,65,44,66,41,58,45,101,40,65,44,67,41,44,112,40,67,44,66,41,46,63,112,46]}:ByteArray)=bs (B8 [xL0,oM,Pk]):=by rw[vT];rfl
 have ak:(B8 [H4,H3,Fi] !=B8 [H4,H3,Fi])=false:=by simp
 have aj:(B8 [xL0,oM,Pk]==B8 [xL0,oM,Pk])=true:=by simp
 have HU:Ad8 _:=@vV;have HL:Ad8 _:=@yY;generalize B8 [H4,H3,Fi]=w1 at*
 generalize B8 [xL0,oM,Pk]=w2 at*
 refine Z9 37 [.tmp 0] Tryz.func13 ?_
 repeat' (first|refine Z1 ?_|(refine Z8 ?_;intro κ hκ)|(refine Z4 ?_;clear hκ κ)|(refine Z2 ?_ ?_<;>intro h ai<;>try exact Xp)|(refine Z5 ?_;first|(refine Xi (hO _) ?_;rintro _ _ ⟨p0,rfl,ab,ae⟩;(have e0:=HU.out ab;subst e0;clear ab;have ah:=ae.nobj))|(refine Xi (hP _) ?_;rintro _ _ ⟨p1,rfl,aa,ad⟩;(have e1:=HL.out aa;subst e1;clear aa;have af:=ad.nobj)))|refine Z3 ?_|exact⟨⟩|(apply hκ.out;clear hκ κ))
 have ac:=ae.trans ad
 first|exact⟨_,rfl,rfl,ac⟩|exact⟨_,rfl,ac⟩|exact⟨_,rfl,rfl⟩
theorem O2 (t:Tx)(c:UInt8)(ht:t.length<=100000)(j:St):ACalls Tryz.prog 44 [str t,sc (.int .u8 c.toNat)] j fun r j'=>r=sc (.bool (decide (c∈t)))/\j'=j:=by
 have hC:=fun j=>Kl t c ht j;have he:decide ((0:Int)<((t.count c:Nat):Int))=decide (c∈t):=by
  have:=List.count_pos_iff (a:=c) (l:=t);by_cases h:c∈t
  ·have:=this.2 h;simp only[h,decide_true,Adx];omega
  ·have h2:¬0<t.count c:=fun g=>h (this.1 g);simp only[h,decide_false,decide_eq_false_iff_not];omega
 generalize decide (c∈t)=bb at*
 generalize t.count c=n at*
 refine Z9 9 [.tmp 4] Tryz.func44 ?_
 repeat' (first|refine Z1 ?_|(refine Z8 ?_;intro κ hκ)|(refine Z4 ?_;clear hκ κ)|(refine Z2 ?_ ?_<;>intro h aa<;>try exact Xp)|(refine Z5 ?_;refine Xi (hC _) ?_;rintro _ _ ⟨rfl,rfl⟩)|refine Z3 ?_|exact⟨⟩|(apply hκ.out;clear hκ κ))
 all_goals first|exact⟨_,rfl,rfl,rfl⟩|exact⟨_,rfl,rfl⟩|exact⟨_,rfl,by rw[he],rfl⟩|exact⟨_,rfl,by rw[he]⟩
theorem qU (c:UInt8):decide (c∈([115,97,114,117,108]:Tx))=Hh c:=by simp[Hh]
theorem Ya (t:Tx)(j:St):ACalls Tryz.prog 42 [str t] j fun r j'=>r=sc (.bool (B6 t))/\j'=j:=by
 have hI:=fun c j=>O2 [115,97,114,117,108] c (by simp) j;have ae:({data:=#[115,97,114,117,108]}:ByteArray)=bs [115,97,114,117,108]:=rfl;by_cases h8:8<t.length
 ·have hb:decide ((8:Int)<(t.length:Int))=true:=by simp;omega
  have HL:Ad8 (B6 t=false):=by rw[Ad8,B6,Ad0 Ad2];rfl
  refine Z9 18 [.tmp 2] Tryz.func42 ?_
  repeat' (first|refine Z1 ?_|(refine Z8 ?_;intro κ hκ)|(refine Z4 ?_;clear hκ κ)|(refine Z2 ?_ ?_<;>intro h aa<;>try exact Xp)|refine Z3 ?_|exact⟨⟩|(apply hκ.out;clear hκ κ))
  exact⟨_,rfl,by rw[HL.out]⟩
 ·have hb:decide ((8:Int)<(t.length:Int))=false:=by simp;omega
  refine Z9 18 [.tmp 2] Tryz.func42 ?_
  repeat' (first|refine Z1 ?_|(refine Z8 ?_;intro κ hκ)|(refine Z4 ?_;clear hκ κ)|(refine Z2 ?_ ?_<;>intro h aa<;>try exact Xp)|refine Z3 ?_|exact⟨⟩|(apply hκ.out;clear hκ κ))
  refine Ad (fun m s j'=>∃i:Nat,m=t.length-i/\i<=t.length/\s 0=str t/\s 3=sc (.int .i64 i)/\j'=j/\Ad8 (∀c∈t.take i,Hh c=true)) t.length
   ⟨0,Ad2,Ad2,rfl,rfl,rfl,by simp[Ad8]⟩ ?_
  rintro m s j' ⟨i,rfl,hi,h0,h3,hj,hA⟩;by_cases ac:i<t.length
  ·have ab:=List.getElem?_eq_getElem ac;generalize t[i]=c at ab;have hI:=hI c;rw[qU]at hI;cases hc:Hh c with
   |true=>
    rw[hc]at hI;have HA:Ad8 (∀c∈t.take (i+1),Hh c=true):=by
     rw[Ad8,Abq,ab,Ac2];intro d hd;rcases Ack.1 hd with hd|hd
     ·exact hA.out d hd
     ·simp at hd;subst hd;exact hc
    clear hA hc
    repeat' (first|refine Z1 ?_|(refine Z8 ?_;intro κ hκ)|(refine Z4 ?_;clear hκ κ)|(refine Z2 ?_ ?_<;>intro h aa<;>try exact Xp)|(refine Z5 ?_;refine Xi (hI _) ?_;rintro _ _ ⟨rfl,rfl⟩)|refine Z3 ?_|exact⟨⟩|(apply hκ.out;clear hκ κ))
    refine⟨t.length-(i+1),Ad2,i+1,?_⟩
    ((repeat' with_reducible refine And.intro ?_ ?_)<;>first|exact Xq|exact (HA)|exact Xs)
   |false=>
    rw[hc]at hI;have HL:Ad8 (B6 t=false):=by
     have:t.all Hh=false:=Ade.2 ⟨c,Abh ab,by simp[hc]⟩;rw[Ad8,B6,this];simp
    clear hA hc
    repeat' (first|refine Z1 ?_|(refine Z8 ?_;intro κ hκ)|(refine Z4 ?_;clear hκ κ)|(refine Z2 ?_ ?_<;>intro h aa<;>try exact Xp)|(refine Z5 ?_;refine Xi (hI _) ?_;rintro _ _ ⟨rfl,rfl⟩)|refine Z3 ?_|exact⟨⟩|(apply hκ.out;clear hκ κ))
    exact⟨_,rfl,by rw[HL.out]⟩
  ·have ad:i=t.length:=Ad2;have HL:Ad8 (B6 t=true):=by
    have:=hA.out;rw[ad,Abn]at this;rw[Ad8,B6,Ad1 Ad2,Abg.2 this];rfl
   clear hA
   repeat' (first|refine Z1 ?_|(refine Z8 ?_;intro κ hκ)|(refine Z4 ?_;clear hκ κ)|(refine Z2 ?_ ?_<;>intro h aa<;>try exact Xp)|refine Z3 ?_|exact⟨⟩|(apply hκ.out;clear hκ κ))
   exact⟨_,rfl,by rw[HL.out]⟩
def V3 (t ps:Tx)(b:Int):Int:=if (Au t).1≠0 then (Au t).1 else if B6 ps=false then 11 else if b<0 then 6 else 0
theorem Us (t ps:Tx)(b:Int)(j:St):ACalls Tryz.prog 18 [str t,str ps,sc (.int .i64 b)] j fun r j'=>r=sc (.int .i64 (V3 t ps b))/\Keep j j':=by
 have hC:=fun j=>Tt t j;have hL:=fun j=>Ya ps j;unfold V3;generalize Au t=r at*
 obtain⟨e,pl⟩:=r;by_cases he:e=0
 ·subst he;have ad:(((0:Int)) !=0)=false:=rfl;rw[if_neg (by simp)];cases hp:B6 ps with
  |false=>
   rw[hp]at hL;refine Z9 25 [.tmp 6] Tryz.func18 ?_
   repeat' (first|refine Z1 ?_|(refine Z8 ?_;intro κ hκ)|(refine Z4 ?_;clear hκ κ)|(refine Z2 ?_ ?_<;>intro h ac<;>try exact Xp)|(refine Z5 ?_;first|(refine Xi (hC _) ?_;rintro _ _ ⟨rfl,aa⟩;(have ab:=aa.nobj))|(refine Xi (hL _) ?_;rintro _ _ ⟨rfl,rfl⟩))|refine Z3 ?_|exact⟨⟩|(apply hκ.out;clear hκ κ))
   first|exact⟨_,rfl,rfl,aa⟩|exact⟨_,rfl,aa⟩|exact⟨_,rfl,rfl⟩
  |true=>
   rw[hp]at hL;rw[if_neg (by simp)];by_cases hb:b<0
   ·have ae:decide (b<0)=true:=by simpa using hb
    rw[if_pos hb];refine Z9 25 [.tmp 6] Tryz.func18 ?_
    repeat' (first|refine Z1 ?_|(refine Z8 ?_;intro κ hκ)|(refine Z4 ?_;clear hκ κ)|(refine Z2 ?_ ?_<;>intro h ac<;>try exact Xp)|(refine Z5 ?_;first|(refine Xi (hC _) ?_;rintro _ _ ⟨rfl,aa⟩;(have ab:=aa.nobj))|(refine Xi (hL _) ?_;rintro _ _ ⟨rfl,rfl⟩))|refine Z3 ?_|exact⟨⟩|(apply hκ.out;clear hκ κ))
    first|exact⟨_,rfl,rfl,aa⟩|exact⟨_,rfl,aa⟩|exact⟨_,rfl,rfl⟩
   ·have ae:decide (b<0)=false:=by simpa using hb
    rw[if_neg hb];refine Z9 25 [.tmp 6] Tryz.func18 ?_
    repeat' (first|refine Z1 ?_|(refine Z8 ?_;intro κ hκ)|(refine Z4 ?_;clear hκ κ)|(refine Z2 ?_ ?_<;>intro h ac<;>try exact Xp)|(refine Z5 ?_;first|(refine Xi (hC _) ?_;rintro _ _ ⟨rfl,aa⟩;(have ab:=aa.nobj))|(refine Xi (hL _) ?_;rintro _ _ ⟨rfl,rfl⟩))|refine Z3 ?_|exact⟨⟩|(apply hκ.out;clear hκ κ))
    first|exact⟨_,rfl,rfl,aa⟩|exact⟨_,rfl,aa⟩|exact⟨_,rfl,rfl⟩
 ·have ad:(e !=0)=true:=by simpa using he
  rw[if_pos he];refine Z9 25 [.tmp 6] Tryz.func18 ?_
  repeat' (first|refine Z1 ?_|(refine Z8 ?_;intro κ hκ)|(refine Z4 ?_;clear hκ κ)|(refine Z2 ?_ ?_<;>intro h ac<;>try exact Xp)|(refine Z5 ?_;refine Xi (hC _) ?_;rintro _ _ ⟨rfl,aa⟩;(have ab:=aa.nobj))|refine Z3 ?_|exact⟨⟩|(apply hκ.out;clear hκ κ))
  first|exact⟨_,rfl,rfl,aa⟩|exact⟨_,rfl,aa⟩|exact⟨_,rfl,rfl⟩
theorem Yb (t ps T:Tx)(m:Int)(ht:t.length<=600)(hT:T.length<=600)(hp:ps.length<=8)(hm:0<=m)(h:117∈ps\/(108∈ps/\T.count 40<=t.count 40)\/(108∉ps/\((T.count 40:Nat):Int)+m<=((t.count 40:Nat):Int)))(j:St):ACalls Tryz.prog 23 [str t,str ps,str T,sc (.int .i64 m)] j fun r j'=>r=sc (.bool true)/\j'=j:=by
 have h1:=fun j=>Kl t 40 Ad2 j;have h2:=fun j=>Kl T 40 Ad2 j;have h3:=fun j=>O2 ps 117 Ad2 j;have h4:=fun j=>O2 ps 108 Ad2 j;have e40:((40:UInt8).toNat:Int)=40:=rfl;have e117:((117:UInt8).toNat:Int)=117:=rfl;have e108:((108:UInt8).toNat:Int)=108:=rfl;have ad:t.count 40<=t.length:=List.count_le_length;have ae:T.count 40<=T.length:=List.count_le_length;rw[e40]at h1 h2;rw[e117]at h3;rw[e108]at h4;generalize t.count 40=a at*
 generalize T.count 40=b at*
 by_cases hu:(117:UInt8)∈ps
 ·rw[Ad1 hu]at h3;clear h hu;refine Z9 27 [.tmp 8] Tryz.func23 ?_
  repeat' (first|refine Z1 ?_|(refine Z8 ?_;intro κ hκ)|(refine Z4 ?_;clear hκ κ)|(refine Z2 ?_ ?_<;>intro h aa<;>try exact Xp)|(refine Z5 ?_;first|(refine Xi (h1 _) ?_;rintro _ _ ⟨rfl,rfl⟩)|(refine Xi (h2 _) ?_;rintro _ _ ⟨rfl,rfl⟩)|(refine Xi (h3 _) ?_;rintro _ _ ⟨rfl,rfl⟩))|refine Z3 ?_|exact⟨⟩|(apply hκ.out;clear hκ κ))
  first|exact⟨_,rfl,rfl,rfl⟩|exact⟨_,rfl,rfl⟩
 ·rw[Ad0 hu]at h3;by_cases hl:(108:UInt8)∈ps
  ·rw[Ad1 hl]at h4;have ac:decide ((b:Int)<=(a:Int))=true:=by
    rcases h with h|⟨-,h⟩|⟨h,-⟩
    ·exact absurd h hu
    ·simpa using h
    ·exact absurd hl h
   clear h hu hl;refine Z9 27 [.tmp 8] Tryz.func23 ?_
   repeat' (first|refine Z1 ?_|(refine Z8 ?_;intro κ hκ)|(refine Z4 ?_;clear hκ κ)|(refine Z2 ?_ ?_<;>intro h aa<;>try exact Xp)|(refine Z5 ?_;first|(refine Xi (h1 _) ?_;rintro _ _ ⟨rfl,rfl⟩)|(refine Xi (h2 _) ?_;rintro _ _ ⟨rfl,rfl⟩)|(refine Xi (h3 _) ?_;rintro _ _ ⟨rfl,rfl⟩)|(refine Xi (h4 _) ?_;rintro _ _ ⟨rfl,rfl⟩))|refine Z3 ?_|exact⟨⟩|(apply hκ.out;clear hκ κ))
   first|exact⟨_,rfl,rfl,rfl⟩|exact⟨_,rfl,rfl⟩
  ·rw[Ad0 hl]at h4;have ab:(b:Int)+m<=(a:Int):=by
    rcases h with h|⟨h,-⟩|⟨-,h⟩
    ·exact absurd h hu
    ·exact absurd h hl
    ·exact h
   have ac:decide ((b:Int)+m<=(a:Int))=true:=by simpa using ab
   clear h hu hl;refine Z9 27 [.tmp 8] Tryz.func23 ?_
   repeat' (first|refine Z1 ?_|(refine Z8 ?_;intro κ hκ)|(refine Z4 ?_;clear hκ κ)|(refine Z2 ?_ ?_<;>intro h aa<;>try exact Xp)|(refine Z5 ?_;first|(refine Xi (h1 _) ?_;rintro _ _ ⟨rfl,rfl⟩)|(refine Xi (h2 _) ?_;rintro _ _ ⟨rfl,rfl⟩)|(refine Xi (h3 _) ?_;rintro _ _ ⟨rfl,rfl⟩)|(refine Xi (h4 _) ?_;rintro _ _ ⟨rfl,rfl⟩))|refine Z3 ?_|exact⟨⟩|(apply hκ.out;clear hκ κ))
   first|exact⟨_,rfl,rfl,rfl⟩|exact⟨_,rfl,rfl⟩
theorem cQ (t T:Tx)(ht:t.length<=600)(hT:T.length<=600)(a3:(Dn t).length<=16)(a0:(Dn T).length<=16)(sh:∀p∈Dn T,p.length<=100000/\(F1 p).length<=1000)(sht:∀p∈Dn t,p.length<=100000/\(F1 p).length<=1000)(ax:(F1 t).length<=2000000)(az:(F1 T).length<=2000000)(h:∀q∈F1 T,q∈F1 t/\(0<Iq q (Dn t)↔0<Iq q (Dn T)))(j:St):ACalls Tryz.prog 24 [str t,str T] j fun r j'=>r=sc (.bool true)/\Keep j j':=by
 have c1:=fun j=>Fp t Ad2 j;have c2:=fun j=>Fp T Ad2 j;have c3:=fun j=>F5 t Ad2 j;have c4:=fun j=>F5 T Ad2 j;have r1:=fun ids q j=>Pv (Dn t) ids q Ad2 sht j;have r2:=fun ids q j=>Pv (Dn T) ids q Ad2 sh j;have H:Ad8 _:=h;clear h sh sht;generalize Dn t=L at*
 generalize Dn T=M at*
 generalize F1 t=K at*
 generalize F1 T=P at*
 have am:=fun ids q j=>cS K ids q ax j;refine Z9 67 [.tmp 4] Tryz.func24 ?_
 repeat' (first|refine Z1 ?_|(refine Z8 ?_;intro κ hκ)|(refine Z4 ?_;clear hκ κ)|(refine Z2 ?_ ?_<;>intro h ac<;>try exact Xp)|(refine Z5 ?_;first|(refine Xi (c1 _) ?_;rintro _ _ ⟨⟨i1,rfl⟩,ar⟩;(have aj:=ar.nobj))|(refine Xi (c2 _) ?_;rintro _ _ ⟨⟨i2,rfl⟩,ap⟩;(have ai:=ap.nobj))|(refine Xi (c3 _) ?_;rintro _ _ ⟨⟨i3,rfl⟩,ao⟩;(have ah:=ao.nobj))|(refine Xi (c4 _) ?_;rintro _ _ ⟨⟨i4,rfl⟩,an⟩;(have af:=an.nobj)))|refine Z3 ?_|exact⟨⟩|(apply hκ.out;clear hκ κ))
 have aw:=((ar.trans ap).trans ao).trans an;clear ar ap ao an aj ai ah af c1 c2 c3 c4
 refine Ad (fun m' s j'=>∃(i:Nat),m'=P.length-i/\i<=P.length/\s 5=sl i1 L.length (L.map str)/\s 6=sl i2 M.length (M.map str)/\s 7=sl i3 K.length (K.map str)/\s 8=sl i4 P.length (P.map str)/\s 9=sc (.int .i64 i)/\Keep j j') P.length
  ⟨0,Ad2,Ad2,rfl,rfl,rfl,rfl,rfl,aw⟩ ?_
 clear aw;rintro m' s j5 ⟨i,rfl,hi,h5,h6,h7,h8,h9,hK⟩;have ad:=hK.nobj;by_cases av:i<P.length
 ·have ay:=Cm av;have ab:=Acz av;generalize P[i]=q at ay ab;obtain⟨au,ae⟩:=H.out q ab;have am:=fun ids=>am ids q;rw[Ad1 au]at am;have r1:=fun ids=>r1 ids q;have r2:=fun ids=>r2 ids q;clear au ab;generalize Iq q L=rl at*
  generalize Iq q M=rm at*
  by_cases hr:0<rl
  ·have ak:=ae.1 hr;have b1:decide ((0:Int)<(rl:Int))=true:=by simpa using hr
   have b2:((rm:Int)==0)=false:=by simp;omega
   have b3:((rl:Int)==0)=false:=by simp;omega
   clear ae hr ak
   repeat' (first|refine Z1 ?_|(refine Z8 ?_;intro κ hκ)|(refine Z4 ?_;clear hκ κ)|(refine Z2 ?_ ?_<;>intro h ac<;>try exact Xp)|(refine Z5 ?_;first|(refine Xi (am _ _) ?_;rintro _ _ ⟨rfl,rfl⟩)|(refine Xi (r1 _ _) ?_;rintro _ _ ⟨rfl,aa⟩;(have hK:=hK.trans aa;have ad:=hK.nobj;clear aa))|(refine Xi (r2 _ _) ?_;rintro _ _ ⟨rfl,aa⟩;(have hK:=hK.trans aa;have ad:=hK.nobj;clear aa)))|refine Z3 ?_|exact⟨⟩|(apply hκ.out;clear hκ κ))
   refine⟨P.length-(i+1),Ad2,i+1,?_⟩
   ((repeat' with_reducible refine And.intro ?_ ?_)<;>first|exact Xq|exact (hK)|exact Xs)
  ·have ak:¬0<rm:=fun g=>hr (ae.2 g);have b1:decide ((0:Int)<(rl:Int))=false:=by simp;omega
   have b2:decide ((0:Int)<(rm:Int))=false:=by simp;omega
   have b3:((rl:Int)==0)=true:=by simp;omega
   clear ae hr ak
   repeat' (first|refine Z1 ?_|(refine Z8 ?_;intro κ hκ)|(refine Z4 ?_;clear hκ κ)|(refine Z2 ?_ ?_<;>intro h ac<;>try exact Xp)|(refine Z5 ?_;first|(refine Xi (am _ _) ?_;rintro _ _ ⟨rfl,rfl⟩)|(refine Xi (r1 _ _) ?_;rintro _ _ ⟨rfl,aa⟩;(have hK:=hK.trans aa;have ad:=hK.nobj;clear aa))|(refine Xi (r2 _ _) ?_;rintro _ _ ⟨rfl,aa⟩;(have hK:=hK.trans aa;have ad:=hK.nobj;clear aa)))|refine Z3 ?_|exact⟨⟩|(apply hκ.out;clear hκ κ))
   refine⟨P.length-(i+1),Ad2,i+1,?_⟩
   ((repeat' with_reducible refine And.intro ?_ ?_)<;>first|exact Xq|exact (hK)|exact Xs)
 ·repeat' (first|refine Z1 ?_|(refine Z8 ?_;intro κ hκ)|(refine Z4 ?_;clear hκ κ)|(refine Z2 ?_ ?_<;>intro h ac<;>try exact Xp)|refine Z3 ?_|exact⟨⟩|(apply hκ.out;clear hκ κ))
  first|exact⟨_,rfl,rfl,hK⟩|exact⟨_,rfl,hK⟩|exact⟨_,rfl,rfl⟩
theorem qM:∀(t:Tx) (d:List Tx) (u:Tx),(t.foldl Po (d,u)).1.length+(if (t.foldl Po (d,u)).2=[]then 0 else 1)<=d.length+(if u=[]then 0 else 1)+t.length
 |[],d,u=>Abb _
 |c::t,d,u=>by
  rw[Abm];have h:=qM t (Po (d,u) c).1 (Po (d,u) c).2;have e:((Po (d,u) c).1,(Po (d,u) c).2)=Po (d,u) c:=rfl;rw[e]at h;have h2:(Po (d,u) c).1.length+(if (Po (d,u) c).2=[]then 0 else 1)<=d.length+(if u=[]then 0 else 1)+1:=by
   unfold Po;split
   ·simp only;split<;>split<;>omega
   ·simp only;split<;>simp<;>omega
  simp only[Aca];omega
theorem qJ (t:Tx):(F1 t).length<=t.length:=by
 have:=qM t [] [];unfold F1;simp at this;omega
theorem faces_spec (t ps:Tx)(b:Int)(h0: -9223372036854775808<=b)(h1:b<=9223372036854775807)(j:St):ACalls Tryz.prog 6 [str t,str ps,sc (.int .i64 b)] j fun r j'=>r=sc (.bool true)/\Keep j j':=by
 have a9:=fun j=>cR j;have a5:=fun j=>gI j;have a4:=fun j=>K9 t ps b h1 j;have ai:=fun j=>Us t ps b j;refine Z9 107 [.tmp 6] Tryz.func6 ?_
 repeat' (first|refine Z1 ?_|(refine Z8 ?_;intro κ hκ)|(refine Z4 ?_;clear hκ κ)|(refine Z2 ?_ ?_<;>intro h ad<;>try exact Xp)|(refine Z5 ?_;first|(refine Xi (a9 _) ?_;rintro _ _ ⟨rfl,av⟩;(have am:=av.nobj))|(refine Xi (a5 _) ?_;rintro _ _ ⟨rfl,au⟩;(have ak:=au.nobj)))|refine Z3 ?_|exact⟨⟩|(apply hκ.out;clear hκ κ))
 rename_i j2;refine ACalls.mono (a4 _) ?_;rintro _ j3 ⟨⟨T,m,e⟩,rfl,hp,ab⟩;have aa:=(av.trans au).trans ab;have ac:=aa.nobj;clear a9 a5 a4 av au ab am ak;rcases mY hp with⟨⟨ay,ah,ao,an⟩,ax⟩|⟨he,af,hb,ah,hA⟩
 ·simp only at ay ah ao an;have ae:V3 t ps b=e:=by
   rw[an];unfold V3;by_cases h1:(Au t).1≠0
   ·rw[if_pos h1,if_pos h1]
   ·rw[if_neg h1,if_neg h1];cases h2:B6 ps with
    |false=>rfl
    |true=>
     have hb:b<0:=by
      rcases ax with h|h|h
      ·exact absurd h h1
      ·rw[h2]at h;cases h
      ·exact h
     simp[hb]
  rw[ae]at ai;have bi:(e !=0)=true:=by simpa using ao
  have bh:(e !=e)=false:=by simp
  have be:(([]:Tx)==[])=true:=rfl;have bl:({data:=#[]}:ByteArray)=bs []:=rfl;clear hp ax an ao ae;subst ay;subst ah;refine Z3 ?_
  repeat' (first|refine Z1 ?_|(refine Z8 ?_;intro κ hκ)|(refine Z4 ?_;clear hκ κ)|(refine Z2 ?_ ?_<;>intro h ad<;>try exact Xp)|(refine Z5 ?_;refine Xi (ai _) ?_;rintro _ _ ⟨rfl,ab⟩;(have a7:=aa.trans ab;have ba:=ab.nobj))|refine Z3 ?_|exact⟨⟩|(apply hκ.out;clear hκ κ))
  first|exact⟨_,rfl,rfl,a7⟩|exact⟨_,rfl,rfl⟩|exact⟨_,rfl,a7⟩
 ·simp only at ah hA;subst ah;have ae:V3 t ps b=0:=by
   unfold V3;rw[if_neg (by simp[he]),if_neg (by simp[af]),if_neg Ad2]
  rw[ae]at ai;have bb:ps.length<=8:=by
   unfold B6 at af;simp only[Abj,Adx]at af;exact af.1
  have az:=hA.lt;have a0:=hA.lT;have aw:=fun j=>Tt T j;have ap:=fun j=>bI T j;rw[hA.chk]at aw;rw[hA.prt]at ap;have ar:=fun j=>L1 T Ad2 (by have:=hA.few;omega) (fun p hp=>(hA.sh p hp).1) j;have a3:=fun j=>L1 t Ad2 (by have:=hA.few;omega) (fun p hp=>(hA.sht p hp).1) j;rw[hA.out]at ar;have bc:=fun j=>Fp t Ad2 j;have bd:=fun j=>Fp T Ad2 j;have a6:=fun j=>Yb t ps T m az a0 bb hA.rng.1 hA.les j;have a8:=fun j=>cQ t T az a0 hA.few.1 hA.few.2 hA.sh hA.sht (by have:=qJ t;omega) (by have:=qJ T;omega) hA.fac j;have aj:=fun (hm:m=0) idl idm j=>Ur (Dn t) (Dn T) idl idm (hA.same hm).1 (by have:=hA.few.1;omega) (hA.same hm).2 j;obtain⟨bg,bf⟩:=hA.rng;clear hp he af hA ae;generalize Dn t=L at*
  generalize Dn T=M at*
  generalize Fy L=oo at*
  have b1:(((0:Int)) !=0)=false:=rfl;have b2:(T !=T)=false:=by simp
  have b3:decide (m<0)=false:=by simp;omega
  have b4:decide (b<m)=false:=by simp;omega
  have b5:(oo !=oo)=false:=by simp
  by_cases hm:m=0
  ·have aj:=aj hm;have b6:(m==0)=true:=by simpa using hm
   clear hm;refine Z3 ?_
   repeat' (first|refine Z1 ?_|(refine Z8 ?_;intro κ hκ)|(refine Z4 ?_;clear hκ κ)|(refine Z2 ?_ ?_<;>intro h ad<;>try exact Xp)|(refine Z5 ?_;first|(refine Xi (ai _) ?_;rintro _ _ ⟨rfl,ab⟩;(have aa:=aa.trans ab;have ac:=aa.nobj;clear ab))|(refine Xi (aw _) ?_;rintro _ _ ⟨rfl,ab⟩;(have aa:=aa.trans ab;have ac:=aa.nobj;clear ab))|(refine Xi (ap _) ?_;rintro _ _ ⟨rfl,ab⟩;(have aa:=aa.trans ab;have ac:=aa.nobj;clear ab))|(refine Xi (ar _) ?_;rintro _ _ ⟨rfl,ab⟩;(have aa:=aa.trans ab;have ac:=aa.nobj;clear ab))|(refine Xi (a3 _) ?_;rintro _ _ ⟨rfl,ab⟩;(have aa:=aa.trans ab;have ac:=aa.nobj;clear ab))|(refine Xi (bc _) ?_;rintro _ _ ⟨⟨id1,rfl⟩,ab⟩;(have aa:=aa.trans ab;have ac:=aa.nobj;clear ab))|(refine Xi (bd _) ?_;rintro _ _ ⟨⟨id2,rfl⟩,ab⟩;(have aa:=aa.trans ab;have ac:=aa.nobj;clear ab))|(refine Xi (aj _ _ _) ?_;rintro _ _ ⟨rfl,ab⟩;(have aa:=aa.trans ab;have ac:=aa.nobj;clear ab))|(refine Xi (a6 _) ?_;rintro _ _ ⟨rfl,rfl⟩)|(refine Xi (a8 _) ?_;rintro _ _ ⟨rfl,ab⟩;(have aa:=aa.trans ab;have ac:=aa.nobj;clear ab)))|refine Z3 ?_|exact⟨⟩|(apply hκ.out;clear hκ κ))
   first|exact⟨_,rfl,rfl,aa⟩|exact⟨_,rfl,rfl⟩|exact⟨_,rfl,aa⟩
  ·have b6:(m==0)=false:=by simpa using hm
   clear hm aj;refine Z3 ?_
   repeat' (first|refine Z1 ?_|(refine Z8 ?_;intro κ hκ)|(refine Z4 ?_;clear hκ κ)|(refine Z2 ?_ ?_<;>intro h ad<;>try exact Xp)|(refine Z5 ?_;first|(refine Xi (ai _) ?_;rintro _ _ ⟨rfl,ab⟩;(have aa:=aa.trans ab;have ac:=aa.nobj;clear ab))|(refine Xi (aw _) ?_;rintro _ _ ⟨rfl,ab⟩;(have aa:=aa.trans ab;have ac:=aa.nobj;clear ab))|(refine Xi (ap _) ?_;rintro _ _ ⟨rfl,ab⟩;(have aa:=aa.trans ab;have ac:=aa.nobj;clear ab))|(refine Xi (ar _) ?_;rintro _ _ ⟨rfl,ab⟩;(have aa:=aa.trans ab;have ac:=aa.nobj;clear ab))|(refine Xi (a3 _) ?_;rintro _ _ ⟨rfl,ab⟩;(have aa:=aa.trans ab;have ac:=aa.nobj;clear ab))|(refine Xi (a6 _) ?_;rintro _ _ ⟨rfl,rfl⟩)|(refine Xi (a8 _) ?_;rintro _ _ ⟨rfl,ab⟩;(have aa:=aa.trans ab;have ac:=aa.nobj;clear ab)))|refine Z3 ?_|exact⟨⟩|(apply hκ.out;clear hκ κ))
   first|exact⟨_,rfl,rfl,aa⟩|exact⟨_,rfl,rfl⟩|exact⟨_,rfl,aa⟩
end Go.Proofs.YtmoeoppbmhfbpabGreatDoorH
