import Derived.Test.YtmoeoppbmhfbpabGreatDoorGTigA
import Derived.Test.YtmoeoppbmhfbpabGreatDoorGOptC
set_option maxHeartbeats 64000000
set_option maxRecDepth 100000
set_option linter.all false
namespace Go.Proofs.YtmoeoppbmhfbpabGreatDoorG
open Go.Abs
def iO (P:List Tm)(l:Lit):Lit:=⟨l.neg,Nc P l.a⟩
def El (P:List Tm)(r:D8):D8:=⟨Nc P r.head,r.body.map (iO P)⟩
def Qd (o:Bool)(r:D8)(c:List AV):Prop:=∃ih ib bc,c=[sc (.bool o),ic r.head.p,sl ih r.head.ts.length (Ac r.head.ts),sl ib r.body.length bc]/\EL Pi r.body bc
structure R52 (r:D8):Prop where
 h3:r.head.ts.length<=3
 b3:∀l∈r.body,l.a.ts.length<=3
 bl:r.body.length<=100
 hv:∀t∈r.head.ts,qP t
 bv:∀l∈r.body,∀t∈l.a.ts,qP t
theorem W5 (P:List Tm)(hP:P.length=52)(r:D8)(hr:R52 r)(o:Bool)(c:List AV)(hc:Qd o r c)(j:St):ACalls Tryz.prog 212 [ag (Ac P),ag c] j fun x j'=>(∃c',x=ag c'/\Qd false (El P r) c')/\Keep j j':=by
 obtain⟨ih,ib,bc,rfl,hb⟩:=hc;have hl:=Fz hP;have a7:=Gt hP;have a8:=Fs P;have a9:=EL.length F6 hb;have ba:=hr.bl;have hH:=fun j=>W6 P hP r.head ih hr.hv (by have:=hr.h3;omega) j;have hL:=fun (l:Lit) (h:l∈r.body) (ids:Nat) j=>W6 P hP l.a ids (hr.bv l h) (by have:=hr.b3 l h;omega) j;refine Z9 33 [.cell 4 125] Tryz.func212 ?_
 repeat' (first|refine Z1 ?_|(refine Z8 ?_;intro κ hκ)|(refine Z4 ?_;clear hκ κ)|(refine Z2 ?_ ?_<;>intro h ah<;>try exact Xp)|(refine Z6 ?_;intro idn jn ai aj af aa ae ab)|(refine Z5 ?_;refine Xi (hH _) ?_;rintro _ _ ⟨⟨id1,rfl⟩,ap⟩;(have ao:=ap.nobj;have ac:=ap.obj;simp only[Aa]at ao ac))|refine Z3 ?_|exact⟨⟩|(apply hκ.out;clear hκ κ))
 rename_i j1;have a0:Keep j j1:=Xs;have o0:j1.obj j.nobj=Ac P:=by rw[ac _ Agm,Af Agq,Af Agq,Ap]
 have o2:j1.obj (j.nobj+2)=[sc (.bool false),ic 0,nilS,nilS]:=by rw[ac _ Agm,Bs Agq Agq]
 clear hH ac
 refine Ag (fun m s j'=>∃(k i3:Nat) (xs:List AV),m=r.body.length-k/\k<=r.body.length/\s 2=ptr j.nobj 0/\s 4=ptr (j.nobj+2) 0/\s 5=ptr j1.nobj 0/\s 14=sl ib r.body.length bc/\s 15=ic r.body.length/\s 16=ic k/\Keep j j'/\j1.nobj<j'.nobj/\j'.obj j.nobj=Ac P/\j'.obj (j.nobj+2)=[sc (.bool false),ic 0,nilS,nilS]/\j'.obj j1.nobj=[sc (.bool false),ic r.head.p,sl id1 r.head.ts.length (Ac (r.head.ts.map (F9 P))),sl i3 k xs]/\Own j j' i3 k/\xs.length=k*3/\Agt (EL Pi ((r.body.take k).map (iO P)) xs)) r.body.length
  ⟨0,1,[],Agm,Agm,by simp[upd,initS],Ago,Ago,Ago,Ago,rfl,Xs,Ags,by rw[Ai Agm,Af Agm,o0],by rw[Ai Agm,Af Agm,o2],by rw[Aj],Own.nil _ _,by simp,by simp[Agt,EL]⟩ ?_
 clear o0 o2 a0 ap;rintro m s j' ⟨k,i3,xs,rfl,hk,h2,h4,h5,be,bd,bb,hK,hno,a5,a4,a3,hO,aw,hX⟩;have a6:=hK.nobj;by_cases au:k<r.body.length
 ·have ad:=List.getElem?_eq_getElem au;obtain⟨ia,rr,hd⟩:=Gx hb ad;have av:=fun j=>hL r.body[k] (Afa au) ia j;generalize r.body[k]=a at hd ad av;have HX:Agt (∀i4,EL Pi ((r.body.take (k+1)).map (iO P)) (xs++[sc (.bool a.neg),ic a.a.p,sl i4 a.a.ts.length (Ac (a.a.ts.map (F9 P)))])):=fun i4=>by
   rw[Ad3,ad,Afe,Ad5];exact EL.append hX.out (EL.single ⟨i4,by simp[iO,Nc]⟩)
  clear ad hX hL
  repeat' (first|refine Z1 ?_|(refine Z8 ?_;intro κ hκ)|(refine Z4 ?_;clear hκ κ)|(refine Z2 ?_ ?_<;>intro h ah<;>try exact Xp)|(refine Z6 ?_;intro idn jn ai aj af aa ae ab)|(refine Z5 ?_;refine Xi (av _) ?_;rintro _ _ ⟨⟨i4,rfl⟩,ak⟩;(have am:=ak.obj;have an:=ak.nobj;simp only[Aa,Ab]at an am))|refine Z3 ?_|exact⟨⟩|(apply hκ.out;clear hκ κ))
  rename_i j4;have az:=((hK.new [sc (.bool false),ic 0,nilS]).put hK.nobj _).trans ak;have ay:=Own.keep (Own.put (Own.new hO [sc (.bool false),ic 0,nilS]) j'.nobj [sc (.bool a.neg),ic a.a.p,sl ia a.a.ts.length (Ac a.a.ts)]) ak;refine Bm (by first|exact Ed) (az.put Agm _) (Own.put ay _ _) (by decide) (by rfl) aw (by rfl) (by rfl) (by decide) Agm Agm ?_;intro idn jn ai aj af aa ae ab;simp only[Ab,Aa]at aa;refine Z3 ?_
  repeat' (first|refine Z1 ?_|(refine Z8 ?_;intro κ hκ)|(refine Z4 ?_;clear hκ κ)|(refine Z2 ?_ ?_<;>intro h ah<;>try exact Xp)|(refine Z6 ?_;intro idn jn ai aj af aa ae ab)|refine Z3 ?_|exact⟨⟩|(apply hκ.out;clear hκ κ))
  refine⟨r.body.length-(k+1),Agm,k+1,idn,xs++[sc (.bool a.neg),ic a.a.p,sl i4 a.a.ts.length (Ac (a.a.ts.map (F9 P)))],?_⟩
  ((repeat' with_reducible refine And.intro ?_ ?_)<;>first|exact Xq|exact (HX.out i4)|exact (aj.put Agm _)|exact (Own.put ai _ _)|exact Xs)
 ·have ax:k=r.body.length:=Agm;subst ax;rw[Adz]at hX
  repeat' (first|refine Z1 ?_|(refine Z8 ?_;intro κ hκ)|(refine Z4 ?_;clear hκ κ)|(refine Z2 ?_ ?_<;>intro h ah<;>try exact Xp)|(refine Z6 ?_;intro idn jn ai aj af aa ae ab)|refine Z3 ?_|exact⟨⟩|(apply hκ.out;clear hκ κ))
  exact⟨_,rfl,⟨_,rfl,id1,i3,xs,by simp[El,Nc],hX.out⟩,hK.put Agm _⟩
def aprt:List Tm:=(List.range 52).map fun (i:Nat)=>if i<26 then (true,(26:Int)+i)else (false,0)
theorem fS:aprt.length=52:=by simp[aprt]
theorem apart_spec (r:D8)(hr:R52 r)(o:Bool)(c:List AV)(hc:Qd o r c)(j:St):ACalls Tryz.prog 209 [ag c] j fun x j'=>(∃c',x=ag c'/\Qd false (El aprt r) c')/\Keep j j':=by
 have hI:=fun j=>W5 aprt fS r hr o c hc j;obtain⟨ih,ib,bc,rfl,hb⟩:=hc;have aw:=Rn;have hz:=Ly;refine Z9 17 [.cell 2 125] Tryz.func209 ?_
 repeat' (first|refine Z1 ?_|(refine Z8 ?_;intro κ hκ)|(refine Z4 ?_;clear hκ κ)|(refine Z2 ?_ ?_<;>intro h aa<;>try exact Xp)|refine Z3 ?_|exact⟨⟩|(apply hκ.out;clear hκ κ))
 refine Ag (fun m s j'=>∃(k:Nat) (Q:List Tm),m=26-k/\k<=26/\s 1=ptr j.nobj 0/\s 2=ptr (j.nobj+1) 0/\s 3=ptr (j.nobj+2) 0/\s 4=ic k/\Keep j j'/\j.nobj+2<j'.nobj/\j'.obj j.nobj=[sc (.bool o),ic r.head.p,sl ih r.head.ts.length (Ac r.head.ts),sl ib r.body.length bc]/\j'.obj (j.nobj+1)=[sc (.bool false),ic 0,nilS,nilS]/\j'.obj (j.nobj+2)=Ac Q/\Q.length=52/\Agt (Q=aprt.take k++pt0.drop k)) 26
  ⟨0,pt0,Agm,Agm,Ago,Ago,Ago,Ago,Xs,Agq,?_,?_,?_,by simp[pt0],by simp[Agt]⟩ ?_
 ·rw[Af Agq,Af Agq,Ap]
 ·rw[Af Agq,Bs Agq Agq]
 ·rw[Bs Agq Agq]
 rintro m s j' ⟨k,Q,rfl,hk,h1,h2,h3,h4,hK,hno,an,am,ak,hQ,hA⟩;have ao:=hK.nobj;have av:=Fz hQ;by_cases af:k<26
 ·have ae:Agt (Q.set k (true,(26:Int)+k)=aprt.take (k+1)++pt0.drop (k+1)):=by
   rw[Agt,hA.out,gT (by simp[pt0];omega)];simp[aprt,af,show k<52 by omega]
  have au:=Lj (l:=Q) (i:=k) Agm true ((26:Int)+k);have ah:∀x,(Q.set k x).length=52:=fun x=>by rw[Af6,hQ]
  clear hA
  repeat' (first|refine Z1 ?_|(refine Z8 ?_;intro κ hκ)|(refine Z4 ?_;clear hκ κ)|(refine Z2 ?_ ?_<;>intro h aa<;>try exact Xp)|refine Z3 ?_|exact⟨⟩|(apply hκ.out;clear hκ κ))
  refine⟨26-(k+1),Agm,k+1,Q.set k (true,(26:Int)+k),?_⟩
  ((repeat' with_reducible refine And.intro ?_ ?_)<;>first|exact Xq|exact (ae)|exact (ah _)|exact Xs)
 ·have ai:k=26:=Agm;subst ai;have HQ:Q=aprt:=by rw[hA.out];rfl
  subst HQ;have ap:=Gt hQ;clear hA
  repeat' (first|refine Z1 ?_|(refine Z8 ?_;intro κ hκ)|(refine Z4 ?_;clear hκ κ)|(refine Z2 ?_ ?_<;>intro h aa<;>try exact Xp)|(refine Z5 ?_;refine Xi (hI _) ?_;rintro _ _ ⟨⟨c',rfl,hE⟩,ab⟩;(have ad:=ab.nobj;have ac:=ab.obj;obtain⟨jh,jb,jc,rfl,aj⟩:=hE))|refine Z3 ?_|exact⟨⟩|(apply hκ.out;clear hκ κ))
  exact⟨_,rfl,⟨_,rfl,jh,jb,jc,rfl,aj⟩,Xs⟩
def Ms (P:List Tm)(t u:Tm):Option (List Tm):=
 if F9 P t=F9 P u then some P else if (F9 P u).1=true then some (Rk P (F9 P u) (F9 P t))else if (F9 P t).1=true then some (Rk P (F9 P t) (F9 P u))else none
def Di:List Tm->List Tm->List Tm->Option (List Tm)
 |P,[],_=>some P
 |_,_::_,[]=>none
 |P,t::ts,u::us=>(Ms P t u).bind fun P'=>Di P' ts us
def pidn:List Tm:=(List.range 52).map fun (i:Nat)=>(true,(i:Int))
theorem Oo:pidn.length=52:=by simp[pidn]
def Abp:Option (List Tm)->AV
 |some P=>tp [ag (Ac P),sc (.bool true)]
 |none=>tp [ag (Ac pt0),sc (.bool false)]
theorem Ol (P:List Tm)(v t:Tm):(Rk P v t).length=P.length:=by simp[Rk]
theorem iY {P:List Tm}{ts us:List Tm}{k:Nat}{t u:Tm}(ht:ts[k]?=some t)(hu:us[k]?=some u):Di P (ts.drop k) (us.drop k)=(Ms P t u).bind fun P'=>Di P' (ts.drop (k+1)) (us.drop (k+1)):=by
 obtain⟨l1,e1⟩:=List.getElem?_eq_some_iff.1 ht;obtain⟨l2,e2⟩:=List.getElem?_eq_some_iff.1 hu;rw[Aep l1,Aep l2,e1,e2];rfl
theorem pF (a b:C4)(i1 i2:Nat)(hl:a.ts.length=b.ts.length)(hn:a.ts.length<=1000)(ha:∀t∈a.ts,qP t)(hb:∀t∈b.ts,qP t)(j:St):
  ACalls Tryz.prog 210 [ag [ic a.p,sl i1 a.ts.length (Ac a.ts)],ag [ic b.p,sl i2 b.ts.length (Ac b.ts)]] j fun r j'=>r=Abp (Di pidn a.ts b.ts)/\Keep j j':=by
 have b1:=Rn;have hz:=Ly;have bu:=Ch a.ts;have br:=Ch b.ts;have b3:=Fs;have a6:Agt (a.ts.length=b.ts.length):=hl;clear hl;refine Z9 56 [.cell 4 260,.tmp 5] Tryz.func210 ?_
 repeat' (first|refine Z1 ?_|(refine Z8 ?_;intro κ hκ)|(refine Z4 ?_;clear hκ κ)|(refine Z2 ?_ ?_<;>intro h aa<;>try exact Xp)|refine Z3 ?_|exact⟨⟩|(apply hκ.out;clear hκ κ))
 refine Ag (fun m s j'=>∃(k:Nat) (Q:List Tm),m=52-k/\k<=52/\s 2=ptr j.nobj 0/\s 3=ptr (j.nobj+1) 0/\s 4=ptr (j.nobj+2) 0/\s 6=ptr (j.nobj+3) 0/\s 12=ic k/\Keep j j'/\j.nobj+3<j'.nobj/\j'.obj j.nobj=[ic a.p,sl i1 a.ts.length (Ac a.ts)]/\j'.obj (j.nobj+1)=[ic b.p,sl i2 b.ts.length (Ac b.ts)]/\j'.obj (j.nobj+2)=Ac pt0/\j'.obj (j.nobj+3)=Ac Q/\Q.length=52/\Agt (Q=pidn.take k++pt0.drop k)) 52
  ⟨0,pt0,Agm,Agm,Ago,Ago,Ago,Ago,Ago,Xs,Agq,?_,?_,?_,?_,by simp[pt0],by simp[Agt]⟩ ?_
 ·rw[Af Agq,Af Agq,Af Agq,Ap]
 ·rw[Af Agq,Af Agq,Bs Agq Agq]
 ·rw[Af Agq,Bs Agq Agq]
 ·rw[Bs Agq Agq]
 rintro m s j' ⟨k,Q,rfl,hk,h2,h3,h4,h6,bp,hK,hno,bb,am,ak,aj,hQ,hA⟩;have a7:=hK.nobj;have ba:=Fz hQ;by_cases ap:k<52
 ·have bd:Agt (Q.set k (true,(k:Int))=pidn.take (k+1)++pt0.drop (k+1)):=by
   rw[Agt,hA.out,gT (by simp[pt0];omega)];simp[pidn,ap]
  have bz:=Lj (l:=Q) (i:=k) Agm true (k:Int);have be:∀x,(Q.set k x).length=52:=fun x=>by rw[Af6,hQ]
  clear hA
  repeat' (first|refine Z1 ?_|(refine Z8 ?_;intro κ hκ)|(refine Z4 ?_;clear hκ κ)|(refine Z2 ?_ ?_<;>intro h aa<;>try exact Xp)|refine Z3 ?_|exact⟨⟩|(apply hκ.out;clear hκ κ))
  refine⟨52-(k+1),Agm,k+1,Q.set k (true,(k:Int)),?_⟩
  ((repeat' with_reducible refine And.intro ?_ ?_)<;>first|exact Xq|exact (bd)|exact (be _)|exact Xs)
 have bg:k=52:=Agm;subst bg;have HQ:Q=pidn:=by rw[hA.out];rfl
 subst HQ;clear hA ap hk hQ ba
 repeat' (first|refine Z1 ?_|(refine Z8 ?_;intro κ hκ)|(refine Z4 ?_;clear hκ κ)|(refine Z2 ?_ ?_<;>intro h aa<;>try exact Xp)|refine Z3 ?_|exact⟨⟩|(apply hκ.out;clear hκ κ))
 refine Ag (fun m s j'=>∃(k:Nat) (Q:List Tm),m=a.ts.length-k/\k<=a.ts.length/\s 3=ptr (j.nobj+1) 0/\s 4=ptr (j.nobj+2) 0/\s 6=ptr (j.nobj+3) 0/\s 21=sl i1 a.ts.length (Ac a.ts)/\s 22=ic a.ts.length/\s 23=ic k/\Keep j j'/\j.nobj+3<j'.nobj/\j'.obj (j.nobj+1)=[ic b.p,sl i2 b.ts.length (Ac b.ts)]/\j'.obj (j.nobj+2)=Ac pt0/\j'.obj (j.nobj+3)=Ac Q/\Q.length=52/\Agt (Di pidn a.ts b.ts=Di Q (a.ts.drop k) (b.ts.drop k))) a.ts.length
  ⟨0,pidn,Agm,Agm,Agn,Agn,Agn,Ago,Ago,Ago,hK,hno,am,ak,aj,Oo,by simp[Agt]⟩ ?_
 clear h2 h3 h4 h6 bp hK hno bb am ak aj a7;rintro m s j' ⟨k,Q,rfl,hk,h3,h4,h6,bo,bn,bm,hK,hno,am,ak,aj,hQ,hA⟩;have a7:=hK.nobj;have ba:=Fz hQ;have bv:=Gt hQ;by_cases ap:k<a.ts.length
 ·have a9:k<b.ts.length:=by have:=a6.out;omega
  have g1:=List.getElem?_eq_getElem ap;have g2:=List.getElem?_eq_getElem a9;have az:=ha a.ts[k] (Afa ap);have ay:=hb b.ts[k] (Afa a9);obtain⟨r1,bi⟩:=Cm g1;obtain⟨r2,bh⟩:=Cm g2;have HM:Agt (Di pidn a.ts b.ts=(Ms Q a.ts[k] b.ts[k]).bind fun P'=>Di P' (a.ts.drop (k+1)) (b.ts.drop (k+1))):=by rw[Agt,hA.out,iY g1 g2]
  clear hA g1 g2;generalize a.ts[k]=t at bi az HM;generalize b.ts[k]=u at bh ay HM;have av:=fun j=>Tj Q hQ t az j;have au:=fun j=>Tj Q hQ u ay j;unfold Ms at HM;generalize F9 Q t=x at av HM;generalize F9 Q u=y at au HM;obtain⟨x1,x2⟩:=x;obtain⟨y1,y2⟩:=y;dsimp only at av au HM;clear az ay
  repeat' (first|refine Z1 ?_|(refine Z8 ?_;intro κ hκ)|(refine Z4 ?_;clear hκ κ)|(refine Z2 ?_ ?_<;>intro h aa<;>try exact Xp)|(refine Z5 ?_;refine Xi (av _) ?_;rintro _ _ ⟨rfl,aw⟩;(have ax:=aw.nobj;have ah:=aw.obj;simp only[Aa,Ab]at ax ah))|refine Z3 ?_|exact⟨⟩|(apply hκ.out;clear hκ κ))
  rename_i j1;have a5:Keep j ((j1.new [sc (.bool false),ic 0]).put j1.nobj [sc (.bool x1),ic x2]):=((((hK.new _).put hK.nobj _).trans aw).new _).put Agm _;have kv:∀p,p<j'.nobj->((j1.new [sc (.bool false),ic 0]).put j1.nobj [sc (.bool x1),ic x2]).obj p=j'.obj p:=fun p hp=>by rw[Ai Agm,Af Agm,ah _ Agm,Ai Agm,Af Agm]
  have o10:((j1.new [sc (.bool false),ic 0]).put j1.nobj [sc (.bool x1),ic x2]).obj j1.nobj=[sc (.bool x1),ic x2]:=Aj;have nb:j1.nobj<((j1.new [sc (.bool false),ic 0]).put j1.nobj [sc (.bool x1),ic x2]).nobj:=Ags;generalize (j1.new [sc (.bool false),ic 0]).put j1.nobj [sc (.bool x1),ic x2]=j2 at a5 kv o10 nb;have oc1:j2.obj (j.nobj+1)=[ic b.p,sl i2 b.ts.length (Ac b.ts)]:=by rw[kv _ Agm,am]
  have oc2:j2.obj (j.nobj+2)=Ac pt0:=by rw[kv _ Agm,ak]
  have oc3:j2.obj (j.nobj+3)=Ac Q:=by rw[kv _ Agm,aj]
  clear kv ah aw hK am ak aj av;refine B6 (Q:=fun e s' j''=>e= .normal/\∃o11:Nat,s' 11=ptr o11 0/\j2.nobj<=o11/\o11<j''.nobj/\j''.obj o11=[sc (.bool y1),ic y2]/\s' 3=ptr (j.nobj+1) 0/\s' 4=ptr (j.nobj+2) 0/\s' 6=ptr (j.nobj+3) 0/\s' 10=ptr j1.nobj 0/\s' 21=sl i1 a.ts.length (Ac a.ts)/\s' 22=ic a.ts.length/\s' 23=ic k/\Keep j2 j'') ?_ ?_
  ·refine Bh Al (fun _=>True) [8] [0,1,2,3,4,5] 3 #[true,true,true,true,true,true,false,false,false] Agp (fun _ _ _ h=>by cases h.1) ?_;intro κ hκ;refine Z3 ?_;refine hκ.out _ ?_;clear hκ κ;refine D4 (rs:=[6,7]) Agp (by simp) ?_;intro i hi;simp only[Aeq,Ae8,Agk]at hi;rcases hi with rfl|rfl
   ·refine Ar ?_;intro κ hκ;refine Z3 ?_;refine ACalls.mono (au _) ?_;rintro _ j3 ⟨rfl,ac⟩;have ai:=ac.nobj;refine Z3 ?_;refine hκ.out _ _ ⟨Aq ac,?_⟩;clear hκ κ;refine Ao (i:=7) Agp ?_;refine Ar ?_;intro κ hκ;refine Z3 ?_;refine hκ.out _ _ ⟨Aq (ac.new _),?_⟩;clear hκ κ;refine Ao (i:=8) Agp ?_;refine Ar ?_;intro κ hκ;refine Z3 ?_;refine hκ.out _ _ ⟨Bq rfl,?_⟩;clear hκ κ;exact A6 Agp ⟨rfl,j3.nobj,Ago,Agm,Ags,Aj,Agn,Agn,Agn,Agn,Agn,Agn,Agn,(ac.new _).put Agm _⟩
   ·refine Ar ?_;intro κ hκ;refine Z3 ?_;refine hκ.out _ _ ⟨Aq ((Keep.refl _).new _),?_⟩;clear hκ κ;refine Ao (i:=6) Agp ?_;refine Ar ?_;intro κ hκ;refine Z3 ?_;refine ACalls.mono (au _) ?_;rintro _ j3 ⟨rfl,ac⟩;have ai:=ac.nobj;have ab:=ac.obj;simp only[Aa]at ai ab;have o3z:j3.obj j2.nobj=[sc (.bool false),ic 0]:=by rw[ab _ Agm,Ap]
    have a4:Keep j2 j3:=((Keep.refl _).new _).trans ac;refine Z3 ?_;refine hκ.out _ _ ⟨Aq a4,?_⟩;clear hκ κ;refine Ao (i:=8) Agp ?_;refine Ar ?_;intro κ hκ;refine Z3 ?_;refine hκ.out _ _ ⟨Bq rfl,?_⟩;clear hκ κ;exact A6 Agp ⟨rfl,j2.nobj,Ago,Agm,by simp only[Ab];omega,Aj,Agn,Agn,Agn,Agn,Agn,Agn,Agn,a4.put Agm _⟩
  rintro e s' j3 ⟨rfl,o11,g11,b0,b2,oy,g3,g4,g6,g10,g21,g22,g23,ac⟩;have ai:=ac.nobj;have ab:=ac.obj;have od1:j3.obj (j.nobj+1)=[ic b.p,sl i2 b.ts.length (Ac b.ts)]:=by rw[ab _ Agm,oc1]
  have od2:j3.obj (j.nobj+2)=Ac pt0:=by rw[ab _ Agm,oc2]
  have od3:j3.obj (j.nobj+3)=Ac Q:=by rw[ab _ Agm,oc3]
  have ox:j3.obj j1.nobj=[sc (.bool x1),ic x2]:=by rw[ab _ Agm,o10]
  have a4:=a5.trans ac;clear ab ac a5 oc1 oc2 oc3 o10 h3 h4 h6 bo bn bm au;by_cases ad:((x1,x2):Tm)=(y1,y2)
  ·have hc:(x1==y1&&x2==y2)=true:=by simp at ad;simp[ad]
   have HN:Agt (Di pidn a.ts b.ts=Di Q (a.ts.drop (k+1)) (b.ts.drop (k+1))):=by rw[Agt,HM.out,if_pos ad];rfl
   clear HM ad
   repeat' (first|refine Z1 ?_|(refine Z8 ?_;intro κ hκ)|(refine Z4 ?_;clear hκ κ)|(refine Z2 ?_ ?_<;>intro h aa<;>try exact Xp)|refine Z3 ?_|exact⟨⟩|(apply hκ.out;clear hκ κ))
   refine⟨a.ts.length-(k+1),Agm,k+1,Q,?_⟩
   ((repeat' with_reducible refine And.intro ?_ ?_)<;>first|exact Xq|exact (HN)|exact Xs)
  ·rw[if_neg ad]at HM;cases y1 with
   |true=>
    have hW:=fun j=>cZ Q hQ (true,y2) (x1,x2) j;have ae:(Rk Q (true,y2) (x1,x2)).length=52:=by rw[Ol,hQ]
    have HN:Agt (Di pidn a.ts b.ts=Di (Rk Q (true,y2) (x1,x2)) (a.ts.drop (k+1)) (b.ts.drop (k+1))):=by rw[Agt,HM.out,if_pos rfl];rfl
    generalize Rk Q (true,y2) (x1,x2)=Q' at hW ae HN;have a3:=Fz ae;have a0:=Gt ae;have a8:=Na hQ ae;clear HM;cases x1 with
    |true=>
     have hc:(x2==y2)=false:=by simpa using ad
     clear ad
     repeat' (first|refine Z1 ?_|(refine Z8 ?_;intro κ hκ)|(refine Z4 ?_;clear hκ κ)|(refine Z2 ?_ ?_<;>intro h aa<;>try exact Xp)|(refine Z5 ?_;refine Xi (hW _) ?_;rintro _ _ ⟨rfl,af⟩;(have ao:=af.nobj;have an:=af.obj))|refine Z3 ?_|exact⟨⟩|(apply hκ.out;clear hκ κ))
     refine⟨a.ts.length-(k+1),Agm,k+1,Q',?_⟩
     ((repeat' with_reducible refine And.intro ?_ ?_)<;>first|exact Xq|exact (HN)|exact Xs)
    |false=>
     clear ad
     repeat' (first|refine Z1 ?_|(refine Z8 ?_;intro κ hκ)|(refine Z4 ?_;clear hκ κ)|(refine Z2 ?_ ?_<;>intro h aa<;>try exact Xp)|(refine Z5 ?_;refine Xi (hW _) ?_;rintro _ _ ⟨rfl,af⟩;(have ao:=af.nobj;have an:=af.obj))|refine Z3 ?_|exact⟨⟩|(apply hκ.out;clear hκ κ))
     refine⟨a.ts.length-(k+1),Agm,k+1,Q',?_⟩
     ((repeat' with_reducible refine And.intro ?_ ?_)<;>first|exact Xq|exact (HN)|exact Xs)
   |false=>
    rw[if_neg (by simp)]at HM;cases x1 with
    |true=>
     have hW:=fun j=>cZ Q hQ (true,x2) (false,y2) j;have ae:(Rk Q (true,x2) (false,y2)).length=52:=by rw[Ol,hQ]
     have HN:Agt (Di pidn a.ts b.ts=Di (Rk Q (true,x2) (false,y2)) (a.ts.drop (k+1)) (b.ts.drop (k+1))):=by rw[Agt,HM.out,if_pos rfl];rfl
     generalize Rk Q (true,x2) (false,y2)=Q' at hW ae HN;have a3:=Fz ae;have a0:=Gt ae;have a8:=Na hQ ae;clear HM ad
     repeat' (first|refine Z1 ?_|(refine Z8 ?_;intro κ hκ)|(refine Z4 ?_;clear hκ κ)|(refine Z2 ?_ ?_<;>intro h aa<;>try exact Xp)|(refine Z5 ?_;refine Xi (hW _) ?_;rintro _ _ ⟨rfl,af⟩;(have ao:=af.nobj;have an:=af.obj))|refine Z3 ?_|exact⟨⟩|(apply hκ.out;clear hκ κ))
     refine⟨a.ts.length-(k+1),Agm,k+1,Q',?_⟩
     ((repeat' with_reducible refine And.intro ?_ ?_)<;>first|exact Xq|exact (HN)|exact Xs)
    |false=>
     have HN:Agt (Di pidn a.ts b.ts=none):=by rw[Agt,HM.out,if_neg (by simp)];rfl
     have bq:=Gt (P:=pt0) (by simp[pt0]);have bw:=Na (P:=pt0) (Q:=pt0) (by simp[pt0]) (by simp[pt0]);have hc:(x2==y2)=false:=by simpa using ad
     clear HM ad
     repeat' (first|refine Z1 ?_|(refine Z8 ?_;intro κ hκ)|(refine Z4 ?_;clear hκ κ)|(refine Z2 ?_ ?_<;>intro h aa<;>try exact Xp)|refine Z3 ?_|exact⟨⟩|(apply hκ.out;clear hκ κ))
     exact⟨_,rfl,by rw[HN.out];rfl,Xs⟩
 ·have bf:k=a.ts.length:=Agm;have HM:Agt (Di pidn a.ts b.ts=some Q):=by
   rw[Agt,hA.out,bf,List.drop_length];rfl
  have a8:=Na (P:=pt0) (by simp[pt0]) hQ;clear hA
  repeat' (first|refine Z1 ?_|(refine Z8 ?_;intro κ hκ)|(refine Z4 ?_;clear hκ κ)|(refine Z2 ?_ ?_<;>intro h aa<;>try exact Xp)|refine Z3 ?_|exact⟨⟩|(apply hκ.out;clear hκ κ))
  exact⟨_,rfl,by rw[HM.out];rfl,Xs⟩
def Ltr (c:List AV):Prop:=∃(b:Bool) (p:Int) (ia n:Nat) (tc:List AV),c=[sc (.bool b),sc (.int .i64 p),sl ia n tc]/\∀x∈tc,∃v,x=sc v
def Tl {α:Type}(E:α->List AV->Prop)(a:α)(d:List AV):Prop:=∃x,E a (x::d)
theorem fZ {α:Type}{E:α->List AV->Prop}(hz:∀a c,E a c->Ltr c):∀{l:List α} {cs:List AV},EL (Tl E) l cs->∀c∈cs,Plain c
 |[],cs,h,c,hc=>by have h:cs=[]:=h;subst h;cases hc
 |a::l,_,⟨c1,c2,⟨x,hx⟩,h2,rfl⟩,c,hc=>by
  rcases Aew.1 hc with hc|hc
  ·obtain⟨_,p,ia,n,tc,e,ht⟩:=hz _ _ hx;simp at e;rw[e.2]at hc;simp only[Aeq,Ae8,Agk]at hc;rcases hc with rfl|rfl
   ·exact .inl ⟨_,rfl⟩
   ·exact .inr ⟨_,_,_,rfl,ht⟩
  ·exact fZ hz h2 c hc
theorem iR {α:Type}{E:α->List AV->Prop}(hz:∀a c,E a c->Ltr c)(p:Int)(ih n:Nat)(tc:List AV)(af:∀x∈tc,∃v,x=sc v)(l:List α)(id:Nat)(b:List AV)(hb:EL E l b)(hn:l.length<=1000)(j:St):
  ACalls Tryz.prog 133 [ag [sc (.bool false),sc (.int .i64 p),sl ih n tc,sl id l.length b]] j fun r j'=>∃(o m:Nat) (cs:List AV),r=fx o 0 m/\j.nobj<=o/\j'.obj o=cs/\Keep j j'/\(∀c∈cs,Plain c)/\(m=l.length+1/\∃ds,cs=sc (.int .i64 p)::sl ih n tc::ds/\EL (Tl E) l ds):=by
 have h3:∀a c,E a c->c.length=3:=fun a c h=>by obtain⟨_,_,_,_,_,rfl,-⟩:=hz a c h;rfl
 have ao:=EL.length h3 hb;refine Z9 33 [.tmp 2] Tryz.func133 ?_
 repeat' (first|refine Z1 ?_|(refine Z8 ?_;intro κ hκ)|(refine Z4 ?_;clear hκ κ)|(refine Z2 ?_ ?_<;>intro h ab<;>try exact Xp)|refine Z3 ?_|exact⟨⟩|(apply hκ.out;clear hκ κ))
 have ae:Keep j (j.new [sc (.bool false),sc (.int .i64 p),sl ih n tc,sl id l.length b]):=(Keep.refl _).new _;have ad:((l.length:Int)+1).toNat=l.length+1:=Agm
 refine Ag (fun m s j'=>∃(k:Nat) (cur:List AV),m=l.length-k/\k<=l.length/\s 3=fx (j.nobj+1) 0 (l.length+1)/\s 18=sl id l.length b/\s 19=sc (.int .i64 l.length)/\s 20=sc (.int .i64 k)/\Keep j j'/\j.nobj+1<j'.nobj/\j'.obj (j.nobj+1)=cur/\cur.length=(l.length+1)*2/\Agt (∃ds,cur=(sc (.int .i64 p)::sl ih n tc::ds)++(List.replicate (l.length-k) [sc (.int .i64 0),nilS]).flatten/\ds.length=k*2/\EL (Tl E) (l.take k) ds)) l.length
  ⟨0,_,Agm,Agm,by simp[upd,ad],Ago,Ago,rfl,(ae.new _).put Agm _,Ags,Aj,by simp[ad],[],?_,rfl,rfl⟩ ?_
 ·rw[ad,Rj Agm];rfl
 clear ae;rintro m s j' ⟨k,cur,rfl,hk,ap,aw,av,au,hK,hno,ah,ak,hE⟩;have am:=hK.nobj;by_cases ai:k<l.length
 ·have aa:=List.getElem?_eq_getElem ai;obtain⟨c,r,ac,hd⟩:=EL.get h3 hb aa;generalize l[k]=a at hd aa ac;obtain⟨a1,a2,a3,a4,a5,rfl,ha⟩:=hz _ _ ac;simp only[Aes,Aeu]at hd;have HN:Agt (∃ds,(cur.set ((k+1)*2) (sc (.int .i64 a2))).set ((k+1)*2+1) (sl a3 a4 a5)=(sc (.int .i64 p)::sl ih n tc::ds)++(List.replicate (l.length-(k+1)) [sc (.int .i64 0),nilS]).flatten/\ds.length=(k+1)*2/\EL (Tl E) (l.take (k+1)) ds):=by
   obtain⟨ds,e1,e2,e3⟩:=hE.out;refine⟨ds++[sc (.int .i64 a2),sl a3 a4 a5],?_,by simp[e2];omega,?_⟩
   ·rw[e1,Rj Agm,lU (by simp[e2];omega)];simp[Nat.sub_sub]
   ·rw[Ad3,aa];exact EL.append e3 (EL.single ⟨_,ac⟩)
  clear aa ac hE ha;have an:((k:Int)+1).toNat=k+1:=Agm
  repeat' (first|refine Z1 ?_|(refine Z8 ?_;intro κ hκ)|(refine Z4 ?_;clear hκ κ)|(refine Z2 ?_ ?_<;>intro h ab<;>try exact Xp)|refine Z3 ?_|exact⟨⟩|(apply hκ.out;clear hκ κ))
  refine⟨l.length-(k+1),Agm,k+1,(cur.set ((k+1)*2) (sc (.int .i64 a2))).set ((k+1)*2+1) (sl a3 a4 a5),?_⟩
  ((repeat' with_reducible refine And.intro ?_ ?_)<;>first|exact Xq|exact (((hK.new _).put hK.nobj _).put Agm _)|exact (Aj)|exact (HN)|exact (by simp[ak])|exact Xs)
 ·have aj:k=l.length:=Agm;subst aj;obtain⟨ds,e1,e2,e3⟩:=hE.out;rw[Ae2,List.replicate_zero,List.flatten_nil,Ad7]at e1;rw[Adz]at e3;have hpl:∀c∈cur,Plain c:=fun c hc=>by
   rw[e1]at hc;simp only[Aeq]at hc;rcases hc with rfl|rfl|hc
   ·exact .inl ⟨_,rfl⟩
   ·exact .inr ⟨_,_,_,rfl,af⟩
   ·exact fZ hz e3 c hc
  have HF:Agt ((∀c∈cur,Plain c)/\∃ds,cur=sc (.int .i64 p)::sl ih n tc::ds/\EL (Tl E) l ds):=⟨hpl,ds,e1,e3⟩;clear hE e1 e2 e3 hpl
  repeat' (first|refine Z1 ?_|(refine Z8 ?_;intro κ hκ)|(refine Z4 ?_;clear hκ κ)|(refine Z2 ?_ ?_<;>intro h ab<;>try exact Xp)|refine Z3 ?_|exact⟨⟩|(apply hκ.out;clear hκ κ))
  exact⟨_,rfl,j.nobj+1,_,cur,rfl,Agm,ah,HF.out.1,rfl,HF.out.2⟩
theorem Yf (ts:List Tm):∀x∈Ac ts,∃v,x=sc v:=fun x hx=>by
 obtain⟨t,-,ht⟩:=Aev.1 hx;simp[H8]at ht;rcases ht with rfl|rfl<;>exact⟨_,rfl⟩
theorem zX (l:Lit)(c:List AV)(h:Pi l c):Ltr c:=by
 obtain⟨id,rfl⟩:=h;exact⟨_,_,_,_,_,rfl,Yf _⟩
def Gc (r:D8):List C4:=r.head::r.body.map (·.a)
def Eh (r:D8):List Int:=Cb (Gc r)
theorem wF:∀{l:List Lit} {ds:List AV},EL (Tl Pi) l ds->EL Me (l.map (·.a)) ds
 |[],_,h=>h
 |a::l,_,⟨c1,c2,⟨x,ia,e⟩,h2,rfl⟩=>⟨c1,c2,⟨ia,by simpa using (List.cons.inj e).2⟩,wF h2,rfl⟩
theorem cV (r:D8)(c:List AV)(hc:Qd false r c)(hn:r.body.length<=1000)(j:St):ACalls Tryz.prog 133 [ag c] j fun x j'=>∃id cs,x=sl id (Gc r).length cs/\EL Me (Gc r) cs/\Keep j j':=by
 obtain⟨ih,ib,bc,rfl,hb⟩:=hc;refine (ACalls.freeze (iR zX _ _ _ _ (Yf _) _ _ _ hb hn j)).mono fun x j' h=>?_;obtain⟨n,cs,rfl,⟨rfl,ds,rfl,h1⟩,h2⟩:=h;exact⟨0,_,by simp[Gc],⟨_,_,⟨ih,rfl⟩,wF h1,rfl⟩,h2⟩
theorem Kh (r:D8)(c:List AV)(hc:Qd false r c)(hr:R52 r)(j:St):ACalls Tryz.prog 96 [ag c] j fun x j'=>(∃id,x=sl id (Eh r).length (As (Eh r)))/\Keep j j':=by
 have hb:=hr.bl;have hA:=fun j=>cV r c hc Agm j
 have hV:=fun cs ida hE j=>Gj (Gc r) cs ida hE (fun a ha=>by
  rcases Aeq.1 ha with rfl|ha
  ·exact hr.h3
  ·obtain⟨l,hl,rfl⟩:=Aey.1 ha
   exact hr.b3 l hl) (by simp[Gc];omega) j
 obtain⟨ih,ib,bc,rfl,-⟩:=hc;unfold Eh;generalize Cb (Gc r)=vs at hV;refine Z9 6 [.tmp 2] Tryz.func96 ?_
 repeat' (first|refine Z1 ?_|(refine Z8 ?_;intro κ hκ)|(refine Z4 ?_;clear hκ κ)|(refine Z2 ?_ ?_<;>intro h aa<;>try exact Xp)|(refine Z5 ?_;first|(refine Xi (hA _) ?_;rintro _ _ ⟨ida,cs,rfl,hE,ac⟩)|(refine Xi (hV _ _ (by assumption) _) ?_;rintro _ _ ⟨⟨id2,rfl⟩,ab⟩))|refine Z3 ?_|exact⟨⟩|(apply hκ.out;clear hκ κ))
 exact⟨_,rfl,⟨id2,rfl⟩,Xs⟩
def iN (l:List Int)(v:Int):Int:=if v∈l then (l.idxOf v:Nat)else -1
def Ge (l:List Int)(t:Tm):Tm:=(t.1,if t.1=true then iN l t.2 else t.2)
theorem L8 (l:List Int)(ido:Nat)(kp:Int)(ids:Nat)(ts:List Tm)(hl:l.length<=100000)(hn:ts.length<=1000)(j:St):
  ACalls Tryz.prog 144 [ag [ic kp,sl ids ts.length (Ac ts)],sl ido l.length (As l)] j fun r j'=>(∃id,r=ag [ic kp,sl id ts.length (Ac (ts.map (Ge l)))])/\Keep j j':=by
 have a4:=Ch ts;refine Z9 33 [.cell 4 122] Tryz.func144 ?_
 repeat' (first|refine Z1 ?_|(refine Z8 ?_;intro κ hκ)|(refine Z4 ?_;clear hκ κ)|(refine Z2 ?_ ?_<;>intro h af<;>try exact Xp)|(refine Z6 ?_;intro idn jn ai aj ad aa ac ab)|refine Z3 ?_|exact⟨⟩|(apply hκ.out;clear hκ κ))
 refine Ag (fun m s j'=>∃(k i3:Nat) (xs:List AV),m=ts.length-k/\k<=ts.length/\s 1=sl ido l.length (As l)/\s 4=ptr (j.nobj+1) 0/\s 5=ptr (j.nobj+2) 0/\s 12=sl ids ts.length (Ac ts)/\s 13=ic ts.length/\s 14=ic k/\Keep j j'/\j.nobj+2<j'.nobj/\j'.obj (j.nobj+1)=[ic 0,nilS]/\j'.obj (j.nobj+2)=[ic kp,sl i3 k xs]/\Own j j' i3 k/\xs.length=k*2/\Agt (xs=Ac ((ts.take k).map (Ge l)))) ts.length
  ⟨0,1,[],Agm,Agm,by simp[upd,initS],Ago,Ago,Ago,Ago,rfl,?_,?_,?_,?_,Own.nil _ _,by simp,by simp[Agt,Ac]⟩ ?_
 ·exact ((((Keep.refl j).new _).new _).new _).put Agm _
 ·simp only[Ab,Aa];omega
 ·rw[Ai Agm,Af Agq,Bs (by rw[Aa];omega) (by rw[Aa];omega)]
 ·rw[show j.nobj+2=j.nobj+1+1 by omega,Aj]
 rintro m s j' ⟨k,i3,xs,rfl,hk,h1,h4,h5,a7,a6,a5,hK,hno,ax,aw,hO,au,hX⟩;have a3:=hK.nobj;by_cases ay:k<ts.length
 ·have ah:=List.getElem?_eq_getElem ay;obtain⟨r2,a0⟩:=Cm ah;generalize ts[k]=w at a0 ah;obtain⟨w1,w2⟩:=w;have ae:Agt (Ac ((ts.take (k+1)).map (Ge l))=xs++H8 (Ge l (w1,w2))):=by
   rw[Agt,Ad3,ah,Afe,Ad5,List.map_singleton,Qw,<-hX.out]
  clear ah hX;cases w1 with
  |true=>
   have hP:=fun j=>Gv w2 l ido hl j;have ak:Agt (xs++[sc (.bool true),ic (iN l w2)]=Ac ((ts.take (k+1)).map (Ge l))):=by rw[Agt,ae.out];rfl
   have av:∀v,(if v∈l then ((l.idxOf v:Nat):Int)else -1)=iN l v:=fun _=>rfl;rw[av]at hP;generalize iN l w2=w3 at hP ak;clear av ae
   repeat' (first|refine Z1 ?_|(refine Z8 ?_;intro κ hκ)|(refine Z4 ?_;clear hκ κ)|(refine Z2 ?_ ?_<;>intro h af<;>try exact Xp)|(refine Z6 ?_;intro idn jn ai aj ad aa ac ab)|(refine Z5 ?_;refine Xi (hP _) ?_;rintro _ _ ⟨rfl,am⟩;(have ao:=am.nobj;have an:=am.obj;simp only[Aa,Ab]at ao an))|refine Z3 ?_|exact⟨⟩|(apply hκ.out;clear hκ κ))
   rename_i j2;have ap:Keep j (j2.put j'.nobj [sc (.bool true),ic w3]):=(((hK.new _).put hK.nobj _).trans am).put Agm _;refine Bm (by first|exact Dv) ap (Own.put (Own.keep (Own.put (Own.new hO _) _ _) am) _ _) (by decide) (by rfl) au (by rfl) (by rfl) (by decide) Agm Agm ?_;intro idn jn ai aj ad aa ac ab;simp only[Ab,Aa]at aa;refine Z3 ?_
   repeat' (first|refine Z1 ?_|(refine Z8 ?_;intro κ hκ)|(refine Z4 ?_;clear hκ κ)|(refine Z2 ?_ ?_<;>intro h af<;>try exact Xp)|(refine Z6 ?_;intro idn jn ai aj ad aa ac ab)|refine Z3 ?_|exact⟨⟩|(apply hκ.out;clear hκ κ))
   refine⟨ts.length-(k+1),Agm,k+1,idn,xs++[sc (.bool true),ic w3],?_⟩
   ((repeat' with_reducible refine And.intro ?_ ?_)<;>first|exact Xq|exact (aj.put Agm _)|exact (Own.put ai _ _)|exact (ak)|exact Xs)
  |false=>
   have ak:Agt (xs++[sc (.bool false),ic w2]=Ac ((ts.take (k+1)).map (Ge l))):=by rw[Agt,ae.out];rfl
   clear ae
   repeat' (first|refine Z1 ?_|(refine Z8 ?_;intro κ hκ)|(refine Z4 ?_;clear hκ κ)|(refine Z2 ?_ ?_<;>intro h af<;>try exact Xp)|(refine Z6 ?_;intro idn jn ai aj ad aa ac ab)|refine Z3 ?_|exact⟨⟩|(apply hκ.out;clear hκ κ))
   have ap:Keep j ((j'.new [sc (.bool false),ic 0]).put j'.nobj [sc (.bool false),ic w2]):=(hK.new _).put hK.nobj _;refine Bm (by first|exact Dv) ap (Own.put (Own.new hO _) _ _) (by decide) (by rfl) au (by rfl) (by rfl) (by decide) Agm Agm ?_;intro idn jn ai aj ad aa ac ab;simp only[Ab,Aa]at aa;refine Z3 ?_
   repeat' (first|refine Z1 ?_|(refine Z8 ?_;intro κ hκ)|(refine Z4 ?_;clear hκ κ)|(refine Z2 ?_ ?_<;>intro h af<;>try exact Xp)|(refine Z6 ?_;intro idn jn ai aj ad aa ac ab)|refine Z3 ?_|exact⟨⟩|(apply hκ.out;clear hκ κ))
   refine⟨ts.length-(k+1),Agm,k+1,idn,xs++[sc (.bool false),ic w2],?_⟩
   ((repeat' with_reducible refine And.intro ?_ ?_)<;>first|exact Xq|exact (aj.put Agm _)|exact (Own.put ai _ _)|exact (ak)|exact Xs)
 ·have az:k=ts.length:=Agm;subst az;rw[Adz]at hX
  repeat' (first|refine Z1 ?_|(refine Z8 ?_;intro κ hκ)|(refine Z4 ?_;clear hκ κ)|(refine Z2 ?_ ?_<;>intro h af<;>try exact Xp)|(refine Z6 ?_;intro idn jn ai aj ad aa ac ab)|refine Z3 ?_|exact⟨⟩|(apply hκ.out;clear hκ κ))
  exact⟨_,rfl,⟨i3,by rw[hX.out]⟩,hK.put Agm _⟩
end Go.Proofs.YtmoeoppbmhfbpabGreatDoorG
