import Derived.Test.YtmoeoppbmhfbpabGreatDoorHUnfA
import Derived.Test.YtmoeoppbmhfbpabGreatDoorHOptB
set_option linter.all false
namespace Go.Proofs.YtmoeoppbmhfbpabGreatDoorH
set_option maxHeartbeats 64000000
open Go.Abs
set_option maxRecDepth 100000
def vI (P:List Tm)(l:Lit):Lit:=⟨l.neg,Un P l.a⟩
def F2 (P:List Tm)(r:D2):D2:=⟨Un P r.head,r.body.map (vI P)⟩
def Pj (o:Bool)(r:D2)(c:List AV):Prop:=∃ih ib bc,c=[sc (.bool o),ic r.head.p,sl ih r.head.ts.length (Ac r.head.ts),sl ib r.body.length bc]/\EL Od r.body bc
structure zS (r:D2):Prop where
 h3:r.head.ts.length<=3
 b3:∀l∈r.body,l.a.ts.length<=3
 bl:r.body.length<=100
 hv:∀t∈r.head.ts,zQ t
 bv:∀l∈r.body,∀t∈l.a.ts,zQ t
theorem V8 (P:List Tm)(hP:P.length=52)(r:D2)(hr:zS r)(o:Bool)(c:List AV)(hc:Pj o r c)(j:St):ACalls Tryz.prog 212 [ag (Ac P),ag c] j fun x j'=>(∃c',x=ag c'/\Pj false (F2 P r) c')/\Keep j j':=by
 obtain⟨ih,ib,bc,rfl,hb⟩:=hc;have hl:=Fo hP;have a6:=Gc hP;have a8:=Fe P;have a9:=EL.length Fv hb;have ba:=hr.bl;have hH:=fun j=>V9 P hP r.head ih hr.hv (by have:=hr.h3;omega) j;have hL:=fun (l:Lit) (h:l∈r.body) (ids:Nat) j=>V9 P hP l.a ids (hr.bv l h) (by have:=hr.b3 l h;omega) j;refine Z9 33 [.cell 4 125] Tryz.func212 ?_
 repeat' (first|refine Z1 ?_|(refine Z8 ?_;intro κ hκ)|(refine Z4 ?_;clear hκ κ)|(refine Z2 ?_ ?_<;>intro h ah<;>try exact Xp)|(refine Z6 ?_;intro idn jn ai aj af aa ae ab)|(refine Z5 ?_;refine Xi (hH _) ?_;rintro _ _ ⟨⟨id1,rfl⟩,ap⟩;(have ao:=ap.nobj;have ac:=ap.obj;simp only[Aa]at ao ac))|refine Z3 ?_|exact⟨⟩|(apply hκ.out;clear hκ κ))
 rename_i j1;have az:Keep j j1:=Xs;have o0:j1.obj j.nobj=Ac P:=by rw[ac _ Ad2,Ae Ad6,Ae Ad6,Am]
 have o2:j1.obj (j.nobj+2)=[sc (.bool false),ic 0,nilS,nilS]:=by rw[ac _ Ad2,Bp Ad6 Ad6]
 clear hH ac
 refine Ad (fun m s j'=>∃(k i3:Nat) (xs:List AV),m=r.body.length-k/\k<=r.body.length/\s 2=ptr j.nobj 0/\s 4=ptr (j.nobj+2) 0/\s 5=ptr j1.nobj 0/\s 14=sl ib r.body.length bc/\s 15=ic r.body.length/\s 16=ic k/\Keep j j'/\j1.nobj<j'.nobj/\j'.obj j.nobj=Ac P/\j'.obj (j.nobj+2)=[sc (.bool false),ic 0,nilS,nilS]/\j'.obj j1.nobj=[sc (.bool false),ic r.head.p,sl id1 r.head.ts.length (Ac (r.head.ts.map (P8 P))),sl i3 k xs]/\Own j j' i3 k/\xs.length=k*3/\Ad8 (EL Od ((r.body.take k).map (vI P)) xs)) r.body.length
  ⟨0,1,[],Ad2,Ad2,by simp[upd,initS],Ad4,Ad4,Ad4,Ad4,rfl,Xs,Ad7,by rw[Ai Ad2,Ae Ad2,o0],by rw[Ai Ad2,Ae Ad2,o2],by rw[Aj],Own.nil _ _,by simp,by simp[Ad8,EL]⟩ ?_
 clear o0 o2 az ap;rintro m s j' ⟨k,i3,xs,rfl,hk,h2,h4,h5,be,bd,bb,hK,a7,a4,a3,a0,hO,av,hX⟩;have a5:=hK.nobj;by_cases ar:k<r.body.length
 ·have ad:=List.getElem?_eq_getElem ar;obtain⟨ia,rr,hd⟩:=Gf hb ad;have au:=fun j=>hL r.body[k] (Acz ar) ia j;generalize r.body[k]=a at hd ad au;have HX:Ad8 (∀i4,EL Od ((r.body.take (k+1)).map (vI P)) (xs++[sc (.bool a.neg),ic a.a.p,sl i4 a.a.ts.length (Ac (a.a.ts.map (P8 P)))])):=fun i4=>by
   rw[Abq,ad,Ac2,Abt];exact EL.append hX.out (EL.single ⟨i4,by simp[vI,Un]⟩)
  clear ad hX hL
  repeat' (first|refine Z1 ?_|(refine Z8 ?_;intro κ hκ)|(refine Z4 ?_;clear hκ κ)|(refine Z2 ?_ ?_<;>intro h ah<;>try exact Xp)|(refine Z6 ?_;intro idn jn ai aj af aa ae ab)|(refine Z5 ?_;refine Xi (au _) ?_;rintro _ _ ⟨⟨i4,rfl⟩,ak⟩;(have am:=ak.obj;have an:=ak.nobj;simp only[Aa,Ab]at an am))|refine Z3 ?_|exact⟨⟩|(apply hκ.out;clear hκ κ))
  rename_i j4;have ay:=((hK.new [sc (.bool false),ic 0,nilS]).put hK.nobj _).trans ak;have ax:=Own.keep (Own.put (Own.new hO [sc (.bool false),ic 0,nilS]) j'.nobj [sc (.bool a.neg),ic a.a.p,sl ia a.a.ts.length (Ac a.a.ts)]) ak;refine Bj (by first|exact D5) (ay.put Ad2 _) (Own.put ax _ _) (by decide) (by rfl) av (by rfl) (by rfl) (by decide) Ad2 Ad2 ?_;intro idn jn ai aj af aa ae ab;simp only[Ab,Aa]at aa;refine Z3 ?_
  repeat' (first|refine Z1 ?_|(refine Z8 ?_;intro κ hκ)|(refine Z4 ?_;clear hκ κ)|(refine Z2 ?_ ?_<;>intro h ah<;>try exact Xp)|(refine Z6 ?_;intro idn jn ai aj af aa ae ab)|refine Z3 ?_|exact⟨⟩|(apply hκ.out;clear hκ κ))
  refine⟨r.body.length-(k+1),Ad2,k+1,idn,xs++[sc (.bool a.neg),ic a.a.p,sl i4 a.a.ts.length (Ac (a.a.ts.map (P8 P)))],?_⟩
  ((repeat' with_reducible refine And.intro ?_ ?_)<;>first|exact Xq|exact (HX.out i4)|exact (aj.put Ad2 _)|exact (Own.put ai _ _)|exact Xs)
 ·have aw:k=r.body.length:=Ad2;subst aw;rw[Abn]at hX
  repeat' (first|refine Z1 ?_|(refine Z8 ?_;intro κ hκ)|(refine Z4 ?_;clear hκ κ)|(refine Z2 ?_ ?_<;>intro h ah<;>try exact Xp)|(refine Z6 ?_;intro idn jn ai aj af aa ae ab)|refine Z3 ?_|exact⟨⟩|(apply hκ.out;clear hκ κ))
  exact⟨_,rfl,⟨_,rfl,id1,i3,xs,by simp[F2,Un],hX.out⟩,hK.put Ad2 _⟩
def aprt:List Tm:=(List.range 52).map fun (i:Nat)=>if i<26 then (true,(26:Int)+i)else (false,0)
theorem dY:aprt.length=52:=by simp[aprt]
theorem apart_spec (r:D2)(hr:zS r)(o:Bool)(c:List AV)(hc:Pj o r c)(j:St):ACalls Tryz.prog 209 [ag c] j fun x j'=>(∃c',x=ag c'/\Pj false (F2 aprt r) c')/\Keep j j':=by
 have hI:=fun j=>V8 aprt dY r hr o c hc j;obtain⟨ih,ib,bc,rfl,hb⟩:=hc;have aw:=Qn;have hz:=K5;refine Z9 17 [.cell 2 125] Tryz.func209 ?_
 repeat' (first|refine Z1 ?_|(refine Z8 ?_;intro κ hκ)|(refine Z4 ?_;clear hκ κ)|(refine Z2 ?_ ?_<;>intro h aa<;>try exact Xp)|refine Z3 ?_|exact⟨⟩|(apply hκ.out;clear hκ κ))
 refine Ad (fun m s j'=>∃(k:Nat) (Q:List Tm),m=26-k/\k<=26/\s 1=ptr j.nobj 0/\s 2=ptr (j.nobj+1) 0/\s 3=ptr (j.nobj+2) 0/\s 4=ic k/\Keep j j'/\j.nobj+2<j'.nobj/\j'.obj j.nobj=[sc (.bool o),ic r.head.p,sl ih r.head.ts.length (Ac r.head.ts),sl ib r.body.length bc]/\j'.obj (j.nobj+1)=[sc (.bool false),ic 0,nilS,nilS]/\j'.obj (j.nobj+2)=Ac Q/\Q.length=52/\Ad8 (Q=aprt.take k++pt0.drop k)) 26
  ⟨0,pt0,Ad2,Ad2,Ad4,Ad4,Ad4,Ad4,Xs,Ad6,?_,?_,?_,by simp[pt0],by simp[Ad8]⟩ ?_
 ·rw[Ae Ad6,Ae Ad6,Am]
 ·rw[Ae Ad6,Bp Ad6 Ad6]
 ·rw[Bp Ad6 Ad6]
 rintro m s j' ⟨k,Q,rfl,hk,h1,h2,h3,h4,hK,au,an,am,ak,hQ,hA⟩;have ao:=hK.nobj;have av:=Fo hQ;by_cases af:k<26
 ·have ae:Ad8 (Q.set k (true,(26:Int)+k)=aprt.take (k+1)++pt0.drop (k+1)):=by
   rw[Ad8,hA.out,fA (by simp[pt0];omega)];simp[aprt,af,show k<52 by omega]
  have ar:=Ks (l:=Q) (i:=k) Ad2 true ((26:Int)+k);have ah:∀x,(Q.set k x).length=52:=fun x=>by rw[Adq,hQ]
  clear hA
  repeat' (first|refine Z1 ?_|(refine Z8 ?_;intro κ hκ)|(refine Z4 ?_;clear hκ κ)|(refine Z2 ?_ ?_<;>intro h aa<;>try exact Xp)|refine Z3 ?_|exact⟨⟩|(apply hκ.out;clear hκ κ))
  refine⟨26-(k+1),Ad2,k+1,Q.set k (true,(26:Int)+k),?_⟩
  ((repeat' with_reducible refine And.intro ?_ ?_)<;>first|exact Xq|exact (ae)|exact (ah _)|exact Xs)
 ·have ai:k=26:=Ad2;subst ai;have HQ:Q=aprt:=by rw[hA.out];rfl
  subst HQ;have ap:=Gc hQ;clear hA
  repeat' (first|refine Z1 ?_|(refine Z8 ?_;intro κ hκ)|(refine Z4 ?_;clear hκ κ)|(refine Z2 ?_ ?_<;>intro h aa<;>try exact Xp)|(refine Z5 ?_;refine Xi (hI _) ?_;rintro _ _ ⟨⟨c',rfl,hE⟩,ab⟩;(have ad:=ab.nobj;have ac:=ab.obj;obtain⟨jh,jb,jc,rfl,aj⟩:=hE))|refine Z3 ?_|exact⟨⟩|(apply hκ.out;clear hκ κ))
  exact⟨_,rfl,⟨_,rfl,jh,jb,jc,rfl,aj⟩,Xs⟩
def cI (P:List Tm)(t u:Tm):Option (List Tm):=
 if P8 P t=P8 P u then some P else if (P8 P u).1=true then some (V5 P (P8 P u) (P8 P t))else if (P8 P t).1=true then some (V5 P (P8 P t) (P8 P u))else none
def Ep:List Tm->List Tm->List Tm->Option (List Tm)
 |P,[],_=>some P
 |_,_::_,[]=>none
 |P,t::ts,u::us=>(cI P t u).bind fun P'=>Ep P' ts us
def pidn:List Tm:=(List.range 52).map fun (i:Nat)=>(true,(i:Int))
theorem bM:pidn.length=52:=by simp[pidn]
def yX:Option (List Tm)->AV
 |some P=>tp [ag (Ac P),sc (.bool true)]
 |none=>tp [ag (Ac pt0),sc (.bool false)]
theorem X3 (P:List Tm)(v t:Tm):(V5 P v t).length=P.length:=by simp[V5]
theorem gD {P:List Tm}{ts us:List Tm}{k:Nat}{t u:Tm}(ht:ts[k]?=some t)(hu:us[k]?=some u):Ep P (ts.drop k) (us.drop k)=(cI P t u).bind fun P'=>Ep P' (ts.drop (k+1)) (us.drop (k+1)):=by
 obtain⟨l1,e1⟩:=List.getElem?_eq_some_iff.1 ht;obtain⟨l2,e2⟩:=List.getElem?_eq_some_iff.1 hu;rw[Acd l1,Acd l2,e1,e2];rfl
theorem nF (a b:C3)(i1 i2:Nat)(hl:a.ts.length=b.ts.length)(hn:a.ts.length<=1000)(ha:∀t∈a.ts,zQ t)(hb:∀t∈b.ts,zQ t)(j:St):
  ACalls Tryz.prog 210 [ag [ic a.p,sl i1 a.ts.length (Ac a.ts)],ag [ic b.p,sl i2 b.ts.length (Ac b.ts)]] j fun r j'=>r=yX (Ep pidn a.ts b.ts)/\Keep j j':=by
 have bz:=Qn;have hz:=K5;have bq:=Ce a.ts;have bp:=Ce b.ts;have b1:=Fe;have a6:Ad8 (a.ts.length=b.ts.length):=hl;clear hl;refine Z9 56 [.cell 4 260,.tmp 5] Tryz.func210 ?_
 repeat' (first|refine Z1 ?_|(refine Z8 ?_;intro κ hκ)|(refine Z4 ?_;clear hκ κ)|(refine Z2 ?_ ?_<;>intro h aa<;>try exact Xp)|refine Z3 ?_|exact⟨⟩|(apply hκ.out;clear hκ κ))
 refine Ad (fun m s j'=>∃(k:Nat) (Q:List Tm),m=52-k/\k<=52/\s 2=ptr j.nobj 0/\s 3=ptr (j.nobj+1) 0/\s 4=ptr (j.nobj+2) 0/\s 6=ptr (j.nobj+3) 0/\s 12=ic k/\Keep j j'/\j.nobj+3<j'.nobj/\j'.obj j.nobj=[ic a.p,sl i1 a.ts.length (Ac a.ts)]/\j'.obj (j.nobj+1)=[ic b.p,sl i2 b.ts.length (Ac b.ts)]/\j'.obj (j.nobj+2)=Ac pt0/\j'.obj (j.nobj+3)=Ac Q/\Q.length=52/\Ad8 (Q=pidn.take k++pt0.drop k)) 52
  ⟨0,pt0,Ad2,Ad2,Ad4,Ad4,Ad4,Ad4,Ad4,Xs,Ad6,?_,?_,?_,?_,by simp[pt0],by simp[Ad8]⟩ ?_
 ·rw[Ae Ad6,Ae Ad6,Ae Ad6,Am]
 ·rw[Ae Ad6,Ae Ad6,Bp Ad6 Ad6]
 ·rw[Ae Ad6,Bp Ad6 Ad6]
 ·rw[Bp Ad6 Ad6]
 rintro m s j' ⟨k,Q,rfl,hk,h2,h3,h4,h6,bn,hK,a0,bb,am,ak,aj,hQ,hA⟩;have a7:=hK.nobj;have ba:=Fo hQ;by_cases ap:k<52
 ·have bc:Ad8 (Q.set k (true,(k:Int))=pidn.take (k+1)++pt0.drop (k+1)):=by
   rw[Ad8,hA.out,fA (by simp[pt0];omega)];simp[pidn,ap]
  have bv:=Ks (l:=Q) (i:=k) Ad2 true (k:Int);have bd:∀x,(Q.set k x).length=52:=fun x=>by rw[Adq,hQ]
  clear hA
  repeat' (first|refine Z1 ?_|(refine Z8 ?_;intro κ hκ)|(refine Z4 ?_;clear hκ κ)|(refine Z2 ?_ ?_<;>intro h aa<;>try exact Xp)|refine Z3 ?_|exact⟨⟩|(apply hκ.out;clear hκ κ))
  refine⟨52-(k+1),Ad2,k+1,Q.set k (true,(k:Int)),?_⟩
  ((repeat' with_reducible refine And.intro ?_ ?_)<;>first|exact Xq|exact (bc)|exact (bd _)|exact Xs)
 have bf:k=52:=Ad2;subst bf;have HQ:Q=pidn:=by rw[hA.out];rfl
 subst HQ;clear hA ap hk hQ ba
 repeat' (first|refine Z1 ?_|(refine Z8 ?_;intro κ hκ)|(refine Z4 ?_;clear hκ κ)|(refine Z2 ?_ ?_<;>intro h aa<;>try exact Xp)|refine Z3 ?_|exact⟨⟩|(apply hκ.out;clear hκ κ))
 refine Ad (fun m s j'=>∃(k:Nat) (Q:List Tm),m=a.ts.length-k/\k<=a.ts.length/\s 3=ptr (j.nobj+1) 0/\s 4=ptr (j.nobj+2) 0/\s 6=ptr (j.nobj+3) 0/\s 21=sl i1 a.ts.length (Ac a.ts)/\s 22=ic a.ts.length/\s 23=ic k/\Keep j j'/\j.nobj+3<j'.nobj/\j'.obj (j.nobj+1)=[ic b.p,sl i2 b.ts.length (Ac b.ts)]/\j'.obj (j.nobj+2)=Ac pt0/\j'.obj (j.nobj+3)=Ac Q/\Q.length=52/\Ad8 (Ep pidn a.ts b.ts=Ep Q (a.ts.drop k) (b.ts.drop k))) a.ts.length
  ⟨0,pidn,Ad2,Ad2,Ad3,Ad3,Ad3,Ad4,Ad4,Ad4,hK,a0,am,ak,aj,bM,by simp[Ad8]⟩ ?_
 clear h2 h3 h4 h6 bn hK a0 bb am ak aj a7;rintro m s j' ⟨k,Q,rfl,hk,h3,h4,h6,bm,bl,bi,hK,a0,am,ak,aj,hQ,hA⟩;have a7:=hK.nobj;have ba:=Fo hQ;have br:=Gc hQ;by_cases ap:k<a.ts.length
 ·have a9:k<b.ts.length:=by have:=a6.out;omega
  have g1:=List.getElem?_eq_getElem ap;have g2:=List.getElem?_eq_getElem a9;have ay:=ha a.ts[k] (Acz ap);have ax:=hb b.ts[k] (Acz a9);obtain⟨r1,bh⟩:=Cg g1;obtain⟨r2,bg⟩:=Cg g2;have HM:Ad8 (Ep pidn a.ts b.ts=(cI Q a.ts[k] b.ts[k]).bind fun P'=>Ep P' (a.ts.drop (k+1)) (b.ts.drop (k+1))):=by rw[Ad8,hA.out,gD g1 g2]
  clear hA g1 g2;generalize a.ts[k]=t at bh ay HM;generalize b.ts[k]=u at bg ax HM;have au:=fun j=>Se Q hQ t ay j;have ar:=fun j=>Se Q hQ u ax j;unfold cI at HM;generalize P8 Q t=x at au HM;generalize P8 Q u=y at ar HM;obtain⟨x1,x2⟩:=x;obtain⟨y1,y2⟩:=y;dsimp only at au ar HM;clear ay ax
  repeat' (first|refine Z1 ?_|(refine Z8 ?_;intro κ hκ)|(refine Z4 ?_;clear hκ κ)|(refine Z2 ?_ ?_<;>intro h aa<;>try exact Xp)|(refine Z5 ?_;refine Xi (au _) ?_;rintro _ _ ⟨rfl,av⟩;(have aw:=av.nobj;have ah:=av.obj;simp only[Aa,Ab]at aw ah))|refine Z3 ?_|exact⟨⟩|(apply hκ.out;clear hκ κ))
  rename_i j1;have a5:Keep j ((j1.new [sc (.bool false),ic 0]).put j1.nobj [sc (.bool x1),ic x2]):=((((hK.new _).put hK.nobj _).trans av).new _).put Ad2 _;have kv:∀p,p<j'.nobj->((j1.new [sc (.bool false),ic 0]).put j1.nobj [sc (.bool x1),ic x2]).obj p=j'.obj p:=fun p hp=>by rw[Ai Ad2,Ae Ad2,ah _ Ad2,Ai Ad2,Ae Ad2]
  have o10:((j1.new [sc (.bool false),ic 0]).put j1.nobj [sc (.bool x1),ic x2]).obj j1.nobj=[sc (.bool x1),ic x2]:=Aj;have nb:j1.nobj<((j1.new [sc (.bool false),ic 0]).put j1.nobj [sc (.bool x1),ic x2]).nobj:=Ad7;generalize (j1.new [sc (.bool false),ic 0]).put j1.nobj [sc (.bool x1),ic x2]=j2 at a5 kv o10 nb;have oc1:j2.obj (j.nobj+1)=[ic b.p,sl i2 b.ts.length (Ac b.ts)]:=by rw[kv _ Ad2,am]
  have oc2:j2.obj (j.nobj+2)=Ac pt0:=by rw[kv _ Ad2,ak]
  have oc3:j2.obj (j.nobj+3)=Ac Q:=by rw[kv _ Ad2,aj]
  clear kv ah av hK am ak aj au;refine Br (Q:=fun e s' j''=>e= .normal/\∃o11:Nat,s' 11=ptr o11 0/\j2.nobj<=o11/\o11<j''.nobj/\j''.obj o11=[sc (.bool y1),ic y2]/\s' 3=ptr (j.nobj+1) 0/\s' 4=ptr (j.nobj+2) 0/\s' 6=ptr (j.nobj+3) 0/\s' 10=ptr j1.nobj 0/\s' 21=sl i1 a.ts.length (Ac a.ts)/\s' 22=ic a.ts.length/\s' 23=ic k/\Keep j2 j'') ?_ ?_
  ·refine A4 Ak (fun _=>True) [8] [0,1,2,3,4,5] 3 #[true,true,true,true,true,true,false,false,false] Ad5 (fun _ _ _ h=>by cases h.1) ?_;intro κ hκ;refine Z3 ?_;refine hκ.out _ ?_;clear hκ κ;refine Dy (rs:=[6,7]) Ad5 (by simp) ?_;intro i hi;simp only[Ace,Acx,Adz]at hi;rcases hi with rfl|rfl
   ·refine Aq ?_;intro κ hκ;refine Z3 ?_;refine ACalls.mono (ar _) ?_;rintro _ j3 ⟨rfl,ac⟩;have ai:=ac.nobj;refine Z3 ?_;refine hκ.out _ _ ⟨Ao ac,?_⟩;clear hκ κ;refine Al (i:=7) Ad5 ?_;refine Aq ?_;intro κ hκ;refine Z3 ?_;refine hκ.out _ _ ⟨Ao (ac.new _),?_⟩;clear hκ κ;refine Al (i:=8) Ad5 ?_;refine Aq ?_;intro κ hκ;refine Z3 ?_;refine hκ.out _ _ ⟨Bo rfl,?_⟩;clear hκ κ;exact A7 Ad5 ⟨rfl,j3.nobj,Ad4,Ad2,Ad7,Aj,Ad3,Ad3,Ad3,Ad3,Ad3,Ad3,Ad3,(ac.new _).put Ad2 _⟩
   ·refine Aq ?_;intro κ hκ;refine Z3 ?_;refine hκ.out _ _ ⟨Ao ((Keep.refl _).new _),?_⟩;clear hκ κ;refine Al (i:=6) Ad5 ?_;refine Aq ?_;intro κ hκ;refine Z3 ?_;refine ACalls.mono (ar _) ?_;rintro _ j3 ⟨rfl,ac⟩;have ai:=ac.nobj;have ab:=ac.obj;simp only[Aa]at ai ab;have o3z:j3.obj j2.nobj=[sc (.bool false),ic 0]:=by rw[ab _ Ad2,Am]
    have a4:Keep j2 j3:=((Keep.refl _).new _).trans ac;refine Z3 ?_;refine hκ.out _ _ ⟨Ao a4,?_⟩;clear hκ κ;refine Al (i:=8) Ad5 ?_;refine Aq ?_;intro κ hκ;refine Z3 ?_;refine hκ.out _ _ ⟨Bo rfl,?_⟩;clear hκ κ;exact A7 Ad5 ⟨rfl,j2.nobj,Ad4,Ad2,by simp only[Ab];omega,Aj,Ad3,Ad3,Ad3,Ad3,Ad3,Ad3,Ad3,a4.put Ad2 _⟩
  rintro e s' j3 ⟨rfl,o11,g11,bw,b0,oy,g3,g4,g6,g10,g21,g22,g23,ac⟩;have ai:=ac.nobj;have ab:=ac.obj;have od1:j3.obj (j.nobj+1)=[ic b.p,sl i2 b.ts.length (Ac b.ts)]:=by rw[ab _ Ad2,oc1]
  have od2:j3.obj (j.nobj+2)=Ac pt0:=by rw[ab _ Ad2,oc2]
  have od3:j3.obj (j.nobj+3)=Ac Q:=by rw[ab _ Ad2,oc3]
  have ox:j3.obj j1.nobj=[sc (.bool x1),ic x2]:=by rw[ab _ Ad2,o10]
  have a4:=a5.trans ac;clear ab ac a5 oc1 oc2 oc3 o10 h3 h4 h6 bm bl bi ar;by_cases ad:((x1,x2):Tm)=(y1,y2)
  ·have hc:(x1==y1&&x2==y2)=true:=by simp at ad;simp[ad]
   have HN:Ad8 (Ep pidn a.ts b.ts=Ep Q (a.ts.drop (k+1)) (b.ts.drop (k+1))):=by rw[Ad8,HM.out,if_pos ad];rfl
   clear HM ad
   repeat' (first|refine Z1 ?_|(refine Z8 ?_;intro κ hκ)|(refine Z4 ?_;clear hκ κ)|(refine Z2 ?_ ?_<;>intro h aa<;>try exact Xp)|refine Z3 ?_|exact⟨⟩|(apply hκ.out;clear hκ κ))
   refine⟨a.ts.length-(k+1),Ad2,k+1,Q,?_⟩
   ((repeat' with_reducible refine And.intro ?_ ?_)<;>first|exact Xq|exact (HN)|exact Xs)
  ·rw[if_neg ad]at HM;cases y1 with
   |true=>
    have hW:=fun j=>bE Q hQ (true,y2) (x1,x2) j;have ae:(V5 Q (true,y2) (x1,x2)).length=52:=by rw[X3,hQ]
    have HN:Ad8 (Ep pidn a.ts b.ts=Ep (V5 Q (true,y2) (x1,x2)) (a.ts.drop (k+1)) (b.ts.drop (k+1))):=by rw[Ad8,HM.out,if_pos rfl];rfl
    generalize V5 Q (true,y2) (x1,x2)=Q' at hW ae HN;have a3:=Fo ae;have az:=Gc ae;have a8:=Mc hQ ae;clear HM;cases x1 with
    |true=>
     have hc:(x2==y2)=false:=by simpa using ad
     clear ad
     repeat' (first|refine Z1 ?_|(refine Z8 ?_;intro κ hκ)|(refine Z4 ?_;clear hκ κ)|(refine Z2 ?_ ?_<;>intro h aa<;>try exact Xp)|(refine Z5 ?_;refine Xi (hW _) ?_;rintro _ _ ⟨rfl,af⟩;(have ao:=af.nobj;have an:=af.obj))|refine Z3 ?_|exact⟨⟩|(apply hκ.out;clear hκ κ))
     refine⟨a.ts.length-(k+1),Ad2,k+1,Q',?_⟩
     ((repeat' with_reducible refine And.intro ?_ ?_)<;>first|exact Xq|exact (HN)|exact Xs)
    |false=>
     clear ad
     repeat' (first|refine Z1 ?_|(refine Z8 ?_;intro κ hκ)|(refine Z4 ?_;clear hκ κ)|(refine Z2 ?_ ?_<;>intro h aa<;>try exact Xp)|(refine Z5 ?_;refine Xi (hW _) ?_;rintro _ _ ⟨rfl,af⟩;(have ao:=af.nobj;have an:=af.obj))|refine Z3 ?_|exact⟨⟩|(apply hκ.out;clear hκ κ))
     refine⟨a.ts.length-(k+1),Ad2,k+1,Q',?_⟩
     ((repeat' with_reducible refine And.intro ?_ ?_)<;>first|exact Xq|exact (HN)|exact Xs)
   |false=>
    rw[if_neg (by simp)]at HM;cases x1 with
    |true=>
     have hW:=fun j=>bE Q hQ (true,x2) (false,y2) j;have ae:(V5 Q (true,x2) (false,y2)).length=52:=by rw[X3,hQ]
     have HN:Ad8 (Ep pidn a.ts b.ts=Ep (V5 Q (true,x2) (false,y2)) (a.ts.drop (k+1)) (b.ts.drop (k+1))):=by rw[Ad8,HM.out,if_pos rfl];rfl
     generalize V5 Q (true,x2) (false,y2)=Q' at hW ae HN;have a3:=Fo ae;have az:=Gc ae;have a8:=Mc hQ ae;clear HM ad
     repeat' (first|refine Z1 ?_|(refine Z8 ?_;intro κ hκ)|(refine Z4 ?_;clear hκ κ)|(refine Z2 ?_ ?_<;>intro h aa<;>try exact Xp)|(refine Z5 ?_;refine Xi (hW _) ?_;rintro _ _ ⟨rfl,af⟩;(have ao:=af.nobj;have an:=af.obj))|refine Z3 ?_|exact⟨⟩|(apply hκ.out;clear hκ κ))
     refine⟨a.ts.length-(k+1),Ad2,k+1,Q',?_⟩
     ((repeat' with_reducible refine And.intro ?_ ?_)<;>first|exact Xq|exact (HN)|exact Xs)
    |false=>
     have HN:Ad8 (Ep pidn a.ts b.ts=none):=by rw[Ad8,HM.out,if_neg (by simp)];rfl
     have bo:=Gc (P:=pt0) (by simp[pt0]);have bu:=Mc (P:=pt0) (Q:=pt0) (by simp[pt0]) (by simp[pt0]);have hc:(x2==y2)=false:=by simpa using ad
     clear HM ad
     repeat' (first|refine Z1 ?_|(refine Z8 ?_;intro κ hκ)|(refine Z4 ?_;clear hκ κ)|(refine Z2 ?_ ?_<;>intro h aa<;>try exact Xp)|refine Z3 ?_|exact⟨⟩|(apply hκ.out;clear hκ κ))
     exact⟨_,rfl,by rw[HN.out];rfl,Xs⟩
 ·have be:k=a.ts.length:=Ad2;have HM:Ad8 (Ep pidn a.ts b.ts=some Q):=by
   rw[Ad8,hA.out,be,List.drop_length];rfl
  have a8:=Mc (P:=pt0) (by simp[pt0]) hQ;clear hA
  repeat' (first|refine Z1 ?_|(refine Z8 ?_;intro κ hκ)|(refine Z4 ?_;clear hκ κ)|(refine Z2 ?_ ?_<;>intro h aa<;>try exact Xp)|refine Z3 ?_|exact⟨⟩|(apply hκ.out;clear hκ κ))
  exact⟨_,rfl,by rw[HM.out];rfl,Xs⟩
def Ltr (c:List AV):Prop:=∃(b:Bool) (p:Int) (ia n:Nat) (tc:List AV),c=[sc (.bool b),sc (.int .i64 p),sl ia n tc]/\∀x∈tc,∃v,x=sc v
def Tl {α:Type}(E:α->List AV->Prop)(a:α)(d:List AV):Prop:=∃x,E a (x::d)
theorem eF {α:Type}{E:α->List AV->Prop}(hz:∀a c,E a c->Ltr c):∀{l:List α} {cs:List AV},EL (Tl E) l cs->∀c∈cs,Plain c
 |[],cs,h,c,hc=>by have h:cs=[]:=h;subst h;cases hc
 |a::l,_,⟨c1,c2,⟨x,hx⟩,h2,rfl⟩,c,hc=>by
  rcases Ack.1 hc with hc|hc
  ·obtain⟨_,p,ia,n,tc,e,ht⟩:=hz _ _ hx;simp at e;rw[e.2]at hc;simp only[Ace,Acx,Adz]at hc;rcases hc with rfl|rfl
   ·exact .inl ⟨_,rfl⟩
   ·exact .inr ⟨_,_,_,rfl,ht⟩
  ·exact eF hz h2 c hc
theorem fX {α:Type}{E:α->List AV->Prop}(hz:∀a c,E a c->Ltr c)(p:Int)(ih n:Nat)(tc:List AV)(af:∀x∈tc,∃v,x=sc v)(l:List α)(id:Nat)(b:List AV)(hb:EL E l b)(hn:l.length<=1000)(j:St):
  ACalls Tryz.prog 133 [ag [sc (.bool false),sc (.int .i64 p),sl ih n tc,sl id l.length b]] j fun r j'=>∃(o m:Nat) (cs:List AV),r=fx o 0 m/\j.nobj<=o/\j'.obj o=cs/\Keep j j'/\(∀c∈cs,Plain c)/\(m=l.length+1/\∃ds,cs=sc (.int .i64 p)::sl ih n tc::ds/\EL (Tl E) l ds):=by
 have h3:∀a c,E a c->c.length=3:=fun a c h=>by obtain⟨_,_,_,_,_,rfl,-⟩:=hz a c h;rfl
 have ap:=EL.length h3 hb;refine Z9 33 [.tmp 2] Tryz.func133 ?_
 repeat' (first|refine Z1 ?_|(refine Z8 ?_;intro κ hκ)|(refine Z4 ?_;clear hκ κ)|(refine Z2 ?_ ?_<;>intro h ab<;>try exact Xp)|refine Z3 ?_|exact⟨⟩|(apply hκ.out;clear hκ κ))
 have ae:Keep j (j.new [sc (.bool false),sc (.int .i64 p),sl ih n tc,sl id l.length b]):=(Keep.refl _).new _;have ad:((l.length:Int)+1).toNat=l.length+1:=Ad2
 refine Ad (fun m s j'=>∃(k:Nat) (cur:List AV),m=l.length-k/\k<=l.length/\s 3=fx (j.nobj+1) 0 (l.length+1)/\s 18=sl id l.length b/\s 19=sc (.int .i64 l.length)/\s 20=sc (.int .i64 k)/\Keep j j'/\j.nobj+1<j'.nobj/\j'.obj (j.nobj+1)=cur/\cur.length=(l.length+1)*2/\Ad8 (∃ds,cur=(sc (.int .i64 p)::sl ih n tc::ds)++(List.replicate (l.length-k) [sc (.int .i64 0),nilS]).flatten/\ds.length=k*2/\EL (Tl E) (l.take k) ds)) l.length
  ⟨0,_,Ad2,Ad2,by simp[upd,ad],Ad4,Ad4,rfl,(ae.new _).put Ad2 _,Ad7,Aj,by simp[ad],[],?_,rfl,rfl⟩ ?_
 ·rw[ad,Qk Ad2];rfl
 clear ae;rintro m s j' ⟨k,cur,rfl,hk,ar,aw,av,au,hK,ao,ah,ak,hE⟩;have am:=hK.nobj;by_cases ai:k<l.length
 ·have aa:=List.getElem?_eq_getElem ai;obtain⟨c,r,ac,hd⟩:=EL.get h3 hb aa;generalize l[k]=a at hd aa ac;obtain⟨a1,a2,a3,a4,a5,rfl,ha⟩:=hz _ _ ac;simp only[Acg,Aci]at hd;have HN:Ad8 (∃ds,(cur.set ((k+1)*2) (sc (.int .i64 a2))).set ((k+1)*2+1) (sl a3 a4 a5)=(sc (.int .i64 p)::sl ih n tc::ds)++(List.replicate (l.length-(k+1)) [sc (.int .i64 0),nilS]).flatten/\ds.length=(k+1)*2/\EL (Tl E) (l.take (k+1)) ds):=by
   obtain⟨ds,e1,e2,e3⟩:=hE.out;refine⟨ds++[sc (.int .i64 a2),sl a3 a4 a5],?_,by simp[e2];omega,?_⟩
   ·rw[e1,Qk Ad2,jX (by simp[e2];omega)];simp[Nat.sub_sub]
   ·rw[Abq,aa];exact EL.append e3 (EL.single ⟨_,ac⟩)
  clear aa ac hE ha;have an:((k:Int)+1).toNat=k+1:=Ad2
  repeat' (first|refine Z1 ?_|(refine Z8 ?_;intro κ hκ)|(refine Z4 ?_;clear hκ κ)|(refine Z2 ?_ ?_<;>intro h ab<;>try exact Xp)|refine Z3 ?_|exact⟨⟩|(apply hκ.out;clear hκ κ))
  refine⟨l.length-(k+1),Ad2,k+1,(cur.set ((k+1)*2) (sc (.int .i64 a2))).set ((k+1)*2+1) (sl a3 a4 a5),?_⟩
  ((repeat' with_reducible refine And.intro ?_ ?_)<;>first|exact Xq|exact (((hK.new _).put hK.nobj _).put Ad2 _)|exact (Aj)|exact (HN)|exact (by simp[ak])|exact Xs)
 ·have aj:k=l.length:=Ad2;subst aj;obtain⟨ds,e1,e2,e3⟩:=hE.out;rw[Acr,List.replicate_zero,List.flatten_nil,Abv]at e1;rw[Abn]at e3;have hpl:∀c∈cur,Plain c:=fun c hc=>by
   rw[e1]at hc;simp only[Ace]at hc;rcases hc with rfl|rfl|hc
   ·exact .inl ⟨_,rfl⟩
   ·exact .inr ⟨_,_,_,rfl,af⟩
   ·exact eF hz e3 c hc
  have HF:Ad8 ((∀c∈cur,Plain c)/\∃ds,cur=sc (.int .i64 p)::sl ih n tc::ds/\EL (Tl E) l ds):=⟨hpl,ds,e1,e3⟩;clear hE e1 e2 e3 hpl
  repeat' (first|refine Z1 ?_|(refine Z8 ?_;intro κ hκ)|(refine Z4 ?_;clear hκ κ)|(refine Z2 ?_ ?_<;>intro h ab<;>try exact Xp)|refine Z3 ?_|exact⟨⟩|(apply hκ.out;clear hκ κ))
  exact⟨_,rfl,j.nobj+1,_,cur,rfl,Ad2,ah,HF.out.1,rfl,HF.out.2⟩
theorem Wr (ts:List Tm):∀x∈Ac ts,∃v,x=sc v:=fun x hx=>by
 obtain⟨t,-,ht⟩:=Acj.1 hx;simp[Hs]at ht;rcases ht with rfl|rfl<;>exact⟨_,rfl⟩
theorem wW (l:Lit)(c:List AV)(h:Od l c):Ltr c:=by
 obtain⟨id,rfl⟩:=h;exact⟨_,_,_,_,_,rfl,Wr _⟩
def Gk (r:D2):List C3:=r.head::r.body.map (·.a)
def Ev (r:D2):List Int:=Cb (Gk r)
theorem tL:∀{l:List Lit} {ds:List AV},EL (Tl Od) l ds->EL Lk (l.map (·.a)) ds
 |[],_,h=>h
 |a::l,_,⟨c1,c2,⟨x,ia,e⟩,h2,rfl⟩=>⟨c1,c2,⟨ia,by simpa using (List.cons.inj e).2⟩,tL h2,rfl⟩
theorem bA (r:D2)(c:List AV)(hc:Pj false r c)(hn:r.body.length<=1000)(j:St):ACalls Tryz.prog 133 [ag c] j fun x j'=>∃id cs,x=sl id (Gk r).length cs/\EL Lk (Gk r) cs/\Keep j j':=by
 obtain⟨ih,ib,bc,rfl,hb⟩:=hc;refine (ACalls.freeze (fX wW _ _ _ _ (Wr _) _ _ _ hb hn j)).mono fun x j' h=>?_;obtain⟨n,cs,rfl,⟨rfl,ds,rfl,h1⟩,h2⟩:=h;exact⟨0,_,by simp[Gk],⟨_,_,⟨ih,rfl⟩,tL h1,rfl⟩,h2⟩
theorem Ju (r:D2)(c:List AV)(hc:Pj false r c)(hr:zS r)(j:St):ACalls Tryz.prog 96 [ag c] j fun x j'=>(∃id,x=sl id (Ev r).length (Ar (Ev r)))/\Keep j j':=by
 have hb:=hr.bl;have hA:=fun j=>bA r c hc Ad2 j
 have hV:=fun cs ida hE j=>F6 (Gk r) cs ida hE (fun a ha=>by
  rcases Ace.1 ha with rfl|ha
  ·exact hr.h3
  ·obtain⟨l,hl,rfl⟩:=Acm.1 ha
   exact hr.b3 l hl) (by simp[Gk];omega) j
 obtain⟨ih,ib,bc,rfl,-⟩:=hc;unfold Ev;generalize Cb (Gk r)=vs at hV;refine Z9 6 [.tmp 2] Tryz.func96 ?_
 repeat' (first|refine Z1 ?_|(refine Z8 ?_;intro κ hκ)|(refine Z4 ?_;clear hκ κ)|(refine Z2 ?_ ?_<;>intro h aa<;>try exact Xp)|(refine Z5 ?_;first|(refine Xi (hA _) ?_;rintro _ _ ⟨ida,cs,rfl,hE,ac⟩)|(refine Xi (hV _ _ (by assumption) _) ?_;rintro _ _ ⟨⟨id2,rfl⟩,ab⟩))|refine Z3 ?_|exact⟨⟩|(apply hκ.out;clear hκ κ))
 exact⟨_,rfl,⟨id2,rfl⟩,Xs⟩
def mK (l:List Int)(v:Int):Int:=if v∈l then (l.idxOf v:Nat)else -1
def Ir (l:List Int)(t:Tm):Tm:=(t.1,if t.1=true then mK l t.2 else t.2)
theorem Lg (l:List Int)(ido:Nat)(kp:Int)(ids:Nat)(ts:List Tm)(hl:l.length<=100000)(hn:ts.length<=1000)(j:St):
  ACalls Tryz.prog 144 [ag [ic kp,sl ids ts.length (Ac ts)],sl ido l.length (Ar l)] j fun r j'=>(∃id,r=ag [ic kp,sl id ts.length (Ac (ts.map (Ir l)))])/\Keep j j':=by
 have a3:=Ce ts;refine Z9 33 [.cell 4 122] Tryz.func144 ?_
 repeat' (first|refine Z1 ?_|(refine Z8 ?_;intro κ hκ)|(refine Z4 ?_;clear hκ κ)|(refine Z2 ?_ ?_<;>intro h af<;>try exact Xp)|(refine Z6 ?_;intro idn jn ai aj ad aa ac ab)|refine Z3 ?_|exact⟨⟩|(apply hκ.out;clear hκ κ))
 refine Ad (fun m s j'=>∃(k i3:Nat) (xs:List AV),m=ts.length-k/\k<=ts.length/\s 1=sl ido l.length (Ar l)/\s 4=ptr (j.nobj+1) 0/\s 5=ptr (j.nobj+2) 0/\s 12=sl ids ts.length (Ac ts)/\s 13=ic ts.length/\s 14=ic k/\Keep j j'/\j.nobj+2<j'.nobj/\j'.obj (j.nobj+1)=[ic 0,nilS]/\j'.obj (j.nobj+2)=[ic kp,sl i3 k xs]/\Own j j' i3 k/\xs.length=k*2/\Ad8 (xs=Ac ((ts.take k).map (Ir l)))) ts.length
  ⟨0,1,[],Ad2,Ad2,by simp[upd,initS],Ad4,Ad4,Ad4,Ad4,rfl,?_,?_,?_,?_,Own.nil _ _,by simp,by simp[Ad8,Ac]⟩ ?_
 ·exact ((((Keep.refl j).new _).new _).new _).put Ad2 _
 ·simp only[Ab,Aa];omega
 ·rw[Ai Ad2,Ae Ad6,Bp (by rw[Aa];omega) (by rw[Aa];omega)]
 ·rw[show j.nobj+2=j.nobj+1+1 by omega,Aj]
 rintro m s j' ⟨k,i3,xs,rfl,hk,h1,h4,h5,a7,a6,a5,hK,a4,aw,av,hO,ar,hX⟩;have a0:=hK.nobj;by_cases ax:k<ts.length
 ·have ah:=List.getElem?_eq_getElem ax;obtain⟨r2,az⟩:=Cg ah;generalize ts[k]=w at az ah;obtain⟨w1,w2⟩:=w;have ae:Ad8 (Ac ((ts.take (k+1)).map (Ir l))=xs++Hs (Ir l (w1,w2))):=by
   rw[Ad8,Abq,ah,Ac2,Abt,List.map_singleton,P1,<-hX.out]
  clear ah hX;cases w1 with
  |true=>
   have hP:=fun j=>Gd w2 l ido hl j;have ak:Ad8 (xs++[sc (.bool true),ic (mK l w2)]=Ac ((ts.take (k+1)).map (Ir l))):=by rw[Ad8,ae.out];rfl
   have au:∀v,(if v∈l then ((l.idxOf v:Nat):Int)else -1)=mK l v:=fun _=>rfl;rw[au]at hP;generalize mK l w2=w3 at hP ak;clear au ae
   repeat' (first|refine Z1 ?_|(refine Z8 ?_;intro κ hκ)|(refine Z4 ?_;clear hκ κ)|(refine Z2 ?_ ?_<;>intro h af<;>try exact Xp)|(refine Z6 ?_;intro idn jn ai aj ad aa ac ab)|(refine Z5 ?_;refine Xi (hP _) ?_;rintro _ _ ⟨rfl,am⟩;(have ao:=am.nobj;have an:=am.obj;simp only[Aa,Ab]at ao an))|refine Z3 ?_|exact⟨⟩|(apply hκ.out;clear hκ κ))
   rename_i j2;have ap:Keep j (j2.put j'.nobj [sc (.bool true),ic w3]):=(((hK.new _).put hK.nobj _).trans am).put Ad2 _;refine Bj (by first|exact Ds) ap (Own.put (Own.keep (Own.put (Own.new hO _) _ _) am) _ _) (by decide) (by rfl) ar (by rfl) (by rfl) (by decide) Ad2 Ad2 ?_;intro idn jn ai aj ad aa ac ab;simp only[Ab,Aa]at aa;refine Z3 ?_
   repeat' (first|refine Z1 ?_|(refine Z8 ?_;intro κ hκ)|(refine Z4 ?_;clear hκ κ)|(refine Z2 ?_ ?_<;>intro h af<;>try exact Xp)|(refine Z6 ?_;intro idn jn ai aj ad aa ac ab)|refine Z3 ?_|exact⟨⟩|(apply hκ.out;clear hκ κ))
   refine⟨ts.length-(k+1),Ad2,k+1,idn,xs++[sc (.bool true),ic w3],?_⟩
   ((repeat' with_reducible refine And.intro ?_ ?_)<;>first|exact Xq|exact (aj.put Ad2 _)|exact (Own.put ai _ _)|exact (ak)|exact Xs)
  |false=>
   have ak:Ad8 (xs++[sc (.bool false),ic w2]=Ac ((ts.take (k+1)).map (Ir l))):=by rw[Ad8,ae.out];rfl
   clear ae
   repeat' (first|refine Z1 ?_|(refine Z8 ?_;intro κ hκ)|(refine Z4 ?_;clear hκ κ)|(refine Z2 ?_ ?_<;>intro h af<;>try exact Xp)|(refine Z6 ?_;intro idn jn ai aj ad aa ac ab)|refine Z3 ?_|exact⟨⟩|(apply hκ.out;clear hκ κ))
   have ap:Keep j ((j'.new [sc (.bool false),ic 0]).put j'.nobj [sc (.bool false),ic w2]):=(hK.new _).put hK.nobj _;refine Bj (by first|exact Ds) ap (Own.put (Own.new hO _) _ _) (by decide) (by rfl) ar (by rfl) (by rfl) (by decide) Ad2 Ad2 ?_;intro idn jn ai aj ad aa ac ab;simp only[Ab,Aa]at aa;refine Z3 ?_
   repeat' (first|refine Z1 ?_|(refine Z8 ?_;intro κ hκ)|(refine Z4 ?_;clear hκ κ)|(refine Z2 ?_ ?_<;>intro h af<;>try exact Xp)|(refine Z6 ?_;intro idn jn ai aj ad aa ac ab)|refine Z3 ?_|exact⟨⟩|(apply hκ.out;clear hκ κ))
   refine⟨ts.length-(k+1),Ad2,k+1,idn,xs++[sc (.bool false),ic w2],?_⟩
   ((repeat' with_reducible refine And.intro ?_ ?_)<;>first|exact Xq|exact (aj.put Ad2 _)|exact (Own.put ai _ _)|exact (ak)|exact Xs)
 ·have ay:k=ts.length:=Ad2;subst ay;rw[Abn]at hX
  repeat' (first|refine Z1 ?_|(refine Z8 ?_;intro κ hκ)|(refine Z4 ?_;clear hκ κ)|(refine Z2 ?_ ?_<;>intro h af<;>try exact Xp)|(refine Z6 ?_;intro idn jn ai aj ad aa ac ab)|refine Z3 ?_|exact⟨⟩|(apply hκ.out;clear hκ κ))
  exact⟨_,rfl,⟨i3,by rw[hX.out]⟩,hK.put Ad2 _⟩
end Go.Proofs.YtmoeoppbmhfbpabGreatDoorH
