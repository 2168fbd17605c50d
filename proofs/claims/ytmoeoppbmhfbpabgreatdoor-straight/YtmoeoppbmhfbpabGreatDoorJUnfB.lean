import Derived.Test.YtmoeoppbmhfbpabGreatDoorJUnfA
import Derived.Test.YtmoeoppbmhfbpabGreatDoorJOptC
set_option maxHeartbeats 64000000
set_option maxRecDepth 100000
set_option linter.all false
namespace Go.Proofs.YtmoeoppbmhfbpabGreatDoorJ
open Go.Abs
def uR (P:List Tm)(l:Lit):Lit:=⟨l.neg,Ya P l.a⟩
def Gw (P:List Tm)(r:Dq):Dq:=⟨Ya P r.head,r.body.map (uR P)⟩
def O9 (o:Bool)(r:Dq)(c:List AV):Prop:=∃ih ib bc,c=[sc (.bool o),ic r.head.p,sl ih r.head.ts.length (Ac r.head.ts),sl ib r.body.length bc]/\EL Pz r.body bc
structure zG (r:Dq):Prop where
 h3:r.head.ts.length<=3
 b3:∀l∈r.body,l.a.ts.length<=3
 bl:r.body.length<=100
 hv:∀t∈r.head.ts,zE t
 bv:∀l∈r.body,∀t∈l.a.ts,zE t
theorem V5 (P:List Tm)(hP:P.length=52)(r:Dq)(hr:zG r)(o:Bool)(c:List AV)(hc:O9 o r c)(q:St):ACalls Tryz.prog 212 [ag (Ac P),ag c] q fun x q'=>(∃c',x=ag c'/\O9 false (Gw P r) c')/\Keep q q':=by
 obtain⟨ih,ib,bc,rfl,hb⟩:=hc;have hl:=Ft hP;have a7:=Gm hP;have a9:=Fg P;have ba:=EL.length Hh hb;have bb:=hr.bl;have hH:=fun q=>V6 P hP r.head ih hr.hv (by have:=hr.h3;omega) q;have hL:=fun (l:Lit) (h:l∈r.body) (ids:Nat) q=>V6 P hP l.a ids (hr.bv l h) (by have:=hr.b3 l h;omega) q;refine Z9 33 [.cell 4 125] Tryz.func212 ?_
 repeat' (first|refine Z1 ?_|(refine Z8 ?_;intro κ hκ)|(refine Z4 ?_;clear hκ κ)|(refine Z2 ?_ ?_<;>intro h ah<;>try exact Xp)|(refine Z6 ?_;intro idn qn ai aj af aa ae ab)|(refine Z5 ?_;refine Xi (hH _) ?_;rintro _ _ ⟨⟨id1,rfl⟩,ap⟩;(have ao:=ap.nobj;have ac:=ap.obj;simp only[Aa]at ao ac))|refine Z3 ?_|exact⟨⟩|(apply hκ.out;clear hκ κ))
 rename_i q1;have a0:Keep q q1:=Xs;have o0:q1.obj q.nobj=Ac P:=by rw[ac _ Ad6,Ae Aea,Ae Aea,Ao]
 have o2:q1.obj (q.nobj+2)=[sc (.bool false),ic 0,nilS,nilS]:=by rw[ac _ Ad6,Bu Aea Aea]
 clear hH ac
 refine Ad (fun m s q'=>∃(k i3:Nat) (xs:List AV),m=r.body.length-k/\k<=r.body.length/\s 2=ptr q.nobj 0/\s 4=ptr (q.nobj+2) 0/\s 5=ptr q1.nobj 0/\s 14=sl ib r.body.length bc/\s 15=ic r.body.length/\s 16=ic k/\Keep q q'/\q1.nobj<q'.nobj/\q'.obj q.nobj=Ac P/\q'.obj (q.nobj+2)=[sc (.bool false),ic 0,nilS,nilS]/\q'.obj q1.nobj=[sc (.bool false),ic r.head.p,sl id1 r.head.ts.length (Ac (r.head.ts.map (P8 P))),sl i3 k xs]/\Own q q' i3 k/\xs.length=k*3/\Aec (EL Pz ((r.body.take k).map (uR P)) xs)) r.body.length
  ⟨0,1,[],Ad6,Ad6,by simp[upd,initS],Ad8,Ad8,Ad8,Ad8,rfl,Xs,Aeb,by rw[Aj Ad6,Ae Ad6,o0],by rw[Aj Ad6,Ae Ad6,o2],by rw[Ak],Own.nil _ _,by simp,by simp[Aec,EL]⟩ ?_
 clear o0 o2 a0 ap;rintro m s q' ⟨k,i3,xs,rfl,hk,h2,h4,h5,bf,be,bd,hK,a8,a5,a4,a3,hO,aw,hX⟩;have a6:=hK.nobj;by_cases au:k<r.body.length
 ·have ad:=List.getElem?_eq_getElem au;obtain⟨ia,rr,hd⟩:=Io hb ad;have av:=fun q=>hL r.body[k] (Ac2 au) ia q;generalize r.body[k]=a at hd ad av;have HX:Aec (∀i4,EL Pz ((r.body.take (k+1)).map (uR P)) (xs++[sc (.bool a.neg),ic a.a.p,sl i4 a.a.ts.length (Ac (a.a.ts.map (P8 P)))])):=fun i4=>by
   rw[Abv,ad,Ac5,Abx];exact EL.append hX.out (EL.single ⟨i4,by simp[uR,Ya]⟩)
  clear ad hX hL
  repeat' (first|refine Z1 ?_|(refine Z8 ?_;intro κ hκ)|(refine Z4 ?_;clear hκ κ)|(refine Z2 ?_ ?_<;>intro h ah<;>try exact Xp)|(refine Z6 ?_;intro idn qn ai aj af aa ae ab)|(refine Z5 ?_;refine Xi (av _) ?_;rintro _ _ ⟨⟨i4,rfl⟩,ak⟩;(have am:=ak.obj;have an:=ak.nobj;simp only[Aa,Ab]at an am))|refine Z3 ?_|exact⟨⟩|(apply hκ.out;clear hκ κ))
  rename_i q4;have az:=((hK.new [sc (.bool false),ic 0,nilS]).put hK.nobj _).trans ak;have ay:=Own.keep (Own.put (Own.new hO [sc (.bool false),ic 0,nilS]) q'.nobj [sc (.bool a.neg),ic a.a.p,sl ia a.a.ts.length (Ac a.a.ts)]) ak;refine Bn (by first|exact Fp) (az.put Ad6 _) (Own.put ay _ _) (by decide) (by rfl) aw (by rfl) (by rfl) (by decide) Ad6 Ad6 ?_;intro idn qn ai aj af aa ae ab;simp only[Ab,Aa]at aa;refine Z3 ?_
  repeat' (first|refine Z1 ?_|(refine Z8 ?_;intro κ hκ)|(refine Z4 ?_;clear hκ κ)|(refine Z2 ?_ ?_<;>intro h ah<;>try exact Xp)|(refine Z6 ?_;intro idn qn ai aj af aa ae ab)|refine Z3 ?_|exact⟨⟩|(apply hκ.out;clear hκ κ))
  refine⟨r.body.length-(k+1),Ad6,k+1,idn,xs++[sc (.bool a.neg),ic a.a.p,sl i4 a.a.ts.length (Ac (a.a.ts.map (P8 P)))],?_⟩
  ((repeat' with_reducible refine And.intro ?_ ?_)<;>first|exact Xq|exact (HX.out i4)|exact (aj.put Ad6 _)|exact (Own.put ai _ _)|exact Xs)
 ·have ax:k=r.body.length:=Ad6;subst ax;rw[Abt]at hX
  repeat' (first|refine Z1 ?_|(refine Z8 ?_;intro κ hκ)|(refine Z4 ?_;clear hκ κ)|(refine Z2 ?_ ?_<;>intro h ah<;>try exact Xp)|(refine Z6 ?_;intro idn qn ai aj af aa ae ab)|refine Z3 ?_|exact⟨⟩|(apply hκ.out;clear hκ κ))
  exact⟨_,rfl,⟨_,rfl,id1,i3,xs,by simp[Gw,Ya],hX.out⟩,hK.put Ad6 _⟩
def aprt:List Tm:=(List.range 52).map fun (i:Nat)=>if i<26 then (true,(26:Int)+i)else (false,0)
theorem dZ:aprt.length=52:=by simp[aprt]
theorem apart_spec (r:Dq)(hr:zG r)(o:Bool)(c:List AV)(hc:O9 o r c)(q:St):ACalls Tryz.prog 209 [ag c] q fun x q'=>(∃c',x=ag c'/\O9 false (Gw aprt r) c')/\Keep q q':=by
 have hI:=fun q=>V5 aprt dZ r hr o c hc q;obtain⟨ih,ib,bc,rfl,hb⟩:=hc;have ax:=Qq;have hz:=K6;refine Z9 17 [.cell 2 125] Tryz.func209 ?_
 repeat' (first|refine Z1 ?_|(refine Z8 ?_;intro κ hκ)|(refine Z4 ?_;clear hκ κ)|(refine Z2 ?_ ?_<;>intro h aa<;>try exact Xp)|refine Z3 ?_|exact⟨⟩|(apply hκ.out;clear hκ κ))
 refine Ad (fun m s q'=>∃(k:Nat) (Q:List Tm),m=26-k/\k<=26/\s 1=ptr q.nobj 0/\s 2=ptr (q.nobj+1) 0/\s 3=ptr (q.nobj+2) 0/\s 4=ic k/\Keep q q'/\q.nobj+2<q'.nobj/\q'.obj q.nobj=[sc (.bool o),ic r.head.p,sl ih r.head.ts.length (Ac r.head.ts),sl ib r.body.length bc]/\q'.obj (q.nobj+1)=[sc (.bool false),ic 0,nilS,nilS]/\q'.obj (q.nobj+2)=Ac Q/\Q.length=52/\Aec (Q=aprt.take k++pt0.drop k)) 26
  ⟨0,pt0,Ad6,Ad6,Ad8,Ad8,Ad8,Ad8,Xs,Aea,?_,?_,?_,by simp[pt0],by simp[Aec]⟩ ?_
 ·rw[Ae Aea,Ae Aea,Ao]
 ·rw[Ae Aea,Bu Aea Aea]
 ·rw[Bu Aea Aea]
 rintro m s q' ⟨k,Q,rfl,hk,h1,h2,h3,h4,hK,av,an,am,ak,hQ,hA⟩;have ao:=hK.nobj;have aw:=Ft hQ;by_cases af:k<26
 ·have ae:Aec (Q.set k (true,(26:Int)+k)=aprt.take (k+1)++pt0.drop (k+1)):=by
   rw[Aec,hA.out,eW (by simp[pt0];omega)];simp[aprt,af,show k<52 by omega]
  have au:=Kw (l:=Q) (i:=k) Ad6 true ((26:Int)+k);have ah:∀x,(Q.set k x).length=52:=fun x=>by rw[Ady,hQ]
  clear hA
  repeat' (first|refine Z1 ?_|(refine Z8 ?_;intro κ hκ)|(refine Z4 ?_;clear hκ κ)|(refine Z2 ?_ ?_<;>intro h aa<;>try exact Xp)|refine Z3 ?_|exact⟨⟩|(apply hκ.out;clear hκ κ))
  refine⟨26-(k+1),Ad6,k+1,Q.set k (true,(26:Int)+k),?_⟩
  ((repeat' with_reducible refine And.intro ?_ ?_)<;>first|exact Xq|exact (ae)|exact (ah _)|exact Xs)
 ·have ai:k=26:=Ad6;subst ai;have HQ:Q=aprt:=by rw[hA.out];rfl
  subst HQ;have ap:=Gm hQ;clear hA
  repeat' (first|refine Z1 ?_|(refine Z8 ?_;intro κ hκ)|(refine Z4 ?_;clear hκ κ)|(refine Z2 ?_ ?_<;>intro h aa<;>try exact Xp)|(refine Z5 ?_;refine Xi (hI _) ?_;rintro _ _ ⟨⟨c',rfl,hE⟩,ab⟩;(have ad:=ab.nobj;have ac:=ab.obj;obtain⟨jh,jb,jc,rfl,aj⟩:=hE))|refine Z3 ?_|exact⟨⟩|(apply hκ.out;clear hκ κ))
  exact⟨_,rfl,⟨_,rfl,jh,jb,jc,rfl,aj⟩,Xs⟩
def cB (P:List Tm)(t u:Tm):Option (List Tm):=
 if P8 P t=P8 P u then some P else if (P8 P u).1=true then some (V3 P (P8 P u) (P8 P t))else if (P8 P t).1=true then some (V3 P (P8 P t) (P8 P u))else none
def Em:List Tm->List Tm->List Tm->Option (List Tm)
 |P,[],_=>some P
 |_,_::_,[]=>none
 |P,t::ts,u::us=>(cB P t u).bind fun P'=>Em P' ts us
def pidn:List Tm:=(List.range 52).map fun (i:Nat)=>(true,(i:Int))
theorem bH:pidn.length=52:=by simp[pidn]
def yT:Option (List Tm)->AV
 |some P=>tp [ag (Ac P),sc (.bool true)]
 |none=>tp [ag (Ac pt0),sc (.bool false)]
theorem X8 (P:List Tm)(v t:Tm):(V3 P v t).length=P.length:=by simp[V3]
theorem gE {P:List Tm}{ts us:List Tm}{k:Nat}{t u:Tm}(ht:ts[k]?=some t)(hu:us[k]?=some u):Em P (ts.drop k) (us.drop k)=(cB P t u).bind fun P'=>Em P' (ts.drop (k+1)) (us.drop (k+1)):=by
 obtain⟨l1,e1⟩:=List.getElem?_eq_some_iff.1 ht;obtain⟨l2,e2⟩:=List.getElem?_eq_some_iff.1 hu;rw[Ach l1,Ach l2,e1,e2];rfl
theorem nC (a b:C6)(i1 i2:Nat)(hl:a.ts.length=b.ts.length)(hn:a.ts.length<=1000)(ha:∀t∈a.ts,zE t)(hb:∀t∈b.ts,zE t)(q:St):
  ACalls Tryz.prog 210 [ag [ic a.p,sl i1 a.ts.length (Ac a.ts)],ag [ic b.p,sl i2 b.ts.length (Ac b.ts)]] q fun r q'=>r=yT (Em pidn a.ts b.ts)/\Keep q q':=by
 have b0:=Qq;have hz:=K6;have br:=Cc a.ts;have bq:=Cc b.ts;have b2:=Fg;have a7:Aec (a.ts.length=b.ts.length):=hl;clear hl;refine Z9 56 [.cell 4 260,.tmp 5] Tryz.func210 ?_
 repeat' (first|refine Z1 ?_|(refine Z8 ?_;intro κ hκ)|(refine Z4 ?_;clear hκ κ)|(refine Z2 ?_ ?_<;>intro h aa<;>try exact Xp)|refine Z3 ?_|exact⟨⟩|(apply hκ.out;clear hκ κ))
 refine Ad (fun m s q'=>∃(k:Nat) (Q:List Tm),m=52-k/\k<=52/\s 2=ptr q.nobj 0/\s 3=ptr (q.nobj+1) 0/\s 4=ptr (q.nobj+2) 0/\s 6=ptr (q.nobj+3) 0/\s 12=ic k/\Keep q q'/\q.nobj+3<q'.nobj/\q'.obj q.nobj=[ic a.p,sl i1 a.ts.length (Ac a.ts)]/\q'.obj (q.nobj+1)=[ic b.p,sl i2 b.ts.length (Ac b.ts)]/\q'.obj (q.nobj+2)=Ac pt0/\q'.obj (q.nobj+3)=Ac Q/\Q.length=52/\Aec (Q=pidn.take k++pt0.drop k)) 52
  ⟨0,pt0,Ad6,Ad6,Ad8,Ad8,Ad8,Ad8,Ad8,Xs,Aea,?_,?_,?_,?_,by simp[pt0],by simp[Aec]⟩ ?_
 ·rw[Ae Aea,Ae Aea,Ae Aea,Ao]
 ·rw[Ae Aea,Ae Aea,Bu Aea Aea]
 ·rw[Ae Aea,Bu Aea Aea]
 ·rw[Bu Aea Aea]
 rintro m s q' ⟨k,Q,rfl,hk,h2,h3,h4,h6,bo,hK,a3,bc,am,ak,aj,hQ,hA⟩;have a8:=hK.nobj;have bb:=Ft hQ;by_cases ap:k<52
 ·have bd:Aec (Q.set k (true,(k:Int))=pidn.take (k+1)++pt0.drop (k+1)):=by
   rw[Aec,hA.out,eW (by simp[pt0];omega)];simp[pidn,ap]
  have bw:=Kw (l:=Q) (i:=k) Ad6 true (k:Int);have be:∀x,(Q.set k x).length=52:=fun x=>by rw[Ady,hQ]
  clear hA
  repeat' (first|refine Z1 ?_|(refine Z8 ?_;intro κ hκ)|(refine Z4 ?_;clear hκ κ)|(refine Z2 ?_ ?_<;>intro h aa<;>try exact Xp)|refine Z3 ?_|exact⟨⟩|(apply hκ.out;clear hκ κ))
  refine⟨52-(k+1),Ad6,k+1,Q.set k (true,(k:Int)),?_⟩
  ((repeat' with_reducible refine And.intro ?_ ?_)<;>first|exact Xq|exact (bd)|exact (be _)|exact Xs)
 have bg:k=52:=Ad6;subst bg;have HQ:Q=pidn:=by rw[hA.out];rfl
 subst HQ;clear hA ap hk hQ bb
 repeat' (first|refine Z1 ?_|(refine Z8 ?_;intro κ hκ)|(refine Z4 ?_;clear hκ κ)|(refine Z2 ?_ ?_<;>intro h aa<;>try exact Xp)|refine Z3 ?_|exact⟨⟩|(apply hκ.out;clear hκ κ))
 refine Ad (fun m s q'=>∃(k:Nat) (Q:List Tm),m=a.ts.length-k/\k<=a.ts.length/\s 3=ptr (q.nobj+1) 0/\s 4=ptr (q.nobj+2) 0/\s 6=ptr (q.nobj+3) 0/\s 21=sl i1 a.ts.length (Ac a.ts)/\s 22=ic a.ts.length/\s 23=ic k/\Keep q q'/\q.nobj+3<q'.nobj/\q'.obj (q.nobj+1)=[ic b.p,sl i2 b.ts.length (Ac b.ts)]/\q'.obj (q.nobj+2)=Ac pt0/\q'.obj (q.nobj+3)=Ac Q/\Q.length=52/\Aec (Em pidn a.ts b.ts=Em Q (a.ts.drop k) (b.ts.drop k))) a.ts.length
  ⟨0,pidn,Ad6,Ad6,Ad7,Ad7,Ad7,Ad8,Ad8,Ad8,hK,a3,am,ak,aj,bH,by simp[Aec]⟩ ?_
 clear h2 h3 h4 h6 bo hK a3 bc am ak aj a8;rintro m s q' ⟨k,Q,rfl,hk,h3,h4,h6,bn,bm,bl,hK,a3,am,ak,aj,hQ,hA⟩;have a8:=hK.nobj;have bb:=Ft hQ;have bu:=Gm hQ;by_cases ap:k<a.ts.length
 ·have ba:k<b.ts.length:=by have:=a7.out;omega
  have g1:=List.getElem?_eq_getElem ap;have g2:=List.getElem?_eq_getElem ba;have az:=ha a.ts[k] (Ac2 ap);have ay:=hb b.ts[k] (Ac2 ba);obtain⟨r1,bi⟩:=Ci g1;obtain⟨r2,bh⟩:=Ci g2;have HM:Aec (Em pidn a.ts b.ts=(cB Q a.ts[k] b.ts[k]).bind fun P'=>Em P' (a.ts.drop (k+1)) (b.ts.drop (k+1))):=by rw[Aec,hA.out,gE g1 g2]
  clear hA g1 g2;generalize a.ts[k]=t at bi az HM;generalize b.ts[k]=u at bh ay HM;have av:=fun q=>R8 Q hQ t az q;have au:=fun q=>R8 Q hQ u ay q;unfold cB at HM;generalize P8 Q t=x at av HM;generalize P8 Q u=y at au HM;obtain⟨x1,x2⟩:=x;obtain⟨y1,y2⟩:=y;dsimp only at av au HM;clear az ay
  repeat' (first|refine Z1 ?_|(refine Z8 ?_;intro κ hκ)|(refine Z4 ?_;clear hκ κ)|(refine Z2 ?_ ?_<;>intro h aa<;>try exact Xp)|(refine Z5 ?_;refine Xi (av _) ?_;rintro _ _ ⟨rfl,aw⟩;(have ax:=aw.nobj;have ah:=aw.obj;simp only[Aa,Ab]at ax ah))|refine Z3 ?_|exact⟨⟩|(apply hκ.out;clear hκ κ))
  rename_i q1;have a6:Keep q ((q1.new [sc (.bool false),ic 0]).put q1.nobj [sc (.bool x1),ic x2]):=((((hK.new _).put hK.nobj _).trans aw).new _).put Ad6 _;have kv:∀p,p<q'.nobj->((q1.new [sc (.bool false),ic 0]).put q1.nobj [sc (.bool x1),ic x2]).obj p=q'.obj p:=fun p hp=>by rw[Aj Ad6,Ae Ad6,ah _ Ad6,Aj Ad6,Ae Ad6]
  have o10:((q1.new [sc (.bool false),ic 0]).put q1.nobj [sc (.bool x1),ic x2]).obj q1.nobj=[sc (.bool x1),ic x2]:=Ak;have nb:q1.nobj<((q1.new [sc (.bool false),ic 0]).put q1.nobj [sc (.bool x1),ic x2]).nobj:=Aeb;generalize (q1.new [sc (.bool false),ic 0]).put q1.nobj [sc (.bool x1),ic x2]=q2 at a6 kv o10 nb;have oc1:q2.obj (q.nobj+1)=[ic b.p,sl i2 b.ts.length (Ac b.ts)]:=by rw[kv _ Ad6,am]
  have oc2:q2.obj (q.nobj+2)=Ac pt0:=by rw[kv _ Ad6,ak]
  have oc3:q2.obj (q.nobj+3)=Ac Q:=by rw[kv _ Ad6,aj]
  clear kv ah aw hK am ak aj av;refine Bq (Q:=fun e s' q''=>e= .normal/\∃o11:Nat,s' 11=ptr o11 0/\q2.nobj<=o11/\o11<q''.nobj/\q''.obj o11=[sc (.bool y1),ic y2]/\s' 3=ptr (q.nobj+1) 0/\s' 4=ptr (q.nobj+2) 0/\s' 6=ptr (q.nobj+3) 0/\s' 10=ptr q1.nobj 0/\s' 21=sl i1 a.ts.length (Ac a.ts)/\s' 22=ic a.ts.length/\s' 23=ic k/\Keep q2 q'') ?_ ?_
  ·refine A3 Ah (fun _=>True) [8] [0,1,2,3,4,5] 3 #[true,true,true,true,true,true,false,false,false] Ad9 (fun _ _ _ h=>by cases h.1) ?_;intro κ hκ;refine Z3 ?_;refine hκ.out _ ?_;clear hκ κ;refine Dz (rs:=[6,7]) Ad9 (by simp) ?_;intro i hi;simp only[Aci,Ac0,Ad5]at hi;rcases hi with rfl|rfl
   ·refine Ar ?_;intro κ hκ;refine Z3 ?_;refine ACalls.mono (au _) ?_;rintro _ q3 ⟨rfl,ac⟩;have ai:=ac.nobj;refine Z3 ?_;refine hκ.out _ _ ⟨Aq ac,?_⟩;clear hκ κ;refine Am (i:=7) Ad9 ?_;refine Ar ?_;intro κ hκ;refine Z3 ?_;refine hκ.out _ _ ⟨Aq (ac.new _),?_⟩;clear hκ κ;refine Am (i:=8) Ad9 ?_;refine Ar ?_;intro κ hκ;refine Z3 ?_;refine hκ.out _ _ ⟨Bt rfl,?_⟩;clear hκ κ;exact A7 Ad9 ⟨rfl,q3.nobj,Ad8,Ad6,Aeb,Ak,Ad7,Ad7,Ad7,Ad7,Ad7,Ad7,Ad7,(ac.new _).put Ad6 _⟩
   ·refine Ar ?_;intro κ hκ;refine Z3 ?_;refine hκ.out _ _ ⟨Aq ((Keep.refl _).new _),?_⟩;clear hκ κ;refine Am (i:=6) Ad9 ?_;refine Ar ?_;intro κ hκ;refine Z3 ?_;refine ACalls.mono (au _) ?_;rintro _ q3 ⟨rfl,ac⟩;have ai:=ac.nobj;have ab:=ac.obj;simp only[Aa]at ai ab;have o3z:q3.obj q2.nobj=[sc (.bool false),ic 0]:=by rw[ab _ Ad6,Ao]
    have a5:Keep q2 q3:=((Keep.refl _).new _).trans ac;refine Z3 ?_;refine hκ.out _ _ ⟨Aq a5,?_⟩;clear hκ κ;refine Am (i:=8) Ad9 ?_;refine Ar ?_;intro κ hκ;refine Z3 ?_;refine hκ.out _ _ ⟨Bt rfl,?_⟩;clear hκ κ;exact A7 Ad9 ⟨rfl,q2.nobj,Ad8,Ad6,by simp only[Ab];omega,Ak,Ad7,Ad7,Ad7,Ad7,Ad7,Ad7,Ad7,a5.put Ad6 _⟩
  rintro e s' q3 ⟨rfl,o11,g11,bz,b1,oy,g3,g4,g6,g10,g21,g22,g23,ac⟩;have ai:=ac.nobj;have ab:=ac.obj;have od1:q3.obj (q.nobj+1)=[ic b.p,sl i2 b.ts.length (Ac b.ts)]:=by rw[ab _ Ad6,oc1]
  have od2:q3.obj (q.nobj+2)=Ac pt0:=by rw[ab _ Ad6,oc2]
  have od3:q3.obj (q.nobj+3)=Ac Q:=by rw[ab _ Ad6,oc3]
  have ox:q3.obj q1.nobj=[sc (.bool x1),ic x2]:=by rw[ab _ Ad6,o10]
  have a5:=a6.trans ac;clear ab ac a6 oc1 oc2 oc3 o10 h3 h4 h6 bn bm bl au;by_cases ad:((x1,x2):Tm)=(y1,y2)
  ·have hc:(x1==y1&&x2==y2)=true:=by simp at ad;simp[ad]
   have HN:Aec (Em pidn a.ts b.ts=Em Q (a.ts.drop (k+1)) (b.ts.drop (k+1))):=by rw[Aec,HM.out,if_pos ad];rfl
   clear HM ad
   repeat' (first|refine Z1 ?_|(refine Z8 ?_;intro κ hκ)|(refine Z4 ?_;clear hκ κ)|(refine Z2 ?_ ?_<;>intro h aa<;>try exact Xp)|refine Z3 ?_|exact⟨⟩|(apply hκ.out;clear hκ κ))
   refine⟨a.ts.length-(k+1),Ad6,k+1,Q,?_⟩
   ((repeat' with_reducible refine And.intro ?_ ?_)<;>first|exact Xq|exact (HN)|exact Xs)
  ·rw[if_neg ad]at HM;cases y1 with
   |true=>
    have hW:=fun q=>bD Q hQ (true,y2) (x1,x2) q;have ae:(V3 Q (true,y2) (x1,x2)).length=52:=by rw[X8,hQ]
    have HN:Aec (Em pidn a.ts b.ts=Em (V3 Q (true,y2) (x1,x2)) (a.ts.drop (k+1)) (b.ts.drop (k+1))):=by rw[Aec,HM.out,if_pos rfl];rfl
    generalize V3 Q (true,y2) (x1,x2)=Q' at hW ae HN;have a4:=Ft ae;have a0:=Gm ae;have a9:=Ly hQ ae;clear HM;cases x1 with
    |true=>
     have hc:(x2==y2)=false:=by simpa using ad
     clear ad
     repeat' (first|refine Z1 ?_|(refine Z8 ?_;intro κ hκ)|(refine Z4 ?_;clear hκ κ)|(refine Z2 ?_ ?_<;>intro h aa<;>try exact Xp)|(refine Z5 ?_;refine Xi (hW _) ?_;rintro _ _ ⟨rfl,af⟩;(have ao:=af.nobj;have an:=af.obj))|refine Z3 ?_|exact⟨⟩|(apply hκ.out;clear hκ κ))
     refine⟨a.ts.length-(k+1),Ad6,k+1,Q',?_⟩
     ((repeat' with_reducible refine And.intro ?_ ?_)<;>first|exact Xq|exact (HN)|exact Xs)
    |false=>
     clear ad
     repeat' (first|refine Z1 ?_|(refine Z8 ?_;intro κ hκ)|(refine Z4 ?_;clear hκ κ)|(refine Z2 ?_ ?_<;>intro h aa<;>try exact Xp)|(refine Z5 ?_;refine Xi (hW _) ?_;rintro _ _ ⟨rfl,af⟩;(have ao:=af.nobj;have an:=af.obj))|refine Z3 ?_|exact⟨⟩|(apply hκ.out;clear hκ κ))
     refine⟨a.ts.length-(k+1),Ad6,k+1,Q',?_⟩
     ((repeat' with_reducible refine And.intro ?_ ?_)<;>first|exact Xq|exact (HN)|exact Xs)
   |false=>
    rw[if_neg (by simp)]at HM;cases x1 with
    |true=>
     have hW:=fun q=>bD Q hQ (true,x2) (false,y2) q;have ae:(V3 Q (true,x2) (false,y2)).length=52:=by rw[X8,hQ]
     have HN:Aec (Em pidn a.ts b.ts=Em (V3 Q (true,x2) (false,y2)) (a.ts.drop (k+1)) (b.ts.drop (k+1))):=by rw[Aec,HM.out,if_pos rfl];rfl
     generalize V3 Q (true,x2) (false,y2)=Q' at hW ae HN;have a4:=Ft ae;have a0:=Gm ae;have a9:=Ly hQ ae;clear HM ad
     repeat' (first|refine Z1 ?_|(refine Z8 ?_;intro κ hκ)|(refine Z4 ?_;clear hκ κ)|(refine Z2 ?_ ?_<;>intro h aa<;>try exact Xp)|(refine Z5 ?_;refine Xi (hW _) ?_;rintro _ _ ⟨rfl,af⟩;(have ao:=af.nobj;have an:=af.obj))|refine Z3 ?_|exact⟨⟩|(apply hκ.out;clear hκ κ))
     refine⟨a.ts.length-(k+1),Ad6,k+1,Q',?_⟩
     ((repeat' with_reducible refine And.intro ?_ ?_)<;>first|exact Xq|exact (HN)|exact Xs)
    |false=>
     have HN:Aec (Em pidn a.ts b.ts=none):=by rw[Aec,HM.out,if_neg (by simp)];rfl
     have bp:=Gm (P:=pt0) (by simp[pt0]);have bv:=Ly (P:=pt0) (Q:=pt0) (by simp[pt0]) (by simp[pt0]);have hc:(x2==y2)=false:=by simpa using ad
     clear HM ad
     repeat' (first|refine Z1 ?_|(refine Z8 ?_;intro κ hκ)|(refine Z4 ?_;clear hκ κ)|(refine Z2 ?_ ?_<;>intro h aa<;>try exact Xp)|refine Z3 ?_|exact⟨⟩|(apply hκ.out;clear hκ κ))
     exact⟨_,rfl,by rw[HN.out];rfl,Xs⟩
 ·have bf:k=a.ts.length:=Ad6;have HM:Aec (Em pidn a.ts b.ts=some Q):=by
   rw[Aec,hA.out,bf,List.drop_length];rfl
  have a9:=Ly (P:=pt0) (by simp[pt0]) hQ;clear hA
  repeat' (first|refine Z1 ?_|(refine Z8 ?_;intro κ hκ)|(refine Z4 ?_;clear hκ κ)|(refine Z2 ?_ ?_<;>intro h aa<;>try exact Xp)|refine Z3 ?_|exact⟨⟩|(apply hκ.out;clear hκ κ))
  exact⟨_,rfl,by rw[HM.out];rfl,Xs⟩
def Ltr (c:List AV):Prop:=∃(b:Bool) (p:Int) (ia n:Nat) (tc:List AV),c=[sc (.bool b),sc (.int .i64 p),sl ia n tc]/\∀x∈tc,∃v,x=sc v
def Tl {α:Type}(E:α->List AV->Prop)(a:α)(d:List AV):Prop:=∃x,E a (x::d)
theorem eF {α:Type}{E:α->List AV->Prop}(hz:∀a c,E a c->Ltr c):∀{l:List α} {cs:List AV},EL (Tl E) l cs->∀c∈cs,Plain c
 |[],cs,h,c,hc=>by have h:cs=[]:=h;subst h;cases hc
 |a::l,_,⟨c1,c2,⟨x,hx⟩,h2,rfl⟩,c,hc=>by
  rcases Aco.1 hc with hc|hc
  ·obtain⟨_,p,ia,n,tc,e,ht⟩:=hz _ _ hx;simp at e;rw[e.2]at hc;simp only[Aci,Ac0,Ad5]at hc;rcases hc with rfl|rfl
   ·exact .inl ⟨_,rfl⟩
   ·exact .inr ⟨_,_,_,rfl,ht⟩
  ·exact eF hz h2 c hc
theorem fY {α:Type}{E:α->List AV->Prop}(hz:∀a c,E a c->Ltr c)(p:Int)(ih n:Nat)(tc:List AV)(af:∀x∈tc,∃v,x=sc v)(l:List α)(id:Nat)(b:List AV)(hb:EL E l b)(hn:l.length<=1000)(q:St):
  ACalls Tryz.prog 133 [ag [sc (.bool false),sc (.int .i64 p),sl ih n tc,sl id l.length b]] q fun r q'=>∃(o m:Nat) (cs:List AV),r=fx o 0 m/\q.nobj<=o/\q'.obj o=cs/\Keep q q'/\(∀c∈cs,Plain c)/\(m=l.length+1/\∃ds,cs=sc (.int .i64 p)::sl ih n tc::ds/\EL (Tl E) l ds):=by
 have h3:∀a c,E a c->c.length=3:=fun a c h=>by obtain⟨_,_,_,_,_,rfl,-⟩:=hz a c h;rfl
 have ap:=EL.length h3 hb;refine Z9 33 [.tmp 2] Tryz.func133 ?_
 repeat' (first|refine Z1 ?_|(refine Z8 ?_;intro κ hκ)|(refine Z4 ?_;clear hκ κ)|(refine Z2 ?_ ?_<;>intro h ab<;>try exact Xp)|refine Z3 ?_|exact⟨⟩|(apply hκ.out;clear hκ κ))
 have ae:Keep q (q.new [sc (.bool false),sc (.int .i64 p),sl ih n tc,sl id l.length b]):=(Keep.refl _).new _;have ad:((l.length:Int)+1).toNat=l.length+1:=Ad6
 refine Ad (fun m s q'=>∃(k:Nat) (cur:List AV),m=l.length-k/\k<=l.length/\s 3=fx (q.nobj+1) 0 (l.length+1)/\s 18=sl id l.length b/\s 19=sc (.int .i64 l.length)/\s 20=sc (.int .i64 k)/\Keep q q'/\q.nobj+1<q'.nobj/\q'.obj (q.nobj+1)=cur/\cur.length=(l.length+1)*2/\Aec (∃ds,cur=(sc (.int .i64 p)::sl ih n tc::ds)++(List.replicate (l.length-k) [sc (.int .i64 0),nilS]).flatten/\ds.length=k*2/\EL (Tl E) (l.take k) ds)) l.length
  ⟨0,_,Ad6,Ad6,by simp[upd,ad],Ad8,Ad8,rfl,(ae.new _).put Ad6 _,Aeb,Ak,by simp[ad],[],?_,rfl,rfl⟩ ?_
 ·rw[ad,Qn Ad6];rfl
 clear ae;rintro m s q' ⟨k,cur,rfl,hk,au,ax,aw,av,hK,ao,ah,ak,hE⟩;have am:=hK.nobj;by_cases ai:k<l.length
 ·have aa:=List.getElem?_eq_getElem ai;obtain⟨c,r,ac,hd⟩:=EL.get h3 hb aa;generalize l[k]=a at hd aa ac;obtain⟨a1,a2,a3,a4,a5,rfl,ha⟩:=hz _ _ ac;simp only[Ack,Acm]at hd;have HN:Aec (∃ds,(cur.set ((k+1)*2) (sc (.int .i64 a2))).set ((k+1)*2+1) (sl a3 a4 a5)=(sc (.int .i64 p)::sl ih n tc::ds)++(List.replicate (l.length-(k+1)) [sc (.int .i64 0),nilS]).flatten/\ds.length=(k+1)*2/\EL (Tl E) (l.take (k+1)) ds):=by
   obtain⟨ds,e1,e2,e3⟩:=hE.out;refine⟨ds++[sc (.int .i64 a2),sl a3 a4 a5],?_,by simp[e2];omega,?_⟩
   ·rw[e1,Qn Ad6,kF (by simp[e2];omega)];simp[Nat.sub_sub]
   ·rw[Abv,aa];exact EL.append e3 (EL.single ⟨_,ac⟩)
  clear aa ac hE ha;have an:((k:Int)+1).toNat=k+1:=Ad6
  repeat' (first|refine Z1 ?_|(refine Z8 ?_;intro κ hκ)|(refine Z4 ?_;clear hκ κ)|(refine Z2 ?_ ?_<;>intro h ab<;>try exact Xp)|refine Z3 ?_|exact⟨⟩|(apply hκ.out;clear hκ κ))
  refine⟨l.length-(k+1),Ad6,k+1,(cur.set ((k+1)*2) (sc (.int .i64 a2))).set ((k+1)*2+1) (sl a3 a4 a5),?_⟩
  ((repeat' with_reducible refine And.intro ?_ ?_)<;>first|exact Xq|exact (((hK.new _).put hK.nobj _).put Ad6 _)|exact (Ak)|exact (HN)|exact (by simp[ak])|exact Xs)
 ·have aj:k=l.length:=Ad6;subst aj;obtain⟨ds,e1,e2,e3⟩:=hE.out;rw[Nat.sub_self,List.replicate_zero,List.flatten_nil,Abz]at e1;rw[Abt]at e3;have hpl:∀c∈cur,Plain c:=fun c hc=>by
   rw[e1]at hc;simp only[Aci]at hc;rcases hc with rfl|rfl|hc
   ·exact .inl ⟨_,rfl⟩
   ·exact .inr ⟨_,_,_,rfl,af⟩
   ·exact eF hz e3 c hc
  have HF:Aec ((∀c∈cur,Plain c)/\∃ds,cur=sc (.int .i64 p)::sl ih n tc::ds/\EL (Tl E) l ds):=⟨hpl,ds,e1,e3⟩;clear hE e1 e2 e3 hpl
  repeat' (first|refine Z1 ?_|(refine Z8 ?_;intro κ hκ)|(refine Z4 ?_;clear hκ κ)|(refine Z2 ?_ ?_<;>intro h ab<;>try exact Xp)|refine Z3 ?_|exact⟨⟩|(apply hκ.out;clear hκ κ))
  exact⟨_,rfl,q.nobj+1,_,cur,rfl,Ad6,ah,HF.out.1,rfl,HF.out.2⟩
theorem Wq (ts:List Tm):∀x∈Ac ts,∃v,x=sc v:=fun x hx=>by
 obtain⟨t,-,ht⟩:=Acn.1 hx;simp[Il]at ht;rcases ht with rfl|rfl<;>exact⟨_,rfl⟩
theorem wM (l:Lit)(c:List AV)(h:Pz l c):Ltr c:=by
 obtain⟨id,rfl⟩:=h;exact⟨_,_,_,_,_,rfl,Wq _⟩
def Gt (r:Dq):List C6:=r.head::r.body.map (·.a)
def Fa (r:Dq):List Int:=B7 (Gt r)
theorem sV:∀{l:List Lit} {ds:List AV},EL (Tl Pz) l ds->EL Mg (l.map (·.a)) ds
 |[],_,h=>h
 |a::l,_,⟨c1,c2,⟨x,ia,e⟩,h2,rfl⟩=>⟨c1,c2,⟨ia,by simpa using (List.cons.inj e).2⟩,sV h2,rfl⟩
theorem aZ (r:Dq)(c:List AV)(hc:O9 false r c)(hn:r.body.length<=1000)(q:St):ACalls Tryz.prog 133 [ag c] q fun x q'=>∃id cs,x=sl id (Gt r).length cs/\EL Mg (Gt r) cs/\Keep q q':=by
 obtain⟨ih,ib,bc,rfl,hb⟩:=hc;refine (ACalls.freeze (fY wM _ _ _ _ (Wq _) _ _ _ hb hn q)).mono fun x q' h=>?_;obtain⟨n,cs,rfl,⟨rfl,ds,rfl,h1⟩,h2⟩:=h;exact⟨0,_,by simp[Gt],⟨_,_,⟨ih,rfl⟩,sV h1,rfl⟩,h2⟩
theorem J1 (r:Dq)(c:List AV)(hc:O9 false r c)(hr:zG r)(q:St):ACalls Tryz.prog 96 [ag c] q fun x q'=>(∃id,x=sl id (Fa r).length (icells (Fa r)))/\Keep q q':=by
 have hb:=hr.bl;have hA:=fun q=>aZ r c hc Ad6 q
 have hV:=fun cs ida hE q=>Gd (Gt r) cs ida hE (fun a ha=>by
  rcases Aci.1 ha with rfl|ha
  ·exact hr.h3
  ·obtain⟨l,hl,rfl⟩:=Acs.1 ha
   exact hr.b3 l hl) (by simp[Gt];omega) q
 obtain⟨ih,ib,bc,rfl,-⟩:=hc;unfold Fa;generalize B7 (Gt r)=vs at hV;refine Z9 6 [.tmp 2] Tryz.func96 ?_
 repeat' (first|refine Z1 ?_|(refine Z8 ?_;intro κ hκ)|(refine Z4 ?_;clear hκ κ)|(refine Z2 ?_ ?_<;>intro h aa<;>try exact Xp)|(refine Z5 ?_;first|(refine Xi (hA _) ?_;rintro _ _ ⟨ida,cs,rfl,hE,ac⟩)|(refine Xi (hV _ _ (by assumption) _) ?_;rintro _ _ ⟨⟨id2,rfl⟩,ab⟩))|refine Z3 ?_|exact⟨⟩|(apply hκ.out;clear hκ κ))
 exact⟨_,rfl,⟨id2,rfl⟩,Xs⟩
def mN (l:List Int)(v:Int):Int:=if v∈l then (l.idxOf v:Nat)else -1
def I0 (l:List Int)(t:Tm):Tm:=(t.1,if t.1=true then mN l t.2 else t.2)
theorem Le (l:List Int)(ido:Nat)(kp:Int)(ids:Nat)(ts:List Tm)(hl:l.length<=100000)(hn:ts.length<=1000)(q:St):
  ACalls Tryz.prog 144 [ag [ic kp,sl ids ts.length (Ac ts)],sl ido l.length (icells l)] q fun r q'=>(∃id,r=ag [ic kp,sl id ts.length (Ac (ts.map (I0 l)))])/\Keep q q':=by
 have a4:=Cc ts;refine Z9 33 [.cell 4 122] Tryz.func144 ?_
 repeat' (first|refine Z1 ?_|(refine Z8 ?_;intro κ hκ)|(refine Z4 ?_;clear hκ κ)|(refine Z2 ?_ ?_<;>intro h af<;>try exact Xp)|(refine Z6 ?_;intro idn qn ai aj ad aa ac ab)|refine Z3 ?_|exact⟨⟩|(apply hκ.out;clear hκ κ))
 refine Ad (fun m s q'=>∃(k i3:Nat) (xs:List AV),m=ts.length-k/\k<=ts.length/\s 1=sl ido l.length (icells l)/\s 4=ptr (q.nobj+1) 0/\s 5=ptr (q.nobj+2) 0/\s 12=sl ids ts.length (Ac ts)/\s 13=ic ts.length/\s 14=ic k/\Keep q q'/\q.nobj+2<q'.nobj/\q'.obj (q.nobj+1)=[ic 0,nilS]/\q'.obj (q.nobj+2)=[ic kp,sl i3 k xs]/\Own q q' i3 k/\xs.length=k*2/\Aec (xs=Ac ((ts.take k).map (I0 l)))) ts.length
  ⟨0,1,[],Ad6,Ad6,by simp[upd,initS],Ad8,Ad8,Ad8,Ad8,rfl,?_,?_,?_,?_,Own.nil _ _,by simp,by simp[Aec,Ac]⟩ ?_
 ·exact ((((Keep.refl q).new _).new _).new _).put Ad6 _
 ·simp only[Ab,Aa];omega
 ·rw[Aj Ad6,Ae Aea,Bu (by rw[Aa];omega) (by rw[Aa];omega)]
 ·rw[show q.nobj+2=q.nobj+1+1 by omega,Ak]
 rintro m s q' ⟨k,i3,xs,rfl,hk,h1,h4,h5,a8,a7,a6,hK,a5,ax,aw,hO,au,hX⟩;have a3:=hK.nobj;by_cases ay:k<ts.length
 ·have ah:=List.getElem?_eq_getElem ay;obtain⟨r2,a0⟩:=Ci ah;generalize ts[k]=w at a0 ah;obtain⟨w1,w2⟩:=w;have ae:Aec (Ac ((ts.take (k+1)).map (I0 l))=xs++Il (I0 l (w1,w2))):=by
   rw[Aec,Abv,ah,Ac5,Abx,List.map_singleton,Pw,<-hX.out]
  clear ah hX;cases w1 with
  |true=>
   have hP:=fun q=>Ex w2 l ido hl q;have ak:Aec (xs++[sc (.bool true),ic (mN l w2)]=Ac ((ts.take (k+1)).map (I0 l))):=by rw[Aec,ae.out];rfl
   have av:∀v,(if v∈l then ((l.idxOf v:Nat):Int)else -1)=mN l v:=fun _=>rfl;rw[av]at hP;generalize mN l w2=w3 at hP ak;clear av ae
   repeat' (first|refine Z1 ?_|(refine Z8 ?_;intro κ hκ)|(refine Z4 ?_;clear hκ κ)|(refine Z2 ?_ ?_<;>intro h af<;>try exact Xp)|(refine Z6 ?_;intro idn qn ai aj ad aa ac ab)|(refine Z5 ?_;refine Xi (hP _) ?_;rintro _ _ ⟨rfl,am⟩;(have ao:=am.nobj;have an:=am.obj;simp only[Aa,Ab]at ao an))|refine Z3 ?_|exact⟨⟩|(apply hκ.out;clear hκ κ))
   rename_i q2;have ap:Keep q (q2.put q'.nobj [sc (.bool true),ic w3]):=(((hK.new _).put hK.nobj _).trans am).put Ad6 _;refine Bn (by first|exact Ee) ap (Own.put (Own.keep (Own.put (Own.new hO _) _ _) am) _ _) (by decide) (by rfl) au (by rfl) (by rfl) (by decide) Ad6 Ad6 ?_;intro idn qn ai aj ad aa ac ab;simp only[Ab,Aa]at aa;refine Z3 ?_
   repeat' (first|refine Z1 ?_|(refine Z8 ?_;intro κ hκ)|(refine Z4 ?_;clear hκ κ)|(refine Z2 ?_ ?_<;>intro h af<;>try exact Xp)|(refine Z6 ?_;intro idn qn ai aj ad aa ac ab)|refine Z3 ?_|exact⟨⟩|(apply hκ.out;clear hκ κ))
   refine⟨ts.length-(k+1),Ad6,k+1,idn,xs++[sc (.bool true),ic w3],?_⟩
   ((repeat' with_reducible refine And.intro ?_ ?_)<;>first|exact Xq|exact (aj.put Ad6 _)|exact (Own.put ai _ _)|exact (ak)|exact Xs)
  |false=>
   have ak:Aec (xs++[sc (.bool false),ic w2]=Ac ((ts.take (k+1)).map (I0 l))):=by rw[Aec,ae.out];rfl
   clear ae
   repeat' (first|refine Z1 ?_|(refine Z8 ?_;intro κ hκ)|(refine Z4 ?_;clear hκ κ)|(refine Z2 ?_ ?_<;>intro h af<;>try exact Xp)|(refine Z6 ?_;intro idn qn ai aj ad aa ac ab)|refine Z3 ?_|exact⟨⟩|(apply hκ.out;clear hκ κ))
   have ap:Keep q ((q'.new [sc (.bool false),ic 0]).put q'.nobj [sc (.bool false),ic w2]):=(hK.new _).put hK.nobj _;refine Bn (by first|exact Ee) ap (Own.put (Own.new hO _) _ _) (by decide) (by rfl) au (by rfl) (by rfl) (by decide) Ad6 Ad6 ?_;intro idn qn ai aj ad aa ac ab;simp only[Ab,Aa]at aa;refine Z3 ?_
   repeat' (first|refine Z1 ?_|(refine Z8 ?_;intro κ hκ)|(refine Z4 ?_;clear hκ κ)|(refine Z2 ?_ ?_<;>intro h af<;>try exact Xp)|(refine Z6 ?_;intro idn qn ai aj ad aa ac ab)|refine Z3 ?_|exact⟨⟩|(apply hκ.out;clear hκ κ))
   refine⟨ts.length-(k+1),Ad6,k+1,idn,xs++[sc (.bool false),ic w2],?_⟩
   ((repeat' with_reducible refine And.intro ?_ ?_)<;>first|exact Xq|exact (aj.put Ad6 _)|exact (Own.put ai _ _)|exact (ak)|exact Xs)
 ·have az:k=ts.length:=Ad6;subst az;rw[Abt]at hX
  repeat' (first|refine Z1 ?_|(refine Z8 ?_;intro κ hκ)|(refine Z4 ?_;clear hκ κ)|(refine Z2 ?_ ?_<;>intro h af<;>try exact Xp)|(refine Z6 ?_;intro idn qn ai aj ad aa ac ab)|refine Z3 ?_|exact⟨⟩|(apply hκ.out;clear hκ κ))
  exact⟨_,rfl,⟨i3,by rw[hX.out]⟩,hK.put Ad6 _⟩
end Go.Proofs.YtmoeoppbmhfbpabGreatDoorJ
