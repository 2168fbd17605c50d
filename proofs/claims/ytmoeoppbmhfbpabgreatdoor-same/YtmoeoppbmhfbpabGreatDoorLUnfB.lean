import Derived.Test.YtmoeoppbmhfbpabGreatDoorLRunC
import Derived.Test.YtmoeoppbmhfbpabGreatDoorLTxtB
set_option maxHeartbeats 64000000
set_option maxRecDepth 100000
set_option linter.all false
namespace Go.Proofs.YtmoeoppbmhfbpabGreatDoorL
open Go.Abs
def lS (P:List Tm)(l:Lit):Lit:=⟨l.neg,N6 P l.a⟩
def Ex (P:List Tm)(r:Dy):Dy:=⟨N6 P r.head,r.body.map (lS P)⟩
def Re (o:Bool)(r:Dy)(c:List AV):Prop:=∃ih ib bc,c=[sc (.bool o),ic r.head.p,sl ih r.head.ts.length (Ac r.head.ts),sl ib r.body.length bc]/\EL Qf r.body bc
structure R52 (r:Dy):Prop where
 h3:r.head.ts.length<=3
 b3:∀l∈r.body,l.a.ts.length<=3
 bl:r.body.length<=100
 hv:∀t∈r.head.ts,Wm t
 bv:∀l∈r.body,∀t∈l.a.ts,Wm t
theorem Zh (P:List Tm)(hP:P.length=52)(r:Dy)(hr:R52 r)(o:Bool)(c:List AV)(hc:Re o r c)(q:St):ACalls Tryz.prog 212 [ag (Ac P),ag c] q fun x q'=>(∃c',x=ag c'/\Re false (Ex P r) c')/\Keep q q':=by
 obtain⟨ih,ib,bc,rfl,hb⟩:=hc;have hl:=Gk hP;have a7:=Hj hP;have a9:=Gb P;have ba:=EL.length Gs hb;have bb:=hr.bl;have hH:=fun q=>Zi P hP r.head ih hr.hv (by have:=hr.h3;omega) q;have hL:=fun (l:Lit) (h:l∈r.body) (ids:Nat) q=>Zi P hP l.a ids (hr.bv l h) (by have:=hr.b3 l h;omega) q;refine Z9 33 [.cell 4 125] Tryz.func212 ?_
 repeat' (first|refine Z1 ?_|(refine Z8 ?_;intro κ hκ)|(refine Z4 ?_;clear hκ κ)|(refine Z2 ?_ ?_<;>intro h ah<;>try exact Xp)|(refine Z6 ?_;intro idn qn ai aj af aa ae ab)|(refine Z5 ?_;refine Xi (hH _) ?_;rintro _ _ ⟨⟨id1,rfl⟩,ap⟩;(have ao:=ap.nobj;have ac:=ap.obj;simp only[Aa]at ao ac))|refine Z3 ?_|exact⟨⟩|(apply hκ.out;clear hκ κ))
 rename_i q1;have a0:Keep q q1:=Xs;have o0:q1.obj q.nobj=Ac P:=by rw[ac _ Ajm,Ag Ajq,Ag Ajq,Ap]
 have o2:q1.obj (q.nobj+2)=[sc (.bool false),ic 0,nilS,nilS]:=by rw[ac _ Ajm,Bt Ajq Ajq]
 clear hH ac
 refine Af (fun m s q'=>∃(k i3:Nat) (xs:List AV),m=r.body.length-k/\k<=r.body.length/\s 2=ptr q.nobj 0/\s 4=ptr (q.nobj+2) 0/\s 5=ptr q1.nobj 0/\s 14=sl ib r.body.length bc/\s 15=ic r.body.length/\s 16=ic k/\Keep q q'/\q1.nobj<q'.nobj/\q'.obj q.nobj=Ac P/\q'.obj (q.nobj+2)=[sc (.bool false),ic 0,nilS,nilS]/\q'.obj q1.nobj=[sc (.bool false),ic r.head.p,sl id1 r.head.ts.length (Ac (r.head.ts.map (D7 P))),sl i3 k xs]/\Own q q' i3 k/\xs.length=k*3/\Ajs (EL Qf ((r.body.take k).map (lS P)) xs)) r.body.length
  ⟨0,1,[],Ajm,Ajm,by simp[upd,initS],Ajo,Ajo,Ajo,Ajo,rfl,Xs,Ajr,by rw[Ai Ajm,Ag Ajm,o0],by rw[Ai Ajm,Ag Ajm,o2],by rw[Ak],Own.nil _ _,by simp,by simp[Ajs,EL]⟩ ?_
 clear o0 o2 a0 ap;rintro m s q' ⟨k,i3,xs,rfl,hk,h2,h4,h5,bf,be,bd,hK,a8,a5,a4,a3,hO,aw,hX⟩;have a6:=hK.nobj;by_cases au:k<r.body.length
 ·have ad:=List.getElem?_eq_getElem au;obtain⟨ia,rr,hd⟩:=Hl hb ad;have av:=fun q=>hL r.body[k] (Ah6 au) ia q;generalize r.body[k]=a at hd ad av;have HX:Ajs (∀i4,EL Qf ((r.body.take (k+1)).map (lS P)) (xs++[sc (.bool a.neg),ic a.a.p,sl i4 a.a.ts.length (Ac (a.a.ts.map (D7 P)))])):=fun i4=>by
   rw[Agz,ad,Aia,Ag1];exact EL.append hX.out (EL.single ⟨i4,by simp[lS,N6]⟩)
  clear ad hX hL
  repeat' (first|refine Z1 ?_|(refine Z8 ?_;intro κ hκ)|(refine Z4 ?_;clear hκ κ)|(refine Z2 ?_ ?_<;>intro h ah<;>try exact Xp)|(refine Z6 ?_;intro idn qn ai aj af aa ae ab)|(refine Z5 ?_;refine Xi (av _) ?_;rintro _ _ ⟨⟨i4,rfl⟩,ak⟩;(have am:=ak.obj;have an:=ak.nobj;simp only[Aa,Ab]at an am))|refine Z3 ?_|exact⟨⟩|(apply hκ.out;clear hκ κ))
  rename_i q4;have az:=((hK.new [sc (.bool false),ic 0,nilS]).put hK.nobj _).trans ak;have ay:=Own.keep (Own.put (Own.new hO [sc (.bool false),ic 0,nilS]) q'.nobj [sc (.bool a.neg),ic a.a.p,sl ia a.a.ts.length (Ac a.a.ts)]) ak;refine Bh (by first|exact El) (az.put Ajm _) (Own.put ay _ _) (by decide) (by rfl) aw (by rfl) (by rfl) (by decide) Ajm Ajm ?_;intro idn qn ai aj af aa ae ab;simp only[Ab,Aa]at aa;refine Z3 ?_
  repeat' (first|refine Z1 ?_|(refine Z8 ?_;intro κ hκ)|(refine Z4 ?_;clear hκ κ)|(refine Z2 ?_ ?_<;>intro h ah<;>try exact Xp)|(refine Z6 ?_;intro idn qn ai aj af aa ae ab)|refine Z3 ?_|exact⟨⟩|(apply hκ.out;clear hκ κ))
  refine⟨r.body.length-(k+1),Ajm,k+1,idn,xs++[sc (.bool a.neg),ic a.a.p,sl i4 a.a.ts.length (Ac (a.a.ts.map (D7 P)))],?_⟩
  ((repeat' with_reducible refine And.intro ?_ ?_)<;>first|exact Xq|exact (HX.out i4)|exact (aj.put Ajm _)|exact (Own.put ai _ _)|exact Xs)
 ·have ax:k=r.body.length:=Ajm;subst ax;rw[Agw]at hX
  repeat' (first|refine Z1 ?_|(refine Z8 ?_;intro κ hκ)|(refine Z4 ?_;clear hκ κ)|(refine Z2 ?_ ?_<;>intro h ah<;>try exact Xp)|(refine Z6 ?_;intro idn qn ai aj af aa ae ab)|refine Z3 ?_|exact⟨⟩|(apply hκ.out;clear hκ κ))
  exact⟨_,rfl,⟨_,rfl,id1,i3,xs,by simp[Ex,N6],hX.out⟩,hK.put Ajm _⟩
def aprt:List Tm:=(List.range 52).map fun (i:Nat)=>if i<26 then (true,(26:Int)+i)else (false,0)
theorem jQ:aprt.length=52:=by simp[aprt]
theorem apart_spec (r:Dy)(hr:R52 r)(o:Bool)(c:List AV)(hc:Re o r c)(q:St):ACalls Tryz.prog 209 [ag c] q fun x q'=>(∃c',x=ag c'/\Re false (Ex aprt r) c')/\Keep q q':=by
 have hI:=fun q=>Zh aprt jQ r hr o c hc q;obtain⟨ih,ib,bc,rfl,hb⟩:=hc;have ax:=S1;have hz:=Mr;refine Z9 17 [.cell 2 125] Tryz.func209 ?_
 repeat' (first|refine Z1 ?_|(refine Z8 ?_;intro κ hκ)|(refine Z4 ?_;clear hκ κ)|(refine Z2 ?_ ?_<;>intro h aa<;>try exact Xp)|refine Z3 ?_|exact⟨⟩|(apply hκ.out;clear hκ κ))
 refine Af (fun m s q'=>∃(k:Nat) (Q:List Tm),m=26-k/\k<=26/\s 1=ptr q.nobj 0/\s 2=ptr (q.nobj+1) 0/\s 3=ptr (q.nobj+2) 0/\s 4=ic k/\Keep q q'/\q.nobj+2<q'.nobj/\q'.obj q.nobj=[sc (.bool o),ic r.head.p,sl ih r.head.ts.length (Ac r.head.ts),sl ib r.body.length bc]/\q'.obj (q.nobj+1)=[sc (.bool false),ic 0,nilS,nilS]/\q'.obj (q.nobj+2)=Ac Q/\Q.length=52/\Ajs (Q=aprt.take k++pt0.drop k)) 26
  ⟨0,pt0,Ajm,Ajm,Ajo,Ajo,Ajo,Ajo,Xs,Ajq,?_,?_,?_,by simp[pt0],by simp[Ajs]⟩ ?_
 ·rw[Ag Ajq,Ag Ajq,Ap]
 ·rw[Ag Ajq,Bt Ajq Ajq]
 ·rw[Bt Ajq Ajq]
 rintro m s q' ⟨k,Q,rfl,hk,h1,h2,h3,h4,hK,av,an,am,ak,hQ,hA⟩;have ao:=hK.nobj;have aw:=Gk hQ;by_cases af:k<26
 ·have ae:Ajs (Q.set k (true,(26:Int)+k)=aprt.take (k+1)++pt0.drop (k+1)):=by
   rw[Ajs,hA.out,kV (by simp[pt0];omega)];simp[aprt,af,show k<52 by omega]
  have au:=Mc (l:=Q) (i:=k) Ajm true ((26:Int)+k);have ah:∀x,(Q.set k x).length=52:=fun x=>by rw[Ai8,hQ]
  clear hA
  repeat' (first|refine Z1 ?_|(refine Z8 ?_;intro κ hκ)|(refine Z4 ?_;clear hκ κ)|(refine Z2 ?_ ?_<;>intro h aa<;>try exact Xp)|refine Z3 ?_|exact⟨⟩|(apply hκ.out;clear hκ κ))
  refine⟨26-(k+1),Ajm,k+1,Q.set k (true,(26:Int)+k),?_⟩
  ((repeat' with_reducible refine And.intro ?_ ?_)<;>first|exact Xq|exact (ae)|exact (ah _)|exact Xs)
 ·have ai:k=26:=Ajm;subst ai;have HQ:Q=aprt:=by rw[hA.out];rfl
  subst HQ;have ap:=Hj hQ;clear hA
  repeat' (first|refine Z1 ?_|(refine Z8 ?_;intro κ hκ)|(refine Z4 ?_;clear hκ κ)|(refine Z2 ?_ ?_<;>intro h aa<;>try exact Xp)|(refine Z5 ?_;refine Xi (hI _) ?_;rintro _ _ ⟨⟨c',rfl,hE⟩,ab⟩;(have ad:=ab.nobj;have ac:=ab.obj;obtain⟨jh,jb,jc,rfl,aj⟩:=hE))|refine Z3 ?_|exact⟨⟩|(apply hκ.out;clear hκ κ))
  exact⟨_,rfl,⟨_,rfl,jh,jb,jc,rfl,aj⟩,Xs⟩
def Pq (P:List Tm)(t u:Tm):Option (List Tm):=
 if D7 P t=D7 P u then some P else if (D7 P u).1=true then some (Sa P (D7 P u) (D7 P t))else if (D7 P t).1=true then some (Sa P (D7 P t) (D7 P u))else none
def Dl:List Tm->List Tm->List Tm->Option (List Tm)
 |P,[],_=>some P
 |_,_::_,[]=>none
 |P,t::ts,u::us=>(Pq P t u).bind fun P'=>Dl P' ts us
def pidn:List Tm:=(List.range 52).map fun (i:Nat)=>(true,(i:Int))
theorem Pl:pidn.length=52:=by simp[pidn]
def Aei:Option (List Tm)->AV
 |some P=>tp [ag (Ac P),sc (.bool true)]
 |none=>tp [ag (Ac pt0),sc (.bool false)]
theorem Ko (P:List Tm)(v t:Tm):(Sa P v t).length=P.length:=by simp[Sa]
theorem mE {P:List Tm}{ts us:List Tm}{k:Nat}{t u:Tm}(ht:ts[k]?=some t)(hu:us[k]?=some u):Dl P (ts.drop k) (us.drop k)=(Pq P t u).bind fun P'=>Dl P' (ts.drop (k+1)) (us.drop (k+1)):=by
 obtain⟨l1,e1⟩:=List.getElem?_eq_some_iff.1 ht;obtain⟨l2,e2⟩:=List.getElem?_eq_some_iff.1 hu;rw[Ahl l1,Ahl l2,e1,e2];rfl
theorem sP (a b:Df)(i1 i2:Nat)(hl:a.ts.length=b.ts.length)(hn:a.ts.length<=1000)(ha:∀t∈a.ts,Wm t)(hb:∀t∈b.ts,Wm t)(q:St):
  ACalls Tryz.prog 210 [ag [ic a.p,sl i1 a.ts.length (Ac a.ts)],ag [ic b.p,sl i2 b.ts.length (Ac b.ts)]] q fun r q'=>r=Aei (Dl pidn a.ts b.ts)/\Keep q q':=by
 have b0:=S1;have hz:=Mr;have br:=Ci a.ts;have bq:=Ci b.ts;have b2:=Gb;have a7:Ajs (a.ts.length=b.ts.length):=hl;clear hl;refine Z9 56 [.cell 4 260,.tmp 5] Tryz.func210 ?_
 repeat' (first|refine Z1 ?_|(refine Z8 ?_;intro κ hκ)|(refine Z4 ?_;clear hκ κ)|(refine Z2 ?_ ?_<;>intro h aa<;>try exact Xp)|refine Z3 ?_|exact⟨⟩|(apply hκ.out;clear hκ κ))
 refine Af (fun m s q'=>∃(k:Nat) (Q:List Tm),m=52-k/\k<=52/\s 2=ptr q.nobj 0/\s 3=ptr (q.nobj+1) 0/\s 4=ptr (q.nobj+2) 0/\s 6=ptr (q.nobj+3) 0/\s 12=ic k/\Keep q q'/\q.nobj+3<q'.nobj/\q'.obj q.nobj=[ic a.p,sl i1 a.ts.length (Ac a.ts)]/\q'.obj (q.nobj+1)=[ic b.p,sl i2 b.ts.length (Ac b.ts)]/\q'.obj (q.nobj+2)=Ac pt0/\q'.obj (q.nobj+3)=Ac Q/\Q.length=52/\Ajs (Q=pidn.take k++pt0.drop k)) 52
  ⟨0,pt0,Ajm,Ajm,Ajo,Ajo,Ajo,Ajo,Ajo,Xs,Ajq,?_,?_,?_,?_,by simp[pt0],by simp[Ajs]⟩ ?_
 ·rw[Ag Ajq,Ag Ajq,Ag Ajq,Ap]
 ·rw[Ag Ajq,Ag Ajq,Bt Ajq Ajq]
 ·rw[Ag Ajq,Bt Ajq Ajq]
 ·rw[Bt Ajq Ajq]
 rintro m s q' ⟨k,Q,rfl,hk,h2,h3,h4,h6,bo,hK,a3,bc,am,ak,aj,hQ,hA⟩;have a8:=hK.nobj;have bb:=Gk hQ;by_cases ap:k<52
 ·have bd:Ajs (Q.set k (true,(k:Int))=pidn.take (k+1)++pt0.drop (k+1)):=by
   rw[Ajs,hA.out,kV (by simp[pt0];omega)];simp[pidn,ap]
  have bw:=Mc (l:=Q) (i:=k) Ajm true (k:Int);have be:∀x,(Q.set k x).length=52:=fun x=>by rw[Ai8,hQ]
  clear hA
  repeat' (first|refine Z1 ?_|(refine Z8 ?_;intro κ hκ)|(refine Z4 ?_;clear hκ κ)|(refine Z2 ?_ ?_<;>intro h aa<;>try exact Xp)|refine Z3 ?_|exact⟨⟩|(apply hκ.out;clear hκ κ))
  refine⟨52-(k+1),Ajm,k+1,Q.set k (true,(k:Int)),?_⟩
  ((repeat' with_reducible refine And.intro ?_ ?_)<;>first|exact Xq|exact (bd)|exact (be _)|exact Xs)
 have bg:k=52:=Ajm;subst bg;have HQ:Q=pidn:=by rw[hA.out];rfl
 subst HQ;clear hA ap hk hQ bb
 repeat' (first|refine Z1 ?_|(refine Z8 ?_;intro κ hκ)|(refine Z4 ?_;clear hκ κ)|(refine Z2 ?_ ?_<;>intro h aa<;>try exact Xp)|refine Z3 ?_|exact⟨⟩|(apply hκ.out;clear hκ κ))
 refine Af (fun m s q'=>∃(k:Nat) (Q:List Tm),m=a.ts.length-k/\k<=a.ts.length/\s 3=ptr (q.nobj+1) 0/\s 4=ptr (q.nobj+2) 0/\s 6=ptr (q.nobj+3) 0/\s 21=sl i1 a.ts.length (Ac a.ts)/\s 22=ic a.ts.length/\s 23=ic k/\Keep q q'/\q.nobj+3<q'.nobj/\q'.obj (q.nobj+1)=[ic b.p,sl i2 b.ts.length (Ac b.ts)]/\q'.obj (q.nobj+2)=Ac pt0/\q'.obj (q.nobj+3)=Ac Q/\Q.length=52/\Ajs (Dl pidn a.ts b.ts=Dl Q (a.ts.drop k) (b.ts.drop k))) a.ts.length
  ⟨0,pidn,Ajm,Ajm,Ajn,Ajn,Ajn,Ajo,Ajo,Ajo,hK,a3,am,ak,aj,Pl,by simp[Ajs]⟩ ?_
 clear h2 h3 h4 h6 bo hK a3 bc am ak aj a8;rintro m s q' ⟨k,Q,rfl,hk,h3,h4,h6,bn,bm,bl,hK,a3,am,ak,aj,hQ,hA⟩;have a8:=hK.nobj;have bb:=Gk hQ;have bu:=Hj hQ;by_cases ap:k<a.ts.length
 ·have ba:k<b.ts.length:=by have:=a7.out;omega
  have g1:=List.getElem?_eq_getElem ap;have g2:=List.getElem?_eq_getElem ba;have az:=ha a.ts[k] (Ah6 ap);have ay:=hb b.ts[k] (Ah6 ba);obtain⟨r1,bi⟩:=Cm g1;obtain⟨r2,bh⟩:=Cm g2;have HM:Ajs (Dl pidn a.ts b.ts=(Pq Q a.ts[k] b.ts[k]).bind fun P'=>Dl P' (a.ts.drop (k+1)) (b.ts.drop (k+1))):=by rw[Ajs,hA.out,mE g1 g2]
  clear hA g1 g2;generalize a.ts[k]=t at bi az HM;generalize b.ts[k]=u at bh ay HM;have av:=fun q=>Ux Q hQ t az q;have au:=fun q=>Ux Q hQ u ay q;unfold Pq at HM;generalize D7 Q t=x at av HM;generalize D7 Q u=y at au HM;obtain⟨x1,x2⟩:=x;obtain⟨y1,y2⟩:=y;dsimp only at av au HM;clear az ay
  repeat' (first|refine Z1 ?_|(refine Z8 ?_;intro κ hκ)|(refine Z4 ?_;clear hκ κ)|(refine Z2 ?_ ?_<;>intro h aa<;>try exact Xp)|(refine Z5 ?_;refine Xi (av _) ?_;rintro _ _ ⟨rfl,aw⟩;(have ax:=aw.nobj;have ah:=aw.obj;simp only[Aa,Ab]at ax ah))|refine Z3 ?_|exact⟨⟩|(apply hκ.out;clear hκ κ))
  rename_i q1;have a6:Keep q ((q1.new [sc (.bool false),ic 0]).put q1.nobj [sc (.bool x1),ic x2]):=((((hK.new _).put hK.nobj _).trans aw).new _).put Ajm _;have kv:∀p,p<q'.nobj->((q1.new [sc (.bool false),ic 0]).put q1.nobj [sc (.bool x1),ic x2]).obj p=q'.obj p:=fun p hp=>by rw[Ai Ajm,Ag Ajm,ah _ Ajm,Ai Ajm,Ag Ajm]
  have o10:((q1.new [sc (.bool false),ic 0]).put q1.nobj [sc (.bool x1),ic x2]).obj q1.nobj=[sc (.bool x1),ic x2]:=Ak;have nb:q1.nobj<((q1.new [sc (.bool false),ic 0]).put q1.nobj [sc (.bool x1),ic x2]).nobj:=Ajr;generalize (q1.new [sc (.bool false),ic 0]).put q1.nobj [sc (.bool x1),ic x2]=q2 at a6 kv o10 nb;have oc1:q2.obj (q.nobj+1)=[ic b.p,sl i2 b.ts.length (Ac b.ts)]:=by rw[kv _ Ajm,am]
  have oc2:q2.obj (q.nobj+2)=Ac pt0:=by rw[kv _ Ajm,ak]
  have oc3:q2.obj (q.nobj+3)=Ac Q:=by rw[kv _ Ajm,aj]
  clear kv ah aw hK am ak aj av;refine Bu (Q:=fun e s' q''=>e= .normal/\∃o11:Nat,s' 11=ptr o11 0/\q2.nobj<=o11/\o11<q''.nobj/\q''.obj o11=[sc (.bool y1),ic y2]/\s' 3=ptr (q.nobj+1) 0/\s' 4=ptr (q.nobj+2) 0/\s' 6=ptr (q.nobj+3) 0/\s' 10=ptr q1.nobj 0/\s' 21=sl i1 a.ts.length (Ac a.ts)/\s' 22=ic a.ts.length/\s' 23=ic k/\Keep q2 q'') ?_ ?_
  ·refine A2 Aj (fun _=>True) [8] [0,1,2,3,4,5] 3 #[true,true,true,true,true,true,false,false,false] Ajp (fun _ _ _ h=>by cases h.1) ?_;intro κ hκ;refine Z3 ?_;refine hκ.out _ ?_;clear hκ κ;refine Eg (rs:=[6,7]) Ajp (by simp) ?_;intro i hi;simp only[Ahm,Ah4,Ajl]at hi;rcases hi with rfl|rfl
   ·refine Ar ?_;intro κ hκ;refine Z3 ?_;refine ACalls.mono (au _) ?_;rintro _ q3 ⟨rfl,ac⟩;have ai:=ac.nobj;refine Z3 ?_;refine hκ.out _ _ ⟨Aq ac,?_⟩;clear hκ κ;refine Ao (i:=7) Ajp ?_;refine Ar ?_;intro κ hκ;refine Z3 ?_;refine hκ.out _ _ ⟨Aq (ac.new _),?_⟩;clear hκ κ;refine Ao (i:=8) Ajp ?_;refine Ar ?_;intro κ hκ;refine Z3 ?_;refine hκ.out _ _ ⟨Bs rfl,?_⟩;clear hκ κ;exact A3 Ajp ⟨rfl,q3.nobj,Ajo,Ajm,Ajr,Ak,Ajn,Ajn,Ajn,Ajn,Ajn,Ajn,Ajn,(ac.new _).put Ajm _⟩
   ·refine Ar ?_;intro κ hκ;refine Z3 ?_;refine hκ.out _ _ ⟨Aq ((Keep.refl _).new _),?_⟩;clear hκ κ;refine Ao (i:=6) Ajp ?_;refine Ar ?_;intro κ hκ;refine Z3 ?_;refine ACalls.mono (au _) ?_;rintro _ q3 ⟨rfl,ac⟩;have ai:=ac.nobj;have ab:=ac.obj;simp only[Aa]at ai ab;have o3z:q3.obj q2.nobj=[sc (.bool false),ic 0]:=by rw[ab _ Ajm,Ap]
    have a5:Keep q2 q3:=((Keep.refl _).new _).trans ac;refine Z3 ?_;refine hκ.out _ _ ⟨Aq a5,?_⟩;clear hκ κ;refine Ao (i:=8) Ajp ?_;refine Ar ?_;intro κ hκ;refine Z3 ?_;refine hκ.out _ _ ⟨Bs rfl,?_⟩;clear hκ κ;exact A3 Ajp ⟨rfl,q2.nobj,Ajo,Ajm,by simp only[Ab];omega,Ak,Ajn,Ajn,Ajn,Ajn,Ajn,Ajn,Ajn,a5.put Ajm _⟩
  rintro e s' q3 ⟨rfl,o11,g11,bz,b1,oy,g3,g4,g6,g10,g21,g22,g23,ac⟩;have ai:=ac.nobj;have ab:=ac.obj;have od1:q3.obj (q.nobj+1)=[ic b.p,sl i2 b.ts.length (Ac b.ts)]:=by rw[ab _ Ajm,oc1]
  have od2:q3.obj (q.nobj+2)=Ac pt0:=by rw[ab _ Ajm,oc2]
  have od3:q3.obj (q.nobj+3)=Ac Q:=by rw[ab _ Ajm,oc3]
  have ox:q3.obj q1.nobj=[sc (.bool x1),ic x2]:=by rw[ab _ Ajm,o10]
  have a5:=a6.trans ac;clear ab ac a6 oc1 oc2 oc3 o10 h3 h4 h6 bn bm bl au;by_cases ad:((x1,x2):Tm)=(y1,y2)
  ·have hc:(x1==y1&&x2==y2)=true:=by simp at ad;simp[ad]
   have HN:Ajs (Dl pidn a.ts b.ts=Dl Q (a.ts.drop (k+1)) (b.ts.drop (k+1))):=by rw[Ajs,HM.out,if_pos ad];rfl
   clear HM ad
   repeat' (first|refine Z1 ?_|(refine Z8 ?_;intro κ hκ)|(refine Z4 ?_;clear hκ κ)|(refine Z2 ?_ ?_<;>intro h aa<;>try exact Xp)|refine Z3 ?_|exact⟨⟩|(apply hκ.out;clear hκ κ))
   refine⟨a.ts.length-(k+1),Ajm,k+1,Q,?_⟩
   ((repeat' with_reducible refine And.intro ?_ ?_)<;>first|exact Xq|exact (HN)|exact Xs)
  ·rw[if_neg ad]at HM;cases y1 with
   |true=>
    have hW:=fun q=>fT Q hQ (true,y2) (x1,x2) q;have ae:(Sa Q (true,y2) (x1,x2)).length=52:=by rw[Ko,hQ]
    have HN:Ajs (Dl pidn a.ts b.ts=Dl (Sa Q (true,y2) (x1,x2)) (a.ts.drop (k+1)) (b.ts.drop (k+1))):=by rw[Ajs,HM.out,if_pos rfl];rfl
    generalize Sa Q (true,y2) (x1,x2)=Q' at hW ae HN;have a4:=Gk ae;have a0:=Hj ae;have a9:=N4 hQ ae;clear HM;cases x1 with
    |true=>
     have hc:(x2==y2)=false:=by simpa using ad
     clear ad
     repeat' (first|refine Z1 ?_|(refine Z8 ?_;intro κ hκ)|(refine Z4 ?_;clear hκ κ)|(refine Z2 ?_ ?_<;>intro h aa<;>try exact Xp)|(refine Z5 ?_;refine Xi (hW _) ?_;rintro _ _ ⟨rfl,af⟩;(have ao:=af.nobj;have an:=af.obj))|refine Z3 ?_|exact⟨⟩|(apply hκ.out;clear hκ κ))
     refine⟨a.ts.length-(k+1),Ajm,k+1,Q',?_⟩
     ((repeat' with_reducible refine And.intro ?_ ?_)<;>first|exact Xq|exact (HN)|exact Xs)
    |false=>
     clear ad
     repeat' (first|refine Z1 ?_|(refine Z8 ?_;intro κ hκ)|(refine Z4 ?_;clear hκ κ)|(refine Z2 ?_ ?_<;>intro h aa<;>try exact Xp)|(refine Z5 ?_;refine Xi (hW _) ?_;rintro _ _ ⟨rfl,af⟩;(have ao:=af.nobj;have an:=af.obj))|refine Z3 ?_|exact⟨⟩|(apply hκ.out;clear hκ κ))
     refine⟨a.ts.length-(k+1),Ajm,k+1,Q',?_⟩
     ((repeat' with_reducible refine And.intro ?_ ?_)<;>first|exact Xq|exact (HN)|exact Xs)
   |false=>
    rw[if_neg (by simp)]at HM;cases x1 with
    |true=>
     have hW:=fun q=>fT Q hQ (true,x2) (false,y2) q;have ae:(Sa Q (true,x2) (false,y2)).length=52:=by rw[Ko,hQ]
     have HN:Ajs (Dl pidn a.ts b.ts=Dl (Sa Q (true,x2) (false,y2)) (a.ts.drop (k+1)) (b.ts.drop (k+1))):=by rw[Ajs,HM.out,if_pos rfl];rfl
     generalize Sa Q (true,x2) (false,y2)=Q' at hW ae HN;have a4:=Gk ae;have a0:=Hj ae;have a9:=N4 hQ ae;clear HM ad
     repeat' (first|refine Z1 ?_|(refine Z8 ?_;intro κ hκ)|(refine Z4 ?_;clear hκ κ)|(refine Z2 ?_ ?_<;>intro h aa<;>try exact Xp)|(refine Z5 ?_;refine Xi (hW _) ?_;rintro _ _ ⟨rfl,af⟩;(have ao:=af.nobj;have an:=af.obj))|refine Z3 ?_|exact⟨⟩|(apply hκ.out;clear hκ κ))
     refine⟨a.ts.length-(k+1),Ajm,k+1,Q',?_⟩
     ((repeat' with_reducible refine And.intro ?_ ?_)<;>first|exact Xq|exact (HN)|exact Xs)
    |false=>
     have HN:Ajs (Dl pidn a.ts b.ts=none):=by rw[Ajs,HM.out,if_neg (by simp)];rfl
     have bp:=Hj (P:=pt0) (by simp[pt0]);have bv:=N4 (P:=pt0) (Q:=pt0) (by simp[pt0]) (by simp[pt0]);have hc:(x2==y2)=false:=by simpa using ad
     clear HM ad
     repeat' (first|refine Z1 ?_|(refine Z8 ?_;intro κ hκ)|(refine Z4 ?_;clear hκ κ)|(refine Z2 ?_ ?_<;>intro h aa<;>try exact Xp)|refine Z3 ?_|exact⟨⟩|(apply hκ.out;clear hκ κ))
     exact⟨_,rfl,by rw[HN.out];rfl,Xs⟩
 ·have bf:k=a.ts.length:=Ajm;have HM:Ajs (Dl pidn a.ts b.ts=some Q):=by
   rw[Ajs,hA.out,bf,List.drop_length];rfl
  have a9:=N4 (P:=pt0) (by simp[pt0]) hQ;clear hA
  repeat' (first|refine Z1 ?_|(refine Z8 ?_;intro κ hκ)|(refine Z4 ?_;clear hκ κ)|(refine Z2 ?_ ?_<;>intro h aa<;>try exact Xp)|refine Z3 ?_|exact⟨⟩|(apply hκ.out;clear hκ κ))
  exact⟨_,rfl,by rw[HM.out];rfl,Xs⟩
def Ltr (c:List AV):Prop:=∃(b:Bool) (p:Int) (ia n:Nat) (tc:List AV),c=[sc (.bool b),sc (.int .i64 p),sl ia n tc]/\∀x∈tc,∃v,x=sc v
def Tl {α:Type}(E:α->List AV->Prop)(a:α)(d:List AV):Prop:=∃x,E a (x::d)
theorem jY {α:Type}{E:α->List AV->Prop}(hz:∀a c,E a c->Ltr c):∀{l:List α} {cs:List AV},EL (Tl E) l cs->∀c∈cs,Plain c
 |[],cs,h,c,hc=>by have h:cs=[]:=h;subst h;cases hc
 |a::l,_,⟨c1,c2,⟨x,hx⟩,h2,rfl⟩,c,hc=>by
  rcases Ahs.1 hc with hc|hc
  ·obtain⟨_,p,ia,n,tc,e,ht⟩:=hz _ _ hx;simp at e;rw[e.2]at hc;simp only[Ahm,Ah4,Ajl]at hc;rcases hc with rfl|rfl
   ·exact .inl ⟨_,rfl⟩
   ·exact .inr ⟨_,_,_,rfl,ht⟩
  ·exact jY hz h2 c hc
theorem lY {α:Type}{E:α->List AV->Prop}(hz:∀a c,E a c->Ltr c)(p:Int)(ih n:Nat)(tc:List AV)(af:∀x∈tc,∃v,x=sc v)(l:List α)(id:Nat)(b:List AV)(hb:EL E l b)(hn:l.length<=1000)(q:St):
  ACalls Tryz.prog 133 [ag [sc (.bool false),sc (.int .i64 p),sl ih n tc,sl id l.length b]] q fun r q'=>∃(o m:Nat) (cs:List AV),r=fx o 0 m/\q.nobj<=o/\q'.obj o=cs/\Keep q q'/\(∀c∈cs,Plain c)/\(m=l.length+1/\∃ds,cs=sc (.int .i64 p)::sl ih n tc::ds/\EL (Tl E) l ds):=by
 have h3:∀a c,E a c->c.length=3:=fun a c h=>by obtain⟨_,_,_,_,_,rfl,-⟩:=hz a c h;rfl
 have ap:=EL.length h3 hb;refine Z9 33 [.tmp 2] Tryz.func133 ?_
 repeat' (first|refine Z1 ?_|(refine Z8 ?_;intro κ hκ)|(refine Z4 ?_;clear hκ κ)|(refine Z2 ?_ ?_<;>intro h ab<;>try exact Xp)|refine Z3 ?_|exact⟨⟩|(apply hκ.out;clear hκ κ))
 have ae:Keep q (q.new [sc (.bool false),sc (.int .i64 p),sl ih n tc,sl id l.length b]):=(Keep.refl _).new _;have ad:((l.length:Int)+1).toNat=l.length+1:=Ajm
 refine Af (fun m s q'=>∃(k:Nat) (cur:List AV),m=l.length-k/\k<=l.length/\s 3=fx (q.nobj+1) 0 (l.length+1)/\s 18=sl id l.length b/\s 19=sc (.int .i64 l.length)/\s 20=sc (.int .i64 k)/\Keep q q'/\q.nobj+1<q'.nobj/\q'.obj (q.nobj+1)=cur/\cur.length=(l.length+1)*2/\Ajs (∃ds,cur=(sc (.int .i64 p)::sl ih n tc::ds)++(List.replicate (l.length-k) [sc (.int .i64 0),nilS]).flatten/\ds.length=k*2/\EL (Tl E) (l.take k) ds)) l.length
  ⟨0,_,Ajm,Ajm,by simp[upd,ad],Ajo,Ajo,rfl,(ae.new _).put Ajm _,Ajr,Ak,by simp[ad],[],?_,rfl,rfl⟩ ?_
 ·rw[ad,Sy Ajm];rfl
 clear ae;rintro m s q' ⟨k,cur,rfl,hk,au,ax,aw,av,hK,ao,ah,ak,hE⟩;have am:=hK.nobj;by_cases ai:k<l.length
 ·have aa:=List.getElem?_eq_getElem ai;obtain⟨c,r,ac,hd⟩:=EL.get h3 hb aa;generalize l[k]=a at hd aa ac;obtain⟨a1,a2,a3,a4,a5,rfl,ha⟩:=hz _ _ ac;simp only[Aho,Ahq]at hd;have HN:Ajs (∃ds,(cur.set ((k+1)*2) (sc (.int .i64 a2))).set ((k+1)*2+1) (sl a3 a4 a5)=(sc (.int .i64 p)::sl ih n tc::ds)++(List.replicate (l.length-(k+1)) [sc (.int .i64 0),nilS]).flatten/\ds.length=(k+1)*2/\EL (Tl E) (l.take (k+1)) ds):=by
   obtain⟨ds,e1,e2,e3⟩:=hE.out;refine⟨ds++[sc (.int .i64 a2),sl a3 a4 a5],?_,by simp[e2];omega,?_⟩
   ·rw[e1,Sy Ajm,pM (by simp[e2];omega)];simp[Nat.sub_sub]
   ·rw[Agz,aa];exact EL.append e3 (EL.single ⟨_,ac⟩)
  clear aa ac hE ha;have an:((k:Int)+1).toNat=k+1:=Ajm
  repeat' (first|refine Z1 ?_|(refine Z8 ?_;intro κ hκ)|(refine Z4 ?_;clear hκ κ)|(refine Z2 ?_ ?_<;>intro h ab<;>try exact Xp)|refine Z3 ?_|exact⟨⟩|(apply hκ.out;clear hκ κ))
  refine⟨l.length-(k+1),Ajm,k+1,(cur.set ((k+1)*2) (sc (.int .i64 a2))).set ((k+1)*2+1) (sl a3 a4 a5),?_⟩
  ((repeat' with_reducible refine And.intro ?_ ?_)<;>first|exact Xq|exact (((hK.new _).put hK.nobj _).put Ajm _)|exact (Ak)|exact (HN)|exact (by simp[ak])|exact Xs)
 ·have aj:k=l.length:=Ajm;subst aj;obtain⟨ds,e1,e2,e3⟩:=hE.out;rw[Ahz,List.replicate_zero,List.flatten_nil,Ag3]at e1;rw[Agw]at e3;have hpl:∀c∈cur,Plain c:=fun c hc=>by
   rw[e1]at hc;simp only[Ahm]at hc;rcases hc with rfl|rfl|hc
   ·exact .inl ⟨_,rfl⟩
   ·exact .inr ⟨_,_,_,rfl,af⟩
   ·exact jY hz e3 c hc
  have HF:Ajs ((∀c∈cur,Plain c)/\∃ds,cur=sc (.int .i64 p)::sl ih n tc::ds/\EL (Tl E) l ds):=⟨hpl,ds,e1,e3⟩;clear hE e1 e2 e3 hpl
  repeat' (first|refine Z1 ?_|(refine Z8 ?_;intro κ hκ)|(refine Z4 ?_;clear hκ κ)|(refine Z2 ?_ ?_<;>intro h ab<;>try exact Xp)|refine Z3 ?_|exact⟨⟩|(apply hκ.out;clear hκ κ))
  exact⟨_,rfl,q.nobj+1,_,cur,rfl,Ajm,ah,HF.out.1,rfl,HF.out.2⟩
theorem aC (ts:List Tm):∀x∈Ac ts,∃v,x=sc v:=fun x hx=>by
 obtain⟨t,-,ht⟩:=Ahr.1 hx;simp[I3]at ht;rcases ht with rfl|rfl<;>exact⟨_,rfl⟩
theorem Ac6 (l:Lit)(c:List AV)(h:Qf l c):Ltr c:=by
 obtain⟨id,rfl⟩:=h;exact⟨_,_,_,_,_,rfl,aC _⟩
def G5 (r:Dy):List Df:=r.head::r.body.map (·.a)
def Er (r:Dy):List Int:=Cc (G5 r)
theorem Aac:∀{l:List Lit} {ds:List AV},EL (Tl Qf) l ds->EL Mm (l.map (·.a)) ds
 |[],_,h=>h
 |a::l,_,⟨c1,c2,⟨x,ia,e⟩,h2,rfl⟩=>⟨c1,c2,⟨ia,by simpa using (List.cons.inj e).2⟩,Aac h2,rfl⟩
theorem fP (r:Dy)(c:List AV)(hc:Re false r c)(hn:r.body.length<=1000)(q:St):ACalls Tryz.prog 133 [ag c] q fun x q'=>∃id cs,x=sl id (G5 r).length cs/\EL Mm (G5 r) cs/\Keep q q':=by
 obtain⟨ih,ib,bc,rfl,hb⟩:=hc;refine (ACalls.freeze (lY Ac6 _ _ _ _ (aC _) _ _ _ hb hn q)).mono fun x q' h=>?_;obtain⟨n,cs,rfl,⟨rfl,ds,rfl,h1⟩,h2⟩:=h;exact⟨0,_,by simp[G5],⟨_,_,⟨ih,rfl⟩,Aac h1,rfl⟩,h2⟩
theorem K9 (r:Dy)(c:List AV)(hc:Re false r c)(hr:R52 r)(q:St):ACalls Tryz.prog 96 [ag c] q fun x q'=>(∃id,x=sl id (Er r).length (Am (Er r)))/\Keep q q':=by
 have hb:=hr.bl;have hA:=fun q=>fP r c hc Ajm q
 have hV:=fun cs ida hE q=>Hb (G5 r) cs ida hE (fun a ha=>by
  rcases Ahm.1 ha with rfl|ha
  ·exact hr.h3
  ·obtain⟨l,hl,rfl⟩:=Ahv.1 ha
   exact hr.b3 l hl) (by simp[G5];omega) q
 obtain⟨ih,ib,bc,rfl,-⟩:=hc;unfold Er;generalize Cc (G5 r)=vs at hV;refine Z9 6 [.tmp 2] Tryz.func96 ?_
 repeat' (first|refine Z1 ?_|(refine Z8 ?_;intro κ hκ)|(refine Z4 ?_;clear hκ κ)|(refine Z2 ?_ ?_<;>intro h aa<;>try exact Xp)|(refine Z5 ?_;first|(refine Xi (hA _) ?_;rintro _ _ ⟨ida,cs,rfl,hE,ac⟩)|(refine Xi (hV _ _ (by assumption) _) ?_;rintro _ _ ⟨⟨id2,rfl⟩,ab⟩))|refine Z3 ?_|exact⟨⟩|(apply hκ.out;clear hκ κ))
 exact⟨_,rfl,⟨id2,rfl⟩,Xs⟩
def lR (l:List Int)(v:Int):Int:=if v∈l then (l.idxOf v:Nat)else -1
def Fl (l:List Int)(t:Tm):Tm:=(t.1,if t.1=true then lR l t.2 else t.2)
theorem M5 (l:List Int)(ido:Nat)(kp:Int)(ids:Nat)(ts:List Tm)(hl:l.length<=100000)(hn:ts.length<=1000)(q:St):
  ACalls Tryz.prog 144 [ag [ic kp,sl ids ts.length (Ac ts)],sl ido l.length (Am l)] q fun r q'=>(∃id,r=ag [ic kp,sl id ts.length (Ac (ts.map (Fl l)))])/\Keep q q':=by
 have a4:=Ci ts;refine Z9 33 [.cell 4 122] Tryz.func144 ?_
 repeat' (first|refine Z1 ?_|(refine Z8 ?_;intro κ hκ)|(refine Z4 ?_;clear hκ κ)|(refine Z2 ?_ ?_<;>intro h af<;>try exact Xp)|(refine Z6 ?_;intro idn qn ai aj ad aa ac ab)|refine Z3 ?_|exact⟨⟩|(apply hκ.out;clear hκ κ))
 refine Af (fun m s q'=>∃(k i3:Nat) (xs:List AV),m=ts.length-k/\k<=ts.length/\s 1=sl ido l.length (Am l)/\s 4=ptr (q.nobj+1) 0/\s 5=ptr (q.nobj+2) 0/\s 12=sl ids ts.length (Ac ts)/\s 13=ic ts.length/\s 14=ic k/\Keep q q'/\q.nobj+2<q'.nobj/\q'.obj (q.nobj+1)=[ic 0,nilS]/\q'.obj (q.nobj+2)=[ic kp,sl i3 k xs]/\Own q q' i3 k/\xs.length=k*2/\Ajs (xs=Ac ((ts.take k).map (Fl l)))) ts.length
  ⟨0,1,[],Ajm,Ajm,by simp[upd,initS],Ajo,Ajo,Ajo,Ajo,rfl,?_,?_,?_,?_,Own.nil _ _,by simp,by simp[Ajs,Ac]⟩ ?_
 ·exact ((((Keep.refl q).new _).new _).new _).put Ajm _
 ·simp only[Ab,Aa];omega
 ·rw[Ai Ajm,Ag Ajq,Bt (by rw[Aa];omega) (by rw[Aa];omega)]
 ·rw[show q.nobj+2=q.nobj+1+1 by omega,Ak]
 rintro m s q' ⟨k,i3,xs,rfl,hk,h1,h4,h5,a8,a7,a6,hK,a5,ax,aw,hO,au,hX⟩;have a3:=hK.nobj;by_cases ay:k<ts.length
 ·have ah:=List.getElem?_eq_getElem ay;obtain⟨r2,a0⟩:=Cm ah;generalize ts[k]=w at a0 ah;obtain⟨w1,w2⟩:=w;have ae:Ajs (Ac ((ts.take (k+1)).map (Fl l))=xs++I3 (Fl l (w1,w2))):=by
   rw[Ajs,Agz,ah,Aia,Ag1,List.map_singleton,Rz,<-hX.out]
  clear ah hX;cases w1 with
  |true=>
   have hP:=fun q=>Ft w2 l ido hl q;have ak:Ajs (xs++[sc (.bool true),ic (lR l w2)]=Ac ((ts.take (k+1)).map (Fl l))):=by rw[Ajs,ae.out];rfl
   have av:∀v,(if v∈l then ((l.idxOf v:Nat):Int)else -1)=lR l v:=fun _=>rfl;rw[av]at hP;generalize lR l w2=w3 at hP ak;clear av ae
   repeat' (first|refine Z1 ?_|(refine Z8 ?_;intro κ hκ)|(refine Z4 ?_;clear hκ κ)|(refine Z2 ?_ ?_<;>intro h af<;>try exact Xp)|(refine Z6 ?_;intro idn qn ai aj ad aa ac ab)|(refine Z5 ?_;refine Xi (hP _) ?_;rintro _ _ ⟨rfl,am⟩;(have ao:=am.nobj;have an:=am.obj;simp only[Aa,Ab]at ao an))|refine Z3 ?_|exact⟨⟩|(apply hκ.out;clear hκ κ))
   rename_i q2;have ap:Keep q (q2.put q'.nobj [sc (.bool true),ic w3]):=(((hK.new _).put hK.nobj _).trans am).put Ajm _;refine Bh (by first|exact Eb) ap (Own.put (Own.keep (Own.put (Own.new hO _) _ _) am) _ _) (by decide) (by rfl) au (by rfl) (by rfl) (by decide) Ajm Ajm ?_;intro idn qn ai aj ad aa ac ab;simp only[Ab,Aa]at aa;refine Z3 ?_
   repeat' (first|refine Z1 ?_|(refine Z8 ?_;intro κ hκ)|(refine Z4 ?_;clear hκ κ)|(refine Z2 ?_ ?_<;>intro h af<;>try exact Xp)|(refine Z6 ?_;intro idn qn ai aj ad aa ac ab)|refine Z3 ?_|exact⟨⟩|(apply hκ.out;clear hκ κ))
   refine⟨ts.length-(k+1),Ajm,k+1,idn,xs++[sc (.bool true),ic w3],?_⟩
   ((repeat' with_reducible refine And.intro ?_ ?_)<;>first|exact Xq|exact (aj.put Ajm _)|exact (Own.put ai _ _)|exact (ak)|exact Xs)
  |false=>
   have ak:Ajs (xs++[sc (.bool false),ic w2]=Ac ((ts.take (k+1)).map (Fl l))):=by rw[Ajs,ae.out];rfl
   clear ae
   repeat' (first|refine Z1 ?_|(refine Z8 ?_;intro κ hκ)|(refine Z4 ?_;clear hκ κ)|(refine Z2 ?_ ?_<;>intro h af<;>try exact Xp)|(refine Z6 ?_;intro idn qn ai aj ad aa ac ab)|refine Z3 ?_|exact⟨⟩|(apply hκ.out;clear hκ κ))
   have ap:Keep q ((q'.new [sc (.bool false),ic 0]).put q'.nobj [sc (.bool false),ic w2]):=(hK.new _).put hK.nobj _;refine Bh (by first|exact Eb) ap (Own.put (Own.new hO _) _ _) (by decide) (by rfl) au (by rfl) (by rfl) (by decide) Ajm Ajm ?_;intro idn qn ai aj ad aa ac ab;simp only[Ab,Aa]at aa;refine Z3 ?_
   repeat' (first|refine Z1 ?_|(refine Z8 ?_;intro κ hκ)|(refine Z4 ?_;clear hκ κ)|(refine Z2 ?_ ?_<;>intro h af<;>try exact Xp)|(refine Z6 ?_;intro idn qn ai aj ad aa ac ab)|refine Z3 ?_|exact⟨⟩|(apply hκ.out;clear hκ κ))
   refine⟨ts.length-(k+1),Ajm,k+1,idn,xs++[sc (.bool false),ic w2],?_⟩
   ((repeat' with_reducible refine And.intro ?_ ?_)<;>first|exact Xq|exact (aj.put Ajm _)|exact (Own.put ai _ _)|exact (ak)|exact Xs)
 ·have az:k=ts.length:=Ajm;subst az;rw[Agw]at hX
  repeat' (first|refine Z1 ?_|(refine Z8 ?_;intro κ hκ)|(refine Z4 ?_;clear hκ κ)|(refine Z2 ?_ ?_<;>intro h af<;>try exact Xp)|(refine Z6 ?_;intro idn qn ai aj ad aa ac ab)|refine Z3 ?_|exact⟨⟩|(apply hκ.out;clear hκ κ))
  exact⟨_,rfl,⟨i3,by rw[hX.out]⟩,hK.put Ajm _⟩
def fN (l:List Int)(a:Df):Df:=⟨a.p,a.ts.map (Fl l)⟩
def reL (l:List Int)(x:Lit):Lit:=⟨x.neg,fN l x.a⟩
def Ep (r:Dy):Dy:=⟨fN (Er r) r.head,r.body.map (reL (Er r))⟩
theorem Ya {r:Dy}(hr:R52 r):(Er r).length<=1000:=by
 have h1:=E5 (l:=G5 r) fun a ha=>by
  rcases Ahm.1 ha with rfl|ha
  ·exact hr.h3
  ·obtain⟨l,hl,rfl⟩:=Ahv.1 ha;exact hr.b3 l hl
 have h2:=hr.bl;have h3:(G5 r).length=r.body.length+1:=by simp[G5]
 unfold Er;omega
theorem sH (r:Dy)(c:List AV)(hc:Re false r c)(hr:R52 r)(q:St):
  ACalls Tryz.prog 93 [ag c] q fun x q'=>(∃c',x=ag c'/\Re false (Ep r) c')/\Keep q q':=by
 have a5:=fun q=>K9 r c hc hr q;have bc:=Ya hr;have bi:=hr.bl;obtain⟨ih,id,b,rfl,hb⟩:=hc;have bh:=EL.length Gs hb;unfold Ep;generalize Er r=lo at a5 bc;have a6:=fun ido q=>M5 lo ido r.head.p ih r.head.ts Ajm (by have:=hr.h3;omega) q;have a7:=fun ido (a:Lit) ia (ha:a∈r.body) q=>M5 lo ido a.a.p ia a.a.ts Ajm (by have:=hr.b3 a ha;omega) q;refine Z9 39 [.cell 2 125] Tryz.func93 ?_
 repeat' (first|refine Z1 ?_|(refine Z8 ?_;intro κ hκ)|(refine Z4 ?_;clear hκ κ)|(refine Z2 ?_ ?_<;>intro h ai<;>try exact Xp)|(refine Z6 ?_;intro idn qn ak am af aa ae ab)|(refine Z5 ?_;refine Xi (a5 _) ?_;rintro _ _ ⟨⟨ido,rfl⟩,a0⟩;(have aj:=a0.obj;have ao:=a0.nobj;simp only[Aa]at ao))|refine Z3 ?_|exact⟨⟩|(apply hκ.out;clear hκ κ))
 rename_i q1;have au:q1.obj q.nobj=[sc (.bool false),ic r.head.p,sl ih r.head.ts.length (Ac r.head.ts),sl id r.body.length b]:=by
  rw[aj _ Ajq,Ag Ajq,Ap]
 have ap:q1.obj (q.nobj+1)=[sc (.bool false),ic 0,nilS,nilS]:=by
  rw[aj _ Ajq,Bt (by rw[Aa];omega) (by rw[Aa];omega)]
 have aw:Keep q q1:=Xs;clear aj a0;refine Bu (Q:=fun e s q'=>e= .normal/\∃o i2:Nat,s 1=ptr q.nobj 0/\s 2=ptr (q.nobj+1) 0/\s 3=sl ido lo.length (Am lo)/\s 4=ptr o 0/\q.nobj+1<o/\o<q'.nobj/\q'.obj q.nobj=[sc (.bool false),ic r.head.p,sl ih r.head.ts.length (Ac r.head.ts),sl id r.body.length b]/\q'.obj (q.nobj+1)=[sc (.bool false),ic 0,nilS,nilS]/\q'.obj o=[sc (.bool false),ic r.head.p,sl i2 r.head.ts.length (Ac (r.head.ts.map (Fl lo))),nilS]/\Keep q q') ?_ ?_
 ·refine A2 Aj (fun _=>True) [8] [0,1,2,3,4] 4 #[true,true,true,true,true,false,false,false,false] Ajp (fun _ _ _ h=>by cases h.1) ?_;intro κ hκ;refine Z3 ?_;refine hκ.out _ ?_;clear hκ κ;have a8:=fun q=>a6 ido q;refine Eg (rs:=[5,7]) Ajp (by simp) ?_;intro i hi;simp only[Ahm,Ah4,Ajl]at hi;rcases hi with rfl|rfl
  ·refine Ar ?_;intro κ hκ;refine Z3 ?_;refine ACalls.mono (a8 _) ?_;rintro _ q2 ⟨⟨i2,rfl⟩,ad⟩;have ac:=ad.obj;have an:=ad.nobj;refine Z3 ?_;refine hκ.out _ _ ⟨Aq ad,?_⟩;clear hκ κ;refine Eg (rs:=[6,7]) Ajp (by simp) ?_;intro i hi;simp only[Ahm,Ah4,Ajl]at hi;rcases hi with rfl|rfl
   ·refine Ar ?_;intro κ hκ;refine Z3 ?_;refine hκ.out _ _ ⟨Aq ad,?_⟩;clear hκ κ;refine Ao (i:=7) Ajp ?_;refine Ar ?_;intro κ hκ;refine Z3 ?_;refine hκ.out _ _ ⟨Aq (ad.new _),?_⟩;clear hκ κ;refine Ao (i:=8) Ajp ?_;refine Ar ?_;intro κ hκ;refine Z3 ?_;refine hκ.out _ _ ⟨Bs rfl,?_⟩;clear hκ κ;refine A3 Ajp ⟨rfl,q2.nobj,i2,Ajo,Ajo,Ajo,Ajo,Ajm,Ajr,?_,?_,Ak,?_⟩
    ·rw[Ai Ajm,Ag Ajm,ac _ Ajm,au]
    ·rw[Ai Ajm,Ag Ajm,ac _ Ajm,ap]
    ·exact ((aw.trans ad).new _).put Ajm _
   ·refine Ar ?_;intro κ hκ;refine Z3 ?_;refine hκ.out _ _ ⟨Aq (ad.new _),?_⟩;clear hκ κ;refine Ao (i:=6) Ajp ?_;refine Ar ?_;intro κ hκ;refine Z3 ?_;refine hκ.out _ _ ⟨Aq (ad.new _),?_⟩;clear hκ κ;refine Ao (i:=8) Ajp ?_;refine Ar ?_;intro κ hκ;refine Z3 ?_;refine hκ.out _ _ ⟨Bs rfl,?_⟩;clear hκ κ;refine A3 Ajp ⟨rfl,q2.nobj,i2,Ajo,Ajo,Ajo,Ajo,Ajm,Ajr,?_,?_,Ak,?_⟩
    ·rw[Ai Ajm,Ag Ajm,ac _ Ajm,au]
    ·rw[Ai Ajm,Ag Ajm,ac _ Ajm,ap]
    ·exact ((aw.trans ad).new _).put Ajm _
  ·refine Ar ?_;intro κ hκ;refine Z3 ?_;refine hκ.out _ _ ⟨Aq ((Keep.refl _).new _),?_⟩;clear hκ κ;refine Ao (i:=5) Ajp ?_;refine Ar ?_;intro κ hκ;refine Z3 ?_;refine ACalls.mono (a8 _) ?_;rintro _ q2 ⟨⟨i2,rfl⟩,ad⟩;have ac:=ad.obj;have an:=ad.nobj;simp only[Aa]at an;refine Z3 ?_;refine hκ.out _ _ ⟨Aq (((Keep.refl _).new _).trans ad),?_⟩;clear hκ κ;refine Ao (i:=6) Ajp ?_;refine Ar ?_;intro κ hκ;refine Z3 ?_;refine hκ.out _ _ ⟨Aq (((Keep.refl _).new _).trans ad),?_⟩;clear hκ κ;refine Ao (i:=8) Ajp ?_;refine Ar ?_;intro κ hκ;refine Z3 ?_;refine hκ.out _ _ ⟨Bs rfl,?_⟩;clear hκ κ;refine A3 Ajp ⟨rfl,q1.nobj,i2,Ajo,Ajo,Ajo,Ajo,Ajm,Ajr,?_,?_,Ak,?_⟩
   ·rw[Ai Ajm,ac _ (by rw[Aa];omega),Ag Ajm,au]
   ·rw[Ai Ajm,ac _ (by rw[Aa];omega),Ag Ajm,ap]
   ·exact ((aw.new _).trans ad).put Ajm _
 ·rintro e s q2 ⟨rfl,o,i2,h1,h2,h3,h4,bg,az,a9,ax,ob,hK⟩;have a3:=hK.nobj;clear aw au ap ao a6
  repeat' (first|refine Z1 ?_|(refine Z8 ?_;intro κ hκ)|(refine Z4 ?_;clear hκ κ)|(refine Z2 ?_ ?_<;>intro h ai<;>try exact Xp)|(refine Z6 ?_;intro idn qn ak am af aa ae ab)|refine Z3 ?_|exact⟨⟩|(apply hκ.out;clear hκ κ))
  refine Af (fun m s q'=>∃(k i3:Nat) (xs:List AV),m=r.body.length-k/\k<=r.body.length/\s 2=ptr (q.nobj+1) 0/\s 3=sl ido lo.length (Am lo)/\s 4=ptr o 0/\s 18=sl id r.body.length b/\s 19=ic r.body.length/\s 20=ic k/\Keep q q'/\o<q'.nobj/\q'.obj (q.nobj+1)=[sc (.bool false),ic 0,nilS,nilS]/\q'.obj o=[sc (.bool false),ic r.head.p,sl i2 r.head.ts.length (Ac (r.head.ts.map (Fl lo))),sl i3 k xs]/\Own q q' i3 k/\xs.length=k*3/\Ajs (EL Qf ((r.body.take k).map (reL lo)) xs)) r.body.length
   ⟨0,1,[],Ajm,Ajm,by simp[upd,h2],by simp[upd,h3],by simp[upd,h4],Ajo,Ajo,rfl,hK,az,ax,ob,Own.nil _ _,by simp,rfl⟩ ?_
  clear h1 h2 h3 h4 a9 ax ob hK az a3;rintro m s q' ⟨k,i3,xs,rfl,hk,h2,h3,h4,bo,bn,bm,hK,az,ax,ob,hO,bb,hX⟩;have a3:=hK.nobj;by_cases a4:k<r.body.length
  ·have ah:=List.getElem?_eq_getElem a4;obtain⟨ia,rr,hd⟩:=Hl hb ah;have hR:=fun q=>a7 ido r.body[k] ia (Ah6 a4) q;generalize r.body[k]=a at hd ah hR;have HX:Ajs (∀i4,EL Qf ((r.body.take (k+1)).map (reL lo)) (xs++[sc (.bool a.neg),ic a.a.p,sl i4 a.a.ts.length (Ac (a.a.ts.map (Fl lo)))])):=fun i4=>by
    rw[Agz,ah,Aia,Ag1];exact EL.append hX.out (EL.single ⟨i4,by simp[reL,fN]⟩)
   clear ah hX a7
   repeat' (first|refine Z1 ?_|(refine Z8 ?_;intro κ hκ)|(refine Z4 ?_;clear hκ κ)|(refine Z2 ?_ ?_<;>intro h ai<;>try exact Xp)|(refine Z6 ?_;intro idn qn ak am af aa ae ab)|(refine Z5 ?_;refine Xi (hR _) ?_;rintro _ _ ⟨⟨i4,rfl⟩,av⟩;(have ba:=av.obj;have ay:=av.nobj;simp only[Aa,Ab]at ay))|refine Z3 ?_|exact⟨⟩|(apply hκ.out;clear hκ κ))
   rename_i q4;have bf:=((hK.new [sc (.bool false),ic 0,nilS]).put hK.nobj _).trans av;have be:=Own.keep (Own.put (Own.new hO [sc (.bool false),ic 0,nilS]) q'.nobj [sc (.bool a.neg),ic a.a.p,sl ia a.a.ts.length (Ac a.a.ts)]) av;refine Bh (by first|exact El) ((bf.new _).put Ajm _) (Own.put (Own.new be _) _ _) (by decide) (by rfl) bb (by rfl) (by rfl) (by decide) Ajm Ajm ?_;intro idn qn ak am af aa ae ab;simp only[Ab,Aa]at aa;refine Z3 ?_
   repeat' (first|refine Z1 ?_|(refine Z8 ?_;intro κ hκ)|(refine Z4 ?_;clear hκ κ)|(refine Z2 ?_ ?_<;>intro h ai<;>try exact Xp)|(refine Z6 ?_;intro idn qn ak am af aa ae ab)|refine Z3 ?_|exact⟨⟩|(apply hκ.out;clear hκ κ))
   refine⟨r.body.length-(k+1),Ajm,k+1,idn,xs++[sc (.bool a.neg),ic a.a.p,sl i4 a.a.ts.length (Ac (a.a.ts.map (Fl lo)))],?_⟩
   ((repeat' with_reducible refine And.intro ?_ ?_)<;>first|exact Xq|exact (am.put Ajm _)|exact (Own.put ak _ _)|exact (HX.out i4)|exact Xs)
  ·have bd:k=r.body.length:=Ajm;subst bd;rw[Agw]at hX
   repeat' (first|refine Z1 ?_|(refine Z8 ?_;intro κ hκ)|(refine Z4 ?_;clear hκ κ)|(refine Z2 ?_ ?_<;>intro h ai<;>try exact Xp)|(refine Z6 ?_;intro idn qn ak am af aa ae ab)|refine Z3 ?_|exact⟨⟩|(apply hκ.out;clear hκ κ))
   exact⟨_,rfl,⟨_,rfl,i2,i3,xs,by simp[fN],hX.out⟩,hK.put Ajm _⟩
theorem mI (r:Dy)(o:Bool)(c:List AV)(n:Nat)(L:List Lit)(i2:Nat)(b2:List AV)(hc:Re o r c)(bi:r.body.length<=100)(hL:EL Qf L b2)(hl:L.length<=100)(q:St):
  ACalls Tryz.prog 211 [ag c,ic n,sl i2 L.length b2] q fun x q'=>(∃c',x=ag c'/\Re false ⟨r.head,Cp n L r.body⟩ c')/\Keep q q':=by
 obtain⟨ih,id,b,rfl,hb⟩:=hc;have bg:=EL.length Gs hb;have bh:=EL.length Gs hL;refine Z9 47 [.cell 6 125] Tryz.func211 ?_
 repeat' (first|refine Z1 ?_|(refine Z8 ?_;intro κ hκ)|(refine Z4 ?_;clear hκ κ)|(refine Z2 ?_ ?_<;>intro h ae<;>try exact Xp)|(refine Z6 ?_;intro idn qn ah ai ad aa ac ab)|refine Z3 ?_|exact⟨⟩|(apply hκ.out;clear hκ κ))
 refine Af (fun m s q'=>∃(k i3:Nat) (R:List Lit) (xs:List AV),m=r.body.length-k/\k<=r.body.length/\s 1=ic n/\s 2=sl i2 L.length b2/\s 6=ptr (q.nobj+1) 0/\s 7=ptr (q.nobj+2) 0/\s 16=sl id r.body.length b/\s 17=ic r.body.length/\s 18=ic k/\Keep q q'/\q.nobj+2<q'.nobj/\q'.obj (q.nobj+1)=[sc (.bool false),ic 0,nilS,nilS]/\q'.obj (q.nobj+2)=[sc (.bool false),ic r.head.p,sl ih r.head.ts.length (Ac r.head.ts),sl i3 R.length xs]/\Own q q' i3 R.length/\xs.length=R.length*3/\R.length<=k*(L.length+1)/\Ajs (R=Cp n L (r.body.take k)/\EL Qf R xs)) r.body.length
  ⟨0,1,[],[],Ajm,Ajm,by simp[upd,initS],by simp[upd,initS],Ajo,Ajo,Ajo,Ajo,rfl,?_,?_,?_,?_,Own.nil _ _,by simp,by simp,⟨by simp[Cp],rfl⟩⟩ ?_
 ·exact ((((Keep.refl q).new _).new _).new _).put Ajm _
 ·simp only[Ab,Aa];omega
 ·rw[Ai Ajm,Ag Ajq,Bt (by rw[Aa];omega) (by rw[Aa];omega)]
 ·rw[show q.nobj+2=q.nobj+1+1 by omega,Ak];rfl
 rintro m s q' ⟨k,i3,R,xs,rfl,hk,h1,h2,h6,h7,a4,a3,a0,hK,az,av,ao,hO,ap,be,hA⟩;have ay:=hK.nobj;by_cases ba:k<r.body.length
 ·have af:=List.getElem?_eq_getElem ba;obtain⟨ia,rr,hd⟩:=Hl hb af;generalize r.body[k]=a at hd af;have bl:R.length<=10100:=Agj be (Agj (Nat.mul_le_mul (by omega:k<=100) (by omega:L.length+1<=101)) (by decide));have ak:=Pg (n:=n) (o:=L) r.body (k+1);have aj:=Up (n:=n) (o:=L) af;rw[<-hA.out.1]at aj;by_cases am:k=n
  ·rw[if_pos am]at aj;have a9:((k:Int) !=(n:Int))=false:=by simp[am]
   have a5:Ajs _:=aj;have a6:Ajs (EL Qf R xs):=hA.out.2;rw[aj,Aha]at ak;clear aj af hA am
   repeat' (first|refine Z1 ?_|(refine Z8 ?_;intro κ hκ)|(refine Z4 ?_;clear hκ κ)|(refine Z2 ?_ ?_<;>intro h ae<;>try exact Xp)|(refine Z6 ?_;intro idn qn ah ai ad aa ac ab)|refine Z3 ?_|exact⟨⟩|(apply hκ.out;clear hκ κ))
   refine Af (fun m s q2=>∃(j i3:Nat) (ys:List AV),m=L.length-j/\j<=L.length/\s 1=ic n/\s 2=sl i2 L.length b2/\s 6=ptr (q.nobj+1) 0/\s 7=ptr (q.nobj+2) 0/\s 16=sl id r.body.length b/\s 17=ic r.body.length/\s 18=ic k/\s 32=sl i2 L.length b2/\s 33=ic L.length/\s 34=ic j/\Keep q q2/\q.nobj+2<q2.nobj/\q2.obj (q.nobj+1)=[sc (.bool false),ic 0,nilS,nilS]/\q2.obj (q.nobj+2)=[sc (.bool false),ic r.head.p,sl ih r.head.ts.length (Ac r.head.ts),sl i3 (R.length+j) ys]/\Own q q2 i3 (R.length+j)/\ys.length=(R.length+j)*3/\Ajs (EL Qf (R++L.take j) ys)) L.length
    ⟨0,i3,xs,Ajm,Ajm,Ajn,Ajn,Ajn,Ajn,Ajn,Ajn,Ajn,Ajn,Ajn,Ajo,Xs,Ajr,by rw[Ai Ajm,Ag Ajm,av],by rw[Ai Ajm,Ag Ajm,ao];rfl,(by simpa using Own.put (Own.new hO _) _ _),by simpa using ap,by simpa using a6⟩ ?_
   clear h1 h2 h6 h7 a4 a3 a0 hK hO ay ap a6 av ao az;rintro m s q2 ⟨j,i3,ys,rfl,hj,h1,h2,h6,h7,a4,a3,a0,bp,bo,bn,hK,az,av,ao,hO,aw,an⟩;have ay:=hK.nobj;by_cases ax:j<L.length
   ·have au:=List.getElem?_eq_getElem ax;obtain⟨ja,rj,bd⟩:=Hl hL au;generalize L[j]=y at bd au;have bf:Ajs (EL Qf (R++L.take (j+1)) (ys++[sc (.bool y.neg),ic y.a.p,sl ja y.a.ts.length (Ac y.a.ts)])):=by
     rw[Ajs,Agz,au,Aia,<-Ahc];exact EL.append an.out (EL.single ⟨ja,rfl⟩)
    clear au an
    repeat' (first|refine Z1 ?_|(refine Z8 ?_;intro κ hκ)|(refine Z4 ?_;clear hκ κ)|(refine Z2 ?_ ?_<;>intro h ae<;>try exact Xp)|(refine Z6 ?_;intro idn qn ah ai ad aa ac ab)|refine Z3 ?_|exact⟨⟩|(apply hκ.out;clear hκ κ))
    refine Bh (by first|exact El) ((hK.new _).put hK.nobj _) (Own.put (Own.new hO _) _ _) (by decide) (by rfl) (aw) (by rfl) (by rfl) (by decide) Ajm Ajm ?_;intro idn qn ah ai ad aa ac ab;simp only[Ab,Aa]at aa;refine Z3 ?_
    repeat' (first|refine Z1 ?_|(refine Z8 ?_;intro κ hκ)|(refine Z4 ?_;clear hκ κ)|(refine Z2 ?_ ?_<;>intro h ae<;>try exact Xp)|(refine Z6 ?_;intro idn qn ah ai ad aa ac ab)|refine Z3 ?_|exact⟨⟩|(apply hκ.out;clear hκ κ))
    refine⟨L.length-(j+1),Ajm,j+1,idn,ys++[sc (.bool y.neg),ic y.a.p,sl ja y.a.ts.length (Ac y.a.ts)],?_⟩
    ((repeat' with_reducible refine And.intro ?_ ?_)<;>first|exact Xq|exact (bf)|exact (ai.put Ajm _)|exact (Own.put ah _ _)|exact ((by simp[aw];omega))|exact Xs)
   ·have bc:j=L.length:=Ajm;subst bc;rw[Agw]at an;have HA:Ajs (R++L=Cp n L (r.body.take (k+1))/\EL Qf (R++L) ys):=⟨a5.out.symm,an.out⟩;clear an a5;have a7:ys.length=(R++L).length*3:=by rw[aw,Aha]
    have bm:Own q q2 i3 (R++L).length:=by rw[Aha];exact hO
    rw[<-Aha]at ao;have a8:(R++L).length<=(k+1)*(L.length+1):=by rw[Aha];exact ak
    repeat' (first|refine Z1 ?_|(refine Z8 ?_;intro κ hκ)|(refine Z4 ?_;clear hκ κ)|(refine Z2 ?_ ?_<;>intro h ae<;>try exact Xp)|(refine Z6 ?_;intro idn qn ah ai ad aa ac ab)|refine Z3 ?_|exact⟨⟩|(apply hκ.out;clear hκ κ))
    refine⟨r.body.length-(k+1),Ajm,k+1,i3,R++L,ys,?_⟩
    ((repeat' with_reducible refine And.intro ?_ ?_)<;>first|exact Xq|exact (HA)|exact Xs)
  ·rw[if_neg am]at aj;have a9:((k:Int) !=(n:Int))=true:=by simpa using (by omega:¬(k:Int)=n)
   have HA:Ajs (R++[a]=Cp n L (r.body.take (k+1))/\EL Qf (R++[a]) (xs++[sc (.bool a.neg),ic a.a.p,sl ia a.a.ts.length (Ac a.a.ts)])):=⟨aj.symm,EL.append hA.out.2 (EL.single ⟨ia,rfl⟩)⟩;rw[aj]at ak;clear aj af hA am
   repeat' (first|refine Z1 ?_|(refine Z8 ?_;intro κ hκ)|(refine Z4 ?_;clear hκ κ)|(refine Z2 ?_ ?_<;>intro h ae<;>try exact Xp)|(refine Z6 ?_;intro idn qn ah ai ad aa ac ab)|refine Z3 ?_|exact⟨⟩|(apply hκ.out;clear hκ κ))
   refine Bh (by first|exact El) ((hK.new _).put hK.nobj _) (Own.put (Own.new hO _) _ _) (by decide) (by rfl) (ap) (by rfl) (by rfl) (by decide) Ajm Ajm ?_;intro idn qn ah ai ad aa ac ab;simp only[Ab,Aa]at aa;refine Z3 ?_
   repeat' (first|refine Z1 ?_|(refine Z8 ?_;intro κ hκ)|(refine Z4 ?_;clear hκ κ)|(refine Z2 ?_ ?_<;>intro h ae<;>try exact Xp)|(refine Z6 ?_;intro idn qn ah ai ad aa ac ab)|refine Z3 ?_|exact⟨⟩|(apply hκ.out;clear hκ κ))
   refine⟨r.body.length-(k+1),Ajm,k+1,idn,R++[a],xs++[sc (.bool a.neg),ic a.a.p,sl ia a.a.ts.length (Ac a.a.ts)],?_⟩
   ((repeat' with_reducible refine And.intro ?_ ?_)<;>first|exact Xq|exact (HA)|exact (ai.put Ajm _)|exact ((by simpa using Own.put ah _ _))|exact ((by simp[ap];omega))|exact ((by simpa using Ak))|exact Xs)
 ·have bb:k=r.body.length:=Ajm;subst bb;obtain⟨e1,e2⟩:=hA.out;rw[Agw]at e1;have HE:Ajs (∀c,c=[sc (.bool false),ic r.head.p,sl ih r.head.ts.length (Ac r.head.ts),sl i3 R.length xs]->Re false ⟨r.head,Cp n L r.body⟩ c):=fun c hc=>by
   rw[<-e1];exact⟨ih,i3,xs,hc,e2⟩
  clear hA e1 e2
  repeat' (first|refine Z1 ?_|(refine Z8 ?_;intro κ hκ)|(refine Z4 ?_;clear hκ κ)|(refine Z2 ?_ ?_<;>intro h ae<;>try exact Xp)|(refine Z6 ?_;intro idn qn ah ai ad aa ac ab)|refine Z3 ?_|exact⟨⟩|(apply hκ.out;clear hκ κ))
  exact⟨_,rfl,⟨_,rfl,HE.out _ rfl⟩,hK.put Ajm _⟩
end Go.Proofs.YtmoeoppbmhfbpabGreatDoorL
