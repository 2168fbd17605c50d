import Derived.Test.YtmoeoppbmhfbpabGreatDoorLUnfE
import Derived.Test.YtmoeoppbmhfbpabGreatDoorLEngW
import Derived.Test.YtmoeoppbmhfbpabGreatDoorLOptE
import Derived.Test.YtmoeoppbmhfbpabGreatDoorLTxtB
set_option maxHeartbeats 64000000
set_option maxRecDepth 100000
set_option linter.all false
namespace Go.Proofs.YtmoeoppbmhfbpabGreatDoorL
open Go.Abs
def Ob (n:Nat)(q:Tx)(p:RItem×Nat):Bool:=!decide (p.2=n)&&Lg q p.1
def Ks (l:List RItem)(n:Nat)(q:Tx):List RItem:=(l.zipIdx.filter (Ob n q)).map (·.1)
theorem sD {l:List RItem}{n:Nat}{q:Tx}{i:Nat}{y:RItem}(h:l[i]?=some y):Ks (l.take (i+1)) n q=Ks (l.take i) n q++if Ob n q (y,i)=true then [y]else []:=by
 have hi:=(List.getElem?_eq_some_iff.1 h).1;unfold Ks;rw[Agz,h,Aia,List.zipIdx_append,Ai1,Ag1,Ahb,Ahf Ajm];congr 1;rw[show ([y]:List RItem).zipIdx (0+i)=[(y,i)]by simp,Ain];split<;>rfl
theorem xH (l:List RItem)(n:Nat)(q:Tx)(i:Nat):∃r,Ks l n q=Ks (l.take i) n q++r:=by
 refine⟨(((l.drop i).zipIdx (l.take i).length).filter (Ob n q)).map (·.1),?_⟩
 conv=>lhs;rw[<-Aiv i l]
 unfold Ks;rw[List.zipIdx_append,Ai1,Ag1,Ag9]
def Fj (l:List RItem)(n:Nat)(q:Tx):Option Tx:=match Ks l n q with
 |[y]=>if Lq y=true then (match y.body with|[a]=>some a.pred|_=>none)else none
 |_=>none
def Lr (N:List Tx)(l:List RItem)(n:Nat)(q:Tx):Int:=match Fj l n q with
 |some e=>(N.idxOf e:Nat)
 |none=> -1
theorem vW {y:RItem}(h:Lq y=true):∃a,y.body=[a]:=by
 unfold Lq at h;split at h
 ·rename_i a e;exact⟨a,e⟩
 ·cases h
theorem R7 (N:List Tx)(ar:Tx->Nat)(l:List RItem)(cs:List AV)(idn idi n:Nat)(x:RItem)(hR:RtL N ar l)(hE:EL (PI N) l cs)(hx:l[n]?=some x)(σ:St):ACalls Tryz.prog 181 [Bo N idn l idi cs,sc (.int .i64 n)] σ fun r σ'=>r=sc (.int .i64 (Lr N l n x.head.pred))/\Keep σ σ':=by
 have bh:=EL.length De hE;have av:=hR.gl.len;have hN:=hR.gl.nm;have a9:=fun y c (hy:PI N y c) (hm:y∈l) σ=>iL N l cs idn idi ((hR.gl.bkm hE).bk av) y c hy (hR.wi y hm) σ;have bf:n<l.length:=(List.getElem?_eq_some_iff.1 hx).1;obtain⟨a4,ihx,idx,bx,rx,bi,bg⟩:=En hE hx;have HB:Ajs (∀y∈l,y.body.length<=5/\y.head.pred∈N/\∀a∈y.body,y.out=false->a.pred∈N):=fun y hy=>⟨hR.b5 y hy,(hR.gl.msr y hy).mem,fun a ha ho=>((hR.ru y hy ho).body a ha).mem⟩;clear hR;refine Z9 52 [.tmp 4] Tryz.func181 ?_
 repeat' (first|refine Z1 ?_|(refine Z8 ?_;intro κ hκ)|(refine Z4 ?_;clear hκ κ)|(refine Z2 ?_ ?_<;>intro h ac<;>try exact Xp)|refine Z3 ?_|exact⟨⟩|(apply hκ.out;clear hκ κ))
 refine Af (fun m s σ'=>∃(i:Nat) (v:Int),m=l.length-i/\i<=l.length/\s 1=ic n/\s 2=ptr σ.nobj 0/\s 5=ic v/\s 9=sl idi l.length cs/\s 10=ic l.length/\s 11=ic i/\Keep σ σ'/\σ.nobj<σ'.nobj/\σ'.obj σ.nobj=[sl idn N.length (N.map str),sl idi l.length cs]/\Ajs ((Ks (l.take i) n x.head.pred=[]/\v= -1)\/∃y a,Ks (l.take i) n x.head.pred=[y]/\Lq y=true/\y.body=[a]/\v=((N.idxOf a.pred:Nat):Int))) l.length
  ⟨0,-1,Ajm,Ajm,by simp[upd,initS],Ajo,Ajo,Ajo,Ajo,Ajo,Xs,Ajq,Ap,.inl ⟨rfl,rfl⟩⟩ ?_
 rintro m s σ' ⟨i,v,rfl,hi,h1,h2,h5,h9,bb,ba,hK,be,a3,hA⟩;have bc:=hK.nobj;by_cases az:i<l.length
 ·have af:=List.getElem?_eq_getElem az;have ap:=Ah6 az;obtain⟨a8,aw,a7⟩:=HB.out l[i] ap;obtain⟨ay,ih,idb,b,r,am,hd⟩:=En hE af;have ah:=fun σ=>a9 l[i] _ (PI.of (ih:=ih) (id:=idb) ay am) ap σ;have aa:=sD (n:=n) (q:=x.head.pred) af;have ab:=xH l n x.head.pred (i+1);generalize l[i]=y at af ap a8 aw a7 ay am hd ah aa ab;have a5:=qC aw a4;have bl:=EL.length Dt am;clear af
  repeat' (first|refine Z1 ?_|(refine Z8 ?_;intro κ hκ)|(refine Z4 ?_;clear hκ κ)|(refine Z2 ?_ ?_<;>intro h ac<;>try exact Xp)|refine Z3 ?_|exact⟨⟩|(apply hκ.out;clear hκ κ))
  refine Bu (Q:=fun e s' σ''=>e= .normal/\s' 35=sc (.bool (!Ob n x.head.pred (y,i)))/\s' 1=ic n/\s' 2=ptr σ.nobj 0/\s' 5=ic v/\s' 7=ptr σ'.nobj 0/\s' 9=sl idi l.length cs/\s' 10=ic l.length/\s' 11=ic i/\σ''=(σ'.new [sc (.bool false),ic 0,nilS,nilS]).put σ'.nobj [sc (.bool y.out),sc (.int .i64 (N.idxOf y.head.pred:Nat)),sl ih y.head.terms.length (Aw y.head.terms),sl idb y.body.length b]) ?_ ?_
  ·have ax:((σ'.new [sc (.bool false),ic 0,nilS,nilS]).put σ'.nobj [sc (.bool y.out),sc (.int .i64 (N.idxOf y.head.pred:Nat)),sl ih y.head.terms.length (Aw y.head.terms),sl idb y.body.length b]).obj σ.nobj=[sl idn N.length (N.map str),sl idi l.length cs]:=by rw[Ai Ajm,Ag Ajm,a3]
   by_cases ai:i=n
   ·have ak:Ajs (Ob n x.head.pred (y,i)=false):=by simp[Ajs,Ob,ai]
    have a6:((i:Int)==(n:Int))=true:=by simp[ai]
    clear ai aa hA;refine A2 Aj (fun _=>True) [] [0,1,2,3,4,5,6,7,8,9,10,11,12,13,14,15,16,17,18,19] 0 #[true,true,true,true,true,true,true,true,true,true,true,true,true,true,true,true,true,true,true,true] Ajp (fun _ _ _ h=>by cases h.1) ?_;intro κ hκ;refine Z3 ?_;refine hκ.out _ ?_;clear hκ κ;exact A3 Ajp ⟨rfl,by rw[ak.out];simp[upd, *],Ajn,Ajn,Ajn,Ajn,Ajn,Ajn,Ajn,rfl⟩
   ·have a6:((i:Int)==(n:Int))=false:=by simp;omega
    cases ad:y.out with
    |true=>
     have ak:Ajs (Ob n x.head.pred (y,i)=false):=by simp[Ajs,Ob,Lg,ad]
     rw[ad]at ax;clear ai aa hA ad;refine A2 Aj (fun _=>True) [] [0,1,2,3,4,5,6,7,8,9,10,11,12,13,14,15,16,17,18,19] 0 #[true,true,true,true,true,true,true,true,true,true,true,true,true,true,true,true,true,true,true,true] Ajp (fun _ _ _ h=>by cases h.1) ?_;intro κ hκ;refine Z3 ?_;refine hκ.out _ ?_;clear hκ κ;exact A3 Ajp ⟨rfl,by rw[ak.out];simp[upd, *],Ajn,Ajn,Ajn,Ajn,Ajn,Ajn,Ajn,rfl⟩
    |false=>
     have ak:Ajs ((!Ob n x.head.pred (y,i))=!decide (y.head.pred=x.head.pred)):=by simp[Ajs,Ob,Lg,ad,ai]
     rw[ad]at ax;clear ai aa hA ad;refine A2 Aj (fun _=>True) [] [0,1,2,3,4,5,6,7,8,9,10,11,12,13,14,15,16,17,18,19] 0 #[true,true,true,true,true,true,true,true,true,true,true,true,true,true,true,true,true,true,true,true] Ajp (fun _ _ _ h=>by cases h.1) ?_;intro κ hκ;refine Z3 ?_;refine hκ.out _ ?_;clear hκ κ;exact A3 Ajp ⟨rfl,by rw[ak.out];simp[upd, *],Ajn,Ajn,Ajn,Ajn,Ajn,Ajn,Ajn,rfl⟩
  rintro e s' σ'' ⟨rfl,g35,g1,g2,g5,g7,g9,g10,g11,rfl⟩;clear h1 h2 h5 h9 bb ba a5;cases ae:Ob n x.head.pred (y,i)with
  |false=>
   rw[ae]at g35 aa;have HA:Ajs ((Ks (l.take (i+1)) n x.head.pred=[]/\v= -1)\/∃y a,Ks (l.take (i+1)) n x.head.pred=[y]/\Lq y=true/\y.body=[a]/\v=((N.idxOf a.pred:Nat):Int)):=by
    rw[Ajs,aa];simpa using hA.out
   clear aa ab hA ae ah;refine F4 g35 ?_
   repeat' (first|refine Z1 ?_|(refine Z8 ?_;intro κ hκ)|(refine Z4 ?_;clear hκ κ)|(refine Z2 ?_ ?_<;>intro h ac<;>try exact Xp)|refine Z3 ?_|exact⟨⟩|(apply hκ.out;clear hκ κ))
   refine⟨l.length-(i+1),Ajm,i+1,v,?_⟩
   ((repeat' with_reducible refine And.intro ?_ ?_)<;>first|exact Xq|exact (HA)|exact Xs)
  |true=>
   rw[ae]at g35 aa;simp only[if_true]at aa;have ad:y.out=false:=by
    unfold Ob Lg at ae;simp only[Ags,Ai5]at ae;exact ae.2.1
   refine E4 g35 ?_;by_cases hv:v= -1
   ·have au:Ks (l.take i) n x.head.pred=[]:=by
     rcases hA.out with⟨e,-⟩|⟨y,a,-,-,-,e⟩
     ·exact e
     ·omega
    rw[au,Ahq]at aa;subst hv;cases hs:Lq y with
    |false=>
     have HF:Ajs (Lr N l n x.head.pred= -1):=by
      obtain⟨r,e⟩:=ab;rw[aa]at e;unfold Lr Fj Ajs;rw[e];cases r with
      |nil=>simp[hs]
      |cons a r=>rfl
     rw[hs,ad]at ah;clear aa ab hA ae hs au
     repeat' (first|refine Z1 ?_|(refine Z8 ?_;intro κ hκ)|(refine Z4 ?_;clear hκ κ)|(refine Z2 ?_ ?_<;>intro h ac<;>try exact Xp)|(refine Z5 ?_;refine Xi (ah _) ?_;rintro _ _ ⟨rfl,an⟩;(have aj:=an.nobj))|refine Z3 ?_|exact⟨⟩|(apply hκ.out;clear hκ κ))
     exact⟨_,rfl,by rw[HF.out],Xs⟩
    |true=>
     obtain⟨a,ha⟩:=vW hs;have HA:Ajs ((Ks (l.take (i+1)) n x.head.pred=[]/\((N.idxOf a.pred:Nat):Int)= -1)\/∃y b,Ks (l.take (i+1)) n x.head.pred=[y]/\Lq y=true/\y.body=[b]/\((N.idxOf a.pred:Nat):Int)=((N.idxOf b.pred:Nat):Int)):=.inr ⟨y,a,aa,hs,ha,rfl⟩;obtain⟨bm,ia,ra,a0⟩:=Ml am (show y.body[0]?=some a by rw[ha];rfl);simp only[Ag7,List.drop_zero]at a0;have bn:0<y.body.length:=by rw[ha];simp
     rw[hs]at ah;rw[ad]at ah;subst a0;clear aa ab hA ae hs au ha am
     repeat' (first|refine Z1 ?_|(refine Z8 ?_;intro κ hκ)|(refine Z4 ?_;clear hκ κ)|(refine Z2 ?_ ?_<;>intro h ac<;>try exact Xp)|(refine Z5 ?_;refine Xi (ah _) ?_;rintro _ _ ⟨rfl,an⟩;(have aj:=an.nobj;have ao:=an.obj;simp only[Ab,Aa]at aj ao))|refine Z3 ?_|exact⟨⟩|(apply hκ.out;clear hκ κ))
     refine⟨l.length-(i+1),Ajm,i+1,((N.idxOf a.pred:Nat):Int),?_⟩
     ((repeat' with_reducible refine And.intro ?_ ?_)<;>first|exact Xq|exact (HA)|exact Xs)
   ·have bd:(v != -1)=true:=by simpa using hv
    have HF:Ajs (Lr N l n x.head.pred= -1):=by
     rcases hA.out with⟨-,e⟩|⟨z,a,e,-,-,-⟩
     ·exact absurd e hv
     ·obtain⟨r,e2⟩:=ab;rw[aa,e]at e2;unfold Lr Fj Ajs;rw[e2];rfl
    clear aa ab hA ae hv ah
    repeat' (first|refine Z1 ?_|(refine Z8 ?_;intro κ hκ)|(refine Z4 ?_;clear hκ κ)|(refine Z2 ?_ ?_<;>intro h ac<;>try exact Xp)|refine Z3 ?_|exact⟨⟩|(apply hκ.out;clear hκ κ))
    exact⟨_,rfl,by rw[HF.out],Xs⟩
 ·have hil:i=l.length:=Ajm;subst hil;have HF:Ajs (Lr N l n x.head.pred=v):=by
   have:=hA.out;rw[Agw]at this;unfold Lr Fj Ajs;rcases this with⟨e,rfl⟩|⟨y,a,e,e2,e3,rfl⟩
   ·rw[e]
   ·rw[e];simp only[e2,if_true,e3]
  clear hA
  repeat' (first|refine Z1 ?_|(refine Z8 ?_;intro κ hκ)|(refine Z4 ?_;clear hκ κ)|(refine Z2 ?_ ?_<;>intro h ac<;>try exact Xp)|refine Z3 ?_|exact⟨⟩|(apply hκ.out;clear hκ κ))
  first|exact⟨_,rfl,by rw[HF.out],hK⟩|exact⟨_,rfl,by rw[HF.out]⟩
theorem PS.down {lo lo' p:Nat}{σ:St}{x:AV}{n:Nat}{pc:List AV}(h:PS lo σ x n pc)(h1:lo'<=lo)(hp:p<lo)(c:List AV):PS lo' (σ.put p c) x n pc:=by
 rcases h.put hp c with h|⟨o,cap,e1,e2,e3,e4,e5,e6,e7⟩
 ·exact .inl h
 ·exact .inr ⟨o,cap,e1,e2,e3,e4,e5,Ajm,e7⟩
theorem sF (r:Dy)(c:List AV)(hc:Re false r c)(hr:R52 r)(σ:St):
  ACalls Tryz.prog 93 [ag c] σ fun x σ'=>(∃ih X xs,x=ag [sc (.bool false),ic (Ep r).head.p,sl ih (Ep r).head.ts.length (Ac (Ep r).head.ts),X]/\PS σ.nobj σ' X (Ep r).body.length xs/\EL Qf (Ep r).body xs)/\Keep σ σ':=by
 have a7:=fun σ=>K9 r c hc hr σ;have bc:=Ya hr;have bp:=hr.bl;obtain⟨ih,id,b,rfl,hb⟩:=hc;have bo:=EL.length Gs hb;unfold Ep;generalize Er r=lo at a7 bc;have a8:=fun ido σ=>M5 lo ido r.head.p ih r.head.ts Ajm (by have:=hr.h3;omega) σ;have a9:=fun ido (a:Lit) ia (ha:a∈r.body) σ=>M5 lo ido a.a.p ia a.a.ts Ajm (by have:=hr.b3 a ha;omega) σ;refine Z9 39 [.cell 2 125] Tryz.func93 ?_
 repeat' (first|refine Z1 ?_|(refine Z8 ?_;intro κ hκ)|(refine Z4 ?_;clear hκ κ)|(refine Z2 ?_ ?_<;>intro h af<;>try exact Xp)|(refine Z6 ?_;intro idn σn aw ak ai ad ah ac)|(refine Z5 ?_;refine Xi (a7 _) ?_;rintro _ _ ⟨⟨ido,rfl⟩,a3⟩;(have aj:=a3.obj;have ao:=a3.nobj;simp only[Aa]at ao))|refine Z3 ?_|exact⟨⟩|(apply hκ.out;clear hκ κ))
 rename_i σ1;have av:σ1.obj σ.nobj=[sc (.bool false),ic r.head.p,sl ih r.head.ts.length (Ac r.head.ts),sl id r.body.length b]:=by
  rw[aj _ Ajq,Ag Ajq,Ap]
 have au:σ1.obj (σ.nobj+1)=[sc (.bool false),ic 0,nilS,nilS]:=by
  rw[aj _ Ajq,Bt (by rw[Aa];omega) (by rw[Aa];omega)]
 have ay:Keep σ σ1:=Xs;clear aj a3;refine Bu (Q:=fun e s σ'=>e= .normal/\∃o i2:Nat,s 1=ptr σ.nobj 0/\s 2=ptr (σ.nobj+1) 0/\s 3=sl ido lo.length (Am lo)/\s 4=ptr o 0/\σ.nobj+1<o/\o<σ'.nobj/\σ'.obj σ.nobj=[sc (.bool false),ic r.head.p,sl ih r.head.ts.length (Ac r.head.ts),sl id r.body.length b]/\σ'.obj (σ.nobj+1)=[sc (.bool false),ic 0,nilS,nilS]/\σ'.obj o=[sc (.bool false),ic r.head.p,sl i2 r.head.ts.length (Ac (r.head.ts.map (Fl lo))),nilS]/\Keep σ σ') ?_ ?_
 ·refine A2 Aj (fun _=>True) [8] [0,1,2,3,4] 4 #[true,true,true,true,true,false,false,false,false] Ajp (fun _ _ _ h=>by cases h.1) ?_;intro κ hκ;refine Z3 ?_;refine hκ.out _ ?_;clear hκ κ;have ba:=fun σ=>a8 ido σ;refine Eg (rs:=[5,7]) Ajp (by simp) ?_;intro i hi;simp only[Ahm,Ah4,Ajl]at hi;rcases hi with rfl|rfl
  ·refine Ar ?_;intro κ hκ;refine Z3 ?_;refine ACalls.mono (ba _) ?_;rintro _ σ2 ⟨⟨i2,rfl⟩,ab⟩;have aa:=ab.obj;have an:=ab.nobj;refine Z3 ?_;refine hκ.out _ _ ⟨Aq ab,?_⟩;clear hκ κ;refine Eg (rs:=[6,7]) Ajp (by simp) ?_;intro i hi;simp only[Ahm,Ah4,Ajl]at hi;rcases hi with rfl|rfl
   ·refine Ar ?_;intro κ hκ;refine Z3 ?_;refine hκ.out _ _ ⟨Aq ab,?_⟩;clear hκ κ;refine Ao (i:=7) Ajp ?_;refine Ar ?_;intro κ hκ;refine Z3 ?_;refine hκ.out _ _ ⟨Aq (ab.new _),?_⟩;clear hκ κ;refine Ao (i:=8) Ajp ?_;refine Ar ?_;intro κ hκ;refine Z3 ?_;refine hκ.out _ _ ⟨Bs rfl,?_⟩;clear hκ κ;refine A3 Ajp ⟨rfl,σ2.nobj,i2,Ajo,Ajo,Ajo,Ajo,Ajm,Ajr,?_,?_,Ak,?_⟩
    ·rw[Ai Ajm,Ag Ajm,aa _ Ajm,av]
    ·rw[Ai Ajm,Ag Ajm,aa _ Ajm,au]
    ·exact ((ay.trans ab).new _).put Ajm _
   ·refine Ar ?_;intro κ hκ;refine Z3 ?_;refine hκ.out _ _ ⟨Aq (ab.new _),?_⟩;clear hκ κ;refine Ao (i:=6) Ajp ?_;refine Ar ?_;intro κ hκ;refine Z3 ?_;refine hκ.out _ _ ⟨Aq (ab.new _),?_⟩;clear hκ κ;refine Ao (i:=8) Ajp ?_;refine Ar ?_;intro κ hκ;refine Z3 ?_;refine hκ.out _ _ ⟨Bs rfl,?_⟩;clear hκ κ;refine A3 Ajp ⟨rfl,σ2.nobj,i2,Ajo,Ajo,Ajo,Ajo,Ajm,Ajr,?_,?_,Ak,?_⟩
    ·rw[Ai Ajm,Ag Ajm,aa _ Ajm,av]
    ·rw[Ai Ajm,Ag Ajm,aa _ Ajm,au]
    ·exact ((ay.trans ab).new _).put Ajm _
  ·refine Ar ?_;intro κ hκ;refine Z3 ?_;refine hκ.out _ _ ⟨Aq ((Keep.refl _).new _),?_⟩;clear hκ κ;refine Ao (i:=5) Ajp ?_;refine Ar ?_;intro κ hκ;refine Z3 ?_;refine ACalls.mono (ba _) ?_;rintro _ σ2 ⟨⟨i2,rfl⟩,ab⟩;have aa:=ab.obj;have an:=ab.nobj;simp only[Aa]at an;refine Z3 ?_;refine hκ.out _ _ ⟨Aq (((Keep.refl _).new _).trans ab),?_⟩;clear hκ κ;refine Ao (i:=6) Ajp ?_;refine Ar ?_;intro κ hκ;refine Z3 ?_;refine hκ.out _ _ ⟨Aq (((Keep.refl _).new _).trans ab),?_⟩;clear hκ κ;refine Ao (i:=8) Ajp ?_;refine Ar ?_;intro κ hκ;refine Z3 ?_;refine hκ.out _ _ ⟨Bs rfl,?_⟩;clear hκ κ;refine A3 Ajp ⟨rfl,σ1.nobj,i2,Ajo,Ajo,Ajo,Ajo,Ajm,Ajr,?_,?_,Ak,?_⟩
   ·rw[Ai Ajm,aa _ (by rw[Aa];omega),Ag Ajm,av]
   ·rw[Ai Ajm,aa _ (by rw[Aa];omega),Ag Ajm,au]
   ·exact ((ay.new _).trans ab).put Ajm _
 ·rintro e s σ2 ⟨rfl,o,i2,h1,h2,h3,h4,bn,bi,bb,az,ob,hK⟩;have a4:=hK.nobj;clear ay av au ao a8
  repeat' (first|refine Z1 ?_|(refine Z8 ?_;intro κ hκ)|(refine Z4 ?_;clear hκ κ)|(refine Z2 ?_ ?_<;>intro h af<;>try exact Xp)|(refine Z6 ?_;intro idn σn aw ak ai ad ah ac)|refine Z3 ?_|exact⟨⟩|(apply hκ.out;clear hκ κ))
  refine Af (fun m s σ'=>∃(k:Nat) (X:AV) (xs:List AV),m=r.body.length-k/\k<=r.body.length/\s 2=ptr (σ.nobj+1) 0/\s 3=sl ido lo.length (Am lo)/\s 4=ptr o 0/\s 18=sl id r.body.length b/\s 19=ic r.body.length/\s 20=ic k/\Keep σ σ'/\σ2.nobj<=σ'.nobj/\σ'.obj (σ.nobj+1)=[sc (.bool false),ic 0,nilS,nilS]/\σ'.obj o=[sc (.bool false),ic r.head.p,sl i2 r.head.ts.length (Ac (r.head.ts.map (Fl lo))),X]/\PS σ2.nobj σ' X k xs/\Ajs (EL Qf ((r.body.take k).map (reL lo)) xs)) r.body.length
   ⟨0,nilS,[],Ajm,Ajm,by simp[upd,h2],by simp[upd,h3],by simp[upd,h4],Ajo,Ajo,rfl,hK,Agi _,az,ob,.inl ⟨rfl,rfl,rfl⟩,rfl⟩ ?_
  clear h1 h2 h3 h4 bb az ob hK a4;rintro m s σ' ⟨k,X,xs,rfl,hk,h2,h3,h4,bu,br,bq,hK,bm,az,ob,hX,hE⟩;have a4:=hK.nobj;have bf:=hX.flat;by_cases a5:k<r.body.length
  ·have ae:=List.getElem?_eq_getElem a5;obtain⟨ia,rr,hd⟩:=Hl hb ae;have hR:=fun σ=>a9 ido r.body[k] ia (Ah6 a5) σ;generalize r.body[k]=a at hd ae hR;have HX:Ajs (∀i4,EL Qf ((r.body.take (k+1)).map (reL lo)) (xs++[sc (.bool a.neg),ic a.a.p,sl i4 a.a.ts.length (Ac (a.a.ts.map (Fl lo)))])):=fun i4=>by
    rw[Agz,ae,Aia,Ag1];exact EL.append hE.out (EL.single ⟨i4,by simp[reL,fN]⟩)
   clear ae hE a9
   repeat' (first|refine Z1 ?_|(refine Z8 ?_;intro κ hκ)|(refine Z4 ?_;clear hκ κ)|(refine Z2 ?_ ?_<;>intro h af<;>try exact Xp)|(refine Z6 ?_;intro idn σn aw ak ai ad ah ac)|(refine Z5 ?_;refine Xi (hR _) ?_;rintro _ _ ⟨⟨i4,rfl⟩,ax⟩;(have am:=ax.obj;have a0:=ax.nobj;simp only[Aa,Ab]at a0 am))|refine Z3 ?_|exact⟨⟩|(apply hκ.out;clear hκ κ))
   rename_i σ4;have bh:=((hK.new [sc (.bool false),ic 0,nilS]).put hK.nobj _).trans ax;refine qN (lo:=σ2.nobj) (σ0:=σ) (by first|exact El) (by rfl) (by rfl) (by rfl) Ajm Ajm (by simp only[Ah,Ab,Aa];omega) Ajm (((bh.new _).put Ajm _).lay 1) (hX.keep ((((((Keep.refl _).new _).put (Agi _) _).trans ax).new _).put Ajm _|>.lay 1)) ?_;intro X' σn a6 bd ap ak;simp only[Ah,Ab,Aa]at bd;have eob:∀p,p<σ2.nobj->σn.obj p=σ'.obj p:=fun p hp=>by rw[ap p hp,As,Ai Ajm,Ag Ajm,am _ Ajm,Ai Ajm,Ag Ajm]
   obtain⟨og,cg,rfl,-⟩:=a6.gx Ajm;clear ap hX;refine Z3 ?_
   repeat' (first|refine Z1 ?_|(refine Z8 ?_;intro κ hκ)|(refine Z4 ?_;clear hκ κ)|(refine Z2 ?_ ?_<;>intro h af<;>try exact Xp)|(refine Z6 ?_;intro idn σn aw ak ai ad ah ac)|refine Z3 ?_|exact⟨⟩|(apply hκ.out;clear hκ κ))
   refine⟨r.body.length-(k+1),Ajm,k+1,gx og (k+1) cg,xs++[sc (.bool a.neg),ic a.a.p,sl i4 a.a.ts.length (Ac (a.a.ts.map (Fl lo)))],?_⟩
   ((repeat' with_reducible refine And.intro ?_ ?_)<;>first|exact Xq|exact (ak.put Ajm _)|exact (a6.put Ajm _)|exact (HX.out i4)|exact Xs)
  ·have be:k=r.body.length:=Ajm;subst be;rw[Agw]at hE;have HP:Ajs (PS σ.nobj ((σ'.put (σ.nobj+1) [sc (.bool false),ic r.head.p,sl i2 r.head.ts.length (Ac (r.head.ts.map (Fl lo))),X])) X r.body.length xs):=hX.down Ajm Ajm _;have bg:X=nilS\/∃oc cc,X=gx oc r.body.length cc:=by
    rcases hX with⟨h,-⟩|⟨oc,cc,h,-⟩
    ·exact .inl h
    ·exact .inr ⟨oc,cc,h⟩
   clear hX bf;rcases bg with rfl|⟨oc,cc,rfl⟩
   all_goals
    repeat' (first|refine Z1 ?_|(refine Z8 ?_;intro κ hκ)|(refine Z4 ?_;clear hκ κ)|(refine Z2 ?_ ?_<;>intro h af<;>try exact Xp)|(refine Z6 ?_;intro idn σn aw ak ai ad ah ac)|refine Z3 ?_|exact⟨⟩|(apply hκ.out;clear hκ κ))
    exact⟨_,rfl,⟨i2,_,xs,by simp[fN];rfl,by simpa using HP.out,by simpa using hE.out⟩,hK.put Ajm _⟩
theorem qB {α β:Type}[BEq α][LawfulBEq α][BEq β][LawfulBEq β]{f:α->β}{t:α}:∀{l:List α},(∀u∈l,f u=f t->u=t)->(l.map f).idxOf (f t)=l.idxOf t
 |[],_=>rfl
 |a::l,h=>by
  rw[Ag5,List.idxOf_cons,List.idxOf_cons];by_cases e:a=t
  ·subst e;simp
  ·have e2:f a≠f t:=fun e2=>e (h a (by simp) e2);rw[show (f a==f t)=false by simpa using e2,show (a==t)=false by simpa using e,qB fun u hu=>h u (by simp[hu])]
def e2 (t:Tx):Int:=(Al t).2
theorem Ada {t u:Tx}(ht:UT t)(hu:UT u)(h1:Ad t=true)(h2:Ad u=true)(h:e2 t=e2 u):t=u:=tellU.inj t u ht hu (Prod.ext (by rw[Bp,Bp,h1,h2]) h)
theorem gN:∀{ts acc:List Tx},(∀t∈acc,UT t/\Ad t=true)->(∀t∈ts,UT t)->(ts.map Al).foldl vF (acc.map e2)=(Hn acc ts).map e2
 |[],_,_,_=>rfl
 |t::ts,acc,ha,ht=>by
  have hu:=ht t (by simp);have e:vF (acc.map e2) (Al t)=(F1 acc t).map e2:=by
   unfold vF F1;rw[Bp];by_cases hv:Ad t=true
   ·by_cases hm:t∈acc
    ·rw[if_neg fun h=>h.2 (Ahv.2 ⟨t,hm,rfl⟩),if_neg fun h=>h.2 hm]
    ·rw[if_pos ⟨hv,fun h=>by
      obtain⟨u,ab,e⟩:=Ahv.1 h
      exact hm (by rw[<-Ada (ha u ab).1 hu (ha u ab).2 hv e];exact ab)⟩,if_pos ⟨hv,hm⟩]
     simp[e2]
   ·rw[if_neg fun h=>hv h.1,if_neg fun h=>hv h.1]
  rw[Ag5,Agv,e];show _=(Hn (F1 acc t) ts).map e2;refine gN (fun u aa=>?_) fun u aa=>ht u (by simp[aa]);unfold F1 at aa;split at aa
  ·rename_i hc;rcases Ahs.1 aa with h|h
   ·exact ha u h
   ·simp at h;subst h;exact⟨hu,hc.1⟩
  ·exact ha u aa
theorem xM {N:List Tx}{x:RItem}(ho:x.out=false)(hx:Cl x)(hu:∀a∈Ae x,∀t∈a.terms,UT t):Ep (A4 N x)=A4 N (ren x):=by
 have ab:Ae x=x.head::x.body:=by simp[Ae,ho]
 have ac:Er (A4 N x)=(A5 x).map e2:=by
  have e:(G5 (A4 N x)).flatMap (·.ts)=((Ae x).flatMap (·.terms)).map Al:=by
   rw[ab];simp[G5,A4,Ca,Dq,List.flatMap_map,List.map_flatMap]
  unfold Er Cc A5;rw[e];refine gN (acc:=[]) (fun t ht=>by cases ht) fun t ht=>?_;obtain⟨a,ha,aa⟩:=Ahr.1 ht;exact hu a ha t aa
 have hL:∀v∈A5 x,UT v/\Ad v=true:=fun v hv=>by
  obtain⟨h1,-⟩:=Mv ((Ae x).flatMap (·.terms)) [] (fun v hv=>by cases hv) Aii;obtain⟨h2,h3⟩:=h1 v hv;rcases h3 with h3|h3
  ·cases h3
  ·obtain⟨a,ha,aa⟩:=Ahr.1 h3;exact⟨hu a ha v aa,h2⟩
 have key:∀a∈Ae x,fN (Er (A4 N x)) (Ca N a)=Ca N (Ct (A5 x) a):=fun a ha=>by
  unfold fN Ca Ct;simp only[Ag2];congr 1;refine Ahx fun t ht=>?_;have ad:=hu a ha t ht;show Fl (Er (A4 N x)) (Al t)=Al (Gt (A5 x) t);rw[Aet ad.1 (fun hv=>Mu hx ha ht hv)];unfold Fl;rw[Bp];congr 1;by_cases hv:Ad t=true
  ·have hm:t∈A5 x:=Pp _ _ _ (.inr ⟨Ahr.2 ⟨a,ha,ht⟩,hv⟩);have af:(Al t).2∈Er (A4 N x):=by rw[ac];exact Ahv.2 ⟨t,hm,rfl⟩
   have hi:(Er (A4 N x)).idxOf (Al t).2=(A5 x).idxOf t:=by
    rw[ac];exact qB fun u ae e=>Ada (hL u ae).1 ad (hL u ae).2 hv e
   rw[if_pos hv,if_pos hv,lR,if_pos af,Bz,if_pos hm,hi]
  ·rw[if_neg hv,if_neg hv]
 unfold Ep;have e1:fN (Er (A4 N x)) (A4 N x).head=Ca N (Ct (A5 x) x.head):=key x.head (by rw[ab];simp);have e3:(A4 N x).body.map (reL (Er (A4 N x)))=(x.body.map (Ct (A5 x))).map (Dq N):=by
  show (x.body.map (Dq N)).map _=_;rw[Ag2,Ag2];refine Ahx fun a ha=>?_;show (⟨a.nt,fN (Er (A4 N x)) (Ca N a)⟩:Lit)=⟨a.nt,Ca N (Ct (A5 x) a)⟩;rw[key a (by rw[ab];simp[ha])]
 rw[e1,e3];rfl
theorem Adb {y z:RItem}(hy:Cl y)(hz:Cl z)(h:Be y++[46]=Be z++[46]):y=z:=by
 have e:Be y=Be z:=List.append_cancel_right h;have h1:=(L4 hy).1;rw[e,(L4 hz).1]at h1;exact h1.symm
def Db (p q:Tx):RItem:=⟨false,⟨false,p,[[65],[66]]⟩,[⟨false,q,[[65],[67]]⟩,⟨false,p,[[67],[66]]⟩]⟩
def Uj (p e:Tx):RItem:=⟨false,⟨false,p,[[65],[66]]⟩,[⟨false,e,[[65],[66]]⟩]⟩
theorem Ac9 {b:UInt8}(h:Bm b.toNat=true):Nt [b]:=⟨by simp,fun c hc=>by simp at hc;subst hc;exact .inl h⟩
theorem uJ {p:Tx}(h:Ke p){n:Bool}{b c:UInt8}(hb:Bm b.toNat=true)(hc:Bm c.toNat=true):D2 ⟨n,p,[[b],[c]]⟩:=⟨h,by simp,by simp,fun t ht=>by
 simp only[Ahm,Ah4,Ajl]at ht;rcases ht with rfl|rfl
 ·exact Ac9 hb
 ·exact Ac9 hc⟩
theorem Afy {p q:Tx}(hp:Ke p)(hq:Ke q):Cl (Db p q):=⟨hp,(fun e=>by cases e),fun _=>⟨uJ hp rfl rfl,rfl,by simp[Db],fun a ha=>by
 simp only[Db,Ahm,Ah4,Ajl]at ha;rcases ha with rfl|rfl
 ·exact uJ hq rfl rfl
 ·exact uJ hp rfl rfl⟩⟩
theorem Afk {p q:Tx}(hp:Ke p)(hq:Ke q):Cl (Uj p q):=⟨hp,(fun e=>by cases e),fun _=>⟨uJ hp rfl rfl,rfl,by simp[Uj],fun a ha=>by
 simp only[Uj,Ahm,Ah4,Ajl]at ha;subst ha
 exact uJ hq rfl rfl⟩⟩
theorem P9 {N:List Tx}{x:RItem}(hw:Cl x)(hi:WI N x)(h:Nk x=true):ren x=Db x.head.pred x.head.pred:=by
 unfold Nk at h;rw[Ajk,Qg hw]at h;exact Adb (Mp hw hi) (Afy hw.1 hw.1) (by rw[h];simp[Acm,Be,Db,Di,A7,Bl,B6,B9])
theorem pK {N:List Tx}{x:RItem}{a:RAtom}(hw:Cl x)(hi:WI N x)(hb:x.body=[a])(h:Lq x=true):ren x=Uj x.head.pred a.pred:=by
 have ho:x.out=false:=by
  cases ho:x.out with
  |false=>rfl
  |true=>rw[(hw.2.1 ho).2.2]at hb;cases hb
 unfold Lq at h;rw[hb]at h;simp only[Ags,Ajk]at h;rw[Qg hw]at h;exact Adb (Mp hw hi) (Afk hw.1 ((hw.2.2 ho).2.2.2 a (by rw[hb];simp)).1) (by rw[h.2];simp[vX,Be,Uj,Di,A7,Bl,B6,B9])
theorem Adn {N:List Tx}{b:RAtom}(hN:b.pred∈N)(hu:∀t∈b.terms,UT t):Mh N b.nt (Ca N b)=b:=by
 obtain⟨n,p,ts⟩:=b;unfold Mh Ca;have aa:=Ah9 hN;simp only[Ai4,List.getElem?_eq_getElem aa,Ah8,Aiy,Ag2];congr 1
 conv=>rhs;rw[<-Ahw ts]
 exact Ahx fun t ht=>(hu t ht).dec.1
theorem bW {N:List Tx}{x:RItem}(ho:x.out=false)(hn:x.head.nt=false)(h:∀a∈Ae x,a.pred∈N/\∀t∈a.terms,UT t):Cy N (A4 N x)=x:=by
 obtain⟨o,hd,bd⟩:=x;have ho:o=false:=ho;subst ho;have aa:∀a,a=hd\/a∈bd->a∈Ae ⟨false,hd,bd⟩:=fun a ha=>by simpa[Ae]using ha
 have h1:=h hd (aa hd (.inl rfl));have e1:=Adn h1.1 h1.2;have hn:hd.nt=false:=hn;rw[hn]at e1;unfold Cy A4;simp only[e1,Ag2];congr 1
 conv=>rhs;rw[<-Ahw bd]
 exact Ahx fun a ha=>Adn (h a (aa a (.inr ha))).1 (h a (aa a (.inr ha))).2
theorem Tn {k:Nat}(h:k<26)(b:UInt8)(hb:b=Jp k):UT [b]:=by rw[hb];exact (kN h).1
theorem mF {p q:Tx}:∀a∈Ae (Db p q),a.terms.length=2/\(a.pred=p\/a.pred=q)/\∀t∈a.terms,UT t:=by
 have hA:=Tn (k:=0) (by decide) 65 rfl;have hB:=Tn (k:=1) (by decide) 66 rfl;have hC:=Tn (k:=2) (by decide) 67 rfl;intro a ha;simp only[Ae,Db,Ahg,if_false,List.singleton_append,Ahm,Ah4,Ajl]at ha;rcases ha with rfl|rfl|rfl<;>simp[hA,hB,hC]
theorem xW {N:List Tx}{ar:Tx->Nat}{p q:Tx}(hp:p∈N)(hq:q∈N)(gp:QNm p)(gq:QNm q)(ap:ar p=2)(aq:ar q=2):RuO N ar (A4 N (Db p q))/\Cy N (A4 N (Db p q))=Db p q:=by
 have hm:∀a∈Ae (Db p q),a.pred∈N/\QNm a.pred/\ar a.pred=2:=fun a ha=>by
  rcases (mF a ha).2.1 with e|e<;>rw[e]
  ·exact⟨hp,gp,ap⟩
  ·exact⟨hq,gq,aq⟩
 have key:∀a∈Ae (Db p q),AtO N ar (Ca N a):=fun a ha=>by
  obtain⟨h1,h2,h3⟩:=mF a ha;obtain⟨g1,g2,g3⟩:=hm a ha
  exact⟨⟨a.pred,g1,rfl,g2,by simp[Ca,h1,g3]⟩,by simp[Ca,h1],by simp[Ca,h1],fun t ht=>by
   obtain⟨u,hu,rfl⟩:=Ahv.1 ht
   exact⟨u,h3 u hu,rfl⟩⟩
 refine⟨⟨key _ (Au (.inl ⟨rfl,rfl⟩)),fun l hl=>?_⟩,bW rfl rfl fun a ha=>⟨(hm a ha).1,(mF a ha).2.2⟩⟩;obtain⟨a,ha,rfl⟩:=Ahv.1 hl;exact key a (Au (.inr ha))
theorem Il {N:List Tx}{ar:Tx->Nat}{l:List RItem}(hR:RtL N ar l){i:Nat}{x:RItem}(hx:l[i]?=some x)(ha:Nk x=true):x.out=false/\x.body.length=2/\x.head.pred∈N/\QNm x.head.pred/\ar x.head.pred=2:=by
 have hm:=Agp hx;have hr:=P9 (hR.wit x hm) (hR.wi x hm) ha;have ho:x.out=false:=congrArg RItem.out hr;have h1:x.body.length=2:=by have:=congrArg (fun y=>y.body.length) hr;simpa[ren,Db]using this
 have h2:x.head.terms.length=2:=by have:=congrArg (fun y=>y.head.terms.length) hr;simpa[ren,Db,Ct]using this
 have hI:=(hR.ru x hm ho).head;exact⟨ho,h1,hI.mem,⟨(hR.wit x hm).1,(hR.gl.msr x hm).hpl⟩,by rw[<-hI.len,h2]⟩
theorem Uk {N:List Tx}{ar:Tx->Nat}{l:List RItem}(hR:RtL N ar l){i:Nat}{p e:Tx}(h:Fj l i p=some e):e∈N/\QNm e/\ar e=2:=by
 unfold Fj at h;split at h
 case h_2=>cases h
 rename_i y ho;split at h
 case isFalse=>cases h
 rename_i hs;split at h
 case h_2=>cases h
 rename_i a hb;cases h;have ab:y∈Ks l i p:=by rw[ho];simp
 obtain⟨⟨z,j⟩,hz,rfl⟩:=Ahv.1 ab;obtain⟨ae,aa⟩:=Aip.1 hz;have hm:z∈l:=List.fst_mem_of_mem_zipIdx ae;have ad:z.out=false:=by
  unfold Ob Lg at aa;simp only[Ags,Ai5]at aa;exact aa.2.1
 have ac:a∈z.body:=by rw[show z.body=[a]from hb];simp
 have hr:=pK (hR.wit z hm) (hR.wi z hm) hb hs;have h2:a.terms.length=2:=by
  have:=congrArg (fun y:RItem=>y.body.map fun b=>b.terms.length) hr;simpa[ren,Uj,Ct,show z.body=[a]from hb]using this
 have hI:=(hR.ru z hm ad).body a ac;exact⟨hI.mem,⟨((hR.wit z hm).2.2 ad).2.2.2 a ac|>.1,((hR.gl.msr z hm).at_ a (Au (.inr ac))).2.1⟩,by rw[<-hI.len,h2]⟩
def W3 (N:List Tx)(l:List RItem)(i:Nat):Bool:=match l[i]? with
 |some x=>Nk x&&(match Fj l i x.head.pred with
  |some e=>Cz N l (Cp i [Db x.head.pred e] l)
  |none=>false)
 |none=>false
def chL (N:List Tx)(l:List RItem)(idn:Nat)(x:AV)(b:Bool):Prop:=
 (b=false/\∀i,i<l.length->W3 N l i=false)\/(b=true/\∃i y e,l[i]?=some y/\Nk y=true/\Fj l i y.head.pred=some e/\W3 N l i=true/\(∀j,j<i->W3 N l j=false)/\∃id c',x=Bo N idn (Cp i [Db y.head.pred e] l) id c'/\EL (PI N) (Cp i [Db y.head.pred e] l) c')
theorem xX {N:List Tx}{ar:Tx->Nat}{l:List RItem}(hR:RtL N ar l){i:Nat}{x:RItem}{e:Tx}(hx:l[i]?=some x)(ha:Nk x=true)(he:Fj l i x.head.pred=some e):GdI N ar [Db x.head.pred e]:=fun y hy _=>by
 simp at hy;subst hy;obtain⟨-,-,h1,h2,h3⟩:=Il hR hx ha;obtain⟨g1,g2,g3⟩:=Uk hR he;obtain⟨k1,k2⟩:=xW h1 g1 h2 g2 h3 g3;exact⟨_,k2.symm,k1,by simp[A4,Db]⟩
theorem sS {N:List Tx}{ar:Tx->Nat}{l:List RItem}(hR:RtL N ar l){i:Nat}{x:RItem}{e:Tx}(hx:l[i]?=some x)(ha:Nk x=true)(he:Fj l i x.head.pred=some e){ih ib:Nat}{xs:List AV}(h:EL Qf (Ep (A4 N x)).body xs):PI N (Db x.head.pred e) [sc (.bool false),ic (Ep (A4 N x)).head.p,sl ih (Ep (A4 N x)).head.ts.length (Ac (Ep (A4 N x)).head.ts),sl ib 2 (xs.set 1 (ic (N.idxOf e:Nat)))]:=by
 have hm:=Agp hx;obtain⟨ho,-,h1,h2,h3⟩:=Il hR hx ha;obtain⟨g1,g2,g3⟩:=Uk hR he;rw[xM ho (hR.wit x hm) (fun a ha=>((hR.gl.msr x hm).at_ a ha).2.2),P9 (hR.wit x hm) (hR.wi x hm) ha]at h⊢;refine kA h1 (fun a ha=>?_) ?_
 ·simp only[Db,Ahm,Ah4,Ajl]at ha;rcases ha with rfl|rfl
  ·exact g1
  ·exact h1
 ·obtain⟨c1,d1,⟨j1,rfl⟩,⟨c2,d2,⟨j2,rfl⟩,e2,rfl⟩,rfl⟩:=h;have e2:d2=[]:=e2;subst e2;exact⟨ih,ib,_,rfl,⟨_,_,⟨j1,rfl⟩,⟨_,_,⟨j2,rfl⟩,rfl,rfl⟩,rfl⟩⟩
theorem R3 (N:List Tx)(ar:Tx->Nat)(l:List RItem)(cs:List AV)(idn idi:Nat)(hR:RtL N ar l)(hE:EL (PI N) l cs)(σ:St):
  ACalls Tryz.prog 128 [Bo N idn l idi cs] σ fun r σ'=>(∃x b,r=tp [x,sc (.bool b)]/\chL N l idn x b/\jX x)/\Keep σ σ':=by
 have hG:=hR.gl;have da:=EL.length De hE;have bn:=hG.len;have ck:=(hG.bkm hE).bk bn;have HB:Ajs (BkM N l cs):=hG.bkm hE;have c5:Ajs (EL (PJ N) l cs):=Ow hE fun x hx c hc=>.inl ⟨hc,hG.msr x hx⟩;have HR:Ajs (RtL N ar l):=hR;have b1:=fun x c (hx:PI N x c) (hm:x∈l) σ=>We N l cs idn idi ck x c hx (hR.wi x hm) σ;have bv:=fun i x (hx:l[i]?=some x) σ=>R7 N ar l cs idn idi i x hR hE hx σ;clear hG hR ck;refine Z9 51 [.cell 2 62,.tmp 3] Tryz.func128 ?_
 repeat' (first|refine Z1 ?_|(refine Z8 ?_;intro κ hκ)|(refine Z4 ?_;clear hκ κ)|(refine Z2 ?_ ?_<;>intro h ad<;>try exact Xp)|refine Z3 ?_|exact⟨⟩|(apply hκ.out;clear hκ κ))
 refine Af (fun m s σ'=>∃(i:Nat),m=l.length-i/\i<=l.length/\s 1=ptr σ.nobj 0/\s 2=ptr (σ.nobj+1) 0/\s 12=sl idi l.length cs/\s 13=sc (.int .i64 l.length)/\s 14=sc (.int .i64 i)/\Keep σ σ'/\σ.nobj+1<σ'.nobj/\σ'.obj σ.nobj=[sl idn N.length (N.map str),sl idi l.length cs]/\σ'.obj (σ.nobj+1)=[nilS,nilS]/\Ajs (∀j,j<i->W3 N l j=false)) l.length
  ⟨0,Ajm,Ajm,Ajo,Ajo,Ajo,Ajo,rfl,Xs,Ajq,by rw[Ag Ajq,Ap],by first|exact Ap|simp[Ap],fun j h=>Ajm⟩ ?_
 rintro m s σ' ⟨i,rfl,hi,h1,h2,cy,cx,cw,hK,c9,b6,b5,hA⟩;have c8:=hK.nobj;by_cases ce:i<l.length
 ·have aa:=List.getElem?_eq_getElem ce;have ay:=Ah6 ce;obtain⟨cd,ih,idb,b,r,br,hd⟩:=En hE aa;generalize l[i]=x at hd aa cd br ay;have db:=EL.length Dt br;have a4:=PI.of (ih:=ih) (id:=idb) cd br;have ap:=fun σ=>b1 x _ a4 ay σ;have ax:=fun σ=>bv i x aa σ;have av:Ajs (W3 N l i=false->∀j,j<i+1->W3 N l j=false):=fun hf j hj=>by
   rcases Agl j i with h|h
   ·exact hA.out j h
   ·rw[show j=i by omega,hf]
  have ai:W3 N l i=(Nk x&&(match Fj l i x.head.pred with|some e=>Cz N l (Cp i [Db x.head.pred e] l)|none=>false)):=by unfold W3;rw[aa]
  cases ha:Nk x with
  |false=>
   have a7:Ajs (∀j,j<i+1->W3 N l j=false):=av.out (by rw[ai,ha];rfl);rw[ha]at ap;clear ai av hA ha ax aa a4
   repeat' (first|refine Z1 ?_|(refine Z8 ?_;intro κ hκ)|(refine Z4 ?_;clear hκ κ)|(refine Z2 ?_ ?_<;>intro h ad<;>try exact Xp)|(refine Z5 ?_;refine Xi (ap _) ?_;rintro _ _ ⟨rfl,af⟩;(have ae:=af.nobj;have ac:=af.obj;simp only[Ab,Aa]at ae ac))|refine Z3 ?_|exact⟨⟩|(apply hκ.out;clear hκ κ))
   refine⟨l.length-(i+1),Ajm,i+1,?_⟩
   ((repeat' with_reducible refine And.intro ?_ ?_)<;>first|exact Xq|exact (a7)|exact Xs)
  |true=>
   rw[ha]at ap ai;cases hs:Fj l i x.head.pred with
   |none=>
    have a7:Ajs (∀j,j<i+1->W3 N l j=false):=av.out (by rw[ai,hs];rfl);have e1:Lr N l i x.head.pred= -1:=by unfold Lr;rw[hs]
    rw[e1]at ax;clear ai av hA ha hs e1 aa a4
    repeat' (first|refine Z1 ?_|(refine Z8 ?_;intro κ hκ)|(refine Z4 ?_;clear hκ κ)|(refine Z2 ?_ ?_<;>intro h ad<;>try exact Xp)|(refine Z5 ?_;first|(refine Xi (ap _) ?_;rintro _ _ ⟨rfl,af⟩;(have ae:=af.nobj;have ac:=af.obj;simp only[Ab,Aa]at ae ac))|(refine Xi (ax _) ?_;rintro _ _ ⟨rfl,an⟩;(have bf:=an.nobj;have ah:=an.obj)))|refine Z3 ?_|exact⟨⟩|(apply hκ.out;clear hκ κ))
    refine⟨l.length-(i+1),Ajm,i+1,?_⟩
    ((repeat' with_reducible refine And.intro ?_ ?_)<;>first|exact Xq|exact (a7)|exact Xs)
   |some e=>
    rw[hs]at ai;simp only[Ahy]at ai;have e1:Lr N l i x.head.pred=((N.idxOf e:Nat):Int):=by unfold Lr;rw[hs]
    rw[e1]at ax;have a8:=(Il HR.out aa ha).1;have cf:=(Il HR.out aa ha).2.1;have ab:=fun (ih ib:Nat) (xs:List AV) (h:EL Qf (Ep (A4 N x)).body xs)=>sS HR.out aa ha hs (ih:=ih) (ib:=ib) h;have bb:=xX HR.out aa ha hs;have HC:Ajs (∀id c' x',W3 N l i=true->x'=Bo N idn (Cp i [Db x.head.pred e] l) id c'->EL (PI N) (Cp i [Db x.head.pred e] l) c'->chL N l idn x' true):=fun id c' x' ho bg bq=>.inr ⟨rfl,i,x,e,aa,ha,hs,ho,hA.out,id,c',bg,bq⟩;have bz:=Aaj a4;rw[a8]at bz;have a9:=fun σ=>sF (A4 N x) _ bz (nO (HR.out.ru x ay a8) (HR.out.gl.msr x ay) a8 (HR.out.wit x ay)).r52 σ;have b0:(Ep (A4 N x)).body.length=2:=by simp[Ep,A4,cf]
    have a3:=fun co ido (h:EL (PJ N) [Db x.head.pred e] co) σ=>Ly (E:=PJ N) Aah N l [Db x.head.pred e] cs co idn idi ido i c5.out h Ajm (by simp) σ;have ao:=fun c' id' (h:EL (PJ N) (Cp i [Db x.head.pred e] l) c') σ=>Hu N l (Cp i [Db x.head.pred e] l) cs c' idn idi id' HB.out (Adl HR.out bb (by simp) i h) σ;have au:Ajs (∀c',Cz N l (Cp i [Db x.head.pred e] l)=true->EL (PJ N) (Cp i [Db x.head.pred e] l) c'->EL (PI N) (Cp i [Db x.head.pred e] l) c'):=fun c' hb h=>by
     unfold Cz at hb;simp only[Ags]at hb;exact Ow h fun y hy c hc=>(hc.pi ((Qz hb.1).2 y hy)).1
    have b4:Ajs (∀c,PI N (Db x.head.pred e) c->PJ N (Db x.head.pred e) c):=fun c hc=>.inl ⟨hc,by
     obtain⟨r,h1,h2,h3⟩:=bb (Db x.head.pred e) (by simp) (by simp[Db])
     rw[h1];exact h2.msr Ajm⟩
    rw[<-ai]at ao au;simp only[Ah1]at a3;generalize Db x.head.pred e=V at ab bb HC a3 ao au b4;generalize Cp i [V] l=W at HC a3 ao au;generalize Ep (A4 N x)=O at ab a9 b0;rw[b0]at a9;have cn:Ajs _:=ab;rw[a8]at ap hd;clear ai hA ha hs e1 aa a4 ab bb bz b0 cf
    repeat' (first|refine Z1 ?_|(refine Z8 ?_;intro κ hκ)|(refine Z4 ?_;clear hκ κ)|(refine Z2 ?_ ?_<;>intro h ad<;>try exact Xp)|(refine Z5 ?_;first|(refine Xi (ap _) ?_;rintro _ _ ⟨rfl,af⟩;(have ae:=af.nobj;have ac:=af.obj;simp only[Ab,Aa]at ae ac))|(refine Xi (ax _) ?_;rintro _ _ ⟨rfl,an⟩;(have bf:=an.nobj;have ah:=an.obj)))|refine Z3 ?_|exact⟨⟩|(apply hκ.out;clear hκ κ))
    refine ACalls.mono (a9 _) ?_;rintro _ σ4 ⟨⟨jh,X,xs,rfl,cg,cj⟩,ba⟩;obtain⟨o,cap,rfl,cr,ct,bo,cu,b8⟩:=cg.gx Ajm;have cp:=ba.nobj;have ak:=ba.obj;refine Z3 ?_;refine hκ.out _ _ ?_;clear hκ κ;refine cQ ?_;have bw:Keep σ ((σ4.new [sc (.bool false),ic 0,nilS,nilS]).put σ4.nobj [sc (.bool false),ic O.head.p,sl jh O.head.ts.length (Ac O.head.ts),gx o 2 cap]):=((((((hK.new _).put hK.nobj _).trans af).trans an).trans ba).new _).put Ajm _;have ca:((σ4.new [sc (.bool false),ic 0,nilS,nilS]).put σ4.nobj [sc (.bool false),ic O.head.p,sl jh O.head.ts.length (Ac O.head.ts),gx o 2 cap]).obj o=σ4.obj o:=by rw[Ai Ajm,Ag Ajm]
    have bh:((σ4.new [sc (.bool false),ic 0,nilS,nilS]).put σ4.nobj [sc (.bool false),ic O.head.p,sl jh O.head.ts.length (Ac O.head.ts),gx o 2 cap]).obj σ4.nobj=[sc (.bool false),ic O.head.p,sl jh O.head.ts.length (Ac O.head.ts),gx o 2 cap]:=Ak;have b3:((σ4.new [sc (.bool false),ic 0,nilS,nilS]).put σ4.nobj [sc (.bool false),ic O.head.p,sl jh O.head.ts.length (Ac O.head.ts),gx o 2 cap]).obj σ.nobj=[sl idn N.length (N.map str),sl idi l.length cs]:=by
     rw[Ai Ajm,Ag Ajm,ak _ Ajm,ah _ Ajm,ac _ Ajm,Ai Ajm,Ag Ajm,b6]
    have b2:((σ4.new [sc (.bool false),ic 0,nilS,nilS]).put σ4.nobj [sc (.bool false),ic O.head.p,sl jh O.head.ts.length (Ac O.head.ts),gx o 2 cap]).obj (σ.nobj+1)=[nilS,nilS]:=by
     rw[Ai Ajm,Ag Ajm,ak _ Ajm,ah _ Ajm,ac _ Ajm,Ai Ajm,Ag Ajm,b5]
    have cb:σ4.nobj<((σ4.new [sc (.bool false),ic 0,nilS,nilS]).put σ4.nobj [sc (.bool false),ic O.head.p,sl jh O.head.ts.length (Ac O.head.ts),gx o 2 cap]).nobj:=Ajr;generalize (σ4.new [sc (.bool false),ic 0,nilS,nilS]).put σ4.nobj [sc (.bool false),ic O.head.p,sl jh O.head.ts.length (Ac O.head.ts),gx o 2 cap]=A at bw ca bh b3 b2 cb;have bp:1<(σ4.obj o).length:=Ajm;have bi:o≠σ4.nobj:=Ajm;have bm:o≠σ.nobj:=Ajm;have bl:o≠σ.nobj+1:=Ajm;refine Bu (Q:=fun e' s' σ''=>e'= .normal/\s' 1=ptr σ.nobj 0/\s' 2=ptr (σ.nobj+1) 0/\s' 4=ic i/\s' 7=ptr σ4.nobj 0/\s' 12=sl idi l.length cs/\s' 13=ic l.length/\s' 14=ic i/\σ''=A.put o ((σ4.obj o).set 1 (ic (N.idxOf e:Nat)))) ?_ ?_
    ·repeat' (first|refine Z1 ?_|(refine Z8 ?_;intro κ hκ)|(refine Z4 ?_;clear hκ κ)|(refine Z2 ?_ ?_<;>intro h ad<;>try exact Xp)|refine Z3 ?_|exact⟨⟩|(apply hκ.out;clear hκ κ))
    rintro e' s' σ'' ⟨rfl,g1,g2,g4,g7,g12,g13,g14,rfl⟩;have a0:(A.put o ((σ4.obj o).set 1 (ic (N.idxOf e:Nat)))).obj σ4.nobj=[sc (.bool false),ic O.head.p,sl jh O.head.ts.length (Ac O.head.ts),gx o 2 cap]:=by rw[Cn bi.symm,bh]
    refine V9 (o:=o) (p:=σ4.nobj) (j:=3) (k:=6) (by simp only[Ab];omega) (by simp only[Ab];omega) bi a0 rfl (by rw[Ak,Ai8];omega) ?_;have az:((A.put o ((σ4.obj o).set 1 (ic (N.idxOf e:Nat)))).obj o).take 6=xs.set 1 (ic (N.idxOf e:Nat)):=by rw[Ak,List.take_set,b8]
    rw[az];have ci:Keep σ (((A.put o ((σ4.obj o).set 1 (ic (N.idxOf e:Nat)))).put o []).put σ4.nobj ([sc (.bool false),ic O.head.p,sl jh O.head.ts.length (Ac O.head.ts),gx o 2 cap].set 3 (sl 0 2 (xs.set 1 (ic (N.idxOf e:Nat)))))):=((bw.put Ajm _).put Ajm _).put Ajm _;have b9:(((A.put o ((σ4.obj o).set 1 (ic (N.idxOf e:Nat)))).put o []).put σ4.nobj ([sc (.bool false),ic O.head.p,sl jh O.head.ts.length (Ac O.head.ts),gx o 2 cap].set 3 (sl 0 2 (xs.set 1 (ic (N.idxOf e:Nat)))))).obj σ4.nobj=[sc (.bool false),ic O.head.p,sl jh O.head.ts.length (Ac O.head.ts),sl 0 2 (xs.set 1 (ic (N.idxOf e:Nat)))]:=Ak;have cz:(((A.put o ((σ4.obj o).set 1 (ic (N.idxOf e:Nat)))).put o []).put σ4.nobj ([sc (.bool false),ic O.head.p,sl jh O.head.ts.length (Ac O.head.ts),gx o 2 cap].set 3 (sl 0 2 (xs.set 1 (ic (N.idxOf e:Nat)))))).obj σ.nobj=[sl idn N.length (N.map str),sl idi l.length cs]:=by
     rw[Cn Ajm,Cn bm.symm,Cn bm.symm,b3]
    have cv:(((A.put o ((σ4.obj o).set 1 (ic (N.idxOf e:Nat)))).put o []).put σ4.nobj ([sc (.bool false),ic O.head.p,sl jh O.head.ts.length (Ac O.head.ts),gx o 2 cap].set 3 (sl 0 2 (xs.set 1 (ic (N.idxOf e:Nat)))))).obj (σ.nobj+1)=[nilS,nilS]:=by
     rw[Cn Ajm,Cn bl.symm,Cn bl.symm,b2]
    have cq:σ4.nobj<(((A.put o ((σ4.obj o).set 1 (ic (N.idxOf e:Nat)))).put o []).put σ4.nobj ([sc (.bool false),ic O.head.p,sl jh O.head.ts.length (Ac O.head.ts),gx o 2 cap].set 3 (sl 0 2 (xs.set 1 (ic (N.idxOf e:Nat)))))).nobj:=by simp only[Ab];omega
    generalize ((A.put o ((σ4.obj o).set 1 (ic (N.idxOf e:Nat)))).put o []).put σ4.nobj ([sc (.bool false),ic O.head.p,sl jh O.head.ts.length (Ac O.head.ts),gx o 2 cap].set 3 (sl 0 2 (xs.set 1 (ic (N.idxOf e:Nat)))))=F at ci b9 cz cv cq;have ch:=b4.out _ (cn.out jh 0 xs cj);have bu:=EL.single ch;generalize xs.set 1 (ic (N.idxOf e:Nat))=ys at b9 bu;have cm:Ajs _:=bu;clear a0 az bw ca bh b3 b2 cb bp bi bm bl ch bu b8 cj cg ba ak an ah af ac a9 cn b4 ap ax b6 b5 h1 h2 cy cx cw bo cu cr ct hd;have knoF:=ci.nobj;cases aw:W3 N l i with
    |true=>
     rw[aw]at ao au;have c7:Ajs (∀id c' x',x'=Bo N idn W id c'->EL (PJ N) W c'->chL N l idn x' true):=fun id c' x' bg bq=>HC.out id c' x' aw bg (au.out c' rfl bq);clear av au HC aw
     repeat' (first|refine Z1 ?_|(refine Z8 ?_;intro κ hκ)|(refine Z4 ?_;clear hκ κ)|(refine Z2 ?_ ?_<;>intro h ad<;>try exact Xp)|(refine Z5 ?_;first|(refine Xi (a3 _ _ cm.out _) ?_;rintro _ _ ⟨⟨id6,c6,rfl,bc⟩,a6⟩;(have am:=a6.nobj;have aj:=a6.obj;(try simp only[Ab,Aa,Ah]at am aj)))|(refine Xi (ao c6 id6 bc _) ?_;rintro _ _ ⟨⟨x7,rfl,b7,⟨id71,n71,c71,id72,n72,c72,rfl⟩⟩,a5⟩;(have be:=a5.nobj;have bd:=a5.obj)))|refine Z3 ?_|exact⟨⟩|(apply hκ.out;clear hκ κ))
     exact⟨_,rfl,⟨_,true,rfl,c7.out _ _ _ (b7 rfl) bc,_,_,_,_,_,_,rfl⟩,Xs⟩
    |false=>
     rw[aw]at ao;have a7:Ajs (∀j,j<i+1->W3 N l j=false):=av.out aw;clear av au HC aw
     repeat' (first|refine Z1 ?_|(refine Z8 ?_;intro κ hκ)|(refine Z4 ?_;clear hκ κ)|(refine Z2 ?_ ?_<;>intro h ad<;>try exact Xp)|(refine Z5 ?_;first|(refine Xi (a3 _ _ cm.out _) ?_;rintro _ _ ⟨⟨id6,c6,rfl,bc⟩,a6⟩;(have am:=a6.nobj;have aj:=a6.obj;(try simp only[Ab,Aa,Ah]at am aj)))|(refine Xi (ao c6 id6 bc _) ?_;rintro _ _ ⟨⟨x7,rfl,b7,⟨id71,n71,c71,id72,n72,c72,rfl⟩⟩,a5⟩;(have be:=a5.nobj;have bd:=a5.obj)))|refine Z3 ?_|exact⟨⟩|(apply hκ.out;clear hκ κ))
     refine⟨l.length-(i+1),Ajm,i+1,?_⟩
     ((repeat' with_reducible refine And.intro ?_ ?_)<;>first|exact Xq|exact (a7)|exact Xs)
 ·have hil:i=l.length:=Ajm;subst hil
  repeat' (first|refine Z1 ?_|(refine Z8 ?_;intro κ hκ)|(refine Z4 ?_;clear hκ κ)|(refine Z2 ?_ ?_<;>intro h ad<;>try exact Xp)|refine Z3 ?_|exact⟨⟩|(apply hκ.out;clear hκ κ))
  exact⟨_,rfl,⟨_,false,rfl,.inl ⟨rfl,hA.out⟩,_,_,_,_,_,_,rfl⟩,Xs⟩
def StpR (T:List RItem->Option (List RItem)->Prop)(N:List Tx)(l:List RItem)(idn:Nat)(x:AV)(b:Bool):Prop:=jX x/\∃o,T l o/\b=o.isSome/\∀l',o=some l'->∃id c',x=Bo N idn l' id c'/\EL (PI N) l' c'
def StS (N:List Tx)(l:List RItem)(o:Option (List RItem)):Prop:=∃M,Dr N l M/\
 (((G3 N (F9 N.length M N.length) l).length=l.length/\o=none)\/((G3 N (F9 N.length M N.length) l).length≠l.length/\
  ((Cz N l (G3 N (F9 N.length M N.length) l)=false/\o=none)\/(Cz N l (G3 N (F9 N.length M N.length) l)=true/\o=some (G3 N (F9 N.length M N.length) l)))))
def StU (N:List Tx)(l:List RItem)(o:Option (List RItem)):Prop:=∃M,Dr N l M/\
 ((o=none/\sK N (F9 N.length M N.length) l l.length)\/∃i k y a,o=some (Cp i (uL N l y k a.pred) l)/\l[i]?=some y/\y.out=false/\y.body[k]?=some a/\Wr N (F9 N.length M N.length) l i k=true/\sK N (F9 N.length M N.length) l i/\∀k',k'<k->Wr N (F9 N.length M N.length) l i k'=false)
def StL (N:List Tx)(l:List RItem)(o:Option (List RItem)):Prop:=
 (o=none/\∀i,i<l.length->W3 N l i=false)\/∃i y e,o=some (Cp i [Db y.head.pred e] l)/\l[i]?=some y/\Nk y=true/\Fj l i y.head.pred=some e/\W3 N l i=true/\∀j,j<i->W3 N l j=false
theorem chS.stp {N:List Tx}{l:List RItem}{idn:Nat}{x:AV}{b:Bool}(h:chS N l idn x b)(ht:jX x):StpR (StS N) N l idn x b:=by
 refine⟨ht,?_⟩;obtain⟨M,hM,h⟩:=h;rcases h with⟨h1,rfl⟩|⟨h1,h2,h3⟩
 ·exact⟨none,⟨M,hM,.inl ⟨h1,rfl⟩⟩,rfl,fun l' e=>by cases e⟩
 ·cases hb:Cz N l (G3 N (F9 N.length M N.length) l)with
  |false=>exact⟨none,⟨M,hM,.inr ⟨h1,.inl ⟨hb,rfl⟩⟩⟩,by rw[h2,hb];rfl,fun l' e=>by cases e⟩
  |true=>exact⟨_,⟨M,hM,.inr ⟨h1,.inr ⟨hb,rfl⟩⟩⟩,by rw[h2,hb];rfl,fun l' e=>by cases e;exact h3 (by rw[h2,hb])⟩
theorem chU.stp {N:List Tx}{l:List RItem}{idn:Nat}{x:AV}{b:Bool}(h:chU N l idn x b)(ht:jX x):StpR (StU N) N l idn x b:=by
 refine⟨ht,?_⟩;obtain⟨M,hM,⟨rfl,h⟩|⟨rfl,i,k,y,a,h1,h2,h3,h4,h5,h6,id,c',h7,h8⟩⟩:=h
 ·exact⟨none,⟨M,hM,.inl ⟨rfl,h⟩⟩,rfl,fun l' e=>by cases e⟩
 ·exact⟨_,⟨M,hM,.inr ⟨i,k,y,a,rfl,h1,h2,h3,h4,h5,h6⟩⟩,rfl,fun l' e=>by cases e;exact⟨id,c',h7,h8⟩⟩
theorem chL.stp {N:List Tx}{l:List RItem}{idn:Nat}{x:AV}{b:Bool}(h:chL N l idn x b)(ht:jX x):StpR (StL N) N l idn x b:=by
 refine⟨ht,?_⟩;rcases h with⟨rfl,h⟩|⟨rfl,i,y,e,h1,h2,h3,h4,h5,id,c',h7,h8⟩
 ·exact⟨none,.inl ⟨rfl,h⟩,rfl,fun l' e=>by cases e⟩
 ·exact⟨_,.inr ⟨i,y,e,rfl,h1,h2,h3,h4,h5⟩,rfl,fun l' e=>by cases e;exact⟨id,c',h7,h8⟩⟩
theorem StS.rt {N:List Tx}{ar:Tx->Nat}{l l':List RItem}(h:StS N l (some l'))(hR:RtL N ar l):RtL N ar l':=by
 obtain⟨M,-,⟨-,h⟩|⟨-,⟨-,h⟩|⟨-,h⟩⟩⟩:=h
 ·cases h
 ·cases h
 ·cases h;exact hR.sub (fun x hx=>(Aip.1 hx).1) (Agj (Aio _ _) hR.gl.len)
theorem bM {N:List Tx}{U:Nat->Nat->Bool}{l:List RItem}{i k:Nat}{y:RItem}{a:RAtom}(h1:l[i]?=some y)(h2:y.body[k]?=some a)(h:Wr N U l i k=true):Cz N l (Cp i (uL N l y k a.pred) l)=true:=by
 unfold Wr at h;rw[h1]at h;dsimp only at h;rw[h2]at h;simp only[Ags]at h;exact h.2.2.2
theorem pT {N:List Tx}{l:List RItem}{i:Nat}{y:RItem}{e:Tx}(h1:l[i]?=some y)(h2:Fj l i y.head.pred=some e)(h:W3 N l i=true):Cz N l (Cp i [Db y.head.pred e] l)=true:=by
 unfold W3 at h;rw[h1]at h;dsimp only at h;rw[h2]at h;simp only[Ags]at h;exact h.2
theorem StU.rt {N:List Tx}{ar:Tx->Nat}{l l':List RItem}(h:StU N l (some l'))(hR:RtL N ar l):RtL N ar l':=by
 obtain⟨M,-,⟨h,-⟩|⟨i,k,y,a,h,h1,h2,h3,h4,-⟩⟩:=h
 ·cases h
 ·cases h;exact Adj hR (Adf hR (Agp h1) h2 h3) i (bM h1 h3 h4)
theorem StL.rt {N:List Tx}{ar:Tx->Nat}{l l':List RItem}(h:StL N l (some l'))(hR:RtL N ar l):RtL N ar l':=by
 rcases h with⟨h,-⟩|⟨i,y,e,h,h1,h2,h3,h4,-⟩
 ·cases h
 ·cases h;exact Adj hR (xX hR h1 h2 h3) i (pT h1 h3 h4)
theorem tK (N:List Tx)(ar:Tx->Nat)(l:List RItem)(cs:List AV)(idn idi:Nat)(hR:RtL N ar l)(hE:EL (PI N) l cs)(σ:St):
  ACalls Tryz.prog 73 [Bo N idn l idi cs,sc (.int .u8 (115:UInt8).toNat)] σ fun r σ'=>(∃x b,r=tp [x,sc (.bool b)]/\StpR (StS N) N l idn x b)/\Keep σ σ':=by
 have hS:=fun σ=>Lm N l cs idn idi hR.gl hE σ;have e1:((((115:UInt8).toNat:Nat):Int)==115)=true:=rfl;refine Z9 38 [.cell 4 62,.tmp 5] Tryz.func73 ?_
 repeat' (first|refine Z1 ?_|(refine Z8 ?_;intro κ hκ)|(refine Z4 ?_;clear hκ κ)|(refine Z2 ?_ ?_<;>intro h af<;>try exact Xp)|(refine Z5 ?_;refine Xi (hS _) ?_;rintro _ _ ⟨⟨x1,b1,rfl,ac,ad⟩,ae⟩;(have HX:Ajs _:=ac;have HT:Ajs (jX x1):=ad;obtain⟨t1,t2,t3,t4,t5,t6,rfl⟩:=ad;clear ac;have ab:=ae.nobj;have aa:=ae.obj;(try simp only[Aa]at ab aa)))|refine Z3 ?_|exact⟨⟩|(apply hκ.out;clear hκ κ))
 exact⟨_,rfl,⟨_,b1,rfl,chS.stp HX.out HT.out⟩,Xs⟩
theorem tJ (N:List Tx)(ar:Tx->Nat)(l:List RItem)(cs:List AV)(idn idi:Nat)(hR:RtL N ar l)(hE:EL (PI N) l cs)(σ:St):
  ACalls Tryz.prog 73 [Bo N idn l idi cs,sc (.int .u8 (117:UInt8).toNat)] σ fun r σ'=>(∃x b,r=tp [x,sc (.bool b)]/\StpR (StU N) N l idn x b)/\Keep σ σ':=by
 have hS:=fun σ=>O1 N ar l cs idn idi hR hE σ;have e1:((((117:UInt8).toNat:Nat):Int)==115)=false:=rfl;have e2:((((117:UInt8).toNat:Nat):Int)==97)=false:=rfl;have e3:((((117:UInt8).toNat:Nat):Int)==114)=false:=rfl;have e4:((((117:UInt8).toNat:Nat):Int)==117)=true:=rfl;refine Z9 38 [.cell 4 62,.tmp 5] Tryz.func73 ?_
 repeat' (first|refine Z1 ?_|(refine Z8 ?_;intro κ hκ)|(refine Z4 ?_;clear hκ κ)|(refine Z2 ?_ ?_<;>intro h af<;>try exact Xp)|(refine Z5 ?_;refine Xi (hS _) ?_;rintro _ _ ⟨⟨x1,b1,rfl,ac,ad⟩,ae⟩;(have HX:Ajs _:=ac;have HT:Ajs (jX x1):=ad;obtain⟨t1,t2,t3,t4,t5,t6,rfl⟩:=ad;clear ac;have ab:=ae.nobj;have aa:=ae.obj;(try simp only[Aa]at ab aa)))|refine Z3 ?_|exact⟨⟩|(apply hκ.out;clear hκ κ))
 exact⟨_,rfl,⟨_,b1,rfl,chU.stp HX.out HT.out⟩,Xs⟩
theorem tM (N:List Tx)(ar:Tx->Nat)(l:List RItem)(cs:List AV)(idn idi:Nat)(hR:RtL N ar l)(hE:EL (PI N) l cs)(σ:St):
  ACalls Tryz.prog 73 [Bo N idn l idi cs,sc (.int .u8 (108:UInt8).toNat)] σ fun r σ'=>(∃x b,r=tp [x,sc (.bool b)]/\StpR (StL N) N l idn x b)/\Keep σ σ':=by
 have hS:=fun σ=>R3 N ar l cs idn idi hR hE σ;have e1:((((108:UInt8).toNat:Nat):Int)==115)=false:=rfl;have e2:((((108:UInt8).toNat:Nat):Int)==97)=false:=rfl;have e3:((((108:UInt8).toNat:Nat):Int)==114)=false:=rfl;have e4:((((108:UInt8).toNat:Nat):Int)==117)=false:=rfl;have e5:((((108:UInt8).toNat:Nat):Int)==108)=true:=rfl;refine Z9 38 [.cell 4 62,.tmp 5] Tryz.func73 ?_
 repeat' (first|refine Z1 ?_|(refine Z8 ?_;intro κ hκ)|(refine Z4 ?_;clear hκ κ)|(refine Z2 ?_ ?_<;>intro h af<;>try exact Xp)|(refine Z5 ?_;refine Xi (hS _) ?_;rintro _ _ ⟨⟨x1,b1,rfl,ac,ad⟩,ae⟩;(have HX:Ajs _:=ac;have HT:Ajs (jX x1):=ad;obtain⟨t1,t2,t3,t4,t5,t6,rfl⟩:=ad;clear ac;have ab:=ae.nobj;have aa:=ae.obj;(try simp only[Aa]at ab aa)))|refine Z3 ?_|exact⟨⟩|(apply hκ.out;clear hκ κ))
 exact⟨_,rfl,⟨_,b1,rfl,chL.stp HX.out HT.out⟩,Xs⟩
end Go.Proofs.YtmoeoppbmhfbpabGreatDoorL
