import Derived.Test.YtmoeoppbmhfbpabGreatDoorLEngR
import Derived.Test.YtmoeoppbmhfbpabGreatDoorLOptE
set_option maxHeartbeats 32000000
set_option maxRecDepth 100000
set_option linter.all false
namespace Go.Proofs.YtmoeoppbmhfbpabGreatDoorL
open Go.Abs
theorem Pe {a:Df}(h:Hw a.ts=true)(ν:Nu):Bf a ν=Cs a:=by
 unfold Bf Cs;congr 1;apply Ahx;intro t ht;unfold Hw at h;rw[Ago]at h;have:=h t ht;obtain⟨b,w⟩:=t;cases b with
 |false=>rfl
 |true=>simp at this
def nM (t:Bc)(ts:List Tm)(x:Tm×Nat):List Tm:=if x.1.1=true then Bg x.1.2 (H4 t (x.2:Nat)) ts else ts
def P6 (ps:List Tm)(t:Bc)(ts:List Tm):List Tm:=ps.zipIdx.foldl (nM t) ts
def On (l:List Bc)(a:Df)(p:Part):Part:=⟨p.a,p.tups.filter fun t=>!decide (Cs ⟨a.p,P6 p.a.ts t a.ts⟩∈l)⟩
theorem tO (ps:List Tm)(x:Tm)(t:Bc)(ts:List Tm):P6 (ps++[x]) t ts=nM t (P6 ps t ts) (x,ps.length):=by
 unfold P6;rw[List.zipIdx_append,Aif];simp
theorem uV (μ:Nu)(v:Int):Ni μ v (μ v)=μ:=by
 funext w;unfold Ni;split
 ·rename_i e;rw[e]
 ·rfl
theorem qI {t:Bc}{v:Int}:∀(l:List (Tm×Nat)) (ts:List Tm),A8 (l.foldl (nM t) ts) v=true->A8 ts v=true/\∀x∈l,x.1≠(true,v)
 |[],ts,h=>⟨h,by simp⟩
 |x::l,ts,h=>by
  rw[Agv]at h;obtain⟨h1,h2⟩:=qI l _ h;unfold nM at h1;obtain⟨⟨xb,xv⟩,xi⟩:=x;cases xb with
  |false=>
   simp only[Ahg,if_false]at h1
   exact⟨h1,fun y hy=>by
    rcases Ahm.1 hy with rfl|hy
    ·simp
    ·exact h2 y hy⟩
  |true=>
   simp only[if_true]at h1;have:=(hasV_put (a:=⟨0,ts⟩)).1 h1
   exact⟨this.1,fun y hy=>by
    rcases Ahm.1 hy with rfl|hy
    ·simp only[ne_eq,Prod.mk.injEq,true_and];exact fun e=>this.2 e.symm
    ·exact h2 y hy⟩
theorem Acu {pa a:Df}{μ:Nu}(h3:pa.ts.length<=3)(hv:∀v,A8 a.ts v=true->A8 pa.ts v=true):Cs ⟨a.p,P6 pa.ts (Bf pa μ) a.ts⟩=Bf a μ:=by
 have key:∀(l:List (Tm×Nat)) (ts:List Tm),(∀x∈l,pa.ts[x.2]?=some x.1)->Bf ⟨a.p,l.foldl (nM (Bf pa μ)) ts⟩ μ=Bf ⟨a.p,ts⟩ μ:=by
  intro l;induction l with
  |nil=>intro ts _;rfl
  |cons x l ih=>
   intro ts hl;rw[Agv,ih _ (fun y hy=>hl y (Ahp _ hy))];unfold nM;split
   ·rename_i hx;obtain⟨⟨xb,xv⟩,xi⟩:=x;simp only at hx;subst hx;have hg:pa.ts[xi]?=some (true,xv):=hl _ Ahn;have aa:=(List.getElem?_eq_some_iff.1 hg).1;have ht:H4 (Bf pa μ) ((xi:Nat):Int)=μ xv:=by
     unfold H4;rw[Ai4,Bf,Jy (by simpa using aa) (by simpa using h3)];have:=(List.getElem?_eq_some_iff.1 hg).2;simp[this,Eo]
    show Bf ⟨a.p,Bg xv (H4 (Bf pa μ) ((xi:Nat):Int)) ts⟩ μ=_;rw[ht];have:=Kj ⟨a.p,ts⟩ xv (μ xv) μ;rw[uV]at this;exact this
   ·rfl
 have hz:∀x∈pa.ts.zipIdx,pa.ts[x.2]?=some x.1:=fun x hx=>by
  obtain⟨y,i⟩:=x;exact List.mem_zipIdx_iff_getElem?.1 hx
 have h1:=key pa.ts.zipIdx a.ts hz;have h2:Hw (P6 pa.ts (Bf pa μ) a.ts)=true:=by
  unfold Hw;rw[Ago];intro t ht;obtain⟨b,w⟩:=t;cases b with
  |false=>rfl
  |true=>
   exfalso;obtain⟨g1,g2⟩:=qI pa.ts.zipIdx a.ts (hasV_iff.2 ht);have:=hasV_iff.1 (hv w g1);obtain⟨i,hi⟩:=List.getElem?_of_mem this;exact g2 ((true,w),i) (List.mem_zipIdx_iff_getElem?.2 hi) rfl
 rw[<-Pe (a:=⟨a.p,P6 pa.ts (Bf pa μ) a.ts⟩) h2 μ];exact h1
theorem Acv {l:List Bc}{a:Df}{p:Part}{ν:Nu}(h3:p.a.ts.length<=3)(hv:∀v,A8 a.ts v=true->A8 p.a.ts v=true):Bf p.a ν∈(On l a p).tups↔Bf p.a ν∈p.tups/\Bf a ν∉l:=by
 unfold On;rw[Aip,Acu h3 hv];simp
theorem cK (om ot:Nat)(M:MM)(d b:Int)(p:Part)(a:Df)(id idt ida k:Nat)(x:Nat×List Bc)(b6:p.a.ts.length<=3)(b5:p.tups.length<=5000)(h3:T3 p.tups)(ha:a.ts.length<=3)(hk:a.p=(k:Int))(hx:M[k]?=some x)(u:St)(hM:MOb u om ot M d b):ACalls Tryz.prog 219 [ptr om 0,ag [ic p.a.p,sl id p.a.ts.length (Ac p.a.ts),sl idt p.tups.length (Dd p.tups)],ag [ic a.p,sl ida a.ts.length (Ac a.ts)]] u fun r u'=>(∃idn,r=ag [ic p.a.p,sl id p.a.ts.length (Ac p.a.ts),sl idn (On x.2 a p).tups.length (Dd (On x.2 a p).tups)])/\Keep u u':=by
 have b4:=E7 h3;have ca:=Ci p.a.ts;have HR:Ajs ((On x.2 a p).tups=p.tups.filter fun t=>!decide (Cs ⟨a.p,P6 p.a.ts t a.ts⟩∈x.2)):=rfl;have a9:Ajs (∀(ts:List Tm) (i:Nat) (u1:St),ts.length<=3->Keep u u1->ACalls Tryz.prog 81 [ptr om 0,ag [ic a.p,sl i ts.length (Ac ts)]] u1 fun r u'=>r=sc (.bool (decide (Cs ⟨a.p,ts⟩∈x.2)))/\Keep u1 u'):=fun ts i u1 h1 h2=>I0 om ot M d b ⟨a.p,ts⟩ i k x h1 hk hx u1 (hM.keep h2);generalize hG:(fun t:Bc=>Cs ⟨a.p,P6 p.a.ts t a.ts⟩)=bT at*
 have HG:Ajs (∀t,bT t=Cs ⟨a.p,P6 p.a.ts t a.ts⟩):=fun t=>by rw[<-hG]
 have bz:Ajs ((On x.2 a p).tups=p.tups.filter fun t=>!decide (bT t∈x.2)):=by
  rw[Ajs,HR.out];congr 1;funext t;rw[HG.out t]
 clear hG HR hk hx hM;generalize On x.2 a p=bp at*
 refine Z9 55 [.cell 6 239] Tryz.func219 ?_
 repeat' (first|refine Z1 ?_|(refine Z8 ?_;intro κ hκ)|(refine Z4 ?_;clear hκ κ)|(refine Z2 ?_ ?_<;>intro h ae<;>try exact Xp)|(refine Z6 ?_;intro idn un ah ai ac ab ad aa)|refine Z3 ?_|exact⟨⟩|(apply hκ.out;clear hκ κ))
 refine Af (fun m s u'=>∃(i i3:Nat) (o:List Bc) (xs:List AV),m=p.tups.length-i/\i<=p.tups.length/\s 0=ptr om 0/\s 4=ptr u.nobj 0/\s 5=ptr (u.nobj+1) 0/\s 6=ptr (u.nobj+2) 0/\s 7=ptr (u.nobj+3) 0/\s 17=sl idt p.tups.length (Dd p.tups)/\s 18=ic p.tups.length/\s 19=ic i/\Keep u u'/\u.nobj+3<u'.nobj/\u'.obj u.nobj=[ic p.a.p,sl id p.a.ts.length (Ac p.a.ts),sl idt p.tups.length (Dd p.tups)]/\u'.obj (u.nobj+1)=[ic a.p,sl ida a.ts.length (Ac a.ts)]/\u'.obj (u.nobj+2)=[ic 0,nilS,nilS]/\u'.obj (u.nobj+3)=[ic p.a.p,sl id p.a.ts.length (Ac p.a.ts),sl i3 o.length xs]/\Own u u' i3 o.length/\o.length<=i/\xs.length=o.length*3/\Ajs (xs=Dd o/\o=(p.tups.take i).filter fun t=>!decide (bT t∈x.2))) p.tups.length
  ⟨0,1,[],[],Ajm,Ajm,by simp[upd,initS],Ajo,Ajo,Ajo,Ajo,Ajo,Ajo,rfl,Xs,Ajr,?_,?_,?_,?_,Own.nil _ _,by simp,by simp,⟨rfl,by simp⟩⟩ ?_
 ·rw[Ai Ajm,Ag Ajq,Ag Ajq,Ag Ajq,Ap]
 ·rw[Ai Ajm,Ag Ajq,Ag Ajq,Bt Ajq Ajq]
 ·rw[Ai Ajm,Ag Ajq,Bt Ajq Ajq]
 ·rw[show u.nobj+3=u.nobj+1+1+1 from rfl,Ak];simp
 rintro m s u' ⟨i,i3,o,xs,rfl,hi,h0,h4,h5,h6,h7,bc,bb,ba,hK,b8,b2,b1,b0,bg,hO,b7,bh,hX⟩;have b3:=hK.nobj;by_cases bi:i<p.tups.length
 ·have am:=List.getElem?_eq_getElem bi;obtain⟨ao,r,hd⟩:=Gj h3 am;generalize p.tups[i]=t at hd am ao;have HF:Ajs ((p.tups.take (i+1)).filter (fun t=>!decide (bT t∈x.2))=(p.tups.take i).filter (fun t=>!decide (bT t∈x.2))++if (!decide (bT t∈x.2))=true then [t]else []):=by
   rw[Ajs,Agz,am,Aia,Dw]
  clear am;have f1:=Ds ao;have f2:=H9 ao;have f3:=D5 ao;have f4:=Hz ao;have f5:=Co t;have f6:=Pw ao
  repeat' (first|refine Z1 ?_|(refine Z8 ?_;intro κ hκ)|(refine Z4 ?_;clear hκ κ)|(refine Z2 ?_ ?_<;>intro h ae<;>try exact Xp)|(refine Z6 ?_;intro idn un ah ai ac ab ad aa)|refine Z3 ?_|exact⟨⟩|(apply hκ.out;clear hκ κ))
  refine Af (fun m s u2=>∃(j idj:Nat) (ts:List Tm),m=p.a.ts.length-j/\j<=p.a.ts.length/\s 0=ptr om 0/\s 4=ptr u.nobj 0/\s 5=ptr (u.nobj+1) 0/\s 6=ptr (u.nobj+2) 0/\s 7=ptr (u.nobj+3) 0/\s 9=ptr u'.nobj 0/\s 10=ptr (u'.nobj+1) 0/\s 17=sl idt p.tups.length (Dd p.tups)/\s 18=ic p.tups.length/\s 19=ic i/\s 26=sl id p.a.ts.length (Ac p.a.ts)/\s 27=ic p.a.ts.length/\s 28=ic j/\Keep u' u2/\u'.nobj+1<u2.nobj/\u2.obj u'.nobj=Am t/\u2.obj (u'.nobj+1)=[ic a.p,sl idj ts.length (Ac ts)]/\ts.length<=3/\Ajs (ts=P6 (p.a.ts.take j) t a.ts)) p.a.ts.length
   ⟨0,ida,a.ts,Ajm,Ajm,Ajn,Ajn,Ajn,Ajn,Ajn,Ajn,Ajn,Ajn,Ajn,Ajn,Ajn,Ajn,Ajo,Xs,Ajr,?_,?_,ha,rfl⟩ ?_
  ·rw[Ai Ajm,Ag Ajr,Ak]
  ·rw[Ak]
  clear h0 h4 h5 h6 h7 bc bb ba;rintro m s u2 ⟨j,idj,ts,rfl,hj,h0,h4,h5,h6,h7,h9,bw,bc,bb,ba,bv,bu,br,an,a6,oc0,oc1,be,hT⟩;have au:=an.nobj;by_cases av:j<p.a.ts.length
  ·have af:=List.getElem?_eq_getElem av;obtain⟨rj,bo⟩:=Cm af;generalize p.a.ts[j]=w at bo af;obtain⟨w1,w2⟩:=w;have ax:t[j]?=some t[j]:=List.getElem?_eq_getElem Ajm;have bm:=Jr ax;have a5:Ajs (H4 t (j:Nat)=t[j]):=by simp[Ajs,H4,ax]
   generalize t[j]=y at ax bm a5;have HT:Ajs (P6 (p.a.ts.take (j+1)) t a.ts=if w1=true then Bg w2 y ts else ts):=by
    rw[Ajs,Agz,af,Aia,tO,Ahb,Ahf hj,<-hT.out];unfold nM;simp only[a5.out]
   clear af ax a5 hT;cases w1 with
   |false=>
    have bd:Ajs (ts=P6 (p.a.ts.take (j+1)) t a.ts):=by rw[Ajs,HT.out];rfl
    clear HT
    repeat' (first|refine Z1 ?_|(refine Z8 ?_;intro κ hκ)|(refine Z4 ?_;clear hκ κ)|(refine Z2 ?_ ?_<;>intro h ae<;>try exact Xp)|(refine Z6 ?_;intro idn un ah ai ac ab ad aa)|refine Z3 ?_|exact⟨⟩|(apply hκ.out;clear hκ κ))
    refine⟨p.a.ts.length-(j+1),Ajm,j+1,idj,ts,?_⟩
    ((repeat' with_reducible refine And.intro ?_ ?_)<;>first|exact Xq|exact (bd)|exact Xs)
   |true=>
    have bd:Ajs (Bg w2 y ts=P6 (p.a.ts.take (j+1)) t a.ts):=by rw[Ajs,HT.out];rfl
    clear HT;have bq:=fun u=>M8 a.p idj ts w2 y Ajm u;have bn:(Bg w2 y ts).length<=3:=by simpa[Bg]using be
    repeat' (first|refine Z1 ?_|(refine Z8 ?_;intro κ hκ)|(refine Z4 ?_;clear hκ κ)|(refine Z2 ?_ ?_<;>intro h ae<;>try exact Xp)|(refine Z6 ?_;intro idn un ah ai ac ab ad aa)|refine Z3 ?_|exact⟨⟩|(apply hκ.out;clear hκ κ))
    have bf:Keep u' ((u2.new [sc (.bool false),ic 0]).put u2.nobj [sc (.bool true),ic w2]):=(an.new _).put au _;refine Bu (Q:=fun e s' u''=>e= .normal/\s' 0=ptr om 0/\s' 4=ptr u.nobj 0/\s' 5=ptr (u.nobj+1) 0/\s' 6=ptr (u.nobj+2) 0/\s' 7=ptr (u.nobj+3) 0/\s' 9=ptr u'.nobj 0/\s' 10=ptr (u'.nobj+1) 0/\s' 17=sl idt p.tups.length (Dd p.tups)/\s' 18=ic p.tups.length/\s' 19=ic i/\s' 26=sl id p.a.ts.length (Ac p.a.ts)/\s' 27=ic p.a.ts.length/\s' 28=ic j/\Keep u' u''/\u'.nobj+1<u''.nobj/\u''.obj u'.nobj=Am t/\∃idn,u''.obj (u'.nobj+1)=[ic a.p,sl idn (Bg w2 y ts).length (Ac (Bg w2 y ts))]) ?_ ?_
    ·refine A2 Aj (fun _=>True) [7] [0,1,2,3,4,5] 2 #[true,true,true,true,true,true,false,false] Ajp (fun _ _ _ h=>by cases h.1) ?_;intro κ hκ;refine Z3 ?_;refine hκ.out _ ?_;clear hκ κ;refine Ao (i:=6) Ajp ?_;refine Ar ?_;intro κ hκ;refine Z3 ?_;refine ACalls.mono (bq _) ?_;rintro _ ub ⟨⟨idn,rfl⟩,ay⟩;have knb:=ay.nobj;simp only[Ab,Aa]at knb;have a3:=ay.obj;simp only[Ab,Aa]at a3;have og0:ub.obj u'.nobj=Am t:=by rw[a3 _ Ajm,Ai Ajm,Ag Ajm,oc0]
     have og1:ub.obj (u'.nobj+1)=[ic a.p,sl idj ts.length (Ac ts)]:=by rw[a3 _ Ajm,Ai Ajm,Ag Ajm,oc1]
     refine Z3 ?_;refine hκ.out _ _ ⟨Aq ay,?_⟩;clear hκ κ;refine Ao (i:=7) Ajp ?_;refine Ar ?_;intro κ hκ;refine Z3 ?_;refine hκ.out _ _ ⟨Bs rfl,?_⟩;clear hκ κ;refine A3 Ajp ⟨rfl,Ajn,Ajn,Ajn,Ajn,Ajn,Ajn,Ajn,Ajn,Ajn,Ajn,Ajn,Ajn,Ajn,(bf.trans ay).put Ajm _,by simp only[Ab];omega,by rw[Ai Ajm,og0],idn,Ak⟩
    ·rintro e s2 u3 ⟨rfl,g0,g4,g5,g6,g7,g9,g10,g17,g18,g19,g26,g27,g28,cb,b9,oe0,idn,oe1⟩;clear h0 h4 h5 h6 h7 h9 bw bc bb ba bv bu br oc0 oc1 bf an au a6
     repeat' (first|refine Z1 ?_|(refine Z8 ?_;intro κ hκ)|(refine Z4 ?_;clear hκ κ)|(refine Z2 ?_ ?_<;>intro h ae<;>try exact Xp)|(refine Z6 ?_;intro idn un ah ai ac ab ad aa)|refine Z3 ?_|exact⟨⟩|(apply hκ.out;clear hκ κ))
     refine⟨p.a.ts.length-(j+1),Ajm,j+1,idn,Bg w2 y ts,?_⟩
     ((repeat' with_reducible refine And.intro ?_ ?_)<;>first|exact Xq|exact (bd)|exact Xs)
  ·have bl:j=p.a.ts.length:=Ajm;subst bl;have HB:Ajs (Cs ⟨a.p,ts⟩=bT t):=by
    rw[Ajs,HG.out t,hT.out,Agw]
   have aw:=fun u1 hh=>a9.out ts idj u1 be hh;rw[HB.out]at aw;have az:=hK.trans an;clear hT HB hj av;cases ap:decide (bT t∈x.2)with
   |true=>
    have HX:Ajs (xs=Dd o/\o=(p.tups.take (i+1)).filter fun t=>!decide (bT t∈x.2)):=by
     obtain⟨x1,x2⟩:=hX.out;refine⟨x1,?_⟩;rw[HF.out,ap,x2];simp
    rw[ap]at aw;clear hX HF ap
    repeat' (first|refine Z1 ?_|(refine Z8 ?_;intro κ hκ)|(refine Z4 ?_;clear hκ κ)|(refine Z2 ?_ ?_<;>intro h ae<;>try exact Xp)|(refine Z6 ?_;intro idn un ah ai ac ab ad aa)|(refine Z5 ?_;refine Xi (aw _ az) ?_;rintro _ _ ⟨rfl,aj⟩;(have a4:=aj.nobj;have ak:=(an.trans aj).obj;have a8:=az.trans aj;have a7:=Own.keep hO (an.trans aj)))|refine Z3 ?_|exact⟨⟩|(apply hκ.out;clear hκ κ))
    refine⟨p.tups.length-(i+1),Ajm,i+1,i3,o,xs,?_⟩
    ((repeat' with_reducible refine And.intro ?_ ?_)<;>first|exact Xq|exact (a8)|exact (a7)|exact (HX)|exact (by rw[ak _ Ajm];assumption)|exact Xs)
   |false=>
    have HX:Ajs (xs++Am t=Dd (o++[t])/\o++[t]=(p.tups.take (i+1)).filter fun t=>!decide (bT t∈x.2)):=by
     obtain⟨x1,x2⟩:=hX.out;refine⟨by rw[x1,Lp],?_⟩;rw[HF.out,ap,<-x2];simp
    rw[ap]at aw;clear hX HF ap
    repeat' (first|refine Z1 ?_|(refine Z8 ?_;intro κ hκ)|(refine Z4 ?_;clear hκ κ)|(refine Z2 ?_ ?_<;>intro h ae<;>try exact Xp)|(refine Z6 ?_;intro idn un ah ai ac ab ad aa)|(refine Z5 ?_;refine Xi (aw _ az) ?_;rintro _ _ ⟨rfl,aj⟩;(have a4:=aj.nobj;have ak:=(an.trans aj).obj;have a0:=aj.obj;have a8:=az.trans aj;have a7:=Own.keep hO (an.trans aj)))|refine Z3 ?_|exact⟨⟩|(apply hκ.out;clear hκ κ))
    rename_i u5;have oh0:u5.obj u'.nobj=Am t:=by rw[a0 _ Ajm,oc0]
    have oh3:u5.obj (u.nobj+3)=[ic p.a.p,sl id p.a.ts.length (Ac p.a.ts),sl i3 o.length xs]:=by rw[ak _ Ajm,bg]
    repeat' (first|refine Z1 ?_|(refine Z8 ?_;intro κ hκ)|(refine Z4 ?_;clear hκ κ)|(refine Z2 ?_ ?_<;>intro h ae<;>try exact Xp)|(refine Z6 ?_;intro idn un ah ai ac ab ad aa)|refine Z3 ?_|exact⟨⟩|(apply hκ.out;clear hκ κ))
    refine Bh (by first|exact Fx) (a8) (a7) (by decide) (by rfl) (bh) (by rw[f1]) (f5) (by decide) Ajm Ajm ?_;intro idn un ah ai ac ab ad aa;have eob:∀q,q<u'.nobj->un.obj q=u'.obj q:=fun q hq=>by rw[ac,ak _ hq]
    refine Z3 ?_
    repeat' (first|refine Z1 ?_|(refine Z8 ?_;intro κ hκ)|(refine Z4 ?_;clear hκ κ)|(refine Z2 ?_ ?_<;>intro h ae<;>try exact Xp)|(refine Z6 ?_;intro idn un ah ai ac ab ad aa)|refine Z3 ?_|exact⟨⟩|(apply hκ.out;clear hκ κ))
    refine⟨p.tups.length-(i+1),Ajm,i+1,idn,o++[t],xs++Am t,?_⟩
    ((repeat' with_reducible refine And.intro ?_ ?_)<;>first|exact Xq|exact (ai.put Ajm _)|exact (by simpa using Own.put ah _ _)|exact (HX)|exact Xs)
 ·have hil:i=p.tups.length:=Ajm;subst hil;obtain⟨x1,x2⟩:=hX.out;rw[Agw]at x2
  repeat' (first|refine Z1 ?_|(refine Z8 ?_;intro κ hκ)|(refine Z4 ?_;clear hκ κ)|(refine Z2 ?_ ?_<;>intro h ae<;>try exact Xp)|(refine Z6 ?_;intro idn un ah ai ac ab ad aa)|refine Z3 ?_|exact⟨⟩|(apply hκ.out;clear hκ κ))
  exact⟨_,rfl,⟨_,by rw[bz.out,<-x2]<;>first|rfl|rw[x1]⟩,hK.put Ajm _⟩
def lO (a:Df)(p:Part):Bool:=(Cc [a]).all (A8 p.a.ts)
theorem pwB_iff {a:Df}{p:Part}:lO a p=true↔∀v,A8 a.ts v=true->A8 p.a.ts v=true:=by
 unfold lO;rw[Ago];constructor
 ·intro h v hv;exact h v ((C4 _ _).2 ⟨a,by simp,hasV_iff.1 hv⟩)
 ·intro h v hv;obtain⟨b,hb,aa⟩:=(C4 _ _).1 hv;simp at hb;subst hb;exact h v (hasV_iff.2 aa)
theorem iV (h0 h1 h3:AV)(hf:([h0,h1,h3]:List AV).all flat=true)(a:Df)(ida:Nat)(u:St):ACalls Tryz.prog 218 [ag [h0,h1,nilS,h3],ag [ic a.p,sl ida a.ts.length (Ac a.ts)]] u fun r u'=>r=ic (-1)/\Keep u u':=by
 simp only[List.all_cons,List.all_nil,Bool.and_true,Ags]at hf;obtain⟨f0,f1,f3⟩:=hf;refine Z9 23 [.tmp 4] Tryz.func218 ?_
 repeat' (first|refine Z1 ?_|(refine Z8 ?_;intro κ hκ)|(refine Z4 ?_;clear hκ κ)|(refine Z2 ?_ ?_<;>intro h aa<;>try exact Xp)|refine Z3 ?_|exact⟨⟩|(apply hκ.out;clear hκ κ))
 refine Af (fun m s u'=>m=0/\s 9=ic 0/\s 10=ic 0/\Keep u u') 0
  ⟨rfl,Ajo,Ajo,Xs⟩ ?_
 rintro m s u' ⟨rfl,h9,ab,hK⟩
 repeat' (first|refine Z1 ?_|(refine Z8 ?_;intro κ hκ)|(refine Z4 ?_;clear hκ κ)|(refine Z2 ?_ ?_<;>intro h aa<;>try exact Xp)|refine Z3 ?_|exact⟨⟩|(apply hκ.out;clear hκ κ))
 first|exact⟨_,rfl,rfl⟩|exact⟨_,rfl,rfl,hK⟩
theorem iU (h0 h1 h3:AV)(hf:([h0,h1,h3]:List AV).all flat=true)(L:List Part)(hL:∀p∈L,p.a.ts.length<=3)(a7:L.length<=64)(o cap:Nat)(pc:List AV)(hP:EL Mk L pc)(a:Df)(ida:Nat)(ha:a.ts.length<=3)(u:St)(ho:o<u.nobj)(av:L.length<=cap)(a6:(u.obj o).length=cap*3)(ao:(u.obj o).take (L.length*3)=pc):ACalls Tryz.prog 218 [ag [h0,h1,gx o L.length cap,h3],ag [ic a.p,sl ida a.ts.length (Ac a.ts)]] u fun r u'=>((∃(i:Nat) (p:Part),r=ic i/\L[i]?=some p/\lO a p=true)\/(r=ic (-1)/\∀p∈L,lO a p=false))/\Keep u u':=by
 simp only[List.all_cons,List.all_nil,Bool.and_true,Ags]at hf;obtain⟨f0,f1,f3⟩:=hf;have ac:=fun (i:Nat) (u:St)=>Hb [a] [ic a.p,sl ida a.ts.length (Ac a.ts)] i (EL.single ⟨ida,rfl⟩) (by simp;exact ha) (by simp) u;have an:=E5 (l:=[a]) (by simp;exact ha);have HV:Ajs (∀p,lO a p=(Cc [a]).all (A8 p.a.ts)):=fun p=>rfl;generalize Cc [a]=vs at*
 simp only[Ahj,Ahi]at an ac;have hpl:=EL.length Ef hP;refine Z9 23 [.tmp 4] Tryz.func218 ?_
 repeat' (first|refine Z1 ?_|(refine Z8 ?_;intro κ hκ)|(refine Z4 ?_;clear hκ κ)|(refine Z2 ?_ ?_<;>intro h ab<;>try exact Xp)|refine Z3 ?_|exact⟨⟩|(apply hκ.out;clear hκ κ))
 refine Af (fun m s u'=>∃i:Nat,m=L.length-i/\i<=L.length/\s 2=ptr u.nobj 0/\s 3=ptr (u.nobj+1) 0/\s 8=gx o L.length cap/\s 9=ic L.length/\s 10=ic i/\Keep u u'/\u.nobj+1<u'.nobj/\u'.obj (u.nobj+1)=[ic a.p,sl ida a.ts.length (Ac a.ts)]/\Ajs (∀p∈L.take i,lO a p=false)) L.length
  ⟨0,Ajm,Ajm,Ajo,Ajo,Ajo,Ajo,rfl,Xs,Ajr,?_,by simp[Ajs]⟩ ?_
 ·rw[Bt Ajq Ajq]
 rintro m s u' ⟨i,rfl,hi,h2,ay,h8,h9,az,hK,a5,aj,hA⟩;have a3:=hK.nobj;by_cases ak:i<L.length
 ·have aa:=List.getElem?_eq_getElem ak;obtain⟨id,idt,r,hd⟩:=Fa hP aa;have am:=hL _ (Ah6 ak);generalize L[i]=w at hd aa am;have oo:u'.obj o=u.obj o:=hK.obj o ho;have ap:(u'.obj o).drop (i*3)=ic w.a.p::sl id w.a.ts.length (Ac w.a.ts)::sl idt w.tups.length (Dd w.tups)::(r++(u.obj o).drop (L.length*3)):=by
   rw[oo]
   conv=>lhs;rw[<-Aiv (L.length*3) (u.obj o),ao]
   rw[Aht (by rw[hpl];omega),hd];rfl
  have au:o≠u'.nobj:=Ajm;have HA:Ajs (lO a w=false->∀p∈L.take (i+1),lO a p=false):=fun hw p hp=>by
   rw[Agz,aa,Aia]at hp;rcases Ahs.1 hp with h|h
   ·exact hA.out p h
   ·simp at h;subst h;exact hw
  have HW:Ajs (L[i]?=some w):=aa;have af:=fun (i:Nat) (u:St)=>cG w.a.p id w.a.ts vs i Ajm Ajm u;rw[<-HV.out w]at af;have a4:u'.nobj≠o:=fun e=>au e.symm;clear aa hA oo
  repeat' (first|refine Z1 ?_|(refine Z8 ?_;intro κ hκ)|(refine Z4 ?_;clear hκ κ)|(refine Z2 ?_ ?_<;>intro h ab<;>try exact Xp)|refine Z3 ?_|exact⟨⟩|(apply hκ.out;clear hκ κ))
  have ax:Keep u ((u'.new [ic 0,nilS,nilS]).put u'.nobj [ic w.a.p,sl id w.a.ts.length (Ac w.a.ts),sl idt w.tups.length (Dd w.tups)]):=(hK.new _).put hK.nobj _;have kv:∀p,p<u'.nobj->((u'.new [ic 0,nilS,nilS]).put u'.nobj [ic w.a.p,sl id w.a.ts.length (Ac w.a.ts),sl idt w.tups.length (Dd w.tups)]).obj p=u'.obj p:=fun p hp=>by rw[Ai Ajm,Ag Ajm]
  generalize ai:(u'.new [ic 0,nilS,nilS]).put u'.nobj [ic w.a.p,sl id w.a.ts.length (Ac w.a.ts),sl idt w.tups.length (Dd w.tups)]=ub at*
  have nb:ub.nobj=u'.nobj+1:=by rw[<-ai];rfl
  have o6:ub.obj u'.nobj=[ic w.a.p,sl id w.a.ts.length (Ac w.a.ts),sl idt w.tups.length (Dd w.tups)]:=by rw[<-ai,Ak]
  have o3:ub.obj (u.nobj+1)=[ic a.p,sl ida a.ts.length (Ac a.ts)]:=by rw[kv _ Ajm,aj]
  clear ai;refine Bu (Q:=fun e s' u''=>e= .normal/\s' 20=sc (.bool (lO a w))/\s' 2=ptr u.nobj 0/\s' 3=ptr (u.nobj+1) 0/\s' 5=ic i/\s' 8=gx o L.length cap/\s' 9=ic L.length/\s' 10=ic i/\Keep ub u'') ?_ ?_
  ·refine A2 Aj (fun _=>True) [] [0,1,2] 3 #[true,true,true,false,false,false] Ajp (fun _ _ _ h=>by cases h.1) ?_;intro κ hκ;refine Z3 ?_;refine hκ.out _ ?_;clear hκ κ;refine Ao (i:=3) Ajp ?_;refine Ar ?_;intro κ hκ;refine Z3 ?_;refine hκ.out _ _ ⟨Aq ((Keep.refl _).lay 1),?_⟩;clear hκ κ;refine Ao (i:=4) Ajp ?_;refine Ar ?_;intro κ hκ;refine Z3 ?_;refine ACalls.mono (ac _ _) ?_;rintro _ uc ⟨⟨idv,rfl⟩,ah⟩;have knc:=ah.nobj;refine Z3 ?_;refine hκ.out _ _ ⟨Aq (((Keep.refl _).lay 1).trans ah),?_⟩;clear hκ κ;refine Ao (i:=5) Ajp ?_;refine Ar ?_;intro κ hκ;refine Z3 ?_;refine ACalls.mono (af _ _) ?_;rintro _ ud ⟨rfl,ae⟩;refine Z3 ?_;refine hκ.out _ _ ⟨Aq ((((Keep.refl _).lay 1).trans ah).trans ae),?_⟩;clear hκ κ;refine A3 Ajp ⟨rfl,Ajn,Ajn,Ajn,Ajn,Ajn,Ajn,Ajn,(((Keep.refl _).lay 1).trans ah).trans ae⟩
  ·rintro e s' ud ⟨rfl,g20,g2,g3,g5,g8,g9,g10,ae⟩;have aw:=ax.trans ae;have knd:=ae.nobj;have oe:ud.obj (u.nobj+1)=[ic a.p,sl ida a.ts.length (Ac a.ts)]:=by rw[ae.obj _ Ajm,o3]
   clear h2 ay h8 h9 az h ab aj hd ap;cases ad:lO a w with
   |true=>
    have HP:Ajs (lO a w=true):=ad;rw[ad]at g20;clear ad;refine F4 g20 ?_
    repeat' (first|refine Z1 ?_|(refine Z8 ?_;intro κ hκ)|(refine Z4 ?_;clear hκ κ)|(refine Z2 ?_ ?_<;>intro h ab<;>try exact Xp)|refine Z3 ?_|exact⟨⟩|(apply hκ.out;clear hκ κ))
    first|exact⟨_,rfl,.inl ⟨i,w,rfl,HW.out,HP.out⟩⟩|exact⟨_,rfl,.inl ⟨i,w,rfl,HW.out,HP.out⟩,aw⟩
   |false=>
    have a0:Ajs (∀p∈L.take (i+1),lO a p=false):=HA.out ad;rw[ad]at g20;clear ad HA;refine E4 g20 ?_
    repeat' (first|refine Z1 ?_|(refine Z8 ?_;intro κ hκ)|(refine Z4 ?_;clear hκ κ)|(refine Z2 ?_ ?_<;>intro h ab<;>try exact Xp)|refine Z3 ?_|exact⟨⟩|(apply hκ.out;clear hκ κ))
    refine⟨L.length-(i+1),Ajm,i+1,?_⟩
    ((repeat' with_reducible refine And.intro ?_ ?_)<;>first|exact Xq|exact (a0)|exact Xs)
 ·have hil:i=L.length:=Ajm;subst hil;rw[Agw]at hA
  repeat' (first|refine Z1 ?_|(refine Z8 ?_;intro κ hκ)|(refine Z4 ?_;clear hκ κ)|(refine Z2 ?_ ?_<;>intro h ab<;>try exact Xp)|refine Z3 ?_|exact⟨⟩|(apply hκ.out;clear hκ κ))
  first|exact⟨_,rfl,.inr ⟨rfl,hA.out⟩,hK⟩|exact .inr ⟨rfl,hA.out⟩|exact⟨_,rfl,.inr ⟨rfl,hA.out⟩⟩
def PS (lo:Nat)(u:St)(x:AV)(n:Nat)(pc:List AV):Prop:=(x=nilS/\n=0/\pc=[])\/∃o cap,x=gx o n cap/\0<n/\n<=cap/\(u.obj o).length=cap*3/\(u.obj o).take (n*3)=pc/\lo<=o/\o<u.nobj
theorem Cn {u:St}{p o:Nat}{c:List AV}(h:o≠p):(u.put p c).obj o=u.obj o:=by simp[St.put,h]
theorem PS.flat {lo:Nat}{u:St}{x:AV}{n:Nat}{pc:List AV}(h:PS lo u x n pc):flat x=true:=by
 rcases h with⟨rfl,-,-⟩|⟨o,cap,rfl,-⟩<;>rfl
theorem PS.keep {lo:Nat}{u u':St}{x:AV}{n:Nat}{pc:List AV}(h:PS lo u x n pc)(k:Keep u u'):PS lo u' x n pc:=by
 rcases h with h|⟨o,cap,h1,h2,h3,h4,h5,h6,h7⟩
 ·exact .inl h
 ·have:=k.obj o h7;exact .inr ⟨o,cap,h1,h2,h3,by rw[this];exact h4,by rw[this];exact h5,h6,Agk h7 k.nobj⟩
theorem PS.put {lo:Nat}{u:St}{x:AV}{n:Nat}{pc:List AV}(h:PS lo u x n pc){p:Nat}(hp:p<lo)(c:List AV):PS lo (u.put p c) x n pc:=by
 rcases h with h|⟨o,cap,h1,h2,h3,h4,h5,h6,h7⟩
 ·exact .inl h
 ·have:(u.put p c).obj o=u.obj o:=Cn Ajm;exact .inr ⟨o,cap,h1,h2,h3,by rw[this];exact h4,by rw[this];exact h5,h6,h7⟩
theorem qN {P:Program}{t:TypeId}{b:Nat}{zc:List Value}{σ0 u:St}{id2 n lo:Nat}{x:AV}{xs ys:List AV}{K:AV->St->Prop}(ht:Nm P t=some (3,b,zc))(hzc:zc.length=3)(hy:ys.length=3)(hf:ys.all Abs.flat=true)(hb:(n+1)*b<=140737488355328)(hl:n+1<=1099511627776)
  (ac:lo<=u.nobj) (h0:σ0.nobj<=lo) (hK:Keep σ0 u) (hx:PS lo u x n xs) (h:∀x' u',PS lo u' x' (n+1) (xs++ys)->u.nobj<=u'.nobj->(∀p,p<lo->u'.obj p=u.obj p)->Keep σ0 u'->K x' u'):Ib P t t x (sl id2 1 ys) u K:=by
 refine jV (xs:=xs) ht Ajm hzc Ajm hf Ajm hb hl ?_ ?_ ?_
 ·rcases hx with h|⟨o,cap,h1,h2,h3,h4,h5,-,-⟩
  ·exact .inl h
  ·exact .inr ⟨o,cap,h1,h2,h3,h4,h5⟩
 ·rintro o cap cs ⟨c0,e1,e2,rfl⟩ ab aa;rcases hx with⟨rfl,-,-⟩|⟨o',cap',rfl,h2,h3,h4,h5,h6,h7⟩
  ·simp at e1
  ·simp at e1;obtain⟨rfl,rfl⟩:=e1;refine h _ _ (.inr ⟨_,_,rfl,Ajm,e2,by rw[Ak];exact ab,by rw[Ak];exact aa,h6,h7⟩) (Agi _) (fun p hp=>Cn Ajm) (hK.put Ajm _)
 ·intro cap cs ab hc aa;exact h _ _ (.inr ⟨_,_,rfl,Ajm,hc,by rw[Ap];exact ab,by rw[Ap];exact aa,ac,Ajq⟩) Ajq (fun p hp=>Ag Ajm) (hK.new _)
theorem jH {P:Program}{N:Nat}{c:Code}{Q:Hg}{s:Sl}{σ0 u:St}{lo p j n:Nat}{ys pc:List AV}{x:AV}(hK:Keep σ0 u)(h0:σ0.nobj<=lo)(ab:σ0.nobj<=p)(hp:p<lo)(ac:lo<=u.nobj)(hx:PS lo u x n pc)(hy:u.obj p=ys)(hj:ys[j]?=some x)
  (h:∀(ip:Nat) (u':St),Keep σ0 u'->u'.nobj=u.nobj->u'.obj p=ys.set j (sl ip n pc)->(∀o,o<lo->o≠p->u'.obj o=u.obj o)->Kf P N c Q s u'):Kf P N c Q s u:=by
 rcases hx with⟨rfl,rfl,rfl⟩|⟨o,cap,rfl,h2,h3,h4,h5,h6,h7⟩
 ·refine h 1 u hK rfl ?_ (fun _ _ _=>rfl);rw[hy];apply Ag4;intro i;by_cases e:j=i
  ·subst e;rw[List.getElem?_set_self (List.getElem?_eq_some_iff.1 hj).1,hj]
  ·rw[List.getElem?_set_ne e]
 ·refine V9 (o:=o) (p:=p) (k:=n*3) h7 Ajm Ajm hy hj (by rw[h4];omega) ?_;rw[h5];exact h 0 _ ((hK.put Ajm _).put ab _) rfl Ak (fun q hq aa=>by rw[Cn aa,Cn Ajm])
theorem xU {l c:List AV}{off m:Nat}(h1:off+c.length<=m)(h2:m<=l.length):(lsp l off c).take m=lsp (l.take m) off c:=by
 rw[Gl _ _ _ Ajm,Gl _ _ _ (by rw[Ahb];omega),List.take_take,Ahf Ajm,List.drop_take,List.take_append];rw[Aha,Ahb,Ahf Ajm,Ahu (by rw[Aha,Ahb];omega)]
theorem Aan {α:Type}{E:α->List AV->Prop}{z:Nat}(hz:∀a c,E a c->c.length=z):∀{l:List α} {cs:List AV} {i:Nat} {a:α} {c:List AV},EL E l cs->i<l.length->E a c->EL E (l.set i a) (lsp cs (i*z) c)
 |[],_,i,_,_,_,hi,_=>by simp at hi
 |b::l,cs,0,a,c,⟨d,r,h1,h2,e⟩,hi,ha=>by
  subst e;have e1:=hz _ _ h1;have e2:=hz _ _ ha;refine⟨c,r,ha,h2,?_⟩;rw[Ag7,Gl _ _ _ (by simp;omega)];simp[show c.length=d.length by omega]
 |b::l,cs,i+1,a,c,⟨d,r,h1,h2,e⟩,hi,ha=>by
  subst e;have e1:=hz _ _ h1;have e2:=hz _ _ ha;have hr:=EL.length hz h2;have aa:i<l.length:=by simpa using hi
  have hb:i*z+z<=r.length:=by rw[hr,<-Ag0];exact Agn _ aa
  refine⟨d,lsp r (i*z) c,h1,Aan hz h2 aa ha,?_⟩;rw[Gl c (d++r) _ (by rw[Aha,Ag0,e1,e2];omega),Gl c r _ (by rw[e2];omega)];rw[Ag0,<-e1,Nat.add_comm (i*d.length),List.take_length_add_append,Agx,List.drop_length_add_append];simp
theorem PS.set {lo:Nat}{u:St}{o cap n i:Nat}{pc c:List AV}(h:PS lo u (gx o n cap) n pc)(hi:i<n)(hc:c.length=3):PS lo (u.put o (lsp (u.obj o) (i*3) c)) (gx o n cap) n (lsp pc (i*3) c):=by
 rcases h with⟨h,-,-⟩|⟨o',cap',e,h2,h3,h4,h5,h6,h7⟩
 ·simp at h
 ·simp at e;obtain⟨rfl,rfl⟩:=e;refine .inr ⟨o,cap,rfl,h2,h3,by rw[Ak,Ix];exact h4,?_,h6,h7⟩;rw[Ak,xU (by rw[hc];omega) (by rw[h4];omega),h5]
theorem mV (lo:Nat)(h0 h1 h3:AV)(hf:([h0,h1,h3]:List AV).all flat=true)(L:List Part)(hL:∀p∈L,p.a.ts.length<=3)(aa:L.length<=64)(X:AV)(pc:List AV)(hP:EL Mk L pc)(a:Df)(ida:Nat)(ha:a.ts.length<=3)(u:St)(hX:PS lo u X L.length pc):ACalls Tryz.prog 218 [ag [h0,h1,X,h3],ag [ic a.p,sl ida a.ts.length (Ac a.ts)]] u fun r u'=>((∃(i:Nat) (p:Part),r=ic i/\L[i]?=some p/\lO a p=true)\/(r=ic (-1)/\∀p∈L,lO a p=false))/\Keep u u':=by
 rcases hX with⟨rfl,hn,-⟩|⟨o,cap,rfl,h2,hc,h4,h5,h6,h7⟩
 ·refine ACalls.mono (iV h0 h1 h3 hf a ida u) ?_;rintro r u' ⟨rfl,hK⟩;have:L=[]:=Agu hn;subst this;exact⟨.inr ⟨rfl,by simp⟩,hK⟩
 ·exact iU h0 h1 h3 hf L hL aa o cap pc hP a ida ha u h7 hc h4 h5
structure RdS (neg:Int->Bc->Prop)(q:Qry)(k:Nat)(L:List Part)(Nn:List Df):Prop where
 atm:L.map (·.a)=q.parts.map (·.a)
 sub:∀p∈L,∃p0∈q.parts,p.a=p0.a/\p.tups.Sublist p0.tups
 nsub:Nn.Sublist (q.nots.take k)
 uns:∀a∈Nn,Hw a.ts=false
 sol:∀ν,((∀p∈q.parts,Bf p.a ν∈p.tups)/\∀a∈q.nots.take k,¬neg a.p (Bf a ν))↔((∀p∈L,Bf p.a ν∈p.tups)/\∀a∈Nn,¬neg a.p (Bf a ν))
theorem RdS.start (neg:Int->Bc->Prop)(q:Qry):RdS neg q 0 q.parts []:=
 ⟨rfl,fun p hp=>⟨p,hp,rfl,Ai9 _⟩,by simp,by simp,fun ν=>by simp⟩
theorem Ig {α:Type}{l:List α}{k:Nat}{a:α}(h:l[k]?=some a):l.take (k+1)=l.take k++[a]:=by rw[Agz,h,Aia]
theorem RdS.keepN {neg:Int->Bc->Prop}{q:Qry}{k:Nat}{L:List Part}{Nn:List Df}{a:Df}(h:RdS neg q k L Nn)(ha:q.nots[k]?=some a)(hs:Hw a.ts=false):RdS neg q (k+1) L (Nn++[a]):=by
 refine⟨h.atm,h.sub,by rw[Ig ha];exact h.nsub.append (Ai9 _),fun b hb=>?_,fun ν=>?_⟩
 ·rcases Ahs.1 hb with hb|hb
  ·exact h.uns b hb
  ·simp at hb;subst hb;exact hs
 ·have:=h.sol ν;rw[Ig ha];simp only[Ahs,Aib,or_imp,forall_and,forall_eq];rw[<-and_assoc,this,and_assoc]
theorem RdS.drop {neg:Int->Bc->Prop}{q:Qry}{k:Nat}{L:List Part}{Nn:List Df}{a:Df}(h:RdS neg q k L Nn)(ha:q.nots[k]?=some a)(hs:∀ν,¬neg a.p (Bf a ν)):RdS neg q (k+1) L Nn:=by
 refine⟨h.atm,h.sub,by rw[Ig ha];exact h.nsub.trans (List.sublist_append_left _ _),h.uns,fun ν=>?_⟩;have:=h.sol ν;rw[Ig ha];simp only[Ahs,Aib,or_imp,forall_and,forall_eq];rw[<-and_assoc,this];exact and_iff_left (hs ν)
theorem RdS.bar {neg:Int->Bc->Prop}{q:Qry}{k i:Nat}{L:List Part}{Nn:List Df}{a:Df}{p:Part}{l:List Bc}(h:RdS neg q k L Nn)(ha:q.nots[k]?=some a)(hp:L[i]?=some p)(h3:p.a.ts.length<=3)(hw:lO a p=true)(hn:∀t,neg a.p t↔t∈l):RdS neg q (k+1) (L.set i (On l a p)) Nn:=by
 have hi:=(List.getElem?_eq_some_iff.1 hp).1;have ac:=Agp hp;refine⟨?_,fun p' aa=>?_,by rw[Ig ha];exact h.nsub.trans (List.sublist_append_left _ _),h.uns,fun ν=>?_⟩
 ·rw[<-h.atm];apply Ag4;intro n;rw[List.getElem?_map,List.getElem?_map];by_cases e:i=n
  ·subst e;rw[List.getElem?_set_self hi,hp];rfl
  ·rw[List.getElem?_set_ne e]
 ·rcases Ai3 aa with h1|rfl
  ·exact h.sub p' h1
  ·obtain⟨p0,g1,g2,g3⟩:=h.sub p ac;exact⟨p0,g1,g2,Aja.trans g3⟩
 ·have hs:=h.sol ν;rw[Ig ha];simp only[Ahs,Aib,or_imp,forall_and,forall_eq];rw[<-and_assoc,hs,hn];have hb:=Acv (l:=l) (a:=a) (p:=p) (ν:=ν) h3 (pwB_iff.1 hw);have hL:(∀p'∈L.set i (On l a p),Bf p'.a ν∈p'.tups)↔(∀p'∈L,Bf p'.a ν∈p'.tups)/\Bf a ν∉l:=by
   constructor
   ·intro g;have g1:=hb.1 (g (On l a p) (List.mem_set hi _));refine⟨fun p' aa=>?_,g1.2⟩;obtain⟨n,ab⟩:=List.getElem?_of_mem aa;by_cases e:i=n
    ·subst e;rw[hp]at ab;cases ab;exact g1.1
    ·exact g p' (Agp (by rw[List.getElem?_set_ne e];exact ab))
   ·rintro⟨g1,g2⟩ p' aa;rcases Ai3 aa with h1|rfl
    ·exact g1 p' h1
    ·exact hb.2 ⟨g1 p ac,g2⟩
  rw[hL];constructor
  ·rintro⟨⟨x,y⟩,z⟩;exact⟨⟨x,z⟩,y⟩
  ·rintro⟨⟨x,z⟩,y⟩;exact⟨⟨x,y⟩,z⟩
end Go.Proofs.YtmoeoppbmhfbpabGreatDoorL
