import Derived.Test.YtmoeoppbmhfbpabGreatDoorHEngU
import Derived.Test.YtmoeoppbmhfbpabGreatDoorHRerA
set_option linter.all false
namespace Go.Proofs.YtmoeoppbmhfbpabGreatDoorH
set_option maxHeartbeats 32000000
open Go.Abs
set_option maxRecDepth 100000
theorem Ng {a:C3}(h:H1 a.ts=true)(ν:Nu):Bq a ν=Cq a:=by
 unfold Bq Cq;congr 1;apply Aco;intro t ht;unfold H1 at h;rw[Abg]at h;have:=h t ht;obtain⟨b,w⟩:=t;cases b with
 |false=>rfl
 |true=>simp at this
def iF (t:Ca)(ts:List Tm)(x:Tm×Nat):List Tm:=if x.1.1=true then Bh x.1.2 (Gy t (x.2:Nat)) ts else ts
def N8 (ps:List Tm)(t:Ca)(ts:List Tm):List Tm:=ps.zipIdx.foldl (iF t) ts
def Mp (l:List Ca)(a:C3)(p:Part):Part:=⟨p.a,p.tups.filter fun t=>!decide (Cq ⟨a.p,N8 p.a.ts t a.ts⟩∈l)⟩
theorem oD (ps:List Tm)(x:Tm)(t:Ca)(ts:List Tm):N8 (ps++[x]) t ts=iF t (N8 ps t ts) (x,ps.length):=by
 unfold N8;rw[List.zipIdx_append,Adh];simp
theorem pC (μ:Nu)(v:Int):Lm μ v (μ v)=μ:=by
 funext w;unfold Lm;split
 ·rename_i e;rw[e]
 ·rfl
theorem kX {t:Ca}{v:Int}:∀(l:List (Tm×Nat)) (ts:List Tm),Bc (l.foldl (iF t) ts) v=true->Bc ts v=true/\∀x∈l,x.1≠(true,v)
 |[],ts,h=>⟨h,by simp⟩
 |x::l,ts,h=>by
  rw[Abm]at h;obtain⟨h1,h2⟩:=kX l _ h;unfold iF at h1;obtain⟨⟨xb,xv⟩,xi⟩:=x;cases xb with
  |false=>
   simp only[Ab7,if_false]at h1
   exact⟨h1,fun y hy=>by
    rcases Ace.1 hy with rfl|hy
    ·simp
    ·exact h2 y hy⟩
  |true=>
   simp only[if_true]at h1;have:=(hasV_put (a:=⟨0,ts⟩)).1 h1
   exact⟨this.1,fun y hy=>by
    rcases Ace.1 hy with rfl|hy
    ·simp only[ne_eq,Prod.mk.injEq,true_and];exact fun e=>this.2 e.symm
    ·exact h2 y hy⟩
theorem wI {pa a:C3}{μ:Nu}(h3:pa.ts.length<=3)(hv:∀v,Bc a.ts v=true->Bc pa.ts v=true):Cq ⟨a.p,N8 pa.ts (Bq pa μ) a.ts⟩=Bq a μ:=by
 have key:∀(l:List (Tm×Nat)) (ts:List Tm),(∀x∈l,pa.ts[x.2]?=some x.1)->Bq ⟨a.p,l.foldl (iF (Bq pa μ)) ts⟩ μ=Bq ⟨a.p,ts⟩ μ:=by
  intro l;induction l with
  |nil=>intro ts _;rfl
  |cons x l ih=>
   intro ts hl;rw[Abm,ih _ (fun y hy=>hl y (Ach _ hy))];unfold iF;split
   ·rename_i hx;obtain⟨⟨xb,xv⟩,xi⟩:=x;simp only at hx;subst hx;have hg:pa.ts[xi]?=some (true,xv):=hl _ Acf;have aa:=(List.getElem?_eq_some_iff.1 hg).1;have ht:Gy (Bq pa μ) ((xi:Nat):Int)=μ xv:=by
     unfold Gy;rw[Adk,Bq,Im (by simpa using aa) (by simpa using h3)];have:=(List.getElem?_eq_some_iff.1 hg).2;simp[this,He]
    show Bq ⟨a.p,Bh xv (Gy (Bq pa μ) ((xi:Nat):Int)) ts⟩ μ=_;rw[ht];have:=Ja ⟨a.p,ts⟩ xv (μ xv) μ;rw[pC]at this;exact this
   ·rfl
 have hz:∀x∈pa.ts.zipIdx,pa.ts[x.2]?=some x.1:=fun x hx=>by
  obtain⟨y,i⟩:=x;exact List.mem_zipIdx_iff_getElem?.1 hx
 have h1:=key pa.ts.zipIdx a.ts hz;have h2:H1 (N8 pa.ts (Bq pa μ) a.ts)=true:=by
  unfold H1;rw[Abg];intro t ht;obtain⟨b,w⟩:=t;cases b with
  |false=>rfl
  |true=>
   exfalso;obtain⟨g1,g2⟩:=kX pa.ts.zipIdx a.ts (hasV_iff.2 ht);have:=hasV_iff.1 (hv w g1);obtain⟨i,hi⟩:=List.getElem?_of_mem this;exact g2 ((true,w),i) (List.mem_zipIdx_iff_getElem?.2 hi) rfl
 rw[<-Ng (a:=⟨a.p,N8 pa.ts (Bq pa μ) a.ts⟩) h2 μ];exact h1
theorem wJ {l:List Ca}{a:C3}{p:Part}{ν:Nu}(h3:p.a.ts.length<=3)(hv:∀v,Bc a.ts v=true->Bc p.a.ts v=true):Bq p.a ν∈(Mp l a p).tups↔Bq p.a ν∈p.tups/\Bq a ν∉l:=by
 unfold Mp;rw[Adi,wI h3 hv];simp
theorem Yp (om ot:Nat)(M:MM)(d b:Int)(p:Part)(a:C3)(id idt ida k:Nat)(x:Nat×List Ca)(b6:p.a.ts.length<=3)(b5:p.tups.length<=5000)(h3:T3 p.tups)(ha:a.ts.length<=3)(hk:a.p=(k:Int))(hx:M[k]?=some x)(u:St)(hM:MOb u om ot M d b):ACalls Tryz.prog 219 [ptr om 0,ag [ic p.a.p,sl id p.a.ts.length (Ac p.a.ts),sl idt p.tups.length (D9 p.tups)],ag [ic a.p,sl ida a.ts.length (Ac a.ts)]] u fun r u'=>(∃idn,r=ag [ic p.a.p,sl id p.a.ts.length (Ac p.a.ts),sl idn (Mp x.2 a p).tups.length (D9 (Mp x.2 a p).tups)])/\Keep u u':=by
 have b4:=H5 h3;have ca:=Ce p.a.ts;have HR:Ad8 ((Mp x.2 a p).tups=p.tups.filter fun t=>!decide (Cq ⟨a.p,N8 p.a.ts t a.ts⟩∈x.2)):=rfl;have a8:Ad8 (∀(ts:List Tm) (i:Nat) (u1:St),ts.length<=3->Keep u u1->ACalls Tryz.prog 81 [ptr om 0,ag [ic a.p,sl i ts.length (Ac ts)]] u1 fun r u'=>r=sc (.bool (decide (Cq ⟨a.p,ts⟩∈x.2)))/\Keep u1 u'):=fun ts i u1 h1 h2=>Hq om ot M d b ⟨a.p,ts⟩ i k x h1 hk hx u1 (hM.keep h2);generalize hG:(fun t:Ca=>Cq ⟨a.p,N8 p.a.ts t a.ts⟩)=bT at*
 have HG:Ad8 (∀t,bT t=Cq ⟨a.p,N8 p.a.ts t a.ts⟩):=fun t=>by rw[<-hG]
 have bz:Ad8 ((Mp x.2 a p).tups=p.tups.filter fun t=>!decide (bT t∈x.2)):=by
  rw[Ad8,HR.out];congr 1;funext t;rw[HG.out t]
 clear hG HR hk hx hM;generalize Mp x.2 a p=bp at*
 refine Z9 55 [.cell 6 239] Tryz.func219 ?_
 repeat' (first|refine Z1 ?_|(refine Z8 ?_;intro κ hκ)|(refine Z4 ?_;clear hκ κ)|(refine Z2 ?_ ?_<;>intro h ae<;>try exact Xp)|(refine Z6 ?_;intro idn un ah ai ac ab ad aa)|refine Z3 ?_|exact⟨⟩|(apply hκ.out;clear hκ κ))
 refine Ad (fun m s u'=>∃(i i3:Nat) (o:List Ca) (xs:List AV),m=p.tups.length-i/\i<=p.tups.length/\s 0=ptr om 0/\s 4=ptr u.nobj 0/\s 5=ptr (u.nobj+1) 0/\s 6=ptr (u.nobj+2) 0/\s 7=ptr (u.nobj+3) 0/\s 17=sl idt p.tups.length (D9 p.tups)/\s 18=ic p.tups.length/\s 19=ic i/\Keep u u'/\u.nobj+3<u'.nobj/\u'.obj u.nobj=[ic p.a.p,sl id p.a.ts.length (Ac p.a.ts),sl idt p.tups.length (D9 p.tups)]/\u'.obj (u.nobj+1)=[ic a.p,sl ida a.ts.length (Ac a.ts)]/\u'.obj (u.nobj+2)=[ic 0,nilS,nilS]/\u'.obj (u.nobj+3)=[ic p.a.p,sl id p.a.ts.length (Ac p.a.ts),sl i3 o.length xs]/\Own u u' i3 o.length/\o.length<=i/\xs.length=o.length*3/\Ad8 (xs=D9 o/\o=(p.tups.take i).filter fun t=>!decide (bT t∈x.2))) p.tups.length
  ⟨0,1,[],[],Ad2,Ad2,by simp[upd,initS],Ad4,Ad4,Ad4,Ad4,Ad4,Ad4,rfl,Xs,Ad7,?_,?_,?_,?_,Own.nil _ _,by simp,by simp,⟨rfl,by simp⟩⟩ ?_
 ·rw[Ai Ad2,Ae Ad6,Ae Ad6,Ae Ad6,Am]
 ·rw[Ai Ad2,Ae Ad6,Ae Ad6,Bp Ad6 Ad6]
 ·rw[Ai Ad2,Ae Ad6,Bp Ad6 Ad6]
 ·rw[show u.nobj+3=u.nobj+1+1+1 from rfl,Aj];simp
 rintro m s u' ⟨i,i3,o,xs,rfl,hi,h0,h4,h5,h6,h7,bb,ba,a9,hK,b8,b2,b1,b0,bf,hO,b7,bg,hX⟩;have b3:=hK.nobj;by_cases bh:i<p.tups.length
 ·have am:=List.getElem?_eq_getElem bh;obtain⟨ao,r,hd⟩:=Io h3 am;generalize p.tups[i]=t at hd am ao;have HF:Ad8 ((p.tups.take (i+1)).filter (fun t=>!decide (bT t∈x.2))=(p.tups.take i).filter (fun t=>!decide (bT t∈x.2))++if (!decide (bT t∈x.2))=true then [t]else []):=by
   rw[Ad8,Abq,am,Ac2,Dr]
  clear am;have f1:=Gs ao;have f2:=Le ao;have f3:=Hn ao;have f4:=Ml ao;have f5:=Ee t;have f6:=Wl ao
  repeat' (first|refine Z1 ?_|(refine Z8 ?_;intro κ hκ)|(refine Z4 ?_;clear hκ κ)|(refine Z2 ?_ ?_<;>intro h ae<;>try exact Xp)|(refine Z6 ?_;intro idn un ah ai ac ab ad aa)|refine Z3 ?_|exact⟨⟩|(apply hκ.out;clear hκ κ))
  refine Ad (fun m s u2=>∃(j idj:Nat) (ts:List Tm),m=p.a.ts.length-j/\j<=p.a.ts.length/\s 0=ptr om 0/\s 4=ptr u.nobj 0/\s 5=ptr (u.nobj+1) 0/\s 6=ptr (u.nobj+2) 0/\s 7=ptr (u.nobj+3) 0/\s 9=ptr u'.nobj 0/\s 10=ptr (u'.nobj+1) 0/\s 17=sl idt p.tups.length (D9 p.tups)/\s 18=ic p.tups.length/\s 19=ic i/\s 26=sl id p.a.ts.length (Ac p.a.ts)/\s 27=ic p.a.ts.length/\s 28=ic j/\Keep u' u2/\u'.nobj+1<u2.nobj/\u2.obj u'.nobj=Ar t/\u2.obj (u'.nobj+1)=[ic a.p,sl idj ts.length (Ac ts)]/\ts.length<=3/\Ad8 (ts=N8 (p.a.ts.take j) t a.ts)) p.a.ts.length
   ⟨0,ida,a.ts,Ad2,Ad2,Ad3,Ad3,Ad3,Ad3,Ad3,Ad3,Ad3,Ad3,Ad3,Ad3,Ad3,Ad3,Ad4,Xs,Ad7,?_,?_,ha,rfl⟩ ?_
  ·rw[Ai Ad2,Ae Ad7,Aj]
  ·rw[Aj]
  clear h0 h4 h5 h6 h7 bb ba a9;rintro m s u2 ⟨j,idj,ts,rfl,hj,h0,h4,h5,h6,h7,h9,bw,bb,ba,a9,bv,bu,br,an,a5,oc0,oc1,bd,hT⟩;have ar:=an.nobj;by_cases au:j<p.a.ts.length
  ·have af:=List.getElem?_eq_getElem au;obtain⟨rj,bo⟩:=Cg af;generalize p.a.ts[j]=w at bo af;obtain⟨w1,w2⟩:=w;have aw:t[j]?=some t[j]:=List.getElem?_eq_getElem Ad2;have bm:=Mm aw;have a4:Ad8 (Gy t (j:Nat)=t[j]):=by simp[Ad8,Gy,aw]
   generalize t[j]=y at aw bm a4;have HT:Ad8 (N8 (p.a.ts.take (j+1)) t a.ts=if w1=true then Bh w2 y ts else ts):=by
    rw[Ad8,Abq,af,Ac2,oD,Ab3,Ab6 hj,<-hT.out];unfold iF;simp only[a4.out]
   clear af aw a4 hT;cases w1 with
   |false=>
    have bc:Ad8 (ts=N8 (p.a.ts.take (j+1)) t a.ts):=by rw[Ad8,HT.out];rfl
    clear HT
    repeat' (first|refine Z1 ?_|(refine Z8 ?_;intro κ hκ)|(refine Z4 ?_;clear hκ κ)|(refine Z2 ?_ ?_<;>intro h ae<;>try exact Xp)|(refine Z6 ?_;intro idn un ah ai ac ab ad aa)|refine Z3 ?_|exact⟨⟩|(apply hκ.out;clear hκ κ))
    refine⟨p.a.ts.length-(j+1),Ad2,j+1,idj,ts,?_⟩
    ((repeat' with_reducible refine And.intro ?_ ?_)<;>first|exact Xq|exact (bc)|exact Xs)
   |true=>
    have bc:Ad8 (Bh w2 y ts=N8 (p.a.ts.take (j+1)) t a.ts):=by rw[Ad8,HT.out];rfl
    clear HT;have bq:=fun u=>Lh a.p idj ts w2 y Ad2 u;have bn:(Bh w2 y ts).length<=3:=by simpa[Bh]using bd
    repeat' (first|refine Z1 ?_|(refine Z8 ?_;intro κ hκ)|(refine Z4 ?_;clear hκ κ)|(refine Z2 ?_ ?_<;>intro h ae<;>try exact Xp)|(refine Z6 ?_;intro idn un ah ai ac ab ad aa)|refine Z3 ?_|exact⟨⟩|(apply hκ.out;clear hκ κ))
    have be:Keep u' ((u2.new [sc (.bool false),ic 0]).put u2.nobj [sc (.bool true),ic w2]):=(an.new _).put ar _;refine Br (Q:=fun e s' u''=>e= .normal/\s' 0=ptr om 0/\s' 4=ptr u.nobj 0/\s' 5=ptr (u.nobj+1) 0/\s' 6=ptr (u.nobj+2) 0/\s' 7=ptr (u.nobj+3) 0/\s' 9=ptr u'.nobj 0/\s' 10=ptr (u'.nobj+1) 0/\s' 17=sl idt p.tups.length (D9 p.tups)/\s' 18=ic p.tups.length/\s' 19=ic i/\s' 26=sl id p.a.ts.length (Ac p.a.ts)/\s' 27=ic p.a.ts.length/\s' 28=ic j/\Keep u' u''/\u'.nobj+1<u''.nobj/\u''.obj u'.nobj=Ar t/\∃idn,u''.obj (u'.nobj+1)=[ic a.p,sl idn (Bh w2 y ts).length (Ac (Bh w2 y ts))]) ?_ ?_
    ·refine A4 Ak (fun _=>True) [7] [0,1,2,3,4,5] 2 #[true,true,true,true,true,true,false,false] Ad5 (fun _ _ _ h=>by cases h.1) ?_;intro κ hκ;refine Z3 ?_;refine hκ.out _ ?_;clear hκ κ;refine Al (i:=6) Ad5 ?_;refine Aq ?_;intro κ hκ;refine Z3 ?_;refine ACalls.mono (bq _) ?_;rintro _ ub ⟨⟨idn,rfl⟩,ax⟩;have knb:=ax.nobj;simp only[Ab,Aa]at knb;have a0:=ax.obj;simp only[Ab,Aa]at a0;have og0:ub.obj u'.nobj=Ar t:=by rw[a0 _ Ad2,Ai Ad2,Ae Ad2,oc0]
     have og1:ub.obj (u'.nobj+1)=[ic a.p,sl idj ts.length (Ac ts)]:=by rw[a0 _ Ad2,Ai Ad2,Ae Ad2,oc1]
     refine Z3 ?_;refine hκ.out _ _ ⟨Ao ax,?_⟩;clear hκ κ;refine Al (i:=7) Ad5 ?_;refine Aq ?_;intro κ hκ;refine Z3 ?_;refine hκ.out _ _ ⟨Bo rfl,?_⟩;clear hκ κ;refine A7 Ad5 ⟨rfl,Ad3,Ad3,Ad3,Ad3,Ad3,Ad3,Ad3,Ad3,Ad3,Ad3,Ad3,Ad3,Ad3,(be.trans ax).put Ad2 _,by simp only[Ab];omega,by rw[Ai Ad2,og0],idn,Aj⟩
    ·rintro e s2 u3 ⟨rfl,g0,g4,g5,g6,g7,g9,g10,g17,g18,g19,g26,g27,g28,cb,b9,oe0,idn,oe1⟩;clear h0 h4 h5 h6 h7 h9 bw bb ba a9 bv bu br oc0 oc1 be an ar a5
     repeat' (first|refine Z1 ?_|(refine Z8 ?_;intro κ hκ)|(refine Z4 ?_;clear hκ κ)|(refine Z2 ?_ ?_<;>intro h ae<;>try exact Xp)|(refine Z6 ?_;intro idn un ah ai ac ab ad aa)|refine Z3 ?_|exact⟨⟩|(apply hκ.out;clear hκ κ))
     refine⟨p.a.ts.length-(j+1),Ad2,j+1,idn,Bh w2 y ts,?_⟩
     ((repeat' with_reducible refine And.intro ?_ ?_)<;>first|exact Xq|exact (bc)|exact Xs)
  ·have bi:j=p.a.ts.length:=Ad2;subst bi;have HB:Ad8 (Cq ⟨a.p,ts⟩=bT t):=by
    rw[Ad8,HG.out t,hT.out,Abn]
   have av:=fun u1 hh=>a8.out ts idj u1 bd hh;rw[HB.out]at av;have ay:=hK.trans an;clear hT HB hj au;cases ap:decide (bT t∈x.2)with
   |true=>
    have HX:Ad8 (xs=D9 o/\o=(p.tups.take (i+1)).filter fun t=>!decide (bT t∈x.2)):=by
     obtain⟨x1,x2⟩:=hX.out;refine⟨x1,?_⟩;rw[HF.out,ap,x2];simp
    rw[ap]at av;clear hX HF ap
    repeat' (first|refine Z1 ?_|(refine Z8 ?_;intro κ hκ)|(refine Z4 ?_;clear hκ κ)|(refine Z2 ?_ ?_<;>intro h ae<;>try exact Xp)|(refine Z6 ?_;intro idn un ah ai ac ab ad aa)|(refine Z5 ?_;refine Xi (av _ ay) ?_;rintro _ _ ⟨rfl,aj⟩;(have a3:=aj.nobj;have ak:=(an.trans aj).obj;have a7:=ay.trans aj;have a6:=Own.keep hO (an.trans aj)))|refine Z3 ?_|exact⟨⟩|(apply hκ.out;clear hκ κ))
    refine⟨p.tups.length-(i+1),Ad2,i+1,i3,o,xs,?_⟩
    ((repeat' with_reducible refine And.intro ?_ ?_)<;>first|exact Xq|exact (a7)|exact (a6)|exact (HX)|exact (by rw[ak _ Ad2];assumption)|exact Xs)
   |false=>
    have HX:Ad8 (xs++Ar t=D9 (o++[t])/\o++[t]=(p.tups.take (i+1)).filter fun t=>!decide (bT t∈x.2)):=by
     obtain⟨x1,x2⟩:=hX.out;refine⟨by rw[x1,Na],?_⟩;rw[HF.out,ap,<-x2];simp
    rw[ap]at av;clear hX HF ap
    repeat' (first|refine Z1 ?_|(refine Z8 ?_;intro κ hκ)|(refine Z4 ?_;clear hκ κ)|(refine Z2 ?_ ?_<;>intro h ae<;>try exact Xp)|(refine Z6 ?_;intro idn un ah ai ac ab ad aa)|(refine Z5 ?_;refine Xi (av _ ay) ?_;rintro _ _ ⟨rfl,aj⟩;(have a3:=aj.nobj;have ak:=(an.trans aj).obj;have az:=aj.obj;have a7:=ay.trans aj;have a6:=Own.keep hO (an.trans aj)))|refine Z3 ?_|exact⟨⟩|(apply hκ.out;clear hκ κ))
    rename_i u5;have oh0:u5.obj u'.nobj=Ar t:=by rw[az _ Ad2,oc0]
    have oh3:u5.obj (u.nobj+3)=[ic p.a.p,sl id p.a.ts.length (Ac p.a.ts),sl i3 o.length xs]:=by rw[ak _ Ad2,bf]
    repeat' (first|refine Z1 ?_|(refine Z8 ?_;intro κ hκ)|(refine Z4 ?_;clear hκ κ)|(refine Z2 ?_ ?_<;>intro h ae<;>try exact Xp)|(refine Z6 ?_;intro idn un ah ai ac ab ad aa)|refine Z3 ?_|exact⟨⟩|(apply hκ.out;clear hκ κ))
    refine Bj (by first|exact Fj) (a7) (a6) (by decide) (by rfl) (bg) (by rw[f1]) (f5) (by decide) Ad2 Ad2 ?_;intro idn un ah ai ac ab ad aa;have eob:∀q,q<u'.nobj->un.obj q=u'.obj q:=fun q hq=>by rw[ac,ak _ hq]
    refine Z3 ?_
    repeat' (first|refine Z1 ?_|(refine Z8 ?_;intro κ hκ)|(refine Z4 ?_;clear hκ κ)|(refine Z2 ?_ ?_<;>intro h ae<;>try exact Xp)|(refine Z6 ?_;intro idn un ah ai ac ab ad aa)|refine Z3 ?_|exact⟨⟩|(apply hκ.out;clear hκ κ))
    refine⟨p.tups.length-(i+1),Ad2,i+1,idn,o++[t],xs++Ar t,?_⟩
    ((repeat' with_reducible refine And.intro ?_ ?_)<;>first|exact Xq|exact (ai.put Ad2 _)|exact (by simpa using Own.put ah _ _)|exact (HX)|exact Xs)
 ·have bl:i=p.tups.length:=Ad2;subst bl;obtain⟨x1,x2⟩:=hX.out;rw[Abn]at x2
  repeat' (first|refine Z1 ?_|(refine Z8 ?_;intro κ hκ)|(refine Z4 ?_;clear hκ κ)|(refine Z2 ?_ ?_<;>intro h ae<;>try exact Xp)|(refine Z6 ?_;intro idn un ah ai ac ab ad aa)|refine Z3 ?_|exact⟨⟩|(apply hκ.out;clear hκ κ))
  exact⟨_,rfl,⟨_,by rw[bz.out,<-x2]<;>first|rfl|rw[x1]⟩,hK.put Ad2 _⟩
def fS (a:C3)(p:Part):Bool:=(Cb [a]).all (Bc p.a.ts)
theorem pwB_iff {a:C3}{p:Part}:fS a p=true↔∀v,Bc a.ts v=true->Bc p.a.ts v=true:=by
 unfold fS;rw[Abg];constructor
 ·intro h v hv;exact h v ((Cv _ _).2 ⟨a,by simp,hasV_iff.1 hv⟩)
 ·intro h v hv;obtain⟨b,hb,aa⟩:=(Cv _ _).1 hv;simp at hb;subst hb;exact h v (hasV_iff.2 aa)
theorem dE (h0 h1 h3:AV)(hf:([h0,h1,h3]:List AV).all flat=true)(a:C3)(ida:Nat)(u:St):ACalls Tryz.prog 218 [ag [h0,h1,nilS,h3],ag [ic a.p,sl ida a.ts.length (Ac a.ts)]] u fun r u'=>r=ic (-1)/\Keep u u':=by
 simp only[List.all_cons,List.all_nil,Bool.and_true,Abj]at hf;obtain⟨f0,f1,f3⟩:=hf;refine Z9 23 [.tmp 4] Tryz.func218 ?_
 repeat' (first|refine Z1 ?_|(refine Z8 ?_;intro κ hκ)|(refine Z4 ?_;clear hκ κ)|(refine Z2 ?_ ?_<;>intro h aa<;>try exact Xp)|refine Z3 ?_|exact⟨⟩|(apply hκ.out;clear hκ κ))
 refine Ad (fun m s u'=>m=0/\s 9=ic 0/\s 10=ic 0/\Keep u u') 0
  ⟨rfl,Ad4,Ad4,Xs⟩ ?_
 rintro m s u' ⟨rfl,h9,ab,hK⟩
 repeat' (first|refine Z1 ?_|(refine Z8 ?_;intro κ hκ)|(refine Z4 ?_;clear hκ κ)|(refine Z2 ?_ ?_<;>intro h aa<;>try exact Xp)|refine Z3 ?_|exact⟨⟩|(apply hκ.out;clear hκ κ))
 first|exact⟨_,rfl,rfl⟩|exact⟨_,rfl,rfl,hK⟩
theorem dD (h0 h1 h3:AV)(hf:([h0,h1,h3]:List AV).all flat=true)(L:List Part)(hL:∀p∈L,p.a.ts.length<=3)(a7:L.length<=64)(o cap:Nat)(pc:List AV)(hP:EL Ky L pc)(a:C3)(ida:Nat)(ha:a.ts.length<=3)(u:St)(ho:o<u.nobj)(av:L.length<=cap)(a6:(u.obj o).length=cap*3)(ao:(u.obj o).take (L.length*3)=pc):ACalls Tryz.prog 218 [ag [h0,h1,gx o L.length cap,h3],ag [ic a.p,sl ida a.ts.length (Ac a.ts)]] u fun r u'=>((∃(i:Nat) (p:Part),r=ic i/\L[i]?=some p/\fS a p=true)\/(r=ic (-1)/\∀p∈L,fS a p=false))/\Keep u u':=by
 simp only[List.all_cons,List.all_nil,Bool.and_true,Abj]at hf;obtain⟨f0,f1,f3⟩:=hf;have ac:=fun (i:Nat) (u:St)=>F6 [a] [ic a.p,sl ida a.ts.length (Ac a.ts)] i (EL.single ⟨ida,rfl⟩) (by simp;exact ha) (by simp) u;have an:=Eh (l:=[a]) (by simp;exact ha);have HV:Ad8 (∀p,fS a p=(Cb [a]).all (Bc p.a.ts)):=fun p=>rfl;generalize Cb [a]=vs at*
 simp only[Aca,Ab9]at an ac;have hpl:=EL.length Dx hP;refine Z9 23 [.tmp 4] Tryz.func218 ?_
 repeat' (first|refine Z1 ?_|(refine Z8 ?_;intro κ hκ)|(refine Z4 ?_;clear hκ κ)|(refine Z2 ?_ ?_<;>intro h ab<;>try exact Xp)|refine Z3 ?_|exact⟨⟩|(apply hκ.out;clear hκ κ))
 refine Ad (fun m s u'=>∃i:Nat,m=L.length-i/\i<=L.length/\s 2=ptr u.nobj 0/\s 3=ptr (u.nobj+1) 0/\s 8=gx o L.length cap/\s 9=ic L.length/\s 10=ic i/\Keep u u'/\u.nobj+1<u'.nobj/\u'.obj (u.nobj+1)=[ic a.p,sl ida a.ts.length (Ac a.ts)]/\Ad8 (∀p∈L.take i,fS a p=false)) L.length
  ⟨0,Ad2,Ad2,Ad4,Ad4,Ad4,Ad4,rfl,Xs,Ad7,?_,by simp[Ad8]⟩ ?_
 ·rw[Bp Ad6 Ad6]
 rintro m s u' ⟨i,rfl,hi,h2,ay,h8,h9,az,hK,a5,aj,hA⟩;have a3:=hK.nobj;by_cases ak:i<L.length
 ·have aa:=List.getElem?_eq_getElem ak;obtain⟨id,idt,r,hd⟩:=Ek hP aa;have am:=hL _ (Acz ak);generalize L[i]=w at hd aa am;have oo:u'.obj o=u.obj o:=hK.obj o ho;have ap:(u'.obj o).drop (i*3)=ic w.a.p::sl id w.a.ts.length (Ac w.a.ts)::sl idt w.tups.length (D9 w.tups)::(r++(u.obj o).drop (L.length*3)):=by
   rw[oo]
   conv=>lhs;rw[<-Ac8 (L.length*3) (u.obj o),ao]
   rw[List.drop_append_of_le_length (by rw[hpl];omega),hd];rfl
  have ar:o≠u'.nobj:=Ad2;have HA:Ad8 (fS a w=false->∀p∈L.take (i+1),fS a p=false):=fun hw p hp=>by
   rw[Abq,aa,Ac2]at hp;rcases Ack.1 hp with h|h
   ·exact hA.out p h
   ·simp at h;subst h;exact hw
  have HW:Ad8 (L[i]?=some w):=aa;have af:=fun (i:Nat) (u:St)=>Ym w.a.p id w.a.ts vs i Ad2 Ad2 u;rw[<-HV.out w]at af;have a4:u'.nobj≠o:=fun e=>ar e.symm;clear aa hA oo
  repeat' (first|refine Z1 ?_|(refine Z8 ?_;intro κ hκ)|(refine Z4 ?_;clear hκ κ)|(refine Z2 ?_ ?_<;>intro h ab<;>try exact Xp)|refine Z3 ?_|exact⟨⟩|(apply hκ.out;clear hκ κ))
  have ax:Keep u ((u'.new [ic 0,nilS,nilS]).put u'.nobj [ic w.a.p,sl id w.a.ts.length (Ac w.a.ts),sl idt w.tups.length (D9 w.tups)]):=(hK.new _).put hK.nobj _;have kv:∀p,p<u'.nobj->((u'.new [ic 0,nilS,nilS]).put u'.nobj [ic w.a.p,sl id w.a.ts.length (Ac w.a.ts),sl idt w.tups.length (D9 w.tups)]).obj p=u'.obj p:=fun p hp=>by rw[Ai Ad2,Ae Ad2]
  generalize ai:(u'.new [ic 0,nilS,nilS]).put u'.nobj [ic w.a.p,sl id w.a.ts.length (Ac w.a.ts),sl idt w.tups.length (D9 w.tups)]=ub at*
  have nb:ub.nobj=u'.nobj+1:=by rw[<-ai];rfl
  have o6:ub.obj u'.nobj=[ic w.a.p,sl id w.a.ts.length (Ac w.a.ts),sl idt w.tups.length (D9 w.tups)]:=by rw[<-ai,Aj]
  have o3:ub.obj (u.nobj+1)=[ic a.p,sl ida a.ts.length (Ac a.ts)]:=by rw[kv _ Ad2,aj]
  clear ai;refine Br (Q:=fun e s' u''=>e= .normal/\s' 20=sc (.bool (fS a w))/\s' 2=ptr u.nobj 0/\s' 3=ptr (u.nobj+1) 0/\s' 5=ic i/\s' 8=gx o L.length cap/\s' 9=ic L.length/\s' 10=ic i/\Keep ub u'') ?_ ?_
  ·refine A4 Ak (fun _=>True) [] [0,1,2] 3 #[true,true,true,false,false,false] Ad5 (fun _ _ _ h=>by cases h.1) ?_;intro κ hκ;refine Z3 ?_;refine hκ.out _ ?_;clear hκ κ;refine Al (i:=3) Ad5 ?_;refine Aq ?_;intro κ hκ;refine Z3 ?_;refine hκ.out _ _ ⟨Ao ((Keep.refl _).lay 1),?_⟩;clear hκ κ;refine Al (i:=4) Ad5 ?_;refine Aq ?_;intro κ hκ;refine Z3 ?_;refine ACalls.mono (ac _ _) ?_;rintro _ uc ⟨⟨idv,rfl⟩,ah⟩;have knc:=ah.nobj;refine Z3 ?_;refine hκ.out _ _ ⟨Ao (((Keep.refl _).lay 1).trans ah),?_⟩;clear hκ κ;refine Al (i:=5) Ad5 ?_;refine Aq ?_;intro κ hκ;refine Z3 ?_;refine ACalls.mono (af _ _) ?_;rintro _ ud ⟨rfl,ae⟩;refine Z3 ?_;refine hκ.out _ _ ⟨Ao ((((Keep.refl _).lay 1).trans ah).trans ae),?_⟩;clear hκ κ;refine A7 Ad5 ⟨rfl,Ad3,Ad3,Ad3,Ad3,Ad3,Ad3,Ad3,(((Keep.refl _).lay 1).trans ah).trans ae⟩
  ·rintro e s' ud ⟨rfl,g20,g2,g3,g5,g8,g9,g10,ae⟩;have aw:=ax.trans ae;have knd:=ae.nobj;have oe:ud.obj (u.nobj+1)=[ic a.p,sl ida a.ts.length (Ac a.ts)]:=by rw[ae.obj _ Ad2,o3]
   clear h2 ay h8 h9 az h ab aj hd ap;cases ad:fS a w with
   |true=>
    have HP:Ad8 (fS a w=true):=ad;rw[ad]at g20;clear ad;refine F8 g20 ?_
    repeat' (first|refine Z1 ?_|(refine Z8 ?_;intro κ hκ)|(refine Z4 ?_;clear hκ κ)|(refine Z2 ?_ ?_<;>intro h ab<;>try exact Xp)|refine Z3 ?_|exact⟨⟩|(apply hκ.out;clear hκ κ))
    first|exact⟨_,rfl,.inl ⟨i,w,rfl,HW.out,HP.out⟩⟩|exact⟨_,rfl,.inl ⟨i,w,rfl,HW.out,HP.out⟩,aw⟩
   |false=>
    have a0:Ad8 (∀p∈L.take (i+1),fS a p=false):=HA.out ad;rw[ad]at g20;clear ad HA;refine Du g20 ?_
    repeat' (first|refine Z1 ?_|(refine Z8 ?_;intro κ hκ)|(refine Z4 ?_;clear hκ κ)|(refine Z2 ?_ ?_<;>intro h ab<;>try exact Xp)|refine Z3 ?_|exact⟨⟩|(apply hκ.out;clear hκ κ))
    refine⟨L.length-(i+1),Ad2,i+1,?_⟩
    ((repeat' with_reducible refine And.intro ?_ ?_)<;>first|exact Xq|exact (a0)|exact Xs)
 ·have au:i=L.length:=Ad2;subst au;rw[Abn]at hA
  repeat' (first|refine Z1 ?_|(refine Z8 ?_;intro κ hκ)|(refine Z4 ?_;clear hκ κ)|(refine Z2 ?_ ?_<;>intro h ab<;>try exact Xp)|refine Z3 ?_|exact⟨⟩|(apply hκ.out;clear hκ κ))
  first|exact⟨_,rfl,.inr ⟨rfl,hA.out⟩,hK⟩|exact .inr ⟨rfl,hA.out⟩|exact⟨_,rfl,.inr ⟨rfl,hA.out⟩⟩
def PS (lo:Nat)(u:St)(x:AV)(n:Nat)(pc:List AV):Prop:=(x=nilS/\n=0/\pc=[])\/∃o cap,x=gx o n cap/\0<n/\n<=cap/\(u.obj o).length=cap*3/\(u.obj o).take (n*3)=pc/\lo<=o/\o<u.nobj
theorem C4 {u:St}{p o:Nat}{c:List AV}(h:o≠p):(u.put p c).obj o=u.obj o:=by simp[St.put,h]
theorem PS.flat {lo:Nat}{u:St}{x:AV}{n:Nat}{pc:List AV}(h:PS lo u x n pc):flat x=true:=by
 rcases h with⟨rfl,-,-⟩|⟨o,cap,rfl,-⟩<;>rfl
theorem PS.keep {lo:Nat}{u u':St}{x:AV}{n:Nat}{pc:List AV}(h:PS lo u x n pc)(k:Keep u u'):PS lo u' x n pc:=by
 rcases h with h|⟨o,cap,h1,h2,h3,h4,h5,h6,h7⟩
 ·exact .inl h
 ·have:=k.obj o h7;exact .inr ⟨o,cap,h1,h2,h3,by rw[this];exact h4,by rw[this];exact h5,h6,Abd h7 k.nobj⟩
theorem PS.put {lo:Nat}{u:St}{x:AV}{n:Nat}{pc:List AV}(h:PS lo u x n pc){p:Nat}(hp:p<lo)(c:List AV):PS lo (u.put p c) x n pc:=by
 rcases h with h|⟨o,cap,h1,h2,h3,h4,h5,h6,h7⟩
 ·exact .inl h
 ·have:(u.put p c).obj o=u.obj o:=C4 Ad2;exact .inr ⟨o,cap,h1,h2,h3,by rw[this];exact h4,by rw[this];exact h5,h6,h7⟩
theorem lD {P:Program}{t:TypeId}{b:Nat}{zc:List Value}{σ0 u:St}{id2 n lo:Nat}{x:AV}{xs ys:List AV}{K:AV->St->Prop}(ht:Ma P t=some (3,b,zc))(hzc:zc.length=3)(hy:ys.length=3)(hf:ys.all Abs.flat=true)(hb:(n+1)*b<=140737488355328)(hl:n+1<=1099511627776)
  (ac:lo<=u.nobj) (h0:σ0.nobj<=lo) (hK:Keep σ0 u) (hx:PS lo u x n xs) (h:∀x' u',PS lo u' x' (n+1) (xs++ys)->u.nobj<=u'.nobj->(∀p,p<lo->u'.obj p=u.obj p)->Keep σ0 u'->K x' u'):Hy P t t x (sl id2 1 ys) u K:=by
 refine tJ (xs:=xs) ht Ad2 hzc Ad2 hf Ad2 hb hl ?_ ?_ ?_
 ·rcases hx with h|⟨o,cap,h1,h2,h3,h4,h5,-,-⟩
  ·exact .inl h
  ·exact .inr ⟨o,cap,h1,h2,h3,h4,h5⟩
 ·rintro o cap cs ⟨c0,e1,e2,rfl⟩ ab aa;rcases hx with⟨rfl,-,-⟩|⟨o',cap',rfl,h2,h3,h4,h5,h6,h7⟩
  ·simp at e1
  ·simp at e1;obtain⟨rfl,rfl⟩:=e1;refine h _ _ (.inr ⟨_,_,rfl,Ad2,e2,by rw[Aj];exact ab,by rw[Aj];exact aa,h6,h7⟩) (Abb _) (fun p hp=>C4 Ad2) (hK.put Ad2 _)
 ·intro cap cs ab hc aa;exact h _ _ (.inr ⟨_,_,rfl,Ad2,hc,by rw[Am];exact ab,by rw[Am];exact aa,ac,Ad6⟩) Ad6 (fun p hp=>Ae Ad2) (hK.new _)
theorem dP {P:Program}{N:Nat}{c:Code}{Q:Gn}{s:Sl}{σ0 u:St}{lo p j n:Nat}{ys pc:List AV}{x:AV}(hK:Keep σ0 u)(h0:σ0.nobj<=lo)(ab:σ0.nobj<=p)(hp:p<lo)(ac:lo<=u.nobj)(hx:PS lo u x n pc)(hy:u.obj p=ys)(hj:ys[j]?=some x)
  (h:∀(ip:Nat) (u':St),Keep σ0 u'->u'.nobj=u.nobj->u'.obj p=ys.set j (sl ip n pc)->(∀o,o<lo->o≠p->u'.obj o=u.obj o)->Jw P N c Q s u'):Jw P N c Q s u:=by
 rcases hx with⟨rfl,rfl,rfl⟩|⟨o,cap,rfl,h2,h3,h4,h5,h6,h7⟩
 ·refine h 1 u hK rfl ?_ (fun _ _ _=>rfl);rw[hy];apply Abw;intro i;by_cases e:j=i
  ·subst e;rw[List.getElem?_set_self (List.getElem?_eq_some_iff.1 hj).1,hj]
  ·rw[List.getElem?_set_ne e]
 ·refine T0 (o:=o) (p:=p) (k:=n*3) h7 Ad2 Ad2 hy hj (by rw[h4];omega) ?_;rw[h5];exact h 0 _ ((hK.put Ad2 _).put ab _) rfl Aj (fun q hq aa=>by rw[C4 aa,C4 Ad2])
theorem rM {l c:List AV}{off m:Nat}(h1:off+c.length<=m)(h2:m<=l.length):(lsp l off c).take m=lsp (l.take m) off c:=by
 rw[F3 _ _ _ Ad2,F3 _ _ _ (by rw[Ab3];omega),List.take_take,Ab6 Ad2,List.drop_take,List.take_append];rw[Ab2,Ab3,Ab6 Ad2,Acl (by rw[Ab2,Ab3];omega)]
theorem tU {α:Type}{E:α->List AV->Prop}{z:Nat}(hz:∀a c,E a c->c.length=z):∀{l:List α} {cs:List AV} {i:Nat} {a:α} {c:List AV},EL E l cs->i<l.length->E a c->EL E (l.set i a) (lsp cs (i*z) c)
 |[],_,i,_,_,_,hi,_=>by simp at hi
 |b::l,cs,0,a,c,⟨d,r,h1,h2,e⟩,hi,ha=>by
  subst e;have e1:=hz _ _ h1;have e2:=hz _ _ ha;refine⟨c,r,ha,h2,?_⟩;rw[Abz,F3 _ _ _ (by simp;omega)];simp[show c.length=d.length by omega]
 |b::l,cs,i+1,a,c,⟨d,r,h1,h2,e⟩,hi,ha=>by
  subst e;have e1:=hz _ _ h1;have e2:=hz _ _ ha;have hr:=EL.length hz h2;have aa:i<l.length:=by simpa using hi
  have hb:i*z+z<=r.length:=by rw[hr,<-Abr];exact Abf _ aa
  refine⟨d,lsp r (i*z) c,h1,tU hz h2 aa ha,?_⟩;rw[F3 c (d++r) _ (by rw[Ab2,Abr,e1,e2];omega),F3 c r _ (by rw[e2];omega)];rw[Abr,<-e1,Nat.add_comm (i*d.length),List.take_length_add_append,Abp,List.drop_length_add_append];simp
theorem PS.set {lo:Nat}{u:St}{o cap n i:Nat}{pc c:List AV}(h:PS lo u (gx o n cap) n pc)(hi:i<n)(hc:c.length=3):PS lo (u.put o (lsp (u.obj o) (i*3) c)) (gx o n cap) n (lsp pc (i*3) c):=by
 rcases h with⟨h,-,-⟩|⟨o',cap',e,h2,h3,h4,h5,h6,h7⟩
 ·simp at h
 ·simp at e;obtain⟨rfl,rfl⟩:=e;refine .inr ⟨o,cap,rfl,h2,h3,by rw[Aj,Jg];exact h4,?_,h6,h7⟩;rw[Aj,rM (by rw[hc];omega) (by rw[h4];omega),h5]
theorem gS (lo:Nat)(h0 h1 h3:AV)(hf:([h0,h1,h3]:List AV).all flat=true)(L:List Part)(hL:∀p∈L,p.a.ts.length<=3)(aa:L.length<=64)(X:AV)(pc:List AV)(hP:EL Ky L pc)(a:C3)(ida:Nat)(ha:a.ts.length<=3)(u:St)(hX:PS lo u X L.length pc):ACalls Tryz.prog 218 [ag [h0,h1,X,h3],ag [ic a.p,sl ida a.ts.length (Ac a.ts)]] u fun r u'=>((∃(i:Nat) (p:Part),r=ic i/\L[i]?=some p/\fS a p=true)\/(r=ic (-1)/\∀p∈L,fS a p=false))/\Keep u u':=by
 rcases hX with⟨rfl,hn,-⟩|⟨o,cap,rfl,h2,hc,h4,h5,h6,h7⟩
 ·refine ACalls.mono (dE h0 h1 h3 hf a ida u) ?_;rintro r u' ⟨rfl,hK⟩;have:L=[]:=Abl hn;subst this;exact⟨.inr ⟨rfl,by simp⟩,hK⟩
 ·exact dD h0 h1 h3 hf L hL aa o cap pc hP a ida ha u h7 hc h4 h5
structure RdS (neg:Int->Ca->Prop)(q:Qry)(k:Nat)(L:List Part)(Nn:List C3):Prop where
 atm:L.map (·.a)=q.parts.map (·.a)
 sub:∀p∈L,∃p0∈q.parts,p.a=p0.a/\p.tups.Sublist p0.tups
 nsub:Nn.Sublist (q.nots.take k)
 uns:∀a∈Nn,H1 a.ts=false
 sol:∀ν,((∀p∈q.parts,Bq p.a ν∈p.tups)/\∀a∈q.nots.take k,¬neg a.p (Bq a ν))↔((∀p∈L,Bq p.a ν∈p.tups)/\∀a∈Nn,¬neg a.p (Bq a ν))
theorem RdS.start (neg:Int->Ca->Prop)(q:Qry):RdS neg q 0 q.parts []:=
 ⟨rfl,fun p hp=>⟨p,hp,rfl,Adr _⟩,by simp,by simp,fun ν=>by simp⟩
theorem G6 {α:Type}{l:List α}{k:Nat}{a:α}(h:l[k]?=some a):l.take (k+1)=l.take k++[a]:=by rw[Abq,h,Ac2]
theorem RdS.keepN {neg:Int->Ca->Prop}{q:Qry}{k:Nat}{L:List Part}{Nn:List C3}{a:C3}(h:RdS neg q k L Nn)(ha:q.nots[k]?=some a)(hs:H1 a.ts=false):RdS neg q (k+1) L (Nn++[a]):=by
 refine⟨h.atm,h.sub,by rw[G6 ha];exact h.nsub.append (Adr _),fun b hb=>?_,fun ν=>?_⟩
 ·rcases Ack.1 hb with hb|hb
  ·exact h.uns b hb
  ·simp at hb;subst hb;exact hs
 ·have:=h.sol ν;rw[G6 ha];simp only[Ack,Ac3,or_imp,forall_and,forall_eq];rw[<-and_assoc,this,and_assoc]
theorem RdS.drop {neg:Int->Ca->Prop}{q:Qry}{k:Nat}{L:List Part}{Nn:List C3}{a:C3}(h:RdS neg q k L Nn)(ha:q.nots[k]?=some a)(hs:∀ν,¬neg a.p (Bq a ν)):RdS neg q (k+1) L Nn:=by
 refine⟨h.atm,h.sub,by rw[G6 ha];exact h.nsub.trans (List.sublist_append_left _ _),h.uns,fun ν=>?_⟩;have:=h.sol ν;rw[G6 ha];simp only[Ack,Ac3,or_imp,forall_and,forall_eq];rw[<-and_assoc,this];exact and_iff_left (hs ν)
theorem RdS.bar {neg:Int->Ca->Prop}{q:Qry}{k i:Nat}{L:List Part}{Nn:List C3}{a:C3}{p:Part}{l:List Ca}(h:RdS neg q k L Nn)(ha:q.nots[k]?=some a)(hp:L[i]?=some p)(h3:p.a.ts.length<=3)(hw:fS a p=true)(hn:∀t,neg a.p t↔t∈l):RdS neg q (k+1) (L.set i (Mp l a p)) Nn:=by
 have hi:=(List.getElem?_eq_some_iff.1 hp).1;have ac:=Abh hp;refine⟨?_,fun p' aa=>?_,by rw[G6 ha];exact h.nsub.trans (List.sublist_append_left _ _),h.uns,fun ν=>?_⟩
 ·rw[<-h.atm];apply Abw;intro n;rw[List.getElem?_map,List.getElem?_map];by_cases e:i=n
  ·subst e;rw[List.getElem?_set_self hi,hp];rfl
  ·rw[List.getElem?_set_ne e]
 ·rcases List.mem_or_eq_of_mem_set aa with h1|rfl
  ·exact h.sub p' h1
  ·obtain⟨p0,g1,g2,g3⟩:=h.sub p ac;exact⟨p0,g1,g2,Ads.trans g3⟩
 ·have hs:=h.sol ν;rw[G6 ha];simp only[Ack,Ac3,or_imp,forall_and,forall_eq];rw[<-and_assoc,hs,hn];have hb:=wJ (l:=l) (a:=a) (p:=p) (ν:=ν) h3 (pwB_iff.1 hw);have hL:(∀p'∈L.set i (Mp l a p),Bq p'.a ν∈p'.tups)↔(∀p'∈L,Bq p'.a ν∈p'.tups)/\Bq a ν∉l:=by
   constructor
   ·intro g;have g1:=hb.1 (g (Mp l a p) (List.mem_set hi _));refine⟨fun p' aa=>?_,g1.2⟩;obtain⟨n,ab⟩:=List.getElem?_of_mem aa;by_cases e:i=n
    ·subst e;rw[hp]at ab;cases ab;exact g1.1
    ·exact g p' (Abh (by rw[List.getElem?_set_ne e];exact ab))
   ·rintro⟨g1,g2⟩ p' aa;rcases List.mem_or_eq_of_mem_set aa with h1|rfl
    ·exact g1 p' h1
    ·exact hb.2 ⟨g1 p ac,g2⟩
  rw[hL];constructor
  ·rintro⟨⟨x,y⟩,z⟩;exact⟨⟨x,z⟩,y⟩
  ·rintro⟨⟨x,z⟩,y⟩;exact⟨⟨x,y⟩,z⟩
end Go.Proofs.YtmoeoppbmhfbpabGreatDoorH
