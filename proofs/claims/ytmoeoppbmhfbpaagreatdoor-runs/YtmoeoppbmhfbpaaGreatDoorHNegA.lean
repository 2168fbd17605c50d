import Derived.Test.YtmoeoppbmhfbpaaGreatDoorHEngR
import Derived.Test.YtmoeoppbmhfbpaaGreatDoorHDocI
set_option maxHeartbeats 32000000
set_option maxRecDepth 100000
set_option linter.all false
namespace Go.Proofs.YtmoeoppbmhfbpaaGreatDoorH
open Go.Abs
theorem Np {a:Ee}(h:Gn a.ts=true)(ν:Nu):Bp a ν=Cx a:=by
 unfold Bp Cx;congr 1;apply Acn;intro t ht;unfold Gn at h;rw[Aaw]at h;have:=h t ht;obtain⟨b,w⟩:=t;cases b with
 |false=>rfl
 |true=>simp at this
def jG (t:Bj)(ts:List Tm)(x:Tm×Nat):List Tm:=if x.1.1=true then Bg x.1.2 (G9 t (x.2:Nat)) ts else ts
def Oj (ps:List Tm)(t:Bj)(ts:List Tm):List Tm:=ps.zipIdx.foldl (jG t) ts
def My (l:List Bj)(a:Ee)(p:Part):Part:=⟨p.a,p.tups.filter fun t=>!decide (Cx ⟨a.p,Oj p.a.ts t a.ts⟩∈l)⟩
theorem oT (ps:List Tm)(x:Tm)(t:Bj)(ts:List Tm):Oj (ps++[x]) t ts=jG t (Oj ps t ts) (x,ps.length):=by
 unfold Oj;rw[List.zipIdx_append,Ac1];simp
theorem pQ (μ:Nu)(v:Int):Lx μ v (μ v)=μ:=by
 funext w;unfold Lx;split
 ·rename_i e;rw[e]
 ·rfl
theorem lZ {t:Bj}{v:Int}:∀(l:List (Tm×Nat)) (ts:List Tm),Bb (l.foldl (jG t) ts) v=true->Bb ts v=true/\∀x∈l,x.1≠(true,v)
 |[],ts,h=>⟨h,by simp⟩
 |x::l,ts,h=>by
  rw[Aa2]at h;obtain⟨h1,h2⟩:=lZ l _ h;unfold jG at h1;obtain⟨⟨xb,xv⟩,xi⟩:=x;cases xb with
  |false=>
   simp only[Abq,if_false]at h1
   exact⟨h1,fun y hy=>by
    rcases Acd.1 hy with rfl|hy
    ·simp
    ·exact h2 y hy⟩
  |true=>
   simp only[if_true]at h1;have:=(hasV_put (a:=⟨0,ts⟩)).1 h1
   exact⟨this.1,fun y hy=>by
    rcases Acd.1 hy with rfl|hy
    ·simp only[ne_eq,Prod.mk.injEq,Ad0];exact fun e=>this.2 e.symm
    ·exact h2 y hy⟩
theorem wG {pa a:Ee}{μ:Nu}(h3:pa.ts.length<=3)(hv:∀v,Bb a.ts v=true->Bb pa.ts v=true):Cx ⟨a.p,Oj pa.ts (Bp pa μ) a.ts⟩=Bp a μ:=by
 have key:∀(l:List (Tm×Nat)) (ts:List Tm),(∀x∈l,pa.ts[x.2]?=some x.1)->Bp ⟨a.p,l.foldl (jG (Bp pa μ)) ts⟩ μ=Bp ⟨a.p,ts⟩ μ:=by
  intro l;induction l with
  |nil=>intro ts _;rfl
  |cons x l ih=>
   intro ts hl;rw[Aa2,ih _ (fun y hy=>hl y (Acj _ hy))];unfold jG;split
   ·rename_i hx;obtain⟨⟨xb,xv⟩,xi⟩:=x;simp only at hx;subst hx;have hg:pa.ts[xi]?=some (true,xv):=hl _ Ach;have aa:=(Aau.1 hg).1;have ht:G9 (Bp pa μ) ((xi:Nat):Int)=μ xv:=by
     unfold G9;rw[Adi,Bp,I0 (by simpa using aa) (by simpa using h3)];have:=(Aau.1 hg).2;simp[this,H5]
    show Bp ⟨a.p,Bg xv (G9 (Bp pa μ) ((xi:Nat):Int)) ts⟩ μ=_;rw[ht];have:=Jo ⟨a.p,ts⟩ xv (μ xv) μ;rw[pQ]at this;exact this
   ·rfl
 have hz:∀x∈pa.ts.zipIdx,pa.ts[x.2]?=some x.1:=fun x hx=>by
  obtain⟨y,i⟩:=x;exact List.mem_zipIdx_iff_getElem?.1 hx
 have h1:=key pa.ts.zipIdx a.ts hz;have h2:Gn (Oj pa.ts (Bp pa μ) a.ts)=true:=by
  unfold Gn;rw[Aaw];intro t ht;obtain⟨b,w⟩:=t;cases b with
  |false=>rfl
  |true=>
   exfalso;obtain⟨g1,g2⟩:=lZ pa.ts.zipIdx a.ts (hasV_iff.2 ht);have:=hasV_iff.1 (hv w g1);obtain⟨i,hi⟩:=Acp this;exact g2 ((true,w),i) (List.mem_zipIdx_iff_getElem?.2 hi) rfl
 rw[<-Np (a:=⟨a.p,Oj pa.ts (Bp pa μ) a.ts⟩) h2 μ];exact h1
theorem wH {l:List Bj}{a:Ee}{p:Part}{ν:Nu}(h3:p.a.ts.length<=3)(hv:∀v,Bb a.ts v=true->Bb p.a.ts v=true):Bp p.a ν∈(My l a p).tups↔Bp p.a ν∈p.tups/\Bp a ν∉l:=by
 unfold My;rw[Ac7,wG h3 hv];simp
theorem Y6 (om ot:Nat)(M:MM)(d b:Int)(p:Part)(a:Ee)(id idt ida k:Nat)(x:Nat×List Bj)(b5:p.a.ts.length<=3)(b4:p.tups.length<=5000)(h3:T3 p.tups)(ha:a.ts.length<=3)(hk:a.p=(k:Int))(hx:M[k]?=some x)(σ:St)(hM:MOb σ om ot M d b):ACalls Tryz.prog 212 [ptr om 0,ag [ic p.a.p,sl id p.a.ts.length (Ae p.a.ts),sl idt p.tups.length (C7 p.tups)],ag [ic a.p,sl ida a.ts.length (Ae a.ts)]] σ fun r σ'=>(∃idn,r=ag [ic p.a.p,sl id p.a.ts.length (Ae p.a.ts),sl idn (My x.2 a p).tups.length (C7 (My x.2 a p).tups)])/\Keep σ σ':=by
 have b3:=Er h3;have b9:=En p.a.ts;have HR:Ad8 ((My x.2 a p).tups=p.tups.filter fun t=>!decide (Cx ⟨a.p,Oj p.a.ts t a.ts⟩∈x.2)):=rfl;have a9:Ad8 (∀(ts:List Tm) (i:Nat) (σ1:St),ts.length<=3->Keep σ σ1->ACalls Tryz.prog 75 [ptr om 0,ag [ic a.p,sl i ts.length (Ae ts)]] σ1 fun r σ'=>r=sc (.bool (decide (Cx ⟨a.p,ts⟩∈x.2)))/\Keep σ1 σ'):=fun ts i σ1 h1 h2=>Jy om ot M d b ⟨a.p,ts⟩ i k x h1 hk hx σ1 (hM.keep h2);generalize hG:(fun t:Bj=>Cx ⟨a.p,Oj p.a.ts t a.ts⟩)=bT at*
 have HG:Ad8 (∀t,bT t=Cx ⟨a.p,Oj p.a.ts t a.ts⟩):=fun t=>by rw[<-hG]
 have bw:Ad8 ((My x.2 a p).tups=p.tups.filter fun t=>!decide (bT t∈x.2)):=by
  rw[Ad8,HR.out];congr 1;funext t;rw[HG.out t]
 clear hG HR hk hx hM;generalize My x.2 a p=bp at*
 refine Z9 55 [.cell 6 214] Tryz.func212 ?_
 repeat' (first|refine Z1 ?_|(refine Z8 ?_;intro ya J)|(refine Z4 ?_;clear J ya)|(refine Z2 ?_ ?_<;>intro h ae<;>try exact Xp)|(refine Z6 ?_;intro idn σn ah ai ac ab ad aa)|refine Z3 ?_|exact Zt|(apply J.out;clear J ya))
 refine Ab (fun m s σ'=>∃(i i3:Nat) (o:List Bj) (xs:List AV),m=p.tups.length-i/\i<=p.tups.length/\s 0=ptr om 0/\s 4=ptr σ.nobj 0/\s 5=ptr (σ.nobj+1) 0/\s 6=ptr (σ.nobj+2) 0/\s 7=ptr (σ.nobj+3) 0/\s 17=sl idt p.tups.length (C7 p.tups)/\s 18=ic p.tups.length/\s 19=ic i/\Keep σ σ'/\σ.nobj+3<σ'.nobj/\σ'.obj σ.nobj=[ic p.a.p,sl id p.a.ts.length (Ae p.a.ts),sl idt p.tups.length (C7 p.tups)]/\σ'.obj (σ.nobj+1)=[ic a.p,sl ida a.ts.length (Ae a.ts)]/\σ'.obj (σ.nobj+2)=[ic 0,nilS,nilS]/\σ'.obj (σ.nobj+3)=[ic p.a.p,sl id p.a.ts.length (Ae p.a.ts),sl i3 o.length xs]/\Own σ σ' i3 o.length/\o.length<=i/\xs.length=o.length*3/\Ad8 (xs=C7 o/\o=(p.tups.take i).filter fun t=>!decide (bT t∈x.2))) p.tups.length
  ⟨0,1,[],[],Ad2,Ad2,by simp[upd,initS],Ad4,Ad4,Ad4,Ad4,Ad4,Ad4,rfl,Xs,Ad7,?_,?_,?_,?_,Own.nil _ _,by simp,by simp,⟨rfl,by simp⟩⟩ ?_
 ·rw[Al Ad2,Ai Ad6,Ai Ad6,Ai Ad6,Am]
 ·rw[Al Ad2,Ai Ad6,Ai Ad6,Cd Ad6 Ad6]
 ·rw[Al Ad2,Ai Ad6,Cd Ad6 Ad6]
 ·rw[show σ.nobj+3=σ.nobj+1+1+1 from rfl,Ak];simp
 rintro m s σ' ⟨i,i3,o,xs,rfl,hi,h0,h4,h5,h6,h7,bc,bb,ba,hK,b7,b1,b0,bz,bg,hO,b6,bh,hX⟩;have b2:=hK.nobj;by_cases bi:i<p.tups.length
 ·have am:=Aav bi;obtain⟨ao,r,hd⟩:=Fv h3 am;generalize p.tups[i]=t at hd am ao;have HF:Ad8 ((p.tups.take (i+1)).filter (fun t=>!decide (bT t∈x.2))=(p.tups.take i).filter (fun t=>!decide (bT t∈x.2))++if (!decide (bT t∈x.2))=true then [t]else []):=by
   rw[Ad8,Aa8,am,Ab9,Dn]
  clear am;have f1:=Dj ao;have f2:=Hc ao;have f3:=D1 ao;have f4:=G3 ao;have f5:=Cj t;have f6:=N9 ao
  repeat' (first|refine Z1 ?_|(refine Z8 ?_;intro ya J)|(refine Z4 ?_;clear J ya)|(refine Z2 ?_ ?_<;>intro h ae<;>try exact Xp)|(refine Z6 ?_;intro idn σn ah ai ac ab ad aa)|refine Z3 ?_|exact Zt|(apply J.out;clear J ya))
  refine Ab (fun m s σ2=>∃(j idj:Nat) (ts:List Tm),m=p.a.ts.length-j/\j<=p.a.ts.length/\s 0=ptr om 0/\s 4=ptr σ.nobj 0/\s 5=ptr (σ.nobj+1) 0/\s 6=ptr (σ.nobj+2) 0/\s 7=ptr (σ.nobj+3) 0/\s 9=ptr σ'.nobj 0/\s 10=ptr (σ'.nobj+1) 0/\s 17=sl idt p.tups.length (C7 p.tups)/\s 18=ic p.tups.length/\s 19=ic i/\s 26=sl id p.a.ts.length (Ae p.a.ts)/\s 27=ic p.a.ts.length/\s 28=ic j/\Keep σ' σ2/\σ'.nobj+1<σ2.nobj/\σ2.obj σ'.nobj=Aj t/\σ2.obj (σ'.nobj+1)=[ic a.p,sl idj ts.length (Ae ts)]/\ts.length<=3/\Ad8 (ts=Oj (p.a.ts.take j) t a.ts)) p.a.ts.length
   ⟨0,ida,a.ts,Ad2,Ad2,Ad3,Ad3,Ad3,Ad3,Ad3,Ad3,Ad3,Ad3,Ad3,Ad3,Ad3,Ad3,Ad4,Xs,Ad7,?_,?_,ha,rfl⟩ ?_
  ·rw[Al Ad2,Ai Ad7,Ak]
  ·rw[Ak]
  clear h0 h4 h5 h6 h7 bc bb ba;rintro m s σ2 ⟨j,idj,ts,rfl,hj,h0,h4,h5,h6,h7,h9,bv,bc,bb,ba,bu,br,bq,an,a6,oc0,oc1,be,hT⟩;have au:=an.nobj;by_cases av:j<p.a.ts.length
  ·have af:=Aav av;obtain⟨rj,bn⟩:=Eo af;generalize p.a.ts[j]=w at bn af;obtain⟨w1,w2⟩:=w;have ax:t[j]?=some t[j]:=Aav Ad2;have bl:=Ir ax;have a5:Ad8 (G9 t (j:Nat)=t[j]):=by simp[Ad8,G9,ax]
   generalize t[j]=y at ax bl a5;have HT:Ad8 (Oj (p.a.ts.take (j+1)) t a.ts=if w1=true then Bg w2 y ts else ts):=by
    rw[Ad8,Aa8,af,Ab9,oT,Abk,Abp hj,<-hT.out];unfold jG;simp only[a5.out]
   clear af ax a5 hT;cases w1 with
   |false=>
    have bd:Ad8 (ts=Oj (p.a.ts.take (j+1)) t a.ts):=by rw[Ad8,HT.out];rfl
    clear HT
    repeat' (first|refine Z1 ?_|(refine Z8 ?_;intro ya J)|(refine Z4 ?_;clear J ya)|(refine Z2 ?_ ?_<;>intro h ae<;>try exact Xp)|(refine Z6 ?_;intro idn σn ah ai ac ab ad aa)|refine Z3 ?_|exact Zt|(apply J.out;clear J ya))
    refine⟨p.a.ts.length-(j+1),Ad2,j+1,idj,ts,?_⟩
    ((repeat' refine Zi ?_ ?_)<;>first|exact Xq|exact bd|exact Xs)
   |true=>
    have bd:Ad8 (Bg w2 y ts=Oj (p.a.ts.take (j+1)) t a.ts):=by rw[Ad8,HT.out];rfl
    clear HT;have bo:=fun σ=>Lp a.p idj ts w2 y Ad2 σ;have bm:(Bg w2 y ts).length<=3:=by simpa[Bg]using be
    repeat' (first|refine Z1 ?_|(refine Z8 ?_;intro ya J)|(refine Z4 ?_;clear J ya)|(refine Z2 ?_ ?_<;>intro h ae<;>try exact Xp)|(refine Z6 ?_;intro idn σn ah ai ac ab ad aa)|refine Z3 ?_|exact Zt|(apply J.out;clear J ya))
    have bf:Keep σ' ((σ2.new [sc (.bool false),ic 0]).put σ2.nobj [sc (.bool true),ic w2]):=(an.new _).put au _;refine A6 (Q:=fun e s' σ''=>e= .normal/\s' 0=ptr om 0/\s' 4=ptr σ.nobj 0/\s' 5=ptr (σ.nobj+1) 0/\s' 6=ptr (σ.nobj+2) 0/\s' 7=ptr (σ.nobj+3) 0/\s' 9=ptr σ'.nobj 0/\s' 10=ptr (σ'.nobj+1) 0/\s' 17=sl idt p.tups.length (C7 p.tups)/\s' 18=ic p.tups.length/\s' 19=ic i/\s' 26=sl id p.a.ts.length (Ae p.a.ts)/\s' 27=ic p.a.ts.length/\s' 28=ic j/\Keep σ' σ''/\σ'.nobj+1<σ''.nobj/\σ''.obj σ'.nobj=Aj t/\∃idn,σ''.obj (σ'.nobj+1)=[ic a.p,sl idn (Bg w2 y ts).length (Ae (Bg w2 y ts))]) ?_ ?_
    ·refine As Ad (fun _=>True) [7] [0,1,2,3,4,5] 2 #[true,true,true,true,true,true,false,false] Ad5 (fun _ _ _ h=>by cases h.1) ?_;intro ya J;refine Z3 ?_;refine J.out _ ?_;clear J ya;refine Ah (i:=6) Ad5 ?_;refine Ao ?_;intro ya J;refine Z3 ?_;refine ACalls.mono (bo _) ?_;rintro _ σb ⟨⟨idn,rfl⟩,ay⟩;have knb:=ay.nobj;simp only[Ac,Aa]at knb;have a3:=ay.obj;simp only[Ac,Aa]at a3;have og0:σb.obj σ'.nobj=Aj t:=by rw[a3 _ Ad2,Al Ad2,Ai Ad2,oc0]
     have og1:σb.obj (σ'.nobj+1)=[ic a.p,sl idj ts.length (Ae ts)]:=by rw[a3 _ Ad2,Al Ad2,Ai Ad2,oc1]
     refine Z3 ?_;refine J.out _ _ ⟨Ap ay,?_⟩;clear J ya;refine Ah (i:=7) Ad5 ?_;refine Ao ?_;intro ya J;refine Z3 ?_;refine J.out _ _ ⟨Bz rfl,?_⟩;clear J ya;refine B7 Ad5 ⟨rfl,Ad3,Ad3,Ad3,Ad3,Ad3,Ad3,Ad3,Ad3,Ad3,Ad3,Ad3,Ad3,Ad3,(bf.trans ay).put Ad2 _,by simp only[Ac];omega,by rw[Al Ad2,og0],idn,Ak⟩
    ·rintro e s2 σ3 ⟨rfl,g0,g4,g5,g6,g7,g9,g10,g17,g18,g19,g26,g27,g28,ca,b8,oe0,idn,oe1⟩;clear h0 h4 h5 h6 h7 h9 bv bc bb ba bu br bq oc0 oc1 bf an au a6
     repeat' (first|refine Z1 ?_|(refine Z8 ?_;intro ya J)|(refine Z4 ?_;clear J ya)|(refine Z2 ?_ ?_<;>intro h ae<;>try exact Xp)|(refine Z6 ?_;intro idn σn ah ai ac ab ad aa)|refine Z3 ?_|exact Zt|(apply J.out;clear J ya))
     refine⟨p.a.ts.length-(j+1),Ad2,j+1,idn,Bg w2 y ts,?_⟩
     ((repeat' refine Zi ?_ ?_)<;>first|exact Xq|exact bd|exact Xs)
  ·have bj:j=p.a.ts.length:=Ad2;subst bj;have HB:Ad8 (Cx ⟨a.p,ts⟩=bT t):=by
    rw[Ad8,HG.out t,hT.out,Aa3]
   have aw:=fun σ1 hh=>a9.out ts idj σ1 be hh;rw[HB.out]at aw;have az:=hK.trans an;clear hT HB hj av;cases ap:decide (bT t∈x.2)with
   |true=>
    have HX:Ad8 (xs=C7 o/\o=(p.tups.take (i+1)).filter fun t=>!decide (bT t∈x.2)):=by
     obtain⟨x1,x2⟩:=hX.out;refine⟨x1,?_⟩;rw[HF.out,ap,x2];simp
    rw[ap]at aw;clear hX HF ap
    repeat' (first|refine Z1 ?_|(refine Z8 ?_;intro ya J)|(refine Z4 ?_;clear J ya)|(refine Z2 ?_ ?_<;>intro h ae<;>try exact Xp)|(refine Z6 ?_;intro idn σn ah ai ac ab ad aa)|(refine Z5 ?_;refine Xi (aw _ az) ?_;rintro _ _ ⟨rfl,aj⟩;(have a4:=aj.nobj;have ak:=(an.trans aj).obj;have a8:=az.trans aj;have a7:=Own.keep hO (an.trans aj)))|refine Z3 ?_|exact Zt|(apply J.out;clear J ya))
    refine⟨p.tups.length-(i+1),Ad2,i+1,i3,o,xs,?_⟩
    ((repeat' refine Zi ?_ ?_)<;>first|exact Xq|exact a8|exact a7|exact HX|exact (by rw[ak _ Ad2];assumption)|exact Xs)
   |false=>
    have HX:Ad8 (xs++Aj t=C7 (o++[t])/\o++[t]=(p.tups.take (i+1)).filter fun t=>!decide (bT t∈x.2)):=by
     obtain⟨x1,x2⟩:=hX.out;refine⟨by rw[x1,Ki],?_⟩;rw[HF.out,ap,<-x2];simp
    rw[ap]at aw;clear hX HF ap
    repeat' (first|refine Z1 ?_|(refine Z8 ?_;intro ya J)|(refine Z4 ?_;clear J ya)|(refine Z2 ?_ ?_<;>intro h ae<;>try exact Xp)|(refine Z6 ?_;intro idn σn ah ai ac ab ad aa)|(refine Z5 ?_;refine Xi (aw _ az) ?_;rintro _ _ ⟨rfl,aj⟩;(have a4:=aj.nobj;have ak:=(an.trans aj).obj;have a0:=aj.obj;have a8:=az.trans aj;have a7:=Own.keep hO (an.trans aj)))|refine Z3 ?_|exact Zt|(apply J.out;clear J ya))
    rename_i σ5;have oh0:σ5.obj σ'.nobj=Aj t:=by rw[a0 _ Ad2,oc0]
    have oh3:σ5.obj (σ.nobj+3)=[ic p.a.p,sl id p.a.ts.length (Ae p.a.ts),sl i3 o.length xs]:=by rw[ak _ Ad2,bg]
    repeat' (first|refine Z1 ?_|(refine Z8 ?_;intro ya J)|(refine Z4 ?_;clear J ya)|(refine Z2 ?_ ?_<;>intro h ae<;>try exact Xp)|(refine Z6 ?_;intro idn σn ah ai ac ab ad aa)|refine Z3 ?_|exact Zt|(apply J.out;clear J ya))
    refine C4 (by first|exact Fc) (a8) (a7) (by decide) (by rfl) (bh) (by rw[f1]) (f5) (by decide) Ad2 Ad2 ?_;intro idn σn ah ai ac ab ad aa;have eob:∀q,q<σ'.nobj->σn.obj q=σ'.obj q:=fun q hq=>by rw[ac,ak _ hq]
    refine Z3 ?_
    repeat' (first|refine Z1 ?_|(refine Z8 ?_;intro ya J)|(refine Z4 ?_;clear J ya)|(refine Z2 ?_ ?_<;>intro h ae<;>try exact Xp)|(refine Z6 ?_;intro idn σn ah ai ac ab ad aa)|refine Z3 ?_|exact Zt|(apply J.out;clear J ya))
    refine⟨p.tups.length-(i+1),Ad2,i+1,idn,o++[t],xs++Aj t,?_⟩
    ((repeat' refine Zi ?_ ?_)<;>first|exact Xq|exact (ai.put Ad2 _)|exact (by simpa using Own.put ah _ _)|exact HX|exact Xs)
 ·have bk:i=p.tups.length:=Ad2;subst bk;obtain⟨x1,x2⟩:=hX.out;rw[Aa3]at x2
  repeat' (first|refine Z1 ?_|(refine Z8 ?_;intro ya J)|(refine Z4 ?_;clear J ya)|(refine Z2 ?_ ?_<;>intro h ae<;>try exact Xp)|(refine Z6 ?_;intro idn σn ah ai ac ab ad aa)|refine Z3 ?_|exact Zt|(apply J.out;clear J ya))
  exact⟨_,rfl,⟨_,by rw[bw.out,<-x2]<;>first|rfl|rw[x1]⟩,hK.put Ad2 _⟩
def gQ (a:Ee)(p:Part):Bool:=(Cg [a]).all (Bb p.a.ts)
theorem pwB_iff {a:Ee}{p:Part}:gQ a p=true↔∀v,Bb a.ts v=true->Bb p.a.ts v=true:=by
 unfold gQ;rw[Aaw];constructor
 ·intro h v hv;exact h v ((Dk _ _).2 ⟨a,by simp,hasV_iff.1 hv⟩)
 ·intro h v hv;obtain⟨b,hb,aa⟩:=(Dk _ _).1 hv;simp at hb;subst hb;exact h v (hasV_iff.2 aa)
theorem eJ (h0 h1 h3:AV)(hf:([h0,h1,h3]:List AV).all flat=true)(a:Ee)(ida:Nat)(σ:St):ACalls Tryz.prog 211 [ag [h0,h1,nilS,h3],ag [ic a.p,sl ida a.ts.length (Ae a.ts)]] σ fun r σ'=>r=ic (-1)/\Keep σ σ':=by
 simp only[List.all_cons,List.all_nil,Bool.and_true,Aaz]at hf;obtain⟨f0,f1,f3⟩:=hf;refine Z9 23 [.tmp 4] Tryz.func211 ?_
 repeat' (first|refine Z1 ?_|(refine Z8 ?_;intro ya J)|(refine Z4 ?_;clear J ya)|(refine Z2 ?_ ?_<;>intro h aa<;>try exact Xp)|refine Z3 ?_|exact Zt|(apply J.out;clear J ya))
 refine Ab (fun m s σ'=>m=0/\s 9=ic 0/\s 10=ic 0/\Keep σ σ') 0
  ⟨rfl,Ad4,Ad4,Xs⟩ ?_
 rintro m s σ' ⟨rfl,h9,ab,hK⟩
 repeat' (first|refine Z1 ?_|(refine Z8 ?_;intro ya J)|(refine Z4 ?_;clear J ya)|(refine Z2 ?_ ?_<;>intro h aa<;>try exact Xp)|refine Z3 ?_|exact Zt|(apply J.out;clear J ya))
 first|exact⟨_,rfl,rfl⟩|exact⟨_,rfl,rfl,hK⟩
theorem eI (h0 h1 h3:AV)(hf:([h0,h1,h3]:List AV).all flat=true)(L:List Part)(hL:∀p∈L,p.a.ts.length<=3)(a8:L.length<=64)(o cap:Nat)(pc:List AV)(hP:EL La L pc)(a:Ee)(ida:Nat)(ha:a.ts.length<=3)(σ:St)(ho:o<σ.nobj)(aw:L.length<=cap)(a7:(σ.obj o).length=cap*3)(an:(σ.obj o).take (L.length*3)=pc):ACalls Tryz.prog 211 [ag [h0,h1,gx o L.length cap,h3],ag [ic a.p,sl ida a.ts.length (Ae a.ts)]] σ fun r σ'=>((∃(i:Nat) (p:Part),r=ic i/\L[i]?=some p/\gQ a p=true)\/(r=ic (-1)/\∀p∈L,gQ a p=false))/\Keep σ σ':=by
 simp only[List.all_cons,List.all_nil,Bool.and_true,Aaz]at hf;obtain⟨f0,f1,f3⟩:=hf;have ac:=fun (i:Nat) (σ:St)=>Hv [a] [ic a.p,sl ida a.ts.length (Ae a.ts)] i (EL.single ⟨ida,rfl⟩) (by simp;exact ha) (by simp) σ;have am:=F3 (l:=[a]) (by simp;exact ha);have HV:Ad8 (∀p,gQ a p=(Cg [a]).all (Bb p.a.ts)):=fun p=>rfl;generalize Cg [a]=vs at*
 simp only[Abv,Abu]at am ac;have ao:=EL.length D6 hP;refine Z9 23 [.tmp 4] Tryz.func211 ?_
 repeat' (first|refine Z1 ?_|(refine Z8 ?_;intro ya J)|(refine Z4 ?_;clear J ya)|(refine Z2 ?_ ?_<;>intro h ab<;>try exact Xp)|refine Z3 ?_|exact Zt|(apply J.out;clear J ya))
 refine Ab (fun m s σ'=>∃i:Nat,m=L.length-i/\i<=L.length/\s 2=ptr σ.nobj 0/\s 3=ptr (σ.nobj+1) 0/\s 8=gx o L.length cap/\s 9=ic L.length/\s 10=ic i/\Keep σ σ'/\σ.nobj+1<σ'.nobj/\σ'.obj (σ.nobj+1)=[ic a.p,sl ida a.ts.length (Ae a.ts)]/\Ad8 (∀p∈L.take i,gQ a p=false)) L.length
  ⟨0,Ad2,Ad2,Ad4,Ad4,Ad4,Ad4,rfl,Xs,Ad7,?_,by simp[Ad8]⟩ ?_
 ·rw[Cd Ad6 Ad6]
 rintro m s σ' ⟨i,rfl,hi,h2,az,h8,h9,a0,hK,a6,ai,hA⟩;have a4:=hK.nobj;by_cases aj:i<L.length
 ·have aa:=Aav aj;obtain⟨id,idt,r,hd⟩:=Eu hP aa;have ak:=hL _ (Ab1 aj);generalize L[i]=w at hd aa ak;have oo:σ'.obj o=σ.obj o:=hK.obj o ho;have ap:(σ'.obj o).drop (i*3)=ic w.a.p::sl id w.a.ts.length (Ae w.a.ts)::sl idt w.tups.length (C7 w.tups)::(r++(σ.obj o).drop (L.length*3)):=by
   rw[oo]
   conv=>lhs;rw[<-Ada (L.length*3) (σ.obj o),an]
   rw[Acm (by rw[ao];omega),hd];rfl
  have au:o≠σ'.nobj:=Ad2;have HA:Ad8 (gQ a w=false->∀p∈L.take (i+1),gQ a p=false):=fun hw p hp=>by
   rw[Aa8,aa,Ab9]at hp;rcases Ab2.1 hp with h|h
   ·exact hA.out p h
   ·simp at h;subst h;exact hw
  have HW:Ad8 (L[i]?=some w):=aa;have af:=fun (i:Nat) (σ:St)=>Y1 w.a.p id w.a.ts vs i Ad2 Ad2 σ;rw[<-HV.out w]at af;have a5:σ'.nobj≠o:=fun e=>au e.symm;clear aa hA oo
  repeat' (first|refine Z1 ?_|(refine Z8 ?_;intro ya J)|(refine Z4 ?_;clear J ya)|(refine Z2 ?_ ?_<;>intro h ab<;>try exact Xp)|refine Z3 ?_|exact Zt|(apply J.out;clear J ya))
  have ay:Keep σ ((σ'.new [ic 0,nilS,nilS]).put σ'.nobj [ic w.a.p,sl id w.a.ts.length (Ae w.a.ts),sl idt w.tups.length (C7 w.tups)]):=(hK.new _).put hK.nobj _;have kv:∀p,p<σ'.nobj->((σ'.new [ic 0,nilS,nilS]).put σ'.nobj [ic w.a.p,sl id w.a.ts.length (Ae w.a.ts),sl idt w.tups.length (C7 w.tups)]).obj p=σ'.obj p:=fun p hp=>by rw[Al Ad2,Ai Ad2]
  generalize hσb:(σ'.new [ic 0,nilS,nilS]).put σ'.nobj [ic w.a.p,sl id w.a.ts.length (Ae w.a.ts),sl idt w.tups.length (C7 w.tups)]=σb at*
  have nb:σb.nobj=σ'.nobj+1:=by rw[<-hσb];rfl
  have o6:σb.obj σ'.nobj=[ic w.a.p,sl id w.a.ts.length (Ae w.a.ts),sl idt w.tups.length (C7 w.tups)]:=by rw[<-hσb,Ak]
  have o3:σb.obj (σ.nobj+1)=[ic a.p,sl ida a.ts.length (Ae a.ts)]:=by rw[kv _ Ad2,ai]
  clear hσb;refine A6 (Q:=fun e s' σ''=>e= .normal/\s' 20=sc (.bool (gQ a w))/\s' 2=ptr σ.nobj 0/\s' 3=ptr (σ.nobj+1) 0/\s' 5=ic i/\s' 8=gx o L.length cap/\s' 9=ic L.length/\s' 10=ic i/\Keep σb σ'') ?_ ?_
  ·refine As Ad (fun _=>True) [] [0,1,2] 3 #[true,true,true,false,false,false] Ad5 (fun _ _ _ h=>by cases h.1) ?_;intro ya J;refine Z3 ?_;refine J.out _ ?_;clear J ya;refine Ah (i:=3) Ad5 ?_;refine Ao ?_;intro ya J;refine Z3 ?_;refine J.out _ _ ⟨Ap ((Keep.refl _).lay 1),?_⟩;clear J ya;refine Ah (i:=4) Ad5 ?_;refine Ao ?_;intro ya J;refine Z3 ?_;refine ACalls.mono (ac _ _) ?_;rintro _ σc ⟨⟨idv,rfl⟩,ah⟩;have knc:=ah.nobj;refine Z3 ?_;refine J.out _ _ ⟨Ap (((Keep.refl _).lay 1).trans ah),?_⟩;clear J ya;refine Ah (i:=5) Ad5 ?_;refine Ao ?_;intro ya J;refine Z3 ?_;refine ACalls.mono (af _ _) ?_;rintro _ σd ⟨rfl,ae⟩;refine Z3 ?_;refine J.out _ _ ⟨Ap ((((Keep.refl _).lay 1).trans ah).trans ae),?_⟩;clear J ya;refine B7 Ad5 ⟨rfl,Ad3,Ad3,Ad3,Ad3,Ad3,Ad3,Ad3,(((Keep.refl _).lay 1).trans ah).trans ae⟩
  ·rintro e s' σd ⟨rfl,g20,g2,g3,g5,g8,g9,g10,ae⟩;have ax:=ay.trans ae;have knd:=ae.nobj;have oe:σd.obj (σ.nobj+1)=[ic a.p,sl ida a.ts.length (Ae a.ts)]:=by rw[ae.obj _ Ad2,o3]
   clear h2 az h8 h9 a0 h ab ai hd ap;cases ad:gQ a w with
   |true=>
    have HP:Ad8 (gQ a w=true):=ad;rw[ad]at g20;clear ad;refine Br g20 ?_
    repeat' (first|refine Z1 ?_|(refine Z8 ?_;intro ya J)|(refine Z4 ?_;clear J ya)|(refine Z2 ?_ ?_<;>intro h ab<;>try exact Xp)|refine Z3 ?_|exact Zt|(apply J.out;clear J ya))
    first|exact⟨_,rfl,.inl ⟨i,w,rfl,HW.out,HP.out⟩⟩|exact⟨_,rfl,.inl ⟨i,w,rfl,HW.out,HP.out⟩,ax⟩
   |false=>
    have a3:Ad8 (∀p∈L.take (i+1),gQ a p=false):=HA.out ad;rw[ad]at g20;clear ad HA;refine Ci g20 ?_
    repeat' (first|refine Z1 ?_|(refine Z8 ?_;intro ya J)|(refine Z4 ?_;clear J ya)|(refine Z2 ?_ ?_<;>intro h ab<;>try exact Xp)|refine Z3 ?_|exact Zt|(apply J.out;clear J ya))
    refine⟨L.length-(i+1),Ad2,i+1,?_⟩
    ((repeat' refine Zi ?_ ?_)<;>first|exact Xq|exact a3|exact Xs)
 ·have av:i=L.length:=Ad2;subst av;rw[Aa3]at hA
  repeat' (first|refine Z1 ?_|(refine Z8 ?_;intro ya J)|(refine Z4 ?_;clear J ya)|(refine Z2 ?_ ?_<;>intro h ab<;>try exact Xp)|refine Z3 ?_|exact Zt|(apply J.out;clear J ya))
  first|exact⟨_,rfl,.inr ⟨rfl,hA.out⟩,hK⟩|exact .inr ⟨rfl,hA.out⟩|exact⟨_,rfl,.inr ⟨rfl,hA.out⟩⟩
def PS (lo:Nat)(σ:St)(x:AV)(n:Nat)(pc:List AV):Prop:=(x=nilS/\n=0/\pc=[])\/∃o cap,x=gx o n cap/\0<n/\n<=cap/\(σ.obj o).length=cap*3/\(σ.obj o).take (n*3)=pc/\lo<=o/\o<σ.nobj
theorem Dy {σ:St}{p o:Nat}{c:List AV}(h:o≠p):(σ.put p c).obj o=σ.obj o:=by simp[St.put,h]
theorem PS.flat {lo:Nat}{σ:St}{x:AV}{n:Nat}{pc:List AV}(h:PS lo σ x n pc):flat x=true:=by
 rcases h with⟨rfl,-,-⟩|⟨o,cap,rfl,-⟩<;>rfl
theorem PS.keep {lo:Nat}{σ σ':St}{x:AV}{n:Nat}{pc:List AV}(h:PS lo σ x n pc)(k:Keep σ σ'):PS lo σ' x n pc:=by
 rcases h with h|⟨o,cap,h1,h2,h3,h4,h5,h6,h7⟩
 ·exact .inl h
 ·have:=k.obj o h7;exact .inr ⟨o,cap,h1,h2,h3,by rw[this];exact h4,by rw[this];exact h5,h6,Aam h7 k.nobj⟩
theorem PS.put {lo:Nat}{σ:St}{x:AV}{n:Nat}{pc:List AV}(h:PS lo σ x n pc){p:Nat}(hp:p<lo)(c:List AV):PS lo (σ.put p c) x n pc:=by
 rcases h with h|⟨o,cap,h1,h2,h3,h4,h5,h6,h7⟩
 ·exact .inl h
 ·have:(σ.put p c).obj o=σ.obj o:=Dy Ad2;exact .inr ⟨o,cap,h1,h2,h3,by rw[this];exact h4,by rw[this];exact h5,h6,h7⟩
theorem wO {P:Program}{t:TypeId}{b:Nat}{zc:List Value}{σ0 σ:St}{id2 n lo:Nat}{x:AV}{xs ys:List AV}{K:AV->St->Prop}(ht:Ld P t=some (3,b,zc))(hzc:zc.length=3)(hy:ys.length=3)(hf:ys.all Abs.flat=true)(hb:(n+1)*b<=140737488355328)(hl:n+1<=1099511627776)
  (ac:lo<=σ.nobj) (h0:σ0.nobj<=lo) (hK:Keep σ0 σ) (hx:PS lo σ x n xs) (h:∀x' σ',PS lo σ' x' (n+1) (xs++ys)->σ.nobj<=σ'.nobj->(∀p,p<lo->σ'.obj p=σ.obj p)->Keep σ0 σ'->K x' σ'):Gx P t t x (sl id2 1 ys) σ K:=by
 refine fD (xs:=xs) ht Ad2 hzc Ad2 hf Ad2 hb hl ?_ ?_ ?_
 ·rcases hx with h|⟨o,cap,h1,h2,h3,h4,h5,-,-⟩
  ·exact .inl h
  ·exact .inr ⟨o,cap,h1,h2,h3,h4,h5⟩
 ·rintro o cap cs ⟨c0,e1,e2,rfl⟩ ab aa;rcases hx with⟨rfl,-,-⟩|⟨o',cap',rfl,h2,h3,h4,h5,h6,h7⟩
  ·simp at e1
  ·simp at e1;obtain⟨rfl,rfl⟩:=e1;refine h _ _ (.inr ⟨_,_,rfl,Ad2,e2,by rw[Ak];exact ab,by rw[Ak];exact aa,h6,h7⟩) (Aak _) (fun p hp=>Dy Ad2) (hK.put Ad2 _)
 ·intro cap cs ab hc aa;exact h _ _ (.inr ⟨_,_,rfl,Ad2,hc,by rw[Am];exact ab,by rw[Am];exact aa,ac,Ad6⟩) Ad6 (fun p hp=>Ai Ad2) (hK.new _)
theorem eS {P:Program}{N:Nat}{c:Code}{Q:Ge}{s:Sl}{σ0 σ:St}{lo p j n:Nat}{ys pc:List AV}{x:AV}(hK:Keep σ0 σ)(h0:σ0.nobj<=lo)(ab:σ0.nobj<=p)(hp:p<lo)(ac:lo<=σ.nobj)(hx:PS lo σ x n pc)(hy:σ.obj p=ys)(hj:ys[j]?=some x)
  (h:∀(ip:Nat) (σ':St),Keep σ0 σ'->σ'.nobj=σ.nobj->σ'.obj p=ys.set j (sl ip n pc)->(∀o,o<lo->o≠p->σ'.obj o=σ.obj o)->Jl P N c Q s σ'):Jl P N c Q s σ:=by
 rcases hx with⟨rfl,rfl,rfl⟩|⟨o,cap,rfl,h2,h3,h4,h5,h6,h7⟩
 ·refine h 1 σ hK rfl ?_ (fun _ _ _=>rfl);rw[hy];apply Abd;intro i;by_cases e:j=i
  ·subst e;rw[List.getElem?_set_self (Aau.1 hj).1,hj]
  ·rw[Adn e]
 ·refine jJ (o:=o) (p:=p) (k:=n*3) h7 Ad2 Ad2 hy hj (by rw[h4];omega) ?_;rw[h5];exact h 0 _ ((hK.put Ad2 _).put ab _) rfl Ak (fun q hq aa=>by rw[Dy aa,Dy Ad2])
theorem rP {l c:List AV}{off m:Nat}(h1:off+c.length<=m)(h2:m<=l.length):(lsp l off c).take m=lsp (l.take m) off c:=by
 rw[G1 _ _ _ Ad2,G1 _ _ _ (by rw[Abk];omega),List.take_take,Abp Ad2,List.drop_take,List.take_append];rw[Abj,Abk,Abp Ad2,Abz (by rw[Abj,Abk];omega)]
theorem tM {α:Type}{E:α->List AV->Prop}{z:Nat}(hz:∀a c,E a c->c.length=z):∀{l:List α} {cs:List AV} {i:Nat} {a:α} {c:List AV},EL E l cs->i<l.length->E a c->EL E (l.set i a) (lsp cs (i*z) c)
 |[],_,i,_,_,_,hi,_=>by simp at hi
 |b::l,cs,0,a,c,⟨d,r,h1,h2,e⟩,hi,ha=>by
  subst e;have e1:=hz _ _ h1;have e2:=hz _ _ ha;refine⟨c,r,ha,h2,?_⟩;rw[Nat.zero_mul,G1 _ _ _ (by simp;omega)];simp[show c.length=d.length by omega]
 |b::l,cs,i+1,a,c,⟨d,r,h1,h2,e⟩,hi,ha=>by
  subst e;have e1:=hz _ _ h1;have e2:=hz _ _ ha;have hr:=EL.length hz h2;have aa:i<l.length:=by simpa using hi
  have hb:i*z+z<=r.length:=by rw[hr,<-Aa9];exact Aar _ aa
  refine⟨d,lsp r (i*z) c,h1,tM hz h2 aa ha,?_⟩;rw[G1 c (d++r) _ (by rw[Abj,Aa9,e1,e2];omega),G1 c r _ (by rw[e2];omega)];rw[Aa9,<-e1,Nat.add_comm (i*d.length),List.take_length_add_append,Aa5,List.drop_length_add_append];simp
theorem PS.set {lo:Nat}{σ:St}{o cap n i:Nat}{pc c:List AV}(h:PS lo σ (gx o n cap) n pc)(hi:i<n)(hc:c.length=3):PS lo (σ.put o (lsp (σ.obj o) (i*3) c)) (gx o n cap) n (lsp pc (i*3) c):=by
 rcases h with⟨h,-,-⟩|⟨o',cap',e,h2,h3,h4,h5,h6,h7⟩
 ·simp at h
 ·simp at e;obtain⟨rfl,rfl⟩:=e;refine .inr ⟨o,cap,rfl,h2,h3,by rw[Ak,F8];exact h4,?_,h6,h7⟩;rw[Ak,rP (by rw[hc];omega) (by rw[h4];omega),h5]
theorem iV (lo:Nat)(h0 h1 h3:AV)(hf:([h0,h1,h3]:List AV).all flat=true)(L:List Part)(hL:∀p∈L,p.a.ts.length<=3)(aa:L.length<=64)(X:AV)(pc:List AV)(hP:EL La L pc)(a:Ee)(ida:Nat)(ha:a.ts.length<=3)(σ:St)(hX:PS lo σ X L.length pc):ACalls Tryz.prog 211 [ag [h0,h1,X,h3],ag [ic a.p,sl ida a.ts.length (Ae a.ts)]] σ fun r σ'=>((∃(i:Nat) (p:Part),r=ic i/\L[i]?=some p/\gQ a p=true)\/(r=ic (-1)/\∀p∈L,gQ a p=false))/\Keep σ σ':=by
 rcases hX with⟨rfl,hn,-⟩|⟨o,cap,rfl,h2,hc,h4,h5,h6,h7⟩
 ·refine ACalls.mono (eJ h0 h1 h3 hf a ida σ) ?_;rintro r σ' ⟨rfl,hK⟩;have:L=[]:=Aa1 hn;subst this;exact⟨.inr ⟨rfl,by simp⟩,hK⟩
 ·exact eI h0 h1 h3 hf L hL aa o cap pc hP a ida ha σ h7 hc h4 h5
structure RdS (neg:Int->Bj->Prop)(q:Qry)(k:Nat)(L:List Part)(Nn:List Ee):Prop where
 atm:L.map (·.a)=q.parts.map (·.a)
 sub:∀p∈L,∃p0∈q.parts,p.a=p0.a/\p.tups.Sublist p0.tups
 nsub:Nn.Sublist (q.nots.take k)
 uns:∀a∈Nn,Gn a.ts=false
 sol:∀ν,((∀p∈q.parts,Bp p.a ν∈p.tups)/\∀a∈q.nots.take k,¬neg a.p (Bp a ν))↔((∀p∈L,Bp p.a ν∈p.tups)/\∀a∈Nn,¬neg a.p (Bp a ν))
theorem RdS.start (neg:Int->Bj->Prop)(q:Qry):RdS neg q 0 q.parts []:=
 ⟨rfl,fun p hp=>⟨p,hp,rfl,Ado _⟩,by simp,by simp,fun ν=>by simp⟩
theorem Hi {α:Type}{l:List α}{k:Nat}{a:α}(h:l[k]?=some a):l.take (k+1)=l.take k++[a]:=by rw[Aa8,h,Ab9]
theorem RdS.keepN {neg:Int->Bj->Prop}{q:Qry}{k:Nat}{L:List Part}{Nn:List Ee}{a:Ee}(h:RdS neg q k L Nn)(ha:q.nots[k]?=some a)(hs:Gn a.ts=false):RdS neg q (k+1) L (Nn++[a]):=by
 refine⟨h.atm,h.sub,by rw[Hi ha];exact h.nsub.append (Ado _),fun b hb=>?_,fun ν=>?_⟩
 ·rcases Ab2.1 hb with hb|hb
  ·exact h.uns b hb
  ·simp at hb;subst hb;exact hs
 ·have:=h.sol ν;rw[Hi ha];simp only[Ab2,Acx,or_imp,forall_and,forall_eq];rw[<-and_assoc,this,and_assoc]
theorem RdS.drop {neg:Int->Bj->Prop}{q:Qry}{k:Nat}{L:List Part}{Nn:List Ee}{a:Ee}(h:RdS neg q k L Nn)(ha:q.nots[k]?=some a)(hs:∀ν,¬neg a.p (Bp a ν)):RdS neg q (k+1) L Nn:=by
 refine⟨h.atm,h.sub,by rw[Hi ha];exact h.nsub.trans (List.sublist_append_left _ _),h.uns,fun ν=>?_⟩;have:=h.sol ν;rw[Hi ha];simp only[Ab2,Acx,or_imp,forall_and,forall_eq];rw[<-and_assoc,this];exact and_iff_left (hs ν)
theorem RdS.bar {neg:Int->Bj->Prop}{q:Qry}{k i:Nat}{L:List Part}{Nn:List Ee}{a:Ee}{p:Part}{l:List Bj}(h:RdS neg q k L Nn)(ha:q.nots[k]?=some a)(hp:L[i]?=some p)(h3:p.a.ts.length<=3)(hw:gQ a p=true)(hn:∀t,neg a.p t↔t∈l):RdS neg q (k+1) (L.set i (My l a p)) Nn:=by
 have hi:=(Aau.1 hp).1;have ac:=Aax hp;refine⟨?_,fun p' aa=>?_,by rw[Hi ha];exact h.nsub.trans (List.sublist_append_left _ _),h.uns,fun ν=>?_⟩
 ·rw[<-h.atm];apply Abd;intro n;rw[Aa6,Aa6];by_cases e:i=n
  ·subst e;rw[List.getElem?_set_self hi,hp];rfl
  ·rw[Adn e]
 ·rcases Adh aa with h1|rfl
  ·exact h.sub p' h1
  ·obtain⟨p0,g1,g2,g3⟩:=h.sub p ac;exact⟨p0,g1,g2,Adp.trans g3⟩
 ·have hs:=h.sol ν;rw[Hi ha];simp only[Ab2,Acx,or_imp,forall_and,forall_eq];rw[<-and_assoc,hs,hn];have hb:=wH (l:=l) (a:=a) (p:=p) (ν:=ν) h3 (pwB_iff.1 hw);have hL:(∀p'∈L.set i (My l a p),Bp p'.a ν∈p'.tups)↔(∀p'∈L,Bp p'.a ν∈p'.tups)/\Bp a ν∉l:=by
   constructor
   ·intro g;have g1:=hb.1 (g (My l a p) (List.mem_set hi _));refine⟨fun p' aa=>?_,g1.2⟩;obtain⟨n,ab⟩:=Acp aa;by_cases e:i=n
    ·subst e;rw[hp]at ab;cases ab;exact g1.1
    ·exact g p' (Aax (by rw[Adn e];exact ab))
   ·rintro⟨g1,g2⟩ p' aa;rcases Adh aa with h1|rfl
    ·exact g1 p' h1
    ·exact hb.2 ⟨g1 p ac,g2⟩
  rw[hL];constructor
  ·rintro⟨⟨x,y⟩,z⟩;exact⟨⟨x,z⟩,y⟩
  ·rintro⟨⟨x,z⟩,y⟩;exact⟨⟨x,y⟩,z⟩
end Go.Proofs.YtmoeoppbmhfbpaaGreatDoorH
