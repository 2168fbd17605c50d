import Derived.Test.YtmoeoppbmhfbpabGreatDoorGLinA
import Derived.Test.YtmoeoppbmhfbpabGreatDoorGUnfF
import Derived.Test.YtmoeoppbmhfbpabGreatDoorGOptH
import Derived.Test.YtmoeoppbmhfbpabGreatDoorGTxtB
set_option maxHeartbeats 64000000
set_option maxRecDepth 100000
set_option linter.all false
namespace Go.Proofs.YtmoeoppbmhfbpabGreatDoorG
open Go.Abs
theorem mT {α β:Type}[BEq α][LawfulBEq α][BEq β][LawfulBEq β]{f:α->β}{t:α}:∀{l:List α},(∀u∈l,f u=f t->u=t)->(l.map f).idxOf (f t)=l.idxOf t
 |[],_=>rfl
 |a::l,h=>by
  rw[Ad9,Ae7,Ae7];by_cases e:a=t
  ·subst e;simp
  ·have e2:f a≠f t:=fun e2=>e (h a (by simp) e2);rw[show (f a==f t)=false by simpa using e2,show (a==t)=false by simpa using e,mT fun u hu=>h u (by simp[hu])]
def e2 (t:Tx):Int:=(Am t).2
theorem Aab {t u:Tx}(ht:UT t)(hu:UT u)(h1:Ad t=true)(h2:Ad u=true)(h:e2 t=e2 u):t=u:=tellU.inj t u ht hu (Afi (by rw[Bw,Bw,h1,h2]) h)
theorem dU:∀{ts acc:List Tx},(∀t∈acc,UT t/\Ad t=true)->(∀t∈ts,UT t)->(ts.map Am).foldl vF (acc.map e2)=(Dd acc ts).map e2
 |[],_,_,_=>rfl
 |t::ts,acc,ha,ht=>by
  have hu:=ht t (by simp);have e:vF (acc.map e2) (Am t)=(De acc t).map e2:=by
   unfold vF De;rw[Bw];by_cases hv:Ad t=true
   ·by_cases hm:t∈acc
    ·rw[if_neg fun h=>h.2 (Aey.2 ⟨t,hm,rfl⟩),if_neg fun h=>h.2 hm]
    ·rw[if_pos ⟨hv,fun h=>by
      obtain⟨u,ab,e⟩:=Aey.1 h
      exact hm (by rw[<-Aab (ha u ab).1 hu (ha u ab).2 hv e];exact ab)⟩,if_pos ⟨hv,hm⟩]
     simp[e2]
   ·rw[if_neg fun h=>hv h.1,if_neg fun h=>hv h.1]
  rw[Ad9,Ady,e];show _=(Dd (De acc t) ts).map e2;refine dU (fun u aa=>?_) fun u aa=>ht u (by simp[aa]);unfold De at aa;split at aa
  ·rename_i hc;rcases Aew.1 aa with h|h
   ·exact ha u h
   ·simp at h;subst h;exact⟨hu,hc.1⟩
  ·exact ha u aa
theorem tO {N:List Tx}{x:RItem}(ho:x.out=false)(hx:Bv x)(hu:∀a∈Ae x,∀t∈a.terms,UT t):Eg (Bt N x)=Bt N (ren x):=by
 have ab:Ae x=x.head::x.body:=by simp[Ae,ho]
 have ac:Eh (Bt N x)=(Au x).map e2:=by
  have e:(Gc (Bt N x)).flatMap (·.ts)=((Ae x).flatMap (·.terms)).map Am:=by
   rw[ab];simp[Gc,Bt,Dr,Eo,Afq,List.map_flatMap]
  unfold Eh Cb Au;rw[e];refine dU (acc:=[]) (fun t ht=>by cases ht) fun t ht=>?_;obtain⟨a,ha,aa⟩:=Aev.1 ht;exact hu a ha t aa
 have hL:∀v∈Au x,UT v/\Ad v=true:=fun v hv=>by
  obtain⟨h1,-⟩:=Jh ((Ae x).flatMap (·.terms)) [] (fun v hv=>by cases hv) Afr;obtain⟨h2,h3⟩:=h1 v hv;rcases h3 with h3|h3
  ·cases h3
  ·obtain⟨a,ha,aa⟩:=Aev.1 h3;exact⟨hu a ha v aa,h2⟩
 have key:∀a∈Ae x,cT (Eh (Bt N x)) (Dr N a)=Dr N (Bg (Au x) a):=fun a ha=>by
  unfold cT Dr Bg;simp only[Ad6];congr 1;refine Ae0 fun t ht=>?_;have ad:=hu a ha t ht;show Ge (Eh (Bt N x)) (Am t)=Am (Cx (Au x) t);rw[Ab0 ad.1 (fun hv=>L1 hx ha ht hv)];unfold Ge;rw[Bw];congr 1;by_cases hv:Ad t=true
  ·have hm:t∈Au x:=Ov _ _ _ (.inr ⟨Aev.2 ⟨a,ha,ht⟩,hv⟩);have af:(Am t).2∈Eh (Bt N x):=by rw[ac];exact Aey.2 ⟨t,hm,rfl⟩
   have hi:(Eh (Bt N x)).idxOf (Am t).2=(Au x).idxOf t:=by
    rw[ac];exact mT fun u ae e=>Aab (hL u ae).1 ad (hL u ae).2 hv e
   rw[if_pos hv,if_pos hv,iN,if_pos af,Br,if_pos hm,hi]
  ·rw[if_neg hv,if_neg hv]
 unfold Eg;have e1:cT (Eh (Bt N x)) (Bt N x).head=Dr N (Bg (Au x) x.head):=key x.head (by rw[ab];simp);have e3:(Bt N x).body.map (xY (Eh (Bt N x)))=(x.body.map (Bg (Au x))).map (Eo N):=by
  show (x.body.map (Eo N)).map _=_;rw[Ad6,Ad6];refine Ae0 fun a ha=>?_;show (⟨a.nt,cT (Eh (Bt N x)) (Dr N a)⟩:Lit)=⟨a.nt,Dr N (Bg (Au x) a)⟩;rw[key a (by rw[ab];simp[ha])]
 rw[e1,e3];rfl
theorem Aac {y z:RItem}(hy:Bv y)(hz:Bv z)(h:A0 y++[46]=A0 z++[46]):y=z:=by
 have e:A0 y=A0 z:=List.append_cancel_right h;have h1:=(Lf hy).1;rw[e,(Lf hz).1]at h1;exact h1.symm
def C3 (p q:Tx):RItem:=⟨false,⟨false,p,[[65],[66]]⟩,[⟨false,q,[[65],[67]]⟩,⟨false,p,[[67],[66]]⟩]⟩
def cG (p e:Tx):RItem:=⟨false,⟨false,p,[[65],[66]]⟩,[⟨false,e,[[65],[66]]⟩]⟩
theorem Aaa {b:UInt8}(h:A8 b.toNat=true):Is [b]:=⟨by simp,fun c hc=>by simp at hc;subst hc;exact .inl h⟩
theorem qW {p:Tx}(h:G6 p){n:Bool}{b c:UInt8}(hb:A8 b.toNat=true)(hc:A8 c.toNat=true):Da ⟨n,p,[[b],[c]]⟩:=⟨h,by simp,by simp,fun t ht=>by
 simp only[Aeq,Ae8,Agk]at ht;rcases ht with rfl|rfl
 ·exact Aaa hb
 ·exact Aaa hc⟩
theorem Ac6 {p q:Tx}(hp:G6 p)(hq:G6 q):Bv (C3 p q):=⟨hp,(fun e=>by cases e),fun _=>⟨qW hp rfl rfl,rfl,by simp[C3],fun a ha=>by
 simp only[C3,Aeq,Ae8,Agk]at ha;rcases ha with rfl|rfl
 ·exact qW hq rfl rfl
 ·exact qW hp rfl rfl⟩⟩
theorem Acn {p q:Tx}(hp:G6 p)(hq:G6 q):Bv (cG p q):=⟨hp,(fun e=>by cases e),fun _=>⟨qW hp rfl rfl,rfl,by simp[cG],fun a ha=>by
 simp only[cG,Aeq,Ae8,Agk]at ha;subst ha
 exact qW hq rfl rfl⟩⟩
theorem U7 {N:List Tx}{x:RItem}(hw:Bv x)(hi:WI N x)(h:Kc x=true):ren x=C3 x.head.pred x.head.pred:=by
 unfold Kc at h;rw[Agj,I3 hw]at h;exact Aac (Ja hw hi) (Ac6 hw.1 hw.1) (by rw[h];simp[zF,A0,C3,Cv,A4,A2,A7,Bb])
theorem xO {N:List Tx}{x:RItem}{a:RAtom}(hw:Bv x)(hi:WI N x)(hb:x.body=[a])(h:Jv x=true):ren x=cG x.head.pred a.pred:=by
 have ho:x.out=false:=by
  cases ho:x.out with
  |false=>rfl
  |true=>rw[(hw.2.1 ho).2.2]at hb;cases hb
 unfold Jv at h;rw[hb]at h;simp only[Adv,Agj]at h;rw[I3 hw]at h;exact Aac (Ja hw hi) (Acn hw.1 ((hw.2.2 ho).2.2.2 a (by rw[hb];simp)).1) (by rw[h.2];simp[sF,A0,cG,Cv,A4,A2,A7,Bb])
theorem Aar {N:List Tx}{b:RAtom}(hN:b.pred∈N)(hu:∀t∈b.terms,UT t):Lp N b.nt (Dr N b)=b:=by
 obtain⟨n,p,ts⟩:=b;unfold Lp Dr;have aa:=Afd hN;simp only[Afz,List.getElem?_eq_getElem aa,Afc,Option.getD_some,Ad6];congr 1
 conv=>rhs;rw[<-Aez ts]
 exact Ae0 fun t ht=>(hu t ht).dec.1
theorem Zf {N:List Tx}{x:RItem}(ho:x.out=false)(hn:x.head.nt=false)(h:∀a∈Ae x,a.pred∈N/\∀t∈a.terms,UT t):Ck N (Bt N x)=x:=by
 obtain⟨o,hd,bd⟩:=x;have ho:o=false:=ho;subst ho;have aa:∀a,a=hd\/a∈bd->a∈Ae ⟨false,hd,bd⟩:=fun a ha=>by simpa[Ae]using ha
 have h1:=h hd (aa hd (.inl rfl));have e1:=Aar h1.1 h1.2;have hn:hd.nt=false:=hn;rw[hn]at e1;unfold Ck Bt;simp only[e1,Ad6];congr 1
 conv=>rhs;rw[<-Aez bd]
 exact Ae0 fun a ha=>Aar (h a (aa a (.inr ha))).1 (h a (aa a (.inr ha))).2
theorem Sb {k:Nat}(h:k<26)(b:UInt8)(hb:b=Co k):UT [b]:=by rw[hb];exact (gL h).1
theorem jA {p q:Tx}:∀a∈Ae (C3 p q),a.terms.length=2/\(a.pred=p\/a.pred=q)/\∀t∈a.terms,UT t:=by
 have hA:=Sb (k:=0) (by decide) 65 rfl;have hB:=Sb (k:=1) (by decide) 66 rfl;have hC:=Sb (k:=2) (by decide) 67 rfl;intro a ha;simp only[Ae,C3,Aek,if_false,List.singleton_append,Aeq,Ae8,Agk]at ha;rcases ha with rfl|rfl|rfl<;>simp[hA,hB,hC]
theorem tY {N:List Tx}{ar:Tx->Nat}{p q:Tx}(hp:p∈N)(hq:q∈N)(gp:QNm p)(gq:QNm q)(ap:ar p=2)(aq:ar q=2):RuO N ar (Bt N (C3 p q))/\Ck N (Bt N (C3 p q))=C3 p q:=by
 have hm:∀a∈Ae (C3 p q),a.pred∈N/\QNm a.pred/\ar a.pred=2:=fun a ha=>by
  rcases (jA a ha).2.1 with e|e<;>rw[e]
  ·exact⟨hp,gp,ap⟩
  ·exact⟨hq,gq,aq⟩
 have key:∀a∈Ae (C3 p q),AtO N ar (Dr N a):=fun a ha=>by
  obtain⟨h1,h2,h3⟩:=jA a ha;obtain⟨g1,g2,g3⟩:=hm a ha
  exact⟨⟨a.pred,g1,rfl,g2,by simp[Dr,h1,g3]⟩,by simp[Dr,h1],by simp[Dr,h1],fun t ht=>by
   obtain⟨u,hu,rfl⟩:=Aey.1 ht
   exact⟨u,h3 u hu,rfl⟩⟩
 refine⟨⟨key _ (Ak (.inl ⟨rfl,rfl⟩)),fun l hl=>?_⟩,Zf rfl rfl fun a ha=>⟨(hm a ha).1,(jA a ha).2.2⟩⟩;obtain⟨a,ha,rfl⟩:=Aey.1 hl;exact key a (Ak (.inr ha))
theorem Gi {N:List Tx}{ar:Tx->Nat}{l:List RItem}(hR:RtL N ar l){i:Nat}{x:RItem}(hx:l[i]?=some x)(ha:Kc x=true):x.out=false/\x.body.length=2/\x.head.pred∈N/\QNm x.head.pred/\ar x.head.pred=2:=by
 have hm:=Adt hx;have hr:=U7 (hR.wit x hm) (hR.wi x hm) ha;have ho:x.out=false:=congrArg RItem.out hr;have h1:x.body.length=2:=by have:=congrArg (fun y=>y.body.length) hr;simpa[ren,C3]using this
 have h2:x.head.terms.length=2:=by have:=congrArg (fun y=>y.head.terms.length) hr;simpa[ren,C3,Bg]using this
 have hI:=(hR.ru x hm ho).head;exact⟨ho,h1,hI.mem,⟨(hR.wit x hm).1,(hR.gl.msr x hm).hpl⟩,by rw[<-hI.len,h2]⟩
theorem S6 {N:List Tx}{ar:Tx->Nat}{l:List RItem}(hR:RtL N ar l){i:Nat}{p e:Tx}(h:D6 l i p=some e):e∈N/\QNm e/\ar e=2:=by
 unfold D6 at h;split at h
 case h_2=>cases h
 rename_i y ho;split at h
 case isFalse=>cases h
 rename_i hs;split at h
 case h_2=>cases h
 rename_i a hb;cases h;have ab:y∈H0 l i p:=by rw[ho];simp
 obtain⟨⟨z,j⟩,hz,rfl⟩:=Aey.1 ab;obtain⟨ae,aa⟩:=Afx.1 hz;have hm:z∈l:=Af2 ae;have ad:z.out=false:=by
  unfold K9 Jl at aa;simp only[Adv,Af0]at aa;exact aa.2.1
 have ac:a∈z.body:=by rw[show z.body=[a]from hb];simp
 have hr:=xO (hR.wit z hm) (hR.wi z hm) hb hs;have h2:a.terms.length=2:=by
  have:=congrArg (fun y:RItem=>y.body.map fun b=>b.terms.length) hr;simpa[ren,cG,Bg,show z.body=[a]from hb]using this
 have hI:=(hR.ru z hm ad).body a ac;exact⟨hI.mem,⟨((hR.wit z hm).2.2 ad).2.2.2 a ac|>.1,((hR.gl.msr z hm).at_ a (Ak (.inr ac))).2.1⟩,by rw[<-hI.len,h2]⟩
def Ro (N:List Tx)(l:List RItem)(i:Nat):Bool:=match l[i]? with
 |some x=>Kc x&&(match D6 l i x.head.pred with
  |some e=>Cj N l (rpl i [C3 x.head.pred e] l)
  |none=>false)
 |none=>false
def chL (N:List Tx)(l:List RItem)(idn:Nat)(x:AV)(b:Bool):Prop:=
 (b=false/\∀i,i<l.length->Ro N l i=false)\/(b=true/\∃i y e,l[i]?=some y/\Kc y=true/\D6 l i y.head.pred=some e/\Ro N l i=true/\(∀j,j<i->Ro N l j=false)/\∃id c',x=B9 N idn (rpl i [C3 y.head.pred e] l) id c'/\EL (PI N) (rpl i [C3 y.head.pred e] l) c')
theorem tZ {N:List Tx}{ar:Tx->Nat}{l:List RItem}(hR:RtL N ar l){i:Nat}{x:RItem}{e:Tx}(hx:l[i]?=some x)(ha:Kc x=true)(he:D6 l i x.head.pred=some e):GdI N ar [C3 x.head.pred e]:=fun y hy _=>by
 simp at hy;subst hy;obtain⟨-,-,h1,h2,h3⟩:=Gi hR hx ha;obtain⟨g1,g2,g3⟩:=S6 hR he;obtain⟨k1,k2⟩:=tY h1 g1 h2 g2 h3 g3;exact⟨_,k2.symm,k1,by simp[Bt,C3]⟩
theorem pJ {N:List Tx}{ar:Tx->Nat}{l:List RItem}(hR:RtL N ar l){i:Nat}{x:RItem}{e:Tx}(hx:l[i]?=some x)(ha:Kc x=true)(he:D6 l i x.head.pred=some e){ih ib:Nat}{xs:List AV}(h:EL Pi (Eg (Bt N x)).body xs):PI N (C3 x.head.pred e) [sc (.bool false),ic (Eg (Bt N x)).head.p,sl ih (Eg (Bt N x)).head.ts.length (Ac (Eg (Bt N x)).head.ts),sl ib 2 (xs.set 1 (ic (N.idxOf e:Nat)))]:=by
 have hm:=Adt hx;obtain⟨ho,-,h1,h2,h3⟩:=Gi hR hx ha;obtain⟨g1,g2,g3⟩:=S6 hR he;rw[tO ho (hR.wit x hm) (fun a ha=>((hR.gl.msr x hm).at_ a ha).2.2),U7 (hR.wit x hm) (hR.wi x hm) ha]at h⊢;refine gA h1 (fun a ha=>?_) ?_
 ·simp only[C3,Aeq,Ae8,Agk]at ha;rcases ha with rfl|rfl
  ·exact g1
  ·exact h1
 ·obtain⟨c1,d1,⟨j1,rfl⟩,⟨c2,d2,⟨j2,rfl⟩,e2,rfl⟩,rfl⟩:=h;have e2:d2=[]:=e2;subst e2;exact⟨ih,ib,_,rfl,⟨_,_,⟨j1,rfl⟩,⟨_,_,⟨j2,rfl⟩,rfl,rfl⟩,rfl⟩⟩
theorem Qy (N:List Tx)(ar:Tx->Nat)(l:List RItem)(cs:List AV)(idn idi:Nat)(hR:RtL N ar l)(hE:EL (PI N) l cs)(d:St):
  ACalls Tryz.prog 128 [B9 N idn l idi cs] d fun r d'=>(∃x b,r=tp [x,sc (.bool b)]/\chL N l idn x b/\fY x)/\Keep d d':=by
 have hG:=hR.gl;have da:=EL.length D2 hE;have bo:=hG.len;have ck:=(hG.bkm hE).bk bo;have HB:Agt (BkM N l cs):=hG.bkm hE;have c7:Agt (EL (PJ N) l cs):=Ny hE fun x hx c hc=>.inl ⟨hc,hG.msr x hx⟩;have HR:Agt (RtL N ar l):=hR;have b2:=fun x c (hx:PI N x c) (hm:x∈l) d=>U3 N l cs idn idi ck x c hx (hR.wi x hm) d;have bw:=fun i x (hx:l[i]?=some x) d=>Q1 N ar l cs idn idi i x hR hE hx d;clear hG hR ck;refine Z9 51 [.cell 2 62,.tmp 3] Tryz.func128 ?_
 repeat' (first|refine Z1 ?_|(refine Z8 ?_;intro κ hκ)|(refine Z4 ?_;clear hκ κ)|(refine Z2 ?_ ?_<;>intro h ad<;>try exact Xp)|refine Z3 ?_|exact⟨⟩|(apply hκ.out;clear hκ κ))
 refine Ag (fun m s d'=>∃(i:Nat),m=l.length-i/\i<=l.length/\s 1=ptr d.nobj 0/\s 2=ptr (d.nobj+1) 0/\s 12=sl idi l.length cs/\s 13=sc (.int .i64 l.length)/\s 14=sc (.int .i64 i)/\Keep d d'/\d.nobj+1<d'.nobj/\d'.obj d.nobj=[sl idn N.length (N.map str),sl idi l.length cs]/\d'.obj (d.nobj+1)=[nilS,nilS]/\Agt (∀j,j<i->Ro N l j=false)) l.length
  ⟨0,Agm,Agm,Ago,Ago,Ago,Ago,rfl,Xs,Agq,by rw[Af Agq,Ap],by first|exact Ap|simp[Ap],fun j h=>Agm⟩ ?_
 rintro m s d' ⟨i,rfl,hi,h1,h2,cz,cy,cx,hK,hno,b7,b6,hA⟩;have c9:=hK.nobj;by_cases ce:i<l.length
 ·have aa:=List.getElem?_eq_getElem ce;have ay:=Afa ce;obtain⟨cd,ih,idb,b,r,bu,hd⟩:=G8 hE aa;generalize l[i]=x at hd aa cd bu ay;have db:=EL.length Dp bu;have a4:=PI.of (ih:=ih) (id:=idb) cd bu;have ap:=fun d=>b2 x _ a4 ay d;have ax:=fun d=>bw i x aa d;have av:Agt (Ro N l i=false->∀j,j<i+1->Ro N l j=false):=fun hf j hj=>by
   rcases Adq j i with h|h
   ·exact hA.out j h
   ·rw[show j=i by omega,hf]
  have ai:Ro N l i=(Kc x&&(match D6 l i x.head.pred with|some e=>Cj N l (rpl i [C3 x.head.pred e] l)|none=>false)):=by unfold Ro;rw[aa]
  cases ha:Kc x with
  |false=>
   have a7:Agt (∀j,j<i+1->Ro N l j=false):=av.out (by rw[ai,ha];rfl);rw[ha]at ap;clear ai av hA ha ax aa a4
   repeat' (first|refine Z1 ?_|(refine Z8 ?_;intro κ hκ)|(refine Z4 ?_;clear hκ κ)|(refine Z2 ?_ ?_<;>intro h ad<;>try exact Xp)|(refine Z5 ?_;refine Xi (ap _) ?_;rintro _ _ ⟨rfl,af⟩;(have ae:=af.nobj;have ac:=af.obj;simp only[Ab,Aa]at ae ac))|refine Z3 ?_|exact⟨⟩|(apply hκ.out;clear hκ κ))
   refine⟨l.length-(i+1),Agm,i+1,?_⟩
   ((repeat' with_reducible refine And.intro ?_ ?_)<;>first|exact Xq|exact (a7)|exact Xs)
  |true=>
   rw[ha]at ap ai;cases hs:D6 l i x.head.pred with
   |none=>
    have a7:Agt (∀j,j<i+1->Ro N l j=false):=av.out (by rw[ai,hs];rfl);have e1:Kx N l i x.head.pred= -1:=by unfold Kx;rw[hs]
    rw[e1]at ax;clear ai av hA ha hs e1 aa a4
    repeat' (first|refine Z1 ?_|(refine Z8 ?_;intro κ hκ)|(refine Z4 ?_;clear hκ κ)|(refine Z2 ?_ ?_<;>intro h ad<;>try exact Xp)|(refine Z5 ?_;first|(refine Xi (ap _) ?_;rintro _ _ ⟨rfl,af⟩;(have ae:=af.nobj;have ac:=af.obj;simp only[Ab,Aa]at ae ac))|(refine Xi (ax _) ?_;rintro _ _ ⟨rfl,an⟩;(have bf:=an.nobj;have ah:=an.obj)))|refine Z3 ?_|exact⟨⟩|(apply hκ.out;clear hκ κ))
    refine⟨l.length-(i+1),Agm,i+1,?_⟩
    ((repeat' with_reducible refine And.intro ?_ ?_)<;>first|exact Xq|exact (a7)|exact Xs)
   |some e=>
    rw[hs]at ai;simp only[Ae1]at ai;have e1:Kx N l i x.head.pred=((N.idxOf e:Nat):Int):=by unfold Kx;rw[hs]
    rw[e1]at ax;have hxo:=(Gi HR.out aa ha).1;have cf:=(Gi HR.out aa ha).2.1;have ab:=fun (ih ib:Nat) (xs:List AV) (h:EL Pi (Eg (Bt N x)).body xs)=>pJ HR.out aa ha hs (ih:=ih) (ib:=ib) h;have ba:=tZ HR.out aa ha hs;have HC:Agt (∀id c' x',Ro N l i=true->x'=B9 N idn (rpl i [C3 x.head.pred e] l) id c'->EL (PI N) (rpl i [C3 x.head.pred e] l) c'->chL N l idn x' true):=fun id c' x' ho bg br=>.inr ⟨rfl,i,x,e,aa,ha,hs,ho,hA.out,id,c',bg,br⟩;have b0:=wK a4;rw[hxo]at b0;have a8:=fun d=>oU (Bt N x) _ b0 (kD (HR.out.ru x ay hxo) (HR.out.gl.msr x ay) hxo (HR.out.wit x ay)).r52 d;have b1:(Eg (Bt N x)).body.length=2:=by simp[Eg,Bt,cf]
    have a3:=fun co ido (h:EL (PJ N) [C3 x.head.pred e] co) d=>K3 (E:=PJ N) wJ N l [C3 x.head.pred e] cs co idn idi ido i c7.out h Agm (by simp) d;have ao:=fun c' id' (h:EL (PJ N) (rpl i [C3 x.head.pred e] l) c') d=>G3 N l (rpl i [C3 x.head.pred e] l) cs c' idn idi id' HB.out (Aan HR.out ba (by simp) i h) d;have au:Agt (∀c',Cj N l (rpl i [C3 x.head.pred e] l)=true->EL (PJ N) (rpl i [C3 x.head.pred e] l) c'->EL (PI N) (rpl i [C3 x.head.pred e] l) c'):=fun c' hb h=>by
     unfold Cj at hb;simp only[Adv]at hb;exact Ny h fun y hy c hc=>(hc.pi ((Ub hb.1).2 y hy)).1
    have b5:Agt (∀c,PI N (C3 x.head.pred e) c->PJ N (C3 x.head.pred e) c):=fun c hc=>.inl ⟨hc,by
     obtain⟨r,h1,h2,h3⟩:=ba (C3 x.head.pred e) (by simp) (by simp[C3])
     rw[h1];exact h2.msr Agm⟩
    rw[<-ai]at ao au;simp only[Ae4]at a3;generalize C3 x.head.pred e=V at ab ba HC a3 ao au b5;generalize rpl i [V] l=W at HC a3 ao au;generalize Eg (Bt N x)=O at ab a8 b1;rw[b1]at a8;have cn:Agt _:=ab;rw[hxo]at ap hd;clear ai hA ha hs e1 aa a4 ab ba b0 b1 cf
    repeat' (first|refine Z1 ?_|(refine Z8 ?_;intro κ hκ)|(refine Z4 ?_;clear hκ κ)|(refine Z2 ?_ ?_<;>intro h ad<;>try exact Xp)|(refine Z5 ?_;first|(refine Xi (ap _) ?_;rintro _ _ ⟨rfl,af⟩;(have ae:=af.nobj;have ac:=af.obj;simp only[Ab,Aa]at ae ac))|(refine Xi (ax _) ?_;rintro _ _ ⟨rfl,an⟩;(have bf:=an.nobj;have ah:=an.obj)))|refine Z3 ?_|exact⟨⟩|(apply hκ.out;clear hκ κ))
    refine ACalls.mono (a8 _) ?_;rintro _ d4 ⟨⟨jh,X,xs,rfl,cg,cj⟩,a9⟩;obtain⟨o,cap,rfl,cr,cu,bp,cv,b9⟩:=cg.gx Agm;have cp:=a9.nobj;have ak:=a9.obj;refine Z3 ?_;refine hκ.out _ _ ?_;clear hκ κ;refine Zz ?_;have bz:Keep d ((d4.new [sc (.bool false),ic 0,nilS,nilS]).put d4.nobj [sc (.bool false),ic O.head.p,sl jh O.head.ts.length (Ac O.head.ts),gx o 2 cap]):=((((((hK.new _).put hK.nobj _).trans af).trans an).trans a9).new _).put Agm _;have cb:((d4.new [sc (.bool false),ic 0,nilS,nilS]).put d4.nobj [sc (.bool false),ic O.head.p,sl jh O.head.ts.length (Ac O.head.ts),gx o 2 cap]).obj o=d4.obj o:=by rw[Ai Agm,Af Agm]
    have bh:((d4.new [sc (.bool false),ic 0,nilS,nilS]).put d4.nobj [sc (.bool false),ic O.head.p,sl jh O.head.ts.length (Ac O.head.ts),gx o 2 cap]).obj d4.nobj=[sc (.bool false),ic O.head.p,sl jh O.head.ts.length (Ac O.head.ts),gx o 2 cap]:=Aj;have b4:((d4.new [sc (.bool false),ic 0,nilS,nilS]).put d4.nobj [sc (.bool false),ic O.head.p,sl jh O.head.ts.length (Ac O.head.ts),gx o 2 cap]).obj d.nobj=[sl idn N.length (N.map str),sl idi l.length cs]:=by
     rw[Ai Agm,Af Agm,ak _ Agm,ah _ Agm,ac _ Agm,Ai Agm,Af Agm,b7]
    have b3:((d4.new [sc (.bool false),ic 0,nilS,nilS]).put d4.nobj [sc (.bool false),ic O.head.p,sl jh O.head.ts.length (Ac O.head.ts),gx o 2 cap]).obj (d.nobj+1)=[nilS,nilS]:=by
     rw[Ai Agm,Af Agm,ak _ Agm,ah _ Agm,ac _ Agm,Ai Agm,Af Agm,b6]
    have cc:d4.nobj<((d4.new [sc (.bool false),ic 0,nilS,nilS]).put d4.nobj [sc (.bool false),ic O.head.p,sl jh O.head.ts.length (Ac O.head.ts),gx o 2 cap]).nobj:=Ags;generalize (d4.new [sc (.bool false),ic 0,nilS,nilS]).put d4.nobj [sc (.bool false),ic O.head.p,sl jh O.head.ts.length (Ac O.head.ts),gx o 2 cap]=A at bz cb bh b4 b3 cc;have bq:1<(d4.obj o).length:=Agm;have bi:o≠d4.nobj:=Agm;have bn:o≠d.nobj:=Agm;have bm:o≠d.nobj+1:=Agm;refine B6 (Q:=fun e' s' d''=>e'= .normal/\s' 1=ptr d.nobj 0/\s' 2=ptr (d.nobj+1) 0/\s' 4=ic i/\s' 7=ptr d4.nobj 0/\s' 12=sl idi l.length cs/\s' 13=ic l.length/\s' 14=ic i/\d''=A.put o ((d4.obj o).set 1 (ic (N.idxOf e:Nat)))) ?_ ?_
    ·repeat' (first|refine Z1 ?_|(refine Z8 ?_;intro κ hκ)|(refine Z4 ?_;clear hκ κ)|(refine Z2 ?_ ?_<;>intro h ad<;>try exact Xp)|refine Z3 ?_|exact⟨⟩|(apply hκ.out;clear hκ κ))
    rintro e' s' d'' ⟨rfl,g1,g2,g4,g7,g12,g13,g14,rfl⟩;have a0:(A.put o ((d4.obj o).set 1 (ic (N.idxOf e:Nat)))).obj d4.nobj=[sc (.bool false),ic O.head.p,sl jh O.head.ts.length (Ac O.head.ts),gx o 2 cap]:=by rw[C5 bi.symm,bh]
    refine Uy (o:=o) (p:=d4.nobj) (j:=3) (k:=6) (by simp only[Ab];omega) (by simp only[Ab];omega) bi a0 rfl (by rw[Aj,Af6];omega) ?_;have az:((A.put o ((d4.obj o).set 1 (ic (N.idxOf e:Nat)))).obj o).take 6=xs.set 1 (ic (N.idxOf e:Nat)):=by rw[Aj,List.take_set,b9]
    rw[az];have ci:Keep d (((A.put o ((d4.obj o).set 1 (ic (N.idxOf e:Nat)))).put o []).put d4.nobj ([sc (.bool false),ic O.head.p,sl jh O.head.ts.length (Ac O.head.ts),gx o 2 cap].set 3 (sl 0 2 (xs.set 1 (ic (N.idxOf e:Nat)))))):=((bz.put Agm _).put Agm _).put Agm _;have ca:(((A.put o ((d4.obj o).set 1 (ic (N.idxOf e:Nat)))).put o []).put d4.nobj ([sc (.bool false),ic O.head.p,sl jh O.head.ts.length (Ac O.head.ts),gx o 2 cap].set 3 (sl 0 2 (xs.set 1 (ic (N.idxOf e:Nat)))))).obj d4.nobj=[sc (.bool false),ic O.head.p,sl jh O.head.ts.length (Ac O.head.ts),sl 0 2 (xs.set 1 (ic (N.idxOf e:Nat)))]:=Aj;have c5:(((A.put o ((d4.obj o).set 1 (ic (N.idxOf e:Nat)))).put o []).put d4.nobj ([sc (.bool false),ic O.head.p,sl jh O.head.ts.length (Ac O.head.ts),gx o 2 cap].set 3 (sl 0 2 (xs.set 1 (ic (N.idxOf e:Nat)))))).obj d.nobj=[sl idn N.length (N.map str),sl idi l.length cs]:=by
     rw[C5 Agm,C5 bn.symm,C5 bn.symm,b4]
    have cw:(((A.put o ((d4.obj o).set 1 (ic (N.idxOf e:Nat)))).put o []).put d4.nobj ([sc (.bool false),ic O.head.p,sl jh O.head.ts.length (Ac O.head.ts),gx o 2 cap].set 3 (sl 0 2 (xs.set 1 (ic (N.idxOf e:Nat)))))).obj (d.nobj+1)=[nilS,nilS]:=by
     rw[C5 Agm,C5 bm.symm,C5 bm.symm,b3]
    have cq:d4.nobj<(((A.put o ((d4.obj o).set 1 (ic (N.idxOf e:Nat)))).put o []).put d4.nobj ([sc (.bool false),ic O.head.p,sl jh O.head.ts.length (Ac O.head.ts),gx o 2 cap].set 3 (sl 0 2 (xs.set 1 (ic (N.idxOf e:Nat)))))).nobj:=by simp only[Ab];omega
    generalize ((A.put o ((d4.obj o).set 1 (ic (N.idxOf e:Nat)))).put o []).put d4.nobj ([sc (.bool false),ic O.head.p,sl jh O.head.ts.length (Ac O.head.ts),gx o 2 cap].set 3 (sl 0 2 (xs.set 1 (ic (N.idxOf e:Nat)))))=F at ci ca c5 cw cq;have ch:=b5.out _ (cn.out jh 0 xs cj);have bv:=EL.single ch;generalize xs.set 1 (ic (N.idxOf e:Nat))=ys at ca bv;have cm:Agt _:=bv;clear a0 az bz cb bh b4 b3 cc bq bi bn bm ch bv b9 cj cg a9 ak an ah af ac a8 cn b5 ap ax b7 b6 h1 h2 cz cy cx bp cv cr cu hd;have knoF:=ci.nobj;cases aw:Ro N l i with
    |true=>
     rw[aw]at ao au;have c8:Agt (∀id c' x',x'=B9 N idn W id c'->EL (PJ N) W c'->chL N l idn x' true):=fun id c' x' bg br=>HC.out id c' x' aw bg (au.out c' rfl br);clear av au HC aw
     repeat' (first|refine Z1 ?_|(refine Z8 ?_;intro κ hκ)|(refine Z4 ?_;clear hκ κ)|(refine Z2 ?_ ?_<;>intro h ad<;>try exact Xp)|(refine Z5 ?_;first|(refine Xi (a3 _ _ cm.out _) ?_;rintro _ _ ⟨⟨id6,c6,rfl,bb⟩,a6⟩;(have am:=a6.nobj;have aj:=a6.obj;(try simp only[Ab,Aa,Ah]at am aj)))|(refine Xi (ao c6 id6 bb _) ?_;rintro _ _ ⟨⟨x7,rfl,b8,⟨id71,n71,c71,id72,n72,c72,rfl⟩⟩,a5⟩;(have be:=a5.nobj;have bd:=a5.obj)))|refine Z3 ?_|exact⟨⟩|(apply hκ.out;clear hκ κ))
     exact⟨_,rfl,⟨_,true,rfl,c8.out _ _ _ (b8 rfl) bb,_,_,_,_,_,_,rfl⟩,Xs⟩
    |false=>
     rw[aw]at ao;have a7:Agt (∀j,j<i+1->Ro N l j=false):=av.out aw;clear av au HC aw
     repeat' (first|refine Z1 ?_|(refine Z8 ?_;intro κ hκ)|(refine Z4 ?_;clear hκ κ)|(refine Z2 ?_ ?_<;>intro h ad<;>try exact Xp)|(refine Z5 ?_;first|(refine Xi (a3 _ _ cm.out _) ?_;rintro _ _ ⟨⟨id6,c6,rfl,bb⟩,a6⟩;(have am:=a6.nobj;have aj:=a6.obj;(try simp only[Ab,Aa,Ah]at am aj)))|(refine Xi (ao c6 id6 bb _) ?_;rintro _ _ ⟨⟨x7,rfl,b8,⟨id71,n71,c71,id72,n72,c72,rfl⟩⟩,a5⟩;(have be:=a5.nobj;have bd:=a5.obj)))|refine Z3 ?_|exact⟨⟩|(apply hκ.out;clear hκ κ))
     refine⟨l.length-(i+1),Agm,i+1,?_⟩
     ((repeat' with_reducible refine And.intro ?_ ?_)<;>first|exact Xq|exact (a7)|exact Xs)
 ·have ct:i=l.length:=Agm;subst ct
  repeat' (first|refine Z1 ?_|(refine Z8 ?_;intro κ hκ)|(refine Z4 ?_;clear hκ κ)|(refine Z2 ?_ ?_<;>intro h ad<;>try exact Xp)|refine Z3 ?_|exact⟨⟩|(apply hκ.out;clear hκ κ))
  exact⟨_,rfl,⟨_,false,rfl,.inl ⟨rfl,hA.out⟩,_,_,_,_,_,_,rfl⟩,Xs⟩
def StpR (T:List RItem->Option (List RItem)->Prop)(N:List Tx)(l:List RItem)(idn:Nat)(x:AV)(b:Bool):Prop:=fY x/\∃o,T l o/\b=o.isSome/\∀l',o=some l'->∃id c',x=B9 N idn l' id c'/\EL (PI N) l' c'
def StS (N:List Tx)(l:List RItem)(o:Option (List RItem)):Prop:=∃M,C8 N l M/\
 (((Fc N (Ea N.length M N.length) l).length=l.length/\o=none)\/((Fc N (Ea N.length M N.length) l).length≠l.length/\
  ((Cj N l (Fc N (Ea N.length M N.length) l)=false/\o=none)\/(Cj N l (Fc N (Ea N.length M N.length) l)=true/\o=some (Fc N (Ea N.length M N.length) l)))))
def StU (N:List Tx)(l:List RItem)(o:Option (List RItem)):Prop:=∃M,C8 N l M/\
 ((o=none/\pA N (Ea N.length M N.length) l l.length)\/∃i k y a,o=some (rpl i (uL N l y k a.pred) l)/\l[i]?=some y/\y.out=false/\y.body[k]?=some a/\Py N (Ea N.length M N.length) l i k=true/\pA N (Ea N.length M N.length) l i/\∀k',k'<k->Py N (Ea N.length M N.length) l i k'=false)
def StL (N:List Tx)(l:List RItem)(o:Option (List RItem)):Prop:=
 (o=none/\∀i,i<l.length->Ro N l i=false)\/∃i y e,o=some (rpl i [C3 y.head.pred e] l)/\l[i]?=some y/\Kc y=true/\D6 l i y.head.pred=some e/\Ro N l i=true/\∀j,j<i->Ro N l j=false
theorem chS.stp {N:List Tx}{l:List RItem}{idn:Nat}{x:AV}{b:Bool}(h:chS N l idn x b)(ht:fY x):StpR (StS N) N l idn x b:=by
 refine⟨ht,?_⟩;obtain⟨M,hM,h⟩:=h;rcases h with⟨h1,rfl⟩|⟨h1,h2,h3⟩
 ·exact⟨none,⟨M,hM,.inl ⟨h1,rfl⟩⟩,rfl,fun l' e=>by cases e⟩
 ·cases hb:Cj N l (Fc N (Ea N.length M N.length) l)with
  |false=>exact⟨none,⟨M,hM,.inr ⟨h1,.inl ⟨hb,rfl⟩⟩⟩,by rw[h2,hb];rfl,fun l' e=>by cases e⟩
  |true=>exact⟨_,⟨M,hM,.inr ⟨h1,.inr ⟨hb,rfl⟩⟩⟩,by rw[h2,hb];rfl,fun l' e=>by cases e;exact h3 (by rw[h2,hb])⟩
theorem chU.stp {N:List Tx}{l:List RItem}{idn:Nat}{x:AV}{b:Bool}(h:chU N l idn x b)(ht:fY x):StpR (StU N) N l idn x b:=by
 refine⟨ht,?_⟩;obtain⟨M,hM,⟨rfl,h⟩|⟨rfl,i,k,y,a,h1,h2,h3,h4,h5,h6,id,c',h7,h8⟩⟩:=h
 ·exact⟨none,⟨M,hM,.inl ⟨rfl,h⟩⟩,rfl,fun l' e=>by cases e⟩
 ·exact⟨_,⟨M,hM,.inr ⟨i,k,y,a,rfl,h1,h2,h3,h4,h5,h6⟩⟩,rfl,fun l' e=>by cases e;exact⟨id,c',h7,h8⟩⟩
theorem chL.stp {N:List Tx}{l:List RItem}{idn:Nat}{x:AV}{b:Bool}(h:chL N l idn x b)(ht:fY x):StpR (StL N) N l idn x b:=by
 refine⟨ht,?_⟩;rcases h with⟨rfl,h⟩|⟨rfl,i,y,e,h1,h2,h3,h4,h5,id,c',h7,h8⟩
 ·exact⟨none,.inl ⟨rfl,h⟩,rfl,fun l' e=>by cases e⟩
 ·exact⟨_,.inr ⟨i,y,e,rfl,h1,h2,h3,h4,h5⟩,rfl,fun l' e=>by cases e;exact⟨id,c',h7,h8⟩⟩
theorem StS.rt {N:List Tx}{ar:Tx->Nat}{l l':List RItem}(h:StS N l (some l'))(hR:RtL N ar l):RtL N ar l':=by
 obtain⟨M,-,⟨-,h⟩|⟨-,⟨-,h⟩|⟨-,h⟩⟩⟩:=h
 ·cases h
 ·cases h
 ·cases h;exact hR.sub (fun x hx=>(Afx.1 hx).1) (Ado (Afy _ _) hR.gl.len)
theorem mG {N:List Tx}{U:Nat->Nat->Bool}{l:List RItem}{i k:Nat}{y:RItem}{a:RAtom}(h1:l[i]?=some y)(h2:y.body[k]?=some a)(h:Py N U l i k=true):Cj N l (rpl i (uL N l y k a.pred) l)=true:=by
 unfold Py at h;rw[h1]at h;dsimp only at h;rw[h2]at h;simp only[Adv]at h;exact h.2.2.2
theorem mH {N:List Tx}{l:List RItem}{i:Nat}{y:RItem}{e:Tx}(h1:l[i]?=some y)(h2:D6 l i y.head.pred=some e)(h:Ro N l i=true):Cj N l (rpl i [C3 y.head.pred e] l)=true:=by
 unfold Ro at h;rw[h1]at h;dsimp only at h;rw[h2]at h;simp only[Adv]at h;exact h.2
theorem StU.rt {N:List Tx}{ar:Tx->Nat}{l l':List RItem}(h:StU N l (some l'))(hR:RtL N ar l):RtL N ar l':=by
 obtain⟨M,-,⟨h,-⟩|⟨i,k,y,a,h,h1,h2,h3,h4,-⟩⟩:=h
 ·cases h
 ·cases h;exact Aal hR (Aae hR (Adt h1) h2 h3) i (mG h1 h3 h4)
theorem StL.rt {N:List Tx}{ar:Tx->Nat}{l l':List RItem}(h:StL N l (some l'))(hR:RtL N ar l):RtL N ar l':=by
 rcases h with⟨h,-⟩|⟨i,y,e,h,h1,h2,h3,h4,-⟩
 ·cases h
 ·cases h;exact Aal hR (tZ hR h1 h2 h3) i (mH h1 h3 h4)
theorem pZ (N:List Tx)(ar:Tx->Nat)(l:List RItem)(cs:List AV)(idn idi:Nat)(hR:RtL N ar l)(hE:EL (PI N) l cs)(d:St):
  ACalls Tryz.prog 73 [B9 N idn l idi cs,sc (.int .u8 (115:UInt8).toNat)] d fun r d'=>(∃x b,r=tp [x,sc (.bool b)]/\StpR (StS N) N l idn x b)/\Keep d d':=by
 have hS:=fun d=>Kt N l cs idn idi hR.gl hE d;have e1:((((115:UInt8).toNat:Nat):Int)==115)=true:=rfl;refine Z9 38 [.cell 4 62,.tmp 5] Tryz.func73 ?_
 repeat' (first|refine Z1 ?_|(refine Z8 ?_;intro κ hκ)|(refine Z4 ?_;clear hκ κ)|(refine Z2 ?_ ?_<;>intro h af<;>try exact Xp)|(refine Z5 ?_;refine Xi (hS _) ?_;rintro _ _ ⟨⟨x1,b1,rfl,ac,ad⟩,ae⟩;(have HX:Agt _:=ac;have HT:Agt (fY x1):=ad;obtain⟨t1,t2,t3,t4,t5,t6,rfl⟩:=ad;clear ac;have ab:=ae.nobj;have aa:=ae.obj;(try simp only[Aa]at ab aa)))|refine Z3 ?_|exact⟨⟩|(apply hκ.out;clear hκ κ))
 exact⟨_,rfl,⟨_,b1,rfl,chS.stp HX.out HT.out⟩,Xs⟩
theorem pY (N:List Tx)(ar:Tx->Nat)(l:List RItem)(cs:List AV)(idn idi:Nat)(hR:RtL N ar l)(hE:EL (PI N) l cs)(d:St):
  ACalls Tryz.prog 73 [B9 N idn l idi cs,sc (.int .u8 (117:UInt8).toNat)] d fun r d'=>(∃x b,r=tp [x,sc (.bool b)]/\StpR (StU N) N l idn x b)/\Keep d d':=by
 have hS:=fun d=>N6 N ar l cs idn idi hR hE d;have e1:((((117:UInt8).toNat:Nat):Int)==115)=false:=rfl;have e2:((((117:UInt8).toNat:Nat):Int)==97)=false:=rfl;have e3:((((117:UInt8).toNat:Nat):Int)==114)=false:=rfl;have e4:((((117:UInt8).toNat:Nat):Int)==117)=true:=rfl;refine Z9 38 [.cell 4 62,.tmp 5] Tryz.func73 ?_
 repeat' (first|refine Z1 ?_|(refine Z8 ?_;intro κ hκ)|(refine Z4 ?_;clear hκ κ)|(refine Z2 ?_ ?_<;>intro h af<;>try exact Xp)|(refine Z5 ?_;refine Xi (hS _) ?_;rintro _ _ ⟨⟨x1,b1,rfl,ac,ad⟩,ae⟩;(have HX:Agt _:=ac;have HT:Agt (fY x1):=ad;obtain⟨t1,t2,t3,t4,t5,t6,rfl⟩:=ad;clear ac;have ab:=ae.nobj;have aa:=ae.obj;(try simp only[Aa]at ab aa)))|refine Z3 ?_|exact⟨⟩|(apply hκ.out;clear hκ κ))
 exact⟨_,rfl,⟨_,b1,rfl,chU.stp HX.out HT.out⟩,Xs⟩
theorem qB (N:List Tx)(ar:Tx->Nat)(l:List RItem)(cs:List AV)(idn idi:Nat)(hR:RtL N ar l)(hE:EL (PI N) l cs)(d:St):
  ACalls Tryz.prog 73 [B9 N idn l idi cs,sc (.int .u8 (108:UInt8).toNat)] d fun r d'=>(∃x b,r=tp [x,sc (.bool b)]/\StpR (StL N) N l idn x b)/\Keep d d':=by
 have hS:=fun d=>Qy N ar l cs idn idi hR hE d;have e1:((((108:UInt8).toNat:Nat):Int)==115)=false:=rfl;have e2:((((108:UInt8).toNat:Nat):Int)==97)=false:=rfl;have e3:((((108:UInt8).toNat:Nat):Int)==114)=false:=rfl;have e4:((((108:UInt8).toNat:Nat):Int)==117)=false:=rfl;have e5:((((108:UInt8).toNat:Nat):Int)==108)=true:=rfl;refine Z9 38 [.cell 4 62,.tmp 5] Tryz.func73 ?_
 repeat' (first|refine Z1 ?_|(refine Z8 ?_;intro κ hκ)|(refine Z4 ?_;clear hκ κ)|(refine Z2 ?_ ?_<;>intro h af<;>try exact Xp)|(refine Z5 ?_;refine Xi (hS _) ?_;rintro _ _ ⟨⟨x1,b1,rfl,ac,ad⟩,ae⟩;(have HX:Agt _:=ac;have HT:Agt (fY x1):=ad;obtain⟨t1,t2,t3,t4,t5,t6,rfl⟩:=ad;clear ac;have ab:=ae.nobj;have aa:=ae.obj;(try simp only[Aa]at ab aa)))|refine Z3 ?_|exact⟨⟩|(apply hκ.out;clear hκ κ))
 exact⟨_,rfl,⟨_,b1,rfl,chL.stp HX.out HT.out⟩,Xs⟩
end Go.Proofs.YtmoeoppbmhfbpabGreatDoorG
