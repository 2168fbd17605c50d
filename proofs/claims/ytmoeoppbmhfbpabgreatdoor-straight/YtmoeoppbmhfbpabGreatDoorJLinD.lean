import Derived.Test.YtmoeoppbmhfbpabGreatDoorJLinA
import Derived.Test.YtmoeoppbmhfbpabGreatDoorJUnfF
import Derived.Test.YtmoeoppbmhfbpabGreatDoorJOptH
import Derived.Test.YtmoeoppbmhfbpabGreatDoorJEngU
set_option maxHeartbeats 64000000
set_option maxRecDepth 100000
set_option linter.all false
namespace Go.Proofs.YtmoeoppbmhfbpabGreatDoorJ
open Go.Abs
theorem kU {α β:Type}[BEq α][LawfulBEq α][BEq β][LawfulBEq β]{f:α->β}{t:α}:∀{l:List α},(∀u∈l,f u=f t->u=t)->(l.map f).idxOf (f t)=l.idxOf t
 |[],_=>rfl
 |a::l,h=>by
  rw[Ab1,List.idxOf_cons,List.idxOf_cons];by_cases e:a=t
  ·subst e;simp
  ·have e2:f a≠f t:=fun e2=>e (h a (by simp) e2);rw[show (f a==f t)=false by simpa using e2,show (a==t)=false by simpa using e,kU fun u hu=>h u (by simp[hu])]
def e2 (t:Tx):Int:=(Az t).2
theorem wT {t u:Tx}(ht:UT t)(hu:UT u)(h1:Al t=true)(h2:Al u=true)(h:e2 t=e2 u):t=u:=tellU.inj t u ht hu (Prod.ext (by rw[E6,E6,h1,h2]) h)
theorem bR:∀{ts acc:List Tx},(∀t∈acc,UT t/\Al t=true)->(∀t∈ts,UT t)->(ts.map Az).foldl vF (acc.map e2)=(Is acc ts).map e2
 |[],_,_,_=>rfl
 |t::ts,acc,ha,ht=>by
  have hu:=ht t (by simp);have e:vF (acc.map e2) (Az t)=(Gx acc t).map e2:=by
   unfold vF Gx;rw[E6];by_cases hv:Al t=true
   ·by_cases hm:t∈acc
    ·rw[if_neg fun h=>h.2 (Acs.2 ⟨t,hm,rfl⟩),if_neg fun h=>h.2 hm]
    ·rw[if_pos ⟨hv,fun h=>by
      obtain⟨u,ab,e⟩:=Acs.1 h
      exact hm (by rw[<-wT (ha u ab).1 hu (ha u ab).2 hv e];exact ab)⟩,if_pos ⟨hv,hm⟩]
     simp[e2]
   ·rw[if_neg fun h=>hv h.1,if_neg fun h=>hv h.1]
  rw[Ab1,Abr,e];show _=(Is (Gx acc t) ts).map e2;refine bR (fun u aa=>?_) fun u aa=>ht u (by simp[aa]);unfold Gx at aa;split at aa
  ·rename_i hc;rcases Aco.1 aa with h|h
   ·exact ha u h
   ·simp at h;subst h;exact⟨hu,hc.1⟩
  ·exact ha u aa
theorem qV {N:List Tx}{x:RItem}(ho:x.out=false)(hx:Dh x)(hu:∀a∈Af x,∀t∈a.terms,UT t):D5 (A6 N x)=A6 N (ren x):=by
 have ab:Af x=x.head::x.body:=by simp[Af,ho]
 have ac:Fa (A6 N x)=(Dw x).map e2:=by
  have e:(Gt (A6 N x)).flatMap (·.ts)=((Af x).flatMap (·.terms)).map Az:=by
   rw[ab];simp[Gt,A6,Cm,Hd,List.flatMap_map,List.map_flatMap]
  unfold Fa B7 Dw;rw[e];refine bR (acc:=[]) (fun t ht=>by cases ht) fun t ht=>?_;obtain⟨a,ha,aa⟩:=Acn.1 ht;exact hu a ha t aa
 have hL:∀v∈Dw x,UT v/\Al v=true:=fun v hv=>by
  obtain⟨h1,-⟩:=Wd ((Af x).flatMap (·.terms)) [] (fun v hv=>by cases hv) Adb;obtain⟨h2,h3⟩:=h1 v hv;rcases h3 with h3|h3
  ·cases h3
  ·obtain⟨a,ha,aa⟩:=Acn.1 h3;exact⟨hu a ha v aa,h2⟩
 have key:∀a∈Af x,kH (Fa (A6 N x)) (Cm N a)=Cm N (I3 (Dw x) a):=fun a ha=>by
  unfold kH Cm I3;simp only[Aby];congr 1;refine Acu fun t ht=>?_;have ad:=hu a ha t ht;show I0 (Fa (A6 N x)) (Az t)=Az (W7 (Dw x) t);rw[yZ ad.1 (fun hv=>Oo hx ha ht hv)];unfold I0;rw[E6];congr 1;by_cases hv:Al t=true
  ·have hm:t∈Dw x:=Sx _ _ _ (.inr ⟨Acn.2 ⟨a,ha,ht⟩,hv⟩);have af:(Az t).2∈Fa (A6 N x):=by rw[ac];exact Acs.2 ⟨t,hm,rfl⟩
   have hi:(Fa (A6 N x)).idxOf (Az t).2=(Dw x).idxOf t:=by
    rw[ac];exact kU fun u ae e=>wT (hL u ae).1 ad (hL u ae).2 hv e
   rw[if_pos hv,if_pos hv,mN,if_pos af,Cf,if_pos hm,hi]
  ·rw[if_neg hv,if_neg hv]
 unfold D5;have e1:kH (Fa (A6 N x)) (A6 N x).head=Cm N (I3 (Dw x) x.head):=key x.head (by rw[ab];simp);have e3:(A6 N x).body.map (xE (Fa (A6 N x)))=(x.body.map (I3 (Dw x))).map (Hd N):=by
  show (x.body.map (Hd N)).map _=_;rw[Aby,Aby];refine Acu fun a ha=>?_;show (⟨a.nt,kH (Fa (A6 N x)) (Cm N a)⟩:Lit)=⟨a.nt,Cm N (I3 (Dw x) a)⟩;rw[key a (by rw[ab];simp[ha])]
 rw[e1,e3];rfl
theorem wU {y z:RItem}(hy:Dh y)(hz:Dh z)(h:Bh y++[46]=Bh z++[46]):y=z:=by
 have e:Bh y=Bh z:=List.append_cancel_right h;have h1:=(Nk hy).1;rw[e,(Nk hz).1]at h1;exact h1.symm
def Cn (p q:Tx):RItem:=⟨false,⟨false,p,[[65],[66]]⟩,[⟨false,q,[[65],[67]]⟩,⟨false,p,[[67],[66]]⟩]⟩
def X5 (p e:Tx):RItem:=⟨false,⟨false,p,[[65],[66]]⟩,[⟨false,e,[[65],[66]]⟩]⟩
theorem wS {b:UInt8}(h:Bl b.toNat=true):Py [b]:=⟨by simp,fun c hc=>by simp at hc;subst hc;exact .inl h⟩
theorem oY {p:Tx}(h:J3 p){n:Bool}{b c:UInt8}(hb:Bl b.toNat=true)(hc:Bl c.toNat=true):Ea ⟨n,p,[[b],[c]]⟩:=⟨h,by simp,by simp,fun t ht=>by
 simp only[Aci,Ac0,Ad5]at ht;rcases ht with rfl|rfl
 ·exact wS hb
 ·exact wS hc⟩
theorem Aan {p q:Tx}(hp:J3 p)(hq:J3 q):Dh (Cn p q):=⟨hp,(fun e=>by cases e),fun _=>⟨oY hp rfl rfl,rfl,by simp[Cn],fun a ha=>by
 simp only[Cn,Aci,Ac0,Ad5]at ha;rcases ha with rfl|rfl
 ·exact oY hq rfl rfl
 ·exact oY hp rfl rfl⟩⟩
theorem Aaa {p q:Tx}(hp:J3 p)(hq:J3 q):Dh (X5 p q):=⟨hp,(fun e=>by cases e),fun _=>⟨oY hp rfl rfl,rfl,by simp[X5],fun a ha=>by
 simp only[X5,Aci,Ac0,Ad5]at ha;subst ha
 exact oY hq rfl rfl⟩⟩
theorem dW {N:List Tx}{x:RItem}(hw:Dh x)(hi:WI N x)(h:Lo x=true):ren x=Cn x.head.pred x.head.pred:=by
 unfold Lo at h;rw[Ad4,Uv hw]at h;exact wU (V0 hw hi) (Aan hw.1 hw.1) (by rw[h];simp[vQ,Bh,Cn,C5,Ay,Bf,Br,B9])
theorem uB {N:List Tx}{x:RItem}{a:Ai}(hw:Dh x)(hi:WI N x)(hb:x.body=[a])(h:Lm x=true):ren x=X5 x.head.pred a.pred:=by
 have ho:x.out=false:=by
  cases ho:x.out with
  |false=>rfl
  |true=>rw[(hw.2.1 ho).2.2]at hb;cases hb
 unfold Lm at h;rw[hb]at h;simp only[Abo,Ad4]at h;rw[Uv hw]at h;exact wU (V0 hw hi) (Aaa hw.1 ((hw.2.2 ho).2.2.2 a (by rw[hb];simp)).1) (by rw[h.2];simp[pY,Bh,X5,C5,Ay,Bf,Br,B9])
theorem xI {N:List Tx}{b:Ai}(hN:b.pred∈N)(hu:∀t∈b.terms,UT t):Mb N b.nt (Cm N b)=b:=by
 obtain⟨n,p,ts⟩:=b;unfold Mb Cm;have aa:=Ac4 hN;simp only[Adu,List.getElem?_eq_getElem aa,Ac3,Option.getD_some,Aby];congr 1
 conv=>rhs;rw[<-List.map_id ts]
 exact Acu fun t ht=>(hu t ht).dec.1
theorem kR {N:List Tx}{x:RItem}(ho:x.out=false)(hn:x.head.nt=false)(h:∀a∈Af x,a.pred∈N/\∀t∈a.terms,UT t):C3 N (A6 N x)=x:=by
 obtain⟨o,hd,bd⟩:=x;have ho:o=false:=ho;subst ho;have aa:∀a,a=hd\/a∈bd->a∈Af ⟨false,hd,bd⟩:=fun a ha=>by simpa[Af]using ha
 have h1:=h hd (aa hd (.inl rfl));have e1:=xI h1.1 h1.2;have hn:hd.nt=false:=hn;rw[hn]at e1;unfold C3 A6;simp only[e1,Aby];congr 1
 conv=>rhs;rw[<-List.map_id bd]
 exact Acu fun a ha=>xI (h a (aa a (.inr ha))).1 (h a (aa a (.inr ha))).2
theorem W9 {k:Nat}(h:k<26)(b:UInt8)(hb:b=Qc k):UT [b]:=by rw[hb];exact (eP h).1
theorem gG {p q:Tx}:∀a∈Af (Cn p q),a.terms.length=2/\(a.pred=p\/a.pred=q)/\∀t∈a.terms,UT t:=by
 have hA:=W9 (k:=0) (by decide) 65 rfl;have hB:=W9 (k:=1) (by decide) 66 rfl;have hC:=W9 (k:=2) (by decide) 67 rfl;intro a ha;simp only[Af,Cn,Acb,if_false,List.singleton_append,Aci,Ac0,Ad5]at ha;rcases ha with rfl|rfl|rfl<;>simp[hA,hB,hC]
theorem rC {N:List Tx}{ar:Tx->Nat}{p q:Tx}(hp:p∈N)(hq:q∈N)(gp:xQ p)(gq:xQ q)(ap:ar p=2)(aq:ar q=2):RuO N ar (A6 N (Cn p q))/\C3 N (A6 N (Cn p q))=Cn p q:=by
 have hm:∀a∈Af (Cn p q),a.pred∈N/\xQ a.pred/\ar a.pred=2:=fun a ha=>by
  rcases (gG a ha).2.1 with e|e<;>rw[e]
  ·exact⟨hp,gp,ap⟩
  ·exact⟨hq,gq,aq⟩
 have key:∀a∈Af (Cn p q),AtO N ar (Cm N a):=fun a ha=>by
  obtain⟨h1,h2,h3⟩:=gG a ha;obtain⟨g1,g2,g3⟩:=hm a ha
  exact⟨⟨a.pred,g1,rfl,g2,by simp[Cm,h1,g3]⟩,by simp[Cm,h1],by simp[Cm,h1],fun t ht=>by
   obtain⟨u,hu,rfl⟩:=Acs.1 ht
   exact⟨u,h3 u hu,rfl⟩⟩
 refine⟨⟨key _ (Bv (.inl ⟨rfl,rfl⟩)),fun l hl=>?_⟩,kR rfl rfl fun a ha=>⟨(hm a ha).1,(gG a ha).2.2⟩⟩;obtain⟨a,ha,rfl⟩:=Acs.1 hl;exact key a (Bv (.inr ha))
theorem Lb {N:List Tx}{ar:Tx->Nat}{l:List RItem}(hR:RtL N ar l){i:Nat}{x:RItem}(hx:l[i]?=some x)(ha:Lo x=true):x.out=false/\x.body.length=2/\x.head.pred∈N/\xQ x.head.pred/\ar x.head.pred=2:=by
 have hm:=Abm hx;have hr:=dW (hR.wit x hm) (hR.wi x hm) ha;have ho:x.out=false:=congrArg RItem.out hr;have h1:x.body.length=2:=by have:=congrArg (fun y=>y.body.length) hr;simpa[ren,Cn]using this
 have h2:x.head.terms.length=2:=by have:=congrArg (fun y=>y.head.terms.length) hr;simpa[ren,Cn,I3]using this
 have hI:=(hR.ru x hm ho).head;exact⟨ho,h1,hI.mem,⟨(hR.wit x hm).1,(hR.gl.msr x hm).hpl⟩,by rw[<-hI.len,h2]⟩
theorem Rw {N:List Tx}{ar:Tx->Nat}{l:List RItem}(hR:RtL N ar l){i:Nat}{p e:Tx}(h:Hu l i p=some e):e∈N/\xQ e/\ar e=2:=by
 unfold Hu at h;split at h
 case h_2=>cases h
 rename_i y ho;split at h
 case isFalse=>cases h
 rename_i hs;split at h
 case h_2=>cases h
 rename_i a hb;cases h;have ab:y∈L0 l i p:=by rw[ho];simp
 obtain⟨⟨z,j⟩,hz,rfl⟩:=Acs.1 ab;obtain⟨ae,aa⟩:=Adj.1 hz;have hm:z∈l:=List.fst_mem_of_mem_zipIdx ae;have ad:z.out=false:=by
  unfold Oq Ks at aa;simp only[Abo,Adw]at aa;exact aa.2.1
 have ac:a∈z.body:=by rw[show z.body=[a]from hb];simp
 have hr:=uB (hR.wit z hm) (hR.wi z hm) hb hs;have h2:a.terms.length=2:=by
  have:=congrArg (fun y:RItem=>y.body.map fun b=>b.terms.length) hr;simpa[ren,X5,I3,show z.body=[a]from hb]using this
 have hI:=(hR.ru z hm ad).body a ac;exact⟨hI.mem,⟨((hR.wit z hm).2.2 ad).2.2.2 a ac|>.1,((hR.gl.msr z hm).at_ a (Bv (.inr ac))).2.1⟩,by rw[<-hI.len,h2]⟩
def Ug (N:List Tx)(l:List RItem)(i:Nat):Bool:=match l[i]? with
 |some x=>Lo x&&(match Hu l i x.head.pred with
  |some e=>Dp N l (Du i [Cn x.head.pred e] l)
  |none=>false)
 |none=>false
def chL (N:List Tx)(l:List RItem)(idn:Nat)(x:AV)(b:Bool):Prop:=
 (b=false/\∀i,i<l.length->Ug N l i=false)\/(b=true/\∃i y e,l[i]?=some y/\Lo y=true/\Hu l i y.head.pred=some e/\Ug N l i=true/\(∀j,j<i->Ug N l j=false)/\∃id c',x=Bs N idn (Du i [Cn y.head.pred e] l) id c'/\EL (PI N) (Du i [Cn y.head.pred e] l) c')
theorem rD {N:List Tx}{ar:Tx->Nat}{l:List RItem}(hR:RtL N ar l){i:Nat}{x:RItem}{e:Tx}(hx:l[i]?=some x)(ha:Lo x=true)(he:Hu l i x.head.pred=some e):GdI N ar [Cn x.head.pred e]:=fun y hy _=>by
 simp at hy;subst hy;obtain⟨-,-,h1,h2,h3⟩:=Lb hR hx ha;obtain⟨g1,g2,g3⟩:=Rw hR he;obtain⟨k1,k2⟩:=rC h1 g1 h2 g2 h3 g3;exact⟨_,k2.symm,k1,by simp[A6,Cn]⟩
theorem nG {N:List Tx}{ar:Tx->Nat}{l:List RItem}(hR:RtL N ar l){i:Nat}{x:RItem}{e:Tx}(hx:l[i]?=some x)(ha:Lo x=true)(he:Hu l i x.head.pred=some e){ih ib:Nat}{xs:List AV}(h:EL Pz (D5 (A6 N x)).body xs):PI N (Cn x.head.pred e) [sc (.bool false),ic (D5 (A6 N x)).head.p,sl ih (D5 (A6 N x)).head.ts.length (Ac (D5 (A6 N x)).head.ts),sl ib 2 (xs.set 1 (ic (N.idxOf e:Nat)))]:=by
 have hm:=Abm hx;obtain⟨ho,-,h1,h2,h3⟩:=Lb hR hx ha;obtain⟨g1,g2,g3⟩:=Rw hR he;rw[qV ho (hR.wit x hm) (fun a ha=>((hR.gl.msr x hm).at_ a ha).2.2),dW (hR.wit x hm) (hR.wi x hm) ha]at h⊢;refine eG h1 (fun a ha=>?_) ?_
 ·simp only[Cn,Aci,Ac0,Ad5]at ha;rcases ha with rfl|rfl
  ·exact g1
  ·exact h1
 ·obtain⟨c1,d1,⟨j1,rfl⟩,⟨c2,d2,⟨j2,rfl⟩,e2,rfl⟩,rfl⟩:=h;have e2:d2=[]:=e2;subst e2;exact⟨ih,ib,_,rfl,⟨_,_,⟨j1,rfl⟩,⟨_,_,⟨j2,rfl⟩,rfl,rfl⟩,rfl⟩⟩
theorem P0 (N:List Tx)(ar:Tx->Nat)(l:List RItem)(cs:List AV)(idn idi:Nat)(hR:RtL N ar l)(hE:EL (PI N) l cs)(d:St):
  ACalls Tryz.prog 128 [Bs N idn l idi cs] d fun r d'=>(∃x b,r=tp [x,sc (.bool b)]/\chL N l idn x b/\sU x)/\Keep d d':=by
 have hG:=hR.gl;have dc:=EL.length Df hE;have bn:=hG.len;have cm:=(hG.bkm hE).bk bn;have HB:Aec (BkM N l cs):=hG.bkm hE;have c8:Aec (EL (PJ N) l cs):=Mf hE fun x hx c hc=>.inl ⟨hc,hG.msr x hx⟩;have HR:Aec (RtL N ar l):=hR;have b1:=fun x c (hx:PI N x c) (hm:x∈l) d=>T5 N l cs idn idi cm x c hx (hR.wi x hm) d;have bv:=fun i x (hx:l[i]?=some x) d=>P4 N ar l cs idn idi i x hR hE hx d;clear hG hR cm;refine Z9 51 [.cell 2 62,.tmp 3] Tryz.func128 ?_
 repeat' (first|refine Z1 ?_|(refine Z8 ?_;intro κ hκ)|(refine Z4 ?_;clear hκ κ)|(refine Z2 ?_ ?_<;>intro h ad<;>try exact Xp)|refine Z3 ?_|exact⟨⟩|(apply hκ.out;clear hκ κ))
 refine Ad (fun m s d'=>∃(i:Nat),m=l.length-i/\i<=l.length/\s 1=ptr d.nobj 0/\s 2=ptr (d.nobj+1) 0/\s 12=sl idi l.length cs/\s 13=sc (.int .i64 l.length)/\s 14=sc (.int .i64 i)/\Keep d d'/\d.nobj+1<d'.nobj/\d'.obj d.nobj=[sl idn N.length (N.map str),sl idi l.length cs]/\d'.obj (d.nobj+1)=[nilS,nilS]/\Aec (∀j,j<i->Ug N l j=false)) l.length
  ⟨0,Ad6,Ad6,Ad8,Ad8,Ad8,Ad8,rfl,Xs,Aea,by rw[Ae Aea,Ao],by first|exact Ao|simp[Ao],fun j h=>Ad6⟩ ?_
 rintro m s d' ⟨i,rfl,hi,h1,h2,c5,cz,cy,hK,db,b6,b5,hA⟩;have da:=hK.nobj;by_cases ce:i<l.length
 ·have aa:=List.getElem?_eq_getElem ce;have ay:=Ac2 ce;obtain⟨cd,ih,idb,b,r,br,hd⟩:=Fi hE aa;generalize l[i]=x at hd aa cd br ay;have dd:=EL.length Eb br;have a4:=PI.of (ih:=ih) (id:=idb) cd br;have ap:=fun d=>b1 x _ a4 ay d;have ax:=fun d=>bv i x aa d;have av:Aec (Ug N l i=false->∀j,j<i+1->Ug N l j=false):=fun hf j hj=>by
   rcases Abi j i with h|h
   ·exact hA.out j h
   ·rw[show j=i by omega,hf]
  have ai:Ug N l i=(Lo x&&(match Hu l i x.head.pred with|some e=>Dp N l (Du i [Cn x.head.pred e] l)|none=>false)):=by unfold Ug;rw[aa]
  cases ha:Lo x with
  |false=>
   have a7:Aec (∀j,j<i+1->Ug N l j=false):=av.out (by rw[ai,ha];rfl);rw[ha]at ap;clear ai av hA ha ax aa a4
   repeat' (first|refine Z1 ?_|(refine Z8 ?_;intro κ hκ)|(refine Z4 ?_;clear hκ κ)|(refine Z2 ?_ ?_<;>intro h ad<;>try exact Xp)|(refine Z5 ?_;refine Xi (ap _) ?_;rintro _ _ ⟨rfl,af⟩;(have ae:=af.nobj;have ac:=af.obj;simp only[Ab,Aa]at ae ac))|refine Z3 ?_|exact⟨⟩|(apply hκ.out;clear hκ κ))
   refine⟨l.length-(i+1),Ad6,i+1,?_⟩
   ((repeat' with_reducible refine And.intro ?_ ?_)<;>first|exact Xq|exact (a7)|exact Xs)
  |true=>
   rw[ha]at ap ai;cases hs:Hu l i x.head.pred with
   |none=>
    have a7:Aec (∀j,j<i+1->Ug N l j=false):=av.out (by rw[ai,hs];rfl);have e1:Kf N l i x.head.pred= -1:=by unfold Kf;rw[hs]
    rw[e1]at ax;clear ai av hA ha hs e1 aa a4
    repeat' (first|refine Z1 ?_|(refine Z8 ?_;intro κ hκ)|(refine Z4 ?_;clear hκ κ)|(refine Z2 ?_ ?_<;>intro h ad<;>try exact Xp)|(refine Z5 ?_;first|(refine Xi (ap _) ?_;rintro _ _ ⟨rfl,af⟩;(have ae:=af.nobj;have ac:=af.obj;simp only[Ab,Aa]at ae ac))|(refine Xi (ax _) ?_;rintro _ _ ⟨rfl,an⟩;(have bf:=an.nobj;have ah:=an.obj)))|refine Z3 ?_|exact⟨⟩|(apply hκ.out;clear hκ κ))
    refine⟨l.length-(i+1),Ad6,i+1,?_⟩
    ((repeat' with_reducible refine And.intro ?_ ?_)<;>first|exact Xq|exact (a7)|exact Xs)
   |some e=>
    rw[hs]at ai;simp only[Acv]at ai;have e1:Kf N l i x.head.pred=((N.idxOf e:Nat):Int):=by unfold Kf;rw[hs]
    rw[e1]at ax;have a8:=(Lb HR.out aa ha).1;have cf:=(Lb HR.out aa ha).2.1;have ab:=fun (ih ib:Nat) (xs:List AV) (h:EL Pz (D5 (A6 N x)).body xs)=>nG HR.out aa ha hs (ih:=ih) (ib:=ib) h;have bb:=rD HR.out aa ha hs;have HC:Aec (∀id c' x',Ug N l i=true->x'=Bs N idn (Du i [Cn x.head.pred e] l) id c'->EL (PI N) (Du i [Cn x.head.pred e] l) c'->chL N l idn x' true):=fun id c' x' ho bg bq=>.inr ⟨rfl,i,x,e,aa,ha,hs,ho,hA.out,id,c',bg,bq⟩;have bz:=tC a4;rw[a8]at bz;have a9:=fun d=>mW (A6 N x) _ bz (iO (HR.out.ru x ay a8) (HR.out.gl.msr x ay) a8 (HR.out.wit x ay)).r52 d;have b0:(D5 (A6 N x)).body.length=2:=by simp[D5,A6,cf]
    have a3:=fun co ido (h:EL (PJ N) [Cn x.head.pred e] co) d=>Ph (E:=PJ N) tA N l [Cn x.head.pred e] cs co idn idi ido i c8.out h Ad6 (by simp) d;have ao:=fun c' id' (h:EL (PJ N) (Du i [Cn x.head.pred e] l) c') d=>K0 N l (Du i [Cn x.head.pred e] l) cs c' idn idi id' HB.out (xD HR.out bb (by simp) i h) d;have au:Aec (∀c',Dp N l (Du i [Cn x.head.pred e] l)=true->EL (PJ N) (Du i [Cn x.head.pred e] l) c'->EL (PI N) (Du i [Cn x.head.pred e] l) c'):=fun c' hb h=>by
     unfold Dp at hb;simp only[Abo]at hb;exact Mf h fun y hy c hc=>(hc.pi ((S1 hb.1).2 y hy)).1
    have b4:Aec (∀c,PI N (Cn x.head.pred e) c->PJ N (Cn x.head.pred e) c):=fun c hc=>.inl ⟨hc,by
     obtain⟨r,h1,h2,h3⟩:=bb (Cn x.head.pred e) (by simp) (by simp[Cn])
     rw[h1];exact h2.msr Ad6⟩
    rw[<-ai]at ao au;simp only[Acx]at a3;generalize Cn x.head.pred e=V at ab bb HC a3 ao au b4;generalize Du i [V] l=W at HC a3 ao au;generalize D5 (A6 N x)=O at ab a9 b0;rw[b0]at a9;have cp:Aec _:=ab;rw[a8]at ap hd;clear ai hA ha hs e1 aa a4 ab bb bz b0 cf
    repeat' (first|refine Z1 ?_|(refine Z8 ?_;intro κ hκ)|(refine Z4 ?_;clear hκ κ)|(refine Z2 ?_ ?_<;>intro h ad<;>try exact Xp)|(refine Z5 ?_;first|(refine Xi (ap _) ?_;rintro _ _ ⟨rfl,af⟩;(have ae:=af.nobj;have ac:=af.obj;simp only[Ab,Aa]at ae ac))|(refine Xi (ax _) ?_;rintro _ _ ⟨rfl,an⟩;(have bf:=an.nobj;have ah:=an.obj)))|refine Z3 ?_|exact⟨⟩|(apply hκ.out;clear hκ κ))
    refine ACalls.mono (a9 _) ?_;rintro _ d4 ⟨⟨jh,X,xs,rfl,cg,cj⟩,ba⟩;obtain⟨o,cap,rfl,ct,cv,bo,cw,b8⟩:=cg.gx Ad6;have cq:=ba.nobj;have ak:=ba.obj;refine Z3 ?_;refine hκ.out _ _ ?_;clear hκ κ;refine Yw ?_;have bw:Keep d ((d4.new [sc (.bool false),ic 0,nilS,nilS]).put d4.nobj [sc (.bool false),ic O.head.p,sl jh O.head.ts.length (Ac O.head.ts),gx o 2 cap]):=((((((hK.new _).put hK.nobj _).trans af).trans an).trans ba).new _).put Ad6 _;have ca:((d4.new [sc (.bool false),ic 0,nilS,nilS]).put d4.nobj [sc (.bool false),ic O.head.p,sl jh O.head.ts.length (Ac O.head.ts),gx o 2 cap]).obj o=d4.obj o:=by rw[Aj Ad6,Ae Ad6]
    have bh:((d4.new [sc (.bool false),ic 0,nilS,nilS]).put d4.nobj [sc (.bool false),ic O.head.p,sl jh O.head.ts.length (Ac O.head.ts),gx o 2 cap]).obj d4.nobj=[sc (.bool false),ic O.head.p,sl jh O.head.ts.length (Ac O.head.ts),gx o 2 cap]:=Ak;have b3:((d4.new [sc (.bool false),ic 0,nilS,nilS]).put d4.nobj [sc (.bool false),ic O.head.p,sl jh O.head.ts.length (Ac O.head.ts),gx o 2 cap]).obj d.nobj=[sl idn N.length (N.map str),sl idi l.length cs]:=by
     rw[Aj Ad6,Ae Ad6,ak _ Ad6,ah _ Ad6,ac _ Ad6,Aj Ad6,Ae Ad6,b6]
    have b2:((d4.new [sc (.bool false),ic 0,nilS,nilS]).put d4.nobj [sc (.bool false),ic O.head.p,sl jh O.head.ts.length (Ac O.head.ts),gx o 2 cap]).obj (d.nobj+1)=[nilS,nilS]:=by
     rw[Aj Ad6,Ae Ad6,ak _ Ad6,ah _ Ad6,ac _ Ad6,Aj Ad6,Ae Ad6,b5]
    have cb:d4.nobj<((d4.new [sc (.bool false),ic 0,nilS,nilS]).put d4.nobj [sc (.bool false),ic O.head.p,sl jh O.head.ts.length (Ac O.head.ts),gx o 2 cap]).nobj:=Aeb;generalize (d4.new [sc (.bool false),ic 0,nilS,nilS]).put d4.nobj [sc (.bool false),ic O.head.p,sl jh O.head.ts.length (Ac O.head.ts),gx o 2 cap]=A at bw ca bh b3 b2 cb;have bp:1<(d4.obj o).length:=Ad6;have bi:o≠d4.nobj:=Ad6;have bm:o≠d.nobj:=Ad6;have bl:o≠d.nobj+1:=Ad6;refine Bq (Q:=fun e' s' d''=>e'= .normal/\s' 1=ptr d.nobj 0/\s' 2=ptr (d.nobj+1) 0/\s' 4=ic i/\s' 7=ptr d4.nobj 0/\s' 12=sl idi l.length cs/\s' 13=ic l.length/\s' 14=ic i/\d''=A.put o ((d4.obj o).set 1 (ic (N.idxOf e:Nat)))) ?_ ?_
    ·repeat' (first|refine Z1 ?_|(refine Z8 ?_;intro κ hκ)|(refine Z4 ?_;clear hκ κ)|(refine Z2 ?_ ?_<;>intro h ad<;>try exact Xp)|refine Z3 ?_|exact⟨⟩|(apply hκ.out;clear hκ κ))
    rintro e' s' d'' ⟨rfl,g1,g2,g4,g7,g12,g13,g14,rfl⟩;have a0:(A.put o ((d4.obj o).set 1 (ic (N.idxOf e:Nat)))).obj d4.nobj=[sc (.bool false),ic O.head.p,sl jh O.head.ts.length (Ac O.head.ts),gx o 2 cap]:=by rw[Cd bi.symm,bh]
    refine Ty (o:=o) (p:=d4.nobj) (j:=3) (k:=6) (by simp only[Ab];omega) (by simp only[Ab];omega) bi a0 rfl (by rw[Ak,Ady];omega) ?_;have az:((A.put o ((d4.obj o).set 1 (ic (N.idxOf e:Nat)))).obj o).take 6=xs.set 1 (ic (N.idxOf e:Nat)):=by rw[Ak,List.take_set,b8]
    rw[az];have ci:Keep d (((A.put o ((d4.obj o).set 1 (ic (N.idxOf e:Nat)))).put o []).put d4.nobj ([sc (.bool false),ic O.head.p,sl jh O.head.ts.length (Ac O.head.ts),gx o 2 cap].set 3 (sl 0 2 (xs.set 1 (ic (N.idxOf e:Nat)))))):=((bw.put Ad6 _).put Ad6 _).put Ad6 _;have b9:(((A.put o ((d4.obj o).set 1 (ic (N.idxOf e:Nat)))).put o []).put d4.nobj ([sc (.bool false),ic O.head.p,sl jh O.head.ts.length (Ac O.head.ts),gx o 2 cap].set 3 (sl 0 2 (xs.set 1 (ic (N.idxOf e:Nat)))))).obj d4.nobj=[sc (.bool false),ic O.head.p,sl jh O.head.ts.length (Ac O.head.ts),sl 0 2 (xs.set 1 (ic (N.idxOf e:Nat)))]:=Ak;have c7:(((A.put o ((d4.obj o).set 1 (ic (N.idxOf e:Nat)))).put o []).put d4.nobj ([sc (.bool false),ic O.head.p,sl jh O.head.ts.length (Ac O.head.ts),gx o 2 cap].set 3 (sl 0 2 (xs.set 1 (ic (N.idxOf e:Nat)))))).obj d.nobj=[sl idn N.length (N.map str),sl idi l.length cs]:=by
     rw[Cd Ad6,Cd bm.symm,Cd bm.symm,b3]
    have cx:(((A.put o ((d4.obj o).set 1 (ic (N.idxOf e:Nat)))).put o []).put d4.nobj ([sc (.bool false),ic O.head.p,sl jh O.head.ts.length (Ac O.head.ts),gx o 2 cap].set 3 (sl 0 2 (xs.set 1 (ic (N.idxOf e:Nat)))))).obj (d.nobj+1)=[nilS,nilS]:=by
     rw[Cd Ad6,Cd bl.symm,Cd bl.symm,b2]
    have cr:d4.nobj<(((A.put o ((d4.obj o).set 1 (ic (N.idxOf e:Nat)))).put o []).put d4.nobj ([sc (.bool false),ic O.head.p,sl jh O.head.ts.length (Ac O.head.ts),gx o 2 cap].set 3 (sl 0 2 (xs.set 1 (ic (N.idxOf e:Nat)))))).nobj:=by simp only[Ab];omega
    generalize ((A.put o ((d4.obj o).set 1 (ic (N.idxOf e:Nat)))).put o []).put d4.nobj ([sc (.bool false),ic O.head.p,sl jh O.head.ts.length (Ac O.head.ts),gx o 2 cap].set 3 (sl 0 2 (xs.set 1 (ic (N.idxOf e:Nat)))))=F at ci b9 c7 cx cr;have ch:=b4.out _ (cp.out jh 0 xs cj);have bu:=EL.single ch;generalize xs.set 1 (ic (N.idxOf e:Nat))=ys at b9 bu;have cn:Aec _:=bu;clear a0 az bw ca bh b3 b2 cb bp bi bm bl ch bu b8 cj cg ba ak an ah af ac a9 cp b4 ap ax b6 b5 h1 h2 c5 cz cy bo cw ct cv hd;have knoF:=ci.nobj;cases aw:Ug N l i with
    |true=>
     rw[aw]at ao au;have c9:Aec (∀id c' x',x'=Bs N idn W id c'->EL (PJ N) W c'->chL N l idn x' true):=fun id c' x' bg bq=>HC.out id c' x' aw bg (au.out c' rfl bq);clear av au HC aw
     repeat' (first|refine Z1 ?_|(refine Z8 ?_;intro κ hκ)|(refine Z4 ?_;clear hκ κ)|(refine Z2 ?_ ?_<;>intro h ad<;>try exact Xp)|(refine Z5 ?_;first|(refine Xi (a3 _ _ cn.out _) ?_;rintro _ _ ⟨⟨id6,c6,rfl,bc⟩,a6⟩;(have am:=a6.nobj;have aj:=a6.obj;(try simp only[Ab,Aa,Ag]at am aj)))|(refine Xi (ao c6 id6 bc _) ?_;rintro _ _ ⟨⟨x7,rfl,b7,⟨id71,n71,c71,id72,n72,c72,rfl⟩⟩,a5⟩;(have be:=a5.nobj;have bd:=a5.obj)))|refine Z3 ?_|exact⟨⟩|(apply hκ.out;clear hκ κ))
     exact⟨_,rfl,⟨_,true,rfl,c9.out _ _ _ (b7 rfl) bc,_,_,_,_,_,_,rfl⟩,Xs⟩
    |false=>
     rw[aw]at ao;have a7:Aec (∀j,j<i+1->Ug N l j=false):=av.out aw;clear av au HC aw
     repeat' (first|refine Z1 ?_|(refine Z8 ?_;intro κ hκ)|(refine Z4 ?_;clear hκ κ)|(refine Z2 ?_ ?_<;>intro h ad<;>try exact Xp)|(refine Z5 ?_;first|(refine Xi (a3 _ _ cn.out _) ?_;rintro _ _ ⟨⟨id6,c6,rfl,bc⟩,a6⟩;(have am:=a6.nobj;have aj:=a6.obj;(try simp only[Ab,Aa,Ag]at am aj)))|(refine Xi (ao c6 id6 bc _) ?_;rintro _ _ ⟨⟨x7,rfl,b7,⟨id71,n71,c71,id72,n72,c72,rfl⟩⟩,a5⟩;(have be:=a5.nobj;have bd:=a5.obj)))|refine Z3 ?_|exact⟨⟩|(apply hκ.out;clear hκ κ))
     refine⟨l.length-(i+1),Ad6,i+1,?_⟩
     ((repeat' with_reducible refine And.intro ?_ ?_)<;>first|exact Xq|exact (a7)|exact Xs)
 ·have cu:i=l.length:=Ad6;subst cu
  repeat' (first|refine Z1 ?_|(refine Z8 ?_;intro κ hκ)|(refine Z4 ?_;clear hκ κ)|(refine Z2 ?_ ?_<;>intro h ad<;>try exact Xp)|refine Z3 ?_|exact⟨⟩|(apply hκ.out;clear hκ κ))
  exact⟨_,rfl,⟨_,false,rfl,.inl ⟨rfl,hA.out⟩,_,_,_,_,_,_,rfl⟩,Xs⟩
def StpR (T:List RItem->Option (List RItem)->Prop)(N:List Tx)(l:List RItem)(idn:Nat)(x:AV)(b:Bool):Prop:=sU x/\∃o,T l o/\b=o.isSome/\∀l',o=some l'->∃id c',x=Bs N idn l' id c'/\EL (PI N) l' c'
def StS (N:List Tx)(l:List RItem)(o:Option (List RItem)):Prop:=∃M,Dm N l M/\
 (((H1 N (E5 N.length M N.length) l).length=l.length/\o=none)\/((H1 N (E5 N.length M N.length) l).length≠l.length/\
  ((Dp N l (H1 N (E5 N.length M N.length) l)=false/\o=none)\/(Dp N l (H1 N (E5 N.length M N.length) l)=true/\o=some (H1 N (E5 N.length M N.length) l)))))
def StU (N:List Tx)(l:List RItem)(o:Option (List RItem)):Prop:=∃M,Dm N l M/\
 ((o=none/\mZ N (E5 N.length M N.length) l l.length)\/∃i k y a,o=some (Du i (uL N l y k a.pred) l)/\l[i]?=some y/\y.out=false/\y.body[k]?=some a/\Wg N (E5 N.length M N.length) l i k=true/\mZ N (E5 N.length M N.length) l i/\∀k',k'<k->Wg N (E5 N.length M N.length) l i k'=false)
def StL (N:List Tx)(l:List RItem)(o:Option (List RItem)):Prop:=
 (o=none/\∀i,i<l.length->Ug N l i=false)\/∃i y e,o=some (Du i [Cn y.head.pred e] l)/\l[i]?=some y/\Lo y=true/\Hu l i y.head.pred=some e/\Ug N l i=true/\∀j,j<i->Ug N l j=false
theorem chS.stp {N:List Tx}{l:List RItem}{idn:Nat}{x:AV}{b:Bool}(h:chS N l idn x b)(ht:sU x):StpR (StS N) N l idn x b:=by
 refine⟨ht,?_⟩;obtain⟨M,hM,h⟩:=h;rcases h with⟨h1,rfl⟩|⟨h1,h2,h3⟩
 ·exact⟨none,⟨M,hM,.inl ⟨h1,rfl⟩⟩,rfl,fun l' e=>by cases e⟩
 ·cases hb:Dp N l (H1 N (E5 N.length M N.length) l)with
  |false=>exact⟨none,⟨M,hM,.inr ⟨h1,.inl ⟨hb,rfl⟩⟩⟩,by rw[h2,hb];rfl,fun l' e=>by cases e⟩
  |true=>exact⟨_,⟨M,hM,.inr ⟨h1,.inr ⟨hb,rfl⟩⟩⟩,by rw[h2,hb];rfl,fun l' e=>by cases e;exact h3 (by rw[h2,hb])⟩
theorem chU.stp {N:List Tx}{l:List RItem}{idn:Nat}{x:AV}{b:Bool}(h:chU N l idn x b)(ht:sU x):StpR (StU N) N l idn x b:=by
 refine⟨ht,?_⟩;obtain⟨M,hM,⟨rfl,h⟩|⟨rfl,i,k,y,a,h1,h2,h3,h4,h5,h6,id,c',h7,h8⟩⟩:=h
 ·exact⟨none,⟨M,hM,.inl ⟨rfl,h⟩⟩,rfl,fun l' e=>by cases e⟩
 ·exact⟨_,⟨M,hM,.inr ⟨i,k,y,a,rfl,h1,h2,h3,h4,h5,h6⟩⟩,rfl,fun l' e=>by cases e;exact⟨id,c',h7,h8⟩⟩
theorem chL.stp {N:List Tx}{l:List RItem}{idn:Nat}{x:AV}{b:Bool}(h:chL N l idn x b)(ht:sU x):StpR (StL N) N l idn x b:=by
 refine⟨ht,?_⟩;rcases h with⟨rfl,h⟩|⟨rfl,i,y,e,h1,h2,h3,h4,h5,id,c',h7,h8⟩
 ·exact⟨none,.inl ⟨rfl,h⟩,rfl,fun l' e=>by cases e⟩
 ·exact⟨_,.inr ⟨i,y,e,rfl,h1,h2,h3,h4,h5⟩,rfl,fun l' e=>by cases e;exact⟨id,c',h7,h8⟩⟩
theorem StS.rt {N:List Tx}{ar:Tx->Nat}{l l':List RItem}(h:StS N l (some l'))(hR:RtL N ar l):RtL N ar l':=by
 obtain⟨M,-,⟨-,h⟩|⟨-,⟨-,h⟩|⟨-,h⟩⟩⟩:=h
 ·cases h
 ·cases h
 ·cases h;exact hR.sub (fun x hx=>(Adj.1 hx).1) (Abg (Adi _ _) hR.gl.len)
theorem uU {N:List Tx}{U:Nat->Nat->Bool}{l:List RItem}{i k:Nat}{y:RItem}{a:Ai}(h1:l[i]?=some y)(h2:y.body[k]?=some a)(h:Wg N U l i k=true):Dp N l (Du i (uL N l y k a.pred) l)=true:=by
 unfold Wg at h;rw[h1]at h;dsimp only at h;rw[h2]at h;simp only[Abo]at h;exact h.2.2.2
theorem uV {N:List Tx}{l:List RItem}{i:Nat}{y:RItem}{e:Tx}(h1:l[i]?=some y)(h2:Hu l i y.head.pred=some e)(h:Ug N l i=true):Dp N l (Du i [Cn y.head.pred e] l)=true:=by
 unfold Ug at h;rw[h1]at h;dsimp only at h;rw[h2]at h;simp only[Abo]at h;exact h.2
theorem StU.rt {N:List Tx}{ar:Tx->Nat}{l l':List RItem}(h:StU N l (some l'))(hR:RtL N ar l):RtL N ar l':=by
 obtain⟨M,-,⟨h,-⟩|⟨i,k,y,a,h,h1,h2,h3,h4,-⟩⟩:=h
 ·cases h
 ·cases h;exact xB hR (wW hR (Abm h1) h2 h3) i (uU h1 h3 h4)
theorem StL.rt {N:List Tx}{ar:Tx->Nat}{l l':List RItem}(h:StL N l (some l'))(hR:RtL N ar l):RtL N ar l':=by
 rcases h with⟨h,-⟩|⟨i,y,e,h,h1,h2,h3,h4,-⟩
 ·cases h
 ·cases h;exact xB hR (rD hR h1 h2 h3) i (uV h1 h3 h4)
theorem oA (N:List Tx)(ar:Tx->Nat)(l:List RItem)(cs:List AV)(idn idi:Nat)(hR:RtL N ar l)(hE:EL (PI N) l cs)(d:St):
  ACalls Tryz.prog 73 [Bs N idn l idi cs,sc (.int .u8 (115:UInt8).toNat)] d fun r d'=>(∃x b,r=tp [x,sc (.bool b)]/\StpR (StS N) N l idn x b)/\Keep d d':=by
 have hS:=fun d=>Kc N l cs idn idi hR.gl hE d;have e1:((((115:UInt8).toNat:Nat):Int)==115)=true:=rfl;refine Z9 38 [.cell 4 62,.tmp 5] Tryz.func73 ?_
 repeat' (first|refine Z1 ?_|(refine Z8 ?_;intro κ hκ)|(refine Z4 ?_;clear hκ κ)|(refine Z2 ?_ ?_<;>intro h af<;>try exact Xp)|(refine Z5 ?_;refine Xi (hS _) ?_;rintro _ _ ⟨⟨x1,b1,rfl,ac,ad⟩,ae⟩;(have HX:Aec _:=ac;have HT:Aec (sU x1):=ad;obtain⟨t1,t2,t3,t4,t5,t6,rfl⟩:=ad;clear ac;have ab:=ae.nobj;have aa:=ae.obj;(try simp only[Aa]at ab aa)))|refine Z3 ?_|exact⟨⟩|(apply hκ.out;clear hκ κ))
 exact⟨_,rfl,⟨_,b1,rfl,chS.stp HX.out HT.out⟩,Xs⟩
theorem nZ (N:List Tx)(ar:Tx->Nat)(l:List RItem)(cs:List AV)(idn idi:Nat)(hR:RtL N ar l)(hE:EL (PI N) l cs)(d:St):
  ACalls Tryz.prog 73 [Bs N idn l idi cs,sc (.int .u8 (117:UInt8).toNat)] d fun r d'=>(∃x b,r=tp [x,sc (.bool b)]/\StpR (StU N) N l idn x b)/\Keep d d':=by
 have hS:=fun d=>Mm N ar l cs idn idi hR hE d;have e1:((((117:UInt8).toNat:Nat):Int)==115)=false:=rfl;have e2:((((117:UInt8).toNat:Nat):Int)==97)=false:=rfl;have e3:((((117:UInt8).toNat:Nat):Int)==114)=false:=rfl;have e4:((((117:UInt8).toNat:Nat):Int)==117)=true:=rfl;refine Z9 38 [.cell 4 62,.tmp 5] Tryz.func73 ?_
 repeat' (first|refine Z1 ?_|(refine Z8 ?_;intro κ hκ)|(refine Z4 ?_;clear hκ κ)|(refine Z2 ?_ ?_<;>intro h af<;>try exact Xp)|(refine Z5 ?_;refine Xi (hS _) ?_;rintro _ _ ⟨⟨x1,b1,rfl,ac,ad⟩,ae⟩;(have HX:Aec _:=ac;have HT:Aec (sU x1):=ad;obtain⟨t1,t2,t3,t4,t5,t6,rfl⟩:=ad;clear ac;have ab:=ae.nobj;have aa:=ae.obj;(try simp only[Aa]at ab aa)))|refine Z3 ?_|exact⟨⟩|(apply hκ.out;clear hκ κ))
 exact⟨_,rfl,⟨_,b1,rfl,chU.stp HX.out HT.out⟩,Xs⟩
theorem oB (N:List Tx)(ar:Tx->Nat)(l:List RItem)(cs:List AV)(idn idi:Nat)(hR:RtL N ar l)(hE:EL (PI N) l cs)(d:St):
  ACalls Tryz.prog 73 [Bs N idn l idi cs,sc (.int .u8 (108:UInt8).toNat)] d fun r d'=>(∃x b,r=tp [x,sc (.bool b)]/\StpR (StL N) N l idn x b)/\Keep d d':=by
 have hS:=fun d=>P0 N ar l cs idn idi hR hE d;have e1:((((108:UInt8).toNat:Nat):Int)==115)=false:=rfl;have e2:((((108:UInt8).toNat:Nat):Int)==97)=false:=rfl;have e3:((((108:UInt8).toNat:Nat):Int)==114)=false:=rfl;have e4:((((108:UInt8).toNat:Nat):Int)==117)=false:=rfl;have e5:((((108:UInt8).toNat:Nat):Int)==108)=true:=rfl;refine Z9 38 [.cell 4 62,.tmp 5] Tryz.func73 ?_
 repeat' (first|refine Z1 ?_|(refine Z8 ?_;intro κ hκ)|(refine Z4 ?_;clear hκ κ)|(refine Z2 ?_ ?_<;>intro h af<;>try exact Xp)|(refine Z5 ?_;refine Xi (hS _) ?_;rintro _ _ ⟨⟨x1,b1,rfl,ac,ad⟩,ae⟩;(have HX:Aec _:=ac;have HT:Aec (sU x1):=ad;obtain⟨t1,t2,t3,t4,t5,t6,rfl⟩:=ad;clear ac;have ab:=ae.nobj;have aa:=ae.obj;(try simp only[Aa]at ab aa)))|refine Z3 ?_|exact⟨⟩|(apply hκ.out;clear hκ κ))
 exact⟨_,rfl,⟨_,b1,rfl,chL.stp HX.out HT.out⟩,Xs⟩
end Go.Proofs.YtmoeoppbmhfbpabGreatDoorJ
