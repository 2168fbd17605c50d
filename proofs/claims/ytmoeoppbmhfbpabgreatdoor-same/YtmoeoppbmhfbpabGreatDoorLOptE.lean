import Derived.Test.YtmoeoppbmhfbpabGreatDoorLTxtB
import Derived.Test.YtmoeoppbmhfbpabGreatDoorLFacts
import Derived.Test.YtmoeoppbmhfbpabGreatDoorLEngR
import Derived.Test.YtmoeoppbmhfbpabGreatDoorLSpaE
import Derived.Test.YtmoeoppbmhfbpabGreatDoorLProgP
import Derived.Test.YtmoeoppbmhfbpabGreatDoorLAbsWp
set_option maxHeartbeats 64000000
set_option maxRecDepth 100000
set_option linter.all false
namespace Go.Proofs.YtmoeoppbmhfbpabGreatDoorL
open Go.Abs
structure GL (N:List Tx)(l:List RItem):Prop where
 len:l.length<=16
 nm:N.length<=2000
 msr:∀x∈l,Msr N x
 fits:∀x∈l,x.fits
 pos:∀x∈l,∀a∈Ae x,0<a.terms.length
 va:∀x∈l,∀a∈Ae x,VA a
 ar:∀x∈l,∀a∈x.body,∀b∈x.body,a.pred=b.pred->a.terms.length=b.terms.length
theorem GL.bkm {N:List Tx}{l:List RItem}{cs:List AV}(h:GL N l)(hE:EL (PI N) l cs):BkM N l cs:=⟨hE,by have:=h.len;omega,h.nm,h.msr,h.fits,h.pos,h.va⟩
theorem Du {α:Type}{n:Nat}{o l:List α}{x:α}(h:x∈Cp n o l):x∈l\/x∈o:=by
 unfold Cp at h;obtain⟨p,hp,hx⟩:=Ahr.1 h;split at hx
 ·exact .inr hx
 ·simp at hx;subst hx;exact .inl (List.fst_mem_of_mem_zipIdx hp)
theorem Abf {α:Type}{n:Nat}{y:α}(l:List α):(Cp n [y] l).length=l.length:=by
 unfold Cp;rw[List.length_flatMap];have key:∀(l:List α) (k:Nat),((l.zipIdx k).map fun p=>(if p.2=n then [y]else [p.1]).length).sum=l.length:=by
  intro l;induction l with
  |nil=>intro k;simp
  |cons x l ih=>
   intro k;have:=ih (k+1);simp only[List.zipIdx_cons,Ag5,List.sum_cons,Ahj];rw[this];split<;>simp<;>omega
 exact key l 0
theorem Pf {α:Type}{n:Nat}(l:List α):(Cp n [] l).length<=l.length:=by
 unfold Cp;rw[List.length_flatMap];have key:∀(l:List α) (k:Nat),((l.zipIdx k).map fun p=>(if p.2=n then []else [p.1]).length).sum<=l.length:=by
  intro l;induction l with
  |nil=>intro k;simp
  |cons x l ih=>
   intro k;have:=ih (k+1);simp only[List.zipIdx_cons,Ag5,List.sum_cons,Ahj];split<;>simp<;>omega
 exact key l 0
theorem Ll {x:RItem}{k:Nat}(ho:x.out=false){a:RAtom}(h:a∈Ae (G6 x k)):a∈Ae x:=by
 have h':a=x.head\/a∈x.body.eraseIdx k:=by simpa[Ae,G6]using h
 rcases h' with rfl|h'
 ·exact Au (.inl ⟨ho,rfl⟩)
 ·exact Au (.inr (Air h'))
theorem GL.wo {N:List Tx}{l:List RItem}(h:GL N l){i k:Nat}{x:RItem}(hx:l[i]?=some x)(ho:x.out=false):GL N (Cp i [G6 x k] l):=by
 have aa:=Agp hx;have hm:∀y∈Cp i [G6 x k] l,y∈l\/y=G6 x k:=fun y hy=>by
  rcases Du hy with h|h
  ·exact .inl h
  ·exact .inr (by simpa using h)
 have m:=h.msr x aa;refine⟨by rw[Abf];exact h.len,h.nm,fun y hy=>?_,fun y hy=>?_,fun y hy=>?_,fun y hy=>?_,fun y hy=>?_⟩
 ·rcases hm y hy with hy|rfl
  ·exact h.msr y hy
  ·exact⟨(fun e=>by cases e),Agj (Aiu _ _) m.body,m.mem,m.hpl,fun a ha=>m.at_ a (Ll ho ha)⟩
 ·rcases hm y hy with hy|rfl
  ·exact h.fits y hy
  ·exact Te (h.fits x aa)
 ·rcases hm y hy with hy|rfl
  ·exact h.pos y hy
  ·exact fun a ha=>h.pos x aa a (Ll ho ha)
 ·rcases hm y hy with hy|rfl
  ·exact h.va y hy
  ·exact fun a ha=>h.va x aa a (Ll ho ha)
 ·rcases hm y hy with hy|rfl
  ·exact h.ar y hy
  ·exact fun a ha b hb=>h.ar x aa a (Air ha) b (Air hb)
def kZ (N:List Tx)(x:RItem)(k:Nat):Option Sw:=(Ch K6 (x.head.terms.map Al) (x.head.terms.map Al)).bind fun s0=>Is N x k s0
theorem bI {N:List Tx}{l:List RItem}(h:GL N l){x:RItem}(hx:x∈l)(ho:x.out=false)(c:List AV)(k:Nat)(hc:PI N x c)(d:St):ACalls Tryz.prog 94 [ag c,sc (.int .i64 k)] d fun r d'=>r=O3 (kZ N x k)/\Keep d d':=by
 have m:=h.msr x hx;have hh:=m.at_ x.head (Au (.inl ⟨ho,rfl⟩));obtain⟨s0,aa,-⟩:=X6 tellU x.head.terms hh.2.2;have:=fU N x c k s0 hc (h.fits x hx) aa (fun t ht=>(hh.2.2 t ht).varOk) (fun a ha=>⟨(h.fits x hx).2.2 a ha,fun t ht=>((m.at_ a (Au (.inr ha))).2.2 t ht).varOk,fun b hb=>h.ar x hx a ha b (Air hb)⟩) d;rw[kZ,aa];exact this
def jX (x:AV):Prop:=∃id1 n1 c1 id2 n2 c2,x=ag [sl id1 n1 c1,sl id2 n2 c2]
def Se (N:List Tx)(l:List RItem)(i k:Nat):Bool:=match l[i]? with
 |some x=>(kZ N x k).isSome&&Cz N l (Cp i [G6 x k] l)
 |none=>false
def sM (N:List Tx)(l:List RItem)(n:Nat):Prop:=∀i y,i<n->l[i]?=some y->∀k,k<y.body.length->Se N l i k=false
def chA (N:List Tx)(l:List RItem)(idn:Nat)(x:AV)(b:Bool):Prop:=
 (b=false/\sM N l l.length)\/(b=true/\∃i k y,l[i]?=some y/\y.out=false/\k<y.body.length/\Se N l i k=true/\sM N l i/\(∀k',k'<k->Se N l i k'=false)/\∃id c',x=Bo N idn (Cp i [G6 y k] l) id c'/\EL (PI N) (Cp i [G6 y k] l) c')
theorem O0 (N:List Tx)(l:List RItem)(cs:List AV)(idn idi:Nat)(hG:GL N l)(hE:EL (PI N) l cs)(d:St):
  ACalls Tryz.prog 125 [Bo N idn l idi cs] d fun r d'=>(∃x b,r=tp [x,sc (.bool b)]/\chA N l idn x b/\jX x)/\Keep d d':=by
 have cd:=EL.length De hE;have bz:=hG.len;have b7:=Cx;have b6:=Pb;have b5:∀s,List.take 78 (Dn s)=Dn s:=fun s=>Ahu (by rw[Cx];exact Agi _);have b9:∀s s',lsp (Dn s) 0 (Dn s')=Dn s':=fun s s'=>Mz (by rw[Cx,Cx]);have cb:∀s,(Dn s).all flat=true:=fun s=>by
  rw[Ago];intro x hx;obtain⟨n,-,rfl⟩:=Ahv.1 hx;unfold eU;split
  ·rfl
  ·split<;>rfl
 refine Z9 53 [.cell 2 62,.tmp 3] Tryz.func125 ?_
 repeat' (first|refine Z1 ?_|(refine Z8 ?_;intro κ hκ)|(refine Z4 ?_;clear hκ κ)|(refine Z2 ?_ ?_<;>intro h aa<;>try exact Xp)|refine Z3 ?_|exact⟨⟩|(apply hκ.out;clear hκ κ))
 refine Af (fun m s d'=>∃(i:Nat),m=l.length-i/\i<=l.length/\s 1=ptr d.nobj 0/\s 2=ptr (d.nobj+1) 0/\s 13=sl idi l.length cs/\s 14=sc (.int .i64 l.length)/\s 15=sc (.int .i64 i)/\Keep d d'/\d.nobj+1<d'.nobj/\d'.obj d.nobj=[sl idn N.length (N.map str),sl idi l.length cs]/\d'.obj (d.nobj+1)=[nilS,nilS]/\Ajs (sM N l i)) l.length
  ⟨0,Ajm,Ajm,Ajo,Ajo,Ajo,Ajo,rfl,Xs,Ajq,by rw[Ag Ajq,Ap],by first|exact Ap|simp[Ap],fun i y h=>Ajm⟩ ?_
 rintro m s d' ⟨i,rfl,hi,h1,h2,bp,bo,bn,hK,b8,az,ay,hA⟩;have b4:=hK.nobj;by_cases bl:i<l.length
 ·have ac:=List.getElem?_eq_getElem bl;have a0:=Ah6 bl;have bm:=hG.fits l[i] a0;have bi:=hG.msr l[i] a0;obtain⟨a7,ih,idb,b,r,a3,hd⟩:=En hE ac;generalize l[i]=x at hd ac a7 a3 a0 bm bi;have b1:=bm.1;have ce:=EL.length Dt a3;have HG:Ajs (l[i]?=some x):=ac;clear ac
  repeat' (first|refine Z1 ?_|(refine Z8 ?_;intro κ hκ)|(refine Z4 ?_;clear hκ κ)|(refine Z2 ?_ ?_<;>intro h aa<;>try exact Xp)|refine Z3 ?_|exact⟨⟩|(apply hκ.out;clear hκ κ))
  refine Af (fun m s d2=>∃(k:Nat),m=x.body.length-k/\k<=x.body.length/\s 1=ptr d.nobj 0/\s 2=ptr (d.nobj+1) 0/\s 4=sc (.int .i64 i)/\s 5=ptr d'.nobj 0/\s 13=sl idi l.length cs/\s 14=sc (.int .i64 l.length)/\s 15=sc (.int .i64 i)/\s 21=sl idb x.body.length b/\s 22=sc (.int .i64 x.body.length)/\s 23=sc (.int .i64 k)/\Keep d d2/\d'.nobj<d2.nobj/\d2.obj d.nobj=[sl idn N.length (N.map str),sl idi l.length cs]/\d2.obj (d.nobj+1)=[nilS,nilS]/\d2.obj d'.nobj=[sc (.bool x.out),sc (.int .i64 (N.idxOf x.head.pred:Nat)),sl ih x.head.terms.length (Aw x.head.terms),sl idb x.body.length b]/\Ajs (∀k',k'<k->Se N l i k'=false)) x.body.length
   ⟨0,Ajm,Ajm,Ajn,Ajn,Ajn,Ajn,Ajn,Ajn,Ajn,Ajo,Ajo,Ajo,Xs,Ajr,by rw[Ai Ajm,Ag Ajm,az],by rw[Ai Ajm,Ag Ajm,ay],by rw[Ak],fun k' h=>Ajm⟩ ?_
  clear h1 h2 bp bo bn hK az ay;rintro m s d2 ⟨k,rfl,hk,h1,h2,h4,h5,bp,bo,bn,ch,cg,cf,hK,bw,az,ay,bg,hN⟩;have bq:=hK.nobj;by_cases am:k<x.body.length
  ·have an:x.out=false:=by
    cases h:x.out with
    |false=>rfl
    |true=>rw[bi.out h]at am;cases am
   have af:=fun d=>bI hG a0 an _ k (PI.of (ih:=ih) (id:=idb) a7 a3) d;simp only[an]at af bg;have ae:Se N l i k=((kZ N x k).isSome&&Cz N l (Cp i [G6 x k] l)):=by unfold Se;rw[HG.out]
   cases hs:kZ N x k with
   |none=>
    rw[hs]at af ae;simp only[O3]at af;have HN:Ajs (∀k',k'<k+1->Se N l i k'=false):=fun k' a9=>by
     rcases Agl k' k with h|h
     ·exact hN.out k' h
     ·rw[show k'=k by omega,ae];rfl
    clear hN ae hs
    repeat' (first|refine Z1 ?_|(refine Z8 ?_;intro κ hκ)|(refine Z4 ?_;clear hκ κ)|(refine Z2 ?_ ?_<;>intro h aa<;>try exact Xp)|(refine Z5 ?_;refine Xi (af _) ?_;rintro _ _ ⟨rfl,ad⟩;(have ap:=ad.nobj;have ab:=ad.obj))|refine Z3 ?_|exact⟨⟩|(apply hκ.out;clear hκ κ))
    rename_i d3;have b3:Keep d ((d3.new (Dn K6)).put d3.nobj (Dn K6)):=((hK.trans ad).new _).put Ajm _;have hz0:((d3.new (Dn K6)).put d3.nobj (Dn K6)).obj d.nobj=[sl idn N.length (N.map str),sl idi l.length cs]:=by rw[Ai Ajm,Ag Ajm,ab _ Ajm,az]
    have bu:((d3.new (Dn K6)).put d3.nobj (Dn K6)).obj (d.nobj+1)=[nilS,nilS]:=by rw[Ai Ajm,Ag Ajm,ab _ Ajm,ay]
    have br:((d3.new (Dn K6)).put d3.nobj (Dn K6)).obj d'.nobj=[sc (.bool x.out),sc (.int .i64 (N.idxOf x.head.pred:Nat)),sl ih x.head.terms.length (Aw x.head.terms),sl idb x.body.length b]:=by rw[Ai Ajm,Ag Ajm,ab _ Ajm,bg,an]
    refine⟨x.body.length-(k+1),Ajm,k+1,?_⟩
    ((repeat' with_reducible refine And.intro ?_ ?_)<;>first|exact Xq|exact (HN)|exact (b3)|exact (hz0)|exact (bu)|exact (br)|exact Xs)
   |some sw=>
    rw[hs]at af ae;simp only[O3]at af;simp only[Option.isSome_some,Ahy]at ae;have bc:=fun d=>Np N x _ k (PI.of (ih:=ih) (id:=idb) a7 a3) b1 d;simp only[an]at bc;have bf:=hG.wo (k:=k) HG.out an;have bd:=fun co ido (b0:EL (PI N) [G6 x k] co) d=>Ut N l [G6 x k] cs co idn idi ido i hE b0 Ajm (by simp) d;have ax:=fun c' id' (ba:EL (PI N) (Cp i [G6 x k] l) c') d=>Hu N l (Cp i [G6 x k] l) cs c' idn idi id' (hG.bkm hE) (bf.bkm ba).bj d;simp only[Ah1]at bd;rw[<-ae]at ax;cases ao:Se N l i k with
    |true=>
     rw[ao]at ax;have HC:Ajs (∀id c' x',x'=Bo N idn (Cp i [G6 x k] l) id c'->EL (PI N) (Cp i [G6 x k] l) c'->chA N l idn x' true):=fun id c' x' bv ba=>.inr ⟨rfl,i,k,x,HG.out,an,am,ao,hA.out,hN.out,id,c',bv,ba⟩;clear hN ae hs bf ao hA HG
     repeat' (first|refine Z1 ?_|(refine Z8 ?_;intro κ hκ)|(refine Z4 ?_;clear hκ κ)|(refine Z2 ?_ ?_<;>intro h aa<;>try exact Xp)|(refine Z5 ?_;first|(refine Xi (af _) ?_;rintro _ _ ⟨rfl,ad⟩;(have ap:=ad.nobj;have ab:=ad.obj))|(refine Xi (bc _) ?_;rintro _ _ ⟨c2,rfl,be,aw⟩;(have ak:=aw.nobj;have ai:=aw.obj;(try simp only[Ab,Aa]at ak ai);obtain⟨a8,ih2,id2,b2,bb,rfl⟩:=be))|(refine Xi (bd _ _ (EL.single (PI.of (ih:=ih2) (id:=id2) a8 bb)) _) ?_;rintro _ _ ⟨⟨id6,c6,rfl,a4⟩,av⟩;(have aj:=av.nobj;have ah:=av.obj;(try simp only[Ab,Aa,Ah]at aj ah)))|(refine Xi (ax c6 id6 a4 _) ?_;rintro _ _ ⟨⟨x7,rfl,bh,⟨id71,n71,c71,id72,n72,c72,rfl⟩⟩,au⟩;(have a6:=au.nobj;have a5:=au.obj)))|refine Z3 ?_|exact⟨⟩|(apply hκ.out;clear hκ κ))
     exact⟨_,rfl,⟨_,true,rfl,HC.out _ _ _ (bh rfl) a4,_,_,_,_,_,_,rfl⟩,Xs⟩
    |false=>
     rw[ao]at ax;have HN:Ajs (∀k',k'<k+1->Se N l i k'=false):=fun k' a9=>by
      rcases Agl k' k with h|h
      ·exact hN.out k' h
      ·rw[show k'=k by omega,ao]
     clear hN ae hs bf ao
     repeat' (first|refine Z1 ?_|(refine Z8 ?_;intro κ hκ)|(refine Z4 ?_;clear hκ κ)|(refine Z2 ?_ ?_<;>intro h aa<;>try exact Xp)|(refine Z5 ?_;first|(refine Xi (af _) ?_;rintro _ _ ⟨rfl,ad⟩;(have ap:=ad.nobj;have ab:=ad.obj))|(refine Xi (bc _) ?_;rintro _ _ ⟨c2,rfl,be,aw⟩;(have ak:=aw.nobj;have ai:=aw.obj;(try simp only[Ab,Aa]at ak ai);obtain⟨a8,ih2,id2,b2,bb,rfl⟩:=be))|(refine Xi (bd _ _ (EL.single (PI.of (ih:=ih2) (id:=id2) a8 bb)) _) ?_;rintro _ _ ⟨⟨id6,c6,rfl,a4⟩,av⟩;(have aj:=av.nobj;have ah:=av.obj;(try simp only[Ab,Aa,Ah]at aj ah)))|(refine Xi (ax c6 id6 a4 _) ?_;rintro _ _ ⟨⟨x7,rfl,bh,⟨id71,n71,c71,id72,n72,c72,rfl⟩⟩,au⟩;(have a6:=au.nobj;have a5:=au.obj)))|refine Z3 ?_|exact⟨⟩|(apply hκ.out;clear hκ κ))
     refine⟨x.body.length-(k+1),Ajm,k+1,?_⟩
     ((repeat' with_reducible refine And.intro ?_ ?_)<;>first|exact Xq|exact (HN)|exact Xs)
  ·have ca:k=x.body.length:=Ajm;have HA:Ajs (sM N l (i+1)):=fun j y hj hy k' a9=>by
    rcases Agl j i with h|h
    ·exact hA.out j y h hy k' a9
    ·have:j=i:=Ajm;subst this;rw[HG.out]at hy;cases hy;exact hN.out k' Ajm
   clear hN HG hA
   repeat' (first|refine Z1 ?_|(refine Z8 ?_;intro κ hκ)|(refine Z4 ?_;clear hκ κ)|(refine Z2 ?_ ?_<;>intro h aa<;>try exact Xp)|refine Z3 ?_|exact⟨⟩|(apply hκ.out;clear hκ κ))
   refine⟨l.length-(i+1),Ajm,i+1,?_⟩
   ((repeat' with_reducible refine And.intro ?_ ?_)<;>first|exact Xq|exact (HA)|exact Xs)
 ·have hil:i=l.length:=Ajm;subst hil
  repeat' (first|refine Z1 ?_|(refine Z8 ?_;intro κ hκ)|(refine Z4 ?_;clear hκ κ)|(refine Z2 ?_ ?_<;>intro h aa<;>try exact Xp)|refine Z3 ?_|exact⟨⟩|(apply hκ.out;clear hκ κ))
  exact⟨_,rfl,⟨_,false,rfl,.inl ⟨rfl,hA.out⟩,_,_,_,_,_,_,rfl⟩,Xs⟩
def Gv (N:List Tx)(U:Nat->Nat->Bool)(l:List RItem)(q:Nat):Bool:=l.any fun x=>x.out&&(decide (N.idxOf x.head.pred=q)||U (N.idxOf x.head.pred) q)
theorem kL {N:List Tx}{U:Nat->Nat->Bool}{l:List RItem}{i:Nat}{x:RItem}(h:l[i]?=some x)(q:Nat):Gv N U (l.take (i+1)) q=(Gv N U (l.take i) q||(x.out&&(decide (N.idxOf x.head.pred=q)||U (N.idxOf x.head.pred) q))):=by
 unfold Gv;rw[Agz,h,Aia,Aiz];simp
theorem V5 {n:Nat}{f g:Nat->Bool}(h:∀q,q<n->f q=g q):H1 n f=H1 n g:=by
 unfold H1;exact Ahx fun q hq=>by rw[h q (by simpa using hq)]
theorem bH (N:List Tx)(l:List RItem)(cs:List AV)(idn idi:Nat)(hB:Bk N l cs)(d:St):ACalls Tryz.prog 176 [Bo N idn l idi cs] d fun r d'=>∃o M,r=fx o 0 N.length/\Keep d d'/\d.nobj<=o/\o<d'.nobj/\Dr N l M/\d'.obj o=H1 N.length (Gv N (F9 N.length M N.length) l):=by
 have bg:=EL.length De hB.el;have ba:=hB.len;have hN:=hB.nm;have bh:=aG N.length;refine Z9 49 [.tmp 2] Tryz.func176 ?_
 repeat' (first|refine Z1 ?_|(refine Z8 ?_;intro κ hκ)|(refine Z4 ?_;clear hκ κ)|(refine Z2 ?_ ?_<;>intro h aa<;>try exact Xp)|(refine Z5 ?_;refine Xi (N0 N l cs idn idi hB _) ?_;rintro _ _ ⟨idu,B,M0,rfl,ak,bb,au,aw,a3⟩;(rw[Aa]at bb;have af:=ak.obj;have an:=ak.nobj;(try simp only[Aa,Ab,Ah]at an af)))|refine Z3 ?_|exact⟨⟩|(apply hκ.out;clear hκ κ))
 rename_i d1;have am:Ajs (Dr N l M0):=a3;clear a3 af;have bd:=Ii B N.length N.length;have bi:Keep d d1:=((Keep.refl d).new _).trans ak;clear ak;generalize hU:F9 N.length M0 N.length=U at aw;have HU:Ajs _:=hU;clear hU
 refine Af (fun m s d'=>∃i:Nat,m=l.length-i/\i<=l.length/\s 3=sl idu N.length (Fe B N.length N.length)/\s 4=fx d1.nobj 0 N.length/\s 16=sl idi l.length cs/\s 17=sc (.int .i64 l.length)/\s 18=sc (.int .i64 i)/\Keep d d'/\d1.nobj<d'.nobj/\d'.obj d1.nobj=H1 N.length (Gv N U (l.take i))/\Ajs (Mat B N.length U d')) l.length
  ⟨0,Ajm,Ajm,Ajo,Ajo,Ajo,Ajo,rfl,Xs,Ajq,by rw[Ap];rfl,Mat.new aw au _⟩ ?_
 clear aw;rintro m s d' ⟨i,rfl,hi,h3,h4,a6,a5,a4,hK,ae,ab,hM⟩;have ax:=hK.nobj;by_cases a9:i<l.length
 ·have ac:=List.getElem?_eq_getElem a9;obtain⟨hm,ih,id,b,r,hb,hd⟩:=En hB.el ac;generalize l[i]=x at hd ac hb hm;have ad:=kL (N:=N) (U:=U) ac;have ap:=Ah9 hm;cases aj:x.out with
  |false=>
   rw[aj]at hd ad;have ai:d'.obj d1.nobj=H1 N.length (Gv N U (l.take (i+1))):=by
    rw[ab];exact V5 fun q _=>by rw[ad q];simp
   clear ad ac ab aj;generalize N.idxOf x.head.pred=ph at*
   repeat' (first|refine Z1 ?_|(refine Z8 ?_;intro κ hκ)|(refine Z4 ?_;clear hκ κ)|(refine Z2 ?_ ?_<;>intro h aa<;>try exact Xp)|refine Z3 ?_|exact⟨⟩|(apply hκ.out;clear hκ κ))
   refine⟨l.length-(i+1),Ajm,i+1,?_⟩
   ((repeat' with_reducible refine And.intro ?_ ?_)<;>first|exact Xq|exact (Mat.put (Mat.new hM.out Ajm _) Ajm _)|exact (by rw[Ai Ajm,Ag Ajm,ai])|exact Xs)
  |true=>
   rw[aj]at hd ad;clear ac aj;generalize N.idxOf x.head.pred=ph at*
   generalize Gv N U (l.take i)=w0 at ab ad;generalize ah:Gv N U (l.take (i+1))=w1 at ad;have a7:Ajs _:=ah;have a8:Ajs (∀q,w1 q=(w0 q||(true&&(decide (ph=q)||U ph q)))):=ad;clear ad ah;have be:=Ij (B:=B) (n:=N.length) (k:=N.length) ap;have a0:=hM.out _ ap;have bc:=Eh N.length (U ph);have ao:=Eh N.length w0;have ay:=V4 (n:=N.length) (i:=ph) w0 true
   repeat' (first|refine Z1 ?_|(refine Z8 ?_;intro κ hκ)|(refine Z4 ?_;clear hκ κ)|(refine Z2 ?_ ?_<;>intro h aa<;>try exact Xp)|refine Z3 ?_|exact⟨⟩|(apply hκ.out;clear hκ κ))
   refine Af (fun m s d2=>∃(p:Nat) (g:Nat->Bool),m=N.length-p/\p<=N.length/\s 3=sl idu N.length (Fe B N.length N.length)/\s 4=fx d1.nobj 0 N.length/\s 16=sl idi l.length cs/\s 17=sc (.int .i64 l.length)/\s 18=sc (.int .i64 i)/\s 35=fx (B+ph) 0 N.length/\s 36=sc (.int .i64 N.length)/\s 37=sc (.int .i64 p)/\Keep d d2/\d1.nobj<d2.nobj/\d2.obj d1.nobj=H1 N.length g/\Ajs (Mat B N.length U d2)/\Ajs (∀q,g q=(w0 q||decide (ph=q)||(decide (q<p)&&U ph q)))) N.length
    ⟨0,fun j=>if j=ph then true else w0 j,Ajm,Ajm,Ajn,Ajn,Ajn,Ajn,Ajn,Ajo,Ajo,Ajo,Xs,Ajr,by rw[Ak],Mat.put (Mat.put (Mat.new hM.out Ajm _) Ajm _) Ajm _,fun q=>by
     by_cases h:q=ph
     ·simp[h]
     ·simp[h,Ne.symm h]⟩ ?_
   clear h3 h4 a6 a5 a4 hK ae ab hM a0 ay ao ax;rintro m s d2 ⟨p,g,rfl,hp,h3,h4,a6,a5,a4,bn,bm,bl,hK,ae,ab,hM,hg⟩;have ax:=hK.nobj;by_cases av:p<N.length
   ·have a0:=hM.out _ ap;have az:=Gp (U ph) av;have bf:=Eh N.length g;cases hu:U ph p with
    |true=>
     rw[hu]at az;have ay:=V4 (n:=N.length) (i:=p) g true;have HG:Ajs (∀q,(if q=p then true else g q)=(w0 q||decide (ph=q)||(decide (q<p+1)&&U ph q))):=fun q=>by
      by_cases h:q=p
      ·simp[h,hu]
      ·rw[if_neg h,hg.out q,show decide (q<p+1)=decide (q<p)from by rw[decide_eq_decide];omega]
     clear hg hu
     repeat' (first|refine Z1 ?_|(refine Z8 ?_;intro κ hκ)|(refine Z4 ?_;clear hκ κ)|(refine Z2 ?_ ?_<;>intro h aa<;>try exact Xp)|refine Z3 ?_|exact⟨⟩|(apply hκ.out;clear hκ κ))
     refine⟨N.length-(p+1),Ajm,p+1,fun q=>if q=p then true else g q,?_⟩
     ((repeat' with_reducible refine And.intro ?_ ?_)<;>first|exact Xq|exact (HG)|exact (Mat.put hM.out Ajm _)|exact (by rw[Ak])|exact Xs)
    |false=>
     rw[hu]at az;have HG:Ajs (∀q,g q=(w0 q||decide (ph=q)||(decide (q<p+1)&&U ph q))):=fun q=>by
      by_cases h:q=p
      ·rw[hg.out q];simp[h,hu]
      ·rw[hg.out q,show decide (q<p+1)=decide (q<p)from by rw[decide_eq_decide];omega]
     clear hg hu
     repeat' (first|refine Z1 ?_|(refine Z8 ?_;intro κ hκ)|(refine Z4 ?_;clear hκ κ)|(refine Z2 ?_ ?_<;>intro h aa<;>try exact Xp)|refine Z3 ?_|exact⟨⟩|(apply hκ.out;clear hκ κ))
     refine⟨N.length-(p+1),Ajm,p+1,g,?_⟩
     ((repeat' with_reducible refine And.intro ?_ ?_)<;>first|exact Xq|exact (HG)|exact Xs)
   ·have hpl:p=N.length:=Ajm;have ai:d2.obj d1.nobj=H1 N.length (Gv N U (l.take (i+1))):=by
     rw[ab,a7.out];exact V5 fun q hq=>by rw[a8.out q,hg.out q,hpl];simp[hq,Bool.or_assoc]
    clear hg ab a8 a7
    repeat' (first|refine Z1 ?_|(refine Z8 ?_;intro κ hκ)|(refine Z4 ?_;clear hκ κ)|(refine Z2 ?_ ?_<;>intro h aa<;>try exact Xp)|refine Z3 ?_|exact⟨⟩|(apply hκ.out;clear hκ κ))
    refine⟨l.length-(i+1),Ajm,i+1,?_⟩
    ((repeat' with_reducible refine And.intro ?_ ?_)<;>first|exact Xq|exact (hM)|exact Xs)
 ·have hil:i=l.length:=Ajm;subst hil;rw[Agw]at ab
  repeat' (first|refine Z1 ?_|(refine Z8 ?_;intro κ hκ)|(refine Z4 ?_;clear hκ κ)|(refine Z2 ?_ ?_<;>intro h aa<;>try exact Xp)|refine Z3 ?_|exact⟨⟩|(apply hκ.out;clear hκ κ))
  first|exact⟨_,rfl,_,M0,rfl,hK,Ajm,ae,am.out,by rw[HU.out];exact ab⟩|exact⟨_,rfl,_,M0,rfl,Ajm,ae,am.out,by rw[HU.out];exact ab⟩|exact⟨_,rfl,_,M0,Ajm,ae,am.out,by rw[HU.out];exact ab⟩|(trace_state;exact⟨_,rfl,_,M0,rfl,hK,Ajm,ae,am.out,by rw[HU.out];exact ab⟩)
theorem GL.sub {N:List Tx}{l l':List RItem}(h:GL N l)(hs:∀x∈l',x∈l)(hl:l'.length<=16):GL N l':=
 ⟨hl,h.nm,fun x hx=>h.msr x (hs x hx),fun x hx=>h.fits x (hs x hx),fun x hx=>h.pos x (hs x hx),fun x hx=>h.va x (hs x hx),fun x hx=>h.ar x (hs x hx)⟩
def G3 (N:List Tx)(U:Nat->Nat->Bool)(l:List RItem):List RItem:=l.filter fun x=>Gv N U l (N.idxOf x.head.pred)
def chS (N:List Tx)(l:List RItem)(idn:Nat)(x:AV)(b:Bool):Prop:=∃M,Dr N l M/\
 (((G3 N (F9 N.length M N.length) l).length=l.length/\b=false)\/
  ((G3 N (F9 N.length M N.length) l).length≠l.length/\b=Cz N l (G3 N (F9 N.length M N.length) l)/\(b=true->∃id c',x=Bo N idn (G3 N (F9 N.length M N.length) l) id c'/\EL (PI N) (G3 N (F9 N.length M N.length) l) c')))
theorem tC {α:Type}{f:α->Bool}{l:List α}{i:Nat}{x:α}(h:l[i]?=some x):(l.take (i+1)).filter f=(l.take i).filter f++if f x=true then [x]else []:=by
 rw[Agz,h,Aia,Ai1];cases hf:f x<;>simp[hf]
theorem Lm (N:List Tx)(l:List RItem)(cs:List AV)(idn idi:Nat)(hG:GL N l)(hE:EL (PI N) l cs)(d:St):
  ACalls Tryz.prog 124 [Bo N idn l idi cs] d fun r d'=>(∃x b,r=tp [x,sc (.bool b)]/\chS N l idn x b/\jX x)/\Keep d d':=by
 have bp:=EL.length De hE;have aw:=hG.len;have hN:=hG.nm;have bm:Bk N l cs:=(hG.bkm hE).bk aw;have a4:=fun d=>bH N l cs idn idi bm d;refine Z9 41 [.cell 2 62,.tmp 3] Tryz.func124 ?_
 repeat' (first|refine Z1 ?_|(refine Z8 ?_;intro κ hκ)|(refine Z4 ?_;clear hκ κ)|(refine Z2 ?_ ?_<;>intro h ah<;>try exact Xp)|(refine Z6 ?_;intro idn dn ak an ac aa ad ab)|(refine Z5 ?_;refine Xi (a4 _) ?_;rintro _ _ ⟨ow,M0,rfl,ao,au,bh,a9,aj⟩;(have ap:=ao.nobj;have ai:=ao.obj;(try simp only[Aa,Ab]at ap ai au)))|refine Z3 ?_|exact⟨⟩|(apply hκ.out;clear hκ κ))
 rename_i d1;have obk:d1.obj d.nobj=[sl idn N.length (N.map str),sl idi l.length cs]:=by rw[ai _ Ajm,Ag Ajq,Ap]
 have obr:d1.obj (d.nobj+1)=[nilS,nilS]:=by rw[ai _ Ajm];first|exact Ap|simp[Ap]
 have bc:Ajs (Dr N l M0):=a9;generalize a5:F9 N.length M0 N.length=U at aj;have HU:Ajs _:=a5;have a7:Keep d d1:=(((Keep.refl d).new _).new _).trans ao;clear a9 a5 ao ai a4;generalize ay:Gv N U l=w at aj;have HW:Ajs _:=ay;clear ay
 refine Af (fun m s d'=>∃(i id:Nat) (R:List RItem) (c:List AV),m=l.length-i/\i<=l.length/\s 1=ptr d.nobj 0/\s 2=ptr (d.nobj+1) 0/\s 4=fx ow 0 N.length/\s 5=sl id R.length c/\s 12=sl idi l.length cs/\s 13=sc (.int .i64 l.length)/\s 14=sc (.int .i64 i)/\Keep d d'/\d1.nobj<=d'.nobj/\d'.obj ow=H1 N.length w/\d'.obj d.nobj=[sl idn N.length (N.map str),sl idi l.length cs]/\d'.obj (d.nobj+1)=[nilS,nilS]/\Own d d' id R.length/\c.length=R.length*4/\R.length<=i/\Ajs (R=(l.take i).filter (fun x=>w (N.idxOf x.head.pred))/\EL (PI N) R c)) l.length
  ⟨0,1,[],[],Ajm,Ajm,Ajo,Ajo,Ajo,Ajo,Ajo,Ajo,rfl,a7,Ajm,aj,obk,obr,Own.nil _ _,by simp,by simp,⟨by simp,rfl⟩⟩ ?_
 clear a7 aj obk obr;rintro m s d' ⟨i,id,R,c,rfl,hi,h1,h2,h4,h5,bw,bv,bu,hK,bo,obw,obk,obr,hO,a0,br,hA⟩;have bn:=hK.nobj;have bq:=Eh N.length w;by_cases bi:i<l.length
 ·have af:=List.getElem?_eq_getElem bi;obtain⟨av,ih,idb,b,r,a3,hd⟩:=En hE af;generalize l[i]=x at hd af av a3;have bg:=Ah9 av;have am:=tC (f:=fun x:RItem=>w (N.idxOf x.head.pred)) af;have az:=Gp w bg;cases hw:w (N.idxOf x.head.pred)with
  |true=>
   simp only[hw,if_true]at am;rw[hw]at az;have HA:Ajs (R++[x]=(l.take (i+1)).filter (fun x=>w (N.idxOf x.head.pred))/\EL (PI N) (R++[x]) (c++[sc (.bool x.out),sc (.int .i64 (N.idxOf x.head.pred:Nat)),sl ih x.head.terms.length (Aw x.head.terms),sl idb x.body.length b])):=⟨by rw[am,<-hA.out.1],EL.append hA.out.2 (EL.single (PI.of av a3))⟩;clear am af hA hw
   repeat' (first|refine Z1 ?_|(refine Z8 ?_;intro κ hκ)|(refine Z4 ?_;clear hκ κ)|(refine Z2 ?_ ?_<;>intro h ah<;>try exact Xp)|(refine Z6 ?_;intro idn dn ak an ac aa ad ab)|refine Z3 ?_|exact⟨⟩|(apply hκ.out;clear hκ κ))
   refine Bh (by first|exact Ki) ((hK.new _).put hK.nobj _) (Own.put (Own.new hO _) _ _) (by decide) (by rfl) (a0) (by rfl) (by rfl) (by decide) Ajm Ajm ?_;intro idn' dn ak an ac aa ad ab;simp only[Ab,Aa]at aa;have eob:∀p,p<d'.nobj->dn.obj p=d'.obj p:=fun p hp=>by rw[ac,Ai Ajm,Ag Ajm]
   refine Z3 ?_
   repeat' (first|refine Z1 ?_|(refine Z8 ?_;intro κ hκ)|(refine Z4 ?_;clear hκ κ)|(refine Z2 ?_ ?_<;>intro h ah<;>try exact Xp)|(refine Z6 ?_;intro idn dn ak an ac aa ad ab)|refine Z3 ?_|exact⟨⟩|(apply hκ.out;clear hκ κ))
   refine⟨l.length-(i+1),Ajm,i+1,idn',R++[x],c++[sc (.bool x.out),sc (.int .i64 (N.idxOf x.head.pred:Nat)),sl ih x.head.terms.length (Aw x.head.terms),sl idb x.body.length b],?_⟩
   ((repeat' with_reducible refine And.intro ?_ ?_)<;>first|exact Xq|exact (HA)|exact ((by simpa using ak))|exact ((by simp[a0];omega))|exact (by rw[eob _ Ajm,obw])|exact (by rw[eob _ Ajm,obk])|exact (by rw[eob _ Ajm,obr])|exact Xs)
  |false=>
   simp only[hw,Ahg,if_false,Ag3]at am;rw[hw]at az;have HA:Ajs (R=(l.take (i+1)).filter (fun x=>w (N.idxOf x.head.pred))/\EL (PI N) R c):=⟨by rw[am,<-hA.out.1],hA.out.2⟩;clear am af hA hw
   repeat' (first|refine Z1 ?_|(refine Z8 ?_;intro κ hκ)|(refine Z4 ?_;clear hκ κ)|(refine Z2 ?_ ?_<;>intro h ah<;>try exact Xp)|(refine Z6 ?_;intro idn dn ak an ac aa ad ab)|refine Z3 ?_|exact⟨⟩|(apply hκ.out;clear hκ κ))
   refine⟨l.length-(i+1),Ajm,i+1,id,R,c,?_⟩
   ((repeat' with_reducible refine And.intro ?_ ?_)<;>first|exact Xq|exact (HA)|exact (Own.put (Own.new hO _) _ _)|exact (by rw[Ai Ajm,Ag Ajm,obw])|exact (by rw[Ai Ajm,Ag Ajm,obk])|exact (by rw[Ai Ajm,Ag Ajm,obr])|exact Xs)
 ·have hil:i=l.length:=Ajm;subst hil;rw[Agw]at hA;have a6:R=G3 N (F9 N.length M0 N.length) l:=by rw[hA.out.1,G3,HU.out,HW.out]
  have HR:Ajs _:=a6;have HE:Ajs (EL (PI N) R c):=hA.out.2;have ba:GL N R:=hG.sub (fun x hx=>(Aip.1 (by rw[<-hA.out.1];exact hx)).1) Ajm;have ax:=fun d=>Hu N l R cs c idn idi id (hG.bkm hE) (ba.bkm HE.out).bj d;clear hA a6 ba;by_cases ae:R.length=l.length
  ·have bl:((R.length:Int)==(l.length:Int))=true:=by simp[ae]
   have HC:Ajs (∀x,chS N l idn x false):=fun x=>⟨M0,bc.out,.inl ⟨by rw[<-HR.out];exact ae,rfl⟩⟩;clear ax ae
   repeat' (first|refine Z1 ?_|(refine Z8 ?_;intro κ hκ)|(refine Z4 ?_;clear hκ κ)|(refine Z2 ?_ ?_<;>intro h ah<;>try exact Xp)|(refine Z6 ?_;intro idn dn ak an ac aa ad ab)|refine Z3 ?_|exact⟨⟩|(apply hκ.out;clear hκ κ))
   exact⟨_,rfl,⟨_,false,rfl,HC.out _,_,_,_,_,_,_,rfl⟩,Xs⟩
  ·have bl:((R.length:Int)==(l.length:Int))=false:=by simpa using (by omega:¬(R.length:Int)=l.length)
   have HC:Ajs (∀x,(Cz N l R=true->x=Bo N idn R id c)->chS N l idn x (Cz N l R)):=fun x hx=>⟨M0,bc.out,.inr ⟨by rw[<-HR.out];exact ae,by rw[<-HR.out],fun hb=>⟨id,c,by rw[<-HR.out];exact hx hb,by rw[<-HR.out];exact HE.out⟩⟩⟩;generalize Cz N l R=bb at ax HC;clear ae
   repeat' (first|refine Z1 ?_|(refine Z8 ?_;intro κ hκ)|(refine Z4 ?_;clear hκ κ)|(refine Z2 ?_ ?_<;>intro h ah<;>try exact Xp)|(refine Z6 ?_;intro idn dn ak an ac aa ad ab)|(refine Z5 ?_;refine Xi (ax _) ?_;rintro _ _ ⟨⟨x7,rfl,bf,⟨id71,n71,c71,id72,n72,c72,rfl⟩⟩,a8⟩;(have be:=a8.nobj;have bd:=a8.obj))|refine Z3 ?_|exact⟨⟩|(apply hκ.out;clear hκ κ))
   exact⟨_,rfl,⟨_,bb,rfl,HC.out _ bf,_,_,_,_,_,_,rfl⟩,Xs⟩
def W1 (t:Tx):Bool:=decide (t.head?=some 63)
theorem bS (t:Tx)(d:St):ACalls Tryz.prog 41 [str t] d fun r d'=>r=sc (.bool (W1 t))/\d'=d:=by
 cases t with
 |nil=>
  have he:(([]:Tx) !=[])=false:=rfl;refine Z9 10 [.tmp 2] Tryz.func41 ?_
  repeat' (first|refine Z1 ?_|(refine Z8 ?_;intro κ hκ)|(refine Z4 ?_;clear hκ κ)|(refine Z2 ?_ ?_<;>intro h aa<;>try exact Xp)|refine Z3 ?_|exact⟨⟩|(apply hκ.out;clear hκ κ))
  exact⟨_,rfl,rfl⟩
 |cons c r=>
  have he:((c::r:Tx) !=[])=true:=rfl;have ab:((c::r:Tx)==[])=false:=rfl;have hg:(c::r:Tx)[0]?=some c:=rfl;have HO:Ajs (W1 (c::r)=((c.toNat:Int)==63)):=by
   rw[Ajs,show (63:Int)=((63:UInt8).toNat:Int)from rfl,S6,W1];simp
  generalize hb:((c.toNat:Int)==63)=b at HO;cases b with
  |true=>
   refine Z9 10 [.tmp 2] Tryz.func41 ?_
   repeat' (first|refine Z1 ?_|(refine Z8 ?_;intro κ hκ)|(refine Z4 ?_;clear hκ κ)|(refine Z2 ?_ ?_<;>intro h aa<;>try exact Xp)|refine Z3 ?_|exact⟨⟩|(apply hκ.out;clear hκ κ))
   first|exact⟨_,rfl,by rw[HO.out]⟩|exact⟨_,rfl,by rw[HO.out],rfl⟩
  |false=>
   refine Z9 10 [.tmp 2] Tryz.func41 ?_
   repeat' (first|refine Z1 ?_|(refine Z8 ?_;intro κ hκ)|(refine Z4 ?_;clear hκ κ)|(refine Z2 ?_ ?_<;>intro h aa<;>try exact Xp)|refine Z3 ?_|exact⟨⟩|(apply hκ.out;clear hκ κ))
   first|exact⟨_,rfl,by rw[HO.out]⟩|exact⟨_,rfl,by rw[HO.out],rfl⟩
def GNm (p:Tx):Prop:=Ke p/\p.length<=6
def GTm (t:Tx):Prop:=(∃b,t=[b]/\Bm b.toNat=true)\/t=[48]\/∃b r,t=b::r/\Gz b.toNat=true/\(∀c∈r,A0 c.toNat=true)/\r.length<=2
structure GA' (a:RAtom):Prop where
 nm:GNm a.pred
 ne:a.terms≠[]
 few:a.terms.length<=3
 tm:∀t∈a.terms,GTm t
structure GIt (x:RItem):Prop where
 nm:GNm x.head.pred
 out:x.out=true->x.head.nt=false/\x.head.terms=[]/\x.body=[]
 rule:x.out=false->GA' x.head/\x.head.nt=false/\x.body.length<=5/\∀a∈x.body,GA' a
theorem Qu (p:Int->Bool):∀(n:Nat) (t r:Tx),(∀b∈t,p b.toNat=true)->t.length<=n->(∀b q,r=b::q->p b.toNat=false)->Ax p n (t++r)=(t,r)
 |n,[],r,_,_,hr=>by
  cases n with
  |zero=>rfl
  |succ n=>
   cases r with
   |nil=>rfl
   |cons b q=>
    show Ax p (n+1) (b::q)=_;unfold Ax;rw[if_neg (by simp[hr b q rfl])]
 |0,b::t,r,_,hl,_=>by simp at hl
 |n+1,b::t,r,ht,hl,hr=>by
  show Ax p (n+1) (b::(t++r))=_;unfold Ax;rw[if_pos (ht b (by simp)),Qu p n t r (fun c hc=>ht c (by simp[hc])) (by simpa using hl) hr]
theorem N7 (p:Int->Bool):∀(n:Nat) (s:Tx),(Ax p n s).1.length<=n
 |0,s=>by simp[Ax]
 |n+1,[]=>by simp[Ax]
 |n+1,b::r=>by
  unfold Ax;split
  ·have:=N7 p n r;simp;omega
  ·simp
theorem gI {p r:Tx}(h:GNm p)(hr:∀b q,r=b::q->Bq b.toNat=false):Em (p++r)= .got p r:=by
 unfold Em;rw[Qu Bq 6 p r h.1.2 h.2 hr];rw[if_neg h.1.1]
theorem gJ {s r p:Tx}(h:Em s= .got p r):GNm p:=by
 refine⟨(N8 h).2,?_⟩;unfold Em at h;split at h
 ·cases h
 ·cases h;exact N7 _ _ _
theorem gG {t r:Tx}(h:GTm t)(hr:∀b q,r=b::q->A0 b.toNat=false):Cj (t++r)= .got t r:=by
 rcases h with⟨b,rfl,hb⟩|rfl|⟨b,q,rfl,hb,hq,hl⟩
 ·show Cj (b::r)=_;unfold Cj;dsimp only;rw[if_pos hb]
 ·show Cj (48::r)=_;unfold Cj;dsimp only;rw[if_neg (by decide),if_pos (by decide)]
 ·show Cj (b::(q++r))=_;unfold Cj;dsimp only;rw[if_neg,if_neg,if_pos hb,Qu A0 2 q r hq hl hr]
  ·intro e;simp only[Gz,Ags,Ajj]at hb;simp at e;omega
  ·intro e;rw[L3 e]at hb;cases hb
theorem xC {s r t:Tx}(h:Cj s= .got t r):GTm t:=by
 cases s with
 |nil=>cases h
 |cons b q=>
  unfold Cj at h;dsimp only at h;split at h
  ·rename_i hl;cases h;exact .inl ⟨b,rfl,hl⟩
  split at h
  ·rename_i h0;cases h;have:b=48:=K3 48 h0;rw[this];exact .inr (.inl rfl)
  split at h
  ·rename_i h9;cases h;exact .inr (.inr ⟨b,_,rfl,h9,(D8 A0 2 q).2,N7 _ _ _⟩)
  ·cases h
theorem Ed {α β:Type}(x:α)(r:Tx)(f:α->Tx->Rd β):(Rd.got x r).bnd f=f x r:=rfl
theorem J5 {c:UInt8}{r:Tx}:Az c.toNat (c::r)= .got () r:=by unfold Az;dsimp only;rw[if_pos (by simp)]
theorem Nw (t:Tx)(ts:List Tx):B6 (t::ts)=44::(t++B6 ts):=by simp[B6]
theorem U2 {α:Type}{f:Tx->Rd α}{u:α->Tx}{c:UInt8}(hc:c≠44){P:α->Prop}(hf:∀x r,P x->(∀b q,r=b::q->b=44\/b=c)->f (u x++r)= .got x r):∀(n:Nat) (xs:List α) (r:Tx),(∀x∈xs,P x)->xs.length<=n->Dv f n (B6 (xs.map u)++c::r)= .got xs (c::r)
 |0,[],r,_,_=>rfl
 |n+1,[],r,_,_=>by
  show Dv f (n+1) (c::r)=_;unfold Dv
  rw[if_neg (by
   intro h
   exact hc (K3 44 h))]
 |0,x::xs,r,_,hl=>by simp at hl
 |n+1,x::xs,r,hP,hl=>by
  rw[Ag5,Nw];show Dv f (n+1) (44::((u x++B6 (xs.map u))++c::r))=_;unfold Dv;rw[if_pos (by decide),Ahc,hf x _ (hP x (by simp)) ?_]
  ·rw[Ed,U2 hc hf n xs r (fun y hy=>hP y (by simp[hy])) (by simpa using hl)];rfl
  ·intro b q e;cases xs with
   |nil=>simp[B6]at e;exact .inr e.1.symm
   |cons y ys=>rw[Ag5,Nw]at e;simp at e;exact .inl e.1.symm
theorem nd {b:UInt8}(h:b=44\/b=41):A0 b.toNat=false:=by rcases h with rfl|rfl<;>decide
theorem gM {a:RAtom}(h:GA' a)(r:Tx):Da a.nt (A7 a++r)= .got a r:=by
 unfold Da A7;rw[Ahc,gI h.nm (fun b q e=>by simp at e;rw[<-e.1];decide)];rw[Ed,Aho];rw[show (40:Int)=((40:UInt8).toNat:Int)from rfl,J5];rw[Ed];obtain⟨t,ts,e⟩:=Ai7 h.ne;have ab:=h.tm;have aa:=h.few;rw[e]at ab aa;rw[e,Bl];unfold U7;have e2:((t++B6 ts++[41])++r:Tx)=t++(B6 (ts.map id)++41::r):=by simp
 rw[e2,gG (ab t (by simp)) ?_]
 ·rw[Ed,U2 (u:=id) (c:=41) (by decide) (P:=GTm) (fun x r hx hr=>gG hx fun b q e=>nd (hr b q e)) 2 ts r (fun y hy=>ab y (by simp[hy])) (by simpa using aa)];rw[Ed,show (41:Int)=((41:UInt8).toNat:Int)from rfl,J5];rw[Ed,<-e]
 ·intro b q eb;cases ts with
  |nil=>simp[B6]at eb;exact nd (.inr eb.1.symm)
  |cons y ys=>rw[Ag5,Nw]at eb;simp at eb;exact nd (.inl eb.1.symm)
theorem pQ {a:RAtom}(h:GA' a)(r:Tx):J3 (B9 a++r)= .got a r:=by
 have hp:=gM h r;cases hn:a.nt with
 |true=>
  rw[hn]at hp;rw[show B9 a++r=33::(A7 a++r)by simp[B9,hn]];unfold J3;dsimp only;rw[if_pos (by decide)];exact hp
 |false=>
  rw[hn]at hp;rw[show B9 a++r=A7 a++r by simp[B9,hn]];obtain⟨b,q,e,h1,h2⟩:=Kv h.nm.1;have e2:A7 a++r=b::(q++40::(Bl a.terms++[41])++r):=by unfold A7;rw[e];simp
  rw[e2]at hp⊢;unfold J3;dsimp only;rw[if_neg (by simp;omega)];exact hp
theorem xE {x:RItem}(h:GIt x)(r:Tx):Ff (Be x++46::r)= .got x r:=by
 cases ho:x.out with
 |true=>
  obtain⟨h1,h2,h3⟩:=h.out ho;rw[Be,if_pos ho];show Ff (63::(x.head.pred++46::r))=_;unfold Ff;dsimp only;rw[if_pos (by decide)];unfold bL;rw[gI h.nm (fun b q e=>by simp at e;rw[<-e.1];decide)];rw[Ed,show (46:Int)=((46:UInt8).toNat:Int)from rfl,J5];rw[Ed];obtain⟨o,⟨n,p,ts⟩,bd⟩:=x;simp only at h1 h2 h3 ho;subst h1;subst h2;subst h3;subst ho;rfl
 |false=>
  obtain⟨h1,h2,h3,h4⟩:=h.rule ho;have hR:Ff (Be x++46::r)=Nr (Be x++46::r):=by
   obtain⟨b,q,e,g1,g2⟩:=Kv h.nm.1;have e2:Be x++46::r=b::(q++40::(Bl x.head.terms++[41])++(if x.body=[]then []else 58::45::Bl (x.body.map B9))++46::r):=by
    unfold Be Di A7;rw[if_neg (by simp[ho]),e];simp
   rw[e2];unfold Ff;dsimp only;rw[if_neg (by simp;omega)]
  rw[hR,Be,if_neg (by simp[ho]),Di,Ahc];unfold Nr;have hp:=gM h1 ((if x.body=[]then []else 58::45::Bl (x.body.map B9))++46::r);rw[h2]at hp;rw[hp,Ed];by_cases hb:x.body=[]
  ·rw[if_pos hb];show Nq x.head (46::r)=_;unfold Nq;dsimp only;rw[if_pos (by decide)];rw[<-hb,<-ho]
  ·rw[if_neg hb];obtain⟨l,ls,e⟩:=Ai7 hb;rw[e]at h3 h4;rw[e,Ag5,Bl];have e2:(58::45::(B9 l++B6 (ls.map B9))++46::r:Tx)=58::45::(B9 l++(B6 (ls.map B9)++46::r)):=by simp
   rw[e2];unfold Nq;dsimp only;rw[if_neg (by decide)];rw[show (58:Int)=((58:UInt8).toNat:Int)from rfl,J5];rw[Ed,show (45:Int)=((45:UInt8).toNat:Int)from rfl,J5];rw[Ed];unfold Ro;rw[pQ (h4 l (by simp)),Ed,U2 (u:=B9) (c:=46) (by decide) (P:=GA') (fun y q hy _=>pQ hy q) 4 ls r (fun y hy=>h4 y (by simp[hy])) (by simpa using h3)];rw[Ed,show (46:Int)=((46:UInt8).toNat:Int)from rfl,J5];rw[Ed,<-e,<-ho]
theorem Zm:∀(n:Nat) (l:List RItem),(∀x∈l,GIt x)->l.length<=n->Br n (Bv l)= .got l []
 |n,[],_,_=>by cases n<;>rfl
 |0,x::l,_,hl=>by simp at hl
 |n+1,x::l,h,hl=>by
  have e:Bv (x::l)=Be x++46::Bv l:=by simp[Bv]
  have aa:Be x++46::Bv l≠[]:=by simp
  obtain⟨b,q,e2⟩:=Ai7 aa;rw[e];have hp:=xE (h x (by simp)) (Bv l);rw[e2]at hp⊢;show ((Ff (b::q)).bnd fun x r=>(Br n r).bnd fun xs r=>.got (x::xs) r)=_;rw[hp,Ed,Zm n l (fun y hy=>h y (by simp[hy])) (by simpa using hl)];rfl
theorem xD {α:Type}{f:Tx->Rd α}{P:α->Prop}(hf:∀s x r,f s= .got x r->P x){n:Nat}{s:Tx}{xs:List α}{r:Tx}(h:Dv f n s= .got xs r):∀x∈xs,P x:=Ms hf n s xs r h
theorem U6 {nt:Bool}{s r:Tx}{a:RAtom}(h:Da nt s= .got a r):GA' a:=by
 have hw:=(F0 h).2.1;have ht:=J7 (T:=GTm) (fun _ _ _ h=>xC h) h;refine⟨?_,hw.2.1,hw.2.2.1,ht⟩;unfold Da at h;obtain⟨p,q,h1,h⟩:=A1 h;obtain⟨u,q2,h2,h⟩:=A1 h;unfold U7 at h;obtain⟨t,q3,h3,h⟩:=A1 h;obtain⟨ts,q4,h4,h⟩:=A1 h;obtain⟨u2,q5,h5,h⟩:=A1 h;cases h;exact gJ h1
theorem pR {s r:Tx}{a:RAtom}(h:J3 s= .got a r):GA' a:=by
 cases s with
 |nil=>cases h
 |cons b q=>
  unfold J3 at h;dsimp only at h;split at h
  ·exact U6 h
  ·exact U6 h
theorem xF {s r:Tx}{x:RItem}(h:Ff s= .got x r):GIt x:=by
 have hw:=(U4 h).2;cases s with
 |nil=>cases h
 |cons b q=>
  unfold Ff at h;dsimp only at h;split at h
  ·unfold bL at h;obtain⟨p,q,h1,h⟩:=A1 h;obtain⟨u,q2,h2,h⟩:=A1 h;cases h;exact⟨gJ h1,hw.2.1,(fun e=>by cases e)⟩
  ·unfold Nr at h;obtain⟨hd,q,h1,h⟩:=A1 h;have hg:=U6 h1;have key:x.head=hd/\x.out=false/\∀a∈x.body,GA' a:=by
    cases q with
    |nil=>cases h
    |cons c q=>
     unfold Nq at h;dsimp only at h;split at h
     ·cases h;exact⟨rfl,rfl,by simp⟩
     ·obtain⟨_,q2,_,h⟩:=A1 h;obtain⟨_,q3,_,h⟩:=A1 h;unfold Ro at h;obtain⟨l,q4,h4,h⟩:=A1 h;obtain⟨ls,q5,h5,h⟩:=A1 h;obtain⟨_,q6,_,h⟩:=A1 h;cases h;refine⟨rfl,rfl,fun a ha=>?_⟩;rcases Ahm.1 ha with rfl|ha
      ·exact pR h4
      ·exact xD (fun _ _ _ h=>pR h) h5 a ha
   obtain⟨e1,e2,e3⟩:=key;refine⟨by rw[e1];exact hg.nm,hw.2.1,fun ho=>⟨by rw[e1];exact hg,(hw.2.2 ho).2.1,(hw.2.2 ho).2.2.1,e3⟩⟩
theorem Mt:∀(n:Nat) (s:Tx) (l:List RItem) (r:Tx),Br n s= .got l r->∀x∈l,GIt x
 |n,[],l,r,h=>by
  cases n<;>(cases h;intro x hx;cases hx)
 |0,b::s,l,r,h=>by cases h
 |n+1,b::s,l,r,h=>by
  have h':((Ff (b::s)).bnd fun x r=>(Br n r).bnd fun xs r=>.got (x::xs) r)= .got l r:=h;obtain⟨x,q,h1,h2⟩:=A1 h';obtain⟨xs,q2,h3,h4⟩:=A1 h2;cases h4;intro y hy;rcases Ahm.1 hy with rfl|hy
  ·exact xF h1
  ·exact Mt n _ _ _ h3 y hy
def Gy (P:List Tx):Tx:=(P.filter W1).flatten
theorem Zn {P:List Tx}{i:Nat}{p:Tx}(h:P[i]?=some p):Gy (P.take (i+1))=Gy (P.take i)++if W1 p=true then p else []:=by
 unfold Gy;rw[Agz,h,Aia,Ai1,List.flatten_append];cases hp:W1 p<;>simp[hp]
theorem xG {P:List Tx}{B:Nat}(h:∀p∈P,p.length<=B)(i:Nat):(Gy (P.take i)).length<=i*B:=by
 induction i with
 |zero=>simp[Gy]
 |succ i ih=>
  rw[Ag0];cases hg:P[i]? with
  |none=>rw[Agz,hg,Option.toList_none,Ag3];omega
  |some p=>
   have:=h p (Agp hg);rw[Zn hg,Aha];split
   ·omega
   ·simp;omega
theorem Ns (t:Tx)(ht:t.length<=100000)(hn:(Jo t).length<=1000)(hp:∀p∈Jo t,p.length<=100000)(d:St):ACalls Tryz.prog 17 [str t] d fun r d'=>r=str (Gy (Jo t))/\Keep d d':=by
 have ai:=fun d=>bR t Ajm d;have ac:=fun p d=>bS p d;have am:({data:=#[]}:ByteArray)=bs []:=rfl;generalize Jo t=P at*
 refine Z9 26 [.tmp 2] Tryz.func17 ?_
 repeat' (first|refine Z1 ?_|(refine Z8 ?_;intro κ hκ)|(refine Z4 ?_;clear hκ κ)|(refine Z2 ?_ ?_<;>intro h ab<;>try exact Xp)|(refine Z5 ?_;refine Xi (ai _) ?_;rintro _ _ ⟨⟨idp,rfl⟩,ae⟩;(have ad:=ae.nobj))|refine Z7 ?_|exact⟨⟩|(apply hκ.out;clear hκ κ))
 rename_i d1
 refine Af (fun m s d'=>∃(i:Nat) (u:Tx),m=P.length-i/\i<=P.length/\s 3=sl idp P.length (P.map str)/\s 4=str u/\s 5=sc (.int .i64 i)/\Keep d d'/\Ajs (u=Gy (P.take i))) P.length
  ⟨0,[],Ajm,Ajm,rfl,rfl,rfl,ae,by simp[Ajs,Gy]⟩ ?_
 clear ae ad;rintro m s d2 ⟨i,u,rfl,hi,h3,h4,h5,hK,hU⟩;have aj:=hK.nobj;by_cases af:i<P.length
 ·have aa:=List.getElem?_eq_getElem af;have ah:=E0 af;generalize P[i]=p at aa ah;have ac:=ac p;have ak:u.length+p.length<=1099511627776:=by
   have h1:=xG hp i;rw[<-hU.out]at h1;have h2:=hp p (Agp aa);omega
  have HS:Ajs (Gy (P.take (i+1))=u++if W1 p=true then p else []):=by
   rw[Ajs,Zn aa,<-hU.out]
  clear hp aa hU;cases ho:W1 p with
  |true=>
   rw[ho]at ac HS;have HU:Ajs (u++p=Gy (P.take (i+1))):=by rw[Ajs,HS.out];rfl
   clear HS
   repeat' (first|refine Z1 ?_|(refine Z8 ?_;intro κ hκ)|(refine Z4 ?_;clear hκ κ)|(refine Z2 ?_ ?_<;>intro h ab<;>try exact Xp)|(refine Z5 ?_;refine Xi (ac _) ?_;rintro _ _ ⟨rfl,rfl⟩)|refine Z7 ?_|exact⟨⟩|(apply hκ.out;clear hκ κ))
   refine⟨P.length-(i+1),Ajm,i+1,u++p,?_⟩
   ((repeat' with_reducible refine And.intro ?_ ?_)<;>first|exact Xq|exact (HU)|exact Xs)
  |false=>
   rw[ho]at ac HS;have HU:Ajs (u=Gy (P.take (i+1))):=by rw[Ajs,HS.out];simp
   clear HS
   repeat' (first|refine Z1 ?_|(refine Z8 ?_;intro κ hκ)|(refine Z4 ?_;clear hκ κ)|(refine Z2 ?_ ?_<;>intro h ab<;>try exact Xp)|(refine Z5 ?_;refine Xi (ac _) ?_;rintro _ _ ⟨rfl,rfl⟩)|refine Z7 ?_|exact⟨⟩|(apply hκ.out;clear hκ κ))
   refine⟨P.length-(i+1),Ajm,i+1,u,?_⟩
   ((repeat' with_reducible refine And.intro ?_ ?_)<;>first|exact Xq|exact (HU)|exact Xs)
 ·have hil:i=P.length:=Ajm;have hu:u=Gy P:=by rw[hU.out,hil,Agw]
  rw[hu]at h4;clear hU hu hp;generalize Gy P=v at*
  repeat' (first|refine Z1 ?_|(refine Z8 ?_;intro κ hκ)|(refine Z4 ?_;clear hκ κ)|(refine Z2 ?_ ?_<;>intro h ab<;>try exact Xp)|refine Z7 ?_|exact⟨⟩|(apply hκ.out;clear hκ κ))
  first|exact⟨_,rfl,rfl,hK⟩|exact⟨_,rfl,hK⟩|exact⟨_,rfl,rfl⟩
end Go.Proofs.YtmoeoppbmhfbpabGreatDoorL
namespace Go.Abs
theorem jV {P:Program}{t:TypeId}{z b:Nat}{zc:List Value}{d:St}{id2 m n:Nat}{x:AV}{xs ys:List AV}{K:AV->St->Prop}(ht:Nm P t=some (z,b,zc))
  (hz:0<z) (hzc:zc.length=z) (hy:ys.length=m*z) (hf:ys.all flat=true) (hm:0<m) (hb:(n+m)*b<=140737488355328) (hl:n+m<=1099511627776)
  (hx:(x=nilS/\n=0/\xs=[])\/∃o cap,x=gx o n cap/\0<n/\n<=cap/\(d.obj o).length=cap*z/\(d.obj o).take (n*z)=xs)
  (hO:∀o cap cs,((∃c0,x=gx o n c0/\n+m<=c0/\cap=c0)->cs.length=cap*z->cs.take ((n+m)*z)=xs++ys->K (gx o (n+m) cap) (d.put o cs)))
  (hN:∀cap cs,cs.length=cap*z->n+m<=cap->cs.take ((n+m)*z)=xs++ys->K (gx d.nobj (n+m) cap) (d.new cs)):Ib P t t x (sl id2 m ys) d K:=by
 right;refine⟨z,b,zc,id2,m,ys,ht,rfl,rfl,hz,hzc,hy,hf,hm,?_⟩;have ab:∀k,(List.replicate k (zc.map cst1)).flatten.length=k*z:=fun k=>by
  induction k with
  |zero=>simp
  |succ k ih=>rw[List.replicate_succ,List.flatten_cons,Aha,ih,Aij,hzc,Ag0,Nat.add_comm]
 rcases hx with⟨rfl,rfl,rfl⟩|⟨o,cap,rfl,af,ah,aa,ac⟩
 ·refine .inl ⟨rfl,by simpa using hb,by simpa using hl,fun cap hc=>?_⟩;have:=hN cap (ys++(List.replicate (cap-m) (zc.map cst1)).flatten) (by rw[Aha,hy,ab,<-Ag8];congr 1;omega) Ajm (by rw[Ag9,<-hy,List.take_left];rfl);rw[Ag9]at this;exact this
 ·have ad:xs.length=n*z:=by rw[<-ac,Ahb,aa];exact Ahf (Agn _ ah)
  refine .inr ⟨o,n,cap,rfl,hb,hl,aa,af,fun hc=>?_,fun hc cap' ai=>?_⟩
  ·have ae:n*z+ys.length<=(d.obj o).length:=by rw[hy,aa,<-Ag8];exact Agn _ hc
   refine hO o cap _ ⟨cap,rfl,hc,rfl⟩ (by rw[Ix];exact aa) ?_;rw[Gl _ _ _ ae,ac];have:(n+m)*z=(xs++ys).length:=by rw[Aha,ad,hy,Ag8]
   rw[this,List.take_left]
  ·refine hN cap' _ ?_ ai ?_
   ·rw[ac,Aha,Aha,ad,hy,ab,<-Ag8,<-Ag8];congr 1;omega
   ·rw[ac];have:(n+m)*z=(xs++ys).length:=by rw[Aha,ad,hy,Ag8]
    rw[this,List.take_left]
theorem V9 {P:Program}{N:Nat}{c:Code}{Q:Hg}{s:Sl}{d:St}{o p n cap j k:Nat}{ys:List AV}(ho:o<d.nobj)(hp:p<d.nobj)(aj:o≠p)(hy:d.obj p=ys)(hj:ys[j]?=some (gx o n cap))(hk:k<=(d.obj o).length)
  (h:Kf P N c Q s ((d.put o []).put p (ys.set j (sl 0 n ((d.obj o).take k))))):Kf P N c Q s d:=fun G a w R=>by
 obtain⟨G',I',E,ab,aa⟩:=R.inv.freeze ho;have ad:(d.put o []).obj p=ys:=by simp[St.put,aj.symm,hy]
 have am:(d.put o []).obj p≠[]:=fun e=>by rw[ad]at e;rw[e]at hj;simp at hj
 obtain⟨I2,E2⟩:=I'.retell (o:=p) hp am (ys.set j (sl 0 n ((d.obj o).take k))) (fun arr ha=>by
  rw[ad]at ha;refine⟨by rw[Ai8];exact ha.1,fun i v x hv hx=>?_⟩;by_cases ae:i=j
  ·subst ae;have an:=(List.getElem?_eq_some_iff.1 hj).1;rw[List.getElem?_set_self an]at hx;cases hx;obtain⟨e1,e2,e3⟩:=VR.of_gx (ha.2 i v _ hv hj);refine VR.fold ⟨some ⟨G'.blk o,0,none⟩,cap,e1,⟨e2,fun h=>by cases h⟩,fun af=>⟨G'.blk o,0,rfl,fun q y hq=>?_⟩,fun k' ap=>Ajm⟩;have ak:d.obj o≠[]:=fun e=>af (by rw[e];simp);obtain⟨⟨cur,ecur,ac,ao⟩,-⟩:=(R.inv.obj o ho).2.2 ak;rw[List.getElem?_take]at hq;split at hq
   case isFalse=>cases hq
   obtain⟨u,ai,ah⟩:=ao.get hq;refine⟨by rw[aa];exact ab _,u,?_,ah.ext E⟩;rw[aa];simp only[World.cell?,ac,Ag9];simpa using ai
  ·rw[List.getElem?_set_ne (Ne.symm ae)]at hx
   exact ha.2 i v x hv hx)
 have R2:Rel N G' s ((d.put o []).put p (ys.set j (sl 0 n ((d.obj o).take k)))) a w:=⟨R.defers,R.size,fun t=>(R.tmps t).ext (E.trans E2),I2⟩;exact wp_mono (h G' a w R2) fun e a' w' hc=>hc.ext (E.trans E2)
theorem V8 {P:Program}{N:Nat}{c:Code}{Q:Hg}{s:Sl}{d:St}{o n cap k t:Nat}(ho:o<d.nobj)(ht:s t=gx o n cap)(hk:k<=(d.obj o).length)
  (h:Kf P N c Q (upd s t (sl 0 n ((d.obj o).take k))) (d.put o [])):Kf P N c Q s d:=fun G a w R=>by
 obtain⟨G',I',E,aa,ai⟩:=R.inv.freeze ho
 have R2:Rel N G' (upd s t (sl 0 n ((d.obj o).take k))) (d.put o []) a w:=⟨R.defers,R.size,fun q=>by
  unfold upd;by_cases hq:q=t
  ·rw[if_pos hq];subst hq;have hv:=R.tmps q;rw[ht]at hv;obtain⟨e1,e2,e3⟩:=VR.of_gx hv;refine VR.fold ⟨some ⟨G.blk o,0,none⟩,cap,e1,⟨e2,fun h=>by cases h⟩,fun ac=>⟨G.blk o,0,rfl,fun q y hq=>?_⟩,fun k' aj=>Ajm⟩;have af:d.obj o≠[]:=fun e=>ac (by rw[e];simp);obtain⟨⟨cur,ecur,ab,ah⟩,-⟩:=(R.inv.obj o ho).2.2 af;rw[List.getElem?_take]at hq;split at hq
   case isFalse=>cases hq
   obtain⟨u,ae,ad⟩:=ah.get hq;refine⟨aa _,u,?_,ad.ext E⟩;simp only[World.cell?,ab,Ag9];simpa using ae
  ·rw[if_neg hq];exact (R.tmps q).ext E,I'⟩
 exact wp_mono (h G' a w R2) fun e a' w' hc=>hc.ext E
end Go.Abs
