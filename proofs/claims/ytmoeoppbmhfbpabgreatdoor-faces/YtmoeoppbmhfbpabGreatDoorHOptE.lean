import Derived.Test.YtmoeoppbmhfbpabGreatDoorHOptB
set_option linter.all false
namespace Go.Proofs.YtmoeoppbmhfbpabGreatDoorH
set_option maxHeartbeats 64000000
open Go.Abs
set_option maxRecDepth 100000
structure GL (N:List Tx)(l:List RItem):Prop where
 len:l.length<=16
 nm:N.length<=2000
 msr:∀x∈l,xW N x
 fits:∀x∈l,x.fits
 pos:∀x∈l,∀a∈Ag x,0<a.terms.length
 va:∀x∈l,∀a∈Ag x,VA a
 ar:∀x∈l,∀a∈x.body,∀b∈x.body,a.pred=b.pred->a.terms.length=b.terms.length
theorem GL.bkm {N:List Tx}{l:List RItem}{cs:List AV}(h:GL N l)(hE:EL (PI N) l cs):BkM N l cs:=⟨hE,by have:=h.len;omega,h.nm,h.msr,h.fits,h.pos,h.va⟩
theorem E4 {α:Type}{n:Nat}{o l:List α}{x:α}(h:x∈Ct n o l):x∈l\/x∈o:=by
 unfold Ct at h;obtain⟨p,hp,hx⟩:=Acj.1 h;split at hx
 ·exact .inr hx
 ·simp at hx;subst hx;exact .inl (List.fst_mem_of_mem_zipIdx hp)
theorem uV {α:Type}{n:Nat}{y:α}(l:List α):(Ct n [y] l).length=l.length:=by
 unfold Ct;rw[List.length_flatMap];have key:∀(l:List α) (k:Nat),((l.zipIdx k).map fun p=>(if p.2=n then [y]else [p.1]).length).sum=l.length:=by
  intro l;induction l with
  |nil=>intro k;simp
  |cons x l ih=>
   intro k;have:=ih (k+1);simp only[Abo,Abx,List.sum_cons,Aca];rw[this];split<;>simp<;>omega
 exact key l 0
theorem Nh {α:Type}{n:Nat}(l:List α):(Ct n [] l).length<=l.length:=by
 unfold Ct;rw[List.length_flatMap];have key:∀(l:List α) (k:Nat),((l.zipIdx k).map fun p=>(if p.2=n then []else [p.1]).length).sum<=l.length:=by
  intro l;induction l with
  |nil=>intro k;simp
  |cons x l ih=>
   intro k;have:=ih (k+1);simp only[Abo,Abx,List.sum_cons,Aca];split<;>simp<;>omega
 exact key l 0
theorem J4 {x:RItem}{k:Nat}(ho:x.out=false){a:RAtom}(h:a∈Ag (Gx x k)):a∈Ag x:=by
 have h':a=x.head\/a∈x.body.eraseIdx k:=by simpa[Ag,Gx]using h
 rcases h' with rfl|h'
 ·exact Ay (.inl ⟨ho,rfl⟩)
 ·exact Ay (.inr (Ada h'))
theorem GL.wo {N:List Tx}{l:List RItem}(h:GL N l){i k:Nat}{x:RItem}(hx:l[i]?=some x)(ho:x.out=false):GL N (Ct i [Gx x k] l):=by
 have aa:=Abh hx;have hm:∀y∈Ct i [Gx x k] l,y∈l\/y=Gx x k:=fun y hy=>by
  rcases E4 hy with h|h
  ·exact .inl h
  ·exact .inr (by simpa using h)
 have m:=h.msr x aa;refine⟨by rw[uV];exact h.len,h.nm,fun y hy=>?_,fun y hy=>?_,fun y hy=>?_,fun y hy=>?_,fun y hy=>?_⟩
 ·rcases hm y hy with hy|rfl
  ·exact h.msr y hy
  ·exact⟨(fun e=>by cases e),Abc (Ac7 _ _) m.body,m.mem,m.hpl,fun a ha=>m.at_ a (J4 ho ha)⟩
 ·rcases hm y hy with hy|rfl
  ·exact h.fits y hy
  ·exact Q3 (h.fits x aa)
 ·rcases hm y hy with hy|rfl
  ·exact h.pos y hy
  ·exact fun a ha=>h.pos x aa a (J4 ho ha)
 ·rcases hm y hy with hy|rfl
  ·exact h.va y hy
  ·exact fun a ha=>h.va x aa a (J4 ho ha)
 ·rcases hm y hy with hy|rfl
  ·exact h.ar y hy
  ·exact fun a ha b hb=>h.ar x aa a (Ada ha) b (Ada hb)
def mC (N:List Tx)(x:RItem)(k:Nat):Option Sw:=(Cp J3 (x.head.terms.map Ap) (x.head.terms.map Ap)).bind fun s0=>Ig N x k s0
theorem X5 {N:List Tx}{l:List RItem}(h:GL N l){x:RItem}(hx:x∈l)(ho:x.out=false)(c:List AV)(k:Nat)(hc:PI N x c)(d:St):ACalls Tryz.prog 94 [ag c,sc (.int .i64 k)] d fun r d'=>r=M5 (mC N x k)/\Keep d d':=by
 have m:=h.msr x hx;have hh:=m.at_ x.head (Ay (.inl ⟨ho,rfl⟩));obtain⟨s0,aa,-⟩:=lK tellU x.head.terms hh.2.2;have:=bF N x c k s0 hc (h.fits x hx) aa (fun t ht=>(hh.2.2 t ht).varOk) (fun a ha=>⟨(h.fits x hx).2.2 a ha,fun t ht=>((m.at_ a (Ay (.inr ha))).2.2 t ht).varOk,fun b hb=>h.ar x hx a ha b (Ada hb)⟩) d;rw[mC,aa];exact this
def eK (x:AV):Prop:=∃id1 n1 c1 id2 n2 c2,x=ag [sl id1 n1 c1,sl id2 n2 c2]
def Qo (N:List Tx)(l:List RItem)(i k:Nat):Bool:=match l[i]? with
 |some x=>(mC N x k).isSome&&Cr N l (Ct i [Gx x k] l)
 |none=>false
def nC (N:List Tx)(l:List RItem)(n:Nat):Prop:=∀i y,i<n->l[i]?=some y->∀k,k<y.body.length->Qo N l i k=false
def chA (N:List Tx)(l:List RItem)(idn:Nat)(x:AV)(b:Bool):Prop:=
 (b=false/\nC N l l.length)\/(b=true/\∃i k y,l[i]?=some y/\y.out=false/\k<y.body.length/\Qo N l i k=true/\nC N l i/\(∀k',k'<k->Qo N l i k'=false)/\∃id c',x=B7 N idn (Ct i [Gx y k] l) id c'/\EL (PI N) (Ct i [Gx y k] l) c')
theorem Mz (N:List Tx)(l:List RItem)(cs:List AV)(idn idi:Nat)(hG:GL N l)(hE:EL (PI N) l cs)(d:St):
  ACalls Tryz.prog 125 [B7 N idn l idi cs] d fun r d'=>(∃x b,r=tp [x,sc (.bool b)]/\chA N l idn x b/\eK x)/\Keep d d':=by
 have cd:=EL.length Dw hE;have bw:=hG.len;have b7:=Co;have b6:=Nc;have b5:∀s,List.take 78 (Da s)=Da s:=fun s=>Acl (by rw[Co];exact Abb _);have b9:∀s s',lsp (Da s) 0 (Da s')=Da s':=fun s s'=>Ld (by rw[Co,Co]);have cb:∀s,(Da s).all flat=true:=fun s=>by
  rw[Abg];intro x hx;obtain⟨n,-,rfl⟩:=Acm.1 hx;unfold aL;split
  ·rfl
  ·split<;>rfl
 refine Z9 53 [.cell 2 62,.tmp 3] Tryz.func125 ?_
 repeat' (first|refine Z1 ?_|(refine Z8 ?_;intro κ hκ)|(refine Z4 ?_;clear hκ κ)|(refine Z2 ?_ ?_<;>intro h aa<;>try exact Xp)|refine Z3 ?_|exact⟨⟩|(apply hκ.out;clear hκ κ))
 refine Ad (fun m s d'=>∃(i:Nat),m=l.length-i/\i<=l.length/\s 1=ptr d.nobj 0/\s 2=ptr (d.nobj+1) 0/\s 13=sl idi l.length cs/\s 14=sc (.int .i64 l.length)/\s 15=sc (.int .i64 i)/\Keep d d'/\d.nobj+1<d'.nobj/\d'.obj d.nobj=[sl idn N.length (N.map str),sl idi l.length cs]/\d'.obj (d.nobj+1)=[nilS,nilS]/\Ad8 (nC N l i)) l.length
  ⟨0,Ad2,Ad2,Ad4,Ad4,Ad4,Ad4,rfl,Xs,Ad6,by rw[Ae Ad6,Am],by first|exact Am|simp[Am],fun i y h=>Ad2⟩ ?_
 rintro m s d' ⟨i,rfl,hi,h1,h2,bo,bn,bm,hK,b8,ay,ax,hA⟩;have b4:=hK.nobj;by_cases bi:i<l.length
 ·have ac:=List.getElem?_eq_getElem bi;have az:=Acz bi;have bl:=hG.fits l[i] az;have bh:=hG.msr l[i] az;obtain⟨a6,ih,idb,b,r,a0,hd⟩:=Gp hE ac;generalize l[i]=x at hd ac a6 a0 az bl bh;have b1:=bl.1;have ce:=EL.length Dm a0;have HG:Ad8 (l[i]?=some x):=ac;clear ac
  repeat' (first|refine Z1 ?_|(refine Z8 ?_;intro κ hκ)|(refine Z4 ?_;clear hκ κ)|(refine Z2 ?_ ?_<;>intro h aa<;>try exact Xp)|refine Z3 ?_|exact⟨⟩|(apply hκ.out;clear hκ κ))
  refine Ad (fun m s d2=>∃(k:Nat),m=x.body.length-k/\k<=x.body.length/\s 1=ptr d.nobj 0/\s 2=ptr (d.nobj+1) 0/\s 4=sc (.int .i64 i)/\s 5=ptr d'.nobj 0/\s 13=sl idi l.length cs/\s 14=sc (.int .i64 l.length)/\s 15=sc (.int .i64 i)/\s 21=sl idb x.body.length b/\s 22=sc (.int .i64 x.body.length)/\s 23=sc (.int .i64 k)/\Keep d d2/\d'.nobj<d2.nobj/\d2.obj d.nobj=[sl idn N.length (N.map str),sl idi l.length cs]/\d2.obj (d.nobj+1)=[nilS,nilS]/\d2.obj d'.nobj=[sc (.bool x.out),sc (.int .i64 (N.idxOf x.head.pred:Nat)),sl ih x.head.terms.length (Aw x.head.terms),sl idb x.body.length b]/\Ad8 (∀k',k'<k->Qo N l i k'=false)) x.body.length
   ⟨0,Ad2,Ad2,Ad3,Ad3,Ad3,Ad3,Ad3,Ad3,Ad3,Ad4,Ad4,Ad4,Xs,Ad7,by rw[Ai Ad2,Ae Ad2,ay],by rw[Ai Ad2,Ae Ad2,ax],by rw[Aj],fun k' h=>Ad2⟩ ?_
  clear h1 h2 bo bn bm hK ay ax;rintro m s d2 ⟨k,rfl,hk,h1,h2,h4,h5,bo,bn,bm,ch,cg,cf,hK,bv,ay,ax,bf,hN⟩;have bp:=hK.nobj;by_cases am:k<x.body.length
  ·have an:x.out=false:=by
    cases h:x.out with
    |false=>rfl
    |true=>rw[bh.out h]at am;cases am
   have af:=fun d=>X5 hG az an _ k (PI.of (ih:=ih) (id:=idb) a6 a0) d;simp only[an]at af bf;have ae:Qo N l i k=((mC N x k).isSome&&Cr N l (Ct i [Gx x k] l)):=by unfold Qo;rw[HG.out]
   cases hs:mC N x k with
   |none=>
    rw[hs]at af ae;simp only[M5]at af;have HN:Ad8 (∀k',k'<k+1->Qo N l i k'=false):=fun k' a8=>by
     rcases Abe k' k with h|h
     ·exact hN.out k' h
     ·rw[show k'=k by omega,ae];rfl
    clear hN ae hs
    repeat' (first|refine Z1 ?_|(refine Z8 ?_;intro κ hκ)|(refine Z4 ?_;clear hκ κ)|(refine Z2 ?_ ?_<;>intro h aa<;>try exact Xp)|(refine Z5 ?_;refine Xi (af _) ?_;rintro _ _ ⟨rfl,ad⟩;(have ap:=ad.nobj;have ab:=ad.obj))|refine Z3 ?_|exact⟨⟩|(apply hκ.out;clear hκ κ))
    rename_i d3;have b3:Keep d ((d3.new (Da J3)).put d3.nobj (Da J3)):=((hK.trans ad).new _).put Ad2 _;have hz0:((d3.new (Da J3)).put d3.nobj (Da J3)).obj d.nobj=[sl idn N.length (N.map str),sl idi l.length cs]:=by rw[Ai Ad2,Ae Ad2,ab _ Ad2,ay]
    have br:((d3.new (Da J3)).put d3.nobj (Da J3)).obj (d.nobj+1)=[nilS,nilS]:=by rw[Ai Ad2,Ae Ad2,ab _ Ad2,ax]
    have bq:((d3.new (Da J3)).put d3.nobj (Da J3)).obj d'.nobj=[sc (.bool x.out),sc (.int .i64 (N.idxOf x.head.pred:Nat)),sl ih x.head.terms.length (Aw x.head.terms),sl idb x.body.length b]:=by rw[Ai Ad2,Ae Ad2,ab _ Ad2,bf,an]
    refine⟨x.body.length-(k+1),Ad2,k+1,?_⟩
    ((repeat' with_reducible refine And.intro ?_ ?_)<;>first|exact Xq|exact (HN)|exact (b3)|exact (hz0)|exact (br)|exact (bq)|exact Xs)
   |some sw=>
    rw[hs]at af ae;simp only[M5]at af;simp only[Option.isSome_some,Acp]at ae;have bb:=fun d=>Ly N x _ k (PI.of (ih:=ih) (id:=idb) a6 a0) b1 d;simp only[an]at bb;have be:=hG.wo (k:=k) HG.out an;have bc:=fun co ido (b0:EL (PI N) [Gx x k] co) d=>Sa N l [Gx x k] cs co idn idi ido i hE b0 Ad2 (by simp) d;have aw:=fun c' id' (a9:EL (PI N) (Ct i [Gx x k] l) c') d=>Gj N l (Ct i [Gx x k] l) cs c' idn idi id' (hG.bkm hE) (be.bkm a9).bj d;simp only[Acu]at bc;rw[<-ae]at aw;cases ao:Qo N l i k with
    |true=>
     rw[ao]at aw;have HC:Ad8 (∀id c' x',x'=B7 N idn (Ct i [Gx x k] l) id c'->EL (PI N) (Ct i [Gx x k] l) c'->chA N l idn x' true):=fun id c' x' bu a9=>.inr ⟨rfl,i,k,x,HG.out,an,am,ao,hA.out,hN.out,id,c',bu,a9⟩;clear hN ae hs be ao hA HG
     repeat' (first|refine Z1 ?_|(refine Z8 ?_;intro κ hκ)|(refine Z4 ?_;clear hκ κ)|(refine Z2 ?_ ?_<;>intro h aa<;>try exact Xp)|(refine Z5 ?_;first|(refine Xi (af _) ?_;rintro _ _ ⟨rfl,ad⟩;(have ap:=ad.nobj;have ab:=ad.obj))|(refine Xi (bb _) ?_;rintro _ _ ⟨c2,rfl,bd,av⟩;(have ak:=av.nobj;have ai:=av.obj;(try simp only[Ab,Aa]at ak ai);obtain⟨a7,ih2,id2,b2,ba,rfl⟩:=bd))|(refine Xi (bc _ _ (EL.single (PI.of (ih:=ih2) (id:=id2) a7 ba)) _) ?_;rintro _ _ ⟨⟨id6,c6,rfl,a3⟩,au⟩;(have aj:=au.nobj;have ah:=au.obj;(try simp only[Ab,Aa,Ah]at aj ah)))|(refine Xi (aw c6 id6 a3 _) ?_;rintro _ _ ⟨⟨x7,rfl,bg,⟨id71,n71,c71,id72,n72,c72,rfl⟩⟩,ar⟩;(have a5:=ar.nobj;have a4:=ar.obj)))|refine Z3 ?_|exact⟨⟩|(apply hκ.out;clear hκ κ))
     exact⟨_,rfl,⟨_,true,rfl,HC.out _ _ _ (bg rfl) a3,_,_,_,_,_,_,rfl⟩,Xs⟩
    |false=>
     rw[ao]at aw;have HN:Ad8 (∀k',k'<k+1->Qo N l i k'=false):=fun k' a8=>by
      rcases Abe k' k with h|h
      ·exact hN.out k' h
      ·rw[show k'=k by omega,ao]
     clear hN ae hs be ao
     repeat' (first|refine Z1 ?_|(refine Z8 ?_;intro κ hκ)|(refine Z4 ?_;clear hκ κ)|(refine Z2 ?_ ?_<;>intro h aa<;>try exact Xp)|(refine Z5 ?_;first|(refine Xi (af _) ?_;rintro _ _ ⟨rfl,ad⟩;(have ap:=ad.nobj;have ab:=ad.obj))|(refine Xi (bb _) ?_;rintro _ _ ⟨c2,rfl,bd,av⟩;(have ak:=av.nobj;have ai:=av.obj;(try simp only[Ab,Aa]at ak ai);obtain⟨a7,ih2,id2,b2,ba,rfl⟩:=bd))|(refine Xi (bc _ _ (EL.single (PI.of (ih:=ih2) (id:=id2) a7 ba)) _) ?_;rintro _ _ ⟨⟨id6,c6,rfl,a3⟩,au⟩;(have aj:=au.nobj;have ah:=au.obj;(try simp only[Ab,Aa,Ah]at aj ah)))|(refine Xi (aw c6 id6 a3 _) ?_;rintro _ _ ⟨⟨x7,rfl,bg,⟨id71,n71,c71,id72,n72,c72,rfl⟩⟩,ar⟩;(have a5:=ar.nobj;have a4:=ar.obj)))|refine Z3 ?_|exact⟨⟩|(apply hκ.out;clear hκ κ))
     refine⟨x.body.length-(k+1),Ad2,k+1,?_⟩
     ((repeat' with_reducible refine And.intro ?_ ?_)<;>first|exact Xq|exact (HN)|exact Xs)
  ·have ca:k=x.body.length:=Ad2;have HA:Ad8 (nC N l (i+1)):=fun j y hj hy k' a8=>by
    rcases Abe j i with h|h
    ·exact hA.out j y h hy k' a8
    ·have:j=i:=Ad2;subst this;rw[HG.out]at hy;cases hy;exact hN.out k' Ad2
   clear hN HG hA
   repeat' (first|refine Z1 ?_|(refine Z8 ?_;intro κ hκ)|(refine Z4 ?_;clear hκ κ)|(refine Z2 ?_ ?_<;>intro h aa<;>try exact Xp)|refine Z3 ?_|exact⟨⟩|(apply hκ.out;clear hκ κ))
   refine⟨l.length-(i+1),Ad2,i+1,?_⟩
   ((repeat' with_reducible refine And.intro ?_ ?_)<;>first|exact Xq|exact (HA)|exact Xs)
 ·have bz:i=l.length:=Ad2;subst bz
  repeat' (first|refine Z1 ?_|(refine Z8 ?_;intro κ hκ)|(refine Z4 ?_;clear hκ κ)|(refine Z2 ?_ ?_<;>intro h aa<;>try exact Xp)|refine Z3 ?_|exact⟨⟩|(apply hκ.out;clear hκ κ))
  exact⟨_,rfl,⟨_,false,rfl,.inl ⟨rfl,hA.out⟩,_,_,_,_,_,_,rfl⟩,Xs⟩
def E8 (N:List Tx)(U:Nat->Nat->Bool)(l:List RItem)(q:Nat):Bool:=l.any fun x=>x.out&&(decide (N.idxOf x.head.pred=q)||U (N.idxOf x.head.pred) q)
theorem eQ {N:List Tx}{U:Nat->Nat->Bool}{l:List RItem}{i:Nat}{x:RItem}(h:l[i]?=some x)(q:Nat):E8 N U (l.take (i+1)) q=(E8 N U (l.take i) q||(x.out&&(decide (N.idxOf x.head.pred=q)||U (N.idxOf x.head.pred) q))):=by
 unfold E8;rw[Abq,h,Ac2,Adf];simp
theorem Tv {n:Nat}{f g:Nat->Bool}(h:∀q,q<n->f q=g q):Gv n f=Gv n g:=by
 unfold Gv;exact Aco fun q hq=>by rw[h q (by simpa using hq)]
theorem X4 (N:List Tx)(l:List RItem)(cs:List AV)(idn idi:Nat)(hB:Bk N l cs)(d:St):ACalls Tryz.prog 176 [B7 N idn l idi cs] d fun r d'=>∃o M,r=fx o 0 N.length/\Keep d d'/\d.nobj<=o/\o<d'.nobj/\Dl N l M/\d'.obj o=Gv N.length (E8 N (Fb N.length M N.length) l):=by
 have bg:=EL.length Dw hB.el;have a9:=hB.len;have hN:=hB.nm;have bh:=Wx N.length;refine Z9 49 [.tmp 2] Tryz.func176 ?_
 repeat' (first|refine Z1 ?_|(refine Z8 ?_;intro κ hκ)|(refine Z4 ?_;clear hκ κ)|(refine Z2 ?_ ?_<;>intro h aa<;>try exact Xp)|(refine Z5 ?_;refine Xi (Mb N l cs idn idi hB _) ?_;rintro _ _ ⟨idu,B,M0,rfl,ak,bb,ar,av,a0⟩;(rw[Aa]at bb;have af:=ak.obj;have an:=ak.nobj;(try simp only[Aa,Ab,Ah]at an af)))|refine Z3 ?_|exact⟨⟩|(apply hκ.out;clear hκ κ))
 rename_i d1;have am:Ad8 (Dl N l M0):=a0;clear a0 af;have bd:=G7 B N.length N.length;have bi:Keep d d1:=((Keep.refl d).new _).trans ak;clear ak;generalize hU:Fb N.length M0 N.length=U at av;have HU:Ad8 _:=hU;clear hU
 refine Ad (fun m s d'=>∃i:Nat,m=l.length-i/\i<=l.length/\s 3=sl idu N.length (En B N.length N.length)/\s 4=fx d1.nobj 0 N.length/\s 16=sl idi l.length cs/\s 17=sc (.int .i64 l.length)/\s 18=sc (.int .i64 i)/\Keep d d'/\d1.nobj<d'.nobj/\d'.obj d1.nobj=Gv N.length (E8 N U (l.take i))/\Ad8 (Mat B N.length U d')) l.length
  ⟨0,Ad2,Ad2,Ad4,Ad4,Ad4,Ad4,rfl,Xs,Ad6,by rw[Am];rfl,Mat.new av ar _⟩ ?_
 clear av;rintro m s d' ⟨i,rfl,hi,h3,h4,a5,a4,a3,hK,ae,ab,hM⟩;have aw:=hK.nobj;by_cases a8:i<l.length
 ·have ac:=List.getElem?_eq_getElem a8;obtain⟨hm,ih,id,b,r,hb,hd⟩:=Gp hB.el ac;generalize l[i]=x at hd ac hb hm;have ad:=eQ (N:=N) (U:=U) ac;have ap:=Ac1 hm;cases aj:x.out with
  |false=>
   rw[aj]at hd ad;have ai:d'.obj d1.nobj=Gv N.length (E8 N U (l.take (i+1))):=by
    rw[ab];exact Tv fun q _=>by rw[ad q];simp
   clear ad ac ab aj;generalize N.idxOf x.head.pred=ph at*
   repeat' (first|refine Z1 ?_|(refine Z8 ?_;intro κ hκ)|(refine Z4 ?_;clear hκ κ)|(refine Z2 ?_ ?_<;>intro h aa<;>try exact Xp)|refine Z3 ?_|exact⟨⟩|(apply hκ.out;clear hκ κ))
   refine⟨l.length-(i+1),Ad2,i+1,?_⟩
   ((repeat' with_reducible refine And.intro ?_ ?_)<;>first|exact Xq|exact (Mat.put (Mat.new hM.out Ad2 _) Ad2 _)|exact (by rw[Ai Ad2,Ae Ad2,ai])|exact Xs)
  |true=>
   rw[aj]at hd ad;clear ac aj;generalize N.idxOf x.head.pred=ph at*
   generalize E8 N U (l.take i)=w0 at ab ad;generalize ah:E8 N U (l.take (i+1))=w1 at ad;have a6:Ad8 _:=ah;have a7:Ad8 (∀q,w1 q=(w0 q||(true&&(decide (ph=q)||U ph q)))):=ad;clear ad ah;have be:=G8 (B:=B) (n:=N.length) (k:=N.length) ap;have az:=hM.out _ ap;have bc:=D1 N.length (U ph);have ao:=D1 N.length w0;have ax:=Tu (n:=N.length) (i:=ph) w0 true
   repeat' (first|refine Z1 ?_|(refine Z8 ?_;intro κ hκ)|(refine Z4 ?_;clear hκ κ)|(refine Z2 ?_ ?_<;>intro h aa<;>try exact Xp)|refine Z3 ?_|exact⟨⟩|(apply hκ.out;clear hκ κ))
   refine Ad (fun m s d2=>∃(p:Nat) (g:Nat->Bool),m=N.length-p/\p<=N.length/\s 3=sl idu N.length (En B N.length N.length)/\s 4=fx d1.nobj 0 N.length/\s 16=sl idi l.length cs/\s 17=sc (.int .i64 l.length)/\s 18=sc (.int .i64 i)/\s 35=fx (B+ph) 0 N.length/\s 36=sc (.int .i64 N.length)/\s 37=sc (.int .i64 p)/\Keep d d2/\d1.nobj<d2.nobj/\d2.obj d1.nobj=Gv N.length g/\Ad8 (Mat B N.length U d2)/\Ad8 (∀q,g q=(w0 q||decide (ph=q)||(decide (q<p)&&U ph q)))) N.length
    ⟨0,fun j=>if j=ph then true else w0 j,Ad2,Ad2,Ad3,Ad3,Ad3,Ad3,Ad3,Ad4,Ad4,Ad4,Xs,Ad7,by rw[Aj],Mat.put (Mat.put (Mat.new hM.out Ad2 _) Ad2 _) Ad2 _,fun q=>by
     by_cases h:q=ph
     ·simp[h]
     ·simp[h,Ne.symm h]⟩ ?_
   clear h3 h4 a5 a4 a3 hK ae ab hM az ax ao aw;rintro m s d2 ⟨p,g,rfl,hp,h3,h4,a5,a4,a3,bn,bm,bl,hK,ae,ab,hM,hg⟩;have aw:=hK.nobj;by_cases au:p<N.length
   ·have az:=hM.out _ ap;have ay:=Ft (U ph) au;have bf:=D1 N.length g;cases hu:U ph p with
    |true=>
     rw[hu]at ay;have ax:=Tu (n:=N.length) (i:=p) g true;have HG:Ad8 (∀q,(if q=p then true else g q)=(w0 q||decide (ph=q)||(decide (q<p+1)&&U ph q))):=fun q=>by
      by_cases h:q=p
      ·simp[h,hu]
      ·rw[if_neg h,hg.out q,show decide (q<p+1)=decide (q<p)from by rw[decide_eq_decide];omega]
     clear hg hu
     repeat' (first|refine Z1 ?_|(refine Z8 ?_;intro κ hκ)|(refine Z4 ?_;clear hκ κ)|(refine Z2 ?_ ?_<;>intro h aa<;>try exact Xp)|refine Z3 ?_|exact⟨⟩|(apply hκ.out;clear hκ κ))
     refine⟨N.length-(p+1),Ad2,p+1,fun q=>if q=p then true else g q,?_⟩
     ((repeat' with_reducible refine And.intro ?_ ?_)<;>first|exact Xq|exact (HG)|exact (Mat.put hM.out Ad2 _)|exact (by rw[Aj])|exact Xs)
    |false=>
     rw[hu]at ay;have HG:Ad8 (∀q,g q=(w0 q||decide (ph=q)||(decide (q<p+1)&&U ph q))):=fun q=>by
      by_cases h:q=p
      ·rw[hg.out q];simp[h,hu]
      ·rw[hg.out q,show decide (q<p+1)=decide (q<p)from by rw[decide_eq_decide];omega]
     clear hg hu
     repeat' (first|refine Z1 ?_|(refine Z8 ?_;intro κ hκ)|(refine Z4 ?_;clear hκ κ)|(refine Z2 ?_ ?_<;>intro h aa<;>try exact Xp)|refine Z3 ?_|exact⟨⟩|(apply hκ.out;clear hκ κ))
     refine⟨N.length-(p+1),Ad2,p+1,g,?_⟩
     ((repeat' with_reducible refine And.intro ?_ ?_)<;>first|exact Xq|exact (HG)|exact Xs)
   ·have hpl:p=N.length:=Ad2;have ai:d2.obj d1.nobj=Gv N.length (E8 N U (l.take (i+1))):=by
     rw[ab,a6.out];exact Tv fun q hq=>by rw[a7.out q,hg.out q,hpl];simp[hq,Bool.or_assoc]
    clear hg ab a7 a6
    repeat' (first|refine Z1 ?_|(refine Z8 ?_;intro κ hκ)|(refine Z4 ?_;clear hκ κ)|(refine Z2 ?_ ?_<;>intro h aa<;>try exact Xp)|refine Z3 ?_|exact⟨⟩|(apply hκ.out;clear hκ κ))
    refine⟨l.length-(i+1),Ad2,i+1,?_⟩
    ((repeat' with_reducible refine And.intro ?_ ?_)<;>first|exact Xq|exact (hM)|exact Xs)
 ·have ba:i=l.length:=Ad2;subst ba;rw[Abn]at ab
  repeat' (first|refine Z1 ?_|(refine Z8 ?_;intro κ hκ)|(refine Z4 ?_;clear hκ κ)|(refine Z2 ?_ ?_<;>intro h aa<;>try exact Xp)|refine Z3 ?_|exact⟨⟩|(apply hκ.out;clear hκ κ))
  first|exact⟨_,rfl,_,M0,rfl,hK,Ad2,ae,am.out,by rw[HU.out];exact ab⟩|exact⟨_,rfl,_,M0,rfl,Ad2,ae,am.out,by rw[HU.out];exact ab⟩|exact⟨_,rfl,_,M0,Ad2,ae,am.out,by rw[HU.out];exact ab⟩|(trace_state;exact⟨_,rfl,_,M0,rfl,hK,Ad2,ae,am.out,by rw[HU.out];exact ab⟩)
theorem GL.sub {N:List Tx}{l l':List RItem}(h:GL N l)(hs:∀x∈l',x∈l)(hl:l'.length<=16):GL N l':=
 ⟨hl,h.nm,fun x hx=>h.msr x (hs x hx),fun x hx=>h.fits x (hs x hx),fun x hx=>h.pos x (hs x hx),fun x hx=>h.va x (hs x hx),fun x hx=>h.ar x (hs x hx)⟩
def Gi (N:List Tx)(U:Nat->Nat->Bool)(l:List RItem):List RItem:=l.filter fun x=>E8 N U l (N.idxOf x.head.pred)
def chS (N:List Tx)(l:List RItem)(idn:Nat)(x:AV)(b:Bool):Prop:=∃M,Dl N l M/\
 (((Gi N (Fb N.length M N.length) l).length=l.length/\b=false)\/
  ((Gi N (Fb N.length M N.length) l).length≠l.length/\b=Cr N l (Gi N (Fb N.length M N.length) l)/\(b=true->∃id c',x=B7 N idn (Gi N (Fb N.length M N.length) l) id c'/\EL (PI N) (Gi N (Fb N.length M N.length) l) c')))
theorem nP {α:Type}{f:α->Bool}{l:List α}{i:Nat}{x:α}(h:l[i]?=some x):(l.take (i+1)).filter f=(l.take i).filter f++if f x=true then [x]else []:=by
 rw[Abq,h,Ac2,Adg];cases hf:f x<;>simp[hf]
theorem J5 (N:List Tx)(l:List RItem)(cs:List AV)(idn idi:Nat)(hG:GL N l)(hE:EL (PI N) l cs)(d:St):
  ACalls Tryz.prog 124 [B7 N idn l idi cs] d fun r d'=>(∃x b,r=tp [x,sc (.bool b)]/\chS N l idn x b/\eK x)/\Keep d d':=by
 have bp:=EL.length Dw hE;have av:=hG.len;have hN:=hG.nm;have bm:Bk N l cs:=(hG.bkm hE).bk av;have a3:=fun d=>X4 N l cs idn idi bm d;refine Z9 41 [.cell 2 62,.tmp 3] Tryz.func124 ?_
 repeat' (first|refine Z1 ?_|(refine Z8 ?_;intro κ hκ)|(refine Z4 ?_;clear hκ κ)|(refine Z2 ?_ ?_<;>intro h ah<;>try exact Xp)|(refine Z6 ?_;intro idn dn ak an ac aa ad ab)|(refine Z5 ?_;refine Xi (a3 _) ?_;rintro _ _ ⟨ow,M0,rfl,ao,ar,bg,a8,aj⟩;(have ap:=ao.nobj;have ai:=ao.obj;(try simp only[Aa,Ab]at ap ai ar)))|refine Z3 ?_|exact⟨⟩|(apply hκ.out;clear hκ κ))
 rename_i d1;have obk:d1.obj d.nobj=[sl idn N.length (N.map str),sl idi l.length cs]:=by rw[ai _ Ad2,Ae Ad6,Am]
 have obr:d1.obj (d.nobj+1)=[nilS,nilS]:=by rw[ai _ Ad2];first|exact Am|simp[Am]
 have ba:Ad8 (Dl N l M0):=a8;generalize a4:Fb N.length M0 N.length=U at aj;have HU:Ad8 _:=a4;have a6:Keep d d1:=(((Keep.refl d).new _).new _).trans ao;clear a8 a4 ao ai a3;generalize ax:E8 N U l=w at aj;have HW:Ad8 _:=ax;clear ax
 refine Ad (fun m s d'=>∃(i id:Nat) (R:List RItem) (c:List AV),m=l.length-i/\i<=l.length/\s 1=ptr d.nobj 0/\s 2=ptr (d.nobj+1) 0/\s 4=fx ow 0 N.length/\s 5=sl id R.length c/\s 12=sl idi l.length cs/\s 13=sc (.int .i64 l.length)/\s 14=sc (.int .i64 i)/\Keep d d'/\d1.nobj<=d'.nobj/\d'.obj ow=Gv N.length w/\d'.obj d.nobj=[sl idn N.length (N.map str),sl idi l.length cs]/\d'.obj (d.nobj+1)=[nilS,nilS]/\Own d d' id R.length/\c.length=R.length*4/\R.length<=i/\Ad8 (R=(l.take i).filter (fun x=>w (N.idxOf x.head.pred))/\EL (PI N) R c)) l.length
  ⟨0,1,[],[],Ad2,Ad2,Ad4,Ad4,Ad4,Ad4,Ad4,Ad4,rfl,a6,Ad2,aj,obk,obr,Own.nil _ _,by simp,by simp,⟨by simp,rfl⟩⟩ ?_
 clear a6 aj obk obr;rintro m s d' ⟨i,id,R,c,rfl,hi,h1,h2,h4,h5,bw,bv,bu,hK,bo,obw,obk,obr,hO,az,br,hA⟩;have bn:=hK.nobj;have bq:=D1 N.length w;by_cases bh:i<l.length
 ·have af:=List.getElem?_eq_getElem bh;obtain⟨au,ih,idb,b,r,a0,hd⟩:=Gp hE af;generalize l[i]=x at hd af au a0;have bf:=Ac1 au;have am:=nP (f:=fun x:RItem=>w (N.idxOf x.head.pred)) af;have ay:=Ft w bf;cases hw:w (N.idxOf x.head.pred)with
  |true=>
   simp only[hw,if_true]at am;rw[hw]at ay;have HA:Ad8 (R++[x]=(l.take (i+1)).filter (fun x=>w (N.idxOf x.head.pred))/\EL (PI N) (R++[x]) (c++[sc (.bool x.out),sc (.int .i64 (N.idxOf x.head.pred:Nat)),sl ih x.head.terms.length (Aw x.head.terms),sl idb x.body.length b])):=⟨by rw[am,<-hA.out.1],EL.append hA.out.2 (EL.single (PI.of au a0))⟩;clear am af hA hw
   repeat' (first|refine Z1 ?_|(refine Z8 ?_;intro κ hκ)|(refine Z4 ?_;clear hκ κ)|(refine Z2 ?_ ?_<;>intro h ah<;>try exact Xp)|(refine Z6 ?_;intro idn dn ak an ac aa ad ab)|refine Z3 ?_|exact⟨⟩|(apply hκ.out;clear hκ κ))
   refine Bj (by first|exact J7) ((hK.new _).put hK.nobj _) (Own.put (Own.new hO _) _ _) (by decide) (by rfl) (az) (by rfl) (by rfl) (by decide) Ad2 Ad2 ?_;intro idn' dn ak an ac aa ad ab;simp only[Ab,Aa]at aa;have eob:∀p,p<d'.nobj->dn.obj p=d'.obj p:=fun p hp=>by rw[ac,Ai Ad2,Ae Ad2]
   refine Z3 ?_
   repeat' (first|refine Z1 ?_|(refine Z8 ?_;intro κ hκ)|(refine Z4 ?_;clear hκ κ)|(refine Z2 ?_ ?_<;>intro h ah<;>try exact Xp)|(refine Z6 ?_;intro idn dn ak an ac aa ad ab)|refine Z3 ?_|exact⟨⟩|(apply hκ.out;clear hκ κ))
   refine⟨l.length-(i+1),Ad2,i+1,idn',R++[x],c++[sc (.bool x.out),sc (.int .i64 (N.idxOf x.head.pred:Nat)),sl ih x.head.terms.length (Aw x.head.terms),sl idb x.body.length b],?_⟩
   ((repeat' with_reducible refine And.intro ?_ ?_)<;>first|exact Xq|exact (HA)|exact ((by simpa using ak))|exact ((by simp[az];omega))|exact (by rw[eob _ Ad2,obw])|exact (by rw[eob _ Ad2,obk])|exact (by rw[eob _ Ad2,obr])|exact Xs)
  |false=>
   simp only[hw,Ab7,if_false,Abv]at am;rw[hw]at ay;have HA:Ad8 (R=(l.take (i+1)).filter (fun x=>w (N.idxOf x.head.pred))/\EL (PI N) R c):=⟨by rw[am,<-hA.out.1],hA.out.2⟩;clear am af hA hw
   repeat' (first|refine Z1 ?_|(refine Z8 ?_;intro κ hκ)|(refine Z4 ?_;clear hκ κ)|(refine Z2 ?_ ?_<;>intro h ah<;>try exact Xp)|(refine Z6 ?_;intro idn dn ak an ac aa ad ab)|refine Z3 ?_|exact⟨⟩|(apply hκ.out;clear hκ κ))
   refine⟨l.length-(i+1),Ad2,i+1,id,R,c,?_⟩
   ((repeat' with_reducible refine And.intro ?_ ?_)<;>first|exact Xq|exact (HA)|exact (Own.put (Own.new hO _) _ _)|exact (by rw[Ai Ad2,Ae Ad2,obw])|exact (by rw[Ai Ad2,Ae Ad2,obk])|exact (by rw[Ai Ad2,Ae Ad2,obr])|exact Xs)
 ·have bl:i=l.length:=Ad2;subst bl;rw[Abn]at hA;have a5:R=Gi N (Fb N.length M0 N.length) l:=by rw[hA.out.1,Gi,HU.out,HW.out]
  have HR:Ad8 _:=a5;have HE:Ad8 (EL (PI N) R c):=hA.out.2;have a9:GL N R:=hG.sub (fun x hx=>(Adi.1 (by rw[<-hA.out.1];exact hx)).1) Ad2;have aw:=fun d=>Gj N l R cs c idn idi id (hG.bkm hE) (a9.bkm HE.out).bj d;clear hA a5 a9;by_cases ae:R.length=l.length
  ·have bi:((R.length:Int)==(l.length:Int))=true:=by simp[ae]
   have HC:Ad8 (∀x,chS N l idn x false):=fun x=>⟨M0,ba.out,.inl ⟨by rw[<-HR.out];exact ae,rfl⟩⟩;clear aw ae
   repeat' (first|refine Z1 ?_|(refine Z8 ?_;intro κ hκ)|(refine Z4 ?_;clear hκ κ)|(refine Z2 ?_ ?_<;>intro h ah<;>try exact Xp)|(refine Z6 ?_;intro idn dn ak an ac aa ad ab)|refine Z3 ?_|exact⟨⟩|(apply hκ.out;clear hκ κ))
   exact⟨_,rfl,⟨_,false,rfl,HC.out _,_,_,_,_,_,_,rfl⟩,Xs⟩
  ·have bi:((R.length:Int)==(l.length:Int))=false:=by simpa using (by omega:¬(R.length:Int)=l.length)
   have HC:Ad8 (∀x,(Cr N l R=true->x=B7 N idn R id c)->chS N l idn x (Cr N l R)):=fun x hx=>⟨M0,ba.out,.inr ⟨by rw[<-HR.out];exact ae,by rw[<-HR.out],fun hb=>⟨id,c,by rw[<-HR.out];exact hx hb,by rw[<-HR.out];exact HE.out⟩⟩⟩;generalize Cr N l R=bb at aw HC;clear ae
   repeat' (first|refine Z1 ?_|(refine Z8 ?_;intro κ hκ)|(refine Z4 ?_;clear hκ κ)|(refine Z2 ?_ ?_<;>intro h ah<;>try exact Xp)|(refine Z6 ?_;intro idn dn ak an ac aa ad ab)|(refine Z5 ?_;refine Xi (aw _) ?_;rintro _ _ ⟨⟨x7,rfl,be,⟨id71,n71,c71,id72,n72,c72,rfl⟩⟩,a7⟩;(have bd:=a7.nobj;have bc:=a7.obj))|refine Z3 ?_|exact⟨⟩|(apply hκ.out;clear hκ κ))
   exact⟨_,rfl,⟨_,bb,rfl,HC.out _ be,_,_,_,_,_,_,rfl⟩,Xs⟩
end Go.Proofs.YtmoeoppbmhfbpabGreatDoorH
