import Derived.Test.YtmoeoppbmhfbpabGreatDoorHImpB
import Derived.Test.YtmoeoppbmhfbpabGreatDoorHSpaE
import Derived.Test.YtmoeoppbmhfbpabGreatDoorHOptE
set_option linter.all false
namespace Go.Proofs.YtmoeoppbmhfbpabGreatDoorH
set_option maxHeartbeats 64000000
open Go.Abs
def gT:Tx->Int
 |[]=>0
 |b::r=>if b=35 then 1000+(Ap r).2 else (Ap (b::r)).2
theorem Wq (b:UInt8)(r:Tx):gT (b::r)=if b=35 then 1000+(Ap r).2 else (Ap (b::r)).2:=rfl
theorem Td (v:Tx):gT (35::v)=1000+(Ap v).2:=by rw[Wq,if_pos rfl]
def GT (t:Tx):Prop:=(Af t=false/\VT t/\DT t)\/∃v,t=35::v/\Af v=true/\VT v
theorem yD {v:Tx}(h:VT v)(hv:Af v=true):∃b,v=[b]/\A3 b.toNat=true:=by
 rcases h with h|⟨h1,h2⟩
 ·exact h
 ·exfalso;cases v with
  |nil=>exact h1 rfl
  |cons b r=>
   have hd:=h2 b (by simp);have hl:A3 b.toNat=true:=hv;unfold Ax at hd;unfold A3 at hl;simp at hd hl;omega
theorem yE {v:Tx}(h:VT v)(hv:Af v=false):v≠[]/\∀b∈v,Ax b.toNat=true:=by
 rcases h with⟨b,rfl,h⟩|h
 ·have:Af [b]=A3 b.toNat:=rfl;rw[this,h]at hv;cases hv
 ·exact h
theorem dF {t:Tx}(h:VT t)(hv:Af t=false):gT t=(Ap t).2:=by
 obtain⟨h1,h2⟩:=yE h hv;cases t with
 |nil=>exact absurd rfl h1
 |cons b r=>
  rw[Wq,if_neg];rintro rfl;have:=h2 35 (by simp);revert this;decide
theorem Qt {v:Tx}(h:VT v)(hv:Af v=true):0<=(Ap v).2/\(Ap v).2<26:=by
 obtain⟨b,rfl,hl⟩:=yD h hv;rw[Ef hl];unfold A3 at hl;simp at hl;simp only;omega
theorem gX {t:Tx}(h:DT t)(hv:Af t=false):Lib.itoa (Ap t).2=t/\0<=(Ap t).2/\(Ap t).2<=999:=by
 rcases h with h|⟨-,h⟩
 ·rw[h]at hv;cases hv
 ·exact h
theorem sE {t:Tx}(h:GT t):∃n:Nat,gT t=(n:Int)/\n<1026:=by
 rcases h with⟨h1,h2,h3⟩|⟨v,rfl,h1,h2⟩
 ·rw[dF h2 h1];obtain⟨-,e1,e2⟩:=gX h3 h1;exact⟨(Ap t).2.toNat,Ad2,Ad2⟩
 ·obtain⟨e1,e2⟩:=Qt h2 h1;refine⟨(1000+(Ap v).2).toNat,?_,Ad2⟩;rw[Td];omega
theorem sF {t:Tx}(h:VT t):gT (cZ t)=(Uu (Ap t)).2:=by
 unfold cZ Uu;rw[Cy];cases hv:Af t with
 |true=>rw[if_pos rfl,if_pos rfl,Td]
 |false=>rw[if_neg (by simp),if_neg (by simp)];exact dF h hv
theorem zC {t:Tx}(h:VT t)(hd:DT t):GT (cZ t):=by
 unfold cZ;cases hv:Af t with
 |true=>rw[if_pos rfl];exact .inr ⟨t,rfl,hv,h⟩
 |false=>rw[if_neg (by simp)];exact .inl ⟨hv,h,hd⟩
def Sd (N:List Tx)(a:RAtom):Nat:=N.idxOf a.pred+(if a.nt=true then N.length else 0)
def eA (N:List Tx)(a:RAtom):Nat×Ca:=(Sd N a,D7 (a.terms.map gT))
structure AtI (N:List Tx)(ar:Tx->Nat)(a:RAtom):Prop where
 mem:a.pred∈N
 len:a.terms.length=ar a.pred
 le3:a.terms.length<=3
structure GA (N:List Tx)(ar:Tx->Nat)(a:RAtom):Prop extends AtI N ar a where
 gt:∀t∈a.terms,GT t
structure RuI (N:List Tx)(ar:Tx->Nat)(y:RItem):Prop where
 head:AtI N ar y.head
 hnt:y.head.nt=false
 body:∀b∈y.body,AtI N ar b
 vt:∀t∈y.head.terms,VT t/\DT t
 vb:∀b∈y.body,∀t∈b.terms,VT t/\DT t
 safe:∀v∈y.head.terms,Af v=true->∃b∈y.body,v∈b.terms
theorem Kx (N:List Tx)(y:RItem):(H0 N y).body=y.body.map fun b=>F9 N.length (Fh N b):=by simp[H0,tI,Bz]
theorem lC (N:List Tx)(b:RAtom):(F9 (N.length:Int) (Fh N b)).a.p=(Sd N b:Nat):=by
 unfold F9 Fh Ez Sd;simp only;cases h:b.nt with
 |true=>simp
 |false=>simp
theorem Pg (N:List Tx)(b:RAtom):(F9 (N.length:Int) (Fh N b)).a.ts=b.terms.map Ap:=by
 unfold F9 Fh Ez;simp only;split<;>rfl
theorem zE {N:List Tx}{ar:Tx->Nat}{b:RAtom}(h:AtI N ar b)(ht:∀t∈b.terms,VT t/\DT t):GA N ar (Aa0 b):=
 ⟨⟨h.mem,by show (b.terms.map cZ).length=_;rw[Ac9];exact h.len,by show (b.terms.map cZ).length<=3;rw[Ac9];exact h.le3⟩,fun t hm=>by
  obtain⟨u,hu,rfl⟩:=Acm.1 hm
  exact zC (ht u hu).1 (ht u hu).2⟩
theorem zI {N:List Tx}{b:RAtom}(ht:∀t∈b.terms,VT t):eA N (Aa0 b)=((F9 (N.length:Int) (Fh N b)).a.p.toNat,Cq (Ho (F9 (N.length:Int) (Fh N b)).a)):=by
 unfold eA;rw[lC,Adk];refine Prod.ext rfl ?_;show D7 ((b.terms.map cZ).map gT)=D7 (((F9 (N.length:Int) (Fh N b)).a.ts.map Uu).map (·.2));rw[Pg,Abu,Abu,Abu];congr 1;exact Aco fun t hm=>sF (ht t hm)
set_option maxRecDepth 100000
theorem fK {t:Tx}(h:(Au t).1=0):∀x∈Cj t,∀y∈Cj t,∀a∈Ag x,∀b∈Ag y,a.pred=b.pred->a.terms.length=b.terms.length:=by
 have aa:∀i,i<(Cj t).length->Ih (Cj t) i=false:=by
  unfold Au at h;split at h
  ·simp at h
  split at h
  ·simp at h
  unfold Ci at h;split at h
  ·simp at h
  ·rename_i hk;exact Jk hk
 have key:∀(i j:Nat) (x y:RItem) (a b:RAtom),(Cj t)[i]?=some x->(Cj t)[j]?=some y->i<j->a∈Ag x->b∈Ag y->a.pred=b.pred->a.terms.length=b.terms.length:=by
  intro i j x y a b hi hj ac ha hb he;have h1:=aa j (List.getElem?_eq_some_iff.1 hj).1;unfold Ih at h1;rw[hj]at h1;simp only[Acy,List.mem_range]at h1;obtain⟨k,hk⟩:=List.getElem?_of_mem hb;have h2:=h1 k (List.getElem?_eq_some_iff.1 hk).1;unfold Sy at h2;rw[hk]at h2;simp only[Acb,not_exists,not_and]at h2
  have h3:=h2 a (by
   unfold Fa Kg;refine Ack.2 (.inl (Acj.2 ⟨x,?_,ha⟩))
   exact Abh (i:=i) (by rw[List.getElem?_take,if_pos ac];exact hi))
  unfold clash at h3;simp[he]at h3;exact h3
 intro x hx y hy a ha b hb he;obtain⟨i,hi⟩:=List.getElem?_of_mem hx;obtain⟨j,hj⟩:=List.getElem?_of_mem hy;rcases Nat.lt_trichotomy i j with ab|rfl|ad
 ·exact key i j x y a b hi hj ab ha hb he
 ·rw[hi]at hj;cases hj;exact V1 h x hx a ha b hb he
 ·exact (key j i y x b a hj hi ad hb ha he.symm).symm
def Ux (l:List RItem)(ar:Tx->Nat):Prop:=∀x∈l,∀a∈Ag x,a.terms.length=ar a.pred
theorem Aa2 {t:Tx}(h:(Au t).1=0):∃ar,Ux (Cj t) ar:=by
 refine⟨fun p=>Classical.epsilon fun n=>∃x∈Cj t,∃a∈Ag x,a.pred=p/\a.terms.length=n,fun x hx a ha=>?_⟩;have:=Classical.epsilon_spec (p:=fun n=>∃x∈Cj t,∃b∈Ag x,b.pred=a.pred/\b.terms.length=n) ⟨_,x,hx,a,ha,rfl,rfl⟩;obtain⟨y,hy,b,hb,e1,e2⟩:=this;rw[fK h x hx y hy a ha b hb e1.symm];exact e2
theorem Aap {t:Tx}{N:List Tx}{l:List RItem}{cs:List AV}{ar:Tx->Nat}(h:Right t N l cs)(hA:Ux l ar){x:RItem}(hx:x∈l)(ho:x.out=false):RuI N ar x:=by
 have hi:=h.items;have ad:x∈Cj t:=by rw[hi];exact hx
 have hf:=R6 h.ok x ad;have ac:=h.wi x hx;have hw:=hf.w.2.2 ho;have aa:∀a,a=x.head\/a∈x.body->a∈Ag x:=fun a ha=>by
  rcases ha with rfl|ha<;>simp[Ag,ho, *]
 have ab:∀a∈Ag x,a.terms.length=ar a.pred:=hA x hx;refine⟨⟨ac.mem,ab _ (aa _ (.inl rfl)),hw.1.2.2.1⟩,hw.2.1,fun b hb=>⟨(ac.wa b hb).1,ab _ (aa _ (.inr hb)),(hw.2.2.2 b hb).2.2.1⟩,fun w hm=>⟨hf.va _ (aa _ (.inl rfl)) w hm,hf.dt _ (aa _ (.inl rfl)) w hm⟩,fun b hb w hm=>⟨hf.va _ (aa _ (.inr hb)) w hm,hf.dt _ (aa _ (.inr hb)) w hm⟩,fun v hm hv=>?_⟩;obtain⟨c0,p,hH,-⟩:=hf.rule ho;obtain⟨a,ha,-,ae⟩:=hH.saf v hv (.inl hm);exact⟨a,ha,ae⟩
def arN (N:List Tx)(ar:Tx->Nat)(k:Nat):Nat:=ar (N.getD (if k<N.length then k else k-N.length) [])
theorem iJ {N:List Tx}{ar:Tx->Nat}{a:RAtom}(h:a.pred∈N):arN N ar (Sd N a)=ar a.pred:=by
 have hl:=Ac1 h;have e:N.getD (N.idxOf a.pred) []=a.pred:=by
  rw[List.getD_eq_getElem?_getD,List.getElem?_eq_getElem hl,Option.getD_some];exact Ac0 hl
 unfold arN Sd;cases hn:a.nt with
 |true=>
  simp only[if_true];rw[if_neg Ad2,Nat.add_sub_cancel,e]
 |false=>
  simp only[Ab7,if_false,Abi];rw[if_pos hl,e]
theorem wD {w:Tx}(hv:VT w)(hd:DT w)(h:(Ap w).1=false):∃n:Nat,(Ap w).2=(n:Int)/\n<1026:=by
 rw[Cy]at h;obtain⟨-,e1,e2⟩:=gX hd h;exact⟨(Ap w).2.toNat,Ad2,Ad2⟩
theorem nR {w:Tx}(hv:VT w)(hd:DT w):0<=(Ap w).2/\(Ap w).2<=999:=by
 cases h:Af w with
 |true=>have:=Qt hv h;omega
 |false=>obtain⟨-,e1,e2⟩:=gX hd h;omega
theorem qL {N:List Tx}{a:RAtom}(h:a.pred∈N):Sd N a<2*N.length:=by
 have:=Ac1 h;unfold Sd;split<;>omega
theorem Yl {ts:List Tx}{v:Int}(h:(true,v)∈ts.map Ap):∃w∈ts,Af w=true/\(Ap w).2=v:=by
 obtain⟨w,hw,e⟩:=Acm.1 h;refine⟨w,hw,?_,by rw[e]⟩;rw[<-Cy,e]
theorem Yv (n:Int)(l:Lit):(F9 n l).neg=false:=by
 unfold F9;split
 ·rfl
 ·rename_i h;simpa using h
theorem Aao {N:List Tx}{ar:Tx->Nat}{y:RItem}(h:RuI N ar y)(h5:y.body.length<=5):RW (2*N.length) (arN N ar) (H0 N y):=by
 have hb:∀l∈(H0 N y).body,∃b∈y.body,l=F9 (N.length:Int) (Fh N b):=fun l hl=>by
  rw[Kx]at hl;obtain⟨b,hb,rfl⟩:=Acm.1 hl;exact⟨b,hb,rfl⟩
 have af:Sd N y.head=N.idxOf y.head.pred:=by unfold Sd;rw[h.hnt];simp
 have ad:(H0 N y).head.p=((Sd N y.head:Nat):Int):=by rw[af];rfl
 have ac:(H0 N y).head.ts=y.head.terms.map Ap:=rfl;refine⟨⟨by rw[ac,Ac9];exact h.head.le3,⟨_,ad,qL h.head.mem⟩,by rw[Kx,Ac9];omega,fun l hl=>?_,fun l hl=>?_⟩,fun l hl hn=>?_,?_,fun l hl=>?_,fun t ht hc=>?_,fun v hv=>?_,fun l hl v hv=>?_,fun v hv=>?_⟩
 ·obtain⟨b,aa,rfl⟩:=hb l hl;rw[Pg,Ac9];exact (h.body b aa).le3
 ·obtain⟨b,aa,rfl⟩:=hb l hl;exact⟨_,lC N b,qL (h.body b aa).mem⟩
 ·obtain⟨b,aa,rfl⟩:=hb l hl;rw[Yv]at hn;cases hn
 ·rw[ac,Ac9,ad,Adk,iJ h.head.mem];exact h.head.len
 ·obtain⟨b,aa,rfl⟩:=hb l hl;rw[Pg,Ac9,lC,Adk,iJ (h.body b aa).mem];exact (h.body b aa).len
 ·rw[ac]at ht;obtain⟨w,hw,rfl⟩:=Acm.1 ht;exact wD (h.vt w hw).1 (h.vt w hw).2 hc
 ·rw[ac]at hv;obtain⟨w,hw,ab,rfl⟩:=Yl hv;exact Qt (h.vt w hw).1 ab
 ·obtain⟨b,aa,rfl⟩:=hb l hl;rw[Pg]at hv;obtain⟨w,hw,ab,rfl⟩:=Yl hv;exact Qt (h.vb b aa w hw).1 ab
 ·have hv:Bc (H0 N y).head.ts v=true:=by
   rcases hv with hv|⟨l,hl,hn,-⟩
   ·exact hv
   ·obtain⟨b,aa,rfl⟩:=hb l hl;rw[Yv]at hn;cases hn
  rw[hasV_iff,ac]at hv;obtain⟨w,hw,ab,rfl⟩:=Yl hv;obtain⟨b,aa,ae⟩:=h.safe w hw ab;refine⟨F9 (N.length:Int) (Fh N b),by rw[Kx];exact Acm.2 ⟨b,aa,rfl⟩,Yv _ _,?_⟩;rw[hasV_iff,Pg];refine Acm.2 ⟨w,ae,?_⟩;rw[<-ab,<-Cy]
theorem qB {ts:List Tx}(h:∀t∈ts,VT t/\DT t):Sml (ts.map Ap):=fun t ht=>by
 obtain⟨w,hw,rfl⟩:=Acm.1 ht;have:=nR (h w hw).1 (h w hw).2;omega
def cX (N:List Tx)(l:List RItem)(i:Nat)(x:RItem)(b:Bool):Prop:=oL ((oth l i l.length).map (H0 N)) (Qe N x) (H0 N x).head.p.toNat (Cq (Ho (H0 N x).head)) b
def nB (N:List Tx)(l:List RItem)(n:Nat):Prop:=∀i y,i<n->l[i]?=some y->y.out=false->Cr N l (Ct i [] l)=true->cX N l i y false
def chR (N:List Tx)(l:List RItem)(idn:Nat)(x:AV)(b:Bool):Prop:=
 (b=false/\nB N l l.length)\/(b=true/\∃i y,l[i]?=some y/\y.out=false/\Cr N l (Ct i [] l)=true/\cX N l i y true/\nB N l i/\∃id c',x=B7 N idn (Ct i [] l) id c'/\EL (PI N) (Ct i [] l) c')
theorem GL.less {N:List Tx}{l:List RItem}(h:GL N l){i:Nat}:GL N (Ct i [] l):=by
 have hm:∀y∈Ct i [] l,y∈l:=fun y hy=>by
  rcases E4 hy with h|h
  ·exact h
  ·cases h
 exact⟨Abc (Nh l) h.len,h.nm,fun y hy=>h.msr y (hm y hy),fun y hy=>h.fits y (hm y hy),fun y hy=>h.pos y (hm y hy),fun y hy=>h.va y (hm y hy),fun y hy=>h.ar y (hm y hy)⟩
theorem Ll (N:List Tx)(l:List RItem)(cs:List AV)(idn idi:Nat)(ar:Nat->Nat)(hG:GL N l)(hI:BkI N l ar)(hE:EL (PI N) l cs)(A:St):
  ACalls Tryz.prog 126 [B7 N idn l idi cs] A fun r A'=>(∃x b,r=tp [x,sc (.bool b)]/\chR N l idn x b/\eK x)/\Keep A A':=by
 have bh:=EL.length Dw hE;have ax:=hG.len;have bb:Bk N l cs:=(hG.bkm hE).bk ax;have ak:=fun i A=>Sa N l [] cs [] idn idi 1 i hE rfl Ad2 (by simp) A;have ai:=fun i c' id' (a9:EL (PI N) (Ct i [] l) c') A=>Gj N l (Ct i [] l) cs c' idn idi id' (hG.bkm hE) (hG.less.bkm a9).bj A;simp only[Ab9]at ak;refine Z9 37 [.cell 2 62,.tmp 3] Tryz.func126 ?_
 repeat' (first|refine Z1 ?_|(refine Z8 ?_;intro κ hκ)|(refine Z4 ?_;clear hκ κ)|(refine Z2 ?_ ?_<;>intro h ac<;>try exact Xp)|refine Z3 ?_|exact⟨⟩|(apply hκ.out;clear hκ κ))
 refine Ad (fun m s A'=>∃(i:Nat),m=l.length-i/\i<=l.length/\s 1=ptr A.nobj 0/\s 2=ptr (A.nobj+1) 0/\s 10=sl idi l.length cs/\s 11=sc (.int .i64 l.length)/\s 12=sc (.int .i64 i)/\Keep A A'/\A.nobj+1<A'.nobj/\A'.obj A.nobj=[sl idn N.length (N.map str),sl idi l.length cs]/\A'.obj (A.nobj+1)=[nilS,nilS]/\Ad8 (nB N l i)) l.length
  ⟨0,Ad2,Ad2,Ad4,Ad4,Ad4,Ad4,rfl,Xs,Ad6,by rw[Ae Ad6,Am],by first|exact Am|simp[Am],fun i y h=>Ad2⟩ ?_
 rintro m s A' ⟨i,rfl,hi,h1,h2,bn,bm,bl,hK,bg,be,bd,hA⟩;have bf:=hK.nobj;by_cases a7:i<l.length
 ·have aa:=List.getElem?_eq_getElem a7;obtain⟨a6,ih,idb,b,r,ba,hd⟩:=Gp hE aa;generalize l[i]=x at hd aa a6 ba;have af:(x.out=false->Cr N l (Ct i [] l)=true->cX N l i x false)->Ad8 (nB N l (i+1)):=fun h j y hj hy ho hb=>by
   rcases Abe j i with h'|h'
   ·exact hA.out j y h' hy ho hb
   ·have:j=i:=Ad2;subst this;rw[aa]at hy;cases hy;exact h ho hb
  cases aj:x.out with
  |true=>
   rw[aj]at hd;have HA:=af (fun h=>by rw[aj]at h;cases h);clear af hA aa
   repeat' (first|refine Z1 ?_|(refine Z8 ?_;intro κ hκ)|(refine Z4 ?_;clear hκ κ)|(refine Z2 ?_ ?_<;>intro h ac<;>try exact Xp)|refine Z3 ?_|exact⟨⟩|(apply hκ.out;clear hκ κ))
   refine⟨l.length-(i+1),Ad2,i+1,?_⟩
   ((repeat' with_reducible refine And.intro ?_ ?_)<;>first|exact Xq|exact (HA)|exact Xs)
  |false=>
   have a4:=fun A=>Uo N l cs idn idi i ar x bb hI aa aj A;have ak:=ak i;have ai:=ai i;have HG:Ad8 (l[i]?=some x):=aa;have ay:Ad8 _:=af;have bc:Ad8 (x.out=false):=aj;rw[aj]at hd;cases ah:Cr N l (Ct i [] l)with
   |false=>
    rw[ah]at ai;have HA:=af (fun _ h=>by rw[ah]at h;cases h);clear af hA aa ah ay a4
    repeat' (first|refine Z1 ?_|(refine Z8 ?_;intro κ hκ)|(refine Z4 ?_;clear hκ κ)|(refine Z2 ?_ ?_<;>intro h ac<;>try exact Xp)|(refine Z5 ?_;first|(refine Xi (ak _) ?_;rintro _ _ ⟨⟨id6,c6,rfl,ao⟩,an⟩;(have ae:=an.nobj;have ad:=an.obj;(try simp only[Ab,Aa,Ah]at ae ad)))|(refine Xi (ai c6 id6 ao _) ?_;rintro _ _ ⟨⟨x7,rfl,a0,⟨id71,n71,c71,id72,n72,c72,rfl⟩⟩,am⟩;(have aw:=am.nobj;have au:=am.obj)))|refine Z3 ?_|exact⟨⟩|(apply hκ.out;clear hκ κ))
    refine⟨l.length-(i+1),Ad2,i+1,?_⟩
    ((repeat' with_reducible refine And.intro ?_ ?_)<;>first|exact Xq|exact (HA)|exact Xs)
   |true=>
    rw[ah]at ai;have a5:Ad8 (Cr N l (Ct i [] l)=true):=ah;clear af aa ah
    repeat' (first|refine Z1 ?_|(refine Z8 ?_;intro κ hκ)|(refine Z4 ?_;clear hκ κ)|(refine Z2 ?_ ?_<;>intro h ac<;>try exact Xp)|(refine Z5 ?_;first|(refine Xi (ak _) ?_;rintro _ _ ⟨⟨id6,c6,rfl,ao⟩,an⟩;(have ae:=an.nobj;have ad:=an.obj;(try simp only[Ab,Aa,Ah]at ae ad)))|(refine Xi (ai c6 id6 ao _) ?_;rintro _ _ ⟨⟨x7,rfl,a0,⟨id71,n71,c71,id72,n72,c72,rfl⟩⟩,am⟩;(have aw:=am.nobj;have au:=am.obj))|(refine Xi (a4 _) ?_;rintro _ _ ⟨bi,rfl,ab,a3⟩;(have av:=a3.nobj;have ap:=a3.obj;have az:Ad8 (cX N l i x bi):=ab;clear ab;(try simp only[Ab,Aa]at av ap))))|refine Z3 ?_|exact⟨⟩|(apply hκ.out;clear hκ κ))
    ·have ab:=az.out;rw[h]at ab;exact⟨_,rfl,⟨_,true,rfl,.inr ⟨rfl,i,x,HG.out,bc.out,a5.out,ab,hA.out,id6,c6,a0 rfl,ao⟩,_,_,_,_,_,_,rfl⟩,Xs⟩
    ·have ab:=az.out;rw[h]at ab;have HA:=ay.out fun _ _=>ab;clear ab az ay HG a5 hA;refine⟨l.length-(i+1),Ad2,i+1,?_⟩
     ((repeat' with_reducible refine And.intro ?_ ?_)<;>first|exact Xq|exact (HA)|exact Xs)
 ·have a8:i=l.length:=Ad2;subst a8
  repeat' (first|refine Z1 ?_|(refine Z8 ?_;intro κ hκ)|(refine Z4 ?_;clear hκ κ)|(refine Z2 ?_ ?_<;>intro h ac<;>try exact Xp)|refine Z3 ?_|exact⟨⟩|(apply hκ.out;clear hκ κ))
  exact⟨_,rfl,⟨_,false,rfl,.inl ⟨rfl,hA.out⟩,_,_,_,_,_,_,rfl⟩,Xs⟩
structure RtL (N:List Tx)(ar:Tx->Nat)(l:List RItem):Prop where
 gl:GL N l
 b5:∀x∈l,x.body.length<=5
 ru:∀x∈l,x.out=false->RuI N ar x
 wi:∀x∈l,WI N x
 wit:∀x∈l,Bv x
theorem zJ {N:List Tx}{l:List RItem}{ar:Tx->Nat}(h5:∀y∈l,y.body.length<=5)(h:∀y∈l,y.out=false->RuI N ar y):BkI N l (arN N ar):=by
 refine⟨h5,fun y hy ho=>Aao (h y hy ho) (h5 y hy),fun y hy ho=>?_,fun y hy ho a ha=>?_⟩
 ·have hr:=h y hy ho;refine⟨qB hr.vt,fun k hk=>?_⟩;rw[Kx]at hk;obtain⟨b,hb,rfl⟩:=Acm.1 hk;rw[Pg];exact qB (hr.vb b hb)
 ·have hr:=h y hy ho;unfold Qe at ha;rw[Kx,Abu]at ha;obtain⟨b,hb,rfl⟩:=Acm.1 ha;have e:=zI (N:=N) (b:=b) fun t ht=>(hr.vb b hb t ht).1;have hg:=zE (hr.body b hb) (hr.vb b hb);unfold eA at e;simp only[Prod.mk.injEq]at e;have e1:(Ho (F9 (N.length:Int) (Fh N b)).a).p.toNat=Sd N b:=by
   show (F9 (N.length:Int) (Fh N b)).a.p.toNat=_;rw[lC,Adk]
  show Sh _ (Ho (F9 (N.length:Int) (Fh N b)).a).p.toNat (Cq (Ho (F9 (N.length:Int) (Fh N b)).a));rw[e1,<-e.2];refine⟨_,rfl,?_,fun z hz=>?_⟩
  ·rw[Ac9,iJ (hr.body b hb).mem];exact hg.len
  ·obtain⟨u,hu,rfl⟩:=Acm.1 hz;exact sE (hg.gt u hu)
theorem RtL.bki {N:List Tx}{ar:Tx->Nat}{l:List RItem}(h:RtL N ar l):BkI N l (arN N ar):=zJ h.b5 h.ru
theorem Aac {t:Tx}(h1:DT t)(h2:Ia t)(h3:t.length<=1000)(h4:VT t):UT t:=by
 refine⟨h1,h2,h3,fun hv=>?_⟩;rcases h4 with⟨b,rfl,hb⟩|⟨h5,h6⟩
 ·simp only[A3,Abj,Adx]at hb;refine⟨b.toNat-65,Ad2,?_⟩;have:=Dk (k:=((b.toNat-65:Nat):Int)) Ad2 Ad2;have e:(Cl ((b.toNat-65:Nat):Int)).toNat=b.toNat:=Ad2;rw[UInt8.toNat_inj.1 e]
 ·cases t with
  |nil=>exact absurd rfl h5
  |cons b r=>
   have h7:=h6 b (by simp);have h8:A3 b.toNat=true:=hv;simp only[A3,Ax,Abj,Adx]at h7 h8;omega
theorem Right.rt {t:Tx}{N:List Tx}{l:List RItem}{cs:List AV}(h:Right t N l cs){ar:Tx->Nat}(hA:Ux l ar):RtL N ar l:=by
 have hf:∀x∈l,Fine x:=fun x hx=>R6 h.ok x (by rw[h.items];exact hx);have h5:∀y∈l,y.body.length<=5:=fun y hy=>(h.wi y hy).body;refine⟨⟨h.bk.len,h.bk.nm,fun x hx=>?_,h.bk.fits,h.bk.pos,fun x hx=>(hf x hx).va,fun x hx a ha b hb=>V1 h.ok x (by rw[h.items];exact hx) a (Ay (.inr ha)) b (Ay (.inr hb))⟩,h5,fun x hx ho=>Aap h hA hx ho,h.wi,h.wit⟩;have hw:=h.wi x hx;have hs:=hw.short;refine⟨hw.out,by have:=hw.body;omega,hw.mem,hs.1.1,fun a ha=>?_⟩;have ad:=h.wit x hx;have ho:x.out=false:=by
  cases ho:x.out with
  |false=>rfl
  |true=>simp[Ag,ho,hw.out ho]at ha
 have aa:a=x.head\/a∈x.body:=by simpa[Ag,ho]using ha
 obtain⟨w1,w2,w3,w4⟩:=ad.2.2 ho;have ab:C9 a:=by rcases aa with rfl|aa;exact w1;exact w4 a aa
 have ac:short a:=by rcases aa with rfl|aa;exact hs.1;exact hs.2 a aa
 exact⟨ab.2.2.1,ac.1,fun t ht=>Aac ((hf x hx).dt a ha t ht) (ab.2.2.2 t ht) (ac.2.2 t ht) ((hf x hx).va a ha t ht)⟩
theorem RtL.sub {N:List Tx}{ar:Tx->Nat}{l l':List RItem}(h:RtL N ar l)(hs:∀x∈l',x∈l)(hl:l'.length<=16):RtL N ar l':=
 ⟨⟨hl,h.gl.nm,fun x hx=>h.gl.msr x (hs x hx),fun x hx=>h.gl.fits x (hs x hx),fun x hx=>h.gl.pos x (hs x hx),fun x hx=>h.gl.va x (hs x hx),fun x hx=>h.gl.ar x (hs x hx)⟩,fun x hx=>h.b5 x (hs x hx),fun x hx=>h.ru x (hs x hx),fun x hx=>h.wi x (hs x hx),fun x hx=>h.wit x (hs x hx)⟩
theorem RtL.less {N:List Tx}{ar:Tx->Nat}{l:List RItem}(h:RtL N ar l)(i:Nat):RtL N ar (Ct i [] l):=
 h.sub (fun x hx=>by rcases E4 hx with h|h;exact h;cases h) (Abc (Nh l) h.gl.len)
theorem oQ {x:RItem}{k:Nat}(h:Bv x)(ho:x.out=false):Bv (Gx x k):=by
 obtain⟨w1,w2,w3,w4⟩:=h.2.2 ho;exact⟨h.1,(fun e=>by cases e),fun _=>⟨w1,w2,Abc (Ac7 _ _) w3,fun a ha=>w4 a (Ada ha)⟩⟩
theorem Aaa {N:List Tx}{x:RItem}{k:Nat}(h:WI N x)(hw:Bv x)(ho:x.out=false):WI N (Gx x k):=by
 have ac:=oQ (k:=k) hw ho;have ab:∀a,a∈Ag (Gx x k)->WA N (Ba x) a->WA N (Ba (Gx x k)) a:=fun a ha hA=>⟨hA.1,hA.2.1,hA.2.2.1,hA.2.2.2.1,fun w hm=>⟨(hA.2.2.2.2 w hm).1,(hA.2.2.2.2 w hm).2.1,fun hv=>K8 ac ha hm hv⟩⟩;have aa:∀a∈(Gx x k).body,a∈x.body:=fun a ha=>Ada ha;exact⟨Q3 h.fits,⟨h.short.1,fun a ha=>h.short.2 a (aa a ha)⟩,fun a ha=>h.va a (J4 ho ha),h.vh,fun a ha=>h.vb a (aa a ha),h.mem,Abc (Ac7 _ _) h.body,(fun e=>by cases e),fun _=>⟨(h.head ho).1,ab _ (Ay (.inl ⟨rfl,rfl⟩)) (h.head ho).2⟩,fun a ha=>ab a (Ay (.inr ha)) (h.wa a (aa a ha))⟩
theorem R4 {y:RItem}(hs:Eb y=true)(hu:∀a∈Ag y,∀t∈a.terms,UT t){a:RAtom}(ha:a∈Ag y){t:Tx}(ht:t∈a.terms)(hv:Af t=true):∃b∈y.body,b.nt=false/\t∈b.terms:=by
 unfold Eb at hs;have:=Acy.1 (by simpa using hs:(Ag y).any (fun a=>a.terms.any fun w=>(Ap w).1&&!Et y (Ap w).2)=false) a ha;have:=Acy.1 (by simpa using this:a.terms.any (fun w=>(Ap w).1&&!Et y (Ap w).2)=false) t ht;rw[Cy,hv]at this;have hb:Et y (Ap t).2=true:=by simpa using this
 unfold Et at hb;obtain⟨b,ac,hb⟩:=Acb.1 hb;simp only[Abj,Adl,Acb]at hb;obtain⟨hnt,u,ab,aa⟩:=hb;refine⟨b,ac,hnt,?_⟩;unfold Mn at aa;simp only[Abj,Ady]at aa;have:t=u:=tellU.inj _ _ (hu a ha t ht) (hu b (Ay (.inr ac)) u ab) (Prod.ext (by rw[Cy,hv,aa.1]) aa.2.symm);rw[this];exact ab
theorem RtL.wo {N:List Tx}{ar:Tx->Nat}{l:List RItem}(h:RtL N ar l){i k:Nat}{x:RItem}(hx:l[i]?=some x)(ho:x.out=false)(hs:Eb (Gx x k)=true):RtL N ar (Ct i [Gx x k] l):=by
 have aa:=Abh hx;have hm:∀y∈Ct i [Gx x k] l,y∈l\/y=Gx x k:=fun y hy=>by
  rcases E4 hy with h|h
  ·exact .inl h
  ·exact .inr (by simpa using h)
 have ab:∀a∈(Gx x k).body,a∈x.body:=fun a ha=>Ada ha;refine⟨h.gl.wo hx ho,fun y hy=>?_,fun y hy ac=>?_,fun y hy=>?_,fun y hy=>?_⟩
 ·rcases hm y hy with hy|rfl
  ·exact h.b5 y hy
  ·exact Abc (Ac7 _ _) (h.b5 x aa)
 ·rcases hm y hy with hy|rfl
  ·exact h.ru y hy ac
  ·have hr:=h.ru x aa ho;refine⟨hr.head,hr.hnt,fun b hb=>hr.body b (ab b hb),hr.vt,fun b hb=>hr.vb b (ab b hb),fun v hm hv=>?_⟩;obtain⟨b,hb,-,ad⟩:=R4 hs (fun a ha=>((h.gl.msr x aa).at_ a (J4 ho ha)).2.2) (a:=x.head) (Ay (.inl ⟨rfl,rfl⟩)) hm hv;exact⟨b,hb,ad⟩
 ·rcases hm y hy with hy|rfl
  ·exact h.wi y hy
  ·exact Aaa (h.wi x aa) (h.wit x aa) ho
 ·rcases hm y hy with hy|rfl
  ·exact h.wit y hy
  ·exact oQ (h.wit x aa) ho
end Go.Proofs.YtmoeoppbmhfbpabGreatDoorH
