import Derived.Test.YtmoeoppbmhfbpabGreatDoorJProgN
import Derived.ProofKit
import Derived.OpenShut
import Derived.Below
import Derived.Carry
import Derived.Deep.Slices
set_option maxHeartbeats 16000000
set_option maxRecDepth 100000
set_option linter.all false
namespace Go.Proofs.YtmoeoppbmhfbpabGreatDoorJ
open Go.Abs
def VT (w:Tx):Prop:=(∃b,w=[b]/\Bl b.toNat=true)\/(w≠[]/\∀b∈w,A0 b.toNat=true)
def VA (a:Ai):Prop:=∀w∈a.terms,VT w
theorem bK {s r w:Tx}(h:Ca s= .got w r):VT w:=by
 cases s with
 |nil=>cases h
 |cons b q=>
  unfold Ca at h;dsimp only at h;split at h
  ·rename_i hl;cases h;exact .inl ⟨b,rfl,hl⟩
  split at h
  ·rename_i h0;cases h;refine .inr ⟨by simp,fun c hc=>?_⟩;simp at hc;subst hc;rw[digit_iff];exact .inr h0
  split at h
  ·rename_i h9;cases h;refine .inr ⟨by simp,fun c hc=>?_⟩;rcases Aci.1 hc with rfl|hc
   ·rw[digit_iff];exact .inl h9
   ·exact (D4 A0 2 q).2 c hc
  ·cases h
theorem Om {α:Type}{f:Tx->Rd α}{P:α->Prop}(hf:∀s x r,f s= .got x r->P x):∀(n:Nat) (s:Tx) (xs:List α) (r:Tx),Dg f n s= .got xs r->∀x∈xs,P x
 |0,s,xs,r,h=>by unfold Dg at h;cases h;simp
 |n+1,[],xs,r,h=>by unfold Dg at h;cases h;simp
 |n+1,b::q,xs,r,h=>by
  unfold Dg at h;split at h
  ·obtain⟨x,q1,h1,h2⟩:=Bm h;obtain⟨ys,q2,h3,h4⟩:=Bm h2;cases h4;intro y hy;rcases Aci.1 hy with rfl|hy
   ·exact hf _ _ _ h1
   ·exact Om hf n _ _ _ h3 y hy
  ·cases h;simp
theorem K8 {T:Tx->Prop}(hT:∀s w r,Ca s= .got w r->T w){nt:Bool}{s r:Tx}{a:Ai}(h:C1 nt s= .got a r):∀w∈a.terms,T w:=by
 unfold C1 Wc at h;obtain⟨p,q1,-,h⟩:=Bm h;obtain⟨u,q2,-,h⟩:=Bm h;obtain⟨w,q3,h1,h⟩:=Bm h;obtain⟨ws,q4,h2,h⟩:=Bm h;obtain⟨u2,q5,-,h⟩:=Bm h;cases h;intro y hy;rcases Aci.1 hy with rfl|hy
 ·exact hT _ _ _ h1
 ·exact Om hT _ _ _ _ h2 y hy
theorem bP {T:Tx->Prop}(hT:∀s w r,Ca s= .got w r->T w){s r:Tx}{a:Ai}(h:J7 s= .got a r):∀w∈a.terms,T w:=by rw[kL]at h;exact K8 hT h
theorem mS {T:Tx->Prop}(hT:∀s w r,Ca s= .got w r->T w){s r:Tx}{x:RItem}(h:Fv s= .got x r):∀a∈Af x,∀w∈a.terms,T w:=by
 rw[bQ]at h;split at h
 ·unfold bN at h;obtain⟨p,q1,-,h⟩:=Bm h;obtain⟨u,q2,-,h⟩:=Bm h;cases h;simp[Af]
 ·unfold Nb at h;obtain⟨a,q1,h1,h⟩:=Bm h;rw[bM]at h;split at h
  ·cases h;intro y hy;simp[Af]at hy;subst hy;exact K8 hT h1
  ·obtain⟨u,q2,-,h⟩:=Bm h;obtain⟨ls,q3,h3,h⟩:=Bm h;obtain⟨u2,q4,-,h⟩:=Bm h;cases h;intro y hy;simp[Af]at hy;rcases hy with rfl|hy
   ·exact K8 hT h1
   ·unfold Dr P9 at h3;obtain⟨l,q5,h5,h3⟩:=Bm h3;obtain⟨ls2,q6,h6,h3⟩:=Bm h3;cases h3;rcases Aci.1 hy with rfl|hy
    ·exact bP hT h5
    ·exact Om (fun _ _ _ h=>bP hT h) _ _ _ _ h6 y hy
theorem Hw {T:Tx->Prop}(hT:∀s w r,Ca s= .got w r->T w):∀(n:Nat) (s:Tx) (l:List RItem) (r:Tx),Bj n s= .got l r->∀x∈l,∀a∈Af x,∀w∈a.terms,T w
 |n,[],l,r,h=>by rw[Sk]at h;cases h;simp
 |0,b::q,l,r,h=>by rw[Pm]at h;cases h
 |n+1,b::q,l,r,h=>by
  rw[Ko]at h;obtain⟨x,q1,h1,h⟩:=Bm h;obtain⟨xs,q2,h2,h⟩:=Bm h;cases h;intro y hy;rcases Aci.1 hy with rfl|hy
  ·exact mS hT h1
  ·exact Hw hT n _ _ _ h2 y hy
theorem On (n:Nat)(s:Tx)(l:List RItem)(r:Tx)(h:Bj n s= .got l r):∀x∈l,∀a∈Af x,VA a:=Hw (T:=VT) (fun _ _ _ h=>bK h) n s l r h
theorem Ju {w:Tx}(h:VT w):(Az w).1=Al w:=by
 rcases h with⟨b,rfl,hl⟩|⟨hn,hd⟩
 ·rw[D7 hl];simp[Al,hl]
 ·cases w with
  |nil=>exact absurd rfl hn
  |cons b r=>
   have hb:=hd b (by simp);have hl:Bl b.toNat=false:=by
    cases hl:Bl b.toNat with
    |false=>rfl
    |true=>simp[A0]at hb;simp[Bl]at hl;omega
   rw[Gr hl];simp[Al,hl]
theorem rJ {u t:Tx}(hu:VT u)(ht:VT t)(hv:Al t=true):Qd (Az t).2 u=(u==t):=by
 obtain⟨b,rfl,hl⟩:∃b,t=[b]/\Bl b.toNat=true:=by
  rcases ht with h|⟨hn,hd⟩
  ·exact h
  ·exfalso;cases t with
   |nil=>exact hn rfl
   |cons b r=>
    have hb:=hd b (by simp);simp[Al]at hv;simp[A0]at hb;simp[Bl]at hv;omega
 rw[D7 hl];unfold Qd;rcases hu with⟨c,rfl,hc⟩|⟨hn,hd⟩
 ·rw[D7 hc];simp only[Acv];by_cases e:c=b
  ·subst e;simp
  ·have:(c.toNat:Int)≠b.toNat:=fun h=>e (UInt8.toNat_inj.1 Ad6);have h1:((c.toNat:Int)-65==(b.toNat:Int)-65)=false:=by simp;omega
   have h2:(([c]:Tx)==[b])=false:=by simpa using e
   rw[h1,h2]
 ·have h1:(Az u).1=false:=by
   rw[Ju (.inr ⟨hn,hd⟩)];cases u with
   |nil=>rfl
   |cons c r=>
    have hb:=hd c (by simp);cases hv:Al (c::r)with
    |false=>rfl
    |true=>simp[Al,Bl]at hv;simp[A0]at hb;omega
  have h2:(u==[b])=false:=by
   simp;rintro rfl;have:=hd b (by simp);simp[A0]at this;simp[Bl]at hl;omega
  rw[h1,h2];rfl
theorem H7 {α:Type}{l:List α}{p q:α->Bool}(h:∀a∈l,p a=q a):l.any p=l.any q:=by
 induction l with
 |nil=>rfl
 |cons a l ih=>simp only[List.any_cons];rw[h a (by simp),ih (fun b hb=>h b (by simp[hb]))]
theorem sM {x:RItem}(hV:∀a∈Af x,VA a){t:Tx}(ht:VT t)(hv:Al t=true):E8 x (Az t).2=Kz x t:=by
 unfold E8 Kz;apply H7;intro a ha;have hA:VA a:=hV a (by unfold Af;simp[ha]);cases hn:a.nt with
 |true=>simp
 |false=>
  simp only[Bool.not_false,Acv];exact H7 fun u hu=>rJ (hA u hu) ht hv
theorem kG {x:RItem}(hV:∀a∈Af x,VA a):Ir x=Iz x:=by
 unfold Ir Iz;congr 1;apply H7;intro a ha;unfold sN oD;apply H7;intro w hw;have hA:=hV a ha w hw;rw[Ju hA];cases hv:Al w with
 |false=>rfl
 |true=>rw[sM hV hA hv]
theorem Np {p q:Nat->Bool}{n:Nat}(h:∀i,i<n->p i=q i):Bb p n=Bb q n:=by
 have e:(List.range n).find? p=(List.range n).find? q:=by
  have hm:∀i∈List.range n,p i=q i:=fun i hi=>h i (by simpa using hi);generalize List.range n=l at hm;induction l with
  |nil=>rfl
  |cons a l ih=>simp only[List.find?_cons];rw[hm a (by simp),ih (fun b hb=>hm b (by simp[hb]))]
 unfold Bb;rw[e]
theorem lS {N:List Tx}{l:List RItem}(hN:∀x∈l,x.head.pred∈N/\∀a∈x.body,a.pred∈N){i j:Nat}(h:Way (bU N l) i j):∃p q,p∈N/\q∈N/\N.idxOf p=i/\N.idxOf q=j/\Way (Er l) p q:=by
 induction h with
 |one e=>
  obtain⟨x,hx,h1,a,ha,h2⟩:=e;exact⟨x.head.pred,a.pred,(hN x hx).1,(hN x hx).2 a ha,h1,h2,.one ⟨x,hx,rfl,a,ha,rfl⟩⟩
 |more e _ ih=>
  obtain⟨x,hx,h1,a,ha,h2⟩:=e;obtain⟨p,q,hp,hq,e1,e2,w⟩:=ih;have:a.pred=p:=Dy ((hN x hx).2 a ha) hp Ad6;subst this;exact⟨x.head.pred,q,(hN x hx).1,hq,h1,e2,.more ⟨x,hx,rfl,a,ha,rfl⟩ w⟩
theorem eM {N:List Tx}{l:List RItem}{p q:Tx}(h:Way (Er l) p q):Way (bU N l) (N.idxOf p) (N.idxOf q):=by
 induction h with
 |one e=>
  obtain⟨x,hx,rfl,a,ha,rfl⟩:=e;exact .one ⟨x,hx,rfl,a,ha,rfl⟩
 |more e _ ih=>
  obtain⟨x,hx,rfl,a,ha,rfl⟩:=e;exact .more ⟨x,hx,rfl,a,ha,rfl⟩ ih
theorem Way.map' {α:Type}{E F:α->α->Prop}(h:∀a b,E a b->F a b){a b:α}(w:Way E a b):Way F a b:=by
 induction w with
 |one e=>exact .one (h _ _ e)
 |more e _ ih=>exact .more (h _ _ e) ih
theorem tW {N:List Tx}{l:List RItem}{M:Nat->Nat->Bool}(hN:∀x∈l,x.head.pred∈N/\∀a∈x.body,a.pred∈N)(ho:∀x∈l,x.out=true->x.body=[])(hM:Dm N l M){p q:Tx}(hp:p∈N)(hq:q∈N)(hy:∃y∈l,y.out=false/\y.head.pred=q):
  E5 N.length M N.length (N.idxOf p) (N.idxOf q)=jC l p q:=by
 have hS:oM N.length M:=by
  intro a b ac;obtain⟨x,hx,rfl,c,hc,rfl⟩:=(hM a b).1 ac;exact⟨Ac4 (hN x hx).1,Ac4 ((hN x hx).2 c hc)⟩
 rw[Bool.eq_iff_iff,Qu hS,U0 ho hy];constructor
 ·intro w;obtain⟨p',q',ab,aa,e1,e2,w'⟩:=lS hN (w.map' fun a b h=>(hM a b).1 h);rw[<-Dy ab hp e1,<-Dy aa hq e2];exact w'
 ·intro w;exact (eM w).map' fun a b h=>(hM a b).2 h
theorem W4 {N:List Tx}:∀{l:List Ai} {cs:List AV},EL (PL N) l cs->∀a∈l,a.pred∈N
 |[],cs,h,a,ha=>by cases ha
 |b::l,cs,⟨c,d,hc,hd,e⟩,a,ha=>by
  rcases Aci.1 ha with rfl|ha
  ·exact hc.1
  ·exact W4 hd a ha
theorem O8 {N:List Tx}:∀{l:List RItem} {cs:List AV},EL (PI N) l cs->∀x∈l,x.head.pred∈N/\∀a∈x.body,a.pred∈N
 |[],cs,h,a,ha=>by cases ha
 |b::l,cs,⟨c,d,hc,hd,e⟩,a,ha=>by
  rcases Aci.1 ha with rfl|ha
  ·obtain⟨hm,ih,id,bb,hb,-⟩:=hc;exact⟨hm,W4 hb⟩
  ·exact O8 hd a ha
theorem vH {N:List Tx}{l:List RItem}{cs:List AV}{M:Nat->Nat->Bool}(hB:Bk N l cs)(hM:Dm N l M):Bb (V4 N l (E5 N.length M N.length)) l.length=Bb (G7 l) l.length:=by
 have hN:=O8 hB.el;apply Np;intro i hi;unfold V4 G7;rw[List.getElem?_eq_getElem hi];dsimp only;have hx:=Ac2 hi;generalize l[i]=x at hx;apply H7;intro a ha;unfold qP wA;have ho:x.out=false:=by
  cases h:x.out with
  |false=>rfl
  |true=>rw[hB.out x hx h]at ha;cases ha
 rw[tW hN hB.out hM ((hN x hx).2 a ha) (hN x hx).1 ⟨x,hx,ho,rfl⟩];congr 2;rw[Bool.eq_iff_iff];simp only[Ad4];constructor
 ·intro e;exact Dy ((hN x hx).2 a ha) (hN x hx).1 Ad6
 ·intro e;rw[e]
theorem lW {l:List RItem}(hV:∀x∈l,∀a∈Af x,VA a):Bb (K5 l) l.length=Bb (Ds l) l.length:=by
 apply Np;intro i hi;unfold K5 Ds;rw[List.getElem?_eq_getElem hi];dsimp only;rw[kG (hV _ (Ac2 hi))]
theorem S6 (N:List Tx)(l:List RItem)(cs:List AV)(idn idi:Nat)(hB:Bk N l cs)(hV:∀x∈l,∀a∈Af x,VA a)(I:St):ACalls Tryz.prog 71 [Bs N idn l idi cs] I fun r I'=>r=two (Ct l)/\Keep I I':=by
 have g1:=@Ox (Hb l) l.length;have g2:=@Ox (Ds l) l.length;have g3:=@Ox (G7 l) l.length;have hU:=lW hV;have ab:=Ow N l cs idn idi hB;rw[hU]at ab;have aj:∀I,ACalls Tryz.prog 123 [Bs N idn l idi cs] I fun r I'=>r=sc (.int .i64 (Bb (G7 l) l.length))/\Keep I I':=fun I=>by
  refine ACalls.mono (Uo N l cs idn idi hB I) ?_;rintro _ _ ⟨M,hM,rfl,hK⟩;exact⟨by rw[vH hB hM],hK⟩
 clear hU;refine Z9 20 [.tmp 2,.tmp 3] Tryz.func71 ?_
 repeat' (first|refine Z1 ?_|(refine Z8 ?_;intro κ hκ)|(refine Z4 ?_;clear hκ κ)|(refine Z2 ?_ ?_<;>intro h ai<;>try exact Xp)|(refine Z5 ?_;first|(refine Xi (Qg N l cs idn idi hB _) ?_;rintro _ _ ⟨rfl,ad⟩;(have af:=ad.obj;have aa:=ad.nobj;(try simp only[Aa,Ab,Ag]at aa)))|(refine Xi (ab _) ?_;rintro _ _ ⟨rfl,ac⟩;(have ae:=ac.obj;have ah:=ac.nobj))|(refine Xi (aj _) ?_;rintro _ _ ⟨rfl,ak⟩))|refine Z3 ?_|exact⟨⟩|(apply hκ.out;clear hκ κ))
 ·have e1:Bb (Hb l) l.length≠ -1:=by simpa using h
  exact⟨_,rfl,by unfold Ct;rw[if_pos Ad6],Xs⟩
 ·have e1:Bb (Hb l) l.length= -1:=by simpa using (show (Bb (Hb l) l.length != -1)=false by assumption)
  have e2:Bb (Ds l) l.length≠ -1:=by simpa using h
  exact⟨_,rfl,by unfold Ct;rw[if_neg Ad6,if_pos Ad6],Xs⟩
 ·have e1:Bb (Hb l) l.length= -1:=by simpa using (show (Bb (Hb l) l.length != -1)=false by assumption)
  have e2:Bb (Ds l) l.length= -1:=by simpa using (show (Bb (Ds l) l.length != -1)=false by assumption)
  have e3:Bb (G7 l) l.length≠ -1:=by simpa using h
  exact⟨_,rfl,by unfold Ct;rw[if_neg Ad6,if_neg Ad6,if_pos Ad6],Xs⟩
 ·have e1:Bb (Hb l) l.length= -1:=by simpa using (show (Bb (Hb l) l.length != -1)=false by assumption)
  have e2:Bb (Ds l) l.length= -1:=by simpa using (show (Bb (Ds l) l.length != -1)=false by assumption)
  have e3:Bb (G7 l) l.length= -1:=by simpa using h
  exact⟨_,rfl,by unfold Ct;rw[if_neg Ad6,if_neg Ad6,if_neg Ad6],Xs⟩
theorem Abb {N:List Tx}{l:List RItem}{cs:List AV}(hE:EL (PI N) l cs)(hl:l.length<=16)(hW:∀x∈l,Dh x)(hN:N.length<=2000):Bk N l cs:=by
 refine⟨hE,hl,fun x hx=>?_,fun x hx ho=>((hW x hx).2.1 ho).2.2,hN,fun x hx a ha=>?_⟩
 ·obtain⟨-,h2,h3⟩:=hW x hx;cases ho:x.out with
  |true=>
   obtain⟨-,q1,q2⟩:=h2 ho;exact⟨by simp[q2],by simp[q1],by simp[q2]⟩
  |false=>
   obtain⟨q1,-,q2,q3⟩:=h3 ho;have:=q1.2.2.1;exact⟨Ad6,Ad6,fun a ha=>by have:=(q3 a ha).2.2.1;omega⟩
 ·obtain⟨-,h2,h3⟩:=hW x hx;unfold Af at ha;cases ho:x.out with
  |true=>
   obtain⟨-,q1,q2⟩:=h2 ho;simp[ho,q2]at ha
  |false=>
   obtain⟨q1,-,q2,q3⟩:=h3 ho;simp[ho]at ha;have hp:Ea a->0<a.terms.length:=fun w=>by
    have:=w.2.1;cases hh:a.terms with
    |nil=>exact absurd hh this
    |cons y ys=>simp
   rcases ha with rfl|ha
   ·exact hp q1
   ·exact hp (q3 a ha)
theorem Y5 {l:List RItem}(h:(Ct l).1=0):Ct l=(0,0):=by
 unfold Ct at h⊢;split
 ·rename_i h1;rw[if_pos h1]at h;cases h
 ·rename_i h1;rw[if_neg h1]at h;split
  ·rename_i h2;rw[if_pos h2]at h;cases h
  ·rename_i h2;rw[if_neg h2]at h;split
   ·rename_i h3;rw[if_pos h3]at h;cases h
   ·rfl
def gN (t:Tx)(n1:Nat)(c1:List AV)(n2:Nat)(c2:List AV):Prop:=
 ∃N l,Bj 16 t= .got l []/\Bk N l c2/\n1=N.length/\c1=N.map str/\n2=l.length/\(∀x∈l,∀a∈Af x,VA a)/\∀x∈l,Dh x
theorem Sy (t:Tx)(I:St):ACalls Tryz.prog 37 [str t] I fun r I'=>∃idn n1 c1 idi n2 c2,r=tp [ag [sl idn n1 c1,sl idi n2 c2],sc (.int .i64 (Ax t).1),sc (.int .i64 (Ax t).2)]/\Keep I I'/\((Ax t).1=0->n1<=600/\gN t n1 c1 n2 c2):=by
 refine Z9 41 [.cell 2 62,.tmp 3,.tmp 4] Tryz.func37 ?_;by_cases hL:600<t.length
 ·have ad:Ax t=(1,0):=by unfold Ax;rw[if_pos hL]
  have ac:Aec _:=ad;clear ad
  repeat' (first|refine Z1 ?_|(refine Z8 ?_;intro κ hκ)|(refine Z4 ?_;clear hκ κ)|(refine Z2 ?_ ?_<;>intro h ai<;>try exact Xp)|refine Z3 ?_|exact⟨⟩|(apply hκ.out;clear hκ κ))
  refine⟨_,rfl,1,0,[],1,0,[],by rw[ac.out],Xs,by rw[ac.out];intro h;simp at h⟩
 ·have aa:=M6 t;have ht:t.length<=1000:=Ad6;have ap:RS 0 t (I.nobj+1) [] 1 t (((I.new [nilS,nilS]).new [str [],sc (.int .i64 0),nilS]).put (I.nobj+1) [str t,sc (.int .i64 0),nilS]):=by
   refine⟨?_,Nat.lt_succ_self _,.inl ⟨rfl,rfl⟩,Acy _,by simp⟩;rw[Ak];simp[J6,P6]
  have hR:=aW ht ap;have an:Keep I (((I.new [nilS,nilS]).new [str [],sc (.int .i64 0),nilS]).put (I.nobj+1) [str t,sc (.int .i64 0),nilS]):=(((Keep.refl I).new _).new _).put Ad6 _;cases hp:Bj 16 t with
  |bad e=>
   rw[hp]at hR aa;dsimp only at aa;have ad:Ax t=(2,((t.length-e.length:Nat):Int)):=by
    unfold Ax;rw[if_neg hL,aa,if_pos (Ac7 _)]
   have ac:Aec _:=ad;have HR:Aec _:=hR;have ao:Aec _:=an;clear ad aa ap hR hp an
   repeat' (first|refine Z1 ?_|(refine Z8 ?_;intro κ hκ)|(refine Z4 ?_;clear hκ κ)|(refine Z2 ?_ ?_<;>intro h ai<;>try exact Xp)|(refine Z5 ?_;refine Xi (HR.out) ?_;rintro _ _ ⟨n,ids,c,N',id',rfl,ae,ak,a4,ax⟩;(have af:=ae.keep.obj;have ah:=ae.keep.nobj;(try simp only[Aa,Ab,Ag]at ah)))|refine Z3 ?_|exact⟨⟩|(apply hκ.out;clear hκ κ))
   rename_i I1;have ab:=ak.obj;unfold J6 P6 at ab;simp only[Rd.rest]at ab;have a3:I1.obj I.nobj=[nilS,nilS]:=by
    rw[af _ Aeb Ad6,Aj Ad6,Ae (by rw[Aa];omega),Ao]
   have aj:Keep I I1:=KeepR.keep ao.out ae.keep Ad6 (.inl Ad6);clear af;refine A1 Ah (fun p=>p=I.nobj+1) [5] [0,1,2] [3,4,5] Ad9 (fun _ _ _ h=>h) ?_;intro κ hκ;have aw:∀i,Kept (fun j=>!([5]:List Nat).contains j) (fun p=>p=I.nobj+1) I1 i (I1.put I.nobj [nilS,nilS]):=fun i _ p hp hF=>by
    subst hF;simp[St.put]
   refine Z3 ?_;refine⟨fun p h=>h.elim,fun p h=>h.elim,fun p h=>by cases h;rfl,?_⟩
   try (refine And.intro (aw _) ?_)
   try (refine And.intro (aw _) ?_)
   repeat' (first|refine Z1 ?_|(refine Z8 ?_;intro κ hκ)|(refine Z4 ?_;clear hκ κ)|(refine Z2 ?_ ?_<;>intro h ai<;>try exact Xp)|refine Z3 ?_|exact⟨⟩|(apply hκ.out;clear hκ κ))
   refine⟨_,rfl,1,0,[],1,0,[],by rw[ac.out],aj.put (Abf _) _,by rw[ac.out];intro h;simp at h⟩
  |got l r=>
   rw[hp]at hR aa;dsimp only at aa;obtain⟨p1,p2,p3,p4⟩:=Hv ht hp;have av:=On _ _ _ _ hp;have az:=(Ii _ _ _ _ hp).2.1;subst az;have ad:Ax t=Ct l:=by
    unfold Ax;rw[if_neg hL,aa,if_neg Ad6,p2]
   have ac:Aec _:=ad;have HR:Aec _:=hR;have ao:Aec _:=an;have HP:Aec _:=hp;clear ad aa ap hR hp an p2 p1
   repeat' (first|refine Z1 ?_|(refine Z8 ?_;intro κ hκ)|(refine Z4 ?_;clear hκ κ)|(refine Z2 ?_ ?_<;>intro h ai<;>try exact Xp)|(refine Z5 ?_;first|(refine Xi (HR.out) ?_;rintro _ _ ⟨n,ids,c,N',id',rfl,ae,ak,a4,ax⟩;(have af:=ae.keep.obj;have ah:=ae.keep.nobj;(try simp only[Aa,Ab,Ag]at ah);have ab:=ak.obj;unfold J6 P6 at ab;obtain⟨rfl,a5⟩:n=l.length/\EL (PI N') l c:=ax;have ay:=Abb a5 p3 p4 (by have:=ak.len;omega)))|(refine Xi (S6 N' l c id' ids ay av _) ?_;rintro _ _ ⟨rfl,am⟩;(have kobf:=am.obj;have knof:=am.nobj;(try simp only[Aa,Ab,Ag]at knof))))|refine Z3 ?_|exact⟨⟩|(apply hκ.out;clear hκ κ))
   ·rename_i I1 a0 _ I2;have aj:Keep I I1:=KeepR.keep ao.out ae.keep Ad6 (.inl Ad6);have au:=(((aj.new [nilS,nilS]).put aj.nobj _).trans am);exact⟨_,rfl,1,0,[],1,0,[],by rw[ac.out],au.put (Abf _) _,by rw[ac.out];intro h0;simp[h0]at h⟩
   ·rename_i I1 a0 _ I2;have aj:Keep I I1:=KeepR.keep ao.out ae.keep Ad6 (.inl Ad6);have au:=(((aj.new [nilS,nilS]).put aj.nobj _).trans am);have hw:=Y5 (l:=l) (by simpa using h);exact⟨_,rfl,id',N'.length,N'.map str,ids,l.length,c,by rw[ac.out,hw],au.put (Abf _) _,fun _=>⟨by have:=ak.len;simp only[Rd.rest,Ace]at this;omega,N',l,HP.out,ay,rfl,rfl,rfl,av,p4⟩⟩
theorem nD (t:Tx)(I:St):ACalls Tryz.prog 37 [str t] I fun r I'=>∃idn n1 c1 idi n2 c2,r=tp [ag [sl idn n1 c1,sl idi n2 c2],sc (.int .i64 (Ax t).1),sc (.int .i64 (Ax t).2)]/\Keep I I'/\((Ax t).1=0->gN t n1 c1 n2 c2):=
 ACalls.mono (Sy t I) fun r I' ⟨idn,n1,c1,idi,n2,c2,h1,h2,h3⟩=>⟨idn,n1,c1,idi,n2,c2,h1,h2,fun h=>(h3 h).2⟩
open Go.RowKit (Below)
def st0:St:={obj:=fun _=>[],nobj:=0,top:=fun _=>0,ntop:=0,ver:=fun _=>0}
def gh0 (W:World):Gh:={blk:=fun _=>0,cur:=fun _=>0,cap:=fun _=>0,siz:=fun _=>0,per:=fun b _=>b<W.heap.size,base:=W.heap.size,w0:=W}
theorem inv0 (W:World)(hy:Abs.Hyp W.heap.size W):Abs.Inv (gh0 W) st0 W:=
 ⟨fun o h=>absurd h (Nat.not_lt_zero _),fun o o' h=>absurd h (Nat.not_lt_zero _),fun k h=>absurd h (Nat.not_lt_zero _),fun k k' h=>absurd h (Nat.not_lt_zero _),fun o k h=>absurd h (Nat.not_lt_zero _),
  fun b off h=>h,fun b off h=>h,Below.refl _ _,Abf _,hy⟩
end Go.Proofs.YtmoeoppbmhfbpabGreatDoorJ
