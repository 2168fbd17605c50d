import Derived.Test.YtmoeoppbmhfbpabGreatDoorGProgN
import Derived.ProofKit
import Derived.OpenShut
import Derived.Below
import Derived.Carry
import Derived.Deep.Slices
set_option maxHeartbeats 16000000
set_option maxRecDepth 100000
set_option linter.all false
namespace Go.Proofs.YtmoeoppbmhfbpabGreatDoorG
open Go.Abs
def VT (w:Tx):Prop:=(∃b,w=[b]/\A8 b.toNat=true)\/(w≠[]/\∀b∈w,Az b.toNat=true)
def VA (a:RAtom):Prop:=∀w∈a.terms,VT w
theorem tG {s r w:Tx}(h:Ci s= .got w r):VT w:=by
 cases s with
 |nil=>cases h
 |cons b q=>
  unfold Ci at h;dsimp only at h;split at h
  ·rename_i hl;cases h;exact .inl ⟨b,rfl,hl⟩
  split at h
  ·rename_i h0;cases h;refine .inr ⟨by simp,fun c hc=>?_⟩;simp at hc;subst hc;rw[digit_iff];exact .inr h0
  split at h
  ·rename_i h9;cases h;refine .inr ⟨by simp,fun c hc=>?_⟩;rcases Aeq.1 hc with rfl|hc
   ·rw[digit_iff];exact .inl h9
   ·exact (Ds Az 2 q).2 c hc
  ·cases h
theorem Lz {α:Type}{f:Tx->Rd α}{P:α->Prop}(hf:∀s x r,f s= .got x r->P x):∀(n:Nat) (s:Tx) (xs:List α) (r:Tx),Dg f n s= .got xs r->∀x∈xs,P x
 |0,s,xs,r,h=>by unfold Dg at h;cases h;simp
 |n+1,[],xs,r,h=>by unfold Dg at h;cases h;simp
 |n+1,b::q,xs,r,h=>by
  unfold Dg at h;split at h
  ·obtain⟨x,q1,h1,h2⟩:=A3 h;obtain⟨ys,q2,h3,h4⟩:=A3 h2;cases h4;intro y hy;rcases Aeq.1 hy with rfl|hy
   ·exact hf _ _ _ h1
   ·exact Lz hf n _ _ _ h3 y hy
  ·cases h;simp
theorem L0 {T:Tx->Prop}(hT:∀s w r,Ci s= .got w r->T w){nt:Bool}{s r:Tx}{a:RAtom}(h:Dh nt s= .got a r):∀w∈a.terms,T w:=by
 unfold Dh Tw at h;obtain⟨p,q1,-,h⟩:=A3 h;obtain⟨u,q2,-,h⟩:=A3 h;obtain⟨w,q3,h1,h⟩:=A3 h;obtain⟨ws,q4,h2,h⟩:=A3 h;obtain⟨u2,q5,-,h⟩:=A3 h;cases h;intro y hy;rcases Aeq.1 hy with rfl|hy
 ·exact hT _ _ _ h1
 ·exact Lz hT _ _ _ _ h2 y hy
theorem dR {T:Tx->Prop}(hT:∀s w r,Ci s= .got w r->T w){s r:Tx}{a:RAtom}(h:Je s= .got a r):∀w∈a.terms,T w:=by rw[mF]at h;exact L0 hT h
theorem oR {T:Tx->Prop}(hT:∀s w r,Ci s= .got w r->T w){s r:Tx}{x:RItem}(h:E3 s= .got x r):∀a∈Ae x,∀w∈a.terms,T w:=by
 rw[dS]at h;split at h
 ·unfold Y8 at h;obtain⟨p,q1,-,h⟩:=A3 h;obtain⟨u,q2,-,h⟩:=A3 h;cases h;simp[Ae]
 ·unfold Mr at h;obtain⟨a,q1,h1,h⟩:=A3 h;rw[dO]at h;split at h
  ·cases h;intro y hy;simp[Ae]at hy;subst hy;exact L0 hT h1
  ·obtain⟨u,q2,-,h⟩:=A3 h;obtain⟨ls,q3,h3,h⟩:=A3 h;obtain⟨u2,q4,-,h⟩:=A3 h;cases h;intro y hy;simp[Ae]at hy;rcases hy with rfl|hy
   ·exact L0 hT h1
   ·unfold Dt Q4 at h3;obtain⟨l,q5,h5,h3⟩:=A3 h3;obtain⟨ls2,q6,h6,h3⟩:=A3 h3;cases h3;rcases Aeq.1 hy with rfl|hy
    ·exact dR hT h5
    ·exact Lz (fun _ _ _ h=>dR hT h) _ _ _ _ h6 y hy
theorem J0 {T:Tx->Prop}(hT:∀s w r,Ci s= .got w r->T w):∀(n:Nat) (s:Tx) (l:List RItem) (r:Tx),Bz n s= .got l r->∀x∈l,∀a∈Ae x,∀w∈a.terms,T w
 |n,[],l,r,h=>by rw[Tt]at h;cases h;simp
 |0,b::q,l,r,h=>by rw[Ql]at h;cases h
 |n+1,b::q,l,r,h=>by
  rw[K8]at h;obtain⟨x,q1,h1,h⟩:=A3 h;obtain⟨xs,q2,h2,h⟩:=A3 h;cases h;intro y hy;rcases Aeq.1 hy with rfl|hy
  ·exact oR hT h1
  ·exact J0 hT n _ _ _ h2 y hy
theorem Px (n:Nat)(s:Tx)(l:List RItem)(r:Tx)(h:Bz n s= .got l r):∀x∈l,∀a∈Ae x,VA a:=J0 (T:=VT) (fun _ _ _ h=>tG h) n s l r h
theorem O1 {w:Tx}(h:VT w):(Am w).1=Ad w:=by
 rcases h with⟨b,rfl,hl⟩|⟨hn,hd⟩
 ·rw[Dy hl];simp[Ad,hl]
 ·cases w with
  |nil=>exact absurd rfl hn
  |cons b r=>
   have hb:=hd b (by simp);have hl:A8 b.toNat=false:=by
    cases hl:A8 b.toNat with
    |false=>rfl
    |true=>simp[Az]at hb;simp[A8]at hl;omega
   rw[Li hl];simp[Ad,hl]
theorem uM {u t:Tx}(hu:VT u)(ht:VT t)(hv:Ad t=true):Np (Am t).2 u=(u==t):=by
 obtain⟨b,rfl,hl⟩:∃b,t=[b]/\A8 b.toNat=true:=by
  rcases ht with h|⟨hn,hd⟩
  ·exact h
  ·exfalso;cases t with
   |nil=>exact hn rfl
   |cons b r=>
    have hb:=hd b (by simp);simp[Ad]at hv;simp[Az]at hb;simp[A8]at hv;omega
 rw[Dy hl];unfold Np;rcases hu with⟨c,rfl,hc⟩|⟨hn,hd⟩
 ·rw[Dy hc];simp only[Ae1];by_cases e:c=b
  ·subst e;simp
  ·have:(c.toNat:Int)≠b.toNat:=fun h=>e (UInt8.toNat_inj.1 Agm);have h1:((c.toNat:Int)-65==(b.toNat:Int)-65)=false:=by simp;omega
   have h2:(([c]:Tx)==[b])=false:=by simpa using e
   rw[h1,h2]
 ·have h1:(Am u).1=false:=by
   rw[O1 (.inr ⟨hn,hd⟩)];cases u with
   |nil=>rfl
   |cons c r=>
    have hb:=hd c (by simp);cases hv:Ad (c::r)with
    |false=>rfl
    |true=>simp[Ad,A8]at hv;simp[Az]at hb;omega
  have h2:(u==[b])=false:=by
   simp;rintro rfl;have:=hd b (by simp);simp[Az]at this;simp[A8]at hl;omega
  rw[h1,h2];rfl
theorem Dz {α:Type}{l:List α}{p q:α->Bool}(h:∀a∈l,p a=q a):l.any p=l.any q:=by
 induction l with
 |nil=>rfl
 |cons a l ih=>simp only[List.any_cons];rw[h a (by simp),ih (fun b hb=>h b (by simp[hb]))]
theorem vN {x:RItem}(hV:∀a∈Ae x,VA a){t:Tx}(ht:VT t)(hv:Ad t=true):E8 x (Am t).2=P8 x t:=by
 unfold E8 P8;apply Dz;intro a ha;have hA:VA a:=hV a (by unfold Ae;simp[ha]);cases hn:a.nt with
 |true=>simp
 |false=>
  simp only[Bool.not_false,Ae1];exact Dz fun u hu=>uM (hA u hu) ht hv
theorem Lv {x:RItem}(hV:∀a∈Ae x,VA a):Dw x=Fa x:=by
 unfold Dw Fa;congr 1;apply Dz;intro a ha;unfold zL vP;apply Dz;intro w hw;have hA:=hV a ha w hw;rw[O1 hA];cases hv:Ad w with
 |false=>rfl
 |true=>rw[vN hV hA hv]
theorem O0 {p q:Nat->Bool}{n:Nat}(h:∀i,i<n->p i=q i):Bn p n=Bn q n:=by
 have e:(List.range n).find? p=(List.range n).find? q:=by
  have hm:∀i∈List.range n,p i=q i:=fun i hi=>h i (by simpa using hi);generalize List.range n=l at hm;induction l with
  |nil=>rfl
  |cons a l ih=>simp only[List.find?_cons];rw[hm a (by simp),ih (fun b hb=>hm b (by simp[hb]))]
 unfold Bn;rw[e]
theorem nN {N:List Tx}{l:List RItem}(hN:∀x∈l,x.head.pred∈N/\∀a∈x.body,a.pred∈N){i j:Nat}(h:Way (dW N l) i j):∃p q,p∈N/\q∈N/\N.idxOf p=i/\N.idxOf q=j/\Way (Dk l) p q:=by
 induction h with
 |one e=>
  obtain⟨x,hx,h1,a,ha,h2⟩:=e;exact⟨x.head.pred,a.pred,(hN x hx).1,(hN x hx).2 a ha,h1,h2,.one ⟨x,hx,rfl,a,ha,rfl⟩⟩
 |more e _ ih=>
  obtain⟨x,hx,h1,a,ha,h2⟩:=e;obtain⟨p,q,hp,hq,e1,e2,w⟩:=ih;have:a.pred=p:=Ef ((hN x hx).2 a ha) hp Agm;subst this;exact⟨x.head.pred,q,(hN x hx).1,hq,h1,e2,.more ⟨x,hx,rfl,a,ha,rfl⟩ w⟩
theorem gI {N:List Tx}{l:List RItem}{p q:Tx}(h:Way (Dk l) p q):Way (dW N l) (N.idxOf p) (N.idxOf q):=by
 induction h with
 |one e=>
  obtain⟨x,hx,rfl,a,ha,rfl⟩:=e;exact .one ⟨x,hx,rfl,a,ha,rfl⟩
 |more e _ ih=>
  obtain⟨x,hx,rfl,a,ha,rfl⟩:=e;exact .more ⟨x,hx,rfl,a,ha,rfl⟩ ih
theorem Way.map' {α:Type}{E F:α->α->Prop}(h:∀a b,E a b->F a b){a b:α}(w:Way E a b):Way F a b:=by
 induction w with
 |one e=>exact .one (h _ _ e)
 |more e _ ih=>exact .more (h _ _ e) ih
theorem xE {N:List Tx}{l:List RItem}{M:Nat->Nat->Bool}(hN:∀x∈l,x.head.pred∈N/\∀a∈x.body,a.pred∈N)(ho:∀x∈l,x.out=true->x.body=[])(hM:C8 N l M){p q:Tx}(hp:p∈N)(hq:q∈N)(hy:∃y∈l,y.out=false/\y.head.pred=q):
  Ea N.length M N.length (N.idxOf p) (N.idxOf q)=kS l p q:=by
 have hS:wG N.length M:=by
  intro a b ac;obtain⟨x,hx,rfl,c,hc,rfl⟩:=(hM a b).1 ac;exact⟨Afd (hN x hx).1,Afd ((hN x hx).2 c hc)⟩
 rw[Afb,Zm hS,Pl ho hy];constructor
 ·intro w;obtain⟨p',q',ab,aa,e1,e2,w'⟩:=nN hN (w.map' fun a b h=>(hM a b).1 h);rw[<-Ef ab hp e1,<-Ef aa hq e2];exact w'
 ·intro w;exact (gI w).map' fun a b h=>(hM a b).2 h
theorem Yv {N:List Tx}:∀{l:List RAtom} {cs:List AV},EL (PL N) l cs->∀a∈l,a.pred∈N
 |[],cs,h,a,ha=>by cases ha
 |b::l,cs,⟨c,d,hc,hd,e⟩,a,ha=>by
  rcases Aeq.1 ha with rfl|ha
  ·exact hc.1
  ·exact Yv hd a ha
theorem Gq {N:List Tx}:∀{l:List RItem} {cs:List AV},EL (PI N) l cs->∀x∈l,x.head.pred∈N/\∀a∈x.body,a.pred∈N
 |[],cs,h,a,ha=>by cases ha
 |b::l,cs,⟨c,d,hc,hd,e⟩,a,ha=>by
  rcases Aeq.1 ha with rfl|ha
  ·obtain⟨hm,ih,id,bb,hb,-⟩:=hc;exact⟨hm,Yv hb⟩
  ·exact Gq hd a ha
theorem yU {N:List Tx}{l:List RItem}{cs:List AV}{M:Nat->Nat->Bool}(hB:Bk N l cs)(hM:C8 N l M):Bn (W4 N l (Ea N.length M N.length)) l.length=Bn (Kg l) l.length:=by
 have hN:=Gq hB.el;apply O0;intro i hi;unfold W4 Kg;rw[List.getElem?_eq_getElem hi];dsimp only;have hx:=Afa hi;generalize l[i]=x at hx;apply Dz;intro a ha;unfold tC Ab2;have ho:x.out=false:=by
  cases h:x.out with
  |false=>rfl
  |true=>rw[hB.out x hx h]at ha;cases ha
 rw[xE hN hB.out hM ((hN x hx).2 a ha) (hN x hx).1 ⟨x,hx,ho,rfl⟩];congr 2;rw[Afb];simp only[Agj];constructor
 ·intro e;exact Ef ((hN x hx).2 a ha) (hN x hx).1 Agm
 ·intro e;rw[e]
theorem nR {l:List RItem}(hV:∀x∈l,∀a∈Ae x,VA a):Bn (Lx l) l.length=Bn (Ec l) l.length:=by
 apply O0;intro i hi;unfold Lx Ec;rw[List.getElem?_eq_getElem hi];dsimp only;rw[Lv (hV _ (Afa hi))]
theorem Ue (N:List Tx)(l:List RItem)(cs:List AV)(idn idi:Nat)(hB:Bk N l cs)(hV:∀x∈l,∀a∈Ae x,VA a)(I:St):ACalls Tryz.prog 71 [B9 N idn l idi cs] I fun r I'=>r=two (Cd l)/\Keep I I':=by
 have g1:=@P4 (Hz l) l.length;have g2:=@P4 (Ec l) l.length;have g3:=@P4 (Kg l) l.length;have hU:=nR hV;have ab:=P3 N l cs idn idi hB;rw[hU]at ab;have aj:∀I,ACalls Tryz.prog 123 [B9 N idn l idi cs] I fun r I'=>r=sc (.int .i64 (Bn (Kg l) l.length))/\Keep I I':=fun I=>by
  refine ACalls.mono (Vr N l cs idn idi hB I) ?_;rintro _ _ ⟨M,hM,rfl,hK⟩;exact⟨by rw[yU hB hM],hK⟩
 clear hU;refine Z9 20 [.tmp 2,.tmp 3] Tryz.func71 ?_
 repeat' (first|refine Z1 ?_|(refine Z8 ?_;intro κ hκ)|(refine Z4 ?_;clear hκ κ)|(refine Z2 ?_ ?_<;>intro h ai<;>try exact Xp)|(refine Z5 ?_;first|(refine Xi (Q8 N l cs idn idi hB _) ?_;rintro _ _ ⟨rfl,ad⟩;(have af:=ad.obj;have aa:=ad.nobj;(try simp only[Aa,Ab,Ah]at aa)))|(refine Xi (ab _) ?_;rintro _ _ ⟨rfl,ac⟩;(have ae:=ac.obj;have ah:=ac.nobj))|(refine Xi (aj _) ?_;rintro _ _ ⟨rfl,ak⟩))|refine Z3 ?_|exact⟨⟩|(apply hκ.out;clear hκ κ))
 ·have e1:Bn (Hz l) l.length≠ -1:=by simpa using h
  exact⟨_,rfl,by unfold Cd;rw[if_pos Agm],Xs⟩
 ·have e1:Bn (Hz l) l.length= -1:=by simpa using (show (Bn (Hz l) l.length != -1)=false by assumption)
  have e2:Bn (Ec l) l.length≠ -1:=by simpa using h
  exact⟨_,rfl,by unfold Cd;rw[if_neg Agm,if_pos Agm],Xs⟩
 ·have e1:Bn (Hz l) l.length= -1:=by simpa using (show (Bn (Hz l) l.length != -1)=false by assumption)
  have e2:Bn (Ec l) l.length= -1:=by simpa using (show (Bn (Ec l) l.length != -1)=false by assumption)
  have e3:Bn (Kg l) l.length≠ -1:=by simpa using h
  exact⟨_,rfl,by unfold Cd;rw[if_neg Agm,if_neg Agm,if_pos Agm],Xs⟩
 ·have e1:Bn (Hz l) l.length= -1:=by simpa using (show (Bn (Hz l) l.length != -1)=false by assumption)
  have e2:Bn (Ec l) l.length= -1:=by simpa using (show (Bn (Ec l) l.length != -1)=false by assumption)
  have e3:Bn (Kg l) l.length= -1:=by simpa using h
  exact⟨_,rfl,by unfold Cd;rw[if_neg Agm,if_neg Agm,if_neg Agm],Xs⟩
theorem Adj {N:List Tx}{l:List RItem}{cs:List AV}(hE:EL (PI N) l cs)(hl:l.length<=16)(hW:∀x∈l,Bv x)(hN:N.length<=2000):Bk N l cs:=by
 refine⟨hE,hl,fun x hx=>?_,fun x hx ho=>((hW x hx).2.1 ho).2.2,hN,fun x hx a ha=>?_⟩
 ·obtain⟨-,h2,h3⟩:=hW x hx;cases ho:x.out with
  |true=>
   obtain⟨-,q1,q2⟩:=h2 ho;exact⟨by simp[q2],by simp[q1],by simp[q2]⟩
  |false=>
   obtain⟨q1,-,q2,q3⟩:=h3 ho;have:=q1.2.2.1;exact⟨Agm,Agm,fun a ha=>by have:=(q3 a ha).2.2.1;omega⟩
 ·obtain⟨-,h2,h3⟩:=hW x hx;unfold Ae at ha;cases ho:x.out with
  |true=>
   obtain⟨-,q1,q2⟩:=h2 ho;simp[ho,q2]at ha
  |false=>
   obtain⟨q1,-,q2,q3⟩:=h3 ho;simp[ho]at ha;have hp:Da a->0<a.terms.length:=fun w=>by
    have:=w.2.1;cases hh:a.terms with
    |nil=>exact absurd hh this
    |cons y ys=>simp
   rcases ha with rfl|ha
   ·exact hp q1
   ·exact hp (q3 a ha)
theorem aH {l:List RItem}(h:(Cd l).1=0):Cd l=(0,0):=by
 unfold Cd at h⊢;split
 ·rename_i h1;rw[if_pos h1]at h;cases h
 ·rename_i h1;rw[if_neg h1]at h;split
  ·rename_i h2;rw[if_pos h2]at h;cases h
  ·rename_i h2;rw[if_neg h2]at h;split
   ·rename_i h3;rw[if_pos h3]at h;cases h
   ·rfl
def uJ (t:Tx)(n1:Nat)(c1:List AV)(n2:Nat)(c2:List AV):Prop:=
 ∃N l,Bz 16 t= .got l []/\Bk N l c2/\n1=N.length/\c1=N.map str/\n2=l.length/\(∀x∈l,∀a∈Ae x,VA a)/\∀x∈l,Bv x
theorem iZ (t:Tx)(I:St):ACalls Tryz.prog 37 [str t] I fun r I'=>∃idn n1 c1 idi n2 c2,r=tp [ag [sl idn n1 c1,sl idi n2 c2],sc (.int .i64 (Ax t).1),sc (.int .i64 (Ax t).2)]/\Keep I I'/\((Ax t).1=0->n1<=600/\uJ t n1 c1 n2 c2):=by
 refine Z9 41 [.cell 2 62,.tmp 3,.tmp 4] Tryz.func37 ?_;by_cases hL:600<t.length
 ·have ad:Ax t=(1,0):=by unfold Ax;rw[if_pos hL]
  have ac:Agt _:=ad;clear ad
  repeat' (first|refine Z1 ?_|(refine Z8 ?_;intro κ hκ)|(refine Z4 ?_;clear hκ κ)|(refine Z2 ?_ ?_<;>intro h ai<;>try exact Xp)|refine Z3 ?_|exact⟨⟩|(apply hκ.out;clear hκ κ))
  refine⟨_,rfl,1,0,[],1,0,[],by rw[ac.out],Xs,by rw[ac.out];intro h;simp at h⟩
 ·have aa:=Jy t;have ht:t.length<=1000:=Agm;have ap:RS 0 t (I.nobj+1) [] 1 t (((I.new [nilS,nilS]).new [str [],sc (.int .i64 0),nilS]).put (I.nobj+1) [str t,sc (.int .i64 0),nilS]):=by
   refine⟨?_,Nat.lt_succ_self _,.inl ⟨rfl,rfl⟩,List.suffix_refl _,by simp⟩;rw[Aj];simp[Mo,W3]
  have hR:=cS ht ap;have an:Keep I (((I.new [nilS,nilS]).new [str [],sc (.int .i64 0),nilS]).put (I.nobj+1) [str t,sc (.int .i64 0),nilS]):=(((Keep.refl I).new _).new _).put Agm _;cases hp:Bz 16 t with
  |bad e=>
   rw[hp]at hR aa;dsimp only at aa;have ad:Ax t=(2,((t.length-e.length:Nat):Int)):=by
    unfold Ax;rw[if_neg hL,aa,if_pos (Afg _)]
   have ac:Agt _:=ad;have HR:Agt _:=hR;have ao:Agt _:=an;clear ad aa ap hR hp an
   repeat' (first|refine Z1 ?_|(refine Z8 ?_;intro κ hκ)|(refine Z4 ?_;clear hκ κ)|(refine Z2 ?_ ?_<;>intro h ai<;>try exact Xp)|(refine Z5 ?_;refine Xi (HR.out) ?_;rintro _ _ ⟨n,ids,c,N',id',rfl,ae,ak,a4,ax⟩;(have af:=ae.keep.obj;have ah:=ae.keep.nobj;(try simp only[Aa,Ab,Ah]at ah)))|refine Z3 ?_|exact⟨⟩|(apply hκ.out;clear hκ κ))
   rename_i I1;have ab:=ak.obj;unfold Mo W3 at ab;simp only[Rd.rest]at ab;have a3:I1.obj I.nobj=[nilS,nilS]:=by
    rw[af _ Ags Agm,Ai Agm,Af (by rw[Aa];omega),Ap]
   have aj:Keep I I1:=KeepR.keep ao.out ae.keep Agm (.inl Agm);clear af;refine Bu Al (fun p=>p=I.nobj+1) [5] [0,1,2] [3,4,5] Agp (fun _ _ _ h=>h) ?_;intro κ hκ;have aw:∀i,Kept (fun j=>!([5]:List Nat).contains j) (fun p=>p=I.nobj+1) I1 i (I1.put I.nobj [nilS,nilS]):=fun i _ p hp hF=>by
    subst hF;simp[St.put]
   refine Z3 ?_;refine⟨fun p h=>h.elim,fun p h=>h.elim,fun p h=>by cases h;rfl,?_⟩
   try (refine And.intro (aw _) ?_)
   try (refine And.intro (aw _) ?_)
   repeat' (first|refine Z1 ?_|(refine Z8 ?_;intro κ hκ)|(refine Z4 ?_;clear hκ κ)|(refine Z2 ?_ ?_<;>intro h ai<;>try exact Xp)|refine Z3 ?_|exact⟨⟩|(apply hκ.out;clear hκ κ))
   refine⟨_,rfl,1,0,[],1,0,[],by rw[ac.out],aj.put (Adn _) _,by rw[ac.out];intro h;simp at h⟩
  |got l r=>
   rw[hp]at hR aa;dsimp only at aa;obtain⟨p1,p2,p3,p4⟩:=Nf ht hp;have av:=Px _ _ _ _ hp;have az:=(Iq _ _ _ _ hp).2.1;subst az;have ad:Ax t=Cd l:=by
    unfold Ax;rw[if_neg hL,aa,if_neg Agm,p2]
   have ac:Agt _:=ad;have HR:Agt _:=hR;have ao:Agt _:=an;have HP:Agt _:=hp;clear ad aa ap hR hp an p2 p1
   repeat' (first|refine Z1 ?_|(refine Z8 ?_;intro κ hκ)|(refine Z4 ?_;clear hκ κ)|(refine Z2 ?_ ?_<;>intro h ai<;>try exact Xp)|(refine Z5 ?_;first|(refine Xi (HR.out) ?_;rintro _ _ ⟨n,ids,c,N',id',rfl,ae,ak,a4,ax⟩;(have af:=ae.keep.obj;have ah:=ae.keep.nobj;(try simp only[Aa,Ab,Ah]at ah);have ab:=ak.obj;unfold Mo W3 at ab;obtain⟨rfl,a5⟩:n=l.length/\EL (PI N') l c:=ax;have ay:=Adj a5 p3 p4 (by have:=ak.len;omega)))|(refine Xi (Ue N' l c id' ids ay av _) ?_;rintro _ _ ⟨rfl,am⟩;(have kobf:=am.obj;have knof:=am.nobj;(try simp only[Aa,Ab,Ah]at knof))))|refine Z3 ?_|exact⟨⟩|(apply hκ.out;clear hκ κ))
   ·rename_i I1 a0 _ I2;have aj:Keep I I1:=KeepR.keep ao.out ae.keep Agm (.inl Agm);have au:=(((aj.new [nilS,nilS]).put aj.nobj _).trans am);exact⟨_,rfl,1,0,[],1,0,[],by rw[ac.out],au.put (Adn _) _,by rw[ac.out];intro h0;simp[h0]at h⟩
   ·rename_i I1 a0 _ I2;have aj:Keep I I1:=KeepR.keep ao.out ae.keep Agm (.inl Agm);have au:=(((aj.new [nilS,nilS]).put aj.nobj _).trans am);have hw:=aH (l:=l) (by simpa using h);exact⟨_,rfl,id',N'.length,N'.map str,ids,l.length,c,by rw[ac.out,hw],au.put (Adn _) _,fun _=>⟨by have:=ak.len;simp only[Rd.rest,Aem]at this;omega,N',l,HP.out,ay,rfl,rfl,rfl,av,p4⟩⟩
theorem X5 (t:Tx)(I:St):ACalls Tryz.prog 37 [str t] I fun r I'=>∃idn n1 c1 idi n2 c2,r=tp [ag [sl idn n1 c1,sl idi n2 c2],sc (.int .i64 (Ax t).1),sc (.int .i64 (Ax t).2)]/\Keep I I'/\((Ax t).1=0->uJ t n1 c1 n2 c2):=
 ACalls.mono (iZ t I) fun r I' ⟨idn,n1,c1,idi,n2,c2,h1,h2,h3⟩=>⟨idn,n1,c1,idi,n2,c2,h1,h2,fun h=>(h3 h).2⟩
theorem jW (t:Tx)(I:St):ACalls Tryz.prog 19 [str t] I fun r I'=>r=two (Ax t)/\Keep I I':=by
 refine Z9 15 [.tmp 2,.tmp 3] Tryz.func19 ?_
 repeat' (first|refine Z1 ?_|(refine Z8 ?_;intro κ hκ)|(refine Z4 ?_;clear hκ κ)|(refine Z2 ?_ ?_<;>intro h aa<;>try exact Xp)|(refine Z5 ?_;refine Xi (X5 t _) ?_;rintro _ _ ⟨idn,n1,c1,idi,n2,c2,rfl,hK,hb⟩;(clear hb))|refine Z3 ?_|exact⟨⟩|(apply hκ.out;clear hκ κ))
 exact⟨_,rfl,rfl,(hK.new _).put hK.nobj _⟩
open Go.RowKit (Below)
def st0:St:={obj:=fun _=>[],nobj:=0,top:=fun _=>0,ntop:=0,ver:=fun _=>0}
def gh0 (W:World):Gh:={blk:=fun _=>0,cur:=fun _=>0,cap:=fun _=>0,siz:=fun _=>0,per:=fun b _=>b<W.heap.size,base:=W.heap.size,w0:=W}
theorem inv0 (W:World)(hy:Abs.Hyp W.heap.size W):Abs.Inv (gh0 W) st0 W:=
 ⟨fun o h=>absurd h (Nat.not_lt_zero _),fun o o' h=>absurd h (Nat.not_lt_zero _),fun k h=>absurd h (Nat.not_lt_zero _),fun k k' h=>absurd h (Nat.not_lt_zero _),fun o k h=>absurd h (Nat.not_lt_zero _),
  fun b off h=>h,fun b off h=>h,Below.refl _ _,Adn _,hy⟩
end Go.Proofs.YtmoeoppbmhfbpabGreatDoorG
