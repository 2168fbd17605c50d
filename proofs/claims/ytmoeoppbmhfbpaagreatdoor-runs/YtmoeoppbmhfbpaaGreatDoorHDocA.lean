import Derived.Test.YtmoeoppbmhfbpaaGreatDoorHRspD
set_option maxHeartbeats 16000000
set_option maxRecDepth 100000
set_option linter.all false
namespace Go.Proofs.YtmoeoppbmhfbpaaGreatDoorH
open Go.Abs
theorem RAtom.ext' {a b:RAtom}(h1:a.nt=b.nt)(h2:a.pred=b.pred)(h3:a.terms=b.terms):a=b:=by cases a;cases b;simp_all
def L1 (μ:Tx->Tx)(t:Tx):Tx:=if Ag t=true then μ t else t
def Ik (μ:Tx->Tx)(a:RAtom):RAtom:=⟨a.nt,a.pred,a.terms.map (L1 μ)⟩
def N6 (μ:Tx->Tx)(x:RItem):RItem:=⟨false,Ik μ x.head,x.body.map (Ik μ)⟩
def U1 (a:RAtom):Prop:=∀t∈a.terms,Ag t=false
theorem C6 {μ:Tx->Tx}{t:Tx}(h:Ag t=false):L1 μ t=t:=by unfold L1;rw[if_neg (by simp[h])]
theorem Dw {μ:Tx->Tx}{t:Tx}(h:Ag t=true):L1 μ t=μ t:=by unfold L1;rw[if_pos h]
theorem Ic {α:Type}{f:α->α}:∀{l:List α},(∀x∈l,f x=x)->l.map f=l
 |[],_=>rfl
 |a::l,h=>by rw[Abg,h a (by simp),Ic fun x hx=>h x (by simp[hx])]
theorem Lu {μ:Tx->Tx}{a:RAtom}(h:U1 a):Ik μ a=a:=RAtom.ext' rfl rfl (Ic fun t ht=>C6 (h t ht))
def cmp (ν θ:Tx->Tx):Tx->Tx:=fun u=>L1 ν (θ u)
theorem kV (ν θ:Tx->Tx)(u:Tx):L1 ν (L1 θ u)=L1 (cmp ν θ) u:=by
 cases h:Ag u with
 |true=>rw[Dw h,Dw h];rfl
 |false=>rw[C6 h,C6 h,C6 h]
theorem Lv (ν θ:Tx->Tx)(a:RAtom):Ik ν (Ik θ a)=Ik (cmp ν θ) a:=RAtom.ext' rfl rfl (by
 show (a.terms.map (L1 θ)).map (L1 ν)=a.terms.map (L1 (cmp ν θ));rw[Abb]
 exact Acn fun u _=>kV ν θ u)
theorem oV {μ ν:Tx->Tx}{a:RAtom}(h:∀u∈a.terms,Ag u=true->μ u=ν u):Ik μ a=Ik ν a:=RAtom.ext' rfl rfl (Acn fun u hu=>by
 cases hv:Ag u with
 |true=>rw[Dw hv,Dw hv,h u hu hv]
 |false=>rw[C6 hv,C6 hv])
theorem vT (ν θ:Tx->Tx)(x:RItem):N6 ν (N6 θ x)=N6 (cmp ν θ) x:=by
 unfold N6;congr 1
 ·exact Lv ν θ x.head
 ·rw[Abb];exact Acn fun a _=>Lv ν θ a
def Mo (v t:Tx):Tx->Tx:=fun u=>if u=v then t else u
def Gq (v t:Tx)(a:RAtom):RAtom:=⟨a.nt,a.pred,a.terms.map fun u=>if u=v then t else u⟩
def Gp (v t:Tx)(x:RItem):RItem:=⟨false,Gq v t x.head,x.body.map (Gq v t)⟩
theorem lE {v t:Tx}(hv:Ag v=true)(a:RAtom):Gq v t a=Ik (Mo v t) a:=RAtom.ext' rfl rfl (Acn fun u _=>by
 cases h:Ag u with
 |true=>rw[Dw h];rfl
 |false=>rw[C6 h,if_neg (fun e=>by subst e;rw[hv]at h;cases h)])
theorem lD {v t:Tx}(hv:Ag v=true)(x:RItem):Gp v t x=N6 (Mo v t) x:=by
 unfold Gp N6;rw[lE hv];congr 1;exact Acn fun a _=>lE hv a
def J5 (j:Nat):List Tx->Nat->RItem->Option RItem
 |[],_,x=>some x
 |a::tl,k,x=>match (x.body[j]?).bind (fun b=>b.terms[k]?)with
  |none=>none
  |some t=>if t=a then J5 j tl (k+1) x else if Ag t=true then J5 j tl (k+1) (Gp t a x)else none
def Iw (x:RItem)(j:Nat)(t:RAtom):Option RItem:=match x.body[j]? with
 |none=>none
 |some b=>if t.nt=b.nt/\t.pred=b.pred/\t.terms.length=b.terms.length then J5 j t.terms 0 x else none
def Th (θ:Tx->Tx):Prop:=∀u,Ag u=true->θ u=u\/Ag (θ u)=false
def Mtc (μ:Tx->Tx)(j k:Nat)(tl:List Tx)(x:RItem):Prop:=∃b,x.body[j]?=some b/\∀(i:Nat) (a:Tx),tl[i]?=some a->∃t,b.terms[k+i]?=some t/\L1 μ t=a
theorem yH {x:RItem}(h:x.out=false):N6 (fun u=>u) x=x:=by
 have ht:∀t,L1 (fun u=>u) t=t:=fun t=>by unfold L1;split<;>rfl
 have ha:∀a,Ik (fun u=>u) a=a:=fun a=>RAtom.ext' rfl rfl (Ic fun t _=>ht t);unfold N6;rw[ha,Ic fun a _=>ha a];cases x;simp_all
theorem vA {μ:Tx->Tx}{t a u:Tx}(ha:Ag a=false)(hm:μ t=a)(hu:Ag u=true):cmp μ (Mo t a) u=μ u:=by
 unfold cmp Mo;split
 ·rename_i e;subst e;rw[C6 ha,hm]
 ·exact Dw hu
theorem Mtc.put {μ:Tx->Tx}{j k:Nat}{tl:List Tx}{x:RItem}{t a:Tx}(h:Mtc μ j k (a::tl) x)(ht:Ag t=true)(ha:Ag a=false)(hm:μ t=a):Mtc μ j (k+1) tl (N6 (Mo t a) x):=by
 obtain⟨b,hb,h⟩:=h;refine⟨Ik (Mo t a) b,by simp[N6,hb],fun i a' hi=>?_⟩;obtain⟨t',h1,h2⟩:=h (i+1) a' (by simpa using hi);refine⟨L1 (Mo t a) t',?_,?_⟩
 ·show (b.terms.map (L1 (Mo t a)))[k+1+i]?=_;rw[Aa6,show k+1+i=k+(i+1)by omega,h1];rfl
 ·rw[kV];cases hv:Ag t' with
  |true=>rw[Dw hv,vA ha hm hv,<-h2,Dw hv]
  |false=>rw[C6 hv,<-h2,C6 hv]
theorem Mtc.tail {μ:Tx->Tx}{j k:Nat}{tl:List Tx}{x:RItem}{a:Tx}(h:Mtc μ j k (a::tl) x):Mtc μ j (k+1) tl x:=by
 obtain⟨b,hb,h⟩:=h;refine⟨b,hb,fun i a' hi=>?_⟩;obtain⟨t',h1,h2⟩:=h (i+1) a' (by simpa using hi);exact⟨t',by rw[show k+1+i=k+(i+1)by omega];exact h1,h2⟩
theorem Zc (j:Nat):∀(tl:List Tx) (k:Nat) (x y:RItem),J5 j tl k x=some y->x.out=false->(∀a∈tl,Ag a=false)->
  ∃θ,Th θ/\y=N6 θ x/\(∀(i:Nat) (a:Tx),tl[i]?=some a->∃b,y.body[j]?=some b/\b.terms[k+i]?=some a)/\∀μ,Mtc μ j k tl x->∀u,Ag u=true->L1 μ (θ u)=μ u
 |[],k,x,y,h,ho,_=>by
  cases h;exact⟨fun u=>u,fun u _=>.inl rfl,(yH ho).symm,fun i a h=>by simp at h,fun μ _ u hu=>Dw hu⟩
 |a::tl,k,x,y,h,ho,hg=>by
  have ha:=hg a (by simp);have ab:∀a∈tl,Ag a=false:=fun b hb=>hg b (by simp[hb]);unfold J5 at h;cases hb:x.body[j]? with
  |none=>rw[hb]at h;cases h
  |some b=>
   rw[hb]at h;cases ht:b.terms[k]? with
   |none=>simp[ht]at h
   |some t=>
    simp only[Abo,ht]at h;split at h
    ·rename_i e;subst e;obtain⟨θ,h1,h2,h3,h4⟩:=Zc j tl (k+1) x y h ho ab;refine⟨θ,h1,h2,fun i a' hi=>?_,fun μ hm=>h4 μ hm.tail⟩;cases i with
     |zero=>
      simp at hi;subst hi;exact⟨Ik θ b,by rw[h2];simp[N6,hb],by show (b.terms.map (L1 θ))[k+0]?=_;rw[Aa6,Aay,ht,Ab3,C6 ha]⟩
     |succ i=>
      obtain⟨b',e1,e2⟩:=h3 i a' (by simpa using hi);exact⟨b',e1,by rw[show k+(i+1)=k+1+i by omega];exact e2⟩
    ·split at h
     ·rename_i hv;rw[lD hv]at h;obtain⟨θ,h1,h2,h3,h4⟩:=Zc j tl (k+1) _ y h rfl ab;refine⟨cmp θ (Mo t a),fun u hu=>?_,by rw[h2,vT],fun i a' hi=>?_,fun μ hm u hu=>?_⟩
      ·unfold cmp Mo;split
       ·exact .inr (by rw[C6 ha];exact ha)
       ·rw[Dw hu];exact h1 u hu
      ·cases i with
       |zero=>
        simp at hi;subst hi;refine⟨Ik θ (Ik (Mo t a) b),by rw[h2];simp[N6,hb],?_⟩;show ((b.terms.map (L1 (Mo t a))).map (L1 θ))[k+0]?=_;rw[Aa6,Aa6,Aay,ht,Ab3,Ab3,Dw hv];have:Mo t a t=a:=by simp[Mo]
        rw[this,C6 ha]
       |succ i=>
        obtain⟨b',e1,e2⟩:=h3 i a' (by simpa using hi);exact⟨b',e1,by rw[show k+(i+1)=k+1+i by omega];exact e2⟩
      ·have aa:μ t=a:=by
        obtain⟨b',ac,h'⟩:=hm;rw[hb]at ac;cases ac;obtain⟨t',e1,e2⟩:=h' 0 a (by simp);rw[Aay,ht]at e1;cases e1;rw[Dw hv]at e2;exact e2
       have ad:=hm.put hv ha aa;unfold cmp Mo;split
       ·rename_i e;subst e;rw[C6 ha,C6 ha,aa]
       ·rw[Dw hu];exact h4 μ ad u hu
     ·cases h
theorem Pr (j:Nat):∀(tl:List Tx) (k:Nat) (x:RItem) (μ:Tx->Tx),Mtc μ j k tl x->(∀a∈tl,Ag a=false)->∃y,J5 j tl k x=some y
 |[],k,x,μ,_,_=>⟨x,rfl⟩
 |a::tl,k,x,μ,hm,hg=>by
  have ha:=hg a (by simp);have aa:∀a∈tl,Ag a=false:=fun b hb=>hg b (by simp[hb]);obtain⟨b,hb,h'⟩:=id hm;obtain⟨t,e1,e2⟩:=h' 0 a (by simp);rw[Aay]at e1;unfold J5;rw[hb];simp only[Abo,e1];split
  ·exact Pr j tl (k+1) x μ hm.tail aa
  ·rename_i ab;cases hv:Ag t with
   |true=>
    rw[if_pos rfl,lD hv];rw[Dw hv]at e2;exact Pr j tl (k+1) _ μ (hm.put hv ha e2) aa
   |false=>rw[C6 hv]at e2;exact absurd e2 ab
theorem Q3 {x:RItem}{j:Nat}{t:RAtom}{y:RItem}(h:Iw x j t=some y)(ho:x.out=false)(hg:U1 t):∃b,x.body[j]?=some b/\∃θ,Th θ/\y=N6 θ x/\y.body[j]?=some t/\∀μ,Ik μ b=t->∀u,Ag u=true->L1 μ (θ u)=μ u:=by
 unfold Iw at h;split at h
 ·cases h
 ·rename_i b hb;split at h
  ·rename_i hc;obtain⟨c1,c2,c3⟩:=hc;obtain⟨θ,h1,h2,h3,h4⟩:=Zc j _ _ _ _ h ho hg;refine⟨b,hb,θ,h1,h2,?_,fun μ hm=>h4 μ ⟨b,hb,fun i a hi=>?_⟩⟩
   ·have hy:y.body[j]?=some (Ik θ b):=by rw[h2];simp[N6,hb]
    rw[hy];congr 1;refine RAtom.ext' c1.symm c2.symm (Abd fun i=>?_);by_cases hi:i<t.terms.length
    ·obtain⟨b',e1,e2⟩:=h3 i _ (Aav hi);rw[hy]at e1;cases e1;rw[Abi]at e2;rw[e2,Aav hi]
    ·rw[Aa7 (by show (b.terms.map (L1 θ)).length<=i;rw[Ace];omega),Aa7 Ad2]
   ·rw[Abi];subst hm;have hl:i<b.terms.length:=by have:=(Aau.1 hi).1;rw[c3]at this;exact this
    refine⟨b.terms[i],Aav hl,?_⟩;have:(b.terms.map (L1 μ))[i]?=some a:=hi;rw[Aa6,Aav hl,Ab3]at this;exact Ac9 this
  ·cases h
theorem oR {x:RItem}{j:Nat}{t b:RAtom}{μ:Tx->Tx}(hb:x.body[j]?=some b)(hm:Ik μ b=t)(hg:U1 t):∃y,Iw x j t=some y:=by
 unfold Iw;rw[hb];subst hm;simp only;rw[if_pos ⟨rfl,rfl,by simp[Ik]⟩];refine Pr j _ _ _ μ ⟨b,hb,fun i a hi=>?_⟩ hg;have hi:(b.terms.map (L1 μ))[i]?=some a:=hi;rw[Aa6]at hi;cases ht:b.terms[i]? with
 |none=>rw[ht]at hi;cases hi
 |some t'=>
  rw[ht]at hi;exact⟨t',by rw[Abi];exact ht,Ac9 hi⟩
def He (fz:Bool)(a:RAtom):Bool:=fz||!a.nt
def U6 (a:RAtom):RAtom:=⟨false,a.pred,a.terms⟩
def Pw (fz:Bool)(A:List RAtom)(x:RItem)(h:RAtom):Prop:=∃μ,(∀a∈x.body,He fz a=true->Ik μ a∈A)/\(∀a∈x.body,He fz a=false->U6 (Ik μ a)∉A)/\h=Ik μ x.head
theorem Pb {α:Type}{l:List α}{i j:Nat}{a:α}(h:l[i]?=some a)(hn:i≠j):a∈l.eraseIdx j:=by
 have hi:=(Aau.1 h).1;rw[List.eraseIdx_eq_take_drop_succ];rcases Nat.lt_or_gt_of_ne hn with h'|h'
 ·exact Adk _ (Aax (i:=i) (by rw[Aas,if_pos h'];exact h))
 ·exact List.mem_append_right _ (Aax (i:=i-(j+1)) (by rw[Aat,show j+1+(i-(j+1))=i by omega];exact h))
theorem bW {fz:Bool}{A:List RAtom}{x:RItem}{h:RAtom}(hA:∀a∈A,U1 a)(ho:x.out=false){j:Nat}{b:RAtom}(hb:x.body[j]?=some b)(hp:He fz b=true):
  Pw fz A x h↔∃t∈A,∃y,Iw x j t=some y/\Pw fz A (fK y j) h:=by
 constructor
 ·rintro⟨μ,h1,h2,rfl⟩;have ht:=h1 b (Aax hb) hp;obtain⟨y,hy⟩:=oR (μ:=μ) hb rfl (hA _ ht);refine⟨_,ht,y,hy,μ,?_⟩;obtain⟨b',ac,θ,-,rfl,-,h4⟩:=Q3 hy ho (hA _ ht);rw[hb]at ac;cases ac;have hE:∀a,Ik μ (Ik θ a)=Ik μ a:=fun a=>by rw[Lv];exact oV fun u _ hu=>h4 μ rfl u hu
  have hM:∀a∈(fK (N6 θ x) j).body,∃a'∈x.body,a=Ik θ a':=fun a ha=>by
   have:=List.mem_of_mem_eraseIdx ha;obtain⟨a',h',rfl⟩:=Acf.1 this;exact⟨a',h',rfl⟩
  refine⟨fun a ha aa=>?_,fun a ha aa=>?_,(hE _).symm⟩
  ·obtain⟨a',h',rfl⟩:=hM a ha;rw[hE];exact h1 a' h' aa
  ·obtain⟨a',h',rfl⟩:=hM a ha;rw[hE];exact h2 a' h' aa
 ·rintro⟨t,ht,y,hy,ν,h1,h2,rfl⟩;obtain⟨b',ac,θ,-,rfl,ae,-⟩:=Q3 hy ho (hA _ ht);rw[hb]at ac;cases ac;refine⟨cmp ν θ,fun a ha aa=>?_,fun a ha aa=>?_,by rw[<-Lv];rfl⟩
  ·obtain⟨i,hi⟩:=Acp ha;have ad:(N6 θ x).body[i]?=some (Ik θ a):=by simp[N6,hi]
   rw[<-Lv];by_cases ab:i=j
   ·subst ab;rw[ad]at ae;cases ae;rw[Lu (hA _ ht)];exact ht
   ·exact h1 _ (Pb ad ab) aa
  ·obtain⟨i,hi⟩:=Acp ha;have ad:(N6 θ x).body[i]?=some (Ik θ a):=by simp[N6,hi]
   rw[<-Lv];by_cases ab:i=j
   ·subst ab;rw[hb]at hi;cases hi;rw[hp]at aa;cases aa
   ·exact h2 _ (Pb ad ab) aa
def Zh (fz:Bool)(x:RItem):Prop:=∀v,Ag v=true->(v∈x.head.terms\/∃a∈x.body,He fz a=false/\v∈a.terms)->∃a∈x.body,He fz a=true/\v∈a.terms
theorem qG {θ:Tx->Tx}(hT:Th θ){ts:List Tx}{v:Tx}(hv:Ag v=true)(h:v∈ts.map (L1 θ)):v∈ts/\θ v=v:=by
 obtain⟨u,hu,e⟩:=Acf.1 h;cases aa:Ag u with
 |false=>rw[C6 aa]at e;subst e;rw[hv]at aa;cases aa
 |true=>
  rw[Dw aa]at e;rcases hT u aa with h'|h'
  ·rw[h']at e;subst e;exact⟨hu,h'⟩
  ·rw[e,hv]at h';cases h'
theorem qS {fz:Bool}{x y:RItem}{j:Nat}{t:RAtom}(hs:Zh fz x)(ho:x.out=false)(hg:U1 t)(hy:Iw x j t=some y):Zh fz (fK y j):=by
 obtain⟨b,hb,θ,hT,rfl,aa,-⟩:=Q3 hy ho hg;intro v hv h;have hx:θ v=v/\(v∈x.head.terms\/∃a∈x.body,He fz a=false/\v∈a.terms):=by
  rcases h with h|⟨a,ha,hp,h⟩
  ·obtain⟨h1,h2⟩:=qG hT hv h;exact⟨h2,.inl h1⟩
  ·obtain⟨a',h',rfl⟩:=Acf.1 (List.mem_of_mem_eraseIdx ha);obtain⟨h1,h2⟩:=qG hT hv h;exact⟨h2,.inr ⟨a',h',hp,h1⟩⟩
 obtain⟨a,ha,hp,ad⟩:=hs v hv hx.2;obtain⟨i,hi⟩:=Acp ha;have ab:(N6 θ x).body[i]?=some (Ik θ a):=by simp[N6,hi]
 have ac:v∈(Ik θ a).terms:=Acf.2 ⟨v,ad,by rw[Dw hv,hx.1]⟩;have ae:i≠j:=fun e=>by
  subst e;rw[ab]at aa;cases aa;have:=hg v ac;rw[hv]at this;cases this
 exact⟨_,Pb ab ae,hp,ac⟩
theorem cD {fz:Bool}{x:RItem}(hs:Zh fz x)(hn:∀a∈x.body,He fz a=false):U1 x.head/\∀a∈x.body,U1 a:=by
 have:∀v,Ag v=true->¬(v∈x.head.terms\/∃a∈x.body,He fz a=false/\v∈a.terms):=fun v hv h=>by
  obtain⟨a,ha,hp,-⟩:=hs v hv h;rw[hn a ha]at hp;cases hp
 refine⟨fun t ht=>?_,fun a ha t ht=>?_⟩
 ·cases hv:Ag t with
  |false=>rfl
  |true=>exact absurd (.inl ht) (this t hv)
 ·cases hv:Ag t with
  |false=>rfl
  |true=>exact absurd (.inr ⟨a,ha,hn a ha,ht⟩) (this t hv)
theorem bY {fz:Bool}{A:List RAtom}{x:RItem}{h:RAtom}(hs:Zh fz x)(hn:∀a∈x.body,He fz a=false):Pw fz A x h↔(∀a∈x.body,U6 a∉A)/\h=x.head:=by
 obtain⟨g1,g2⟩:=cD hs hn;constructor
 ·rintro⟨μ,-,h2,rfl⟩;exact⟨fun a ha=>by have:=h2 a ha (hn a ha);rw[Lu (g2 a ha)]at this;exact this,Lu g1⟩
 ·rintro⟨h2,rfl⟩;exact⟨fun u=>u,fun a ha hp=>(by rw[hn a ha]at hp;cases hp),fun a ha _=>by rw[Lu (g2 a ha)];exact h2 a ha,(Lu g1).symm⟩
theorem uI {fz:Bool}{A:List RAtom}{x:RItem}{h:RAtom}(hA:∀a∈A,U1 a)(hs:Zh fz x)(hS:Pw fz A x h):U1 h:=by
 obtain⟨μ,h1,-,rfl⟩:=hS;intro t ht;obtain⟨u,hu,rfl⟩:=Acf.1 ht;cases hv:Ag u with
 |false=>rw[C6 hv];exact hv
 |true=>
  obtain⟨a,ha,hp,hm⟩:=hs u hv (.inl hu);exact hA _ (h1 a ha hp) _ (Acf.2 ⟨u,hm,rfl⟩)
theorem qM {fz:Bool}{A:List RAtom}{x:RItem}{h:RAtom}(hg:U1 x.head)(hS:Pw fz A x h):h=x.head:=by
 obtain⟨μ,-,-,rfl⟩:=hS;exact Lu hg
def Clean (t:Tx):Prop:=(∀b∈t,b≠(33:UInt8)/\b≠44/\b≠46)/\t.length<=1000
def clA (a:RAtom):Prop:=Clean a.pred/\(∀t∈a.terms,Clean t)/\a.terms.length<=1000
def Zp (x:RItem):Prop:=x.out=false/\clA x.head/\∀a∈x.body,clA a
def Jq (a:RAtom):Tx:=(if a.nt=true then [33]else [])++(a.pred++a.terms.flatMap fun t=>44::t)
def Ed (x:RItem):Tx:=(x.head::x.body).flatMap fun a=>Jq a++[46]
theorem Sg {c:UInt8}:∀{u v r s:Tx},c∉u->c∉v->u++c::r=v++c::s->u=v/\r=s
 |[],[],r,s,_,_,h=>by simpa using h
 |[],b::v,r,s,_,h2,h=>by simp at h h2;exact absurd h.1 h2.1
 |b::u,[],r,s,h1,_,h=>by simp at h h1;exact absurd h.1.symm h1.1
 |b::u,d::v,r,s,h1,h2,h=>by
  simp at h h1 h2;obtain⟨e1,e2⟩:=Sg h1.2 h2.2 h.2;exact⟨by rw[h.1,e1],e2⟩
theorem V1:∀{ts us:List Tx} {p q:Tx},(44:UInt8)∉p->(44:UInt8)∉q->(∀t∈ts,(44:UInt8)∉t)->(∀t∈us,(44:UInt8)∉t)->p++(ts.flatMap fun t=>44::t)=q++(us.flatMap fun t=>44::t)->p=q/\ts=us
 |[],[],p,q,_,_,_,_,h=>by simpa using h
 |[],u::us,p,q,hp,_,_,_,h=>by
  simp only[Ab8,Abc,Aca,Aci]at h;exact absurd (by rw[h];simp) hp
 |t::ts,[],p,q,_,hq,_,_,h=>by
  simp only[Ab8,Abc,Aca,Aci]at h;exact absurd (by rw[<-h];simp) hq
 |t::ts,u::us,p,q,hp,hq,ht,hu,h=>by
  simp only[Aca,Aci]at h;obtain⟨e1,e2⟩:=Sg hp hq h;obtain⟨e3,e4⟩:=V1 (ht t (by simp)) (hu u (by simp)) (fun x hx=>ht x (by simp[hx])) (fun x hx=>hu x (by simp[hx])) e2;exact⟨e1,by rw[e3,e4]⟩
theorem Clean.no44 {t:Tx}(h:Clean t):(44:UInt8)∉t:=fun hm=>(h.1 _ hm).2.1 rfl
theorem Clean.no33 {t:Tx}(h:Clean t):(33:UInt8)∉t:=fun hm=>(h.1 _ hm).1 rfl
theorem Clean.no46 {t:Tx}(h:Clean t):(46:UInt8)∉t:=fun hm=>(h.1 _ hm).2.2 rfl
theorem clA.tail33 {a:RAtom}(h:clA a):(33:UInt8)∉a.pred++a.terms.flatMap fun t=>44::t:=by
 intro hm;rcases Ab2.1 hm with h'|h'
 ·exact h.1.no33 h'
 ·obtain⟨t,ht,hb⟩:=Acl.1 h';rcases Acd.1 hb with aa|aa
  ·exact absurd aa (by decide)
  ·exact (h.2.1 t ht).no33 aa
theorem clA.seg46 {a:RAtom}(h:clA a):(46:UInt8)∉Jq a:=by
 intro hm;unfold Jq at hm;rcases Ab2.1 hm with h'|h'
 ·split at h'
  ·simp at h'
  ·simp at h'
 ·rcases Ab2.1 h' with h'|h'
  ·exact h.1.no46 h'
  ·obtain⟨t,ht,hb⟩:=Acl.1 h';rcases Acd.1 hb with aa|aa
   ·exact absurd aa (by decide)
   ·exact (h.2.1 t ht).no46 aa
theorem uK {a b:RAtom}(ha:clA a)(hb:clA b)(h:Jq a=Jq b):a=b:=by
 have hnt:a.nt=b.nt/\a.pred++(a.terms.flatMap fun t=>44::t)=b.pred++(b.terms.flatMap fun t=>44::t):=by
  unfold Jq at h;cases h1:a.nt with
  |true=>
   cases h2:b.nt with
   |true=>rw[h1,h2]at h;simpa using h
   |false=>
    rw[h1,h2]at h;simp only[if_true,Abq,if_false,Ack,Aci]at h;exact absurd (by rw[<-h];simp) hb.tail33
  |false=>
   cases h2:b.nt with
   |false=>rw[h1,h2]at h;simpa using h
   |true=>
    rw[h1,h2]at h;simp only[if_true,Abq,if_false,Ack,Aci]at h;exact absurd (by rw[h];simp) ha.tail33
 obtain⟨e1,e2⟩:=V1 ha.1.no44 hb.1.no44 (fun t ht=>(ha.2.1 t ht).no44) (fun t ht=>(hb.2.1 t ht).no44) hnt.2;exact RAtom.ext' hnt.1 e1 e2
theorem dY:∀{l m:List RAtom},(∀a∈l,clA a)->(∀a∈m,clA a)->(l.flatMap fun a=>Jq a++[46])=(m.flatMap fun a=>Jq a++[46])->l=m
 |[],[],_,_,_=>rfl
 |[],b::m,_,_,h=>by simp at h
 |a::l,[],_,_,h=>by simp at h
 |a::l,b::m,h1,h2,h=>by
  simp only[Aca,Abl,List.singleton_append]at h;obtain⟨e1,e2⟩:=Sg (h1 a (by simp)).seg46 (h2 b (by simp)).seg46 h;rw[uK (h1 a (by simp)) (h2 b (by simp)) e1,dY (fun x hx=>h1 x (by simp[hx])) (fun x hx=>h2 x (by simp[hx])) e2]
theorem N4 {x y:RItem}(hx:Zp x)(hy:Zp y)(h:Ed x=Ed y):x=y:=by
 have:=dY (l:=x.head::x.body) (m:=y.head::y.body) (fun a ha=>by
  rcases Acd.1 ha with rfl|ha
  ·exact hx.2.1
  ·exact hx.2.2 a ha) (fun a ha=>by
  rcases Acd.1 ha with rfl|ha
  ·exact hy.2.1
  ·exact hy.2.2 a ha) h
 have h1:=hx.1;have h2:=hy.1;cases x;cases y;simp_all
theorem wD {x y:RItem}{j:Nat}{t:RAtom}(hc:Zp x)(ht:clA t)(hg:U1 t)(hy:Iw x j t=some y):Zp (fK y j):=by
 have hK:∀(tl:List Tx) (k:Nat) (x y:RItem),Zp x->(∀a∈tl,Clean a)->J5 j tl k x=some y->Zp y:=by
  intro tl;induction tl with
  |nil=>intro k x y h _ e;cases e;exact h
  |cons a tl ih=>
   intro k x y h ha e;unfold J5 at e;split at e
   ·cases e
   ·split at e
    ·exact ih _ _ _ h (fun b hb=>ha b (by simp[hb])) e
    ·split at e
     ·refine ih _ _ _ ⟨rfl,?_,?_⟩ (fun b hb=>ha b (by simp[hb])) e
      ·refine⟨h.2.1.1,fun u hu=>?_,by show (x.head.terms.map _).length<=1000;rw[Ace];exact h.2.1.2.2⟩;obtain⟨w,hw,rfl⟩:=Acf.1 hu;split
       ·exact ha a (by simp)
       ·exact h.2.1.2.1 w hw
      ·intro b hb;obtain⟨b',aa,rfl⟩:=Acf.1 hb;refine⟨(h.2.2 b' aa).1,fun u hu=>?_,by show (b'.terms.map _).length<=1000;rw[Ace];exact (h.2.2 b' aa).2.2⟩;obtain⟨w,hw,rfl⟩:=Acf.1 hu;split
       ·exact ha a (by simp)
       ·exact (h.2.2 b' aa).2.1 w hw
     ·cases e
 unfold Iw at hy;split at hy
 ·cases hy
 ·split at hy
  ·have:=hK _ _ _ _ hc ht.2.1 hy;exact⟨rfl,this.2.1,fun a ha=>this.2.2 a (List.mem_of_mem_eraseIdx ha)⟩
  ·cases hy
def DoneX (fz:Bool)(A O:List RAtom)(x:RItem):Prop:=∀h,Pw fz A x h->h∈A\/h∈O
theorem DoneX.mono {fz:Bool}{A O O':List RAtom}{x:RItem}(h:DoneX fz A O x)(ho:∀a∈O,a∈O'):DoneX fz A O' x:=fun a ha=>(h a ha).imp id (ho a)
def SeenOk (fz:Bool)(A O:List RAtom)(mo:Int)(S:Tx->Prop)(m:Nat):Prop:=∀y,Zp y->y.body.length<=m->S (Ed y)->(O.length:Int)<=mo->DoneX fz A O y
structure Uk (fz:Bool)(A:List RAtom)(mo:Int)(x:RItem)(O:List RAtom)(S:Tx->Prop)(O':List RAtom)(S':Tx->Prop):Prop where
 ext:∃nw,O'=O++nw/\∀h∈nw,Pw fz A x h/\h∉A
 nd:O'.Nodup
 len:(O'.length:Int)<=mo+1
 done:(O'.length:Int)<=mo->DoneX fz A O' x
 seen:SeenOk fz A O' mo S' x.body.length
 sub:∀s,S s->S' s
 new:∀y,Zp y->S' (Ed y)->S (Ed y)\/y.body.length<=x.body.length
theorem SeenOk.mono {fz:Bool}{A O O':List RAtom}{mo:Int}{S S':Tx->Prop}{m m':Nat}(h:SeenOk fz A O mo S m)(he:∃nw,O'=O++nw)(hm:m'<=m)(hS:∀y,Zp y->y.body.length<=m'->S' (Ed y)->S (Ed y)):SeenOk fz A O' mo S' m':=fun y hy hl hs aa=>by
 obtain⟨nw,rfl⟩:=he;exact (h y hy Ad2 (hS y hy hl hs) (by simp at aa;omega)).mono fun a ha=>Adk _ ha
theorem Pg {fz:Bool}{A O:List RAtom}{mo:Int}{x:RItem}{S:Tx->Prop}(ab:O.Nodup)(aa:(O.length:Int)<=mo+1)(hS:SeenOk fz A O mo S x.body.length)(h:(O.length:Int)<=mo->DoneX fz A O x):Uk fz A mo x O S O S:=
 ⟨⟨[],by simp,fun h hh=>by simp at hh⟩,ab,aa,h,hS,fun _ h=>h,fun y hy h=>.inl h⟩
theorem qQ {fz:Bool}{A O O':List RAtom}{mo:Int}{x:RItem}{S:Tx->Prop}(hx:Zp x)(hS:SeenOk fz A O mo S x.body.length)(he:∃nw,O'=O++nw)(hd:(O'.length:Int)<=mo->DoneX fz A O' x):SeenOk fz A O' mo (fun s=>S s\/s=Ed x) x.body.length:=fun y hy hl hs aa=>by
 rcases hs with hs|hs
 ·obtain⟨nw,rfl⟩:=he;exact (hS y hy hl hs (by simp at aa;omega)).mono fun a ha=>Adk _ ha
 ·rw[N4 hy hx hs];exact hd aa
theorem W0 {fz:Bool}{A O O':List RAtom}{mo:Int}{x:RItem}{S:Tx->Prop}(hx:Zp x)(ab:O.Nodup)(ac:(O.length:Int)<=mo)(hS:SeenOk fz A O mo S x.body.length)(hs:Zh fz x)(hn:∀a∈x.body,He fz a=false)
  (aa:x.head∉A/\x.head∉O) (hO:((∀a∈x.body,U6 a∉A)/\O'=O++[x.head])\/(¬(∀a∈x.body,U6 a∉A)/\O'=O)):Uk fz A mo x O S O' (fun s=>S s\/s=Ed x):=by
 have he:∃nw,O'=O++nw:=by
  rcases hO with⟨-,rfl⟩|⟨-,rfl⟩
  ·exact⟨_,rfl⟩
  ·exact⟨[],by simp⟩
 have hd:DoneX fz A O' x:=fun h hh=>by
  rw[bY hs hn]at hh;rcases hO with⟨-,rfl⟩|⟨h',-⟩
  ·rw[hh.2];exact .inr (by simp)
  ·exact absurd hh.1 h'
 refine⟨?_,?_,?_,fun _=>hd,qQ hx hS he fun _=>hd,fun _ h=>.inl h,fun y hy h=>?_⟩
 ·rcases hO with⟨h',rfl⟩|⟨-,rfl⟩
  ·exact⟨_,rfl,fun h hh=>by
    rw[Acx]at hh;subst hh
    exact⟨(bY hs hn).2 ⟨h',rfl⟩,aa.1⟩⟩
  ·exact⟨[],by simp,fun h hh=>by simp at hh⟩
 ·rcases hO with⟨-,rfl⟩|⟨-,rfl⟩
  ·rw[Adf];exact⟨ab,by simp,fun a ha b hb=>by rw[Acx]at hb;subst hb;exact fun e=>aa.2 (e ▸ ha)⟩
  ·exact ab
 ·rcases hO with⟨-,rfl⟩|⟨-,rfl⟩
  ·simp;omega
  ·omega
 ·rcases h with h|h
  ·exact .inl h
  ·rw[N4 hy hx h];exact .inr (Aak _)
structure K9 (fz:Bool)(A:List RAtom)(mo:Int)(x:RItem)(j:Nat)(O:List RAtom)(S:Tx->Prop)(k:Nat)(O':List RAtom)(S':Tx->Prop):Prop where
 ext:∃nw,O'=O++nw/\∀h∈nw,Pw fz A x h/\h∉A
 nd:O'.Nodup
 len:(O'.length:Int)<=mo+1
 done:(O'.length:Int)<=mo->∀t∈A.take k,∀y,Iw x j t=some y->DoneX fz A O' (fK y j)
 seen:SeenOk fz A O' mo S' (x.body.length-1)
 sub:∀s,S s\/s=Ed x->S' s
 new:∀y,Zp y->S' (Ed y)->S (Ed y)\/y=x\/y.body.length<=x.body.length-1
theorem iD {fz:Bool}{A O:List RAtom}{mo:Int}{x:RItem}{j:Nat}{S:Tx->Prop}(hx:Zp x)(hb:0<x.body.length)(ab:O.Nodup)(aa:(O.length:Int)<=mo+1)(hS:SeenOk fz A O mo S x.body.length):K9 fz A mo x j O S 0 O (fun s=>S s\/s=Ed x):=
 ⟨⟨[],by simp,fun h hh=>by simp at hh⟩,ab,aa,fun _ t ht=>by simp at ht,
  hS.mono ⟨[],by simp⟩ Ad2 (fun y hy hl hs=>by
   rcases hs with hs|hs
   ·exact hs
   ·have:=N4 hy hx hs;subst this;omega),
  fun _ h=>h,fun y hy h=>by
   rcases h with h|h
   ·exact .inl h
   ·exact .inr (.inl (N4 hy hx h))⟩
theorem nZ {fz:Bool}{A:List RAtom}{mo:Int}{x:RItem}{j:Nat}{O:List RAtom}{S:Tx->Prop}{k:Nat}{O':List RAtom}{S':Tx->Prop}(h:K9 fz A mo x j O S k O' S'){t:RAtom}(ht:A[k]?=some t)(hn:Iw x j t=none):K9 fz A mo x j O S (k+1) O' S':=
 ⟨h.ext,h.nd,h.len,fun hl t' aa y hy=>(by
  rw[Aa8,ht]at aa;rcases Ab2.1 aa with h'|h'
  ·exact h.done hl t' h' y hy
  ·simp at h';subst h';rw[hn]at hy;cases hy),h.seen,h.sub,h.new⟩
theorem nY {fz:Bool}{A:List RAtom}{mo:Int}{x:RItem}{j:Nat}{b:RAtom}{O:List RAtom}{S:Tx->Prop}{k:Nat}{O':List RAtom}{S':Tx->Prop}(hA:∀a∈A,U1 a)(ho:x.out=false)(hb:x.body[j]?=some b)(hp:He fz b=true)
  (h:K9 fz A mo x j O S k O' S') {t:RAtom} (ht:A[k]?=some t) {y:RItem} (hy:Iw x j t=some y) {O2:List RAtom} {S2:Tx->Prop} (g:Uk fz A mo (fK y j) O' S' O2 S2) (hl:(fK y j).body.length=x.body.length-1):K9 fz A mo x j O S (k+1) O2 S2:=by
 obtain⟨n1,e1,f1⟩:=h.ext;obtain⟨n2,e2,f2⟩:=g.ext;have ad:=Aax ht;refine⟨⟨n1++n2,by rw[e2,e1,Abl],fun a ha=>?_⟩,g.nd,g.len,fun ab t' ac y' aa=>?_,by rw[<-hl];exact g.seen,fun s hs=>g.sub s (h.sub s hs),fun z hz hs=>?_⟩
 ·rcases Ab2.1 ha with h'|h'
  ·exact f1 a h'
  ·obtain⟨g1,g2⟩:=f2 a h';exact⟨(bW hA ho hb hp).2 ⟨t,ad,y,hy,g1⟩,g2⟩
 ·rw[Aa8,ht]at ac;rcases Ab2.1 ac with h'|h'
  ·exact (h.done (by rw[e2]at ab;simp at ab;omega) t' h' y' aa).mono fun a ha=>by rw[e2];exact Adk _ ha
  ·simp at h';subst h';rw[hy]at aa;cases aa;exact g.done ab
 ·rcases g.new z hz hs with h'|h'
  ·exact h.new z hz h'
  ·exact .inr (.inr Ad2)
theorem rQ {fz:Bool}{A:List RAtom}{mo:Int}{x:RItem}{j:Nat}{b:RAtom}{O:List RAtom}{S:Tx->Prop}{O':List RAtom}{S':Tx->Prop}(hA:∀a∈A,U1 a)(hx:Zp x)(hb:x.body[j]?=some b)(hp:He fz b=true)(hS:SeenOk fz A O mo S x.body.length)
  (h:K9 fz A mo x j O S A.length O' S'):Uk fz A mo x O S O' S':=by
 have hd:(O'.length:Int)<=mo->DoneX fz A O' x:=fun aa a ha=>by
  obtain⟨t,ht,y,hy,hs⟩:=(bW hA hx.1 hb hp).1 ha;exact h.done aa t (by rw[Aa3];exact ht) y hy a hs
 obtain⟨nw,e,f⟩:=h.ext;refine⟨⟨nw,e,f⟩,h.nd,h.len,hd,fun y hy hl hs aa=>?_,fun s hs=>h.sub s (.inl hs),fun y hy hs=>?_⟩
 ·rcases h.new y hy hs with h'|h'|h'
  ·exact (hS y hy hl h' (by rw[e]at aa;simp at aa;omega)).mono fun a ha=>by rw[e];exact Adk _ ha
  ·rw[h'];exact hd aa
  ·exact h.seen y hy h' hs aa
 ·rcases h.new y hy hs with h'|h'|h'
  ·exact .inl h'
  ·rw[h'];exact .inr (Aak _)
  ·exact .inr Ad2
theorem sameP_iff {a b:RAtom}:Ib a b↔a=b:=⟨fun⟨h1,h2,h3⟩=>RAtom.ext' h1 h2 h3,fun h=>by subst h;exact⟨rfl,rfl,rfl⟩⟩
def Ip (a:RAtom):Nat:=a.terms.countP Ag
theorem looseN_zero {a:RAtom}:Ip a=0↔U1 a:=by
 unfold Ip U1;rw[List.countP_eq_zero];exact⟨fun h t ht=>by simpa using h t ht,fun h t ht=>by simp[h t ht]⟩
theorem Wv (a:RAtom):Ip a<=a.terms.length:=List.countP_le_length
theorem Ko (a:RAtom)(ca:List AV)(ha:Be a ca)(hn:a.terms.length<=1000)(N:St):ACalls Tryz.prog 253 [ag ca] N fun r N'=>r=sc (.int .i64 (Ip a:Nat))/\Keep N N':=by
 obtain⟨ia,rfl⟩:=ha;refine Z9 21 [.tmp 2] Tryz.func253 ?_
 repeat' (first|refine Z1 ?_|(refine Z8 ?_;intro ya J)|(refine Z4 ?_;clear J ya)|(refine Z2 ?_ ?_<;>intro h ab<;>try exact Xp)|refine Z3 ?_|exact Zt|(apply J.out;clear J ya))
 refine Ab (fun m s N'=>∃i n:Nat,m=a.terms.length-i/\i<=a.terms.length/\s 1=ptr N.nobj 0/\s 3=sc (.int .i64 n)/\s 4=sc (.int .i64 i)/\Keep N N'/\N.nobj<N'.nobj/\N'.obj N.nobj=[sc (.bool a.nt),str a.pred,sl ia a.terms.length (a.terms.map str)]/\n<=i/\Ad8 (n=(a.terms.take i).countP Ag)) a.terms.length
  ⟨0,0,Ad2,Ad2,Ad4,Ad4,Ad4,Xs,by simp[Aa],Am,Ad2,by simp[Ad8]⟩ ?_
 rintro m s N' ⟨i,n,rfl,hi,h1,h3,h4,hK,af,ae,ah,hN⟩;by_cases ac:i<a.terms.length
 ·have aa:=Aav ac;have hd:=Bc ac;generalize a.terms[i]=t at hd aa;have HC:Ad8 ((a.terms.take (i+1)).countP Ag=(a.terms.take i).countP Ag+(if Ag t=true then 1 else 0)):=by
   rw[Ad8,Aa8,aa];simp[Adb,Adc]
  clear aa;have hV:=fun N=>Dt t N;cases hv:Ag t with
  |true=>
   rw[hv]at hV HC
   repeat' (first|refine Z1 ?_|(refine Z8 ?_;intro ya J)|(refine Z4 ?_;clear J ya)|(refine Z2 ?_ ?_<;>intro h ab<;>try exact Xp)|(refine Z5 ?_;refine Xi (hV _) ?_;rintro _ _ ⟨rfl,rfl⟩)|refine Z3 ?_|exact Zt|(apply J.out;clear J ya))
   refine⟨a.terms.length-(i+1),Ad2,i+1,n+1,?_⟩
   ((repeat' refine Zi ?_ ?_)<;>first|exact Xq|exact (by rw[Ad8,HC.out,<-hN.out];simp)|exact Xs)
  |false=>
   rw[hv]at hV HC
   repeat' (first|refine Z1 ?_|(refine Z8 ?_;intro ya J)|(refine Z4 ?_;clear J ya)|(refine Z2 ?_ ?_<;>intro h ab<;>try exact Xp)|(refine Z5 ?_;refine Xi (hV _) ?_;rintro _ _ ⟨rfl,rfl⟩)|refine Z3 ?_|exact Zt|(apply J.out;clear J ya))
   refine⟨a.terms.length-(i+1),Ad2,i+1,n,?_⟩
   ((repeat' refine Zi ?_ ?_)<;>first|exact Xq|exact (by rw[Ad8,HC.out,<-hN.out];simp)|exact Xs)
 ·have ad:i=a.terms.length:=Ad2;subst ad;have hN:=hN.out;rw[Aa3]at hN;have hN:n=Ip a:=hN;subst hN
  repeat' (first|refine Z1 ?_|(refine Z8 ?_;intro ya J)|(refine Z4 ?_;clear J ya)|(refine Z2 ?_ ?_<;>intro h ab<;>try exact Xp)|refine Z3 ?_|exact Zt|(apply J.out;clear J ya))
  first|exact⟨_,rfl,rfl,hK⟩|exact⟨rfl,hK⟩|exact⟨_,rfl,rfl⟩
theorem Gl (ls:List RAtom)(cs:List AV)(id:Nat)(a:RAtom)(ca:List AV)(hE:EL Be ls cs)(ha:Be a ca)(hl:ls.length<=1000)(hn:∀b∈ls,b.terms.length<=1000)(N:St):ACalls Tryz.prog 147 [sl id ls.length cs,ag ca] N fun r N'=>∃b,r=sc (.bool b)/\(b=true↔a∈ls)/\Keep N N':=by
 by_cases hm:a∈ls
 ·refine (Zw ls cs id a ca hE ha hl hn ⟨a,hm,rfl,rfl,rfl⟩ N).mono fun r N' h=>⟨true,h.1,by simp[hm],h.2⟩
 obtain⟨ia,rfl⟩:=ha;have an:=EL.length Ba hE;have ai:=fun b ib hb N=>Wh b a [sc (.bool b.nt),str b.pred,sl ib b.terms.length (b.terms.map str)] _ ⟨ib,rfl⟩ ⟨ia,rfl⟩ (hn b hb) N;have HM:Ad8 _:=hm;clear hm;refine Z9 18 [.tmp 4] Tryz.func147 ?_
 repeat' (first|refine Z1 ?_|(refine Z8 ?_;intro ya J)|(refine Z4 ?_;clear J ya)|(refine Z2 ?_ ?_<;>intro h ab<;>try exact Xp)|refine Z3 ?_|exact Zt|(apply J.out;clear J ya))
 refine Ab (fun m s N'=>∃i:Nat,m=ls.length-i/\i<=ls.length/\s 0=sl id ls.length cs/\s 3=ptr N.nobj 0/\s 5=sc (.int .i64 i)/\Keep N N'/\N.nobj<N'.nobj/\N'.obj N.nobj=[sc (.bool a.nt),str a.pred,sl ia a.terms.length (a.terms.map str)]) ls.length
  ⟨0,Ad2,Ad2,rfl,rfl,rfl,Xs,by simp[Aa],Am⟩ ?_
 rintro m s N' ⟨i,rfl,hi,h0,h3,h5,hK,am,ak⟩;have aj:=hK.nobj;by_cases ad:i<ls.length
 ·have aa:=Aav ad;obtain⟨ib,r,hd⟩:=B8 hE aa;have hS:=fun N=>ai ls[i] ib (Ab1 ad) N;have ac:¬Ib ls[i] a:=fun h=>HM.out (by rw[<-sameP_iff.1 h];exact Ab1 ad);generalize ls[i]=b at hd aa hS ac;clear aa;have hS:∀N,ACalls Tryz.prog 186 [ag [sc (.bool b.nt),str b.pred,sl ib b.terms.length (b.terms.map str)],ag [sc (.bool a.nt),str a.pred,sl ia a.terms.length (a.terms.map str)]] N fun r N'=>r=sc (.bool false)/\Keep N N':=fun N=>(hS N).mono fun r N' ⟨bo,h1,h2,h3⟩=>by
   have:bo=false:=by
    cases bo with
    |false=>rfl
    |true=>exact absurd (h2.1 rfl) ac
   subst this;exact⟨h1,h3⟩
  clear ac
  repeat' (first|refine Z1 ?_|(refine Z8 ?_;intro ya J)|(refine Z4 ?_;clear J ya)|(refine Z2 ?_ ?_<;>intro h ab<;>try exact Xp)|refine Z3 ?_|exact Zt|(apply J.out;clear J ya))
  refine Aq Ad (fun _=>True) [5] [0,1,2,3,4] [5] Ad5 (fun _ _ _ h=>h) ?_;intro ya J
  repeat' (first|refine Z1 ?_|(refine Z8 ?_;intro ya J)|(refine Z4 ?_;clear J ya)|(refine Z2 ?_ ?_<;>intro h ab<;>try exact Xp)|(refine Z5 ?_;refine Xi (hS _) ?_;rintro _ _ ⟨rfl,ae⟩;(have af:=ae.obj;have ah:=ae.nobj))|refine Z3 ?_|exact Zt|(apply J.out;clear J ya))
  refine⟨ls.length-(i+1),Ad2,i+1,?_⟩
  ((repeat' refine Zi ?_ ?_)<;>first|exact Xq|exact (hK.trans ae)|exact Xs)
 ·repeat' (first|refine Z1 ?_|(refine Z8 ?_;intro ya J)|(refine Z4 ?_;clear J ya)|(refine Z2 ?_ ?_<;>intro h ab<;>try exact Xp)|refine Z3 ?_|exact Zt|(apply J.out;clear J ya))
  have hb:(false=true↔a∈ls):=⟨fun h=>(by cases h),fun h=>absurd h HM.out⟩
  first|exact⟨_,rfl,false,rfl,hb,hK⟩|exact⟨false,rfl,hb,hK⟩|exact⟨_,rfl,false,rfl,hb⟩
theorem Yq (a:RAtom)(ca:List AV)(v t:Tx)(ha:Be a ca)(hn:a.terms.length<=1000)(N:St):ACalls Tryz.prog 269 [ag ca,str v,str t] N fun r N'=>∃c,r=ag c/\Be (Gq v t a) c/\Keep N N':=by
 obtain⟨ia,rfl⟩:=ha;refine Z9 38 [.cell 6 143] Tryz.func269 ?_
 repeat' (first|refine Z1 ?_|(refine Z8 ?_;intro ya J)|(refine Z4 ?_;clear J ya)|(refine Z2 ?_ ?_<;>intro h ad<;>try exact Xp)|(refine Z6 ?_;intro idn Nn ah ai af ab ae aa)|refine Z3 ?_|exact Zt|(apply J.out;clear J ya))
 refine Ab (fun m s N'=>∃(i i3:Nat) (xs:List AV),m=a.terms.length-i/\i<=a.terms.length/\s 1=str v/\s 2=str t/\s 3=ptr N.nobj 0/\s 6=ptr (N.nobj+1) 0/\s 7=ptr (N.nobj+2) 0/\s 8=sc (.int .i64 i)/\Keep N N'/\N.nobj+2<N'.nobj/\N'.obj N.nobj=[sc (.bool a.nt),str a.pred,sl ia a.terms.length (a.terms.map str)]/\N'.obj (N.nobj+1)=[sc (.bool false),str [],nilS]/\N'.obj (N.nobj+2)=[sc (.bool a.nt),str a.pred,sl i3 i xs]/\Own N N' i3 i/\xs.length=i*1/\Ad8 (xs=((a.terms.take i).map fun u=>if u=v then t else u).map str)) a.terms.length
  ⟨0,1,[],Ad2,Ad2,by simp[upd,initS],by simp[upd,initS],Ad4,Ad4,Ad4,Ad4,Xs,Ad7,?_,?_,?_,Own.nil _ _,by simp,by simp[Ad8]⟩ ?_
 ·rw[Al Ad2,Ai Ad6,Ai Ad6,Am]
 ·rw[Al Ad2,Ai Ad6,Cd Ad6 Ad6]
 ·rw[Ak]
 rintro m s N' ⟨i,i3,xs,rfl,hi,h1,h2,h3,h6,h7,h8,hK,aw,ap,ao,an,hO,av,hX⟩;have au:=hK.nobj;by_cases aj:i<a.terms.length
 ·have ac:=Aav aj;have hd:=Bc aj;generalize a.terms[i]=u at hd ac;have HC:Ad8 (((a.terms.take (i+1)).map fun u=>if u=v then t else u).map str=((a.terms.take i).map fun u=>if u=v then t else u).map str++[str (if u=v then t else u)]):=by
   rw[Ad8,Aa8,ac];simp
  clear ac;by_cases he:u=v
  ·have am:(u==v)=true:=by simp[he]
   rw[if_pos he]at HC;clear he
   repeat' (first|refine Z1 ?_|(refine Z8 ?_;intro ya J)|(refine Z4 ?_;clear J ya)|(refine Z2 ?_ ?_<;>intro h ad<;>try exact Xp)|(refine Z6 ?_;intro idn Nn ah ai af ab ae aa)|refine Z3 ?_|exact Zt|(apply J.out;clear J ya))
   refine⟨a.terms.length-(i+1),Ad2,i+1,idn,xs++[str t],?_⟩
   ((repeat' refine Zi ?_ ?_)<;>first|exact Xq|exact (ai.put Ad2 _)|exact (Own.put ah _ _)|exact (by rw[Ad8,HC.out,hX.out])|exact Xs)
  ·have am:(u==v)=false:=by simpa using he
   rw[if_neg he]at HC;clear he
   repeat' (first|refine Z1 ?_|(refine Z8 ?_;intro ya J)|(refine Z4 ?_;clear J ya)|(refine Z2 ?_ ?_<;>intro h ad<;>try exact Xp)|(refine Z6 ?_;intro idn Nn ah ai af ab ae aa)|refine Z3 ?_|exact Zt|(apply J.out;clear J ya))
   refine⟨a.terms.length-(i+1),Ad2,i+1,idn,xs++[str u],?_⟩
   ((repeat' refine Zi ?_ ?_)<;>first|exact Xq|exact (ai.put Ad2 _)|exact (Own.put ah _ _)|exact (by rw[Ad8,HC.out,hX.out])|exact Xs)
 ·have ak:i=a.terms.length:=Ad2;subst ak;have hX:=hX.out;rw[Aa3]at hX;subst hX;have HE:Be (Gq v t a) [sc (.bool a.nt),str a.pred,sl i3 a.terms.length ((a.terms.map fun u=>if u=v then t else u).map str)]:=⟨i3,by simp[Gq]⟩
  repeat' (first|refine Z1 ?_|(refine Z8 ?_;intro ya J)|(refine Z4 ?_;clear J ya)|(refine Z2 ?_ ?_<;>intro h ad<;>try exact Xp)|(refine Z6 ?_;intro idn Nn ah ai af ab ae aa)|refine Z3 ?_|exact Zt|(apply J.out;clear J ya))
  exact⟨_,rfl,_,rfl,HE,hK.put Ad2 _⟩
end Go.Proofs.YtmoeoppbmhfbpaaGreatDoorH
