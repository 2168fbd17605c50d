import Derived.Test.YtmoeoppbmhfbpaaGreatDoorDRspE
set_option maxHeartbeats 32000000
set_option maxRecDepth 100000
set_option linter.all false
namespace Go.Proofs.YtmoeoppbmhfbpaaGreatDoorD
open Go.Abs
theorem RAtom.ext' {a b:RAtom}(h1:a.nt=b.nt)(h2:a.pred=b.pred)(h3:a.terms=b.terms):a=b:=by cases a;cases b;simp_all
def Hc (μ:Tx->Tx)(t:Tx):Tx:=if Ab t=true then μ t else t
def F3 (μ:Tx->Tx)(a:RAtom):RAtom:=⟨a.nt,a.pred,a.terms.map (Hc μ)⟩
def Pf (μ:Tx->Tx)(x:RItem):RItem:=⟨false,F3 μ x.head,x.body.map (F3 μ)⟩
def We (a:RAtom):Prop:=∀t∈a.terms,Ab t=false
theorem Ce {μ:Tx->Tx}{t:Tx}(h:Ab t=false):Hc μ t=t:=by unfold Hc;rw[if_neg (by simp[h])]
theorem Cq {μ:Tx->Tx}{t:Tx}(h:Ab t=true):Hc μ t=μ t:=by unfold Hc;rw[if_pos h]
theorem Ix {α:Type}{f:α->α}:∀{l:List α},(∀x∈l,f x=x)->l.map f=l
 |[],_=>rfl
 |a::l,h=>by rw[Ad7,h a (by simp),Ix fun x hx=>h x (by simp[hx])]
theorem Mr {μ:Tx->Tx}{a:RAtom}(h:We a):F3 μ a=a:=RAtom.ext' rfl rfl (Ix fun t ht=>Ce (h t ht))
def cmp (ν θ:Tx->Tx):Tx->Tx:=fun u=>Hc ν (θ u)
theorem oP (ν θ:Tx->Tx)(u:Tx):Hc ν (Hc θ u)=Hc (cmp ν θ) u:=by
 cases h:Ab u with
 |true=>rw[Cq h,Cq h];rfl
 |false=>rw[Ce h,Ce h,Ce h]
theorem Ms (ν θ:Tx->Tx)(a:RAtom):F3 ν (F3 θ a)=F3 (cmp ν θ) a:=RAtom.ext' rfl rfl (by
 show (a.terms.map (Hc θ)).map (Hc ν)=a.terms.map (Hc (cmp ν θ));rw[Ad3]
 exact Afa fun u _=>oP ν θ u)
theorem sY {μ ν:Tx->Tx}{a:RAtom}(h:∀u∈a.terms,Ab u=true->μ u=ν u):F3 μ a=F3 ν a:=RAtom.ext' rfl rfl (Afa fun u hu=>by
 cases hv:Ab u with
 |true=>rw[Cq hv,Cq hv,h u hu hv]
 |false=>rw[Ce hv,Ce hv])
theorem zY (ν θ:Tx->Tx)(x:RItem):Pf ν (Pf θ x)=Pf (cmp ν θ) x:=by
 unfold Pf;congr 1
 ·exact Ms ν θ x.head
 ·rw[Ad3];exact Afa fun a _=>Ms ν θ a
def Nz (v t:Tx):Tx->Tx:=fun u=>if u=v then t else u
def G4 (v t:Tx)(a:RAtom):RAtom:=⟨a.nt,a.pred,a.terms.map fun u=>if u=v then t else u⟩
def G3 (v t:Tx)(x:RItem):RItem:=⟨false,G4 v t x.head,x.body.map (G4 v t)⟩
theorem pA {v t:Tx}(hv:Ab v=true)(a:RAtom):G4 v t a=F3 (Nz v t) a:=RAtom.ext' rfl rfl (Afa fun u _=>by
 cases h:Ab u with
 |true=>rw[Cq h];rfl
 |false=>rw[Ce h,if_neg (fun e=>by subst e;rw[hv]at h;cases h)])
theorem oZ {v t:Tx}(hv:Ab v=true)(x:RItem):G3 v t x=Pf (Nz v t) x:=by
 unfold G3 Pf;rw[pA hv];congr 1;exact Afa fun a _=>pA hv a
def Kr (j:Nat):List Tx->Nat->RItem->Option RItem
 |[],_,x=>some x
 |a::tl,k,x=>match (x.body[j]?).bind (fun b=>b.terms[k]?)with
  |none=>none
  |some t=>if t=a then Kr j tl (k+1) x else if Ab t=true then Kr j tl (k+1) (G3 t a x)else none
def Jf (x:RItem)(j:Nat)(t:RAtom):Option RItem:=match x.body[j]? with
 |none=>none
 |some b=>if t.nt=b.nt/\t.pred=b.pred/\t.terms.length=b.terms.length then Kr j t.terms 0 x else none
def Th (θ:Tx->Tx):Prop:=∀u,Ab u=true->θ u=u\/Ab (θ u)=false
def Mtc (μ:Tx->Tx)(j k:Nat)(tl:List Tx)(x:RItem):Prop:=∃b,x.body[j]?=some b/\∀(i:Nat) (a:Tx),tl[i]?=some a->∃t,b.terms[k+i]?=some t/\Hc μ t=a
theorem Abt {x:RItem}(h:x.out=false):Pf (fun u=>u) x=x:=by
 have ht:∀t,Hc (fun u=>u) t=t:=fun t=>by unfold Hc;split<;>rfl
 have ha:∀a,F3 (fun u=>u) a=a:=fun a=>RAtom.ext' rfl rfl (Ix fun t _=>ht t);unfold Pf;rw[ha,Ix fun a _=>ha a];cases x;simp_all
theorem zP {μ:Tx->Tx}{t a u:Tx}(ha:Ab a=false)(hm:μ t=a)(hu:Ab u=true):cmp μ (Nz t a) u=μ u:=by
 unfold cmp Nz;split
 ·rename_i e;subst e;rw[Ce ha,hm]
 ·exact Cq hu
theorem Mtc.put {μ:Tx->Tx}{j k:Nat}{tl:List Tx}{x:RItem}{t a:Tx}(h:Mtc μ j k (a::tl) x)(ht:Ab t=true)(ha:Ab a=false)(hm:μ t=a):Mtc μ j (k+1) tl (Pf (Nz t a) x):=by
 obtain⟨b,hb,h⟩:=h;refine⟨F3 (Nz t a) b,by simp[Pf,hb],fun i a' hi=>?_⟩;obtain⟨t',h1,h2⟩:=h (i+1) a' (by simpa using hi);refine⟨Hc (Nz t a) t',?_,?_⟩
 ·show (b.terms.map (Hc (Nz t a)))[k+1+i]?=_;rw[Adx,show k+1+i=k+(i+1)by omega,h1];rfl
 ·rw[oP];cases hv:Ab t' with
  |true=>rw[Cq hv,zP ha hm hv,<-h2,Cq hv]
  |false=>rw[Ce hv,<-h2,Ce hv]
theorem Mtc.tail {μ:Tx->Tx}{j k:Nat}{tl:List Tx}{x:RItem}{a:Tx}(h:Mtc μ j k (a::tl) x):Mtc μ j (k+1) tl x:=by
 obtain⟨b,hb,h⟩:=h;refine⟨b,hb,fun i a' hi=>?_⟩;obtain⟨t',h1,h2⟩:=h (i+1) a' (by simpa using hi);exact⟨t',by rw[show k+1+i=k+(i+1)by omega];exact h1,h2⟩
theorem cN (j:Nat):∀(tl:List Tx) (k:Nat) (x y:RItem),Kr j tl k x=some y->x.out=false->(∀a∈tl,Ab a=false)->
  ∃θ,Th θ/\y=Pf θ x/\(∀(i:Nat) (a:Tx),tl[i]?=some a->∃b,y.body[j]?=some b/\b.terms[k+i]?=some a)/\∀μ,Mtc μ j k tl x->∀u,Ab u=true->Hc μ (θ u)=μ u
 |[],k,x,y,h,ho,_=>by
  cases h;exact⟨fun u=>u,fun u _=>.inl rfl,(Abt ho).symm,fun i a h=>by simp at h,fun μ _ u hu=>Cq hu⟩
 |a::tl,k,x,y,h,ho,hg=>by
  have ha:=hg a (by simp);have ab:∀a∈tl,Ab a=false:=fun b hb=>hg b (by simp[hb]);unfold Kr at h;cases hb:x.body[j]? with
  |none=>rw[hb]at h;cases h
  |some b=>
   rw[hb]at h;cases ht:b.terms[k]? with
   |none=>simp[ht]at h
   |some t=>
    simp only[Aeg,ht]at h;split at h
    ·rename_i e;subst e;obtain⟨θ,h1,h2,h3,h4⟩:=cN j tl (k+1) x y h ho ab;refine⟨θ,h1,h2,fun i a' hi=>?_,fun μ hm=>h4 μ hm.tail⟩;cases i with
     |zero=>
      simp at hi;subst hi;exact⟨F3 θ b,by rw[h2];simp[Pf,hb],by show (b.terms.map (Hc θ))[k+0]?=_;rw[Adx,Adq,ht,Aeu,Ce ha]⟩
     |succ i=>
      obtain⟨b',e1,e2⟩:=h3 i a' (by simpa using hi);exact⟨b',e1,by rw[show k+(i+1)=k+1+i by omega];exact e2⟩
    ·split at h
     ·rename_i hv;rw[oZ hv]at h;obtain⟨θ,h1,h2,h3,h4⟩:=cN j tl (k+1) _ y h rfl ab;refine⟨cmp θ (Nz t a),fun u hu=>?_,by rw[h2,zY],fun i a' hi=>?_,fun μ hm u hu=>?_⟩
      ·unfold cmp Nz;split
       ·exact .inr (by rw[Ce ha];exact ha)
       ·rw[Cq hu];exact h1 u hu
      ·cases i with
       |zero=>
        simp at hi;subst hi;refine⟨F3 θ (F3 (Nz t a) b),by rw[h2];simp[Pf,hb],?_⟩;show ((b.terms.map (Hc (Nz t a))).map (Hc θ))[k+0]?=_;rw[Adx,Adx,Adq,ht,Aeu,Aeu,Cq hv];have:Nz t a t=a:=by simp[Nz]
        rw[this,Ce ha]
       |succ i=>
        obtain⟨b',e1,e2⟩:=h3 i a' (by simpa using hi);exact⟨b',e1,by rw[show k+(i+1)=k+1+i by omega];exact e2⟩
      ·have aa:μ t=a:=by
        obtain⟨b',ac,h'⟩:=hm;rw[hb]at ac;cases ac;obtain⟨t',e1,e2⟩:=h' 0 a (by simp);rw[Adq,ht]at e1;cases e1;rw[Cq hv]at e2;exact e2
       have ad:=hm.put hv ha aa;unfold cmp Nz;split
       ·rename_i e;subst e;rw[Ce ha,Ce ha,aa]
       ·rw[Cq hu];exact h4 μ ad u hu
     ·cases h
theorem Qq (j:Nat):∀(tl:List Tx) (k:Nat) (x:RItem) (μ:Tx->Tx),Mtc μ j k tl x->(∀a∈tl,Ab a=false)->∃y,Kr j tl k x=some y
 |[],k,x,μ,_,_=>⟨x,rfl⟩
 |a::tl,k,x,μ,hm,hg=>by
  have ha:=hg a (by simp);have aa:∀a∈tl,Ab a=false:=fun b hb=>hg b (by simp[hb]);obtain⟨b,hb,h'⟩:=id hm;obtain⟨t,e1,e2⟩:=h' 0 a (by simp);rw[Adq]at e1;unfold Kr;rw[hb];simp only[Aeg,e1];split
  ·exact Qq j tl (k+1) x μ hm.tail aa
  ·rename_i ab;cases hv:Ab t with
   |true=>
    rw[if_pos rfl,oZ hv];rw[Cq hv]at e2;exact Qq j tl (k+1) _ μ (hm.put hv ha e2) aa
   |false=>rw[Ce hv]at e2;exact absurd e2 ab
theorem R9 {x:RItem}{j:Nat}{t:RAtom}{y:RItem}(h:Jf x j t=some y)(ho:x.out=false)(hg:We t):∃b,x.body[j]?=some b/\∃θ,Th θ/\y=Pf θ x/\y.body[j]?=some t/\∀μ,F3 μ b=t->∀u,Ab u=true->Hc μ (θ u)=μ u:=by
 unfold Jf at h;split at h
 ·cases h
 ·rename_i b hb;split at h
  ·rename_i hc;obtain⟨c1,c2,c3⟩:=hc;obtain⟨θ,h1,h2,h3,h4⟩:=cN j _ _ _ _ h ho hg;refine⟨b,hb,θ,h1,h2,?_,fun μ hm=>h4 μ ⟨b,hb,fun i a hi=>?_⟩⟩
   ·have hy:y.body[j]?=some (F3 θ b):=by rw[h2];simp[Pf,hb]
    rw[hy];congr 1;refine RAtom.ext' c1.symm c2.symm (Ad5 fun i=>?_);by_cases hi:i<t.terms.length
    ·obtain⟨b',e1,e2⟩:=h3 i _ (Adn hi);rw[hy]at e1;cases e1;rw[Aea]at e2;rw[e2,Adn hi]
    ·rw[Ady (by show (b.terms.map (Hc θ)).length<=i;rw[Ae3];omega),Ady Agm]
   ·rw[Aea];subst hm;have hl:i<b.terms.length:=by have:=(Adm.1 hi).1;rw[c3]at this;exact this
    refine⟨b.terms[i],Adn hl,?_⟩;have:(b.terms.map (Hc μ))[i]?=some a:=hi;rw[Adx,Adn hl,Aeu]at this;exact Afm this
  ·cases h
theorem sT {x:RItem}{j:Nat}{t b:RAtom}{μ:Tx->Tx}(hb:x.body[j]?=some b)(hm:F3 μ b=t)(hg:We t):∃y,Jf x j t=some y:=by
 unfold Jf;rw[hb];subst hm;simp only;rw[if_pos ⟨rfl,rfl,by simp[F3]⟩];refine Qq j _ _ _ μ ⟨b,hb,fun i a hi=>?_⟩ hg;have hi:(b.terms.map (Hc μ))[i]?=some a:=hi;rw[Adx]at hi;cases ht:b.terms[i]? with
 |none=>rw[ht]at hi;cases hi
 |some t'=>
  rw[ht]at hi;exact⟨t',by rw[Aea];exact ht,Afm hi⟩
def Nj (fz:Bool)(a:RAtom):Bool:=fz||!a.nt
def qQ (a:RAtom):RAtom:=⟨false,a.pred,a.terms⟩
def Rw (fz:Bool)(A:List RAtom)(x:RItem)(h:RAtom):Prop:=∃μ,(∀a∈x.body,Nj fz a=true->F3 μ a∈A)/\(∀a∈x.body,Nj fz a=false->qQ (F3 μ a)∉A)/\h=F3 μ x.head
theorem Qk {α:Type}{l:List α}{i j:Nat}{a:α}(h:l[i]?=some a)(hn:i≠j):a∈l.eraseIdx j:=by
 have hi:=(Adm.1 h).1;rw[List.eraseIdx_eq_take_drop_succ];rcases Nat.lt_or_gt_of_ne hn with h'|h'
 ·exact Af5 _ (Adp (i:=i) (by rw[Adk,if_pos h'];exact h))
 ·exact Af6 _ (Adp (i:=i-(j+1)) (by rw[Adl,show j+1+(i-(j+1))=i by omega];exact h))
theorem fJ {fz:Bool}{A:List RAtom}{x:RItem}{h:RAtom}(hA:∀a∈A,We a)(ho:x.out=false){j:Nat}{b:RAtom}(hb:x.body[j]?=some b)(hp:Nj fz b=true):
  Rw fz A x h↔∃t∈A,∃y,Jf x j t=some y/\Rw fz A (Cw y j) h:=by
 constructor
 ·rintro⟨μ,h1,h2,rfl⟩;have ht:=h1 b (Adp hb) hp;obtain⟨y,hy⟩:=sT (μ:=μ) hb rfl (hA _ ht);refine⟨_,ht,y,hy,μ,?_⟩;obtain⟨b',ac,θ,-,rfl,-,h4⟩:=R9 hy ho (hA _ ht);rw[hb]at ac;cases ac;have hE:∀a,F3 μ (F3 θ a)=F3 μ a:=fun a=>by rw[Ms];exact sY fun u _ hu=>h4 μ rfl u hu
  have hM:∀a∈(Cw (Pf θ x) j).body,∃a'∈x.body,a=F3 θ a':=fun a ha=>by
   have:=Afn ha;obtain⟨a',h',rfl⟩:=Ae4.1 this;exact⟨a',h',rfl⟩
  refine⟨fun a ha aa=>?_,fun a ha aa=>?_,(hE _).symm⟩
  ·obtain⟨a',h',rfl⟩:=hM a ha;rw[hE];exact h1 a' h' aa
  ·obtain⟨a',h',rfl⟩:=hM a ha;rw[hE];exact h2 a' h' aa
 ·rintro⟨t,ht,y,hy,ν,h1,h2,rfl⟩;obtain⟨b',ac,θ,-,rfl,ae,-⟩:=R9 hy ho (hA _ ht);rw[hb]at ac;cases ac;refine⟨cmp ν θ,fun a ha aa=>?_,fun a ha aa=>?_,by rw[<-Ms];rfl⟩
  ·obtain⟨i,hi⟩:=Afc ha;have ad:(Pf θ x).body[i]?=some (F3 θ a):=by simp[Pf,hi]
   rw[<-Ms];by_cases ab:i=j
   ·subst ab;rw[ad]at ae;cases ae;rw[Mr (hA _ ht)];exact ht
   ·exact h1 _ (Qk ad ab) aa
  ·obtain⟨i,hi⟩:=Afc ha;have ad:(Pf θ x).body[i]?=some (F3 θ a):=by simp[Pf,hi]
   rw[<-Ms];by_cases ab:i=j
   ·subst ab;rw[hb]at hi;cases hi;rw[hp]at aa;cases aa
   ·exact h2 _ (Qk ad ab) aa
def nG (fz:Bool)(x:RItem):Prop:=∀v,Ab v=true->(v∈x.head.terms\/∃a∈x.body,Nj fz a=false/\v∈a.terms)->∃a∈x.body,Nj fz a=true/\v∈a.terms
theorem uP {θ:Tx->Tx}(hT:Th θ){ts:List Tx}{v:Tx}(hv:Ab v=true)(h:v∈ts.map (Hc θ)):v∈ts/\θ v=v:=by
 obtain⟨u,hu,e⟩:=Ae4.1 h;cases aa:Ab u with
 |false=>rw[Ce aa]at e;subst e;rw[hv]at aa;cases aa
 |true=>
  rw[Cq aa]at e;rcases hT u aa with h'|h'
  ·rw[h']at e;subst e;exact⟨hu,h'⟩
  ·rw[e,hv]at h';cases h'
theorem vG {fz:Bool}{x y:RItem}{j:Nat}{t:RAtom}(hs:nG fz x)(ho:x.out=false)(hg:We t)(hy:Jf x j t=some y):nG fz (Cw y j):=by
 obtain⟨b,hb,θ,hT,rfl,aa,-⟩:=R9 hy ho hg;intro v hv h;have hx:θ v=v/\(v∈x.head.terms\/∃a∈x.body,Nj fz a=false/\v∈a.terms):=by
  rcases h with h|⟨a,ha,hp,h⟩
  ·obtain⟨h1,h2⟩:=uP hT hv h;exact⟨h2,.inl h1⟩
  ·obtain⟨a',h',rfl⟩:=Ae4.1 (Afn ha);obtain⟨h1,h2⟩:=uP hT hv h;exact⟨h2,.inr ⟨a',h',hp,h1⟩⟩
 obtain⟨a,ha,hp,ad⟩:=hs v hv hx.2;obtain⟨i,hi⟩:=Afc ha;have ab:(Pf θ x).body[i]?=some (F3 θ a):=by simp[Pf,hi]
 have ac:v∈(F3 θ a).terms:=Ae4.2 ⟨v,ad,by rw[Cq hv,hx.1]⟩;have ae:i≠j:=fun e=>by
  subst e;rw[ab]at aa;cases aa;have:=hg v ac;rw[hv]at this;cases this
 exact⟨_,Qk ab ae,hp,ac⟩
theorem fO {fz:Bool}{x:RItem}(hs:nG fz x)(hn:∀a∈x.body,Nj fz a=false):We x.head/\∀a∈x.body,We a:=by
 have:∀v,Ab v=true->¬(v∈x.head.terms\/∃a∈x.body,Nj fz a=false/\v∈a.terms):=fun v hv h=>by
  obtain⟨a,ha,hp,-⟩:=hs v hv h;rw[hn a ha]at hp;cases hp
 refine⟨fun t ht=>?_,fun a ha t ht=>?_⟩
 ·cases hv:Ab t with
  |false=>rfl
  |true=>exact absurd (.inl ht) (this t hv)
 ·cases hv:Ab t with
  |false=>rfl
  |true=>exact absurd (.inr ⟨a,ha,hn a ha,ht⟩) (this t hv)
theorem fL {fz:Bool}{A:List RAtom}{x:RItem}{h:RAtom}(hs:nG fz x)(hn:∀a∈x.body,Nj fz a=false):Rw fz A x h↔(∀a∈x.body,qQ a∉A)/\h=x.head:=by
 obtain⟨g1,g2⟩:=fO hs hn;constructor
 ·rintro⟨μ,-,h2,rfl⟩;exact⟨fun a ha=>by have:=h2 a ha (hn a ha);rw[Mr (g2 a ha)]at this;exact this,Mr g1⟩
 ·rintro⟨h2,rfl⟩;exact⟨fun u=>u,fun a ha hp=>(by rw[hn a ha]at hp;cases hp),fun a ha _=>by rw[Mr (g2 a ha)];exact h2 a ha,(Mr g1).symm⟩
theorem yY {fz:Bool}{A:List RAtom}{x:RItem}{h:RAtom}(hA:∀a∈A,We a)(hs:nG fz x)(hS:Rw fz A x h):We h:=by
 obtain⟨μ,h1,-,rfl⟩:=hS;intro t ht;obtain⟨u,hu,rfl⟩:=Ae4.1 ht;cases hv:Ab u with
 |false=>rw[Ce hv];exact hv
 |true=>
  obtain⟨a,ha,hp,hm⟩:=hs u hv (.inl hu);exact hA _ (h1 a ha hp) _ (Ae4.2 ⟨u,hm,rfl⟩)
theorem uY {fz:Bool}{A:List RAtom}{x:RItem}{h:RAtom}(hg:We x.head)(hS:Rw fz A x h):h=x.head:=by
 obtain⟨μ,-,-,rfl⟩:=hS;exact Mr hg
def Clean (t:Tx):Prop:=(∀b∈t,b≠(33:UInt8)/\b≠44/\b≠46)/\t.length<=1000
def clA (a:RAtom):Prop:=Clean a.pred/\(∀t∈a.terms,Clean t)/\a.terms.length<=1000
def cY (x:RItem):Prop:=x.out=false/\clA x.head/\∀a∈x.body,clA a
def Kd (a:RAtom):Tx:=(if a.nt=true then [33]else [])++(a.pred++a.terms.flatMap fun t=>44::t)
def Em (x:RItem):Tx:=(x.head::x.body).flatMap fun a=>Kd a++[46]
theorem T0 {c:UInt8}:∀{u v r s:Tx},c∉u->c∉v->u++c::r=v++c::s->u=v/\r=s
 |[],[],r,s,_,_,h=>by simpa using h
 |[],b::v,r,s,_,h2,h=>by simp at h h2;exact absurd h.1 h2.1
 |b::u,[],r,s,h1,_,h=>by simp at h h1;exact absurd h.1.symm h1.1
 |b::u,d::v,r,s,h1,h2,h=>by
  simp at h h1 h2;obtain⟨e1,e2⟩:=T0 h1.2 h2.2 h.2;exact⟨by rw[h.1,e1],e2⟩
theorem Ym:∀{ts us:List Tx} {p q:Tx},(44:UInt8)∉p->(44:UInt8)∉q->(∀t∈ts,(44:UInt8)∉t)->(∀t∈us,(44:UInt8)∉t)->p++(ts.flatMap fun t=>44::t)=q++(us.flatMap fun t=>44::t)->p=q/\ts=us
 |[],[],p,q,_,_,_,_,h=>by simpa using h
 |[],u::us,p,q,hp,_,_,_,h=>by
  simp only[List.flatMap_nil,Ad4,Ae0,Ae6]at h;exact absurd (by rw[h];simp) hp
 |t::ts,[],p,q,_,hq,_,_,h=>by
  simp only[List.flatMap_nil,Ad4,Ae0,Ae6]at h;exact absurd (by rw[<-h];simp) hq
 |t::ts,u::us,p,q,hp,hq,ht,hu,h=>by
  simp only[Ae0,Ae6]at h;obtain⟨e1,e2⟩:=T0 hp hq h;obtain⟨e3,e4⟩:=Ym (ht t (by simp)) (hu u (by simp)) (fun x hx=>ht x (by simp[hx])) (fun x hx=>hu x (by simp[hx])) e2;exact⟨e1,by rw[e3,e4]⟩
theorem Clean.no44 {t:Tx}(h:Clean t):(44:UInt8)∉t:=fun hm=>(h.1 _ hm).2.1 rfl
theorem Clean.no33 {t:Tx}(h:Clean t):(33:UInt8)∉t:=fun hm=>(h.1 _ hm).1 rfl
theorem Clean.no46 {t:Tx}(h:Clean t):(46:UInt8)∉t:=fun hm=>(h.1 _ hm).2.2 rfl
theorem clA.tail33 {a:RAtom}(h:clA a):(33:UInt8)∉a.pred++a.terms.flatMap fun t=>44::t:=by
 intro hm;rcases Aet.1 hm with h'|h'
 ·exact h.1.no33 h'
 ·obtain⟨t,ht,hb⟩:=Ae9.1 h';rcases Ae2.1 hb with aa|aa
  ·exact absurd aa (by decide)
  ·exact (h.2.1 t ht).no33 aa
theorem clA.seg46 {a:RAtom}(h:clA a):(46:UInt8)∉Kd a:=by
 intro hm;unfold Kd at hm;rcases Aet.1 hm with h'|h'
 ·split at h'
  ·simp at h'
  ·simp at h'
 ·rcases Aet.1 h' with h'|h'
  ·exact h.1.no46 h'
  ·obtain⟨t,ht,hb⟩:=Ae9.1 h';rcases Ae2.1 hb with aa|aa
   ·exact absurd aa (by decide)
   ·exact (h.2.1 t ht).no46 aa
theorem zA {a b:RAtom}(ha:clA a)(hb:clA b)(h:Kd a=Kd b):a=b:=by
 have hnt:a.nt=b.nt/\a.pred++(a.terms.flatMap fun t=>44::t)=b.pred++(b.terms.flatMap fun t=>44::t):=by
  unfold Kd at h;cases h1:a.nt with
  |true=>
   cases h2:b.nt with
   |true=>rw[h1,h2]at h;simpa using h
   |false=>
    rw[h1,h2]at h;simp only[if_true,Aei,if_false,Ae8,Ae6]at h;exact absurd (by rw[<-h];simp) hb.tail33
  |false=>
   cases h2:b.nt with
   |false=>rw[h1,h2]at h;simpa using h
   |true=>
    rw[h1,h2]at h;simp only[if_true,Aei,if_false,Ae8,Ae6]at h;exact absurd (by rw[h];simp) ha.tail33
 obtain⟨e1,e2⟩:=Ym ha.1.no44 hb.1.no44 (fun t ht=>(ha.2.1 t ht).no44) (fun t ht=>(hb.2.1 t ht).no44) hnt.2;exact RAtom.ext' hnt.1 e1 e2
theorem iP:∀{l m:List RAtom},(∀a∈l,clA a)->(∀a∈m,clA a)->(l.flatMap fun a=>Kd a++[46])=(m.flatMap fun a=>Kd a++[46])->l=m
 |[],[],_,_,_=>rfl
 |[],b::m,_,_,h=>by simp at h
 |a::l,[],_,_,h=>by simp at h
 |a::l,b::m,h1,h2,h=>by
  simp only[Ae0,Aed,List.singleton_append]at h;obtain⟨e1,e2⟩:=T0 (h1 a (by simp)).seg46 (h2 b (by simp)).seg46 h;rw[zA (h1 a (by simp)) (h2 b (by simp)) e1,iP (fun x hx=>h1 x (by simp[hx])) (fun x hx=>h2 x (by simp[hx])) e2]
theorem Pe {x y:RItem}(hx:cY x)(hy:cY y)(h:Em x=Em y):x=y:=by
 have:=iP (l:=x.head::x.body) (m:=y.head::y.body) (fun a ha=>by
  rcases Ae2.1 ha with rfl|ha
  ·exact hx.2.1
  ·exact hx.2.2 a ha) (fun a ha=>by
  rcases Ae2.1 ha with rfl|ha
  ·exact hy.2.1
  ·exact hy.2.2 a ha) h
 have h1:=hx.1;have h2:=hy.1;cases x;cases y;simp_all
theorem Aai {x y:RItem}{j:Nat}{t:RAtom}(hc:cY x)(ht:clA t)(hg:We t)(hy:Jf x j t=some y):cY (Cw y j):=by
 have hK:∀(tl:List Tx) (k:Nat) (x y:RItem),cY x->(∀a∈tl,Clean a)->Kr j tl k x=some y->cY y:=by
  intro tl;induction tl with
  |nil=>intro k x y h _ e;cases e;exact h
  |cons a tl ih=>
   intro k x y h ha e;unfold Kr at e;split at e
   ·cases e
   ·split at e
    ·exact ih _ _ _ h (fun b hb=>ha b (by simp[hb])) e
    ·split at e
     ·refine ih _ _ _ ⟨rfl,?_,?_⟩ (fun b hb=>ha b (by simp[hb])) e
      ·refine⟨h.2.1.1,fun u hu=>?_,by show (x.head.terms.map _).length<=1000;rw[Ae3];exact h.2.1.2.2⟩;obtain⟨w,hw,rfl⟩:=Ae4.1 hu;split
       ·exact ha a (by simp)
       ·exact h.2.1.2.1 w hw
      ·intro b hb;obtain⟨b',aa,rfl⟩:=Ae4.1 hb;refine⟨(h.2.2 b' aa).1,fun u hu=>?_,by show (b'.terms.map _).length<=1000;rw[Ae3];exact (h.2.2 b' aa).2.2⟩;obtain⟨w,hw,rfl⟩:=Ae4.1 hu;split
       ·exact ha a (by simp)
       ·exact (h.2.2 b' aa).2.1 w hw
     ·cases e
 unfold Jf at hy;split at hy
 ·cases hy
 ·split at hy
  ·have:=hK _ _ _ _ hc ht.2.1 hy;exact⟨rfl,this.2.1,fun a ha=>this.2.2 a (Afn ha)⟩
  ·cases hy
def DoneX (fz:Bool)(A O:List RAtom)(x:RItem):Prop:=∀h,Rw fz A x h->h∈A\/h∈O
theorem DoneX.mono {fz:Bool}{A O O':List RAtom}{x:RItem}(h:DoneX fz A O x)(ho:∀a∈O,a∈O'):DoneX fz A O' x:=fun a ha=>(h a ha).imp id (ho a)
def SeenOk (fz:Bool)(A O:List RAtom)(mo:Int)(S:Tx->Prop)(m:Nat):Prop:=∀y,cY y->y.body.length<=m->S (Em y)->(O.length:Int)<=mo->DoneX fz A O y
structure V9 (fz:Bool)(A:List RAtom)(mo:Int)(x:RItem)(O:List RAtom)(S:Tx->Prop)(O':List RAtom)(S':Tx->Prop):Prop where
 ext:∃nw,O'=O++nw/\∀h∈nw,Rw fz A x h/\h∉A
 nd:O'.Nodup
 len:(O'.length:Int)<=mo+1
 done:(O'.length:Int)<=mo->DoneX fz A O' x
 seen:SeenOk fz A O' mo S' x.body.length
 sub:∀s,S s->S' s
 new:∀y,cY y->S' (Em y)->S (Em y)\/y.body.length<=x.body.length
theorem SeenOk.mono {fz:Bool}{A O O':List RAtom}{mo:Int}{S S':Tx->Prop}{m m':Nat}(h:SeenOk fz A O mo S m)(he:∃nw,O'=O++nw)(hm:m'<=m)(hS:∀y,cY y->y.body.length<=m'->S' (Em y)->S (Em y)):SeenOk fz A O' mo S' m':=fun y hy hl hs aa=>by
 obtain⟨nw,rfl⟩:=he;exact (h y hy Agm (hS y hy hl hs) (by simp at aa;omega)).mono fun a ha=>Af5 _ ha
theorem Ql {fz:Bool}{A O:List RAtom}{mo:Int}{x:RItem}{S:Tx->Prop}(ab:O.Nodup)(aa:(O.length:Int)<=mo+1)(hS:SeenOk fz A O mo S x.body.length)(h:(O.length:Int)<=mo->DoneX fz A O x):V9 fz A mo x O S O S:=
 ⟨⟨[],by simp,fun h hh=>by simp at hh⟩,ab,aa,h,hS,fun _ h=>h,fun y hy h=>.inl h⟩
theorem vD {fz:Bool}{A O O':List RAtom}{mo:Int}{x:RItem}{S:Tx->Prop}(hx:cY x)(hS:SeenOk fz A O mo S x.body.length)(he:∃nw,O'=O++nw)(hd:(O'.length:Int)<=mo->DoneX fz A O' x):SeenOk fz A O' mo (fun s=>S s\/s=Em x) x.body.length:=fun y hy hl hs aa=>by
 rcases hs with hs|hs
 ·obtain⟨nw,rfl⟩:=he;exact (hS y hy hl hs (by simp at aa;omega)).mono fun a ha=>Af5 _ ha
 ·rw[Pe hy hx hs];exact hd aa
theorem Zq {fz:Bool}{A O O':List RAtom}{mo:Int}{x:RItem}{S:Tx->Prop}(hx:cY x)(ab:O.Nodup)(ac:(O.length:Int)<=mo)(hS:SeenOk fz A O mo S x.body.length)(hs:nG fz x)(hn:∀a∈x.body,Nj fz a=false)
  (aa:x.head∉A/\x.head∉O) (hO:((∀a∈x.body,qQ a∉A)/\O'=O++[x.head])\/(¬(∀a∈x.body,qQ a∉A)/\O'=O)):V9 fz A mo x O S O' (fun s=>S s\/s=Em x):=by
 have he:∃nw,O'=O++nw:=by
  rcases hO with⟨-,rfl⟩|⟨-,rfl⟩
  ·exact⟨_,rfl⟩
  ·exact⟨[],by simp⟩
 have hd:DoneX fz A O' x:=fun h hh=>by
  rw[fL hs hn]at hh;rcases hO with⟨-,rfl⟩|⟨h',-⟩
  ·rw[hh.2];exact .inr (by simp)
  ·exact absurd hh.1 h'
 refine⟨?_,?_,?_,fun _=>hd,vD hx hS he fun _=>hd,fun _ h=>.inl h,fun y hy h=>?_⟩
 ·rcases hO with⟨h',rfl⟩|⟨-,rfl⟩
  ·exact⟨_,rfl,fun h hh=>by
    rw[Afk]at hh;subst hh
    exact⟨(fL hs hn).2 ⟨h',rfl⟩,aa.1⟩⟩
  ·exact⟨[],by simp,fun h hh=>by simp at hh⟩
 ·rcases hO with⟨-,rfl⟩|⟨-,rfl⟩
  ·rw[Afr];exact⟨ab,by simp,fun a ha b hb=>by rw[Afk]at hb;subst hb;exact fun e=>aa.2 (e ▸ ha)⟩
  ·exact ab
 ·rcases hO with⟨-,rfl⟩|⟨-,rfl⟩
  ·simp;omega
  ·omega
 ·rcases h with h|h
  ·exact .inl h
  ·rw[Pe hy hx h];exact .inr (Adc _)
structure L1 (fz:Bool)(A:List RAtom)(mo:Int)(x:RItem)(j:Nat)(O:List RAtom)(S:Tx->Prop)(k:Nat)(O':List RAtom)(S':Tx->Prop):Prop where
 ext:∃nw,O'=O++nw/\∀h∈nw,Rw fz A x h/\h∉A
 nd:O'.Nodup
 len:(O'.length:Int)<=mo+1
 done:(O'.length:Int)<=mo->∀t∈A.take k,∀y,Jf x j t=some y->DoneX fz A O' (Cw y j)
 seen:SeenOk fz A O' mo S' (x.body.length-1)
 sub:∀s,S s\/s=Em x->S' s
 new:∀y,cY y->S' (Em y)->S (Em y)\/y=x\/y.body.length<=x.body.length-1
theorem lV {fz:Bool}{A O:List RAtom}{mo:Int}{x:RItem}{j:Nat}{S:Tx->Prop}(hx:cY x)(hb:0<x.body.length)(ab:O.Nodup)(aa:(O.length:Int)<=mo+1)(hS:SeenOk fz A O mo S x.body.length):L1 fz A mo x j O S 0 O (fun s=>S s\/s=Em x):=
 ⟨⟨[],by simp,fun h hh=>by simp at hh⟩,ab,aa,fun _ t ht=>by simp at ht,
  hS.mono ⟨[],by simp⟩ Agm (fun y hy hl hs=>by
   rcases hs with hs|hs
   ·exact hs
   ·have:=Pe hy hx hs;subst this;omega),
  fun _ h=>h,fun y hy h=>by
   rcases h with h|h
   ·exact .inl h
   ·exact .inr (.inl (Pe hy hx h))⟩
theorem rX {fz:Bool}{A:List RAtom}{mo:Int}{x:RItem}{j:Nat}{O:List RAtom}{S:Tx->Prop}{k:Nat}{O':List RAtom}{S':Tx->Prop}(h:L1 fz A mo x j O S k O' S'){t:RAtom}(ht:A[k]?=some t)(hn:Jf x j t=none):L1 fz A mo x j O S (k+1) O' S':=
 ⟨h.ext,h.nd,h.len,fun hl t' aa y hy=>(by
  rw[Ad0,ht]at aa;rcases Aet.1 aa with h'|h'
  ·exact h.done hl t' h' y hy
  ·simp at h';subst h';rw[hn]at hy;cases hy),h.seen,h.sub,h.new⟩
theorem rW {fz:Bool}{A:List RAtom}{mo:Int}{x:RItem}{j:Nat}{b:RAtom}{O:List RAtom}{S:Tx->Prop}{k:Nat}{O':List RAtom}{S':Tx->Prop}(hA:∀a∈A,We a)(ho:x.out=false)(hb:x.body[j]?=some b)(hp:Nj fz b=true)
  (h:L1 fz A mo x j O S k O' S') {t:RAtom} (ht:A[k]?=some t) {y:RItem} (hy:Jf x j t=some y) {O2:List RAtom} {S2:Tx->Prop} (g:V9 fz A mo (Cw y j) O' S' O2 S2) (hl:(Cw y j).body.length=x.body.length-1):L1 fz A mo x j O S (k+1) O2 S2:=by
 obtain⟨n1,e1,f1⟩:=h.ext;obtain⟨n2,e2,f2⟩:=g.ext;have ad:=Adp ht;refine⟨⟨n1++n2,by rw[e2,e1,Aed],fun a ha=>?_⟩,g.nd,g.len,fun ab t' ac y' aa=>?_,by rw[<-hl];exact g.seen,fun s hs=>g.sub s (h.sub s hs),fun z hz hs=>?_⟩
 ·rcases Aet.1 ha with h'|h'
  ·exact f1 a h'
  ·obtain⟨g1,g2⟩:=f2 a h';exact⟨(fJ hA ho hb hp).2 ⟨t,ad,y,hy,g1⟩,g2⟩
 ·rw[Ad0,ht]at ac;rcases Aet.1 ac with h'|h'
  ·exact (h.done (by rw[e2]at ab;simp at ab;omega) t' h' y' aa).mono fun a ha=>by rw[e2];exact Af5 _ ha
  ·simp at h';subst h';rw[hy]at aa;cases aa;exact g.done ab
 ·rcases g.new z hz hs with h'|h'
  ·exact h.new z hz h'
  ·exact .inr (.inr Agm)
theorem wF {fz:Bool}{A:List RAtom}{mo:Int}{x:RItem}{j:Nat}{b:RAtom}{O:List RAtom}{S:Tx->Prop}{O':List RAtom}{S':Tx->Prop}(hA:∀a∈A,We a)(hx:cY x)(hb:x.body[j]?=some b)(hp:Nj fz b=true)(hS:SeenOk fz A O mo S x.body.length)
  (h:L1 fz A mo x j O S A.length O' S'):V9 fz A mo x O S O' S':=by
 have hd:(O'.length:Int)<=mo->DoneX fz A O' x:=fun aa a ha=>by
  obtain⟨t,ht,y,hy,hs⟩:=(fJ hA hx.1 hb hp).1 ha;exact h.done aa t (by rw[Adu];exact ht) y hy a hs
 obtain⟨nw,e,f⟩:=h.ext;refine⟨⟨nw,e,f⟩,h.nd,h.len,hd,fun y hy hl hs aa=>?_,fun s hs=>h.sub s (.inl hs),fun y hy hs=>?_⟩
 ·rcases h.new y hy hs with h'|h'|h'
  ·exact (hS y hy hl h' (by rw[e]at aa;simp at aa;omega)).mono fun a ha=>by rw[e];exact Af5 _ ha
  ·rw[h'];exact hd aa
  ·exact h.seen y hy h' hs aa
 ·rcases h.new y hy hs with h'|h'|h'
  ·exact .inl h'
  ·rw[h'];exact .inr (Adc _)
  ·exact .inr Agm
theorem sameP_iff {a b:RAtom}:Iu a b↔a=b:=⟨fun⟨h1,h2,h3⟩=>RAtom.ext' h1 h2 h3,fun h=>by subst h;exact⟨rfl,rfl,rfl⟩⟩
def I9 (a:RAtom):Nat:=a.terms.countP Ab
theorem looseN_zero {a:RAtom}:I9 a=0↔We a:=by
 unfold I9 We;rw[List.countP_eq_zero];exact⟨fun h t ht=>by simpa using h t ht,fun h t ht=>by simp[h t ht]⟩
theorem Zl (a:RAtom):I9 a<=a.terms.length:=List.countP_le_length
theorem Li (a:RAtom)(ca:List AV)(ha:B6 a ca)(hn:a.terms.length<=1000)(σ:St):ACalls Tryz.prog 253 [ag ca] σ fun r σ'=>r=sc (.int .i64 (I9 a:Nat))/\Keep σ σ':=by
 obtain⟨ia,rfl⟩:=ha;refine Z9 21 [.tmp 2] Tryz.func253 ?_
 refine zz ?_
 refine Ad (fun m s σ'=>∃i n:Nat,m=a.terms.length-i/\i<=a.terms.length/\s 1=ptr σ.nobj 0/\s 3=sc (.int .i64 n)/\s 4=sc (.int .i64 i)/\Keep σ σ'/\σ.nobj<σ'.nobj/\σ'.obj σ.nobj=[sc (.bool a.nt),str a.pred,sl ia a.terms.length (a.terms.map str)]/\n<=i/\Agt (n=(a.terms.take i).countP Ab)) a.terms.length
  ⟨0,0,Agm,Agm,Ago,Ago,Ago,Xs,by simp[Aa],Al,Agm,by simp[Agt]⟩ ?_
 rintro m s σ' ⟨i,n,rfl,hi,h1,h3,h4,hK,af,ae,ah,hN⟩;by_cases ac:i<a.terms.length
 ·have aa:=Adn ac;have hd:=A2 ac;generalize a.terms[i]=t at hd aa;have HC:Agt ((a.terms.take (i+1)).countP Ab=(a.terms.take i).countP Ab+(if Ab t=true then 1 else 0)):=by
   rw[Agt,Ad0,aa];simp[Afw,Afx]
  clear aa;have hV:=fun σ=>Co t σ;cases hv:Ab t with
  |true=>
   rw[hv]at hV HC
   repeat' first|refine Z1 ?_|refine Z8 fun ya J=>?_|refine Z4 ?_;clear J ya|refine Z2 ?_ ?_<;>intro h ab<;>try exact Xp|refine Z5 ?_;refine Xi (hV _) ?_;rintro _ _ ⟨rfl,rfl⟩|refine Z3 ?_|exact Zt|apply J.out;clear J ya
   refine⟨a.terms.length-(i+1),Agm,i+1,n+1,?_⟩
   ((repeat' refine Zi ?_ ?_)<;>first|exact Xq|exact (by rw[Agt,HC.out,<-hN.out];simp)|exact Xs)
  |false=>
   rw[hv]at hV HC
   repeat' first|refine Z1 ?_|refine Z8 fun ya J=>?_|refine Z4 ?_;clear J ya|refine Z2 ?_ ?_<;>intro h ab<;>try exact Xp|refine Z5 ?_;refine Xi (hV _) ?_;rintro _ _ ⟨rfl,rfl⟩|refine Z3 ?_|exact Zt|apply J.out;clear J ya
   refine⟨a.terms.length-(i+1),Agm,i+1,n,?_⟩
   ((repeat' refine Zi ?_ ?_)<;>first|exact Xq|exact (by rw[Agt,HC.out,<-hN.out];simp)|exact Xs)
 ·have ad:i=a.terms.length:=Agm;subst ad;have hN:=hN.out;rw[Adu]at hN;have hN:n=I9 a:=hN;subst hN
  repeat' first|refine Z1 ?_|refine Z8 fun ya J=>?_|refine Z4 ?_;clear J ya|refine Z2 ?_ ?_<;>intro h ab<;>try exact Xp|refine Z3 ?_|exact Zt|apply J.out;clear J ya
  first|exact⟨_,rfl,rfl,hK⟩|exact⟨rfl,hK⟩|exact⟨_,rfl,rfl⟩
theorem Fx (ls:List RAtom)(cs:List AV)(id:Nat)(a:RAtom)(ca:List AV)(hE:EL B6 ls cs)(ha:B6 a ca)(hl:ls.length<=1000)(hn:∀b∈ls,b.terms.length<=1000)(σ:St):ACalls Tryz.prog 147 [sl id ls.length cs,ag ca] σ fun r σ'=>∃b,r=sc (.bool b)/\(b=true↔a∈ls)/\Keep σ σ':=by
 by_cases hm:a∈ls
 ·refine (dD ls cs id a ca hE ha hl hn ⟨a,hm,rfl,rfl,rfl⟩ σ).mono fun r σ' h=>⟨true,h.1,by simp[hm],h.2⟩
 obtain⟨ia,rfl⟩:=ha;have an:=EL.length Bc hE;have ai:=fun b ib hb σ=>Y0 b a [sc (.bool b.nt),str b.pred,sl ib b.terms.length (b.terms.map str)] _ ⟨ib,rfl⟩ ⟨ia,rfl⟩ (hn b hb) σ;have HM:Agt _:=hm;clear hm;refine Z9 18 [.tmp 4] Tryz.func147 ?_
 refine zz ?_
 refine Ad (fun m s σ'=>∃i:Nat,m=ls.length-i/\i<=ls.length/\s 0=sl id ls.length cs/\s 3=ptr σ.nobj 0/\s 5=sc (.int .i64 i)/\Keep σ σ'/\σ.nobj<σ'.nobj/\σ'.obj σ.nobj=[sc (.bool a.nt),str a.pred,sl ia a.terms.length (a.terms.map str)]) ls.length
  ⟨0,Agm,Agm,rfl,rfl,rfl,Xs,by simp[Aa],Al⟩ ?_
 rintro m s σ' ⟨i,rfl,hi,h0,h3,h5,hK,am,ak⟩;have aj:=hK.nobj;by_cases ad:i<ls.length
 ·have aa:=Adn ad;obtain⟨ib,r,hd⟩:=Cm hE aa;have hS:=fun σ=>ai ls[i] ib (Aes ad) σ;have ac:¬Iu ls[i] a:=fun h=>HM.out (by rw[<-sameP_iff.1 h];exact Aes ad);generalize ls[i]=b at hd aa hS ac;clear aa;have hS:∀σ,ACalls Tryz.prog 186 [ag [sc (.bool b.nt),str b.pred,sl ib b.terms.length (b.terms.map str)],ag [sc (.bool a.nt),str a.pred,sl ia a.terms.length (a.terms.map str)]] σ fun r σ'=>r=sc (.bool false)/\Keep σ σ':=fun σ=>(hS σ).mono fun r σ' ⟨bo,h1,h2,h3⟩=>by
   have:bo=false:=by
    cases bo with
    |false=>rfl
    |true=>exact absurd (h2.1 rfl) ac
   subst this;exact⟨h1,h3⟩
  clear ac
  repeat' first|refine Z1 ?_|refine Z8 fun ya J=>?_|refine Z4 ?_;clear J ya|refine Z2 ?_ ?_<;>intro h ab<;>try exact Xp|refine Z3 ?_|exact Zt|apply J.out;clear J ya
  refine Aw Ag (fun _=>True) [5] [0,1,2,3,4] [5] Agp (fun _ _ _ h=>h) ?_;intro ya J
  repeat' first|refine Z1 ?_|refine Z8 fun ya J=>?_|refine Z4 ?_;clear J ya|refine Z2 ?_ ?_<;>intro h ab<;>try exact Xp|refine Z5 ?_;refine Xi (hS _) ?_;rintro _ _ ⟨rfl,ae⟩;(have af:=ae.obj;have ah:=ae.nobj)|refine Z3 ?_|exact Zt|apply J.out;clear J ya
  refine⟨ls.length-(i+1),Agm,i+1,?_⟩
  ((repeat' refine Zi ?_ ?_)<;>first|exact Xq|exact (hK.trans ae)|exact Xs)
 ·repeat' first|refine Z1 ?_|refine Z8 fun ya J=>?_|refine Z4 ?_;clear J ya|refine Z2 ?_ ?_<;>intro h ab<;>try exact Xp|refine Z3 ?_|exact Zt|apply J.out;clear J ya
  have hb:(false=true↔a∈ls):=⟨fun h=>(by cases h),fun h=>absurd h HM.out⟩
  first|exact⟨_,rfl,false,rfl,hb,hK⟩|exact⟨false,rfl,hb,hK⟩|exact⟨_,rfl,false,rfl,hb⟩
theorem bH (a:RAtom)(ca:List AV)(v t:Tx)(ha:B6 a ca)(hn:a.terms.length<=1000)(σ:St):ACalls Tryz.prog 269 [ag ca,str v,str t] σ fun r σ'=>∃c,r=ag c/\B6 (G4 v t a) c/\Keep σ σ':=by
 obtain⟨ia,rfl⟩:=ha;refine Z9 38 [.cell 6 143] Tryz.func269 ?_
 refine zz ?_
 refine Ad (fun m s σ'=>∃(i i3:Nat) (xs:List AV),m=a.terms.length-i/\i<=a.terms.length/\s 1=str v/\s 2=str t/\s 3=ptr σ.nobj 0/\s 6=ptr (σ.nobj+1) 0/\s 7=ptr (σ.nobj+2) 0/\s 8=sc (.int .i64 i)/\Keep σ σ'/\σ.nobj+2<σ'.nobj/\σ'.obj σ.nobj=[sc (.bool a.nt),str a.pred,sl ia a.terms.length (a.terms.map str)]/\σ'.obj (σ.nobj+1)=[sc (.bool false),str [],nilS]/\σ'.obj (σ.nobj+2)=[sc (.bool a.nt),str a.pred,sl i3 i xs]/\Own σ σ' i3 i/\xs.length=i*1/\Agt (xs=((a.terms.take i).map fun u=>if u=v then t else u).map str)) a.terms.length
  ⟨0,1,[],Agm,Agm,by simp[upd,initS],by simp[upd,initS],Ago,Ago,Ago,Ago,Xs,Ags,?_,?_,?_,Own.nil _ _,by simp,by simp[Agt]⟩ ?_
 ·rw[Ak Agm,Ah Agq,Ah Agq,Al]
 ·rw[Ak Agm,Ah Agq,Ca Agq Agq]
 ·rw[Aj]
 rintro m s σ' ⟨i,i3,xs,rfl,hi,h1,h2,h3,h6,h7,h8,hK,aw,ap,ao,an,hO,av,hX⟩;have au:=hK.nobj;by_cases aj:i<a.terms.length
 ·have aa:=Adn aj;have hd:=A2 aj;generalize a.terms[i]=u at hd aa;have HC:Agt (((a.terms.take (i+1)).map fun u=>if u=v then t else u).map str=((a.terms.take i).map fun u=>if u=v then t else u).map str++[str (if u=v then t else u)]):=by
   rw[Agt,Ad0,aa];simp
  clear aa;by_cases he:u=v
  ·have am:(u==v)=true:=by simp[he]
   rw[if_pos he]at HC;clear he
   repeat' first|refine Z1 ?_|refine Z8 fun ya J=>?_|refine Z4 ?_;clear J ya|refine Z2 ?_ ?_<;>intro h ab<;>try exact Xp|refine Z6 ?_;intro idn σn ae af ai ad ah ac|refine Z3 ?_|exact Zt|apply J.out;clear J ya
   refine⟨a.terms.length-(i+1),Agm,i+1,idn,xs++[str t],?_⟩
   ((repeat' refine Zi ?_ ?_)<;>first|exact Xq|exact (af.put Agm _)|exact (Own.put ae _ _)|exact (by rw[Agt,HC.out,hX.out])|exact Xs)
  ·have am:(u==v)=false:=by simpa using he
   rw[if_neg he]at HC;clear he
   repeat' first|refine Z1 ?_|refine Z8 fun ya J=>?_|refine Z4 ?_;clear J ya|refine Z2 ?_ ?_<;>intro h ab<;>try exact Xp|refine Z6 ?_;intro idn σn ae af ai ad ah ac|refine Z3 ?_|exact Zt|apply J.out;clear J ya
   refine⟨a.terms.length-(i+1),Agm,i+1,idn,xs++[str u],?_⟩
   ((repeat' refine Zi ?_ ?_)<;>first|exact Xq|exact (af.put Agm _)|exact (Own.put ae _ _)|exact (by rw[Agt,HC.out,hX.out])|exact Xs)
 ·have ak:i=a.terms.length:=Agm;subst ak;have hX:=hX.out;rw[Adu]at hX;subst hX;have HE:B6 (G4 v t a) [sc (.bool a.nt),str a.pred,sl i3 a.terms.length ((a.terms.map fun u=>if u=v then t else u).map str)]:=⟨i3,by simp[G4]⟩
  repeat' first|refine Z1 ?_|refine Z8 fun ya J=>?_|refine Z4 ?_;clear J ya|refine Z2 ?_ ?_<;>intro h ab<;>try exact Xp|refine Z3 ?_|exact Zt|apply J.out;clear J ya
  exact⟨_,rfl,_,rfl,HE,hK.put Agm _⟩
theorem Na (a:RAtom)(ia:Nat)(v t:Tx)(hn:a.terms.length<=1000)(σ:St):ACalls Tryz.prog 269 [ag [sc (.bool a.nt),str a.pred,sl ia a.terms.length (a.terms.map str)],str v,str t] σ fun r σ'=>∃i,r=ag [sc (.bool a.nt),str a.pred,sl i a.terms.length ((G4 v t a).terms.map str)]/\Keep σ σ':=
 (bH a _ v t ⟨ia,rfl⟩ hn σ).mono fun r σ' ⟨c,h1,⟨i,h2⟩,h3⟩=>⟨i,by rw[h1,h2];simp[G4],h3⟩
theorem rB (x:RItem)(c:List AV)(v t:Tx)(hc:EItem x c)(hx:x.fits)(σ:St):ACalls Tryz.prog 259 [ag c,str v,str t] σ fun r σ'=>∃c',r=ag c'/\EItem (G3 v t x) c'/\Keep σ σ':=by
 obtain⟨ih,id,b,hb,rfl⟩:=hc.cells;have be:=EL.length Bc hb;have bf:=hx.1;have ay:=fun σ=>Na x.head ih v t hx.2.1 σ;unfold A5;refine Z9 36 [.cell 6 145] Tryz.func259 ?_
 repeat' first|refine Z1 ?_|refine Z8 fun ya J=>?_|refine Z4 ?_;clear J ya|refine Z5 ?_;refine Xi (ay _) ?_;rintro _ _ ⟨ih2,rfl,ae⟩;(have ak:=ae.nobj;have aa:=ae.obj;simp only[Aa]at ak aa)|refine Z3 ?_|exact Zt|apply J.out;clear J ya
 rename_i σ1;have o0:σ1.obj σ.nobj=[sc (.bool x.out),sc (.bool x.head.nt),str x.head.pred,sl ih x.head.terms.length (x.head.terms.map str),sl id x.body.length b]:=by rw[aa _ Agm,Ah Agq,Al]
 have o1:σ1.obj (σ.nobj+1)=[sc (.bool false),sc (.bool false),str [],nilS,nilS]:=by rw[aa _ Agm,Ca Agq Agq]
 have bb:Keep σ σ1:=(((Keep.refl σ).new _).new _).trans ae;clear aa ae
 refine Ad (fun m s σ'=>∃(i i3:Nat) (xs:List AV),m=x.body.length-i/\i<=x.body.length/\s 1=str v/\s 2=str t/\s 3=ptr σ.nobj 0/\s 6=ptr (σ.nobj+1) 0/\s 7=ptr σ1.nobj 0/\s 8=sc (.int .i64 i)/\Keep σ σ'/\σ1.nobj<σ'.nobj/\σ'.obj σ.nobj=[sc (.bool x.out),sc (.bool x.head.nt),str x.head.pred,sl ih x.head.terms.length (x.head.terms.map str),sl id x.body.length b]/\σ'.obj (σ.nobj+1)=[sc (.bool false),sc (.bool false),str [],nilS,nilS]/\σ'.obj σ1.nobj=[sc (.bool false),sc (.bool x.head.nt),str x.head.pred,sl ih2 x.head.terms.length ((G4 v t x.head).terms.map str),sl i3 i xs]/\Own σ σ' i3 i/\xs.length=i*3/\Agt (EL B6 ((x.body.take i).map (G4 v t)) xs)) x.body.length
  ⟨0,1,[],Agm,Agm,by simp[upd,initS],by simp[upd,initS],Ago,Ago,Ago,Ago,Xs,Ags,?_,?_,?_,Own.nil _ _,by simp,by simp[Agt,EL]⟩ ?_
 ·rw[Ak Agm,Ah Agm,o0]
 ·rw[Ak Agm,Ah Agm,o1]
 ·rw[Aj]
 clear o0 o1 bb ay;rintro m s σ' ⟨i,i3,xs,rfl,hi,h1,h2,h3,h6,h7,h8,hK,ao,ai,ah,af,hO,an,hX⟩;have a4:=hK.nobj;by_cases aw:i<x.body.length
 ·have ab:=Adn aw;obtain⟨ia,r,hd⟩:=Cm hb ab;have av:=hx.2.2 _ (Aes aw);generalize x.body[i]=w at hd ab av;have HG:Agt ((x.body.take (i+1)).map (G4 v t)=(x.body.take i).map (G4 v t)++[G4 v t w]):=by
   rw[Agt,Ad0,ab];simp
  clear ab;have a7:=fun σ=>Na w ia v t av σ;have bd:Agt _:=hX;have am:Agt _:=an
  repeat' first|refine Z1 ?_|refine Z8 fun ya J=>?_|refine Z4 ?_;clear J ya|refine Z2 ?_ ?_<;>intro h ap<;>try exact Xp|refine Z3 ?_|exact Zt|apply J.out;clear J ya
  refine Bl (Q:=fun e s' σ''=>e= .normal/\s' 1=str v/\s' 2=str t/\s' 3=ptr σ.nobj 0/\s' 6=ptr (σ.nobj+1) 0/\s' 7=ptr σ1.nobj 0/\s' 8=sc (.int .i64 i)/\Keep σ σ''/\σ1.nobj<σ''.nobj/\σ''.obj σ.nobj=[sc (.bool x.out),sc (.bool x.head.nt),str x.head.pred,sl ih x.head.terms.length (x.head.terms.map str),sl id x.body.length b]/\σ''.obj (σ.nobj+1)=[sc (.bool false),sc (.bool false),str [],nilS,nilS]/\∃idn c',σ''.obj σ1.nobj=[sc (.bool false),sc (.bool x.head.nt),str x.head.pred,sl ih2 x.head.terms.length ((G4 v t x.head).terms.map str),sl idn (i+1) (xs++c')]/\Own σ σ'' idn (i+1)/\B6 (G4 v t w) c') ?_ ?_
  ·refine Ay Ag (fun _=>True) [13] [0,1,2,3,4,5,6,7,8] 5 #[true,true,true,true,true,true,true,true,true,false,false,false,false,false] Agp (fun _ _ _ h=>by cases h.1) ?_;intro ya J;refine Z3 ?_;refine J.out _ ?_;clear J ya;refine Ai (i:=9) Agp ?_;refine Am ?_;intro ya J;refine Z3 ?_;refine ACalls.mono (a7 _) ?_;rintro _ σ5 ⟨ij,rfl,ac⟩;refine Z3 ?_;refine J.out _ _ ⟨Ao ac,?_⟩;clear J ya;have a3:=ac.nobj;have aj:=ac.obj;have ba:=hK.trans ac;have a8:=Own.keep hO ac;refine Ai (i:=10) Agp ?_;refine Am ?_;intro ya J;refine Z3 ?_;refine J.out _ _ ⟨Ao (ac.lay 1),?_⟩;clear J ya;refine Ai (i:=11) Agp ?_;refine Am ?_;intro ya J;refine Z3 ?_;refine Bz (by first|exact Ka) ba a8 (by decide) (by rfl) an (by rfl) (by rfl) (by decide) Agm Agm ?_;intro idn σn a9 bc au a0 ad az;refine Z3 ?_;refine J.out _ _ ⟨fun _ o ho _=>by rw[ad];exact ac.ver o ho,?_⟩;clear J ya;refine Ai (i:=12) Agp ?_;refine Am ?_;intro ya J;refine Z3 ?_;refine J.out _ _ ⟨fun _ o ho _=>by rw[ad];exact ac.ver o ho,?_⟩;clear J ya;have en:∀p,p<σ'.nobj->σn.obj p=σ'.obj p:=fun p hp=>by rw[au,aj _ Agm]
   have en1:σn.obj σ1.nobj=[sc (.bool false),sc (.bool x.head.nt),str x.head.pred,sl ih2 x.head.terms.length ((G4 v t x.head).terms.map str),sl i3 i xs]:=by rw[en _ ao,af]
   refine Ai (i:=13) Agp ?_;refine Am ?_;intro ya J;refine Z3 ?_;refine J.out _ _ ⟨Bf rfl,?_⟩;clear J ya;refine Bb Agp ⟨rfl,?_⟩;simp only[upd,↓reduceIte,Nat.reduceEqDiff,h1,h2,h3,h6,h7,h8,Agi];refine⟨bc.put Agm _,by simp only[Ac];omega,?_,?_,idn,_,?_,Own.put a9 _ _,⟨ij,by simp[G4];rfl⟩⟩
   ·rw[Ak Agm,en _ Agm,ai]
   ·rw[Ak Agm,en _ Agm,ah]
   ·rw[Aj];simp[G4]
  ·clear hX hO an ai ah af ao hK a4;rintro e s' σ'' ⟨rfl,g1,g2,g3,g6,g7,g8,hK,ao,ai,ah,idn,c',af,hO,ax⟩;have HX:Agt (EL B6 ((x.body.take (i+1)).map (G4 v t)) (xs++c')):=by rw[Agt,HG.out];exact EL.append bd.out (EL.single ax)
   have a6:=Bc _ _ ax
   refine zz ?_
   refine⟨x.body.length-(i+1),Agm,i+1,idn,xs++c',?_⟩
   ((repeat' refine Zi ?_ ?_)<;>first|exact Xq|exact HX|exact (by rw[Aeb,a6,am.out];omega)|exact Xs)
 ·have a5:i=x.body.length:=Agm;subst a5;rw[Adu]at hX
  have HE:EItem (G3 v t x) [sc (.bool false),sc (.bool x.head.nt),str x.head.pred,sl ih2 x.head.terms.length ((G4 v t x.head).terms.map str),sl i3 x.body.length xs]:=
   ⟨[sc (.bool x.head.nt),str x.head.pred,sl ih2 x.head.terms.length ((G4 v t x.head).terms.map str)],i3,xs,⟨ih2,by simp[G3,G4]⟩,hX.out,by simp[G3]⟩
  repeat' first|refine Z1 ?_|refine Z8 fun ya J=>?_|refine Z4 ?_;clear J ya|refine Z2 ?_ ?_<;>intro h ap<;>try exact Xp|refine Z3 ?_|exact Zt|apply J.out;clear J ya
  exact⟨_,rfl,_,rfl,HE,hK.put Agm _⟩
theorem rH {v t:Tx}{x:RItem}(h:x.fits):(G3 v t x).fits:=
 ⟨by simp only[G3,Ae3];exact h.1,by simp only[G3,G4,Ae3];exact h.2.1,fun a ha=>by
  obtain⟨b,hb,rfl⟩:=Ae4.1 ha
  simp only[G4,Ae3];exact h.2.2 b hb⟩
theorem sU {j k:Nat}{ts:List Tx}{a u:Tx}{y:RItem}{b:RAtom}(ha:ts[k]?=some a)(hb:y.body[j]?=some b)(hu:b.terms[k]?=some u):Kr j (ts.drop k) k y=if u=a then Kr j (ts.drop (k+1)) (k+1) y else if Ab u=true then Kr j (ts.drop (k+1)) (k+1) (G3 u a y)else none:=by
 have hl:=(Adm.1 ha).1;have he:=(Adm.1 ha).2;rw[Aeo hl,he,Kr,hb];simp only[Aeg,hu]
def yK (x:RItem)(j:Nat)(t:RAtom)(y:RItem)(ok:Bool):Prop:=y.fits/\((ok=true/\Jf x j t=some y)\/(ok=false/\Jf x j t=none))
theorem bF (x:RItem)(c:List AV)(j:Nat)(t:RAtom)(ct:List AV)(b0:RAtom)(hc:EItem x c)(ht:B6 t ct)(hx:x.fits)(ab:x.body[j]?=some b0)(bu:t.terms.length<=1000)(σ:St):ACalls Tryz.prog 257 [ag c,sc (.int .i64 j),ag ct] σ fun r σ'=>∃y cy ok,r=tp [ag cy,sc (.bool ok)]/\EItem y cy/\yK x j t y ok/\Keep σ σ':=by
 have ah:=hc;obtain⟨ih,id,b,hb,rfl⟩:=hc.cells;obtain⟨it,rfl⟩:=ht;have ba:=EL.length Bc hb;have bb:=hx.1;obtain⟨ia,r,hd⟩:=Cm hb ab;have a7:=(Adm.1 ab).1;unfold A5;unfold A5 at ah;by_cases hq:t.nt=b0.nt/\t.pred=b0.pred/\t.terms.length=b0.terms.length
 ·obtain⟨q1,q2,q3⟩:=hq;have ai:Agt (Jf x j t=Kr j (t.terms.drop 0) 0 x):=by
   unfold Jf;rw[Agt,ab];simp only;rw[if_pos ⟨q1,q2,q3⟩,List.drop_zero]
  have ay:(t.nt==b0.nt)=true:=by simp[q1]
  have ax:(t.pred==b0.pred)=true:=by simp[q2]
  have a8:((t.terms.length:Int) !=(b0.terms.length:Int))=false:=by simp[q3]
  have bc:Agt (∃b',x.body[j]?=some b'/\b'.terms.length=t.terms.length):=⟨b0,ab,q3.symm⟩;clear q1 q2 q3 ab;refine Z9 74 [.cell 6 145,.tmp 7] Tryz.func257 ?_
  repeat' first|refine Z1 ?_|refine Z8 fun ya J=>?_|refine Z4 ?_;clear J ya|refine Z2 ?_ ?_<;>intro h aa<;>try exact Xp|refine Z3 ?_|exact Zt|apply J.out;clear J ya
  refine Ad (fun m s σ'=>∃(k:Nat) (y:RItem) (iy jy:Nat) (by':List AV),m=t.terms.length-k/\k<=t.terms.length/\s 1=sc (.int .i64 j)/\s 3=ptr σ.nobj 0/\s 5=ptr (σ.nobj+1) 0/\s 6=ptr (σ.nobj+2) 0/\s 9=sc (.int .i64 k)/\Keep σ σ'/\σ.nobj+3<σ'.nobj/\σ'.obj σ.nobj=[sc (.bool y.out),sc (.bool y.head.nt),str y.head.pred,sl iy y.head.terms.length (y.head.terms.map str),sl jy y.body.length by']/\σ'.obj (σ.nobj+1)=[sc (.bool t.nt),str t.pred,sl it t.terms.length (t.terms.map str)]/\σ'.obj (σ.nobj+2)=[sc (.bool false),sc (.bool false),str [],nilS,nilS]/\Agt (EL B6 y.body by'/\y.fits/\(∃b',y.body[j]?=some b'/\b'.terms.length=t.terms.length)/\Jf x j t=Kr j (t.terms.drop k) k y)) t.terms.length
   ⟨0,x,ih,id,b,Agm,Agm,by simp[upd,initS],Ago,Ago,Ago,Ago,Xs,Ags,?_,?_,?_,hb,hx,bc.out,ai.out⟩ ?_
  ·rw[Ak Agm,Ah Agq,Ah Agq,Ah Agq,Al]
  ·rw[Ak Agm,Ah Agq,Ah Agq,Ca Agq Agq]
  ·rw[Ak Agm,Ah Agq,Ca Agq Agq]
  clear ay ax a8 hd hb ba bb a7 ah bc;rintro m s σ' ⟨k,y,iy,jy,by',rfl,hk,h1,h3,h5,h6,h9,hK,a5,ap,ao,an,hH⟩;have be:=hK.nobj;by_cases a6:k<t.terms.length
  ·obtain⟨hy,aj,⟨b',af,a9⟩,ae⟩:=hH.out;have ba:=EL.length Bc hy;have bb:=aj.1;have a7:=(Adm.1 af).1;obtain⟨ia,r,hd⟩:=Cm hy af;have av:b'.terms[k]?=some (b'.terms[k]'Agm):=Adn Agm;have bg:=A2 (l:=b'.terms) (k:=k) Agm;generalize b'.terms[k]'Agm=u at av bg;have aw:=Adn a6;have bh:=A2 a6;generalize t.terms[k]=a at aw bh;have a0:Agt _:=sU aw af av;have bq:Agt (∃b',y.body[j]?=some b'/\b'.terms.length=t.terms.length):=⟨b',af,a9⟩;have bp:Agt (∃b',(G3 u a y).body[j]?=some b'/\b'.terms.length=t.terms.length):=⟨G4 u a b',by simp[G3,af],by simp[G4,a9]⟩;have a3:Agt _:=ae;have bm:(k:Int)<(b'.terms.length:Int):=Agm;have HY:Agt _:=hy;have am:Agt _:=aj;have a4:EItem y [sc (.bool y.out),sc (.bool y.head.nt),str y.head.pred,sl iy y.head.terms.length (y.head.terms.map str),sl jy y.body.length by']:=⟨[sc (.bool y.head.nt),str y.head.pred,sl iy y.head.terms.length (y.head.terms.map str)],jy,by',⟨iy,rfl⟩,hy,rfl⟩;clear aw av af ae hy hH;have hV:=fun σ=>Co u σ;by_cases ac:u=a
   ·have au:(u==a)=true:=by simp[ac]
    have HN:Agt (EL B6 y.body by'/\y.fits/\(∃b',y.body[j]?=some b'/\b'.terms.length=t.terms.length)/\Jf x j t=Kr j (t.terms.drop (k+1)) (k+1) y):=⟨HY.out,am.out,bq.out,by rw[a3.out,a0.out,if_pos ac]⟩;clear ac
    repeat' first|refine Z1 ?_|refine Z8 fun ya J=>?_|refine Z4 ?_;clear J ya|refine Z2 ?_ ?_<;>intro h aa<;>try exact Xp|refine Z3 ?_|exact Zt|apply J.out;clear J ya
    refine⟨t.terms.length-(k+1),Agm,k+1,y,iy,jy,by',?_⟩
    ((repeat' refine Zi ?_ ?_)<;>first|exact Xq|exact HN|exact Xs)
   ·have au:(u==a)=false:=by simpa using ac
    cases hv:Ab u with
    |false=>
     rw[hv]at hV;have HN:Agt (yK x j t y false):=⟨am.out,.inr ⟨rfl,by rw[a3.out,a0.out,if_neg ac,if_neg (by simp[hv])]⟩⟩;clear ac
     repeat' first|refine Z1 ?_|refine Z8 fun ya J=>?_|refine Z4 ?_;clear J ya|refine Z2 ?_ ?_<;>intro h aa<;>try exact Xp|refine Z5 ?_;refine Xi (hV _) ?_;rintro _ _ ⟨rfl,rfl⟩|refine Z3 ?_|exact Zt|apply J.out;clear J ya
     exact⟨_,rfl,y,_,false,rfl,a4,HN.out,hK.put Agm _⟩
    |true=>
     rw[hv]at hV;have HN:Agt (Jf x j t=Kr j (t.terms.drop (k+1)) (k+1) (G3 u a y)):=by rw[Agt,a3.out,a0.out,if_neg ac,if_pos hv]
     clear ac;have bn:=fun σ=>rB y _ u a a4 am.out σ
     repeat' first|refine Z1 ?_|refine Z8 fun ya J=>?_|refine Z4 ?_;clear J ya|refine Z2 ?_ ?_<;>intro h aa<;>try exact Xp|refine Z5 ?_;refine Xi (hV _) ?_;rintro _ _ ⟨rfl,rfl⟩|refine Z3 ?_|exact Zt|apply J.out;clear J ya
     refine Bl (Q:=fun e s' σ''=>e= .normal/\s' 1=sc (.int .i64 j)/\s' 3=ptr σ.nobj 0/\s' 5=ptr (σ.nobj+1) 0/\s' 6=ptr (σ.nobj+2) 0/\s' 9=sc (.int .i64 k)/\Keep σ σ''/\σ.nobj+3<σ''.nobj/\σ''.obj (σ.nobj+1)=[sc (.bool t.nt),str t.pred,sl it t.terms.length (t.terms.map str)]/\σ''.obj (σ.nobj+2)=[sc (.bool false),sc (.bool false),str [],nilS,nilS]/\∃iz jz bz,σ''.obj σ.nobj=[sc (.bool (G3 u a y).out),sc (.bool (G3 u a y).head.nt),str (G3 u a y).head.pred,sl iz (G3 u a y).head.terms.length ((G3 u a y).head.terms.map str),sl jz (G3 u a y).body.length bz]/\EL B6 (G3 u a y).body bz) ?_ ?_
     ·refine Ay Ag (fun _=>True) [8] [0,1,2,3,4,5,6] 2 #[true,true,true,true,true,true,true,false,false] Agp (fun _ _ _ h=>by cases h.1) ?_;intro ya J;refine Z3 ?_;refine J.out _ ?_;clear J ya;refine Ai (i:=7) Agp ?_;refine Am ?_;intro ya J;refine Z3 ?_;refine ACalls.mono (bn _) ?_;rintro _ σ5 ⟨c5,rfl,bi,ak⟩;obtain⟨iz,jz,bz,az,rfl⟩:=bi.cells;unfold A5;refine Z3 ?_;refine J.out _ _ ⟨Ao ak,?_⟩;clear J ya;have bd:=ak.nobj;have ad:=ak.obj;have br:σ5.obj σ.nobj=[sc (.bool y.out),sc (.bool y.head.nt),str y.head.pred,sl iy y.head.terms.length (y.head.terms.map str),sl jy y.body.length by']:=by rw[ad _ Agm,ap]
      refine Ai (i:=8) Agp ?_;refine Am ?_;intro ya J;refine Z3 ?_;refine J.out _ _ ⟨Bf rfl,?_⟩;clear J ya;refine Bb Agp ⟨rfl,?_⟩;simp only[upd,↓reduceIte,Nat.reduceEqDiff,h1,h3,h5,h6,h9,Agi];refine⟨(hK.trans ak).put Agm _,by simp only[Ac];omega,?_,?_,iz,jz,bz,?_,az⟩
      ·rw[Ma (show σ.nobj<σ.nobj+1 by omega),ad _ Agm,ao]
      ·rw[Ma (show σ.nobj<σ.nobj+2 by omega),ad _ Agm,an]
      ·rw[Aj]
     ·clear hK a5 ap ao an be;rintro e s' σ'' ⟨rfl,g1,g3,g5,g6,g9,hK,a5,ao,an,iz,jz,bz,ap,az⟩;have bo:Agt (EL B6 (G3 u a y).body bz/\(G3 u a y).fits/\(∃b',(G3 u a y).body[j]?=some b'/\b'.terms.length=t.terms.length)/\Jf x j t=Kr j (t.terms.drop (k+1)) (k+1) (G3 u a y)):=⟨az,rH am.out,bp.out,HN.out⟩
      refine zz ?_
      refine⟨t.terms.length-(k+1),Agm,k+1,G3 u a y,iz,jz,bz,?_⟩
      ((repeat' refine Zi ?_ ?_)<;>first|exact Xq|exact bo|exact Xs)
  ·have bf:k=t.terms.length:=Agm;subst bf;obtain⟨hy,aj,-,ae⟩:=hH.out;have HE:EItem y [sc (.bool y.out),sc (.bool y.head.nt),str y.head.pred,sl iy y.head.terms.length (y.head.terms.map str),sl jy y.body.length by']:=⟨[sc (.bool y.head.nt),str y.head.pred,sl iy y.head.terms.length (y.head.terms.map str)],jy,by',⟨iy,rfl⟩,hy,rfl⟩;rw[Aep,Kr]at ae;have HR:Agt (yK x j t y true):=⟨aj,.inl ⟨rfl,ae⟩⟩;clear ae hH
   repeat' first|refine Z1 ?_|refine Z8 fun ya J=>?_|refine Z4 ?_;clear J ya|refine Z2 ?_ ?_<;>intro h aa<;>try exact Xp|refine Z3 ?_|exact Zt|apply J.out;clear J ya
   exact⟨_,rfl,y,_,true,rfl,HE,HR.out,hK.put Agm _⟩
 ·have ai:Agt (yK x j t x false):=⟨hx,.inr ⟨rfl,by unfold Jf;rw[ab];simp only;rw[if_neg hq]⟩⟩;by_cases q1:t.nt=b0.nt
  ·have ay:(t.nt==b0.nt)=true:=by simp[q1]
   by_cases q2:t.pred=b0.pred
   ·have ax:(t.pred==b0.pred)=true:=by simp[q2]
    have a8:((t.terms.length:Int) !=(b0.terms.length:Int))=true:=by
     simp only[bne_iff_ne,ne_eq];intro h;exact hq ⟨q1,q2,Agm⟩
    clear hq q1 q2 ab;refine Z9 74 [.cell 6 145,.tmp 7] Tryz.func257 ?_
    repeat' first|refine Z1 ?_|refine Z8 fun ya J=>?_|refine Z4 ?_;clear J ya|refine Z2 ?_ ?_<;>intro h aa<;>try exact Xp|refine Z3 ?_|exact Zt|apply J.out;clear J ya
    exact⟨_,rfl,x,_,false,rfl,ah,ai.out,Xs⟩
   ·have ax:(t.pred==b0.pred)=false:=by simpa using q2
    clear hq q1 q2 ab;refine Z9 74 [.cell 6 145,.tmp 7] Tryz.func257 ?_
    repeat' first|refine Z1 ?_|refine Z8 fun ya J=>?_|refine Z4 ?_;clear J ya|refine Z2 ?_ ?_<;>intro h aa<;>try exact Xp|refine Z3 ?_|exact Zt|apply J.out;clear J ya
    exact⟨_,rfl,x,_,false,rfl,ah,ai.out,Xs⟩
  ·have ay:(t.nt==b0.nt)=false:=by simpa using q1
   clear hq q1 ab;refine Z9 74 [.cell 6 145,.tmp 7] Tryz.func257 ?_
   repeat' first|refine Z1 ?_|refine Z8 fun ya J=>?_|refine Z4 ?_;clear J ya|refine Z2 ?_ ?_<;>intro h aa<;>try exact Xp|refine Z3 ?_|exact Zt|apply J.out;clear J ya
   exact⟨_,rfl,x,_,false,rfl,ah,ai.out,Xs⟩
end Go.Proofs.YtmoeoppbmhfbpaaGreatDoorD
