import Derived.Test.YtmoeoppbmhfbpabGreatDoorISpaE
set_option maxHeartbeats 32000000
set_option maxRecDepth 100000
set_option linter.all false
open List renaming length->Z
namespace Go.Proofs.YtmoeoppbmhfbpabGreatDoorI
open Go.Abs
theorem AC.ext' {a b:AC}(h1:a.nt=b.nt)(h2:a.B=b.B)(h3:a.A=b.A):a=b:=by cases a;cases b;simp_all
def Kq (μ:Tx->Tx)(t:Tx):Tx:=if Ac t=true then μ t else t
def Gy (μ:Tx->Tx)(a:AC):AC:=⟨a.nt,a.B,a.A.map (Kq μ)⟩
def Rl (μ:Tx->Tx)(x:AB):AB:=⟨false,Gy μ x.h,x.A.map (Gy μ)⟩
def aF (a:AC):Prop:=∀t∈a.A,Ac t=false
theorem Db {μ t}(h:Ac t=false):Kq μ t=t:=by unfold Kq;rw[if_neg (by simp[h])]
theorem D4 {μ t}(h:Ac t=true):Kq μ t=μ t:=by unfold Kq;rw[if_pos h]
theorem J9 {α:Type}{f}:∀{l:List α},(∀x∈l,f x=x)->l.map f=l
 |[],_=>rfl
 |a::l,h=>by rw[CU,h a (by simp),J9 fun x hx=>h x (by simp[hx])]
theorem Oz {μ a}(h:aF a):Gy μ a=a:=AC.ext' rfl rfl (J9 fun t ht=>Db (h t ht))
def cmp (ν θ:Tx->Tx):Tx->Tx:=fun u=>Kq ν (θ u)
theorem vD (ν θ u):Kq ν (Kq θ u)=Kq (cmp ν θ) u:=by
 cases h:Ac u with
 |true=>rw[D4 h,D4 h];rfl
 |false=>rw[Db h,Db h,Db h]
theorem O0 (ν θ a):Gy ν (Gy θ a)=Gy (cmp ν θ) a:=AC.ext' rfl rfl (by
 show (a.A.map (Kq θ)).map (Kq ν)=a.A.map (Kq (cmp ν θ));rw[BS]
 exact CK fun u _=>vD ν θ u)
theorem iq {μ ν a}(h:∀u∈a.A,Ac u=true->μ u=ν u):Gy μ a=Gy ν a:=AC.ext' rfl rfl (CK fun u hu=>by
 cases hv:Ac u with
 |true=>rw[D4 hv,D4 hv,h u hu hv]
 |false=>rw[Db hv,Db hv])
theorem YZ (ν θ x):Rl ν (Rl θ x)=Rl (cmp ν θ) x:=by
 unfold Rl;congr 1
 ·exact O0 ν θ x.h
 ·rw[BS];exact CK fun a _=>O0 ν θ a
def P4 (v t:Tx):Tx->Tx:=fun u=>if u=v then t else u
def Ie (v t:Tx)(a:AC):AC:=⟨a.nt,a.B,a.A.map fun u=>if u=v then t else u⟩
def Ic (v t:Tx)(x:AB):AB:=⟨false,Ie v t x.h,x.A.map (Ie v t)⟩
theorem vR {v t}(hv:Ac v=true)(a):Ie v t a=Gy (P4 v t) a:=AC.ext' rfl rfl (CK fun u _=>by
 cases h:Ac u with
 |true=>rw[D4 h];rfl
 |false=>rw[Db h,if_neg (fun e=>by subst e;rw[hv]at h;cases h)])
theorem vQ {v t}(hv:Ac v=true)(x):Ic v t x=Rl (P4 v t) x:=by
 unfold Ic Rl;rw[vR hv];congr 1;exact CK fun a _=>vR hv a
def L4 (j:Nat):List Tx->Nat->AB->Option AB
 |[],_,x=>some x
 |a::tl,k,x=>match (x.A[j]?).bind (fun b=>b.A[k]?)with
  |none=>none
  |some t=>if t=a then L4 j tl (k+1) x else if Ac t=true then L4 j tl (k+1) (Ic t a x)else none
def Km (x:AB)(j:Nat)(t:AC):Option AB:=match x.A[j]? with
 |none=>none
 |some b=>if t.nt=b.nt/\t.B=b.B/\Z t.A=Z b.A then L4 j t.A 0 x else none
def Th (θ:Tx->Tx):Prop:=∀u,Ac u=true->θ u=u\/Ac (θ u)=false
def KR (μ:Tx->Tx)(j k:Nat)(tl:List Tx)(x:AB):Prop:=∃b,x.A[j]?=some b/\∀(i:Nat) (a:Tx),tl[i]?=some a->∃t,b.A[k+i]?=some t/\Kq μ t=a
theorem i7 {x}(h:x.o=false):Rl (fun u=>u) x=x:=by
 have ht:∀t,Kq (fun u=>u) t=t:=fun t=>by unfold Kq;split<;>rfl
 have ha:∀a,Gy (fun u=>u) a=a:=fun a=>AC.ext' rfl rfl (J9 fun t _=>ht t);unfold Rl;rw[ha,J9 fun a _=>ha a];cases x;simp_all
theorem po {μ t a u}(ha:Ac a=false)(hm:μ t=a)(hu:Ac u=true):cmp μ (P4 t a) u=μ u:=by
 unfold cmp P4;split
 ·rename_i e;subst e;rw[Db ha,hm]
 ·exact D4 hu
theorem KR.put {μ j k tl x t a}(h:KR μ j k (a::tl) x)(ht:Ac t=true)(ha:Ac a=false)(hm:μ t=a):KR μ j (k+1) tl (Rl (P4 t a) x):=by
 obtain⟨b,hb,h⟩:=h;refine⟨Gy (P4 t a) b,by simp[Rl,hb],fun i a' hi=>?_⟩;obtain⟨t',h1,h2⟩:=h (i+1) a' (by simpa using hi);refine⟨Kq (P4 t a) t',?_,?_⟩
 ·show (b.A.map (Kq (P4 t a)))[k+1+i]?=_;rw[EY,show k+1+i=k+(i+1)by omega,h1];rfl
 ·rw[vD];cases hv:Ac t' with
  |true=>rw[D4 hv,po ha hm hv,<-h2,D4 hv]
  |false=>rw[Db hv,<-h2,Db hv]
theorem KR.tail {μ j k tl x a}(h:KR μ j k (a::tl) x):KR μ j (k+1) tl x:=by
 obtain⟨b,hb,h⟩:=h;refine⟨b,hb,fun i a' hi=>?_⟩;obtain⟨t',h1,h2⟩:=h (i+1) a' (by simpa using hi);exact⟨t',by rw[show k+1+i=k+(i+1)by omega];exact h1,h2⟩
theorem iA (j):∀(tl:List Tx) (k:Nat) (x y:AB),L4 j tl k x=some y->x.o=false->(∀a∈tl,Ac a=false)->
  ∃θ,Th θ/\y=Rl θ x/\(∀(i:Nat) (a:Tx),tl[i]?=some a->∃b,y.A[j]?=some b/\b.A[k+i]?=some a)/\∀μ,KR μ j k tl x->∀u,Ac u=true->Kq μ (θ u)=μ u
 |[],k,x,y,h,ho,_=>by
  cases h;exact⟨fun u=>u,fun u _=>.inl rfl,(i7 ho).symm,fun i a h=>by simp at h,fun μ _ u hu=>D4 hu⟩
 |a::tl,k,x,y,h,ho,hg=>by
  have ha:=hg a (by simp);have ab:∀a∈tl,Ac a=false:=fun b hb=>hg b (by simp[hb]);unfold L4 at h;cases hb:x.A[j]? with
  |none=>rw[hb]at h;cases h
  |some b=>
   rw[hb]at h;cases ht:b.A[k]? with
   |none=>simp[ht]at h
   |some t=>
    simp only[IQ,ht]at h;split at h
    ·rename_i e;subst e;obtain⟨θ,h1,h2,h3,h4⟩:=iA j tl (k+1) x y h ho ab;refine⟨θ,h1,h2,fun i a' hi=>?_,fun μ hm=>h4 μ hm.tail⟩;cases i with
     |zero=>
      simp at hi;subst hi;exact⟨Gy θ b,by rw[h2];simp[Rl,hb],by show (b.A.map (Kq θ))[k+0]?=_;rw[EY,IE,ht,GZ,Db ha]⟩
     |succ i=>
      obtain⟨b',e1,e2⟩:=h3 i a' (by simpa using hi);exact⟨b',e1,by rw[show k+(i+1)=k+1+i by omega];exact e2⟩
    ·split at h
     ·rename_i hv;rw[vQ hv]at h;obtain⟨θ,h1,h2,h3,h4⟩:=iA j tl (k+1) _ y h rfl ab;refine⟨cmp θ (P4 t a),fun u hu=>?_,by rw[h2,YZ],fun i a' hi=>?_,fun μ hm u hu=>?_⟩
      ·unfold cmp P4;split
       ·exact .inr (by rw[Db ha];exact ha)
       ·rw[D4 hu];exact h1 u hu
      ·cases i with
       |zero=>
        simp at hi;subst hi;refine⟨Gy θ (Gy (P4 t a) b),by rw[h2];simp[Rl,hb],?_⟩;show ((b.A.map (Kq (P4 t a))).map (Kq θ))[k+0]?=_;rw[EY,EY,IE,ht,GZ,GZ,D4 hv];have:P4 t a t=a:=by simp[P4]
        rw[this,Db ha]
       |succ i=>
        obtain⟨b',e1,e2⟩:=h3 i a' (by simpa using hi);exact⟨b',e1,by rw[show k+(i+1)=k+1+i by omega];exact e2⟩
      ·have aa:μ t=a:=by
        obtain⟨b',ac,h'⟩:=hm;rw[hb]at ac;cases ac;obtain⟨t',e1,e2⟩:=h' 0 a (by simp);rw[IE,ht]at e1;cases e1;rw[D4 hv]at e2;exact e2
       have ad:=hm.put hv ha aa;unfold cmp P4;split
       ·rename_i e;subst e;rw[Db ha,Db ha,aa]
       ·rw[D4 hu];exact h4 μ ad u hu
     ·cases h
theorem Td (j):∀(tl:List Tx) (k:Nat) (x:AB) (μ:Tx->Tx),KR μ j k tl x->(∀a∈tl,Ac a=false)->∃y,L4 j tl k x=some y
 |[],k,x,μ,_,_=>⟨x,rfl⟩
 |a::tl,k,x,μ,hm,hg=>by
  have ha:=hg a (by simp);have aa:∀a∈tl,Ac a=false:=fun b hb=>hg b (by simp[hb]);obtain⟨b,hb,h'⟩:=id hm;obtain⟨t,e1,e2⟩:=h' 0 a (by simp);rw[IE]at e1;unfold L4;rw[hb];simp only[IQ,e1];split
  ·exact Td j tl (k+1) x μ hm.tail aa
  ·rename_i ab;cases hv:Ac t with
   |true=>
    rw[if_pos rfl,vQ hv];rw[D4 hv]at e2;exact Td j tl (k+1) _ μ (hm.put hv ha e2) aa
   |false=>rw[Db hv]at e2;exact absurd e2 ab
theorem U3 {x j t y}(h:Km x j t=some y)(ho:x.o=false)(hg:aF t):∃b,x.A[j]?=some b/\∃θ,Th θ/\y=Rl θ x/\y.A[j]?=some t/\∀μ,Gy μ b=t->∀u,Ac u=true->Kq μ (θ u)=μ u:=by
 unfold Km at h;split at h
 ·cases h
 ·rename_i b hb;split at h
  ·rename_i hc;obtain⟨c1,c2,c3⟩:=hc;obtain⟨θ,h1,h2,h3,h4⟩:=iA j _ _ _ _ h ho hg;refine⟨b,hb,θ,h1,h2,?_,fun μ hm=>h4 μ ⟨b,hb,fun i a hi=>?_⟩⟩
   ·have hy:y.A[j]?=some (Gy θ b):=by rw[h2];simp[Rl,hb]
    rw[hy];congr 1;refine AC.ext' c1.symm c2.symm (FS fun i=>?_);by_cases hi:i<Z t.A
    ·obtain⟨b',e1,e2⟩:=h3 i _ (AJ hi);rw[hy]at e1;cases e1;rw[EJ]at e2;rw[e2,AJ hi]
    ·rw[FK (by show Z (b.A.map (Kq θ))<=i;rw[BP];omega),FK AA]
   ·rw[EJ];subst hm;have hl:i<Z b.A:=by have:=(BG.1 hi).1;rw[c3]at this;exact this
    refine⟨b.A[i],AJ hl,?_⟩;have:(b.A.map (Kq μ))[i]?=some a:=hi;rw[EY,AJ hl,GZ]at this;exact IA this
  ·cases h
theorem zX {x j t b μ}(hb:x.A[j]?=some b)(hm:Gy μ b=t)(hg:aF t):∃y,Km x j t=some y:=by
 unfold Km;rw[hb];subst hm;simp only;rw[if_pos ⟨rfl,rfl,by simp[Gy]⟩];refine Td j _ _ _ μ ⟨b,hb,fun i a hi=>?_⟩ hg;have hi:(b.A.map (Kq μ))[i]?=some a:=hi;rw[EY]at hi;cases ht:b.A[i]? with
 |none=>rw[ht]at hi;cases hi
 |some t'=>
  rw[ht]at hi;exact⟨t',by rw[EJ];exact ht,IA hi⟩
def Ix (fz:Bool)(a:AC):Bool:=fz||!a.nt
def aQ (a:AC):AC:=⟨false,a.B,a.A⟩
def Tn (fz:Bool)(A:List AC)(x:AB)(h:AC):Prop:=∃μ,(∀a∈x.A,Ix fz a=true->Gy μ a∈A)/\(∀a∈x.A,Ix fz a=false->aQ (Gy μ a)∉A)/\h=Gy μ x.h
theorem S1 {α:Type}{l:List α}{i j a}(h:l[i]?=some a)(hn:i≠j):a∈l.eraseIdx j:=by
 have hi:=(BG.1 h).1;rw[List.eraseIdx_eq_take_drop_succ];rcases Nat.lt_or_gt_of_ne hn with h'|h'
 ·exact FZ _ (BD (i:=i) (by rw[II,if_pos h'];exact h))
 ·exact MA _ (BD (i:=i-(j+1)) (by rw[JD,show j+1+(i-(j+1))=i by omega];exact h))
theorem kZ {fz A x h}(hA:∀a∈A,aF a)(ho:x.o=false){j b}(hb:x.A[j]?=some b)(hp:Ix fz b=true):
  Tn fz A x h↔∃t∈A,∃y,Km x j t=some y/\Tn fz A (F7 y j) h:=by
 constructor
 ·rintro⟨μ,h1,h2,rfl⟩;have ht:=h1 b (BD hb) hp;obtain⟨y,hy⟩:=zX (μ:=μ) hb rfl (hA _ ht);refine⟨_,ht,y,hy,μ,?_⟩;obtain⟨b',ac,θ,-,rfl,-,h4⟩:=U3 hy ho (hA _ ht);rw[hb]at ac;cases ac;have hE:∀a,Gy μ (Gy θ a)=Gy μ a:=fun a=>by rw[O0];exact iq fun u _ hu=>h4 μ rfl u hu
  have hM:∀a∈(F7 (Rl θ x) j).A,∃a'∈x.A,a=Gy θ a':=fun a ha=>by
   have:=FY ha;obtain⟨a',h',rfl⟩:=AO.1 this;exact⟨a',h',rfl⟩
  refine⟨fun a ha aa=>?_,fun a ha aa=>?_,(hE _).symm⟩
  ·obtain⟨a',h',rfl⟩:=hM a ha;rw[hE];exact h1 a' h' aa
  ·obtain⟨a',h',rfl⟩:=hM a ha;rw[hE];exact h2 a' h' aa
 ·rintro⟨t,ht,y,hy,ν,h1,h2,rfl⟩;obtain⟨b',ac,θ,-,rfl,ae,-⟩:=U3 hy ho (hA _ ht);rw[hb]at ac;cases ac;refine⟨cmp ν θ,fun a ha aa=>?_,fun a ha aa=>?_,by rw[<-O0];rfl⟩
  ·obtain⟨i,hi⟩:=CO ha;have ad:(Rl θ x).A[i]?=some (Gy θ a):=by simp[Rl,hi]
   rw[<-O0];by_cases ab:i=j
   ·subst ab;rw[ad]at ae;cases ae;rw[Oz (hA _ ht)];exact ht
   ·exact h1 _ (S1 ad ab) aa
  ·obtain⟨i,hi⟩:=CO ha;have ad:(Rl θ x).A[i]?=some (Gy θ a):=by simp[Rl,hi]
   rw[<-O0];by_cases ab:i=j
   ·subst ab;rw[hb]at hi;cases hi;rw[hp]at aa;cases aa
   ·exact h2 _ (S1 ad ab) aa
def iG (fz:Bool)(x:AB):Prop:=∀v,Ac v=true->(v∈x.h.A\/∃a∈x.A,Ix fz a=false/\v∈a.A)->∃a∈x.A,Ix fz a=true/\v∈a.A
theorem SX {θ}(hT:Th θ){ts:List Tx}{v}(hv:Ac v=true)(h:v∈ts.map (Kq θ)):v∈ts/\θ v=v:=by
 obtain⟨u,hu,e⟩:=AO.1 h;cases aa:Ac u with
 |false=>rw[Db aa]at e;subst e;rw[hv]at aa;cases aa
 |true=>
  rw[D4 aa]at e;rcases hT u aa with h'|h'
  ·rw[h']at e;subst e;exact⟨hu,h'⟩
  ·rw[e,hv]at h';cases h'
theorem WS {fz x y j t}(hs:iG fz x)(ho:x.o=false)(hg:aF t)(hy:Km x j t=some y):iG fz (F7 y j):=by
 obtain⟨b,hb,θ,hT,rfl,aa,-⟩:=U3 hy ho hg;intro v hv h;have hx:θ v=v/\(v∈x.h.A\/∃a∈x.A,Ix fz a=false/\v∈a.A):=by
  rcases h with h|⟨a,ha,hp,h⟩
  ·obtain⟨h1,h2⟩:=SX hT hv h;exact⟨h2,.inl h1⟩
  ·obtain⟨a',h',rfl⟩:=AO.1 (FY ha);obtain⟨h1,h2⟩:=SX hT hv h;exact⟨h2,.inr ⟨a',h',hp,h1⟩⟩
 obtain⟨a,ha,hp,ad⟩:=hs v hv hx.2;obtain⟨i,hi⟩:=CO ha;have ab:(Rl θ x).A[i]?=some (Gy θ a):=by simp[Rl,hi]
 have ac:v∈(Gy θ a).A:=AO.2 ⟨v,ad,by rw[D4 hv,hx.1]⟩;have ae:i≠j:=fun e=>by
  subst e;rw[ab]at aa;cases aa;have:=hg v ac;rw[hv]at this;cases this
 exact⟨_,S1 ab ae,hp,ac⟩
theorem lF {fz x}(hs:iG fz x)(hn:∀a∈x.A,Ix fz a=false):aF x.h/\∀a∈x.A,aF a:=by
 have:∀v,Ac v=true->¬(v∈x.h.A\/∃a∈x.A,Ix fz a=false/\v∈a.A):=fun v hv h=>by
  obtain⟨a,ha,hp,-⟩:=hs v hv h;rw[hn a ha]at hp;cases hp
 refine⟨fun t ht=>?_,fun a ha t ht=>?_⟩
 ·cases hv:Ac t with
  |false=>rfl
  |true=>exact absurd (.inl ht) (this t hv)
 ·cases hv:Ac t with
  |false=>rfl
  |true=>exact absurd (.inr ⟨a,ha,hn a ha,ht⟩) (this t hv)
theorem lB {fz A x h}(hs:iG fz x)(hn:∀a∈x.A,Ix fz a=false):Tn fz A x h↔(∀a∈x.A,aQ a∉A)/\h=x.h:=by
 obtain⟨g1,g2⟩:=lF hs hn;constructor
 ·rintro⟨μ,-,h2,rfl⟩;exact⟨fun a ha=>by have:=h2 a ha (hn a ha);rw[Oz (g2 a ha)]at this;exact this,Oz g1⟩
 ·rintro⟨h2,rfl⟩;exact⟨fun u=>u,fun a ha hp=>(by rw[hn a ha]at hp;cases hp),fun a ha _=>by rw[Oz (g2 a ha)];exact h2 a ha,(Oz g1).symm⟩
theorem XO {fz A x h}(hA:∀a∈A,aF a)(hs:iG fz x)(hS:Tn fz A x h):aF h:=by
 obtain⟨μ,h1,-,rfl⟩:=hS;intro t ht;obtain⟨u,hu,rfl⟩:=AO.1 ht;cases hv:Ac u with
 |false=>rw[Db hv];exact hv
 |true=>
  obtain⟨a,ha,hp,hm⟩:=hs u hv (.inl hu);exact hA _ (h1 a ha hp) _ (AO.2 ⟨u,hm,rfl⟩)
theorem gg {fz A x h}(hg:aF x.h)(hS:Tn fz A x h):h=x.h:=by
 obtain⟨μ,-,-,rfl⟩:=hS;exact Oz hg
def Clean (t:Tx):Prop:=(∀b∈t,b≠(33:UInt8)/\b≠44/\b≠46)/\Z t<=1000
def EU (a:AC):Prop:=Clean a.B/\(∀t∈a.A,Clean t)/\Z a.A<=1000
def iM (x:AB):Prop:=x.o=false/\EU x.h/\∀a∈x.A,EU a
def Lj (a:AC):Tx:=(if a.nt=true then [33]else [])++(a.B++a.A.flatMap fun t=>44::t)
def Fh (x:AB):Tx:=(x.h::x.A).flatMap fun a=>Lj a++[46]
theorem Wq {c}:∀{u v r s:Tx},c∉u->c∉v->u++c::r=v++c::s->u=v/\r=s
 |[],[],r,s,_,_,h=>by simpa using h
 |[],b::v,r,s,_,h2,h=>by simp at h h2;exact absurd h.1 h2.1
 |b::u,[],r,s,h1,_,h=>by simp at h h1;exact absurd h.1.symm h1.1
 |b::u,d::v,r,s,h1,h2,h=>by
  simp at h h1 h2;obtain⟨e1,e2⟩:=Wq h1.2 h2.2 h.2;exact⟨by rw[h.1,e1],e2⟩
theorem bZ:∀{ts us:List Tx} {p q:Tx},(44:UInt8)∉p->(44:UInt8)∉q->(∀t∈ts,(44:UInt8)∉t)->(∀t∈us,(44:UInt8)∉t)->p++(ts.flatMap fun t=>44::t)=q++(us.flatMap fun t=>44::t)->p=q/\ts=us
 |[],[],p,q,_,_,_,_,h=>by simpa using h
 |[],u::us,p,q,hp,_,_,_,h=>by
  simp only[MH,FA,DK,FC]at h;exact absurd (by rw[h];simp) hp
 |t::ts,[],p,q,_,hq,_,_,h=>by
  simp only[MH,FA,DK,FC]at h;exact absurd (by rw[<-h];simp) hq
 |t::ts,u::us,p,q,hp,hq,ht,hu,h=>by
  simp only[DK,FC]at h;obtain⟨e1,e2⟩:=Wq hp hq h;obtain⟨e3,e4⟩:=bZ (ht t (by simp)) (hu u (by simp)) (fun x hx=>ht x (by simp[hx])) (fun x hx=>hu x (by simp[hx])) e2;exact⟨e1,by rw[e3,e4]⟩
theorem Clean.no44 {t}(h:Clean t):(44:UInt8)∉t:=fun hm=>(h.1 _ hm).2.1 rfl
theorem Clean.no33 {t}(h:Clean t):(33:UInt8)∉t:=fun hm=>(h.1 _ hm).1 rfl
theorem Clean.no46 {t}(h:Clean t):(46:UInt8)∉t:=fun hm=>(h.1 _ hm).2.2 rfl
theorem EU.tail33 {a}(h:EU a):(33:UInt8)∉a.B++a.A.flatMap fun t=>44::t:=by
 intro hm;rcases AW.1 hm with h'|h'
 ·exact h.1.no33 h'
 ·obtain⟨t,ht,hb⟩:=DR.1 h';rcases BB.1 hb with aa|aa
  ·exact absurd aa (by decide)
  ·exact (h.2.1 t ht).no33 aa
theorem EU.seg46 {a}(h:EU a):(46:UInt8)∉Lj a:=by
 intro hm;unfold Lj at hm;rcases AW.1 hm with h'|h'
 ·split at h'
  ·simp at h'
  ·simp at h'
 ·rcases AW.1 h' with h'|h'
  ·exact h.1.no46 h'
  ·obtain⟨t,ht,hb⟩:=DR.1 h';rcases BB.1 hb with aa|aa
   ·exact absurd aa (by decide)
   ·exact (h.2.1 t ht).no46 aa
theorem VS {a b}(ha:EU a)(hb:EU b)(h:Lj a=Lj b):a=b:=by
 have hnt:a.nt=b.nt/\a.B++(a.A.flatMap fun t=>44::t)=b.B++(b.A.flatMap fun t=>44::t):=by
  unfold Lj at h;cases h1:a.nt with
  |true=>
   cases h2:b.nt with
   |true=>rw[h1,h2]at h;simpa using h
   |false=>
    rw[h1,h2]at h;simp only[if_true,ER,if_false,FM,FC]at h;exact absurd (by rw[<-h];simp) hb.tail33
  |false=>
   cases h2:b.nt with
   |false=>rw[h1,h2]at h;simpa using h
   |true=>
    rw[h1,h2]at h;simp only[if_true,ER,if_false,FM,FC]at h;exact absurd (by rw[h];simp) ha.tail33
 obtain⟨e1,e2⟩:=bZ ha.1.no44 hb.1.no44 (fun t ht=>(ha.2.1 t ht).no44) (fun t ht=>(hb.2.1 t ht).no44) hnt.2;exact AC.ext' hnt.1 e1 e2
theorem nH:∀{l m:List AC},(∀a∈l,EU a)->(∀a∈m,EU a)->(l.flatMap fun a=>Lj a++[46])=(m.flatMap fun a=>Lj a++[46])->l=m
 |[],[],_,_,_=>rfl
 |[],b::m,_,_,h=>by simp at h
 |a::l,[],_,_,h=>by simp at h
 |a::l,b::m,h1,h2,h=>by
  simp only[DK,CX,List.singleton_append]at h;obtain⟨e1,e2⟩:=Wq (h1 a (by simp)).seg46 (h2 b (by simp)).seg46 h;rw[VS (h1 a (by simp)) (h2 b (by simp)) e1,nH (fun x hx=>h1 x (by simp[hx])) (fun x hx=>h2 x (by simp[hx])) e2]
theorem Rk {x y}(hx:iM x)(hy:iM y)(h:Fh x=Fh y):x=y:=by
 have:=nH (l:=x.h::x.A) (m:=y.h::y.A) (fun a ha=>by
  rcases BB.1 ha with rfl|ha
  ·exact hx.2.1
  ·exact hx.2.2 a ha) (fun a ha=>by
  rcases BB.1 ha with rfl|ha
  ·exact hy.2.1
  ·exact hy.2.2 a ha) h
 have h1:=hx.1;have h2:=hy.1;cases x;cases y;simp_all
theorem WN {x y j t}(hc:iM x)(ht:EU t)(hg:aF t)(hy:Km x j t=some y):iM (F7 y j):=by
 have hK:∀(tl:List Tx) (k:Nat) (x y:AB),iM x->(∀a∈tl,Clean a)->L4 j tl k x=some y->iM y:=by
  intro tl;induction tl with
  |nil=>intro k x y h _ e;cases e;exact h
  |cons a tl ih=>
   intro k x y h ha e;unfold L4 at e;split at e
   ·cases e
   ·split at e
    ·exact ih _ _ _ h (fun b hb=>ha b (by simp[hb])) e
    ·split at e
     ·refine ih _ _ _ ⟨rfl,?_,?_⟩ (fun b hb=>ha b (by simp[hb])) e
      ·refine⟨h.2.1.1,fun u hu=>?_,by show Z (x.h.A.map _)<=1000;rw[BP];exact h.2.1.2.2⟩;obtain⟨w,hw,rfl⟩:=AO.1 hu;split
       ·exact ha a (by simp)
       ·exact h.2.1.2.1 w hw
      ·intro b hb;obtain⟨b',aa,rfl⟩:=AO.1 hb;refine⟨(h.2.2 b' aa).1,fun u hu=>?_,by show Z (b'.A.map _)<=1000;rw[BP];exact (h.2.2 b' aa).2.2⟩;obtain⟨w,hw,rfl⟩:=AO.1 hu;split
       ·exact ha a (by simp)
       ·exact (h.2.2 b' aa).2.1 w hw
     ·cases e
 unfold Km at hy;split at hy
 ·cases hy
 ·split at hy
  ·have:=hK _ _ _ _ hc ht.2.1 hy;exact⟨rfl,this.2.1,fun a ha=>this.2.2 a (FY ha)⟩
  ·cases hy
def CR (fz:Bool)(A O:List AC)(x:AB):Prop:=∀h,Tn fz A x h->h∈A\/h∈O
theorem CR.mono {fz A O O' x}(h:CR fz A O x)(ho:∀a∈O,a∈O'):CR fz A O' x:=fun a ha=>(h a ha).imp id (ho a)
def CJ (fz:Bool)(A O:List AC)(mo:Int)(S:Tx->Prop)(m:Nat):Prop:=∀y,iM y->Z y.A<=m->S (Fh y)->(Z O:Int)<=mo->CR fz A O y
structure Zg (fz:Bool)(A:List AC)(mo:Int)(x:AB)(O:List AC)(S:Tx->Prop)(O':List AC)(S':Tx->Prop):Prop where
 ext:∃nw,O'=O++nw/\∀h∈nw,Tn fz A x h/\h∉A
 nd:O'.Nodup
 len:(Z O':Int)<=mo+1
 done:(Z O':Int)<=mo->CR fz A O' x
 seen:CJ fz A O' mo S' (Z x.A)
 sub:∀s,S s->S' s
 new:∀y,iM y->S' (Fh y)->S (Fh y)\/Z y.A<=Z x.A
theorem CJ.mono {fz A O O' mo S S' m m'}(h:CJ fz A O mo S m)(he:∃nw,O'=O++nw)(hm:m'<=m)(hS:∀y,iM y->Z y.A<=m'->S' (Fh y)->S (Fh y)):CJ fz A O' mo S' m':=fun y hy hl hs aa=>by
 obtain⟨nw,rfl⟩:=he;exact (h y hy AA (hS y hy hl hs) (by simp at aa;omega)).mono fun a ha=>FZ _ ha
theorem S4 {fz A O mo x S}(hnd:O.Nodup)(hlen:(Z O:Int)<=mo+1)(hS:CJ fz A O mo S (Z x.A))(h:(Z O:Int)<=mo->CR fz A O x):Zg fz A mo x O S O S:=
 ⟨⟨[],by simp,fun h hh=>by simp at hh⟩,hnd,hlen,h,hS,fun _ h=>h,fun y hy h=>.inl h⟩
theorem nn {fz A O O' mo x S}(hx:iM x)(hS:CJ fz A O mo S (Z x.A))(he:∃nw,O'=O++nw)(hd:(Z O':Int)<=mo->CR fz A O' x):CJ fz A O' mo (fun s=>S s\/s=Fh x) (Z x.A):=fun y hy hl hs aa=>by
 rcases hs with hs|hs
 ·obtain⟨nw,rfl⟩:=he;exact (hS y hy hl hs (by simp at aa;omega)).mono fun a ha=>FZ _ ha
 ·rw[Rk hy hx hs];exact hd aa
theorem dQ {fz A O O' mo x S}(hx:iM x)(hnd:O.Nodup)(hlen:(Z O:Int)<=mo)(hS:CJ fz A O mo S (Z x.A))(hs:iG fz x)(hn:∀a∈x.A,Ix fz a=false)
  (aa:x.h∉A/\x.h∉O) (hO:((∀a∈x.A,aQ a∉A)/\O'=O++[x.h])\/(¬(∀a∈x.A,aQ a∉A)/\O'=O)):Zg fz A mo x O S O' (fun s=>S s\/s=Fh x):=by
 have he:∃nw,O'=O++nw:=by
  rcases hO with⟨-,rfl⟩|⟨-,rfl⟩
  ·exact⟨_,rfl⟩
  ·exact⟨[],by simp⟩
 have hd:CR fz A O' x:=fun h hh=>by
  rw[lB hs hn]at hh;rcases hO with⟨-,rfl⟩|⟨h',-⟩
  ·rw[hh.2];exact .inr (by simp)
  ·exact absurd hh.1 h'
 refine⟨?_,?_,?_,fun _=>hd,nn hx hS he fun _=>hd,fun _ h=>.inl h,fun y hy h=>?_⟩
 ·rcases hO with⟨h',rfl⟩|⟨-,rfl⟩
  ·exact⟨_,rfl,fun h hh=>by
    rw[GF]at hh;subst hh
    exact⟨(lB hs hn).2 ⟨h',rfl⟩,aa.1⟩⟩
  ·exact⟨[],by simp,fun h hh=>by simp at hh⟩
 ·rcases hO with⟨-,rfl⟩|⟨-,rfl⟩
  ·rw[JK];exact⟨hnd,by simp,fun a ha b hb=>by rw[GF]at hb;subst hb;exact fun e=>aa.2 (e ▸ ha)⟩
  ·exact hnd
 ·rcases hO with⟨-,rfl⟩|⟨-,rfl⟩
  ·simp;omega
  ·omega
 ·rcases h with h|h
  ·exact .inl h
  ·rw[Rk hy hx h];exact .inr (AR _)
structure N6 (fz:Bool)(A:List AC)(mo:Int)(x:AB)(j:Nat)(O:List AC)(S:Tx->Prop)(k:Nat)(O':List AC)(S':Tx->Prop):Prop where
 ext:∃nw,O'=O++nw/\∀h∈nw,Tn fz A x h/\h∉A
 nd:O'.Nodup
 len:(Z O':Int)<=mo+1
 done:(Z O':Int)<=mo->∀t∈A.take k,∀y,Km x j t=some y->CR fz A O' (F7 y j)
 seen:CJ fz A O' mo S' (Z x.A-1)
 sub:∀s,S s\/s=Fh x->S' s
 new:∀y,iM y->S' (Fh y)->S (Fh y)\/y=x\/Z y.A<=Z x.A-1
theorem rP {fz A O mo x j S}(hx:iM x)(hb:0<Z x.A)(hnd:O.Nodup)(hlen:(Z O:Int)<=mo+1)(hS:CJ fz A O mo S (Z x.A)):N6 fz A mo x j O S 0 O (fun s=>S s\/s=Fh x):=
 ⟨⟨[],by simp,fun h hh=>by simp at hh⟩,hnd,hlen,fun _ t ht=>by simp at ht,
  hS.mono ⟨[],by simp⟩ AA (fun y hy hl hs=>by
   rcases hs with hs|hs
   ·exact hs
   ·have:=Rk hy hx hs;subst this;omega),
  fun _ h=>h,fun y hy h=>by
   rcases h with h|h
   ·exact .inl h
   ·exact .inr (.inl (Rk hy hx h))⟩
theorem yV {fz A mo x j O S k O' S'}(h:N6 fz A mo x j O S k O' S'){t}(ht:A[k]?=some t)(hn:Km x j t=none):N6 fz A mo x j O S (k+1) O' S':=
 ⟨h.ext,h.nd,h.len,fun hl t' aa y hy=>(by
  rw[AU,ht]at aa;rcases AW.1 aa with h'|h'
  ·exact h.done hl t' h' y hy
  ·simp at h';subst h';rw[hn]at hy;cases hy),h.seen,h.sub,h.new⟩
theorem yU {fz A mo x j b O S k O' S'}(hA:∀a∈A,aF a)(ho:x.o=false)(hb:x.A[j]?=some b)(hp:Ix fz b=true)
  (h:N6 fz A mo x j O S k O' S'){t} (ht:A[k]?=some t){y} (hy:Km x j t=some y){O2 S2} (g:Zg fz A mo (F7 y j) O' S' O2 S2) (hl:Z (F7 y j).A=Z x.A-1):N6 fz A mo x j O S (k+1) O2 S2:=by
 obtain⟨n1,e1,f1⟩:=h.ext;obtain⟨n2,e2,f2⟩:=g.ext;have ad:=BD ht;refine⟨⟨n1++n2,by rw[e2,e1,CX],fun a ha=>?_⟩,g.nd,g.len,fun ab t' ac y' aa=>?_,by rw[<-hl];exact g.seen,fun s hs=>g.sub s (h.sub s hs),fun z hz hs=>?_⟩
 ·rcases AW.1 ha with h'|h'
  ·exact f1 a h'
  ·obtain⟨g1,g2⟩:=f2 a h';exact⟨(kZ hA ho hb hp).2 ⟨t,ad,y,hy,g1⟩,g2⟩
 ·rw[AU,ht]at ac;rcases AW.1 ac with h'|h'
  ·exact (h.done (by rw[e2]at ab;simp at ab;omega) t' h' y' aa).mono fun a ha=>by rw[e2];exact FZ _ ha
  ·simp at h';subst h';rw[hy]at aa;cases aa;exact g.done ab
 ·rcases g.new z hz hs with h'|h'
  ·exact h.new z hz h'
  ·exact .inr (.inr AA)
theorem ma {fz A mo x j b O S O' S'}(hA:∀a∈A,aF a)(hx:iM x)(hb:x.A[j]?=some b)(hp:Ix fz b=true)(hS:CJ fz A O mo S (Z x.A))
  (h:N6 fz A mo x j O S (Z A) O' S'):Zg fz A mo x O S O' S':=by
 have hd:(Z O':Int)<=mo->CR fz A O' x:=fun aa a ha=>by
  obtain⟨t,ht,y,hy,hs⟩:=(kZ hA hx.1 hb hp).1 ha;exact h.done aa t (by rw[AS];exact ht) y hy a hs
 obtain⟨nw,e,f⟩:=h.ext;refine⟨⟨nw,e,f⟩,h.nd,h.len,hd,fun y hy hl hs aa=>?_,fun s hs=>h.sub s (.inl hs),fun y hy hs=>?_⟩
 ·rcases h.new y hy hs with h'|h'|h'
  ·exact (hS y hy hl h' (by rw[e]at aa;simp at aa;omega)).mono fun a ha=>by rw[e];exact FZ _ ha
  ·rw[h'];exact hd aa
  ·exact h.seen y hy h' hs aa
 ·rcases h.new y hy hs with h'|h'|h'
  ·exact .inl h'
  ·rw[h'];exact .inr (AR _)
  ·exact .inr AA
theorem IG {a b}:J7 a b↔a=b:=⟨fun⟨h1,h2,h3⟩=>AC.ext' h1 h2 h3,fun h=>by subst h;exact⟨rfl,rfl,rfl⟩⟩
def Kg (a:AC):Nat:=a.A.countP Ac
theorem EX {a}:Kg a=0↔aF a:=by
 unfold Kg aF;rw[List.countP_eq_zero];exact⟨fun h t ht=>by simpa using h t ht,fun h t ht=>by simp[h t ht]⟩
theorem dK (a):Kg a<=Z a.A:=List.countP_le_length
theorem M9 (a ca)(ha:Bo a ca)(hn:Z a.A<=1000)(σ):AF Tryz.prog 237 [ag ca] σ fun r σ'=>r=ic (Kg a:Nat)/\AE σ σ':=by
 obtain⟨ia,rfl⟩:=ha;refine Z9 21 [.tmp 2] Tryz.func237 ?_
 refine zz ?_
 refine Ae (fun m s σ'=>∃i n:Nat,m=Z a.A-i/\i<=Z a.A/\s 1=ptr σ.B 0/\s 3=ic n/\s 4=ic i/\AE σ σ'/\σ.B<σ'.B/\σ'.C σ.B=[sc (.bool a.nt),str a.B,sl ia (Z a.A) (a.A.map str)]/\n<=i/\AD (n=(a.A.take i).countP Ac)) (Z a.A)
  ⟨0,0,AA,AA,AG,AG,AG,Xs,by simp[Aa],Ao,AA,by simp[AD]⟩ ?_
 rintro m s σ' ⟨i,n,rfl,hi,h1,h3,h4,hK,ae,ad,af,hN⟩;by_cases ac:i<Z a.A
 ·have aa:=AJ ac;have hd:=A7 ac;generalize a.A[i]=t at hd aa;have HC:AD ((a.A.take (i+1)).countP Ac=(a.A.take i).countP Ac+(if Ac t=true then 1 else 0)):=by
   rw[AD,AU,aa];simp[MR,MZ]
  clear aa;have hV:=fun σ=>Dt t σ;cases hv:Ac t with
  |true=>
   rw[hv]at hV HC
   refine qb ?_;intro yd yb;refine Xi (hV _) ?_;rintro _ _ ⟨rfl,rfl⟩;refine pz ?_
   refine⟨Z a.A-(i+1),AA,i+1,n+1,?_⟩
   ((repeat' refine Zi ?_ ?_)<;>first|exact Xq|exact (by rw[AD,HC.o,<-hN.o];simp)|exact Xs)
  |false=>
   rw[hv]at hV HC
   refine qb ?_;intro yd yb;refine Xi (hV _) ?_;rintro _ _ ⟨rfl,rfl⟩;refine pz ?_
   refine⟨Z a.A-(i+1),AA,i+1,n,?_⟩
   ((repeat' refine Zi ?_ ?_)<;>first|exact Xq|exact (by rw[AD,HC.o,<-hN.o];simp)|exact Xs)
 ·have hil:i=Z a.A:=AA;subst hil;have hN:=hN.o;rw[AS]at hN;have hN:n=Kg a:=hN;subst hN
  refine pz ?_
  first|exact⟨_,rfl,rfl,hK⟩|exact⟨rfl,hK⟩|exact⟨_,rfl,rfl⟩
theorem H9 (ls cs id a ca)(hE:EL Bo ls cs)(ha:Bo a ca)(hl:Z ls<=1000)(hn:∀b∈ls,Z b.A<=1000)(σ):AF Tryz.prog 154 [sl id (Z ls) cs,ag ca] σ fun r σ'=>∃b,r=sc (.bool b)/\(b=true↔a∈ls)/\AE σ σ':=by
 by_cases hm:a∈ls
 ·refine (iQ ls cs id a ca hE ha hl hn ⟨a,hm,rfl,rfl,rfl⟩ σ).mono fun r σ' h=>⟨true,h.1,by simp[hm],h.2⟩
 obtain⟨ia,rfl⟩:=ha;have an:=EL.length Bb hE;have ai:=fun b ib hb σ=>cQ b a [sc (.bool b.nt),str b.B,sl ib (Z b.A) (b.A.map str)] _ ⟨ib,rfl⟩ ⟨ia,rfl⟩ (hn b hb) σ;have HM:AD _:=hm;clear hm;refine Z9 18 [.tmp 4] Tryz.func154 ?_
 refine zz ?_
 refine Ae (fun m s σ'=>∃i:Nat,m=Z ls-i/\i<=Z ls/\s 0=sl id (Z ls) cs/\s 3=ptr σ.B 0/\s 5=ic i/\AE σ σ'/\σ.B<σ'.B/\σ'.C σ.B=[sc (.bool a.nt),str a.B,sl ia (Z a.A) (a.A.map str)]) (Z ls)
  ⟨0,AA,AA,rfl,rfl,rfl,Xs,by simp[Aa],Ao⟩ ?_
 rintro m s σ' ⟨i,rfl,hi,h0,h3,h5,hK,am,ak⟩;have aj:=hK.B;by_cases ad:i<Z ls
 ·have aa:=AJ ad;obtain⟨ib,r,hd⟩:=Cf hE aa;have hS:=fun σ=>ai ls[i] ib (AT ad) σ;have ac:¬J7 ls[i] a:=fun h=>HM.o (by rw[<-IG.1 h];exact AT ad);generalize ls[i]=b at hd aa hS ac;clear aa;have hS:∀σ,AF Tryz.prog 196 [ag [sc (.bool b.nt),str b.B,sl ib (Z b.A) (b.A.map str)],ag [sc (.bool a.nt),str a.B,sl ia (Z a.A) (a.A.map str)]] σ fun r σ'=>r=sc (.bool false)/\AE σ σ':=fun σ=>(hS σ).mono fun r σ' ⟨bo,h1,h2,h3⟩=>by
   have:bo=false:=by
    cases bo with
    |false=>rfl
    |true=>exact absurd (h2.1 rfl) ac
   subst this;exact⟨h1,h3⟩
  clear ac
  refine pz ?_
  refine Ay Ag (fun _=>True) [5] [0,1,2,3,4] [5] AH (fun _ _ _ h=>h) ?_;intro yd yb
  refine p9 ?_;refine Xi (hS _) ?_;rintro _ _ ⟨rfl,ae⟩;(have af:=ae.C;have ah:=ae.B);refine pz ?_
  refine⟨Z ls-(i+1),AA,i+1,?_⟩
  exact qh (hK.trans ae)
 ·refine pz ?_
  have hb:(false=true↔a∈ls):=⟨fun h=>(by cases h),fun h=>absurd h HM.o⟩
  first|exact⟨_,rfl,false,rfl,hb,hK⟩|exact⟨false,rfl,hb,hK⟩|exact⟨_,rfl,false,rfl,hb⟩
theorem fP (a ca v t)(ha:Bo a ca)(hn:Z a.A<=1000)(σ):AF Tryz.prog 263 [ag ca,str v,str t] σ fun r σ'=>∃c,r=ag c/\Bo (Ie v t a) c/\AE σ σ':=by
 obtain⟨ia,rfl⟩:=ha;refine Z9 38 [.cell 6 108] Tryz.func263 ?_
 refine zz ?_
 refine Ae (fun m s σ'=>∃(i i3:Nat) (xs:List AV),m=Z a.A-i/\i<=Z a.A/\s 1=str v/\s 2=str t/\s 3=ptr σ.B 0/\s 6=ptr (σ.B+1) 0/\s 7=ptr (σ.B+2) 0/\s 8=ic i/\AE σ σ'/\σ.B+2<σ'.B/\σ'.C σ.B=[sc (.bool a.nt),str a.B,sl ia (Z a.A) (a.A.map str)]/\σ'.C (σ.B+1)=[sc (.bool false),str [],nilS]/\σ'.C (σ.B+2)=[sc (.bool a.nt),str a.B,sl i3 i xs]/\Own σ σ' i3 i/\Z xs=i*1/\AD (xs=((a.A.take i).map fun u=>if u=v then t else u).map str)) (Z a.A)
  ⟨0,1,[],AA,AA,by simp[upd,AM],by simp[upd,AM],AG,AG,AG,AG,Xs,BM,?_,?_,?_,Own.nil _ _,by simp,by simp[AD]⟩ ?_
 ·rw[Aj AA,Ah AK,Ah AK,Ao]
 ·rw[Aj AA,Ah AK,Bg AK AK]
 ·rw[Ak]
 rintro m s σ' ⟨i,i3,xs,rfl,hi,h1,h2,h3,h6,h7,h8,hK,av,ao,an,am,hO,au,hX⟩;have ap:=hK.B;by_cases aj:i<Z a.A
 ·have aa:=AJ aj;have hd:=A7 aj;generalize a.A[i]=u at hd aa;have HC:AD (((a.A.take (i+1)).map fun u=>if u=v then t else u).map str=((a.A.take i).map fun u=>if u=v then t else u).map str++[str (if u=v then t else u)]):=by
   rw[AD,AU,aa];simp
  clear aa;by_cases he:u=v
  ·have ak:(u==v)=true:=by simp[he]
   rw[if_pos he]at HC;clear he
   refine qd ?_;intro yd yb;intro idn σn ae af ai ad ah ac;refine pz ?_
   refine⟨Z a.A-(i+1),AA,i+1,idn,xs++[str t],?_⟩
   ((repeat' refine Zi ?_ ?_)<;>first|exact Xq|exact (af.put AA _)|exact (Own.put ae _ _)|exact (by rw[AD,HC.o,hX.o])|exact Xs)
  ·have ak:(u==v)=false:=by simpa using he
   rw[if_neg he]at HC;clear he
   refine qd ?_;intro yd yb;intro idn σn ae af ai ad ah ac;refine pz ?_
   refine⟨Z a.A-(i+1),AA,i+1,idn,xs++[str u],?_⟩
   ((repeat' refine Zi ?_ ?_)<;>first|exact Xq|exact (af.put AA _)|exact (Own.put ae _ _)|exact (by rw[AD,HC.o,hX.o])|exact Xs)
 ·have hil:i=Z a.A:=AA;subst hil;have hX:=hX.o;rw[AS]at hX;subst hX;have HE:Bo (Ie v t a) [sc (.bool a.nt),str a.B,sl i3 (Z a.A) ((a.A.map fun u=>if u=v then t else u).map str)]:=⟨i3,by simp[Ie]⟩
  refine pz ?_
  exact⟨_,rfl,_,rfl,HE,hK.put AA _⟩
theorem Pe (a ia v t)(hn:Z a.A<=1000)(σ):AF Tryz.prog 263 [ag [sc (.bool a.nt),str a.B,sl ia (Z a.A) (a.A.map str)],str v,str t] σ fun r σ'=>∃i,r=ag [sc (.bool a.nt),str a.B,sl i (Z a.A) ((Ie v t a).A.map str)]/\AE σ σ':=
 (fP a _ v t ⟨ia,rfl⟩ hn σ).mono fun r σ' ⟨c,h1,⟨i,h2⟩,h3⟩=>⟨i,by rw[h1,h2];simp[Ie],h3⟩
theorem xT (x c v t)(hc:AN x c)(hx:x.fits)(σ):AF Tryz.prog 236 [ag c,str v,str t] σ fun r σ'=>∃c',r=ag c'/\AN (Ic v t x) c'/\AE σ σ':=by
 obtain⟨ih,id,b,hb,rfl⟩:=hc.cells;have bd:=EL.length Bb hb;have be:=hx.1;have ay:=fun σ=>Pe x.h ih v t hx.2.1 σ;unfold Bm;refine Z9 36 [.cell 6 110] Tryz.func236 ?_
 refine qb ?_;intro yd yb;refine Xi (ay _) ?_;rintro _ _ ⟨ih2,rfl,ae⟩;(have ak:=ae.B;have aa:=ae.C;simp only[Aa]at ak aa);refine pz ?_
 rename_i σ1;have o0:σ1.C σ.B=[sc (.bool x.o),sc (.bool x.h.nt),str x.h.B,sl ih (Z x.h.A) (x.h.A.map str),sl id (Z x.A) b]:=by rw[aa _ AA,Ah AK,Ao]
 have o1:σ1.C (σ.B+1)=[sc (.bool false),sc (.bool false),str [],nilS,nilS]:=by rw[aa _ AA,Bg AK AK]
 have ba:AE σ σ1:=(((AE.refl σ).new _).new _).trans ae;clear aa ae
 refine Ae (fun m s σ'=>∃(i i3:Nat) (xs:List AV),m=Z x.A-i/\i<=Z x.A/\s 1=str v/\s 2=str t/\s 3=ptr σ.B 0/\s 6=ptr (σ.B+1) 0/\s 7=ptr σ1.B 0/\s 8=ic i/\AE σ σ'/\σ1.B<σ'.B/\σ'.C σ.B=[sc (.bool x.o),sc (.bool x.h.nt),str x.h.B,sl ih (Z x.h.A) (x.h.A.map str),sl id (Z x.A) b]/\σ'.C (σ.B+1)=[sc (.bool false),sc (.bool false),str [],nilS,nilS]/\σ'.C σ1.B=[sc (.bool false),sc (.bool x.h.nt),str x.h.B,sl ih2 (Z x.h.A) ((Ie v t x.h).A.map str),sl i3 i xs]/\Own σ σ' i3 i/\Z xs=i*3/\AD (EL Bo ((x.A.take i).map (Ie v t)) xs)) (Z x.A)
  ⟨0,1,[],AA,AA,by simp[upd,AM],by simp[upd,AM],AG,AG,AG,AG,Xs,BM,?_,?_,?_,Own.nil _ _,by simp,by simp[AD,EL]⟩ ?_
 ·rw[Aj AA,Ah AA,o0]
 ·rw[Aj AA,Ah AA,o1]
 ·rw[Ak]
 clear o0 o1 ba ay;rintro m s σ' ⟨i,i3,xs,rfl,hi,h1,h2,h3,h6,h7,h8,hK,ao,ai,ah,af,hO,an,hX⟩;have a4:=hK.B;by_cases aw:i<Z x.A
 ·have ab:=AJ aw;obtain⟨ia,r,hd⟩:=Cf hb ab;have av:=hx.2.2 _ (AT aw);generalize x.A[i]=w at hd ab av;have HG:AD ((x.A.take (i+1)).map (Ie v t)=(x.A.take i).map (Ie v t)++[Ie v t w]):=by
   rw[AD,AU,ab];simp
  clear ab;have a6:=fun σ=>Pe w ia v t av σ;have bc:AD _:=hX;have am:AD _:=an
  refine pz ?_
  refine Az (Q:=fun e s' σ''=>e= .normal/\s' 1=str v/\s' 2=str t/\s' 3=ptr σ.B 0/\s' 6=ptr (σ.B+1) 0/\s' 7=ptr σ1.B 0/\s' 8=ic i/\AE σ σ''/\σ1.B<σ''.B/\σ''.C σ.B=[sc (.bool x.o),sc (.bool x.h.nt),str x.h.B,sl ih (Z x.h.A) (x.h.A.map str),sl id (Z x.A) b]/\σ''.C (σ.B+1)=[sc (.bool false),sc (.bool false),str [],nilS,nilS]/\∃idn c',σ''.C σ1.B=[sc (.bool false),sc (.bool x.h.nt),str x.h.B,sl ih2 (Z x.h.A) ((Ie v t x.h).A.map str),sl idn (i+1) (xs++c')]/\Own σ σ'' idn (i+1)/\Bo (Ie v t w) c') ?_ ?_
  ·refine Aq Ag (fun _=>True) [13] [0,1,2,3,4,5,6,7,8] 5 #[true,true,true,true,true,true,true,true,true,false,false,false,false,false] AH (fun _ _ _ h=>by cases h.1) ?_;intro yd yb;refine Z3 ?_;refine yb.o _ ?_;clear yb yd;refine Ai (i:=9) AH ?_;refine Am ?_;intro yd yb;refine Z3 ?_;refine AF.mono (a6 _) ?_;rintro _ σ5 ⟨ij,rfl,ac⟩;refine Z3 ?_;refine yb.o _ _ ⟨Al ac,?_⟩;clear yb yd;have a3:=ac.B;have aj:=ac.C;have a9:=hK.trans ac;have a7:=Own.keep hO ac;refine Ai (i:=10) AH ?_;refine Am ?_;intro yd yb;refine Z3 ?_;refine yb.o _ _ ⟨Al (ac.lay 1),?_⟩;clear yb yd;refine Ai (i:=11) AH ?_;refine Am ?_;intro yd yb;refine Z3 ?_;refine Bn (by first|exact I3) a9 a7 (by decide) (by rfl) an (by rfl) (by rfl) (by decide) AA AA ?_;intro idn σn a8 bb au a0 ad az;refine Z3 ?_;refine yb.o _ _ ⟨fun _ o ho _=>by rw[ad];exact ac.ver o ho,?_⟩;clear yb yd;refine Ai (i:=12) AH ?_;refine Am ?_;intro yd yb;refine Z3 ?_;refine yb.o _ _ ⟨fun _ o ho _=>by rw[ad];exact ac.ver o ho,?_⟩;clear yb yd;have en:∀p,p<σ'.B->σn.C p=σ'.C p:=fun p hp=>by rw[au,aj _ AA]
   have en1:σn.C σ1.B=[sc (.bool false),sc (.bool x.h.nt),str x.h.B,sl ih2 (Z x.h.A) ((Ie v t x.h).A.map str),sl i3 i xs]:=by rw[en _ ao,af]
   refine Ai (i:=13) AH ?_;refine Am ?_;intro yd yb;refine Z3 ?_;refine yb.o _ _ ⟨A5 rfl,?_⟩;clear yb yd;refine Ax AH ⟨rfl,?_⟩;simp only[upd,↓reduceIte,Nat.reduceEqDiff,h1,h2,h3,h6,h7,h8,JC];refine⟨bb.put AA _,by simp only[Ab];omega,?_,?_,idn,_,?_,Own.put a8 _ _,⟨ij,by simp[Ie];rfl⟩⟩
   ·rw[Aj AA,en _ AA,ai]
   ·rw[Aj AA,en _ AA,ah]
   ·rw[Ak];simp[Ie]
  ·clear hX hO an ai ah af ao hK a4;rintro e s' σ'' ⟨rfl,g1,g2,g3,g6,g7,g8,hK,ao,ai,ah,idn,c',af,hO,ax⟩;have HX:AD (EL Bo ((x.A.take (i+1)).map (Ie v t)) (xs++c')):=by rw[AD,HG.o];exact EL.append bc.o (EL.single ax)
   have a5:=Bb _ _ ax
   refine zz ?_
   refine⟨Z x.A-(i+1),AA,i+1,idn,xs++c',?_⟩
   ((repeat' refine Zi ?_ ?_)<;>first|exact Xq|exact HX|exact (by rw[AX,a5,am.o];omega)|exact Xs)
 ·have hil:i=Z x.A:=AA;subst hil;rw[AS]at hX
  have HE:AN (Ic v t x) [sc (.bool false),sc (.bool x.h.nt),str x.h.B,sl ih2 (Z x.h.A) ((Ie v t x.h).A.map str),sl i3 (Z x.A) xs]:=
   ⟨[sc (.bool x.h.nt),str x.h.B,sl ih2 (Z x.h.A) ((Ie v t x.h).A.map str)],i3,xs,⟨ih2,by simp[Ic,Ie]⟩,hX.o,by simp[Ic]⟩
  refine pz ?_
  exact⟨_,rfl,_,rfl,HE,hK.put AA _⟩
theorem yA {v t x}(h:x.fits):(Ic v t x).fits:=
 ⟨by simp only[Ic,BP];exact h.1,by simp only[Ic,Ie,BP];exact h.2.1,fun a ha=>by
  obtain⟨b,hb,rfl⟩:=AO.1 ha
  simp only[Ie,BP];exact h.2.2 b hb⟩
theorem zY {j k}{ts:List Tx}{a u y b}(ha:ts[k]?=some a)(hb:y.A[j]?=some b)(hu:b.A[k]?=some u):L4 j (ts.drop k) k y=if u=a then L4 j (ts.drop (k+1)) (k+1) y else if Ac u=true then L4 j (ts.drop (k+1)) (k+1) (Ic u a y)else none:=by
 have hl:=(BG.1 ha).1;have he:=(BG.1 ha).2;rw[FJ hl,he,L4,hb];simp only[IQ,hu]
def OZ (x:AB)(j:Nat)(t:AC)(y:AB)(ok:Bool):Prop:=y.fits/\((ok=true/\Km x j t=some y)\/(ok=false/\Km x j t=none))
theorem fN (x c)(j:Nat)(t ct b0)(hc:AN x c)(ht:Bo t ct)(hx:x.fits)(ab:x.A[j]?=some b0)(br:Z t.A<=1000)(σ):AF Tryz.prog 241 [ag c,ic j,ag ct] σ fun r σ'=>∃y cy ok,r=tp [ag cy,sc (.bool ok)]/\AN y cy/\OZ x j t y ok/\AE σ σ':=by
 have ah:=hc;obtain⟨ih,id,b,hb,rfl⟩:=hc.cells;obtain⟨it,rfl⟩:=ht;have ba:=EL.length Bb hb;have bb:=hx.1;obtain⟨ia,r,hd⟩:=Cf hb ab;have a7:=(BG.1 ab).1;unfold Bm;unfold Bm at ah;by_cases hq:t.nt=b0.nt/\t.B=b0.B/\Z t.A=Z b0.A
 ·obtain⟨q1,q2,q3⟩:=hq;have ai:AD (Km x j t=L4 j (t.A.drop 0) 0 x):=by
   unfold Km;rw[AD,ab];simp only;rw[if_pos ⟨q1,q2,q3⟩,NT]
  have ay:(t.nt==b0.nt)=true:=by simp[q1]
  have ax:(t.B==b0.B)=true:=by simp[q2]
  have a8:((Z t.A:Int) !=(Z b0.A:Int))=false:=by simp[q3]
  have bc:AD (∃b',x.A[j]?=some b'/\Z b'.A=Z t.A):=⟨b0,ab,q3.symm⟩;clear q1 q2 q3 ab;refine Z9 74 [.cell 6 110,.tmp 7] Tryz.func241 ?_
  refine pz ?_
  refine Ae (fun m s σ'=>∃(k:Nat) (y:AB) (iy jy:Nat) (by':List AV),m=Z t.A-k/\k<=Z t.A/\s 1=ic j/\s 3=ptr σ.B 0/\s 5=ptr (σ.B+1) 0/\s 6=ptr (σ.B+2) 0/\s 9=ic k/\AE σ σ'/\σ.B+3<σ'.B/\σ'.C σ.B=[sc (.bool y.o),sc (.bool y.h.nt),str y.h.B,sl iy (Z y.h.A) (y.h.A.map str),sl jy (Z y.A) by']/\σ'.C (σ.B+1)=[sc (.bool t.nt),str t.B,sl it (Z t.A) (t.A.map str)]/\σ'.C (σ.B+2)=[sc (.bool false),sc (.bool false),str [],nilS,nilS]/\AD (EL Bo y.A by'/\y.fits/\(∃b',y.A[j]?=some b'/\Z b'.A=Z t.A)/\Km x j t=L4 j (t.A.drop k) k y)) (Z t.A)
   ⟨0,x,ih,id,b,AA,AA,by simp[upd,AM],AG,AG,AG,AG,Xs,BM,?_,?_,?_,hb,hx,bc.o,ai.o⟩ ?_
  ·rw[Aj AA,Ah AK,Ah AK,Ah AK,Ao]
  ·rw[Aj AA,Ah AK,Ah AK,Bg AK AK]
  ·rw[Aj AA,Ah AK,Bg AK AK]
  clear ay ax a8 hd hb ba bb a7 ah bc;rintro m s σ' ⟨k,y,iy,jy,by',rfl,hk,h1,h3,h5,h6,h9,hK,a5,ap,ao,an,hH⟩;have be:=hK.B;by_cases a6:k<Z t.A
  ·obtain⟨hy,aj,⟨b',af,a9⟩,ae⟩:=hH.o;have ba:=EL.length Bb hy;have bb:=aj.1;have a7:=(BG.1 af).1;obtain⟨ia,r,hd⟩:=Cf hy af;have av:b'.A[k]?=some (b'.A[k]'AA):=AJ AA;have bg:=A7 (l:=b'.A) (k:=k) AA;generalize b'.A[k]'AA=u at av bg;have aw:=AJ a6;have bh:=A7 a6;generalize t.A[k]=a at aw bh;have a0:AD _:=zY aw af av;have bp:AD (∃b',y.A[j]?=some b'/\Z b'.A=Z t.A):=⟨b',af,a9⟩;have bo:AD (∃b',(Ic u a y).A[j]?=some b'/\Z b'.A=Z t.A):=⟨Ie u a b',by simp[Ic,af],by simp[Ie,a9]⟩;have a3:AD _:=ae;have bl:(k:Int)<(Z b'.A:Int):=AA;have HY:AD _:=hy;have am:AD _:=aj;have a4:AN y [sc (.bool y.o),sc (.bool y.h.nt),str y.h.B,sl iy (Z y.h.A) (y.h.A.map str),sl jy (Z y.A) by']:=⟨[sc (.bool y.h.nt),str y.h.B,sl iy (Z y.h.A) (y.h.A.map str)],jy,by',⟨iy,rfl⟩,hy,rfl⟩;clear aw av af ae hy hH;have hV:=fun σ=>Dt u σ;by_cases ac:u=a
   ·have au:(u==a)=true:=by simp[ac]
    have HN:AD (EL Bo y.A by'/\y.fits/\(∃b',y.A[j]?=some b'/\Z b'.A=Z t.A)/\Km x j t=L4 j (t.A.drop (k+1)) (k+1) y):=⟨HY.o,am.o,bp.o,by rw[a3.o,a0.o,if_pos ac]⟩;clear ac
    refine pz ?_
    refine⟨Z t.A-(k+1),AA,k+1,y,iy,jy,by',?_⟩
    exact qh HN
   ·have au:(u==a)=false:=by simpa using ac
    cases hv:Ac u with
    |false=>
     rw[hv]at hV;have HN:AD (OZ x j t y false):=⟨am.o,.inr ⟨rfl,by rw[a3.o,a0.o,if_neg ac,if_neg (by simp[hv])]⟩⟩;clear ac
     refine qb ?_;intro yd yb;refine Xi (hV _) ?_;rintro _ _ ⟨rfl,rfl⟩;refine pz ?_
     exact⟨_,rfl,y,_,false,rfl,a4,HN.o,hK.put AA _⟩
    |true=>
     rw[hv]at hV;have HN:AD (Km x j t=L4 j (t.A.drop (k+1)) (k+1) (Ic u a y)):=by rw[AD,a3.o,a0.o,if_neg ac,if_pos hv]
     clear ac;have bm:=fun σ=>xT y _ u a a4 am.o σ
     refine qb ?_;intro yd yb;refine Xi (hV _) ?_;rintro _ _ ⟨rfl,rfl⟩;refine pz ?_
     refine Az (Q:=fun e s' σ''=>e= .normal/\s' 1=ic j/\s' 3=ptr σ.B 0/\s' 5=ptr (σ.B+1) 0/\s' 6=ptr (σ.B+2) 0/\s' 9=ic k/\AE σ σ''/\σ.B+3<σ''.B/\σ''.C (σ.B+1)=[sc (.bool t.nt),str t.B,sl it (Z t.A) (t.A.map str)]/\σ''.C (σ.B+2)=[sc (.bool false),sc (.bool false),str [],nilS,nilS]/\∃iz jz bz,σ''.C σ.B=[sc (.bool (Ic u a y).o),sc (.bool (Ic u a y).h.nt),str (Ic u a y).h.B,sl iz (Z (Ic u a y).h.A) ((Ic u a y).h.A.map str),sl jz (Z (Ic u a y).A) bz]/\EL Bo (Ic u a y).A bz) ?_ ?_
     ·refine Aq Ag (fun _=>True) [8] [0,1,2,3,4,5,6] 2 #[true,true,true,true,true,true,true,false,false] AH (fun _ _ _ h=>by cases h.1) ?_;intro yd yb;refine Z3 ?_;refine yb.o _ ?_;clear yb yd;refine Ai (i:=7) AH ?_;refine Am ?_;intro yd yb;refine Z3 ?_;refine AF.mono (bm _) ?_;rintro _ σ5 ⟨c5,rfl,bi,ak⟩;obtain⟨iz,jz,bz,az,rfl⟩:=bi.cells;unfold Bm;refine Z3 ?_;refine yb.o _ _ ⟨Al ak,?_⟩;clear yb yd;have bd:=ak.B;have ad:=ak.C;have bq:σ5.C σ.B=[sc (.bool y.o),sc (.bool y.h.nt),str y.h.B,sl iy (Z y.h.A) (y.h.A.map str),sl jy (Z y.A) by']:=by rw[ad _ AA,ap]
      refine Ai (i:=8) AH ?_;refine Am ?_;intro yd yb;refine Z3 ?_;refine yb.o _ _ ⟨A5 rfl,?_⟩;clear yb yd;refine Ax AH ⟨rfl,?_⟩;simp only[upd,↓reduceIte,Nat.reduceEqDiff,h1,h3,h5,h6,h9,JC];refine⟨(hK.trans ak).put AA _,by simp only[Ab];omega,?_,?_,iz,jz,bz,?_,az⟩
      ·rw[Oe (show σ.B<σ.B+1 by omega),ad _ AA,ao]
      ·rw[Oe (show σ.B<σ.B+2 by omega),ad _ AA,an]
      ·rw[Ak]
     ·clear hK a5 ap ao an be;rintro e s' σ'' ⟨rfl,g1,g3,g5,g6,g9,hK,a5,ao,an,iz,jz,bz,ap,az⟩;have bn:AD (EL Bo (Ic u a y).A bz/\(Ic u a y).fits/\(∃b',(Ic u a y).A[j]?=some b'/\Z b'.A=Z t.A)/\Km x j t=L4 j (t.A.drop (k+1)) (k+1) (Ic u a y)):=⟨az,yA am.o,bo.o,HN.o⟩
      refine zz ?_
      refine⟨Z t.A-(k+1),AA,k+1,Ic u a y,iz,jz,bz,?_⟩
      exact qh bn
  ·have bf:k=Z t.A:=AA;subst bf;obtain⟨hy,aj,-,ae⟩:=hH.o;have HE:AN y [sc (.bool y.o),sc (.bool y.h.nt),str y.h.B,sl iy (Z y.h.A) (y.h.A.map str),sl jy (Z y.A) by']:=⟨[sc (.bool y.h.nt),str y.h.B,sl iy (Z y.h.A) (y.h.A.map str)],jy,by',⟨iy,rfl⟩,hy,rfl⟩;rw[JZ,L4]at ae;have HR:AD (OZ x j t y true):=⟨aj,.inl ⟨rfl,ae⟩⟩;clear ae hH
   refine pz ?_
   exact⟨_,rfl,y,_,true,rfl,HE,HR.o,hK.put AA _⟩
 ·have ai:AD (OZ x j t x false):=⟨hx,.inr ⟨rfl,by unfold Km;rw[ab];simp only;rw[if_neg hq]⟩⟩;by_cases q1:t.nt=b0.nt
  ·have ay:(t.nt==b0.nt)=true:=by simp[q1]
   by_cases q2:t.B=b0.B
   ·have ax:(t.B==b0.B)=true:=by simp[q2]
    have a8:((Z t.A:Int) !=(Z b0.A:Int))=true:=by
     simp only[bne_iff_ne,ne_eq];intro h;exact hq ⟨q1,q2,AA⟩
    clear hq q1 q2 ab;refine Z9 74 [.cell 6 110,.tmp 7] Tryz.func241 ?_
    refine pz ?_
    exact⟨_,rfl,x,_,false,rfl,ah,ai.o,Xs⟩
   ·have ax:(t.B==b0.B)=false:=by simpa using q2
    clear hq q1 q2 ab;refine Z9 74 [.cell 6 110,.tmp 7] Tryz.func241 ?_
    refine pz ?_
    exact⟨_,rfl,x,_,false,rfl,ah,ai.o,Xs⟩
  ·have ay:(t.nt==b0.nt)=false:=by simpa using q1
   clear hq q1 ab;refine Z9 74 [.cell 6 110,.tmp 7] Tryz.func241 ?_
   refine pz ?_
   exact⟨_,rfl,x,_,false,rfl,ah,ai.o,Xs⟩
end Go.Proofs.YtmoeoppbmhfbpabGreatDoorI
