import Derived.Test.YtmoeoppbmhfbpabGreatDoorHEngQ
import Derived.Test.YtmoeoppbmhfbpabGreatDoorHAbsWp
import Derived.Test.YtmoeoppbmhfbpabGreatDoorHSpaE
import Derived.Test.YtmoeoppbmhfbpabGreatDoorHPrtF
set_option linter.all false
namespace Go.Proofs.YtmoeoppbmhfbpabGreatDoorH
open Go.Abs
abbrev Nu:=Int->Int
def He (ν:Nu)(t:Tm):Int:=if t.1=true then ν t.2 else t.2
def Bq (a:C3)(ν:Nu):Ca:=D7 (a.ts.map (He ν))
def Lm (ν:Nu)(v n:Int):Nu:=fun w=>if w=v then n else ν w
theorem hasV_iff {ts:List Tm}{v:Int}:Bc ts v=true↔(true,v)∈ts:=by simp[Bc]
theorem Ej {a:C3}{ν ν':Nu}(h:∀v,Bc a.ts v=true->ν v=ν' v):Bq a ν=Bq a ν':=by
 unfold Bq;congr 1;apply Aco;intro t ht;unfold He;split
 ·rename_i h1;exact h t.2 (hasV_iff.2 (by obtain⟨x,y⟩:=t;simp at h1;subst h1;exact ht))
 ·rfl
theorem Im {l:List Int}{i:Nat}(h:i<l.length)(h3:l.length<=3):(D7 l)[i]?=some l[i]:=by
 match l,h3 with
 |[],_=>simp at h
 |[a],_=>simp at h;subst h;rfl
 |[a,b],_=>
  rcases (show i=0\/i=1 by simp at h;omega)with rfl|rfl<;>rfl
 |[a,b,c],_=>
  rcases (show i=0\/i=1\/i=2 by simp at h;omega)with rfl|rfl|rfl<;>rfl
theorem H6 {a:C3}{ν:Nu}{v:Int}(h3:a.ts.length<=3)(hv:Bc a.ts v=true):Gy (Bq a ν) (Hp a.ts v)=ν v:=by
 have hm:=hasV_iff.1 hv;have hi:=List.idxOf_lt_length_iff.2 hm;unfold Gy Hp;rw[if_pos hm,Adk,Bq,Im (by simpa using hi) (by simpa using h3)];simp[He]
theorem Ja (a:C3)(v n:Int)(ν:Nu):Bq (Ey v n a) ν=Bq a (Lm ν v n):=by
 unfold Bq Ey Bh;congr 1;rw[Abu];apply Aco;intro t ht;obtain⟨b,w⟩:=t;show He ν (Um v n (b,w))=He (Lm ν v n) (b,w);by_cases h:(b,w)=(true,v)
 ·cases h;simp[Um,He,Lm]
 ·rw[show Um v n (b,w)=(b,w)from if_neg h];cases b with
  |false=>simp[He]
  |true=>
   have:w≠v:=fun e=>h (by rw[e]);simp[He,Lm,this]
theorem hasV_put {a:C3}{v n w:Int}:Bc (Ey v n a).ts w=true↔Bc a.ts w=true/\w≠v:=by
 rw[hasV_iff,hasV_iff];unfold Ey Bh;rw[Acm];constructor
 ·rintro⟨t,ht,e⟩;unfold Um at e;split at e
  ·cases e
  ·rename_i hne;subst e;exact⟨ht,fun e=>hne (by rw[e])⟩
 ·rintro⟨h,hne⟩;refine⟨(true,w),h,?_⟩;unfold Um;rw[if_neg (fun e=>hne (by cases e;rfl))]
def J1 (neg:Int->Ca->Prop)(q:Qry)(ν:Nu):Prop:=(∀p∈q.parts,Bq p.a ν∈p.tups)/\∀a∈q.nots,¬neg a.p (Bq a ν)
def WP (q:Qry):Prop:=∀p∈q.parts,p.a.ts.length<=3/\∀t∈p.tups,∃μ,t=Bq p.a μ
theorem Qi {neg:Int->Ca->Prop}{q:Qry}{v n:Int}{ν:Nu}(hW:WP q):J1 neg (Cu v n q) ν↔J1 neg q (Lm ν v n):=by
 have hp:∀p∈q.parts,(Bq (Gz v n p).a ν∈(Gz v n p).tups↔Bq p.a (Lm ν v n)∈p.tups):=fun p hp=>by
  unfold Gz;by_cases hv:Bc p.a.ts v=true
  ·rw[if_pos hv];show Bq (Ey v n p.a) ν∈_↔_;rw[Ja,Adi];constructor
   ·exact fun h=>h.1
   ·intro h;refine⟨h,?_⟩;rw[H6 (hW p hp).1 hv];simp[Lm]
  ·rw[if_neg hv]
   rw[Ej (ν:=ν) (ν':=Lm ν v n) (fun w hw=>by
    unfold Lm;rw[if_neg];rintro rfl
    exact hv hw)]
 unfold J1 Cu;simp only[Acm,forall_exists_index,and_imp,forall_apply_eq_imp_iff₂];constructor
 ·rintro⟨h1,h2⟩;exact⟨fun p aa=>(hp p aa).1 (h1 p aa),fun a ha=>by have:=h2 a ha;rwa[Ja]at this⟩
 ·rintro⟨h1,h2⟩;exact⟨fun p aa=>(hp p aa).2 (h1 p aa),fun a ha=>by rw[Ja];exact h2 a ha⟩
theorem yA {q:Qry}{v n:Int}(hW:WP q):WP (Cu v n q):=by
 intro p hp;obtain⟨p0,h0,rfl⟩:=Acm.1 hp;obtain⟨h1,h2⟩:=hW p0 h0;unfold Gz;by_cases hv:Bc p0.a.ts v=true
 ·rw[if_pos hv];refine⟨by simp[Bh];exact h1,fun t ht=>?_⟩;obtain⟨ht,he⟩:=Adi.1 ht;obtain⟨μ,rfl⟩:=h2 t ht;refine⟨μ,?_⟩;show _=Bq (Ey v n p0.a) μ;rw[Ja];apply Ej;intro w hw;unfold Lm;by_cases e:w=v
  ·subst e;rw[if_pos rfl];rw[H6 h1 hv]at he;simpa using he
  ·rw[if_neg e]
 ·rw[if_neg hv];exact⟨h1,h2⟩
theorem uS {neg:Int->Ca->Prop}{q:Qry}{v:Int}{ν:Nu}(hW:WP q):J1 neg (Ew q v) ν↔J1 neg q ν:=by
 unfold J1 Ew;simp only[Acm,forall_exists_index,and_imp,forall_apply_eq_imp_iff₂];constructor
 ·rintro⟨h1,h2⟩;exact⟨fun p hp=>by have:=h1 p hp;rw[O0]at this;exact Nm _ _ _ _ this,h2⟩
 ·rintro⟨h1,h2⟩;refine⟨fun p hp=>?_,h2⟩;rw[O0];unfold Fg;by_cases hv:Bc p.a.ts v=true
  ·rw[if_pos hv,Adi];refine⟨h1 p hp,?_⟩;rw[H6 (hW p hp).1 hv];unfold Dg;rw[Abg];intro p' ab;by_cases aa:Bc p'.a.ts v=true
   ·simp only[aa,Ab8,Bool.false_or,occ,Acb];exact⟨_,h1 p' ab,by rw[H6 (hW p' ab).1 aa];simp⟩
   ·simp[aa]
  ·rw[if_neg hv];exact h1 p hp
theorem yB {q:Qry}{v:Int}(hW:WP q):WP (Ew q v):=by
 intro p hp;obtain⟨p0,h0,rfl⟩:=Acm.1 hp;rw[O0];exact⟨(hW p0 h0).1,fun t ht=>(hW p0 h0).2 t (Nm _ _ _ t ht)⟩
theorem NarS.wp {q q':Qry}(h:NarS q q')(hW:WP q):WP q':=by
 induction h with
 |refl=>exact hW
 |tail v _ ih=>exact yB ih
theorem NarS.sol {neg:Int->Ca->Prop}{q q':Qry}(h:NarS q q')(hW:WP q)(ν:Nu):J1 neg q' ν↔J1 neg q ν:=by
 induction h with
 |refl=>exact Iff.rfl
 |tail v h ih=>exact (uS (h.wp hW)).trans ih
theorem cG (q:Qry)(v:Int):(Ew q v).parts.map (·.a)=q.parts.map (·.a):=by
 unfold Ew;simp only[Abu];apply Aco;intro p _;exact O0 _ _ _
theorem NarS.atoms {q q':Qry}(h:NarS q q'):q'.parts.map (·.a)=q.parts.map (·.a)/\q'.head=q.head/\q'.nots=q.nots:=by
 induction h with
 |refl=>exact⟨rfl,rfl,rfl⟩
 |tail v _ ih=>exact⟨(cG _ _).trans ih.1,ih.2.1,ih.2.2⟩
theorem NarS.atomsQ {q q':Qry}(h:NarS q q'):atomsQ q'=atomsQ q:=by
 obtain⟨h1,h2,h3⟩:=h.atoms;unfold Go.Proofs.YtmoeoppbmhfbpabGreatDoorH.atomsQ;rw[h1,h2,h3]
def Nrw (q:Qry):Prop:=∀v,∀p1∈q.parts,∀p2∈q.parts,Bc p1.a.ts v=true->Bc p2.a.ts v=true->∀t∈p1.tups,∃u∈p2.tups,Gy u (Hp p2.a.ts v)=Gy t (Hp p1.a.ts v)
theorem R3 (p:Part)(l:List Part):Ck (p::l)=p.tups.length+Ck l:=by simp[Ck]
theorem Pt (L:List Part)(v:Int):∀l:List Part,Ck (l.map (Fg L v))<=Ck l/\(Ck l<=Ck (l.map (Fg L v))->l.map (Fg L v)=l)
 |[]=>by simp[Ck]
 |p::l=>by
  obtain⟨h1,h2⟩:=Pt L v l;have h3:=cF L v p;rw[Abx,R3,R3];refine⟨Ad2,fun h=>?_⟩;rw[h2 Ad2];congr 1;have h4:p.tups.length<=(Fg L v p).tups.length:=Ad2;unfold Fg at h4⊢;split
  ·rename_i hv;rw[if_pos hv]at h4;simp only at h4
   have:=List.filter_eq_self.2 (fun a ha=>by
    have:=List.length_filter_eq_length_iff.1 (Nat.le_antisymm (Adj _ _) h4)
    exact this a ha)
   rw[this]
  ·rfl
theorem mG (q:Qry)(v:Int):Ck (Oq q v).parts<=Ck q.parts/\(Ck q.parts<=Ck (Oq q v).parts->Oq q v=q):=by
 unfold Oq;split
 ·obtain⟨h1,h2⟩:=Pt q.parts v q.parts;refine⟨h1,fun h=>?_⟩;unfold Ew;rw[h2 h]
 ·exact⟨Abb _,fun _=>rfl⟩
theorem aS:∀(vs:List Int) (q:Qry),Ck (eJ q vs).parts<=Ck q.parts/\(Ck q.parts<=Ck (eJ q vs).parts->eJ q vs=q/\∀v∈vs,Oq q v=q)
 |[],q=>⟨Abb _,fun _=>⟨rfl,by simp⟩⟩
 |v::vs,q=>by
  obtain⟨h1,h2⟩:=mG q v;obtain⟨h3,h4⟩:=aS vs (Oq q v);have e:eJ q (v::vs)=eJ (Oq q v) vs:=rfl;rw[e];refine⟨Ad2,fun h=>?_⟩;have e2:=h2 Ad2;rw[e2]at h4⊢;obtain⟨g1,g2⟩:=h4 (by rw[e2]at h;omega);refine⟨g1,fun w hw=>?_⟩;rcases Ace.1 hw with rfl|hw
  ·exact e2
  ·exact g2 w hw
theorem Ku {l:List C3}{v:Int}{a:C3}(ha:a∈l)(hv:Bc a.ts v=true):0<C0 l v:=List.countP_pos_iff.2 ⟨a,ha,hv⟩
theorem Wu {α:Type}{f:α->Bool}:∀{l:List α} {x y:α},l.countP f<=1->x∈l->y∈l->f x=true->f y=true->x=y
 |[],x,y,_,hx,_,_,_=>by cases hx
 |z::l,x,y,h,hx,hy,fx,fy=>by
  rw[List.countP_cons]at h;rcases Ace.1 hx with e1|ab
  ·rcases Ace.1 hy with e2|aa
   ·rw[e1,e2]
   ·rw[<-e1,if_pos fx]at h;have:0<l.countP f:=List.countP_pos_iff.2 ⟨y,aa,fy⟩;omega
  ·rcases Ace.1 hy with e2|aa
   ·rw[<-e2,if_pos fy]at h;have:0<l.countP f:=List.countP_pos_iff.2 ⟨x,ab,fx⟩;omega
   ·exact Wu Ad2 ab aa fx fy
theorem yW {q:Qry}(h:∀v∈Cb (atomsQ q),Oq q v=q):Nrw q:=by
 intro v p1 h1 p2 h2 aa ac t ht;by_cases hc:1<C0 (q.parts.map (·.a)) v
 ·have ae:v∈Cb (atomsQ q):=(Cv _ _).2 ⟨p1.a,by unfold Go.Proofs.YtmoeoppbmhfbpabGreatDoorH.atomsQ;simp;right;left;exact⟨p1,h1,rfl⟩,hasV_iff.1 aa⟩;have hr:=h v ae;unfold Oq at hr;rw[if_pos hc]at hr;have hm:q.parts.map (Fg q.parts v)=q.parts:=congrArg Qry.parts hr;have hp:Fg q.parts v p1=p1:=by
   obtain⟨i,hi⟩:=List.getElem?_of_mem h1;have:(q.parts.map (Fg q.parts v))[i]?=some (Fg q.parts v p1):=by simp[hi]
   rw[hm,hi]at this;exact (Ac5 this).symm
  have ab:t∈(Fg q.parts v p1).tups:=by rw[hp];exact ht
  unfold Fg at ab;rw[if_pos aa]at ab;have:=(Adi.1 ab).2;unfold Dg at this;rw[Abg]at this;have:=this p2 h2;simp only[ac,Ab8,Bool.false_or,occ,Acb]at this;obtain⟨u,hu,e⟩:=this;exact⟨u,hu,by simpa using e⟩
 ·have ad:(q.parts.map (·.a)).countP (fun a=>Bc a.ts v)<=1:=by unfold C0 at hc;omega
  rw[List.countP_map]at ad;have:=Wu ad h1 h2 aa ac;subst this;exact⟨t,ht,rfl⟩
def inQ (q:Qry)(v:Int):Prop:=∃a∈atomsQ q,Bc a.ts v=true
def NE (q:Qry):Prop:=∀p∈q.parts,p.tups≠[]
def eE (q:Qry):Prop:=∀v,(Bc q.head.ts v=true\/∃a∈q.nots,Bc a.ts v=true)->∃p∈q.parts,Bc p.a.ts v=true
structure Red (neg:Int->Ca->Prop)(q q':Qry):Prop where
 hd:q'.head=q.head
 at_:∀a∈atomsQ q',a∈atomsQ q
 to:∀ν,J1 neg q ν->J1 neg q' ν
 back:∀ν,J1 neg q' ν->∃ν',J1 neg q ν'/\∀v,inQ q' v->ν' v=ν v
theorem Red.refl (neg:Int->Ca->Prop)(q:Qry):Red neg q q:=⟨rfl,fun _ h=>h,fun _ h=>h,fun ν h=>⟨ν,h,fun _ _=>rfl⟩⟩
theorem inQ.sub {q q':Qry}{v:Int}(h:∀a∈atomsQ q',a∈atomsQ q)(hv:inQ q' v):inQ q v:=by
 obtain⟨a,ha,e⟩:=hv;exact⟨a,h a ha,e⟩
theorem Red.trans {neg:Int->Ca->Prop}{q q1 q2:Qry}(h:Red neg q q1)(g:Red neg q1 q2):Red neg q q2 where
 hd:=g.hd.trans h.hd
 at_:=fun a ha=>h.at_ a (g.at_ a ha)
 to:=fun ν hν=>g.to ν (h.to ν hν)
 back:=fun ν hν=>by
  obtain⟨ν1,h1,e1⟩:=g.back ν hν;obtain⟨ν2,h2,e2⟩:=h.back ν1 h1;exact⟨ν2,h2,fun v hv=>(e2 v (hv.sub g.at_)).trans (e1 v hv)⟩
theorem Jd {q:Qry}{p:Part}(h:p∈q.parts):p.a∈atomsQ q:=by
 unfold atomsQ;simp;right;left;exact⟨p,h,rfl⟩
theorem NarS.red {neg:Int->Ca->Prop}{q q':Qry}(h:NarS q q')(hW:WP q):Red neg q q':=
 ⟨h.atoms.2.1,fun a ha=>by rw[h.atomsQ]at ha;exact ha,fun ν hν=>(h.sol hW ν).2 hν,fun ν hν=>⟨ν,(h.sol hW ν).1 hν,fun _ _=>rfl⟩⟩
theorem Mk {q:Qry}:∀{vs:List Int} {n:Nat},I3 q n vs=true->(∀v∈vs,Cx q v=true->n=0/\C0 (q.parts.map (·.a)) v≠1)/\∀v∈vs,∀w∈vs,Cx q v=true->Cx q w=true->v=w
 |[],n,_=>⟨(fun v hv=>by cases hv),(fun v hv=>by cases hv)⟩
 |u::vs,n,h=>by
  unfold I3 at h;by_cases hl:Cx q u=true
  ·rw[if_pos hl]at h;split at h
   ·cases h
   ·rename_i hc;obtain⟨h1,h2⟩:=Mk h;have ac:∀v∈vs,¬Cx q v=true:=fun v hv aa=>by
     have:=(h1 v hv aa).1;omega
    refine⟨fun v hv aa=>?_,fun v hv w hw aa ab=>?_⟩
    ·rcases Ace.1 hv with rfl|hv
     ·exact⟨Ad2,fun e=>hc (.inr e)⟩
     ·exact absurd aa (ac v hv)
    ·rcases Ace.1 hv with e1|hv
     ·rcases Ace.1 hw with e2|hw
      ·rw[e1,e2]
      ·exact absurd ab (ac w hw)
     ·exact absurd aa (ac v hv)
  ·rw[if_neg hl]at h;obtain⟨h1,h2⟩:=Mk h;refine⟨fun v hv aa=>?_,fun v hv w hw aa ab=>?_⟩
   ·rcases Ace.1 hv with rfl|hv
    ·exact absurd aa hl
    ·exact h1 v hv aa
   ·rcases Ace.1 hv with rfl|hv
    ·exact absurd aa hl
    ·rcases Ace.1 hw with rfl|hw
     ·exact absurd ab hl
     ·exact h2 v hv w hw aa ab
theorem Eg (l m:List C3)(v:Int):C0 (l++m) v=C0 l v+C0 m v:=List.countP_append
theorem F7 (a:C3)(l:List C3)(v:Int):C0 (a::l) v=C0 l v+if Bc a.ts v=true then 1 else 0:=List.countP_cons
theorem lY {neg:Int->Ca->Prop}{q:Qry}(hW:WP q)(a3:NE q)(a0:Nrw q):Red neg q (Em q)/\(∀p∈(Em q).parts,p∈q.parts)/\(eE q->eE (Em q)):=by
 rcases List.exists_or_eq_self_of_eraseP (fun p=>idleB q p.a) q.parts with e|⟨p,l1,l2,-,hp,e1,e2⟩
 ·have:Em q=q:=by unfold Em;rw[e]
  rw[this];exact⟨Red.refl _ _,fun p hp=>hp,fun h=>h⟩
 ·have hT:(Em q).parts=l1++l2:=e2;have aa:∀p'∈(Em q).parts,p'∈q.parts:=fun p' ab=>by
   rw[hT]at ab;rw[e1];rcases Ack.1 ab with h|h
   ·exact Ack.2 (.inl h)
   ·exact Ack.2 (.inr (Ace.2 (.inr h)))
  have an:p∈q.parts:=by rw[e1];simp
  obtain⟨g1,g2⟩:=Mk (vs:=Cb [p.a]) (n:=0) hp;have ar:∀v,Bc p.a.ts v=true->v∈Cb [p.a]:=fun v hv=>(Cv _ _).2 ⟨p.a,by simp,hasV_iff.1 hv⟩;have av:∀v,C0 (atomsQ q) v=(if Bc q.head.ts v=true then 1 else 0)+C0 ((l1++l2).map (·.a)) v+(if Bc p.a.ts v=true then 1 else 0)+C0 q.nots v:=fun v=>by
   unfold atomsQ;rw[F7,Eg,e1,Abt,Abx,Eg,F7,Abt,Eg];omega
  have ap:∀v,C0 (q.parts.map (·.a)) v=C0 ((l1++l2).map (·.a)) v+if Bc p.a.ts v=true then 1 else 0:=fun v=>by
   rw[e1,Abt,Abx,Eg,F7,Abt,Eg];omega
  --a variable of the part that stands elsewhere is linked
  have am:∀v,Bc p.a.ts v=true->(Bc q.head.ts v=true\/(∃p'∈l1++l2,Bc p'.a.ts v=true)\/∃a∈q.nots,Bc a.ts v=true)->Cx q v=true:=fun v hv h=>by
   unfold Cx;rw[av v,if_pos hv];rcases h with h|⟨p',h1,h2⟩|⟨a,h1,h2⟩
   ·rw[if_pos h,Adx];omega
   ·have:=Ku (l:=(l1++l2).map (·.a)) (Acm.2 ⟨p',h1,rfl⟩) h2;rw[Adx];omega
   ·have:=Ku h1 h2;rw[Adx];omega
  have ac:∀v,Bc p.a.ts v=true->Cx q v=true->∃p'∈l1++l2,Bc p'.a.ts v=true:=fun v hv hl=>by
   have:=(g1 v (ar v hv) hl).2;rw[ap v,if_pos hv]at this;have h0:0<C0 ((l1++l2).map (·.a)) v:=Ad2;obtain⟨a,ha,aj⟩:=List.countP_pos_iff.1 h0;obtain⟨p',ab,rfl⟩:=Acm.1 ha;exact⟨p',ab,aj⟩
  have ak:∀a∈atomsQ (Em q),a∈atomsQ q:=fun a ha=>by
   unfold atomsQ at ha⊢;simp only[Ace,Ack,Acm]at ha⊢;rcases ha with h|⟨p',h1,rfl⟩|h
   ·exact .inl h
   ·exact .inr (.inl ⟨p',aa p' h1,rfl⟩)
   ·exact .inr (.inr h)
  refine⟨⟨rfl,ak,fun ν h=>⟨fun p' ab=>h.1 p' (aa p' ab),h.2⟩,fun ν h=>?_⟩,aa,fun ay v hv=>?_⟩
  · --a tuple of the part that agrees with the rest
   have ao:∃μ,Bq p.a μ∈p.tups/\∀v,Bc p.a.ts v=true->Cx q v=true->μ v=ν v:=by
    by_cases hex:∃v,Bc p.a.ts v=true/\Cx q v=true
    ·obtain⟨v,hv,hl⟩:=hex;obtain⟨p',ab,aw⟩:=ac v hv hl;have ai:p'∈(Em q).parts:=by rw[hT];exact ab
     have az:=h.1 p' ai;obtain⟨u,hu,he⟩:=a0 v p' (aa p' ai) p an aw hv _ az;rw[H6 (hW p' (aa p' ai)).1 aw]at he;obtain⟨μ,rfl⟩:=(hW p an).2 u hu;rw[H6 (hW p an).1 hv]at he;refine⟨μ,hu,fun w hw au=>?_⟩;have:=g2 w (ar w hw) v (ar v hv) au hl;rw[this];exact he
    ·have hne:=a3 p an;obtain⟨t,ht⟩:=List.exists_mem_of_ne_nil _ hne;obtain⟨μ,rfl⟩:=(hW p an).2 t ht;exact⟨μ,ht,fun w hw au=>absurd ⟨w,hw,au⟩ hex⟩
   obtain⟨μ,hμ,ax⟩:=ao;let ν':Nu:=fun v=>if Bc p.a.ts v=true then μ v else ν v;have ah:∀a:C3,(∀v,Bc a.ts v=true->Bc p.a.ts v=true->Cx q v=true)->Bq a ν'=Bq a ν:=fun a ha=>Ej fun v hv=>by
    show (if Bc p.a.ts v=true then μ v else ν v)=ν v;by_cases h:Bc p.a.ts v=true
    ·rw[if_pos h];exact ax v h (ha v hv h)
    ·rw[if_neg h]
   refine⟨ν',⟨fun p' ab=>?_,fun a ha=>?_⟩,fun v hv=>?_⟩
   ·rw[e1]at ab;have ad:p'=p\/p'∈l1++l2:=by
     rcases Ack.1 ab with h|h
     ·exact .inr (Ack.2 (.inl h))
     ·rcases Ace.1 h with h|h
      ·exact .inl h
      ·exact .inr (Ack.2 (.inr h))
    rcases ad with rfl|af
    ·rw[Ej (ν':=μ) (fun v hv=>by show (if Bc _ v=true then μ v else ν v)=μ v;rw[if_pos hv])];exact hμ
    ·rw[ah p'.a (fun v hv ae=>am v ae (.inr (.inl ⟨p',af,hv⟩)))];exact h.1 p' (by rw[hT];exact af)
   ·rw[ah a (fun v hv ae=>am v ae (.inr (.inr ⟨a,ha,hv⟩)))];exact h.2 a ha
   ·show (if Bc p.a.ts v=true then μ v else ν v)=ν v;by_cases ae:Bc p.a.ts v=true
    ·rw[if_pos ae];apply ax v ae;obtain⟨a,ha,aj⟩:=hv;unfold atomsQ at ha;simp only[Ace,Ack,Acm]at ha;rcases ha with rfl|⟨p',h1,rfl⟩|h1
     ·exact am v ae (.inl aj)
     ·exact am v ae (.inr (.inl ⟨p',by rw[hT]at h1;exact h1,aj⟩))
     ·exact am v ae (.inr (.inr ⟨a,h1,aj⟩))
    ·rw[if_neg ae]
  ·obtain⟨p',h1,h2⟩:=ay v hv;rw[e1]at h1;have ad:p'=p\/p'∈l1++l2:=by
    rcases Ack.1 h1 with h|h
    ·exact .inr (Ack.2 (.inl h))
    ·rcases Ace.1 h with h|h
     ·exact .inl h
     ·exact .inr (Ack.2 (.inr h))
   rcases ad with rfl|af
   ·have hl:Cx q v=true:=am v h2 (by
     rcases hv with h|⟨a,ha,aj⟩
     ·exact .inl h
     ·exact .inr (.inr ⟨a,ha,aj⟩))
    obtain⟨p2,h3,h4⟩:=ac v h2 hl;exact⟨p2,by rw[hT];exact h3,h4⟩
   ·exact⟨p',by rw[hT];exact af,h2⟩
theorem TrimR.red {neg:Int->Ca->Prop}{q q':Qry}(h:TrimR q q')(hW:WP q)(ab:NE q)(aa:Nrw q):Red neg q q'/\(∀p∈q'.parts,p∈q.parts)/\(eE q->eE q'):=by
 induction h with
 |refl=>exact⟨Red.refl _ _,fun p hp=>hp,fun h=>h⟩
 |tail h ih=>
  obtain⟨i1,i2,i3⟩:=ih;obtain⟨g1,g2,g3⟩:=lY (neg:=neg) (fun p hp=>hW p (i2 p hp)) (fun p hp=>ab p (i2 p hp)) (fun v p1 h1 p2 h2=>aa v p1 (i2 p1 h1) p2 (i2 p2 h2));exact⟨i1.trans g1,fun p hp=>i2 p (g2 p hp),fun h=>g3 (i3 h)⟩
theorem V0 {neg:Int->Ca->Prop}{q:Qry}{rs:List Int}(hC:El (atomsQ q) rs rs){ν1 ν2:Nu}(h1:J1 neg (Bb q rs) ν1)(h2:J1 neg (Gt q rs) ν2):J1 neg q (fun v=>if v∈rs then ν1 v else ν2 v):=by
 have ab:∀a∈atomsQ q,H2 rs a=true->Bq a (fun v=>if v∈rs then ν1 v else ν2 v)=Bq a ν1:=fun a ha aa=>Ej fun v hv=>if_pos (hC a ha aa v (hasV_iff.1 hv));have ac:∀a:C3,H2 rs a=false->Bq a (fun v=>if v∈rs then ν1 v else ν2 v)=Bq a ν2:=fun a aa=>Ej fun v hv=>if_neg fun hm=>by
  unfold H2 at aa;rw[Acy]at aa;exact aa v hm hv
 refine⟨fun p hp=>?_,fun a ha=>?_⟩
 ·cases aa:H2 rs p.a with
  |true=>rw[ab p.a (Jd hp) aa];exact h1.1 p (Adi.2 ⟨hp,aa⟩)
  |false=>rw[ac p.a aa];exact h2.1 p (Adi.2 ⟨hp,by simp[aa]⟩)
 ·cases aa:H2 rs a with
  |true=>rw[ab a (by unfold atomsQ;simp[ha]) aa];exact h1.2 a (Adi.2 ⟨ha,aa⟩)
  |false=>rw[ac a aa];exact h2.2 a (Adi.2 ⟨ha,by simp[aa]⟩)
theorem aO {neg:Int->Ca->Prop}{q:Qry}{rs:List Int}{ν:Nu}(h:J1 neg q ν):J1 neg (Bb q rs) ν:=
 ⟨fun p hp=>h.1 p (Adi.1 hp).1,fun a ha=>h.2 a (Adi.1 ha).1⟩
theorem jW {neg:Int->Ca->Prop}{q:Qry}{rs:List Int}{ν:Nu}(h:J1 neg q ν):J1 neg (Gt q rs) ν:=
 ⟨fun p hp=>h.1 p (Adi.1 hp).1,fun a ha=>h.2 a (Adi.1 ha).1⟩
theorem iU {neg:Int->Ca->Prop}{q:Qry}{v:Int}{ν:Nu}(hW:WP q)(h:J1 neg q ν)(hp:∃p∈q.parts,Bc p.a.ts v=true):ν v∈Jx q v:=by
 unfold Jx;cases hf:q.parts.find? (fun p=>Bc p.a.ts v)with
 |none=>
  obtain⟨p,h1,h2⟩:=hp;rw[List.find?_eq_none]at hf;exact absurd h2 (hf p h1)
 |some p=>
  have h1:=List.mem_of_find?_eq_some hf;have h2:Bc p.a.ts v=true:=by simpa using List.find?_some hf
  simp only;unfold Ui;rw[Q6];exact .inr ⟨_,h.1 p h1,H6 (hW p h1).1 h2⟩
theorem cH:∀{l:List Part},(∀p∈l,p.tups≠[]/\∀t∈p.tups,∃μ,t=Bq p.a μ)->(∀v,C0 (l.map (·.a)) v<=1)->∃ν:Nu,∀p∈l,Bq p.a ν∈p.tups
 |[],_,_=>⟨fun _=>0,fun p hp=>by cases hp⟩
 |p::l,h,hc=>by
  obtain⟨ν,hν⟩:=cH (l:=l) (fun p' aa=>h p' (by simp[aa])) (fun v=>by
   have:=hc v;rw[Abx,F7]at this
   omega)
  obtain⟨hne,hμ⟩:=h p (by simp);obtain⟨t,ht⟩:=List.exists_mem_of_ne_nil _ hne;obtain⟨μ,rfl⟩:=hμ t ht;refine⟨fun v=>if Bc p.a.ts v=true then μ v else ν v,fun p' aa=>?_⟩;rcases Ace.1 aa with rfl|aa
  ·rw[Ej (ν':=μ) (fun v hv=>if_pos hv)];exact ht
  ·rw[Ej (ν':=ν) (fun v hv=>if_neg (fun ab=>by
    have:=hc v;rw[Abx,F7,if_pos ab]at this;have:=Ku (l:=l.map (·.a)) (Acm.2 ⟨p',aa,rfl⟩) hv
    omega))]
   exact hν p' aa
end Go.Proofs.YtmoeoppbmhfbpabGreatDoorH
namespace Go.Abs
section
variable {P:Program} {n:Nat} {Q:Gn} {F:Nat->Prop} {A:Nat->Bool} {σ0:St} {all:List Oper}
theorem U4 {listed:Array Bool}{s:Sl}{D:St}(ts:List Nat)(m k:Nat)(L:Array Bool)(ab:k=ts.length+m)(hs:Region.noSelect all.toArray=true)(hB:zZ all A L ts listed=true)(hp:∀c s D,¬Q (.panic c) s D)(aa:σ0.nobj<=D.nobj)(hk:∀o,o<σ0.nobj->F o->D.ver o=σ0.ver o)
  (h:∀K:Sl->Prop,Ad8 (∀s',Mr P n all Q F A D m L s' D->K s')->aT P n all F D K ts s):Mr P n all Q F A σ0 k listed s D:=by
 subst ab;exact iZ aa hk (W7 hs hp m L ts listed s hB (h _ fun _ h=>h))
end
end Go.Abs
namespace Go.Proofs.YtmoeoppbmhfbpabGreatDoorH
open Go.Abs
def Pos (fz:Bool)(a:RAtom):Bool:=fz||!a.nt
def Aa9 (fz:Bool)(x:RItem):Prop:=∀v,Af v=true->(v∈x.head.terms\/∃a∈x.body,Pos fz a=false/\v∈a.terms)->∃a∈x.body,Pos fz a=true/\v∈a.terms
def Clean (t:Tx):Prop:=(∀b∈t,b≠(33:UInt8)/\b≠44/\b≠46)/\t.length<=1000
def clA (a:RAtom):Prop:=Clean a.pred/\(∀t∈a.terms,Clean t)/\a.terms.length<=1000
def clI (x:RItem):Prop:=x.out=false/\clA x.head/\∀a∈x.body,clA a
set_option maxRecDepth 100000
def dK (c0 a:Nat):Nat->Nat
 |0=>c0
 |p+1=>1+a*dK c0 a p
structure zU (fz:Bool)(c0 p:Nat)(x:RItem):Prop where
 cl:clI x
 len:x.body.length<=1000
 saf:Aa9 fz x
 cnt:x.body.countP (Pos fz)=p
 neg:c0=1\/∀a∈x.body,Pos fz a=true
def zR (fz:Bool)(limit:Nat)(x:RItem):Prop:=∃c0 p,zU fz c0 p x/\∀a,a<=limit->dK c0 a p+2002<=1000000000000
def cZ (t:Tx):Tx:=if Af t=true then 35::t else t
def Aa0 (a:RAtom):RAtom:=⟨a.nt,a.pred,a.terms.map cZ⟩
def oth (li:List RItem)(n i:Nat):List RItem:=((li.take i).eraseIdx n).filter fun y=>!y.out
theorem rF {li:List RItem}{n i:Nat}{y:RItem}(h:li[i]?=some y):oth li n (i+1)=oth li n i++(if i=n\/y.out=true then []else [y]):=by
 have hi:=(List.getElem?_eq_some_iff.1 h).1;have hl:(li.take i).length=i:=by rw[Ab3];omega
 unfold oth;rw[Abq,h,Ac2];by_cases hn:i=n
 ·subst hn;rw[List.eraseIdx_append_of_length_le Ad2,hl,Acr,if_pos (.inl rfl),Ac6 (l:=li.take i) Ad2];simp
 ·have:(li.take i++[y]).eraseIdx n=(li.take i).eraseIdx n++[y]:=by
   rcases Nat.lt_or_gt_of_ne hn with h'|h'
   ·rw[List.eraseIdx_append_of_length_le Ad2,Ac6 (l:=li.take i) Ad2,Ac6 (l:=[y]) (by simp;omega)]
   ·rw[List.eraseIdx_append_of_lt_length Ad2]
  rw[this,Adg];cases hy:y.out with
  |true=>rw[if_pos (.inr rfl)];simp[hy]
  |false=>rw[if_neg (by simp[hn])];simp[hy]
theorem kI {li:List RItem}{n i:Nat}{y:RItem}(h:y∈oth li n i):y∈li/\y.out=false:=by
 unfold oth at h;rw[Adi]at h;exact⟨List.mem_of_mem_take (Ada h.1),by simpa using h.2⟩
theorem fJ {t:Tx}(h:(Au t).1=0):∀x∈Cj t,H7 x=true:=by
 have hs:∀i,i<(Cj t).length->D4 (Cj t) i=false:=by
  unfold Au at h;split at h
  ·simp at h
  split at h
  ·simp at h
  unfold Ci at h;split at h
  ·simp at h
  split at h
  ·simp at h
  ·rename_i hk;exact Jk hk
 intro x hx;obtain⟨i,hi⟩:=List.getElem?_of_mem hx;have h1:=hs i (List.getElem?_eq_some_iff.1 hi).1;unfold D4 at h1;rw[hi]at h1;simpa using h1
theorem dL {p:Tx}(h:Gm p)(hl:p.length<=1000):Clean p:=⟨fun b hb=>by
 have:=h.2 b hb
 refine⟨?_,?_,?_⟩<;>(rintro rfl;revert this;decide),hl⟩
theorem iB {p:Tx}(h:Ia p)(hl:p.length<=1000):Clean p:=⟨fun b hb=>by
 have:=h.2 b hb
 refine⟨?_,?_,?_⟩<;>(rintro rfl;revert this;decide),hl⟩
theorem kW {a:RAtom}(h:C9 a)(hs:short a):clA a:=⟨dL h.1 hs.1,fun t ht=>iB (h.2.2.2 t ht) (hs.2.2 t ht),hs.2.1⟩
theorem iA {a p:Nat}(ha:a<=200)(hp:p<=5):dK 0 a p<=10000000000:=by
 have h1:∀p,dK 0 a p<=dK 0 200 p:=by
  intro p;induction p with
  |zero=>exact Abb _
  |succ p ih=>exact Nat.add_le_add_left (Nat.mul_le_mul ha ih) _
 refine Abc (h1 p) ?_;have:p=0\/p=1\/p=2\/p=3\/p=4\/p=5:=Ad2;rcases this with rfl|rfl|rfl|rfl|rfl|rfl<;>decide
structure Fine (x:RItem):Prop where
 w:Bv x
 sh:x.short
 va:∀a∈Ag x,VA a
 dt:∀a∈Ag x,∀w∈a.terms,DT w
 safe:H7 x=true
theorem R6 {t:Tx}(h:(Au t).1=0):∀x∈Cj t,Fine x:=by
 obtain⟨ab,l,r,hp⟩:=aW h;obtain⟨g1,g2,g3,g4⟩:=Je Ad2 hp;intro x hx;have aa:=hx;rw[g2]at hx;exact⟨g4 x hx,Pq Ad2 hp x hx,Ow 16 t l r hp x hx,Jf (T:=DT) bS 16 t l r hp x hx,fJ h x aa⟩
theorem Fine.cl {x:RItem}(h:Fine x)(ho:x.out=false):clI x:=
 ⟨ho,kW ((h.w.2.2 ho).1) h.sh.1,fun a ha=>kW ((h.w.2.2 ho).2.2.2 a ha) (h.sh.2 a ha)⟩
theorem Fine.rule {x:RItem}(h:Fine x)(ho:x.out=false):zR true 200 x:=by
 have hb:=(h.w.2.2 ho).2.2.1;refine⟨0,x.body.countP (Pos true),⟨h.cl ho,Ad2,fun v hv hm=>?_,rfl,.inr fun a _=>rfl⟩,fun a ha=>?_⟩
 ·rcases hm with hm|⟨a,-,hp,-⟩
  ·have hs:=h.safe;unfold H7 at hs;simp only[Adl,Acy]at hs;have h1:=hs x.head (by simp[Ag,ho]);unfold wK at h1;simp only[Bool.not_eq_true,Acy]at h1;have h2:sV x v=false:=by simpa using h1 v hm
   unfold sV at h2;rw[hv,Acp]at h2;have h3:Pe x v=true:=by simpa using h2
   unfold Pe at h3;simp only[Acb,Abj,Ady]at h3;obtain⟨a,ha,u,hu,-,rfl⟩:=h3;exact⟨a,ha,rfl,hu⟩
  ·cases hp
 ·have:=iA (a:=a) (p:=x.body.countP (Pos true)) ha (Abc List.countP_le_length hb);omega
def Wd (b:UInt8):Prop:=A5 b.toNat=true\/A3 b.toNat=true\/Ax b.toNat=true
theorem Aab {b:UInt8}(h:Wd b):b∉[33,40,41,44,45,46,58,63]:=fun hm=>by
 simp only[Ace,Acx,Adz]at hm;rcases hm with rfl|rfl|rfl|rfl|rfl|rfl|rfl|rfl<;>revert h<;>unfold Wd<;>decide
theorem uP {t:Tx}(h:Ia t){b:UInt8}(hb:b∈t):Wd b:=.inr (h.2 b hb)
theorem kO {t:Tx}(h:Gm t){b:UInt8}(hb:b∈t):Wd b:=.inl (h.2 b hb)
theorem eV {ts:List Tx}{b:UInt8}(h:b∈A8 ts):b=44\/∃t∈ts,b∈t:=by
 unfold A8 at h;obtain⟨t,ht,hb⟩:=Acj.1 h;rcases Ace.1 hb with rfl|hb
 ·exact .inl rfl
 ·exact .inr ⟨t,ht,hb⟩
theorem L9 {ts:List Tx}{b:UInt8}(h:b∈A2 ts):b=44\/∃t∈ts,b∈t:=by
 cases ts with
 |nil=>cases h
 |cons t ts=>
  rcases Ack.1 h with h|h
  ·exact .inr ⟨t,by simp,h⟩
  ·rcases eV h with h|⟨u,hu,hb⟩
   ·exact .inl h
   ·exact .inr ⟨u,by simp[hu],hb⟩
theorem U6 {a:RAtom}(h:C9 a){b:UInt8}(hb:b∈A9 a):Wd b\/b=40\/b=41\/b=44:=by
 unfold A9 at hb;rcases Ack.1 hb with hb|hb
 ·exact .inl (kO h.1 hb)
 ·rcases Ace.1 hb with rfl|hb
  ·exact .inr (.inl rfl)
  ·rcases Ack.1 hb with hb|hb
   ·rcases L9 hb with rfl|⟨t,ht,hb⟩
    ·exact .inr (.inr (.inr rfl))
    ·exact .inl (uP (h.2.2.2 t ht) hb)
   ·simp at hb;exact .inr (.inr (.inl hb))
theorem pE {a:RAtom}(h:C9 a){b:UInt8}(hb:b∈Bg a):Wd b\/b=33\/b=40\/b=41\/b=44:=by
 unfold Bg at hb;rcases Ack.1 hb with hb|hb
 ·split at hb
  ·simp at hb;exact .inr (.inl hb)
  ·cases hb
 ·rcases U6 h hb with h|h
  ·exact .inl h
  ·exact .inr (.inr h)
theorem lV {x:RItem}(h:Bv x){b:UInt8}(hb:b∈A0 x):Wd b\/b∈[33,40,41,44,45,58,63]:=by
 unfold A0 at hb;split at hb
 ·rcases Ace.1 hb with rfl|hb
  ·exact .inr (by decide)
  ·exact .inl (kO h.1 hb)
 ·rename_i ho;obtain⟨h1,h2,h3,h4⟩:=h.2.2 (by simpa using ho);unfold Cw at hb;rcases Ack.1 hb with hb|hb
  ·rcases U6 h1 hb with h|rfl|rfl|rfl
   ·exact .inl h
   all_goals exact .inr (by decide)
  ·split at hb
   ·cases hb
   ·rcases Ace.1 hb with rfl|hb
    ·exact .inr (by decide)
    ·rcases Ace.1 hb with rfl|hb
     ·exact .inr (by decide)
     ·rcases L9 hb with rfl|⟨t,ht,hb⟩
      ·exact .inr (by decide)
      ·obtain⟨a,ha,rfl⟩:=Acm.1 ht;rcases pE (h4 a ha) hb with h|rfl|rfl|rfl|rfl
       ·exact .inl h
       all_goals exact .inr (by decide)
theorem lX {x:RItem}(h:Bv x):46∉A0 x:=fun hb=>by
 rcases lV h hb with h|h
 ·exact Aab h (by decide)
 ·revert h;decide
def mN (x:List Tx×Tx)(c:UInt8):List Tx×Tx:=if c=46 then (x.1++[x.2++[c]],[])else (x.1,x.2++[c])
def Dn (t:Tx):List Tx:=if (t.foldl mN ([],[])).2=[]then (t.foldl mN ([],[])).1 else (t.foldl mN ([],[])).1++[(t.foldl mN ([],[])).2]
theorem qR:∀(t:Tx) (d:List Tx) (u:Tx),46∉t->t.foldl mN (d,u)=(d,u++t)
 |[],d,u,_=>by simp
 |c::t,d,u,h=>by
  have hc:c≠46:=fun e=>h (by simp[e]);have ht:46∉t:=fun e=>h (by simp[e]);rw[Abm,mN,if_neg hc,qR t _ _ ht];simp
theorem bN:∀(l:List RItem) (d:List Tx),(∀x∈l,46∉A0 x)->(Bl l).foldl mN (d,[])=(d++l.map (fun x=>A0 x++[46]),[])
 |[],d,_=>by simp[Bl]
 |x::l,d,h=>by
  have h1:=h x (by simp);have e:Bl (x::l)=A0 x++46::Bl l:=by simp[Bl]
  rw[e,Adh,qR _ _ _ h1,Abm];have e2:mN (d,[]++A0 x) 46=(d++[A0 x++[46]],[]):=by simp[mN]
  rw[e2,bN l _ fun y hy=>h y (by simp[hy])];simp
theorem Wa {l:List RItem}(h:∀x∈l,Bv x):Dn (Bl l)=l.map fun x=>A0 x++[46]:=by
 unfold Dn;rw[bN l [] fun x hx=>lX (h x hx)];simp
theorem Pn {c:UInt8}(h:A5 c.toNat=true):A3 c.toNat=false:=by
 simp only[A5,A3,Abj,Adx,Bool.and_eq_false_iff,decide_eq_false_iff_not]at h⊢;omega
end Go.Proofs.YtmoeoppbmhfbpabGreatDoorH
