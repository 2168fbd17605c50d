import Derived.Test.YtmoeoppbmhfbpabGreatDoorJEngQ
import Derived.Test.YtmoeoppbmhfbpabGreatDoorJAbsWp
import Derived.Test.YtmoeoppbmhfbpabGreatDoorJStrC
import Derived.Test.YtmoeoppbmhfbpabGreatDoorJPrtF
set_option maxHeartbeats 4000000
set_option maxRecDepth 100000
set_option linter.all false
namespace Go.Proofs.YtmoeoppbmhfbpabGreatDoorJ
open Go.Abs
abbrev Nu:=Int->Int
def Iq (ν:Nu)(t:Tm):Int:=if t.1=true then ν t.2 else t.2
def Bg (a:C6)(ν:Nu):Bc:=Es (a.ts.map (Iq ν))
def Ll (ν:Nu)(v n:Int):Nu:=fun w=>if w=v then n else ν w
theorem hasV_iff {ts:List Tm}{v:Int}:A5 ts v=true↔(true,v)∈ts:=by simp[A5]
theorem Eg {a:C6}{ν ν':Nu}(h:∀v,A5 a.ts v=true->ν v=ν' v):Bg a ν=Bg a ν':=by
 unfold Bg;congr 1;apply Acu;intro t ht;unfold Iq;split
 ·rename_i h1;exact h t.2 (hasV_iff.2 (by obtain⟨x,y⟩:=t;simp at h1;subst h1;exact ht))
 ·rfl
theorem Ix {l:List Int}{i:Nat}(h:i<l.length)(h3:l.length<=3):(Es l)[i]?=some l[i]:=by
 match l,h3 with
 |[],_=>simp at h
 |[a],_=>simp at h;subst h;rfl
 |[a,b],_=>
  rcases (show i=0\/i=1 by simp at h;omega)with rfl|rfl<;>rfl
 |[a,b,c],_=>
  rcases (show i=0\/i=1\/i=2 by simp at h;omega)with rfl|rfl|rfl<;>rfl
theorem Ie {a:C6}{ν:Nu}{v:Int}(h3:a.ts.length<=3)(hv:A5 a.ts v=true):G9 (Bg a ν) (H3 a.ts v)=ν v:=by
 have hm:=hasV_iff.1 hv;have hi:=Ado.2 hm;unfold G9 H3;rw[if_pos hm,Adu,Bg,Ix (by simpa using hi) (by simpa using h3)];simp[Iq]
theorem Jk (a:C6)(v n:Int)(ν:Nu):Bg (Ew v n a) ν=Bg a (Ll ν v n):=by
 unfold Bg Ew Ba;congr 1;rw[Aby];apply Acu;intro t ht;obtain⟨b,w⟩:=t;show Iq ν (Um v n (b,w))=Iq (Ll ν v n) (b,w);by_cases h:(b,w)=(true,v)
 ·cases h;simp[Um,Iq,Ll]
 ·rw[show Um v n (b,w)=(b,w)from if_neg h];cases b with
  |false=>simp[Iq]
  |true=>
   have:w≠v:=fun e=>h (by rw[e]);simp[Iq,Ll,this]
theorem hasV_put {a:C6}{v n w:Int}:A5 (Ew v n a).ts w=true↔A5 a.ts w=true/\w≠v:=by
 rw[hasV_iff,hasV_iff];unfold Ew Ba;rw[Acs];constructor
 ·rintro⟨t,ht,e⟩;unfold Um at e;split at e
  ·cases e
  ·rename_i aa;subst e;exact⟨ht,fun e=>aa (by rw[e])⟩
 ·rintro⟨h,aa⟩;refine⟨(true,w),h,?_⟩;unfold Um;rw[if_neg (fun e=>aa (by cases e;rfl))]
def Ka (neg:Int->Bc->Prop)(q:Qry)(ν:Nu):Prop:=(∀p∈q.parts,Bg p.a ν∈p.tups)/\∀a∈q.nots,¬neg a.p (Bg a ν)
def WP (q:Qry):Prop:=∀p∈q.parts,p.a.ts.length<=3/\∀t∈p.tups,∃μ,t=Bg p.a μ
theorem Qm {neg:Int->Bc->Prop}{q:Qry}{v n:Int}{ν:Nu}(hW:WP q):Ka neg (Cq v n q) ν↔Ka neg q (Ll ν v n):=by
 have hp:∀p∈q.parts,(Bg (Ha v n p).a ν∈(Ha v n p).tups↔Bg p.a (Ll ν v n)∈p.tups):=fun p hp=>by
  unfold Ha;by_cases hv:A5 p.a.ts v=true
  ·rw[if_pos hv];show Bg (Ew v n p.a) ν∈_↔_;rw[Jk,Adj];constructor
   ·exact fun h=>h.1
   ·intro h;refine⟨h,?_⟩;rw[Ie (hW p hp).1 hv];simp[Ll]
  ·rw[if_neg hv]
   rw[Eg (ν:=ν) (ν':=Ll ν v n) (fun w hw=>by
    unfold Ll;rw[if_neg];rintro rfl
    exact hv hw)]
 unfold Ka Cq;simp only[Acs,forall_exists_index,and_imp,forall_apply_eq_imp_iff₂];constructor
 ·rintro⟨h1,h2⟩;exact⟨fun p aa=>(hp p aa).1 (h1 p aa),fun a ha=>by have:=h2 a ha;rwa[Jk]at this⟩
 ·rintro⟨h1,h2⟩;exact⟨fun p aa=>(hp p aa).2 (h1 p aa),fun a ha=>by rw[Jk];exact h2 a ha⟩
theorem xW {q:Qry}{v n:Int}(hW:WP q):WP (Cq v n q):=by
 intro p hp;obtain⟨p0,h0,rfl⟩:=Acs.1 hp;obtain⟨h1,h2⟩:=hW p0 h0;unfold Ha;by_cases hv:A5 p0.a.ts v=true
 ·rw[if_pos hv];refine⟨by simp[Ba];exact h1,fun t ht=>?_⟩;obtain⟨ht,he⟩:=Adj.1 ht;obtain⟨μ,rfl⟩:=h2 t ht;refine⟨μ,?_⟩;show _=Bg (Ew v n p0.a) μ;rw[Jk];apply Eg;intro w hw;unfold Ll;by_cases e:w=v
  ·subst e;rw[if_pos rfl];rw[Ie h1 hv]at he;simpa using he
  ·rw[if_neg e]
 ·rw[if_neg hv];exact⟨h1,h2⟩
theorem uC {neg:Int->Bc->Prop}{q:Qry}{v:Int}{ν:Nu}(hW:WP q):Ka neg (Eu q v) ν↔Ka neg q ν:=by
 unfold Ka Eu;simp only[Acs,forall_exists_index,and_imp,forall_apply_eq_imp_iff₂];constructor
 ·rintro⟨h1,h2⟩;exact⟨fun p hp=>by have:=h1 p hp;rw[Ot]at this;exact Nc _ _ _ _ this,h2⟩
 ·rintro⟨h1,h2⟩;refine⟨fun p hp=>?_,h2⟩;rw[Ot];unfold Fj;by_cases hv:A5 p.a.ts v=true
  ·rw[if_pos hv,Adj];refine⟨h1 p hp,?_⟩;rw[Ie (hW p hp).1 hv];unfold Dd;rw[Abl];intro p' ab;by_cases aa:A5 p'.a.ts v=true
   ·simp only[aa,Acd,Bool.false_or,occ,Acg];exact⟨_,h1 p' ab,by rw[Ie (hW p' ab).1 aa];simp⟩
   ·simp[aa]
  ·rw[if_neg hv];exact h1 p hp
theorem xX {q:Qry}{v:Int}(hW:WP q):WP (Eu q v):=by
 intro p hp;obtain⟨p0,h0,rfl⟩:=Acs.1 hp;rw[Ot];exact⟨(hW p0 h0).1,fun t ht=>(hW p0 h0).2 t (Nc _ _ _ t ht)⟩
theorem NarS.wp {q q':Qry}(h:NarS q q')(hW:WP q):WP q':=by
 induction h with
 |refl=>exact hW
 |tail v _ ih=>exact xX ih
theorem NarS.sol {neg:Int->Bc->Prop}{q q':Qry}(h:NarS q q')(hW:WP q)(ν:Nu):Ka neg q' ν↔Ka neg q ν:=by
 induction h with
 |refl=>exact Iff.rfl
 |tail v h ih=>exact (uC (h.wp hW)).trans ih
theorem bY (q:Qry)(v:Int):(Eu q v).parts.map (·.a)=q.parts.map (·.a):=by
 unfold Eu;simp only[Aby];apply Acu;intro p _;exact Ot _ _ _
theorem NarS.atoms {q q':Qry}(h:NarS q q'):q'.parts.map (·.a)=q.parts.map (·.a)/\q'.head=q.head/\q'.nots=q.nots:=by
 induction h with
 |refl=>exact⟨rfl,rfl,rfl⟩
 |tail v _ ih=>exact⟨(bY _ _).trans ih.1,ih.2.1,ih.2.2⟩
theorem NarS.atomsQ {q q':Qry}(h:NarS q q'):atomsQ q'=atomsQ q:=by
 obtain⟨h1,h2,h3⟩:=h.atoms;unfold Go.Proofs.YtmoeoppbmhfbpabGreatDoorJ.atomsQ;rw[h1,h2,h3]
def Nrw (q:Qry):Prop:=∀v,∀p1∈q.parts,∀p2∈q.parts,A5 p1.a.ts v=true->A5 p2.a.ts v=true->∀t∈p1.tups,∃u∈p2.tups,G9 u (H3 p2.a.ts v)=G9 t (H3 p1.a.ts v)
theorem Rx (p:Part)(l:List Part):Ch (p::l)=p.tups.length+Ch l:=by simp[Ch]
theorem Po (L:List Part)(v:Int):∀l:List Part,Ch (l.map (Fj L v))<=Ch l/\(Ch l<=Ch (l.map (Fj L v))->l.map (Fj L v)=l)
 |[]=>by simp[Ch]
 |p::l=>by
  obtain⟨h1,h2⟩:=Po L v l;have h3:=bX L v p;rw[Ab1,Rx,Rx];refine⟨Ad6,fun h=>?_⟩;rw[h2 Ad6];congr 1;have h4:p.tups.length<=(Fj L v p).tups.length:=Ad6;unfold Fj at h4⊢;split
  ·rename_i hv;rw[if_pos hv]at h4;simp only at h4
   have:=List.filter_eq_self.2 (fun a ha=>by
    have:=List.length_filter_eq_length_iff.1 (Nat.le_antisymm (Adi _ _) h4)
    exact this a ha)
   rw[this]
  ·rfl
theorem mK (q:Qry)(v:Int):Ch (Of q v).parts<=Ch q.parts/\(Ch q.parts<=Ch (Of q v).parts->Of q v=q):=by
 unfold Of;split
 ·obtain⟨h1,h2⟩:=Po q.parts v q.parts;refine⟨h1,fun h=>?_⟩;unfold Eu;rw[h2 h]
 ·exact⟨Abf _,fun _=>rfl⟩
theorem aR:∀(vs:List Int) (q:Qry),Ch (eJ q vs).parts<=Ch q.parts/\(Ch q.parts<=Ch (eJ q vs).parts->eJ q vs=q/\∀v∈vs,Of q v=q)
 |[],q=>⟨Abf _,fun _=>⟨rfl,by simp⟩⟩
 |v::vs,q=>by
  obtain⟨h1,h2⟩:=mK q v;obtain⟨h3,h4⟩:=aR vs (Of q v);have e:eJ q (v::vs)=eJ (Of q v) vs:=rfl;rw[e];refine⟨Ad6,fun h=>?_⟩;have e2:=h2 Ad6;rw[e2]at h4⊢;obtain⟨g1,g2⟩:=h4 (by rw[e2]at h;omega);refine⟨g1,fun w hw=>?_⟩;rcases Aci.1 hw with rfl|hw
  ·exact e2
  ·exact g2 w hw
theorem Ky {l:List C6}{v:Int}{a:C6}(ha:a∈l)(hv:A5 a.ts v=true):0<Cv l v:=List.countP_pos_iff.2 ⟨a,ha,hv⟩
theorem Wt {α:Type}{f:α->Bool}:∀{l:List α} {x y:α},l.countP f<=1->x∈l->y∈l->f x=true->f y=true->x=y
 |[],x,y,_,hx,_,_,_=>by cases hx
 |z::l,x,y,h,hx,hy,fx,fy=>by
  rw[List.countP_cons]at h;rcases Aci.1 hx with e1|ab
  ·rcases Aci.1 hy with e2|aa
   ·rw[e1,e2]
   ·rw[<-e1,if_pos fx]at h;have:0<l.countP f:=List.countP_pos_iff.2 ⟨y,aa,fy⟩;omega
  ·rcases Aci.1 hy with e2|aa
   ·rw[<-e2,if_pos fy]at h;have:0<l.countP f:=List.countP_pos_iff.2 ⟨x,ab,fx⟩;omega
   ·exact Wt Ad6 ab aa fx fy
theorem yP {q:Qry}(h:∀v∈B7 (atomsQ q),Of q v=q):Nrw q:=by
 intro v p1 h1 p2 h2 aa ac t ht;by_cases hc:1<Cv (q.parts.map (·.a)) v
 ·have ae:v∈B7 (atomsQ q):=(Cr _ _).2 ⟨p1.a,by unfold Go.Proofs.YtmoeoppbmhfbpabGreatDoorJ.atomsQ;simp;right;left;exact⟨p1,h1,rfl⟩,hasV_iff.1 aa⟩;have hr:=h v ae;unfold Of at hr;rw[if_pos hc]at hr;have hm:q.parts.map (Fj q.parts v)=q.parts:=congrArg Qry.parts hr;have hp:Fj q.parts v p1=p1:=by
   obtain⟨i,hi⟩:=List.getElem?_of_mem h1;have:(q.parts.map (Fj q.parts v))[i]?=some (Fj q.parts v p1):=by simp[hi]
   rw[hm,hi]at this;exact (Ads this).symm
  have ab:t∈(Fj q.parts v p1).tups:=by rw[hp];exact ht
  unfold Fj at ab;rw[if_pos aa]at ab;have:=(Adj.1 ab).2;unfold Dd at this;rw[Abl]at this;have:=this p2 h2;simp only[ac,Acd,Bool.false_or,occ,Acg]at this;obtain⟨u,hu,e⟩:=this;exact⟨u,hu,by simpa using e⟩
 ·have ad:(q.parts.map (·.a)).countP (fun a=>A5 a.ts v)<=1:=by unfold Cv at hc;omega
  rw[List.countP_map]at ad;have:=Wt ad h1 h2 aa ac;subst this;exact⟨t,ht,rfl⟩
def inQ (q:Qry)(v:Int):Prop:=∃a∈atomsQ q,A5 a.ts v=true
def NE (q:Qry):Prop:=∀p∈q.parts,p.tups≠[]
def eE (q:Qry):Prop:=∀v,(A5 q.head.ts v=true\/∃a∈q.nots,A5 a.ts v=true)->∃p∈q.parts,A5 p.a.ts v=true
structure Red (neg:Int->Bc->Prop)(q q':Qry):Prop where
 hd:q'.head=q.head
 at_:∀a∈atomsQ q',a∈atomsQ q
 to:∀ν,Ka neg q ν->Ka neg q' ν
 back:∀ν,Ka neg q' ν->∃ν',Ka neg q ν'/\∀v,inQ q' v->ν' v=ν v
theorem Red.refl (neg:Int->Bc->Prop)(q:Qry):Red neg q q:=⟨rfl,fun _ h=>h,fun _ h=>h,fun ν h=>⟨ν,h,fun _ _=>rfl⟩⟩
theorem inQ.sub {q q':Qry}{v:Int}(h:∀a∈atomsQ q',a∈atomsQ q)(hv:inQ q' v):inQ q v:=by
 obtain⟨a,ha,e⟩:=hv;exact⟨a,h a ha,e⟩
theorem Red.trans {neg:Int->Bc->Prop}{q q1 q2:Qry}(h:Red neg q q1)(g:Red neg q1 q2):Red neg q q2 where
 hd:=g.hd.trans h.hd
 at_:=fun a ha=>h.at_ a (g.at_ a ha)
 to:=fun ν hν=>g.to ν (h.to ν hν)
 back:=fun ν hν=>by
  obtain⟨ν1,h1,e1⟩:=g.back ν hν;obtain⟨ν2,h2,e2⟩:=h.back ν1 h1;exact⟨ν2,h2,fun v hv=>(e2 v (hv.sub g.at_)).trans (e1 v hv)⟩
theorem Jm {q:Qry}{p:Part}(h:p∈q.parts):p.a∈atomsQ q:=by
 unfold atomsQ;simp;right;left;exact⟨p,h,rfl⟩
theorem NarS.red {neg:Int->Bc->Prop}{q q':Qry}(h:NarS q q')(hW:WP q):Red neg q q':=
 ⟨h.atoms.2.1,fun a ha=>by rw[h.atomsQ]at ha;exact ha,fun ν hν=>(h.sol hW ν).2 hν,fun ν hν=>⟨ν,(h.sol hW ν).1 hν,fun _ _=>rfl⟩⟩
theorem L4 {q:Qry}:∀{vs:List Int} {n:Nat},Jd q n vs=true->(∀v∈vs,Cs q v=true->n=0/\Cv (q.parts.map (·.a)) v≠1)/\∀v∈vs,∀w∈vs,Cs q v=true->Cs q w=true->v=w
 |[],n,_=>⟨(fun v hv=>by cases hv),(fun v hv=>by cases hv)⟩
 |u::vs,n,h=>by
  unfold Jd at h;by_cases hl:Cs q u=true
  ·rw[if_pos hl]at h;split at h
   ·cases h
   ·rename_i hc;obtain⟨h1,h2⟩:=L4 h;have ac:∀v∈vs,¬Cs q v=true:=fun v hv aa=>by
     have:=(h1 v hv aa).1;omega
    refine⟨fun v hv aa=>?_,fun v hv w hw aa ab=>?_⟩
    ·rcases Aci.1 hv with rfl|hv
     ·exact⟨Ad6,fun e=>hc (.inr e)⟩
     ·exact absurd aa (ac v hv)
    ·rcases Aci.1 hv with e1|hv
     ·rcases Aci.1 hw with e2|hw
      ·rw[e1,e2]
      ·exact absurd ab (ac w hw)
     ·exact absurd aa (ac v hv)
  ·rw[if_neg hl]at h;obtain⟨h1,h2⟩:=L4 h;refine⟨fun v hv aa=>?_,fun v hv w hw aa ab=>?_⟩
   ·rcases Aci.1 hv with rfl|hv
    ·exact absurd aa hl
    ·exact h1 v hv aa
   ·rcases Aci.1 hv with rfl|hv
    ·exact absurd aa hl
    ·rcases Aci.1 hw with rfl|hw
     ·exact absurd ab hl
     ·exact h2 v hv w hw aa ab
theorem D8 (l m:List C6)(v:Int):Cv (l++m) v=Cv l v+Cv m v:=List.countP_append
theorem Gi (a:C6)(l:List C6)(v:Int):Cv (a::l) v=Cv l v+if A5 a.ts v=true then 1 else 0:=List.countP_cons
theorem mA {neg:Int->Bc->Prop}{q:Qry}(hW:WP q)(a5:NE q)(a4:Nrw q):Red neg q (Ej q)/\(∀p∈(Ej q).parts,p∈q.parts)/\(eE q->eE (Ej q)):=by
 rcases List.exists_or_eq_self_of_eraseP (fun p=>idleB q p.a) q.parts with e|⟨p,l1,l2,-,hp,e1,e2⟩
 ·have:Ej q=q:=by unfold Ej;rw[e]
  rw[this];exact⟨Red.refl _ _,fun p hp=>hp,fun h=>h⟩
 ·have hT:(Ej q).parts=l1++l2:=e2;have aa:∀p'∈(Ej q).parts,p'∈q.parts:=fun p' ab=>by
   rw[hT]at ab;rw[e1];rcases Aco.1 ab with h|h
   ·exact Aco.2 (.inl h)
   ·exact Aco.2 (.inr (Aci.2 (.inr h)))
  have an:p∈q.parts:=by rw[e1];simp
  obtain⟨g1,g2⟩:=L4 (vs:=B7 [p.a]) (n:=0) hp;have au:∀v,A5 p.a.ts v=true->v∈B7 [p.a]:=fun v hv=>(Cr _ _).2 ⟨p.a,by simp,hasV_iff.1 hv⟩;have aw:∀v,Cv (atomsQ q) v=(if A5 q.head.ts v=true then 1 else 0)+Cv ((l1++l2).map (·.a)) v+(if A5 p.a.ts v=true then 1 else 0)+Cv q.nots v:=fun v=>by
   unfold atomsQ;rw[Gi,D8,e1,Abx,Ab1,D8,Gi,Abx,D8];omega
  have ap:∀v,Cv (q.parts.map (·.a)) v=Cv ((l1++l2).map (·.a)) v+if A5 p.a.ts v=true then 1 else 0:=fun v=>by
   rw[e1,Abx,Ab1,D8,Gi,Abx,D8];omega
  --a variable of the part that stands elsewhere is linked
  have am:∀v,A5 p.a.ts v=true->(A5 q.head.ts v=true\/(∃p'∈l1++l2,A5 p'.a.ts v=true)\/∃a∈q.nots,A5 a.ts v=true)->Cs q v=true:=fun v hv h=>by
   unfold Cs;rw[aw v,if_pos hv];rcases h with h|⟨p',h1,h2⟩|⟨a,h1,h2⟩
   ·rw[if_pos h,Ad3];omega
   ·have:=Ky (l:=(l1++l2).map (·.a)) (Acs.2 ⟨p',h1,rfl⟩) h2;rw[Ad3];omega
   ·have:=Ky h1 h2;rw[Ad3];omega
  have ac:∀v,A5 p.a.ts v=true->Cs q v=true->∃p'∈l1++l2,A5 p'.a.ts v=true:=fun v hv hl=>by
   have:=(g1 v (au v hv) hl).2;rw[ap v,if_pos hv]at this;have h0:0<Cv ((l1++l2).map (·.a)) v:=Ad6;obtain⟨a,ha,aj⟩:=List.countP_pos_iff.1 h0;obtain⟨p',ab,rfl⟩:=Acs.1 ha;exact⟨p',ab,aj⟩
  have ak:∀a∈atomsQ (Ej q),a∈atomsQ q:=fun a ha=>by
   unfold atomsQ at ha⊢;simp only[Aci,Aco,Acs]at ha⊢;rcases ha with h|⟨p',h1,rfl⟩|h
   ·exact .inl h
   ·exact .inr (.inl ⟨p',aa p' h1,rfl⟩)
   ·exact .inr (.inr h)
  refine⟨⟨rfl,ak,fun ν h=>⟨fun p' ab=>h.1 p' (aa p' ab),h.2⟩,fun ν h=>?_⟩,aa,fun az v hv=>?_⟩
  · --a tuple of the part that agrees with the rest
   have ao:∃μ,Bg p.a μ∈p.tups/\∀v,A5 p.a.ts v=true->Cs q v=true->μ v=ν v:=by
    by_cases hex:∃v,A5 p.a.ts v=true/\Cs q v=true
    ·obtain⟨v,hv,hl⟩:=hex;obtain⟨p',ab,ax⟩:=ac v hv hl;have ai:p'∈(Ej q).parts:=by rw[hT];exact ab
     have a0:=h.1 p' ai;obtain⟨u,hu,he⟩:=a4 v p' (aa p' ai) p an ax hv _ a0;rw[Ie (hW p' (aa p' ai)).1 ax]at he;obtain⟨μ,rfl⟩:=(hW p an).2 u hu;rw[Ie (hW p an).1 hv]at he;refine⟨μ,hu,fun w hw av=>?_⟩;have:=g2 w (au w hw) v (au v hv) av hl;rw[this];exact he
    ·have a3:=a5 p an;obtain⟨t,ht⟩:=List.exists_mem_of_ne_nil _ a3;obtain⟨μ,rfl⟩:=(hW p an).2 t ht;exact⟨μ,ht,fun w hw av=>absurd ⟨w,hw,av⟩ hex⟩
   obtain⟨μ,hμ,ay⟩:=ao;let ν':Nu:=fun v=>if A5 p.a.ts v=true then μ v else ν v;have ah:∀a:C6,(∀v,A5 a.ts v=true->A5 p.a.ts v=true->Cs q v=true)->Bg a ν'=Bg a ν:=fun a ha=>Eg fun v hv=>by
    show (if A5 p.a.ts v=true then μ v else ν v)=ν v;by_cases h:A5 p.a.ts v=true
    ·rw[if_pos h];exact ay v h (ha v hv h)
    ·rw[if_neg h]
   refine⟨ν',⟨fun p' ab=>?_,fun a ha=>?_⟩,fun v hv=>?_⟩
   ·rw[e1]at ab;have ad:p'=p\/p'∈l1++l2:=by
     rcases Aco.1 ab with h|h
     ·exact .inr (Aco.2 (.inl h))
     ·rcases Aci.1 h with h|h
      ·exact .inl h
      ·exact .inr (Aco.2 (.inr h))
    rcases ad with rfl|af
    ·rw[Eg (ν':=μ) (fun v hv=>by show (if A5 _ v=true then μ v else ν v)=μ v;rw[if_pos hv])];exact hμ
    ·rw[ah p'.a (fun v hv ae=>am v ae (.inr (.inl ⟨p',af,hv⟩)))];exact h.1 p' (by rw[hT];exact af)
   ·rw[ah a (fun v hv ae=>am v ae (.inr (.inr ⟨a,ha,hv⟩)))];exact h.2 a ha
   ·show (if A5 p.a.ts v=true then μ v else ν v)=ν v;by_cases ae:A5 p.a.ts v=true
    ·rw[if_pos ae];apply ay v ae;obtain⟨a,ha,aj⟩:=hv;unfold atomsQ at ha;simp only[Aci,Aco,Acs]at ha;rcases ha with rfl|⟨p',h1,rfl⟩|h1
     ·exact am v ae (.inl aj)
     ·exact am v ae (.inr (.inl ⟨p',by rw[hT]at h1;exact h1,aj⟩))
     ·exact am v ae (.inr (.inr ⟨a,h1,aj⟩))
    ·rw[if_neg ae]
  ·obtain⟨p',h1,h2⟩:=az v hv;rw[e1]at h1;have ad:p'=p\/p'∈l1++l2:=by
    rcases Aco.1 h1 with h|h
    ·exact .inr (Aco.2 (.inl h))
    ·rcases Aci.1 h with h|h
     ·exact .inl h
     ·exact .inr (Aco.2 (.inr h))
   rcases ad with rfl|af
   ·have hl:Cs q v=true:=am v h2 (by
     rcases hv with h|⟨a,ha,aj⟩
     ·exact .inl h
     ·exact .inr (.inr ⟨a,ha,aj⟩))
    obtain⟨p2,h3,h4⟩:=ac v h2 hl;exact⟨p2,by rw[hT];exact h3,h4⟩
   ·exact⟨p',by rw[hT];exact af,h2⟩
theorem TrimR.red {neg:Int->Bc->Prop}{q q':Qry}(h:TrimR q q')(hW:WP q)(ab:NE q)(aa:Nrw q):Red neg q q'/\(∀p∈q'.parts,p∈q.parts)/\(eE q->eE q'):=by
 induction h with
 |refl=>exact⟨Red.refl _ _,fun p hp=>hp,fun h=>h⟩
 |tail h ih=>
  obtain⟨i1,i2,i3⟩:=ih;obtain⟨g1,g2,g3⟩:=mA (neg:=neg) (fun p hp=>hW p (i2 p hp)) (fun p hp=>ab p (i2 p hp)) (fun v p1 h1 p2 h2=>aa v p1 (i2 p1 h1) p2 (i2 p2 h2));exact⟨i1.trans g1,fun p hp=>i2 p (g2 p hp),fun h=>g3 (i3 h)⟩
theorem Vy {neg:Int->Bc->Prop}{q:Qry}{rs:List Int}(hC:Ei (atomsQ q) rs rs){ν1 ν2:Nu}(h1:Ka neg (A2 q rs) ν1)(h2:Ka neg (G1 q rs) ν2):Ka neg q (fun v=>if v∈rs then ν1 v else ν2 v):=by
 have ab:∀a∈atomsQ q,Ia rs a=true->Bg a (fun v=>if v∈rs then ν1 v else ν2 v)=Bg a ν1:=fun a ha aa=>Eg fun v hv=>if_pos (hC a ha aa v (hasV_iff.1 hv));have ac:∀a:C6,Ia rs a=false->Bg a (fun v=>if v∈rs then ν1 v else ν2 v)=Bg a ν2:=fun a aa=>Eg fun v hv=>if_neg fun hm=>by
  unfold Ia at aa;rw[Ac1]at aa;exact aa v hm hv
 refine⟨fun p hp=>?_,fun a ha=>?_⟩
 ·cases aa:Ia rs p.a with
  |true=>rw[ab p.a (Jm hp) aa];exact h1.1 p (Adj.2 ⟨hp,aa⟩)
  |false=>rw[ac p.a aa];exact h2.1 p (Adj.2 ⟨hp,by simp[aa]⟩)
 ·cases aa:Ia rs a with
  |true=>rw[ab a (by unfold atomsQ;simp[ha]) aa];exact h1.2 a (Adj.2 ⟨ha,aa⟩)
  |false=>rw[ac a aa];exact h2.2 a (Adj.2 ⟨ha,by simp[aa]⟩)
theorem aK {neg:Int->Bc->Prop}{q:Qry}{rs:List Int}{ν:Nu}(h:Ka neg q ν):Ka neg (A2 q rs) ν:=
 ⟨fun p hp=>h.1 p (Adj.1 hp).1,fun a ha=>h.2 a (Adj.1 ha).1⟩
theorem kD {neg:Int->Bc->Prop}{q:Qry}{rs:List Int}{ν:Nu}(h:Ka neg q ν):Ka neg (G1 q rs) ν:=
 ⟨fun p hp=>h.1 p (Adj.1 hp).1,fun a ha=>h.2 a (Adj.1 ha).1⟩
theorem iZ {neg:Int->Bc->Prop}{q:Qry}{v:Int}{ν:Nu}(hW:WP q)(h:Ka neg q ν)(hp:∃p∈q.parts,A5 p.a.ts v=true):ν v∈J4 q v:=by
 unfold J4;cases hf:q.parts.find? (fun p=>A5 p.a.ts v)with
 |none=>
  obtain⟨p,h1,h2⟩:=hp;rw[List.find?_eq_none]at hf;exact absurd h2 (hf p h1)
 |some p=>
  have h1:=List.mem_of_find?_eq_some hf;have h2:A5 p.a.ts v=true:=by simpa using List.find?_some hf
  simp only;unfold Uj;rw[Q3];exact .inr ⟨_,h.1 p h1,Ie (hW p h1).1 h2⟩
theorem bZ:∀{l:List Part},(∀p∈l,p.tups≠[]/\∀t∈p.tups,∃μ,t=Bg p.a μ)->(∀v,Cv (l.map (·.a)) v<=1)->∃ν:Nu,∀p∈l,Bg p.a ν∈p.tups
 |[],_,_=>⟨fun _=>0,fun p hp=>by cases hp⟩
 |p::l,h,hc=>by
  obtain⟨ν,hν⟩:=bZ (l:=l) (fun p' aa=>h p' (by simp[aa])) (fun v=>by
   have:=hc v;rw[Ab1,Gi]at this
   omega)
  obtain⟨ac,hμ⟩:=h p (by simp);obtain⟨t,ht⟩:=List.exists_mem_of_ne_nil _ ac;obtain⟨μ,rfl⟩:=hμ t ht;refine⟨fun v=>if A5 p.a.ts v=true then μ v else ν v,fun p' aa=>?_⟩;rcases Aci.1 aa with rfl|aa
  ·rw[Eg (ν':=μ) (fun v hv=>if_pos hv)];exact ht
  ·rw[Eg (ν':=ν) (fun v hv=>if_neg (fun ab=>by
    have:=hc v;rw[Ab1,Gi,if_pos ab]at this;have:=Ky (l:=l.map (·.a)) (Acs.2 ⟨p',aa,rfl⟩) hv
    omega))]
   exact hν p' aa
end Go.Proofs.YtmoeoppbmhfbpabGreatDoorJ
namespace Go.Abs
section
variable {P:Program} {n:Nat} {Q:Gk} {F:Nat->Prop} {A:Nat->Bool} {σ0:St} {all:List Oper}
theorem U1 {listed:Array Bool}{s:Sl}{D:St}(ts:List Nat)(m k:Nat)(L:Array Bool)(ab:k=ts.length+m)(hs:Region.noSelect all.toArray=true)(hB:zK all A L ts listed=true)(hp:∀c s D,¬Q (.panic c) s D)(aa:σ0.nobj<=D.nobj)(hk:∀o,o<σ0.nobj->F o->D.ver o=σ0.ver o)
  (h:∀K:Sl->Prop,Aec (∀s',O5 P n all Q F A D m L s' D->K s')->aT P n all F D K ts s):O5 P n all Q F A σ0 k listed s D:=by
 subst ab;exact jD aa hk (Xx hs hp m L ts listed s hB (h _ fun _ h=>h))
end
end Go.Abs
namespace Go.Proofs.YtmoeoppbmhfbpabGreatDoorJ
open Go.Abs
def zL (fz:Bool)(a:Ai):Bool:=fz||!a.nt
def Abc (fz:Bool)(x:RItem):Prop:=∀v,Al v=true->(v∈x.head.terms\/∃a∈x.body,zL fz a=false/\v∈a.terms)->∃a∈x.body,zL fz a=true/\v∈a.terms
def Clean (t:Tx):Prop:=(∀b∈t,b≠(33:UInt8)/\b≠44/\b≠46)/\t.length<=1000
def clA (a:Ai):Prop:=Clean a.pred/\(∀t∈a.terms,Clean t)/\a.terms.length<=1000
def clI (x:RItem):Prop:=x.out=false/\clA x.head/\∀a∈x.body,clA a
def dJ (c0 a:Nat):Nat->Nat
 |0=>c0
 |p+1=>1+a*dJ c0 a p
structure zI (fz:Bool)(c0 p:Nat)(x:RItem):Prop where
 cl:clI x
 len:x.body.length<=1000
 saf:Abc fz x
 cnt:x.body.countP (zL fz)=p
 neg:c0=1\/∀a∈x.body,zL fz a=true
def zF (fz:Bool)(limit:Nat)(x:RItem):Prop:=∃c0 p,zI fz c0 p x/\∀a,a<=limit->dJ c0 a p+2002<=1000000000000
def oth (li:List RItem)(n i:Nat):List RItem:=((li.take i).eraseIdx n).filter fun y=>!y.out
theorem fJ {t:Tx}(h:(Ax t).1=0):∀x∈C2 t,Iz x=true:=by
 have hs:∀i,i<(C2 t).length->Ds (C2 t) i=false:=by
  unfold Ax at h;split at h
  ·simp at h
  split at h
  ·simp at h
  unfold Ct at h;split at h
  ·simp at h
  split at h
  ·simp at h
  ·rename_i hk;exact L8 hk
 intro x hx;obtain⟨i,hi⟩:=List.getElem?_of_mem hx;have h1:=hs i (List.getElem?_eq_some_iff.1 hi).1;unfold Ds at h1;rw[hi]at h1;simpa using h1
theorem dK {p:Tx}(h:J3 p)(hl:p.length<=1000):Clean p:=⟨fun b hb=>by
 have:=h.2 b hb
 refine⟨?_,?_,?_⟩<;>(rintro rfl;revert this;decide),hl⟩
theorem iF {p:Tx}(h:Py p)(hl:p.length<=1000):Clean p:=⟨fun b hb=>by
 have:=h.2 b hb
 refine⟨?_,?_,?_⟩<;>(rintro rfl;revert this;decide),hl⟩
theorem kZ {a:Ai}(h:Ea a)(hs:short a):clA a:=⟨dK h.1 hs.1,fun t ht=>iF (h.2.2.2 t ht) (hs.2.2 t ht),hs.2.1⟩
theorem iD {a p:Nat}(ha:a<=200)(hp:p<=5):dJ 0 a p<=10000000000:=by
 have h1:∀p,dJ 0 a p<=dJ 0 200 p:=by
  intro p;induction p with
  |zero=>exact Abf _
  |succ p ih=>exact Nat.add_le_add_left (Adv ha ih) _
 refine Abg (h1 p) ?_;have:p=0\/p=1\/p=2\/p=3\/p=4\/p=5:=Ad6;rcases this with rfl|rfl|rfl|rfl|rfl|rfl<;>decide
structure Fine (x:RItem):Prop where
 w:Dh x
 sh:x.short
 va:∀a∈Af x,VA a
 dt:∀a∈Af x,∀w∈a.terms,DT w
 safe:Iz x=true
theorem R1 {t:Tx}(h:(Ax t).1=0):∀x∈C2 t,Fine x:=by
 obtain⟨ab,l,r,hp⟩:=aS h;obtain⟨g1,g2,g3,g4⟩:=Hv Ad6 hp;intro x hx;have aa:=hx;rw[g2]at hx;exact⟨g4 x hx,Pk Ad6 hp x hx,On 16 t l r hp x hx,Hw (T:=DT) M9 16 t l r hp x hx,fJ h x aa⟩
theorem Fine.cl {x:RItem}(h:Fine x)(ho:x.out=false):clI x:=
 ⟨ho,kZ ((h.w.2.2 ho).1) h.sh.1,fun a ha=>kZ ((h.w.2.2 ho).2.2.2 a ha) (h.sh.2 a ha)⟩
theorem Fine.rule {x:RItem}(h:Fine x)(ho:x.out=false):zF true 200 x:=by
 have hb:=(h.w.2.2 ho).2.2.1;refine⟨0,x.body.countP (zL true),⟨h.cl ho,Ad6,fun v hv hm=>?_,rfl,.inr fun a _=>rfl⟩,fun a ha=>?_⟩
 ·rcases hm with hm|⟨a,-,hp,-⟩
  ·have hs:=h.safe;unfold Iz at hs;simp only[Adw,Ac1]at hs;have h1:=hs x.head (by simp[Af,ho]);unfold sN at h1;simp only[Bool.not_eq_true,Ac1]at h1;have h2:oD x v=false:=by simpa using h1 v hm
   unfold oD at h2;rw[hv,Acv]at h2;have h3:Kz x v=true:=by simpa using h2
   unfold Kz at h3;simp only[Acg,Abo,Ad4]at h3;obtain⟨a,ha,u,hu,-,rfl⟩:=h3;exact⟨a,ha,rfl,hu⟩
  ·cases hp
 ·have:=iD (a:=a) (p:=x.body.countP (zL true)) ha (Abg List.countP_le_length hb);omega
theorem lC {b c:UInt8}:((b.toNat:Int)==(c.toNat:Int))=decide (b=c):=by
 by_cases h:b=c
 ·subst h;simp
 ·rw[decide_eq_false h];have:b.toNat≠c.toNat:=fun e=>h (UInt8.toNat_inj.1 e);simpa using (by omega:¬(b.toNat:Int)=c.toNat)
theorem Ij (t:Tx)(c:UInt8)(ht:t.length<=100000)(D:St):ACalls Tryz.prog 28 [str t,sc (.int .u8 c.toNat)] D fun r D'=>r=sc (.int .i64 (t.count c:Nat))/\D'=D:=by
 refine Z9 21 [.tmp 4] Tryz.func28 ?_
 repeat' (first|refine Z1 ?_|(refine Z8 ?_;intro κ hκ)|(refine Z4 ?_;clear hκ κ)|(refine Z2 ?_ ?_<;>intro h ab<;>try exact Xp)|refine Z3 ?_|exact⟨⟩|(apply hκ.out;clear hκ κ))
 refine Ad (fun m s D'=>∃i n:Nat,m=t.length-i/\i<=t.length/\n<=i/\s 0=str t/\s 1=sc (.int .u8 c.toNat)/\s 5=sc (.int .i64 n)/\s 6=sc (.int .i64 i)/\D'=D/\Aec ((t.take i).count c=n)) t.length
  ⟨0,0,Ad6,Ad6,Ad6,rfl,rfl,rfl,rfl,rfl,by simp[Aec]⟩ ?_
 rintro m s D' ⟨i,n,rfl,hi,hn,h0,h1,h5,h6,hD,hC⟩;by_cases ad:i<t.length
 ·have ac:=List.getElem?_eq_getElem ad;generalize t[i]=b at ac;have aa:(t.take (i+1)).count c=(t.take i).count c+if b=c then 1 else 0:=by
   rw[Abv,ac,Ac5,List.count_append,List.count_singleton];simp
  by_cases hc:b=c
  ·have hb:((b.toNat:Int)==(c.toNat:Int))=true:=by rw[hc];simp
   have HC:Aec ((t.take (i+1)).count c=n+1):=by rw[Aec,aa,if_pos hc,hC.out]
   clear hC hc aa
   repeat' (first|refine Z1 ?_|(refine Z8 ?_;intro κ hκ)|(refine Z4 ?_;clear hκ κ)|(refine Z2 ?_ ?_<;>intro h ab<;>try exact Xp)|refine Z3 ?_|exact⟨⟩|(apply hκ.out;clear hκ κ))
   refine⟨t.length-(i+1),Ad6,i+1,n+1,?_⟩
   ((repeat' with_reducible refine And.intro ?_ ?_)<;>first|exact Xq|exact (HC)|exact Xs)
  ·have hb:((b.toNat:Int)==(c.toNat:Int))=false:=by rw[lC];simpa using hc
   have HC:Aec ((t.take (i+1)).count c=n):=by rw[Aec,aa,if_neg hc,hC.out];rfl
   clear hC hc aa
   repeat' (first|refine Z1 ?_|(refine Z8 ?_;intro κ hκ)|(refine Z4 ?_;clear hκ κ)|(refine Z2 ?_ ?_<;>intro h ab<;>try exact Xp)|refine Z3 ?_|exact⟨⟩|(apply hκ.out;clear hκ κ))
   refine⟨t.length-(i+1),Ad6,i+1,n,?_⟩
   ((repeat' with_reducible refine And.intro ?_ ?_)<;>first|exact Xq|exact (HC)|exact Xs)
 ·have ae:i=t.length:=Ad6;have HC:Aec (t.count c=n):=by
   rw[Aec];have:=hC.out;rw[ae,Abt]at this;exact this
  clear hC
  repeat' (first|refine Z1 ?_|(refine Z8 ?_;intro κ hκ)|(refine Z4 ?_;clear hκ κ)|(refine Z2 ?_ ?_<;>intro h ab<;>try exact Xp)|refine Z3 ?_|exact⟨⟩|(apply hκ.out;clear hκ κ))
  first|exact⟨_,rfl,by rw[HC.out],by assumption⟩|exact⟨_,rfl,by rw[HC.out]⟩
end Go.Proofs.YtmoeoppbmhfbpabGreatDoorJ
