import Derived.Test.YtmoeoppbmhfbpabGreatDoorGEngQ
import Derived.Test.YtmoeoppbmhfbpabGreatDoorGAbsWp
import Derived.Test.YtmoeoppbmhfbpabGreatDoorGSpaE
import Derived.Test.YtmoeoppbmhfbpabGreatDoorGPrtF
set_option maxRecDepth 100000
set_option linter.all false
namespace Go.Proofs.YtmoeoppbmhfbpabGreatDoorG
open Go.Abs
abbrev Nu:=Int->Int
def Et (ν:Nu)(t:Tm):Int:=if t.1=true then ν t.2 else t.2
def Bo (a:C4)(ν:Nu):Ca:=Df (a.ts.map (Et ν))
def Mg (ν:Nu)(v n:Int):Nu:=fun w=>if w=v then n else ν w
theorem hasV_iff {ts:List Tm}{v:Int}:Bc ts v=true↔(true,v)∈ts:=by simp[Bc]
theorem Eu {a:C4}{ν ν':Nu}(h:∀v,Bc a.ts v=true->ν v=ν' v):Bo a ν=Bo a ν':=by
 unfold Bo;congr 1;apply Ae0;intro t ht;unfold Et;split
 ·rename_i h1;exact h t.2 (hasV_iff.2 (by obtain⟨x,y⟩:=t;simp at h1;subst h1;exact ht))
 ·rfl
theorem I6 {l:List Int}{i:Nat}(h:i<l.length)(h3:l.length<=3):(Df l)[i]?=some l[i]:=by
 match l,h3 with
 |[],_=>simp at h
 |[a],_=>simp at h;subst h;rfl
 |[a,b],_=>
  rcases (show i=0\/i=1 by simp at h;omega)with rfl|rfl<;>rfl
 |[a,b,c],_=>
  rcases (show i=0\/i=1\/i=2 by simp at h;omega)with rfl|rfl|rfl<;>rfl
theorem Ip {a:C4}{ν:Nu}{v:Int}(h3:a.ts.length<=3)(hv:Bc a.ts v=true):Hh (Bo a ν) (H5 a.ts v)=ν v:=by
 have hm:=hasV_iff.1 hv;have hi:=List.idxOf_lt_length_iff.2 hm;unfold Hh H5;rw[if_pos hm,Afz,Bo,I6 (by simpa using hi) (by simpa using h3)];simp[Et]
theorem Ju (a:C4)(v n:Int)(ν:Nu):Bo (Fg v n a) ν=Bo a (Mg ν v n):=by
 unfold Bo Fg Bl;congr 1;rw[Ad6];apply Ae0;intro t ht;obtain⟨b,w⟩:=t;show Et ν (Vk v n (b,w))=Et (Mg ν v n) (b,w);by_cases h:(b,w)=(true,v)
 ·cases h;simp[Vk,Et,Mg]
 ·rw[show Vk v n (b,w)=(b,w)from if_neg h];cases b with
  |false=>simp[Et]
  |true=>
   have:w≠v:=fun e=>h (by rw[e]);simp[Et,Mg,this]
theorem hasV_put {a:C4}{v n w:Int}:Bc (Fg v n a).ts w=true↔Bc a.ts w=true/\w≠v:=by
 rw[hasV_iff,hasV_iff];unfold Fg Bl;rw[Aey];constructor
 ·rintro⟨t,ht,e⟩;unfold Vk at e;split at e
  ·cases e
  ·rename_i aa;subst e;exact⟨ht,fun e=>aa (by rw[e])⟩
 ·rintro⟨h,aa⟩;refine⟨(true,w),h,?_⟩;unfold Vk;rw[if_neg (fun e=>aa (by cases e;rfl))]
def Kq (neg:Int->Ca->Prop)(q:Qry)(ν:Nu):Prop:=(∀p∈q.parts,Bo p.a ν∈p.tups)/\∀a∈q.nots,¬neg a.p (Bo a ν)
def WP (q:Qry):Prop:=∀p∈q.parts,p.a.ts.length<=3/\∀t∈p.tups,∃μ,t=Bo p.a μ
theorem Rf {neg:Int->Ca->Prop}{q:Qry}{v n:Int}{ν:Nu}(hW:WP q):Kq neg (Cw v n q) ν↔Kq neg q (Mg ν v n):=by
 have hp:∀p∈q.parts,(Bo (Hi v n p).a ν∈(Hi v n p).tups↔Bo p.a (Mg ν v n)∈p.tups):=fun p hp=>by
  unfold Hi;by_cases hv:Bc p.a.ts v=true
  ·rw[if_pos hv];show Bo (Fg v n p.a) ν∈_↔_;rw[Ju,Afx];constructor
   ·exact fun h=>h.1
   ·intro h;refine⟨h,?_⟩;rw[Ip (hW p hp).1 hv];simp[Mg]
  ·rw[if_neg hv]
   rw[Eu (ν:=ν) (ν':=Mg ν v n) (fun w hw=>by
    unfold Mg;rw[if_neg];rintro rfl
    exact hv hw)]
 unfold Kq Cw;simp only[Aey,forall_exists_index,and_imp,forall_apply_eq_imp_iff₂];constructor
 ·rintro⟨h1,h2⟩;exact⟨fun p aa=>(hp p aa).1 (h1 p aa),fun a ha=>by have:=h2 a ha;rwa[Ju]at this⟩
 ·rintro⟨h1,h2⟩;exact⟨fun p aa=>(hp p aa).2 (h1 p aa),fun a ha=>by rw[Ju];exact h2 a ha⟩
theorem Aay {q:Qry}{v n:Int}(hW:WP q):WP (Cw v n q):=by
 intro p hp;obtain⟨p0,h0,rfl⟩:=Aey.1 hp;obtain⟨h1,h2⟩:=hW p0 h0;unfold Hi;by_cases hv:Bc p0.a.ts v=true
 ·rw[if_pos hv];refine⟨by simp[Bl];exact h1,fun t ht=>?_⟩;obtain⟨ht,he⟩:=Afx.1 ht;obtain⟨μ,rfl⟩:=h2 t ht;refine⟨μ,?_⟩;show _=Bo (Fg v n p0.a) μ;rw[Ju];apply Eu;intro w hw;unfold Mg;by_cases e:w=v
  ·subst e;rw[if_pos rfl];rw[Ip h1 hv]at he;simpa using he
  ·rw[if_neg e]
 ·rw[if_neg hv];exact⟨h1,h2⟩
theorem xP {neg:Int->Ca->Prop}{q:Qry}{v:Int}{ν:Nu}(hW:WP q):Kq neg (Fb q v) ν↔Kq neg q ν:=by
 unfold Kq Fb;simp only[Aey,forall_exists_index,and_imp,forall_apply_eq_imp_iff₂];constructor
 ·rintro⟨h1,h2⟩;exact⟨fun p hp=>by have:=h1 p hp;rw[P0]at this;exact Ou _ _ _ _ this,h2⟩
 ·rintro⟨h1,h2⟩;refine⟨fun p hp=>?_,h2⟩;rw[P0];unfold Fu;by_cases hv:Bc p.a.ts v=true
  ·rw[if_pos hv,Afx];refine⟨h1 p hp,?_⟩;rw[Ip (hW p hp).1 hv];unfold Dj;rw[Ads];intro p' ab;by_cases aa:Bc p'.a.ts v=true
   ·simp only[aa,Ael,Bool.false_or,occ,Aeo];exact⟨_,h1 p' ab,by rw[Ip (hW p' ab).1 aa];simp⟩
   ·simp[aa]
  ·rw[if_neg hv];exact h1 p hp
theorem Aaz {q:Qry}{v:Int}(hW:WP q):WP (Fb q v):=by
 intro p hp;obtain⟨p0,h0,rfl⟩:=Aey.1 hp;rw[P0];exact⟨(hW p0 h0).1,fun t ht=>(hW p0 h0).2 t (Ou _ _ _ t ht)⟩
theorem NarS.wp {q q':Qry}(h:NarS q q')(hW:WP q):WP q':=by
 induction h with
 |refl=>exact hW
 |tail v _ ih=>exact Aaz ih
theorem NarS.sol {neg:Int->Ca->Prop}{q q':Qry}(h:NarS q q')(hW:WP q)(ν:Nu):Kq neg q' ν↔Kq neg q ν:=by
 induction h with
 |refl=>exact Iff.rfl
 |tail v h ih=>exact (xP (h.wp hW)).trans ih
theorem eB (q:Qry)(v:Int):(Fb q v).parts.map (·.a)=q.parts.map (·.a):=by
 unfold Fb;simp only[Ad6];apply Ae0;intro p _;exact P0 _ _ _
theorem NarS.atoms {q q':Qry}(h:NarS q q'):q'.parts.map (·.a)=q.parts.map (·.a)/\q'.head=q.head/\q'.nots=q.nots:=by
 induction h with
 |refl=>exact⟨rfl,rfl,rfl⟩
 |tail v _ ih=>exact⟨(eB _ _).trans ih.1,ih.2.1,ih.2.2⟩
theorem NarS.atomsQ {q q':Qry}(h:NarS q q'):atomsQ q'=atomsQ q:=by
 obtain⟨h1,h2,h3⟩:=h.atoms;unfold Go.Proofs.YtmoeoppbmhfbpabGreatDoorG.atomsQ;rw[h1,h2,h3]
def Nrw (q:Qry):Prop:=∀v,∀p1∈q.parts,∀p2∈q.parts,Bc p1.a.ts v=true->Bc p2.a.ts v=true->∀t∈p1.tups,∃u∈p2.tups,Hh u (H5 p2.a.ts v)=Hh t (H5 p1.a.ts v)
theorem S8 (p:Part)(l:List Part):Cn (p::l)=p.tups.length+Cn l:=by simp[Cn]
theorem Qo (L:List Part)(v:Int):∀l:List Part,Cn (l.map (Fu L v))<=Cn l/\(Cn l<=Cn (l.map (Fu L v))->l.map (Fu L v)=l)
 |[]=>by simp[Cn]
 |p::l=>by
  obtain⟨h1,h2⟩:=Qo L v l;have h3:=dZ L v p;rw[Ad9,S8,S8];refine⟨Agm,fun h=>?_⟩;rw[h2 Agm];congr 1;have h4:p.tups.length<=(Fu L v p).tups.length:=Agm;unfold Fu at h4⊢;split
  ·rename_i hv;rw[if_pos hv]at h4;simp only at h4
   have:=List.filter_eq_self.2 (fun a ha=>by
    have:=List.length_filter_eq_length_iff.1 (Nat.le_antisymm (Afy _ _) h4)
    exact this a ha)
   rw[this]
  ·rfl
theorem oF (q:Qry)(v:Int):Cn (Pt q v).parts<=Cn q.parts/\(Cn q.parts<=Cn (Pt q v).parts->Pt q v=q):=by
 unfold Pt;split
 ·obtain⟨h1,h2⟩:=Qo q.parts v q.parts;refine⟨h1,fun h=>?_⟩;unfold Fb;rw[h2 h]
 ·exact⟨Adn _,fun _=>rfl⟩
theorem cN:∀(vs:List Int) (q:Qry),Cn (gD q vs).parts<=Cn q.parts/\(Cn q.parts<=Cn (gD q vs).parts->gD q vs=q/\∀v∈vs,Pt q v=q)
 |[],q=>⟨Adn _,fun _=>⟨rfl,by simp⟩⟩
 |v::vs,q=>by
  obtain⟨h1,h2⟩:=oF q v;obtain⟨h3,h4⟩:=cN vs (Pt q v);have e:gD q (v::vs)=gD (Pt q v) vs:=rfl;rw[e];refine⟨Agm,fun h=>?_⟩;have e2:=h2 Agm;rw[e2]at h4⊢;obtain⟨g1,g2⟩:=h4 (by rw[e2]at h;omega);refine⟨g1,fun w hw=>?_⟩;rcases Aeq.1 hw with rfl|hw
  ·exact e2
  ·exact g2 w hw
theorem Lm {l:List C4}{v:Int}{a:C4}(ha:a∈l)(hv:Bc a.ts v=true):0<C1 l v:=List.countP_pos_iff.2 ⟨a,ha,hv⟩
theorem Yi {α:Type}{f:α->Bool}:∀{l:List α} {x y:α},l.countP f<=1->x∈l->y∈l->f x=true->f y=true->x=y
 |[],x,y,_,hx,_,_,_=>by cases hx
 |z::l,x,y,h,hx,hy,fx,fy=>by
  rw[List.countP_cons]at h;rcases Aeq.1 hx with e1|ab
  ·rcases Aeq.1 hy with e2|aa
   ·rw[e1,e2]
   ·rw[<-e1,if_pos fx]at h;have:0<l.countP f:=List.countP_pos_iff.2 ⟨y,aa,fy⟩;omega
  ·rcases Aeq.1 hy with e2|aa
   ·rw[<-e2,if_pos fy]at h;have:0<l.countP f:=List.countP_pos_iff.2 ⟨x,ab,fx⟩;omega
   ·exact Yi Agm ab aa fx fy
theorem Abo {q:Qry}(h:∀v∈Cb (atomsQ q),Pt q v=q):Nrw q:=by
 intro v p1 h1 p2 h2 aa ac t ht;by_cases hc:1<C1 (q.parts.map (·.a)) v
 ·have ae:v∈Cb (atomsQ q):=(Cy _ _).2 ⟨p1.a,by unfold Go.Proofs.YtmoeoppbmhfbpabGreatDoorG.atomsQ;simp;right;left;exact⟨p1,h1,rfl⟩,hasV_iff.1 aa⟩;have hr:=h v ae;unfold Pt at hr;rw[if_pos hc]at hr;have hm:q.parts.map (Fu q.parts v)=q.parts:=congrArg Qry.parts hr;have hp:Fu q.parts v p1=p1:=by
   obtain⟨i,hi⟩:=List.getElem?_of_mem h1;have:(q.parts.map (Fu q.parts v))[i]?=some (Fu q.parts v p1):=by simp[hi]
   rw[hm,hi]at this;exact (Afh this).symm
  have ab:t∈(Fu q.parts v p1).tups:=by rw[hp];exact ht
  unfold Fu at ab;rw[if_pos aa]at ab;have:=(Afx.1 ab).2;unfold Dj at this;rw[Ads]at this;have:=this p2 h2;simp only[ac,Ael,Bool.false_or,occ,Aeo]at this;obtain⟨u,hu,e⟩:=this;exact⟨u,hu,by simpa using e⟩
 ·have ad:(q.parts.map (·.a)).countP (fun a=>Bc a.ts v)<=1:=by unfold C1 at hc;omega
  rw[List.countP_map]at ad;have:=Yi ad h1 h2 aa ac;subst this;exact⟨t,ht,rfl⟩
def inQ (q:Qry)(v:Int):Prop:=∃a∈atomsQ q,Bc a.ts v=true
def NE (q:Qry):Prop:=∀p∈q.parts,p.tups≠[]
def fX (q:Qry):Prop:=∀v,(Bc q.head.ts v=true\/∃a∈q.nots,Bc a.ts v=true)->∃p∈q.parts,Bc p.a.ts v=true
structure Red (neg:Int->Ca->Prop)(q q':Qry):Prop where
 hd:q'.head=q.head
 at_:∀a∈atomsQ q',a∈atomsQ q
 to:∀ν,Kq neg q ν->Kq neg q' ν
 back:∀ν,Kq neg q' ν->∃ν',Kq neg q ν'/\∀v,inQ q' v->ν' v=ν v
theorem Red.refl (neg:Int->Ca->Prop)(q:Qry):Red neg q q:=⟨rfl,fun _ h=>h,fun _ h=>h,fun ν h=>⟨ν,h,fun _ _=>rfl⟩⟩
theorem inQ.sub {q q':Qry}{v:Int}(h:∀a∈atomsQ q',a∈atomsQ q)(hv:inQ q' v):inQ q v:=by
 obtain⟨a,ha,e⟩:=hv;exact⟨a,h a ha,e⟩
theorem Red.trans {neg:Int->Ca->Prop}{q q1 q2:Qry}(h:Red neg q q1)(g:Red neg q1 q2):Red neg q q2 where
 hd:=g.hd.trans h.hd
 at_:=fun a ha=>h.at_ a (g.at_ a ha)
 to:=fun ν hν=>g.to ν (h.to ν hν)
 back:=fun ν hν=>by
  obtain⟨ν1,h1,e1⟩:=g.back ν hν;obtain⟨ν2,h2,e2⟩:=h.back ν1 h1;exact⟨ν2,h2,fun v hv=>(e2 v (hv.sub g.at_)).trans (e1 v hv)⟩
theorem Jz {q:Qry}{p:Part}(h:p∈q.parts):p.a∈atomsQ q:=by
 unfold atomsQ;simp;right;left;exact⟨p,h,rfl⟩
theorem NarS.red {neg:Int->Ca->Prop}{q q':Qry}(h:NarS q q')(hW:WP q):Red neg q q':=
 ⟨h.atoms.2.1,fun a ha=>by rw[h.atomsQ]at ha;exact ha,fun ν hν=>(h.sol hW ν).2 hν,fun ν hν=>⟨ν,(h.sol hW ν).1 hν,fun _ _=>rfl⟩⟩
theorem Nl {q:Qry}:∀{vs:List Int} {n:Nat},Jm q n vs=true->(∀v∈vs,Cz q v=true->n=0/\C1 (q.parts.map (·.a)) v≠1)/\∀v∈vs,∀w∈vs,Cz q v=true->Cz q w=true->v=w
 |[],n,_=>⟨(fun v hv=>by cases hv),(fun v hv=>by cases hv)⟩
 |u::vs,n,h=>by
  unfold Jm at h;by_cases hl:Cz q u=true
  ·rw[if_pos hl]at h;split at h
   ·cases h
   ·rename_i hc;obtain⟨h1,h2⟩:=Nl h;have hno:∀v∈vs,¬Cz q v=true:=fun v hv aa=>by
     have:=(h1 v hv aa).1;omega
    refine⟨fun v hv aa=>?_,fun v hv w hw aa ab=>?_⟩
    ·rcases Aeq.1 hv with rfl|hv
     ·exact⟨Agm,fun e=>hc (.inr e)⟩
     ·exact absurd aa (hno v hv)
    ·rcases Aeq.1 hv with e1|hv
     ·rcases Aeq.1 hw with e2|hw
      ·rw[e1,e2]
      ·exact absurd ab (hno w hw)
     ·exact absurd aa (hno v hv)
  ·rw[if_neg hl]at h;obtain⟨h1,h2⟩:=Nl h;refine⟨fun v hv aa=>?_,fun v hv w hw aa ab=>?_⟩
   ·rcases Aeq.1 hv with rfl|hv
    ·exact absurd aa hl
    ·exact h1 v hv aa
   ·rcases Aeq.1 hv with rfl|hv
    ·exact absurd aa hl
    ·rcases Aeq.1 hw with rfl|hw
     ·exact absurd ab hl
     ·exact h2 v hv w hw aa ab
theorem Er (l m:List C4)(v:Int):C1 (l++m) v=C1 l v+C1 m v:=List.countP_append
theorem Gm (a:C4)(l:List C4)(v:Int):C1 (a::l) v=C1 l v+if Bc a.ts v=true then 1 else 0:=List.countP_cons
theorem nX {neg:Int->Ca->Prop}{q:Qry}(hW:WP q)(a5:NE q)(a4:Nrw q):Red neg q (Ez q)/\(∀p∈(Ez q).parts,p∈q.parts)/\(fX q->fX (Ez q)):=by
 rcases List.exists_or_eq_self_of_eraseP (fun p=>idleB q p.a) q.parts with e|⟨p,l1,l2,-,hp,e1,e2⟩
 ·have:Ez q=q:=by unfold Ez;rw[e]
  rw[this];exact⟨Red.refl _ _,fun p hp=>hp,fun h=>h⟩
 ·have hT:(Ez q).parts=l1++l2:=e2;have aa:∀p'∈(Ez q).parts,p'∈q.parts:=fun p' ab=>by
   rw[hT]at ab;rw[e1];rcases Aew.1 ab with h|h
   ·exact Aew.2 (.inl h)
   ·exact Aew.2 (.inr (Aeq.2 (.inr h)))
  have an:p∈q.parts:=by rw[e1];simp
  obtain⟨g1,g2⟩:=Nl (vs:=Cb [p.a]) (n:=0) hp;have au:∀v,Bc p.a.ts v=true->v∈Cb [p.a]:=fun v hv=>(Cy _ _).2 ⟨p.a,by simp,hasV_iff.1 hv⟩;have aw:∀v,C1 (atomsQ q) v=(if Bc q.head.ts v=true then 1 else 0)+C1 ((l1++l2).map (·.a)) v+(if Bc p.a.ts v=true then 1 else 0)+C1 q.nots v:=fun v=>by
   unfold atomsQ;rw[Gm,Er,e1,Ad5,Ad9,Er,Gm,Ad5,Er];omega
  have ap:∀v,C1 (q.parts.map (·.a)) v=C1 ((l1++l2).map (·.a)) v+if Bc p.a.ts v=true then 1 else 0:=fun v=>by
   rw[e1,Ad5,Ad9,Er,Gm,Ad5,Er];omega
  --a variable of the part that stands elsewhere is linked
  have am:∀v,Bc p.a.ts v=true->(Bc q.head.ts v=true\/(∃p'∈l1++l2,Bc p'.a.ts v=true)\/∃a∈q.nots,Bc a.ts v=true)->Cz q v=true:=fun v hv h=>by
   unfold Cz;rw[aw v,if_pos hv];rcases h with h|⟨p',h1,h2⟩|⟨a,h1,h2⟩
   ·rw[if_pos h,Agi];omega
   ·have:=Lm (l:=(l1++l2).map (·.a)) (Aey.2 ⟨p',h1,rfl⟩) h2;rw[Agi];omega
   ·have:=Lm h1 h2;rw[Agi];omega
  have ac:∀v,Bc p.a.ts v=true->Cz q v=true->∃p'∈l1++l2,Bc p'.a.ts v=true:=fun v hv hl=>by
   have:=(g1 v (au v hv) hl).2;rw[ap v,if_pos hv]at this;have h0:0<C1 ((l1++l2).map (·.a)) v:=Agm;obtain⟨a,ha,aj⟩:=List.countP_pos_iff.1 h0;obtain⟨p',ab,rfl⟩:=Aey.1 ha;exact⟨p',ab,aj⟩
  have ak:∀a∈atomsQ (Ez q),a∈atomsQ q:=fun a ha=>by
   unfold atomsQ at ha⊢;simp only[Aeq,Aew,Aey]at ha⊢;rcases ha with h|⟨p',h1,rfl⟩|h
   ·exact .inl h
   ·exact .inr (.inl ⟨p',aa p' h1,rfl⟩)
   ·exact .inr (.inr h)
  refine⟨⟨rfl,ak,fun ν h=>⟨fun p' ab=>h.1 p' (aa p' ab),h.2⟩,fun ν h=>?_⟩,aa,fun az v hv=>?_⟩
  · --a tuple of the part that agrees with the rest
   have ao:∃μ,Bo p.a μ∈p.tups/\∀v,Bc p.a.ts v=true->Cz q v=true->μ v=ν v:=by
    by_cases hex:∃v,Bc p.a.ts v=true/\Cz q v=true
    ·obtain⟨v,hv,hl⟩:=hex;obtain⟨p',ab,ax⟩:=ac v hv hl;have ai:p'∈(Ez q).parts:=by rw[hT];exact ab
     have a0:=h.1 p' ai;obtain⟨u,hu,he⟩:=a4 v p' (aa p' ai) p an ax hv _ a0;rw[Ip (hW p' (aa p' ai)).1 ax]at he;obtain⟨μ,rfl⟩:=(hW p an).2 u hu;rw[Ip (hW p an).1 hv]at he;refine⟨μ,hu,fun w hw av=>?_⟩;have:=g2 w (au w hw) v (au v hv) av hl;rw[this];exact he
    ·have a3:=a5 p an;obtain⟨t,ht⟩:=List.exists_mem_of_ne_nil _ a3;obtain⟨μ,rfl⟩:=(hW p an).2 t ht;exact⟨μ,ht,fun w hw av=>absurd ⟨w,hw,av⟩ hex⟩
   obtain⟨μ,hμ,ay⟩:=ao;let ν':Nu:=fun v=>if Bc p.a.ts v=true then μ v else ν v;have ah:∀a:C4,(∀v,Bc a.ts v=true->Bc p.a.ts v=true->Cz q v=true)->Bo a ν'=Bo a ν:=fun a ha=>Eu fun v hv=>by
    show (if Bc p.a.ts v=true then μ v else ν v)=ν v;by_cases h:Bc p.a.ts v=true
    ·rw[if_pos h];exact ay v h (ha v hv h)
    ·rw[if_neg h]
   refine⟨ν',⟨fun p' ab=>?_,fun a ha=>?_⟩,fun v hv=>?_⟩
   ·rw[e1]at ab;have ad:p'=p\/p'∈l1++l2:=by
     rcases Aew.1 ab with h|h
     ·exact .inr (Aew.2 (.inl h))
     ·rcases Aeq.1 h with h|h
      ·exact .inl h
      ·exact .inr (Aew.2 (.inr h))
    rcases ad with rfl|af
    ·rw[Eu (ν':=μ) (fun v hv=>by show (if Bc _ v=true then μ v else ν v)=μ v;rw[if_pos hv])];exact hμ
    ·rw[ah p'.a (fun v hv ae=>am v ae (.inr (.inl ⟨p',af,hv⟩)))];exact h.1 p' (by rw[hT];exact af)
   ·rw[ah a (fun v hv ae=>am v ae (.inr (.inr ⟨a,ha,hv⟩)))];exact h.2 a ha
   ·show (if Bc p.a.ts v=true then μ v else ν v)=ν v;by_cases ae:Bc p.a.ts v=true
    ·rw[if_pos ae];apply ay v ae;obtain⟨a,ha,aj⟩:=hv;unfold atomsQ at ha;simp only[Aeq,Aew,Aey]at ha;rcases ha with rfl|⟨p',h1,rfl⟩|h1
     ·exact am v ae (.inl aj)
     ·exact am v ae (.inr (.inl ⟨p',by rw[hT]at h1;exact h1,aj⟩))
     ·exact am v ae (.inr (.inr ⟨a,h1,aj⟩))
    ·rw[if_neg ae]
  ·obtain⟨p',h1,h2⟩:=az v hv;rw[e1]at h1;have ad:p'=p\/p'∈l1++l2:=by
    rcases Aew.1 h1 with h|h
    ·exact .inr (Aew.2 (.inl h))
    ·rcases Aeq.1 h with h|h
     ·exact .inl h
     ·exact .inr (Aew.2 (.inr h))
   rcases ad with rfl|af
   ·have hl:Cz q v=true:=am v h2 (by
     rcases hv with h|⟨a,ha,aj⟩
     ·exact .inl h
     ·exact .inr (.inr ⟨a,ha,aj⟩))
    obtain⟨p2,h3,h4⟩:=ac v h2 hl;exact⟨p2,by rw[hT];exact h3,h4⟩
   ·exact⟨p',by rw[hT];exact af,h2⟩
theorem TrimR.red {neg:Int->Ca->Prop}{q q':Qry}(h:TrimR q q')(hW:WP q)(ab:NE q)(aa:Nrw q):Red neg q q'/\(∀p∈q'.parts,p∈q.parts)/\(fX q->fX q'):=by
 induction h with
 |refl=>exact⟨Red.refl _ _,fun p hp=>hp,fun h=>h⟩
 |tail h ih=>
  obtain⟨i1,i2,i3⟩:=ih;obtain⟨g1,g2,g3⟩:=nX (neg:=neg) (fun p hp=>hW p (i2 p hp)) (fun p hp=>ab p (i2 p hp)) (fun v p1 h1 p2 h2=>aa v p1 (i2 p1 h1) p2 (i2 p2 h2));exact⟨i1.trans g1,fun p hp=>i2 p (g2 p hp),fun h=>g3 (i3 h)⟩
theorem W0 {neg:Int->Ca->Prop}{q:Qry}{rs:List Int}(hC:Ex (atomsQ q) rs rs){ν1 ν2:Nu}(h1:Kq neg (A9 q rs) ν1)(h2:Kq neg (Ha q rs) ν2):Kq neg q (fun v=>if v∈rs then ν1 v else ν2 v):=by
 have ab:∀a∈atomsQ q,Ii rs a=true->Bo a (fun v=>if v∈rs then ν1 v else ν2 v)=Bo a ν1:=fun a ha aa=>Eu fun v hv=>if_pos (hC a ha aa v (hasV_iff.1 hv));have ac:∀a:C4,Ii rs a=false->Bo a (fun v=>if v∈rs then ν1 v else ν2 v)=Bo a ν2:=fun a aa=>Eu fun v hv=>if_neg fun hm=>by
  unfold Ii at aa;rw[Ae9]at aa;exact aa v hm hv
 refine⟨fun p hp=>?_,fun a ha=>?_⟩
 ·cases aa:Ii rs p.a with
  |true=>rw[ab p.a (Jz hp) aa];exact h1.1 p (Afx.2 ⟨hp,aa⟩)
  |false=>rw[ac p.a aa];exact h2.1 p (Afx.2 ⟨hp,by simp[aa]⟩)
 ·cases aa:Ii rs a with
  |true=>rw[ab a (by unfold atomsQ;simp[ha]) aa];exact h1.2 a (Afx.2 ⟨ha,aa⟩)
  |false=>rw[ac a aa];exact h2.2 a (Afx.2 ⟨ha,by simp[aa]⟩)
theorem cJ {neg:Int->Ca->Prop}{q:Qry}{rs:List Int}{ν:Nu}(h:Kq neg q ν):Kq neg (A9 q rs) ν:=
 ⟨fun p hp=>h.1 p (Afx.1 hp).1,fun a ha=>h.2 a (Afx.1 ha).1⟩
theorem lS {neg:Int->Ca->Prop}{q:Qry}{rs:List Int}{ν:Nu}(h:Kq neg q ν):Kq neg (Ha q rs) ν:=
 ⟨fun p hp=>h.1 p (Afx.1 hp).1,fun a ha=>h.2 a (Afx.1 ha).1⟩
theorem kP {neg:Int->Ca->Prop}{q:Qry}{v:Int}{ν:Nu}(hW:WP q)(h:Kq neg q ν)(hp:∃p∈q.parts,Bc p.a.ts v=true):ν v∈Kl q v:=by
 unfold Kl;cases hf:q.parts.find? (fun p=>Bc p.a.ts v)with
 |none=>
  obtain⟨p,h1,h2⟩:=hp;rw[List.find?_eq_none]at hf;exact absurd h2 (hf p h1)
 |some p=>
  have h1:=List.mem_of_find?_eq_some hf;have h2:Bc p.a.ts v=true:=by simpa using List.find?_some hf
  simp only;unfold Vi;rw[R9];exact .inr ⟨_,h.1 p h1,Ip (hW p h1).1 h2⟩
theorem eC:∀{l:List Part},(∀p∈l,p.tups≠[]/\∀t∈p.tups,∃μ,t=Bo p.a μ)->(∀v,C1 (l.map (·.a)) v<=1)->∃ν:Nu,∀p∈l,Bo p.a ν∈p.tups
 |[],_,_=>⟨fun _=>0,fun p hp=>by cases hp⟩
 |p::l,h,hc=>by
  obtain⟨ν,hν⟩:=eC (l:=l) (fun p' aa=>h p' (by simp[aa])) (fun v=>by
   have:=hc v;rw[Ad9,Gm]at this
   omega)
  obtain⟨ac,hμ⟩:=h p (by simp);obtain⟨t,ht⟩:=List.exists_mem_of_ne_nil _ ac;obtain⟨μ,rfl⟩:=hμ t ht;refine⟨fun v=>if Bc p.a.ts v=true then μ v else ν v,fun p' aa=>?_⟩;rcases Aeq.1 aa with rfl|aa
  ·rw[Eu (ν':=μ) (fun v hv=>if_pos hv)];exact ht
  ·rw[Eu (ν':=ν) (fun v hv=>if_neg (fun ab=>by
    have:=hc v;rw[Ad9,Gm,if_pos ab]at this;have:=Lm (l:=l.map (·.a)) (Aey.2 ⟨p',aa,rfl⟩) hv
    omega))]
   exact hν p' aa
end Go.Proofs.YtmoeoppbmhfbpabGreatDoorG
namespace Go.Abs
section
variable {P:Program} {n:Nat} {Q:G7} {F:Nat->Prop} {A:Nat->Bool} {σ0:St} {all:List Oper}
theorem V2 {listed:Array Bool}{s:Sl}{D:St}(ts:List Nat)(m k:Nat)(L:Array Bool)(aa:k=ts.length+m)(hs:Region.noSelect all.toArray=true)(hB:tsT all A L ts listed=true)(hp:∀c s D,¬Q (.panic c) s D)(hno:σ0.nobj<=D.nobj)(hk:∀o,o<σ0.nobj->F o->D.ver o=σ0.ver o)
  (h:∀K:Sl->Prop,Agt (∀s',Nv P n all Q F A D m L s' D->K s')->aT P n all F D K ts s):Nv P n all Q F A σ0 k listed s D:=by
 subst aa;exact kU hno hk (Yx hs hp m L ts listed s hB (h _ fun _ h=>h))
end
end Go.Abs
namespace Go.Proofs.YtmoeoppbmhfbpabGreatDoorG
open Go.Abs
theorem RAtom.ext' {a b:RAtom}(h1:a.nt=b.nt)(h2:a.pred=b.pred)(h3:a.terms=b.terms):a=b:=by cases a;cases b;simp_all
def Rc (μ:Tx->Tx)(t:Tx):Tx:=if Ad t=true then μ t else t
def P9 (μ:Tx->Tx)(a:RAtom):RAtom:=⟨a.nt,a.pred,a.terms.map (Rc μ)⟩
theorem Gs {μ:Tx->Tx}{t:Tx}(h:Ad t=false):Rc μ t=t:=by unfold Rc;rw[if_neg (by simp[h])]
theorem Im {μ:Tx->Tx}{t:Tx}(h:Ad t=true):Rc μ t=μ t:=by unfold Rc;rw[if_pos h]
def Pos (fz:Bool)(a:RAtom):Bool:=fz||!a.nt
def unN (a:RAtom):RAtom:=⟨false,a.pred,a.terms⟩
def Adk (fz:Bool)(A:List RAtom)(x:RItem)(h:RAtom):Prop:=∃μ,(∀a∈x.body,Pos fz a=true->P9 μ a∈A)/\(∀a∈x.body,Pos fz a=false->unN (P9 μ a)∉A)/\h=P9 μ x.head
def Adl (fz:Bool)(x:RItem):Prop:=∀v,Ad v=true->(v∈x.head.terms\/∃a∈x.body,Pos fz a=false/\v∈a.terms)->∃a∈x.body,Pos fz a=true/\v∈a.terms
def Clean (t:Tx):Prop:=(∀b∈t,b≠(33:UInt8)/\b≠44/\b≠46)/\t.length<=1000
def clA (a:RAtom):Prop:=Clean a.pred/\(∀t∈a.terms,Clean t)/\a.terms.length<=1000
def clI (x:RItem):Prop:=x.out=false/\clA x.head/\∀a∈x.body,clA a
def fE (c0 a:Nat):Nat->Nat
 |0=>c0
 |p+1=>1+a*fE c0 a p
structure Ab8 (fz:Bool)(c0 p:Nat)(x:RItem):Prop where
 cl:clI x
 len:x.body.length<=1000
 saf:Adl fz x
 cnt:x.body.countP (Pos fz)=p
 neg:c0=1\/∀a∈x.body,Pos fz a=true
def Sat (fz:Bool)(l:List RItem)(giv:List RAtom)(C:RAtom->Prop):Prop:=(∀a∈giv,C a)/\∀A':List RAtom,(∀a∈A',C a)->(∀a∈giv,a∈A')->∀x∈l,∀h,Adk fz A' x h->C h
def Ab6 (fz:Bool)(limit:Nat)(x:RItem):Prop:=∃c0 p,Ab8 fz c0 p x/\∀a,a<=limit->fE c0 a p+2002<=1000000000000
def Ko (t:Tx):Tx:=if Ad t=true then 35::t else t
def Dq (a:RAtom):RAtom:=⟨a.nt,a.pred,a.terms.map Ko⟩
def oth (li:List RItem)(n i:Nat):List RItem:=((li.take i).eraseIdx n).filter fun y=>!y.out
theorem tN {li:List RItem}{n i:Nat}{y:RItem}(h:li[i]?=some y):oth li n (i+1)=oth li n i++(if i=n\/y.out=true then []else [y]):=by
 have hi:=(List.getElem?_eq_some_iff.1 h).1;have hl:(li.take i).length=i:=by rw[Aef];omega
 unfold oth;rw[Ad3,h,Afe];by_cases hn:i=n
 ·subst hn;rw[List.eraseIdx_append_of_length_le Agm,hl,Ae2,if_pos (.inl rfl),Afl (l:=li.take i) Agm];simp
 ·have:(li.take i++[y]).eraseIdx n=(li.take i).eraseIdx n++[y]:=by
   rcases Nat.lt_or_gt_of_ne hn with h'|h'
   ·rw[List.eraseIdx_append_of_length_le Agm,Afl (l:=li.take i) Agm,Afl (l:=[y]) (by simp;omega)]
   ·rw[List.eraseIdx_append_of_lt_length Agm]
  rw[this,Afv];cases hy:y.out with
  |true=>rw[if_pos (.inr rfl)];simp[hy]
  |false=>rw[if_neg (by simp[hn])];simp[hy]
theorem Gu {li:List RItem}{n i:Nat}{y:RItem}(h:y∈oth li n i):y∈li/\y.out=false:=by
 unfold oth at h;rw[Afx]at h;exact⟨List.mem_of_mem_take (Afj h.1),by simpa using h.2⟩
theorem iC {t:Tx}(h:(Ax t).1=0):∀x∈Cp t,Fa x=true:=by
 have hs:∀i,i<(Cp t).length->Ec (Cp t) i=false:=by
  unfold Ax at h;split at h
  ·simp at h
  split at h
  ·simp at h
  unfold Cd at h;split at h
  ·simp at h
  split at h
  ·simp at h
  ·rename_i hk;exact H4 hk
 intro x hx;obtain⟨i,hi⟩:=List.getElem?_of_mem hx;have h1:=hs i (List.getElem?_eq_some_iff.1 hi).1;unfold Ec at h1;rw[hi]at h1;simpa using h1
theorem fF {p:Tx}(h:G6 p)(hl:p.length<=1000):Clean p:=⟨fun b hb=>by
 have:=h.2 b hb
 refine⟨?_,?_,?_⟩<;>(rintro rfl;revert this;decide),hl⟩
theorem jV {p:Tx}(h:Is p)(hl:p.length<=1000):Clean p:=⟨fun b hb=>by
 have:=h.2 b hb
 refine⟨?_,?_,?_⟩<;>(rintro rfl;revert this;decide),hl⟩
theorem mZ {a:RAtom}(h:Da a)(hs:short a):clA a:=⟨fF h.1 hs.1,fun t ht=>jV (h.2.2.2 t ht) (hs.2.2 t ht),hs.2.1⟩
theorem jU {a p:Nat}(ha:a<=200)(hp:p<=5):fE 0 a p<=10000000000:=by
 have h1:∀p,fE 0 a p<=fE 0 200 p:=by
  intro p;induction p with
  |zero=>exact Adn _
  |succ p ih=>exact Nat.add_le_add_left (Nat.mul_le_mul ha ih) _
 refine Ado (h1 p) ?_;have:p=0\/p=1\/p=2\/p=3\/p=4\/p=5:=Agm;rcases this with rfl|rfl|rfl|rfl|rfl|rfl<;>decide
structure Fine (x:RItem):Prop where
 w:Bv x
 sh:x.short
 va:∀a∈Ae x,VA a
 dt:∀a∈Ae x,∀w∈a.terms,DT w
 safe:Fa x=true
theorem Tb {t:Tx}(h:(Ax t).1=0):∀x∈Cp t,Fine x:=by
 obtain⟨ab,l,r,hp⟩:=cP h;obtain⟨g1,g2,g3,g4⟩:=Nf Agm hp;intro x hx;have aa:=hx;rw[g2]at hx;exact⟨g4 x hx,Qk Agm hp x hx,Px 16 t l r hp x hx,J0 (T:=DT) dN 16 t l r hp x hx,iC h x aa⟩
theorem Fine.cl {x:RItem}(h:Fine x)(ho:x.out=false):clI x:=
 ⟨ho,mZ ((h.w.2.2 ho).1) h.sh.1,fun a ha=>mZ ((h.w.2.2 ho).2.2.2 a ha) (h.sh.2 a ha)⟩
theorem Fine.rule {x:RItem}(h:Fine x)(ho:x.out=false):Ab6 true 200 x:=by
 have hb:=(h.w.2.2 ho).2.2.1;refine⟨0,x.body.countP (Pos true),⟨h.cl ho,Agm,fun v hv hm=>?_,rfl,.inr fun a _=>rfl⟩,fun a ha=>?_⟩
 ·rcases hm with hm|⟨a,-,hp,-⟩
  ·have hs:=h.safe;unfold Fa at hs;simp only[Af0,Ae9]at hs;have h1:=hs x.head (by simp[Ae,ho]);unfold zL at h1;simp only[Bool.not_eq_true,Ae9]at h1;have h2:vP x v=false:=by simpa using h1 v hm
   unfold vP at h2;rw[hv,Ae1]at h2;have h3:P8 x v=true:=by simpa using h2
   unfold P8 at h3;simp only[Aeo,Adv,Agj]at h3;obtain⟨a,ha,u,hu,-,rfl⟩:=h3;exact⟨a,ha,rfl,hu⟩
  ·cases hp
 ·have:=jU (a:=a) (p:=x.body.countP (Pos true)) ha (Ado List.countP_le_length hb);omega
def Wd (b:UInt8):Prop:=Ba b.toNat=true\/A8 b.toNat=true\/Az b.toNat=true
theorem Acb {b:UInt8}(h:Wd b):b∉[33,40,41,44,45,46,58,63]:=fun hm=>by
 simp only[Aeq,Ae8,Agk]at hm;rcases hm with rfl|rfl|rfl|rfl|rfl|rfl|rfl|rfl<;>revert h<;>unfold Wd<;>decide
theorem xM {t:Tx}(h:Is t){b:UInt8}(hb:b∈t):Wd b:=.inr (h.2 b hb)
theorem mM {t:Tx}(h:G6 t){b:UInt8}(hb:b∈t):Wd b:=.inl (h.2 b hb)
theorem gO {ts:List Tx}{b:UInt8}(h:b∈A7 ts):b=44\/∃t∈ts,b∈t:=by
 unfold A7 at h;obtain⟨t,ht,hb⟩:=Aev.1 h;rcases Aeq.1 hb with rfl|hb
 ·exact .inl rfl
 ·exact .inr ⟨t,ht,hb⟩
theorem M5 {ts:List Tx}{b:UInt8}(h:b∈A2 ts):b=44\/∃t∈ts,b∈t:=by
 cases ts with
 |nil=>cases h
 |cons t ts=>
  rcases Aew.1 h with h|h
  ·exact .inr ⟨t,by simp,h⟩
  ·rcases gO h with h|⟨u,hu,hb⟩
   ·exact .inl h
   ·exact .inr ⟨u,by simp[hu],hb⟩
theorem V4 {a:RAtom}(h:Da a){b:UInt8}(hb:b∈A4 a):Wd b\/b=40\/b=41\/b=44:=by
 unfold A4 at hb;rcases Aew.1 hb with hb|hb
 ·exact .inl (mM h.1 hb)
 ·rcases Aeq.1 hb with rfl|hb
  ·exact .inr (.inl rfl)
  ·rcases Aew.1 hb with hb|hb
   ·rcases M5 hb with rfl|⟨t,ht,hb⟩
    ·exact .inr (.inr (.inr rfl))
    ·exact .inl (xM (h.2.2.2 t ht) hb)
   ·simp at hb;exact .inr (.inr (.inl hb))
theorem rM {a:RAtom}(h:Da a){b:UInt8}(hb:b∈Bb a):Wd b\/b=33\/b=40\/b=41\/b=44:=by
 unfold Bb at hb;rcases Aew.1 hb with hb|hb
 ·split at hb
  ·simp at hb;exact .inr (.inl hb)
  ·cases hb
 ·rcases V4 h hb with h|h
  ·exact .inl h
  ·exact .inr (.inr h)
theorem nU {x:RItem}(h:Bv x){b:UInt8}(hb:b∈A0 x):Wd b\/b∈[33,40,41,44,45,58,63]:=by
 unfold A0 at hb;split at hb
 ·rcases Aeq.1 hb with rfl|hb
  ·exact .inr (by decide)
  ·exact .inl (mM h.1 hb)
 ·rename_i ho;obtain⟨h1,h2,h3,h4⟩:=h.2.2 (by simpa using ho);unfold Cv at hb;rcases Aew.1 hb with hb|hb
  ·rcases V4 h1 hb with h|rfl|rfl|rfl
   ·exact .inl h
   all_goals exact .inr (by decide)
  ·split at hb
   ·cases hb
   ·rcases Aeq.1 hb with rfl|hb
    ·exact .inr (by decide)
    ·rcases Aeq.1 hb with rfl|hb
     ·exact .inr (by decide)
     ·rcases M5 hb with rfl|⟨t,ht,hb⟩
      ·exact .inr (by decide)
      ·obtain⟨a,ha,rfl⟩:=Aey.1 ht;rcases rM (h4 a ha) hb with h|rfl|rfl|rfl|rfl
       ·exact .inl h
       all_goals exact .inr (by decide)
theorem nW {x:RItem}(h:Bv x):46∉A0 x:=fun hb=>by
 rcases nU h hb with h|h
 ·exact Acb h (by decide)
 ·revert h;decide
def oM (x:List Tx×Tx)(c:UInt8):List Tx×Tx:=if c=46 then (x.1++[x.2++[c]],[])else (x.1,x.2++[c])
def Gf (t:Tx):List Tx:=if (t.foldl oM ([],[])).2=[]then (t.foldl oM ([],[])).1 else (t.foldl oM ([],[])).1++[(t.foldl oM ([],[])).2]
theorem sZ:∀(t:Tx) (d:List Tx) (u:Tx),46∉t->t.foldl oM (d,u)=(d,u++t)
 |[],d,u,_=>by simp
 |c::t,d,u,h=>by
  have hc:c≠46:=fun e=>h (by simp[e]);have ht:46∉t:=fun e=>h (by simp[e]);rw[Ady,oM,if_neg hc,sZ t _ _ ht];simp
theorem dI:∀(l:List RItem) (d:List Tx),(∀x∈l,46∉A0 x)->(Bj l).foldl oM (d,[])=(d++l.map (fun x=>A0 x++[46]),[])
 |[],d,_=>by simp[Bj]
 |x::l,d,h=>by
  have h1:=h x (by simp);have e:Bj (x::l)=A0 x++46::Bj l:=by simp[Bj]
  rw[e,Afw,sZ _ _ _ h1,Ady];have e2:oM (d,[]++A0 x) 46=(d++[A0 x++[46]],[]):=by simp[oM]
  rw[e2,dI l _ fun y hy=>h y (by simp[hy])];simp
theorem W7 {l:List RItem}(h:∀x∈l,Bv x):Gf (Bj l)=l.map fun x=>A0 x++[46]:=by
 unfold Gf;rw[dI l [] fun x hx=>nW (h x hx)];simp
theorem Qi {c:UInt8}(h:Ba c.toNat=true):A8 c.toNat=false:=by
 simp only[Ba,A8,Adv,Agi,Bool.and_eq_false_iff,decide_eq_false_iff_not]at h⊢;omega
end Go.Proofs.YtmoeoppbmhfbpabGreatDoorG
