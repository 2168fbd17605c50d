import Derived.Test.YtmoeoppbmhfbpabGreatDoorJEngY
set_option maxHeartbeats 32000000
set_option maxRecDepth 100000
set_option linter.all false
namespace Go.Proofs.YtmoeoppbmhfbpabGreatDoorJ
open Go.Abs
def Sh (ar:Nat->Nat)(k:Nat)(t:Bc):Prop:=∃l:List Int,t=Es l/\l.length=ar k/\∀x∈l,∃n:Nat,x=(n:Int)/\n<1026
structure RW (np:Nat)(ar:Nat->Nat)(r:Dq):Prop where
 rok:ROk np r
 nne:∀l∈r.body,l.neg=true->l.a.p≠r.head.p
 har:r.head.ts.length=ar r.head.p.toNat
 bar:∀l∈r.body,l.a.ts.length=ar l.a.p.toNat
 hc:∀t∈r.head.ts,t.1=false->∃n:Nat,t.2=(n:Int)/\n<1026
 hv:∀v,(true,v)∈r.head.ts->0<=v/\v<26
 bv:∀l∈r.body,∀v,(true,v)∈l.a.ts->0<=v/\v<26
 safe:∀v,(A5 r.head.ts v=true\/∃l∈r.body,l.neg=true/\A5 l.a.ts v=true)->∃l∈r.body,l.neg=false/\A5 l.a.ts v=true
theorem vN {a:C6}(h3:a.ts.length<=3)(ν:Nu):J8 a.ts (Bg a ν)=true:=by
 unfold J8;rw[Abl];intro i hi;have hi:i<a.ts.length:=by simpa using hi
 have hg:(Bg a ν)[i]?=some (Iq ν a.ts[i]):=by
  unfold Bg;rw[Ix (by simpa using hi) (by simpa using h3)];simp
 unfold Qf;rw[List.getElem?_eq_getElem hi,hg];cases ht:a.ts[i]with
 |mk b n=>
  cases b with
  |false=>simp[Iq]
  |true=>
   have hm:(true,n)∈a.ts:=by rw[<-ht];exact Ac2 hi
   have:=Ie (ν:=ν) h3 (hasV_iff.2 hm);unfold G9 at this;simp only;rw[this];simp[Iq]
theorem uA {a:C6}{t:Bc}{l:List Int}(h3:a.ts.length<=3)(ht:t=Es l)(hl:l.length=a.ts.length)(hf:J8 a.ts t=true):∃μ,t=Bg a μ:=by
 refine⟨fun v=>G9 t (H3 a.ts v),?_⟩;have:a.ts.map (Iq fun v=>G9 t (H3 a.ts v))=l:=by
  apply List.ext_getElem (by simp[hl]);intro i h1 h2;have hi:i<a.ts.length:=by simpa using h1
  unfold J8 at hf;rw[Abl]at hf;have h:=hf i (by simpa using hi);have hg:t[i]?=some l[i]:=by rw[ht,Ix h2 Ad6]
  unfold Qf at h;rw[List.getElem?_eq_getElem hi,hg]at h;rw[List.getElem_map];cases he:a.ts[i]with
  |mk b n=>
   rw[he]at h;cases b with
   |false=>
    simp only[Ad4]at h;simp[Iq,h]
   |true=>
    simp only[Ad4]at h;rw[h];simp[Iq,G9]
 unfold Bg;rw[this,ht]
theorem dU {M:MM}{nw:Int}{fr i:Nat}{l:Lit}{t:Bc}(h:t∈T7 M nw fr i l):t∈Au M l.a.p:=by
 unfold T7 at h;split at h
 ·exact List.mem_of_mem_drop h
 ·exact h
theorem H6 {M:MM}{nw:Int}{fr:Nat}{b:List Lit}{p:Part}(h:p∈Ln M nw fr b):∃(l:Lit) (i:Nat),b[i]?=some l/\l.neg=false/\p=dV M nw fr (l,i):=by
 unfold Ln at h;obtain⟨⟨l,i⟩,hx,rfl⟩:=Acs.1 h;obtain⟨h1,h2⟩:=Adj.1 hx;have:=List.mem_zipIdx_iff_getElem?.1 h1;exact⟨l,i,by simpa using this,by simpa using h2,rfl⟩
theorem lG {M:MM}{nw:Int}{fr:Nat}{b:List Lit}{l:Lit}{i:Nat}(h:b[i]?=some l)(hn:l.neg=false):dV M nw fr (l,i)∈Ln M nw fr b:=by
 unfold Ln;refine Acs.2 ⟨(l,i),Adj.2 ⟨List.mem_zipIdx_iff_getElem?.2 (by simpa using h),by simp[hn]⟩,rfl⟩
def zM (ar:Nat->Nat)(M:MM):Prop:=∀(k:Nat) (t:Bc),t∈Au M (k:Int)->Sh ar k t
theorem wC {E:St}{om ot:Nat}{M:MM}{d b:Int}{ar:Nat->Nat}{r:Dq}(hM:MOb E om ot M d b)(hS:zM ar M)(hr:RW M.length ar r)(nw:Int)(fr:Nat):O7 (Jy M nw fr r)/\QV (Jy M nw fr r)/\∀v,inQ (Jy M nw fr r) v->v∈(List.range 26).map fun n:Nat=>(n:Int):=by
 have hk:∀l∈r.body,∃k:Nat,l.a.p=(k:Int)/\k<M.length:=hr.rok.bp;have hnm:∀a∈O3 r.body,∃l∈r.body,l.neg=true/\l.a=a:=fun a ha=>by
  obtain⟨l,hl,rfl⟩:=Acs.1 ha;obtain⟨h1,h2⟩:=Adj.1 hl;exact⟨l,h1,h2,rfl⟩
 have aj:(O3 r.body).length<=r.body.length:=by
  unfold O3;rw[Adc];exact Adi _ _
 have ad:∀l∈r.body,T3 (Au M l.a.p)/\(Au M l.a.p).length<=5000:=fun l hl=>by
  obtain⟨k,e,ah⟩:=hk l hl;have hg:M[k]?=some M[k]:=List.getElem?_eq_getElem ah;rw[e,Bw hg];have hm:=Ac2 ah;exact⟨hM.t3 _ hm,hM.ln _ hm⟩
 have hpl:(Ln M nw fr r.body).length<=r.body.length:=by
  unfold Ln;rw[Adc];refine Abg (Adi _ _) (by simp)
 have aa:∀(l:Lit) (i:Nat),∀t∈(dV M nw fr (l,i)).tups,t∈Au M l.a.p/\J8 l.a.ts t=true:=fun l i t ht=>by
  obtain⟨h1,h2⟩:=Adj.1 ht;exact⟨dU h1,h2⟩
 have ab:∀v,inQ (Jy M nw fr r) v->0<=v/\v<26:=fun v ⟨a,ha,hv⟩=>by
  unfold atomsQ Jy at ha;simp only[Aci,Aco,Acs]at ha;rcases ha with rfl|⟨p,hp,rfl⟩|ha
  ·exact hr.hv v (hasV_iff.1 hv)
  ·obtain⟨l,i,h1,h2,rfl⟩:=H6 hp;exact hr.bv l (Abm h1) v (hasV_iff.1 hv)
  ·obtain⟨l,h1,h2,rfl⟩:=hnm a ha;exact hr.bv l h1 v (hasV_iff.1 hv)
 refine⟨⟨⟨hr.rok.hd,Abg hpl hr.rok.bl,Abg aj hr.rok.bl,fun p hp=>?_,fun p hp=>?_,fun p hp=>?_,fun a ha=>?_⟩,fun p hp t ht=>?_,fun p hp=>?_,fun v hv=>?_⟩,fun a ha v hv=>(ab v ⟨a,ha,hasV_iff.2 hv⟩).1,fun v hv=>?_⟩
 ·obtain⟨l,i,h1,h2,rfl⟩:=H6 hp;exact hr.rok.ba l (Abm h1)
 ·obtain⟨l,i,h1,h2,rfl⟩:=H6 hp;have h3:=(ad l (Abm h1)).2;refine Abg (Adi _ _) ?_;unfold T7;split
  ·simp;omega
  ·exact h3
 ·obtain⟨l,i,h1,h2,rfl⟩:=H6 hp;exact fun t ht=>(ad l (Abm h1)).1 t (aa l i t ht).1
 ·obtain⟨l,h1,h2,rfl⟩:=hnm a ha;exact hr.rok.ba l h1
 ·obtain⟨l,i,h1,h2,rfl⟩:=H6 hp;have hl:=Abm h1;obtain⟨k,e,-⟩:=hk l hl;have h3:=(aa l i t ht).1;rw[e]at h3;obtain⟨m,rfl,ac,af⟩:=hS k t h3;intro j hj;have ae:m.length=l.a.ts.length:=by rw[ac,hr.bar l hl,e];rfl
  have ai:j<m.length:=by rw[ae];exact hj
  obtain⟨n,am,ak⟩:=af m[j] (Ac2 ai);exact⟨n,by rw[Ix ai (by rw[ae];exact hr.rok.ba l hl),am],ak⟩
 ·obtain⟨l,i,h1,h2,rfl⟩:=H6 hp;have hl:=Abm h1;refine⟨hr.rok.ba l hl,fun t ht=>?_⟩;obtain⟨k,e,-⟩:=hk l hl;obtain⟨h3,h4⟩:=aa l i t ht;rw[e]at h3;obtain⟨m,an,ac,af⟩:=hS k t h3;exact uA (a:=l.a) (hr.rok.ba l hl) an (by rw[ac,hr.bar l hl,e];rfl) h4
 ·obtain⟨l,hl,ap,ao⟩:=hr.safe v (by
   rcases hv with h|⟨a,ha,h⟩
   ·exact .inl h
   ·obtain⟨l,h1,h2,rfl⟩:=hnm a ha
    exact .inr ⟨l,h1,h2,h⟩)
  obtain⟨i,hi⟩:=List.getElem?_of_mem hl;exact⟨dV M nw fr (l,i),lG hi ap,ao⟩
 ·obtain⟨h1,h2⟩:=ab v hv;rw[Acs];exact⟨v.toNat,by simp;omega,Ad6⟩
theorem lF {neg:Int->Bc->Prop}{M:MM}{nw:Int}{fr:Nat}{ar:Nat->Nat}{r:Dq}{t:Bc}(hr:RW M.length ar r):Ue neg (Jy M nw fr r) t↔∃ν,(∀(l:Lit) (i:Nat),r.body[i]?=some l->l.neg=false->Bg l.a ν∈T7 M nw fr i l)/\(∀l∈r.body,l.neg=true->¬neg l.a.p (Bg l.a ν))/\t=Bg r.head ν:=by
 constructor
 ·rintro⟨ν,hν,rfl⟩;refine⟨ν,fun l i hi hn=>?_,fun l hl hn=>hν.2 l.a (Acs.2 ⟨l,Adj.2 ⟨hl,hn⟩,rfl⟩),rfl⟩;have:=hν.1 _ (lG hi hn);exact (Adj.1 this).1
 ·rintro⟨ν,h,h',rfl⟩;refine⟨ν,⟨fun p hp=>?_,fun a ha=>?_⟩,rfl⟩
  ·obtain⟨l,i,h1,h2,rfl⟩:=H6 hp;exact Adj.2 ⟨h l i h1 h2,vN (hr.rok.ba l (Abm h1)) ν⟩
  ·obtain⟨l,hl,rfl⟩:=Acs.1 ha;obtain⟨h1,h2⟩:=Adj.1 hl;exact h' l h1 h2
abbrev Cj:=Nat->Bc->Prop
def ClD (R:List Dq)(D:Cj):Prop:=∀r∈R,∀ν,(∀l∈r.body,D l.a.p.toNat (Bg l.a ν))->D r.head.p.toNat (Bg r.head ν)
def LitH (N D:Cj)(ν:Nu)(l:Lit):Prop:=if l.neg=true then¬N l.a.p.toNat (Bg l.a ν)else D l.a.p.toNat (Bg l.a ν)
def Ui (R:List Dq)(N D:Cj):Prop:=∀r∈R,∀ν,(∀l∈r.body,LitH N D ν l)->D r.head.p.toNat (Bg r.head ν)
def MD (M:MM):Cj:=fun k t=>t∈Au M (k:Int)
def tot (M:MM):Int:=(G4 M).sum
structure GroA (D:Cj)(M M':MM)(d d':Int):Prop where
 len:M'.length=M.length
 ext:∀k:Nat,∃new:List Bc,Au M' k=Au M k++new/\new.Nodup/\∀t∈new,D k t/\t∉Au M k
 cnt:d'-d=tot M'-tot M
theorem GroA.refl (D:Cj)(M:MM)(d:Int):GroA D M M d d:=⟨rfl,fun k=>⟨[],by simp,Adb,by simp⟩,Ad6⟩
theorem GroA.trans {D:Cj}{M M1 M2:MM}{d d1 d2:Int}(h:GroA D M M1 d d1)(g:GroA D M1 M2 d1 d2):GroA D M M2 d d2:=by
 refine⟨g.len.trans h.len,fun k=>?_,by have:=h.cnt;have:=g.cnt;omega⟩;obtain⟨n1,a1,a2,a3⟩:=h.ext k;obtain⟨n2,b1,b2,b3⟩:=g.ext k;refine⟨n1++n2,by rw[b1,a1,Ab8],?_,?_⟩
 ·rw[Adk];exact⟨a2,b2,fun x hx y hy e=>(b3 y hy).2 (by rw[a1,<-e];exact Aco.2 (.inr hx))⟩
 ·intro t ht;rcases Aco.1 ht with ht|ht
  ·exact a3 t ht
  ·exact⟨(b3 t ht).1,fun hm=>(b3 t ht).2 (by rw[a1];exact Aco.2 (.inl hm))⟩
theorem GroA.sub {D:Cj}{M M':MM}{d d':Int}(h:GroA D M M' d d'){k:Nat}{t:Bc}(ht:t∈Au M k):t∈Au M' k:=by
 obtain⟨n,a1,-,-⟩:=h.ext k;rw[a1];exact Aco.2 (.inl ht)
theorem GroA.inD {D:Cj}{M M':MM}{d d':Int}(h:GroA D M M' d d')(hD:∀k t,MD M k t->D k t):∀k t,MD M' k t->D k t:=fun k t ht=>by
 obtain⟨n,a1,-,a3⟩:=h.ext k;unfold MD at ht;rw[a1]at ht;rcases Aco.1 ht with ht|ht
 ·exact hD k t ht
 ·exact (a3 t ht).1
theorem Dj (x:Nat×List Bc)(M:MM):tot (x::M)=(x.2.length:Int)+tot M:=by simp[tot,G4]
theorem Mp:∀(M M':MM) (k:Nat) (n:Nat),M'.length=M.length->(∀j,j≠k->(M'[j]?).map (·.2)=(M[j]?).map (·.2))->(k<M.length->((Au M' k).length:Int)=(Au M k).length+n)->(M.length<=k->n=0)->tot M'=tot M+n
 |[],M',k,n,hl,ho,hk,hn=>by
  have:M'=[]:=Abq (by simpa using hl);subst this;have:=hn (by simp);subst this;simp[tot,G4]
 |x::M,[],k,n,hl,ho,hk,hn=>by simp at hl
 |x::M,y::M',0,n,hl,ho,hk,hn=>by
  have h0:=hk (by simp);simp[Au]at h0;have aa:tot M'=tot M+(0:Nat):=Mp M M' M.length 0 (by simpa using hl) (fun j hj=>by have:=ho (j+1) Ad6;simpa using this) (fun h=>Ad6) (fun _=>rfl);rw[Dj,Dj,aa];omega
 |x::M,y::M',k+1,n,hl,ho,hk,hn=>by
  have h0:=ho 0 Ad6;simp at h0
  have aa:=Mp M M' k n (by simpa using hl) (fun j hj=>by have:=ho (j+1) Ad6;simpa using this) (fun h=>by
   have:=hk (by simp;omega)
   simpa[Au]using this) (fun h=>hn (by simp;omega))
  rw[Dj,Dj,aa,h0];omega
theorem Gro.all {k:Nat}{S:Bc->Prop}{D:Cj}{M M':MM}{d d':Int}(h:Gro k S M M' d d')(hk:k<M.length)(hS:∀t,S t->D k t):GroA D M M' d d':=by
 obtain⟨n,a1,a2,a3,a4⟩:=h.ext;refine⟨h.len,fun j=>?_,?_⟩
 ·by_cases e:j=k
  ·subst e;exact⟨n,a1,a2,fun t ht=>⟨hS t (a3 t ht).1,(a3 t ht).2⟩⟩
  ·refine⟨[],?_,Adb,by simp⟩;have:=h.oth j e;unfold Au;simp only[Adu];rw[this];simp
 ·have:=Mp M M' k n.length h.len h.oth (fun _=>by rw[a1];simp) (fun hh=>Ad6);omega
theorem Y2 (a:Dq)(c:List AV)(h:tQ a c):c.length=4:=by obtain⟨o,ih,ib,bc,rfl,-⟩:=h;rfl
theorem lM {l:List Dq}{cs:List AV}{i:Nat}{r:Dq}(h:EL tQ l cs)(hi:l[i]?=some r):∃o ih ib bc rr,cs.drop (i*4)=sc (.bool o)::ic r.head.p::sl ih r.head.ts.length (Ac r.head.ts)::sl ib r.body.length bc::rr/\EL Pz r.body bc:=by
 obtain⟨c,rr,⟨o,ih,ib,bc,rfl,hB⟩,e⟩:=EL.get Y2 h hi;exact⟨o,ih,ib,bc,rr,e,hB⟩
def NgIn (R:List Dq)(D:Cj)(M:MM):Prop:=∀r∈R,∀l∈r.body,l.neg=true->∀t,D l.a.p.toNat t->MD M l.a.p.toNat t
theorem NgIn.gro {R:List Dq}{D:Cj}{M M':MM}{d d':Int}(h:NgIn R D M)(g:GroA D M M' d d'):NgIn R D M':=fun r hr l hl hn t ht=>g.sub (h r hr l hl hn t ht)
def ngD (D:Cj):Int->Bc->Prop:=fun p t=>D p.toNat t
structure wL (np:Nat)(ar:Nat->Nat)(R:List Dq)(D:Cj):Prop where
 rw:∀r∈R,RW np ar r
 cl:Ui R D D
 sh:∀k t,D k t->Sh ar k t
theorem wB {np:Nat}{ar:Nat->Nat}{R:List Dq}{D:Cj}{M:MM}{nw:Int}{fr:Nat}{r:Dq}(hF:wL np ar R D)(hn:M.length=np)(hr:r∈R)(hD:∀k t,MD M k t->D k t){t:Bc}(ht:Ue (ngD D) (Jy M nw fr r) t):D r.head.p.toNat t:=by
 obtain⟨ν,h1,h2,rfl⟩:=(lF (ar:=ar) (hn ▸ hF.rw r hr)).1 ht;refine hF.cl r hr ν (fun l hl=>?_);unfold LitH;cases aa:l.neg with
 |true=>simpa[ngD]using h2 l hl aa
 |false=>
  obtain⟨i,hi⟩:=List.getElem?_of_mem hl;obtain⟨k,hk,-⟩:=(hF.rw r hr).rok.bp l hl;have:=dU (h1 l i hi aa);rw[hk]at this;simp only[Acb,if_false];rw[hk];exact hD k _ this
theorem T6 {np:Nat}{ar:Nat->Nat}{R:List Dq}{D:Cj}(hF:wL np ar R D)(om ot:Nat)(b:Int)(aj: -1000000<=b)(ai:b<=900000)(M:MM)(d:Int)(hn:M.length=np)(hD:∀k t,MD M k t->D k t)(ak:NgIn R D M)(hR:Room M d b)(ah: -1000000<=d)(af:d<=1000000)(r:Dq)(hr:r∈R)(nw:Int)(fr:Nat)(c:List AV)(hc:EQ (Jy M nw fr r) c)(E:St)(hM:MOb E om ot M d b):
  ACalls Tryz.prog 139 [ptr om 0,ag c] E fun x E'=>∃M' d',MOb E' om ot M' d' b/\KM om ot M M' E E'/\GroA D M M' d d'/\Room M' d' b/\d'<=1000000/\d<=d'/\(¬b<d'->∀ν,(∀(l:Lit) (i:Nat),r.body[i]?=some l->l.neg=false->Bg l.a ν∈T7 M nw fr i l)->(∀l∈r.body,l.neg=true->¬D l.a.p.toNat (Bg l.a ν))->MD M' r.head.p.toNat (Bg r.head ν)):=by
 have aa:RW M.length ar r:=hn ▸ hF.rw r hr;obtain⟨a1,a2,a3⟩:=wC hM (fun k t ht=>hF.sh k t (hD k t ht)) aa nw fr;obtain⟨k,hk,ac⟩:=aa.rok.hp;have hnm:∀a∈(Jy M nw fr r).nots,∃l∈r.body,l.neg=true/\l.a=a:=fun a ha=>by
  obtain⟨l,hl,rfl⟩:=Acs.1 ha;obtain⟨h1,h2⟩:=Adj.1 hl;exact⟨l,h1,h2,rfl⟩
 have b1:NegOk (ngD D) M (Jy M nw fr r):=fun a ha=>by
  obtain⟨l,h1,h2,rfl⟩:=hnm a ha;obtain⟨j,hj,ae⟩:=aa.rok.bp l h1;have hg:M[j]?=some M[j]:=List.getElem?_eq_getElem ae;refine⟨j,M[j],hj,hg,fun t=>?_⟩;have hT:=Bw hg;have e:l.a.p.toNat=j:=by rw[hj];rfl
  unfold ngD;rw[e];constructor
  ·intro ht;have:=ak r hr l h1 h2 t (by rw[e];exact ht);rw[e]at this;unfold MD at this;rwa[hT]at this
  ·intro ht;exact hD j t (by unfold MD;rw[hT];exact ht)
 have b2:∀a∈(Jy M nw fr r).nots,a.p≠(k:Int):=fun a ha e=>by
  obtain⟨l,h1,h2,rfl⟩:=hnm a ha;exact aa.nne l h1 h2 (by rw[e,hk])
 have:=Yn (ngD D) om ot b _ _ (Abf _) (Jy M nw fr r) c k M d hc a1 b1 b2 a2 hk ac hR ah af aj ai a3 E hM;refine ACalls.mono this ?_;rintro x E' ⟨M',d',h1,h2,h3,h4,h5⟩;have ab:r.head.p.toNat=k:=by rw[hk];rfl
 refine⟨M',d',h1,h2,h3.all ac (fun t ht=>by rw[<-ab];exact wB hF hn hr hD ht),h3.room hR,h4,h3.le,fun ad ν hν hν'=>?_⟩;unfold MD;rw[ab];exact h5 ad _ ((lF aa).2 ⟨ν,hν,hν',rfl⟩)
def NewR (D:Cj)(M0 M':MM)(seen:List Int)(r:Dq)(j:Nat):Prop:=∀(i:Nat) (l:Lit),i<j->r.body[i]?=some l->l.neg=false->∀ν,(∀l'∈r.body,LitH D (MD M0) ν l')->Bg l.a ν∈(Au M0 l.a.p).drop ((seen[l.a.p.toNat]?).getD 0).toNat->MD M' r.head.p.toNat (Bg r.head ν)
theorem NewR.mono {D:Cj}{M0 M1 M2:MM}{seen:List Int}{r:Dq}{j:Nat}{d1 d2:Int}(h:NewR D M0 M1 seen r j)(g:GroA D M1 M2 d1 d2):NewR D M0 M2 seen r j:=fun i l hi hl hn ν h1 h2=>g.sub (h i l hi hl hn ν h1 h2)
theorem Qi {np:Nat}{ar:Nat->Nat}{R:List Dq}{D:Cj}(hF:wL np ar R D)(om ot:Nat)(b:Int)(ce: -1000000<=b)(cd:b<=900000)(M:MM)(d:Int)(hn:M.length=np)(hD:∀k t,MD M k t->D k t)(cj:NgIn R D M)(cg:Room M d b)(dc: -1000000<=d)(ca:d<=1000000)(rc:List AV)(idr:Nat)(bd:EL tQ R rc)(de:R.length<=1000)(seen:List Int)(ids:Nat)(bz:seen.length=np)(b1:∀n∈seen,0<=n/\n<=5000)(E:St)(hM:MOb E om ot M d b):
  ACalls Tryz.prog 141 [ptr om 0,sl idr R.length rc,sl ids seen.length (icells seen)] E fun x E'=>∃M' d',MOb E' om ot M' d' b/\KM om ot M M' E E'/\GroA D M M' d d'/\Room M' d' b/\d'<=1000000/\d<=d'/\(¬b<d'->∀r∈R,NewR D M M' seen r r.body.length):=by
 have c5:=EL.length Y2 bd;have cy:=A8 seen;have hpl:=hM.pl;have cz:np<=seen.length:=Ad6;have c9:M.length<=np:=Ad6;have c8:np<=M.length:=Ad6;have bo:Aec (M.length=np):=hn;clear bz hn;refine Z9 59 [] Tryz.func141 ?_
 repeat' (first|refine Z1 ?_|(refine Z8 ?_;intro κ hκ)|(refine Z4 ?_;clear hκ κ)|(refine Z2 ?_ ?_<;>intro h ab<;>try exact Xp)|refine Z3 ?_|exact⟨⟩|(apply hκ.out;clear hκ κ))
 refine Ad (fun m s E'=>∃(k:Nat) (M1:MM) (d1:Int),m=R.length-k/\k<=R.length/\s 0=ptr om 0/\s 2=sl ids seen.length (icells seen)/\s 12=sl idr R.length rc/\s 13=ic R.length/\s 14=ic k/\MOb E' om ot M1 d1 b/\KM om ot M M1 E E'/\d1<=1000000/\d<=d1/\Aec (GroA D M M1 d d1/\Room M1 d1 b/\(¬b<d1->∀r∈R.take k,NewR D M M1 seen r r.body.length))) R.length
  ⟨0,M,d,Ad6,Ad6,by simp[upd,initS],by simp[upd,initS],Ad8,Ad8,rfl,hM,KM.ofKeep (Keep.refl _),ca,Ad6,GroA.refl _ _ _,cg,fun _ r hr=>by simp at hr⟩ ?_
 rintro m s E' ⟨k,M1,d1,rfl,hk,h0,h2,bn,bm,bi,aw,an,am,ak,hG⟩;by_cases be:k<R.length
 ·have aa:=List.getElem?_eq_getElem be;obtain⟨o,ih,ib,bc,rr,hd,hB⟩:=lM bd aa;have ad:=Ac2 be;generalize R[k]=r at hd aa ad hB;have cw:Aec (R.take (k+1)=R.take k++[r]):=by rw[Aec,Abv,aa,Ac5]
  clear aa;have dd:=EL.length Hh hB;have cb:=(hF.rw r ad).rok.bl;have l1:=aw.lo;have l2:=aw.lt
  repeat' (first|refine Z1 ?_|(refine Z8 ?_;intro κ hκ)|(refine Z4 ?_;clear hκ κ)|(refine Z2 ?_ ?_<;>intro h ab<;>try exact Xp)|refine Z3 ?_|exact⟨⟩|(apply hκ.out;clear hκ κ))
  refine Ad (fun m s E2=>∃(j:Nat) (M2:MM) (d2:Int),m=r.body.length-j/\j<=r.body.length/\s 0=ptr om 0/\s 2=sl ids seen.length (icells seen)/\s 7=ptr E'.nobj 0/\s 12=sl idr R.length rc/\s 13=ic R.length/\s 14=ic k/\s 19=sl ib r.body.length bc/\s 20=ic r.body.length/\s 21=ic j/\MOb E2 om ot M2 d2 b/\KM om ot M M2 E E2/\E'.nobj<E2.nobj/\E2.obj E'.nobj=[sc (.bool o),ic r.head.p,sl ih r.head.ts.length (Ac r.head.ts),sl ib r.body.length bc]/\d2<=1000000/\d<=d2/\Aec (GroA D M M2 d d2/\Room M2 d2 b/\(¬b<d2->(∀r∈R.take k,NewR D M M2 seen r r.body.length)/\NewR D M M2 seen r j))) r.body.length
   ⟨0,M1,d1,Ad6,Ad6,Ad7,Ad7,Ad8,Ad7,Ad7,Ad7,Ad8,Ad8,rfl,aw.keep (((Keep.refl _).new _).put (Abf _) _),an.trans (KM.ofKeep (((Keep.refl _).new _).put (Abf _) _)),Aeb,Ak,am,ak,hG.out.1,hG.out.2.1,fun h=>⟨hG.out.2.2 h,fun i l hi=>Ad6⟩⟩ ?_
  have cv:om≠E'.nobj:=Ad6;have cu:ot≠E'.nobj:=Ad6;clear h0 h2 bn bm bi aw an hG am ak l1 l2;rintro m s E2 ⟨j,M2,d2,rfl,hj,h0,h2,h7,bn,bm,bi,di,dh,df,af,au,c7,br,a8,b9,hG⟩;have l1:=af.lo;have l2:=af.lt;by_cases ay:j<r.body.length
  ·have aa:=List.getElem?_eq_getElem ay;obtain⟨id,r2,aj⟩:=Io hB aa;have bf:=Ac2 ay;generalize r.body[j]=w at aj aa bf;obtain⟨p,hp,c6⟩:=(hF.rw r ad).rok.bp w bf;have HW:Aec (r.body[j]?=some w):=aa;clear aa;rw[hp]at aj;have a3:seen[p]?=some seen[p]:=List.getElem?_eq_getElem Ad6;obtain⟨rs,b7⟩:=Co a3;have b0:=b1 _ (Ac2 (show p<seen.length by omega));generalize seen[p]=f at a3 b7 b0;obtain⟨fn,rfl⟩:∃fn:Nat,f=(fn:Int):=⟨f.toNat,Ad6⟩;have co:M2.length<=M.length/\M.length<=M2.length:=by have:=hG.out.1.len;omega
   have ai:M2[p]?=some M2[p]:=List.getElem?_eq_getElem Ad6;generalize M2[p]=y at ai;have db:=Ga ai;have cx:=af.ln y (Abm ai);have da:=F9 M2;have obm:=af.ob;have obt:=af.oc;have b2:=af.pl;have cf:Aec (Au M2 (p:Int)=y.2):=Bw ai
   --what this literal's turn must bring
   have ac:Aec (∀M3 d3,GroA D M2 M3 d2 d3->(¬b<d3->w.neg=false->∀ν,(∀l'∈r.body,LitH D (MD M) ν l')->Bg w.a ν∈(Au M w.a.p).drop fn->MD M3 r.head.p.toNat (Bg r.head ν))->d2<=d3->(¬b<d3->(∀r∈R.take k,NewR D M M3 seen r r.body.length)/\NewR D M M3 seen r (j+1))):=fun M3 d3 bg ah b3 a5=>by
    obtain⟨g1,g2⟩:=hG.out.2.2 Ad6;refine⟨fun r' az=>(g1 r' az).mono bg,fun i l hi hl av ν a1 a2=>?_⟩;by_cases e:i=j
    ·subst e;rw[HW.out]at hl;obtain rfl:=Ads hl;refine ah a5 av ν a1 ?_;rw[hp]at a2⊢;rw[Adu,a3]at a2;simpa using a2
    ·exact bg.sub (g2 i l Ad6 hl av ν a1 a2)
   cases ae:w.neg with
   |true=>
    have HN:Aec (GroA D M M2 d d2/\Room M2 d2 b/\(¬b<d2->(∀r∈R.take k,NewR D M M2 seen r r.body.length)/\NewR D M M2 seen r (j+1))):=
     ⟨hG.out.1,hG.out.2.1,ac.out M2 d2 (GroA.refl _ _ _) (fun _ hh=>by rw[ae]at hh;cases hh) Ad6⟩
    rw[ae]at aj;clear ac ae
    repeat' (first|refine Z1 ?_|(refine Z8 ?_;intro κ hκ)|(refine Z4 ?_;clear hκ κ)|(refine Z2 ?_ ?_<;>intro h ab<;>try exact Xp)|refine Z3 ?_|exact⟨⟩|(apply hκ.out;clear hκ κ))
    refine A1 Ah (fun _=>True) [] [0,1,2,3,4,5,6,7,8,9,10,11,12,13,14,15,16] [] Ad9 (fun _ _ _ h=>h) ?_;intro κ hκ
    repeat' (first|refine Z1 ?_|(refine Z8 ?_;intro κ hκ)|(refine Z4 ?_;clear hκ κ)|(refine Z2 ?_ ?_<;>intro h ab<;>try exact Xp)|refine Z3 ?_|exact⟨⟩|(apply hκ.out;clear hκ κ))
    refine⟨r.body.length-(j+1),Ad6,j+1,M2,d2,?_⟩
    ((repeat' with_reducible refine And.intro ?_ ?_)<;>first|exact Xq|exact (HN)|exact (af.keep (((Keep.refl _).new _).put (Abf _) _))|exact (au.trans (KM.ofKeep (((Keep.refl _).new _).put (Abf _) _)))|exact Xs)
   |false=>
    rw[ae]at aj;clear ae
    repeat' (first|refine Z1 ?_|(refine Z8 ?_;intro κ hκ)|(refine Z4 ?_;clear hκ κ)|(refine Z2 ?_ ?_<;>intro h ab<;>try exact Xp)|refine Z3 ?_|exact⟨⟩|(apply hκ.out;clear hκ κ))
    refine A1 Ah (fun _=>True) [] [0,1,2,3,4,5,6,7,8,9,10,11,12,13,14,15,16] [] Ad9 (fun _ _ _ h=>h) ?_;intro κ hκ;by_cases a6:fn<y.2.length
    ·have b6:decide ((fn:Int)<(y.2.length:Int))=true:=by simp;exact a6
     have ct:=fun E (h:MOb E om ot M2 d2 b)=>Wr om ot M2 d2 b r [sc (.bool o),ic r.head.p,sl ih r.head.ts.length (Ac r.head.ts),sl ib r.body.length bc] (j:Int) fn ⟨o,ih,ib,bc,rfl,hB⟩ (by have:=hG.out.1.len;rw[this,bo.out];exact (hF.rw r ad).rok) Ad6 E h;have cq:Aec (∀c3,EQ (Jy M2 (j:Int) fn r) c3->∀E,MOb E om ot M2 d2 b->ACalls Tryz.prog 139 [ptr om 0,ag c3] E fun x E'=>∃M' d',MOb E' om ot M' d' b/\KM om ot M2 M' E E'/\GroA D M2 M' d2 d'/\Room M' d' b/\d'<=1000000/\d2<=d'/\(¬b<d'->∀ν,(∀(l:Lit) (i:Nat),r.body[i]?=some l->l.neg=false->Bg l.a ν∈T7 M2 (j:Int) fn i l)->(∀l∈r.body,l.neg=true->¬D l.a.p.toNat (Bg l.a ν))->MD M' r.head.p.toNat (Bg r.head ν))):=fun c3 h3 E hh=>
      T6 hF om ot b ce cd M2 d2 (by have:=hG.out.1.len;rw[this];exact bo.out) (hG.out.1.inD hD) (cj.gro hG.out.1) hG.out.2.1 Ad6 a8 r ad (j:Int) fn c3 h3 E hh
     clear a6
     repeat' (first|refine Z1 ?_|(refine Z8 ?_;intro κ hκ)|(refine Z4 ?_;clear hκ κ)|(refine Z2 ?_ ?_<;>intro h ab<;>try exact Xp)|(refine Z5 ?_;first|(refine Xi (ct _ (af.keep (Xs))) ?_;rintro _ _ ⟨⟨_,rfl,ih3,ip3,in3,pc3,nc3,rfl,ci,cm⟩,ba⟩;(have a0:=ba.nobj;have ax:=ba.obj;simp only[Ab,Aa]at a0 ax;have cp:=(((Keep.refl E2).new _).put (Abf _) _).trans ba;have cr:=cq.out _ ⟨ih3,ip3,in3,pc3,nc3,rfl,ci,cm⟩))|(refine Xi (cr _ (af.keep (Xs))) ?_;rintro _ _ ⟨M3,d3,cn,ap,bh,ch,b8,a7,ah⟩;(have bq:Aec _:=bh;have bb:Aec _:=ah;clear bh ah;have kn3:=ap.nobj;simp only[Ab,Aa]at kn3;have bw:=ap.obj E'.nobj (by simp only[Ab,Aa];omega) cv.symm cu.symm;have a9:=(au.trans (KM.ofKeep ((cp.new _).put Ad6 _))).trans ap)))|refine Z3 ?_|exact⟨⟩|(apply hκ.out;clear hκ κ))
     have HN:Aec (GroA D M M3 d d3/\Room M3 d3 b/\(¬b<d3->(∀r∈R.take k,NewR D M M3 seen r r.body.length)/\NewR D M M3 seen r (j+1))):=by
      refine⟨hG.out.1.trans bq.out,ch,ac.out M3 d3 bq.out (fun a5 _ ν a1 a2=>bb.out a5 ν (fun l i hl av=>?_) (fun l hl av=>by
       have:=a1 l hl;unfold LitH at this;rw[av]at this
       simpa using this)) a7⟩
      have ao:=Abm hl;obtain⟨p',a4,-⟩:=(hF.rw r ad).rok.bp l ao;obtain⟨nw,e1,-,-⟩:=hG.out.1.ext p';unfold T7;by_cases e:(i:Int)=(j:Int)
      ·rw[if_pos e];have:i=j:=Ad6;subst this;rw[HW.out]at hl;obtain rfl:=Ads hl;rw[a4]at a2⊢;rw[e1,List.drop_append];exact Aco.2 (.inl a2)
      ·rw[if_neg e];have:=a1 l ao;unfold LitH MD at this;rw[av,a4]at this;simp only[Acb,if_false,Adu]at this;rw[a4,e1];exact Aco.2 (.inl this)
     refine⟨r.body.length-(j+1),Ad6,j+1,M3,d3,?_⟩;have bv:∀S:St,S.obj E'.nobj=E2.obj E'.nobj->S.obj E'.nobj=[sc (.bool o),ic r.head.p,sl ih r.head.ts.length (Ac r.head.ts),sl ib r.body.length bc]:=fun S e=>by rw[e,br]
     have bu:=bv _ (by rw[bw,Aj Ad6,Ae Ad6,ax _ Ad6,Aj Ad6,Ae Ad6])
     ((repeat' with_reducible refine And.intro ?_ ?_)<;>first|exact Xq|exact (HN)|exact (cn)|exact (a9)|exact (bu)|exact Xs)
    ·have b6:decide ((fn:Int)<(y.2.length:Int))=false:=by simp;omega
     have HN:Aec (GroA D M M2 d d2/\Room M2 d2 b/\(¬b<d2->(∀r∈R.take k,NewR D M M2 seen r r.body.length)/\NewR D M M2 seen r (j+1))):=by
      refine⟨hG.out.1,hG.out.2.1,ac.out M2 d2 (GroA.refl _ _ _) (fun _ _ ν _ a2=>?_) Ad6⟩;exfalso;obtain⟨nw,e1,-,-⟩:=hG.out.1.ext p;rw[cf.out]at e1;have b3:(Au M (p:Int)).length<=y.2.length:=by rw[e1];simp
      rw[hp,Abp Ad6]at a2;cases a2
     clear a6 ac
     repeat' (first|refine Z1 ?_|(refine Z8 ?_;intro κ hκ)|(refine Z4 ?_;clear hκ κ)|(refine Z2 ?_ ?_<;>intro h ab<;>try exact Xp)|refine Z3 ?_|exact⟨⟩|(apply hκ.out;clear hκ κ))
     refine⟨r.body.length-(j+1),Ad6,j+1,M2,d2,?_⟩
     ((repeat' with_reducible refine And.intro ?_ ?_)<;>first|exact Xq|exact (HN)|exact (af.keep (((Keep.refl _).new _).put (Abf _) _))|exact (au.trans (KM.ofKeep (((Keep.refl _).new _).put (Abf _) _)))|exact Xs)
  ·have b5:j=r.body.length:=Ad6;subst b5;have HN:Aec (GroA D M M2 d d2/\Room M2 d2 b/\(¬b<d2->∀r∈R.take (k+1),NewR D M M2 seen r r.body.length)):=by
    obtain⟨g1,g2,g3⟩:=hG.out;refine⟨g1,g2,fun h r' az=>?_⟩;rw[cw.out]at az;rcases Aco.1 az with h'|h'
    ·exact (g3 h).1 r' h'
    ·simp at h';subst h';exact (g3 h).2
   repeat' (first|refine Z1 ?_|(refine Z8 ?_;intro κ hκ)|(refine Z4 ?_;clear hκ κ)|(refine Z2 ?_ ?_<;>intro h ab<;>try exact Xp)|refine Z3 ?_|exact⟨⟩|(apply hκ.out;clear hκ κ))
   refine⟨R.length-(k+1),Ad6,k+1,M2,d2,?_⟩
   ((repeat' with_reducible refine And.intro ?_ ?_)<;>first|exact Xq|exact (HN)|exact Xs)
 ·have b4:k=R.length:=Ad6;subst b4;obtain⟨g1,g2,g3⟩:=hG.out;rw[Abt]at g3
  repeat' (first|refine Z1 ?_|(refine Z8 ?_;intro κ hκ)|(refine Z4 ?_;clear hκ κ)|(refine Z2 ?_ ?_<;>intro h ab<;>try exact Xp)|refine Z3 ?_|exact⟨⟩|(apply hκ.out;clear hκ κ))
  first|exact⟨_,rfl,M1,d1,aw,an,g1,g2,am,ak,g3⟩|exact⟨M1,d1,aw,an,g1,g2,am,ak,g3⟩
end Go.Proofs.YtmoeoppbmhfbpabGreatDoorJ
