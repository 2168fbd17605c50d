import Derived.Test.YtmoeoppbmhfbpabGreatDoorHEngY
set_option linter.all false
namespace Go.Proofs.YtmoeoppbmhfbpabGreatDoorH
set_option maxHeartbeats 32000000
open Go.Abs
def Sh (ar:Nat->Nat)(k:Nat)(t:Ca):Prop:=∃l:List Int,t=D7 l/\l.length=ar k/\∀x∈l,∃n:Nat,x=(n:Int)/\n<1026
structure RW (np:Nat)(ar:Nat->Nat)(r:D2):Prop where
 rok:ROk np r
 nne:∀l∈r.body,l.neg=true->l.a.p≠r.head.p
 har:r.head.ts.length=ar r.head.p.toNat
 bar:∀l∈r.body,l.a.ts.length=ar l.a.p.toNat
 hc:∀t∈r.head.ts,t.1=false->∃n:Nat,t.2=(n:Int)/\n<1026
 hv:∀v,(true,v)∈r.head.ts->0<=v/\v<26
 bv:∀l∈r.body,∀v,(true,v)∈l.a.ts->0<=v/\v<26
 safe:∀v,(Bc r.head.ts v=true\/∃l∈r.body,l.neg=true/\Bc l.a.ts v=true)->∃l∈r.body,l.neg=false/\Bc l.a.ts v=true
theorem wC {a:C3}(h3:a.ts.length<=3)(ν:Nu):J0 a.ts (Bq a ν)=true:=by
 unfold J0;rw[Abg];intro i hi;have hi:i<a.ts.length:=by simpa using hi
 have hg:(Bq a ν)[i]?=some (He ν a.ts[i]):=by
  unfold Bq;rw[Im (by simpa using hi) (by simpa using h3)];simp
 unfold Qc;rw[List.getElem?_eq_getElem hi,hg];cases ht:a.ts[i]with
 |mk b n=>
  cases b with
  |false=>simp[He]
  |true=>
   have hm:(true,n)∈a.ts:=by rw[<-ht];exact Acz hi
   have:=H6 (ν:=ν) h3 (hasV_iff.2 hm);unfold Gy at this;simp only;rw[this];simp[He]
theorem uQ {a:C3}{t:Ca}{l:List Int}(h3:a.ts.length<=3)(ht:t=D7 l)(hl:l.length=a.ts.length)(hf:J0 a.ts t=true):∃μ,t=Bq a μ:=by
 refine⟨fun v=>Gy t (Hp a.ts v),?_⟩;have:a.ts.map (He fun v=>Gy t (Hp a.ts v))=l:=by
  apply List.ext_getElem (by simp[hl]);intro i h1 h2;have hi:i<a.ts.length:=by simpa using h1
  unfold J0 at hf;rw[Abg]at hf;have h:=hf i (by simpa using hi);have hg:t[i]?=some l[i]:=by rw[ht,Im h2 Ad2]
  unfold Qc at h;rw[List.getElem?_eq_getElem hi,hg]at h;rw[List.getElem_map];cases he:a.ts[i]with
  |mk b n=>
   rw[he]at h;cases b with
   |false=>
    simp only[Ady]at h;simp[He,h]
   |true=>
    simp only[Ady]at h;rw[h];simp[He,Gy]
 unfold Bq;rw[this,ht]
theorem dU {M:MM}{nw:Int}{fr i:Nat}{l:Lit}{t:Ca}(h:t∈T8 M nw fr i l):t∈A6 M l.a.p:=by
 unfold T8 at h;split at h
 ·exact List.mem_of_mem_drop h
 ·exact h
theorem Hw {M:MM}{nw:Int}{fr:Nat}{b:List Lit}{p:Part}(h:p∈Ls M nw fr b):∃(l:Lit) (i:Nat),b[i]?=some l/\l.neg=false/\p=dV M nw fr (l,i):=by
 unfold Ls at h;obtain⟨⟨l,i⟩,hx,rfl⟩:=Acm.1 h;obtain⟨h1,h2⟩:=Adi.1 hx;have:=List.mem_zipIdx_iff_getElem?.1 h1;exact⟨l,i,by simpa using this,by simpa using h2,rfl⟩
theorem lB {M:MM}{nw:Int}{fr:Nat}{b:List Lit}{l:Lit}{i:Nat}(h:b[i]?=some l)(hn:l.neg=false):dV M nw fr (l,i)∈Ls M nw fr b:=by
 unfold Ls;refine Acm.2 ⟨(l,i),Adi.2 ⟨List.mem_zipIdx_iff_getElem?.2 (by simpa using h),by simp[hn]⟩,rfl⟩
def MSh (ar:Nat->Nat)(M:MM):Prop:=∀(k:Nat) (t:Ca),t∈A6 M (k:Int)->Sh ar k t
theorem wR {E:St}{om ot:Nat}{M:MM}{d b:Int}{ar:Nat->Nat}{r:D2}(hM:MOb E om ot M d b)(hS:MSh ar M)(hr:RW M.length ar r)(nw:Int)(fr:Nat):Pi (Jq M nw fr r)/\QV (Jq M nw fr r)/\∀v,inQ (Jq M nw fr r) v->v∈(List.range 26).map fun n:Nat=>(n:Int):=by
 have hk:∀l∈r.body,∃k:Nat,l.a.p=(k:Int)/\k<M.length:=hr.rok.bp;have ac:∀a∈Pf r.body,∃l∈r.body,l.neg=true/\l.a=a:=fun a ha=>by
  obtain⟨l,hl,rfl⟩:=Acm.1 ha;obtain⟨h1,h2⟩:=Adi.1 hl;exact⟨l,h1,h2,rfl⟩
 have ak:(Pf r.body).length<=r.body.length:=by
  unfold Pf;rw[Ac9];exact Adj _ _
 have ae:∀l∈r.body,T3 (A6 M l.a.p)/\(A6 M l.a.p).length<=5000:=fun l hl=>by
  obtain⟨k,e,ai⟩:=hk l hl;have hg:M[k]?=some M[k]:=List.getElem?_eq_getElem ai;rw[e,Bw hg];have hm:=Acz ai;exact⟨hM.t3 _ hm,hM.ln _ hm⟩
 have hpl:(Ls M nw fr r.body).length<=r.body.length:=by
  unfold Ls;rw[Ac9];refine Abc (Adj _ _) (by simp)
 have aa:∀(l:Lit) (i:Nat),∀t∈(dV M nw fr (l,i)).tups,t∈A6 M l.a.p/\J0 l.a.ts t=true:=fun l i t ht=>by
  obtain⟨h1,h2⟩:=Adi.1 ht;exact⟨dU h1,h2⟩
 have ab:∀v,inQ (Jq M nw fr r) v->0<=v/\v<26:=fun v ⟨a,ha,hv⟩=>by
  unfold atomsQ Jq at ha;simp only[Ace,Ack,Acm]at ha;rcases ha with rfl|⟨p,hp,rfl⟩|ha
  ·exact hr.hv v (hasV_iff.1 hv)
  ·obtain⟨l,i,h1,h2,rfl⟩:=Hw hp;exact hr.bv l (Abh h1) v (hasV_iff.1 hv)
  ·obtain⟨l,h1,h2,rfl⟩:=ac a ha;exact hr.bv l h1 v (hasV_iff.1 hv)
 refine⟨⟨⟨hr.rok.hd,Abc hpl hr.rok.bl,Abc ak hr.rok.bl,fun p hp=>?_,fun p hp=>?_,fun p hp=>?_,fun a ha=>?_⟩,fun p hp t ht=>?_,fun p hp=>?_,fun v hv=>?_⟩,fun a ha v hv=>(ab v ⟨a,ha,hasV_iff.2 hv⟩).1,fun v hv=>?_⟩
 ·obtain⟨l,i,h1,h2,rfl⟩:=Hw hp;exact hr.rok.ba l (Abh h1)
 ·obtain⟨l,i,h1,h2,rfl⟩:=Hw hp;have h3:=(ae l (Abh h1)).2;refine Abc (Adj _ _) ?_;unfold T8;split
  ·simp;omega
  ·exact h3
 ·obtain⟨l,i,h1,h2,rfl⟩:=Hw hp;exact fun t ht=>(ae l (Abh h1)).1 t (aa l i t ht).1
 ·obtain⟨l,h1,h2,rfl⟩:=ac a ha;exact hr.rok.ba l h1
 ·obtain⟨l,i,h1,h2,rfl⟩:=Hw hp;have hl:=Abh h1;obtain⟨k,e,-⟩:=hk l hl;have h3:=(aa l i t ht).1;rw[e]at h3;obtain⟨m,rfl,ad,ah⟩:=hS k t h3;intro j hj;have af:m.length=l.a.ts.length:=by rw[ad,hr.bar l hl,e];rfl
  have aj:j<m.length:=by rw[af];exact hj
  obtain⟨n,an,am⟩:=ah m[j] (Acz aj);exact⟨n,by rw[Im aj (by rw[af];exact hr.rok.ba l hl),an],am⟩
 ·obtain⟨l,i,h1,h2,rfl⟩:=Hw hp;have hl:=Abh h1;refine⟨hr.rok.ba l hl,fun t ht=>?_⟩;obtain⟨k,e,-⟩:=hk l hl;obtain⟨h3,h4⟩:=aa l i t ht;rw[e]at h3;obtain⟨m,ao,ad,ah⟩:=hS k t h3;exact uQ (a:=l.a) (hr.rok.ba l hl) ao (by rw[ad,hr.bar l hl,e];rfl) h4
 ·obtain⟨l,hl,au,ap⟩:=hr.safe v (by
   rcases hv with h|⟨a,ha,h⟩
   ·exact .inl h
   ·obtain⟨l,h1,h2,rfl⟩:=ac a ha
    exact .inr ⟨l,h1,h2,h⟩)
  obtain⟨i,hi⟩:=List.getElem?_of_mem hl;exact⟨dV M nw fr (l,i),lB hi au,ap⟩
 ·obtain⟨h1,h2⟩:=ab v hv;rw[Acm];exact⟨v.toNat,by simp;omega,Ad2⟩
theorem lA {neg:Int->Ca->Prop}{M:MM}{nw:Int}{fr:Nat}{ar:Nat->Nat}{r:D2}{t:Ca}(hr:RW M.length ar r):Ug neg (Jq M nw fr r) t↔∃ν,(∀(l:Lit) (i:Nat),r.body[i]?=some l->l.neg=false->Bq l.a ν∈T8 M nw fr i l)/\(∀l∈r.body,l.neg=true->¬neg l.a.p (Bq l.a ν))/\t=Bq r.head ν:=by
 constructor
 ·rintro⟨ν,hν,rfl⟩;refine⟨ν,fun l i hi hn=>?_,fun l hl hn=>hν.2 l.a (Acm.2 ⟨l,Adi.2 ⟨hl,hn⟩,rfl⟩),rfl⟩;have:=hν.1 _ (lB hi hn);exact (Adi.1 this).1
 ·rintro⟨ν,h,h',rfl⟩;refine⟨ν,⟨fun p hp=>?_,fun a ha=>?_⟩,rfl⟩
  ·obtain⟨l,i,h1,h2,rfl⟩:=Hw hp;exact Adi.2 ⟨h l i h1 h2,wC (hr.rok.ba l (Abh h1)) ν⟩
  ·obtain⟨l,hl,rfl⟩:=Acm.1 ha;obtain⟨h1,h2⟩:=Adi.1 hl;exact h' l h1 h2
abbrev E0:=Nat->Ca->Prop
def zX (R:List D2)(D:E0):Prop:=∀r∈R,∀ν,(∀l∈r.body,D l.a.p.toNat (Bq l.a ν))->D r.head.p.toNat (Bq r.head ν)
def I7 (N D:E0)(ν:Nu)(l:Lit):Prop:=if l.neg=true then¬N l.a.p.toNat (Bq l.a ν)else D l.a.p.toNat (Bq l.a ν)
def ClG (R:List D2)(N D:E0):Prop:=∀r∈R,∀ν,(∀l∈r.body,I7 N D ν l)->D r.head.p.toNat (Bq r.head ν)
theorem Ys {R:List D2}{N D:E0}(h:∀r∈R,∀l∈r.body,l.neg=false):ClG R N D↔zX R D:=by
 have key:∀r∈R,∀ν,(∀l∈r.body,I7 N D ν l)↔∀l∈r.body,D l.a.p.toNat (Bq l.a ν):=fun r hr ν=>by
  constructor
  ·intro g l hl;have:=g l hl;unfold I7 at this;rw[h r hr l hl]at this;simpa using this
  ·intro g l hl;unfold I7;rw[h r hr l hl];simpa using g l hl
 exact⟨fun g r hr ν hν=>g r hr ν ((key r hr ν).2 hν),fun g r hr ν hν=>g r hr ν ((key r hr ν).1 hν)⟩
def MD (M:MM):E0:=fun k t=>t∈A6 M (k:Int)
def tot (M:MM):Int:=(Gu M).sum
structure GroA (D:E0)(M M':MM)(d d':Int):Prop where
 len:M'.length=M.length
 ext:∀k:Nat,∃new:List Ca,A6 M' k=A6 M k++new/\new.Nodup/\∀t∈new,D k t/\t∉A6 M k
 cnt:d'-d=tot M'-tot M
theorem GroA.refl (D:E0)(M:MM)(d:Int):GroA D M M d d:=⟨rfl,fun k=>⟨[],by simp,Adc,by simp⟩,Ad2⟩
theorem GroA.trans {D:E0}{M M1 M2:MM}{d d1 d2:Int}(h:GroA D M M1 d d1)(g:GroA D M1 M2 d1 d2):GroA D M M2 d d2:=by
 refine⟨g.len.trans h.len,fun k=>?_,by have:=h.cnt;have:=g.cnt;omega⟩;obtain⟨n1,a1,a2,a3⟩:=h.ext k;obtain⟨n2,b1,b2,b3⟩:=g.ext k;refine⟨n1++n2,by rw[b1,a1,Ab4],?_,?_⟩
 ·rw[Adb];exact⟨a2,b2,fun x hx y hy e=>(b3 y hy).2 (by rw[a1,<-e];exact Ack.2 (.inr hx))⟩
 ·intro t ht;rcases Ack.1 ht with ht|ht
  ·exact a3 t ht
  ·exact⟨(b3 t ht).1,fun hm=>(b3 t ht).2 (by rw[a1];exact Ack.2 (.inl hm))⟩
theorem GroA.sub {D:E0}{M M':MM}{d d':Int}(h:GroA D M M' d d'){k:Nat}{t:Ca}(ht:t∈A6 M k):t∈A6 M' k:=by
 obtain⟨n,a1,-,-⟩:=h.ext k;rw[a1];exact Ack.2 (.inl ht)
theorem GroA.inD {D:E0}{M M':MM}{d d':Int}(h:GroA D M M' d d')(hD:∀k t,MD M k t->D k t):∀k t,MD M' k t->D k t:=fun k t ht=>by
 obtain⟨n,a1,-,a3⟩:=h.ext k;unfold MD at ht;rw[a1]at ht;rcases Ack.1 ht with ht|ht
 ·exact hD k t ht
 ·exact (a3 t ht).1
theorem Dz (x:Nat×List Ca)(M:MM):tot (x::M)=(x.2.length:Int)+tot M:=by simp[tot,Gu]
theorem M8:∀(M M':MM) (k:Nat) (n:Nat),M'.length=M.length->(∀j,j≠k->(M'[j]?).map (·.2)=(M[j]?).map (·.2))->(k<M.length->((A6 M' k).length:Int)=(A6 M k).length+n)->(M.length<=k->n=0)->tot M'=tot M+n
 |[],M',k,n,hl,ho,hk,hn=>by
  have:M'=[]:=Abl (by simpa using hl);subst this;have:=hn (by simp);subst this;simp[tot,Gu]
 |x::M,[],k,n,hl,ho,hk,hn=>by simp at hl
 |x::M,y::M',0,n,hl,ho,hk,hn=>by
  have h0:=hk (by simp);simp[A6]at h0;have aa:tot M'=tot M+(0:Nat):=M8 M M' M.length 0 (by simpa using hl) (fun j hj=>by have:=ho (j+1) Ad2;simpa using this) (fun h=>Ad2) (fun _=>rfl);rw[Dz,Dz,aa];omega
 |x::M,y::M',k+1,n,hl,ho,hk,hn=>by
  have h0:=ho 0 Ad2;simp at h0
  have aa:=M8 M M' k n (by simpa using hl) (fun j hj=>by have:=ho (j+1) Ad2;simpa using this) (fun h=>by
   have:=hk (by simp;omega)
   simpa[A6]using this) (fun h=>hn (by simp;omega))
  rw[Dz,Dz,aa,h0];omega
theorem Gro.all {k:Nat}{S:Ca->Prop}{D:E0}{M M':MM}{d d':Int}(h:Gro k S M M' d d')(hk:k<M.length)(hS:∀t,S t->D k t):GroA D M M' d d':=by
 obtain⟨n,a1,a2,a3,a4⟩:=h.ext;refine⟨h.len,fun j=>?_,?_⟩
 ·by_cases e:j=k
  ·subst e;exact⟨n,a1,a2,fun t ht=>⟨hS t (a3 t ht).1,(a3 t ht).2⟩⟩
  ·refine⟨[],?_,Adc,by simp⟩;have:=h.oth j e;unfold A6;simp only[Adk];rw[this];simp
 ·have:=M8 M M' k n.length h.len h.oth (fun _=>by rw[a1];simp) (fun hh=>Ad2);omega
set_option maxRecDepth 100000
theorem Yz (a:D2)(c:List AV)(h:eL a c):c.length=4:=by obtain⟨o,ih,ib,bc,rfl,-⟩:=h;rfl
theorem lG {l:List D2}{cs:List AV}{i:Nat}{r:D2}(h:EL eL l cs)(hi:l[i]?=some r):∃o ih ib bc rr,cs.drop (i*4)=sc (.bool o)::ic r.head.p::sl ih r.head.ts.length (Ac r.head.ts)::sl ib r.body.length bc::rr/\EL Od r.body bc:=by
 obtain⟨c,rr,⟨o,ih,ib,bc,rfl,hB⟩,e⟩:=EL.get Yz h hi;exact⟨o,ih,ib,bc,rr,e,hB⟩
def NgIn (R:List D2)(D:E0)(M:MM):Prop:=∀r∈R,∀l∈r.body,l.neg=true->∀t,D l.a.p.toNat t->MD M l.a.p.toNat t
theorem NgIn.gro {R:List D2}{D:E0}{M M':MM}{d d':Int}(h:NgIn R D M)(g:GroA D M M' d d'):NgIn R D M':=fun r hr l hl hn t ht=>g.sub (h r hr l hl hn t ht)
def ngD (D:E0):Int->Ca->Prop:=fun p t=>D p.toNat t
structure zW (np:Nat)(ar:Nat->Nat)(R:List D2)(D:E0):Prop where
 rw:∀r∈R,RW np ar r
 cl:ClG R D D
 sh:∀k t,D k t->Sh ar k t
theorem wQ {np:Nat}{ar:Nat->Nat}{R:List D2}{D:E0}{M:MM}{nw:Int}{fr:Nat}{r:D2}(hF:zW np ar R D)(hn:M.length=np)(hr:r∈R)(hD:∀k t,MD M k t->D k t){t:Ca}(ht:Ug (ngD D) (Jq M nw fr r) t):D r.head.p.toNat t:=by
 obtain⟨ν,h1,h2,rfl⟩:=(lA (ar:=ar) (hn ▸ hF.rw r hr)).1 ht;refine hF.cl r hr ν (fun l hl=>?_);unfold I7;cases aa:l.neg with
 |true=>simpa[ngD]using h2 l hl aa
 |false=>
  obtain⟨i,hi⟩:=List.getElem?_of_mem hl;obtain⟨k,hk,-⟩:=(hF.rw r hr).rok.bp l hl;have:=dU (h1 l i hi aa);rw[hk]at this;simp only[Ab7,if_false];rw[hk];exact hD k _ this
theorem T7 {np:Nat}{ar:Nat->Nat}{R:List D2}{D:E0}(hF:zW np ar R D)(om ot:Nat)(b:Int)(ak: -1000000<=b)(aj:b<=900000)(M:MM)(d:Int)(hn:M.length=np)(hD:∀k t,MD M k t->D k t)(am:NgIn R D M)(hR:Room M d b)(ai: -1000000<=d)(ah:d<=1000000)(r:D2)(hr:r∈R)(nw:Int)(fr:Nat)(c:List AV)(hc:EQ (Jq M nw fr r) c)(E:St)(hM:MOb E om ot M d b):
  ACalls Tryz.prog 139 [ptr om 0,ag c] E fun x E'=>∃M' d',MOb E' om ot M' d' b/\KM om ot M M' E E'/\GroA D M M' d d'/\Room M' d' b/\d'<=1000000/\d<=d'/\(¬b<d'->∀ν,(∀(l:Lit) (i:Nat),r.body[i]?=some l->l.neg=false->Bq l.a ν∈T8 M nw fr i l)->(∀l∈r.body,l.neg=true->¬D l.a.p.toNat (Bq l.a ν))->MD M' r.head.p.toNat (Bq r.head ν)):=by
 have aa:RW M.length ar r:=hn ▸ hF.rw r hr;obtain⟨a1,a2,a3⟩:=wR hM (fun k t ht=>hF.sh k t (hD k t ht)) aa nw fr;obtain⟨k,hk,ad⟩:=aa.rok.hp;have ac:∀a∈(Jq M nw fr r).nots,∃l∈r.body,l.neg=true/\l.a=a:=fun a ha=>by
  obtain⟨l,hl,rfl⟩:=Acm.1 ha;obtain⟨h1,h2⟩:=Adi.1 hl;exact⟨l,h1,h2,rfl⟩
 have b1:NegOk (ngD D) M (Jq M nw fr r):=fun a ha=>by
  obtain⟨l,h1,h2,rfl⟩:=ac a ha;obtain⟨j,hj,af⟩:=aa.rok.bp l h1;have hg:M[j]?=some M[j]:=List.getElem?_eq_getElem af;refine⟨j,M[j],hj,hg,fun t=>?_⟩;have hT:=Bw hg;have e:l.a.p.toNat=j:=by rw[hj];rfl
  unfold ngD;rw[e];constructor
  ·intro ht;have:=am r hr l h1 h2 t (by rw[e];exact ht);rw[e]at this;unfold MD at this;rwa[hT]at this
  ·intro ht;exact hD j t (by unfold MD;rw[hT];exact ht)
 have b2:∀a∈(Jq M nw fr r).nots,a.p≠(k:Int):=fun a ha e=>by
  obtain⟨l,h1,h2,rfl⟩:=ac a ha;exact aa.nne l h1 h2 (by rw[e,hk])
 have:=Yn (ngD D) om ot b _ _ (Abb _) (Jq M nw fr r) c k M d hc a1 b1 b2 a2 hk ad hR ai ah ak aj a3 E hM;refine ACalls.mono this ?_;rintro x E' ⟨M',d',h1,h2,h3,h4,h5⟩;have ab:r.head.p.toNat=k:=by rw[hk];rfl
 refine⟨M',d',h1,h2,h3.all ad (fun t ht=>by rw[<-ab];exact wQ hF hn hr hD ht),h3.room hR,h4,h3.le,fun ae ν hν hν'=>?_⟩;unfold MD;rw[ab];exact h5 ae _ ((lA aa).2 ⟨ν,hν,hν',rfl⟩)
def NewR (D:E0)(M0 M':MM)(seen:List Int)(r:D2)(j:Nat):Prop:=∀(i:Nat) (l:Lit),i<j->r.body[i]?=some l->l.neg=false->∀ν,(∀l'∈r.body,I7 D (MD M0) ν l')->Bq l.a ν∈(A6 M0 l.a.p).drop ((seen[l.a.p.toNat]?).getD 0).toNat->MD M' r.head.p.toNat (Bq r.head ν)
theorem NewR.mono {D:E0}{M0 M1 M2:MM}{seen:List Int}{r:D2}{j:Nat}{d1 d2:Int}(h:NewR D M0 M1 seen r j)(g:GroA D M1 M2 d1 d2):NewR D M0 M2 seen r j:=fun i l hi hl hn ν h1 h2=>g.sub (h i l hi hl hn ν h1 h2)
theorem Qf {np:Nat}{ar:Nat->Nat}{R:List D2}{D:E0}(hF:zW np ar R D)(om ot:Nat)(b:Int)(ce: -1000000<=b)(cd:b<=900000)(M:MM)(d:Int)(hn:M.length=np)(hD:∀k t,MD M k t->D k t)(cj:NgIn R D M)(cg:Room M d b)(db: -1000000<=d)(ca:d<=1000000)(rc:List AV)(idr:Nat)(bd:EL eL R rc)(dd:R.length<=1000)(seen:List Int)(ids:Nat)(bz:seen.length=np)(b1:∀n∈seen,0<=n/\n<=5000)(E:St)(hM:MOb E om ot M d b):
  ACalls Tryz.prog 141 [ptr om 0,sl idr R.length rc,sl ids seen.length (Ar seen)] E fun x E'=>∃M' d',MOb E' om ot M' d' b/\KM om ot M M' E E'/\GroA D M M' d d'/\Room M' d' b/\d'<=1000000/\d<=d'/\(¬b<d'->∀r∈R,NewR D M M' seen r r.body.length):=by
 have cz:=EL.length Yz bd;have cx:=Bn seen;have hpl:=hM.pl;have cy:np<=seen.length:=Ad2;have c8:M.length<=np:=Ad2;have c7:np<=M.length:=Ad2;have bo:Ad8 (M.length=np):=hn;clear bz hn;refine Z9 59 [] Tryz.func141 ?_
 repeat' (first|refine Z1 ?_|(refine Z8 ?_;intro κ hκ)|(refine Z4 ?_;clear hκ κ)|(refine Z2 ?_ ?_<;>intro h ab<;>try exact Xp)|refine Z3 ?_|exact⟨⟩|(apply hκ.out;clear hκ κ))
 refine Ad (fun m s E'=>∃(k:Nat) (M1:MM) (d1:Int),m=R.length-k/\k<=R.length/\s 0=ptr om 0/\s 2=sl ids seen.length (Ar seen)/\s 12=sl idr R.length rc/\s 13=ic R.length/\s 14=ic k/\MOb E' om ot M1 d1 b/\KM om ot M M1 E E'/\d1<=1000000/\d<=d1/\Ad8 (GroA D M M1 d d1/\Room M1 d1 b/\(¬b<d1->∀r∈R.take k,NewR D M M1 seen r r.body.length))) R.length
  ⟨0,M,d,Ad2,Ad2,by simp[upd,initS],by simp[upd,initS],Ad4,Ad4,rfl,hM,KM.ofKeep (Keep.refl _),ca,Ad2,GroA.refl _ _ _,cg,fun _ r hr=>by simp at hr⟩ ?_
 rintro m s E' ⟨k,M1,d1,rfl,hk,h0,h2,bn,bm,bi,aw,an,am,ak,hG⟩;by_cases be:k<R.length
 ·have aa:=List.getElem?_eq_getElem be;obtain⟨o,ih,ib,bc,rr,hd,hB⟩:=lG bd aa;have ad:=Acz be;generalize R[k]=r at hd aa ad hB;have cv:Ad8 (R.take (k+1)=R.take k++[r]):=by rw[Ad8,Abq,aa,Ac2]
  clear aa;have dc:=EL.length Fv hB;have cb:=(hF.rw r ad).rok.bl;have l1:=aw.lo;have l2:=aw.lt
  repeat' (first|refine Z1 ?_|(refine Z8 ?_;intro κ hκ)|(refine Z4 ?_;clear hκ κ)|(refine Z2 ?_ ?_<;>intro h ab<;>try exact Xp)|refine Z3 ?_|exact⟨⟩|(apply hκ.out;clear hκ κ))
  refine Ad (fun m s E2=>∃(j:Nat) (M2:MM) (d2:Int),m=r.body.length-j/\j<=r.body.length/\s 0=ptr om 0/\s 2=sl ids seen.length (Ar seen)/\s 7=ptr E'.nobj 0/\s 12=sl idr R.length rc/\s 13=ic R.length/\s 14=ic k/\s 19=sl ib r.body.length bc/\s 20=ic r.body.length/\s 21=ic j/\MOb E2 om ot M2 d2 b/\KM om ot M M2 E E2/\E'.nobj<E2.nobj/\E2.obj E'.nobj=[sc (.bool o),ic r.head.p,sl ih r.head.ts.length (Ac r.head.ts),sl ib r.body.length bc]/\d2<=1000000/\d<=d2/\Ad8 (GroA D M M2 d d2/\Room M2 d2 b/\(¬b<d2->(∀r∈R.take k,NewR D M M2 seen r r.body.length)/\NewR D M M2 seen r j))) r.body.length
   ⟨0,M1,d1,Ad2,Ad2,Ad3,Ad3,Ad4,Ad3,Ad3,Ad3,Ad4,Ad4,rfl,aw.keep (((Keep.refl _).new _).put (Abb _) _),an.trans (KM.ofKeep (((Keep.refl _).new _).put (Abb _) _)),Ad7,Aj,am,ak,hG.out.1,hG.out.2.1,fun h=>⟨hG.out.2.2 h,fun i l hi=>Ad2⟩⟩ ?_
  have cu:om≠E'.nobj:=Ad2;have ct:ot≠E'.nobj:=Ad2;clear h0 h2 bn bm bi aw an hG am ak l1 l2;rintro m s E2 ⟨j,M2,d2,rfl,hj,h0,h2,h7,bn,bm,bi,dh,df,de,af,au,c6,br,a8,b9,hG⟩;have l1:=af.lo;have l2:=af.lt;by_cases ay:j<r.body.length
  ·have aa:=List.getElem?_eq_getElem ay;obtain⟨id,r2,aj⟩:=Gf hB aa;have bf:=Acz ay;generalize r.body[j]=w at aj aa bf;obtain⟨p,hp,c5⟩:=(hF.rw r ad).rok.bp w bf;have HW:Ad8 (r.body[j]?=some w):=aa;clear aa;rw[hp]at aj;have a3:seen[p]?=some seen[p]:=List.getElem?_eq_getElem Ad2;obtain⟨rs,b7⟩:=C8 a3;have b0:=b1 _ (Acz (show p<seen.length by omega));generalize seen[p]=f at a3 b7 b0;obtain⟨fn,rfl⟩:∃fn:Nat,f=(fn:Int):=⟨f.toNat,Ad2⟩;have cn:M2.length<=M.length/\M.length<=M2.length:=by have:=hG.out.1.len;omega
   have ai:M2[p]?=some M2[p]:=List.getElem?_eq_getElem Ad2;generalize M2[p]=y at ai;have da:=Hl ai;have cw:=af.ln y (Abh ai);have c9:=Hk M2;have obm:=af.ob;have obt:=af.oc;have b2:=af.pl;have cf:Ad8 (A6 M2 (p:Int)=y.2):=Bw ai
   --what this literal's turn must bring
   have ac:Ad8 (∀M3 d3,GroA D M2 M3 d2 d3->(¬b<d3->w.neg=false->∀ν,(∀l'∈r.body,I7 D (MD M) ν l')->Bq w.a ν∈(A6 M w.a.p).drop fn->MD M3 r.head.p.toNat (Bq r.head ν))->d2<=d3->(¬b<d3->(∀r∈R.take k,NewR D M M3 seen r r.body.length)/\NewR D M M3 seen r (j+1))):=fun M3 d3 bg ah b3 a5=>by
    obtain⟨g1,g2⟩:=hG.out.2.2 Ad2;refine⟨fun r' az=>(g1 r' az).mono bg,fun i l hi hl av ν a1 a2=>?_⟩;by_cases e:i=j
    ·subst e;rw[HW.out]at hl;obtain rfl:=Ac5 hl;refine ah a5 av ν a1 ?_;rw[hp]at a2⊢;rw[Adk,a3]at a2;simpa using a2
    ·exact bg.sub (g2 i l Ad2 hl av ν a1 a2)
   cases ae:w.neg with
   |true=>
    have HN:Ad8 (GroA D M M2 d d2/\Room M2 d2 b/\(¬b<d2->(∀r∈R.take k,NewR D M M2 seen r r.body.length)/\NewR D M M2 seen r (j+1))):=
     ⟨hG.out.1,hG.out.2.1,ac.out M2 d2 (GroA.refl _ _ _) (fun _ hh=>by rw[ae]at hh;cases hh) Ad2⟩
    rw[ae]at aj;clear ac ae
    repeat' (first|refine Z1 ?_|(refine Z8 ?_;intro κ hκ)|(refine Z4 ?_;clear hκ κ)|(refine Z2 ?_ ?_<;>intro h ab<;>try exact Xp)|refine Z3 ?_|exact⟨⟩|(apply hκ.out;clear hκ κ))
    refine Bt Ak (fun _=>True) [] [0,1,2,3,4,5,6,7,8,9,10,11,12,13,14,15,16] [] Ad5 (fun _ _ _ h=>h) ?_;intro κ hκ
    repeat' (first|refine Z1 ?_|(refine Z8 ?_;intro κ hκ)|(refine Z4 ?_;clear hκ κ)|(refine Z2 ?_ ?_<;>intro h ab<;>try exact Xp)|refine Z3 ?_|exact⟨⟩|(apply hκ.out;clear hκ κ))
    refine⟨r.body.length-(j+1),Ad2,j+1,M2,d2,?_⟩
    ((repeat' with_reducible refine And.intro ?_ ?_)<;>first|exact Xq|exact (HN)|exact (af.keep (((Keep.refl _).new _).put (Abb _) _))|exact (au.trans (KM.ofKeep (((Keep.refl _).new _).put (Abb _) _)))|exact Xs)
   |false=>
    rw[ae]at aj;clear ae
    repeat' (first|refine Z1 ?_|(refine Z8 ?_;intro κ hκ)|(refine Z4 ?_;clear hκ κ)|(refine Z2 ?_ ?_<;>intro h ab<;>try exact Xp)|refine Z3 ?_|exact⟨⟩|(apply hκ.out;clear hκ κ))
    refine Bt Ak (fun _=>True) [] [0,1,2,3,4,5,6,7,8,9,10,11,12,13,14,15,16] [] Ad5 (fun _ _ _ h=>h) ?_;intro κ hκ;by_cases a6:fn<y.2.length
    ·have b6:decide ((fn:Int)<(y.2.length:Int))=true:=by simp;exact a6
     have cr:=fun E (h:MOb E om ot M2 d2 b)=>Ws om ot M2 d2 b r [sc (.bool o),ic r.head.p,sl ih r.head.ts.length (Ac r.head.ts),sl ib r.body.length bc] (j:Int) fn ⟨o,ih,ib,bc,rfl,hB⟩ (by have:=hG.out.1.len;rw[this,bo.out];exact (hF.rw r ad).rok) Ad2 E h;have cp:Ad8 (∀c3,EQ (Jq M2 (j:Int) fn r) c3->∀E,MOb E om ot M2 d2 b->ACalls Tryz.prog 139 [ptr om 0,ag c3] E fun x E'=>∃M' d',MOb E' om ot M' d' b/\KM om ot M2 M' E E'/\GroA D M2 M' d2 d'/\Room M' d' b/\d'<=1000000/\d2<=d'/\(¬b<d'->∀ν,(∀(l:Lit) (i:Nat),r.body[i]?=some l->l.neg=false->Bq l.a ν∈T8 M2 (j:Int) fn i l)->(∀l∈r.body,l.neg=true->¬D l.a.p.toNat (Bq l.a ν))->MD M' r.head.p.toNat (Bq r.head ν))):=fun c3 h3 E hh=>
      T7 hF om ot b ce cd M2 d2 (by have:=hG.out.1.len;rw[this];exact bo.out) (hG.out.1.inD hD) (cj.gro hG.out.1) hG.out.2.1 Ad2 a8 r ad (j:Int) fn c3 h3 E hh
     clear a6
     repeat' (first|refine Z1 ?_|(refine Z8 ?_;intro κ hκ)|(refine Z4 ?_;clear hκ κ)|(refine Z2 ?_ ?_<;>intro h ab<;>try exact Xp)|(refine Z5 ?_;first|(refine Xi (cr _ (af.keep (Xs))) ?_;rintro _ _ ⟨⟨_,rfl,ih3,ip3,in3,pc3,nc3,rfl,ci,ck⟩,ba⟩;(have a0:=ba.nobj;have ax:=ba.obj;simp only[Ab,Aa]at a0 ax;have co:=(((Keep.refl E2).new _).put (Abb _) _).trans ba;have cq:=cp.out _ ⟨ih3,ip3,in3,pc3,nc3,rfl,ci,ck⟩))|(refine Xi (cq _ (af.keep (Xs))) ?_;rintro _ _ ⟨M3,d3,cm,ap,bh,ch,b8,a7,ah⟩;(have bq:Ad8 _:=bh;have bb:Ad8 _:=ah;clear bh ah;have kn3:=ap.nobj;simp only[Ab,Aa]at kn3;have bw:=ap.obj E'.nobj (by simp only[Ab,Aa];omega) cu.symm ct.symm;have a9:=(au.trans (KM.ofKeep ((co.new _).put Ad2 _))).trans ap)))|refine Z3 ?_|exact⟨⟩|(apply hκ.out;clear hκ κ))
     have HN:Ad8 (GroA D M M3 d d3/\Room M3 d3 b/\(¬b<d3->(∀r∈R.take k,NewR D M M3 seen r r.body.length)/\NewR D M M3 seen r (j+1))):=by
      refine⟨hG.out.1.trans bq.out,ch,ac.out M3 d3 bq.out (fun a5 _ ν a1 a2=>bb.out a5 ν (fun l i hl av=>?_) (fun l hl av=>by
       have:=a1 l hl;unfold I7 at this;rw[av]at this
       simpa using this)) a7⟩
      have ao:=Abh hl;obtain⟨p',a4,-⟩:=(hF.rw r ad).rok.bp l ao;obtain⟨nw,e1,-,-⟩:=hG.out.1.ext p';unfold T8;by_cases e:(i:Int)=(j:Int)
      ·rw[if_pos e];have:i=j:=Ad2;subst this;rw[HW.out]at hl;obtain rfl:=Ac5 hl;rw[a4]at a2⊢;rw[e1,List.drop_append];exact Ack.2 (.inl a2)
      ·rw[if_neg e];have:=a1 l ao;unfold I7 MD at this;rw[av,a4]at this;simp only[Ab7,if_false,Adk]at this;rw[a4,e1];exact Ack.2 (.inl this)
     refine⟨r.body.length-(j+1),Ad2,j+1,M3,d3,?_⟩;have bv:∀S:St,S.obj E'.nobj=E2.obj E'.nobj->S.obj E'.nobj=[sc (.bool o),ic r.head.p,sl ih r.head.ts.length (Ac r.head.ts),sl ib r.body.length bc]:=fun S e=>by rw[e,br]
     have bu:=bv _ (by rw[bw,Ai Ad2,Ae Ad2,ax _ Ad2,Ai Ad2,Ae Ad2])
     ((repeat' with_reducible refine And.intro ?_ ?_)<;>first|exact Xq|exact (HN)|exact (cm)|exact (a9)|exact (bu)|exact Xs)
    ·have b6:decide ((fn:Int)<(y.2.length:Int))=false:=by simp;omega
     have HN:Ad8 (GroA D M M2 d d2/\Room M2 d2 b/\(¬b<d2->(∀r∈R.take k,NewR D M M2 seen r r.body.length)/\NewR D M M2 seen r (j+1))):=by
      refine⟨hG.out.1,hG.out.2.1,ac.out M2 d2 (GroA.refl _ _ _) (fun _ _ ν _ a2=>?_) Ad2⟩;exfalso;obtain⟨nw,e1,-,-⟩:=hG.out.1.ext p;rw[cf.out]at e1;have b3:(A6 M (p:Int)).length<=y.2.length:=by rw[e1];simp
      rw[hp,Abk Ad2]at a2;cases a2
     clear a6 ac
     repeat' (first|refine Z1 ?_|(refine Z8 ?_;intro κ hκ)|(refine Z4 ?_;clear hκ κ)|(refine Z2 ?_ ?_<;>intro h ab<;>try exact Xp)|refine Z3 ?_|exact⟨⟩|(apply hκ.out;clear hκ κ))
     refine⟨r.body.length-(j+1),Ad2,j+1,M2,d2,?_⟩
     ((repeat' with_reducible refine And.intro ?_ ?_)<;>first|exact Xq|exact (HN)|exact (af.keep (((Keep.refl _).new _).put (Abb _) _))|exact (au.trans (KM.ofKeep (((Keep.refl _).new _).put (Abb _) _)))|exact Xs)
  ·have b5:j=r.body.length:=Ad2;subst b5;have HN:Ad8 (GroA D M M2 d d2/\Room M2 d2 b/\(¬b<d2->∀r∈R.take (k+1),NewR D M M2 seen r r.body.length)):=by
    obtain⟨g1,g2,g3⟩:=hG.out;refine⟨g1,g2,fun h r' az=>?_⟩;rw[cv.out]at az;rcases Ack.1 az with h'|h'
    ·exact (g3 h).1 r' h'
    ·simp at h';subst h';exact (g3 h).2
   repeat' (first|refine Z1 ?_|(refine Z8 ?_;intro κ hκ)|(refine Z4 ?_;clear hκ κ)|(refine Z2 ?_ ?_<;>intro h ab<;>try exact Xp)|refine Z3 ?_|exact⟨⟩|(apply hκ.out;clear hκ κ))
   refine⟨R.length-(k+1),Ad2,k+1,M2,d2,?_⟩
   ((repeat' with_reducible refine And.intro ?_ ?_)<;>first|exact Xq|exact (HN)|exact Xs)
 ·have b4:k=R.length:=Ad2;subst b4;obtain⟨g1,g2,g3⟩:=hG.out;rw[Abn]at g3
  repeat' (first|refine Z1 ?_|(refine Z8 ?_;intro κ hκ)|(refine Z4 ?_;clear hκ κ)|(refine Z2 ?_ ?_<;>intro h ab<;>try exact Xp)|refine Z3 ?_|exact⟨⟩|(apply hκ.out;clear hκ κ))
  first|exact⟨_,rfl,M1,d1,aw,an,g1,g2,am,ak,g3⟩|exact⟨M1,d1,aw,an,g1,g2,am,ak,g3⟩
end Go.Proofs.YtmoeoppbmhfbpabGreatDoorH
