import Derived.Test.YtmoeoppbmhfbpabGreatDoorGEngY
set_option maxHeartbeats 32000000
set_option maxRecDepth 100000
set_option linter.all false
namespace Go.Proofs.YtmoeoppbmhfbpabGreatDoorG
open Go.Abs
def Sh (ar:Nat->Nat)(k:Nat)(t:Ca):Prop:=∃l:List Int,t=Df l/\l.length=ar k/\∀x∈l,∃n:Nat,x=(n:Int)/\n<1026
structure RW (np:Nat)(ar:Nat->Nat)(r:D8):Prop where
 rok:ROk np r
 nne:∀l∈r.body,l.neg=true->l.a.p≠r.head.p
 har:r.head.ts.length=ar r.head.p.toNat
 bar:∀l∈r.body,l.a.ts.length=ar l.a.p.toNat
 hc:∀t∈r.head.ts,t.1=false->∃n:Nat,t.2=(n:Int)/\n<1026
 hv:∀v,(true,v)∈r.head.ts->0<=v/\v<26
 bv:∀l∈r.body,∀v,(true,v)∈l.a.ts->0<=v/\v<26
 safe:∀v,(Bc r.head.ts v=true\/∃l∈r.body,l.neg=true/\Bc l.a.ts v=true)->∃l∈r.body,l.neg=false/\Bc l.a.ts v=true
theorem zB {a:C4}(h3:a.ts.length<=3)(ν:Nu):Kp a.ts (Bo a ν)=true:=by
 unfold Kp;rw[Ads];intro i hi;have hi:i<a.ts.length:=by simpa using hi
 have hg:(Bo a ν)[i]?=some (Et ν a.ts[i]):=by
  unfold Bo;rw[I6 (by simpa using hi) (by simpa using h3)];simp
 unfold Q7;rw[List.getElem?_eq_getElem hi,hg];cases ht:a.ts[i]with
 |mk b n=>
  cases b with
  |false=>simp[Et]
  |true=>
   have hm:(true,n)∈a.ts:=by rw[<-ht];exact Afa hi
   have:=Ip (ν:=ν) h3 (hasV_iff.2 hm);unfold Hh at this;simp only;rw[this];simp[Et]
theorem xN {a:C4}{t:Ca}{l:List Int}(h3:a.ts.length<=3)(ht:t=Df l)(hl:l.length=a.ts.length)(hf:Kp a.ts t=true):∃μ,t=Bo a μ:=by
 refine⟨fun v=>Hh t (H5 a.ts v),?_⟩;have:a.ts.map (Et fun v=>Hh t (H5 a.ts v))=l:=by
  apply List.ext_getElem (by simp[hl]);intro i h1 h2;have hi:i<a.ts.length:=by simpa using h1
  unfold Kp at hf;rw[Ads]at hf;have h:=hf i (by simpa using hi);have hg:t[i]?=some l[i]:=by rw[ht,I6 h2 Agm]
  unfold Q7 at h;rw[List.getElem?_eq_getElem hi,hg]at h;rw[List.getElem_map];cases he:a.ts[i]with
  |mk b n=>
   rw[he]at h;cases b with
   |false=>
    simp only[Agj]at h;simp[Et,h]
   |true=>
    simp only[Agj]at h;rw[h];simp[Et,Hh]
 unfold Bo;rw[this,ht]
theorem fO {M:MM}{nw:Int}{fr i:Nat}{l:Lit}{t:Ca}(h:t∈U5 M nw fr i l):t∈A5 M l.a.p:=by
 unfold U5 at h;split at h
 ·exact List.mem_of_mem_drop h
 ·exact h
theorem Ic {M:MM}{nw:Int}{fr:Nat}{b:List Lit}{p:Part}(h:p∈Mk M nw fr b):∃(l:Lit) (i:Nat),b[i]?=some l/\l.neg=false/\p=fP M nw fr (l,i):=by
 unfold Mk at h;obtain⟨⟨l,i⟩,hx,rfl⟩:=Aey.1 h;obtain⟨h1,h2⟩:=Afx.1 hx;have:=List.mem_zipIdx_iff_getElem?.1 h1;exact⟨l,i,by simpa using this,by simpa using h2,rfl⟩
theorem nE {M:MM}{nw:Int}{fr:Nat}{b:List Lit}{l:Lit}{i:Nat}(h:b[i]?=some l)(hn:l.neg=false):fP M nw fr (l,i)∈Mk M nw fr b:=by
 unfold Mk;refine Aey.2 ⟨(l,i),Afx.2 ⟨List.mem_zipIdx_iff_getElem?.2 (by simpa using h),by simp[hn]⟩,rfl⟩
def MSh (ar:Nat->Nat)(M:MM):Prop:=∀(k:Nat) (t:Ca),t∈A5 M (k:Int)->Sh ar k t
theorem zS {E:St}{om ot:Nat}{M:MM}{d b:Int}{ar:Nat->Nat}{r:D8}(hM:MOb E om ot M d b)(hS:MSh ar M)(hr:RW M.length ar r)(nw:Int)(fr:Nat):Qc (Kb M nw fr r)/\QV (Kb M nw fr r)/\∀v,inQ (Kb M nw fr r) v->v∈(List.range 26).map fun n:Nat=>(n:Int):=by
 have hk:∀l∈r.body,∃k:Nat,l.a.p=(k:Int)/\k<M.length:=hr.rok.bp;have ac:∀a∈Qa r.body,∃l∈r.body,l.neg=true/\l.a=a:=fun a ha=>by
  obtain⟨l,hl,rfl⟩:=Aey.1 ha;obtain⟨h1,h2⟩:=Afx.1 hl;exact⟨l,h1,h2,rfl⟩
 have ak:(Qa r.body).length<=r.body.length:=by
  unfold Qa;rw[Afo];exact Afy _ _
 have ae:∀l∈r.body,T3 (A5 M l.a.p)/\(A5 M l.a.p).length<=5000:=fun l hl=>by
  obtain⟨k,e,ai⟩:=hk l hl;have hg:M[k]?=some M[k]:=List.getElem?_eq_getElem ai;rw[e,B7 hg];have hm:=Afa ai;exact⟨hM.t3 _ hm,hM.ln _ hm⟩
 have hpl:(Mk M nw fr r.body).length<=r.body.length:=by
  unfold Mk;rw[Afo];refine Ado (Afy _ _) (by simp)
 have aa:∀(l:Lit) (i:Nat),∀t∈(fP M nw fr (l,i)).tups,t∈A5 M l.a.p/\Kp l.a.ts t=true:=fun l i t ht=>by
  obtain⟨h1,h2⟩:=Afx.1 ht;exact⟨fO h1,h2⟩
 have ab:∀v,inQ (Kb M nw fr r) v->0<=v/\v<26:=fun v ⟨a,ha,hv⟩=>by
  unfold atomsQ Kb at ha;simp only[Aeq,Aew,Aey]at ha;rcases ha with rfl|⟨p,hp,rfl⟩|ha
  ·exact hr.hv v (hasV_iff.1 hv)
  ·obtain⟨l,i,h1,h2,rfl⟩:=Ic hp;exact hr.bv l (Adt h1) v (hasV_iff.1 hv)
  ·obtain⟨l,h1,h2,rfl⟩:=ac a ha;exact hr.bv l h1 v (hasV_iff.1 hv)
 refine⟨⟨⟨hr.rok.hd,Ado hpl hr.rok.bl,Ado ak hr.rok.bl,fun p hp=>?_,fun p hp=>?_,fun p hp=>?_,fun a ha=>?_⟩,fun p hp t ht=>?_,fun p hp=>?_,fun v hv=>?_⟩,fun a ha v hv=>(ab v ⟨a,ha,hasV_iff.2 hv⟩).1,fun v hv=>?_⟩
 ·obtain⟨l,i,h1,h2,rfl⟩:=Ic hp;exact hr.rok.ba l (Adt h1)
 ·obtain⟨l,i,h1,h2,rfl⟩:=Ic hp;have h3:=(ae l (Adt h1)).2;refine Ado (Afy _ _) ?_;unfold U5;split
  ·simp;omega
  ·exact h3
 ·obtain⟨l,i,h1,h2,rfl⟩:=Ic hp;exact fun t ht=>(ae l (Adt h1)).1 t (aa l i t ht).1
 ·obtain⟨l,h1,h2,rfl⟩:=ac a ha;exact hr.rok.ba l h1
 ·obtain⟨l,i,h1,h2,rfl⟩:=Ic hp;have hl:=Adt h1;obtain⟨k,e,-⟩:=hk l hl;have h3:=(aa l i t ht).1;rw[e]at h3;obtain⟨m,rfl,ad,ah⟩:=hS k t h3;intro j hj;have af:m.length=l.a.ts.length:=by rw[ad,hr.bar l hl,e];rfl
  have aj:j<m.length:=by rw[af];exact hj
  obtain⟨n,an,am⟩:=ah m[j] (Afa aj);exact⟨n,by rw[I6 aj (by rw[af];exact hr.rok.ba l hl),an],am⟩
 ·obtain⟨l,i,h1,h2,rfl⟩:=Ic hp;have hl:=Adt h1;refine⟨hr.rok.ba l hl,fun t ht=>?_⟩;obtain⟨k,e,-⟩:=hk l hl;obtain⟨h3,h4⟩:=aa l i t ht;rw[e]at h3;obtain⟨m,ao,ad,ah⟩:=hS k t h3;exact xN (a:=l.a) (hr.rok.ba l hl) ao (by rw[ad,hr.bar l hl,e];rfl) h4
 ·obtain⟨l,hl,au,ap⟩:=hr.safe v (by
   rcases hv with h|⟨a,ha,h⟩
   ·exact .inl h
   ·obtain⟨l,h1,h2,rfl⟩:=ac a ha
    exact .inr ⟨l,h1,h2,h⟩)
  obtain⟨i,hi⟩:=List.getElem?_of_mem hl;exact⟨fP M nw fr (l,i),nE hi au,ap⟩
 ·obtain⟨h1,h2⟩:=ab v hv;rw[Aey];exact⟨v.toNat,by simp;omega,Agm⟩
theorem nD {neg:Int->Ca->Prop}{M:MM}{nw:Int}{fr:Nat}{ar:Nat->Nat}{r:D8}{t:Ca}(hr:RW M.length ar r):Ve neg (Kb M nw fr r) t↔∃ν,(∀(l:Lit) (i:Nat),r.body[i]?=some l->l.neg=false->Bo l.a ν∈U5 M nw fr i l)/\(∀l∈r.body,l.neg=true->¬neg l.a.p (Bo l.a ν))/\t=Bo r.head ν:=by
 constructor
 ·rintro⟨ν,hν,rfl⟩;refine⟨ν,fun l i hi hn=>?_,fun l hl hn=>hν.2 l.a (Aey.2 ⟨l,Afx.2 ⟨hl,hn⟩,rfl⟩),rfl⟩;have:=hν.1 _ (nE hi hn);exact (Afx.1 this).1
 ·rintro⟨ν,h,h',rfl⟩;refine⟨ν,⟨fun p hp=>?_,fun a ha=>?_⟩,rfl⟩
  ·obtain⟨l,i,h1,h2,rfl⟩:=Ic hp;exact Afx.2 ⟨h l i h1 h2,zB (hr.rok.ba l (Adt h1)) ν⟩
  ·obtain⟨l,hl,rfl⟩:=Aey.1 ha;obtain⟨h1,h2⟩:=Afx.1 hl;exact h' l h1 h2
abbrev Fh:=Nat->Ca->Prop
def ClD (R:List D8)(D:Fh):Prop:=∀r∈R,∀ν,(∀l∈r.body,D l.a.p.toNat (Bo l.a ν))->D r.head.p.toNat (Bo r.head ν)
def Jq (N D:Fh)(ν:Nu)(l:Lit):Prop:=if l.neg=true then¬N l.a.p.toNat (Bo l.a ν)else D l.a.p.toNat (Bo l.a ν)
def ClG (R:List D8)(N D:Fh):Prop:=∀r∈R,∀ν,(∀l∈r.body,Jq N D ν l)->D r.head.p.toNat (Bo r.head ν)
theorem Zx {R:List D8}{N D:Fh}(h:∀r∈R,∀l∈r.body,l.neg=false):ClG R N D↔ClD R D:=by
 have key:∀r∈R,∀ν,(∀l∈r.body,Jq N D ν l)↔∀l∈r.body,D l.a.p.toNat (Bo l.a ν):=fun r hr ν=>by
  constructor
  ·intro g l hl;have:=g l hl;unfold Jq at this;rw[h r hr l hl]at this;simpa using this
  ·intro g l hl;unfold Jq;rw[h r hr l hl];simpa using g l hl
 exact⟨fun g r hr ν hν=>g r hr ν ((key r hr ν).2 hν),fun g r hr ν hν=>g r hr ν ((key r hr ν).1 hν)⟩
def MD (M:MM):Fh:=fun k t=>t∈A5 M (k:Int)
def tot (M:MM):Int:=(Hb M).sum
structure GroA (D:Fh)(M M':MM)(d d':Int):Prop where
 len:M'.length=M.length
 ext:∀k:Nat,∃new:List Ca,A5 M' k=A5 M k++new/\new.Nodup/\∀t∈new,D k t/\t∉A5 M k
 cnt:d'-d=tot M'-tot M
theorem GroA.refl (D:Fh)(M:MM)(d:Int):GroA D M M d d:=⟨rfl,fun k=>⟨[],by simp,Afr,by simp⟩,Agm⟩
theorem GroA.trans {D:Fh}{M M1 M2:MM}{d d1 d2:Int}(h:GroA D M M1 d d1)(g:GroA D M1 M2 d1 d2):GroA D M M2 d d2:=by
 refine⟨g.len.trans h.len,fun k=>?_,by have:=h.cnt;have:=g.cnt;omega⟩;obtain⟨n1,a1,a2,a3⟩:=h.ext k;obtain⟨n2,b1,b2,b3⟩:=g.ext k;refine⟨n1++n2,by rw[b1,a1,Aeg],?_,?_⟩
 ·rw[Afp];exact⟨a2,b2,fun x hx y hy e=>(b3 y hy).2 (by rw[a1,<-e];exact Aew.2 (.inr hx))⟩
 ·intro t ht;rcases Aew.1 ht with ht|ht
  ·exact a3 t ht
  ·exact⟨(b3 t ht).1,fun hm=>(b3 t ht).2 (by rw[a1];exact Aew.2 (.inl hm))⟩
theorem GroA.sub {D:Fh}{M M':MM}{d d':Int}(h:GroA D M M' d d'){k:Nat}{t:Ca}(ht:t∈A5 M k):t∈A5 M' k:=by
 obtain⟨n,a1,-,-⟩:=h.ext k;rw[a1];exact Aew.2 (.inl ht)
theorem GroA.inD {D:Fh}{M M':MM}{d d':Int}(h:GroA D M M' d d')(hD:∀k t,MD M k t->D k t):∀k t,MD M' k t->D k t:=fun k t ht=>by
 obtain⟨n,a1,-,a3⟩:=h.ext k;unfold MD at ht;rw[a1]at ht;rcases Aew.1 ht with ht|ht
 ·exact hD k t ht
 ·exact (a3 t ht).1
theorem D5 (x:Nat×List Ca)(M:MM):tot (x::M)=(x.2.length:Int)+tot M:=by simp[tot,Hb]
theorem Oa:∀(M M':MM) (k:Nat) (n:Nat),M'.length=M.length->(∀j,j≠k->(M'[j]?).map (·.2)=(M[j]?).map (·.2))->(k<M.length->((A5 M' k).length:Int)=(A5 M k).length+n)->(M.length<=k->n=0)->tot M'=tot M+n
 |[],M',k,n,hl,ho,hk,hn=>by
  have:M'=[]:=Adx (by simpa using hl);subst this;have:=hn (by simp);subst this;simp[tot,Hb]
 |x::M,[],k,n,hl,ho,hk,hn=>by simp at hl
 |x::M,y::M',0,n,hl,ho,hk,hn=>by
  have h0:=hk (by simp);simp[A5]at h0;have aa:tot M'=tot M+(0:Nat):=Oa M M' M.length 0 (by simpa using hl) (fun j hj=>by have:=ho (j+1) Agm;simpa using this) (fun h=>Agm) (fun _=>rfl);rw[D5,D5,aa];omega
 |x::M,y::M',k+1,n,hl,ho,hk,hn=>by
  have h0:=ho 0 Agm;simp at h0
  have aa:=Oa M M' k n (by simpa using hl) (fun j hj=>by have:=ho (j+1) Agm;simpa using this) (fun h=>by
   have:=hk (by simp;omega)
   simpa[A5]using this) (fun h=>hn (by simp;omega))
  rw[D5,D5,aa,h0];omega
theorem Gro.all {k:Nat}{S:Ca->Prop}{D:Fh}{M M':MM}{d d':Int}(h:Gro k S M M' d d')(hk:k<M.length)(hS:∀t,S t->D k t):GroA D M M' d d':=by
 obtain⟨n,a1,a2,a3,a4⟩:=h.ext;refine⟨h.len,fun j=>?_,?_⟩
 ·by_cases e:j=k
  ·subst e;exact⟨n,a1,a2,fun t ht=>⟨hS t (a3 t ht).1,(a3 t ht).2⟩⟩
  ·refine⟨[],?_,Afr,by simp⟩;have:=h.oth j e;unfold A5;simp only[Afz];rw[this];simp
 ·have:=Oa M M' k n.length h.len h.oth (fun _=>by rw[a1];simp) (fun hh=>Agm);omega
theorem aE (a:D8)(c:List AV)(h:gE a c):c.length=4:=by obtain⟨o,ih,ib,bc,rfl,-⟩:=h;rfl
theorem nH {l:List D8}{cs:List AV}{i:Nat}{r:D8}(h:EL gE l cs)(hi:l[i]?=some r):∃o ih ib bc rr,cs.drop (i*4)=sc (.bool o)::ic r.head.p::sl ih r.head.ts.length (Ac r.head.ts)::sl ib r.body.length bc::rr/\EL Pi r.body bc:=by
 obtain⟨c,rr,⟨o,ih,ib,bc,rfl,hB⟩,e⟩:=EL.get aE h hi;exact⟨o,ih,ib,bc,rr,e,hB⟩
def NgIn (R:List D8)(D:Fh)(M:MM):Prop:=∀r∈R,∀l∈r.body,l.neg=true->∀t,D l.a.p.toNat t->MD M l.a.p.toNat t
theorem NgIn.gro {R:List D8}{D:Fh}{M M':MM}{d d':Int}(h:NgIn R D M)(g:GroA D M M' d d'):NgIn R D M':=fun r hr l hl hn t ht=>g.sub (h r hr l hl hn t ht)
def ngD (D:Fh):Int->Ca->Prop:=fun p t=>D p.toNat t
structure Fol (np:Nat)(ar:Nat->Nat)(R:List D8)(D:Fh):Prop where
 rw:∀r∈R,RW np ar r
 cl:ClG R D D
 sh:∀k t,D k t->Sh ar k t
theorem zR {np:Nat}{ar:Nat->Nat}{R:List D8}{D:Fh}{M:MM}{nw:Int}{fr:Nat}{r:D8}(hF:Fol np ar R D)(hn:M.length=np)(hr:r∈R)(hD:∀k t,MD M k t->D k t){t:Ca}(ht:Ve (ngD D) (Kb M nw fr r) t):D r.head.p.toNat t:=by
 obtain⟨ν,h1,h2,rfl⟩:=(nD (ar:=ar) (hn ▸ hF.rw r hr)).1 ht;refine hF.cl r hr ν (fun l hl=>?_);unfold Jq;cases aa:l.neg with
 |true=>simpa[ngD]using h2 l hl aa
 |false=>
  obtain⟨i,hi⟩:=List.getElem?_of_mem hl;obtain⟨k,hk,-⟩:=(hF.rw r hr).rok.bp l hl;have:=fO (h1 l i hi aa);rw[hk]at this;simp only[Aek,if_false];rw[hk];exact hD k _ this
theorem U4 {np:Nat}{ar:Nat->Nat}{R:List D8}{D:Fh}(hF:Fol np ar R D)(om ot:Nat)(b:Int)(ak: -1000000<=b)(aj:b<=900000)(M:MM)(d:Int)(hn:M.length=np)(hD:∀k t,MD M k t->D k t)(am:NgIn R D M)(hR:Room M d b)(ai: -1000000<=d)(ah:d<=1000000)(r:D8)(hr:r∈R)(nw:Int)(fr:Nat)(c:List AV)(hc:EQ (Kb M nw fr r) c)(E:St)(hM:MOb E om ot M d b):
  ACalls Tryz.prog 139 [ptr om 0,ag c] E fun x E'=>∃M' d',MOb E' om ot M' d' b/\KM om ot M M' E E'/\GroA D M M' d d'/\Room M' d' b/\d'<=1000000/\d<=d'/\(¬b<d'->∀ν,(∀(l:Lit) (i:Nat),r.body[i]?=some l->l.neg=false->Bo l.a ν∈U5 M nw fr i l)->(∀l∈r.body,l.neg=true->¬D l.a.p.toNat (Bo l.a ν))->MD M' r.head.p.toNat (Bo r.head ν)):=by
 have aa:RW M.length ar r:=hn ▸ hF.rw r hr;obtain⟨a1,a2,a3⟩:=zS hM (fun k t ht=>hF.sh k t (hD k t ht)) aa nw fr;obtain⟨k,hk,ad⟩:=aa.rok.hp;have ac:∀a∈(Kb M nw fr r).nots,∃l∈r.body,l.neg=true/\l.a=a:=fun a ha=>by
  obtain⟨l,hl,rfl⟩:=Aey.1 ha;obtain⟨h1,h2⟩:=Afx.1 hl;exact⟨l,h1,h2,rfl⟩
 have b1:NegOk (ngD D) M (Kb M nw fr r):=fun a ha=>by
  obtain⟨l,h1,h2,rfl⟩:=ac a ha;obtain⟨j,hj,af⟩:=aa.rok.bp l h1;have hg:M[j]?=some M[j]:=List.getElem?_eq_getElem af;refine⟨j,M[j],hj,hg,fun t=>?_⟩;have hT:=B7 hg;have e:l.a.p.toNat=j:=by rw[hj];rfl
  unfold ngD;rw[e];constructor
  ·intro ht;have:=am r hr l h1 h2 t (by rw[e];exact ht);rw[e]at this;unfold MD at this;rwa[hT]at this
  ·intro ht;exact hD j t (by unfold MD;rw[hT];exact ht)
 have b2:∀a∈(Kb M nw fr r).nots,a.p≠(k:Int):=fun a ha e=>by
  obtain⟨l,h1,h2,rfl⟩:=ac a ha;exact aa.nne l h1 h2 (by rw[e,hk])
 have:=Zq (ngD D) om ot b _ _ (Adn _) (Kb M nw fr r) c k M d hc a1 b1 b2 a2 hk ad hR ai ah ak aj a3 E hM;refine ACalls.mono this ?_;rintro x E' ⟨M',d',h1,h2,h3,h4,h5⟩;have ab:r.head.p.toNat=k:=by rw[hk];rfl
 refine⟨M',d',h1,h2,h3.all ad (fun t ht=>by rw[<-ab];exact zR hF hn hr hD ht),h3.room hR,h4,h3.le,fun ae ν hν hν'=>?_⟩;unfold MD;rw[ab];exact h5 ae _ ((nD aa).2 ⟨ν,hν,hν',rfl⟩)
def NewR (D:Fh)(M0 M':MM)(seen:List Int)(r:D8)(j:Nat):Prop:=∀(i:Nat) (l:Lit),i<j->r.body[i]?=some l->l.neg=false->∀ν,(∀l'∈r.body,Jq D (MD M0) ν l')->Bo l.a ν∈(A5 M0 l.a.p).drop ((seen[l.a.p.toNat]?).getD 0).toNat->MD M' r.head.p.toNat (Bo r.head ν)
theorem NewR.mono {D:Fh}{M0 M1 M2:MM}{seen:List Int}{r:D8}{j:Nat}{d1 d2:Int}(h:NewR D M0 M1 seen r j)(g:GroA D M1 M2 d1 d2):NewR D M0 M2 seen r j:=fun i l hi hl hn ν h1 h2=>g.sub (h i l hi hl hn ν h1 h2)
theorem Q9 {np:Nat}{ar:Nat->Nat}{R:List D8}{D:Fh}(hF:Fol np ar R D)(om ot:Nat)(b:Int)(cd: -1000000<=b)(cc:b<=900000)(M:MM)(d:Int)(hn:M.length=np)(hD:∀k t,MD M k t->D k t)(ci:NgIn R D M)(cf:Room M d b)(c8: -1000000<=d)(ca:d<=1000000)(rc:List AV)(idr:Nat)(bd:EL gE R rc)(da:R.length<=1000)(seen:List Int)(ids:Nat)(bz:seen.length=np)(b1:∀n∈seen,0<=n/\n<=5000)(E:St)(hM:MOb E om ot M d b):
  ACalls Tryz.prog 141 [ptr om 0,sl idr R.length rc,sl ids seen.length (As seen)] E fun x E'=>∃M' d',MOb E' om ot M' d' b/\KM om ot M M' E E'/\GroA D M M' d d'/\Room M' d' b/\d'<=1000000/\d<=d'/\(¬b<d'->∀r∈R,NewR D M M' seen r r.body.length):=by
 have cx:=EL.length aE bd;have cv:=Bp seen;have hpl:=hM.pl;have cw:np<=seen.length:=Agm;have c5:M.length<=np:=Agm;have cz:np<=M.length:=Agm;have bo:Agt (M.length=np):=hn;clear bz hn;refine Z9 59 [] Tryz.func141 ?_
 repeat' (first|refine Z1 ?_|(refine Z8 ?_;intro κ hκ)|(refine Z4 ?_;clear hκ κ)|(refine Z2 ?_ ?_<;>intro h ab<;>try exact Xp)|refine Z3 ?_|exact⟨⟩|(apply hκ.out;clear hκ κ))
 refine Ag (fun m s E'=>∃(k:Nat) (M1:MM) (d1:Int),m=R.length-k/\k<=R.length/\s 0=ptr om 0/\s 2=sl ids seen.length (As seen)/\s 12=sl idr R.length rc/\s 13=ic R.length/\s 14=ic k/\MOb E' om ot M1 d1 b/\KM om ot M M1 E E'/\d1<=1000000/\d<=d1/\Agt (GroA D M M1 d d1/\Room M1 d1 b/\(¬b<d1->∀r∈R.take k,NewR D M M1 seen r r.body.length))) R.length
  ⟨0,M,d,Agm,Agm,by simp[upd,initS],by simp[upd,initS],Ago,Ago,rfl,hM,KM.ofKeep (Keep.refl _),ca,Agm,GroA.refl _ _ _,cf,fun _ r hr=>by simp at hr⟩ ?_
 rintro m s E' ⟨k,M1,d1,rfl,hk,h0,h2,bn,bm,bi,aw,an,am,ak,hG⟩;by_cases be:k<R.length
 ·have aa:=List.getElem?_eq_getElem be;obtain⟨o,ih,ib,bc,rr,hd,hB⟩:=nH bd aa;have ad:=Afa be;generalize R[k]=r at hd aa ad hB;have ct:Agt (R.take (k+1)=R.take k++[r]):=by rw[Agt,Ad3,aa,Afe]
  clear aa;have c9:=EL.length F6 hB;have cb:=(hF.rw r ad).rok.bl;have l1:=aw.lo;have l2:=aw.lt
  repeat' (first|refine Z1 ?_|(refine Z8 ?_;intro κ hκ)|(refine Z4 ?_;clear hκ κ)|(refine Z2 ?_ ?_<;>intro h ab<;>try exact Xp)|refine Z3 ?_|exact⟨⟩|(apply hκ.out;clear hκ κ))
  refine Ag (fun m s E2=>∃(j:Nat) (M2:MM) (d2:Int),m=r.body.length-j/\j<=r.body.length/\s 0=ptr om 0/\s 2=sl ids seen.length (As seen)/\s 7=ptr E'.nobj 0/\s 12=sl idr R.length rc/\s 13=ic R.length/\s 14=ic k/\s 19=sl ib r.body.length bc/\s 20=ic r.body.length/\s 21=ic j/\MOb E2 om ot M2 d2 b/\KM om ot M M2 E E2/\E'.nobj<E2.nobj/\E2.obj E'.nobj=[sc (.bool o),ic r.head.p,sl ih r.head.ts.length (Ac r.head.ts),sl ib r.body.length bc]/\d2<=1000000/\d<=d2/\Agt (GroA D M M2 d d2/\Room M2 d2 b/\(¬b<d2->(∀r∈R.take k,NewR D M M2 seen r r.body.length)/\NewR D M M2 seen r j))) r.body.length
   ⟨0,M1,d1,Agm,Agm,Agn,Agn,Ago,Agn,Agn,Agn,Ago,Ago,rfl,aw.keep (((Keep.refl _).new _).put (Adn _) _),an.trans (KM.ofKeep (((Keep.refl _).new _).put (Adn _) _)),Ags,Aj,am,ak,hG.out.1,hG.out.2.1,fun h=>⟨hG.out.2.2 h,fun i l hi=>Agm⟩⟩ ?_
  have cs:om≠E'.nobj:=Agm;have cr:ot≠E'.nobj:=Agm;clear h0 h2 bn bm bi aw an hG am ak l1 l2;rintro m s E2 ⟨j,M2,d2,rfl,hj,h0,h2,h7,bn,bm,bi,dd,dc,db,af,au,hno,br,a8,b9,hG⟩;have l1:=af.lo;have l2:=af.lt;by_cases ay:j<r.body.length
  ·have aa:=List.getElem?_eq_getElem ay;obtain⟨id,r2,aj⟩:=Gx hB aa;have bf:=Afa ay;generalize r.body[j]=w at aj aa bf;obtain⟨p,hp,cy⟩:=(hF.rw r ad).rok.bp w bf;have HW:Agt (r.body[j]?=some w):=aa;clear aa;rw[hp]at aj;have a3:seen[p]?=some seen[p]:=List.getElem?_eq_getElem Agm;obtain⟨rs,b7⟩:=C9 a3;have b0:=b1 _ (Afa (show p<seen.length by omega));generalize seen[p]=f at a3 b7 b0;obtain⟨fn,rfl⟩:∃fn:Nat,f=(fn:Int):=⟨f.toNat,Agm⟩;have cm:M2.length<=M.length/\M.length<=M2.length:=by have:=hG.out.1.len;omega
   have ai:M2[p]?=some M2[p]:=List.getElem?_eq_getElem Agm;generalize M2[p]=y at ai;have c7:=H2 ai;have cu:=af.ln y (Adt ai);have c6:=H1 M2;have obm:=af.ob;have obt:=af.oc;have b2:=af.pl;have ce:Agt (A5 M2 (p:Int)=y.2):=B7 ai
   --what this literal's turn must bring
   have ac:Agt (∀M3 d3,GroA D M2 M3 d2 d3->(¬b<d3->w.neg=false->∀ν,(∀l'∈r.body,Jq D (MD M) ν l')->Bo w.a ν∈(A5 M w.a.p).drop fn->MD M3 r.head.p.toNat (Bo r.head ν))->d2<=d3->(¬b<d3->(∀r∈R.take k,NewR D M M3 seen r r.body.length)/\NewR D M M3 seen r (j+1))):=fun M3 d3 bg ah b3 a5=>by
    obtain⟨g1,g2⟩:=hG.out.2.2 Agm;refine⟨fun r' az=>(g1 r' az).mono bg,fun i l hi hl av ν a1 a2=>?_⟩;by_cases e:i=j
    ·subst e;rw[HW.out]at hl;obtain rfl:=Afh hl;refine ah a5 av ν a1 ?_;rw[hp]at a2⊢;rw[Afz,a3]at a2;simpa using a2
    ·exact bg.sub (g2 i l Agm hl av ν a1 a2)
   cases ae:w.neg with
   |true=>
    have HN:Agt (GroA D M M2 d d2/\Room M2 d2 b/\(¬b<d2->(∀r∈R.take k,NewR D M M2 seen r r.body.length)/\NewR D M M2 seen r (j+1))):=
     ⟨hG.out.1,hG.out.2.1,ac.out M2 d2 (GroA.refl _ _ _) (fun _ hh=>by rw[ae]at hh;cases hh) Agm⟩
    rw[ae]at aj;clear ac ae
    repeat' (first|refine Z1 ?_|(refine Z8 ?_;intro κ hκ)|(refine Z4 ?_;clear hκ κ)|(refine Z2 ?_ ?_<;>intro h ab<;>try exact Xp)|refine Z3 ?_|exact⟨⟩|(apply hκ.out;clear hκ κ))
    refine Bu Al (fun _=>True) [] [0,1,2,3,4,5,6,7,8,9,10,11,12,13,14,15,16] [] Agp (fun _ _ _ h=>h) ?_;intro κ hκ
    repeat' (first|refine Z1 ?_|(refine Z8 ?_;intro κ hκ)|(refine Z4 ?_;clear hκ κ)|(refine Z2 ?_ ?_<;>intro h ab<;>try exact Xp)|refine Z3 ?_|exact⟨⟩|(apply hκ.out;clear hκ κ))
    refine⟨r.body.length-(j+1),Agm,j+1,M2,d2,?_⟩
    ((repeat' with_reducible refine And.intro ?_ ?_)<;>first|exact Xq|exact (HN)|exact (af.keep (((Keep.refl _).new _).put (Adn _) _))|exact (au.trans (KM.ofKeep (((Keep.refl _).new _).put (Adn _) _)))|exact Xs)
   |false=>
    rw[ae]at aj;clear ae
    repeat' (first|refine Z1 ?_|(refine Z8 ?_;intro κ hκ)|(refine Z4 ?_;clear hκ κ)|(refine Z2 ?_ ?_<;>intro h ab<;>try exact Xp)|refine Z3 ?_|exact⟨⟩|(apply hκ.out;clear hκ κ))
    refine Bu Al (fun _=>True) [] [0,1,2,3,4,5,6,7,8,9,10,11,12,13,14,15,16] [] Agp (fun _ _ _ h=>h) ?_;intro κ hκ;by_cases a6:fn<y.2.length
    ·have b6:decide ((fn:Int)<(y.2.length:Int))=true:=by simp;exact a6
     have cq:=fun E (h:MOb E om ot M2 d2 b)=>Yg om ot M2 d2 b r [sc (.bool o),ic r.head.p,sl ih r.head.ts.length (Ac r.head.ts),sl ib r.body.length bc] (j:Int) fn ⟨o,ih,ib,bc,rfl,hB⟩ (by have:=hG.out.1.len;rw[this,bo.out];exact (hF.rw r ad).rok) Agm E h;have co:Agt (∀c3,EQ (Kb M2 (j:Int) fn r) c3->∀E,MOb E om ot M2 d2 b->ACalls Tryz.prog 139 [ptr om 0,ag c3] E fun x E'=>∃M' d',MOb E' om ot M' d' b/\KM om ot M2 M' E E'/\GroA D M2 M' d2 d'/\Room M' d' b/\d'<=1000000/\d2<=d'/\(¬b<d'->∀ν,(∀(l:Lit) (i:Nat),r.body[i]?=some l->l.neg=false->Bo l.a ν∈U5 M2 (j:Int) fn i l)->(∀l∈r.body,l.neg=true->¬D l.a.p.toNat (Bo l.a ν))->MD M' r.head.p.toNat (Bo r.head ν))):=fun c3 h3 E hh=>
      U4 hF om ot b cd cc M2 d2 (by have:=hG.out.1.len;rw[this];exact bo.out) (hG.out.1.inD hD) (ci.gro hG.out.1) hG.out.2.1 Agm a8 r ad (j:Int) fn c3 h3 E hh
     clear a6
     repeat' (first|refine Z1 ?_|(refine Z8 ?_;intro κ hκ)|(refine Z4 ?_;clear hκ κ)|(refine Z2 ?_ ?_<;>intro h ab<;>try exact Xp)|(refine Z5 ?_;first|(refine Xi (cq _ (af.keep (Xs))) ?_;rintro _ _ ⟨⟨_,rfl,ih3,ip3,in3,pc3,nc3,rfl,ch,cj⟩,ba⟩;(have a0:=ba.nobj;have ax:=ba.obj;simp only[Ab,Aa]at a0 ax;have cn:=(((Keep.refl E2).new _).put (Adn _) _).trans ba;have cp:=co.out _ ⟨ih3,ip3,in3,pc3,nc3,rfl,ch,cj⟩))|(refine Xi (cp _ (af.keep (Xs))) ?_;rintro _ _ ⟨M3,d3,ck,ap,bh,cg,b8,a7,ah⟩;(have bq:Agt _:=bh;have bb:Agt _:=ah;clear bh ah;have kn3:=ap.nobj;simp only[Ab,Aa]at kn3;have bw:=ap.obj E'.nobj (by simp only[Ab,Aa];omega) cs.symm cr.symm;have a9:=(au.trans (KM.ofKeep ((cn.new _).put Agm _))).trans ap)))|refine Z3 ?_|exact⟨⟩|(apply hκ.out;clear hκ κ))
     have HN:Agt (GroA D M M3 d d3/\Room M3 d3 b/\(¬b<d3->(∀r∈R.take k,NewR D M M3 seen r r.body.length)/\NewR D M M3 seen r (j+1))):=by
      refine⟨hG.out.1.trans bq.out,cg,ac.out M3 d3 bq.out (fun a5 _ ν a1 a2=>bb.out a5 ν (fun l i hl av=>?_) (fun l hl av=>by
       have:=a1 l hl;unfold Jq at this;rw[av]at this
       simpa using this)) a7⟩
      have ao:=Adt hl;obtain⟨p',a4,-⟩:=(hF.rw r ad).rok.bp l ao;obtain⟨nw,e1,-,-⟩:=hG.out.1.ext p';unfold U5;by_cases e:(i:Int)=(j:Int)
      ·rw[if_pos e];have:i=j:=Agm;subst this;rw[HW.out]at hl;obtain rfl:=Afh hl;rw[a4]at a2⊢;rw[e1,List.drop_append];exact Aew.2 (.inl a2)
      ·rw[if_neg e];have:=a1 l ao;unfold Jq MD at this;rw[av,a4]at this;simp only[Aek,if_false,Afz]at this;rw[a4,e1];exact Aew.2 (.inl this)
     refine⟨r.body.length-(j+1),Agm,j+1,M3,d3,?_⟩;have bv:∀S:St,S.obj E'.nobj=E2.obj E'.nobj->S.obj E'.nobj=[sc (.bool o),ic r.head.p,sl ih r.head.ts.length (Ac r.head.ts),sl ib r.body.length bc]:=fun S e=>by rw[e,br]
     have bu:=bv _ (by rw[bw,Ai Agm,Af Agm,ax _ Agm,Ai Agm,Af Agm])
     ((repeat' with_reducible refine And.intro ?_ ?_)<;>first|exact Xq|exact (HN)|exact (ck)|exact (a9)|exact (bu)|exact Xs)
    ·have b6:decide ((fn:Int)<(y.2.length:Int))=false:=by simp;omega
     have HN:Agt (GroA D M M2 d d2/\Room M2 d2 b/\(¬b<d2->(∀r∈R.take k,NewR D M M2 seen r r.body.length)/\NewR D M M2 seen r (j+1))):=by
      refine⟨hG.out.1,hG.out.2.1,ac.out M2 d2 (GroA.refl _ _ _) (fun _ _ ν _ a2=>?_) Agm⟩;exfalso;obtain⟨nw,e1,-,-⟩:=hG.out.1.ext p;rw[ce.out]at e1;have b3:(A5 M (p:Int)).length<=y.2.length:=by rw[e1];simp
      rw[hp,Adw Agm]at a2;cases a2
     clear a6 ac
     repeat' (first|refine Z1 ?_|(refine Z8 ?_;intro κ hκ)|(refine Z4 ?_;clear hκ κ)|(refine Z2 ?_ ?_<;>intro h ab<;>try exact Xp)|refine Z3 ?_|exact⟨⟩|(apply hκ.out;clear hκ κ))
     refine⟨r.body.length-(j+1),Agm,j+1,M2,d2,?_⟩
     ((repeat' with_reducible refine And.intro ?_ ?_)<;>first|exact Xq|exact (HN)|exact (af.keep (((Keep.refl _).new _).put (Adn _) _))|exact (au.trans (KM.ofKeep (((Keep.refl _).new _).put (Adn _) _)))|exact Xs)
  ·have b5:j=r.body.length:=Agm;subst b5;have HN:Agt (GroA D M M2 d d2/\Room M2 d2 b/\(¬b<d2->∀r∈R.take (k+1),NewR D M M2 seen r r.body.length)):=by
    obtain⟨g1,g2,g3⟩:=hG.out;refine⟨g1,g2,fun h r' az=>?_⟩;rw[ct.out]at az;rcases Aew.1 az with h'|h'
    ·exact (g3 h).1 r' h'
    ·simp at h';subst h';exact (g3 h).2
   repeat' (first|refine Z1 ?_|(refine Z8 ?_;intro κ hκ)|(refine Z4 ?_;clear hκ κ)|(refine Z2 ?_ ?_<;>intro h ab<;>try exact Xp)|refine Z3 ?_|exact⟨⟩|(apply hκ.out;clear hκ κ))
   refine⟨R.length-(k+1),Agm,k+1,M2,d2,?_⟩
   ((repeat' with_reducible refine And.intro ?_ ?_)<;>first|exact Xq|exact (HN)|exact Xs)
 ·have b4:k=R.length:=Agm;subst b4;obtain⟨g1,g2,g3⟩:=hG.out;rw[Adz]at g3
  repeat' (first|refine Z1 ?_|(refine Z8 ?_;intro κ hκ)|(refine Z4 ?_;clear hκ κ)|(refine Z2 ?_ ?_<;>intro h ab<;>try exact Xp)|refine Z3 ?_|exact⟨⟩|(apply hκ.out;clear hκ κ))
  first|exact⟨_,rfl,M1,d1,aw,an,g1,g2,am,ak,g3⟩|exact⟨M1,d1,aw,an,g1,g2,am,ak,g3⟩
end Go.Proofs.YtmoeoppbmhfbpabGreatDoorG
