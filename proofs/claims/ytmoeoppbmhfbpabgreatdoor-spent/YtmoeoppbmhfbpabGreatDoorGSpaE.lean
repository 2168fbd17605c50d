import Derived.Test.YtmoeoppbmhfbpabGreatDoorGSpaB
import Derived.Test.YtmoeoppbmhfbpabGreatDoorGPrtF
import Derived.Test.YtmoeoppbmhfbpabGreatDoorGProgR
import Derived.Test.YtmoeoppbmhfbpabGreatDoorGSpaA
set_option maxRecDepth 100000
set_option linter.all false
namespace Go.Proofs.YtmoeoppbmhfbpabGreatDoorG
open Go.Abs
theorem Bw (t:Tx):(Am t).1=Ad t:=by
 cases t with
 |nil=>rfl
 |cons b r=>
  unfold Am Ad;dsimp only;split
  ·rename_i h;rw[h]
  ·rename_i h;simp at h;rw[h]
def UT (t:Tx):Prop:=DT t/\Is t/\t.length<=1000/\(Ad t=true->∃k:Nat,k<26/\t=[Co k])
theorem UT.enc {t:Tx}(h:UT t)(hv:Ad t=true):∃k:Nat,k<26/\t=[Co k]/\Am t=(true,(k:Int)):=by
 obtain⟨k,hk,rfl⟩:=h.2.2.2 hv;refine⟨k,hk,rfl,?_⟩;rw[Dy (C7 Agm Agm),C6 Agm Agm];congr 1;omega
theorem tellU:Tell Am UT where
 var:=fun t _=>Bw t
 inj:=fun t u ht hu h=>by
  have hv:Ad t=Ad u:=by rw[<-Bw,<-Bw,h]
  cases hb:Ad t with
  |true=>
   obtain⟨k,hk,rfl,e1⟩:=ht.enc hb;obtain⟨j,hj,rfl,e2⟩:=hu.enc (by rw[<-hv];exact hb);rw[e1,e2]at h;have:(k:Int)=j:=congrArg (·.2) h;rw[this]
  |false=>
   rcases ht.1 with h1|⟨-,h1,-⟩
   ·rw[hb]at h1;cases h1
   rcases hu.1 with h2|⟨-,h2,-⟩
   ·rw[<-hv,hb]at h2;cases h2
   rw[<-h1,<-h2,h]
 pos:=fun t ht hv=>by
  obtain⟨k,-,-,e⟩:=ht.enc hv;rw[e];exact Afg _
theorem UT.varOk {t:Tx}(h:UT t):varOk t:=fun hv=>by
 rw[Bw]at hv;obtain⟨k,hk,-,e⟩:=h.enc hv;exact⟨k,hk,by rw[e]⟩
theorem UT.dec {t:Tx}(h:UT t):Lk (Am t)=t/\okE (Am t):=by
 have hd:Lk (Am t)=t:=by
  cases hv:Ad t with
  |true=>
   obtain⟨k,hk,rfl,e⟩:=h.enc hv;rw[e];unfold Lk;rw[if_pos rfl,Nk Agm Agm]
  |false=>
   rcases h.1 with h1|⟨-,h1,-⟩
   ·rw[hv]at h1;cases h1
   ·unfold Lk;rw[if_neg (by rw[Bw,hv];simp),h1]
 refine⟨hd,?_,?_,?_,by rw[hd];exact h.2.2.1⟩
 ·cases hv:Ad t with
  |true=>obtain⟨k,hk,-,e⟩:=h.enc hv;rw[e];exact Afg _
  |false=>
   rcases h.1 with h1|h1
   ·rw[hv]at h1;cases h1
   ·exact h1.2.2.1
 ·intro hb;rw[Bw]at hb;obtain⟨k,hk,-,e⟩:=h.enc hb;rw[e];show (k:Int)<26;omega
 ·cases hv:Ad t with
  |true=>obtain⟨k,hk,-,e⟩:=h.enc hv;rw[e];show (k:Int)<=999;omega
  |false=>
   rcases h.1 with h1|h1
   ·rw[hv]at h1;cases h1
   ·exact h1.2.2.2
structure InO (y:RItem):Prop where
 ut:∀a∈Ae y,∀t∈a.terms,UT t
 out:y.out=false
 ord:Au y=(List.range (Au y).length).map fun i=>[Co (i:Nat)]
 len:(Au y).length<=26
section
variable {N:List Tx} {y:RItem} {k:Nat} {s0 s:Sw}
end
theorem Jj {acc:List Tx}{t u:Tx}(h:∀v∈acc,Ad v=true)(hu:u∈De acc t):Ad u=true/\(u∈acc\/u=t):=by
 unfold De at hu;split at hu
 ·rename_i hc;rcases Aew.1 hu with q|q
  ·exact⟨h u q,.inl q⟩
  ·simp at q;subst q;exact⟨hc.1,.inr rfl⟩
 ·exact⟨h u hu,.inl hu⟩
theorem Jh:∀(ts acc:List Tx),(∀v∈acc,Ad v=true)->acc.Nodup->(∀v∈Dd acc ts,Ad v=true/\(v∈acc\/v∈ts))/\(Dd acc ts).Nodup
 |[],acc,h,hn=>⟨fun v hv=>⟨h v hv,.inl hv⟩,hn⟩
 |t::ts,acc,h,hn=>by
  have aa:(De acc t).Nodup:=by
   unfold De;split
   ·rename_i hc;rw[Afp];refine⟨hn,by simp,fun a ha b hb=>?_⟩;simp at hb;subst hb;exact fun e=>hc.2 (e ▸ ha)
   ·exact hn
  obtain⟨h1,h2⟩:=Jh ts (De acc t) (fun v hv=>(Jj h hv).1) aa;refine⟨fun v hv=>?_,h2⟩;obtain⟨q1,q2⟩:=h1 v hv;refine⟨q1,?_⟩;rcases q2 with q2|q2
  ·rcases (Jj h q2).2 with q|q
   ·exact .inl q
   ·exact .inr (by simp[q])
  ·exact .inr (by simp[q2])
theorem T0 (w:Tx->Tx):∀(ts acc:List Tx),(∀v∈acc,Ad v=true)->(∀t∈ts,Ad (w t)=Ad t)->(∀t u,(t∈acc\/t∈ts)->(u∈acc\/u∈ts)->Ad t=true->Ad u=true->w t=w u->t=u)->Dd (acc.map w) (ts.map w)=(Dd acc ts).map w
 |[],acc,_,_,_=>rfl
 |t::ts,acc,ha,hv,hi=>by
  show Dd (De (acc.map w) (w t)) (ts.map w)=(Dd (De acc t) ts).map w;have e:De (acc.map w) (w t)=(De acc t).map w:=by
   unfold De;rw[hv t (by simp)];by_cases hc:Ad t=true/\t∉acc
   ·have aa:w t∉acc.map w:=fun hm=>by
     obtain⟨u,hu,e⟩:=Aey.1 hm;have:=hi u t (.inl hu) (.inr (by simp)) (ha u hu) hc.1 e;exact hc.2 (this ▸ hu)
    rw[if_pos hc,if_pos ⟨hc.1,aa⟩,Ad5,Ad9,Aea]
   ·rw[if_neg hc,if_neg (fun h=>hc ⟨h.1,fun hm=>h.2 (Aey.2 ⟨t,hm,rfl⟩)⟩)]
  rw[e];refine T0 w ts (De acc t) (fun v h=>(Jj ha h).1) (fun t' h=>hv t' (by simp[h])) (fun a b h1 h2=>hi a b ?_ ?_)
  ·rcases h1 with h1|h1
   ·rcases (Jj ha h1).2 with q|q
    ·exact .inl q
    ·exact .inr (by simp[q])
   ·exact .inr (by simp[h1])
  ·rcases h2 with h2|h2
   ·rcases (Jj ha h2).2 with q|q
    ·exact .inl q
    ·exact .inr (by simp[q])
   ·exact .inr (by simp[h2])
theorem Gk {α β:Type}(f:α->β):∀(l:List α) (k:Nat),(l.map f).eraseIdx k=(l.eraseIdx k).map f
 |[],k=>rfl
 |a::l,0=>rfl
 |a::l,k+1=>by simp[Gk f l k]
structure XR (x:RItem):Prop where
 dt:∀a∈Ae x,∀t∈a.terms,DT t/\Is t/\t.length<=1000
 out:x.out=false
 few:(Au x).length<=26
section
variable {x:RItem} (hx:XR x)
include hx
theorem XR.mem {a:RAtom}(ha:a∈Ae x){t:Tx}(ht:t∈a.terms)(hv:Ad t=true):t∈Au x:=Ov _ _ _ (.inr ⟨Aev.2 ⟨a,ha,ht⟩,hv⟩)
theorem XR.which {t:Tx}(h:t∈Au x):Br (Au x) t=((Au x).idxOf t:Nat)/\(Au x).idxOf t<(Au x).length:=⟨by unfold Br;rw[if_pos h],Afd h⟩
theorem XR.rng {a:RAtom}(ha:a∈Ae x){t:Tx}(ht:t∈a.terms)(hv:Ad t=true):0<=Br (Au x) t/\Br (Au x) t<26:=by
 obtain⟨e1,e2⟩:=hx.which (hx.mem ha ht hv);have:=hx.few;rw[e1];omega
theorem XR.inj {a b:RAtom}(ha:a∈Ae x)(hb:b∈Ae x){t u:Tx}(ht:t∈a.terms)(hu:u∈b.terms)(h:Cx (Au x) t=Cx (Au x) u):t=u:=by
 have v1:=Gd (l:=Au x) (fun hv=>hx.rng ha ht hv);have v2:=Gd (l:=Au x) (fun hv=>hx.rng hb hu hv);have ab:Ad t=Ad u:=by rw[<-v1,<-v2,h]
 cases hv:Ad t with
 |true=>
  have aa:Ad u=true:=by rw[<-ab];exact hv
  have r1:=hx.rng ha ht hv;have r2:=hx.rng hb hu aa;unfold Cx at h;rw[if_pos hv,if_pos aa]at h;have h3:Co (Br (Au x) t)=Co (Br (Au x) u):=by simpa using h
  have h4:((Co (Br (Au x) t)).toNat:Int)=(Co (Br (Au x) u)).toNat:=by rw[h3]
  rw[C6 r1.1 r1.2,C6 r2.1 r2.2]at h4;have m1:=hx.mem ha ht hv;have m2:=hx.mem hb hu aa;have e1:=(hx.which m1).1;have e2:=(hx.which m2).1;exact Ef m1 m2 Agm
 |false=>
  have aa:Ad u=false:=by rw[<-ab];exact hv
  unfold Cx at h;rwa[if_neg (by rw[hv];simp),if_neg (by rw[aa];simp)]at h
theorem XR.ut {a:RAtom}(ha:a∈Ae x){t:Tx}(ht:t∈a.terms):UT (Cx (Au x) t):=by
 obtain⟨d1,d2,d3⟩:=hx.dt a ha t ht;cases hv:Ad t with
 |true=>
  obtain⟨r1,r2⟩:=hx.rng ha ht hv;have e:Cx (Au x) t=[Co ((Br (Au x) t).toNat:Nat)]:=by
   unfold Cx;rw[if_pos hv,Int.toNat_of_nonneg r1]
  rw[e];exact⟨.inl (C7 Agm Agm),⟨by simp,fun b hb=>by simp at hb;subst hb;exact .inl (C7 Agm Agm)⟩,by simp,fun _=>⟨_,Agm,rfl⟩⟩
 |false=>
  have e:Cx (Au x) t=t:=by unfold Cx;rw[if_neg (by rw[hv];simp)]
  rw[e];exact⟨d1,d2,d3,fun h=>by rw[hv]at h;cases h⟩
theorem XR.atoms:Ae (ren x)=(Ae x).map (Bg (Au x)):=by
 unfold Ae ren;simp[hx.out]
theorem XR.ord:Au (ren x)=(Au x).map (Cx (Au x)):=by
 have h1:(Ae (ren x)).flatMap (·.terms)=((Ae x).flatMap (·.terms)).map (Cx (Au x)):=by
  rw[hx.atoms,Afq,List.map_flatMap];rfl
 have mem:∀t,t∈(Ae x).flatMap (·.terms)->∃a∈Ae x,t∈a.terms:=fun t ht=>by
  obtain⟨a,ha,hm⟩:=Aev.1 ht;exact⟨a,ha,hm⟩
 have:=T0 (Cx (Au x)) ((Ae x).flatMap (·.terms)) [] (by simp) (fun t ht=>by
  obtain⟨a,ha,hm⟩:=mem t ht;exact Gd (fun hv=>hx.rng ha hm hv)) (fun t u h1 h2 _ _ h=>by
  rcases h1 with h1|h1
  ·cases h1
  rcases h2 with h2|h2
  ·cases h2
  obtain⟨a,ha,hm⟩:=mem t h1;obtain⟨b,hb,hn⟩:=mem u h2
  exact hx.inj ha hb hm hn h)
 show Dd [] ((Ae (ren x)).flatMap (·.terms))=_;rw[h1];exact this
theorem XR.inO:InO (ren x) where
 ut:=fun a ha t ht=>by
  rw[hx.atoms]at ha;obtain⟨a',ac,rfl⟩:=Aey.1 ha;simp only[Bg,Aey]at ht;obtain⟨t',ab,rfl⟩:=ht;exact hx.ut ac ab
 out:=hx.out
 ord:=by
  rw[hx.ord,Afo];have aa:=(Jh ((Ae x).flatMap (·.terms)) [] (by simp) Afr);apply Ad8;intro i;rw[List.getElem?_map,List.getElem?_map];by_cases hi:i<(Au x).length
  ·rw[List.getElem?_eq_getElem hi,List.getElem?_range hi];simp only[Afk];congr 1;have hm:=Afa hi;have hv:=(aa.1 _ hm).1;unfold Cx;rw[if_pos hv];have:(Au x).idxOf (Au x)[i]=i:=List.Nodup.idxOf_getElem aa.2 i hi;rw[(hx.which hm).1,this]
  ·rw[List.getElem?_eq_none Agm,List.getElem?_eq_none (by simpa using hi)];rfl
 len:=by rw[hx.ord,Afo];exact hx.few
theorem XR.tell:Tell (fun t=>Am (Cx (Au x) t)) (fun t=>∃a∈Ae x,t∈a.terms) where
 var:=fun t ⟨a,ha,ht⟩=>by rw[Bw];exact Gd (fun hv=>hx.rng ha ht hv)
 inj:=fun t u ⟨a,ha,ht⟩ ⟨b,hb,hu⟩ h=>hx.inj ha hb ht hu (tellU.inj _ _ (hx.ut ha ht) (hx.ut hb hu) h)
 pos:=fun t ⟨a,ha,ht⟩ hv=>tellU.pos _ (hx.ut ha ht) (by rw[Gd (fun hv=>hx.rng ha ht hv)];exact hv)
theorem XR.search {N:List Tx}{k:Nat}(hN:∀a∈x.body,a.pred∈N)(aa:∀a∈x.body,∀b∈x.body,a.pred=b.pred->a.terms.length=b.terms.length):
  ∃s0,Cf Kd ((ren x).head.terms.map Am) ((ren x).head.terms.map Am)=some s0/\((∃s',Fp (((ren x).body.eraseIdx k).map (Fv Am N)) ((ren x).body.map (Fv Am N)) s0=some s')↔Vd x k):=by
 obtain⟨s0,h0,h1⟩:=M8 hx.tell N x k hN (fun t ht=>⟨x.head,Ak (.inl ⟨hx.out,rfl⟩),ht⟩) (fun a ha t ht=>⟨a,Ak (.inr ha),ht⟩) aa (fun t ht u hu h=>hx.tell.inj t u ht hu h);have e1:(ren x).head.terms.map Am=x.head.terms.map fun t=>Am (Cx (Au x) t):=by simp[ren,Bg]
 have e2:∀ls:List RAtom,(ls.map (Bg (Au x))).map (Fv Am N)=ls.map (Fv (fun t=>Am (Cx (Au x) t)) N):=fun ls=>by
  rw[Ad6];apply Ae0;intro a _;simp[Fv,Bg]
 have e3:(ren x).body.eraseIdx k=(x.body.eraseIdx k).map (Bg (Au x)):=by simp[ren,Gk]
 refine⟨s0,by rw[e1];exact h0,?_⟩;rw[e3,show (ren x).body=x.body.map (Bg (Au x))from rfl,e2,e2];exact h1
theorem XR.safe (k:Nat):Dw (D9 (ren x) k)=Fa (D9 x k):=by
 unfold Dw Fa;congr 1;have eb:(D9 (ren x) k).body=(x.body.eraseIdx k).map (Bg (Au x)):=by simp[D9,ren,Gk]
 have ea:Ae (D9 (ren x) k)=(Ae (D9 x k)).map (Bg (Au x)):=by simp[Ae,D9,ren,Gk]
 have aa:∀b∈x.body.eraseIdx k,b∈Ae x:=fun b hb=>Ak (.inr (Afj hb));rw[ea,List.any_map];apply Dz;intro a ha;have ab:a∈Ae x:=by
  simp[Ae,D9]at ha;rcases ha with rfl|ha
  ·exact Ak (.inl ⟨hx.out,rfl⟩)
  ·exact aa a ha
 unfold zL vP;simp only[Function.comp,Bg,List.any_map];apply Dz;intro t ht;simp only[Function.comp];rw[Bw,Gd (fun hv=>hx.rng ab ht hv)];cases hv:Ad t with
 |false=>rfl
 |true=>
  congr 2;unfold E8 P8;rw[eb,List.any_map];show _=(x.body.eraseIdx k).any _;apply Dz;intro b hb;have ac:=aa b hb;simp only[Function.comp,Bg,List.any_map];have hk:∀u∈b.terms,Np (Am (Cx (Au x) t)).2 (Cx (Au x) u)=(u==t):=fun u hu=>by
   unfold Np;rw[Afb];simp only[Adv,Agj];constructor
   ·rintro⟨h1,h2⟩;exact hx.inj ac ab hu ht (tellU.inj _ _ (hx.ut ac hu) (hx.ut ab ht) (Afi (by rw[h1,Bw,Gd (fun hv=>hx.rng ab ht hv),hv]) h2))
   ·rintro rfl;exact⟨by rw[Bw,Gd (fun hv=>hx.rng ab ht hv),hv],rfl⟩
  rw[Dz (p:=Np (Am (Cx (Au x) t)).2∘Cx (Au x)) (q:=fun u=>u==t) hk];cases b.nt<;>simp
end
structure Right (t:Tx)(N:List Tx)(l:List RItem)(cs:List AV):Prop where
 ok:(Ax t).1=0
 len:t.length<=600
 parse:Bz 16 t= .got l []
 bk:Bk N l cs
 wit:∀x∈l,Bv x
theorem Right.items {t:Tx}{N:List Tx}{l:List RItem}{cs:List AV}(h:Right t N l cs):Cp t=l:=(Nf (by have:=h.len;omega) h.parse).2.1
theorem Right.wi {t:Tx}{N:List Tx}{l:List RItem}{cs:List AV}(h:Right t N l cs):∀x∈l,WI N x:=Aca (by have:=h.len;omega) h.parse h.bk h.wit
theorem Aao {x:RItem}(hw:Bv x):(Au x).length<=18:=by
 have h3:=T1 ((Ae x).flatMap (·.terms)) [];obtain⟨q1,q2,q3⟩:=hw;have h4:(Ae x).length<=6/\∀b∈Ae x,b.terms.length<=3:=by
  cases ho:x.out with
  |true=>
   obtain⟨-,-,e⟩:=q2 ho;simp[Ae,ho,e]
  |false=>
   obtain⟨e1,-,e2,e3⟩:=q3 ho;refine⟨by simp[Ae,ho];omega,fun b hb=>?_⟩;simp[Ae,ho]at hb;rcases hb with rfl|hb
   ·exact e1.2.2.1
   ·exact (e3 b hb).2.2.1
 have h5:=eS h4.2;unfold Au;rw[Aem,Aed]at h3;omega
theorem H4 {p:Nat->Bool}{n:Nat}(h:¬0<=Bn p n):∀i,i<n->p i=false:=by
 intro i hi;unfold Bn at h;split at h
 ·rename_i j hj;exact absurd (Afg j) h
 ·rename_i hn;rw[List.find?_eq_none]at hn;simpa using hn i (by simpa using hi)
theorem W1 {t:Tx}(h:(Ax t).1=0):∀x∈Cp t,∀a∈Ae x,∀b∈Ae x,a.pred=b.pred->a.terms.length=b.terms.length:=by
 have aa:∀i,i<(Cp t).length->Hz (Cp t) i=false:=by
  unfold Ax at h;split at h
  ·simp at h
  split at h
  ·simp at h
  unfold Cd at h;split at h
  ·simp at h
  ·rename_i hk;exact H4 hk
 intro x hx a ha b hb he;obtain⟨i,hi⟩:=List.getElem?_of_mem hx;have h1:=aa i (List.getElem?_eq_some_iff.1 hi).1;unfold Hz at h1;rw[hi]at h1;simp only[Ae9,List.mem_range]at h1;obtain⟨j,hj⟩:=List.getElem?_of_mem ha;obtain⟨k,hk⟩:=List.getElem?_of_mem hb;have ae:=(List.getElem?_eq_some_iff.1 hj).1;have ad:=(List.getElem?_eq_some_iff.1 hk).1;have key:∀(j k:Nat) (a b:RAtom),(Ae x)[j]?=some a->(Ae x)[k]?=some b->k<j->a.pred=b.pred->a.terms.length=b.terms.length:=by
  intro j k a b hj hk ab he;have h2:=h1 j (List.getElem?_eq_some_iff.1 hj).1;unfold Qn at h2;rw[hj]at h2;simp only[Aeo,not_exists,not_and]at h2
  have h3:=h2 b (by
   unfold E9
   exact Aew.2 (.inr (Adt (i:=k) (by rw[List.getElem?_take,if_pos ab];exact hk))))
  unfold clash at h3;simp[he]at h3;exact h3.symm
 rcases Afs j k with ab|rfl|ac
 ·exact (key k j b a hk hj ab he.symm).symm
 ·rw[hj]at hk;cases hk;rfl
 ·exact key j k a b hj hk ac he
theorem Qf {t:Tx}(h:UT t):VT t:=by
 cases hv:Ad t with
 |true=>
  obtain⟨k,hk,rfl,-⟩:=h.enc hv;exact .inl ⟨_,rfl,C7 Agm Agm⟩
 |false=>
  refine .inr ⟨h.2.1.1,fun b hb=>?_⟩;rcases h.2.1.2 b hb with q|q
  ·exfalso;rcases h.1 with h1|⟨-,h1,h2,h3⟩
   ·rw[hv]at h1;cases h1
   ·have hd:∀(u:Nat),∀c∈Lib.decDigits u,c.toNat<=57:=by
     intro u;induction u using Nat.strongRecOn with
     |_ u ih=>
      intro c hc;by_cases ab:u<10
      ·rw[Lib.decDigits_one ab]at hc;simp only[Aff]at hc;subst hc;rw[UInt8.toNat_ofNat_of_lt' (by show 48+u<256;omega)];omega
      ·rw[Lib.decDigits,dif_neg ab]at hc;rcases Aew.1 hc with q|q
       ·exact ih (u / 10) Agm c q
       ·simp only[Aff]at q;subst q;rw[UInt8.toNat_ofNat_of_lt' (by show 48+u % 10<256;omega)];omega
    have aa:b∈Lib.itoa (Am t).2:=by rw[h1];exact hb
    unfold Lib.itoa at aa;rw[if_neg Agm]at aa;have:=hd _ b aa;simp[A8]at q;omega
  ·exact q
theorem aN {α:Type}(g h:α->Tx):∀l:List α,(∀a∈l,(g a).length<=(h a).length)->(A7 (l.map g)).length<=(A7 (l.map h)).length
 |[],_=>by simp[A7]
 |a::l,hl=>by
  have h1:=aN g h l fun b hb=>hl b (by simp[hb]);have h2:=hl a (by simp);unfold A7 at*
  simp only[Ad9,Ae5,Aee,Aen];omega
theorem N8 {α:Type}(g h:α->Tx):∀l:List α,(∀a∈l,(g a).length<=(h a).length)->(A2 (l.map g)).length<=(A2 (l.map h)).length
 |[],_=>by simp[A2]
 |a::l,hl=>by
  have h1:=aN g h l fun b hb=>hl b (by simp[hb]);have h2:=hl a (by simp);simp only[Ad9,A2,Aee];omega
theorem Aax {l:List Tx}{t:Tx}(h:Is t):(Cx l t).length<=t.length:=by
 unfold Cx;split
 ·have:=List.length_pos_iff.2 h.1;simp only[Aen,Aem];omega
 ·exact Adn _
theorem aS {l:List Tx}{a:RAtom}(h:Da a):(A4 (Bg l a)).length<=(A4 a).length:=by
 have h1:=N8 (Cx l) id a.terms fun t ht=>Aax (h.2.2.2 t ht);rw[Aez]at h1;unfold A4 Bg;simp only[Aee,Aen,Aem];omega
theorem xK {l:List Tx}{a:RAtom}(h:Da a):(Bb (Bg l a)).length<=(Bb a).length:=by
 have h1:=aS (l:=l) h;unfold Bb;rw[Aee,Aee];show (if a.nt=true then [33]else ([]:Tx)).length+_<=_;omega
theorem aQ {x:RItem}(h:Bv x):(A0 (ren x)).length<=(A0 x).length:=by
 unfold A0;cases ho:x.out with
 |true=>
  rw[if_pos (by simp[ren,ho]),if_pos rfl];simp[ren,Bg]
 |false=>
  obtain⟨q1,-,-,q3⟩:=h.2.2 ho;rw[if_neg (by simp[ren,ho]),if_neg (by simp)];have h1:=aS (l:=Au x) q1;have h2:=N8 (fun a=>Bb (Bg (Au x) a)) Bb x.body fun a ha=>xK (q3 a ha);unfold Cv;show (A4 (Bg (Au x) x.head)++(if x.body.map (Bg (Au x))=[]then []else 58::45::A2 ((x.body.map (Bg (Au x))).map Bb))).length<=_;rw[Ad6,Aee,Aee];by_cases hb:x.body=[]
  ·rw[if_pos (by simp[hb]),if_pos hb];simpa using h1
  ·rw[if_neg (by simpa using hb),if_neg hb];simp only[Aen];have h3:(A2 (x.body.map (Bb∘Bg (Au x)))).length<=(A2 (x.body.map Bb)).length:=h2;omega
theorem Pm:∀l:List RItem,(∀x∈l,Bv x)->(Bj (l.map ren)).length<=(Bj l).length
 |[],_=>by simp[Bj]
 |x::l,h=>by
  have h1:=Pm l fun y hy=>h y (by simp[hy]);have h2:=aQ (h x (by simp));unfold Bj at*
  simp only[Ad9,Ae5,Aee,Aen,Aem];omega
theorem cP {t:Tx}(he:(Ax t).1=0):t.length<=600/\∃l r,Bz 16 t= .got l r:=by
 have aa:t.length<=600:=by
  by_cases hl:600<t.length
  ·unfold Ax at he;rw[if_pos hl]at he;simp at he
  ·omega
 refine⟨aa,?_⟩;have hp:=Jy t;cases h:Bz 16 t with
 |got l r=>exact⟨l,r,rfl⟩
 |bad e=>
  rw[h]at hp;have hp:Nb t=((t.length-e.length:Nat):Int):=hp;unfold Ax at he;rw[if_neg Agm,hp,if_pos (Afg _)]at he;simp at he
end Go.Proofs.YtmoeoppbmhfbpabGreatDoorG
