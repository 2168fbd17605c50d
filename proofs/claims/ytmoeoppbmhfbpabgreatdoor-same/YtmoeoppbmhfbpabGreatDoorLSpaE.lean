import Derived.Test.YtmoeoppbmhfbpabGreatDoorLSpaA
import Derived.Test.YtmoeoppbmhfbpabGreatDoorLShelf
import Derived.Test.YtmoeoppbmhfbpabGreatDoorLProgP
set_option maxRecDepth 100000
set_option linter.all false
namespace Go.Proofs.YtmoeoppbmhfbpabGreatDoorL
open Go.Abs
theorem Bp (t:Tx):(Al t).1=Ad t:=by
 cases t with
 |nil=>rfl
 |cons b r=>
  unfold Al Ad;dsimp only;split
  ·rename_i h;rw[h]
  ·rename_i h;simp at h;rw[h]
def UT (t:Tx):Prop:=DT t/\Nt t/\t.length<=1000/\(Ad t=true->∃k:Nat,k<26/\t=[Jp k])
theorem UT.enc {t:Tx}(h:UT t)(hv:Ad t=true):∃k:Nat,k<26/\t=[Jp k]/\Al t=(true,(k:Int)):=by
 obtain⟨k,hk,rfl⟩:=h.2.2.2 hv;refine⟨k,hk,rfl,?_⟩;rw[D1 (Ei Ajm Ajm),E9 Ajm Ajm];congr 1;omega
theorem tellU:Tell Al UT where
 var:=fun t _=>Bp t
 inj:=fun t u ht hu h=>by
  have hv:Ad t=Ad u:=by rw[<-Bp,<-Bp,h]
  cases hb:Ad t with
  |true=>
   obtain⟨k,hk,rfl,e1⟩:=ht.enc hb;obtain⟨j,hj,rfl,e2⟩:=hu.enc (by rw[<-hv];exact hb);rw[e1,e2]at h;have:(k:Int)=j:=congrArg (·.2) h;rw[this]
  |false=>
   rcases ht.1 with h1|⟨-,h1,-⟩
   ·rw[hb]at h1;cases h1
   rcases hu.1 with h2|⟨-,h2,-⟩
   ·rw[<-hv,hb]at h2;cases h2
   rw[<-h1,<-h2,h]
 pos:=fun t ht hv=>by
  obtain⟨k,-,-,e⟩:=ht.enc hv;rw[e];exact Aic _
theorem UT.varOk {t:Tx}(h:UT t):varOk t:=fun hv=>by
 rw[Bp]at hv;obtain⟨k,hk,-,e⟩:=h.enc hv;exact⟨k,hk,by rw[e]⟩
theorem UT.dec {t:Tx}(h:UT t):Ia (Al t)=t/\okE (Al t):=by
 have hd:Ia (Al t)=t:=by
  cases hv:Ad t with
  |true=>
   obtain⟨k,hk,rfl,e⟩:=h.enc hv;rw[e];unfold Ia;rw[if_pos rfl,Oe Ajm Ajm]
  |false=>
   rcases h.1 with h1|⟨-,h1,-⟩
   ·rw[hv]at h1;cases h1
   ·unfold Ia;rw[if_neg (by rw[Bp,hv];simp),h1]
 refine⟨hd,?_,?_,?_,by rw[hd];exact h.2.2.1⟩
 ·cases hv:Ad t with
  |true=>obtain⟨k,hk,-,e⟩:=h.enc hv;rw[e];exact Aic _
  |false=>
   rcases h.1 with h1|h1
   ·rw[hv]at h1;cases h1
   ·exact h1.2.2.1
 ·intro hb;rw[Bp]at hb;obtain⟨k,hk,-,e⟩:=h.enc hb;rw[e];show (k:Int)<26;omega
 ·cases hv:Ad t with
  |true=>obtain⟨k,hk,-,e⟩:=h.enc hv;rw[e];show (k:Int)<=999;omega
  |false=>
   rcases h.1 with h1|h1
   ·rw[hv]at h1;cases h1
   ·exact h1.2.2.2
structure InO (y:RItem):Prop where
 ut:∀a∈Ae y,∀t∈a.terms,UT t
 out:y.out=false
 ord:A5 y=(List.range (A5 y).length).map fun i=>[Jp (i:Nat)]
 len:(A5 y).length<=26
section
variable {N:List Tx} {y:RItem} {k:Nat} {s0 s:Sw}
end
theorem J8 {acc:List Tx}{t u:Tx}(h:∀v∈acc,Ad v=true)(hu:u∈F1 acc t):Ad u=true/\(u∈acc\/u=t):=by
 unfold F1 at hu;split at hu
 ·rename_i hc;rcases Ahs.1 hu with q|q
  ·exact⟨h u q,.inl q⟩
  ·simp at q;subst q;exact⟨hc.1,.inr rfl⟩
 ·exact⟨h u hu,.inl hu⟩
theorem Mv:∀(ts acc:List Tx),(∀v∈acc,Ad v=true)->acc.Nodup->(∀v∈Hn acc ts,Ad v=true/\(v∈acc\/v∈ts))/\(Hn acc ts).Nodup
 |[],acc,h,hn=>⟨fun v hv=>⟨h v hv,.inl hv⟩,hn⟩
 |t::ts,acc,h,hn=>by
  have aa:(F1 acc t).Nodup:=by
   unfold F1;split
   ·rename_i hc;rw[Aiw];refine⟨hn,by simp,fun a ha b hb=>?_⟩;simp at hb;subst hb;exact fun e=>hc.2 (e ▸ ha)
   ·exact hn
  obtain⟨h1,h2⟩:=Mv ts (F1 acc t) (fun v hv=>(J8 h hv).1) aa;refine⟨fun v hv=>?_,h2⟩;obtain⟨q1,q2⟩:=h1 v hv;refine⟨q1,?_⟩;rcases q2 with q2|q2
  ·rcases (J8 h q2).2 with q|q
   ·exact .inl q
   ·exact .inr (by simp[q])
  ·exact .inr (by simp[q2])
theorem gO (w:Tx->Tx):∀(ts acc:List Tx),(∀v∈acc,Ad v=true)->(∀t∈ts,Ad (w t)=Ad t)->(∀t u,(t∈acc\/t∈ts)->(u∈acc\/u∈ts)->Ad t=true->Ad u=true->w t=w u->t=u)->Hn (acc.map w) (ts.map w)=(Hn acc ts).map w
 |[],acc,_,_,_=>rfl
 |t::ts,acc,ha,hv,hi=>by
  show Hn (F1 (acc.map w) (w t)) (ts.map w)=(Hn (F1 acc t) ts).map w;have e:F1 (acc.map w) (w t)=(F1 acc t).map w:=by
   unfold F1;rw[hv t (by simp)];by_cases hc:Ad t=true/\t∉acc
   ·have aa:w t∉acc.map w:=fun hm=>by
     obtain⟨u,hu,e⟩:=Ahv.1 hm;have:=hi u t (.inl hu) (.inr (by simp)) (ha u hu) hc.1 e;exact hc.2 (this ▸ hu)
    rw[if_pos hc,if_pos ⟨hc.1,aa⟩,Ag1,Ag5,Ag6]
   ·rw[if_neg hc,if_neg (fun h=>hc ⟨h.1,fun hm=>h.2 (Ahv.2 ⟨t,hm,rfl⟩)⟩)]
  rw[e];refine gO w ts (F1 acc t) (fun v h=>(J8 ha h).1) (fun t' h=>hv t' (by simp[h])) (fun a b h1 h2=>hi a b ?_ ?_)
  ·rcases h1 with h1|h1
   ·rcases (J8 ha h1).2 with q|q
    ·exact .inl q
    ·exact .inr (by simp[q])
   ·exact .inr (by simp[h1])
  ·rcases h2 with h2|h2
   ·rcases (J8 ha h2).2 with q|q
    ·exact .inl q
    ·exact .inr (by simp[q])
   ·exact .inr (by simp[h2])
theorem M6 {α β:Type}(f:α->β):∀(l:List α) (k:Nat),(l.map f).eraseIdx k=(l.eraseIdx k).map f
 |[],k=>rfl
 |a::l,0=>rfl
 |a::l,k+1=>by simp[M6 f l k]
structure XR (x:RItem):Prop where
 dt:∀a∈Ae x,∀t∈a.terms,DT t/\Nt t/\t.length<=1000
 out:x.out=false
 few:(A5 x).length<=26
section
variable {x:RItem} (hx:XR x)
include hx
theorem XR.mem {a:RAtom}(ha:a∈Ae x){t:Tx}(ht:t∈a.terms)(hv:Ad t=true):t∈A5 x:=Pp _ _ _ (.inr ⟨Ahr.2 ⟨a,ha,ht⟩,hv⟩)
theorem XR.which {t:Tx}(h:t∈A5 x):Bz (A5 x) t=((A5 x).idxOf t:Nat)/\(A5 x).idxOf t<(A5 x).length:=⟨by unfold Bz;rw[if_pos h],Ah9 h⟩
theorem XR.rng {a:RAtom}(ha:a∈Ae x){t:Tx}(ht:t∈a.terms)(hv:Ad t=true):0<=Bz (A5 x) t/\Bz (A5 x) t<26:=by
 obtain⟨e1,e2⟩:=hx.which (hx.mem ha ht hv);have:=hx.few;rw[e1];omega
theorem XR.inj {a b:RAtom}(ha:a∈Ae x)(hb:b∈Ae x){t u:Tx}(ht:t∈a.terms)(hu:u∈b.terms)(h:Gt (A5 x) t=Gt (A5 x) u):t=u:=by
 have v1:=Jn (l:=A5 x) (fun hv=>hx.rng ha ht hv);have v2:=Jn (l:=A5 x) (fun hv=>hx.rng hb hu hv);have ab:Ad t=Ad u:=by rw[<-v1,<-v2,h]
 cases hv:Ad t with
 |true=>
  have aa:Ad u=true:=by rw[<-ab];exact hv
  have r1:=hx.rng ha ht hv;have r2:=hx.rng hb hu aa;unfold Gt at h;rw[if_pos hv,if_pos aa]at h;have h3:Jp (Bz (A5 x) t)=Jp (Bz (A5 x) u):=by simpa using h
  have h4:((Jp (Bz (A5 x) t)).toNat:Int)=(Jp (Bz (A5 x) u)).toNat:=by rw[h3]
  rw[E9 r1.1 r1.2,E9 r2.1 r2.2]at h4;have m1:=hx.mem ha ht hv;have m2:=hx.mem hb hu aa;have e1:=(hx.which m1).1;have e2:=(hx.which m2).1;exact C2 m1 m2 Ajm
 |false=>
  have aa:Ad u=false:=by rw[<-ab];exact hv
  unfold Gt at h;rwa[if_neg (by rw[hv];simp),if_neg (by rw[aa];simp)]at h
theorem XR.ut {a:RAtom}(ha:a∈Ae x){t:Tx}(ht:t∈a.terms):UT (Gt (A5 x) t):=by
 obtain⟨d1,d2,d3⟩:=hx.dt a ha t ht;cases hv:Ad t with
 |true=>
  obtain⟨r1,r2⟩:=hx.rng ha ht hv;have e:Gt (A5 x) t=[Jp ((Bz (A5 x) t).toNat:Nat)]:=by
   unfold Gt;rw[if_pos hv,Int.toNat_of_nonneg r1]
  rw[e];exact⟨.inl (Ei Ajm Ajm),⟨by simp,fun b hb=>by simp at hb;subst hb;exact .inl (Ei Ajm Ajm)⟩,by simp,fun _=>⟨_,Ajm,rfl⟩⟩
 |false=>
  have e:Gt (A5 x) t=t:=by unfold Gt;rw[if_neg (by rw[hv];simp)]
  rw[e];exact⟨d1,d2,d3,fun h=>by rw[hv]at h;cases h⟩
theorem XR.atoms:Ae (ren x)=(Ae x).map (Ct (A5 x)):=by
 unfold Ae ren;simp[hx.out]
theorem XR.ord:A5 (ren x)=(A5 x).map (Gt (A5 x)):=by
 have h1:(Ae (ren x)).flatMap (·.terms)=((Ae x).flatMap (·.terms)).map (Gt (A5 x)):=by
  rw[hx.atoms,List.flatMap_map,List.map_flatMap];rfl
 have mem:∀t,t∈(Ae x).flatMap (·.terms)->∃a∈Ae x,t∈a.terms:=fun t ht=>by
  obtain⟨a,ha,hm⟩:=Ahr.1 ht;exact⟨a,ha,hm⟩
 have:=gO (Gt (A5 x)) ((Ae x).flatMap (·.terms)) [] (by simp) (fun t ht=>by
  obtain⟨a,ha,hm⟩:=mem t ht;exact Jn (fun hv=>hx.rng ha hm hv)) (fun t u h1 h2 _ _ h=>by
  rcases h1 with h1|h1
  ·cases h1
  rcases h2 with h2|h2
  ·cases h2
  obtain⟨a,ha,hm⟩:=mem t h1;obtain⟨b,hb,hn⟩:=mem u h2
  exact hx.inj ha hb hm hn h)
 show Hn [] ((Ae (ren x)).flatMap (·.terms))=_;rw[h1];exact this
theorem XR.inO:InO (ren x) where
 ut:=fun a ha t ht=>by
  rw[hx.atoms]at ha;obtain⟨a',ac,rfl⟩:=Ahv.1 ha;simp only[Ct,Ahv]at ht;obtain⟨t',ab,rfl⟩:=ht;exact hx.ut ac ab
 out:=hx.out
 ord:=by
  rw[hx.ord,Aij];have aa:=(Mv ((Ae x).flatMap (·.terms)) [] (by simp) Aii);apply Ag4;intro i;rw[List.getElem?_map,List.getElem?_map];by_cases hi:i<(A5 x).length
  ·rw[List.getElem?_eq_getElem hi,List.getElem?_range hi];simp only[Ais];congr 1;have hm:=Ah6 hi;have hv:=(aa.1 _ hm).1;unfold Gt;rw[if_pos hv];have:(A5 x).idxOf (A5 x)[i]=i:=List.Nodup.idxOf_getElem aa.2 i hi;rw[(hx.which hm).1,this]
  ·rw[List.getElem?_eq_none Ajm,List.getElem?_eq_none (by simpa using hi)];rfl
 len:=by rw[hx.ord,Aij];exact hx.few
theorem XR.tell:Tell (fun t=>Al (Gt (A5 x) t)) (fun t=>∃a∈Ae x,t∈a.terms) where
 var:=fun t ⟨a,ha,ht⟩=>by rw[Bp];exact Jn (fun hv=>hx.rng ha ht hv)
 inj:=fun t u ⟨a,ha,ht⟩ ⟨b,hb,hu⟩ h=>hx.inj ha hb ht hu (tellU.inj _ _ (hx.ut ha ht) (hx.ut hb hu) h)
 pos:=fun t ⟨a,ha,ht⟩ hv=>tellU.pos _ (hx.ut ha ht) (by rw[Jn (fun hv=>hx.rng ha ht hv)];exact hv)
theorem XR.search {N:List Tx}{k:Nat}(hN:∀a∈x.body,a.pred∈N)(aa:∀a∈x.body,∀b∈x.body,a.pred=b.pred->a.terms.length=b.terms.length):
  ∃s0,Ch K6 ((ren x).head.terms.map Al) ((ren x).head.terms.map Al)=some s0/\((∃s',F8 (((ren x).body.eraseIdx k).map (Gf Al N)) ((ren x).body.map (Gf Al N)) s0=some s')↔Rb x k):=by
 obtain⟨s0,h0,h1⟩:=Nx hx.tell N x k hN (fun t ht=>⟨x.head,Au (.inl ⟨hx.out,rfl⟩),ht⟩) (fun a ha t ht=>⟨a,Au (.inr ha),ht⟩) aa (fun t ht u hu h=>hx.tell.inj t u ht hu h);have e1:(ren x).head.terms.map Al=x.head.terms.map fun t=>Al (Gt (A5 x) t):=by simp[ren,Ct]
 have e2:∀ls:List RAtom,(ls.map (Ct (A5 x))).map (Gf Al N)=ls.map (Gf (fun t=>Al (Gt (A5 x) t)) N):=fun ls=>by
  rw[Ag2];apply Ahx;intro a _;simp[Gf,Ct]
 have e3:(ren x).body.eraseIdx k=(x.body.eraseIdx k).map (Ct (A5 x)):=by simp[ren,M6]
 refine⟨s0,by rw[e1];exact h0,?_⟩;rw[e3,show (ren x).body=x.body.map (Ct (A5 x))from rfl,e2,e2];exact h1
theorem XR.safe (k:Nat):Ec (G6 (ren x) k)=F7 (G6 x k):=by
 unfold Ec F7;congr 1;have eb:(G6 (ren x) k).body=(x.body.eraseIdx k).map (Ct (A5 x)):=by simp[G6,ren,M6]
 have ea:Ae (G6 (ren x) k)=(Ae (G6 x k)).map (Ct (A5 x)):=by simp[Ae,G6,ren,M6]
 have aa:∀b∈x.body.eraseIdx k,b∈Ae x:=fun b hb=>Au (.inr (Air hb));rw[ea,List.any_map];apply Ee;intro a ha;have ab:a∈Ae x:=by
  simp[Ae,G6]at ha;rcases ha with rfl|ha
  ·exact Au (.inl ⟨hx.out,rfl⟩)
  ·exact aa a ha
 unfold zM tP;simp only[Function.comp,Ct,List.any_map];apply Ee;intro t ht;simp only[Function.comp];rw[Bp,Jn (fun hv=>hx.rng ab ht hv)];cases hv:Ad t with
 |false=>rfl
 |true=>
  congr 2;unfold Fi Me;rw[eb,List.any_map];show _=(x.body.eraseIdx k).any _;apply Ee;intro b hb;have ac:=aa b hb;simp only[Function.comp,Ct,List.any_map];have hk:∀u∈b.terms,Oi (Al (Gt (A5 x) t)).2 (Gt (A5 x) u)=(u==t):=fun u hu=>by
   unfold Oi;rw[Ah7];simp only[Ags,Ajk];constructor
   ·rintro⟨h1,h2⟩;exact hx.inj ac ab hu ht (tellU.inj _ _ (hx.ut ac hu) (hx.ut ab ht) (Prod.ext (by rw[h1,Bp,Jn (fun hv=>hx.rng ab ht hv),hv]) h2))
   ·rintro rfl;exact⟨by rw[Bp,Jn (fun hv=>hx.rng ab ht hv),hv],rfl⟩
  rw[Ee (p:=Oi (Al (Gt (A5 x) t)).2∘Gt (A5 x)) (q:=fun u=>u==t) hk];cases b.nt<;>simp
end
structure Right (t:Tx)(N:List Tx)(l:List RItem)(cs:List AV):Prop where
 ok:(Av t).1=0
 len:t.length<=600
 parse:Br 16 t= .got l []
 bk:Bk N l cs
 wit:∀x∈l,Cl x
theorem Right.items {t:Tx}{N:List Tx}{l:List RItem}{cs:List AV}(h:Right t N l cs):Cw t=l:=(Iu (by have:=h.len;omega) h.parse).2.1
theorem Right.wi {t:Tx}{N:List Tx}{l:List RItem}{cs:List AV}(h:Right t N l cs):∀x∈l,WI N x:=Ae8 (by have:=h.len;omega) h.parse h.bk h.wit
theorem Afs {x:RItem}(hw:Cl x):(A5 x).length<=18:=by
 have h3:=U9 ((Ae x).flatMap (·.terms)) [];obtain⟨q1,q2,q3⟩:=hw;have h4:(Ae x).length<=6/\∀b∈Ae x,b.terms.length<=3:=by
  cases ho:x.out with
  |true=>
   obtain⟨-,-,e⟩:=q2 ho;simp[Ae,ho,e]
  |false=>
   obtain⟨e1,-,e2,e3⟩:=q3 ho;refine⟨by simp[Ae,ho];omega,fun b hb=>?_⟩;simp[Ae,ho]at hb;rcases hb with rfl|hb
   ·exact e1.2.2.1
   ·exact (e3 b hb).2.2.1
 have h5:=iR h4.2;unfold A5;rw[Ahi,Ag9]at h3;omega
theorem Kx {p:Nat->Bool}{n:Nat}(h:¬0<=Bj p n):∀i,i<n->p i=false:=by
 intro i hi;unfold Bj at h;split at h
 ·rename_i j hj;exact absurd (Aic j) h
 ·rename_i hn;rw[List.find?_eq_none]at hn;simpa using hn i (by simpa using hi)
theorem Zb {t:Tx}(h:(Av t).1=0):∀x∈Cw t,∀a∈Ae x,∀b∈Ae x,a.pred=b.pred->a.terms.length=b.terms.length:=by
 have aa:∀i,i<(Cw t).length->H6 (Cw t) i=false:=by
  unfold Av at h;split at h
  ·simp at h
  split at h
  ·simp at h
  unfold Ce at h;split at h
  ·simp at h
  ·rename_i hk;exact Kx hk
 intro x hx a ha b hb he;obtain⟨i,hi⟩:=List.getElem?_of_mem hx;have h1:=aa i (List.getElem?_eq_some_iff.1 hi).1;unfold H6 at h1;rw[hi]at h1;simp only[Ah5,List.mem_range]at h1;obtain⟨j,hj⟩:=List.getElem?_of_mem ha;obtain⟨k,hk⟩:=List.getElem?_of_mem hb;have ae:=(List.getElem?_eq_some_iff.1 hj).1;have ad:=(List.getElem?_eq_some_iff.1 hk).1;have key:∀(j k:Nat) (a b:RAtom),(Ae x)[j]?=some a->(Ae x)[k]?=some b->k<j->a.pred=b.pred->a.terms.length=b.terms.length:=by
  intro j k a b hj hk ab he;have h2:=h1 j (List.getElem?_eq_some_iff.1 hj).1;unfold Rp at h2;rw[hj]at h2;simp only[Ahk,not_exists,not_and]at h2
  have h3:=h2 b (by
   unfold Dg
   exact Ahs.2 (.inr (Agp (i:=k) (by rw[List.getElem?_take,if_pos ab];exact hk))))
  unfold clash at h3;simp[he]at h3;exact h3.symm
 rcases Nat.lt_trichotomy j k with ab|rfl|ac
 ·exact (key k j b a hk hj ab he.symm).symm
 ·rw[hj]at hk;cases hk;rfl
 ·exact key j k a b hj hk ac he
theorem Yb {t:Tx}(h:UT t):VT t:=by
 cases hv:Ad t with
 |true=>
  obtain⟨k,hk,rfl,-⟩:=h.enc hv;exact .inl ⟨_,rfl,Ei Ajm Ajm⟩
 |false=>
  refine .inr ⟨h.2.1.1,fun b hb=>?_⟩;rcases h.2.1.2 b hb with q|q
  ·exfalso;rcases h.1 with h1|⟨-,h1,h2,h3⟩
   ·rw[hv]at h1;cases h1
   ·have hd:∀(u:Nat),∀c∈Lib.decDigits u,c.toNat<=57:=by
     intro u;induction u using Nat.strongRecOn with
     |_ u ih=>
      intro c hc;by_cases ab:u<10
      ·rw[Lib.decDigits_one ab]at hc;simp only[Aib]at hc;subst hc;rw[UInt8.toNat_ofNat_of_lt' (by show 48+u<256;omega)];omega
      ·rw[Lib.decDigits,dif_neg ab]at hc;rcases Ahs.1 hc with q|q
       ·exact ih (u / 10) Ajm c q
       ·simp only[Aib]at q;subst q;rw[UInt8.toNat_ofNat_of_lt' (by show 48+u % 10<256;omega)];omega
    have aa:b∈Lib.itoa (Al t).2:=by rw[h1];exact hb
    unfold Lib.itoa at aa;rw[if_neg Ajm]at aa;have:=hd _ b aa;simp[Bm]at q;omega
  ·exact q
theorem dG {α:Type}(g h:α->Tx):∀l:List α,(∀a∈l,(g a).length<=(h a).length)->(B6 (l.map g)).length<=(B6 (l.map h)).length
 |[],_=>by simp[B6]
 |a::l,hl=>by
  have h1:=dG g h l fun b hb=>hl b (by simp[hb]);have h2:=hl a (by simp);unfold B6 at*
  simp only[Ag5,Ah3,Aha,Ahj];omega
theorem dH {α:Type}(g h:α->Tx):∀l:List α,(∀a∈l,(g a).length<=(h a).length)->(Bl (l.map g)).length<=(Bl (l.map h)).length
 |[],_=>by simp[Bl]
 |a::l,hl=>by
  have h1:=dG g h l fun b hb=>hl b (by simp[hb]);have h2:=hl a (by simp);simp only[Ag5,Bl,Aha];omega
theorem Adw {l:List Tx}{t:Tx}(h:Nt t):(Gt l t).length<=t.length:=by
 unfold Gt;split
 ·have:=Aie.2 h.1;simp only[Ahj,Ahi];omega
 ·exact Agi _
theorem dK {l:List Tx}{a:RAtom}(h:D2 a):(A7 (Ct l a)).length<=(A7 a).length:=by
 have h1:=dH (Gt l) id a.terms fun t ht=>Adw (h.2.2.2 t ht);rw[Ahw]at h1;unfold A7 Ct;simp only[Aha,Ahj,Ahi];omega
theorem Aa3 {l:List Tx}{a:RAtom}(h:D2 a):(B9 (Ct l a)).length<=(B9 a).length:=by
 have h1:=dK (l:=l) h;unfold B9;rw[Aha,Aha];show (if a.nt=true then [33]else ([]:Tx)).length+_<=_;omega
theorem vA {x:RItem}(h:Cl x):(Be (ren x)).length<=(Be x).length:=by
 unfold Be;cases ho:x.out with
 |true=>
  rw[if_pos (by simp[ren,ho]),if_pos rfl];simp[ren,Ct]
 |false=>
  obtain⟨q1,-,-,q3⟩:=h.2.2 ho;rw[if_neg (by simp[ren,ho]),if_neg (by simp)];have h1:=dK (l:=A5 x) q1;have h2:=dH (fun a=>B9 (Ct (A5 x) a)) B9 x.body fun a ha=>Aa3 (q3 a ha);unfold Di;show (A7 (Ct (A5 x) x.head)++(if x.body.map (Ct (A5 x))=[]then []else 58::45::Bl ((x.body.map (Ct (A5 x))).map B9))).length<=_;rw[Ag2,Aha,Aha];by_cases hb:x.body=[]
  ·rw[if_pos (by simp[hb]),if_pos hb];simpa using h1
  ·rw[if_neg (by simpa using hb),if_neg hb];simp only[Ahj];have h3:(Bl (x.body.map (B9∘Ct (A5 x)))).length<=(Bl (x.body.map B9)).length:=h2;omega
theorem Ye:∀l:List RItem,(∀x∈l,Cl x)->(Bv (l.map ren)).length<=(Bv l).length
 |[],_=>by simp[Bv]
 |x::l,h=>by
  have h1:=Ye l fun y hy=>h y (by simp[hy]);have h2:=vA (h x (by simp));unfold Bv at*
  simp only[Ag5,Ah3,Aha,Ahj,Ahi];omega
theorem Rk {t:Tx}(he:(Av t).1=0):t.length<=600/\∃l r,Br 16 t= .got l r:=by
 have aa:t.length<=600:=by
  by_cases hl:600<t.length
  ·unfold Av at he;rw[if_pos hl]at he;simp at he
  ·omega
 refine⟨aa,?_⟩;have hp:=Kq t;cases h:Br 16 t with
 |got l r=>exact⟨l,r,rfl⟩
 |bad e=>
  rw[h]at hp;have hp:N5 t=((t.length-e.length:Nat):Int):=hp;unfold Av at he;rw[if_neg Ajm,hp,if_pos (Aic _)]at he;simp at he
end Go.Proofs.YtmoeoppbmhfbpabGreatDoorL
