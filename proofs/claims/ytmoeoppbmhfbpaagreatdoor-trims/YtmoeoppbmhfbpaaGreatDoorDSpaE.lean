import Derived.Test.YtmoeoppbmhfbpaaGreatDoorDSpaA
import Derived.Test.YtmoeoppbmhfbpaaGreatDoorDPrtF
import Derived.Test.YtmoeoppbmhfbpaaGreatDoorDLawA
set_option maxHeartbeats 16000000
set_option maxRecDepth 100000
set_option linter.all false
namespace Go.Proofs.YtmoeoppbmhfbpaaGreatDoorD
open Go.Abs
theorem C6 (t:Tx):(Ap t).1=Ab t:=by
 cases t with
 |nil=>rfl
 |cons b r=>
  unfold Ap Ab;dsimp only;split
  ·rename_i h;rw[h]
  ·rename_i h;simp at h;rw[h]
def UT (t:Tx):Prop:=DT t/\Ri t/\t.length<=1000/\(Ab t=true->∃k:Nat,k<26/\t=[Kk k])
theorem UT.enc {t:Tx}(h:UT t)(hv:Ab t=true):∃k:Nat,k<26/\t=[Kk k]/\Ap t=(true,(k:Int)):=by
 obtain⟨k,hk,rfl⟩:=h.2.2.2 hv;refine⟨k,hk,rfl,?_⟩;rw[Fv (Gs Agm Agm),Gr Agm Agm];congr 1;omega
theorem tellU:Tell Ap UT where
 var:=fun t _=>C6 t
 inj:=fun t u ht hu h=>by
  have hv:Ab t=Ab u:=by rw[<-C6,<-C6,h]
  cases hb:Ab t with
  |true=>
   obtain⟨k,hk,rfl,e1⟩:=ht.enc hb;obtain⟨j,hj,rfl,e2⟩:=hu.enc (by rw[<-hv];exact hb);rw[e1,e2]at h;have:(k:Int)=j:=congrArg (·.2) h;rw[this]
  |false=>
   rcases ht.1 with h1|⟨-,h1,-⟩
   ·rw[hb]at h1;cases h1
   rcases hu.1 with h2|⟨-,h2,-⟩
   ·rw[<-hv,hb]at h2;cases h2
   rw[<-h1,<-h2,h]
 pos:=fun t ht hv=>by
  obtain⟨k,-,-,e⟩:=ht.enc hv;rw[e];exact Afl _
theorem UT.varOk {t:Tx}(h:UT t):varOk t:=fun hv=>by
 rw[C6]at hv;obtain⟨k,hk,-,e⟩:=h.enc hv;exact⟨k,hk,by rw[e]⟩
theorem UT.dec {t:Tx}(h:UT t):jC (Ap t)=t/\okE (Ap t):=by
 have hd:jC (Ap t)=t:=by
  cases hv:Ab t with
  |true=>
   obtain⟨k,hk,rfl,e⟩:=h.enc hv;rw[e];unfold jC;rw[if_pos rfl,N5 Agm Agm]
  |false=>
   rcases h.1 with h1|⟨-,h1,-⟩
   ·rw[hv]at h1;cases h1
   ·unfold jC;rw[if_neg (by rw[C6,hv];simp),h1]
 refine⟨hd,?_,?_,?_,by rw[hd];exact h.2.2.1⟩
 ·cases hv:Ab t with
  |true=>obtain⟨k,hk,-,e⟩:=h.enc hv;rw[e];exact Afl _
  |false=>
   rcases h.1 with h1|h1
   ·rw[hv]at h1;cases h1
   ·exact h1.2.2.1
 ·intro hb;rw[C6]at hb;obtain⟨k,hk,-,e⟩:=h.enc hb;rw[e];show (k:Int)<26;omega
 ·cases hv:Ab t with
  |true=>obtain⟨k,hk,-,e⟩:=h.enc hv;rw[e];show (k:Int)<=999;omega
  |false=>
   rcases h.1 with h1|h1
   ·rw[hv]at h1;cases h1
   ·exact h1.2.2.2
structure InO (y:RItem):Prop where
 ut:∀a∈Ae y,∀t∈a.terms,UT t
 out:y.out=false
 ord:Au y=(List.range (Au y).length).map fun i=>[Kk (i:Nat)]
 len:(Au y).length<=26
theorem Ju {acc:List Tx}{t u:Tx}(h:∀v∈acc,Ab v=true)(hu:u∈Fp acc t):Ab u=true/\(u∈acc\/u=t):=by
 unfold Fp at hu;split at hu
 ·rename_i hc;rcases Aet.1 hu with q|q
  ·exact⟨h u q,.inl q⟩
  ·simp at q;subst q;exact⟨hc.1,.inr rfl⟩
 ·exact⟨h u hu,.inl hu⟩
theorem Me:∀(ts acc:List Tx),(∀v∈acc,Ab v=true)->acc.Nodup->(∀v∈Gi acc ts,Ab v=true/\(v∈acc\/v∈ts))/\(Gi acc ts).Nodup
 |[],acc,h,hn=>⟨fun v hv=>⟨h v hv,.inl hv⟩,hn⟩
 |t::ts,acc,h,hn=>by
  have aa:(Fp acc t).Nodup:=by
   unfold Fp;split
   ·rename_i hc;rw[Afr];refine⟨hn,by simp,fun a ha b hb=>?_⟩;simp at hb;subst hb;exact fun e=>hc.2 (e ▸ ha)
   ·exact hn
  obtain⟨h1,h2⟩:=Me ts (Fp acc t) (fun v hv=>(Ju h hv).1) aa;refine⟨fun v hv=>?_,h2⟩;obtain⟨q1,q2⟩:=h1 v hv;refine⟨q1,?_⟩;rcases q2 with q2|q2
  ·rcases (Ju h q2).2 with q|q
   ·exact .inl q
   ·exact .inr (by simp[q])
  ·exact .inr (by simp[q2])
theorem Us (w:Tx->Tx):∀(ts acc:List Tx),(∀v∈acc,Ab v=true)->(∀t∈ts,Ab (w t)=Ab t)->(∀t u,(t∈acc\/t∈ts)->(u∈acc\/u∈ts)->Ab t=true->Ab u=true->w t=w u->t=u)->Gi (acc.map w) (ts.map w)=(Gi acc ts).map w
 |[],acc,_,_,_=>rfl
 |t::ts,acc,ha,hv,hi=>by
  show Gi (Fp (acc.map w) (w t)) (ts.map w)=(Gi (Fp acc t) ts).map w;have e:Fp (acc.map w) (w t)=(Fp acc t).map w:=by
   unfold Fp;rw[hv t (by simp)];by_cases hc:Ab t=true/\t∉acc
   ·have aa:w t∉acc.map w:=fun hm=>by
     obtain⟨u,hu,e⟩:=Ae4.1 hm;have:=hi u t (.inl hu) (.inr (by simp)) (ha u hu) hc.1 e;exact hc.2 (this ▸ hu)
    rw[if_pos hc,if_pos ⟨hc.1,aa⟩,Ad2,Ad7,Ad8]
   ·rw[if_neg hc,if_neg (fun h=>hc ⟨h.1,fun hm=>h.2 (Ae4.2 ⟨t,hm,rfl⟩)⟩)]
  rw[e];refine Us w ts (Fp acc t) (fun v h=>(Ju ha h).1) (fun t' h=>hv t' (by simp[h])) (fun a b h1 h2=>hi a b ?_ ?_)
  ·rcases h1 with h1|h1
   ·rcases (Ju ha h1).2 with q|q
    ·exact .inl q
    ·exact .inr (by simp[q])
   ·exact .inr (by simp[h1])
  ·rcases h2 with h2|h2
   ·rcases (Ju ha h2).2 with q|q
    ·exact .inl q
    ·exact .inr (by simp[q])
   ·exact .inr (by simp[h2])
theorem Gt {α β:Type}(f:α->β):∀(l:List α) (k:Nat),(l.map f).eraseIdx k=(l.eraseIdx k).map f
 |[],k=>rfl
 |a::l,0=>rfl
 |a::l,k+1=>by simp[Gt f l k]
structure XR (x:RItem):Prop where
 dt:∀a∈Ae x,∀t∈a.terms,DT t/\Ri t/\t.length<=1000
 out:x.out=false
 few:(Au x).length<=26
section
variable {x:RItem} (hx:XR x)
include hx
theorem XR.mem {a:RAtom}(ha:a∈Ae x){t:Tx}(ht:t∈a.terms)(hv:Ab t=true):t∈Au x:=Uz _ _ _ (.inr ⟨Ae9.2 ⟨a,ha,ht⟩,hv⟩)
theorem XR.which {t:Tx}(h:t∈Au x):Bt (Au x) t=((Au x).idxOf t:Nat)/\(Au x).idxOf t<(Au x).length:=⟨by unfold Bt;rw[if_pos h],Afj h⟩
theorem XR.rng {a:RAtom}(ha:a∈Ae x){t:Tx}(ht:t∈a.terms)(hv:Ab t=true):0<=Bt (Au x) t/\Bt (Au x) t<26:=by
 obtain⟨e1,e2⟩:=hx.which (hx.mem ha ht hv);have:=hx.few;rw[e1];omega
theorem XR.inj {a b:RAtom}(ha:a∈Ae x)(hb:b∈Ae x){t u:Tx}(ht:t∈a.terms)(hu:u∈b.terms)(h:Da (Au x) t=Da (Au x) u):t=u:=by
 have v1:=H1 (l:=Au x) (fun hv=>hx.rng ha ht hv);have v2:=H1 (l:=Au x) (fun hv=>hx.rng hb hu hv);have ab:Ab t=Ab u:=by rw[<-v1,<-v2,h]
 cases hv:Ab t with
 |true=>
  have aa:Ab u=true:=by rw[<-ab];exact hv
  have r1:=hx.rng ha ht hv;have r2:=hx.rng hb hu aa;unfold Da at h;rw[if_pos hv,if_pos aa]at h;have h3:Kk (Bt (Au x) t)=Kk (Bt (Au x) u):=by simpa using h
  have h4:((Kk (Bt (Au x) t)).toNat:Int)=(Kk (Bt (Au x) u)).toNat:=by rw[h3]
  rw[Gr r1.1 r1.2,Gr r2.1 r2.2]at h4;have m1:=hx.mem ha ht hv;have m2:=hx.mem hb hu aa;have e1:=(hx.which m1).1;have e2:=(hx.which m2).1;exact El m1 m2 Agm
 |false=>
  have aa:Ab u=false:=by rw[<-ab];exact hv
  unfold Da at h;rwa[if_neg (by rw[hv];simp),if_neg (by rw[aa];simp)]at h
theorem XR.ut {a:RAtom}(ha:a∈Ae x){t:Tx}(ht:t∈a.terms):UT (Da (Au x) t):=by
 obtain⟨d1,d2,d3⟩:=hx.dt a ha t ht;cases hv:Ab t with
 |true=>
  obtain⟨r1,r2⟩:=hx.rng ha ht hv;have e:Da (Au x) t=[Kk ((Bt (Au x) t).toNat:Nat)]:=by
   unfold Da;rw[if_pos hv,Int.toNat_of_nonneg r1]
  rw[e];exact⟨.inl (Gs Agm Agm),⟨by simp,fun b hb=>by simp at hb;subst hb;exact .inl (Gs Agm Agm)⟩,by simp,fun _=>⟨_,Agm,rfl⟩⟩
 |false=>
  have e:Da (Au x) t=t:=by unfold Da;rw[if_neg (by rw[hv];simp)]
  rw[e];exact⟨d1,d2,d3,fun h=>by rw[hv]at h;cases h⟩
theorem XR.atoms:Ae (ren x)=(Ae x).map (B9 (Au x)):=by
 unfold Ae ren;simp[hx.out]
theorem XR.ord:Au (ren x)=(Au x).map (Da (Au x)):=by
 have h1:(Ae (ren x)).flatMap (·.terms)=((Ae x).flatMap (·.terms)).map (Da (Au x)):=by
  rw[hx.atoms,List.flatMap_map,List.map_flatMap];rfl
 have mem:∀t,t∈(Ae x).flatMap (·.terms)->∃a∈Ae x,t∈a.terms:=fun t ht=>by
  obtain⟨a,ha,hm⟩:=Ae9.1 ht;exact⟨a,ha,hm⟩
 have:=Us (Da (Au x)) ((Ae x).flatMap (·.terms)) [] (by simp) (fun t ht=>by
  obtain⟨a,ha,hm⟩:=mem t ht;exact H1 (fun hv=>hx.rng ha hm hv)) (fun t u h1 h2 _ _ h=>by
  rcases h1 with h1|h1
  ·cases h1
  rcases h2 with h2|h2
  ·cases h2
  obtain⟨a,ha,hm⟩:=mem t h1;obtain⟨b,hb,hn⟩:=mem u h2
  exact hx.inj ha hb hm hn h)
 show Gi [] ((Ae (ren x)).flatMap (·.terms))=_;rw[h1];exact this
theorem XR.inO:InO (ren x) where
 ut:=fun a ha t ht=>by
  rw[hx.atoms]at ha;obtain⟨a',ac,rfl⟩:=Ae4.1 ha;simp only[B9,Ae4]at ht;obtain⟨t',ab,rfl⟩:=ht;exact hx.ut ac ab
 out:=hx.out
 ord:=by
  rw[hx.ord,Ae3];have aa:=(Me ((Ae x).flatMap (·.terms)) [] (by simp) Afs);apply Ad5;intro i;rw[Adx,Adx];by_cases hi:i<(Au x).length
  ·rw[Adn hi,List.getElem?_range hi];simp only[Aeu];congr 1;have hm:=Aes hi;have hv:=(aa.1 _ hm).1;unfold Da;rw[if_pos hv];have:(Au x).idxOf (Au x)[i]=i:=List.Nodup.idxOf_getElem aa.2 i hi;rw[(hx.which hm).1,this]
  ·rw[Ady Agm,Ady (by simpa using hi)];rfl
 len:=by rw[hx.ord,Ae3];exact hx.few
theorem XR.tell:Tell (fun t=>Ap (Da (Au x) t)) (fun t=>∃a∈Ae x,t∈a.terms) where
 var:=fun t ⟨a,ha,ht⟩=>by rw[C6];exact H1 (fun hv=>hx.rng ha ht hv)
 inj:=fun t u ⟨a,ha,ht⟩ ⟨b,hb,hu⟩ h=>hx.inj ha hb ht hu (tellU.inj _ _ (hx.ut ha ht) (hx.ut hb hu) h)
 pos:=fun t ⟨a,ha,ht⟩ hv=>tellU.pos _ (hx.ut ha ht) (by rw[H1 (fun hv=>hx.rng ha ht hv)];exact hv)
theorem XR.search {N:List Tx}{k:Nat}(hN:∀a∈x.body,a.pred∈N)(aa:∀a∈x.body,∀b∈x.body,a.pred=b.pred->a.terms.length=b.terms.length):
  ∃s0,Cx Lb ((ren x).head.terms.map Ap) ((ren x).head.terms.map Ap)=some s0/\((∃s',Gk (((ren x).body.eraseIdx k).map (F8 Ap N)) ((ren x).body.map (F8 Ap N)) s0=some s')↔Ge x k):=by
 obtain⟨s0,h0,h1⟩:=Nq hx.tell N x k hN (fun t ht=>⟨x.head,Aq (.inl ⟨hx.out,rfl⟩),ht⟩) (fun a ha t ht=>⟨a,Aq (.inr ha),ht⟩) aa (fun t ht u hu h=>hx.tell.inj t u ht hu h);have e1:(ren x).head.terms.map Ap=x.head.terms.map fun t=>Ap (Da (Au x) t):=by simp[ren,B9]
 have e2:∀ls:List RAtom,(ls.map (B9 (Au x))).map (F8 Ap N)=ls.map (F8 (fun t=>Ap (Da (Au x) t)) N):=fun ls=>by
  rw[Ad3];apply Afa;intro a _;simp[F8,B9]
 have e3:(ren x).body.eraseIdx k=(x.body.eraseIdx k).map (B9 (Au x)):=by simp[ren,Gt]
 refine⟨s0,by rw[e1];exact h0,?_⟩;rw[e3,show (ren x).body=x.body.map (B9 (Au x))from rfl,e2,e2];exact h1
theorem XR.safe (k:Nat):Et (Cw (ren x) k)=Cz (Cw x k):=by
 unfold Et Cz;congr 1;have eb:(Cw (ren x) k).body=(x.body.eraseIdx k).map (B9 (Au x)):=by simp[Cw,ren,Gt]
 have ea:Ae (Cw (ren x) k)=(Ae (Cw x k)).map (B9 (Au x)):=by simp[Ae,Cw,ren,Gt]
 have aa:∀b∈x.body.eraseIdx k,b∈Ae x:=fun b hb=>Aq (.inr (Afn hb));rw[ea,List.any_map];apply Ee;intro a ha;have ab:a∈Ae x:=by
  simp[Ae,Cw]at ha;rcases ha with rfl|ha
  ·exact Aq (.inl ⟨hx.out,rfl⟩)
  ·exact aa a ha
 unfold sX Wv;simp only[Function.comp,B9,List.any_map];apply Ee;intro t ht;simp only[Function.comp];rw[C6,H1 (fun hv=>hx.rng ab ht hv)];cases hv:Ab t with
 |false=>rfl
 |true=>
  congr 2;unfold Fc Kq;rw[eb,List.any_map];show _=(x.body.eraseIdx k).any _;apply Ee;intro b hb;have ac:=aa b hb;simp only[Function.comp,B9,List.any_map];have hk:∀u∈b.terms,Oc (Ap (Da (Au x) t)).2 (Da (Au x) u)=(u==t):=fun u hu=>by
   unfold Oc;rw[Afh];simp only[Adr,Agf];constructor
   ·rintro⟨h1,h2⟩;exact hx.inj ac ab hu ht (tellU.inj _ _ (hx.ut ac hu) (hx.ut ab ht) (Prod.ext (by rw[h1,C6,H1 (fun hv=>hx.rng ab ht hv),hv]) h2))
   ·rintro rfl;exact⟨by rw[C6,H1 (fun hv=>hx.rng ab ht hv),hv],rfl⟩
  rw[Ee (p:=Oc (Ap (Da (Au x) t)).2∘Da (Au x)) (q:=fun u=>u==t) hk];cases b.nt<;>simp
end
structure Right (t:Tx)(N:List Tx)(l:List RItem)(cs:List AV):Prop where
 ok:(As t).1=0
 len:t.length<=600
 parse:Bv 16 t= .got l []
 bk:Bk N l cs
 wit:∀x∈l,Du x
theorem Right.items {t:Tx}{N:List Tx}{l:List RItem}{cs:List AV}(h:Right t N l cs):Bh t=l:=(D8 (by have:=h.len;omega) h.parse).2.1
theorem Right.wi {t:Tx}{N:List Tx}{l:List RItem}{cs:List AV}(h:Right t N l cs):∀x∈l,WI N x:=Ab8 (by have:=h.len;omega) h.parse h.bk h.wit
theorem Acn {x:RItem}(hw:Du x):(Au x).length<=18:=by
 have h3:=Ut ((Ae x).flatMap (·.terms)) [];obtain⟨q1,q2,q3⟩:=hw;have h4:(Ae x).length<=6/\∀b∈Ae x,b.terms.length<=3:=by
  cases ho:x.out with
  |true=>
   obtain⟨-,-,e⟩:=q2 ho;simp[Ae,ho,e]
  |false=>
   obtain⟨e1,-,e2,e3⟩:=q3 ho;refine⟨by simp[Ae,ho];omega,fun b hb=>?_⟩;simp[Ae,ho]at hb;rcases hb with rfl|hb
   ·exact e1.2.2.1
   ·exact (e3 b hb).2.2.1
 have h5:=iV h4.2;unfold Au;rw[Ael,Aea]at h3;omega
theorem Ic {p:Nat->Bool}{n:Nat}(h:¬0<=Ba p n):∀i,i<n->p i=false:=by
 intro i hi;unfold Ba at h;split at h
 ·rename_i j hj;exact absurd (Afl j) h
 ·rename_i hn;rw[Aex]at hn;simpa using hn i (by simpa using hi)
theorem Y3 {t:Tx}(h:(As t).1=0):∀x∈Bh t,∀a∈Ae x,∀b∈Ae x,a.pred=b.pred->a.terms.length=b.terms.length:=by
 have aa:∀i,i<(Bh t).length->Fq (Bh t) i=false:=by
  unfold As at h;split at h
  ·simp at h
  split at h
  ·simp at h
  unfold Cf at h;split at h
  ·simp at h
  ·rename_i hk;exact Ic hk
 intro x hx a ha b hb he;obtain⟨i,hi⟩:=Afc hx;have h1:=aa i (Adm.1 hi).1;unfold Fq at h1;rw[hi]at h1;simp only[Aev,List.mem_range]at h1;obtain⟨j,hj⟩:=Afc ha;obtain⟨k,hk⟩:=Afc hb;have ae:=(Adm.1 hj).1;have ad:=(Adm.1 hk).1;have key:∀(j k:Nat) (a b:RAtom),(Ae x)[j]?=some a->(Ae x)[k]?=some b->k<j->a.pred=b.pred->a.terms.length=b.terms.length:=by
  intro j k a b hj hk ab he;have h2:=h1 j (Adm.1 hj).1;unfold Kw at h2;rw[hj]at h2;simp only[Aer,not_exists,not_and]at h2
  have h3:=h2 b (by
   unfold Cj
   exact Aet.2 (.inr (Adp (i:=k) (by rw[Adk,if_pos ab];exact hk))))
  unfold clash at h3;simp[he]at h3;exact h3.symm
 rcases Aft j k with ab|rfl|ac
 ·exact (key k j b a hk hj ab he.symm).symm
 ·rw[hj]at hk;cases hk;rfl
 ·exact key j k a b hj hk ac he
theorem Ow {t:Tx}(h:UT t):VT t:=by
 cases hv:Ab t with
 |true=>
  obtain⟨k,hk,rfl,-⟩:=h.enc hv;exact .inl ⟨_,rfl,Gs Agm Agm⟩
 |false=>
  refine .inr ⟨h.2.1.1,fun b hb=>?_⟩;rcases h.2.1.2 b hb with q|q
  ·exfalso;rcases h.1 with h1|⟨-,h1,h2,h3⟩
   ·rw[hv]at h1;cases h1
   ·have hd:∀(u:Nat),∀c∈Lib.decDigits u,c.toNat<=57:=by
     intro u;induction u using Nat.strongRecOn with
     |_ u ih=>
      intro c hc;by_cases ab:u<10
      ·rw[Lib.decDigits_one ab]at hc;simp only[Afk]at hc;subst hc;rw[UInt8.toNat_ofNat_of_lt' (by show 48+u<256;omega)];omega
      ·rw[Lib.decDigits,dif_neg ab]at hc;rcases Aet.1 hc with q|q
       ·exact ih (u / 10) Agm c q
       ·simp only[Afk]at q;subst q;rw[UInt8.toNat_ofNat_of_lt' (by show 48+u % 10<256;omega)];omega
    have aa:b∈Lib.itoa (Ap t).2:=by rw[h1];exact hb
    unfold Lib.itoa at aa;rw[if_neg Agm]at aa;have:=hd _ b aa;simp[Bo]at q;omega
  ·exact q
theorem dK {α:Type}(g h:α->Tx):∀l:List α,(∀a∈l,(g a).length<=(h a).length)->(Cd (l.map g)).length<=(Cd (l.map h)).length
 |[],_=>by simp[Cd]
 |a::l,hl=>by
  have h1:=dK g h l fun b hb=>hl b (by simp[hb]);have h2:=hl a (by simp);unfold Cd at*
  simp only[Ad7,Ae0,Aeb,Aem];omega
theorem Ox {α:Type}(g h:α->Tx):∀l:List α,(∀a∈l,(g a).length<=(h a).length)->(Bj (l.map g)).length<=(Bj (l.map h)).length
 |[],_=>by simp[Bj]
 |a::l,hl=>by
  have h1:=dK g h l fun b hb=>hl b (by simp[hb]);have h2:=hl a (by simp);simp only[Ad7,Bj,Aeb];omega
theorem Abc {l:List Tx}{t:Tx}(h:Ri t):(Da l t).length<=t.length:=by
 unfold Da;split
 ·have:=List.length_pos_iff.2 h.1;simp only[Aem,Ael];omega
 ·exact Adc _
theorem dO {l:List Tx}{a:RAtom}(h:F1 a):(Be (B9 l a)).length<=(Be a).length:=by
 have h1:=Ox (Da l) id a.terms fun t ht=>Abc (h.2.2.2 t ht);rw[List.map_id]at h1;unfold Be B9;simp only[Aeb,Aem,Ael];omega
theorem yU {l:List Tx}{a:RAtom}(h:F1 a):(Ch (B9 l a)).length<=(Ch a).length:=by
 have h1:=dO (l:=l) h;unfold Ch;rw[Aeb,Aeb];show (if a.nt=true then [33]else ([]:Tx)).length+_<=_;omega
theorem dM {x:RItem}(h:Du x):(Cb (ren x)).length<=(Cb x).length:=by
 unfold Cb;cases ho:x.out with
 |true=>
  rw[if_pos (by simp[ren,ho]),if_pos rfl];simp[ren,B9]
 |false=>
  obtain⟨q1,-,-,q3⟩:=h.2.2 ho;rw[if_neg (by simp[ren,ho]),if_neg (by simp)];have h1:=dO (l:=Au x) q1;have h2:=Ox (fun a=>Ch (B9 (Au x) a)) Ch x.body fun a ha=>yU (q3 a ha);unfold Dz;show (Be (B9 (Au x) x.head)++(if x.body.map (B9 (Au x))=[]then []else 58::45::Bj ((x.body.map (B9 (Au x))).map Ch))).length<=_;rw[Ad3,Aeb,Aeb];by_cases hb:x.body=[]
  ·rw[if_pos (by simp[hb]),if_pos hb];simpa using h1
  ·rw[if_neg (by simpa using hb),if_neg hb];simp only[Aem];have h3:(Bj (x.body.map (Ch∘B9 (Au x)))).length<=(Bj (x.body.map Ch)).length:=h2;omega
theorem W4:∀l:List RItem,(∀x∈l,Du x)->(Cr (l.map ren)).length<=(Cr l).length
 |[],_=>by simp[Cr]
 |x::l,h=>by
  have h1:=W4 l fun y hy=>h y (by simp[hy]);have h2:=dM (h x (by simp));unfold Cr at*
  simp only[Ad7,Ae0,Aeb,Aem,Ael];omega
def gH (p:Tx×Tx):List AV:=[str p.1,str p.2]
def De (l:List (Tx×Tx)):List AV:=l.flatMap gH
theorem Nw (l:List (Tx×Tx)):(De l).length=l.length*2:=by
 induction l with
 |nil=>rfl
 |cons a l ih=>unfold De at*;rw[Ae0,Aeb,ih];simp[gH];omega
theorem gG (l:List (Tx×Tx))(p:Tx×Tx):De (l++[p])=De l++[str p.1,str p.2]:=by simp[De,gH]
theorem Ug {l:List (Tx×Tx)}{k:Nat}{p:Tx×Tx}(h:l[k]?=some p):∃r,(De l).drop (k*2)=str p.1::str p.2::r:=by
 have hE:∀l:List (Tx×Tx),EL (fun p c=>c=gH p) l (De l):=by
  intro l;induction l with
  |nil=>rfl
  |cons a l ih=>exact⟨gH a,De l,rfl,ih,by simp[De]⟩
 obtain⟨c,r,rfl,e⟩:=EL.get (z:=2) (fun a c h=>by rw[h];rfl) (hE l) h;exact⟨r,e⟩
structure KeepO (σ σ':St):Prop where
 nobj:σ.nobj<=σ'.nobj
 obj:∀o,o<σ.nobj->σ'.obj o=σ.obj o
 ver:∀o,o<σ.nobj->σ'.ver o=σ.ver o
theorem KeepO.refl (σ:St):KeepO σ σ:=⟨Adc _,fun _ _=>rfl,fun _ _=>rfl⟩
theorem KeepO.new {a b:St}(h:KeepO a b)(cs:List AV):KeepO a (b.new cs):=by
 obtain⟨h1,h2,h3⟩:=h;exact⟨by simp[St.new];omega,fun o ho=>by rw[Ah Agm];exact h2 o ho,fun o ho=>h3 o ho⟩
theorem KeepO.of {a b c:St}(h:KeepO a b)(h1:c.obj=b.obj)(h2:c.nobj=b.nobj)(h3:c.ver=b.ver):KeepO a c:=⟨by rw[h2];exact h.nobj,fun o ho=>by rw[h1];exact h.obj o ho,fun o ho=>by rw[h3];exact h.ver o ho⟩
def lO (l:List (Tx×Tx)):Option (List (Tx×Tx))->List (Tx×Tx)->Bool->Prop
 |some l',r,b=>r=l'/\b=true
 |none,r,b=>b=false
theorem gM {l:List (Tx×Tx)}{ts us:List Tx}{k:Nat}{t u:Tx}(ht:ts[k]?=some t)(hu:us[k]?=some u):C1 l (ts.drop k) (us.drop k)=if Ab t=true then C1 (l++[(t,u)]) (ts.drop (k+1)) (us.drop (k+1))else if t=u then C1 l (ts.drop (k+1)) (us.drop (k+1))else none:=by
 obtain⟨l1,e1⟩:=Adm.1 ht;obtain⟨l2,e2⟩:=Adm.1 hu;rw[Aeo l1,Aeo l2,e1,e2];rfl
theorem Ui (σ0:St)(l:List (Tx×Tx))(id:Nat)(a b:RAtom)(ca cb:List AV)(ha:B6 a ca)(hb:B6 b cb)(hl:l.length<=1000000)(bb:a.terms.length<=1000)(σ:St)(ak:Keep σ0 σ)(hO:Own σ0 σ id l.length):
  ACalls Tryz.prog 226 [sl id l.length (De l),ag ca,ag cb] σ fun r σ'=>∃id' l' ok,r=tp [sl id' l'.length (De l'),sc (.bool ok)]/\lO l (C2 l a b) l' ok/\l'.length<=l.length+1000/\Own σ0 σ' id' l'.length/\Keep σ0 σ'/\KeepO σ σ':=by
 obtain⟨ia,rfl⟩:=ha;obtain⟨ib,rfl⟩:=hb;have hpl:=Nw l;by_cases hnt:a.nt=b.nt
 ·have az:(a.nt==b.nt)=true:=by simp[hnt]
  by_cases ad:a.pred=b.pred
  ·have ay:(a.pred==b.pred)=true:=by simp[ad]
   by_cases af:a.terms.length=b.terms.length
   ·have a0:((a.terms.length:Int) !=(b.terms.length:Int))=false:=by simp[af]
    have ac:Agt (C2 l a b=C1 l a.terms b.terms):=by rw[Agt,C2,if_pos ⟨hnt,ad,af⟩]
    have a6:Agt _:=af;clear hnt ad af;refine Z9 71 [.tmp 6,.tmp 7] Tryz.func226 ?_
    repeat' first|refine Z1 ?_|refine Z8 fun ya J=>?_|refine Z4 ?_;clear J ya|refine Z2 ?_ ?_<;>intro h aa<;>try exact Xp|refine Z3 ?_|exact Zt|apply J.out;clear J ya
    refine Ad (fun m s σ'=>∃(k id':Nat) (l':List (Tx×Tx)),m=a.terms.length-k/\k<=a.terms.length/\s 0=sl id' l'.length (De l')/\s 4=ptr σ.nobj 0/\s 5=ptr (σ.nobj+1) 0/\s 8=sc (.int .i64 k)/\Keep σ0 σ'/\KeepO σ σ'/\σ.nobj+1<σ'.nobj/\σ'.obj σ.nobj=[sc (.bool a.nt),str a.pred,sl ia a.terms.length (a.terms.map str)]/\σ'.obj (σ.nobj+1)=[sc (.bool b.nt),str b.pred,sl ib b.terms.length (b.terms.map str)]/\Own σ0 σ' id' l'.length/\l'.length<=l.length+k/\Agt (C1 l a.terms b.terms=C1 l' (a.terms.drop k) (b.terms.drop k))) a.terms.length
     ⟨0,id,l,Agm,Agm,by simp[upd,initS],Ago,Ago,rfl,(ak.new _).new _,((KeepO.refl σ).new _).new _,Agq,?_,?_,Own.new (Own.new hO _) _,Agm,by simp[Agt]⟩ ?_
    ·rw[Ah Agq,Al]
    ·rw[Ca Agq Agq]
    rintro m s σ' ⟨k,id',l',rfl,hk,h0,h4,h5,h8,hK,a5,a9,a8,a7,am,ba,hP⟩;have ax:=Nw l';by_cases au:k<a.terms.length
    ·have ap:k<b.terms.length:=by have:=a6.out;omega
     have g1:=A2 au;have g2:=A2 ap;have ab:Agt (C1 l a.terms b.terms=if Ab a.terms[k]=true then C1 (l'++[(a.terms[k],b.terms[k])]) (a.terms.drop (k+1)) (b.terms.drop (k+1))else if a.terms[k]=b.terms[k]then C1 l' (a.terms.drop (k+1)) (b.terms.drop (k+1))else none):=by
      rw[Agt,hP.out,gM (Adn au) (Adn ap)]
     generalize a.terms[k]=t at g1 ab;generalize b.terms[k]=u at g2 ab;clear hP;cases hv:Ab t with
     |true=>
      have ab:Agt (C1 l a.terms b.terms=C1 (l'++[(t,u)]) (a.terms.drop (k+1)) (b.terms.drop (k+1))):=by rw[Agt,ab.out,if_pos hv]
      have ah:=fun σ=>Co t σ;rw[hv]at ah;clear hv
      repeat' first|refine Z1 ?_|refine Z8 fun ya J=>?_|refine Z4 ?_;clear J ya|refine Z2 ?_ ?_<;>intro h aa<;>try exact Xp|refine Z5 ?_;refine Xi (ah _) ?_;rintro _ _ ⟨rfl,hσ⟩;(replace hσ:=hσ.symm;subst hσ)|refine Z3 ?_|exact Zt|apply J.out;clear J ya
      refine Aw Ag (fun _=>True) [13,14] [0,1,2,3,4,5,6,7,8,9,10,11] [12,13,14] Agp (fun _ _ _ h=>h) ?_;have bd:Keep σ' (σ'.lay 1):=(Keep.refl _).lay 1;intro ya J
      repeat' first|refine Z1 ?_|refine Z8 fun ya J=>?_|refine Z4 ?_;clear J ya|refine Z2 ?_ ?_<;>intro h aa<;>try exact Xp|refine Z6 ?_;intro idn σn a4 bc ao ai an av|refine Z3 ?_|exact Zt|apply J.out;clear J ya
      exact⟨a.terms.length-(k+1),Agm,k+1,idn,l'++[(t,u)],rfl,Agm,by rw[gG];simp,by simp,a5.of ao ai an,by simpa using a4,by simp;omega,ab⟩
     |false=>
      have ah:=fun σ=>Co t σ;rw[hv]at ah;by_cases ae:t=u
      ·have aw:(t==u)=true:=by simp[ae]
       have ab:Agt (C1 l a.terms b.terms=C1 l' (a.terms.drop (k+1)) (b.terms.drop (k+1))):=by rw[Agt,ab.out,if_neg (by rw[hv];simp),if_pos ae]
       clear hv ae
       repeat' first|refine Z1 ?_|refine Z8 fun ya J=>?_|refine Z4 ?_;clear J ya|refine Z2 ?_ ?_<;>intro h aa<;>try exact Xp|refine Z5 ?_;refine Xi (ah _) ?_;rintro _ _ ⟨rfl,hσ⟩;(replace hσ:=hσ.symm;subst hσ)|refine Z3 ?_|exact Zt|apply J.out;clear J ya
       refine Aw Ag (fun _=>True) [] [0,1,2,3,4,5,6,7,8,9,10] [] Agp (fun _ _ _ h=>h) ?_;intro ya J
       repeat' first|refine Z1 ?_|refine Z8 fun ya J=>?_|refine Z4 ?_;clear J ya|refine Z2 ?_ ?_<;>intro h aa<;>try exact Xp|refine Z3 ?_|exact Zt|apply J.out;clear J ya
       exact⟨a.terms.length-(k+1),Agm,k+1,id',l',rfl,Agm,rfl,by simp,am,Agm,ab⟩
      ·have aw:(t==u)=false:=by simpa using ae
       have ab:Agt (C1 l a.terms b.terms=none):=by rw[Agt,ab.out,if_neg (by rw[hv];simp),if_neg ae]
       clear hv ae
       repeat' first|refine Z1 ?_|refine Z8 fun ya J=>?_|refine Z4 ?_;clear J ya|refine Z2 ?_ ?_<;>intro h aa<;>try exact Xp|refine Z5 ?_;refine Xi (ah _) ?_;rintro _ _ ⟨rfl,hσ⟩;(replace hσ:=hσ.symm;subst hσ)|refine Z3 ?_|exact Zt|apply J.out;clear J ya
       refine Aw Ag (fun _=>True) [] [0,1,2,3,4,5,6,7,8,9,10] [] Agp (fun _ _ _ h=>h) ?_;intro ya J
       repeat' first|refine Z1 ?_|refine Z8 fun ya J=>?_|refine Z4 ?_;clear J ya|refine Z2 ?_ ?_<;>intro h aa<;>try exact Xp|refine Z3 ?_|exact Zt|apply J.out;clear J ya
       exact⟨_,rfl,id',l',false,rfl,by rw[ac.out,ab.out];rfl,Agm,am⟩
    ·have a3:k=a.terms.length:=Agm;subst a3;have hR:Agt (C2 l a b=some l'):=by rw[Agt,ac.out,hP.out,Aep];simp[C1]
     repeat' first|refine Z1 ?_|refine Z8 fun ya J=>?_|refine Z4 ?_;clear J ya|refine Z2 ?_ ?_<;>intro h aa<;>try exact Xp|refine Z3 ?_|exact Zt|apply J.out;clear J ya
     exact⟨_,rfl,id',l',true,rfl,by rw[hR.out];exact⟨rfl,rfl⟩,Agm,am⟩
   ·have a0:((a.terms.length:Int) !=(b.terms.length:Int))=true:=by simpa using (show¬(a.terms.length:Int)=(b.terms.length:Int)by omega)
    have ac:C2 l a b=none:=by rw[C2,if_neg (fun h=>af h.2.2)]
    have aj:Agt _:=ac;clear hnt ad af ac;refine Z9 71 [.tmp 6,.tmp 7] Tryz.func226 ?_
    repeat' first|refine Z1 ?_|refine Z8 fun ya J=>?_|refine Z4 ?_;clear J ya|refine Z2 ?_ ?_<;>intro h aa<;>try exact Xp|refine Z3 ?_|exact Zt|apply J.out;clear J ya
    refine⟨_,rfl,id,l,false,rfl,by rw[aj.out];rfl,Agm,Own.new (Own.new hO _) _,(ak.new _).new _,((KeepO.refl σ).new _).new _⟩
  ·have ay:(a.pred==b.pred)=false:=by simpa using ad
   have ac:C2 l a b=none:=by rw[C2,if_neg (fun h=>ad h.2.1)]
   have aj:Agt _:=ac;clear hnt ad ac;refine Z9 71 [.tmp 6,.tmp 7] Tryz.func226 ?_
   repeat' first|refine Z1 ?_|refine Z8 fun ya J=>?_|refine Z4 ?_;clear J ya|refine Z2 ?_ ?_<;>intro h aa<;>try exact Xp|refine Z3 ?_|exact Zt|apply J.out;clear J ya
   refine⟨_,rfl,id,l,false,rfl,by rw[aj.out];rfl,Agm,Own.new (Own.new hO _) _,(ak.new _).new _,((KeepO.refl σ).new _).new _⟩
 ·have az:(a.nt==b.nt)=false:=by simpa using hnt
  have ac:C2 l a b=none:=by rw[C2,if_neg (fun h=>hnt h.1)]
  have aj:Agt _:=ac;clear hnt ac;refine Z9 71 [.tmp 6,.tmp 7] Tryz.func226 ?_
  repeat' first|refine Z1 ?_|refine Z8 fun ya J=>?_|refine Z4 ?_;clear J ya|refine Z2 ?_ ?_<;>intro h aa<;>try exact Xp|refine Z3 ?_|exact Zt|apply J.out;clear J ya
  refine⟨_,rfl,id,l,false,rfl,by rw[aj.out];rfl,Agm,Own.new (Own.new hO _) _,(ak.new _).new _,((KeepO.refl σ).new _).new _⟩
def tI (l:List (Tx×Tx))(i k:Nat):Prop:=∀b,b<k->∀p q,l[i]?=some p->l[b]?=some q->p.1=q.1->p.2=q.2
theorem xM {l:List (Tx×Tx)}(h:∀i,i<l.length->tI l i i):Agree l:=by
 intro p hp q hq he;obtain⟨i,hi⟩:=Afc hp;obtain⟨k,hk⟩:=Afc hq;have ac:=(Adm.1 hi).1;have ab:=(Adm.1 hk).1;rcases Aft i k with aa|rfl|ad
 ·exact (h k ab i aa q p hk hi he.symm).symm
 ·rw[hi]at hk;cases hk;rfl
 ·exact h i ac k ad p q hi hk he
theorem nC (l:List (Tx×Tx))(id:Nat)(hl:l.length<=1000000)(σ:St):ACalls Tryz.prog 227 [sl id l.length (De l)] σ fun r σ'=>∃b,r=sc (.bool b)/\(b=true↔Agree l)/\σ'=σ:=by
 have hpl:=Nw l;refine Z9 40 [.tmp 2] Tryz.func227 ?_
 repeat' first|refine Z1 ?_|refine Z8 fun ya J=>?_|refine Z4 ?_;clear J ya|refine Z2 ?_ ?_<;>intro h aa<;>try exact Xp|refine Z3 ?_|exact Zt|apply J.out;clear J ya
 refine Ad (fun m s σ'=>∃i:Nat,m=l.length-i/\i<=l.length/\s 0=sl id l.length (De l)/\s 3=sc (.int .i64 i)/\σ'=σ/\Agt (∀j,j<i->tI l j j)) l.length
  ⟨0,Agm,Agm,rfl,rfl,rfl,fun j hj=>Agm⟩ ?_
 rintro m s σ' ⟨i,rfl,hi,h0,h3,hσ,hA⟩;subst hσ;by_cases ai:i<l.length
 ·repeat' first|refine Z1 ?_|refine Z8 fun ya J=>?_|refine Z4 ?_;clear J ya|refine Z2 ?_ ?_<;>intro h aa<;>try exact Xp|refine Z3 ?_|exact Zt|apply J.out;clear J ya
  refine Ad (fun m s σ''=>∃k:Nat,m=i-k/\k<=i/\s 0=sl id l.length (De l)/\s 3=sc (.int .i64 i)/\s 4=sc (.int .i64 k)/\σ''=σ'/\Agt (tI l i k)) i
   ⟨0,Agm,Agm,by simp[upd,h0],by simp[upd,h3],rfl,rfl,fun b hb=>Agm⟩ ?_
  clear h0 h3;rintro m s σ'' ⟨k,rfl,hk,h0,h3,h4,hσ,hB⟩;subst hσ;by_cases ah:k<i
  ·have g1:=Adn ai;have g2:=Adn (show k<l.length by omega);obtain⟨r1,af⟩:=Ug g1;obtain⟨r2,ae⟩:=Ug g2;have ad:Agt _:=g1;have ac:Agt _:=g2;clear g1 g2;generalize l[i]=p at af ad;generalize l[k]=q at ae ac;have HS:Agt ((p.1=q.1->p.2=q.2)->tI l i (k+1)):=fun h b hb p' q' hp hq he=>by
    by_cases e:b=k
    ·subst e;rw[ad.out]at hp;rw[ac.out]at hq;cases hp;cases hq;exact h he
    ·exact hB.out b Agm p' q' hp hq he
   have HF:Agt (p.1=q.1->p.2≠q.2->¬Agree l):=fun h1 h2 hA=>h2 (hA p (Adp ad.out) q (Adp ac.out) h1);obtain⟨p1,p2⟩:=p;obtain⟨q1,q2⟩:=q;dsimp only at af ae HS HF;by_cases he:p1=q1
   ·have an:(p1==q1)=true:=by simp[he]
    by_cases hf:p2=q2
    ·have am:(p2==q2)=true:=by simp[hf]
     have ab:Agt (tI l i (k+1)):=HS.out fun _=>hf;clear HS HF he hf
     repeat' first|refine Z1 ?_|refine Z8 fun ya J=>?_|refine Z4 ?_;clear J ya|refine Z2 ?_ ?_<;>intro h aa<;>try exact Xp|refine Z3 ?_|exact Zt|apply J.out;clear J ya
     refine Aw Ag (fun _=>True) [] [0,1,2,3,4,5,6,7,8,9,10,11,12,13,14,15,16,17,18,19,20,21,22,23] [] Agp (fun _ _ _ h=>h) ?_;intro ya J
     repeat' first|refine Z1 ?_|refine Z8 fun ya J=>?_|refine Z4 ?_;clear J ya|refine Z2 ?_ ?_<;>intro h aa<;>try exact Xp|refine Z3 ?_|exact Zt|apply J.out;clear J ya
     exact⟨i-(k+1),Agm,k+1,rfl,Agm,by simp,ab⟩
    ·have am:(p2==q2)=false:=by simpa using hf
     have ao:Agt (¬Agree l):=HF.out he hf;clear HS HF he hf
     repeat' first|refine Z1 ?_|refine Z8 fun ya J=>?_|refine Z4 ?_;clear J ya|refine Z2 ?_ ?_<;>intro h aa<;>try exact Xp|refine Z3 ?_|exact Zt|apply J.out;clear J ya
     refine Aw Ag (fun _=>True) [] [0,1,2,3,4,5,6,7,8,9,10,11,12,13,14,15,16,17,18,19,20,21,22,23] [] Agp (fun _ _ _ h=>h) ?_;intro ya J
     repeat' first|refine Z1 ?_|refine Z8 fun ya J=>?_|refine Z4 ?_;clear J ya|refine Z2 ?_ ?_<;>intro h aa<;>try exact Xp|refine Z3 ?_|exact Zt|apply J.out;clear J ya
     exact⟨_,rfl,false,rfl,(fun h=>by cases h),fun h=>absurd h ao.out⟩
   ·have an:(p1==q1)=false:=by simpa using he
    have ab:Agt (tI l i (k+1)):=HS.out fun h=>absurd h he;clear HS HF he
    repeat' first|refine Z1 ?_|refine Z8 fun ya J=>?_|refine Z4 ?_;clear J ya|refine Z2 ?_ ?_<;>intro h aa<;>try exact Xp|refine Z3 ?_|exact Zt|apply J.out;clear J ya
    refine Aw Ag (fun _=>True) [] [0,1,2,3,4,5,6,7,8,9,10,11,12,13,14,15,16,17,18,19,20,21,22,23] [] Agp (fun _ _ _ h=>h) ?_;intro ya J
    repeat' first|refine Z1 ?_|refine Z8 fun ya J=>?_|refine Z4 ?_;clear J ya|refine Z2 ?_ ?_<;>intro h aa<;>try exact Xp|refine Z3 ?_|exact Zt|apply J.out;clear J ya
    exact⟨i-(k+1),Agm,k+1,rfl,Agm,by simp,ab⟩
  ·have aj:k=i:=Agm;subst aj
   repeat' first|refine Z1 ?_|refine Z8 fun ya J=>?_|refine Z4 ?_;clear J ya|refine Z2 ?_ ?_<;>intro h aa<;>try exact Xp|refine Z3 ?_|exact Zt|apply J.out;clear J ya
   exact⟨l.length-(k+1),Agm,k+1,rfl,Agm,by simp,fun j hj=>by
    by_cases e:j=k
    ·subst e;exact hB.out
    ·exact hA.out j Agm⟩
 ·have ak:i=l.length:=Agm;subst ak;have ap:=xM hA.out
  repeat' first|refine Z1 ?_|refine Z8 fun ya J=>?_|refine Z4 ?_;clear J ya|refine Z2 ?_ ?_<;>intro h aa<;>try exact Xp|refine Z3 ?_|exact Zt|apply J.out;clear J ya
  exact⟨_,rfl,true,rfl,by simp⟩
theorem Y7 {n i:Nat}(h1:1<=n)(hn:n<=5)(hi:i<=n):(n-1)^i<=1024:=by
 have:∀n,n<6->∀i,i<6->i<=n->1<=n->(n-1)^i<=1024:=by decide
 exact this n Agm i Agm hi h1
theorem qI (n:Nat)(h1:1<=n)(hn:n<=5)(σ:St):ACalls Tryz.prog 183 [sc (.int .i64 n)] σ fun r σ'=>r=sc (.int .i64 ((n-1)^n:Nat))/\σ'=σ:=by
 obtain⟨M,hM⟩:∃M:Nat,n=M+1:=⟨n-1,Agm⟩;have ai:(n:Int)-1=(M:Int):=Agm;have ae:n-1=M:=Agm;clear hM;have ac:=fun i hi=>Y7 (n:=n) (i:=i) h1 hn hi;rw[ae]at ac⊢;clear ae;refine Z9 15 [.tmp 2] Tryz.func183 ?_
 repeat' first|refine Z1 ?_|refine Z8 fun ya J=>?_|refine Z4 ?_;clear J ya|refine Z2 ?_ ?_<;>intro h aa<;>try exact Xp|refine Z3 ?_|exact Zt|apply J.out;clear J ya
 refine Ad (fun m s σ'=>∃(i p:Nat),m=n-i/\i<=n/\s 0=sc (.int .i64 n)/\s 3=sc (.int .i64 p)/\s 4=sc (.int .i64 i)/\σ'=σ/\Agt (p=M^i)/\p<=1024) n
  ⟨0,1,Agm,Agm,rfl,rfl,rfl,rfl,by simp[Agt],Agm⟩ ?_
 rintro m s σ' ⟨i,p,rfl,hi,h0,h3,h4,hσ,hp,hp2⟩;subst hσ;by_cases af:i<n
 ·have ab:(p:Int)*(M:Int)=((p*M:Nat):Int):=by simp
  have hb:p*M<=1024:=by rw[hp.out,<-Nat.pow_succ];exact ac (i+1) af
  have ad:Agt (p*M=M^(i+1)):=by rw[Agt,Nat.pow_succ,hp.out]
  generalize p*M=pm at ab hb ad
  repeat' first|refine Z1 ?_|refine Z8 fun ya J=>?_|refine Z4 ?_;clear J ya|refine Z2 ?_ ?_<;>intro h aa<;>try exact Xp|refine Z3 ?_|exact Zt|apply J.out;clear J ya
  exact⟨n-(i+1),Agm,i+1,pm,rfl,Agm,rfl,by simp,ad,hb⟩
 ·have ah:i=n:=Agm;subst ah
  repeat' first|refine Z1 ?_|refine Z8 fun ya J=>?_|refine Z4 ?_;clear J ya|refine Z2 ?_ ?_<;>intro h aa<;>try exact Xp|refine Z3 ?_|exact Zt|apply J.out;clear J ya
  first
  |exact⟨_,rfl,by rw[hp.out],rfl⟩
  |exact⟨_,rfl,by rw[hp.out]⟩
theorem iU {x:RItem}{k j way:Nat}{l:List (Tx×Tx)}{a b:RAtom}(ha:x.body[j]?=some a)(hb:x.body[cP k (x.body.length-1) way]?=some b):gather x k (x.body.drop j) way l=(C2 l a b).bind fun l'=>gather x k (x.body.drop (j+1)) (way / (x.body.length-1)) l':=by
 obtain⟨l1,e1⟩:=Adm.1 ha;rw[Aeo l1,e1];simp only[gather];rw[hb]
theorem Aan {x:RItem}{k way:Nat}(hk:k<x.body.length)(hm:0<x.body.length-1):cP k (x.body.length-1) way<x.body.length:=by
 have:=Nat.mod_lt way hm;unfold cP;split<;>omega
theorem kU (x:RItem)(c:List AV)(k way:Nat)(hc:EItem x c)(hx:x.fits)(h5:x.body.length<=5)(hk:k<x.body.length)(hm:0<x.body.length-1)(hway:way<=1024)(σ:St):ACalls Tryz.prog 184 [ag c,sc (.int .i64 k),sc (.int .i64 way)] σ fun r σ'=>∃b,r=sc (.bool b)/\(b=true↔V7 x k way)/\Keep σ σ':=by
 obtain⟨ih,id,b,hb,rfl⟩:=hc.cells;unfold A5;have b5:=EL.length Bc hb;have bp:=hx.2.1;have br:=hx.2.2;obtain⟨M,hM⟩:∃M:Nat,x.body.length-1=M:=⟨_,rfl⟩;have b3:(x.body.length:Int)-1=(M:Int):=Agm;have b6:¬((M:Int)=0):=Agm;have ax:∀w:Nat,Int.tmod (w:Int) (M:Int)=((w % M:Nat):Int):=fun w=>rfl;have ay:∀w:Nat,Int.tdiv (w:Int) (M:Int)=((w / M:Nat):Int):=fun w=>rfl;have az:=fun τ (hK:Keep σ τ)=>Ui σ [] 1 x.head x.head _ _ ⟨ih,rfl⟩ ⟨ih,rfl⟩ (by simp) bp τ hK (Own.nil σ τ);obtain⟨l00,af,-⟩:=Uj (a:=x.head);have a9:Agt (V7 x k way↔∃l,gather x k x.body way l00=some l/\Agree l):=by
  unfold V7;constructor
  ·rintro⟨l0,l,h1,h2,h3⟩;rw[af]at h1;cases h1;exact⟨l,h2,h3⟩
  ·rintro⟨l,h2,h3⟩;exact⟨l00,l,af,h2,h3⟩
 rw[af]at az;clear af;have az:∀τ,Keep σ τ->ACalls Tryz.prog 226 [nilS,ag [sc (.bool x.head.nt),str x.head.pred,sl ih x.head.terms.length (x.head.terms.map str)],ag [sc (.bool x.head.nt),str x.head.pred,sl ih x.head.terms.length (x.head.terms.map str)]] τ fun r σ'=>∃id',r=tp [sl id' l00.length (De l00),sc (.bool true)]/\l00.length<=1000/\Own σ σ' id' l00.length/\Keep σ σ'/\KeepO τ σ':=fun τ hK=>(az τ hK).mono fun r σ' ⟨id',l',ok,h1,⟨h2,h3⟩,h4,h5,h6,h7⟩=>by
  subst h2 h3;exact⟨id',h1,by simpa using h4,h5,h6,h7⟩
 refine Z9 63 [.tmp 6] Tryz.func184 ?_
 repeat' first|refine Z1 ?_|refine Z8 fun ya J=>?_|refine Z4 ?_;clear J ya|refine Z5 ?_;refine Xi (az _ ((Keep.refl σ).new _)) ?_;rintro _ _ ⟨id0,rfl,bv,bh,bi,am⟩;(have ap:=am.obj;have au:=am.nobj;simp only[Aa]at au)|refine Z3 ?_|exact Zt|apply J.out;clear J ya
 rename_i σ1;have av:σ1.obj σ.nobj=[sc (.bool x.out),sc (.bool x.head.nt),str x.head.pred,sl ih x.head.terms.length (x.head.terms.map str),sl id x.body.length b]:=by rw[ap _ (by rw[Aa];omega),Al]
 refine Ad (fun m s σ'=>∃(j way' id':Nat) (l':List (Tx×Tx)),m=x.body.length-j/\j<=x.body.length/\way'<=1024/\s 1=sc (.int .i64 k)/\s 2=sc (.int .i64 way')/\s 3=ptr σ.nobj 0/\s 7=sc (.int .i64 x.body.length)/\s 8=sl id' l'.length (De l')/\s 10=sc (.int .i64 j)/\Keep σ σ'/\σ.nobj<σ'.nobj/\σ'.obj σ.nobj=[sc (.bool x.out),sc (.bool x.head.nt),str x.head.pred,sl ih x.head.terms.length (x.head.terms.map str),sl id x.body.length b]/\Own σ σ' id' l'.length/\l'.length<=1000+j*1000/\Agt (gather x k x.body way l00=gather x k (x.body.drop j) way' l')) x.body.length
  ⟨0,way,id0,l00,Agm,Agm,hway,by simp[upd,initS],by simp[upd,initS],Ago,Ago,Ago,rfl,bi,Agm,av,bh,Agm,by simp[Agt]⟩ ?_
 clear av bi bh am ap au bv az;rintro m s σ' ⟨j,way',id',l',rfl,hj,bn,h1,h2,h3,h7,h8,ao,hK,bd,a4,hO,b4,hG⟩;have b1:=hK.nobj;by_cases be:j<x.body.length
 ·have ai:=Adn be;have ac:=Aan (x:=x) (k:=k) (way:=way') hk hm;have aj:=Adn ac;have ae:Agt (gather x k x.body way l00=(C2 l' x.body[j] x.body[cP k (x.body.length-1) way']).bind fun l'=>gather x k (x.body.drop (j+1)) (way' / (x.body.length-1)) l'):=by
   rw[Agt,hG.out,iU ai aj]
  obtain⟨ia,r1,bq⟩:=Cm hb ai;obtain⟨ib,r2,an⟩:=Cm hb aj;have bc:=br x.body[j] (Aes be);generalize x.body[j]=a at bq ae bc;generalize x.body[cP k (x.body.length-1) way']=a2 at an ae;have a5:=fun τ hK hO=>Ui σ l' id' a a2 _ _ ⟨ia,rfl⟩ ⟨ib,rfl⟩ Agm bc τ hK hO;clear hG ai aj;rw[hM]at ac ae an;have a7:way' / M<=1024:=Ade (Nat.div_le_self _ _) bn;have bm:way' % M<M:=Nat.mod_lt _ Agm;generalize bb:way' / M=wd at ae a7;have bg:Int.tdiv (way':Int) (M:Int)=(wd:Int):=by rw[ay,bb]
  have aw:=ax way';unfold cP at ac an;generalize way' % M=wm at ac an aw bm;clear bb ay ax;have b2:((wm:Int)+1).toNat=wm+1:=Agm;by_cases bf:k<=wm
  ·rw[if_pos bf]at ac an
   repeat' first|refine Z1 ?_|refine Z8 fun ya J=>?_|refine Z4 ?_;clear J ya|refine Z2 ?_ ?_<;>intro h ad<;>try exact Xp|refine Z3 ?_|exact Zt|apply J.out;clear J ya
   refine Bl (Q:=fun e s' σ''=>e= .normal/\∃(id2:Nat) (l2:List (Tx×Tx)) (ok2:Bool),s' 1=sc (.int .i64 k)/\s' 2=sc (.int .i64 wd)/\s' 3=ptr σ.nobj 0/\s' 7=sc (.int .i64 x.body.length)/\s' 10=sc (.int .i64 j)/\s' 12=sl id2 l2.length (De l2)/\s' 13=sc (.bool ok2)/\lO l' (C2 l' a a2) l2 ok2/\l2.length<=l'.length+1000/\Own σ σ'' id2 l2.length/\Keep σ σ''/\KeepO σ' σ'') ?_ ?_
   ·refine Ay Ag (fun _=>True) [] [0,1,2,3,4,5,6,7,8,9,10] 6 #[true,true,true,true,true,true,true,true,true,true,true,false,false,false,false,false,false] Agp (fun _ _ _ h=>by cases h.1) ?_;intro ya J;refine Z3 ?_;refine J.out _ ?_;clear J ya;refine Ai (i:=11) Agp ?_;refine Am ?_;intro ya J;refine Z3 ?_;refine ACalls.mono (a5 _ hK hO) ?_;rintro _ σ5 ⟨id2,l2,ok2,rfl,hR2,a0,ak,a3,aa⟩;refine Z3 ?_;refine J.out _ _ ⟨fun _ o ho _=>aa.ver o ho,?_⟩;clear J ya;refine B8 (i:=12) _ (tp [sl id2 l2.length (De l2),sc (.bool ok2)]) rfl rfl rfl rfl rfl Agp Agp (fun _ _ _ h=>by cases h.1) (fun o ho _=>aa.ver o ho) ?_;refine B8 (i:=13) _ (sl id2 l2.length (De l2)) rfl rfl rfl rfl rfl Agp Agp (fun _ _ _ h=>by cases h.1) (fun o ho _=>aa.ver o ho) ?_;refine B8 (i:=14) _ (sc (.bool ok2)) rfl rfl rfl rfl rfl Agp Agp (fun _ _ _ h=>by cases h.1) (fun o ho _=>aa.ver o ho) ?_;refine B8 (i:=15) _ (sl id2 l2.length (De l2)) rfl rfl rfl rfl rfl Agp Agp (fun _ _ _ h=>by cases h.1) (fun o ho _=>aa.ver o ho) ?_;refine B8 (i:=16) _ (sc (.bool ok2)) rfl rfl rfl rfl rfl Agp Agp (fun _ _ _ h=>by cases h.1) (fun o ho _=>aa.ver o ho) ?_;refine Bb Agp ⟨rfl,id2,l2,ok2,by simp[upd,aput,h1],by simp[upd,aput],by simp[upd,aput,h3],by simp[upd,aput,h7],by simp[upd,aput,ao],by simp[upd,aput],by simp[upd,aput],hR2,a0,ak,a3,aa⟩
   ·clear h1 h2 h3 h7 h8 ao a5;rintro e s' σ6 ⟨rfl,id2,l2,ok2,h1,h2,h3,h7,ao,b0,bz,hR2,a0,ak,a3,aa⟩;have a6:=aa.nobj;have a8:σ6.obj σ.nobj=[sc (.bool x.out),sc (.bool x.head.nt),str x.head.pred,sl ih x.head.terms.length (x.head.terms.map str),sl id x.body.length b]:=by rw[aa.obj _ bd];exact a4
    clear a4 hK hO;have ah:Agt _:=hR2;clear hR2;cases ok2 with
    |true=>
     have ab:Agt (gather x k x.body way l00=gather x k (x.body.drop (j+1)) wd l2):=by
      have h:=ah.out;rw[Agt,ae.out];cases hp:C2 l' a a2 with
      |none=>rw[hp]at h;cases h
      |some l3=>rw[hp]at h;rw[<-h.1];rfl
     clear ae ah
     repeat' first|refine Z1 ?_|refine Z8 fun ya J=>?_|refine Z4 ?_;clear J ya|refine Z2 ?_ ?_<;>intro h ad<;>try exact Xp|refine Z3 ?_|exact Zt|apply J.out;clear J ya
     exact⟨x.body.length-(j+1),Agm,j+1,wd,id2,l2,rfl,Agm,a7,rfl,rfl,by simp,Agm,ak,Agm,ab⟩
    |false=>
     have ab:Agt (gather x k x.body way l00=none):=by
      have h:=ah.out;rw[Agt,ae.out];cases hp:C2 l' a a2 with
      |none=>rfl
      |some l3=>rw[hp]at h;cases h.2
     clear ae ah
     repeat' first|refine Z1 ?_|refine Z8 fun ya J=>?_|refine Z4 ?_;clear J ya|refine Z2 ?_ ?_<;>intro h ad<;>try exact Xp|refine Z3 ?_|exact Zt|apply J.out;clear J ya
     exact⟨_,rfl,false,rfl,(fun h=>by cases h),fun h=>by rw[a9.out]at h;obtain⟨l,h,-⟩:=h;rw[ab.out]at h;cases h⟩
  ·rw[if_neg bf]at ac an
   repeat' first|refine Z1 ?_|refine Z8 fun ya J=>?_|refine Z4 ?_;clear J ya|refine Z2 ?_ ?_<;>intro h ad<;>try exact Xp|refine Z3 ?_|exact Zt|apply J.out;clear J ya
   refine Bl (Q:=fun e s' σ''=>e= .normal/\∃(id2:Nat) (l2:List (Tx×Tx)) (ok2:Bool),s' 1=sc (.int .i64 k)/\s' 2=sc (.int .i64 wd)/\s' 3=ptr σ.nobj 0/\s' 7=sc (.int .i64 x.body.length)/\s' 10=sc (.int .i64 j)/\s' 12=sl id2 l2.length (De l2)/\s' 13=sc (.bool ok2)/\lO l' (C2 l' a a2) l2 ok2/\l2.length<=l'.length+1000/\Own σ σ'' id2 l2.length/\Keep σ σ''/\KeepO σ' σ'') ?_ ?_
   ·refine Ay Ag (fun _=>True) [] [0,1,2,3,4,5,6,7,8,9,10] 6 #[true,true,true,true,true,true,true,true,true,true,true,false,false,false,false,false,false] Agp (fun _ _ _ h=>by cases h.1) ?_;intro ya J;refine Z3 ?_;refine J.out _ ?_;clear J ya;refine Ai (i:=11) Agp ?_;refine Am ?_;intro ya J;refine Z3 ?_;refine ACalls.mono (a5 _ hK hO) ?_;rintro _ σ5 ⟨id2,l2,ok2,rfl,hR2,a0,ak,a3,aa⟩;refine Z3 ?_;refine J.out _ _ ⟨fun _ o ho _=>aa.ver o ho,?_⟩;clear J ya;refine B8 (i:=12) _ (tp [sl id2 l2.length (De l2),sc (.bool ok2)]) rfl rfl rfl rfl rfl Agp Agp (fun _ _ _ h=>by cases h.1) (fun o ho _=>aa.ver o ho) ?_;refine B8 (i:=13) _ (sl id2 l2.length (De l2)) rfl rfl rfl rfl rfl Agp Agp (fun _ _ _ h=>by cases h.1) (fun o ho _=>aa.ver o ho) ?_;refine B8 (i:=14) _ (sc (.bool ok2)) rfl rfl rfl rfl rfl Agp Agp (fun _ _ _ h=>by cases h.1) (fun o ho _=>aa.ver o ho) ?_;refine B8 (i:=15) _ (sl id2 l2.length (De l2)) rfl rfl rfl rfl rfl Agp Agp (fun _ _ _ h=>by cases h.1) (fun o ho _=>aa.ver o ho) ?_;refine B8 (i:=16) _ (sc (.bool ok2)) rfl rfl rfl rfl rfl Agp Agp (fun _ _ _ h=>by cases h.1) (fun o ho _=>aa.ver o ho) ?_;refine Bb Agp ⟨rfl,id2,l2,ok2,by simp[upd,aput,h1],by simp[upd,aput],by simp[upd,aput,h3],by simp[upd,aput,h7],by simp[upd,aput,ao],by simp[upd,aput],by simp[upd,aput],hR2,a0,ak,a3,aa⟩
   ·clear h1 h2 h3 h7 h8 ao a5;rintro e s' σ6 ⟨rfl,id2,l2,ok2,h1,h2,h3,h7,ao,b0,bz,hR2,a0,ak,a3,aa⟩;have a6:=aa.nobj;have a8:σ6.obj σ.nobj=[sc (.bool x.out),sc (.bool x.head.nt),str x.head.pred,sl ih x.head.terms.length (x.head.terms.map str),sl id x.body.length b]:=by rw[aa.obj _ bd];exact a4
    clear a4 hK hO;have ah:Agt _:=hR2;clear hR2;cases ok2 with
    |true=>
     have ab:Agt (gather x k x.body way l00=gather x k (x.body.drop (j+1)) wd l2):=by
      have h:=ah.out;rw[Agt,ae.out];cases hp:C2 l' a a2 with
      |none=>rw[hp]at h;cases h
      |some l3=>rw[hp]at h;rw[<-h.1];rfl
     clear ae ah
     repeat' first|refine Z1 ?_|refine Z8 fun ya J=>?_|refine Z4 ?_;clear J ya|refine Z2 ?_ ?_<;>intro h ad<;>try exact Xp|refine Z3 ?_|exact Zt|apply J.out;clear J ya
     exact⟨x.body.length-(j+1),Agm,j+1,wd,id2,l2,rfl,Agm,a7,rfl,rfl,by simp,Agm,ak,Agm,ab⟩
    |false=>
     have ab:Agt (gather x k x.body way l00=none):=by
      have h:=ah.out;rw[Agt,ae.out];cases hp:C2 l' a a2 with
      |none=>rfl
      |some l3=>rw[hp]at h;cases h.2
     clear ae ah
     repeat' first|refine Z1 ?_|refine Z8 fun ya J=>?_|refine Z4 ?_;clear J ya|refine Z2 ?_ ?_<;>intro h ad<;>try exact Xp|refine Z3 ?_|exact Zt|apply J.out;clear J ya
     exact⟨_,rfl,false,rfl,(fun h=>by cases h),fun h=>by rw[a9.out]at h;obtain⟨l,h,-⟩:=h;rw[ab.out]at h;cases h⟩
 ·have bo:j=x.body.length:=Agm;subst bo;have hR:Agt (gather x k x.body way l00=some l'):=by rw[Agt,hG.out,Aep];simp[gather]
  have bw:=fun σ=>nC l' id' Agm σ
  repeat' first|refine Z1 ?_|refine Z8 fun ya J=>?_|refine Z4 ?_;clear J ya|refine Z2 ?_ ?_<;>intro h ad<;>try exact Xp|refine Z5 ?_;refine Xi (bw _) ?_;rintro _ _ ⟨ba,rfl,bu,hσ⟩;(replace hσ:=hσ.symm;subst hσ)|refine Z3 ?_|exact Zt|apply J.out;clear J ya
  exact⟨_,rfl,ba,rfl,by rw[a9.out,bu];exact⟨fun h=>⟨l',hR.out,h⟩,fun⟨l,h1,h2⟩=>by rw[hR.out]at h1;cases h1;exact h2⟩⟩
theorem I7 (x:RItem)(c:List AV)(k:Nat)(hc:EItem x c)(hn:x.body.length<=1000)(σ:St):ACalls Tryz.prog 146 [ag c,sc (.int .i64 k)] σ fun r σ'=>∃c',r=ag c'/\EItem (Cw x k) c'/\Keep σ σ':=by
 obtain⟨ih,id,b,hb,rfl⟩:=hc.cells;unfold A5;have a6:=EL.length Bc hb;refine Z9 31 [.cell 4 145] Tryz.func146 ?_
 refine zz ?_
 refine Ad (fun m s σ'=>∃(n i3:Nat) (xs:List AV),m=x.body.length-n/\n<=x.body.length/\s 1=sc (.int .i64 k)/\s 2=ptr σ.nobj 0/\s 4=ptr (σ.nobj+1) 0/\s 5=ptr (σ.nobj+2) 0/\s 6=sc (.int .i64 n)/\Keep σ σ'/\σ.nobj+2<σ'.nobj/\σ'.obj σ.nobj=[sc (.bool x.out),sc (.bool x.head.nt),str x.head.pred,sl ih x.head.terms.length (x.head.terms.map str),sl id x.body.length b]/\σ'.obj (σ.nobj+1)=[sc (.bool false),sc (.bool false),str [],nilS,nilS]/\σ'.obj (σ.nobj+2)=[sc (.bool false),sc (.bool x.head.nt),str x.head.pred,sl ih x.head.terms.length (x.head.terms.map str),sl i3 (M4 x.body k n).length xs]/\Own σ σ' i3 (M4 x.body k n).length/\xs.length=(M4 x.body k n).length*3/\Agt (EL B6 (M4 x.body k n) xs)) x.body.length
  ⟨0,1,[],Agm,Agm,by simp[upd,initS],Ago,Ago,Ago,rfl,Xs,Ags,?_,?_,?_,Own.nil _ _,by simp[M4],by simp[Agt,M4,EL]⟩ ?_
 ·rw[Ak Agm,Ah Agq,Ah Agq,Al]
 ·rw[Ak Agm,Ah Agq,Ca Agq Agq]
 ·rw[show σ.nobj+2=σ.nobj+1+1 by omega,Aj];simp[M4]
 rintro m s σ' ⟨n,i3,xs,rfl,a5,h1,h2,h4,h5,h6,hK,a4,a0,az,af,hO,ah,hX⟩;have a3:=hK.nobj;have an:=nK x.body k n;by_cases au:n<x.body.length
 ·have aa:=Adn au;obtain⟨ia,r,hd⟩:=Cm hb aa;generalize x.body[n]=a at hd aa;have HG:Agt (x.body[n]?=some a):=aa;clear aa;generalize ai:M4 x.body k n=wl at af hO ah hX an;have am:Agt _:=ai;clear ai;by_cases ac:n=k
  ·have ap:((n:Int) !=(k:Int))=false:=by simp[ac]
   have ab:Agt (M4 x.body k (n+1)=wl):=by
    rw[Agt,<-am.out,ac];exact dC (by rw[<-ac];exact HG.out)
   clear ac
   repeat' first|refine Z1 ?_|refine Z8 fun ya J=>?_|refine Z4 ?_;clear J ya|refine Z2 ?_ ?_<;>intro h ad<;>try exact Xp|refine Z3 ?_|exact Zt|apply J.out;clear J ya
   exact⟨x.body.length-(n+1),Agm,n+1,i3,xs,rfl,Agm,by simp,by rw[ab.out],by rw[ab.out];exact hO,by rw[ab.out];exact ah,by rw[Agt,ab.out];exact hX.out⟩
  ·have ap:((n:Int) !=(k:Int))=true:=by simp;omega
   have ab:Agt (M4 x.body k (n+1)=wl++[a]):=by
    rw[Agt,<-am.out];exact nM HG.out ac
   clear ac
   repeat' first|refine Z1 ?_|refine Z8 fun ya J=>?_|refine Z4 ?_;clear J ya|refine Z2 ?_ ?_<;>intro h ad<;>try exact Xp|refine Z3 ?_|exact Zt|apply J.out;clear J ya
   refine Aw Ag (fun _=>True) [8,9,10] [0,1,2,3,4,5,6] [7,8,9,10] Agp (fun _ _ _ h=>h) ?_;have a7:Keep σ' (σ'.lay 1):=(Keep.refl _).lay 1;have ae:Agt ((M4 x.body k (n+1)).length=wl.length+1):=by rw[Agt,ab.out];simp
   intro ya J
   repeat' first|refine Z1 ?_|refine Z8 fun ya J=>?_|refine Z4 ?_;clear J ya|refine Z6 ?_;intro idn σn av aw ay ak ax aj|refine Z3 ?_|exact Zt|apply J.out;clear J ya
   refine⟨x.body.length-(n+1),Agm,n+1,idn,xs++[sc (.bool a.nt),str a.pred,sl ia a.terms.length (a.terms.map str)],rfl,Agm,by simp,aw.put Agm _,by rw[ae.out],by rw[ae.out];exact Own.put av _ _,by rw[ae.out];simp;omega,?_⟩;rw[Agt,ab.out];exact EL.append hX.out (EL.single ⟨ia,rfl⟩)
 ·have ao:n=x.body.length:=Agm;subst ao;rw[nL]at af hX
  repeat' first|refine Z1 ?_|refine Z8 fun ya J=>?_|refine Z4 ?_;clear J ya|refine Z2 ?_ ?_<;>intro h ad<;>try exact Xp|refine Z3 ?_|exact Zt|apply J.out;clear J ya
  exact⟨_,rfl,_,rfl,EItem.of (x:=Cw x k) (ih:=ih) (id:=i3) hX.out,hK.put Agm _⟩
theorem fP (x:RItem)(c:List AV)(k:Nat)(hc:EItem x c)(hx:x.fits)(h5:x.body.length<=5)(hk:k<x.body.length)(σ:St):ACalls Tryz.prog 144 [ag c,sc (.int .i64 k)] σ fun r σ'=>∃b,r=sc (.bool b)/\(b=true↔(Cz (Cw x k)=true/\Ge x k))/\Keep σ σ':=by
 have an:=fun σ=>I7 x c k hc hx.1 σ;have aj:=fun c' a7 σ=>Y1 (Cw x k) c' a7 (K7 hx) σ;have ad:=fun way hm hw σ=>kU x c k way hc hx h5 hk hm hw σ;have aw:=qX (x:=x) (k:=k) hk;have e1:Agt (Cz (Cw x k)=false->¬(Cz (Cw x k)=true/\Ge x k)):=fun h=>by rw[h];simp
 have e2:Agt (¬0<x.body.length-1->¬(Cz (Cw x k)=true/\Ge x k)):=fun h=>by rw[<-aw];simp[h]
 have e3:Agt (Cz (Cw x k)=true->0<x.body.length-1->((Cz (Cw x k)=true/\Ge x k)↔∃way,way<(x.body.length-1)^x.body.length/\V7 x k way)):=fun h hm=>by
  rw[h,<-aw];exact⟨fun h=>h.2.2,fun h=>⟨rfl,hm,h⟩⟩
 clear aw;generalize (Cz (Cw x k)=true/\Ge x k)=PQ at e1 e2 e3;obtain⟨ih,id,b,hb,rfl⟩:=hc.cells;unfold A5 at an ad⊢;by_cases hm:0<x.body.length-1
 ·have a5:¬((x.body.length:Int)<2):=Agm;have ao:=fun σ=>qI x.body.length Agm h5 σ;have a4:=Y7 (n:=x.body.length) (i:=x.body.length) Agm h5 (Adc _);have ad:=fun way hw σ=>ad way hm hw σ;cases am:Cz (Cw x k)with
  |false=>
   have HR:Agt (¬PQ):=e1.out am;rw[am]at aj;clear ad ao e1 e2 e3;refine Z9 29 [.tmp 4] Tryz.func144 ?_
   repeat' first|refine Z1 ?_|refine Z8 fun ya J=>?_|refine Z4 ?_;clear J ya|refine Z2 ?_ ?_<;>intro h aa<;>try exact Xp|(refine Z5 ?_;first|(refine Xi (an _) ?_;rintro _ _ ⟨c2,rfl,ak,af⟩;(have ab:=af.obj;have ac:=af.nobj;have ae:=aj c2 ak;obtain⟨ih2,id2,b2,ba,rfl⟩:=ak.cells;unfold A5 at ae))|(refine Xi (ae _) ?_;rintro _ _ ⟨rfl,au⟩))|refine Z3 ?_|exact Zt|apply J.out;clear J ya
   exact⟨_,rfl,false,rfl,⟨(fun h=>by cases h),fun h=>absurd h HR.out⟩,Xs⟩
  |true=>
   have HR:Agt (PQ↔∃way,way<(x.body.length-1)^x.body.length/\V7 x k way):=e3.out am hm;rw[am]at aj;generalize (x.body.length-1)^x.body.length=W at ao a4 HR;clear e1 e2 e3;refine Z9 29 [.tmp 4] Tryz.func144 ?_
   repeat' first|refine Z1 ?_|refine Z8 fun ya J=>?_|refine Z4 ?_;clear J ya|refine Z2 ?_ ?_<;>intro h aa<;>try exact Xp|(refine Z5 ?_;first|(refine Xi (an _) ?_;rintro _ _ ⟨c2,rfl,ak,af⟩;(have ab:=af.obj;have ac:=af.nobj;simp only[Aa]at ac;have ae:=aj c2 ak;obtain⟨ih2,id2,b2,ba,rfl⟩:=ak.cells;unfold A5 at ae))|(refine Xi (ae _) ?_;rintro _ _ ⟨rfl,au⟩;(have ah:=au.obj;have av:=au.nobj)))|refine Z3 ?_|exact Zt|apply J.out;clear J ya
   rename_i σ1 σ2;have ay:Keep σ σ2:=Xs;have ai:σ2.obj σ.nobj=[sc (.bool x.out),sc (.bool x.head.nt),str x.head.pred,sl ih x.head.terms.length (x.head.terms.map str),sl id x.body.length b]:=by rw[ah _ Agm,ab _ (by rw[Aa];omega),Al]
   refine Ad (fun m s σ'=>∃way:Nat,m=W-way/\way<=W/\s 1=sc (.int .i64 k)/\s 2=ptr σ.nobj 0/\s 5=sc (.int .i64 x.body.length)/\s 6=sc (.int .i64 way)/\Keep σ σ'/\σ.nobj<σ'.nobj/\σ'.obj σ.nobj=[sc (.bool x.out),sc (.bool x.head.nt),str x.head.pred,sl ih x.head.terms.length (x.head.terms.map str),sl id x.body.length b]/\Agt (∀w,w<way->¬V7 x k w)) W
    ⟨0,Agm,Agm,by simp[upd,initS],Ago,Ago,rfl,ay,Agm,ai,fun w hw=>Agm⟩ ?_
   clear af au ab ah ac av ai ay ae aj an;rintro m s σ' ⟨way,rfl,hw,h1,h2,bg,h6,hK,bf,be,ax⟩;have bc:=hK.nobj;by_cases a6:way<W
   ·have bb:=fun σ=>ad way Agm σ
    repeat' first|refine Z1 ?_|refine Z8 fun ya J=>?_|refine Z4 ?_;clear J ya|refine Z2 ?_ ?_<;>intro h aa<;>try exact Xp|(refine Z5 ?_;first|(refine Xi (ao _) ?_;rintro _ _ ⟨rfl,hσ⟩;(replace hσ:=hσ.symm;subst hσ))|(refine Xi (bb _) ?_;rintro _ _ ⟨bs,rfl,a8,ap⟩;(have az:=ap.obj;have a0:=ap.nobj)))|refine Z3 ?_|exact Zt|apply J.out;clear J ya
    ·exact⟨_,rfl,true,rfl,⟨fun _=>HR.out.2 ⟨way,a6,by assumption⟩,fun _=>rfl⟩,hK.trans ap⟩
    ·have a9:bs=false:=by assumption
     exact⟨W-(way+1),Agm,way+1,rfl,Agm,by simp,hK.trans ap,Agm,fun w bd=>by
      by_cases e:w=way
      ·subst e;intro hs;have:=a8.2 hs;rw[a9]at this;cases this
      ·exact ax.out w Agm⟩
   ·have a3:way=W:=Agm;subst a3
    repeat' first|refine Z1 ?_|refine Z8 fun ya J=>?_|refine Z4 ?_;clear J ya|refine Z2 ?_ ?_<;>intro h aa<;>try exact Xp|refine Z5 ?_;refine Xi (ao _) ?_;rintro _ _ ⟨rfl,hσ⟩;(replace hσ:=hσ.symm;subst hσ)|refine Z3 ?_|exact Zt|apply J.out;clear J ya
    exact⟨_,rfl,false,rfl,⟨(fun h=>by cases h),fun h=>by obtain⟨w,hw,hs⟩:=HR.out.1 h;exact absurd hs (ax.out w hw)⟩⟩
 ·have a5:(x.body.length:Int)<2:=Agm;have HR:Agt (¬PQ):=e2.out hm;clear ad e1 e2 e3;refine Z9 29 [.tmp 4] Tryz.func144 ?_
  repeat' first|refine Z1 ?_|refine Z8 fun ya J=>?_|refine Z4 ?_;clear J ya|refine Z2 ?_ ?_<;>intro h aa<;>try exact Xp|refine Z3 ?_|exact Zt|apply J.out;clear J ya
  exact⟨_,rfl,false,rfl,⟨(fun h=>by cases h),fun h=>absurd h HR.out⟩,Xs⟩
theorem G1 {t:Tx}(he:(As t).1=0):t.length<=600/\∃l r,Bv 16 t= .got l r:=by
 have aa:t.length<=600:=by
  by_cases hl:600<t.length
  ·unfold As at he;rw[if_pos hl]at he;simp at he
  ·omega
 refine⟨aa,?_⟩;have hp:=Hm t;cases h:Bv 16 t with
 |got l r=>exact⟨l,r,rfl⟩
 |bad e=>
  rw[h]at hp;have hp:Eh t=((t.length-e.length:Nat):Int):=hp;unfold As at he;rw[if_neg Agm,hp,if_pos (Afl _)]at he;simp at he
end Go.Proofs.YtmoeoppbmhfbpaaGreatDoorD
