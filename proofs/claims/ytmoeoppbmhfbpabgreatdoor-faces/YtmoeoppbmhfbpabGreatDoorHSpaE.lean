import Derived.Test.YtmoeoppbmhfbpabGreatDoorHSpaB
import Derived.Test.YtmoeoppbmhfbpabGreatDoorHPrtF
import Derived.Test.YtmoeoppbmhfbpabGreatDoorHProgR
import Derived.Test.YtmoeoppbmhfbpabGreatDoorHPrtH
set_option linter.all false
namespace Go.Proofs.YtmoeoppbmhfbpabGreatDoorH
open Go.Abs
set_option maxRecDepth 100000
theorem Cy (t:Tx):(Ap t).1=Af t:=by
 cases t with
 |nil=>rfl
 |cons b r=>
  unfold Ap Af;dsimp only;split
  ·rename_i h;rw[h]
  ·rename_i h;simp at h;rw[h]
def UT (t:Tx):Prop:=DT t/\Ia t/\t.length<=1000/\(Af t=true->∃k:Nat,k<26/\t=[Cl k])
theorem UT.enc {t:Tx}(h:UT t)(hv:Af t=true):∃k:Nat,k<26/\t=[Cl k]/\Ap t=(true,(k:Int)):=by
 obtain⟨k,hk,rfl⟩:=h.2.2.2 hv;refine⟨k,hk,rfl,?_⟩;rw[Ef (C5 Ad2 Ad2),Dk Ad2 Ad2];congr 1;omega
theorem tellU:Tell Ap UT where
 var:=fun t _=>Cy t
 inj:=fun t u ht hu h=>by
  have hv:Af t=Af u:=by rw[<-Cy,<-Cy,h]
  cases hb:Af t with
  |true=>
   obtain⟨k,hk,rfl,e1⟩:=ht.enc hb;obtain⟨j,hj,rfl,e2⟩:=hu.enc (by rw[<-hv];exact hb);rw[e1,e2]at h;have:(k:Int)=j:=congrArg (·.2) h;rw[this]
  |false=>
   rcases ht.1 with h1|⟨-,h1,-⟩
   ·rw[hb]at h1;cases h1
   rcases hu.1 with h2|⟨-,h2,-⟩
   ·rw[<-hv,hb]at h2;cases h2
   rw[<-h1,<-h2,h]
 pos:=fun t ht hv=>by
  obtain⟨k,-,-,e⟩:=ht.enc hv;rw[e];exact Ac4 _
theorem UT.varOk {t:Tx}(h:UT t):varOk t:=fun hv=>by
 rw[Cy]at hv;obtain⟨k,hk,-,e⟩:=h.enc hv;exact⟨k,hk,by rw[e]⟩
theorem UT.dec {t:Tx}(h:UT t):Pd (Ap t)=t/\okE (Ap t):=by
 have hd:Pd (Ap t)=t:=by
  cases hv:Af t with
  |true=>
   obtain⟨k,hk,rfl,e⟩:=h.enc hv;rw[e];unfold Pd;rw[if_pos rfl,Mi Ad2 Ad2]
  |false=>
   rcases h.1 with h1|⟨-,h1,-⟩
   ·rw[hv]at h1;cases h1
   ·unfold Pd;rw[if_neg (by rw[Cy,hv];simp),h1]
 refine⟨hd,?_,?_,?_,by rw[hd];exact h.2.2.1⟩
 ·cases hv:Af t with
  |true=>obtain⟨k,hk,-,e⟩:=h.enc hv;rw[e];exact Ac4 _
  |false=>
   rcases h.1 with h1|h1
   ·rw[hv]at h1;cases h1
   ·exact h1.2.2.1
 ·intro hb;rw[Cy]at hb;obtain⟨k,hk,-,e⟩:=h.enc hb;rw[e];show (k:Int)<26;omega
 ·cases hv:Af t with
  |true=>obtain⟨k,hk,-,e⟩:=h.enc hv;rw[e];show (k:Int)<=999;omega
  |false=>
   rcases h.1 with h1|h1
   ·rw[hv]at h1;cases h1
   ·exact h1.2.2.2
structure InO (y:RItem):Prop where
 ut:∀a∈Ag y,∀t∈a.terms,UT t
 out:y.out=false
 ord:Ba y=(List.range (Ba y).length).map fun i=>[Cl (i:Nat)]
 len:(Ba y).length<=26
section
variable {N:List Tx} {y:RItem} {k:Nat} {s0 s:Sw}
end
theorem Iz {acc:List Tx}{t u:Tx}(h:∀v∈acc,Af v=true)(hu:u∈Dd acc t):Af u=true/\(u∈acc\/u=t):=by
 unfold Dd at hu;split at hu
 ·rename_i hc;rcases Ack.1 hu with q|q
  ·exact⟨h u q,.inl q⟩
  ·simp at q;subst q;exact⟨hc.1,.inr rfl⟩
 ·exact⟨h u hu,.inl hu⟩
theorem Ox:∀(ts acc:List Tx),(∀v∈acc,Af v=true)->acc.Nodup->(∀v∈Dc acc ts,Af v=true/\(v∈acc\/v∈ts))/\(Dc acc ts).Nodup
 |[],acc,h,hn=>⟨fun v hv=>⟨h v hv,.inl hv⟩,hn⟩
 |t::ts,acc,h,hn=>by
  have aa:(Dd acc t).Nodup:=by
   unfold Dd;split
   ·rename_i hc;rw[Adb];refine⟨hn,by simp,fun a ha b hb=>?_⟩;simp at hb;subst hb;exact fun e=>hc.2 (e ▸ ha)
   ·exact hn
  obtain⟨h1,h2⟩:=Ox ts (Dd acc t) (fun v hv=>(Iz h hv).1) aa;refine⟨fun v hv=>?_,h2⟩;obtain⟨q1,q2⟩:=h1 v hv;refine⟨q1,?_⟩;rcases q2 with q2|q2
  ·rcases (Iz h q2).2 with q|q
   ·exact .inl q
   ·exact .inr (by simp[q])
  ·exact .inr (by simp[q2])
theorem cB (w:Tx->Tx):∀(ts acc:List Tx),(∀v∈acc,Af v=true)->(∀t∈ts,Af (w t)=Af t)->(∀t u,(t∈acc\/t∈ts)->(u∈acc\/u∈ts)->Af t=true->Af u=true->w t=w u->t=u)->Dc (acc.map w) (ts.map w)=(Dc acc ts).map w
 |[],acc,_,_,_=>rfl
 |t::ts,acc,ha,hv,hi=>by
  show Dc (Dd (acc.map w) (w t)) (ts.map w)=(Dc (Dd acc t) ts).map w;have e:Dd (acc.map w) (w t)=(Dd acc t).map w:=by
   unfold Dd;rw[hv t (by simp)];by_cases hc:Af t=true/\t∉acc
   ·have aa:w t∉acc.map w:=fun hm=>by
     obtain⟨u,hu,e⟩:=Acm.1 hm;have:=hi u t (.inl hu) (.inr (by simp)) (ha u hu) hc.1 e;exact hc.2 (this ▸ hu)
    rw[if_pos hc,if_pos ⟨hc.1,aa⟩,Abt,Abx,Aby]
   ·rw[if_neg hc,if_neg (fun h=>hc ⟨h.1,fun hm=>h.2 (Acm.2 ⟨t,hm,rfl⟩)⟩)]
  rw[e];refine cB w ts (Dd acc t) (fun v h=>(Iz ha h).1) (fun t' h=>hv t' (by simp[h])) (fun a b h1 h2=>hi a b ?_ ?_)
  ·rcases h1 with h1|h1
   ·rcases (Iz ha h1).2 with q|q
    ·exact .inl q
    ·exact .inr (by simp[q])
   ·exact .inr (by simp[h1])
  ·rcases h2 with h2|h2
   ·rcases (Iz ha h2).2 with q|q
    ·exact .inl q
    ·exact .inr (by simp[q])
   ·exact .inr (by simp[h2])
theorem O8 {α β:Type}(f:α->β):∀(l:List α) (k:Nat),(l.map f).eraseIdx k=(l.eraseIdx k).map f
 |[],k=>rfl
 |a::l,0=>rfl
 |a::l,k+1=>by simp[O8 f l k]
structure XR (x:RItem):Prop where
 dt:∀a∈Ag x,∀t∈a.terms,DT t/\Ia t/\t.length<=1000
 out:x.out=false
 few:(Ba x).length<=26
section
variable {x:RItem} (hx:XR x)
include hx
theorem XR.mem {a:RAtom}(ha:a∈Ag x){t:Tx}(ht:t∈a.terms)(hv:Af t=true):t∈Ba x:=Np _ _ _ (.inr ⟨Acj.2 ⟨a,ha,ht⟩,hv⟩)
theorem XR.which {t:Tx}(h:t∈Ba x):Bs (Ba x) t=((Ba x).idxOf t:Nat)/\(Ba x).idxOf t<(Ba x).length:=⟨by unfold Bs;rw[if_pos h],Ac1 h⟩
theorem XR.rng {a:RAtom}(ha:a∈Ag x){t:Tx}(ht:t∈a.terms)(hv:Af t=true):0<=Bs (Ba x) t/\Bs (Ba x) t<26:=by
 obtain⟨e1,e2⟩:=hx.which (hx.mem ha ht hv);have:=hx.few;rw[e1];omega
theorem XR.inj {a b:RAtom}(ha:a∈Ag x)(hb:b∈Ag x){t u:Tx}(ht:t∈a.terms)(hu:u∈b.terms)(h:Gq (Ba x) t=Gq (Ba x) u):t=u:=by
 have v1:=L6 (l:=Ba x) (fun hv=>hx.rng ha ht hv);have v2:=L6 (l:=Ba x) (fun hv=>hx.rng hb hu hv);have ab:Af t=Af u:=by rw[<-v1,<-v2,h]
 cases hv:Af t with
 |true=>
  have aa:Af u=true:=by rw[<-ab];exact hv
  have r1:=hx.rng ha ht hv;have r2:=hx.rng hb hu aa;unfold Gq at h;rw[if_pos hv,if_pos aa]at h;have h3:Cl (Bs (Ba x) t)=Cl (Bs (Ba x) u):=by simpa using h
  have h4:((Cl (Bs (Ba x) t)).toNat:Int)=(Cl (Bs (Ba x) u)).toNat:=by rw[h3]
  rw[Dk r1.1 r1.2,Dk r2.1 r2.2]at h4;have m1:=hx.mem ha ht hv;have m2:=hx.mem hb hu aa;have e1:=(hx.which m1).1;have e2:=(hx.which m2).1;exact G3 m1 m2 Ad2
 |false=>
  have aa:Af u=false:=by rw[<-ab];exact hv
  unfold Gq at h;rwa[if_neg (by rw[hv];simp),if_neg (by rw[aa];simp)]at h
theorem XR.ut {a:RAtom}(ha:a∈Ag x){t:Tx}(ht:t∈a.terms):UT (Gq (Ba x) t):=by
 obtain⟨d1,d2,d3⟩:=hx.dt a ha t ht;cases hv:Af t with
 |true=>
  obtain⟨r1,r2⟩:=hx.rng ha ht hv;have e:Gq (Ba x) t=[Cl ((Bs (Ba x) t).toNat:Nat)]:=by
   unfold Gq;rw[if_pos hv,Int.toNat_of_nonneg r1]
  rw[e];exact⟨.inl (C5 Ad2 Ad2),⟨by simp,fun b hb=>by simp at hb;subst hb;exact .inl (C5 Ad2 Ad2)⟩,by simp,fun _=>⟨_,Ad2,rfl⟩⟩
 |false=>
  have e:Gq (Ba x) t=t:=by unfold Gq;rw[if_neg (by rw[hv];simp)]
  rw[e];exact⟨d1,d2,d3,fun h=>by rw[hv]at h;cases h⟩
theorem XR.atoms:Ag (ren x)=(Ag x).map (Ch (Ba x)):=by
 unfold Ag ren;simp[hx.out]
theorem XR.ord:Ba (ren x)=(Ba x).map (Gq (Ba x)):=by
 have h1:(Ag (ren x)).flatMap (·.terms)=((Ag x).flatMap (·.terms)).map (Gq (Ba x)):=by
  rw[hx.atoms,List.flatMap_map,List.map_flatMap];rfl
 have mem:∀t,t∈(Ag x).flatMap (·.terms)->∃a∈Ag x,t∈a.terms:=fun t ht=>by
  obtain⟨a,ha,hm⟩:=Acj.1 ht;exact⟨a,ha,hm⟩
 have:=cB (Gq (Ba x)) ((Ag x).flatMap (·.terms)) [] (by simp) (fun t ht=>by
  obtain⟨a,ha,hm⟩:=mem t ht;exact L6 (fun hv=>hx.rng ha hm hv)) (fun t u h1 h2 _ _ h=>by
  rcases h1 with h1|h1
  ·cases h1
  rcases h2 with h2|h2
  ·cases h2
  obtain⟨a,ha,hm⟩:=mem t h1;obtain⟨b,hb,hn⟩:=mem u h2
  exact hx.inj ha hb hm hn h)
 show Dc [] ((Ag (ren x)).flatMap (·.terms))=_;rw[h1];exact this
theorem XR.inO:InO (ren x) where
 ut:=fun a ha t ht=>by
  rw[hx.atoms]at ha;obtain⟨a',ac,rfl⟩:=Acm.1 ha;simp only[Ch,Acm]at ht;obtain⟨t',ab,rfl⟩:=ht;exact hx.ut ac ab
 out:=hx.out
 ord:=by
  rw[hx.ord,Ac9];have aa:=(Ox ((Ag x).flatMap (·.terms)) [] (by simp) Adc);apply Abw;intro i;rw[List.getElem?_map,List.getElem?_map];by_cases hi:i<(Ba x).length
  ·rw[List.getElem?_eq_getElem hi,List.getElem?_range hi];simp only[Option.map_some];congr 1;have hm:=Acz hi;have hv:=(aa.1 _ hm).1;unfold Gq;rw[if_pos hv];have:(Ba x).idxOf (Ba x)[i]=i:=List.Nodup.idxOf_getElem aa.2 i hi;rw[(hx.which hm).1,this]
  ·rw[List.getElem?_eq_none Ad2,List.getElem?_eq_none (by simpa using hi)];rfl
 len:=by rw[hx.ord,Ac9];exact hx.few
theorem XR.safe (k:Nat):Eb (Gx (ren x) k)=H7 (Gx x k):=by
 unfold Eb H7;congr 1;have eb:(Gx (ren x) k).body=(x.body.eraseIdx k).map (Ch (Ba x)):=by simp[Gx,ren,O8]
 have ea:Ag (Gx (ren x) k)=(Ag (Gx x k)).map (Ch (Ba x)):=by simp[Ag,Gx,ren,O8]
 have aa:∀b∈x.body.eraseIdx k,b∈Ag x:=fun b hb=>Ay (.inr (Ada hb));rw[ea,List.any_map];apply Dv;intro a ha;have ab:a∈Ag x:=by
  simp[Ag,Gx]at ha;rcases ha with rfl|ha
  ·exact Ay (.inl ⟨hx.out,rfl⟩)
  ·exact aa a ha
 unfold wK sV;simp only[Function.comp,Ch,List.any_map];apply Dv;intro t ht;simp only[Function.comp];rw[Cy,L6 (fun hv=>hx.rng ab ht hv)];cases hv:Af t with
 |false=>rfl
 |true=>
  congr 2;unfold Et Pe;rw[eb,List.any_map];show _=(x.body.eraseIdx k).any _;apply Dv;intro b hb;have ac:=aa b hb;simp only[Function.comp,Ch,List.any_map];have hk:∀u∈b.terms,Mn (Ap (Gq (Ba x) t)).2 (Gq (Ba x) u)=(u==t):=fun u hu=>by
   unfold Mn;rw[Bool.eq_iff_iff];simp only[Abj,Ady];constructor
   ·rintro⟨h1,h2⟩;exact hx.inj ac ab hu ht (tellU.inj _ _ (hx.ut ac hu) (hx.ut ab ht) (Prod.ext (by rw[h1,Cy,L6 (fun hv=>hx.rng ab ht hv),hv]) h2))
   ·rintro rfl;exact⟨by rw[Cy,L6 (fun hv=>hx.rng ab ht hv),hv],rfl⟩
  rw[Dv (p:=Mn (Ap (Gq (Ba x) t)).2∘Gq (Ba x)) (q:=fun u=>u==t) hk];cases b.nt<;>simp
end
structure Right (t:Tx)(N:List Tx)(l:List RItem)(cs:List AV):Prop where
 ok:(Au t).1=0
 len:t.length<=600
 parse:Bu 16 t= .got l []
 bk:Bk N l cs
 wit:∀x∈l,Bv x
theorem Right.items {t:Tx}{N:List Tx}{l:List RItem}{cs:List AV}(h:Right t N l cs):Cj t=l:=(Je (by have:=h.len;omega) h.parse).2.1
theorem Right.wi {t:Tx}{N:List Tx}{l:List RItem}{cs:List AV}(h:Right t N l cs):∀x∈l,WI N x:=wZ (by have:=h.len;omega) h.parse h.bk h.wit
theorem xN {x:RItem}(hw:Bv x):(Ba x).length<=18:=by
 have h3:=Sv ((Ag x).flatMap (·.terms)) [];obtain⟨q1,q2,q3⟩:=hw;have h4:(Ag x).length<=6/\∀b∈Ag x,b.terms.length<=3:=by
  cases ho:x.out with
  |true=>
   obtain⟨-,-,e⟩:=q2 ho;simp[Ag,ho,e]
  |false=>
   obtain⟨e1,-,e2,e3⟩:=q3 ho;refine⟨by simp[Ag,ho];omega,fun b hb=>?_⟩;simp[Ag,ho]at hb;rcases hb with rfl|hb
   ·exact e1.2.2.1
   ·exact (e3 b hb).2.2.1
 have h5:=dA h4.2;unfold Ba;rw[Ab9,Ab1]at h3;omega
theorem Jk {p:Nat->Bool}{n:Nat}(h:¬0<=Bm p n):∀i,i<n->p i=false:=by
 intro i hi;unfold Bm at h;split at h
 ·rename_i j hj;exact absurd (Ac4 j) h
 ·rename_i hn;rw[List.find?_eq_none]at hn;simpa using hn i (by simpa using hi)
theorem V1 {t:Tx}(h:(Au t).1=0):∀x∈Cj t,∀a∈Ag x,∀b∈Ag x,a.pred=b.pred->a.terms.length=b.terms.length:=by
 have aa:∀i,i<(Cj t).length->Ih (Cj t) i=false:=by
  unfold Au at h;split at h
  ·simp at h
  split at h
  ·simp at h
  unfold Ci at h;split at h
  ·simp at h
  ·rename_i hk;exact Jk hk
 intro x hx a ha b hb he;obtain⟨i,hi⟩:=List.getElem?_of_mem hx;have h1:=aa i (List.getElem?_eq_some_iff.1 hi).1;unfold Ih at h1;rw[hi]at h1;simp only[Acy,List.mem_range]at h1;obtain⟨j,hj⟩:=List.getElem?_of_mem ha;obtain⟨k,hk⟩:=List.getElem?_of_mem hb;have ae:=(List.getElem?_eq_some_iff.1 hj).1;have ad:=(List.getElem?_eq_some_iff.1 hk).1;have key:∀(j k:Nat) (a b:RAtom),(Ag x)[j]?=some a->(Ag x)[k]?=some b->k<j->a.pred=b.pred->a.terms.length=b.terms.length:=by
  intro j k a b hj hk ab he;have h2:=h1 j (List.getElem?_eq_some_iff.1 hj).1;unfold Sy at h2;rw[hj]at h2;simp only[Acb,not_exists,not_and]at h2
  have h3:=h2 b (by
   unfold Fa
   exact Ack.2 (.inr (Abh (i:=k) (by rw[List.getElem?_take,if_pos ab];exact hk))))
  unfold clash at h3;simp[he]at h3;exact h3.symm
 rcases Nat.lt_trichotomy j k with ab|rfl|ac
 ·exact (key k j b a hk hj ab he.symm).symm
 ·rw[hj]at hk;cases hk;rfl
 ·exact key j k a b hj hk ac he
theorem iX {t:Tx}(h:UT t):VT t:=by
 cases hv:Af t with
 |true=>
  obtain⟨k,hk,rfl,-⟩:=h.enc hv;exact .inl ⟨_,rfl,C5 Ad2 Ad2⟩
 |false=>
  refine .inr ⟨h.2.1.1,fun b hb=>?_⟩;rcases h.2.1.2 b hb with q|q
  ·exfalso;rcases h.1 with h1|⟨-,h1,h2,h3⟩
   ·rw[hv]at h1;cases h1
   ·have hd:∀(u:Nat),∀c∈Lib.decDigits u,c.toNat<=57:=by
     intro u;induction u using Nat.strongRecOn with
     |_ u ih=>
      intro c hc;by_cases ab:u<10
      ·rw[Lib.decDigits_one ab]at hc;simp only[Ac3]at hc;subst hc;rw[UInt8.toNat_ofNat_of_lt' (by show 48+u<256;omega)];omega
      ·rw[Lib.decDigits,dif_neg ab]at hc;rcases Ack.1 hc with q|q
       ·exact ih (u / 10) Ad2 c q
       ·simp only[Ac3]at q;subst q;rw[UInt8.toNat_ofNat_of_lt' (by show 48+u % 10<256;omega)];omega
    have aa:b∈Lib.itoa (Ap t).2:=by rw[h1];exact hb
    unfold Lib.itoa at aa;rw[if_neg Ad2]at aa;have:=hd _ b aa;simp[A3]at q;omega
  ·exact q
theorem Y9 {α:Type}(g h:α->Tx):∀l:List α,(∀a∈l,(g a).length<=(h a).length)->(A8 (l.map g)).length<=(A8 (l.map h)).length
 |[],_=>by simp[A8]
 |a::l,hl=>by
  have h1:=Y9 g h l fun b hb=>hl b (by simp[hb]);have h2:=hl a (by simp);unfold A8 at*
  simp only[Abx,Acv,Ab2,Aca];omega
theorem Za {α:Type}(g h:α->Tx):∀l:List α,(∀a∈l,(g a).length<=(h a).length)->(A2 (l.map g)).length<=(A2 (l.map h)).length
 |[],_=>by simp[A2]
 |a::l,hl=>by
  have h1:=Y9 g h l fun b hb=>hl b (by simp[hb]);have h2:=hl a (by simp);simp only[Abx,A2,Ab2];omega
theorem xZ {l:List Tx}{t:Tx}(h:Ia t):(Gq l t).length<=t.length:=by
 unfold Gq;split
 ·have:=List.length_pos_iff.2 h.1;simp only[Aca,Ab9];omega
 ·exact Abb _
theorem Zd {l:List Tx}{a:RAtom}(h:C9 a):(A9 (Ch l a)).length<=(A9 a).length:=by
 have h1:=Za (Gq l) id a.terms fun t ht=>xZ (h.2.2.2 t ht);rw[Acn]at h1;unfold A9 Ch;simp only[Ab2,Aca,Ab9];omega
theorem uN {l:List Tx}{a:RAtom}(h:C9 a):(Bg (Ch l a)).length<=(Bg a).length:=by
 have h1:=Zd (l:=l) h;unfold Bg;rw[Ab2,Ab2];show (if a.nt=true then [33]else ([]:Tx)).length+_<=_;omega
theorem pH {x:RItem}(h:Bv x):(A0 (ren x)).length<=(A0 x).length:=by
 unfold A0;cases ho:x.out with
 |true=>
  rw[if_pos (by simp[ren,ho]),if_pos rfl];simp[ren,Ch]
 |false=>
  obtain⟨q1,-,-,q3⟩:=h.2.2 ho;rw[if_neg (by simp[ren,ho]),if_neg (by simp)];have h1:=Zd (l:=Ba x) q1;have h2:=Za (fun a=>Bg (Ch (Ba x) a)) Bg x.body fun a ha=>uN (q3 a ha);unfold Cw;show (A9 (Ch (Ba x) x.head)++(if x.body.map (Ch (Ba x))=[]then []else 58::45::A2 ((x.body.map (Ch (Ba x))).map Bg))).length<=_;rw[Abu,Ab2,Ab2];by_cases hb:x.body=[]
  ·rw[if_pos (by simp[hb]),if_pos hb];simpa using h1
  ·rw[if_neg (by simpa using hb),if_neg hb];simp only[Aca];have h3:(A2 (x.body.map (Bg∘Ch (Ba x)))).length<=(A2 (x.body.map Bg)).length:=h2;omega
theorem Oh:∀l:List RItem,(∀x∈l,Bv x)->(Bl (l.map ren)).length<=(Bl l).length
 |[],_=>by simp[Bl]
 |x::l,h=>by
  have h1:=Oh l fun y hy=>h y (by simp[hy]);have h2:=pH (h x (by simp));unfold Bl at*
  simp only[Abx,Acv,Ab2,Aca,Ab9];omega
theorem aW {t:Tx}(he:(Au t).1=0):t.length<=600/\∃l r,Bu 16 t= .got l r:=by
 have aa:t.length<=600:=by
  by_cases hl:600<t.length
  ·unfold Au at he;rw[if_pos hl]at he;simp at he
  ·omega
 refine⟨aa,?_⟩;have hp:=Jc t;cases h:Bu 16 t with
 |got l r=>exact⟨l,r,rfl⟩
 |bad e=>
  rw[h]at hp;have hp:Md t=((t.length-e.length:Nat):Int):=hp;unfold Au at he;rw[if_neg Ad2,hp,if_pos (Ac4 _)]at he;simp at he
end Go.Proofs.YtmoeoppbmhfbpabGreatDoorH
