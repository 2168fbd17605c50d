import Derived.Test.YtmoeoppbmhfbpabGreatDoorIStrH
import Derived.Test.YtmoeoppbmhfbpabGreatDoorIPrtF
import Derived.Test.YtmoeoppbmhfbpabGreatDoorILawA
set_option maxHeartbeats 16000000
set_option maxRecDepth 100000
set_option linter.all false
open List renaming length->Z
namespace Go.Proofs.YtmoeoppbmhfbpabGreatDoorI
open Go.Abs
theorem Bs (t):(Ap t).1=Ac t:=by
 cases t with
 |nil=>rfl
 |cons b r=>
  unfold Ap Ac;dsimp only;split
  ·rename_i h;rw[h]
  ·rename_i h;simp at h;rw[h]
def UT (t:Tx):Prop:=DT t/\Pm t/\Z t<=1000/\(Ac t=true->∃k:Nat,k<26/\t=[Iq k])
theorem UT.enc {t}(h:UT t)(hv:Ac t=true):∃k:Nat,k<26/\t=[Iq k]/\Ap t=(true,(k:Int)):=by
 obtain⟨k,hk,rfl⟩:=h.2.2.2 hv;refine⟨k,hk,rfl,?_⟩;rw[E3 (Fb AA AA),F4 AA AA];congr 1;omega
theorem DX:GP Ap UT where
 var:=fun t _=>Bs t
 inj:=fun t u ht hu h=>by
  have hv:Ac t=Ac u:=by rw[<-Bs,<-Bs,h]
  cases hb:Ac t with
  |true=>
   obtain⟨k,hk,rfl,e1⟩:=ht.enc hb;obtain⟨j,hj,rfl,e2⟩:=hu.enc (by rw[<-hv];exact hb);rw[e1,e2]at h;have:(k:Int)=j:=congrArg (·.2) h;rw[this]
  |false=>
   rcases ht.1 with h1|⟨-,h1,-⟩
   ·rw[hb]at h1;cases h1
   rcases hu.1 with h2|⟨-,h2,-⟩
   ·rw[<-hv,hb]at h2;cases h2
   rw[<-h1,<-h2,h]
 pos:=fun t ht hv=>by
  obtain⟨k,-,-,e⟩:=ht.enc hv;rw[e];exact KG _
theorem UT.varOk {t}(h:UT t):varOk t:=fun hv=>by
 rw[Bs]at hv;obtain⟨k,hk,-,e⟩:=h.enc hv;exact⟨k,hk,by rw[e]⟩
theorem UT.dec {t}(h:UT t):Hl (Ap t)=t/\RR (Ap t):=by
 have hd:Hl (Ap t)=t:=by
  cases hv:Ac t with
  |true=>
   obtain⟨k,hk,rfl,e⟩:=h.enc hv;rw[e];unfold Hl;rw[if_pos rfl,P9 AA AA]
  |false=>
   rcases h.1 with h1|⟨-,h1,-⟩
   ·rw[hv]at h1;cases h1
   ·unfold Hl;rw[if_neg (by rw[Bs,hv];simp),h1]
 refine⟨hd,?_,?_,?_,by rw[hd];exact h.2.2.1⟩
 ·cases hv:Ac t with
  |true=>obtain⟨k,hk,-,e⟩:=h.enc hv;rw[e];exact KG _
  |false=>
   rcases h.1 with h1|h1
   ·rw[hv]at h1;cases h1
   ·exact h1.2.2.1
 ·intro hb;rw[Bs]at hb;obtain⟨k,hk,-,e⟩:=h.enc hb;rw[e];show (k:Int)<26;omega
 ·cases hv:Ac t with
  |true=>obtain⟨k,hk,-,e⟩:=h.enc hv;rw[e];show (k:Int)<=999;omega
  |false=>
   rcases h.1 with h1|h1
   ·rw[hv]at h1;cases h1
   ·exact h1.2.2.2
structure kg (y:AB):Prop where
 ut:∀a∈Af y,∀t∈a.A,UT t
 o:y.o=false
 ord:Ba y=(List.range (Z (Ba y))).map fun i=>[Iq (i:Nat)]
 len:Z (Ba y)<=26
theorem K3 {acc t u}(h:∀v∈acc,Ac v=true)(hu:u∈Ft acc t):Ac u=true/\(u∈acc\/u=t):=by
 unfold Ft at hu;split at hu
 ·rename_i hc;rcases AW.1 hu with q|q
  ·exact⟨h u q,.inl q⟩
  ·simp at q;subst q;exact⟨hc.1,.inr rfl⟩
 ·exact⟨h u hu,.inl hu⟩
theorem Oj:∀(ts acc:List Tx),(∀v∈acc,Ac v=true)->acc.Nodup->(∀v∈G7 acc ts,Ac v=true/\(v∈acc\/v∈ts))/\(G7 acc ts).Nodup
 |[],acc,h,hn=>⟨fun v hv=>⟨h v hv,.inl hv⟩,hn⟩
 |t::ts,acc,h,hn=>by
  have aa:(Ft acc t).Nodup:=by
   unfold Ft;split
   ·rename_i hc;rw[JK];refine⟨hn,by simp,fun a ha b hb=>?_⟩;simp at hb;subst hb;exact fun e=>hc.2 (e ▸ ha)
   ·exact hn
  obtain⟨h1,h2⟩:=Oj ts (Ft acc t) (fun v hv=>(K3 h hv).1) aa;refine⟨fun v hv=>?_,h2⟩;obtain⟨q1,q2⟩:=h1 v hv;refine⟨q1,?_⟩;rcases q2 with q2|q2
  ·rcases (K3 h q2).2 with q|q
   ·exact .inl q
   ·exact .inr (by simp[q])
  ·exact .inr (by simp[q2])
theorem mM (w):∀(ts acc:List Tx),(∀v∈acc,Ac v=true)->(∀t∈ts,Ac (w t)=Ac t)->(∀t u,(t∈acc\/t∈ts)->(u∈acc\/u∈ts)->Ac t=true->Ac u=true->w t=w u->t=u)->G7 (acc.map w) (ts.map w)=(G7 acc ts).map w
 |[],acc,_,_,_=>rfl
 |t::ts,acc,ha,hv,hi=>by
  show G7 (Ft (acc.map w) (w t)) (ts.map w)=(G7 (Ft acc t) ts).map w;have e:Ft (acc.map w) (w t)=(Ft acc t).map w:=by
   unfold Ft;rw[hv t (by simp)];by_cases hc:Ac t=true/\t∉acc
   ·have aa:w t∉acc.map w:=fun hm=>by
     obtain⟨u,hu,e⟩:=AO.1 hm;have:=hi u t (.inl hu) (.inr (by simp)) (ha u hu) hc.1 e;exact hc.2 (this ▸ hu)
    rw[if_pos hc,if_pos ⟨hc.1,aa⟩,FO,CU,KO]
   ·rw[if_neg hc,if_neg (fun h=>hc ⟨h.1,fun hm=>h.2 (AO.2 ⟨t,hm,rfl⟩)⟩)]
  rw[e];refine mM w ts (Ft acc t) (fun v h=>(K3 ha h).1) (fun t' h=>hv t' (by simp[h])) (fun a b h1 h2=>hi a b ?_ ?_)
  ·rcases h1 with h1|h1
   ·rcases (K3 ha h1).2 with q|q
    ·exact .inl q
    ·exact .inr (by simp[q])
   ·exact .inr (by simp[h1])
  ·rcases h2 with h2|h2
   ·rcases (K3 ha h2).2 with q|q
    ·exact .inl q
    ·exact .inr (by simp[q])
   ·exact .inr (by simp[h2])
theorem Ot {α β:Type}(f:α->β):∀(l:List α) (k:Nat),(l.map f).eraseIdx k=(l.eraseIdx k).map f
 |[],k=>rfl
 |a::l,0=>rfl
 |a::l,k+1=>by simp[Ot f l k]
structure XR (x:AB):Prop where
 dt:∀a∈Af x,∀t∈a.A,DT t/\Pm t/\Z t<=1000
 o:x.o=false
 few:Z (Ba x)<=26
section
variable {x:AB} (hx:XR x)
include hx
theorem XR.mem {a}(ha:a∈Af x){t}(ht:t∈a.A)(hv:Ac t=true):t∈Ba x:=Rf _ _ _ (.inr ⟨DR.2 ⟨a,ha,ht⟩,hv⟩)
theorem XR.which {t}(h:t∈Ba x):Bl (Ba x) t=((Ba x).idxOf t:Nat)/\(Ba x).idxOf t<Z (Ba x):=⟨by unfold Bl;rw[if_pos h],CY h⟩
theorem XR.rng {a}(ha:a∈Af x){t}(ht:t∈a.A)(hv:Ac t=true):0<=Bl (Ba x) t/\Bl (Ba x) t<26:=by
 obtain⟨e1,e2⟩:=hx.which (hx.mem ha ht hv);have:=hx.few;rw[e1];omega
theorem XR.inj {a b}(ha:a∈Af x)(hb:b∈Af x){t u}(ht:t∈a.A)(hu:u∈b.A)(h:Ev (Ba x) t=Ev (Ba x) u):t=u:=by
 have v1:=Ke (l:=Ba x) (fun hv=>hx.rng ha ht hv);have v2:=Ke (l:=Ba x) (fun hv=>hx.rng hb hu hv);have hvv:Ac t=Ac u:=by rw[<-v1,<-v2,h]
 cases hv:Ac t with
 |true=>
  have aa:Ac u=true:=by rw[<-hvv];exact hv
  have r1:=hx.rng ha ht hv;have r2:=hx.rng hb hu aa;unfold Ev at h;rw[if_pos hv,if_pos aa]at h;have h3:Iq (Bl (Ba x) t)=Iq (Bl (Ba x) u):=by simpa using h
  have h4:((Iq (Bl (Ba x) t)).toNat:Int)=(Iq (Bl (Ba x) u)).toNat:=by rw[h3]
  rw[F4 r1.1 r1.2,F4 r2.1 r2.2]at h4;have m1:=hx.mem ha ht hv;have m2:=hx.mem hb hu aa;have e1:=(hx.which m1).1;have e2:=(hx.which m2).1;exact Eh m1 m2 AA
 |false=>
  have aa:Ac u=false:=by rw[<-hvv];exact hv
  unfold Ev at h;rwa[if_neg (by rw[hv];simp),if_neg (by rw[aa];simp)]at h
theorem XR.ut {a}(ha:a∈Af x){t}(ht:t∈a.A):UT (Ev (Ba x) t):=by
 obtain⟨d1,d2,d3⟩:=hx.dt a ha t ht;cases hv:Ac t with
 |true=>
  obtain⟨r1,r2⟩:=hx.rng ha ht hv;have e:Ev (Ba x) t=[Iq ((Bl (Ba x) t).toNat:Nat)]:=by
   unfold Ev;rw[if_pos hv,Int.toNat_of_nonneg r1]
  rw[e];exact⟨.inl (Fb AA AA),⟨by simp,fun b hb=>by simp at hb;subst hb;exact .inl (Fb AA AA)⟩,by simp,fun _=>⟨_,AA,rfl⟩⟩
 |false=>
  have e:Ev (Ba x) t=t:=by unfold Ev;rw[if_neg (by rw[hv];simp)]
  rw[e];exact⟨d1,d2,d3,fun h=>by rw[hv]at h;cases h⟩
theorem XR.atoms:Af (ren x)=(Af x).map (C8 (Ba x)):=by
 unfold Af ren;simp[hx.o]
theorem XR.ord:Ba (ren x)=(Ba x).map (Ev (Ba x)):=by
 have h1:(Af (ren x)).flatMap (·.A)=((Af x).flatMap (·.A)).map (Ev (Ba x)):=by
  rw[hx.atoms,LF,List.map_flatMap];rfl
 have mem:∀t,t∈(Af x).flatMap (·.A)->∃a∈Af x,t∈a.A:=fun t ht=>by
  obtain⟨a,ha,hm⟩:=DR.1 ht;exact⟨a,ha,hm⟩
 have:=mM (Ev (Ba x)) ((Af x).flatMap (·.A)) [] (by simp) (fun t ht=>by
  obtain⟨a,ha,hm⟩:=mem t ht;exact Ke (fun hv=>hx.rng ha hm hv)) (fun t u h1 h2 _ _ h=>by
  rcases h1 with h1|h1
  ·cases h1
  rcases h2 with h2|h2
  ·cases h2
  obtain⟨a,ha,hm⟩:=mem t h1;obtain⟨b,hb,hn⟩:=mem u h2
  exact hx.inj ha hb hm hn h)
 show G7 [] ((Af (ren x)).flatMap (·.A))=_;rw[h1];exact this
theorem XR.inO:kg (ren x) where
 ut:=fun a ha t ht=>by
  rw[hx.atoms]at ha;obtain⟨a',ab,rfl⟩:=AO.1 ha;simp only[C8,AO]at ht;obtain⟨t',aa,rfl⟩:=ht;exact hx.ut ab aa
 o:=hx.o
 ord:=by
  rw[hx.ord,BP];have hnd:=(Oj ((Af x).flatMap (·.A)) [] (by simp) IS);apply FS;intro i;rw[EY,EY];by_cases hi:i<Z (Ba x)
  ·rw[AJ hi,List.getElem?_range hi];simp only[GZ];congr 1;have hm:=AT hi;have hv:=(hnd.1 _ hm).1;unfold Ev;rw[if_pos hv];have:(Ba x).idxOf (Ba x)[i]=i:=List.Nodup.idxOf_getElem hnd.2 i hi;rw[(hx.which hm).1,this]
  ·rw[FK AA,FK (by simpa using hi)];rfl
 len:=by rw[hx.ord,BP];exact hx.few
theorem XR.tell:GP (fun t=>Ap (Ev (Ba x) t)) (fun t=>∃a∈Af x,t∈a.A) where
 var:=fun t ⟨a,ha,ht⟩=>by rw[Bs];exact Ke (fun hv=>hx.rng ha ht hv)
 inj:=fun t u ⟨a,ha,ht⟩ ⟨b,hb,hu⟩ h=>hx.inj ha hb ht hu (DX.inj _ _ (hx.ut ha ht) (hx.ut hb hu) h)
 pos:=fun t ⟨a,ha,ht⟩ hv=>DX.pos _ (hx.ut ha ht) (by rw[Ke (fun hv=>hx.rng ha ht hv)];exact hv)
theorem XR.search {N k}(hN:∀a∈x.A,a.B∈N)(hlen:∀a∈x.A,∀b∈x.A,a.B=b.B->Z a.A=Z b.A):
  ∃s0,C3 Mv ((ren x).h.A.map Ap) ((ren x).h.A.map Ap)=some s0/\((∃s',Hn (((ren x).A.eraseIdx k).map (Hb Ap N)) ((ren x).A.map (Hb Ap N)) s0=some s')↔Tk x k):=by
 obtain⟨s0,h0,h1⟩:=Pr hx.tell N x k hN (fun t ht=>⟨x.h,Ar (.inl ⟨hx.o,rfl⟩),ht⟩) (fun a ha t ht=>⟨a,Ar (.inr ha),ht⟩) hlen (fun t ht u hu h=>hx.tell.inj t u ht hu h);have e1:(ren x).h.A.map Ap=x.h.A.map fun t=>Ap (Ev (Ba x) t):=by simp[ren,C8]
 have e2:∀ls:List AC,(ls.map (C8 (Ba x))).map (Hb Ap N)=ls.map (Hb (fun t=>Ap (Ev (Ba x) t)) N):=fun ls=>by
  rw[BS];apply CK;intro a _;simp[Hb,C8]
 have e3:(ren x).A.eraseIdx k=(x.A.eraseIdx k).map (C8 (Ba x)):=by simp[ren,Ot]
 refine⟨s0,by rw[e1];exact h0,?_⟩;rw[e3,show (ren x).A=x.A.map (C8 (Ba x))from rfl,e2,e2];exact h1
theorem XR.safe (k):Gg (F7 (ren x) k)=Dx (F7 x k):=by
 unfold Gg Dx;congr 1;have eb:(F7 (ren x) k).A=(x.A.eraseIdx k).map (C8 (Ba x)):=by simp[F7,ren,Ot]
 have ea:Af (F7 (ren x) k)=(Af (F7 x k)).map (C8 (Ba x)):=by simp[Af,F7,ren,Ot]
 have aa:∀b∈x.A.eraseIdx k,b∈Af x:=fun b hb=>Ar (.inr (FY hb));rw[ea,List.any_map];apply E5;intro a ha;have ab:a∈Af x:=by
  simp[Af,F7]at ha;rcases ha with rfl|ha
  ·exact Ar (.inl ⟨hx.o,rfl⟩)
  ·exact aa a ha
 unfold oF Te;simp only[Function.comp,C8,List.any_map];apply E5;intro t ht;simp only[Function.comp];rw[Bs,Ke (fun hv=>hx.rng ab ht hv)];cases hv:Ac t with
 |false=>rfl
 |true=>
  congr 2;unfold Gi Iu;rw[eb,List.any_map];show _=(x.A.eraseIdx k).any _;apply E5;intro b hb;have ac:=aa b hb;simp only[Function.comp,C8,List.any_map];have hk:∀u∈b.A,Qf (Ap (Ev (Ba x) t)).2 (Ev (Ba x) u)=(u==t):=fun u hu=>by
   unfold Qf;rw[KL];simp only[BX,EH];constructor
   ·rintro⟨h1,h2⟩;exact hx.inj ac ab hu ht (DX.inj _ _ (hx.ut ac hu) (hx.ut ab ht) (GW (by rw[h1,Bs,Ke (fun hv=>hx.rng ab ht hv),hv]) h2))
   ·rintro rfl;exact⟨by rw[Bs,Ke (fun hv=>hx.rng ab ht hv),hv],rfl⟩
  rw[E5 (p:=Qf (Ap (Ev (Ba x) t)).2∘Ev (Ba x)) (q:=fun u=>u==t) hk];cases b.nt<;>simp
end
structure CZ (t:Tx)(N:List Tx)(l:List AB)(cs:List AV):Prop where
 ok:(Au t).1=0
 len:Z t<=600
 parse:Bv 16 t= .got l []
 bk:Bk N l cs
 wit:∀x∈l,De x
theorem CZ.items {t N l cs}(h:CZ t N l cs):Cb t=l:=(Dd (by have:=h.len;omega) h.parse).2.1
theorem CZ.wi {t N l cs}(h:CZ t N l cs):∀x∈l,WI N x:=pn (by have:=h.len;omega) h.parse h.bk h.wit
theorem WG {x}(hw:De x):Z (Ba x)<=18:=by
 have h3:=X5 ((Af x).flatMap (·.A)) [];obtain⟨q1,q2,q3⟩:=hw;have h4:Z (Af x)<=6/\∀b∈Af x,Z b.A<=3:=by
  cases ho:x.o with
  |true=>
   obtain⟨-,-,e⟩:=q2 ho;simp[Af,ho,e]
  |false=>
   obtain⟨e1,-,e2,e3⟩:=q3 ho;refine⟨by simp[Af,ho];omega,fun b hb=>?_⟩;simp[Af,ho]at hb;rcases hb with rfl|hb
   ·exact e1.2.2.1
   ·exact (e3 b hb).2.2.1
 have h5:=nR h4.2;unfold Ba;rw[CP,EJ]at h3;omega
theorem Lv {p n}(h:¬0<=Bf p n):∀i,i<n->p i=false:=by
 intro i hi;unfold Bf at h;split at h
 ·rename_i j hj;exact absurd (KG j) h
 ·rename_i hn;rw[IX]at hn;simpa using hn i (by simpa using hi)
theorem cS {t}(h:(Au t).1=0):∀x∈Cb t,∀a∈Af x,∀b∈Af x,a.B=b.B->Z a.A=Z b.A:=by
 have aa:∀i,i<Z (Cb t)->Gm (Cb t) i=false:=by
  unfold Au at h;split at h
  ·simp at h
  split at h
  ·simp at h
  unfold Cn at h;split at h
  ·simp at h
  ·rename_i hk;exact Lv hk
 intro x hx a ha b hb he;obtain⟨i,hi⟩:=CO hx;have h1:=aa i (BG.1 hi).1;unfold Gm at h1;rw[hi]at h1;simp only[EB,KV]at h1;obtain⟨j,hj⟩:=CO ha;obtain⟨k,hk⟩:=CO hb;have ae:=(BG.1 hj).1;have ad:=(BG.1 hk).1;have key:∀(j k:Nat) (a b:AC),(Af x)[j]?=some a->(Af x)[k]?=some b->k<j->a.B=b.B->Z a.A=Z b.A:=by
  intro j k a b hj hk ab he;have h2:=h1 j (BG.1 hj).1;unfold Ma at h2;rw[hj]at h2;simp only[CW,not_exists,not_and]at h2
  have h3:=h2 b (by
   unfold Ca
   exact AW.2 (.inr (BD (i:=k) (by rw[II,if_pos ab];exact hk))))
  unfold clash at h3;simp[he]at h3;exact h3.symm
 rcases Nat.lt_trichotomy j k with ab|rfl|ac
 ·exact (key k j b a hk hj ab he.symm).symm
 ·rw[hj]at hk;cases hk;rfl
 ·exact key j k a b hj hk ac he
theorem aO {t}(h:UT t):VT t:=by
 cases hv:Ac t with
 |true=>
  obtain⟨k,hk,rfl,-⟩:=h.enc hv;exact .inl ⟨_,rfl,Fb AA AA⟩
 |false=>
  refine .inr ⟨h.2.1.1,fun b hb=>?_⟩;rcases h.2.1.2 b hb with q|q
  ·exfalso;rcases h.1 with h1|⟨-,h1,h2,h3⟩
   ·rw[hv]at h1;cases h1
   ·have hd:∀(u:Nat),∀c∈Lib.decDigits u,c.toNat<=57:=by
     intro u;induction u using Nat.strongRecOn with
     |_ u ih=>
      intro c hc;by_cases ab:u<10
      ·rw[Lib.decDigits_one ab]at hc;simp only[GF]at hc;subst hc;rw[UInt8.toNat_ofNat_of_lt' (by show 48+u<256;omega)];omega
      ·rw[Lib.decDigits,dif_neg ab]at hc;rcases AW.1 hc with q|q
       ·exact ih (u / 10) AA c q
       ·simp only[GF]at q;subst q;rw[UInt8.toNat_ofNat_of_lt' (by show 48+u % 10<256;omega)];omega
    have aa:b∈Lib.itoa (Ap t).2:=by rw[h1];exact hb
    unfold Lib.itoa at aa;rw[if_neg AA]at aa;have:=hd _ b aa;simp[Bw]at q;omega
  ·exact q
theorem iX {α:Type}(g h):∀l:List α,(∀a∈l,Z (g a)<=Z (h a))->Z (Cg (l.map g))<=Z (Cg (l.map h))
 |[],_=>by simp[Cg]
 |a::l,hl=>by
  have h1:=iX g h l fun b hb=>hl b (by simp[hb]);have h2:=hl a (by simp);unfold Cg at*
  simp only[CU,DK,AX,BQ];omega
theorem iY {α:Type}(g h):∀l:List α,(∀a∈l,Z (g a)<=Z (h a))->Z (Bu (l.map g))<=Z (Bu (l.map h))
 |[],_=>by simp[Bu]
 |a::l,hl=>by
  have h1:=iX g h l fun b hb=>hl b (by simp[hb]);have h2:=hl a (by simp);simp only[CU,Bu,AX];omega
theorem VG {l t}(h:Pm t):Z (Ev l t)<=Z t:=by
 unfold Ev;split
 ·have:=JQ.2 h.1;simp only[BQ,CP];omega
 ·exact AR _
theorem jB {l a}(h:D3 a):Z (A3 (C8 l a))<=Z (A3 a):=by
 have h1:=iY (Ev l) id a.A fun t ht=>VG (h.2.2.2 t ht);rw[IY]at h1;unfold A3 C8;simp only[AX,BQ,CP];omega
theorem VM {l a}(h:D3 a):Z (Cp (C8 l a))<=Z (Cp a):=by
 have h1:=jB (l:=l) h;unfold Cp;rw[AX,AX];show Z (if a.nt=true then [33]else ([]:Tx))+_<=_;omega
theorem YI {x}(h:De x):Z (Ce (ren x))<=Z (Ce x):=by
 unfold Ce;cases ho:x.o with
 |true=>
  rw[if_pos (by simp[ren,ho]),if_pos rfl];simp[ren,C8]
 |false=>
  obtain⟨q1,-,-,q3⟩:=h.2.2 ho;rw[if_neg (by simp[ren,ho]),if_neg (by simp)];have h1:=jB (l:=Ba x) q1;have h2:=iY (fun a=>Cp (C8 (Ba x) a)) Cp x.A fun a ha=>VM (q3 a ha);unfold D6;show Z (A3 (C8 (Ba x) x.h)++(if x.A.map (C8 (Ba x))=[]then []else 58::45::Bu ((x.A.map (C8 (Ba x))).map Cp)))<=_;rw[BS,AX,AX];by_cases hb:x.A=[]
  ·rw[if_pos (by simp[hb]),if_pos hb];simpa using h1
  ·rw[if_neg (by simpa using hb),if_neg hb];simp only[BQ];have h3:Z (Bu (x.A.map (Cp∘C8 (Ba x))))<=Z (Bu (x.A.map Cp)):=h2;omega
theorem aS:∀l:List AB,(∀x∈l,De x)->Z (Cr (l.map ren))<=Z (Cr l)
 |[],_=>by simp[Cr]
 |x::l,h=>by
  have h1:=aS l fun y hy=>h y (by simp[hy]);have h2:=YI (h x (by simp));unfold Cr at*
  simp only[CU,DK,AX,BQ,CP];omega
theorem Zo (x c)(k:Nat)(hc:AN x c)(hn:Z x.A<=1000)(A):AF Tryz.prog 153 [ag c,ic k] A fun r A'=>∃c',r=ag c'/\AN (F7 x k) c'/\AE A A':=by
 obtain⟨ih,id,b,hb,rfl⟩:=hc.cells;unfold Bm;have a6:=EL.length Bb hb;refine Z9 31 [.cell 4 110] Tryz.func153 ?_
 refine zz ?_
 refine Ae (fun m s A'=>∃(n i3:Nat) (xs:List AV),m=Z x.A-n/\n<=Z x.A/\s 1=ic k/\s 2=ptr A.B 0/\s 4=ptr (A.B+1) 0/\s 5=ptr (A.B+2) 0/\s 6=ic n/\AE A A'/\A.B+2<A'.B/\A'.C A.B=[sc (.bool x.o),sc (.bool x.h.nt),str x.h.B,sl ih (Z x.h.A) (x.h.A.map str),sl id (Z x.A) b]/\A'.C (A.B+1)=[sc (.bool false),sc (.bool false),str [],nilS,nilS]/\A'.C (A.B+2)=[sc (.bool false),sc (.bool x.h.nt),str x.h.B,sl ih (Z x.h.A) (x.h.A.map str),sl i3 (Z (O8 x.A k n)) xs]/\Own A A' i3 (Z (O8 x.A k n))/\Z xs=Z (O8 x.A k n)*3/\AD (EL Bo (O8 x.A k n) xs)) (Z x.A)
  ⟨0,1,[],AA,AA,by simp[upd,AM],AG,AG,AG,rfl,Xs,BM,?_,?_,?_,Own.nil _ _,by simp[O8],by simp[AD,O8,EL]⟩ ?_
 ·rw[Aj AA,Ah AK,Ah AK,Ao]
 ·rw[Aj AA,Ah AK,Bg AK AK]
 ·rw[show A.B+2=A.B+1+1 by omega,Ak];simp[O8]
 rintro m s A' ⟨n,i3,xs,rfl,a5,h1,h2,h4,h5,h6,hK,a4,a0,az,af,hO,ah,hX⟩;have a3:=hK.B;have an:=tU x.A k n;by_cases au:n<Z x.A
 ·have aa:=AJ au;obtain⟨ia,r,hd⟩:=Cf hb aa;generalize x.A[n]=a at hd aa;have HG:AD (x.A[n]?=some a):=aa;clear aa;generalize ai:O8 x.A k n=wl at af hO ah hX an;have am:AD _:=ai;clear ai;by_cases ac:n=k
  ·have ap:((n:Int) !=(k:Int))=false:=by simp[ac]
   have ab:AD (O8 x.A k (n+1)=wl):=by
    rw[AD,<-am.o,ac];exact iP (by rw[<-ac];exact HG.o)
   clear ac
   refine pz ?_
   exact⟨Z x.A-(n+1),AA,n+1,i3,xs,rfl,AA,by simp,by rw[ab.o],by rw[ab.o];exact hO,by rw[ab.o];exact ah,by rw[AD,ab.o];exact hX.o⟩
  ·have ap:((n:Int) !=(k:Int))=true:=by simp;omega
   have ab:AD (O8 x.A k (n+1)=wl++[a]):=by
    rw[AD,<-am.o];exact tW HG.o ac
   clear ac
   refine pz ?_
   refine Ay Ag (fun _=>True) [8,9,10] [0,1,2,3,4,5,6] [7,8,9,10] AH (fun _ _ _ h=>h) ?_;have a7:AE A' (A'.lay 1):=(AE.refl _).lay 1;have ae:AD (Z (O8 x.A k (n+1))=Z wl+1):=by rw[AD,ab.o];simp
   intro yd yb
   refine qc ?_;intro idn An av aw ay ak ax aj;refine pz ?_
   refine⟨Z x.A-(n+1),AA,n+1,idn,xs++[sc (.bool a.nt),str a.B,sl ia (Z a.A) (a.A.map str)],rfl,AA,by simp,aw.put AA _,by rw[ae.o],by rw[ae.o];exact Own.put av _ _,by rw[ae.o];simp;omega,?_⟩;rw[AD,ab.o];exact EL.append hX.o (EL.single ⟨ia,rfl⟩)
 ·have ao:n=Z x.A:=AA;subst ao;rw[tV]at af hX
  refine pz ?_
  exact⟨_,rfl,_,rfl,AN.of (x:=F7 x k) (ih:=ih) (id:=i3) hX.o,hK.put AA _⟩
theorem Fq {t}(he:(Au t).1=0):Z t<=600/\∃l r,Bv 16 t= .got l r:=by
 have hlen:Z t<=600:=by
  by_cases hl:600<Z t
  ·unfold Au at he;rw[if_pos hl]at he;simp at he
  ·omega
 refine⟨hlen,?_⟩;have hp:=F1 t;cases h:Bv 16 t with
 |got l r=>exact⟨l,r,rfl⟩
 |bad e=>
  rw[h]at hp;have hp:Fc t=((Z t-Z e:Nat):Int):=hp;unfold Au at he;rw[if_neg AA,hp,if_pos (KG _)]at he;simp at he
def J7 (a b:AC):Prop:=a.nt=b.nt/\a.B=b.B/\a.A=b.A
theorem cQ (a b ca cb)(ha:Bo a ca)(hb:Bo b cb)(hn:Z a.A<=1000)(A):AF Tryz.prog 196 [ag ca,ag cb] A fun r A'=>∃bo,r=sc (.bool bo)/\(bo=true↔J7 a b)/\AE A A':=by
 obtain⟨ia,rfl⟩:=ha;obtain⟨ib,rfl⟩:=hb;by_cases hnt:a.nt=b.nt
 ·have ak:(a.nt==b.nt)=true:=by simp[hnt]
  by_cases ab:a.B=b.B
  ·have aj:(a.B==b.B)=true:=by simp[ab]
   by_cases ad:Z a.A=Z b.A
   ·have am:((Z a.A:Int) !=(Z b.A:Int))=false:=by simp[ad]
    have HS:AD (J7 a b↔a.A=b.A):=⟨fun h=>h.2.2,fun h=>⟨hnt,ab,h⟩⟩;have ah:AD _:=ad;generalize J7 a b=SP at HS;clear hnt ab ad;refine Z9 45 [.tmp 4] Tryz.func196 ?_
    refine pz ?_
    refine Ae (fun m s A'=>∃k:Nat,m=Z a.A-k/\k<=Z a.A/\s 2=ptr A.B 0/\s 3=ptr (A.B+1) 0/\s 5=ic k/\AE A A'/\A.B+1<A'.B/\A'.C A.B=[sc (.bool a.nt),str a.B,sl ia (Z a.A) (a.A.map str)]/\A'.C (A.B+1)=[sc (.bool b.nt),str b.B,sl ib (Z b.A) (b.A.map str)]/\AD (∀j,j<k->a.A[j]?=b.A[j]?)) (Z a.A)
     ⟨0,AA,AA,AG,AG,rfl,Xs,AK,?_,?_,fun j hj=>AA⟩ ?_
    ·rw[Ah AK,Ao]
    ·rw[Bg AK AK]
    rintro m s A' ⟨k,rfl,hk,h2,h3,h5,hK,av,au,ap,hE⟩;by_cases af:k<Z a.A
    ·have ae:k<Z b.A:=by have:=ah.o;omega
     have g1:=A7 af;have g2:=A7 ae;have HX:AD (a.A[k]?=some a.A[k]/\b.A[k]?=some b.A[k]):=⟨AJ af,AJ ae⟩;generalize a.A[k]=t at g1 HX;generalize b.A[k]=u at g2 HX;by_cases ac:t=u
     ·have ai:(t==u)=true:=by simp[ac]
      have ao:AD (∀j,j<k+1->a.A[j]?=b.A[j]?):=fun j hj=>by
       by_cases e:j=k
       ·subst e;rw[HX.o.1,HX.o.2,ac]
       ·exact hE.o j AA
      clear ac
      refine pz ?_
      refine Ay Ag (fun _=>True) [] [0,1,2,3,4,5,6,7,8,9,10] [] AH (fun _ _ _ h=>h) ?_;intro yd yb
      refine pz ?_
      exact⟨Z a.A-(k+1),AA,k+1,rfl,AA,by simp,ao⟩
     ·have ai:(t==u)=false:=by simpa using ac
      have HF:AD (¬SP):=fun h=>ac (by
       have h2:=HS.o.1 h;have h3:=HX.o.1;rw[h2,HX.o.2]at h3
       exact (IA h3).symm)
      clear ac
      refine pz ?_
      refine Ay Ag (fun _=>True) [] [0,1,2,3,4,5,6,7,8,9,10] [] AH (fun _ _ _ h=>h) ?_;intro yd yb
      refine pz ?_
      exact⟨_,rfl,false,rfl,⟨(fun h=>by cases h),fun h=>absurd h HF.o⟩⟩
    ·have an:k=Z a.A:=AA;subst an
     have HT:AD SP:=HS.o.2 (by
      apply FS;intro j;by_cases hj:j<Z a.A
      ·exact hE.o j hj
      ·rw[FK AA,FK (by have:=ah.o;omega)])
     refine pz ?_
     exact⟨_,rfl,true,rfl,⟨fun _=>HT.o,fun _=>rfl⟩⟩
   ·have am:((Z a.A:Int) !=(Z b.A:Int))=true:=by simpa using (show¬(Z a.A:Int)=(Z b.A:Int)by omega)
    have HF:AD (¬J7 a b):=fun h=>ad (by rw[h.2.2]);generalize J7 a b=SP at HF;clear hnt ab ad;refine Z9 45 [.tmp 4] Tryz.func196 ?_
    refine pz ?_
    exact⟨_,rfl,false,rfl,⟨(fun h=>by cases h),fun h=>absurd h HF.o⟩,Xs⟩
  ·have aj:(a.B==b.B)=false:=by simpa using ab
   have HF:AD (¬J7 a b):=fun h=>ab h.2.1;generalize J7 a b=SP at HF;clear hnt ab;refine Z9 45 [.tmp 4] Tryz.func196 ?_
   refine pz ?_
   exact⟨_,rfl,false,rfl,⟨(fun h=>by cases h),fun h=>absurd h HF.o⟩,Xs⟩
 ·have ak:(a.nt==b.nt)=false:=by simpa using hnt
  have HF:AD (¬J7 a b):=fun h=>hnt h.1;generalize J7 a b=SP at HF;clear hnt;refine Z9 45 [.tmp 4] Tryz.func196 ?_
  refine pz ?_
  exact⟨_,rfl,false,rfl,⟨(fun h=>by cases h),fun h=>absurd h HF.o⟩,Xs⟩
theorem iQ (ls cs id a ca)(hE:EL Bo ls cs)(ha:Bo a ca)(hl:Z ls<=1000)(hn:∀b∈ls,Z b.A<=1000)(hm:∃b∈ls,J7 b a)(A):AF Tryz.prog 154 [sl id (Z ls) cs,ag ca] A fun r A'=>r=sc (.bool true)/\AE A A':=by
 obtain⟨ia,rfl⟩:=ha;have ap:=EL.length Bb hE;have aj:=fun b ib hb A=>cQ b a [sc (.bool b.nt),str b.B,sl ib (Z b.A) (b.A.map str)] _ ⟨ib,rfl⟩ ⟨ia,rfl⟩ (hn b hb) A;have HM:AD _:=hm;clear hm;refine Z9 18 [.tmp 4] Tryz.func154 ?_
 refine zz ?_
 refine Ae (fun m s A'=>∃i:Nat,m=Z ls-i/\i<=Z ls/\s 0=sl id (Z ls) cs/\s 3=ptr A.B 0/\s 5=ic i/\AE A A'/\A.B<A'.B/\A'.C A.B=[sc (.bool a.nt),str a.B,sl ia (Z a.A) (a.A.map str)]/\AD (∀j,j<i->∀b,ls[j]?=some b->¬J7 b a)) (Z ls)
  ⟨0,AA,AA,rfl,rfl,rfl,Xs,by simp[Aa],Ao,fun j hj=>AA⟩ ?_
 rintro m s A' ⟨i,rfl,hi,h0,h3,h5,hK,ao,an,hN⟩;have am:=hK.B;by_cases ae:i<Z ls
 ·have aa:=AJ ae;obtain⟨ib,r,hd⟩:=Cf hE aa;have hS:=fun A=>aj ls[i] ib (AT ae) A;generalize ls[i]=b at hd aa hS;have HG:AD _:=aa;clear aa;generalize ad:J7 b a=SP at hS;have ak:AD _:=ad;clear ad
  refine pz ?_
  refine Ay Ag (fun _=>True) [5] [0,1,2,3,4] [5] AH (fun _ _ _ h=>h) ?_;intro yd yb
  refine p9 ?_;refine Xi (hS _) ?_;rintro _ _ ⟨bo,rfl,ai,ab⟩;(have af:=ab.C;have ah:=ab.B);refine qe ?_ ?_<;>intro h ac
  ·exact⟨_,rfl,rfl,hK.trans ab⟩
  ·refine⟨Z ls-(i+1),AA,i+1,rfl,AA,by simp,hK.trans ab,AA,fun j hj c hc=>?_⟩;by_cases e:j=i
   ·subst e;rw[HG.o]at hc;cases hc;rw[ak.o];intro hs;have h1:=ai.2 hs;have h2:bo=false:=by assumption
    rw[h2]at h1;cases h1
   ·exact hN.o j AA c hc
 ·exfalso;obtain⟨b,hb,hs⟩:=HM.o;obtain⟨j,hj⟩:=CO hb;exact hN.o j (by have:=(BG.1 hj).1;omega) b hj hs
end Go.Proofs.YtmoeoppbmhfbpabGreatDoorI
