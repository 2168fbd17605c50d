import Derived.Test.YtmoeoppbmhfbpabGreatDoorGFceC
import Derived.KernelRfl
import Derived.Test.YtmoeoppbmhfbpabGreatDoorGOptH
import Derived.Test.YtmoeoppbmhfbpabGreatDoorGRerA
import Derived.Test.YtmoeoppbmhfbpabGreatDoorGPrtH
set_option maxHeartbeats 16000000
set_option maxRecDepth 100000
set_option linter.all false
namespace Go.Proofs.YtmoeoppbmhfbpabGreatDoorG
open Go.Abs
inductive Kn (T:List RItem->Option (List RItem)->Prop)(b:Int):Int->List RItem->List RItem->Int->Prop where
 |full {m:Int} {l:List RItem}:b<=m->Kn T b m l l m
 |stop {m:Int} {l:List RItem}:(∀o,T l o->o=none)->Kn T b m l l m
 |step {m m':Int} {l l1 l':List RItem}:m<b->(∀o,T l o->o=some l1)->Kn T b (m+1) l1 l' m'->Kn T b m l l' m'
theorem GChg.head {T:List RItem->Option (List RItem)->Prop}{b m m2:Int}{l l2:List RItem}(h:GChg T b l m l2 m2):(l2=l/\m2=m)\/(m<b/\∃l1,T l (some l1)/\GChg T b l1 (m+1) l2 m2):=by
 induction h with
 |refl=>exact .inl ⟨rfl,rfl⟩
 |snoc _ hb hs ih=>
  rcases ih with⟨rfl,rfl⟩|⟨h1,l1,h2,h3⟩
  ·exact .inr ⟨hb,_,hs,.refl⟩
  ·exact .inr ⟨h1,l1,h2,.snoc h3 hb hs⟩
theorem Kn.eq {T:List RItem->Option (List RItem)->Prop}{b m m' m2:Int}{l l' l2:List RItem}(hk:Kn T b m l l' m')(h:Qx T b l m l2 m2):l2=l'/\m2=m':=by
 obtain⟨hc,he⟩:=h;induction hk with
 |full hb=>
  rcases hc.head with h|⟨h,-⟩
  ·exact h
  ·omega
 |stop hn=>
  rcases hc.head with h|⟨-,l1,h,-⟩
  ·exact h
  ·cases hn _ h
 |step hb hn _ ih=>
  rcases hc.head with⟨rfl,rfl⟩|⟨-,l1,h,hc⟩
  ·rcases he with he|he
   ·omega
   ·cases hn _ he
  ·cases hn _ h;exact ih hc
theorem GPss.nil_eq {T:UInt8->List RItem->Option (List RItem)->Prop}{b m m2:Int}{l l2:List RItem}{ps:Tx}(h:GPss T b l m ps l2 m2)(e:ps=[]):l2=l/\m2=m:=by
 induction h with
 |nil=>exact⟨rfl,rfl⟩
 |snoc _ _ _=>simp at e
theorem GPss.cons {T:UInt8->List RItem->Option (List RItem)->Prop}{b m m2:Int}{l l2:List RItem}{ps:Tx}(h:GPss T b l m ps l2 m2):∀c qs,ps=c::qs->∃l1 m1,Qx (T c) b l m l1 m1/\GPss T b l1 m1 qs l2 m2:=by
 induction h with
 |nil=>intro c qs e;cases e
 |@snoc ps c' l1 l2 m1 m2 h1 h2 ih=>
  intro c qs e;cases ps with
  |nil=>
   simp only[Aeu,Af9]at e;obtain⟨rfl,rfl⟩:=e;obtain⟨rfl,rfl⟩:=h1.nil_eq rfl;exact⟨l2,m2,h2,.nil⟩
  |cons a r=>
   simp only[Aes,Af9]at e;obtain⟨rfl,rfl⟩:=e;obtain⟨l3,m3,g1,g2⟩:=ih a r rfl;exact⟨l3,m3,g1,.snoc g2 h2⟩
def tAw:Tx:=[112,40,65,41,58,45,101,40,65,44,66,41,44,102,40,66,41,46,112,40,88,41,58,45,101,40,88,44,89,41,44,101,40,88,44,90,41,46,63,112,46]
def Ig:RItem:=⟨false,⟨false,[112],[[65]]⟩,[⟨false,[101],[[65],[66]]⟩,⟨false,[102],[[66]]⟩]⟩
def gG:RItem:=⟨false,⟨false,[112],[[88]]⟩,[⟨false,[101],[[88],[89]]⟩,⟨false,[101],[[88],[90]]⟩]⟩
def Iu:RItem:=⟨true,⟨false,[112],[]⟩,[]⟩
def Kr:RItem:=⟨false,⟨false,[112],[[88]]⟩,[⟨false,[101],[[88],[90]]⟩]⟩
theorem vW:(Ax tAw).1=0:=Agp
theorem vV:Cp tAw=[Ig,gG,Iu]:=Agp
theorem zM:Cg [Kr,Iu]=[112,40,65,41,58,45,101,40,65,44,66,41,46,63,112,46]:=Agp
theorem Ps {N:List Tx}{x:RItem}{k:Nat}(h:Dw (D9 x k)=false):cI N x k=none:=by
 unfold cI;cases hw:Cf Kd (x.head.terms.map Am) (x.head.terms.map Am)with
 |none=>rfl
 |some s0=>simp[Hv,h]
theorem J3 {N:List Tx}{p q:Tx}(hp:p∈N)(hq:q∈N)(h:p≠q):N.idxOf p≠N.idxOf q:=fun e=>h (by
 have h1:=Afc (Afd hp);have h2:=Afc (Afd hq);rw[<-h1,<-h2]
 congr 1)
theorem oK {R:List D8}{F:List C4}{k:Nat}{h:Ca}{b:Bool}(A:List (Nat×Ca))(hA:A.length<=200)(aa:ClD R (fun j t=>(j,t)∈A))(hF:∀a∈F,(a.p.toNat,Cl a)∈A)(hL:LstF R F k h)(hp:Vt R F k h b):b=true:=by
 obtain⟨M,hn,hs,hp⟩:=hp;have ht:tot M<=A.length:=rU (e:=fun x=>x) hn fun j t hm=>⟨(j,t),hs j t hm _ aa hF,rfl⟩;rw[if_pos Agm]at hp;exact hp.2.2 (hp.1 _ _ hL)
section
variable {N:List Tx} (hp:[112]∈N) (he:[101]∈N) (hf:[102]∈N)
theorem nC (aa:N.idxOf [102]≠N.idxOf [101]):cI N Ig 1=none:=by
 have e1:Am [65]=(true,0):=rfl;have e2:Am [66]=(true,1):=rfl;have hs:Dw (D9 Ig 1)=true:=Agp;simp only[Ig]at hs;unfold cI;simp only[Ig,Ad9,Aea,e1,Cf,F8,Kd,Hv,hs,if_true,List.eraseIdx,Fv,e2];generalize N.idxOf [101]=n at*
 generalize N.idxOf [102]=n' at*
 simp[Fp,Cf,F8,aa]
theorem zN:(cI N gG 0).isSome=true:=by
 have e1:Am [88]=(true,23):=rfl;have e2:Am [89]=(true,24):=rfl;have e3:Am [90]=(true,25):=rfl;have hs:Dw (D9 gG 0)=true:=Agp;simp only[gG]at hs;unfold cI;simp only[gG,Ad9,Aea,e1,Cf,F8,Kd,Hv,hs,if_true,List.eraseIdx,Fv,e2,e3];generalize N.idxOf [101]=n at*
 simp[Fp,Cf,F8]
include hp he hf
theorem vT {o:Option (List RItem)}(h:StA N [Ig,gG,Iu] o):o=some [Ig,Kr,Iu]:=by
 have aa:=J3 hf he (by decide);have k00:Ot N [Ig,gG,Iu] 0 0=false:=by
  unfold Ot;simp only[List.getElem?_cons_zero,Ps (N:=N) (x:=Ig) (k:=0) Agp,Age,Af1]
 have k01:Ot N [Ig,gG,Iu] 0 1=false:=by
  unfold Ot;simp only[List.getElem?_cons_zero,nC aa,Age,Af1]
 have k10:Ot N [Ig,gG,Iu] 1 0=true:=by
  show ((cI N gG 0).isSome&&Cj N [Ig,gG,Iu] [Ig,Kr,Iu])=true;rw[zN];unfold Cj
  rw[show Gy [Ig,Kr,Iu]=true by kernel_rfl,show (Cd [Ig,Kr,Iu]).1=0 by kernel_rfl,Rr (l:=[Ig,gG,Iu]) (l':=[Ig,Kr,Iu]) (fun k h=>by
   unfold B8 at h⊢
   simpa[Ig,gG,Iu,Kr]using h)]
  rfl
 ·rcases h with⟨-,h⟩|⟨i,k,y,rfl,h1,h2,h3,h4,h5,h6⟩
  ·rw[h 1 gG (by decide) rfl 0 (by decide)]at k10;cases k10
  ·match i,h1 with
   |0,h1=>
    cases h1
    match k,h3 with
    |0,_=>rw[k00]at h4;cases h4
    |1,_=>rw[k01]at h4;cases h4
    |k+2,h3=>simp[Ig]at h3;omega
   |1,h1=>
    cases h1
    match k with
    |0=>rfl
    |k+1=>rw[h6 0 Agm]at k10;cases k10
   |2,h1=>cases h1;cases h2
   |i+3,h1=>simp at h1
theorem vS {o:Option (List RItem)}(h:StA N [Ig,Kr,Iu] o):o=none:=by
 have aa:=J3 hf he (by decide);have k00:Ot N [Ig,Kr,Iu] 0 0=false:=by
  unfold Ot;simp only[List.getElem?_cons_zero,Ps (N:=N) (x:=Ig) (k:=0) Agp,Age,Af1]
 have k01:Ot N [Ig,Kr,Iu] 0 1=false:=by
  unfold Ot;simp only[List.getElem?_cons_zero,nC aa,Age,Af1]
 have k10:Ot N [Ig,Kr,Iu] 1 0=false:=by
  unfold Ot;simp only[List.getElem?_cons_succ,List.getElem?_cons_zero,Ps (N:=N) (x:=Kr) (k:=0) Agp,Age,Af1]
 ·rcases h with⟨h,-⟩|⟨i,k,y,rfl,h1,h2,h3,h4,h5,h6⟩
  ·exact h
  ·match i,h1 with
   |0,h1=>
    cases h1
    match k,h3 with
    |0,_=>rw[k00]at h4;cases h4
    |1,_=>rw[k01]at h4;cases h4
    |k+2,h3=>simp[Ig]at h3;omega
   |1,h1=>
    cases h1
    match k,h3 with
    |0,_=>rw[k10]at h4;cases h4
    |k+1,h3=>simp[Kr]at h3
   |2,h1=>cases h1;cases h2
   |i+3,h1=>simp at h1
theorem Ab3 {b:Bool}(h:Vp N [Ig,Kr,Iu] 0 Ig b):b=true:=by
 have ab:=J3 he hp (by decide);have aa:=J3 hf he (by decide);have ad:=J3 hf hp (by decide);have e65:Am [65]=(true,0):=rfl;have e66:Am [66]=(true,1):=rfl;have e88:Am [88]=(true,23):=rfl;have e90:Am [90]=(true,25):=rfl;unfold Vp at h;have ho:oth [Ig,Kr,Iu] 0 [Ig,Kr,Iu].length=[Kr]:=rfl;rw[ho]at h;have hR:([Kr].map (D1 N))=[⟨⟨(N.idxOf [112]:Nat),[(true,23)]⟩,[⟨false,⟨(N.idxOf [101]:Nat),[(true,23),(true,25)]⟩⟩]⟩]:=rfl;have hF:F2 N Ig=[⟨(N.idxOf [101]:Nat),[(false,1000),(false,1001)]⟩,⟨(N.idxOf [102]:Nat),[(false,1001)]⟩]:=rfl;have hH:Cl (Fe (D1 N Ig).head)=[1000,-1,-1]:=rfl;have hk:(D1 N Ig).head.p.toNat=N.idxOf [112]:=rfl;rw[hR,hF,hH,hk]at h;generalize N.idxOf [112]=ip at*
 generalize N.idxOf [101]=ie at*
 generalize N.idxOf [102]=i2 at*
 refine oK [(ie,[1000,1001,-1]),(i2,[1001,-1,-1]),(ip,[1000,-1,-1])] (by simp) ?_ ?_ ?_ h
 ·intro r hr ν hb;simp only[Aff]at hr;subst hr;have:=hb _ (Aff.2 rfl);simp only[Afz,Bo,Df,Et,Ad9,Aea,if_true]at this⊢;simp at this⊢;rcases this with h|h|h
  ·exact .inr h.1
  ·exact absurd h.1.symm aa
  ·exact absurd h.1 ab
 ·intro a ha;simp only[Aeq,Ae8,Agk]at ha;rcases ha with rfl|rfl
  ·simp[Cl,Df]
  ·simp[Cl,Df]
 ·intro D hD ac;have h1:=ac _ (Aer ..)
  have:=hD _ (Aff.2 rfl) (fun v=>if v=23 then 1000 else 1001) (fun l hl=>by
   simp only[Aff]at hl;subst hl
   simpa[Bo,Df,Et,Cl]using h1)
  simpa[Bo,Df,Et]using this
theorem zO:Cj N [Ig,Kr,Iu] [Kr,Iu]=true:=by
 unfold Cj
 rw[show Gy [Kr,Iu]=true by kernel_rfl,show (Cd [Kr,Iu]).1=0 by kernel_rfl,Rr (l:=[Ig,Kr,Iu]) (l':=[Kr,Iu]) (fun k h=>by
  unfold B8 at h⊢
  simpa[Ig,Iu,Kr]using h)]
 rfl
theorem vR {o:Option (List RItem)}(h:StR N [Ig,Kr,Iu] o):o=some [Kr,Iu]:=by
 have hb:Cj N [Ig,Kr,Iu] (rpl 0 [] [Ig,Kr,Iu])=true:=zO hp he hf;have hno:¬Vp N [Ig,Kr,Iu] 0 Ig false:=fun h=>by have:=Ab3 hp he hf h;cases this
 ·rcases h with⟨-,h⟩|⟨i,y,rfl,h1,h2,h3,h4,h5⟩
  ·exact absurd (h 0 Ig (by decide) rfl rfl hb) hno
  ·match i with
   |0=>rfl
   |i+1=>exact absurd (h5 0 Ig Agm rfl rfl hb) hno
theorem vQ {o:Option (List RItem)}(h:StR N [Kr,Iu] o):o=none:=by
 have hb:Cj N [Kr,Iu] [Iu]=false:=by
  unfold Cj;have:He N [Iu] [Kr,Iu]=true:=by
   unfold He;rw[Aeo];exact⟨N.idxOf [112],by simpa using Afd hp,by simp[B8,E6,Iu,Kr]⟩
  rw[this];simp
 ·rcases h with⟨h,-⟩|⟨i,y,rfl,h1,h2,h3,h4,h5⟩
  ·exact h
  ·match i,h1,h3 with
   |0,h1,h3=>
    have:Cj N [Kr,Iu] [Iu]=true:=h3;rw[hb]at this;cases this
   |1,h1,_=>cases h1;cases h2
   |i+2,h1,_=>simp at h1
theorem vU {l':List RItem}{m:Int}(h:GPss (St5 N) 9 [Ig,gG,Iu] 0 [97,114] l' m):l'=[Kr,Iu]/\m=2:=by
 obtain⟨l1,m1,h1,h2⟩:=h.cons _ _ rfl;obtain⟨l2,m2,h3,h4⟩:=h2.cons _ _ rfl;obtain⟨rfl,rfl⟩:=h4.nil_eq rfl;have c97:∀{l o},St5 N 97 l o->StA N l o:=fun h=>by
  rcases h with⟨h,-⟩|⟨-,h⟩|⟨h,-⟩|⟨h,-⟩|⟨h,-⟩<;>first|exact h|cases h
 have c114:∀{l o},St5 N 114 l o->StR N l o:=fun h=>by
  rcases h with⟨h,-⟩|⟨h,-⟩|⟨-,h⟩|⟨h,-⟩|⟨h,-⟩<;>first|exact h|cases h
 obtain⟨rfl,rfl⟩:=(Kn.step (m:=0) (b:=9) (by decide) (fun o h=>vT hp he hf (c97 h)) (.stop fun o h=>vS hp he hf (c97 h))).eq h1;exact (Kn.step (m:=0+1) (b:=9) (by decide) (fun o h=>vR hp he hf (c114 h)) (.stop fun o h=>vQ hp he hf (c114 h))).eq h3
end
theorem fL {r:Tx×Int×Int}(h:E4 St5 tAw [97,114] 9 r):r=([112,40,65,41,58,45,101,40,65,44,66,41,46,63,112,46],2,0):=by
 unfold E4 at h;rw[if_neg (by simp[vW]),if_neg (by decide),if_neg (by decide)]at h;obtain⟨N,l,cs,ar,l',m,hR,-,-,hP,rfl⟩:=h;have hl:=hR.items;rw[vV]at hl;subst hl;have hm:=Gq hR.bk.el Ig (by simp);obtain⟨rfl,rfl⟩:=vU (N:=N) hm.1 (hm.2 ⟨false,[101],[[65],[66]]⟩ (by simp[Ig])) (hm.2 ⟨false,[102],[[66]]⟩ (by simp[Ig])) hP;rw[zM]
section
variable {N:List Tx} (hN:∀q:Tx,q=[113]\/q=[112]\/q=[103]\/q=[104]\/q=[107]->q∈N)
theorem Ac4:¬Way (Dk [Mm,I0,Iz,Fw]) [112] [112]:=by
 have k:∀q,Dk [Mm,I0,Iz,Fw] [112] q->q=[104]\/q=[107]:=fun q ⟨x,hx,e,a,ha,e2⟩=>by
  subst e2;simp only[Aeq,Ae8,Agk]at hx;rcases hx with rfl|rfl|rfl|rfl
  ·cases e
  ·simp[I0]at ha;subst ha;exact .inl rfl
  ·simp[Iz]at ha;subst ha;exact .inr rfl
  ·cases e
 have k2:∀p q,p=[104]\/p=[107]->¬Dk [Mm,I0,Iz,Fw] p q:=fun p q hp ⟨x,hx,e,_⟩=>by
  simp only[Aeq,Ae8,Agk]at hx;rcases hx with rfl|rfl|rfl|rfl<;>rcases hp with rfl|rfl<;>cases e
 intro h;cases h with
 |one h=>rcases k _ h with h|h<;>cases h
 |more h h2=>
  cases h2 with
  |one h2=>exact k2 _ _ (k _ h) h2
  |more h2 _=>exact k2 _ _ (k _ h) h2
theorem Ac3 {l:List RItem}(hl:∀x∈l,x=Ik\/x=Ij\/x=I0\/x=Iz\/x=Fw):¬Way (Dk l) [113] [112]:=by
 have k:∀q,Dk l [113] q->q=[104]\/q=[103]\/q=[107]:=fun q ⟨x,hx,e,a,ha,e2⟩=>by
  subst e2;rcases hl x hx with rfl|rfl|rfl|rfl|rfl
  ·simp[Ik]at ha;rcases ha with rfl|rfl<;>simp
  ·simp[Ij]at ha;rcases ha with rfl|rfl<;>simp
  ·cases e
  ·cases e
  ·simp[Fw]at ha
 have k2:∀p q,p=[104]\/p=[103]\/p=[107]->¬Dk l p q:=fun p q hp ⟨x,hx,e,_⟩=>by
  rcases hl x hx with rfl|rfl|rfl|rfl|rfl<;>rcases hp with rfl|rfl|rfl<;>cases e
 intro h;cases h with
 |one h=>rcases k _ h with h|h|h<;>cases h
 |more h h2=>
  cases h2 with
  |one h2=>exact k2 _ _ (k _ h) h2
  |more h2 _=>exact k2 _ _ (k _ h) h2
include hN
theorem Acj {l:List RItem}(hl:∀x∈l,x=Mm\/x=Ik\/x=Ij\/x=I0\/x=Iz\/x=Fw):∀x∈l,x.head.pred∈N/\∀a∈x.body,a.pred∈N:=fun x hx=>by
 rcases hl x hx with rfl|rfl|rfl|rfl|rfl|rfl<;>refine⟨hN _ (by simp[Mm,Ik,Ij,I0,Iz,Fw]),fun a ha=>?_⟩<;>simp[Mm,Ik,Ij,I0,Iz,Fw]at ha
 ·rcases ha with rfl|rfl<;>exact hN _ (by simp)
 ·rcases ha with rfl|rfl<;>exact hN _ (by simp)
 ·rcases ha with rfl|rfl<;>exact hN _ (by simp)
 ·subst ha;exact hN _ (by simp)
 ·subst ha;exact hN _ (by simp)
theorem xI {o:Option (List RItem)}(h:StU N [Mm,I0,Iz,Fw] o):o=some [Ik,Ij,I0,Iz,Fw]:=by
 obtain⟨M,hM,h⟩:=h;have hp:=hN [112] (by simp);have hU:Ea N.length M N.length (N.idxOf [112]) (N.idxOf [112])=false:=by
  cases e:Ea N.length M N.length (N.idxOf [112]) (N.idxOf [112])with
  |false=>rfl
  |true=>exact absurd ((I4 (Acj hN (by simp)) hM hp hp).1 e) Ac4
 have hb:Cj N [Mm,I0,Iz,Fw] [Ik,Ij,I0,Iz,Fw]=true:=by
  unfold Cj
  rw[show Gy [Ik,Ij,I0,Iz,Fw]=true by kernel_rfl,show (Cd [Ik,Ij,I0,Iz,Fw]).1=0 by kernel_rfl,Rr fun k h=>by
   unfold B8 at h⊢
   simpa[Mm,I0,Iz,Fw,Ik,Ij]using h]
  rfl
 have hk:Py N (Ea N.length M N.length) [Mm,I0,Iz,Fw] 0 0=true:=by
  show (!false&&(!Ea N.length M N.length (N.idxOf [112]) (N.idxOf [112])&&(B8 N [Mm,I0,Iz,Fw] (N.idxOf [112])&&Cj N [Mm,I0,Iz,Fw] (rpl 0 (uL N [Mm,I0,Iz,Fw] Mm 0 [112]) [Mm,I0,Iz,Fw]))))=true;rw[hU,Acm hN,show rpl 0 [Ik,Ij] [Mm,I0,Iz,Fw]=[Ik,Ij,I0,Iz,Fw]from rfl,hb];simp[B8,Mm,I0,Iz,Fw]
 rcases h with⟨-,h⟩|⟨i,k,y,a,rfl,h1,h2,h3,h4,h5,h6⟩
 ·rw[h 0 Mm (by simp) rfl 0 (by simp[Mm])]at hk;cases hk
 ·cases i with
  |succ i=>rw[h5 0 Mm Agm rfl 0 (by simp[Mm])]at hk;cases hk
  |zero=>
   cases k with
   |succ k=>rw[h6 0 Agm]at hk;cases hk
   |zero=>
    cases h1;cases h3;show some (rpl 0 (uL N [Mm,I0,Iz,Fw] Mm 0 [112]) [Mm,I0,Iz,Fw])=_;rw[Acm hN];rfl
theorem xH {o:Option (List RItem)}(h:StU N [Ik,Ij,I0,Iz,Fw] o):o=none:=by
 obtain⟨M,hM,h⟩:=h;have hr:∀q,q=[104]\/q=[103]\/q=[107]->B8 N [Ik,Ij,I0,Iz,Fw] (N.idxOf q)=false:=fun q hq=>by
  have h1:N.idxOf [113]≠N.idxOf q:=J3 (hN _ (by simp)) (hN _ (by rcases hq with rfl|rfl|rfl<;>simp)) (by rcases hq with rfl|rfl|rfl<;>decide);have h2:N.idxOf [112]≠N.idxOf q:=J3 (hN _ (by simp)) (hN _ (by rcases hq with rfl|rfl|rfl<;>simp)) (by rcases hq with rfl|rfl|rfl<;>decide);simp[B8,Ik,Ij,I0,Iz,Fw,h1,h2]
 rcases h with⟨rfl,-⟩|⟨i,k,y,a,rfl,h1,h2,h3,h4,h5,h6⟩
 ·rfl
 ·have hy:=Adt h1;have ha:=Adt h3;unfold Py at h4;rw[h1]at h4;dsimp only at h4;rw[h3]at h4;have hq:a.pred=[104]\/a.pred=[103]\/a.pred=[107]:=by
   simp only[Aeq,Ae8,Agk]at hy;rcases hy with rfl|rfl|rfl|rfl|rfl<;>simp[Ik,Ij,I0,Iz,Fw]at ha
   ·rcases ha with rfl|rfl<;>simp
   ·rcases ha with rfl|rfl<;>simp
   ·subst ha;simp
   ·subst ha;simp
  dsimp only at h4;rw[hr _ hq]at h4;simp at h4
theorem sL {l:List RItem}{M:Nat->Nat->Bool}(hl:∀x∈l,x=Ik\/x=Ij\/x=I0\/x=Iz\/x=Fw)(h3:Fw∈l)(hM:C8 N l M):Fc N (Ea N.length M N.length) l=l.filter fun x=>decide (x.head.pred=[113]):=by
 unfold Fc;have hi:=Acj hN (l:=l) fun x hx=>.inr (hl x hx);have hU:Ea N.length M N.length (N.idxOf [113]) (N.idxOf [112])=false:=by
  cases e:Ea N.length M N.length (N.idxOf [113]) (N.idxOf [112])with
  |false=>rfl
  |true=>exact absurd ((I4 hi hM (hN _ (by simp)) (hN _ (by simp))).1 e) (Ac3 hl)
 have aa:=J3 (hN [113] (by simp)) (hN [112] (by simp)) (by decide);have hq:Ey N (Ea N.length M N.length) l (N.idxOf [113])=true:=Aeo.2 ⟨Fw,h3,by simp[Fw]⟩;have hp:Ey N (Ea N.length M N.length) l (N.idxOf [112])=false:=by
  unfold Ey;rw[Ae9];intro x hx;rcases hl x hx with rfl|rfl|rfl|rfl|rfl<;>simp[Ik,Ij,I0,Iz,Fw,hU,aa]
 refine List.filter_congr fun x hx=>?_;rcases hl x hx with rfl|rfl|rfl|rfl|rfl
 ·exact hq
 ·exact hq
 ·exact hp
 ·exact hp
 ·exact hq
theorem xS {o:Option (List RItem)}(h:StS N [Ik,Ij,I0,Iz,Fw] o):o=some [Ik,Ij,Fw]:=by
 obtain⟨M,hM,h⟩:=h;rw[sL hN (by simp) (by simp) hM,show [Ik,Ij,I0,Iz,Fw].filter (fun x=>decide (x.head.pred=[113]))=[Ik,Ij,Fw]from rfl]at h;have hb:Cj N [Ik,Ij,I0,Iz,Fw] [Ik,Ij,Fw]=true:=by
  unfold Cj;have hl:He N [Ik,Ij,Fw] [Ik,Ij,I0,Iz,Fw]=false:=by
   unfold He;rw[Ae9];intro k _ hc;simp only[Adv,Af0]at hc;have n1:∀q:Tx,q=[103]\/q=[104]\/q=[107]->N.idxOf q≠N.idxOf [112]:=fun q hq=>J3 (hN _ (by rcases hq with rfl|rfl|rfl<;>simp)) (hN _ (by simp)) (by rcases hq with rfl|rfl|rfl<;>decide);simp[B8,E6,Ik,Ij,I0,Iz,Fw]at hc;have h1:=n1 [103] (by simp);have h2:=n1 [104] (by simp);have h3:=n1 [107] (by simp);omega
  rw[show Gy [Ik,Ij,Fw]=true by kernel_rfl,show (Cd [Ik,Ij,Fw]).1=0 by kernel_rfl,hl];rfl
 rcases h with⟨h,-⟩|⟨-,⟨h,-⟩|⟨-,h⟩⟩
 ·cases h
 ·rw[hb]at h;cases h
 ·exact h
theorem xR {o:Option (List RItem)}(h:StS N [Ik,Ij,Fw] o):o=none:=by
 obtain⟨M,hM,h⟩:=h;rw[sL hN (by simp) (by simp) hM,show [Ik,Ij,Fw].filter (fun x=>decide (x.head.pred=[113]))=[Ik,Ij,Fw]from rfl]at h;rcases h with⟨-,h⟩|⟨h,-⟩
 ·exact h
 ·exact absurd rfl h
theorem rG {l':List RItem}{m:Int}(h:GPss (St5 N) 9 [Mm,I0,Iz,Fw] 0 [117,115] l' m):l'=[Ik,Ij,Fw]/\m=2:=by
 obtain⟨l1,m1,h1,h2⟩:=h.cons _ _ rfl;obtain⟨l2,m2,h3,h4⟩:=h2.cons _ _ rfl;obtain⟨rfl,rfl⟩:=h4.nil_eq rfl;have c117:∀{l o},St5 N 117 l o->StU N l o:=fun h=>by
  rcases h with⟨h,-⟩|⟨h,-⟩|⟨h,-⟩|⟨-,h⟩|⟨h,-⟩<;>first|exact h|cases h
 have c115:∀{l o},St5 N 115 l o->StS N l o:=fun h=>by
  rcases h with⟨-,h⟩|⟨h,-⟩|⟨h,-⟩|⟨h,-⟩|⟨h,-⟩<;>first|exact h|cases h
 obtain⟨rfl,rfl⟩:=(Kn.step (m:=0) (b:=9) (by decide) (fun o h=>xI hN (c117 h)) (.stop fun o h=>xH hN (c117 h))).eq h1;exact (Kn.step (m:=0+1) (b:=9) (by decide) (fun o h=>xS hN (c115 h)) (.stop fun o h=>xR hN (c115 h))).eq h3
end
def tUs:Tx:=[113,40,65,41,58,45,112,40,65,44,66,41,44,103,40,66,41,46,112,40,65,44,49,41,58,45,104,40,65,41,46,112,40,65,44,66,41,58,45,107,40,66,44,65,41,46,63,113,46]
def tLi:Tx:=[112,40,65,44,66,41,58,45,101,40,65,44,66,41,46,112,40,65,44,66,41,58,45,112,40,65,44,67,41,44,112,40,67,44,66,41,46,63,112,46]
theorem rI:(Ax tUs).1=0:=Agp
theorem rH:Cp tUs=[Mm,I0,Iz,Fw]:=Agp
theorem xF:Cg [Ik,Ij,Fw]=[113,40,65,41,58,45,104,40,65,41,44,103,40,49,41,46,113,40,65,41,58,45,107,40,66,44,65,41,44,103,40,66,41,46,63,113,46]:=Agp
theorem uD:(Ax tLi).1=0:=Agp
theorem uC:Cp tLi=[xL0,aG,Qe]:=Agp
theorem yO:Cg [xL0,qN,Qe]=[112,40,65,44,66,41,58,45,101,40,65,44,66,41,46,112,40,65,44,66,41,58,45,101,40,65,44,67,41,44,112,40,67,44,66,41,46,63,112,46]:=Agp
theorem yQ {r:Tx×Int×Int}(h:E4 St5 tUs [117,115] 9 r):r=(Cg [Ik,Ij,Fw],2,0):=by
 unfold E4 at h;rw[if_neg (by simp[rI]),if_neg (by decide),if_neg (by decide)]at h;obtain⟨N,l,cs,ar,l',m,hR,-,-,hP,rfl⟩:=h;have hl:=hR.items;rw[rH]at hl;subst hl;have h0:=Gq hR.bk.el Mm (by simp);have h1:=Gq hR.bk.el I0 (by simp);have h2:=Gq hR.bk.el Iz (by simp)
 obtain⟨rfl,rfl⟩:=rG (N:=N) (fun q hq=>by
  rcases hq with rfl|rfl|rfl|rfl|rfl
  ·exact h0.1
  ·exact h1.1
  ·exact h0.2 ⟨false,[103],[[66]]⟩ (by simp[Mm])
  ·exact h1.2 ⟨false,[104],[[65]]⟩ (by simp[I0])
  ·exact h2.2 ⟨false,[107],[[66],[65]]⟩ (by simp[Iz])) hP
 rfl
theorem Abq {r:Tx×Int×Int}(h:E4 St5 tLi [108] 1 r):r=(Cg [xL0,qN,Qe],1,0):=by
 unfold E4 at h;rw[if_neg (by simp[uD]),if_neg (by decide),if_neg (by decide)]at h;obtain⟨N,l,cs,ar,l',m,hR,-,-,hP,rfl⟩:=h;have hl:=hR.items;rw[uC]at hl;subst hl;obtain⟨l1,m1,h1,h2⟩:=hP.cons _ _ rfl;obtain⟨rfl,rfl⟩:=h2.nil_eq rfl;have c108:∀{l o},St5 N 108 l o->StL N l o:=fun h=>by
  rcases h with⟨h,-⟩|⟨h,-⟩|⟨h,-⟩|⟨h,-⟩|⟨-,h⟩<;>first|exact h|cases h
 obtain⟨rfl,rfl⟩:=(Kn.step (m:=0) (b:=1) (by decide) (fun o h=>tX (c108 h)) (.full (by decide))).eq h1;rfl
def To (x:RItem):Tx:=A0 x++[46]
theorem tA {x:RItem}(h:Bv x):Tz (To x)=x.out:=by
 unfold Tz To A0;cases ho:x.out with
 |true=>simp
 |false=>
  obtain⟨h1,h2,h3,h4⟩:=h.2.2 ho;rw[if_neg (by simp)];unfold Cv A4;obtain⟨b,r,e⟩:=Af3 h1.1.1;rw[e];have hb:=h1.1.2 b (by rw[e];simp);have:b≠63:=fun e=>by subst e;revert hb;decide
  simp[this]
theorem Ac0 {x:RItem}(h:Bv x):hdL (To x)=x.head.pred:=by
 unfold hdL To;rw[dB h];rfl
theorem Mv {l:List RItem}{f:RItem->Bool}{g:Tx->Bool}(h:∀x∈l,g (To x)=f x):(l.map To).filter g=(l.filter f).map To:=by
 induction l with
 |nil=>rfl
 |cons x l ih=>
  have h1:=h x (by simp);have h2:=ih fun y hy=>h y (by simp[hy]);rw[Ad9,Agc,Agc,h1,h2];split<;>simp
theorem Tn:∀l:List RItem,∀y∈l,(To y).length<=(Bj l).length
 |[],y,hy=>by cases hy
 |z::l,y,hy=>by
  have e:Bj (z::l)=To z++Bj l:=by simp[Bj,To]
  simp only[e,Aee];rcases Aeq.1 hy with rfl|hy
  ·omega
  ·have:=Tn l y hy;omega
theorem Ty {l:List RItem}(h:∀x∈l,Bv x):Ga (l.map To)=((l.filter (·.out)).map To).flatten:=by
 unfold Ga;congr 1;exact Mv fun x hx=>tA (h x hx)
theorem iP {x:RItem}(ho:x.out=true):To (ren x)=To x:=by
 unfold To A0;rw[if_pos (show (ren x).out=true from ho),if_pos ho];rfl
theorem Qp:∀{l:List RItem},(∀x∈l,x.out=true)->(l.map ren).map To=l.map To
 |[],_=>rfl
 |x::l,h=>by
  rw[Ad9,Ad9,Ad9,iP (h x (by simp)),Qp fun y hy=>h y (by simp[hy])]
theorem jK (l:List RItem):(l.map ren).filter (·.out)=(l.filter (·.out)).map ren:=by
 induction l with
 |nil=>rfl
 |cons x l ih=>
  rw[Ad9,Agc,Agc,ih];have:(ren x).out=x.out:=rfl;rw[this];split<;>simp
theorem dD:∀(l:List RItem) (d:List Tx),(∀x∈l,Bv x)->(Bj l).foldl qO (d,[])=(d++l.flatMap (fun x=>x.head.pred::x.body.map (·.pred)),[])
 |[],d,_=>by simp[Bj]
 |x::l,d,h=>by
  have e:Bj (x::l)=(A0 x++[46])++Bj l:=by simp[Bj]
  rw[e,Afw,mA (h x (by simp)),dD l _ fun y hy=>h y (by simp[hy])];simp
theorem lX {l:List RItem}(h:∀x∈l,Bv x){q:Tx}:q∈Vl (Bj l)↔J1 l q:=by
 unfold Vl;rw[dD l [] h];simp only[Aeu,Aev,Aeq,Aey,J1];constructor
 ·rintro⟨x,hx,rfl|⟨a,ha,rfl⟩⟩
  ·exact⟨x,hx,.inl rfl⟩
  ·exact⟨x,hx,.inr ⟨a,ha,rfl⟩⟩
 ·rintro⟨x,hx,rfl|⟨a,ha,rfl⟩⟩
  ·exact⟨x,hx,.inl rfl⟩
  ·exact⟨x,hx,.inr ⟨a,ha,rfl⟩⟩
theorem lV {l:List RItem}(h:∀x∈l,Bv x){q:Tx}:0<xV q (l.map To)↔I9 l q:=by
 unfold xV I9;rw[Mv (f:=fun x=>!x.out&&x.head.pred==q) fun x hx=>by rw[tA (h x hx),Ac0 (h x hx)],Afo,List.length_pos_iff_exists_mem];simp only[Afx,Adv,Af0,Agj]
theorem yI {l:List RItem}{q:Tx}:J1 (l.map ren) q↔J1 l q:=by
 constructor
 ·rintro⟨y,hy,h⟩;obtain⟨x,hx,rfl⟩:=Aey.1 hy;refine⟨x,hx,h.imp id fun⟨a,ha,e⟩=>?_⟩;obtain⟨b,hb,rfl⟩:=Aey.1 ha;exact⟨b,hb,e⟩
 ·rintro⟨x,hx,h⟩;exact⟨ren x,Aey.2 ⟨x,hx,rfl⟩,h.imp id fun⟨a,ha,e⟩=>⟨_,Aey.2 ⟨a,ha,rfl⟩,e⟩⟩
theorem xW {l:List RItem}{q:Tx}:I9 (l.map ren) q↔I9 l q:=by
 constructor
 ·rintro⟨y,hy,h⟩;obtain⟨x,hx,rfl⟩:=Aey.1 hy;exact⟨x,hx,h⟩
 ·rintro⟨x,hx,h⟩;exact⟨ren x,Aey.2 ⟨x,hx,rfl⟩,h⟩
theorem zP (l:List RItem):Ka (l.map ren)=Ka l:=by
 unfold Ka;rw[Ad6];congr 1;refine Ae0 fun x _=>?_;simp only[Function.comp,Ae,ren];by_cases h:x.out=true<;>simp[h]
theorem lW {x:RItem}(h:x.out=false->XR x)(ho:x.out=true->x.head.terms=[]/\x.body=[]):ren (ren x)=ren x:=by
 cases e:x.out with
 |true=>
  obtain⟨h1,h2⟩:=ho e;simp[ren,Bg,h1,h2]
 |false=>
  have hX:=h e;have hI:=hX.inO;have key:∀a∈Ae x,Bg (Au (ren x)) (Bg (Au x) a)=Bg (Au x) a:=fun a ha=>by
   unfold Bg;simp only[RAtom.mk.injEq,Agl,Ad6];refine Ae0 fun t ht=>?_;simp only[Function.comp];have hu:=hX.ut ha ht;generalize hw:Cx (Au x) t=w at hu;cases hv:Ad w with
   |false=>unfold Cx;rw[if_neg (by simp[hv])]
   |true=>
    have hm:w∈Au (ren x):=by
     rw[hX.ord];refine Aey.2 ⟨t,hX.mem ha ht ?_,hw⟩;rw[<-Gd (l:=Au x) fun hv=>hX.rng ha ht hv,hw];exact hv
    have hi:=Afd hm;have hg:=Afc hi;have hl:=hI.len;have ho:=hI.ord;unfold Cx Br;rw[if_pos hv,if_pos hm];generalize (Au (ren x)).idxOf w=i at hi hg;rw[<-hg];have:(Au (ren x))[i]?=some [Co (i:Nat)]:=by
     rw[ho,List.getElem?_map,List.getElem?_range hi];rfl
    rw[List.getElem?_eq_getElem hi]at this;simpa using this.symm
  show (⟨x.out,Bg (Au (ren x)) (Bg (Au x) x.head),(x.body.map (Bg (Au x))).map (Bg (Au (ren x)))⟩:RItem)=⟨x.out,Bg (Au x) x.head,x.body.map (Bg (Au x))⟩;rw[key _ (Ak (.inl ⟨e,rfl⟩)),Ad6];congr 1;exact Ae0 fun a ha=>key a (Ak (.inr ha))
structure FcA (t ps T:Tx)(b m:Int):Prop where
 lt:t.length<=600
 lT:T.length<=600
 chk:Ax T=(0,0)
 prt:cQ T=(T,0)
 few:(Gf t).length<=16/\(Gf T).length<=16
 sh:∀p∈Gf T,p.length<=100000/\(Vl p).length<=1000
 sht:∀p∈Gf t,p.length<=100000/\(Vl p).length<=1000
 out:Ga (Gf T)=Ga (Gf t)
 rng:0<=m/\m<=b
 same:m=0->(Gf t).length=(Gf T).length/\∀(i:Nat) (p q:Tx),(Gf t)[i]?=some p->(Gf T)[i]?=some q->RnT p q
 les:117∈ps\/(108∈ps/\T.count 40<=t.count 40)\/(108∉ps/\((T.count 40:Nat):Int)+m<=((t.count 40:Nat):Int))
 fac:∀q∈Vl T,q∈Vl t/\(0<xV q (Gf t)↔0<xV q (Gf T))
theorem sY {N:List Tx}{ar:Tx->Nat}{l:List RItem}(hw:∀x∈l,Bv x)(h5:∀x∈l,x.body.length<=5)(hl:(Bj l).length<=600):∀p∈l.map To,p.length<=100000/\(Vl p).length<=1000:=fun p hp=>by
 obtain⟨y,hy,rfl⟩:=Aey.1 hp;have aa:=Tn _ y hy;refine⟨Agm,?_⟩;unfold To;rw[dB (hw y hy)];have:=h5 y hy;simp;omega
theorem oY {t ps:Tx}{b:Int}{r:Tx×Int×Int}(h:E4 St5 t ps b r):(r.1=[]/\r.2.1=0/\r.2.2≠0/\r.2.2=if (Ax t).1≠0 then (Ax t).1 else if Ct ps=false then 11 else 6)/\((Ax t).1≠0\/Ct ps=false\/b<0)\/((Ax t).1=0/\Ct ps=true/\0<=b/\r.2.2=0/\FcA t ps r.1 b r.2.1):=by
 unfold E4 at h;split at h
 ·rename_i he;exact .inl ⟨by rw[h];exact⟨rfl,rfl,he,by rw[if_pos he]⟩,.inl he⟩
 rename_i he;split at h
 ·rename_i hp;exact .inl ⟨by rw[h];exact⟨rfl,rfl,by decide,by rw[if_neg he,if_pos hp]⟩,.inr (.inl hp)⟩
 rename_i hp;split at h
 ·rename_i hb;exact .inl ⟨by rw[h];exact⟨rfl,rfl,by decide,by rw[if_neg he,if_neg hp]⟩,.inr (.inr hb)⟩
 rename_i hb;obtain⟨N,l,cs,ar,l',m,hR,hA,aa,hP,rfl⟩:=h;have hp:Ct ps=true:=by simpa using hp
 refine .inr ⟨Classical.not_not.1 he,hp,Agm,rfl,?_⟩;have ad:=Iq _ _ _ _ hR.parse;have ht:t=Bj l:=ad.1;have ak:=hR.len;have ap:=hR.rt hA;have aj:=ps5 hp N ar;have am:Gy l=true:=by
  unfold Gy;simp only[Adv,Agi,Ads];exact⟨hR.bk.len,ap.b5,by rw[<-ht];exact ak⟩
 have au:Bhd N ar l l:=⟨ap,am,cO hR,rfl⟩;have hB:=au.pss hP aj;have hN:=(Nms.refl l).pss au hP aj;have ao:=Xy _ _ _ _ hR.parse;have ay:∀x∈l',zW x:=Ada aa fun x hx=>by
  have key:∀q,J1 l' q->GNm q:=fun q hq=>by
   obtain⟨y,hy,h⟩:=hN.nmd q hq;rcases h with rfl|⟨a,ha,rfl⟩
   ·exact (ao y hy).nm
   ·cases ho:y.out with
    |true=>rw[((ao y hy).out ho).2.2]at ha;cases ha
    |false=>exact (((ao y hy).rule ho).2.2.2 a ha).nm
  exact⟨key _ ⟨x,hx,.inl rfl⟩,fun a ha=>key _ ⟨x,hx,.inr ⟨a,ha,rfl⟩⟩⟩
 obtain⟨ah,an⟩:=Ab4 aa hB.wr hB.lim ay;have ae:Gf t=l.map To:=by rw[ht];exact W7 hR.wit
 have hu:=Il aa.wit;have ab:∀y∈l'.map ren,Bv y:=fun y hy=>by
  obtain⟨z,hz,rfl⟩:=Aey.1 hy;exact Ja (aa.wit z hz) (aa.wi z hz)
 have af:Gf (Cg l')=(l'.map ren).map To:=by rw[hu];exact W7 ab
 have av:(Cg l').length<=600:=by
  rw[hu];have h1:=Pm l' aa.wit;have h2:=hB.lim;unfold Gy at h2;simp only[Adv,Agi]at h2;omega
 have ac:=hP.num;have aw:=oI au hP aj;have az:t.count 40=Ka l:=by rw[ht];exact Ze hR.wit
 have a0:(Cg l').count 40=Ka l':=by rw[hu,Ze ab,zP]
 refine⟨ak,av,ah,?_,⟨by rw[ae,Afo];exact hR.bk.len,by simp only;rw[af];simpa using aa.gl.len⟩,?_,?_,?_,⟨ac.1,ac.2.1 Agm⟩,fun hm=>?_,?_,fun q hq=>?_⟩
 ·unfold cQ;rw[ah,if_pos rfl,an];simp only;rw[Il ab,Il aa.wit,Ad6];congr 2;exact Ae0 fun x hx=>lW (fun ho=>aa.xr hx ho) fun ho=>((aa.wit x hx).2.1 ho).2
 ·simp only;rw[af];refine sY (N:=N) (ar:=ar) ab (fun y hy=>?_) (by rw[<-hu];exact av);obtain⟨x,hx,rfl⟩:=Aey.1 hy;simpa[ren]using aa.b5 x hx
 ·rw[ae];exact sY (N:=N) (ar:=ar) hR.wit ap.b5 (by rw[<-ht];exact ak)
 ·simp only;rw[af,ae,Ty ab,Ty hR.wit,jK,Qp fun x hx=>by simpa using (Afx.1 hx).2,hB.out]
 ·have ax:=ac.2.2 hm;subst ax;simp only;rw[ae,af];refine⟨by simp,fun i p q hp hq=>?_⟩;simp only[List.getElem?_map,Agd]at hp hq;obtain⟨x,hx,rfl⟩:=hp;obtain⟨y,⟨z,hz,rfl⟩,rfl⟩:=hq;rw[hx]at hz;cases hz;have ai:=Adt hx;refine Abe (hR.wit x ai) (fun a ha=>((aa.gl.msr x ai).at_ a ha).2.2) (by have:=Aao (hR.wit x ai);omega) ?_;have:=Tn l' x ai;rw[<-ht]at this;unfold To at this;omega
 ·simp only;rw[az,a0];by_cases h1:(117:UInt8)∈ps
  ·exact .inl h1
  ·by_cases h2:(108:UInt8)∈ps
   ·exact .inr (.inl ⟨h2,aw.1 h1⟩)
   ·exact .inr (.inr ⟨h2,by have:=aw.2 h1 h2;omega⟩)
 ·simp only at hq⊢;rw[af,ae];rw[hu,lX ab,yI]at hq;rw[ht,lX hR.wit,lV hR.wit,lV ab,xW];exact⟨hN.nmd q hq,fun h=>hN.lck q hq h,fun h=>hN.rld q h⟩
theorem Vn (t:Tx)(E:St):ACalls Tryz.prog 16 [str t,str [],sc (.int .i64 0),sc (.int .i64 (Ax t).1)] E fun r E'=>r=sc (.bool true)/\Keep E E':=by
 have hC:=fun E=>jW t E;generalize Ax t=r at*
 obtain⟨e,pl⟩:=r;have he:(([]:Tx)==[])=true:=rfl;have ad:(e==e)=true:=by simp
 have ae:({data:=#[]}:ByteArray)=bs []:=rfl;simp only at*
 refine Z9 27 [.tmp 8] Tryz.func16 ?_
 repeat' (first|refine Z1 ?_|(refine Z8 ?_;intro κ hκ)|(refine Z4 ?_;clear hκ κ)|(refine Z2 ?_ ?_<;>intro h ac<;>try exact Xp)|(refine Z5 ?_;refine Xi (hC _) ?_;rintro _ _ ⟨rfl,aa⟩;(have ab:=aa.nobj))|refine Z3 ?_|exact⟨⟩|(apply hκ.out;clear hκ κ))
 first|exact⟨_,rfl,rfl,aa⟩|exact⟨_,rfl,aa⟩|exact⟨_,rfl,rfl⟩
theorem eL (E:St):ACalls Tryz.prog 12 [] E fun r E'=>r=sc (.bool true)/\Keep E E':=by
 have hO:=fun E=>Hq tAw [97,114] 9 Agm E;have ai:({data:=#[112,40,65,41,58,45,101,40,65,44,66,41,44,102,40,66,41,46,112,40,88,41,58,45,101,40,88,44,89,41,44,101,40,88,44,90,41,46,63,112,46]}:ByteArray)=bs tAw:=rfl;have ah:({data:=#[97,114]}:ByteArray)=bs [97,114]:=rfl;have af:({data:=#[112,40,65,41,58,45,101,40,65,44,66,41,46,63,112,46]}:ByteArray)=bs [112,40,65,41,58,45,101,40,65,44,66,41,46,63,112,46]:=rfl;have ae:(([112,40,65,41,58,45,101,40,65,44,66,41,46,63,112,46]:Tx)==[112,40,65,41,58,45,101,40,65,44,66,41,46,63,112,46])=true:=rfl;refine Z9 19 [.tmp 0] Tryz.func12 ?_
 repeat' (first|refine Z1 ?_|(refine Z8 ?_;intro κ hκ)|(refine Z4 ?_;clear hκ κ)|(refine Z2 ?_ ?_<;>intro h ad<;>try exact Xp)|(refine Z5 ?_;refine Xi (hO _) ?_;rintro _ _ ⟨p0,rfl,ab,aa⟩;(have e0:=fL ab;subst e0;clear ab;have ac:=aa.nobj))|refine Z3 ?_|exact⟨⟩|(apply hκ.out;clear hκ κ))
 first|exact⟨_,rfl,rfl,aa⟩|exact⟨_,rfl,aa⟩|exact⟨_,rfl,rfl⟩
theorem jC (E:St):ACalls Tryz.prog 13 [] E fun r E'=>r=sc (.bool true)/\Keep E E':=by
 have hO:=fun E=>Hq tUs [117,115] 9 Agm E;have hP:=fun E=>Hq tLi [108] 1 Agm E;have av:({data:=#[113,40,65,41,58,45,112,40,65,44,66,41,44,103,40,66,41,46,112,40,65,44,49,41,58,45,104,40,65,41,46,112,40,65,44,66,41,58,45,107,40,66,44,65,41,46,63,113,46]}:ByteArray)=bs tUs:=rfl;have au:({data:=#[117,115]}:ByteArray)=bs [117,115]:=rfl;have ap:({data:=#[113,40,65,41,58,45,104,40,65,41,44,103,40,49,41,46,113,40,65,41,58,45,107,40,66,44,65,41,44,103,40,66,41,46,63,113,46]}:ByteArray)=bs (Cg [Ik,Ij,Fw]):=by rw[xF];rfl
 have ao:({data:=#[112,40,65,44,66,41,58,45,101,40,65,44,66,41,46,112,40,65,44,66,41,58,45,112,40,65,44,67,41,44,112,40,67,44,66,41,46,63,112,46]}:ByteArray)=bs tLi:=rfl;have an:({data:=#[108]}:ByteArray)=bs [108]:=rfl;have am:({data:=#[112,40,65,44,66,41,58,45,101,40,65,44,66,41,46,112,40,65,44,66,41,58,45,101,40,65,44,67,41,44,112,40,67,44,66,41,46,63,112,46]}:ByteArray)=bs (Cg [xL0,qN,Qe]):=by rw[yO];rfl
 have ak:(Cg [Ik,Ij,Fw] !=Cg [Ik,Ij,Fw])=false:=by simp
 have aj:(Cg [xL0,qN,Qe]==Cg [xL0,qN,Qe])=true:=by simp
 have HU:Agt _:=@yQ;have HL:Agt _:=@Abq;generalize Cg [Ik,Ij,Fw]=w1 at*
 generalize Cg [xL0,qN,Qe]=w2 at*
 refine Z9 37 [.tmp 0] Tryz.func13 ?_
 repeat' (first|refine Z1 ?_|(refine Z8 ?_;intro κ hκ)|(refine Z4 ?_;clear hκ κ)|(refine Z2 ?_ ?_<;>intro h ai<;>try exact Xp)|(refine Z5 ?_;first|(refine Xi (hO _) ?_;rintro _ _ ⟨p0,rfl,ab,ae⟩;(have e0:=HU.out ab;subst e0;clear ab;have ah:=ae.nobj))|(refine Xi (hP _) ?_;rintro _ _ ⟨p1,rfl,aa,ad⟩;(have e1:=HL.out aa;subst e1;clear aa;have af:=ad.nobj)))|refine Z3 ?_|exact⟨⟩|(apply hκ.out;clear hκ κ))
 have ac:=ae.trans ad
 first|exact⟨_,rfl,rfl,ac⟩|exact⟨_,rfl,ac⟩|exact⟨_,rfl,rfl⟩
end Go.Proofs.YtmoeoppbmhfbpabGreatDoorG
