import Derived.Test.YtmoeoppbmhfbpabGreatDoorHFceC
import Derived.KernelRfl
import Derived.Test.YtmoeoppbmhfbpabGreatDoorHTxtK
import Derived.Test.YtmoeoppbmhfbpabGreatDoorHRerA
set_option linter.all false
namespace Go.Proofs.YtmoeoppbmhfbpabGreatDoorH
open Go.Abs
set_option maxRecDepth 100000
inductive Kn (T:List RItem->Option (List RItem)->Prop)(b:Int):Int->List RItem->List RItem->Int->Prop where
 |full {m:Int} {l:List RItem}:b<=m->Kn T b m l l m
 |stop {m:Int} {l:List RItem}:(∀o,T l o->o=none)->Kn T b m l l m
 |step {m m':Int} {l l1 l':List RItem}:m<b->(∀o,T l o->o=some l1)->Kn T b (m+1) l1 l' m'->Kn T b m l l' m'
theorem GChg.head {T:List RItem->Option (List RItem)->Prop}{b m m2:Int}{l l2:List RItem}(h:GChg T b l m l2 m2):(l2=l/\m2=m)\/(m<b/\∃l1,T l (some l1)/\GChg T b l1 (m+1) l2 m2):=by
 induction h with
 |refl=>exact .inl ⟨rfl,rfl⟩
 |snoc _ hb hs ih=>
  rcases ih with⟨rfl,rfl⟩|⟨h1,l1,h2,h3⟩
  ·exact .inr ⟨hb,_,hs,.refl⟩
  ·exact .inr ⟨h1,l1,h2,.snoc h3 hb hs⟩
theorem Kn.eq {T:List RItem->Option (List RItem)->Prop}{b m m' m2:Int}{l l' l2:List RItem}(hk:Kn T b m l l' m')(h:lF T b l m l2 m2):l2=l'/\m2=m':=by
 obtain⟨hc,he⟩:=h;induction hk with
 |full hb=>
  rcases hc.head with h|⟨h,-⟩
  ·exact h
  ·omega
 |stop hn=>
  rcases hc.head with h|⟨-,l1,h,-⟩
  ·exact h
  ·cases hn _ h
 |step hb hn _ ih=>
  rcases hc.head with⟨rfl,rfl⟩|⟨-,l1,h,hc⟩
  ·rcases he with he|he
   ·omega
   ·cases hn _ he
  ·cases hn _ h;exact ih hc
theorem GPss.nil_eq {T:UInt8->List RItem->Option (List RItem)->Prop}{b m m2:Int}{l l2:List RItem}{ps:Tx}(h:GPss T b l m ps l2 m2)(e:ps=[]):l2=l/\m2=m:=by
 induction h with
 |nil=>exact⟨rfl,rfl⟩
 |snoc _ _ _=>simp at e
theorem GPss.cons {T:UInt8->List RItem->Option (List RItem)->Prop}{b m m2:Int}{l l2:List RItem}{ps:Tx}(h:GPss T b l m ps l2 m2):∀c qs,ps=c::qs->∃l1 m1,lF (T c) b l m l1 m1/\GPss T b l1 m1 qs l2 m2:=by
 induction h with
 |nil=>intro c qs e;cases e
 |@snoc ps c' l1 l2 m1 m2 h1 h2 ih=>
  intro c qs e;cases ps with
  |nil=>
   simp only[Aci,List.cons.injEq]at e;obtain⟨rfl,rfl⟩:=e;obtain⟨rfl,rfl⟩:=h1.nil_eq rfl;exact⟨l2,m2,h2,.nil⟩
  |cons a r=>
   simp only[Acg,List.cons.injEq]at e;obtain⟨rfl,rfl⟩:=e;obtain⟨l3,m3,g1,g2⟩:=ih a r rfl;exact⟨l3,m3,g1,.snoc g2 h2⟩
def tAw:Tx:=[112,40,65,41,58,45,101,40,65,44,66,41,44,102,40,66,41,46,112,40,88,41,58,45,101,40,88,44,89,41,44,101,40,88,44,90,41,46,63,112,46]
def Hz:RItem:=⟨false,⟨false,[112],[[65]]⟩,[⟨false,[101],[[65],[66]]⟩,⟨false,[102],[[66]]⟩]⟩
def eM:RItem:=⟨false,⟨false,[112],[[88]]⟩,[⟨false,[101],[[88],[89]]⟩,⟨false,[101],[[88],[90]]⟩]⟩
def Ic:RItem:=⟨true,⟨false,[112],[]⟩,[]⟩
def J2:RItem:=⟨false,⟨false,[112],[[88]]⟩,[⟨false,[101],[[88],[90]]⟩]⟩
theorem tD:(Au tAw).1=0:=Ad5
theorem tC:Cj tAw=[Hz,eM,Ic]:=Ad5
theorem wL:B8 [J2,Ic]=[112,40,65,41,58,45,101,40,65,44,66,41,46,63,112,46]:=Ad5
theorem Oo {N:List Tx}{x:RItem}{k:Nat}(h:Eb (Gx x k)=false):mC N x k=none:=by
 unfold mC;cases hw:Cp J3 (x.head.terms.map Ap) (x.head.terms.map Ap)with
 |none=>rfl
 |some s0=>simp[Ig,h]
theorem Jh {N:List Tx}{p q:Tx}(hp:p∈N)(hq:q∈N)(h:p≠q):N.idxOf p≠N.idxOf q:=fun e=>h (by
 have h1:=Ac0 (Ac1 hp);have h2:=Ac0 (Ac1 hq);rw[<-h1,<-h2]
 congr 1)
theorem mL {R:List D2}{F:List C3}{k:Nat}{h:Ca}{b:Bool}(A:List (Nat×Ca))(hA:A.length<=200)(aa:zX R (fun j t=>(j,t)∈A))(hF:∀a∈F,(a.p.toNat,Cq a)∈A)(hL:LstF R F k h)(hp:oL R F k h b):b=true:=by
 obtain⟨M,hn,hs,hp⟩:=hp;have ht:tot M<=A.length:=yI (e:=fun x=>x) hn fun j t hm=>⟨(j,t),hs j t hm _ aa hF,rfl⟩;rw[if_pos Ad2]at hp;exact hp.2.2 (hp.1 _ _ hL)
section
variable {N:List Tx} (hp:[112]∈N) (he:[101]∈N) (hf:[102]∈N)
theorem kZ (hne:N.idxOf [102]≠N.idxOf [101]):mC N Hz 1=none:=by
 have e1:Ap [65]=(true,0):=rfl;have e2:Ap [66]=(true,1):=rfl;have hs:Eb (Gx Hz 1)=true:=Ad5;simp only[Hz]at hs;unfold mC;simp only[Hz,Abx,Aby,e1,Cp,Fx,J3,Ig,hs,if_true,List.eraseIdx,Jz,e2];generalize N.idxOf [101]=n at*
 generalize N.idxOf [102]=n' at*
 simp[Kj,Cp,Fx,hne]
theorem wM:(mC N eM 0).isSome=true:=by
 have e1:Ap [88]=(true,23):=rfl;have e2:Ap [89]=(true,24):=rfl;have e3:Ap [90]=(true,25):=rfl;have hs:Eb (Gx eM 0)=true:=Ad5;simp only[eM]at hs;unfold mC;simp only[eM,Abx,Aby,e1,Cp,Fx,J3,Ig,hs,if_true,List.eraseIdx,Jz,e2,e3];generalize N.idxOf [101]=n at*
 simp[Kj,Cp,Fx]
include hp he hf
theorem sZ {o:Option (List RItem)}(h:StA N [Hz,eM,Ic] o):o=some [Hz,J2,Ic]:=by
 have hne:=Jh hf he (by decide);have k00:Qo N [Hz,eM,Ic] 0 0=false:=by
  unfold Qo;simp only[List.getElem?_cons_zero,Oo (N:=N) (x:=Hz) (k:=0) Ad5,Adv,Adn]
 have k01:Qo N [Hz,eM,Ic] 0 1=false:=by
  unfold Qo;simp only[List.getElem?_cons_zero,kZ hne,Adv,Adn]
 have k10:Qo N [Hz,eM,Ic] 1 0=true:=by
  show ((mC N eM 0).isSome&&Cr N [Hz,eM,Ic] [Hz,J2,Ic])=true;rw[wM];unfold Cr
  rw[show Gr [Hz,J2,Ic]=true by kernel_rfl,show (Ci [Hz,J2,Ic]).1=0 by kernel_rfl,Qr (l:=[Hz,eM,Ic]) (l':=[Hz,J2,Ic]) (fun k h=>by
   unfold Cd at h⊢
   simpa[Hz,eM,Ic,J2]using h)]
  rfl
 ·rcases h with⟨-,h⟩|⟨i,k,y,rfl,h1,h2,h3,h4,h5,h6⟩
  ·rw[h 1 eM (by decide) rfl 0 (by decide)]at k10;cases k10
  ·match i,h1 with
   |0,h1=>
    cases h1
    match k,h3 with
    |0,_=>rw[k00]at h4;cases h4
    |1,_=>rw[k01]at h4;cases h4
    |k+2,h3=>simp[Hz]at h3;omega
   |1,h1=>
    cases h1
    match k with
    |0=>rfl
    |k+1=>rw[h6 0 Ad2]at k10;cases k10
   |2,h1=>cases h1;cases h2
   |i+3,h1=>simp at h1
theorem sY {o:Option (List RItem)}(h:StA N [Hz,J2,Ic] o):o=none:=by
 have hne:=Jh hf he (by decide);have k00:Qo N [Hz,J2,Ic] 0 0=false:=by
  unfold Qo;simp only[List.getElem?_cons_zero,Oo (N:=N) (x:=Hz) (k:=0) Ad5,Adv,Adn]
 have k01:Qo N [Hz,J2,Ic] 0 1=false:=by
  unfold Qo;simp only[List.getElem?_cons_zero,kZ hne,Adv,Adn]
 have k10:Qo N [Hz,J2,Ic] 1 0=false:=by
  unfold Qo;simp only[List.getElem?_cons_succ,List.getElem?_cons_zero,Oo (N:=N) (x:=J2) (k:=0) Ad5,Adv,Adn]
 ·rcases h with⟨h,-⟩|⟨i,k,y,rfl,h1,h2,h3,h4,h5,h6⟩
  ·exact h
  ·match i,h1 with
   |0,h1=>
    cases h1
    match k,h3 with
    |0,_=>rw[k00]at h4;cases h4
    |1,_=>rw[k01]at h4;cases h4
    |k+2,h3=>simp[Hz]at h3;omega
   |1,h1=>
    cases h1
    match k,h3 with
    |0,_=>rw[k10]at h4;cases h4
    |k+1,h3=>simp[J2]at h3
   |2,h1=>cases h1;cases h2
   |i+3,h1=>simp at h1
theorem zL {b:Bool}(h:cX N [Hz,J2,Ic] 0 Hz b):b=true:=by
 have ab:=Jh he hp (by decide);have aa:=Jh hf he (by decide);have ad:=Jh hf hp (by decide);have e65:Ap [65]=(true,0):=rfl;have e66:Ap [66]=(true,1):=rfl;have e88:Ap [88]=(true,23):=rfl;have e90:Ap [90]=(true,25):=rfl;unfold cX at h;have ho:oth [Hz,J2,Ic] 0 [Hz,J2,Ic].length=[J2]:=rfl;rw[ho]at h;have hR:([J2].map (H0 N))=[⟨⟨(N.idxOf [112]:Nat),[(true,23)]⟩,[⟨false,⟨(N.idxOf [101]:Nat),[(true,23),(true,25)]⟩⟩]⟩]:=rfl;have hF:Qe N Hz=[⟨(N.idxOf [101]:Nat),[(false,1000),(false,1001)]⟩,⟨(N.idxOf [102]:Nat),[(false,1001)]⟩]:=rfl;have hH:Cq (Ho (H0 N Hz).head)=[1000,-1,-1]:=rfl;have hk:(H0 N Hz).head.p.toNat=N.idxOf [112]:=rfl;rw[hR,hF,hH,hk]at h;generalize N.idxOf [112]=ip at*
 generalize N.idxOf [101]=ie at*
 generalize N.idxOf [102]=i2 at*
 refine mL [(ie,[1000,1001,-1]),(i2,[1001,-1,-1]),(ip,[1000,-1,-1])] (by simp) ?_ ?_ ?_ h
 ·intro r hr ν hb;simp only[Ac3]at hr;subst hr;have:=hb _ (Ac3.2 rfl);simp only[Adk,Bq,D7,He,Abx,Aby,if_true]at this⊢;simp at this⊢;rcases this with h|h|h
  ·exact .inr h.1
  ·exact absurd h.1.symm aa
  ·exact absurd h.1 ab
 ·intro a ha;simp only[Ace,Acx,Adz]at ha;rcases ha with rfl|rfl
  ·simp[Cq,D7]
  ·simp[Cq,D7]
 ·intro D hD ac;have h1:=ac _ (Acf ..)
  have:=hD _ (Ac3.2 rfl) (fun v=>if v=23 then 1000 else 1001) (fun l hl=>by
   simp only[Ac3]at hl;subst hl
   simpa[Bq,D7,He,Cq]using h1)
  simpa[Bq,D7,He]using this
theorem wN:Cr N [Hz,J2,Ic] [J2,Ic]=true:=by
 unfold Cr
 rw[show Gr [J2,Ic]=true by kernel_rfl,show (Ci [J2,Ic]).1=0 by kernel_rfl,Qr (l:=[Hz,J2,Ic]) (l':=[J2,Ic]) (fun k h=>by
  unfold Cd at h⊢
  simpa[Hz,Ic,J2]using h)]
 rfl
theorem sX {o:Option (List RItem)}(h:StR N [Hz,J2,Ic] o):o=some [J2,Ic]:=by
 have hb:Cr N [Hz,J2,Ic] (Ct 0 [] [Hz,J2,Ic])=true:=wN hp he hf;have aa:¬cX N [Hz,J2,Ic] 0 Hz false:=fun h=>by have:=zL hp he hf h;cases this
 ·rcases h with⟨-,h⟩|⟨i,y,rfl,h1,h2,h3,h4,h5⟩
  ·exact absurd (h 0 Hz (by decide) rfl rfl hb) aa
  ·match i with
   |0=>rfl
   |i+1=>exact absurd (h5 0 Hz Ad2 rfl rfl hb) aa
theorem sW {o:Option (List RItem)}(h:StR N [J2,Ic] o):o=none:=by
 have hb:Cr N [J2,Ic] [Ic]=false:=by
  unfold Cr;have:Hm N [Ic] [J2,Ic]=true:=by
   unfold Hm;rw[Acb];exact⟨N.idxOf [112],by simpa using Ac1 hp,by simp[Cd,E6,Ic,J2]⟩
  rw[this];simp
 ·rcases h with⟨h,-⟩|⟨i,y,rfl,h1,h2,h3,h4,h5⟩
  ·exact h
  ·match i,h1,h3 with
   |0,h1,h3=>
    have:Cr N [J2,Ic] [Ic]=true:=h3;rw[hb]at this;cases this
   |1,h1,_=>cases h1;cases h2
   |i+2,h1,_=>simp at h1
theorem tA {l':List RItem}{m:Int}(h:GPss (St5 N) 9 [Hz,eM,Ic] 0 [97,114] l' m):l'=[J2,Ic]/\m=2:=by
 obtain⟨l1,m1,h1,h2⟩:=h.cons _ _ rfl;obtain⟨l2,m2,h3,h4⟩:=h2.cons _ _ rfl;obtain⟨rfl,rfl⟩:=h4.nil_eq rfl;have c97:∀{l o},St5 N 97 l o->StA N l o:=fun h=>by
  rcases h with⟨h,-⟩|⟨-,h⟩|⟨h,-⟩|⟨h,-⟩|⟨h,-⟩<;>first|exact h|cases h
 have c114:∀{l o},St5 N 114 l o->StR N l o:=fun h=>by
  rcases h with⟨h,-⟩|⟨h,-⟩|⟨-,h⟩|⟨h,-⟩|⟨h,-⟩<;>first|exact h|cases h
 obtain⟨rfl,rfl⟩:=(Kn.step (m:=0) (b:=9) (by decide) (fun o h=>sZ hp he hf (c97 h)) (.stop fun o h=>sY hp he hf (c97 h))).eq h1;exact (Kn.step (m:=0+1) (b:=9) (by decide) (fun o h=>sX hp he hf (c114 h)) (.stop fun o h=>sW hp he hf (c114 h))).eq h3
end
theorem dR {r:Tx×Int×Int}(h:F0 St5 tAw [97,114] 9 r):r=([112,40,65,41,58,45,101,40,65,44,66,41,46,63,112,46],2,0):=by
 unfold F0 at h;rw[if_neg (by simp[tD]),if_neg (by decide),if_neg (by decide)]at h;obtain⟨N,l,cs,ar,l',m,hR,-,-,hP,rfl⟩:=h;have hl:=hR.items;rw[tC]at hl;subst hl;have hm:=Ga hR.bk.el Hz (by simp);obtain⟨rfl,rfl⟩:=tA (N:=N) hm.1 (hm.2 ⟨false,[101],[[65],[66]]⟩ (by simp[Hz])) (hm.2 ⟨false,[102],[[66]]⟩ (by simp[Hz])) hP;rw[wL]
section
variable {N:List Tx} (hN:∀q:Tx,q=[113]\/q=[112]\/q=[103]\/q=[104]\/q=[107]->q∈N)
theorem Aav:¬Way (Eu [Lv,Il,Ik,Fi]) [112] [112]:=by
 have k:∀q,Eu [Lv,Il,Ik,Fi] [112] q->q=[104]\/q=[107]:=fun q ⟨x,hx,e,a,ha,e2⟩=>by
  subst e2;simp only[Ace,Acx,Adz]at hx;rcases hx with rfl|rfl|rfl|rfl
  ·cases e
  ·simp[Il]at ha;subst ha;exact .inl rfl
  ·simp[Ik]at ha;subst ha;exact .inr rfl
  ·cases e
 have k2:∀p q,p=[104]\/p=[107]->¬Eu [Lv,Il,Ik,Fi] p q:=fun p q hp ⟨x,hx,e,_⟩=>by
  simp only[Ace,Acx,Adz]at hx;rcases hx with rfl|rfl|rfl|rfl<;>rcases hp with rfl|rfl<;>cases e
 intro h;cases h with
 |one h=>rcases k _ h with h|h<;>cases h
 |more h h2=>
  cases h2 with
  |one h2=>exact k2 _ _ (k _ h) h2
  |more h2 _=>exact k2 _ _ (k _ h) h2
theorem Aau {l:List RItem}(hl:∀x∈l,x=H4\/x=H3\/x=Il\/x=Ik\/x=Fi):¬Way (Eu l) [113] [112]:=by
 have k:∀q,Eu l [113] q->q=[104]\/q=[103]\/q=[107]:=fun q ⟨x,hx,e,a,ha,e2⟩=>by
  subst e2;rcases hl x hx with rfl|rfl|rfl|rfl|rfl
  ·simp[H4]at ha;rcases ha with rfl|rfl<;>simp
  ·simp[H3]at ha;rcases ha with rfl|rfl<;>simp
  ·cases e
  ·cases e
  ·simp[Fi]at ha
 have k2:∀p q,p=[104]\/p=[103]\/p=[107]->¬Eu l p q:=fun p q hp ⟨x,hx,e,_⟩=>by
  rcases hl x hx with rfl|rfl|rfl|rfl|rfl<;>rcases hp with rfl|rfl|rfl<;>cases e
 intro h;cases h with
 |one h=>rcases k _ h with h|h|h<;>cases h
 |more h h2=>
  cases h2 with
  |one h2=>exact k2 _ _ (k _ h) h2
  |more h2 _=>exact k2 _ _ (k _ h) h2
include hN
theorem Aai {l:List RItem}(hl:∀x∈l,x=Lv\/x=H4\/x=H3\/x=Il\/x=Ik\/x=Fi):∀x∈l,x.head.pred∈N/\∀a∈x.body,a.pred∈N:=fun x hx=>by
 rcases hl x hx with rfl|rfl|rfl|rfl|rfl|rfl<;>refine⟨hN _ (by simp[Lv,H4,H3,Il,Ik,Fi]),fun a ha=>?_⟩<;>simp[Lv,H4,H3,Il,Ik,Fi]at ha
 ·rcases ha with rfl|rfl<;>exact hN _ (by simp)
 ·rcases ha with rfl|rfl<;>exact hN _ (by simp)
 ·rcases ha with rfl|rfl<;>exact hN _ (by simp)
 ·subst ha;exact hN _ (by simp)
 ·subst ha;exact hN _ (by simp)
theorem uK {o:Option (List RItem)}(h:StU N [Lv,Il,Ik,Fi] o):o=some [H4,H3,Il,Ik,Fi]:=by
 obtain⟨M,hM,h⟩:=h;have hp:=hN [112] (by simp);have hU:Fb N.length M N.length (N.idxOf [112]) (N.idxOf [112])=false:=by
  cases e:Fb N.length M N.length (N.idxOf [112]) (N.idxOf [112])with
  |false=>rfl
  |true=>exact absurd ((Y8 (Aai hN (by simp)) hM hp hp).1 e) Aav
 have hb:Cr N [Lv,Il,Ik,Fi] [H4,H3,Il,Ik,Fi]=true:=by
  unfold Cr
  rw[show Gr [H4,H3,Il,Ik,Fi]=true by kernel_rfl,show (Ci [H4,H3,Il,Ik,Fi]).1=0 by kernel_rfl,Qr fun k h=>by
   unfold Cd at h⊢
   simpa[Lv,Il,Ik,Fi,H4,H3]using h]
  rfl
 have hk:Wi N (Fb N.length M N.length) [Lv,Il,Ik,Fi] 0 0=true:=by
  show (!false&&(!Fb N.length M N.length (N.idxOf [112]) (N.idxOf [112])&&(Cd N [Lv,Il,Ik,Fi] (N.idxOf [112])&&Cr N [Lv,Il,Ik,Fi] (Ct 0 (uL N [Lv,Il,Ik,Fi] Lv 0 [112]) [Lv,Il,Ik,Fi]))))=true;rw[hU,Aal hN,show Ct 0 [H4,H3] [Lv,Il,Ik,Fi]=[H4,H3,Il,Ik,Fi]from rfl,hb];simp[Cd,Lv,Il,Ik,Fi]
 rcases h with⟨-,h⟩|⟨i,k,y,a,rfl,h1,h2,h3,h4,h5,h6⟩
 ·rw[h 0 Lv (by simp) rfl 0 (by simp[Lv])]at hk;cases hk
 ·cases i with
  |succ i=>rw[h5 0 Lv Ad2 rfl 0 (by simp[Lv])]at hk;cases hk
  |zero=>
   cases k with
   |succ k=>rw[h6 0 Ad2]at hk;cases hk
   |zero=>
    cases h1;cases h3;show some (Ct 0 (uL N [Lv,Il,Ik,Fi] Lv 0 [112]) [Lv,Il,Ik,Fi])=_;rw[Aal hN];rfl
theorem uJ {o:Option (List RItem)}(h:StU N [H4,H3,Il,Ik,Fi] o):o=none:=by
 obtain⟨M,hM,h⟩:=h;have hr:∀q,q=[104]\/q=[103]\/q=[107]->Cd N [H4,H3,Il,Ik,Fi] (N.idxOf q)=false:=fun q hq=>by
  have h1:N.idxOf [113]≠N.idxOf q:=Jh (hN _ (by simp)) (hN _ (by rcases hq with rfl|rfl|rfl<;>simp)) (by rcases hq with rfl|rfl|rfl<;>decide);have h2:N.idxOf [112]≠N.idxOf q:=Jh (hN _ (by simp)) (hN _ (by rcases hq with rfl|rfl|rfl<;>simp)) (by rcases hq with rfl|rfl|rfl<;>decide);simp[Cd,H4,H3,Il,Ik,Fi,h1,h2]
 rcases h with⟨rfl,-⟩|⟨i,k,y,a,rfl,h1,h2,h3,h4,h5,h6⟩
 ·rfl
 ·have hy:=Abh h1;have ha:=Abh h3;unfold Wi at h4;rw[h1]at h4;dsimp only at h4;rw[h3]at h4;have hq:a.pred=[104]\/a.pred=[103]\/a.pred=[107]:=by
   simp only[Ace,Acx,Adz]at hy;rcases hy with rfl|rfl|rfl|rfl|rfl<;>simp[H4,H3,Il,Ik,Fi]at ha
   ·rcases ha with rfl|rfl<;>simp
   ·rcases ha with rfl|rfl<;>simp
   ·subst ha;simp
   ·subst ha;simp
  dsimp only at h4;rw[hr _ hq]at h4;simp at h4
theorem qE {l:List RItem}{M:Nat->Nat->Bool}(hl:∀x∈l,x=H4\/x=H3\/x=Il\/x=Ik\/x=Fi)(h3:Fi∈l)(hM:Dl N l M):Gi N (Fb N.length M N.length) l=l.filter fun x=>decide (x.head.pred=[113]):=by
 unfold Gi;have hi:=Aai hN (l:=l) fun x hx=>.inr (hl x hx);have hU:Fb N.length M N.length (N.idxOf [113]) (N.idxOf [112])=false:=by
  cases e:Fb N.length M N.length (N.idxOf [113]) (N.idxOf [112])with
  |false=>rfl
  |true=>exact absurd ((Y8 hi hM (hN _ (by simp)) (hN _ (by simp))).1 e) (Aau hl)
 have hne:=Jh (hN [113] (by simp)) (hN [112] (by simp)) (by decide);have hq:E8 N (Fb N.length M N.length) l (N.idxOf [113])=true:=Acb.2 ⟨Fi,h3,by simp[Fi]⟩;have hp:E8 N (Fb N.length M N.length) l (N.idxOf [112])=false:=by
  unfold E8;rw[Acy];intro x hx;rcases hl x hx with rfl|rfl|rfl|rfl|rfl<;>simp[H4,H3,Il,Ik,Fi,hU,hne]
 refine List.filter_congr fun x hx=>?_;rcases hl x hx with rfl|rfl|rfl|rfl|rfl
 ·exact hq
 ·exact hq
 ·exact hp
 ·exact hp
 ·exact hq
theorem uU {o:Option (List RItem)}(h:StS N [H4,H3,Il,Ik,Fi] o):o=some [H4,H3,Fi]:=by
 obtain⟨M,hM,h⟩:=h;rw[qE hN (by simp) (by simp) hM,show [H4,H3,Il,Ik,Fi].filter (fun x=>decide (x.head.pred=[113]))=[H4,H3,Fi]from rfl]at h;have hb:Cr N [H4,H3,Il,Ik,Fi] [H4,H3,Fi]=true:=by
  unfold Cr;have hl:Hm N [H4,H3,Fi] [H4,H3,Il,Ik,Fi]=false:=by
   unfold Hm;rw[Acy];intro k _ hc;simp only[Abj,Adl]at hc;have n1:∀q:Tx,q=[103]\/q=[104]\/q=[107]->N.idxOf q≠N.idxOf [112]:=fun q hq=>Jh (hN _ (by rcases hq with rfl|rfl|rfl<;>simp)) (hN _ (by simp)) (by rcases hq with rfl|rfl|rfl<;>decide);simp[Cd,E6,H4,H3,Il,Ik,Fi]at hc;have h1:=n1 [103] (by simp);have h2:=n1 [104] (by simp);have h3:=n1 [107] (by simp);omega
  rw[show Gr [H4,H3,Fi]=true by kernel_rfl,show (Ci [H4,H3,Fi]).1=0 by kernel_rfl,hl];rfl
 rcases h with⟨h,-⟩|⟨-,⟨h,-⟩|⟨-,h⟩⟩
 ·cases h
 ·rw[hb]at h;cases h
 ·exact h
theorem uT {o:Option (List RItem)}(h:StS N [H4,H3,Fi] o):o=none:=by
 obtain⟨M,hM,h⟩:=h;rw[qE hN (by simp) (by simp) hM,show [H4,H3,Fi].filter (fun x=>decide (x.head.pred=[113]))=[H4,H3,Fi]from rfl]at h;rcases h with⟨-,h⟩|⟨h,-⟩
 ·exact h
 ·exact absurd rfl h
theorem oZ {l':List RItem}{m:Int}(h:GPss (St5 N) 9 [Lv,Il,Ik,Fi] 0 [117,115] l' m):l'=[H4,H3,Fi]/\m=2:=by
 obtain⟨l1,m1,h1,h2⟩:=h.cons _ _ rfl;obtain⟨l2,m2,h3,h4⟩:=h2.cons _ _ rfl;obtain⟨rfl,rfl⟩:=h4.nil_eq rfl;have c117:∀{l o},St5 N 117 l o->StU N l o:=fun h=>by
  rcases h with⟨h,-⟩|⟨h,-⟩|⟨h,-⟩|⟨-,h⟩|⟨h,-⟩<;>first|exact h|cases h
 have c115:∀{l o},St5 N 115 l o->StS N l o:=fun h=>by
  rcases h with⟨-,h⟩|⟨h,-⟩|⟨h,-⟩|⟨h,-⟩|⟨h,-⟩<;>first|exact h|cases h
 obtain⟨rfl,rfl⟩:=(Kn.step (m:=0) (b:=9) (by decide) (fun o h=>uK hN (c117 h)) (.stop fun o h=>uJ hN (c117 h))).eq h1;exact (Kn.step (m:=0+1) (b:=9) (by decide) (fun o h=>uU hN (c115 h)) (.stop fun o h=>uT hN (c115 h))).eq h3
end
def tUs:Tx:=[113,40,65,41,58,45,112,40,65,44,66,41,44,103,40,66,41,46,112,40,65,44,49,41,58,45,104,40,65,41,46,112,40,65,44,66,41,58,45,107,40,66,44,65,41,46,63,113,46]
def tLi:Tx:=[112,40,65,44,66,41,58,45,101,40,65,44,66,41,46,112,40,65,44,66,41,58,45,112,40,65,44,67,41,44,112,40,67,44,66,41,46,63,112,46]
theorem pB:(Au tUs).1=0:=Ad5
theorem pA:Cj tUs=[Lv,Il,Ik,Fi]:=Ad5
theorem uI:B8 [H4,H3,Fi]=[113,40,65,41,58,45,104,40,65,41,44,103,40,49,41,46,113,40,65,41,58,45,107,40,66,44,65,41,44,103,40,66,41,46,63,113,46]:=Ad5
theorem rU:(Au tLi).1=0:=Ad5
theorem rT:Cj tLi=[xL0,Y1,Pk]:=Ad5
theorem vT:B8 [xL0,oM,Pk]=[112,40,65,44,66,41,58,45,101,40,65,44,66,41,46,112,40,65,44,66,41,58,45,101,40,65,44,67,41,44,112,40,67,44,66,41,46,63,112,46]:=Ad5
theorem vV {r:Tx×Int×Int}(h:F0 St5 tUs [117,115] 9 r):r=(B8 [H4,H3,Fi],2,0):=by
 unfold F0 at h;rw[if_neg (by simp[pB]),if_neg (by decide),if_neg (by decide)]at h;obtain⟨N,l,cs,ar,l',m,hR,-,-,hP,rfl⟩:=h;have hl:=hR.items;rw[pA]at hl;subst hl;have h0:=Ga hR.bk.el Lv (by simp);have h1:=Ga hR.bk.el Il (by simp);have h2:=Ga hR.bk.el Ik (by simp)
 obtain⟨rfl,rfl⟩:=oZ (N:=N) (fun q hq=>by
  rcases hq with rfl|rfl|rfl|rfl|rfl
  ·exact h0.1
  ·exact h1.1
  ·exact h0.2 ⟨false,[103],[[66]]⟩ (by simp[Lv])
  ·exact h1.2 ⟨false,[104],[[65]]⟩ (by simp[Il])
  ·exact h2.2 ⟨false,[107],[[66],[65]]⟩ (by simp[Ik])) hP
 rfl
theorem yY {r:Tx×Int×Int}(h:F0 St5 tLi [108] 1 r):r=(B8 [xL0,oM,Pk],1,0):=by
 unfold F0 at h;rw[if_neg (by simp[rU]),if_neg (by decide),if_neg (by decide)]at h;obtain⟨N,l,cs,ar,l',m,hR,-,-,hP,rfl⟩:=h;have hl:=hR.items;rw[rT]at hl;subst hl;obtain⟨l1,m1,h1,h2⟩:=hP.cons _ _ rfl;obtain⟨rfl,rfl⟩:=h2.nil_eq rfl;have c108:∀{l o},St5 N 108 l o->StL N l o:=fun h=>by
  rcases h with⟨h,-⟩|⟨h,-⟩|⟨h,-⟩|⟨h,-⟩|⟨-,h⟩<;>first|exact h|cases h
 obtain⟨rfl,rfl⟩:=(Kn.step (m:=0) (b:=1) (by decide) (fun o h=>rO (c108 h)) (.full (by decide))).eq h1;rfl
def Si (x:RItem):Tx:=A0 x++[46]
theorem qS {x:RItem}(h:Bv x):Mg (Si x)=x.out:=by
 unfold Mg Si A0;cases ho:x.out with
 |true=>simp
 |false=>
  obtain⟨h1,h2,h3,h4⟩:=h.2.2 ho;rw[if_neg (by simp)];unfold Cw A9;obtain⟨b,r,e⟩:=Ado h1.1.1;rw[e];have hb:=h1.1.2 b (by rw[e];simp);have:b≠63:=fun e=>by subst e;revert hb;decide
  simp[this]
theorem Aar {x:RItem}(h:Bv x):nL (Si x)=x.head.pred:=by
 unfold nL Si;rw[bG h];rfl
theorem L2 {l:List RItem}{f:RItem->Bool}{g:Tx->Bool}(h:∀x∈l,g (Si x)=f x):(l.map Si).filter g=(l.filter f).map Si:=by
 induction l with
 |nil=>rfl
 |cons x l ih=>
  have h1:=h x (by simp);have h2:=ih fun y hy=>h y (by simp[hy]);rw[Abx,Adu,Adu,h1,h2];split<;>simp
theorem Sg:∀l:List RItem,∀y∈l,(Si y).length<=(Bl l).length
 |[],y,hy=>by cases hy
 |z::l,y,hy=>by
  have e:Bl (z::l)=Si z++Bl l:=by simp[Bl,Si]
  simp only[e,Ab2];rcases Ace.1 hy with rfl|hy
  ·omega
  ·have:=Sg l y hy;omega
theorem Su {l:List RItem}(h:∀x∈l,Bv x):Fy (l.map Si)=((l.filter (·.out)).map Si).flatten:=by
 unfold Fy;congr 1;exact L2 fun x hx=>qS (h x hx)
theorem fV {x:RItem}(ho:x.out=true):Si (ren x)=Si x:=by
 unfold Si A0;rw[if_pos (show (ren x).out=true from ho),if_pos ho];rfl
theorem Pu:∀{l:List RItem},(∀x∈l,x.out=true)->(l.map ren).map Si=l.map Si
 |[],_=>rfl
 |x::l,h=>by
  rw[Abx,Abx,Abx,fV (h x (by simp)),Pu fun y hy=>h y (by simp[hy])]
theorem gP (l:List RItem):(l.map ren).filter (·.out)=(l.filter (·.out)).map ren:=by
 induction l with
 |nil=>rfl
 |cons x l ih=>
  rw[Abx,Adu,Adu,ih];have:(ren x).out=x.out:=rfl;rw[this];split<;>simp
theorem bH:∀(l:List RItem) (d:List Tx),(∀x∈l,Bv x)->(Bl l).foldl Po (d,[])=(d++l.flatMap (fun x=>x.head.pred::x.body.map (·.pred)),[])
 |[],d,_=>by simp[Bl]
 |x::l,d,h=>by
  have e:Bl (x::l)=(A0 x++[46])++Bl l:=by simp[Bl]
  rw[e,Adh,kD (h x (by simp)),bH l _ fun y hy=>h y (by simp[hy])];simp
theorem kA {l:List RItem}(h:∀x∈l,Bv x){q:Tx}:q∈F1 (Bl l)↔Nl l q:=by
 unfold F1;rw[bH l [] h];simp only[Aci,Acj,Ace,Acm,Nl];constructor
 ·rintro⟨x,hx,rfl|⟨a,ha,rfl⟩⟩
  ·exact⟨x,hx,.inl rfl⟩
  ·exact⟨x,hx,.inr ⟨a,ha,rfl⟩⟩
 ·rintro⟨x,hx,rfl|⟨a,ha,rfl⟩⟩
  ·exact⟨x,hx,.inl rfl⟩
  ·exact⟨x,hx,.inr ⟨a,ha,rfl⟩⟩
theorem jZ {l:List RItem}(h:∀x∈l,Bv x){q:Tx}:0<Iq q (l.map Si)↔Lo l q:=by
 unfold Iq Lo;rw[L2 (f:=fun x=>!x.out&&x.head.pred==q) fun x hx=>by rw[qS (h x hx),Aar (h x hx)],Ac9,List.length_pos_iff_exists_mem];simp only[Adi,Abj,Adl,Ady]
theorem vL {l:List RItem}{q:Tx}:Nl (l.map ren) q↔Nl l q:=by
 constructor
 ·rintro⟨y,hy,h⟩;obtain⟨x,hx,rfl⟩:=Acm.1 hy;refine⟨x,hx,h.imp id fun⟨a,ha,e⟩=>?_⟩;obtain⟨b,hb,rfl⟩:=Acm.1 ha;exact⟨b,hb,e⟩
 ·rintro⟨x,hx,h⟩;exact⟨ren x,Acm.2 ⟨x,hx,rfl⟩,h.imp id fun⟨a,ha,e⟩=>⟨_,Acm.2 ⟨a,ha,rfl⟩,e⟩⟩
theorem uX {l:List RItem}{q:Tx}:Lo (l.map ren) q↔Lo l q:=by
 constructor
 ·rintro⟨y,hy,h⟩;obtain⟨x,hx,rfl⟩:=Acm.1 hy;exact⟨x,hx,h⟩
 ·rintro⟨x,hx,h⟩;exact⟨ren x,Acm.2 ⟨x,hx,rfl⟩,h⟩
theorem wO (l:List RItem):Jp (l.map ren)=Jp l:=by
 unfold Jp;rw[Abu];congr 1;refine Aco fun x _=>?_;simp only[Function.comp,Ag,ren];by_cases h:x.out=true<;>simp[h]
theorem uZ {x:RItem}(h:x.out=false->XR x)(ho:x.out=true->x.head.terms=[]/\x.body=[]):ren (ren x)=ren x:=by
 cases e:x.out with
 |true=>
  obtain⟨h1,h2⟩:=ho e;simp[ren,Ch,h1,h2]
 |false=>
  have hX:=h e;have hI:=hX.inO;have key:∀a∈Ag x,Ch (Ba (ren x)) (Ch (Ba x) a)=Ch (Ba x) a:=fun a ha=>by
   unfold Ch;simp only[RAtom.mk.injEq,true_and,Abu];refine Aco fun t ht=>?_;simp only[Function.comp];have hu:=hX.ut ha ht;generalize hw:Gq (Ba x) t=w at hu;cases hv:Af w with
   |false=>unfold Gq;rw[if_neg (by simp[hv])]
   |true=>
    have hm:w∈Ba (ren x):=by
     rw[hX.ord];refine Acm.2 ⟨t,hX.mem ha ht ?_,hw⟩;rw[<-L6 (l:=Ba x) fun hv=>hX.rng ha ht hv,hw];exact hv
    have hi:=Ac1 hm;have hg:=Ac0 hi;have hl:=hI.len;have ho:=hI.ord;unfold Gq Bs;rw[if_pos hv,if_pos hm];generalize (Ba (ren x)).idxOf w=i at hi hg;rw[<-hg];have:(Ba (ren x))[i]?=some [Cl (i:Nat)]:=by
     rw[ho,List.getElem?_map,List.getElem?_range hi];rfl
    rw[List.getElem?_eq_getElem hi]at this;simpa using this.symm
  show (⟨x.out,Ch (Ba (ren x)) (Ch (Ba x) x.head),(x.body.map (Ch (Ba x))).map (Ch (Ba (ren x)))⟩:RItem)=⟨x.out,Ch (Ba x) x.head,x.body.map (Ch (Ba x))⟩;rw[key _ (Ay (.inl ⟨e,rfl⟩)),Abu];congr 1;exact Aco fun a ha=>key a (Ay (.inr ha))
structure FcA (t ps T:Tx)(b m:Int):Prop where
 lt:t.length<=600
 lT:T.length<=600
 chk:Au T=(0,0)
 prt:Hg T=(T,0)
 few:(Dn t).length<=16/\(Dn T).length<=16
 sh:∀p∈Dn T,p.length<=100000/\(F1 p).length<=1000
 sht:∀p∈Dn t,p.length<=100000/\(F1 p).length<=1000
 out:Fy (Dn T)=Fy (Dn t)
 rng:0<=m/\m<=b
 same:m=0->(Dn t).length=(Dn T).length/\∀(i:Nat) (p q:Tx),(Dn t)[i]?=some p->(Dn T)[i]?=some q->RnT p q
 les:117∈ps\/(108∈ps/\T.count 40<=t.count 40)\/(108∉ps/\((T.count 40:Nat):Int)+m<=((t.count 40:Nat):Int))
 fac:∀q∈F1 T,q∈F1 t/\(0<Iq q (Dn t)↔0<Iq q (Dn T))
theorem qQ {N:List Tx}{ar:Tx->Nat}{l:List RItem}(hw:∀x∈l,Bv x)(h5:∀x∈l,x.body.length<=5)(hl:(Bl l).length<=600):∀p∈l.map Si,p.length<=100000/\(F1 p).length<=1000:=fun p hp=>by
 obtain⟨y,hy,rfl⟩:=Acm.1 hp;have aa:=Sg _ y hy;refine⟨Ad2,?_⟩;unfold Si;rw[bG (hw y hy)];have:=h5 y hy;simp;omega
theorem mY {t ps:Tx}{b:Int}{r:Tx×Int×Int}(h:F0 St5 t ps b r):(r.1=[]/\r.2.1=0/\r.2.2≠0/\r.2.2=if (Au t).1≠0 then (Au t).1 else if B6 ps=false then 11 else 6)/\((Au t).1≠0\/B6 ps=false\/b<0)\/((Au t).1=0/\B6 ps=true/\0<=b/\r.2.2=0/\FcA t ps r.1 b r.2.1):=by
 unfold F0 at h;split at h
 ·rename_i he;exact .inl ⟨by rw[h];exact⟨rfl,rfl,he,by rw[if_pos he]⟩,.inl he⟩
 rename_i he;split at h
 ·rename_i hp;exact .inl ⟨by rw[h];exact⟨rfl,rfl,by decide,by rw[if_neg he,if_pos hp]⟩,.inr (.inl hp)⟩
 rename_i hp;split at h
 ·rename_i hb;exact .inl ⟨by rw[h];exact⟨rfl,rfl,by decide,by rw[if_neg he,if_neg hp]⟩,.inr (.inr hb)⟩
 rename_i hb;obtain⟨N,l,cs,ar,l',m,hR,hA,aa,hP,rfl⟩:=h;have hp:B6 ps=true:=by simpa using hp
 refine .inr ⟨Classical.not_not.1 he,hp,Ad2,rfl,?_⟩;have ad:=H8 _ _ _ _ hR.parse;have ht:t=Bl l:=ad.1;have ak:=hR.len;have ap:=hR.rt hA;have aj:=ps5 hp N ar;have am:Gr l=true:=by
  unfold Gr;simp only[Abj,Adx,Abg];exact⟨hR.bk.len,ap.b5,by rw[<-ht];exact ak⟩
 have au:Bhd N ar l l:=⟨ap,am,aV hR,rfl⟩;have hB:=au.pss hP aj;have hN:=(Nms.refl l).pss au hP aj;have ao:=Wg _ _ _ _ hR.parse;have ay:∀x∈l',wV x:=Aaz aa fun x hx=>by
  have key:∀q,Nl l' q->xX q:=fun q hq=>by
   obtain⟨y,hy,h⟩:=hN.nmd q hq;rcases h with rfl|⟨a,ha,rfl⟩
   ·exact (ao y hy).nm
   ·cases ho:y.out with
    |true=>rw[((ao y hy).out ho).2.2]at ha;cases ha
    |false=>exact (((ao y hy).rule ho).2.2.2 a ha).nm
  exact⟨key _ ⟨x,hx,.inl rfl⟩,fun a ha=>key _ ⟨x,hx,.inr ⟨a,ha,rfl⟩⟩⟩
 obtain⟨ah,an⟩:=zN aa hB.wr hB.lim ay;have ae:Dn t=l.map Si:=by rw[ht];exact Wa hR.wit
 have hu:=Kz aa.wit;have ab:∀y∈l'.map ren,Bv y:=fun y hy=>by
  obtain⟨z,hz,rfl⟩:=Acm.1 hy;exact K3 (aa.wit z hz) (aa.wi z hz)
 have af:Dn (B8 l')=(l'.map ren).map Si:=by rw[hu];exact Wa ab
 have av:(B8 l').length<=600:=by
  rw[hu];have h1:=Oh l' aa.wit;have h2:=hB.lim;unfold Gr at h2;simp only[Abj,Adx]at h2;omega
 have ac:=hP.num;have aw:=mJ au hP aj;have az:t.count 40=Jp l:=by rw[ht];exact Yd hR.wit
 have a0:(B8 l').count 40=Jp l':=by rw[hu,Yd ab,wO]
 refine⟨ak,av,ah,?_,⟨by rw[ae,Ac9];exact hR.bk.len,by simp only;rw[af];simpa using aa.gl.len⟩,?_,?_,?_,⟨ac.1,ac.2.1 Ad2⟩,fun hm=>?_,?_,fun q hq=>?_⟩
 ·unfold Hg;rw[ah,if_pos rfl,an];simp only;rw[Kz ab,Kz aa.wit,Abu];congr 2;exact Aco fun x hx=>uZ (fun ho=>aa.xr hx ho) fun ho=>((aa.wit x hx).2.1 ho).2
 ·simp only;rw[af];refine qQ (N:=N) (ar:=ar) ab (fun y hy=>?_) (by rw[<-hu];exact av);obtain⟨x,hx,rfl⟩:=Acm.1 hy;simpa[ren]using aa.b5 x hx
 ·rw[ae];exact qQ (N:=N) (ar:=ar) hR.wit ap.b5 (by rw[<-ht];exact ak)
 ·simp only;rw[af,ae,Su ab,Su hR.wit,gP,Pu fun x hx=>by simpa using (Adi.1 hx).2,hB.out]
 ·have ax:=ac.2.2 hm;subst ax;simp only;rw[ae,af];refine⟨by simp,fun i p q hp hq=>?_⟩;simp only[List.getElem?_map,Option.map_eq_some_iff]at hp hq;obtain⟨x,hx,rfl⟩:=hp;obtain⟨y,⟨z,hz,rfl⟩,rfl⟩:=hq;rw[hx]at hz;cases hz;have ai:=Abh hx;refine yO (hR.wit x ai) (fun a ha=>((aa.gl.msr x ai).at_ a ha).2.2) (by have:=xN (hR.wit x ai);omega) ?_;have:=Sg l' x ai;rw[<-ht]at this;unfold Si at this;omega
 ·simp only;rw[az,a0];by_cases h1:(117:UInt8)∈ps
  ·exact .inl h1
  ·by_cases h2:(108:UInt8)∈ps
   ·exact .inr (.inl ⟨h2,aw.1 h1⟩)
   ·exact .inr (.inr ⟨h2,by have:=aw.2 h1 h2;omega⟩)
 ·simp only at hq⊢;rw[af,ae];rw[hu,kA ab,vL]at hq;rw[ht,kA hR.wit,jZ hR.wit,jZ ab,uX];exact⟨hN.nmd q hq,fun h=>hN.lck q hq h,fun h=>hN.rld q h⟩
end Go.Proofs.YtmoeoppbmhfbpabGreatDoorH
