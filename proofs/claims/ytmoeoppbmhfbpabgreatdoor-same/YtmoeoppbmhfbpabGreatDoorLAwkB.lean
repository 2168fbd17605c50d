import Derived.Test.YtmoeoppbmhfbpabGreatDoorLOpuB
import Derived.KernelRfl
import Derived.Test.YtmoeoppbmhfbpabGreatDoorLOptE
import Derived.Test.YtmoeoppbmhfbpabGreatDoorLPrtG
import Derived.Test.YtmoeoppbmhfbpabGreatDoorLAgrB
set_option maxHeartbeats 16000000
set_option maxRecDepth 100000
set_option linter.all false
namespace Go.Proofs.YtmoeoppbmhfbpabGreatDoorL
open Go.Abs
inductive Kn (T:List RItem->Option (List RItem)->Prop)(b:Int):Int->List RItem->List RItem->Int->Prop where
 |full {m:Int} {l:List RItem}:b<=m->Kn T b m l l m
 |stop {m:Int} {l:List RItem}:(∀o,T l o->o=none)->Kn T b m l l m
 |step {m m':Int} {l l1 l':List RItem}:m<b->(∀o,T l o->o=some l1)->Kn T b (m+1) l1 l' m'->Kn T b m l l' m'
theorem GChg.head {T:List RItem->Option (List RItem)->Prop}{b m m2:Int}{l l2:List RItem}(h:GChg T b l m l2 m2):(l2=l/\m2=m)\/(m<b/\∃l1,T l (some l1)/\GChg T b l1 (m+1) l2 m2):=by
 induction h with
 |refl=>exact .inl ⟨rfl,rfl⟩
 |snoc _ hb hs ih=>
  rcases ih with⟨rfl,rfl⟩|⟨h1,l1,h2,h3⟩
  ·exact .inr ⟨hb,_,hs,.refl⟩
  ·exact .inr ⟨h1,l1,h2,.snoc h3 hb hs⟩
theorem Kn.eq {T:List RItem->Option (List RItem)->Prop}{b m m' m2:Int}{l l' l2:List RItem}(hk:Kn T b m l l' m')(h:qQ T b l m l2 m2):l2=l'/\m2=m':=by
 obtain⟨hc,he⟩:=h;induction hk with
 |full hb=>
  rcases hc.head with h|⟨h,-⟩
  ·exact h
  ·omega
 |stop hn=>
  rcases hc.head with h|⟨-,l1,h,-⟩
  ·exact h
  ·cases hn _ h
 |step hb hn _ ih=>
  rcases hc.head with⟨rfl,rfl⟩|⟨-,l1,h,hc⟩
  ·rcases he with he|he
   ·omega
   ·cases hn _ he
  ·cases hn _ h;exact ih hc
theorem GPss.nil_eq {T:UInt8->List RItem->Option (List RItem)->Prop}{b m m2:Int}{l l2:List RItem}{ps:Tx}(h:GPss T b l m ps l2 m2)(e:ps=[]):l2=l/\m2=m:=by
 induction h with
 |nil=>exact⟨rfl,rfl⟩
 |snoc _ _ _=>simp at e
theorem GPss.cons {T:UInt8->List RItem->Option (List RItem)->Prop}{b m m2:Int}{l l2:List RItem}{ps:Tx}(h:GPss T b l m ps l2 m2):∀c qs,ps=c::qs->∃l1 m1,qQ (T c) b l m l1 m1/\GPss T b l1 m1 qs l2 m2:=by
 induction h with
 |nil=>intro c qs e;cases e
 |@snoc ps c' l1 l2 m1 m2 h1 h2 ih=>
  intro c qs e;cases ps with
  |nil=>
   simp only[Ahq,Ajb]at e;obtain⟨rfl,rfl⟩:=e;obtain⟨rfl,rfl⟩:=h1.nil_eq rfl;exact⟨l2,m2,h2,.nil⟩
  |cons a r=>
   simp only[Aho,Ajb]at e;obtain⟨rfl,rfl⟩:=e;obtain⟨l3,m3,g1,g2⟩:=ih a r rfl;exact⟨l3,m3,g1,.snoc g2 h2⟩
def tAw:Tx:=[112,40,65,41,58,45,101,40,65,44,66,41,44,102,40,66,41,46,112,40,88,41,58,45,101,40,88,44,89,41,44,101,40,88,44,90,41,46,63,112,46]
def I8:RItem:=⟨false,⟨false,[112],[[65]]⟩,[⟨false,[101],[[65],[66]]⟩,⟨false,[102],[[66]]⟩]⟩
def kH:RItem:=⟨false,⟨false,[112],[[88]]⟩,[⟨false,[101],[[88],[89]]⟩,⟨false,[101],[[88],[90]]⟩]⟩
def Jm:RItem:=⟨true,⟨false,[112],[]⟩,[]⟩
def Lk:RItem:=⟨false,⟨false,[112],[[88]]⟩,[⟨false,[101],[[88],[90]]⟩]⟩
theorem zT:(Av tAw).1=0:=Ajp
theorem zS:Cw tAw=[I8,kH,Jm]:=Ajp
theorem Acx:Ck [Lk,Jm]=[112,40,65,41,58,45,101,40,65,44,66,41,46,63,112,46]:=Ajp
theorem Qq {N:List Tx}{x:RItem}{k:Nat}(h:Ec (G6 x k)=false):kZ N x k=none:=by
 unfold kZ;cases hw:Ch K6 (x.head.terms.map Al) (x.head.terms.map Al)with
 |none=>rfl
 |some s0=>simp[Is,h]
theorem Ku {N:List Tx}{p q:Tx}(hp:p∈N)(hq:q∈N)(h:p≠q):N.idxOf p≠N.idxOf q:=fun e=>h (by
 have h1:=Ah8 (Ah9 hp);have h2:=Ah8 (Ah9 hq);rw[<-h1,<-h2]
 congr 1)
theorem rU {R:List Dy}{F:List Df}{k:Nat}{h:Bc}{b:Bool}(A:List (Nat×Bc))(hA:A.length<=200)(aa:ClD R (fun j t=>(j,t)∈A))(hF:∀a∈F,(a.p.toNat,Cs a)∈A)(hL:LstF R F k h)(hp:uB R F k h b):b=true:=by
 obtain⟨M,hn,hs,hp⟩:=hp;have ht:tot M<=A.length:=Ad5 (e:=fun x=>x) hn fun j t hm=>⟨(j,t),hs j t hm _ aa hF,rfl⟩;rw[if_pos Ajm]at hp;exact hp.2.2 (hp.1 _ _ hL)
section
variable {N:List Tx} (hp:[112]∈N) (he:[101]∈N) (hf:[102]∈N)
theorem qK (aa:N.idxOf [102]≠N.idxOf [101]):kZ N I8 1=none:=by
 have e1:Al [65]=(true,0):=rfl;have e2:Al [66]=(true,1):=rfl;have hs:Ec (G6 I8 1)=true:=Ajp;simp only[I8]at hs;unfold kZ;simp only[I8,Ag5,Ag6,e1,Ch,Gw,K6,Is,hs,if_true,List.eraseIdx,Gf,e2];generalize N.idxOf [101]=n at*
 generalize N.idxOf [102]=n' at*
 simp[F8,Ch,Gw,aa]
theorem Acy:(kZ N kH 0).isSome=true:=by
 have e1:Al [88]=(true,23):=rfl;have e2:Al [89]=(true,24):=rfl;have e3:Al [90]=(true,25):=rfl;have hs:Ec (G6 kH 0)=true:=Ajp;simp only[kH]at hs;unfold kZ;simp only[kH,Ag5,Ag6,e1,Ch,Gw,K6,Is,hs,if_true,List.eraseIdx,Gf,e2,e3];generalize N.idxOf [101]=n at*
 simp[F8,Ch,Gw]
include hp he hf
theorem zQ {o:Option (List RItem)}(h:StA N [I8,kH,Jm] o):o=some [I8,Lk,Jm]:=by
 have aa:=Ku hf he (by decide);have k00:Se N [I8,kH,Jm] 0 0=false:=by
  unfold Se;simp only[List.getElem?_cons_zero,Qq (N:=N) (x:=I8) (k:=0) Ajp,Ajh,Ai6]
 have k01:Se N [I8,kH,Jm] 0 1=false:=by
  unfold Se;simp only[List.getElem?_cons_zero,qK aa,Ajh,Ai6]
 have k10:Se N [I8,kH,Jm] 1 0=true:=by
  show ((kZ N kH 0).isSome&&Cz N [I8,kH,Jm] [I8,Lk,Jm])=true;rw[Acy];unfold Cz
  rw[show H8 [I8,Lk,Jm]=true by kernel_rfl,show (Ce [I8,Lk,Jm]).1=0 by kernel_rfl,S3 (l:=[I8,kH,Jm]) (l':=[I8,Lk,Jm]) (fun k h=>by
   unfold Cg at h⊢
   simpa[I8,kH,Jm,Lk]using h)]
  rfl
 ·rcases h with⟨-,h⟩|⟨i,k,y,rfl,h1,h2,h3,h4,h5,h6⟩
  ·rw[h 1 kH (by decide) rfl 0 (by decide)]at k10;cases k10
  ·match i,h1 with
   |0,h1=>
    cases h1
    match k,h3 with
    |0,_=>rw[k00]at h4;cases h4
    |1,_=>rw[k01]at h4;cases h4
    |k+2,h3=>simp[I8]at h3;omega
   |1,h1=>
    cases h1
    match k with
    |0=>rfl
    |k+1=>rw[h6 0 Ajm]at k10;cases k10
   |2,h1=>cases h1;cases h2
   |i+3,h1=>simp at h1
theorem zP {o:Option (List RItem)}(h:StA N [I8,Lk,Jm] o):o=none:=by
 have aa:=Ku hf he (by decide);have k00:Se N [I8,Lk,Jm] 0 0=false:=by
  unfold Se;simp only[List.getElem?_cons_zero,Qq (N:=N) (x:=I8) (k:=0) Ajp,Ajh,Ai6]
 have k01:Se N [I8,Lk,Jm] 0 1=false:=by
  unfold Se;simp only[List.getElem?_cons_zero,qK aa,Ajh,Ai6]
 have k10:Se N [I8,Lk,Jm] 1 0=false:=by
  unfold Se;simp only[List.getElem?_cons_succ,List.getElem?_cons_zero,Qq (N:=N) (x:=Lk) (k:=0) Ajp,Ajh,Ai6]
 ·rcases h with⟨h,-⟩|⟨i,k,y,rfl,h1,h2,h3,h4,h5,h6⟩
  ·exact h
  ·match i,h1 with
   |0,h1=>
    cases h1
    match k,h3 with
    |0,_=>rw[k00]at h4;cases h4
    |1,_=>rw[k01]at h4;cases h4
    |k+2,h3=>simp[I8]at h3;omega
   |1,h1=>
    cases h1
    match k,h3 with
    |0,_=>rw[k10]at h4;cases h4
    |k+1,h3=>simp[Lk]at h3
   |2,h1=>cases h1;cases h2
   |i+3,h1=>simp at h1
theorem Ae1 {b:Bool}(h:iO N [I8,Lk,Jm] 0 I8 b):b=true:=by
 have ab:=Ku he hp (by decide);have aa:=Ku hf he (by decide);have ad:=Ku hf hp (by decide);have e65:Al [65]=(true,0):=rfl;have e66:Al [66]=(true,1):=rfl;have e88:Al [88]=(true,23):=rfl;have e90:Al [90]=(true,25):=rfl;unfold iO at h;have ho:oth [I8,Lk,Jm] 0 [I8,Lk,Jm].length=[Lk]:=rfl;rw[ho]at h;have hR:([Lk].map (Gd N))=[⟨⟨(N.idxOf [112]:Nat),[(true,23)]⟩,[⟨false,⟨(N.idxOf [101]:Nat),[(true,23),(true,25)]⟩⟩]⟩]:=rfl;have hF:Ja N I8=[⟨(N.idxOf [101]:Nat),[(false,1000),(false,1001)]⟩,⟨(N.idxOf [102]:Nat),[(false,1001)]⟩]:=rfl;have hH:Cs (Ha (Gd N I8).head)=[1000,-1,-1]:=rfl;have hk:(Gd N I8).head.p.toNat=N.idxOf [112]:=rfl;rw[hR,hF,hH,hk]at h;generalize N.idxOf [112]=ip at*
 generalize N.idxOf [101]=ie at*
 generalize N.idxOf [102]=i2 at*
 refine rU [(ie,[1000,1001,-1]),(i2,[1001,-1,-1]),(ip,[1000,-1,-1])] (by simp) ?_ ?_ ?_ h
 ·intro r hr ν hb;simp only[Aib]at hr;subst hr;have:=hb _ (Aib.2 rfl);simp only[Ai4,Bf,C5,Eo,Ag5,Ag6,if_true]at this⊢;simp at this⊢;rcases this with h|h|h
  ·exact .inr h.1
  ·exact absurd h.1.symm aa
  ·exact absurd h.1 ab
 ·intro a ha;simp only[Ahm,Ah4,Ajl]at ha;rcases ha with rfl|rfl
  ·simp[Cs,C5]
  ·simp[Cs,C5]
 ·intro D hD ac;have h1:=ac _ (Ahn ..)
  have:=hD _ (Aib.2 rfl) (fun v=>if v=23 then 1000 else 1001) (fun l hl=>by
   simp only[Aib]at hl;subst hl
   simpa[Bf,C5,Eo,Cs]using h1)
  simpa[Bf,C5,Eo]using this
theorem Acz:Cz N [I8,Lk,Jm] [Lk,Jm]=true:=by
 unfold Cz
 rw[show H8 [Lk,Jm]=true by kernel_rfl,show (Ce [Lk,Jm]).1=0 by kernel_rfl,S3 (l:=[I8,Lk,Jm]) (l':=[Lk,Jm]) (fun k h=>by
  unfold Cg at h⊢
  simpa[I8,Jm,Lk]using h)]
 rfl
theorem zO {o:Option (List RItem)}(h:StR N [I8,Lk,Jm] o):o=some [Lk,Jm]:=by
 have hb:Cz N [I8,Lk,Jm] (Cp 0 [] [I8,Lk,Jm])=true:=Acz hp he hf;have aa:¬iO N [I8,Lk,Jm] 0 I8 false:=fun h=>by have:=Ae1 hp he hf h;cases this
 ·rcases h with⟨-,h⟩|⟨i,y,rfl,h1,h2,h3,h4,h5⟩
  ·exact absurd (h 0 I8 (by decide) rfl rfl hb) aa
  ·match i with
   |0=>rfl
   |i+1=>exact absurd (h5 0 I8 Ajm rfl rfl hb) aa
theorem zN {o:Option (List RItem)}(h:StR N [Lk,Jm] o):o=none:=by
 have hb:Cz N [Lk,Jm] [Jm]=false:=by
  unfold Cz;have:Iy N [Jm] [Lk,Jm]=true:=by
   unfold Iy;rw[Ahk];exact⟨N.idxOf [112],by simpa using Ah9 hp,by simp[Cg,F2,Jm,Lk]⟩
  rw[this];simp
 ·rcases h with⟨h,-⟩|⟨i,y,rfl,h1,h2,h3,h4,h5⟩
  ·exact h
  ·match i,h1,h3 with
   |0,h1,h3=>
    have:Cz N [Lk,Jm] [Jm]=true:=h3;rw[hb]at this;cases this
   |1,h1,_=>cases h1;cases h2
   |i+2,h1,_=>simp at h1
theorem zR {l':List RItem}{m:Int}(h:GPss (St5 N) 9 [I8,kH,Jm] 0 [97,114] l' m):l'=[Lk,Jm]/\m=2:=by
 obtain⟨l1,m1,h1,h2⟩:=h.cons _ _ rfl;obtain⟨l2,m2,h3,h4⟩:=h2.cons _ _ rfl;obtain⟨rfl,rfl⟩:=h4.nil_eq rfl;have c97:∀{l o},St5 N 97 l o->StA N l o:=fun h=>by
  rcases h with⟨h,-⟩|⟨-,h⟩|⟨h,-⟩|⟨h,-⟩|⟨h,-⟩<;>first|exact h|cases h
 have c114:∀{l o},St5 N 114 l o->StR N l o:=fun h=>by
  rcases h with⟨h,-⟩|⟨h,-⟩|⟨-,h⟩|⟨h,-⟩|⟨h,-⟩<;>first|exact h|cases h
 obtain⟨rfl,rfl⟩:=(Kn.step (m:=0) (b:=9) (by decide) (fun o h=>zQ hp he hf (c97 h)) (.stop fun o h=>zP hp he hf (c97 h))).eq h1;exact (Kn.step (m:=0+1) (b:=9) (by decide) (fun o h=>zO hp he hf (c114 h)) (.stop fun o h=>zN hp he hf (c114 h))).eq h3
end
theorem jJ {r:Tx×Int×Int}(h:G4 St5 tAw [97,114] 9 r):r=([112,40,65,41,58,45,101,40,65,44,66,41,46,63,112,46],2,0):=by
 unfold G4 at h;rw[if_neg (by simp[zT]),if_neg (by decide),if_neg (by decide)]at h;obtain⟨N,l,cs,ar,l',m,hR,-,-,hP,rfl⟩:=h;have hl:=hR.items;rw[zS]at hl;subst hl;have hm:=Hh hR.bk.el I8 (by simp);obtain⟨rfl,rfl⟩:=zR (N:=N) hm.1 (hm.2 ⟨false,[101],[[65],[66]]⟩ (by simp[I8])) (hm.2 ⟨false,[102],[[66]]⟩ (by simp[I8])) hP;rw[Acx]
section
variable {N:List Tx} (hN:∀q:Tx,q=[113]\/q=[112]\/q=[103]\/q=[104]\/q=[107]->q∈N)
theorem Afv:¬Way (D6 [Nl,Jw,Jv,Gg]) [112] [112]:=by
 have k:∀q,D6 [Nl,Jw,Jv,Gg] [112] q->q=[104]\/q=[107]:=fun q ⟨x,hx,e,a,ha,e2⟩=>by
  subst e2;simp only[Ahm,Ah4,Ajl]at hx;rcases hx with rfl|rfl|rfl|rfl
  ·cases e
  ·simp[Jw]at ha;subst ha;exact .inl rfl
  ·simp[Jv]at ha;subst ha;exact .inr rfl
  ·cases e
 have k2:∀p q,p=[104]\/p=[107]->¬D6 [Nl,Jw,Jv,Gg] p q:=fun p q hp ⟨x,hx,e,_⟩=>by
  simp only[Ahm,Ah4,Ajl]at hx;rcases hx with rfl|rfl|rfl|rfl<;>rcases hp with rfl|rfl<;>cases e
 intro h;cases h with
 |one h=>rcases k _ h with h|h<;>cases h
 |more h h2=>
  cases h2 with
  |one h2=>exact k2 _ _ (k _ h) h2
  |more h2 _=>exact k2 _ _ (k _ h) h2
theorem Afu {l:List RItem}(hl:∀x∈l,x=Jd\/x=Jc\/x=Jw\/x=Jv\/x=Gg):¬Way (D6 l) [113] [112]:=by
 have k:∀q,D6 l [113] q->q=[104]\/q=[103]\/q=[107]:=fun q ⟨x,hx,e,a,ha,e2⟩=>by
  subst e2;rcases hl x hx with rfl|rfl|rfl|rfl|rfl
  ·simp[Jd]at ha;rcases ha with rfl|rfl<;>simp
  ·simp[Jc]at ha;rcases ha with rfl|rfl<;>simp
  ·cases e
  ·cases e
  ·simp[Gg]at ha
 have k2:∀p q,p=[104]\/p=[103]\/p=[107]->¬D6 l p q:=fun p q hp ⟨x,hx,e,_⟩=>by
  rcases hl x hx with rfl|rfl|rfl|rfl|rfl<;>rcases hp with rfl|rfl|rfl<;>cases e
 intro h;cases h with
 |one h=>rcases k _ h with h|h|h<;>cases h
 |more h h2=>
  cases h2 with
  |one h2=>exact k2 _ _ (k _ h) h2
  |more h2 _=>exact k2 _ _ (k _ h) h2
include hN
theorem Afg {l:List RItem}(hl:∀x∈l,x=Nl\/x=Jd\/x=Jc\/x=Jw\/x=Jv\/x=Gg):∀x∈l,x.head.pred∈N/\∀a∈x.body,a.pred∈N:=fun x hx=>by
 rcases hl x hx with rfl|rfl|rfl|rfl|rfl|rfl<;>refine⟨hN _ (by simp[Nl,Jd,Jc,Jw,Jv,Gg]),fun a ha=>?_⟩<;>simp[Nl,Jd,Jc,Jw,Jv,Gg]at ha
 ·rcases ha with rfl|rfl<;>exact hN _ (by simp)
 ·rcases ha with rfl|rfl<;>exact hN _ (by simp)
 ·rcases ha with rfl|rfl<;>exact hN _ (by simp)
 ·subst ha;exact hN _ (by simp)
 ·subst ha;exact hN _ (by simp)
theorem Aa1 {o:Option (List RItem)}(h:StU N [Nl,Jw,Jv,Gg] o):o=some [Jd,Jc,Jw,Jv,Gg]:=by
 obtain⟨M,hM,h⟩:=h;have hp:=hN [112] (by simp);have hU:F9 N.length M N.length (N.idxOf [112]) (N.idxOf [112])=false:=by
  cases e:F9 N.length M N.length (N.idxOf [112]) (N.idxOf [112])with
  |false=>rfl
  |true=>exact absurd ((Ln (Afg hN (by simp)) hM hp hp).1 e) Afv
 have hb:Cz N [Nl,Jw,Jv,Gg] [Jd,Jc,Jw,Jv,Gg]=true:=by
  unfold Cz
  rw[show H8 [Jd,Jc,Jw,Jv,Gg]=true by kernel_rfl,show (Ce [Jd,Jc,Jw,Jv,Gg]).1=0 by kernel_rfl,S3 fun k h=>by
   unfold Cg at h⊢
   simpa[Nl,Jw,Jv,Gg,Jd,Jc]using h]
  rfl
 have hk:Wr N (F9 N.length M N.length) [Nl,Jw,Jv,Gg] 0 0=true:=by
  show (!false&&(!F9 N.length M N.length (N.idxOf [112]) (N.idxOf [112])&&(Cg N [Nl,Jw,Jv,Gg] (N.idxOf [112])&&Cz N [Nl,Jw,Jv,Gg] (Cp 0 (uL N [Nl,Jw,Jv,Gg] Nl 0 [112]) [Nl,Jw,Jv,Gg]))))=true;rw[hU,Afj hN,show Cp 0 [Jd,Jc] [Nl,Jw,Jv,Gg]=[Jd,Jc,Jw,Jv,Gg]from rfl,hb];simp[Cg,Nl,Jw,Jv,Gg]
 rcases h with⟨-,h⟩|⟨i,k,y,a,rfl,h1,h2,h3,h4,h5,h6⟩
 ·rw[h 0 Nl (by simp) rfl 0 (by simp[Nl])]at hk;cases hk
 ·cases i with
  |succ i=>rw[h5 0 Nl Ajm rfl 0 (by simp[Nl])]at hk;cases hk
  |zero=>
   cases k with
   |succ k=>rw[h6 0 Ajm]at hk;cases hk
   |zero=>
    cases h1;cases h3;show some (Cp 0 (uL N [Nl,Jw,Jv,Gg] Nl 0 [112]) [Nl,Jw,Jv,Gg])=_;rw[Afj hN];rfl
theorem Aa0 {o:Option (List RItem)}(h:StU N [Jd,Jc,Jw,Jv,Gg] o):o=none:=by
 obtain⟨M,hM,h⟩:=h;have hr:∀q,q=[104]\/q=[103]\/q=[107]->Cg N [Jd,Jc,Jw,Jv,Gg] (N.idxOf q)=false:=fun q hq=>by
  have h1:N.idxOf [113]≠N.idxOf q:=Ku (hN _ (by simp)) (hN _ (by rcases hq with rfl|rfl|rfl<;>simp)) (by rcases hq with rfl|rfl|rfl<;>decide);have h2:N.idxOf [112]≠N.idxOf q:=Ku (hN _ (by simp)) (hN _ (by rcases hq with rfl|rfl|rfl<;>simp)) (by rcases hq with rfl|rfl|rfl<;>decide);simp[Cg,Jd,Jc,Jw,Jv,Gg,h1,h2]
 rcases h with⟨rfl,-⟩|⟨i,k,y,a,rfl,h1,h2,h3,h4,h5,h6⟩
 ·rfl
 ·have hy:=Agp h1;have ha:=Agp h3;unfold Wr at h4;rw[h1]at h4;dsimp only at h4;rw[h3]at h4;have hq:a.pred=[104]\/a.pred=[103]\/a.pred=[107]:=by
   simp only[Ahm,Ah4,Ajl]at hy;rcases hy with rfl|rfl|rfl|rfl|rfl<;>simp[Jd,Jc,Jw,Jv,Gg]at ha
   ·rcases ha with rfl|rfl<;>simp
   ·rcases ha with rfl|rfl<;>simp
   ·subst ha;simp
   ·subst ha;simp
  dsimp only at h4;rw[hr _ hq]at h4;simp at h4
theorem wE {l:List RItem}{M:Nat->Nat->Bool}(hl:∀x∈l,x=Jd\/x=Jc\/x=Jw\/x=Jv\/x=Gg)(h3:Gg∈l)(hM:Dr N l M):G3 N (F9 N.length M N.length) l=l.filter fun x=>decide (x.head.pred=[113]):=by
 unfold G3;have hi:=Afg hN (l:=l) fun x hx=>.inr (hl x hx);have hU:F9 N.length M N.length (N.idxOf [113]) (N.idxOf [112])=false:=by
  cases e:F9 N.length M N.length (N.idxOf [113]) (N.idxOf [112])with
  |false=>rfl
  |true=>exact absurd ((Ln hi hM (hN _ (by simp)) (hN _ (by simp))).1 e) (Afu hl)
 have aa:=Ku (hN [113] (by simp)) (hN [112] (by simp)) (by decide);have hq:Gv N (F9 N.length M N.length) l (N.idxOf [113])=true:=Ahk.2 ⟨Gg,h3,by simp[Gg]⟩;have hp:Gv N (F9 N.length M N.length) l (N.idxOf [112])=false:=by
  unfold Gv;rw[Ah5];intro x hx;rcases hl x hx with rfl|rfl|rfl|rfl|rfl<;>simp[Jd,Jc,Jw,Jv,Gg,hU,aa]
 refine List.filter_congr fun x hx=>?_;rcases hl x hx with rfl|rfl|rfl|rfl|rfl
 ·exact hq
 ·exact hq
 ·exact hp
 ·exact hp
 ·exact hq
theorem Abd {o:Option (List RItem)}(h:StS N [Jd,Jc,Jw,Jv,Gg] o):o=some [Jd,Jc,Gg]:=by
 obtain⟨M,hM,h⟩:=h;rw[wE hN (by simp) (by simp) hM,show [Jd,Jc,Jw,Jv,Gg].filter (fun x=>decide (x.head.pred=[113]))=[Jd,Jc,Gg]from rfl]at h;have hb:Cz N [Jd,Jc,Jw,Jv,Gg] [Jd,Jc,Gg]=true:=by
  unfold Cz;have hl:Iy N [Jd,Jc,Gg] [Jd,Jc,Jw,Jv,Gg]=false:=by
   unfold Iy;rw[Ah5];intro k _ hc;simp only[Ags,Ai5]at hc;have n1:∀q:Tx,q=[103]\/q=[104]\/q=[107]->N.idxOf q≠N.idxOf [112]:=fun q hq=>Ku (hN _ (by rcases hq with rfl|rfl|rfl<;>simp)) (hN _ (by simp)) (by rcases hq with rfl|rfl|rfl<;>decide);simp[Cg,F2,Jd,Jc,Jw,Jv,Gg]at hc;have h1:=n1 [103] (by simp);have h2:=n1 [104] (by simp);have h3:=n1 [107] (by simp);omega
  rw[show H8 [Jd,Jc,Gg]=true by kernel_rfl,show (Ce [Jd,Jc,Gg]).1=0 by kernel_rfl,hl];rfl
 rcases h with⟨h,-⟩|⟨-,⟨h,-⟩|⟨-,h⟩⟩
 ·cases h
 ·rw[hb]at h;cases h
 ·exact h
theorem Abc {o:Option (List RItem)}(h:StS N [Jd,Jc,Gg] o):o=none:=by
 obtain⟨M,hM,h⟩:=h;rw[wE hN (by simp) (by simp) hM,show [Jd,Jc,Gg].filter (fun x=>decide (x.head.pred=[113]))=[Jd,Jc,Gg]from rfl]at h;rcases h with⟨-,h⟩|⟨h,-⟩
 ·exact h
 ·exact absurd rfl h
theorem uS {l':List RItem}{m:Int}(h:GPss (St5 N) 9 [Nl,Jw,Jv,Gg] 0 [117,115] l' m):l'=[Jd,Jc,Gg]/\m=2:=by
 obtain⟨l1,m1,h1,h2⟩:=h.cons _ _ rfl;obtain⟨l2,m2,h3,h4⟩:=h2.cons _ _ rfl;obtain⟨rfl,rfl⟩:=h4.nil_eq rfl;have c117:∀{l o},St5 N 117 l o->StU N l o:=fun h=>by
  rcases h with⟨h,-⟩|⟨h,-⟩|⟨h,-⟩|⟨-,h⟩|⟨h,-⟩<;>first|exact h|cases h
 have c115:∀{l o},St5 N 115 l o->StS N l o:=fun h=>by
  rcases h with⟨-,h⟩|⟨h,-⟩|⟨h,-⟩|⟨h,-⟩|⟨h,-⟩<;>first|exact h|cases h
 obtain⟨rfl,rfl⟩:=(Kn.step (m:=0) (b:=9) (by decide) (fun o h=>Aa1 hN (c117 h)) (.stop fun o h=>Aa0 hN (c117 h))).eq h1;exact (Kn.step (m:=0+1) (b:=9) (by decide) (fun o h=>Abd hN (c115 h)) (.stop fun o h=>Abc hN (c115 h))).eq h3
end
def tUs:Tx:=[113,40,65,41,58,45,112,40,65,44,66,41,44,103,40,66,41,46,112,40,65,44,49,41,58,45,104,40,65,41,46,112,40,65,44,66,41,58,45,107,40,66,44,65,41,46,63,113,46]
def tLi:Tx:=[112,40,65,44,66,41,58,45,101,40,65,44,66,41,46,112,40,65,44,66,41,58,45,112,40,65,44,67,41,44,112,40,67,44,66,41,46,63,112,46]
theorem uU:(Av tUs).1=0:=Ajp
theorem uT:Cw tUs=[Nl,Jw,Jv,Gg]:=Ajp
theorem Aaz:Ck [Jd,Jc,Gg]=[113,40,65,41,58,45,104,40,65,41,44,103,40,49,41,46,113,40,65,41,58,45,107,40,66,44,65,41,44,103,40,66,41,46,63,113,46]:=Ajp
theorem yB:(Av tLi).1=0:=Ajp
theorem yA:Cw tLi=[xL0,cZ,Rf]:=Ajp
theorem Ab3:Ck [xL0,uC,Rf]=[112,40,65,44,66,41,58,45,101,40,65,44,66,41,46,112,40,65,44,66,41,58,45,101,40,65,44,67,41,44,112,40,67,44,66,41,46,63,112,46]:=Ajp
theorem Ab5 {r:Tx×Int×Int}(h:G4 St5 tUs [117,115] 9 r):r=(Ck [Jd,Jc,Gg],2,0):=by
 unfold G4 at h;rw[if_neg (by simp[uU]),if_neg (by decide),if_neg (by decide)]at h;obtain⟨N,l,cs,ar,l',m,hR,-,-,hP,rfl⟩:=h;have hl:=hR.items;rw[uT]at hl;subst hl;have h0:=Hh hR.bk.el Nl (by simp);have h1:=Hh hR.bk.el Jw (by simp);have h2:=Hh hR.bk.el Jv (by simp)
 obtain⟨rfl,rfl⟩:=uS (N:=N) (fun q hq=>by
  rcases hq with rfl|rfl|rfl|rfl|rfl
  ·exact h0.1
  ·exact h1.1
  ·exact h0.2 ⟨false,[103],[[66]]⟩ (by simp[Nl])
  ·exact h1.2 ⟨false,[104],[[65]]⟩ (by simp[Jw])
  ·exact h2.2 ⟨false,[107],[[66],[65]]⟩ (by simp[Jv])) hP
 rfl
theorem Aej {r:Tx×Int×Int}(h:G4 St5 tLi [108] 1 r):r=(Ck [xL0,uC,Rf],1,0):=by
 unfold G4 at h;rw[if_neg (by simp[yB]),if_neg (by decide),if_neg (by decide)]at h;obtain⟨N,l,cs,ar,l',m,hR,-,-,hP,rfl⟩:=h;have hl:=hR.items;rw[yA]at hl;subst hl;obtain⟨l1,m1,h1,h2⟩:=hP.cons _ _ rfl;obtain⟨rfl,rfl⟩:=h2.nil_eq rfl;have c108:∀{l o},St5 N 108 l o->StL N l o:=fun h=>by
  rcases h with⟨h,-⟩|⟨h,-⟩|⟨h,-⟩|⟨h,-⟩|⟨-,h⟩<;>first|exact h|cases h
 obtain⟨rfl,rfl⟩:=(Kn.step (m:=0) (b:=1) (by decide) (fun o h=>xV (c108 h)) (.full (by decide))).eq h1;rfl
def cY (x:RItem):Tx:=Be x++[46]
theorem Aeg {x:RItem}(h:Cl x):W1 (cY x)=x.out:=by
 unfold W1 cY Be;cases ho:x.out with
 |true=>simp
 |false=>
  obtain⟨h1,h2,h3,h4⟩:=h.2.2 ho;rw[if_neg (by simp)];unfold Di A7;obtain⟨b,r,e⟩:=Ai7 h1.1.1;rw[e];have hb:=h1.1.2 b (by rw[e];simp);have:b≠63:=fun e=>by subst e;revert hb;decide
  simp[this]
theorem W9 {l:List RItem}{f:RItem->Bool}{g:Tx->Bool}(h:∀x∈l,g (cY x)=f x):(l.map cY).filter g=(l.filter f).map cY:=by
 induction l with
 |nil=>rfl
 |cons x l ih=>
  have h1:=h x (by simp);have h2:=ih fun y hy=>h y (by simp[hy]);rw[Ag5,Ain,Ain,h1,h2];split<;>simp
theorem fZ:∀l:List RItem,∀y∈l,(cY y).length<=(Bv l).length
 |[],y,hy=>by cases hy
 |z::l,y,hy=>by
  have e:Bv (z::l)=cY z++Bv l:=by simp[Bv,cY]
  simp only[e,Aha];rcases Ahm.1 hy with rfl|hy
  ·omega
  ·have:=fZ l y hy;omega
theorem U8 {l:List RItem}(h:∀x∈l,Cl x):Gy (l.map cY)=((l.filter (·.out)).map cY).flatten:=by
 unfold Gy;congr 1;exact W9 fun x hx=>Aeg (h x hx)
theorem lW {x:RItem}(ho:x.out=true):cY (ren x)=cY x:=by
 unfold cY Be;rw[if_pos (show (ren x).out=true from ho),if_pos ho];rfl
theorem Rr:∀{l:List RItem},(∀x∈l,x.out=true)->(l.map ren).map cY=l.map cY
 |[],_=>rfl
 |x::l,h=>by
  rw[Ag5,Ag5,Ag5,lW (h x (by simp)),Rr fun y hy=>h y (by simp[hy])]
theorem Vo (l:List RItem):(l.map ren).filter (·.out)=(l.filter (·.out)).map ren:=by
 induction l with
 |nil=>rfl
 |cons x l ih=>
  rw[Ag5,Ain,Ain,ih];have:(ren x).out=x.out:=rfl;rw[this];split<;>simp
theorem iI (E:St):ACalls Tryz.prog 12 [] E fun r E'=>r=sc (.bool true)/\Keep E E':=by
 have hO:=fun E=>Mw tAw [97,114] 9 Ajm E;have ai:({data:=#[112,40,65,41,58,45,101,40,65,44,66,41,44,102,40,66,41,46,112,40,88,41,58,45,101,40,88,44,89,41,44,101,40,88,44,90,41,46,63,112,46]}:ByteArray)=bs tAw:=rfl;have ah:({data:=#[97,114]}:ByteArray)=bs [97,114]:=rfl;have af:({data:=#[112,40,65,41,58,45,101,40,65,44,66,41,46,63,112,46]}:ByteArray)=bs [112,40,65,41,58,45,101,40,65,44,66,41,46,63,112,46]:=rfl;have ae:(([112,40,65,41,58,45,101,40,65,44,66,41,46,63,112,46]:Tx)==[112,40,65,41,58,45,101,40,65,44,66,41,46,63,112,46])=true:=rfl;refine Z9 19 [.tmp 0] Tryz.func12 ?_
 repeat' (first|refine Z1 ?_|(refine Z8 ?_;intro κ hκ)|(refine Z4 ?_;clear hκ κ)|(refine Z2 ?_ ?_<;>intro h ad<;>try exact Xp)|(refine Z5 ?_;refine Xi (hO _) ?_;rintro _ _ ⟨p0,rfl,ab,aa⟩;(have e0:=jJ ab;subst e0;clear ab;have ac:=aa.nobj))|refine Z3 ?_|exact⟨⟩|(apply hκ.out;clear hκ κ))
 first|exact⟨_,rfl,rfl,aa⟩|exact⟨_,rfl,aa⟩|exact⟨_,rfl,rfl⟩
theorem mH (E:St):ACalls Tryz.prog 13 [] E fun r E'=>r=sc (.bool true)/\Keep E E':=by
 have hO:=fun E=>Mw tUs [117,115] 9 Ajm E;have hP:=fun E=>Mw tLi [108] 1 Ajm E;have av:({data:=#[113,40,65,41,58,45,112,40,65,44,66,41,44,103,40,66,41,46,112,40,65,44,49,41,58,45,104,40,65,41,46,112,40,65,44,66,41,58,45,107,40,66,44,65,41,46,63,113,46]}:ByteArray)=bs tUs:=rfl;have au:({data:=#[117,115]}:ByteArray)=bs [117,115]:=rfl;have ap:({data:=#[113,40,65,41,58,45,104,40,65,41,44,103,40,49,41,46,113,40,65,41,58,45,107,40,66,44,65,41,44,103,40,66,41,46,63,113,46]}:ByteArray)=bs (Ck [Jd,Jc,Gg]):=by rw[Aaz];rfl
 have ao:({data:=#[112,40,65,44,66,41,58,45,101,40,65,44,66,41,46,112,40,65,44,66,41,58,45,112,40,65,44,67,41,44,112,40,67,44,66,41,46,63,112,46]}:ByteArray)=bs tLi:=rfl;have an:({data:=#[108]}:ByteArray)=bs [108]:=rfl;have am:({data:=#[112,40,65,44,66,41,58,45,101,40,65,44,66,41,46,112,40,65,44,66,41,58,45,101,40,65,44,67,41,44,112,40,67,44,66,41,46,63,112,46]}:ByteArray)=bs (Ck [xL0,uC,Rf]):=by rw[Ab3];rfl
 have ak:(Ck [Jd,Jc,Gg] !=Ck [Jd,Jc,Gg])=false:=by simp
 have aj:(Ck [xL0,uC,Rf]==Ck [xL0,uC,Rf])=true:=by simp
 have HU:Ajs _:=@Ab5;have HL:Ajs _:=@Aej;generalize Ck [Jd,Jc,Gg]=w1 at*
 generalize Ck [xL0,uC,Rf]=w2 at*
 refine Z9 37 [.tmp 0] Tryz.func13 ?_
 repeat' (first|refine Z1 ?_|(refine Z8 ?_;intro κ hκ)|(refine Z4 ?_;clear hκ κ)|(refine Z2 ?_ ?_<;>intro h ai<;>try exact Xp)|(refine Z5 ?_;first|(refine Xi (hO _) ?_;rintro _ _ ⟨p0,rfl,ab,ae⟩;(have e0:=HU.out ab;subst e0;clear ab;have ah:=ae.nobj))|(refine Xi (hP _) ?_;rintro _ _ ⟨p1,rfl,aa,ad⟩;(have e1:=HL.out aa;subst e1;clear aa;have af:=ad.nobj)))|refine Z3 ?_|exact⟨⟩|(apply hκ.out;clear hκ κ))
 have ac:=ae.trans ad
 first|exact⟨_,rfl,rfl,ac⟩|exact⟨_,rfl,ac⟩|exact⟨_,rfl,rfl⟩
theorem sT (t:Tx)(c:UInt8)(ht:t.length<=100000)(E:St):ACalls Tryz.prog 44 [str t,sc (.int .u8 c.toNat)] E fun r E'=>r=sc (.bool (decide (c∈t)))/\E'=E:=by
 have hC:=fun E=>iH t c ht E;have he:decide ((0:Int)<((t.count c:Nat):Int))=decide (c∈t):=by
  have:=List.count_pos_iff (a:=c) (l:=t);by_cases h:c∈t
  ·have:=this.2 h;simp only[h,decide_true,Ajj];omega
  ·have h2:¬0<t.count c:=fun g=>h (this.1 g);simp only[h,decide_false,decide_eq_false_iff_not];omega
 generalize decide (c∈t)=bb at*
 generalize t.count c=n at*
 refine Z9 9 [.tmp 4] Tryz.func44 ?_
 repeat' (first|refine Z1 ?_|(refine Z8 ?_;intro κ hκ)|(refine Z4 ?_;clear hκ κ)|(refine Z2 ?_ ?_<;>intro h aa<;>try exact Xp)|(refine Z5 ?_;refine Xi (hC _) ?_;rintro _ _ ⟨rfl,rfl⟩)|refine Z3 ?_|exact⟨⟩|(apply hκ.out;clear hκ κ))
 all_goals first|exact⟨_,rfl,rfl,rfl⟩|exact⟨_,rfl,rfl⟩|exact⟨_,rfl,by rw[he],rfl⟩|exact⟨_,rfl,by rw[he]⟩
theorem wY (c:UInt8):decide (c∈([115,97,114,117,108]:Tx))=It c:=by simp[It]
theorem bU (t:Tx)(E:St):ACalls Tryz.prog 42 [str t] E fun r E'=>r=sc (.bool (Cb t))/\E'=E:=by
 have hI:=fun c E=>sT [115,97,114,117,108] c (by simp) E;have ad:({data:=#[115,97,114,117,108]}:ByteArray)=bs [115,97,114,117,108]:=rfl;by_cases h8:8<t.length
 ·have hb:decide ((8:Int)<(t.length:Int))=true:=by simp;omega
  have HL:Ajs (Cb t=false):=by rw[Ajs,Cb,decide_eq_false Ajm];rfl
  refine Z9 18 [.tmp 2] Tryz.func42 ?_
  repeat' (first|refine Z1 ?_|(refine Z8 ?_;intro κ hκ)|(refine Z4 ?_;clear hκ κ)|(refine Z2 ?_ ?_<;>intro h aa<;>try exact Xp)|refine Z3 ?_|exact⟨⟩|(apply hκ.out;clear hκ κ))
  exact⟨_,rfl,by rw[HL.out]⟩
 ·have hb:decide ((8:Int)<(t.length:Int))=false:=by simp;omega
  refine Z9 18 [.tmp 2] Tryz.func42 ?_
  repeat' (first|refine Z1 ?_|(refine Z8 ?_;intro κ hκ)|(refine Z4 ?_;clear hκ κ)|(refine Z2 ?_ ?_<;>intro h aa<;>try exact Xp)|refine Z3 ?_|exact⟨⟩|(apply hκ.out;clear hκ κ))
  refine Af (fun m s E'=>∃i:Nat,m=t.length-i/\i<=t.length/\s 0=str t/\s 3=sc (.int .i64 i)/\E'=E/\Ajs (∀c∈t.take i,It c=true)) t.length
   ⟨0,Ajm,Ajm,rfl,rfl,rfl,by simp[Ajs]⟩ ?_
  rintro m s E' ⟨i,rfl,hi,h0,h3,hE,hA⟩;by_cases ac:i<t.length
  ·have ab:=List.getElem?_eq_getElem ac;generalize t[i]=c at ab;have hI:=hI c;rw[wY]at hI;cases hc:It c with
   |true=>
    rw[hc]at hI;have HA:Ajs (∀c∈t.take (i+1),It c=true):=by
     rw[Ajs,Agz,ab,Aia];intro d hd;rcases Ahs.1 hd with hd|hd
     ·exact hA.out d hd
     ·simp at hd;subst hd;exact hc
    clear hA hc
    repeat' (first|refine Z1 ?_|(refine Z8 ?_;intro κ hκ)|(refine Z4 ?_;clear hκ κ)|(refine Z2 ?_ ?_<;>intro h aa<;>try exact Xp)|(refine Z5 ?_;refine Xi (hI _) ?_;rintro _ _ ⟨rfl,rfl⟩)|refine Z3 ?_|exact⟨⟩|(apply hκ.out;clear hκ κ))
    refine⟨t.length-(i+1),Ajm,i+1,?_⟩
    ((repeat' with_reducible refine And.intro ?_ ?_)<;>first|exact Xq|exact (HA)|exact Xs)
   |false=>
    rw[hc]at hI;have HL:Ajs (Cb t=false):=by
     have:t.all It=false:=Aix.2 ⟨c,Agp ab,by simp[hc]⟩;rw[Ajs,Cb,this];simp
    clear hA hc
    repeat' (first|refine Z1 ?_|(refine Z8 ?_;intro κ hκ)|(refine Z4 ?_;clear hκ κ)|(refine Z2 ?_ ?_<;>intro h aa<;>try exact Xp)|(refine Z5 ?_;refine Xi (hI _) ?_;rintro _ _ ⟨rfl,rfl⟩)|refine Z3 ?_|exact⟨⟩|(apply hκ.out;clear hκ κ))
    exact⟨_,rfl,by rw[HL.out]⟩
  ·have hil:i=t.length:=Ajm;have HL:Ajs (Cb t=true):=by
    have:=hA.out;rw[hil,Agw]at this;rw[Ajs,Cb,decide_eq_true Ajm,Ago.2 this];rfl
   clear hA
   repeat' (first|refine Z1 ?_|(refine Z8 ?_;intro κ hκ)|(refine Z4 ?_;clear hκ κ)|(refine Z2 ?_ ?_<;>intro h aa<;>try exact Xp)|refine Z3 ?_|exact⟨⟩|(apply hκ.out;clear hκ κ))
   exact⟨_,rfl,by rw[HL.out]⟩
def Zd (t ps:Tx)(b:Int):Int:=if (Av t).1≠0 then (Av t).1 else if Cb ps=false then 11 else if b<0 then 6 else 0
theorem W4 (t ps:Tx)(b:Int)(E:St):ACalls Tryz.prog 18 [str t,str ps,sc (.int .i64 b)] E fun r E'=>r=sc (.int .i64 (Zd t ps b))/\Keep E E':=by
 have hC:=fun E=>nH t E;have hL:=fun E=>bU ps E;unfold Zd;generalize Av t=r at*
 obtain⟨e,pl⟩:=r;by_cases he:e=0
 ·subst he;have ad:(((0:Int)) !=0)=false:=rfl;rw[if_neg (by simp)];cases hp:Cb ps with
  |false=>
   rw[hp]at hL;refine Z9 25 [.tmp 6] Tryz.func18 ?_
   repeat' (first|refine Z1 ?_|(refine Z8 ?_;intro κ hκ)|(refine Z4 ?_;clear hκ κ)|(refine Z2 ?_ ?_<;>intro h ac<;>try exact Xp)|(refine Z5 ?_;first|(refine Xi (hC _) ?_;rintro _ _ ⟨rfl,aa⟩;(have ab:=aa.nobj))|(refine Xi (hL _) ?_;rintro _ _ ⟨rfl,rfl⟩))|refine Z3 ?_|exact⟨⟩|(apply hκ.out;clear hκ κ))
   first|exact⟨_,rfl,rfl,aa⟩|exact⟨_,rfl,aa⟩|exact⟨_,rfl,rfl⟩
  |true=>
   rw[hp]at hL;rw[if_neg (by simp)];by_cases hb:b<0
   ·have ae:decide (b<0)=true:=by simpa using hb
    rw[if_pos hb];refine Z9 25 [.tmp 6] Tryz.func18 ?_
    repeat' (first|refine Z1 ?_|(refine Z8 ?_;intro κ hκ)|(refine Z4 ?_;clear hκ κ)|(refine Z2 ?_ ?_<;>intro h ac<;>try exact Xp)|(refine Z5 ?_;first|(refine Xi (hC _) ?_;rintro _ _ ⟨rfl,aa⟩;(have ab:=aa.nobj))|(refine Xi (hL _) ?_;rintro _ _ ⟨rfl,rfl⟩))|refine Z3 ?_|exact⟨⟩|(apply hκ.out;clear hκ κ))
    first|exact⟨_,rfl,rfl,aa⟩|exact⟨_,rfl,aa⟩|exact⟨_,rfl,rfl⟩
   ·have ae:decide (b<0)=false:=by simpa using hb
    rw[if_neg hb];refine Z9 25 [.tmp 6] Tryz.func18 ?_
    repeat' (first|refine Z1 ?_|(refine Z8 ?_;intro κ hκ)|(refine Z4 ?_;clear hκ κ)|(refine Z2 ?_ ?_<;>intro h ac<;>try exact Xp)|(refine Z5 ?_;first|(refine Xi (hC _) ?_;rintro _ _ ⟨rfl,aa⟩;(have ab:=aa.nobj))|(refine Xi (hL _) ?_;rintro _ _ ⟨rfl,rfl⟩))|refine Z3 ?_|exact⟨⟩|(apply hκ.out;clear hκ κ))
    first|exact⟨_,rfl,rfl,aa⟩|exact⟨_,rfl,aa⟩|exact⟨_,rfl,rfl⟩
 ·have ad:(e !=0)=true:=by simpa using he
  rw[if_pos he];refine Z9 25 [.tmp 6] Tryz.func18 ?_
  repeat' (first|refine Z1 ?_|(refine Z8 ?_;intro κ hκ)|(refine Z4 ?_;clear hκ κ)|(refine Z2 ?_ ?_<;>intro h ac<;>try exact Xp)|(refine Z5 ?_;refine Xi (hC _) ?_;rintro _ _ ⟨rfl,aa⟩;(have ab:=aa.nobj))|refine Z3 ?_|exact⟨⟩|(apply hκ.out;clear hκ κ))
  first|exact⟨_,rfl,rfl,aa⟩|exact⟨_,rfl,aa⟩|exact⟨_,rfl,rfl⟩
theorem Abh {α β:Type}(f:α->β)(n:Nat)(o l:List α):Cp n (o.map f) (l.map f)=(Cp n o l).map f:=by
 unfold Cp;rw[List.zipIdx_map,List.flatMap_map,List.map_flatMap];congr 1;funext p;simp only[Prod.map,id];split<;>rfl
section
variable {ι:Type} {I:ι->Prop} {e e2:ι->Tm}
theorem Kp {P:List Tm}{v w t:Tm}(hP:P.length=52)(ht:Wm t)(hv:v.1=true):D7 (Sa P v w) t=if D7 P t=v then w else D7 P t:=by
 obtain⟨b,n⟩:=t;cases b with
 |true=>
  obtain⟨k,hk,e⟩:=ht rfl;dsimp only at e;subst e;have hg:=List.getElem?_eq_getElem (show k<P.length by omega);unfold D7 Sa;simp only[if_true,Ai4,List.getElem?_map,hg,Ais,Aiy]
 |false=>
  have e1:∀Q,D7 Q (false,n)=(false,n):=fun Q=>if_neg (by simp);rw[e1,e1,if_neg];intro h;rw[<-h]at hv;cases hv
theorem wT {t:Tm}(h:Wm t):D7 pidn t=t:=by
 obtain⟨b,n⟩:=t;cases b with
 |true=>
  obtain⟨k,hk,e⟩:=h rfl;dsimp only at e;subst e;simp[D7,pidn,hk]
 |false=>rfl
end
abbrev LT:=Bool×Tx
def Li:LT->Tm
 |(false,t)=>Al t
 |(true,t)=>D7 aprt (Al t)
def sdA (s:Bool)(a:RAtom):Bool×RAtom:=(s,a)
def Sg (x:RItem)(k:Nat)(y:RItem):List (Bool×RAtom):=Cp k (y.body.map (sdA true)) (x.body.map (sdA false))
def mJ (x:RItem)(B:List (Bool×RAtom)):List LT:=(x.head.terms.map fun t=>(false,t))++B.flatMap fun b=>b.2.terms.map fun t=>(b.1,t)
def jnI (x:RItem)(B:List (Bool×RAtom))(f:LT->Tx):RItem:=⟨false,⟨false,x.head.pred,x.head.terms.map fun t=>f (false,t)⟩,B.map fun b=>⟨b.2.nt,b.2.pred,b.2.terms.map fun t=>f (b.1,t)⟩⟩
theorem bV {x y:RItem}{k:Nat}{b:Bool×RAtom}(h:b∈Sg x k y):(b.1=false/\b.2∈x.body)\/(b.1=true/\b.2∈y.body):=by
 rcases Du h with h|h
 ·obtain⟨a,ha,rfl⟩:=Ahv.1 h;exact .inl ⟨rfl,ha⟩
 ·obtain⟨a,ha,rfl⟩:=Ahv.1 h;exact .inr ⟨rfl,ha⟩
theorem Ad2 {N:List Tx}{x y:RItem}{k:Nat}(hx:∀a∈x.body,a.pred∈N)(aa:x.head.pred∈N)(hy:∀a∈y.body,a.pred∈N):(Wv N x k y).map (Cy N)=(x.body[k]?).bind fun a=>(Dl pidn (a.terms.map fun t=>Li (false,t)) (y.head.terms.map fun t=>Li (true,t))).map fun P=>
  jnI x (Sg x k y) fun p=>Ia (Fl (((mJ x (Sg x k y)).map fun p=>D7 P (Li p)).foldl vF []) (D7 P (Li p))):=by
 unfold Wv;cases ha:x.body[k]? with
 |none=>rfl
 |some a=>
  simp only[Ahe];have e0:(Ex aprt (A4 N y)).head.ts=y.head.terms.map fun t=>Li (true,t):=by
   simp only[Ex,N6,A4,Ca,Ag2];rfl
  have e00:a.terms.map Al=a.terms.map fun t=>Li (false,t):=rfl;rw[e0,e00];cases Dl pidn (a.terms.map fun t=>Li (false,t)) (y.head.terms.map fun t=>Li (true,t))with
  |none=>rfl
  |some P=>
   simp only[Ais,Option.some.injEq];let lt:Bool×RAtom->Lit:=fun b=>⟨b.2.nt,⟨(N.idxOf b.2.pred:Nat),b.2.terms.map fun t=>D7 P (Li (b.1,t))⟩⟩;have eb:((Cp k (Ex aprt (A4 N y)).body (A4 N x).body).map (lS P))=(Sg x k y).map lt:=by
    have h1:(Ex aprt (A4 N y)).body=(y.body.map (sdA true)).map fun b:Bool×RAtom=>(⟨b.2.nt,⟨(N.idxOf b.2.pred:Nat),b.2.terms.map fun t=>Li (b.1,t)⟩⟩:Lit):=by
     simp only[Ex,A4,Ag2];refine Ahx fun b _=>?_;simp only[Function.comp,Dq,Ca,lS,N6,sdA,Ag2];rfl
    have h2:(A4 N x).body=(x.body.map (sdA false)).map fun b:Bool×RAtom=>(⟨b.2.nt,⟨(N.idxOf b.2.pred:Nat),b.2.terms.map fun t=>Li (b.1,t)⟩⟩:Lit):=by
     simp only[A4,Ag2];refine Ahx fun b _=>?_;simp only[Function.comp,Dq,Ca,sdA];rfl
    rw[h1,h2,Abh,Ag2];refine Ahx fun b _=>?_;simp only[Function.comp,lS,N6,Ag2,lt];rfl
   have er:Ex P ⟨(A4 N x).head,Cp k (Ex aprt (A4 N y)).body (A4 N x).body⟩=⟨⟨(N.idxOf x.head.pred:Nat),x.head.terms.map fun t=>D7 P (Li (false,t))⟩,(Sg x k y).map lt⟩:=by
    unfold Ex;simp only;rw[show N6 P (A4 N x).head=⟨(N.idxOf x.head.pred:Nat),x.head.terms.map fun t=>D7 P (Li (false,t))⟩by simp only[N6,A4,Ca,Ag2];rfl];congr 1
   have ev:Er ⟨⟨(N.idxOf x.head.pred:Nat),x.head.terms.map fun t=>D7 P (Li (false,t))⟩,(Sg x k y).map lt⟩=((mJ x (Sg x k y)).map fun p=>D7 P (Li p)).foldl vF []:=by
    unfold Er Cc G5 mJ;congr 1;simp only[Ah3,Ag1,Ag2,List.map_flatMap,List.flatMap_map];rfl
   rw[er];unfold Ep Cy jnI;rw[ev];have key:∀(q:Tx) (b:Bool) (ts:List Tm) (V:List Int),q∈N->Mh N b (fN V ⟨(N.idxOf q:Nat),ts⟩)=⟨b,q,ts.map fun u=>Ia (Fl V u)⟩:=fun q b ts V hq=>by
    unfold Mh fN;simp only[Ai4,Ag2];rw[List.getElem?_eq_getElem (Ah9 hq),Ah8];rfl
   simp only[Ag2];congr 1
   ·rw[key _ _ _ _ aa,Ag2];rfl
   ·refine Ahx fun b hb=>?_;simp only[Function.comp,reL,lt];rw[key _ _ _ _ (by rcases bV hb with⟨-,h⟩|⟨-,h⟩;exact hx _ h;exact hy _ h),Ag2];rfl
def inT (x y:RItem)(p:LT):Prop:=∃a,(p.1=false/\a∈Ae x\/p.1=true/\a∈Ae y)/\p.2∈a.terms
theorem Qa {t:Tx}(h:UT t):D7 aprt (Al t)=if Ad t=true then (true,26+(Al t).2)else Al t:=by
 cases hv:Ad t with
 |true=>
  obtain⟨k,hk,-,e⟩:=h.enc hv;rw[e];simp[D7,aprt,hk,show k<52 by omega]
 |false=>
  have e1:(Al t).1=false:=by rw[Bp];exact hv
  rw[D7,if_neg (by simp[e1])];rfl
theorem uE {t:Tx}(h:Ad t=false)(l:List Tx):Gt l t=t:=if_neg (by simp[h])
theorem Aeu {p:LT}(h:UT p.2):Wm (Li p):=by
 intro hv;obtain⟨s,t⟩:=p;cases s with
 |false=>
  have aa:Ad t=true:=by rw[<-Bp];exact hv
  obtain⟨k,hk,-,e⟩:=h.enc aa;exact⟨k,Ajm,by show (Al t).2=_;rw[e]⟩
 |true=>
  cases aa:Ad t with
  |true=>
   obtain⟨k,hk,-,e⟩:=h.enc aa;refine⟨26+k,Ajm,?_⟩;show (D7 aprt (Al t)).2=_;rw[Qa h,aa,if_pos rfl,e];simp
  |false=>
   have:(D7 aprt (Al t)).1=true:=hv;rw[Qa h,aa,if_neg (by simp),Bp,aa]at this;cases this
theorem Aev {p:LT}(h:UT p.2):(Li p).1=Ad p.2:=by
 obtain⟨s,t⟩:=p;cases s with
 |false=>exact Bp t
 |true=>
  show (D7 aprt (Al t)).1=_;rw[Qa h];cases hv:Ad t with
  |true=>rfl
  |false=>rw[if_neg (by simp),Bp];exact hv
theorem Aek {x y:RItem}{k:Nat}(hx:x.out=false)(hy:y.out=false){p:LT}(h:p∈mJ x (Sg x k y)):inT x y p:=by
 rcases Ahs.1 h with h|h
 ·obtain⟨t,ht,rfl⟩:=Ahv.1 h;exact⟨x.head,.inl ⟨rfl,Au (.inl ⟨hx,rfl⟩)⟩,ht⟩
 ·obtain⟨b,hb,h⟩:=Ahr.1 h;obtain⟨t,ht,rfl⟩:=Ahv.1 h;rcases bV hb with⟨e,hm⟩|⟨e,hm⟩
  ·exact⟨b.2,.inl ⟨e,Au (.inr hm)⟩,ht⟩
  ·exact⟨b.2,.inr ⟨e,Au (.inr hm)⟩,ht⟩
theorem RtL.ut {N:List Tx}{ar:Tx->Nat}{l:List RItem}(h:RtL N ar l){x:RItem}(hx:x∈l):∀a∈Ae x,∀t∈a.terms,UT t:=fun a ha=>((h.gl.msr x hx).at_ a ha).2.2
def nmN (N:List Tx)(l:List RItem):Prop:=∀x∈l,x.head.pred∈N/\∀a∈x.body,a.pred∈N
theorem RtL.nm {N:List Tx}{ar:Tx->Nat}{l:List RItem}(h:RtL N ar l):nmN N l:=fun x hx=>⟨bN h ⟨x,hx,.inl rfl⟩,fun a ha=>bN h ⟨x,hx,.inr ⟨a,ha,rfl⟩⟩⟩
section
variable {N N2:List Tx} {ar ar2:Tx->Nat} {R R2:List RItem} {x x2:RItem}
end
def Wnt (l:List RItem)(q:Tx):Prop:=∃x∈l,x.out=true/\(x.head.pred=q\/Way (D6 l) x.head.pred q)
theorem dE {N:List Tx}{l:List RItem}{M:Nat->Nat->Bool}(hN:nmN N l)(hM:Dr N l M){q:Tx}(hq:q∈N):Gv N (F9 N.length M N.length) l (N.idxOf q)=true↔Wnt l q:=by
 unfold Gv Wnt;simp only[Ahk,Ags,Aik,Ajj];constructor
 ·rintro⟨x,hx,ho,h⟩;refine⟨x,hx,ho,?_⟩;rcases h with h|h
  ·exact .inl (C2 (hN x hx).1 hq h)
  ·exact .inr ((Ln hN hM (hN x hx).1 hq).1 h)
 ·rintro⟨x,hx,ho,h⟩;refine⟨x,hx,ho,?_⟩;rcases h with rfl|h
  ·exact .inl rfl
  ·exact .inr ((Ln hN hM (hN x hx).1 hq).2 h)
section
variable {N N2:List Tx} {ar ar2:Tx->Nat} {l l2:List RItem} (h:LS l l2) (hR:RtL N ar l) (aa:RtL N2 ar2 l2)
include h
include hR aa
end
theorem Y9 {x:RItem}(hX:XR x)(k:Nat){N:List Tx}(hN:∀a∈x.body,a.pred∈N)(aa:∀a∈x.body,∀b∈x.body,a.pred=b.pred->a.terms.length=b.terms.length):Rb (ren x) k↔Rb x k:=by
 obtain⟨s0,e0,h1⟩:=hX.search (N:=N) (k:=k) hN aa
 obtain⟨s1,e1,h2⟩:=Nx tellU N (ren x) k (fun a ha=>by
  obtain⟨b,hb,rfl⟩:=Ahv.1 ha;exact hN b hb) (fun t ht=>hX.inO.ut _ (Au (.inl ⟨hX.out,rfl⟩)) t ht) (fun a ha t ht=>hX.inO.ut _ (Au (.inr ha)) t ht) (fun a ha b hb e=>by
  obtain⟨a',ac,rfl⟩:=Ahv.1 ha;obtain⟨b',ab,rfl⟩:=Ahv.1 hb
  simpa[Ct]using aa a' ac b' ab e) fun t ht u hu e=>tellU.inj t u ht hu e
 rw[e0]at e1;cases e1;exact h2.symm.trans h1
theorem Aa9 {N:List Tx}{ar:Tx->Nat}{l:List RItem}(hR:RtL N ar l){x:RItem}(hx:x∈l)(ho:x.out=false)(k:Nat):(kZ N x k).isSome=true↔F7 (G6 (ren x) k)=true/\Rb (ren x) k:=by
 have hu:=hR.ut hx;have hX:=hR.xr hx ho;have hN:=(hR.nm x hx).2;have aa:=hR.gl.ar x hx;obtain⟨s0,e0,h1⟩:=Nx tellU N x k hN (fun t ht=>hu _ (Au (.inl ⟨ho,rfl⟩)) t ht) (fun a ha t ht=>hu _ (Au (.inr ha)) t ht) aa fun t ht u hu e=>tellU.inj t u ht hu e;rw[Y9 hX k hN aa,<-h1];have ac:F7 (G6 (ren x) k)=Ec (G6 x k):=by
  have hs:∀z:RItem,(∀a∈Ae z,∀t∈a.terms,UT t)->z.out=false->Ec (G6 z k)=F7 (G6 z k):=fun z hz ab=>Sv (x:=G6 z k) fun a ha w hw=>by
   have ha:a=z.head\/a∈z.body.eraseIdx k:=by simpa[Ae,G6]using ha
   rcases ha with rfl|ha
   ·exact Yb (hz _ (Au (.inl ⟨ab,rfl⟩)) w hw)
   ·exact Yb (hz _ (Au (.inr (Air ha))) w hw)
  rw[<-hs (ren x) hX.inO.ut ho,hX.safe k,hs x hu ho]
 rw[ac];unfold kZ;rw[e0];simp only[Ahe];unfold Is;split
 ·rename_i hs;rw[Agy];exact⟨fun h=>⟨hs,h⟩,fun h=>h.2⟩
 ·rename_i hs;simp[hs]
section
variable {N N2:List Tx} {ar ar2:Tx->Nat} {l l2:List RItem} (h:LS l l2) (hR:RtL N ar l) (ad:RtL N2 ar2 l2)
include h hR ad
end
abbrev Ek:=Tx->Bc->Prop
def Lc (ν:Tx->Int)(t:Tx):Int:=if Ad t=true then ν t else (Al t).2
def Jx (ν:Tx->Int)(a:RAtom):Bc:=C5 (a.terms.map (Lc ν))
def HoL (M D:Ek)(ν:Tx->Int)(a:RAtom):Prop:=if a.nt=true then¬M a.pred (Jx ν a)else D a.pred (Jx ν a)
def Clo (l:List RItem)(M D:Ek):Prop:=∀x∈l,x.out=false->∀ν,(∀a∈x.body,HoL M D ν a)->D x.head.pred (Jx ν x.head)
def LstM (l:List RItem)(B M:Ek):Ek:=fun p t=>∀D:Ek,(∀p t,B p t->D p t)->Clo l M D->D p t
def Stb (l:List RItem)(B M:Ek):Prop:=∀p t,M p t↔LstM l B M p t
theorem HoL.mono {M D D':Ek}{ν:Tx->Int}{a:RAtom}(h:HoL M D ν a)(hD:∀p t,D p t->D' p t):HoL M D' ν a:=by
 unfold HoL at h⊢;split
 ·rename_i e;rw[if_pos e]at h;exact h
 ·rename_i e;rw[if_neg e]at h;exact hD _ _ h
theorem LstM.base {l:List RItem}{B M:Ek}{p:Tx}{t:Bc}(h:B p t):LstM l B M p t:=fun D hB _=>hB p t h
theorem LstM.clo (l:List RItem)(B M:Ek):Clo l M (LstM l B M):=fun x hx ho ν h D hB hC=>hC x hx ho ν fun a ha=>(h a ha).mono fun p t g=>g D hB hC
theorem LstM.inv {l:List RItem}{B M:Ek}{p:Tx}{t:Bc}(h:LstM l B M p t):B p t\/∃x∈l,x.out=false/\∃ν,(∀a∈x.body,HoL M (LstM l B M) ν a)/\p=x.head.pred/\t=Jx ν x.head:=by
 have:=h (fun p t=>LstM l B M p t/\(B p t\/∃x∈l,x.out=false/\∃ν,(∀a∈x.body,HoL M (LstM l B M) ν a)/\p=x.head.pred/\t=Jx ν x.head)) (fun p t g=>⟨LstM.base g,.inl g⟩) fun x hx ho ν hb=>by
  have aa:∀a∈x.body,HoL M (LstM l B M) ν a:=fun a ha=>(hb a ha).mono fun p t g=>g.1;exact⟨LstM.clo l B M x hx ho ν aa,.inr ⟨x,hx,ho,ν,aa,rfl,rfl⟩⟩
 exact this.2
theorem Vg {l l':List RItem}{B M:Ek}(h:∀D,Clo l M D↔Clo l' M D)(p:Tx)(t:Bc):LstM l B M p t↔LstM l' B M p t:=⟨fun g D hB hC=>g D hB ((h D).2 hC),fun g D hB hC=>g D hB ((h D).1 hC)⟩
theorem Stb.same {l l':List RItem}{B M:Ek}(hS:Stb l B M)(h:∀p t,LstM l B M p t↔LstM l' B M p t):Stb l' B M:=fun p t=>(hS p t).trans (h p t)
theorem bF {α:Type}{n:Nat}{o l:List α}{z:α}(hn:n<l.length)(hz:z∈o):z∈Cp n o l:=
 Ahr.2 ⟨(l[n],n),Aji.2 (List.getElem?_eq_getElem hn),by rw[if_pos rfl];exact hz⟩
theorem Kl {α:Type}{n j:Nat}{o l:List α}{x:α}(hx:l[j]?=some x)(hj:j≠n):x∈Cp n o l:=
 Ahr.2 ⟨(x,j),Aji.2 hx,by rw[if_neg hj];simp⟩
theorem Abg {α:Type}{n:Nat}{o l:List α}{x y:α}(hx:x∈l)(hy:l[n]?=some y)(aa:x≠y):x∈Cp n o l:=by
 obtain⟨j,hj⟩:=List.getElem?_of_mem hx;refine Kl hj fun e=>aa ?_;subst e;rw[hj]at hy;exact Aiq hy
theorem Aa4 {θ:Tx->Tx}{a b:RAtom}(h:bP θ a b)(ν:Tx->Int):Jx (fun t=>Lc ν (θ t)) a=Jx ν b:=by
 unfold Jx;rw[<-h.2.2,Ag2];congr 1;refine Ahx fun t _=>?_;simp only[Function.comp,Lc,jR];by_cases hv:Ad t=true<;>simp[hv]
theorem Aez {l:List RItem}{i k:Nat}{y:RItem}(hy:l[i]?=some y)(ho:y.out=false)(hs:Rb y k)(M D:Ek):Clo l M D↔Clo (Cp i [G6 y k] l) M D:=by
 have ab:=Agp hy;constructor
 ·intro h x hx aa ν hb;rcases Du hx with hx|hx
  ·exact h x hx aa ν hb
  ·have e:x=G6 y k:=by simpa using hx
   subst e;obtain⟨θ,h1,h2⟩:=hs;have:=h y ab ho (fun t=>Lc ν (θ t)) fun a ha=>by
    obtain⟨b,ac,hl⟩:=h2 a ha;have:=hb b ac;unfold HoL at this⊢;rw[Aa4 hl,hl.1,hl.2.1];exact this
   have e2:Jx (fun t=>Lc ν (θ t)) y.head=Jx ν y.head:=by
    unfold Jx;congr 1;refine Ahx fun t ht=>?_;unfold Lc;cases hv:Ad t with
    |false=>rfl
    |true=>simp only[if_true];rw[h1 t ht hv,hv];rfl
   rw[e2]at this;exact this
 ·intro h x hx aa ν hb;by_cases e:x=y
  ·subst e;exact h (G6 x k) (bF (List.getElem?_eq_some_iff.1 hy).1 (by simp)) rfl ν fun a ha=>hb a (Air ha)
  ·exact h x (Abg hx hy e) aa ν hb
def dT (ν:Tx->Int):Tx->Int
 |35::v=>ν v
 |u=>(Al u).2
def dvA (ν:Tx->Int)(a:RAtom):Bc:=C5 (a.terms.map (dT ν))
theorem yY (ν:Tx->Int){t:Tx}(h:VT t)(hv:Ad t=false):dT ν t=(Al t).2:=by
 rcases h with⟨b,rfl,hb⟩|⟨aa,hd⟩
 ·have:Ad [b]=true:=hb;rw[this]at hv;cases hv
 ·obtain⟨b,r,rfl⟩:=Ai7 aa;have hb:=hd b (by simp);unfold dT;split
  ·rename_i v e;have e2:=(List.cons.inj e).1;rw[e2]at hb;exact absurd hb (by decide)
  ·rfl
theorem Aex (ν:Tx->Int){t:Tx}(h:VT t):dT ν (W7 t)=Lc ν t:=by
 unfold W7 Lc;cases hv:Ad t with
 |true=>rfl
 |false=>
  simp only[Ahg,if_false];exact yY ν h hv
theorem Acp {R:List RItem}{y:RItem}(ad:∀z∈R,∀a,a=z.head\/a∈z.body->∀t∈a.terms,VT t)(ab:∀z∈R,z.out=false/\z.head.nt=false)(ac:∀a,a=y.head\/a∈y.body->∀t∈a.terms,VT t)(ae:y.head.nt=false)(h:LA R (y.body.map Px) (Px y.head)){M D:Ek}(hC:Clo R M D)(ν:Tx->Int)(hb:∀a∈y.body,HoL M D ν a):D y.head.pred (Jx ν y.head):=by
 have hf:∀a,(a=y.head\/a∈y.body)->dvA ν (Px a)=Jx ν a:=fun a ha=>by
  unfold dvA Jx Px;simp only[Ag2];congr 1;exact Ahx fun t ht=>Aex ν (ac a ha t ht)
 have hS:=h (fun a=>if a.nt=true then¬M a.pred (dvA ν a)else D a.pred (dvA ν a)) ⟨fun a ha=>?_,fun z hz μ af=>?_⟩
 ·rw[if_neg (by simp[Px,ae]),hf _ (.inl rfl)]at hS;exact hS
 ·obtain⟨b,aa,rfl⟩:=Ahv.1 ha;have:=hb b aa;unfold HoL at this;rw[hf b (.inr aa)];exact this
 ·have hm:∀a,(a=z.head\/a∈z.body)->dvA ν (Ws μ a)=Jx (fun t=>dT ν (μ t)) a:=fun a ha=>by
   unfold dvA Jx Ws;simp only[Ag2];congr 1;refine Ahx fun t ht=>?_;simp only[Function.comp,pB,Lc];by_cases hv:Ad t=true
   ·simp[hv]
   ·simp only[hv,if_false];exact yY ν (ad z hz a ha t ht) (by simpa using hv)
  have:=hC z hz (ab z hz).1 (fun t=>dT ν (μ t)) fun b aa=>by
   have:=af b aa;dsimp only at this;rw[hm b (.inr aa)]at this;exact this
  dsimp only;rw[if_neg (by simp[Ws,(ab z hz).2]),hm _ (.inl rfl)];exact this
theorem zI {l:List RItem}{i:Nat}{y:RItem}(hy:l[i]?=some y){M:Ek}(h:∀D,Clo (Cp i [] l) M D->∀ν,(∀a∈y.body,HoL M D ν a)->D y.head.pred (Jx ν y.head))(D:Ek):Clo l M D↔Clo (Cp i [] l) M D:=by
 constructor
 ·intro hC x hx;rcases Du hx with hx|hx
  ·exact hC x hx
  ·cases hx
 ·intro hC x hx ho ν hb;obtain⟨j,hj⟩:=List.getElem?_of_mem hx;by_cases e:j=i
  ·subst e;rw[hj]at hy;cases hy;exact h D hC ν hb
  ·exact hC x (Kl hj e) ho ν hb
def uD (x:RItem)(M D:Ek):Prop:=∀ν,(∀a∈x.body,HoL M D ν a)->D x.head.pred (Jx ν x.head)
theorem vC {x:RItem}(hX:XR x)(ν:Tx->Int){a:RAtom}(ha:a∈Ae x):Jx ν (Ct (A5 x) a)=Jx (fun t=>Lc ν (Gt (A5 x) t)) a:=by
 unfold Jx Ct;simp only[Ag2];congr 1;refine Ahx fun t ht=>?_;simp only[Function.comp];have hv:Ad (Gt (A5 x) t)=Ad t:=Jn fun hv=>hX.rng ha ht hv;by_cases aa:Ad t=true
 ·rw[show Lc (fun t=>Lc ν (Gt (A5 x) t)) t=Lc ν (Gt (A5 x) t)by unfold Lc;rw[if_pos aa]]
 ·have aa:Ad t=false:=by simpa using aa
  rw[uE aa];unfold Lc;rw[aa];rfl
theorem oH {x:RItem}(hX:XR x)(ν:Tx->Int){a:RAtom}(ha:a∈Ae x):Jx (fun w=>ν (jF (A5 x) w)) (Ct (A5 x) a)=Jx ν a:=by
 unfold Jx Ct;simp only[Ag2];congr 1;refine Ahx fun t ht=>?_;simp only[Function.comp,Lc];have hv:Ad (Gt (A5 x) t)=Ad t:=Jn fun hv=>hX.rng ha ht hv;rw[hv];by_cases aa:Ad t=true
 ·rw[if_pos aa,if_pos aa,hX.back ha ht aa]
 ·have ab:Ad t=false:=by simpa using aa
  rw[if_neg aa,if_neg aa,uE ab]
theorem S5 {x:RItem}(hX:XR x)(M D:Ek):uD x M D↔uD (ren x) M D:=by
 have hh:=Au (x:=x) (.inl ⟨hX.out,rfl⟩);constructor
 ·intro h ν hb;have:=h (fun t=>Lc ν (Gt (A5 x) t)) fun a ha=>by
   have:=hb (Ct (A5 x) a) (Ahv.2 ⟨a,ha,rfl⟩);unfold HoL at this⊢;rw[vC hX ν (Au (.inr ha))]at this;exact this
  show D x.head.pred (Jx ν (Ct (A5 x) x.head));rw[vC hX ν hh];exact this
 ·intro h ν hb;have:=h (fun w=>ν (jF (A5 x) w)) fun a ha=>by
   obtain⟨b,aa,rfl⟩:=Ahv.1 ha;have:=hb b aa;unfold HoL at this⊢;rw[oH hX ν (Au (.inr aa))];exact this
  have e:Jx (fun w=>ν (jF (A5 x) w)) (ren x).head=Jx ν x.head:=oH hX ν hh;rw[e]at this;exact this
theorem Clo.ren {l:List RItem}(hX:∀x∈l,x.out=false->XR x)(M D:Ek):Clo l M D↔Clo (l.map YtmoeoppbmhfbpabGreatDoorL.ren) M D:=by
 constructor
 ·intro h y hy ho;obtain⟨x,hx,rfl⟩:=Ahv.1 hy;exact (S5 (hX x hx ho) M D).1 (h x hx ho)
 ·intro h x hx ho;exact (S5 (hX x hx ho) M D).2 (h _ (Ahv.2 ⟨x,hx,rfl⟩) ho)
def tw (a b:Int):Bc:=C5 [a,b]
theorem vB {a b c d:Int}(h:tw a b=tw c d):a=c/\b=d:=by
 simp[tw,C5]at h;exact h
def nv3 (a b c:Int):Tx->Int:=fun t=>if t=[65]then a else if t=[66]then b else c
theorem cO (p q:Tx)(M D:Ek):uD (Db p q) M D↔∀a b c,D q (tw a c)->D p (tw c b)->D p (tw a b):=by
 constructor
 ·intro h a b c h1 h2;exact h (nv3 a b c) fun x hx=>by
   simp only[Db,Ahm,Ah4,Ajl]at hx;rcases hx with rfl|rfl
   ·exact h1
   ·exact h2
 ·intro h ν hb;have h1:=hb ⟨false,q,[[65],[67]]⟩ (by simp[Db]);have h2:=hb ⟨false,p,[[67],[66]]⟩ (by simp[Db]);exact h (ν [65]) (ν [66]) (ν [67]) h1 h2
theorem Aco (p e:Tx)(M D:Ek):uD (Uj p e) M D↔∀a b,D e (tw a b)->D p (tw a b):=by
 constructor
 ·intro h a b h1;exact h (nv3 a b 0) fun x hx=>by
   simp only[Uj,Ahm,Ah4,Ajl]at hx;subst hx;exact h1
 ·intro h ν hb;exact h (ν [65]) (ν [66]) (hb ⟨false,e,[[65],[66]]⟩ (by simp[Uj]))
theorem Ab0 {l l':List RItem}{p e:Tx}(ab:e≠p){B M:Ek}(hB:∀t,¬B p t)
  (h1:∀D,Clo l M D↔(∀a b,D e (tw a b)->D p (tw a b))/\(∀a b c,D p (tw a c)->D p (tw c b)->D p (tw a b))/\∀x∈l,x.out=false->x.head.pred≠p->uD x M D)
  (h2:∀D,Clo l' M D↔(∀a b,D e (tw a b)->D p (tw a b))/\(∀a b c,D e (tw a c)->D p (tw c b)->D p (tw a b))/\∀x∈l,x.out=false->x.head.pred≠p->uD x M D)
  (q:Tx) (t:Bc):LstM l B M q t↔LstM l' B M q t:=by
 constructor
 ·intro h;refine h _ (fun q t g=>LstM.base g) ((h1 _).2 ?_);obtain⟨c1,c2,c3⟩:=(h2 _).1 (LstM.clo l' B M);refine⟨c1,?_,c3⟩
  --those from which one can go on
  have key:∀q t,LstM l' B M q t->LstM l' B M q t/\(q=p->∀a c,t=tw a c->∀b,LstM l' B M p (tw c b)->LstM l' B M p (tw a b)):=fun q t g=>by
   refine g (fun q t=>LstM l' B M q t/\(q=p->∀a c,t=tw a c->∀b,LstM l' B M p (tw c b)->LstM l' B M p (tw a b))) (fun q t hb=>⟨LstM.base hb,fun e=>by subst e;exact absurd hb (hB t)⟩) ((h2 _).2 ⟨fun a b g1=>?_,fun a b c g1 g2=>?_,fun x hx ho aa ν hb=>?_⟩)
   ·refine⟨c1 a b g1.1,fun _ a' c' e b' g=>?_⟩;obtain⟨rfl,rfl⟩:=vB e;exact c2 _ _ _ g1.1 g
   ·refine⟨c2 a b c g1.1 g2.1,fun _ a' c' e b' g=>?_⟩;obtain⟨rfl,rfl⟩:=vB e;exact c2 _ _ _ g1.1 (g2.2 rfl c b rfl b' g)
   ·exact⟨c3 x hx ho aa ν fun a ha=>(hb a ha).mono fun _ _ g=>g.1,fun e=>absurd e aa⟩
  exact fun a b c g1 g2=>(key _ _ g1).2 rfl a c rfl b g2
 ·intro h;refine h _ (fun q t g=>LstM.base g) ((h2 _).2 ?_);obtain⟨c1,c2,c3⟩:=(h1 _).1 (LstM.clo l B M);exact⟨c1,fun a b c g1 g2=>c2 a b c (c1 a c g1) g2,c3⟩
end Go.Proofs.YtmoeoppbmhfbpabGreatDoorL
