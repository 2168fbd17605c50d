import Derived.Test.YtmoeoppbmhfbpabGreatDoorMOpuB
import Derived.KernelRfl
import Derived.Test.YtmoeoppbmhfbpabGreatDoorMOptH
import Derived.Test.YtmoeoppbmhfbpabGreatDoorLPrtH
import Derived.Test.YtmoeoppbmhfbpabGreatDoorMImpD
set_option maxHeartbeats 16000000
set_option maxRecDepth 100000
set_option linter.all false
namespace Go.Proofs.YtmoeoppbmhfbpabGreatDoorL
open Go.Abs
inductive Kn (T:List RItem->Option (List RItem)->Prop)(b:Int):Int->List RItem->List RItem->Int->Prop where
 |full {m:Int} {l:List RItem}:b<=m->Kn T b m l l m
 |stop {m:Int} {l:List RItem}:(∀o,T l o->o=none)->Kn T b m l l m
 |step {m m':Int} {l l1 l':List RItem}:m<b->(∀o,T l o->o=some l1)->Kn T b (m+1) l1 l' m'->Kn T b m l l' m'
theorem GChg.head {T:List RItem->Option (List RItem)->Prop}{b m m2:Int}{l l2:List RItem}(h:GChg T b l m l2 m2):(l2=l/\m2=m)\/(m<b/\∃l1,T l (some l1)/\GChg T b l1 (m+1) l2 m2):=by
 induction h with
 |refl=>exact .inl ⟨rfl,rfl⟩
 |snoc _ hb hs ih=>
  rcases ih with⟨rfl,rfl⟩|⟨h1,l1,h2,h3⟩
  ·exact .inr ⟨hb,_,hs,.refl⟩
  ·exact .inr ⟨h1,l1,h2,.snoc h3 hb hs⟩
theorem Kn.eq {T:List RItem->Option (List RItem)->Prop}{b m m' m2:Int}{l l' l2:List RItem}(hk:Kn T b m l l' m')(h:qV T b l m l2 m2):l2=l'/\m2=m':=by
 obtain⟨hc,he⟩:=h;induction hk with
 |full hb=>
  rcases hc.head with h|⟨h,-⟩
  ·exact h
  ·omega
 |stop hn=>
  rcases hc.head with h|⟨-,l1,h,-⟩
  ·exact h
  ·cases hn _ h
 |step hb hn _ ih=>
  rcases hc.head with⟨rfl,rfl⟩|⟨-,l1,h,hc⟩
  ·rcases he with he|he
   ·omega
   ·cases hn _ he
  ·cases hn _ h;exact ih hc
theorem GPss.nil_eq {T:UInt8->List RItem->Option (List RItem)->Prop}{b m m2:Int}{l l2:List RItem}{ps:Tx}(h:GPss T b l m ps l2 m2)(e:ps=[]):l2=l/\m2=m:=by
 induction h with
 |nil=>exact⟨rfl,rfl⟩
 |snoc _ _ _=>simp at e
theorem GPss.cons {T:UInt8->List RItem->Option (List RItem)->Prop}{b m m2:Int}{l l2:List RItem}{ps:Tx}(h:GPss T b l m ps l2 m2):∀c qs,ps=c::qs->∃l1 m1,qV (T c) b l m l1 m1/\GPss T b l1 m1 qs l2 m2:=by
 induction h with
 |nil=>intro c qs e;cases e
 |@snoc ps c' l1 l2 m1 m2 h1 h2 ih=>
  intro c qs e;cases ps with
  |nil=>
   simp only[Ah6,Ajv]at e;obtain⟨rfl,rfl⟩:=e;obtain⟨rfl,rfl⟩:=h1.nil_eq rfl;exact⟨l2,m2,h2,.nil⟩
  |cons a r=>
   simp only[Ah4,Ajv]at e;obtain⟨rfl,rfl⟩:=e;obtain⟨l3,m3,g1,g2⟩:=ih a r rfl;exact⟨l3,m3,g1,.snoc g2 h2⟩
def tAw:Tx:=[112,40,65,41,58,45,101,40,65,44,66,41,44,102,40,66,41,46,112,40,88,41,58,45,101,40,88,44,89,41,44,101,40,88,44,90,41,46,63,112,46]
def I8:RItem:=⟨false,⟨false,[112],[[65]]⟩,[⟨false,[101],[[65],[66]]⟩,⟨false,[102],[[66]]⟩]⟩
def kM:RItem:=⟨false,⟨false,[112],[[88]]⟩,[⟨false,[101],[[88],[89]]⟩,⟨false,[101],[[88],[90]]⟩]⟩
def Jm:RItem:=⟨true,⟨false,[112],[]⟩,[]⟩
def Lk:RItem:=⟨false,⟨false,[112],[[88]]⟩,[⟨false,[101],[[88],[90]]⟩]⟩
theorem zY:(As tAw).1=0:=Aj9
theorem zX:Cv tAw=[I8,kM,Jm]:=Aj9
theorem Ac2:Cj [Lk,Jm]=[112,40,65,41,58,45,101,40,65,44,66,41,46,63,112,46]:=Aj9
theorem Qq {N:List Tx}{x:RItem}{k:Nat}(h:Eb (G6 x k)=false):lE N x k=none:=by
 unfold lE;cases hw:Cg K6 (x.head.terms.map Ak) (x.head.terms.map Ak)with
 |none=>rfl
 |some s0=>simp[Is,h]
theorem Ku {N:List Tx}{p q:Tx}(hp:p∈N)(hq:q∈N)(h:p≠q):N.idxOf p≠N.idxOf q:=fun e=>h (by
 have h1:=Aiq (Air hp);have h2:=Aiq (Air hq);rw[<-h1,<-h2]
 congr 1)
theorem rZ {R:List Dx}{F:List De}{k:Nat}{h:Bb}{b:Bool}(A:List (Nat×Bb))(hA:A.length<=200)(aa:ClD R (fun j t=>(j,t)∈A))(hF:∀a∈F,(a.p.toNat,Cr a)∈A)(hL:LstF R F k h)(hp:uG R F k h b):b=true:=by
 obtain⟨M,hn,hs,hp⟩:=hp;have ht:tot M<=A.length:=Aea (e:=fun x=>x) hn fun j t hm=>⟨(j,t),hs j t hm _ aa hF,rfl⟩;rw[if_pos Aj6]at hp;exact hp.2.2 (hp.1 _ _ hL)
section
variable {N:List Tx} (hp:[112]∈N) (he:[101]∈N) (hf:[102]∈N)
theorem qP (aa:N.idxOf [102]≠N.idxOf [101]):lE N I8 1=none:=by
 have e1:Ak [65]=(true,0):=rfl;have e2:Ak [66]=(true,1):=rfl;have hs:Eb (G6 I8 1)=true:=Aj9;simp only[I8]at hs;unfold lE;simp only[I8,Ahj,Ahk,e1,Cg,Gw,K6,Is,hs,if_true,List.eraseIdx,Ge,e2];generalize N.idxOf [101]=n at*
 generalize N.idxOf [102]=n' at*
 simp[F7,Cg,Gw,aa]
theorem Ac3:(lE N kM 0).isSome=true:=by
 have e1:Ak [88]=(true,23):=rfl;have e2:Ak [89]=(true,24):=rfl;have e3:Ak [90]=(true,25):=rfl;have hs:Eb (G6 kM 0)=true:=Aj9;simp only[kM]at hs;unfold lE;simp only[kM,Ahj,Ahk,e1,Cg,Gw,K6,Is,hs,if_true,List.eraseIdx,Ge,e2,e3];generalize N.idxOf [101]=n at*
 simp[F7,Cg,Gw]
include hp he hf
theorem zV {o:Option (List RItem)}(h:StA N [I8,kM,Jm] o):o=some [I8,Lk,Jm]:=by
 have aa:=Ku hf he (by decide);have k00:Se N [I8,kM,Jm] 0 0=false:=by
  unfold Se;simp only[Ai9,Qq (N:=N) (x:=I8) (k:=0) Aj9,Aj1,Ajp]
 have k01:Se N [I8,kM,Jm] 0 1=false:=by
  unfold Se;simp only[Ai9,qP aa,Aj1,Ajp]
 have k10:Se N [I8,kM,Jm] 1 0=true:=by
  show ((lE N kM 0).isSome&&Cy N [I8,kM,Jm] [I8,Lk,Jm])=true;rw[Ac3];unfold Cy
  rw[show H8 [I8,Lk,Jm]=true by kernel_rfl,show (Cd [I8,Lk,Jm]).1=0 by kernel_rfl,S3 (l:=[I8,kM,Jm]) (l':=[I8,Lk,Jm]) (fun k h=>by
   unfold Cf at h⊢
   simpa[I8,kM,Jm,Lk]using h)]
  rfl
 ·rcases h with⟨-,h⟩|⟨i,k,y,rfl,h1,h2,h3,h4,h5,h6⟩
  ·rw[h 1 kM (by decide) rfl 0 (by decide)]at k10;cases k10
  ·match i,h1 with
   |0,h1=>
    cases h1
    match k,h3 with
    |0,_=>rw[k00]at h4;cases h4
    |1,_=>rw[k01]at h4;cases h4
    |k+2,h3=>simp[I8]at h3;omega
   |1,h1=>
    cases h1
    match k with
    |0=>rfl
    |k+1=>rw[h6 0 Aj6]at k10;cases k10
   |2,h1=>cases h1;cases h2
   |i+3,h1=>simp at h1
theorem zU {o:Option (List RItem)}(h:StA N [I8,Lk,Jm] o):o=none:=by
 have aa:=Ku hf he (by decide);have k00:Se N [I8,Lk,Jm] 0 0=false:=by
  unfold Se;simp only[Ai9,Qq (N:=N) (x:=I8) (k:=0) Aj9,Aj1,Ajp]
 have k01:Se N [I8,Lk,Jm] 0 1=false:=by
  unfold Se;simp only[Ai9,qP aa,Aj1,Ajp]
 have k10:Se N [I8,Lk,Jm] 1 0=false:=by
  unfold Se;simp only[List.getElem?_cons_succ,Ai9,Qq (N:=N) (x:=Lk) (k:=0) Aj9,Aj1,Ajp]
 ·rcases h with⟨h,-⟩|⟨i,k,y,rfl,h1,h2,h3,h4,h5,h6⟩
  ·exact h
  ·match i,h1 with
   |0,h1=>
    cases h1
    match k,h3 with
    |0,_=>rw[k00]at h4;cases h4
    |1,_=>rw[k01]at h4;cases h4
    |k+2,h3=>simp[I8]at h3;omega
   |1,h1=>
    cases h1
    match k,h3 with
    |0,_=>rw[k10]at h4;cases h4
    |k+1,h3=>simp[Lk]at h3
   |2,h1=>cases h1;cases h2
   |i+3,h1=>simp at h1
theorem Ae6 {b:Bool}(h:iT N [I8,Lk,Jm] 0 I8 b):b=true:=by
 have ab:=Ku he hp (by decide);have aa:=Ku hf he (by decide);have ad:=Ku hf hp (by decide);have e65:Ak [65]=(true,0):=rfl;have e66:Ak [66]=(true,1):=rfl;have e88:Ak [88]=(true,23):=rfl;have e90:Ak [90]=(true,25):=rfl;unfold iT at h;have ho:oth [I8,Lk,Jm] 0 [I8,Lk,Jm].length=[Lk]:=rfl;rw[ho]at h;have hR:([Lk].map (Gc N))=[⟨⟨(N.idxOf [112]:Nat),[(true,23)]⟩,[⟨false,⟨(N.idxOf [101]:Nat),[(true,23),(true,25)]⟩⟩]⟩]:=rfl;have hF:Ja N I8=[⟨(N.idxOf [101]:Nat),[(false,1000),(false,1001)]⟩,⟨(N.idxOf [102]:Nat),[(false,1001)]⟩]:=rfl;have hH:Cr (Ha (Gc N I8).head)=[1000,-1,-1]:=rfl;have hk:(Gc N I8).head.p.toNat=N.idxOf [112]:=rfl;rw[hR,hF,hH,hk]at h;generalize N.idxOf [112]=ip at*
 generalize N.idxOf [101]=ie at*
 generalize N.idxOf [102]=i2 at*
 refine rZ [(ie,[1000,1001,-1]),(i2,[1001,-1,-1]),(ip,[1000,-1,-1])] (by simp) ?_ ?_ ?_ h
 ·intro r hr ν hb;simp only[Ait]at hr;subst hr;have:=hb _ (Ait.2 rfl);simp only[Ajn,Be,C4,En,Ahj,Ahk,if_true]at this⊢;simp at this⊢;rcases this with h|h|h
  ·exact .inr h.1
  ·exact absurd h.1.symm aa
  ·exact absurd h.1 ab
 ·intro a ha;simp only[Ah2,Ail,Aj5]at ha;rcases ha with rfl|rfl
  ·simp[Cr,C4]
  ·simp[Cr,C4]
 ·intro D hD ac;have h1:=ac _ (Ah3 ..)
  have:=hD _ (Ait.2 rfl) (fun v=>if v=23 then 1000 else 1001) (fun l hl=>by
   simp only[Ait]at hl;subst hl
   simpa[Be,C4,En,Cr]using h1)
  simpa[Be,C4,En]using this
theorem Ac4:Cy N [I8,Lk,Jm] [Lk,Jm]=true:=by
 unfold Cy
 rw[show H8 [Lk,Jm]=true by kernel_rfl,show (Cd [Lk,Jm]).1=0 by kernel_rfl,S3 (l:=[I8,Lk,Jm]) (l':=[Lk,Jm]) (fun k h=>by
  unfold Cf at h⊢
  simpa[I8,Jm,Lk]using h)]
 rfl
theorem zT {o:Option (List RItem)}(h:StR N [I8,Lk,Jm] o):o=some [Lk,Jm]:=by
 have hb:Cy N [I8,Lk,Jm] (Co 0 [] [I8,Lk,Jm])=true:=Ac4 hp he hf;have aa:¬iT N [I8,Lk,Jm] 0 I8 false:=fun h=>by have:=Ae6 hp he hf h;cases this
 ·rcases h with⟨-,h⟩|⟨i,y,rfl,h1,h2,h3,h4,h5⟩
  ·exact absurd (h 0 I8 (by decide) rfl rfl hb) aa
  ·match i with
   |0=>rfl
   |i+1=>exact absurd (h5 0 I8 Aj6 rfl rfl hb) aa
theorem zS {o:Option (List RItem)}(h:StR N [Lk,Jm] o):o=none:=by
 have hb:Cy N [Lk,Jm] [Jm]=false:=by
  unfold Cy;have:Iy N [Jm] [Lk,Jm]=true:=by
   unfold Iy;rw[Ahz];exact⟨N.idxOf [112],by simpa using Air hp,by simp[Cf,F1,Jm,Lk]⟩
  rw[this];simp
 ·rcases h with⟨h,-⟩|⟨i,y,rfl,h1,h2,h3,h4,h5⟩
  ·exact h
  ·match i,h1,h3 with
   |0,h1,h3=>
    have:Cy N [Lk,Jm] [Jm]=true:=h3;rw[hb]at this;cases this
   |1,h1,_=>cases h1;cases h2
   |i+2,h1,_=>simp at h1
theorem zW {l':List RItem}{m:Int}(h:GPss (St5 N) 9 [I8,kM,Jm] 0 [97,114] l' m):l'=[Lk,Jm]/\m=2:=by
 obtain⟨l1,m1,h1,h2⟩:=h.cons _ _ rfl;obtain⟨l2,m2,h3,h4⟩:=h2.cons _ _ rfl;obtain⟨rfl,rfl⟩:=h4.nil_eq rfl;have c97:∀{l o},St5 N 97 l o->StA N l o:=fun h=>by
  rcases h with⟨h,-⟩|⟨-,h⟩|⟨h,-⟩|⟨h,-⟩|⟨h,-⟩<;>first|exact h|cases h
 have c114:∀{l o},St5 N 114 l o->StR N l o:=fun h=>by
  rcases h with⟨h,-⟩|⟨h,-⟩|⟨-,h⟩|⟨h,-⟩|⟨h,-⟩<;>first|exact h|cases h
 obtain⟨rfl,rfl⟩:=(Kn.step (m:=0) (b:=9) (by decide) (fun o h=>zV hp he hf (c97 h)) (.stop fun o h=>zU hp he hf (c97 h))).eq h1;exact (Kn.step (m:=0+1) (b:=9) (by decide) (fun o h=>zT hp he hf (c114 h)) (.stop fun o h=>zS hp he hf (c114 h))).eq h3
end
theorem jO {r:Tx×Int×Int}(h:G4 St5 tAw [97,114] 9 r):r=([112,40,65,41,58,45,101,40,65,44,66,41,46,63,112,46],2,0):=by
 unfold G4 at h;rw[if_neg (by simp[zY]),if_neg (by decide),if_neg (by decide)]at h;obtain⟨N,l,cs,ar,l',m,hR,-,-,hP,rfl⟩:=h;have hl:=hR.items;rw[zX]at hl;subst hl;have hm:=Hh hR.bk.el I8 (by simp);obtain⟨rfl,rfl⟩:=zW (N:=N) hm.1 (hm.2 ⟨false,[101],[[65],[66]]⟩ (by simp[I8])) (hm.2 ⟨false,[102],[[66]]⟩ (by simp[I8])) hP;rw[Ac2]
section
variable {N:List Tx} (hN:∀q:Tx,q=[113]\/q=[112]\/q=[103]\/q=[104]\/q=[107]->q∈N)
theorem Af0:¬Way (D5 [Nl,Jw,Jv,Gf]) [112] [112]:=by
 have k:∀q,D5 [Nl,Jw,Jv,Gf] [112] q->q=[104]\/q=[107]:=fun q ⟨x,hx,e,a,ha,e2⟩=>by
  subst e2;simp only[Ah2,Ail,Aj5]at hx;rcases hx with rfl|rfl|rfl|rfl
  ·cases e
  ·simp[Jw]at ha;subst ha;exact .inl rfl
  ·simp[Jv]at ha;subst ha;exact .inr rfl
  ·cases e
 have k2:∀p q,p=[104]\/p=[107]->¬D5 [Nl,Jw,Jv,Gf] p q:=fun p q hp ⟨x,hx,e,_⟩=>by
  simp only[Ah2,Ail,Aj5]at hx;rcases hx with rfl|rfl|rfl|rfl<;>rcases hp with rfl|rfl<;>cases e
 intro h;cases h with
 |one h=>rcases k _ h with h|h<;>cases h
 |more h h2=>
  cases h2 with
  |one h2=>exact k2 _ _ (k _ h) h2
  |more h2 _=>exact k2 _ _ (k _ h) h2
theorem Afz {l:List RItem}(hl:∀x∈l,x=Jd\/x=Jc\/x=Jw\/x=Jv\/x=Gf):¬Way (D5 l) [113] [112]:=by
 have k:∀q,D5 l [113] q->q=[104]\/q=[103]\/q=[107]:=fun q ⟨x,hx,e,a,ha,e2⟩=>by
  subst e2;rcases hl x hx with rfl|rfl|rfl|rfl|rfl
  ·simp[Jd]at ha;rcases ha with rfl|rfl<;>simp
  ·simp[Jc]at ha;rcases ha with rfl|rfl<;>simp
  ·cases e
  ·cases e
  ·simp[Gf]at ha
 have k2:∀p q,p=[104]\/p=[103]\/p=[107]->¬D5 l p q:=fun p q hp ⟨x,hx,e,_⟩=>by
  rcases hl x hx with rfl|rfl|rfl|rfl|rfl<;>rcases hp with rfl|rfl|rfl<;>cases e
 intro h;cases h with
 |one h=>rcases k _ h with h|h|h<;>cases h
 |more h h2=>
  cases h2 with
  |one h2=>exact k2 _ _ (k _ h) h2
  |more h2 _=>exact k2 _ _ (k _ h) h2
include hN
theorem Afl {l:List RItem}(hl:∀x∈l,x=Nl\/x=Jd\/x=Jc\/x=Jw\/x=Jv\/x=Gf):∀x∈l,x.head.pred∈N/\∀a∈x.body,a.pred∈N:=fun x hx=>by
 rcases hl x hx with rfl|rfl|rfl|rfl|rfl|rfl<;>refine⟨hN _ (by simp[Nl,Jd,Jc,Jw,Jv,Gf]),fun a ha=>?_⟩<;>simp[Nl,Jd,Jc,Jw,Jv,Gf]at ha
 ·rcases ha with rfl|rfl<;>exact hN _ (by simp)
 ·rcases ha with rfl|rfl<;>exact hN _ (by simp)
 ·rcases ha with rfl|rfl<;>exact hN _ (by simp)
 ·subst ha;exact hN _ (by simp)
 ·subst ha;exact hN _ (by simp)
theorem Aa6 {o:Option (List RItem)}(h:StU N [Nl,Jw,Jv,Gf] o):o=some [Jd,Jc,Jw,Jv,Gf]:=by
 obtain⟨M,hM,h⟩:=h;have hp:=hN [112] (by simp);have hU:F8 N.length M N.length (N.idxOf [112]) (N.idxOf [112])=false:=by
  cases e:F8 N.length M N.length (N.idxOf [112]) (N.idxOf [112])with
  |false=>rfl
  |true=>exact absurd ((Ln (Afl hN (by simp)) hM hp hp).1 e) Af0
 have hb:Cy N [Nl,Jw,Jv,Gf] [Jd,Jc,Jw,Jv,Gf]=true:=by
  unfold Cy
  rw[show H8 [Jd,Jc,Jw,Jv,Gf]=true by kernel_rfl,show (Cd [Jd,Jc,Jw,Jv,Gf]).1=0 by kernel_rfl,S3 fun k h=>by
   unfold Cf at h⊢
   simpa[Nl,Jw,Jv,Gf,Jd,Jc]using h]
  rfl
 have hk:Wr N (F8 N.length M N.length) [Nl,Jw,Jv,Gf] 0 0=true:=by
  show (!false&&(!F8 N.length M N.length (N.idxOf [112]) (N.idxOf [112])&&(Cf N [Nl,Jw,Jv,Gf] (N.idxOf [112])&&Cy N [Nl,Jw,Jv,Gf] (Co 0 (uL N [Nl,Jw,Jv,Gf] Nl 0 [112]) [Nl,Jw,Jv,Gf]))))=true;rw[hU,Afo hN,show Co 0 [Jd,Jc] [Nl,Jw,Jv,Gf]=[Jd,Jc,Jw,Jv,Gf]from rfl,hb];simp[Cf,Nl,Jw,Jv,Gf]
 rcases h with⟨-,h⟩|⟨i,k,y,a,rfl,h1,h2,h3,h4,h5,h6⟩
 ·rw[h 0 Nl (by simp) rfl 0 (by simp[Nl])]at hk;cases hk
 ·cases i with
  |succ i=>rw[h5 0 Nl Aj6 rfl 0 (by simp[Nl])]at hk;cases hk
  |zero=>
   cases k with
   |succ k=>rw[h6 0 Aj6]at hk;cases hk
   |zero=>
    cases h1;cases h3;show some (Co 0 (uL N [Nl,Jw,Jv,Gf] Nl 0 [112]) [Nl,Jw,Jv,Gf])=_;rw[Afo hN];rfl
theorem Aa5 {o:Option (List RItem)}(h:StU N [Jd,Jc,Jw,Jv,Gf] o):o=none:=by
 obtain⟨M,hM,h⟩:=h;have hr:∀q,q=[104]\/q=[103]\/q=[107]->Cf N [Jd,Jc,Jw,Jv,Gf] (N.idxOf q)=false:=fun q hq=>by
  have h1:N.idxOf [113]≠N.idxOf q:=Ku (hN _ (by simp)) (hN _ (by rcases hq with rfl|rfl|rfl<;>simp)) (by rcases hq with rfl|rfl|rfl<;>decide);have h2:N.idxOf [112]≠N.idxOf q:=Ku (hN _ (by simp)) (hN _ (by rcases hq with rfl|rfl|rfl<;>simp)) (by rcases hq with rfl|rfl|rfl<;>decide);simp[Cf,Jd,Jc,Jw,Jv,Gf,h1,h2]
 rcases h with⟨rfl,-⟩|⟨i,k,y,a,rfl,h1,h2,h3,h4,h5,h6⟩
 ·rfl
 ·have hy:=Ag1 h1;have ha:=Ag1 h3;unfold Wr at h4;rw[h1]at h4;dsimp only at h4;rw[h3]at h4;have hq:a.pred=[104]\/a.pred=[103]\/a.pred=[107]:=by
   simp only[Ah2,Ail,Aj5]at hy;rcases hy with rfl|rfl|rfl|rfl|rfl<;>simp[Jd,Jc,Jw,Jv,Gf]at ha
   ·rcases ha with rfl|rfl<;>simp
   ·rcases ha with rfl|rfl<;>simp
   ·subst ha;simp
   ·subst ha;simp
  dsimp only at h4;rw[hr _ hq]at h4;simp at h4
theorem wJ {l:List RItem}{M:Nat->Nat->Bool}(hl:∀x∈l,x=Jd\/x=Jc\/x=Jw\/x=Jv\/x=Gf)(h3:Gf∈l)(hM:Dq N l M):G3 N (F8 N.length M N.length) l=l.filter fun x=>decide (x.head.pred=[113]):=by
 unfold G3;have hi:=Afl hN (l:=l) fun x hx=>.inr (hl x hx);have hU:F8 N.length M N.length (N.idxOf [113]) (N.idxOf [112])=false:=by
  cases e:F8 N.length M N.length (N.idxOf [113]) (N.idxOf [112])with
  |false=>rfl
  |true=>exact absurd ((Ln hi hM (hN _ (by simp)) (hN _ (by simp))).1 e) (Afz hl)
 have aa:=Ku (hN [113] (by simp)) (hN [112] (by simp)) (by decide);have hq:Gv N (F8 N.length M N.length) l (N.idxOf [113])=true:=Ahz.2 ⟨Gf,h3,by simp[Gf]⟩;have hp:Gv N (F8 N.length M N.length) l (N.idxOf [112])=false:=by
  unfold Gv;rw[Aim];intro x hx;rcases hl x hx with rfl|rfl|rfl|rfl|rfl<;>simp[Jd,Jc,Jw,Jv,Gf,hU,aa]
 refine List.filter_congr fun x hx=>?_;rcases hl x hx with rfl|rfl|rfl|rfl|rfl
 ·exact hq
 ·exact hq
 ·exact hp
 ·exact hp
 ·exact hq
theorem Abi {o:Option (List RItem)}(h:StS N [Jd,Jc,Jw,Jv,Gf] o):o=some [Jd,Jc,Gf]:=by
 obtain⟨M,hM,h⟩:=h;rw[wJ hN (by simp) (by simp) hM,show [Jd,Jc,Jw,Jv,Gf].filter (fun x=>decide (x.head.pred=[113]))=[Jd,Jc,Gf]from rfl]at h;have hb:Cy N [Jd,Jc,Jw,Jv,Gf] [Jd,Jc,Gf]=true:=by
  unfold Cy;have hl:Iy N [Jd,Jc,Gf] [Jd,Jc,Jw,Jv,Gf]=false:=by
   unfold Iy;rw[Aim];intro k _ hc;simp only[Ag3,Ajo]at hc;have n1:∀q:Tx,q=[103]\/q=[104]\/q=[107]->N.idxOf q≠N.idxOf [112]:=fun q hq=>Ku (hN _ (by rcases hq with rfl|rfl|rfl<;>simp)) (hN _ (by simp)) (by rcases hq with rfl|rfl|rfl<;>decide);simp[Cf,F1,Jd,Jc,Jw,Jv,Gf]at hc;have h1:=n1 [103] (by simp);have h2:=n1 [104] (by simp);have h3:=n1 [107] (by simp);omega
  rw[show H8 [Jd,Jc,Gf]=true by kernel_rfl,show (Cd [Jd,Jc,Gf]).1=0 by kernel_rfl,hl];rfl
 rcases h with⟨h,-⟩|⟨-,⟨h,-⟩|⟨-,h⟩⟩
 ·cases h
 ·rw[hb]at h;cases h
 ·exact h
theorem Abh {o:Option (List RItem)}(h:StS N [Jd,Jc,Gf] o):o=none:=by
 obtain⟨M,hM,h⟩:=h;rw[wJ hN (by simp) (by simp) hM,show [Jd,Jc,Gf].filter (fun x=>decide (x.head.pred=[113]))=[Jd,Jc,Gf]from rfl]at h;rcases h with⟨-,h⟩|⟨h,-⟩
 ·exact h
 ·exact absurd rfl h
theorem uX {l':List RItem}{m:Int}(h:GPss (St5 N) 9 [Nl,Jw,Jv,Gf] 0 [117,115] l' m):l'=[Jd,Jc,Gf]/\m=2:=by
 obtain⟨l1,m1,h1,h2⟩:=h.cons _ _ rfl;obtain⟨l2,m2,h3,h4⟩:=h2.cons _ _ rfl;obtain⟨rfl,rfl⟩:=h4.nil_eq rfl;have c117:∀{l o},St5 N 117 l o->StU N l o:=fun h=>by
  rcases h with⟨h,-⟩|⟨h,-⟩|⟨h,-⟩|⟨-,h⟩|⟨h,-⟩<;>first|exact h|cases h
 have c115:∀{l o},St5 N 115 l o->StS N l o:=fun h=>by
  rcases h with⟨-,h⟩|⟨h,-⟩|⟨h,-⟩|⟨h,-⟩|⟨h,-⟩<;>first|exact h|cases h
 obtain⟨rfl,rfl⟩:=(Kn.step (m:=0) (b:=9) (by decide) (fun o h=>Aa6 hN (c117 h)) (.stop fun o h=>Aa5 hN (c117 h))).eq h1;exact (Kn.step (m:=0+1) (b:=9) (by decide) (fun o h=>Abi hN (c115 h)) (.stop fun o h=>Abh hN (c115 h))).eq h3
end
def tUs:Tx:=[113,40,65,41,58,45,112,40,65,44,66,41,44,103,40,66,41,46,112,40,65,44,49,41,58,45,104,40,65,41,46,112,40,65,44,66,41,58,45,107,40,66,44,65,41,46,63,113,46]
def tLi:Tx:=[112,40,65,44,66,41,58,45,101,40,65,44,66,41,46,112,40,65,44,66,41,58,45,112,40,65,44,67,41,44,112,40,67,44,66,41,46,63,112,46]
theorem uZ:(As tUs).1=0:=Aj9
theorem uY:Cv tUs=[Nl,Jw,Jv,Gf]:=Aj9
theorem Aa4:Cj [Jd,Jc,Gf]=[113,40,65,41,58,45,104,40,65,41,44,103,40,49,41,46,113,40,65,41,58,45,107,40,66,44,65,41,44,103,40,66,41,46,63,113,46]:=Aj9
theorem yG:(As tLi).1=0:=Aj9
theorem yF:Cv tLi=[xL0,dE,Rf]:=Aj9
theorem Ab8:Cj [xL0,uH,Rf]=[112,40,65,44,66,41,58,45,101,40,65,44,66,41,46,112,40,65,44,66,41,58,45,101,40,65,44,67,41,44,112,40,67,44,66,41,46,63,112,46]:=Aj9
theorem Aca {r:Tx×Int×Int}(h:G4 St5 tUs [117,115] 9 r):r=(Cj [Jd,Jc,Gf],2,0):=by
 unfold G4 at h;rw[if_neg (by simp[uZ]),if_neg (by decide),if_neg (by decide)]at h;obtain⟨N,l,cs,ar,l',m,hR,-,-,hP,rfl⟩:=h;have hl:=hR.items;rw[uY]at hl;subst hl;have h0:=Hh hR.bk.el Nl (by simp);have h1:=Hh hR.bk.el Jw (by simp);have h2:=Hh hR.bk.el Jv (by simp)
 obtain⟨rfl,rfl⟩:=uX (N:=N) (fun q hq=>by
  rcases hq with rfl|rfl|rfl|rfl|rfl
  ·exact h0.1
  ·exact h1.1
  ·exact h0.2 ⟨false,[103],[[66]]⟩ (by simp[Nl])
  ·exact h1.2 ⟨false,[104],[[65]]⟩ (by simp[Jw])
  ·exact h2.2 ⟨false,[107],[[66],[65]]⟩ (by simp[Jv])) hP
 rfl
theorem Aeo {r:Tx×Int×Int}(h:G4 St5 tLi [108] 1 r):r=(Cj [xL0,uH,Rf],1,0):=by
 unfold G4 at h;rw[if_neg (by simp[yG]),if_neg (by decide),if_neg (by decide)]at h;obtain⟨N,l,cs,ar,l',m,hR,-,-,hP,rfl⟩:=h;have hl:=hR.items;rw[yF]at hl;subst hl;obtain⟨l1,m1,h1,h2⟩:=hP.cons _ _ rfl;obtain⟨rfl,rfl⟩:=h2.nil_eq rfl;have c108:∀{l o},St5 N 108 l o->StL N l o:=fun h=>by
  rcases h with⟨h,-⟩|⟨h,-⟩|⟨h,-⟩|⟨h,-⟩|⟨-,h⟩<;>first|exact h|cases h
 obtain⟨rfl,rfl⟩:=(Kn.step (m:=0) (b:=1) (by decide) (fun o h=>yA (c108 h)) (.full (by decide))).eq h1;rfl
def dD (x:RItem):Tx:=Bc x++[46]
theorem Ael {x:RItem}(h:Ck x):W1 (dD x)=x.out:=by
 unfold W1 dD Bc;cases ho:x.out with
 |true=>simp
 |false=>
  obtain⟨h1,h2,h3,h4⟩:=h.2.2 ho;rw[if_neg (by simp)];unfold Dh A6;obtain⟨b,r,e⟩:=Ajq h1.1.1;rw[e];have hb:=h1.1.2 b (by rw[e];simp);have:b≠63:=fun e=>by subst e;revert hb;decide
  simp[this]
theorem W9 {l:List RItem}{f:RItem->Bool}{g:Tx->Bool}(h:∀x∈l,g (dD x)=f x):(l.map dD).filter g=(l.filter f).map dD:=by
 induction l with
 |nil=>rfl
 |cons x l ih=>
  have h1:=h x (by simp);have h2:=ih fun y hy=>h y (by simp[hy]);rw[Ahj,Ai5,Ai5,h1,h2];split<;>simp
theorem gE:∀l:List RItem,∀y∈l,(dD y).length<=(Bu l).length
 |[],y,hy=>by cases hy
 |z::l,y,hy=>by
  have e:Bu (z::l)=dD z++Bu l:=by simp[Bu,dD]
  simp only[e,Aho];rcases Ah2.1 hy with rfl|hy
  ·omega
  ·have:=gE l y hy;omega
theorem U8 {l:List RItem}(h:∀x∈l,Ck x):Gy (l.map dD)=((l.filter (·.out)).map dD).flatten:=by
 unfold Gy;congr 1;exact W9 fun x hx=>Ael (h x hx)
theorem mB {x:RItem}(ho:x.out=true):dD (ren x)=dD x:=by
 unfold dD Bc;rw[if_pos (show (ren x).out=true from ho),if_pos ho];rfl
theorem Rr:∀{l:List RItem},(∀x∈l,x.out=true)->(l.map ren).map dD=l.map dD
 |[],_=>rfl
 |x::l,h=>by
  rw[Ahj,Ahj,Ahj,mB (h x (by simp)),Rr fun y hy=>h y (by simp[hy])]
theorem Vo (l:List RItem):(l.map ren).filter (·.out)=(l.filter (·.out)).map ren:=by
 induction l with
 |nil=>rfl
 |cons x l ih=>
  rw[Ahj,Ai5,Ai5,ih];have:(ren x).out=x.out:=rfl;rw[this];split<;>simp
theorem iN (E:St):ACalls Tryz.prog 12 [] E fun r E'=>r=sc (.bool true)/\Keep E E':=by
 have hO:=fun E=>Mw tAw [97,114] 9 Aj6 E;have ah:({data:=#[112,40,65,41,58,45,101,40,65,44,66,41,44,102,40,66,41,46,112,40,88,41,58,45,101,40,88,44,89,41,44,101,40,88,44,90,41,46,63,112,46]}:ByteArray)=bs tAw:=rfl;have af:({data:=#[97,114]}:ByteArray)=bs [97,114]:=rfl;have ae:({data:=#[112,40,65,41,58,45,101,40,65,44,66,41,46,63,112,46]}:ByteArray)=bs [112,40,65,41,58,45,101,40,65,44,66,41,46,63,112,46]:=rfl;have ad:(([112,40,65,41,58,45,101,40,65,44,66,41,46,63,112,46]:Tx)==[112,40,65,41,58,45,101,40,65,44,66,41,46,63,112,46])=true:=rfl;refine Z9 19 [.tmp 0] Tryz.func12 ?_
 repeat' (first|refine Z1 ?_|(refine Z8 ?_;intro yb ya)|(refine Z4 ?_;clear ya yb)|(refine Z5 ?_;refine Xi (hO _) ?_;rintro _ _ ⟨p0,rfl,ab,aa⟩;(have e0:=jO ab;subst e0;clear ab;have ac:=aa.nobj))|refine Z3 ?_|exact Zt|(apply ya.out;clear ya yb))
 first|exact⟨_,rfl,rfl,aa⟩|exact⟨_,rfl,aa⟩|exact⟨_,rfl,rfl⟩
theorem mM (E:St):ACalls Tryz.prog 13 [] E fun r E'=>r=sc (.bool true)/\Keep E E':=by
 have hO:=fun E=>Mw tUs [117,115] 9 Aj6 E;have hP:=fun E=>Mw tLi [108] 1 Aj6 E;have av:({data:=#[113,40,65,41,58,45,112,40,65,44,66,41,44,103,40,66,41,46,112,40,65,44,49,41,58,45,104,40,65,41,46,112,40,65,44,66,41,58,45,107,40,66,44,65,41,46,63,113,46]}:ByteArray)=bs tUs:=rfl;have au:({data:=#[117,115]}:ByteArray)=bs [117,115]:=rfl;have ap:({data:=#[113,40,65,41,58,45,104,40,65,41,44,103,40,49,41,46,113,40,65,41,58,45,107,40,66,44,65,41,44,103,40,66,41,46,63,113,46]}:ByteArray)=bs (Cj [Jd,Jc,Gf]):=by rw[Aa4];rfl
 have ao:({data:=#[112,40,65,44,66,41,58,45,101,40,65,44,66,41,46,112,40,65,44,66,41,58,45,112,40,65,44,67,41,44,112,40,67,44,66,41,46,63,112,46]}:ByteArray)=bs tLi:=rfl;have an:({data:=#[108]}:ByteArray)=bs [108]:=rfl;have am:({data:=#[112,40,65,44,66,41,58,45,101,40,65,44,66,41,46,112,40,65,44,66,41,58,45,101,40,65,44,67,41,44,112,40,67,44,66,41,46,63,112,46]}:ByteArray)=bs (Cj [xL0,uH,Rf]):=by rw[Ab8];rfl
 have ak:(Cj [Jd,Jc,Gf] !=Cj [Jd,Jc,Gf])=false:=by simp
 have aj:(Cj [xL0,uH,Rf]==Cj [xL0,uH,Rf])=true:=by simp
 have HU:Akc _:=@Aca;have HL:Akc _:=@Aeo;generalize Cj [Jd,Jc,Gf]=w1 at*
 generalize Cj [xL0,uH,Rf]=w2 at*
 refine Z9 37 [.tmp 0] Tryz.func13 ?_
 repeat' (first|refine Z1 ?_|(refine Z8 ?_;intro yb ya)|(refine Z4 ?_;clear ya yb)|(refine Z2 ?_ ?_<;>intro h ai<;>try exact Xp)|(refine Z5 ?_;first|(refine Xi (hO _) ?_;rintro _ _ ⟨p0,rfl,ab,ae⟩;(have e0:=HU.out ab;subst e0;clear ab;have ah:=ae.nobj))|(refine Xi (hP _) ?_;rintro _ _ ⟨p1,rfl,aa,ad⟩;(have e1:=HL.out aa;subst e1;clear aa;have af:=ad.nobj)))|refine Z3 ?_|exact Zt|(apply ya.out;clear ya yb))
 have ac:=ae.trans ad
 first|exact⟨_,rfl,rfl,ac⟩|exact⟨_,rfl,ac⟩|exact⟨_,rfl,rfl⟩
theorem sY (t:Tx)(c:UInt8)(ht:t.length<=100000)(E:St):ACalls Tryz.prog 44 [str t,sc (.int .u8 c.toNat)] E fun r E'=>r=sc (.bool (decide (c∈t)))/\E'=E:=by
 have hC:=fun E=>iM t c ht E;have he:decide ((0:Int)<((t.count c:Nat):Int))=decide (c∈t):=by
  have:=List.count_pos_iff (a:=c) (l:=t);by_cases h:c∈t
  ·have:=this.2 h;simp only[h,decide_true,Aj3];omega
  ·have h2:¬0<t.count c:=fun g=>h (this.1 g);simp only[h,decide_false,decide_eq_false_iff_not];omega
 generalize decide (c∈t)=bb at*
 generalize t.count c=n at*
 refine Z9 9 [.tmp 4] Tryz.func44 ?_
 repeat' (first|refine Z1 ?_|(refine Z8 ?_;intro yb ya)|(refine Z4 ?_;clear ya yb)|(refine Z5 ?_;refine Xi (hC _) ?_;rintro _ _ ⟨rfl,rfl⟩)|refine Z3 ?_|exact Zt|(apply ya.out;clear ya yb))
 all_goals first|exact⟨_,rfl,rfl,rfl⟩|exact⟨_,rfl,rfl⟩|exact⟨_,rfl,by rw[he],rfl⟩|exact⟨_,rfl,by rw[he]⟩
theorem xD (c:UInt8):decide (c∈([115,97,114,117,108]:Tx))=It c:=by simp[It]
theorem bZ (t:Tx)(E:St):ACalls Tryz.prog 42 [str t] E fun r E'=>r=sc (.bool (Ca t))/\E'=E:=by
 have hI:=fun c E=>sY [115,97,114,117,108] c (by simp) E;have ad:({data:=#[115,97,114,117,108]}:ByteArray)=bs [115,97,114,117,108]:=rfl;by_cases h8:8<t.length
 ·have hb:decide ((8:Int)<(t.length:Int))=true:=by simp;omega
  have HL:Akc (Ca t=false):=by rw[Akc,Ca,decide_eq_false Aj6];rfl
  refine Z9 18 [.tmp 2] Tryz.func42 ?_
  repeat' (first|refine Z1 ?_|(refine Z8 ?_;intro yb ya)|(refine Z4 ?_;clear ya yb)|(refine Z2 ?_ ?_<;>intro h aa<;>try exact Xp)|refine Z3 ?_|exact Zt|(apply ya.out;clear ya yb))
  exact⟨_,rfl,by rw[HL.out]⟩
 ·have hb:decide ((8:Int)<(t.length:Int))=false:=by simp;omega
  refine Z9 18 [.tmp 2] Tryz.func42 ?_
  repeat' (first|refine Z1 ?_|(refine Z8 ?_;intro yb ya)|(refine Z4 ?_;clear ya yb)|(refine Z2 ?_ ?_<;>intro h aa<;>try exact Xp)|refine Z3 ?_|exact Zt|(apply ya.out;clear ya yb))
  refine Af (fun m s E'=>∃i:Nat,m=t.length-i/\i<=t.length/\s 0=str t/\s 3=sc (.int .i64 i)/\E'=E/\Akc (∀c∈t.take i,It c=true)) t.length
   ⟨0,Aj6,Aj6,rfl,rfl,rfl,by simp[Akc]⟩ ?_
  rintro m s E' ⟨i,rfl,hi,h0,h3,hE,hA⟩;by_cases ac:i<t.length
  ·have ab:=Agz ac;generalize t[i]=c at ab;have hI:=hI c;rw[xD]at hI;cases hc:It c with
   |true=>
    rw[hc]at hI;have HA:Akc (∀c∈t.take (i+1),It c=true):=by
     rw[Akc,Ahd,ab,Ais];intro d hd;rcases Ah8.1 hd with hd|hd
     ·exact hA.out d hd
     ·simp at hd;subst hd;exact hc
    clear hA hc
    repeat' (first|refine Z1 ?_|(refine Z8 ?_;intro yb ya)|(refine Z4 ?_;clear ya yb)|(refine Z2 ?_ ?_<;>intro h aa<;>try exact Xp)|(refine Z5 ?_;refine Xi (hI _) ?_;rintro _ _ ⟨rfl,rfl⟩)|refine Z3 ?_|exact Zt|(apply ya.out;clear ya yb))
    refine⟨t.length-(i+1),Aj6,i+1,?_⟩
    ((repeat' refine Zi ?_ ?_)<;>first|exact Xq|exact HA|exact Xs)
   |false=>
    rw[hc]at hI;have HL:Akc (Ca t=false):=by
     have:t.all It=false:=Ajg.2 ⟨c,Ag1 ab,by simp[hc]⟩;rw[Akc,Ca,this];simp
    clear hA hc
    repeat' (first|refine Z1 ?_|(refine Z8 ?_;intro yb ya)|(refine Z4 ?_;clear ya yb)|(refine Z2 ?_ ?_<;>intro h aa<;>try exact Xp)|(refine Z5 ?_;refine Xi (hI _) ?_;rintro _ _ ⟨rfl,rfl⟩)|refine Z3 ?_|exact Zt|(apply ya.out;clear ya yb))
    exact⟨_,rfl,by rw[HL.out]⟩
  ·have hil:i=t.length:=Aj6;have HL:Akc (Ca t=true):=by
    have:=hA.out;rw[hil,Ag7]at this;rw[Akc,Ca,decide_eq_true Aj6,Ag0.2 this];rfl
   clear hA
   repeat' (first|refine Z1 ?_|(refine Z8 ?_;intro yb ya)|(refine Z4 ?_;clear ya yb)|(refine Z2 ?_ ?_<;>intro h aa<;>try exact Xp)|refine Z3 ?_|exact Zt|(apply ya.out;clear ya yb))
   exact⟨_,rfl,by rw[HL.out]⟩
def Zd (t ps:Tx)(b:Int):Int:=if (As t).1≠0 then (As t).1 else if Ca ps=false then 11 else if b<0 then 6 else 0
theorem W4 (t ps:Tx)(b:Int)(E:St):ACalls Tryz.prog 18 [str t,str ps,sc (.int .i64 b)] E fun r E'=>r=sc (.int .i64 (Zd t ps b))/\Keep E E':=by
 have hC:=fun E=>nM t E;have hL:=fun E=>bZ ps E;unfold Zd;generalize As t=r at*
 obtain⟨e,pl⟩:=r;by_cases he:e=0
 ·subst he;have ad:(((0:Int)) !=0)=false:=rfl;rw[if_neg (by simp)];cases hp:Ca ps with
  |false=>
   rw[hp]at hL;refine Z9 25 [.tmp 6] Tryz.func18 ?_
   repeat' (first|refine Z1 ?_|(refine Z8 ?_;intro yb ya)|(refine Z4 ?_;clear ya yb)|(refine Z2 ?_ ?_<;>intro h ac<;>try exact Xp)|(refine Z5 ?_;first|(refine Xi (hC _) ?_;rintro _ _ ⟨rfl,aa⟩;(have ab:=aa.nobj))|(refine Xi (hL _) ?_;rintro _ _ ⟨rfl,rfl⟩))|refine Z3 ?_|exact Zt|(apply ya.out;clear ya yb))
   first|exact⟨_,rfl,rfl,aa⟩|exact⟨_,rfl,aa⟩|exact⟨_,rfl,rfl⟩
  |true=>
   rw[hp]at hL;rw[if_neg (by simp)];by_cases hb:b<0
   ·have ae:decide (b<0)=true:=by simpa using hb
    rw[if_pos hb];refine Z9 25 [.tmp 6] Tryz.func18 ?_
    repeat' (first|refine Z1 ?_|(refine Z8 ?_;intro yb ya)|(refine Z4 ?_;clear ya yb)|(refine Z2 ?_ ?_<;>intro h ac<;>try exact Xp)|(refine Z5 ?_;first|(refine Xi (hC _) ?_;rintro _ _ ⟨rfl,aa⟩;(have ab:=aa.nobj))|(refine Xi (hL _) ?_;rintro _ _ ⟨rfl,rfl⟩))|refine Z3 ?_|exact Zt|(apply ya.out;clear ya yb))
    first|exact⟨_,rfl,rfl,aa⟩|exact⟨_,rfl,aa⟩|exact⟨_,rfl,rfl⟩
   ·have ae:decide (b<0)=false:=by simpa using hb
    rw[if_neg hb];refine Z9 25 [.tmp 6] Tryz.func18 ?_
    repeat' (first|refine Z1 ?_|(refine Z8 ?_;intro yb ya)|(refine Z4 ?_;clear ya yb)|(refine Z2 ?_ ?_<;>intro h ac<;>try exact Xp)|(refine Z5 ?_;first|(refine Xi (hC _) ?_;rintro _ _ ⟨rfl,aa⟩;(have ab:=aa.nobj))|(refine Xi (hL _) ?_;rintro _ _ ⟨rfl,rfl⟩))|refine Z3 ?_|exact Zt|(apply ya.out;clear ya yb))
    first|exact⟨_,rfl,rfl,aa⟩|exact⟨_,rfl,aa⟩|exact⟨_,rfl,rfl⟩
 ·have ad:(e !=0)=true:=by simpa using he
  rw[if_pos he];refine Z9 25 [.tmp 6] Tryz.func18 ?_
  repeat' (first|refine Z1 ?_|(refine Z8 ?_;intro yb ya)|(refine Z4 ?_;clear ya yb)|(refine Z2 ?_ ?_<;>intro h ac<;>try exact Xp)|(refine Z5 ?_;refine Xi (hC _) ?_;rintro _ _ ⟨rfl,aa⟩;(have ab:=aa.nobj))|refine Z3 ?_|exact Zt|(apply ya.out;clear ya yb))
  first|exact⟨_,rfl,rfl,aa⟩|exact⟨_,rfl,aa⟩|exact⟨_,rfl,rfl⟩
theorem Abm {α β:Type}(f:α->β)(n:Nat)(o l:List α):Co n (o.map f) (l.map f)=(Co n o l).map f:=by
 unfold Co;rw[List.zipIdx_map,List.flatMap_map,List.map_flatMap];congr 1;funext p;simp only[Prod.map,id];split<;>rfl
section
variable {ι:Type} {I:ι->Prop} {e e2:ι->Tm}
theorem Kp {P:List Tm}{v w t:Tm}(hP:P.length=52)(ht:Wm t)(hv:v.1=true):D6 (Sa P v w) t=if D6 P t=v then w else D6 P t:=by
 obtain⟨b,n⟩:=t;cases b with
 |true=>
  obtain⟨k,hk,e⟩:=ht rfl;dsimp only at e;subst e;have hg:=Agz (show k<P.length by omega);unfold D6 Sa;simp only[if_true,Ajn,Aha,hg,Ajb,Ajh]
 |false=>
  have e1:∀Q,D6 Q (false,n)=(false,n):=fun Q=>if_neg (by simp);rw[e1,e1,if_neg];intro h;rw[<-h]at hv;cases hv
theorem wY {t:Tm}(h:Wm t):D6 pidn t=t:=by
 obtain⟨b,n⟩:=t;cases b with
 |true=>
  obtain⟨k,hk,e⟩:=h rfl;dsimp only at e;subst e;simp[D6,pidn,hk]
 |false=>rfl
end
abbrev LT:=Bool×Tx
def Li:LT->Tm
 |(false,t)=>Ak t
 |(true,t)=>D6 aprt (Ak t)
def sdA (s:Bool)(a:RAtom):Bool×RAtom:=(s,a)
def Sg (x:RItem)(k:Nat)(y:RItem):List (Bool×RAtom):=Co k (y.body.map (sdA true)) (x.body.map (sdA false))
def mO (x:RItem)(B:List (Bool×RAtom)):List LT:=(x.head.terms.map fun t=>(false,t))++B.flatMap fun b=>b.2.terms.map fun t=>(b.1,t)
def jnI (x:RItem)(B:List (Bool×RAtom))(f:LT->Tx):RItem:=⟨false,⟨false,x.head.pred,x.head.terms.map fun t=>f (false,t)⟩,B.map fun b=>⟨b.2.nt,b.2.pred,b.2.terms.map fun t=>f (b.1,t)⟩⟩
theorem cA {x y:RItem}{k:Nat}{b:Bool×RAtom}(h:b∈Sg x k y):(b.1=false/\b.2∈x.body)\/(b.1=true/\b.2∈y.body):=by
 rcases Dt h with h|h
 ·obtain⟨a,ha,rfl⟩:=Aib.1 h;exact .inl ⟨rfl,ha⟩
 ·obtain⟨a,ha,rfl⟩:=Aib.1 h;exact .inr ⟨rfl,ha⟩
theorem Ad7 {N:List Tx}{x y:RItem}{k:Nat}(hx:∀a∈x.body,a.pred∈N)(aa:x.head.pred∈N)(hy:∀a∈y.body,a.pred∈N):(Wv N x k y).map (Cx N)=(x.body[k]?).bind fun a=>(Dk pidn (a.terms.map fun t=>Li (false,t)) (y.head.terms.map fun t=>Li (true,t))).map fun P=>
  jnI x (Sg x k y) fun p=>Ia (Fj (((mO x (Sg x k y)).map fun p=>D6 P (Li p)).foldl vF []) (D6 P (Li p))):=by
 unfold Wv;cases ha:x.body[k]? with
 |none=>rfl
 |some a=>
  simp only[Aht];have e0:(Ew aprt (A3 N y)).head.ts=y.head.terms.map fun t=>Li (true,t):=by
   simp only[Ew,N6,A3,B9,Ahg];rfl
  have e00:a.terms.map Ak=a.terms.map fun t=>Li (false,t):=rfl;rw[e0,e00];cases Dk pidn (a.terms.map fun t=>Li (false,t)) (y.head.terms.map fun t=>Li (true,t))with
  |none=>rfl
  |some P=>
   simp only[Ajb,Option.some.injEq];let lt:Bool×RAtom->Lit:=fun b=>⟨b.2.nt,⟨(N.idxOf b.2.pred:Nat),b.2.terms.map fun t=>D6 P (Li (b.1,t))⟩⟩;have eb:((Co k (Ew aprt (A3 N y)).body (A3 N x).body).map (lY P))=(Sg x k y).map lt:=by
    have h1:(Ew aprt (A3 N y)).body=(y.body.map (sdA true)).map fun b:Bool×RAtom=>(⟨b.2.nt,⟨(N.idxOf b.2.pred:Nat),b.2.terms.map fun t=>Li (b.1,t)⟩⟩:Lit):=by
     simp only[Ew,A3,Ahg];refine Aid fun b _=>?_;simp only[Function.comp,Dp,B9,lY,N6,sdA,Ahg];rfl
    have h2:(A3 N x).body=(x.body.map (sdA false)).map fun b:Bool×RAtom=>(⟨b.2.nt,⟨(N.idxOf b.2.pred:Nat),b.2.terms.map fun t=>Li (b.1,t)⟩⟩:Lit):=by
     simp only[A3,Ahg];refine Aid fun b _=>?_;simp only[Function.comp,Dp,B9,sdA];rfl
    rw[h1,h2,Abm,Ahg];refine Aid fun b _=>?_;simp only[Function.comp,lY,N6,Ahg,lt];rfl
   have er:Ew P ⟨(A3 N x).head,Co k (Ew aprt (A3 N y)).body (A3 N x).body⟩=⟨⟨(N.idxOf x.head.pred:Nat),x.head.terms.map fun t=>D6 P (Li (false,t))⟩,(Sg x k y).map lt⟩:=by
    unfold Ew;simp only;rw[show N6 P (A3 N x).head=⟨(N.idxOf x.head.pred:Nat),x.head.terms.map fun t=>D6 P (Li (false,t))⟩by simp only[N6,A3,B9,Ahg];rfl];congr 1
   have ev:Ep ⟨⟨(N.idxOf x.head.pred:Nat),x.head.terms.map fun t=>D6 P (Li (false,t))⟩,(Sg x k y).map lt⟩=((mO x (Sg x k y)).map fun p=>D6 P (Li p)).foldl vF []:=by
    unfold Ep Cb G5 mO;congr 1;simp only[Aik,Ahf,Ahg,List.map_flatMap,List.flatMap_map];rfl
   rw[er];unfold Eo Cx jnI;rw[ev];have key:∀(q:Tx) (b:Bool) (ts:List Tm) (V:List Int),q∈N->Mh N b (fS V ⟨(N.idxOf q:Nat),ts⟩)=⟨b,q,ts.map fun u=>Ia (Fj V u)⟩:=fun q b ts V hq=>by
    unfold Mh fS;simp only[Ajn,Ahg];rw[Agz (Air hq),Aiq];rfl
   simp only[Ahg];congr 1
   ·rw[key _ _ _ _ aa,Ahg];rfl
   ·refine Aid fun b hb=>?_;simp only[Function.comp,reL,lt];rw[key _ _ _ _ (by rcases cA hb with⟨-,h⟩|⟨-,h⟩;exact hx _ h;exact hy _ h),Ahg];rfl
def inT (x y:RItem)(p:LT):Prop:=∃a,(p.1=false/\a∈Ae x\/p.1=true/\a∈Ae y)/\p.2∈a.terms
theorem Qa {t:Tx}(h:UT t):D6 aprt (Ak t)=if Ad t=true then (true,26+(Ak t).2)else Ak t:=by
 cases hv:Ad t with
 |true=>
  obtain⟨k,hk,-,e⟩:=h.enc hv;rw[e];simp[D6,aprt,hk,show k<52 by omega]
 |false=>
  have e1:(Ak t).1=false:=by rw[Bo];exact hv
  rw[D6,if_neg (by simp[e1])];rfl
theorem uJ {t:Tx}(h:Ad t=false)(l:List Tx):Gt l t=t:=if_neg (by simp[h])
theorem Aez {p:LT}(h:UT p.2):Wm (Li p):=by
 intro hv;obtain⟨s,t⟩:=p;cases s with
 |false=>
  have aa:Ad t=true:=by rw[<-Bo];exact hv
  obtain⟨k,hk,-,e⟩:=h.enc aa;exact⟨k,Aj6,by show (Ak t).2=_;rw[e]⟩
 |true=>
  cases aa:Ad t with
  |true=>
   obtain⟨k,hk,-,e⟩:=h.enc aa;refine⟨26+k,Aj6,?_⟩;show (D6 aprt (Ak t)).2=_;rw[Qa h,aa,if_pos rfl,e];simp
  |false=>
   have:(D6 aprt (Ak t)).1=true:=hv;rw[Qa h,aa,if_neg (by simp),Bo,aa]at this;cases this
theorem Ae0 {p:LT}(h:UT p.2):(Li p).1=Ad p.2:=by
 obtain⟨s,t⟩:=p;cases s with
 |false=>exact Bo t
 |true=>
  show (D6 aprt (Ak t)).1=_;rw[Qa h];cases hv:Ad t with
  |true=>rfl
  |false=>rw[if_neg (by simp),Bo];exact hv
theorem Aep {x y:RItem}{k:Nat}(hx:x.out=false)(hy:y.out=false){p:LT}(h:p∈mO x (Sg x k y)):inT x y p:=by
 rcases Ah8.1 h with h|h
 ·obtain⟨t,ht,rfl⟩:=Aib.1 h;exact⟨x.head,.inl ⟨rfl,Ar (.inl ⟨hx,rfl⟩)⟩,ht⟩
 ·obtain⟨b,hb,h⟩:=Ah7.1 h;obtain⟨t,ht,rfl⟩:=Aib.1 h;rcases cA hb with⟨e,hm⟩|⟨e,hm⟩
  ·exact⟨b.2,.inl ⟨e,Ar (.inr hm)⟩,ht⟩
  ·exact⟨b.2,.inr ⟨e,Ar (.inr hm)⟩,ht⟩
theorem RtL.ut {N:List Tx}{ar:Tx->Nat}{l:List RItem}(h:RtL N ar l){x:RItem}(hx:x∈l):∀a∈Ae x,∀t∈a.terms,UT t:=fun a ha=>((h.gl.msr x hx).at_ a ha).2.2
def nmN (N:List Tx)(l:List RItem):Prop:=∀x∈l,x.head.pred∈N/\∀a∈x.body,a.pred∈N
theorem RtL.nm {N:List Tx}{ar:Tx->Nat}{l:List RItem}(h:RtL N ar l):nmN N l:=fun x hx=>⟨bS h ⟨x,hx,.inl rfl⟩,fun a ha=>bS h ⟨x,hx,.inr ⟨a,ha,rfl⟩⟩⟩
def Wnt (l:List RItem)(q:Tx):Prop:=∃x∈l,x.out=true/\(x.head.pred=q\/Way (D5 l) x.head.pred q)
theorem dJ {N:List Tx}{l:List RItem}{M:Nat->Nat->Bool}(hN:nmN N l)(hM:Dq N l M){q:Tx}(hq:q∈N):Gv N (F8 N.length M N.length) l (N.idxOf q)=true↔Wnt l q:=by
 unfold Gv Wnt;simp only[Ahz,Ag3,Ai2,Aj3];constructor
 ·rintro⟨x,hx,ho,h⟩;refine⟨x,hx,ho,?_⟩;rcases h with h|h
  ·exact .inl (C1 (hN x hx).1 hq h)
  ·exact .inr ((Ln hN hM (hN x hx).1 hq).1 h)
 ·rintro⟨x,hx,ho,h⟩;refine⟨x,hx,ho,?_⟩;rcases h with rfl|h
  ·exact .inl rfl
  ·exact .inr ((Ln hN hM (hN x hx).1 hq).2 h)
theorem Y9 {x:RItem}(hX:XR x)(k:Nat){N:List Tx}(hN:∀a∈x.body,a.pred∈N)(aa:∀a∈x.body,∀b∈x.body,a.pred=b.pred->a.terms.length=b.terms.length):Rb (ren x) k↔Rb x k:=by
 obtain⟨s0,e0,h1⟩:=hX.search (N:=N) (k:=k) hN aa
 obtain⟨s1,e1,h2⟩:=Nx tellU N (ren x) k (fun a ha=>by
  obtain⟨b,hb,rfl⟩:=Aib.1 ha;exact hN b hb) (fun t ht=>hX.inO.ut _ (Ar (.inl ⟨hX.out,rfl⟩)) t ht) (fun a ha t ht=>hX.inO.ut _ (Ar (.inr ha)) t ht) (fun a ha b hb e=>by
  obtain⟨a',ac,rfl⟩:=Aib.1 ha;obtain⟨b',ab,rfl⟩:=Aib.1 hb
  simpa[Cs]using aa a' ac b' ab e) fun t ht u hu e=>tellU.inj t u ht hu e
 rw[e0]at e1;cases e1;exact h2.symm.trans h1
theorem Abe {N:List Tx}{ar:Tx->Nat}{l:List RItem}(hR:RtL N ar l){x:RItem}(hx:x∈l)(ho:x.out=false)(k:Nat):(lE N x k).isSome=true↔F6 (G6 (ren x) k)=true/\Rb (ren x) k:=by
 have hu:=hR.ut hx;have hX:=hR.xr hx ho;have hN:=(hR.nm x hx).2;have aa:=hR.gl.ar x hx;obtain⟨s0,e0,h1⟩:=Nx tellU N x k hN (fun t ht=>hu _ (Ar (.inl ⟨ho,rfl⟩)) t ht) (fun a ha t ht=>hu _ (Ar (.inr ha)) t ht) aa fun t ht u hu e=>tellU.inj t u ht hu e;rw[Y9 hX k hN aa,<-h1];have ac:F6 (G6 (ren x) k)=Eb (G6 x k):=by
  have hs:∀z:RItem,(∀a∈Ae z,∀t∈a.terms,UT t)->z.out=false->Eb (G6 z k)=F6 (G6 z k):=fun z hz ab=>Sv (x:=G6 z k) fun a ha w hw=>by
   have ha:a=z.head\/a∈z.body.eraseIdx k:=by simpa[Ae,G6]using ha
   rcases ha with rfl|ha
   ·exact Yb (hz _ (Ar (.inl ⟨ab,rfl⟩)) w hw)
   ·exact Yb (hz _ (Ar (.inr (Aja ha))) w hw)
  rw[<-hs (ren x) hX.inO.ut ho,hX.safe k,hs x hu ho]
 rw[ac];unfold lE;rw[e0];simp only[Aht];unfold Is;split
 ·rename_i hs;rw[Ahc];exact⟨fun h=>⟨hs,h⟩,fun h=>h.2⟩
 ·rename_i hs;simp[hs]
abbrev Ej:=Tx->Bb->Prop
def Lc (ν:Tx->Int)(t:Tx):Int:=if Ad t=true then ν t else (Ak t).2
def Jx (ν:Tx->Int)(a:RAtom):Bb:=C4 (a.terms.map (Lc ν))
def HoL (M D:Ej)(ν:Tx->Int)(a:RAtom):Prop:=if a.nt=true then¬M a.pred (Jx ν a)else D a.pred (Jx ν a)
def Clo (l:List RItem)(M D:Ej):Prop:=∀x∈l,x.out=false->∀ν,(∀a∈x.body,HoL M D ν a)->D x.head.pred (Jx ν x.head)
def LstM (l:List RItem)(B M:Ej):Ej:=fun p t=>∀D:Ej,(∀p t,B p t->D p t)->Clo l M D->D p t
def Stb (l:List RItem)(B M:Ej):Prop:=∀p t,M p t↔LstM l B M p t
theorem HoL.mono {M D D':Ej}{ν:Tx->Int}{a:RAtom}(h:HoL M D ν a)(hD:∀p t,D p t->D' p t):HoL M D' ν a:=by
 unfold HoL at h⊢;split
 ·rename_i e;rw[if_pos e]at h;exact h
 ·rename_i e;rw[if_neg e]at h;exact hD _ _ h
theorem LstM.base {l:List RItem}{B M:Ej}{p:Tx}{t:Bb}(h:B p t):LstM l B M p t:=fun D hB _=>hB p t h
theorem LstM.clo (l:List RItem)(B M:Ej):Clo l M (LstM l B M):=fun x hx ho ν h D hB hC=>hC x hx ho ν fun a ha=>(h a ha).mono fun p t g=>g D hB hC
theorem LstM.inv {l:List RItem}{B M:Ej}{p:Tx}{t:Bb}(h:LstM l B M p t):B p t\/∃x∈l,x.out=false/\∃ν,(∀a∈x.body,HoL M (LstM l B M) ν a)/\p=x.head.pred/\t=Jx ν x.head:=by
 have:=h (fun p t=>LstM l B M p t/\(B p t\/∃x∈l,x.out=false/\∃ν,(∀a∈x.body,HoL M (LstM l B M) ν a)/\p=x.head.pred/\t=Jx ν x.head)) (fun p t g=>⟨LstM.base g,.inl g⟩) fun x hx ho ν hb=>by
  have aa:∀a∈x.body,HoL M (LstM l B M) ν a:=fun a ha=>(hb a ha).mono fun p t g=>g.1;exact⟨LstM.clo l B M x hx ho ν aa,.inr ⟨x,hx,ho,ν,aa,rfl,rfl⟩⟩
 exact this.2
theorem Vg {l l':List RItem}{B M:Ej}(h:∀D,Clo l M D↔Clo l' M D)(p:Tx)(t:Bb):LstM l B M p t↔LstM l' B M p t:=⟨fun g D hB hC=>g D hB ((h D).2 hC),fun g D hB hC=>g D hB ((h D).1 hC)⟩
theorem Stb.same {l l':List RItem}{B M:Ej}(hS:Stb l B M)(h:∀p t,LstM l B M p t↔LstM l' B M p t):Stb l' B M:=fun p t=>(hS p t).trans (h p t)
theorem bK {α:Type}{n:Nat}{o l:List α}{z:α}(hn:n<l.length)(hz:z∈o):z∈Co n o l:=
 Ah7.2 ⟨(l[n],n),Aj2.2 (Agz hn),by rw[if_pos rfl];exact hz⟩
theorem Kl {α:Type}{n j:Nat}{o l:List α}{x:α}(hx:l[j]?=some x)(hj:j≠n):x∈Co n o l:=
 Ah7.2 ⟨(x,j),Aj2.2 hx,by rw[if_neg hj];simp⟩
theorem Abl {α:Type}{n:Nat}{o l:List α}{x y:α}(hx:x∈l)(hy:l[n]?=some y)(aa:x≠y):x∈Co n o l:=by
 obtain⟨j,hj⟩:=Aif hx;refine Kl hj fun e=>aa ?_;subst e;rw[hj]at hy;exact Ai8 hy
theorem Aa9 {θ:Tx->Tx}{a b:RAtom}(h:bV θ a b)(ν:Tx->Int):Jx (fun t=>Lc ν (θ t)) a=Jx ν b:=by
 unfold Jx;rw[<-h.2.2,Ahg];congr 1;refine Aid fun t _=>?_;simp only[Function.comp,Lc,jW];by_cases hv:Ad t=true<;>simp[hv]
theorem Ae4 {l:List RItem}{i k:Nat}{y:RItem}(hy:l[i]?=some y)(ho:y.out=false)(hs:Rb y k)(M D:Ej):Clo l M D↔Clo (Co i [G6 y k] l) M D:=by
 have ab:=Ag1 hy;constructor
 ·intro h x hx aa ν hb;rcases Dt hx with hx|hx
  ·exact h x hx aa ν hb
  ·have e:x=G6 y k:=by simpa using hx
   subst e;obtain⟨θ,h1,h2⟩:=hs;have:=h y ab ho (fun t=>Lc ν (θ t)) fun a ha=>by
    obtain⟨b,ac,hl⟩:=h2 a ha;have:=hb b ac;unfold HoL at this⊢;rw[Aa9 hl,hl.1,hl.2.1];exact this
   have e2:Jx (fun t=>Lc ν (θ t)) y.head=Jx ν y.head:=by
    unfold Jx;congr 1;refine Aid fun t ht=>?_;unfold Lc;cases hv:Ad t with
    |false=>rfl
    |true=>simp only[if_true];rw[h1 t ht hv,hv];rfl
   rw[e2]at this;exact this
 ·intro h x hx aa ν hb;by_cases e:x=y
  ·subst e;exact h (G6 x k) (bK (Agy.1 hy).1 (by simp)) rfl ν fun a ha=>hb a (Aja ha)
  ·exact h x (Abl hx hy e) aa ν hb
def dT (ν:Tx->Int):Tx->Int
 |35::v=>ν v
 |u=>(Ak u).2
def dvA (ν:Tx->Int)(a:RAtom):Bb:=C4 (a.terms.map (dT ν))
theorem zD (ν:Tx->Int){t:Tx}(h:VT t)(hv:Ad t=false):dT ν t=(Ak t).2:=by
 rcases h with⟨b,rfl,hb⟩|⟨aa,hd⟩
 ·have:Ad [b]=true:=hb;rw[this]at hv;cases hv
 ·obtain⟨b,r,rfl⟩:=Ajq aa;have hb:=hd b (by simp);unfold dT;split
  ·rename_i v e;have e2:=(List.cons.inj e).1;rw[e2]at hb;exact absurd hb (by decide)
  ·rfl
theorem Ae2 (ν:Tx->Int){t:Tx}(h:VT t):dT ν (W7 t)=Lc ν t:=by
 unfold W7 Lc;cases hv:Ad t with
 |true=>rfl
 |false=>
  simp only[Ahv,if_false];exact zD ν h hv
theorem Acw {R:List RItem}{y:RItem}(ad:∀z∈R,∀a,a=z.head\/a∈z.body->∀t∈a.terms,VT t)(ab:∀z∈R,z.out=false/\z.head.nt=false)(ac:∀a,a=y.head\/a∈y.body->∀t∈a.terms,VT t)(ae:y.head.nt=false)(h:LA R (y.body.map Px) (Px y.head)){M D:Ej}(hC:Clo R M D)(ν:Tx->Int)(hb:∀a∈y.body,HoL M D ν a):D y.head.pred (Jx ν y.head):=by
 have hf:∀a,(a=y.head\/a∈y.body)->dvA ν (Px a)=Jx ν a:=fun a ha=>by
  unfold dvA Jx Px;simp only[Ahg];congr 1;exact Aid fun t ht=>Ae2 ν (ac a ha t ht)
 have hS:=h (fun a=>if a.nt=true then¬M a.pred (dvA ν a)else D a.pred (dvA ν a)) ⟨fun a ha=>?_,fun z hz μ af=>?_⟩
 ·rw[if_neg (by simp[Px,ae]),hf _ (.inl rfl)]at hS;exact hS
 ·obtain⟨b,aa,rfl⟩:=Aib.1 ha;have:=hb b aa;unfold HoL at this;rw[hf b (.inr aa)];exact this
 ·have hm:∀a,(a=z.head\/a∈z.body)->dvA ν (Ws μ a)=Jx (fun t=>dT ν (μ t)) a:=fun a ha=>by
   unfold dvA Jx Ws;simp only[Ahg];congr 1;refine Aid fun t ht=>?_;simp only[Function.comp,pG,Lc];by_cases hv:Ad t=true
   ·simp[hv]
   ·simp only[hv,if_false];exact zD ν (ad z hz a ha t ht) (by simpa using hv)
  have:=hC z hz (ab z hz).1 (fun t=>dT ν (μ t)) fun b aa=>by
   have:=af b aa;dsimp only at this;rw[hm b (.inr aa)]at this;exact this
  dsimp only;rw[if_neg (by simp[Ws,(ab z hz).2]),hm _ (.inl rfl)];exact this
theorem zN {l:List RItem}{i:Nat}{y:RItem}(hy:l[i]?=some y){M:Ej}(h:∀D,Clo (Co i [] l) M D->∀ν,(∀a∈y.body,HoL M D ν a)->D y.head.pred (Jx ν y.head))(D:Ej):Clo l M D↔Clo (Co i [] l) M D:=by
 constructor
 ·intro hC x hx;rcases Dt hx with hx|hx
  ·exact hC x hx
  ·cases hx
 ·intro hC x hx ho ν hb;obtain⟨j,hj⟩:=Aif hx;by_cases e:j=i
  ·subst e;rw[hj]at hy;cases hy;exact h D hC ν hb
  ·exact hC x (Kl hj e) ho ν hb
def uI (x:RItem)(M D:Ej):Prop:=∀ν,(∀a∈x.body,HoL M D ν a)->D x.head.pred (Jx ν x.head)
theorem vI {x:RItem}(hX:XR x)(ν:Tx->Int){a:RAtom}(ha:a∈Ae x):Jx ν (Cs (A4 x) a)=Jx (fun t=>Lc ν (Gt (A4 x) t)) a:=by
 unfold Jx Cs;simp only[Ahg];congr 1;refine Aid fun t ht=>?_;simp only[Function.comp];have hv:Ad (Gt (A4 x) t)=Ad t:=Jn fun hv=>hX.rng ha ht hv;by_cases aa:Ad t=true
 ·rw[show Lc (fun t=>Lc ν (Gt (A4 x) t)) t=Lc ν (Gt (A4 x) t)by unfold Lc;rw[if_pos aa]]
 ·have aa:Ad t=false:=by simpa using aa
  rw[uJ aa];unfold Lc;rw[aa];rfl
theorem oM {x:RItem}(hX:XR x)(ν:Tx->Int){a:RAtom}(ha:a∈Ae x):Jx (fun w=>ν (jK (A4 x) w)) (Cs (A4 x) a)=Jx ν a:=by
 unfold Jx Cs;simp only[Ahg];congr 1;refine Aid fun t ht=>?_;simp only[Function.comp,Lc];have hv:Ad (Gt (A4 x) t)=Ad t:=Jn fun hv=>hX.rng ha ht hv;rw[hv];by_cases aa:Ad t=true
 ·rw[if_pos aa,if_pos aa,hX.back ha ht aa]
 ·have ab:Ad t=false:=by simpa using aa
  rw[if_neg aa,if_neg aa,uJ ab]
theorem S5 {x:RItem}(hX:XR x)(M D:Ej):uI x M D↔uI (ren x) M D:=by
 have hh:=Ar (x:=x) (.inl ⟨hX.out,rfl⟩);constructor
 ·intro h ν hb;have:=h (fun t=>Lc ν (Gt (A4 x) t)) fun a ha=>by
   have:=hb (Cs (A4 x) a) (Aib.2 ⟨a,ha,rfl⟩);unfold HoL at this⊢;rw[vI hX ν (Ar (.inr ha))]at this;exact this
  show D x.head.pred (Jx ν (Cs (A4 x) x.head));rw[vI hX ν hh];exact this
 ·intro h ν hb;have:=h (fun w=>ν (jK (A4 x) w)) fun a ha=>by
   obtain⟨b,aa,rfl⟩:=Aib.1 ha;have:=hb b aa;unfold HoL at this⊢;rw[oM hX ν (Ar (.inr aa))];exact this
  have e:Jx (fun w=>ν (jK (A4 x) w)) (ren x).head=Jx ν x.head:=oM hX ν hh;rw[e]at this;exact this
theorem Clo.ren {l:List RItem}(hX:∀x∈l,x.out=false->XR x)(M D:Ej):Clo l M D↔Clo (l.map YtmoeoppbmhfbpabGreatDoorL.ren) M D:=by
 constructor
 ·intro h y hy ho;obtain⟨x,hx,rfl⟩:=Aib.1 hy;exact (S5 (hX x hx ho) M D).1 (h x hx ho)
 ·intro h x hx ho;exact (S5 (hX x hx ho) M D).2 (h _ (Aib.2 ⟨x,hx,rfl⟩) ho)
def tw (a b:Int):Bb:=C4 [a,b]
theorem vH {a b c d:Int}(h:tw a b=tw c d):a=c/\b=d:=by
 simp[tw,C4]at h;exact h
def nv3 (a b c:Int):Tx->Int:=fun t=>if t=[65]then a else if t=[66]then b else c
theorem cT (p q:Tx)(M D:Ej):uI (Da p q) M D↔∀a b c,D q (tw a c)->D p (tw c b)->D p (tw a b):=by
 constructor
 ·intro h a b c h1 h2;exact h (nv3 a b c) fun x hx=>by
   simp only[Da,Ah2,Ail,Aj5]at hx;rcases hx with rfl|rfl
   ·exact h1
   ·exact h2
 ·intro h ν hb;have h1:=hb ⟨false,q,[[65],[67]]⟩ (by simp[Da]);have h2:=hb ⟨false,p,[[67],[66]]⟩ (by simp[Da]);exact h (ν [65]) (ν [66]) (ν [67]) h1 h2
theorem Acv (p e:Tx)(M D:Ej):uI (Uj p e) M D↔∀a b,D e (tw a b)->D p (tw a b):=by
 constructor
 ·intro h a b h1;exact h (nv3 a b 0) fun x hx=>by
   simp only[Uj,Ah2,Ail,Aj5]at hx;subst hx;exact h1
 ·intro h ν hb;exact h (ν [65]) (ν [66]) (hb ⟨false,e,[[65],[66]]⟩ (by simp[Uj]))
theorem Ab5 {l l':List RItem}{p e:Tx}(ab:e≠p){B M:Ej}(hB:∀t,¬B p t)
  (h1:∀D,Clo l M D↔(∀a b,D e (tw a b)->D p (tw a b))/\(∀a b c,D p (tw a c)->D p (tw c b)->D p (tw a b))/\∀x∈l,x.out=false->x.head.pred≠p->uI x M D)
  (h2:∀D,Clo l' M D↔(∀a b,D e (tw a b)->D p (tw a b))/\(∀a b c,D e (tw a c)->D p (tw c b)->D p (tw a b))/\∀x∈l,x.out=false->x.head.pred≠p->uI x M D)
  (q:Tx) (t:Bb):LstM l B M q t↔LstM l' B M q t:=by
 constructor
 ·intro h;refine h _ (fun q t g=>LstM.base g) ((h1 _).2 ?_);obtain⟨c1,c2,c3⟩:=(h2 _).1 (LstM.clo l' B M);refine⟨c1,?_,c3⟩
  --those from which one can go on
  have key:∀q t,LstM l' B M q t->LstM l' B M q t/\(q=p->∀a c,t=tw a c->∀b,LstM l' B M p (tw c b)->LstM l' B M p (tw a b)):=fun q t g=>by
   refine g (fun q t=>LstM l' B M q t/\(q=p->∀a c,t=tw a c->∀b,LstM l' B M p (tw c b)->LstM l' B M p (tw a b))) (fun q t hb=>⟨LstM.base hb,fun e=>by subst e;exact absurd hb (hB t)⟩) ((h2 _).2 ⟨fun a b g1=>?_,fun a b c g1 g2=>?_,fun x hx ho aa ν hb=>?_⟩)
   ·refine⟨c1 a b g1.1,fun _ a' c' e b' g=>?_⟩;obtain⟨rfl,rfl⟩:=vH e;exact c2 _ _ _ g1.1 g
   ·refine⟨c2 a b c g1.1 g2.1,fun _ a' c' e b' g=>?_⟩;obtain⟨rfl,rfl⟩:=vH e;exact c2 _ _ _ g1.1 (g2.2 rfl c b rfl b' g)
   ·exact⟨c3 x hx ho aa ν fun a ha=>(hb a ha).mono fun _ _ g=>g.1,fun e=>absurd e aa⟩
  exact fun a b c g1 g2=>(key _ _ g1).2 rfl a c rfl b g2
 ·intro h;refine h _ (fun q t g=>LstM.base g) ((h2 _).2 ?_);obtain⟨c1,c2,c3⟩:=(h1 _).1 (LstM.clo l B M);exact⟨c1,fun a b c g1 g2=>c2 a b c (c1 a c g1) g2,c3⟩
end Go.Proofs.YtmoeoppbmhfbpabGreatDoorL
