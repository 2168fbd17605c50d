import Derived.Test.YtmoeoppbmhfbpabGreatDoorJPrtH
import Derived.Test.YtmoeoppbmhfbpabGreatDoorJProgR
import Derived.Test.YtmoeoppbmhfbpabGreatDoorJProgK
import Derived.Test.YtmoeoppbmhfbpabGreatDoorJRefA
import Derived.Test.YtmoeoppbmhfbpabGreatDoorJAbsWp
import Derived.Test.YtmoeoppbmhfbpabGreatDoorJPrtF
set_option maxHeartbeats 4000000
set_option maxRecDepth 100000
set_option linter.all false
namespace Go.Proofs.YtmoeoppbmhfbpabGreatDoorJ
open Go.Abs
def Ry (p:Tx)(x:RItem):Bool:=!x.out&&x.head.pred==p
def Oe (l:List RItem)(p:Tx):Bool:=l.any (Ry p)
def gQ (f:Nat->Bool)(l:List RItem)(p:Tx)(i:Nat):Bool:=match l[i]? with|some x=>Ry p x&&f i|none=>false
def L5 (f:Nat->Bool)(l:List RItem)(p:Tx):Bool:=(List.range l.length).any (gQ f l p)
def Rch (l:List RItem)(p q:Tx):Prop:=p=q\/Way (Er l) p q
theorem Rch.trans {l:List RItem}{p q r:Tx}(h:Rch l p q)(k:Rch l q r):Rch l p r:=by
 rcases h with rfl|h
 ·exact k
 ·rcases k with rfl|k
  ·exact .inr h
  ·exact .inr (h.join k)
def HH (l:List RItem):Nat->Tx->Prop
 |0,_=>True
 |k+1,p=>∃x∈l,Rch l p x.head.pred/\∃a∈x.body,a.nt=true/\HH l k a.pred
theorem Uf {l:List RItem}{k:Nat}{p q:Tx}(h:Rch l p q)(hq:HH l k q):HH l k p:=by
 cases k with
 |zero=>trivial
 |succ k=>
  obtain⟨x,hx,hr,hb⟩:=hq;exact⟨x,hx,h.trans hr,hb⟩
theorem tG {l:List RItem}:∀(k:Nat) (p:Tx),HH l (k+1) p->HH l k p
 |0,p,_=>trivial
 |k+1,p,⟨x,hx,hr,a,ha,hn,hh⟩=>⟨x,hx,hr,a,ha,hn,tG k a.pred hh⟩
theorem xT {l:List RItem}{p:Tx}{m:Nat}:∀(d:Nat),HH l (m+d) p->HH l m p
 |0,h=>h
 |d+1,h=>xT d (tG _ _ h)
theorem Sa {α:Type}[BEq α][LawfulBEq α]:∀(a b:List α),a.Nodup->(∀x∈a,x∈b)->a.length<=b.length
 |[],b,_,_=>Nat.zero_le _
 |x::a,b,hn,hs=>by
  have hx:=hs x (by simp);have aa:=Ac9.1 hn;have h1:=Sa a (b.erase x) aa.2 fun y hy=>(Ada (fun e=>aa.1 (by rw[<-e];exact hy))).2 (hs y (by simp[hy]));rw[List.length_erase_of_mem hx]at h1;have h2:0<b.length:=List.length_pos_of_mem hx;simp only[Acf];omega
def lJ (l:List RItem):Prop:=∀x∈l,∀a∈x.body,a.nt=true->¬Rch l a.pred x.head.pred
theorem eH {l:List RItem}(hL:lJ l):∀(k:Nat) (p:Tx),HH l k p->∃qs:List Tx,qs.length=k/\qs.Nodup/\∀q∈qs,q∈l.map (·.head.pred)/\Rch l p q
 |0,p,_=>⟨[],rfl,Adb,fun q h=>by cases h⟩
 |k+1,p,⟨x,hx,hr,a,ha,hn,hh⟩=>by
  obtain⟨qs,h1,h2,h3⟩:=eH hL k a.pred hh;refine⟨x.head.pred::qs,by simp[h1],Ac9.2 ⟨fun hm=>hL x hx a ha hn (h3 _ hm).2,h2⟩,fun q hq=>?_⟩;rcases Aci.1 hq with rfl|hq
  ·exact⟨Acs.2 ⟨x,hx,rfl⟩,hr⟩
  ·exact⟨(h3 q hq).1,hr.trans (Rch.trans (.inr (.one ⟨x,hx,rfl,a,ha,rfl⟩)) (h3 q hq).2)⟩
theorem tH {l:List RItem}(hL:lJ l){k:Nat}{p:Tx}(h:HH l k p):k<=l.length:=by
 obtain⟨qs,h1,h2,h3⟩:=eH hL k p h;have:=Sa qs (l.map (·.head.pred)) h2 fun q hq=>(h3 q hq).1;rw[Adc]at this;omega
def nL (l:List RItem)(f:Nat->Bool)(counts:Bool)(x:RItem):Bool:=x.body.any fun a=>a.nt&&(counts&&!Oe l a.pred||L5 f l a.pred)
def yW (l:List RItem)(f:Nat->Bool)(counts:Bool)(j:Nat):Bool:=match l[j]? with|some x=>nL l f counts x|none=>false
def Yj (l:List RItem)(f:Nat->Bool)(counts:Bool)(i:Nat):Bool:=(List.range l.length).any fun j=>yW l f counts j&&(i==j||tU l i j)
def yU (l:List RItem):Nat->Nat->Bool
 |0=>fun i=>decide (i<l.length)
 |k+1=>Yj l (yU l k) (k==0)
theorem ruled_iff {l:List RItem}{p:Tx}:Oe l p=true↔∃x∈l,x.out=false/\x.head.pred=p:=by
 unfold Oe Ry;rw[Acg];simp
theorem holds_iff {l:List RItem}{f:Nat->Bool}{p:Tx}:L5 f l p=true↔∃i x,l[i]?=some x/\x.out=false/\x.head.pred=p/\f i=true:=by
 unfold L5;rw[Acg];constructor
 ·rintro⟨i,hi,h⟩;unfold gQ at h;split at h
  ·rename_i x hx;simp[Ry]at h;exact⟨i,x,hx,h.1.1,h.1.2,h.2⟩
  ·cases h
 ·rintro⟨i,x,hx,h1,h2,h3⟩;refine⟨i,by simpa using (List.getElem?_eq_some_iff.1 hx).1,?_⟩;unfold gQ;rw[hx];simp[Ry,h1,h2,h3]
theorem hit_iff {l:List RItem}{f:Nat->Bool}{counts:Bool}{x:RItem}:nL l f counts x=true↔∃a∈x.body,a.nt=true/\((counts=true/\Oe l a.pred=false)\/L5 f l a.pred=true):=by
 unfold nL;rw[Acg];simp
theorem higher_iff {l:List RItem}{f:Nat->Bool}{counts:Bool}{i:Nat}:Yj l f counts i=true↔∃j y,l[j]?=some y/\nL l f counts y=true/\(i=j\/Way (fun a b=>Qj l a b=true) i j):=by
 unfold Yj;rw[Acg];constructor
 ·rintro⟨j,hj,h⟩;simp only[Abo,Ade,Ad4]at h;obtain⟨h1,h2⟩:=h;unfold yW at h1;split at h1
  ·rename_i y hy;exact⟨j,y,hy,h1,by rw[<-Mn];exact h2⟩
  ·cases h1
 ·rintro⟨j,y,hy,h1,h2⟩;refine⟨j,by simpa using (List.getElem?_eq_some_iff.1 hy).1,?_⟩;simp only[Abo,Ade,Ad4];refine⟨?_,by rw[Mn];exact h2⟩;unfold yW;rw[hy];exact h1
theorem Gj {l:List RItem}(ho:∀x∈l,x.out=true->x.body=[]){x:RItem}(hx:x∈l){a:Ai}(ha:a∈x.body):x.out=false:=by
 cases h:x.out with
 |false=>rfl
 |true=>rw[ho x hx h]at ha;cases ha
theorem nK {l:List RItem}{p:Tx}(h:Oe l p=true):L5 (yU l 0) l p=true:=by
 obtain⟨x,hx,h1,h2⟩:=ruled_iff.1 h;obtain⟨i,hi⟩:=List.getElem?_of_mem hx;exact holds_iff.2 ⟨i,x,hi,h1,h2,by simpa[yU]using (List.getElem?_eq_some_iff.1 hi).1⟩
theorem S5 {l:List RItem}(ho:∀x∈l,x.out=true->x.body=[]):∀(k:Nat) (p:Tx),L5 (yU l (k+1)) l p=true↔HH l (k+1) p:=by
 intro k;induction k with
 |zero=>
  intro p;rw[holds_iff];constructor
  ·rintro⟨i,x,hx,h1,rfl,h3⟩;obtain⟨j,y,hy,hh,hw⟩:=higher_iff.1 h3;obtain⟨a,ha,hn,-⟩:=hit_iff.1 hh;refine⟨y,Abm hy,?_,a,ha,hn,trivial⟩;rcases hw with rfl|hw
   ·rw[hx]at hy;cases hy;exact .inl rfl
   ·obtain⟨x',y',aa,ac,-,hw⟩:=N6 hw;rw[hx]at aa;cases aa;rw[hy]at ac;cases ac;exact .inr hw
  ·rintro⟨y,hy,hr,a,ha,hn,-⟩;obtain⟨j,hj⟩:=List.getElem?_of_mem hy;have ab:=Gj ho hy ha
   have hh:nL l (yU l 0) (0==0) y=true:=hit_iff.2 ⟨a,ha,hn,by
    cases af:Oe l a.pred with
    |false=>exact .inl ⟨rfl,rfl⟩
    |true=>exact .inr (nK af)⟩
   rcases hr with rfl|hw
   ·exact⟨j,y,hj,ab,rfl,higher_iff.2 ⟨j,y,hj,hh,.inl rfl⟩⟩
   ·obtain⟨i,x,hi,ae,ad⟩:=N7 ho hw j y hj ab rfl;refine⟨i,x,hi,?_,ae,higher_iff.2 ⟨j,y,hj,hh,.inr ad⟩⟩;cases ad with
    |one e=>obtain⟨x',_,aa,_,_,b,hb,_⟩:=edge_iff.1 e;rw[hi]at aa;cases aa;exact Gj ho (Abm hi) hb
    |more e _=>obtain⟨x',_,aa,_,_,b,hb,_⟩:=edge_iff.1 e;rw[hi]at aa;cases aa;exact Gj ho (Abm hi) hb
 |succ k ih=>
  intro p;rw[holds_iff];constructor
  ·rintro⟨i,x,hx,h1,rfl,h3⟩;obtain⟨j,y,hy,hh,hw⟩:=higher_iff.1 h3;obtain⟨a,ha,hn,hc⟩:=hit_iff.1 hh;have ah:HH l (k+1) a.pred:=by
    rcases hc with⟨hc,-⟩|hc
    ·simp at hc
    ·exact (ih a.pred).1 hc
   refine⟨y,Abm hy,?_,a,ha,hn,ah⟩;rcases hw with rfl|hw
   ·rw[hx]at hy;cases hy;exact .inl rfl
   ·obtain⟨x',y',aa,ac,-,hw⟩:=N6 hw;rw[hx]at aa;cases aa;rw[hy]at ac;cases ac;exact .inr hw
  ·rintro⟨y,hy,hr,a,ha,hn,hk⟩;obtain⟨j,hj⟩:=List.getElem?_of_mem hy;have ab:=Gj ho hy ha;have hh:nL l (yU l (k+1)) (k+1==0) y=true:=hit_iff.2 ⟨a,ha,hn,.inr ((ih a.pred).2 hk)⟩;rcases hr with rfl|hw
   ·exact⟨j,y,hj,ab,rfl,higher_iff.2 ⟨j,y,hj,hh,.inl rfl⟩⟩
   ·obtain⟨i,x,hi,ae,ad⟩:=N7 ho hw j y hj ab rfl;refine⟨i,x,hi,?_,ae,higher_iff.2 ⟨j,y,hj,hh,.inr ad⟩⟩;cases ad with
    |one e=>obtain⟨x',_,aa,_,_,b,hb,_⟩:=edge_iff.1 e;rw[hi]at aa;cases aa;exact Gj ho (Abm hi) hb
    |more e _=>obtain⟨x',_,aa,_,_,b,hb,_⟩:=edge_iff.1 e;rw[hi]at aa;cases aa;exact Gj ho (Abm hi) hb
def Dk (l:List RItem)(p:Tx):Nat:=match (List.range 16).find? (fun k=>!L5 (yU l (k+1)) l p)with|some k=>k|none=>16
theorem Pf {l:List RItem}(ho:∀x∈l,x.out=true->x.body=[])(hL:lJ l)(hl:l.length<=16)(p:Tx)(k:Nat):HH l k p↔k<=Dk l p:=by
 unfold Dk;split
 ·rename_i d hd;rw[List.find?_range_eq_some]at hd;obtain⟨h1,h2,h3⟩:=hd;have h4:¬HH l (d+1) p:=by rw[<-S5 ho];simpa using h1
  constructor
  ·intro h;rcases Abi d k with ab|aa
   ·exact absurd (xT (m:=d+1) (k-(d+1)) (by rw[show d+1+(k-(d+1))=k by omega];exact h)) h4
   ·exact aa
  ·intro h;cases k with
   |zero=>trivial
   |succ k=>
    have:=h3 k Ad6;rw[<-S5 ho];simpa using this
 ·rename_i hd;constructor
  ·intro h;have:=tH hL h;omega
  ·intro h;cases k with
   |zero=>trivial
   |succ k=>
    rw[List.find?_eq_none]at hd;have:=hd k (by simp;omega);rw[<-S5 ho];simpa using this
theorem Gc {N:List Tx}{cc:Nat->Int}:∀(ls:List Ai) (m:Int),m<=ls.foldl (De N cc) m/\(∀a∈ls,Ib N cc a<=ls.foldl (De N cc) m)/\(∀k:Int,k<=ls.foldl (De N cc) m->k<=m\/∃a∈ls,k<=Ib N cc a)
 |[],m=>⟨Adf _,(fun a h=>by cases h),fun k h=>.inl h⟩
 |b::ls,m=>by
  obtain⟨h1,h2,h3⟩:=Gc (N:=N) (cc:=cc) ls (De N cc m b);have h4:m<=De N cc m b/\Ib N cc b<=De N cc m b/\(De N cc m b=m\/De N cc m b=Ib N cc b):=by
   unfold De;split
   ·exact⟨Ad6,Ad6,.inr rfl⟩
   ·exact⟨Ad6,Ad6,.inl rfl⟩
  rw[Abr];refine⟨Ad6,fun a ha=>?_,fun k hk=>?_⟩
  ·rcases Aci.1 ha with rfl|ha
   ·omega
   ·exact h2 a ha
  ·rcases h3 k hk with h|⟨a,ha,h⟩
   ·rcases h4.2.2 with e|e
    ·exact .inl Ad6
    ·exact .inr ⟨b,by simp,Ad6⟩
   ·exact .inr ⟨a,by simp[ha],h⟩
theorem oE {N:List Tx}{cc dd:Nat->Int}(h:∀j,cc j<=dd j)(a:Ai):Ib N cc a<=Ib N dd a:=by
 have:=h (N.idxOf a.pred);unfold Ib;split<;>omega
theorem cL {N:List Tx}{cc dd:Nat->Int}(h:∀j,cc j<=dd j)(ls:List Ai):Cg N cc ls<=Cg N dd ls:=by
 obtain⟨h1,h2,h3⟩:=Gc (N:=N) (cc:=dd) ls 0;obtain⟨g1,g2,g3⟩:=Gc (N:=N) (cc:=cc) ls 0;rcases g3 _ (Adf _)with g|⟨a,ha,g⟩
 ·exact Adg g h1
 ·exact Adg g (Adg (oE h a) (h2 a ha))
theorem aH {N:List Tx}(cc:Nat->Int)(x:RItem)(j:Nat):cc j<=D3 N cc x j:=by
 unfold D3;split
 ·rename_i h;rw[h.1];omega
 ·omega
theorem pZ {N:List Tx}(cc:Nat->Int)(x:RItem):Cg N cc x.body<=D3 N cc x (N.idxOf x.head.pred):=by
 unfold D3;by_cases h:cc (N.idxOf x.head.pred)<Cg N cc x.body
 ·rw[if_pos ⟨rfl,h⟩];omega
 ·rw[if_neg (fun e=>h e.2)];omega
theorem Mz {N:List Tx}:∀(l:List RItem) (cc:Nat->Int) (j:Nat),cc j<=l.foldl (D3 N) cc j
 |[],cc,j=>Adf _
 |x::l,cc,j=>Adg (aH cc x j) (Mz l _ j)
theorem My {N:List Tx}:∀(l:List RItem) (cc dd:Nat->Int),(∀j,cc j<=dd j)->∀x∈l,Cg N cc x.body<=l.foldl (D3 N) dd (N.idxOf x.head.pred)
 |y::l,cc,dd,h,x,hx=>by
  rw[Abr];rcases Aci.1 hx with rfl|hx
  ·exact Adg (cL h _) (Adg (pZ dd x) (Mz l _ _))
  ·exact My l cc _ (fun j=>Adg (h j) (aH dd y j)) x hx
theorem Ik {N:List Tx}{l:List RItem}:∀(n:Nat) (j:Nat),0<=Bo N l n j
 |0,j=>Adf _
 |n+1,j=>Adg (Ik n j) (Mz l _ j)
def Meet (N:List Tx)(l:List RItem)(cc:Nat->Int):Prop:=∀p∈N,∀k:Nat,(k:Int)<=cc (N.idxOf p)->HH l k p
theorem Meet.step {N:List Tx}{l:List RItem}(hN:∀x∈l,x.head.pred∈N/\∀a∈x.body,a.pred∈N){cc:Nat->Int}(h:Meet N l cc){x:RItem}(hx:x∈l):Meet N l (D3 N cc x):=by
 intro p hp k hk;unfold D3 at hk;split at hk
 ·rename_i hc;obtain rfl:p=x.head.pred:=Dy hp (hN x hx).1 hc.1;cases k with
  |zero=>trivial
  |succ k=>
   rcases (Gc (N:=N) (cc:=cc) x.body 0).2.2 _ hk with h0|⟨a,ha,h0⟩
   ·omega
   ·have aa:=(hN x hx).2 a ha;unfold Ib at h0;cases hn:a.nt with
    |true=>
     rw[if_pos hn]at h0;exact⟨x,hx,.inl rfl,a,ha,hn,h a.pred aa k Ad6⟩
    |false=>
     rw[if_neg (by rw[hn];simp)]at h0;exact Uf (.inr (.one ⟨x,hx,rfl,a,ha,rfl⟩)) (h a.pred aa (k+1) h0)
 ·exact h p hp k hk
theorem Meet.round {N:List Tx}{l:List RItem}(hN:∀x∈l,x.head.pred∈N/\∀a∈x.body,a.pred∈N):∀(m:List RItem) (cc:Nat->Int),(∀x∈m,x∈l)->Meet N l cc->Meet N l (m.foldl (D3 N) cc)
 |[],cc,_,h=>h
 |x::m,cc,hs,h=>Meet.round hN m _ (fun y hy=>hs y (by simp[hy])) (h.step hN (hs x (by simp)))
theorem Wk {N:List Tx}{l:List RItem}(hN:∀x∈l,x.head.pred∈N/\∀a∈x.body,a.pred∈N):∀n,Meet N l (Bo N l n)
 |0=>fun p _ k hk=>by
  have:k=0:=by
   have aa:(k:Int)<=0:=hk;omega
  subst this;trivial
 |n+1=>Meet.round hN l _ (fun _ h=>h) (Wk hN n)
theorem lK {l:List RItem}{k:Nat}{p:Tx}(h:HH l (k+1) p):∃x∈l,x.head.pred=p:=by
 obtain⟨x,hx,hr,-⟩:=h;rcases hr with rfl|hw
 ·exact⟨x,hx,rfl⟩
 ·cases hw with
  |one e=>obtain⟨y,hy,h1,-⟩:=e;exact⟨y,hy,h1⟩
  |more e _=>obtain⟨y,hy,h1,-⟩:=e;exact⟨y,hy,h1⟩
theorem Pp {α:Type}{P Q:α->Bool}:∀(l:List α),(∀x∈l,Q x=true->P x=true)->(l.filter Q).length<=(l.filter P).length/\((∃x∈l,P x=true/\Q x=false)->(l.filter Q).length<(l.filter P).length)
 |[],_=>⟨Abf _,fun⟨x,h,_⟩=>by cases h⟩
 |x::l,h=>by
  obtain⟨h1,h2⟩:=Pp l fun y hy=>h y (by simp[hy]);have hx:=h x (by simp);simp only[Adh];cases hq:Q x with
  |true=>
   rw[hx hq];simp only[if_true,Acf];refine⟨Ad6,fun⟨y,hy,g1,g2⟩=>?_⟩;rcases Aci.1 hy with rfl|hy
   ·rw[hq]at g2;cases g2
   ·have:=h2 ⟨y,hy,g1,g2⟩;omega
  |false=>
   cases hp:P x with
   |true=>simp only[if_true,Acb,if_false,Acf];exact⟨Ad6,fun _=>Ad6⟩
   |false=>
    simp only[Acb,if_false];refine⟨h1,fun⟨y,hy,g1,g2⟩=>?_⟩;rcases Aci.1 hy with rfl|hy
    ·rw[hp]at g1;cases g1
    ·exact h2 ⟨y,hy,g1,g2⟩
theorem cJ {α:Type}(f:α->Nat):∀(l:List α),l≠[]->∃x∈l,∀y∈l,f x<=f y
 |[],h=>absurd rfl h
 |[x],_=>⟨x,by simp,by simp⟩
 |x::y::l,_=>by
  obtain⟨z,hz,hm⟩:=cJ f (y::l) (by simp);rcases Nat.le_total (f x) (f z)with h|h
  ·exact⟨x,by simp,fun u hu=>by
    rcases Aci.1 hu with rfl|hu
    ·exact Abf _
    ·exact Abg h (hm u hu)⟩
  ·exact⟨z,by simp[Aci.1 hz],fun u hu=>by
    rcases Aci.1 hu with rfl|hu
    ·exact h
    ·exact hm u hu⟩
section rounds
variable {N:List Tx} {l:List RItem} (D:Tx->Nat)
theorem qX (hD:∀p k,HH l k p↔k<=D p)(n:Nat)(k:Nat)(z:RItem)(hz:z∈l)(a:Ai)(ha:a∈z.body)(hn:a.nt=true)(hk:D z.head.pred=k+1)(ad:(k:Int)<=Bo N l n (N.idxOf a.pred)):
  ∀p,Way (Er l) p z.head.pred->D p=k+1->Bo N l n (N.idxOf p)<D p->(∃x∈l,x.head.pred=p)->∃y∈l,Bo N l n (N.idxOf y.head.pred)<D y.head.pred/\(D y.head.pred:Int)<=Bo N l (n+1) (N.idxOf y.head.pred):=by
 have ac:(D z.head.pred:Int)<=Bo N l (n+1) (N.idxOf z.head.pred):=by
  have h1:=My (N:=N) l (Bo N l n) (Bo N l n) (fun j=>Adf _) z hz;have h2:=(Gc (N:=N) (cc:=Bo N l n) z.body 0).2.1 a ha;have h3:Ib N (Bo N l n) a=Bo N l n (N.idxOf a.pred)+1:=by unfold Ib;rw[if_pos hn]
  have h4:Cg N (Bo N l n) z.body<=Bo N l (n+1) (N.idxOf z.head.pred):=h1;unfold Cg at h4;omega
 have up:∀u∈l,∀b∈u.body,Bo N l n (N.idxOf b.pred)<=Bo N l (n+1) (N.idxOf u.head.pred):=by
  intro u hu b hb;have h1:=My (N:=N) l (Bo N l n) (Bo N l n) (fun j=>Adf _) u hu;have h2:=(Gc (N:=N) (cc:=Bo N l n) u.body 0).2.1 b hb;have h3:Bo N l n (N.idxOf b.pred)<=Ib N (Bo N l n) b:=by unfold Ib;split<;>omega
  have h4:Cg N (Bo N l n) u.body<=Bo N l (n+1) (N.idxOf u.head.pred):=h1;unfold Cg at h4;omega
 have down:∀p q,Rch l p q->D q<=D p:=fun p q h=>(hD p _).1 (Uf h ((hD q _).2 (Abf _)));intro p hw;generalize aa:z.head.pred=zp at hw;induction hw with
 |one e=>
  intro hp ab _;obtain⟨u,hu,rfl,b,hb,rfl⟩:=e;rcases Int.lt_or_le (Bo N l n (N.idxOf b.pred)) (D b.pred)with h|h
  ·exact⟨z,hz,by rw[aa];exact h,ac⟩
  ·refine⟨u,hu,ab,?_⟩;have:=up u hu b hb;rw[<-aa]at this h;omega
 |more e hw ih=>
  rename_i p q r;intro hp ab _;obtain⟨u,hu,rfl,b,hb,rfl⟩:=e;have hq:D b.pred=k+1:=by
   have h1:=down u.head.pred b.pred (.inr (.one ⟨u,hu,rfl,b,hb,rfl⟩));have h2:=down b.pred r (.inr hw);rw[<-aa]at h2;omega
  rcases Int.lt_or_le (Bo N l n (N.idxOf b.pred)) (D b.pred)with h|h
  ·refine ih aa hq h ?_;cases hw with
   |one e=>obtain⟨y,hy,h1,-⟩:=e;exact⟨y,hy,h1⟩
   |more e _=>obtain⟨y,hy,h1,-⟩:=e;exact⟨y,hy,h1⟩
  ·refine⟨u,hu,ab,?_⟩;have:=up u hu b hb;omega
theorem Pg (hD:∀p k,HH l k p↔k<=D p):∀n,(l.filter fun x=>decide (Bo N l n (N.idxOf x.head.pred)<D x.head.pred)).length<=l.length-n
 |0=>by simpa using Adi _ l
 |n+1=>by
  have ih:=Pg hD n;have ab:∀x∈l,decide (Bo N l (n+1) (N.idxOf x.head.pred)<D x.head.pred)=true->decide (Bo N l n (N.idxOf x.head.pred)<D x.head.pred)=true:=by
   intro x _ h;have:=Mz (N:=N) l (Bo N l n) (N.idxOf x.head.pred);have h':Bo N l (n+1) (N.idxOf x.head.pred)<D x.head.pred:=by simpa using h
   have h2:Bo N l (n+1) (N.idxOf x.head.pred)=l.foldl (D3 N) (Bo N l n) (N.idxOf x.head.pred):=rfl;simp only[Ad3];omega
  obtain⟨f1,f2⟩:=Pp l ab;by_cases he:(l.filter fun x=>decide (Bo N l n (N.idxOf x.head.pred)<D x.head.pred))=[]
  ·rw[he]at f1;simp only[Ace]at f1;omega
  ·obtain⟨x,hx,hm⟩:=cJ (fun x=>D x.head.pred) _ he;obtain⟨ad,af⟩:=Adj.1 hx;have aa:Bo N l n (N.idxOf x.head.pred)<D x.head.pred:=by simpa using af
   have h0:=Ik (N:=N) (l:=l) n (N.idxOf x.head.pred);obtain⟨k,hk⟩:∃k,D x.head.pred=k+1:=⟨D x.head.pred-1,Ad6⟩;have hH:=(hD x.head.pred (k+1)).2 Ad6;obtain⟨z,hz,hr,a,ha,hn,hh⟩:=hH;have aj:D z.head.pred<=k+1:=by
    rw[<-hk];exact (hD _ _).1 (Uf hr ((hD _ _).2 (Abf _)))
   have ai:D a.pred+1<=D z.head.pred:=(hD _ _).1 ⟨z,hz,.inl rfl,a,ha,hn,(hD _ _).2 (Abf _)⟩;have am:=(hD _ _).1 hh;have ah:(k:Int)<=Bo N l n (N.idxOf a.pred):=by
    cases k with
    |zero=>exact Ik n _
    |succ k=>
     obtain⟨y,hy,ac⟩:=lK hh;rcases Int.lt_or_le (Bo N l n (N.idxOf a.pred)) ((k+1:Nat):Int)with h|h
     ·exfalso;have:=hm y (Adj.2 ⟨hy,by rw[ac];simp only[Ad3];omega⟩);have h2:D x.head.pred<=D a.pred:=by rw[<-ac];exact this
      omega
     ·exact h
   have hex:∃y∈l,Bo N l n (N.idxOf y.head.pred)<D y.head.pred/\(D y.head.pred:Int)<=Bo N l (n+1) (N.idxOf y.head.pred):=by
    rcases hr with hr|hw
    ·refine⟨x,ad,aa,?_⟩;have h1:=My (N:=N) l (Bo N l n) (Bo N l n) (fun j=>Adf _) z hz;have h2:=(Gc (N:=N) (cc:=Bo N l n) z.body 0).2.1 a ha;have h3:Ib N (Bo N l n) a=Bo N l n (N.idxOf a.pred)+1:=by unfold Ib;rw[if_pos hn]
     have h4:Cg N (Bo N l n) z.body<=Bo N l (n+1) (N.idxOf z.head.pred):=h1;unfold Cg at h4;rw[hr]at hk⊢;omega
    ·exact qX D hD n k z hz a ha hn Ad6 ah _ hw hk aa ⟨x,ad,rfl⟩
   obtain⟨y,hy,ae,ak⟩:=hex;have:=f2 ⟨y,hy,by simpa using ae,by simp only[decide_eq_false_iff_not];omega⟩;omega
theorem aQ (hN:∀x∈l,x.head.pred∈N/\∀a∈x.body,a.pred∈N)(hD:∀p k,HH l k p↔k<=D p){p:Tx}(hp:p∈N):Bo N l l.length (N.idxOf p)=D p:=by
 have h0:=Ik (N:=N) (l:=l) l.length (N.idxOf p);have h1:=(hD p _).1 (Wk hN l.length p hp (Bo N l l.length (N.idxOf p)).toNat Ad6);rcases Nat.eq_zero_or_pos (D p)with hz|hz
 ·omega
 ·obtain⟨k,hk⟩:∃k,D p=k+1:=⟨D p-1,Ad6⟩;obtain⟨x,hx,rfl⟩:=lK ((hD p (k+1)).2 Ad6);have h2:=Pg (N:=N) D hD l.length;have h3:(l.filter fun x=>decide (Bo N l l.length (N.idxOf x.head.pred)<D x.head.pred))=[]:=Abq Ad6;rw[List.filter_eq_nil_iff]at h3;have:=h3 x hx;simp only[Ad3]at this;omega
end rounds
theorem cG {l:List RItem}(ho:∀x∈l,x.out=true->x.body=[])(h:∀i,i<l.length->G7 l i=false):lJ l:=by
 intro x hx a ha hn hr;obtain⟨i,hi⟩:=List.getElem?_of_mem hx;have hk:=h i (List.getElem?_eq_some_iff.1 hi).1;unfold G7 at hk;rw[hi]at hk;have:=Ac1.1 hk a ha;apply this;unfold wA;rw[hn];simp only[Acv,Ade,Ad4];rcases hr with hr|hr
 ·exact .inl hr
 ·exact .inr ((U0 ho ⟨x,hx,Gj ho hx ha,rfl⟩).2 hr)
theorem mE {N:List Tx}{l:List RItem}(hl:l.length<=16)(ho:∀x∈l,x.out=true->x.body=[])(hN:∀x∈l,x.head.pred∈N/\∀a∈x.body,a.pred∈N)(h:∀i,i<l.length->G7 l i=false){p:Tx}(hp:p∈N):Bo N l l.length (N.idxOf p)=Dk l p:=
 aQ (Dk l) hN (fun q k=>Pf ho (cG ho h) hl q k) hp
theorem gR {p:Nat->Bool}{n:Nat}(h:¬0<=Bb p n):∀i,i<n->p i=false:=by
 intro i hi;unfold Bb at h;split at h
 ·rename_i j hj;exact absurd (Ac7 j) h
 ·rename_i hn;rw[List.find?_eq_none]at hn;simpa using hn i (by simpa using hi)
abbrev Sw:=(Nat->Bool)×(Nat->Bool×Int)
def sw0:Sw:=(fun _=>false,fun _=>(false,0))
def zR (s:Sw)(e b:Bool×Int):Option Sw:=
 if e.1=true then
  (if s.1 e.2.toNat=true then (if s.2 e.2.toNat=b then some s else none)
   else some (fun j=>if j=e.2.toNat then true else s.1 j,fun j=>if j=e.2.toNat then b else s.2 j))
 else if e=b then some s else none
def oS:Sw->List (Bool×Int)->List (Bool×Int)->Option Sw
 |s,[],_=>some s
 |_,_::_,[]=>none
 |s,e::es,b::bs=>(zR s e b).bind fun s'=>oS s' es bs
structure Lt where
 nt:Bool
 pr:Nat
 es:List (Bool×Int)
def xF (left:List Lt):List Lt->Sw->Option Sw
 |[],s=>some s
 |x::xs,s=>left.findSome? fun b=>if b.nt=x.nt/\x.pr=b.pr then (oS s x.es b.es).bind (xF left xs)else none
def ltA (e:Tx->Bool×Int)(N:List Tx)(a:Ai):Lt:=⟨a.nt,N.idxOf a.pred,a.terms.map e⟩
structure Aaw (e:Tx->Bool×Int)(U:Tx->Prop):Prop where
 var:∀t,U t->(e t).1=Al t
 inj:∀t u,U t->U u->e t=e u->t=u
 pos:∀t,U t->Al t=true->0<=(e t).2
section
variable {e:Tx->Bool×Int} {U:Tx->Prop} (T:Aaw e U)
include T
end
def woL (x:RItem)(k:Nat):RItem:={out:=false,head:=x.head,body:=x.body.eraseIdx k}
def O1 (e:Bool×Int):Tx:=if e.1=true then [UInt8.ofNat (IntKind.u8.wrap (65+e.2)).toNat]else Lib.itoa e.2
def okE (e:Bool×Int):Prop:=0<=e.2/\(e.1=true->e.2<26)/\e.2<=999/\(O1 e).length<=1000
theorem Zh (e:Bool×Int)(h:okE e)(σ:St):ACalls Tryz.prog 149 [ag [sc (.bool e.1),sc (.int .i64 e.2)]] σ fun r σ'=>r=str (O1 e)/\Keep σ σ':=by
 have ab:∀z:UInt8,({data:=#[z]}:ByteArray)=bs [z]:=fun _=>rfl;obtain⟨b,v⟩:=e;obtain⟨h0,h1,h2,-⟩:=h;dsimp only at h0 h1 h2⊢;cases b with
 |true=>
  have h1:=h1 rfl;have hL:Aec (O1 (true,v)=[UInt8.ofNat (IntKind.u8.wrap (65+v)).toNat]):=rfl;refine Z9 14 [.tmp 2] Tryz.func149 ?_
  repeat' (first|refine Z1 ?_|(refine Z8 ?_;intro κ hκ)|(refine Z4 ?_;clear hκ κ)|(refine Z2 ?_ ?_<;>intro h aa<;>try exact Xp)|refine Z7 ?_|exact⟨⟩|(apply hκ.out;clear hκ κ))
  exact⟨_,rfl,by rw[hL.out],Xs⟩
 |false=>
  have hI:=fun σ=>Lc v h0 Ad6 σ;have hL:Aec (O1 (false,v)=Lib.itoa v):=rfl;generalize Lib.itoa v=w at hI hL;refine Z9 14 [.tmp 2] Tryz.func149 ?_
  repeat' (first|refine Z1 ?_|(refine Z8 ?_;intro κ hκ)|(refine Z4 ?_;clear hκ κ)|(refine Z2 ?_ ?_<;>intro h aa<;>try exact Xp)|(refine Z5 ?_;refine Xi (hI _) ?_;rintro _ _ ⟨rfl,rfl⟩)|refine Z7 ?_|exact⟨⟩|(apply hκ.out;clear hκ κ))
  exact⟨_,rfl,by rw[hL.out],Xs⟩
theorem Q8 (ts:List Tx)(t:Tx):Bf (ts++[t])=Bf ts++((if ts=[]then []else [44])++t):=by
 cases ts with
 |nil=>simp[Bf,Br]
 |cons u ts=>simp[Bf,Br]
def yD (N:List Tx)(y:RItem)(k:Nat)(s0:Sw):Option Sw:=if Ir (woL y k)=true then xF ((y.body.eraseIdx k).map (ltA Az N)) (y.body.map (ltA Az N)) s0 else none
theorem E6 (t:Tx):(Az t).1=Al t:=by
 cases t with
 |nil=>rfl
 |cons b r=>
  unfold Az Al;dsimp only;split
  ·rename_i h;rw[h]
  ·rename_i h;simp at h;rw[h]
def UT (t:Tx):Prop:=DT t/\Py t/\t.length<=1000/\(Al t=true->∃k:Nat,k<26/\t=[Qc k])
theorem UT.enc {t:Tx}(h:UT t)(hv:Al t=true):∃k:Nat,k<26/\t=[Qc k]/\Az t=(true,(k:Int)):=by
 obtain⟨k,hk,rfl⟩:=h.2.2.2 hv;refine⟨k,hk,rfl,?_⟩;rw[D7 (Jb Ad6 Ad6),Ja Ad6 Ad6];congr 1;omega
theorem tellU:Aaw Az UT where
 var:=fun t _=>E6 t
 inj:=fun t u ht hu h=>by
  have hv:Al t=Al u:=by rw[<-E6,<-E6,h]
  cases hb:Al t with
  |true=>
   obtain⟨k,hk,rfl,e1⟩:=ht.enc hb;obtain⟨j,hj,rfl,e2⟩:=hu.enc (by rw[<-hv];exact hb);rw[e1,e2]at h;have:(k:Int)=j:=congrArg (·.2) h;rw[this]
  |false=>
   rcases ht.1 with h1|⟨-,h1,-⟩
   ·rw[hb]at h1;cases h1
   rcases hu.1 with h2|⟨-,h2,-⟩
   ·rw[<-hv,hb]at h2;cases h2
   rw[<-h1,<-h2,h]
 pos:=fun t ht hv=>by
  obtain⟨k,-,-,e⟩:=ht.enc hv;rw[e];exact Ac7 _
theorem UT.dec {t:Tx}(h:UT t):O1 (Az t)=t/\okE (Az t):=by
 have hd:O1 (Az t)=t:=by
  cases hv:Al t with
  |true=>
   obtain⟨k,hk,rfl,e⟩:=h.enc hv;rw[e];unfold O1;rw[if_pos rfl,L2 Ad6 Ad6]
  |false=>
   rcases h.1 with h1|⟨-,h1,-⟩
   ·rw[hv]at h1;cases h1
   ·unfold O1;rw[if_neg (by rw[E6,hv];simp),h1]
 refine⟨hd,?_,?_,?_,by rw[hd];exact h.2.2.1⟩
 ·cases hv:Al t with
  |true=>obtain⟨k,hk,-,e⟩:=h.enc hv;rw[e];exact Ac7 _
  |false=>
   rcases h.1 with h1|h1
   ·rw[hv]at h1;cases h1
   ·exact h1.2.2.1
 ·intro hb;rw[E6]at hb;obtain⟨k,hk,-,e⟩:=h.enc hb;rw[e];show (k:Int)<26;omega
 ·cases hv:Al t with
  |true=>obtain⟨k,hk,-,e⟩:=h.enc hv;rw[e];show (k:Int)<=999;omega
  |false=>
   rcases h.1 with h1|h1
   ·rw[hv]at h1;cases h1
   ·exact h1.2.2.2
section
variable {N:List Tx} {y:RItem} {k:Nat} {s0 s:Sw}
end
theorem We {acc:List Tx}{t u:Tx}(h:∀v∈acc,Al v=true)(hu:u∈Gx acc t):Al u=true/\(u∈acc\/u=t):=by
 unfold Gx at hu;split at hu
 ·rename_i hc;rcases Aco.1 hu with q|q
  ·exact⟨h u q,.inl q⟩
  ·simp at q;subst q;exact⟨hc.1,.inr rfl⟩
 ·exact⟨h u hu,.inl hu⟩
theorem Wd:∀(ts acc:List Tx),(∀v∈acc,Al v=true)->acc.Nodup->(∀v∈Is acc ts,Al v=true/\(v∈acc\/v∈ts))/\(Is acc ts).Nodup
 |[],acc,h,hn=>⟨fun v hv=>⟨h v hv,.inl hv⟩,hn⟩
 |t::ts,acc,h,hn=>by
  have aa:(Gx acc t).Nodup:=by
   unfold Gx;split
   ·rename_i hc;rw[Adk];refine⟨hn,by simp,fun a ha b hb=>?_⟩;simp at hb;subst hb;exact fun e=>hc.2 (e ▸ ha)
   ·exact hn
  obtain⟨h1,h2⟩:=Wd ts (Gx acc t) (fun v hv=>(We h hv).1) aa;refine⟨fun v hv=>?_,h2⟩;obtain⟨q1,q2⟩:=h1 v hv;refine⟨q1,?_⟩;rcases q2 with q2|q2
  ·rcases (We h q2).2 with q|q
   ·exact .inl q
   ·exact .inr (by simp[q])
  ·exact .inr (by simp[q2])
structure XR (x:RItem):Prop where
 dt:∀a∈Af x,∀t∈a.terms,DT t/\Py t/\t.length<=1000
 out:x.out=false
 few:(Dw x).length<=26
section
variable {x:RItem} (hx:XR x)
include hx
end
structure Right (t:Tx)(N:List Tx)(l:List RItem)(cs:List AV):Prop where
 ok:(Ax t).1=0
 len:t.length<=600
 parse:Bj 16 t= .got l []
 bk:Bk N l cs
 wit:∀x∈l,Dh x
theorem Right.items {t:Tx}{N:List Tx}{l:List RItem}{cs:List AV}(h:Right t N l cs):C2 t=l:=(Hv (by have:=h.len;omega) h.parse).2.1
theorem Right.wi {t:Tx}{N:List Tx}{l:List RItem}{cs:List AV}(h:Right t N l cs):∀x∈l,WI N x:=zQ (by have:=h.len;omega) h.parse h.bk h.wit
theorem L8 {p:Nat->Bool}{n:Nat}(h:¬0<=Bb p n):∀i,i<n->p i=false:=by
 intro i hi;unfold Bb at h;split at h
 ·rename_i j hj;exact absurd (Ac7 j) h
 ·rename_i hn;rw[List.find?_eq_none]at hn;simpa using hn i (by simpa using hi)
theorem Vz {t:Tx}(h:(Ax t).1=0):∀x∈C2 t,∀a∈Af x,∀b∈Af x,a.pred=b.pred->a.terms.length=b.terms.length:=by
 have aa:∀i,i<(C2 t).length->Hb (C2 t) i=false:=by
  unfold Ax at h;split at h
  ·simp at h
  split at h
  ·simp at h
  unfold Ct at h;split at h
  ·simp at h
  ·rename_i hk;exact L8 hk
 intro x hx a ha b hb he;obtain⟨i,hi⟩:=List.getElem?_of_mem hx;have h1:=aa i (List.getElem?_eq_some_iff.1 hi).1;unfold Hb at h1;rw[hi]at h1;simp only[Ac1,List.mem_range]at h1;obtain⟨j,hj⟩:=List.getElem?_of_mem ha;obtain⟨k,hk⟩:=List.getElem?_of_mem hb;have ae:=(List.getElem?_eq_some_iff.1 hj).1;have ad:=(List.getElem?_eq_some_iff.1 hk).1;have key:∀(j k:Nat) (a b:Ai),(Af x)[j]?=some a->(Af x)[k]?=some b->k<j->a.pred=b.pred->a.terms.length=b.terms.length:=by
  intro j k a b hj hk ab he;have h2:=h1 j (List.getElem?_eq_some_iff.1 hj).1;unfold Pn at h2;rw[hj]at h2;simp only[Acg,not_exists,not_and]at h2
  have h3:=h2 b (by
   unfold Cy
   exact Aco.2 (.inr (Abm (i:=k) (by rw[List.getElem?_take,if_pos ab];exact hk))))
  unfold clash at h3;simp[he]at h3;exact h3.symm
 rcases Nat.lt_trichotomy j k with ab|rfl|ac
 ·exact (key k j b a hk hj ab he.symm).symm
 ·rw[hj]at hk;cases hk;rfl
 ·exact key j k a b hj hk ac he
theorem pG {t:Tx}(h:UT t):VT t:=by
 cases hv:Al t with
 |true=>
  obtain⟨k,hk,rfl,-⟩:=h.enc hv;exact .inl ⟨_,rfl,Jb Ad6 Ad6⟩
 |false=>
  refine .inr ⟨h.2.1.1,fun b hb=>?_⟩;rcases h.2.1.2 b hb with q|q
  ·exfalso;rcases h.1 with h1|⟨-,h1,h2,h3⟩
   ·rw[hv]at h1;cases h1
   ·have hd:∀(u:Nat),∀c∈Lib.decDigits u,c.toNat<=57:=by
     intro u;induction u using Nat.strongRecOn with
     |_ u ih=>
      intro c hc;by_cases ab:u<10
      ·rw[Lib.decDigits_one ab]at hc;simp only[Ac6]at hc;subst hc;rw[UInt8.toNat_ofNat_of_lt' (by show 48+u<256;omega)];omega
      ·rw[Lib.decDigits,dif_neg ab]at hc;rcases Aco.1 hc with q|q
       ·exact ih (u / 10) Ad6 c q
       ·simp only[Ac6]at q;subst q;rw[UInt8.toNat_ofNat_of_lt' (by show 48+u % 10<256;omega)];omega
    have aa:b∈Lib.itoa (Az t).2:=by rw[h1];exact hb
    unfold Lib.itoa at aa;rw[if_neg Ad6]at aa;have:=hd _ b aa;simp[Bl]at q;omega
  ·exact q
theorem aS {t:Tx}(he:(Ax t).1=0):t.length<=600/\∃l r,Bj 16 t= .got l r:=by
 have aa:t.length<=600:=by
  by_cases hl:600<t.length
  ·unfold Ax at he;rw[if_pos hl]at he;simp at he
  ·omega
 refine⟨aa,?_⟩;have hp:=M6 t;cases h:Bj 16 t with
 |got l r=>exact⟨l,r,rfl⟩
 |bad e=>
  rw[h]at hp;have hp:Oh t=((t.length-e.length:Nat):Int):=hp;unfold Ax at he;rw[if_neg Ad6,hp,if_pos (Ac7 _)]at he;simp at he
end Go.Proofs.YtmoeoppbmhfbpabGreatDoorJ
