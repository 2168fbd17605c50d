import Derived.Test.YtmoeoppbmhfbpaaGreatDoorHShelf
import Derived.Test.YtmoeoppbmhfbpaaGreatDoorHLawA
import Derived.Test.YtmoeoppbmhfbpaaGreatDoorHProgL
import Derived.Test.YtmoeoppbmhfbpaaGreatDoorHRefG
import Derived.Test.YtmoeoppbmhfbpaaGreatDoorHAbsWp
set_option maxHeartbeats 16000000
set_option maxRecDepth 100000
set_option linter.all false
namespace Go.Proofs.YtmoeoppbmhfbpaaGreatDoorH
open Go.Abs
def Gz (p:Tx)(x:RItem):Bool:=!x.out&&x.head.pred==p
def Dh (l:List RItem)(p:Tx):Bool:=l.any (Gz p)
theorem Sm (l:List RItem)(cs:List AV)(idl:Nat)(p:Tx)(hE:EL EItem l cs)(hl:l.length<=16)(A:St):ACalls Tryz.prog 140 [sl idl l.length cs,str p] A fun r A'=>r=sc (.bool (Dh l p))/\A'=A:=by
 have af:=EL.length Cb hE;refine Z9 28 [.tmp 4] Tryz.func140 ?_
 repeat' (first|refine Z1 ?_|(refine Z8 ?_;intro ya J)|(refine Z4 ?_;clear J ya)|(refine Z2 ?_ ?_<;>intro h ab<;>try exact Xp)|refine Z3 ?_|exact Zt|(apply J.out;clear J ya))
 refine Ab (fun m s A'=>∃i:Nat,m=l.length-i/\i<=l.length/\s 0=sl idl l.length cs/\s 1=str p/\s 5=sc (.int .i64 i)/\A'=A/\Ad8 ((l.take i).any (Gz p)=false)) l.length
  ⟨0,Ad2,Ad2,rfl,rfl,rfl,rfl,by simp[Ad8]⟩ ?_
 rintro m s A' ⟨i,rfl,hi,h0,h1,h5,hA,ac⟩;subst hA;by_cases ad:i<l.length
 ·have aa:=Aav ad;obtain⟨ih,id,b,r,hb,hd⟩:=Df hE aa;generalize l[i]=x at hd aa hb;have HG:Ad8 (l[i]?=some x):=aa;clear aa
  repeat' (first|refine Z1 ?_|(refine Z8 ?_;intro ya J)|(refine Z4 ?_;clear J ya)|(refine Z2 ?_ ?_<;>intro h ab<;>try exact Xp)|refine Z3 ?_|exact Zt|(apply J.out;clear J ya))
  ·exact⟨_,rfl,by rw[Dh,Dq _ HG.out (by simp only[Gz];simp[*])]⟩
  all_goals
   refine⟨l.length-(i+1),Ad2,i+1,rfl,Ad2,by simp,?_⟩;rw[Ad8,any_take_succ _ HG.out,ac.out];simp only[Gz];simp[*]
 ·have ae:i=l.length:=Ad2;subst ae;rw[Aa3]at ac
  repeat' (first|refine Z1 ?_|(refine Z8 ?_;intro ya J)|(refine Z4 ?_;clear J ya)|(refine Z2 ?_ ?_<;>intro h ab<;>try exact Xp)|refine Z3 ?_|exact Zt|(apply J.out;clear J ya))
  exact⟨_,rfl,by rw[Dh,ac.out]⟩
def Pk (f:Nat->Bool)(l:List RItem)(p:Tx)(i:Nat):Bool:=match l[i]? with|some x=>Gz p x&&f i|none=>false
def Dc (f:Nat->Bool)(l:List RItem)(p:Tx):Bool:=(List.range l.length).any (Pk f l p)
theorem Tg (l:List RItem)(cs:List AV)(idl:Nat)(f:Nat->Bool)(p:Tx)(hE:EL EItem l cs)(hl:l.length<=16)(A:St):ACalls Tryz.prog 180 [sl idl l.length cs,ag (Cn 16 f),str p] A fun r A'=>r=sc (.bool (Dc f l p))/\Keep A A':=by
 have ah:=EL.length Cb hE;have af:=C3 16 f;refine Z9 35 [.tmp 6] Tryz.func180 ?_
 repeat' (first|refine Z1 ?_|(refine Z8 ?_;intro ya J)|(refine Z4 ?_;clear J ya)|(refine Z2 ?_ ?_<;>intro h ab<;>try exact Xp)|refine Z3 ?_|exact Zt|(apply J.out;clear J ya))
 refine Ab (fun m s A'=>∃i:Nat,m=l.length-i/\i<=l.length/\s 0=sl idl l.length cs/\s 2=str p/\s 4=ptr A.nobj 0/\s 7=sc (.int .i64 i)/\A'=A.new (Cn 16 f)/\Ad8 (∀j,j<i->Pk f l p j=false)) l.length
  ⟨0,Ad2,Ad2,rfl,rfl,rfl,rfl,rfl,fun j hj=>Ad2⟩ ?_
 rintro m s A' ⟨i,rfl,hi,h0,h2,h4,h7,rfl,ac⟩;by_cases ad:i<l.length
 ·have aa:=Aav ad;obtain⟨ih,id,b,r,hb,hd⟩:=Df hE aa;generalize l[i]=x at hd aa hb;have hv:Ad8 (Pk f l p i=(Gz p x&&f i)):=by rw[Ad8,Pk,aa]
  clear aa;have ai:=Gu f (show i<16 by omega)
  repeat' (first|refine Z1 ?_|(refine Z8 ?_;intro ya J)|(refine Z4 ?_;clear J ya)|(refine Z2 ?_ ?_<;>intro h ab<;>try exact Xp)|refine Z3 ?_|exact Zt|(apply J.out;clear J ya))
  ·refine⟨_,rfl,?_,Xs⟩;have:Dc f l p=true:=by
    rw[Dc,Ab0];exact⟨i,by simpa using ad,by rw[hv.out];simp only[Gz];simp[*]⟩
   rw[this]
  all_goals
   refine⟨l.length-(i+1),Ad2,i+1,rfl,Ad2,by simp,Ju ac.out ?_⟩;rw[hv.out];simp only[Gz];simp[*]
 ·have ae:i=l.length:=Ad2;subst ae
  repeat' (first|refine Z1 ?_|(refine Z8 ?_;intro ya J)|(refine Z4 ?_;clear J ya)|(refine Z2 ?_ ?_<;>intro h ab<;>try exact Xp)|refine Z3 ?_|exact Zt|(apply J.out;clear J ya))
  refine⟨_,rfl,?_,Xs⟩;have:Dc f l p=false:=by
   rw[Dc,Ab4];intro j hj;have:=ac.out j (by simpa using hj);simp[this]
  rw[this]
def Rch (l:List RItem)(p q:Tx):Prop:=p=q\/Way (M4 l) p q
theorem Rch.trans {l:List RItem}{p q r:Tx}(h:Rch l p q)(k:Rch l q r):Rch l p r:=by
 rcases h with rfl|h
 ·exact k
 ·rcases k with rfl|k
  ·exact .inr h
  ·exact .inr (h.join k)
def HH (l:List RItem):Nat->Tx->Prop
 |0,_=>True
 |k+1,p=>∃x∈l,Rch l p x.head.pred/\∃a∈x.body,a.nt=true/\HH l k a.pred
theorem Oq {l:List RItem}{k:Nat}{p q:Tx}(h:Rch l p q)(hq:HH l k q):HH l k p:=by
 cases k with
 |zero=>trivial
 |succ k=>
  obtain⟨x,hx,hr,hb⟩:=hq;exact⟨x,hx,h.trans hr,hb⟩
theorem tJ {l:List RItem}:∀(k:Nat) (p:Tx),HH l (k+1) p->HH l k p
 |0,p,_=>trivial
 |k+1,p,⟨x,hx,hr,a,ha,hn,hh⟩=>⟨x,hx,hr,a,ha,hn,tJ k a.pred hh⟩
theorem xM {l:List RItem}{p:Tx}{m:Nat}:∀(d:Nat),HH l (m+d) p->HH l m p
 |0,h=>h
 |d+1,h=>xM d (tJ _ _ h)
theorem Sq {α:Type}[BEq α][LawfulBEq α]:∀(a b:List α),a.Nodup->(∀x∈a,x∈b)->a.length<=b.length
 |[],b,_,_=>Nat.zero_le _
 |x::a,b,hn,hs=>by
  have hx:=hs x (by simp);have aa:=List.nodup_cons.1 hn;have h1:=Sq a (b.erase x) aa.2 fun y hy=>(Ac2 (fun e=>aa.1 (by rw[<-e];exact hy))).2 (hs y (by simp[hy]));rw[List.length_erase_of_mem hx]at h1;have h2:0<b.length:=List.length_pos_of_mem hx;simp only[Abv];omega
def fG (l:List RItem):Prop:=∀x∈l,∀a∈x.body,a.nt=true->¬Rch l a.pred x.head.pred
theorem fH {l:List RItem}(hL:fG l):∀(k:Nat) (p:Tx),HH l k p->∃qs:List Tx,qs.length=k/\qs.Nodup/\∀q∈qs,q∈l.map (·.head.pred)/\Rch l p q
 |0,p,_=>⟨[],rfl,Ac3,fun q h=>by cases h⟩
 |k+1,p,⟨x,hx,hr,a,ha,hn,hh⟩=>by
  obtain⟨qs,h1,h2,h3⟩:=fH hL k a.pred hh;refine⟨x.head.pred::qs,by simp[h1],List.nodup_cons.2 ⟨fun hm=>hL x hx a ha hn (h3 _ hm).2,h2⟩,fun q hq=>?_⟩;rcases Acd.1 hq with rfl|hq
  ·exact⟨Acf.2 ⟨x,hx,rfl⟩,hr⟩
  ·exact⟨(h3 q hq).1,hr.trans (Rch.trans (.inr (.one ⟨x,hx,rfl,a,ha,rfl⟩)) (h3 q hq).2)⟩
theorem fI {l:List RItem}(hL:fG l){k:Nat}{p:Tx}(h:HH l k p):k<=l.length:=by
 obtain⟨qs,h1,h2,h3⟩:=fH hL k p h;have:=Sq qs (l.map (·.head.pred)) h2 fun q hq=>(h3 q hq).1;rw[Ace]at this;omega
def oH (l:List RItem)(f:Nat->Bool)(counts:Bool)(x:RItem):Bool:=x.body.any fun a=>a.nt&&(counts&&!Dh l a.pred||Dc f l a.pred)
def iL (l:List RItem)(f:Nat->Bool)(counts:Bool)(j:Nat):Bool:=match l[j]? with|some x=>oH l f counts x|none=>false
def Oa (l:List RItem)(f:Nat->Bool)(counts:Bool)(i:Nat):Bool:=(List.range l.length).any fun j=>iL l f counts j&&(i==j||G7 l i j)
def Uu (l:List RItem):Nat->Nat->Bool
 |0=>fun i=>decide (i<l.length)
 |k+1=>Oa l (Uu l k) (k==0)
theorem ruled_iff {l:List RItem}{p:Tx}:Dh l p=true↔∃x∈l,x.out=false/\x.head.pred=p:=by
 unfold Dh Gz;rw[Ab0];simp
theorem holds_iff {l:List RItem}{f:Nat->Bool}{p:Tx}:Dc f l p=true↔∃i x,l[i]?=some x/\x.out=false/\x.head.pred=p/\f i=true:=by
 unfold Dc;rw[Ab0];constructor
 ·rintro⟨i,hi,h⟩;unfold Pk at h;split at h
  ·rename_i x hx;simp[Gz]at h;exact⟨i,x,hx,h.1.1,h.1.2,h.2⟩
  ·cases h
 ·rintro⟨i,x,hx,h1,h2,h3⟩;refine⟨i,by simpa using (Aau.1 hx).1,?_⟩;unfold Pk;rw[hx];simp[Gz,h1,h2,h3]
theorem hit_iff {l:List RItem}{f:Nat->Bool}{counts:Bool}{x:RItem}:oH l f counts x=true↔∃a∈x.body,a.nt=true/\((counts=true/\Dh l a.pred=false)\/Dc f l a.pred=true):=by
 unfold oH;rw[Ab0];simp
theorem higher_iff {l:List RItem}{f:Nat->Bool}{counts:Bool}{i:Nat}:Oa l f counts i=true↔∃j y,l[j]?=some y/\oH l f counts y=true/\(i=j\/Way (fun a b=>Ke l a b=true) i j):=by
 unfold Oa;rw[Ab0];constructor
 ·rintro⟨j,hj,h⟩;simp only[Aaz,Ac4,Adx]at h;obtain⟨h1,h2⟩:=h;unfold iL at h1;split at h1
  ·rename_i y hy;exact⟨j,y,hy,h1,by rw[<-Kg];exact h2⟩
  ·cases h1
 ·rintro⟨j,y,hy,h1,h2⟩;refine⟨j,by simpa using (Aau.1 hy).1,?_⟩;simp only[Aaz,Ac4,Adx];refine⟨?_,by rw[Kg];exact h2⟩;unfold iL;rw[hy];exact h1
theorem Gd {l:List RItem}(ho:∀x∈l,x.out=true->x.body=[]){x:RItem}(hx:x∈l){a:RAtom}(ha:a∈x.body):x.out=false:=by
 cases h:x.out with
 |false=>rfl
 |true=>rw[ho x hx h]at ha;cases ha
theorem oG {l:List RItem}{p:Tx}(h:Dh l p=true):Dc (Uu l 0) l p=true:=by
 obtain⟨x,hx,h1,h2⟩:=ruled_iff.1 h;obtain⟨i,hi⟩:=Acp hx;exact holds_iff.2 ⟨i,x,hi,h1,h2,by simpa[Uu]using (Aau.1 hi).1⟩
theorem Ti {l:List RItem}(ho:∀x∈l,x.out=true->x.body=[]):∀(k:Nat) (p:Tx),Dc (Uu l (k+1)) l p=true↔HH l (k+1) p:=by
 intro k;induction k with
 |zero=>
  intro p;rw[holds_iff];constructor
  ·rintro⟨i,x,hx,h1,rfl,h3⟩;obtain⟨j,y,hy,hh,hw⟩:=higher_iff.1 h3;obtain⟨a,ha,hn,-⟩:=hit_iff.1 hh;refine⟨y,Aax hy,?_,a,ha,hn,trivial⟩;rcases hw with rfl|hw
   ·rw[hx]at hy;cases hy;exact .inl rfl
   ·obtain⟨x',y',aa,ac,-,hw⟩:=Lc hw;rw[hx]at aa;cases aa;rw[hy]at ac;cases ac;exact .inr hw
  ·rintro⟨y,hy,hr,a,ha,hn,-⟩;obtain⟨j,hj⟩:=Acp hy;have ab:=Gd ho hy ha
   have hh:oH l (Uu l 0) (0==0) y=true:=hit_iff.2 ⟨a,ha,hn,by
    cases af:Dh l a.pred with
    |false=>exact .inl ⟨rfl,rfl⟩
    |true=>exact .inr (oG af)⟩
   rcases hr with rfl|hw
   ·exact⟨j,y,hj,ab,rfl,higher_iff.2 ⟨j,y,hj,hh,.inl rfl⟩⟩
   ·obtain⟨i,x,hi,ae,ad⟩:=Ow ho hw j y hj ab rfl;refine⟨i,x,hi,?_,ae,higher_iff.2 ⟨j,y,hj,hh,.inr ad⟩⟩;cases ad with
    |one e=>obtain⟨x',_,aa,_,_,b,hb,_⟩:=edge_iff.1 e;rw[hi]at aa;cases aa;exact Gd ho (Aax hi) hb
    |more e _=>obtain⟨x',_,aa,_,_,b,hb,_⟩:=edge_iff.1 e;rw[hi]at aa;cases aa;exact Gd ho (Aax hi) hb
 |succ k ih=>
  intro p;rw[holds_iff];constructor
  ·rintro⟨i,x,hx,h1,rfl,h3⟩;obtain⟨j,y,hy,hh,hw⟩:=higher_iff.1 h3;obtain⟨a,ha,hn,hc⟩:=hit_iff.1 hh;have ah:HH l (k+1) a.pred:=by
    rcases hc with⟨hc,-⟩|hc
    ·simp at hc
    ·exact (ih a.pred).1 hc
   refine⟨y,Aax hy,?_,a,ha,hn,ah⟩;rcases hw with rfl|hw
   ·rw[hx]at hy;cases hy;exact .inl rfl
   ·obtain⟨x',y',aa,ac,-,hw⟩:=Lc hw;rw[hx]at aa;cases aa;rw[hy]at ac;cases ac;exact .inr hw
  ·rintro⟨y,hy,hr,a,ha,hn,hk⟩;obtain⟨j,hj⟩:=Acp hy;have ab:=Gd ho hy ha;have hh:oH l (Uu l (k+1)) (k+1==0) y=true:=hit_iff.2 ⟨a,ha,hn,.inr ((ih a.pred).2 hk)⟩;rcases hr with rfl|hw
   ·exact⟨j,y,hj,ab,rfl,higher_iff.2 ⟨j,y,hj,hh,.inl rfl⟩⟩
   ·obtain⟨i,x,hi,ae,ad⟩:=Ow ho hw j y hj ab rfl;refine⟨i,x,hi,?_,ae,higher_iff.2 ⟨j,y,hj,hh,.inr ad⟩⟩;cases ad with
    |one e=>obtain⟨x',_,aa,_,_,b,hb,_⟩:=edge_iff.1 e;rw[hi]at aa;cases aa;exact Gd ho (Aax hi) hb
    |more e _=>obtain⟨x',_,aa,_,_,b,hb,_⟩:=edge_iff.1 e;rw[hi]at aa;cases aa;exact Gd ho (Aax hi) hb
def Ay (l:List RItem)(p:Tx):Nat:=match (List.range 16).find? (fun k=>!Dc (Uu l (k+1)) l p)with|some k=>k|none=>16
theorem Eh {l:List RItem}(ho:∀x∈l,x.out=true->x.body=[])(hL:fG l)(hl:l.length<=16)(p:Tx)(k:Nat):HH l k p↔k<=Ay l p:=by
 unfold Ay;split
 ·rename_i d hd;rw[List.find?_range_eq_some]at hd;obtain⟨h1,h2,h3⟩:=hd;have h4:¬HH l (d+1) p:=by rw[<-Ti ho];simpa using h1
  constructor
  ·intro h;rcases Aan d k with ab|aa
   ·exact absurd (xM (m:=d+1) (k-(d+1)) (by rw[show d+1+(k-(d+1))=k by omega];exact h)) h4
   ·exact aa
  ·intro h;cases k with
   |zero=>trivial
   |succ k=>
    have:=h3 k Ad2;rw[<-Ti ho];simpa using this
 ·rename_i hd;constructor
  ·intro h;have:=fI hL h;omega
  ·intro h;cases k with
   |zero=>trivial
   |succ k=>
    rw[Ab6]at hd;have:=hd k (by simp;omega);rw[<-Ti ho];simpa using this
theorem F9 {N:List Tx}{cc:Nat->Int}:∀(ls:List RAtom) (m:Int),m<=ls.foldl (Du N cc) m/\(∀a∈ls,H7 N cc a<=ls.foldl (Du N cc) m)/\(∀k:Int,k<=ls.foldl (Du N cc) m->k<=m\/∃a∈ls,k<=H7 N cc a)
 |[],m=>⟨Ac5 _,(fun a h=>by cases h),fun k h=>.inl h⟩
 |b::ls,m=>by
  obtain⟨h1,h2,h3⟩:=F9 (N:=N) (cc:=cc) ls (Du N cc m b);have h4:m<=Du N cc m b/\H7 N cc b<=Du N cc m b/\(Du N cc m b=m\/Du N cc m b=H7 N cc b):=by
   unfold Du;split
   ·exact⟨Ad2,Ad2,.inr rfl⟩
   ·exact⟨Ad2,Ad2,.inl rfl⟩
  rw[Aa2];refine⟨Ad2,fun a ha=>?_,fun k hk=>?_⟩
  ·rcases Acd.1 ha with rfl|ha
   ·omega
   ·exact h2 a ha
  ·rcases h3 k hk with h|⟨a,ha,h⟩
   ·rcases h4.2.2 with e|e
    ·exact .inl Ad2
    ·exact .inr ⟨b,by simp,Ad2⟩
   ·exact .inr ⟨a,by simp[ha],h⟩
theorem oW {N:List Tx}{cc dd:Nat->Int}(h:∀j,cc j<=dd j)(a:RAtom):H7 N cc a<=H7 N dd a:=by
 have:=h (N.idxOf a.pred);unfold H7;split<;>omega
theorem dU {N:List Tx}{cc dd:Nat->Int}(h:∀j,cc j<=dd j)(ls:List RAtom):Cl N cc ls<=Cl N dd ls:=by
 obtain⟨h1,h2,h3⟩:=F9 (N:=N) (cc:=dd) ls 0;obtain⟨g1,g2,g3⟩:=F9 (N:=N) (cc:=cc) ls 0;rcases g3 _ (Ac5 _)with g|⟨a,ha,g⟩
 ·exact Acz g h1
 ·exact Acz g (Acz (oW h a) (h2 a ha))
theorem bU {N:List Tx}(cc:Nat->Int)(x:RItem)(j:Nat):cc j<=Ei N cc x j:=by
 unfold Ei;split
 ·rename_i h;rw[h.1];omega
 ·omega
theorem qL {N:List Tx}(cc:Nat->Int)(x:RItem):Cl N cc x.body<=Ei N cc x (N.idxOf x.head.pred):=by
 unfold Ei;by_cases h:cc (N.idxOf x.head.pred)<Cl N cc x.body
 ·rw[if_pos ⟨rfl,h⟩];omega
 ·rw[if_neg (fun e=>h e.2)];omega
theorem Ns {N:List Tx}:∀(l:List RItem) (cc:Nat->Int) (j:Nat),cc j<=l.foldl (Ei N) cc j
 |[],cc,j=>Ac5 _
 |x::l,cc,j=>Acz (bU cc x j) (Ns l _ j)
theorem Nr {N:List Tx}:∀(l:List RItem) (cc dd:Nat->Int),(∀j,cc j<=dd j)->∀x∈l,Cl N cc x.body<=l.foldl (Ei N) dd (N.idxOf x.head.pred)
 |y::l,cc,dd,h,x,hx=>by
  rw[Aa2];rcases Acd.1 hx with rfl|hx
  ·exact Acz (dU h _) (Acz (qL dd x) (Ns l _ _))
  ·exact Nr l cc _ (fun j=>Acz (h j) (bU dd y j)) x hx
theorem Ie {N:List Tx}{l:List RItem}:∀(n:Nat) (j:Nat),0<=Bv N l n j
 |0,j=>Ac5 _
 |n+1,j=>Acz (Ie n j) (Ns l _ j)
def Meet (N:List Tx)(l:List RItem)(cc:Nat->Int):Prop:=∀p∈N,∀k:Nat,(k:Int)<=cc (N.idxOf p)->HH l k p
theorem Meet.step {N:List Tx}{l:List RItem}(hN:∀x∈l,x.head.pred∈N/\∀a∈x.body,a.pred∈N){cc:Nat->Int}(h:Meet N l cc){x:RItem}(hx:x∈l):Meet N l (Ei N cc x):=by
 intro p hp k hk;unfold Ei at hk;split at hk
 ·rename_i hc;obtain rfl:p=x.head.pred:=Eb hp (hN x hx).1 hc.1;cases k with
  |zero=>trivial
  |succ k=>
   rcases (F9 (N:=N) (cc:=cc) x.body 0).2.2 _ hk with h0|⟨a,ha,h0⟩
   ·omega
   ·have aa:=(hN x hx).2 a ha;unfold H7 at h0;cases hn:a.nt with
    |true=>
     rw[if_pos hn]at h0;exact⟨x,hx,.inl rfl,a,ha,hn,h a.pred aa k Ad2⟩
    |false=>
     rw[if_neg (by rw[hn];simp)]at h0;exact Oq (.inr (.one ⟨x,hx,rfl,a,ha,rfl⟩)) (h a.pred aa (k+1) h0)
 ·exact h p hp k hk
theorem Meet.round {N:List Tx}{l:List RItem}(hN:∀x∈l,x.head.pred∈N/\∀a∈x.body,a.pred∈N):∀(m:List RItem) (cc:Nat->Int),(∀x∈m,x∈l)->Meet N l cc->Meet N l (m.foldl (Ei N) cc)
 |[],cc,_,h=>h
 |x::m,cc,hs,h=>Meet.round hN m _ (fun y hy=>hs y (by simp[hy])) (h.step hN (hs x (by simp)))
theorem Wx {N:List Tx}{l:List RItem}(hN:∀x∈l,x.head.pred∈N/\∀a∈x.body,a.pred∈N):∀n,Meet N l (Bv N l n)
 |0=>fun p _ k hk=>by
  have:k=0:=by
   have aa:(k:Int)<=0:=hk;omega
  subst this;trivial
 |n+1=>Meet.round hN l _ (fun _ h=>h) (Wx hN n)
theorem mF {l:List RItem}{k:Nat}{p:Tx}(h:HH l (k+1) p):∃x∈l,x.head.pred=p:=by
 obtain⟨x,hx,hr,-⟩:=h;rcases hr with rfl|hw
 ·exact⟨x,hx,rfl⟩
 ·cases hw with
  |one e=>obtain⟨y,hy,h1,-⟩:=e;exact⟨y,hy,h1⟩
  |more e _=>obtain⟨y,hy,h1,-⟩:=e;exact⟨y,hy,h1⟩
theorem Qa {α:Type}{P Q:α->Bool}:∀(l:List α),(∀x∈l,Q x=true->P x=true)->(l.filter Q).length<=(l.filter P).length/\((∃x∈l,P x=true/\Q x=false)->(l.filter Q).length<(l.filter P).length)
 |[],_=>⟨Aak _,fun⟨x,h,_⟩=>by cases h⟩
 |x::l,h=>by
  obtain⟨h1,h2⟩:=Qa l fun y hy=>h y (by simp[hy]);have hx:=h x (by simp);simp only[List.filter_cons];cases hq:Q x with
  |true=>
   rw[hx hq];simp only[if_true,Abv];refine⟨Ad2,fun⟨y,hy,g1,g2⟩=>?_⟩;rcases Acd.1 hy with rfl|hy
   ·rw[hq]at g2;cases g2
   ·have:=h2 ⟨y,hy,g1,g2⟩;omega
  |false=>
   cases hp:P x with
   |true=>simp only[if_true,Abq,if_false,Abv];exact⟨Ad2,fun _=>Ad2⟩
   |false=>
    simp only[Abq,if_false];refine⟨h1,fun⟨y,hy,g1,g2⟩=>?_⟩;rcases Acd.1 hy with rfl|hy
    ·rw[hp]at g1;cases g1
    ·exact h2 ⟨y,hy,g1,g2⟩
theorem dS {α:Type}(f:α->Nat):∀(l:List α),l≠[]->∃x∈l,∀y∈l,f x<=f y
 |[],h=>absurd rfl h
 |[x],_=>⟨x,by simp,by simp⟩
 |x::y::l,_=>by
  obtain⟨z,hz,hm⟩:=dS f (y::l) (by simp);rcases Nat.le_total (f x) (f z)with h|h
  ·exact⟨x,by simp,fun u hu=>by
    rcases Acd.1 hu with rfl|hu
    ·exact Aak _
    ·exact Aal h (hm u hu)⟩
  ·exact⟨z,by simp[Acd.1 hz],fun u hu=>by
    rcases Acd.1 hu with rfl|hu
    ·exact h
    ·exact hm u hu⟩
section rounds
variable {N:List Tx} {l:List RItem} (D:Tx->Nat)
theorem rL (hD:∀p k,HH l k p↔k<=D p)(n:Nat)(k:Nat)(z:RItem)(hz:z∈l)(a:RAtom)(ha:a∈z.body)(hn:a.nt=true)(hk:D z.head.pred=k+1)(ad:(k:Int)<=Bv N l n (N.idxOf a.pred)):
  ∀p,Way (M4 l) p z.head.pred->D p=k+1->Bv N l n (N.idxOf p)<D p->(∃x∈l,x.head.pred=p)->∃y∈l,Bv N l n (N.idxOf y.head.pred)<D y.head.pred/\(D y.head.pred:Int)<=Bv N l (n+1) (N.idxOf y.head.pred):=by
 have ac:(D z.head.pred:Int)<=Bv N l (n+1) (N.idxOf z.head.pred):=by
  have h1:=Nr (N:=N) l (Bv N l n) (Bv N l n) (fun j=>Ac5 _) z hz;have h2:=(F9 (N:=N) (cc:=Bv N l n) z.body 0).2.1 a ha;have h3:H7 N (Bv N l n) a=Bv N l n (N.idxOf a.pred)+1:=by unfold H7;rw[if_pos hn]
  have h4:Cl N (Bv N l n) z.body<=Bv N l (n+1) (N.idxOf z.head.pred):=h1;unfold Cl at h4;omega
 have up:∀u∈l,∀b∈u.body,Bv N l n (N.idxOf b.pred)<=Bv N l (n+1) (N.idxOf u.head.pred):=by
  intro u hu b hb;have h1:=Nr (N:=N) l (Bv N l n) (Bv N l n) (fun j=>Ac5 _) u hu;have h2:=(F9 (N:=N) (cc:=Bv N l n) u.body 0).2.1 b hb;have h3:Bv N l n (N.idxOf b.pred)<=H7 N (Bv N l n) b:=by unfold H7;split<;>omega
  have h4:Cl N (Bv N l n) u.body<=Bv N l (n+1) (N.idxOf u.head.pred):=h1;unfold Cl at h4;omega
 have down:∀p q,Rch l p q->D q<=D p:=fun p q h=>(hD p _).1 (Oq h ((hD q _).2 (Aak _)));intro p hw;generalize aa:z.head.pred=zp at hw;induction hw with
 |one e=>
  intro hp ab _;obtain⟨u,hu,rfl,b,hb,rfl⟩:=e;rcases Int.lt_or_le (Bv N l n (N.idxOf b.pred)) (D b.pred)with h|h
  ·exact⟨z,hz,by rw[aa];exact h,ac⟩
  ·refine⟨u,hu,ab,?_⟩;have:=up u hu b hb;rw[<-aa]at this h;omega
 |more e hw ih=>
  rename_i p q r;intro hp ab _;obtain⟨u,hu,rfl,b,hb,rfl⟩:=e;have hq:D b.pred=k+1:=by
   have h1:=down u.head.pred b.pred (.inr (.one ⟨u,hu,rfl,b,hb,rfl⟩));have h2:=down b.pred r (.inr hw);rw[<-aa]at h2;omega
  rcases Int.lt_or_le (Bv N l n (N.idxOf b.pred)) (D b.pred)with h|h
  ·refine ih aa hq h ?_;cases hw with
   |one e=>obtain⟨y,hy,h1,-⟩:=e;exact⟨y,hy,h1⟩
   |more e _=>obtain⟨y,hy,h1,-⟩:=e;exact⟨y,hy,h1⟩
  ·refine⟨u,hu,ab,?_⟩;have:=up u hu b hb;omega
theorem P3 (hD:∀p k,HH l k p↔k<=D p):∀n,(l.filter fun x=>decide (Bv N l n (N.idxOf x.head.pred)<D x.head.pred)).length<=l.length-n
 |0=>by simpa using Ac6 _ l
 |n+1=>by
  have ih:=P3 hD n;have ab:∀x∈l,decide (Bv N l (n+1) (N.idxOf x.head.pred)<D x.head.pred)=true->decide (Bv N l n (N.idxOf x.head.pred)<D x.head.pred)=true:=by
   intro x _ h;have:=Ns (N:=N) l (Bv N l n) (N.idxOf x.head.pred);have h':Bv N l (n+1) (N.idxOf x.head.pred)<D x.head.pred:=by simpa using h
   have h2:Bv N l (n+1) (N.idxOf x.head.pred)=l.foldl (Ei N) (Bv N l n) (N.idxOf x.head.pred):=rfl;simp only[Adw];omega
  obtain⟨f1,f2⟩:=Qa l ab;by_cases he:(l.filter fun x=>decide (Bv N l n (N.idxOf x.head.pred)<D x.head.pred))=[]
  ·rw[he]at f1;simp only[Abu]at f1;omega
  ·obtain⟨x,hx,hm⟩:=dS (fun x=>D x.head.pred) _ he;obtain⟨ad,af⟩:=Ac7.1 hx;have aa:Bv N l n (N.idxOf x.head.pred)<D x.head.pred:=by simpa using af
   have h0:=Ie (N:=N) (l:=l) n (N.idxOf x.head.pred);obtain⟨k,hk⟩:∃k,D x.head.pred=k+1:=⟨D x.head.pred-1,Ad2⟩;have hH:=(hD x.head.pred (k+1)).2 Ad2;obtain⟨z,hz,hr,a,ha,hn,hh⟩:=hH;have aj:D z.head.pred<=k+1:=by
    rw[<-hk];exact (hD _ _).1 (Oq hr ((hD _ _).2 (Aak _)))
   have ai:D a.pred+1<=D z.head.pred:=(hD _ _).1 ⟨z,hz,.inl rfl,a,ha,hn,(hD _ _).2 (Aak _)⟩;have am:=(hD _ _).1 hh;have ah:(k:Int)<=Bv N l n (N.idxOf a.pred):=by
    cases k with
    |zero=>exact Ie n _
    |succ k=>
     obtain⟨y,hy,ac⟩:=mF hh;rcases Int.lt_or_le (Bv N l n (N.idxOf a.pred)) ((k+1:Nat):Int)with h|h
     ·exfalso;have:=hm y (Ac7.2 ⟨hy,by rw[ac];simp only[Adw];omega⟩);have h2:D x.head.pred<=D a.pred:=by rw[<-ac];exact this
      omega
     ·exact h
   have hex:∃y∈l,Bv N l n (N.idxOf y.head.pred)<D y.head.pred/\(D y.head.pred:Int)<=Bv N l (n+1) (N.idxOf y.head.pred):=by
    rcases hr with hr|hw
    ·refine⟨x,ad,aa,?_⟩;have h1:=Nr (N:=N) l (Bv N l n) (Bv N l n) (fun j=>Ac5 _) z hz;have h2:=(F9 (N:=N) (cc:=Bv N l n) z.body 0).2.1 a ha;have h3:H7 N (Bv N l n) a=Bv N l n (N.idxOf a.pred)+1:=by unfold H7;rw[if_pos hn]
     have h4:Cl N (Bv N l n) z.body<=Bv N l (n+1) (N.idxOf z.head.pred):=h1;unfold Cl at h4;rw[hr]at hk⊢;omega
    ·exact rL D hD n k z hz a ha hn Ad2 ah _ hw hk aa ⟨x,ad,rfl⟩
   obtain⟨y,hy,ae,ak⟩:=hex;have:=f2 ⟨y,hy,by simpa using ae,by simp only[decide_eq_false_iff_not];omega⟩;omega
theorem cH (hN:∀x∈l,x.head.pred∈N/\∀a∈x.body,a.pred∈N)(hD:∀p k,HH l k p↔k<=D p){p:Tx}(hp:p∈N):Bv N l l.length (N.idxOf p)=D p:=by
 have h0:=Ie (N:=N) (l:=l) l.length (N.idxOf p);have h1:=(hD p _).1 (Wx hN l.length p hp (Bv N l l.length (N.idxOf p)).toNat Ad2);rcases Nat.eq_zero_or_pos (D p)with hz|hz
 ·omega
 ·obtain⟨k,hk⟩:∃k,D p=k+1:=⟨D p-1,Ad2⟩;obtain⟨x,hx,rfl⟩:=mF ((hD p (k+1)).2 Ad2);have h2:=P3 (N:=N) D hD l.length;have h3:(l.filter fun x=>decide (Bv N l l.length (N.idxOf x.head.pred)<D x.head.pred))=[]:=Aa1 Ad2;rw[List.filter_eq_nil_iff]at h3;have:=h3 x hx;simp only[Adw]at this;omega
end rounds
theorem Tb {l:List RItem}(ho:∀x∈l,x.out=true->x.body=[])(h:∀i,i<l.length->E5 l i=false):fG l:=by
 intro x hx a ha hn hr;obtain⟨i,hi⟩:=Acp hx;have hk:=h i (Aau.1 hi).1;unfold E5 at hk;rw[hi]at hk;have:=Ab4.1 hk a ha;apply this;unfold oU;rw[hn];simp only[Aco,Ac4,Adx];rcases hr with hr|hr
 ·exact .inl hr
 ·exact .inr ((U4 ho ⟨x,hx,Gd ho hx ha,rfl⟩).2 hr)
theorem mX {N:List Tx}{l:List RItem}(hl:l.length<=16)(ho:∀x∈l,x.out=true->x.body=[])(hN:∀x∈l,x.head.pred∈N/\∀a∈x.body,a.pred∈N)(h:∀i,i<l.length->E5 l i=false){p:Tx}(hp:p∈N):Bv N l l.length (N.idxOf p)=Ay l p:=
 cH (Ay l) hN (fun q k=>Eh ho (Tb ho h) hl q k) hp
def oI (l:List RItem)(f:Nat->Bool)(counts:Bool)(a:RAtom):Bool:=a.nt&&(counts&&!Dh l a.pred||Dc f l a.pred)
def zO (l:List RItem)(f:Nat->Bool)(counts:Bool)(i j:Nat):Bool:=iL l f counts j&&(i==j||G7 l i j)
def fM (l:List RItem)(f:Nat->Bool)(counts:Bool)(j:Nat)(i:Nat):Bool:=(List.range j).any (zO l f counts i)
theorem rY (l:List RItem)(f:Nat->Bool)(counts:Bool)(j i:Nat):fM l f counts (j+1) i=(fM l f counts j i||zO l f counts i j):=by
 unfold fM;rw[List.range_succ,Ac8];simp
theorem vV (l:List RItem)(f:Nat->Bool)(counts:Bool):fM l f counts l.length=Oa l f counts:=rfl
theorem lR {l:List RItem}{f:Nat->Bool}{counts:Bool}{j i:Nat}(hj:j<=l.length)(hi:l.length<=i):fM l f counts j i=false:=by
 unfold fM;rw[Ab4];intro k hk;rw[Ab5]at hk;unfold zO;have h1:(i==k)=false:=by simp;omega
 have h2:G7 l i k=false:=by
  cases h:G7 l i k with
  |false=>rfl
  |true=>
   obtain⟨x,y,hx,-⟩:=Lc ((Kg l i k).1 h);have:=(Aau.1 hx).1;omega
 rw[h1,h2];simp
def eE (l:List RItem)(f:Nat->Bool)(counts:Bool)(j i:Nat):Nat->Bool:=fun a=>if a<i then fM l f counts (j+1) a else fM l f counts j a
theorem rZ (l:List RItem)(f:Nat->Bool)(counts:Bool)(j:Nat):eE l f counts j 0=fM l f counts j:=by funext a;simp[eE]
theorem vX {l:List RItem}{f:Nat->Bool}{counts:Bool}{j:Nat}(hj:j<l.length):eE l f counts j l.length=fM l f counts (j+1):=by
 funext a;unfold eE;split
 ·rfl
 ·rw[lR Ad2 Ad2,lR Ad2 Ad2]
theorem vW {l:List RItem}{f:Nat->Bool}{counts:Bool}{j i:Nat}{v:Bool}(hv:v=(fM l f counts j i||zO l f counts i j)):(Cn 16 (eE l f counts j i)).set i (sc (.bool v))=Cn 16 (eE l f counts j (i+1)):=by
 rw[T5];congr 1;funext a;unfold eE;by_cases e:a=i
 ·subst e;rw[if_pos rfl,if_pos Ad2,rY,hv]
 ·rw[if_neg e];by_cases h:a<i
  ·rw[if_pos h,if_pos Ad2]
  ·rw[if_neg h,if_neg Ad2]
theorem eD (l:List RItem)(cs:List AV)(idl:Nat)(f:Nat->Bool)(counts:Bool)(hE:EL EItem l cs)(hl:l.length<=16)(hf:∀x∈l,x.fits)(A:St):ACalls Tryz.prog 179 [sl idl l.length cs,ag (Dp (G7 l)),ag (Cn 16 f),sc (.bool counts)] A fun r A'=>r=ag (Cn 16 (Oa l f counts))/\Keep A A':=by
 have bh:=EL.length Cb hE;have bc:=D9;have bd:=fun g=>C3 16 g;have be:∀g,List.take 16 (Cn 16 g)=Cn 16 g:=fun g=>Abz (by rw[C3];exact Aak _);have bf:∀g h,lsp (Cn 16 g) 0 (Cn 16 h)=Cn 16 h:=fun g h=>Jc (by rw[C3,C3]);have bg:∀g,(Cn 16 g).all flat=true:=fun g=>by simp[Cn,flat,Value.oneCell']
 refine Z9 88 [.cell 8 230] Tryz.func179 ?_
 repeat' (first|refine Z1 ?_|(refine Z8 ?_;intro ya J)|(refine Z4 ?_;clear J ya)|(refine Z2 ?_ ?_<;>intro h ad<;>try exact Xp)|refine Z3 ?_|exact Zt|(apply J.out;clear J ya))
 refine Ab (fun m s A'=>∃j:Nat,m=l.length-j/\j<=l.length/\s 0=sl idl l.length cs/\s 3=sc (.bool counts)/\s 5=ptr A.nobj 0/\s 6=ptr (A.nobj+1) 0/\s 8=ptr (A.nobj+2) 0/\s 9=ptr (A.nobj+3) 0/\s 10=sc (.int .i64 j)/\Keep A A'/\A.nobj+3<A'.nobj/\A'.obj A.nobj=Dp (G7 l)/\A'.obj (A.nobj+1)=Cn 16 f/\A'.obj (A.nobj+2)=Cn 16 (fun _=>false)/\A'.obj (A.nobj+3)=Cn 16 (fM l f counts j)) l.length
  ⟨0,Ad2,Ad2,by simp[upd,initS],by simp[upd,initS],Ad4,Ad4,Ad4,Ad4,rfl,Xs,Ad6,?_,?_,?_,?_⟩ ?_
 ·rw[Ai Ad6,Ai Ad6,Ai Ad6,Am]
 ·rw[Ai Ad6,Ai Ad6,Cd Ad6 Ad6]
 ·rw[Ai Ad6,Cd Ad6 Ad6];exact Ls 16
 ·rw[Cd Ad6 Ad6];exact Ls 16
 rintro m s A' ⟨j,rfl,hj,h0,h3,h5,h6,h8,h9,am,hK,ak,aj,ai,ah,ae⟩;have ap:=hK.nobj;by_cases aw:j<l.length
 ·have aa:=Aav aw;have a9:=(hf l[j] (Ab1 aw)).1;obtain⟨ih,id,b,r,hb,hd⟩:=Df hE aa;have a0:Ad8 (iL l f counts j=l[j].body.any (oI l f counts)):=by rw[Ad8,iL,aa];rfl
  generalize l[j]=x at hd aa a9 hb a0;clear aa;have bi:=EL.length Ba hb
  repeat' (first|refine Z1 ?_|(refine Z8 ?_;intro ya J)|(refine Z4 ?_;clear J ya)|(refine Z2 ?_ ?_<;>intro h ad<;>try exact Xp)|refine Z3 ?_|exact Zt|(apply J.out;clear J ya))
  refine Ab (fun m s A'=>∃n:Nat,m=x.body.length-n/\n<=x.body.length/\s 0=sl idl l.length cs/\s 3=sc (.bool counts)/\s 5=ptr A.nobj 0/\s 6=ptr (A.nobj+1) 0/\s 8=ptr (A.nobj+2) 0/\s 9=ptr (A.nobj+3) 0/\s 10=sc (.int .i64 j)/\s 11=sc (.bool ((x.body.take n).any (oI l f counts)))/\s 12=sc (.int .i64 n)/\Keep A A'/\A.nobj+3<A'.nobj/\A'.obj A.nobj=Dp (G7 l)/\A'.obj (A.nobj+1)=Cn 16 f/\A'.obj (A.nobj+2)=Cn 16 (fun _=>false)/\A'.obj (A.nobj+3)=Cn 16 (fM l f counts j)) x.body.length
   ⟨0,Ad2,Ad2,by simp[upd,h0],by simp[upd,h3],by simp[upd,h5],by simp[upd,h6],by simp[upd,h8],by simp[upd,h9],by simp[upd,am],Ad4,rfl,hK,ak,aj,ai,ah,ae⟩ ?_
  clear h0 h3 h5 h6 h8 h9 am hK ak aj ai ah ae ap;rintro m s A' ⟨n,rfl,hn,h0,h3,h5,h6,h8,h9,am,af,bb,hK,ak,aj,ai,ah,ae⟩;have ap:=hK.nobj;by_cases av:n<x.body.length
  ·have aa:=Aav av;obtain⟨ia,r2,ba⟩:=B8 hb aa;have ab:Ad8 ((x.body.take (n+1)).any (oI l f counts)=((x.body.take n).any (oI l f counts)||(x.body[n].nt&&(counts&&!Dh l x.body[n].pred||Dc f l x.body[n].pred)))):=by
    rw[Ad8,Aa8,aa,Ab9,Ac8];simp[oI]
   generalize x.body[n]=a at ba aa ab;clear aa;generalize (x.body.take n).any (oI l f counts)=hit at af ab;have hR:=fun A=>Sm l cs idl a.pred hE hl A;have hH:=fun A=>Tg l cs idl f a.pred hE hl A;generalize Dh l a.pred=ru at hR ab;generalize Dc f l a.pred=hold at hH ab
   repeat' (first|refine Z1 ?_|(refine Z8 ?_;intro ya J)|(refine Z4 ?_;clear J ya)|(refine Z2 ?_ ?_<;>intro h ad<;>try exact Xp)|(refine Z5 ?_;first|(refine Xi (hR _) ?_;rintro _ _ ⟨rfl,rfl⟩)|(refine Xi (hH _) ?_;rintro _ _ ⟨rfl,ay⟩;(have a4:=ay.obj;have au:=ay.nobj;(try simp only[Aa,Ac,Av]at au))))|refine Z3 ?_|exact Zt|(apply J.out;clear J ya))
   all_goals
    have h2:=ab.out;simp only[*,Abt,Aco,Abr,Bool.true_or,Bool.false_and,Bool.or_false,Abw,Bool.and_false,Bool.and_true,Bool.or_true]at h2
    first
    |exact⟨x.body.length-(n+1),Ad2,n+1,rfl,Ad2,by rw[h2],by simp,((hK.new _).put hK.nobj _).trans ay,Ad2⟩
    |exact⟨x.body.length-(n+1),Ad2,n+1,rfl,Ad2,by rw[h2],by simp,(hK.new _).put hK.nobj _,Ad2⟩
  ·have a5:n=x.body.length:=Ad2;subst a5;rw[Aa3]at af;rw[<-a0.out]at af;generalize az:iL l f counts j=hit at af;have HJ:Ad8 _:=az;clear az
   repeat' (first|refine Z1 ?_|(refine Z8 ?_;intro ya J)|(refine Z4 ?_;clear J ya)|(refine Z2 ?_ ?_<;>intro h ad<;>try exact Xp)|refine Z3 ?_|exact Zt|(apply J.out;clear J ya))
   refine Ab (fun m s A'=>∃i:Nat,m=l.length-i/\i<=l.length/\s 0=sl idl l.length cs/\s 3=sc (.bool counts)/\s 5=ptr A.nobj 0/\s 6=ptr (A.nobj+1) 0/\s 8=ptr (A.nobj+2) 0/\s 9=ptr (A.nobj+3) 0/\s 10=sc (.int .i64 j)/\s 11=sc (.bool hit)/\s 14=sc (.int .i64 i)/\Keep A A'/\A.nobj+3<A'.nobj/\A'.obj A.nobj=Dp (G7 l)/\A'.obj (A.nobj+1)=Cn 16 f/\A'.obj (A.nobj+2)=Cn 16 (fun _=>false)/\A'.obj (A.nobj+3)=Cn 16 (eE l f counts j i)) l.length
    ⟨0,Ad2,Ad2,by simp[upd,h0],by simp[upd,h3],by simp[upd,h5],by simp[upd,h6],by simp[upd,h8],by simp[upd,h9],by simp[upd,am],by simp[upd,af],rfl,hK,ak,aj,ai,ah,by rw[rZ];exact ae⟩ ?_
   clear h0 h3 h5 h6 h8 h9 am af bb hK ak aj ai ah ae ap;rintro m s A' ⟨i,rfl,hi,h0,h3,h5,h6,h8,h9,am,af,bj,hK,ak,aj,ai,ah,ae⟩;have ap:=hK.nobj;by_cases a6:i<l.length
   ·have a3:=Gu (eE l f counts j i) (show i<16 by omega);have g1:=K1 (G7 l) (i:=i) (k:=j) Ad2 Ad2;have ao:eE l f counts j i i=fM l f counts j i:=by simp[eE]
    have ac:Ad8 (∀v,v=(fM l f counts j i||(hit&&(i==j||G7 l i j)))->(Cn 16 (eE l f counts j i)).set i (sc (.bool v))=Cn 16 (eE l f counts j (i+1))):=fun v hv=>vW (by rw[hv,zO,HJ.out]);rw[ao]at a3;clear ao;generalize fM l f counts j i=cur at a3 ac;generalize G7 l i j=wv at g1 ac;by_cases an:i=j
    ·have ax:((i:Int)==(j:Int))=true:=by simp[an]
     have ac:Ad8 (∀v,v=(cur||hit)->(Cn 16 (eE l f counts j i)).set i (sc (.bool v))=Cn 16 (eE l f counts j (i+1))):=fun v hv=>ac.out v (by rw[hv,show (i==j)=true from Adx.2 an];cases cur<;>cases hit<;>rfl);clear an
     repeat' (first|refine Z1 ?_|(refine Z8 ?_;intro ya J)|(refine Z4 ?_;clear J ya)|(refine Z2 ?_ ?_<;>intro h ad<;>try exact Xp)|refine Z3 ?_|exact Zt|(apply J.out;clear J ya))
     all_goals exact⟨l.length-(i+1),Ad2,i+1,rfl,Ad2,by simp,hK.put Ad2 _,ac.out _ (by simp[*])⟩
    ·have ax:((i:Int)==(j:Int))=false:=by simp;omega
     have ac:Ad8 (∀v,v=(cur||(hit&&wv))->(Cn 16 (eE l f counts j i)).set i (sc (.bool v))=Cn 16 (eE l f counts j (i+1))):=fun v hv=>ac.out v (by rw[hv,show (i==j)=false from beq_eq_false_iff_ne.2 an];rfl);clear an
     repeat' (first|refine Z1 ?_|(refine Z8 ?_;intro ya J)|(refine Z4 ?_;clear J ya)|(refine Z2 ?_ ?_<;>intro h ad<;>try exact Xp)|refine Z3 ?_|exact Zt|(apply J.out;clear J ya))
     all_goals exact⟨l.length-(i+1),Ad2,i+1,rfl,Ad2,by simp,hK.put Ad2 _,ac.out _ (by simp[*])⟩
   ·have a8:i=l.length:=Ad2;subst a8;rw[vX aw]at ae
    repeat' (first|refine Z1 ?_|(refine Z8 ?_;intro ya J)|(refine Z4 ?_;clear J ya)|(refine Z2 ?_ ?_<;>intro h ad<;>try exact Xp)|refine Z3 ?_|exact Zt|(apply J.out;clear J ya))
    exact⟨l.length-(j+1),Ad2,j+1,rfl,Ad2,by simp,rfl⟩
 ·have a7:j=l.length:=Ad2;subst a7;rw[vV]at ae
  repeat' (first|refine Z1 ?_|(refine Z8 ?_;intro ya J)|(refine Z4 ?_;clear J ya)|(refine Z2 ?_ ?_<;>intro h ad<;>try exact Xp)|refine Z3 ?_|exact Zt|(apply J.out;clear J ya))
  exact⟨_,rfl,rfl,hK.put Ad2 _⟩
theorem pP (i:Nat):(Cn 16 (fun a=>decide (a<i))).set i (sc (.bool true))=Cn 16 (fun a=>decide (a<i+1)):=by
 rw[T5];congr 1;funext a;by_cases e:a=i
 ·subst e;simp
 ·rw[if_neg e];simp;omega
theorem bR {l:List RItem}{p:Tx}{k:Nat}(hk:k<16)(h1:Dc (Uu l (k+1)) l p=false)(h2:∀j,j<k->Dc (Uu l (j+1)) l p=true):Ay l p=k:=by
 unfold Ay;have:(List.range 16).find? (fun k=>!Dc (Uu l (k+1)) l p)=some k:=by
  rw[List.find?_range_eq_some];exact⟨by rw[h1];rfl,by simpa using hk,fun j hj=>by rw[h2 j hj];rfl⟩
 rw[this]
theorem Yg {l:List RItem}{p:Tx}(h2:∀j,j<16->Dc (Uu l (j+1)) l p=true):Ay l p=16:=by
 unfold Ay;have:(List.range 16).find? (fun k=>!Dc (Uu l (k+1)) l p)=none:=by
  rw[Ab6];intro j hj;rw[h2 j (by simpa using hj)];simp
 rw[this]
theorem Uq (l:List RItem)(cs:List AV)(idl:Nat)(p:Tx)(hE:EL EItem l cs)(hl:l.length<=16)(hf:∀x∈l,x.fits)(A:St):ACalls Tryz.prog 136 [sl idl l.length cs,str p] A fun r A'=>r=sc (.int .i64 (Ay l p:Nat))/\Keep A A':=by
 have bd:=EL.length Cb hE;have a4:=D9;have a5:=fun g=>C3 16 g;have a6:∀M,List.take 256 (Dp M)=Dp M:=fun M=>Abz (by rw[D9];exact Aak _);have a8:∀M,lsp (Jj 256 (.bool false)) 0 (Dp M)=Dp M:=fun M=>Jc (by rw[D9];simp[Jj]);have be:(Jj 256 (.bool false)).length=256:=by simp[Jj]
 have bb:∀M,(Dp M).all flat=true:=fun M=>by simp[Dp,flat,Value.oneCell']
 have a7:∀g,List.take 16 (Cn 16 g)=Cn 16 g:=fun g=>Abz (by rw[C3];exact Aak _);have ba:∀g h,lsp (Cn 16 g) 0 (Cn 16 h)=Cn 16 h:=fun g h=>Jc (by rw[C3,C3]);have bc:∀g,(Cn 16 g).all flat=true:=fun g=>by simp[Cn,flat,Value.oneCell']
 refine Z9 35 [.tmp 4] Tryz.func136 ?_
 repeat' (first|refine Z1 ?_|(refine Z8 ?_;intro ya J)|(refine Z4 ?_;clear J ya)|(refine Z2 ?_ ?_<;>intro h aa<;>try exact Xp)|(refine Z5 ?_;refine Xi (Zy l cs idl hE hl hf _) ?_;rintro _ _ ⟨rfl,ae⟩;(have knw:=ae.nobj))|refine Z3 ?_|exact Zt|(apply J.out;clear J ya))
 rename_i A1
 refine Ab (fun m s A'=>∃i:Nat,m=l.length-i/\i<=l.length/\s 0=sl idl l.length cs/\s 1=str p/\s 5=ptr A1.nobj 0/\s 6=ptr (A1.nobj+1) 0/\s 7=sc (.int .i64 i)/\Keep A A'/\A1.nobj+1<A'.nobj/\A'.obj A1.nobj=Dp (G7 l)/\A'.obj (A1.nobj+1)=Cn 16 (fun a=>decide (a<i))) l.length
  ⟨0,Ad2,Ad2,by simp[upd,initS],by simp[upd,initS],Ad4,Ad4,rfl,?_,Ad7,?_,?_⟩ ?_
 ·exact ((ae.new _).put ae.nobj _).new _
 ·rw[Ai Ad7,Ak]
 ·rw[Cd Ad7 Ad7];rw[show (fun a=>decide (a<0))=(fun _=>false)by funext a;simp];exact Ls 16
 rintro m s A' ⟨i,rfl,hi,h0,h1,h5,h6,h7,hK,ak,ai,ad⟩;by_cases a9:i<l.length
 ·have ax:=pP i
  repeat' (first|refine Z1 ?_|(refine Z8 ?_;intro ya J)|(refine Z4 ?_;clear J ya)|(refine Z2 ?_ ?_<;>intro h aa<;>try exact Xp)|refine Z3 ?_|exact Zt|(apply J.out;clear J ya))
  exact⟨l.length-(i+1),Ad2,i+1,rfl,Ad2,by simp,hK.put Ad2 _,rfl⟩
 ·have az:i=l.length:=Ad2;subst az;rw[show (fun a=>decide (a<l.length))=Uu l 0 from rfl]at ad
  repeat' (first|refine Z1 ?_|(refine Z8 ?_;intro ya J)|(refine Z4 ?_;clear J ya)|(refine Z2 ?_ ?_<;>intro h aa<;>try exact Xp)|refine Z3 ?_|exact Zt|(apply J.out;clear J ya))
  refine Ab (fun m s A'=>∃k:Nat,m=16-k/\k<=16/\s 0=sl idl l.length cs/\s 1=str p/\s 5=ptr A1.nobj 0/\s 6=ptr (A1.nobj+1) 0/\s 8=sc (.int .i64 k)/\Keep A A'/\A1.nobj+1<A'.nobj/\A'.obj A1.nobj=Dp (G7 l)/\A'.obj (A1.nobj+1)=Cn 16 (Uu l k)/\Ad8 (∀j,j<k->Dc (Uu l (j+1)) l p=true)) 16
   ⟨0,Ad2,Ad2,by simp[upd,h0],by simp[upd,h1],by simp[upd,h5],by simp[upd,h6],rfl,hK,ak,ai,ad,fun j hj=>Ad2⟩ ?_
  clear h0 h1 h5 h6 h7 hK ak ai ad;rintro m s A' ⟨k,rfl,hk,h0,h1,h5,h6,h8,hK,ak,ai,ad,ab⟩;by_cases am:k<16
  ·have a0:∀A,ACalls Tryz.prog 179 [sl idl l.length cs,ag (Dp (G7 l)),ag (Cn 16 (Uu l k)),sc (.bool ((k:Int)==0))] A fun r A'=>r=ag (Cn 16 (Uu l (k+1)))/\Keep A A':=fun A=>by
    have e:((k:Int)==0)=(k==0):=by rw[Acv];simp only[Adx];omega
    rw[e];exact eD l cs idl (Uu l k) (k==0) hE hl hf A
   have ao:=fun A=>Tg l cs idl (Uu l (k+1)) p hE hl A;have ap:Ad8 (Dc (Uu l (k+1)) l p=false->Ay l p=k):=fun h=>bR am h ab.out;generalize an:Dc (Uu l (k+1)) l p=ho at ao ap;have a3:Ad8 _:=an;clear an;have knz:=ae.nobj
   repeat' (first|refine Z1 ?_|(refine Z8 ?_;intro ya J)|(refine Z4 ?_;clear J ya)|(refine Z2 ?_ ?_<;>intro h aa<;>try exact Xp)|(refine Z5 ?_;first|(refine Xi (a0 _) ?_;rintro _ _ ⟨rfl,ah⟩;(have av:=ah.obj;have aw:=ah.nobj))|(refine Xi (ao _) ?_;rintro _ _ ⟨rfl,af⟩;(have au:=af.obj;have aj:=af.nobj;(try simp only[Aa,Ac,Av]at aj))))|refine Z3 ?_|exact Zt|(apply J.out;clear J ya))
   ·have hs:=ap.out (by assumption);exact⟨_,rfl,by rw[hs],((hK.trans ah).put Ad2 _).trans af⟩
   ·refine⟨16-(k+1),Ad2,k+1,rfl,Ad2,by simp,((hK.trans ah).put Ad2 _).trans af,Ad2,rfl,fun j hj=>?_⟩;by_cases e:j=k
    ·subst e;rw[a3.out];assumption
    ·exact ab.out j Ad2
  ·have ay:k=16:=Ad2;subst ay;have ac:=Yg ab.out
   repeat' (first|refine Z1 ?_|(refine Z8 ?_;intro ya J)|(refine Z4 ?_;clear J ya)|(refine Z2 ?_ ?_<;>intro h aa<;>try exact Xp)|refine Z3 ?_|exact Zt|(apply J.out;clear J ya))
   first
   |exact⟨_,rfl,by rw[ac];rfl,hK⟩
   |exact⟨_,rfl,by rw[ac];rfl⟩
   |exact⟨_,rfl,rfl⟩
def fK (x:RItem)(k:Nat):RItem:={out:=false,head:=x.head,body:=x.body.eraseIdx k}
def Um (ls:List RAtom)(k n:Nat):List RAtom:=(ls.take n).eraseIdx k
theorem tW {ls:List RAtom}{k n:Nat}{a:RAtom}(h:ls[n]?=some a)(hk:n≠k):Um ls k (n+1)=Um ls k n++[a]:=by
 have hn:=(Aau.1 h).1;have hl:(ls.take n).length=n:=by rw[Abk];omega
 unfold Um;rw[Aa8,h,Ab9];by_cases aa:k<n
 ·rw[List.eraseIdx_append_of_lt_length Ad2]
 ·rw[List.eraseIdx_of_length_le (by rw[Abj,hl];simp;omega),List.eraseIdx_of_length_le Ad2]
theorem pH {ls:List RAtom}{k:Nat}{a:RAtom}(h:ls[k]?=some a):Um ls k (k+1)=Um ls k k:=by
 have hn:=(Aau.1 h).1;have hl:(ls.take k).length=k:=by rw[Abk];omega
 unfold Um;have e:(ls.take k).eraseIdx k=ls.take k:=List.eraseIdx_of_length_le Ad2;rw[e,Aa8,h,Ab9,List.eraseIdx_append_of_length_le Ad2,hl,Nat.sub_self];simp
theorem tU (ls:List RAtom)(k n:Nat):(Um ls k n).length<=n:=by
 unfold Um;have h1:=List.length_eraseIdx_le (ls.take n) k;rw[Abk]at h1;omega
theorem tV (ls:List RAtom)(k:Nat):Um ls k ls.length=ls.eraseIdx k:=by unfold Um;rw[Aa3]
def Tv (e:Bool×Int):Tx:=if e.1=true then [UInt8.ofNat (IntKind.u8.wrap (65+e.2)).toNat]else Lib.itoa e.2
def okE (e:Bool×Int):Prop:=0<=e.2/\(e.1=true->e.2<26)/\e.2<=999/\(Tv e).length<=1000
theorem Ig (t:Tx):(Bu t).1=Ag t:=by
 cases t with
 |nil=>rfl
 |cons b r=>
  unfold Bu Ag;dsimp only;split
  ·rename_i h;rw[h]
  ·rename_i h;simp at h;rw[h]
def UT (t:Tx):Prop:=DT t/\Qi t/\t.length<=1000/\(Ag t=true->∃k:Nat,k<26/\t=[Qp k])
theorem UT.enc {t:Tx}(h:UT t)(hv:Ag t=true):∃k:Nat,k<26/\t=[Qp k]/\Bu t=(true,(k:Int)):=by
 obtain⟨k,hk,rfl⟩:=h.2.2.2 hv;refine⟨k,hk,rfl,?_⟩;rw[Ga (oB Ad2 Ad2),Pf Ad2 Ad2];congr 1;omega
theorem UT.dec {t:Tx}(h:UT t):Tv (Bu t)=t/\okE (Bu t):=by
 have hd:Tv (Bu t)=t:=by
  cases hv:Ag t with
  |true=>
   obtain⟨k,hk,rfl,e⟩:=h.enc hv;rw[e];unfold Tv;rw[if_pos rfl,Te Ad2 Ad2]
  |false=>
   rcases h.1 with h1|⟨-,h1,-⟩
   ·rw[hv]at h1;cases h1
   ·unfold Tv;rw[if_neg (by rw[Ig,hv];simp),h1]
 refine⟨hd,?_,?_,?_,by rw[hd];exact h.2.2.1⟩
 ·cases hv:Ag t with
  |true=>obtain⟨k,hk,-,e⟩:=h.enc hv;rw[e];exact Acy _
  |false=>
   rcases h.1 with h1|h1
   ·rw[hv]at h1;cases h1
   ·exact h1.2.2.1
 ·intro hb;rw[Ig]at hb;obtain⟨k,hk,-,e⟩:=h.enc hb;rw[e];show (k:Int)<26;omega
 ·cases hv:Ag t with
  |true=>obtain⟨k,hk,-,e⟩:=h.enc hv;rw[e];show (k:Int)<=999;omega
  |false=>
   rcases h.1 with h1|h1
   ·rw[hv]at h1;cases h1
   ·exact h1.2.2.2
theorem iP {p:Nat->Bool}{n:Nat}(h:¬0<=A9 p n):∀i,i<n->p i=false:=by
 intro i hi;unfold A9 at h;split at h
 ·rename_i j hj;exact absurd (Acy j) h
 ·rename_i hn;rw[Ab6]at hn;simpa using hn i (by simpa using hi)
end Go.Proofs.YtmoeoppbmhfbpaaGreatDoorH
