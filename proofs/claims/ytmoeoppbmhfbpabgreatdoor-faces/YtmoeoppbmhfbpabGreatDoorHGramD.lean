import Derived.Test.YtmoeoppbmhfbpabGreatDoorHGram
import Derived.Test.YtmoeoppbmhfbpabGreatDoorHRefA
set_option linter.all false
namespace Go.Proofs.YtmoeoppbmhfbpabGreatDoorH
set_option maxHeartbeats 16000000
open Go.Abs
theorem Ip {b:UInt8}(h:A5 b.toNat=true):97<=b.toNat/\b.toNat<=122:=by simp[A5]at h;omega
theorem Zx {b:UInt8}(h:A3 b.toNat=true\/Ax b.toNat=true):48<=b.toNat/\b.toNat<=90/\b.toNat≠58:=by
 simp[A3,Ax]at h;omega
theorem Hb {c:Int}:∀(p r:Tx) (d:Bool) (cur:Tx),(∀b∈p,b.toNat≠40/\b.toNat≠41/\(b.toNat:Int)≠c)->B9 c (p++r) d cur=B9 c r d (cur++p):=by
 intro p;induction p with
 |nil=>intro r d cur _;simp
 |cons b p ih=>
  intro r d cur h;obtain⟨h1,h2,h3⟩:=h b (Acf ..);rw[Acg,B9];have e1:((b.toNat:Int)==40)=false:=by simp;omega
  have e2:((b.toNat:Int)==41)=false:=by simp;omega
  have e3:((b.toNat:Int)==c)=false:=by simp;omega
  simp only[e1,e2,e3,Ab7,if_false,false_and];rw[ih r d (cur++[b]) (fun x hx=>h x (Ach _ hx))];simp
theorem sN {c:Int}:∀(p r:Tx) (cur:Tx),(∀b∈p,b.toNat≠41)->B9 c (p++r) true cur=B9 c r true (cur++p):=by
 intro p;induction p with
 |nil=>intro r cur _;simp
 |cons b p ih=>
  intro r cur h;have h2:=h b (Acf ..);rw[Acg,B9];have e2:((b.toNat:Int)==41)=false:=by simp;omega
  simp only[e2,Ab7,if_false,ite_self,reduceCtorEq,and_false];rw[ih r (cur++[b]) (fun x hx=>h x (Ach _ hx))];simp
theorem sK {c:Int}(r:Tx)(d:Bool)(cur:Tx):B9 c (40::r) d cur=B9 c r true (cur++[40]):=by
 rw[B9];simp
theorem nW {c:Int}(hc:c≠41)(r:Tx)(d:Bool)(cur:Tx):B9 c (41::r) d cur=B9 c r false (cur++[41]):=by
 rw[B9];simp;intro h;exact absurd h.symm hc
theorem sO {c:UInt8}(h1:c.toNat≠40)(h2:c.toNat≠41)(r cur:Tx):B9 c.toNat (c::r) false cur=cur::B9 c.toNat r false []:=by
 rw[B9];have e1:((c.toNat:Int)==40)=false:=by simp;omega
 have e2:((c.toNat:Int)==41)=false:=by simp;omega
 simp[e1,e2]
def lE (c:Int)(t:Tx):Prop:=t≠[]/\∀r cur,B9 c (t++r) false cur=B9 c r false (cur++t)
theorem sL:∀(ts:List Tx) (cur:Tx),(∀t∈ts,lE 44 t)->cur≠[]->B9 44 (A8 ts) false cur=cur::ts:=by
 intro ts;induction ts with
 |nil=>intro cur _ hc;simp[A8,B9,hc]
 |cons t ts ih=>
  intro cur h hc;obtain⟨h1,h2⟩:=h t (Acf ..);have e:A8 (t::ts)=44::(t++A8 ts):=by simp[A8]
  rw[e,show (44:Int)=((44:UInt8).toNat:Int)from rfl,sO (by decide) (by decide),show ((44:UInt8).toNat:Int)=44 from rfl,h2,Aci,ih t (fun x hx=>h x (Ach _ hx)) h1]
theorem dI {ts:List Tx}(h:∀t∈ts,lE 44 t):Qg (A2 ts) 44=ts:=by
 cases ts with
 |nil=>simp[A2,Qg,B9]
 |cons t ts=>
  obtain⟨h1,h2⟩:=h t (Acf ..);unfold Qg A2;rw[h2,Aci,sL ts t (fun x hx=>h x (Ach _ hx)) h1]
theorem fC {t:Tx}(h:Ia t):lE 44 t:=by
 refine⟨h.1,fun r cur=>Hb _ _ _ _ fun b hb=>?_⟩;have:=Zx (h.2 b hb);omega
theorem nD {ts:List Tx}{b:UInt8}(h:b∈A8 ts):b=44\/∃t∈ts,b∈t:=by
 unfold A8 at h;rw[Acj]at h;obtain⟨t,ht,hb⟩:=h;rcases Ace.1 hb with h|h
 ·exact .inl h
 ·exact .inr ⟨t,ht,h⟩
theorem nE {ts:List Tx}{b:UInt8}(h:b∈A2 ts):b=44\/∃t∈ts,b∈t:=by
 cases ts with
 |nil=>cases h
 |cons t ts=>
  unfold A2 at h;rcases Ack.1 h with h|h
  ·exact .inr ⟨t,Acf ..,h⟩
  ·rcases nD h with h|⟨u,hu,h⟩
   ·exact .inl h
   ·exact .inr ⟨u,Ach _ hu,h⟩
theorem dW {a:RAtom}(h:C9 a){b:UInt8}(hb:b∈A2 a.terms):b.toNat=44\/(48<=b.toNat/\b.toNat<=90/\b.toNat≠58):=by
 rcases nE hb with rfl|⟨t,ht,hb⟩
 ·exact .inl rfl
 ·exact .inr (Zx ((h.2.2.2 t ht).2 b hb))
theorem dJ {c:Int}(hc:c=44\/c=46){a:RAtom}(h:C9 a)(r cur:Tx):B9 c (A9 a++r) false cur=B9 c r false (cur++A9 a):=by
 unfold A9;rw[Ab4,Hb a.pred _ _ _ (fun b hb=>by have:=Ip (h.1.2 b hb);omega),Acg,sK,Ab4,sN (A2 a.terms) _ _ (fun b hb=>by have:=dW h hb;omega)];rw[Acg,Aci,nW Ad2];simp
theorem Yr {c:Int}(hc:c=44\/c=46){a:RAtom}(h:C9 a)(r cur:Tx):B9 c (Bg a++r) false cur=B9 c r false (cur++Bg a):=by
 unfold Bg;rw[Ab4,Hb (if a.nt=true then [33]else []) _ _ _ (fun b hb=>by split at hb<;>simp at hb;subst hb;simp;omega),dJ hc h];simp
theorem Zc (a:RAtom):A9 a≠[]:=by unfold A9;simp
theorem uM (a:RAtom):Bg a≠[]:=by unfold Bg;simp[Zc]
theorem nG {a:RAtom}(h:C9 a):lE 44 (Bg a):=⟨uM a,fun r cur=>Yr (.inl rfl) h r cur⟩
theorem gY:∀(l:List RAtom) (r cur:Tx),(∀a∈l,C9 a)->B9 46 (A8 (l.map Bg)++r) false cur=B9 46 r false (cur++A8 (l.map Bg)):=by
 intro l;induction l with
 |nil=>intro r cur _;simp[A8]
 |cons a l ih=>
  intro r cur h;have e:A8 ((a::l).map Bg)=[44]++(Bg a++A8 (l.map Bg)):=by simp[A8]
  rw[e,Ab4,Hb [44] _ _ _ (fun b hb=>by simp at hb;subst hb;decide),Ab4,Yr (.inr rfl) (h a (Acf ..)),ih _ _ (fun x hx=>h x (Ach _ hx))];simp
theorem sM {x:RItem}(h:Bv x)(r cur:Tx):B9 46 (A0 x++r) false cur=B9 46 r false (cur++A0 x):=by
 obtain⟨h1,h2,h3⟩:=h;unfold A0;by_cases ho:x.out=true
 ·rw[if_pos ho,Hb (63::x.head.pred) _ _ _ (fun b hb=>by
   rcases Ace.1 hb with rfl|hb
   ·decide
   ·have:=Ip (h1.2 b hb);omega)]
 ·obtain⟨w1,w2,w3,w4⟩:=h3 (by simpa using ho);rw[if_neg ho];unfold Cw;rw[Ab4,dJ (.inr rfl) w1];cases hb:x.body with
  |nil=>simp
  |cons l ls=>
   rw[hb]at w4;rw[if_neg (by simp)];have e:(58::45::A2 ((l::ls).map Bg))=[58,45]++(Bg l++A8 (ls.map Bg)):=by simp[A2]
   rw[e,Ab4,Hb [58,45] _ _ _ (fun b hb=>by simp at hb;rcases hb with rfl|rfl<;>decide),Ab4,Yr (.inr rfl) (w4 l (Acf ..)),gY _ _ _ (fun x hx=>w4 x (Ach _ hx))];simp
theorem Wt:∀(l:List RItem),(∀x∈l,Bv x)->Qg (Bl l) 46=l.map A0:=by
 intro l;induction l with
 |nil=>intro _;simp[Bl,Qg,B9]
 |cons x l ih=>
  intro h;have e:Bl (x::l)=A0 x++(46::Bl l):=by simp[Bl]
  have hi:=ih fun y hy=>h y (Ach _ hy);unfold Qg at*
  rw[e,sM (h x (Acf ..)),show (46:Int)=((46:UInt8).toNat:Int)from rfl,sO (by decide) (by decide),show ((46:UInt8).toNat:Int)=46 from rfl,hi];simp
theorem O7 {c:Int}:∀(p r:Tx),(∀b∈p,(b.toNat:Int)≠c)->Ex (p++r) c=p.length+Ex r c:=by
 intro p;induction p with
 |nil=>intro r _;simp
 |cons b p ih=>
  intro r h;have:=ih r fun x hx=>h x (Ach _ hx);unfold Ex at*
  have e:((b.toNat:Int)==c)=false:=by simpa using h b (Acf ..)
  rw[Acg,List.findIdx_cons,e];simp only[cond_false,Aca];omega
theorem Wn {c:UInt8}(r:Tx):Ex (c::r) c.toNat=0:=by unfold Ex;rw[List.findIdx_cons];simp
theorem sC {c:Int}:Ex [] c=0:=rfl
theorem Ji {p:Tx}(h:Gm p):∃b q,p=b::q/\97<=b.toNat/\b.toNat<=122:=by
 obtain⟨h1,h2⟩:=h;cases p with
 |nil=>exact absurd rfl h1
 |cons b q=>exact⟨b,q,rfl,Ip (h2 b (Acf ..))⟩
theorem tE {a:RAtom}(h:C9 a):tF a.nt (A9 a)=a:=by
 have hf:Ex (A9 a) 40=a.pred.length:=by
  unfold A9;rw[O7 a.pred _ (fun b hb=>by have:=Ip (h.1.2 b hb);omega),show (40:Int)=((40:UInt8).toNat:Int)from rfl,Wn];rfl
 have hl:(A9 a).length=a.pred.length+1+(A2 a.terms).length+1:=by unfold A9;simp;omega
 unfold tF;rw[hf,if_pos Ad2];have e1:((A9 a).drop 0).take (a.pred.length-0)=a.pred:=by unfold A9;simp
 have e2:((A9 a).drop (a.pred.length+1)).take ((A9 a).length-1-(a.pred.length+1))=A2 a.terms:=by
  rw[hl];unfold A9;rw[show a.pred++40::(A2 a.terms++[41])=(a.pred++[40])++(A2 a.terms++[41])by simp];rw[List.drop_append_of_le_length (by simp),List.drop_of_length_le (by simp),Aci];rw[show a.pred.length+1+(A2 a.terms).length+1-1-(a.pred.length+1)=(A2 a.terms).length by omega];simp
 rw[e1,e2,dI (fun t ht=>fC (h.2.2.2 t ht))]
theorem T2 {a:RAtom}(h:C9 a):dT (Bg a)=a:=by
 obtain⟨b,q,hp,h1,h2⟩:=Ji h.1;have e:=tE h;unfold dT Bg;cases hn:a.nt with
 |true=>
  have e1:dN ((if true=true then [33]else [])++A9 a)=true:=rfl;have e2:Q9 ((if true=true then [33]else [])++A9 a)=A9 a:=by
   unfold Q9;rw[if_pos e1];simp
  rw[e1,e2,<-hn,e]
 |false=>
  have e1:dN ((if false=true then [33]else [])++A9 a)=false:=by
   unfold A9;rw[hp];simp[dN];omega
  have e2:Q9 ((if false=true then [33]else [])++A9 a)=A9 a:=by
   unfold Q9;rw[if_neg (by rw[e1];simp)];simp
  rw[e1,e2,<-hn,e]
theorem Ra {a:RAtom}(h:a.nt=false):Bg a=A9 a:=by unfold Bg;simp[h]
theorem Aaw {a:RAtom}(h:C9 a):∀b∈A9 a,(b.toNat:Int)≠58:=by
 intro b hb;unfold A9 at hb;rcases Ack.1 hb with hb|hb
 ·have:=Ip (h.1.2 b hb);omega
 ·rcases Ace.1 hb with rfl|hb
  ·decide
  ·rcases Ack.1 hb with hb|hb
   ·have:=dW h hb;omega
   ·simp at hb;subst hb;decide
theorem Km {x:RItem}(h:Bv x):cU (A0 x)=x/\A0 x≠[]/\(Ot (A0 x)=false->Ex (A0 x) 58<(A0 x).length->Ex (A0 x) 58+2<=(A0 x).length):=by
 obtain⟨h1,h2,h3⟩:=h;obtain⟨b,q,hp,k1,k2⟩:=Ji h1;unfold A0;by_cases ho:x.out=true
 ·rw[if_pos ho];obtain⟨w1,w2,w3⟩:=h2 ho;have hq:Ot (63::x.head.pred)=true:=rfl;refine⟨?_,by simp,fun h=>by rw[hq]at h;cases h⟩;unfold cU;rw[if_pos hq];unfold Aas;obtain⟨xo,⟨n,p,t⟩,bd⟩:=x;simp at*
  simp[*]
 ·rw[if_neg ho];obtain⟨w1,w2,w3,w4⟩:=h3 (by simpa using ho);have hq:Ot (Cw x)=false:=by unfold Cw A9;rw[hp];simp[Ot];omega
  cases hb:x.body with
  |nil=>
   have e:Cw x=A9 x.head:=by unfold Cw;rw[if_pos hb];simp
   have hf:Ex (Cw x) 58=(Cw x).length:=by
    have:=O7 (A9 x.head) [] (Aaw w1);rw[Abv,sC]at this;rw[e];omega
   refine⟨?_,by rw[e];exact Zc _,fun _ h=>Ad2⟩;unfold cU;rw[if_neg (by simp[hq])];unfold qF;rw[hf,if_neg Ad2];have e2:((Cw x).drop 0).take ((Cw x).length-0)=Bg x.head:=by rw[e,Ra w2];simp
   rw[e2,T2 w1];obtain⟨xo,hd,bd⟩:=x;simp at*
   simp[*]
  |cons l ls=>
   have e:Cw x=A9 x.head++(58::45::A2 (x.body.map Bg)):=by unfold Cw;rw[if_neg (by rw[hb];simp)]
   have hf:Ex (Cw x) 58=(A9 x.head).length:=by
    have:=O7 (A9 x.head) (58::45::A2 (x.body.map Bg)) (Aaw w1);rw[e,this,show (58:Int)=((58:UInt8).toNat:Int)from rfl,Wn];rfl
   have hl:(Cw x).length=(A9 x.head).length+2+(A2 (x.body.map Bg)).length:=by rw[e];simp;omega
   refine⟨?_,by rw[e];simp,fun _ _=>Ad2⟩;unfold cU;rw[if_neg (by simp[hq])];unfold qF;rw[hf,if_pos Ad2];have e2:((Cw x).drop 0).take ((A9 x.head).length-0)=Bg x.head:=by rw[e,Ra w2];simp
   have e3:((Cw x).drop ((A9 x.head).length+2)).take ((Cw x).length-((A9 x.head).length+2))=A2 (x.body.map Bg):=by
    rw[hl,e,show A9 x.head++(58::45::A2 (x.body.map Bg))=(A9 x.head++[58,45])++A2 (x.body.map Bg)by simp];rw[List.drop_append_of_le_length (by simp),List.drop_of_length_le (by simp),Aci];exact Acl Ad2
   rw[e2,e3,T2 w1,dI (fun t ht=>by
    rw[Acm]at ht;obtain⟨a,ha,rfl⟩:=ht
    exact nG (w4 a ha))]
   have e4:(x.body.map Bg).map dT=x.body:=by
    rw[Abu]
    conv=>rhs;rw[<-Acn x.body]
    exact Aco fun a ha=>T2 (w4 a ha)
   rw[e4];obtain⟨xo,hd,bd⟩:=x;simp at*
   simp[*]
theorem Je {s:Tx}{l:List RItem}{r:Tx}(hs:s.length<=1000)(h:Bu 16 s= .got l r):sA s/\Cj s=l/\l.length<=16/\∀x∈l,Bv x:=by
 obtain⟨h1,h2,h3,h4⟩:=H8 _ _ _ _ h;have hc:=Wt l h4;refine⟨⟨?_,?_⟩,?_,h3,h4⟩
 ·rw[h1,hc];simpa using h3
 ·intro t ht;have hl:=gZ ht;rw[h1,hc,Acm]at ht;obtain⟨x,hx,rfl⟩:=ht;obtain⟨g1,g2,g3⟩:=Km (h4 x hx);exact⟨Ad2,g2,g3⟩
 ·unfold Cj;rw[h1,hc,Abu]
  conv=>rhs;rw[<-Acn l]
  exact Aco fun x hx=>(Km (h4 x hx)).1
inductive Way {α:Type}(E:α->α->Prop):α->α->Prop
 |one {a b:α}:E a b->Way E a b
 |more {a b c:α}:E a b->Way E b c->Way E a c
theorem Way.join {α:Type}{E:α->α->Prop}{a b c:α}(h:Way E a b)(k:Way E b c):Way E a c:=by
 induction h with
 |one e=>exact .more e k
 |more e _ ih=>exact .more e (ih k)
def tM (n:Nat)(M:Nat->Nat->Bool):Prop:=∀a b,M a b=true->a<n/\b<n
theorem zG {n:Nat}{M:Nat->Nat->Bool}(hM:tM n M):∀(m:Nat),m<=n->tM n (Fb n M m)/\(∀a b,M a b=true->Fb n M m a b=true)/\(∀a b,Fb n M m a b=true->Way (fun a b=>M a b=true) a b)/\
  (∀a b c,b<m->Fb n M m a b=true->Fb n M m b c=true->Fb n M m a c=true):=by
 intro m;induction m with
 |zero=>intro _;exact⟨hM,fun _ _ h=>h,fun _ _ h=>.one h,fun _ _ _ h=>Ad2⟩
 |succ m ih=>
  intro hm;obtain⟨h1,h2,h3,h4⟩:=ih Ad2;have e:∀a b,Fb n M (m+1) a b=true↔Fb n M m a b=true\/(Fb n M m a m=true/\Fb n M m m b=true):=by
   intro a b;show fwN n (Fb n M m) m a b=true↔_;unfold fwN fw;split
   ·simp
   ·rename_i hn;constructor
    ·exact .inl
    ·rintro (h|⟨ha,hb⟩)
     ·exact h
     ·exact absurd ⟨(h1 _ _ ha).1,(h1 _ _ hb).2⟩ hn
  refine⟨?_,?_,?_,?_⟩
  ·intro a b h;rcases (e a b).1 h with h|⟨ha,hb⟩
   ·exact h1 _ _ h
   ·exact⟨(h1 _ _ ha).1,(h1 _ _ hb).2⟩
  ·intro a b h;exact (e a b).2 (.inl (h2 _ _ h))
  ·intro a b h;rcases (e a b).1 h with h|⟨ha,hb⟩
   ·exact h3 _ _ h
   ·exact (h3 _ _ ha).join (h3 _ _ hb)
  ·intro a b c hb ab aa;rw[e]at ab aa⊢;by_cases ad:b=m
   ·subst ad;have g1:Fb n M b a b=true:=by rcases ab with h|⟨h,_⟩<;>exact h
    have g2:Fb n M b b c=true:=by rcases aa with h|⟨_,h⟩<;>exact h
    exact .inr ⟨g1,g2⟩
   ·have ac:b<m:=Ad2;rcases ab with ab|⟨ha,af⟩<;>rcases aa with aa|⟨ae,hc⟩
    ·exact .inl (h4 _ _ _ ac ab aa)
    ·exact .inr ⟨h4 _ _ _ ac ab ae,hc⟩
    ·exact .inr ⟨ha,h4 _ _ _ ac af aa⟩
    ·exact .inr ⟨ha,hc⟩
theorem Yk {n:Nat}{M:Nat->Nat->Bool}(hM:tM n M)(a b:Nat):Fb n M n a b=true↔Way (fun a b=>M a b=true) a b:=by
 obtain⟨h1,h2,h3,h4⟩:=zG hM n (Abb _);refine⟨h3 a b,fun h=>?_⟩;induction h with
 |one e=>exact h2 _ _ e
 |more e _ ih=>exact h4 _ _ _ (hM _ _ e).2 (h2 _ _ e) ih
theorem Y6 (l:List RItem)(i k:Nat):yC l i k=true↔Way (fun a b=>Ti l a b=true) i k:=by
 have he:∀a b,Ti l a b=true->a<l.length/\b<l.length:=by
  intro a b h;unfold Ti at h;split at h
  ·rename_i x y hx hy;exact⟨(List.getElem?_eq_some_iff.1 hx).1,(List.getElem?_eq_some_iff.1 hy).1⟩
  ·cases h
 have e:(fun a b=>if a<l.length/\b<l.length then Ti l a b else false)=Ti l:=by
  funext a b;split
  ·rfl
  ·rename_i hn;cases hq:Ti l a b with
   |false=>rfl
   |true=>exact absurd (he a b hq) hn
 unfold yC;rw[e];exact Yk he i k
def Eu (l:List RItem)(p q:Tx):Prop:=∃x∈l,x.head.pred=p/\∃a∈x.body,a.pred=q
theorem edge_iff {l:List RItem}{i k:Nat}:Ti l i k=true↔∃x y,l[i]?=some x/\l[k]?=some y/\y.out=false/\∃a∈x.body,a.pred=y.head.pred:=by
 unfold Ti;constructor
 ·intro h;split at h
  ·rename_i x y hx hy;refine⟨x,y,hx,hy,?_⟩;simp at h;exact h
  ·cases h
 ·rintro⟨x,y,hx,hy,h1,a,ha,h2⟩;rw[hx,hy];simp only[h1,Bool.not_false,Acp];exact Acb.2 ⟨a,ha,by simp[h2]⟩
theorem lL {l:List RItem}{i k:Nat}(h:Way (fun a b=>Ti l a b=true) i k):∃x y,l[i]?=some x/\l[k]?=some y/\y.out=false/\Way (Eu l) x.head.pred y.head.pred:=by
 induction h with
 |one e=>
  obtain⟨x,y,hx,hy,h1,a,ha,h2⟩:=edge_iff.1 e;exact⟨x,y,hx,hy,h1,.one ⟨x,Abh hx,rfl,a,ha,h2⟩⟩
 |more e _ ih=>
  obtain⟨x,y,hx,hy,h1,a,ha,h2⟩:=edge_iff.1 e;obtain⟨x',z,aa,hz,h3,h4⟩:=ih;rw[hy]at aa;cases aa;exact⟨x,z,hx,hz,h3,.more ⟨x,Abh hx,rfl,a,ha,h2⟩ h4⟩
theorem lM {l:List RItem}(ho:∀x∈l,x.out=true->x.body=[]){p q:Tx}(h:Way (Eu l) p q):∀(k:Nat) (y:RItem),l[k]?=some y->y.out=false->y.head.pred=q->∃(i:Nat) (x:RItem),l[i]?=some x/\x.head.pred=p/\Way (fun a b=>Ti l a b=true) i k:=by
 induction h with
 |one e=>
  intro k y hk hy hq;obtain⟨x,hx,h1,a,ha,h2⟩:=e;obtain⟨i,hi⟩:=List.getElem?_of_mem hx;exact⟨i,x,hi,h1,.one (edge_iff.2 ⟨x,y,hi,hk,hy,a,ha,by rw[h2,hq]⟩)⟩
 |more e _ ih=>
  intro k y hk hy hq;obtain⟨x,hx,h1,a,ha,h2⟩:=e;obtain⟨i,hi⟩:=List.getElem?_of_mem hx;obtain⟨j,z,hj,h3,h4⟩:=ih k y hk hy hq;have hz:z.out=false:=by
   have hne:z.body≠[]:=by
    cases h4 with
    |one e=>
     obtain⟨z',_,aa,_,_,a,ha,_⟩:=edge_iff.1 e;rw[hj]at aa;cases aa;intro hn;rw[hn]at ha;cases ha
    |more e _=>
     obtain⟨z',_,aa,_,_,a,ha,_⟩:=edge_iff.1 e;rw[hj]at aa;cases aa;intro hn;rw[hn]at ha;cases ha
   cases hb:z.out with
   |false=>rfl
   |true=>exact absurd (ho z (Abh hj) hb) hne
  exact⟨i,x,hi,h1,.more (edge_iff.2 ⟨x,z,hi,hj,hz,a,ha,by rw[h2,h3]⟩) h4⟩
theorem Og {l:List RItem}(ho:∀x∈l,x.out=true->x.body=[]){p q:Tx}(hq:∃y∈l,y.out=false/\y.head.pred=q):iY l p q=true↔Way (Eu l) p q:=by
 unfold iY;constructor
 ·intro h;rw[Acb]at h;obtain⟨i,-,h⟩:=h;rw[Acb]at h;obtain⟨k,-,h⟩:=h;unfold zB at h;simp only[Abj,Ady]at h;obtain⟨⟨h1,h2⟩,h3⟩:=h;obtain⟨x,y,hx,hy,_,hw⟩:=lL ((Y6 l i k).1 h1);unfold Yj at h2 h3;rw[hx]at h2;rw[hy]at h3;rw[<-h2,<-h3];exact hw
 ·intro h;obtain⟨y,hy,h1,h2⟩:=hq;obtain⟨k,hk⟩:=List.getElem?_of_mem hy;obtain⟨i,x,hi,h3,h4⟩:=lM ho h k y hk h1 h2;rw[Acb];refine⟨i,by simpa using (List.getElem?_eq_some_iff.1 hi).1,?_⟩;rw[Acb];refine⟨k,by simpa using (List.getElem?_eq_some_iff.1 hk).1,?_⟩;unfold zB Yj;rw[(Y6 l i k).2 h4,hi,hk];simp[h2,h3]
set_option maxRecDepth 100000
theorem Nr (c:Int)(I:St):ACalls Tryz.prog 214 [sc (.int .u8 c)] I fun x I'=>x=sc (.bool (A5 c))/\I'=I:=by
 refine Z9 9 [.tmp 2] Tryz.func214 ?_
 repeat' (first|refine Z1 ?_|(refine Z8 ?_;intro κ hκ)|(refine Z4 ?_;clear hκ κ)|(refine Z2 ?_ ?_<;>intro h aa<;>try exact Xp)|refine Z3 ?_|exact⟨⟩|(apply hκ.out;clear hκ κ))
 all_goals exact⟨_,rfl,by simp[A5, *]⟩
theorem Fs (c:Int)(I:St):ACalls Tryz.prog 248 [sc (.int .u8 c)] I fun x I'=>x=sc (.bool (A3 c))/\I'=I:=by
 refine Z9 9 [.tmp 2] Tryz.func248 ?_
 repeat' (first|refine Z1 ?_|(refine Z8 ?_;intro κ hκ)|(refine Z4 ?_;clear hκ κ)|(refine Z2 ?_ ?_<;>intro h aa<;>try exact Xp)|refine Z3 ?_|exact⟨⟩|(apply hκ.out;clear hκ κ))
 all_goals exact⟨_,rfl,by simp[A3, *]⟩
theorem Fq (c:Int)(I:St):ACalls Tryz.prog 249 [sc (.int .u8 c)] I fun x I'=>x=sc (.bool (Ax c))/\I'=I:=by
 refine Z9 9 [.tmp 2] Tryz.func249 ?_
 repeat' (first|refine Z1 ?_|(refine Z8 ?_;intro κ hκ)|(refine Z4 ?_;clear hκ κ)|(refine Z2 ?_ ?_<;>intro h aa<;>try exact Xp)|refine Z3 ?_|exact⟨⟩|(apply hκ.out;clear hκ κ))
 all_goals exact⟨_,rfl,by simp[Ax, *]⟩
def V4 (t:Tx)(k:Nat)(nm:AV):List AV:=[str t,sc (.int .i64 k),nm]
def takeB (t:Tx)(k:Nat)(c:Int):Bool:=match t[k]? with|some b=>(b.toNat:Int)==c|none=>false
def takeN (t:Tx)(k:Nat)(c:Int):Nat:=if takeB t k c=true then k+1 else k
theorem lZ (t:Tx)(k o:Nat)(nm:AV)(c:Int)(ht:t.length<=1000)(hk:k<=t.length)(I:St)(ho:I.obj o=V4 t k nm)(hn:o<I.nobj):ACalls Tryz.prog 132 [ptr o 0,sc (.int .u8 c)] I fun x I'=>x=sc (.bool (takeB t k c))/\KeepX o I I'/\I'.obj o=V4 t (takeN t k c) nm:=by
 unfold V4 at*
 refine Z9 35 [.tmp 4] Tryz.func132 ?_
 repeat' (first|refine Z1 ?_|(refine Z8 ?_;intro κ hκ)|(refine Z4 ?_;clear hκ κ)|(refine Z2 ?_ ?_<;>intro h aa<;>try exact Xp)|refine Z3 ?_|exact⟨⟩|(apply hκ.out;clear hκ κ))
 refine Bt Ak (fun _=>True) [22] [0,1,2,3,4,5,6,7,8,9,10,11,12,13,14,15,16,17,18,19,20,21] [22] Ad5 (fun _ _ _ h=>h) ?_;intro κ hκ;by_cases ab:k<t.length
 ·have hg:=List.getElem?_eq_getElem ab;generalize t[k]=b at hg;refine Z3 ?_
  repeat' (first|refine Z1 ?_|(refine Z8 ?_;intro κ hκ)|(refine Z4 ?_;clear hκ κ)|(refine Z2 ?_ ?_<;>intro h aa<;>try exact Xp)|refine Z3 ?_|exact⟨⟩|(apply hκ.out;clear hκ κ))
  ·have hB:takeB t k c=false:=by simp[takeB,hg];simpa using h
   exact⟨_,rfl,by rw[hB],KeepX.refl _ _,by simp[takeN,hB]⟩
  ·have hB:takeB t k c=true:=by simp[takeB,hg];simpa using h
   exact⟨_,rfl,by rw[hB],(KeepX.refl _ _).put _,by simp[takeN,hB]⟩
 ·have hg:t[k]?=none:=by simp;omega
  refine Z3 ?_
  repeat' (first|refine Z1 ?_|(refine Z8 ?_;intro κ hκ)|(refine Z4 ?_;clear hκ κ)|(refine Z2 ?_ ?_<;>intro h aa<;>try exact Xp)|refine Z3 ?_|exact⟨⟩|(apply hκ.out;clear hκ κ))
  have hB:takeB t k c=false:=by simp[takeB,hg]
  exact⟨_,rfl,by rw[hB],KeepX.refl _ _,by simp[takeN,hB]⟩
def Lx (t s:Tx)(nm:AV):List AV:=V4 t (t.length-s.length) nm
theorem Nf {t s:Tx}(h:s<:+t):t[t.length-s.length]?=s.head?:=by
 obtain⟨p,rfl⟩:=h;rw[Ab2,Nat.add_sub_cancel,List.getElem?_append_right (Abb _),Acr];cases s<;>rfl
theorem Om {t s:Tx}{b:UInt8}(h:(b::s)<:+t):s<:+t:=(List.suffix_cons b s).trans h
theorem Hf {t s:Tx}(h:s<:+t):s.length<=t.length:=h.length_le
theorem Ol (t s:Tx)(o:Nat)(nm:AV)(c:Int)(ht:t.length<=1000)(hs:s<:+t)(I:St)(ho:I.obj o=Lx t s nm)(hn:o<I.nobj):
  ACalls Tryz.prog 132 [ptr o 0,sc (.int .u8 c)] I fun x I'=>KeepX o I I'/\match Az c s with
   |.got _ r=>x=sc (.bool true)/\I'.obj o=Lx t r nm/\r<:+t
   |.bad e=>x=sc (.bool false)/\I'.obj o=Lx t s nm/\e=s:=by
 have hl:=Hf hs;refine ACalls.mono (lZ t _ o nm c ht Ad2 I ho hn) ?_;rintro x I' ⟨rfl,hK,hO⟩;refine⟨hK,?_⟩;have hg:=Nf hs;cases s with
 |nil=>
  have hB:takeB t (t.length-([]:Tx).length) c=false:=by unfold takeB;rw[hg];rfl
  refine⟨by rw[hB],?_,rfl⟩;rw[hO,takeN,hB];rfl
 |cons b r=>
  have hB:takeB t (t.length-(b::r).length) c=((b.toNat:Int)==c):=by unfold takeB;rw[hg];rfl
  unfold Az;by_cases hb:((b.toNat:Int)==c)=true
  ·rw[hb]at hB;simp only[hb,if_true];refine⟨by rw[hB],?_,Om hs⟩;rw[hO,takeN,hB,Lx];simp only[if_true,Aca]at*
   rw[show t.length-(r.length+1)+1=t.length-r.length by omega]
  ·have aa:((b.toNat:Int)==c)=false:=by simpa using hb
   rw[aa]at hB;simp only[aa,Ab7,if_false];refine⟨by rw[hB],?_,trivial⟩;rw[hO,takeN,hB];rfl
def G1 (ds:Tx):Int:=ds.foldl (fun v b=>v*10+((b.toNat:Int)-48)) 0
theorem La (ds:Tx)(b:UInt8):G1 (ds++[b])=G1 ds*10+((b.toNat:Int)-48):=by simp[G1]
def sH (s ds q:Tx):Prop:=ds.length<=3/\Av Ax 3 s=(ds++(Av Ax (3-ds.length) q).1,(Av Ax (3-ds.length) q).2)/\0<=G1 ds/\(ds.length=0->G1 ds=0)/\(ds.length=1->G1 ds<=9)/\(ds.length=2->G1 ds<=99)
theorem sG (s:Tx):sH s [] s:=⟨by simp,by simp,by simp[G1],by simp[G1],by simp,by simp⟩
theorem nT {s ds q:Tx}{b:UInt8}(h:sH s ds (b::q))(hl:ds.length<3)(hb:Ax b.toNat=true):sH s (ds++[b]) q:=by
 obtain⟨h1,h2,h3,h4,h5,h6⟩:=h;have hr:48<=b.toNat/\b.toNat<=57:=by simp[Ax]at hb;omega
 have e:3-ds.length=(3-(ds++[b]).length)+1:=by simp;omega
 rw[e,Av,if_pos hb]at h2;refine⟨by simp;omega,by rw[h2];simp,?_,by simp,?_,?_⟩
 ·rw[La];omega
 ·intro hh;rw[La];have:=h4 (by simp at hh;simp[hh]);omega
 ·intro hh;rw[La];have:=h5 (by simp at hh;omega);omega
theorem Tn {s ds q:Tx}(h:sH s ds q)(he:ds.length=3\/q=[]\/∃b r,q=b::r/\Ax b.toNat=false):Av Ax 3 s=(ds,q):=by
 obtain⟨h1,h2,-⟩:=h;rw[h2];rcases he with he|rfl|⟨b,r,rfl,hb⟩
 ·rw[he];simp[Av]
 ·cases hn:3-ds.length<;>simp[Av]
 ·cases hn:3-ds.length<;>simp[Av,hb]
theorem P6 (t s:Tx)(o:Nat)(nm:AV)(ht:t.length<=1000)(hs:s<:+t)(I:St)(ho:I.obj o=Lx t s nm)(hn:o<I.nobj)(an:∀b r,s=b::r->((b.toNat:Int)==48)=false):
  ACalls Tryz.prog 250 [ptr o 0] I fun x I'=>KeepX o I I'/\∃q,I'.obj o=Lx t q nm/\q<:+t/\q=(Av Ax 3 s).2/\x=sc (.int .i64 (G1 (Av Ax 3 s).1)):=by
 have hp:Az 48 s= .bad s:=by
  cases s with
  |nil=>rfl
  |cons b r=>unfold Az;simp only[an b r rfl];simp
 have hT:=Ol t s o nm 48 ht hs I ho hn;rw[hp]at hT;refine Z9 57 [.tmp 2] Tryz.func250 ?_
 repeat' (first|refine Z1 ?_|(refine Z8 ?_;intro κ hκ)|(refine Z4 ?_;clear hκ κ)|(refine Z2 ?_ ?_<;>intro h aa<;>try exact Xp)|(refine Z5 ?_;refine Xi (hT) ?_;rintro _ _ ⟨ab,rfl,ai,-⟩)|refine Z3 ?_|exact⟨⟩|(apply hκ.out;clear hκ κ))
 rename_i I1;have ae:o<I1.nobj:=Abd hn ab.nobj;clear hT hp ho
 refine Ad (fun m s' I'=>∃(q ds:Tx),m=3-ds.length/\s' 0=ptr o 0/\s' 3=sc (.int .i64 (G1 ds))/\s' 4=sc (.int .i64 ds.length)/\KeepX o I I'/\I'.obj o=Lx t q nm/\o<I'.nobj/\q<:+t/\Ad8 (sH s ds q)) 3
  ⟨s,[],rfl,rfl,rfl,rfl,ab,ai,ae,hs,sG s⟩ ?_
 rintro m s' I' ⟨q,ds,rfl,h0,h3,h4,hK,hO,ap,hq,hD⟩;clear ab ai ae;have ac:=Hf hq;have ad:=Nf hq;have am:=hD.out;obtain⟨d1,-,d3,d4,d5,d6⟩:=am;unfold Lx V4 at hO
 repeat' (first|refine Z1 ?_|(refine Z8 ?_;intro κ hκ)|(refine Z4 ?_;clear hκ κ)|(refine Z2 ?_ ?_<;>intro h aa<;>try exact Xp)|refine Z3 ?_|exact⟨⟩|(apply hκ.out;clear hκ κ))
 refine Bt Ak (fun _=>True) [25] [0,1,2,3,4,5,6,7,8,9,10,11,12,13,14,15,16,17,18,19,20,21,22,23] [24,25] Ad5 (fun _ _ _ h=>h) ?_;intro κ hκ;cases q with
 |nil=>
  simp only[Ab9,Acs]at hO ad ac;refine Z3 ?_
  repeat' (first|refine Z1 ?_|(refine Z8 ?_;intro κ hκ)|(refine Z4 ?_;clear hκ κ)|(refine Z2 ?_ ?_<;>intro h aa<;>try exact Xp)|(refine Z5 ?_;refine Xi (Fq _ _) ?_;rintro _ _ ⟨rfl,rfl⟩)|refine Z3 ?_|exact⟨⟩|(apply hκ.out;clear hκ κ))
  all_goals
   have he:=Tn hD.out (.inr (.inl rfl));exact⟨_,rfl,[],by simp[Lx,V4],hq,by rw[he],by rw[he]⟩
 |cons b r=>
  simp only[Aca,List.head?_cons]at hO ad ac;have aj:=Om hq;refine Z3 ?_;have af:Ax b.toNat=true->48<=(b.toNat:Int)/\(b.toNat:Int)<=57:=fun h=>by simp[Ax]at h;omega
  repeat' (first|refine Z1 ?_|(refine Z8 ?_;intro κ hκ)|(refine Z4 ?_;clear hκ κ)|(refine Z2 ?_ ?_<;>intro h aa<;>try exact Xp)|(refine Z5 ?_;refine Xi (Fq _ _) ?_;rintro _ _ ⟨rfl,rfl⟩)|refine Z3 ?_|exact⟨⟩|(apply hκ.out;clear hκ κ))
  all_goals
   first
   |(have he:=Tn hD.out (.inr (.inr ⟨b,r,rfl,by assumption⟩))
     exact⟨_,rfl,b::r,by simp[Lx,V4],hq,by rw[he],by rw[he]⟩)
   |(have he:=Tn hD.out (.inl Ad2)
     exact⟨_,rfl,b::r,by simp[Lx,V4],hq,by rw[he],by rw[he]⟩)
   |skip
  have ah:Ax b.toNat=true:=by assumption
  have af:=af ah;have ak:ds.length<3:=Ad2;have ao:G1 ds<=99:=by
   have:ds.length=0\/ds.length=1\/ds.length=2:=Ad2;rcases this with h|h|h
   ·have:=d4 h;omega
   ·have:=d5 h;omega
   ·exact d6 h
  clear d4 d5 d6;refine Bt Ak (fun _=>True) [14] [0,1,2,3,4,5,6,7,8,9,10,11,12,13] [14] Ad5 (fun _ _ _ h=>h) ?_;intro κ hκ;refine Z3 ?_
  repeat' (first|refine Z1 ?_|(refine Z8 ?_;intro κ hκ)|(refine Z4 ?_;clear hκ κ)|(refine Z2 ?_ ?_<;>intro h aa<;>try exact Xp)|refine Z3 ?_|exact⟨⟩|(apply hκ.out;clear hκ κ))
  have hw:IntKind.i64.wrap (G1 ds*10+IntKind.i64.wrap (IntKind.u8.wrap ((b.toNat:Int)-48)))=G1 (ds++[b]):=by
   rw[Abs.u8w Ad2 Ad2,show IntKind.i64.wrap ((b.toNat:Int)-48)=(b.toNat:Int)-48 from Abs.i64w Ad2 Ad2,Abs.i64w Ad2 Ad2,La]
  rw[hw];refine⟨3-(ds++[b]).length,by simp;omega,r,ds++[b],rfl,rfl,by simp,hK.put _,?_,aj,nT hD.out ak ah⟩;unfold Lx V4;rw[show ((t.length-(r.length+1):Nat):Int)+1=((t.length-r.length:Nat):Int)by omega]
end Go.Proofs.YtmoeoppbmhfbpabGreatDoorH
