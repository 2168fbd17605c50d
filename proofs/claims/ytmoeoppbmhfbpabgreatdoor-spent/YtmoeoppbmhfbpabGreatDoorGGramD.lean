import Derived.Test.YtmoeoppbmhfbpabGreatDoorGGram
import Derived.Test.YtmoeoppbmhfbpabGreatDoorGRefA
set_option maxHeartbeats 16000000
set_option maxRecDepth 100000
set_option linter.all false
namespace Go.Proofs.YtmoeoppbmhfbpabGreatDoorG
open Go.Abs
theorem I8 {b:UInt8}(h:Ba b.toNat=true):97<=b.toNat/\b.toNat<=122:=by simp[Ba]at h;omega
theorem bO {b:UInt8}(h:A8 b.toNat=true\/Az b.toNat=true):48<=b.toNat/\b.toNat<=90/\b.toNat≠58:=by
 simp[A8,Az]at h;omega
theorem Hr {c:Int}:∀(p r:Tx) (d:Bool) (cur:Tx),(∀b∈p,b.toNat≠40/\b.toNat≠41/\(b.toNat:Int)≠c)->Cc c (p++r) d cur=Cc c r d (cur++p):=by
 intro p;induction p with
 |nil=>intro r d cur _;simp
 |cons b p ih=>
  intro r d cur h;obtain⟨h1,h2,h3⟩:=h b (Aer ..);rw[Aes,Cc];have e1:((b.toNat:Int)==40)=false:=by simp;omega
  have e2:((b.toNat:Int)==41)=false:=by simp;omega
  have e3:((b.toNat:Int)==c)=false:=by simp;omega
  simp only[e1,e2,e3,Aek,if_false,false_and];rw[ih r d (cur++[b]) (fun x hx=>h x (Aet _ hx))];simp
theorem vG {c:Int}:∀(p r:Tx) (cur:Tx),(∀b∈p,b.toNat≠41)->Cc c (p++r) true cur=Cc c r true (cur++p):=by
 intro p;induction p with
 |nil=>intro r cur _;simp
 |cons b p ih=>
  intro r cur h;have h2:=h b (Aer ..);rw[Aes,Cc];have e2:((b.toNat:Int)==41)=false:=by simp;omega
  simp only[e2,Aek,if_false,ite_self,reduceCtorEq,and_false];rw[ih r (cur++[b]) (fun x hx=>h x (Aet _ hx))];simp
theorem vC {c:Int}(r:Tx)(d:Bool)(cur:Tx):Cc c (40::r) d cur=Cc c r true (cur++[40]):=by
 rw[Cc];simp
theorem pW {c:Int}(hc:c≠41)(r:Tx)(d:Bool)(cur:Tx):Cc c (41::r) d cur=Cc c r false (cur++[41]):=by
 rw[Cc];simp;intro h;exact absurd h.symm hc
theorem vH {c:UInt8}(h1:c.toNat≠40)(h2:c.toNat≠41)(r cur:Tx):Cc c.toNat (c::r) false cur=cur::Cc c.toNat r false []:=by
 rw[Cc];have e1:((c.toNat:Int)==40)=false:=by simp;omega
 have e2:((c.toNat:Int)==41)=false:=by simp;omega
 simp[e1,e2]
def nG (c:Int)(t:Tx):Prop:=t≠[]/\∀r cur,Cc c (t++r) false cur=Cc c r false (cur++t)
theorem vD:∀(ts:List Tx) (cur:Tx),(∀t∈ts,nG 44 t)->cur≠[]->Cc 44 (A7 ts) false cur=cur::ts:=by
 intro ts;induction ts with
 |nil=>intro cur _ hc;simp[A7,Cc,hc]
 |cons t ts ih=>
  intro cur h hc;obtain⟨h1,h2⟩:=h t (Aer ..);have e:A7 (t::ts)=44::(t++A7 ts):=by simp[A7]
  rw[e,show (44:Int)=((44:UInt8).toNat:Int)from rfl,vH (by decide) (by decide),show ((44:UInt8).toNat:Int)=44 from rfl,h2,Aeu,ih t (fun x hx=>h x (Aet _ hx)) h1]
theorem fA {ts:List Tx}(h:∀t∈ts,nG 44 t):Ra (A2 ts) 44=ts:=by
 cases ts with
 |nil=>simp[A2,Ra,Cc]
 |cons t ts=>
  obtain⟨h1,h2⟩:=h t (Aer ..);unfold Ra A2;rw[h2,Aeu,vD ts t (fun x hx=>h x (Aet _ hx)) h1]
theorem gU {t:Tx}(h:Is t):nG 44 t:=by
 refine⟨h.1,fun r cur=>Hr _ _ _ _ fun b hb=>?_⟩;have:=bO (h.2 b hb);omega
theorem pD {ts:List Tx}{b:UInt8}(h:b∈A7 ts):b=44\/∃t∈ts,b∈t:=by
 unfold A7 at h;rw[Aev]at h;obtain⟨t,ht,hb⟩:=h;rcases Aeq.1 hb with h|h
 ·exact .inl h
 ·exact .inr ⟨t,ht,h⟩
theorem pE {ts:List Tx}{b:UInt8}(h:b∈A2 ts):b=44\/∃t∈ts,b∈t:=by
 cases ts with
 |nil=>cases h
 |cons t ts=>
  unfold A2 at h;rcases Aew.1 h with h|h
  ·exact .inr ⟨t,Aer ..,h⟩
  ·rcases pD h with h|⟨u,hu,h⟩
   ·exact .inl h
   ·exact .inr ⟨u,Aet _ hu,h⟩
theorem fQ {a:RAtom}(h:Da a){b:UInt8}(hb:b∈A2 a.terms):b.toNat=44\/(48<=b.toNat/\b.toNat<=90/\b.toNat≠58):=by
 rcases pE hb with rfl|⟨t,ht,hb⟩
 ·exact .inl rfl
 ·exact .inr (bO ((h.2.2.2 t ht).2 b hb))
theorem fC {c:Int}(hc:c=44\/c=46){a:RAtom}(h:Da a)(r cur:Tx):Cc c (A4 a++r) false cur=Cc c r false (cur++A4 a):=by
 unfold A4;rw[Aeg,Hr a.pred _ _ _ (fun b hb=>by have:=I8 (h.1.2 b hb);omega),Aes,vC,Aeg,vG (A2 a.terms) _ _ (fun b hb=>by have:=fQ h hb;omega)];rw[Aes,Aeu,pW Agm];simp
theorem Zv {c:Int}(hc:c=44\/c=46){a:RAtom}(h:Da a)(r cur:Tx):Cc c (Bb a++r) false cur=Cc c r false (cur++Bb a):=by
 unfold Bb;rw[Aeg,Hr (if a.nt=true then [33]else []) _ _ _ (fun b hb=>by split at hb<;>simp at hb;subst hb;simp;omega),fC hc h];simp
theorem aR (a:RAtom):A4 a≠[]:=by unfold A4;simp
theorem xJ (a:RAtom):Bb a≠[]:=by unfold Bb;simp[aR]
theorem pH {a:RAtom}(h:Da a):nG 44 (Bb a):=⟨xJ a,fun r cur=>Zv (.inl rfl) h r cur⟩
theorem jS:∀(l:List RAtom) (r cur:Tx),(∀a∈l,Da a)->Cc 46 (A7 (l.map Bb)++r) false cur=Cc 46 r false (cur++A7 (l.map Bb)):=by
 intro l;induction l with
 |nil=>intro r cur _;simp[A7]
 |cons a l ih=>
  intro r cur h;have e:A7 ((a::l).map Bb)=[44]++(Bb a++A7 (l.map Bb)):=by simp[A7]
  rw[e,Aeg,Hr [44] _ _ _ (fun b hb=>by simp at hb;subst hb;decide),Aeg,Zv (.inr rfl) (h a (Aer ..)),ih _ _ (fun x hx=>h x (Aet _ hx))];simp
theorem vE {x:RItem}(h:Bv x)(r cur:Tx):Cc 46 (A0 x++r) false cur=Cc 46 r false (cur++A0 x):=by
 obtain⟨h1,h2,h3⟩:=h;unfold A0;by_cases ho:x.out=true
 ·rw[if_pos ho,Hr (63::x.head.pred) _ _ _ (fun b hb=>by
   rcases Aeq.1 hb with rfl|hb
   ·decide
   ·have:=I8 (h1.2 b hb);omega)]
 ·obtain⟨w1,w2,w3,w4⟩:=h3 (by simpa using ho);rw[if_neg ho];unfold Cv;rw[Aeg,fC (.inr rfl) w1];cases hb:x.body with
  |nil=>simp
  |cons l ls=>
   rw[hb]at w4;rw[if_neg (by simp)];have e:(58::45::A2 ((l::ls).map Bb))=[58,45]++(Bb l++A7 (ls.map Bb)):=by simp[A2]
   rw[e,Aeg,Hr [58,45] _ _ _ (fun b hb=>by simp at hb;rcases hb with rfl|rfl<;>decide),Aeg,Zv (.inr rfl) (w4 l (Aer ..)),jS _ _ _ (fun x hx=>w4 x (Aet _ hx))];simp
theorem Yh:∀(l:List RItem),(∀x∈l,Bv x)->Ra (Bj l) 46=l.map A0:=by
 intro l;induction l with
 |nil=>intro _;simp[Bj,Ra,Cc]
 |cons x l ih=>
  intro h;have e:Bj (x::l)=A0 x++(46::Bj l):=by simp[Bj]
  have hi:=ih fun y hy=>h y (Aet _ hy);unfold Ra at*
  rw[e,vE (h x (Aer ..)),show (46:Int)=((46:UInt8).toNat:Int)from rfl,vH (by decide) (by decide),show ((46:UInt8).toNat:Int)=46 from rfl,hi];simp
theorem P5 {c:Int}:∀(p r:Tx),(∀b∈p,(b.toNat:Int)≠c)->Ff (p++r) c=p.length+Ff r c:=by
 intro p;induction p with
 |nil=>intro r _;simp
 |cons b p ih=>
  intro r h;have:=ih r fun x hx=>h x (Aet _ hx);unfold Ff at*
  have e:((b.toNat:Int)==c)=false:=by simpa using h b (Aer ..)
  rw[Aes,List.findIdx_cons,e];simp only[cond_false,Aen];omega
theorem Yc {c:UInt8}(r:Tx):Ff (c::r) c.toNat=0:=by unfold Ff;rw[List.findIdx_cons];simp
theorem uR {c:Int}:Ff [] c=0:=rfl
theorem J4 {p:Tx}(h:G6 p):∃b q,p=b::q/\97<=b.toNat/\b.toNat<=122:=by
 obtain⟨h1,h2⟩:=h;cases p with
 |nil=>exact absurd rfl h1
 |cons b q=>exact⟨b,q,rfl,I8 (h2 b (Aer ..))⟩
theorem vX {a:RAtom}(h:Da a):vY a.nt (A4 a)=a:=by
 have hf:Ff (A4 a) 40=a.pred.length:=by
  unfold A4;rw[P5 a.pred _ (fun b hb=>by have:=I8 (h.1.2 b hb);omega),show (40:Int)=((40:UInt8).toNat:Int)from rfl,Yc];rfl
 have hl:(A4 a).length=a.pred.length+1+(A2 a.terms).length+1:=by unfold A4;simp;omega
 unfold vY;rw[hf,if_pos Agm];have e1:((A4 a).drop 0).take (a.pred.length-0)=a.pred:=by unfold A4;simp
 have e2:((A4 a).drop (a.pred.length+1)).take ((A4 a).length-1-(a.pred.length+1))=A2 a.terms:=by
  rw[hl];unfold A4;rw[show a.pred++40::(A2 a.terms++[41])=(a.pred++[40])++(A2 a.terms++[41])by simp];rw[List.drop_append_of_le_length (by simp),List.drop_of_length_le (by simp),Aeu];rw[show a.pred.length+1+(A2 a.terms).length+1-1-(a.pred.length+1)=(A2 a.terms).length by omega];simp
 rw[e1,e2,fA (fun t ht=>gU (h.2.2.2 t ht))]
theorem U0 {a:RAtom}(h:Da a):fN (Bb a)=a:=by
 obtain⟨b,q,hp,h1,h2⟩:=J4 h.1;have e:=vX h;unfold fN Bb;cases hn:a.nt with
 |true=>
  have e1:fH ((if true=true then [33]else [])++A4 a)=true:=rfl;have e2:Sc ((if true=true then [33]else [])++A4 a)=A4 a:=by
   unfold Sc;rw[if_pos e1];simp
  rw[e1,e2,<-hn,e]
 |false=>
  have e1:fH ((if false=true then [33]else [])++A4 a)=false:=by
   unfold A4;rw[hp];simp[fH];omega
  have e2:Sc ((if false=true then [33]else [])++A4 a)=A4 a:=by
   unfold Sc;rw[if_neg (by rw[e1];simp)];simp
  rw[e1,e2,<-hn,e]
theorem Sd {a:RAtom}(h:a.nt=false):Bb a=A4 a:=by unfold Bb;simp[h]
theorem Ac5 {a:RAtom}(h:Da a):∀b∈A4 a,(b.toNat:Int)≠58:=by
 intro b hb;unfold A4 at hb;rcases Aew.1 hb with hb|hb
 ·have:=I8 (h.1.2 b hb);omega
 ·rcases Aeq.1 hb with rfl|hb
  ·decide
  ·rcases Aew.1 hb with hb|hb
   ·have:=fQ h hb;omega
   ·simp at hb;subst hb;decide
theorem Lf {x:RItem}(h:Bv x):eM (A0 x)=x/\A0 x≠[]/\(Pu (A0 x)=false->Ff (A0 x) 58<(A0 x).length->Ff (A0 x) 58+2<=(A0 x).length):=by
 obtain⟨h1,h2,h3⟩:=h;obtain⟨b,q,hp,k1,k2⟩:=J4 h1;unfold A0;by_cases ho:x.out=true
 ·rw[if_pos ho];obtain⟨w1,w2,w3⟩:=h2 ho;have hq:Pu (63::x.head.pred)=true:=rfl;refine⟨?_,by simp,fun h=>by rw[hq]at h;cases h⟩;unfold eM;rw[if_pos hq];unfold Ac1;obtain⟨xo,⟨n,p,t⟩,bd⟩:=x;simp at*
  simp[*]
 ·rw[if_neg ho];obtain⟨w1,w2,w3,w4⟩:=h3 (by simpa using ho);have hq:Pu (Cv x)=false:=by unfold Cv A4;rw[hp];simp[Pu];omega
  cases hb:x.body with
  |nil=>
   have e:Cv x=A4 x.head:=by unfold Cv;rw[if_pos hb];simp
   have hf:Ff (Cv x) 58=(Cv x).length:=by
    have:=P5 (A4 x.head) [] (Ac5 w1);rw[Ad7,uR]at this;rw[e];omega
   refine⟨?_,by rw[e];exact aR _,fun _ h=>Agm⟩;unfold eM;rw[if_neg (by simp[hq])];unfold sM;rw[hf,if_neg Agm];have e2:((Cv x).drop 0).take ((Cv x).length-0)=Bb x.head:=by rw[e,Sd w2];simp
   rw[e2,U0 w1];obtain⟨xo,hd,bd⟩:=x;simp at*
   simp[*]
  |cons l ls=>
   have e:Cv x=A4 x.head++(58::45::A2 (x.body.map Bb)):=by unfold Cv;rw[if_neg (by rw[hb];simp)]
   have hf:Ff (Cv x) 58=(A4 x.head).length:=by
    have:=P5 (A4 x.head) (58::45::A2 (x.body.map Bb)) (Ac5 w1);rw[e,this,show (58:Int)=((58:UInt8).toNat:Int)from rfl,Yc];rfl
   have hl:(Cv x).length=(A4 x.head).length+2+(A2 (x.body.map Bb)).length:=by rw[e];simp;omega
   refine⟨?_,by rw[e];simp,fun _ _=>Agm⟩;unfold eM;rw[if_neg (by simp[hq])];unfold sM;rw[hf,if_pos Agm];have e2:((Cv x).drop 0).take ((A4 x.head).length-0)=Bb x.head:=by rw[e,Sd w2];simp
   have e3:((Cv x).drop ((A4 x.head).length+2)).take ((Cv x).length-((A4 x.head).length+2))=A2 (x.body.map Bb):=by
    rw[hl,e,show A4 x.head++(58::45::A2 (x.body.map Bb))=(A4 x.head++[58,45])++A2 (x.body.map Bb)by simp];rw[List.drop_append_of_le_length (by simp),List.drop_of_length_le (by simp),Aeu];exact Aex Agm
   rw[e2,e3,U0 w1,fA (fun t ht=>by
    rw[Aey]at ht;obtain⟨a,ha,rfl⟩:=ht
    exact pH (w4 a ha))]
   have e4:(x.body.map Bb).map fN=x.body:=by
    rw[Ad6]
    conv=>rhs;rw[<-Aez x.body]
    exact Ae0 fun a ha=>U0 (w4 a ha)
   rw[e4];obtain⟨xo,hd,bd⟩:=x;simp at*
   simp[*]
theorem Nf {s:Tx}{l:List RItem}{r:Tx}(hs:s.length<=1000)(h:Bz 16 s= .got l r):uO s/\Cp s=l/\l.length<=16/\∀x∈l,Bv x:=by
 obtain⟨h1,h2,h3,h4⟩:=Iq _ _ _ _ h;have hc:=Yh l h4;refine⟨⟨?_,?_⟩,?_,h3,h4⟩
 ·rw[h1,hc];simpa using h3
 ·intro t ht;have hl:=jT ht;rw[h1,hc,Aey]at ht;obtain⟨x,hx,rfl⟩:=ht;obtain⟨g1,g2,g3⟩:=Lf (h4 x hx);exact⟨Agm,g2,g3⟩
 ·unfold Cp;rw[h1,hc,Ad6]
  conv=>rhs;rw[<-Aez l]
  exact Ae0 fun x hx=>(Lf (h4 x hx)).1
inductive Way {α:Type}(E:α->α->Prop):α->α->Prop
 |one {a b:α}:E a b->Way E a b
 |more {a b c:α}:E a b->Way E b c->Way E a c
theorem Way.join {α:Type}{E:α->α->Prop}{a b c:α}(h:Way E a b)(k:Way E b c):Way E a c:=by
 induction h with
 |one e=>exact .more e k
 |more e _ ih=>exact .more e (ih k)
def wG (n:Nat)(M:Nat->Nat->Bool):Prop:=∀a b,M a b=true->a<n/\b<n
theorem Abz {n:Nat}{M:Nat->Nat->Bool}(hM:wG n M):∀(m:Nat),m<=n->wG n (Ea n M m)/\(∀a b,M a b=true->Ea n M m a b=true)/\(∀a b,Ea n M m a b=true->Way (fun a b=>M a b=true) a b)/\
  (∀a b c,b<m->Ea n M m a b=true->Ea n M m b c=true->Ea n M m a c=true):=by
 intro m;induction m with
 |zero=>intro _;exact⟨hM,fun _ _ h=>h,fun _ _ h=>.one h,fun _ _ _ h=>Agm⟩
 |succ m ih=>
  intro hm;obtain⟨h1,h2,h3,h4⟩:=ih Agm;have e:∀a b,Ea n M (m+1) a b=true↔Ea n M m a b=true\/(Ea n M m a m=true/\Ea n M m m b=true):=by
   intro a b;show fwN n (Ea n M m) m a b=true↔_;unfold fwN fw;split
   ·simp
   ·rename_i hn;constructor
    ·exact .inl
    ·rintro (h|⟨ha,hb⟩)
     ·exact h
     ·exact absurd ⟨(h1 _ _ ha).1,(h1 _ _ hb).2⟩ hn
  refine⟨?_,?_,?_,?_⟩
  ·intro a b h;rcases (e a b).1 h with h|⟨ha,hb⟩
   ·exact h1 _ _ h
   ·exact⟨(h1 _ _ ha).1,(h1 _ _ hb).2⟩
  ·intro a b h;exact (e a b).2 (.inl (h2 _ _ h))
  ·intro a b h;rcases (e a b).1 h with h|⟨ha,hb⟩
   ·exact h3 _ _ h
   ·exact (h3 _ _ ha).join (h3 _ _ hb)
  ·intro a b c hb ab aa;rw[e]at ab aa⊢;by_cases ad:b=m
   ·subst ad;have g1:Ea n M b a b=true:=by rcases ab with h|⟨h,_⟩<;>exact h
    have g2:Ea n M b b c=true:=by rcases aa with h|⟨_,h⟩<;>exact h
    exact .inr ⟨g1,g2⟩
   ·have ac:b<m:=Agm;rcases ab with ab|⟨ha,af⟩<;>rcases aa with aa|⟨ae,hc⟩
    ·exact .inl (h4 _ _ _ ac ab aa)
    ·exact .inr ⟨h4 _ _ _ ac ab ae,hc⟩
    ·exact .inr ⟨ha,h4 _ _ _ ac af aa⟩
    ·exact .inr ⟨ha,hc⟩
theorem Zm {n:Nat}{M:Nat->Nat->Bool}(hM:wG n M)(a b:Nat):Ea n M n a b=true↔Way (fun a b=>M a b=true) a b:=by
 obtain⟨h1,h2,h3,h4⟩:=Abz hM n (Adn _);refine⟨h3 a b,fun h=>?_⟩;induction h with
 |one e=>exact h2 _ _ e
 |more e _ ih=>exact h4 _ _ _ (hM _ _ e).2 (h2 _ _ e) ih
theorem aK (l:List RItem)(i k:Nat):Aa0 l i k=true↔Way (fun a b=>Ul l a b=true) i k:=by
 have he:∀a b,Ul l a b=true->a<l.length/\b<l.length:=by
  intro a b h;unfold Ul at h;split at h
  ·rename_i x y hx hy;exact⟨(List.getElem?_eq_some_iff.1 hx).1,(List.getElem?_eq_some_iff.1 hy).1⟩
  ·cases h
 have e:(fun a b=>if a<l.length/\b<l.length then Ul l a b else false)=Ul l:=by
  funext a b;split
  ·rfl
  ·rename_i hn;cases hq:Ul l a b with
   |false=>rfl
   |true=>exact absurd (he a b hq) hn
 unfold Aa0;rw[e];exact Zm he i k
def Dk (l:List RItem)(p q:Tx):Prop:=∃x∈l,x.head.pred=p/\∃a∈x.body,a.pred=q
theorem edge_iff {l:List RItem}{i k:Nat}:Ul l i k=true↔∃x y,l[i]?=some x/\l[k]?=some y/\y.out=false/\∃a∈x.body,a.pred=y.head.pred:=by
 unfold Ul;constructor
 ·intro h;split at h
  ·rename_i x y hx hy;refine⟨x,y,hx,hy,?_⟩;simp at h;exact h
  ·cases h
 ·rintro⟨x,y,hx,hy,h1,a,ha,h2⟩;rw[hx,hy];simp only[h1,Bool.not_false,Ae1];exact Aeo.2 ⟨a,ha,by simp[h2]⟩
theorem nL {l:List RItem}{i k:Nat}(h:Way (fun a b=>Ul l a b=true) i k):∃x y,l[i]?=some x/\l[k]?=some y/\y.out=false/\Way (Dk l) x.head.pred y.head.pred:=by
 induction h with
 |one e=>
  obtain⟨x,y,hx,hy,h1,a,ha,h2⟩:=edge_iff.1 e;exact⟨x,y,hx,hy,h1,.one ⟨x,Adt hx,rfl,a,ha,h2⟩⟩
 |more e _ ih=>
  obtain⟨x,y,hx,hy,h1,a,ha,h2⟩:=edge_iff.1 e;obtain⟨x',z,aa,hz,h3,h4⟩:=ih;rw[hy]at aa;cases aa;exact⟨x,z,hx,hz,h3,.more ⟨x,Adt hx,rfl,a,ha,h2⟩ h4⟩
theorem nM {l:List RItem}(ho:∀x∈l,x.out=true->x.body=[]){p q:Tx}(h:Way (Dk l) p q):∀(k:Nat) (y:RItem),l[k]?=some y->y.out=false->y.head.pred=q->∃(i:Nat) (x:RItem),l[i]?=some x/\x.head.pred=p/\Way (fun a b=>Ul l a b=true) i k:=by
 induction h with
 |one e=>
  intro k y hk hy hq;obtain⟨x,hx,h1,a,ha,h2⟩:=e;obtain⟨i,hi⟩:=List.getElem?_of_mem hx;exact⟨i,x,hi,h1,.one (edge_iff.2 ⟨x,y,hi,hk,hy,a,ha,by rw[h2,hq]⟩)⟩
 |more e _ ih=>
  intro k y hk hy hq;obtain⟨x,hx,h1,a,ha,h2⟩:=e;obtain⟨i,hi⟩:=List.getElem?_of_mem hx;obtain⟨j,z,hj,h3,h4⟩:=ih k y hk hy hq;have hz:z.out=false:=by
   have ab:z.body≠[]:=by
    cases h4 with
    |one e=>
     obtain⟨z',_,aa,_,_,a,ha,_⟩:=edge_iff.1 e;rw[hj]at aa;cases aa;intro hn;rw[hn]at ha;cases ha
    |more e _=>
     obtain⟨z',_,aa,_,_,a,ha,_⟩:=edge_iff.1 e;rw[hj]at aa;cases aa;intro hn;rw[hn]at ha;cases ha
   cases hb:z.out with
   |false=>rfl
   |true=>exact absurd (ho z (Adt hj) hb) ab
  exact⟨i,x,hi,h1,.more (edge_iff.2 ⟨x,z,hi,hj,hz,a,ha,by rw[h2,h3]⟩) h4⟩
theorem Pl {l:List RItem}(ho:∀x∈l,x.out=true->x.body=[]){p q:Tx}(hq:∃y∈l,y.out=false/\y.head.pred=q):kS l p q=true↔Way (Dk l) p q:=by
 unfold kS;constructor
 ·intro h;rw[Aeo]at h;obtain⟨i,-,h⟩:=h;rw[Aeo]at h;obtain⟨k,-,h⟩:=h;unfold Abv at h;simp only[Adv,Agj]at h;obtain⟨⟨h1,h2⟩,h3⟩:=h;obtain⟨x,y,hx,hy,_,hw⟩:=nL ((aK l i k).1 h1);unfold Zl at h2 h3;rw[hx]at h2;rw[hy]at h3;rw[<-h2,<-h3];exact hw
 ·intro h;obtain⟨y,hy,h1,h2⟩:=hq;obtain⟨k,hk⟩:=List.getElem?_of_mem hy;obtain⟨i,x,hi,h3,h4⟩:=nM ho h k y hk h1 h2;rw[Aeo];refine⟨i,by simpa using (List.getElem?_eq_some_iff.1 hi).1,?_⟩;rw[Aeo];refine⟨k,by simpa using (List.getElem?_eq_some_iff.1 hk).1,?_⟩;unfold Abv Zl;rw[(aK l i k).2 h4,hi,hk];simp[h2,h3]
theorem Ow (c:Int)(I:St):ACalls Tryz.prog 214 [sc (.int .u8 c)] I fun x I'=>x=sc (.bool (Ba c))/\I'=I:=by
 refine Z9 9 [.tmp 2] Tryz.func214 ?_
 repeat' (first|refine Z1 ?_|(refine Z8 ?_;intro κ hκ)|(refine Z4 ?_;clear hκ κ)|(refine Z2 ?_ ?_<;>intro h aa<;>try exact Xp)|refine Z3 ?_|exact⟨⟩|(apply hκ.out;clear hκ κ))
 all_goals exact⟨_,rfl,by simp[Ba, *]⟩
theorem F1 (c:Int)(I:St):ACalls Tryz.prog 248 [sc (.int .u8 c)] I fun x I'=>x=sc (.bool (A8 c))/\I'=I:=by
 refine Z9 9 [.tmp 2] Tryz.func248 ?_
 repeat' (first|refine Z1 ?_|(refine Z8 ?_;intro κ hκ)|(refine Z4 ?_;clear hκ κ)|(refine Z2 ?_ ?_<;>intro h aa<;>try exact Xp)|refine Z3 ?_|exact⟨⟩|(apply hκ.out;clear hκ κ))
 all_goals exact⟨_,rfl,by simp[A8, *]⟩
theorem F0 (c:Int)(I:St):ACalls Tryz.prog 249 [sc (.int .u8 c)] I fun x I'=>x=sc (.bool (Az c))/\I'=I:=by
 refine Z9 9 [.tmp 2] Tryz.func249 ?_
 repeat' (first|refine Z1 ?_|(refine Z8 ?_;intro κ hκ)|(refine Z4 ?_;clear hκ κ)|(refine Z2 ?_ ?_<;>intro h aa<;>try exact Xp)|refine Z3 ?_|exact⟨⟩|(apply hκ.out;clear hκ κ))
 all_goals exact⟨_,rfl,by simp[Az, *]⟩
def W3 (t:Tx)(k:Nat)(nm:AV):List AV:=[str t,sc (.int .i64 k),nm]
def takeB (t:Tx)(k:Nat)(c:Int):Bool:=match t[k]? with|some b=>(b.toNat:Int)==c|none=>false
def takeN (t:Tx)(k:Nat)(c:Int):Nat:=if takeB t k c=true then k+1 else k
theorem nY (t:Tx)(k o:Nat)(nm:AV)(c:Int)(ht:t.length<=1000)(hk:k<=t.length)(I:St)(ho:I.obj o=W3 t k nm)(hn:o<I.nobj):ACalls Tryz.prog 132 [ptr o 0,sc (.int .u8 c)] I fun x I'=>x=sc (.bool (takeB t k c))/\KeepX o I I'/\I'.obj o=W3 t (takeN t k c) nm:=by
 unfold W3 at*
 refine Z9 35 [.tmp 4] Tryz.func132 ?_
 repeat' (first|refine Z1 ?_|(refine Z8 ?_;intro κ hκ)|(refine Z4 ?_;clear hκ κ)|(refine Z2 ?_ ?_<;>intro h aa<;>try exact Xp)|refine Z3 ?_|exact⟨⟩|(apply hκ.out;clear hκ κ))
 refine Bu Al (fun _=>True) [22] [0,1,2,3,4,5,6,7,8,9,10,11,12,13,14,15,16,17,18,19,20,21] [22] Agp (fun _ _ _ h=>h) ?_;intro κ hκ;by_cases ab:k<t.length
 ·have hg:=List.getElem?_eq_getElem ab;generalize t[k]=b at hg;refine Z3 ?_
  repeat' (first|refine Z1 ?_|(refine Z8 ?_;intro κ hκ)|(refine Z4 ?_;clear hκ κ)|(refine Z2 ?_ ?_<;>intro h aa<;>try exact Xp)|refine Z3 ?_|exact⟨⟩|(apply hκ.out;clear hκ κ))
  ·have hB:takeB t k c=false:=by simp[takeB,hg];simpa using h
   exact⟨_,rfl,by rw[hB],KeepX.refl _ _,by simp[takeN,hB]⟩
  ·have hB:takeB t k c=true:=by simp[takeB,hg];simpa using h
   exact⟨_,rfl,by rw[hB],(KeepX.refl _ _).put _,by simp[takeN,hB]⟩
 ·have hg:t[k]?=none:=by simp;omega
  refine Z3 ?_
  repeat' (first|refine Z1 ?_|(refine Z8 ?_;intro κ hκ)|(refine Z4 ?_;clear hκ κ)|(refine Z2 ?_ ?_<;>intro h aa<;>try exact Xp)|refine Z3 ?_|exact⟨⟩|(apply hκ.out;clear hκ κ))
  have hB:takeB t k c=false:=by simp[takeB,hg]
  exact⟨_,rfl,by rw[hB],KeepX.refl _ _,by simp[takeN,hB]⟩
def Mo (t s:Tx)(nm:AV):List AV:=W3 t (t.length-s.length) nm
theorem Of {t s:Tx}(h:s<:+t):t[t.length-s.length]?=s.head?:=by
 obtain⟨p,rfl⟩:=h;rw[Aee,Nat.add_sub_cancel,List.getElem?_append_right (Adn _),Ae2];cases s<;>rfl
theorem Pq {t s:Tx}{b:UInt8}(h:(b::s)<:+t):s<:+t:=(List.suffix_cons b s).trans h
theorem Hu {t s:Tx}(h:s<:+t):s.length<=t.length:=h.length_le
theorem Pp (t s:Tx)(o:Nat)(nm:AV)(c:Int)(ht:t.length<=1000)(hs:s<:+t)(I:St)(ho:I.obj o=Mo t s nm)(hn:o<I.nobj):
  ACalls Tryz.prog 132 [ptr o 0,sc (.int .u8 c)] I fun x I'=>KeepX o I I'/\match A1 c s with
   |.got _ r=>x=sc (.bool true)/\I'.obj o=Mo t r nm/\r<:+t
   |.bad e=>x=sc (.bool false)/\I'.obj o=Mo t s nm/\e=s:=by
 have hl:=Hu hs;refine ACalls.mono (nY t _ o nm c ht Agm I ho hn) ?_;rintro x I' ⟨rfl,hK,hO⟩;refine⟨hK,?_⟩;have hg:=Of hs;cases s with
 |nil=>
  have hB:takeB t (t.length-([]:Tx).length) c=false:=by unfold takeB;rw[hg];rfl
  refine⟨by rw[hB],?_,rfl⟩;rw[hO,takeN,hB];rfl
 |cons b r=>
  have hB:takeB t (t.length-(b::r).length) c=((b.toNat:Int)==c):=by unfold takeB;rw[hg];rfl
  unfold A1;by_cases hb:((b.toNat:Int)==c)=true
  ·rw[hb]at hB;simp only[hb,if_true];refine⟨by rw[hB],?_,Pq hs⟩;rw[hO,takeN,hB,Mo];simp only[if_true,Aen]at*
   rw[show t.length-(r.length+1)+1=t.length-r.length by omega]
  ·have aa:((b.toNat:Int)==c)=false:=by simpa using hb
   rw[aa]at hB;simp only[aa,Aek,if_false];refine⟨by rw[hB],?_,trivial⟩;rw[hO,takeN,hB];rfl
def Hj (ds:Tx):Int:=ds.foldl (fun v b=>v*10+((b.toNat:Int)-48)) 0
theorem L2 (ds:Tx)(b:UInt8):Hj (ds++[b])=Hj ds*10+((b.toNat:Int)-48):=by simp[Hj]
def uZ (s ds q:Tx):Prop:=ds.length<=3/\Aw Az 3 s=(ds++(Aw Az (3-ds.length) q).1,(Aw Az (3-ds.length) q).2)/\0<=Hj ds/\(ds.length=0->Hj ds=0)/\(ds.length=1->Hj ds<=9)/\(ds.length=2->Hj ds<=99)
theorem uY (s:Tx):uZ s [] s:=⟨by simp,by simp,by simp[Hj],by simp[Hj],by simp,by simp⟩
theorem pT {s ds q:Tx}{b:UInt8}(h:uZ s ds (b::q))(hl:ds.length<3)(hb:Az b.toNat=true):uZ s (ds++[b]) q:=by
 obtain⟨h1,h2,h3,h4,h5,h6⟩:=h;have hr:48<=b.toNat/\b.toNat<=57:=by simp[Az]at hb;omega
 have e:3-ds.length=(3-(ds++[b]).length)+1:=by simp;omega
 rw[e,Aw,if_pos hb]at h2;refine⟨by simp;omega,by rw[h2];simp,?_,by simp,?_,?_⟩
 ·rw[L2];omega
 ·intro hh;rw[L2];have:=h4 (by simp at hh;simp[hh]);omega
 ·intro hh;rw[L2];have:=h5 (by simp at hh;omega);omega
theorem Uo {s ds q:Tx}(h:uZ s ds q)(he:ds.length=3\/q=[]\/∃b r,q=b::r/\Az b.toNat=false):Aw Az 3 s=(ds,q):=by
 obtain⟨h1,h2,-⟩:=h;rw[h2];rcases he with he|rfl|⟨b,r,rfl,hb⟩
 ·rw[he];simp[Aw]
 ·cases hn:3-ds.length<;>simp[Aw]
 ·cases hn:3-ds.length<;>simp[Aw,hb]
theorem Q2 (t s:Tx)(o:Nat)(nm:AV)(ht:t.length<=1000)(hs:s<:+t)(I:St)(ho:I.obj o=Mo t s nm)(hn:o<I.nobj)(an:∀b r,s=b::r->((b.toNat:Int)==48)=false):
  ACalls Tryz.prog 250 [ptr o 0] I fun x I'=>KeepX o I I'/\∃q,I'.obj o=Mo t q nm/\q<:+t/\q=(Aw Az 3 s).2/\x=sc (.int .i64 (Hj (Aw Az 3 s).1)):=by
 have hp:A1 48 s= .bad s:=by
  cases s with
  |nil=>rfl
  |cons b r=>unfold A1;simp only[an b r rfl];simp
 have hT:=Pp t s o nm 48 ht hs I ho hn;rw[hp]at hT;refine Z9 57 [.tmp 2] Tryz.func250 ?_
 repeat' (first|refine Z1 ?_|(refine Z8 ?_;intro κ hκ)|(refine Z4 ?_;clear hκ κ)|(refine Z2 ?_ ?_<;>intro h aa<;>try exact Xp)|(refine Z5 ?_;refine Xi (hT) ?_;rintro _ _ ⟨ab,rfl,ai,-⟩)|refine Z3 ?_|exact⟨⟩|(apply hκ.out;clear hκ κ))
 rename_i I1;have ae:o<I1.nobj:=Adp hn ab.nobj;clear hT hp ho
 refine Ag (fun m s' I'=>∃(q ds:Tx),m=3-ds.length/\s' 0=ptr o 0/\s' 3=sc (.int .i64 (Hj ds))/\s' 4=sc (.int .i64 ds.length)/\KeepX o I I'/\I'.obj o=Mo t q nm/\o<I'.nobj/\q<:+t/\Agt (uZ s ds q)) 3
  ⟨s,[],rfl,rfl,rfl,rfl,ab,ai,ae,hs,uY s⟩ ?_
 rintro m s' I' ⟨q,ds,rfl,h0,h3,h4,hK,hO,ap,hq,hD⟩;clear ab ai ae;have ac:=Hu hq;have ad:=Of hq;have am:=hD.out;obtain⟨d1,-,d3,d4,d5,d6⟩:=am;unfold Mo W3 at hO
 repeat' (first|refine Z1 ?_|(refine Z8 ?_;intro κ hκ)|(refine Z4 ?_;clear hκ κ)|(refine Z2 ?_ ?_<;>intro h aa<;>try exact Xp)|refine Z3 ?_|exact⟨⟩|(apply hκ.out;clear hκ κ))
 refine Bu Al (fun _=>True) [25] [0,1,2,3,4,5,6,7,8,9,10,11,12,13,14,15,16,17,18,19,20,21,22,23] [24,25] Agp (fun _ _ _ h=>h) ?_;intro κ hκ;cases q with
 |nil=>
  simp only[Aem,Ae3]at hO ad ac;refine Z3 ?_
  repeat' (first|refine Z1 ?_|(refine Z8 ?_;intro κ hκ)|(refine Z4 ?_;clear hκ κ)|(refine Z2 ?_ ?_<;>intro h aa<;>try exact Xp)|(refine Z5 ?_;refine Xi (F0 _ _) ?_;rintro _ _ ⟨rfl,rfl⟩)|refine Z3 ?_|exact⟨⟩|(apply hκ.out;clear hκ κ))
  all_goals
   have he:=Uo hD.out (.inr (.inl rfl));exact⟨_,rfl,[],by simp[Mo,W3],hq,by rw[he],by rw[he]⟩
 |cons b r=>
  simp only[Aen,List.head?_cons]at hO ad ac;have aj:=Pq hq;refine Z3 ?_;have af:Az b.toNat=true->48<=(b.toNat:Int)/\(b.toNat:Int)<=57:=fun h=>by simp[Az]at h;omega
  repeat' (first|refine Z1 ?_|(refine Z8 ?_;intro κ hκ)|(refine Z4 ?_;clear hκ κ)|(refine Z2 ?_ ?_<;>intro h aa<;>try exact Xp)|(refine Z5 ?_;refine Xi (F0 _ _) ?_;rintro _ _ ⟨rfl,rfl⟩)|refine Z3 ?_|exact⟨⟩|(apply hκ.out;clear hκ κ))
  all_goals
   first
   |(have he:=Uo hD.out (.inr (.inr ⟨b,r,rfl,by assumption⟩))
     exact⟨_,rfl,b::r,by simp[Mo,W3],hq,by rw[he],by rw[he]⟩)
   |(have he:=Uo hD.out (.inl Agm)
     exact⟨_,rfl,b::r,by simp[Mo,W3],hq,by rw[he],by rw[he]⟩)
   |skip
  have ah:Az b.toNat=true:=by assumption
  have af:=af ah;have ak:ds.length<3:=Agm;have ao:Hj ds<=99:=by
   have:ds.length=0\/ds.length=1\/ds.length=2:=Agm;rcases this with h|h|h
   ·have:=d4 h;omega
   ·have:=d5 h;omega
   ·exact d6 h
  clear d4 d5 d6;refine Bu Al (fun _=>True) [14] [0,1,2,3,4,5,6,7,8,9,10,11,12,13] [14] Agp (fun _ _ _ h=>h) ?_;intro κ hκ;refine Z3 ?_
  repeat' (first|refine Z1 ?_|(refine Z8 ?_;intro κ hκ)|(refine Z4 ?_;clear hκ κ)|(refine Z2 ?_ ?_<;>intro h aa<;>try exact Xp)|refine Z3 ?_|exact⟨⟩|(apply hκ.out;clear hκ κ))
  have hw:IntKind.i64.wrap (Hj ds*10+IntKind.i64.wrap (IntKind.u8.wrap ((b.toNat:Int)-48)))=Hj (ds++[b]):=by
   rw[Abs.u8w Agm Agm,show IntKind.i64.wrap ((b.toNat:Int)-48)=(b.toNat:Int)-48 from Abs.i64w Agm Agm,Abs.i64w Agm Agm,L2]
  rw[hw];refine⟨3-(ds++[b]).length,by simp;omega,r,ds++[b],rfl,rfl,by simp,hK.put _,?_,aj,pT hD.out ak ah⟩;unfold Mo W3;rw[show ((t.length-(r.length+1):Nat):Int)+1=((t.length-r.length:Nat):Int)by omega]
end Go.Proofs.YtmoeoppbmhfbpabGreatDoorG
