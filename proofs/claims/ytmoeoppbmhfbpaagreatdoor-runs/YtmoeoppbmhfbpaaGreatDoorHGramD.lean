import Derived.Test.YtmoeoppbmhfbpaaGreatDoorHRefL
set_option maxHeartbeats 16000000
set_option maxRecDepth 100000
set_option linter.all false
namespace Go.Proofs.YtmoeoppbmhfbpaaGreatDoorH
open Go.Abs
theorem I4 {b:UInt8}(h:Bl b.toNat=true):97<=b.toNat/\b.toNat<=122:=by simp[Bl]at h;omega
theorem aZ {b:UInt8}(h:B6 b.toNat=true\/Az b.toNat=true):48<=b.toNat/\b.toNat<=90/\b.toNat≠58:=by
 simp[B6,Az]at h;omega
theorem Hk {c:Int}:∀(p r:Tx) (d:Bool) (cur:Tx),(∀b∈p,b.toNat≠40/\b.toNat≠41/\(b.toNat:Int)≠c)->Bn c (p++r) d cur=Bn c r d (cur++p):=by
 intro p;induction p with
 |nil=>intro r d cur _;simp
 |cons b p ih=>
  intro r d cur h;obtain⟨h1,h2,h3⟩:=h b (Ach ..);rw[Aci,Bn];have e1:((b.toNat:Int)==40)=false:=by simp;omega
  have e2:((b.toNat:Int)==41)=false:=by simp;omega
  have e3:((b.toNat:Int)==c)=false:=by simp;omega
  simp only[e1,e2,e3,Abq,if_false,false_and];rw[ih r d (cur++[b]) (fun x hx=>h x (Acj _ hx))];simp
theorem sO {c:Int}:∀(p r:Tx) (cur:Tx),(∀b∈p,b.toNat≠41)->Bn c (p++r) true cur=Bn c r true (cur++p):=by
 intro p;induction p with
 |nil=>intro r cur _;simp
 |cons b p ih=>
  intro r cur h;have h2:=h b (Ach ..);rw[Aci,Bn];have e2:((b.toNat:Int)==41)=false:=by simp;omega
  simp only[e2,Abq,if_false,ite_self,reduceCtorEq,and_false];rw[ih r (cur++[b]) (fun x hx=>h x (Acj _ hx))];simp
theorem sL {c:Int}(r:Tx)(d:Bool)(cur:Tx):Bn c (40::r) d cur=Bn c r true (cur++[40]):=by
 rw[Bn];simp
theorem oQ {c:Int}(hc:c≠41)(r:Tx)(d:Bool)(cur:Tx):Bn c (41::r) d cur=Bn c r false (cur++[41]):=by
 rw[Bn];simp;intro h;exact absurd h.symm hc
theorem sP {c:UInt8}(h1:c.toNat≠40)(h2:c.toNat≠41)(r cur:Tx):Bn c.toNat (c::r) false cur=cur::Bn c.toNat r false []:=by
 rw[Bn];have e1:((c.toNat:Int)==40)=false:=by simp;omega
 have e2:((c.toNat:Int)==41)=false:=by simp;omega
 simp[e1,e2]
def mE (c:Int)(t:Tx):Prop:=t≠[]/\∀r cur,Bn c (t++r) false cur=Bn c r false (cur++t)
theorem sM:∀(ts:List Tx) (cur:Tx),(∀t∈ts,mE 44 t)->cur≠[]->Bn 44 (Cr ts) false cur=cur::ts:=by
 intro ts;induction ts with
 |nil=>intro cur _ hc;simp[Cr,Bn,hc]
 |cons t ts ih=>
  intro cur h hc;obtain⟨h1,h2⟩:=h t (Ach ..);have e:Cr (t::ts)=44::(t++Cr ts):=by simp[Cr]
  rw[e,show (44:Int)=((44:UInt8).toNat:Int)from rfl,sP (by decide) (by decide),show ((44:UInt8).toNat:Int)=44 from rfl,h2,Ack,ih t (fun x hx=>h x (Acj _ hx)) h1]
theorem eM {ts:List Tx}(h:∀t∈ts,mE 44 t):E9 (Cv ts) 44=ts:=by
 cases ts with
 |nil=>simp[Cv,E9,Bn]
 |cons t ts=>
  obtain⟨h1,h2⟩:=h t (Ach ..);unfold E9 Cv;rw[h2,Ack,sM ts t (fun x hx=>h x (Acj _ hx)) h1]
theorem fY {t:Tx}(h:Qi t):mE 44 t:=by
 refine⟨h.1,fun r cur=>Hk _ _ _ _ fun b hb=>?_⟩;have:=aZ (h.2 b hb);omega
theorem nW {ts:List Tx}{b:UInt8}(h:b∈Cr ts):b=44\/∃t∈ts,b∈t:=by
 unfold Cr at h;rw[Acl]at h;obtain⟨t,ht,hb⟩:=h;rcases Acd.1 hb with h|h
 ·exact .inl h
 ·exact .inr ⟨t,ht,h⟩
theorem nX {ts:List Tx}{b:UInt8}(h:b∈Cv ts):b=44\/∃t∈ts,b∈t:=by
 cases ts with
 |nil=>cases h
 |cons t ts=>
  unfold Cv at h;rcases Ab2.1 h with h|h
  ·exact .inr ⟨t,Ach ..,h⟩
  ·rcases nW h with h|⟨u,hu,h⟩
   ·exact .inl h
   ·exact .inr ⟨u,Acj _ hu,h⟩
theorem eY {a:RAtom}(h:Fb a){b:UInt8}(hb:b∈Cv a.terms):b.toNat=44\/(48<=b.toNat/\b.toNat<=90/\b.toNat≠58):=by
 rcases nX hb with rfl|⟨t,ht,hb⟩
 ·exact .inl rfl
 ·exact .inr (aZ ((h.2.2.2 t ht).2 b hb))
theorem eN {c:Int}(hc:c=44\/c=46){a:RAtom}(h:Fb a)(r cur:Tx):Bn c (A4 a++r) false cur=Bn c r false (cur++A4 a):=by
 unfold A4;rw[Abl,Hk a.pred _ _ _ (fun b hb=>by have:=I4 (h.1.2 b hb);omega),Aci,sL,Abl,sO (Cv a.terms) _ _ (fun b hb=>by have:=eY h hb;omega)];rw[Aci,Ack,oQ Ad2];simp
theorem Y9 {c:Int}(hc:c=44\/c=46){a:RAtom}(h:Fb a)(r cur:Tx):Bn c (Dg a++r) false cur=Bn c r false (cur++Dg a):=by
 unfold Dg;rw[Abl,Hk (if a.nt=true then [33]else []) _ _ _ (fun b hb=>by split at hb<;>simp at hb;subst hb;simp;omega),eN hc h];simp
theorem aD (a:RAtom):A4 a≠[]:=by unfold A4;simp
theorem uB (a:RAtom):Dg a≠[]:=by unfold Dg;simp[aD]
theorem oA {a:RAtom}(h:Fb a):mE 44 (Dg a):=⟨uB a,fun r cur=>Y9 (.inl rfl) h r cur⟩
theorem iZ:∀(l:List RAtom) (r cur:Tx),(∀a∈l,Fb a)->Bn 46 (Cr (l.map Dg)++r) false cur=Bn 46 r false (cur++Cr (l.map Dg)):=by
 intro l;induction l with
 |nil=>intro r cur _;simp[Cr]
 |cons a l ih=>
  intro r cur h;have e:Cr ((a::l).map Dg)=[44]++(Dg a++Cr (l.map Dg)):=by simp[Cr]
  rw[e,Abl,Hk [44] _ _ _ (fun b hb=>by simp at hb;subst hb;decide),Abl,Y9 (.inr rfl) (h a (Ach ..)),ih _ _ (fun x hx=>h x (Acj _ hx))];simp
theorem sN {x:RItem}(h:Jk x)(r cur:Tx):Bn 46 (Co x++r) false cur=Bn 46 r false (cur++Co x):=by
 obtain⟨h1,h2,h3⟩:=h;unfold Co;by_cases ho:x.out=true
 ·rw[if_pos ho,Hk (63::x.head.pred) _ _ _ (fun b hb=>by
   rcases Acd.1 hb with rfl|hb
   ·decide
   ·have:=I4 (h1.2 b hb);omega)]
 ·obtain⟨w1,w2,w3,w4⟩:=h3 (by simpa using ho);rw[if_neg ho];unfold D7;rw[Abl,eN (.inr rfl) w1];cases hb:x.body with
  |nil=>simp
  |cons l ls=>
   rw[hb]at w4;rw[if_neg (by simp)];have e:(58::45::Cv ((l::ls).map Dg))=[58,45]++(Dg l++Cr (ls.map Dg)):=by simp[Cv]
   rw[e,Abl,Hk [58,45] _ _ _ (fun b hb=>by simp at hb;rcases hb with rfl|rfl<;>decide),Abl,Y9 (.inr rfl) (w4 l (Ach ..)),iZ _ _ _ (fun x hx=>w4 x (Acj _ hx))];simp
theorem Xz:∀(l:List RItem),(∀x∈l,Jk x)->E9 (Da l) 46=l.map Co:=by
 intro l;induction l with
 |nil=>intro _;simp[Da,E9,Bn]
 |cons x l ih=>
  intro h;have e:Da (x::l)=Co x++(46::Da l):=by simp[Da]
  have hi:=ih fun y hy=>h y (Acj _ hy);unfold E9 at*
  rw[e,sN (h x (Ach ..)),show (46:Int)=((46:UInt8).toNat:Int)from rfl,sP (by decide) (by decide),show ((46:UInt8).toNat:Int)=46 from rfl,hi];simp
theorem Po {c:Int}:∀(p r:Tx),(∀b∈p,(b.toNat:Int)≠c)->Bt (p++r) c=p.length+Bt r c:=by
 intro p;induction p with
 |nil=>intro r _;simp
 |cons b p ih=>
  intro r h;have:=ih r fun x hx=>h x (Acj _ hx);unfold Bt at*
  have e:((b.toNat:Int)==c)=false:=by simpa using h b (Ach ..)
  rw[Aci,List.findIdx_cons,e];simp only[cond_false,Abv];omega
theorem W5 {c:UInt8}(r:Tx):Bt (c::r) c.toNat=0:=by unfold Bt;rw[List.findIdx_cons];simp
theorem sF {c:Int}:Bt [] c=0:=rfl
theorem Jw {p:Tx}(h:Uh p):∃b q,p=b::q/\97<=b.toNat/\b.toNat<=122:=by
 obtain⟨h1,h2⟩:=h;cases p with
 |nil=>exact absurd rfl h1
 |cons b q=>exact⟨b,q,rfl,I4 (h2 b (Ach ..))⟩
theorem sX {a:RAtom}(h:Fb a):L8 a.nt (A4 a)=a:=by
 have hf:Bt (A4 a) 40=a.pred.length:=by
  unfold A4;rw[Po a.pred _ (fun b hb=>by have:=I4 (h.1.2 b hb);omega),show (40:Int)=((40:UInt8).toNat:Int)from rfl,W5];rfl
 have hl:(A4 a).length=a.pred.length+1+(Cv a.terms).length+1:=by unfold A4;simp;omega
 unfold L8;rw[hf,if_pos Ad2];have e1:((A4 a).drop 0).take (a.pred.length-0)=a.pred:=by unfold A4;simp
 have e2:((A4 a).drop (a.pred.length+1)).take ((A4 a).length-1-(a.pred.length+1))=Cv a.terms:=by
  rw[hl];unfold A4;rw[show a.pred++40::(Cv a.terms++[41])=(a.pred++[40])++(Cv a.terms++[41])by simp];rw[Acm (by simp),List.drop_of_length_le (by simp),Ack];rw[show a.pred.length+1+(Cv a.terms).length+1-1-(a.pred.length+1)=(Cv a.terms).length by omega];simp
 rw[e1,e2,eM (fun t ht=>fY (h.2.2.2 t ht))]
theorem Ub {a:RAtom}(h:Fb a):De (Dg a)=a:=by
 obtain⟨b,q,hp,h1,h2⟩:=Jw h.1;have e:=sX h;unfold De Dg;cases hn:a.nt with
 |true=>
  have e1:L6 ((if true=true then [33]else [])++A4 a)=true:=rfl;have e2:Hp ((if true=true then [33]else [])++A4 a)=A4 a:=by
   unfold Hp;rw[if_pos e1];simp
  rw[e1,e2,<-hn,e]
 |false=>
  have e1:L6 ((if false=true then [33]else [])++A4 a)=false:=by
   unfold A4;rw[hp];simp[L6];omega
  have e2:Hp ((if false=true then [33]else [])++A4 a)=A4 a:=by
   unfold Hp;rw[if_neg (by rw[e1];simp)];simp
  rw[e1,e2,<-hn,e]
theorem aB {a:RAtom}(h:a.nt=false):Dg a=A4 a:=by unfold Dg;simp[h]
theorem zL {a:RAtom}(h:Fb a):∀b∈A4 a,(b.toNat:Int)≠58:=by
 intro b hb;unfold A4 at hb;rcases Ab2.1 hb with hb|hb
 ·have:=I4 (h.1.2 b hb);omega
 ·rcases Acd.1 hb with rfl|hb
  ·decide
  ·rcases Ab2.1 hb with hb|hb
   ·have:=eY h hb;omega
   ·simp at hb;subst hb;decide
theorem dZ {x:RItem}(h:Jk x):G6 (Co x)=x/\Co x≠[]/\(Mh (Co x)=false->Bt (Co x) 58<(Co x).length->Bt (Co x) 58+2<=(Co x).length):=by
 obtain⟨h1,h2,h3⟩:=h;obtain⟨b,q,hp,k1,k2⟩:=Jw h1;unfold Co;by_cases ho:x.out=true
 ·rw[if_pos ho];obtain⟨w1,w2,w3⟩:=h2 ho;have hq:Mh (63::x.head.pred)=true:=rfl;refine⟨?_,by simp,fun h=>by rw[hq]at h;cases h⟩;unfold G6;rw[if_pos hq];unfold gZ;obtain⟨xo,⟨n,p,t⟩,bd⟩:=x;simp at*
  simp[*]
 ·rw[if_neg ho];obtain⟨w1,w2,w3,w4⟩:=h3 (by simpa using ho);have hq:Mh (D7 x)=false:=by unfold D7 A4;rw[hp];simp[Mh];omega
  cases hb:x.body with
  |nil=>
   have e:D7 x=A4 x.head:=by unfold D7;rw[if_pos hb];simp
   have hf:Bt (D7 x) 58=(D7 x).length:=by
    have:=Po (A4 x.head) [] (zL w1);rw[Abc,sF]at this;rw[e];omega
   refine⟨?_,by rw[e];exact aD _,fun _ h=>Ad2⟩;unfold G6;rw[if_neg (by simp[hq])];unfold P2;rw[hf,if_neg Ad2];have e2:((D7 x).drop 0).take ((D7 x).length-0)=Dg x.head:=by rw[e,aB w2];simp
   rw[e2,Ub w1];obtain⟨xo,hd,bd⟩:=x;simp at*
   simp[*]
  |cons l ls=>
   have e:D7 x=A4 x.head++(58::45::Cv (x.body.map Dg)):=by unfold D7;rw[if_neg (by rw[hb];simp)]
   have hf:Bt (D7 x) 58=(A4 x.head).length:=by
    have:=Po (A4 x.head) (58::45::Cv (x.body.map Dg)) (zL w1);rw[e,this,show (58:Int)=((58:UInt8).toNat:Int)from rfl,W5];rfl
   have hl:(D7 x).length=(A4 x.head).length+2+(Cv (x.body.map Dg)).length:=by rw[e];simp;omega
   refine⟨?_,by rw[e];simp,fun _ _=>Ad2⟩;unfold G6;rw[if_neg (by simp[hq])];unfold P2;rw[hf,if_pos Ad2];have e2:((D7 x).drop 0).take ((A4 x.head).length-0)=Dg x.head:=by rw[e,aB w2];simp
   have e3:((D7 x).drop ((A4 x.head).length+2)).take ((D7 x).length-((A4 x.head).length+2))=Cv (x.body.map Dg):=by
    rw[hl,e,show A4 x.head++(58::45::Cv (x.body.map Dg))=(A4 x.head++[58,45])++Cv (x.body.map Dg)by simp];rw[Acm (by simp),List.drop_of_length_le (by simp),Ack];exact Abz Ad2
   rw[e2,e3,Ub w1,eM (fun t ht=>by
    rw[Acf]at ht;obtain⟨a,ha,rfl⟩:=ht
    exact oA (w4 a ha))]
   have e4:(x.body.map Dg).map De=x.body:=by
    rw[Abb]
    conv=>rhs;rw[<-List.map_id x.body]
    exact Acn fun a ha=>Ub (w4 a ha)
   rw[e4];obtain⟨xo,hd,bd⟩:=x;simp at*
   simp[*]
theorem Ek {s:Tx}{l:List RItem}{r:Tx}(hs:s.length<=1000)(h:Bf 16 s= .got l r):eF s/\Fi s=l/\l.length<=16/\∀x∈l,Jk x:=by
 obtain⟨h1,h2,h3,h4⟩:=El _ _ _ _ h;have hc:=Xz l h4;refine⟨⟨?_,?_⟩,?_,h3,h4⟩
 ·rw[h1,hc];simpa using h3
 ·intro t ht;have hl:=J1 ht;rw[h1,hc,Acf]at ht;obtain⟨x,hx,rfl⟩:=ht;obtain⟨g1,g2,g3⟩:=dZ (h4 x hx);exact⟨Ad2,g2,g3⟩
 ·unfold Fi;rw[h1,hc,Abb]
  conv=>rhs;rw[<-List.map_id l]
  exact Acn fun x hx=>(dZ (h4 x hx)).1
inductive Way {α:Type}(E:α->α->Prop):α->α->Prop
 |one {a b:α}:E a b->Way E a b
 |more {a b c:α}:E a b->Way E b c->Way E a c
theorem Way.join {α:Type}{E:α->α->Prop}{a b c:α}(h:Way E a b)(k:Way E b c):Way E a c:=by
 induction h with
 |one e=>exact .more e k
 |more e _ ih=>exact .more e (ih k)
def wP (n:Nat)(M:Nat->Nat->Bool):Prop:=∀a b,M a b=true->a<n/\b<n
theorem yL {n:Nat}{M:Nat->Nat->Bool}(hM:wP n M):∀(m:Nat),m<=n->wP n (P9 n M m)/\(∀a b,M a b=true->P9 n M m a b=true)/\(∀a b,P9 n M m a b=true->Way (fun a b=>M a b=true) a b)/\
  (∀a b c,b<m->P9 n M m a b=true->P9 n M m b c=true->P9 n M m a c=true):=by
 intro m;induction m with
 |zero=>intro _;exact⟨hM,fun _ _ h=>h,fun _ _ h=>.one h,fun _ _ _ h=>Ad2⟩
 |succ m ih=>
  intro hm;obtain⟨h1,h2,h3,h4⟩:=ih Ad2;have e:∀a b,P9 n M (m+1) a b=true↔P9 n M m a b=true\/(P9 n M m a m=true/\P9 n M m m b=true):=by
   intro a b;show zP n (P9 n M m) m a b=true↔_;unfold zP fw;split
   ·simp
   ·rename_i hn;constructor
    ·exact .inl
    ·rintro (h|⟨ha,hb⟩)
     ·exact h
     ·exact absurd ⟨(h1 _ _ ha).1,(h1 _ _ hb).2⟩ hn
  refine⟨?_,?_,?_,?_⟩
  ·intro a b h;rcases (e a b).1 h with h|⟨ha,hb⟩
   ·exact h1 _ _ h
   ·exact⟨(h1 _ _ ha).1,(h1 _ _ hb).2⟩
  ·intro a b h;exact (e a b).2 (.inl (h2 _ _ h))
  ·intro a b h;rcases (e a b).1 h with h|⟨ha,hb⟩
   ·exact h3 _ _ h
   ·exact (h3 _ _ ha).join (h3 _ _ hb)
  ·intro a b c hb ab aa;rw[e]at ab aa⊢;by_cases ad:b=m
   ·subst ad;have g1:P9 n M b a b=true:=by rcases ab with h|⟨h,_⟩<;>exact h
    have g2:P9 n M b b c=true:=by rcases aa with h|⟨_,h⟩<;>exact h
    exact .inr ⟨g1,g2⟩
   ·have ac:b<m:=Ad2;rcases ab with ab|⟨ha,af⟩<;>rcases aa with aa|⟨ae,hc⟩
    ·exact .inl (h4 _ _ _ ac ab aa)
    ·exact .inr ⟨h4 _ _ _ ac ab ae,hc⟩
    ·exact .inr ⟨ha,h4 _ _ _ ac af aa⟩
    ·exact .inr ⟨ha,hc⟩
theorem lT {n:Nat}{M:Nat->Nat->Bool}(hM:wP n M)(a b:Nat):P9 n M n a b=true↔Way (fun a b=>M a b=true) a b:=by
 obtain⟨h1,h2,h3,h4⟩:=yL hM n (Aak _);refine⟨h3 a b,fun h=>?_⟩;induction h with
 |one e=>exact h2 _ _ e
 |more e _ ih=>exact h4 _ _ _ (hM _ _ e).2 (h2 _ _ e) ih
theorem Kg (l:List RItem)(i k:Nat):G7 l i k=true↔Way (fun a b=>Ke l a b=true) i k:=by
 have he:∀a b,Ke l a b=true->a<l.length/\b<l.length:=by
  intro a b h;unfold Ke at h;split at h
  ·rename_i x y hx hy;exact⟨(Aau.1 hx).1,(Aau.1 hy).1⟩
  ·cases h
 have e:(fun a b=>if a<l.length/\b<l.length then Ke l a b else false)=Ke l:=by
  funext a b;split
  ·rfl
  ·rename_i hn;cases hq:Ke l a b with
   |false=>rfl
   |true=>exact absurd (he a b hq) hn
 unfold G7;rw[e];exact lT he i k
def M4 (l:List RItem)(p q:Tx):Prop:=∃x∈l,x.head.pred=p/\∃a∈x.body,a.pred=q
theorem edge_iff {l:List RItem}{i k:Nat}:Ke l i k=true↔∃x y,l[i]?=some x/\l[k]?=some y/\y.out=false/\∃a∈x.body,a.pred=y.head.pred:=by
 unfold Ke;constructor
 ·intro h;split at h
  ·rename_i x y hx hy;refine⟨x,y,hx,hy,?_⟩;simp at h;exact h
  ·cases h
 ·rintro⟨x,y,hx,hy,h1,a,ha,h2⟩;rw[hx,hy];simp only[h1,Abw,Aco];exact Ab0.2 ⟨a,ha,by simp[h2]⟩
theorem Lc {l:List RItem}{i k:Nat}(h:Way (fun a b=>Ke l a b=true) i k):∃x y,l[i]?=some x/\l[k]?=some y/\y.out=false/\Way (M4 l) x.head.pred y.head.pred:=by
 induction h with
 |one e=>
  obtain⟨x,y,hx,hy,h1,a,ha,h2⟩:=edge_iff.1 e;exact⟨x,y,hx,hy,h1,.one ⟨x,Aax hx,rfl,a,ha,h2⟩⟩
 |more e _ ih=>
  obtain⟨x,y,hx,hy,h1,a,ha,h2⟩:=edge_iff.1 e;obtain⟨x',z,aa,hz,h3,h4⟩:=ih;rw[hy]at aa;cases aa;exact⟨x,z,hx,hz,h3,.more ⟨x,Aax hx,rfl,a,ha,h2⟩ h4⟩
theorem Ow {l:List RItem}(ho:∀x∈l,x.out=true->x.body=[]){p q:Tx}(h:Way (M4 l) p q):∀(k:Nat) (y:RItem),l[k]?=some y->y.out=false->y.head.pred=q->∃(i:Nat) (x:RItem),l[i]?=some x/\x.head.pred=p/\Way (fun a b=>Ke l a b=true) i k:=by
 induction h with
 |one e=>
  intro k y hk hy hq;obtain⟨x,hx,h1,a,ha,h2⟩:=e;obtain⟨i,hi⟩:=Acp hx;exact⟨i,x,hi,h1,.one (edge_iff.2 ⟨x,y,hi,hk,hy,a,ha,by rw[h2,hq]⟩)⟩
 |more e _ ih=>
  intro k y hk hy hq;obtain⟨x,hx,h1,a,ha,h2⟩:=e;obtain⟨i,hi⟩:=Acp hx;obtain⟨j,z,hj,h3,h4⟩:=ih k y hk hy hq;have hz:z.out=false:=by
   have ab:z.body≠[]:=by
    cases h4 with
    |one e=>
     obtain⟨z',_,aa,_,_,a,ha,_⟩:=edge_iff.1 e;rw[hj]at aa;cases aa;intro hn;rw[hn]at ha;cases ha
    |more e _=>
     obtain⟨z',_,aa,_,_,a,ha,_⟩:=edge_iff.1 e;rw[hj]at aa;cases aa;intro hn;rw[hn]at ha;cases ha
   cases hb:z.out with
   |false=>rfl
   |true=>exact absurd (ho z (Aax hj) hb) ab
  exact⟨i,x,hi,h1,.more (edge_iff.2 ⟨x,z,hi,hj,hz,a,ha,by rw[h2,h3]⟩) h4⟩
theorem U4 {l:List RItem}(ho:∀x∈l,x.out=true->x.body=[]){p q:Tx}(hq:∃y∈l,y.out=false/\y.head.pred=q):Pz l p q=true↔Way (M4 l) p q:=by
 unfold Pz;constructor
 ·intro h;rw[Ab0]at h;obtain⟨i,-,h⟩:=h;rw[Ab0]at h;obtain⟨k,-,h⟩:=h;unfold iK at h;simp only[Aaz,Adx]at h;obtain⟨⟨h1,h2⟩,h3⟩:=h;obtain⟨x,y,hx,hy,_,hw⟩:=Lc ((Kg l i k).1 h1);unfold Is at h2 h3;rw[hx]at h2;rw[hy]at h3;rw[<-h2,<-h3];exact hw
 ·intro h;obtain⟨y,hy,h1,h2⟩:=hq;obtain⟨k,hk⟩:=Acp hy;obtain⟨i,x,hi,h3,h4⟩:=Ow ho h k y hk h1 h2;rw[Ab0];refine⟨i,by simpa using (Aau.1 hi).1,?_⟩;rw[Ab0];refine⟨k,by simpa using (Aau.1 hk).1,?_⟩;unfold iK Is;rw[(Kg l i k).2 h4,hi,hk];simp[h2,h3]
theorem N7 (c:Int)(A:St):ACalls Tryz.prog 207 [sc (.int .u8 c)] A fun x A'=>x=sc (.bool (Bl c))/\A'=A:=by
 refine Z9 9 [.tmp 2] Tryz.func207 ?_
 repeat' (first|refine Z1 ?_|(refine Z8 ?_;intro ya J)|(refine Z4 ?_;clear J ya)|(refine Z2 ?_ ?_<;>intro h aa<;>try exact Xp)|refine Z3 ?_|exact Zt|(apply J.out;clear J ya))
 all_goals exact⟨_,rfl,by simp[Bl, *]⟩
theorem Fz (c:Int)(A:St):ACalls Tryz.prog 243 [sc (.int .u8 c)] A fun x A'=>x=sc (.bool (B6 c))/\A'=A:=by
 refine Z9 9 [.tmp 2] Tryz.func243 ?_
 repeat' (first|refine Z1 ?_|(refine Z8 ?_;intro ya J)|(refine Z4 ?_;clear J ya)|(refine Z2 ?_ ?_<;>intro h aa<;>try exact Xp)|refine Z3 ?_|exact Zt|(apply J.out;clear J ya))
 all_goals exact⟨_,rfl,by simp[B6, *]⟩
theorem Fy (c:Int)(A:St):ACalls Tryz.prog 244 [sc (.int .u8 c)] A fun x A'=>x=sc (.bool (Az c))/\A'=A:=by
 refine Z9 9 [.tmp 2] Tryz.func244 ?_
 repeat' (first|refine Z1 ?_|(refine Z8 ?_;intro ya J)|(refine Z4 ?_;clear J ya)|(refine Z2 ?_ ?_<;>intro h aa<;>try exact Xp)|refine Z3 ?_|exact Zt|(apply J.out;clear J ya))
 all_goals exact⟨_,rfl,by simp[Az, *]⟩
def Qm (t:Tx)(k:Nat)(nm:AV):List AV:=[str t,sc (.int .i64 k),nm]
def takeB (t:Tx)(k:Nat)(c:Int):Bool:=match t[k]? with|some b=>(b.toNat:Int)==c|none=>false
def takeN (t:Tx)(k:Nat)(c:Int):Nat:=if takeB t k c=true then k+1 else k
theorem mV (t:Tx)(k o:Nat)(nm:AV)(c:Int)(ht:t.length<=1000)(hk:k<=t.length)(A:St)(ho:A.obj o=Qm t k nm)(hn:o<A.nobj):ACalls Tryz.prog 126 [ptr o 0,sc (.int .u8 c)] A fun x A'=>x=sc (.bool (takeB t k c))/\KeepX o A A'/\A'.obj o=Qm t (takeN t k c) nm:=by
 unfold Qm at*
 refine Z9 35 [.tmp 4] Tryz.func126 ?_
 repeat' (first|refine Z1 ?_|(refine Z8 ?_;intro ya J)|(refine Z4 ?_;clear J ya)|(refine Z2 ?_ ?_<;>intro h aa<;>try exact Xp)|refine Z3 ?_|exact Zt|(apply J.out;clear J ya))
 refine Aq Ad (fun _=>True) [22] [0,1,2,3,4,5,6,7,8,9,10,11,12,13,14,15,16,17,18,19,20,21] [22] Ad5 (fun _ _ _ h=>h) ?_;intro ya J;by_cases ab:k<t.length
 ·have hg:=Aav ab;generalize t[k]=b at hg;refine Z3 ?_
  repeat' (first|refine Z1 ?_|(refine Z8 ?_;intro ya J)|(refine Z4 ?_;clear J ya)|(refine Z2 ?_ ?_<;>intro h aa<;>try exact Xp)|refine Z3 ?_|exact Zt|(apply J.out;clear J ya))
  ·have hB:takeB t k c=false:=by simp[takeB,hg];simpa using h
   exact⟨_,rfl,by rw[hB],KeepX.refl _ _,by simp[takeN,hB]⟩
  ·have hB:takeB t k c=true:=by simp[takeB,hg];simpa using h
   exact⟨_,rfl,by rw[hB],(KeepX.refl _ _).put _,by simp[takeN,hB]⟩
 ·have hg:t[k]?=none:=by simp;omega
  refine Z3 ?_
  repeat' (first|refine Z1 ?_|(refine Z8 ?_;intro ya J)|(refine Z4 ?_;clear J ya)|(refine Z2 ?_ ?_<;>intro h aa<;>try exact Xp)|refine Z3 ?_|exact Zt|(apply J.out;clear J ya))
  have hB:takeB t k c=false:=by simp[takeB,hg]
  exact⟨_,rfl,by rw[hB],KeepX.refl _ _,by simp[takeN,hB]⟩
def Kc (t s:Tx)(nm:AV):List AV:=Qm t (t.length-s.length) nm
theorem Nm {t s:Tx}(h:s<:+t):t[t.length-s.length]?=s.head?:=by
 obtain⟨p,rfl⟩:=h;rw[Abj,Nat.add_sub_cancel,Abm (Aak _),Nat.sub_self];cases s<;>rfl
theorem O1 {t s:Tx}{b:UInt8}(h:(b::s)<:+t):s<:+t:=(List.suffix_cons b s).trans h
theorem Gm {t s:Tx}(h:s<:+t):s.length<=t.length:=h.length_le
theorem O0 (t s:Tx)(o:Nat)(nm:AV)(c:Int)(ht:t.length<=1000)(hs:s<:+t)(A:St)(ho:A.obj o=Kc t s nm)(hn:o<A.nobj):
  ACalls Tryz.prog 126 [ptr o 0,sc (.int .u8 c)] A fun x A'=>KeepX o A A'/\match Aw c s with
   |.got _ r=>x=sc (.bool true)/\A'.obj o=Kc t r nm/\r<:+t
   |.bad e=>x=sc (.bool false)/\A'.obj o=Kc t s nm/\e=s:=by
 have hl:=Gm hs;refine ACalls.mono (mV t _ o nm c ht Ad2 A ho hn) ?_;rintro x A' ⟨rfl,hK,hO⟩;refine⟨hK,?_⟩;have hg:=Nm hs;cases s with
 |nil=>
  have hB:takeB t (t.length-([]:Tx).length) c=false:=by unfold takeB;rw[hg];rfl
  refine⟨by rw[hB],?_,rfl⟩;rw[hO,takeN,hB];rfl
 |cons b r=>
  have hB:takeB t (t.length-(b::r).length) c=((b.toNat:Int)==c):=by unfold takeB;rw[hg];rfl
  unfold Aw;by_cases hb:((b.toNat:Int)==c)=true
  ·rw[hb]at hB;simp only[hb,if_true];refine⟨by rw[hB],?_,O1 hs⟩;rw[hO,takeN,hB,Kc];simp only[if_true,Abv]at*
   rw[show t.length-(r.length+1)+1=t.length-r.length by omega]
  ·have aa:((b.toNat:Int)==c)=false:=by simpa using hb
   rw[aa]at hB;simp only[aa,Abq,if_false];refine⟨by rw[hB],?_,trivial⟩;rw[hO,takeN,hB];rfl
def Hb (ds:Tx):Int:=ds.foldl (fun v b=>v*10+((b.toNat:Int)-48)) 0
theorem Lm (ds:Tx)(b:UInt8):Hb (ds++[b])=Hb ds*10+((b.toNat:Int)-48):=by simp[Hb]
def sK (s ds q:Tx):Prop:=ds.length<=3/\Ar Az 3 s=(ds++(Ar Az (3-ds.length) q).1,(Ar Az (3-ds.length) q).2)/\0<=Hb ds/\(ds.length=0->Hb ds=0)/\(ds.length=1->Hb ds<=9)/\(ds.length=2->Hb ds<=99)
theorem sJ (s:Tx):sK s [] s:=⟨by simp,by simp,by simp[Hb],by simp[Hb],by simp,by simp⟩
theorem oP {s ds q:Tx}{b:UInt8}(h:sK s ds (b::q))(hl:ds.length<3)(hb:Az b.toNat=true):sK s (ds++[b]) q:=by
 obtain⟨h1,h2,h3,h4,h5,h6⟩:=h;have hr:48<=b.toNat/\b.toNat<=57:=by simp[Az]at hb;omega
 have e:3-ds.length=(3-(ds++[b]).length)+1:=by simp;omega
 rw[e,Ar,if_pos hb]at h2;refine⟨by simp;omega,by rw[h2];simp,?_,by simp,?_,?_⟩
 ·rw[Lm];omega
 ·intro hh;rw[Lm];have:=h4 (by simp at hh;simp[hh]);omega
 ·intro hh;rw[Lm];have:=h5 (by simp at hh;omega);omega
theorem Tu {s ds q:Tx}(h:sK s ds q)(he:ds.length=3\/q=[]\/∃b r,q=b::r/\Az b.toNat=false):Ar Az 3 s=(ds,q):=by
 obtain⟨h1,h2,-⟩:=h;rw[h2];rcases he with he|rfl|⟨b,r,rfl,hb⟩
 ·rw[he];simp[Ar]
 ·cases hn:3-ds.length<;>simp[Ar]
 ·cases hn:3-ds.length<;>simp[Ar,hb]
theorem Ql (t s:Tx)(o:Nat)(nm:AV)(ht:t.length<=1000)(hs:s<:+t)(A:St)(ho:A.obj o=Kc t s nm)(hn:o<A.nobj)(an:∀b r,s=b::r->((b.toNat:Int)==48)=false):
  ACalls Tryz.prog 245 [ptr o 0] A fun x A'=>KeepX o A A'/\∃q,A'.obj o=Kc t q nm/\q<:+t/\q=(Ar Az 3 s).2/\x=sc (.int .i64 (Hb (Ar Az 3 s).1)):=by
 have hp:Aw 48 s= .bad s:=by
  cases s with
  |nil=>rfl
  |cons b r=>unfold Aw;simp only[an b r rfl];simp
 have hT:=O0 t s o nm 48 ht hs A ho hn;rw[hp]at hT;refine Z9 57 [.tmp 2] Tryz.func245 ?_
 repeat' (first|refine Z1 ?_|(refine Z8 ?_;intro ya J)|(refine Z4 ?_;clear J ya)|(refine Z2 ?_ ?_<;>intro h aa<;>try exact Xp)|(refine Z5 ?_;refine Xi (hT) ?_;rintro _ _ ⟨ab,rfl,ai,-⟩)|refine Z3 ?_|exact Zt|(apply J.out;clear J ya))
 rename_i A1;have ae:o<A1.nobj:=Aam hn ab.nobj;clear hT hp ho
 refine Ab (fun m s' A'=>∃(q ds:Tx),m=3-ds.length/\s' 0=ptr o 0/\s' 3=sc (.int .i64 (Hb ds))/\s' 4=sc (.int .i64 ds.length)/\KeepX o A A'/\A'.obj o=Kc t q nm/\o<A'.nobj/\q<:+t/\Ad8 (sK s ds q)) 3
  ⟨s,[],rfl,rfl,rfl,rfl,ab,ai,ae,hs,sJ s⟩ ?_
 rintro m s' A' ⟨q,ds,rfl,h0,h3,h4,hK,hO,ap,hq,hD⟩;clear ab ai ae;have ac:=Gm hq;have ad:=Nm hq;have am:=hD.out;obtain⟨d1,-,d3,d4,d5,d6⟩:=am;unfold Kc Qm at hO
 repeat' (first|refine Z1 ?_|(refine Z8 ?_;intro ya J)|(refine Z4 ?_;clear J ya)|(refine Z2 ?_ ?_<;>intro h aa<;>try exact Xp)|refine Z3 ?_|exact Zt|(apply J.out;clear J ya))
 refine Aq Ad (fun _=>True) [25] [0,1,2,3,4,5,6,7,8,9,10,11,12,13,14,15,16,17,18,19,20,21,22,23] [24,25] Ad5 (fun _ _ _ h=>h) ?_;intro ya J;cases q with
 |nil=>
  simp only[Abu,Acr]at hO ad ac;refine Z3 ?_
  repeat' (first|refine Z1 ?_|(refine Z8 ?_;intro ya J)|(refine Z4 ?_;clear J ya)|(refine Z2 ?_ ?_<;>intro h aa<;>try exact Xp)|(refine Z5 ?_;refine Xi (Fy _ _) ?_;rintro _ _ ⟨rfl,rfl⟩)|refine Z3 ?_|exact Zt|(apply J.out;clear J ya))
  all_goals
   have he:=Tu hD.out (.inr (.inl rfl));exact⟨_,rfl,[],by simp[Kc,Qm],hq,by rw[he],by rw[he]⟩
 |cons b r=>
  simp only[Abv,List.head?_cons]at hO ad ac;have aj:=O1 hq;refine Z3 ?_;have af:Az b.toNat=true->48<=(b.toNat:Int)/\(b.toNat:Int)<=57:=fun h=>by simp[Az]at h;omega
  repeat' (first|refine Z1 ?_|(refine Z8 ?_;intro ya J)|(refine Z4 ?_;clear J ya)|(refine Z2 ?_ ?_<;>intro h aa<;>try exact Xp)|(refine Z5 ?_;refine Xi (Fy _ _) ?_;rintro _ _ ⟨rfl,rfl⟩)|refine Z3 ?_|exact Zt|(apply J.out;clear J ya))
  all_goals
   first
   |(have he:=Tu hD.out (.inr (.inr ⟨b,r,rfl,by assumption⟩))
     exact⟨_,rfl,b::r,by simp[Kc,Qm],hq,by rw[he],by rw[he]⟩)
   |(have he:=Tu hD.out (.inl Ad2)
     exact⟨_,rfl,b::r,by simp[Kc,Qm],hq,by rw[he],by rw[he]⟩)
   |skip
  have ah:Az b.toNat=true:=by assumption
  have af:=af ah;have ak:ds.length<3:=Ad2;have ao:Hb ds<=99:=by
   have:ds.length=0\/ds.length=1\/ds.length=2:=Ad2;rcases this with h|h|h
   ·have:=d4 h;omega
   ·have:=d5 h;omega
   ·exact d6 h
  clear d4 d5 d6;refine Aq Ad (fun _=>True) [14] [0,1,2,3,4,5,6,7,8,9,10,11,12,13] [14] Ad5 (fun _ _ _ h=>h) ?_;intro ya J;refine Z3 ?_
  repeat' (first|refine Z1 ?_|(refine Z8 ?_;intro ya J)|(refine Z4 ?_;clear J ya)|(refine Z2 ?_ ?_<;>intro h aa<;>try exact Xp)|refine Z3 ?_|exact Zt|(apply J.out;clear J ya))
  have hw:IntKind.i64.wrap (Hb ds*10+IntKind.i64.wrap (IntKind.u8.wrap ((b.toNat:Int)-48)))=Hb (ds++[b]):=by
   rw[Abs.u8w Ad2 Ad2,show IntKind.i64.wrap ((b.toNat:Int)-48)=(b.toNat:Int)-48 from Abs.i64w Ad2 Ad2,Abs.i64w Ad2 Ad2,Lm]
  rw[hw];refine⟨3-(ds++[b]).length,by simp;omega,r,ds++[b],rfl,rfl,by simp,hK.put _,?_,aj,oP hD.out ak ah⟩;unfold Kc Qm;rw[show ((t.length-(r.length+1):Nat):Int)+1=((t.length-r.length:Nat):Int)by omega]
variable {Bd:Nat}
namespace Rd
def ok {α:Type}:Rd α->Bool
 |.bad _=>false
 |.got _ _=>true
def rest {α:Type}:Rd α->Tx
 |.bad e=>e
 |.got _ r=>r
def Val {α:Type}:Rd α->(α->Prop)->Prop
 |.bad _,_=>True
 |.got a _,P=>P a
theorem ok_true {α:Type}{x:Rd α}(h:x.ok=true):∃a r,x= .got a r:=by
 cases x with
 |bad e=>cases h
 |got a r=>exact⟨a,r,rfl⟩
theorem ok_false {α:Type}{x:Rd α}(h:x.ok=false):∃e,x= .bad e:=by
 cases x with
 |bad e=>exact⟨e,rfl⟩
 |got a r=>cases h
theorem Fs {α β γ:Type}(x:Rd α)(f:α->Tx->Rd β)(g:β->Tx->Rd γ):(x.bnd f).bnd g=x.bnd fun a r=>(f a r).bnd g:=by cases x<;>rfl
theorem Val.mono {α:Type}{x:Rd α}{P Q:α->Prop}(h:Val x P)(k:∀a,P a->Q a):Val x Q:=by
 cases x with
 |bad e=>trivial
 |got a r=>exact k a h
end Rd
def Qn {α:Type}(f:Tx->Rd α)(n:Nat)(s:Tx):Rd (List α):=(f s).bnd fun x r=>(Dl f n r).bnd fun xs r=>.got (x::xs) r
def sepI {α:Type}(f:Tx->Rd α)(n:Nat)(s:Tx)(xs:List α)(q:Tx):Prop:=
 xs.length<=n+1/\0<xs.length/\Qn f n s=(Dl f (n+1-xs.length) q).bnd fun ys r=>.got (xs++ys) r
theorem sepI.first {α:Type}{f:Tx->Rd α}{n:Nat}{s r:Tx}{x:α}(h:f s= .got x r):sepI f n s [x] r:=by
 refine⟨by simp,by simp,?_⟩;unfold Qn;rw[h];simp only[Rd.bnd,List.length_singleton,Nat.add_sub_cancel,List.singleton_append]
theorem sepI.none {α:Type}{f:Tx->Rd α}{n:Nat}{s e:Tx}(h:f s= .bad e):Qn f n s= .bad e:=by
 unfold Qn;rw[h];rfl
theorem sepI.full {α:Type}{f:Tx->Rd α}{n:Nat}{s q:Tx}{xs:List α}(h:sepI f n s xs q)(hl:n+1<=xs.length):Qn f n s= .got xs q:=by
 rw[h.2.2,show n+1-xs.length=0 by omega];simp[Dl,Rd.bnd]
theorem sepI.stop {α:Type}{f:Tx->Rd α}{n:Nat}{s q:Tx}{xs:List α}(h:sepI f n s xs q)(hb:(Aw 44 q).ok=false):Qn f n s= .got xs q:=by
 rw[h.2.2];cases hk:n+1-xs.length with
 |zero=>simp[Dl,Rd.bnd]
 |succ k=>
  cases q with
  |nil=>simp[Dl,Rd.bnd]
  |cons b r=>
   unfold Aw at hb;dsimp only at hb;have aa:((b.toNat:Int)==44)=false:=by
    by_cases hc:((b.toNat:Int)==44)=true
    ·rw[if_pos hc]at hb;cases hb
    ·simpa using hc
   unfold Dl;rw[if_neg (by rw[aa];simp)];simp[Rd.bnd]
theorem sepI.fail {α:Type}{f:Tx->Rd α}{n:Nat}{s q r e:Tx}{xs:List α}{u:Unit}(h:sepI f n s xs q)(hl:xs.length<n+1)(hb:Aw 44 q= .got u r)(hf:f r= .bad e):Qn f n s= .bad e:=by
 rw[h.2.2];obtain⟨k,hk⟩:∃k,n+1-xs.length=k+1:=⟨n-xs.length,by omega⟩;rw[hk];cases q with
 |nil=>cases hb
 |cons b q=>
  unfold Aw at hb;dsimp only at hb;by_cases hc:((b.toNat:Int)==44)=true
  ·rw[if_pos hc]at hb;cases hb;rw[Dl,if_pos hc,hf];rfl
  ·rw[if_neg hc]at hb;cases hb
theorem sepI.next {α:Type}{f:Tx->Rd α}{n:Nat}{s q r r2:Tx}{xs:List α}{u:Unit}{x:α}(h:sepI f n s xs q)(hl:xs.length<n+1)(hb:Aw 44 q= .got u r)(hf:f r= .got x r2):sepI f n s (xs++[x]) r2:=by
 refine⟨by simp;omega,by simp,?_⟩;rw[h.2.2];obtain⟨k,hk⟩:∃k,n+1-xs.length=k+1:=⟨n-xs.length,by omega⟩;rw[hk,show n+1-(xs++[x]).length=k by simp;omega];cases q with
 |nil=>cases hb
 |cons b q=>
  unfold Aw at hb;dsimp only at hb;by_cases hc:((b.toNat:Int)==44)=true
  ·rw[if_pos hc]at hb;cases hb;rw[Dl,if_pos hc,hf];simp only[Rd.bnd];cases Dl f k r2<;>simp[Rd.bnd]
  ·rw[if_neg hc]at hb;cases hb
structure KeepR (o id:Nat)(A A':St):Prop where
 nobj:A.nobj<=A'.nobj
 obj:∀p,p<A.nobj->p≠o->A'.obj p=A.obj p
 ver:∀p,p<A.nobj->p≠o->A'.ver p=A.ver p
 ntop:A.ntop<=A'.ntop
 top:∀k,k<A.ntop->k+2≠id->A'.top k=A.top k
theorem KeepR.refl (o id:Nat)(A:St):KeepR o id A A:=⟨Nat.le_refl _,fun _ _ _=>rfl,fun _ _ _=>rfl,Nat.le_refl _,fun _ _ _=>rfl⟩
theorem KeepX.kr {o:Nat}{A A':St}(h:KeepX o A A')(id:Nat):KeepR o id A A':=⟨h.nobj,h.obj,h.ver,h.ntop,fun k hk _=>h.top k hk⟩
theorem Keep.kr {A A':St}(h:Keep A A')(o id:Nat):KeepR o id A A':=⟨h.nobj,fun p hp _=>h.obj p hp,fun p hp _=>h.ver p hp,h.ntop,fun k hk _=>h.top k hk⟩
theorem KeepR.trans {o id id':Nat}{a b c:St}(h:KeepR o id a b)(hi:id'=id\/a.ntop+2<=id')(k:KeepR o id' b c):KeepR o id a c:=
 ⟨Nat.le_trans h.nobj k.nobj,fun p hp aa=>(k.obj p (Nat.lt_of_lt_of_le hp h.nobj) aa).trans (h.obj p hp aa),fun p hp aa=>(k.ver p (Nat.lt_of_lt_of_le hp h.nobj) aa).trans (h.ver p hp aa),
  Nat.le_trans h.ntop k.ntop,fun j hj aa=>(k.top j (Nat.lt_of_lt_of_le hj h.ntop) (by omega)).trans (h.top j hj aa)⟩
theorem KeepR.put {o id:Nat}{A A':St}(h:KeepR o id A A')(cs:List AV):KeepR o id A (A'.put o cs):=
 ⟨h.nobj,fun p hp aa=>by simp[St.put,aa];exact h.obj p hp aa,fun p hp aa=>by simp[St.put,aa];exact h.ver p hp aa,h.ntop,h.top⟩
theorem KeepR.lay {o id:Nat}{a b:St}(h:KeepR o id a b)(n:Nat):KeepR o id a (b.lay n):=by
 have:=h.ntop;exact⟨h.nobj,h.obj,h.ver,by simp[St.lay];omega,fun k hk aa=>by simp[St.lay];rw[if_neg (by omega)];exact h.top k hk aa⟩
theorem KeepR.new {o id:Nat}{a b:St}(h:KeepR o id a b)(cs:List AV):KeepR o id a (b.new cs):=by
 have:=h.nobj;exact⟨by simp[St.new];omega,fun p hp aa=>by simp[St.new];rw[if_neg (by omega)];exact h.obj p hp aa,h.ver,h.ntop,h.top⟩
theorem KeepR.raise {o id:Nat}{a b:St}(h:KeepR o id a b){k:Nat}(hk:a.ntop<=k\/k+2=id)(n:Nat):KeepR o id a (b.raise k n):=
 ⟨h.nobj,h.obj,h.ver,h.ntop,fun j hj aa=>by simp[St.raise];rw[if_neg (by omega)];exact h.top j hj aa⟩
theorem KeepR.keep {o id:Nat}{a b c:St}(h:Keep a b)(k:KeepR o id b c)(ho:a.nobj<=o)(hi:id<2\/a.ntop+2<=id):Keep a c:=
 ⟨Nat.le_trans h.nobj k.nobj,fun p hp=>(k.obj p (Nat.lt_of_lt_of_le hp h.nobj) (by omega)).trans (h.obj p hp),fun p hp=>(k.ver p (Nat.lt_of_lt_of_le hp h.nobj) (by omega)).trans (h.ver p hp),
  Nat.le_trans h.ntop k.ntop,fun j hj=>(k.top j (Nat.lt_of_lt_of_le hj h.ntop) (by omega)).trans (h.top j hj)⟩
def OwnN (A:St)(id n:Nat):Prop:=(id=1/\n=0)\/∃k,id=k+2/\k<A.ntop/\A.top k=n/\0<n
theorem OwnN.keepX {o:Nat}{A A':St}{id n:Nat}(h:OwnN A id n)(k:KeepX o A A'):OwnN A' id n:=by
 rcases h with h|⟨j,h1,h3,h4,h5⟩
 ·exact .inl h
 ·exact .inr ⟨j,h1,Nat.lt_of_lt_of_le h3 k.ntop,(k.top j h3).trans h4,h5⟩
theorem Own.keepR {o idn:Nat}{σ0 A A':St}{id n:Nat}(h:Own σ0 A id n)(k:KeepR o idn A A')(aa:id=1\/id≠idn):Own σ0 A' id n:=by
 rcases h with h|⟨j,h1,h2,h3,h4,h5⟩
 ·exact .inl h
 ·exact .inr ⟨j,h1,h2,Nat.lt_of_lt_of_le h3 k.ntop,(k.top j h3 (by omega)).trans h4,h5⟩
theorem OwnN.keepR {o idn:Nat}{A A':St}{id n:Nat}(h:OwnN A id n)(k:KeepR o idn A A')(aa:id=1\/id≠idn):OwnN A' id n:=by
 rcases h with h|⟨j,h1,h3,h4,h5⟩
 ·exact .inl h
 ·exact .inr ⟨j,h1,Nat.lt_of_lt_of_le h3 k.ntop,(k.top j h3 (by omega)).trans h4,h5⟩
theorem Q0 {A:St}{n k:Nat}(h:k<A.ntop):(A.lay n).top k=A.top k:=by simp[St.lay];intro e;omega
theorem nH {A:St}{n k j:Nat}(h:j≠k):(A.raise k n).top j=A.top j:=by simp[St.raise,h]
theorem Lw {P:Program}{t:TypeId}{z b:Nat}{zc:List Value}{σ0 A:St}{o idn id id2 n m m':Nat}{xs ys:List AV}{K:AV->St->Prop}(ht:Ld P t=some (z,b,zc))(hK:KeepR o idn σ0 A)(hO:Own σ0 A id n)
  (hz:0<z) (hzc:zc.length=z) (hx:xs.length=n*z) (hy:ys.length=m*z) (hf:ys.all flat=true) (hm:0<m) (hb:(n+m)*b<=140737488355328) (hl:n+m<=1099511627776)
  (h:∀id' A',Own σ0 A' id' (n+m)->KeepR o idn σ0 A'->A'.obj=A.obj->A'.nobj=A.nobj->A'.ver=A.ver->A.ntop<A'.ntop->(∀k,k<A.ntop->k+2≠id->A'.top k=A.top k)->(id'=id\/A.ntop+2<=id')->K (sl id' (n+m) (xs++ys)) A'):Gx P t t (sl id n xs) (sl id2 m ys) (A.lay m') K:=by
 unfold Gx Zf;left;simp only[ht];rw[if_pos ⟨trivial,hz,hzc,hx,hy,hf,hm,hb,hl⟩];rcases hO with⟨rfl,rfl⟩|⟨k,rfl,h2,h3,h4,h5⟩
 ·have aa:xs=[]:=List.eq_nil_of_length_eq_zero (by simpa using hx);subst aa;have ac:=hK.ntop
  have:=h ((A.lay m').ntop+2) ((A.lay m').lay m) (by rw[Nat.zero_add];exact .inr ⟨(A.lay m').ntop,rfl,by simp[St.lay];omega,by simp[St.lay],by simp[St.lay],hm⟩) ((hK.lay m').lay m) rfl rfl rfl (by simp[St.lay];omega)
   (fun j hj _=>by rw[Q0 (by rw[Jd];omega),Q0 hj]) (by rw[Jd];omega)
  simpa using this
 ·have e1:(A.lay m').top k=n:=by simp[St.lay];rw[if_neg (by omega)];exact h4
  simp only;rw[if_pos ⟨e1,h5⟩]
  exact h (k+2) _ (.inr ⟨k,rfl,h2,by simp[St.raise,St.lay];omega,by simp[St.raise],by omega⟩) ((hK.lay m').raise (.inl h2) _) rfl rfl rfl (by simp[St.raise,St.lay])
   (fun j hj ab=>by rw[nH (by omega),Q0 hj]) (.inl rfl)
theorem jN {P:Program}{t:TypeId}{z b:Nat}{zc:List Value}{σ0 A:St}{o id id2 n m m':Nat}{xs ys:List AV}{K:AV->St->Prop}(ht:Ld P t=some (z,b,zc))(hO:OwnN A id n)
  (hz:0<z) (hzc:zc.length=z) (hx:xs.length=n*z) (hy:ys.length=m*z) (hf:ys.all flat=true) (hm:0<m) (hb:(n+m)*b<=140737488355328) (hl:n+m<=1099511627776)
  (h:∀id' A',OwnN A' id' (n+m)->KeepR o id A A'->A'.obj=A.obj->A'.nobj=A.nobj->A'.ver=A.ver->(id'=id\/A.ntop+2<=id')->K (sl id' (n+m) (xs++ys)) A'):Gx P t t (sl id n xs) (sl id2 m ys) (A.lay m') K:=by
 unfold Gx Zf;left;simp only[ht];rw[if_pos ⟨trivial,hz,hzc,hx,hy,hf,hm,hb,hl⟩];have hR:=KeepR.refl o id A;rcases hO with⟨rfl,rfl⟩|⟨k,rfl,h3,h4,h5⟩
 ·have aa:xs=[]:=List.eq_nil_of_length_eq_zero (by simpa using hx);subst aa;have:=h ((A.lay m').ntop+2) ((A.lay m').lay m) (by rw[Nat.zero_add];exact .inr ⟨(A.lay m').ntop,rfl,by simp[St.lay],by simp[St.lay],hm⟩) ((hR.lay m').lay m) rfl rfl rfl (by rw[Jd];omega);simpa using this
 ·have e1:(A.lay m').top k=n:=by simp[St.lay];rw[if_neg (by omega)];exact h4
  simp only;rw[if_pos ⟨e1,h5⟩];exact h (k+2) _ (.inr ⟨k,rfl,by simp[St.raise,St.lay];omega,by simp[St.raise],by omega⟩) ((hR.lay m').raise (.inr rfl) _) rfl rfl rfl (.inl rfl)
structure RS (Bd:Nat)(t:Tx)(o:Nat)(N:List Tx)(id:Nat)(s:Tx)(A:St):Prop where
 obj:A.obj o=Kc t s (sl id N.length (N.map str))
 lt:o<A.nobj
 own:OwnN A id N.length
 suf:s<:+t
 len:N.length+s.length<=Bd+t.length/\Bd<=1000
structure Rs (o:Nat)(A:St)(id:Nat)(A':St)(id':Nat):Prop where
 keep:KeepR o id A A'
 nid:id'=id\/A.ntop+2<=id'
theorem Rs.refl (o:Nat)(A:St)(id:Nat):Rs o A id A id:=⟨KeepR.refl _ _ _,.inl rfl⟩
theorem Rs.trans {o:Nat}{a b c:St}{i j k:Nat}(h:Rs o a i b j)(g:Rs o b j c k):Rs o a i c k:=
 ⟨h.keep.trans h.nid g.keep,by have:=h.keep.ntop;rcases h.nid with h1|h1<;>rcases g.nid with h2|h2<;>omega⟩
theorem Rs.ofX {o:Nat}{a b:St}{i:Nat}(h:KeepX o a b):Rs o a i b i:=⟨h.kr i,.inl rfl⟩
theorem RS.stepX {t:Tx}{o:Nat}{N:List Tx}{id:Nat}{s r:Tx}{A A':St}(h:RS Bd t o N id s A)(k:KeepX o A A')(ho:A'.obj o=Kc t r (sl id N.length (N.map str)))(hr:r<:+t)(hl:r.length<=s.length):RS Bd t o N id r A':=
 ⟨ho,Nat.lt_of_lt_of_le h.lt k.nobj,h.own.keepX k,hr,by have:=h.len;omega⟩
theorem gX (c:Int)(s:Tx):(Aw c s).rest<:+s:=by
 cases s with
 |nil=>exact List.suffix_refl _
 |cons b r=>
  unfold Aw;dsimp only;split
  ·exact List.suffix_cons b r
  ·exact List.suffix_refl _
theorem Hr {t:Tx}{o:Nat}{N:List Tx}{id:Nat}{s:Tx}{c:Int}{A:St}(ht:t.length<=1000)(h:RS Bd t o N id s A):
  ACalls Tryz.prog 126 [ptr o 0,sc (.int .u8 c)] A fun x A'=>x=sc (.bool (Aw c s).ok)/\KeepX o A A'/\RS Bd t o N id (Aw c s).rest A':=by
 refine ACalls.mono (O0 t s o _ c ht h.suf A h.obj h.lt) ?_;rintro x A' ⟨hK,hm⟩;have hr:=gX c s;have hl:=hr.length_le;have hs:=hr.trans h.suf;cases hp:Aw c s with
 |bad e=>
  rw[hp]at hm hr hl hs;obtain⟨rfl,hO,rfl⟩:=hm;exact⟨rfl,hK,h.stepX hK hO hs hl⟩
 |got u r=>
  rw[hp]at hm hr hl hs;obtain⟨rfl,hO,-⟩:=hm;exact⟨rfl,hK,h.stepX hK hO hs hl⟩
end Go.Proofs.YtmoeoppbmhfbpaaGreatDoorH
