import Derived.Test.YtmoeoppbmhfbpabGreatDoorJGram
import Derived.Test.YtmoeoppbmhfbpabGreatDoorJRefA
set_option maxHeartbeats 16000000
set_option maxRecDepth 100000
set_option linter.all false
namespace Go.Proofs.YtmoeoppbmhfbpabGreatDoorJ
open Go.Abs
theorem Iy {b:UInt8}(h:Be b.toNat=true):97<=b.toNat/\b.toNat<=122:=by simp[Be]at h;omega
theorem Zt {b:UInt8}(h:Bl b.toNat=true\/A0 b.toNat=true):48<=b.toNat/\b.toNat<=90/\b.toNat≠58:=by
 simp[Bl,A0]at h;omega
theorem Ho {c:Int}:∀(p r:Tx) (d:Bool) (cur:Tx),(∀b∈p,b.toNat≠40/\b.toNat≠41/\(b.toNat:Int)≠c)->Bz c (p++r) d cur=Bz c r d (cur++p):=by
 intro p;induction p with
 |nil=>intro r d cur _;simp
 |cons b p ih=>
  intro r d cur h;obtain⟨h1,h2,h3⟩:=h b (Acj ..);rw[Ack,Bz];have e1:((b.toNat:Int)==40)=false:=by simp;omega
  have e2:((b.toNat:Int)==41)=false:=by simp;omega
  have e3:((b.toNat:Int)==c)=false:=by simp;omega
  simp only[e1,e2,e3,Acb,if_false,false_and];rw[ih r d (cur++[b]) (fun x hx=>h x (Acl _ hx))];simp
theorem sB {c:Int}:∀(p r:Tx) (cur:Tx),(∀b∈p,b.toNat≠41)->Bz c (p++r) true cur=Bz c r true (cur++p):=by
 intro p;induction p with
 |nil=>intro r cur _;simp
 |cons b p ih=>
  intro r cur h;have h2:=h b (Acj ..);rw[Ack,Bz];have e2:((b.toNat:Int)==41)=false:=by simp;omega
  simp only[e2,Acb,if_false,ite_self,reduceCtorEq,and_false];rw[ih r (cur++[b]) (fun x hx=>h x (Acl _ hx))];simp
theorem rY {c:Int}(r:Tx)(d:Bool)(cur:Tx):Bz c (40::r) d cur=Bz c r true (cur++[40]):=by
 rw[Bz];simp
theorem nX {c:Int}(hc:c≠41)(r:Tx)(d:Bool)(cur:Tx):Bz c (41::r) d cur=Bz c r false (cur++[41]):=by
 rw[Bz];simp;intro h;exact absurd h.symm hc
theorem sC {c:UInt8}(h1:c.toNat≠40)(h2:c.toNat≠41)(r cur:Tx):Bz c.toNat (c::r) false cur=cur::Bz c.toNat r false []:=by
 rw[Bz];have e1:((c.toNat:Int)==40)=false:=by simp;omega
 have e2:((c.toNat:Int)==41)=false:=by simp;omega
 simp[e1,e2]
def lI (c:Int)(t:Tx):Prop:=t≠[]/\∀r cur,Bz c (t++r) false cur=Bz c r false (cur++t)
theorem rZ:∀(ts:List Tx) (cur:Tx),(∀t∈ts,lI 44 t)->cur≠[]->Bz 44 (Br ts) false cur=cur::ts:=by
 intro ts;induction ts with
 |nil=>intro cur _ hc;simp[Br,Bz,hc]
 |cons t ts ih=>
  intro cur h hc;obtain⟨h1,h2⟩:=h t (Acj ..);have e:Br (t::ts)=44::(t++Br ts):=by simp[Br]
  rw[e,show (44:Int)=((44:UInt8).toNat:Int)from rfl,sC (by decide) (by decide),show ((44:UInt8).toNat:Int)=44 from rfl,h2,Acm,ih t (fun x hx=>h x (Acl _ hx)) h1]
theorem dG {ts:List Tx}(h:∀t∈ts,lI 44 t):Qk (Bf ts) 44=ts:=by
 cases ts with
 |nil=>simp[Bf,Qk,Bz]
 |cons t ts=>
  obtain⟨h1,h2⟩:=h t (Acj ..);unfold Qk Bf;rw[h2,Acm,rZ ts t (fun x hx=>h x (Acl _ hx)) h1]
theorem eX {t:Tx}(h:Py t):lI 44 t:=by
 refine⟨h.1,fun r cur=>Ho _ _ _ _ fun b hb=>?_⟩;have:=Zt (h.2 b hb);omega
theorem nA {ts:List Tx}{b:UInt8}(h:b∈Br ts):b=44\/∃t∈ts,b∈t:=by
 unfold Br at h;rw[Acn]at h;obtain⟨t,ht,hb⟩:=h;rcases Aci.1 hb with h|h
 ·exact .inl h
 ·exact .inr ⟨t,ht,h⟩
theorem nB {ts:List Tx}{b:UInt8}(h:b∈Bf ts):b=44\/∃t∈ts,b∈t:=by
 cases ts with
 |nil=>cases h
 |cons t ts=>
  unfold Bf at h;rcases Aco.1 h with h|h
  ·exact .inr ⟨t,Acj ..,h⟩
  ·rcases nA h with h|⟨u,hu,h⟩
   ·exact .inl h
   ·exact .inr ⟨u,Acl _ hu,h⟩
theorem dX {a:Ai}(h:Ea a){b:UInt8}(hb:b∈Bf a.terms):b.toNat=44\/(48<=b.toNat/\b.toNat<=90/\b.toNat≠58):=by
 rcases nB hb with rfl|⟨t,ht,hb⟩
 ·exact .inl rfl
 ·exact .inr (Zt ((h.2.2.2 t ht).2 b hb))
theorem dH {c:Int}(hc:c=44\/c=46){a:Ai}(h:Ea a)(r cur:Tx):Bz c (Ay a++r) false cur=Bz c r false (cur++Ay a):=by
 unfold Ay;rw[Ab8,Ho a.pred _ _ _ (fun b hb=>by have:=Iy (h.1.2 b hb);omega),Ack,rY,Ab8,sB (Bf a.terms) _ _ (fun b hb=>by have:=dX h hb;omega)];rw[Ack,Acm,nX Ad6];simp
theorem Ys {c:Int}(hc:c=44\/c=46){a:Ai}(h:Ea a)(r cur:Tx):Bz c (B9 a++r) false cur=Bz c r false (cur++B9 a):=by
 unfold B9;rw[Ab8,Ho (if a.nt=true then [33]else []) _ _ _ (fun b hb=>by split at hb<;>simp at hb;subst hb;simp;omega),dH hc h];simp
theorem Za (a:Ai):Ay a≠[]:=by unfold Ay;simp
theorem tX (a:Ai):B9 a≠[]:=by unfold B9;simp[Za]
theorem nE {a:Ai}(h:Ea a):lI 44 (B9 a):=⟨tX a,fun r cur=>Ys (.inl rfl) h r cur⟩
theorem iB:∀(l:List Ai) (r cur:Tx),(∀a∈l,Ea a)->Bz 46 (Br (l.map B9)++r) false cur=Bz 46 r false (cur++Br (l.map B9)):=by
 intro l;induction l with
 |nil=>intro r cur _;simp[Br]
 |cons a l ih=>
  intro r cur h;have e:Br ((a::l).map B9)=[44]++(B9 a++Br (l.map B9)):=by simp[Br]
  rw[e,Ab8,Ho [44] _ _ _ (fun b hb=>by simp at hb;subst hb;decide),Ab8,Ys (.inr rfl) (h a (Acj ..)),ih _ _ (fun x hx=>h x (Acl _ hx))];simp
theorem sA {x:RItem}(h:Dh x)(r cur:Tx):Bz 46 (Bh x++r) false cur=Bz 46 r false (cur++Bh x):=by
 obtain⟨h1,h2,h3⟩:=h;unfold Bh;by_cases ho:x.out=true
 ·rw[if_pos ho,Ho (63::x.head.pred) _ _ _ (fun b hb=>by
   rcases Aci.1 hb with rfl|hb
   ·decide
   ·have:=Iy (h1.2 b hb);omega)]
 ·obtain⟨w1,w2,w3,w4⟩:=h3 (by simpa using ho);rw[if_neg ho];unfold C5;rw[Ab8,dH (.inr rfl) w1];cases hb:x.body with
  |nil=>simp
  |cons l ls=>
   rw[hb]at w4;rw[if_neg (by simp)];have e:(58::45::Bf ((l::ls).map B9))=[58,45]++(B9 l++Br (ls.map B9)):=by simp[Bf]
   rw[e,Ab8,Ho [58,45] _ _ _ (fun b hb=>by simp at hb;rcases hb with rfl|rfl<;>decide),Ab8,Ys (.inr rfl) (w4 l (Acj ..)),iB _ _ _ (fun x hx=>w4 x (Acl _ hx))];simp
theorem nW:∀(l:List RItem),(∀x∈l,Dh x)->Qk (Bp l) 46=l.map Bh:=by
 intro l;induction l with
 |nil=>intro _;simp[Bp,Qk,Bz]
 |cons x l ih=>
  intro h;have e:Bp (x::l)=Bh x++(46::Bp l):=by simp[Bp]
  have hi:=ih fun y hy=>h y (Acl _ hy);unfold Qk at*
  rw[e,sA (h x (Acj ..)),show (46:Int)=((46:UInt8).toNat:Int)from rfl,sC (by decide) (by decide),show ((46:UInt8).toNat:Int)=46 from rfl,hi];simp
theorem Oy {c:Int}:∀(p r:Tx),(∀b∈p,(b.toNat:Int)≠c)->Ev (p++r) c=p.length+Ev r c:=by
 intro p;induction p with
 |nil=>intro r _;simp
 |cons b p ih=>
  intro r h;have:=ih r fun x hx=>h x (Acl _ hx);unfold Ev at*
  have e:((b.toNat:Int)==c)=false:=by simpa using h b (Acj ..)
  rw[Ack,List.findIdx_cons,e];simp only[cond_false,Acf];omega
theorem Wn {c:UInt8}(r:Tx):Ev (c::r) c.toNat=0:=by unfold Ev;rw[List.findIdx_cons];simp
theorem rT {c:Int}:Ev [] c=0:=rfl
theorem Jr {p:Tx}(h:J3 p):∃b q,p=b::q/\97<=b.toNat/\b.toNat<=122:=by
 obtain⟨h1,h2⟩:=h;cases p with
 |nil=>exact absurd rfl h1
 |cons b q=>exact⟨b,q,rfl,Iy (h2 b (Acj ..))⟩
theorem sO {a:Ai}(h:Ea a):sP a.nt (Ay a)=a:=by
 have hf:Ev (Ay a) 40=a.pred.length:=by
  unfold Ay;rw[Oy a.pred _ (fun b hb=>by have:=Iy (h.1.2 b hb);omega),show (40:Int)=((40:UInt8).toNat:Int)from rfl,Wn];rfl
 have hl:(Ay a).length=a.pred.length+1+(Bf a.terms).length+1:=by unfold Ay;simp;omega
 unfold sP;rw[hf,if_pos Ad6];have e1:((Ay a).drop 0).take (a.pred.length-0)=a.pred:=by unfold Ay;simp
 have e2:((Ay a).drop (a.pred.length+1)).take ((Ay a).length-1-(a.pred.length+1))=Bf a.terms:=by
  rw[hl];unfold Ay;rw[show a.pred++40::(Bf a.terms++[41])=(a.pred++[40])++(Bf a.terms++[41])by simp];rw[Acp (by simp),List.drop_of_length_le (by simp),Acm];rw[show a.pred.length+1+(Bf a.terms).length+1-1-(a.pred.length+1)=(Bf a.terms).length by omega];simp
 rw[e1,e2,dG (fun t ht=>eX (h.2.2.2 t ht))]
theorem T0 {a:Ai}(h:Ea a):dT (B9 a)=a:=by
 obtain⟨b,q,hp,h1,h2⟩:=Jr h.1;have e:=sO h;unfold dT B9;cases hn:a.nt with
 |true=>
  have e1:dO ((if true=true then [33]else [])++Ay a)=true:=rfl;have e2:Q6 ((if true=true then [33]else [])++Ay a)=Ay a:=by
   unfold Q6;rw[if_pos e1];simp
  rw[e1,e2,<-hn,e]
 |false=>
  have e1:dO ((if false=true then [33]else [])++Ay a)=false:=by
   unfold Ay;rw[hp];simp[dO];omega
  have e2:Q6 ((if false=true then [33]else [])++Ay a)=Ay a:=by
   unfold Q6;rw[if_neg (by rw[e1];simp)];simp
  rw[e1,e2,<-hn,e]
theorem Q7 {a:Ai}(h:a.nt=false):B9 a=Ay a:=by unfold B9;simp[h]
theorem Aam {a:Ai}(h:Ea a):∀b∈Ay a,(b.toNat:Int)≠58:=by
 intro b hb;unfold Ay at hb;rcases Aco.1 hb with hb|hb
 ·have:=Iy (h.1.2 b hb);omega
 ·rcases Aci.1 hb with rfl|hb
  ·decide
  ·rcases Aco.1 hb with hb|hb
   ·have:=dX h hb;omega
   ·simp at hb;subst hb;decide
theorem Nk {x:RItem}(h:Dh x):cP (Bh x)=x/\Bh x≠[]/\(Og (Bh x)=false->Ev (Bh x) 58<(Bh x).length->Ev (Bh x) 58+2<=(Bh x).length):=by
 obtain⟨h1,h2,h3⟩:=h;obtain⟨b,q,hp,k1,k2⟩:=Jr h1;unfold Bh;by_cases ho:x.out=true
 ·rw[if_pos ho];obtain⟨w1,w2,w3⟩:=h2 ho;have hq:Og (63::x.head.pred)=true:=rfl;refine⟨?_,by simp,fun h=>by rw[hq]at h;cases h⟩;unfold cP;rw[if_pos hq];unfold Aai;obtain⟨xo,⟨n,p,t⟩,bd⟩:=x;simp at*
  simp[*]
 ·rw[if_neg ho];obtain⟨w1,w2,w3,w4⟩:=h3 (by simpa using ho);have hq:Og (C5 x)=false:=by unfold C5 Ay;rw[hp];simp[Og];omega
  cases hb:x.body with
  |nil=>
   have e:C5 x=Ay x.head:=by unfold C5;rw[if_pos hb];simp
   have hf:Ev (C5 x) 58=(C5 x).length:=by
    have:=Oy (Ay x.head) [] (Aam w1);rw[Abz,rT]at this;rw[e];omega
   refine⟨?_,by rw[e];exact Za _,fun _ h=>Ad6⟩;unfold cP;rw[if_neg (by simp[hq])];unfold qG;rw[hf,if_neg Ad6];have e2:((C5 x).drop 0).take ((C5 x).length-0)=B9 x.head:=by rw[e,Q7 w2];simp
   rw[e2,T0 w1];obtain⟨xo,hd,bd⟩:=x;simp at*
   simp[*]
  |cons l ls=>
   have e:C5 x=Ay x.head++(58::45::Bf (x.body.map B9)):=by unfold C5;rw[if_neg (by rw[hb];simp)]
   have hf:Ev (C5 x) 58=(Ay x.head).length:=by
    have:=Oy (Ay x.head) (58::45::Bf (x.body.map B9)) (Aam w1);rw[e,this,show (58:Int)=((58:UInt8).toNat:Int)from rfl,Wn];rfl
   have hl:(C5 x).length=(Ay x.head).length+2+(Bf (x.body.map B9)).length:=by rw[e];simp;omega
   refine⟨?_,by rw[e];simp,fun _ _=>Ad6⟩;unfold cP;rw[if_neg (by simp[hq])];unfold qG;rw[hf,if_pos Ad6];have e2:((C5 x).drop 0).take ((Ay x.head).length-0)=B9 x.head:=by rw[e,Q7 w2];simp
   have e3:((C5 x).drop ((Ay x.head).length+2)).take ((C5 x).length-((Ay x.head).length+2))=Bf (x.body.map B9):=by
    rw[hl,e,show Ay x.head++(58::45::Bf (x.body.map B9))=(Ay x.head++[58,45])++Bf (x.body.map B9)by simp];rw[Acp (by simp),List.drop_of_length_le (by simp),Acm];exact Acr Ad6
   rw[e2,e3,T0 w1,dG (fun t ht=>by
    rw[Acs]at ht;obtain⟨a,ha,rfl⟩:=ht
    exact nE (w4 a ha))]
   have e4:(x.body.map B9).map dT=x.body:=by
    rw[Aby]
    conv=>rhs;rw[<-List.map_id x.body]
    exact Acu fun a ha=>T0 (w4 a ha)
   rw[e4];obtain⟨xo,hd,bd⟩:=x;simp at*
   simp[*]
theorem Hv {s:Tx}{l:List RItem}{r:Tx}(hs:s.length<=1000)(h:Bj 16 s= .got l r):rM s/\C2 s=l/\l.length<=16/\∀x∈l,Dh x:=by
 obtain⟨h1,h2,h3,h4⟩:=Ii _ _ _ _ h;have hc:=nW l h4;refine⟨⟨?_,?_⟩,?_,h3,h4⟩
 ·rw[h1,hc];simpa using h3
 ·intro t ht;have hl:=iC ht;rw[h1,hc,Acs]at ht;obtain⟨x,hx,rfl⟩:=ht;obtain⟨g1,g2,g3⟩:=Nk (h4 x hx);exact⟨Ad6,g2,g3⟩
 ·unfold C2;rw[h1,hc,Aby]
  conv=>rhs;rw[<-List.map_id l]
  exact Acu fun x hx=>(Nk (h4 x hx)).1
inductive Way {α:Type}(E:α->α->Prop):α->α->Prop
 |one {a b:α}:E a b->Way E a b
 |more {a b c:α}:E a b->Way E b c->Way E a c
theorem Way.join {α:Type}{E:α->α->Prop}{a b c:α}(h:Way E a b)(k:Way E b c):Way E a c:=by
 induction h with
 |one e=>exact .more e k
 |more e _ ih=>exact .more e (ih k)
def oM (n:Nat)(M:Nat->Nat->Bool):Prop:=∀a b,M a b=true->a<n/\b<n
theorem rP {n:Nat}{M:Nat->Nat->Bool}(hM:oM n M):∀(m:Nat),m<=n->oM n (E5 n M m)/\(∀a b,M a b=true->E5 n M m a b=true)/\(∀a b,E5 n M m a b=true->Way (fun a b=>M a b=true) a b)/\
  (∀a b c,b<m->E5 n M m a b=true->E5 n M m b c=true->E5 n M m a c=true):=by
 intro m;induction m with
 |zero=>intro _;exact⟨hM,fun _ _ h=>h,fun _ _ h=>.one h,fun _ _ _ h=>Ad6⟩
 |succ m ih=>
  intro hm;obtain⟨h1,h2,h3,h4⟩:=ih Ad6;have e:∀a b,E5 n M (m+1) a b=true↔E5 n M m a b=true\/(E5 n M m a m=true/\E5 n M m m b=true):=by
   intro a b;show fwN n (E5 n M m) m a b=true↔_;unfold fwN fw;split
   ·simp
   ·rename_i hn;constructor
    ·exact .inl
    ·rintro (h|⟨ha,hb⟩)
     ·exact h
     ·exact absurd ⟨(h1 _ _ ha).1,(h1 _ _ hb).2⟩ hn
  refine⟨?_,?_,?_,?_⟩
  ·intro a b h;rcases (e a b).1 h with h|⟨ha,hb⟩
   ·exact h1 _ _ h
   ·exact⟨(h1 _ _ ha).1,(h1 _ _ hb).2⟩
  ·intro a b h;exact (e a b).2 (.inl (h2 _ _ h))
  ·intro a b h;rcases (e a b).1 h with h|⟨ha,hb⟩
   ·exact h3 _ _ h
   ·exact (h3 _ _ ha).join (h3 _ _ hb)
  ·intro a b c hb ab aa;rw[e]at ab aa⊢;by_cases ad:b=m
   ·subst ad;have g1:E5 n M b a b=true:=by rcases ab with h|⟨h,_⟩<;>exact h
    have g2:E5 n M b b c=true:=by rcases aa with h|⟨_,h⟩<;>exact h
    exact .inr ⟨g1,g2⟩
   ·have ac:b<m:=Ad6;rcases ab with ab|⟨ha,af⟩<;>rcases aa with aa|⟨ae,hc⟩
    ·exact .inl (h4 _ _ _ ac ab aa)
    ·exact .inr ⟨h4 _ _ _ ac ab ae,hc⟩
    ·exact .inr ⟨ha,h4 _ _ _ ac af aa⟩
    ·exact .inr ⟨ha,hc⟩
theorem Qu {n:Nat}{M:Nat->Nat->Bool}(hM:oM n M)(a b:Nat):E5 n M n a b=true↔Way (fun a b=>M a b=true) a b:=by
 obtain⟨h1,h2,h3,h4⟩:=rP hM n (Abf _);refine⟨h3 a b,fun h=>?_⟩;induction h with
 |one e=>exact h2 _ _ e
 |more e _ ih=>exact h4 _ _ _ (hM _ _ e).2 (h2 _ _ e) ih
theorem Mn (l:List RItem)(i k:Nat):tU l i k=true↔Way (fun a b=>Qj l a b=true) i k:=by
 have he:∀a b,Qj l a b=true->a<l.length/\b<l.length:=by
  intro a b h;unfold Qj at h;split at h
  ·rename_i x y hx hy;exact⟨(List.getElem?_eq_some_iff.1 hx).1,(List.getElem?_eq_some_iff.1 hy).1⟩
  ·cases h
 have e:(fun a b=>if a<l.length/\b<l.length then Qj l a b else false)=Qj l:=by
  funext a b;split
  ·rfl
  ·rename_i hn;cases hq:Qj l a b with
   |false=>rfl
   |true=>exact absurd (he a b hq) hn
 unfold tU;rw[e];exact Qu he i k
def Er (l:List RItem)(p q:Tx):Prop:=∃x∈l,x.head.pred=p/\∃a∈x.body,a.pred=q
theorem edge_iff {l:List RItem}{i k:Nat}:Qj l i k=true↔∃x y,l[i]?=some x/\l[k]?=some y/\y.out=false/\∃a∈x.body,a.pred=y.head.pred:=by
 unfold Qj;constructor
 ·intro h;split at h
  ·rename_i x y hx hy;refine⟨x,y,hx,hy,?_⟩;simp at h;exact h
  ·cases h
 ·rintro⟨x,y,hx,hy,h1,a,ha,h2⟩;rw[hx,hy];simp only[h1,Bool.not_false,Acv];exact Acg.2 ⟨a,ha,by simp[h2]⟩
theorem N6 {l:List RItem}{i k:Nat}(h:Way (fun a b=>Qj l a b=true) i k):∃x y,l[i]?=some x/\l[k]?=some y/\y.out=false/\Way (Er l) x.head.pred y.head.pred:=by
 induction h with
 |one e=>
  obtain⟨x,y,hx,hy,h1,a,ha,h2⟩:=edge_iff.1 e;exact⟨x,y,hx,hy,h1,.one ⟨x,Abm hx,rfl,a,ha,h2⟩⟩
 |more e _ ih=>
  obtain⟨x,y,hx,hy,h1,a,ha,h2⟩:=edge_iff.1 e;obtain⟨x',z,aa,hz,h3,h4⟩:=ih;rw[hy]at aa;cases aa;exact⟨x,z,hx,hz,h3,.more ⟨x,Abm hx,rfl,a,ha,h2⟩ h4⟩
theorem N7 {l:List RItem}(ho:∀x∈l,x.out=true->x.body=[]){p q:Tx}(h:Way (Er l) p q):∀(k:Nat) (y:RItem),l[k]?=some y->y.out=false->y.head.pred=q->∃(i:Nat) (x:RItem),l[i]?=some x/\x.head.pred=p/\Way (fun a b=>Qj l a b=true) i k:=by
 induction h with
 |one e=>
  intro k y hk hy hq;obtain⟨x,hx,h1,a,ha,h2⟩:=e;obtain⟨i,hi⟩:=List.getElem?_of_mem hx;exact⟨i,x,hi,h1,.one (edge_iff.2 ⟨x,y,hi,hk,hy,a,ha,by rw[h2,hq]⟩)⟩
 |more e _ ih=>
  intro k y hk hy hq;obtain⟨x,hx,h1,a,ha,h2⟩:=e;obtain⟨i,hi⟩:=List.getElem?_of_mem hx;obtain⟨j,z,hj,h3,h4⟩:=ih k y hk hy hq;have hz:z.out=false:=by
   have ab:z.body≠[]:=by
    cases h4 with
    |one e=>
     obtain⟨z',_,aa,_,_,a,ha,_⟩:=edge_iff.1 e;rw[hj]at aa;cases aa;intro hn;rw[hn]at ha;cases ha
    |more e _=>
     obtain⟨z',_,aa,_,_,a,ha,_⟩:=edge_iff.1 e;rw[hj]at aa;cases aa;intro hn;rw[hn]at ha;cases ha
   cases hb:z.out with
   |false=>rfl
   |true=>exact absurd (ho z (Abm hj) hb) ab
  exact⟨i,x,hi,h1,.more (edge_iff.2 ⟨x,z,hi,hj,hz,a,ha,by rw[h2,h3]⟩) h4⟩
theorem U0 {l:List RItem}(ho:∀x∈l,x.out=true->x.body=[]){p q:Tx}(hq:∃y∈l,y.out=false/\y.head.pred=q):jC l p q=true↔Way (Er l) p q:=by
 unfold jC;constructor
 ·intro h;rw[Acg]at h;obtain⟨i,-,h⟩:=h;rw[Acg]at h;obtain⟨k,-,h⟩:=h;unfold yV at h;simp only[Abo,Ad4]at h;obtain⟨⟨h1,h2⟩,h3⟩:=h;obtain⟨x,y,hx,hy,_,hw⟩:=N6 ((Mn l i k).1 h1);unfold Yk at h2 h3;rw[hx]at h2;rw[hy]at h3;rw[<-h2,<-h3];exact hw
 ·intro h;obtain⟨y,hy,h1,h2⟩:=hq;obtain⟨k,hk⟩:=List.getElem?_of_mem hy;obtain⟨i,x,hi,h3,h4⟩:=N7 ho h k y hk h1 h2;rw[Acg];refine⟨i,by simpa using (List.getElem?_eq_some_iff.1 hi).1,?_⟩;rw[Acg];refine⟨k,by simpa using (List.getElem?_eq_some_iff.1 hk).1,?_⟩;unfold yV Yk;rw[(Mn l i k).2 h4,hi,hk];simp[h2,h3]
theorem Nl (c:Int)(I:St):ACalls Tryz.prog 214 [sc (.int .u8 c)] I fun x I'=>x=sc (.bool (Be c))/\I'=I:=by
 refine Z9 9 [.tmp 2] Tryz.func214 ?_
 repeat' (first|refine Z1 ?_|(refine Z8 ?_;intro κ hκ)|(refine Z4 ?_;clear hκ κ)|(refine Z2 ?_ ?_<;>intro h aa<;>try exact Xp)|refine Z3 ?_|exact⟨⟩|(apply hκ.out;clear hκ κ))
 all_goals exact⟨_,rfl,by simp[Be, *]⟩
theorem Fz (c:Int)(I:St):ACalls Tryz.prog 248 [sc (.int .u8 c)] I fun x I'=>x=sc (.bool (Bl c))/\I'=I:=by
 refine Z9 9 [.tmp 2] Tryz.func248 ?_
 repeat' (first|refine Z1 ?_|(refine Z8 ?_;intro κ hκ)|(refine Z4 ?_;clear hκ κ)|(refine Z2 ?_ ?_<;>intro h aa<;>try exact Xp)|refine Z3 ?_|exact⟨⟩|(apply hκ.out;clear hκ κ))
 all_goals exact⟨_,rfl,by simp[Bl, *]⟩
theorem Fy (c:Int)(I:St):ACalls Tryz.prog 249 [sc (.int .u8 c)] I fun x I'=>x=sc (.bool (A0 c))/\I'=I:=by
 refine Z9 9 [.tmp 2] Tryz.func249 ?_
 repeat' (first|refine Z1 ?_|(refine Z8 ?_;intro κ hκ)|(refine Z4 ?_;clear hκ κ)|(refine Z2 ?_ ?_<;>intro h aa<;>try exact Xp)|refine Z3 ?_|exact⟨⟩|(apply hκ.out;clear hκ κ))
 all_goals exact⟨_,rfl,by simp[A0, *]⟩
def P6 (t:Tx)(k:Nat)(nm:AV):List AV:=[str t,sc (.int .i64 k),nm]
def takeB (t:Tx)(k:Nat)(c:Int):Bool:=match t[k]? with|some b=>(b.toNat:Int)==c|none=>false
def takeN (t:Tx)(k:Nat)(c:Int):Nat:=if takeB t k c=true then k+1 else k
theorem mC (t:Tx)(k o:Nat)(nm:AV)(c:Int)(ht:t.length<=1000)(hk:k<=t.length)(I:St)(ho:I.obj o=P6 t k nm)(hn:o<I.nobj):ACalls Tryz.prog 132 [ptr o 0,sc (.int .u8 c)] I fun x I'=>x=sc (.bool (takeB t k c))/\KeepX o I I'/\I'.obj o=P6 t (takeN t k c) nm:=by
 unfold P6 at*
 refine Z9 35 [.tmp 4] Tryz.func132 ?_
 repeat' (first|refine Z1 ?_|(refine Z8 ?_;intro κ hκ)|(refine Z4 ?_;clear hκ κ)|(refine Z2 ?_ ?_<;>intro h aa<;>try exact Xp)|refine Z3 ?_|exact⟨⟩|(apply hκ.out;clear hκ κ))
 refine A1 Ah (fun _=>True) [22] [0,1,2,3,4,5,6,7,8,9,10,11,12,13,14,15,16,17,18,19,20,21] [22] Ad9 (fun _ _ _ h=>h) ?_;intro κ hκ;by_cases ab:k<t.length
 ·have hg:=List.getElem?_eq_getElem ab;generalize t[k]=b at hg;refine Z3 ?_
  repeat' (first|refine Z1 ?_|(refine Z8 ?_;intro κ hκ)|(refine Z4 ?_;clear hκ κ)|(refine Z2 ?_ ?_<;>intro h aa<;>try exact Xp)|refine Z3 ?_|exact⟨⟩|(apply hκ.out;clear hκ κ))
  ·have hB:takeB t k c=false:=by simp[takeB,hg];simpa using h
   exact⟨_,rfl,by rw[hB],KeepX.refl _ _,by simp[takeN,hB]⟩
  ·have hB:takeB t k c=true:=by simp[takeB,hg];simpa using h
   exact⟨_,rfl,by rw[hB],(KeepX.refl _ _).put _,by simp[takeN,hB]⟩
 ·have hg:t[k]?=none:=by simp;omega
  refine Z3 ?_
  repeat' (first|refine Z1 ?_|(refine Z8 ?_;intro κ hκ)|(refine Z4 ?_;clear hκ κ)|(refine Z2 ?_ ?_<;>intro h aa<;>try exact Xp)|refine Z3 ?_|exact⟨⟩|(apply hκ.out;clear hκ κ))
  have hB:takeB t k c=false:=by simp[takeB,hg]
  exact⟨_,rfl,by rw[hB],KeepX.refl _ _,by simp[takeN,hB]⟩
def J6 (t s:Tx)(nm:AV):List AV:=P6 t (t.length-s.length) nm
theorem Mt {t s:Tx}(h:s<:+t):t[t.length-s.length]?=s.head?:=by
 obtain⟨p,rfl⟩:=h;rw[Ab6,Nat.add_sub_cancel,List.getElem?_append_right (Abf _),Nat.sub_self];cases s<;>rfl
theorem Oc {t s:Tx}{b:UInt8}(h:(b::s)<:+t):s<:+t:=(List.suffix_cons b s).trans h
theorem Gp {t s:Tx}(h:s<:+t):s.length<=t.length:=h.length_le
theorem Ob (t s:Tx)(o:Nat)(nm:AV)(c:Int)(ht:t.length<=1000)(hs:s<:+t)(I:St)(ho:I.obj o=J6 t s nm)(hn:o<I.nobj):
  ACalls Tryz.prog 132 [ptr o 0,sc (.int .u8 c)] I fun x I'=>KeepX o I I'/\match Aw c s with
   |.got _ r=>x=sc (.bool true)/\I'.obj o=J6 t r nm/\r<:+t
   |.bad e=>x=sc (.bool false)/\I'.obj o=J6 t s nm/\e=s:=by
 have hl:=Gp hs;refine ACalls.mono (mC t _ o nm c ht Ad6 I ho hn) ?_;rintro x I' ⟨rfl,hK,hO⟩;refine⟨hK,?_⟩;have hg:=Mt hs;cases s with
 |nil=>
  have hB:takeB t (t.length-([]:Tx).length) c=false:=by unfold takeB;rw[hg];rfl
  refine⟨by rw[hB],?_,rfl⟩;rw[hO,takeN,hB];rfl
 |cons b r=>
  have hB:takeB t (t.length-(b::r).length) c=((b.toNat:Int)==c):=by unfold takeB;rw[hg];rfl
  unfold Aw;by_cases hb:((b.toNat:Int)==c)=true
  ·rw[hb]at hB;simp only[hb,if_true];refine⟨by rw[hB],?_,Oc hs⟩;rw[hO,takeN,hB,J6];simp only[if_true,Acf]at*
   rw[show t.length-(r.length+1)+1=t.length-r.length by omega]
  ·have aa:((b.toNat:Int)==c)=false:=by simpa using hb
   rw[aa]at hB;simp only[aa,Acb,if_false];refine⟨by rw[hB],?_,trivial⟩;rw[hO,takeN,hB];rfl
def F8 (ds:Tx):Int:=ds.foldl (fun v b=>v*10+((b.toNat:Int)-48)) 0
theorem K9 (ds:Tx)(b:UInt8):F8 (ds++[b])=F8 ds*10+((b.toNat:Int)-48):=by simp[F8]
def rX (s ds q:Tx):Prop:=ds.length<=3/\As A0 3 s=(ds++(As A0 (3-ds.length) q).1,(As A0 (3-ds.length) q).2)/\0<=F8 ds/\(ds.length=0->F8 ds=0)/\(ds.length=1->F8 ds<=9)/\(ds.length=2->F8 ds<=99)
theorem rW (s:Tx):rX s [] s:=⟨by simp,by simp,by simp[F8],by simp[F8],by simp,by simp⟩
theorem nV {s ds q:Tx}{b:UInt8}(h:rX s ds (b::q))(hl:ds.length<3)(hb:A0 b.toNat=true):rX s (ds++[b]) q:=by
 obtain⟨h1,h2,h3,h4,h5,h6⟩:=h;have hr:48<=b.toNat/\b.toNat<=57:=by simp[A0]at hb;omega
 have e:3-ds.length=(3-(ds++[b]).length)+1:=by simp;omega
 rw[e,As,if_pos hb]at h2;refine⟨by simp;omega,by rw[h2];simp,?_,by simp,?_,?_⟩
 ·rw[K9];omega
 ·intro hh;rw[K9];have:=h4 (by simp at hh;simp[hh]);omega
 ·intro hh;rw[K9];have:=h5 (by simp at hh;omega);omega
theorem Tf {s ds q:Tx}(h:rX s ds q)(he:ds.length=3\/q=[]\/∃b r,q=b::r/\A0 b.toNat=false):As A0 3 s=(ds,q):=by
 obtain⟨h1,h2,-⟩:=h;rw[h2];rcases he with he|rfl|⟨b,r,rfl,hb⟩
 ·rw[he];simp[As]
 ·cases hn:3-ds.length<;>simp[As]
 ·cases hn:3-ds.length<;>simp[As,hb]
theorem P5 (t s:Tx)(o:Nat)(nm:AV)(ht:t.length<=1000)(hs:s<:+t)(I:St)(ho:I.obj o=J6 t s nm)(hn:o<I.nobj)(an:∀b r,s=b::r->((b.toNat:Int)==48)=false):
  ACalls Tryz.prog 250 [ptr o 0] I fun x I'=>KeepX o I I'/\∃q,I'.obj o=J6 t q nm/\q<:+t/\q=(As A0 3 s).2/\x=sc (.int .i64 (F8 (As A0 3 s).1)):=by
 have hp:Aw 48 s= .bad s:=by
  cases s with
  |nil=>rfl
  |cons b r=>unfold Aw;simp only[an b r rfl];simp
 have hT:=Ob t s o nm 48 ht hs I ho hn;rw[hp]at hT;refine Z9 57 [.tmp 2] Tryz.func250 ?_
 repeat' (first|refine Z1 ?_|(refine Z8 ?_;intro κ hκ)|(refine Z4 ?_;clear hκ κ)|(refine Z2 ?_ ?_<;>intro h aa<;>try exact Xp)|(refine Z5 ?_;refine Xi (hT) ?_;rintro _ _ ⟨ab,rfl,ai,-⟩)|refine Z3 ?_|exact⟨⟩|(apply hκ.out;clear hκ κ))
 rename_i I1;have ae:o<I1.nobj:=Abh hn ab.nobj;clear hT hp ho
 refine Ad (fun m s' I'=>∃(q ds:Tx),m=3-ds.length/\s' 0=ptr o 0/\s' 3=sc (.int .i64 (F8 ds))/\s' 4=sc (.int .i64 ds.length)/\KeepX o I I'/\I'.obj o=J6 t q nm/\o<I'.nobj/\q<:+t/\Aec (rX s ds q)) 3
  ⟨s,[],rfl,rfl,rfl,rfl,ab,ai,ae,hs,rW s⟩ ?_
 rintro m s' I' ⟨q,ds,rfl,h0,h3,h4,hK,hO,ap,hq,hD⟩;clear ab ai ae;have ac:=Gp hq;have ad:=Mt hq;have am:=hD.out;obtain⟨d1,-,d3,d4,d5,d6⟩:=am;unfold J6 P6 at hO
 repeat' (first|refine Z1 ?_|(refine Z8 ?_;intro κ hκ)|(refine Z4 ?_;clear hκ κ)|(refine Z2 ?_ ?_<;>intro h aa<;>try exact Xp)|refine Z3 ?_|exact⟨⟩|(apply hκ.out;clear hκ κ))
 refine A1 Ah (fun _=>True) [25] [0,1,2,3,4,5,6,7,8,9,10,11,12,13,14,15,16,17,18,19,20,21,22,23] [24,25] Ad9 (fun _ _ _ h=>h) ?_;intro κ hκ;cases q with
 |nil=>
  simp only[Ace,Acw]at hO ad ac;refine Z3 ?_
  repeat' (first|refine Z1 ?_|(refine Z8 ?_;intro κ hκ)|(refine Z4 ?_;clear hκ κ)|(refine Z2 ?_ ?_<;>intro h aa<;>try exact Xp)|(refine Z5 ?_;refine Xi (Fy _ _) ?_;rintro _ _ ⟨rfl,rfl⟩)|refine Z3 ?_|exact⟨⟩|(apply hκ.out;clear hκ κ))
  all_goals
   have he:=Tf hD.out (.inr (.inl rfl));exact⟨_,rfl,[],by simp[J6,P6],hq,by rw[he],by rw[he]⟩
 |cons b r=>
  simp only[Acf,List.head?_cons]at hO ad ac;have aj:=Oc hq;refine Z3 ?_;have af:A0 b.toNat=true->48<=(b.toNat:Int)/\(b.toNat:Int)<=57:=fun h=>by simp[A0]at h;omega
  repeat' (first|refine Z1 ?_|(refine Z8 ?_;intro κ hκ)|(refine Z4 ?_;clear hκ κ)|(refine Z2 ?_ ?_<;>intro h aa<;>try exact Xp)|(refine Z5 ?_;refine Xi (Fy _ _) ?_;rintro _ _ ⟨rfl,rfl⟩)|refine Z3 ?_|exact⟨⟩|(apply hκ.out;clear hκ κ))
  all_goals
   first
   |(have he:=Tf hD.out (.inr (.inr ⟨b,r,rfl,by assumption⟩))
     exact⟨_,rfl,b::r,by simp[J6,P6],hq,by rw[he],by rw[he]⟩)
   |(have he:=Tf hD.out (.inl Ad6)
     exact⟨_,rfl,b::r,by simp[J6,P6],hq,by rw[he],by rw[he]⟩)
   |skip
  have ah:A0 b.toNat=true:=by assumption
  have af:=af ah;have ak:ds.length<3:=Ad6;have ao:F8 ds<=99:=by
   have:ds.length=0\/ds.length=1\/ds.length=2:=Ad6;rcases this with h|h|h
   ·have:=d4 h;omega
   ·have:=d5 h;omega
   ·exact d6 h
  clear d4 d5 d6;refine A1 Ah (fun _=>True) [14] [0,1,2,3,4,5,6,7,8,9,10,11,12,13] [14] Ad9 (fun _ _ _ h=>h) ?_;intro κ hκ;refine Z3 ?_
  repeat' (first|refine Z1 ?_|(refine Z8 ?_;intro κ hκ)|(refine Z4 ?_;clear hκ κ)|(refine Z2 ?_ ?_<;>intro h aa<;>try exact Xp)|refine Z3 ?_|exact⟨⟩|(apply hκ.out;clear hκ κ))
  have hw:IntKind.i64.wrap (F8 ds*10+IntKind.i64.wrap (IntKind.u8.wrap ((b.toNat:Int)-48)))=F8 (ds++[b]):=by
   rw[Abs.u8w Ad6 Ad6,show IntKind.i64.wrap ((b.toNat:Int)-48)=(b.toNat:Int)-48 from Abs.i64w Ad6 Ad6,Abs.i64w Ad6 Ad6,K9]
  rw[hw];refine⟨3-(ds++[b]).length,by simp;omega,r,ds++[b],rfl,rfl,by simp,hK.put _,?_,aj,nV hD.out ak ah⟩;unfold J6 P6;rw[show ((t.length-(r.length+1):Nat):Int)+1=((t.length-r.length:Nat):Int)by omega]
end Go.Proofs.YtmoeoppbmhfbpabGreatDoorJ
