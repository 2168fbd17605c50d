import Derived.Test.YtmoeoppbmhfbpabGreatDoorLRefA
set_option maxHeartbeats 16000000
set_option maxRecDepth 100000
set_option linter.all false
namespace Go.Proofs.YtmoeoppbmhfbpabGreatDoorL
open Go.Abs
theorem Jz {b:UInt8}(h:Bq b.toNat=true):97<=b.toNat/\b.toNat<=122:=by simp[Bq]at h;omega
theorem eG {b:UInt8}(h:Bm b.toNat=true\/A0 b.toNat=true):48<=b.toNat/\b.toNat<=90/\b.toNat≠58:=by
 simp[Bm,A0]at h;omega
theorem Im {c:Int}:∀(p r:Tx) (d:Bool) (cur:Tx),(∀b∈p,b.toNat≠40/\b.toNat≠41/\(b.toNat:Int)≠c)->Cd c (p++r) d cur=Cd c r d (cur++p):=by
 intro p;induction p with
 |nil=>intro r d cur _;simp
 |cons b p ih=>
  intro r d cur h;obtain⟨h1,h2,h3⟩:=h b (Ahn ..);rw[Aho,Cd];have e1:((b.toNat:Int)==40)=false:=by simp;omega
  have e2:((b.toNat:Int)==41)=false:=by simp;omega
  have e3:((b.toNat:Int)==c)=false:=by simp;omega
  simp only[e1,e2,e3,Ahg,if_false,false_and];rw[ih r d (cur++[b]) (fun x hx=>h x (Ahp _ hx))];simp
theorem zC {c:Int}:∀(p r:Tx) (cur:Tx),(∀b∈p,b.toNat≠41)->Cd c (p++r) true cur=Cd c r true (cur++p):=by
 intro p;induction p with
 |nil=>intro r cur _;simp
 |cons b p ih=>
  intro r cur h;have h2:=h b (Ahn ..);rw[Aho,Cd];have e2:((b.toNat:Int)==41)=false:=by simp;omega
  simp only[e2,Ahg,if_false,ite_self,reduceCtorEq,and_false];rw[ih r (cur++[b]) (fun x hx=>h x (Ahp _ hx))];simp
theorem yZ {c:Int}(r:Tx)(d:Bool)(cur:Tx):Cd c (40::r) d cur=Cd c r true (cur++[40]):=by
 rw[Cd];simp
theorem tI {c:Int}(hc:c≠41)(r:Tx)(d:Bool)(cur:Tx):Cd c (41::r) d cur=Cd c r false (cur++[41]):=by
 rw[Cd];simp;intro h;exact absurd h.symm hc
theorem zD {c:UInt8}(h1:c.toNat≠40)(h2:c.toNat≠41)(r cur:Tx):Cd c.toNat (c::r) false cur=cur::Cd c.toNat r false []:=by
 rw[Cd];have e1:((c.toNat:Int)==40)=false:=by simp;omega
 have e2:((c.toNat:Int)==41)=false:=by simp;omega
 simp[e1,e2]
def qO (c:Int)(t:Tx):Prop:=t≠[]/\∀r cur,Cd c (t++r) false cur=Cd c r false (cur++t)
theorem zA:∀(ts:List Tx) (cur:Tx),(∀t∈ts,qO 44 t)->cur≠[]->Cd 44 (B6 ts) false cur=cur::ts:=by
 intro ts;induction ts with
 |nil=>intro cur _ hc;simp[B6,Cd,hc]
 |cons t ts ih=>
  intro cur h hc;obtain⟨h1,h2⟩:=h t (Ahn ..);have e:B6 (t::ts)=44::(t++B6 ts):=by simp[B6]
  rw[e,show (44:Int)=((44:UInt8).toNat:Int)from rfl,zD (by decide) (by decide),show ((44:UInt8).toNat:Int)=44 from rfl,h2,Ahq,ih t (fun x hx=>h x (Ahp _ hx)) h1]
theorem iY {ts:List Tx}(h:∀t∈ts,qO 44 t):Sq (Bl ts) 44=ts:=by
 cases ts with
 |nil=>simp[Bl,Sq,Cd]
 |cons t ts=>
  obtain⟨h1,h2⟩:=h t (Ahn ..);unfold Sq Bl;rw[h2,Ahq,zA ts t (fun x hx=>h x (Ahp _ hx)) h1]
theorem kW {t:Tx}(h:Nt t):qO 44 t:=by
 refine⟨h.1,fun r cur=>Im _ _ _ _ fun b hb=>?_⟩;have:=eG (h.2 b hb);omega
theorem sN {ts:List Tx}{b:UInt8}(h:b∈B6 ts):b=44\/∃t∈ts,b∈t:=by
 unfold B6 at h;rw[Ahr]at h;obtain⟨t,ht,hb⟩:=h;rcases Ahm.1 hb with h|h
 ·exact .inl h
 ·exact .inr ⟨t,ht,h⟩
theorem sO {ts:List Tx}{b:UInt8}(h:b∈Bl ts):b=44\/∃t∈ts,b∈t:=by
 cases ts with
 |nil=>cases h
 |cons t ts=>
  unfold Bl at h;rcases Ahs.1 h with h|h
  ·exact .inr ⟨t,Ahn ..,h⟩
  ·rcases sN h with h|⟨u,hu,h⟩
   ·exact .inl h
   ·exact .inr ⟨u,Ahp _ hu,h⟩
theorem jO {a:RAtom}(h:D2 a){b:UInt8}(hb:b∈Bl a.terms):b.toNat=44\/(48<=b.toNat/\b.toNat<=90/\b.toNat≠58):=by
 rcases sO hb with rfl|⟨t,ht,hb⟩
 ·exact .inl rfl
 ·exact .inr (eG ((h.2.2.2 t ht).2 b hb))
theorem iZ {c:Int}(hc:c=44\/c=46){a:RAtom}(h:D2 a)(r cur:Tx):Cd c (A7 a++r) false cur=Cd c r false (cur++A7 a):=by
 unfold A7;rw[Ahc,Im a.pred _ _ _ (fun b hb=>by have:=Jz (h.1.2 b hb);omega),Aho,yZ,Ahc,zC (Bl a.terms) _ _ (fun b hb=>by have:=jO h hb;omega)];rw[Aho,Ahq,tI Ajm];simp
theorem cN {c:Int}(hc:c=44\/c=46){a:RAtom}(h:D2 a)(r cur:Tx):Cd c (B9 a++r) false cur=Cd c r false (cur++B9 a):=by
 unfold B9;rw[Ahc,Im (if a.nt=true then [33]else []) _ _ _ (fun b hb=>by split at hb<;>simp at hb;subst hb;simp;omega),iZ hc h];simp
theorem dJ (a:RAtom):A7 a≠[]:=by unfold A7;simp
theorem Aa2 (a:RAtom):B9 a≠[]:=by unfold B9;simp[dJ]
theorem sQ {a:RAtom}(h:D2 a):qO 44 (B9 a):=⟨Aa2 a,fun r cur=>cN (.inl rfl) h r cur⟩
theorem nC:∀(l:List RAtom) (r cur:Tx),(∀a∈l,D2 a)->Cd 46 (B6 (l.map B9)++r) false cur=Cd 46 r false (cur++B6 (l.map B9)):=by
 intro l;induction l with
 |nil=>intro r cur _;simp[B6]
 |cons a l ih=>
  intro r cur h;have e:B6 ((a::l).map B9)=[44]++(B9 a++B6 (l.map B9)):=by simp[B6]
  rw[e,Ahc,Im [44] _ _ _ (fun b hb=>by simp at hb;subst hb;decide),Ahc,cN (.inr rfl) (h a (Ahn ..)),ih _ _ (fun x hx=>h x (Ahp _ hx))];simp
theorem zB {x:RItem}(h:Cl x)(r cur:Tx):Cd 46 (Be x++r) false cur=Cd 46 r false (cur++Be x):=by
 obtain⟨h1,h2,h3⟩:=h;unfold Be;by_cases ho:x.out=true
 ·rw[if_pos ho,Im (63::x.head.pred) _ _ _ (fun b hb=>by
   rcases Ahm.1 hb with rfl|hb
   ·decide
   ·have:=Jz (h1.2 b hb);omega)]
 ·obtain⟨w1,w2,w3,w4⟩:=h3 (by simpa using ho);rw[if_neg ho];unfold Di;rw[Ahc,iZ (.inr rfl) w1];cases hb:x.body with
  |nil=>simp
  |cons l ls=>
   rw[hb]at w4;rw[if_neg (by simp)];have e:(58::45::Bl ((l::ls).map B9))=[58,45]++(B9 l++B6 (ls.map B9)):=by simp[Bl]
   rw[e,Ahc,Im [58,45] _ _ _ (fun b hb=>by simp at hb;rcases hb with rfl|rfl<;>decide),Ahc,cN (.inr rfl) (w4 l (Ahn ..)),nC _ _ _ (fun x hx=>w4 x (Ahp _ hx))];simp
theorem aE:∀(l:List RItem),(∀x∈l,Cl x)->Sq (Bv l) 46=l.map Be:=by
 intro l;induction l with
 |nil=>intro _;simp[Bv,Sq,Cd]
 |cons x l ih=>
  intro h;have e:Bv (x::l)=Be x++(46::Bv l):=by simp[Bv]
  have hi:=ih fun y hy=>h y (Ahp _ hy);unfold Sq at*
  rw[e,zB (h x (Ahn ..)),show (46:Int)=((46:UInt8).toNat:Int)from rfl,zD (by decide) (by decide),show ((46:UInt8).toNat:Int)=46 from rfl,hi];simp
theorem Q5 {c:Int}:∀(p r:Tx),(∀b∈p,(b.toNat:Int)≠c)->Fq (p++r) c=p.length+Fq r c:=by
 intro p;induction p with
 |nil=>intro r _;simp
 |cons b p ih=>
  intro r h;have:=ih r fun x hx=>h x (Ahp _ hx);unfold Fq at*
  have e:((b.toNat:Int)==c)=false:=by simpa using h b (Ahn ..)
  rw[Aho,List.findIdx_cons,e];simp only[cond_false,Ahj];omega
theorem Zz {c:UInt8}(r:Tx):Fq (c::r) c.toNat=0:=by unfold Fq;rw[List.findIdx_cons];simp
theorem yP {c:Int}:Fq [] c=0:=rfl
theorem Kv {p:Tx}(h:Ke p):∃b q,p=b::q/\97<=b.toNat/\b.toNat<=122:=by
 obtain⟨h1,h2⟩:=h;cases p with
 |nil=>exact absurd rfl h1
 |cons b q=>exact⟨b,q,rfl,Jz (h2 b (Ahn ..))⟩
theorem zU {a:RAtom}(h:D2 a):zV a.nt (A7 a)=a:=by
 have hf:Fq (A7 a) 40=a.pred.length:=by
  unfold A7;rw[Q5 a.pred _ (fun b hb=>by have:=Jz (h.1.2 b hb);omega),show (40:Int)=((40:UInt8).toNat:Int)from rfl,Zz];rfl
 have hl:(A7 a).length=a.pred.length+1+(Bl a.terms).length+1:=by unfold A7;simp;omega
 unfold zV;rw[hf,if_pos Ajm];have e1:((A7 a).drop 0).take (a.pred.length-0)=a.pred:=by unfold A7;simp
 have e2:((A7 a).drop (a.pred.length+1)).take ((A7 a).length-1-(a.pred.length+1))=Bl a.terms:=by
  rw[hl];unfold A7;rw[show a.pred++40::(Bl a.terms++[41])=(a.pred++[40])++(Bl a.terms++[41])by simp];rw[Aht (by simp),List.drop_of_length_le (by simp),Ahq];rw[show a.pred.length+1+(Bl a.terms).length+1-1-(a.pred.length+1)=(Bl a.terms).length by omega];simp
 rw[e1,e2,iY (fun t ht=>kW (h.2.2.2 t ht))]
theorem Wb {a:RAtom}(h:D2 a):jL (B9 a)=a:=by
 obtain⟨b,q,hp,h1,h2⟩:=Kv h.1;have e:=zU h;unfold jL B9;cases hn:a.nt with
 |true=>
  have e1:jE ((if true=true then [33]else [])++A7 a)=true:=rfl;have e2:To ((if true=true then [33]else [])++A7 a)=A7 a:=by
   unfold To;rw[if_pos e1];simp
  rw[e1,e2,<-hn,e]
 |false=>
  have e1:jE ((if false=true then [33]else [])++A7 a)=false:=by
   unfold A7;rw[hp];simp[jE];omega
  have e2:To ((if false=true then [33]else [])++A7 a)=A7 a:=by
   unfold To;rw[if_neg (by rw[e1];simp)];simp
  rw[e1,e2,<-hn,e]
theorem Tp {a:RAtom}(h:a.nt=false):B9 a=A7 a:=by unfold B9;simp[h]
theorem Afw {a:RAtom}(h:D2 a):∀b∈A7 a,(b.toNat:Int)≠58:=by
 intro b hb;unfold A7 at hb;rcases Ahs.1 hb with hb|hb
 ·have:=Jz (h.1.2 b hb);omega
 ·rcases Ahm.1 hb with rfl|hb
  ·decide
  ·rcases Ahs.1 hb with hb|hb
   ·have:=jO h hb;omega
   ·simp at hb;subst hb;decide
theorem L4 {x:RItem}(h:Cl x):iK (Be x)=x/\Be x≠[]/\(Qt (Be x)=false->Fq (Be x) 58<(Be x).length->Fq (Be x) 58+2<=(Be x).length):=by
 obtain⟨h1,h2,h3⟩:=h;obtain⟨b,q,hp,k1,k2⟩:=Kv h1;unfold Be;by_cases ho:x.out=true
 ·rw[if_pos ho];obtain⟨w1,w2,w3⟩:=h2 ho;have hq:Qt (63::x.head.pred)=true:=rfl;refine⟨?_,by simp,fun h=>by rw[hq]at h;cases h⟩;unfold iK;rw[if_pos hq];unfold Afr;obtain⟨xo,⟨n,p,t⟩,bd⟩:=x;simp at*
  simp[*]
 ·rw[if_neg ho];obtain⟨w1,w2,w3,w4⟩:=h3 (by simpa using ho);have hq:Qt (Di x)=false:=by unfold Di A7;rw[hp];simp[Qt];omega
  cases hb:x.body with
  |nil=>
   have e:Di x=A7 x.head:=by unfold Di;rw[if_pos hb];simp
   have hf:Fq (Di x) 58=(Di x).length:=by
    have:=Q5 (A7 x.head) [] (Afw w1);rw[Ag3,yP]at this;rw[e];omega
   refine⟨?_,by rw[e];exact dJ _,fun _ h=>Ajm⟩;unfold iK;rw[if_neg (by simp[hq])];unfold wH;rw[hf,if_neg Ajm];have e2:((Di x).drop 0).take ((Di x).length-0)=B9 x.head:=by rw[e,Tp w2];simp
   rw[e2,Wb w1];obtain⟨xo,hd,bd⟩:=x;simp at*
   simp[*]
  |cons l ls=>
   have e:Di x=A7 x.head++(58::45::Bl (x.body.map B9)):=by unfold Di;rw[if_neg (by rw[hb];simp)]
   have hf:Fq (Di x) 58=(A7 x.head).length:=by
    have:=Q5 (A7 x.head) (58::45::Bl (x.body.map B9)) (Afw w1);rw[e,this,show (58:Int)=((58:UInt8).toNat:Int)from rfl,Zz];rfl
   have hl:(Di x).length=(A7 x.head).length+2+(Bl (x.body.map B9)).length:=by rw[e];simp;omega
   refine⟨?_,by rw[e];simp,fun _ _=>Ajm⟩;unfold iK;rw[if_neg (by simp[hq])];unfold wH;rw[hf,if_pos Ajm];have e2:((Di x).drop 0).take ((A7 x.head).length-0)=B9 x.head:=by rw[e,Tp w2];simp
   have e3:((Di x).drop ((A7 x.head).length+2)).take ((Di x).length-((A7 x.head).length+2))=Bl (x.body.map B9):=by
    rw[hl,e,show A7 x.head++(58::45::Bl (x.body.map B9))=(A7 x.head++[58,45])++Bl (x.body.map B9)by simp];rw[Aht (by simp),List.drop_of_length_le (by simp),Ahq];exact Ahu Ajm
   rw[e2,e3,Wb w1,iY (fun t ht=>by
    rw[Ahv]at ht;obtain⟨a,ha,rfl⟩:=ht
    exact sQ (w4 a ha))]
   have e4:(x.body.map B9).map jL=x.body:=by
    rw[Ag2]
    conv=>rhs;rw[<-Ahw x.body]
    exact Ahx fun a ha=>Wb (w4 a ha)
   rw[e4];obtain⟨xo,hd,bd⟩:=x;simp at*
   simp[*]
theorem Iu {s:Tx}{l:List RItem}{r:Tx}(hs:s.length<=1000)(h:Br 16 s= .got l r):yL s/\Cw s=l/\l.length<=16/\∀x∈l,Cl x:=by
 obtain⟨h1,h2,h3,h4⟩:=Ey _ _ _ _ h;have hc:=aE l h4;refine⟨⟨?_,?_⟩,?_,h3,h4⟩
 ·rw[h1,hc];simpa using h3
 ·intro t ht;have hl:=nD ht;rw[h1,hc,Ahv]at ht;obtain⟨x,hx,rfl⟩:=ht;obtain⟨g1,g2,g3⟩:=L4 (h4 x hx);exact⟨Ajm,g2,g3⟩
 ·unfold Cw;rw[h1,hc,Ag2]
  conv=>rhs;rw[<-Ahw l]
  exact Ahx fun x hx=>(L4 (h4 x hx)).1
inductive Way {α:Type}(E:α->α->Prop):α->α->Prop
 |one {a b:α}:E a b->Way E a b
 |more {a b c:α}:E a b->Way E b c->Way E a c
theorem Way.join {α:Type}{E:α->α->Prop}{a b c:α}(h:Way E a b)(k:Way E b c):Way E a c:=by
 induction h with
 |one e=>exact .more e k
 |more e _ ih=>exact .more e (ih k)
def Aad (n:Nat)(M:Nat->Nat->Bool):Prop:=∀a b,M a b=true->a<n/\b<n
theorem Aer {n:Nat}{M:Nat->Nat->Bool}(hM:Aad n M):∀(m:Nat),m<=n->Aad n (F9 n M m)/\(∀a b,M a b=true->F9 n M m a b=true)/\(∀a b,F9 n M m a b=true->Way (fun a b=>M a b=true) a b)/\
  (∀a b c,b<m->F9 n M m a b=true->F9 n M m b c=true->F9 n M m a c=true):=by
 intro m;induction m with
 |zero=>intro _;exact⟨hM,fun _ _ h=>h,fun _ _ h=>.one h,fun _ _ _ h=>Ajm⟩
 |succ m ih=>
  intro hm;obtain⟨h1,h2,h3,h4⟩:=ih Ajm;have e:∀a b,F9 n M (m+1) a b=true↔F9 n M m a b=true\/(F9 n M m a m=true/\F9 n M m m b=true):=by
   intro a b;show fwN n (F9 n M m) m a b=true↔_;unfold fwN fw;split
   ·simp
   ·rename_i hn;constructor
    ·exact .inl
    ·rintro (h|⟨ha,hb⟩)
     ·exact h
     ·exact absurd ⟨(h1 _ _ ha).1,(h1 _ _ hb).2⟩ hn
  refine⟨?_,?_,?_,?_⟩
  ·intro a b h;rcases (e a b).1 h with h|⟨ha,hb⟩
   ·exact h1 _ _ h
   ·exact⟨(h1 _ _ ha).1,(h1 _ _ hb).2⟩
  ·intro a b h;exact (e a b).2 (.inl (h2 _ _ h))
  ·intro a b h;rcases (e a b).1 h with h|⟨ha,hb⟩
   ·exact h3 _ _ h
   ·exact (h3 _ _ ha).join (h3 _ _ hb)
  ·intro a b c hb ab aa;rw[e]at ab aa⊢;by_cases ad:b=m
   ·subst ad;have g1:F9 n M b a b=true:=by rcases ab with h|⟨h,_⟩<;>exact h
    have g2:F9 n M b b c=true:=by rcases aa with h|⟨_,h⟩<;>exact h
    exact .inr ⟨g1,g2⟩
   ·have ac:b<m:=Ajm;rcases ab with ab|⟨ha,af⟩<;>rcases aa with aa|⟨ae,hc⟩
    ·exact .inl (h4 _ _ _ ac ab aa)
    ·exact .inr ⟨h4 _ _ _ ac ab ae,hc⟩
    ·exact .inr ⟨ha,h4 _ _ _ ac af aa⟩
    ·exact .inr ⟨ha,hc⟩
theorem cD {n:Nat}{M:Nat->Nat->Bool}(hM:Aad n M)(a b:Nat):F9 n M n a b=true↔Way (fun a b=>M a b=true) a b:=by
 obtain⟨h1,h2,h3,h4⟩:=Aer hM n (Agi _);refine⟨h3 a b,fun h=>?_⟩;induction h with
 |one e=>exact h2 _ _ e
 |more e _ ih=>exact h4 _ _ _ (hM _ _ e).2 (h2 _ _ e) ih
theorem O2 (l:List RItem)(i k:Nat):Aaw l i k=true↔Way (fun a b=>Sp l a b=true) i k:=by
 have he:∀a b,Sp l a b=true->a<l.length/\b<l.length:=by
  intro a b h;unfold Sp at h;split at h
  ·rename_i x y hx hy;exact⟨(List.getElem?_eq_some_iff.1 hx).1,(List.getElem?_eq_some_iff.1 hy).1⟩
  ·cases h
 have e:(fun a b=>if a<l.length/\b<l.length then Sp l a b else false)=Sp l:=by
  funext a b;split
  ·rfl
  ·rename_i hn;cases hq:Sp l a b with
   |false=>rfl
   |true=>exact absurd (he a b hq) hn
 unfold Aaw;rw[e];exact cD he i k
def D6 (l:List RItem)(p q:Tx):Prop:=∃x∈l,x.head.pred=p/\∃a∈x.body,a.pred=q
theorem edge_iff {l:List RItem}{i k:Nat}:Sp l i k=true↔∃x y,l[i]?=some x/\l[k]?=some y/\y.out=false/\∃a∈x.body,a.pred=y.head.pred:=by
 unfold Sp;constructor
 ·intro h;split at h
  ·rename_i x y hx hy;refine⟨x,y,hx,hy,?_⟩;simp at h;exact h
  ·cases h
 ·rintro⟨x,y,hx,hy,h1,a,ha,h2⟩;rw[hx,hy];simp only[h1,Bool.not_false,Ahy];exact Ahk.2 ⟨a,ha,by simp[h2]⟩
theorem Qh {l:List RItem}{i k:Nat}(h:Way (fun a b=>Sp l a b=true) i k):∃x y,l[i]?=some x/\l[k]?=some y/\y.out=false/\Way (D6 l) x.head.pred y.head.pred:=by
 induction h with
 |one e=>
  obtain⟨x,y,hx,hy,h1,a,ha,h2⟩:=edge_iff.1 e;exact⟨x,y,hx,hy,h1,.one ⟨x,Agp hx,rfl,a,ha,h2⟩⟩
 |more e _ ih=>
  obtain⟨x,y,hx,hy,h1,a,ha,h2⟩:=edge_iff.1 e;obtain⟨x',z,aa,hz,h3,h4⟩:=ih;rw[hy]at aa;cases aa;exact⟨x,z,hx,hz,h3,.more ⟨x,Agp hx,rfl,a,ha,h2⟩ h4⟩
theorem Qi {l:List RItem}(ho:∀x∈l,x.out=true->x.body=[]){p q:Tx}(h:Way (D6 l) p q):∀(k:Nat) (y:RItem),l[k]?=some y->y.out=false->y.head.pred=q->∃(i:Nat) (x:RItem),l[i]?=some x/\x.head.pred=p/\Way (fun a b=>Sp l a b=true) i k:=by
 induction h with
 |one e=>
  intro k y hk hy hq;obtain⟨x,hx,h1,a,ha,h2⟩:=e;obtain⟨i,hi⟩:=List.getElem?_of_mem hx;exact⟨i,x,hi,h1,.one (edge_iff.2 ⟨x,y,hi,hk,hy,a,ha,by rw[h2,hq]⟩)⟩
 |more e _ ih=>
  intro k y hk hy hq;obtain⟨x,hx,h1,a,ha,h2⟩:=e;obtain⟨i,hi⟩:=List.getElem?_of_mem hx;obtain⟨j,z,hj,h3,h4⟩:=ih k y hk hy hq;have hz:z.out=false:=by
   have ab:z.body≠[]:=by
    cases h4 with
    |one e=>
     obtain⟨z',_,aa,_,_,a,ha,_⟩:=edge_iff.1 e;rw[hj]at aa;cases aa;intro hn;rw[hn]at ha;cases ha
    |more e _=>
     obtain⟨z',_,aa,_,_,a,ha,_⟩:=edge_iff.1 e;rw[hj]at aa;cases aa;intro hn;rw[hn]at ha;cases ha
   cases hb:z.out with
   |false=>rfl
   |true=>exact absurd (ho z (Agp hj) hb) ab
  exact⟨i,x,hi,h1,.more (edge_iff.2 ⟨x,z,hi,hj,hz,a,ha,by rw[h2,h3]⟩) h4⟩
theorem Mn {l:List RItem}(ho:∀x∈l,x.out=true->x.body=[]){p q:Tx}(hq:∃y∈l,y.out=false/\y.head.pred=q):oE l p q=true↔Way (D6 l) p q:=by
 unfold oE;constructor
 ·intro h;rw[Ahk]at h;obtain⟨i,-,h⟩:=h;rw[Ahk]at h;obtain⟨k,-,h⟩:=h;unfold Aem at h;simp only[Ags,Ajk]at h;obtain⟨⟨h1,h2⟩,h3⟩:=h;obtain⟨x,y,hx,hy,_,hw⟩:=Qh ((O2 l i k).1 h1);unfold cC at h2 h3;rw[hx]at h2;rw[hy]at h3;rw[<-h2,<-h3];exact hw
 ·intro h;obtain⟨y,hy,h1,h2⟩:=hq;obtain⟨k,hk⟩:=List.getElem?_of_mem hy;obtain⟨i,x,hi,h3,h4⟩:=Qi ho h k y hk h1 h2;rw[Ahk];refine⟨i,by simpa using (List.getElem?_eq_some_iff.1 hi).1,?_⟩;rw[Ahk];refine⟨k,by simpa using (List.getElem?_eq_some_iff.1 hk).1,?_⟩;unfold Aem cC;rw[(O2 l i k).2 h4,hi,hk];simp[h2,h3]
theorem Pu (c:Int)(I:St):ACalls Tryz.prog 214 [sc (.int .u8 c)] I fun x I'=>x=sc (.bool (Bq c))/\I'=I:=by
 refine Z9 9 [.tmp 2] Tryz.func214 ?_
 repeat' (first|refine Z1 ?_|(refine Z8 ?_;intro κ hκ)|(refine Z4 ?_;clear hκ κ)|(refine Z2 ?_ ?_<;>intro h aa<;>try exact Xp)|refine Z3 ?_|exact⟨⟩|(apply hκ.out;clear hκ κ))
 all_goals exact⟨_,rfl,by simp[Bq, *]⟩
theorem Gn (c:Int)(I:St):ACalls Tryz.prog 248 [sc (.int .u8 c)] I fun x I'=>x=sc (.bool (Bm c))/\I'=I:=by
 refine Z9 9 [.tmp 2] Tryz.func248 ?_
 repeat' (first|refine Z1 ?_|(refine Z8 ?_;intro κ hκ)|(refine Z4 ?_;clear hκ κ)|(refine Z2 ?_ ?_<;>intro h aa<;>try exact Xp)|refine Z3 ?_|exact⟨⟩|(apply hκ.out;clear hκ κ))
 all_goals exact⟨_,rfl,by simp[Bm, *]⟩
theorem Gm (c:Int)(I:St):ACalls Tryz.prog 249 [sc (.int .u8 c)] I fun x I'=>x=sc (.bool (A0 c))/\I'=I:=by
 refine Z9 9 [.tmp 2] Tryz.func249 ?_
 repeat' (first|refine Z1 ?_|(refine Z8 ?_;intro κ hκ)|(refine Z4 ?_;clear hκ κ)|(refine Z2 ?_ ?_<;>intro h aa<;>try exact Xp)|refine Z3 ?_|exact⟨⟩|(apply hκ.out;clear hκ κ))
 all_goals exact⟨_,rfl,by simp[A0, *]⟩
def R9 (t:Tx)(k:Nat)(nm:AV):List AV:=[str t,sc (.int .i64 k),nm]
def takeB (t:Tx)(k:Nat)(c:Int):Bool:=match t[k]? with|some b=>(b.toNat:Int)==c|none=>false
def takeN (t:Tx)(k:Nat)(c:Int):Nat:=if takeB t k c=true then k+1 else k
theorem rH (t:Tx)(k o:Nat)(nm:AV)(c:Int)(ht:t.length<=1000)(hk:k<=t.length)(I:St)(ho:I.obj o=R9 t k nm)(hn:o<I.nobj):ACalls Tryz.prog 132 [ptr o 0,sc (.int .u8 c)] I fun x I'=>x=sc (.bool (takeB t k c))/\KeepX o I I'/\I'.obj o=R9 t (takeN t k c) nm:=by
 unfold R9 at*
 refine Z9 35 [.tmp 4] Tryz.func132 ?_
 repeat' (first|refine Z1 ?_|(refine Z8 ?_;intro κ hκ)|(refine Z4 ?_;clear hκ κ)|(refine Z2 ?_ ?_<;>intro h aa<;>try exact Xp)|refine Z3 ?_|exact⟨⟩|(apply hκ.out;clear hκ κ))
 refine A9 Aj (fun _=>True) [22] [0,1,2,3,4,5,6,7,8,9,10,11,12,13,14,15,16,17,18,19,20,21] [22] Ajp (fun _ _ _ h=>h) ?_;intro κ hκ;by_cases ab:k<t.length
 ·have hg:=List.getElem?_eq_getElem ab;generalize t[k]=b at hg;refine Z3 ?_
  repeat' (first|refine Z1 ?_|(refine Z8 ?_;intro κ hκ)|(refine Z4 ?_;clear hκ κ)|(refine Z2 ?_ ?_<;>intro h aa<;>try exact Xp)|refine Z3 ?_|exact⟨⟩|(apply hκ.out;clear hκ κ))
  ·have hB:takeB t k c=false:=by simp[takeB,hg];simpa using h
   exact⟨_,rfl,by rw[hB],KeepX.refl _ _,by simp[takeN,hB]⟩
  ·have hB:takeB t k c=true:=by simp[takeB,hg];simpa using h
   exact⟨_,rfl,by rw[hB],(KeepX.refl _ _).put _,by simp[takeN,hB]⟩
 ·have hg:t[k]?=none:=by simp;omega
  refine Z3 ?_
  repeat' (first|refine Z1 ?_|(refine Z8 ?_;intro κ hκ)|(refine Z4 ?_;clear hκ κ)|(refine Z2 ?_ ?_<;>intro h aa<;>try exact Xp)|refine Z3 ?_|exact⟨⟩|(apply hκ.out;clear hκ κ))
  have hB:takeB t k c=false:=by simp[takeB,hg]
  exact⟨_,rfl,by rw[hB],KeepX.refl _ _,by simp[takeN,hB]⟩
def Le (t s:Tx)(nm:AV):List AV:=R9 t (t.length-s.length) nm
theorem Pd {t s:Tx}(h:s<:+t):t[t.length-s.length]?=s.head?:=by
 obtain⟨p,rfl⟩:=h;rw[Aha,Nat.add_sub_cancel,List.getElem?_append_right (Agi _),Ahz];cases s<;>rfl
theorem Qo {t s:Tx}{b:UInt8}(h:(b::s)<:+t):s<:+t:=(List.suffix_cons b s).trans h
theorem Hm {t s:Tx}(h:s<:+t):s.length<=t.length:=h.length_le
theorem Qn (t s:Tx)(o:Nat)(nm:AV)(c:Int)(ht:t.length<=1000)(hs:s<:+t)(I:St)(ho:I.obj o=Le t s nm)(hn:o<I.nobj):
  ACalls Tryz.prog 132 [ptr o 0,sc (.int .u8 c)] I fun x I'=>KeepX o I I'/\match Az c s with
   |.got _ r=>x=sc (.bool true)/\I'.obj o=Le t r nm/\r<:+t
   |.bad e=>x=sc (.bool false)/\I'.obj o=Le t s nm/\e=s:=by
 have hl:=Hm hs;refine ACalls.mono (rH t _ o nm c ht Ajm I ho hn) ?_;rintro x I' ⟨rfl,hK,hO⟩;refine⟨hK,?_⟩;have hg:=Pd hs;cases s with
 |nil=>
  have hB:takeB t (t.length-([]:Tx).length) c=false:=by unfold takeB;rw[hg];rfl
  refine⟨by rw[hB],?_,rfl⟩;rw[hO,takeN,hB];rfl
 |cons b r=>
  have hB:takeB t (t.length-(b::r).length) c=((b.toNat:Int)==c):=by unfold takeB;rw[hg];rfl
  unfold Az;by_cases hb:((b.toNat:Int)==c)=true
  ·rw[hb]at hB;simp only[hb,if_true];refine⟨by rw[hB],?_,Qo hs⟩;rw[hO,takeN,hB,Le];simp only[if_true,Ahj]at*
   rw[show t.length-(r.length+1)+1=t.length-r.length by omega]
  ·have aa:((b.toNat:Int)==c)=false:=by simpa using hb
   rw[aa]at hB;simp only[aa,Ahg,if_false];refine⟨by rw[hB],?_,trivial⟩;rw[hO,takeN,hB];rfl
def H7 (ds:Tx):Int:=ds.foldl (fun v b=>v*10+((b.toNat:Int)-48)) 0
theorem Mx (ds:Tx)(b:UInt8):H7 (ds++[b])=H7 ds*10+((b.toNat:Int)-48):=by simp[H7]
def yW (s ds q:Tx):Prop:=ds.length<=3/\Ax A0 3 s=(ds++(Ax A0 (3-ds.length) q).1,(Ax A0 (3-ds.length) q).2)/\0<=H7 ds/\(ds.length=0->H7 ds=0)/\(ds.length=1->H7 ds<=9)/\(ds.length=2->H7 ds<=99)
theorem yV (s:Tx):yW s [] s:=⟨by simp,by simp,by simp[H7],by simp[H7],by simp,by simp⟩
theorem tH {s ds q:Tx}{b:UInt8}(h:yW s ds (b::q))(hl:ds.length<3)(hb:A0 b.toNat=true):yW s (ds++[b]) q:=by
 obtain⟨h1,h2,h3,h4,h5,h6⟩:=h;have hr:48<=b.toNat/\b.toNat<=57:=by simp[A0]at hb;omega
 have e:3-ds.length=(3-(ds++[b]).length)+1:=by simp;omega
 rw[e,Ax,if_pos hb]at h2;refine⟨by simp;omega,by rw[h2];simp,?_,by simp,?_,?_⟩
 ·rw[Mx];omega
 ·intro hh;rw[Mx];have:=h4 (by simp at hh;simp[hh]);omega
 ·intro hh;rw[Mx];have:=h5 (by simp at hh;omega);omega
theorem Vx {s ds q:Tx}(h:yW s ds q)(he:ds.length=3\/q=[]\/∃b r,q=b::r/\A0 b.toNat=false):Ax A0 3 s=(ds,q):=by
 obtain⟨h1,h2,-⟩:=h;rw[h2];rcases he with he|rfl|⟨b,r,rfl,hb⟩
 ·rw[he];simp[Ax]
 ·cases hn:3-ds.length<;>simp[Ax]
 ·cases hn:3-ds.length<;>simp[Ax,hb]
theorem R8 (t s:Tx)(o:Nat)(nm:AV)(ht:t.length<=1000)(hs:s<:+t)(I:St)(ho:I.obj o=Le t s nm)(hn:o<I.nobj)(an:∀b r,s=b::r->((b.toNat:Int)==48)=false):
  ACalls Tryz.prog 250 [ptr o 0] I fun x I'=>KeepX o I I'/\∃q,I'.obj o=Le t q nm/\q<:+t/\q=(Ax A0 3 s).2/\x=sc (.int .i64 (H7 (Ax A0 3 s).1)):=by
 have hp:Az 48 s= .bad s:=by
  cases s with
  |nil=>rfl
  |cons b r=>unfold Az;simp only[an b r rfl];simp
 have hT:=Qn t s o nm 48 ht hs I ho hn;rw[hp]at hT;refine Z9 57 [.tmp 2] Tryz.func250 ?_
 repeat' (first|refine Z1 ?_|(refine Z8 ?_;intro κ hκ)|(refine Z4 ?_;clear hκ κ)|(refine Z2 ?_ ?_<;>intro h aa<;>try exact Xp)|(refine Z5 ?_;refine Xi (hT) ?_;rintro _ _ ⟨ab,rfl,ai,-⟩)|refine Z3 ?_|exact⟨⟩|(apply hκ.out;clear hκ κ))
 rename_i I1;have ae:o<I1.nobj:=Agk hn ab.nobj;clear hT hp ho
 refine Af (fun m s' I'=>∃(q ds:Tx),m=3-ds.length/\s' 0=ptr o 0/\s' 3=sc (.int .i64 (H7 ds))/\s' 4=sc (.int .i64 ds.length)/\KeepX o I I'/\I'.obj o=Le t q nm/\o<I'.nobj/\q<:+t/\Ajs (yW s ds q)) 3
  ⟨s,[],rfl,rfl,rfl,rfl,ab,ai,ae,hs,yV s⟩ ?_
 rintro m s' I' ⟨q,ds,rfl,h0,h3,h4,hK,hO,ap,hq,hD⟩;clear ab ai ae;have ac:=Hm hq;have ad:=Pd hq;have am:=hD.out;obtain⟨d1,-,d3,d4,d5,d6⟩:=am;unfold Le R9 at hO
 repeat' (first|refine Z1 ?_|(refine Z8 ?_;intro κ hκ)|(refine Z4 ?_;clear hκ κ)|(refine Z2 ?_ ?_<;>intro h aa<;>try exact Xp)|refine Z3 ?_|exact⟨⟩|(apply hκ.out;clear hκ κ))
 refine A9 Aj (fun _=>True) [25] [0,1,2,3,4,5,6,7,8,9,10,11,12,13,14,15,16,17,18,19,20,21,22,23] [24,25] Ajp (fun _ _ _ h=>h) ?_;intro κ hκ;cases q with
 |nil=>
  simp only[Ahi,Ah0]at hO ad ac;refine Z3 ?_
  repeat' (first|refine Z1 ?_|(refine Z8 ?_;intro κ hκ)|(refine Z4 ?_;clear hκ κ)|(refine Z2 ?_ ?_<;>intro h aa<;>try exact Xp)|(refine Z5 ?_;refine Xi (Gm _ _) ?_;rintro _ _ ⟨rfl,rfl⟩)|refine Z3 ?_|exact⟨⟩|(apply hκ.out;clear hκ κ))
  all_goals
   have he:=Vx hD.out (.inr (.inl rfl));exact⟨_,rfl,[],by simp[Le,R9],hq,by rw[he],by rw[he]⟩
 |cons b r=>
  simp only[Ahj,List.head?_cons]at hO ad ac;have aj:=Qo hq;refine Z3 ?_;have af:A0 b.toNat=true->48<=(b.toNat:Int)/\(b.toNat:Int)<=57:=fun h=>by simp[A0]at h;omega
  repeat' (first|refine Z1 ?_|(refine Z8 ?_;intro κ hκ)|(refine Z4 ?_;clear hκ κ)|(refine Z2 ?_ ?_<;>intro h aa<;>try exact Xp)|(refine Z5 ?_;refine Xi (Gm _ _) ?_;rintro _ _ ⟨rfl,rfl⟩)|refine Z3 ?_|exact⟨⟩|(apply hκ.out;clear hκ κ))
  all_goals
   first
   |(have he:=Vx hD.out (.inr (.inr ⟨b,r,rfl,by assumption⟩))
     exact⟨_,rfl,b::r,by simp[Le,R9],hq,by rw[he],by rw[he]⟩)
   |(have he:=Vx hD.out (.inl Ajm)
     exact⟨_,rfl,b::r,by simp[Le,R9],hq,by rw[he],by rw[he]⟩)
   |skip
  have ah:A0 b.toNat=true:=by assumption
  have af:=af ah;have ak:ds.length<3:=Ajm;have ao:H7 ds<=99:=by
   have:ds.length=0\/ds.length=1\/ds.length=2:=Ajm;rcases this with h|h|h
   ·have:=d4 h;omega
   ·have:=d5 h;omega
   ·exact d6 h
  clear d4 d5 d6;refine A9 Aj (fun _=>True) [14] [0,1,2,3,4,5,6,7,8,9,10,11,12,13] [14] Ajp (fun _ _ _ h=>h) ?_;intro κ hκ;refine Z3 ?_
  repeat' (first|refine Z1 ?_|(refine Z8 ?_;intro κ hκ)|(refine Z4 ?_;clear hκ κ)|(refine Z2 ?_ ?_<;>intro h aa<;>try exact Xp)|refine Z3 ?_|exact⟨⟩|(apply hκ.out;clear hκ κ))
  have hw:IntKind.i64.wrap (H7 ds*10+IntKind.i64.wrap (IntKind.u8.wrap ((b.toNat:Int)-48)))=H7 (ds++[b]):=by
   rw[Abs.u8w Ajm Ajm,show IntKind.i64.wrap ((b.toNat:Int)-48)=(b.toNat:Int)-48 from Abs.i64w Ajm Ajm,Abs.i64w Ajm Ajm,Mx]
  rw[hw];refine⟨3-(ds++[b]).length,by simp;omega,r,ds++[b],rfl,rfl,by simp,hK.put _,?_,aj,tH hD.out ak ah⟩;unfold Le R9;rw[show ((t.length-(r.length+1):Nat):Int)+1=((t.length-r.length:Nat):Int)by omega]
variable {Bd:Nat}
namespace Rd
def ok {α:Type}:Rd α->Bool
 |.bad _=>false
 |.got _ _=>true
def rest {α:Type}:Rd α->Tx
 |.bad e=>e
 |.got _ r=>r
def Val {α:Type}:Rd α->(α->Prop)->Prop
 |.bad _,_=>True
 |.got a _,P=>P a
theorem ok_true {α:Type}{x:Rd α}(h:x.ok=true):∃a r,x= .got a r:=by
 cases x with
 |bad e=>cases h
 |got a r=>exact⟨a,r,rfl⟩
theorem ok_false {α:Type}{x:Rd α}(h:x.ok=false):∃e,x= .bad e:=by
 cases x with
 |bad e=>exact⟨e,rfl⟩
 |got a r=>cases h
theorem Gc {α β γ:Type}(x:Rd α)(f:α->Tx->Rd β)(g:β->Tx->Rd γ):(x.bnd f).bnd g=x.bnd fun a r=>(f a r).bnd g:=by cases x<;>rfl
theorem Val.mono {α:Type}{x:Rd α}{P Q:α->Prop}(h:Val x P)(k:∀a,P a->Q a):Val x Q:=by
 cases x with
 |bad e=>trivial
 |got a r=>exact k a h
end Rd
def Sc {α:Type}(f:Tx->Rd α)(n:Nat)(s:Tx):Rd (List α):=(f s).bnd fun x r=>(Dv f n r).bnd fun xs r=>.got (x::xs) r
def sepI {α:Type}(f:Tx->Rd α)(n:Nat)(s:Tx)(xs:List α)(q:Tx):Prop:=
 xs.length<=n+1/\0<xs.length/\Sc f n s=(Dv f (n+1-xs.length) q).bnd fun ys r=>.got (xs++ys) r
theorem sepI.first {α:Type}{f:Tx->Rd α}{n:Nat}{s r:Tx}{x:α}(h:f s= .got x r):sepI f n s [x] r:=by
 refine⟨by simp,by simp,?_⟩;unfold Sc;rw[h];simp only[Rd.bnd,List.length_singleton,Nat.add_sub_cancel,List.singleton_append]
theorem sepI.none {α:Type}{f:Tx->Rd α}{n:Nat}{s e:Tx}(h:f s= .bad e):Sc f n s= .bad e:=by
 unfold Sc;rw[h];rfl
theorem sepI.full {α:Type}{f:Tx->Rd α}{n:Nat}{s q:Tx}{xs:List α}(h:sepI f n s xs q)(hl:n+1<=xs.length):Sc f n s= .got xs q:=by
 rw[h.2.2,show n+1-xs.length=0 by omega];simp[Dv,Rd.bnd]
theorem sepI.stop {α:Type}{f:Tx->Rd α}{n:Nat}{s q:Tx}{xs:List α}(h:sepI f n s xs q)(hb:(Az 44 q).ok=false):Sc f n s= .got xs q:=by
 rw[h.2.2];cases hk:n+1-xs.length with
 |zero=>simp[Dv,Rd.bnd]
 |succ k=>
  cases q with
  |nil=>simp[Dv,Rd.bnd]
  |cons b r=>
   unfold Az at hb;dsimp only at hb;have aa:((b.toNat:Int)==44)=false:=by
    by_cases hc:((b.toNat:Int)==44)=true
    ·rw[if_pos hc]at hb;cases hb
    ·simpa using hc
   unfold Dv;rw[if_neg (by rw[aa];simp)];simp[Rd.bnd]
theorem sepI.fail {α:Type}{f:Tx->Rd α}{n:Nat}{s q r e:Tx}{xs:List α}{u:Unit}(h:sepI f n s xs q)(hl:xs.length<n+1)(hb:Az 44 q= .got u r)(hf:f r= .bad e):Sc f n s= .bad e:=by
 rw[h.2.2];obtain⟨k,hk⟩:∃k,n+1-xs.length=k+1:=⟨n-xs.length,by omega⟩;rw[hk];cases q with
 |nil=>cases hb
 |cons b q=>
  unfold Az at hb;dsimp only at hb;by_cases hc:((b.toNat:Int)==44)=true
  ·rw[if_pos hc]at hb;cases hb;rw[Dv,if_pos hc,hf];rfl
  ·rw[if_neg hc]at hb;cases hb
theorem sepI.next {α:Type}{f:Tx->Rd α}{n:Nat}{s q r r2:Tx}{xs:List α}{u:Unit}{x:α}(h:sepI f n s xs q)(hl:xs.length<n+1)(hb:Az 44 q= .got u r)(hf:f r= .got x r2):sepI f n s (xs++[x]) r2:=by
 refine⟨by simp;omega,by simp,?_⟩;rw[h.2.2];obtain⟨k,hk⟩:∃k,n+1-xs.length=k+1:=⟨n-xs.length,by omega⟩;rw[hk,show n+1-(xs++[x]).length=k by simp;omega];cases q with
 |nil=>cases hb
 |cons b q=>
  unfold Az at hb;dsimp only at hb;by_cases hc:((b.toNat:Int)==44)=true
  ·rw[if_pos hc]at hb;cases hb;rw[Dv,if_pos hc,hf];simp only[Rd.bnd];cases Dv f k r2<;>simp[Rd.bnd]
  ·rw[if_neg hc]at hb;cases hb
structure KeepR (o id:Nat)(I I':St):Prop where
 nobj:I.nobj<=I'.nobj
 obj:∀p,p<I.nobj->p≠o->I'.obj p=I.obj p
 ver:∀p,p<I.nobj->p≠o->I'.ver p=I.ver p
 ntop:I.ntop<=I'.ntop
 top:∀k,k<I.ntop->k+2≠id->I'.top k=I.top k
theorem KeepR.refl (o id:Nat)(I:St):KeepR o id I I:=⟨Nat.le_refl _,fun _ _ _=>rfl,fun _ _ _=>rfl,Nat.le_refl _,fun _ _ _=>rfl⟩
theorem KeepX.kr {o:Nat}{I I':St}(h:KeepX o I I')(id:Nat):KeepR o id I I':=⟨h.nobj,h.obj,h.ver,h.ntop,fun k hk _=>h.top k hk⟩
theorem Keep.kr {I I':St}(h:Keep I I')(o id:Nat):KeepR o id I I':=⟨h.nobj,fun p hp _=>h.obj p hp,fun p hp _=>h.ver p hp,h.ntop,fun k hk _=>h.top k hk⟩
theorem KeepR.trans {o id id':Nat}{a b c:St}(h:KeepR o id a b)(hi:id'=id\/a.ntop+2<=id')(k:KeepR o id' b c):KeepR o id a c:=
 ⟨Nat.le_trans h.nobj k.nobj,fun p hp aa=>(k.obj p (Nat.lt_of_lt_of_le hp h.nobj) aa).trans (h.obj p hp aa),fun p hp aa=>(k.ver p (Nat.lt_of_lt_of_le hp h.nobj) aa).trans (h.ver p hp aa),
  Nat.le_trans h.ntop k.ntop,fun j hj aa=>(k.top j (Nat.lt_of_lt_of_le hj h.ntop) (by omega)).trans (h.top j hj aa)⟩
theorem KeepR.put {o id:Nat}{I I':St}(h:KeepR o id I I')(cs:List AV):KeepR o id I (I'.put o cs):=
 ⟨h.nobj,fun p hp aa=>by simp[St.put,aa];exact h.obj p hp aa,fun p hp aa=>by simp[St.put,aa];exact h.ver p hp aa,h.ntop,h.top⟩
theorem KeepR.lay {o id:Nat}{a b:St}(h:KeepR o id a b)(n:Nat):KeepR o id a (b.lay n):=by
 have:=h.ntop;exact⟨h.nobj,h.obj,h.ver,by simp[St.lay];omega,fun k hk aa=>by simp[St.lay];rw[if_neg (by omega)];exact h.top k hk aa⟩
theorem KeepR.new {o id:Nat}{a b:St}(h:KeepR o id a b)(cs:List AV):KeepR o id a (b.new cs):=by
 have:=h.nobj;exact⟨by simp[St.new];omega,fun p hp aa=>by simp[St.new];rw[if_neg (by omega)];exact h.obj p hp aa,h.ver,h.ntop,h.top⟩
theorem KeepR.raise {o id:Nat}{a b:St}(h:KeepR o id a b){k:Nat}(hk:a.ntop<=k\/k+2=id)(n:Nat):KeepR o id a (b.raise k n):=
 ⟨h.nobj,h.obj,h.ver,h.ntop,fun j hj aa=>by simp[St.raise];rw[if_neg (by omega)];exact h.top j hj aa⟩
theorem KeepR.keep {o id:Nat}{a b c:St}(h:Keep a b)(k:KeepR o id b c)(ho:a.nobj<=o)(hi:id<2\/a.ntop+2<=id):Keep a c:=
 ⟨Nat.le_trans h.nobj k.nobj,fun p hp=>(k.obj p (Nat.lt_of_lt_of_le hp h.nobj) (by omega)).trans (h.obj p hp),fun p hp=>(k.ver p (Nat.lt_of_lt_of_le hp h.nobj) (by omega)).trans (h.ver p hp),
  Nat.le_trans h.ntop k.ntop,fun j hj=>(k.top j (Nat.lt_of_lt_of_le hj h.ntop) (by omega)).trans (h.top j hj)⟩
def OwnN (I:St)(id n:Nat):Prop:=(id=1/\n=0)\/∃k,id=k+2/\k<I.ntop/\I.top k=n/\0<n
theorem OwnN.keepX {o:Nat}{I I':St}{id n:Nat}(h:OwnN I id n)(k:KeepX o I I'):OwnN I' id n:=by
 rcases h with h|⟨j,h1,h3,h4,h5⟩
 ·exact .inl h
 ·exact .inr ⟨j,h1,Nat.lt_of_lt_of_le h3 k.ntop,(k.top j h3).trans h4,h5⟩
theorem Own.keepR {o idn:Nat}{σ0 I I':St}{id n:Nat}(h:Own σ0 I id n)(k:KeepR o idn I I')(aa:id=1\/id≠idn):Own σ0 I' id n:=by
 rcases h with h|⟨j,h1,h2,h3,h4,h5⟩
 ·exact .inl h
 ·exact .inr ⟨j,h1,h2,Nat.lt_of_lt_of_le h3 k.ntop,(k.top j h3 (by omega)).trans h4,h5⟩
theorem OwnN.keepR {o idn:Nat}{I I':St}{id n:Nat}(h:OwnN I id n)(k:KeepR o idn I I')(aa:id=1\/id≠idn):OwnN I' id n:=by
 rcases h with h|⟨j,h1,h3,h4,h5⟩
 ·exact .inl h
 ·exact .inr ⟨j,h1,Nat.lt_of_lt_of_le h3 k.ntop,(k.top j h3 (by omega)).trans h4,h5⟩
theorem S2 {I:St}{n k:Nat}(h:k<I.ntop):(I.lay n).top k=I.top k:=by simp[St.lay];intro e;omega
theorem rS {I:St}{n k j:Nat}(h:j≠k):(I.raise k n).top j=I.top j:=by simp[St.raise,h]
theorem Nf {P:Program}{t:TypeId}{z b:Nat}{zc:List Value}{σ0 I:St}{o idn id id2 n m m':Nat}{xs ys:List AV}{K:AV->St->Prop}(ht:Nm P t=some (z,b,zc))(hK:KeepR o idn σ0 I)(hO:Own σ0 I id n)
  (hz:0<z) (hzc:zc.length=z) (hx:xs.length=n*z) (hy:ys.length=m*z) (hf:ys.all flat=true) (hm:0<m) (hb:(n+m)*b<=140737488355328) (hl:n+m<=1099511627776)
  (h:∀id' I',Own σ0 I' id' (n+m)->KeepR o idn σ0 I'->I'.obj=I.obj->I'.nobj=I.nobj->I'.ver=I.ver->I.ntop<I'.ntop->(∀k,k<I.ntop->k+2≠id->I'.top k=I.top k)->(id'=id\/I.ntop+2<=id')->K (sl id' (n+m) (xs++ys)) I'):Ib P t t (sl id n xs) (sl id2 m ys) (I.lay m') K:=by
 unfold Ib cU;left;simp only[ht];rw[if_pos ⟨trivial,hz,hzc,hx,hy,hf,hm,hb,hl⟩];rcases hO with⟨rfl,rfl⟩|⟨k,rfl,h2,h3,h4,h5⟩
 ·have aa:xs=[]:=List.eq_nil_of_length_eq_zero (by simpa using hx);subst aa;have ac:=hK.ntop
  have:=h ((I.lay m').ntop+2) ((I.lay m').lay m) (by rw[Nat.zero_add];exact .inr ⟨(I.lay m').ntop,rfl,by simp[St.lay];omega,by simp[St.lay],by simp[St.lay],hm⟩) ((hK.lay m').lay m) rfl rfl rfl (by simp[St.lay];omega)
   (fun j hj _=>by rw[S2 (by rw[J9];omega),S2 hj]) (by rw[J9];omega)
  simpa using this
 ·have e1:(I.lay m').top k=n:=by simp[St.lay];rw[if_neg (by omega)];exact h4
  simp only;rw[if_pos ⟨e1,h5⟩]
  exact h (k+2) _ (.inr ⟨k,rfl,h2,by simp[St.raise,St.lay];omega,by simp[St.raise],by omega⟩) ((hK.lay m').raise (.inl h2) _) rfl rfl rfl (by simp[St.raise,St.lay])
   (fun j hj ab=>by rw[rS (by omega),S2 hj]) (.inl rfl)
theorem nS {P:Program}{t:TypeId}{z b:Nat}{zc:List Value}{σ0 I:St}{o id id2 n m m':Nat}{xs ys:List AV}{K:AV->St->Prop}(ht:Nm P t=some (z,b,zc))(hO:OwnN I id n)
  (hz:0<z) (hzc:zc.length=z) (hx:xs.length=n*z) (hy:ys.length=m*z) (hf:ys.all flat=true) (hm:0<m) (hb:(n+m)*b<=140737488355328) (hl:n+m<=1099511627776)
  (h:∀id' I',OwnN I' id' (n+m)->KeepR o id I I'->I'.obj=I.obj->I'.nobj=I.nobj->I'.ver=I.ver->(id'=id\/I.ntop+2<=id')->K (sl id' (n+m) (xs++ys)) I'):Ib P t t (sl id n xs) (sl id2 m ys) (I.lay m') K:=by
 unfold Ib cU;left;simp only[ht];rw[if_pos ⟨trivial,hz,hzc,hx,hy,hf,hm,hb,hl⟩];have hR:=KeepR.refl o id I;rcases hO with⟨rfl,rfl⟩|⟨k,rfl,h3,h4,h5⟩
 ·have aa:xs=[]:=List.eq_nil_of_length_eq_zero (by simpa using hx);subst aa;have:=h ((I.lay m').ntop+2) ((I.lay m').lay m) (by rw[Nat.zero_add];exact .inr ⟨(I.lay m').ntop,rfl,by simp[St.lay],by simp[St.lay],hm⟩) ((hR.lay m').lay m) rfl rfl rfl (by rw[J9];omega);simpa using this
 ·have e1:(I.lay m').top k=n:=by simp[St.lay];rw[if_neg (by omega)];exact h4
  simp only;rw[if_pos ⟨e1,h5⟩];exact h (k+2) _ (.inr ⟨k,rfl,by simp[St.raise,St.lay];omega,by simp[St.raise],by omega⟩) ((hR.lay m').raise (.inr rfl) _) rfl rfl rfl (.inl rfl)
structure RS (Bd:Nat)(t:Tx)(o:Nat)(N:List Tx)(id:Nat)(s:Tx)(I:St):Prop where
 obj:I.obj o=Le t s (sl id N.length (N.map str))
 lt:o<I.nobj
 own:OwnN I id N.length
 suf:s<:+t
 len:N.length+s.length<=Bd+t.length/\Bd<=1000
structure Rs (o:Nat)(I:St)(id:Nat)(I':St)(id':Nat):Prop where
 keep:KeepR o id I I'
 nid:id'=id\/I.ntop+2<=id'
theorem Rs.refl (o:Nat)(I:St)(id:Nat):Rs o I id I id:=⟨KeepR.refl _ _ _,.inl rfl⟩
theorem Rs.trans {o:Nat}{a b c:St}{i j k:Nat}(h:Rs o a i b j)(g:Rs o b j c k):Rs o a i c k:=
 ⟨h.keep.trans h.nid g.keep,by have:=h.keep.ntop;rcases h.nid with h1|h1<;>rcases g.nid with h2|h2<;>omega⟩
theorem Rs.ofX {o:Nat}{a b:St}{i:Nat}(h:KeepX o a b):Rs o a i b i:=⟨h.kr i,.inl rfl⟩
theorem RS.stepX {t:Tx}{o:Nat}{N:List Tx}{id:Nat}{s r:Tx}{I I':St}(h:RS Bd t o N id s I)(k:KeepX o I I')(ho:I'.obj o=Le t r (sl id N.length (N.map str)))(hr:r<:+t)(hl:r.length<=s.length):RS Bd t o N id r I':=
 ⟨ho,Nat.lt_of_lt_of_le h.lt k.nobj,h.own.keepX k,hr,by have:=h.len;omega⟩
theorem lZ (c:Int)(s:Tx):(Az c s).rest<:+s:=by
 cases s with
 |nil=>exact List.suffix_refl _
 |cons b r=>
  unfold Az;dsimp only;split
  ·exact List.suffix_cons b r
  ·exact List.suffix_refl _
theorem Ir {t:Tx}{o:Nat}{N:List Tx}{id:Nat}{s:Tx}{c:Int}{I:St}(ht:t.length<=1000)(h:RS Bd t o N id s I):
  ACalls Tryz.prog 132 [ptr o 0,sc (.int .u8 c)] I fun x I'=>x=sc (.bool (Az c s).ok)/\KeepX o I I'/\RS Bd t o N id (Az c s).rest I':=by
 refine ACalls.mono (Qn t s o _ c ht h.suf I h.obj h.lt) ?_;rintro x I' ⟨hK,hm⟩;have hr:=lZ c s;have hl:=hr.length_le;have hs:=hr.trans h.suf;cases hp:Az c s with
 |bad e=>
  rw[hp]at hm hr hl hs;obtain⟨rfl,hO,rfl⟩:=hm;exact⟨rfl,hK,h.stepX hK hO hs hl⟩
 |got u r=>
  rw[hp]at hm hr hl hs;obtain⟨rfl,hO,-⟩:=hm;exact⟨rfl,hK,h.stepX hK hO hs hl⟩
variable {Bd:Nat}
theorem KeepX.new {o:Nat}{I I':St}(h:KeepX o I I')(cs:List AV):KeepX o I (I'.new cs):=by
 have:=h.nobj;exact⟨by simp[St.new];omega,fun p hp aa=>by simp[St.new];rw[if_neg (by omega)];exact h.obj p hp aa,h.ver,h.ntop,h.top⟩
theorem KeepX.putN {o p:Nat}{I I':St}(h:KeepX o I I')(hp:I.nobj<=p)(cs:List AV):KeepX o I (I'.put p cs):=
 ⟨h.nobj,fun q hq aa=>by simp[St.put];rw[if_neg (by omega)];exact h.obj q hq aa,fun q hq aa=>by simp[St.put];rw[if_neg (by omega)];exact h.ver q hq aa,h.ntop,h.top⟩
theorem KeepX.lay {o:Nat}{a b:St}(h:KeepX o a b)(n:Nat):KeepX o a (b.lay n):=by
 have:=h.ntop;exact⟨h.nobj,h.obj,h.ver,by simp[St.lay];omega,fun k hk=>by simp[St.lay];rw[if_neg (by omega)];exact h.top k hk⟩
def Al:Tx->Bool×Int
 |[]=>(false,0)
 |b::r=>if Bm b.toNat=true then (true,(b.toNat:Int)-65)else (false,H7 (b::r))
theorem D1 {b:UInt8}{r:Tx}(h:Bm b.toNat=true):Al (b::r)=(true,(b.toNat:Int)-65):=by unfold Al;dsimp only;rw[if_pos h]
theorem Mb {b:UInt8}{r:Tx}(h:Bm b.toNat=false):Al (b::r)=(false,H7 (b::r)):=by unfold Al;dsimp only;rw[if_neg (by rw[h];simp)]
def Ri (x:Tx):List AV:=[sc (.bool (Al x).1),sc (.int .i64 (Al x).2)]
def Aw (ts:List Tx):List AV:=ts.flatMap Ri
theorem Eu (ts:List Tx):(Aw ts).length=ts.length*2:=by
 induction ts with
 |nil=>rfl
 |cons a l ih=>unfold Aw at*;rw[List.flatMap_cons,List.length_append,ih];simp[Ri];omega
theorem eM (ts:List Tx)(x:Tx):Aw (ts++[x])=Aw ts++Ri x:=by simp[Aw]
theorem gD (p:Int->Bool)(n:Nat)(s:Tx):(Ax p n s).2<:+s:=⟨(Ax p n s).1,(D8 p n s).1.symm⟩
theorem U0 (s:Tx):(Cj s).rest<:+s:=by
 cases s with
 |nil=>exact List.suffix_refl _
 |cons b r=>
  unfold Cj;dsimp only;split
  ·exact List.suffix_cons b r
  split
  ·exact List.suffix_cons b r
  split
  ·exact (gD A0 2 r).trans (List.suffix_cons b r)
  ·exact List.suffix_refl _
theorem Wy (t r:Tx)(b:UInt8)(o:Nat)(nm:AV)(ht:t.length<=1000)(hs:(b::r)<:+t)(I:St)(ho:I.obj o=Le t (b::r) nm)(hn:o<I.nobj)(ad:((b.toNat:Int)==48)=true):
  ACalls Tryz.prog 250 [ptr o 0] I fun x I'=>KeepX o I I'/\I'.obj o=Le t r nm/\x=sc (.int .i64 0):=by
 have hp:Az 48 (b::r)= .got () r:=by unfold Az;dsimp only;rw[if_pos ad]
 have hT:=Qn t (b::r) o nm 48 ht hs I ho hn;rw[hp]at hT;refine Z9 57 [.tmp 2] Tryz.func250 ?_
 repeat' (first|refine Z1 ?_|(refine Z8 ?_;intro κ hκ)|(refine Z4 ?_;clear hκ κ)|(refine Z2 ?_ ?_<;>intro h ac<;>try exact Xp)|(refine Z5 ?_;refine Xi (hT) ?_;rintro _ _ ⟨aa,rfl,ab,-⟩)|refine Z3 ?_|exact⟨⟩|(apply hκ.out;clear hκ κ))
 first|exact⟨_,rfl,aa,ab,rfl⟩|exact⟨_,rfl,aa,ab⟩|exact⟨_,rfl,aa,rfl⟩|exact⟨_,rfl,rfl⟩
theorem Ur {t:Tx}{o:Nat}{N:List Tx}{id:Nat}{s:Tx}{I:St}(ht:t.length<=1000)(hR:RS Bd t o N id s I):
  ACalls Tryz.prog 216 [ptr o 0] I fun x I'=>∃v k,x=tp [ag [sc (.bool v),sc (.int .i64 k)],sc (.bool (Cj s).ok)]/\KeepX o I I'/\RS Bd t o N id (Cj s).rest I'/\Rd.Val (Cj s) fun w=>Al w=(v,k):=by
 have ah:Ajs (RS Bd t o N id s I):=hR;obtain⟨ho,hn,-,hs,-⟩:=hR;have au:=Hm hs;have av:=Pd hs;have ac:Ajs ((Cj s).rest.length<=s.length):=(U0 s).length_le;have hrs:Ajs ((Cj s).rest<:+t):=(U0 s).trans hs;generalize ad:sl id N.length (N.map str)=nm at ho;have ad:Ajs (sl id N.length (N.map str)=nm):=ad;have ho':Ajs (I.obj o=Le t s nm):=ho;unfold Le R9 at ho;refine Z9 46 [.cell 2 151,.tmp 3] Tryz.func216 ?_
 repeat' (first|refine Z1 ?_|(refine Z8 ?_;intro κ hκ)|(refine Z4 ?_;clear hκ κ)|(refine Z2 ?_ ?_<;>intro h aa<;>try exact Xp)|refine Z3 ?_|exact⟨⟩|(apply hκ.out;clear hκ κ))
 refine A9 Aj (fun _=>True) [9] [0,1,2,3,4,5,6,7,8] [9] (by kernel_rfl) (fun _ _ _ h=>h) ?_;intro κ hκ;cases s with
 |nil=>
  simp only[List.length_nil,Nat.sub_zero]at ho av au;refine Z3 ?_
  repeat' (first|refine Z1 ?_|(refine Z8 ?_;intro κ hκ)|(refine Z4 ?_;clear hκ κ)|(refine Z2 ?_ ?_<;>intro h aa<;>try exact Xp)|refine Z3 ?_|exact⟨⟩|(apply hκ.out;clear hκ κ))
  have hK:KeepX o I ((I.new [sc (.bool false),sc (.int .i64 0)]).put I.nobj [sc (.bool false),sc (.int .i64 0)]):=((KeepX.refl _ _).new _).putN (Nat.le_refl _) _;refine⟨_,rfl,false,0,rfl,hK,ah.out.stepX hK ?_ hrs.out ac.out,trivial⟩;rw[ad.out,Ai hn,Ag hn];exact ho'.out
 |cons b r=>
  simp only[List.length_cons,List.head?_cons]at ho av au;refine Z3 ?_
  repeat' (first|refine Z1 ?_|(refine Z8 ?_;intro κ hκ)|(refine Z4 ?_;clear hκ κ)|(refine Z2 ?_ ?_<;>intro h aa<;>try exact Xp)|refine Z3 ?_|exact⟨⟩|(apply hκ.out;clear hκ κ))
  refine A9 Aj (fun _=>True) [9] [0,1,2,3,4,5,6,7,8] [9] (by kernel_rfl) (fun _ _ _ h=>h) ?_;intro κ hκ;refine Z3 ?_;have ay:A0 b.toNat=true->48<=(b.toNat:Int)/\(b.toNat:Int)<=57:=fun h=>by simp[A0]at h;omega
  have an:Bm b.toNat=true->65<=(b.toNat:Int)/\(b.toNat:Int)<=90:=fun h=>by simp[Bm]at h;omega
  have am:Ajs ((I.new [sc (.bool false),sc (.int .i64 0)]).obj o=Le t (b::r) nm):=by rw[Ajs,Ag hn];exact ho'.out
  have ax:o<(I.new [sc (.bool false),sc (.int .i64 0)]).nobj:=by rw[Aa];omega
  have aj:Ajs (KeepX o I (I.new [sc (.bool false),sc (.int .i64 0)])):=(KeepX.refl _ _).new _;by_cases ab:((b.toNat:Int)==48)=true
  ·have hl:Bm b.toNat=false:=by
    cases hl:Bm b.toNat with
    |false=>rfl
    |true=>have:=an hl;simp at ab;omega
   have hd:A0 b.toNat=true:=by simp at ab;simp[A0];omega
   have hp:Cj (b::r)= .got [b] r:=by
    unfold Cj;dsimp only;rw[if_neg (by rw[hl];simp),if_pos ab]
   rw[hp]at ac hrs;have hE:Ajs (Al [b]=(false,0)):=by
    rw[Ajs,Mb hl];simp at ab;simp[H7];omega
   repeat' (first|refine Z1 ?_|(refine Z8 ?_;intro κ hκ)|(refine Z4 ?_;clear hκ κ)|(refine Z2 ?_ ?_<;>intro h aa<;>try exact Xp)|(refine Z5 ?_;first|(refine Xi (Gn _ _) ?_;rintro _ _ ⟨rfl,rfl⟩)|(refine Xi (Gm _ _) ?_;rintro _ _ ⟨rfl,rfl⟩)|(refine Xi (Wy t r b o nm ht hs _ am.out ax ab) ?_;rintro _ _ ⟨ae,ai,rfl⟩;(have ak:=ae.obj I.nobj (by rw[Aa];omega) (by omega);rw[Ap]at ak;have ap:Ajs _:=ae;have ao:Ajs _:=ai;clear ae ai)))|refine Z3 ?_|exact⟨⟩|(apply hκ.out;clear hκ κ))
   rename_i I1;have hK:KeepX o I (I1.put I.nobj [sc (.bool false),sc (.int .i64 0)]):=(aj.out.trans ap.out).putN (Nat.le_refl _) _;refine⟨_,rfl,false,0,rfl,hK,ah.out.stepX hK ?_ hrs.out ac.out,hE.out⟩;rw[ad.out,Ai hn];exact ao.out
  ·have ab:((b.toNat:Int)==48)=false:=by simpa using ab
   by_cases hl:Bm b.toNat=true
   ·have hp:Cj (b::r)= .got [b] r:=by
     unfold Cj;dsimp only;rw[if_pos hl]
    rw[hp]at ac hrs;have hE:Ajs (Al [b]=(true,(b.toNat:Int)-65)):=by
     exact D1 hl
    have an:=an hl;have hw:IntKind.i64.wrap (IntKind.u8.wrap ((b.toNat:Int)-65))=(b.toNat:Int)-65:=by
     rw[Abs.u8w (by omega) (by omega),Abs.i64w (by omega) (by omega)]
    repeat' (first|refine Z1 ?_|(refine Z8 ?_;intro κ hκ)|(refine Z4 ?_;clear hκ κ)|(refine Z2 ?_ ?_<;>intro h aa<;>try exact Xp)|(refine Z5 ?_;refine Xi (Gn _ _) ?_;rintro _ _ ⟨rfl,rfl⟩)|refine Z3 ?_|exact⟨⟩|(apply hκ.out;clear hκ κ))
    have hK:KeepX o I (((I.new [sc (.bool false),sc (.int .i64 0)]).put o [str t,sc (.int .i64 ((t.length-(r.length+1):Nat)+1)),nm]).put I.nobj [sc (.bool true),sc (.int .i64 ((b.toNat:Int)-65))]):=(aj.out.put _).putN (Nat.le_refl _) _;refine⟨_,rfl,true,_,rfl,hK,ah.out.stepX hK ?_ hrs.out ac.out,hE.out⟩;rw[ad.out,Ai hn,Ak];unfold Le R9;rw[show ((t.length-(r.length+1):Nat):Int)+1=((t.length-r.length:Nat):Int)by omega];rfl
   ·have hl:Bm b.toNat=false:=by simpa using hl
    by_cases hd:A0 b.toNat=true
    ·have hN:=R8 t (b::r) o nm ht hs _ am.out ax (fun b' r' e=>by cases e;exact ab);have hw:Ax A0 3 (b::r)=(b::(Ax A0 2 r).1,(Ax A0 2 r).2):=by rw[Ax,if_pos hd]
     rw[hw]at hN;have hN:Ajs _:=hN;have af:Gz b.toNat=true:=by
      rcases digit_iff.1 hd with h|h
      ·exact h
      ·rw[ab]at h;cases h
     have hp:Cj (b::r)= .got (b::(Ax A0 2 r).1) (Ax A0 2 r).2:=by
      unfold Cj;dsimp only;rw[if_neg (by rw[hl];simp),if_neg (by rw[ab];simp),if_pos af]
     rw[hp]at ac hrs;have hE:Ajs (Al (b::(Ax A0 2 r).1)=(false,H7 (b::(Ax A0 2 r).1))):=by
      exact Mb hl
     clear hw
     repeat' (first|refine Z1 ?_|(refine Z8 ?_;intro κ hκ)|(refine Z4 ?_;clear hκ κ)|(refine Z2 ?_ ?_<;>intro h aa<;>try exact Xp)|(refine Z5 ?_;first|(refine Xi (Gn _ _) ?_;rintro _ _ ⟨rfl,rfl⟩)|(refine Xi (Gm _ _) ?_;rintro _ _ ⟨rfl,rfl⟩)|(refine Xi (hN.out) ?_;rintro _ _ ⟨ae,q,ai,hq,aw,rfl⟩;(have ak:=ae.obj I.nobj (by rw[Aa];omega) (by omega);rw[Ap]at ak;have ap:Ajs _:=ae;have ao:Ajs _:=ai;have HQ:Ajs _:=aw;clear ae ai aw)))|refine Z3 ?_|exact⟨⟩|(apply hκ.out;clear hκ κ))
     rename_i I1;have hK:KeepX o I (I1.put I.nobj [sc (.bool false),sc (.int .i64 (H7 (b::(Ax A0 2 r).1)))]):=(aj.out.trans ap.out).putN (Nat.le_refl _) _;refine⟨_,rfl,false,_,rfl,hK,ah.out.stepX hK ?_ hrs.out ac.out,hE.out⟩;rw[ad.out,Ai hn,show (Rd.got (b::(Ax A0 2 r).1) (Ax A0 2 r).2).rest=q from HQ.out.symm];exact ao.out
    ·have hd:A0 b.toNat=false:=by simpa using hd
     have af:Gz b.toNat=false:=by
      cases af:Gz b.toNat with
      |false=>rfl
      |true=>rw[digit_iff.2 (.inl af)]at hd;cases hd
     have hp:Cj (b::r)= .bad (b::r):=by
      unfold Cj;dsimp only;rw[if_neg (by rw[hl];simp),if_neg (by rw[ab];simp),if_neg (by rw[af];simp)]
     rw[hp]at ac hrs
     repeat' (first|refine Z1 ?_|(refine Z8 ?_;intro κ hκ)|(refine Z4 ?_;clear hκ κ)|(refine Z2 ?_ ?_<;>intro h aa<;>try exact Xp)|(refine Z5 ?_;first|(refine Xi (Gn _ _) ?_;rintro _ _ ⟨rfl,rfl⟩)|(refine Xi (Gm _ _) ?_;rintro _ _ ⟨rfl,rfl⟩))|refine Z3 ?_|exact⟨⟩|(apply hκ.out;clear hκ κ))
     have hK:KeepX o I ((I.new [sc (.bool false),sc (.int .i64 0)]).put I.nobj [sc (.bool false),sc (.int .i64 0)]):=aj.out.putN (Nat.le_refl _) _;refine⟨_,rfl,false,0,rfl,hK,ah.out.stepX hK ?_ hrs.out ac.out,trivial⟩;rw[ad.out,Ai hn];exact am.out
end Go.Proofs.YtmoeoppbmhfbpabGreatDoorL
