import Derived.Test.YtmoeoppbmhfbpabGreatDoorGAwkB
import Derived.Test.YtmoeoppbmhfbpabGreatDoorGTigA
set_option maxRecDepth 100000
set_option linter.all false
namespace Go.Proofs.YtmoeoppbmhfbpabGreatDoorG
open Go.Abs
theorem Ri {α β:Type}(f:α->β)(n:Nat)(o l:List α):rpl n (o.map f) (l.map f)=(rpl n o l).map f:=by
 unfold rpl;rw[List.zipIdx_map,Afq,List.map_flatMap];congr 1;funext p;simp only[Prod.map,id];split<;>rfl
structure Emb {ι:Type}(I:ι->Prop)(e e2:ι->Tm):Prop where
 inj:∀p q,I p->I q->(e p=e q↔e2 p=e2 q)
 var:∀p,I p->(e p).1=(e2 p).1
 num:∀p,I p->(e p).1=false->e2 p=e p
 v1:∀p,I p->qP (e p)
 v2:∀p,I p->qP (e2 p)
section
variable {ι:Type} {I:ι->Prop} {e e2:ι->Tm}
def qM (I:ι->Prop)(e e2:ι->Tm)(P P2:List Tm):Prop:=P.length=52/\P2.length=52/\∀p,I p->∃q,I q/\F9 P (e p)=e q/\F9 P2 (e2 p)=e2 q
theorem mC {P:List Tm}{v w t:Tm}(hP:P.length=52)(ht:qP t)(hv:v.1=true):F9 (Rk P v w) t=if F9 P t=v then w else F9 P t:=by
 obtain⟨b,n⟩:=t;cases b with
 |true=>
  obtain⟨k,hk,e⟩:=ht rfl;dsimp only at e;subst e;have hg:=List.getElem?_eq_getElem (show k<P.length by omega);unfold F9 Rk;simp only[if_true,Afz,List.getElem?_map,hg,Afk,Option.getD_some]
 |false=>
  have e1:∀Q,F9 Q (false,n)=(false,n):=fun Q=>if_neg (by simp);rw[e1,e1,if_neg];intro h;rw[<-h]at hv;cases hv
theorem pG (hE:Emb I e e2){P P2:List Tm}(h:qM I e e2 P P2){p q:ι}(hp:I p)(hq:I q):(Ms P (e p) (e q)=none/\Ms P2 (e2 p) (e2 q)=none)\/∃P' P2',Ms P (e p) (e q)=some P'/\Ms P2 (e2 p) (e2 q)=some P2'/\qM I e e2 P' P2':=by
 obtain⟨a,ha,a1,a2⟩:=h.2.2 p hp;obtain⟨b,hb,b1,b2⟩:=h.2.2 q hq;have put:∀{v w:ι},I v->I w->(e v).1=true->qM I e e2 (Rk P (e v) (e w)) (Rk P2 (e2 v) (e2 w)):=fun {v w} hv hw aa=>
  ⟨by rw[Ol];exact h.1,by rw[Ol];exact h.2.1,fun r hr=>by
   obtain⟨s,hs,s1,s2⟩:=h.2.2 r hr;rw[mC h.1 (hE.v1 r hr) aa,mC h.2.1 (hE.v2 r hr) (by rw[<-hE.var v hv];exact aa),s1,s2];by_cases g:e s=e v
   ·rw[if_pos g,if_pos ((hE.inj s v hs hv).1 g)];exact⟨w,hw,rfl,rfl⟩
   ·rw[if_neg g,if_neg fun g2=>g ((hE.inj s v hs hv).2 g2)]
    exact⟨s,hs,rfl,rfl⟩⟩
 unfold Ms;rw[a1,a2,b1,b2];by_cases g:e a=e b
 ·rw[if_pos g,if_pos ((hE.inj a b ha hb).1 g)];exact .inr ⟨P,P2,rfl,rfl,h⟩
 ·rw[if_neg g,if_neg fun g2=>g ((hE.inj a b ha hb).2 g2),<-hE.var a ha,<-hE.var b hb];cases ab:(e b).1 with
  |true=>exact .inr ⟨_,_,rfl,rfl,put hb ha ab⟩
  |false=>
   cases ac:(e a).1 with
   |true=>exact .inr ⟨_,_,rfl,rfl,put ha hb ac⟩
   |false=>exact .inl ⟨rfl,rfl⟩
theorem X3 (hE:Emb I e e2):∀(L M:List ι) (P P2:List Tm),qM I e e2 P P2->(∀p∈L,I p)->(∀p∈M,I p)->(Di P (L.map e) (M.map e)=none/\Di P2 (L.map e2) (M.map e2)=none)\/∃P' P2',Di P (L.map e) (M.map e)=some P'/\Di P2 (L.map e2) (M.map e2)=some P2'/\qM I e e2 P' P2'
 |[],M,P,P2,h,_,_=>.inr ⟨P,P2,rfl,rfl,h⟩
 |p::L,[],P,P2,h,_,_=>.inl ⟨rfl,rfl⟩
 |p::L,q::M,P,P2,h,hL,hM=>by
  simp only[Ad9,Di];rcases pG hE h (hL p (by simp)) (hM q (by simp))with⟨h1,h2⟩|⟨P',P2',h1,h2,h3⟩
  ·rw[h1,h2];exact .inl ⟨rfl,rfl⟩
  ·rw[h1,h2];exact X3 hE L M P' P2' h3 (fun r hr=>hL r (by simp[hr])) fun r hr=>hM r (by simp[hr])
theorem dF {t:Tm}(h:qP t):F9 pidn t=t:=by
 obtain⟨b,n⟩:=t;cases b with
 |true=>
  obtain⟨k,hk,e⟩:=h rfl;dsimp only at e;subst e;simp[F9,pidn,hk]
 |false=>rfl
theorem sX (hE:Emb I e e2):qM I e e2 pidn pidn:=⟨Oo,Oo,fun p hp=>⟨p,hp,dF (hE.v1 p hp),dF (hE.v2 p hp)⟩⟩
theorem eQ {β:Type}{h h2:β->Int}{p:β}:∀K:List β,(∀q∈K,h q=h p↔h2 q=h2 p)->(K.map h).idxOf (h p)=(K.map h2).idxOf (h2 p)
 |[],_=>rfl
 |q::K,g=>by
  rw[Ad9,Ad9,Ae7,Ae7,eQ K fun r hr=>g r (by simp[hr])];have:=g q (by simp);by_cases e:h q=h p
  ·rw[e,this.1 e];simp
  ·have e2:¬h2 q=h2 p:=fun e2=>e (this.2 e2);have b1:(h q==h p)=false:=by simpa using e
   have b2:(h2 q==h2 p)=false:=by simpa using e2
   rw[b1,b2]
theorem R7 {β:Type}{J:β->Prop}{g g2:β->Tm}(hi:∀p q,J p->J q->(g p=g q↔g2 p=g2 q))(hv:∀p,J p->(g p).1=(g2 p).1):∀(L K:List β),(∀p∈L,J p)->(∀p∈K,J p/\(g p).1=true)->
  ∃K':List β,(∀p∈K',J p/\(g p).1=true)/\(L.map g).foldl vF (K.map fun p=>(g p).2)=K'.map (fun p=>(g p).2)/\(L.map g2).foldl vF (K.map fun p=>(g2 p).2)=K'.map fun p=>(g2 p).2
 |[],K,_,hK=>⟨K,hK,rfl,rfl⟩
 |p::L,K,hL,hK=>by
  have hp:=hL p (by simp);have hs:∀q∈K,(g p).1=true->((g q).2=(g p).2↔(g2 q).2=(g2 p).2):=fun q hq aa=>by
   obtain⟨ac,ab⟩:=hK q hq;have:=hi q p ac hp;constructor
   ·intro h;rw[this.1 (Afi (by rw[ab,aa]) h)]
   ·intro h;rw[this.2 (Afi (by rw[<-hv q ac,<-hv p hp,ab,aa]) h)]
  have hm:(g p).1=true->((g p).2∈K.map (fun p=>(g p).2)↔(g2 p).2∈K.map fun p=>(g2 p).2):=fun aa=>by
   simp only[Aey];exact⟨fun⟨q,hq,h⟩=>⟨q,hq,(hs q hq aa).1 h⟩,fun⟨q,hq,h⟩=>⟨q,hq,(hs q hq aa).2 h⟩⟩
  rw[Ad9,Ad9,Ady,Ady];by_cases c:(g p).1=true/\(g p).2∉K.map fun p=>(g p).2
  ·have c2:(g2 p).1=true/\(g2 p).2∉K.map fun p=>(g2 p).2:=⟨by rw[<-hv p hp];exact c.1,fun h=>c.2 ((hm c.1).2 h)⟩;have e1:vF (K.map fun p=>(g p).2) (g p)=(K++[p]).map fun p=>(g p).2:=by rw[vF,if_pos c];simp
   have e2:vF (K.map fun p=>(g2 p).2) (g2 p)=(K++[p]).map fun p=>(g2 p).2:=by rw[vF,if_pos c2];simp
   rw[e1,e2];exact R7 hi hv L (K++[p]) (fun q hq=>hL q (by simp[hq])) fun q hq=>by
    rcases Aew.1 hq with hq|hq
    ·exact hK q hq
    ·simp at hq;subst hq;exact⟨hp,c.1⟩
  ·have c2:¬((g2 p).1=true/\(g2 p).2∉K.map fun p=>(g2 p).2):=fun h=>by
    have aa:(g p).1=true:=by rw[hv p hp];exact h.1
    exact c ⟨aa,fun g=>h.2 ((hm aa).1 g)⟩
   rw[vF,if_neg c,vF,if_neg c2];exact R7 hi hv L K (fun q hq=>hL q (by simp[hq])) hK
theorem sQ {β:Type}{J:β->Prop}{g g2:β->Tm}(hi:∀p q,J p->J q->(g p=g q↔g2 p=g2 q))(hv:∀p,J p->(g p).1=(g2 p).1)(hn:∀p,J p->(g p).1=false->g2 p=g p){L:List β}(hL:∀p∈L,J p){p:β}(hp:p∈L):Ge ((L.map g).foldl vF []) (g p)=Ge ((L.map g2).foldl vF []) (g2 p):=by
 obtain⟨K,hK,e1,e2⟩:=R7 hi hv L [] hL (by simp);simp only[Aea]at e1 e2;rw[e1,e2];have hJ:=hL p hp;unfold Ge;rw[<-hv p hJ];cases c:(g p).1 with
 |false=>rw[hn p hJ c];rfl
 |true=>
  have hs:∀q∈K,((g q).2=(g p).2↔(g2 q).2=(g2 p).2):=fun q hq=>by
   obtain⟨ac,ab⟩:=hK q hq;have:=hi q p ac hJ;constructor
   ·intro h;rw[this.1 (Afi (by rw[ab,c]) h)]
   ·intro h;rw[this.2 (Afi (by rw[<-hv q ac,<-hv p hJ,ab,c]) h)]
  have hm:(g p).2∈K.map (fun p=>(g p).2)↔(g2 p).2∈K.map fun p=>(g2 p).2:=by
   simp only[Aey];exact⟨fun⟨q,hq,h⟩=>⟨q,hq,(hs q hq).1 h⟩,fun⟨q,hq,h⟩=>⟨q,hq,(hs q hq).2 h⟩⟩
  have hx:=eQ (h:=fun p=>(g p).2) (h2:=fun p=>(g2 p).2) (p:=p) K hs;simp only[if_true];unfold iN;by_cases aa:(g p).2∈K.map fun p=>(g p).2
  ·rw[if_pos aa,if_pos (hm.1 aa)];rw[hx]
  ·rw[if_neg aa,if_neg fun h=>aa (hm.2 h)]
end
abbrev LT:=Bool×Tx
def Ix:LT->Tm
 |(false,t)=>Am t
 |(true,t)=>F9 aprt (Am t)
def wR (s:Bool)(a:RAtom):Bool×RAtom:=(s,a)
def jE (x:RItem)(k:Nat)(y:RItem):List (Bool×RAtom):=rpl k (y.body.map (wR true)) (x.body.map (wR false))
def uI (x:RItem)(B:List (Bool×RAtom)):List LT:=(x.head.terms.map fun t=>(false,t))++B.flatMap fun b=>b.2.terms.map fun t=>(b.1,t)
def jnI (x:RItem)(B:List (Bool×RAtom))(f:LT->Tx):RItem:=⟨false,⟨false,x.head.pred,x.head.terms.map fun t=>f (false,t)⟩,B.map fun b=>⟨b.2.nt,b.2.pred,b.2.terms.map fun t=>f (b.1,t)⟩⟩
theorem uH {x y:RItem}{k:Nat}{b:Bool×RAtom}(h:b∈jE x k y):(b.1=false/\b.2∈x.body)\/(b.1=true/\b.2∈y.body):=by
 rcases Dm h with h|h
 ·obtain⟨a,ha,rfl⟩:=Aey.1 h;exact .inl ⟨rfl,ha⟩
 ·obtain⟨a,ha,rfl⟩:=Aey.1 h;exact .inr ⟨rfl,ha⟩
theorem rK {N:List Tx}{x y:RItem}{k:Nat}(hx:∀a∈x.body,a.pred∈N)(aa:x.head.pred∈N)(hy:∀a∈y.body,a.pred∈N):(Mh N x k y).map (Ck N)=(x.body[k]?).bind fun a=>(Di pidn (a.terms.map fun t=>Ix (false,t)) (y.head.terms.map fun t=>Ix (true,t))).map fun P=>
  jnI x (jE x k y) fun p=>Lk (Ge (((uI x (jE x k y)).map fun p=>F9 P (Ix p)).foldl vF []) (F9 P (Ix p))):=by
 unfold Mh;cases ha:x.body[k]? with
 |none=>rfl
 |some a=>
  simp only[Aei];have e0:(El aprt (Bt N y)).head.ts=y.head.terms.map fun t=>Ix (true,t):=by
   simp only[El,Nc,Bt,Dr,Ad6];rfl
  have e00:a.terms.map Am=a.terms.map fun t=>Ix (false,t):=rfl;rw[e0,e00];cases Di pidn (a.terms.map fun t=>Ix (false,t)) (y.head.terms.map fun t=>Ix (true,t))with
  |none=>rfl
  |some P=>
   simp only[Afk,Option.some.injEq];let lt:Bool×RAtom->Lit:=fun b=>⟨b.2.nt,⟨(N.idxOf b.2.pred:Nat),b.2.terms.map fun t=>F9 P (Ix (b.1,t))⟩⟩;have eb:((rpl k (El aprt (Bt N y)).body (Bt N x).body).map (iO P))=(jE x k y).map lt:=by
    have h1:(El aprt (Bt N y)).body=(y.body.map (wR true)).map fun b:Bool×RAtom=>(⟨b.2.nt,⟨(N.idxOf b.2.pred:Nat),b.2.terms.map fun t=>Ix (b.1,t)⟩⟩:Lit):=by
     simp only[El,Bt,Ad6];refine Ae0 fun b _=>?_;simp only[Function.comp,Eo,Dr,iO,Nc,wR,Ad6];rfl
    have h2:(Bt N x).body=(x.body.map (wR false)).map fun b:Bool×RAtom=>(⟨b.2.nt,⟨(N.idxOf b.2.pred:Nat),b.2.terms.map fun t=>Ix (b.1,t)⟩⟩:Lit):=by
     simp only[Bt,Ad6];refine Ae0 fun b _=>?_;simp only[Function.comp,Eo,Dr,wR];rfl
    rw[h1,h2,Ri,Ad6];refine Ae0 fun b _=>?_;simp only[Function.comp,iO,Nc,Ad6,lt];rfl
   have er:El P ⟨(Bt N x).head,rpl k (El aprt (Bt N y)).body (Bt N x).body⟩=⟨⟨(N.idxOf x.head.pred:Nat),x.head.terms.map fun t=>F9 P (Ix (false,t))⟩,(jE x k y).map lt⟩:=by
    unfold El;simp only;rw[show Nc P (Bt N x).head=⟨(N.idxOf x.head.pred:Nat),x.head.terms.map fun t=>F9 P (Ix (false,t))⟩by simp only[Nc,Bt,Dr,Ad6];rfl];congr 1
   have ev:Eh ⟨⟨(N.idxOf x.head.pred:Nat),x.head.terms.map fun t=>F9 P (Ix (false,t))⟩,(jE x k y).map lt⟩=((uI x (jE x k y)).map fun p=>F9 P (Ix p)).foldl vF []:=by
    unfold Eh Cb Gc uI;congr 1;simp only[Ae5,Ad5,Ad6,List.map_flatMap,Afq];rfl
   rw[er];unfold Eg Ck jnI;rw[ev];have key:∀(q:Tx) (b:Bool) (ts:List Tm) (V:List Int),q∈N->Lp N b (cT V ⟨(N.idxOf q:Nat),ts⟩)=⟨b,q,ts.map fun u=>Lk (Ge V u)⟩:=fun q b ts V hq=>by
    unfold Lp cT;simp only[Afz,Ad6];rw[List.getElem?_eq_getElem (Afd hq),Afc];rfl
   simp only[Ad6];congr 1
   ·rw[key _ _ _ _ aa,Ad6];rfl
   ·refine Ae0 fun b hb=>?_;simp only[Function.comp,xY,lt];rw[key _ _ _ _ (by rcases uH hb with⟨-,h⟩|⟨-,h⟩;exact hx _ h;exact hy _ h),Ad6];rfl
def eH (x y:RItem):Bool->List Tx
 |false=>Au x
 |true=>Au y
def inT (x y:RItem)(p:LT):Prop:=∃a,(p.1=false/\a∈Ae x\/p.1=true/\a∈Ae y)/\p.2∈a.terms
theorem Pf {t:Tx}(h:UT t):F9 aprt (Am t)=if Ad t=true then (true,26+(Am t).2)else Am t:=by
 cases hv:Ad t with
 |true=>
  obtain⟨k,hk,-,e⟩:=h.enc hv;rw[e];simp[F9,aprt,hk,show k<52 by omega]
 |false=>
  have e1:(Am t).1=false:=by rw[Bw];exact hv
  rw[F9,if_neg (by simp[e1])];rfl
theorem Pj {t:Tx}(h:Ad t=false)(l:List Tx):Cx l t=t:=if_neg (by simp[h])
theorem uW {p q:LT}(hp:UT p.2)(hq:UT q.2)(h:Ix p=Ix q):p.2=q.2/\(Ad p.2=true->p.1=q.1):=by
 have v:∀p:LT,UT p.2->Ix p=if Ad p.2=true then (true,(if p.1=true then 26 else 0)+(Am p.2).2)else Am p.2:=fun p hp=>by
  obtain⟨s,t⟩:=p;cases s with
  |true=>rw[Ix,Pf hp];rfl
  |false=>
   show Am t=_;cases hv:Ad t with
   |true=>
    have e1:(Am t).1=true:=by rw[Bw];exact hv
    exact Afi e1 (by simp)
   |false=>rfl
 rw[v p hp,v q hq]at h;cases ab:Ad p.2 with
 |true=>
  obtain⟨k,hk,ek,ee⟩:=hp.enc ab;cases aa:Ad q.2 with
  |true=>
   obtain⟨j,hj,ej,ef⟩:=hq.enc aa;rw[ab,aa,if_pos rfl,if_pos rfl,ee,ef]at h;have h2:=(Prod.mk.inj h).2;dsimp only at h2;cases h1:p.1<;>cases h3:q.1<;>rw[h1,h3]at h2<;>simp at h2
   ·exact⟨by rw[ek,ej,h2],fun _=>rfl⟩
   ·omega
   ·omega
   ·have:k=j:=Agm;exact⟨by rw[ek,ej,this],fun _=>rfl⟩
  |false=>
   rw[ab,aa,if_pos rfl,if_neg Bool.false_ne_true]at h;have:(Am q.2).1=true:=by rw[<-h]
   rw[Bw,aa]at this;cases this
 |false=>
  cases aa:Ad q.2 with
  |true=>
   rw[ab,aa,if_neg Bool.false_ne_true,if_pos rfl]at h;have:(Am p.2).1=true:=by rw[h]
   rw[Bw,ab]at this;cases this
  |false=>
   rw[ab,aa,if_neg Bool.false_ne_true,if_neg Bool.false_ne_true]at h;exact⟨tellU.inj _ _ hp hq h,fun h=>by cases h⟩
theorem uV {p:LT}(h:UT p.2):qP (Ix p):=by
 intro hv;obtain⟨s,t⟩:=p;cases s with
 |false=>
  have aa:Ad t=true:=by rw[<-Bw];exact hv
  obtain⟨k,hk,-,e⟩:=h.enc aa;exact⟨k,Agm,by show (Am t).2=_;rw[e]⟩
 |true=>
  cases aa:Ad t with
  |true=>
   obtain⟨k,hk,-,e⟩:=h.enc aa;refine⟨26+k,Agm,?_⟩;show (F9 aprt (Am t)).2=_;rw[Pf h,aa,if_pos rfl,e];simp
  |false=>
   have:(F9 aprt (Am t)).1=true:=hv;rw[Pf h,aa,if_neg (by simp),Bw,aa]at this;cases this
theorem jO {p:LT}(h:UT p.2):(Ix p).1=Ad p.2:=by
 obtain⟨s,t⟩:=p;cases s with
 |false=>exact Bw t
 |true=>
  show (F9 aprt (Am t)).1=_;rw[Pf h];cases hv:Ad t with
  |true=>rfl
  |false=>rw[if_neg (by simp),Bw];exact hv
theorem zD {x y:RItem}(hx:XR x)(hy:XR y)(ux:∀a∈Ae x,∀t∈a.terms,UT t)(uy:∀a∈Ae y,∀t∈a.terms,UT t):Emb (inT x y) Ix fun p=>Ix (p.1,Cx (eH x y p.1) p.2):=by
 have hu:∀p,inT x y p->UT p.2:=fun p ⟨a,h,ht⟩=>by
  rcases h with⟨-,h⟩|⟨-,h⟩
  ·exact ux a h _ ht
  ·exact uy a h _ ht
 have hw:∀p,inT x y p->UT (Cx (eH x y p.1) p.2)/\Ad (Cx (eH x y p.1) p.2)=Ad p.2:=fun p ⟨a,h,ht⟩=>by
  rcases h with⟨e,h⟩|⟨e,h⟩
  ·rw[e];exact⟨hx.ut h ht,Gd fun hv=>hx.rng h ht hv⟩
  ·rw[e];exact⟨hy.ut h ht,Gd fun hv=>hy.rng h ht hv⟩
 refine⟨fun p q hp hq=>⟨fun h=>?_,fun h=>?_⟩,fun p hp=>?_,fun p hp hv=>?_,fun p hp=>uV (hu p hp),fun p hp=>uV (hw p hp).1⟩
 ·obtain⟨h1,h2⟩:=uW (hu p hp) (hu q hq) h;cases hv:Ad p.2 with
  |true=>rw[h2 hv,h1]
  |false=>
   have ab:Ad q.2=false:=by rw[<-h1];exact hv
   rw[Pj hv,Pj ab];have:∀p:LT,UT p.2->Ad p.2=false->Ix p=Am p.2:=fun p hp hv=>by
    obtain⟨s,t⟩:=p;cases s with
    |false=>rfl
    |true=>rw[Ix,Pf hp,if_neg (by simp[hv])]
   rw[this _ (hu p hp) hv,this _ (hu q hq) ab,h1]
 ·obtain⟨h1,h2⟩:=uW (p:=(p.1,Cx (eH x y p.1) p.2)) (q:=(q.1,Cx (eH x y q.1) q.2)) (hw p hp).1 (hw q hq).1 h;simp only at h1 h2;have aa:Ad p.2=Ad q.2:=by rw[<-(hw p hp).2,<-(hw q hq).2,h1]
  cases hv:Ad p.2 with
  |true=>
   have h3:=h2 (by rw[(hw p hp).2];exact hv);obtain⟨a,ha,ad⟩:=hp;obtain⟨b,hb,ac⟩:=hq;have:p.2=q.2:=by
    rw[<-h3]at hb h1;rcases ha with⟨e,ha⟩|⟨e,ha⟩
    ·rw[e]at h1;rcases hb with⟨-,hb⟩|⟨e2,-⟩
     ·exact hx.inj ha hb ad ac h1
     ·rw[e]at e2;cases e2
    ·rw[e]at h1;rcases hb with⟨e2,-⟩|⟨-,hb⟩
     ·rw[e]at e2;cases e2
     ·exact hy.inj ha hb ad ac h1
   rw[show p=q from Afi h3 this]
  |false=>
   rw[hv]at aa;rw[Pj hv,Pj aa.symm]at h;exact h
 ·rw[jO (hu p hp),jO (hw p hp).1,(hw p hp).2]
 ·rw[jO (hu p hp)]at hv;rw[Pj hv]
theorem yW (x:RItem)(k:Nat)(y:RItem):jE (ren x) k (ren y)=(jE x k y).map fun b=>(b.1,Bg (eH x y b.1) b.2):=by
 unfold jE ren;simp only[Ad6];have h1:y.body.map (wR true∘Bg (Au y))=(y.body.map (wR true)).map fun b=>(b.1,Bg (eH x y b.1) b.2):=by rw[Ad6];rfl
 have h2:x.body.map (wR false∘Bg (Au x))=(x.body.map (wR false)).map fun b=>(b.1,Bg (eH x y b.1) b.2):=by rw[Ad6];rfl
 rw[h1,h2,Ri]
theorem yV (x y:RItem)(B:List (Bool×RAtom)):uI (ren x) (B.map fun b=>(b.1,Bg (eH x y b.1) b.2))=(uI x B).map fun p=>(p.1,Cx (eH x y p.1) p.2):=by
 unfold uI;simp only[Ad5,Ad6,List.map_flatMap,Afq,ren,Bg];rfl
theorem Abr {x y:RItem}{k:Nat}(hx:x.out=false)(hy:y.out=false){p:LT}(h:p∈uI x (jE x k y)):inT x y p:=by
 rcases Aew.1 h with h|h
 ·obtain⟨t,ht,rfl⟩:=Aey.1 h;exact⟨x.head,.inl ⟨rfl,Ak (.inl ⟨hx,rfl⟩)⟩,ht⟩
 ·obtain⟨b,hb,h⟩:=Aev.1 h;obtain⟨t,ht,rfl⟩:=Aey.1 h;rcases uH hb with⟨e,hm⟩|⟨e,hm⟩
  ·exact⟨b.2,.inl ⟨e,Ak (.inr hm)⟩,ht⟩
  ·exact⟨b.2,.inr ⟨e,Ak (.inr hm)⟩,ht⟩
theorem kT {N N2:List Tx}{x y:RItem}{k:Nat}(hx:XR x)(hy:XR y)(ux:∀a∈Ae x,∀t∈a.terms,UT t)(uy:∀a∈Ae y,∀t∈a.terms,UT t)(nx:x.head.pred∈N/\∀a∈x.body,a.pred∈N)(ny:∀a∈y.body,a.pred∈N)(nx2:x.head.pred∈N2/\∀a∈x.body,a.pred∈N2)(ny2:∀a∈y.body,a.pred∈N2):(Mh N x k y).map (Ck N)=(Mh N2 (ren x) k (ren y)).map (Ck N2):=by
 rw[rK nx.2 nx.1 ny,rK (x:=ren x) (y:=ren y) (fun a ha=>by
  obtain⟨b,hb,rfl⟩:=Aey.1 ha;exact nx2.2 b hb) nx2.1 fun a ha=>by
  obtain⟨b,hb,rfl⟩:=Aey.1 ha;exact ny2 b hb]
 have hE:=zD hx hy ux uy;show _=((x.body.map (Bg (Au x)))[k]?).bind _;rw[List.getElem?_map];cases ha:x.body[k]? with
 |none=>rfl
 |some a=>
  have ac:=Adt ha;simp only[Aei,Afk];have e1:(Bg (Au x) a).terms.map (fun t=>Ix (false,t))=(a.terms.map fun t=>(false,t)).map fun p:LT=>Ix (p.1,Cx (eH x y p.1) p.2):=by simp only[Bg,Ad6];rfl
  have e2:(ren y).head.terms.map (fun t=>Ix (true,t))=(y.head.terms.map fun t=>(true,t)).map fun p:LT=>Ix (p.1,Cx (eH x y p.1) p.2):=by simp only[ren,Bg,Ad6];rfl
  have e3:a.terms.map (fun t=>Ix (false,t))=(a.terms.map fun t=>(false,t)).map Ix:=by rw[Ad6];rfl
  have e4:y.head.terms.map (fun t=>Ix (true,t))=(y.head.terms.map fun t=>(true,t)).map Ix:=by rw[Ad6];rfl
  rw[e1,e2,e3,e4]
  rcases X3 hE (a.terms.map fun t=>(false,t)) (y.head.terms.map fun t=>(true,t)) pidn pidn (sX hE) (fun p hp=>by
   obtain⟨t,ht,rfl⟩:=Aey.1 hp;exact⟨a,.inl ⟨rfl,Ak (.inr ac)⟩,ht⟩) (fun p hp=>by
   obtain⟨t,ht,rfl⟩:=Aey.1 hp
   exact⟨y.head,.inr ⟨rfl,Ak (.inl ⟨hy.out,rfl⟩)⟩,ht⟩)with⟨h1,h2⟩|⟨P,P2,h1,h2,hR⟩
  ·rw[h1,h2];rfl
  ·rw[h1,h2];simp only[Afk,Option.some.injEq];rw[yW,yV x y];simp only[Ad6];have ab:∀p∈uI x (jE x k y),inT x y p:=fun p hp=>Abr hx.out hy.out hp;have aa:∀p,inT x y p->∃q,inT x y q/\F9 P (Ix p)=Ix q/\F9 P2 (Ix (p.1,Cx (eH x y p.1) p.2))=Ix (q.1,Cx (eH x y q.1) q.2):=hR.2.2;have key:∀p∈uI x (jE x k y),Lk (Ge (((uI x (jE x k y)).map fun p=>F9 P (Ix p)).foldl vF []) (F9 P (Ix p)))=Lk (Ge (((uI x (jE x k y)).map ((fun p=>F9 P2 (Ix p))∘fun p=>(p.1,Cx (eH x y p.1) p.2))).foldl vF []) (F9 P2 (Ix (p.1,Cx (eH x y p.1) p.2)))):=fun p hp=>by
    congr 1
    exact sQ (J:=inT x y) (g:=fun p=>F9 P (Ix p)) (g2:=(fun p=>F9 P2 (Ix p))∘fun p=>(p.1,Cx (eH x y p.1) p.2)) (fun p q hp hq=>by
     obtain⟨a,ha,a1,a2⟩:=aa p hp;obtain⟨b,hb,b1,b2⟩:=aa q hq;simp only[Function.comp];rw[a1,a2,b1,b2];exact hE.inj a b ha hb) (fun p hp=>by
     obtain⟨a,ha,a1,a2⟩:=aa p hp;simp only[Function.comp];rw[a1,a2];exact hE.var a ha) (fun p hp hv=>by
     obtain⟨a,ha,a1,a2⟩:=aa p hp;simp only[Function.comp]at hv⊢;rw[a1]at hv;rw[a1,a2]
     exact hE.num a ha hv) ab hp
   unfold jnI;congr 1
   ·show (⟨false,x.head.pred,x.head.terms.map _⟩:RAtom)=⟨false,x.head.pred,(x.head.terms.map (Cx (Au x))).map _⟩;rw[Ad6];congr 1;exact Ae0 fun t ht=>key (false,t) (Af5 _ (Aey.2 ⟨t,ht,rfl⟩))
   ·rw[Ad6];refine Ae0 fun b hb=>?_;simp only[Function.comp,Bg,Ad6,RAtom.mk.injEq,Agl];exact Ae0 fun t ht=>key (b.1,t) (Af4 _ (Aev.2 ⟨b,hb,Aey.2 ⟨t,ht,rfl⟩⟩))
def wU (f:Tx->Tx)(x:RItem):RItem:=⟨x.out,⟨x.head.nt,x.head.pred,x.head.terms.map f⟩,x.body.map fun a=>⟨a.nt,a.pred,a.terms.map f⟩⟩
theorem eP {f:Tx->Tx}{t:Tx}:∀L:List Tx,(∀u∈L,f u=f t->u=t)->(L.map f).idxOf (f t)=L.idxOf t/\(f t∈L.map f↔t∈L)
 |[],_=>⟨rfl,by simp⟩
 |u::L,h=>by
  obtain⟨i1,i2⟩:=eP (f:=f) (t:=t) L fun v hv=>h v (by simp[hv]);by_cases e:u=t
  ·subst e;simp
  ·have e2:¬f u=f t:=fun g=>e (h u (by simp) g);refine⟨?_,?_⟩
   ·rw[Ad9,Ae7,Ae7,i1];have b1:(f u==f t)=false:=by simpa using e2
    have b2:(u==t)=false:=by simpa using e
    rw[b1,b2]
   ·rw[Ad9,Aeq,Aeq,i2];have e3:¬t=u:=fun g=>e g.symm;have e4:¬f t=f u:=fun g=>e2 g.symm;simp[e3,e4]
theorem Abf {f:Tx->Tx}{x:RItem}(hv:∀a∈Ae x,∀t∈a.terms,Ad (f t)=Ad t)(hn:∀a∈Ae x,∀t∈a.terms,Ad t=false->f t=t)(hi:∀a∈Ae x,∀b∈Ae x,∀t∈a.terms,∀u∈b.terms,Ad t=true->Ad u=true->f t=f u->t=u)(ho:x.out=true->x.head.terms=[]/\x.body=[]):ren (wU f x)=ren x:=by
 cases e:x.out with
 |true=>
  obtain⟨h1,h2⟩:=ho e;simp[ren,wU,Bg,h1,h2]
 |false=>
  have mem:∀t,t∈(Ae x).flatMap (·.terms)->∃a∈Ae x,t∈a.terms:=fun t ht=>by
   obtain⟨a,ha,hm⟩:=Aev.1 ht;exact⟨a,ha,hm⟩
  have af:(Ae (wU f x)).flatMap (·.terms)=((Ae x).flatMap (·.terms)).map f:=by
   simp[Ae,wU,e,Afq,List.map_flatMap]
  have ht:Au (wU f x)=(Au x).map f:=by
   unfold Au;rw[af]
   have:=T0 f ((Ae x).flatMap (·.terms)) [] (by simp) (fun t ht=>by
    obtain⟨a,ha,hm⟩:=mem t ht;exact hv a ha t hm) (fun t u h1 h2 v1 v2 h=>by
    rcases h1 with h1|h1
    ·cases h1
    rcases h2 with h2|h2
    ·cases h2
    obtain⟨a,ha,hm⟩:=mem t h1;obtain⟨b,hb,hk⟩:=mem u h2
    exact hi a ha b hb t hm u hk v1 v2 h)
   exact this
  have ad:=(Jh ((Ae x).flatMap (·.terms)) [] (by simp) Afr).1;have key:∀a∈Ae x,Bg (Au (wU f x)) ⟨a.nt,a.pred,a.terms.map f⟩=Bg (Au x) a:=fun a ha=>by
   unfold Bg;simp only[RAtom.mk.injEq,Agl,Ad6];refine Ae0 fun t aa=>?_;simp only[Function.comp];unfold Cx;rw[hv a ha t aa];cases ab:Ad t with
   |false=>rw[if_neg (by simp),if_neg (by simp),hn a ha t aa ab]
   |true=>
    rw[if_pos rfl,if_pos rfl,ht];obtain⟨i1,i2⟩:=eP (f:=f) (t:=t) (Au x) fun u hu g=>by
     have ac:=ad u hu;obtain⟨b,hb,ae⟩:=mem u (by rcases ac.2 with h|h;cases h;exact h);exact hi b hb a ha u ae t aa ac.1 ab g
    unfold Br;by_cases hm:t∈Au x
    ·rw[if_pos hm,if_pos (i2.2 hm),i1]
    ·rw[if_neg hm,if_neg fun g=>hm (i2.1 g)]
  show (⟨x.out,Bg (Au (wU f x)) ⟨x.head.nt,x.head.pred,x.head.terms.map f⟩,(x.body.map fun a=>(⟨a.nt,a.pred,a.terms.map f⟩:RAtom)).map (Bg (Au (wU f x)))⟩:RItem)=⟨x.out,Bg (Au x) x.head,x.body.map (Bg (Au x))⟩;rw[key _ (Ak (.inl ⟨e,rfl⟩)),Ad6];congr 1;exact Ae0 fun a ha=>key a (Ak (.inr ha))
theorem sO {x:RItem}(hX:XR x)(k:Nat):ren (D9 (ren x) k)=ren (D9 x k):=by
 have hs:∀a∈Ae (D9 x k),a∈Ae x:=fun a ha=>by
  have ha:a=x.head\/a∈x.body.eraseIdx k:=by simpa[Ae,D9]using ha
  rcases ha with rfl|ha
  ·exact Ak (.inl ⟨hX.out,rfl⟩)
  ·exact Ak (.inr (Afj ha))
 have e:D9 (ren x) k=wU (Cx (Au x)) (D9 x k):=by
  simp only[D9,ren,wU,Bg,Gk];rfl
 rw[e];exact Abf (fun a ha t ht=>Gd fun hv=>hX.rng (hs a ha) ht hv) (fun a ha t ht hv=>Pj hv _) (fun a ha b hb t ht u hu _ _ h=>hX.inj (hs a ha) (hs b hb) ht hu h) fun h=>by cases h
structure Sx (x y:RItem):Prop where
 rn:ren x=ren y
 len:(A0 x).length=(A0 y).length
 sf:Fa x=Fa y
theorem Sx.refl (x:RItem):Sx x x:=⟨rfl,rfl,rfl⟩
theorem Sx.symm {x y:RItem}(h:Sx x y):Sx y x:=⟨h.rn.symm,h.len.symm,h.sf.symm⟩
theorem Sx.trans {x y z:RItem}(h:Sx x y)(g:Sx y z):Sx x z:=⟨h.rn.trans g.rn,h.len.trans g.len,h.sf.trans g.sf⟩
theorem Sx.out {x y:RItem}(h:Sx x y):x.out=y.out:=by simpa[ren]using congrArg RItem.out h.rn
theorem Sx.pred {x y:RItem}(h:Sx x y):x.head.pred=y.head.pred:=by simpa[ren,Bg]using congrArg (fun z:RItem=>z.head.pred) h.rn
theorem Sx.bl {x y:RItem}(h:Sx x y):x.body.length=y.body.length:=by
 have:=congrArg (fun z:RItem=>z.body.length) h.rn;simpa[ren]using this
theorem Sx.lit {x y:RItem}(h:Sx x y){j:Nat}{a:RAtom}(ha:x.body[j]?=some a):∃b,y.body[j]?=some b/\b.nt=a.nt/\b.pred=a.pred/\b.terms.length=a.terms.length:=by
 have:=congrArg (fun z:RItem=>z.body[j]?) h.rn;simp only[ren,List.getElem?_map,ha,Afk]at this;obtain⟨b,hb,e⟩:=Agd.1 this.symm;refine⟨b,hb,by simpa[Bg]using congrArg RAtom.nt e,by simpa[Bg]using congrArg RAtom.pred e,?_⟩;have:=congrArg (fun z:RAtom=>z.terms.length) e;simpa[Bg]using this
theorem Sx.mem {x y:RItem}(h:Sx x y){a:RAtom}(ha:a∈x.body):∃b∈y.body,b.nt=a.nt/\b.pred=a.pred/\b.terms.length=a.terms.length:=by
 obtain⟨j,hj⟩:=List.getElem?_of_mem ha;obtain⟨b,hb,h⟩:=h.lit hj;exact⟨b,Adt hb,h⟩
theorem Sx.hl {x y:RItem}(h:Sx x y):x.head.terms.length=y.head.terms.length:=by
 have:=congrArg (fun z:RItem=>z.head.terms.length) h.rn;simpa[ren,Bg]using this
theorem gN {x:RItem}(hw:Bv x)(hu:∀a∈Ae x,∀t∈a.terms,UT t):(A0 (ren x)).length=(A0 x).length:=by
 refine Nat.le_antisymm (aQ hw) ?_;have h1:∀l:List Tx,∀t,UT t->t.length<=(Cx l t).length:=fun l t ht=>by
  unfold Cx;split
  ·rename_i hv;obtain⟨k,-,rfl⟩:=ht.2.2.2 hv;simp
  ·exact Adn _
 have h2:∀a∈Ae x,(A4 a).length<=(A4 (Bg (Au x) a)).length:=fun a ha=>by
  have:=N8 id (Cx (Au x)) a.terms fun t ht=>h1 _ t (hu a ha t ht);rw[Aez]at this;unfold A4 Bg;simp only[Aee,Aen,Aem];omega
 cases ho:x.out with
 |true=>simp[A0,ren,Bg,ho]
 |false=>
  have h3:=h2 _ (Ak (.inl ⟨ho,rfl⟩));have h4:=N8 Bb (fun a=>Bb (Bg (Au x) a)) x.body fun a ha=>by
   have:=h2 a (Ak (.inr ha));unfold Bb;rw[Aee,Aee];show _<=(if a.nt=true then [33]else ([]:Tx)).length+_;omega
  unfold A0;rw[if_neg (by simp[ho]),if_neg (by simp[ren,ho])];unfold Cv;show _<=(A4 (Bg (Au x) x.head)++(if x.body.map (Bg (Au x))=[]then []else 58::45::A2 ((x.body.map (Bg (Au x))).map Bb))).length;rw[Ad6,Aee,Aee];by_cases hb:x.body=[]
  ·rw[if_pos hb,if_pos (by simp[hb])];simpa using h3
  ·rw[if_neg hb,if_neg (by simpa using hb)];simp only[Aen];have h5:(A2 (x.body.map Bb)).length<=(A2 (x.body.map (Bb∘Bg (Au x)))).length:=h4;omega
theorem Aa8 {x:RItem}(hX:x.out=false->XR x)(ho:x.out=true->x.head.terms=[]/\x.body=[]):Fa (ren x)=Fa x:=by
 cases e:x.out with
 |true=>
  obtain⟨h1,h2⟩:=ho e;have:ren x=x:=by
   obtain⟨o,⟨n,p,ts⟩,b⟩:=x;simp only at h1 h2;subst h1;subst h2;rfl
  rw[this]
 |false=>
  have hX:=hX e;have h1:=hX.safe x.body.length;have e2:D9 (ren x) x.body.length=ren x:=by
   have:=Rb (x:=ren x) e;simpa[ren]using this
  rw[e2,Rb e]at h1;rw[<-Lv (x:=ren x) fun a ha w hw=>Qf (hX.inO.ut a ha w hw)];exact h1
theorem RtL.ut {N:List Tx}{ar:Tx->Nat}{l:List RItem}(h:RtL N ar l){x:RItem}(hx:x∈l):∀a∈Ae x,∀t∈a.terms,UT t:=fun a ha=>((h.gl.msr x hx).at_ a ha).2.2
theorem RtL.sx {N:List Tx}{ar:Tx->Nat}{l:List RItem}(h:RtL N ar l){x:RItem}(hx:x∈l):Sx x (ren x):=
 ⟨(lW (fun ho=>h.xr hx ho) fun ho=>((h.wit x hx).2.1 ho).2).symm,(gN (h.wit x hx) (h.ut hx)).symm,(Aa8 (fun ho=>h.xr hx ho) fun ho=>((h.wit x hx).2.1 ho).2).symm⟩
def LS (l m:List RItem):Prop:=∃L:List (RItem×RItem),l=L.map (·.1)/\m=L.map (·.2)/\∀p∈L,Sx p.1 p.2
theorem LS.refl (l:List RItem):LS l l:=⟨l.map fun x=>(x,x),by simp[Function.comp_def],by simp[Function.comp_def],fun p hp=>by
 obtain⟨x,-,rfl⟩:=Aey.1 hp
 exact Sx.refl x⟩
theorem LS.symm {l m:List RItem}(h:LS l m):LS m l:=by
 obtain⟨L,rfl,rfl,h⟩:=h
 exact⟨L.map Prod.swap,by simp[Function.comp_def],by simp[Function.comp_def],fun p hp=>by
  obtain⟨q,hq,rfl⟩:=Aey.1 hp
  exact (h q hq).symm⟩
theorem LS.len {l m:List RItem}(h:LS l m):l.length=m.length:=by
 obtain⟨L,rfl,rfl,-⟩:=h;simp
theorem LS.get {l m:List RItem}(h:LS l m){i:Nat}{x:RItem}(hx:l[i]?=some x):∃y,m[i]?=some y/\Sx x y:=by
 obtain⟨L,rfl,rfl,h⟩:=h;rw[List.getElem?_map]at hx;obtain⟨p,hp,rfl⟩:=Agd.1 hx;exact⟨p.2,by rw[List.getElem?_map,hp];rfl,h p (Adt hp)⟩
theorem LS.mem {l m:List RItem}(h:LS l m){x:RItem}(hx:x∈l):∃y∈m,Sx x y:=by
 obtain⟨i,hi⟩:=List.getElem?_of_mem hx;obtain⟨y,hy,h⟩:=h.get hi;exact⟨y,Adt hy,h⟩
theorem LS.ren {l m:List RItem}(h:LS l m):l.map ren=m.map ren:=by
 obtain⟨L,rfl,rfl,h⟩:=h;rw[Ad6,Ad6];exact Ae0 fun p hp=>(h p hp).rn
theorem LS.rpl {l m o o2:List RItem}(h:LS l m)(g:LS o o2)(i:Nat):LS (rpl i o l) (rpl i o2 m):=by
 obtain⟨L,rfl,rfl,h⟩:=h;obtain⟨O,rfl,rfl,g⟩:=g;refine⟨YtmoeoppbmhfbpabGreatDoorG.rpl i O L,by rw[Ri],by rw[Ri],fun p hp=>?_⟩;rcases Dm hp with hp|hp
 ·exact h p hp
 ·exact g p hp
theorem LS.one {x y:RItem}(h:Sx x y):LS [x] [y]:=⟨[(x,y)],rfl,rfl,fun p hp=>by simp at hp;subst hp;exact h⟩
theorem LS.filter {l m:List RItem}(h:LS l m){f g:RItem->Bool}(hf:∀x y,x∈l->y∈m->Sx x y->f x=g y):LS (l.filter f) (m.filter g):=by
 obtain⟨L,rfl,rfl,h⟩:=h;refine⟨L.filter fun p=>f p.1,by rw[List.filter_map];rfl,?_,fun p hp=>h p (Afx.1 hp).1⟩;rw[List.filter_map];congr 1;exact List.filter_congr fun p hp=>(hf p.1 p.2 (Aey.2 ⟨p,hp,rfl⟩) (Aey.2 ⟨p,hp,rfl⟩) (h p hp)).symm
theorem LS.of_ren {N:List Tx}{ar:Tx->Nat}{l:List RItem}(h:RtL N ar l):LS l (l.map YtmoeoppbmhfbpabGreatDoorG.ren):=⟨l.map fun x=>(x,YtmoeoppbmhfbpabGreatDoorG.ren x),by simp[Function.comp_def],by simp[Function.comp_def],fun p hp=>by
 obtain⟨x,hx,rfl⟩:=Aey.1 hp
 exact h.sx hx⟩
theorem LS.nmd {l m:List RItem}(h:LS l m){p:Tx}(hp:J1 l p):J1 m p:=by
 obtain⟨x,hx,hp⟩:=hp;obtain⟨y,hy,hs⟩:=h.mem hx;refine⟨y,hy,?_⟩;rcases hp with rfl|⟨a,ha,rfl⟩
 ·exact .inl hs.pred.symm
 ·obtain⟨b,hb,-,e,-⟩:=hs.mem ha;exact .inr ⟨b,hb,e⟩
theorem LS.rld {l m:List RItem}(h:LS l m){p:Tx}(hp:I9 l p):I9 m p:=by
 obtain⟨x,hx,ho,rfl⟩:=hp;obtain⟨y,hy,hs⟩:=h.mem hx;exact⟨y,hy,hs.out.symm.trans ho,hs.pred.symm⟩
theorem LS.once {l m:List RItem}(h:LS l m){p q:Tx}(hp:Dk l p q):Dk m p q:=by
 obtain⟨x,hx,rfl,a,ha,rfl⟩:=hp;obtain⟨y,hy,hs⟩:=h.mem hx;obtain⟨b,hb,-,e,-⟩:=hs.mem ha;exact⟨y,hy,hs.pred.symm,b,hb,e⟩
def aF (N:List Tx)(l:List RItem):Prop:=∀x∈l,x.head.pred∈N/\∀a∈x.body,a.pred∈N
theorem RtL.nm {N:List Tx}{ar:Tx->Nat}{l:List RItem}(h:RtL N ar l):aF N l:=fun x hx=>⟨Za h ⟨x,hx,.inl rfl⟩,fun a ha=>Za h ⟨x,hx,.inr ⟨a,ha,rfl⟩⟩⟩
theorem eJ {N:List Tx}{l m:List RItem}(hl:aF N l)(hm:aF N m):He N m l=false↔∀p,J1 m p->I9 l p->I9 m p:=by
 have nm:∀p,J1 m p->p∈N:=fun p ⟨x,hx,h⟩=>by
  rcases h with rfl|⟨a,ha,rfl⟩
  ·exact (hm x hx).1
  ·exact (hm x hx).2 a ha
 constructor
 ·intro h p h1 h2;have hp:=nm p h1;have hk:=Afd hp;have:=Ae9.1 h (N.idxOf p) (by simpa using hk);have e1:B8 N l (N.idxOf p)=true:=(Jx (fun x hx=>(hl x hx).1) hp).2 h2;have e2:E6 N m (N.idxOf p)=true:=by
   obtain⟨x,hx,h1⟩:=h1;refine Aeo.2 ⟨x,hx,?_⟩;rcases h1 with rfl|⟨a,ha,rfl⟩
   ·simp
   ·simp only[Bool.or_eq_true,Aeo,Agi];exact .inr ⟨a,ha,rfl⟩
  rw[e1,e2]at this;refine (Jx (fun x hx=>(hm x hx).1) hp).1 ?_;simpa using this
 ·intro h;refine Ae9.2 fun k _ hc=>?_;simp only[Adv,Af0]at hc;obtain⟨⟨h1,h2⟩,h3⟩:=hc;obtain⟨x,hx,aa⟩:=Aeo.1 h1;simp only[Adv,Af0,Agi]at aa;obtain⟨z,hz,ab⟩:=Aeo.1 h3;simp only[Bool.or_eq_true,Aeo,Agi]at ab;have hn:J1 m x.head.pred:=by
   refine⟨z,hz,?_⟩;rcases ab with e|⟨a,ha,e⟩
   ·exact .inl (Ef (hm z hz).1 (hl x hx).1 Agm)
   ·exact .inr ⟨a,ha,Ef ((hm z hz).2 a ha) (hl x hx).1 Agm⟩
  have:=(Jx (fun x hx=>(hm x hx).1) (hl x hx).1).2 (h _ hn ⟨x,hx,aa.1,rfl⟩);rw[aa.2,h2]at this;cases this
theorem qR {l:List RItem}(h:(Cd l).1=0):∃ar,Vf l ar:=by
 have aa:∀i,i<l.length->Hz l i=false:=by
  unfold Cd at h;split at h
  ·cases h
  ·rename_i h0;exact H4 h0
 have two:∀(i j:Nat) (x y:RItem) (a b:RAtom),i<=j->l[i]?=some x->l[j]?=some y->a∈Ae x->b∈Ae y->a.pred=b.pred->a.terms.length=b.terms.length:=fun i j x y a b ac hx hy ha hb e=>by
  have key:∀(n k:Nat) (c d:RAtom),(Ae y)[k]?=some d->c∈E9 l y j k->c.pred=d.pred->c.terms.length=d.terms.length:=fun n k c d hd hc e=>by
   have ho:=aa j (List.getElem?_eq_some_iff.1 hy).1;unfold Hz at ho;rw[hy]at ho;simp only at ho;have hk:=(List.getElem?_eq_some_iff.1 hd).1;have:=Ae9.1 ho k (by simpa using hk);unfold Qn at this;rw[hd]at this;simp only[Bool.not_eq_true]at this;have:=Ae9.1 this c hc;unfold clash at this;simp only[Adv,Agj,Agi,not_and,ne_eq,Decidable.not_not]at this;exact this e
  obtain⟨n,hn⟩:=List.getElem?_of_mem hb;by_cases ab:i<j
  ·refine key 0 n a b hn (Af5 _ (Aev.2 ⟨x,Adt (i:=i) (by rw[List.getElem?_take,if_pos ab];exact hx),ha⟩)) e
  ·have:i=j:=Agm;subst this;rw[hx]at hy;cases hy;obtain⟨k,hk⟩:=List.getElem?_of_mem ha;rcases Afs k n with h1|h1|h1
   ·exact key 0 n a b hn (Af4 _ (Adt (i:=k) (by rw[List.getElem?_take,if_pos h1];exact hk))) e
   ·subst h1;rw[hk]at hn;cases hn;rfl
   ·exact (key 0 k b a hk (Af4 _ (Adt (i:=n) (by rw[List.getElem?_take,if_pos h1];exact hn))) e.symm).symm
 refine⟨fun p=>Classical.epsilon fun n=>∃x∈l,∃a∈Ae x,a.pred=p/\a.terms.length=n,fun x hx a ha=>?_⟩;obtain⟨y,hy,b,hb,e1,e2⟩:=Classical.epsilon_spec (p:=fun n=>∃x∈l,∃b∈Ae x,b.pred=a.pred/\b.terms.length=n) ⟨_,x,hx,a,ha,rfl,rfl⟩;obtain⟨i,hi⟩:=List.getElem?_of_mem hx;obtain⟨j,hj⟩:=List.getElem?_of_mem hy;refine Eq.trans ?_ e2;rcases Nat.le_total i j with h|h
 ·exact two i j x y a b h hi hj ha hb e1.symm
 ·exact (two j i y x b a h hj hi hb ha e1).symm
theorem qQ {l m:List RItem}(h:LS l m)(hl:∀x∈l,x.out=true->x.body=[])(hm:∀x∈m,x.out=true->x.body=[])(hw:(Cd l).1=0):(Cd m).1=0:=by
 obtain⟨ar,hA⟩:=qR hw;have g:=h.symm;rw[Rx (l:=l) (ar:=ar) (fun y hy a ha=>?_) (fun y hy=>?_) hw hl hm fun y hy=>?_]
 ·obtain⟨x,hx,hs⟩:=g.mem hy;have aa:(y.out=false/\a=y.head)\/a∈y.body:=by
   unfold Ae at ha;cases ho:y.out<;>simp[ho]at ha
   ·rcases ha with h|h
    ·exact .inl ⟨rfl,h⟩
    ·exact .inr h
   ·exact .inr ha
  rcases aa with⟨ho,rfl⟩|aa
  ·have:=hA x hx x.head (Ak (.inl ⟨hs.out.symm.trans ho,rfl⟩));rw[hs.hl,this,hs.pred]
  ·obtain⟨b,hb,-,e,e2⟩:=hs.mem aa;have:=hA x hx b (Ak (.inr hb));rw[<-e2,this,e]
 ·obtain⟨x,hx,hs⟩:=g.mem hy;rw[hs.sf];exact My hw hx
 ·obtain⟨x,hx,hs⟩:=g.mem hy;refine⟨x,hx,hs.out.symm,hs.pred.symm,fun a ha=>?_⟩;obtain⟨b,hb,e1,e2,-⟩:=hs.mem ha;exact⟨b,hb,e2,e1⟩
theorem xG {l m:List RItem}(h:LS l m):(Bj l).length=(Bj m).length:=by
 obtain⟨L,rfl,rfl,h⟩:=h;unfold Bj;induction L with
 |nil=>rfl
 |cons p L ih=>
  have h1:=(h p (by simp)).len;have h2:=ih fun q hq=>h q (by simp[hq]);simp only[Ad9,Ae5,Aee];rw[h1,h2]
theorem vO {N N2:List Tx}{l m l2 m2:List RItem}(h:LS l l2)(g:LS m m2)(n1:aF N l)(n2:aF N m)(n3:aF N2 l2)(n4:aF N2 m2)(hm:∀x∈m,x.out=true->x.body=[])(aa:∀x∈m2,x.out=true->x.body=[])(hb:Cj N l m=true):Cj N2 l2 m2=true:=by
 unfold Cj at hb⊢;simp only[Adv,Af0,Agj]at hb⊢;obtain⟨h1,h2,h3⟩:=hb;refine⟨?_,?_,qQ g hm aa h3⟩
 ·unfold Gy at h1⊢;simp only[Adv,Agi,Ads]at h1⊢;refine⟨by rw[<-g.len];exact h1.1,fun y hy=>?_,by rw[<-xG g];exact h1.2.2⟩;obtain⟨x,hx,hs⟩:=g.symm.mem hy;rw[hs.bl];exact h1.2.1 x hx
 ·rw[eJ n1 n2]at h2;rw[eJ n3 n4];exact fun p hp hr=>g.rld (h2 p (g.symm.nmd hp) (h.symm.rld hr))
end Go.Proofs.YtmoeoppbmhfbpabGreatDoorG
