import Derived.Test.YtmoeoppbmhfbpaaGreatDoorDDocI
import Derived.Test.YtmoeoppbmhfbpaaGreatDoorDFacts
import Derived.Test.YtmoeoppbmhfbpaaGreatDoorDEngR
import Derived.Test.YtmoeoppbmhfbpaaGreatDoorDSpaE
import Derived.Test.YtmoeoppbmhfbpaaGreatDoorDProgM
import Derived.Test.YtmoeoppbmhfbpaaGreatDoorDAbsWp
set_option maxHeartbeats 32000000
set_option maxRecDepth 100000
set_option linter.all false
namespace Go.Proofs.YtmoeoppbmhfbpaaGreatDoorD
open Go.Abs
def GNm (p:Tx):Prop:=aQ p/\p.length<=6
def GTm (t:Tx):Prop:=(∃b,t=[b]/\Bo b.toNat=true)\/t=[48]\/∃b r,t=b::r/\F7 b.toNat=true/\(∀c∈r,A1 c.toNat=true)/\r.length<=2
structure yO (a:RAtom):Prop where
 nm:GNm a.pred
 ne:a.terms≠[]
 few:a.terms.length<=3
 tm:∀t∈a.terms,GTm t
structure tJ (x:RItem):Prop where
 nm:GNm x.head.pred
 out:x.out=true->x.head.nt=false/\x.head.terms=[]/\x.body=[]
 rule:x.out=false->yO x.head/\x.head.nt=false/\x.body.length<=5/\∀a∈x.body,yO a
theorem Qg (p:Int->Bool):∀(n:Nat) (t r:Tx),(∀b∈t,p b.toNat=true)->t.length<=n->(∀b q,r=b::q->p b.toNat=false)->Av p n (t++r)=(t,r)
 |n,[],r,_,_,hr=>by
  cases n with
  |zero=>rfl
  |succ n=>
   cases r with
   |nil=>rfl
   |cons b q=>
    show Av p (n+1) (b::q)=_;unfold Av;rw[if_neg (by simp[hr b q rfl])]
 |0,b::t,r,_,hl,_=>by simp at hl
 |n+1,b::t,r,ht,hl,hr=>by
  show Av p (n+1) (b::(t++r))=_;unfold Av;rw[if_pos (ht b (by simp)),Qg p n t r (fun c hc=>ht c (by simp[hc])) (by simpa using hl) hr]
theorem Nx (p:Int->Bool):∀(n:Nat) (s:Tx),(Av p n s).1.length<=n
 |0,s=>by simp[Av]
 |n+1,[]=>by simp[Av]
 |n+1,b::r=>by
  unfold Av;split
  ·have:=Nx p n r;simp;omega
  ·simp
theorem gT {p r:Tx}(h:GNm p)(hr:∀b q,r=b::q->Bn b.toNat=false):Ej (p++r)= .got p r:=by
 unfold Ej;rw[Qg Bn 6 p r h.1.2 h.2 hr];rw[if_neg h.1.1]
theorem gU {s r p:Tx}(h:Ej s= .got p r):GNm p:=by
 refine⟨(Ny h).2,?_⟩;unfold Ej at h;split at h
 ·cases h
 ·cases h;exact Nx _ _ _
theorem gQ {t r:Tx}(h:GTm t)(hr:∀b q,r=b::q->A1 b.toNat=false):Cp (t++r)= .got t r:=by
 rcases h with⟨b,rfl,hb⟩|rfl|⟨b,q,rfl,hb,hq,hl⟩
 ·show Cp (b::r)=_;unfold Cp;dsimp only;rw[if_pos hb]
 ·show Cp (48::r)=_;unfold Cp;dsimp only;rw[if_neg (by decide),if_pos (by decide)]
 ·show Cp (b::(q++r))=_;unfold Cp;dsimp only;rw[if_neg,if_neg,if_pos hb,Qg A1 2 q r hq hl hr]
  ·intro e;simp only[F7,Adr,Age]at hb;simp at e;omega
  ·intro e;rw[Lp e]at hb;cases hb
theorem vS {s r t:Tx}(h:Cp s= .got t r):GTm t:=by
 cases s with
 |nil=>cases h
 |cons b q=>
  unfold Cp at h;dsimp only at h;split at h
  ·rename_i hl;cases h;exact .inl ⟨b,rfl,hl⟩
  split at h
  ·rename_i h0;cases h;have:b=48:=Kp 48 h0;rw[this];exact .inr (.inl rfl)
  split at h
  ·rename_i h9;cases h;exact .inr (.inr ⟨b,_,rfl,h9,(D4 A1 2 q).2,Nx _ _ _⟩)
  ·cases h
theorem D9 {α β:Type}(x:α)(r:Tx)(f:α->Tx->Rd β):(Rd.got x r).bnd f=f x r:=rfl
theorem Js {c:UInt8}{r:Tx}:Az c.toNat (c::r)= .got () r:=by unfold Az;dsimp only;rw[if_pos (by simp)]
theorem No (t:Tx)(ts:List Tx):Cd (t::ts)=44::(t++Cd ts):=by simp[Cd]
theorem Un {α:Type}{f:Tx->Rd α}{u:α->Tx}{c:UInt8}(hc:c≠44){P:α->Prop}(hf:∀x r,P x->(∀b q,r=b::q->b=44\/b=c)->f (u x++r)= .got x r):∀(n:Nat) (xs:List α) (r:Tx),(∀x∈xs,P x)->xs.length<=n->Dr f n (Cd (xs.map u)++c::r)= .got xs (c::r)
 |0,[],r,_,_=>rfl
 |n+1,[],r,_,_=>by
  show Dr f (n+1) (c::r)=_;unfold Dr
  rw[if_neg (by
   intro h
   exact hc (Kp 44 h))]
 |0,x::xs,r,_,hl=>by simp at hl
 |n+1,x::xs,r,hP,hl=>by
  rw[Ad7,No];show Dr f (n+1) (44::((u x++Cd (xs.map u))++c::r))=_;unfold Dr;rw[if_pos (by decide),Aed,hf x _ (hP x (by simp)) ?_]
  ·rw[D9,Un hc hf n xs r (fun y hy=>hP y (by simp[hy])) (by simpa using hl)];rfl
  ·intro b q e;cases xs with
   |nil=>simp[Cd]at e;exact .inr e.1.symm
   |cons y ys=>rw[Ad7,No]at e;simp at e;exact .inl e.1.symm
theorem nd {b:UInt8}(h:b=44\/b=41):A1 b.toNat=false:=by rcases h with rfl|rfl<;>decide
theorem gX {a:RAtom}(h:yO a)(r:Tx):Ds a.nt (Be a++r)= .got a r:=by
 unfold Ds Be;rw[Aed,gT h.nm (fun b q e=>by simp at e;rw[<-e.1];decide)];rw[D9,Ae6];rw[show (40:Int)=((40:UInt8).toNat:Int)from rfl,Js];rw[D9];obtain⟨t,ts,e⟩:=List.exists_cons_of_ne_nil h.ne;have ab:=h.tm;have aa:=h.few;rw[e]at ab aa;rw[e,Bj];unfold Ur;have e2:((t++Cd ts++[41])++r:Tx)=t++(Cd (ts.map id)++41::r):=by simp
 rw[e2,gQ (ab t (by simp)) ?_]
 ·rw[D9,Un (u:=id) (c:=41) (by decide) (P:=GTm) (fun x r hx hr=>gQ hx fun b q e=>nd (hr b q e)) 2 ts r (fun y hy=>ab y (by simp[hy])) (by simpa using aa)];rw[D9,show (41:Int)=((41:UInt8).toNat:Int)from rfl,Js];rw[D9,<-e]
 ·intro b q eb;cases ts with
  |nil=>simp[Cd]at eb;exact nd (.inr eb.1.symm)
  |cons y ys=>rw[Ad7,No]at eb;simp at eb;exact nd (.inl eb.1.symm)
theorem pD {a:RAtom}(h:yO a)(r:Tx):Jr (Ch a++r)= .got a r:=by
 have hp:=gX h r;cases hn:a.nt with
 |true=>
  rw[hn]at hp;rw[show Ch a++r=33::(Be a++r)by simp[Ch,hn]];unfold Jr;dsimp only;rw[if_pos (by decide)];exact hp
 |false=>
  rw[hn]at hp;rw[show Ch a++r=Be a++r by simp[Ch,hn]];obtain⟨b,q,e,h1,h2⟩:=Kl h.nm.1;have e2:Be a++r=b::(q++40::(Bj a.terms++[41])++r):=by unfold Be;rw[e];simp
  rw[e2]at hp⊢;unfold Jr;dsimp only;rw[if_neg (by simp;omega)];exact hp
theorem vU {x:RItem}(h:tJ x)(r:Tx):E9 (Cb x++46::r)= .got x r:=by
 cases ho:x.out with
 |true=>
  obtain⟨h1,h2,h3⟩:=h.out ho;rw[Cb,if_pos ho];show E9 (63::(x.head.pred++46::r))=_;unfold E9;dsimp only;rw[if_pos (by decide)];unfold bJ;rw[gT h.nm (fun b q e=>by simp at e;rw[<-e.1];decide)];rw[D9,show (46:Int)=((46:UInt8).toNat:Int)from rfl,Js];rw[D9];obtain⟨o,⟨n,p,ts⟩,bd⟩:=x;simp only at h1 h2 h3 ho;subst h1;subst h2;subst h3;subst ho;rfl
 |false=>
  obtain⟨h1,h2,h3,h4⟩:=h.rule ho;have hR:E9 (Cb x++46::r)=Nc (Cb x++46::r):=by
   obtain⟨b,q,e,g1,g2⟩:=Kl h.nm.1;have e2:Cb x++46::r=b::(q++40::(Bj x.head.terms++[41])++(if x.body=[]then []else 58::45::Bj (x.body.map Ch))++46::r):=by
    unfold Cb Dz Be;rw[if_neg (by simp[ho]),e];simp
   rw[e2];unfold E9;dsimp only;rw[if_neg (by simp;omega)]
  rw[hR,Cb,if_neg (by simp[ho]),Dz,Aed];unfold Nc;have hp:=gX h1 ((if x.body=[]then []else 58::45::Bj (x.body.map Ch))++46::r);rw[h2]at hp;rw[hp,D9];by_cases hb:x.body=[]
  ·rw[if_pos hb];show Nb x.head (46::r)=_;unfold Nb;dsimp only;rw[if_pos (by decide)];rw[<-hb,<-ho]
  ·rw[if_neg hb];obtain⟨l,ls,e⟩:=List.exists_cons_of_ne_nil hb;rw[e]at h3 h4;rw[e,Ad7,Bj];have e2:(58::45::(Ch l++Cd (ls.map Ch))++46::r:Tx)=58::45::(Ch l++(Cd (ls.map Ch)++46::r)):=by simp
   rw[e2];unfold Nb;dsimp only;rw[if_neg (by decide)];rw[show (58:Int)=((58:UInt8).toNat:Int)from rfl,Js];rw[D9,show (45:Int)=((45:UInt8).toNat:Int)from rfl,Js];rw[D9];unfold Q5;rw[pD (h4 l (by simp)),D9,Un (u:=Ch) (c:=46) (by decide) (P:=yO) (fun y q hy _=>pD hy q) 4 ls r (fun y hy=>h4 y (by simp[hy])) (by simpa using h3)];rw[D9,show (46:Int)=((46:UInt8).toNat:Int)from rfl,Js];rw[D9,<-e,<-ho]
theorem Zc:∀(n:Nat) (l:List RItem),(∀x∈l,tJ x)->l.length<=n->Bv n (Cr l)= .got l []
 |n,[],_,_=>by cases n<;>rfl
 |0,x::l,_,hl=>by simp at hl
 |n+1,x::l,h,hl=>by
  have e:Cr (x::l)=Cb x++46::Cr l:=by simp[Cr]
  have aa:Cb x++46::Cr l≠[]:=by simp
  obtain⟨b,q,e2⟩:=List.exists_cons_of_ne_nil aa;rw[e];have hp:=vU (h x (by simp)) (Cr l);rw[e2]at hp⊢;show ((E9 (b::q)).bnd fun x r=>(Bv n r).bnd fun xs r=>.got (x::xs) r)=_;rw[hp,D9,Zc n l (fun y hy=>h y (by simp[hy])) (by simpa using hl)];rfl
theorem vT {α:Type}{f:Tx->Rd α}{P:α->Prop}(hf:∀s x r,f s= .got x r->P x){n:Nat}{s:Tx}{xs:List α}{r:Tx}(h:Dr f n s= .got xs r):∀x∈xs,P x:=Mc hf n s xs r h
theorem Uq {nt:Bool}{s r:Tx}{a:RAtom}(h:Ds nt s= .got a r):yO a:=by
 have hw:=(H4 h).2.1;have ht:=Md (T:=GTm) (fun _ _ _ h=>vS h) h;refine⟨?_,hw.2.1,hw.2.2.1,ht⟩;unfold Ds at h;obtain⟨p,q,h1,h⟩:=A3 h;obtain⟨u,q2,h2,h⟩:=A3 h;unfold Ur at h;obtain⟨t,q3,h3,h⟩:=A3 h;obtain⟨ts,q4,h4,h⟩:=A3 h;obtain⟨u2,q5,h5,h⟩:=A3 h;cases h;exact gU h1
theorem pE {s r:Tx}{a:RAtom}(h:Jr s= .got a r):yO a:=by
 cases s with
 |nil=>cases h
 |cons b q=>
  unfold Jr at h;dsimp only at h;split at h
  ·exact Uq h
  ·exact Uq h
theorem vV {s r:Tx}{x:RItem}(h:E9 s= .got x r):tJ x:=by
 have hw:=(Up h).2;cases s with
 |nil=>cases h
 |cons b q=>
  unfold E9 at h;dsimp only at h;split at h
  ·unfold bJ at h;obtain⟨p,q,h1,h⟩:=A3 h;obtain⟨u,q2,h2,h⟩:=A3 h;cases h;exact⟨gU h1,hw.2.1,(fun e=>by cases e)⟩
  ·unfold Nc at h;obtain⟨hd,q,h1,h⟩:=A3 h;have hg:=Uq h1;have key:x.head=hd/\x.out=false/\∀a∈x.body,yO a:=by
    cases q with
    |nil=>cases h
    |cons c q=>
     unfold Nb at h;dsimp only at h;split at h
     ·cases h;exact⟨rfl,rfl,by simp⟩
     ·obtain⟨_,q2,_,h⟩:=A3 h;obtain⟨_,q3,_,h⟩:=A3 h;unfold Q5 at h;obtain⟨l,q4,h4,h⟩:=A3 h;obtain⟨ls,q5,h5,h⟩:=A3 h;obtain⟨_,q6,_,h⟩:=A3 h;cases h;refine⟨rfl,rfl,fun a ha=>?_⟩;rcases Ae2.1 ha with rfl|ha
      ·exact pE h4
      ·exact vT (fun _ _ _ h=>pE h) h5 a ha
   obtain⟨e1,e2,e3⟩:=key;refine⟨by rw[e1];exact hg.nm,hw.2.1,fun ho=>⟨by rw[e1];exact hg,(hw.2.2 ho).2.1,(hw.2.2 ho).2.2.1,e3⟩⟩
theorem Zd:∀(n:Nat) (s:Tx) (l:List RItem) (r:Tx),Bv n s= .got l r->∀x∈l,tJ x
 |n,[],l,r,h=>by
  cases n<;>(cases h;intro x hx;cases hx)
 |0,b::s,l,r,h=>by cases h
 |n+1,b::s,l,r,h=>by
  have h':((E9 (b::s)).bnd fun x r=>(Bv n r).bnd fun xs r=>.got (x::xs) r)= .got l r:=h;obtain⟨x,q,h1,h2⟩:=A3 h';obtain⟨xs,q2,h3,h4⟩:=A3 h2;cases h4;intro y hy;rcases Ae2.1 hy with rfl|hy
  ·exact vV h1
  ·exact Zd n _ _ _ h3 y hy
end Go.Proofs.YtmoeoppbmhfbpaaGreatDoorD
namespace Go.Abs
theorem xP {P:Program}{t:TypeId}{z b:Nat}{zc:List Value}{σ:St}{id2 m n:Nat}{x:AV}{xs ys:List AV}{K:AV->St->Prop}(ht:Np P t=some (z,b,zc))
  (hz:0<z) (hzc:zc.length=z) (hy:ys.length=m*z) (hf:ys.all flat=true) (hm:0<m) (hb:(n+m)*b<=140737488355328) (hl:n+m<=1099511627776)
  (hx:(x=nilS/\n=0/\xs=[])\/∃o cap,x=gx o n cap/\0<n/\n<=cap/\(σ.obj o).length=cap*z/\(σ.obj o).take (n*z)=xs)
  (hO:∀o cap cs,((∃c0,x=gx o n c0/\n+m<=c0/\cap=c0)->cs.length=cap*z->cs.take ((n+m)*z)=xs++ys->K (gx o (n+m) cap) (σ.put o cs)))
  (hN:∀cap cs,cs.length=cap*z->n+m<=cap->cs.take ((n+m)*z)=xs++ys->K (gx σ.nobj (n+m) cap) (σ.new cs)):Im P t t x (sl id2 m ys) σ K:=by
 right;refine⟨z,b,zc,id2,m,ys,ht,rfl,rfl,hz,hzc,hy,hf,hm,?_⟩;have ab:∀k,(List.replicate k (zc.map cst1)).flatten.length=k*z:=fun k=>by
  induction k with
  |zero=>simp
  |succ k ih=>rw[List.replicate_succ,List.flatten_cons,Aeb,ih,Ae3,hzc,Ad1,Nat.add_comm]
 rcases hx with⟨rfl,rfl,rfl⟩|⟨o,cap,rfl,ai,af,aa,ac⟩
 ·refine .inl ⟨rfl,by simpa using hb,by simpa using hl,fun cap hc=>?_⟩;have:=hN cap (ys++(List.replicate (cap-m) (zc.map cst1)).flatten) (by rw[Aeb,hy,ab,<-Ad9];congr 1;omega) Agm (by rw[Aea,<-hy,List.take_left];rfl);rw[Aea]at this;exact this
 ·have ad:xs.length=n*z:=by rw[<-ac,Aec,aa];exact Aeh (Adj _ af)
  refine .inr ⟨o,n,cap,rfl,hb,hl,aa,Agm,fun hc=>?_,fun hc cap' ah=>?_⟩
  ·have ae:n*z+ys.length<=(σ.obj o).length:=by rw[hy,aa,<-Ad9];exact Adj _ hc
   refine hO o cap _ ⟨cap,rfl,hc,rfl⟩ (by rw[Kj];exact aa) ?_;rw[H8 _ _ _ ae,ac];have:(n+m)*z=(xs++ys).length:=by rw[Aeb,ad,hy,Ad9]
   rw[this,List.take_left]
  ·refine hN cap' _ ?_ ah ?_
   ·rw[ac,Aeb,Aeb,ad,hy,ab,<-Ad9,<-Ad9];congr 1;omega
   ·rw[ac];have:(n+m)*z=(xs++ys).length:=by rw[Aeb,ad,hy,Ad9]
    rw[this,List.take_left]
theorem mY {P:Program}{N:Nat}{c:Code}{Q:Ha}{s:Sl}{σ:St}{o p n cap j k:Nat}{ys:List AV}(ho:o<σ.nobj)(hp:p<σ.nobj)(aj:o≠p)(hy:σ.obj p=ys)(hj:ys[j]?=some (gx o n cap))(hk:k<=(σ.obj o).length)
  (h:Kz P N c Q s ((σ.put o []).put p (ys.set j (sl 0 n ((σ.obj o).take k))))):Kz P N c Q s σ:=fun G a w R=>by
 obtain⟨G',I',E,ab,aa⟩:=R.inv.freeze ho;have ad:(σ.put o []).obj p=ys:=by simp[St.put,aj.symm,hy]
 have am:(σ.put o []).obj p≠[]:=fun e=>by rw[ad]at e;rw[e]at hj;simp at hj
 obtain⟨I2,E2⟩:=I'.retell (o:=p) hp am (ys.set j (sl 0 n ((σ.obj o).take k))) (fun arr ha=>by
  rw[ad]at ha;refine⟨by rw[List.length_set];exact ha.1,fun i v x hv hx=>?_⟩;by_cases ae:i=j
  ·subst ae;have an:=(Adm.1 hj).1;rw[List.getElem?_set_self an]at hx;cases hx;obtain⟨e1,e2,e3⟩:=VR.of_gx (ha.2 i v _ hv hj);refine VR.fold ⟨some ⟨G'.blk o,0,none⟩,cap,e1,⟨e2,fun h=>by cases h⟩,fun af=>⟨G'.blk o,0,rfl,fun q y hq=>?_⟩,fun k' ap=>Agm⟩;have ak:σ.obj o≠[]:=fun e=>af (by rw[e];simp);obtain⟨⟨cur,ecur,ac,ao⟩,-⟩:=(R.inv.obj o ho).2.2 ak;rw[Adk]at hq;split at hq
   case isFalse=>cases hq
   obtain⟨u,ai,ah⟩:=ao.get hq;refine⟨by rw[aa];exact ab _,u,?_,ah.ext E⟩;rw[aa];simp only[World.cell?,ac,Aea];simpa using ai
  ·rw[Aga (Ne.symm ae)]at hx
   exact ha.2 i v x hv hx)
 have R2:Rel N G' s ((σ.put o []).put p (ys.set j (sl 0 n ((σ.obj o).take k)))) a w:=⟨R.defers,R.size,fun t=>(R.tmps t).ext (E.trans E2),I2⟩;exact wp_mono (h G' a w R2) fun e a' w' hc=>hc.ext (E.trans E2)
end Go.Abs
namespace Go.Proofs.YtmoeoppbmhfbpaaGreatDoorD
open Go.Abs
theorem O6 {a:Dy}(h:Io a.ts=true)(ν:Nu):Br a ν=Ct a:=by
 unfold Br Ct;congr 1;apply Afa;intro t ht;unfold Io at h;rw[Ado]at h;have:=h t ht;obtain⟨b,w⟩:=t;cases b with
 |false=>rfl
 |true=>simp at this
def mW (t:Cc)(ts:List Tm)(x:Tm×Nat):List Tm:=if x.1.1=true then Bg x.1.2 (Hk t (x.2:Nat)) ts else ts
def Py (ps:List Tm)(t:Cc)(ts:List Tm):List Tm:=ps.zipIdx.foldl (mW t) ts
def Oh (l:List Cc)(a:Dy)(p:Part):Part:=⟨p.a,p.tups.filter fun t=>!decide (Ct ⟨a.p,Py p.a.ts t a.ts⟩∈l)⟩
theorem sV (ps:List Tm)(x:Tm)(t:Cc)(ts:List Tm):Py (ps++[x]) t ts=mW t (Py ps t ts) (x,ps.length):=by
 unfold Py;rw[List.zipIdx_append,List.foldl_append];simp
theorem tZ (μ:Nu)(v:Int):Mu μ v (μ v)=μ:=by
 funext w;unfold Mu;split
 ·rename_i e;rw[e]
 ·rfl
theorem pW {t:Cc}{v:Int}:∀(l:List (Tm×Nat)) (ts:List Tm),A9 (l.foldl (mW t) ts) v=true->A9 ts v=true/\∀x∈l,x.1≠(true,v)
 |[],ts,h=>⟨h,by simp⟩
 |x::l,ts,h=>by
  rw[Adt]at h;obtain⟨h1,h2⟩:=pW l _ h;unfold mW at h1;obtain⟨⟨xb,xv⟩,xi⟩:=x;cases xb with
  |false=>
   simp only[Aei,if_false]at h1
   exact⟨h1,fun y hy=>by
    rcases Ae2.1 hy with rfl|hy
    ·simp
    ·exact h2 y hy⟩
  |true=>
   simp only[if_true]at h1;have:=(hasV_put (a:=⟨0,ts⟩)).1 h1
   exact⟨this.1,fun y hy=>by
    rcases Ae2.1 hy with rfl|hy
    ·simp only[ne_eq,Prod.mk.injEq,Agi];exact fun e=>this.2 e.symm
    ·exact h2 y hy⟩
theorem Aal {pa a:Dy}{μ:Nu}(h3:pa.ts.length<=3)(hv:∀v,A9 a.ts v=true->A9 pa.ts v=true):Ct ⟨a.p,Py pa.ts (Br pa μ) a.ts⟩=Br a μ:=by
 have key:∀(l:List (Tm×Nat)) (ts:List Tm),(∀x∈l,pa.ts[x.2]?=some x.1)->Br ⟨a.p,l.foldl (mW (Br pa μ)) ts⟩ μ=Br ⟨a.p,ts⟩ μ:=by
  intro l;induction l with
  |nil=>intro ts _;rfl
  |cons x l ih=>
   intro ts hl;rw[Adt,ih _ (fun y hy=>hl y (Ae7 _ hy))];unfold mW;split
   ·rename_i hx;obtain⟨⟨xb,xv⟩,xi⟩:=x;simp only at hx;subst hx;have hg:pa.ts[xi]?=some (true,xv):=hl _ Ae5;have aa:=(Adm.1 hg).1;have ht:Hk (Br pa μ) ((xi:Nat):Int)=μ xv:=by
     unfold Hk;rw[Af3,Br,Jh (by simpa using aa) (by simpa using h3)];have:=(Adm.1 hg).2;simp[this,D2]
    show Br ⟨a.p,Bg xv (Hk (Br pa μ) ((xi:Nat):Int)) ts⟩ μ=_;rw[ht];have:=Kb ⟨a.p,ts⟩ xv (μ xv) μ;rw[tZ]at this;exact this
   ·rfl
 have hz:∀x∈pa.ts.zipIdx,pa.ts[x.2]?=some x.1:=fun x hx=>by
  obtain⟨y,i⟩:=x;exact List.mem_zipIdx_iff_getElem?.1 hx
 have h1:=key pa.ts.zipIdx a.ts hz;have h2:Io (Py pa.ts (Br pa μ) a.ts)=true:=by
  unfold Io;rw[Ado];intro t ht;obtain⟨b,w⟩:=t;cases b with
  |false=>rfl
  |true=>
   exfalso;obtain⟨g1,g2⟩:=pW pa.ts.zipIdx a.ts (hasV_iff.2 ht);have:=hasV_iff.1 (hv w g1);obtain⟨i,hi⟩:=Afc this;exact g2 ((true,w),i) (List.mem_zipIdx_iff_getElem?.2 hi) rfl
 rw[<-O6 (a:=⟨a.p,Py pa.ts (Br pa μ) a.ts⟩) h2 μ];exact h1
theorem Aam {l:List Cc}{a:Dy}{p:Part}{ν:Nu}(h3:p.a.ts.length<=3)(hv:∀v,A9 a.ts v=true->A9 p.a.ts v=true):Br p.a ν∈(Oh l a p).tups↔Br p.a ν∈p.tups/\Br a ν∉l:=by
 unfold Oh;rw[Afz,Aal h3 hv];simp
theorem cG (om ot:Nat)(M:MM)(d b:Int)(p:Part)(a:Dy)(id idt ida k:Nat)(x:Nat×List Cc)(b8:p.a.ts.length<=3)(b7:p.tups.length<=5000)(h3:T3 p.tups)(ha:a.ts.length<=3)(hk:a.p=(k:Int))(hx:M[k]?=some x)(σ:St)(hM:MOb σ om ot M d b):ACalls Tryz.prog 212 [ptr om 0,ag [ic p.a.p,sl id p.a.ts.length (Af p.a.ts),sl idt p.tups.length (Er p.tups)],ag [ic a.p,sl ida a.ts.length (Af a.ts)]] σ fun r σ'=>(∃idn,r=ag [ic p.a.p,sl id p.a.ts.length (Af p.a.ts),sl idn (Oh x.2 a p).tups.length (Er (Oh x.2 a p).tups)])/\Keep σ σ':=by
 have b6:=Ir h3;have cc:=Eb p.a.ts;have HR:Agt ((Oh x.2 a p).tups=p.tups.filter fun t=>!decide (Ct ⟨a.p,Py p.a.ts t a.ts⟩∈x.2)):=rfl;have a3:Agt (∀(ts:List Tm) (i:Nat) (σ1:St),ts.length<=3->Keep σ σ1->ACalls Tryz.prog 75 [ptr om 0,ag [ic a.p,sl i ts.length (Af ts)]] σ1 fun r σ'=>r=sc (.bool (decide (Ct ⟨a.p,ts⟩∈x.2)))/\Keep σ1 σ'):=fun ts i σ1 h1 h2=>Ih om ot M d b ⟨a.p,ts⟩ i k x h1 hk hx σ1 (hM.keep h2);generalize hG:(fun t:Cc=>Ct ⟨a.p,Py p.a.ts t a.ts⟩)=bT at*
 have HG:Agt (∀t,bT t=Ct ⟨a.p,Py p.a.ts t a.ts⟩):=fun t=>by rw[<-hG]
 have b1:Agt ((Oh x.2 a p).tups=p.tups.filter fun t=>!decide (bT t∈x.2)):=by
  rw[Agt,HR.out];congr 1;funext t;rw[HG.out t]
 clear hG HR hk hx hM;generalize Oh x.2 a p=bp at*
 refine Z9 55 [.cell 6 214] Tryz.func212 ?_
 refine zz ?_
 refine Ad (fun m s σ'=>∃(i i3:Nat) (o:List Cc) (xs:List AV),m=p.tups.length-i/\i<=p.tups.length/\s 0=ptr om 0/\s 4=ptr σ.nobj 0/\s 5=ptr (σ.nobj+1) 0/\s 6=ptr (σ.nobj+2) 0/\s 7=ptr (σ.nobj+3) 0/\s 17=sl idt p.tups.length (Er p.tups)/\s 18=ic p.tups.length/\s 19=ic i/\Keep σ σ'/\σ.nobj+3<σ'.nobj/\σ'.obj σ.nobj=[ic p.a.p,sl id p.a.ts.length (Af p.a.ts),sl idt p.tups.length (Er p.tups)]/\σ'.obj (σ.nobj+1)=[ic a.p,sl ida a.ts.length (Af a.ts)]/\σ'.obj (σ.nobj+2)=[ic 0,nilS,nilS]/\σ'.obj (σ.nobj+3)=[ic p.a.p,sl id p.a.ts.length (Af p.a.ts),sl i3 o.length xs]/\Own σ σ' i3 o.length/\o.length<=i/\xs.length=o.length*3/\Agt (xs=Er o/\o=(p.tups.take i).filter fun t=>!decide (bT t∈x.2))) p.tups.length
  ⟨0,1,[],[],Agm,Agm,by simp[upd,initS],Ago,Ago,Ago,Ago,Ago,Ago,rfl,Xs,Ags,?_,?_,?_,?_,Own.nil _ _,by simp,by simp,⟨rfl,by simp⟩⟩ ?_
 ·rw[Ak Agm,Ah Agq,Ah Agq,Ah Agq,Al]
 ·rw[Ak Agm,Ah Agq,Ah Agq,Ca Agq Agq]
 ·rw[Ak Agm,Ah Agq,Ca Agq Agq]
 ·rw[show σ.nobj+3=σ.nobj+1+1+1 from rfl,Aj];simp
 rintro m s σ' ⟨i,i3,o,xs,rfl,hi,h0,h4,h5,h6,h7,a6,a5,a4,hK,ca,b4,b3,b2,bd,hO,b9,be,hX⟩;have b5:=hK.nobj;by_cases bf:i<p.tups.length
 ·have ae:=Adn bf;obtain⟨ah,r,hd⟩:=Jj h3 ae;generalize p.tups[i]=t at hd ae ah;have HF:Agt ((p.tups.take (i+1)).filter (fun t=>!decide (bT t∈x.2))=(p.tups.take i).filter (fun t=>!decide (bT t∈x.2))++if (!decide (bT t∈x.2))=true then [t]else []):=by
   rw[Agt,Ad0,ae,Aez,D6]
  clear ae;have f1:=Hf ah;have f2:=Mk ah;have f3:=Ia ah;have f4:=Oa ah;have f5:=Ev t;have f6:=Zv ah
  repeat' first|refine Z1 ?_|refine Z8 fun ya J=>?_|refine Z4 ?_;clear J ya|refine Z2 ?_ ?_<;>intro h ab<;>try exact Xp|refine Z3 ?_|exact Zt|apply J.out;clear J ya
  refine Ad (fun m s σ2=>∃(j idj:Nat) (ts:List Tm),m=p.a.ts.length-j/\j<=p.a.ts.length/\s 0=ptr om 0/\s 4=ptr σ.nobj 0/\s 5=ptr (σ.nobj+1) 0/\s 6=ptr (σ.nobj+2) 0/\s 7=ptr (σ.nobj+3) 0/\s 9=ptr σ'.nobj 0/\s 10=ptr (σ'.nobj+1) 0/\s 17=sl idt p.tups.length (Er p.tups)/\s 18=ic p.tups.length/\s 19=ic i/\s 26=sl id p.a.ts.length (Af p.a.ts)/\s 27=ic p.a.ts.length/\s 28=ic j/\Keep σ' σ2/\σ'.nobj+1<σ2.nobj/\σ2.obj σ'.nobj=Ar t/\σ2.obj (σ'.nobj+1)=[ic a.p,sl idj ts.length (Af ts)]/\ts.length<=3/\Agt (ts=Py (p.a.ts.take j) t a.ts)) p.a.ts.length
   ⟨0,ida,a.ts,Agm,Agm,Agn,Agn,Agn,Agn,Agn,Agn,Agn,Agn,Agn,Agn,Agn,Agn,Ago,Xs,Ags,?_,?_,ha,rfl⟩ ?_
  ·rw[Ak Agm,Ah Ags,Aj]
  ·rw[Aj]
  clear h0 h4 h5 h6 h7 a6 a5 a4;rintro m s σ2 ⟨j,idj,ts,rfl,hj,h0,h4,h5,h6,h7,h9,bz,a6,a5,a4,bw,bv,bu,af,ay,oc0,oc1,a9,hT⟩;have aj:=af.nobj;by_cases ak:j<p.a.ts.length
  ·have aa:=Adn ak;obtain⟨rj,bn⟩:=Ec aa;generalize p.a.ts[j]=w at bn aa;obtain⟨w1,w2⟩:=w;have an:t[j]?=some t[j]:=Adn Agm;have bi:=Ob an;have ax:Agt (Hk t (j:Nat)=t[j]):=by simp[Agt,Hk,an]
   generalize t[j]=y at an bi ax;have HT:Agt (Py (p.a.ts.take (j+1)) t a.ts=if w1=true then Bg w2 y ts else ts):=by
    rw[Agt,Ad0,aa,Aez,sV,Aec,Aeh hj,<-hT.out];unfold mW;simp only[ax.out]
   clear aa an ax hT;cases w1 with
   |false=>
    have a8:Agt (ts=Py (p.a.ts.take (j+1)) t a.ts):=by rw[Agt,HT.out];rfl
    clear HT
    repeat' first|refine Z1 ?_|refine Z8 fun ya J=>?_|refine Z4 ?_;clear J ya|refine Z2 ?_ ?_<;>intro h ab<;>try exact Xp|refine Z3 ?_|exact Zt|apply J.out;clear J ya
    refine⟨p.a.ts.length-(j+1),Agm,j+1,idj,ts,?_⟩
    ((repeat' refine Zi ?_ ?_)<;>first|exact Xq|exact a8|exact Xs)
   |true=>
    have a8:Agt (Bg w2 y ts=Py (p.a.ts.take (j+1)) t a.ts):=by rw[Agt,HT.out];rfl
    clear HT;have bo:=fun σ=>Mm a.p idj ts w2 y Agm σ;have bm:(Bg w2 y ts).length<=3:=by simpa[Bg]using a9
    repeat' first|refine Z1 ?_|refine Z8 fun ya J=>?_|refine Z4 ?_;clear J ya|refine Z2 ?_ ?_<;>intro h ab<;>try exact Xp|refine Z3 ?_|exact Zt|apply J.out;clear J ya
    have ba:Keep σ' ((σ2.new [sc (.bool false),ic 0]).put σ2.nobj [sc (.bool true),ic w2]):=(af.new _).put aj _;refine Bl (Q:=fun e s' σ''=>e= .normal/\s' 0=ptr om 0/\s' 4=ptr σ.nobj 0/\s' 5=ptr (σ.nobj+1) 0/\s' 6=ptr (σ.nobj+2) 0/\s' 7=ptr (σ.nobj+3) 0/\s' 9=ptr σ'.nobj 0/\s' 10=ptr (σ'.nobj+1) 0/\s' 17=sl idt p.tups.length (Er p.tups)/\s' 18=ic p.tups.length/\s' 19=ic i/\s' 26=sl id p.a.ts.length (Af p.a.ts)/\s' 27=ic p.a.ts.length/\s' 28=ic j/\Keep σ' σ''/\σ'.nobj+1<σ''.nobj/\σ''.obj σ'.nobj=Ar t/\∃idn,σ''.obj (σ'.nobj+1)=[ic a.p,sl idn (Bg w2 y ts).length (Af (Bg w2 y ts))]) ?_ ?_
    ·refine Ay Ag (fun _=>True) [7] [0,1,2,3,4,5] 2 #[true,true,true,true,true,true,false,false] Agp (fun _ _ _ h=>by cases h.1) ?_;intro ya J;refine Z3 ?_;refine J.out _ ?_;clear J ya;refine Ai (i:=6) Agp ?_;refine Am ?_;intro ya J;refine Z3 ?_;refine ACalls.mono (bo _) ?_;rintro _ σb ⟨⟨idn,rfl⟩,ao⟩;have knb:=ao.nobj;simp only[Ac,Aa]at knb;have av:=ao.obj;simp only[Ac,Aa]at av;have og0:σb.obj σ'.nobj=Ar t:=by rw[av _ Agm,Ak Agm,Ah Agm,oc0]
     have og1:σb.obj (σ'.nobj+1)=[ic a.p,sl idj ts.length (Af ts)]:=by rw[av _ Agm,Ak Agm,Ah Agm,oc1]
     refine Z3 ?_;refine J.out _ _ ⟨Ao ao,?_⟩;clear J ya;refine Ai (i:=7) Agp ?_;refine Am ?_;intro ya J;refine Z3 ?_;refine J.out _ _ ⟨Bf rfl,?_⟩;clear J ya;refine Bb Agp ⟨rfl,Agn,Agn,Agn,Agn,Agn,Agn,Agn,Agn,Agn,Agn,Agn,Agn,Agn,(ba.trans ao).put Agm _,by simp only[Ac];omega,by rw[Ak Agm,og0],idn,Aj⟩
    ·rintro e s2 σ3 ⟨rfl,g0,g4,g5,g6,g7,g9,g10,g17,g18,g19,g26,g27,g28,cd,cb,oe0,idn,oe1⟩;clear h0 h4 h5 h6 h7 h9 bz a6 a5 a4 bw bv bu oc0 oc1 ba af aj ay
     refine zz ?_
     refine⟨p.a.ts.length-(j+1),Agm,j+1,idn,Bg w2 y ts,?_⟩
     ((repeat' refine Zi ?_ ?_)<;>first|exact Xq|exact a8|exact Xs)
  ·have bg:j=p.a.ts.length:=Agm;subst bg;have HB:Agt (Ct ⟨a.p,ts⟩=bT t):=by
    rw[Agt,HG.out t,hT.out,Adu]
   have am:=fun σ1 hh=>a3.out ts idj σ1 a9 hh;rw[HB.out]at am;have ap:=hK.trans af;clear hT HB hj ak;cases ai:decide (bT t∈x.2)with
   |true=>
    have HX:Agt (xs=Er o/\o=(p.tups.take (i+1)).filter fun t=>!decide (bT t∈x.2)):=by
     obtain⟨x1,x2⟩:=hX.out;refine⟨x1,?_⟩;rw[HF.out,ai,x2];simp
    rw[ai]at am;clear hX HF ai
    repeat' first|refine Z1 ?_|refine Z8 fun ya J=>?_|refine Z4 ?_;clear J ya|refine Z2 ?_ ?_<;>intro h ab<;>try exact Xp|refine Z5 ?_;refine Xi (am _ ap) ?_;rintro _ _ ⟨rfl,ac⟩;(have aw:=ac.nobj;have ad:=(af.trans ac).obj;have a0:=ap.trans ac;have az:=Own.keep hO (af.trans ac))|refine Z3 ?_|exact Zt|apply J.out;clear J ya
    refine⟨p.tups.length-(i+1),Agm,i+1,i3,o,xs,?_⟩
    ((repeat' refine Zi ?_ ?_)<;>first|exact Xq|exact a0|exact az|exact HX|exact (by rw[ad _ Agm];assumption)|exact Xs)
   |false=>
    have HX:Agt (xs++Ar t=Er (o++[t])/\o++[t]=(p.tups.take (i+1)).filter fun t=>!decide (bT t∈x.2)):=by
     obtain⟨x1,x2⟩:=hX.out;refine⟨by rw[x1,O1],?_⟩;rw[HF.out,ai,<-x2];simp
    rw[ai]at am;clear hX HF ai
    repeat' first|refine Z1 ?_|refine Z8 fun ya J=>?_|refine Z4 ?_;clear J ya|refine Z2 ?_ ?_<;>intro h ab<;>try exact Xp|refine Z5 ?_;refine Xi (am _ ap) ?_;rintro _ _ ⟨rfl,ac⟩;(have aw:=ac.nobj;have ad:=(af.trans ac).obj;have au:=ac.obj;have a0:=ap.trans ac;have az:=Own.keep hO (af.trans ac))|refine Z3 ?_|exact Zt
    rename_i σ5;have oh0:σ5.obj σ'.nobj=Ar t:=by rw[au _ Agm,oc0]
    have oh3:σ5.obj (σ.nobj+3)=[ic p.a.p,sl id p.a.ts.length (Af p.a.ts),sl i3 o.length xs]:=by rw[ad _ Agm,bd]
    repeat' first|refine Z1 ?_|refine Z3 ?_|exact Zt
    refine Bz (by first|exact F5) (a0) (az) (by decide) (by rfl) (be) (by rw[f1]) (f5) (by decide) Agm Agm ?_;intro idn σn bq br a7 bc b0 bb;have eob:∀q,q<σ'.nobj->σn.obj q=σ'.obj q:=fun q hq=>by rw[a7,ad _ hq]
    refine Z3 ?_
    refine zz ?_
    refine⟨p.tups.length-(i+1),Agm,i+1,idn,o++[t],xs++Ar t,?_⟩
    ((repeat' refine Zi ?_ ?_)<;>first|exact Xq|exact (br.put Agm _)|exact (by simpa using Own.put bq _ _)|exact HX|exact Xs)
 ·have bh:i=p.tups.length:=Agm;subst bh;obtain⟨x1,x2⟩:=hX.out;rw[Adu]at x2
  repeat' first|refine Z1 ?_|refine Z8 fun ya J=>?_|refine Z4 ?_;clear J ya|refine Z2 ?_ ?_<;>intro h ab<;>try exact Xp|refine Z3 ?_|exact Zt|apply J.out;clear J ya
  exact⟨_,rfl,⟨_,by rw[b1.out,<-x2]<;>first|rfl|rw[x1]⟩,hK.put Agm _⟩
def lK (a:Dy)(p:Part):Bool:=(Cn [a]).all (A9 p.a.ts)
theorem pwB_iff {a:Dy}{p:Part}:lK a p=true↔∀v,A9 a.ts v=true->A9 p.a.ts v=true:=by
 unfold lK;rw[Ado];constructor
 ·intro h v hv;exact h v ((Dp _ _).2 ⟨a,by simp,hasV_iff.1 hv⟩)
 ·intro h v hv;obtain⟨b,hb,aa⟩:=(Dp _ _).1 hv;simp at hb;subst hb;exact h v (hasV_iff.2 aa)
theorem iZ (h0 h1 h3:AV)(hf:([h0,h1,h3]:List AV).all flat=true)(a:Dy)(ida:Nat)(σ:St):ACalls Tryz.prog 211 [ag [h0,h1,nilS,h3],ag [ic a.p,sl ida a.ts.length (Af a.ts)]] σ fun r σ'=>r=ic (-1)/\Keep σ σ':=by
 simp only[List.all_cons,List.all_nil,Bool.and_true,Adr]at hf;obtain⟨f0,f1,f3⟩:=hf;refine Z9 23 [.tmp 4] Tryz.func211 ?_
 refine zz ?_
 refine Ad (fun m s σ'=>m=0/\s 9=ic 0/\s 10=ic 0/\Keep σ σ') 0
  ⟨rfl,Ago,Ago,Xs⟩ ?_
 rintro m s σ' ⟨rfl,h9,ab,hK⟩
 repeat' first|refine Z1 ?_|refine Z8 fun ya J=>?_|refine Z4 ?_;clear J ya|refine Z2 ?_ ?_<;>intro h aa<;>try exact Xp|refine Z3 ?_|exact Zt|apply J.out;clear J ya
 first|exact⟨_,rfl,rfl⟩|exact⟨_,rfl,rfl,hK⟩
theorem iY (h0 h1 h3:AV)(hf:([h0,h1,h3]:List AV).all flat=true)(L:List Part)(hL:∀p∈L,p.a.ts.length<=3)(a7:L.length<=64)(o cap:Nat)(pc:List AV)(hP:EL L2 L pc)(a:Dy)(ida:Nat)(ha:a.ts.length<=3)(σ:St)(ho:o<σ.nobj)(av:L.length<=cap)(a6:(σ.obj o).length=cap*3)(an:(σ.obj o).take (L.length*3)=pc):ACalls Tryz.prog 211 [ag [h0,h1,gx o L.length cap,h3],ag [ic a.p,sl ida a.ts.length (Af a.ts)]] σ fun r σ'=>((∃(i:Nat) (p:Part),r=ic i/\L[i]?=some p/\lK a p=true)\/(r=ic (-1)/\∀p∈L,lK a p=false))/\Keep σ σ':=by
 simp only[List.all_cons,List.all_nil,Bool.and_true,Adr]at hf;obtain⟨f0,f1,f3⟩:=hf;have ab:=fun (i:Nat) (σ:St)=>Ie [a] [ic a.p,sl ida a.ts.length (Af a.ts)] i (EL.single ⟨ida,rfl⟩) (by simp;exact ha) (by simp) σ;have am:=Gp (l:=[a]) (by simp;exact ha);have HV:Agt (∀p,lK a p=(Cn [a]).all (A9 p.a.ts)):=fun p=>rfl;generalize Cn [a]=vs at*
 simp only[Aem,Ael]at am ab;have hpl:=EL.length Ef hP;refine Z9 23 [.tmp 4] Tryz.func211 ?_
 refine zz ?_
 refine Ad (fun m s σ'=>∃i:Nat,m=L.length-i/\i<=L.length/\s 2=ptr σ.nobj 0/\s 3=ptr (σ.nobj+1) 0/\s 8=gx o L.length cap/\s 9=ic L.length/\s 10=ic i/\Keep σ σ'/\σ.nobj+1<σ'.nobj/\σ'.obj (σ.nobj+1)=[ic a.p,sl ida a.ts.length (Af a.ts)]/\Agt (∀p∈L.take i,lK a p=false)) L.length
  ⟨0,Agm,Agm,Ago,Ago,Ago,Ago,rfl,Xs,Ags,?_,by simp[Agt]⟩ ?_
 ·rw[Ca Agq Agq]
 rintro m s σ' ⟨i,rfl,hi,h2,ay,h8,h9,az,hK,a5,ai,hA⟩;have a3:=hK.nobj;by_cases aj:i<L.length
 ·have aa:=Adn aj;obtain⟨id,idt,r,hd⟩:=E6 hP aa;have ak:=hL _ (Aes aj);generalize L[i]=w at hd aa ak;have oo:σ'.obj o=σ.obj o:=hK.obj o ho;have ao:(σ'.obj o).drop (i*3)=ic w.a.p::sl id w.a.ts.length (Af w.a.ts)::sl idt w.tups.length (Er w.tups)::(r++(σ.obj o).drop (L.length*3)):=by
   rw[oo]
   conv=>lhs;rw[<-Afq (L.length*3) (σ.obj o),an]
   rw[List.drop_append_of_le_length (by rw[hpl];omega),hd];rfl
  have ap:o≠σ'.nobj:=Agm;have HA:Agt (lK a w=false->∀p∈L.take (i+1),lK a p=false):=fun hw p hp=>by
   rw[Ad0,aa,Aez]at hp;rcases Aet.1 hp with h|h
   ·exact hA.out p h
   ·simp at h;subst h;exact hw
  have HW:Agt (L[i]?=some w):=aa;have af:=fun (i:Nat) (σ:St)=>cD w.a.p id w.a.ts vs i Agm Agm σ;rw[<-HV.out w]at af;have a4:σ'.nobj≠o:=fun e=>ap e.symm;clear aa hA oo
  repeat' first|refine Z1 ?_|refine Z8 fun ya J=>?_|refine Z4 ?_;clear J ya|refine Z2 ?_ ?_<;>intro h ae<;>try exact Xp|refine Z3 ?_|exact Zt|apply J.out;clear J ya
  have ax:Keep σ ((σ'.new [ic 0,nilS,nilS]).put σ'.nobj [ic w.a.p,sl id w.a.ts.length (Af w.a.ts),sl idt w.tups.length (Er w.tups)]):=(hK.new _).put hK.nobj _;have kv:∀p,p<σ'.nobj->((σ'.new [ic 0,nilS,nilS]).put σ'.nobj [ic w.a.p,sl id w.a.ts.length (Af w.a.ts),sl idt w.tups.length (Er w.tups)]).obj p=σ'.obj p:=fun p hp=>by rw[Ak Agm,Ah Agm]
  generalize hσb:(σ'.new [ic 0,nilS,nilS]).put σ'.nobj [ic w.a.p,sl id w.a.ts.length (Af w.a.ts),sl idt w.tups.length (Er w.tups)]=σb at*
  have nb:σb.nobj=σ'.nobj+1:=by rw[<-hσb];rfl
  have o6:σb.obj σ'.nobj=[ic w.a.p,sl id w.a.ts.length (Af w.a.ts),sl idt w.tups.length (Er w.tups)]:=by rw[<-hσb,Aj]
  have o3:σb.obj (σ.nobj+1)=[ic a.p,sl ida a.ts.length (Af a.ts)]:=by rw[kv _ Agm,ai]
  clear hσb;refine Bl (Q:=fun e s' σ''=>e= .normal/\s' 20=sc (.bool (lK a w))/\s' 2=ptr σ.nobj 0/\s' 3=ptr (σ.nobj+1) 0/\s' 5=ic i/\s' 8=gx o L.length cap/\s' 9=ic L.length/\s' 10=ic i/\Keep σb σ'') ?_ ?_
  ·refine Ay Ag (fun _=>True) [] [0,1,2] 3 #[true,true,true,false,false,false] Agp (fun _ _ _ h=>by cases h.1) ?_;intro ya J;refine Z3 ?_;refine J.out _ ?_;clear J ya;refine Ai (i:=3) Agp ?_;refine Am ?_;intro ya J;refine Z3 ?_;refine J.out _ _ ⟨Ao ((Keep.refl _).lay 1),?_⟩;clear J ya;refine Ai (i:=4) Agp ?_;refine Am ?_;intro ya J;refine Z3 ?_;refine ACalls.mono (ab _ _) ?_;rintro _ σc ⟨⟨idv,rfl⟩,ah⟩;have knc:=ah.nobj;refine Z3 ?_;refine J.out _ _ ⟨Ao (((Keep.refl _).lay 1).trans ah),?_⟩;clear J ya;refine Ai (i:=5) Agp ?_;refine Am ?_;intro ya J;refine Z3 ?_;refine ACalls.mono (af _ _) ?_;rintro _ σd ⟨rfl,ad⟩;refine Z3 ?_;refine J.out _ _ ⟨Ao ((((Keep.refl _).lay 1).trans ah).trans ad),?_⟩;clear J ya;refine Bb Agp ⟨rfl,Agn,Agn,Agn,Agn,Agn,Agn,Agn,(((Keep.refl _).lay 1).trans ah).trans ad⟩
  ·rintro e s' σd ⟨rfl,g20,g2,g3,g5,g8,g9,g10,ad⟩;have aw:=ax.trans ad;have knd:=ad.nobj;have oe:σd.obj (σ.nobj+1)=[ic a.p,sl ida a.ts.length (Af a.ts)]:=by rw[ad.obj _ Agm,o3]
   clear h2 ay h8 h9 az h ae ai hd ao;cases ac:lK a w with
   |true=>
    have HP:Agt (lK a w=true):=ac;rw[ac]at g20;clear ac;refine C0 g20 ?_
    refine zz ?_
    first|exact⟨_,rfl,.inl ⟨i,w,rfl,HW.out,HP.out⟩⟩|exact⟨_,rfl,.inl ⟨i,w,rfl,HW.out,HP.out⟩,aw⟩
   |false=>
    have a0:Agt (∀p∈L.take (i+1),lK a p=false):=HA.out ac;rw[ac]at g20;clear ac HA;refine Ed g20 ?_
    refine zz ?_
    refine⟨L.length-(i+1),Agm,i+1,?_⟩
    ((repeat' refine Zi ?_ ?_)<;>first|exact Xq|exact a0|exact Xs)
 ·have au:i=L.length:=Agm;subst au;rw[Adu]at hA
  repeat' first|refine Z1 ?_|refine Z8 fun ya J=>?_|refine Z4 ?_;clear J ya|refine Z2 ?_ ?_<;>intro h ae<;>try exact Xp|refine Z3 ?_|exact Zt|apply J.out;clear J ya
  first|exact⟨_,rfl,.inr ⟨rfl,hA.out⟩,hK⟩|exact .inr ⟨rfl,hA.out⟩|exact⟨_,rfl,.inr ⟨rfl,hA.out⟩⟩
def PS (lo:Nat)(σ:St)(x:AV)(n:Nat)(pc:List AV):Prop:=(x=nilS/\n=0/\pc=[])\/∃o cap,x=gx o n cap/\0<n/\n<=cap/\(σ.obj o).length=cap*3/\(σ.obj o).take (n*3)=pc/\lo<=o/\o<σ.nobj
theorem Hs {σ:St}{p o:Nat}{c:List AV}(h:o≠p):(σ.put p c).obj o=σ.obj o:=by simp[St.put,h]
theorem PS.flat {lo:Nat}{σ:St}{x:AV}{n:Nat}{pc:List AV}(h:PS lo σ x n pc):flat x=true:=by
 rcases h with⟨rfl,-,-⟩|⟨o,cap,rfl,-⟩<;>rfl
theorem PS.keep {lo:Nat}{σ σ':St}{x:AV}{n:Nat}{pc:List AV}(h:PS lo σ x n pc)(k:Keep σ σ'):PS lo σ' x n pc:=by
 rcases h with h|⟨o,cap,h1,h2,h3,h4,h5,h6,h7⟩
 ·exact .inl h
 ·have:=k.obj o h7;exact .inr ⟨o,cap,h1,h2,h3,by rw[this];exact h4,by rw[this];exact h5,h6,Adf h7 k.nobj⟩
theorem PS.put {lo:Nat}{σ:St}{x:AV}{n:Nat}{pc:List AV}(h:PS lo σ x n pc){p:Nat}(hp:p<lo)(c:List AV):PS lo (σ.put p c) x n pc:=by
 rcases h with h|⟨o,cap,h1,h2,h3,h4,h5,h6,h7⟩
 ·exact .inl h
 ·have:(σ.put p c).obj o=σ.obj o:=Hs Agm;exact .inr ⟨o,cap,h1,h2,h3,by rw[this];exact h4,by rw[this];exact h5,h6,h7⟩
theorem Aas {P:Program}{t:TypeId}{b:Nat}{zc:List Value}{σ0 σ:St}{id2 n lo:Nat}{x:AV}{xs ys:List AV}{K:AV->St->Prop}(ht:Np P t=some (3,b,zc))(hzc:zc.length=3)(hy:ys.length=3)(hf:ys.all Abs.flat=true)(hb:(n+1)*b<=140737488355328)(hl:n+1<=1099511627776)
  (ac:lo<=σ.nobj) (h0:σ0.nobj<=lo) (hK:Keep σ0 σ) (hx:PS lo σ x n xs) (h:∀x' σ',PS lo σ' x' (n+1) (xs++ys)->σ.nobj<=σ'.nobj->(∀p,p<lo->σ'.obj p=σ.obj p)->Keep σ0 σ'->K x' σ'):Im P t t x (sl id2 1 ys) σ K:=by
 refine xP (xs:=xs) ht Agm hzc Agm hf Agm hb hl ?_ ?_ ?_
 ·rcases hx with h|⟨o,cap,h1,h2,h3,h4,h5,-,-⟩
  ·exact .inl h
  ·exact .inr ⟨o,cap,h1,h2,h3,h4,h5⟩
 ·rintro o cap cs ⟨c0,e1,e2,rfl⟩ ab aa;rcases hx with⟨rfl,-,-⟩|⟨o',cap',rfl,h2,h3,h4,h5,h6,h7⟩
  ·simp at e1
  ·simp at e1;obtain⟨rfl,rfl⟩:=e1;refine h _ _ (.inr ⟨_,_,rfl,Agm,e2,by rw[Aj];exact ab,by rw[Aj];exact aa,h6,h7⟩) (Adc _) (fun p hp=>Hs Agm) (hK.put Agm _)
 ·intro cap cs ab hc aa;exact h _ _ (.inr ⟨_,_,rfl,Agm,hc,by rw[Al];exact ab,by rw[Al];exact aa,ac,Agq⟩) Agq (fun p hp=>Ah Agm) (hK.new _)
theorem jI {P:Program}{N:Nat}{c:Code}{Q:Ha}{s:Sl}{σ0 σ:St}{lo p j n:Nat}{ys pc:List AV}{x:AV}(hK:Keep σ0 σ)(h0:σ0.nobj<=lo)(ab:σ0.nobj<=p)(hp:p<lo)(ac:lo<=σ.nobj)(hx:PS lo σ x n pc)(hy:σ.obj p=ys)(hj:ys[j]?=some x)
  (h:∀(ip:Nat) (σ':St),Keep σ0 σ'->σ'.nobj=σ.nobj->σ'.obj p=ys.set j (sl ip n pc)->(∀o,o<lo->o≠p->σ'.obj o=σ.obj o)->Kz P N c Q s σ'):Kz P N c Q s σ:=by
 rcases hx with⟨rfl,rfl,rfl⟩|⟨o,cap,rfl,h2,h3,h4,h5,h6,h7⟩
 ·refine h 1 σ hK rfl ?_ (fun _ _ _=>rfl);rw[hy];apply Ad5;intro i;by_cases e:j=i
  ·subst e;rw[List.getElem?_set_self (Adm.1 hj).1,hj]
  ·rw[Aga e]
 ·refine mY (o:=o) (p:=p) (k:=n*3) h7 Agm Agm hy hj (by rw[h4];omega) ?_;rw[h5];exact h 0 _ ((hK.put Agm _).put ab _) rfl Aj (fun q hq aa=>by rw[Hs aa,Hs Agm])
theorem wE {l c:List AV}{off m:Nat}(h1:off+c.length<=m)(h2:m<=l.length):(lsp l off c).take m=lsp (l.take m) off c:=by
 rw[H8 _ _ _ Agm,H8 _ _ _ (by rw[Aec];omega),List.take_take,Aeh Agm,List.drop_take,List.take_append];rw[Aeb,Aec,Aeh Agm,Aeq (by rw[Aeb,Aec];omega)]
theorem yE {α:Type}{E:α->List AV->Prop}{z:Nat}(hz:∀a c,E a c->c.length=z):∀{l:List α} {cs:List AV} {i:Nat} {a:α} {c:List AV},EL E l cs->i<l.length->E a c->EL E (l.set i a) (lsp cs (i*z) c)
 |[],_,i,_,_,_,hi,_=>by simp at hi
 |b::l,cs,0,a,c,⟨d,r,h1,h2,e⟩,hi,ha=>by
  subst e;have e1:=hz _ _ h1;have e2:=hz _ _ ha;refine⟨c,r,ha,h2,?_⟩;rw[Nat.zero_mul,H8 _ _ _ (by simp;omega)];simp[show c.length=d.length by omega]
 |b::l,cs,i+1,a,c,⟨d,r,h1,h2,e⟩,hi,ha=>by
  subst e;have e1:=hz _ _ h1;have e2:=hz _ _ ha;have hr:=EL.length hz h2;have aa:i<l.length:=by simpa using hi
  have hb:i*z+z<=r.length:=by rw[hr,<-Ad1];exact Adj _ aa
  refine⟨d,lsp r (i*z) c,h1,yE hz h2 aa ha,?_⟩;rw[H8 c (d++r) _ (by rw[Aeb,Ad1,e1,e2];omega),H8 c r _ (by rw[e2];omega)];rw[Ad1,<-e1,Nat.add_comm (i*d.length),List.take_length_add_append,Adw,List.drop_length_add_append];simp
theorem PS.set {lo:Nat}{σ:St}{o cap n i:Nat}{pc c:List AV}(h:PS lo σ (gx o n cap) n pc)(hi:i<n)(hc:c.length=3):PS lo (σ.put o (lsp (σ.obj o) (i*3) c)) (gx o n cap) n (lsp pc (i*3) c):=by
 rcases h with⟨h,-,-⟩|⟨o',cap',e,h2,h3,h4,h5,h6,h7⟩
 ·simp at h
 ·simp at e;obtain⟨rfl,rfl⟩:=e;refine .inr ⟨o,cap,rfl,h2,h3,by rw[Aj,Kj];exact h4,?_,h6,h7⟩;rw[Aj,wE (by rw[hc];omega) (by rw[h4];omega),h5]
theorem mJ (lo:Nat)(h0 h1 h3:AV)(hf:([h0,h1,h3]:List AV).all flat=true)(L:List Part)(hL:∀p∈L,p.a.ts.length<=3)(aa:L.length<=64)(X:AV)(pc:List AV)(hP:EL L2 L pc)(a:Dy)(ida:Nat)(ha:a.ts.length<=3)(σ:St)(hX:PS lo σ X L.length pc):ACalls Tryz.prog 211 [ag [h0,h1,X,h3],ag [ic a.p,sl ida a.ts.length (Af a.ts)]] σ fun r σ'=>((∃(i:Nat) (p:Part),r=ic i/\L[i]?=some p/\lK a p=true)\/(r=ic (-1)/\∀p∈L,lK a p=false))/\Keep σ σ':=by
 rcases hX with⟨rfl,hn,-⟩|⟨o,cap,rfl,h2,hc,h4,h5,h6,h7⟩
 ·refine ACalls.mono (iZ h0 h1 h3 hf a ida σ) ?_;rintro r σ' ⟨rfl,hK⟩;have:L=[]:=Ads hn;subst this;exact⟨.inr ⟨rfl,by simp⟩,hK⟩
 ·exact iY h0 h1 h3 hf L hL aa o cap pc hP a ida ha σ h7 hc h4 h5
structure RdS (neg:Int->Cc->Prop)(q:Qry)(k:Nat)(L:List Part)(Nn:List Dy):Prop where
 atm:L.map (·.a)=q.parts.map (·.a)
 sub:∀p∈L,∃p0∈q.parts,p.a=p0.a/\p.tups.Sublist p0.tups
 nsub:Nn.Sublist (q.nots.take k)
 uns:∀a∈Nn,Io a.ts=false
 sol:∀ν,((∀p∈q.parts,Br p.a ν∈p.tups)/\∀a∈q.nots.take k,¬neg a.p (Br a ν))↔((∀p∈L,Br p.a ν∈p.tups)/\∀a∈Nn,¬neg a.p (Br a ν))
theorem RdS.start (neg:Int->Cc->Prop)(q:Qry):RdS neg q 0 q.parts []:=
 ⟨rfl,fun p hp=>⟨p,hp,rfl,Agb _⟩,by simp,by simp,fun ν=>by simp⟩
theorem Hq {α:Type}{l:List α}{k:Nat}{a:α}(h:l[k]?=some a):l.take (k+1)=l.take k++[a]:=by rw[Ad0,h,Aez]
theorem RdS.keepN {neg:Int->Cc->Prop}{q:Qry}{k:Nat}{L:List Part}{Nn:List Dy}{a:Dy}(h:RdS neg q k L Nn)(ha:q.nots[k]?=some a)(hs:Io a.ts=false):RdS neg q (k+1) L (Nn++[a]):=by
 refine⟨h.atm,h.sub,by rw[Hq ha];exact h.nsub.append (Agb _),fun b hb=>?_,fun ν=>?_⟩
 ·rcases Aet.1 hb with hb|hb
  ·exact h.uns b hb
  ·simp at hb;subst hb;exact hs
 ·have:=h.sol ν;rw[Hq ha];simp only[Aet,Afk,or_imp,forall_and,forall_eq];rw[<-and_assoc,this,and_assoc]
theorem RdS.drop {neg:Int->Cc->Prop}{q:Qry}{k:Nat}{L:List Part}{Nn:List Dy}{a:Dy}(h:RdS neg q k L Nn)(ha:q.nots[k]?=some a)(hs:∀ν,¬neg a.p (Br a ν)):RdS neg q (k+1) L Nn:=by
 refine⟨h.atm,h.sub,by rw[Hq ha];exact h.nsub.trans (List.sublist_append_left _ _),h.uns,fun ν=>?_⟩;have:=h.sol ν;rw[Hq ha];simp only[Aet,Afk,or_imp,forall_and,forall_eq];rw[<-and_assoc,this];exact and_iff_left (hs ν)
theorem RdS.bar {neg:Int->Cc->Prop}{q:Qry}{k i:Nat}{L:List Part}{Nn:List Dy}{a:Dy}{p:Part}{l:List Cc}(h:RdS neg q k L Nn)(ha:q.nots[k]?=some a)(hp:L[i]?=some p)(h3:p.a.ts.length<=3)(hw:lK a p=true)(hn:∀t,neg a.p t↔t∈l):RdS neg q (k+1) (L.set i (Oh l a p)) Nn:=by
 have hi:=(Adm.1 hp).1;have ac:=Adp hp;refine⟨?_,fun p' aa=>?_,by rw[Hq ha];exact h.nsub.trans (List.sublist_append_left _ _),h.uns,fun ν=>?_⟩
 ·rw[<-h.atm];apply Ad5;intro n;rw[Adx,Adx];by_cases e:i=n
  ·subst e;rw[List.getElem?_set_self hi,hp];rfl
  ·rw[Aga e]
 ·rcases Af2 aa with h1|rfl
  ·exact h.sub p' h1
  ·obtain⟨p0,g1,g2,g3⟩:=h.sub p ac;exact⟨p0,g1,g2,Agc.trans g3⟩
 ·have hs:=h.sol ν;rw[Hq ha];simp only[Aet,Afk,or_imp,forall_and,forall_eq];rw[<-and_assoc,hs,hn];have hb:=Aam (l:=l) (a:=a) (p:=p) (ν:=ν) h3 (pwB_iff.1 hw);have hL:(∀p'∈L.set i (Oh l a p),Br p'.a ν∈p'.tups)↔(∀p'∈L,Br p'.a ν∈p'.tups)/\Br a ν∉l:=by
   constructor
   ·intro g;have g1:=hb.1 (g (Oh l a p) (List.mem_set hi _));refine⟨fun p' aa=>?_,g1.2⟩;obtain⟨n,ab⟩:=Afc aa;by_cases e:i=n
    ·subst e;rw[hp]at ab;cases ab;exact g1.1
    ·exact g p' (Adp (by rw[Aga e];exact ab))
   ·rintro⟨g1,g2⟩ p' aa;rcases Af2 aa with h1|rfl
    ·exact g1 p' h1
    ·exact hb.2 ⟨g1 p ac,g2⟩
  rw[hL];constructor
  ·rintro⟨⟨x,y⟩,z⟩;exact⟨⟨x,z⟩,y⟩
  ·rintro⟨⟨x,z⟩,y⟩;exact⟨⟨x,y⟩,z⟩
end Go.Proofs.YtmoeoppbmhfbpaaGreatDoorD
