import Derived.Test.YtmoeoppbmhfbpabGreatDoorHFolB
import Derived.Test.YtmoeoppbmhfbpabGreatDoorHProgK
import Derived.Test.YtmoeoppbmhfbpabGreatDoorHEngU
set_option linter.all false
namespace Go.Proofs.YtmoeoppbmhfbpabGreatDoorH
set_option maxHeartbeats 64000000
open Go.Abs
set_option maxRecDepth 100000
structure MkM (np:Nat)(F:List C3)(M:MM):Prop where
 len:M.length=np
 nd:∀x∈M,x.2.Nodup
 mem:∀(k:Nat) (t:Ca),MD M k t↔∃a∈F,a.p=(k:Int)/\t=Cq a
 tot:tot M<=F.length
theorem Zh {M:MM}{k:Nat}{x:Nat×List Ca}(h:M[k]?=some x):A6 M (k:Int)=x.2:=Bw h
theorem MkM.nil (np:Nat):MkM np [] (List.replicate np (1,[])):=by
 refine⟨by simp,fun x hx=>?_,fun k t=>⟨fun h=>?_,fun⟨a,ha,_⟩=>by simp at ha⟩,?_⟩
 ·rw[(Adt.1 hx).2];exact Adc
 ·exfalso;unfold MD at h;by_cases hk:k<np
  ·rw[Zh (x:=(1,[])) (by rw[List.getElem?_replicate,if_pos hk])]at h;simp at h
  ·unfold A6 at h;simp[hk]at h
 ·have:∀n:Nat,Go.Proofs.YtmoeoppbmhfbpabGreatDoorH.tot (List.replicate n ((1:Nat),([]:List Ca)))=0:=by
   intro n;induction n with
   |zero=>rfl
   |succ n ih=>rw[List.replicate_succ,Dz,ih];rfl
  rw[this];simp
theorem MkM.has {np:Nat}{F:List C3}{M:MM}{a:C3}{k:Nat}{x:Nat×List Ca}(h:MkM np F M)(hk:a.p=(k:Int))(hx:M[k]?=some x)(hm:Cq a∈x.2):MkM np (F++[a]) M:=by
 refine⟨h.len,h.nd,fun j t=>?_,by have:=h.tot;simp;omega⟩;rw[h.mem j t];constructor
 ·rintro⟨b,hb,h1,h2⟩;exact⟨b,Adp _ hb,h1,h2⟩
 ·rintro⟨b,hb,h1,h2⟩;rcases Ack.1 hb with h'|h'
  ·exact⟨b,h',h1,h2⟩
  ·rw[Ac3]at h';subst h';have aa:j=k:=Ad2;subst aa;refine (h.mem j t).1 ?_;unfold MD;rw[Bw hx,h2];exact hm
theorem MkM.add {np:Nat}{F:List C3}{M:MM}{a:C3}{k id':Nat}{x:Nat×List Ca}(h:MkM np F M)(hk:a.p=(k:Int))(hx:M[k]?=some x)(hm:Cq a∉x.2):MkM np (F++[a]) (M.set k (id',x.2++[Cq a])):=by
 have ac:k<M.length:=(List.getElem?_eq_some_iff.1 hx).1;have ab:A6 (M.set k (id',x.2++[Cq a])) (k:Int)=x.2++[Cq a]:=Bw (x:=(id',x.2++[Cq a])) (by rw[List.getElem?_set,if_pos rfl,if_pos ac]);have aa:∀j:Nat,j≠k->(M.set k (id',x.2++[Cq a]))[j]?=M[j]?:=fun j hj=>by rw[List.getElem?_set,if_neg (fun e=>hj e.symm)]
 refine⟨by simp[h.len],fun y hy=>?_,fun j t=>?_,?_⟩
 ·rcases List.mem_or_eq_of_mem_set hy with h'|rfl
  ·exact h.nd y h'
  ·rw[Adb];exact⟨h.nd x (Abh hx),by simp,fun u hu v hv e=>hm (by rw[Ac3]at hv;rw[<-hv,<-e];exact hu)⟩
 ·by_cases hj:j=k
  ·subst hj;unfold MD;rw[ab,Ack,Ac3];have hM:=h.mem j t;unfold MD at hM;rw[Bw hx]at hM;rw[hM];constructor
   ·rintro (⟨b,hb,h1,h2⟩|h')
    ·exact⟨b,Adp _ hb,h1,h2⟩
    ·exact⟨a,by simp,hk,h'⟩
   ·rintro⟨b,hb,h1,h2⟩;rcases Ack.1 hb with h'|h'
    ·exact .inl ⟨b,h',h1,h2⟩
    ·rw[Ac3]at h';subst h';exact .inr h2
  ·have hM:=h.mem j t;unfold MD A6 at hM⊢;rw[Adk]at hM⊢;rw[aa j hj,hM];constructor
   ·rintro⟨b,hb,h1,h2⟩;exact⟨b,Adp _ hb,h1,h2⟩
   ·rintro⟨b,hb,h1,h2⟩;rcases Ack.1 hb with h'|h'
    ·exact⟨b,h',h1,h2⟩
    ·rw[Ac3]at h';subst h';omega
 ·have:=M8 M (M.set k (id',x.2++[Cq a])) k 1 (by simp) (fun j hj=>by rw[aa j hj]) (fun _=>by rw[ab,Bw hx];simp) (fun h'=>Ad2);have h2:=h.tot;simp;omega
structure MPt (z:St)(ot:Nat)(M:MM):Prop where
 oc:z.obj ot=E7 M
 lt:ot<z.nobj
 live:∀x∈M,Live z x.1 x.2.length
 inj:∀(i j:Nat) (x y:Nat×List Ca),M[i]?=some x->M[j]?=some y->i≠j->x.1=1\/x.1≠y.1
 t3:∀x∈M,T3 x.2
 ln:∀x∈M,x.2.length<=5000
 pl:M.length<=5000
theorem MPt.keep {z z':St}{ot:Nat}{M:MM}(h:MPt z ot M)(k:Keep z z'):MPt z' ot M:=⟨(k.obj _ h.lt).trans h.oc,Abd h.lt k.nobj,fun x hx=>(h.live x hx).keep k,h.inj,h.t3,h.ln,h.pl⟩
theorem MPt.mob {z:St}{om ot:Nat}{M:MM}{d b:Int}(h:MPt z ot M)(ho:z.obj om=[fx ot 0 M.length,ic d,ic b])(hl:om<z.nobj)(hn:om≠ot):MOb z om ot M d b:=⟨ho,h.oc,hl,h.lt,hn,h.live,h.inj,h.t3,h.ln,h.pl⟩
theorem MOb.mpt {z:St}{om ot:Nat}{M:MM}{d b:Int}(h:MOb z om ot M d b):MPt z ot M:=⟨h.oc,h.lt,h.live,h.inj,h.t3,h.ln,h.pl⟩
theorem Keep.km {σ0 z z':St}{om ot:Nat}{M M':MM}(hK:Keep σ0 z)(h:KM om ot M M' z z')(hm:σ0.nobj<=om)(ht:σ0.nobj<=ot)(hM:∀x∈M,x.1=1):Keep σ0 z':=
 ⟨Abc hK.nobj h.nobj,fun o ho=>(h.obj o (Abd ho hK.nobj) Ad2 Ad2).trans (hK.obj o ho),fun o ho=>(h.ver o (Abd ho hK.nobj) Ad2 Ad2).trans (hK.ver o ho),Abc hK.ntop h.ntop,fun k hk=>(h.top k (Abd hk hK.ntop) (fun x hx e=>by rw[hM x hx]at e;omega)).trans (hK.top k hk)⟩
theorem cJ (np:Nat):E7 (List.replicate np (1,[]))=List.replicate np nilS:=by
 unfold E7;rw[List.map_replicate];rfl
theorem Tc (np:Nat)(F:List C3)(cs:List AV)(idf:Nat)(b:Int)(hF:EL Lk F cs)(hn:np<=5000)(bh:F.length<=1000)(bb:∀a∈F,a.ts.length<=3/\∃k:Nat,a.p=(k:Int)/\k<np)(z:St):
  ACalls Tryz.prog 49 [ic np,sl idf F.length cs,ic b] z fun r z'=>∃ot M,r=ag [fx ot 0 np,ic 0,ic b]/\MkM np F M/\Keep z z'/\z.nobj<=ot/\MPt z' ot M/\(∀x∈M,x.1=1\/z.ntop+2<=x.1):=by
 have bg:=EL.length G4 hF;refine Z9 27 [.cell 6 77] Tryz.func49 ?_
 repeat' (first|refine Z1 ?_|(refine Z8 ?_;intro κ hκ)|(refine Z4 ?_;clear hκ κ)|(refine Z2 ?_ ?_<;>intro h ab<;>try exact Xp)|refine Z3 ?_|exact⟨⟩|(apply hκ.out;clear hκ κ))
 obtain⟨σ0,hz0⟩:∃τ,τ=((((z.new [nilS,ic 0,ic 0]).new (List.replicate np nilS)).new [nilS,ic 0,ic 0]).put (z.nobj+1+1) [fx (z.nobj+1) 0 np,ic 0,ic b]):=⟨_,rfl⟩;rw[<-hz0];have ay:Keep z σ0:=by rw[hz0];exact Xs
 have bc:σ0.nobj=z.nobj+3:=by rw[hz0];rfl
 have au:σ0.obj z.nobj=[nilS,ic 0,ic 0]:=by rw[hz0,Ai Ad2,Ae Ad6,Ae Ad6,Am]
 have aw:MOb σ0 (z.nobj+2) (z.nobj+1) (List.replicate np (1,[])) 0 b:=
  ⟨by rw[hz0,Aj];simp,by rw[cJ,hz0,Ai Ad2,Ae Ad6,Bp Ad6 Ad6],Ad2,Ad2,Ad2,fun x hx=>by rw[(Adt.1 hx).2];exact .inl ⟨rfl,rfl⟩,fun i j x y hx hy _=>.inl (by rw[(Adt.1 (Abh hx)).2]),fun x hx=>by rw[(Adt.1 hx).2];intro t ht;simp at ht,fun x hx=>by rw[(Adt.1 hx).2];simp,by simpa using hn⟩
 refine Ad (fun m s z'=>∃(i:Nat) (M:MM),m=F.length-i/\i<=F.length/\s 6=ptr z.nobj 0/\s 7=ptr (z.nobj+2) 0/\s 14=sl idf F.length cs/\s 15=ic F.length/\s 16=ic i/\MOb z' (z.nobj+2) (z.nobj+1) M 0 b/\KM (z.nobj+2) (z.nobj+1) (List.replicate np (1,[])) M σ0 z'/\z'.obj z.nobj=[nilS,ic 0,ic 0]/\Ad8 (MkM np (F.take i) M)) F.length
  ⟨0,List.replicate np (1,[]),Ad2,Ad2,Ad4,Ad4,Ad4,Ad4,Ad4,aw,KM.ofKeep (Keep.refl _),au,MkM.nil np⟩ ?_
 clear aw au hz0;rintro m s z' ⟨i,M,rfl,hi,h6,h7,bm,bl,bi,hM,ai,hq,hI⟩;have bd:=ai.nobj;by_cases av:i<F.length
 ·have aa:=List.getElem?_eq_getElem av;obtain⟨id,rr,hd⟩:=Ib hF aa;obtain⟨ap,k,ae,bf⟩:=bb _ (Acz av);generalize F[i]=a at aa hd ap ae;have am:=hI.out.len;have hx:=List.getElem?_eq_getElem (l:=M) (i:=k) Ad2;generalize M[k]'Ad2=x at hx;have az:Ad8 (F.take (i+1)=F.take i++[a]):=by rw[Ad8,Abq,aa,Ac2]
  clear aa;have a4:x.2.length<5000:=by
   have h1:=hI.out.tot;have h2:(x.2.length:Int)<=Go.Proofs.YtmoeoppbmhfbpabGreatDoorH.tot M:=by
    have hg:∀(M:MM) (k:Nat) (x:Nat×List Ca),M[k]?=some x->(x.2.length:Int)<=Go.Proofs.YtmoeoppbmhfbpabGreatDoorH.tot M:=by
     intro M;induction M with
     |nil=>intro k x h;simp at h
     |cons y M ih=>
      intro k x h;rw[Dz];have hp:∀M:MM,0<=Go.Proofs.YtmoeoppbmhfbpabGreatDoorH.tot M:=by
       intro M;induction M with
       |nil=>exact Int.le_refl _
       |cons y M ih=>rw[Dz];omega
      cases k with
      |zero=>simp at h;subst h;have:=hp M;omega
      |succ k=>have:=ih k x (by simpa using h);omega
    exact hg M k x hx
   rw[Ab3]at h1;omega
  have ak:=fun z (h:MOb z (σ0.nobj-1) (σ0.nobj-2) M 0 b)=>Hq (σ0.nobj-1) (σ0.nobj-2) M 0 b a id k x ap ae hx z h;have ax:=fun z (h:MOb z (σ0.nobj-1) (σ0.nobj-2) M 0 b)=>Te (σ0.nobj-1) (σ0.nobj-2) M 0 b a id k x ap ae hx a4 z h;rw[show σ0.nobj-1=z.nobj+2 by omega,show σ0.nobj-2=z.nobj+1 by omega]at ak ax;have HX:Ad8 (M[k]?=some x):=hx;have a3:Ad8 (a.p=(k:Int)):=ae;clear hx ae am;by_cases ad:Cq a∈x.2
  ·rw[show decide (Cq a∈x.2)=true by simpa using ad]at ak;have HN:Ad8 (MkM np (F.take (i+1)) M):=by rw[Ad8,az.out];exact hI.out.has a3.out HX.out ad
   clear ad hI;have af:Keep z' ((z'.new [ic 0,nilS]).put z'.nobj [ic a.p,sl id a.ts.length (Ac a.ts)]):=((Keep.refl z').new _).put (Abb _) _
   repeat' (first|refine Z1 ?_|(refine Z8 ?_;intro κ hκ)|(refine Z4 ?_;clear hκ κ)|(refine Z2 ?_ ?_<;>intro h ab<;>try exact Xp)|(refine Z5 ?_;refine Xi (ak _ (hM.keep af)) ?_;rintro _ _ ⟨rfl,aj⟩;(have ac:=af.trans aj))|refine Z3 ?_|exact⟨⟩|(apply hκ.out;clear hκ κ))
   refine⟨F.length-(i+1),Ad2,i+1,M,?_⟩
   ((repeat' with_reducible refine And.intro ?_ ?_)<;>first|exact Xq|exact (HN)|exact (hM.keep ac)|exact (ai.trans (KM.ofKeep ac))|exact (by rw[ac.obj _ Ad2,hq])|exact Xs)
  ·rw[show decide (Cq a∈x.2)=false by simpa using ad]at ak;have HN:Ad8 (∀id',MkM np (F.take (i+1)) (M.set k (id',x.2++[Cq a]))):=fun id'=>by rw[az.out];exact hI.out.add a3.out HX.out ad
   clear ad hI;have af:Keep z' ((z'.new [ic 0,nilS]).put z'.nobj [ic a.p,sl id a.ts.length (Ac a.ts)]):=((Keep.refl z').new _).put (Abb _) _;have a5:∀p,p<z'.nobj+1->((z'.new [ic 0,nilS]).put z'.nobj [ic a.p,sl id a.ts.length (Ac a.ts)]).obj p=((z'.new [ic 0,nilS]).put z'.nobj [ic a.p,sl id a.ts.length (Ac a.ts)]).obj p:=fun p _=>rfl;clear a5
   repeat' (first|refine Z1 ?_|(refine Z8 ?_;intro κ hκ)|(refine Z4 ?_;clear hκ κ)|(refine Z2 ?_ ?_<;>intro h ab<;>try exact Xp)|(refine Z5 ?_;first|(refine Xi (ak _ (hM.keep af)) ?_;rintro _ _ ⟨rfl,aj⟩;(have ac:=af.trans aj;have an:=aj.obj;have ao:=aj.nobj;simp only[Ab,Aa]at ao an))|(refine Xi (ax _ (hM.keep ac)) ?_;rintro _ _ ⟨id',a9,ah⟩))|refine Z3 ?_|exact⟨⟩|(apply hκ.out;clear hκ κ))
   rename_i z2 z3;have ar:=(ai.trans (KM.ofKeep ac)).trans ah;have a6:z3.obj z.nobj=[nilS,ic 0,ic 0]:=by rw[ah.obj _ Ad2 Ad2 Ad2,ac.obj _ Ad2,hq]
   refine⟨F.length-(i+1),Ad2,i+1,M.set k (id',x.2++[Cq a]),?_⟩
   ((repeat' with_reducible refine And.intro ?_ ?_)<;>first|exact Xq|exact (HN.out id')|exact (a9)|exact (ar)|exact (a6)|exact Xs)
 ·have a8:i=F.length:=Ad2;subst a8;have hI:=hI.out;rw[Abn]at hI;have am:=hI.len;have a7:=hM.ob;rw[am]at a7;have be:=hM.lo;have HI:Ad8 _:=hI;have HM:Ad8 _:=hM;have a0:Ad8 _:=ai;clear hI hM ai am
  repeat' (first|refine Z1 ?_|(refine Z8 ?_;intro κ hκ)|(refine Z4 ?_;clear hκ κ)|(refine Z2 ?_ ?_<;>intro h ab<;>try exact Xp)|refine Z3 ?_|exact⟨⟩|(apply hκ.out;clear hκ κ))
  have ba:=Keep.km ay a0.out Ad2 Ad2 (fun x hx=>by rw[(Adt.1 hx).2]);refine⟨_,rfl,z.nobj+1,M,rfl,HI.out,ba.put Ad2 _,Ad2,?_,fun x hx=>?_⟩
  ·have h:=HM.out.mpt;exact⟨by rw[Qm Ad2];exact h.oc,h.lt,h.live,h.inj,h.t3,h.ln,h.pl⟩
  ·have hnt:=ay.ntop;rcases a0.out.mid x hx with⟨y,hy,e⟩|e|e
   ·rw[(Adt.1 hy).2]at e;exact .inl e.symm
   ·exact .inl e
   ·exact .inr Ad2
def Ez (N:List Tx)(a:RAtom):C3:=⟨(N.idxOf a.pred:Nat),a.terms.map Ap⟩
def Fh (N:List Tx)(a:RAtom):Lit:=⟨a.nt,Ez N a⟩
def Bz (N:List Tx)(x:RItem):D2:=⟨Ez N x.head,x.body.map (Fh N)⟩
theorem Hr (ts:List Tx):Ac (ts.map Ap)=Aw ts:=by
 unfold Ac Aw;rw[List.flatMap_map];rfl
theorem iN {N:List Tx}:∀{l:List RAtom} {b:List AV},EL (PL N) l b->EL Od (l.map (Fh N)) b
 |[],b,h=>h
 |a::l,b,h=>by
  obtain⟨c1,c2,⟨-,ids,rfl⟩,h2,rfl⟩:=h;exact⟨_,c2,⟨ids,by simp[Fh,Ez,Hr]⟩,iN h2,rfl⟩
theorem zT {N:List Tx}{x:RItem}{c:List AV}(h:PI N x c):eL (Bz N x) c:=by
 obtain⟨hm,ih,id,b,hb,rfl⟩:=h;exact⟨x.out,ih,id,b,by simp[Bz,Ez,Hr],iN hb⟩
def LstF (R:List D2)(F:List C3):E0:=fun k t=>∀D:E0,zX R D->(∀a∈F,D a.p.toNat (Cq a))->D k t
theorem LstF.cl (R:List D2)(F:List C3):zX R (LstF R F):=fun r hr ν h D hD hF=>hD r hr ν (fun l hl=>h l hl D hD hF)
theorem LstF.fact {R:List D2}{F:List C3}{a:C3}(h:a∈F):LstF R F a.p.toNat (Cq a):=fun D _ hF=>hF a h
theorem Aan {np:Nat}{ar:Nat->Nat}{R:List D2}(h:∀r∈R,RW np ar r)(hp:∀r∈R,∀l∈r.body,l.neg=false):zX R (Sh ar):=(Ys (N:=Sh ar) hp).1 (yJ h)
def oL (R:List D2)(F:List C3)(k:Nat)(h:Ca)(b:Bool):Prop:=
 ∃M:MM,(∀x∈M,x.2.Nodup)/\(∀j t,MD M j t->LstF R F j t)/\(if tot M<=200 then (∀j t,LstF R F j t->MD M j t)/\(b=true↔MD M k h)else b=false)
theorem GroA.nodup {D:E0}{M M':MM}{d d':Int}(h:GroA D M M' d d')(hn:∀x∈M,x.2.Nodup):∀x∈M',x.2.Nodup:=fun x hx=>by
 obtain⟨k,hk⟩:=List.getElem?_of_mem hx;obtain⟨nw,e,h1,h2⟩:=h.ext k;rw[Bw hk]at e;have aa:k<M.length:=by rw[<-h.len];exact (List.getElem?_eq_some_iff.1 hk).1
 have hg:M[k]?=some M[k]:=List.getElem?_eq_getElem aa;rw[Bw hg]at e;rw[e,Adb];refine⟨hn _ (Acz aa),h1,fun a ha b hb e2=>?_⟩;have:=(h2 b hb).2;rw[Bw hg]at this;exact this (e2 ▸ ha)
theorem vJ {R:List D2}{F:List C3}{np:Nat}{M M':MM}{d':Int}{k:Nat}{h:Ca}{b:Bool}(hM:MkM np F M)(ab:∀a∈F,∃k:Nat,a.p=(k:Int))(hG:GroA (LstF R F) M M' 0 d')(hc:¬(200-tot M)<d'->zX R (MD M'))(hb:if d'<=200-tot M then (b=true↔MD M' k h)else b=false):oL R F k h b:=by
 refine⟨M',hG.nodup hM.nd,fun j t hj=>?_,?_⟩
 ·refine hG.inD (fun j t hj=>?_) j t hj;obtain⟨a,ha,e1,e2⟩:=(hM.mem j t).1 hj;have:=LstF.fact (R:=R) ha;rw[e1,Adk]at this;rw[e2];exact this
 ·have ac:=hG.cnt;by_cases h2:tot M'<=200
  ·rw[if_pos h2];rw[if_pos Ad2]at hb;refine⟨fun j t hl=>hl (MD M') (hc Ad2) (fun a ha=>?_),hb⟩;obtain⟨k',aa⟩:=ab a ha;refine hG.sub ?_;rw[aa,Adk];exact (hM.mem k' _).2 ⟨a,ha,aa,rfl⟩
  ·rw[if_neg h2];rw[if_neg Ad2]at hb;exact hb
theorem Keep.km2 {σ0 z z':St}{om ot:Nat}{M M':MM}(hK:Keep σ0 z)(h:KM om ot M M' z z')(hm:σ0.nobj<=om)(ht:σ0.nobj<=ot)(hM:∀x∈M,x.1=1\/σ0.ntop+2<=x.1):Keep σ0 z':=
 ⟨Abc hK.nobj h.nobj,fun o ho=>(h.obj o (Abd ho hK.nobj) Ad2 Ad2).trans (hK.obj o ho),fun o ho=>(h.ver o (Abd ho hK.nobj) Ad2 Ad2).trans (hK.ver o ho),Abc hK.ntop h.ntop,fun k hk=>(h.top k (Abd hk hK.ntop) (fun x hx e=>by rcases hM x hx with h'|h'<;>omega)).trans (hK.top k hk)⟩
theorem eZ:∀M:MM,0<=tot M
 |[]=>Int.le_refl _
 |y::M=>by rw[Dz];have:=eZ M;omega
theorem jR:∀(M:MM) (k:Nat) (x:Nat×List Ca),M[k]?=some x->(x.2.length:Int)<=tot M
 |[],k,x,h=>by simp at h
 |y::M,k,x,h=>by
  rw[Dz];have hp:=eZ M;cases k with
  |zero=>simp at h;subst h;omega
  |succ k=>have:=jR M k x (by simpa using h);omega
def H0 (N:List Tx)(x:RItem):D2:=tI (N.length:Int) (Bz N x)
def Qe (N:List Tx)(x:RItem):List C3:=(H0 N x).body.map fun l=>Ho l.a
structure BkI (N:List Tx)(l:List RItem)(ar:Nat->Nat):Prop where
 b5:∀y∈l,y.body.length<=5
 rw':∀y∈l,y.out=false->RW (2*N.length) ar (H0 N y)
 sm:∀y∈l,y.out=false->Sml (H0 N y).head.ts/\∀k∈(H0 N y).body,Sml k.a.ts
 sh:∀y∈l,y.out=false->∀a∈Qe N y,Sh ar a.p.toNat (Cq a)
theorem zA (N:List Tx)(p:Tx):N.idxOf p<=N.length:=List.idxOf_le_length
theorem Uo (N:List Tx)(l:List RItem)(cs:List AV)(idn idi n:Nat)(ar:Nat->Nat)(x:RItem)(hB:Bk N l cs)(hI:BkI N l ar)(hx:l[n]?=some x)(a3:x.out=false)(z:St):
  ACalls Tryz.prog 102 [B7 N idn l idi cs,ic n] z fun r z'=>∃b,r=sc (.bool b)/\oL ((oth l n l.length).map (H0 N)) (Qe N x) (H0 N x).head.p.toNat (Cq (Ho (H0 N x).head)) b/\Keep z z':=by
 have ea:=EL.length Dw hB.el;have dk:=hB.len;have ee:=hB.nm;have hE:=hB.el;have d5:=(List.getElem?_eq_some_iff.1 hx).1;have ax:=Abh hx;obtain⟨hm,ih,id,b,rr,hb,hd⟩:=Gp hE hx;have ca:∀y c,y∈l->PI N y c->∀z,ACalls Tryz.prog 155 [ag c,ic N.length] z fun r z'=>(∃c',r=ag c'/\eL (H0 N y) c')/\Keep z z':=fun y c hy hc z=>
  Tj (Bz N y) c N.length (zT hc) (by simp only[Bz,Ac9];have:=hI.b5 y hy;omega) (fun k hk=>by
   obtain⟨a,-,rfl⟩:=Acm.1 hk;have:=zA N a.pred;simp only[Fh,Ez]
   omega) Ad2 Ad2 z
 have bw:=fun z=>ca x _ ax (PI.of (ih:=ih) (id:=id) hm hb) z;simp only[a3]at bw;have ap:=hI.rw' x ax a3;have ck:(H0 N x).body.length=x.body.length:=by simp[H0,tI,Bz]
 have eb:=hI.b5 x ax;have b9:=fun c (hc:eL (H0 N x) c) z=>Pb (H0 N x) c hc Ad2 (fun k hk=>⟨ap.rok.ba k hk,(hI.sm x ax a3).2 k hk⟩) z;have bm:(Qe N x).length=(H0 N x).body.length:=by simp[Qe]
 have bn:∀a∈Qe N x,a.ts.length<=3/\∃k:Nat,a.p=(k:Int)/\k<2*N.length:=fun a ha=>by
  obtain⟨k,hk,rfl⟩:=Acm.1 ha;exact⟨by simp only[Ho,Ac9];exact ap.rok.ba k hk,ap.rok.bp k hk⟩
 have a6:=fun cs' idf (hF:EL Lk (Qe N x) cs') z=>Tc (2*N.length) (Qe N x) cs' idf 200 hF Ad2 Ad2 bn z;rw[bm]at a6;have dj:(2:Int)*(N.length:Int)=((2*N.length:Nat):Int):=Ad2;have d6:(n:Int)<(l.length:Int):=Ad2;generalize cm:H0 N x=RX at bw b9 a6 ck bm bn ap;generalize cx:Qe N x=FX at a6 bm bn;have c6:Ad8 _:=cm;have da:Ad8 _:=cx;have dn:RX.body.length<=5:=Ad2;have ei:FX.length<=5:=Ad2;clear cm cx ck bm;unfold B7;refine Z9 66 [.tmp 4] Tryz.func102 ?_
 repeat' (first|refine Z1 ?_|(refine Z8 ?_;intro κ hκ)|(refine Z4 ?_;clear hκ κ)|(refine Z2 ?_ ?_<;>intro h ac<;>try exact Xp)|(refine Z6 ?_;intro idn zn ak au ae ab ad aa)|(refine Z5 ?_;first|(refine Xi (bw _) ?_;rintro _ _ ⟨⟨_,rfl,bi⟩,bu⟩;(have bh:=bi;obtain⟨ro,rih,rib,rbc,rfl,ec⟩:=bi;have bf:=b9 _ bh;have b3:=bu.nobj;simp only[Aa]at b3))|(refine Xi (bf _) ?_;rintro _ _ ⟨⟨idf,fc,rfl,cz⟩,am⟩;(have bg:EL Lk FX fc:=(by rw[<-da.out];unfold Qe;rw[c6.out];exact cz);have a5:=a6 fc idf bg;have b2:=am.nobj;simp only[Ab,Aa]at b2))|(refine Xi (a5 _) ?_;rintro _ _ ⟨ot,M,rfl,br,bd,d4,b4,a7⟩;(have df:=bd.nobj)))|refine Z3 ?_|exact⟨⟩|(apply hκ.out;clear hκ κ))
 rename_i z1 z2 z3;obtain⟨z4,a0⟩:∃τ,τ=((z3.new [nilS,ic 0,ic 0]).put z3.nobj [fx ot 0 (2*N.length),ic 0,ic 200]):=⟨_,rfl⟩;rw[<-a0];have ct:Keep z z1:=((Keep.refl z).new _).trans bu;have b8:Keep z z2:=((ct.new _).put Ad2 _).trans am;have cr:Keep z z3:=b8.trans bd;have af:Keep z3 z4:=by rw[a0];exact ((Keep.refl z3).new _).put (Abb _) _
 have cv:Keep z z4:=cr.trans af;have n4:z4.nobj=z3.nobj+1:=by rw[a0];rfl
 have a8:=br.len;have cd:z4.obj z1.nobj=[sc (.bool ro),ic RX.head.p,sl rih RX.head.ts.length (Ac RX.head.ts),sl rib RX.body.length rbc]:=by rw[af.obj _ Ad2,bd.obj _ Ad2,am.obj _ Ad7,Aj]
 have obk:z4.obj z.nobj=[sl idn N.length (N.map str),sl idi l.length cs]:=by rw[af.obj _ Ad2,bd.obj _ Ad2,am.obj _ Ad7,Ai Ad2,Ae Ad2,bu.obj _ Ad6,Am]
 have di:=b4.lt;have a9:MOb z4 z3.nobj ot M 0 200:=(b4.keep af).mob (by rw[a0,Aj,a8]) Ad2 Ad2;have dq:∀y∈M,y.1=1\/z.ntop+2<=y.1:=fun y hy=>by have:=b8.ntop;rcases a7 y hy with h|h<;>omega
 have d3:=eZ M;have d2:tot M<=5:=by have:=br.tot;omega
 have c5:=N4 z3.nobj ot M 0 200 z4 a9;have bo:=fun (id:Nat) z=>Kp (Gu M) id (by rw[Ht];omega) (fun n hn=>by have:=N6 a9 n hn;omega) z;rw[show (Gu M).sum=tot M from rfl]at bo;rw[Ht,a8]at bo;have a4:=a9.ob;have c8:Ad8 _:=br;have c9:Ad8 _:=a9;clear a0 bu am bd ct b8 cr b4 a7 br a9 cz bg a5 a6 b9 bf bw bh;refine Br (Q:=fun e s' z''=>e= .normal/\s' 1=ic n/\s' 2=ptr z.nobj 0/\s' 5=ic N.length/\s' 6=ptr z1.nobj 0/\s' 7=ptr z3.nobj 0/\Keep z z''/\z3.nobj<z''.nobj/\z''.obj z.nobj=[sl idn N.length (N.map str),sl idi l.length cs]/\z''.obj z1.nobj=[sc (.bool ro),ic RX.head.p,sl rih RX.head.ts.length (Ac RX.head.ts),sl rib RX.body.length rbc]/\MOb z'' z3.nobj ot M 0 (200-tot M)) ?_ ?_
 ·refine A4 Ak (fun _=>True) [6] [0,1] 5 #[true,true,false,false,false,false,false] Ad5 (fun _ _ _ h=>by cases h.1) ?_;intro κ hκ;refine Z3 ?_;refine hκ.out _ ?_;clear hκ κ;refine Al (i:=2) Ad5 ?_;refine Aq ?_;intro κ hκ;refine Z3 ?_;refine ACalls.mono c5 ?_;rintro _ z5 ⟨⟨ic0,rfl⟩,bc⟩;refine Z3 ?_;refine hκ.out _ _ ⟨Ao bc,?_⟩;clear hκ κ;refine Al (i:=3) Ad5 ?_;refine Aq ?_;intro κ hκ;refine Z3 ?_;refine ACalls.mono (bo _ _) ?_;rintro _ z6 ⟨rfl,dv⟩;have aj:=bc.trans dv;have b1:=aj.nobj;have d0:z6.obj z3.nobj=[fx ot 0 M.length,ic 0,ic 200]:=by rw[aj.obj _ Ad2,a4]
  refine Z3 ?_;refine hκ.out _ _ ⟨Ao aj,?_⟩;clear hκ κ;refine Al (i:=4) Ad5 ?_;refine Aq ?_;intro κ hκ;refine Z3 ?_;refine hκ.out _ _ ⟨Ao aj,?_⟩;clear hκ κ;refine Al (i:=5) Ad5 ?_;refine Aq ?_;intro κ hκ;refine Z3 ?_;refine hκ.out _ _ ⟨Ao aj,?_⟩;clear hκ κ;refine Al (i:=6) Ad5 ?_;refine Aq ?_;intro κ hκ;refine Z3 ?_;refine hκ.out _ _ ⟨Bo rfl,?_⟩;clear hκ κ;refine A7 Ad5 ⟨rfl,by simp[upd,initS],Ad4,Ad4,Ad4,Ad4,(cv.trans aj).put Ad2 _,by simp only[Ab];omega,?_,?_,?_⟩
  ·rw[Ai Ad2,aj.obj _ Ad2,obk]
  ·rw[Ai Ad2,aj.obj _ Ad2,cd]
  ·have hm:=(c9.out.keep aj).mpt;exact MPt.mob ⟨by rw[Ai Ad2];exact hm.oc,hm.lt,hm.live,hm.inj,hm.t3,hm.ln,hm.pl⟩ (by rw[Aj,a8]) (by simp only[Ab];omega) Ad2
 ·rintro e s z5 ⟨rfl,g1,g2,g5,g6,g7,bc,d7,obk5,b0,co⟩;clear c5 bo a4 c9 cv af cd obk n4;have de:=bc.nobj;have dy:Ad8 _:=co;clear co
  repeat' (first|refine Z1 ?_|(refine Z8 ?_;intro κ hκ)|(refine Z4 ?_;clear hκ κ)|(refine Z2 ?_ ?_<;>intro h ac<;>try exact Xp)|(refine Z6 ?_;intro idn zn ak au ae ab ad aa)|refine Z3 ?_|exact⟨⟩|(apply hκ.out;clear hκ κ))
  refine Ad (fun m s z'=>∃(q i8:Nat) (L:List RItem) (ys:List AV),m=l.length-q/\q<=l.length/\s 1=ic n/\s 5=ic N.length/\s 6=ptr z1.nobj 0/\s 7=ptr z3.nobj 0/\s 8=sl i8 L.length ys/\s 34=sl idi l.length cs/\s 35=ic l.length/\s 36=ic q/\Keep z5 z'/\Own z5 z' i8 L.length/\ys.length=L.length*4/\L.length<=q/\Ad8 (L=oth l n q/\EL eL (L.map (H0 N)) ys)) l.length
   ⟨0,1,[],[],Ad2,Ad2,Ad3,Ad3,Ad3,Ad3,Ad4,Ad4,Ad4,Ad4,Keep.refl _,Own.nil _ _,rfl,by simp,by simp[oth],rfl⟩ ?_
  clear g1 g2 g5 g6 g7;rintro m s z6 ⟨q,i8,L,ys,rfl,hq,h1,h5,h6,h7,h8,em,ek,ej,hK,hO,d1,eg,hL⟩;have dd:=hK.nobj;by_cases ch:q<l.length
  ·have ah:=List.getElem?_eq_getElem ch;obtain⟨cg,jh,jd,jb,r2,ci,dl⟩:=Gp hE ah;have ce:=Acz ch;generalize l[q]=y at ah ci dl cg ce;have az:Ad8 _:=rF (n:=n) ah;have bv:=fun z=>ca y _ ce (PI.of (ih:=jh) (id:=jd) cg ci) z;clear ah;by_cases ay:q=n
   ·have hne:((q:Int) !=(n:Int))=false:=by simp[ay]
    have HN:Ad8 (L=oth l n (q+1)/\EL eL (L.map (H0 N)) ys):=⟨by rw[az.out,if_pos (.inl ay),Abv];exact hL.out.1,hL.out.2⟩;clear ay az bv
    repeat' (first|refine Z1 ?_|(refine Z8 ?_;intro κ hκ)|(refine Z4 ?_;clear hκ κ)|(refine Z2 ?_ ?_<;>intro h ac<;>try exact Xp)|(refine Z6 ?_;intro idn zn ak au ae ab ad aa)|refine Z3 ?_|exact⟨⟩|(apply hκ.out;clear hκ κ))
    refine⟨l.length-(q+1),Ad2,q+1,i8,L,ys,?_⟩
    ((repeat' with_reducible refine And.intro ?_ ?_)<;>first|exact Xq|exact (HN)|exact ((hK.new _).put hK.nobj _)|exact (Own.put (Own.new hO _) _ _)|exact Xs)
   ·have hne:((q:Int) !=(n:Int))=true:=by simp;omega
    cases an:y.out with
    |true=>
     have HN:Ad8 (L=oth l n (q+1)/\EL eL (L.map (H0 N)) ys):=⟨by rw[az.out,if_pos (.inr an),Abv];exact hL.out.1,hL.out.2⟩;clear ay az bv
     repeat' (first|refine Z1 ?_|(refine Z8 ?_;intro κ hκ)|(refine Z4 ?_;clear hκ κ)|(refine Z2 ?_ ?_<;>intro h ac<;>try exact Xp)|(refine Z6 ?_;intro idn zn ak au ae ab ad aa)|refine Z3 ?_|exact⟨⟩|(apply hκ.out;clear hκ κ))
     refine⟨l.length-(q+1),Ad2,q+1,i8,L,ys,?_⟩
     ((repeat' with_reducible refine And.intro ?_ ?_)<;>first|exact Xq|exact (HN)|exact ((hK.new _).put hK.nobj _)|exact (Own.put (Own.new hO _) _ _)|exact Xs)
    |false=>
     simp only[an]at bv;have HN:Ad8 (∀c',eL (H0 N y) c'->L++[y]=oth l n (q+1)/\EL eL ((L++[y]).map (H0 N)) (ys++c')):=fun c' dm=>⟨by rw[az.out,if_neg (by simp[ay,an]),hL.out.1],by rw[Abt];exact EL.append hL.out.2 (EL.single dm)⟩;clear ay az
     repeat' (first|refine Z1 ?_|(refine Z8 ?_;intro κ hκ)|(refine Z4 ?_;clear hκ κ)|(refine Z2 ?_ ?_<;>intro h ac<;>try exact Xp)|(refine Z6 ?_;intro idn zn ak au ae ab ad aa)|(refine Z5 ?_;refine Xi (bv _) ?_;rintro _ _ ⟨⟨_,rfl,bi⟩,am⟩;(have dx:Ad8 _:=HN.out _ bi;obtain⟨ro2,rih2,rib2,rbc2,rfl,-⟩:=bi;have eh:=((hK.new _).put hK.nobj _).trans am;have ed:=Own.keep (Own.put (Own.new hO _) _ _) am))|refine Z3 ?_|exact⟨⟩|(apply hκ.out;clear hκ κ))
     refine⟨l.length-(q+1),Ad2,q+1,idn,L++[y],ys++[sc (.bool ro2),ic (H0 N y).head.p,sl rih2 (H0 N y).head.ts.length (Ac (H0 N y).head.ts),sl rib2 (H0 N y).body.length rbc2],?_⟩
     ((repeat' with_reducible refine And.intro ?_ ?_)<;>first|exact Xq|exact (dx)|exact (by rw[Ab2];exact ak)|exact Xs)
  ·have dh:q=l.length:=Ad2;subst dh;obtain⟨b7,cp⟩:=hL.out;have ao:∀r∈L.map (H0 N),RW (2*N.length) ar r:=fun r hr=>by
    obtain⟨y,hy,rfl⟩:=Acm.1 hr;rw[b7]at hy;exact hI.rw' y (kI hy).1 (kI hy).2
   have ai:∀r∈L.map (H0 N),∀k∈r.body,k.neg=false:=fun r hr k hk=>by
    obtain⟨y,hy,rfl⟩:=Acm.1 hr;obtain⟨k0,-,rfl⟩:=Acm.1 hk;unfold F9;split
    ·rfl
    ·rename_i h;simpa using h
   have be:zW (2*N.length) ar (L.map (H0 N)) (LstF (L.map (H0 N)) FX):=⟨ao,(Ys ai).2 (LstF.cl _ _),fun k t h=>h (Sh ar) (Aan ao ai) (fun a ha=>hI.sh x ax a3 a (by rw[da.out];exact ha))⟩;have cn:∀k t,MD M k t->LstF (L.map (H0 N)) FX k t:=fun k t hk=>by
    obtain⟨a,ha,e1,e2⟩:=(c8.out.mem k t).1 hk;have:=LstF.fact (R:=L.map (H0 N)) ha;rw[e1,Adk]at this;rw[e2];exact this
   have dp:Room M 0 (200-tot M):=fun y hy=>by
    obtain⟨k,hk⟩:=List.getElem?_of_mem hy;have:=jR M k y hk;omega
   have cy:=fun z (h:MOb z z3.nobj ot M 0 (200-tot M))=>Nz be z3.nobj ot (200-tot M) Ad2 Ad2 M 0 a8 cn (fun r hr k hk hn=>by rw[ai r hr k hk]at hn;cases hn) dp Ad2 Ad2 ys i8 cp (by rw[Ac9];omega) z h;rw[Ac9]at cy;have dr:MOb z6 z3.nobj ot M 0 (200-tot M):=dy.out.keep hK;have bz:z6.obj z1.nobj=[sc (.bool ro),ic RX.head.p,sl rih RX.head.ts.length (Ac RX.head.ts),sl rib RX.body.length rbc]:=by rw[hK.obj _ Ad2,b0]
   have dt:=bc.trans hK;have dz:Ad8 _:=b7;have c7:Ad8 (∀(M':MM) (d':Int) (bb:Bool),GroA (LstF (L.map (H0 N)) FX) M M' 0 d'->(¬(200-tot M)<d'->zX (L.map (H0 N)) (MD M'))->(if d'<=200-tot M then (bb=true↔MD M' RX.head.p.toNat (Cq (Ho RX.head)))else bb=false)->oL ((oth l n l.length).map (H0 N)) FX RX.head.p.toNat (Cq (Ho RX.head)) bb):=fun M' d' bb h1 h2 h3=>by
    rw[<-dz.out];exact vJ c8.out (fun a ha=>⟨_,(bn a ha).2.choose_spec.1⟩) h1 h2 h3
   have dw:=fun z=>Ny RX.head.p rih RX.head.ts (by have:=ap.rok.hd;omega) (by have:=(hI.sm x ax a3).1;rw[c6.out]at this;exact this) z;clear b7 cp be cn hL ca ao
   repeat' (first|refine Z1 ?_|(refine Z8 ?_;intro κ hκ)|(refine Z4 ?_;clear hκ κ)|(refine Z2 ?_ ?_<;>intro h ac<;>try exact Xp)|(refine Z6 ?_;intro idn zn ak au ae ab ad aa)|(refine Z5 ?_;refine Xi (cy _ dr) ?_;rintro _ _ ⟨M',d',b6,av,cw,d9,-,cj⟩;(have cb:Ad8 _:=cw;have db:Ad8 _:=fun h=>(Ys ai).1 (cj h);clear cw cj))|refine Z3 ?_|exact⟨⟩|(apply hκ.out;clear hκ κ))
   rename_i z7;have b1:=av.nobj;have dc:z7.obj z1.nobj=[sc (.bool ro),ic RX.head.p,sl rih RX.head.ts.length (Ac RX.head.ts),sl rib RX.body.length rbc]:=by rw[av.obj _ Ad2 Ad2 Ad2,bz]
   have cq:Keep z z7:=Keep.km2 dt av Ad2 Ad2 dq;have bq:=Mo z3.nobj ot M' d' (200-tot M);by_cases cf:200-tot M<d'
   ·rw[show decide (200-tot M<d')=true by simpa using cf]at bq;have HR:Ad8 _:=c7.out M' d' false cb.out db.out (by rw[if_neg Ad2])
    repeat' (first|refine Z1 ?_|(refine Z8 ?_;intro κ hκ)|(refine Z4 ?_;clear hκ κ)|(refine Z2 ?_ ?_<;>intro h ac<;>try exact Xp)|(refine Z6 ?_;intro idn zn ak au ae ab ad aa)|(refine Z5 ?_;refine Xi (bq _ b6) ?_;rintro _ _ ⟨rfl,rfl⟩)|refine Z3 ?_|exact⟨⟩|(apply hκ.out;clear hκ κ))
    first|exact⟨_,rfl,false,rfl,HR.out,cq⟩|exact⟨_,rfl,false,rfl,HR.out⟩
   ·rw[show decide (200-tot M<d')=false by simpa using cf]at bq;obtain⟨k,hk,d8⟩:=ap.rok.hp;have ef:M'.length=2*N.length:=by rw[cb.out.len];exact a8
    have bl:=List.getElem?_eq_getElem (l:=M') (i:=k) Ad2;generalize M'[k]'Ad2=x' at bl;have aw:=fun id z (h:MOb z z3.nobj ot M' d' (200-tot M))=>Hq z3.nobj ot M' d' (200-tot M) (Ho RX.head) id k x' (by simp only[Ho,Ac9];exact ap.rok.hd) hk bl z h
    have HR:Ad8 (oL ((oth l n l.length).map (H0 N)) FX RX.head.p.toNat (Cq (Ho RX.head)) (decide (Cq (Ho RX.head)∈x'.2))):=c7.out M' d' _ cb.out db.out (by
     rw[if_pos Ad2,hk,Adk];unfold MD;rw[Bw bl]
     simp)
    generalize decide (Cq (Ho RX.head)∈x'.2)=bb at aw HR;simp only[Ho,Ac9]at aw;clear bl hk
    repeat' (first|refine Z1 ?_|(refine Z8 ?_;intro κ hκ)|(refine Z4 ?_;clear hκ κ)|(refine Z2 ?_ ?_<;>intro h ac<;>try exact Xp)|(refine Z6 ?_;intro idn zn ak au ae ab ad aa)|(refine Z5 ?_;first|(refine Xi (bq _ b6) ?_;rintro _ _ ⟨rfl,rfl⟩)|(refine Xi (dw _) ?_;rintro _ _ ⟨⟨idh,rfl⟩,cu⟩)|(refine Xi (aw _ _ (b6.keep cu)) ?_;rintro _ _ ⟨rfl,du⟩))|refine Z3 ?_|exact⟨⟩|(apply hκ.out;clear hκ κ))
    first|exact⟨_,rfl,_,rfl,HR.out,(cq.trans cu).trans du⟩|exact⟨_,rfl,_,rfl,HR.out⟩
theorem kM {α:Type}:∀{l m:List α},l.Nodup->(∀a∈l,a∈m)->l.length<=m.length
 |[],m,_,_=>by simp
 |a::l,m,h,hs=>by
  obtain⟨s,t,rfl⟩:=List.append_of_mem (hs a (by simp));have hn:=List.nodup_cons.1 h
  have:=kM (l:=l) (m:=s++t) hn.2 (fun b hb=>by
   have:=hs b (by simp[hb]);rcases Ack.1 this with h'|h'
   ·exact Adp _ h'
   ·rcases Ace.1 h' with rfl|h'
    ·exact absurd hb hn.1
    ·exact List.mem_append_right _ h')
  simp only[Aca,Ab2]at this⊢;omega
theorem Oz {α β:Type}{f:α->β}:∀{l:List α},l.Nodup->(∀a∈l,∀b∈l,f a=f b->a=b)->(l.map f).Nodup
 |[],_,_=>Adc
 |a::l,h,hi=>by
  have hn:=List.nodup_cons.1 h;rw[Abx,List.nodup_cons];refine⟨fun hm=>?_,Oz hn.2 fun b hb c hc=>hi b (by simp[hb]) c (by simp[hc])⟩;obtain⟨b,hb,e⟩:=Acm.1 hm;have:=hi b (by simp[hb]) a (by simp) e;exact hn.1 (this ▸ hb)
def Kq:Nat->MM->List (Nat×Ca)
 |_,[]=>[]
 |k,x::M=>x.2.map (fun t=>(k,t))++Kq (k+1) M
theorem Wp:∀(M:MM) (k:Nat),((Kq k M).length:Int)=tot M
 |[],k=>rfl
 |x::M,k=>by rw[Kq,Dz,<-Wp M (k+1)];simp
theorem O9:∀(M:MM) (k j:Nat) (t:Ca),(j,t)∈Kq k M↔k<=j/\MD M (j-k) t
 |[],k,j,t=>by simp[Kq,MD,A6]
 |x::M,k,j,t=>by
  rw[Kq,Ack,O9 M (k+1) j t];unfold MD A6;simp only[Adk];constructor
  ·rintro (h|⟨h1,h2⟩)
   ·obtain⟨u,hu,e⟩:=Acm.1 h;cases e;simpa using hu
   ·refine⟨Ad2,?_⟩;rw[show j-k=(j-(k+1))+1 by omega,List.getElem?_cons_succ];exact h2
  ·rintro⟨h1,h2⟩;by_cases e:j=k
   ·subst e;left;rw[Acr,List.getElem?_cons_zero]at h2;exact Acm.2 ⟨t,by simpa using h2,rfl⟩
   ·right;rw[show j-k=(j-(k+1))+1 by omega,List.getElem?_cons_succ]at h2;exact⟨Ad2,h2⟩
theorem Py:∀(M:MM) (k:Nat),(∀x∈M,x.2.Nodup)->(Kq k M).Nodup
 |[],k,_=>Adc
 |x::M,k,h=>by
  rw[Kq,Adb];refine⟨Oz (h x (by simp)) (fun a _ b _ e=>by cases e;rfl),Py M (k+1) (fun y hy=>h y (by simp[hy])),fun a ha b hb e=>?_⟩;obtain⟨t,-,rfl⟩:=Acm.1 ha;obtain⟨j,u⟩:=b;cases e;have:=((O9 M (k+1) k t).1 hb).1;omega
theorem yI {M:MM}{α:Type}{A:List α}{e:α->Nat×Ca}(hn:∀x∈M,x.2.Nodup)(h:∀k t,MD M k t->∃a∈A,e a=(k,t)):tot M<=A.length:=by
 have hc:∀p∈Kq 0 M,∃a∈A,e a=p:=fun p hp=>by
  obtain⟨k,t⟩:=p;exact h k t ((O9 M 0 k t).1 hp).2
 have hg:∃g:Nat×Ca->Option α,∀p∈Kq 0 M,∃a∈A,g p=some a/\e a=p:=by
  refine⟨fun p=>Classical.epsilon fun o=>∃a∈A,o=some a/\e a=p,fun p hp=>?_⟩;obtain⟨a,ha,he⟩:=hc p hp;have:=Classical.epsilon_spec (p:=fun o=>∃a∈A,o=some a/\e a=p) ⟨some a,a,ha,rfl,he⟩;exact this
 obtain⟨g,hg⟩:=hg
 have h1:((Kq 0 M).map g).Nodup:=Oz (Py M 0 hn) (fun p hp q hq aa=>by
  obtain⟨a,-,h1,h2⟩:=hg p hp;obtain⟨b,-,h3,h4⟩:=hg q hq;rw[h1,h3]at aa;cases aa
  exact h2.symm.trans h4)
 have h2:=kM (m:=A.map some) h1 (fun o ho=>by
  obtain⟨p,hp,rfl⟩:=Acm.1 ho;obtain⟨a,ha,h1,-⟩:=hg p hp
  rw[h1];exact Acm.2 ⟨a,ha,rfl⟩)
 rw[Ac9,Ac9]at h2;rw[<-Wp M 0];omega
end Go.Proofs.YtmoeoppbmhfbpabGreatDoorH
