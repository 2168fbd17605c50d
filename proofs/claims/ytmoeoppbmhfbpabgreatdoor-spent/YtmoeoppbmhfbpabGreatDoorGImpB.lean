import Derived.Test.YtmoeoppbmhfbpabGreatDoorGFolB
import Derived.Test.YtmoeoppbmhfbpabGreatDoorGProgK
import Derived.Test.YtmoeoppbmhfbpabGreatDoorGEngU
set_option maxHeartbeats 64000000
set_option maxRecDepth 100000
set_option linter.all false
namespace Go.Proofs.YtmoeoppbmhfbpabGreatDoorG
open Go.Abs
structure MkM (np:Nat)(F:List C4)(M:MM):Prop where
 len:M.length=np
 nd:∀x∈M,x.2.Nodup
 mem:∀(k:Nat) (t:Ca),MD M k t↔∃a∈F,a.p=(k:Int)/\t=Cl a
 tot:tot M<=F.length
theorem aY {M:MM}{k:Nat}{x:Nat×List Ca}(h:M[k]?=some x):A5 M (k:Int)=x.2:=B7 h
theorem MkM.nil (np:Nat):MkM np [] (List.replicate np (1,[])):=by
 refine⟨by simp,fun x hx=>?_,fun k t=>⟨fun h=>?_,fun⟨a,ha,_⟩=>by simp at ha⟩,?_⟩
 ·rw[(Aga.1 hx).2];exact Afr
 ·exfalso;unfold MD at h;by_cases hk:k<np
  ·rw[aY (x:=(1,[])) (by rw[List.getElem?_replicate,if_pos hk])]at h;simp at h
  ·unfold A5 at h;simp[hk]at h
 ·have:∀n:Nat,Go.Proofs.YtmoeoppbmhfbpabGreatDoorG.tot (List.replicate n ((1:Nat),([]:List Ca)))=0:=by
   intro n;induction n with
   |zero=>rfl
   |succ n ih=>rw[List.replicate_succ,D5,ih];rfl
  rw[this];simp
theorem MkM.has {np:Nat}{F:List C4}{M:MM}{a:C4}{k:Nat}{x:Nat×List Ca}(h:MkM np F M)(hk:a.p=(k:Int))(hx:M[k]?=some x)(hm:Cl a∈x.2):MkM np (F++[a]) M:=by
 refine⟨h.len,h.nd,fun j t=>?_,by have:=h.tot;simp;omega⟩;rw[h.mem j t];constructor
 ·rintro⟨b,hb,h1,h2⟩;exact⟨b,Af5 _ hb,h1,h2⟩
 ·rintro⟨b,hb,h1,h2⟩;rcases Aew.1 hb with h'|h'
  ·exact⟨b,h',h1,h2⟩
  ·rw[Aff]at h';subst h';have aa:j=k:=Agm;subst aa;refine (h.mem j t).1 ?_;unfold MD;rw[B7 hx,h2];exact hm
theorem MkM.add {np:Nat}{F:List C4}{M:MM}{a:C4}{k id':Nat}{x:Nat×List Ca}(h:MkM np F M)(hk:a.p=(k:Int))(hx:M[k]?=some x)(hm:Cl a∉x.2):MkM np (F++[a]) (M.set k (id',x.2++[Cl a])):=by
 have ac:k<M.length:=(List.getElem?_eq_some_iff.1 hx).1;have ab:A5 (M.set k (id',x.2++[Cl a])) (k:Int)=x.2++[Cl a]:=B7 (x:=(id',x.2++[Cl a])) (by rw[List.getElem?_set,if_pos rfl,if_pos ac]);have aa:∀j:Nat,j≠k->(M.set k (id',x.2++[Cl a]))[j]?=M[j]?:=fun j hj=>by rw[List.getElem?_set,if_neg (fun e=>hj e.symm)]
 refine⟨by simp[h.len],fun y hy=>?_,fun j t=>?_,?_⟩
 ·rcases List.mem_or_eq_of_mem_set hy with h'|rfl
  ·exact h.nd y h'
  ·rw[Afp];exact⟨h.nd x (Adt hx),by simp,fun u hu v hv e=>hm (by rw[Aff]at hv;rw[<-hv,<-e];exact hu)⟩
 ·by_cases hj:j=k
  ·subst hj;unfold MD;rw[ab,Aew,Aff];have hM:=h.mem j t;unfold MD at hM;rw[B7 hx]at hM;rw[hM];constructor
   ·rintro (⟨b,hb,h1,h2⟩|h')
    ·exact⟨b,Af5 _ hb,h1,h2⟩
    ·exact⟨a,by simp,hk,h'⟩
   ·rintro⟨b,hb,h1,h2⟩;rcases Aew.1 hb with h'|h'
    ·exact .inl ⟨b,h',h1,h2⟩
    ·rw[Aff]at h';subst h';exact .inr h2
  ·have hM:=h.mem j t;unfold MD A5 at hM⊢;rw[Afz]at hM⊢;rw[aa j hj,hM];constructor
   ·rintro⟨b,hb,h1,h2⟩;exact⟨b,Af5 _ hb,h1,h2⟩
   ·rintro⟨b,hb,h1,h2⟩;rcases Aew.1 hb with h'|h'
    ·exact⟨b,h',h1,h2⟩
    ·rw[Aff]at h';subst h';omega
 ·have:=Oa M (M.set k (id',x.2++[Cl a])) k 1 (by simp) (fun j hj=>by rw[aa j hj]) (fun _=>by rw[ab,B7 hx];simp) (fun h'=>Agm);have h2:=h.tot;simp;omega
structure MPt (z:St)(ot:Nat)(M:MM):Prop where
 oc:z.obj ot=Fl M
 lt:ot<z.nobj
 live:∀x∈M,Live z x.1 x.2.length
 inj:∀(i j:Nat) (x y:Nat×List Ca),M[i]?=some x->M[j]?=some y->i≠j->x.1=1\/x.1≠y.1
 t3:∀x∈M,T3 x.2
 ln:∀x∈M,x.2.length<=5000
 pl:M.length<=5000
theorem MPt.keep {z z':St}{ot:Nat}{M:MM}(h:MPt z ot M)(k:Keep z z'):MPt z' ot M:=⟨(k.obj _ h.lt).trans h.oc,Adp h.lt k.nobj,fun x hx=>(h.live x hx).keep k,h.inj,h.t3,h.ln,h.pl⟩
theorem MPt.mob {z:St}{om ot:Nat}{M:MM}{d b:Int}(h:MPt z ot M)(ho:z.obj om=[fx ot 0 M.length,ic d,ic b])(hl:om<z.nobj)(hn:om≠ot):MOb z om ot M d b:=⟨ho,h.oc,hl,h.lt,hn,h.live,h.inj,h.t3,h.ln,h.pl⟩
theorem MOb.mpt {z:St}{om ot:Nat}{M:MM}{d b:Int}(h:MOb z om ot M d b):MPt z ot M:=⟨h.oc,h.lt,h.live,h.inj,h.t3,h.ln,h.pl⟩
theorem Keep.km {σ0 z z':St}{om ot:Nat}{M M':MM}(hK:Keep σ0 z)(h:KM om ot M M' z z')(hm:σ0.nobj<=om)(ht:σ0.nobj<=ot)(hM:∀x∈M,x.1=1):Keep σ0 z':=
 ⟨Ado hK.nobj h.nobj,fun o ho=>(h.obj o (Adp ho hK.nobj) Agm Agm).trans (hK.obj o ho),fun o ho=>(h.ver o (Adp ho hK.nobj) Agm Agm).trans (hK.ver o ho),Ado hK.ntop h.ntop,fun k hk=>(h.top k (Adp hk hK.ntop) (fun x hx e=>by rw[hM x hx]at e;omega)).trans (hK.top k hk)⟩
theorem eD (np:Nat):Fl (List.replicate np (1,[]))=List.replicate np nilS:=by
 unfold Fl;rw[List.map_replicate];rfl
theorem Uh (np:Nat)(F:List C4)(cs:List AV)(idf:Nat)(b:Int)(hF:EL Me F cs)(hn:np<=5000)(bm:F.length<=1000)(bd:∀a∈F,a.ts.length<=3/\∃k:Nat,a.p=(k:Int)/\k<np)(z:St):
  ACalls Tryz.prog 49 [ic np,sl idf F.length cs,ic b] z fun r z'=>∃ot M,r=ag [fx ot 0 np,ic 0,ic b]/\MkM np F M/\Keep z z'/\z.nobj<=ot/\MPt z' ot M/\(∀x∈M,x.1=1\/z.ntop+2<=x.1):=by
 have bi:=EL.length Hk hF;refine Z9 27 [.cell 6 77] Tryz.func49 ?_
 repeat' (first|refine Z1 ?_|(refine Z8 ?_;intro κ hκ)|(refine Z4 ?_;clear hκ κ)|(refine Z2 ?_ ?_<;>intro h ab<;>try exact Xp)|refine Z3 ?_|exact⟨⟩|(apply hκ.out;clear hκ κ))
 obtain⟨σ0,hz0⟩:∃τ,τ=((((z.new [nilS,ic 0,ic 0]).new (List.replicate np nilS)).new [nilS,ic 0,ic 0]).put (z.nobj+1+1) [fx (z.nobj+1) 0 np,ic 0,ic b]):=⟨_,rfl⟩;rw[<-hz0];have az:Keep z σ0:=by rw[hz0];exact Xs
 have be:σ0.nobj=z.nobj+3:=by rw[hz0];rfl
 have av:σ0.obj z.nobj=[nilS,ic 0,ic 0]:=by rw[hz0,Ai Agm,Af Agq,Af Agq,Ap]
 have ax:MOb σ0 (z.nobj+2) (z.nobj+1) (List.replicate np (1,[])) 0 b:=
  ⟨by rw[hz0,Aj];simp,by rw[eD,hz0,Ai Agm,Af Agq,Bs Agq Agq],Agm,Agm,Agm,fun x hx=>by rw[(Aga.1 hx).2];exact .inl ⟨rfl,rfl⟩,fun i j x y hx hy _=>.inl (by rw[(Aga.1 (Adt hx)).2]),fun x hx=>by rw[(Aga.1 hx).2];intro t ht;simp at ht,fun x hx=>by rw[(Aga.1 hx).2];simp,by simpa using hn⟩
 refine Ag (fun m s z'=>∃(i:Nat) (M:MM),m=F.length-i/\i<=F.length/\s 6=ptr z.nobj 0/\s 7=ptr (z.nobj+2) 0/\s 14=sl idf F.length cs/\s 15=ic F.length/\s 16=ic i/\MOb z' (z.nobj+2) (z.nobj+1) M 0 b/\KM (z.nobj+2) (z.nobj+1) (List.replicate np (1,[])) M σ0 z'/\z'.obj z.nobj=[nilS,ic 0,ic 0]/\Agt (MkM np (F.take i) M)) F.length
  ⟨0,List.replicate np (1,[]),Agm,Agm,Ago,Ago,Ago,Ago,Ago,ax,KM.ofKeep (Keep.refl _),av,MkM.nil np⟩ ?_
 clear ax av hz0;rintro m s z' ⟨i,M,rfl,hi,h6,h7,bp,bo,bn,hM,ai,hq,hI⟩;have bf:=ai.nobj;by_cases aw:i<F.length
 ·have aa:=List.getElem?_eq_getElem aw;obtain⟨id,rr,hd⟩:=It hF aa;obtain⟨ap,k,ae,bh⟩:=bd _ (Afa aw);generalize F[i]=a at aa hd ap ae;have am:=hI.out.len;have hx:=List.getElem?_eq_getElem (l:=M) (i:=k) Agm;generalize M[k]'Agm=x at hx;have a0:Agt (F.take (i+1)=F.take i++[a]):=by rw[Agt,Ad3,aa,Afe]
  clear aa;have a5:x.2.length<5000:=by
   have h1:=hI.out.tot;have h2:(x.2.length:Int)<=Go.Proofs.YtmoeoppbmhfbpabGreatDoorG.tot M:=by
    have hg:∀(M:MM) (k:Nat) (x:Nat×List Ca),M[k]?=some x->(x.2.length:Int)<=Go.Proofs.YtmoeoppbmhfbpabGreatDoorG.tot M:=by
     intro M;induction M with
     |nil=>intro k x h;simp at h
     |cons y M ih=>
      intro k x h;rw[D5];have hp:∀M:MM,0<=Go.Proofs.YtmoeoppbmhfbpabGreatDoorG.tot M:=by
       intro M;induction M with
       |nil=>exact Int.le_refl _
       |cons y M ih=>rw[D5];omega
      cases k with
      |zero=>simp at h;subst h;have:=hp M;omega
      |succ k=>have:=ih k x (by simpa using h);omega
    exact hg M k x hx
   rw[Aef]at h1;omega
  have ak:=fun z (h:MOb z (σ0.nobj-1) (σ0.nobj-2) M 0 b)=>H6 (σ0.nobj-1) (σ0.nobj-2) M 0 b a id k x ap ae hx z h;have ay:=fun z (h:MOb z (σ0.nobj-1) (σ0.nobj-2) M 0 b)=>Ui (σ0.nobj-1) (σ0.nobj-2) M 0 b a id k x ap ae hx a5 z h;rw[show σ0.nobj-1=z.nobj+2 by omega,show σ0.nobj-2=z.nobj+1 by omega]at ak ay;have HX:Agt (M[k]?=some x):=hx;have a4:Agt (a.p=(k:Int)):=ae;clear hx ae am;by_cases ad:Cl a∈x.2
  ·rw[show decide (Cl a∈x.2)=true by simpa using ad]at ak;have HN:Agt (MkM np (F.take (i+1)) M):=by rw[Agt,a0.out];exact hI.out.has a4.out HX.out ad
   clear ad hI;have af:Keep z' ((z'.new [ic 0,nilS]).put z'.nobj [ic a.p,sl id a.ts.length (Ac a.ts)]):=((Keep.refl z').new _).put (Adn _) _
   repeat' (first|refine Z1 ?_|(refine Z8 ?_;intro κ hκ)|(refine Z4 ?_;clear hκ κ)|(refine Z2 ?_ ?_<;>intro h ab<;>try exact Xp)|(refine Z5 ?_;refine Xi (ak _ (hM.keep af)) ?_;rintro _ _ ⟨rfl,aj⟩;(have ac:=af.trans aj))|refine Z3 ?_|exact⟨⟩|(apply hκ.out;clear hκ κ))
   refine⟨F.length-(i+1),Agm,i+1,M,?_⟩
   ((repeat' with_reducible refine And.intro ?_ ?_)<;>first|exact Xq|exact (HN)|exact (hM.keep ac)|exact (ai.trans (KM.ofKeep ac))|exact (by rw[ac.obj _ Agm,hq])|exact Xs)
  ·rw[show decide (Cl a∈x.2)=false by simpa using ad]at ak;have HN:Agt (∀id',MkM np (F.take (i+1)) (M.set k (id',x.2++[Cl a]))):=fun id'=>by rw[a0.out];exact hI.out.add a4.out HX.out ad
   clear ad hI;have af:Keep z' ((z'.new [ic 0,nilS]).put z'.nobj [ic a.p,sl id a.ts.length (Ac a.ts)]):=((Keep.refl z').new _).put (Adn _) _;have a6:∀p,p<z'.nobj+1->((z'.new [ic 0,nilS]).put z'.nobj [ic a.p,sl id a.ts.length (Ac a.ts)]).obj p=((z'.new [ic 0,nilS]).put z'.nobj [ic a.p,sl id a.ts.length (Ac a.ts)]).obj p:=fun p _=>rfl;clear a6
   repeat' (first|refine Z1 ?_|(refine Z8 ?_;intro κ hκ)|(refine Z4 ?_;clear hκ κ)|(refine Z2 ?_ ?_<;>intro h ab<;>try exact Xp)|(refine Z5 ?_;first|(refine Xi (ak _ (hM.keep af)) ?_;rintro _ _ ⟨rfl,aj⟩;(have ac:=af.trans aj;have an:=aj.obj;have ao:=aj.nobj;simp only[Ab,Aa]at ao an))|(refine Xi (ay _ (hM.keep ac)) ?_;rintro _ _ ⟨id',ba,ah⟩))|refine Z3 ?_|exact⟨⟩|(apply hκ.out;clear hκ κ))
   rename_i z2 z3;have au:=(ai.trans (KM.ofKeep ac)).trans ah;have a7:z3.obj z.nobj=[nilS,ic 0,ic 0]:=by rw[ah.obj _ Agm Agm Agm,ac.obj _ Agm,hq]
   refine⟨F.length-(i+1),Agm,i+1,M.set k (id',x.2++[Cl a]),?_⟩
   ((repeat' with_reducible refine And.intro ?_ ?_)<;>first|exact Xq|exact (HN.out id')|exact (ba)|exact (au)|exact (a7)|exact Xs)
 ·have a9:i=F.length:=Agm;subst a9;have hI:=hI.out;rw[Adz]at hI;have am:=hI.len;have a8:=hM.ob;rw[am]at a8;have bg:=hM.lo;have HI:Agt _:=hI;have HM:Agt _:=hM;have a3:Agt _:=ai;clear hI hM ai am
  repeat' (first|refine Z1 ?_|(refine Z8 ?_;intro κ hκ)|(refine Z4 ?_;clear hκ κ)|(refine Z2 ?_ ?_<;>intro h ab<;>try exact Xp)|refine Z3 ?_|exact⟨⟩|(apply hκ.out;clear hκ κ))
  have bb:=Keep.km az a3.out Agm Agm (fun x hx=>by rw[(Aga.1 hx).2]);refine⟨_,rfl,z.nobj+1,M,rfl,HI.out,bb.put Agm _,Agm,?_,fun x hx=>?_⟩
  ·have h:=HM.out.mpt;exact⟨by rw[Rm Agm];exact h.oc,h.lt,h.live,h.inj,h.t3,h.ln,h.pl⟩
  ·have hnt:=az.ntop;rcases a3.out.mid x hx with⟨y,hy,e⟩|e|e
   ·rw[(Aga.1 hy).2]at e;exact .inl e.symm
   ·exact .inl e
   ·exact .inr Agm
def Dr (N:List Tx)(a:RAtom):C4:=⟨(N.idxOf a.pred:Nat),a.terms.map Am⟩
def Eo (N:List Tx)(a:RAtom):Lit:=⟨a.nt,Dr N a⟩
def Bt (N:List Tx)(x:RItem):D8:=⟨Dr N x.head,x.body.map (Eo N)⟩
theorem H7 (ts:List Tx):Ac (ts.map Am)=Ay ts:=by
 unfold Ac Ay;rw[Afq];rfl
theorem kJ {N:List Tx}:∀{l:List RAtom} {b:List AV},EL (PL N) l b->EL Pi (l.map (Eo N)) b
 |[],b,h=>h
 |a::l,b,h=>by
  obtain⟨c1,c2,⟨-,ids,rfl⟩,h2,rfl⟩:=h;exact⟨_,c2,⟨ids,by simp[Eo,Dr,H7]⟩,kJ h2,rfl⟩
theorem Ab7 {N:List Tx}{x:RItem}{c:List AV}(h:PI N x c):gE (Bt N x) c:=by
 obtain⟨hm,ih,id,b,hb,rfl⟩:=h;exact⟨x.out,ih,id,b,by simp[Bt,Dr,H7],kJ hb⟩
def LstF (R:List D8)(F:List C4):Fh:=fun k t=>∀D:Fh,ClD R D->(∀a∈F,D a.p.toNat (Cl a))->D k t
theorem LstF.cl (R:List D8)(F:List C4):ClD R (LstF R F):=fun r hr ν h D hD hF=>hD r hr ν (fun l hl=>h l hl D hD hF)
theorem LstF.fact {R:List D8}{F:List C4}{a:C4}(h:a∈F):LstF R F a.p.toNat (Cl a):=fun D _ hF=>hF a h
theorem Acw {np:Nat}{ar:Nat->Nat}{R:List D8}(h:∀r∈R,RW np ar r)(hp:∀r∈R,∀l∈r.body,l.neg=false):ClD R (Sh ar):=(Zx (N:=Sh ar) hp).1 (Aa7 h)
def Vt (R:List D8)(F:List C4)(k:Nat)(h:Ca)(b:Bool):Prop:=
 ∃M:MM,(∀x∈M,x.2.Nodup)/\(∀j t,MD M j t->LstF R F j t)/\(if tot M<=200 then (∀j t,LstF R F j t->MD M j t)/\(b=true↔MD M k h)else b=false)
theorem GroA.nodup {D:Fh}{M M':MM}{d d':Int}(h:GroA D M M' d d')(hn:∀x∈M,x.2.Nodup):∀x∈M',x.2.Nodup:=fun x hx=>by
 obtain⟨k,hk⟩:=List.getElem?_of_mem hx;obtain⟨nw,e,h1,h2⟩:=h.ext k;rw[B7 hk]at e;have aa:k<M.length:=by rw[<-h.len];exact (List.getElem?_eq_some_iff.1 hk).1
 have hg:M[k]?=some M[k]:=List.getElem?_eq_getElem aa;rw[B7 hg]at e;rw[e,Afp];refine⟨hn _ (Afa aa),h1,fun a ha b hb e2=>?_⟩;have:=(h2 b hb).2;rw[B7 hg]at this;exact this (e2 ▸ ha)
theorem yG {R:List D8}{F:List C4}{np:Nat}{M M':MM}{d':Int}{k:Nat}{h:Ca}{b:Bool}(hM:MkM np F M)(ab:∀a∈F,∃k:Nat,a.p=(k:Int))(hG:GroA (LstF R F) M M' 0 d')(hc:¬(200-tot M)<d'->ClD R (MD M'))(hb:if d'<=200-tot M then (b=true↔MD M' k h)else b=false):Vt R F k h b:=by
 refine⟨M',hG.nodup hM.nd,fun j t hj=>?_,?_⟩
 ·refine hG.inD (fun j t hj=>?_) j t hj;obtain⟨a,ha,e1,e2⟩:=(hM.mem j t).1 hj;have:=LstF.fact (R:=R) ha;rw[e1,Afz]at this;rw[e2];exact this
 ·have ac:=hG.cnt;by_cases h2:tot M'<=200
  ·rw[if_pos h2];rw[if_pos Agm]at hb;refine⟨fun j t hl=>hl (MD M') (hc Agm) (fun a ha=>?_),hb⟩;obtain⟨k',aa⟩:=ab a ha;refine hG.sub ?_;rw[aa,Afz];exact (hM.mem k' _).2 ⟨a,ha,aa,rfl⟩
  ·rw[if_neg h2];rw[if_neg Agm]at hb;exact hb
theorem Keep.km2 {σ0 z z':St}{om ot:Nat}{M M':MM}(hK:Keep σ0 z)(h:KM om ot M M' z z')(hm:σ0.nobj<=om)(ht:σ0.nobj<=ot)(hM:∀x∈M,x.1=1\/σ0.ntop+2<=x.1):Keep σ0 z':=
 ⟨Ado hK.nobj h.nobj,fun o ho=>(h.obj o (Adp ho hK.nobj) Agm Agm).trans (hK.obj o ho),fun o ho=>(h.ver o (Adp ho hK.nobj) Agm Agm).trans (hK.ver o ho),Ado hK.ntop h.ntop,fun k hk=>(h.top k (Adp hk hK.ntop) (fun x hx e=>by rcases hM x hx with h'|h'<;>omega)).trans (hK.top k hk)⟩
theorem gS:∀M:MM,0<=tot M
 |[]=>Int.le_refl _
 |y::M=>by rw[D5];have:=gS M;omega
theorem lM:∀(M:MM) (k:Nat) (x:Nat×List Ca),M[k]?=some x->(x.2.length:Int)<=tot M
 |[],k,x,h=>by simp at h
 |y::M,k,x,h=>by
  rw[D5];have hp:=gS M;cases k with
  |zero=>simp at h;subst h;omega
  |succ k=>have:=lM M k x (by simpa using h);omega
def D1 (N:List Tx)(x:RItem):D8:=wB (N.length:Int) (Bt N x)
def F2 (N:List Tx)(x:RItem):List C4:=(D1 N x).body.map fun l=>Fe l.a
structure BkI (N:List Tx)(l:List RItem)(ar:Nat->Nat):Prop where
 b5:∀y∈l,y.body.length<=5
 rw':∀y∈l,y.out=false->RW (2*N.length) ar (D1 N y)
 sm:∀y∈l,y.out=false->Sml (D1 N y).head.ts/\∀k∈(D1 N y).body,Sml k.a.ts
 sh:∀y∈l,y.out=false->∀a∈F2 N y,Sh ar a.p.toNat (Cl a)
theorem Abu (N:List Tx)(p:Tx):N.idxOf p<=N.length:=List.idxOf_le_length
theorem Vm (N:List Tx)(l:List RItem)(cs:List AV)(idn idi n:Nat)(ar:Nat->Nat)(x:RItem)(hB:Bk N l cs)(hI:BkI N l ar)(hx:l[n]?=some x)(hxo:x.out=false)(z:St):
  ACalls Tryz.prog 102 [B9 N idn l idi cs,ic n] z fun r z'=>∃b,r=sc (.bool b)/\Vt ((oth l n l.length).map (D1 N)) (F2 N x) (D1 N x).head.p.toNat (Cl (Fe (D1 N x).head)) b/\Keep z z':=by
 have eb:=EL.length D2 hB.el;have dl:=hB.len;have ef:=hB.nm;have hE:=hB.el;have d6:=(List.getElem?_eq_some_iff.1 hx).1;have ax:=Adt hx;obtain⟨hm,ih,id,b,rr,hb,hd⟩:=G8 hE hx;have cb:∀y c,y∈l->PI N y c->∀z,ACalls Tryz.prog 155 [ag c,ic N.length] z fun r z'=>(∃c',r=ag c'/\gE (D1 N y) c')/\Keep z z':=fun y c hy hc z=>
  Um (Bt N y) c N.length (Ab7 hc) (by simp only[Bt,Afo];have:=hI.b5 y hy;omega) (fun k hk=>by
   obtain⟨a,-,rfl⟩:=Aey.1 hk;have:=Abu N a.pred;simp only[Eo,Dr]
   omega) Agm Agm z
 have bz:=fun z=>cb x _ ax (PI.of (ih:=ih) (id:=id) hm hb) z;simp only[hxo]at bz;have ap:=hI.rw' x ax hxo;have ck:(D1 N x).body.length=x.body.length:=by simp[D1,wB,Bt]
 have ec:=hI.b5 x ax;have ca:=fun c (hc:gE (D1 N x) c) z=>P7 (D1 N x) c hc Agm (fun k hk=>⟨ap.rok.ba k hk,(hI.sm x ax hxo).2 k hk⟩) z;have bn:(F2 N x).length=(D1 N x).body.length:=by simp[F2]
 have bo:∀a∈F2 N x,a.ts.length<=3/\∃k:Nat,a.p=(k:Int)/\k<2*N.length:=fun a ha=>by
  obtain⟨k,hk,rfl⟩:=Aey.1 ha;exact⟨by simp only[Fe,Afo];exact ap.rok.ba k hk,ap.rok.bp k hk⟩
 have a5:=fun cs' idf (hF:EL Me (F2 N x) cs') z=>Uh (2*N.length) (F2 N x) cs' idf 200 hF Agm Agm bo z;rw[bn]at a5;have dk:(2:Int)*(N.length:Int)=((2*N.length:Nat):Int):=Agm;have d7:(n:Int)<(l.length:Int):=Agm;generalize cm:D1 N x=RX at bz ca a5 ck bn bo ap;generalize cx:F2 N x=FX at a5 bn bo;have c6:Agt _:=cm;have da:Agt _:=cx;have dp:RX.body.length<=5:=Agm;have ej:FX.length<=5:=Agm;clear cm cx ck bn;unfold B9;refine Z9 66 [.tmp 4] Tryz.func102 ?_
 repeat' (first|refine Z1 ?_|(refine Z8 ?_;intro κ hκ)|(refine Z4 ?_;clear hκ κ)|(refine Z2 ?_ ?_<;>intro h ac<;>try exact Xp)|(refine Z6 ?_;intro idn zn ak au ae ab ad aa)|(refine Z5 ?_;first|(refine Xi (bz _) ?_;rintro _ _ ⟨⟨_,rfl,bi⟩,bv⟩;(have bh:=bi;obtain⟨ro,rih,rib,rbc,rfl,ed⟩:=bi;have bf:=ca _ bh;have b4:=bv.nobj;simp only[Aa]at b4))|(refine Xi (bf _) ?_;rintro _ _ ⟨⟨idf,fc,rfl,cz⟩,am⟩;(have bg:EL Me FX fc:=(by rw[<-da.out];unfold F2;rw[c6.out];exact cz);have a4:=a5 fc idf bg;have b3:=am.nobj;simp only[Ab,Aa]at b3))|(refine Xi (a4 _) ?_;rintro _ _ ⟨ot,M,rfl,bu,bd,d5,b6,a6⟩;(have df:=bd.nobj)))|refine Z3 ?_|exact⟨⟩|(apply hκ.out;clear hκ κ))
 rename_i z1 z2 z3;obtain⟨z4,a0⟩:∃τ,τ=((z3.new [nilS,ic 0,ic 0]).put z3.nobj [fx ot 0 (2*N.length),ic 0,ic 200]):=⟨_,rfl⟩;rw[<-a0];have ct:Keep z z1:=((Keep.refl z).new _).trans bv;have b9:Keep z z2:=((ct.new _).put Agm _).trans am;have cr:Keep z z3:=b9.trans bd;have af:Keep z3 z4:=by rw[a0];exact ((Keep.refl z3).new _).put (Adn _) _
 have cv:Keep z z4:=cr.trans af;have n4:z4.nobj=z3.nobj+1:=by rw[a0];rfl
 have a7:=bu.len;have cd:z4.obj z1.nobj=[sc (.bool ro),ic RX.head.p,sl rih RX.head.ts.length (Ac RX.head.ts),sl rib RX.body.length rbc]:=by rw[af.obj _ Agm,bd.obj _ Agm,am.obj _ Ags,Aj]
 have obk:z4.obj z.nobj=[sl idn N.length (N.map str),sl idi l.length cs]:=by rw[af.obj _ Agm,bd.obj _ Agm,am.obj _ Ags,Ai Agm,Af Agm,bv.obj _ Agq,Ap]
 have di:=b6.lt;have a8:MOb z4 z3.nobj ot M 0 200:=(b6.keep af).mob (by rw[a0,Aj,a7]) Agm Agm;have dr:∀y∈M,y.1=1\/z.ntop+2<=y.1:=fun y hy=>by have:=b9.ntop;rcases a6 y hy with h|h<;>omega
 have d4:=gS M;have d3:tot M<=5:=by have:=bu.tot;omega
 have c5:=O6 z3.nobj ot M 0 200 z4 a8;have bq:=fun (id:Nat) z=>Lh (Hb M) id (by rw[H9];omega) (fun n hn=>by have:=O8 a8 n hn;omega) z;rw[show (Hb M).sum=tot M from rfl]at bq;rw[H9,a7]at bq;have a3:=a8.ob;have c8:Agt _:=bu;have c9:Agt _:=a8;clear a0 bv am bd ct b9 cr b6 a6 bu a8 cz bg a4 a5 ca bf bz bh;refine B6 (Q:=fun e s' z''=>e= .normal/\s' 1=ic n/\s' 2=ptr z.nobj 0/\s' 5=ic N.length/\s' 6=ptr z1.nobj 0/\s' 7=ptr z3.nobj 0/\Keep z z''/\z3.nobj<z''.nobj/\z''.obj z.nobj=[sl idn N.length (N.map str),sl idi l.length cs]/\z''.obj z1.nobj=[sc (.bool ro),ic RX.head.p,sl rih RX.head.ts.length (Ac RX.head.ts),sl rib RX.body.length rbc]/\MOb z'' z3.nobj ot M 0 (200-tot M)) ?_ ?_
 ·refine Bh Al (fun _=>True) [6] [0,1] 5 #[true,true,false,false,false,false,false] Agp (fun _ _ _ h=>by cases h.1) ?_;intro κ hκ;refine Z3 ?_;refine hκ.out _ ?_;clear hκ κ;refine Ao (i:=2) Agp ?_;refine Ar ?_;intro κ hκ;refine Z3 ?_;refine ACalls.mono c5 ?_;rintro _ z5 ⟨⟨ic0,rfl⟩,a9⟩;refine Z3 ?_;refine hκ.out _ _ ⟨Aq a9,?_⟩;clear hκ κ;refine Ao (i:=3) Agp ?_;refine Ar ?_;intro κ hκ;refine Z3 ?_;refine ACalls.mono (bq _ _) ?_;rintro _ z6 ⟨rfl,dw⟩;have aj:=a9.trans dw;have b2:=aj.nobj;have d1:z6.obj z3.nobj=[fx ot 0 M.length,ic 0,ic 200]:=by rw[aj.obj _ Agm,a3]
  refine Z3 ?_;refine hκ.out _ _ ⟨Aq aj,?_⟩;clear hκ κ;refine Ao (i:=4) Agp ?_;refine Ar ?_;intro κ hκ;refine Z3 ?_;refine hκ.out _ _ ⟨Aq aj,?_⟩;clear hκ κ;refine Ao (i:=5) Agp ?_;refine Ar ?_;intro κ hκ;refine Z3 ?_;refine hκ.out _ _ ⟨Aq aj,?_⟩;clear hκ κ;refine Ao (i:=6) Agp ?_;refine Ar ?_;intro κ hκ;refine Z3 ?_;refine hκ.out _ _ ⟨Bq rfl,?_⟩;clear hκ κ;refine A6 Agp ⟨rfl,by simp[upd,initS],Ago,Ago,Ago,Ago,(cv.trans aj).put Agm _,by simp only[Ab];omega,?_,?_,?_⟩
  ·rw[Ai Agm,aj.obj _ Agm,obk]
  ·rw[Ai Agm,aj.obj _ Agm,cd]
  ·have hm:=(c9.out.keep aj).mpt;exact MPt.mob ⟨by rw[Ai Agm];exact hm.oc,hm.lt,hm.live,hm.inj,hm.t3,hm.ln,hm.pl⟩ (by rw[Aj,a7]) (by simp only[Ab];omega) Agm
 ·rintro e s z5 ⟨rfl,g1,g2,g5,g6,g7,a9,d8,obk5,b1,co⟩;clear c5 bq a3 c9 cv af cd obk n4;have de:=a9.nobj;have dz:Agt _:=co;clear co
  repeat' (first|refine Z1 ?_|(refine Z8 ?_;intro κ hκ)|(refine Z4 ?_;clear hκ κ)|(refine Z2 ?_ ?_<;>intro h ac<;>try exact Xp)|(refine Z6 ?_;intro idn zn ak au ae ab ad aa)|refine Z3 ?_|exact⟨⟩|(apply hκ.out;clear hκ κ))
  refine Ag (fun m s z'=>∃(q i8:Nat) (L:List RItem) (ys:List AV),m=l.length-q/\q<=l.length/\s 1=ic n/\s 5=ic N.length/\s 6=ptr z1.nobj 0/\s 7=ptr z3.nobj 0/\s 8=sl i8 L.length ys/\s 34=sl idi l.length cs/\s 35=ic l.length/\s 36=ic q/\Keep z5 z'/\Own z5 z' i8 L.length/\ys.length=L.length*4/\L.length<=q/\Agt (L=oth l n q/\EL gE (L.map (D1 N)) ys)) l.length
   ⟨0,1,[],[],Agm,Agm,Agn,Agn,Agn,Agn,Ago,Ago,Ago,Ago,Keep.refl _,Own.nil _ _,rfl,by simp,by simp[oth],rfl⟩ ?_
  clear g1 g2 g5 g6 g7;rintro m s z6 ⟨q,i8,L,ys,rfl,hq,h1,h5,h6,h7,h8,en,em,ek,hK,hO,d2,eh,hL⟩;have dd:=hK.nobj;by_cases ch:q<l.length
  ·have ah:=List.getElem?_eq_getElem ch;obtain⟨cg,jh,jd,jb,r2,ci,dm⟩:=G8 hE ah;have ce:=Afa ch;generalize l[q]=y at ah ci dm cg ce;have az:Agt _:=tN (n:=n) ah;have bw:=fun z=>cb y _ ce (PI.of (ih:=jh) (id:=jd) cg ci) z;clear ah;by_cases ay:q=n
   ·have dj:((q:Int) !=(n:Int))=false:=by simp[ay]
    have HN:Agt (L=oth l n (q+1)/\EL gE (L.map (D1 N)) ys):=⟨by rw[az.out,if_pos (.inl ay),Ad7];exact hL.out.1,hL.out.2⟩;clear ay az bw
    repeat' (first|refine Z1 ?_|(refine Z8 ?_;intro κ hκ)|(refine Z4 ?_;clear hκ κ)|(refine Z2 ?_ ?_<;>intro h ac<;>try exact Xp)|(refine Z6 ?_;intro idn zn ak au ae ab ad aa)|refine Z3 ?_|exact⟨⟩|(apply hκ.out;clear hκ κ))
    refine⟨l.length-(q+1),Agm,q+1,i8,L,ys,?_⟩
    ((repeat' with_reducible refine And.intro ?_ ?_)<;>first|exact Xq|exact (HN)|exact ((hK.new _).put hK.nobj _)|exact (Own.put (Own.new hO _) _ _)|exact Xs)
   ·have dj:((q:Int) !=(n:Int))=true:=by simp;omega
    cases an:y.out with
    |true=>
     have HN:Agt (L=oth l n (q+1)/\EL gE (L.map (D1 N)) ys):=⟨by rw[az.out,if_pos (.inr an),Ad7];exact hL.out.1,hL.out.2⟩;clear ay az bw
     repeat' (first|refine Z1 ?_|(refine Z8 ?_;intro κ hκ)|(refine Z4 ?_;clear hκ κ)|(refine Z2 ?_ ?_<;>intro h ac<;>try exact Xp)|(refine Z6 ?_;intro idn zn ak au ae ab ad aa)|refine Z3 ?_|exact⟨⟩|(apply hκ.out;clear hκ κ))
     refine⟨l.length-(q+1),Agm,q+1,i8,L,ys,?_⟩
     ((repeat' with_reducible refine And.intro ?_ ?_)<;>first|exact Xq|exact (HN)|exact ((hK.new _).put hK.nobj _)|exact (Own.put (Own.new hO _) _ _)|exact Xs)
    |false=>
     simp only[an]at bw;have HN:Agt (∀c',gE (D1 N y) c'->L++[y]=oth l n (q+1)/\EL gE ((L++[y]).map (D1 N)) (ys++c')):=fun c' dn=>⟨by rw[az.out,if_neg (by simp[ay,an]),hL.out.1],by rw[Ad5];exact EL.append hL.out.2 (EL.single dn)⟩;clear ay az
     repeat' (first|refine Z1 ?_|(refine Z8 ?_;intro κ hκ)|(refine Z4 ?_;clear hκ κ)|(refine Z2 ?_ ?_<;>intro h ac<;>try exact Xp)|(refine Z6 ?_;intro idn zn ak au ae ab ad aa)|(refine Z5 ?_;refine Xi (bw _) ?_;rintro _ _ ⟨⟨_,rfl,bi⟩,am⟩;(have dy:Agt _:=HN.out _ bi;obtain⟨ro2,rih2,rib2,rbc2,rfl,-⟩:=bi;have ei:=((hK.new _).put hK.nobj _).trans am;have ee:=Own.keep (Own.put (Own.new hO _) _ _) am))|refine Z3 ?_|exact⟨⟩|(apply hκ.out;clear hκ κ))
     refine⟨l.length-(q+1),Agm,q+1,idn,L++[y],ys++[sc (.bool ro2),ic (D1 N y).head.p,sl rih2 (D1 N y).head.ts.length (Ac (D1 N y).head.ts),sl rib2 (D1 N y).body.length rbc2],?_⟩
     ((repeat' with_reducible refine And.intro ?_ ?_)<;>first|exact Xq|exact (dy)|exact (by rw[Aee];exact ak)|exact Xs)
  ·have dh:q=l.length:=Agm;subst dh;obtain⟨b8,cp⟩:=hL.out;have ao:∀r∈L.map (D1 N),RW (2*N.length) ar r:=fun r hr=>by
    obtain⟨y,hy,rfl⟩:=Aey.1 hr;rw[b8]at hy;exact hI.rw' y (Gu hy).1 (Gu hy).2
   have ai:∀r∈L.map (D1 N),∀k∈r.body,k.neg=false:=fun r hr k hk=>by
    obtain⟨y,hy,rfl⟩:=Aey.1 hr;obtain⟨k0,-,rfl⟩:=Aey.1 hk;unfold Fo;split
    ·rfl
    ·rename_i h;simpa using h
   have be:Fol (2*N.length) ar (L.map (D1 N)) (LstF (L.map (D1 N)) FX):=⟨ao,(Zx ai).2 (LstF.cl _ _),fun k t h=>h (Sh ar) (Acw ao ai) (fun a ha=>hI.sh x ax hxo a (by rw[da.out];exact ha))⟩;have cn:∀k t,MD M k t->LstF (L.map (D1 N)) FX k t:=fun k t hk=>by
    obtain⟨a,ha,e1,e2⟩:=(c8.out.mem k t).1 hk;have:=LstF.fact (R:=L.map (D1 N)) ha;rw[e1,Afz]at this;rw[e2];exact this
   have dq:Room M 0 (200-tot M):=fun y hy=>by
    obtain⟨k,hk⟩:=List.getElem?_of_mem hy;have:=lM M k y hk;omega
   have cy:=fun z (h:MOb z z3.nobj ot M 0 (200-tot M))=>O4 be z3.nobj ot (200-tot M) Agm Agm M 0 a7 cn (fun r hr k hk hn=>by rw[ai r hr k hk]at hn;cases hn) dq Agm Agm ys i8 cp (by rw[Afo];omega) z h;rw[Afo]at cy;have dt:MOb z6 z3.nobj ot M 0 (200-tot M):=dz.out.keep hK;have b0:z6.obj z1.nobj=[sc (.bool ro),ic RX.head.p,sl rih RX.head.ts.length (Ac RX.head.ts),sl rib RX.body.length rbc]:=by rw[hK.obj _ Agm,b1]
   have du:=a9.trans hK;have d0:Agt _:=b8;have c7:Agt (∀(M':MM) (d':Int) (bb:Bool),GroA (LstF (L.map (D1 N)) FX) M M' 0 d'->(¬(200-tot M)<d'->ClD (L.map (D1 N)) (MD M'))->(if d'<=200-tot M then (bb=true↔MD M' RX.head.p.toNat (Cl (Fe RX.head)))else bb=false)->Vt ((oth l n l.length).map (D1 N)) FX RX.head.p.toNat (Cl (Fe RX.head)) bb):=fun M' d' bb h1 h2 h3=>by
    rw[<-d0.out];exact yG c8.out (fun a ha=>⟨_,(bo a ha).2.choose_spec.1⟩) h1 h2 h3
   have dx:=fun z=>O3 RX.head.p rih RX.head.ts (by have:=ap.rok.hd;omega) (by have:=(hI.sm x ax hxo).1;rw[c6.out]at this;exact this) z;clear b8 cp be cn hL cb ao
   repeat' (first|refine Z1 ?_|(refine Z8 ?_;intro κ hκ)|(refine Z4 ?_;clear hκ κ)|(refine Z2 ?_ ?_<;>intro h ac<;>try exact Xp)|(refine Z6 ?_;intro idn zn ak au ae ab ad aa)|(refine Z5 ?_;refine Xi (cy _ dt) ?_;rintro _ _ ⟨M',d',b7,av,cw,ea,-,cj⟩;(have cc:Agt _:=cw;have db:Agt _:=fun h=>(Zx ai).1 (cj h);clear cw cj))|refine Z3 ?_|exact⟨⟩|(apply hκ.out;clear hκ κ))
   rename_i z7;have b2:=av.nobj;have dc:z7.obj z1.nobj=[sc (.bool ro),ic RX.head.p,sl rih RX.head.ts.length (Ac RX.head.ts),sl rib RX.body.length rbc]:=by rw[av.obj _ Agm Agm Agm,b0]
   have cq:Keep z z7:=Keep.km2 du av Agm Agm dr;have br:=Nq z3.nobj ot M' d' (200-tot M);by_cases cf:200-tot M<d'
   ·rw[show decide (200-tot M<d')=true by simpa using cf]at br;have HR:Agt _:=c7.out M' d' false cc.out db.out (by rw[if_neg Agm])
    repeat' (first|refine Z1 ?_|(refine Z8 ?_;intro κ hκ)|(refine Z4 ?_;clear hκ κ)|(refine Z2 ?_ ?_<;>intro h ac<;>try exact Xp)|(refine Z6 ?_;intro idn zn ak au ae ab ad aa)|(refine Z5 ?_;refine Xi (br _ b7) ?_;rintro _ _ ⟨rfl,rfl⟩)|refine Z3 ?_|exact⟨⟩|(apply hκ.out;clear hκ κ))
    first|exact⟨_,rfl,false,rfl,HR.out,cq⟩|exact⟨_,rfl,false,rfl,HR.out⟩
   ·rw[show decide (200-tot M<d')=false by simpa using cf]at br;obtain⟨k,hk,d9⟩:=ap.rok.hp;have eg:M'.length=2*N.length:=by rw[cc.out.len];exact a7
    have bm:=List.getElem?_eq_getElem (l:=M') (i:=k) Agm;generalize M'[k]'Agm=x' at bm;have aw:=fun id z (h:MOb z z3.nobj ot M' d' (200-tot M))=>H6 z3.nobj ot M' d' (200-tot M) (Fe RX.head) id k x' (by simp only[Fe,Afo];exact ap.rok.hd) hk bm z h
    have HR:Agt (Vt ((oth l n l.length).map (D1 N)) FX RX.head.p.toNat (Cl (Fe RX.head)) (decide (Cl (Fe RX.head)∈x'.2))):=c7.out M' d' _ cc.out db.out (by
     rw[if_pos Agm,hk,Afz];unfold MD;rw[B7 bm]
     simp)
    generalize decide (Cl (Fe RX.head)∈x'.2)=bb at aw HR;simp only[Fe,Afo]at aw;clear bm hk
    repeat' (first|refine Z1 ?_|(refine Z8 ?_;intro κ hκ)|(refine Z4 ?_;clear hκ κ)|(refine Z2 ?_ ?_<;>intro h ac<;>try exact Xp)|(refine Z6 ?_;intro idn zn ak au ae ab ad aa)|(refine Z5 ?_;first|(refine Xi (br _ b7) ?_;rintro _ _ ⟨rfl,rfl⟩)|(refine Xi (dx _) ?_;rintro _ _ ⟨⟨idh,rfl⟩,cu⟩)|(refine Xi (aw _ _ (b7.keep cu)) ?_;rintro _ _ ⟨rfl,dv⟩))|refine Z3 ?_|exact⟨⟩|(apply hκ.out;clear hκ κ))
    first|exact⟨_,rfl,_,rfl,HR.out,(cq.trans cu).trans dv⟩|exact⟨_,rfl,_,rfl,HR.out⟩
theorem mK {α:Type}:∀{l m:List α},l.Nodup->(∀a∈l,a∈m)->l.length<=m.length
 |[],m,_,_=>by simp
 |a::l,m,h,hs=>by
  obtain⟨s,t,rfl⟩:=List.append_of_mem (hs a (by simp));have hn:=List.nodup_cons.1 h
  have:=mK (l:=l) (m:=s++t) hn.2 (fun b hb=>by
   have:=hs b (by simp[hb]);rcases Aew.1 this with h'|h'
   ·exact Af5 _ h'
   ·rcases Aeq.1 h' with rfl|h'
    ·exact absurd hb hn.1
    ·exact Af4 _ h')
  simp only[Aen,Aee]at this⊢;omega
theorem Pz {α β:Type}{f:α->β}:∀{l:List α},l.Nodup->(∀a∈l,∀b∈l,f a=f b->a=b)->(l.map f).Nodup
 |[],_,_=>Afr
 |a::l,h,hi=>by
  have hn:=List.nodup_cons.1 h;rw[Ad9,List.nodup_cons];refine⟨fun hm=>?_,Pz hn.2 fun b hb c hc=>hi b (by simp[hb]) c (by simp[hc])⟩;obtain⟨b,hb,e⟩:=Aey.1 hm;have:=hi b (by simp[hb]) a (by simp) e;exact hn.1 (this ▸ hb)
def Kj:Nat->MM->List (Nat×Ca)
 |_,[]=>[]
 |k,x::M=>x.2.map (fun t=>(k,t))++Kj (k+1) M
theorem P6:∀(M:MM) (k:Nat),((Kj k M).length:Int)=tot M
 |[],k=>rfl
 |x::M,k=>by rw[Kj,D5,<-P6 M (k+1)];simp
theorem Ma:∀(M:MM) (k j:Nat) (t:Ca),(j,t)∈Kj k M↔k<=j/\MD M (j-k) t
 |[],k,j,t=>by simp[Kj,MD,A5]
 |x::M,k,j,t=>by
  rw[Kj,Aew,Ma M (k+1) j t];unfold MD A5;simp only[Afz];constructor
  ·rintro (h|⟨h1,h2⟩)
   ·obtain⟨u,hu,e⟩:=Aey.1 h;cases e;simpa using hu
   ·refine⟨Agm,?_⟩;rw[show j-k=(j-(k+1))+1 by omega,List.getElem?_cons_succ];exact h2
  ·rintro⟨h1,h2⟩;by_cases e:j=k
   ·subst e;left;rw[Ae2,List.getElem?_cons_zero]at h2;exact Aey.2 ⟨t,by simpa using h2,rfl⟩
   ·right;rw[show j-k=(j-(k+1))+1 by omega,List.getElem?_cons_succ]at h2;exact⟨Agm,h2⟩
theorem Qt:∀(M:MM) (k:Nat),(∀x∈M,x.2.Nodup)->(Kj k M).Nodup
 |[],k,_=>Afr
 |x::M,k,h=>by
  rw[Kj,Afp];refine⟨Pz (h x (by simp)) (fun a _ b _ e=>by cases e;rfl),Qt M (k+1) (fun y hy=>h y (by simp[hy])),fun a ha b hb e=>?_⟩;obtain⟨t,-,rfl⟩:=Aey.1 ha;obtain⟨j,u⟩:=b;cases e;have:=((Ma M (k+1) k t).1 hb).1;omega
theorem rU {M:MM}{α:Type}{A:List α}{e:α->Nat×Ca}(hn:∀x∈M,x.2.Nodup)(h:∀k t,MD M k t->∃a∈A,e a=(k,t)):tot M<=A.length:=by
 have hc:∀p∈Kj 0 M,∃a∈A,e a=p:=fun p hp=>by
  obtain⟨k,t⟩:=p;exact h k t ((Ma M 0 k t).1 hp).2
 have hg:∃g:Nat×Ca->Option α,∀p∈Kj 0 M,∃a∈A,g p=some a/\e a=p:=by
  refine⟨fun p=>Classical.epsilon fun o=>∃a∈A,o=some a/\e a=p,fun p hp=>?_⟩;obtain⟨a,ha,he⟩:=hc p hp;have:=Classical.epsilon_spec (p:=fun o=>∃a∈A,o=some a/\e a=p) ⟨some a,a,ha,rfl,he⟩;exact this
 obtain⟨g,hg⟩:=hg
 have h1:((Kj 0 M).map g).Nodup:=Pz (Qt M 0 hn) (fun p hp q hq aa=>by
  obtain⟨a,-,h1,h2⟩:=hg p hp;obtain⟨b,-,h3,h4⟩:=hg q hq;rw[h1,h3]at aa;cases aa
  exact h2.symm.trans h4)
 have h2:=mK (m:=A.map some) h1 (fun o ho=>by
  obtain⟨p,hp,rfl⟩:=Aey.1 ho;obtain⟨a,ha,h1,-⟩:=hg p hp
  rw[h1];exact Aey.2 ⟨a,ha,rfl⟩)
 rw[Afo,Afo]at h2;rw[<-P6 M 0];omega
theorem Wj {l m:List Int}(hl:l.length=m.length)(h3:l.length<=3)(h:Df l=Df m):l=m:=by
 refine Ad8 fun i=>?_;by_cases hi:i<l.length
 ·unfold Df at h;simp only[Af9,and_true]at h;obtain⟨e0,e1,e2⟩:=h;have h1:=List.getElem?_eq_getElem hi;have h2:=List.getElem?_eq_getElem (l:=m) (i:=i) Agm;have:i=0\/i=1\/i=2:=Agm;rcases this with rfl|rfl|rfl
  ·rw[h1,h2]at e0;rw[h1,h2];exact congrArg some e0
  ·rw[h1,h2]at e1;rw[h1,h2];exact congrArg some e1
  ·rw[h1,h2]at e2;rw[h1,h2];exact congrArg some e2
 ·rw[List.getElem?_eq_none Agm,List.getElem?_eq_none Agm]
end Go.Proofs.YtmoeoppbmhfbpabGreatDoorG
