import Derived.Test.YtmoeoppbmhfbpabGreatDoorLFolA
import Derived.Test.YtmoeoppbmhfbpabGreatDoorLProgL
import Derived.Test.YtmoeoppbmhfbpabGreatDoorLPrtG
import Derived.Test.YtmoeoppbmhfbpabGreatDoorLEngR
set_option maxHeartbeats 64000000
set_option maxRecDepth 100000
set_option linter.all false
namespace Go.Proofs.YtmoeoppbmhfbpabGreatDoorL
open Go.Abs
structure MkM (np:Nat)(F:List Df)(M:MM):Prop where
 len:M.length=np
 nd:∀x∈M,x.2.Nodup
 mem:∀(k:Nat) (t:Bc),MD M k t↔∃a∈F,a.p=(k:Int)/\t=Cs a
 tot:tot M<=F.length
theorem dO {M:MM}{k:Nat}{x:Nat×List Bc}(h:M[k]?=some x):Ay M (k:Int)=x.2:=B8 h
theorem MkM.nil (np:Nat):MkM np [] (List.replicate np (1,[])):=by
 refine⟨by simp,fun x hx=>?_,fun k t=>⟨fun h=>?_,fun⟨a,ha,_⟩=>by simp at ha⟩,?_⟩
 ·rw[(Ajc.1 hx).2];exact Aii
 ·exfalso;unfold MD at h;by_cases hk:k<np
  ·rw[dO (x:=(1,[])) (by rw[List.getElem?_replicate,if_pos hk])]at h;simp at h
  ·unfold Ay at h;simp[hk]at h
 ·have:∀n:Nat,Go.Proofs.YtmoeoppbmhfbpabGreatDoorL.tot (List.replicate n ((1:Nat),([]:List Bc)))=0:=by
   intro n;induction n with
   |zero=>rfl
   |succ n ih=>rw[List.replicate_succ,Dj,ih];rfl
  rw[this];simp
theorem MkM.has {np:Nat}{F:List Df}{M:MM}{a:Df}{k:Nat}{x:Nat×List Bc}(h:MkM np F M)(hk:a.p=(k:Int))(hx:M[k]?=some x)(hm:Cs a∈x.2):MkM np (F++[a]) M:=by
 refine⟨h.len,h.nd,fun j t=>?_,by have:=h.tot;simp;omega⟩;rw[h.mem j t];constructor
 ·rintro⟨b,hb,h1,h2⟩;exact⟨b,Ajd _ hb,h1,h2⟩
 ·rintro⟨b,hb,h1,h2⟩;rcases Ahs.1 hb with h'|h'
  ·exact⟨b,h',h1,h2⟩
  ·rw[Aib]at h';subst h';have aa:j=k:=Ajm;subst aa;refine (h.mem j t).1 ?_;unfold MD;rw[B8 hx,h2];exact hm
theorem MkM.add {np:Nat}{F:List Df}{M:MM}{a:Df}{k id':Nat}{x:Nat×List Bc}(h:MkM np F M)(hk:a.p=(k:Int))(hx:M[k]?=some x)(hm:Cs a∉x.2):MkM np (F++[a]) (M.set k (id',x.2++[Cs a])):=by
 have ac:k<M.length:=(List.getElem?_eq_some_iff.1 hx).1;have ab:Ay (M.set k (id',x.2++[Cs a])) (k:Int)=x.2++[Cs a]:=B8 (x:=(id',x.2++[Cs a])) (by rw[List.getElem?_set,if_pos rfl,if_pos ac]);have aa:∀j:Nat,j≠k->(M.set k (id',x.2++[Cs a]))[j]?=M[j]?:=fun j hj=>by rw[List.getElem?_set,if_neg (fun e=>hj e.symm)]
 refine⟨by simp[h.len],fun y hy=>?_,fun j t=>?_,?_⟩
 ·rcases Ai3 hy with h'|rfl
  ·exact h.nd y h'
  ·rw[Aiw];exact⟨h.nd x (Agp hx),by simp,fun u hu v hv e=>hm (by rw[Aib]at hv;rw[<-hv,<-e];exact hu)⟩
 ·by_cases hj:j=k
  ·subst hj;unfold MD;rw[ab,Ahs,Aib];have hM:=h.mem j t;unfold MD at hM;rw[B8 hx]at hM;rw[hM];constructor
   ·rintro (⟨b,hb,h1,h2⟩|h')
    ·exact⟨b,Ajd _ hb,h1,h2⟩
    ·exact⟨a,by simp,hk,h'⟩
   ·rintro⟨b,hb,h1,h2⟩;rcases Ahs.1 hb with h'|h'
    ·exact .inl ⟨b,h',h1,h2⟩
    ·rw[Aib]at h';subst h';exact .inr h2
  ·have hM:=h.mem j t;unfold MD Ay at hM⊢;rw[Ai4]at hM⊢;rw[aa j hj,hM];constructor
   ·rintro⟨b,hb,h1,h2⟩;exact⟨b,Ajd _ hb,h1,h2⟩
   ·rintro⟨b,hb,h1,h2⟩;rcases Ahs.1 hb with h'|h'
    ·exact⟨b,h',h1,h2⟩
    ·rw[Aib]at h';subst h';omega
 ·have:=O5 M (M.set k (id',x.2++[Cs a])) k 1 (by simp) (fun j hj=>by rw[aa j hj]) (fun _=>by rw[ab,B8 hx];simp) (fun h'=>Ajm);have h2:=h.tot;simp;omega
structure MPt (z:St)(ot:Nat)(M:MM):Prop where
 oc:z.obj ot=Fg M
 lt:ot<z.nobj
 live:∀x∈M,Live z x.1 x.2.length
 inj:∀(i j:Nat) (x y:Nat×List Bc),M[i]?=some x->M[j]?=some y->i≠j->x.1=1\/x.1≠y.1
 t3:∀x∈M,T3 x.2
 ln:∀x∈M,x.2.length<=5000
 pl:M.length<=5000
theorem MPt.keep {z z':St}{ot:Nat}{M:MM}(h:MPt z ot M)(k:Keep z z'):MPt z' ot M:=⟨(k.obj _ h.lt).trans h.oc,Agk h.lt k.nobj,fun x hx=>(h.live x hx).keep k,h.inj,h.t3,h.ln,h.pl⟩
theorem MPt.mob {z:St}{om ot:Nat}{M:MM}{d b:Int}(h:MPt z ot M)(ho:z.obj om=[fx ot 0 M.length,ic d,ic b])(hl:om<z.nobj)(hn:om≠ot):MOb z om ot M d b:=⟨ho,h.oc,hl,h.lt,hn,h.live,h.inj,h.t3,h.ln,h.pl⟩
theorem MOb.mpt {z:St}{om ot:Nat}{M:MM}{d b:Int}(h:MOb z om ot M d b):MPt z ot M:=⟨h.oc,h.lt,h.live,h.inj,h.t3,h.ln,h.pl⟩
theorem Keep.km {σ0 z z':St}{om ot:Nat}{M M':MM}(hK:Keep σ0 z)(h:KM om ot M M' z z')(hm:σ0.nobj<=om)(ht:σ0.nobj<=ot)(hM:∀x∈M,x.1=1):Keep σ0 z':=
 ⟨Agj hK.nobj h.nobj,fun o ho=>(h.obj o (Agk ho hK.nobj) Ajm Ajm).trans (hK.obj o ho),fun o ho=>(h.ver o (Agk ho hK.nobj) Ajm Ajm).trans (hK.ver o ho),Agj hK.ntop h.ntop,fun k hk=>(h.top k (Agk hk hK.ntop) (fun x hx e=>by rw[hM x hx]at e;omega)).trans (hK.top k hk)⟩
theorem gY (np:Nat):Fg (List.replicate np (1,[]))=List.replicate np nilS:=by
 unfold Fg;rw[List.map_replicate];rfl
theorem Ma (np:Nat)(F:List Df)(cs:List AV)(idf:Nat)(b:Int)(hF:EL Mm F cs)(hn:np<=5000)(hFl:F.length<=1000)(bb:∀a∈F,a.ts.length<=3/\∃k:Nat,a.p=(k:Int)/\k<np)(z:St):
  ACalls Tryz.prog 49 [ic np,sl idf F.length cs,ic b] z fun r z'=>∃ot M,r=ag [fx ot 0 np,ic 0,ic b]/\MkM np F M/\Keep z z'/\z.nobj<=ot/\MPt z' ot M/\(∀x∈M,x.1=1\/z.ntop+2<=x.1):=by
 have bg:=EL.length Ic hF;refine Z9 27 [.cell 6 77] Tryz.func49 ?_
 repeat' (first|refine Z1 ?_|(refine Z8 ?_;intro κ hκ)|(refine Z4 ?_;clear hκ κ)|(refine Z2 ?_ ?_<;>intro h ab<;>try exact Xp)|refine Z3 ?_|exact⟨⟩|(apply hκ.out;clear hκ κ))
 obtain⟨σ0,hz0⟩:∃τ,τ=((((z.new [nilS,ic 0,ic 0]).new (List.replicate np nilS)).new [nilS,ic 0,ic 0]).put (z.nobj+1+1) [fx (z.nobj+1) 0 np,ic 0,ic b]):=⟨_,rfl⟩;rw[<-hz0];have az:Keep z σ0:=by rw[hz0];exact Xs
 have bc:σ0.nobj=z.nobj+3:=by rw[hz0];rfl
 have av:σ0.obj z.nobj=[nilS,ic 0,ic 0]:=by rw[hz0,Ai Ajm,Ag Ajq,Ag Ajq,Ap]
 have ax:MOb σ0 (z.nobj+2) (z.nobj+1) (List.replicate np (1,[])) 0 b:=
  ⟨by rw[hz0,Ak];simp,by rw[gY,hz0,Ai Ajm,Ag Ajq,Bt Ajq Ajq],Ajm,Ajm,Ajm,fun x hx=>by rw[(Ajc.1 hx).2];exact .inl ⟨rfl,rfl⟩,fun i j x y hx hy _=>.inl (by rw[(Ajc.1 (Agp hx)).2]),fun x hx=>by rw[(Ajc.1 hx).2];intro t ht;simp at ht,fun x hx=>by rw[(Ajc.1 hx).2];simp,by simpa using hn⟩
 refine Af (fun m s z'=>∃(i:Nat) (M:MM),m=F.length-i/\i<=F.length/\s 6=ptr z.nobj 0/\s 7=ptr (z.nobj+2) 0/\s 14=sl idf F.length cs/\s 15=ic F.length/\s 16=ic i/\MOb z' (z.nobj+2) (z.nobj+1) M 0 b/\KM (z.nobj+2) (z.nobj+1) (List.replicate np (1,[])) M σ0 z'/\z'.obj z.nobj=[nilS,ic 0,ic 0]/\Ajs (MkM np (F.take i) M)) F.length
  ⟨0,List.replicate np (1,[]),Ajm,Ajm,Ajo,Ajo,Ajo,Ajo,Ajo,ax,KM.ofKeep (Keep.refl _),av,MkM.nil np⟩ ?_
 clear ax av hz0;rintro m s z' ⟨i,M,rfl,hi,h6,h7,bl,bi,bh,hM,ai,hq,hI⟩;have bd:=ai.nobj;by_cases aw:i<F.length
 ·have aa:=List.getElem?_eq_getElem aw;obtain⟨id,rr,hd⟩:=Jl hF aa;obtain⟨ap,k,ae,bf⟩:=bb _ (Ah6 aw);generalize F[i]=a at aa hd ap ae;have am:=hI.out.len;have hx:=List.getElem?_eq_getElem (l:=M) (i:=k) Ajm;generalize M[k]'Ajm=x at hx;have a0:Ajs (F.take (i+1)=F.take i++[a]):=by rw[Ajs,Agz,aa,Aia]
  clear aa;have a5:x.2.length<5000:=by
   have h1:=hI.out.tot;have h2:(x.2.length:Int)<=Go.Proofs.YtmoeoppbmhfbpabGreatDoorL.tot M:=by
    have hg:∀(M:MM) (k:Nat) (x:Nat×List Bc),M[k]?=some x->(x.2.length:Int)<=Go.Proofs.YtmoeoppbmhfbpabGreatDoorL.tot M:=by
     intro M;induction M with
     |nil=>intro k x h;simp at h
     |cons y M ih=>
      intro k x h;rw[Dj];have hp:∀M:MM,0<=Go.Proofs.YtmoeoppbmhfbpabGreatDoorL.tot M:=by
       intro M;induction M with
       |nil=>exact Ail _
       |cons y M ih=>rw[Dj];omega
      cases k with
      |zero=>simp at h;subst h;have:=hp M;omega
      |succ k=>have:=ih k x (by simpa using h);omega
    exact hg M k x hx
   rw[Ahb]at h1;omega
  have ak:=fun z (h:MOb z (σ0.nobj-1) (σ0.nobj-2) M 0 b)=>I0 (σ0.nobj-1) (σ0.nobj-2) M 0 b a id k x ap ae hx z h;have ay:=fun z (h:MOb z (σ0.nobj-1) (σ0.nobj-2) M 0 b)=>Vs (σ0.nobj-1) (σ0.nobj-2) M 0 b a id k x ap ae hx a5 z h;rw[show σ0.nobj-1=z.nobj+2 by omega,show σ0.nobj-2=z.nobj+1 by omega]at ak ay;have HX:Ajs (M[k]?=some x):=hx;have a4:Ajs (a.p=(k:Int)):=ae;clear hx ae am;by_cases ad:Cs a∈x.2
  ·rw[show decide (Cs a∈x.2)=true by simpa using ad]at ak;have HN:Ajs (MkM np (F.take (i+1)) M):=by rw[Ajs,a0.out];exact hI.out.has a4.out HX.out ad
   clear ad hI;have af:Keep z' ((z'.new [ic 0,nilS]).put z'.nobj [ic a.p,sl id a.ts.length (Ac a.ts)]):=((Keep.refl z').new _).put (Agi _) _
   repeat' (first|refine Z1 ?_|(refine Z8 ?_;intro κ hκ)|(refine Z4 ?_;clear hκ κ)|(refine Z2 ?_ ?_<;>intro h ab<;>try exact Xp)|(refine Z5 ?_;refine Xi (ak _ (hM.keep af)) ?_;rintro _ _ ⟨rfl,aj⟩;(have ac:=af.trans aj))|refine Z3 ?_|exact⟨⟩|(apply hκ.out;clear hκ κ))
   refine⟨F.length-(i+1),Ajm,i+1,M,?_⟩
   ((repeat' with_reducible refine And.intro ?_ ?_)<;>first|exact Xq|exact (HN)|exact (hM.keep ac)|exact (ai.trans (KM.ofKeep ac))|exact (by rw[ac.obj _ Ajm,hq])|exact Xs)
  ·rw[show decide (Cs a∈x.2)=false by simpa using ad]at ak;have HN:Ajs (∀id',MkM np (F.take (i+1)) (M.set k (id',x.2++[Cs a]))):=fun id'=>by rw[a0.out];exact hI.out.add a4.out HX.out ad
   clear ad hI;have af:Keep z' ((z'.new [ic 0,nilS]).put z'.nobj [ic a.p,sl id a.ts.length (Ac a.ts)]):=((Keep.refl z').new _).put (Agi _) _;have a6:∀p,p<z'.nobj+1->((z'.new [ic 0,nilS]).put z'.nobj [ic a.p,sl id a.ts.length (Ac a.ts)]).obj p=((z'.new [ic 0,nilS]).put z'.nobj [ic a.p,sl id a.ts.length (Ac a.ts)]).obj p:=fun p _=>rfl;clear a6
   repeat' (first|refine Z1 ?_|(refine Z8 ?_;intro κ hκ)|(refine Z4 ?_;clear hκ κ)|(refine Z2 ?_ ?_<;>intro h ab<;>try exact Xp)|(refine Z5 ?_;first|(refine Xi (ak _ (hM.keep af)) ?_;rintro _ _ ⟨rfl,aj⟩;(have ac:=af.trans aj;have an:=aj.obj;have ao:=aj.nobj;simp only[Ab,Aa]at ao an))|(refine Xi (ay _ (hM.keep ac)) ?_;rintro _ _ ⟨id',a9,ah⟩))|refine Z3 ?_|exact⟨⟩|(apply hκ.out;clear hκ κ))
   rename_i z2 z3;have au:=(ai.trans (KM.ofKeep ac)).trans ah;have a7:z3.obj z.nobj=[nilS,ic 0,ic 0]:=by rw[ah.obj _ Ajm Ajm Ajm,ac.obj _ Ajm,hq]
   refine⟨F.length-(i+1),Ajm,i+1,M.set k (id',x.2++[Cs a]),?_⟩
   ((repeat' with_reducible refine And.intro ?_ ?_)<;>first|exact Xq|exact (HN.out id')|exact (a9)|exact (au)|exact (a7)|exact Xs)
 ·have hil:i=F.length:=Ajm;subst hil;have hI:=hI.out;rw[Agw]at hI;have am:=hI.len;have a8:=hM.ob;rw[am]at a8;have be:=hM.lo;have HI:Ajs _:=hI;have HM:Ajs _:=hM;have a3:Ajs _:=ai;clear hI hM ai am
  repeat' (first|refine Z1 ?_|(refine Z8 ?_;intro κ hκ)|(refine Z4 ?_;clear hκ κ)|(refine Z2 ?_ ?_<;>intro h ab<;>try exact Xp)|refine Z3 ?_|exact⟨⟩|(apply hκ.out;clear hκ κ))
  have ba:=Keep.km az a3.out Ajm Ajm (fun x hx=>by rw[(Ajc.1 hx).2]);refine⟨_,rfl,z.nobj+1,M,rfl,HI.out,ba.put Ajm _,Ajm,?_,fun x hx=>?_⟩
  ·have h:=HM.out.mpt;exact⟨by rw[S0 Ajm];exact h.oc,h.lt,h.live,h.inj,h.t3,h.ln,h.pl⟩
  ·have hnt:=az.ntop;rcases a3.out.mid x hx with⟨y,hy,e⟩|e|e
   ·rw[(Ajc.1 hy).2]at e;exact .inl e.symm
   ·exact .inl e
   ·exact .inr Ajm
def Ca (N:List Tx)(a:RAtom):Df:=⟨(N.idxOf a.pred:Nat),a.terms.map Al⟩
def Dq (N:List Tx)(a:RAtom):Lit:=⟨a.nt,Ca N a⟩
def A4 (N:List Tx)(x:RItem):Dy:=⟨Ca N x.head,x.body.map (Dq N)⟩
theorem F3 (ts:List Tx):Ac (ts.map Al)=Aw ts:=by
 unfold Ac Aw;rw[List.flatMap_map];rfl
theorem nX {N:List Tx}:∀{l:List RAtom} {b:List AV},EL (PL N) l b->EL Qf (l.map (Dq N)) b
 |[],b,h=>h
 |a::l,b,h=>by
  obtain⟨c1,c2,⟨-,ids,rfl⟩,h2,rfl⟩:=h;exact⟨_,c2,⟨ids,by simp[Dq,Ca,F3]⟩,nX h2,rfl⟩
theorem Aai {N:List Tx}{x:RItem}{c:List AV}(h:PI N x c):aP (A4 N x) c:=by
 obtain⟨hm,ih,id,b,hb,rfl⟩:=h;exact⟨x.out,ih,id,b,by simp[A4,Ca,F3],nX hb⟩
def LstF (R:List Dy)(F:List Df):Cu:=fun k t=>∀D:Cu,ClD R D->(∀a∈F,D a.p.toNat (Cs a))->D k t
theorem LstF.cl (R:List Dy)(F:List Df):ClD R (LstF R F):=fun r hr ν h D hD hF=>hD r hr ν (fun l hl=>h l hl D hD hF)
theorem LstF.fact {R:List Dy}{F:List Df}{a:Df}(h:a∈F):LstF R F a.p.toNat (Cs a):=fun D _ hF=>hF a h
theorem Afl {np:Nat}{ar:Nat->Nat}{R:List Dy}(h:∀r∈R,RW np ar r)(hp:∀r∈R,∀l∈r.body,l.neg=false):ClD R (Sh ar):=(cP (N:=Sh ar) hp).1 (bD h)
def uB (R:List Dy)(F:List Df)(k:Nat)(h:Bc)(b:Bool):Prop:=
 ∃M:MM,(∀x∈M,x.2.Nodup)/\(∀j t,MD M j t->LstF R F j t)/\(if tot M<=200 then (∀j t,LstF R F j t->MD M j t)/\(b=true↔MD M k h)else b=false)
theorem GroA.nodup {D:Cu}{M M':MM}{d d':Int}(h:GroA D M M' d d')(hn:∀x∈M,x.2.Nodup):∀x∈M',x.2.Nodup:=fun x hx=>by
 obtain⟨k,hk⟩:=List.getElem?_of_mem hx;obtain⟨nw,e,h1,h2⟩:=h.ext k;rw[B8 hk]at e;have aa:k<M.length:=by rw[<-h.len];exact (List.getElem?_eq_some_iff.1 hk).1
 have hg:M[k]?=some M[k]:=List.getElem?_eq_getElem aa;rw[B8 hg]at e;rw[e,Aiw];refine⟨hn _ (Ah6 aa),h1,fun a ha b hb e2=>?_⟩;have:=(h2 b hb).2;rw[B8 hg]at this;exact this (e2 ▸ ha)
theorem Abu {R:List Dy}{F:List Df}{np:Nat}{M M':MM}{d':Int}{k:Nat}{h:Bc}{b:Bool}(hM:MkM np F M)(ab:∀a∈F,∃k:Nat,a.p=(k:Int))(hG:GroA (LstF R F) M M' 0 d')(hc:¬(200-tot M)<d'->ClD R (MD M'))(hb:if d'<=200-tot M then (b=true↔MD M' k h)else b=false):uB R F k h b:=by
 refine⟨M',hG.nodup hM.nd,fun j t hj=>?_,?_⟩
 ·refine hG.inD (fun j t hj=>?_) j t hj;obtain⟨a,ha,e1,e2⟩:=(hM.mem j t).1 hj;have:=LstF.fact (R:=R) ha;rw[e1,Ai4]at this;rw[e2];exact this
 ·have ac:=hG.cnt;by_cases h2:tot M'<=200
  ·rw[if_pos h2];rw[if_pos Ajm]at hb;refine⟨fun j t hl=>hl (MD M') (hc Ajm) (fun a ha=>?_),hb⟩;obtain⟨k',aa⟩:=ab a ha;refine hG.sub ?_;rw[aa,Ai4];exact (hM.mem k' _).2 ⟨a,ha,aa,rfl⟩
  ·rw[if_neg h2];rw[if_neg Ajm]at hb;exact hb
def mO (l:List RItem)(s:Nat)(x:RItem):Bool:=!x.out&&(B7 l x.head.pred==s)
def Qd (l:List RItem)(s:Nat):List RItem:=l.filter (mO l s)
def PMi (N:List Tx)(l:List RItem)(B:Cu):Nat->Cu
 |0=>B
 |s+1=>LstG ((Qd l s).map (A4 N)) (PMi N l B s)
structure BkR (N:List Tx)(l:List RItem)(np:Nat)(ar:Nat->Nat):Prop where
 nn:N.length<=np
 hN:∀x∈l,x.head.pred∈N/\∀a∈x.body,a.pred∈N
 kn:∀i,i<l.length->G1 l i=false
 rw':∀x∈l,x.out=false->RW np ar (A4 N x)
theorem yH {N:List Tx}{p q:Tx}(hp:p∈N)(hq:q∈N)(h:N.idxOf p=N.idxOf q):p=q:=by
 have h1:N[N.idxOf p]?=some p:=by rw[List.getElem?_eq_getElem (Ai0.2 hp)];simp
 have h2:N[N.idxOf q]?=some q:=by rw[List.getElem?_eq_getElem (Ai0.2 hq)];simp
 rw[h,h2]at h1;exact (Aiq h1).symm
theorem Zp {l:List RItem}(ho:∀x∈l,x.out=true->x.body=[])(hk:∀i,i<l.length->G1 l i=false)(hl:l.length<=16){x:RItem}(hx:x∈l){a:RAtom}(ha:a∈x.body)(hn:a.nt=true):B7 l a.pred<B7 l x.head.pred:=by
 have hi:=Ev ho (Vh ho hk) hl;have h1:=(hi a.pred (B7 l a.pred)).2 (Agi _);have h2:HH l (B7 l a.pred+1) x.head.pred:=⟨x,hx,.inl rfl,a,ha,hn,h1⟩;exact (hi _ _).1 h2
theorem wK {N:List Tx}{l:List RItem}{np:Nat}{ar:Nat->Nat}(h:BkR N l np ar)(ho:∀x∈l,x.out=true->x.body=[])(hl:l.length<=16)(s:Nat):Apart ((Qd l s).map (A4 N)):=fun r hr k hk hn r' ae e=>by
 obtain⟨x,hx,rfl⟩:=Ahv.1 hr;obtain⟨y,hy,rfl⟩:=Ahv.1 ae;obtain⟨a,ha,rfl⟩:=Ahv.1 hk;obtain⟨aa,ad⟩:=Aip.1 hx;obtain⟨ac,ab⟩:=Aip.1 hy;simp only[mO,Ags,Ajk]at ad ab;simp only[A4,Ca,Dq,Ai4]at e;have e2:=yH (h.hN y ac).1 ((h.hN x aa).2 a ha) e;have:=Zp ho h.kn hl aa ha hn;rw[<-e2]at this;omega
theorem Adi {N:List Tx}{l:List RItem}{np:Nat}{ar:Nat->Nat}(h:BkR N l np ar)(s:Nat):∀r∈(Qd l s).map (A4 N),RW np ar r:=fun r hr=>by
 obtain⟨x,hx,rfl⟩:=Ahv.1 hr;obtain⟨ab,aa⟩:=Aip.1 hx;simp only[mO,Ags]at aa;exact h.rw' x ab (by simpa using aa.1)
theorem PMi.up {N:List Tx}{l:List RItem}{B:Cu}{k:Nat}{t:Bc}:∀{s s':Nat},s<=s'->PMi N l B s k t->PMi N l B s' k t
 |s,0,h,g=>by
  have:s=0:=Ajm;subst this;exact g
 |s,s'+1,h,g=>by
  by_cases e:s=s'+1
  ·subst e;exact g
  ·exact LstG.base (PMi.up (s:=s) (s':=s') Ajm g)
def FolI (N:List Tx)(l:List RItem)(M:MM)(b:Int)(s:Nat)(M1:MM)(d1:Int):Prop:=
 M1.length=M.length/\d1=tot M1-tot M/\
 ((¬b<d1/\(∀k t,MD M1 k t↔PMi N l (MD M) s k t)/\∀x∈M1,x.2.Nodup)\/
  (b<d1/\∃M2:MM,M2.length=M.length/\(∀x∈M2,x.2.Nodup)/\(∀k t,MD M k t->MD M2 k t)/\(∀k t,MD M2 k t->PMi N l (MD M) s k t)/\b<tot M2-tot M))
theorem FolI.start {N:List Tx}{l:List RItem}{M:MM}{b:Int}(hb:0<=b)(hn:∀x∈M,x.2.Nodup):FolI N l M b 0 M 0:=
 ⟨rfl,Ajm,.inl ⟨Ajm,fun k t=>Iff.rfl,hn⟩⟩
theorem Aes {N:List Tx}{l:List RItem}{np:Nat}{ar:Nat->Nat}(h:BkR N l np ar)(ho:∀x∈l,x.out=true->x.body=[])(hl:l.length<=16){M M1:MM}{b d1:Int}{s:Nat}(hI:FolI N l M b s M1 d1)(hS:MSh ar M1)(hp:∀k t,PMi N l (MD M) s k t->Sh ar k t):
  ∃D:Cu,Fol np ar ((Qd l s).map (A4 N)) D/\(∀k t,MD M1 k t->D k t)/\NgIn ((Qd l s).map (A4 N)) D M1/\(∀k t,D k t->Sh ar k t)/\
   ∀M' d',GroA D M1 M' d1 d'->(¬b<d'->ClG ((Qd l s).map (A4 N)) D (MD M'))->FolI N l M b (s+1) M' d':=by
 have hR:=Adi h s;have hA:=wK h ho hl s;obtain⟨e1,e2,h3⟩:=hI;rcases h3 with⟨a1,a2,a3⟩|⟨a1,M2,b1,b2,b3,b4,b5⟩
 ·have hF:=yN (B:=PMi N l (MD M) s) hR hp;refine⟨LstG ((Qd l s).map (A4 N)) (PMi N l (MD M) s),hF,fun k t g=>LstG.base ((a2 k t).1 g),Abw hA (fun k t g=>(a2 k t).2 g),fun k t g=>hF.sh k t g,fun M' d' hG hC=>?_⟩;have hc:=hG.cnt;have ab:∀k t,MD M' k t->PMi N l (MD M) (s+1) k t:=hG.inD (fun k t g=>LstG.base ((a2 k t).1 g));have aa:=hG.nodup a3;refine⟨hG.len.trans e1,Ajm,?_⟩;by_cases hb:b<d'
  ·exact .inr ⟨hb,M',hG.len.trans e1,aa,fun k t g=>hG.sub ((a2 k t).2 (PMi.up (Nat.zero_le s) g)),ab,Ajm⟩
  ·refine .inl ⟨hb,fun k t=>⟨ab k t,fun g=>?_⟩,aa⟩;exact tG hA (fun k t g=>hG.sub ((a2 k t).2 g)) (hC hb) g
 ·have hF:=yO (M:=M1) hR hA;refine⟨DX ar ((Qd l s).map (A4 N)) M1,hF,fun k t g=>⟨hS k t g,fun _=>g⟩,Abx,fun k t g=>g.1,fun M' d' hG hC=>?_⟩;have hc:=hG.cnt;have ac:=(kU M1 M' hG.len hG.lens).1;exact⟨hG.len.trans e1,Ajm,.inr ⟨Ajm,M2,b1,b2,b3,fun k t g=>LstG.base (b4 k t g),b5⟩⟩
theorem lQ {N:List Tx}{l:List RItem}{np:Nat}{ar:Nat->Nat}(h:BkR N l np ar){B:Cu}(hB:∀k t,B k t->Sh ar k t):∀s k t,PMi N l B s k t->Sh ar k t
 |0,k,t,g=>hB k t g
 |s+1,k,t,g=>g.least (lQ h hB s) (bD (Adi h s))
theorem Abe {l:List RItem}{s q:Nat}{y:RItem}(h:l[q]?=some y):(l.take (q+1)).filter (mO l s)=(l.take q).filter (mO l s)++if mO l s y=true then [y]else []:=by
 rw[Agz,h,Aia,Dw]
theorem cH (N:List Tx)(l:List RItem)(cs:List AV)(idn idi:Nat)(np:Nat)(ar:Nat->Nat)(hB:Bk N l cs)(hR:BkR N l np ar)(om ot:Nat)(b:Int)(b8:0<=b)(cj:b<=1000)(M:MM)(hn:M.length=np)(hS:MSh ar M)(b3:∀x∈M,x.2.Nodup)(ht:tot M<=1000)(z:St)(hM:MOb z om ot M 0 b):
  ACalls Tryz.prog 50 [ptr om 0,Bo N idn l idi cs] z fun r z'=>∃M' d',MOb z' om ot M' d' b/\KM om ot M M' z z'/\FolI N l M b (l.length+1) M' d':=by
 have ci:=EL.length De hB.el;have ay:=hB.len;have ck:=hB.nm;have hE:=hB.el;have ba:=fun z=>eW N l cs idn idi hB z;have bl:∀p∈N,Bw N l l.length (N.idxOf p)=B7 l p:=fun p hp=>rJ ay hB.out hR.hN hR.kn hp;have bz:=lQ hR (B:=MD M) hS;generalize Bw N l l.length=cc at ba bl;have lo:=hM.lo;have lt:=hM.lt;unfold Bo at ba⊢;refine Z9 47 [] Tryz.func50 ?_
 repeat' (first|refine Z1 ?_|(refine Z8 ?_;intro κ hκ)|(refine Z4 ?_;clear hκ κ)|(refine Z2 ?_ ?_<;>intro h ae<;>try exact Xp)|(refine Z6 ?_;intro idn zn ai aj ad ab ac aa)|(refine Z5 ?_;refine Xi (ba _) ?_;rintro _ _ ⟨o,rfl,oo,b1,bh,a5⟩;(have aw:=a5.nobj;have am:=a5.obj;simp only[Aa]at aw am b1))|refine Z3 ?_|exact⟨⟩|(apply hκ.out;clear hκ κ))
 rename_i z1;have av:z1.obj z.nobj=[sl idn N.length (N.map str),sl idi l.length cs]:=by rw[am _ Ajm,Ap]
 have bc:Keep z z1:=((Keep.refl z).new _).trans a5
 refine Af (fun m s z'=>∃(q:Nat) (M1:MM) (d1:Int),m=l.length+1-q/\q<=l.length+1/\s 0=ptr om 0/\s 3=ptr z.nobj 0/\s 4=fx o 0 N.length/\s 5=ic q/\MOb z' om ot M1 d1 b/\KM om ot M M1 z z'/\o<z'.nobj/\z'.obj z.nobj=[sl idn N.length (N.map str),sl idi l.length cs]/\z'.obj o=Fv N.length cc/\0<=d1/\d1<=1000000/\Ajs (FolI N l M b q M1 d1/\MSh ar M1)) (l.length+1)
  ⟨0,M,0,Ajm,Ajm,by simp[upd,initS],Ajo,Ajo,Ajo,hM.keep bc,KM.ofKeep bc,bh,av,oo,Ajm,Ajm,FolI.start b8 b3,hS⟩ ?_
 clear bc a5 am aw av oo bh;rintro m s z' ⟨q,M1,d1,rfl,hq,h0,h3,h4,h5,a4,ap,b0,av,oo,ch,b7,hI⟩;have cb:=ap.nobj;have lo1:=a4.lo;have lt1:=a4.lt;by_cases ce:q<=l.length
 ·have cd:(q:Int)<=16:=Ajm
  repeat' (first|refine Z1 ?_|(refine Z8 ?_;intro κ hκ)|(refine Z4 ?_;clear hκ κ)|(refine Z2 ?_ ?_<;>intro h ae<;>try exact Xp)|(refine Z6 ?_;intro idn zn ai aj ad ab ac aa)|refine Z3 ?_|exact⟨⟩|(apply hκ.out;clear hκ κ))
  refine Af (fun m s z2=>∃(j i6:Nat) (L:List RItem) (ys:List AV),m=l.length-j/\j<=l.length/\s 0=ptr om 0/\s 3=ptr z.nobj 0/\s 4=fx o 0 N.length/\s 5=ic q/\s 6=sl i6 L.length ys/\s 20=sl idi l.length cs/\s 21=ic l.length/\s 22=ic j/\Keep z' z2/\Own z' z2 i6 L.length/\ys.length=L.length*4/\L.length<=j/\Ajs (L=(l.take j).filter (mO l q)/\EL aP (L.map (A4 N)) ys)) l.length
   ⟨0,1,[],[],Ajm,Ajm,Ajn,Ajn,Ajn,Ajn,Ajo,Ajn,Ajn,Ajo,Keep.refl _,Own.nil _ _,rfl,by simp,by simp,rfl⟩ ?_
  clear h0 h3 h4 h5;rintro m s z2 ⟨j,i6,L,ys,rfl,hj,h0,h3,h4,h5,h6,cp,co,cn,hK,hO,bv,cm,hL⟩;have bu:=hK.nobj;have oo2:z2.obj o=Fv N.length cc:=by rw[hK.obj _ b0,oo]
  by_cases a7:j<l.length
  ·have ah:=List.getElem?_eq_getElem a7;obtain⟨a3,jh,jd,jb,r2,bi,b6⟩:=En hE ah;generalize l[j]=y at ah bi b6 a3;have au:Ajs _:=Abe (s:=q) ah;have a0:=Aai (PI.of (ih:=jh) (id:=jd) a3 bi);have b5:=Ai0.2 a3;have a9:=Fu cc b5;rw[bl _ a3]at a9;clear ah;cases af:y.out with
   |true=>
    have HN:Ajs (L=(l.take (j+1)).filter (mO l q)/\EL aP (L.map (A4 N)) ys):=⟨by rw[au.out,if_neg (by simp[mO,af]),Ag3];exact hL.out.1,hL.out.2⟩;clear au a0
    repeat' (first|refine Z1 ?_|(refine Z8 ?_;intro κ hκ)|(refine Z4 ?_;clear hκ κ)|(refine Z2 ?_ ?_<;>intro h ae<;>try exact Xp)|(refine Z6 ?_;intro idn zn ai aj ad ab ac aa)|refine Z3 ?_|exact⟨⟩|(apply hκ.out;clear hκ κ))
    refine⟨l.length-(j+1),Ajm,j+1,i6,L,ys,?_⟩
    ((repeat' with_reducible refine And.intro ?_ ?_)<;>first|exact Xq|exact (HN)|exact ((hK.new _).put hK.nobj _)|exact (Own.put (Own.new hO _) _ _)|exact Xs)
   |false=>
    rw[af]at a0;by_cases ax:B7 l y.head.pred=q
    ·have HN:Ajs (L++[y]=(l.take (j+1)).filter (mO l q)/\EL aP ((L++[y]).map (A4 N)) (ys++[sc (.bool false),sc (.int .i64 (N.idxOf y.head.pred:Nat)),sl jh y.head.terms.length (Aw y.head.terms),sl jd y.body.length jb])):=⟨by rw[au.out,if_pos (by simp[mO,af,ax]),hL.out.1],by rw[Ag1];exact EL.append hL.out.2 (EL.single a0)⟩;rw[ax]at a9;clear au a0 ax
     repeat' (first|refine Z1 ?_|(refine Z8 ?_;intro κ hκ)|(refine Z4 ?_;clear hκ κ)|(refine Z2 ?_ ?_<;>intro h ae<;>try exact Xp)|(refine Z6 ?_;intro idn zn ai aj ad ab ac aa)|refine Z3 ?_|exact⟨⟩|(apply hκ.out;clear hκ κ))
     refine Bh (by first|exact Ki) ((hK.new _).put hK.nobj _) (Own.put (Own.new hO _) _ _) (by decide) (by rfl) (bv) (by rfl) (by rfl) (by decide) Ajm Ajm ?_;intro idx zn ai aj ad ab ac aa;refine Z3 ?_
     repeat' (first|refine Z1 ?_|(refine Z8 ?_;intro κ hκ)|(refine Z4 ?_;clear hκ κ)|(refine Z2 ?_ ?_<;>intro h ae<;>try exact Xp)|(refine Z6 ?_;intro idn zn ai aj ad ab ac aa)|refine Z3 ?_|exact⟨⟩|(apply hκ.out;clear hκ κ))
     refine⟨l.length-(j+1),Ajm,j+1,idx,L++[y],ys++[sc (.bool false),sc (.int .i64 (N.idxOf y.head.pred:Nat)),sl jh y.head.terms.length (Aw y.head.terms),sl jd y.body.length jb],?_⟩
     ((repeat' with_reducible refine And.intro ?_ ?_)<;>first|exact Xq|exact (HN)|exact (by rw[Aha];exact ai)|exact Xs)
    ·have HN:Ajs (L=(l.take (j+1)).filter (mO l q)/\EL aP (L.map (A4 N)) ys):=⟨by rw[au.out,if_neg (by simp[mO,af,ax]),Ag3];exact hL.out.1,hL.out.2⟩;have b2:((B7 l y.head.pred:Int)==(q:Int))=false:=by simp;omega
     generalize B7 l y.head.pred=sy at a9 b2;clear au a0 ax
     repeat' (first|refine Z1 ?_|(refine Z8 ?_;intro κ hκ)|(refine Z4 ?_;clear hκ κ)|(refine Z2 ?_ ?_<;>intro h ae<;>try exact Xp)|(refine Z6 ?_;intro idn zn ai aj ad ab ac aa)|refine Z3 ?_|exact⟨⟩|(apply hκ.out;clear hκ κ))
     refine⟨l.length-(j+1),Ajm,j+1,i6,L,ys,?_⟩
     ((repeat' with_reducible refine And.intro ?_ ?_)<;>first|exact Xq|exact (HN)|exact ((hK.new _).put hK.nobj _)|exact (Own.put (Own.new hO _) _ _)|exact Xs)
  ·have b4:j=l.length:=Ajm;subst b4;obtain⟨bb,bo⟩:=hL.out;rw[Agw]at bb;obtain⟨D,hF,a8,a6,bf,an⟩:=Aes hR hB.out ay hI.out.1 hI.out.2 (bz q);have bn:L=Qd l q:=bb;rw[<-bn]at hF a6 an;have az:M1.length=np:=by have:=hI.out.1.1;rw[this];exact hn
   have bg:Room M1 d1 b:=Abi (GroA.refl D M1 d1) (by have:=hI.out.1.2.1;omega);have bq:=fun z (h:MOb z om ot M1 d1 b)=>Jj hF om ot b Ajm Ajm M1 d1 az a8 a6 bg Ajm b7 ys i6 bo (by rw[Aij];omega) z h;rw[Aij]at bq;have be:Ajs (∀M' d',GroA D M1 M' d1 d'->(¬b<d'->ClG (L.map (A4 N)) D (MD M'))->FolI N l M b (q+1) M' d'/\MSh ar M'):=fun M' d' g1 g2=>⟨an M' d' g1 g2,fun k t g=>bf k t (g1.inD a8 k t g)⟩;clear hF a6 an bn bb bo hL a8 bf bg az
   repeat' (first|refine Z1 ?_|(refine Z8 ?_;intro κ hκ)|(refine Z4 ?_;clear hκ κ)|(refine Z2 ?_ ?_<;>intro h ae<;>try exact Xp)|(refine Z6 ?_;intro idn zn ai aj ad ab ac aa)|(refine Z5 ?_;refine Xi (bq _ (a4.keep (Xs))) ?_;rintro _ _ ⟨M',d',b9,ao,bp,cg,cf,bm⟩;(have ca:Ajs _:=be.out M' d' bp bm;clear bp bm;have br:=ao.nobj;have ak:=ao.obj;have bd:=(ap.trans (KM.ofKeep hK)).trans ao))|refine Z3 ?_|exact⟨⟩|(apply hκ.out;clear hκ κ))
   rename_i z7;refine⟨l.length+1-(q+1),Ajm,q+1,M',d',?_⟩;have e1:z7.obj z.nobj=[sl idn N.length (N.map str),sl idi l.length cs]:=by rw[ak _ Ajm Ajm Ajm,hK.obj _ Ajm,av]
   have e2:z7.obj o=Fv N.length cc:=by rw[ak _ Ajm Ajm Ajm,hK.obj _ Ajm,oo]
   clear ak
   ((repeat' with_reducible refine And.intro ?_ ?_)<;>first|exact Xq|exact (b9)|exact (bd)|exact (ca)|exact (e1)|exact (e2)|exact (by rw[hK.obj _ Ajm,av])|exact Xs)
 ·have bw:q=l.length+1:=Ajm;subst bw
  repeat' (first|refine Z1 ?_|(refine Z8 ?_;intro κ hκ)|(refine Z4 ?_;clear hκ κ)|(refine Z2 ?_ ?_<;>intro h ae<;>try exact Xp)|(refine Z6 ?_;intro idn zn ai aj ad ab ac aa)|refine Z3 ?_|exact⟨⟩|(apply hκ.out;clear hκ κ))
  exact⟨_,rfl,M1,d1,a4,ap,hI.out.1⟩
theorem Keep.km2 {σ0 z z':St}{om ot:Nat}{M M':MM}(hK:Keep σ0 z)(h:KM om ot M M' z z')(hm:σ0.nobj<=om)(ht:σ0.nobj<=ot)(hM:∀x∈M,x.1=1\/σ0.ntop+2<=x.1):Keep σ0 z':=
 ⟨Agj hK.nobj h.nobj,fun o ho=>(h.obj o (Agk ho hK.nobj) Ajm Ajm).trans (hK.obj o ho),fun o ho=>(h.ver o (Agk ho hK.nobj) Ajm Ajm).trans (hK.ver o ho),Agj hK.ntop h.ntop,fun k hk=>(h.top k (Agk hk hK.ntop) (fun x hx e=>by rcases hM x hx with h'|h'<;>omega)).trans (hK.top k hk)⟩
theorem kT:∀M:MM,0<=tot M
 |[]=>Ail _
 |y::M=>by rw[Dj];have:=kT M;omega
theorem oZ:∀(M:MM) (k:Nat) (x:Nat×List Bc),M[k]?=some x->(x.2.length:Int)<=tot M
 |[],k,x,h=>by simp at h
 |y::M,k,x,h=>by
  rw[Dj];have hp:=kT M;cases k with
  |zero=>simp at h;subst h;omega
  |succ k=>have:=oZ M k x (by simpa using h);omega
def Gd (N:List Tx)(x:RItem):Dy:=zZ (N.length:Int) (A4 N x)
def Ja (N:List Tx)(x:RItem):List Df:=(Gd N x).body.map fun l=>Ha l.a
structure BkI (N:List Tx)(l:List RItem)(ar:Nat->Nat):Prop where
 b5:∀y∈l,y.body.length<=5
 rw':∀y∈l,y.out=false->RW (2*N.length) ar (Gd N y)
 sm:∀y∈l,y.out=false->Sml (Gd N y).head.ts/\∀k∈(Gd N y).body,Sml k.a.ts
 sh:∀y∈l,y.out=false->∀a∈Ja N y,Sh ar a.p.toNat (Cs a)
theorem Ael (N:List Tx)(p:Tx):N.idxOf p<=N.length:=List.idxOf_le_length
theorem W0 (N:List Tx)(l:List RItem)(cs:List AV)(idn idi n:Nat)(ar:Nat->Nat)(x:RItem)(hB:Bk N l cs)(hI:BkI N l ar)(hx:l[n]?=some x)(a3:x.out=false)(z:St):
  ACalls Tryz.prog 102 [Bo N idn l idi cs,ic n] z fun r z'=>∃b,r=sc (.bool b)/\uB ((oth l n l.length).map (Gd N)) (Ja N x) (Gd N x).head.p.toNat (Cs (Ha (Gd N x).head)) b/\Keep z z':=by
 have ea:=EL.length De hB.el;have dl:=hB.len;have ee:=hB.nm;have hE:=hB.el;have d5:=(List.getElem?_eq_some_iff.1 hx).1;have ax:=Agp hx;obtain⟨hm,ih,id,b,rr,hb,hd⟩:=En hE hx;have ca:∀y c,y∈l->PI N y c->∀z,ACalls Tryz.prog 155 [ag c,ic N.length] z fun r z'=>(∃c',r=ag c'/\aP (Gd N y) c')/\Keep z z':=fun y c hy hc z=>
  Vv (A4 N y) c N.length (Aai hc) (by simp only[A4,Aij];have:=hI.b5 y hy;omega) (fun k hk=>by
   obtain⟨a,-,rfl⟩:=Ahv.1 hk;have:=Ael N a.pred;simp only[Dq,Ca]
   omega) Ajm Ajm z
 have bw:=fun z=>ca x _ ax (PI.of (ih:=ih) (id:=id) hm hb) z;simp only[a3]at bw;have ap:=hI.rw' x ax a3;have ck:(Gd N x).body.length=x.body.length:=by simp[Gd,zZ,A4]
 have eb:=hI.b5 x ax;have b9:=fun c (hc:aP (Gd N x) c) z=>Q7 (Gd N x) c hc Ajm (fun k hk=>⟨ap.rok.ba k hk,(hI.sm x ax a3).2 k hk⟩) z;have bm:(Ja N x).length=(Gd N x).body.length:=by simp[Ja]
 have bn:∀a∈Ja N x,a.ts.length<=3/\∃k:Nat,a.p=(k:Int)/\k<2*N.length:=fun a ha=>by
  obtain⟨k,hk,rfl⟩:=Ahv.1 ha;exact⟨by simp only[Ha,Aij];exact ap.rok.ba k hk,ap.rok.bp k hk⟩
 have a6:=fun cs' idf (hF:EL Mm (Ja N x) cs') z=>Ma (2*N.length) (Ja N x) cs' idf 200 hF Ajm Ajm bn z;rw[bm]at a6;have dk:(2:Int)*(N.length:Int)=((2*N.length:Nat):Int):=Ajm;have d6:(n:Int)<(l.length:Int):=Ajm;generalize cm:Gd N x=RX at bw b9 a6 ck bm bn ap;generalize cx:Ja N x=FX at a6 bm bn;have c6:Ajs _:=cm;have da:Ajs _:=cx;have dp:RX.body.length<=5:=Ajm;have ei:FX.length<=5:=Ajm;clear cm cx ck bm;unfold Bo;refine Z9 66 [.tmp 4] Tryz.func102 ?_
 repeat' (first|refine Z1 ?_|(refine Z8 ?_;intro κ hκ)|(refine Z4 ?_;clear hκ κ)|(refine Z2 ?_ ?_<;>intro h ac<;>try exact Xp)|(refine Z6 ?_;intro idn zn ak au ae ab ad aa)|(refine Z5 ?_;first|(refine Xi (bw _) ?_;rintro _ _ ⟨⟨_,rfl,bi⟩,bu⟩;(have bh:=bi;obtain⟨ro,rih,rib,rbc,rfl,ec⟩:=bi;have bf:=b9 _ bh;have b3:=bu.nobj;simp only[Aa]at b3))|(refine Xi (bf _) ?_;rintro _ _ ⟨⟨idf,fc,rfl,cz⟩,am⟩;(have bg:EL Mm FX fc:=(by rw[<-da.out];unfold Ja;rw[c6.out];exact cz);have a5:=a6 fc idf bg;have b2:=am.nobj;simp only[Ab,Aa]at b2))|(refine Xi (a5 _) ?_;rintro _ _ ⟨ot,M,rfl,br,bd,d4,b4,a7⟩;(have df:=bd.nobj)))|refine Z3 ?_|exact⟨⟩|(apply hκ.out;clear hκ κ))
 rename_i z1 z2 z3;obtain⟨z4,a0⟩:∃τ,τ=((z3.new [nilS,ic 0,ic 0]).put z3.nobj [fx ot 0 (2*N.length),ic 0,ic 200]):=⟨_,rfl⟩;rw[<-a0];have ct:Keep z z1:=((Keep.refl z).new _).trans bu;have b8:Keep z z2:=((ct.new _).put Ajm _).trans am;have cr:Keep z z3:=b8.trans bd;have af:Keep z3 z4:=by rw[a0];exact ((Keep.refl z3).new _).put (Agi _) _
 have cv:Keep z z4:=cr.trans af;have n4:z4.nobj=z3.nobj+1:=by rw[a0];rfl
 have a8:=br.len;have cd:z4.obj z1.nobj=[sc (.bool ro),ic RX.head.p,sl rih RX.head.ts.length (Ac RX.head.ts),sl rib RX.body.length rbc]:=by rw[af.obj _ Ajm,bd.obj _ Ajm,am.obj _ Ajr,Ak]
 have obk:z4.obj z.nobj=[sl idn N.length (N.map str),sl idi l.length cs]:=by rw[af.obj _ Ajm,bd.obj _ Ajm,am.obj _ Ajr,Ai Ajm,Ag Ajm,bu.obj _ Ajq,Ap]
 have di:=b4.lt;have a9:MOb z4 z3.nobj ot M 0 200:=(b4.keep af).mob (by rw[a0,Ak,a8]) Ajm Ajm;have dr:∀y∈M,y.1=1\/z.ntop+2<=y.1:=fun y hy=>by have:=b8.ntop;rcases a7 y hy with h|h<;>omega
 have d3:=kT M;have d2:tot M<=5:=by have:=br.tot;omega
 have c5:=P2 z3.nobj ot M 0 200 z4 a9;have bo:=fun (id:Nat) z=>L8 (Hs M) id (by rw[I5];omega) (fun n hn=>by have:=P4 a9 n hn;omega) z;rw[show (Hs M).sum=tot M from rfl]at bo;rw[I5,a8]at bo;have a4:=a9.ob;have c8:Ajs _:=br;have c9:Ajs _:=a9;clear a0 bu am bd ct b8 cr b4 a7 br a9 cz bg a5 a6 b9 bf bw bh;refine Bu (Q:=fun e s' z''=>e= .normal/\s' 1=ic n/\s' 2=ptr z.nobj 0/\s' 5=ic N.length/\s' 6=ptr z1.nobj 0/\s' 7=ptr z3.nobj 0/\Keep z z''/\z3.nobj<z''.nobj/\z''.obj z.nobj=[sl idn N.length (N.map str),sl idi l.length cs]/\z''.obj z1.nobj=[sc (.bool ro),ic RX.head.p,sl rih RX.head.ts.length (Ac RX.head.ts),sl rib RX.body.length rbc]/\MOb z'' z3.nobj ot M 0 (200-tot M)) ?_ ?_
 ·refine A2 Aj (fun _=>True) [6] [0,1] 5 #[true,true,false,false,false,false,false] Ajp (fun _ _ _ h=>by cases h.1) ?_;intro κ hκ;refine Z3 ?_;refine hκ.out _ ?_;clear hκ κ;refine Ao (i:=2) Ajp ?_;refine Ar ?_;intro κ hκ;refine Z3 ?_;refine ACalls.mono c5 ?_;rintro _ z5 ⟨⟨ic0,rfl⟩,bc⟩;refine Z3 ?_;refine hκ.out _ _ ⟨Aq bc,?_⟩;clear hκ κ;refine Ao (i:=3) Ajp ?_;refine Ar ?_;intro κ hκ;refine Z3 ?_;refine ACalls.mono (bo _ _) ?_;rintro _ z6 ⟨rfl,dv⟩;have aj:=bc.trans dv;have b1:=aj.nobj;have d0:z6.obj z3.nobj=[fx ot 0 M.length,ic 0,ic 200]:=by rw[aj.obj _ Ajm,a4]
  refine Z3 ?_;refine hκ.out _ _ ⟨Aq aj,?_⟩;clear hκ κ;refine Ao (i:=4) Ajp ?_;refine Ar ?_;intro κ hκ;refine Z3 ?_;refine hκ.out _ _ ⟨Aq aj,?_⟩;clear hκ κ;refine Ao (i:=5) Ajp ?_;refine Ar ?_;intro κ hκ;refine Z3 ?_;refine hκ.out _ _ ⟨Aq aj,?_⟩;clear hκ κ;refine Ao (i:=6) Ajp ?_;refine Ar ?_;intro κ hκ;refine Z3 ?_;refine hκ.out _ _ ⟨Bs rfl,?_⟩;clear hκ κ;refine A3 Ajp ⟨rfl,by simp[upd,initS],Ajo,Ajo,Ajo,Ajo,(cv.trans aj).put Ajm _,by simp only[Ab];omega,?_,?_,?_⟩
  ·rw[Ai Ajm,aj.obj _ Ajm,obk]
  ·rw[Ai Ajm,aj.obj _ Ajm,cd]
  ·have hm:=(c9.out.keep aj).mpt;exact MPt.mob ⟨by rw[Ai Ajm];exact hm.oc,hm.lt,hm.live,hm.inj,hm.t3,hm.ln,hm.pl⟩ (by rw[Ak,a8]) (by simp only[Ab];omega) Ajm
 ·rintro e s z5 ⟨rfl,g1,g2,g5,g6,g7,bc,d7,obk5,b0,co⟩;clear c5 bo a4 c9 cv af cd obk n4;have de:=bc.nobj;have dy:Ajs _:=co;clear co
  repeat' (first|refine Z1 ?_|(refine Z8 ?_;intro κ hκ)|(refine Z4 ?_;clear hκ κ)|(refine Z2 ?_ ?_<;>intro h ac<;>try exact Xp)|(refine Z6 ?_;intro idn zn ak au ae ab ad aa)|refine Z3 ?_|exact⟨⟩|(apply hκ.out;clear hκ κ))
  refine Af (fun m s z'=>∃(q i8:Nat) (L:List RItem) (ys:List AV),m=l.length-q/\q<=l.length/\s 1=ic n/\s 5=ic N.length/\s 6=ptr z1.nobj 0/\s 7=ptr z3.nobj 0/\s 8=sl i8 L.length ys/\s 34=sl idi l.length cs/\s 35=ic l.length/\s 36=ic q/\Keep z5 z'/\Own z5 z' i8 L.length/\ys.length=L.length*4/\L.length<=q/\Ajs (L=oth l n q/\EL aP (L.map (Gd N)) ys)) l.length
   ⟨0,1,[],[],Ajm,Ajm,Ajn,Ajn,Ajn,Ajn,Ajo,Ajo,Ajo,Ajo,Keep.refl _,Own.nil _ _,rfl,by simp,by simp[oth],rfl⟩ ?_
  clear g1 g2 g5 g6 g7;rintro m s z6 ⟨q,i8,L,ys,rfl,hq,h1,h5,h6,h7,h8,em,ek,ej,hK,hO,d1,eg,hL⟩;have dd:=hK.nobj;by_cases ch:q<l.length
  ·have ah:=List.getElem?_eq_getElem ch;obtain⟨cg,jh,jd,jb,r2,ci,dm⟩:=En hE ah;have ce:=Ah6 ch;generalize l[q]=y at ah ci dm cg ce;have az:Ajs _:=xI (n:=n) ah;have bv:=fun z=>ca y _ ce (PI.of (ih:=jh) (id:=jd) cg ci) z;clear ah;by_cases ay:q=n
   ·have dj:((q:Int) !=(n:Int))=false:=by simp[ay]
    have HN:Ajs (L=oth l n (q+1)/\EL aP (L.map (Gd N)) ys):=⟨by rw[az.out,if_pos (.inl ay),Ag3];exact hL.out.1,hL.out.2⟩;clear ay az bv
    repeat' (first|refine Z1 ?_|(refine Z8 ?_;intro κ hκ)|(refine Z4 ?_;clear hκ κ)|(refine Z2 ?_ ?_<;>intro h ac<;>try exact Xp)|(refine Z6 ?_;intro idn zn ak au ae ab ad aa)|refine Z3 ?_|exact⟨⟩|(apply hκ.out;clear hκ κ))
    refine⟨l.length-(q+1),Ajm,q+1,i8,L,ys,?_⟩
    ((repeat' with_reducible refine And.intro ?_ ?_)<;>first|exact Xq|exact (HN)|exact ((hK.new _).put hK.nobj _)|exact (Own.put (Own.new hO _) _ _)|exact Xs)
   ·have dj:((q:Int) !=(n:Int))=true:=by simp;omega
    cases an:y.out with
    |true=>
     have HN:Ajs (L=oth l n (q+1)/\EL aP (L.map (Gd N)) ys):=⟨by rw[az.out,if_pos (.inr an),Ag3];exact hL.out.1,hL.out.2⟩;clear ay az bv
     repeat' (first|refine Z1 ?_|(refine Z8 ?_;intro κ hκ)|(refine Z4 ?_;clear hκ κ)|(refine Z2 ?_ ?_<;>intro h ac<;>try exact Xp)|(refine Z6 ?_;intro idn zn ak au ae ab ad aa)|refine Z3 ?_|exact⟨⟩|(apply hκ.out;clear hκ κ))
     refine⟨l.length-(q+1),Ajm,q+1,i8,L,ys,?_⟩
     ((repeat' with_reducible refine And.intro ?_ ?_)<;>first|exact Xq|exact (HN)|exact ((hK.new _).put hK.nobj _)|exact (Own.put (Own.new hO _) _ _)|exact Xs)
    |false=>
     simp only[an]at bv;have HN:Ajs (∀c',aP (Gd N y) c'->L++[y]=oth l n (q+1)/\EL aP ((L++[y]).map (Gd N)) (ys++c')):=fun c' dn=>⟨by rw[az.out,if_neg (by simp[ay,an]),hL.out.1],by rw[Ag1];exact EL.append hL.out.2 (EL.single dn)⟩;clear ay az
     repeat' (first|refine Z1 ?_|(refine Z8 ?_;intro κ hκ)|(refine Z4 ?_;clear hκ κ)|(refine Z2 ?_ ?_<;>intro h ac<;>try exact Xp)|(refine Z6 ?_;intro idn zn ak au ae ab ad aa)|(refine Z5 ?_;refine Xi (bv _) ?_;rintro _ _ ⟨⟨_,rfl,bi⟩,am⟩;(have dx:Ajs _:=HN.out _ bi;obtain⟨ro2,rih2,rib2,rbc2,rfl,-⟩:=bi;have eh:=((hK.new _).put hK.nobj _).trans am;have ed:=Own.keep (Own.put (Own.new hO _) _ _) am))|refine Z3 ?_|exact⟨⟩|(apply hκ.out;clear hκ κ))
     refine⟨l.length-(q+1),Ajm,q+1,idn,L++[y],ys++[sc (.bool ro2),ic (Gd N y).head.p,sl rih2 (Gd N y).head.ts.length (Ac (Gd N y).head.ts),sl rib2 (Gd N y).body.length rbc2],?_⟩
     ((repeat' with_reducible refine And.intro ?_ ?_)<;>first|exact Xq|exact (dx)|exact (by rw[Aha];exact ak)|exact Xs)
  ·have dh:q=l.length:=Ajm;subst dh;obtain⟨b7,cp⟩:=hL.out;have ao:∀r∈L.map (Gd N),RW (2*N.length) ar r:=fun r hr=>by
    obtain⟨y,hy,rfl⟩:=Ahv.1 hr;rw[b7]at hy;exact hI.rw' y (Pn hy).1 (Pn hy).2
   have ai:∀r∈L.map (Gd N),∀k∈r.body,k.neg=false:=fun r hr k hk=>by
    obtain⟨y,hy,rfl⟩:=Ahv.1 hr;obtain⟨k0,-,rfl⟩:=Ahv.1 hk;unfold F5;split
    ·rfl
    ·rename_i h;simpa using h
   have be:Fol (2*N.length) ar (L.map (Gd N)) (LstF (L.map (Gd N)) FX):=⟨ao,(cP ai).2 (LstF.cl _ _),fun k t h=>h (Sh ar) (Afl ao ai) (fun a ha=>hI.sh x ax a3 a (by rw[da.out];exact ha))⟩;have cn:∀k t,MD M k t->LstF (L.map (Gd N)) FX k t:=fun k t hk=>by
    obtain⟨a,ha,e1,e2⟩:=(c8.out.mem k t).1 hk;have:=LstF.fact (R:=L.map (Gd N)) ha;rw[e1,Ai4]at this;rw[e2];exact this
   have dq:Room M 0 (200-tot M):=fun y hy=>by
    obtain⟨k,hk⟩:=List.getElem?_of_mem hy;have:=oZ M k y hk;omega
   have cy:=fun z (h:MOb z z3.nobj ot M 0 (200-tot M))=>Jj be z3.nobj ot (200-tot M) Ajm Ajm M 0 a8 cn (fun r hr k hk hn=>by rw[ai r hr k hk]at hn;cases hn) dq Ajm Ajm ys i8 cp (by rw[Aij];omega) z h;rw[Aij]at cy;have ds:MOb z6 z3.nobj ot M 0 (200-tot M):=dy.out.keep hK;have bz:z6.obj z1.nobj=[sc (.bool ro),ic RX.head.p,sl rih RX.head.ts.length (Ac RX.head.ts),sl rib RX.body.length rbc]:=by rw[hK.obj _ Ajm,b0]
   have dt:=bc.trans hK;have dz:Ajs _:=b7;have c7:Ajs (∀(M':MM) (d':Int) (bb:Bool),GroA (LstF (L.map (Gd N)) FX) M M' 0 d'->(¬(200-tot M)<d'->ClD (L.map (Gd N)) (MD M'))->(if d'<=200-tot M then (bb=true↔MD M' RX.head.p.toNat (Cs (Ha RX.head)))else bb=false)->uB ((oth l n l.length).map (Gd N)) FX RX.head.p.toNat (Cs (Ha RX.head)) bb):=fun M' d' bb h1 h2 h3=>by
    rw[<-dz.out];exact Abu c8.out (fun a ha=>⟨_,(bn a ha).2.choose_spec.1⟩) h1 h2 h3
   have dw:=fun z=>P0 RX.head.p rih RX.head.ts (by have:=ap.rok.hd;omega) (by have:=(hI.sm x ax a3).1;rw[c6.out]at this;exact this) z;clear b7 cp be cn hL ca ao
   repeat' (first|refine Z1 ?_|(refine Z8 ?_;intro κ hκ)|(refine Z4 ?_;clear hκ κ)|(refine Z2 ?_ ?_<;>intro h ac<;>try exact Xp)|(refine Z6 ?_;intro idn zn ak au ae ab ad aa)|(refine Z5 ?_;refine Xi (cy _ ds) ?_;rintro _ _ ⟨M',d',b6,av,cw,d9,-,cj⟩;(have cb:Ajs _:=cw;have db:Ajs _:=fun h=>(cP ai).1 (cj h);clear cw cj))|refine Z3 ?_|exact⟨⟩|(apply hκ.out;clear hκ κ))
   rename_i z7;have b1:=av.nobj;have dc:z7.obj z1.nobj=[sc (.bool ro),ic RX.head.p,sl rih RX.head.ts.length (Ac RX.head.ts),sl rib RX.body.length rbc]:=by rw[av.obj _ Ajm Ajm Ajm,bz]
   have cq:Keep z z7:=Keep.km2 dt av Ajm Ajm dr;have bq:=Kz z3.nobj ot M' d' (200-tot M);by_cases cf:200-tot M<d'
   ·rw[show decide (200-tot M<d')=true by simpa using cf]at bq;have HR:Ajs _:=c7.out M' d' false cb.out db.out (by rw[if_neg Ajm])
    repeat' (first|refine Z1 ?_|(refine Z8 ?_;intro κ hκ)|(refine Z4 ?_;clear hκ κ)|(refine Z2 ?_ ?_<;>intro h ac<;>try exact Xp)|(refine Z6 ?_;intro idn zn ak au ae ab ad aa)|(refine Z5 ?_;refine Xi (bq _ b6) ?_;rintro _ _ ⟨rfl,rfl⟩)|refine Z3 ?_|exact⟨⟩|(apply hκ.out;clear hκ κ))
    first|exact⟨_,rfl,false,rfl,HR.out,cq⟩|exact⟨_,rfl,false,rfl,HR.out⟩
   ·rw[show decide (200-tot M<d')=false by simpa using cf]at bq;obtain⟨k,hk,d8⟩:=ap.rok.hp;have ef:M'.length=2*N.length:=by rw[cb.out.len];exact a8
    have bl:=List.getElem?_eq_getElem (l:=M') (i:=k) Ajm;generalize M'[k]'Ajm=x' at bl;have aw:=fun id z (h:MOb z z3.nobj ot M' d' (200-tot M))=>I0 z3.nobj ot M' d' (200-tot M) (Ha RX.head) id k x' (by simp only[Ha,Aij];exact ap.rok.hd) hk bl z h
    have HR:Ajs (uB ((oth l n l.length).map (Gd N)) FX RX.head.p.toNat (Cs (Ha RX.head)) (decide (Cs (Ha RX.head)∈x'.2))):=c7.out M' d' _ cb.out db.out (by
     rw[if_pos Ajm,hk,Ai4];unfold MD;rw[B8 bl]
     simp)
    generalize decide (Cs (Ha RX.head)∈x'.2)=bb at aw HR;simp only[Ha,Aij]at aw;clear bl hk
    repeat' (first|refine Z1 ?_|(refine Z8 ?_;intro κ hκ)|(refine Z4 ?_;clear hκ κ)|(refine Z2 ?_ ?_<;>intro h ac<;>try exact Xp)|(refine Z6 ?_;intro idn zn ak au ae ab ad aa)|(refine Z5 ?_;first|(refine Xi (bq _ b6) ?_;rintro _ _ ⟨rfl,rfl⟩)|(refine Xi (dw _) ?_;rintro _ _ ⟨⟨idh,rfl⟩,cu⟩)|(refine Xi (aw _ _ (b6.keep cu)) ?_;rintro _ _ ⟨rfl,du⟩))|refine Z3 ?_|exact⟨⟩|(apply hκ.out;clear hκ κ))
    first|exact⟨_,rfl,_,rfl,HR.out,(cq.trans cu).trans du⟩|exact⟨_,rfl,_,rfl,HR.out⟩
theorem pV {α:Type}:∀{l m:List α},l.Nodup->(∀a∈l,a∈m)->l.length<=m.length
 |[],m,_,_=>by simp
 |a::l,m,h,hs=>by
  obtain⟨s,t,rfl⟩:=List.append_of_mem (hs a (by simp));have hn:=Aig.1 h
  have:=pV (l:=l) (m:=s++t) hn.2 (fun b hb=>by
   have:=hs b (by simp[hb]);rcases Ahs.1 this with h'|h'
   ·exact Ajd _ h'
   ·rcases Ahm.1 h' with rfl|h'
    ·exact absurd hb hn.1
    ·exact Aje _ h')
  simp only[Ahj,Aha]at this⊢;omega
theorem Qx {α β:Type}{f:α->β}:∀{l:List α},l.Nodup->(∀a∈l,∀b∈l,f a=f b->a=b)->(l.map f).Nodup
 |[],_,_=>Aii
 |a::l,h,hi=>by
  have hn:=Aig.1 h;rw[Ag5,Aig];refine⟨fun hm=>?_,Qx hn.2 fun b hb c hc=>hi b (by simp[hb]) c (by simp[hc])⟩;obtain⟨b,hb,e⟩:=Ahv.1 hm;have:=hi b (by simp[hb]) a (by simp) e;exact hn.1 (this ▸ hb)
def L9:Nat->MM->List (Nat×Bc)
 |_,[]=>[]
 |k,x::M=>x.2.map (fun t=>(k,t))++L9 (k+1) M
theorem aA:∀(M:MM) (k:Nat),((L9 k M).length:Int)=tot M
 |[],k=>rfl
 |x::M,k=>by rw[L9,Dj,<-aA M (k+1)];simp
theorem Q6:∀(M:MM) (k j:Nat) (t:Bc),(j,t)∈L9 k M↔k<=j/\MD M (j-k) t
 |[],k,j,t=>by simp[L9,MD,Ay]
 |x::M,k,j,t=>by
  rw[L9,Ahs,Q6 M (k+1) j t];unfold MD Ay;simp only[Ai4];constructor
  ·rintro (h|⟨h1,h2⟩)
   ·obtain⟨u,hu,e⟩:=Ahv.1 h;cases e;simpa using hu
   ·refine⟨Ajm,?_⟩;rw[show j-k=(j-(k+1))+1 by omega,List.getElem?_cons_succ];exact h2
  ·rintro⟨h1,h2⟩;by_cases e:j=k
   ·subst e;left;rw[Ahz,List.getElem?_cons_zero]at h2;exact Ahv.2 ⟨t,by simpa using h2,rfl⟩
   ·right;rw[show j-k=(j-(k+1))+1 by omega,List.getElem?_cons_succ]at h2;exact⟨Ajm,h2⟩
theorem Rw:∀(M:MM) (k:Nat),(∀x∈M,x.2.Nodup)->(L9 k M).Nodup
 |[],k,_=>Aii
 |x::M,k,h=>by
  rw[L9,Aiw];refine⟨Qx (h x (by simp)) (fun a _ b _ e=>by cases e;rfl),Rw M (k+1) (fun y hy=>h y (by simp[hy])),fun a ha b hb e=>?_⟩;obtain⟨t,-,rfl⟩:=Ahv.1 ha;obtain⟨j,u⟩:=b;cases e;have:=((Q6 M (k+1) k t).1 hb).1;omega
theorem Ad5 {M:MM}{α:Type}{A:List α}{e:α->Nat×Bc}(hn:∀x∈M,x.2.Nodup)(h:∀k t,MD M k t->∃a∈A,e a=(k,t)):tot M<=A.length:=by
 have hc:∀p∈L9 0 M,∃a∈A,e a=p:=fun p hp=>by
  obtain⟨k,t⟩:=p;exact h k t ((Q6 M 0 k t).1 hp).2
 have hg:∃g:Nat×Bc->Option α,∀p∈L9 0 M,∃a∈A,g p=some a/\e a=p:=by
  refine⟨fun p=>Classical.epsilon fun o=>∃a∈A,o=some a/\e a=p,fun p hp=>?_⟩;obtain⟨a,ha,he⟩:=hc p hp;have:=Classical.epsilon_spec (p:=fun o=>∃a∈A,o=some a/\e a=p) ⟨some a,a,ha,rfl,he⟩;exact this
 obtain⟨g,hg⟩:=hg
 have h1:((L9 0 M).map g).Nodup:=Qx (Rw M 0 hn) (fun p hp q hq aa=>by
  obtain⟨a,-,h1,h2⟩:=hg p hp;obtain⟨b,-,h3,h4⟩:=hg q hq;rw[h1,h3]at aa;cases aa
  exact h2.symm.trans h4)
 have h2:=pV (m:=A.map some) h1 (fun o ho=>by
  obtain⟨p,hp,rfl⟩:=Ahv.1 ho;obtain⟨a,ha,h1,-⟩:=hg p hp
  rw[h1];exact Ahv.2 ⟨a,ha,rfl⟩)
 rw[Aij,Aij]at h2;rw[<-aA M 0];omega
theorem Qk {l m:List Int}(hl:l.length=m.length)(h3:l.length<=3)(h:C5 l=C5 m):l=m:=by
 refine Ag4 fun i=>?_;by_cases hi:i<l.length
 ·unfold C5 at h;simp only[Ajb,and_true]at h;obtain⟨e0,e1,e2⟩:=h;have h1:=List.getElem?_eq_getElem hi;have h2:=List.getElem?_eq_getElem (l:=m) (i:=i) Ajm;have:i=0\/i=1\/i=2:=Ajm;rcases this with rfl|rfl|rfl
  ·rw[h1,h2]at e0;rw[h1,h2];exact congrArg some e0
  ·rw[h1,h2]at e1;rw[h1,h2];exact congrArg some e1
  ·rw[h1,h2]at e2;rw[h1,h2];exact congrArg some e2
 ·rw[List.getElem?_eq_none Ajm,List.getElem?_eq_none Ajm]
end Go.Proofs.YtmoeoppbmhfbpabGreatDoorL
