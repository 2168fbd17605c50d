import Derived.Test.YtmoeoppbmhfbpabGreatDoorMTelB
import Derived.Test.YtmoeoppbmhfbpabGreatDoorMOptH
import Derived.Test.YtmoeoppbmhfbpabGreatDoorMEngR
import Derived.Test.YtmoeoppbmhfbpabGreatDoorLFacts
import Derived.Test.YtmoeoppbmhfbpabGreatDoorLOptA
set_option maxHeartbeats 64000000
set_option maxRecDepth 100000
set_option linter.all false
namespace Go.Proofs.YtmoeoppbmhfbpabGreatDoorL
open Go.Abs
def Agc (l:List RItem):Prop:=∀x∈l,x.out=true->x.body=[]
structure Rgt (l:List RItem):Prop where
 out:Agc l
 loo:kH l
 len:l.length<=16
section
variable {l l':List RItem}
theorem rP (hr:Rgt l)(p:Tx):B6 l p<=l.length:=kJ hr.loo ((Eu hr.out hr.loo hr.len p _).2 (Agn _))
theorem Uo {s:Nat}{x:RItem}(hx:x∈Qd l s):x∈l/\x.out=false/\B6 l x.head.pred=s:=by
 obtain⟨h1,h2⟩:=Ai7.1 hx;unfold mT at h2;simp only[Ag3,Ajo,Aj4]at h2;exact⟨h1,h2.1,h2.2⟩
structure Agd (N:List Tx)(l:List RItem)(F:List RAtom):Prop where
 it:∀y∈l,y.head.pred∈N/\∀a∈y.body,a.pred∈N
 fa:∀a∈F,a.pred∈N
variable {N N':List Tx} {F F':List RAtom} {M M':MM}
theorem xY (hN:Agd N l F)(aa:Agd N' l' F')(hF:∀a,a∈F↔a∈F')(hM:MkM N.length (F.map (B9 N)) M)(ab:MkM N'.length (F'.map (B9 N')) M'){k:Nat}{t:Bb}(h:MD M k t):∃p,p∈N/\p∈N'/\k=N.idxOf p/\MD M' (N'.idxOf p) t:=by
 obtain⟨b,hb,e1,e2⟩:=(hM.mem k t).1 h;obtain⟨a,ha,rfl⟩:=Aib.1 hb;have e3:k=N.idxOf a.pred:=by simp only[B9]at e1;omega
 exact⟨a.pred,hN.fa a ha,aa.fa a ((hF a).1 ha),e3,(ab.mem _ t).2 ⟨B9 N' a,Aib.2 ⟨a,(hF a).1 ha,rfl⟩,rfl,e2⟩⟩
end
def prs:List Tx->MM->List (Tx×Bb)
 |_,[]=>[]
 |N,x::M=>x.2.map (fun t=>(N.headD [],t))++prs N.tail M
theorem bO:∀(N:List Tx) (M:MM),((prs N M).length:Int)=tot M
 |_,[]=>rfl
 |N,x::M=>by
  have:=bO N.tail M;rw[Di];unfold prs;rw[Aho,Ai1];omega
theorem Kb (N:List Tx)(k:Nat):N.tail.getD k []=N.getD (k+1) []:=by cases N<;>simp
theorem prsF_mem {p:Tx}{t:Bb}:∀{N:List Tx} {M:MM},(p,t)∈prs N M↔∃k:Nat,N.getD k []=p/\MD M k t
 |N,[]=>by
  constructor
  ·intro h;cases h
  ·rintro⟨k,-,h⟩;simp[MD,Ax]at h
 |N,x::M=>by
  unfold prs;rw[Ah8,Aib,prsF_mem];constructor
  ·rintro (⟨u,hu,e⟩|⟨k,e,h⟩)
   ·cases e;exact⟨0,by cases N<;>rfl,hu⟩
   ·exact⟨k+1,by rw[<-Kb];exact e,by unfold MD Ax at*;simpa using h⟩
  ·rintro⟨k,e,h⟩;cases k with
   |zero=>exact .inl ⟨t,h,by rw[<-e];cases N<;>rfl⟩
   |succ k=>exact .inr ⟨k,by rw[Kb];exact e,by unfold MD Ax at*;simpa using h⟩
theorem Zf:∀{N:List Tx} {M:MM},(∀x∈M,x.2.Nodup)->(∀k k' t t',MD M k t->MD M k' t'->N.getD k []=N.getD k' []->k=k')->(prs N M).Nodup
 |N,[],_,_=>Ai0
 |N,x::M,h,hd=>by
  unfold prs;have shf:∀k t,MD M k t->MD (x::M) (k+1) t:=fun k t g=>by unfold MD Ax at*;simpa using g
  refine Ajf.2 ⟨?_,Zf (fun y hy=>h y (by simp[hy])) (fun k k' t t' g g' e=>?_),?_⟩
  ·have:=h x (by simp);unfold List.Nodup at*
   rw[List.pairwise_map];exact this.imp (fun aa e=>aa (by cases e;rfl))
  ·have:=hd (k+1) (k'+1) t t' (shf k t g) (shf k' t' g') (by rw[<-Kb,<-Kb];exact e);omega
  ·rintro⟨p,t⟩ h1 ⟨q,u⟩ h2 e;cases e;obtain⟨v,hv,e⟩:=Aib.1 h1;cases e;obtain⟨k,e,g⟩:=prsF_mem.1 h2;have:=hd 0 (k+1) t t hv (shf k t g) (by rw[<-Kb,e];cases N<;>rfl);omega
theorem nK {N N':List Tx}{M M':MM}(aa:∀x∈M,x.2.Nodup)(hs:∀k t,MD M k t->∃p,p∈N/\p∈N'/\k=N.idxOf p/\MD M' (N'.idxOf p) t):tot M<=tot M':=by
 rw[<-bO N M,<-bO N' M'];have:=lZ (prs N M) (prs N' M') (Zf aa (fun k k' t t' g g' e=>?_)) (fun⟨p,t⟩ h=>?_)
 ·omega
 ·obtain⟨p,h1,-,rfl,-⟩:=hs k t g;obtain⟨q,h2,-,rfl,-⟩:=hs k' t' g';rw[L6 h1,L6 h2]at e;rw[e]
 ·obtain⟨k,e,g⟩:=prsF_mem.1 h;obtain⟨q,h1,h2,rfl,g'⟩:=hs k t g;rw[L6 h1]at e;subst e;exact prsF_mem.2 ⟨_,L6 h2,g'⟩
def R6 (T:Tx->List Bb)(acc:Tx×List Tx)(x:RItem):Tx×List Tx:=if x.out=true/\x.head.pred∉acc.2 then (acc.1++(T x.head.pred).flatMap (Hy x.head.pred),acc.2++[x.head.pred])else acc
def vU (T:Tx->List Bb)(l:List RItem):Tx:=(l.foldl (R6 T) ([],[])).1
theorem O8 {N:List Tx}{rk:Nat->List Bb}{T:Tx->List Bb}:∀{l:List RItem} (a:Tx) (ps:List Tx),(∀x∈l,x.head.pred∈N/\rk (N.idxOf x.head.pred)=T x.head.pred)->(∀p∈ps,p∈N)->
  (l.foldl (Iq N rk) (a,ps.map fun p=>((N.idxOf p:Nat):Int))).1=(l.foldl (R6 T) (a,ps)).1
 |[],a,ps,_,_=>rfl
 |x::l,a,ps,h,hp=>by
  rw[Ag6,Ag6];obtain⟨h1,h2⟩:=h x (by simp);have hm:(((N.idxOf x.head.pred:Nat):Int)∈ps.map fun p=>((N.idxOf p:Nat):Int))↔x.head.pred∈ps:=by
   rw[Aib];constructor
   ·rintro⟨q,hq,e⟩;have:N.idxOf q=N.idxOf x.head.pred:=Aj6;rw[<-C1 (hp q hq) h1 this];exact hq
   ·exact fun g=>⟨_,g,rfl⟩
  have hl:=fun y hy=>h y (Ah5 x hy);by_cases c:x.out=true/\x.head.pred∉ps
  ·have e1:Iq N rk (a,ps.map fun p=>((N.idxOf p:Nat):Int)) x=(a++(T x.head.pred).flatMap (Hy x.head.pred),(ps++[x.head.pred]).map fun p=>((N.idxOf p:Nat):Int)):=by
    unfold Iq;rw[if_pos ⟨c.1,by rw[hm];exact c.2⟩,h2];simp
   have e2:R6 T (a,ps) x=(a++(T x.head.pred).flatMap (Hy x.head.pred),ps++[x.head.pred]):=if_pos c;rw[e1,e2];refine O8 _ _ hl (fun p aa=>?_);rcases Ah8.1 aa with g|g
   ·exact hp p g
   ·rw[Ait.1 g];exact h1
  ·have e1:Iq N rk (a,ps.map fun p=>((N.idxOf p:Nat):Int)) x=(a,ps.map fun p=>((N.idxOf p:Nat):Int)):=by
    unfold Iq;rw[if_neg (fun g=>c ⟨g.1,by have:=g.2;rw[hm]at this;exact this⟩)]
   have e2:R6 T (a,ps) x=(a,ps):=if_neg c;rw[e1,e2];exact O8 _ _ hl hp
theorem Ug (T:Tx->List Bb):∀(l:List RItem) (acc:Tx×List Tx),l.foldl (R6 T) acc=(l.filter fun x=>x.out).foldl (R6 T) acc
 |[],_=>rfl
 |x::l,acc=>by
  rw[Ag6,Ai5,Ug T l];cases h:x.out with
  |true=>simp
  |false=>
   have:R6 T acc x=acc:=if_neg (by simp[h]);rw[this];simp
section
variable {l l':List RItem} {N N':List Tx} {F F':List RAtom} {M M':MM}
theorem PMi.has {B:Ct}:∀{s:Nat} {k:Nat} {t:Bb},B k t->PMi N l B s k t
 |0,_,_,h=>h
 |s+1,_,_,h=>LstG.base (PMi.has h)
theorem Afu {M:MM}(h:∀x∈M,x.2.Nodup)(k:Nat):(Ax M (k:Int)).Nodup:=by
 unfold Ax;cases hk:M[(k:Int).toNat]? with
 |none=>simp
 |some x=>exact h x (Ag1 hk)
theorem Aft {M:MM}(h:∀x∈M,T3 x.2)(k:Nat):T3 (Ax M (k:Int)):=by
 unfold Ax;cases hk:M[(k:Int).toNat]? with
 |none=>intro t ht;simp at ht
 |some x=>exact h x (Ag1 hk)
theorem rW {a b:List Bb}(ha:a.Nodup)(hb:b.Nodup)(ta:T3 a)(tb:T3 b)(h:∀t,t∈a↔t∈b):Gx a=Gx b:=
 pT tb ((Km a).trans ((List.perm_ext_iff_of_nodup ha hb).2 h)) (Nz ta)
end
theorem Abr (t:Tx):(As t).1<=5:=by
 unfold As;split
 ·simp
 split
 ·simp
 unfold Cd;split
 ·simp
 split
 ·simp
 split
 ·simp
 ·simp
theorem Aco (l:List RItem)(f:Tx):Hp l f=7\/Hp l f=3\/Hp l f=8\/Hp l f=0:=by
 unfold Hp;split
 ·exact .inl rfl
 split
 ·exact .inr (.inl rfl)
 split
 ·exact .inr (.inr (.inl rfl))
 ·exact .inr (.inr (.inr rfl))
structure oA (t f:Tx)(n:Int)(l:List RItem)(F:List RAtom):Prop where
 tl:t.length<=600
 fl:f.length<=400
 ck:(As t).1=0
 n0:0<=n
 n1:n<=200
 par:Bq 16 t= .got l []
 fac:Cz 400 f= .got F []
 fe:Hp l f=0
section
variable {t f x:Tx} {n k e:Int} {l:List RItem} {F:List RAtom}
theorem wL (h:K5 t f n x k e):(e≠0/\e≠9/\x=[]/\k=0)\/∃l F,oA t f n l F/\kE l F n x k e:=by
 unfold K5 at h;split at h
 ·obtain⟨rfl,rfl,rfl⟩:=h;exact .inl ⟨by decide,by decide,rfl,rfl⟩
 rename_i h1;split at h
 ·rename_i h2;obtain⟨rfl,rfl,rfl⟩:=h;have:=Abr t;exact .inl ⟨h2,Aj6,rfl,rfl⟩
 rename_i h2;split at h
 ·obtain⟨rfl,rfl,rfl⟩:=h;exact .inl ⟨by decide,by decide,rfl,rfl⟩
 rename_i h3;obtain⟨l,hl,h⟩:=h;split at h
 ·rename_i h4;obtain⟨rfl,rfl,rfl⟩:=h;have:=Aco l f;exact .inl ⟨h4,Aj6,rfl,rfl⟩
 rename_i h4;obtain⟨F,hF,h⟩:=h;exact .inr ⟨l,F,⟨Aj6,Aj6,Aj6,Aj6,Aj6,hl,hF,Aj6⟩,h⟩
theorem Aef (hK:oA t f n l F)(h:K5 t f n x k e):kE l F n x k e:=by
 have h1:=hK.tl;have h2:=hK.fl;have h3:=hK.n0;have h4:=hK.n1;have h5:=hK.ck;unfold K5 at h;rw[if_neg Aj6,if_neg Aj6,if_neg Aj6]at h;obtain⟨l',hl,h⟩:=h;rw[hK.par]at hl;cases hl;rw[if_neg (by rw[hK.fe];decide)]at h;obtain⟨F',hF,h⟩:=h;rw[hK.fac]at hF;cases hF;exact h
theorem wR (hK:oA t f n l F):RtI l:=wO (dF hK.ck hK.par).2
theorem wS (hK:oA t f n l F):Rgt l:=by
 have ho:Agc l:=fun x hx ho=>(((Mt _ _ _ _ hK.par) x hx).out ho).2.2;exact⟨ho,Vh ho (wR hK).kn,(Ex _ _ _ _ hK.par).2.2.1⟩
theorem Abp (hK:oA t f n l F):Db (l.flatMap Ae++F):=by
 have hg:=Mt _ _ _ _ hK.par
 have h1:Db (l.flatMap Ae):=Vz (wR hK).odd (fun x hx a ha=>by
  unfold Ae at ha;rcases Ah8.1 ha with h|h
  ·cases ho:x.out with
   |true=>rw[ho]at h;simp at h
   |false=>
    rw[ho]at h;simp at h;rw[h];exact Aiw.2 ((hg x hx).rule ho).1.ne
  ·cases ho:x.out with
   |true=>rw[((hg x hx).out ho).2.2]at h;cases h
   |false=>exact Aiw.2 (((hg x hx).rule ho).2.2.2 a h).ne)
 have aa:=hK.fe;unfold Hp at aa;rw[hK.fac]at aa;simp only at aa;refine Om h1 (fun a ha=>Aiw.2 ((Jg _ _ _ _ hK.fac).2.2.2 a ha).1.2.1) ?_;split at aa
 ·cases aa
 ·rename_i h;simpa using h
theorem lK (hK:oA t f n l F):∀a∈F,bJ l a.pred=false:=by
 have aa:=hK.fe;unfold Hp at aa;rw[hK.fac]at aa;simp only at aa;split at aa
 ·cases aa
 split at aa
 ·cases aa
 rename_i h;simp only[Bool.not_eq_true]at h;intro a ha;have:=Aim.1 h a ha;simpa using this
end
theorem nG {l:List Tm}{i:Nat}(hi:i<l.length)(b:Bool)(v:Int):lsp (Ac l) (i*2) [sc (.bool b),ic v]=Ac (l.set i (b,v)):=by
 have hl:=Ch l;rw[Gk _ _ _ (by rw[hl];simp;omega)];have e:l=l.take i++l[i]::l.drop (i+1):=by rw[<-Ah0 hi,Aje]
 have e2:l.set i (b,v)=l.take i++(b,v)::l.drop (i+1):=by
  rw[List.set_eq_take_append_cons_drop,if_pos hi]
 have aa:(Ac (l.take i)).length=i*2:=by
  rw[Ch,Ahp,Ahu (Nat.le_of_lt hi)]
 have e3:Ac l=Ac (l.take i)++(I3 l[i]++Ac (l.drop (i+1))):=by
  unfold Ac
  conv=>lhs;rw[e]
  rw[List.flatMap_append,Aik]
 have e4:Ac (l.set i (b,v))=Ac (l.take i)++(I3 (b,v)++Ac (l.drop (i+1))):=by
  rw[e2];simp[Ac]
 rw[e4,e3,<-aa,List.take_left,Ahq];congr 1;congr 1;rw[show (Ac (l.take i)).length+[sc (.bool b),ic v].length=(Ac (l.take i)).length+(I3 l[i]).length by rfl,List.drop_length_add_append,List.drop_left]
theorem Mc {l:List Tm}{i:Nat}(hi:i<l.length)(b:Bool)(v:Int):((Ac l).set (i*2) (sc (.bool b))).set (i*2+1) (ic v)=Ac (l.set i (b,v)):=nG hi b v
theorem Ga (l:List Tm):(Ac l).all flat=true:=by
 rw[Ag0];intro x hx;obtain⟨t,-,ht⟩:=Ah7.1 hx;simp[I3]at ht;rcases ht with rfl|rfl<;>rfl
def pt0:List Tm:=List.replicate 52 (false,0)
theorem Mr:ptZ.map cst1=Ac pt0:=rfl
theorem Gj {P:List Tm}(h:P.length=52):(Ac P).length=104:=by rw[Ch,h]
theorem Hj {P:List Tm}(h:P.length=52):List.take 104 (Ac P)=Ac P:=Aia (by rw[Gj h];exact Agn _)
theorem Ab6 {l xs:List AV}(h:xs.length=l.length):lsp l 0 xs=xs:=by
 rw[Gk _ _ _ Aj6,Ahn,h,List.drop_length];simp
theorem N4 {P Q:List Tm}(hP:P.length=52)(hQ:Q.length=52):lsp (Ac P) 0 (Ac Q)=Ac Q:=Ab6 (by rw[Gj hP,Gj hQ])
theorem S1:(Ac pt0).length=104:=Gj (by simp[pt0])
def D6 (P:List Tm)(t:Tm):Tm:=if t.1=true then (P[t.2.toNat]?).getD t else t
def Sa (P:List Tm)(v t:Tm):List Tm:=P.map fun x=>if x=v then t else x
theorem lA {α:Type}{A P:List α}{k:Nat}{x:α}(hP:k<P.length)(hx:A[k]?=some x):(A.take k++P.drop k).set k x=A.take (k+1)++P.drop (k+1):=by
 have hk:=(Agy.1 hx).1;rw[List.set_append,if_neg (by rw[Ahp];omega),Ahp,Ahu Aj6,Aig,Ah0 hP,List.set_cons_zero,Ahd,hx];simp
def Wm (t:Tm):Prop:=t.1=true->∃k:Nat,k<52/\t.2=(k:Int)
theorem Ux (P:List Tm)(hP:P.length=52)(t:Tm)(ht:Wm t)(z:St):ACalls Tryz.prog 245 [ag (Ac P),ag [sc (.bool t.1),ic t.2]] z fun r z'=>r=ag [sc (.bool (D6 P t).1),ic (D6 P t).2]/\Keep z z':=by
 have hl:=Gj hP;have ac:=Ga P;obtain⟨b,v⟩:=t;cases b with
 |true=>
  obtain⟨k,hk,e⟩:=ht rfl;dsimp only at e;subst e;have aa:=Agz (show k<P.length by omega);obtain⟨r,hd⟩:=Cl aa;have HP:Akc (D6 P (true,(k:Int))=P[k]):=by
   rw[Akc,D6,if_pos rfl];simp only[Ajn];rw[aa];rfl
  generalize P[k]=w at hd HP;clear aa;refine Z9 12 [.cell 4 151] Tryz.func245 ?_
  repeat' (first|refine Z1 ?_|(refine Z8 ?_;intro yb ya)|(refine Z4 ?_;clear ya yb)|(refine Z2 ?_ ?_<;>intro h ab<;>try exact Xp)|refine Z3 ?_|exact Zt|(apply ya.out;clear ya yb))
  exact⟨_,rfl,by rw[HP.out],Xs⟩
 |false=>
  refine Z9 12 [.cell 4 151] Tryz.func245 ?_
  repeat' (first|refine Z1 ?_|(refine Z8 ?_;intro yb ya)|(refine Z4 ?_;clear ya yb)|(refine Z2 ?_ ?_<;>intro h ab<;>try exact Xp)|refine Z3 ?_|exact Zt|(apply ya.out;clear ya yb))
  exact⟨_,rfl,rfl,Xs⟩
theorem fY (P:List Tm)(hP:P.length=52)(v t:Tm)(z:St):ACalls Tryz.prog 246 [ag (Ac P),ag [sc (.bool v.1),ic v.2],ag [sc (.bool t.1),ic t.2]] z fun r z'=>r=ag (Ac (Sa P v t))/\Keep z z':=by
 have az:=S1;have a0:=Ga;have hz:=Mr;obtain⟨v1,v2⟩:=v;obtain⟨t1,t2⟩:=t;refine Z9 21 [.cell 6 260] Tryz.func246 ?_
 repeat' (first|refine Z1 ?_|(refine Z8 ?_;intro yb ya)|(refine Z4 ?_;clear ya yb)|refine Z3 ?_|exact Zt|(apply ya.out;clear ya yb))
 refine Af (fun m s z'=>∃(k:Nat) (Q:List Tm),m=52-k/\k<=52/\s 3=ptr z.nobj 0/\s 4=ptr (z.nobj+1) 0/\s 5=ptr (z.nobj+2) 0/\s 6=ptr (z.nobj+3) 0/\s 8=ic k/\Keep z z'/\z.nobj+3<z'.nobj/\z'.obj z.nobj=Ac Q/\z'.obj (z.nobj+1)=[sc (.bool v1),ic v2]/\z'.obj (z.nobj+2)=[sc (.bool t1),ic t2]/\z'.obj (z.nobj+3)=Ac pt0/\Q.length=52/\Akc (Q=(Sa P (v1,v2) (t1,t2)).take k++P.drop k)) 52
  ⟨0,P,Aj6,Aj6,Aj8,Aj8,Aj8,Aj8,Aj8,Xs,Aka,?_,?_,?_,?_,hP,by simp[Akc]⟩ ?_
 ·rw[Ag Aka,Ag Aka,Ag Aka,Ao]
 ·rw[Ag Aka,Ag Aka,Bs Aka Aka]
 ·rw[Ag Aka,Bs Aka Aka]
 ·rw[Bs Aka Aka]
 rintro m s z' ⟨k,Q,rfl,hk,h3,h4,h5,h6,h8,hK,aw,an,am,ak,aj,hQ,hA⟩;have ao:=hK.nobj;have ay:=Gj hQ;have ap:=Hj hQ;have av:=N4 (P:=pt0) (by simp[pt0]) hQ;by_cases ax:k<52
 ·have af:k<P.length:=Aj6;have aa:P[k]?=some P[k]:=Agz af;have hpl:(Sa P (v1,v2) (t1,t2)).length=52:=by simp[Sa,hP]
  have ac:Q[k]?=some P[k]:=by
   rw[hA.out,Ahr (by rw[Ahp];omega),Ahp,Ahu Aj6,Aig,Agx,Ag2,aa]
  have ab:Akc (Q.set k (if P[k]=(v1,v2)then (t1,t2)else P[k])=(Sa P (v1,v2) (t1,t2)).take (k+1)++P.drop (k+1)):=by
   have e1:(Sa P (v1,v2) (t1,t2))[k]?=some (if P[k]=(v1,v2)then (t1,t2)else P[k]):=by rw[Sa,Aha,aa];rfl
   rw[Akc,hA.out,lA af e1]
  obtain⟨r,hd⟩:=Cl ac;have au:=fun b v=>Mc (l:=Q) (i:=k) Aj6 b v;have ae:Akc (Q.set k P[k]=Q):=by
   have:=(Agy.1 ac).2;rw[Akc,<-this,List.set_getElem_self]
  generalize P[k]=w at hd ab ae;obtain⟨w1,w2⟩:=w;have ah:∀x,(Q.set k x).length=52:=fun x=>by rw[Ajr,hQ]
  clear aa ac hA
  repeat' (first|refine Z1 ?_|(refine Z8 ?_;intro yb ya)|(refine Z4 ?_;clear ya yb)|(refine Z2 ?_ ?_<;>intro h ad<;>try exact Xp)|refine Z3 ?_|exact Zt|(apply ya.out;clear ya yb))
  refine Bt (Q:=fun e s' z''=>e= .normal/\s' 15=sc (.bool (w1==v1&&w2==v2))/\s' 3=ptr z.nobj 0/\s' 4=ptr (z.nobj+1) 0/\s' 5=ptr (z.nobj+2) 0/\s' 6=ptr (z.nobj+3) 0/\s' 7=ic k/\s' 8=ic k/\z''=z') ?_ ?_
  ·refine A1 Ai (fun _=>True) [] [0,1,2,3,4] 0 #[true,true,true,true,true] Aj9 (fun _ _ _ h=>by cases h.1) ?_;intro yb ya;refine Z3 ?_;refine ya.out _ ?_;clear ya yb;exact A2 Aj9 ⟨rfl,Aj7,Aj7,Aj7,Aj7,Aj7,Aj7,Aj7,rfl⟩
  clear h3 h4 h5 h6 h8;rintro e s' z'' ⟨rfl,g15,g3,g4,g5,g6,g7,g8,rfl⟩;by_cases hw:(w1,w2)=(v1,v2)
  ·rw[if_pos hw]at ab;have hc:(w1==v1&&w2==v2)=true:=by simp at hw;simp[hw]
   rw[hc]at g15;clear hw;refine F3 g15 ?_
   repeat' (first|refine Z1 ?_|(refine Z8 ?_;intro yb ya)|(refine Z4 ?_;clear ya yb)|refine Z3 ?_|exact Zt|(apply ya.out;clear ya yb))
   refine⟨52-(k+1),Aj6,k+1,Q.set k (t1,t2),?_⟩
   ((repeat' refine Zi ?_ ?_)<;>first|exact Xq|exact ab|exact (ah _)|exact Xs)
  ·rw[if_neg hw,ae.out]at ab;have hc:(w1==v1&&w2==v2)=false:=by
    cases h:(w1==v1&&w2==v2)with
    |false=>rfl
    |true=>simp at h;exact absurd (by rw[h.1,h.2]) hw
   rw[hc]at g15;clear hw;refine E3 g15 ?_
   repeat' (first|refine Z1 ?_|(refine Z8 ?_;intro yb ya)|(refine Z4 ?_;clear ya yb)|refine Z3 ?_|exact Zt|(apply ya.out;clear ya yb))
   refine⟨52-(k+1),Aj6,k+1,Q,?_⟩
   ((repeat' refine Zi ?_ ?_)<;>first|exact Xq|exact ab|exact Xs)
 ·have ai:k=52:=Aj6;subst ai;have HQ:Akc (Sa P (v1,v2) (t1,t2)=Q):=by
   rw[Akc,hA.out,Aia (by simp[Sa,hP]),Ag4 Aj6,Ahh]
  clear hA
  repeat' (first|refine Z1 ?_|(refine Z8 ?_;intro yb ya)|(refine Z4 ?_;clear ya yb)|(refine Z2 ?_ ?_<;>intro h ad<;>try exact Xp)|refine Z3 ?_|exact Zt|(apply ya.out;clear ya yb))
  exact⟨_,rfl,by rw[HQ.out],Xs⟩
def N6 (P:List Tm)(a:De):De:=⟨a.p,a.ts.map (D6 P)⟩
theorem Zj (P:List Tm)(hP:P.length=52)(a:De)(ids:Nat)(ha:∀t∈a.ts,Wm t)(hn:a.ts.length<=1000)(z:St):ACalls Tryz.prog 247 [ag (Ac P),ag [ic a.p,sl ids a.ts.length (Ac a.ts)]] z fun r z'=>(∃id,r=ag [ic a.p,sl id a.ts.length (Ac (a.ts.map (D6 P)))])/\Keep z z':=by
 have hl:=Gj hP;have bc:=Hj hP;have bd:=Ga P;have bb:=Ch a.ts;refine Z9 28 [.cell 4 122] Tryz.func247 ?_
 repeat' (first|refine Z1 ?_|(refine Z8 ?_;intro yb ya)|(refine Z4 ?_;clear ya yb)|refine Z3 ?_|exact Zt|(apply ya.out;clear ya yb))
 refine Af (fun m s z'=>∃(k i3:Nat) (xs:List AV),m=a.ts.length-k/\k<=a.ts.length/\s 2=ptr z.nobj 0/\s 4=ptr (z.nobj+2) 0/\s 5=ptr (z.nobj+3) 0/\s 12=sl ids a.ts.length (Ac a.ts)/\s 13=ic a.ts.length/\s 14=ic k/\Keep z z'/\z.nobj+3<z'.nobj/\z'.obj z.nobj=Ac P/\z'.obj (z.nobj+2)=[ic 0,nilS]/\z'.obj (z.nobj+3)=[ic a.p,sl i3 k xs]/\Own z z' i3 k/\xs.length=k*2/\Akc (xs=Ac ((a.ts.take k).map (D6 P)))) a.ts.length
  ⟨0,1,[],Aj6,Aj6,by simp[upd,initS],Aj8,Aj8,Aj8,Aj8,rfl,?_,?_,?_,?_,?_,Own.nil _ _,by simp,by simp[Akc,Ac]⟩ ?_
 ·exact (((((Keep.refl z).new _).new _).new _).new _).put Aj6 _
 ·simp only[Ab,Aa];omega
 ·rw[Ah Aj6,Ag Aka,Ag Aka,Ag Aka,Ao]
 ·rw[Ah Aj6,Ag Aka,Bs Aka Aka]
 ·rw[show z.nobj+3=z.nobj+1+1+1 by omega,Aj]
 rintro m s z' ⟨k,i3,xs,rfl,hk,h2,h4,h5,az,ay,ax,hK,ao,aj,ai,ah,hO,an,hX⟩;have ba:=hK.nobj;by_cases av:k<a.ts.length
 ·have aa:=Agz av;have hv:=ha a.ts[k] (Ain av);obtain⟨r2,a5⟩:=Cl aa;generalize a.ts[k]=w at a5 aa hv;have ab:Akc (xs++I3 (D6 P w)=Ac ((a.ts.take (k+1)).map (D6 P))):=by
   rw[Akc,Ahd,aa,Ais,Ahf,List.map_singleton,Rz,<-hX.out]
  have af:=fun z=>Ux P hP w hv z;have am:Akc _:=an;clear aa hv hX;generalize D6 P w=w' at ab af;obtain⟨w1,w2⟩:=w';dsimp only at af
  repeat' (first|refine Z1 ?_|(refine Z8 ?_;intro yb ya)|(refine Z4 ?_;clear ya yb)|(refine Z2 ?_ ?_<;>intro h ap<;>try exact Xp)|refine Z3 ?_|exact Zt|(apply ya.out;clear ya yb))
  have aw:Keep z ((z'.new [sc (.bool false),ic 0]).put z'.nobj [sc (.bool w.1),ic w.2]):=(hK.new _).put hK.nobj _;have kv:∀p,p<z'.nobj->((z'.new [sc (.bool false),ic 0]).put z'.nobj [sc (.bool w.1),ic w.2]).obj p=z'.obj p:=fun p hp=>by rw[Ah Aj6,Ag Aj6]
  refine Bt (Q:=fun e s' z''=>e= .normal/\s' 2=ptr z.nobj 0/\s' 4=ptr (z.nobj+2) 0/\s' 5=ptr (z.nobj+3) 0/\s' 12=sl ids a.ts.length (Ac a.ts)/\s' 13=ic a.ts.length/\s' 14=ic k/\Keep z z''/\z.nobj+3<z''.nobj/\z''.obj z.nobj=Ac P/\z''.obj (z.nobj+2)=[ic 0,nilS]/\∃idn,z''.obj (z.nobj+3)=[ic a.p,sl idn (k+1) (xs++[sc (.bool w1),ic w2])]/\Own z z'' idn (k+1)) ?_ ?_
  ·refine A1 Ai (fun _=>True) [8] [0,1,2,3] 5 #[true,true,true,true,false,false,false,false,false] Aj9 (fun _ _ _ h=>by cases h.1) ?_;intro yb ya;refine Z3 ?_;refine ya.out _ ?_;clear ya yb;refine Am (i:=4) Aj9 ?_;refine Aq ?_;intro yb ya;refine Z3 ?_;refine ACalls.mono (af _) ?_;rintro _ z5 ⟨rfl,ac⟩;refine Z3 ?_;refine ya.out _ _ ⟨Ap ac,?_⟩;clear ya yb;have ak:=ac.nobj;have ad:=ac.obj;simp only[Ab,Aa]at ak ad;have a8:=aw.trans ac;have a6:=Own.keep (Own.put (Own.new hO [sc (.bool false),ic 0]) z'.nobj [sc (.bool w.1),ic w.2]) ac;refine Am (i:=5) Aj9 ?_;refine Aq ?_;intro yb ya;refine Z3 ?_;refine ya.out _ _ ⟨Ap (ac.lay 1),?_⟩;clear ya yb;refine Am (i:=6) Aj9 ?_;refine Aq ?_;intro yb ya;refine Z3 ?_;refine Bg (by first|exact Ea) a8 a6 (by decide) (by rfl) an (by rfl) (by rfl) (by decide) Aj6 Aj6 ?_;intro idn zn a7 a9 au a3 ae a0;refine Z3 ?_;refine ya.out _ _ ⟨fun _ o ho _=>by rw[ae];exact ac.ver o ho,?_⟩;clear ya yb;refine Am (i:=7) Aj9 ?_;refine Aq ?_;intro yb ya;refine Z3 ?_;refine ya.out _ _ ⟨fun _ o ho _=>by rw[ae];exact ac.ver o ho,?_⟩;clear ya yb;have en:∀p,p<z'.nobj->zn.obj p=z'.obj p:=fun p hp=>by rw[au,ad _ Aj6,kv _ hp]
   have en1:zn.obj (z.nobj+3)=[ic a.p,sl i3 k xs]:=by rw[en _ ao,ah]
   refine Am (i:=8) Aj9 ?_;refine Aq ?_;intro yb ya;refine Z3 ?_;refine ya.out _ _ ⟨Br rfl,?_⟩;clear ya yb;refine A2 Aj9 ⟨rfl,?_⟩;simp only[upd,↓reduceIte,Nat.reduceEqDiff,h2,h4,h5,az,ay,ax,true_and];refine⟨a9.put Aj6 _,by simp only[Ab];omega,?_,?_,idn,?_,Own.put a7 _ _⟩
   ·rw[Ah Aj6,en _ Aj6,aj]
   ·rw[Ah Aj6,en _ Aj6,ai]
   ·rw[Aj]
  ·clear kv aw hO an aj ai ah ao af h2 h4 h5 az ay ax;rintro e s' z'' ⟨rfl,g2,g4,g5,g12,g13,g14,hK,ao,aj,ai,idn,ah,hO⟩
   repeat' (first|refine Z1 ?_|(refine Z8 ?_;intro yb ya)|(refine Z4 ?_;clear ya yb)|refine Z3 ?_|exact Zt|(apply ya.out;clear ya yb))
   refine⟨a.ts.length-(k+1),Aj6,k+1,idn,xs++[sc (.bool w1),ic w2],?_⟩
   ((repeat' refine Zi ?_ ?_)<;>first|exact Xq|exact ab|exact (by rw[Aho,am.out];simp;omega)|exact Xs)
 ·have a4:k=a.ts.length:=Aj6;subst a4;rw[Ag7]at hX
  repeat' (first|refine Z1 ?_|(refine Z8 ?_;intro yb ya)|(refine Z4 ?_;clear ya yb)|(refine Z2 ?_ ?_<;>intro h ap<;>try exact Xp)|refine Z3 ?_|exact Zt|(apply ya.out;clear ya yb))
  exact⟨_,rfl,⟨i3,by rw[hX.out]⟩,hK.put Aj6 _⟩
def lY (P:List Tm)(l:Lit):Lit:=⟨l.neg,N6 P l.a⟩
def Ew (P:List Tm)(r:Dx):Dx:=⟨N6 P r.head,r.body.map (lY P)⟩
def Re (o:Bool)(r:Dx)(c:List AV):Prop:=∃ih ib bc,c=[sc (.bool o),ic r.head.p,sl ih r.head.ts.length (Ac r.head.ts),sl ib r.body.length bc]/\EL Qf r.body bc
structure R52 (r:Dx):Prop where
 h3:r.head.ts.length<=3
 b3:∀l∈r.body,l.a.ts.length<=3
 bl:r.body.length<=100
 hv:∀t∈r.head.ts,Wm t
 bv:∀l∈r.body,∀t∈l.a.ts,Wm t
theorem Zh (P:List Tm)(hP:P.length=52)(r:Dx)(hr:R52 r)(o:Bool)(c:List AV)(hc:Re o r c)(z:St):ACalls Tryz.prog 212 [ag (Ac P),ag c] z fun x z'=>(∃c',x=ag c'/\Re false (Ew P r) c')/\Keep z z':=by
 obtain⟨ih,ib,bc,rfl,hb⟩:=hc;have hl:=Gj hP;have a7:=Hj hP;have a9:=Ga P;have ba:=EL.length Gs hb;have bb:=hr.bl;have hH:=fun z=>Zj P hP r.head ih hr.hv (by have:=hr.h3;omega) z;have hL:=fun (l:Lit) (h:l∈r.body) (ids:Nat) z=>Zj P hP l.a ids (hr.bv l h) (by have:=hr.b3 l h;omega) z;refine Z9 33 [.cell 4 125] Tryz.func212 ?_
 repeat' (first|refine Z1 ?_|(refine Z8 ?_;intro yb ya)|(refine Z4 ?_;clear ya yb)|(refine Z5 ?_;refine Xi (hH _) ?_;rintro _ _ ⟨⟨id1,rfl⟩,aj⟩;(have ah:=aj.nobj;have aa:=aj.obj;simp only[Aa]at ah aa))|refine Z3 ?_|exact Zt|(apply ya.out;clear ya yb))
 rename_i z1;have ay:Keep z z1:=Xs;have o0:z1.obj z.nobj=Ac P:=by rw[aa _ Aj6,Ag Aka,Ag Aka,Ao]
 have o2:z1.obj (z.nobj+2)=[sc (.bool false),ic 0,nilS,nilS]:=by rw[aa _ Aj6,Bs Aka Aka]
 clear hH aa
 refine Af (fun m s z'=>∃(k i3:Nat) (xs:List AV),m=r.body.length-k/\k<=r.body.length/\s 2=ptr z.nobj 0/\s 4=ptr (z.nobj+2) 0/\s 5=ptr z1.nobj 0/\s 14=sl ib r.body.length bc/\s 15=ic r.body.length/\s 16=ic k/\Keep z z'/\z1.nobj<z'.nobj/\z'.obj z.nobj=Ac P/\z'.obj (z.nobj+2)=[sc (.bool false),ic 0,nilS,nilS]/\z'.obj z1.nobj=[sc (.bool false),ic r.head.p,sl id1 r.head.ts.length (Ac (r.head.ts.map (D6 P))),sl i3 k xs]/\Own z z' i3 k/\xs.length=k*3/\Akc (EL Qf ((r.body.take k).map (lY P)) xs)) r.body.length
  ⟨0,1,[],Aj6,Aj6,by simp[upd,initS],Aj8,Aj8,Aj8,Aj8,rfl,Xs,Akb,by rw[Ah Aj6,Ag Aj6,o0],by rw[Ah Aj6,Ag Aj6,o2],by rw[Aj],Own.nil _ _,by simp,by simp[Akc,EL]⟩ ?_
 clear o0 o2 ay aj;rintro m s z' ⟨k,i3,xs,rfl,hk,h2,h4,h5,bf,be,bd,hK,a8,a5,a4,a3,hO,ao,hX⟩;have a6:=hK.nobj;by_cases ak:k<r.body.length
 ·have ab:=Agz ak;obtain⟨ia,rr,hd⟩:=Hl hb ab;have am:=fun z=>hL r.body[k] (Ain ak) ia z;generalize r.body[k]=a at hd ab am;have HX:Akc (∀i4,EL Qf ((r.body.take (k+1)).map (lY P)) (xs++[sc (.bool a.neg),ic a.a.p,sl i4 a.a.ts.length (Ac (a.a.ts.map (D6 P)))])):=fun i4=>by
   rw[Ahd,ab,Ais,Ahf];exact EL.append hX.out (EL.single ⟨i4,by simp[lY,N6]⟩)
  clear ab hX hL
  repeat' (first|refine Z1 ?_|(refine Z8 ?_;intro yb ya)|(refine Z4 ?_;clear ya yb)|(refine Z2 ?_ ?_<;>intro h ai<;>try exact Xp)|(refine Z5 ?_;refine Xi (am _) ?_;rintro _ _ ⟨⟨i4,rfl⟩,ad⟩;(have ae:=ad.obj;have af:=ad.nobj;simp only[Aa,Ab]at af ae))|refine Z3 ?_|exact Zt)
  rename_i z4;have aw:=((hK.new [sc (.bool false),ic 0,nilS]).put hK.nobj _).trans ad;have au:=Own.keep (Own.put (Own.new hO [sc (.bool false),ic 0,nilS]) z'.nobj [sc (.bool a.neg),ic a.a.p,sl ia a.a.ts.length (Ac a.a.ts)]) ad;refine Bg (by first|exact Ek) (aw.put Aj6 _) (Own.put au _ _) (by decide) (by rfl) ao (by rfl) (by rfl) (by decide) Aj6 Aj6 ?_;intro idn zn av ax a0 ac az an;simp only[Ab,Aa]at ac;refine Z3 ?_
  repeat' (first|refine Z1 ?_|(refine Z8 ?_;intro yb ya)|(refine Z4 ?_;clear ya yb)|refine Z3 ?_|exact Zt|(apply ya.out;clear ya yb))
  refine⟨r.body.length-(k+1),Aj6,k+1,idn,xs++[sc (.bool a.neg),ic a.a.p,sl i4 a.a.ts.length (Ac (a.a.ts.map (D6 P)))],?_⟩
  ((repeat' refine Zi ?_ ?_)<;>first|exact Xq|exact (HX.out i4)|exact (ax.put Aj6 _)|exact (Own.put av _ _)|exact Xs)
 ·have ap:k=r.body.length:=Aj6;subst ap;rw[Ag7]at hX
  repeat' (first|refine Z1 ?_|(refine Z8 ?_;intro yb ya)|(refine Z4 ?_;clear ya yb)|(refine Z2 ?_ ?_<;>intro h ai<;>try exact Xp)|refine Z3 ?_|exact Zt|(apply ya.out;clear ya yb))
  exact⟨_,rfl,⟨_,rfl,id1,i3,xs,by simp[Ew,N6],hX.out⟩,hK.put Aj6 _⟩
def aprt:List Tm:=(List.range 52).map fun (i:Nat)=>if i<26 then (true,(26:Int)+i)else (false,0)
theorem jV:aprt.length=52:=by simp[aprt]
theorem apart_spec (r:Dx)(hr:R52 r)(o:Bool)(c:List AV)(hc:Re o r c)(z:St):ACalls Tryz.prog 209 [ag c] z fun x z'=>(∃c',x=ag c'/\Re false (Ew aprt r) c')/\Keep z z':=by
 have hI:=fun z=>Zh aprt jV r hr o c hc z;obtain⟨ih,ib,bc,rfl,hb⟩:=hc;have ax:=S1;have hz:=Mr;refine Z9 17 [.cell 2 125] Tryz.func209 ?_
 repeat' (first|refine Z1 ?_|(refine Z8 ?_;intro yb ya)|(refine Z4 ?_;clear ya yb)|refine Z3 ?_|exact Zt|(apply ya.out;clear ya yb))
 refine Af (fun m s z'=>∃(k:Nat) (Q:List Tm),m=26-k/\k<=26/\s 1=ptr z.nobj 0/\s 2=ptr (z.nobj+1) 0/\s 3=ptr (z.nobj+2) 0/\s 4=ic k/\Keep z z'/\z.nobj+2<z'.nobj/\z'.obj z.nobj=[sc (.bool o),ic r.head.p,sl ih r.head.ts.length (Ac r.head.ts),sl ib r.body.length bc]/\z'.obj (z.nobj+1)=[sc (.bool false),ic 0,nilS,nilS]/\z'.obj (z.nobj+2)=Ac Q/\Q.length=52/\Akc (Q=aprt.take k++pt0.drop k)) 26
  ⟨0,pt0,Aj6,Aj6,Aj8,Aj8,Aj8,Aj8,Xs,Aka,?_,?_,?_,by simp[pt0],by simp[Akc]⟩ ?_
 ·rw[Ag Aka,Ag Aka,Ao]
 ·rw[Ag Aka,Bs Aka Aka]
 ·rw[Bs Aka Aka]
 rintro m s z' ⟨k,Q,rfl,hk,h1,h2,h3,h4,hK,av,an,am,ak,hQ,hA⟩;have ao:=hK.nobj;have aw:=Gj hQ;by_cases af:k<26
 ·have ae:Akc (Q.set k (true,(26:Int)+k)=aprt.take (k+1)++pt0.drop (k+1)):=by
   rw[Akc,hA.out,lA (by simp[pt0];omega)];simp[aprt,af,show k<52 by omega]
  have au:=Mc (l:=Q) (i:=k) Aj6 true ((26:Int)+k);have ah:∀x,(Q.set k x).length=52:=fun x=>by rw[Ajr,hQ]
  clear hA
  repeat' (first|refine Z1 ?_|(refine Z8 ?_;intro yb ya)|(refine Z4 ?_;clear ya yb)|(refine Z2 ?_ ?_<;>intro h aa<;>try exact Xp)|refine Z3 ?_|exact Zt|(apply ya.out;clear ya yb))
  refine⟨26-(k+1),Aj6,k+1,Q.set k (true,(26:Int)+k),?_⟩
  ((repeat' refine Zi ?_ ?_)<;>first|exact Xq|exact ae|exact (ah _)|exact Xs)
 ·have ai:k=26:=Aj6;subst ai;have HQ:Q=aprt:=by rw[hA.out];rfl
  subst HQ;have ap:=Hj hQ;clear hA
  repeat' (first|refine Z1 ?_|(refine Z8 ?_;intro yb ya)|(refine Z4 ?_;clear ya yb)|(refine Z2 ?_ ?_<;>intro h aa<;>try exact Xp)|(refine Z5 ?_;refine Xi (hI _) ?_;rintro _ _ ⟨⟨c',rfl,hE⟩,ab⟩;(have ad:=ab.nobj;have ac:=ab.obj;obtain⟨jh,jb,jc,rfl,aj⟩:=hE))|refine Z3 ?_|exact Zt|(apply ya.out;clear ya yb))
  exact⟨_,rfl,⟨_,rfl,jh,jb,jc,rfl,aj⟩,Xs⟩
def Pq (P:List Tm)(t u:Tm):Option (List Tm):=
 if D6 P t=D6 P u then some P else if (D6 P u).1=true then some (Sa P (D6 P u) (D6 P t))else if (D6 P t).1=true then some (Sa P (D6 P t) (D6 P u))else none
def Dk:List Tm->List Tm->List Tm->Option (List Tm)
 |P,[],_=>some P
 |_,_::_,[]=>none
 |P,t::ts,u::us=>(Pq P t u).bind fun P'=>Dk P' ts us
def pidn:List Tm:=(List.range 52).map fun (i:Nat)=>(true,(i:Int))
theorem Pl:pidn.length=52:=by simp[pidn]
def Aen:Option (List Tm)->AV
 |some P=>tp [ag (Ac P),sc (.bool true)]
 |none=>tp [ag (Ac pt0),sc (.bool false)]
theorem Ko (P:List Tm)(v t:Tm):(Sa P v t).length=P.length:=by simp[Sa]
theorem mJ {P:List Tm}{ts us:List Tm}{k:Nat}{t u:Tm}(ht:ts[k]?=some t)(hu:us[k]?=some u):Dk P (ts.drop k) (us.drop k)=(Pq P t u).bind fun P'=>Dk P' (ts.drop (k+1)) (us.drop (k+1)):=by
 obtain⟨l1,e1⟩:=Agy.1 ht;obtain⟨l2,e2⟩:=Agy.1 hu;rw[Ah0 l1,Ah0 l2,e1,e2];rfl
theorem sU (a b:De)(i1 i2:Nat)(hl:a.ts.length=b.ts.length)(hn:a.ts.length<=1000)(ha:∀t∈a.ts,Wm t)(hb:∀t∈b.ts,Wm t)(z:St):
  ACalls Tryz.prog 210 [ag [ic a.p,sl i1 a.ts.length (Ac a.ts)],ag [ic b.p,sl i2 b.ts.length (Ac b.ts)]] z fun r z'=>r=Aen (Dk pidn a.ts b.ts)/\Keep z z':=by
 have b0:=S1;have hz:=Mr;have br:=Ch a.ts;have bq:=Ch b.ts;have b2:=Ga;have a7:Akc (a.ts.length=b.ts.length):=hl;clear hl;refine Z9 56 [.cell 4 260,.tmp 5] Tryz.func210 ?_
 repeat' (first|refine Z1 ?_|(refine Z8 ?_;intro yb ya)|(refine Z4 ?_;clear ya yb)|refine Z3 ?_|exact Zt|(apply ya.out;clear ya yb))
 refine Af (fun m s z'=>∃(k:Nat) (Q:List Tm),m=52-k/\k<=52/\s 2=ptr z.nobj 0/\s 3=ptr (z.nobj+1) 0/\s 4=ptr (z.nobj+2) 0/\s 6=ptr (z.nobj+3) 0/\s 12=ic k/\Keep z z'/\z.nobj+3<z'.nobj/\z'.obj z.nobj=[ic a.p,sl i1 a.ts.length (Ac a.ts)]/\z'.obj (z.nobj+1)=[ic b.p,sl i2 b.ts.length (Ac b.ts)]/\z'.obj (z.nobj+2)=Ac pt0/\z'.obj (z.nobj+3)=Ac Q/\Q.length=52/\Akc (Q=pidn.take k++pt0.drop k)) 52
  ⟨0,pt0,Aj6,Aj6,Aj8,Aj8,Aj8,Aj8,Aj8,Xs,Aka,?_,?_,?_,?_,by simp[pt0],by simp[Akc]⟩ ?_
 ·rw[Ag Aka,Ag Aka,Ag Aka,Ao]
 ·rw[Ag Aka,Ag Aka,Bs Aka Aka]
 ·rw[Ag Aka,Bs Aka Aka]
 ·rw[Bs Aka Aka]
 rintro m s z' ⟨k,Q,rfl,hk,h2,h3,h4,h6,bo,hK,a3,bc,am,ak,aj,hQ,hA⟩;have a8:=hK.nobj;have bb:=Gj hQ;by_cases ap:k<52
 ·have bd:Akc (Q.set k (true,(k:Int))=pidn.take (k+1)++pt0.drop (k+1)):=by
   rw[Akc,hA.out,lA (by simp[pt0];omega)];simp[pidn,ap]
  have bw:=Mc (l:=Q) (i:=k) Aj6 true (k:Int);have be:∀x,(Q.set k x).length=52:=fun x=>by rw[Ajr,hQ]
  clear hA
  repeat' (first|refine Z1 ?_|(refine Z8 ?_;intro yb ya)|(refine Z4 ?_;clear ya yb)|(refine Z2 ?_ ?_<;>intro h ab<;>try exact Xp)|refine Z3 ?_|exact Zt|(apply ya.out;clear ya yb))
  refine⟨52-(k+1),Aj6,k+1,Q.set k (true,(k:Int)),?_⟩
  ((repeat' refine Zi ?_ ?_)<;>first|exact Xq|exact bd|exact (be _)|exact Xs)
 have bg:k=52:=Aj6;subst bg;have HQ:Q=pidn:=by rw[hA.out];rfl
 subst HQ;clear hA ap hk hQ bb
 repeat' (first|refine Z1 ?_|(refine Z8 ?_;intro yb ya)|(refine Z4 ?_;clear ya yb)|(refine Z2 ?_ ?_<;>intro h ab<;>try exact Xp)|refine Z3 ?_|exact Zt|(apply ya.out;clear ya yb))
 refine Af (fun m s z'=>∃(k:Nat) (Q:List Tm),m=a.ts.length-k/\k<=a.ts.length/\s 3=ptr (z.nobj+1) 0/\s 4=ptr (z.nobj+2) 0/\s 6=ptr (z.nobj+3) 0/\s 21=sl i1 a.ts.length (Ac a.ts)/\s 22=ic a.ts.length/\s 23=ic k/\Keep z z'/\z.nobj+3<z'.nobj/\z'.obj (z.nobj+1)=[ic b.p,sl i2 b.ts.length (Ac b.ts)]/\z'.obj (z.nobj+2)=Ac pt0/\z'.obj (z.nobj+3)=Ac Q/\Q.length=52/\Akc (Dk pidn a.ts b.ts=Dk Q (a.ts.drop k) (b.ts.drop k))) a.ts.length
  ⟨0,pidn,Aj6,Aj6,Aj7,Aj7,Aj7,Aj8,Aj8,Aj8,hK,a3,am,ak,aj,Pl,by simp[Akc]⟩ ?_
 clear h2 h3 h4 h6 bo hK a3 bc am ak aj a8;rintro m s z' ⟨k,Q,rfl,hk,h3,h4,h6,bn,bm,bl,hK,a3,am,ak,aj,hQ,hA⟩;have a8:=hK.nobj;have bb:=Gj hQ;have bu:=Hj hQ;by_cases ap:k<a.ts.length
 ·have ba:k<b.ts.length:=by have:=a7.out;omega
  have g1:=Agz ap;have g2:=Agz ba;have az:=ha a.ts[k] (Ain ap);have ay:=hb b.ts[k] (Ain ba);obtain⟨r1,bi⟩:=Cl g1;obtain⟨r2,bh⟩:=Cl g2;have HM:Akc (Dk pidn a.ts b.ts=(Pq Q a.ts[k] b.ts[k]).bind fun P'=>Dk P' (a.ts.drop (k+1)) (b.ts.drop (k+1))):=by rw[Akc,hA.out,mJ g1 g2]
  clear hA g1 g2;generalize a.ts[k]=t at bi az HM;generalize b.ts[k]=u at bh ay HM;have av:=fun z=>Ux Q hQ t az z;have au:=fun z=>Ux Q hQ u ay z;unfold Pq at HM;generalize D6 Q t=x at av HM;generalize D6 Q u=y at au HM;obtain⟨x1,x2⟩:=x;obtain⟨y1,y2⟩:=y;dsimp only at av au HM;clear az ay
  repeat' (first|refine Z1 ?_|(refine Z8 ?_;intro yb ya)|(refine Z4 ?_;clear ya yb)|(refine Z2 ?_ ?_<;>intro h ab<;>try exact Xp)|(refine Z5 ?_;refine Xi (av _) ?_;rintro _ _ ⟨rfl,aw⟩;(have ax:=aw.nobj;have ah:=aw.obj;simp only[Aa,Ab]at ax ah))|refine Z3 ?_|exact Zt|(apply ya.out;clear ya yb))
  rename_i z1;have a6:Keep z ((z1.new [sc (.bool false),ic 0]).put z1.nobj [sc (.bool x1),ic x2]):=((((hK.new _).put hK.nobj _).trans aw).new _).put Aj6 _;have kv:∀p,p<z'.nobj->((z1.new [sc (.bool false),ic 0]).put z1.nobj [sc (.bool x1),ic x2]).obj p=z'.obj p:=fun p hp=>by rw[Ah Aj6,Ag Aj6,ah _ Aj6,Ah Aj6,Ag Aj6]
  have o10:((z1.new [sc (.bool false),ic 0]).put z1.nobj [sc (.bool x1),ic x2]).obj z1.nobj=[sc (.bool x1),ic x2]:=Aj;have nb:z1.nobj<((z1.new [sc (.bool false),ic 0]).put z1.nobj [sc (.bool x1),ic x2]).nobj:=Akb;generalize (z1.new [sc (.bool false),ic 0]).put z1.nobj [sc (.bool x1),ic x2]=z2 at a6 kv o10 nb;have oc1:z2.obj (z.nobj+1)=[ic b.p,sl i2 b.ts.length (Ac b.ts)]:=by rw[kv _ Aj6,am]
  have oc2:z2.obj (z.nobj+2)=Ac pt0:=by rw[kv _ Aj6,ak]
  have oc3:z2.obj (z.nobj+3)=Ac Q:=by rw[kv _ Aj6,aj]
  clear kv ah aw hK am ak aj av;refine Bt (Q:=fun e s' z''=>e= .normal/\∃o11:Nat,s' 11=ptr o11 0/\z2.nobj<=o11/\o11<z''.nobj/\z''.obj o11=[sc (.bool y1),ic y2]/\s' 3=ptr (z.nobj+1) 0/\s' 4=ptr (z.nobj+2) 0/\s' 6=ptr (z.nobj+3) 0/\s' 10=ptr z1.nobj 0/\s' 21=sl i1 a.ts.length (Ac a.ts)/\s' 22=ic a.ts.length/\s' 23=ic k/\Keep z2 z'') ?_ ?_
  ·refine A1 Ai (fun _=>True) [8] [0,1,2,3,4,5] 3 #[true,true,true,true,true,true,false,false,false] Aj9 (fun _ _ _ h=>by cases h.1) ?_;intro yb ya;refine Z3 ?_;refine ya.out _ ?_;clear ya yb;refine Ef (rs:=[6,7]) Aj9 (by simp) ?_;intro i hi;simp only[Ah2,Ail,Aj5]at hi;rcases hi with rfl|rfl
   ·refine Aq ?_;intro yb ya;refine Z3 ?_;refine ACalls.mono (au _) ?_;rintro _ z3 ⟨rfl,ac⟩;have ai:=ac.nobj;refine Z3 ?_;refine ya.out _ _ ⟨Ap ac,?_⟩;clear ya yb;refine Am (i:=7) Aj9 ?_;refine Aq ?_;intro yb ya;refine Z3 ?_;refine ya.out _ _ ⟨Ap (ac.new _),?_⟩;clear ya yb;refine Am (i:=8) Aj9 ?_;refine Aq ?_;intro yb ya;refine Z3 ?_;refine ya.out _ _ ⟨Br rfl,?_⟩;clear ya yb;exact A2 Aj9 ⟨rfl,z3.nobj,Aj8,Aj6,Akb,Aj,Aj7,Aj7,Aj7,Aj7,Aj7,Aj7,Aj7,(ac.new _).put Aj6 _⟩
   ·refine Aq ?_;intro yb ya;refine Z3 ?_;refine ya.out _ _ ⟨Ap ((Keep.refl _).new _),?_⟩;clear ya yb;refine Am (i:=6) Aj9 ?_;refine Aq ?_;intro yb ya;refine Z3 ?_;refine ACalls.mono (au _) ?_;rintro _ z3 ⟨rfl,ac⟩;have ai:=ac.nobj;have aa:=ac.obj;simp only[Aa]at ai aa;have o3z:z3.obj z2.nobj=[sc (.bool false),ic 0]:=by rw[aa _ Aj6,Ao]
    have a5:Keep z2 z3:=((Keep.refl _).new _).trans ac;refine Z3 ?_;refine ya.out _ _ ⟨Ap a5,?_⟩;clear ya yb;refine Am (i:=8) Aj9 ?_;refine Aq ?_;intro yb ya;refine Z3 ?_;refine ya.out _ _ ⟨Br rfl,?_⟩;clear ya yb;exact A2 Aj9 ⟨rfl,z2.nobj,Aj8,Aj6,by simp only[Ab];omega,Aj,Aj7,Aj7,Aj7,Aj7,Aj7,Aj7,Aj7,a5.put Aj6 _⟩
  rintro e s' z3 ⟨rfl,o11,g11,bz,b1,oy,g3,g4,g6,g10,g21,g22,g23,ac⟩;have ai:=ac.nobj;have aa:=ac.obj;have od1:z3.obj (z.nobj+1)=[ic b.p,sl i2 b.ts.length (Ac b.ts)]:=by rw[aa _ Aj6,oc1]
  have od2:z3.obj (z.nobj+2)=Ac pt0:=by rw[aa _ Aj6,oc2]
  have od3:z3.obj (z.nobj+3)=Ac Q:=by rw[aa _ Aj6,oc3]
  have ox:z3.obj z1.nobj=[sc (.bool x1),ic x2]:=by rw[aa _ Aj6,o10]
  have a5:=a6.trans ac;clear aa ac a6 oc1 oc2 oc3 o10 h3 h4 h6 bn bm bl au;by_cases ad:((x1,x2):Tm)=(y1,y2)
  ·have hc:(x1==y1&&x2==y2)=true:=by simp at ad;simp[ad]
   have HN:Akc (Dk pidn a.ts b.ts=Dk Q (a.ts.drop (k+1)) (b.ts.drop (k+1))):=by rw[Akc,HM.out,if_pos ad];rfl
   clear HM ad
   repeat' (first|refine Z1 ?_|(refine Z8 ?_;intro yb ya)|(refine Z4 ?_;clear ya yb)|(refine Z2 ?_ ?_<;>intro h ab<;>try exact Xp)|refine Z3 ?_|exact Zt|(apply ya.out;clear ya yb))
   refine⟨a.ts.length-(k+1),Aj6,k+1,Q,?_⟩
   ((repeat' refine Zi ?_ ?_)<;>first|exact Xq|exact HN|exact Xs)
  ·rw[if_neg ad]at HM;cases y1 with
   |true=>
    have hW:=fun z=>fY Q hQ (true,y2) (x1,x2) z;have ae:(Sa Q (true,y2) (x1,x2)).length=52:=by rw[Ko,hQ]
    have HN:Akc (Dk pidn a.ts b.ts=Dk (Sa Q (true,y2) (x1,x2)) (a.ts.drop (k+1)) (b.ts.drop (k+1))):=by rw[Akc,HM.out,if_pos rfl];rfl
    generalize Sa Q (true,y2) (x1,x2)=Q' at hW ae HN;have a4:=Gj ae;have a0:=Hj ae;have a9:=N4 hQ ae;clear HM;cases x1 with
    |true=>
     have hc:(x2==y2)=false:=by simpa using ad
     clear ad
     repeat' (first|refine Z1 ?_|(refine Z8 ?_;intro yb ya)|(refine Z4 ?_;clear ya yb)|(refine Z2 ?_ ?_<;>intro h ab<;>try exact Xp)|(refine Z5 ?_;refine Xi (hW _) ?_;rintro _ _ ⟨rfl,af⟩;(have ao:=af.nobj;have an:=af.obj))|refine Z3 ?_|exact Zt|(apply ya.out;clear ya yb))
     refine⟨a.ts.length-(k+1),Aj6,k+1,Q',?_⟩
     ((repeat' refine Zi ?_ ?_)<;>first|exact Xq|exact HN|exact Xs)
    |false=>
     clear ad
     repeat' (first|refine Z1 ?_|(refine Z8 ?_;intro yb ya)|(refine Z4 ?_;clear ya yb)|(refine Z2 ?_ ?_<;>intro h ab<;>try exact Xp)|(refine Z5 ?_;refine Xi (hW _) ?_;rintro _ _ ⟨rfl,af⟩;(have ao:=af.nobj;have an:=af.obj))|refine Z3 ?_|exact Zt|(apply ya.out;clear ya yb))
     refine⟨a.ts.length-(k+1),Aj6,k+1,Q',?_⟩
     ((repeat' refine Zi ?_ ?_)<;>first|exact Xq|exact HN|exact Xs)
   |false=>
    rw[if_neg (by simp)]at HM;cases x1 with
    |true=>
     have hW:=fun z=>fY Q hQ (true,x2) (false,y2) z;have ae:(Sa Q (true,x2) (false,y2)).length=52:=by rw[Ko,hQ]
     have HN:Akc (Dk pidn a.ts b.ts=Dk (Sa Q (true,x2) (false,y2)) (a.ts.drop (k+1)) (b.ts.drop (k+1))):=by rw[Akc,HM.out,if_pos rfl];rfl
     generalize Sa Q (true,x2) (false,y2)=Q' at hW ae HN;have a4:=Gj ae;have a0:=Hj ae;have a9:=N4 hQ ae;clear HM ad
     repeat' (first|refine Z1 ?_|(refine Z8 ?_;intro yb ya)|(refine Z4 ?_;clear ya yb)|(refine Z2 ?_ ?_<;>intro h ab<;>try exact Xp)|(refine Z5 ?_;refine Xi (hW _) ?_;rintro _ _ ⟨rfl,af⟩;(have ao:=af.nobj;have an:=af.obj))|refine Z3 ?_|exact Zt|(apply ya.out;clear ya yb))
     refine⟨a.ts.length-(k+1),Aj6,k+1,Q',?_⟩
     ((repeat' refine Zi ?_ ?_)<;>first|exact Xq|exact HN|exact Xs)
    |false=>
     have HN:Akc (Dk pidn a.ts b.ts=none):=by rw[Akc,HM.out,if_neg (by simp)];rfl
     have bp:=Hj (P:=pt0) (by simp[pt0]);have bv:=N4 (P:=pt0) (Q:=pt0) (by simp[pt0]) (by simp[pt0]);have hc:(x2==y2)=false:=by simpa using ad
     clear HM ad
     repeat' (first|refine Z1 ?_|(refine Z8 ?_;intro yb ya)|(refine Z4 ?_;clear ya yb)|(refine Z2 ?_ ?_<;>intro h ab<;>try exact Xp)|refine Z3 ?_|exact Zt|(apply ya.out;clear ya yb))
     exact⟨_,rfl,by rw[HN.out];rfl,Xs⟩
 ·have bf:k=a.ts.length:=Aj6;have HM:Akc (Dk pidn a.ts b.ts=some Q):=by
   rw[Akc,hA.out,bf,List.drop_length];rfl
  have a9:=N4 (P:=pt0) (by simp[pt0]) hQ;clear hA
  repeat' (first|refine Z1 ?_|(refine Z8 ?_;intro yb ya)|(refine Z4 ?_;clear ya yb)|(refine Z2 ?_ ?_<;>intro h ab<;>try exact Xp)|refine Z3 ?_|exact Zt|(apply ya.out;clear ya yb))
  exact⟨_,rfl,by rw[HM.out];rfl,Xs⟩
def Ltr (c:List AV):Prop:=∃(b:Bool) (p:Int) (ia n:Nat) (tc:List AV),c=[sc (.bool b),sc (.int .i64 p),sl ia n tc]/\∀x∈tc,∃v,x=sc v
def Tl {α:Type}(E:α->List AV->Prop)(a:α)(d:List AV):Prop:=∃x,E a (x::d)
theorem kD {α:Type}{E:α->List AV->Prop}(hz:∀a c,E a c->Ltr c):∀{l:List α} {cs:List AV},EL (Tl E) l cs->∀c∈cs,Plain c
 |[],cs,h,c,hc=>by have h:cs=[]:=h;subst h;cases hc
 |a::l,_,⟨c1,c2,⟨x,hx⟩,h2,rfl⟩,c,hc=>by
  rcases Ah8.1 hc with hc|hc
  ·obtain⟨_,p,ia,n,tc,e,ht⟩:=hz _ _ hx;simp at e;rw[e.2]at hc;simp only[Ah2,Ail,Aj5]at hc;rcases hc with rfl|rfl
   ·exact .inl ⟨_,rfl⟩
   ·exact .inr ⟨_,_,_,rfl,ht⟩
  ·exact kD hz h2 c hc
theorem mD {α:Type}{E:α->List AV->Prop}(hz:∀a c,E a c->Ltr c)(p:Int)(ih n:Nat)(tc:List AV)(af:∀x∈tc,∃v,x=sc v)(l:List α)(id:Nat)(b:List AV)(hb:EL E l b)(hn:l.length<=1000)(z:St):
  ACalls Tryz.prog 133 [ag [sc (.bool false),sc (.int .i64 p),sl ih n tc,sl id l.length b]] z fun r z'=>∃(o m:Nat) (cs:List AV),r=fx o 0 m/\z.nobj<=o/\z'.obj o=cs/\Keep z z'/\(∀c∈cs,Plain c)/\(m=l.length+1/\∃ds,cs=sc (.int .i64 p)::sl ih n tc::ds/\EL (Tl E) l ds):=by
 have h3:∀a c,E a c->c.length=3:=fun a c h=>by obtain⟨_,_,_,_,_,rfl,-⟩:=hz a c h;rfl
 have ap:=EL.length h3 hb;refine Z9 33 [.tmp 2] Tryz.func133 ?_
 repeat' (first|refine Z1 ?_|(refine Z8 ?_;intro yb ya)|(refine Z4 ?_;clear ya yb)|(refine Z2 ?_ ?_<;>intro h ab<;>try exact Xp)|refine Z3 ?_|exact Zt|(apply ya.out;clear ya yb))
 have ae:Keep z (z.new [sc (.bool false),sc (.int .i64 p),sl ih n tc,sl id l.length b]):=(Keep.refl _).new _;have ad:((l.length:Int)+1).toNat=l.length+1:=Aj6
 refine Af (fun m s z'=>∃(k:Nat) (cur:List AV),m=l.length-k/\k<=l.length/\s 3=fx (z.nobj+1) 0 (l.length+1)/\s 18=sl id l.length b/\s 19=sc (.int .i64 l.length)/\s 20=sc (.int .i64 k)/\Keep z z'/\z.nobj+1<z'.nobj/\z'.obj (z.nobj+1)=cur/\cur.length=(l.length+1)*2/\Akc (∃ds,cur=(sc (.int .i64 p)::sl ih n tc::ds)++(List.replicate (l.length-k) [sc (.int .i64 0),nilS]).flatten/\ds.length=k*2/\EL (Tl E) (l.take k) ds)) l.length
  ⟨0,_,Aj6,Aj6,by simp[upd,ad],Aj8,Aj8,rfl,(ae.new _).put Aj6 _,Akb,Aj,by simp[ad],[],?_,rfl,rfl⟩ ?_
 ·rw[ad,Sy Aj6];rfl
 clear ae;rintro m s z' ⟨k,cur,rfl,hk,au,ax,aw,av,hK,ao,ah,ak,hE⟩;have am:=hK.nobj;by_cases ai:k<l.length
 ·have aa:=Agz ai;obtain⟨c,r,ac,hd⟩:=EL.get h3 hb aa;generalize l[k]=a at hd aa ac;obtain⟨a1,a2,a3,a4,a5,rfl,ha⟩:=hz _ _ ac;simp only[Ah4,Ah6]at hd;have HN:Akc (∃ds,(cur.set ((k+1)*2) (sc (.int .i64 a2))).set ((k+1)*2+1) (sl a3 a4 a5)=(sc (.int .i64 p)::sl ih n tc::ds)++(List.replicate (l.length-(k+1)) [sc (.int .i64 0),nilS]).flatten/\ds.length=(k+1)*2/\EL (Tl E) (l.take (k+1)) ds):=by
   obtain⟨ds,e1,e2,e3⟩:=hE.out;refine⟨ds++[sc (.int .i64 a2),sl a3 a4 a5],?_,by simp[e2];omega,?_⟩
   ·rw[e1,Sy Aj6,pR (by simp[e2];omega)];simp[Nat.sub_sub]
   ·rw[Ahd,aa];exact EL.append e3 (EL.single ⟨_,ac⟩)
  clear aa ac hE ha;have an:((k:Int)+1).toNat=k+1:=Aj6
  repeat' (first|refine Z1 ?_|(refine Z8 ?_;intro yb ya)|(refine Z4 ?_;clear ya yb)|(refine Z2 ?_ ?_<;>intro h ab<;>try exact Xp)|refine Z3 ?_|exact Zt|(apply ya.out;clear ya yb))
  refine⟨l.length-(k+1),Aj6,k+1,(cur.set ((k+1)*2) (sc (.int .i64 a2))).set ((k+1)*2+1) (sl a3 a4 a5),?_⟩
  ((repeat' refine Zi ?_ ?_)<;>first|exact Xq|exact (((hK.new _).put hK.nobj _).put Aj6 _)|exact Aj|exact HN|exact (by simp[ak])|exact Xs)
 ·have aj:k=l.length:=Aj6;subst aj;obtain⟨ds,e1,e2,e3⟩:=hE.out;rw[Aig,List.replicate_zero,List.flatten_nil,Ahh]at e1;rw[Ag7]at e3;have hpl:∀c∈cur,Plain c:=fun c hc=>by
   rw[e1]at hc;simp only[Ah2]at hc;rcases hc with rfl|rfl|hc
   ·exact .inl ⟨_,rfl⟩
   ·exact .inr ⟨_,_,_,rfl,af⟩
   ·exact kD hz e3 c hc
  have HF:Akc ((∀c∈cur,Plain c)/\∃ds,cur=sc (.int .i64 p)::sl ih n tc::ds/\EL (Tl E) l ds):=⟨hpl,ds,e1,e3⟩;clear hE e1 e2 e3 hpl
  repeat' (first|refine Z1 ?_|(refine Z8 ?_;intro yb ya)|(refine Z4 ?_;clear ya yb)|(refine Z2 ?_ ?_<;>intro h ab<;>try exact Xp)|refine Z3 ?_|exact Zt|(apply ya.out;clear ya yb))
  exact⟨_,rfl,z.nobj+1,_,cur,rfl,Aj6,ah,HF.out.1,rfl,HF.out.2⟩
theorem aH (ts:List Tm):∀x∈Ac ts,∃v,x=sc v:=fun x hx=>by
 obtain⟨t,-,ht⟩:=Ah7.1 hx;simp[I3]at ht;rcases ht with rfl|rfl<;>exact⟨_,rfl⟩
theorem Adb (l:Lit)(c:List AV)(h:Qf l c):Ltr c:=by
 obtain⟨id,rfl⟩:=h;exact⟨_,_,_,_,_,rfl,aH _⟩
def G5 (r:Dx):List De:=r.head::r.body.map (·.a)
def Ep (r:Dx):List Int:=Cb (G5 r)
theorem Aah:∀{l:List Lit} {ds:List AV},EL (Tl Qf) l ds->EL Mm (l.map (·.a)) ds
 |[],_,h=>h
 |a::l,_,⟨c1,c2,⟨x,ia,e⟩,h2,rfl⟩=>⟨c1,c2,⟨ia,by simpa using (List.cons.inj e).2⟩,Aah h2,rfl⟩
theorem fU (r:Dx)(c:List AV)(hc:Re false r c)(hn:r.body.length<=1000)(z:St):ACalls Tryz.prog 133 [ag c] z fun x z'=>∃id cs,x=sl id (G5 r).length cs/\EL Mm (G5 r) cs/\Keep z z':=by
 obtain⟨ih,ib,bc,rfl,hb⟩:=hc;refine (ACalls.freeze (mD Adb _ _ _ _ (aH _) _ _ _ hb hn z)).mono fun x z' h=>?_;obtain⟨n,cs,rfl,⟨rfl,ds,rfl,h1⟩,h2⟩:=h;exact⟨0,_,by simp[G5],⟨_,_,⟨ih,rfl⟩,Aah h1,rfl⟩,h2⟩
theorem K9 (r:Dx)(c:List AV)(hc:Re false r c)(hr:R52 r)(z:St):ACalls Tryz.prog 96 [ag c] z fun x z'=>(∃id,x=sl id (Ep r).length (Al (Ep r)))/\Keep z z':=by
 have hb:=hr.bl;have hA:=fun z=>fU r c hc Aj6 z
 have hV:=fun cs ida hE z=>Hb (G5 r) cs ida hE (fun a ha=>by
  rcases Ah2.1 ha with rfl|ha
  ·exact hr.h3
  ·obtain⟨l,hl,rfl⟩:=Aib.1 ha
   exact hr.b3 l hl) (by simp[G5];omega) z
 obtain⟨ih,ib,bc,rfl,-⟩:=hc;unfold Ep;generalize Cb (G5 r)=vs at hV;refine Z9 6 [.tmp 2] Tryz.func96 ?_
 repeat' (first|refine Z1 ?_|(refine Z8 ?_;intro yb ya)|(refine Z4 ?_;clear ya yb)|(refine Z5 ?_;first|(refine Xi (hA _) ?_;rintro _ _ ⟨ida,cs,rfl,hE,ab⟩)|(refine Xi (hV _ _ (by assumption) _) ?_;rintro _ _ ⟨⟨id2,rfl⟩,aa⟩))|refine Z3 ?_|exact Zt|(apply ya.out;clear ya yb))
 exact⟨_,rfl,⟨id2,rfl⟩,Xs⟩
def lX (l:List Int)(v:Int):Int:=if v∈l then (l.idxOf v:Nat)else -1
def Fj (l:List Int)(t:Tm):Tm:=(t.1,if t.1=true then lX l t.2 else t.2)
theorem M5 (l:List Int)(ido:Nat)(kp:Int)(ids:Nat)(ts:List Tm)(hl:l.length<=100000)(hn:ts.length<=1000)(z:St):
  ACalls Tryz.prog 144 [ag [ic kp,sl ids ts.length (Ac ts)],sl ido l.length (Al l)] z fun r z'=>(∃id,r=ag [ic kp,sl id ts.length (Ac (ts.map (Fj l)))])/\Keep z z':=by
 have a4:=Ch ts;refine Z9 33 [.cell 4 122] Tryz.func144 ?_
 repeat' (first|refine Z1 ?_|(refine Z8 ?_;intro yb ya)|(refine Z4 ?_;clear ya yb)|refine Z3 ?_|exact Zt|(apply ya.out;clear ya yb))
 refine Af (fun m s z'=>∃(k i3:Nat) (xs:List AV),m=ts.length-k/\k<=ts.length/\s 1=sl ido l.length (Al l)/\s 4=ptr (z.nobj+1) 0/\s 5=ptr (z.nobj+2) 0/\s 12=sl ids ts.length (Ac ts)/\s 13=ic ts.length/\s 14=ic k/\Keep z z'/\z.nobj+2<z'.nobj/\z'.obj (z.nobj+1)=[ic 0,nilS]/\z'.obj (z.nobj+2)=[ic kp,sl i3 k xs]/\Own z z' i3 k/\xs.length=k*2/\Akc (xs=Ac ((ts.take k).map (Fj l)))) ts.length
  ⟨0,1,[],Aj6,Aj6,by simp[upd,initS],Aj8,Aj8,Aj8,Aj8,rfl,?_,?_,?_,?_,Own.nil _ _,by simp,by simp[Akc,Ac]⟩ ?_
 ·exact ((((Keep.refl z).new _).new _).new _).put Aj6 _
 ·simp only[Ab,Aa];omega
 ·rw[Ah Aj6,Ag Aka,Bs (by rw[Aa];omega) (by rw[Aa];omega)]
 ·rw[show z.nobj+2=z.nobj+1+1 by omega,Aj]
 rintro m s z' ⟨k,i3,xs,rfl,hk,h1,h4,h5,a8,a7,a6,hK,a5,ax,aw,hO,au,hX⟩;have a3:=hK.nobj;by_cases ay:k<ts.length
 ·have ac:=Agz ay;obtain⟨r2,a0⟩:=Cl ac;generalize ts[k]=w at a0 ac;obtain⟨w1,w2⟩:=w;have aa:Akc (Ac ((ts.take (k+1)).map (Fj l))=xs++I3 (Fj l (w1,w2))):=by
   rw[Akc,Ahd,ac,Ais,Ahf,List.map_singleton,Rz,<-hX.out]
  clear ac hX;cases w1 with
  |true=>
   have hP:=fun z=>Fs w2 l ido hl z;have af:Akc (xs++[sc (.bool true),ic (lX l w2)]=Ac ((ts.take (k+1)).map (Fj l))):=by rw[Akc,aa.out];rfl
   have av:∀v,(if v∈l then ((l.idxOf v:Nat):Int)else -1)=lX l v:=fun _=>rfl;rw[av]at hP;generalize lX l w2=w3 at hP af;clear av aa
   repeat' (first|refine Z1 ?_|(refine Z8 ?_;intro yb ya)|(refine Z4 ?_;clear ya yb)|(refine Z2 ?_ ?_<;>intro h ad<;>try exact Xp)|(refine Z5 ?_;refine Xi (hP _) ?_;rintro _ _ ⟨rfl,ah⟩;(have aj:=ah.nobj;have ai:=ah.obj;simp only[Aa,Ab]at aj ai))|refine Z3 ?_|exact Zt)
   rename_i z2;have am:Keep z (z2.put z'.nobj [sc (.bool true),ic w3]):=(((hK.new _).put hK.nobj _).trans ah).put Aj6 _;refine Bg (by first|exact Ea) am (Own.put (Own.keep (Own.put (Own.new hO _) _ _) ah) _ _) (by decide) (by rfl) au (by rfl) (by rfl) (by decide) Aj6 Aj6 ?_;intro idn zn ak an ap ab ao ae;simp only[Ab,Aa]at ab;refine Z3 ?_
   repeat' (first|refine Z1 ?_|(refine Z8 ?_;intro yb ya)|(refine Z4 ?_;clear ya yb)|refine Z3 ?_|exact Zt|(apply ya.out;clear ya yb))
   refine⟨ts.length-(k+1),Aj6,k+1,idn,xs++[sc (.bool true),ic w3],?_⟩
   ((repeat' refine Zi ?_ ?_)<;>first|exact Xq|exact (an.put Aj6 _)|exact (Own.put ak _ _)|exact af|exact Xs)
  |false=>
   have af:Akc (xs++[sc (.bool false),ic w2]=Ac ((ts.take (k+1)).map (Fj l))):=by rw[Akc,aa.out];rfl
   clear aa
   repeat' (first|refine Z1 ?_|(refine Z8 ?_;intro yb ya)|(refine Z4 ?_;clear ya yb)|(refine Z2 ?_ ?_<;>intro h ad<;>try exact Xp)|refine Z3 ?_|exact Zt)
   have am:Keep z ((z'.new [sc (.bool false),ic 0]).put z'.nobj [sc (.bool false),ic w2]):=(hK.new _).put hK.nobj _;refine Bg (by first|exact Ea) am (Own.put (Own.new hO _) _ _) (by decide) (by rfl) au (by rfl) (by rfl) (by decide) Aj6 Aj6 ?_;intro idn zn ak an ap ab ao ae;simp only[Ab,Aa]at ab;refine Z3 ?_
   repeat' (first|refine Z1 ?_|(refine Z8 ?_;intro yb ya)|(refine Z4 ?_;clear ya yb)|refine Z3 ?_|exact Zt|(apply ya.out;clear ya yb))
   refine⟨ts.length-(k+1),Aj6,k+1,idn,xs++[sc (.bool false),ic w2],?_⟩
   ((repeat' refine Zi ?_ ?_)<;>first|exact Xq|exact (an.put Aj6 _)|exact (Own.put ak _ _)|exact af|exact Xs)
 ·have az:k=ts.length:=Aj6;subst az;rw[Ag7]at hX
  repeat' (first|refine Z1 ?_|(refine Z8 ?_;intro yb ya)|(refine Z4 ?_;clear ya yb)|(refine Z2 ?_ ?_<;>intro h ad<;>try exact Xp)|refine Z3 ?_|exact Zt|(apply ya.out;clear ya yb))
  exact⟨_,rfl,⟨i3,by rw[hX.out]⟩,hK.put Aj6 _⟩
end Go.Proofs.YtmoeoppbmhfbpabGreatDoorL
