import Derived.Test.YtmoeoppbmhfbpabGreatDoorIDocG
import Derived.Test.YtmoeoppbmhfbpabGreatDoorISpaE
import Derived.Test.YtmoeoppbmhfbpabGreatDoorIPrtF
set_option maxHeartbeats 64000000
set_option maxRecDepth 100000
set_option linter.all false
open List renaming length->Z
namespace Go.Proofs.YtmoeoppbmhfbpabGreatDoorI
open Go.Abs
def NH (fz:Bool)(l:List AB)(giv:List AC)(C:AC->Prop):Prop:=(∀a∈giv,C a)/\∀A':List AC,(∀a∈A',C a)->(∀a∈giv,a∈A')->∀x∈l,∀h,Tn fz A' x h->C h
structure Ze (fz:Bool)(l:List AB)(giv:List AC)(limit:Nat)(A:List AC):Prop where
 gv:∀a∈giv,a∈A
 nd:A.Nodup
 len:Z A<=limit
 cl:∀x∈l,CR fz A [] x
 least:∀C,NH fz l giv C->∀a∈A,C a
def eP (fz:Bool)(l:List AB)(giv:List AC)(limit:Nat):Prop:=∀C,NH fz l giv C->∃L:List AC,L.Nodup/\limit<Z L/\∀a∈L,C a
def Qn (fz:Bool)(limit:Nat)(x:AB):Prop:=∃c0 p,CL fz c0 p x/\∀a,a<=limit->Er c0 a p+2002<=1000000000000
theorem Own.ofLive {σ0 σ σ' io io' n n'}(hK:AE σ0 σ)(hO:Own σ0 σ io n)(hL:Live σ' io' n')(hid:io'=io\/io'=1\/σ.D+2<=io'):Own σ0 σ' io' n':=by
 rcases hL with h|⟨k,e1,e2,e3,e4⟩
 ·exact .inl h
 ·refine .inr ⟨k,e1,?_,e2,e3,e4⟩;rcases hid with h|h|h
  ·rcases hO with⟨h1,-⟩|⟨k',f1,f2,-⟩
   ·omega
   ·omega
  ·omega
  ·have:=hK.D;omega
theorem AE.kh {σ0 σ σ' io n}(hK:AE σ0 σ)(hO:Own σ0 σ io n)(h:KH io σ σ'):AE σ0 σ':=
 ⟨BO hK.B h.B,fun o ho=>(h.C o (By ho hK.B)).trans (hK.C o ho),fun o ho=>(h.ver o (By ho hK.B)).trans (hK.ver o ho),BO hK.D h.D,fun k hk=>(h.top k (By hk hK.D) (fun e=>by
  rcases hO with⟨h1,-⟩|⟨k',f1,f2,-⟩<;>omega)).trans (hK.top k hk)⟩
theorem Own.kh {σ0 σ σ'}{ia io n m:Nat}(hO:Own σ0 σ ia n)(aa:ia=1\/io=1\/ia≠io)(h:KH io σ σ'):Own σ0 σ' ia n:=by
 rcases hO with h1|⟨k,f1,f2,f3,f4,f5⟩
 ·exact .inl h1
 ·refine .inr ⟨k,f1,f2,By f3 h.D,?_,f5⟩;rw[h.top k f3 AA];exact f4
theorem Own.apart {σ0 σ ia io io' n}(hO:Own σ0 σ ia n)(aa:ia=1\/io=1\/ia≠io)(hid:io'=io\/io'=1\/σ.D+2<=io'):ia=1\/io'=1\/ia≠io':=by
 rcases hid with rfl|h|h
 ·exact aa
 ·exact .inr (.inl h)
 ·rcases hO with⟨h1,-⟩|⟨k,f1,f2,f3,-⟩
  ·exact .inl h1
  ·exact .inr (.inr AA)
structure GG (fz:Bool)(l:List AB)(giv:List AC)(A:List AC)(cA:List AV):Prop where
 el:EL Bo A cA
 gnd:∀a∈A,aF a
 cl:∀a∈A,EU a
 nd:A.Nodup
 gv:∀a∈giv,a∈A
 least:∀C,NH fz l giv C->∀a∈A,C a
structure GV (fz:Bool)(l:List AB)(A:List AC)(mo:Int)(i:Nat)(O:List AC)(oc:List AV):Prop where
 el:EL Bo O oc
 cl:∀a∈O,EU a
 nd:O.Nodup
 new:∀h∈O,h∉A/\∃x∈l,Tn fz A x h
 done:(Z O:Int)<=mo->∀x∈l.take i,CR fz A O x
theorem GV.step {fz l A cA mo i O O' oc oc' x c0 p}(hA:E6 A cA)(hH:CL fz c0 p x)(h:GV fz l A mo i O oc)(hx:l[i]?=some x)(g:iJ fz A mo x O O')(he:EL Bo O' oc'):GV fz l A mo (i+1) O' oc':=by
 obtain⟨nw,e,f⟩:=g.ext;have ab:=BD hx;refine⟨he,fun a ha=>?_,g.nd,fun a ha=>?_,fun aa y hy=>?_⟩
 ·rw[e]at ha;rcases AW.1 ha with h'|h'
  ·exact h.cl a h'
  ·exact SR hA hH (f a h').1
 ·rw[e]at ha;rcases AW.1 ha with h'|h'
  ·exact h.new a h'
  ·exact⟨(f a h').2,x,ab,(f a h').1⟩
 ·rw[AU,hx]at hy;rcases AW.1 hy with h'|h'
  ·exact (h.done (by rw[e]at aa;simp at aa;omega) y h').mono fun a ha=>by rw[e];exact FZ _ ha
  ·simp at h';subst h';exact g.done aa
theorem GG.A {fz l giv A cA}(h:GG fz l giv A cA)(hl:Z A<=1000):E6 A cA:=⟨h.el,hl,h.gnd,h.cl⟩
theorem GG.grow {fz l giv A O cA oc c2 mo i limit}(h:GG fz l giv A cA)(hl:Z A<=1000)(hr:∀x∈l,Qn fz limit x)(g:GV fz l A mo i O oc)(he:EL Bo (A++O) c2):GG fz l giv (A++O) c2:=by
 refine⟨he,fun a ha=>?_,fun a ha=>?_,?_,fun a ha=>FZ _ (h.gv a ha),fun C hC a ha=>?_⟩
 ·rcases AW.1 ha with h'|h'
  ·exact h.gnd a h'
  ·obtain⟨-,x,hx,hs⟩:=g.new a h';obtain⟨c0,p,hH,-⟩:=hr x hx;exact XO h.gnd hH.saf hs
 ·rcases AW.1 ha with h'|h'
  ·exact h.cl a h'
  ·exact g.cl a h'
 ·rw[JK];exact⟨h.nd,g.nd,fun a ha b hb e=>(g.new b hb).1 (e ▸ ha)⟩
 ·rcases AW.1 ha with h'|h'
  ·exact h.least C hC a h'
  ·obtain⟨-,x,hx,hs⟩:=g.new a h';exact hC.2 A (h.least C hC) h.gv x hx a hs
def SC (fz:Bool)(l:List AB)(giv:List AC)(limit:Nat)(r:AV):Prop:=(∃A ida cA,r=tp [sl ida (Z A) cA,sc (.bool true)]/\E6 A cA/\Ze fz l giv limit A)\/(r=tp [nilS,sc (.bool false)]/\eP fz l giv limit)
theorem Q3 (fz l cs idl giv cg idg limit)(hl:EL AN l cs)(cw:Z l<=1000)(hg:E6 giv cg)(b3:limit<=900)(cx:Z giv<=limit)(hr:∀x∈l,Qn fz limit x)(σ):
  AF Tryz.prog 116 [sl idl (Z l) cs,sl idg (Z giv) cg,sc (.bool fz),ic limit] σ fun r σ'=>SC fz l giv limit r/\AE σ σ':=by
 have cy:=EL.length Cj hl;have b6:=EL.length Bb hg.el;refine Z9 96 [.tmp 8,.tmp 9] Tryz.func116 ?_
 refine zz ?_
 refine Ae (fun m s σ'=>∃(i ia:Nat) (A:List AC) (cA:List AV),m=Z giv-i/\i<=Z giv/\s 0=sl idl (Z l) cs/\s 1=sl idg (Z giv) cg/\s 2=sc (.bool fz)/\s 3=ic limit/\s 10=sl ia (Z A) cA/\s 11=ic i/\AE σ σ'/\Own σ σ' ia (Z A)/\Z cA=Z A*3/\Z A<=i/\AD (EL Bo A cA/\A.Nodup/\∀a,a∈A↔a∈giv.take i)) (Z giv)
  ⟨0,1,[],[],AA,AA,by simp[upd,AM],by simp[upd,AM],by simp[upd,AM],by simp[upd,AM],AG,AG,AE.refl _,Own.nil _ _,rfl,by simp,rfl,IS,by simp⟩ ?_
 rintro m s σ' ⟨i,ia,A,cA,rfl,hi,h0,h1,h2,h3,an,cr,hK,hO,ax,cp,hH⟩;by_cases am:i<Z giv
 ·have aa:=AJ am;have ay:=AT am;obtain⟨it,r,hd⟩:=Cf hg.el aa;generalize giv[i]=w at aa ay hd;have co:∀a∈A,Z a.A<=1000:=fun a ha=>(hg.cl a (ND ((hH.o.2.2 a).1 ha))).2.2;have ad:=fun σ=>H9 A cA ia w _ hH.o.1 ⟨it,rfl⟩ AA co σ;have bu:AD (giv.take (i+1)=giv.take i++[w]):=by rw[AD,AU,aa,BJ]
  clear aa;by_cases ak:w∈A
  ·have ad:∀σ,AF Tryz.prog 154 [sl ia (Z A) cA,ag [sc (.bool w.nt),str w.B,sl it (Z w.A) (w.A.map str)]] σ fun r σ'=>r=sc (.bool true)/\AE σ σ':=fun σ=>(ad σ).mono fun r σ' ⟨b,h1,h2,h3⟩=>⟨by rw[h1,h2.2 ak],h3⟩
   have HN:AD (EL Bo A cA/\A.Nodup/\∀a,a∈A↔a∈giv.take (i+1)):=⟨hH.o.1,hH.o.2.1,fun a=>by
    rw[bu.o,AW,<-hH.o.2.2 a,GF]
    exact⟨.inl,fun h=>h.elim id fun e=>e ▸ ak⟩⟩
   clear ak hH
   refine qb ?_;intro yd yb;refine Xi (ad _) ?_;rintro _ _ ⟨rfl,af⟩;refine pz ?_
   refine⟨Z giv-(i+1),AA,i+1,ia,A,cA,?_⟩
   exact ql HN (hK.trans af) (Own.keep hO af)
  ·have ad:∀σ,AF Tryz.prog 154 [sl ia (Z A) cA,ag [sc (.bool w.nt),str w.B,sl it (Z w.A) (w.A.map str)]] σ fun r σ'=>r=sc (.bool false)/\AE σ σ':=fun σ=>(ad σ).mono fun r σ' ⟨b,h1,h2,h3⟩=>⟨by
    cases b with
    |false=>exact h1
    |true=>exact absurd (h2.1 rfl) ak,h3⟩
   have HN:AD (EL Bo (A++[w]) (cA++[sc (.bool w.nt),str w.B,sl it (Z w.A) (w.A.map str)])/\(A++[w]).Nodup/\∀a,a∈A++[w]↔a∈giv.take (i+1)):=⟨EL.append hH.o.1 (EL.single ⟨it,rfl⟩),by
     rw[JK];exact⟨hH.o.2.1,by simp,fun a ha b hb e=>ak (by rw[GF]at hb;rw[<-hb,<-e];exact ha)⟩,fun a=>by
    rw[bu.o,AW,AW,<-hH.o.2.2 a]⟩
   clear ak hH
   refine qb ?_;intro yd yb;refine Xi (ad _) ?_;rintro _ _ ⟨rfl,af⟩;(have cj:=hK.trans af;have ca:=Own.keep hO af);refine qd ?_;intro yd yb;intro idn σn bc ck be aw bd av;refine pz ?_
   refine⟨Z giv-(i+1),AA,i+1,idn,A++[w],cA++[sc (.bool w.nt),str w.B,sl it (Z w.A) (w.A.map str)],?_⟩
   ((repeat' refine Zi ?_ ?_)<;>first|exact Xq|exact HN|exact (by rw[AX];exact bc)|exact Xs)
 ·have hil:i=Z giv:=AA;subst hil;have bw:AD (GG fz l giv A cA):=by
   obtain⟨e1,e2,e3⟩:=hH.o;rw[AS]at e3;exact⟨e1,fun a ha=>hg.gnd a ((e3 a).1 ha),fun a ha=>hg.cl a ((e3 a).1 ha),e2,fun a ha=>(e3 a).2 ha,fun C hC a ha=>hC.1 a ((e3 a).1 ha)⟩
  have a3:Z A<=limit:=AA;clear hH cp hi
  refine pz ?_
  refine Ae (fun m s σ'=>∃(r ia:Nat) (A:List AC) (cA:List AV),m=limit+1-r/\r<=limit+1/\s 0=sl idl (Z l) cs/\s 2=sc (.bool fz)/\s 3=ic limit/\s 10=sl ia (Z A) cA/\s 12=ic r/\AE σ σ'/\Own σ σ' ia (Z A)/\Z cA=Z A*3/\Z A<=limit/\r<=Z A/\AD (GG fz l giv A cA)) (limit+1)
   ⟨0,ia,A,cA,AA,AA,AI,AI,AI,AI,AG,hK,hO,ax,a3,AA,bw.o⟩ ?_
  clear h0 h1 h2 h3 an cr hK hO ax bw a3 am;rintro m s σ1 ⟨r,ia,A,cA,rfl,ct,h0,h2,h3,an,a4,hK,hO,ax,a3,cu,hS⟩;have bh:r<=limit:=AA;have bp:E6 A cA:=hS.o.A AA;obtain⟨mo,a7⟩:∃mo:Int,mo=(limit:Int)-(Z A:Int):=⟨_,rfl⟩;have a6:0<=mo:=AA;have a5:mo<=900:=AA;have c8:AD _:=a7;have b0:(limit:Int)-(Z A:Int)=mo:=a7.symm;have cv:mo<=(limit:Int)-(Z A:Int)/\(limit:Int)-(Z A:Int)<=mo:=AA;clear a7
  refine pz ?_
  refine Ae (fun m s σ'=>∃(i io:Nat) (O:List AC) (oc:List AV),m=Z l-i/\i<=Z l/\s 0=sl idl (Z l) cs/\s 2=sc (.bool fz)/\s 3=ic limit/\s 10=sl ia (Z A) cA/\s 12=ic r/\s 13=ic (Z A)/\s 14=sl io (Z O) oc/\s 15=ic i/\AE σ σ'/\Own σ σ' ia (Z A)/\Own σ σ' io (Z O)/\(ia=1\/io=1\/ia≠io)/\(Z O:Int)<=mo+1/\AD (GV fz l A mo i O oc)) (Z l)
   ⟨0,1,[],[],AA,AA,AI,AI,AI,AI,AI,AI,AG,AG,hK,hO,Own.nil _ _,.inr (.inl rfl),by simp;omega,rfl,by simp,IS,by simp,fun _ x hx=>by simp at hx⟩ ?_
  clear h0 h2 h3 an a4 hK hO;rintro m s σ2 ⟨i,io,O,oc,rfl,hi,h0,h2,h3,an,a4,br,bq,cq,hK,hO,az,bb,cb,ac⟩;by_cases am:i<Z l
  ·have aa:=AJ am;obtain⟨ih,id,b,rr,hb,hd⟩:=Ds hl aa;have bf:=hr _ (AT am);generalize l[i]=x at aa bf hd hb;obtain⟨c0,p,bn,bl⟩:=bf;have hcost:=bl (Z A) a3;have cn:=fun σ (hL:Live σ io (Z O))=>sE fz A cA ia mo c0 p bp a6 a5 x [sc (.bool x.o),sc (.bool x.h.nt),str x.h.B,sl ih (Z x.h.A) (x.h.A.map str),sl id (Z x.A) b] ⟨[sc (.bool x.h.nt),str x.h.B,sl ih (Z x.h.A) (x.h.A.map str)],id,b,⟨ih,rfl⟩,hb,rfl⟩ bn hcost O oc io ac.o.el ac.o.cl ac.o.nd cb σ hL;have ce:Live σ2 io (Z O):=by
    rcases az with h|⟨k,f1,f2,f3,f4,f5⟩
    ·exact .inl h
    ·exact .inr ⟨k,f1,f3,f4,f5⟩
   have bv:AD (∀O' oc',iJ fz A mo x O O'->EL Bo O' oc'->GV fz l A mo (i+1) O' oc'):=fun O' oc' g he=>GV.step bp bn ac.o aa g he;clear aa bl
   refine qb ?_;intro yd yb;refine Xi (cn _ ce) ?_;rintro _ _ ⟨io',O',oc',rfl,bo,ci,ap,au,ai⟩;(have HN:AD _:=bv.o O' oc' ai bo;have ao:=ai.len;clear bv bo ai);refine pz ?_
   rename_i σ3;have cm:=AE.kh hK az au;have cd:=Own.kh (m:=0) hO bb au;have cc:=Own.ofLive hK az ci ap;have ba:=Own.apart hO bb ap;refine⟨Z l-(i+1),AA,i+1,io',O',oc',?_⟩
   ((repeat' refine Zi ?_ ?_)<;>first|exact Xq|exact HN|exact cm|exact cd|exact cc|exact ba|exact ao|exact Xs)
  ·have hil:i=Z l:=AA;subst hil;have b2:=EL.length Bb ac.o.el;have bm:Z A+Z O<=limit+1:=AA
   refine pz ?_
   refine Ae (fun m s σ'=>∃(q ia2:Nat) (L:List AC) (c2:List AV),m=Z O-q/\q<=Z O/\s 0=sl idl (Z l) cs/\s 2=sc (.bool fz)/\s 3=ic limit/\s 10=sl ia2 (Z L) c2/\s 12=ic r/\s 13=ic (Z A)/\s 14=sl io (Z O) oc/\s 16=ic q/\AE σ σ'/\Own σ σ' ia2 (Z L)/\Z c2=Z L*3/\Z L<=Z A+q/\Z A+q<=Z L/\AD (L=A++O.take q/\EL Bo L c2)) (Z O)
    ⟨0,ia,A,cA,AA,AA,AI,AI,AI,AI,AI,AI,AI,AG,hK,hO,ax,AA,AA,by simp,hS.o.el⟩ ?_
   clear h0 h2 h3 an a4 br bq cq hK hO az bb;rintro m s σ3 ⟨q,ia2,L,c2,rfl,hq,h0,h2,h3,an,a4,br,bq,c7,hK,hO,cz,c6,c5,ah⟩;by_cases a8:q<Z O
   ·have aa:=AJ a8;have ay:=AT a8;obtain⟨it,rr,hd⟩:=Cf ac.o.el aa;generalize O[q]=w at aa ay hd;have cf:∀a∈L,Z a.A<=1000:=fun a ha=>by
     rw[ah.o.1]at ha;rcases AW.1 ha with h'|h'
     ·exact (hS.o.cl a h').2.2
     ·exact (ac.o.cl a (ND h')).2.2
    have bg:w∉L:=by
     rw[ah.o.1];intro h;rcases AW.1 h with h'|h'
     ·exact (ac.o.new w ay).1 h'
     ·obtain⟨z,hz⟩:=CO h';have bz:=(BG.1 hz).1;rw[CV]at bz;rw[II,if_pos AA]at hz;have:=(List.getElem?_inj a8 ac.o.nd).1 (aa.trans hz.symm);omega
    have ad:=fun σ=>H9 L c2 ia2 w _ ah.o.2 ⟨it,rfl⟩ AA cf σ
    have ad:∀σ,AF Tryz.prog 154 [sl ia2 (Z L) c2,ag [sc (.bool w.nt),str w.B,sl it (Z w.A) (w.A.map str)]] σ fun r σ'=>r=sc (.bool false)/\AE σ σ':=fun σ=>(ad σ).mono fun r σ' ⟨b,h1,h2,h3⟩=>⟨by
     cases b with
     |false=>exact h1
     |true=>exact absurd (h2.1 rfl) bg,h3⟩
    have b5:(Z L:Int)<=(limit:Int):=AA;have b4:decide ((Z L:Int)<=(limit:Int))=true:=by simpa using b5
    have HN:AD (L++[w]=A++O.take (q+1)/\EL Bo (L++[w]) (c2++[sc (.bool w.nt),str w.B,sl it (Z w.A) (w.A.map str)])):=⟨by rw[AU,aa,ah.o.1];simp,EL.append ah.o.2 (EL.single ⟨it,rfl⟩)⟩;clear aa bg
    refine qb ?_;intro yd yb;refine Xi (ad _) ?_;rintro _ _ ⟨rfl,af⟩;(have cj:=hK.trans af;have ca:=Own.keep hO af);refine qd ?_;intro yd yb;intro idn σn bc ck be aw bd av;refine pz ?_
    refine⟨Z O-(q+1),AA,q+1,idn,L++[w],c2++[sc (.bool w.nt),str w.B,sl it (Z w.A) (w.A.map str)],?_⟩
    ((repeat' refine Zi ?_ ?_)<;>first|exact Xq|exact HN|exact (by rw[AX];exact bc)|exact Xs)
   ·have b1:q=Z O:=AA;subst b1;have ae:L=A++O:=by have:=ah.o.1;rw[AS]at this;exact this
    have aj:AD (GG fz l giv L c2):=by
     rw[ae];exact hS.o.grow AA hr ac.o (by rw[<-ae];exact ah.o.2)
    by_cases a9:limit<Z L
    ·have b9:decide ((Z L:Int)>(limit:Int))=true:=by simp;omega
     have b8:decide ((limit:Int)<(Z L:Int))=true:=by simp;omega
     have HR:AD (eP fz l giv limit):=fun C hC=>⟨L,aj.o.nd,a9,aj.o.least C hC⟩;clear ae
     refine pz ?_
     first|exact⟨_,rfl,.inr ⟨rfl,HR.o⟩,hK⟩|exact⟨_,rfl,.inr ⟨rfl,HR.o⟩⟩
    ·have b9:decide ((Z L:Int)>(limit:Int))=false:=by simp;omega
     have b8:decide ((limit:Int)<(Z L:Int))=false:=by simp;omega
     by_cases hz:Z O=0
     ·have a0:O=[]:=GQ hz;have he:((Z L:Int)==(Z A:Int))=true:=by rw[ae,a0];simp
      have HR:AD (SC fz l giv limit (tp [sl ia2 (Z L) c2,sc (.bool true)])):=.inl ⟨L,ia2,c2,rfl,aj.o.A AA,aj.o.gv,aj.o.nd,AA,fun x hx h hs=>by
       have b7:=ac.o.done (by rw[hz];omega) x (by rw[AS];exact hx);have ch:L=A:=by rw[ae,a0,FA]
       rw[ch]at hs⊢;rcases b7 h hs with h'|h'
       ·exact .inl h'
       ·rw[a0]at h';exact .inr h',aj.o.least⟩
      clear ae a0
      refine pz ?_
      first|exact⟨_,rfl,HR.o,hK⟩|exact⟨_,rfl,HR.o⟩
     ·have he:((Z L:Int)==(Z A:Int))=false:=by rw[ae];simp;omega
      have bi:Z A+1<=Z L:=by rw[ae];simp;omega
      clear ae
      refine pz ?_
      refine⟨limit+1-(r+1),AA,r+1,ia2,L,c2,?_⟩
      exact qh aj
def aB (t:Tx):Tx:=if Ac t=true then 35::t else t
def Rp (a:AC):AC:=⟨a.nt,a.B,a.A.map aB⟩
def oth (li:List AB)(n i:Nat):List AB:=((li.take i).eraseIdx n).filter fun y=>!y.o
theorem ZX {li n i y}(h:li[i]?=some y):oth li n (i+1)=oth li n i++(if i=n\/y.o=true then []else [y]):=by
 have hi:=(BG.1 h).1;have hl:Z (li.take i)=i:=by rw[CV];omega
 unfold oth;rw[AU,h,BJ];by_cases hn:i=n
 ·subst hn;rw[List.eraseIdx_append_of_length_le AA,hl,KB,if_pos (.inl rfl),ME (l:=li.take i) AA];simp
 ·have:(li.take i++[y]).eraseIdx n=(li.take i).eraseIdx n++[y]:=by
   rcases Nat.lt_or_gt_of_ne hn with h'|h'
   ·rw[List.eraseIdx_append_of_length_le AA,ME (l:=li.take i) AA,ME (l:=[y]) (by simp;omega)]
   ·rw[List.eraseIdx_append_of_lt_length AA]
  rw[this,IZ];cases hy:y.o with
  |true=>rw[if_pos (.inr rfl)];simp[hy]
  |false=>rw[if_neg (by simp[hn])];simp[hy]
theorem Rb {li n i y}(h:y∈oth li n i):y∈li/\y.o=false:=by
 unfold oth at h;rw[BV]at h;exact⟨ND (FY h.1),by simpa using h.2⟩
theorem qO {t}(h:(Au t).1=0):∀x∈Cb t,Dx x=true:=by
 have hs:∀i,i<Z (Cb t)->Df (Cb t) i=false:=by
  unfold Au at h;split at h
  ·simp at h
  split at h
  ·simp at h
  unfold Cn at h;split at h
  ·simp at h
  split at h
  ·simp at h
  ·rename_i hk;exact Lv hk
 intro x hx;obtain⟨i,hi⟩:=CO hx;have h1:=hs i (BG.1 hi).1;unfold Df at h1;rw[hi]at h1;simpa using h1
theorem oD {p}(h:Lc p)(hl:Z p<=1000):Clean p:=⟨fun b hb=>by
 have:=h.2 b hb
 refine⟨?_,?_,?_⟩<;>(rintro rfl;revert this;decide),hl⟩
theorem sX {p}(h:Pm p)(hl:Z p<=1000):Clean p:=⟨fun b hb=>by
 have:=h.2 b hb
 refine⟨?_,?_,?_⟩<;>(rintro rfl;revert this;decide),hl⟩
theorem gY {a}(h:D3 a)(hs:short a):EU a:=⟨oD h.1 hs.1,fun t ht=>sX (h.2.2.2 t ht) (hs.2.2 t ht),hs.2.1⟩
theorem sU {a p}(ha:a<=200)(hp:p<=5):Er 0 a p<=10000000000:=by
 have h1:∀p,Er 0 a p<=Er 0 200 p:=by
  intro p;induction p with
  |zero=>exact AR _
  |succ p ih=>exact JN (MJ ha ih) _
 refine BO (h1 p) ?_;have:p=0\/p=1\/p=2\/p=3\/p=4\/p=5:=AA;rcases this with rfl|rfl|rfl|rfl|rfl|rfl<;>decide
structure EG (x:AB):Prop where
 w:De x
 sh:x.short
 va:∀a∈Af x,VA a
 dt:∀a∈Af x,∀w∈a.A,DT w
 safe:Dx x=true
theorem Hs {t}(h:(Au t).1=0):∀x∈Cb t,EG x:=by
 obtain⟨hlen,l,r,hp⟩:=Fq h;obtain⟨g1,g2,g3,g4⟩:=Dd AA hp;intro x hx;have aa:=hx;rw[g2]at hx;exact⟨g4 x hx,Ty AA hp x hx,Sx 16 t l r hp x hx,Lo (T:=DT) W9 16 t l r hp x hx,qO h x aa⟩
theorem EG.cl {x}(h:EG x)(ho:x.o=false):iM x:=
 ⟨ho,gY ((h.w.2.2 ho).1) h.sh.1,fun a ha=>gY ((h.w.2.2 ho).2.2.2 a ha) (h.sh.2 a ha)⟩
theorem EG.rule {x}(h:EG x)(ho:x.o=false):Qn true 200 x:=by
 have hb:=(h.w.2.2 ho).2.2.1;refine⟨0,x.A.countP (Ix true),⟨h.cl ho,AA,fun v hv hm=>?_,rfl,.inr fun a _=>rfl⟩,fun a ha=>?_⟩
 ·rcases hm with hm|⟨a,-,hp,-⟩
  ·have hs:=h.safe;unfold Dx at hs;simp only[GH,EB]at hs;have h1:=hs x.h (by simp[Af,ho]);unfold oF at h1;simp only[MV,EB]at h1;have h2:Te x v=false:=by simpa using h1 v hm
   unfold Te at h2;rw[hv,ID]at h2;have h3:Iu x v=true:=by simpa using h2
   unfold Iu at h3;simp only[CW,BX,EH]at h3;obtain⟨a,ha,u,hu,-,rfl⟩:=h3;exact⟨a,ha,rfl,hu⟩
  ·cases hp
 ·have:=sU (a:=a) (p:=x.A.countP (Ix true)) ha (BO List.countP_le_length hb);omega
def Wd (b:UInt8):Prop:=B6 b.toNat=true\/Bw b.toNat=true\/A8 b.toNat=true
theorem WK {b}(h:Wd b):b∉[33,40,41,44,45,46,58,63]:=fun hm=>by
 simp only[BB,EN,DY]at hm;rcases hm with rfl|rfl|rfl|rfl|rfl|rfl|rfl|rfl<;>revert h<;>unfold Wd<;>decide
theorem pg {t}(h:Pm t){b}(hb:b∈t):Wd b:=.inr (h.2 b hb)
theorem jf {t}(h:Lc t){b}(hb:b∈t):Wd b:=.inl (h.2 b hb)
theorem pY {ts b}(h:b∈Cg ts):b=44\/∃t∈ts,b∈t:=by
 unfold Cg at h;obtain⟨t,ht,hb⟩:=DR.1 h;rcases BB.1 hb with rfl|hb
 ·exact .inl rfl
 ·exact .inr ⟨t,ht,hb⟩
theorem qA {ts b}(h:b∈Bu ts):b=44\/∃t∈ts,b∈t:=by
 cases ts with
 |nil=>cases h
 |cons t ts=>
  rcases AW.1 h with h|h
  ·exact .inr ⟨t,by simp,h⟩
  ·rcases pY h with h|⟨u,hu,hb⟩
   ·exact .inl h
   ·exact .inr ⟨u,by simp[hu],hb⟩
theorem xL {a}(h:D3 a){b}(hb:b∈A3 a):Wd b\/b=40\/b=41\/b=44:=by
 unfold A3 at hb;rcases AW.1 hb with hb|hb
 ·exact .inl (jf h.1 hb)
 ·rcases BB.1 hb with rfl|hb
  ·exact .inr (.inl rfl)
  ·rcases AW.1 hb with hb|hb
   ·rcases qA hb with rfl|⟨t,ht,hb⟩
    ·exact .inr (.inr (.inr rfl))
    ·exact .inl (pg (h.2.2.2 t ht) hb)
   ·simp at hb;exact .inr (.inr (.inl hb))
theorem ZB {b c:UInt8}:((b.toNat:Int)==(c.toNat:Int))=decide (b=c):=by
 by_cases h:b=c
 ·subst h;simp
 ·rw[decide_eq_false h];have:b.toNat≠c.toNat:=fun e=>h (KF.1 e);simpa using (by omega:¬(b.toNat:Int)=c.toNat)
theorem jI {w}(h:UT w)(σ):AF Tryz.prog 149 [ag [sc (.bool (Ap w).1),ic (Ap w).2]] σ fun r σ'=>r=str w/\AE σ σ':=by
 have:=jJ (Ap w) h.dec.2 σ;rwa[h.dec.1]at this
theorem eM (N idn ids a)(ha:a.B∈N)(hN:Z N<=2000)(hn:Z a.A<=1000)(hpl:Z a.B<=1000)(hw:∀t∈a.A,UT t)(σ):
  AF Tryz.prog 265 [ag [ic (N.idxOf a.B:Nat),sl ids (Z a.A) (A2 a.A)],sl idn (Z N) (N.map str)] σ fun r σ'=>r=ic (Z (A3 a):Nat)/\AE σ σ':=by
 have au:=Fp a.A;have aj:=CY ha;have an:(N.map str).drop (N.idxOf a.B)=str a.B::(N.map str).drop (N.idxOf a.B+1):=by
  have:=A7 aj;rwa[FT aj]at this
 generalize N.idxOf a.B=ix at aj an;refine Z9 34 [.tmp 4] Tryz.func265 ?_
 refine zz ?_
 refine Ae (fun m s σ'=>∃(k n:Nat),m=Z a.A-k/\k<=Z a.A/\s 5=ic n/\s 16=sl ids (Z a.A) (A2 a.A)/\s 17=ic (Z a.A)/\s 18=ic k/\AE σ σ'/\n<=1002+k*1001/\AD (n=Z a.B+2+Z (Bu (a.A.take k)))) (Z a.A)
  ⟨0,Z a.B+2,AA,AA,AG,AG,AG,rfl,Xs,AA,by simp[AD,Bu]⟩ ?_
 rintro m s σ' ⟨k,n,rfl,hk,h5,ay,ax,aw,hK,av,hA⟩;have ao:=hK.B;by_cases af:k<Z a.A
 ·have aa:=AJ af;have hu:=hw a.A[k] (AT af);obtain⟨r,hd⟩:=Gu aa;generalize a.A[k]=w at aa hu hd;have ac:AD (Z a.B+2+Z (Bu (a.A.take (k+1)))=n+((if k=0 then 0 else 1)+Z w)):=by
   rw[AD,AU,aa,BJ,Vi,hA.o];have e:(a.A.take k=[])↔k=0:=by
    rw[List.take_eq_nil_iff];constructor
    ·rintro (h|h)
     ·exact h
     ·rw[h]at af;cases af
    ·exact .inl
   by_cases h0:k=0
   ·rw[if_pos (e.2 h0),if_pos h0];simp;omega
   ·rw[if_neg (fun h=>h0 (e.1 h)),if_neg h0];simp;omega
  have hT:=fun σ=>jI hu σ;have ap:=hu.2.2.1;clear aa hA hu;by_cases ad:k=0
  ·have am:decide ((0:Int)<(k:Int))=false:=by simp[ad]
   have ac:AD (n+Z w=Z a.B+2+Z (Bu (a.A.take (k+1)))):=by rw[AD,ac.o,if_pos ad];omega
   clear ad
   refine qb ?_;intro yd yb;refine Xi (hT _) ?_;rintro _ _ ⟨rfl,ab⟩;(have ah:=ab.C;have ai:=ab.B);refine pz ?_
   refine⟨Z a.A-(k+1),AA,k+1,n+Z w,?_⟩
   ((repeat' refine Zi ?_ ?_)<;>first|exact Xq|exact (((hK.new _).put hK.B _).trans ab)|exact ac|exact Xs)
  ·have am:decide ((0:Int)<(k:Int))=true:=by simp;omega
   have ac:AD (n+1+Z w=Z a.B+2+Z (Bu (a.A.take (k+1)))):=by rw[AD,ac.o,if_neg ad];omega
   clear ad
   refine qb ?_;intro yd yb;refine Xi (hT _) ?_;rintro _ _ ⟨rfl,ab⟩;(have ah:=ab.C;have ai:=ab.B);refine pz ?_
   refine⟨Z a.A-(k+1),AA,k+1,n+1+Z w,?_⟩
   ((repeat' refine Zi ?_ ?_)<;>first|exact Xq|exact (((hK.new _).put hK.B _).trans ab)|exact ac|exact Xs)
 ·have ak:k=Z a.A:=AA;subst ak;have HA:AD (Z (A3 a)=n):=by
   rw[AD,hA.o,AS];simp[A3];omega
  clear hA
  refine pz ?_
  first
  |exact⟨_,rfl,by rw[HA.o],hK⟩
  |exact⟨_,rfl,by rw[HA.o]⟩
structure KT (N:List Tx)(x:AB):Prop where
 o:x.o=true->x.A=[]
 A:Z x.A<=1000
 mem:x.h.B∈N
 hpl:Z x.h.B<=1000
 at_:∀a∈Af x,Z a.A<=3/\Z a.B<=1000/\∀t∈a.A,UT t
theorem pZ {ts}(h:Z ts<=3)(g:∀t∈ts,UT t):Z (Bu ts)<=4000:=by
 have key:∀ts:List Tx,(∀t∈ts,UT t)->Z (Cg ts)<=Z ts*1001:=by
  intro ts;induction ts with
  |nil=>intro _;simp[Cg]
  |cons t ts ih=>
   intro h;have h1:=ih fun u hu=>h u (by simp[hu]);have h2:=(h t (by simp)).2.2.1;unfold Cg at*
   simp only[DK,AX,BQ];omega
 cases ts with
 |nil=>simp[Bu]
 |cons t ts=>
  have h1:=key ts fun u hu=>g u (by simp[hu]);have h2:=(g t (by simp)).2.2.1;simp only[BQ]at h;rw[Bu,AX];omega
theorem Ob {a}(h:Z a.A<=3/\Z a.B<=1000/\∀t∈a.A,UT t):Z (A3 a)<=6000:=by
 have:=pZ h.1 h.2.2;have:=h.2.1;simp[A3];omega
def Ul (ls:List AC)(k:Nat):Nat:=if k=0 then 0 else 2+Z (Bu ((ls.take k).map Cp))
theorem yY {ls k a}(h:ls[k]?=some a):Ul ls (k+1)=Ul ls k+(if k=0 then 1 else 0)+(if a.nt=true then 1 else 0)+(1+Z (A3 a)):=by
 unfold Ul;rw[if_neg AA,AU,h,BJ,FO,List.map_singleton,Vi];have hk:=(BG.1 h).1;have aa:Z (Cp a)=(if a.nt=true then 1 else 0)+Z (A3 a):=by unfold Cp;split<;>simp;omega
 by_cases h0:k=0
 ·subst h0;simp only[List.take_zero,KO,if_true,FM,Bu,CP,aa];omega
 ·have e:(ls.take k).map Cp≠[]:=fun e=>by
   have:=congrArg List.length e;simp at this;rcases this with h|h
   ·exact h0 h
   ·rw[h]at hk;cases hk
  rw[if_neg h0,if_neg h0,if_neg e];simp only[AX,LO,aa];omega
theorem zD (N idn x c)(hc:PI N x c)(hN:Z N<=2000)(hm:KT N x)(σ):
  AF Tryz.prog 243 [ag c,sl idn (Z N) (N.map str)] σ fun r σ'=>r=ic (Z (Ce x++[46]):Nat)/\AE σ σ':=by
 obtain⟨hm0,ih,id,b,hb,rfl⟩:=hc;have ba:=EL.length Es hb;have bb:=hm.A;have a9:=hm.hpl;have an:=CY hm0;have az:(N.map str).drop (N.idxOf x.h.B)=str x.h.B::(N.map str).drop (N.idxOf x.h.B+1):=by
  have:=A7 an;rwa[FT an]at this
 cases ap:x.o with
 |true=>
  have HL:AD ((Z (Ce x++[46]):Nat)=2+Z x.h.B):=by
   rw[AD,Ce,if_pos ap];simp;omega
  clear hm;generalize N.idxOf x.h.B=ix at an az;refine Z9 48 [.tmp 4] Tryz.func243 ?_
  refine pz ?_
  exact⟨_,rfl,by rw[HL.o];simp,Xs⟩
 |false=>
  have av:=hm.at_;have hh:=av x.h (Ar (.inl ⟨ap,rfl⟩));have ao:=fun ids σ=>eM N idn ids x.h hm0 hN AA hh.2.1 hh.2.2 σ;have au:=Ob hh;have HL:AD (Z (Ce x++[46])=Z (A3 x.h)+1+Ul x.A (Z x.A)):=by
   rw[AD,Ce,if_neg (by simp[ap]),D6,Ul,AS];by_cases he:x.A=[]
   ·simp[he]
   ·have a3:Z x.A≠0:=fun e=>he (GQ e);rw[if_neg he,if_neg a3];simp;omega
  have a6:∀a∈x.A,Z a.A<=3/\Z a.B<=1000/\∀t∈a.A,UT t:=fun a ha=>av a (Ar (.inr ha));clear hm av hh;generalize N.idxOf x.h.B=ix at an az ao;generalize Z (A3 x.h)=hn at ao au HL;refine Z9 48 [.tmp 4] Tryz.func243 ?_
  refine qb ?_;intro yd yb;refine Xi (ao _ _) ?_;rintro _ _ ⟨rfl,ax⟩;(have ak:=ax.B;have aj:=ax.C;simp only[Aa]at ak aj);refine pz ?_
  rename_i σ1
  refine Ae (fun m s σ'=>∃(k n:Nat),m=Z x.A-k/\k<=Z x.A/\s 1=sl idn (Z N) (N.map str)/\s 5=ic n/\s 24=sl id (Z x.A) b/\s 25=ic (Z x.A)/\s 26=ic k/\AE σ σ'/\n<=6001+k*7000/\AD (n=hn+1+Ul x.A k)) (Z x.A)
   ⟨0,hn+1,AA,AA,rfl,AG,AG,AG,rfl,Xs,AA,by simp[AD,Ul]⟩ ?_
  clear ak aj ax ao;rintro m s σ' ⟨k,n,rfl,hk,h1,h5,be,bd,bc,hK,a8,hA⟩;have a7:=hK.B;by_cases ay:k<Z x.A
  ·have af:=AJ ay;have am:=a6 x.A[k] (AT ay);obtain⟨c0,r,⟨a0,ida,rfl⟩,hd⟩:=EL.get Es hb af;generalize x.A[k]=a at af am hd a0;have ai:=fun ids σ=>eM N idn ids a a0 hN AA am.2.1 am.2.2 σ;have aw:=Ob am;have ac:AD (hn+1+Ul x.A (k+1)=n+((if k=0 then 1 else 0)+(if a.nt=true then 1 else 0)+(1+Z (A3 a)))):=by
    rw[AD,yY af,hA.o];omega
   clear af hA am;generalize Z (A3 a)=la at ai aw ac;generalize N.idxOf a.B=ia at ai hd;simp only[FC,FM]at hd;by_cases ae:k=0
   ·have a5:((k:Int)==0)=true:=by simp[ae]
    cases hnt:a.nt with
    |true=>
     rw[hnt]at hd;have ac:AD (n+(1+la)+1+1=hn+1+Ul x.A (k+1)):=by rw[AD,ac.o,if_pos ae,if_pos hnt];omega
     clear ae hnt
     refine qb ?_;intro yd yb;refine Xi (ai _ _) ?_;rintro _ _ ⟨rfl,ab⟩;(have ah:=ab.C;have aa:=ab.B;simp only[Ab,Aa]at aa);refine pz ?_
     refine⟨Z x.A-(k+1),AA,k+1,n+(1+la)+1+1,?_⟩
     ((repeat' refine Zi ?_ ?_)<;>first|exact Xq|exact (((hK.new _).put hK.B _).trans ab)|exact ac|exact Xs)
    |false=>
     rw[hnt]at hd;have ac:AD (n+(1+la)+1=hn+1+Ul x.A (k+1)):=by rw[AD,ac.o,if_pos ae,if_neg (by simp[hnt])];omega
     clear ae hnt
     refine qb ?_;intro yd yb;refine Xi (ai _ _) ?_;rintro _ _ ⟨rfl,ab⟩;(have ah:=ab.C;have aa:=ab.B;simp only[Ab,Aa]at aa);refine pz ?_
     refine⟨Z x.A-(k+1),AA,k+1,n+(1+la)+1,?_⟩
     ((repeat' refine Zi ?_ ?_)<;>first|exact Xq|exact (((hK.new _).put hK.B _).trans ab)|exact ac|exact Xs)
   ·have a5:((k:Int)==0)=false:=by simp;omega
    cases hnt:a.nt with
    |true=>
     rw[hnt]at hd;have ac:AD (n+(1+la)+1=hn+1+Ul x.A (k+1)):=by rw[AD,ac.o,if_neg ae,if_pos hnt];omega
     clear ae hnt
     refine qb ?_;intro yd yb;refine Xi (ai _ _) ?_;rintro _ _ ⟨rfl,ab⟩;(have ah:=ab.C;have aa:=ab.B;simp only[Ab,Aa]at aa);refine pz ?_
     refine⟨Z x.A-(k+1),AA,k+1,n+(1+la)+1,?_⟩
     ((repeat' refine Zi ?_ ?_)<;>first|exact Xq|exact (((hK.new _).put hK.B _).trans ab)|exact ac|exact Xs)
    |false=>
     rw[hnt]at hd;have ac:AD (n+(1+la)=hn+1+Ul x.A (k+1)):=by rw[AD,ac.o,if_neg ae,if_neg (by simp[hnt])];omega
     clear ae hnt
     refine qb ?_;intro yd yb;refine Xi (ai _ _) ?_;rintro _ _ ⟨rfl,ab⟩;(have ah:=ab.C;have aa:=ab.B;simp only[Ab,Aa]at aa);refine pz ?_
     refine⟨Z x.A-(k+1),AA,k+1,n+(1+la),?_⟩
     ((repeat' refine Zi ?_ ?_)<;>first|exact Xq|exact (((hK.new _).put hK.B _).trans ab)|exact ac|exact Xs)
  ·have a4:k=Z x.A:=AA;subst a4;have HA:AD (Z (Ce x++[46])=n):=by rw[AD,HL.o,hA.o]
   clear hA HL
   refine pz ?_
   first
   |exact⟨_,rfl,by rw[HA.o],hK⟩
   |exact⟨_,rfl,by rw[HA.o]⟩
def Ls (l:List AB):Bool:=decide (Z l<=16)&&(l.all (fun x=>decide (Z x.A<=5))&&decide (Z (Cr l)<=600))
theorem xK {N x}(h:KT N x):Z (Ce x++[46])<=8000000:=by
 have h1:=h.hpl;cases aa:x.o with
 |true=>rw[Ce,if_pos aa];simp;omega
 |false=>
  have hh:=Ob (h.at_ x.h (Ar (.inl ⟨aa,rfl⟩)));have hl:∀ls:List AC,(∀a∈ls,Z a.A<=3/\Z a.B<=1000/\∀t∈a.A,UT t)->Z (Cg (ls.map Cp))<=Z ls*6002:=by
   intro ls;induction ls with
   |nil=>intro _;simp[Cg]
   |cons a ls ih=>
    intro g;have h1:=ih fun b hb=>g b (by simp[hb]);have h2:=Ob (g a (by simp));have h3:Z (Cp a)<=6001:=by unfold Cp;split<;>simp<;>omega
    unfold Cg at*
    simp only[CU,DK,AX,BQ];omega
  have hu:Z (Bu (x.A.map Cp))<=Z x.A*6002:=by
   have:=hl x.A fun a ha=>h.at_ a (Ar (.inr ha));cases hb:x.A with
   |nil=>simp[Bu]
   |cons a ls=>
    rw[hb]at this;have e:Cg ((a::ls).map Cp)=44::Bu ((a::ls).map Cp):=by simp[Cg,Bu]
    rw[e]at this;simp only[BQ]at this⊢;omega
  have hb:=h.A;rw[Ce,if_neg (by simp[aa]),D6];split<;>simp<;>omega
def PJ (N:List Tx)(x:AB)(c:List AV):Prop:=(PI N x c/\KT N x)\/(5<Z x.A/\Z x.A<=1000/\∃(o:Bool) (p:Int) (ih n1:Nat) (tc:List AV) (ib:Nat) (b:List AV),c=[sc (.bool o),ic p,sl ih n1 tc,sl ib (Z x.A) b])
theorem UJ {N}(x c)(h:PJ N x c):Z c=4:=by
 rcases h with⟨h,-⟩|⟨-,-,_,_,_,_,_,_,_,rfl⟩
 ·exact E7 x c h
 ·rfl
theorem Qq {α:Type}{E E'}:∀{l:List α} {cs:List AV},EL E l cs->(∀a∈l,∀c,E a c->E' a c)->EL E' l cs
 |[],_,h,_=>h
 |a::l,_,⟨c,d,h1,h2,e⟩,g=>⟨c,d,g a (by simp) c h1,Qq h2 (fun b hb=>g b (by simp[hb])),e⟩
theorem Zz (N l cs idn idi)(hE:EL (PJ N) l cs)(hN:Z N<=2000)(hl:Z l<=1000)(σ):AF Tryz.prog 207 [Cl N idn l idi cs] σ fun r σ'=>r=sc (.bool (Ls l))/\AE σ σ':=by
 have aw:=EL.length UJ hE;by_cases ay:16<Z l
 ·have hb:decide ((16:Int)<(Z l:Int))=true:=by simp;omega
  have HL:AD (Ls l=false):=by rw[AD,Ls,decide_eq_false AA];rfl
  refine Z9 30 [.tmp 2] Tryz.func207 ?_
  refine pz ?_
  exact⟨_,rfl,by rw[HL.o],Xs⟩
 ·have hb:decide ((16:Int)<(Z l:Int))=false:=by simp;omega
  refine Z9 30 [.tmp 2] Tryz.func207 ?_
  refine pz ?_
  refine Ae (fun m s σ'=>∃(i n:Nat),m=Z l-i/\i<=Z l/\s 1=ptr σ.B 0/\s 3=ic n/\s 11=sl idi (Z l) cs/\s 12=ic (Z l)/\s 13=ic i/\AE σ σ'/\σ.B<σ'.B/\σ'.C σ.B=[sl idn (Z N) (N.map str),sl idi (Z l) cs]/\n<=i*8000000/\AD (n=Z (Cr (l.take i))/\∀x∈l.take i,Z x.A<=5)) (Z l)
   ⟨0,0,AA,AA,AG,AG,AG,AG,rfl,Xs,AK,Ao,by simp,by simp[AD,Cr]⟩ ?_
  rintro m s σ' ⟨i,n,rfl,hi,h1,h3,a3,a0,az,hK,au,ak,av,hA⟩;have ap:=hK.B;by_cases am:i<Z l
  ·have aa:=AJ am;obtain⟨c,r,ac,hd⟩:=EL.get UJ hE aa;generalize l[i]=x at hd aa ac;have an:∃(o:Bool) (p:Int) (ih n1:Nat) (tc:List AV) (ib:Nat) (b:List AV),c=[sc (.bool o),ic p,sl ih n1 tc,sl ib (Z x.A) b]:=by
    rcases ac with⟨⟨-,ih,id,b,-,rfl⟩,-⟩|⟨-,-,h⟩
    ·exact⟨_,_,_,_,_,_,_,rfl⟩
    ·exact h
   have ax:Z x.A<=1000:=by
    rcases ac with⟨-,h⟩|⟨-,h,-⟩
    ·exact h.A
    ·exact h
   obtain⟨xo,xp,ih,xn,xt,id,b,rfl⟩:=an;simp only[FC,FM]at hd;by_cases h5:5<Z x.A
   ·have ao:decide ((5:Int)<(Z x.A:Int))=true:=by simp;omega
    have HL:AD (Ls l=false):=by
     have:l.all (fun x=>decide (Z x.A<=5))=false:=by
      rw[LH];exact⟨x,BD aa,by simp;omega⟩
     rw[AD,Ls,this];simp
    clear aa hA ac
    refine pz ?_
    exact⟨_,rfl,by rw[HL.o],Xs⟩
   ·obtain⟨ah,hw⟩:=ac.resolve_right (fun h=>h5 h.1);have ai:=fun σ=>zD N idn x _ ah hN hw σ;have aj:=xK hw;clear ac ah;have ao:decide ((5:Int)<(Z x.A:Int))=false:=by simp;omega
    have HA:AD (n+Z (Ce x++[46])=Z (Cr (l.take (i+1)))/\∀x∈l.take (i+1),Z x.A<=5):=by
     rw[AD,AU,aa,BJ,hA.o.1];refine⟨by simp[Cr],fun y hy=>?_⟩;rcases AW.1 hy with hy|hy
     ·exact hA.o.2 y hy
     ·simp at hy;subst hy;omega
    clear aa hA hw h5;generalize Z (Ce x++[46])=xl at ai aj HA
    refine qb ?_;intro yd yb;refine Xi (ai _) ?_;rintro _ _ ⟨rfl,af⟩;(have ae:=af.B;have ad:=af.C;simp only[Ab,Aa]at ae ad);refine pz ?_
    refine⟨Z l-(i+1),AA,i+1,n+xl,?_⟩
    ((repeat' refine Zi ?_ ?_)<;>first|exact Xq|exact (((hK.new _).put hK.B _).trans af)|exact HA|exact (by rw[ad _ AA,Aj AA,Ah AA,ak])|exact Xs)
  ·have hil:i=Z l:=AA;subst hil;have HL:AD (Ls l=decide ((n:Int)<=600)):=by
    have h:=hA.o;rw[AS]at h;rw[AD,Ls,decide_eq_true AA,EK.2 (fun x hx=>decide_eq_true (h.2 x hx)),<-h.1];simp only[ID];congr 1;apply propext;omega
   clear hA
   refine pz ?_
   first
   |exact⟨_,rfl,by rw[HL.o],hK⟩
   |exact⟨_,rfl,by rw[HL.o]⟩
def D8 (N:List Tx)(l:List AB)(k:Nat):Bool:=l.any fun x=>!x.o&&decide (N.idxOf x.h.B=k)
theorem R8 {α:Type}{l:List α}{f i x}(h:(l.take i).any f=false)(hi:l[i]?=some x)(hx:f x=false):(l.take (i+1)).any f=false:=by
 rw[AU,hi,BJ,LM,h];simp[hx]
theorem iC {α:Type}{l:List α}{f}{i:Nat}{x}(hi:l[i]?=some x)(hx:f x=true):l.any f=true:=CW.2 ⟨x,BD hi,hx⟩
theorem Nh (N l cs)(idn idi k:Nat)(hE:EL (PI N) l cs)(hl:Z l<=1000)(σ):AF Tryz.prog 134 [Cl N idn l idi cs,ic k] σ fun r σ'=>r=sc (.bool (D8 N l k))/\AE σ σ':=by
 have aj:=EL.length E7 hE;refine Z9 25 [.tmp 4] Tryz.func134 ?_
 refine zz ?_
 refine Ae (fun m s σ'=>∃(i:Nat),m=Z l-i/\i<=Z l/\s 1=ic k/\s 8=sl idi (Z l) cs/\s 9=ic (Z l)/\s 10=ic i/\AE σ σ'/\AD (D8 N (l.take i) k=false)) (Z l)
  ⟨0,AA,AA,rfl,AG,AG,rfl,Xs,by simp[AD,D8]⟩ ?_
 rintro m s σ' ⟨i,rfl,hi,h1,h8,h9,ak,hK,hA⟩;have ai:=hK.B;by_cases af:i<Z l
 ·have aa:=AJ af;obtain⟨ae,ih,id,b,r,ah,hd⟩:=Io hE aa;generalize l[i]=x at hd aa ae ah;cases ab:x.o with
  |true=>
   rw[ab]at hd;have HA:AD (D8 N (l.take (i+1)) k=false):=R8 hA.o aa (by simp[ab]);clear aa hA ab
   refine pz ?_
   refine⟨Z l-(i+1),AA,i+1,?_⟩
   exact qh HA
  |false=>
   rw[ab]at hd;by_cases hk:N.idxOf x.h.B=k
   ·have ad:(((N.idxOf x.h.B:Nat):Int)==(k:Int))=true:=by simp[hk]
    have HA:AD (D8 N l k=true):=iC aa (by simp[ab,hk]);clear aa hA ab hk;generalize N.idxOf x.h.B=ix at hd ad
    refine pz ?_
    exact⟨_,rfl,by rw[HA.o],Xs⟩
   ·have ad:(((N.idxOf x.h.B:Nat):Int)==(k:Int))=false:=by simpa using (by omega:¬((N.idxOf x.h.B:Nat):Int)=k)
    have HA:AD (D8 N (l.take (i+1)) k=false):=R8 hA.o aa (by simp[hk]);clear aa hA ab hk;generalize N.idxOf x.h.B=ix at hd ad
    refine pz ?_
    refine⟨Z l-(i+1),AA,i+1,?_⟩
    exact qh HA
 ·have hil:i=Z l:=AA;subst hil;rw[AS]at hA
  refine pz ?_
  first
  |exact⟨_,rfl,by rw[hA.o],hK⟩
  |exact⟨_,rfl,by rw[hA.o]⟩
def Hv (N:List Tx)(l:List AB)(k:Nat):Bool:=l.any fun x=>decide (N.idxOf x.h.B=k)||x.A.any fun a=>decide (N.idxOf a.B=k)
theorem lX (N l cs)(idn idi k:Nat)(hE:EL (PI N) l cs)(hl:Z l<=1000)(av:∀x∈l,Z x.A<=1000)(σ):AF Tryz.prog 244 [Cl N idn l idi cs,ic k] σ fun r σ'=>r=sc (.bool (Hv N l k))/\AE σ σ':=by
 have az:=EL.length E7 hE;refine Z9 35 [.tmp 4] Tryz.func244 ?_
 refine zz ?_
 refine Ae (fun m s σ'=>∃(i:Nat),m=Z l-i/\i<=Z l/\s 1=ic k/\s 10=sl idi (Z l) cs/\s 11=ic (Z l)/\s 12=ic i/\AE σ σ'/\AD (Hv N (l.take i) k=false)) (Z l)
  ⟨0,AA,AA,rfl,AG,AG,rfl,Xs,by simp[AD,Hv]⟩ ?_
 rintro m s σ' ⟨i,rfl,hi,h1,ao,an,am,hK,hA⟩;have aj:=hK.B;by_cases ak:i<Z l
 ·have aa:=AJ ak;have ax:=av l[i] (AT ak);obtain⟨ap,ih,id,b,r,ai,hd⟩:=Io hE aa;generalize l[i]=x at hd aa ap ai ax;have aw:=EL.length Es ai;by_cases hk:N.idxOf x.h.B=k
  ·have ah:(((N.idxOf x.h.B:Nat):Int)==(k:Int))=true:=by simp[hk]
   have HA:AD (Hv N l k=true):=iC aa (by simp[hk]);clear aa hA hk;generalize N.idxOf x.h.B=ix at hd ah
   refine pz ?_
   exact⟨_,rfl,by rw[HA.o],Xs⟩
  ·have ah:(((N.idxOf x.h.B:Nat):Int)==(k:Int))=false:=by simpa using (by omega:¬((N.idxOf x.h.B:Nat):Int)=k)
   have HG:AD (l[i]?=some x/\¬N.idxOf x.h.B=k):=⟨aa,hk⟩;clear aa hk;generalize N.idxOf x.h.B=ix at hd ah
   refine pz ?_
   refine Ae (fun m s σ2=>∃(j:Nat),m=Z x.A-j/\j<=Z x.A/\s 1=ic k/\s 10=sl idi (Z l) cs/\s 11=ic (Z l)/\s 12=ic i/\s 22=sl id (Z x.A) b/\s 23=ic (Z x.A)/\s 24=ic j/\AE σ σ2/\AD ((x.A.take j).any (fun a=>decide (N.idxOf a.B=k))=false)) (Z x.A)
    ⟨0,AA,AA,AI,AI,AI,AI,AG,AG,rfl,Xs,by simp[AD]⟩ ?_
   clear h1 ao an am hK aj;rintro m s σ2 ⟨j,rfl,hj,h1,ao,an,am,a4,a3,a0,hK,hJ⟩;have aj:=hK.B;by_cases ae:j<Z x.A
   ·have ac:=AJ ae;obtain⟨c0,rr,⟨ay,ida,rfl⟩,ad⟩:=EL.get Es ai ac;generalize x.A[j]=a at ac ay ad;simp only[FC,FM]at ad;by_cases hk:N.idxOf a.B=k
    ·have af:(((N.idxOf a.B:Nat):Int)==(k:Int))=true:=by simp[hk]
     have HA:AD (Hv N l k=true):=iC HG.o.1 (by
      have:x.A.any (fun a=>decide (N.idxOf a.B=k))=true:=iC ac (by simp[hk])
      simp only[this,Bool.or_true])
     clear ac hk hJ hA HG;generalize N.idxOf a.B=ia at ad af
     refine pz ?_
     exact⟨_,rfl,by rw[HA.o],Xs⟩
    ·have af:(((N.idxOf a.B:Nat):Int)==(k:Int))=false:=by simpa using (by omega:¬((N.idxOf a.B:Nat):Int)=k)
     have HJ:AD ((x.A.take (j+1)).any (fun a=>decide (N.idxOf a.B=k))=false):=R8 hJ.o ac (by simp[hk]);clear ac hk hJ;generalize N.idxOf a.B=ia at ad af
     refine pz ?_
     refine⟨Z x.A-(j+1),AA,j+1,?_⟩
     exact qh HJ
   ·have au:j=Z x.A:=AA;subst au;rw[AS]at hJ;have HA:AD (Hv N (l.take (i+1)) k=false):=R8 hA.o HG.o.1 (by simp only[hJ.o,MO];simpa using HG.o.2);clear hJ HG hA
    refine pz ?_
    refine⟨Z l-(i+1),AA,i+1,?_⟩
    exact qh HA
 ·have hil:i=Z l:=AA;subst hil;rw[AS]at hA
  refine pz ?_
  first
  |exact⟨_,rfl,by rw[hA.o],hK⟩
  |exact⟨_,rfl,by rw[hA.o]⟩
end Go.Proofs.YtmoeoppbmhfbpabGreatDoorI
