import Derived.Test.YtmoeoppbmhfbpaaGreatDoorDFceL
import Derived.Test.YtmoeoppbmhfbpaaGreatDoorDSpaE
import Derived.Test.YtmoeoppbmhfbpaaGreatDoorDDocI
import Derived.Test.YtmoeoppbmhfbpaaGreatDoorDOpuB
import Derived.Test.YtmoeoppbmhfbpaaGreatDoorDAgrB
import Derived.Test.YtmoeoppbmhfbpaaGreatDoorDLawA
set_option maxHeartbeats 64000000
set_option maxRecDepth 100000
set_option linter.all false
namespace Go.Proofs.YtmoeoppbmhfbpaaGreatDoorD
open Go.Abs
def SpX (x:RItem)(k:Nat):Prop:=Cz (Cw x k)=true/\Ge x k
def qA (l:List RItem)(i:Nat)(x:RItem)(k:Nat):Prop:=SpX x k/\Bu l (rpl i [Cw x k] l)=true
def TrR (l:List RItem)(o:Option (List RItem)):Prop:=
 (o=none/\∀i x,l[i]?=some x->∀k,k<x.body.length->¬qA l i x k)\/∃i x k,o=some (rpl i [Cw x k] l)/\l[i]?=some x/\k<x.body.length/\qA l i x k/\(∀i' x',i'<i->l[i']?=some x'->∀k',k'<x'.body.length->¬qA l i' x' k')/\∀k',k'<k->¬qA l i x k'
theorem Aaw {x:RItem}(h:x.fits/\x.short)(k:Nat):(Cw x k).fits/\(Cw x k).short:=
 ⟨K7 h.1,h.2.1,fun a ha=>h.2.2 a (Afn ha)⟩
theorem Wj (l:List RItem)(cs:List AV)(idl:Nat)(hE:EL EItem l cs)(hl:l.length<=16)(hf:∀x∈l,x.fits/\x.short)(h5:∀x∈l,x.body.length<=5)(σ:St):
  ACalls Tryz.prog 150 [sl idl l.length cs] σ fun r σ'=>∃o m id c',r=tp [sl id m.length c',sc (.bool o.isSome)]/\TrR l o/\(∀l',o=some l'->m=l')/\EL EItem m c'/\Keep σ σ':=by
 have bb:=EL.length Ci hE;refine Z9 46 [.tmp 2,.tmp 3] Tryz.func150 ?_
 refine zz ?_
 refine Ad (fun q s σ'=>∃i:Nat,q=l.length-i/\i<=l.length/\s 0=sl idl l.length cs/\s 4=ic i/\Keep σ σ'/\Agt (∀i' x',i'<i->l[i']?=some x'->∀k',k'<x'.body.length->¬qA l i' x' k')) l.length
  ⟨0,Agm,Agm,by simp[upd,initS],Ago,Keep.refl _,fun i' x' h=>Agm⟩ ?_
 rintro q s σ' ⟨i,rfl,hi,h0,h4,hK,ad⟩;have ax:=hK.nobj;by_cases af:i<l.length
 ·have HG:Agt (l[i]?=some l[i]):=Adn af;obtain⟨jh,jd,jb,r2,ai,a7⟩:=C4 hE HG.out;have aj:=hf l[i] (Aes af);have ay:=h5 l[i] (Aes af);generalize l[i]=x at HG ai a7 aj ay;have ba:=EL.length Bc ai
  repeat' first|refine Z1 ?_|refine Z8 fun ya J=>?_|refine Z4 ?_;clear J ya|refine Z2 ?_ ?_<;>intro h ac<;>try exact Xp|refine Z3 ?_|exact Zt|apply J.out;clear J ya
  refine Ad (fun q s σ'=>∃j:Nat,q=x.body.length-j/\j<=x.body.length/\s 0=sl idl l.length cs/\s 4=ic i/\s 5=ic j/\Keep σ σ'/\Agt (∀k',k'<j->¬qA l i x k')) x.body.length
   ⟨0,Agm,Agm,by simp[upd,h0],by simp[upd,h4],Ago,hK,fun k' h=>Agm⟩ ?_
  clear h0 h4 hK ax;rintro q s σ' ⟨j,rfl,hj,h0,h4,bc,hK,aa⟩;have ax:=hK.nobj;by_cases ae:j<x.body.length
  ·have a0:=fun σ=>I7 x _ j (EItem.of (ih:=jh) (id:=jd) ai) aj.1.1 σ;have a3:=fun σ=>fP x _ j (EItem.of (ih:=jh) (id:=jd) ai) aj.1 ay ae σ;unfold A5 at a0 a3;have a4:=fun c' (ak:EItem (Cw x j) c') ido σ=>Lh l [Cw x j] cs c' idl ido i hE (EL.single ak) Agm (by simp) af σ
   have av:=fun idm cm (hm:EL EItem (rpl i [Cw x j] l) cm) σ=>I8 l (rpl i [Cw x j] l) cs cm idl idm hE hm Agm (by rw[Qe af];simp;omega) (fun y hy=>by
    rcases E0 hy with hy|hy
    ·exact hf y hy
    ·have:y=Cw x j:=by simpa using hy
     rw[this];exact Aaw aj j) σ
   have HT:Agt (∀b,(b=true↔Cz (Cw x j)=true/\Ge x j)->b=false->¬qA l i x j):=fun b h hb ht=>by rw[h.2 ht.1]at hb;cases hb
   have HA:Agt (Bu l (rpl i [Cw x j] l)=false->¬qA l i x j):=fun h ht=>by rw[ht.2]at h;cases h
   have HY:Agt (Cz (Cw x j)=true/\Ge x j->Bu l (rpl i [Cw x j] l)=true->TrR l (some (rpl i [Cw x j] l))):=fun h1 h2=>.inr ⟨i,x,j,rfl,HG.out,ae,⟨h1,h2⟩,ad.out,aa.out⟩;have HN:Agt (¬qA l i x j->∀k',k'<j+1->¬qA l i x k'):=fun h k' az=>by
    by_cases e:k'=j
    ·rw[e];exact h
    ·exact aa.out k' Agm
   generalize Bu l (rpl i [Cw x j] l)=ab at av HA HY;generalize rpl i [Cw x j] l=R at a4 av HY;clear aa
   repeat' first|refine Z1 ?_|refine Z8 fun ya J=>?_|refine Z4 ?_;clear J ya|refine Z2 ?_ ?_<;>intro h ac<;>try exact Xp|(refine Z5 ?_;first|(refine Xi (a0 _) ?_;rintro _ _ ⟨c',rfl,ak,ao⟩;(have ah:=a4 c' ak;obtain⟨wh,wd,wb,a9,rfl⟩:=ak.cells;unfold A5 at ah⊢))|(refine Xi (ah _ _) ?_;rintro _ _ ⟨idr,cr,rfl,ap,an⟩;(have au:=av idr cr ap;have a8:Agt _:=ap;clear ap))|(refine Xi (a3 _) ?_;rintro _ _ ⟨b,rfl,hb,am⟩;(have HB:Agt _:=hb;clear hb;cases b))|(refine Xi (au _) ?_;rintro _ _ ⟨rfl,a5⟩;(cases ab)))|refine Z3 ?_|exact Zt|apply J.out;clear J ya
   ·have aw:Agt _:=HN.out (HT.out false HB.out rfl);clear HN HT HA HY;refine⟨x.body.length-(j+1),Agm,j+1,?_⟩
    ((repeat' refine Zi ?_ ?_)<;>first|exact Xq|exact aw|exact (((hK.trans ao).trans an).trans am)|exact Xs)
   ·have aw:Agt _:=HN.out (HA.out rfl);clear HN HT HA HY;refine⟨x.body.length-(j+1),Agm,j+1,?_⟩
    ((repeat' refine Zi ?_ ?_)<;>first|exact Xq|exact aw|exact ((((hK.trans ao).trans an).trans am).trans a5)|exact Xs)
   ·exact⟨_,rfl,some R,R,idr,cr,rfl,HY.out (HB.out.1 rfl) rfl,(by intro l' h;cases h;rfl),a8.out,((((hK.trans ao).lay 1).trans an).trans am).trans a5⟩
  ·have a6:j=x.body.length:=Agm;have HN:Agt (∀i' x',i'<i+1->l[i']?=some x'->∀k',k'<x'.body.length->¬qA l i' x' k'):=fun i' x' h1 h2 k' az=>by
    by_cases e:i'=i
    ·subst e;rw[HG.out]at h2;cases h2;exact aa.out k' Agm
    ·exact ad.out i' x' Agm h2 k' az
   clear aa ad
   repeat' first|refine Z1 ?_|refine Z8 fun ya J=>?_|refine Z4 ?_;clear J ya|refine Z2 ?_ ?_<;>intro h ac<;>try exact Xp|refine Z3 ?_|exact Zt|apply J.out;clear J ya
   refine⟨l.length-(i+1),Agm,i+1,?_⟩
   ((repeat' refine Zi ?_ ?_)<;>first|exact Xq|exact HN|exact Xs)
 ·have HR:Agt (TrR l none):=.inl ⟨rfl,fun i' x' h=>ad.out i' x' (by have:=(Adm.1 h).1;omega) h⟩;clear ad
  repeat' first|refine Z1 ?_|refine Z8 fun ya J=>?_|refine Z4 ?_;clear J ya|refine Z2 ?_ ?_<;>intro h ac<;>try exact Xp|refine Z3 ?_|exact Zt|apply J.out;clear J ya
  first|exact⟨_,rfl,none,l,idl,cs,rfl,HR.out,(by intro l' h;cases h),hE,hK⟩|exact⟨_,rfl,none,l,idl,cs,rfl,HR.out,(by intro l' h;cases h),hE⟩
def DrR (l:List RItem)(o:Option (List RItem)):Prop:=
 (o=none/\∀i x,l[i]?=some x->x.out=false->On l i x false\/Bu l (rpl i [] l)=false)\/∃i x,o=some (rpl i [] l)/\l[i]?=some x/\x.out=false/\On l i x true/\Bu l (rpl i [] l)=true/\∀i' x',i'<i->l[i']?=some x'->x'.out=false->On l i' x' false\/Bu l (rpl i' [] l)=false
theorem Wn (l:List RItem)(cs:List AV)(idl:Nat)(hE:EL EItem l cs)(hl:l.length<=16)(hf:∀x∈l,x.fits/\x.short)(hF:∀x∈l,Fine x)(σ:St):
  ACalls Tryz.prog 151 [sl idl l.length cs] σ fun r σ'=>∃o m id c',r=tp [sl id m.length c',sc (.bool o.isSome)]/\DrR l o/\(∀l',o=some l'->m=l')/\EL EItem m c'/\Keep σ σ':=by
 have a5:=EL.length Ci hE;refine Z9 33 [.tmp 2,.tmp 3] Tryz.func151 ?_
 refine zz ?_
 refine Ad (fun q s σ'=>∃i:Nat,q=l.length-i/\i<=l.length/\s 0=sl idl l.length cs/\s 4=ic i/\Keep σ σ'/\Agt (∀i' x',i'<i->l[i']?=some x'->x'.out=false->On l i' x' false\/Bu l (rpl i' [] l)=false)) l.length
  ⟨0,Agm,Agm,by simp[upd,initS],Ago,Keep.refl _,fun i' x' h=>Agm⟩ ?_
 rintro q s σ' ⟨i,rfl,hi,h0,h4,hK,ac⟩;have a4:=hK.nobj;by_cases ah:i<l.length
 ·have HG:Agt (l[i]?=some l[i]):=Adn ah;obtain⟨jh,jd,jb,r2,aw,ax⟩:=C4 hE HG.out;have ai:=hF l[i] (Aes ah);generalize l[i]=x at HG aw ax ai;have am:=fun σ=>Lh l [] cs [] idl 1 i hE rfl Agm (by simp) ah σ
  have ak:=fun idm cm (hm:EL EItem (rpl i [] l) cm) σ=>I8 l (rpl i [] l) cs cm idl idm hE hm Agm (by rw[Qe ah];simp;omega) (fun y hy=>by
   rcases E0 hy with hy|hy
   ·exact hf y hy
   ·cases hy) σ
  have HN:Agt ((x.out=false->On l i x false\/Bu l (rpl i [] l)=false)->∀i' x',i'<i+1->l[i']?=some x'->x'.out=false->On l i' x' false\/Bu l (rpl i' [] l)=false):=fun h i' x' h1 h2 h3=>by
   by_cases e:i'=i
   ·subst e;rw[HG.out]at h2;cases h2;exact h h3
   ·exact ac.out i' x' Agm h2 h3
  cases aa:x.out with
  |true=>
   have af:Agt _:=HN.out (fun h=>by rw[aa]at h;cases h);clear HN ac ak
   repeat' first|refine Z1 ?_|refine Z8 fun ya J=>?_|refine Z4 ?_;clear J ya|refine Z2 ?_ ?_<;>intro h ad<;>try exact Xp|refine Z5 ?_;refine Xi (am _) ?_;rintro _ _ ⟨idr,cr,rfl,aj,ae⟩|refine Z3 ?_|exact Zt|apply J.out;clear J ya
   refine⟨l.length-(i+1),Agm,i+1,?_⟩
   ((repeat' refine Zi ?_ ?_)<;>first|exact Xq|exact af|exact (hK.trans ae)|exact Xs)
  |false=>
   have ap:=ai.cl aa;have a6:=(ai.w.2.2 aa).2.2.1;have a0:=fun σ=>Wk l cs idl i x hE Agm HG.out Agm ap.2.1 (fun a ha=>⟨ap.2.2 a ha,ai.var (by simp[Ae,aa,ha])⟩) (fun y hy av=>(hF y hy).rule av) σ;have HY:Agt (On l i x true->Bu l (rpl i [] l)=true->DrR l (some (rpl i [] l))):=fun h1 h2=>.inr ⟨i,x,rfl,HG.out,aa,h1,h2,ac.out⟩;have HA:Agt (Bu l (rpl i [] l)=false->∀i' x',i'<i+1->l[i']?=some x'->x'.out=false->On l i' x' false\/Bu l (rpl i' [] l)=false):=fun h=>HN.out fun _=>.inr h;have HI:Agt (On l i x false->∀i' x',i'<i+1->l[i']?=some x'->x'.out=false->On l i' x' false\/Bu l (rpl i' [] l)=false):=fun h=>HN.out fun _=>.inl h;generalize ay:Bu l (rpl i [] l)=ab at ak HA HY;generalize az:rpl i [] l=R at am ak HY;clear HN ac ay az
   repeat' first|refine Z1 ?_|refine Z8 fun ya J=>?_|refine Z4 ?_;clear J ya|refine Z2 ?_ ?_<;>intro h ad<;>try exact Xp|(refine Z5 ?_;first|(refine Xi (am _) ?_;rintro _ _ ⟨idr,cr,rfl,aj,ae⟩;(have ao:=ak idr cr aj;have a3:Agt _:=aj;clear aj))|(refine Xi (a0 _) ?_;rintro _ _ ⟨b,rfl,hb,an⟩;(have HB:Agt _:=hb;clear hb;cases b))|(refine Xi (ao _) ?_;rintro _ _ ⟨rfl,au⟩;(cases ab)))|refine Z3 ?_|exact Zt|apply J.out;clear J ya
   ·have af:Agt _:=HI.out HB.out;clear HA HY HI;refine⟨l.length-(i+1),Agm,i+1,?_⟩
    ((repeat' refine Zi ?_ ?_)<;>first|exact Xq|exact af|exact ((hK.trans ae).trans an)|exact Xs)
   ·have af:Agt _:=HA.out rfl;clear HA HY HI;refine⟨l.length-(i+1),Agm,i+1,?_⟩
    ((repeat' refine Zi ?_ ?_)<;>first|exact Xq|exact af|exact (((hK.trans ae).trans an).trans au)|exact Xs)
   ·exact⟨_,rfl,some R,R,idr,cr,rfl,HY.out HB.out rfl,(by intro l' h;cases h;rfl),a3.out,((hK.trans ae).trans an).trans au⟩
 ·have HR:Agt (DrR l none):=.inl ⟨rfl,fun i' x' h=>ac.out i' x' (by have:=(Adm.1 h).1;omega) h⟩;clear ac
  repeat' first|refine Z1 ?_|refine Z8 fun ya J=>?_|refine Z4 ?_;clear J ya|refine Z2 ?_ ?_<;>intro h ad<;>try exact Xp|refine Z3 ?_|exact Zt|apply J.out;clear J ya
  first|exact⟨_,rfl,none,l,idl,cs,rfl,HR.out,(by intro l' h;cases h),hE,hK⟩|exact⟨_,rfl,none,l,idl,cs,rfl,HR.out,(by intro l' h;cases h),hE⟩
def RgI (l:List RItem):Prop:=∃t,(As t).1=0/\Bh t=l
structure RgP (l:List RItem):Prop where
 len:l.length<=16
 fs:∀x∈l,x.fits/\x.short
 b5:∀x∈l,x.body.length<=5
 fine:∀x∈l,Fine x
theorem RgI.p {l:List RItem}(h:RgI l):RgP l:=by
 obtain⟨t,h1,rfl⟩:=h;obtain⟨aa,l,r,hp⟩:=G1 h1;obtain⟨g1,g2,g3,g4⟩:=D8 Agm hp;have hF:=Ns h1;rw[g2]at hF⊢;have hb:∀x∈l,x.body.length<=5:=fun x hx=>by
  cases ho:x.out with
  |true=>rw[((g4 x hx).2.1 ho).2.2];simp
  |false=>exact ((g4 x hx).2.2 ho).2.2.1
 refine⟨g3,fun x hx=>⟨?_,(hF x hx).sh⟩,hb,hF⟩;cases ho:x.out with
 |true=>
  obtain⟨w1,w2,w3⟩:=(g4 x hx).2.1 ho;exact⟨by rw[w3];simp,by rw[w2];simp,fun a ha=>by rw[w3]at ha;cases ha⟩
 |false=>
  obtain⟨w1,w2,w3,w4⟩:=(g4 x hx).2.2 ho;exact⟨Agm,by have:=w1.2.2.1;omega,fun a ha=>by have:=(w4 a ha).2.2.1;omega⟩
def xR (l:List RItem):Prop:=(As (Bm l)).1=0/\l.length<=16/\∀x∈l,x.fits/\x.short
def nH (T:List RItem->Option (List RItem)->Prop)(c:UInt8):Prop:=∀(l:List RItem) (cs:List AV) (idl:Nat),RgI l->EL EItem l cs->∀σ:St,ACalls Tryz.prog 100 [sl idl l.length cs,sc (.int .u8 c.toNat)] σ fun r σ'=>∃o m id c',r=tp [sl id m.length c',sc (.bool o.isSome)]/\T l o/\(∀l',o=some l'->m=l'/\xR l')/\EL EItem m c'/\Keep σ σ'
def SlR (l:List RItem)(o:Option (List RItem)):Prop:=((decide ((l.filter (Fb l)).length<l.length)&&Bu l (l.filter (Fb l)))=true/\o=some (l.filter (Fb l)))\/((decide ((l.filter (Fb l)).length<l.length)&&Bu l (l.filter (Fb l)))=false/\o=none)
theorem J3 {l m:List RItem}(h:Bu l m=true):(As (Bm m)).1=0/\m.length<=16:=by
 unfold Bu at h;simp only[Adr,Age,Agf]at h;exact⟨h.2.2.1,h.1⟩
theorem dsS:nH SlR 115:=fun l cs idl hl hE σ=>by
 have hp:=hl.p;have hS:=fun σ=>bD l cs idl hE hp.len hp.fs σ;have e1:((((115:UInt8).toNat:Nat):Int)==115)=true:=rfl;have HR:Agt (∀b,(decide ((l.filter (Fb l)).length<l.length)&&Bu l (l.filter (Fb l)))=b->∃o,b=o.isSome/\SlR l o/\∀l',o=some l'->l.filter (Fb l)=l'/\xR l'):=fun b h=>by
  cases b with
  |true=>
   refine⟨some _,rfl,.inl ⟨h,rfl⟩,fun l' e=>?_⟩;cases e;simp only[Adr]at h;exact⟨rfl,(J3 h.2).1,(J3 h.2).2,fun x hx=>hp.fs x (Afz.1 hx).1⟩
  |false=>exact⟨none,rfl,.inr ⟨h,rfl⟩,fun l' e=>by cases e⟩
 generalize ad:(decide ((l.filter (Fb l)).length<l.length)&&Bu l (l.filter (Fb l)))=bb at hS;obtain⟨o,ah,ac,ab⟩:=HR.out bb ad;have af:Agt _:=ac;have aa:Agt _:=ab;clear HR ad hp ac ab;generalize l.filter (Fb l)=m at hS aa;subst ah;refine Z9 35 [.tmp 4,.tmp 5] Tryz.func100 ?_
 repeat' first|refine Z1 ?_|refine Z8 fun ya J=>?_|refine Z4 ?_;clear J ya|refine Z2 ?_ ?_<;>intro h ai<;>try exact Xp|refine Z5 ?_;refine Xi (hS _) ?_;rintro _ _ ⟨id,c',rfl,ae,aj⟩|refine Z3 ?_|exact Zt|apply J.out;clear J ya
 first|exact⟨_,rfl,o,m,id,c',rfl,af.out,aa.out,ae,aj⟩|exact⟨_,rfl,o,m,id,c',rfl,af.out,aa.out,ae⟩
theorem dsA:nH TrR 97:=fun l cs idl hl hE σ=>by
 have hp:=hl.p;have hS:=fun σ=>Wj l cs idl hE hp.len hp.fs hp.b5 σ;have e1:((((97:UInt8).toNat:Nat):Int)==115)=false:=rfl;have e2:((((97:UInt8).toNat:Nat):Int)==97)=true:=rfl;have HW:Agt (∀o,TrR l o->∀l',o=some l'->xR l'):=fun o h l' e=>by
  subst e;rcases h with⟨h,-⟩|⟨i,x,k,h,hx,-,ht,-⟩
  ·cases h
  ·cases h
   exact⟨(J3 ht.2).1,(J3 ht.2).2,fun y hy=>by
    rcases E0 hy with hy|hy
    ·exact hp.fs y hy
    ·have:y=Cw x k:=by simpa using hy
     rw[this];exact Aaw (hp.fs x (Adp hx)) k⟩
 clear hp;refine Z9 35 [.tmp 4,.tmp 5] Tryz.func100 ?_
 repeat' first|refine Z1 ?_|refine Z8 fun ya J=>?_|refine Z4 ?_;clear J ya|refine Z2 ?_ ?_<;>intro h ab<;>try exact Xp|refine Z5 ?_;refine Xi (hS _) ?_;rintro _ _ ⟨o,m,id,c',rfl,hT,hm,aa,ac⟩;(have HT:Agt _:=hT;have HM:Agt _:=hm;clear hT hm)|refine Z3 ?_|exact Zt|apply J.out;clear J ya
 have HR:Agt (∀l',o=some l'->m=l'/\xR l'):=fun l' e=>⟨HM.out l' e,HW.out o HT.out l' e⟩
 first|exact⟨_,rfl,o,m,id,c',rfl,HT.out,HR.out,aa,ac⟩|exact⟨_,rfl,o,m,id,c',rfl,HT.out,HR.out,aa⟩
theorem dsR:nH DrR 114:=fun l cs idl hl hE σ=>by
 have hp:=hl.p;have hS:=fun σ=>Wn l cs idl hE hp.len hp.fs hp.fine σ;have e1:((((114:UInt8).toNat:Nat):Int)==115)=false:=rfl;have e2:((((114:UInt8).toNat:Nat):Int)==97)=false:=rfl;have e3:((((114:UInt8).toNat:Nat):Int)==114)=true:=rfl;have HW:Agt (∀o,DrR l o->∀l',o=some l'->xR l'):=fun o h l' e=>by
  subst e;rcases h with⟨h,-⟩|⟨i,x,h,hx,-,-,ht,-⟩
  ·cases h
  ·cases h
   exact⟨(J3 ht).1,(J3 ht).2,fun y hy=>by
    rcases E0 hy with hy|hy
    ·exact hp.fs y hy
    ·cases hy⟩
 clear hp;refine Z9 35 [.tmp 4,.tmp 5] Tryz.func100 ?_
 repeat' first|refine Z1 ?_|refine Z8 fun ya J=>?_|refine Z4 ?_;clear J ya|refine Z2 ?_ ?_<;>intro h ab<;>try exact Xp|refine Z5 ?_;refine Xi (hS _) ?_;rintro _ _ ⟨o,m,id,c',rfl,hT,hm,aa,ac⟩;(have HT:Agt _:=hT;have HM:Agt _:=hm;clear hT hm)|refine Z3 ?_|exact Zt|apply J.out;clear J ya
 have HR:Agt (∀l',o=some l'->m=l'/\xR l'):=fun l' e=>⟨HM.out l' e,HW.out o HT.out l' e⟩
 first|exact⟨_,rfl,o,m,id,c',rfl,HT.out,HR.out,aa,ac⟩|exact⟨_,rfl,o,m,id,c',rfl,HT.out,HR.out,aa⟩
inductive DChg (T:List RItem->Option (List RItem)->Prop)(b:Int)(l:List RItem)(m:Int):List RItem->Int->Prop where
 |refl:DChg T b l m l m
 |snoc {l1 l2:List RItem} {m1:Int}:DChg T b l m l1 m1->m1<b->T l1 (some l2)->xR l2->DChg T b l m (Bh (Bm l2)) (m1+1)
def yJ (T:List RItem->Option (List RItem)->Prop)(b:Int)(l:List RItem)(m:Int)(l':List RItem)(m':Int):Prop:=DChg T b l m l' m'/\(b<=m'\/T l' none)
inductive DPss (T:UInt8->List RItem->Option (List RItem)->Prop)(b:Int)(l:List RItem)(m:Int):Tx->List RItem->Int->Prop where
 |nil:DPss T b l m [] l m
 |snoc {ps:Tx} {c:UInt8} {l1 l2:List RItem} {m1 m2:Int}:DPss T b l m ps l1 m1->yJ (T c) b l1 m1 l2 m2->DPss T b l m (ps++[c]) l2 m2
def I0 (T:UInt8->List RItem->Option (List RItem)->Prop)(t ps:Tx)(b:Int)(r:Tx×Int×Int):Prop:=
 if (As t).1≠0 then r=([],0,(As t).1)else
 if Cu ps=false then r=([],0,11)else
 if b<0 then r=([],0,6)else
 ∃l' m,DPss T b (Bh t) 0 ps l' m/\r=(Bm l',m,0)
theorem Aci (c:UInt8):((Bp [115,97,114,117,108] (c.toNat:Int):Int)==5)=!G5 c:=by
 have:∀c:UInt8,((Bp [115,97,114,117,108] (c.toNat:Int):Int)==5)=!G5 c:=by
  intro c;have h:=c.toNat_lt;by_cases h1:c=115
  ·subst h1;decide
  by_cases h2:c=97
  ·subst h2;decide
  by_cases h3:c=114
  ·subst h3;decide
  by_cases h4:c=117
  ·subst h4;decide
  by_cases h5:c=108
  ·subst h5;decide
  have hp:G5 c=false:=by simp[G5,h1,h2,h3,h4,h5]
  have k:∀d:UInt8,c≠d->¬((d.toNat:Int)=(c.toNat:Int)):=fun d hd e=>hd (UInt8.toNat_inj.1 Agm);rw[hp,U7 _ _ fun j _ x hx=>?_]
  ·rfl
  ·have aa:x∈([115,97,114,117,108]:List UInt8):=Adp hx;simp only[Ae2,Afg,Agj]at aa;rcases aa with rfl|rfl|rfl|rfl|rfl
   ·simpa using k _ h1
   ·simpa using k _ h2
   ·simpa using k _ h3
   ·simpa using k _ h4
   ·simpa using k _ h5
 exact this c
theorem T9 (T:UInt8->List RItem->Option (List RItem)->Prop)(t ps:Tx)(b:Int)(b8:b<=9223372036854775807)(hT:0<b->Cu ps=true->∀c∈ps,nH (T c) c)(σ:St):ACalls Tryz.prog 57 [str t,str ps,sc (.int .i64 b)] σ fun r σ'=>∃p,r=uO p/\I0 T t ps b p/\Keep σ σ':=by
 have b7:({data:=#[]}:ByteArray)=bs []:=rfl;have b6:({data:=#[115,97,114,117,108]}:ByteArray)=bs [115,97,114,117,108]:=rfl;have hC:=fun σ=>Q0 t σ;by_cases he:(As t).1=0
 case neg=>
  have bv:((As t).1 !=0)=true:=by simpa using he
  have HP:Agt (I0 T t ps b ([],0,(As t).1)):=by rw[Agt,I0,if_pos he]
  clear he hT;refine Z9 74 [.tmp 6,.tmp 7,.tmp 8] Tryz.func57 ?_
  repeat' first|refine Z1 ?_|refine Z8 fun ya J=>?_|refine Z4 ?_;clear J ya|refine Z2 ?_ ?_<;>intro h aa<;>try exact Xp|refine Z5 ?_;refine Xi (hC _) ?_;rintro _ _ ⟨rfl,ae⟩|refine Z3 ?_|exact Zt|apply J.out;clear J ya
  first|exact⟨_,rfl,([],0,_),rfl,HP.out,ae⟩|exact⟨_,rfl,([],0,_),rfl,HP.out⟩
 have bv:((As t).1 !=0)=false:=by simpa using he
 by_cases h8:8<ps.length
 ·have bz:decide ((ps.length:Int)>8)=true:=by rw[Age];omega
  have HP:Agt (I0 T t ps b ([],0,11)):=by
   rw[Agt,I0,if_neg (by simp[he]),if_pos];unfold Cu;rw[Agk Agm];rfl
  clear he hT h8;refine Z9 74 [.tmp 6,.tmp 7,.tmp 8] Tryz.func57 ?_
  repeat' first|refine Z1 ?_|refine Z8 fun ya J=>?_|refine Z4 ?_;clear J ya|refine Z2 ?_ ?_<;>intro h aa<;>try exact Xp|refine Z5 ?_;refine Xi (hC _) ?_;rintro _ _ ⟨rfl,ae⟩|refine Z3 ?_|exact Zt|apply J.out;clear J ya
  first|exact⟨_,rfl,([],0,11),rfl,HP.out,ae⟩|exact⟨_,rfl,([],0,11),rfl,HP.out⟩
 have bz:decide ((ps.length:Int)>8)=false:=by simp;omega
 have af:=fun c σ=>Jy [115,97,114,117,108] c (by simp) σ;obtain⟨av,l0,r0,ai⟩:=G1 he;obtain⟨g1,g2,g3,g4⟩:=D8 Agm ai;have hI:=fun σ=>N8 t Agm (by have:=g1.1;omega) g1.2 σ;have a6:Agt (∀l2,xR l2->∀σ,ACalls Tryz.prog 88 [str (Bm l2)] σ fun r σ'=>∃id cs,r=sl id (Bh (Bm l2)).length cs/\EL EItem (Bh (Bm l2)) cs/\Keep σ σ'):=fun l2 h2 σ=>by
  obtain⟨h1,l3,r3,h3⟩:=G1 h2.1;obtain⟨k1,k2,k3,k4⟩:=D8 Agm h3;exact N8 (Bm l2) Agm (by have:=k1.1;omega) k1.2 σ
 have HR:Agt (∀p,(if Cu ps=false then p=([],0,11)else if b<0 then p=([],0,6)else∃l' m,DPss T b (Bh t) 0 ps l' m/\p=(Bm l',m,0))->I0 T t ps b p):=fun p h=>by rw[I0,if_neg (by simp[he])];exact h
 have HG:Agt (RgI (Bh t)):=⟨t,he,rfl⟩;clear g1 g2 g3 g4 ai av;generalize Bh t=li at hI HR HG;refine Z9 74 [.tmp 6,.tmp 7,.tmp 8] Tryz.func57 ?_
 repeat' first|refine Z1 ?_|refine Z8 fun ya J=>?_|refine Z4 ?_;clear J ya|refine Z2 ?_ ?_<;>intro h aa<;>try exact Xp|refine Z5 ?_;refine Xi (hC _) ?_;rintro _ _ ⟨rfl,ae⟩|refine Z3 ?_|exact Zt|apply J.out;clear J ya
 refine Ad (fun m s σ'=>∃i:Nat,m=ps.length-i/\i<=ps.length/\s 0=str t/\s 1=str ps/\s 2=sc (.int .i64 b)/\s 11=ic i/\Keep σ σ'/\Agt (∀c∈ps.take i,G5 c=true)) ps.length
  ⟨0,Agm,Agm,by simp[upd,initS],by simp[upd,initS],by simp[upd,initS],Ago,ae,by simp[Agt]⟩ ?_
 clear ae hC;rintro m s σ' ⟨i,rfl,hi,h0,h1,h2,b3,hK,ad⟩;have an:=hK.nobj;by_cases br:i<ps.length
 ·have ab:=Adn br;generalize ps[i]=c at ab;have af:=af c.toNat;have ao:=Aci c;cases hc:G5 c with
  |false=>
   rw[hc]at ao
   have HP:Agt (I0 T t ps b ([],0,11)):=HR.out _ (by
    rw[if_pos];unfold Cu
    rw[show ps.all G5=false from Afu.2 ⟨c,Adp ab,by simp[hc]⟩];simp)
   clear ad HR HG a6 hI hT hc;generalize Bp [115,97,114,117,108] (c.toNat:Int)=fn at af ao
   repeat' first|refine Z1 ?_|refine Z8 fun ya J=>?_|refine Z4 ?_;clear J ya|refine Z2 ?_ ?_<;>intro h aa<;>try exact Xp|refine Z5 ?_;refine Xi (af _) ?_;rintro _ _ ⟨rfl,rfl⟩|refine Z3 ?_|exact Zt|apply J.out;clear J ya
   first|exact⟨_,rfl,([],0,11),rfl,HP.out,hK⟩|exact⟨_,rfl,([],0,11),rfl,HP.out⟩
  |true=>
   rw[hc]at ao;have HN:Agt (∀c∈ps.take (i+1),G5 c=true):=fun d hd=>by
    rw[Ad0,ab]at hd;rcases Aet.1 hd with hd|hd
    ·exact ad.out d hd
    ·have:d=c:=by simpa using hd
     rw[this];exact hc
   clear ad hc;generalize Bp [115,97,114,117,108] (c.toNat:Int)=fn at af ao
   repeat' first|refine Z1 ?_|refine Z8 fun ya J=>?_|refine Z4 ?_;clear J ya|refine Z2 ?_ ?_<;>intro h aa<;>try exact Xp|refine Z5 ?_;refine Xi (af _) ?_;rintro _ _ ⟨rfl,rfl⟩|refine Z3 ?_|exact Zt|apply J.out;clear J ya
   refine⟨ps.length-(i+1),Agm,i+1,?_⟩
   ((repeat' refine Zi ?_ ?_)<;>first|exact Xq|exact HN|exact Xs)
 ·have bu:i=ps.length:=Agm;subst bu;rw[Adu]at ad;have ah:Cu ps=true:=by
   unfold Cu;rw[Agl Agm,Ado.2 ad.out];rfl
  have hT:=fun h0=>hT h0 ah;by_cases am:b<0
  ·have b0:decide (b<0)=true:=by simpa using am
   have HP:Agt (I0 T t ps b ([],0,6)):=HR.out _ (by rw[if_neg (by simp[ah]),if_pos am]);clear ad HR HG a6 hI hT ah am
   repeat' first|refine Z1 ?_|refine Z8 fun ya J=>?_|refine Z4 ?_;clear J ya|refine Z2 ?_ ?_<;>intro h aa<;>try exact Xp|refine Z3 ?_|exact Zt|apply J.out;clear J ya
   first|exact⟨_,rfl,([],0,6),rfl,HP.out,hK⟩|exact⟨_,rfl,([],0,6),rfl,HP.out⟩
  have b0:decide (b<0)=false:=by simpa using am
  have HP:Agt (∀l' m,DPss T b li 0 ps l' m->I0 T t ps b (Bm l',m,0)):=fun l' m h=>HR.out _ (by rw[if_neg (by simp[ah]),if_neg am];exact⟨l',m,h,rfl⟩);have b4:Agt (0<b->∀c∈ps,nH (T c) c):=hT;clear ad HR hT ah
  repeat' first|refine Z1 ?_|refine Z8 fun ya J=>?_|refine Z4 ?_;clear J ya|refine Z2 ?_ ?_<;>intro h aa<;>try exact Xp|refine Z5 ?_;refine Xi (hI _) ?_;rintro _ _ ⟨idl,cs,rfl,hE,bc⟩;(have ba:=hK.trans bc)|refine Z3 ?_|exact Zt|apply J.out;clear J ya
  refine Ad (fun m s σ'=>∃(i:Nat) (n:Int) (l1:List RItem) (id1:Nat) (c1:List AV),m=ps.length-i/\i<=ps.length/\0<=n/\n<=b/\s 1=str ps/\s 2=sc (.int .i64 b)/\s 12=sl id1 l1.length c1/\s 13=ic n/\s 14=ic i/\Keep σ σ'/\Agt (DPss T b li 0 (ps.take i) l1 n/\RgI l1/\EL EItem l1 c1)) ps.length
   ⟨0,0,li,idl,cs,Agm,Agm,Agm,Agm,by simp[upd,h1],by simp[upd,h2],Ago,Ago,Ago,ba,DPss.nil,HG.out,hE⟩ ?_
  clear h0 h1 h2 b3 hK ba bc hI HG an;rintro m s σ' ⟨i,n,l1,id1,c1,rfl,hi,bq,bp,h1,h2,a5,a4,a3,hK,hA⟩;have an:=hK.nobj;by_cases aj:i<ps.length
  ·have ab:=Adn aj;have ax:=fun h0=>b4.out h0 ps[i] (Aes aj);generalize ps[i]=c at ab ax;have bh:Agt (∀l2 m2,yJ (T c) b l1 n l2 m2->DPss T b li 0 (ps.take (i+1)) l2 m2):=fun l2 m2 h=>by
    rw[Ad0,ab,Aez];exact DPss.snoc hA.out.1 h
   have bg:Agt (RgI l1):=hA.out.2.1;have bm:Agt (EL EItem l1 c1):=hA.out.2.2;have bn:Agt (0<b->nH (T c) c):=ax;clear hA ax
   repeat' first|refine Z1 ?_|refine Z8 fun ya J=>?_|refine Z4 ?_;clear J ya|refine Z2 ?_ ?_<;>intro h aa<;>try exact Xp|refine Z3 ?_|exact Zt|apply J.out;clear J ya
   refine Ad (fun q s σ'=>∃(more:Bool) (n2:Int) (l2:List RItem) (id2:Nat) (c2:List AV),q=(b-n2).toNat+(if more=true then 1 else 0)/\0<=n2/\n2<=b/\s 1=str ps/\s 2=sc (.int .i64 b)/\s 12=sl id2 l2.length c2/\s 13=ic n2/\s 14=ic i/\s 15=sc (.bool more)/\Keep σ σ'/\Agt (DChg (T c) b l1 n l2 n2/\(more=false->T c l2 none)/\RgI l2/\EL EItem l2 c2)) ((b-n).toNat+1)
    ⟨true,n,l1,id1,c1,by simp,bq,bp,by simp[upd,h1],by simp[upd,h2],by simp[upd,a5],by simp[upd,a4],by simp[upd,a3],Ago,hK,.refl,(by intro h;cases h),bg.out,bm.out⟩ ?_
   clear h1 h2 a5 a4 a3 hK an bg bm;rintro q s σ' ⟨more,n2,l2,id2,c2,hq,hm0,hm1,h1,h2,a5,a4,a3,b9,hK,hB⟩;have an:=hK.nobj;by_cases ak:more=true/\n2<b
   ·obtain⟨rfl,a7⟩:=ak;have bw:decide (n2<b)=true:=by simpa using a7
    have b5:q=(b-n2).toNat+1:=by simpa using hq
    have bf:=fun σ=>bn.out Agm l2 c2 id2 hB.out.2.2.1 hB.out.2.2.2 σ
    repeat' first|refine Z1 ?_|refine Z8 fun ya J=>?_|refine Z4 ?_;clear J ya|refine Z2 ?_ ?_<;>intro h aa<;>try exact Xp|refine Z3 ?_|exact Zt
    refine ACalls.mono (bf _) ?_;rintro _ σ5 ⟨o,mm,idm,cm,rfl,au,ay,be,bb⟩;have a9:=hK.trans bb;have knoy:=a9.nobj;clear bb bf;cases o with
    |none=>
     have HN:Agt (DChg (T c) b l1 n l2 n2/\(false=false->T c l2 none)/\RgI l2/\EL EItem l2 c2):=⟨hB.out.1,fun _=>au,hB.out.2.2⟩;clear hB au ay be;refine Z3 ?_
     repeat' first|refine Z1 ?_|refine Z8 fun ya J=>?_|refine Z4 ?_;clear J ya|refine Z2 ?_ ?_<;>intro h aa<;>try exact Xp|refine Z3 ?_|exact Zt|apply J.out;clear J ya
     refine⟨(b-n2).toNat,Agm,false,n2,l2,id2,c2,?_⟩
     ((repeat' refine Zi ?_ ?_)<;>first|exact Xq|exact HN|exact (by simp)|exact Xs)
    |some l3=>
     obtain⟨rfl,ac⟩:=ay l3 rfl;have az:=fun σ=>Nm mm cm idm be ac.2.1 (fun x hx=>(ac.2.2 x hx).1) (fun x hx=>(ac.2.2 x hx).2) σ;have bd:=a6.out mm ac;have bo:Agt (DChg (T c) b l1 n (Bh (Bm mm)) (n2+1)):=.snoc hB.out.1 a7 au ac;have bi:Agt (RgI (Bh (Bm mm))):=⟨_,ac.1,rfl⟩;clear hB au ay ac;generalize Bh (Bm mm)=l4 at bd bo bi;refine Z3 ?_
     repeat' first|refine Z1 ?_|refine Z8 fun ya J=>?_|refine Z4 ?_;clear J ya|refine Z2 ?_ ?_<;>intro h aa<;>try exact Xp|(refine Z5 ?_;first|(refine Xi (az _) ?_;rintro _ _ ⟨rfl,a0⟩)|(refine Xi (bd _) ?_;rintro _ _ ⟨id4,c4,rfl,b2,b1⟩))|refine Z3 ?_|exact Zt|apply J.out;clear J ya
     have HN:Agt (DChg (T c) b l1 n l4 (n2+1)/\(true=false->T c l4 none)/\RgI l4/\EL EItem l4 c4):=⟨bo.out,(by intro h;cases h),bi.out,b2⟩;refine⟨(b-(n2+1)).toNat+1,Agm,true,n2+1,l4,id4,c4,?_⟩
     ((repeat' refine Zi ?_ ?_)<;>first|exact Xq|exact HN|exact ((a9.trans a0).trans b1)|exact (by simp)|exact Xs)
   ·have HN:Agt (DPss T b li 0 (ps.take (i+1)) l2 n2/\RgI l2/\EL EItem l2 c2):=⟨bh.out l2 n2 ⟨hB.out.1,by
     cases more with
     |false=>exact .inr (hB.out.2.1 rfl)
     |true=>exact .inl (by
      have:¬n2<b:=fun h=>ak ⟨rfl,h⟩
      omega)⟩,hB.out.2.2⟩
    clear hB bh bn;cases more with
    |false=>
     clear ak
     repeat' first|refine Z1 ?_|refine Z8 fun ya J=>?_|refine Z4 ?_;clear J ya|refine Z2 ?_ ?_<;>intro h aa<;>try exact Xp|refine Z3 ?_|exact Zt|apply J.out;clear J ya
     refine⟨ps.length-(i+1),Agm,i+1,n2,l2,id2,c2,?_⟩
     ((repeat' refine Zi ?_ ?_)<;>first|exact Xq|exact HN|exact Xs)
    |true=>
     have bw:decide (n2<b)=false:=by
      have:¬n2<b:=fun h=>ak ⟨rfl,h⟩;simpa using this
     clear ak
     repeat' first|refine Z1 ?_|refine Z8 fun ya J=>?_|refine Z4 ?_;clear J ya|refine Z2 ?_ ?_<;>intro h aa<;>try exact Xp|refine Z3 ?_|exact Zt|apply J.out;clear J ya
     refine⟨ps.length-(i+1),Agm,i+1,n2,l2,id2,c2,?_⟩
     ((repeat' refine Zi ?_ ?_)<;>first|exact Xq|exact HN|exact Xs)
  ·have aw:i=ps.length:=Agm;rw[aw,Adu]at hA;have a8:=HP.out l1 n hA.out.1;have ap:=hA.out.2.1.p;have az:=fun σ=>Nm l1 c1 id1 hA.out.2.2 ap.len (fun x hx=>(ap.fs x hx).1) (fun x hx=>(ap.fs x hx).2) σ;have HX:Agt _:=a8;clear hA HP ap a8
   repeat' first|refine Z1 ?_|refine Z8 fun ya J=>?_|refine Z4 ?_;clear J ya|refine Z2 ?_ ?_<;>intro h aa<;>try exact Xp|refine Z5 ?_;refine Xi (az _) ?_;rintro _ _ ⟨rfl,a0⟩|refine Z3 ?_|exact Zt|apply J.out;clear J ya
   first|exact⟨_,rfl,(Bm l1,n,0),rfl,HX.out,hK.trans a0⟩|exact⟨_,rfl,(Bm l1,n,0),rfl,HX.out⟩
def zU (np:Nat)(L:List (Nat×Cc)):MM:=(List.range np).map fun j=>(0,(L.filter fun y=>y.1==j).map (·.2))
theorem lU {np:Nat}{L:List (Nat×Cc)}(h:∀y∈L,y.1<np)(j:Nat)(t:Cc):MD (zU np L) j t↔(j,t)∈L:=by
 unfold MD A6 zU;rw[Af3,Adx];by_cases hj:j<np
 ·rw[Adn (by simpa using hj)];simp only[List.getElem_range,Aeu,Option.getD_some,Ae4,Afz,Agf];constructor
  ·rintro⟨⟨a,b⟩,⟨h1,rfl⟩,rfl⟩;exact h1
  ·exact fun h1=>⟨(j,t),⟨h1,rfl⟩,rfl⟩
 ·rw[Ady (by simpa using hj)];constructor
  ·intro h1;simp at h1
  ·intro h1;exact absurd (h _ h1) hj
theorem wD {np:Nat}{L:List (Nat×Cc)}(h:L.Nodup):∀x∈zU np L,x.2.Nodup:=fun x hx=>by
 obtain⟨j,-,rfl⟩:=Ae4.1 hx;show ((L.filter fun y=>y.1==j).map (·.2)).Nodup;unfold List.Nodup;rw[List.pairwise_map];refine List.Pairwise.imp_of_mem (fun {a b} ha hb aa e=>aa ?_) (h.filter _);have h1:=(Afz.1 ha).2;have h2:=(Afz.1 hb).2;simp only[Agf]at h1 h2;exact Prod.ext (h1.trans h2.symm) e
theorem oU (f g:Nat->Int):∀L:List Nat,(L.map fun j=>f j+g j).sum=(L.map f).sum+(L.map g).sum
 |[]=>by simp
 |a::L=>by simp only[Ad7,List.sum_cons,oU f g L];omega
theorem oT (i:Nat):∀np,((List.range np).map fun j=>if i=j then (1:Int)else 0).sum=if i<np then 1 else 0
 |0=>by simp
 |n+1=>by
  rw[List.range_succ,Ad2,List.sum_append,oT i n];simp only[Ad7,Ad8,List.sum_cons,List.sum_nil];by_cases h1:i<n
  ·rw[if_pos h1,if_neg Agm,if_pos Agm];rfl
  ·rw[if_neg h1];by_cases h2:i=n
   ·rw[if_pos h2,if_pos Agm];rfl
   ·rw[if_neg h2,if_neg Agm];rfl
theorem bO {np:Nat}:∀{L:List (Nat×Cc)},(∀y∈L,y.1<np)->tot (zU np L)=L.length
 |[],_=>by
  unfold tot Gv zU;rw[Ad3];have:((fun x:Nat×List Cc=>(x.2.length:Int))∘fun j=>(0,(([]:List (Nat×Cc)).filter fun y=>y.1==j).map (·.2)))=fun _=>(0:Int):=by funext j;simp
  rw[this];have:∀L:List Nat,(L.map fun _=>(0:Int)).sum=0:=fun L=>by induction L with|nil=>rfl|cons a L ih=>simp[ih]
  rw[this];rfl
 |y::L,h=>by
  have ih:=bO (np:=np) (L:=L) fun z hz=>h z (by simp[hz]);unfold tot Gv zU at ih⊢;rw[Ad3]at ih⊢;have e:((fun x:Nat×List Cc=>(x.2.length:Int))∘fun j=>(0,((y::L).filter fun z=>z.1==j).map (·.2)))=fun j=>(if y.1=j then (1:Int)else 0)+((fun x:Nat×List Cc=>(x.2.length:Int))∘fun j=>(0,(L.filter fun z=>z.1==j).map (·.2))) j:=by
   funext j;simp only[Function.comp,Ae3,List.filter_cons];by_cases hj:y.1=j
   ·simp[hj];omega
   ·simp[hj]
  rw[e,oU,ih,oT,if_pos (h y (by simp))];simp;omega
theorem zN (R:List J4)(F:List Dy)(k:Nat)(h:Cc):∃b,V8 R F k h b:=by
 classical
 have bd:∀L:List (Nat×Cc),∃np,∀y∈L,y.1<np:=fun L=>by
  induction L with
  |nil=>exact⟨0,fun y hy=>by cases hy⟩
  |cons a L ih=>
   obtain⟨np,hn⟩:=ih;refine⟨np+a.1+1,fun y hy=>?_⟩;rcases Ae2.1 hy with rfl|hy
   ·omega
   ·have:=hn y hy;omega
 by_cases hb:∃L:List (Nat×Cc),L.Nodup/\(∀y∈L,LstF R F y.1 y.2)/\200<L.length
 ·obtain⟨L,h1,h2,h3⟩:=hb;obtain⟨np,hn⟩:=bd L;refine⟨false,zU np L,wD h1,fun j t g=>h2 (j,t) ((lU hn j t).1 g),?_⟩;rw[bO hn,if_neg Agm]
 ·have ab:∃n,(∃L:List (Nat×Cc),L.Nodup/\(∀y∈L,LstF R F y.1 y.2)/\L.length=n)/\¬ ∃L:List (Nat×Cc),L.Nodup/\(∀y∈L,LstF R F y.1 y.2)/\L.length=n+1:=by
   refine Classical.byContradiction fun hc=>hb ?_;have all:∀n,∃L:List (Nat×Cc),L.Nodup/\(∀y∈L,LstF R F y.1 y.2)/\L.length=n:=fun n=>by
    induction n with
    |zero=>exact⟨[],Afs,(fun y hy=>by cases hy),rfl⟩
    |succ n ih=>exact Classical.byContradiction fun h=>hc ⟨n,ih,h⟩
   obtain⟨L,h1,h2,h3⟩:=all 201;exact⟨L,h1,h2,Agm⟩
  obtain⟨n,⟨L,h1,h2,h3⟩,aa⟩:=ab;obtain⟨np,hn⟩:=bd L;have ac:L.length<=200:=Nat.le_of_not_lt fun g=>hb ⟨L,h1,h2,g⟩;refine⟨decide (MD (zU np L) k h),zU np L,wD h1,fun j t g=>h2 (j,t) ((lU hn j t).1 g),?_⟩;rw[bO hn,if_pos Agm];refine⟨fun j t g=>(lU hn j t).2 ?_,by simp⟩;refine Classical.byContradiction fun hm=>aa ⟨(j,t)::L,List.nodup_cons.2 ⟨hm,h1⟩,fun y hy=>?_,by simp[h3]⟩;rcases Ae2.1 hy with rfl|hy
  ·exact g
  ·exact h2 y hy
theorem Aa2 {N:List Tx}:∀{l:List RAtom},(∀a∈l,a.pred∈N)->∃b,EL (PL N) l b
 |[],_=>⟨[],rfl⟩
 |a::l,h=>by
  obtain⟨b,hb⟩:=Aa2 (l:=l) fun c hc=>h c (by simp[hc]);exact⟨_,_,b,⟨h a (by simp),0,rfl⟩,hb,rfl⟩
theorem Aa3 {N:List Tx}:∀{l:List RItem},(∀x∈l,x.head.pred∈N/\∀a∈x.body,a.pred∈N)->∃c,EL (PI N) l c
 |[],_=>⟨[],rfl⟩
 |x::l,h=>by
  obtain⟨c,hc⟩:=Aa3 (l:=l) fun y hy=>h y (by simp[hy]);obtain⟨b,hb⟩:=Aa2 (h x (by simp)).2;exact⟨_,_,c,⟨(h x (by simp)).1,0,0,b,hb,rfl⟩,hc,rfl⟩
theorem RgI.rt {l:List RItem}(h:RgI l):(∃N ar,RtL N ar l)/\(∀x∈l,tJ x)/\(Cf l).1=0:=by
 obtain⟨t,h1,h2⟩:=h;obtain⟨ac,l0,r,hp⟩:=G1 h1;have ad:r=[]:=(Iw _ _ _ _ hp).2.1;subst ad;obtain⟨g1,g2,g3,g4⟩:=D8 Agm hp;rw[g2]at h2;subst h2;have hg:=Zd _ _ _ _ hp;have aa:=(show RgI l0 from⟨t,h1,g2⟩).p;obtain⟨ar,hA⟩:=Aa6 h1;rw[g2]at hA;let N:List Tx:=l0.flatMap fun x=>x.head.pred::x.body.map (·.pred);have hN:∀x∈l0,x.head.pred∈N/\∀a∈x.body,a.pred∈N:=fun x hx=>⟨Ae9.2 ⟨x,hx,by simp⟩,fun a ha=>Ae9.2 ⟨x,hx,by simp only[Ae2,Ae4];exact .inr ⟨a,ha,rfl⟩⟩⟩;obtain⟨c,hc⟩:=Aa3 hN;have ae:N.length<=2000:=by
  have key:∀l:List RItem,(∀x∈l,x.body.length<=5)->(l.flatMap fun x=>x.head.pred::x.body.map (·.pred)).length<=l.length*6:=fun l=>by
   induction l with
   |nil=>intro _;simp
   |cons x l ih=>
    intro h;have h1:=h x (by simp);have h2:=ih fun y hy=>h y (by simp[hy]);rw[Ae0,Aeb,Aem,Ae3,Aem];omega
  have:=key l0 aa.b5;have:=aa.len;show (l0.flatMap _).length<=2000;omega
 have ab:∀x∈l0,∀a∈Ae x,0<a.terms.length:=fun x hx a ha=>by
  unfold Ae at ha;cases ho:x.out with
  |true=>
   rw[ho,((hg x hx).out ho).2.2]at ha;simp at ha
  |false=>
   rw[ho]at ha;have ha:a=x.head\/a∈x.body:=by simpa using ha
   rcases ha with rfl|ha
   ·exact List.length_pos_iff.2 ((hg x hx).rule ho).1.ne
   ·exact List.length_pos_iff.2 (((hg x hx).rule ho).2.2.2 a ha).ne
 have hR:Right t N l0 c:=⟨h1,ac,hp,⟨hc,g3,fun x hx=>(aa.fs x hx).1,fun x hx ho=>((hg x hx).out ho).2.2,ae,ab⟩,g4⟩;exact⟨⟨N,ar,hR.rt hA⟩,hg,(tL h1 hp).2⟩
theorem V3 {N:List Tx}{ar:Tx->Nat}{l m:List RItem}(hl:kA N l)(hm:RtL N ar m)(hg:∀x∈m,tJ x):Bu l m=En N l m:=by
 have ac:(!l.any (K3 m))=!Q8 N m l:=by
  congr 1;refine Afh.2 ?_;rw[<-Decidable.not_iff_not,Aew,Aew,U1 hl hm.nm,Aev];have rl:∀p,Nr m p=true↔fT m p:=fun p=>by
   unfold Nr fT T5;simp only[Aer,Adr,Af9,Agf]
  have nm:∀p,m.any (Mv p)=true↔iB m p:=fun p=>by
   unfold iB Mv;simp only[Aer,Agd,Agf]
  constructor
  ·rintro h p h1 ⟨x,hx,ho,rfl⟩;have:=h x hx;unfold K3 at this;rw[ho,(nm _).2 h1]at this;refine (rl _).1 ?_;simpa using this
  ·intro h x hx hc;unfold K3 at hc;simp only[Adr,Af9]at hc;have:=(rl _).2 (h _ ((nm _).1 hc.2.1) ⟨x,hx,hc.1,rfl⟩);rw[hc.2.2]at this;cases this
 have ab:∀x∈m,x.out=true->x.body=[]:=fun x hx=>(hm.gl.msr x hx).out;have aa:∀x∈m.map ren,x.out=true->x.body=[]:=fun x hx ho=>by
  obtain⟨y,hy,rfl⟩:=Ae4.1 hx;have:=ab y hy ho;simp[ren,this]
 have key:(Lo m=true/\(Cf m).1=0)↔(m.length<=16/\(∀x∈m,x.body.length<=5)/\(As (Bm m)).1=0):=by
  constructor
  ·rintro⟨h1,h2⟩;have:=Ab3 hm h2 h1 hg;unfold Lo at h1;simp only[Adr,Age,Ado]at h1;exact⟨h1.1,h1.2.1,by rw[this.1]⟩
  ·rintro⟨h1,h2,h3⟩;unfold As at h3;split at h3
   ·cases h3
   ·rename_i h4;split at h3
    ·cases h3
    ·rw[Lq hm.wit hm.wi]at h3;refine⟨?_,cZ (LS.of_ren hm).symm aa ab h3⟩;unfold Lo;simp only[Adr,Age,Ado];rw[L4 hm.wit,<-nT (LS.of_ren hm)]at h4;exact⟨h1,h2,Agm⟩
 refine Afh.2 ?_;unfold Bu En;rw[ac];simp only[Adr,Age,Ado,Agf];constructor
 ·rintro⟨h1,h2,h3,h4⟩;have:=key.2 ⟨h1,h2,h3⟩;exact⟨this.1,h4,this.2⟩
 ·rintro⟨h1,h2,h3⟩;have:=key.1 ⟨h1,h3⟩;exact⟨this.1,this.2.1,this.2.2,h2⟩
section
variable {N:List Tx} {ar:Tx->Nat} {l:List RItem} (hR:RtL N ar l) (hg:∀x∈l,tJ x)
include hR hg
theorem Acd {o:Option (List RItem)}(h:SlR l o):StS N l o:=by
 classical
 let M:Nat->Nat->Bool:=fun p q=>decide (Zh N l p q);have hM:Ei N l M:=fun p q=>decide_eq_true_iff;have aa:∀x∈l,x.out=true->x.body=[]:=fun x hx=>(hR.gl.msr x hx).out
 have hk:Gl N (Hv N.length M N.length) l=l.filter (Fb l):=List.filter_congr fun x hx=>Afh.2 (by
  rw[Sk hR.nm hM (hR.nm x hx).1];unfold Fb Wnt K8;cases ho:x.out with
  |true=>exact⟨fun _=>by simp,fun _=>⟨x,hx,ho,.inl rfl⟩⟩
  |false=>
   simp only[Aek,Aer,Adr,Agd,Agf,L5 aa ⟨x,hx,ho,rfl⟩])
 have ha:Bu l (l.filter (Fb l))=En N l (l.filter (Fb l)):=V3 hR.nm (hR.sub (fun x hx=>(Afz.1 hx).1) (Ade (Af0 _ _) hR.gl.len)) fun x hx=>hg x (Afz.1 hx).1;have ab:=Af0 (Fb l) l;refine⟨M,hM,?_⟩;rw[hk,<-ha];unfold SlR at h;generalize l.filter (Fb l)=K at*
 by_cases e:K.length=l.length
 ·rw[Agk Agm,Bool.false_and]at h;rcases h with⟨h,-⟩|⟨-,h⟩
  ·cases h
  ·exact .inl ⟨e,h⟩
 ·rw[Agl Agm,Afb]at h;exact .inr ⟨e,h.symm⟩
theorem pG {i k:Nat}{x:RItem}(hx:l[i]?=some x)(hk:k<x.body.length):Zj N l i k=true↔qA l i x k:=by
 have aa:=Adp hx;have ho:x.out=false:=by
  cases ho:x.out with
  |false=>rfl
  |true=>rw[(hR.gl.msr x aa).out ho]at hk;cases hk
 have hX:=hR.xr aa ho;have hu:=hR.ut aa;have ae:Et (Cw x k)=Cz (Cw x k):=Ke (x:=Cw x k) fun a ha w hw=>by
  have ha:a=x.head\/a∈x.body.eraseIdx k:=by simpa[Ae,Cw]using ha
  rcases ha with rfl|ha
  ·exact Ow (hu _ (Aq (.inl ⟨ho,rfl⟩)) w hw)
  ·exact Ow (hu _ (Aq (.inr (Afn ha))) w hw)
 have ad:Cz (Cw (ren x) k)=Cz (Cw x k):=by
  rw[<-Ke (x:=Cw (ren x) k) fun a ha w hw=>by
   have ha:a=(ren x).head\/a∈(ren x).body.eraseIdx k:=by simpa[Ae,Cw]using ha
   rcases ha with rfl|ha
   ·exact Ow (hX.inO.ut _ (Aq (.inl ⟨ho,rfl⟩)) w hw)
   ·exact Ow (hX.inO.ut _ (Aq (.inr (Afn ha))) w hw),hX.safe k]
 have ac:(uX N x k).isSome=true↔SpX x k:=by
  rw[aZ hR aa ho,ad,Yx hX k (hR.nm x aa).2 (hR.gl.ar x aa)];rfl
 have ab:SpX x k->Bu l (rpl i [Cw x k] l)=En N l (rpl i [Cw x k] l):=fun h=>V3 hR.nm (hR.wo hx ho (by rw[ae];exact h.1)) fun y hy=>by
  rcases E0 hy with h|h
  ·exact hg y h
  ·simp at h;subst h;obtain⟨g1,g2,g3,g4⟩:=(hg x aa).rule ho;exact⟨(hg x aa).nm,(fun e=>by cases e),fun _=>⟨g1,g2,Ade (Afp _ _) g3,fun a ha=>g4 a (Afn ha)⟩⟩
 unfold Zj qA;rw[hx];simp only[Adr];rw[ac];exact⟨fun h=>⟨h.1,by rw[ab h.1];exact h.2⟩,fun h=>⟨h.1,by rw[<-ab h.1];exact h.2⟩⟩
theorem Acb {o:Option (List RItem)}(h:TrR l o):StA N l o:=by
 have no:∀{i k:Nat} {x:RItem},l[i]?=some x->k<x.body.length->¬qA l i x k->Zj N l i k=false:=fun {i k x} hx hk h=>by
  rw[<-Aew,pG hR hg hx hk];exact h
 rcases h with⟨rfl,h⟩|⟨i,x,k,rfl,hx,hk,h1,h2,h3⟩
 ·exact .inl ⟨rfl,fun i y _ hy k hk=>no hy hk (h i y hy k hk)⟩
 ·have ho:x.out=false:=by
   cases ho:x.out with
   |false=>rfl
   |true=>rw[(hR.gl.msr x (Adp hx)).out ho]at hk;cases hk
  exact .inr ⟨i,k,x,rfl,hx,ho,hk,(pG hR hg hx hk).2 h1,fun i' y hi hy k' aa=>no hy aa (h2 i' y hi hy k' aa),fun k' aa=>no hx Agm (h3 k' aa)⟩
theorem wM {i:Nat}{x:RItem}{b:Bool}(hx:l[i]?=some x)(ho:x.out=false)(h:On l i x b):bX N l i x b:=by
 obtain⟨c,hc⟩:=zN ((oth l i l.length).map (Dw N)) (E4 N x) (Dw N x).head.p.toNat (Ct (E3 (Dw N x).head));have e:=tD (ar:=ar) ⟨fun z hz=>hR.ru z (Ek hz).1 (Ek hz).2,hR.ru x (Adp hx) ho⟩ h hc;subst e;exact hc
theorem Acx {o:Option (List RItem)}(h:DrR l o):StR N l o:=by
 have ha:∀i,Bu l (rpl i [] l)=En N l (rpl i [] l):=fun i=>V3 hR.nm (hR.less i) fun y hy=>by
  rcases E0 hy with h|h
  ·exact hg y h
  ·cases h
 have no:∀{i:Nat} {x:RItem},l[i]?=some x->x.out=false->(On l i x false\/Bu l (rpl i [] l)=false)->En N l (rpl i [] l)=true->bX N l i x false:=fun {i x} hx ho h hb=>by
  rcases h with h|h
  ·exact wM hR hg hx ho h
  ·rw[ha,hb]at h;cases h
 rcases h with⟨rfl,h⟩|⟨i,x,rfl,hx,ho,h1,h2,h3⟩
 ·exact .inl ⟨rfl,fun i y _ hy ho hb=>no hy ho (h i y hy ho) hb⟩
 ·exact .inr ⟨i,x,rfl,hx,ho,by rw[<-ha];exact h2,wM hR hg hx ho h1,fun i' y hi hy ho hb=>no hy ho (h3 i' y hi hy ho) hb⟩
end
def St3 (N:List Tx)(c:UInt8)(l:List RItem)(o:Option (List RItem)):Prop:=(c=115/\StS N l o)\/(c=97/\StA N l o)\/(c=114/\StR N l o)
def Ds3 (c:UInt8)(l:List RItem)(o:Option (List RItem)):Prop:=(c=115/\SlR l o)\/(c=97/\TrR l o)\/(c=114/\DrR l o)
theorem Acw {N:List Tx}{ar:Tx->Nat}{l:List RItem}(hR:RtL N ar l)(hg:∀x∈l,tJ x){c:UInt8}{o:Option (List RItem)}(h:Ds3 c l o):St3 N c l o:=by
 rcases h with⟨e,h⟩|⟨e,h⟩|⟨e,h⟩
 ·exact .inl ⟨e,Acd hR hg h⟩
 ·exact .inr (.inl ⟨e,Acb hR hg h⟩)
 ·exact .inr (.inr ⟨e,Acx hR hg h⟩)
theorem St3.rt {N:List Tx}{ar:Tx->Nat}{l l':List RItem}{c:UInt8}(h:St3 N c l (some l'))(hR:RtL N ar l):RtL N ar l':=by
 rcases h with⟨-,h⟩|⟨-,h⟩|⟨-,h⟩
 ·exact h.rt hR
 ·exact h.rt hR
 ·exact h.rt hR
theorem Ac6 {N N2:List Tx}{ar ar2:Tx->Nat}{l l2:List RItem}(h:LS l l2)(hR:RtL N ar l)(hR2:RtL N2 ar2 l2){c:UInt8}{o o2:Option (List RItem)}(hs:St3 N c l o)(aa:St3 N2 c l2 o2):Sim o o2:=by
 rcases hs with⟨rfl,hs⟩|⟨rfl,hs⟩|⟨rfl,hs⟩<;>rcases aa with⟨e,aa⟩|⟨e,aa⟩|⟨e,aa⟩<;>first|cases e;done|skip
 ·exact Ace h hR hR2 hs aa
 ·exact Acg h hR hR2 hs aa
 ·exact Acf h hR hR2 hs aa
theorem Aa4 {ps:Tx}(h:Cu ps=true)(hu:∀c∈ps,c≠117/\c≠108){c:UInt8}(hc:c∈ps):c=115\/c=97\/c=114:=by
 unfold Cu at h;simp only[Adr,Ado]at h;have hp:=h.2 c hc;unfold G5 at hp;rcases of_decide_eq_true hp with h|h|h|h|h
 ·exact .inl h
 ·exact .inr (.inl h)
 ·exact .inr (.inr h)
 ·exact absurd h (hu c hc).1
 ·exact absurd h (hu c hc).2
theorem ps3 {ps:Tx}(h:Cu ps=true)(hu:∀c∈ps,c≠117/\c≠108)(N:List Tx)(ar:Tx->Nat):∀c∈ps,tH (St3 N c) N ar c:=fun c hc=>by
 refine⟨fun l cs idn idi hR hE σ=>?_,fun l l' h hR=>h.rt hR⟩;rcases Aa4 h hu hc with rfl|rfl|rfl
 ·exact (sQ N ar l cs idn idi hR hE σ).mono fun r σ' ⟨⟨x,b,h1,h2⟩,h3⟩=>⟨⟨x,b,h1,h2.mono fun o h=>.inl ⟨rfl,h⟩⟩,h3⟩
 ·exact (sS N ar l cs idn idi hR hE σ).mono fun r σ' ⟨⟨x,b,h1,h2⟩,h3⟩=>⟨⟨x,b,h1,h2.mono fun o h=>.inr (.inl ⟨rfl,h⟩)⟩,h3⟩
 ·exact (sR N ar l cs idn idi hR hE σ).mono fun r σ' ⟨⟨x,b,h1,h2⟩,h3⟩=>⟨⟨x,b,h1,h2.mono fun o h=>.inr (.inr ⟨rfl,h⟩)⟩,h3⟩
theorem ds3 {ps:Tx}(h:Cu ps=true)(hu:∀c∈ps,c≠117/\c≠108):∀c∈ps,nH (Ds3 c) c:=fun c hc l cs idl hl hE σ=>by
 rcases Aa4 h hu hc with rfl|rfl|rfl
 ·exact (dsS l cs idl hl hE σ).mono fun r σ' ⟨o,m,id,c',h1,h2,h3⟩=>⟨o,m,id,c',h1,.inl ⟨rfl,h2⟩,h3⟩
 ·exact (dsA l cs idl hl hE σ).mono fun r σ' ⟨o,m,id,c',h1,h2,h3⟩=>⟨o,m,id,c',h1,.inr (.inl ⟨rfl,h2⟩),h3⟩
 ·exact (dsR l cs idl hl hE σ).mono fun r σ' ⟨o,m,id,c',h1,h2,h3⟩=>⟨o,m,id,c',h1,.inr (.inr ⟨rfl,h2⟩),h3⟩
structure Ab5 (S:List Tx->List RItem->Option (List RItem)->Prop)(T:List RItem->Option (List RItem)->Prop):Prop where
 sim:∀{N N2:List Tx} {ar ar2:Tx->Nat} {l l2:List RItem} {o o2:Option (List RItem)},LS l l2->RtL N ar l->RtL N2 ar2 l2->S N l o->S N2 l2 o2->Sim o o2
 rt:∀{N:List Tx} {ar:Tx->Nat} {l l':List RItem},S N l (some l')->RtL N ar l->RtL N ar l'
 st:∀{N:List Tx} {ar:Tx->Nat} {l:List RItem} {o:Option (List RItem)},RtL N ar l->(∀x∈l,tJ x)->T l o->S N l o
def DSt (T:List RItem->Option (List RItem)->Prop):Nat->List RItem->List RItem->Prop
 |0,l,l'=>l'=l
 |k+1,l,l'=>∃l1,T l (some l1)/\xR l1/\DSt T k (Bh (Bm l1)) l'
theorem DSt.snoc {T:List RItem->Option (List RItem)->Prop}:∀{k:Nat} {l l1 l2:List RItem},DSt T k l l1->T l1 (some l2)->xR l2->DSt T (k+1) l (Bh (Bm l2))
 |0,_,_,_,e,h,g=>by cases e;exact⟨_,h,g,rfl⟩
 |k+1,_,_,_,⟨m,h1,h2,h3⟩,h,g=>⟨m,h1,h2,h3.snoc h g⟩
theorem DChg.dst {T:List RItem->Option (List RItem)->Prop}{b m m':Int}{l l':List RItem}(h:DChg T b l m l' m'):∃k:Nat,m'=m+k/\DSt T k l l'/\(0<k->m'<=b):=by
 induction h with
 |refl=>exact⟨0,Agm,rfl,Agm⟩
 |snoc _ hb hs hw ih=>
  obtain⟨k,e,h,-⟩:=ih;exact⟨k+1,Agm,h.snoc hs hw,Agm⟩
section
variable {S:List Tx->List RItem->Option (List RItem)->Prop} {T:List RItem->Option (List RItem)->Prop} (hP:Ab5 S T) {N:List Tx} {ar:Tx->Nat}
include hP
theorem gN {l ld:List RItem}{o od:Option (List RItem)}(h:LS l ld)(hR:RtL N ar l)(hd:RgI ld)(hs:S N l o)(ht:T ld od):Sim o od:=by
 obtain⟨⟨N2,ar2,hR2⟩,hg,-⟩:=hd.rt;exact hP.sim h hR hR2 hs (hP.st hR2 hg ht)
theorem rN {l ld m md:List RItem}(h:LS l ld)(hR:RtL N ar l)(hd:RgI ld)(hs:S N l (some m))(ht:T ld (some md))(hw:xR md):LS m (Bh (Bm md))/\RtL N ar m/\RgI (Bh (Bm md)):=by
 obtain⟨⟨N2,ar2,hR2⟩,hg,-⟩:=hd.rt;have ab:=hP.st hR2 hg ht;have aa:=hP.rt ab hR2;rcases hP.sim h hR hR2 hs ab with⟨e,-⟩|⟨a,b,e,e2,hL⟩
 ·cases e
 ·cases e;cases e2;exact⟨by rw[Lq aa.wit aa.wi];exact hL.trans (LS.of_ren aa),hP.rt hs hR,⟨_,hw.1,rfl⟩⟩
theorem gO:∀{k kd:Nat} {l ld l' ld':List RItem},LS l ld->RtL N ar l->RgI ld->Stps (S N) k l l'->DSt T kd ld ld'->
  (k<=kd/\∃mid,LS l' mid/\RtL N ar l'/\RgI mid/\DSt T (kd-k) mid ld')\/(kd<k/\∃mid,LS mid ld'/\RtL N ar mid/\RgI ld'/\Stps (S N) (k-kd) mid l')
 |0,kd,l,ld,l',ld',h,hR,hd,e,g=>by cases e;exact .inl ⟨Agm,ld,h,hR,hd,g⟩
 |k+1,0,l,ld,l',ld',h,hR,hd,g,e=>by cases e;exact .inr ⟨Agm,l,h,hR,hd,g⟩
 |k+1,kd+1,l,ld,l',ld',h,hR,hd,⟨m,h1,g1⟩,⟨md,h2,hw,g2⟩=>by
  obtain⟨n1,n2,n3⟩:=rN hP h hR hd h1 h2 hw;rw[show kd+1-(k+1)=kd-k by omega,show k+1-(kd+1)=k-kd by omega];rcases gO n1 n2 n3 g1 g2 with⟨q,r⟩|⟨q,r⟩
  ·exact .inl ⟨Agm,r⟩
  ·exact .inr ⟨Agm,r⟩
theorem rM {b m m' md':Int}{l ld l' ld':List RItem}(h:LS l ld)(hR:RtL N ar l)(hd:RgI ld)(g:yB (S N) b l m l' m')(gd:yJ T b ld m ld' md'):LS l' ld'/\m'=md'/\RtL N ar l'/\RgI ld':=by
 obtain⟨k,e1,s1,b1⟩:=g.1.stps;obtain⟨kd,e2,s2,b2⟩:=gd.1.dst;rcases gO hP h hR hd s1 s2 with⟨hk,mid,h1,h2,h3,h4⟩|⟨hk,mid,h1,h2,h3,h4⟩
 ·by_cases e:k=kd
  ·subst e;rw[Afd]at h4;cases h4;exact⟨h1,Agm,h2,h3⟩
  ·have:=b2 Agm;obtain⟨j,ej⟩:∃j,kd-k=j+1:=⟨kd-k-1,Agm⟩;rw[ej]at h4;obtain⟨w,hw,-⟩:=h4;rcases g.2 with q|q
   ·omega
   ·rcases gN hP h1 h2 h3 q hw with⟨-,c⟩|⟨_,_,c,-⟩<;>cases c
 ·have:=b1 Agm;obtain⟨j,ej⟩:∃j,k-kd=j+1:=⟨k-kd-1,Agm⟩;rw[ej]at h4;obtain⟨w,hw,-⟩:=h4;rcases gd.2 with q|q
  ·omega
  ·rcases gN hP h1 h2 h3 hw q with⟨c,-⟩|⟨_,_,-,c,-⟩<;>cases c
end
theorem vQ {S:List Tx->UInt8->List RItem->Option (List RItem)->Prop}{T:UInt8->List RItem->Option (List RItem)->Prop}{N:List Tx}{ar:Tx->Nat}{b:Int}{l ld:List RItem}(h:LS l ld)(hR:RtL N ar l)(hd:RgI ld){ps:Tx}{l':List RItem}{m':Int}(g:GPss (S N) b l 0 ps l' m'):
  (∀c∈ps,Ab5 (fun N=>S N c) (T c))->∀{ld':List RItem} {md':Int},DPss T b ld 0 ps ld' md'->LS l' ld'/\m'=md'/\RtL N ar l'/\RgI ld':=by
 induction g with
 |nil=>
  intro _ ld' md' gd;generalize e:([]:Tx)=ps at gd;cases gd with
  |nil=>exact⟨h,rfl,hR,hd⟩
  |snoc g1 g2=>simp at e
 |snoc g1 g2 ih=>
  rename_i ps c l1 l2 m1 m2;intro hP ld' md' gd;generalize e:ps++[c]=qs at gd;cases gd with
  |nil=>simp at e
  |snoc d1 d2=>
   obtain⟨rfl,e2⟩:=List.append_inj' e rfl;cases e2;obtain⟨i1,rfl,i3,i4⟩:=ih (fun c hc=>hP c (by simp[hc])) d1;exact rM (hP c (by simp)) i1 i3 i4 g2 d2
theorem vW {S:List Tx->UInt8->List RItem->Option (List RItem)->Prop}{T:UInt8->List RItem->Option (List RItem)->Prop}{t ps:Tx}{b:Int}{p q:Tx×Int×Int}(hP:Cu ps=true->∀c∈ps,Ab5 (fun N=>S N c) (T c))(h:Kx S t ps b p)(g:I0 T t ps b q):p=q:=by
 unfold Kx at h;unfold I0 at g;split at h
 ·rename_i h1;rw[if_pos h1]at g;rw[h,g]
 ·rename_i h1;rw[if_neg h1]at g;split at h
  ·rename_i h2;rw[if_pos h2]at g;rw[h,g]
  ·rename_i h2;rw[if_neg h2]at g;split at h
   ·rename_i h3;rw[if_pos h3]at g;rw[h,g]
   ·rename_i h3;rw[if_neg h3]at g;obtain⟨N,l,cs,ar,l',m,hR,hA,aa,hG,rfl⟩:=h;obtain⟨ld',md,hD,rfl⟩:=g;have ht:RgI (Bh t):=⟨t,by simpa using h1,rfl⟩;obtain⟨r1,r2,r3,r4⟩:=vQ (by rw[hR.items];exact LS.refl l) (hR.rt hA) ht hG (hP (by simpa using h2)) hD;obtain⟨⟨N2,ar2,hR2⟩,-⟩:=r4.rt;rw[L4 aa.wit,L4 hR2.wit,r1.ren,r2]
theorem kP {t ps:Tx}{b:Int}{p q:Tx×Int×Int}(h:Kx St3 t ps b p)(g:I0 Ds3 t ps b q):p=q:=
 vW (S:=St3) (T:=Ds3) (fun _ c _=>⟨fun h hR hR2 hs aa=>Ac6 h hR hR2 hs aa,fun hs hR=>St3.rt hs hR,fun hR hg h=>Acw hR hg h⟩) h g
def kL (c:UInt8):Bool:=decide (c=117)||decide (c=108)
theorem mM (t:Tx)(hl:t.length<=9223372036854775807)(σ:St):ACalls Tryz.prog 26 [str t] σ fun r σ'=>r=sc (.bool (!t.any kL))/\σ'=σ:=by
 refine Z9 20 [.tmp 2] Tryz.func26 ?_
 refine zx ?_
 refine Ad (fun m s σ'=>∃i:Nat,m=t.length-i/\i<=t.length/\s 0=str t/\s 3=sc (.int .i64 i)/\σ'=σ/\Agt ((t.take i).any kL=false)) t.length
  ⟨0,Agm,Agm,by simp[upd,initS],Ago,rfl,by simp[Agt]⟩ ?_
 rintro m s σ' ⟨i,rfl,hi,h0,h3,hσ,hA⟩;by_cases ad:i<t.length
 ·have aa:=Adn ad;generalize t[i]=c at aa;have key:∀(k:UInt8) (n:Int),n=(k.toNat:Int)->((c.toNat:Int)==n)=decide (c=k):=fun k n e=>by rw[e];exact pV
  have e1:=key 117 117 rfl;have e2:=key 108 108 rfl;have HN:Agt (decide (c=117)=false->decide (c=108)=false->(t.take (i+1)).any kL=false):=fun g1 g2=>by
   rw[Ad0,aa,Aez,Afv,hA.out];simp[kL,g1,g2]
  have HF:Agt ((decide (c=117)=true\/decide (c=108)=true)->(!t.any kL)=false):=fun g=>by
   have:t.any kL=true:=Aer.2 ⟨c,Adp aa,by unfold kL;simpa using g⟩;rw[this];rfl
  clear hA key;generalize decide (c=117)=b1 at e1 HN HF;generalize decide (c=108)=b2 at e2 HN HF;cases b1 with
  |true=>
   have ac:Agt ((!t.any kL)=false):=HF.out (.inl rfl);clear HF HN
   repeat' first|refine Z1 ?_|refine Z8 fun ya J=>?_|refine Z4 ?_;clear J ya|refine Z2 ?_ ?_<;>intro h ab<;>try exact Xp|refine Z7 ?_|exact Zt|apply J.out;clear J ya
   exact⟨_,rfl,by rw[ac.out]⟩
  |false=>
   cases b2 with
   |true=>
    have ac:Agt ((!t.any kL)=false):=HF.out (.inr rfl);clear HF HN
    repeat' first|refine Z1 ?_|refine Z8 fun ya J=>?_|refine Z4 ?_;clear J ya|refine Z2 ?_ ?_<;>intro h ab<;>try exact Xp|refine Z7 ?_|exact Zt|apply J.out;clear J ya
    exact⟨_,rfl,by rw[ac.out]⟩
   |false=>
    have HA:Agt ((t.take (i+1)).any kL=false):=HN.out rfl rfl;clear HF HN
    repeat' first|refine Z1 ?_|refine Z8 fun ya J=>?_|refine Z4 ?_;clear J ya|refine Z2 ?_ ?_<;>intro h ab<;>try exact Xp|refine Z7 ?_|exact Zt|apply J.out;clear J ya
    refine⟨t.length-(i+1),Agm,i+1,?_⟩
    ((repeat' refine Zi ?_ ?_)<;>first|exact Xq|exact HA|exact Xs)
 ·have ae:i=t.length:=Agm;have HL:Agt ((!t.any kL)=true):=by
   have:=hA.out;rw[ae,Adu]at this;rw[Agt,this];rfl
  clear hA
  repeat' first|refine Z1 ?_|refine Z8 fun ya J=>?_|refine Z4 ?_;clear J ya|refine Z2 ?_ ?_<;>intro h ab<;>try exact Xp|refine Z7 ?_|exact Zt|apply J.out;clear J ya
  exact⟨_,rfl,by rw[HL.out]⟩
theorem lM (o:jY)(hk:o.kind=7)(hn:o.n<=9223372036854775807)(hu:o.e.any kL=false)(c:List AV)(hc:EO o c)(σ:St):ACalls Tryz.prog 27 [ag c] σ fun r σ'=>r=sc (.bool true)/\Keep σ σ':=by
 have ab:∀c∈o.e,c≠117/\c≠108:=fun c hc=>by
  have:=Aev.1 hu c hc;unfold kL at this;simpa using this
 have hP:=fun σ=>(U6 St3 o.s o.e o.n hn (fun h N ar=>ps3 h ab N ar) σ).mono fun r σ' h=>show∃x k e,r=tp [str x,ic k,ic e]/\(∀q,I0 Ds3 o.s o.e o.n q->q=(x,k,e))/\Keep σ σ' from by
  obtain⟨⟨x,k,e⟩,h1,h2,h3⟩:=h;exact⟨x,k,e,h1,fun q hq=>(kP h2 hq).symm,h3⟩
 have hR:=fun σ=>T9 Ds3 o.s o.e o.n hn (fun _ h=>ds3 h ab) σ;unfold EO at hc;subst hc;rw[hk]at*
 clear hu ab;refine Z9 154 [.tmp 2] Tryz.func27 ?_
 repeat' first|refine Z1 ?_|refine Z8 fun ya J=>?_|refine Z4 ?_;clear J ya|refine Z2 ?_ ?_<;>intro h ai<;>try exact Xp|(refine Z5 ?_;first|(refine Xi (hP _) ?_;rintro _ _ ⟨x,k,e,rfl,hp,ad⟩;(have af:=ad.obj;have aa:=ad.nobj;have HP:Agt _:=hp;clear hp;(try simp only[Aa,Ac,Ax]at aa)))|(refine Xi (hR _) ?_;rintro _ _ ⟨q,rfl,hr,ac⟩;(have ae:=ac.obj;have ah:=ac.nobj;have eq:=HP.out _ hr;subst eq;clear hr))|(refine Xi (vZ _ _) ?_;rintro _ _ ⟨rfl,hσ⟩;(replace hσ:=hσ.symm;subst hσ)))|refine Z7 ?_|exact Zt|apply J.out;clear J ya
 all_goals
  first
  |exact⟨_,rfl,rfl,Xs⟩
  |exact⟨_,rfl,rfl⟩
  |(exfalso;simp at*;done)
theorem trims_spec (l:List jY)(cs:List AV)(ids:Nat)(hE:EL EO l cs)(hl:l.length<=9223372036854775807)(hn:∀o∈l,o.n<=9223372036854775807/\o.e.length<=9223372036854775807)(σ:St):ACalls Tryz.prog 10 [sl ids l.length cs] σ fun r σ'=>r=sc (.bool true)/\Keep σ σ':=by
 have au:=EL.length yD hE;refine Z9 28 [.tmp 2] Tryz.func10 ?_
 refine zx ?_
 refine Ad (fun m s σ'=>∃i:Nat,m=l.length-i/\i<=l.length/\s 0=sl ids l.length cs/\s 3=sc (.int .i64 i)/\Keep σ σ') l.length
  ⟨0,Agm,Agm,by simp[upd,initS],Ago,Keep.refl _⟩ ?_
 rintro m s σ' ⟨i,rfl,ap,h0,h3,hK⟩;have an:=hK.nobj;by_cases ah:i<l.length
 ·have aa:=Adn ah;have ae:=hn _ (Aes ah);have ac:∀(h1:l[i].kind=7) (h2:l[i].e.any kL=false) (σ:St),_:=fun h1 h2=>lM l[i] h1 ae.1 h2 _ rfl;obtain⟨r,hd⟩:=Ac2 hE aa;generalize l[i]=o at hd aa ac ae;clear aa;have ad:=fun σ=>mM o.e ae.2 σ;clear ae;by_cases hk:o.kind=7
  ·obtain⟨kd,on,om,os,oe,of⟩:=o;have hk:kd=7:=hk;subst hk;dsimp only at hd ac ad;cases hu:oe.any kL with
   |false=>
    have am:=ac rfl hu;rw[hu]at ad;clear ac hu
    repeat' first|refine Z1 ?_|refine Z8 fun ya J=>?_|refine Z4 ?_;clear J ya|refine Z2 ?_ ?_<;>intro h ab<;>try exact Xp|(refine Z5 ?_;first|(refine Xi (ad _) ?_;rintro _ _ ⟨rfl,hσ⟩;(replace hσ:=hσ.symm;subst hσ))|(refine Xi (am _) ?_;rintro _ _ ⟨rfl,ai⟩;(have aj:=ai.obj;have af:=ai.nobj;(try simp only[Aa,Ac,Ax]at af))))|refine Z7 ?_|exact Zt|apply J.out;clear J ya
    all_goals
     first
     |exact⟨l.length-(i+1),Agm,i+1,rfl,Agm,by simp,Xs⟩
   |true=>
    rw[hu]at ad;clear ac hu
    repeat' first|refine Z1 ?_|refine Z8 fun ya J=>?_|refine Z4 ?_;clear J ya|refine Z2 ?_ ?_<;>intro h ab<;>try exact Xp|refine Z5 ?_;refine Xi (ad _) ?_;rintro _ _ ⟨rfl,hσ⟩;(replace hσ:=hσ.symm;subst hσ)|refine Z7 ?_|exact Zt|apply J.out;clear J ya
    all_goals
     first
     |exact⟨l.length-(i+1),Agm,i+1,rfl,Agm,by simp,Xs⟩
  ·clear ac;have ao:(o.kind==7)=false:=by simpa using hk
   repeat' first|refine Z1 ?_|refine Z8 fun ya J=>?_|refine Z4 ?_;clear J ya|refine Z2 ?_ ?_<;>intro h ab<;>try exact Xp|refine Z7 ?_|exact Zt|apply J.out;clear J ya
   all_goals
    first
    |exact⟨l.length-(i+1),Agm,i+1,rfl,Agm,by simp,Xs⟩
    |(exfalso;simp only[Age]at*;omega)
 ·have ak:i=l.length:=Agm;subst ak
  repeat' first|refine Z1 ?_|refine Z8 fun ya J=>?_|refine Z4 ?_;clear J ya|refine Z2 ?_ ?_<;>intro h ab<;>try exact Xp|refine Z7 ?_|exact Zt|apply J.out;clear J ya
  first|exact⟨_,rfl,rfl,hK⟩|exact⟨_,rfl,rfl⟩|exact⟨_,rfl⟩
end Go.Proofs.YtmoeoppbmhfbpaaGreatDoorD
