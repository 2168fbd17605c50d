import Derived.Test.YtmoeoppbmhfbpabGreatDoorIMdlA
import Derived.Test.YtmoeoppbmhfbpabGreatDoorIPrtF
import Derived.Test.YtmoeoppbmhfbpabGreatDoorIAbsG
import Derived.Test.YtmoeoppbmhfbpabGreatDoorIStrH
set_option maxHeartbeats 64000000
set_option maxRecDepth 100000
set_option linter.all false
open List renaming length->Z
namespace Go.Proofs.YtmoeoppbmhfbpabGreatDoorI
open Go.Abs
def Ri (a b:AC):Bool:=Fv (H5 a).2 (H5 b).2
theorem OU (a):Z (H5 a).2=3:=rfl
theorem ZL {a b c}(h1:Ri b a=false)(h2:Ri c b=false):Ri c a=false:=dL (OU a) (OU b) (OU c) h1 h2
theorem rO {a b}(h:Ri a b=true):Ri b a=false:=Rj h
theorem fZ (a):Ri a a=false:=gA _
theorem ke {ar a b}(ha:Gf ar a)(hb:Gf ar b)(hp:a.B=b.B)(h1:Ri a b=false)(h2:Ri b a=false):a=b:=S7 ha hb (GW hp (wD (OU a) (OU b) h1 h2))
def IU (A:List AC)(p:Tx)(la:Int)(b:AC):Prop:=b.B=p/\(la= -1\/∃(j:Nat) (c:AC),la=j/\A[j]?=some c/\Ri c b=true)
def GM (A:List AC)(p:Tx)(la:Int)(i:Nat)(nx:Int):Prop:=(nx= -1/\∀b∈A.take i,¬IU A p la b)\/∃(j:Nat) (b:AC),nx=j/\A[j]?=some b/\IU A p la b/\∀c∈A.take i,IU A p la c->Ri c b=false
theorem GM.skip {A p la i nx w}(h:GM A p la i nx)(hw:A[i]?=some w)(hc:¬IU A p la w):GM A p la (i+1) nx:=by
 have hm:∀b∈A.take (i+1),b∈A.take i\/b=w:=fun b hb=>by
  rw[AU,hw]at hb;simpa using hb
 rcases h with⟨h1,h2⟩|⟨j,b,h1,h2,h3,h4⟩
 ·exact .inl ⟨h1,fun b hb=>by rcases hm b hb with h|rfl;exact h2 b h;exact hc⟩
 ·exact .inr ⟨j,b,h1,h2,h3,fun c ab aa=>by rcases hm c ab with h|rfl;exact h4 c h aa;exact absurd aa hc⟩
theorem GM.keep {A p la i j w b}(h:GM A p la i (j:Nat))(hw:A[i]?=some w)(hb:A[j]?=some b)(hl:Ri w b=false):GM A p la (i+1) (j:Nat):=by
 rcases h with⟨h1,-⟩|⟨j',b',h1,h2,h3,h4⟩
 ·omega
 ·have e:j'=j:=AA;subst e;rw[hb]at h2;cases h2;refine .inr ⟨j',b,rfl,hb,h3,fun c hc aa=>?_⟩;rw[AU,hw]at hc;rcases AW.1 hc with hc|hc
  ·exact h4 c hc aa
  ·have:c=w:=by simpa using hc
   rw[this];exact hl
theorem GM.new {A p la i nx w}(h:GM A p la i nx)(hw:A[i]?=some w)(hc:IU A p la w)(hl:nx= -1\/∃(j:Nat) (b:AC),nx=j/\A[j]?=some b/\Ri w b=true):GM A p la (i+1) (i:Nat):=by
 refine .inr ⟨i,w,rfl,hw,hc,fun c aa ab=>?_⟩;rw[AU,hw]at aa;rcases AW.1 aa with aa|aa
 ·rcases h with⟨h1,h2⟩|⟨j,b,h1,h2,h3,h4⟩
  ·exact absurd ab (h2 c aa)
  ·rcases hl with hl|⟨j',b',e1,e2,e3⟩
   ·omega
   ·have e:j'=j:=AA;subst e;rw[h2]at e2;cases e2;exact ZL (rO e3) (h4 c aa ab)
 ·have:c=w:=by simpa using aa
  rw[this];exact fZ w
structure If (A:List AC)(p:Tx)(la:Int)(K:List AC):Prop where
 mem:∀b∈K,b∈A/\b.B=p
 srt:K.Pairwise fun a b=>Ri a b=true
 las:(la= -1/\K=[])\/∃(j:Nat) (b:AC) (K0:List AC),la=j/\A[j]?=some b/\K=K0++[b]
 all:∀b∈A,b.B=p->b∈K\/∀c∈K,Ri c b=true
section
variable {ar:Tx->Nat} {A K:List AC} (hg:∀a∈A,Gf ar a) {p:Tx} {la:Int}
include hg
theorem If.cnd (h:If A p la K){b}(hb:b∈A)(hc:IU A p la b):∀c∈K,Ri c b=true:=by
 rcases h.all b hb hc.1 with hm|hm
 ·exfalso;rcases h.las with⟨-,rfl⟩|⟨j,d,K0,e1,e2,rfl⟩
  ·cases hm
  ·rcases hc.2 with h1|⟨j',c,e3,e4,e5⟩
   ·omega
   ·have e:j'=j:=AA;subst e;rw[e2]at e4;cases e4;rcases AW.1 hm with hm|hm
    ·have:=(List.pairwise_append.1 h.srt).2.2 b hm d (by simp);rw[rO this]at e5;cases e5
    ·have:b=d:=by simpa using hm
     rw[this,fZ]at e5;cases e5
 ·exact hm
theorem If.more (h:If A p la K){j b}(hb:A[j]?=some b)(hc:IU A p la b)(hm:∀c∈A,IU A p la c->Ri c b=false):If A p (j:Nat) (K++[b]):=by
 have ac:=BD hb;have ae:=h.cnd hg ac hc;refine⟨fun c aa=>?_,?_,.inr ⟨j,b,K,rfl,hb,rfl⟩,fun e he ab=>?_⟩
 ·rcases AW.1 aa with g|g
  ·exact h.mem c g
  ·have:c=b:=by simpa using g
   rw[this];exact⟨ac,hc.1⟩
 ·exact List.pairwise_append.2 ⟨h.srt,by simp,fun c aa d hd=>by
   have:d=b:=by simpa using hd
   rw[this];exact ae c aa⟩
 ·rcases h.all e he ab with g|g
  ·exact .inl (FZ _ g)
  ·have af:IU A p la e:=⟨ab,by
    rcases h.las with⟨h1,-⟩|⟨j',d,K0,e1,e2,rfl⟩
    ·exact .inl h1
    ·exact .inr ⟨j',d,e1,e2,g d (by simp)⟩⟩
   cases ad:Ri b e with
   |false=>
    have:=ke (hg e he) (hg b ac) (ab.trans hc.1.symm) (hm e he af) ad;exact .inl (by rw[this];simp)
   |true=>
    refine .inr fun c aa=>?_;rcases AW.1 aa with g2|g2
    ·exact g c g2
    ·have:c=b:=by simpa using g2
     rw[this];exact ad
theorem If.done (h:If A p la K)(hn:∀b∈A,¬IU A p la b)(hA:A.Nodup):K.map (fun a=>(H5 a).2)=Hm (Lf (A.map H5) p):=by
 have aa:∀b,b∈K↔b∈A/\b.B=p:=fun b=>⟨h.mem b,fun⟨h1,h2⟩=>by
  rcases h.all b h1 h2 with g|g
  ·exact g
  ·refine absurd ⟨h2,?_⟩ (hn b h1);rcases h.las with⟨h1,-⟩|⟨j',d,K0,e1,e2,rfl⟩
   ·exact .inl h1
   ·exact .inr ⟨j',d,e1,e2,g d (by simp)⟩⟩
 have hnd:(A.map H5).Nodup:=by
  unfold List.Nodup;rw[LY];exact OK (fun {a b} ha hb ab e=>ab (S7 (hg a ha) (hg b hb) e)) hA
 refine vP (fun t ht=>?_) ?_ ?_
 ·obtain⟨a,-,e⟩:=AO.1 (CM.1 ht);rw[<-(IT e).2];rfl
 ·refine (List.perm_ext_iff_of_nodup ?_ (eW hnd p)).2 fun t=>?_
  ·unfold List.Nodup;rw[LY];refine h.srt.imp fun {a b} hl e=>?_;unfold Ri at hl;rw[e,gA]at hl;cases hl
  ·rw[CM];constructor
   ·intro ht;obtain⟨b,hb,rfl⟩:=AO.1 ht;obtain⟨h1,h2⟩:=(aa b).1 hb;exact AO.2 ⟨b,h1,GW h2 rfl⟩
   ·intro ht;obtain⟨b,hb,e⟩:=AO.1 ht;obtain⟨e1,e2⟩:=IT e;exact AO.2 ⟨b,(aa b).2 ⟨hb,e1⟩,e2⟩
 ·unfold Us;rw[LY];exact h.srt.imp fun hl=>rO hl
end
theorem If.len {A K p la}(h:If A p la K):Z K<=Z A:=by
 have hn:K.Nodup:=h.srt.imp fun hl e=>by rw[e,fZ]at hl;cases hl
 classical exact W5 K A hn fun b hb=>(h.mem b hb).1
theorem WL:∀{xs:List Int},(∀x∈xs,0<=x)->Z xs<=3->tups (C4 xs)=xs
 |[],_,_=>by simp[tups,C4]
 |[a],h,_=>by
  have:=h a (by simp);have ha:a≠ -1:=AA;simp[tups,C4,List.takeWhile,ha]
 |[a,b],h,_=>by
  have h1:=h a (by simp);have h2:=h b (by simp);have ha:a≠ -1:=AA;have hb:b≠ -1:=AA;simp[tups,C4,List.takeWhile,ha,hb]
 |[a,b,c],h,_=>by
  have h1:=h a (by simp);have h2:=h b (by simp);have h3:=h c (by simp);have ha:a≠ -1:=AA;have hb:b≠ -1:=AA;have hc:c≠ -1:=AA;simp[tups,C4,List.takeWhile,ha,hb,hc]
 |_::_::_::_::_,_,h=>by simp at h
theorem wK {ar a}(h:Gf ar a)(hp:0<Z a.A):Da [] a++[46]=Gv a.B (H5 a).2:=by
 have e1:QC (H5 a).2=jn (a.A.map fun t=>(Ap t).2):=by
  unfold QC;congr 1;have:(H5 a).2=C4 (a.A.map fun t=>(Ap t).2):=by
   unfold H5 Cw C9;simp only[BS];rfl
  rw[this];refine WL (fun x hx=>?_) (by rw[BP];exact h.le);obtain⟨t,ht,rfl⟩:=AO.1 hx;obtain⟨v,-,e,-⟩:=QP (h.tm t ht).1 (h.tm t ht).2;omega
 have hit:∀t∈a.A,Lib.itoa (Ap t).2=t/\Ev [] t=t:=fun t ht=>by
  obtain⟨h1,h2⟩:=h.tm t ht;refine⟨?_,pO h2 []⟩;rcases h1.1 with g|g
  ·rw[h2]at g;cases g
  ·exact g.2.1
 unfold Gv Da;rw[e1,if_neg (by simp[h.nt])];have hl:=h.le
 match aa:a.A,hp,hl with
 |[t],_,_=>
  rw[aa]at hit;simp[jn,Hk,Mp,(hit t (by simp)).1,(hit t (by simp)).2]
 |[t,u],_,_=>
  rw[aa]at hit;simp[jn,Hk,Mp,(hit t (by simp)).1,(hit t (by simp)).2,(hit u (by simp)).1,(hit u (by simp)).2]
 |[t,u,v],_,_=>
  rw[aa]at hit;simp[jn,Hk,Mp,(hit t (by simp)).1,(hit t (by simp)).2,(hit u (by simp)).1,(hit u (by simp)).2,(hit v (by simp)).1,(hit v (by simp)).2]
 |_::_::_::_::_,_,h=>simp at h
theorem fK (ar A cA ida p)(hE:EL Bo A cA)(hl:Z A<=1000)(hg:∀a∈A,Gf ar a)(hp:∀a∈A,0<Z a.A/\short a)(hn:A.Nodup)(z):
  AF Tryz.prog 69 [sl ida (Z A) cA,str p] z fun r z'=>r=str ((Hm (Lf (A.map H5) p)).flatMap (Gv p))/\AE z z':=by
 have bz:=EL.length Bb hE;have b0:({data:=#[]}:ByteArray)=bs []:=rfl;have br:({data:=#[46]}:ByteArray)=bs [46]:=rfl;refine Z9 72 [.tmp 4] Tryz.func69 ?_
 refine zx ?_
 refine Ae (fun m s z'=>∃(K:List AC) (la:Int) (acc:Tx),m=Z A+1-Z K/\s 0=sl ida (Z A) cA/\s 1=str p/\s 5=str acc/\s 6=ic la/\s 7=ic (Z K)/\AE z z'/\Z acc<=Z K*10000/\Z K<=Z A/\AD (If A p la K/\acc=K.flatMap fun b=>Gv p (H5 b).2)) (Z A+1)
  ⟨[],-1,[],by simp,by simp[upd,AM],by simp[upd,AM],AG,AG,AG,AE.refl _,by simp,by simp,⟨by simp,by simp,.inl ⟨rfl,rfl⟩,fun b hb hp=>.inr (by simp)⟩,rfl⟩ ?_
 rintro m s z' ⟨K,la,acc,rfl,h0,h1,h5,h6,h7,hK,b2,bu,hA⟩;have bp:decide ((Z K:Int)<=(Z A:Int))=true:=by simpa using bu
 refine p6 ?_
 refine Ae (fun m s z'=>∃(i:Nat) (nx:Int),m=Z A-i/\i<=Z A/\s 0=sl ida (Z A) cA/\s 1=str p/\s 5=str acc/\s 6=ic la/\s 7=ic (Z K)/\s 8=ic nx/\s 9=ic i/\AE z z'/\AD (GM A p la i nx)) (Z A)
  ⟨0,-1,AA,AA,by simp[upd,h0],by simp[upd,h1],by simp[upd,h5],by simp[upd,h6],by simp[upd,h7],AG,AG,hK,.inl ⟨rfl,fun b hb=>by simp at hb⟩⟩ ?_
 clear h0 h1 h5 h6 h7 hK bp;rintro m s z' ⟨i,nx,rfl,hi,h0,h1,h5,h6,h7,h8,h9,hK,hN⟩;have bv:=hK.B;have ap:AD (∀(j:Nat) (b:AC),nx=j->A[j]?=some b->b.B=p):=fun j b e hb=>by
  rcases hN.o with⟨h1,-⟩|⟨j',b',h1,h2,h3,-⟩
  ·omega
  ·have:j'=j:=AA;subst this;rw[hb]at h2;cases h2;exact h3.1
 have ac:nx= -1\/∃(j:Nat) (b:AC),nx=j/\A[j]?=some b:=by
  rcases hN.o with⟨h1,-⟩|⟨j',b',h1,h2,-⟩
  ·exact .inl h1
  ·exact .inr ⟨j',b',h1,h2⟩
 by_cases bd:i<Z A
 ·have aa:=AJ bd;obtain⟨ia,r,hd⟩:=Cf hE aa;have ao:=AT bd;generalize A[i]=w at hd aa ao;by_cases ae:w.B=p
  ·have b1:(w.B !=p)=false:=by simpa using ae
   have b1':(w.B==p)=true:=by simpa using ae
   rcases hA.o.1.las with⟨a8,a9⟩|⟨j0,d,K0,a8,aw,a9⟩
   ·have HC:AD (IU A p la w):=⟨ae,.inl a8⟩;have am:AD ((nx= -1\/∃(j:Nat) (b:AC),nx=j/\A[j]?=some b/\Ri w b=true)->GM A p la (i+1) (i:Nat)):=fun h=>hN.o.new aa HC.o h;have ay:AD (∀(j:Nat) (b:AC),nx=j->A[j]?=some b->Ri w b=false->GM A p la (i+1) (j:Nat)):=fun j b e hb hl=>(e ▸ hN.o).keep aa hb hl;subst a8;have bg:decide ((-1:Int)>=0)=false:=by decide
    have bf:decide ((0:Int)<= -1)=false:=by decide
    clear aa HC
    refine p6 ?_
    refine Az (Q:=fun e s' z''=>e= .normal/\s' 44=sc (.bool false)/\s' 0=s 0/\s' 1=s 1/\s' 5=s 5/\s' 6=s 6/\s' 7=s 7/\s' 8=s 8/\s' 9=s 9/\AE z' z'') ?_ ?_
    ·refine Aq Ag (fun _=>True) [] [0,1,2,3,4,5,6,7,8,9,10,11,12,13,14,15,16,17,18] 4 #[true,true,true,true,true,true,true,true,true,true,true,true,true,true,true,true,true,true,true,false,false,false,false] AH (fun _ _ _ h=>by cases h.1) ?_;intro yd yb;refine Z7 ?_;refine yb.o _ ?_;clear yb yd;refine Ai (i:=19) AH ?_;refine Am ?_;intro yd yb;refine Z7 ?_;refine yb.o _ _ ⟨kept_refl,?_⟩;clear yb yd;refine Ci [20,21,22] AH AH (fun _ _ _ h=>by cases h.1) (AR _) (fun o ho _=>rfl) ?_;intro yd yb;refine Z7 ?_;refine yb.o _ _ ⟨rfl,?_⟩;simp[upd,AE.refl]
    ·
     rintro e s' z'' ⟨rfl,g44,g0,g1,g5,g6,g7,g8,g9,ak⟩;rw[h0]at g0;rw[h1]at g1;rw[h5]at g5;rw[h6]at g6;rw[h7]at g7;rw[h8]at g8;rw[h9]at g9;have ai:=hK.trans ak;have knoc:=ai.B;refine Ct g44 ?_;clear h0 h1 h5 h6 h7 h8 h9 hK ak g44;rcases ac with a5|⟨j,b,a4,ab⟩
     ·subst a5;have an:AD _:=am.o (.inl rfl);have a6:decide ((-1:Int)<0)=true:=by decide
      clear am ay
      refine zx ?_
      refine Az (Q:=fun e s1 z3=>e= .normal/\s1 57=sc (.bool true)/\s1 0=s' 0/\s1 1=s' 1/\s1 5=s' 5/\s1 6=s' 6/\s1 7=s' 7/\s1 8=s' 8/\s1 9=s' 9/\AE z'' z3) ?_ ?_
      ·refine Aq Ag (fun _=>True) [] [0,1,2,3,4,5,6,7,8,9,10] 2 #[true,true,true,true,true,true,true,true,true,true,true,false,false] AH (fun _ _ _ h=>by cases h.1) ?_;intro yd yb;refine Z7 ?_;refine yb.o _ ?_;clear yb yd;refine Ai (i:=11) AH ?_;refine Am ?_;intro yd yb;refine Z7 ?_;refine yb.o _ _ ⟨kept_refl,?_⟩;clear yb yd;refine Ci [12] AH AH (fun _ _ _ h=>by cases h.1) (AR _) (fun o ho _=>rfl) ?_;intro yd yb;refine Z7 ?_;refine yb.o _ _ ⟨rfl,?_⟩;simp[upd,AE.refl]
      ·rintro e s1 z3 ⟨rfl,k57,k0,k1,k5,k6,k7,k8,k9,aj⟩;rw[g0]at k0;rw[g1]at k1;rw[g5]at k5;rw[g6]at k6;rw[g7]at k7;rw[g8]at k8;rw[g9]at k9;refine Bt k57 ?_
       refine zx ?_
       refine⟨Z A-(i+1),AA,i+1,(i:Nat),?_⟩
       exact qi an (ai.trans aj)
     ·subst a4;have be:=(BG.1 ab).1;obtain⟨ja,r2,bi⟩:=Cf hE ab;have af:=BD ab;have ax:=fun z=>Ps w b _ _ ⟨ia,rfl⟩ ⟨ja,rfl⟩ (by rw[(hg w ao).ln,(hg b af).ln,ae,ap.o j b rfl ab];exact AR _) (by have:=(hg b af).le;omega) z;rw[sF (hg w ao) (hg b af) (by rw[ae,ap.o j b rfl ab]),ae]at ax;have a6:decide ((j:Int)<0)=false:=by simp
      have HL:AD (Ri w b=Fv (H5 w).2 (H5 b).2):=rfl;have an:AD (Ri w b=true->_):=fun h=>am.o (.inr ⟨j,b,rfl,ab,h⟩);have a7:AD (Ri w b=false->_):=fun h=>ay.o j b rfl ab h;clear am ay ab af;generalize Fv (H5 w).2 (H5 b).2=lb at ax HL;rw[HL.o]at an a7;clear HL
      refine zx ?_
      refine Az (Q:=fun e s1 z3=>e= .normal/\s1 57=sc (.bool lb)/\s1 0=s' 0/\s1 1=s' 1/\s1 5=s' 5/\s1 6=s' 6/\s1 7=s' 7/\s1 8=s' 8/\s1 9=s' 9/\AE z'' z3) ?_ ?_
      ·refine Aq Ag (fun _=>True) [] [0,1,2,3,4,5,6,7,8,9,10] 2 #[true,true,true,true,true,true,true,true,true,true,true,false,false] AH (fun _ _ _ h=>by cases h.1) ?_;intro yd yb;refine Z7 ?_;refine yb.o _ ?_;clear yb yd;refine Ai (i:=11) AH ?_;refine Am ?_;intro yd yb;refine Z7 ?_;refine AF.mono (ax _) ?_;rintro _ z5 ⟨rfl,ad⟩;refine Z7 ?_;refine yb.o _ _ ⟨Al ad,?_⟩;clear yb yd;refine Ci [12] AH AH (fun _ _ _ h=>by cases h.1) ad.B (fun o ho _=>ad.ver o ho) ?_;intro yd yb;refine Z7 ?_;refine yb.o _ _ ⟨rfl,?_⟩;simp[upd,ad]
      ·rintro e s1 z3 ⟨rfl,k57,k0,k1,k5,k6,k7,k8,k9,aj⟩;rw[g0]at k0;rw[g1]at k1;rw[g5]at k5;rw[g6]at k6;rw[g7]at k7;rw[g8]at k8;rw[g9]at k9;cases lb with
       |true=>
        have az:AD _:=an.o rfl;refine Bt k57 ?_
        refine zx ?_
        refine⟨Z A-(i+1),AA,i+1,(i:Nat),?_⟩
        exact qi az (ai.trans aj)
       |false=>
        have az:AD _:=a7.o rfl;refine Ct k57 ?_
        refine zx ?_
        refine⟨Z A-(i+1),AA,i+1,(j:Nat),?_⟩
        exact qi az (ai.trans aj)
   ·subst a8;have bh:=BD aw;have bc:d.B=p:=(hA.o.1.mem d (by rw[a9];simp)).2;obtain⟨ja0,r0,bq⟩:=Cf hE aw;have bw:=(BG.1 aw).1;have a3:=fun z=>Ps d w _ _ ⟨ja0,rfl⟩ ⟨ia,rfl⟩ (by rw[(hg w ao).ln,(hg d bh).ln,ae,bc];exact AR _) (by have:=(hg w ao).le;omega) z;rw[sF (hg d bh) (hg w ao) (by rw[ae,bc]),ae,bc]at a3;have bg:decide ((j0:Int)>=0)=true:=by simp
    have bf:decide ((0:Int)<=(j0:Int))=true:=by simp
    cases a0:Fv (H5 d).2 (H5 w).2 with
    |true=>
     have HC:AD (IU A p (j0:Nat) w):=⟨ae,.inr ⟨j0,d,rfl,aw,a0⟩⟩;have am:AD ((nx= -1\/∃(j:Nat) (b:AC),nx=j/\A[j]?=some b/\Ri w b=true)->GM A p (j0:Nat) (i+1) (i:Nat)):=fun h=>hN.o.new aa HC.o h;have ay:AD (∀(j:Nat) (b:AC),nx=j->A[j]?=some b->Ri w b=false->GM A p (j0:Nat) (i+1) (j:Nat)):=fun j b e hb hl=>(e ▸ hN.o).keep aa hb hl;rw[a0]at a3;clear aa HC aw a0 a9
     refine p6 ?_
     refine Az (Q:=fun e s' z''=>e= .normal/\s' 44=sc (.bool false)/\s' 0=s 0/\s' 1=s 1/\s' 5=s 5/\s' 6=s 6/\s' 7=s 7/\s' 8=s 8/\s' 9=s 9/\AE z' z'') ?_ ?_
     ·refine Aq Ag (fun _=>True) [] [0,1,2,3,4,5,6,7,8,9,10,11,12,13,14,15,16,17,18] 4 #[true,true,true,true,true,true,true,true,true,true,true,true,true,true,true,true,true,true,true,false,false,false,false] AH (fun _ _ _ h=>by cases h.1) ?_;intro yd yb;refine Z7 ?_;refine yb.o _ ?_;clear yb yd;refine Ai (i:=19) AH ?_;refine Am ?_;intro yd yb;refine Z7 ?_;refine AF.mono (a3 _) ?_;rintro _ z5 ⟨rfl,ad⟩;refine Z7 ?_;refine yb.o _ _ ⟨Al ad,?_⟩;clear yb yd;refine Ci [20,21,22] AH AH (fun _ _ _ h=>by cases h.1) ad.B (fun o ho _=>ad.ver o ho) ?_;intro yd yb;refine Z7 ?_;refine yb.o _ _ ⟨rfl,?_⟩;simp[upd,ad]
     ·clear a3 bq bg bf;rintro e s' z'' ⟨rfl,g44,g0,g1,g5,g6,g7,g8,g9,ak⟩;rw[h0]at g0;rw[h1]at g1;rw[h5]at g5;rw[h6]at g6;rw[h7]at g7;rw[h8]at g8;rw[h9]at g9;have ai:=hK.trans ak;have knoc:=ai.B;refine Ct g44 ?_;clear h0 h1 h5 h6 h7 h8 h9 hK ak g44;rcases ac with a5|⟨j,b,a4,ab⟩
      ·subst a5;have an:AD _:=am.o (.inl rfl);have a6:decide ((-1:Int)<0)=true:=by decide
       clear am ay
       refine zx ?_
       refine Az (Q:=fun e s1 z3=>e= .normal/\s1 57=sc (.bool true)/\s1 0=s' 0/\s1 1=s' 1/\s1 5=s' 5/\s1 6=s' 6/\s1 7=s' 7/\s1 8=s' 8/\s1 9=s' 9/\AE z'' z3) ?_ ?_
       ·refine Aq Ag (fun _=>True) [] [0,1,2,3,4,5,6,7,8,9,10] 2 #[true,true,true,true,true,true,true,true,true,true,true,false,false] AH (fun _ _ _ h=>by cases h.1) ?_;intro yd yb;refine Z7 ?_;refine yb.o _ ?_;clear yb yd;refine Ai (i:=11) AH ?_;refine Am ?_;intro yd yb;refine Z7 ?_;refine yb.o _ _ ⟨kept_refl,?_⟩;clear yb yd;refine Ci [12] AH AH (fun _ _ _ h=>by cases h.1) (AR _) (fun o ho _=>rfl) ?_;intro yd yb;refine Z7 ?_;refine yb.o _ _ ⟨rfl,?_⟩;simp[upd,AE.refl]
       ·rintro e s1 z3 ⟨rfl,k57,k0,k1,k5,k6,k7,k8,k9,aj⟩;rw[g0]at k0;rw[g1]at k1;rw[g5]at k5;rw[g6]at k6;rw[g7]at k7;rw[g8]at k8;rw[g9]at k9;refine Bt k57 ?_
        refine zx ?_
        refine⟨Z A-(i+1),AA,i+1,(i:Nat),?_⟩
        exact qi an (ai.trans aj)
      ·subst a4;have be:=(BG.1 ab).1;obtain⟨ja,r2,bi⟩:=Cf hE ab;have af:=BD ab;have ax:=fun z=>Ps w b _ _ ⟨ia,rfl⟩ ⟨ja,rfl⟩ (by rw[(hg w ao).ln,(hg b af).ln,ae,ap.o j b rfl ab];exact AR _) (by have:=(hg b af).le;omega) z;rw[sF (hg w ao) (hg b af) (by rw[ae,ap.o j b rfl ab]),ae]at ax;have a6:decide ((j:Int)<0)=false:=by simp
       have HL:AD (Ri w b=Fv (H5 w).2 (H5 b).2):=rfl;have an:AD (Ri w b=true->_):=fun h=>am.o (.inr ⟨j,b,rfl,ab,h⟩);have a7:AD (Ri w b=false->_):=fun h=>ay.o j b rfl ab h;clear am ay ab af;generalize Fv (H5 w).2 (H5 b).2=lb at ax HL;rw[HL.o]at an a7;clear HL
       refine zx ?_
       refine Az (Q:=fun e s1 z3=>e= .normal/\s1 57=sc (.bool lb)/\s1 0=s' 0/\s1 1=s' 1/\s1 5=s' 5/\s1 6=s' 6/\s1 7=s' 7/\s1 8=s' 8/\s1 9=s' 9/\AE z'' z3) ?_ ?_
       ·refine Aq Ag (fun _=>True) [] [0,1,2,3,4,5,6,7,8,9,10] 2 #[true,true,true,true,true,true,true,true,true,true,true,false,false] AH (fun _ _ _ h=>by cases h.1) ?_;intro yd yb;refine Z7 ?_;refine yb.o _ ?_;clear yb yd;refine Ai (i:=11) AH ?_;refine Am ?_;intro yd yb;refine Z7 ?_;refine AF.mono (ax _) ?_;rintro _ z5 ⟨rfl,ad⟩;refine Z7 ?_;refine yb.o _ _ ⟨Al ad,?_⟩;clear yb yd;refine Ci [12] AH AH (fun _ _ _ h=>by cases h.1) ad.B (fun o ho _=>ad.ver o ho) ?_;intro yd yb;refine Z7 ?_;refine yb.o _ _ ⟨rfl,?_⟩;simp[upd,ad]
       ·rintro e s1 z3 ⟨rfl,k57,k0,k1,k5,k6,k7,k8,k9,aj⟩;rw[g0]at k0;rw[g1]at k1;rw[g5]at k5;rw[g6]at k6;rw[g7]at k7;rw[g8]at k8;rw[g9]at k9;cases lb with
        |true=>
         have az:AD _:=an.o rfl;refine Bt k57 ?_
         refine zx ?_
         refine⟨Z A-(i+1),AA,i+1,(i:Nat),?_⟩
         exact qi az (ai.trans aj)
        |false=>
         have az:AD _:=a7.o rfl;refine Ct k57 ?_
         refine zx ?_
         refine⟨Z A-(i+1),AA,i+1,(j:Nat),?_⟩
         exact qi az (ai.trans aj)
    |false=>
     have HN:AD (GM A p (j0:Nat) (i+1) nx):=hN.o.skip aa fun hc=>by
      rcases hc.2 with h|⟨j',c,e1,e2,e3⟩
      ·omega
      ·have:j'=j0:=AA;subst this;rw[aw]at e2;cases e2;unfold Ri at e3;rw[a0]at e3;cases e3
     rw[a0]at a3;clear aa aw a0 a9 ap ac hN
     refine p6 ?_
     refine Az (Q:=fun e s' z''=>e= .normal/\s' 44=sc (.bool true)/\s' 0=s 0/\s' 1=s 1/\s' 5=s 5/\s' 6=s 6/\s' 7=s 7/\s' 8=s 8/\s' 9=s 9/\AE z' z'') ?_ ?_
     ·refine Aq Ag (fun _=>True) [] [0,1,2,3,4,5,6,7,8,9,10,11,12,13,14,15,16,17,18] 4 #[true,true,true,true,true,true,true,true,true,true,true,true,true,true,true,true,true,true,true,false,false,false,false] AH (fun _ _ _ h=>by cases h.1) ?_;intro yd yb;refine Z7 ?_;refine yb.o _ ?_;clear yb yd;refine Ai (i:=19) AH ?_;refine Am ?_;intro yd yb;refine Z7 ?_;refine AF.mono (a3 _) ?_;rintro _ z5 ⟨rfl,ad⟩;refine Z7 ?_;refine yb.o _ _ ⟨Al ad,?_⟩;clear yb yd;refine Ci [20,21,22] AH AH (fun _ _ _ h=>by cases h.1) ad.B (fun o ho _=>ad.ver o ho) ?_;intro yd yb;refine Z7 ?_;refine yb.o _ _ ⟨rfl,?_⟩;simp[upd,ad]
     ·
      rintro e s' z'' ⟨rfl,g44,g0,g1,g5,g6,g7,g8,g9,ak⟩;rw[h0]at g0;rw[h1]at g1;rw[h5]at g5;rw[h6]at g6;rw[h7]at g7;rw[h8]at g8;rw[h9]at g9;refine Bt g44 ?_
      refine zx ?_
      refine⟨Z A-(i+1),AA,i+1,nx,?_⟩
      exact qi HN (hK.trans ak)
  ·have b1:(w.B !=p)=true:=by simpa using ae
   have b1':(w.B==p)=false:=by simpa using ae
   have HN:AD (GM A p la (i+1) nx):=hN.o.skip aa fun hc=>ae hc.1;clear aa ap ac hN
   refine p6 ?_
   refine Az (Q:=fun e s' z''=>e= .normal/\s' 44=sc (.bool true)/\s' 0=s 0/\s' 1=s 1/\s' 5=s 5/\s' 6=s 6/\s' 7=s 7/\s' 8=s 8/\s' 9=s 9/\AE z' z'') ?_ ?_
   ·refine Aq Ag (fun _=>True) [] [0,1,2,3,4,5,6,7,8,9,10,11,12,13,14,15,16,17,18] 4 #[true,true,true,true,true,true,true,true,true,true,true,true,true,true,true,true,true,true,true,false,false,false,false] AH (fun _ _ _ h=>by cases h.1) ?_;intro yd yb;refine Z7 ?_;refine yb.o _ ?_;clear yb yd;refine Ai (i:=19) AH ?_;refine Am ?_;intro yd yb;refine Z7 ?_;refine yb.o _ _ ⟨kept_refl,?_⟩;clear yb yd;refine Ci [20,21,22] AH AH (fun _ _ _ h=>by cases h.1) (AR _) (fun o ho _=>rfl) ?_;intro yd yb;refine Z7 ?_;refine yb.o _ _ ⟨rfl,?_⟩;simp[upd,AE.refl]
   ·
    rintro e s' z'' ⟨rfl,g44,g0,g1,g5,g6,g7,g8,g9,ak⟩;rw[h0]at g0;rw[h1]at g1;rw[h5]at g5;rw[h6]at g6;rw[h7]at g7;rw[h8]at g8;rw[h9]at g9;refine Bt g44 ?_
    refine zx ?_
    refine⟨Z A-(i+1),AA,i+1,nx,?_⟩
    exact qi HN (hK.trans ak)
 ·have hil:i=Z A:=AA;subst hil;rcases hN.o with⟨a5,bb⟩|⟨j,b,a4,ab,hc,av⟩
  ·subst a5;rw[AS]at bb;have HR:AD (acc=(Hm (Lf (A.map H5) p)).flatMap (Gv p)):=by
    rw[AD,hA.o.2,<-hA.o.1.done hg bb hn,LF]
   have a6:decide ((-1:Int)<0)=true:=by decide
   clear hA hN bb ap ac
   refine p6 ?_
   first|exact⟨_,rfl,by rw[HR.o],hK⟩|exact⟨_,rfl,by rw[HR.o]⟩
  ·subst a4;rw[AS]at av;have af:=BD ab;have be:=(BG.1 ab).1;obtain⟨ja,r2,bi⟩:=Cf hE ab;have a6:decide ((j:Int)<0)=false:=by simp
   have au:=hA.o.1.more hg ab hc av;have hlen:=au.len;simp only[AX,BQ,CP]at hlen;have ba:=(hp b af).2;have bo:Z (Da [] b)<=5000:=by
    have h1:=Mo [] b.A 0 ba.2.2;have h2:=(hg b af).le;have h3:=ba.1;unfold Da;rw[if_neg (by simp[(hg b af).nt])];simp only[AX,CP,BQ];omega
   have HR:AD (If A p (j:Nat) (K++[b])/\acc++Da [] b++[46]=(K++[b]).flatMap fun b=>Gv p (H5 b).2):=⟨au,by
    rw[JL,<-hA.o.2,CX,wK (hg b af) (hp b af).1,hc.1];simp⟩
   have bl:=fun z=>Po [] 1 b _ ⟨ja,rfl⟩ (by simp) ba z;generalize Da [] b=wb at bl bo HR;clear hA hN av ap ac au hc ab af
   repeat' first|refine Z1 ?_|refine Z8 fun yd yb=>?_|refine Z4 ?_;clear yb yd|refine Z2 ?_ ?_<;>intro h ah<;>try exact Xp|refine Z5 ?_;refine Xi (bl _) ?_;rintro _ _ ⟨rfl,bm⟩;(have bn:=bm.B)|refine Z7 ?_|exact Zt|apply yb.o;clear yb yd
   refine⟨Z A+1-Z (K++[b]),by simp;omega,K++[b],(j:Nat),acc++wb++[46],?_⟩
   ((repeat' refine Zi ?_ ?_)<;>first|exact Xq|exact HR|exact (hK.trans bm)|exact (by simp only[AX,BQ,CP];omega)|exact Xs)
def GX (lo:Nat)(z:St)(x:AV)(n:Nat)(pc:List AV):Prop:=∃o cap,x=gx o n cap/\0<cap/\n<=cap/\Z (z.C o)=cap*3/\(z.C o).take (n*3)=pc/\lo<=o/\o<z.B
theorem GX.keep {lo z z' x n pc}(h:GX lo z x n pc)(k:AE z z'):GX lo z' x n pc:=by
 obtain⟨o,cap,h1,h2,h3,h4,h5,h6,h7⟩:=h;have:=k.C o h7;exact⟨o,cap,h1,h2,h3,by rw[this];exact h4,by rw[this];exact h5,h6,By h7 k.B⟩
theorem wV {P t b zc σ0 z id2 n lo x xs ys K}(ht:O5 P t=some (3,b,zc))(hzc:Z zc=3)(hy:Z ys=3)(hf:ys.all Abs.flat=true)(hb:(n+1)*b<=140737488355328)(hl:n+1<=1099511627776)
  (ac:lo<=z.B) (h0:σ0.B<=lo) (hK:AE σ0 z) (hx:GX lo z x n xs) (h:∀x' z',GX lo z' x' (n+1) (xs++ys)->z.B<=z'.B->(∀p,p<lo->z'.C p=z.C p)->AE σ0 z'->K x' z'):Iv P t t x (sl id2 1 ys) z K:=by
 obtain⟨o,cap,rfl,h2,h3,h4,h5,h6,h7⟩:=hx;refine pb (xs:=xs) ht AA hzc AA hf AA hb hl h2 h3 h4 h5 (fun hc cs ab aa=>?_) (fun cap' cs ab hc aa=>?_)
 ·exact h _ _ ⟨_,_,rfl,AA,hc,by rw[Ak];exact ab,by rw[Ak];exact aa,h6,h7⟩ (AR _) (fun p hp=>Dl AA) (hK.put AA _)
 ·exact h _ _ ⟨_,_,rfl,AA,hc,by rw[Ao];exact ab,by rw[Ao];exact aa,ac,AK⟩ AK (fun p hp=>Ah AA) (hK.new _)
theorem gm {L}{ss ob:List AV}(hE:EL Bo L ss){k b}(hk:L[k]?=some b)(aa:ob.take (Z L*3)=ss):∃ib r,ob.drop (k*3)=sc (.bool b.nt)::str b.B::sl ib (Z b.A) (b.A.map str)::r:=by
 obtain⟨ib,r,hd⟩:=Cf hE hk;have ac:=(BG.1 hk).1;have ab:=EL.length Bb hE;refine⟨ib,r++ob.drop (Z L*3),?_⟩
 conv=>lhs;rw[<-KJ (Z L*3) ob]
 rw[aa,List.drop_append,hd,show k*3-Z ss=0 by omega];simp
theorem yI:∀{F A:List AC} {i:Nat} {a:AC},F[i]?=some a->Lp (A++F.take i) (F.drop i)=((A++F.take i).any (clash a)||Lp (A++F.take (i+1)) (F.drop (i+1))):=fun {F A i a} h=>by
 obtain⟨h1,e1⟩:=BG.1 h;rw[FJ h1,e1,Lp,AU,h];simp
def Re (l:List AB)(F:List AC):Int:=if Lp (l.flatMap Af) F=true then 3 else if F.any (fun a=>D9 l a.B)=true then 8 else 0
theorem fJ (l cs idl F cF idf)(hE:EL AN l cs)(hl:Z l<=16)(hf:∀x∈l,x.fits)(hF:EL Bo F cF)(bf:Z F<=1000)(z):
  AF Tryz.prog 66 [sl idl (Z l) cs,sl idf (Z F) cF] z fun r z'=>r=ic (Re l F)/\AE z z':=by
 have bd:=EL.length Cj hE;have bc:=EL.length Bb hF;refine Z9 95 [.tmp 4] Tryz.func66 ?_
 refine zz ?_
 refine Ae (fun m s z'=>∃(i:Nat) (x:AV) (ss:List AV),m=Z l-i/\i<=Z l/\s 0=sl idl (Z l) cs/\s 1=sl idf (Z F) cF/\s 5=x/\s 6=ic i/\AE z z'/\GX z.B z' x (Z (C6 l i)) ss/\AD (EL Bo (C6 l i) ss)) (Z l)
  ⟨0,_,[],AA,AA,rfl,rfl,rfl,rfl,Xs,⟨z.B,8,rfl,AA,by simp[C6],by first|rfl|(rw[Ao];rfl)|simp[Ao],by simp[C6],AR _,AK⟩,by simp[AD,C6,EL]⟩ ?_
 rintro m s z' ⟨i,x5,ss,rfl,hi,h0,h1,h5,h6,hK,hX,hS⟩;have hpl:=lU hf i;have ah:=hK.B;by_cases au:i<Z l
 ·obtain⟨ih1,id1,b1,r1,a0,a7⟩:=Ds hE (AJ au);have aw:=hf l[i] (AT au);have HX:AD (l[i]?=some l[i]):=AJ au;generalize l[i]=y at a0 a7 aw HX;have be:=aw.atoms;have ak:Abs.flat x5=true:=by obtain⟨o,cap,rfl,-⟩:=hX;rfl
  refine qb ?_;intro yd yb;refine Xi (L5 _ _ (AN.of a0) (by have:=aw.1;omega) _) ?_;rintro _ _ ⟨ida,cs2,rfl,a3,ay⟩;refine pz ?_
  rename_i z1;have a8:=EL.length Bb a3
  refine Ae (fun m s z'=>∃(j:Nat) (x:AV) (ss:List AV),m=Z (Af y)-j/\j<=Z (Af y)/\s 0=sl idl (Z l) cs/\s 1=sl idf (Z F) cF/\s 5=x/\s 6=ic i/\s 7=sl ida (Z (Af y)) cs2/\s 8=ic j/\AE z z'/\GX z.B z' x (Z (Ca l y i j)) ss/\AD (EL Bo (Ca l y i j) ss)) (Z (Af y))
   ⟨0,x5,ss,AA,AA,by simp[upd,h0],by simp[upd,h1],by simp[upd,h5],by simp[upd,h6],AG,AG,hK.trans ay,by simpa[Ca]using hX.keep ay,by simpa[Ca]using hS⟩ ?_
  clear hK hX hS h0 h1 h5 h6 ay ss ak x5 ah;rintro m s z' ⟨j,x5,ss,rfl,hj,h0,h1,h5,h6,h7,h8,hK,hX,hS⟩;have ah:=hK.B;have ao:Z (Ca l y i j)<=100000:=by unfold Ca;simp;omega
  have ak:Abs.flat x5=true:=by obtain⟨o,cap,rfl,-⟩:=hX;rfl
  by_cases ac:j<Z (Af y)
  ·obtain⟨ia,r,hd⟩:=Cf a3 (AJ ac);have HG:AD ((Af y)[j]?=some (Af y)[j]):=AJ ac;generalize (Af y)[j]=a at hd HG;have HL:AD (Ca l y i (j+1)=Ca l y i j++[a]):=G1 HG.o;have HS:AD (EL Bo (Ca l y i (j+1)) (ss++[sc (.bool a.nt),str a.B,sl ia (Z a.A) (a.A.map str)])):=by
    rw[AD,HL.o];exact hS.o.append (EL.single ⟨ia,rfl⟩)
   have aj:Z (Ca l y i (j+1))=Z (Ca l y i j)+1:=by rw[HL.o];simp
   clear hS
   refine qm ?_;intro yd yb
   refine wV (lo:=z.B) (σ0:=z) (by first|exact I3) (by rfl) (by rfl) (by rfl) AA AA (by simp only[Av,Ab,Aa];omega) (AR _) (hK.lay 1) (hX.keep ((AE.refl _).lay 1)) ?_;intro X' zn af a5 ad a9;rw[<-aj]at af;have a6:Abs.flat X'=true:=by obtain⟨o,cap,rfl,-⟩:=af;rfl
   clear hX ad aj;refine Z3 ?_
   refine zz ?_
   refine⟨Z (Af y)-(j+1),AA,j+1,X',ss++[sc (.bool a.nt),str a.B,sl ia (Z a.A) (a.A.map str)],?_⟩
   exact qi af HS
  ·have az:j=Z (Af y):=AA;have HS:AD (EL Bo (C6 l (i+1)) ss):=by rw[AD,Px HX.o,<-az];exact hS.o
   have hX:GX z.B z' x5 (Z (C6 l (i+1))) ss:=by rw[Px HX.o,<-az];exact hX
   clear hS
   refine pz ?_
   refine⟨Z l-(i+1),AA,i+1,x5,ss,?_⟩
   exact qi hX HS
 ·have hil:i=Z l:=AA;subst hil;have epr:C6 l (Z l)=l.flatMap Af:=by unfold C6;rw[AS]
  rw[epr]at hX hS hpl;clear epr;have an:AD (Re l F=if Lp (l.flatMap Af) F=true then 3 else if F.any (fun a=>D9 l a.B)=true then 8 else 0):=rfl;generalize l.flatMap Af=P at hX hS hpl an;have ak:Abs.flat x5=true:=by obtain⟨o,cap,rfl,-⟩:=hX;rfl
  refine pz ?_
  refine Ae (fun m s z'=>∃(q:Nat) (x:AV) (ss:List AV),m=Z F-q/\q<=Z F/\s 0=sl idl (Z l) cs/\s 1=sl idf (Z F) cF/\s 5=x/\s 9=ic q/\AE z z'/\GX z.B z' x (Z (P++F.take q)) ss/\AD (EL Bo (P++F.take q) ss/\Lp P F=Lp (P++F.take q) (F.drop q))) (Z F)
   ⟨0,x5,ss,AA,AA,by simp[upd,h0],by simp[upd,h1],by simp[upd,h5],AG,hK,by simpa using hX,by simpa using hS.o,by simp⟩ ?_
  clear hK hX hS h0 h1 h5 h6 ss ak x5 ah;rintro m s z' ⟨q,x5,ss,rfl,hq,h0,h1,h5,h9,hK,hX,hS⟩;have ah:=hK.B;have ao:Z (P++F.take q)<=100000:=by rw[AX,CV];omega
  by_cases ac:q<Z F
  ·have HG:AD (F[q]?=some F[q]):=AJ ac;obtain⟨ia,r,hd⟩:=Cf hF HG.o;generalize F[q]=a at hd HG;have HT:AD _:=yI (A:=P) HG.o;have HL:AD (P++F.take (q+1)=(P++F.take q)++[a]):=by rw[AD,AU,HG.o];simp
   have aj:Z (P++F.take (q+1))=Z (P++F.take q)+1:=by rw[HL.o,AX];rfl
   generalize P++F.take q=L at hX hS ao HT HL aj;obtain⟨o,cap,rfl,c1,c2,c3,c4,c5,c6⟩:=hX;have ap:AD (Lp P F=(L.any (clash a)||Lp (P++F.take (q+1)) (F.drop (q+1)))):=by rw[AD,hS.o.2,HT.o]
   have HE:AD (EL Bo L ss):=hS.o.1;clear hS HT
   refine pz ?_
   refine Ae (fun m s z''=>∃k:Nat,m=Z L-k/\k<=Z L/\s 0=sl idl (Z l) cs/\s 1=sl idf (Z F) cF/\s 5=gx o (Z L) cap/\s 9=ic q/\s 10=ic k/\z''=z'/\AD (X8 a L k)) (Z L)
    ⟨0,AA,AA,by simp[upd,h0],by simp[upd,h1],by simp[upd,h5],by simp[upd,h9],AG,rfl,by simp[AD,X8]⟩ ?_
   clear h0 h1 h5 h9;rintro m s z'' ⟨k,rfl,hk,h0,h1,h5,h9,bh,rfl,ab⟩;by_cases ae:k<Z L
   ·have HB:AD (L[k]?=some L[k]):=AJ ae;obtain⟨ib,r',ax⟩:=gm HE.o HB.o c4;generalize L[k]=b at ax HB;have bb:(z''.C o)[k*3+1]?=some (str b.B):=by rw[<-JD,ax];rfl
    have ba:(z''.C o)[k*3+2]?=some (sl ib (Z b.A) (b.A.map str)):=by rw[<-JD,ax];rfl
    have HC:AD (clash a b=(b.B==a.B&&decide (Z b.A≠Z a.A))):=rfl;have HK:AD (clash a b=false->X8 a L (k+1)):=fun h=>by unfold X8 at*;rw[any_take_succ _ HB.o,ab.o,h];rfl
    have HH:AD (clash a b=true->Re l F=3):=fun h=>by
     rw[an.o,if_pos];rw[ap.o,Ek _ HB.o h];rfl
    clear ab;by_cases e1:b.B=a.B
    ·have t1:(b.B==a.B)=true:=by simpa using e1
     by_cases e2:Z b.A=Z a.A
     ·have t2:((Z b.A:Int) !=(Z a.A:Int))=false:=by simp;omega
      have HN:AD (X8 a L (k+1)):=HK.o (by rw[HC.o];simp[e2]);clear HK HH HC e1 e2
      refine pz ?_
      refine Ay Ag (fun _=>True) [25] [0,1,2,3,4,5,6,7,8,9,10,11,12,13,14,15,16,17,18,19,20,21,22,23,24] [25] AH (fun _ _ _ h=>h) ?_;intro yd yb;refine Z3 ?_
      refine pz ?_
      refine⟨Z L-(k+1),AA,k+1,?_⟩
      exact qh HN
     ·have t2:((Z b.A:Int) !=(Z a.A:Int))=true:=by simp;omega
      have HN:AD (Re l F=3):=HH.o (by rw[HC.o];simp[e1,e2]);clear HK HH HC e1 e2
      refine pz ?_
      refine Ay Ag (fun _=>True) [25] [0,1,2,3,4,5,6,7,8,9,10,11,12,13,14,15,16,17,18,19,20,21,22,23,24] [25] AH (fun _ _ _ h=>h) ?_;intro yd yb;refine Z3 ?_
      refine pz ?_
      first|exact⟨_,rfl,by rw[HN.o],hK⟩|exact⟨_,rfl,by rw[HN.o]⟩
    ·have t1:(b.B==a.B)=false:=by simpa using e1
     have HN:AD (X8 a L (k+1)):=HK.o (by rw[HC.o];simp[e1]);clear HK HH HC e1
     refine pz ?_
     refine Ay Ag (fun _=>True) [25] [0,1,2,3,4,5,6,7,8,9,10,11,12,13,14,15,16,17,18,19,20,21,22,23,24] [25] AH (fun _ _ _ h=>h) ?_;intro yd yb;refine Z3 ?_
     refine pz ?_
     refine⟨Z L-(k+1),AA,k+1,?_⟩
     exact qh HN
   ·have av:k=Z L:=AA;subst av
    have HO:AD (EL Bo (P++F.take (q+1)) (ss++[sc (.bool a.nt),str a.B,sl ia (Z a.A) (a.A.map str)])/\Lp P F=Lp (P++F.take (q+1)) (F.drop (q+1))):=⟨by
     rw[HL.o];exact HE.o.append (EL.single ⟨ia,rfl⟩),by
     have:=ab.o;unfold X8 at this;rw[AS]at this
     rw[ap.o,this,MP]⟩
    have hX:GX z.B z'' (gx o (Z L) cap) (Z L) ss:=⟨o,cap,rfl,c1,c2,c3,c4,c5,c6⟩;clear ab ap HE
    refine qm ?_;intro yd yb
    refine wV (lo:=z.B) (σ0:=z) (by first|exact I3) (by rfl) (by rfl) (by rfl) AA AA (by simp only[Av,Ab,Aa];omega) (AR _) (hK.lay 1) (hX.keep ((AE.refl _).lay 1)) ?_;intro X' zn af a5 ad a9;rw[<-aj]at af;have a6:Abs.flat X'=true:=by obtain⟨o,cap,rfl,-⟩:=af;rfl
    clear hX ad aj c1 c2 c3 c4 c5 c6;refine Z3 ?_
    refine zz ?_
    refine⟨Z F-(q+1),AA,q+1,X',ss++[sc (.bool a.nt),str a.B,sl ia (Z a.A) (a.A.map str)],?_⟩
    exact qi af HO
  ·have a4:q=Z F:=AA;subst a4;have HR:AD (Re l F=if F.any (fun a=>D9 l a.B)=true then 8 else 0):=by
    have:=hS.o.2;rw[JZ]at this;rw[AD,an.o,this,if_neg (by simp[Lp])]
   have ak:Abs.flat x5=true:=by obtain⟨o,cap,rfl,-⟩:=hX;rfl
   clear hS hX an ao
   refine pz ?_
   refine Ae (fun m s z''=>∃k:Nat,m=Z F-k/\k<=Z F/\s 0=sl idl (Z l) cs/\s 1=sl idf (Z F) cF/\s 11=ic k/\AE z z''/\AD ((F.take k).any (fun a=>D9 l a.B)=false)) (Z F)
    ⟨0,AA,AA,by simp[upd,h0],by simp[upd,h1],AG,hK,by simp[AD]⟩ ?_
   clear h0 h1 h5 h9 hK ah ak;rintro m s z'' ⟨k,rfl,hk,h0,h1,bg,hK,ab⟩;have ah:=hK.B;by_cases ae:k<Z F
   ·have HG:AD (F[k]?=some F[k]):=AJ ae;obtain⟨ia,r,hd⟩:=Cf hF HG.o;generalize F[k]=a at hd HG;have am:=fun z=>Wv l cs idl a.B hE hl z;cases ai:D9 l a.B with
    |true=>
     have HN:AD (Re l F=8):=by rw[AD,HR.o,if_pos (Ek (fun a=>D9 l a.B) HG.o ai)]
     rw[ai]at am;clear ai ab HR HG
     refine qb ?_;intro yd yb;refine Xi (am _) ?_;rintro _ _ ⟨rfl,rfl⟩;refine pz ?_
     first|exact⟨_,rfl,by rw[HN.o],hK⟩|exact⟨_,rfl,by rw[HN.o]⟩
    |false=>
     have HN:AD ((F.take (k+1)).any (fun a=>D9 l a.B)=false):=by rw[AD,any_take_succ (fun a=>D9 l a.B) HG.o,ab.o,ai];rfl
     rw[ai]at am;clear ai ab HG
     refine qb ?_;intro yd yb;refine Xi (am _) ?_;rintro _ _ ⟨rfl,rfl⟩;refine pz ?_
     refine⟨Z F-(k+1),AA,k+1,?_⟩
     exact qh HN
   ·have av:k=Z F:=AA;subst av;rw[AS]at ab;have HN:AD (Re l F=0):=by rw[AD,HR.o,ab.o];rfl
    clear ab HR
    refine pz ?_
    first|exact⟨_,rfl,by rw[HN.o],hK⟩|exact⟨_,rfl,by rw[HN.o]⟩
inductive KA (l:List AB)(lim:Nat)(A0:List AC):Nat->List AC->Prop where
 |zero:KA l lim A0 0 A0
 |succ {s:Nat} {A A':List AC}:KA l lim A0 s A->Ze false (Zf l s) A lim A'->KA l lim A0 (s+1) A'
theorem KA.stg {ar l F}(hf:RA ar l F){M}(hM:GB l (Ta F) M){lim A0}(h0:pA ar l F M 0 A0){s A}(h:KA l lim A0 s A):pA ar l F M s A:=by
 induction h with
 |zero=>exact h0
 |succ _ hs ih=>exact WX hf hM ih hs
def NN (l:List AB)(F:List AC)(n:Nat)(A:List AC)(k:Int)(ok:Bool):Prop:=∃A0,Ze false [] F (Z F) A0/\
 ((ok=true/\KA l (Z A0+n) A0 (Z l+1) A/\Z A<=Z A0+n/\k=(Z A:Int)-Z A0)\/(ok=false/\k=0/\∃s A1,s<=Z l/\KA l (Z A0+n) A0 s A1/\eP false (Zf l s) A1 (Z A0+n)))
theorem VE {F}(h:eP false [] F (Z F)):False:=by
 obtain⟨L,h1,h2,h3⟩:=h (·∈F) ⟨fun a ha=>ha,fun _ _ _ x hx=>by cases hx⟩;have:Z L<=Z F:=by classical exact W5 L F h1 h3
 omega
theorem VI {l k i y}(h:l[i]?=some y):(l.take (i+1)).filter (sB l k)=(l.take i).filter (sB l k)++if sB l k y=true then [y]else []:=by
 rw[AU,h,BJ,IZ];congr 1;cases hh:sB l k y<;>simp[hh]
theorem lH (l cs idl F cF)(idf n:Nat)(hE:EL AN l cs)(hl:Z l<=16)(hf:∀x∈l,x.fits)(hF:E6 F cF)(br:Z F<=400)(hn:n<=200)(hr:∀x∈l,x.o=false->Qn false 600 x)(z):
  AF Tryz.prog 67 [sl idl (Z l) cs,sl idf (Z F) cF,ic n] z fun r z'=>∃A ida cA k ok,r=tp [sl ida (Z A) cA,ic k,sc (.bool ok)]/\NN l F n A k ok/\(ok=true->E6 A cA)/\AE z z':=by
 have bo:=EL.length Cj hE;have az:∀lim,lim<=600->∀x∈l,x.o=false->Qn false lim x:=fun lim bc x hx ho=>by
  obtain⟨c0,p,h1,h2⟩:=hr x hx ho;exact⟨c0,p,h1,fun a ha=>h2 a AA⟩
 have a6:∀z,AF Tryz.prog 116 [nilS,sl idf (Z F) cF,sc (.bool false),ic (Z F)] z fun r z'=>(∃A ida cA,r=tp [sl ida (Z A) cA,sc (.bool true)]/\E6 A cA/\Ze false [] F (Z F) A)/\AE z z':=fun z=>(Q3 false [] [] 1 F cF idf (Z F) rfl (by simp) hF AA (AR _) (fun x hx=>by cases hx) z).mono fun r z' ⟨h1,h2⟩=>by
  rcases h1 with h|⟨-,h⟩
  ·exact⟨h,h2⟩
  ·exact absurd h VE
 have ao:∀(lim:Nat) (L:List AB) (ys:List AV) (i4:Nat) (A:List AC) (cA:List AV) (ida:Nat),EL AN L ys->Z L<=1000->E6 A cA->lim<=600->Z A<=lim->(∀x∈L,x∈l/\x.o=false)->∀z,AF Tryz.prog 116 [sl i4 (Z L) ys,sl ida (Z A) cA,sc (.bool false),ic lim] z fun r z'=>∃A' ida' cA' ok,r=tp [sl ida' (Z A') cA',sc (.bool ok)]/\((ok=true/\E6 A' cA'/\Ze false L A lim A')\/(ok=false/\A'=[]/\eP false L A lim))/\AE z z':=fun lim L ys i4 A cA ida h1 h2 h3 h4 h5 h6 z=>(Q3 false L ys i4 A cA ida lim h1 h2 h3 AA h5 (fun x hx=>az lim h4 x (h6 x hx).1 (h6 x hx).2) z).mono fun r z' ⟨h1,h2⟩=>by
  rcases h1 with⟨A,ida,cA,e,h3,h4⟩|⟨e,h3⟩
  ·exact⟨A,ida,cA,true,e,.inl ⟨rfl,h3,h4⟩,h2⟩
  ·exact⟨[],1,[],false,e,.inr ⟨rfl,rfl,h3⟩,h2⟩
 clear az hr;refine Z9 82 [.tmp 6,.tmp 7,.tmp 8] Tryz.func67 ?_
 refine qb ?_;intro yd yb;refine Xi (a6 _) ?_;rintro _ _ ⟨⟨A0,id0,c0,rfl,a5,ap⟩,bg⟩;(have bu:=ap.len;have bm:AD _:=a5;have bb:AD _:=ap;clear a5 ap);refine pz ?_
 rename_i z1;clear a6
 refine Ae (fun m s z'=>∃(k:Nat) (A:List AC) (ida:Nat) (cA:List AV),m=Z l+1-k/\k<=Z l+1/\s 0=sl idl (Z l) cs/\s 2=ic n/\s 9=sl ida (Z A) cA/\s 11=ic ((Z A0+n:Nat):Int)/\s 12=ic k/\AE z z'/\Z A<=Z A0+n/\AD (E6 A cA/\KA l (Z A0+n) A0 k A)) (Z l+1)
  ⟨0,A0,id0,c0,AA,AA,by simp[upd,AM],by simp[upd,AM],AG,AG,AG,bg,AA,bm.o,.zero⟩ ?_
 rintro m s z' ⟨k,A,ida,cA,rfl,hk,h0,h2,h9,av,au,hK,a8,hA⟩;have ax:=hK.B;by_cases a0:k<=Z l
 ·have a3:decide ((k:Int)<=(Z l:Int))=true:=by simpa using a0
  refine pz ?_
  refine Ae (fun m s z'=>∃(i i4:Nat) (L:List AB) (ys:List AV),m=Z l-i/\i<=Z l/\s 0=sl idl (Z l) cs/\s 2=ic n/\s 9=sl ida (Z A) cA/\s 11=ic ((Z A0+n:Nat):Int)/\s 12=ic k/\s 13=sl i4 (Z L) ys/\s 14=ic i/\AE z z'/\Own z z' i4 (Z L)/\Z ys=Z L*5/\Z L<=i/\AD (L=(l.take i).filter (sB l k)/\EL AN L ys)) (Z l)
   ⟨0,1,[],[],AA,AA,by simp[upd,h0],by simp[upd,h2],by simp[upd,h9],by simp[upd,av],by simp[upd,au],AG,AG,hK,Own.nil _ _,rfl,by simp,by simp,rfl⟩ ?_
  clear h0 h2 h9 av au hK ax a3;rintro m s z' ⟨i,i4,L,ys,rfl,hi,h0,h2,h9,av,au,bw,bv,hK,hO,bn,bp,hL⟩;have ax:=hK.B;by_cases am:i<Z l
  ·have ac:=AJ am;obtain⟨jh,jd,jb,r2,a4,be⟩:=Ds hE ac;generalize l[i]=y at ac a4 be;have af:AD _:=VI (k:=k) ac;clear ac;have ad:=fun z=>Zp l cs idl y.h.B hE hl hf z;have ay:Bp l y.h.B<=100000000:=by
    unfold Bp;split
    ·rename_i d hd;have:=NI hd;have hm:=LK hd;rw[KV]at hm;omega
    ·omega
   cases ab:y.o with
   |true=>
    have HN:AD (L=(l.take (i+1)).filter (sB l k)/\EL AN L ys):=⟨by rw[af.o,if_neg (by simp[sB,ab]),FA];exact hL.o.1,hL.o.2⟩;clear af hL
    refine pz ?_
    refine⟨Z l-(i+1),AA,i+1,i4,L,ys,?_⟩
    exact qh HN
   |false=>
    by_cases ai:Bp l y.h.B=k
    ·have an:((Bp l y.h.B:Int)==(k:Int))=true:=by simp;omega
     have HN:AD (L++[y]=(l.take (i+1)).filter (sB l k)/\EL AN (L++[y]) (ys++[sc (.bool y.o),sc (.bool y.h.nt),str y.h.B,sl jh (Z y.h.A) (y.h.A.map str),sl jd (Z y.A) jb])):=⟨by rw[af.o,if_pos (by simp[sB,ab,ai]),hL.o.1],EL.append hL.o.2 (EL.single ⟨[sc (.bool y.h.nt),str y.h.B,sl jh (Z y.h.A) (y.h.A.map str)],jd,jb,⟨jh,rfl⟩,a4,rfl⟩)⟩;rw[ab]at HN;clear af hL ai;generalize Bp l y.h.B=st at ad an ay
     refine qb ?_;intro yd yb;refine Xi (ad _) ?_;rintro _ _ ⟨rfl,ae⟩;(have hK:=hK.trans ae;have hO:=Own.keep hO ae);refine qd ?_;intro yd yb;intro idn zn bf bq bl ba bi a9;refine pz ?_
     refine⟨Z l-(i+1),AA,i+1,idn,L++[y],ys++[sc (.bool false),sc (.bool y.h.nt),str y.h.B,sl jh (Z y.h.A) (y.h.A.map str),sl jd (Z y.A) jb],?_⟩
     ((repeat' refine Zi ?_ ?_)<;>first|exact Xq|exact HN|exact (by rw[AX];exact bf)|exact Xs)
    ·have an:((Bp l y.h.B:Int)==(k:Int))=false:=by simp;omega
     have HN:AD (L=(l.take (i+1)).filter (sB l k)/\EL AN L ys):=⟨by rw[af.o,if_neg (by simp[sB,ab,ai]),FA];exact hL.o.1,hL.o.2⟩;clear af hL ai;generalize Bp l y.h.B=st at ad an ay
     refine qb ?_;intro yd yb;refine Xi (ad _) ?_;rintro _ _ ⟨rfl,ae⟩;(have hK:=hK.trans ae;have hO:=Own.keep hO ae);refine pz ?_
     refine⟨Z l-(i+1),AA,i+1,i4,L,ys,?_⟩
     exact qh HN
  ·have hil:i=Z l:=AA;subst hil;obtain⟨aj,a7⟩:=hL.o;rw[AS]at aj;have ao:=ao (Z A0+n) L ys i4 A cA ida a7 AA hA.o.1 AA a8 fun x hx=>by
    rw[aj]at hx;exact⟨(M8 hx).1,(M8 hx).2.1⟩
   have aw:AD (L=Zf l k):=aj;clear aj a7 hL
   repeat' first|refine Z1 ?_|refine Z8 fun yd yb=>?_|refine Z4 ?_;clear yb yd|refine Z2 ?_ ?_<;>intro h aa<;>try exact Xp|(refine Z5 ?_;refine Xi (ao _) ?_;rintro _ _ ⟨A',ida',cA',ok,rfl,ak,ae⟩;(rcases ak with⟨rfl,hT,hS⟩|⟨rfl,rfl,hS⟩<;>have HS:AD _:=hS<;>clear hS))|refine Z3 ?_|exact Zt|apply yb.o;clear yb yd
   ·have bh:=HS.o.len;have HN:AD (E6 A' cA'/\KA l (Z A0+n) A0 (k+1) A'):=⟨hT,.succ hA.o.2 (by rw[<-aw.o];exact HS.o)⟩;clear HS aw hT;refine⟨Z l+1-(k+1),AA,k+1,A',ida',cA',?_⟩
    exact qi HN (hK.trans ae)
   ·have HR:NN l F n [] 0 false:=⟨A0,bb.o,.inr ⟨rfl,rfl,k,A,a0,hA.o.2,by rw[<-aw.o];exact HS.o⟩⟩;exact⟨_,rfl,[],1,[],0,false,rfl,HR,(by intro h;cases h),hK.trans ae⟩
 ·have a3:decide ((k:Int)<=(Z l:Int))=false:=by simp;omega
  have bd:k=Z l+1:=AA;subst bd;have HR:AD (NN l F n A ((Z A:Int)-Z A0) true):=⟨A0,bb.o,.inl ⟨rfl,hA.o.2,a8,rfl⟩⟩;have HT:AD (E6 A cA):=hA.o.1;have ah:(Z A:Int)-(((Z A0+n:Nat):Int)-(n:Int))=(Z A:Int)-Z A0:=AA;clear hA
  refine pz ?_
  first|exact⟨_,rfl,A,ida,cA,_,true,rfl,HR.o,fun _=>HT.o,hK⟩|exact⟨_,rfl,A,ida,cA,_,true,rfl,HR.o,fun _=>HT.o⟩|exact⟨_,rfl,A,ida,cA,(Z A:Int)-Z A0,true,by simp[ah],HR.o,fun _=>HT.o⟩|exact⟨_,rfl,A,ida,cA,(Z A:Int)-Z A0,true,by simp[ah],HR.o,fun _=>HT.o,hK⟩
end Go.Proofs.YtmoeoppbmhfbpabGreatDoorI
