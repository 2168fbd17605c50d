import Derived.Test.YtmoeoppbmhfbpaaGreatDoorHDrnA
import Derived.Test.YtmoeoppbmhfbpaaGreatDoorHStrC
import Derived.Test.YtmoeoppbmhfbpaaGreatDoorHNegA
set_option maxHeartbeats 64000000
set_option maxRecDepth 100000
set_option linter.all false
namespace Go.Proofs.YtmoeoppbmhfbpaaGreatDoorH
open Go.Abs
theorem Yl (ar:Tx->Nat)(A:List RAtom)(cA:List AV)(ida:Nat)(p:Tx)(hE:EL Be A cA)(hl:A.length<=1000)(hg:∀a∈A,Gf ar a)(hp:∀a∈A,0<a.terms.length/\short a)(hn:A.Nodup)(u:St):
  ACalls Tryz.prog 92 [sl ida A.length cA,str p] u fun r u'=>r=str ((D2 (Jn (A.map Gi) p)).flatMap (Cs p))/\Keep u u':=by
 have bz:=EL.length Ba hE;have b0:({data:=#[]}:ByteArray)=bs []:=rfl;have br:({data:=#[46]}:ByteArray)=bs [46]:=rfl;refine Z9 72 [.tmp 4] Tryz.func92 ?_
 repeat' (first|refine Z1 ?_|(refine Z8 ?_;intro ya J)|(refine Z4 ?_;clear J ya)|(refine Z2 ?_ ?_<;>intro h aa<;>try exact Xp)|refine Z7 ?_|exact Zt|(apply J.out;clear J ya))
 refine Ab (fun m s u'=>∃(K:List RAtom) (la:Int) (acc:Tx),m=A.length+1-K.length/\s 0=sl ida A.length cA/\s 1=str p/\s 5=str acc/\s 6=ic la/\s 7=ic K.length/\Keep u u'/\acc.length<=K.length*10000/\K.length<=A.length/\Ad8 (LsI A p la K/\acc=K.flatMap fun b=>Cs p (Gi b).2)) (A.length+1)
  ⟨[],-1,[],by simp,by simp[upd,initS],by simp[upd,initS],Ad4,Ad4,Ad4,Keep.refl _,by simp,by simp,⟨by simp,by simp,.inl ⟨rfl,rfl⟩,fun b hb hp=>.inr (by simp)⟩,rfl⟩ ?_
 rintro m s u' ⟨K,la,acc,rfl,h0,h1,h5,h6,h7,hK,b2,bu,hA⟩;have bo:decide ((K.length:Int)<=(A.length:Int))=true:=by simpa using bu
 repeat' (first|refine Z1 ?_|(refine Z8 ?_;intro ya J)|(refine Z4 ?_;clear J ya)|(refine Z2 ?_ ?_<;>intro h aa<;>try exact Xp)|refine Z7 ?_|exact Zt|(apply J.out;clear J ya))
 refine Ab (fun m s u'=>∃(i:Nat) (nx:Int),m=A.length-i/\i<=A.length/\s 0=sl ida A.length cA/\s 1=str p/\s 5=str acc/\s 6=ic la/\s 7=ic K.length/\s 8=ic nx/\s 9=ic i/\Keep u u'/\Ad8 (NxI A p la i nx)) A.length
  ⟨0,-1,Ad2,Ad2,by simp[upd,h0],by simp[upd,h1],by simp[upd,h5],by simp[upd,h6],by simp[upd,h7],Ad4,Ad4,hK,.inl ⟨rfl,fun b hb=>by simp at hb⟩⟩ ?_
 clear h0 h1 h5 h6 h7 hK bo;rintro m s u' ⟨i,nx,rfl,hi,h0,h1,h5,h6,h7,h8,h9,hK,hN⟩;have bv:=hK.nobj;have ap:Ad8 (∀(j:Nat) (b:RAtom),nx=j->A[j]?=some b->b.pred=p):=fun j b e hb=>by
  rcases hN.out with⟨h1,-⟩|⟨j',b',h1,h2,h3,-⟩
  ·omega
  ·have:j'=j:=Ad2;subst this;rw[hb]at h2;cases h2;exact h3.1
 have ad:nx= -1\/∃(j:Nat) (b:RAtom),nx=j/\A[j]?=some b:=by
  rcases hN.out with⟨h1,-⟩|⟨j',b',h1,h2,-⟩
  ·exact .inl h1
  ·exact .inr ⟨j',b',h1,h2⟩
 by_cases be:i<A.length
 ·have ab:=Aav be;obtain⟨ia,r,hd⟩:=B8 hE ab;have ao:=Ab1 be;generalize A[i]=w at hd ab ao;by_cases af:w.pred=p
  ·have b1:(w.pred !=p)=false:=by simpa using af
   have b1':(w.pred==p)=true:=by simpa using af
   rcases hA.out.1.las with⟨a8,a9⟩|⟨j0,d,K0,a8,aw,a9⟩
   ·have HC:Ad8 (pF A p la w):=⟨af,.inl a8⟩;have am:Ad8 ((nx= -1\/∃(j:Nat) (b:RAtom),nx=j/\A[j]?=some b/\Nz w b=true)->NxI A p la (i+1) (i:Nat)):=fun h=>hN.out.new ab HC.out h;have ay:Ad8 (∀(j:Nat) (b:RAtom),nx=j->A[j]?=some b->Nz w b=false->NxI A p la (i+1) (j:Nat)):=fun j b e hb hl=>(e ▸ hN.out).keep ab hb hl;subst a8;have bh:decide ((-1:Int)>=0)=false:=by decide
    have bg:decide ((0:Int)<= -1)=false:=by decide
    clear ab HC
    repeat' (first|refine Z1 ?_|(refine Z8 ?_;intro ya J)|(refine Z4 ?_;clear J ya)|(refine Z2 ?_ ?_<;>intro h aa<;>try exact Xp)|refine Z7 ?_|exact Zt|(apply J.out;clear J ya))
    refine A6 (Q:=fun e s' u''=>e= .normal/\s' 44=sc (.bool false)/\s' 0=s 0/\s' 1=s 1/\s' 5=s 5/\s' 6=s 6/\s' 7=s 7/\s' 8=s 8/\s' 9=s 9/\Keep u' u'') ?_ ?_
    ·refine As Ad (fun _=>True) [] [0,1,2,3,4,5,6,7,8,9,10,11,12,13,14,15,16,17,18] 4 #[true,true,true,true,true,true,true,true,true,true,true,true,true,true,true,true,true,true,true,false,false,false,false] Ad5 (fun _ _ _ h=>by cases h.1) ?_;intro ya J;refine Z7 ?_;refine J.out _ ?_;clear J ya;refine Ah (i:=19) Ad5 ?_;refine Ao ?_;intro ya J;refine Z7 ?_;refine J.out _ _ ⟨kept_refl,?_⟩;clear J ya;refine Bs [20,21,22] Ad5 Ad5 (fun _ _ _ h=>by cases h.1) (Aak _) (fun o ho _=>rfl) ?_;intro ya J;refine Z7 ?_;refine J.out _ _ ⟨rfl,?_⟩;simp[upd,Keep.refl]
    ·
     rintro e s' u'' ⟨rfl,g44,g0,g1,g5,g6,g7,g8,g9,ak⟩;rw[h0]at g0;rw[h1]at g1;rw[h5]at g5;rw[h6]at g6;rw[h7]at g7;rw[h8]at g8;rw[h9]at g9;have ai:=hK.trans ak;have knoc:=ai.nobj;refine Ci g44 ?_;clear h0 h1 h5 h6 h7 h8 h9 hK ak g44;rcases ad with a5|⟨j,b,a4,ac⟩
     ·subst a5;have an:Ad8 _:=am.out (.inl rfl);have a6:decide ((-1:Int)<0)=true:=by decide
      clear am ay
      repeat' (first|refine Z1 ?_|(refine Z8 ?_;intro ya J)|(refine Z4 ?_;clear J ya)|(refine Z2 ?_ ?_<;>intro h aa<;>try exact Xp)|refine Z7 ?_|exact Zt|(apply J.out;clear J ya))
      refine A6 (Q:=fun e s1 u3=>e= .normal/\s1 57=sc (.bool true)/\s1 0=s' 0/\s1 1=s' 1/\s1 5=s' 5/\s1 6=s' 6/\s1 7=s' 7/\s1 8=s' 8/\s1 9=s' 9/\Keep u'' u3) ?_ ?_
      ·refine As Ad (fun _=>True) [] [0,1,2,3,4,5,6,7,8,9,10] 2 #[true,true,true,true,true,true,true,true,true,true,true,false,false] Ad5 (fun _ _ _ h=>by cases h.1) ?_;intro ya J;refine Z7 ?_;refine J.out _ ?_;clear J ya;refine Ah (i:=11) Ad5 ?_;refine Ao ?_;intro ya J;refine Z7 ?_;refine J.out _ _ ⟨kept_refl,?_⟩;clear J ya;refine Bs [12] Ad5 Ad5 (fun _ _ _ h=>by cases h.1) (Aak _) (fun o ho _=>rfl) ?_;intro ya J;refine Z7 ?_;refine J.out _ _ ⟨rfl,?_⟩;simp[upd,Keep.refl]
      ·rintro e s1 u3 ⟨rfl,k57,k0,k1,k5,k6,k7,k8,k9,aj⟩;rw[g0]at k0;rw[g1]at k1;rw[g5]at k5;rw[g6]at k6;rw[g7]at k7;rw[g8]at k8;rw[g9]at k9;refine Br k57 ?_
       repeat' (first|refine Z1 ?_|(refine Z8 ?_;intro ya J)|(refine Z4 ?_;clear J ya)|(refine Z2 ?_ ?_<;>intro h aa<;>try exact Xp)|refine Z7 ?_|exact Zt|(apply J.out;clear J ya))
       refine⟨A.length-(i+1),Ad2,i+1,(i:Nat),?_⟩
       ((repeat' refine Zi ?_ ?_)<;>first|exact Xq|exact an|exact (ai.trans aj)|exact Xs)
     ·subst a4;have bf:=(Aau.1 ac).1;obtain⟨ja,r2,bj⟩:=B8 hE ac;have ah:=Aax ac;have ax:=fun u=>Md w b _ _ ⟨ia,rfl⟩ ⟨ja,rfl⟩ (by rw[(hg w ao).ln,(hg b ah).ln,af,ap.out j b rfl ac];exact Aak _) (by have:=(hg b ah).le;omega) u;rw[iN (hg w ao) (hg b ah) (by rw[af,ap.out j b rfl ac]),af]at ax;have a6:decide ((j:Int)<0)=false:=by simp
      have HL:Ad8 (Nz w b=Cy (Gi w).2 (Gi b).2):=rfl;have an:Ad8 (Nz w b=true->_):=fun h=>am.out (.inr ⟨j,b,rfl,ac,h⟩);have a7:Ad8 (Nz w b=false->_):=fun h=>ay.out j b rfl ac h;clear am ay ac ah;generalize Cy (Gi w).2 (Gi b).2=lb at ax HL;rw[HL.out]at an a7;clear HL
      repeat' (first|refine Z1 ?_|(refine Z8 ?_;intro ya J)|(refine Z4 ?_;clear J ya)|(refine Z2 ?_ ?_<;>intro h aa<;>try exact Xp)|refine Z7 ?_|exact Zt|(apply J.out;clear J ya))
      refine A6 (Q:=fun e s1 u3=>e= .normal/\s1 57=sc (.bool lb)/\s1 0=s' 0/\s1 1=s' 1/\s1 5=s' 5/\s1 6=s' 6/\s1 7=s' 7/\s1 8=s' 8/\s1 9=s' 9/\Keep u'' u3) ?_ ?_
      ·refine As Ad (fun _=>True) [] [0,1,2,3,4,5,6,7,8,9,10] 2 #[true,true,true,true,true,true,true,true,true,true,true,false,false] Ad5 (fun _ _ _ h=>by cases h.1) ?_;intro ya J;refine Z7 ?_;refine J.out _ ?_;clear J ya;refine Ah (i:=11) Ad5 ?_;refine Ao ?_;intro ya J;refine Z7 ?_;refine ACalls.mono (ax _) ?_;rintro _ u5 ⟨rfl,ae⟩;refine Z7 ?_;refine J.out _ _ ⟨Ap ae,?_⟩;clear J ya;refine Bs [12] Ad5 Ad5 (fun _ _ _ h=>by cases h.1) ae.nobj (fun o ho _=>ae.ver o ho) ?_;intro ya J;refine Z7 ?_;refine J.out _ _ ⟨rfl,?_⟩;simp[upd,ae]
      ·rintro e s1 u3 ⟨rfl,k57,k0,k1,k5,k6,k7,k8,k9,aj⟩;rw[g0]at k0;rw[g1]at k1;rw[g5]at k5;rw[g6]at k6;rw[g7]at k7;rw[g8]at k8;rw[g9]at k9;cases lb with
       |true=>
        have az:Ad8 _:=an.out rfl;refine Br k57 ?_
        repeat' (first|refine Z1 ?_|(refine Z8 ?_;intro ya J)|(refine Z4 ?_;clear J ya)|(refine Z2 ?_ ?_<;>intro h aa<;>try exact Xp)|refine Z7 ?_|exact Zt|(apply J.out;clear J ya))
        refine⟨A.length-(i+1),Ad2,i+1,(i:Nat),?_⟩
        ((repeat' refine Zi ?_ ?_)<;>first|exact Xq|exact az|exact (ai.trans aj)|exact Xs)
       |false=>
        have az:Ad8 _:=a7.out rfl;refine Ci k57 ?_
        repeat' (first|refine Z1 ?_|(refine Z8 ?_;intro ya J)|(refine Z4 ?_;clear J ya)|(refine Z2 ?_ ?_<;>intro h aa<;>try exact Xp)|refine Z7 ?_|exact Zt|(apply J.out;clear J ya))
        refine⟨A.length-(i+1),Ad2,i+1,(j:Nat),?_⟩
        ((repeat' refine Zi ?_ ?_)<;>first|exact Xq|exact az|exact (ai.trans aj)|exact Xs)
   ·subst a8;have bi:=Aax aw;have bd:d.pred=p:=(hA.out.1.mem d (by rw[a9];simp)).2;obtain⟨ja0,r0,bq⟩:=B8 hE aw;have bw:=(Aau.1 aw).1;have a3:=fun u=>Md d w _ _ ⟨ja0,rfl⟩ ⟨ia,rfl⟩ (by rw[(hg w ao).ln,(hg d bi).ln,af,bd];exact Aak _) (by have:=(hg w ao).le;omega) u;rw[iN (hg d bi) (hg w ao) (by rw[af,bd]),af,bd]at a3;have bh:decide ((j0:Int)>=0)=true:=by simp
    have bg:decide ((0:Int)<=(j0:Int))=true:=by simp
    cases a0:Cy (Gi d).2 (Gi w).2 with
    |true=>
     have HC:Ad8 (pF A p (j0:Nat) w):=⟨af,.inr ⟨j0,d,rfl,aw,a0⟩⟩;have am:Ad8 ((nx= -1\/∃(j:Nat) (b:RAtom),nx=j/\A[j]?=some b/\Nz w b=true)->NxI A p (j0:Nat) (i+1) (i:Nat)):=fun h=>hN.out.new ab HC.out h;have ay:Ad8 (∀(j:Nat) (b:RAtom),nx=j->A[j]?=some b->Nz w b=false->NxI A p (j0:Nat) (i+1) (j:Nat)):=fun j b e hb hl=>(e ▸ hN.out).keep ab hb hl;rw[a0]at a3;clear ab HC aw a0 a9
     repeat' (first|refine Z1 ?_|(refine Z8 ?_;intro ya J)|(refine Z4 ?_;clear J ya)|(refine Z2 ?_ ?_<;>intro h aa<;>try exact Xp)|refine Z7 ?_|exact Zt|(apply J.out;clear J ya))
     refine A6 (Q:=fun e s' u''=>e= .normal/\s' 44=sc (.bool false)/\s' 0=s 0/\s' 1=s 1/\s' 5=s 5/\s' 6=s 6/\s' 7=s 7/\s' 8=s 8/\s' 9=s 9/\Keep u' u'') ?_ ?_
     ·refine As Ad (fun _=>True) [] [0,1,2,3,4,5,6,7,8,9,10,11,12,13,14,15,16,17,18] 4 #[true,true,true,true,true,true,true,true,true,true,true,true,true,true,true,true,true,true,true,false,false,false,false] Ad5 (fun _ _ _ h=>by cases h.1) ?_;intro ya J;refine Z7 ?_;refine J.out _ ?_;clear J ya;refine Ah (i:=19) Ad5 ?_;refine Ao ?_;intro ya J;refine Z7 ?_;refine ACalls.mono (a3 _) ?_;rintro _ u5 ⟨rfl,ae⟩;refine Z7 ?_;refine J.out _ _ ⟨Ap ae,?_⟩;clear J ya;refine Bs [20,21,22] Ad5 Ad5 (fun _ _ _ h=>by cases h.1) ae.nobj (fun o ho _=>ae.ver o ho) ?_;intro ya J;refine Z7 ?_;refine J.out _ _ ⟨rfl,?_⟩;simp[upd,ae]
     ·clear a3 bq bh bg;rintro e s' u'' ⟨rfl,g44,g0,g1,g5,g6,g7,g8,g9,ak⟩;rw[h0]at g0;rw[h1]at g1;rw[h5]at g5;rw[h6]at g6;rw[h7]at g7;rw[h8]at g8;rw[h9]at g9;have ai:=hK.trans ak;have knoc:=ai.nobj;refine Ci g44 ?_;clear h0 h1 h5 h6 h7 h8 h9 hK ak g44;rcases ad with a5|⟨j,b,a4,ac⟩
      ·subst a5;have an:Ad8 _:=am.out (.inl rfl);have a6:decide ((-1:Int)<0)=true:=by decide
       clear am ay
       repeat' (first|refine Z1 ?_|(refine Z8 ?_;intro ya J)|(refine Z4 ?_;clear J ya)|(refine Z2 ?_ ?_<;>intro h aa<;>try exact Xp)|refine Z7 ?_|exact Zt|(apply J.out;clear J ya))
       refine A6 (Q:=fun e s1 u3=>e= .normal/\s1 57=sc (.bool true)/\s1 0=s' 0/\s1 1=s' 1/\s1 5=s' 5/\s1 6=s' 6/\s1 7=s' 7/\s1 8=s' 8/\s1 9=s' 9/\Keep u'' u3) ?_ ?_
       ·refine As Ad (fun _=>True) [] [0,1,2,3,4,5,6,7,8,9,10] 2 #[true,true,true,true,true,true,true,true,true,true,true,false,false] Ad5 (fun _ _ _ h=>by cases h.1) ?_;intro ya J;refine Z7 ?_;refine J.out _ ?_;clear J ya;refine Ah (i:=11) Ad5 ?_;refine Ao ?_;intro ya J;refine Z7 ?_;refine J.out _ _ ⟨kept_refl,?_⟩;clear J ya;refine Bs [12] Ad5 Ad5 (fun _ _ _ h=>by cases h.1) (Aak _) (fun o ho _=>rfl) ?_;intro ya J;refine Z7 ?_;refine J.out _ _ ⟨rfl,?_⟩;simp[upd,Keep.refl]
       ·rintro e s1 u3 ⟨rfl,k57,k0,k1,k5,k6,k7,k8,k9,aj⟩;rw[g0]at k0;rw[g1]at k1;rw[g5]at k5;rw[g6]at k6;rw[g7]at k7;rw[g8]at k8;rw[g9]at k9;refine Br k57 ?_
        repeat' (first|refine Z1 ?_|(refine Z8 ?_;intro ya J)|(refine Z4 ?_;clear J ya)|(refine Z2 ?_ ?_<;>intro h aa<;>try exact Xp)|refine Z7 ?_|exact Zt|(apply J.out;clear J ya))
        refine⟨A.length-(i+1),Ad2,i+1,(i:Nat),?_⟩
        ((repeat' refine Zi ?_ ?_)<;>first|exact Xq|exact an|exact (ai.trans aj)|exact Xs)
      ·subst a4;have bf:=(Aau.1 ac).1;obtain⟨ja,r2,bj⟩:=B8 hE ac;have ah:=Aax ac;have ax:=fun u=>Md w b _ _ ⟨ia,rfl⟩ ⟨ja,rfl⟩ (by rw[(hg w ao).ln,(hg b ah).ln,af,ap.out j b rfl ac];exact Aak _) (by have:=(hg b ah).le;omega) u;rw[iN (hg w ao) (hg b ah) (by rw[af,ap.out j b rfl ac]),af]at ax;have a6:decide ((j:Int)<0)=false:=by simp
       have HL:Ad8 (Nz w b=Cy (Gi w).2 (Gi b).2):=rfl;have an:Ad8 (Nz w b=true->_):=fun h=>am.out (.inr ⟨j,b,rfl,ac,h⟩);have a7:Ad8 (Nz w b=false->_):=fun h=>ay.out j b rfl ac h;clear am ay ac ah;generalize Cy (Gi w).2 (Gi b).2=lb at ax HL;rw[HL.out]at an a7;clear HL
       repeat' (first|refine Z1 ?_|(refine Z8 ?_;intro ya J)|(refine Z4 ?_;clear J ya)|(refine Z2 ?_ ?_<;>intro h aa<;>try exact Xp)|refine Z7 ?_|exact Zt|(apply J.out;clear J ya))
       refine A6 (Q:=fun e s1 u3=>e= .normal/\s1 57=sc (.bool lb)/\s1 0=s' 0/\s1 1=s' 1/\s1 5=s' 5/\s1 6=s' 6/\s1 7=s' 7/\s1 8=s' 8/\s1 9=s' 9/\Keep u'' u3) ?_ ?_
       ·refine As Ad (fun _=>True) [] [0,1,2,3,4,5,6,7,8,9,10] 2 #[true,true,true,true,true,true,true,true,true,true,true,false,false] Ad5 (fun _ _ _ h=>by cases h.1) ?_;intro ya J;refine Z7 ?_;refine J.out _ ?_;clear J ya;refine Ah (i:=11) Ad5 ?_;refine Ao ?_;intro ya J;refine Z7 ?_;refine ACalls.mono (ax _) ?_;rintro _ u5 ⟨rfl,ae⟩;refine Z7 ?_;refine J.out _ _ ⟨Ap ae,?_⟩;clear J ya;refine Bs [12] Ad5 Ad5 (fun _ _ _ h=>by cases h.1) ae.nobj (fun o ho _=>ae.ver o ho) ?_;intro ya J;refine Z7 ?_;refine J.out _ _ ⟨rfl,?_⟩;simp[upd,ae]
       ·rintro e s1 u3 ⟨rfl,k57,k0,k1,k5,k6,k7,k8,k9,aj⟩;rw[g0]at k0;rw[g1]at k1;rw[g5]at k5;rw[g6]at k6;rw[g7]at k7;rw[g8]at k8;rw[g9]at k9;cases lb with
        |true=>
         have az:Ad8 _:=an.out rfl;refine Br k57 ?_
         repeat' (first|refine Z1 ?_|(refine Z8 ?_;intro ya J)|(refine Z4 ?_;clear J ya)|(refine Z2 ?_ ?_<;>intro h aa<;>try exact Xp)|refine Z7 ?_|exact Zt|(apply J.out;clear J ya))
         refine⟨A.length-(i+1),Ad2,i+1,(i:Nat),?_⟩
         ((repeat' refine Zi ?_ ?_)<;>first|exact Xq|exact az|exact (ai.trans aj)|exact Xs)
        |false=>
         have az:Ad8 _:=a7.out rfl;refine Ci k57 ?_
         repeat' (first|refine Z1 ?_|(refine Z8 ?_;intro ya J)|(refine Z4 ?_;clear J ya)|(refine Z2 ?_ ?_<;>intro h aa<;>try exact Xp)|refine Z7 ?_|exact Zt|(apply J.out;clear J ya))
         refine⟨A.length-(i+1),Ad2,i+1,(j:Nat),?_⟩
         ((repeat' refine Zi ?_ ?_)<;>first|exact Xq|exact az|exact (ai.trans aj)|exact Xs)
    |false=>
     have HN:Ad8 (NxI A p (j0:Nat) (i+1) nx):=hN.out.skip ab fun hc=>by
      rcases hc.2 with h|⟨j',c,e1,e2,e3⟩
      ·omega
      ·have:j'=j0:=Ad2;subst this;rw[aw]at e2;cases e2;unfold Nz at e3;rw[a0]at e3;cases e3
     rw[a0]at a3;clear ab aw a0 a9 ap ad hN
     repeat' (first|refine Z1 ?_|(refine Z8 ?_;intro ya J)|(refine Z4 ?_;clear J ya)|(refine Z2 ?_ ?_<;>intro h aa<;>try exact Xp)|refine Z7 ?_|exact Zt|(apply J.out;clear J ya))
     refine A6 (Q:=fun e s' u''=>e= .normal/\s' 44=sc (.bool true)/\s' 0=s 0/\s' 1=s 1/\s' 5=s 5/\s' 6=s 6/\s' 7=s 7/\s' 8=s 8/\s' 9=s 9/\Keep u' u'') ?_ ?_
     ·refine As Ad (fun _=>True) [] [0,1,2,3,4,5,6,7,8,9,10,11,12,13,14,15,16,17,18] 4 #[true,true,true,true,true,true,true,true,true,true,true,true,true,true,true,true,true,true,true,false,false,false,false] Ad5 (fun _ _ _ h=>by cases h.1) ?_;intro ya J;refine Z7 ?_;refine J.out _ ?_;clear J ya;refine Ah (i:=19) Ad5 ?_;refine Ao ?_;intro ya J;refine Z7 ?_;refine ACalls.mono (a3 _) ?_;rintro _ u5 ⟨rfl,ae⟩;refine Z7 ?_;refine J.out _ _ ⟨Ap ae,?_⟩;clear J ya;refine Bs [20,21,22] Ad5 Ad5 (fun _ _ _ h=>by cases h.1) ae.nobj (fun o ho _=>ae.ver o ho) ?_;intro ya J;refine Z7 ?_;refine J.out _ _ ⟨rfl,?_⟩;simp[upd,ae]
     ·
      rintro e s' u'' ⟨rfl,g44,g0,g1,g5,g6,g7,g8,g9,ak⟩;rw[h0]at g0;rw[h1]at g1;rw[h5]at g5;rw[h6]at g6;rw[h7]at g7;rw[h8]at g8;rw[h9]at g9;refine Br g44 ?_
      repeat' (first|refine Z1 ?_|(refine Z8 ?_;intro ya J)|(refine Z4 ?_;clear J ya)|(refine Z2 ?_ ?_<;>intro h aa<;>try exact Xp)|refine Z7 ?_|exact Zt|(apply J.out;clear J ya))
      refine⟨A.length-(i+1),Ad2,i+1,nx,?_⟩
      ((repeat' refine Zi ?_ ?_)<;>first|exact Xq|exact HN|exact (hK.trans ak)|exact Xs)
  ·have b1:(w.pred !=p)=true:=by simpa using af
   have b1':(w.pred==p)=false:=by simpa using af
   have HN:Ad8 (NxI A p la (i+1) nx):=hN.out.skip ab fun hc=>af hc.1;clear ab ap ad hN
   repeat' (first|refine Z1 ?_|(refine Z8 ?_;intro ya J)|(refine Z4 ?_;clear J ya)|(refine Z2 ?_ ?_<;>intro h aa<;>try exact Xp)|refine Z7 ?_|exact Zt|(apply J.out;clear J ya))
   refine A6 (Q:=fun e s' u''=>e= .normal/\s' 44=sc (.bool true)/\s' 0=s 0/\s' 1=s 1/\s' 5=s 5/\s' 6=s 6/\s' 7=s 7/\s' 8=s 8/\s' 9=s 9/\Keep u' u'') ?_ ?_
   ·refine As Ad (fun _=>True) [] [0,1,2,3,4,5,6,7,8,9,10,11,12,13,14,15,16,17,18] 4 #[true,true,true,true,true,true,true,true,true,true,true,true,true,true,true,true,true,true,true,false,false,false,false] Ad5 (fun _ _ _ h=>by cases h.1) ?_;intro ya J;refine Z7 ?_;refine J.out _ ?_;clear J ya;refine Ah (i:=19) Ad5 ?_;refine Ao ?_;intro ya J;refine Z7 ?_;refine J.out _ _ ⟨kept_refl,?_⟩;clear J ya;refine Bs [20,21,22] Ad5 Ad5 (fun _ _ _ h=>by cases h.1) (Aak _) (fun o ho _=>rfl) ?_;intro ya J;refine Z7 ?_;refine J.out _ _ ⟨rfl,?_⟩;simp[upd,Keep.refl]
   ·
    rintro e s' u'' ⟨rfl,g44,g0,g1,g5,g6,g7,g8,g9,ak⟩;rw[h0]at g0;rw[h1]at g1;rw[h5]at g5;rw[h6]at g6;rw[h7]at g7;rw[h8]at g8;rw[h9]at g9;refine Br g44 ?_
    repeat' (first|refine Z1 ?_|(refine Z8 ?_;intro ya J)|(refine Z4 ?_;clear J ya)|(refine Z2 ?_ ?_<;>intro h aa<;>try exact Xp)|refine Z7 ?_|exact Zt|(apply J.out;clear J ya))
    refine⟨A.length-(i+1),Ad2,i+1,nx,?_⟩
    ((repeat' refine Zi ?_ ?_)<;>first|exact Xq|exact HN|exact (hK.trans ak)|exact Xs)
 ·have bp:i=A.length:=Ad2;subst bp;rcases hN.out with⟨a5,bb⟩|⟨j,b,a4,ac,hc,av⟩
  ·subst a5;rw[Aa3]at bb;have HR:Ad8 (acc=(D2 (Jn (A.map Gi) p)).flatMap (Cs p)):=by
    rw[Ad8,hA.out.2,<-hA.out.1.done hg bb hn,List.flatMap_map]
   have a6:decide ((-1:Int)<0)=true:=by decide
   clear hA hN bb ap ad
   repeat' (first|refine Z1 ?_|(refine Z8 ?_;intro ya J)|(refine Z4 ?_;clear J ya)|(refine Z2 ?_ ?_<;>intro h aa<;>try exact Xp)|refine Z7 ?_|exact Zt|(apply J.out;clear J ya))
   first|exact⟨_,rfl,by rw[HR.out],hK⟩|exact⟨_,rfl,by rw[HR.out]⟩
  ·subst a4;rw[Aa3]at av;have ah:=Aax ac;have bf:=(Aau.1 ac).1;obtain⟨ja,r2,bj⟩:=B8 hE ac;have a6:decide ((j:Int)<0)=false:=by simp
   have au:=hA.out.1.more hg ac hc av;have bc:=au.len;simp only[Abj,Abv,Abu]at bc;have ba:=(hp b ah).2;have bn:(Gy [] b).length<=5000:=by
    have h1:=Q5 [] b.terms 0 ba.2.2;have h2:=(hg b ah).le;have h3:=ba.1;unfold Gy;rw[if_neg (by simp[(hg b ah).nt])];simp only[Abj,Abu,Abv];omega
   have HR:Ad8 (LsI A p (j:Nat) (K++[b])/\acc++Gy [] b++[46]=(K++[b]).flatMap fun b=>Cs p (Gi b).2):=⟨au,by
    rw[Ab7,<-hA.out.2,Abl,lS (hg b ah) (hp b ah).1,hc.1];simp⟩
   have bk:=fun u=>fO [] 1 b _ ⟨ja,rfl⟩ (by simp) ba u;generalize Gy [] b=wb at bk bn HR;clear hA hN av ap ad au hc ac ah
   repeat' (first|refine Z1 ?_|(refine Z8 ?_;intro ya J)|(refine Z4 ?_;clear J ya)|(refine Z2 ?_ ?_<;>intro h aa<;>try exact Xp)|(refine Z5 ?_;refine Xi (bk _) ?_;rintro _ _ ⟨rfl,bl⟩;(have bm:=bl.nobj))|refine Z7 ?_|exact Zt|(apply J.out;clear J ya))
   refine⟨A.length+1-(K++[b]).length,by simp;omega,K++[b],(j:Nat),acc++wb++[46],?_⟩
   ((repeat' refine Zi ?_ ?_)<;>first|exact Xq|exact HR|exact (hK.trans bl)|exact (by simp only[Abj,Abv,Abu];omega)|exact Xs)
def GX (lo:Nat)(u:St)(x:AV)(n:Nat)(pc:List AV):Prop:=∃o cap,x=gx o n cap/\0<cap/\n<=cap/\(u.obj o).length=cap*3/\(u.obj o).take (n*3)=pc/\lo<=o/\o<u.nobj
theorem GX.keep {lo:Nat}{u u':St}{x:AV}{n:Nat}{pc:List AV}(h:GX lo u x n pc)(k:Keep u u'):GX lo u' x n pc:=by
 obtain⟨o,cap,h1,h2,h3,h4,h5,h6,h7⟩:=h;have:=k.obj o h7;exact⟨o,cap,h1,h2,h3,by rw[this];exact h4,by rw[this];exact h5,h6,Aam h7 k.nobj⟩
theorem mD {P:Program}{t:TypeId}{b:Nat}{zc:List Value}{σ0 u:St}{id2 n lo:Nat}{x:AV}{xs ys:List AV}{K:AV->St->Prop}(ht:Ld P t=some (3,b,zc))(hzc:zc.length=3)(hy:ys.length=3)(hf:ys.all Abs.flat=true)(hb:(n+1)*b<=140737488355328)(hl:n+1<=1099511627776)
  (ac:lo<=u.nobj) (h0:σ0.nobj<=lo) (hK:Keep σ0 u) (hx:GX lo u x n xs) (h:∀x' u',GX lo u' x' (n+1) (xs++ys)->u.nobj<=u'.nobj->(∀p,p<lo->u'.obj p=u.obj p)->Keep σ0 u'->K x' u'):Gx P t t x (sl id2 1 ys) u K:=by
 obtain⟨o,cap,rfl,h2,h3,h4,h5,h6,h7⟩:=hx;refine wM (xs:=xs) ht Ad2 hzc Ad2 hf Ad2 hb hl h2 h3 h4 h5 (fun hc cs ab aa=>?_) (fun cap' cs ab hc aa=>?_)
 ·exact h _ _ ⟨_,_,rfl,Ad2,hc,by rw[Ak];exact ab,by rw[Ak];exact aa,h6,h7⟩ (Aak _) (fun p hp=>Dy Ad2) (hK.put Ad2 _)
 ·exact h _ _ ⟨_,_,rfl,Ad2,hc,by rw[Am];exact ab,by rw[Am];exact aa,ac,Ad6⟩ Ad6 (fun p hp=>Ai Ad2) (hK.new _)
theorem vY {L:List RAtom}{ss ob:List AV}(hE:EL Be L ss){k:Nat}{b:RAtom}(hk:L[k]?=some b)(aa:ob.take (L.length*3)=ss):∃ib r,ob.drop (k*3)=sc (.bool b.nt)::str b.pred::sl ib b.terms.length (b.terms.map str)::r:=by
 obtain⟨ib,r,hd⟩:=B8 hE hk;have ac:=(Aau.1 hk).1;have ab:=EL.length Ba hE;refine⟨ib,r++ob.drop (L.length*3),?_⟩
 conv=>lhs;rw[<-Ada (L.length*3) ob]
 rw[aa,List.drop_append,hd,show k*3-ss.length=0 by omega];simp
theorem nT:∀{F A:List RAtom} {i:Nat} {a:RAtom},F[i]?=some a->Gr (A++F.take i) (F.drop i)=((A++F.take i).any (clash a)||Gr (A++F.take (i+1)) (F.drop (i+1))):=fun {F A i a} h=>by
 obtain⟨h1,e1⟩:=Aau.1 h;rw[Abx h1,e1,Gr,Aa8,h];simp
def Ny (l:List RItem)(F:List RAtom):Int:=if Gr (l.flatMap Af) F=true then 3 else if F.any (fun a=>Dh l a.pred)=true then 8 else 0
theorem Yk (l:List RItem)(cs:List AV)(idl:Nat)(F:List RAtom)(cF:List AV)(idf:Nat)(hE:EL EItem l cs)(hl:l.length<=16)(hf:∀x∈l,x.fits)(hF:EL Be F cF)(bm:F.length<=1000)(u:St):
  ACalls Tryz.prog 89 [sl idl l.length cs,sl idf F.length cF] u fun r u'=>r=ic (Ny l F)/\Keep u u':=by
 have bk:=EL.length Cb hE;have bj:=EL.length Ba hF;refine Z9 95 [.tmp 4] Tryz.func89 ?_
 repeat' (first|refine Z1 ?_|(refine Z8 ?_;intro ya J)|(refine Z4 ?_;clear J ya)|(refine Z2 ?_ ?_<;>intro h ac<;>try exact Xp)|(refine Z6 ?_;intro idn un ah af ae ab ad aa)|refine Z3 ?_|exact Zt|(apply J.out;clear J ya))
 refine Ab (fun m s u'=>∃(i:Nat) (x:AV) (ss:List AV),m=l.length-i/\i<=l.length/\s 0=sl idl l.length cs/\s 1=sl idf F.length cF/\s 5=x/\s 6=ic i/\Keep u u'/\GX u.nobj u' x (Ca l i).length ss/\Ad8 (EL Be (Ca l i) ss)) l.length
  ⟨0,_,[],Ad2,Ad2,rfl,rfl,rfl,rfl,Xs,⟨u.nobj,8,rfl,Ad2,by simp[Ca],by first|rfl|(rw[Am];rfl)|simp[Am],by simp[Ca],Aak _,Ad6⟩,by simp[Ad8,Ca,EL]⟩ ?_
 rintro m s u' ⟨i,x5,ss,rfl,hi,h0,h1,h5,h6,hK,hX,hS⟩;have a7:=cT hf i;have ao:=hK.nobj;by_cases a0:i<l.length
 ·obtain⟨ih1,id1,b1,r1,a9,bf⟩:=Df hE (Aav a0);have a4:=hf l[i] (Ab1 a0);have HX:Ad8 (l[i]?=some l[i]):=Aav a0;generalize l[i]=y at a9 bf a4 HX;have bl:=a4.atoms;have av:Abs.flat x5=true:=by obtain⟨o,cap,rfl,-⟩:=hX;rfl
  repeat' (first|refine Z1 ?_|(refine Z8 ?_;intro ya J)|(refine Z4 ?_;clear J ya)|(refine Z2 ?_ ?_<;>intro h ac<;>try exact Xp)|(refine Z6 ?_;intro idn un ah af ae ab ad aa)|(refine Z5 ?_;refine Xi (Mz _ _ (EItem.of a9) (by have:=a4.1;omega) _) ?_;rintro _ _ ⟨ida,cs2,rfl,ba,a6⟩)|refine Z3 ?_|exact Zt|(apply J.out;clear J ya))
  rename_i u1;have bg:=EL.length Ba ba
  refine Ab (fun m s u'=>∃(j:Nat) (x:AV) (ss:List AV),m=(Af y).length-j/\j<=(Af y).length/\s 0=sl idl l.length cs/\s 1=sl idf F.length cF/\s 5=x/\s 6=ic i/\s 7=sl ida (Af y).length cs2/\s 8=ic j/\Keep u u'/\GX u.nobj u' x (Bh l y i j).length ss/\Ad8 (EL Be (Bh l y i j) ss)) (Af y).length
   ⟨0,x5,ss,Ad2,Ad2,by simp[upd,h0],by simp[upd,h1],by simp[upd,h5],by simp[upd,h6],Ad4,Ad4,hK.trans a6,by simpa[Bh]using hX.keep a6,by simpa[Bh]using hS⟩ ?_
  clear hK hX hS h0 h1 h5 h6 a6 ss av x5 ao;rintro m s u' ⟨j,x5,ss,rfl,hj,h0,h1,h5,h6,h7,h8,hK,hX,hS⟩;have ao:=hK.nobj;have ay:(Bh l y i j).length<=100000:=by unfold Bh;simp;omega
  have av:Abs.flat x5=true:=by obtain⟨o,cap,rfl,-⟩:=hX;rfl
  by_cases aj:j<(Af y).length
  ·obtain⟨ia,r,hd⟩:=B8 ba (Aav aj);have HG:Ad8 ((Af y)[j]?=some (Af y)[j]):=Aav aj;generalize (Af y)[j]=a at hd HG;have HL:Ad8 (Bh l y i (j+1)=Bh l y i j++[a]):=Et HG.out;have HS:Ad8 (EL Be (Bh l y i (j+1)) (ss++[sc (.bool a.nt),str a.pred,sl ia a.terms.length (a.terms.map str)])):=by
    rw[Ad8,HL.out];exact hS.out.append (EL.single ⟨ia,rfl⟩)
   have au:(Bh l y i (j+1)).length=(Bh l y i j).length+1:=by rw[HL.out];simp
   clear hS
   repeat' (first|refine Z1 ?_|(refine Z8 ?_;intro ya J)|(refine Z4 ?_;clear J ya)|(refine Z2 ?_ ?_<;>intro h ac<;>try exact Xp)|(refine Z6 ?_;intro idn un ah af ae ab ad aa)|refine Z3 ?_|exact Zt|(apply J.out;clear J ya))
   refine mD (lo:=u.nobj) (σ0:=u) (by first|exact G8) (by rfl) (by rfl) (by rfl) Ad2 Ad2 (by simp only[Av,Ac,Aa];omega) (Aak _) (hK.lay 1) (hX.keep ((Keep.refl _).lay 1)) ?_;intro X' un an bc ak af;rw[<-au]at an;have be:Abs.flat X'=true:=by obtain⟨o,cap,rfl,-⟩:=an;rfl
   clear hX ak au;refine Z3 ?_
   repeat' (first|refine Z1 ?_|(refine Z8 ?_;intro ya J)|(refine Z4 ?_;clear J ya)|(refine Z2 ?_ ?_<;>intro h ac<;>try exact Xp)|(refine Z6 ?_;intro idn un ah af ae ab ad aa)|refine Z3 ?_|exact Zt|(apply J.out;clear J ya))
   refine⟨(Af y).length-(j+1),Ad2,j+1,X',ss++[sc (.bool a.nt),str a.pred,sl ia a.terms.length (a.terms.map str)],?_⟩
   ((repeat' refine Zi ?_ ?_)<;>first|exact Xq|exact an|exact HS|exact Xs)
  ·have a8:j=(Af y).length:=Ad2;have HS:Ad8 (EL Be (Ca l (i+1)) ss):=by rw[Ad8,Jr HX.out,<-a8];exact hS.out
   have hX:GX u.nobj u' x5 (Ca l (i+1)).length ss:=by rw[Jr HX.out,<-a8];exact hX
   clear hS
   repeat' (first|refine Z1 ?_|(refine Z8 ?_;intro ya J)|(refine Z4 ?_;clear J ya)|(refine Z2 ?_ ?_<;>intro h ac<;>try exact Xp)|(refine Z6 ?_;intro idn un ah af ae ab ad aa)|refine Z3 ?_|exact Zt|(apply J.out;clear J ya))
   refine⟨l.length-(i+1),Ad2,i+1,x5,ss,?_⟩
   ((repeat' refine Zi ?_ ?_)<;>first|exact Xq|exact hX|exact HS|exact Xs)
 ·have bd:i=l.length:=Ad2;subst bd;have epr:Ca l l.length=l.flatMap Af:=by unfold Ca;rw[Aa3]
  rw[epr]at hX hS a7;clear epr;have ax:Ad8 (Ny l F=if Gr (l.flatMap Af) F=true then 3 else if F.any (fun a=>Dh l a.pred)=true then 8 else 0):=rfl;generalize l.flatMap Af=P at hX hS a7 ax;have av:Abs.flat x5=true:=by obtain⟨o,cap,rfl,-⟩:=hX;rfl
  repeat' (first|refine Z1 ?_|(refine Z8 ?_;intro ya J)|(refine Z4 ?_;clear J ya)|(refine Z2 ?_ ?_<;>intro h ac<;>try exact Xp)|(refine Z6 ?_;intro idn un ah af ae ab ad aa)|refine Z3 ?_|exact Zt|(apply J.out;clear J ya))
  refine Ab (fun m s u'=>∃(q:Nat) (x:AV) (ss:List AV),m=F.length-q/\q<=F.length/\s 0=sl idl l.length cs/\s 1=sl idf F.length cF/\s 5=x/\s 9=ic q/\Keep u u'/\GX u.nobj u' x (P++F.take q).length ss/\Ad8 (EL Be (P++F.take q) ss/\Gr P F=Gr (P++F.take q) (F.drop q))) F.length
   ⟨0,x5,ss,Ad2,Ad2,by simp[upd,h0],by simp[upd,h1],by simp[upd,h5],Ad4,hK,by simpa using hX,by simpa using hS.out,by simp⟩ ?_
  clear hK hX hS h0 h1 h5 h6 ss av x5 ao;rintro m s u' ⟨q,x5,ss,rfl,hq,h0,h1,h5,h9,hK,hX,hS⟩;have ao:=hK.nobj;have ay:(P++F.take q).length<=100000:=by rw[Abj,Abk];omega
  by_cases aj:q<F.length
  ·have HG:Ad8 (F[q]?=some F[q]):=Aav aj;obtain⟨ia,r,hd⟩:=B8 hF HG.out;generalize F[q]=a at hd HG;have HT:Ad8 _:=nT (A:=P) HG.out;have HL:Ad8 (P++F.take (q+1)=(P++F.take q)++[a]):=by rw[Ad8,Aa8,HG.out];simp
   have au:(P++F.take (q+1)).length=(P++F.take q).length+1:=by rw[HL.out,Abj];rfl
   generalize P++F.take q=L at hX hS ay HT HL au;obtain⟨o,cap,rfl,c1,c2,c3,c4,c5,c6⟩:=hX;have az:Ad8 (Gr P F=(L.any (clash a)||Gr (P++F.take (q+1)) (F.drop (q+1)))):=by rw[Ad8,hS.out.2,HT.out]
   have HE:Ad8 (EL Be L ss):=hS.out.1;clear hS HT
   repeat' (first|refine Z1 ?_|(refine Z8 ?_;intro ya J)|(refine Z4 ?_;clear J ya)|(refine Z2 ?_ ?_<;>intro h ac<;>try exact Xp)|(refine Z6 ?_;intro idn un ah af ae ab ad aa)|refine Z3 ?_|exact Zt|(apply J.out;clear J ya))
   refine Ab (fun m s u''=>∃k:Nat,m=L.length-k/\k<=L.length/\s 0=sl idl l.length cs/\s 1=sl idf F.length cF/\s 5=gx o L.length cap/\s 9=ic q/\s 10=ic k/\u''=u'/\Ad8 (S8 a L k)) L.length
    ⟨0,Ad2,Ad2,by simp[upd,h0],by simp[upd,h1],by simp[upd,h5],by simp[upd,h9],Ad4,rfl,by simp[Ad8,S8]⟩ ?_
   clear h0 h1 h5 h9;rintro m s u'' ⟨k,rfl,hk,h0,h1,h5,h9,bo,rfl,ai⟩;by_cases am:k<L.length
   ·have HB:Ad8 (L[k]?=some L[k]):=Aav am;obtain⟨ib,r',a5⟩:=vY HE.out HB.out c4;generalize L[k]=b at a5 HB;have bi:(u''.obj o)[k*3+1]?=some (str b.pred):=by rw[<-Aat,a5];rfl
    have bh:(u''.obj o)[k*3+2]?=some (sl ib b.terms.length (b.terms.map str)):=by rw[<-Aat,a5];rfl
    have HC:Ad8 (clash a b=(b.pred==a.pred&&decide (b.terms.length≠a.terms.length))):=rfl;have HK:Ad8 (clash a b=false->S8 a L (k+1)):=fun h=>by unfold S8 at*;rw[any_take_succ _ HB.out,ai.out,h];rfl
    have HH:Ad8 (clash a b=true->Ny l F=3):=fun h=>by
     rw[ax.out,if_pos];rw[az.out,Dq _ HB.out h];rfl
    clear ai;by_cases e1:b.pred=a.pred
    ·have t1:(b.pred==a.pred)=true:=by simpa using e1
     by_cases e2:b.terms.length=a.terms.length
     ·have t2:((b.terms.length:Int) !=(a.terms.length:Int))=false:=by simp;omega
      have HN:Ad8 (S8 a L (k+1)):=HK.out (by rw[HC.out];simp[e2]);clear HK HH HC e1 e2
      repeat' (first|refine Z1 ?_|(refine Z8 ?_;intro ya J)|(refine Z4 ?_;clear J ya)|(refine Z2 ?_ ?_<;>intro h ac<;>try exact Xp)|(refine Z6 ?_;intro idn un ah af ae ab ad aa)|refine Z3 ?_|exact Zt|(apply J.out;clear J ya))
      refine Aq Ad (fun _=>True) [25] [0,1,2,3,4,5,6,7,8,9,10,11,12,13,14,15,16,17,18,19,20,21,22,23,24] [25] Ad5 (fun _ _ _ h=>h) ?_;intro ya J;refine Z3 ?_
      repeat' (first|refine Z1 ?_|(refine Z8 ?_;intro ya J)|(refine Z4 ?_;clear J ya)|(refine Z2 ?_ ?_<;>intro h ac<;>try exact Xp)|(refine Z6 ?_;intro idn un ah af ae ab ad aa)|refine Z3 ?_|exact Zt|(apply J.out;clear J ya))
      refine⟨L.length-(k+1),Ad2,k+1,?_⟩
      ((repeat' refine Zi ?_ ?_)<;>first|exact Xq|exact HN|exact Xs)
     ·have t2:((b.terms.length:Int) !=(a.terms.length:Int))=true:=by simp;omega
      have HN:Ad8 (Ny l F=3):=HH.out (by rw[HC.out];simp[e1,e2]);clear HK HH HC e1 e2
      repeat' (first|refine Z1 ?_|(refine Z8 ?_;intro ya J)|(refine Z4 ?_;clear J ya)|(refine Z2 ?_ ?_<;>intro h ac<;>try exact Xp)|(refine Z6 ?_;intro idn un ah af ae ab ad aa)|refine Z3 ?_|exact Zt|(apply J.out;clear J ya))
      refine Aq Ad (fun _=>True) [25] [0,1,2,3,4,5,6,7,8,9,10,11,12,13,14,15,16,17,18,19,20,21,22,23,24] [25] Ad5 (fun _ _ _ h=>h) ?_;intro ya J;refine Z3 ?_
      repeat' (first|refine Z1 ?_|(refine Z8 ?_;intro ya J)|(refine Z4 ?_;clear J ya)|(refine Z2 ?_ ?_<;>intro h ac<;>try exact Xp)|(refine Z6 ?_;intro idn un ah af ae ab ad aa)|refine Z3 ?_|exact Zt|(apply J.out;clear J ya))
      first|exact⟨_,rfl,by rw[HN.out],hK⟩|exact⟨_,rfl,by rw[HN.out]⟩
    ·have t1:(b.pred==a.pred)=false:=by simpa using e1
     have HN:Ad8 (S8 a L (k+1)):=HK.out (by rw[HC.out];simp[e1]);clear HK HH HC e1
     repeat' (first|refine Z1 ?_|(refine Z8 ?_;intro ya J)|(refine Z4 ?_;clear J ya)|(refine Z2 ?_ ?_<;>intro h ac<;>try exact Xp)|(refine Z6 ?_;intro idn un ah af ae ab ad aa)|refine Z3 ?_|exact Zt|(apply J.out;clear J ya))
     refine Aq Ad (fun _=>True) [25] [0,1,2,3,4,5,6,7,8,9,10,11,12,13,14,15,16,17,18,19,20,21,22,23,24] [25] Ad5 (fun _ _ _ h=>h) ?_;intro ya J;refine Z3 ?_
     repeat' (first|refine Z1 ?_|(refine Z8 ?_;intro ya J)|(refine Z4 ?_;clear J ya)|(refine Z2 ?_ ?_<;>intro h ac<;>try exact Xp)|(refine Z6 ?_;intro idn un ah af ae ab ad aa)|refine Z3 ?_|exact Zt|(apply J.out;clear J ya))
     refine⟨L.length-(k+1),Ad2,k+1,?_⟩
     ((repeat' refine Zi ?_ ?_)<;>first|exact Xq|exact HN|exact Xs)
   ·have a3:k=L.length:=Ad2;subst a3
    have HO:Ad8 (EL Be (P++F.take (q+1)) (ss++[sc (.bool a.nt),str a.pred,sl ia a.terms.length (a.terms.map str)])/\Gr P F=Gr (P++F.take (q+1)) (F.drop (q+1))):=⟨by
     rw[HL.out];exact HE.out.append (EL.single ⟨ia,rfl⟩),by
     have:=ai.out;unfold S8 at this;rw[Aa3]at this
     rw[az.out,this,Abt]⟩
    have hX:GX u.nobj u'' (gx o L.length cap) L.length ss:=⟨o,cap,rfl,c1,c2,c3,c4,c5,c6⟩;clear ai az HE
    repeat' (first|refine Z1 ?_|(refine Z8 ?_;intro ya J)|(refine Z4 ?_;clear J ya)|(refine Z2 ?_ ?_<;>intro h ac<;>try exact Xp)|(refine Z6 ?_;intro idn un ah af ae ab ad aa)|refine Z3 ?_|exact Zt|(apply J.out;clear J ya))
    refine mD (lo:=u.nobj) (σ0:=u) (by first|exact G8) (by rfl) (by rfl) (by rfl) Ad2 Ad2 (by simp only[Av,Ac,Aa];omega) (Aak _) (hK.lay 1) (hX.keep ((Keep.refl _).lay 1)) ?_;intro X' un an bc ak af;rw[<-au]at an;have be:Abs.flat X'=true:=by obtain⟨o,cap,rfl,-⟩:=an;rfl
    clear hX ak au c1 c2 c3 c4 c5 c6;refine Z3 ?_
    repeat' (first|refine Z1 ?_|(refine Z8 ?_;intro ya J)|(refine Z4 ?_;clear J ya)|(refine Z2 ?_ ?_<;>intro h ac<;>try exact Xp)|(refine Z6 ?_;intro idn un ah af ae ab ad aa)|refine Z3 ?_|exact Zt|(apply J.out;clear J ya))
    refine⟨F.length-(q+1),Ad2,q+1,X',ss++[sc (.bool a.nt),str a.pred,sl ia a.terms.length (a.terms.map str)],?_⟩
    ((repeat' refine Zi ?_ ?_)<;>first|exact Xq|exact an|exact HO|exact Xs)
  ·have bb:q=F.length:=Ad2;subst bb;have HR:Ad8 (Ny l F=if F.any (fun a=>Dh l a.pred)=true then 8 else 0):=by
    have:=hS.out.2;rw[Aby]at this;rw[Ad8,ax.out,this,if_neg (by simp[Gr])]
   have av:Abs.flat x5=true:=by obtain⟨o,cap,rfl,-⟩:=hX;rfl
   clear hS hX ax ay
   repeat' (first|refine Z1 ?_|(refine Z8 ?_;intro ya J)|(refine Z4 ?_;clear J ya)|(refine Z2 ?_ ?_<;>intro h ac<;>try exact Xp)|(refine Z6 ?_;intro idn un ah af ae ab ad aa)|refine Z3 ?_|exact Zt|(apply J.out;clear J ya))
   refine Ab (fun m s u''=>∃k:Nat,m=F.length-k/\k<=F.length/\s 0=sl idl l.length cs/\s 1=sl idf F.length cF/\s 11=ic k/\Keep u u''/\Ad8 ((F.take k).any (fun a=>Dh l a.pred)=false)) F.length
    ⟨0,Ad2,Ad2,by simp[upd,h0],by simp[upd,h1],Ad4,hK,by simp[Ad8]⟩ ?_
   clear h0 h1 h5 h9 hK ao av;rintro m s u'' ⟨k,rfl,hk,h0,h1,bn,hK,ai⟩;have ao:=hK.nobj;by_cases am:k<F.length
   ·have HG:Ad8 (F[k]?=some F[k]):=Aav am;obtain⟨ia,r,hd⟩:=B8 hF HG.out;generalize F[k]=a at hd HG;have aw:=fun u=>Sm l cs idl a.pred hE hl u;cases ap:Dh l a.pred with
    |true=>
     have HN:Ad8 (Ny l F=8):=by rw[Ad8,HR.out,if_pos (Dq (fun a=>Dh l a.pred) HG.out ap)]
     rw[ap]at aw;clear ap ai HR HG
     repeat' (first|refine Z1 ?_|(refine Z8 ?_;intro ya J)|(refine Z4 ?_;clear J ya)|(refine Z2 ?_ ?_<;>intro h ac<;>try exact Xp)|(refine Z6 ?_;intro idn un ah af ae ab ad aa)|(refine Z5 ?_;refine Xi (aw _) ?_;rintro _ _ ⟨rfl,rfl⟩)|refine Z3 ?_|exact Zt|(apply J.out;clear J ya))
     first|exact⟨_,rfl,by rw[HN.out],hK⟩|exact⟨_,rfl,by rw[HN.out]⟩
    |false=>
     have HN:Ad8 ((F.take (k+1)).any (fun a=>Dh l a.pred)=false):=by rw[Ad8,any_take_succ (fun a=>Dh l a.pred) HG.out,ai.out,ap];rfl
     rw[ap]at aw;clear ap ai HG
     repeat' (first|refine Z1 ?_|(refine Z8 ?_;intro ya J)|(refine Z4 ?_;clear J ya)|(refine Z2 ?_ ?_<;>intro h ac<;>try exact Xp)|(refine Z6 ?_;intro idn un ah af ae ab ad aa)|(refine Z5 ?_;refine Xi (aw _) ?_;rintro _ _ ⟨rfl,rfl⟩)|refine Z3 ?_|exact Zt|(apply J.out;clear J ya))
     refine⟨F.length-(k+1),Ad2,k+1,?_⟩
     ((repeat' refine Zi ?_ ?_)<;>first|exact Xq|exact HN|exact Xs)
   ·have a3:k=F.length:=Ad2;subst a3;rw[Aa3]at ai;have HN:Ad8 (Ny l F=0):=by rw[Ad8,HR.out,ai.out];rfl
    clear ai HR
    repeat' (first|refine Z1 ?_|(refine Z8 ?_;intro ya J)|(refine Z4 ?_;clear J ya)|(refine Z2 ?_ ?_<;>intro h ac<;>try exact Xp)|(refine Z6 ?_;intro idn un ah af ae ab ad aa)|refine Z3 ?_|exact Zt|(apply J.out;clear J ya))
    first|exact⟨_,rfl,by rw[HN.out],hK⟩|exact⟨_,rfl,by rw[HN.out]⟩
end Go.Proofs.YtmoeoppbmhfbpaaGreatDoorH
