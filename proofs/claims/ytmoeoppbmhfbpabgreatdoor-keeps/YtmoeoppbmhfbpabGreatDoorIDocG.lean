import Derived.Test.YtmoeoppbmhfbpabGreatDoorIDocD
set_option maxHeartbeats 64000000
set_option maxRecDepth 100000
set_option linter.all false
open List renaming length->Z
namespace Go.Proofs.YtmoeoppbmhfbpabGreatDoorI
open Go.Abs
theorem iT {ida nA cA fz mo ido nO ido' nO' oc oc' B}:(C2 ida nA cA fz mo ido nO oc B).set 3 (sl ido' nO' oc')=C2 ida nA cA fz mo ido' nO' oc' B:=rfl
theorem FH.addO {l l' ow ida nA cA fz mo ido O oc B N id' a ca}(h:FH l ow ida nA cA fz mo ido O oc B N)(ha:Bo a ca)
  (hL:Live l' id' (Z O+1)) (hid:id'=ido\/l.D+2<=id') (aa:id'≠1)
  (eob:∀o,o<l.B->o≠ow->l'.C o=l.C o) (ab:∀o,o<l.B->o≠ow->l'.ver o=l.ver o) (eno:l.B<=l'.B) (ento:l.D<=l'.D)
  (etop:∀j,j<l.D->j+2≠ido->l'.top j=l.top j) (eow:l'.C ow=(C2 ida nA cA fz mo ido (Z O) oc B).set 3 (sl id' (Z O+1) (oc++ca))):
  FH l' ow ida nA cA fz mo id' (O++[a]) (oc++ca) B N/\KW ow (Dq ido (Z O) B) (Dq id' (Z (O++[a])) B) l l':=by
 have hx:(Dq ido (Z O) B)[0]?=some (ido,Z O):=rfl;obtain⟨g1,g2⟩:=JJ.grow (ow:=ow) h.rw' hx hL hid aa eob ab eno ento etop;have e:Dq id' (Z (O++[a])) B=(Dq ido (Z O) B).set 0 (id',Z O+1):=by simp[Dq]
 rw[e];refine⟨⟨?_,By h.lo eno,h.bl,EL.append h.oe (EL.single ha),by rw[e];exact g1,h.bn⟩,g2⟩;rw[eow,iT];simp
theorem SR {fz A cA c0 p x h}(hA:E6 A cA)(hH:CL fz c0 p x)(hS:Tn fz A x h):EU h:=by
 obtain⟨μ,h1,-,rfl⟩:=hS;refine⟨hH.cl.2.1.1,fun t ht=>?_,by show Z (x.h.A.map _)<=1000;rw[BP];exact hH.cl.2.1.2.2⟩;obtain⟨u,hu,rfl⟩:=AO.1 ht;cases hv:Ac u with
 |false=>rw[Db hv];exact hH.cl.2.1.2.1 u hu
 |true=>
  obtain⟨a,ha,hp,hm⟩:=hH.saf u hv (.inl hu);exact (hA.cl _ (h1 a ha hp)).2.1 _ (AO.2 ⟨u,hm,rfl⟩)
theorem ZS {fz A cA mo c0 p x O O' S S'}(hA:E6 A cA)(hH:CL fz c0 p x)(hO:∀a∈O,EU a)(h:Zg fz A mo x O S O' S'):∀a∈O',EU a:=by
 obtain⟨nw,rfl,h2⟩:=h.ext;intro a ha;rcases AW.1 ha with h'|h'
 ·exact hO a h'
 ·exact SR hA hH (h2 a h').1
def QL (fz:Bool)(A:List AC)(cA:List AV)(ida:Nat)(mo:Int)(c0 p:Nat):Prop:=∀(x:AB) (c:List AV),AN x c->CL fz c0 p x->∀(ow ido:Nat) (O:List AC) (oc:List AV) (B:BK) (N:Nat) (l:St),FH l ow ida (Z A) cA fz mo ido O oc B N->N+Er c0 (Z A) p+1001<=1000000000000+Z O->O.Nodup->(Z O:Int)<=mo+1->(∀a∈O,EU a)->CJ fz A O mo (Sa B) (Z x.A)->
  AF Tryz.prog 202 [ptr ow 0,ag c] l fun r l'=>Uc fz A cA ida mo c0 p x ow ido O B N l l'
theorem dP (fz A cA ida mo c0)(hA:E6 A cA)(hm0:0<=mo)(hm1:mo<=900)(p)(IH:∀q,p=q+1->QL fz A cA ida mo c0 q):QL fz A cA ida mo c0 p:=by
 intro x c hc hH ow ido O oc B N l hW hN hnd hlen hOc hS;have bw:=hc;obtain⟨ih,id,b,hb,rfl⟩:=hc.cells;unfold Bm;unfold Bm at bw;have ai:=hH.fits;have ep:=ai.1;have eg:=hW.lo;have dx:=hA.len;have fc:Z O<=901:=AA;have cb:=fun l=>M9 x.h _ ⟨ih,rfl⟩ ai.2.1 l;have dq:=fun l=>H9 O oc ido x.h [sc (.bool x.h.nt),str x.h.B,sl ih (Z x.h.A) (x.h.A.map str)] hW.oe ⟨ih,rfl⟩ AA (fun a ha=>(hOc a ha).2.2) l;have dr:=fun l=>H9 A cA ida x.h [sc (.bool x.h.nt),str x.h.B,sl ih (Z x.h.A) (x.h.A.map str)] hA.el ⟨ih,rfl⟩ dx (fun a ha=>(hA.cl a ha).2.2) l;have en:(C2 ida (Z A) cA fz mo ido (Z O) oc B)[0]?=some (sl ida (Z A) cA):=rfl;have ei:(C2 ida (Z A) cA fz mo ido (Z O) oc B).head?=some (sl ida (Z A) cA):=rfl;have em:(C2 ida (Z A) cA fz mo ido (Z O) oc B)[1]?=some (sc (.bool fz)):=rfl;have ek:(C2 ida (Z A) cA fz mo ido (Z O) oc B)[2]?=some (ic mo):=rfl;have ej:(C2 ida (Z A) cA fz mo ido (Z O) oc B)[3]?=some (sl ido (Z O) oc):=rfl;have d9:=Ji (ida:=ida) (nA:=Z A) (cA:=cA) (fz:=fz) (mo:=mo) (ido:=ido) (nO:=Z O) (oc:=oc) hW.bl;have dj:=hW.ob;generalize a6:C2 ida (Z A) cA fz mo ido (Z O) oc B=wc at*
 have cc:AD _:=a6;clear a6;refine Z9 109 [] Tryz.func202 ?_
 refine zz ?_
 obtain⟨l1,br⟩:∃l1,l1=l.new [sc (.bool x.o),sc (.bool x.h.nt),str x.h.B,sl ih (Z x.h.A) (x.h.A.map str),sl id (Z x.A) b]:=⟨_,rfl⟩;rw[<-br];have du:AE l l1:=by rw[br];exact (AE.refl l).new _
 have e6:l1.B=l.B+1:=by rw[br];rfl
 have a9:l1.C ow=wc:=by rw[du.C _ eg,dj]
 have a5:l1.C l.B=[sc (.bool x.o),sc (.bool x.h.nt),str x.h.B,sl ih (Z x.h.A) (x.h.A.map str),sl id (Z x.A) b]:=by rw[br];exact Ao
 clear br;refine Az (Q:=fun e s' l''=>e= .normal/\∃th,s' 4=sc (.bool th)/\s' 0=ptr ow 0/\s' 3=ptr l.B 0/\AE l1 l''/\(th=true↔(aF x.h/\(x.h∈O\/x.h∈A)))) ?_ ?_
 ·by_cases hz:Kg x.h=0
  ·rw[hz]at cb;have d5:((((0:Nat):Int))==0)=true:=rfl;have cd:AD (aF x.h):=EX.1 hz;refine Aq Ag (fun _=>True) [] [0,1] 21 #[true,true,false,false,false,false,false,false,false,false,false,false,false,false,false,false,false,false,false,false,false,false,false] AH (fun _ _ _ h=>by cases h.1) ?_;intro yd yb;refine Z3 ?_;refine yb.o _ ?_;clear yb yd;refine Ai (i:=2) AH ?_;refine Am ?_;intro yd yb;refine Z3 ?_;refine AF.mono (cb _) ?_;rintro _ l2 ⟨rfl,ad⟩;refine Z3 ?_;refine yb.o _ _ ⟨Al ad,?_⟩;clear yb yd;have a8:l2.C ow=wc:=by rw[ad.C _ AA,a9]
   have au:l2.C l.B=[sc (.bool x.o),sc (.bool x.h.nt),str x.h.B,sl ih (Z x.h.A) (x.h.A.map str),sl id (Z x.A) b]:=by rw[ad.C _ AA,a5]
   have ch:=ad.B;refine Hr [3,4,5,6,7,8,9,10] 12 20 #[true,true,true,true,true,true,true,true,true,true,true,false,false,false,false,false,false,false,false,false,false,false,false] rfl AH AH (fun _ _ _ h=>by cases h.1) (ad).B (fun o ho _=>(ad).ver o ho) ?_;intro yd yb;refine Z3 ?_;refine yb.o _ ?_;clear yb yd;refine Ai (i:=11) AH ?_;refine Am ?_;intro yd yb;refine Z3 ?_;refine AF.mono (dq _) ?_;rintro _ l3 ⟨b1,rfl,dp,af⟩;refine Z3 ?_;refine yb.o _ _ ⟨Al af,?_⟩;clear yb yd;have aw:l3.C ow=wc:=by rw[af.C _ AA,a8]
   have a4:l3.C l.B=[sc (.bool x.o),sc (.bool x.h.nt),str x.h.B,sl ih (Z x.h.A) (x.h.A.map str),sl id (Z x.A) b]:=by rw[af.C _ AA,au]
   have bp:=af.B;cases b1 with
   |true=>
    refine Hr [12,13,14,15,16,17,18] 4 11 #[true,true,true,true,true,true,true,true,true,true,true,true,true,true,true,true,true,true,true,false,false,false,false] rfl AH AH (fun _ _ _ h=>by cases h.1) (af).B (fun o ho _=>(af).ver o ho) ?_;intro yd yb;refine Z3 ?_;refine yb.o _ ?_;clear yb yd;refine Ai (i:=19) AH ?_;refine Am ?_;intro yd yb;refine Z3 ?_;refine yb.o _ _ ⟨kept_refl,?_⟩;clear yb yd;refine Ci [20,21,22] AH AH (fun _ _ _ h=>by cases h.1) (AR _) (fun o ho _=>rfl) ?_;intro yd yb;refine Z3 ?_;refine yb.o _ _ ⟨rfl,true,AI,by simp[upd,AM, *],AI,ad.trans af,fun _=>⟨cd.o,.inl (dp.1 rfl)⟩,fun _=>rfl⟩
   |false=>
    refine Hr [12,13,14,15,16,17,18] 4 11 #[true,true,true,true,true,true,true,true,true,true,true,true,true,true,true,true,true,true,true,false,false,false,false] rfl AH AH (fun _ _ _ h=>by cases h.1) (af).B (fun o ho _=>(af).ver o ho) ?_;intro yd yb;refine Z3 ?_;refine yb.o _ ?_;clear yb yd;refine Ai (i:=19) AH ?_;refine Am ?_;intro yd yb;refine Z3 ?_;refine AF.mono (dr _) ?_;rintro _ l4 ⟨b2,rfl,dn,ae⟩;refine Z3 ?_;refine yb.o _ _ ⟨Al ae,?_⟩;clear yb yd;refine Ci [20,21,22] AH AH (fun _ _ _ h=>by cases h.1) ae.B (fun o ho _=>ae.ver o ho) ?_;intro yd yb;refine Z3 ?_;refine yb.o _ _ ⟨rfl,b2,AG,by simp[upd,AM, *],AI,(ad.trans af).trans ae,fun h=>⟨cd.o,.inr (dn.1 h)⟩,fun h=>?_⟩;rcases h.2 with h'|h'
    ·exact absurd (dp.2 h') (by simp)
    ·exact dn.2 h'
  ·have d5:(((Kg x.h:Nat):Int)==0)=false:=by simp;omega
   have cd:AD (¬aF x.h):=fun h=>hz (EX.2 h);generalize Kg x.h=lz at*
   refine Aq Ag (fun _=>True) [] [0,1] 21 #[true,true,false,false,false,false,false,false,false,false,false,false,false,false,false,false,false,false,false,false,false,false,false] AH (fun _ _ _ h=>by cases h.1) ?_;intro yd yb;refine Z3 ?_;refine yb.o _ ?_;clear yb yd;refine Ai (i:=2) AH ?_;refine Am ?_;intro yd yb;refine Z3 ?_;refine AF.mono (cb _) ?_;rintro _ l2 ⟨rfl,ad⟩;refine Z3 ?_;refine yb.o _ _ ⟨Al ad,?_⟩;clear yb yd;refine Hr [3,4,5,6,7,8,9,10] 12 20 #[true,true,true,true,true,true,true,true,true,true,true,false,false,false,false,false,false,false,false,false,false,false,false] rfl AH AH (fun _ _ _ h=>by cases h.1) (ad).B (fun o ho _=>(ad).ver o ho) ?_;intro yd yb;refine Z3 ?_;refine yb.o _ ?_;clear yb yd;refine Ai (i:=11) AH ?_;refine Am ?_;intro yd yb;refine Z3 ?_;refine yb.o _ _ ⟨kept_refl,?_⟩;clear yb yd;refine Hr [12,13,14,15,16,17,18] 4 11 #[true,true,true,true,true,true,true,true,true,true,true,true,true,true,true,true,true,true,true,false,false,false,false] rfl AH AH (fun _ _ _ h=>by cases h.1) (AR _) (fun o ho _=>rfl) ?_;intro yd yb;refine Z3 ?_;refine yb.o _ ?_;clear yb yd;refine Ai (i:=19) AH ?_;refine Am ?_;intro yd yb;refine Z3 ?_;refine yb.o _ _ ⟨kept_refl,?_⟩;clear yb yd;refine Ci [20,21,22] AH AH (fun _ _ _ h=>by cases h.1) (AR _) (fun o ho _=>rfl) ?_;intro yd yb;refine Z3 ?_;refine yb.o _ _ ⟨rfl,false,AI,by simp[upd,AM, *],AI,ad,fun h=>(by cases h),fun h=>absurd h.1 cd.o⟩
 ·rintro e s' l2 ⟨rfl,th,g4,g0,g3,ad,c8⟩;have a8:l2.C ow=wc:=by rw[ad.C _ AA,a9]
  have au:l2.C l.B=[sc (.bool x.o),sc (.bool x.h.nt),str x.h.B,sl ih (Z x.h.A) (x.h.A.map str),sl id (Z x.A) b]:=by rw[ad.C _ AA,a5]
  have ch:=ad.B;have bh:AD _:=c8;clear c8 cb dq dr a9 a5;have b7:AE l l2:=du.trans ad;have az:=hW.keep b7;cases th with
  |true=>
   have HQ:AD (Uc fz A cA ida mo c0 p x ow ido O B N l l2):=by
    refine⟨ido,O,oc,B,N,az,KW.ofKeep b7,S4 hnd hlen hS (fun _ h hh=>?_),AA⟩;obtain⟨hg,hm⟩:=bh.o.1 rfl;rw[gg hg hh];exact hm.symm
   clear bh hW hS az
   refine zz ?_
   refine Az (Q:=fun e s'' l''=>e= .normal/\s'' 48=sc (.bool true)/\l''=l2) ?_ ?_
   ·refine Aq Ag (fun _=>True) [16,17] [0,1,2,3,4,5,6,7,8,9,10,11,12,13,14,15] 2 #[true,true,true,true,true,true,true,true,true,true,true,true,true,true,true,true,false,false] AH (fun _ _ _ h=>by cases h.1) ?_;intro yd yb;refine Z3 ?_;refine yb.o _ ?_;clear yb yd;refine Ai (i:=16) AH ?_;refine Am ?_;intro yd yb;refine Z3 ?_;refine yb.o _ _ ⟨A5 rfl,?_⟩;clear yb yd;refine Ai (i:=17) AH ?_;refine Am ?_;intro yd yb;refine Z3 ?_;refine yb.o _ _ ⟨A5 rfl,?_⟩;clear yb yd;exact Ax AH ⟨rfl,AG,rfl⟩
   ·rintro e s'' l'' ⟨rfl,g48,rfl⟩
    first|refine Bt g48 ?_|(refine I8 ?_;refine Bt g48 ?_)
    refine zz ?_
    first|exact⟨_,rfl,HQ.o⟩|exact HQ.o
  |false=>
   by_cases bu:mo<(Z O:Int)
   ·have dl:decide ((Z O:Int)>mo)=true:=by simpa using bu
    have dk:decide (mo<(Z O:Int))=true:=by simpa using bu
    have HQ:AD (Uc fz A cA ida mo c0 p x ow ido O B N l l2):=
     ⟨ido,O,oc,B,N,az,KW.ofKeep b7,S4 hnd hlen hS (fun h=>AA),AA⟩
    clear bh hW hS az
    refine zz ?_
    refine Az (Q:=fun e s'' l''=>e= .normal/\s'' 48=sc (.bool true)/\l''=l2) ?_ ?_
    ·refine Aq Ag (fun _=>True) [16,17] [0,1,2,3,4,5,6,7,8,9,10,11,12,13,14,15] 2 #[true,true,true,true,true,true,true,true,true,true,true,true,true,true,true,true,false,false] AH (fun _ _ _ h=>by cases h.1) ?_;intro yd yb;refine Z3 ?_;refine yb.o _ ?_;clear yb yd;refine Ai (i:=16) AH ?_;refine Am ?_;intro yd yb;refine Z3 ?_;refine yb.o _ _ ⟨A5 rfl,?_⟩;clear yb yd;refine Ai (i:=17) AH ?_;refine Am ?_;intro yd yb;refine Z3 ?_;refine yb.o _ _ ⟨A5 rfl,?_⟩;clear yb yd;exact Ax AH ⟨rfl,AG,rfl⟩
    ·rintro e s'' l'' ⟨rfl,g48,rfl⟩
     first|refine Bt g48 ?_|(refine I8 ?_;refine Bt g48 ?_)
     refine zz ?_
     first|exact⟨_,rfl,HQ.o⟩|exact HQ.o
   ·have dl:decide ((Z O:Int)>mo)=false:=by simpa using bu
    have dk:decide (mo<(Z O:Int))=false:=by simpa using bu
    have c5:=fun l h=>tK x _ bw hH.cl ep ow ida (Z A) cA fz mo ido O oc B N AA l h
    refine zz ?_
    refine Az (Q:=fun e s'' l''=>e= .normal/\s'' 0=ptr ow 0/\s'' 3=ptr l.B 0/\((Sa B (Fh x)/\s'' 48=sc (.bool true)/\AE l2 l'')\/(¬Sa B (Fh x)/\s'' 48=sc (.bool false)/\∃id' y,B[Jt (Fh x)]?=some y/\FH l'' ow ida (Z A) cA fz mo ido O oc (B.set (Jt (Fh x)) (id',y.2++[Fh x])) (N+1)/\KW ow (Dq ido (Z O) B) (Dq ido (Z O) (B.set (Jt (Fh x)) (id',y.2++[Fh x]))) l2 l''))) ?_ ?_
    ·refine Aq Ag (fun _=>True) [16,17] [0,1,2,3,4,5,6,7,8,9,10,11,12,13,14,15] 2 #[true,true,true,true,true,true,true,true,true,true,true,true,true,true,true,true,false,false] AH (fun _ _ _ h=>by cases h.1) ?_;intro yd yb;refine Z3 ?_;refine yb.o _ ?_;clear yb yd;refine Ai (i:=16) AH ?_;refine Am ?_;intro yd yb;refine Z3 ?_;refine AF.mono (c5 _ az) ?_;rintro r l3 (⟨h1,rfl,af⟩|⟨h1,rfl,h3⟩)
     ·refine Z3 ?_;refine yb.o _ _ ⟨A5 rfl,?_⟩;clear yb yd;refine Ai (i:=17) AH ?_;refine Am ?_;intro yd yb;refine Z3 ?_;refine yb.o _ _ ⟨A5 rfl,?_⟩;clear yb yd;exact Ax AH ⟨rfl,AI,AI,.inl ⟨h1,AG,af⟩⟩
     ·refine Z3 ?_;refine yb.o _ _ ⟨A5 rfl,?_⟩;clear yb yd;refine Ai (i:=17) AH ?_;refine Am ?_;intro yd yb;refine Z3 ?_;refine yb.o _ _ ⟨A5 rfl,?_⟩;clear yb yd;exact Ax AH ⟨rfl,AI,AI,.inr ⟨h1,AG,h3⟩⟩
    ·rintro e s'' l3 ⟨rfl,f0,f3,bz⟩;rcases bz with⟨cn,g48,af⟩|⟨cn,g48,id',y,hy,bn,am⟩
     ·have HQ:AD (Uc fz A cA ida mo c0 p x ow ido O B N l l3):=
       ⟨ido,O,oc,B,N,az.keep af,KW.ofKeep (b7.trans af),S4 hnd hlen hS (hS x hH.cl (AR _) cn),AA⟩
      clear bh hW hS az c5
      first|refine Bt g48 ?_|(refine I8 ?_;refine Bt g48 ?_)
      refine zz ?_
      first|exact⟨_,rfl,HQ.o⟩|exact HQ.o
     ·have be:=fun s=>mz (s:=s) (id':=id') hy;generalize e4:B.set (Jt (Fh x)) (id',y.2++[Fh x])=Bq at bn am be;have c7:AD (Sa Bq=fun s=>Sa B s\/s=Fh x):=funext fun s=>propext (be s);have a4:l3.C l.B=[sc (.bool x.o),sc (.bool x.h.nt),str x.h.B,sl ih (Z x.h.A) (x.h.A.map str),sl id (Z x.A) b]:=by rw[am.C _ AA AA,au]
      have bp:=am.B;have b8:=(KW.ofKeep b7).trans am;have aw:=bn.ob;have di:(C2 ida (Z A) cA fz mo ido (Z O) oc Bq)[0]?=some (sl ida (Z A) cA):=rfl;have dd:(C2 ida (Z A) cA fz mo ido (Z O) oc Bq).head?=some (sl ida (Z A) cA):=rfl;have dh:(C2 ida (Z A) cA fz mo ido (Z O) oc Bq)[1]?=some (sc (.bool fz)):=rfl;have df:(C2 ida (Z A) cA fz mo ido (Z O) oc Bq)[3]?=some (sl ido (Z O) oc):=rfl;have dc:=Ji (ida:=ida) (nA:=Z A) (cA:=cA) (fz:=fz) (mo:=mo) (ido:=ido) (nO:=Z O) (oc:=oc) bn.bl;clear be e4 hy c5 cn a8 au en ei em ek ej d9 dj cc hW az dl dk g4 g0 g3 ad;generalize a6:C2 ida (Z A) cA fz mo ido (Z O) oc Bq=wc1 at aw di dd dh df dc;have cc:AD _:=a6;clear a6;have dt:=fun l=>qM x _ fz bw ai l
      first|refine Ct g48 ?_|(refine I8 ?_;refine Ct g48 ?_)
      refine zz ?_
      refine Az (Q:=fun e s3 l''=>e= .normal/\∃n,QS fz x n/\s3 5=ic n/\s3 0=ptr ow 0/\s3 3=ptr l.B 0/\AE l3 l'') ?_ ?_
      ·refine Aq Ag (fun _=>True) [] [0,1,2,3,4] 2 #[true,true,true,true,true,false,false] AH (fun _ _ _ h=>by cases h.1) ?_;intro yd yb;refine Z3 ?_;refine yb.o _ ?_;clear yb yd;refine Ai (i:=5) AH ?_;refine Am ?_;intro yd yb;refine Z3 ?_;refine AF.mono (dt _) ?_;rintro _ l4 ⟨n,rfl,cv,ae⟩;refine Z3 ?_;refine yb.o _ _ ⟨Al ae,?_⟩;clear yb yd;refine Ai (i:=6) AH ?_;refine Am ?_;intro yd yb;refine Z3 ?_;refine yb.o _ _ ⟨Al ae,?_⟩;clear yb yd;exact Ax AH ⟨rfl,n,cv,AG,AI,AI,ae⟩
      ·rintro e s3 l4 ⟨rfl,n,cv,g5,e0,e3,ae⟩;have b6:=bn.keep ae;have a7:l4.C ow=wc1:=by rw[ae.C _ bn.lo,aw]
       have cg:=ae.B;have ap:l4.C l.B=[sc (.bool x.o),sc (.bool x.h.nt),str x.h.B,sl ih (Z x.h.A) (x.h.A.map str),sl id (Z x.A) b]:=by rw[ae.C _ AA,a4]
       have ab:=b8.trans (KW.ofKeep ae);clear dt aw a4 am b8 f0 f3 g48;rcases cv with⟨rfl,aa⟩|⟨j,b0,rfl,bm,bi⟩
       ·have cq:decide ((-1:Int)<0)=true:=by decide
        have dw:=fun l=>nY x _ A cA ida bw ai hA.el dx (fun a ha=>(hA.cl a ha).2.2) l
        refine pz ?_
        refine Az (Q:=fun e s4 l''=>e= .normal/\∃q,s4 69=sc (.bool q)/\(q=true↔∀a∈x.A,aQ a∉A)/\s4 0=ptr ow 0/\s4 3=ptr l.B 0/\AE l4 l'') ?_ ?_
        ·cases fz with
         |true=>
          have HB:AD (∀a∈x.A,aQ a∉A):=fun a ha=>by have:=aa a ha;simp[Ix]at this
          refine Aq Ag (fun _=>True) [] [0,1,2,3,4,5,6,7,8,9] 3 #[true,true,true,true,true,true,true,true,true,true,false,false,false] AH (fun _ _ _ h=>by cases h.1) ?_;intro yd yb;refine Z3 ?_;refine yb.o _ ?_;clear yb yd;refine Ai (i:=10) AH ?_;refine Am ?_;intro yd yb;refine Z3 ?_;refine yb.o _ _ ⟨kept_refl,?_⟩;clear yb yd;refine Ci [11,12] AH AH (fun _ _ _ h=>by cases h.1) (AR _) (fun o ho _=>rfl) ?_;intro yd yb;refine Z3 ?_;refine yb.o _ _ ⟨rfl,true,AI,⟨fun _=>HB.o,fun _=>rfl⟩,AI,AI,AE.refl _⟩
         |false=>
          have hnt:∀a∈x.A,a.nt=true:=fun a ha=>by have:=aa a ha;simpa[Ix]using this
          refine Aq Ag (fun _=>True) [] [0,1,2,3,4,5,6,7,8,9] 3 #[true,true,true,true,true,true,true,true,true,true,false,false,false] AH (fun _ _ _ h=>by cases h.1) ?_;intro yd yb;refine Z3 ?_;refine yb.o _ ?_;clear yb yd;refine Ai (i:=10) AH ?_;refine Am ?_;intro yd yb;refine Z3 ?_;refine AF.mono (dw _) ?_;rintro _ l5 ⟨bo,rfl,dm,ao⟩;refine Z3 ?_;refine yb.o _ _ ⟨Al ao,?_⟩;clear yb yd;have d2:AD _:=dm;clear dm;refine Ci [11,12] AH AH (fun _ _ _ h=>by cases h.1) ao.B (fun o ho _=>ao.ver o ho) ?_;intro yd yb;refine Z3 ?_;refine yb.o _ _ ⟨rfl,!bo,AI,?_,AI,AI,ao⟩;cases bo with
          |true=>
           obtain⟨a,ha,-,hm⟩:=d2.o.1 rfl;exact⟨fun h=>(by cases h),fun h=>absurd hm (h a ha)⟩
          |false=>exact⟨fun _ a ha hm=>(by have:=d2.o.2 ⟨a,ha,hnt a ha,hm⟩;cases this),fun _=>rfl⟩
        ·rintro e s4 l5 ⟨rfl,q,g69,hq,e0,e3,ao⟩;have ah:=b6.keep ao;have av:l5.C ow=wc1:=by rw[ao.C _ b6.lo,a7]
         have cf:=ao.B;have a3:l5.C l.B=[sc (.bool x.o),sc (.bool x.h.nt),str x.h.B,sl ih (Z x.h.A) (x.h.A.map str),sl id (Z x.A) b]:=by rw[ao.C _ AA,ap]
         have ak:=ab.trans (KW.ofKeep ao);have ba:x.h∉A/\x.h∉O:=by
          have hg:=(lF hH.saf aa).1;exact⟨fun h=>(by have:=bh.o.2 ⟨hg,.inr h⟩;cases this),fun h=>(by have:=bh.o.2 ⟨hg,.inl h⟩;cases this)⟩
         have hcost:∀k:Nat,(q=true/\k=1\/q=false/\k=0)->N+1+Z O<=N+(Z O+k)+Er c0 (Z A) p:=by
          intro k hk;rcases hk with⟨-,rfl⟩|⟨de,rfl⟩
          ·omega
          ·have bi:p=0:=by
            rw[<-hH.cnt,List.countP_eq_zero];intro a ha;rw[aa a ha];simp
           rcases hH.neg with h'|h'
           ·rw[bi,Er,h'];omega
           ·exfalso;have:q=true:=hq.2 fun a ha=>by have h1:=h' a ha;rw[aa a ha]at h1;cases h1
            rw[this]at de;cases de
         clear dw cq ae ao b6 a7 ap ab;cases q with
         |false=>
          have HQ:AD (Uc fz A cA ida mo c0 p x ow ido O B N l l5):=
           ⟨ido,O,oc,Bq,N+1,ah,ak,by rw[c7.o];exact dQ hH.cl hnd AA hS hH.saf aa ba (.inr ⟨fun h=>(by have:=hq.2 h;cases this),rfl⟩),by have:=hcost 0 (.inr ⟨rfl,rfl⟩);omega⟩
          first|refine Ct g69 ?_|(refine I8 ?_;refine Ct g69 ?_)
          refine zz ?_
          first|exact⟨_,rfl,HQ.o⟩|exact HQ.o
         |true=>
          have HI:AD (Zg fz A mo x O (Sa B) (O++[x.h]) (Sa Bq)):=by
           rw[AD,c7.o];exact dQ hH.cl hnd AA hS hH.saf aa ba (.inl ⟨hq.1 rfl,rfl⟩)
          have e9:=hcost 1 (.inl ⟨rfl,rfl⟩);have eu:Live l5 ido (Z O):=ah.rw'.1 (ido,Z O) (by simp[Dq]);have cj:=EL.length Bb ah.oe;clear hcost hq ba
          first|refine Bt g69 ?_|(refine I8 ?_;refine Bt g69 ?_)
          refine zz ?_
          refine Az (Q:=fun e s5 l''=>e= .normal/\Uc fz A cA ida mo c0 p x ow ido O B N l l'') ?_ ?_
          ·refine Aq Ag (fun _=>True) [11] [0,1,2,3,4,5,6] 5 #[true,true,true,true,true,true,true,false,false,false,false,false] AH (fun _ _ _ h=>by cases h.1) ?_;intro yd yb;refine Z3 ?_;refine yb.o _ ?_;clear yb yd;refine Ai (i:=7) AH ?_;refine Am ?_;intro yd yb;refine Z3 ?_;refine yb.o _ _ ⟨Al ((AE.refl _).lay 1),?_⟩;clear yb yd;refine Ai (i:=8) AH ?_;refine Am ?_;intro yd yb;refine Z3 ?_;refine Tj (by first|exact I3) eu (by decide) (by rfl) cj (by rfl) (by rfl) (by decide) AA AA ?_;intro idn ln ev co cp b9 dz ay dy etop;refine Z3 ?_;refine yb.o _ _ ⟨fun _ o ho _=>by rw[ay],?_⟩;clear yb yd;have eow:ln.C ow=wc1:=by rw[b9,av]
           refine Ai (i:=9) AH ?_;refine Am ?_;intro yd yb;refine Z3 ?_;refine yb.o _ _ ⟨fun _ o ho _=>by rw[ay],?_⟩;clear yb yd;refine Ai (i:=10) AH ?_;refine Am ?_;intro yd yb;refine Z3 ?_;refine yb.o _ _ ⟨fun _ o ho _=>by rw[ay],?_⟩;clear yb yd;refine Ai (i:=11) AH ?_;refine Am ?_;intro yd yb;refine Z3 ?_;refine yb.o _ _ ⟨A5 rfl,?_⟩;clear yb yd;refine Ax AH ⟨rfl,?_⟩
           have b5:=FH.addO (l':=ln.put ow (wc1.set 3 (sl idn (Z O+1) (oc++[sc (.bool x.h.nt),str x.h.B,sl ih (Z x.h.A) (x.h.A.map str)])))) (id':=idn) ah (a:=x.h) ⟨ih,rfl⟩ ev co cp (fun o ho bb=>by
            rw[show∀(S:St) c,(S.put ow c).C o=S.C o from fun S c=>by simp[St.put,bb],b9]) (fun o ho bb=>by
            rw[show∀(S:St) c,(S.put ow c).ver o=S.ver o from fun S c=>by simp[St.put,bb],ay]) (by simp only[Ab];omega) (by simp only[Nc];omega) (fun j hj bb=>by rw[Od];exact etop j hj bb) (by rw[Ak,cc.o])
           exact⟨idn,O++[x.h],_,Bq,N+1,b5.1,ak.trans b5.2,HI.o,by simp only[AX,BQ,CP];omega⟩
          ·rintro e s5 l6 ⟨rfl,HQ⟩;have HQ:AD _:=HQ
           refine zz ?_
           first|exact⟨_,rfl,HQ.o⟩|exact HQ.o|exact⟨_,rfl⟩
       ·have cq:decide ((j:Int)<0)=false:=by simp
        have eb:0<p:=by
         rw[<-hH.cnt,MU];exact⟨b0,BD bm,bi⟩
        obtain⟨q,rfl⟩:∃q,p=q+1:=⟨p-1,AA⟩;have ey:=IH q rfl;have cu:0<Z x.A:=by have:=(BG.1 bm).1;omega
        have cr:Er c0 (Z A) (q+1)=1+Z A*Er c0 (Z A) q:=rfl;have d0:AD (N6 fz A mo x j O (Sa B) 0 O (Sa Bq)):=by rw[AD,c7.o];exact rP hH.cl cu hnd hlen hS
        have e5:=EL.length Bb hA.el
        refine pz ?_
        refine Ae (fun m s l'=>∃(k ido' N':Nat) (O':List AC) (oc':List AV) (B':BK),m=Z A-k/\k<=Z A/\s 0=ptr ow 0/\s 3=ptr l.B 0/\s 5=ic j/\s 6=ic k/\FH l' ow ida (Z A) cA fz mo ido' O' oc' B' N'/\KW ow (Dq ido (Z O) B) (Dq ido' (Z O') B') l l'/\l.B<l'.B/\l'.C l.B=[sc (.bool x.o),sc (.bool x.h.nt),str x.h.B,sl ih (Z x.h.A) (x.h.A.map str),sl id (Z x.A) b]/\N'+Z O<=N+1+Z O'+k*Er c0 (Z A) q/\(Z O':Int)<=mo+1/\AD (N6 fz A mo x j O (Sa B) k O' (Sa B')/\∀a∈O',EU a)) (Z A)
         ⟨0,ido,N+1,O,oc,Bq,AA,AA,AI,AI,AI,AG,b6,ab,AA,ap,AA,hlen,d0.o,hOc⟩ ?_
        clear cq ae b6 a7 ap ab bn di dd dh df dc cc d0 bh bu g5 e0 e3 cg bp;rintro m s l5 ⟨k,ido',N',O',oc',B',rfl,hk,h0,h3,h5,h6,ah,ab,ck,a3,eo,et,bf⟩;have av:=ah.ob;have ef:=ah.lo;have db:(C2 ida (Z A) cA fz mo ido' (Z O') oc' B')[0]?=some (sl ida (Z A) cA):=rfl;have da:(C2 ida (Z A) cA fz mo ido' (Z O') oc' B').head?=some (sl ida (Z A) cA):=rfl;have c9:=Ji (ida:=ida) (nA:=Z A) (cA:=cA) (fz:=fz) (mo:=mo) (ido:=ido') (nO:=Z O') (oc:=oc') ah.bl;generalize a6:C2 ida (Z A) cA fz mo ido' (Z O') oc' B'=wc2 at av db da c9;clear a6;have cf:=ab.B;by_cases cm:k<Z A
        ·have ax:=AJ cm;have ca:=AT cm;obtain⟨it,r,hd⟩:=Cf hA.el ax;generalize A[k]=t at ax ca hd;have ea:=(hA.cl t ca).2.2;have cz:=fun l=>fN x _ j t _ b0 bw ⟨it,rfl⟩ ai bm ea l;have HG:AD (A[k]?=some t):=ax;clear ax
         refine pz ?_
         refine Az (Q:=fun e s' l''=>e= .normal/\s' 0=ptr ow 0/\s' 3=ptr l.B 0/\s' 5=ic j/\s' 6=ic k/\AE l5 l''/\∃y iy jy cy ok o7,s' 7=ptr o7 0/\s' 8=sc (.bool ok)/\EL Bo y.A cy/\OZ x j t y ok/\l5.B<=o7/\o7<l''.B/\l''.C o7=[sc (.bool y.o),sc (.bool y.h.nt),str y.h.B,sl iy (Z y.h.A) (y.h.A.map str),sl jy (Z y.A) cy]) ?_ ?_
         ·refine Aq Ag (fun _=>True) [] [0,1,2,3,4,5,6,7,8] 7 #[true,true,true,true,true,true,true,true,true,false,false,false,false,false,false,false] AH (fun _ _ _ h=>by cases h.1) ?_;intro yd yb;refine Z3 ?_;refine yb.o _ ?_;clear yb yd;refine Eo (rs:=[9,13]) AH (by simp) ?_;intro i hi;simp only[BB,EN,DY]at hi;rcases hi with rfl|rfl
          ·refine Am ?_;intro yd yb;refine Z3 ?_;refine AF.mono (cz _) ?_;rintro _ l6 ⟨y,cy0,ok,rfl,bv,b3,ac⟩;obtain⟨iy,jy,cy,bd,rfl⟩:=bv.cells;unfold Bm;refine Z3 ?_;refine yb.o _ _ ⟨Al ac,?_⟩;clear yb yd;have a0:=ac.B;refine Ed (i:=10) _ (tp [ag [sc (.bool y.o),sc (.bool y.h.nt),str y.h.B,sl iy (Z y.h.A) (y.h.A.map str),sl jy (Z y.A) cy],sc (.bool ok)]) rfl rfl rfl rfl rfl AH AH (fun _ _ _ h=>by cases h.1) (fun o ho _=>ac.ver o ho) ?_;refine Ed (i:=11) _ (ag [sc (.bool y.o),sc (.bool y.h.nt),str y.h.B,sl iy (Z y.h.A) (y.h.A.map str),sl jy (Z y.A) cy]) rfl rfl rfl rfl rfl AH AH (fun _ _ _ h=>by cases h.1) (fun o ho _=>ac.ver o ho) ?_;refine Ed (i:=12) _ (sc (.bool ok)) rfl rfl rfl rfl rfl AH AH (fun _ _ _ h=>by cases h.1) (fun o ho _=>ac.ver o ho) ?_;refine Ai (i:=13) AH ?_;refine Am ?_;intro yd yb;refine Z3 ?_;refine yb.o _ _ ⟨Al (ac.new _),?_⟩;clear yb yd;refine Ai (i:=14) AH ?_;refine Am ?_;intro yd yb;refine Z3 ?_;refine yb.o _ _ ⟨Al ((ac.new _).put AA _),?_⟩;clear yb yd;refine Ai (i:=15) AH ?_;refine Am ?_;intro yd yb;refine Z3 ?_;refine yb.o _ _ ⟨Al ((ac.new _).put AA _),?_⟩;clear yb yd;refine Ax AH ⟨rfl,AI,AI,AI,AI,(ac.new _).put AA _,y,iy,jy,cy,ok,l6.B,AG,AG,bd,b3,AA,BM,Ak⟩
          ·refine Am ?_;intro yd yb;refine Z3 ?_;refine yb.o _ _ ⟨Al ((AE.refl _).new _),?_⟩;clear yb yd;refine Ai (i:=9) AH ?_;refine Am ?_;intro yd yb;refine Z3 ?_;refine AF.mono (cz _) ?_;rintro _ l6 ⟨y,cy0,ok,rfl,bv,b3,ac⟩;obtain⟨iy,jy,cy,bd,rfl⟩:=bv.cells;unfold Bm;have an:AE l5 l6:=((AE.refl l5).new _).trans ac;have a0:=ac.B;have ce:=ac.C l5.B AK;rw[Ao]at ce;simp only[Aa]at a0;refine Z3 ?_;refine yb.o _ _ ⟨Al an,?_⟩;clear yb yd;refine Ed (i:=10) _ (tp [ag [sc (.bool y.o),sc (.bool y.h.nt),str y.h.B,sl iy (Z y.h.A) (y.h.A.map str),sl jy (Z y.A) cy],sc (.bool ok)]) rfl rfl rfl rfl rfl AH AH (fun _ _ _ h=>by cases h.1) (fun o ho _=>an.ver o ho) ?_;refine Ed (i:=11) _ (ag [sc (.bool y.o),sc (.bool y.h.nt),str y.h.B,sl iy (Z y.h.A) (y.h.A.map str),sl jy (Z y.A) cy]) rfl rfl rfl rfl rfl AH AH (fun _ _ _ h=>by cases h.1) (fun o ho _=>an.ver o ho) ?_;refine Ed (i:=12) _ (sc (.bool ok)) rfl rfl rfl rfl rfl AH AH (fun _ _ _ h=>by cases h.1) (fun o ho _=>an.ver o ho) ?_;refine Ai (i:=14) AH ?_;refine Am ?_;intro yd yb;refine Z3 ?_;refine yb.o _ _ ⟨Al (an.put (AR _) _),?_⟩;clear yb yd;refine Ai (i:=15) AH ?_;refine Am ?_;intro yd yb;refine Z3 ?_;refine yb.o _ _ ⟨Al (an.put (AR _) _),?_⟩;clear yb yd;refine Ax AH ⟨rfl,AI,AI,AI,AI,an.put (AR _) _,y,iy,jy,cy,ok,l5.B,AG,AG,bd,b3,AA,by simp only[Ab];omega,Ak⟩
         ·rintro e s' l6 ⟨rfl,h0,h3,h5,h6,ac,y,iy,jy,cy,ok,o7,h7,h8,bv,b3,e7,e8,ed⟩;have a0:=ac.B;have ds:=ah.keep ac;have ak:=ab.trans (KW.ofKeep ac);have ci:l6.C l.B=[sc (.bool x.o),sc (.bool x.h.nt),str x.h.B,sl ih (Z x.h.A) (x.h.A.map str),sl id (Z x.A) b]:=by rw[ac.C _ ck,a3]
          obtain⟨d6,ec⟩:=b3;clear cz av a3 ah ab db da c9 hd ac;rcases ec with⟨rfl,b4⟩|⟨rfl,b4⟩
          ·obtain⟨dv,bq⟩:=hH.step bm bi (hA.gnd t ca) (hA.cl t ca) b4;have d7:AN y [sc (.bool y.o),sc (.bool y.h.nt),str y.h.B,sl iy (Z y.h.A) (y.h.A.map str),sl jy (Z y.A) cy]:=⟨[sc (.bool y.h.nt),str y.h.B,sl iy (Z y.h.A) (y.h.A.map str)],jy,cy,⟨iy,rfl⟩,bv,rfl⟩;have eq:=fun l=>Zo y _ j d7 d6.1 l;have c6:AD (N6 fz A mo x j O (Sa B) k O' (Sa B')):=bf.o.1;have d1:AD (∀a∈O',EU a):=bf.o.2;have ee:k*Er c0 (Z A) q+Er c0 (Z A) q<=Z A*Er c0 (Z A) q:=by
            rw[<-JG];exact FU _ cm
           have ew:∀c',AN (F7 y j) c'->∀l,FH l ow ida (Z A) cA fz mo ido' O' oc' B' N'->AF Tryz.prog 202 [ptr ow 0,ag c'] l fun r l'=>Uc fz A cA ida mo c0 q (F7 y j) ow ido' O' B' N' l l':=fun c' ct l hW=>ey (F7 y j) c' ct dv ow ido' O' oc' B' N' l hW AA c6.o.nd et d1.o (by rw[bq];exact c6.o.seen);clear bf
           repeat' first|refine Z1 ?_|refine Z8 fun yd yb=>?_|refine Z4 ?_;clear yb yd|refine Z2 ?_ ?_<;>intro h aj<;>try exact Xp|(refine Z5 ?_;first|(refine Xi (eq _) ?_;rintro _ _ ⟨c',rfl,ct,an⟩;(have d4:=an.B;have ez:=ew c' ct))|(refine Xi (ez _ (ds.keep (Xs))) ?_;rintro _ _ ⟨ido2,O2,oc2,B2q,N2,er,bg,cx,fa⟩))|refine Z3 ?_|exact Zt|apply yb.o;clear yb yd
           rename_i l8 l9;have cw:=(ak.trans (KW.ofKeep an)).trans bg;have bb:l.B≠ow:=AA;have d8:l9.C l.B=[sc (.bool x.o),sc (.bool x.h.nt),str x.h.B,sl ih (Z x.h.A) (x.h.A.map str),sl id (Z x.A) b]:=by rw[bg.C _ AA bb,an.C _ AA,ci]
           have d3:=bg.B;have HN:AD (N6 fz A mo x j O (Sa B) (k+1) O2 (Sa B2q)/\∀a∈O2,EU a):=⟨yU hA.gnd hH.cl.1 bm bi c6.o HG.o b4 cx bq,ZS hA dv d1.o cx⟩;have bc:N2+Z O<=N+1+Z O2+(k+1)*Er c0 (Z A) q:=by rw[JG];omega
           have fb:=cx.len;refine⟨Z A-(k+1),AA,k+1,ido2,N2,O2,oc2,B2q,?_⟩
           ((repeat' refine Zi ?_ ?_)<;>first|exact Xq|exact HN|exact er|exact cw|exact bc|exact Xs)
          ·have HN:AD (N6 fz A mo x j O (Sa B) (k+1) O' (Sa B')/\∀a∈O',EU a):=⟨yV bf.o.1 HG.o b4,bf.o.2⟩;have bc:N'+Z O<=N+1+Z O'+(k+1)*Er c0 (Z A) q:=by rw[JG];omega
           clear b4
           refine pz ?_
           refine⟨Z A-(k+1),AA,k+1,ido',N',O',oc',B',?_⟩
           ((repeat' refine Zi ?_ ?_)<;>first|exact Xq|exact HN|exact ds|exact ak|exact bc|exact Xs)
        ·have eh:k=Z A:=AA;subst eh
         have HQ:AD (Uc fz A cA ida mo c0 (q+1) x ow ido O B N l l5):=
          ⟨ido',O',oc',B',N',ah,ab,ma hA.gnd hH.cl bm bi hS bf.o.1,by rw[cr];omega⟩
         clear bf ah ab
         refine pz ?_
         first|exact⟨_,rfl,HQ.o⟩|exact HQ.o|exact⟨_,rfl⟩
structure KH (io:Nat)(l l':St):Prop where
 B:l.B<=l'.B
 C:∀o,o<l.B->l'.C o=l.C o
 ver:∀o,o<l.B->l'.ver o=l.ver o
 D:l.D<=l'.D
 top:∀k,k<l.D->k+2≠io->l'.top k=l.top k
structure iJ (fz:Bool)(A:List AC)(mo:Int)(x:AB)(O O':List AC):Prop where
 ext:∃nw,O'=O++nw/\∀h∈nw,Tn fz A x h/\h∉A
 nd:O'.Nodup
 len:(Z O':Int)<=mo+1
 done:(Z O':Int)<=mo->CR fz A O' x
def JS:BK:=List.replicate 4096 (1,[])
theorem YY (s):¬Sa JS s:=by
 rintro⟨x,hx,hm⟩;have:x=(1,[]):=by
  have:=BD hx;exact (JB.1 this).2
 subst this;simp at hm
theorem zC (fz A cA ida mo c0)(hA:E6 A cA)(hm0:0<=mo)(hm1:mo<=900):∀p,QL fz A cA ida mo c0 p:=by
 intro p;induction p with
 |zero=>exact dP fz A cA ida mo c0 hA hm0 hm1 0 (fun q h=>AA)
 |succ p ih=>exact dP fz A cA ida mo c0 hA hm0 hm1 (p+1) (fun q h=>by have:p=q:=AA;subst this;exact ih)
theorem FH.outs {l ow ida nA cA fz mo ido O oc B N}(h:FH l ow ida nA cA fz mo ido O oc B N):∃wc:List AV,l.C ow=wc/\wc[3]?=some (sl ido (Z O) oc)/\Z wc=4100:=⟨_,h.ob,rfl,Ji h.bl⟩
theorem xA {ida nA cA fz mo ido nO oc}:(((((OO.map cst1).set 0 (sl ida nA cA)).set 1 (sc (.bool fz))).set 3 (sl ido nO oc)).set 2 (ic mo))=C2 ida nA cA fz mo ido nO oc JS:=by
 have e:OO.map cst1=nilS::sc (.bool false)::ic 0::nilS::List.replicate 4096 nilS:=by
  unfold OO;rw[FO,List.map_replicate];rfl
 rw[e];unfold C2 Qv JS;rw[List.map_replicate];rfl
theorem WO (l){ido nO}(h:Live l ido nO):JJ l (Dq ido nO JS):=by
 have hm:∀x∈JS.map (fun x:Nat×List Tx=>(x.1,Z x.2)),x=(1,0):=fun x hx=>by
  obtain⟨y,hy,rfl⟩:=AO.1 hx;rw[(JB.1 hy).2];rfl
 refine⟨fun x hx=>?_,fun i j x y hx hy aa=>?_⟩
 ·rcases BB.1 hx with rfl|hx
  ·exact h
  ·rw[hm x hx];exact .inl ⟨rfl,rfl⟩
 ·cases i with
  |zero=>
   cases j with
   |zero=>omega
   |succ j=>
    have:=hm y (BD (i:=j) (by simpa[Dq]using hy));subst this;by_cases e:x.1=1
    ·exact .inl e
    ·exact .inr e
  |succ i=>
   have:=hm x (BD (i:=i) (by simpa[Dq]using hx));subst this;exact .inl rfl
theorem cR {ido nO x}(h:x∈Dq ido nO JS):x.1=ido\/x.1=1:=by
 rcases BB.1 h with rfl|h
 ·exact .inl rfl
 ·obtain⟨y,hy,rfl⟩:=AO.1 h;rw[(JB.1 hy).2];exact .inr rfl
theorem sE (fz A cA ida mo c0 p)(hA:E6 A cA)(hm0:0<=mo)(hm1:mo<=900)(x c)(hc:AN x c)(hH:CL fz c0 p x)(hcost:Er c0 (Z A) p+2002<=1000000000000)(O oc ido)(hO:EL Bo O oc)(hOc:∀a∈O,EU a)(hnd:O.Nodup)(hlen:(Z O:Int)<=mo+1)(l)(hL:Live l ido (Z O)):
  AF Tryz.prog 169 [ag c,sl ida (Z A) cA,sc (.bool fz),sl ido (Z O) oc,ic mo] l fun r l'=>∃ido' O' oc',r=sl ido' (Z O') oc'/\EL Bo O' oc'/\Live l' ido' (Z O')/\(ido'=ido\/ido'=1\/l.D+2<=ido')/\KH ido l l'/\iJ fz A mo x O O':=by
 have ae:=hc;obtain⟨ih,id,b,hb,rfl⟩:=hc.cells;unfold Bm;unfold Bm at ae
 have af:FH ((l.new [sc (.bool x.o),sc (.bool x.h.nt),str x.h.B,sl ih (Z x.h.A) (x.h.A.map str),sl id (Z x.A) b]).new (((((OO.map cst1).set 0 (sl ida (Z A) cA)).set 1 (sc (.bool fz))).set 3 (sl ido (Z O) oc)).set 2 (ic mo))) (l.B+1) ida (Z A) cA fz mo ido O oc JS 0:=
  ⟨by rw[Bg AK AK];exact xA,AK,by simp[JS],hO,WO _ hL,fun y hy=>by rw[(JB.1 hy).2];simp⟩
 have ak:=zC fz A cA ida mo c0 hA hm0 hm1 p x _ ae hH (l.B+1) ido O oc JS 0 _ af AA hnd hlen hOc (fun y _ _ hs=>absurd hs (YY _));clear af;refine Z9 25 [.tmp 10] Tryz.func169 ?_
 refine qb ?_;intro yd yb;refine Xi (ak) ?_;rintro _ _ ⟨ido',O',oc',B',N',ad,aa,ab,au⟩;(obtain⟨wc1,ah,ao,an⟩:=ad.outs;have ac:=aa.B;simp only[Aa]at ac);refine pz ?_
 rename_i l1;have ai:Live l1 ido' (Z O'):=ad.rw'.1 (ido',Z O') (by simp[Dq]);have hid:ido'=ido\/ido'=1\/l.D+2<=ido':=by
  rcases aa.mid (ido',Z O') (by simp[Dq])with⟨y,hy,e⟩|e|e
  ·rcases cR hy with h|h
   ·exact .inl (e.symm.trans h)
   ·exact .inr (.inl (e.symm.trans h))
  ·exact .inr (.inl e)
  ·exact .inr (.inr e)
 have aj:KH ido l l1:=
  ⟨AA,fun o ho=>by rw[aa.C o AK AA,Ah AK,Ah AA],fun o ho=>by rw[aa.ver o AK AA];rfl,aa.D,fun k hk ap=>aa.top k hk (fun y hy e=>by
   rcases cR hy with h|h<;>omega)⟩
 have am:iJ fz A mo x O O':=⟨ab.ext,ab.nd,ab.len,ab.done⟩;exact⟨_,rfl,ido',O',oc',rfl,ad.oe,ai,hid,aj,am⟩
end Go.Proofs.YtmoeoppbmhfbpabGreatDoorI
