import Derived.Test.YtmoeoppbmhfbpabGreatDoorIDocA
import Derived.Test.YtmoeoppbmhfbpabGreatDoorIEngN
import Derived.Test.YtmoeoppbmhfbpabGreatDoorIEngR
import Derived.Test.YtmoeoppbmhfbpabGreatDoorISpaE
set_option maxHeartbeats 32000000
set_option maxRecDepth 100000
set_option linter.all false
open List renaming length->Z
namespace Go.Proofs.YtmoeoppbmhfbpabGreatDoorI
open Go.Abs
def QS (fz:Bool)(x:AB)(n:Int):Prop:=(n= -1/\∀a∈x.A,Ix fz a=false)\/∃(j:Nat) (b:AC),n=j/\x.A[j]?=some b/\Ix fz b=true
def EW (fz:Bool)(x:AB)(i:Nat)(n:Int):Prop:=(n= -1/\∀a∈x.A.take i,Ix fz a=false)\/∃(j:Nat) (b:AC),n=j/\j<i/\x.A[j]?=some b/\Ix fz b=true
theorem EW.skip {fz x i n w}(h:EW fz x i n)(hw:x.A[i]?=some w)(hp:Ix fz w=false):EW fz x (i+1) n:=by
 rcases h with⟨h1,h2⟩|⟨j,b,h1,h2,h3,h4⟩
 ·refine .inl ⟨h1,fun a ha=>?_⟩;rw[AU,hw]at ha;rcases AW.1 ha with h'|h'
  ·exact h2 a h'
  ·simp at h';subst h';exact hp
 ·exact .inr ⟨j,b,h1,AA,h3,h4⟩
theorem qM (x c fz)(hc:AN x c)(hx:x.fits)(d):AF Tryz.prog 239 [ag c,sc (.bool fz)] d fun r d'=>∃n,r=ic n/\QS fz x n/\AE d d':=by
 obtain⟨ih,id,b,hb,rfl⟩:=hc.cells;have bb:=EL.length Bb hb;have bc:=hx.1;unfold Bm;refine Z9 43 [.tmp 4] Tryz.func239 ?_
 refine zx ?_
 refine Ae (fun m s d'=>∃(i:Nat) (n:Int),m=Z x.A-i/\i<=Z x.A/\s 1=sc (.bool fz)/\s 2=ptr d.B 0/\s 5=ic n/\s 6=ic i/\AE d d'/\d.B<d'.B/\d'.C d.B=[sc (.bool x.o),sc (.bool x.h.nt),str x.h.B,sl ih (Z x.h.A) (x.h.A.map str),sl id (Z x.A) b]/\AD (EW fz x i n)) (Z x.A)
  ⟨0,-1,AA,AA,by simp[upd,AM],AG,AG,AG,Xs,AK,Ao,.inl ⟨rfl,fun a ha=>by simp at ha⟩⟩ ?_
 rintro m s d' ⟨i,n,rfl,hi,h1,h2,h5,h6,hK,av,ao,hN⟩;have a8:=hK.B;by_cases aw:i<Z x.A
 ·have ab:=AJ aw;obtain⟨ia,r,hd⟩:=Cf hb ab;have ap:=hx.2.2 _ (AT aw);generalize x.A[i]=w at hd ab ap;cases hp:Ix fz w with
  |false=>
   have HN:AD (EW fz x (i+1) n):=hN.o.skip ab hp;have hnt:w.nt=true:=by unfold Ix at hp;simp at hp;exact hp.2
   have ah:fz=false:=by unfold Ix at hp;simp at hp;exact hp.1
   subst ah;clear ab hp
   refine p6 ?_
   refine⟨Z x.A-(i+1),AA,i+1,n,?_⟩
   exact qh HN
  |true=>
   have HN:AD (EW fz x (i+1) (i:Nat)):=.inr ⟨i,w,rfl,AA,ab,hp⟩;have au:w.nt=false\/(w.nt=true/\fz=true):=by
    unfold Ix at hp;cases hw:w.nt with
    |false=>exact .inl rfl
    |true=>rw[hw]at hp;simp at hp;exact .inr ⟨rfl,hp⟩
   clear hp;have ay:AD (EW fz x (i+1) n\/n= -1):=by
    rcases hN.o with⟨h1,h2⟩|⟨j,b,h1,h2,h3,h4⟩
    ·exact .inr h1
    ·exact .inl (.inr ⟨j,b,h1,AA,h3,h4⟩)
   have aj:=fun d=>M9 w _ ⟨ia,rfl⟩ ap d;have a4:=dK w;generalize Kg w=lw at aj a4;clear ab;have ai:n= -1\/∃(j:Nat) (b':AC),n=j/\x.A[j]?=some b':=by
    rcases hN.o with⟨h1,h2⟩|⟨j,b,h1,h2,h3,h4⟩
    ·exact .inl h1
    ·exact .inr ⟨j,b,h1,h3⟩
   rcases ai with a3|⟨j,b',a0,ak⟩
   ·subst a3;have a6:decide ((-1:Int)<0)=true:=by decide
    rcases au with hnt|⟨hnt,ah⟩
    ·
     refine p6 ?_
     refine Az (Q:=fun e s' d''=>e= .normal/\s' 40=sc (.bool true)/\s' 1=s 1/\s' 2=s 2/\s' 5=s 5/\s' 6=s 6/\d''=d') ?_ ?_
     ·refine Aq Ag (fun _=>True) [] [0,1,2,3,4,5,6,7,9,10,11,12,13] 4 #[true,true,true,true,true,true,true,true,false,true,true,true,true,true,false,false,false] AH (fun _ _ _ h=>by cases h.1) ?_;intro yd yb;refine Z7 ?_;refine yb.o _ ?_;clear yb yd;refine Ai (i:=8) AH ?_;refine Am ?_;intro yd yb;refine Z7 ?_;refine yb.o _ _ ⟨kept_refl,?_⟩;clear yb yd;refine Ai (i:=14) AH ?_;refine Am ?_;intro yd yb;refine Z7 ?_;refine yb.o _ _ ⟨kept_refl,?_⟩;clear yb yd;refine Ci [15,16] AH AH (fun _ _ _ h=>by cases h.1) (AR _) (fun o ho _=>rfl) ?_;intro yd yb;refine Z7 ?_;refine yb.o _ _ ⟨rfl,?_⟩;simp[upd]
     ·rintro e s' d'' ⟨rfl,g40,g1,g2,g5,g6,rfl⟩;rw[h1]at g1;rw[h2]at g2;rw[h5]at g5;rw[h6]at g6;refine Bt g40 ?_
      refine zx ?_
      refine⟨Z x.A-(i+1),AA,i+1,(i:Nat),?_⟩
      exact qh HN
    ·subst ah
     refine p6 ?_
     refine Az (Q:=fun e s' d''=>e= .normal/\s' 40=sc (.bool true)/\s' 1=s 1/\s' 2=s 2/\s' 5=s 5/\s' 6=s 6/\d''=d') ?_ ?_
     ·refine Aq Ag (fun _=>True) [] [0,1,2,3,4,5,6,7,9,10,11,12,13] 4 #[true,true,true,true,true,true,true,true,false,true,true,true,true,true,false,false,false] AH (fun _ _ _ h=>by cases h.1) ?_;intro yd yb;refine Z7 ?_;refine yb.o _ ?_;clear yb yd;refine Ai (i:=8) AH ?_;refine Am ?_;intro yd yb;refine Z7 ?_;refine yb.o _ _ ⟨kept_refl,?_⟩;clear yb yd;refine Ai (i:=14) AH ?_;refine Am ?_;intro yd yb;refine Z7 ?_;refine yb.o _ _ ⟨kept_refl,?_⟩;clear yb yd;refine Ci [15,16] AH AH (fun _ _ _ h=>by cases h.1) (AR _) (fun o ho _=>rfl) ?_;intro yd yb;refine Z7 ?_;refine yb.o _ _ ⟨rfl,?_⟩;simp[upd]
     ·rintro e s' d'' ⟨rfl,g40,g1,g2,g5,g6,rfl⟩;rw[h1]at g1;rw[h2]at g2;rw[h5]at g5;rw[h6]at g6;refine Bt g40 ?_
      refine zx ?_
      refine⟨Z x.A-(i+1),AA,i+1,(i:Nat),?_⟩
      exact qh HN
   ·subst a0;have a9:=(BG.1 ak).1;obtain⟨ja,r2,ba⟩:=Cf hb ak;have a7:=hx.2.2 _ (BD ak);have an:=fun d=>M9 b' _ ⟨ja,rfl⟩ a7 d;have a5:=dK b';generalize Kg b'=lb at an a5;have ax:AD (EW fz x (i+1) (j:Nat)):=by
     rcases ay.o with h|h
     ·exact h
     ·omega
    clear ay ak;have a6:decide ((j:Int)<0)=false:=by simp
    rcases au with hnt|⟨hnt,ah⟩
    ·
     rw[hnt]at aj
     refine p6 ?_
     refine Az (Q:=fun e s' d''=>e= .normal/\s' 40=sc (.bool (decide ((lw:Int)<lb)))/\s' 1=s 1/\s' 2=s 2/\s' 5=s 5/\s' 6=s 6/\AE d' d'') ?_ ?_
     ·refine Aq Ag (fun _=>True) [] [0,1,2,3,4,5,6,7,9,10,11,12,13] 4 #[true,true,true,true,true,true,true,true,false,true,true,true,true,true,false,false,false] AH (fun _ _ _ h=>by cases h.1) ?_;intro yd yb;refine Z7 ?_;refine yb.o _ ?_;clear yb yd;refine Ai (i:=8) AH ?_;refine Am ?_;intro yd yb;refine Z7 ?_;refine AF.mono (aj _) ?_;rintro _ d5 ⟨rfl,ae⟩;refine Z7 ?_;refine yb.o _ _ ⟨Al ae,?_⟩;clear yb yd;refine Ai (i:=14) AH ?_;refine Am ?_;intro yd yb;refine Z7 ?_;refine AF.mono (an _) ?_;rintro _ d6 ⟨rfl,aa⟩;refine Z7 ?_;refine yb.o _ _ ⟨Al (ae.trans aa),?_⟩;clear yb yd;refine Ci [15,16] AH AH (fun _ _ _ h=>by cases h.1) (ae.trans aa).B (fun o ho _=>(ae.trans aa).ver o ho) ?_;intro yd yb;refine Z7 ?_;refine yb.o _ _ ⟨rfl,?_⟩;simp[upd,ae.trans aa]
     ·rintro e s' d'' ⟨rfl,g40,g1,g2,g5,g6,aa⟩;rw[h1]at g1;rw[h2]at g2;rw[h5]at g5;rw[h6]at g6;have am:=aa.B;have ac:=aa.C;have az:d''.C d.B=[sc (.bool x.o),sc (.bool x.h.nt),str x.h.B,sl ih (Z x.h.A) (x.h.A.map str),sl id (Z x.A) b]:=by rw[ac _ av,ao]
      clear ac;by_cases af:(lw:Int)<lb
      ·rw[show decide ((lw:Int)<lb)=true from by simpa using af]at g40;refine Bt g40 ?_
       refine zx ?_
       refine⟨Z x.A-(i+1),AA,i+1,(i:Nat),?_⟩
       exact qi HN (hK.trans aa)
      ·rw[show decide ((lw:Int)<lb)=false from by simpa using af]at g40;refine Ct g40 ?_
       refine zx ?_
       refine⟨Z x.A-(i+1),AA,i+1,(j:Nat),?_⟩
       exact qi ax (hK.trans aa)
    ·subst ah;rw[hnt]at aj
     refine p6 ?_
     refine Az (Q:=fun e s' d''=>e= .normal/\s' 40=sc (.bool (decide ((lw:Int)<lb)))/\s' 1=s 1/\s' 2=s 2/\s' 5=s 5/\s' 6=s 6/\AE d' d'') ?_ ?_
     ·refine Aq Ag (fun _=>True) [] [0,1,2,3,4,5,6,7,9,10,11,12,13] 4 #[true,true,true,true,true,true,true,true,false,true,true,true,true,true,false,false,false] AH (fun _ _ _ h=>by cases h.1) ?_;intro yd yb;refine Z7 ?_;refine yb.o _ ?_;clear yb yd;refine Ai (i:=8) AH ?_;refine Am ?_;intro yd yb;refine Z7 ?_;refine AF.mono (aj _) ?_;rintro _ d5 ⟨rfl,ae⟩;refine Z7 ?_;refine yb.o _ _ ⟨Al ae,?_⟩;clear yb yd;refine Ai (i:=14) AH ?_;refine Am ?_;intro yd yb;refine Z7 ?_;refine AF.mono (an _) ?_;rintro _ d6 ⟨rfl,aa⟩;refine Z7 ?_;refine yb.o _ _ ⟨Al (ae.trans aa),?_⟩;clear yb yd;refine Ci [15,16] AH AH (fun _ _ _ h=>by cases h.1) (ae.trans aa).B (fun o ho _=>(ae.trans aa).ver o ho) ?_;intro yd yb;refine Z7 ?_;refine yb.o _ _ ⟨rfl,?_⟩;simp[upd,ae.trans aa]
     ·rintro e s' d'' ⟨rfl,g40,g1,g2,g5,g6,aa⟩;rw[h1]at g1;rw[h2]at g2;rw[h5]at g5;rw[h6]at g6;have am:=aa.B;have ac:=aa.C;have az:d''.C d.B=[sc (.bool x.o),sc (.bool x.h.nt),str x.h.B,sl ih (Z x.h.A) (x.h.A.map str),sl id (Z x.A) b]:=by rw[ac _ av,ao]
      clear ac;by_cases af:(lw:Int)<lb
      ·rw[show decide ((lw:Int)<lb)=true from by simpa using af]at g40;refine Bt g40 ?_
       refine zx ?_
       refine⟨Z x.A-(i+1),AA,i+1,(i:Nat),?_⟩
       exact qi HN (hK.trans aa)
      ·rw[show decide ((lw:Int)<lb)=false from by simpa using af]at g40;refine Ct g40 ?_
       refine zx ?_
       refine⟨Z x.A-(i+1),AA,i+1,(j:Nat),?_⟩
       exact qi ax (hK.trans aa)
 ·have hil:i=Z x.A:=AA;subst hil;have HR:QS fz x n:=by
   rcases hN.o with⟨h1,h2⟩|⟨j,b,h1,h2,h3,h4⟩
   ·rw[AS]at h2;exact .inl ⟨h1,h2⟩
   ·exact .inr ⟨j,b,h1,h3,h4⟩
  refine p6 ?_
  first|exact⟨_,rfl,n,rfl,HR,hK⟩|exact⟨n,rfl,HR,hK⟩|exact⟨_,rfl,n,rfl,HR⟩
theorem VY {a}(h:EU a):Z (Lj a)<=1100000:=by
 have h1:=h.1.2;have h3:=h.2.2;have hT:∀ts:List Tx,(∀t∈ts,Clean t)->Z (ts.flatMap fun t=>(44:UInt8)::t)<=Z ts*1001:=by
  intro ts;induction ts with
  |nil=>intro _;simp
  |cons t ts ih=>
   intro hh;have e1:=ih (fun u hu=>hh u (by simp[hu]));have e2:=(hh t (by simp)).2;simp only[DK,AX,BQ];omega
 have h2:=hT a.A h.2.1;unfold Lj;simp only[AX];have:Z (if a.nt=true then [(33:UInt8)]else [])<=1:=by split<;>simp
 omega
def Qb (x:AB)(i:Nat):Tx:=((x.h::x.A).take i).flatMap fun a=>Lj a++[46]
theorem dM {x i w}(h:(x.h::x.A)[i]?=some w):Qb x (i+1)=Qb x i++(Lj w++[46]):=by
 unfold Qb;rw[AU,h,JL];simp
theorem xW (x c)(hc:AN x c)(hx:iM x)(a5:Z x.A<=1000)(d):AF Tryz.prog 264 [ag c] d fun r d'=>r=str (Fh x)/\AE d d':=by
 obtain⟨ih,id,b,hb,rfl⟩:=hc.cells;have a4:=EL.length Bb hb;have a8:({data:=#[33]}:ByteArray)=bs [33]:=rfl;have a7:({data:=#[44]}:ByteArray)=bs [44]:=rfl;have a6:({data:=#[46]}:ByteArray)=bs [46]:=rfl;unfold Bm;refine Z9 49 [.tmp 2] Tryz.func264 ?_
 refine zx ?_
 refine Ae (fun m s d'=>∃(i:Nat) (n:Int) (acc:Tx),m=Z x.A+1-i/\i<=Z x.A+1/\n=(i:Int)-1/\s 1=ptr d.B 0/\s 3=str acc/\s 4=ic n/\AE d d'/\d.B<d'.B/\d'.C d.B=[sc (.bool x.o),sc (.bool x.h.nt),str x.h.B,sl ih (Z x.h.A) (x.h.A.map str),sl id (Z x.A) b]/\Z acc<=i*1100001/\AD (acc=Qb x i)) (Z x.A+1)
  ⟨0,-1,[],AA,AA,AA,AG,AG,AG,Xs,AK,Ao,by simp,by simp[AD,Qb]⟩ ?_
 rintro m s d1 ⟨i,n,acc,rfl,hi,hn,h1,h3,h4,hK,af,ae,ah,hA⟩;have aj:=hK.B;by_cases ac:i<Z x.A+1
 ·have HA:AD _:=hA.o;clear hA;have a3:decide (n<(Z x.A:Int))=true:=by simp;omega
  have ay:n<=(i:Int)-1/\(i:Int)-1<=n:=AA;clear hn;by_cases h0:i=0
  ·have ao:decide ((0:Int)<=n)=false:=by simp;omega
   have ai:decide (n>=0)=false:=ao;have HW:AD (Qb x (i+1)=Qb x i++(Lj x.h++[46])):=dM (by rw[h0];rfl);have hw:=hx.2.1;have ax:=hw.1.2;have au:=hw.2.2;clear h0;cases ad:x.h.nt with
   |true=>
    refine p6 ?_
    refine Ae (fun m s d'=>∃(k:Nat) (acc2:Tx),m=Z x.h.A-k/\k<=Z x.h.A/\s 1=ptr d.B 0/\s 3=str acc2/\s 4=ic n/\s 5=ptr d1.B 0/\s 6=ic k/\AE d d'/\d1.B<d'.B/\d'.C d.B=[sc (.bool x.o),sc (.bool x.h.nt),str x.h.B,sl ih (Z x.h.A) (x.h.A.map str),sl id (Z x.A) b]/\d'.C d1.B=[sc (.bool x.h.nt),str x.h.B,sl ih (Z x.h.A) (x.h.A.map str)]/\Z acc2<=i*1100001+1001+k*1001/\AD (acc2=(acc++[33]++x.h.B)++(x.h.A.take k).flatMap fun t=>44::t)) (Z x.h.A)
     ⟨0,(acc++[33]++x.h.B),AA,AA,AI,AG,AI,AG,AG,Xs,BM,by simp (disch:=omega) only[Aj,Ah,Aa,ae,ad],by simp only[Ak,ad],by simp only[AX,BQ,CP];omega,by simp[AD]⟩ ?_
    have am:=af;clear h1 h3 h4 ae af hK aj ah ao ai;rintro m s d' ⟨k,acc2,rfl,hk,h1,h3,h4,h5,h6,hK,af,ae,av,ah,hA⟩;have aj:=hK.B;by_cases ac:k<Z x.h.A
    ·have aa:=AJ ac;have hd:=A7 ac;have ak:=(hw.2.1 _ (AT ac)).2;generalize x.h.A[k]=t at hd aa ak;have HN:AD ((acc2++[44])++t=(acc++[33]++x.h.B)++(x.h.A.take (k+1)).flatMap fun t=>44::t):=by
      rw[AD,AU,aa,JL,hA.o];simp
     have HL:Z ((acc2++[44])++t)<=i*1100001+1001+(k+1)*1001:=by simp only[AX,BQ,CP];omega
     clear aa
     refine p6 ?_
     refine⟨Z x.h.A-(k+1),AA,k+1,(acc2++[44])++t,?_⟩
     exact qi HN HL
    ·have an:k=Z x.h.A:=AA;subst an;have HN:AD (acc2++[46]=Qb x (i+1)):=by
      rw[AD,HW.o,hA.o,AS,<-HA.o];simp[Lj,ad]
     have ap:Z acc2<=i*1100001+1100000:=BO ah (by rw[IW];exact JN (BO (JN (FU 1001 au) 1001) (by decide)) _);have HL:Z (acc2++[46])<=(i+1)*1100001:=by simp only[AX,BQ,CP];omega
     refine p6 ?_
     refine⟨Z x.A+1-(i+1),AA,i+1,n+1,acc2++[46],?_⟩
     exact qi HN HL
   |false=>
    refine p6 ?_
    refine Ae (fun m s d'=>∃(k:Nat) (acc2:Tx),m=Z x.h.A-k/\k<=Z x.h.A/\s 1=ptr d.B 0/\s 3=str acc2/\s 4=ic n/\s 5=ptr d1.B 0/\s 6=ic k/\AE d d'/\d1.B<d'.B/\d'.C d.B=[sc (.bool x.o),sc (.bool x.h.nt),str x.h.B,sl ih (Z x.h.A) (x.h.A.map str),sl id (Z x.A) b]/\d'.C d1.B=[sc (.bool x.h.nt),str x.h.B,sl ih (Z x.h.A) (x.h.A.map str)]/\Z acc2<=i*1100001+1001+k*1001/\AD (acc2=(acc++x.h.B)++(x.h.A.take k).flatMap fun t=>44::t)) (Z x.h.A)
     ⟨0,(acc++x.h.B),AA,AA,AI,AG,AI,AG,AG,Xs,BM,by simp (disch:=omega) only[Aj,Ah,Aa,ae,ad],by simp only[Ak,ad],by simp only[AX,BQ,CP];omega,by simp[AD]⟩ ?_
    have am:=af;clear h1 h3 h4 ae af hK aj ah ao ai;rintro m s d' ⟨k,acc2,rfl,hk,h1,h3,h4,h5,h6,hK,af,ae,av,ah,hA⟩;have aj:=hK.B;by_cases ac:k<Z x.h.A
    ·have aa:=AJ ac;have hd:=A7 ac;have ak:=(hw.2.1 _ (AT ac)).2;generalize x.h.A[k]=t at hd aa ak;have HN:AD ((acc2++[44])++t=(acc++x.h.B)++(x.h.A.take (k+1)).flatMap fun t=>44::t):=by
      rw[AD,AU,aa,JL,hA.o];simp
     have HL:Z ((acc2++[44])++t)<=i*1100001+1001+(k+1)*1001:=by simp only[AX,BQ,CP];omega
     clear aa
     refine p6 ?_
     refine⟨Z x.h.A-(k+1),AA,k+1,(acc2++[44])++t,?_⟩
     exact qi HN HL
    ·have an:k=Z x.h.A:=AA;subst an;have HN:AD (acc2++[46]=Qb x (i+1)):=by
      rw[AD,HW.o,hA.o,AS,<-HA.o];simp[Lj,ad]
     have ap:Z acc2<=i*1100001+1100000:=BO ah (by rw[IW];exact JN (BO (JN (FU 1001 au) 1001) (by decide)) _);have HL:Z (acc2++[46])<=(i+1)*1100001:=by simp only[AX,BQ,CP];omega
     refine p6 ?_
     refine⟨Z x.A+1-(i+1),AA,i+1,n+1,acc2++[46],?_⟩
     exact qi HN HL
  ·have ao:decide ((0:Int)<=n)=true:=by simp;omega
   have ai:decide (n>=0)=true:=ao;have a0:0<=n:=AA;have aw:n.toNat<Z x.A:=AA;have az:n<(Z x.A:Int):=AA;have aa:=AJ aw;have hw:=hx.2.2 _ (AT aw);obtain⟨ia,r,hd⟩:=Cf hb aa;generalize x.A[n.toNat]=w at aa hw hd;have HW:AD (Qb x (i+1)=Qb x i++(Lj w++[46])):=dM (by rw[show i=n.toNat+1 by omega];exact aa);have ax:=hw.1.2;have au:=hw.2.2;clear aa h0;cases ad:w.nt with
   |true=>
    refine p6 ?_
    refine Ae (fun m s d'=>∃(k:Nat) (acc2:Tx),m=Z w.A-k/\k<=Z w.A/\s 1=ptr d.B 0/\s 3=str acc2/\s 4=ic n/\s 5=ptr d1.B 0/\s 6=ic k/\AE d d'/\d1.B<d'.B/\d'.C d.B=[sc (.bool x.o),sc (.bool x.h.nt),str x.h.B,sl ih (Z x.h.A) (x.h.A.map str),sl id (Z x.A) b]/\d'.C d1.B=[sc (.bool w.nt),str w.B,sl ia (Z w.A) (w.A.map str)]/\Z acc2<=i*1100001+1001+k*1001/\AD (acc2=(acc++[33]++w.B)++(w.A.take k).flatMap fun t=>44::t)) (Z w.A)
     ⟨0,(acc++[33]++w.B),AA,AA,AI,AG,AI,AG,AG,Xs,BM,by simp (disch:=omega) only[Aj,Ah,Aa,ae,ad],by simp only[Ak,ad],by simp only[AX,BQ,CP];omega,by simp[AD]⟩ ?_
    have am:=af;clear h1 h3 h4 ae af hK aj ah ao ai;rintro m s d' ⟨k,acc2,rfl,hk,h1,h3,h4,h5,h6,hK,af,ae,av,ah,hA⟩;have aj:=hK.B;by_cases ac:k<Z w.A
    ·have aa:=AJ ac;have hd:=A7 ac;have ak:=(hw.2.1 _ (AT ac)).2;generalize w.A[k]=t at hd aa ak;have HN:AD ((acc2++[44])++t=(acc++[33]++w.B)++(w.A.take (k+1)).flatMap fun t=>44::t):=by
      rw[AD,AU,aa,JL,hA.o];simp
     have HL:Z ((acc2++[44])++t)<=i*1100001+1001+(k+1)*1001:=by simp only[AX,BQ,CP];omega
     clear aa
     refine p6 ?_
     refine⟨Z w.A-(k+1),AA,k+1,(acc2++[44])++t,?_⟩
     exact qi HN HL
    ·have an:k=Z w.A:=AA;subst an;have HN:AD (acc2++[46]=Qb x (i+1)):=by
      rw[AD,HW.o,hA.o,AS,<-HA.o];simp[Lj,ad]
     have ap:Z acc2<=i*1100001+1100000:=BO ah (by rw[IW];exact JN (BO (JN (FU 1001 au) 1001) (by decide)) _);have HL:Z (acc2++[46])<=(i+1)*1100001:=by simp only[AX,BQ,CP];omega
     refine p6 ?_
     refine⟨Z x.A+1-(i+1),AA,i+1,n+1,acc2++[46],?_⟩
     exact qi HN HL
   |false=>
    refine p6 ?_
    refine Ae (fun m s d'=>∃(k:Nat) (acc2:Tx),m=Z w.A-k/\k<=Z w.A/\s 1=ptr d.B 0/\s 3=str acc2/\s 4=ic n/\s 5=ptr d1.B 0/\s 6=ic k/\AE d d'/\d1.B<d'.B/\d'.C d.B=[sc (.bool x.o),sc (.bool x.h.nt),str x.h.B,sl ih (Z x.h.A) (x.h.A.map str),sl id (Z x.A) b]/\d'.C d1.B=[sc (.bool w.nt),str w.B,sl ia (Z w.A) (w.A.map str)]/\Z acc2<=i*1100001+1001+k*1001/\AD (acc2=(acc++w.B)++(w.A.take k).flatMap fun t=>44::t)) (Z w.A)
     ⟨0,(acc++w.B),AA,AA,AI,AG,AI,AG,AG,Xs,BM,by simp (disch:=omega) only[Aj,Ah,Aa,ae,ad],by simp only[Ak,ad],by simp only[AX,BQ,CP];omega,by simp[AD]⟩ ?_
    have am:=af;clear h1 h3 h4 ae af hK aj ah ao ai;rintro m s d' ⟨k,acc2,rfl,hk,h1,h3,h4,h5,h6,hK,af,ae,av,ah,hA⟩;have aj:=hK.B;by_cases ac:k<Z w.A
    ·have aa:=AJ ac;have hd:=A7 ac;have ak:=(hw.2.1 _ (AT ac)).2;generalize w.A[k]=t at hd aa ak;have HN:AD ((acc2++[44])++t=(acc++w.B)++(w.A.take (k+1)).flatMap fun t=>44::t):=by
      rw[AD,AU,aa,JL,hA.o];simp
     have HL:Z ((acc2++[44])++t)<=i*1100001+1001+(k+1)*1001:=by simp only[AX,BQ,CP];omega
     clear aa
     refine p6 ?_
     refine⟨Z w.A-(k+1),AA,k+1,(acc2++[44])++t,?_⟩
     exact qi HN HL
    ·have an:k=Z w.A:=AA;subst an;have HN:AD (acc2++[46]=Qb x (i+1)):=by
      rw[AD,HW.o,hA.o,AS,<-HA.o];simp[Lj,ad]
     have ap:Z acc2<=i*1100001+1100000:=BO ah (by rw[IW];exact JN (BO (JN (FU 1001 au) 1001) (by decide)) _);have HL:Z (acc2++[46])<=(i+1)*1100001:=by simp only[AX,BQ,CP];omega
     refine p6 ?_
     refine⟨Z x.A+1-(i+1),AA,i+1,n+1,acc2++[46],?_⟩
     exact qi HN HL
 ·have hil:i=Z x.A+1:=AA;subst hil;have hA:=hA.o;have:Qb x (Z x.A+1)=Fh x:=by unfold Qb Fh;rw[FW (by simp)]
  rw[this]at hA;subst hA
  refine p6 ?_
  first|exact⟨_,rfl,rfl,hK⟩|exact⟨_,rfl,rfl⟩|exact⟨rfl,hK⟩
def JJ (d:St)(R:List (Nat×Nat)):Prop:=(∀x∈R,Live d x.1 x.2)/\∀(i j:Nat) (x y:Nat×Nat),R[i]?=some x->R[j]?=some y->i≠j->x.1=1\/x.1≠y.1
theorem JJ.keep {d d' R}(h:JJ d R)(k:AE d d'):JJ d' R:=⟨fun x hx=>(h.1 x hx).keep k,h.2⟩
structure KW (ow:Nat)(R R':List (Nat×Nat))(d d':St):Prop where
 B:d.B<=d'.B
 C:∀o,o<d.B->o≠ow->d'.C o=d.C o
 ver:∀o,o<d.B->o≠ow->d'.ver o=d.ver o
 D:d.D<=d'.D
 top:∀k,k<d.D->(∀x∈R,x.1≠k+2)->d'.top k=d.top k
 mid:∀x∈R',(∃y∈R,y.1=x.1)\/x.1=1\/d.D+2<=x.1
theorem KW.ofKeep {ow R d d'}(h:AE d d'):KW ow R R d d':=
 ⟨h.B,fun o ho _=>h.C o ho,fun o ho _=>h.ver o ho,h.D,fun k hk _=>h.top k hk,fun x hx=>.inl ⟨x,hx,rfl⟩⟩
theorem KW.trans {ow M M1 M2 d d1 d2}(h:KW ow M M1 d d1)(g:KW ow M1 M2 d1 d2):KW ow M M2 d d2 where
 B:=BO h.B g.B
 C:=fun o ho h1=>(g.C o (By ho h.B) h1).trans (h.C o ho h1)
 ver:=fun o ho h1=>(g.ver o (By ho h.B) h1).trans (h.ver o ho h1)
 D:=BO h.D g.D
 top:=fun k hk hx=>(g.top k (By hk h.D) (fun x aa e=>by
  rcases h.mid x aa with⟨y,hy,e2⟩|e2|e2
  ·exact hx y hy (e2.trans e)
  ·omega
  ·omega)).trans (h.top k hk hx)
 mid:=fun x hx=>by
  rcases g.mid x hx with⟨y,hy,e⟩|e|e
  ·rcases h.mid y hy with⟨z,hz,e2⟩|e2|e2
   ·exact .inl ⟨z,hz,e2.trans e⟩
   ·exact .inr (.inl AA)
   ·exact .inr (.inr AA)
  ·exact .inr (.inl e)
  ·exact .inr (.inr (by have:=h.D;omega))
theorem JJ.grow {d d' ow R k id' x}(hR:JJ d R)(hx:R[k]?=some x)(hL:Live d' id' (x.2+1))(hid:id'=x.1\/d.D+2<=id')(ac:id'≠1)
  (eob:∀o,o<d.B->o≠ow->d'.C o=d.C o) (ad:∀o,o<d.B->o≠ow->d'.ver o=d.ver o) (eno:d.B<=d'.B) (ento:d.D<=d'.D)
  (etop:∀j,j<d.D->j+2≠x.1->d'.top j=d.top j):JJ d' (R.set k (id',x.2+1))/\KW ow R (R.set k (id',x.2+1)) d d':=by
 have ae:=BD hx;have ai:k<Z R:=(BG.1 hx).1;have ab:∀(i:Nat) (y:Nat×Nat),R[i]?=some y->i≠k->Live d' y.1 y.2/\(y.1=1\/y.1≠id'):=fun i y hy ah=>by
  have af:=BD hy;rcases hR.1 y af with h|⟨j,e1,e2,e3,e4⟩
  ·exact⟨.inl h,.inl h.1⟩
  ·have ak:y.1≠x.1:=by
    rcases hR.2 i k y x hy hx ah with h|h
    ·omega
    ·exact h
   refine⟨.inr ⟨j,e1,By e2 ento,(etop j e2 AA).trans e3,e4⟩,.inr ?_⟩;rcases hid with h|h<;>omega
 have aa:∀(i:Nat) (y:Nat×Nat),(R.set k (id',x.2+1))[i]?=some y->(i=k/\y=(id',x.2+1))\/(i≠k/\R[i]?=some y):=fun i y hy=>by
  rw[GK]at hy;by_cases e:k=i
  ·subst e;rw[if_pos rfl,if_pos ai]at hy;exact .inl ⟨rfl,(IA hy).symm⟩
  ·rw[if_neg e]at hy;exact .inr ⟨fun h=>e h.symm,hy⟩
 refine⟨⟨fun y hy=>?_,fun i j y z hy hz aj=>?_⟩,⟨eno,eob,ad,ento,fun j hj h=>etop j hj (fun e=>h x ae e.symm),fun y hy=>?_⟩⟩
 ·obtain⟨i,hi⟩:=CO hy;rcases aa i y hi with⟨-,rfl⟩|⟨h1,h2⟩
  ·exact hL
  ·exact (ab i y h2 h1).1
 ·rcases aa i y hy with⟨h1,rfl⟩|⟨h1,h2⟩
  ·rcases aa j z hz with⟨h3,rfl⟩|⟨h3,h4⟩
   ·omega
   ·rcases (ab j z h4 h3).2 with h|h
    ·exact .inr fun e=>ac (Eq.trans e h)
    ·exact .inr (fun e=>h e.symm)
  ·rcases aa j z hz with⟨h3,rfl⟩|⟨h3,h4⟩
   ·exact (ab i y h2 h1).2
   ·exact hR.2 i j y z h2 h4 aj
 ·obtain⟨i,hi⟩:=CO hy;rcases aa i y hi with⟨-,rfl⟩|⟨h1,h2⟩
  ·rcases hid with h|h
   ·exact .inl ⟨x,ae,h.symm⟩
   ·exact .inr (.inr h)
  ·exact .inl ⟨y,BD h2,rfl⟩
abbrev BK:=List (Nat×List Tx)
def Qv (B:BK):List AV:=B.map fun x=>sl x.1 (Z x.2) (x.2.map str)
def C2 (ida nA:Nat)(cA:List AV)(fz:Bool)(mo:Int)(ido nO:Nat)(oc:List AV)(B:BK):List AV:=[sl ida nA cA,sc (.bool fz),ic mo,sl ido nO oc]++Qv B
def Dq (ido nO:Nat)(B:BK):List (Nat×Nat):=(ido,nO)::B.map fun x=>(x.1,Z x.2)
structure FH (d:St)(ow ida nA:Nat)(cA:List AV)(fz:Bool)(mo:Int)(ido:Nat)(O:List AC)(oc:List AV)(B:BK)(N:Nat):Prop where
 ob:d.C ow=C2 ida nA cA fz mo ido (Z O) oc B
 lo:ow<d.B
 bl:Z B=4096
 oe:EL Bo O oc
 rw':JJ d (Dq ido (Z O) B)
 bn:∀x∈B,Z x.2<=N
theorem FH.keep {d d' ow ida nA cA fz mo ido O oc B N}(h:FH d ow ida nA cA fz mo ido O oc B N)(k:AE d d'):FH d' ow ida nA cA fz mo ido O oc B N:=
 ⟨(k.C _ h.lo).trans h.ob,By h.lo k.B,h.bl,h.oe,h.rw'.keep k,h.bn⟩
def Yg (n:Nat)(c:UInt8):Nat:=(n*31+c.toNat) % 4096
def Jt (s:Tx):Nat:=s.foldl Yg 0
def Sa (B:BK)(s:Tx):Prop:=∃x,B[Jt s]?=some x/\s∈x.2
theorem mz {B s t id' y}(hy:B[Jt t]?=some y):Sa (B.set (Jt t) (id',y.2++[t])) s↔Sa B s\/s=t:=by
 have hl:=(BG.1 hy).1;unfold Sa;constructor
 ·rintro⟨x,hx,hm⟩;rw[GK]at hx;by_cases e:Jt t=Jt s
  ·rw[if_pos e,if_pos AA]at hx;cases hx;rcases AW.1 hm with h|h
   ·exact .inl ⟨y,by rw[<-e];exact hy,h⟩
   ·exact .inr (by simpa using h)
  ·rw[if_neg e]at hx;exact .inl ⟨x,hx,hm⟩
 ·rintro (⟨x,hx,hm⟩|rfl)
  ·by_cases e:Jt t=Jt s
   ·rw[<-e,hy]at hx;cases hx;exact⟨_,by rw[<-e,GK,if_pos rfl,if_pos hl],FZ _ hm⟩
   ·exact⟨x,by rw[GK,if_neg e];exact hx,hm⟩
  ·exact⟨_,by rw[GK,if_pos rfl,if_pos hl],by simp⟩
theorem Ji {ida nA cA fz mo ido nO oc B}(hb:Z B=4096):Z (C2 ida nA cA fz mo ido nO oc B)=4100:=by simp[C2,Qv,hb]
theorem pQ {ida nA cA fz mo ido nO oc B k y}(hy:B[k]?=some y):(C2 ida nA cA fz mo ido nO oc B)[4+k]?=some (sl y.1 (Z y.2) (y.2.map str)):=by
 unfold C2;rw[KU (by simp)];simp[Qv,hy]
theorem iU {ida nA cA fz mo ido nO oc B k y}:(C2 ida nA cA fz mo ido nO oc B).set (4+k) (sl y.1 (Z y.2) (y.2.map str))=C2 ida nA cA fz mo ido nO oc (B.set k y):=by
 unfold C2;rw[List.set_append_right _ _ (by simp)];simp[Qv,List.map_set]
theorem xU {ido nO B k y}:Dq ido nO (B.set k y)=(Dq ido nO B).set (k+1) (y.1,Z y.2):=by
 simp[Dq,List.map_set]
theorem FH.addB {d d' ow ida nA cA fz mo ido O oc B N k id' y t}(h:FH d ow ida nA cA fz mo ido O oc B N)(hy:B[k]?=some y)
  (hL:Live d' id' (Z y.2+1)) (hid:id'=y.1\/d.D+2<=id') (aa:id'≠1)
  (eob:∀o,o<d.B->o≠ow->d'.C o=d.C o) (ab:∀o,o<d.B->o≠ow->d'.ver o=d.ver o) (eno:d.B<=d'.B) (ento:d.D<=d'.D)
  (etop:∀j,j<d.D->j+2≠y.1->d'.top j=d.top j) (eow:d'.C ow=(C2 ida nA cA fz mo ido (Z O) oc B).set (4+k) (sl id' (Z y.2+1) (y.2.map str++[str t]))):
  FH d' ow ida nA cA fz mo ido O oc (B.set k (id',y.2++[t])) (N+1)/\KW ow (Dq ido (Z O) B) (Dq ido (Z O) (B.set k (id',y.2++[t]))) d d':=by
 have hx:(Dq ido (Z O) B)[k+1]?=some (y.1,Z y.2):=by simp[Dq,hy]
 obtain⟨g1,g2⟩:=JJ.grow (ow:=ow) h.rw' hx hL hid aa eob ab eno ento etop;have e:Dq ido (Z O) (B.set k (id',y.2++[t]))=(Dq ido (Z O) B).set (k+1) (id',Z y.2+1):=by rw[xU];simp
 rw[e];refine⟨⟨?_,By h.lo eno,by simp[h.bl],h.oe,by rw[e];exact g1,fun x hx=>?_⟩,g2⟩
 ·rw[eow,<-iU];simp
 ·rcases OD hx with h'|rfl
  ·have:=h.bn x h';omega
  ·have:=h.bn y (BD hy);simp;omega
theorem tK (x c)(hc:AN x c)(hx:iM x)(ba:Z x.A<=1000)(ow ida nA cA fz mo ido O oc B N)(hN:N<=1000000000000)(d)(hW:FH d ow ida nA cA fz mo ido O oc B N):
  AF Tryz.prog 238 [ptr ow 0,ag c] d fun r d'=>(Sa B (Fh x)/\r=sc (.bool true)/\AE d d')\/(¬Sa B (Fh x)/\r=sc (.bool false)/\∃id' y,B[Jt (Fh x)]?=some y/\FH d' ow ida nA cA fz mo ido O oc (B.set (Jt (Fh x)) (id',y.2++[Fh x])) (N+1)/\KW ow (Dq ido (Z O) B) (Dq ido (Z O) (B.set (Jt (Fh x)) (id',y.2++[Fh x]))) d d'):=by
 have ax:=fun d=>xW x c hc hx ba d;obtain⟨ih,id,b,hb,rfl⟩:=hc.cells;unfold Bm;unfold Bm at ax;have bi:Z (Fh x)<=1200000000:=by
  have ak:∀l:List AC,(∀a∈l,EU a)->Z (l.flatMap fun a=>Lj a++[46])<=Z l*1100001:=by
   intro l;induction l with
   |nil=>intro _;simp
   |cons a l ih=>
    intro hh;have e1:=ih (fun u hu=>hh u (by simp[hu]));have e2:=VY (hh a (by simp));simp only[DK,AX,BQ,CP];omega
  have:=ak (x.h::x.A) (fun a ha=>by
   rcases BB.1 ha with rfl|ha
   ·exact hx.2.1
   ·exact hx.2.2 a ha)
  unfold Fh;simp only[BQ]at this;omega
 generalize Fh x=k0 at*
 have a9:=hW.lo;have a7:=hW.ob;have bg:=Ji (ida:=ida) (nA:=nA) (cA:=cA) (fz:=fz) (mo:=mo) (ido:=ido) (nO:=Z O) (oc:=oc) hW.bl;refine Z9 61 [.tmp 4] Tryz.func238 ?_
 repeat' first|refine Z1 ?_|refine Z8 fun yd yb=>?_|refine Z4 ?_;clear yb yd|refine Z5 ?_;refine Xi (ax _) ?_;rintro _ _ ⟨rfl,ap⟩;(have aj:=ap.B;have ai:=ap.C;simp only[Aa]at aj ai)|refine Z7 ?_|exact Zt|apply yb.o;clear yb yd
 rename_i d1;have ah:AE d d1:=((AE.refl d).new _).trans ap;have am:d1.C ow=C2 ida nA cA fz mo ido (Z O) oc B:=by rw[ah.C _ a9,a7]
 refine Ae (fun m s d'=>∃(i n:Nat),m=Z k0-i/\i<=Z k0/\s 0=ptr ow 0/\s 5=str k0/\s 6=ic n/\s 7=ic i/\d'=d1/\n<4096/\AD (n=(k0.take i).foldl Yg 0)) (Z k0)
  ⟨0,0,AA,AA,by simp[upd,AM],AG,AG,AG,rfl,by decide,by simp[AD]⟩ ?_
 rintro m s d' ⟨i,n,rfl,hi,h0,h5,h6,h7,rfl,hn,hH⟩;by_cases ad:i<Z k0
 ·have aa:=AJ ad;generalize k0[i]=ch at aa;have bo:ch.toNat<256:=ch.toNat_lt;have a8:Int.tmod ((n:Int)*31+(ch.toNat:Int)) 4096=((Yg n ch:Nat):Int):=rfl;have HN:AD (Yg n ch=(k0.take (i+1)).foldl Yg 0):=by
   rw[AD,AU,aa,List.foldl_append,<-hH.o];rfl
  have bh:Yg n ch<4096:=Nat.mod_lt _ (by decide)
  refine p6 ?_
  refine⟨Z k0-(i+1),AA,i+1,Yg n ch,?_⟩
  exact qh HN
 ·have hil:i=Z k0:=AA;subst hil;have au:n=Jt k0:=by have h:=hH.o;rw[AS]at h;exact h
  obtain⟨y,hy⟩:∃y,B[n]?=some y:=⟨B[n]'(by rw[hW.bl];exact hn),AJ _⟩;have bm:=pQ (ida:=ida) (nA:=nA) (cA:=cA) (fz:=fz) (mo:=mo) (ido:=ido) (nO:=Z O) (oc:=oc) hy;have bf:=hW.bn y (BD hy);rw[<-au];have a3:AD (Sa B k0↔k0∈y.2):=by
   unfold Sa;rw[<-au];exact⟨fun⟨x,h1,h2⟩=>by rw[hy]at h1;cases h1;exact h2,fun h=>⟨y,hy,h⟩⟩
  have HY:AD (B[n]?=some y):=hy;have HW:AD _:=hW.keep ah;clear hH au hy ad hi;generalize av:C2 ida nA cA fz mo ido (Z O) oc B=wc at*
  have bd:AD _:=av;clear av
  refine p6 ?_
  refine Ae (fun m s τ=>∃(q:Nat),m=Z y.2-q/\q<=Z y.2/\s 0=ptr ow 0/\s 5=str k0/\s 6=ic n/\s 8=ic q/\τ=d'/\AD (∀u∈y.2.take q,u≠k0)) (Z y.2)
   ⟨0,AA,AA,AI,AI,AI,AG,rfl,fun u hu=>by simp at hu⟩ ?_
  clear h0 h5 h6 h7;rintro m s d2 ⟨q,rfl,hq,h0,h5,h6,h8,rfl,ay⟩;by_cases ad:q<Z y.2
  ·have aa:=AJ ad;have hd:=A7 ad;have aw:=AT ad;generalize y.2[q]=u at hd aa aw;by_cases hu:u=k0
   ·have a5:(u==k0)=true:=by simp[hu]
    have HR:AD (Sa B k0):=a3.o.2 (hu ▸ aw);clear hu
    refine p6 ?_
    first
    |exact⟨_,rfl,.inl ⟨HR.o,rfl,ah⟩⟩
    |exact⟨_,rfl,.inl ⟨HR.o,rfl⟩⟩
   ·have a5:(u==k0)=false:=by simpa using hu
    have HN:AD (∀u∈y.2.take (q+1),u≠k0):=fun v hv=>by
     rw[AU,aa]at hv;rcases AW.1 hv with h'|h'
     ·exact ay.o v h'
     ·simp at h';subst h';exact hu
    clear hu
    refine p6 ?_
    refine⟨Z y.2-(q+1),AA,q+1,?_⟩
    exact qh HN
  ·have a6:q=Z y.2:=AA;subst a6;have be:AD (¬Sa B k0):=fun h=>ay.o k0 (by rw[AS];exact a3.o.1 h) rfl
   have bb:Live d2 y.1 (Z y.2):=HW.o.rw'.1 (y.1,Z y.2) (by
    refine GJ _ (AO.2 ⟨y,BD HY.o,rfl⟩))
   have a4:Z (y.2.map str)=Z y.2*1:=by simp
   refine p6 ?_
   refine Az (Q:=fun e s' d''=>e= .normal/\∃id',FH d'' ow ida nA cA fz mo ido O oc (B.set n (id',y.2++[k0])) (N+1)/\KW ow (Dq ido (Z O) B) (Dq ido (Z O) (B.set n (id',y.2++[k0]))) d2 d'') ?_ ?_
   ·refine Aq Ag (fun _=>True) [14] [0,1,2,3,4,5,6,7,8,11,12] 4 #[true,true,true,true,true,true,true,true,true,false,false,true,true,false,false] AH (fun _ _ _ h=>by cases h.1) ?_;intro yd yb;refine Z7 ?_;refine yb.o _ ?_;clear yb yd;refine Ai (i:=9) AH ?_;refine Am ?_;intro yd yb;refine Z7 ?_;refine yb.o _ _ ⟨Al ((AE.refl _).lay 1),?_⟩;clear yb yd;refine Ai (i:=10) AH ?_;refine Am ?_;intro yd yb;refine Z7 ?_;refine Tj (by first|exact Sj) bb (by decide) (by rfl) a4 (by rfl) (by rfl) (by decide) AA AA ?_;intro idn dn bc an ao af a0 ac az etop;refine Z7 ?_;refine yb.o _ _ ⟨fun _ o ho _=>by rw[ac],?_⟩;clear yb yd;have eow:dn.C ow=wc:=by rw[af,am]
    refine Ai (i:=13) AH ?_;refine Am ?_;intro yd yb;refine Z7 ?_;refine yb.o _ _ ⟨fun _ o ho _=>by rw[ac],?_⟩;clear yb yd;refine Ai (i:=14) AH ?_;refine Am ?_;intro yd yb;refine Z7 ?_;refine yb.o _ _ ⟨A5 rfl,?_⟩;clear yb yd;refine Ax AH ⟨rfl,idn,?_⟩;refine FH.addB HW.o HY.o ?_ an ao ?_ ?_ ?_ ?_ ?_ ?_
    ·exact bc
    ·intro o ho ae;rw[show∀(S:St) c,(S.put ow c).C o=S.C o from fun S c=>by simp[St.put,ae],af]
    ·intro o ho ae;rw[show∀(S:St) c,(S.put ow c).ver o=S.ver o from fun S c=>by simp[St.put,ae],ac]
    ·simp only[Ab];omega
    ·simp only[Nc];omega
    ·intro j hj ae;rw[Od];exact etop j hj ae
    ·rw[Ak,bd.o]
   ·rintro e s' d'' ⟨rfl,id',g1,g2⟩
    refine zx ?_
    exact⟨_,rfl,.inr ⟨be.o,rfl,id',y,HY.o,g1,(KW.ofKeep ah).trans g2⟩⟩
theorem nY (x c A cA ida)(hc:AN x c)(hx:x.fits)(hA:EL Bo A cA)(an:Z A<=1000)(am:∀b∈A,Z b.A<=1000)(d):AF Tryz.prog 240 [ag c,sl ida (Z A) cA] d fun r d'=>∃b,r=sc (.bool b)/\(b=true↔∃a∈x.A,a.nt=true/\aQ a∈A)/\AE d d':=by
 obtain⟨ih,id,b,hb,rfl⟩:=hc.cells;have av:=EL.length Bb hb;have aw:=hx.1;unfold Bm;refine Z9 25 [.tmp 4] Tryz.func240 ?_
 refine zz ?_
 refine Ae (fun m s d'=>∃i:Nat,m=Z x.A-i/\i<=Z x.A/\s 1=sl ida (Z A) cA/\s 2=ptr d.B 0/\s 5=ic i/\AE d d'/\d.B<d'.B/\d'.C d.B=[sc (.bool x.o),sc (.bool x.h.nt),str x.h.B,sl ih (Z x.h.A) (x.h.A.map str),sl id (Z x.A) b]/\AD (∀a∈x.A.take i,¬(a.nt=true/\aQ a∈A))) (Z x.A)
  ⟨0,AA,AA,by simp[upd,AM],AG,AG,Xs,AK,Ao,fun a ha=>by simp at ha⟩ ?_
 rintro m s d' ⟨i,rfl,hi,h1,h2,h5,hK,au,ap,hN⟩;have ao:=hK.B;by_cases ai:i<Z x.A
 ·have aa:=AJ ai;obtain⟨ia,r,hd⟩:=Cf hb aa;generalize x.A[i]=w at hd aa;have HS:AD (¬(w.nt=true/\aQ w∈A)->∀a∈x.A.take (i+1),¬(a.nt=true/\aQ a∈A)):=fun hw a ha=>by
   rw[AU,aa]at ha;rcases AW.1 ha with h'|h'
   ·exact hN.o a h'
   ·simp at h';subst h';exact hw
  have HM:AD (w∈x.A):=BD aa;clear aa;cases hnt:w.nt with
  |false=>
   have HN:AD _:=HS.o (fun h=>by rw[hnt]at h;cases h.1);clear HS
   refine pz ?_
   refine⟨Z x.A-(i+1),AA,i+1,?_⟩
   ((repeat' refine Zi ?_ ?_)<;>first|exact Xq|exact HN|exact ((hK.new _).put hK.B _)|exact Xs)
  |true=>
   have ak:=fun d=>H9 A cA ida (aQ w) [sc (.bool false),str w.B,sl ia (Z w.A) (w.A.map str)] hA ⟨ia,rfl⟩ an am d
   refine qb ?_;intro yd yb;refine Xi (ak _) ?_;rintro _ _ ⟨bo,rfl,af,ac⟩;(have ah:AD _:=af;clear af;have ae:=ac.B;have ad:=ac.C;simp only[Ab,Aa]at ae ad);refine qe ?_ ?_<;>intro h ab
   ·have aj:(true=true↔∃a∈x.A,a.nt=true/\aQ a∈A):=⟨fun _=>⟨w,HM.o,hnt,ah.o.1 (by assumption)⟩,fun _=>rfl⟩;exact⟨_,rfl,true,rfl,aj,(((hK.new _).put hK.B _).put hK.B _).trans ac⟩
   ·have HN:AD _:=HS.o (fun h=>by
     have h1:=ah.o.2 h.2;have h2:bo=false:=by assumption
     rw[h2]at h1;cases h1)
    refine⟨Z x.A-(i+1),AA,i+1,?_⟩
    ((repeat' refine Zi ?_ ?_)<;>first|exact Xq|exact HN|exact ((((hK.new _).put hK.B _).put hK.B _).trans ac)|exact Xs)
 ·have hil:i=Z x.A:=AA;subst hil;have HB:(false=true↔∃a∈x.A,a.nt=true/\aQ a∈A):=⟨fun h=>(by cases h),fun⟨a,ha,h⟩=>absurd h (hN.o a (by rw[AS];exact ha))⟩
  refine pz ?_
  first|exact⟨_,rfl,false,rfl,HB,hK⟩|exact⟨false,rfl,HB,hK⟩|exact⟨_,rfl,false,rfl,HB⟩
def Er (c0 a:Nat):Nat->Nat
 |0=>c0
 |p+1=>1+a*Er c0 a p
structure E6 (A:List AC)(cA:List AV):Prop where
 el:EL Bo A cA
 len:Z A<=1000
 gnd:∀a∈A,aF a
 cl:∀a∈A,EU a
structure CL (fz:Bool)(c0 p:Nat)(x:AB):Prop where
 cl:iM x
 len:Z x.A<=1000
 saf:iG fz x
 cnt:x.A.countP (Ix fz)=p
 neg:c0=1\/∀a∈x.A,Ix fz a=true
theorem CL.fits {fz c0 p x}(h:CL fz c0 p x):x.fits:=⟨h.len,h.cl.2.1.2.2,fun a ha=>(h.cl.2.2 a ha).2.2⟩
theorem gW {α:Type}(p){l:List α}{j a}(h:l[j]?=some a)(ha:p a=true):(l.eraseIdx j).countP p+1=l.countP p:=by
 have hj:=(BG.1 h).1;have he:=(BG.1 h).2;have e:l=l.take j++a::l.drop (j+1):=by
  rw[<-he,List.getElem_cons_drop,KJ]
 rw[List.eraseIdx_eq_take_drop_succ,MR];have e2:l.countP p=(l.take j).countP p+((l.drop (j+1)).countP p+1):=by
  conv=>lhs;rw[e]
  rw[MR,MZ,if_pos ha]
 omega
theorem CL.step {fz c0 p x y j t b}(h:CL fz c0 (p+1) x)(hb:x.A[j]?=some b)(hp:Ix fz b=true)(hg:aF t)(hc:EU t)(hy:Km x j t=some y):CL fz c0 p (F7 y j)/\Z (F7 y j).A=Z x.A-1:=by
 obtain⟨b',af,θ,hT,rfl,aa,-⟩:=U3 hy h.cl.1 hg;have ac:=(BG.1 hb).1;have hl:Z (F7 (Rl θ x) j).A=Z x.A-1:=by
  simp only[F7,Rl];rw[List.length_eraseIdx_of_lt (by simpa using ac),BP]
 refine⟨⟨WN h.cl hc hg hy,by have:=h.len;omega,WS h.saf h.cl.1 hg hy,?_,?_⟩,hl⟩
 ·have ae:(Rl θ x).A.countP (Ix fz)=p+1:=by
   rw[<-h.cnt];simp only[Rl];rw[List.countP_map];rfl
  have ab:Ix fz t=true:=by
   have:(Rl θ x).A[j]?=some (Gy θ b):=by simp[Rl,hb]
   rw[this]at aa;cases aa;exact hp
  have:=gW (Ix fz) aa ab;show ((Rl θ x).A.eraseIdx j).countP (Ix fz)=p;omega
 ·rcases h.neg with h'|h'
  ·exact .inl h'
  ·refine .inr fun a ha=>?_;obtain⟨a',ad,rfl⟩:=AO.1 (FY ha);exact h' a' ad
def Uc (fz:Bool)(A:List AC)(cA:List AV)(ida:Nat)(mo:Int)(c0 p:Nat)(x:AB)(ow ido:Nat)(O:List AC)(B:BK)(N:Nat)(d d':St):Prop:=
 ∃ido' O' oc' B' N',FH d' ow ida (Z A) cA fz mo ido' O' oc' B' N'/\KW ow (Dq ido (Z O) B) (Dq ido' (Z O') B') d d'/\Zg fz A mo x O (Sa B) O' (Sa B')/\N'+Z O<=N+Z O'+Er c0 (Z A) p
end Go.Proofs.YtmoeoppbmhfbpabGreatDoorI
