import Derived.Test.YtmoeoppbmhfbpabGreatDoorIMdlA
import Derived.Test.YtmoeoppbmhfbpabGreatDoorIDrnH
import Derived.Test.YtmoeoppbmhfbpabGreatDoorILawA
set_option maxHeartbeats 64000000
set_option maxRecDepth 100000
set_option linter.all false
open List renaming length->Z
namespace Go.Proofs.YtmoeoppbmhfbpabGreatDoorI
open Go.Abs
theorem xS {l l' F n x x' k k' e'}(ad:LN (l'.map ren))(hX:∀x∈l',x.o=false->XR x)
  (ho:l'.filter (·.o)=l.filter (·.o)) (hm:GN (Ta F) l l') (hR:pB l F n x k 0) (hR2:pB (l'.map ren) F n x' k' e'):e'=0/\x'=x/\k'<=k:=by
 obtain⟨M,L0,L,s1,h0,h⟩:=hR;obtain⟨M2,L02,L2,s2,aa,h2⟩:=hR2;rcases h with⟨-,-,-,-,c⟩|⟨h1,hn,rfl,-,rfl⟩
 ·exact absurd c (by decide)
 obtain⟨M',a1,a2,a3⟩:=hm _ s1;have a1:GB (l'.map ren) (Ta F) M':=a1.same fun p t=>Yb (fun D=>GI.ren hX M' D) p t;have hq:M'=M2:=funext fun p=>funext fun t=>propext (GB.uniq ad a1 s2 p t);subst hq;have q1:=gN h0 aa.sb;have q2:=gN aa h0.sb;rcases h2 with⟨g1,g2,-⟩|⟨g1,g2,rfl,rfl,rfl⟩
 ·have:=gN h1 ⟨g1.1,fun p t hp=>a2 p t (g1.2 p t hp)⟩;omega
 ·have c:=gN h1 ⟨g1.1,fun p t hp=>a2 p t ((g1.2 p t).1 hp)⟩;refine⟨rfl,?_,AA⟩;unfold kB;rw[Wn,Wn _ l,sJ,ho];rw[vH (l.filter (·.o)) ([],[]) fun x hx=>?_];obtain⟨ac,ab⟩:=BV.1 hx;refine xX (eW h1.1 _) (eW g1.1 _) (fun t ht=>UH s1 ((h1.2 _ t).1 (CM.1 ht))) (fun t ht=>UH s2 ((g1.2 _ t).1 (CM.1 ht))) fun t=>?_;rw[CM,CM,h1.2,g1.2];exact⟨a3 x ac ab t,a2 _ t⟩
theorem XX {t f x n k}(h:Iw t f n x k 0):∃l F,iH t f n l F/\pB l F n x k 0:=by
 unfold Iw at h;split at h
 ·exact absurd h.2.2 (by decide)
 rename_i c1;split at h
 ·rename_i c;exact absurd h.2.2.symm c
 rename_i c2;split at h
 ·exact absurd h.2.2 (by decide)
 rename_i c3;obtain⟨l,hl,h⟩:=h;split at h
 ·rename_i c;exact absurd h.2.2.symm c
 rename_i c4;obtain⟨F,hF,h⟩:=h;exact⟨l,F,⟨AA,AA,AA,AA,AA,hl,hF,AA⟩,h⟩
theorem ol {t f x n k e l F}(hK:iH t f n l F)(h:Iw t f n x k e):pB l F n x k e:=by
 have k1:=hK.tl;have k2:=hK.fl;have k3:=hK.n0;have k4:=hK.n1;unfold Iw at h;rw[if_neg AA,if_neg (by simp[hK.ck]),if_neg AA]at h;obtain⟨l2,hl,h⟩:=h;rw[hK.par]at hl;cases hl;rw[if_neg (by simp[hK.fe])]at h;obtain⟨F2,hF,h⟩:=h;rw[hK.fac]at hF;cases hF;exact h
theorem rH {t ps b r}(h:Ka DG t ps b r):(r.1=[]/\r.2.2≠0/\((Au t).1≠0\/C1 ps=false\/b<0))\/((Au t).1=0/\C1 ps=true/\0<=b/\r.2.2=0/\∀{f x x':Tx} {n k k' e':Int},Iw t f n x k 0->Iw r.1 f n x' k' e'->e'=0/\x'=x/\k'<=k):=by
 unfold Ka at h;split at h
 ·rename_i he;exact .inl (by rw[h];exact⟨rfl,he,.inl he⟩)
 rename_i he;split at h
 ·rename_i hp;exact .inl (by rw[h];exact⟨rfl,by decide,.inr (.inl hp)⟩)
 rename_i hp;split at h
 ·rename_i hb;exact .inl (by rw[h];exact⟨rfl,by decide,.inr (.inr hb)⟩)
 rename_i hb;obtain⟨N,l0,cs,ar,l',m,ac,hA,ad,hP,rfl⟩:=h;have hp:C1 ps=true:=by simpa using hp
 refine .inr ⟨Classical.not_not.1 he,hp,AA,rfl,?_⟩;have ae:=ac.rt hA;have ht:t=Cr l0:=(Ey _ _ _ _ ac.parse).1;have ah:Ls l0=true:=by
  unfold Ls;simp only[BX,DF,EK];exact⟨ac.bk.len,ae.b5,by rw[<-ht];exact ac.len⟩
 have am:GY N ar l0 l0:=⟨ae,ah,lI ac,rfl⟩;have af:=UK hp N ar;have hB:=am.pss hP af;have hN:=(IM.refl l0).pss am hP af;have aj:=Ky _ _ _ _ ac.parse;have aw:∀x∈l',JM x:=mw ad fun x hx=>by
  have key:∀q,mR l' q->KN q:=fun q hq=>by
   obtain⟨y,hy,h⟩:=hN.nmd q hq;rcases h with rfl|⟨a,ha,rfl⟩
   ·exact (aj y hy).nm
   ·cases ho:y.o with
    |true=>rw[((aj y hy).o ho).2.2]at ha;cases ha
    |false=>exact (((aj y hy).rule ho).2.2.2 a ha).nm
  exact⟨key _ ⟨x,hx,.inl rfl⟩,fun a ha=>key _ ⟨x,hx,.inr ⟨a,ha,rfl⟩⟩⟩
 obtain⟨ak,ai⟩:=ig ad hB.wr hB.lim aw;have an:(Au (Cm l')).1=0:=by rw[ak]
 obtain⟨au,l2,r2,ab⟩:=Fq an;have ap:r2=[]:=(Ey _ _ _ _ ab).2.1;subst ap;have av:l2=l'.map ren:=by rw[<-ai];exact (Dd AA ab).2.1.symm
 subst av;intro f x x' n k k' e' hR hR2;obtain⟨l1,F,hK,a0⟩:=XX hR;have hl:l1=l0:=by
  have:=hK.par;rw[ac.parse]at this;cases this;rfl
 subst hl;have hb:KI (Ta F) l1:=fun x hx ho t ⟨a,ha,e,_⟩=>by
  have:=qN hK a ha;unfold qK at this;have:=EB.1 this x hx;simp[ho,e]at this
 obtain⟨hm,az⟩:=lh am hP af hb;have ay:=vO hK;have ax:Qh (l'.map ren) f=0:=by
  unfold Qh;rw[hK.fac];have h1:Lp ((l'.map ren).flatMap Af) F=false:=by
   refine SY (ZO (f:=fun p=>if Gr (l1.flatMap Af++F) p=0 then 1 else Gr (l1.flatMap Af++F) p) (fun p=>by split<;>omega) fun a ha=>?_);have key:∀b∈l1.flatMap Af++F,Z b.A=if Gr (l1.flatMap Af++F) b.B=0 then 1 else Gr (l1.flatMap Af++F) b.B:=fun b hb=>by
    have:=ay b hb;rw[if_neg AA];exact this.2
   rcases AW.1 ha with ha|ha
   ·obtain⟨y,hy,ha⟩:=DR.1 ha;obtain⟨z,hz,rfl⟩:=AO.1 hy;have:∃c∈Af z,a.B=c.B/\Z a.A=Z c.A:=by
     unfold Af at ha⊢;rcases AW.1 ha with ha|ha
     ·cases aa:z.o with
      |true=>rw[show (ren z).o=true from aa]at ha;simp at ha
      |false=>
       rw[show (ren z).o=false from aa]at ha;have:a=(ren z).h:=by simpa using ha
       exact⟨z.h,by simp,by rw[this];rfl,by rw[this];simp[ren,C8]⟩
     ·obtain⟨c,hc,rfl⟩:=AO.1 ha;exact⟨c,MA _ hc,rfl,by simp[C8]⟩
    obtain⟨c,hc,e1,e2⟩:=this;obtain⟨b,hb,e3⟩:=az c.B ⟨c,DR.2 ⟨z,hz,hc⟩,rfl⟩;have hlen:∀{l:List AB},BH N ar l->∀{c:AC},c∈l.flatMap Af->Z c.A=ar c.B:=fun {l} hR {c} hc=>by
     obtain⟨z,hz,hc⟩:=DR.1 hc;unfold Af at hc;cases aa:z.o with
     |true=>
      rw[aa,(hR.gl.msr z hz).o aa]at hc;simp at hc
     |false=>
      rw[aa]at hc;refine (hR.uta hz aa (b:=c) ?_).2.1;simpa using hc
    rw[e1,e2,hlen ad (DR.2 ⟨z,hz,hc⟩),<-e3,<-hlen ae hb];exact key b (FZ _ hb)
   ·exact key a (MA _ ha)
  have h2:F.any (fun a=>qK (l'.map ren) a.B)=false:=by
   rw[EB];intro a ha;rw[MV];unfold qK;rw[EB];intro y hy;obtain⟨z,hz,rfl⟩:=AO.1 hy;simp only[BX,GH,DF,not_and];intro aa e;exact hb.nms hN z hz aa _ ⟨a,ha,e.symm,rfl⟩
  simp only[h1,h2,ER,if_false]
 have ao:iH (Cm l') f n (l'.map ren) F:=⟨au,hK.fl,an,hK.n0,hK.n1,ab,hK.fac,ax⟩;exact xS (SF ao) (fun x hx ho=>ad.xr hx ho) hB.o hm a0 (ol ao hR2)
theorem VX {T t ps b c r q}(hc:c<0↔b<0)(h:Ka DG t ps b r)(g:Md T t ps c q):r.2.2=q.2.2:=by
 unfold Ka at h;unfold Md at g;split at h
 ·rename_i h1;rw[if_pos h1]at g;rw[h,g]
 rename_i h1;rw[if_neg h1]at g;split at h
 ·rename_i h2;rw[if_pos h2]at g;rw[h,g]
 rename_i h2;rw[if_neg h2]at g;split at h
 ·rename_i h3;rw[if_pos (hc.2 h3)]at g;rw[h,g]
 rename_i h3;rw[if_neg fun w=>h3 (hc.1 w)]at g;obtain⟨N,l,cs,ar,l',m,-,-,-,-,rfl⟩:=h;obtain⟨ld',md,-,rfl⟩:=g;rfl
theorem nI (o:pE)(hn:o.n<=9223372036854775807)(c)(hc:EO o c)(j):AF Tryz.prog 11 [ag c] j fun r j'=>r=sc (.bool true)/\AE j j':=by
 have am:=fun j=>yL o.s o.e o.n hn j;unfold EO at hc;subst hc;obtain⟨kd,on,om,os,oe,of⟩:=o;dsimp only at*
 have a5:({data:=#[]}:ByteArray)=bs []:=rfl;refine Z9 84 [.tmp 2] Tryz.func11 ?_
 repeat' first|refine Z1 ?_|refine Z8 fun yd yb=>?_|refine Z4 ?_;clear yb yd|refine Z2 ?_ ?_<;>intro h aa<;>try exact Xp|refine Z7 ?_|exact Zt|apply yb.o;clear yb yd
 refine AF.mono (am _) ?_;rintro _ j3 ⟨⟨T,m,e⟩,rfl,hp,ao⟩;have au:=ao.C;have ah:=ao.B
 (try simp only[Aa,Ab,Av]at ah)
 clear am;have ai:∀b,b<=0->(b<0↔on<0)->∀j,AF Tryz.prog 34 [str os,str oe,ic b] j fun r j'=>∃x k,r=tp [str x,ic k,ic e]/\AE j j':=fun b hb hi j=>(W0 (fun _ _ _=>False) os oe b AA (fun h=>AA) j).mono fun r j' ⟨⟨x,k,f⟩,h1,h2,h3⟩=>by
  have:=VX hi hp h2;simp only at this;subst this;exact⟨x,k,h1,h3⟩
 have ax:=rH hp;have ab:(decide (on>0)=true/\∀j,AF Tryz.prog 34 [str os,str oe,ic 0] j fun r j'=>∃x k,r=tp [str x,ic k,ic e]/\AE j j')\/(decide (on>0)=false/\∀j,AF Tryz.prog 34 [str os,str oe,ic on] j fun r j'=>∃x k,r=tp [str x,ic k,ic e]/\AE j j'):=by
  by_cases h:on>0
  ·exact .inl ⟨by simpa using h,ai 0 AA AA⟩
  ·exact .inr ⟨by simpa using h,ai on AA Iff.rfl⟩
 clear hp ai;have az:(([]:Tx)==[])=true:=rfl;have a3:(e !=e)=false:=by simp
 rcases ax with⟨hT,h2,-⟩|⟨-,-,-,h2,ad⟩
 ·simp only at hT h2;subst hT;have a4:(e !=0)=true:=by simpa using h2
  clear h2;rcases ab with⟨hd,hR⟩|⟨hd,hR⟩
  all_goals
   refine Z7 ?_
   repeat' first|refine Z1 ?_|refine Z8 fun yd yb=>?_|refine Z4 ?_;clear yb yd|refine Z2 ?_ ?_<;>intro h aa<;>try exact Xp|(refine Z5 ?_;first|(refine Xi (hR _) ?_;rintro _ _ ⟨x4,k4,rfl,ae⟩;(have af:=ae.C;have ac:=ae.B;(try simp only[Aa,Ab,Av]at ac)))|(refine Xi (mQ _ _) ?_;rintro _ _ ⟨rfl,hj⟩;(replace hj:=hj.symm;subst hj)))|refine Z7 ?_|exact Zt|apply yb.o;clear yb yd
   first|exact⟨_,rfl,rfl,Xs⟩|exact⟨_,rfl,rfl⟩
 ·simp only at h2;subst h2;have HS:AD (∀{x x':Tx} {k k' e':Int},Iw os of om x k 0->Iw T of om x' k' e'->e'=0/\x'=x/\k'<=k):=ad;have b1:(((0:Int)) !=0)=false:=rfl;clear ad;rcases ab with⟨hd,hR⟩|⟨hd,hR⟩
  all_goals
   refine Z7 ?_
   repeat' first|refine Z1 ?_|refine Z8 fun yd yb=>?_|refine Z4 ?_;clear yb yd|refine Z2 ?_ ?_<;>intro h aa<;>try exact Xp|(refine Z5 ?_;first|(refine Xi (hR _) ?_;rintro _ _ ⟨x4,k4,rfl,ae⟩;(have af:=ae.C;have ac:=ae.B;(try simp only[Aa,Ab,Av]at ac)))|(refine Xi (mQ _ _) ?_;rintro _ _ ⟨rfl,hj⟩;(replace hj:=hj.symm;subst hj)))|refine Z7 ?_|exact Zt|apply yb.o;clear yb yd
   refine AF.mono (cW os of om _) ?_;rintro _ j5 ⟨x,k,g,rfl,hq,an⟩;have ap:=an.C;have aw:=an.B;by_cases h0:g=0
   ·subst h0;refine Z7 ?_
    repeat' first|refine Z1 ?_|refine Z8 fun yd yb=>?_|refine Z4 ?_;clear yb yd|refine Z2 ?_ ?_<;>intro h aa<;>try exact Xp|refine Z7 ?_|exact Zt|apply yb.o;clear yb yd
    refine AF.mono (cW T of om _) ?_;rintro _ j6 ⟨x',k',e',rfl,aj,ay⟩;obtain⟨rfl,rfl,ak⟩:=HS.o hq aj;have av:=ay.B;have b6:decide (k'<=k)=true:=by simpa using ak
    have b7:(x'==x')=true:=by simp
    have b8:((0:Int)==0)=true:=rfl;clear ak hq aj;refine Z7 ?_
    refine p6 ?_
    first|exact⟨_,rfl,rfl,Xs⟩|exact⟨_,rfl,rfl⟩
   ·have a0:(g !=0)=true:=by simpa using h0
    clear hq;refine Z7 ?_
    refine p6 ?_
    first|exact⟨_,rfl,rfl,Xs⟩|exact⟨_,rfl,rfl⟩
theorem keeps_spec (l:List pE)(cs ids)(hE:EL EO l cs)(hl:Z l<=9223372036854775807)(hn:∀o∈l,o.n<=9223372036854775807/\Z o.e<=9223372036854775807)(j):AF Tryz.prog 4 [sl ids (Z l) cs] j fun r j'=>r=sc (.bool true)/\AE j j':=by
 have am:=EL.length UZ hE;refine Z9 24 [.tmp 2] Tryz.func4 ?_
 refine p6 ?_
 refine Ae (fun m s j'=>∃i:Nat,m=Z l-i/\i<=Z l/\s 0=sl ids (Z l) cs/\s 3=ic i/\AE j j') (Z l)
  ⟨0,AA,AA,by simp[upd,AM],AG,AE.refl _⟩ ?_
 rintro m s j' ⟨i,rfl,ak,h0,h3,hK⟩;have ai:=hK.B;by_cases ae:i<Z l
 ·have aa:=AJ ae;have ac:=nI l[i] (hn _ (AT ae)).1 _ rfl;obtain⟨r,hd⟩:=XM hE aa;generalize l[i]=o at hd aa ac;clear aa;by_cases hk:o.kind=7
  ·obtain⟨kd,on,om,os,oe,of⟩:=o;have hk:kd=7:=hk;subst hk;dsimp only at hd ac
   repeat' first|refine Z1 ?_|refine Z8 fun yd yb=>?_|refine Z4 ?_;clear yb yd|refine Z2 ?_ ?_<;>intro h ab<;>try exact Xp|refine Z5 ?_;refine Xi (ac _) ?_;rintro _ _ ⟨rfl,af⟩;(have ah:=af.C;have ad:=af.B;(try simp only[Aa,Ab,Av]at ad))|refine Z7 ?_|exact Zt|apply yb.o;clear yb yd
   all_goals
    first
    |exact⟨Z l-(i+1),AA,i+1,rfl,AA,by simp,Xs⟩
  ·clear ac;have aj:(o.kind==7)=false:=by simpa using hk
   refine p6 ?_
   refine⟨Z l-(i+1),AA,i+1,?_⟩
   exact qh hK
 ·have hil:i=Z l:=AA;subst hil
  refine p6 ?_
  first|exact⟨_,rfl,rfl,hK⟩|exact⟨_,rfl,rfl⟩|exact⟨_,rfl⟩
end Go.Proofs.YtmoeoppbmhfbpabGreatDoorI
