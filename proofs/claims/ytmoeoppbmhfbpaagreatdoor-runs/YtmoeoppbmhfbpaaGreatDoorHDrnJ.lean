import Derived.Test.YtmoeoppbmhfbpaaGreatDoorHDrnG
import Derived.Test.YtmoeoppbmhfbpaaGreatDoorHRunC
set_option maxHeartbeats 64000000
set_option maxRecDepth 100000
set_option linter.all false
namespace Go.Proofs.YtmoeoppbmhfbpaaGreatDoorH
open Go.Abs
theorem qH {T:Tx->List Bj}{l:List RItem}{i:Nat}{x:RItem}(h:l[i]?=some x):(l.take (i+1)).foldl (Nk T) ([],[])=Nk T ((l.take i).foldl (Nk T) ([],[])) x:=by
 rw[Aa8,h,Ab9,Ac1];rfl
theorem nI (t f:Tx)(n:Int)(u:St):ACalls Tryz.prog 53 [str t,str f,sc (.int .i64 n)] u fun r u'=>∃x k e,r=tp [str x,ic k,ic e]/\H4 t f n x k e/\Keep u u':=by
 have ca:({data:=#[]}:ByteArray)=bs []:=rfl;by_cases hL:600<t.length
 ·have b3:decide ((t.length:Int)>600)=true:=by rw[Adw];omega
  have HP:Ad8 (H4 t f n [] 0 1):=by rw[Ad8,H4,if_pos (.inl hL)];exact⟨rfl,rfl,rfl⟩
  clear hL;refine Z9 109 [.tmp 6,.tmp 7,.tmp 8] Tryz.func53 ?_
  repeat' (first|refine Z1 ?_|(refine Z8 ?_;intro ya J)|(refine Z4 ?_;clear J ya)|(refine Z2 ?_ ?_<;>intro h ac<;>try exact Xp)|(refine Z6 ?_;intro idn un af ah ae ab ad aa)|refine Z7 ?_|exact Zt|(apply J.out;clear J ya))
  first|exact⟨_,rfl,[],0,1,rfl,HP.out,Keep.refl _⟩|exact⟨_,rfl,[],0,1,rfl,HP.out⟩
 have b3:decide ((t.length:Int)>600)=false:=by simp;omega
 by_cases hM:400<f.length
 ·have b2:decide ((f.length:Int)>400)=true:=by rw[Adw];omega
  have HP:Ad8 (H4 t f n [] 0 1):=by rw[Ad8,H4,if_pos (.inr hM)];exact⟨rfl,rfl,rfl⟩
  clear hL hM;refine Z9 109 [.tmp 6,.tmp 7,.tmp 8] Tryz.func53 ?_
  repeat' (first|refine Z1 ?_|(refine Z8 ?_;intro ya J)|(refine Z4 ?_;clear J ya)|(refine Z2 ?_ ?_<;>intro h ac<;>try exact Xp)|(refine Z6 ?_;intro idn un af ah ae ab ad aa)|refine Z7 ?_|exact Zt|(apply J.out;clear J ya))
  first|exact⟨_,rfl,[],0,1,rfl,HP.out,Keep.refl _⟩|exact⟨_,rfl,[],0,1,rfl,HP.out⟩
 have b2:decide ((f.length:Int)>400)=false:=by simp;omega
 have hC:=fun u=>cP t u;by_cases he:(A3 t).1=0
 case neg=>
  have bw:((A3 t).1 !=0)=true:=by simpa using he
  have HP:Ad8 (H4 t f n [] 0 (A3 t).1):=by rw[Ad8,H4,if_neg Ad2,if_pos he];exact⟨rfl,rfl,rfl⟩
  clear hL hM he;refine Z9 109 [.tmp 6,.tmp 7,.tmp 8] Tryz.func53 ?_
  repeat' (first|refine Z1 ?_|(refine Z8 ?_;intro ya J)|(refine Z4 ?_;clear J ya)|(refine Z2 ?_ ?_<;>intro h ac<;>try exact Xp)|(refine Z6 ?_;intro idn un af ah ae ab ad aa)|(refine Z5 ?_;refine Xi (hC _) ?_;rintro _ _ ⟨rfl,an⟩)|refine Z7 ?_|exact Zt|(apply J.out;clear J ya))
  first|exact⟨_,rfl,[],0,_,rfl,HP.out,an⟩|exact⟨_,rfl,[],0,_,rfl,HP.out⟩
 have bw:((A3 t).1 !=0)=false:=by simpa using he
 by_cases hn:n<0\/200<n
 ·have HP:Ad8 (H4 t f n [] 0 6):=by rw[Ad8,H4,if_neg Ad2,if_neg (by simp[he]),if_pos hn];exact⟨rfl,rfl,rfl⟩
  clear hL hM he;by_cases h0:n<0
  ·have d1:decide (n<0)=true:=by simpa using h0
   clear hn h0;refine Z9 109 [.tmp 6,.tmp 7,.tmp 8] Tryz.func53 ?_
   repeat' (first|refine Z1 ?_|(refine Z8 ?_;intro ya J)|(refine Z4 ?_;clear J ya)|(refine Z2 ?_ ?_<;>intro h ac<;>try exact Xp)|(refine Z6 ?_;intro idn un af ah ae ab ad aa)|(refine Z5 ?_;refine Xi (hC _) ?_;rintro _ _ ⟨rfl,an⟩)|refine Z7 ?_|exact Zt|(apply J.out;clear J ya))
   first|exact⟨_,rfl,[],0,6,rfl,HP.out,an⟩|exact⟨_,rfl,[],0,6,rfl,HP.out⟩
  ·have d1:decide (n<0)=false:=by simpa using h0
   have d2:decide (n>200)=true:=by rw[Adw];omega
   clear hn h0;refine Z9 109 [.tmp 6,.tmp 7,.tmp 8] Tryz.func53 ?_
   repeat' (first|refine Z1 ?_|(refine Z8 ?_;intro ya J)|(refine Z4 ?_;clear J ya)|(refine Z2 ?_ ?_<;>intro h ac<;>try exact Xp)|(refine Z6 ?_;intro idn un af ah ae ab ad aa)|(refine Z5 ?_;refine Xi (hC _) ?_;rintro _ _ ⟨rfl,an⟩)|refine Z7 ?_|exact Zt|(apply J.out;clear J ya))
   first|exact⟨_,rfl,[],0,6,rfl,HP.out,an⟩|exact⟨_,rfl,[],0,6,rfl,HP.out⟩
 have d1:decide (n<0)=false:=by simp;omega
 have d2:decide (n>200)=false:=by simp;omega
 obtain⟨-,l,r,ai⟩:=Kp he;have bq:r=[]:=(El _ _ _ _ ai).2.1;subst bq;obtain⟨g1,g2,g3,g4⟩:=Ek Ad2 ai;have bn:=fun u=>cL f Ad2 u;have hI:=fun u=>Mt t Ad2 (by have:=g1.1;omega) g1.2 u;rw[g2]at hI;have HQ:Ad8 (∀x k e,(if F1 l f≠0 then x=[]/\k=0/\e=F1 l f else∃F,Bw 400 f= .got F []/\jP l F n x k e)->H4 t f n x k e):=fun x k e h=>by
  rw[H4,if_neg Ad2,if_neg (by simp[he]),if_neg hn];exact⟨l,ai,h⟩
 have HF:Ad8 (∀x∈l,Fine x):=fun x hx=>Me he x (by rw[g2];exact hx);have HK:Ad8 (∀F,Bw 400 f= .got F []->F1 l f=0->jQ t f n l F):=fun F h1 h2=>⟨Ad2,Ad2,he,Ad2,Ad2,ai,h1,h2⟩;have ax:∀x∈l,x.fits:=fun x hx=>by
  have hw:=g4 x hx;cases ho:x.out with
  |true=>
   obtain⟨w1,w2,w3⟩:=hw.2.1 ho;exact⟨by rw[w3];simp,by rw[w2];simp,fun a ha=>by rw[w3]at ha;cases ha⟩
  |false=>
   obtain⟨w1,w2,w3,w4⟩:=hw.2.2 ho;exact⟨Ad2,by have:=w1.2.2.1;omega,fun a ha=>by have:=(w4 a ha).2.2.1;omega⟩
 have bp:∀x∈l,x.out=false->Px false 600 x:=fun x hx ho=>(HF.out x hx).ruleF ho;obtain⟨N,hN⟩:∃N:Nat,(N:Int)=n:=⟨n.toNat,Ad2⟩;have b1:N<=200:=Ad2;clear g1 g2 g4 ai he hL hM HF;refine Z9 109 [.tmp 6,.tmp 7,.tmp 8] Tryz.func53 ?_
 repeat' (first|refine Z1 ?_|(refine Z8 ?_;intro ya J)|(refine Z4 ?_;clear J ya)|(refine Z2 ?_ ?_<;>intro h ac<;>try exact Xp)|(refine Z6 ?_;intro idn un af ah ae ab ad aa)|(refine Z5 ?_;refine Xi (hC _) ?_;rintro _ _ ⟨rfl,an⟩)|refine Z7 ?_|exact Zt|(apply J.out;clear J ya))
 refine ACalls.mono (bn _) ?_;rintro _ u2 ⟨F,idf,cF,ok,rfl,hfr,be,a3⟩;have a0:=an.trans a3;have bf:=a0.nobj;clear bn hC an a3;rcases hfr with⟨rfl,aj⟩|⟨rfl,e,aj⟩
 case inr=>
  have HP:Ad8 (H4 t f n [] 0 7):=HQ.out [] 0 7 (by
   have:F1 l f=7:=by unfold F1;rw[aj]
   rw[if_pos (by rw[this];decide)]
   exact⟨rfl,rfl,this.symm⟩)
  clear HQ HK aj;refine Z7 ?_
  repeat' (first|refine Z1 ?_|(refine Z8 ?_;intro ya J)|(refine Z4 ?_;clear J ya)|(refine Z2 ?_ ?_<;>intro h ac<;>try exact Xp)|(refine Z6 ?_;intro idn un af ah ae ab ad aa)|refine Z7 ?_|exact Zt|(apply J.out;clear J ya))
  first|exact⟨_,rfl,[],0,7,rfl,HP.out,a0⟩|exact⟨_,rfl,[],0,7,rfl,HP.out⟩
 have ao:=vL (l:=l) aj;have b5:F.length<=400:=(Ct _ _ _ _ aj).2.1;have az:=fun cs idl hE u=>Yk l cs idl F cF idf hE g3 ax be Ad2 u;by_cases ap:Ny l F=0
 case neg=>
  have a9:(Ny l F !=0)=true:=by simpa using ap
  have HP:Ad8 (H4 t f n [] 0 (Ny l F)):=HQ.out [] 0 _ (by rw[if_pos (by rw[ao];exact ap)];exact⟨rfl,rfl,ao.symm⟩);clear HQ HK aj ao ap;generalize Ny l F=mi at az a9 HP;refine Z7 ?_
  repeat' (first|refine Z1 ?_|(refine Z8 ?_;intro ya J)|(refine Z4 ?_;clear J ya)|(refine Z2 ?_ ?_<;>intro h ac<;>try exact Xp)|(refine Z6 ?_;intro idn un af ah ae ab ad aa)|(refine Z5 ?_;first|(refine Xi (hI _) ?_;rintro _ _ ⟨idl,cs,rfl,hE,a7⟩;(have bz:=EL.length Cb hE;have am:=az cs idl hE))|(refine Xi (am _) ?_;rintro _ _ ⟨rfl,a6⟩))|refine Z7 ?_|exact Zt|(apply J.out;clear J ya))
  first|exact⟨_,rfl,[],0,mi,rfl,HP.out,(a0.trans a7).trans a6⟩|exact⟨_,rfl,[],0,mi,rfl,HP.out⟩
 have a9:(Ny l F !=0)=false:=by simpa using ap
 rw[ap]at az ao;have a9:((0:Int) !=0)=false:=rfl;have bd:=HK.out F aj ao;have bb:=fun cs idl hE u=>cJ l cs idl F cF idf N hE g3 ax (uQ bd be).1 b5 b1 bp u;rw[hN]at bb;have HR:Ad8 (∀{A:List RAtom} {k:Int} {ok:Bool},tH l F N A k ok->(ok=false->H4 t f n [] 0 9)/\(ok=true->H4 t f n (V3 (fun p=>D2 (Jn (A.map Gi) p)) l) k 0/\(∀a∈A,Gf (Fl (l.flatMap Af++F)) a)/\A.Nodup/\A.length<=1000)):=fun {A k ok} h=>by
  obtain⟨h1,h2⟩:=vK bd hN h;have hz:¬F1 l f≠0:=by rw[ao];simp
  refine⟨fun e=>HQ.out _ _ _ (by rw[if_neg hz];exact⟨F,aj,h1 e⟩),fun e=>?_⟩;obtain⟨h3,h4⟩:=h2 e;exact⟨HQ.out _ _ _ (by rw[if_neg hz];exact⟨F,aj,h3⟩),h4⟩
 clear HQ HK aj ao ap bd be;generalize Fl (l.flatMap Af++F)=ar at HR;refine Z7 ?_
 repeat' (first|refine Z1 ?_|(refine Z8 ?_;intro ya J)|(refine Z4 ?_;clear J ya)|(refine Z2 ?_ ?_<;>intro h ac<;>try exact Xp)|(refine Z6 ?_;intro idn un af ah ae ab ad aa)|(refine Z5 ?_;first|(refine Xi (hI _) ?_;rintro _ _ ⟨idl,cs,rfl,hE,a7⟩;(have bz:=EL.length Cb hE;have am:=az cs idl hE;have ay:=bb cs idl hE;clear az bb hI))|(refine Xi (am _) ?_;rintro _ _ ⟨rfl,a6⟩;(clear am)))|refine Z7 ?_|exact Zt|(apply J.out;clear J ya))
 refine ACalls.mono (ay _) ?_;rintro _ u5 ⟨A,ida,cA,k,ok,rfl,a4,ba,bm⟩;have bc:=((a0.trans a7).trans a6).trans bm;have knob:=bc.nobj;clear ay a7 a6 bm a0 bf;cases ok with
 |false=>
  have HP:Ad8 (H4 t f n [] 0 9):=(HR.out a4).1 rfl;clear HR a4 ba;refine Z7 ?_
  repeat' (first|refine Z1 ?_|(refine Z8 ?_;intro ya J)|(refine Z4 ?_;clear J ya)|(refine Z2 ?_ ?_<;>intro h ac<;>try exact Xp)|(refine Z6 ?_;intro idn un af ah ae ab ad aa)|refine Z7 ?_|exact Zt|(apply J.out;clear J ya))
  first|exact⟨_,rfl,[],0,9,rfl,HP.out,bc⟩|exact⟨_,rfl,[],0,9,rfl,HP.out⟩
 |true=>
  obtain⟨hq,hg,bg,b6⟩:=(HR.out a4).2 rfl;have hT:=ba rfl;have HP:Ad8 _:=hq;have bo:Ad8 (∀p,((D2 (Jn (A.map Gi) p)).flatMap (Cs p)).length<=A.length*10000):=fun p=>vM hg p;have bl:=fun p u=>Yl ar A cA ida p hT.el b6 hg (fun a ha=>⟨(hg a ha).ps,(hg a ha).pl,by have:=(hg a ha).le;omega,fun t ht=>((hg a ha).tm t ht).1.2.2.1⟩) bg u;have b9:=EL.length Ba hT.el;clear HR a4 ba hq hg bg hT;generalize bj:(fun p=>D2 (Jn (A.map Gi) p))=T at HP;have bi:∀p,D2 (Jn (A.map Gi) p)=T p:=fun p=>by rw[<-bj]
  simp only[bi]at bl bo;clear bj bi;refine Z7 ?_
  repeat' (first|refine Z1 ?_|(refine Z8 ?_;intro ya J)|(refine Z4 ?_;clear J ya)|(refine Z2 ?_ ?_<;>intro h ac<;>try exact Xp)|(refine Z6 ?_;intro idn un af ah ae ab ad aa)|refine Z7 ?_|exact Zt|(apply J.out;clear J ya))
  refine Ab (fun m s u'=>∃(i i3:Nat) (acc:Tx) (told:List Tx),m=l.length-i/\i<=l.length/\s 13=sl idl l.length cs/\s 14=sl ida A.length cA/\s 15=ic k/\s 16=str acc/\s 17=sl i3 told.length (told.map str)/\s 18=ic i/\Keep u u'/\Own u u' i3 told.length/\told.length<=i/\Ad8 ((l.take i).foldl (Nk T) ([],[])=(acc,told)/\acc.length<=i*10000000)) l.length
   ⟨0,1,[],[],Ad2,Ad2,Ad4,Ad4,Ad4,Ad4,Ad4,Ad4,bc,Own.nil _ _,by simp,by simp[Ad8]⟩ ?_
  rintro m s u' ⟨i,i3,acc,told,rfl,hi,cg,cf,ce,cd,cc,cb,hK,hO,b7,hA⟩;have bf:=hK.nobj;have bh:=hA.out.2;by_cases br:i<l.length
  ·have ak:=Aav br;obtain⟨ih,id,b,r,hb,hd⟩:=Df hE ak;generalize l[i]=x at ak hb hd;have HS:Ad8 _:=qH (T:=T) ak;have a5:=fun u=>Hn told i3 x.head.pred Ad2 u;have av:=mJ (told:=told) (p:=x.head.pred);clear ak;cases aw:x.out with
   |false=>
    have HN:Ad8 ((l.take (i+1)).foldl (Nk T) ([],[])=(acc,told)/\acc.length<=(i+1)*10000000):=⟨by rw[HS.out,hA.out.1,Nk,if_neg (by simp[aw])],Aal bh (Aar _ (Aaq i))⟩;clear HS hA av
    repeat' (first|refine Z1 ?_|(refine Z8 ?_;intro ya J)|(refine Z4 ?_;clear J ya)|(refine Z2 ?_ ?_<;>intro h ac<;>try exact Xp)|(refine Z6 ?_;intro idn un af ah ae ab ad aa)|refine Z7 ?_|exact Zt|(apply J.out;clear J ya))
    refine⟨l.length-(i+1),Ad2,i+1,i3,acc,told,?_⟩
    ((repeat' refine Zi ?_ ?_)<;>first|exact Xq|exact HN|exact Xs)
   |true=>
    by_cases au:x.head.pred∈told
    ·have a8:decide (Im told x.head.pred<0)=false:=by simp only[decide_eq_false_iff_not];exact fun h=>av.1 h au
     have HN:Ad8 ((l.take (i+1)).foldl (Nk T) ([],[])=(acc,told)/\acc.length<=(i+1)*10000000):=⟨by rw[HS.out,hA.out.1,Nk,if_neg (by simp[au])],Aal bh (Aar _ (Aaq i))⟩;clear HS hA av au;generalize Im told x.head.pred=wh at a5 a8
     repeat' (first|refine Z1 ?_|(refine Z8 ?_;intro ya J)|(refine Z4 ?_;clear J ya)|(refine Z2 ?_ ?_<;>intro h ac<;>try exact Xp)|(refine Z6 ?_;intro idn un af ah ae ab ad aa)|(refine Z5 ?_;refine Xi (a5 _) ?_;rintro _ _ ⟨rfl,rfl⟩)|refine Z7 ?_|exact Zt|(apply J.out;clear J ya))
     refine⟨l.length-(i+1),Ad2,i+1,i3,acc,told,?_⟩
     ((repeat' refine Zi ?_ ?_)<;>first|exact Xq|exact HN|exact Xs)
    ·have a8:decide (Im told x.head.pred<0)=true:=by simp only[Adw];exact av.2 au
     have bk:=bl x.head.pred;have bu:((T x.head.pred).flatMap (Cs x.head.pred)).length<=10000000:=by have:=bo.out x.head.pred;omega
     have HN:Ad8 ((l.take (i+1)).foldl (Nk T) ([],[])=(acc++(T x.head.pred).flatMap (Cs x.head.pred),told++[x.head.pred])/\(acc++(T x.head.pred).flatMap (Cs x.head.pred)).length<=(i+1)*10000000):=⟨by rw[HS.out,hA.out.1,Nk,if_pos ⟨aw,au⟩],by rw[Abj];omega⟩;clear HS hA av au;generalize Im told x.head.pred=wh at a5 a8;generalize (T x.head.pred).flatMap (Cs x.head.pred)=tx at bk bu HN;have b8:(told.map str).length=told.length*1:=by simp
     repeat' (first|refine Z1 ?_|(refine Z8 ?_;intro ya J)|(refine Z4 ?_;clear J ya)|(refine Z2 ?_ ?_<;>intro h ac<;>try exact Xp)|(refine Z6 ?_;intro idn un af ah ae ab ad aa)|(refine Z5 ?_;first|(refine Xi (a5 _) ?_;rintro _ _ ⟨rfl,rfl⟩)|(refine Xi (bk _) ?_;rintro _ _ ⟨rfl,a3⟩;(have b4:=ah.trans a3;have b0:=Own.keep af a3)))|refine Z7 ?_|exact Zt|(apply J.out;clear J ya))
     refine⟨l.length-(i+1),Ad2,i+1,idn,acc++tx,told++[x.head.pred],?_⟩
     ((repeat' refine Zi ?_ ?_)<;>first|exact Xq|exact HN|exact b4|exact (by simpa using b0)|exact Xs)
  ·have bv:i=l.length:=Ad2;subst bv;rw[Aa3]at hA;have HX:Ad8 (H4 t f n acc k 0):=by
    have:=HP.out;unfold V3 at this;rw[hA.out.1]at this;exact this
   clear hA HP
   repeat' (first|refine Z1 ?_|(refine Z8 ?_;intro ya J)|(refine Z4 ?_;clear J ya)|(refine Z2 ?_ ?_<;>intro h ac<;>try exact Xp)|(refine Z6 ?_;intro idn un af ah ae ab ad aa)|refine Z7 ?_|exact Zt|(apply J.out;clear J ya))
   first|exact⟨_,rfl,acc,k,0,rfl,HX.out,hK⟩|exact⟨_,rfl,acc,k,0,rfl,HX.out⟩
theorem nL (o:Zl)(hk:o.kind=4)(c:List AV)(hc:EO o c)(u:St):ACalls Tryz.prog 27 [ag c] u fun r u'=>r=sc (.bool true)/\Keep u u':=by
 have hP:=fun u=>(qT o.s o.e o.n u).mono fun r u' h=>show∃x k e,r=tp [str x,ic k,ic e]/\(∀x' k' e',H4 o.s o.e o.n x' k' e'->x=x'/\k=k'/\e=e')/\Keep u u' from by
  obtain⟨x,k,e,h1,h2,h3⟩:=h;exact⟨x,k,e,h1,fun x' k' e' h=>qV (zC h2) h,h3⟩
 have hR:=fun u=>nI o.s o.e o.n u;unfold EO at hc;subst hc;rw[hk]at*
 refine Z9 154 [.tmp 2] Tryz.func27 ?_
 repeat' (first|refine Z1 ?_|(refine Z8 ?_;intro ya J)|(refine Z4 ?_;clear J ya)|(refine Z2 ?_ ?_<;>intro h aj<;>try exact Xp)|(refine Z5 ?_;first|(refine Xi (hP _) ?_;rintro _ _ ⟨x,k,e,rfl,hp,ac⟩;(have ae:=ac.obj;have aa:=ac.nobj;have HP:Ad8 _:=hp;clear hp;(try simp only[Aa,Ac,Av]at aa)))|(refine Xi (hR _) ?_;rintro _ _ ⟨x',k',e',rfl,hr,ab⟩;(have ad:=ab.obj;have af:=ab.nobj;obtain⟨hx,ah,ai⟩:=HP.out _ _ _ hr;subst hx;subst ah;subst ai;clear hr))|(refine Xi (rN _ _) ?_;rintro _ _ ⟨rfl,hu⟩;(replace hu:=hu.symm;subst hu)))|refine Z7 ?_|exact Zt|(apply J.out;clear J ya))
 all_goals
  first
  |exact⟨_,rfl,rfl,Xs⟩
  |exact⟨_,rfl,rfl⟩
  |(exfalso;simp at*;done)
theorem runs_spec (l:List Zl)(cs:List AV)(ids:Nat)(hE:EL EO l cs)(hl:l.length<=9223372036854775807)(u:St):ACalls Tryz.prog 5 [sl ids l.length cs] u fun r u'=>r=sc (.bool true)/\Keep u u':=by
 have hP:xK 4 4 l:=fun o _ h1 h2 c hc u=>nL o Ad2 c hc u;refine Z9 6 [.tmp 2] Tryz.func5 ?_
 repeat' (first|refine Z1 ?_|(refine Z8 ?_;intro ya J)|(refine Z4 ?_;clear J ya)|(refine Z2 ?_ ?_<;>intro h aa<;>try exact Xp)|(refine Z5 ?_;refine Xi (mP l cs ids 4 4 hE hl hP _) ?_;rintro _ _ ⟨rfl,ab⟩)|refine Z7 ?_|exact Zt|(apply J.out;clear J ya))
 first|exact⟨_,rfl,rfl,ab⟩|exact⟨_,rfl,rfl⟩|exact⟨_,rfl⟩
end Go.Proofs.YtmoeoppbmhfbpaaGreatDoorH
