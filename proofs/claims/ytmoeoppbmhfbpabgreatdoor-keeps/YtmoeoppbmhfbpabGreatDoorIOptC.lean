import Derived.Test.YtmoeoppbmhfbpabGreatDoorIDocI
import Derived.Test.YtmoeoppbmhfbpabGreatDoorIFacts
import Derived.Test.YtmoeoppbmhfbpabGreatDoorIEngR
import Derived.Test.YtmoeoppbmhfbpabGreatDoorISpaE
import Derived.Test.YtmoeoppbmhfbpabGreatDoorIProgM
set_option maxHeartbeats 64000000
set_option maxRecDepth 100000
set_option linter.all false
open List renaming length->Z
namespace Go.Proofs.YtmoeoppbmhfbpabGreatDoorI
open Go.Abs
def T5 (N:List Tx)(l' l:List AB):Bool:=(List.range (Z N)).any fun k=>(D8 N l k&&!D8 N l' k)&&Hv N l' k
theorem Wz (f k):(List.range (k+1)).any f=((List.range k).any f||f k):=by
 rw[List.range_succ,LM];simp
theorem rT (N l l' cs cs' idn idn' idi idi')(hE:EL (PI N) l cs)(ax:EL (PI N) l' cs')(hN:Z N<=2000)(hl:Z l<=1000)(av:Z l'<=1000)(a0:∀x∈l',Z x.A<=1000)(d):
  AF Tryz.prog 208 [Cl N idn' l' idi' cs',Cl N idn l idi cs] d fun r d'=>r=sc (.bool (T5 N l' l))/\AE d d':=by
 have hR:=fun k d=>Nh N l cs idn idi k hE hl d;have ak:=fun k d=>Nh N l' cs' idn' idi' k ax av d;have am:=fun k d=>lX N l' cs' idn' idi' k ax av a0 d;refine Z9 27 [.tmp 4] Tryz.func208 ?_
 refine zz ?_
 refine Ae (fun m s d'=>∃(k:Nat),m=Z N-k/\k<=Z N/\s 2=ptr d.B 0/\s 3=ptr (d.B+1) 0/\s 7=sl idn' (Z N) (N.map str)/\s 8=ic (Z N)/\s 9=ic k/\AE d d'/\d.B+1<d'.B/\d'.C d.B=[sl idn' (Z N) (N.map str),sl idi' (Z l') cs']/\d'.C (d.B+1)=[sl idn (Z N) (N.map str),sl idi (Z l) cs]/\AD ((List.range k).any (fun k=>(D8 N l k&&!D8 N l' k)&&Hv N l' k)=false)) (Z N)
  ⟨0,AA,AA,AG,AG,AG,AG,rfl,Xs,AK,by rw[Ah AK,Ao],Ao,by simp[AD]⟩ ?_
 rintro m s d' ⟨k,rfl,hk,h2,h3,h7,h8,h9,hK,a5,ao,an,hA⟩;have a4:=hK.B;by_cases ay:k<Z N
 ·have hR:=hR k;have ak:=ak k;have am:=am k;have au:=Wz (fun k=>(D8 N l k&&!D8 N l' k)&&Hv N l' k) k;rw[hA.o]at au;have aw:(D8 N l k&&!D8 N l' k&&Hv N l' k)=true->T5 N l' l=true:=fun h=>CW.2 ⟨k,by simpa using ay,h⟩;generalize D8 N l k=r1 at*
  generalize D8 N l' k=r2 at*
  generalize Hv N l' k=r3 at*
  have HS:AD _:=au;have HI:AD _:=aw;clear au aw hA;cases r1 with
  |false=>
   have HA:=HS.o;simp only[Bool.false_and,MO]at HA;have HB:AD _:=HA;clear HA HS HI
   refine qb ?_;intro yd yb;refine Xi (hR _) ?_;rintro _ _ ⟨rfl,ab⟩;(have ah:=ab.B;have aa:=ab.C);refine pz ?_
   refine⟨Z N-(k+1),AA,k+1,?_⟩
   ((repeat' refine Zi ?_ ?_)<;>first|exact Xq|exact HB|exact (hK.trans ab)|exact (by rw[aa _ AA,ao])|exact (by rw[aa _ AA,an])|exact Xs)
  |true=>
   cases r2 with
   |true=>
    have HA:=HS.o;simp only[ID,JA,Bool.false_and,MO]at HA;have HB:AD _:=HA;clear HA HS HI
    repeat' first|refine Z1 ?_|refine Z8 fun yd yb=>?_|refine Z4 ?_;clear yb yd|refine Z2 ?_ ?_<;>intro h ae<;>try exact Xp|(refine Z5 ?_;first|(refine Xi (hR _) ?_;rintro _ _ ⟨rfl,ab⟩;(have ah:=ab.B;have aa:=ab.C))|(refine Xi (ak _) ?_;rintro _ _ ⟨rfl,ad⟩;(have aj:=ad.B;have ac:=ad.C)))|refine Z3 ?_|exact Zt|apply yb.o;clear yb yd
    refine⟨Z N-(k+1),AA,k+1,?_⟩
    ((repeat' refine Zi ?_ ?_)<;>first|exact Xq|exact HB|exact ((hK.trans ab).trans ad)|exact (by rw[ac _ AA,aa _ AA,ao])|exact (by rw[ac _ AA,aa _ AA,an])|exact Xs)
   |false=>
    cases r3 with
    |false=>
     have HA:=HS.o;simp only[ID,JU,Bool.and_false,MO]at HA;have HB:AD _:=HA;clear HA HS HI
     repeat' first|refine Z1 ?_|refine Z8 fun yd yb=>?_|refine Z4 ?_;clear yb yd|refine Z2 ?_ ?_<;>intro h ae<;>try exact Xp|(refine Z5 ?_;first|(refine Xi (hR _) ?_;rintro _ _ ⟨rfl,ab⟩;(have ah:=ab.B;have aa:=ab.C))|(refine Xi (ak _) ?_;rintro _ _ ⟨rfl,ad⟩;(have aj:=ad.B;have ac:=ad.C))|(refine Xi (am _) ?_;rintro _ _ ⟨rfl,ai⟩;(have ap:=ai.B;have af:=ai.C)))|refine Z3 ?_|exact Zt|apply yb.o;clear yb yd
     refine⟨Z N-(k+1),AA,k+1,?_⟩
     ((repeat' refine Zi ?_ ?_)<;>first|exact Xq|exact HB|exact (((hK.trans ab).trans ad).trans ai)|exact (by rw[af _ AA,ac _ AA,aa _ AA,ao])|exact (by rw[af _ AA,ac _ AA,aa _ AA,an])|exact Xs)
    |true=>
     have HL:AD (T5 N l' l=true):=HI.o rfl;clear HS HI
     repeat' first|refine Z1 ?_|refine Z8 fun yd yb=>?_|refine Z4 ?_;clear yb yd|refine Z2 ?_ ?_<;>intro h ae<;>try exact Xp|(refine Z5 ?_;first|(refine Xi (hR _) ?_;rintro _ _ ⟨rfl,ab⟩;(have ah:=ab.B;have aa:=ab.C))|(refine Xi (ak _) ?_;rintro _ _ ⟨rfl,ad⟩;(have aj:=ad.B;have ac:=ad.C))|(refine Xi (am _) ?_;rintro _ _ ⟨rfl,ai⟩;(have ap:=ai.B;have af:=ai.C;have a3:=((hK.trans ab).trans ad).trans ai)))|refine Z3 ?_|exact Zt|apply yb.o;clear yb yd
     first|exact⟨_,rfl,by rw[HL.o],a3⟩|exact⟨_,rfl,by rw[HL.o]⟩
 ·have az:k=Z N:=AA;have HL:AD (T5 N l' l=false):=by
   have:=hA.o;rw[az]at this;exact this
  clear hA
  refine pz ?_
  first|exact⟨_,rfl,by rw[HL.o],hK⟩|exact⟨_,rfl,by rw[HL.o]⟩
structure JW (N:List Tx)(l:List AB)(cs:List AV):Prop where
 el:EL (PI N) l cs
 len:Z l<=1000
 nm:Z N<=2000
 msr:∀x∈l,KT N x
 fits:∀x∈l,x.fits
 pos:∀x∈l,∀a∈Af x,0<Z a.A
 va:∀x∈l,∀a∈Af x,VA a
theorem JW.bk {N l cs}(h:JW N l cs)(hl:Z l<=16):Bk N l cs:=⟨h.el,hl,h.fits,fun x hx=>(h.msr x hx).o,h.nm,h.pos⟩
def E4 (N:List Tx)(l l':List AB):Bool:=Ls l'&&(!T5 N l' l&&((Cn l').1==0))
structure QW (N:List Tx)(l:List AB)(cs:List AV):Prop where
 pj:EL (PJ N) l cs
 len:Z l<=1000
 bk:Ls l=true->JW N l cs
theorem JW.bj {N l cs}(h:JW N l cs):QW N l cs:=⟨Qq h.el fun x hx c hc=>.inl ⟨hc,h.msr x hx⟩,h.len,fun _=>h⟩
theorem Ik (N l l' cs cs' idn idi idi')(hB:JW N l cs)(ad:QW N l' cs')(d):
  AF Tryz.prog 177 [Cl N idn l idi cs,sl idi' (Z l') cs'] d fun r d'=>(∃x,r=tp [x,sc (.bool (E4 N l l'))]/\(E4 N l l'=true->x=Cl N idn l' idi' cs')/\(∃id1 n1 c1 id2 n2 c2,x=ag [sl id1 n1 c1,sl id2 n2 c2]))/\AE d d':=by
 have ai:=fun d=>Zz N l' cs' idn idi' ad.pj hB.nm ad.len d;cases ac:Ls l' with
 |false=>
  have af:E4 N l l'=false:=by unfold E4;rw[ac];rfl
  rw[ac]at ai;rw[af];refine Z9 30 [.cell 4 62,.tmp 5] Tryz.func177 ?_
  refine qb ?_;intro yd yb;refine Xi (ai _) ?_;rintro _ _ ⟨rfl,ae⟩;(have ab:=ae.B;have aa:=ae.C;(try simp only[Aa,Ab]at ab aa));refine pz ?_
  exact⟨_,rfl,⟨_,rfl,(fun h=>by cases h),1,0,[],1,0,[],rfl⟩,Xs⟩
 |true=>
  rw[ac]at ai;have ad:=ad.bk ac;have am:=fun d=>rT N l l' cs cs' idn idn idi idi' hB.el ad.el hB.nm hB.len ad.len (fun x hx=>(ad.msr x hx).A) d;have ap:Z l'<=16:=by
   unfold Ls at ac;simp only[BX,DF]at ac;exact ac.1
  cases ak:T5 N l' l with
  |true=>
   have af:E4 N l l'=false:=by unfold E4;rw[ac,ak];rfl
   rw[ak]at am;rw[af];refine Z9 30 [.cell 4 62,.tmp 5] Tryz.func177 ?_
   repeat' first|refine Z1 ?_|refine Z8 fun yd yb=>?_|refine Z4 ?_;clear yb yd|refine Z2 ?_ ?_<;>intro h ah<;>try exact Xp|(refine Z5 ?_;first|(refine Xi (ai _) ?_;rintro _ _ ⟨rfl,ae⟩;(have ab:=ae.B;have aa:=ae.C;(try simp only[Aa,Ab]at ab aa)))|(refine Xi (am _) ?_;rintro _ _ ⟨rfl,aj⟩;(have ao:=aj.B;have an:=aj.C)))|refine Z3 ?_|exact Zt|apply yb.o;clear yb yd
   exact⟨_,rfl,⟨_,rfl,(fun h=>by cases h),1,0,[],1,0,[],rfl⟩,Xs⟩
  |false=>
   have af:E4 N l l'=((Cn l').1==0):=by unfold E4;rw[ac,ak];simp
   rw[ak]at am;rw[af];have hF:=fun d=>Yj N l' cs' idn idi' (ad.bk ap) ad.va d;generalize Cn l'=wm at hF;obtain⟨w1,w2⟩:=wm;clear af;refine Z9 30 [.cell 4 62,.tmp 5] Tryz.func177 ?_
   repeat' first|refine Z1 ?_|refine Z8 fun yd yb=>?_|refine Z4 ?_;clear yb yd|refine Z2 ?_ ?_<;>intro h ah<;>try exact Xp|(refine Z5 ?_;first|(refine Xi (ai _) ?_;rintro _ _ ⟨rfl,ae⟩;(have ab:=ae.B;have aa:=ae.C;(try simp only[Aa,Ab]at ab aa)))|(refine Xi (am _) ?_;rintro _ _ ⟨rfl,aj⟩;(have ao:=aj.B;have an:=aj.C))|(refine Xi (hF _) ?_;rintro _ _ ⟨rfl,au⟩;(have aw:=au.B;have av:=au.C)))|refine Z3 ?_|exact Zt|apply yb.o;clear yb yd
   exact⟨_,rfl,⟨_,rfl,fun _=>rfl,_,_,_,_,_,_,rfl⟩,Xs⟩
def C7 {α:Type}(n:Nat)(o:List α)(l:List α):List α:=l.zipIdx.flatMap fun p=>if p.2=n then o else [p.1]
theorem Ww {α:Type}{n}{o l:List α}{i x}(h:l[i]?=some x):C7 n o (l.take (i+1))=C7 n o (l.take i)++if i=n then o else [x]:=by
 have hi:=(BG.1 h).1;unfold C7;rw[AU,h,BJ,List.zipIdx_append,JL,CV,EZ AA];simp
theorem Q6 {α:Type}{n o}(l:List α):∀i,Z (C7 n o (l.take i))<=i*(Z o+1)
 |0=>by simp[C7]
 |i+1=>by
  have ih:=Q6 l i (n:=n) (o:=o);cases h:l[i]? with
  |none=>
   rw[AU,h,Option.toList_none,FA];rw[FE];omega
  |some x=>
   rw[Ww h,AX,FE];split<;>simp<;>omega
def QU (c:List AV):Prop:=∃(o:Bool) (p:Int) (ih n1:Nat) (tc:List AV) (ib n2:Nat) (b:List AV),c=[sc (.bool o),ic p,sl ih n1 tc,sl ib n2 b]
theorem pD {N x c}(h:PI N x c):QU c:=by
 obtain⟨-,ih,id,b,-,rfl⟩:=h;exact⟨_,_,_,_,_,_,_,_,rfl⟩
theorem Nb {α:Type}{E}(hz:∀x c,E x c->QU c)(N)(l o:List α)(cs co)(idn idi ido n:Nat)(hE:EL E l cs)(az:EL E o co)(hl:Z l<=1000)(ho:Z o<=1000)(d):
  AF Tryz.prog 178 [ag [sl idn (Z N) (N.map str),sl idi (Z l) cs],sl ido (Z o) co,ic n] d fun r d'=>(∃id c',r=sl id (Z (C7 n o l)) c'/\EL E (C7 n o l) c')/\AE d d':=by
 have h4:∀x c,E x c->Z c=4:=fun x c h=>by obtain⟨_,_,_,_,_,_,_,_,rfl⟩:=hz x c h;rfl
 have bi:=EL.length h4 hE;have bh:=EL.length h4 az;refine Z9 41 [.tmp 6] Tryz.func178 ?_
 refine zz ?_
 refine Ae (fun m s d'=>∃(i id:Nat) (R:List α) (c:List AV),m=Z l-i/\i<=Z l/\s 1=sl ido (Z o) co/\s 2=ic n/\s 7=sl id (Z R) c/\s 14=sl idi (Z l) cs/\s 15=ic (Z l)/\s 16=ic i/\AE d d'/\Own d d' id (Z R)/\Z c=Z R*4/\Z R<=i*(Z o+1)/\AD (R=C7 n o (l.take i)/\EL E R c)) (Z l)
  ⟨0,1,[],[],AA,AA,rfl,rfl,AG,AG,AG,rfl,Xs,Own.nil _ _,by simp,by simp,⟨by simp[C7],rfl⟩⟩ ?_
 rintro m s d' ⟨i,id,R,c,rfl,hi,h1,h2,h7,a4,a3,a0,hK,hO,ae,bd,hA⟩;have ax:=hK.B;by_cases ba:i<Z l
 ·have aa:=AJ ba;obtain⟨c1,r,an,hd⟩:=EL.get h4 hE aa;generalize l[i]=x at hd aa an;obtain⟨x1,x2,x3,x4,x5,x6,x7,x8,rfl⟩:=hz _ _ an;simp only[FC,FM]at hd;have bf:AD _:=an;clear an;have bl:Z R<=1001000:=BO bd (BO (MJ (by omega:i<=1000) (by omega:Z o+1<=1001)) (by decide));have af:=Q6 (n:=n) (o:=o) l (i+1);have ac:=Ww (n:=n) (o:=o) aa;rw[<-hA.o.1]at ac;by_cases ah:i=n
  ·rw[if_pos ah]at ac;have a9:((i:Int) !=(n:Int))=false:=by simp[ah]
   have a5:AD _:=ac;have a6:AD (EL E R c):=hA.o.2;rw[ac,AX]at af;clear ac aa hA ah
   refine pz ?_
   refine Ae (fun m s d2=>∃(j id:Nat) (c':List AV),m=Z o-j/\j<=Z o/\s 1=sl ido (Z o) co/\s 2=ic n/\s 7=sl id (Z R+j) c'/\s 14=sl idi (Z l) cs/\s 15=ic (Z l)/\s 16=ic i/\s 28=sl ido (Z o) co/\s 29=ic (Z o)/\s 30=ic j/\AE d d2/\Own d d2 id (Z R+j)/\Z c'=(Z R+j)*4/\AD (EL E (R++o.take j) c')) (Z o)
    ⟨0,id,c,AA,AA,AI,AI,AI,AI,AI,AI,AI,AI,AG,Xs,(by simpa using Own.put (Own.new hO _) _ _),by simpa using ae,by simpa using a6⟩ ?_
   clear h1 h2 h7 a4 a3 a0 hK hO ax ae a6;rintro m s d2 ⟨j,id,c',rfl,hj,h1,h2,h7,a4,a3,a0,bp,bo,bn,hK,hO,ae,ai⟩;have ax:=hK.B;by_cases ap:j<Z o
   ·have ak:=AJ ap;obtain⟨c2,rj,am,ay⟩:=EL.get h4 az ak;generalize o[j]=y at ay ak am;obtain⟨y1,y2,y3,y4,y5,y6,y7,y8,rfl⟩:=hz _ _ am;simp only[FC,FM]at ay;have bg:AD (EL E (R++o.take (j+1)) (c'++[sc (.bool y1),ic y2,sl y3 y4 y5,sl y6 y7 y8])):=by
     rw[AD,AU,ak,BJ,<-CX];exact EL.append ai.o (EL.single am)
    clear ak ai am
    refine qm ?_;intro yd yb
    refine Bn (by first|exact Mu) ((hK.new _).put hK.B _) (Own.put (Own.new hO _) _ _) (by decide) (by rfl) (ae) (by rfl) (by rfl) (by decide) AA AA ?_;intro idn dn au be aw ab av aj;simp only[Ab,Aa]at ab;refine Z3 ?_
    refine zz ?_
    refine⟨Z o-(j+1),AA,j+1,idn,c'++[sc (.bool y1),ic y2,sl y3 y4 y5,sl y6 y7 y8],?_⟩
    ((repeat' refine Zi ?_ ?_)<;>first|exact Xq|exact bg|exact au|exact ((by simp[ae];omega))|exact Xs)
   ·have bb:j=Z o:=AA;subst bb;rw[AS]at ai;have HA:AD (R++o=C7 n o (l.take (i+1))/\EL E (R++o) c'):=⟨a5.o.symm,ai.o⟩;clear ai a5;have bc:Z c'=Z (R++o)*4:=by rw[ae,AX]
    have bm:Own d d2 id (Z (R++o)):=by rw[AX];exact hO
    rw[<-AX]at h7;have a8:Z (R++o)<=(i+1)*(Z o+1):=by rw[AX];exact af
    refine pz ?_
    refine⟨Z l-(i+1),AA,i+1,id,R++o,c',?_⟩
    exact qh HA
  ·rw[if_neg ah]at ac;have a9:((i:Int) !=(n:Int))=true:=by simpa using (by omega:¬(i:Int)=n)
   have HA:AD (R++[x]=C7 n o (l.take (i+1))/\EL E (R++[x]) (c++[sc (.bool x1),ic x2,sl x3 x4 x5,sl x6 x7 x8])):=⟨ac.symm,EL.append hA.o.2 (EL.single bf.o)⟩;rw[ac]at af;clear ac aa hA ah
   refine qm ?_;intro yd yb
   refine Bn (by first|exact Mu) ((hK.new _).put hK.B _) (Own.put (Own.new hO _) _ _) (by decide) (by rfl) (ae) (by rfl) (by rfl) (by decide) AA AA ?_;intro idn dn au be aw ab av aj;simp only[Ab,Aa]at ab;refine Z3 ?_
   refine zz ?_
   refine⟨Z l-(i+1),AA,i+1,idn,R++[x],c++[sc (.bool x1),ic x2,sl x3 x4 x5,sl x6 x7 x8],?_⟩
   ((repeat' refine Zi ?_ ?_)<;>first|exact Xq|exact HA|exact ((by simpa using au))|exact ((by simp[ae];omega))|exact Xs)
 ·have hil:i=Z l:=AA;subst hil;rw[AS]at hA;have ao:AD (C7 n o l=R):=hA.o.1.symm;have a7:AD (EL E R c):=hA.o.2;clear hA
  refine pz ?_
  first|exact⟨_,rfl,⟨id,c,by rw[ao.o],by rw[ao.o];exact a7.o⟩,hK⟩|exact⟨_,rfl,id,c,by rw[ao.o],by rw[ao.o];exact a7.o⟩
theorem W1 (N l o cs co)(idn idi ido n:Nat)(hE:EL (PI N) l cs)(aa:EL (PI N) o co)(hl:Z l<=1000)(ho:Z o<=1000)(d):
  AF Tryz.prog 178 [Cl N idn l idi cs,sl ido (Z o) co,ic n] d fun r d'=>(∃id c',r=sl id (Z (C7 n o l)) c'/\EL (PI N) (C7 n o l) c')/\AE d d':=
 Nb (fun _ _ h=>pD h) N l o cs co idn idi ido n hE aa hl ho d
structure GL (N:List Tx)(l:List AB):Prop where
 len:Z l<=16
 nm:Z N<=2000
 msr:∀x∈l,KT N x
 fits:∀x∈l,x.fits
 pos:∀x∈l,∀a∈Af x,0<Z a.A
 va:∀x∈l,∀a∈Af x,VA a
 ar:∀x∈l,∀a∈x.A,∀b∈x.A,a.B=b.B->Z a.A=Z b.A
theorem GL.bkm {N l cs}(h:GL N l)(hE:EL (PI N) l cs):JW N l cs:=⟨hE,by have:=h.len;omega,h.nm,h.msr,h.fits,h.pos,h.va⟩
theorem Ee {α:Type}{n}{o l:List α}{x}(h:x∈C7 n o l):x∈l\/x∈o:=by
 unfold C7 at h;obtain⟨p,hp,hx⟩:=DR.1 h;split at hx
 ·exact .inr hx
 ·simp at hx;subst hx;exact .inl (List.fst_mem_of_mem_zipIdx hp)
theorem jk {α:Type}{n}{y:α}(l):Z (C7 n [y] l)=Z l:=by
 unfold C7;rw[List.length_flatMap];have key:∀(l:List α) (k:Nat),((l.zipIdx k).map fun p=>Z (if p.2=n then [y]else [p.1])).sum=Z l:=by
  intro l;induction l with
  |nil=>intro k;simp
  |cons x l ih=>
   intro k;have:=ih (k+1);simp only[List.zipIdx_cons,CU,List.sum_cons,BQ];rw[this];split<;>simp<;>omega
 exact key l 0
theorem Q5 {α:Type}{n}(l:List α):Z (C7 n [] l)<=Z l:=by
 unfold C7;rw[List.length_flatMap];have key:∀(l:List α) (k:Nat),((l.zipIdx k).map fun p=>Z (if p.2=n then []else [p.1])).sum<=Z l:=by
  intro l;induction l with
  |nil=>intro k;simp
  |cons x l ih=>
   intro k;have:=ih (k+1);simp only[List.zipIdx_cons,CU,List.sum_cons,BQ];split<;>simp<;>omega
 exact key l 0
theorem Mq {x k}(ho:x.o=false){a}(h:a∈Af (F7 x k)):a∈Af x:=by
 have h':a=x.h\/a∈x.A.eraseIdx k:=by simpa[Af,F7]using h
 rcases h' with rfl|h'
 ·exact Ar (.inl ⟨ho,rfl⟩)
 ·exact Ar (.inr (FY h'))
theorem GL.wo {N l}(h:GL N l){i k x}(hx:l[i]?=some x)(ho:x.o=false):GL N (C7 i [F7 x k] l):=by
 have aa:=BD hx;have hm:∀y∈C7 i [F7 x k] l,y∈l\/y=F7 x k:=fun y hy=>by
  rcases Ee hy with h|h
  ·exact .inl h
  ·exact .inr (by simpa using h)
 have m:=h.msr x aa;refine⟨by rw[jk];exact h.len,h.nm,fun y hy=>?_,fun y hy=>?_,fun y hy=>?_,fun y hy=>?_,fun y hy=>?_⟩
 ·rcases hm y hy with hy|rfl
  ·exact h.msr y hy
  ·exact⟨(fun e=>by cases e),BO (ML _ _) m.A,m.mem,m.hpl,fun a ha=>m.at_ a (Mq ho ha)⟩
 ·rcases hm y hy with hy|rfl
  ·exact h.fits y hy
  ·exact U8 (h.fits x aa)
 ·rcases hm y hy with hy|rfl
  ·exact h.pos y hy
  ·exact fun a ha=>h.pos x aa a (Mq ho ha)
 ·rcases hm y hy with hy|rfl
  ·exact h.va y hy
  ·exact fun a ha=>h.va x aa a (Mq ho ha)
 ·rcases hm y hy with hy|rfl
  ·exact h.ar y hy
  ·exact fun a ha b hb=>h.ar x aa a (FY ha) b (FY hb)
def KZ (N:List Tx)(x:AB)(k:Nat):Option Sw:=(C3 Mv (x.h.A.map Ap) (x.h.A.map Ap)).bind fun s0=>My N x k s0
theorem fR {N l}(h:GL N l){x}(hx:x∈l)(ho:x.o=false)(c)(k:Nat)(hc:PI N x c)(d):AF Tryz.prog 94 [ag c,ic k] d fun r d'=>r=Qw (KZ N x k)/\AE d d':=by
 have m:=h.msr x hx;have hh:=m.at_ x.h (Ar (.inl ⟨ho,rfl⟩));obtain⟨s0,aa,-⟩:=aJ DX x.h.A hh.2.2;have:=lT N x c k s0 hc (h.fits x hx) aa (fun t ht=>(hh.2.2 t ht).varOk) (fun a ha=>⟨(h.fits x hx).2.2 a ha,fun t ht=>((m.at_ a (Ar (.inr ha))).2.2 t ht).varOk,fun b hb=>h.ar x hx a ha b (FY hb)⟩) d;rw[KZ,aa];exact this
def oY (x:AV):Prop:=∃id1 n1 c1 id2 n2 c2,x=ag [sl id1 n1 c1,sl id2 n2 c2]
def vY (N:List Tx)(l:List AB)(i k:Nat):Bool:=match l[i]? with
 |some x=>(KZ N x k).isSome&&E4 N l (C7 i [F7 x k] l)
 |none=>false
def yP (N:List Tx)(l:List AB)(n:Nat):Prop:=∀i y,i<n->l[i]?=some y->∀k,k<Z y.A->vY N l i k=false
def OC (N:List Tx)(l:List AB)(idn:Nat)(x:AV)(b:Bool):Prop:=
 (b=false/\yP N l (Z l))\/(b=true/\∃i k y,l[i]?=some y/\y.o=false/\k<Z y.A/\vY N l i k=true/\yP N l i/\(∀k',k'<k->vY N l i k'=false)/\∃id c',x=Cl N idn (C7 i [F7 y k] l) id c'/\EL (PI N) (C7 i [F7 y k] l) c')
theorem Qt (N l cs idn idi)(hG:GL N l)(hE:EL (PI N) l cs)(d):
  AF Tryz.prog 125 [Cl N idn l idi cs] d fun r d'=>(∃x b,r=tp [x,sc (.bool b)]/\OC N l idn x b/\oY x)/\AE d d':=by
 have cc:=EL.length E7 hE;have bz:=hG.len;have b7:=Dc;have b6:=Q1;have b5:∀s,List.take 78 (D7 s)=D7 s:=fun s=>FW (by rw[Dc];exact AR _);have b9:∀s s',lsp (D7 s) 0 (D7 s')=D7 s':=fun s s'=>F3 (by rw[Dc,Dc]);have cb:∀s,(D7 s).all flat=true:=fun s=>by
  rw[EK];intro x hx;obtain⟨n,-,rfl⟩:=AO.1 hx;unfold kV;split
  ·rfl
  ·split<;>rfl
 refine Z9 53 [.cell 2 62,.tmp 3] Tryz.func125 ?_
 refine zz ?_
 refine Ae (fun m s d'=>∃(i:Nat),m=Z l-i/\i<=Z l/\s 1=ptr d.B 0/\s 2=ptr (d.B+1) 0/\s 13=sl idi (Z l) cs/\s 14=ic (Z l)/\s 15=ic i/\AE d d'/\d.B+1<d'.B/\d'.C d.B=[sl idn (Z N) (N.map str),sl idi (Z l) cs]/\d'.C (d.B+1)=[nilS,nilS]/\AD (yP N l i)) (Z l)
  ⟨0,AA,AA,AG,AG,AG,AG,rfl,Xs,AK,by rw[Ah AK,Ao],by first|exact Ao|simp[Ao],fun i y h=>AA⟩ ?_
 rintro m s d' ⟨i,rfl,hi,h1,h2,bp,bo,bn,hK,b8,az,ay,hA⟩;have b4:=hK.B;by_cases bl:i<Z l
 ·have ac:=AJ bl;have a0:=AT bl;have bm:=hG.fits l[i] a0;have bi:=hG.msr l[i] a0;obtain⟨a7,ih,idb,b,r,a3,hd⟩:=Io hE ac;generalize l[i]=x at hd ac a7 a3 a0 bm bi;have b1:=bm.1;have cd:=EL.length Es a3;have HG:AD (l[i]?=some x):=ac;clear ac
  refine pz ?_
  refine Ae (fun m s d2=>∃(k:Nat),m=Z x.A-k/\k<=Z x.A/\s 1=ptr d.B 0/\s 2=ptr (d.B+1) 0/\s 4=ic i/\s 5=ptr d'.B 0/\s 13=sl idi (Z l) cs/\s 14=ic (Z l)/\s 15=ic i/\s 21=sl idb (Z x.A) b/\s 22=ic (Z x.A)/\s 23=ic k/\AE d d2/\d'.B<d2.B/\d2.C d.B=[sl idn (Z N) (N.map str),sl idi (Z l) cs]/\d2.C (d.B+1)=[nilS,nilS]/\d2.C d'.B=[sc (.bool x.o),ic (N.idxOf x.h.B:Nat),sl ih (Z x.h.A) (A2 x.h.A),sl idb (Z x.A) b]/\AD (∀k',k'<k->vY N l i k'=false)) (Z x.A)
   ⟨0,AA,AA,AI,AI,AI,AI,AI,AI,AI,AG,AG,AG,Xs,BM,by rw[Aj AA,Ah AA,az],by rw[Aj AA,Ah AA,ay],by rw[Ak],fun k' h=>AA⟩ ?_
  clear h1 h2 bp bo bn hK az ay;rintro m s d2 ⟨k,rfl,hk,h1,h2,h4,h5,bp,bo,bn,cg,cf,ce,hK,bw,az,ay,bg,hN⟩;have bq:=hK.B;by_cases am:k<Z x.A
  ·have an:x.o=false:=by
    cases h:x.o with
    |false=>rfl
    |true=>rw[bi.o h]at am;cases am
   have af:=fun d=>fR hG a0 an _ k (PI.of (ih:=ih) (id:=idb) a7 a3) d;simp only[an]at af bg;have ae:vY N l i k=((KZ N x k).isSome&&E4 N l (C7 i [F7 x k] l)):=by unfold vY;rw[HG.o]
   cases hs:KZ N x k with
   |none=>
    rw[hs]at af ae;simp only[Qw]at af;have HN:AD (∀k',k'<k+1->vY N l i k'=false):=fun k' a9=>by
     rcases FQ k' k with h|h
     ·exact hN.o k' h
     ·rw[show k'=k by omega,ae];rfl
    clear hN ae hs
    refine qb ?_;intro yd yb;refine Xi (af _) ?_;rintro _ _ ⟨rfl,ad⟩;(have ap:=ad.B;have aa:=ad.C);refine pz ?_
    rename_i d3;have b3:AE d ((d3.new (D7 Mv)).put d3.B (D7 Mv)):=((hK.trans ad).new _).put AA _;have hz0:((d3.new (D7 Mv)).put d3.B (D7 Mv)).C d.B=[sl idn (Z N) (N.map str),sl idi (Z l) cs]:=by rw[Aj AA,Ah AA,aa _ AA,az]
    have bu:((d3.new (D7 Mv)).put d3.B (D7 Mv)).C (d.B+1)=[nilS,nilS]:=by rw[Aj AA,Ah AA,aa _ AA,ay]
    have br:((d3.new (D7 Mv)).put d3.B (D7 Mv)).C d'.B=[sc (.bool x.o),ic (N.idxOf x.h.B:Nat),sl ih (Z x.h.A) (A2 x.h.A),sl idb (Z x.A) b]:=by rw[Aj AA,Ah AA,aa _ AA,bg,an]
    refine⟨Z x.A-(k+1),AA,k+1,?_⟩
    ((repeat' refine Zi ?_ ?_)<;>first|exact Xq|exact HN|exact b3|exact hz0|exact bu|exact br|exact Xs)
   |some sw=>
    rw[hs]at af ae;simp only[Qw]at af;simp only[Option.isSome_some,ID]at ae;have bc:=fun d=>Pd N x _ k (PI.of (ih:=ih) (id:=idb) a7 a3) b1 d;simp only[an]at bc;have bf:=hG.wo (k:=k) HG.o an;have bd:=fun co ido (b0:EL (PI N) [F7 x k] co) d=>W1 N l [F7 x k] cs co idn idi ido i hE b0 AA (by simp) d;have ax:=fun c' id' (ba:EL (PI N) (C7 i [F7 x k] l) c') d=>Ik N l (C7 i [F7 x k] l) cs c' idn idi id' (hG.bkm hE) (bf.bkm ba).bj d;simp only[LO]at bd;rw[<-ae]at ax;cases ao:vY N l i k with
    |true=>
     rw[ao]at ax;have HC:AD (∀id c' x',x'=Cl N idn (C7 i [F7 x k] l) id c'->EL (PI N) (C7 i [F7 x k] l) c'->OC N l idn x' true):=fun id c' x' bv ba=>.inr ⟨rfl,i,k,x,HG.o,an,am,ao,hA.o,hN.o,id,c',bv,ba⟩;clear hN ae hs bf ao hA HG
     (repeat (refine qb ?_;intro yd yb;(first|(refine Xi (af _) ?_;rintro _ _ ⟨rfl,ad⟩;(have ap:=ad.B;have aa:=ad.C))|(refine Xi (bc _) ?_;rintro _ _ ⟨c2,rfl,be,aw⟩;(have ak:=aw.B;have ai:=aw.C;(try simp only[Ab,Aa]at ak ai);obtain⟨a8,ih2,id2,b2,bb,rfl⟩:=be))|(refine Xi (bd _ _ (EL.single (PI.of (ih:=ih2) (id:=id2) a8 bb)) _) ?_;rintro _ _ ⟨⟨id6,c6,rfl,a4⟩,av⟩;(have aj:=av.B;have ah:=av.C;(try simp only[Ab,Aa,Av]at aj ah)))|(refine Xi (ax c6 id6 a4 _) ?_;rintro _ _ ⟨⟨x7,rfl,bh,⟨id71,n71,c71,id72,n72,c72,rfl⟩⟩,au⟩;(have a6:=au.B;have a5:=au.C)))));refine pz ?_
     exact⟨_,rfl,⟨_,true,rfl,HC.o _ _ _ (bh rfl) a4,_,_,_,_,_,_,rfl⟩,Xs⟩
    |false=>
     rw[ao]at ax;have HN:AD (∀k',k'<k+1->vY N l i k'=false):=fun k' a9=>by
      rcases FQ k' k with h|h
      ·exact hN.o k' h
      ·rw[show k'=k by omega,ao]
     clear hN ae hs bf ao
     (repeat (refine qb ?_;intro yd yb;(first|(refine Xi (af _) ?_;rintro _ _ ⟨rfl,ad⟩;(have ap:=ad.B;have aa:=ad.C))|(refine Xi (bc _) ?_;rintro _ _ ⟨c2,rfl,be,aw⟩;(have ak:=aw.B;have ai:=aw.C;(try simp only[Ab,Aa]at ak ai);obtain⟨a8,ih2,id2,b2,bb,rfl⟩:=be))|(refine Xi (bd _ _ (EL.single (PI.of (ih:=ih2) (id:=id2) a8 bb)) _) ?_;rintro _ _ ⟨⟨id6,c6,rfl,a4⟩,av⟩;(have aj:=av.B;have ah:=av.C;(try simp only[Ab,Aa,Av]at aj ah)))|(refine Xi (ax c6 id6 a4 _) ?_;rintro _ _ ⟨⟨x7,rfl,bh,⟨id71,n71,c71,id72,n72,c72,rfl⟩⟩,au⟩;(have a6:=au.B;have a5:=au.C)))));refine pz ?_
     refine⟨Z x.A-(k+1),AA,k+1,?_⟩
     exact qh HN
  ·have ca:k=Z x.A:=AA;have HA:AD (yP N l (i+1)):=fun j y hj hy k' a9=>by
    rcases FQ j i with h|h
    ·exact hA.o j y h hy k' a9
    ·have:j=i:=AA;subst this;rw[HG.o]at hy;cases hy;exact hN.o k' AA
   clear hN HG hA
   refine pz ?_
   refine⟨Z l-(i+1),AA,i+1,?_⟩
   exact qh HA
 ·have hil:i=Z l:=AA;subst hil
  refine pz ?_
  exact⟨_,rfl,⟨_,false,rfl,.inl ⟨rfl,hA.o⟩,_,_,_,_,_,_,rfl⟩,Xs⟩
def Jj (N:List Tx)(U:Nat->Nat->Bool)(l:List AB)(q:Nat):Bool:=l.any fun x=>x.o&&(decide (N.idxOf x.h.B=q)||U (N.idxOf x.h.B) q)
theorem pS {N U}{l:List AB}{i x}(h:l[i]?=some x)(q):Jj N U (l.take (i+1)) q=(Jj N U (l.take i) q||(x.o&&(decide (N.idxOf x.h.B=q)||U (N.idxOf x.h.B) q))):=by
 unfold Jj;rw[AU,h,BJ,LM];simp
theorem Yy {n f g}(h:∀q,q<n->f q=g q):Cv n f=Cv n g:=by
 unfold Cv;exact CK fun q hq=>by rw[h q (by simpa using hq)]
theorem fO (N l cs idn idi)(hB:Bk N l cs)(d):AF Tryz.prog 176 [Cl N idn l idi cs] d fun r d'=>∃o M,r=fx o 0 (Z N)/\AE d d'/\d.B<=o/\o<d'.B/\Em N l M/\d'.C o=Cv (Z N) (Jj N (Hw (Z N) M (Z N)) l):=by
 have bg:=EL.length E7 hB.el;have ba:=hB.len;have hN:=hB.nm;have bh:=K9 (Z N);refine Z9 49 [.tmp 2] Tryz.func176 ?_
 refine qb ?_;intro yd yb;refine Xi (Pv N l cs idn idi hB _) ?_;rintro _ _ ⟨idu,B,M0,rfl,ak,bb,au,aw,a3⟩;(rw[Aa]at bb;have af:=ak.C;have an:=ak.B;(try simp only[Aa,Ab,Av]at an af));refine pz ?_
 rename_i d1;have am:AD (Em N l M0):=a3;clear a3 af;have bd:=Jc B (Z N) (Z N);have bi:AE d d1:=((AE.refl d).new _).trans ak;clear ak;generalize hU:Hw (Z N) M0 (Z N)=U at aw;have HU:AD _:=hU;clear hU
 refine Ae (fun m s d'=>∃i:Nat,m=Z l-i/\i<=Z l/\s 3=sl idu (Z N) (Ga B (Z N) (Z N))/\s 4=fx d1.B 0 (Z N)/\s 16=sl idi (Z l) cs/\s 17=ic (Z l)/\s 18=ic i/\AE d d'/\d1.B<d'.B/\d'.C d1.B=Cv (Z N) (Jj N U (l.take i))/\AD (CB B (Z N) U d')) (Z l)
  ⟨0,AA,AA,AG,AG,AG,AG,rfl,Xs,AK,by rw[Ao];rfl,CB.new aw au _⟩ ?_
 clear aw;rintro m s d' ⟨i,rfl,hi,h3,h4,a6,a5,a4,hK,ae,aa,hM⟩;have ax:=hK.B;by_cases a9:i<Z l
 ·have ab:=AJ a9;obtain⟨hm,ih,id,b,r,hb,hd⟩:=Io hB.el ab;generalize l[i]=x at hd ab hb hm;have ad:=pS (N:=N) (U:=U) ab;have ap:=CY hm;cases aj:x.o with
  |false=>
   rw[aj]at hd ad;have ai:d'.C d1.B=Cv (Z N) (Jj N U (l.take (i+1))):=by
    rw[aa];exact Yy fun q _=>by rw[ad q];simp
   clear ad ab aa aj;generalize N.idxOf x.h.B=ph at*
   refine pz ?_
   refine⟨Z l-(i+1),AA,i+1,?_⟩
   ((repeat' refine Zi ?_ ?_)<;>first|exact Xq|exact (CB.put (CB.new hM.o AA _) AA _)|exact (by rw[Aj AA,Ah AA,ai])|exact Xs)
  |true=>
   rw[aj]at hd ad;clear ab aj;generalize N.idxOf x.h.B=ph at*
   generalize Jj N U (l.take i)=w0 at aa ad;generalize ah:Jj N U (l.take (i+1))=w1 at ad;have a7:AD _:=ah;have a8:AD (∀q,w1 q=(w0 q||(true&&(decide (ph=q)||U ph q)))):=ad;clear ad ah;have be:=Jd (B:=B) (n:=Z N) (k:=Z N) ap;have a0:=hM.o _ ap;have bc:=Cx (Z N) (U ph);have ao:=Cx (Z N) w0;have ay:=Ny (n:=Z N) (i:=ph) w0 true
   refine pz ?_
   refine Ae (fun m s d2=>∃(p:Nat) (g:Nat->Bool),m=Z N-p/\p<=Z N/\s 3=sl idu (Z N) (Ga B (Z N) (Z N))/\s 4=fx d1.B 0 (Z N)/\s 16=sl idi (Z l) cs/\s 17=ic (Z l)/\s 18=ic i/\s 35=fx (B+ph) 0 (Z N)/\s 36=ic (Z N)/\s 37=ic p/\AE d d2/\d1.B<d2.B/\d2.C d1.B=Cv (Z N) g/\AD (CB B (Z N) U d2)/\AD (∀q,g q=(w0 q||decide (ph=q)||(decide (q<p)&&U ph q)))) (Z N)
    ⟨0,fun j=>if j=ph then true else w0 j,AA,AA,AI,AI,AI,AI,AI,AG,AG,AG,Xs,BM,by rw[Ak],CB.put (CB.put (CB.new hM.o AA _) AA _) AA _,fun q=>by
     by_cases h:q=ph
     ·simp[h]
     ·simp[h,Ne.symm h]⟩ ?_
   clear h3 h4 a6 a5 a4 hK ae aa hM a0 ay ao ax;rintro m s d2 ⟨p,g,rfl,hp,h3,h4,a6,a5,a4,bn,bm,bl,hK,ae,aa,hM,hg⟩;have ax:=hK.B;by_cases av:p<Z N
   ·have a0:=hM.o _ ap;have az:=Fy (U ph) av;have bf:=Cx (Z N) g;cases hu:U ph p with
    |true=>
     rw[hu]at az;have ay:=Ny (n:=Z N) (i:=p) g true;have HG:AD (∀q,(if q=p then true else g q)=(w0 q||decide (ph=q)||(decide (q<p+1)&&U ph q))):=fun q=>by
      by_cases h:q=p
      ·simp[h,hu]
      ·rw[if_neg h,hg.o q,show decide (q<p+1)=decide (q<p)from by rw[decide_eq_decide];omega]
     clear hg hu
     refine pz ?_
     refine⟨Z N-(p+1),AA,p+1,fun q=>if q=p then true else g q,?_⟩
     ((repeat' refine Zi ?_ ?_)<;>first|exact Xq|exact HG|exact (CB.put hM.o AA _)|exact (by rw[Ak])|exact Xs)
    |false=>
     rw[hu]at az;have HG:AD (∀q,g q=(w0 q||decide (ph=q)||(decide (q<p+1)&&U ph q))):=fun q=>by
      by_cases h:q=p
      ·rw[hg.o q];simp[h,hu]
      ·rw[hg.o q,show decide (q<p+1)=decide (q<p)from by rw[decide_eq_decide];omega]
     clear hg hu
     refine pz ?_
     refine⟨Z N-(p+1),AA,p+1,g,?_⟩
     exact qh HG
   ·have hpl:p=Z N:=AA;have ai:d2.C d1.B=Cv (Z N) (Jj N U (l.take (i+1))):=by
     rw[aa,a7.o];exact Yy fun q hq=>by rw[a8.o q,hg.o q,hpl];simp[hq,Bool.or_assoc]
    clear hg aa a8 a7
    refine pz ?_
    refine⟨Z l-(i+1),AA,i+1,?_⟩
    exact qh hM
 ·have hil:i=Z l:=AA;subst hil;rw[AS]at aa
  refine pz ?_
  first|exact⟨_,rfl,_,M0,rfl,hK,AA,ae,am.o,by rw[HU.o];exact aa⟩|exact⟨_,rfl,_,M0,rfl,AA,ae,am.o,by rw[HU.o];exact aa⟩|exact⟨_,rfl,_,M0,AA,ae,am.o,by rw[HU.o];exact aa⟩|(trace_state;exact⟨_,rfl,_,M0,rfl,hK,AA,ae,am.o,by rw[HU.o];exact aa⟩)
theorem GL.sub {N l l'}(h:GL N l)(hs:∀x∈l',x∈l)(hl:Z l'<=16):GL N l':=
 ⟨hl,h.nm,fun x hx=>h.msr x (hs x hx),fun x hx=>h.fits x (hs x hx),fun x hx=>h.pos x (hs x hx),fun x hx=>h.va x (hs x hx),fun x hx=>h.ar x (hs x hx)⟩
def Iy (N:List Tx)(U:Nat->Nat->Bool)(l:List AB):List AB:=l.filter fun x=>Jj N U l (N.idxOf x.h.B)
def MY (N:List Tx)(l:List AB)(idn:Nat)(x:AV)(b:Bool):Prop:=∃M,Em N l M/\
 ((Z (Iy N (Hw (Z N) M (Z N)) l)=Z l/\b=false)\/
  (Z (Iy N (Hw (Z N) M (Z N)) l)≠Z l/\b=E4 N l (Iy N (Hw (Z N) M (Z N)) l)/\(b=true->∃id c',x=Cl N idn (Iy N (Hw (Z N) M (Z N)) l) id c'/\EL (PI N) (Iy N (Hw (Z N) M (Z N)) l) c')))
theorem zL {α:Type}{f}{l:List α}{i x}(h:l[i]?=some x):(l.take (i+1)).filter f=(l.take i).filter f++if f x=true then [x]else []:=by
 rw[AU,h,BJ,IZ];cases hf:f x<;>simp[hf]
theorem Mr (N l cs idn idi)(hG:GL N l)(hE:EL (PI N) l cs)(d):
  AF Tryz.prog 124 [Cl N idn l idi cs] d fun r d'=>(∃x b,r=tp [x,sc (.bool b)]/\MY N l idn x b/\oY x)/\AE d d':=by
 have bn:=EL.length E7 hE;have am:=hG.len;have hN:=hG.nm;have bh:Bk N l cs:=(hG.bkm hE).bk am;have ax:=fun d=>fO N l cs idn idi bh d;refine Z9 41 [.cell 2 62,.tmp 3] Tryz.func124 ?_
 refine qb ?_;intro yd yb;refine Xi (ax _) ?_;rintro _ _ ⟨ow,M0,rfl,ah,aj,bd,a4,ac⟩;(have ai:=ah.B;have ab:=ah.C;(try simp only[Aa,Ab]at ai ab aj));refine pz ?_
 rename_i d1;have obk:d1.C d.B=[sl idn (Z N) (N.map str),sl idi (Z l) cs]:=by rw[ab _ AA,Ah AK,Ao]
 have obr:d1.C (d.B+1)=[nilS,nilS]:=by rw[ab _ AA];first|exact Ao|simp[Ao]
 have a7:AD (Em N l M0):=a4;generalize ay:Hw (Z N) M0 (Z N)=U at ac;have HU:AD _:=ay;have a0:AE d d1:=(((AE.refl d).new _).new _).trans ah;clear a4 ay ah ab ax;generalize ap:Jj N U l=w at ac;have HW:AD _:=ap;clear ap
 refine Ae (fun m s d'=>∃(i id:Nat) (R:List AB) (c:List AV),m=Z l-i/\i<=Z l/\s 1=ptr d.B 0/\s 2=ptr (d.B+1) 0/\s 4=fx ow 0 (Z N)/\s 5=sl id (Z R) c/\s 12=sl idi (Z l) cs/\s 13=ic (Z l)/\s 14=ic i/\AE d d'/\d1.B<=d'.B/\d'.C ow=Cv (Z N) w/\d'.C d.B=[sl idn (Z N) (N.map str),sl idi (Z l) cs]/\d'.C (d.B+1)=[nilS,nilS]/\Own d d' id (Z R)/\Z c=Z R*4/\Z R<=i/\AD (R=(l.take i).filter (fun x=>w (N.idxOf x.h.B))/\EL (PI N) R c)) (Z l)
  ⟨0,1,[],[],AA,AA,AG,AG,AG,AG,AG,AG,rfl,a0,AA,ac,obk,obr,Own.nil _ _,by simp,by simp,⟨by simp,rfl⟩⟩ ?_
 clear a0 ac obk obr;rintro m s d' ⟨i,id,R,c,rfl,hi,h1,h2,h4,h5,bv,bu,br,hK,bm,obw,obk,obr,hO,av,bp,hA⟩;have bl:=hK.B;have bo:=Cx (Z N) w;by_cases be:i<Z l
 ·have aa:=AJ be;obtain⟨ak,ih,idb,b,r,aw,hd⟩:=Io hE aa;generalize l[i]=x at hd aa ak aw;have bc:=CY ak;have ae:=zL (f:=fun x:AB=>w (N.idxOf x.h.B)) aa;have au:=Fy w bc;cases hw:w (N.idxOf x.h.B)with
  |true=>
   simp only[hw,if_true]at ae;rw[hw]at au;have HA:AD (R++[x]=(l.take (i+1)).filter (fun x=>w (N.idxOf x.h.B))/\EL (PI N) (R++[x]) (c++[sc (.bool x.o),ic (N.idxOf x.h.B:Nat),sl ih (Z x.h.A) (A2 x.h.A),sl idb (Z x.A) b])):=⟨by rw[ae,<-hA.o.1],EL.append hA.o.2 (EL.single (PI.of ak aw))⟩;clear ae aa hA hw
   refine qm ?_;intro yd yb
   refine Bn (by first|exact Mu) ((hK.new _).put hK.B _) (Own.put (Own.new hO _) _ _) (by decide) (by rfl) (av) (by rfl) (by rfl) (by decide) AA AA ?_;intro idn' dn bg bq ao af bi a6;simp only[Ab,Aa]at af;have eob:∀p,p<d'.B->dn.C p=d'.C p:=fun p hp=>by rw[ao,Aj AA,Ah AA]
   refine Z3 ?_
   refine zz ?_
   refine⟨Z l-(i+1),AA,i+1,idn',R++[x],c++[sc (.bool x.o),ic (N.idxOf x.h.B:Nat),sl ih (Z x.h.A) (A2 x.h.A),sl idb (Z x.A) b],?_⟩
   ((repeat' refine Zi ?_ ?_)<;>first|exact Xq|exact HA|exact ((by simpa using bg))|exact ((by simp[av];omega))|exact (by rw[eob _ AA,obw])|exact (by rw[eob _ AA,obk])|exact (by rw[eob _ AA,obr])|exact Xs)
  |false=>
   simp only[hw,ER,if_false,FA]at ae;rw[hw]at au;have HA:AD (R=(l.take (i+1)).filter (fun x=>w (N.idxOf x.h.B))/\EL (PI N) R c):=⟨by rw[ae,<-hA.o.1],hA.o.2⟩;clear ae aa hA hw
   refine pz ?_
   refine⟨Z l-(i+1),AA,i+1,id,R,c,?_⟩
   ((repeat' refine Zi ?_ ?_)<;>first|exact Xq|exact HA|exact (Own.put (Own.new hO _) _ _)|exact (by rw[Aj AA,Ah AA,obw])|exact (by rw[Aj AA,Ah AA,obk])|exact (by rw[Aj AA,Ah AA,obr])|exact Xs)
 ·have hil:i=Z l:=AA;subst hil;rw[AS]at hA;have az:R=Iy N (Hw (Z N) M0 (Z N)) l:=by rw[hA.o.1,Iy,HU.o,HW.o]
  have HR:AD _:=az;have HE:AD (EL (PI N) R c):=hA.o.2;have a5:GL N R:=hG.sub (fun x hx=>(BV.1 (by rw[<-hA.o.1];exact hx)).1) AA;have an:=fun d=>Ik N l R cs c idn idi id (hG.bkm hE) (a5.bkm HE.o).bj d;clear hA az a5;by_cases hlen:Z R=Z l
  ·have bf:((Z R:Int)==(Z l:Int))=true:=by simp[hlen]
   have HC:AD (∀x,MY N l idn x false):=fun x=>⟨M0,a7.o,.inl ⟨by rw[<-HR.o];exact hlen,rfl⟩⟩;clear an hlen
   refine pz ?_
   exact⟨_,rfl,⟨_,false,rfl,HC.o _,_,_,_,_,_,_,rfl⟩,Xs⟩
  ·have bf:((Z R:Int)==(Z l:Int))=false:=by simpa using (by omega:¬(Z R:Int)=Z l)
   have HC:AD (∀x,(E4 N l R=true->x=Cl N idn R id c)->MY N l idn x (E4 N l R)):=fun x hx=>⟨M0,a7.o,.inr ⟨by rw[<-HR.o];exact hlen,by rw[<-HR.o],fun hb=>⟨id,c,by rw[<-HR.o];exact hx hb,by rw[<-HR.o];exact HE.o⟩⟩⟩;generalize E4 N l R=bb at an HC;clear hlen
   refine qb ?_;intro yd yb;refine Xi (an _) ?_;rintro _ _ ⟨⟨x7,rfl,ba,⟨id71,n71,c71,id72,n72,c72,rfl⟩⟩,a3⟩;(have a9:=a3.B;have a8:=a3.C);refine pz ?_
   exact⟨_,rfl,⟨_,bb,rfl,HC.o _ ba,_,_,_,_,_,_,rfl⟩,Xs⟩
def KN (p:Tx):Prop:=Lc p/\Z p<=6
def LX (t:Tx):Prop:=(∃b,t=[b]/\Bw b.toNat=true)\/t=[48]\/∃b r,t=b::r/\G3 b.toNat=true/\(∀c∈r,A8 c.toNat=true)/\Z r<=2
structure tO (a:AC):Prop where
 nm:KN a.B
 ne:a.A≠[]
 few:Z a.A<=3
 tm:∀t∈a.A,LX t
structure JM (x:AB):Prop where
 nm:KN x.h.B
 o:x.o=true->x.h.nt=false/\x.h.A=[]/\x.A=[]
 rule:x.o=false->tO x.h/\x.h.nt=false/\Z x.A<=5/\∀a∈x.A,tO a
theorem Su (p):∀(n:Nat) (t r:Tx),(∀b∈t,p b.toNat=true)->Z t<=n->(∀b q,r=b::q->p b.toNat=false)->Aw p n (t++r)=(t,r)
 |n,[],r,_,_,hr=>by
  cases n with
  |zero=>rfl
  |succ n=>
   cases r with
   |nil=>rfl
   |cons b q=>
    show Aw p (n+1) (b::q)=_;unfold Aw;rw[if_neg (by simp[hr b q rfl])]
 |0,b::t,r,_,hl,_=>by simp at hl
 |n+1,b::t,r,ht,hl,hr=>by
  show Aw p (n+1) (b::(t++r))=_;unfold Aw;rw[if_pos (ht b (by simp)),Su p n t r (fun c hc=>ht c (by simp[hc])) (by simpa using hl) hr]
theorem P1 (p):∀(n:Nat) (s:Tx),Z (Aw p n s).1<=n
 |0,s=>by simp[Aw]
 |n+1,[]=>by simp[Aw]
 |n+1,b::r=>by
  unfold Aw;split
  ·have:=P1 p n r;simp;omega
  ·simp
theorem mH {p r}(h:KN p)(hr:∀b q,r=b::q->B6 b.toNat=false):Ff (p++r)= .got p r:=by
 unfold Ff;rw[Su B6 6 p r h.1.2 h.2 hr];rw[if_neg h.1.1]
theorem mI {s r p}(h:Ff s= .got p r):KN p:=by
 refine⟨(P2 h).2,?_⟩;unfold Ff at h;split at h
 ·cases h
 ·cases h;exact P1 _ _ _
theorem mF {t r}(h:LX t)(hr:∀b q,r=b::q->A8 b.toNat=false):Cu (t++r)= .got t r:=by
 rcases h with⟨b,rfl,hb⟩|rfl|⟨b,q,rfl,hb,hq,hl⟩
 ·show Cu (b::r)=_;unfold Cu;dsimp only;rw[if_pos hb]
 ·show Cu (48::r)=_;unfold Cu;dsimp only;rw[if_neg (by decide),if_pos (by decide)]
 ·show Cu (b::(q++r))=_;unfold Cu;dsimp only;rw[if_neg,if_neg,if_pos hb,Su A8 2 q r hq hl hr]
  ·intro e;simp only[G3,BX,DF]at hb;simp at e;omega
  ·intro e;rw[Nl e]at hb;cases hb
theorem ik {s r t}(h:Cu s= .got t r):LX t:=by
 cases s with
 |nil=>cases h
 |cons b q=>
  unfold Cu at h;dsimp only at h;split at h
  ·rename_i hl;cases h;exact .inl ⟨b,rfl,hl⟩
  split at h
  ·rename_i h0;cases h;have:b=48:=L3 48 h0;rw[this];exact .inr (.inl rfl)
  split at h
  ·rename_i h9;cases h;exact .inr (.inr ⟨b,_,rfl,h9,(Ew A8 2 q).2,P1 _ _ _⟩)
  ·cases h
theorem Ei {α β:Type}(x r)(f:α->Tx->Rd β):(Rd.got x r).bnd f=f x r:=rfl
theorem Kz {c r}:A4 c.toNat (c::r)= .got () r:=by unfold A4;dsimp only;rw[if_pos (by simp)]
theorem Pq (t ts):Cg (t::ts)=44::(t++Cg ts):=by simp[Cg]
theorem Xy {α:Type}{f u c}(hc:c≠44){P:α->Prop}(hf:∀x r,P x->(∀b q,r=b::q->b=44\/b=c)->f (u x++r)= .got x r):∀(n:Nat) (xs:List α) (r:Tx),(∀x∈xs,P x)->Z xs<=n->Ef f n (Cg (xs.map u)++c::r)= .got xs (c::r)
 |0,[],r,_,_=>rfl
 |n+1,[],r,_,_=>by
  show Ef f (n+1) (c::r)=_;unfold Ef
  rw[if_neg (by
   intro h
   exact hc (L3 44 h))]
 |0,x::xs,r,_,hl=>by simp at hl
 |n+1,x::xs,r,hP,hl=>by
  rw[CU,Pq];show Ef f (n+1) (44::((u x++Cg (xs.map u))++c::r))=_;unfold Ef;rw[if_pos (by decide),CX,hf x _ (hP x (by simp)) ?_]
  ·rw[Ei,Xy hc hf n xs r (fun y hy=>hP y (by simp[hy])) (by simpa using hl)];rfl
  ·intro b q e;cases xs with
   |nil=>simp[Cg]at e;exact .inr e.1.symm
   |cons y ys=>rw[CU,Pq]at e;simp at e;exact .inl e.1.symm
theorem nd {b:UInt8}(h:b=44\/b=41):A8 b.toNat=false:=by rcases h with rfl|rfl<;>decide
theorem X3 {a}(h:tO a)(r):Du a.nt (A3 a++r)= .got a r:=by
 unfold Du A3;rw[CX,mH h.nm (fun b q e=>by simp at e;rw[<-e.1];decide)];rw[Ei,FC];rw[show (40:Int)=((40:UInt8).toNat:Int)from rfl,Kz];rw[Ei];obtain⟨t,ts,e⟩:=List.exists_cons_of_ne_nil h.ne;have ab:=h.tm;have aa:=h.few;rw[e]at ab aa;rw[e,Bu];unfold X4;have e2:((t++Cg ts++[41])++r:Tx)=t++(Cg (ts.map id)++41::r):=by simp
 rw[e2,mF (ab t (by simp)) ?_]
 ·rw[Ei,Xy (u:=id) (c:=41) (by decide) (P:=LX) (fun x r hx hr=>mF hx fun b q e=>nd (hr b q e)) 2 ts r (fun y hy=>ab y (by simp[hy])) (by simpa using aa)];rw[Ei,show (41:Int)=((41:UInt8).toNat:Int)from rfl,Kz];rw[Ei,<-e]
 ·intro b q eb;cases ts with
  |nil=>simp[Cg]at eb;exact nd (.inr eb.1.symm)
  |cons y ys=>rw[CU,Pq]at eb;simp at eb;exact nd (.inl eb.1.symm)
theorem vU {a}(h:tO a)(r):Kx (Cp a++r)= .got a r:=by
 have hp:=X3 h r;cases hn:a.nt with
 |true=>
  rw[hn]at hp;rw[show Cp a++r=33::(A3 a++r)by simp[Cp,hn]];unfold Kx;dsimp only;rw[if_pos (by decide)];exact hp
 |false=>
  rw[hn]at hp;rw[show Cp a++r=A3 a++r by simp[Cp,hn]];obtain⟨b,q,e,h1,h2⟩:=Lu h.nm.1;have e2:A3 a++r=b::(q++40::(Bu a.A++[41])++r):=by unfold A3;rw[e];simp
  rw[e2]at hp⊢;unfold Kx;dsimp only;rw[if_neg (by simp;omega)];exact hp
theorem kw {x}(h:JM x)(r):Gb (Ce x++46::r)= .got x r:=by
 cases ho:x.o with
 |true=>
  obtain⟨h1,h2,h3⟩:=h.o ho;rw[Ce,if_pos ho];show Gb (63::(x.h.B++46::r))=_;unfold Gb;dsimp only;rw[if_pos (by decide)];unfold fT;rw[mH h.nm (fun b q e=>by simp at e;rw[<-e.1];decide)];rw[Ei,show (46:Int)=((46:UInt8).toNat:Int)from rfl,Kz];rw[Ei];obtain⟨o,⟨n,p,ts⟩,bd⟩:=x;simp only at h1 h2 h3 ho;subst h1;subst h2;subst h3;subst ho;rfl
 |false=>
  obtain⟨h1,h2,h3,h4⟩:=h.rule ho;have hR:Gb (Ce x++46::r)=Pg (Ce x++46::r):=by
   obtain⟨b,q,e,g1,g2⟩:=Lu h.nm.1;have e2:Ce x++46::r=b::(q++40::(Bu x.h.A++[41])++(if x.A=[]then []else 58::45::Bu (x.A.map Cp))++46::r):=by
    unfold Ce D6 A3;rw[if_neg (by simp[ho]),e];simp
   rw[e2];unfold Gb;dsimp only;rw[if_neg (by simp;omega)]
  rw[hR,Ce,if_neg (by simp[ho]),D6,CX];unfold Pg;have hp:=X3 h1 ((if x.A=[]then []else 58::45::Bu (x.A.map Cp))++46::r);rw[h2]at hp;rw[hp,Ei];by_cases hb:x.A=[]
  ·rw[if_pos hb];show Pf x.h (46::r)=_;unfold Pf;dsimp only;rw[if_pos (by decide)];rw[<-hb,<-ho]
  ·rw[if_neg hb];obtain⟨l,ls,e⟩:=List.exists_cons_of_ne_nil hb;rw[e]at h3 h4;rw[e,CU,Bu];have e2:(58::45::(Cp l++Cg (ls.map Cp))++46::r:Tx)=58::45::(Cp l++(Cg (ls.map Cp)++46::r)):=by simp
   rw[e2];unfold Pf;dsimp only;rw[if_neg (by decide)];rw[show (58:Int)=((58:UInt8).toNat:Int)from rfl,Kz];rw[Ei,show (45:Int)=((45:UInt8).toNat:Int)from rfl,Kz];rw[Ei];unfold T0;rw[vU (h4 l (by simp)),Ei,Xy (u:=Cp) (c:=46) (by decide) (P:=tO) (fun y q hy _=>vU hy q) 4 ls r (fun y hy=>h4 y (by simp[hy])) (by simpa using h3)];rw[Ei,show (46:Int)=((46:UInt8).toNat:Int)from rfl,Kz];rw[Ei,<-e,<-ho]
theorem Sy:∀(n:Nat) (l:List AB),(∀x∈l,JM x)->Z l<=n->Bv n (Cr l)= .got l []
 |n,[],_,_=>by cases n<;>rfl
 |0,x::l,_,hl=>by simp at hl
 |n+1,x::l,h,hl=>by
  have e:Cr (x::l)=Ce x++46::Cr l:=by simp[Cr]
  have aa:Ce x++46::Cr l≠[]:=by simp
  obtain⟨b,q,e2⟩:=List.exists_cons_of_ne_nil aa;rw[e];have hp:=kw (h x (by simp)) (Cr l);rw[e2]at hp⊢;show ((Gb (b::q)).bnd fun x r=>(Bv n r).bnd fun xs r=>.got (x::xs) r)=_;rw[hp,Ei,Sy n l (fun y hy=>h y (by simp[hy])) (by simpa using hl)];rfl
theorem jl {α:Type}{f}{P:α->Prop}(hf:∀s x r,f s= .got x r->P x){n s xs r}(h:Ef f n s= .got xs r):∀x∈xs,P x:=Oh hf n s xs r h
theorem Ra {nt s r a}(h:Du nt s= .got a r):tO a:=by
 have hw:=(Hu h).2.1;have ht:=K2 (T:=LX) (fun _ _ _ h=>ik h) h;refine⟨?_,hw.2.1,hw.2.2.1,ht⟩;unfold Du at h;obtain⟨p,q,h1,h⟩:=A6 h;obtain⟨u,q2,h2,h⟩:=A6 h;unfold X4 at h;obtain⟨t,q3,h3,h⟩:=A6 h;obtain⟨ts,q4,h4,h⟩:=A6 h;obtain⟨u2,q5,h5,h⟩:=A6 h;cases h;exact mI h1
theorem vV {s r a}(h:Kx s= .got a r):tO a:=by
 cases s with
 |nil=>cases h
 |cons b q=>
  unfold Kx at h;dsimp only at h;split at h
  ·exact Ra h
  ·exact Ra h
theorem WM {s r x}(h:Gb s= .got x r):JM x:=by
 have hw:=(X0 h).2;cases s with
 |nil=>cases h
 |cons b q=>
  unfold Gb at h;dsimp only at h;split at h
  ·unfold fT at h;obtain⟨p,q,h1,h⟩:=A6 h;obtain⟨u,q2,h2,h⟩:=A6 h;cases h;exact⟨mI h1,hw.2.1,(fun e=>by cases e)⟩
  ·unfold Pg at h;obtain⟨hd,q,h1,h⟩:=A6 h;have hg:=Ra h1;have key:x.h=hd/\x.o=false/\∀a∈x.A,tO a:=by
    cases q with
    |nil=>cases h
    |cons c q=>
     unfold Pf at h;dsimp only at h;split at h
     ·cases h;exact⟨rfl,rfl,by simp⟩
     ·obtain⟨_,q2,_,h⟩:=A6 h;obtain⟨_,q3,_,h⟩:=A6 h;unfold T0 at h;obtain⟨l,q4,h4,h⟩:=A6 h;obtain⟨ls,q5,h5,h⟩:=A6 h;obtain⟨_,q6,_,h⟩:=A6 h;cases h;refine⟨rfl,rfl,fun a ha=>?_⟩;rcases BB.1 ha with rfl|ha
      ·exact vV h4
      ·exact jl (fun _ _ _ h=>vV h) h5 a ha
   obtain⟨e1,e2,e3⟩:=key;refine⟨by rw[e1];exact hg.nm,hw.2.1,fun ho=>⟨by rw[e1];exact hg,(hw.2.2 ho).2.1,(hw.2.2 ho).2.2.1,e3⟩⟩
theorem Ky:∀(n:Nat) (s:Tx) (l:List AB) (r:Tx),Bv n s= .got l r->∀x∈l,JM x
 |n,[],l,r,h=>by
  cases n<;>(cases h;intro x hx;cases hx)
 |0,b::s,l,r,h=>by cases h
 |n+1,b::s,l,r,h=>by
  have h':((Gb (b::s)).bnd fun x r=>(Bv n r).bnd fun xs r=>.got (x::xs) r)= .got l r:=h;obtain⟨x,q,h1,h2⟩:=A6 h';obtain⟨xs,q2,h3,h4⟩:=A6 h2;cases h4;intro y hy;rcases BB.1 hy with rfl|hy
  ·exact WM h1
  ·exact Ky n _ _ _ h3 y hy
end Go.Proofs.YtmoeoppbmhfbpabGreatDoorI
