import Derived.Test.YtmoeoppbmhfbpabGreatDoorIImpD
import Derived.Test.YtmoeoppbmhfbpabGreatDoorIPrtF
import Derived.Test.YtmoeoppbmhfbpabGreatDoorIUnfD
import Derived.Test.YtmoeoppbmhfbpabGreatDoorIAbsG
import Derived.Test.YtmoeoppbmhfbpabGreatDoorIOptC
import Derived.Test.YtmoeoppbmhfbpabGreatDoorIDocI
set_option maxHeartbeats 64000000
set_option maxRecDepth 100000
set_option linter.all false
open List renaming length->Z
namespace Go.Proofs.YtmoeoppbmhfbpabGreatDoorI
open Go.Abs
def PX (p:Tx):Tx:=p++[40,65,44,66,41,58,45]++p++[40,65,44,67,41,44]++p++[40,67,44,66,41,46]
def PE (p e:Tx):Tx:=p++[40,65,44,66,41,58,45]++e++[40,65,44,66,41,46]
def Ur (x:AB):Bool:=C0 x==PX x.h.B
def Mw (x:AB):Bool:=match x.A with
 |[a]=>!decide (a.B=x.h.B)&&(C0 x==PE x.h.B a.B)
 |_=>false
theorem rI {N:List Tx}{p}(h:p∈N):(N.map str).drop (N.idxOf p)=str p::(N.map str).drop (N.idxOf p+1):=by
 have aa:=CY h;have:=A7 aa;rwa[FT aa]at this
theorem Y5 (N l cs idn idi)(hB:Bk N l cs)(x c)(hx:PI N x c)(hw:WI N x)(σ):AF Tryz.prog 180 [Cl N idn l idi cs,ag c] σ fun r σ'=>r=sc (.bool (Ur x))/\AE σ σ':=by
 have hT:=fun σ=>Kh N l cs idn idi hB x c hx hw σ;have hN:=hB.nm;have hpl:=hw.short.1.1;obtain⟨hm,ih,id,b,hb,rfl⟩:=hx;have ab:=CY hm;have ac:=rI hm;have h1:({data:=#[40,65,44,66,41,58,45]}:ByteArray)=bs [40,65,44,66,41,58,45]:=rfl;have h2:({data:=#[40,65,44,67,41,44]}:ByteArray)=bs [40,65,44,67,41,44]:=rfl;have h3:({data:=#[40,67,44,66,41,46]}:ByteArray)=bs [40,67,44,66,41,46]:=rfl;have HA:AD (∀t,t=PX x.h.B->(C0 x==t)=Ur x):=fun t e=>by rw[e];rfl
 generalize N.idxOf x.h.B=ix at ab ac hT;generalize C0 x=W at hT HA;refine Z9 25 [.tmp 4] Tryz.func180 ?_
 repeat' first|refine Z1 ?_|refine Z8 fun yd yb=>?_|refine Z4 ?_;clear yb yd|refine Z5 ?_;refine Xi (hT _) ?_;rintro _ _ ⟨rfl,ad⟩;(have aa:=ad.B)|refine Z7 ?_|exact Zt|apply yb.o;clear yb yd
 exact⟨_,rfl,by rw[<-HA.o _ rfl];simp[PX],Xs⟩
theorem RJ {N:List Tx}{p q}(hp:p∈N)(hq:q∈N):(((N.idxOf p:Nat):Int)==((N.idxOf q:Nat):Int))=decide (p=q):=by
 by_cases h:p=q
 ·subst h;simp
 ·have:N.idxOf p≠N.idxOf q:=fun e=>h (by
   have h1:=FT (CY hp);have h2:=FT (CY hq)
   rw[<-h1,<-h2];congr 1)
  simp[h];omega
theorem nK (N l cs idn idi)(hB:Bk N l cs)(x c)(hx:PI N x c)(hw:WI N x)(σ):AF Tryz.prog 213 [Cl N idn l idi cs,ag c] σ fun r σ'=>r=sc (.bool (Mw x))/\AE σ σ':=by
 have hT:=fun σ=>Kh N l cs idn idi hB x c hx hw σ;have hN:=hB.nm;have hpl:=hw.short.1.1;have ad:=hw.short.2;have au:=hw.A;obtain⟨hm,ih,id,b,hb,rfl⟩:=hx;have af:=CY hm;have ah:=rI hm;have an:=EL.length Es hb;have h1:({data:=#[40,65,44,66,41,58,45]}:ByteArray)=bs [40,65,44,66,41,58,45]:=rfl;have h2:({data:=#[40,65,44,66,41,46]}:ByteArray)=bs [40,65,44,66,41,46]:=rfl;by_cases aa:Z x.A=1
 ·obtain⟨a,ac⟩:=List.length_eq_one_iff.1 aa;have ab:x.A[0]?=some a:=by rw[ac];rfl
  obtain⟨ae,ia,ra,ai⟩:=Pn hb ab;have av:=(ad a (by rw[ac];simp)).1;have ak:=CY ae;have am:=rI ae;have hq:=RJ ae hm;have ao:((Z x.A:Int) !=1)=false:=by rw[aa];rfl
  simp only[MX,NT]at ai;subst ai;have HS:AD (Mw x=(!decide (a.B=x.h.B)&&(C0 x==PE x.h.B a.B))):=by rw[AD,Mw,ac]
  have aw:0<Z x.A:=AA;generalize N.idxOf x.h.B=ix at af ah hT hq;generalize N.idxOf a.B=jx at ak am hq hT an;generalize C0 x=W at hT HS;generalize Z x.A=n at*
  clear aa ab ac ad hb;refine Z9 49 [.tmp 4] Tryz.func213 ?_
  refine zx ?_
  refine Az (Q:=fun e s' σ''=>e= .normal/\s' 22=sc (.bool (decide (a.B=x.h.B)))/\s' 2=ptr σ.B 0/\s' 3=ptr (σ.B+1) 0/\σ''=(σ.new [sl idn (Z N) (N.map str),sl idi (Z l) cs]).new [sc (.bool x.o),ic ix,sl ih (Z x.h.A) (A2 x.h.A),sl id n (sc (.bool a.nt)::ic jx::sl ia (Z a.A) (A2 a.A)::ra)]) ?_ ?_
  ·refine Aq Ag (fun _=>True) [] [0,1,2,3,4,5,6,7,8,9,10,11,12,13,14,15] 0 #[true,true,true,true,true,true,true,true,true,true,true,true,true,true,true,true] AH (fun _ _ _ h=>by cases h.1) ?_;intro yd yb;refine Z7 ?_;refine yb.o _ ?_;clear yb yd;exact Ax AH ⟨rfl,AI,AI,AI,rfl⟩
  rintro e s' σ'' ⟨rfl,g22,g2,g3,rfl⟩;cases hp:decide (a.B=x.h.B)with
  |true=>
   have HF:AD (Mw x=false):=by rw[AD,HS.o,hp];rfl
   rw[hp]at g22;clear HS hp;refine Bt g22 ?_
   refine zx ?_
   exact⟨_,rfl,by rw[HF.o],Xs⟩
  |false=>
   have HF:AD (∀t,t=PE x.h.B a.B->(W==t)=Mw x):=fun t e=>by rw[e,HS.o,hp];rfl
   rw[hp]at g22;clear HS hp hq;refine Ct g22 ?_
   refine zx ?_
   refine Az (Q:=fun e s' σ''=>e= .normal/\s' 5=str x.h.B/\s' 6=str a.B/\s' 2=ptr σ.B 0/\s' 3=ptr (σ.B+1) 0/\σ''=(σ.new [sl idn (Z N) (N.map str),sl idi (Z l) cs]).new [sc (.bool x.o),ic ix,sl ih (Z x.h.A) (A2 x.h.A),sl id n (sc (.bool a.nt)::ic jx::sl ia (Z a.A) (A2 a.A)::ra)]) ?_ ?_
   ·refine Aq Ag (fun _=>True) [] [0,1,2,3,4,5,6,7,8,9,10] 0 #[true,true,true,true,true,true,true,true,true,true,true] AH (fun _ _ _ h=>by cases h.1) ?_;intro yd yb;refine Z7 ?_;refine yb.o _ ?_;clear yb yd;exact Ax AH ⟨rfl,AI,AI,AI,AI,rfl⟩
   rintro e s2 σ2 ⟨rfl,k5,k6,k2,k3,rfl⟩
   repeat' first|refine Z1 ?_|refine Z8 fun yd yb=>?_|refine Z4 ?_;clear yb yd|refine Z5 ?_;refine Xi (hT _) ?_;rintro _ _ ⟨rfl,ap⟩;(have aj:=ap.B)|refine Z7 ?_|exact Zt|apply yb.o;clear yb yd
   exact⟨_,rfl,by rw[<-HF.o _ rfl];simp[PE],Xs⟩
 ·have ao:((Z x.A:Int) !=1)=true:=by simp;omega
  have HS:AD (Mw x=false):=by
   unfold Mw AD;split
   ·rename_i a e;rw[e]at aa;exact absurd rfl aa
   ·rfl
  generalize N.idxOf x.h.B=ix at af ah hT;generalize Z x.A=n at*
  clear aa ad hb;refine Z9 49 [.tmp 4] Tryz.func213 ?_
  refine zx ?_
  refine Az (Q:=fun e s' σ''=>e= .normal/\s' 22=sc (.bool true)/\s' 2=ptr σ.B 0/\s' 3=ptr (σ.B+1) 0/\σ''=(σ.new [sl idn (Z N) (N.map str),sl idi (Z l) cs]).new [sc (.bool x.o),ic ix,sl ih (Z x.h.A) (A2 x.h.A),sl id n b]) ?_ ?_
  ·refine Aq Ag (fun _=>True) [] [0,1,2,3,4,5,6,7,8,9,10,11,12,13,14,15] 0 #[true,true,true,true,true,true,true,true,true,true,true,true,true,true,true,true] AH (fun _ _ _ h=>by cases h.1) ?_;intro yd yb;refine Z7 ?_;refine yb.o _ ?_;clear yb yd;exact Ax AH ⟨rfl,AI,AI,AI,rfl⟩
  rintro e s' σ'' ⟨rfl,g22,g2,g3,rfl⟩;refine Bt g22 ?_
  refine zx ?_
  exact⟨_,rfl,by rw[HS.o],Xs⟩
def P5 (n:Nat)(q:Tx)(p:AB×Nat):Bool:=!decide (p.2=n)&&Mi q p.1
def Lq (l:List AB)(n:Nat)(q:Tx):List AB:=(l.zipIdx.filter (P5 n q)).map (·.1)
theorem yH {l:List AB}{n q i y}(h:l[i]?=some y):Lq (l.take (i+1)) n q=Lq (l.take i) n q++if P5 n q (y,i)=true then [y]else []:=by
 have hi:=(BG.1 h).1;unfold Lq;rw[AU,h,BJ,List.zipIdx_append,IZ,FO,CV,EZ AA];congr 1;rw[show ([y]:List AB).zipIdx (0+i)=[(y,i)]by simp,KP];split<;>rfl
theorem YK (l n q i):∃r,Lq l n q=Lq (l.take i) n q++r:=by
 refine⟨(((l.drop i).zipIdx (Z (l.take i))).filter (P5 n q)).map (·.1),?_⟩
 conv=>lhs;rw[<-KJ i l]
 unfold Lq;rw[List.zipIdx_append,IZ,FO,EJ]
def Ib (l:List AB)(n:Nat)(q:Tx):Option Tx:=match Lq l n q with
 |[y]=>if Mw y=true then (match y.A with|[a]=>some a.B|_=>none)else none
 |_=>none
def Mx (N:List Tx)(l:List AB)(n:Nat)(q:Tx):Int:=match Ib l n q with
 |some e=>(N.idxOf e:Nat)
 |none=> -1
theorem WE {y}(h:Mw y=true):∃a,y.A=[a]:=by
 unfold Mw at h;split at h
 ·rename_i a e;exact⟨a,e⟩
 ·cases h
theorem Ug (N ar l cs)(idn idi n:Nat)(x)(hR:BH N ar l)(hE:EL (PI N) l cs)(hx:l[n]?=some x)(σ):AF Tryz.prog 181 [Cl N idn l idi cs,ic n] σ fun r σ'=>r=ic (Mx N l n x.h.B)/\AE σ σ':=by
 have bh:=EL.length E7 hE;have av:=hR.gl.len;have hN:=hR.gl.nm;have a9:=fun y c (hy:PI N y c) (hm:y∈l) σ=>nK N l cs idn idi ((hR.gl.bkm hE).bk av) y c hy (hR.wi y hm) σ;have bf:n<Z l:=(BG.1 hx).1;obtain⟨a4,ihx,idx,bx,rx,bi,bg⟩:=Io hE hx;have HB:AD (∀y∈l,Z y.A<=5/\y.h.B∈N/\∀a∈y.A,y.o=false->a.B∈N):=fun y hy=>⟨hR.b5 y hy,(hR.gl.msr y hy).mem,fun a ha ho=>((hR.ru y hy ho).A a ha).mem⟩;clear hR;refine Z9 52 [.tmp 4] Tryz.func181 ?_
 refine zz ?_
 refine Ae (fun m s σ'=>∃(i:Nat) (v:Int),m=Z l-i/\i<=Z l/\s 1=ic n/\s 2=ptr σ.B 0/\s 5=ic v/\s 9=sl idi (Z l) cs/\s 10=ic (Z l)/\s 11=ic i/\AE σ σ'/\σ.B<σ'.B/\σ'.C σ.B=[sl idn (Z N) (N.map str),sl idi (Z l) cs]/\AD ((Lq (l.take i) n x.h.B=[]/\v= -1)\/∃y a,Lq (l.take i) n x.h.B=[y]/\Mw y=true/\y.A=[a]/\v=((N.idxOf a.B:Nat):Int))) (Z l)
  ⟨0,-1,AA,AA,by simp[upd,AM],AG,AG,AG,AG,AG,Xs,AK,Ao,.inl ⟨rfl,rfl⟩⟩ ?_
 rintro m s σ' ⟨i,v,rfl,hi,h1,h2,h5,h9,bb,ba,hK,be,a3,hA⟩;have bc:=hK.B;by_cases az:i<Z l
 ·have ae:=AJ az;have ap:=AT az;obtain⟨a8,aw,a7⟩:=HB.o l[i] ap;obtain⟨ay,ih,idb,b,r,am,hd⟩:=Io hE ae;have ah:=fun σ=>a9 l[i] _ (PI.of (ih:=ih) (id:=idb) ay am) ap σ;have aa:=yH (n:=n) (q:=x.h.B) ae;have ab:=YK l n x.h.B (i+1);generalize l[i]=y at ae ap a8 aw a7 ay am hd ah aa ab;have a5:=wI aw a4;have bl:=EL.length Es am;clear ae
  refine pz ?_
  refine Az (Q:=fun e s' σ''=>e= .normal/\s' 35=sc (.bool (!P5 n x.h.B (y,i)))/\s' 1=ic n/\s' 2=ptr σ.B 0/\s' 5=ic v/\s' 7=ptr σ'.B 0/\s' 9=sl idi (Z l) cs/\s' 10=ic (Z l)/\s' 11=ic i/\σ''=(σ'.new [sc (.bool false),ic 0,nilS,nilS]).put σ'.B [sc (.bool y.o),ic (N.idxOf y.h.B:Nat),sl ih (Z y.h.A) (A2 y.h.A),sl idb (Z y.A) b]) ?_ ?_
  ·have ax:((σ'.new [sc (.bool false),ic 0,nilS,nilS]).put σ'.B [sc (.bool y.o),ic (N.idxOf y.h.B:Nat),sl ih (Z y.h.A) (A2 y.h.A),sl idb (Z y.A) b]).C σ.B=[sl idn (Z N) (N.map str),sl idi (Z l) cs]:=by rw[Aj AA,Ah AA,a3]
   by_cases ai:i=n
   ·have ak:AD (P5 n x.h.B (y,i)=false):=by simp[AD,P5,ai]
    have a6:((i:Int)==(n:Int))=true:=by simp[ai]
    clear ai aa hA;refine Aq Ag (fun _=>True) [] [0,1,2,3,4,5,6,7,8,9,10,11,12,13,14,15,16,17,18,19] 0 #[true,true,true,true,true,true,true,true,true,true,true,true,true,true,true,true,true,true,true,true] AH (fun _ _ _ h=>by cases h.1) ?_;intro yd yb;refine Z3 ?_;refine yb.o _ ?_;clear yb yd;exact Ax AH ⟨rfl,by rw[ak.o];simp[upd, *],AI,AI,AI,AI,AI,AI,AI,rfl⟩
   ·have a6:((i:Int)==(n:Int))=false:=by simp;omega
    cases ac:y.o with
    |true=>
     have ak:AD (P5 n x.h.B (y,i)=false):=by simp[AD,P5,Mi,ac]
     rw[ac]at ax;clear ai aa hA ac;refine Aq Ag (fun _=>True) [] [0,1,2,3,4,5,6,7,8,9,10,11,12,13,14,15,16,17,18,19] 0 #[true,true,true,true,true,true,true,true,true,true,true,true,true,true,true,true,true,true,true,true] AH (fun _ _ _ h=>by cases h.1) ?_;intro yd yb;refine Z3 ?_;refine yb.o _ ?_;clear yb yd;exact Ax AH ⟨rfl,by rw[ak.o];simp[upd, *],AI,AI,AI,AI,AI,AI,AI,rfl⟩
    |false=>
     have ak:AD ((!P5 n x.h.B (y,i))=!decide (y.h.B=x.h.B)):=by simp[AD,P5,Mi,ac,ai]
     rw[ac]at ax;clear ai aa hA ac;refine Aq Ag (fun _=>True) [] [0,1,2,3,4,5,6,7,8,9,10,11,12,13,14,15,16,17,18,19] 0 #[true,true,true,true,true,true,true,true,true,true,true,true,true,true,true,true,true,true,true,true] AH (fun _ _ _ h=>by cases h.1) ?_;intro yd yb;refine Z3 ?_;refine yb.o _ ?_;clear yb yd;exact Ax AH ⟨rfl,by rw[ak.o];simp[upd, *],AI,AI,AI,AI,AI,AI,AI,rfl⟩
  rintro e s' σ'' ⟨rfl,g35,g1,g2,g5,g7,g9,g10,g11,rfl⟩;clear h1 h2 h5 h9 bb ba a5;cases ad:P5 n x.h.B (y,i)with
  |false=>
   rw[ad]at g35 aa;have HA:AD ((Lq (l.take (i+1)) n x.h.B=[]/\v= -1)\/∃y a,Lq (l.take (i+1)) n x.h.B=[y]/\Mw y=true/\y.A=[a]/\v=((N.idxOf a.B:Nat):Int)):=by
    rw[AD,aa];simpa using hA.o
   clear aa ab hA ad ah;refine Bt g35 ?_
   refine zz ?_
   refine⟨Z l-(i+1),AA,i+1,v,?_⟩
   exact qh HA
  |true=>
   rw[ad]at g35 aa;simp only[if_true]at aa;have ac:y.o=false:=by
    unfold P5 Mi at ad;simp only[BX,GH]at ad;exact ad.2.1
   refine Ct g35 ?_;by_cases hv:v= -1
   ·have au:Lq (l.take i) n x.h.B=[]:=by
     rcases hA.o with⟨e,-⟩|⟨y,a,-,-,-,e⟩
     ·exact e
     ·omega
    rw[au,FM]at aa;subst hv;cases hs:Mw y with
    |false=>
     have HF:AD (Mx N l n x.h.B= -1):=by
      obtain⟨r,e⟩:=ab;rw[aa]at e;unfold Mx Ib AD;rw[e];cases r with
      |nil=>simp[hs]
      |cons a r=>rfl
     rw[hs,ac]at ah;clear aa ab hA ad hs au
     refine qb ?_;intro yd yb;refine Xi (ah _) ?_;rintro _ _ ⟨rfl,an⟩;(have aj:=an.B);refine pz ?_
     exact⟨_,rfl,by rw[HF.o],Xs⟩
    |true=>
     obtain⟨a,ha⟩:=WE hs;have HA:AD ((Lq (l.take (i+1)) n x.h.B=[]/\((N.idxOf a.B:Nat):Int)= -1)\/∃y b,Lq (l.take (i+1)) n x.h.B=[y]/\Mw y=true/\y.A=[b]/\((N.idxOf a.B:Nat):Int)=((N.idxOf b.B:Nat):Int)):=.inr ⟨y,a,aa,hs,ha,rfl⟩;obtain⟨bm,ia,ra,a0⟩:=Pn am (show y.A[0]?=some a by rw[ha];rfl);simp only[MX,NT]at a0;have bn:0<Z y.A:=by rw[ha];simp
     rw[hs]at ah;rw[ac]at ah;subst a0;clear aa ab hA ad hs au ha am
     refine qb ?_;intro yd yb;refine Xi (ah _) ?_;rintro _ _ ⟨rfl,an⟩;(have aj:=an.B;have ao:=an.C;simp only[Ab,Aa]at aj ao);refine pz ?_
     refine⟨Z l-(i+1),AA,i+1,((N.idxOf a.B:Nat):Int),?_⟩
     exact qh HA
   ·have bd:(v != -1)=true:=by simpa using hv
    have HF:AD (Mx N l n x.h.B= -1):=by
     rcases hA.o with⟨-,e⟩|⟨z,a,e,-,-,-⟩
     ·exact absurd e hv
     ·obtain⟨r,e2⟩:=ab;rw[aa,e]at e2;unfold Mx Ib AD;rw[e2];rfl
    clear aa ab hA ad hv ah
    refine pz ?_
    exact⟨_,rfl,by rw[HF.o],Xs⟩
 ·have hil:i=Z l:=AA;subst hil;have HF:AD (Mx N l n x.h.B=v):=by
   have:=hA.o;rw[AS]at this;unfold Mx Ib AD;rcases this with⟨e,rfl⟩|⟨y,a,e,e2,e3,rfl⟩
   ·rw[e]
   ·rw[e];simp only[e2,if_true,e3]
  clear hA
  refine pz ?_
  first|exact⟨_,rfl,by rw[HF.o],hK⟩|exact⟨_,rfl,by rw[HF.o]⟩
theorem PS.down {lo lo' p σ x n pc}(h:PS lo σ x n pc)(h1:lo'<=lo)(hp:p<lo)(c):PS lo' (σ.put p c) x n pc:=by
 rcases h.put hp c with h|⟨o,cap,e1,e2,e3,e4,e5,e6,e7⟩
 ·exact .inl h
 ·exact .inr ⟨o,cap,e1,e2,e3,e4,e5,AA,e7⟩
theorem yJ (r c)(hc:Tq false r c)(hr:MI r)(σ):
  AF Tryz.prog 93 [ag c] σ fun x σ'=>(∃ih X xs,x=ag [sc (.bool false),ic (Fg r).h.p,sl ih (Z (Fg r).h.ts) (Ad (Fg r).h.ts),X]/\PS σ.B σ' X (Z (Fg r).A) xs/\EL Sb (Fg r).A xs)/\AE σ σ':=by
 have az:=fun σ=>Mb r c hc hr σ;have a5:=aN hr;have bg:=hr.bl;obtain⟨ih,id,b,rfl,hb⟩:=hc;have bf:=EL.length Hj hb;unfold Fg;generalize Fi r=lo at az a5;have a0:=fun ido σ=>Oq lo ido r.h.p ih r.h.ts AA (by have:=hr.h3;omega) σ;have a3:=fun ido (a:Lit) ia (ha:a∈r.A) σ=>Oq lo ido a.a.p ia a.a.ts AA (by have:=hr.b3 a ha;omega) σ;refine Z9 39 [.cell 2 125] Tryz.func93 ?_
 refine qb ?_;intro yd yb;refine Xi (az _) ?_;rintro _ _ ⟨⟨ido,rfl⟩,av⟩;(have ad:=av.C;have ah:=av.B;simp only[Aa]at ah);refine pz ?_
 rename_i σ1;have ak:σ1.C σ.B=[sc (.bool false),ic r.h.p,sl ih (Z r.h.ts) (Ad r.h.ts),sl id (Z r.A) b]:=by
  rw[ad _ AK,Ah AK,Ao]
 have aj:σ1.C (σ.B+1)=[sc (.bool false),ic 0,nilS,nilS]:=by
  rw[ad _ AK,Bg (by rw[Aa];omega) (by rw[Aa];omega)]
 have an:AE σ σ1:=Xs;clear ad av;refine Az (Q:=fun e s σ'=>e= .normal/\∃o i2:Nat,s 1=ptr σ.B 0/\s 2=ptr (σ.B+1) 0/\s 3=sl ido (Z lo) (As lo)/\s 4=ptr o 0/\σ.B+1<o/\o<σ'.B/\σ'.C σ.B=[sc (.bool false),ic r.h.p,sl ih (Z r.h.ts) (Ad r.h.ts),sl id (Z r.A) b]/\σ'.C (σ.B+1)=[sc (.bool false),ic 0,nilS,nilS]/\σ'.C o=[sc (.bool false),ic r.h.p,sl i2 (Z r.h.ts) (Ad (r.h.ts.map (Gl lo))),nilS]/\AE σ σ') ?_ ?_
 ·refine Aq Ag (fun _=>True) [8] [0,1,2,3,4] 4 #[true,true,true,true,true,false,false,false,false] AH (fun _ _ _ h=>by cases h.1) ?_;intro yd yb;refine Z3 ?_;refine yb.o _ ?_;clear yb yd;have hR2:=fun σ=>a0 ido σ;refine Eo (rs:=[5,7]) AH (by simp) ?_;intro i hi;simp only[BB,EN,DY]at hi;rcases hi with rfl|rfl
  ·refine Am ?_;intro yd yb;refine Z3 ?_;refine AF.mono (hR2 _) ?_;rintro _ σ2 ⟨⟨i2,rfl⟩,ab⟩;have aa:=ab.C;have af:=ab.B;refine Z3 ?_;refine yb.o _ _ ⟨Al ab,?_⟩;clear yb yd;refine Eo (rs:=[6,7]) AH (by simp) ?_;intro i hi;simp only[BB,EN,DY]at hi;rcases hi with rfl|rfl
   ·refine Am ?_;intro yd yb;refine Z3 ?_;refine yb.o _ _ ⟨Al ab,?_⟩;clear yb yd;refine Ai (i:=7) AH ?_;refine Am ?_;intro yd yb;refine Z3 ?_;refine yb.o _ _ ⟨Al (ab.new _),?_⟩;clear yb yd;refine Ai (i:=8) AH ?_;refine Am ?_;intro yd yb;refine Z3 ?_;refine yb.o _ _ ⟨A5 rfl,?_⟩;clear yb yd;refine Ax AH ⟨rfl,σ2.B,i2,AG,AG,AG,AG,AA,BM,?_,?_,Ak,?_⟩
    ·rw[Aj AA,Ah AA,aa _ AA,ak]
    ·rw[Aj AA,Ah AA,aa _ AA,aj]
    ·exact ((an.trans ab).new _).put AA _
   ·refine Am ?_;intro yd yb;refine Z3 ?_;refine yb.o _ _ ⟨Al (ab.new _),?_⟩;clear yb yd;refine Ai (i:=6) AH ?_;refine Am ?_;intro yd yb;refine Z3 ?_;refine yb.o _ _ ⟨Al (ab.new _),?_⟩;clear yb yd;refine Ai (i:=8) AH ?_;refine Am ?_;intro yd yb;refine Z3 ?_;refine yb.o _ _ ⟨A5 rfl,?_⟩;clear yb yd;refine Ax AH ⟨rfl,σ2.B,i2,AG,AG,AG,AG,AA,BM,?_,?_,Ak,?_⟩
    ·rw[Aj AA,Ah AA,aa _ AA,ak]
    ·rw[Aj AA,Ah AA,aa _ AA,aj]
    ·exact ((an.trans ab).new _).put AA _
  ·refine Am ?_;intro yd yb;refine Z3 ?_;refine yb.o _ _ ⟨Al ((AE.refl _).new _),?_⟩;clear yb yd;refine Ai (i:=5) AH ?_;refine Am ?_;intro yd yb;refine Z3 ?_;refine AF.mono (hR2 _) ?_;rintro _ σ2 ⟨⟨i2,rfl⟩,ab⟩;have aa:=ab.C;have af:=ab.B;simp only[Aa]at af;refine Z3 ?_;refine yb.o _ _ ⟨Al (((AE.refl _).new _).trans ab),?_⟩;clear yb yd;refine Ai (i:=6) AH ?_;refine Am ?_;intro yd yb;refine Z3 ?_;refine yb.o _ _ ⟨Al (((AE.refl _).new _).trans ab),?_⟩;clear yb yd;refine Ai (i:=8) AH ?_;refine Am ?_;intro yd yb;refine Z3 ?_;refine yb.o _ _ ⟨A5 rfl,?_⟩;clear yb yd;refine Ax AH ⟨rfl,σ1.B,i2,AG,AG,AG,AG,AA,BM,?_,?_,Ak,?_⟩
   ·rw[Aj AA,aa _ (by rw[Aa];omega),Ah AA,ak]
   ·rw[Aj AA,aa _ (by rw[Aa];omega),Ah AA,aj]
   ·exact ((an.new _).trans ab).put AA _
 ·rintro e s σ2 ⟨rfl,o,i2,h1,h2,h3,h4,be,bc,a4,ao,ob,hK⟩;have aw:=hK.B;clear an ak aj ah a0
  refine zz ?_
  refine Ae (fun m s σ'=>∃(k:Nat) (X:AV) (xs:List AV),m=Z r.A-k/\k<=Z r.A/\s 2=ptr (σ.B+1) 0/\s 3=sl ido (Z lo) (As lo)/\s 4=ptr o 0/\s 18=sl id (Z r.A) b/\s 19=ic (Z r.A)/\s 20=ic k/\AE σ σ'/\σ2.B<=σ'.B/\σ'.C (σ.B+1)=[sc (.bool false),ic 0,nilS,nilS]/\σ'.C o=[sc (.bool false),ic r.h.p,sl i2 (Z r.h.ts) (Ad (r.h.ts.map (Gl lo))),X]/\PS σ2.B σ' X k xs/\AD (EL Sb ((r.A.take k).map (JX lo)) xs)) (Z r.A)
   ⟨0,nilS,[],AA,AA,by simp[upd,h2],by simp[upd,h3],by simp[upd,h4],AG,AG,rfl,hK,AR _,ao,ob,.inl ⟨rfl,rfl,rfl⟩,rfl⟩ ?_
  clear h1 h2 h3 h4 a4 ao ob hK aw;rintro m s σ' ⟨k,X,xs,rfl,hk,h2,h3,h4,bm,bi,bh,hK,bd,ao,ob,hX,hE⟩;have aw:=hK.B;have a8:=hX.flat;by_cases ax:k<Z r.A
  ·have ac:=AJ ax;obtain⟨ia,rr,hd⟩:=H8 hb ac;have hR:=fun σ=>a3 ido r.A[k] ia (AT ax) σ;generalize r.A[k]=a at hd ac hR;have HX:AD (∀i4,EL Sb ((r.A.take (k+1)).map (JX lo)) (xs++[sc (.bool a.neg),ic a.a.p,sl i4 (Z a.a.ts) (Ad (a.a.ts.map (Gl lo)))])):=fun i4=>by
    rw[AU,ac,BJ,FO];exact EL.append hE.o (EL.single ⟨i4,by simp[JX,lM]⟩)
   clear ac hE a3
   refine qb ?_;intro yd yb;refine Xi (hR _) ?_;rintro _ _ ⟨⟨i4,rfl⟩,am⟩;(have ae:=am.C;have ap:=am.B;simp only[Aa,Ab]at ap ae);refine qm ?_;intro yd yb
   rename_i σ4;have ba:=((hK.new [sc (.bool false),ic 0,nilS]).put hK.B _).trans am;refine wU (lo:=σ2.B) (σ0:=σ) (by first|exact Fe) (by rfl) (by rfl) (by rfl) AA AA (by simp only[Av,Ab,Aa];omega) AA (((ba.new _).put AA _).lay 1) (hX.keep ((((((AE.refl _).new _).put (AR _) _).trans am).new _).put AA _|>.lay 1)) ?_;intro X' σn ay a6 ai bb;simp only[Av,Ab,Aa]at a6;have eob:∀p,p<σ2.B->σn.C p=σ'.C p:=fun p hp=>by rw[ai p hp,H6,Aj AA,Ah AA,ae _ AA,Aj AA,Ah AA]
   obtain⟨og,cg,rfl,-⟩:=ay.gx AA;clear ai hX;refine Z3 ?_
   refine zz ?_
   refine⟨Z r.A-(k+1),AA,k+1,gx og (k+1) cg,xs++[sc (.bool a.neg),ic a.a.p,sl i4 (Z a.a.ts) (Ad (a.a.ts.map (Gl lo)))],?_⟩
   ((repeat' refine Zi ?_ ?_)<;>first|exact Xq|exact (bb.put AA _)|exact (ay.put AA _)|exact (HX.o i4)|exact Xs)
  ·have a7:k=Z r.A:=AA;subst a7;rw[AS]at hE;have HP:AD (PS σ.B ((σ'.put (σ.B+1) [sc (.bool false),ic r.h.p,sl i2 (Z r.h.ts) (Ad (r.h.ts.map (Gl lo))),X])) X (Z r.A) xs):=hX.down AA AA _;have a9:X=nilS\/∃oc cc,X=gx oc (Z r.A) cc:=by
    rcases hX with⟨h,-⟩|⟨oc,cc,h,-⟩
    ·exact .inl h
    ·exact .inr ⟨oc,cc,h⟩
   clear hX a8;rcases a9 with rfl|⟨oc,cc,rfl⟩
   all_goals
    refine pz ?_
    exact⟨_,rfl,⟨i2,_,xs,by simp[lM];rfl,by simpa using HP.o,by simpa using hE.o⟩,hK.put AA _⟩
theorem wH {α β:Type}[BEq α][LawfulBEq α][BEq β][LawfulBEq β]{f:α->β}{t}:∀{l:List α},(∀u∈l,f u=f t->u=t)->(l.map f).idxOf (f t)=l.idxOf t
 |[],_=>rfl
 |a::l,h=>by
  rw[CU,List.idxOf_cons,List.idxOf_cons];by_cases e:a=t
  ·subst e;simp
  ·have e2:f a≠f t:=fun e2=>e (h a (by simp) e2);rw[show (f a==f t)=false by simpa using e2,show (a==t)=false by simpa using e,wH fun u hu=>h u (by simp[hu])]
def e2 (t:Tx):Int:=(Ap t).2
theorem RY {t u}(ht:UT t)(hu:UT u)(h1:Ac t=true)(h2:Ac u=true)(h:e2 t=e2 u):t=u:=DX.inj t u ht hu (GW (by rw[Bs,Bs,h1,h2]) h)
theorem mL:∀{ts acc:List Tx},(∀t∈acc,UT t/\Ac t=true)->(∀t∈ts,UT t)->(ts.map Ap).foldl vF (acc.map e2)=(G7 acc ts).map e2
 |[],_,_,_=>rfl
 |t::ts,acc,ha,ht=>by
  have hu:=ht t (by simp);have e:vF (acc.map e2) (Ap t)=(Ft acc t).map e2:=by
   unfold vF Ft;rw[Bs];by_cases hv:Ac t=true
   ·by_cases hm:t∈acc
    ·rw[if_neg fun h=>h.2 (AO.2 ⟨t,hm,rfl⟩),if_neg fun h=>h.2 hm]
    ·rw[if_pos ⟨hv,fun h=>by
      obtain⟨u,ab,e⟩:=AO.1 h
      exact hm (by rw[<-RY (ha u ab).1 hu (ha u ab).2 hv e];exact ab)⟩,if_pos ⟨hv,hm⟩]
     simp[e2]
   ·rw[if_neg fun h=>hv h.1,if_neg fun h=>hv h.1]
  rw[CU,IB,e];show _=(G7 (Ft acc t) ts).map e2;refine mL (fun u aa=>?_) fun u aa=>ht u (by simp[aa]);unfold Ft at aa;split at aa
  ·rename_i hc;rcases AW.1 aa with h|h
   ·exact ha u h
   ·simp at h;subst h;exact⟨hu,hc.1⟩
  ·exact ha u aa
theorem WW {N x}(ho:x.o=false)(hx:De x)(hu:∀a∈Af x,∀t∈a.A,UT t):Fg (Cd N x)=Cd N (ren x):=by
 have ab:Af x=x.h::x.A:=by simp[Af,ho]
 have ac:Fi (Cd N x)=(Ba x).map e2:=by
  have e:(Ho (Cd N x)).flatMap (·.ts)=((Af x).flatMap (·.A)).map Ap:=by
   rw[ab];simp[Ho,Cd,C9,E9,LF,List.map_flatMap]
  unfold Fi Co Ba;rw[e];refine mL (acc:=[]) (fun t ht=>by cases ht) fun t ht=>?_;obtain⟨a,ha,aa⟩:=DR.1 ht;exact hu a ha t aa
 have hL:∀v∈Ba x,UT v/\Ac v=true:=fun v hv=>by
  obtain⟨h1,-⟩:=Oj ((Af x).flatMap (·.A)) [] (fun v hv=>by cases hv) IS;obtain⟨h2,h3⟩:=h1 v hv;rcases h3 with h3|h3
  ·cases h3
  ·obtain⟨a,ha,aa⟩:=DR.1 h3;exact⟨hu a ha v aa,h2⟩
 have key:∀a∈Af x,lM (Fi (Cd N x)) (C9 N a)=C9 N (C8 (Ba x) a):=fun a ha=>by
  unfold lM C9 C8;simp only[BS];congr 1;refine CK fun t ht=>?_;have ad:=hu a ha t ht;show Gl (Fi (Cd N x)) (Ap t)=Ap (Ev (Ba x) t);rw[m5 ad.1 (fun hv=>Oi hx ha ht hv)];unfold Gl;rw[Bs];congr 1;by_cases hv:Ac t=true
  ·have hm:t∈Ba x:=Rf _ _ _ (.inr ⟨DR.2 ⟨a,ha,ht⟩,hv⟩);have af:(Ap t).2∈Fi (Cd N x):=by rw[ac];exact AO.2 ⟨t,hm,rfl⟩
   have hi:(Fi (Cd N x)).idxOf (Ap t).2=(Ba x).idxOf t:=by
    rw[ac];exact wH fun u ae e=>RY (hL u ae).1 ad (hL u ae).2 hv e
   rw[if_pos hv,if_pos hv,qY,if_pos af,Bl,if_pos hm,hi]
  ·rw[if_neg hv,if_neg hv]
 unfold Fg;have e1:lM (Fi (Cd N x)) (Cd N x).h=C9 N (C8 (Ba x) x.h):=key x.h (by rw[ab];simp);have e3:(Cd N x).A.map (JX (Fi (Cd N x)))=(x.A.map (C8 (Ba x))).map (E9 N):=by
  show (x.A.map (E9 N)).map _=_;rw[BS,BS];refine CK fun a ha=>?_;show (⟨a.nt,lM (Fi (Cd N x)) (C9 N a)⟩:Lit)=⟨a.nt,C9 N (C8 (Ba x) a)⟩;rw[key a (by rw[ab];simp[ha])]
 rw[e1,e3];rfl
theorem SB {y z}(hy:De y)(hz:De z)(h:Ce y++[46]=Ce z++[46]):y=z:=by
 have e:Ce y=Ce z:=List.append_cancel_right h;have h1:=(Nm hy).1;rw[e,(Nm hz).1]at h1;exact h1.symm
def Eb (p q:Tx):AB:=⟨false,⟨false,p,[[65],[66]]⟩,[⟨false,q,[[65],[67]]⟩,⟨false,p,[[67],[66]]⟩]⟩
def fF (p e:Tx):AB:=⟨false,⟨false,p,[[65],[66]]⟩,[⟨false,e,[[65],[66]]⟩]⟩
theorem TD {b}(h:Bw b.toNat=true):Pm [b]:=⟨by simp,fun c hc=>by simp at hc;subst hc;exact .inl h⟩
theorem NV {p}(h:Lc p){n b c}(hb:Bw b.toNat=true)(hc:Bw c.toNat=true):D3 ⟨n,p,[[b],[c]]⟩:=⟨h,by simp,by simp,fun t ht=>by
 simp only[BB,EN,DY]at ht;rcases ht with rfl|rfl
 ·exact TD hb
 ·exact TD hc⟩
theorem XJ {p q}(hp:Lc p)(hq:Lc q):De (Eb p q):=⟨hp,(fun e=>by cases e),fun _=>⟨NV hp rfl rfl,rfl,by simp[Eb],fun a ha=>by
 simp only[Eb,BB,EN,DY]at ha;rcases ha with rfl|rfl
 ·exact NV hq rfl rfl
 ·exact NV hp rfl rfl⟩⟩
theorem VF {p q}(hp:Lc p)(hq:Lc q):De (fF p q):=⟨hp,(fun e=>by cases e),fun _=>⟨NV hp rfl rfl,rfl,by simp[fF],fun a ha=>by
 simp only[fF,BB,EN,DY]at ha;subst ha
 exact NV hq rfl rfl⟩⟩
theorem R6 {N x}(hw:De x)(hi:WI N x)(h:Ur x=true):ren x=Eb x.h.B x.h.B:=by
 unfold Ur at h;rw[EH,Sc hw]at h;exact SB (Ss hw hi) (XJ hw.1 hw.1) (by rw[h];simp[PX,Ce,Eb,D6,A3,Bu,Cg,Cp])
theorem vJ {N x a}(hw:De x)(hi:WI N x)(hb:x.A=[a])(h:Mw x=true):ren x=fF x.h.B a.B:=by
 have ho:x.o=false:=by
  cases ho:x.o with
  |false=>rfl
  |true=>rw[(hw.2.1 ho).2.2]at hb;cases hb
 unfold Mw at h;rw[hb]at h;simp only[BX,EH]at h;rw[Sc hw]at h;exact SB (Ss hw hi) (VF hw.1 ((hw.2.2 ho).2.2.2 a (by rw[hb];simp)).1) (by rw[h.2];simp[PE,Ce,fF,D6,A3,Bu,Cg,Cp])
theorem UW {N b}(hN:b.B∈N)(hu:∀t∈b.A,UT t):N4 N b.nt (C9 N b)=b:=by
 obtain⟨n,p,ts⟩:=b;unfold N4 C9;have aa:=CY hN;simp only[DU,AJ aa,FT,Option.getD_some,BS];congr 1
 conv=>rhs;rw[<-IY ts]
 exact CK fun t ht=>(hu t ht).dec.1
theorem ng {N x}(ho:x.o=false)(hn:x.h.nt=false)(h:∀a∈Af x,a.B∈N/\∀t∈a.A,UT t):Dh N (Cd N x)=x:=by
 obtain⟨o,hd,bd⟩:=x;have ho:o=false:=ho;subst ho;have aa:∀a,a=hd\/a∈bd->a∈Af ⟨false,hd,bd⟩:=fun a ha=>by simpa[Af]using ha
 have h1:=h hd (aa hd (.inl rfl));have e1:=UW h1.1 h1.2;have hn:hd.nt=false:=hn;rw[hn]at e1;unfold Dh Cd;simp only[e1,BS];congr 1
 conv=>rhs;rw[<-IY bd]
 exact CK fun a ha=>UW (h a (aa a (.inr ha))).1 (h a (aa a (.inr ha))).2
theorem pU {k:Nat}(h:k<26)(b)(hb:b=Iq k):UT [b]:=by rw[hb];exact (pV h).1
theorem rR {p q}:∀a∈Af (Eb p q),Z a.A=2/\(a.B=p\/a.B=q)/\∀t∈a.A,UT t:=by
 have hA:=pU (k:=0) (by decide) 65 rfl;have hB:=pU (k:=1) (by decide) 66 rfl;have hC:=pU (k:=2) (by decide) 67 rfl;intro a ha;simp only[Af,Eb,ER,if_false,List.singleton_append,BB,EN,DY]at ha;rcases ha with rfl|rfl|rfl<;>simp[hA,hB,hC]
theorem mj {N ar p q}(hp:p∈N)(hq:q∈N)(gp:LI p)(gq:LI q)(ap:ar p=2)(aq:ar q=2):FI N ar (Cd N (Eb p q))/\Dh N (Cd N (Eb p q))=Eb p q:=by
 have hm:∀a∈Af (Eb p q),a.B∈N/\LI a.B/\ar a.B=2:=fun a ha=>by
  rcases (rR a ha).2.1 with e|e<;>rw[e]
  ·exact⟨hp,gp,ap⟩
  ·exact⟨hq,gq,aq⟩
 have key:∀a∈Af (Eb p q),IN N ar (C9 N a):=fun a ha=>by
  obtain⟨h1,h2,h3⟩:=rR a ha;obtain⟨g1,g2,g3⟩:=hm a ha
  exact⟨⟨a.B,g1,rfl,g2,by simp[C9,h1,g3]⟩,by simp[C9,h1],by simp[C9,h1],fun t ht=>by
   obtain⟨u,hu,rfl⟩:=AO.1 ht
   exact⟨u,h3 u hu,rfl⟩⟩
 refine⟨⟨key _ (Ar (.inl ⟨rfl,rfl⟩)),fun l hl=>?_⟩,ng rfl rfl fun a ha=>⟨(hm a ha).1,(rR a ha).2.2⟩⟩;obtain⟨a,ha,rfl⟩:=AO.1 hl;exact key a (Ar (.inr ha))
theorem Jf {N ar l}(hR:BH N ar l){i:Nat}{x}(hx:l[i]?=some x)(ha:Ur x=true):x.o=false/\Z x.A=2/\x.h.B∈N/\LI x.h.B/\ar x.h.B=2:=by
 have hm:=BD hx;have hr:=R6 (hR.wit x hm) (hR.wi x hm) ha;have ho:x.o=false:=congrArg AB.o hr;have h1:Z x.A=2:=by have:=congrArg (fun y=>Z y.A) hr;simpa[ren,Eb]using this
 have h2:Z x.h.A=2:=by have:=congrArg (fun y=>Z y.h.A) hr;simpa[ren,Eb,C8]using this
 have hI:=(hR.ru x hm ho).h;exact⟨ho,h1,hI.mem,⟨(hR.wit x hm).1,(hR.gl.msr x hm).hpl⟩,by rw[<-hI.len,h2]⟩
theorem Wp {N ar l}(hR:BH N ar l){i p e}(h:Ib l i p=some e):e∈N/\LI e/\ar e=2:=by
 unfold Ib at h;split at h
 case h_2=>cases h
 rename_i y ho;split at h
 case isFalse=>cases h
 rename_i hs;split at h
 case h_2=>cases h
 rename_i a hb;cases h;have ab:y∈Lq l i p:=by rw[ho];simp
 obtain⟨⟨z,j⟩,hz,rfl⟩:=AO.1 ab;obtain⟨ae,aa⟩:=BV.1 hz;have hm:z∈l:=List.fst_mem_of_mem_zipIdx ae;have ad:z.o=false:=by
  unfold P5 Mi at aa;simp only[BX,GH]at aa;exact aa.2.1
 have ac:a∈z.A:=by rw[show z.A=[a]from hb];simp
 have hr:=vJ (hR.wit z hm) (hR.wi z hm) hb hs;have h2:Z a.A=2:=by
  have:=congrArg (fun y:AB=>y.A.map fun b=>Z b.A) hr;simpa[ren,fF,C8,show z.A=[a]from hb]using this
 have hI:=(hR.ru z hm ad).A a ac;exact⟨hI.mem,⟨((hR.wit z hm).2.2 ad).2.2.2 a ac|>.1,((hR.gl.msr z hm).at_ a (Ar (.inr ac))).2.1⟩,by rw[<-hI.len,h2]⟩
def iL (N:List Tx)(l:List AB)(i:Nat):Bool:=match l[i]? with
 |some x=>Ur x&&(match Ib l i x.h.B with
  |some e=>E4 N l (C7 i [Eb x.h.B e] l)
  |none=>false)
 |none=>false
def NC (N:List Tx)(l:List AB)(idn:Nat)(x:AV)(b:Bool):Prop:=
 (b=false/\∀i,i<Z l->iL N l i=false)\/(b=true/\∃i y e,l[i]?=some y/\Ur y=true/\Ib l i y.h.B=some e/\iL N l i=true/\(∀j,j<i->iL N l j=false)/\∃id c',x=Cl N idn (C7 i [Eb y.h.B e] l) id c'/\EL (PI N) (C7 i [Eb y.h.B e] l) c')
theorem SN {N ar l}(hR:BH N ar l){i x e}(hx:l[i]?=some x)(ha:Ur x=true)(he:Ib l i x.h.B=some e):OG N ar [Eb x.h.B e]:=fun y hy _=>by
 simp at hy;subst hy;obtain⟨-,-,h1,h2,h3⟩:=Jf hR hx ha;obtain⟨g1,g2,g3⟩:=Wp hR he;obtain⟨k1,k2⟩:=mj h1 g1 h2 g2 h3 g3;exact⟨_,k2.symm,k1,by simp[Cd,Eb]⟩
theorem yZ {N ar l}(hR:BH N ar l){i x e}(hx:l[i]?=some x)(ha:Ur x=true)(he:Ib l i x.h.B=some e){ih ib xs}(h:EL Sb (Fg (Cd N x)).A xs):PI N (Eb x.h.B e) [sc (.bool false),ic (Fg (Cd N x)).h.p,sl ih (Z (Fg (Cd N x)).h.ts) (Ad (Fg (Cd N x)).h.ts),sl ib 2 (xs.set 1 (ic (N.idxOf e:Nat)))]:=by
 have hm:=BD hx;obtain⟨ho,-,h1,h2,h3⟩:=Jf hR hx ha;obtain⟨g1,g2,g3⟩:=Wp hR he;rw[WW ho (hR.wit x hm) (fun a ha=>((hR.gl.msr x hm).at_ a ha).2.2),R6 (hR.wit x hm) (hR.wi x hm) ha]at h⊢;refine pC h1 (fun a ha=>?_) ?_
 ·simp only[Eb,BB,EN,DY]at ha;rcases ha with rfl|rfl
  ·exact g1
  ·exact h1
 ·obtain⟨c1,d1,⟨j1,rfl⟩,⟨c2,d2,⟨j2,rfl⟩,e2,rfl⟩,rfl⟩:=h;have e2:d2=[]:=e2;subst e2;exact⟨ih,ib,_,rfl,⟨_,_,⟨j1,rfl⟩,⟨_,_,⟨j2,rfl⟩,rfl,rfl⟩,rfl⟩⟩
theorem Ud (N ar l cs idn idi)(hR:BH N ar l)(hE:EL (PI N) l cs)(σ):
  AF Tryz.prog 128 [Cl N idn l idi cs] σ fun r σ'=>(∃x b,r=tp [x,sc (.bool b)]/\NC N l idn x b/\oY x)/\AE σ σ':=by
 have hG:=hR.gl;have c9:=EL.length E7 hE;have bn:=hG.len;have cj:=(hG.bkm hE).bk bn;have HB:AD (JW N l cs):=hG.bkm hE;have cz:AD (EL (PJ N) l cs):=Qq hE fun x hx c hc=>.inl ⟨hc,hG.msr x hx⟩;have HR:AD (BH N ar l):=hR;have b1:=fun x c (hx:PI N x c) (hm:x∈l) σ=>Y5 N l cs idn idi cj x c hx (hR.wi x hm) σ;have bv:=fun i x (hx:l[i]?=some x) σ=>Ug N ar l cs idn idi i x hR hE hx σ;clear hG hR cj;refine Z9 51 [.cell 2 62,.tmp 3] Tryz.func128 ?_
 refine zz ?_
 refine Ae (fun m s σ'=>∃(i:Nat),m=Z l-i/\i<=Z l/\s 1=ptr σ.B 0/\s 2=ptr (σ.B+1) 0/\s 12=sl idi (Z l) cs/\s 13=ic (Z l)/\s 14=ic i/\AE σ σ'/\σ.B+1<σ'.B/\σ'.C σ.B=[sl idn (Z N) (N.map str),sl idi (Z l) cs]/\σ'.C (σ.B+1)=[nilS,nilS]/\AD (∀j,j<i->iL N l j=false)) (Z l)
  ⟨0,AA,AA,AG,AG,AG,AG,rfl,Xs,AK,by rw[Ah AK,Ao],by first|exact Ao|simp[Ao],fun j h=>AA⟩ ?_
 rintro m s σ' ⟨i,rfl,hi,h1,h2,cx,cw,cv,hK,c8,b6,b5,hA⟩;have c7:=hK.B;by_cases cd:i<Z l
 ·have aa:=AJ cd;have ay:=AT cd;obtain⟨cc,ih,idb,b,r,br,hd⟩:=Io hE aa;generalize l[i]=x at hd aa cc br ay;have da:=EL.length Es br;have a4:=PI.of (ih:=ih) (id:=idb) cc br;have ap:=fun σ=>b1 x _ a4 ay σ;have ax:=fun σ=>bv i x aa σ;have av:AD (iL N l i=false->∀j,j<i+1->iL N l j=false):=fun hf j hj=>by
   rcases FQ j i with h|h
   ·exact hA.o j h
   ·rw[show j=i by omega,hf]
  have ai:iL N l i=(Ur x&&(match Ib l i x.h.B with|some e=>E4 N l (C7 i [Eb x.h.B e] l)|none=>false)):=by unfold iL;rw[aa]
  cases ha:Ur x with
  |false=>
   have a7:AD (∀j,j<i+1->iL N l j=false):=av.o (by rw[ai,ha];rfl);rw[ha]at ap;clear ai av hA ha ax aa a4
   refine qb ?_;intro yd yb;refine Xi (ap _) ?_;rintro _ _ ⟨rfl,af⟩;(have ad:=af.B;have ac:=af.C;simp only[Ab,Aa]at ad ac);refine pz ?_
   refine⟨Z l-(i+1),AA,i+1,?_⟩
   exact qh a7
  |true=>
   rw[ha]at ap ai;cases hs:Ib l i x.h.B with
   |none=>
    have a7:AD (∀j,j<i+1->iL N l j=false):=av.o (by rw[ai,hs];rfl);have e1:Mx N l i x.h.B= -1:=by unfold Mx;rw[hs]
    rw[e1]at ax;clear ai av hA ha hs e1 aa a4
    (repeat (refine qb ?_;intro yd yb;(first|(refine Xi (ap _) ?_;rintro _ _ ⟨rfl,af⟩;(have ad:=af.B;have ac:=af.C;simp only[Ab,Aa]at ad ac))|(refine Xi (ax _) ?_;rintro _ _ ⟨rfl,an⟩;(have bf:=an.B;have ah:=an.C)))));refine pz ?_
    refine⟨Z l-(i+1),AA,i+1,?_⟩
    exact qh a7
   |some e=>
    rw[hs]at ai;simp only[ID]at ai;have e1:Mx N l i x.h.B=((N.idxOf e:Nat):Int):=by unfold Mx;rw[hs]
    rw[e1]at ax;have a8:=(Jf HR.o aa ha).1;have ce:=(Jf HR.o aa ha).2.1;have ab:=fun (ih ib:Nat) (xs:List AV) (h:EL Sb (Fg (Cd N x)).A xs)=>yZ HR.o aa ha hs (ih:=ih) (ib:=ib) h;have bb:=SN HR.o aa ha hs;have HC:AD (∀id c' x',iL N l i=true->x'=Cl N idn (C7 i [Eb x.h.B e] l) id c'->EL (PI N) (C7 i [Eb x.h.B e] l) c'->NC N l idn x' true):=fun id c' x' ho bg bq=>.inr ⟨rfl,i,x,e,aa,ha,hs,ho,hA.o,id,c',bg,bq⟩;have bz:=QO a4;rw[a8]at bz;have a9:=fun σ=>yJ (Cd N x) _ bz (tH (HR.o.ru x ay a8) (HR.o.gl.msr x ay) a8 (HR.o.wit x ay)).r52 σ;have b0:Z (Fg (Cd N x)).A=2:=by simp[Fg,Cd,ce]
    have a3:=fun co ido (h:EL (PJ N) [Eb x.h.B e] co) σ=>Nb (E:=PJ N) TF N l [Eb x.h.B e] cs co idn idi ido i cz.o h AA (by simp) σ;have ao:=fun c' id' (h:EL (PJ N) (C7 i [Eb x.h.B e] l) c') σ=>Ik N l (C7 i [Eb x.h.B e] l) cs c' idn idi id' HB.o (SZ HR.o bb (by simp) i h) σ;have au:AD (∀c',E4 N l (C7 i [Eb x.h.B e] l)=true->EL (PJ N) (C7 i [Eb x.h.B e] l) c'->EL (PI N) (C7 i [Eb x.h.B e] l) c'):=fun c' hb h=>by
     unfold E4 at hb;simp only[BX]at hb;exact Qq h fun y hy c hc=>(hc.pi ((S3 hb.1).2 y hy)).1
    have b4:AD (∀c,PI N (Eb x.h.B e) c->PJ N (Eb x.h.B e) c):=fun c hc=>.inl ⟨hc,by
     obtain⟨r,h1,h2,h3⟩:=bb (Eb x.h.B e) (by simp) (by simp[Eb])
     rw[h1];exact h2.msr AA⟩
    rw[<-ai]at ao au;simp only[LO]at a3;generalize Eb x.h.B e=V at ab bb HC a3 ao au b4;generalize C7 i [V] l=W at HC a3 ao au;generalize Fg (Cd N x)=O at ab a9 b0;rw[b0]at a9;have cm:AD _:=ab;rw[a8]at ap hd;clear ai hA ha hs e1 aa a4 ab bb bz b0 ce
    (repeat (refine qb ?_;intro yd yb;(first|(refine Xi (ap _) ?_;rintro _ _ ⟨rfl,af⟩;(have ad:=af.B;have ac:=af.C;simp only[Ab,Aa]at ad ac))|(refine Xi (ax _) ?_;rintro _ _ ⟨rfl,an⟩;(have bf:=an.B;have ah:=an.C)))));refine qm ?_;intro yd yb
    refine AF.mono (a9 _) ?_;rintro _ σ4 ⟨⟨jh,X,xs,rfl,cf,ci⟩,ba⟩;obtain⟨o,cap,rfl,cq,cr,bo,ct,b8⟩:=cf.gx AA;have cn:=ba.B;have ak:=ba.C;refine Z3 ?_;refine yb.o _ _ ?_;clear yb yd;refine I8 ?_;have bw:AE σ ((σ4.new [sc (.bool false),ic 0,nilS,nilS]).put σ4.B [sc (.bool false),ic O.h.p,sl jh (Z O.h.ts) (Ad O.h.ts),gx o 2 cap]):=((((((hK.new _).put hK.B _).trans af).trans an).trans ba).new _).put AA _;have ca:((σ4.new [sc (.bool false),ic 0,nilS,nilS]).put σ4.B [sc (.bool false),ic O.h.p,sl jh (Z O.h.ts) (Ad O.h.ts),gx o 2 cap]).C o=σ4.C o:=by rw[Aj AA,Ah AA]
    have bh:((σ4.new [sc (.bool false),ic 0,nilS,nilS]).put σ4.B [sc (.bool false),ic O.h.p,sl jh (Z O.h.ts) (Ad O.h.ts),gx o 2 cap]).C σ4.B=[sc (.bool false),ic O.h.p,sl jh (Z O.h.ts) (Ad O.h.ts),gx o 2 cap]:=Ak;have b3:((σ4.new [sc (.bool false),ic 0,nilS,nilS]).put σ4.B [sc (.bool false),ic O.h.p,sl jh (Z O.h.ts) (Ad O.h.ts),gx o 2 cap]).C σ.B=[sl idn (Z N) (N.map str),sl idi (Z l) cs]:=by
     rw[Aj AA,Ah AA,ak _ AA,ah _ AA,ac _ AA,Aj AA,Ah AA,b6]
    have b2:((σ4.new [sc (.bool false),ic 0,nilS,nilS]).put σ4.B [sc (.bool false),ic O.h.p,sl jh (Z O.h.ts) (Ad O.h.ts),gx o 2 cap]).C (σ.B+1)=[nilS,nilS]:=by
     rw[Aj AA,Ah AA,ak _ AA,ah _ AA,ac _ AA,Aj AA,Ah AA,b5]
    have cb:σ4.B<((σ4.new [sc (.bool false),ic 0,nilS,nilS]).put σ4.B [sc (.bool false),ic O.h.p,sl jh (Z O.h.ts) (Ad O.h.ts),gx o 2 cap]).B:=BM;generalize (σ4.new [sc (.bool false),ic 0,nilS,nilS]).put σ4.B [sc (.bool false),ic O.h.p,sl jh (Z O.h.ts) (Ad O.h.ts),gx o 2 cap]=A at bw ca bh b3 b2 cb;have bp:1<Z (σ4.C o):=AA;have bi:o≠σ4.B:=AA;have bm:o≠σ.B:=AA;have bl:o≠σ.B+1:=AA;refine Az (Q:=fun e' s' σ''=>e'= .normal/\s' 1=ptr σ.B 0/\s' 2=ptr (σ.B+1) 0/\s' 4=ic i/\s' 7=ptr σ4.B 0/\s' 12=sl idi (Z l) cs/\s' 13=ic (Z l)/\s' 14=ic i/\σ''=A.put o ((σ4.C o).set 1 (ic (N.idxOf e:Nat)))) ?_ ?_
    ·exact qf
    rintro e' s' σ'' ⟨rfl,g1,g2,g4,g7,g12,g13,g14,rfl⟩;have a0:(A.put o ((σ4.C o).set 1 (ic (N.idxOf e:Nat)))).C σ4.B=[sc (.bool false),ic O.h.p,sl jh (Z O.h.ts) (Ad O.h.ts),gx o 2 cap]:=by rw[Dl bi.symm,bh]
    refine Y1 (o:=o) (p:=σ4.B) (j:=3) (k:=6) (by simp only[Ab];omega) (by simp only[Ab];omega) bi a0 rfl (by rw[Ak,LU];omega) ?_;have az:((A.put o ((σ4.C o).set 1 (ic (N.idxOf e:Nat)))).C o).take 6=xs.set 1 (ic (N.idxOf e:Nat)):=by rw[Ak,List.take_set,b8]
    rw[az];have ch:AE σ (((A.put o ((σ4.C o).set 1 (ic (N.idxOf e:Nat)))).put o []).put σ4.B ([sc (.bool false),ic O.h.p,sl jh (Z O.h.ts) (Ad O.h.ts),gx o 2 cap].set 3 (sl 0 2 (xs.set 1 (ic (N.idxOf e:Nat)))))):=((bw.put AA _).put AA _).put AA _;have b9:(((A.put o ((σ4.C o).set 1 (ic (N.idxOf e:Nat)))).put o []).put σ4.B ([sc (.bool false),ic O.h.p,sl jh (Z O.h.ts) (Ad O.h.ts),gx o 2 cap].set 3 (sl 0 2 (xs.set 1 (ic (N.idxOf e:Nat)))))).C σ4.B=[sc (.bool false),ic O.h.p,sl jh (Z O.h.ts) (Ad O.h.ts),sl 0 2 (xs.set 1 (ic (N.idxOf e:Nat)))]:=Ak;have cy:(((A.put o ((σ4.C o).set 1 (ic (N.idxOf e:Nat)))).put o []).put σ4.B ([sc (.bool false),ic O.h.p,sl jh (Z O.h.ts) (Ad O.h.ts),gx o 2 cap].set 3 (sl 0 2 (xs.set 1 (ic (N.idxOf e:Nat)))))).C σ.B=[sl idn (Z N) (N.map str),sl idi (Z l) cs]:=by
     rw[Dl AA,Dl bm.symm,Dl bm.symm,b3]
    have cu:(((A.put o ((σ4.C o).set 1 (ic (N.idxOf e:Nat)))).put o []).put σ4.B ([sc (.bool false),ic O.h.p,sl jh (Z O.h.ts) (Ad O.h.ts),gx o 2 cap].set 3 (sl 0 2 (xs.set 1 (ic (N.idxOf e:Nat)))))).C (σ.B+1)=[nilS,nilS]:=by
     rw[Dl AA,Dl bl.symm,Dl bl.symm,b2]
    have cp:σ4.B<(((A.put o ((σ4.C o).set 1 (ic (N.idxOf e:Nat)))).put o []).put σ4.B ([sc (.bool false),ic O.h.p,sl jh (Z O.h.ts) (Ad O.h.ts),gx o 2 cap].set 3 (sl 0 2 (xs.set 1 (ic (N.idxOf e:Nat)))))).B:=by simp only[Ab];omega
    generalize ((A.put o ((σ4.C o).set 1 (ic (N.idxOf e:Nat)))).put o []).put σ4.B ([sc (.bool false),ic O.h.p,sl jh (Z O.h.ts) (Ad O.h.ts),gx o 2 cap].set 3 (sl 0 2 (xs.set 1 (ic (N.idxOf e:Nat)))))=F at ch b9 cy cu cp;have cg:=b4.o _ (cm.o jh 0 xs ci);have bu:=EL.single cg;generalize xs.set 1 (ic (N.idxOf e:Nat))=ys at b9 bu;have ck:AD _:=bu;clear a0 az bw ca bh b3 b2 cb bp bi bm bl cg bu b8 ci cf ba ak an ah af ac a9 cm b4 ap ax b6 b5 h1 h2 cx cw cv bo ct cq cr hd;have knoF:=ch.B;cases aw:iL N l i with
    |true=>
     rw[aw]at ao au;have c5:AD (∀id c' x',x'=Cl N idn W id c'->EL (PJ N) W c'->NC N l idn x' true):=fun id c' x' bg bq=>HC.o id c' x' aw bg (au.o c' rfl bq);clear av au HC aw
     (repeat (refine qb ?_;intro yd yb;(first|(refine Xi (a3 _ _ ck.o _) ?_;rintro _ _ ⟨⟨id6,c6,rfl,bc⟩,a6⟩;(have am:=a6.B;have aj:=a6.C;(try simp only[Ab,Aa,Av]at am aj)))|(refine Xi (ao c6 id6 bc _) ?_;rintro _ _ ⟨⟨x7,rfl,b7,⟨id71,n71,c71,id72,n72,c72,rfl⟩⟩,a5⟩;(have be:=a5.B;have bd:=a5.C)))));refine pz ?_
     exact⟨_,rfl,⟨_,true,rfl,c5.o _ _ _ (b7 rfl) bc,_,_,_,_,_,_,rfl⟩,Xs⟩
    |false=>
     rw[aw]at ao;have a7:AD (∀j,j<i+1->iL N l j=false):=av.o aw;clear av au HC aw
     (repeat (refine qb ?_;intro yd yb;(first|(refine Xi (a3 _ _ ck.o _) ?_;rintro _ _ ⟨⟨id6,c6,rfl,bc⟩,a6⟩;(have am:=a6.B;have aj:=a6.C;(try simp only[Ab,Aa,Av]at am aj)))|(refine Xi (ao c6 id6 bc _) ?_;rintro _ _ ⟨⟨x7,rfl,b7,⟨id71,n71,c71,id72,n72,c72,rfl⟩⟩,a5⟩;(have be:=a5.B;have bd:=a5.C)))));refine pz ?_
     refine⟨Z l-(i+1),AA,i+1,?_⟩
     exact qh a7
 ·have hil:i=Z l:=AA;subst hil
  refine pz ?_
  exact⟨_,rfl,⟨_,false,rfl,.inl ⟨rfl,hA.o⟩,_,_,_,_,_,_,rfl⟩,Xs⟩
def EA (T:List AB->Option (List AB)->Prop)(N:List Tx)(l:List AB)(idn:Nat)(x:AV)(b:Bool):Prop:=oY x/\∃o,T l o/\b=o.isSome/\∀l',o=some l'->∃id c',x=Cl N idn l' id c'/\EL (PI N) l' c'
def KQ (N:List Tx)(l:List AB)(o:Option (List AB)):Prop:=∃M,Em N l M/\
 ((Z (Iy N (Hw (Z N) M (Z N)) l)=Z l/\o=none)\/(Z (Iy N (Hw (Z N) M (Z N)) l)≠Z l/\
  ((E4 N l (Iy N (Hw (Z N) M (Z N)) l)=false/\o=none)\/(E4 N l (Iy N (Hw (Z N) M (Z N)) l)=true/\o=some (Iy N (Hw (Z N) M (Z N)) l)))))
def KS (N:List Tx)(l:List AB)(o:Option (List AB)):Prop:=∃M,Em N l M/\
 ((o=none/\yN N (Hw (Z N) M (Z N)) l (Z l))\/∃i k y a,o=some (C7 i (uL N l y k a.B) l)/\l[i]?=some y/\y.o=false/\y.A[k]?=some a/\dG N (Hw (Z N) M (Z N)) l i k=true/\yN N (Hw (Z N) M (Z N)) l i/\∀k',k'<k->dG N (Hw (Z N) M (Z N)) l i k'=false)
def LC (N:List Tx)(l:List AB)(o:Option (List AB)):Prop:=
 (o=none/\∀i,i<Z l->iL N l i=false)\/∃i y e,o=some (C7 i [Eb y.h.B e] l)/\l[i]?=some y/\Ur y=true/\Ib l i y.h.B=some e/\iL N l i=true/\∀j,j<i->iL N l j=false
theorem MY.stp {N l idn x b}(h:MY N l idn x b)(ht:oY x):EA (KQ N) N l idn x b:=by
 refine⟨ht,?_⟩;obtain⟨M,hM,h⟩:=h;rcases h with⟨h1,rfl⟩|⟨h1,h2,h3⟩
 ·exact⟨none,⟨M,hM,.inl ⟨h1,rfl⟩⟩,rfl,fun l' e=>by cases e⟩
 ·cases hb:E4 N l (Iy N (Hw (Z N) M (Z N)) l)with
  |false=>exact⟨none,⟨M,hM,.inr ⟨h1,.inl ⟨hb,rfl⟩⟩⟩,by rw[h2,hb];rfl,fun l' e=>by cases e⟩
  |true=>exact⟨_,⟨M,hM,.inr ⟨h1,.inr ⟨hb,rfl⟩⟩⟩,by rw[h2,hb];rfl,fun l' e=>by cases e;exact h3 (by rw[h2,hb])⟩
theorem LQ.stp {N l idn x b}(h:LQ N l idn x b)(ht:oY x):EA (KS N) N l idn x b:=by
 refine⟨ht,?_⟩;obtain⟨M,hM,⟨rfl,h⟩|⟨rfl,i,k,y,a,h1,h2,h3,h4,h5,h6,id,c',h7,h8⟩⟩:=h
 ·exact⟨none,⟨M,hM,.inl ⟨rfl,h⟩⟩,rfl,fun l' e=>by cases e⟩
 ·exact⟨_,⟨M,hM,.inr ⟨i,k,y,a,rfl,h1,h2,h3,h4,h5,h6⟩⟩,rfl,fun l' e=>by cases e;exact⟨id,c',h7,h8⟩⟩
theorem NC.stp {N l idn x b}(h:NC N l idn x b)(ht:oY x):EA (LC N) N l idn x b:=by
 refine⟨ht,?_⟩;rcases h with⟨rfl,h⟩|⟨rfl,i,y,e,h1,h2,h3,h4,h5,id,c',h7,h8⟩
 ·exact⟨none,.inl ⟨rfl,h⟩,rfl,fun l' e=>by cases e⟩
 ·exact⟨_,.inr ⟨i,y,e,rfl,h1,h2,h3,h4,h5⟩,rfl,fun l' e=>by cases e;exact⟨id,c',h7,h8⟩⟩
theorem KQ.rt {N ar l l'}(h:KQ N l (some l'))(hR:BH N ar l):BH N ar l':=by
 obtain⟨M,-,⟨-,h⟩|⟨-,⟨-,h⟩|⟨-,h⟩⟩⟩:=h
 ·cases h
 ·cases h
 ·cases h;exact hR.sub (fun x hx=>(BV.1 hx).1) (BO (KE _ _) hR.gl.len)
theorem fV {N U l i k y a}(h1:l[i]?=some y)(h2:y.A[k]?=some a)(h:dG N U l i k=true):E4 N l (C7 i (uL N l y k a.B) l)=true:=by
 unfold dG at h;rw[h1]at h;dsimp only at h;rw[h2]at h;simp only[BX]at h;exact h.2.2.2
theorem vX {N l i y e}(h1:l[i]?=some y)(h2:Ib l i y.h.B=some e)(h:iL N l i=true):E4 N l (C7 i [Eb y.h.B e] l)=true:=by
 unfold iL at h;rw[h1]at h;dsimp only at h;rw[h2]at h;simp only[BX]at h;exact h.2
theorem KS.rt {N ar l l'}(h:KS N l (some l'))(hR:BH N ar l):BH N ar l':=by
 obtain⟨M,-,⟨h,-⟩|⟨i,k,y,a,h,h1,h2,h3,h4,-⟩⟩:=h
 ·cases h
 ·cases h;exact TK hR (UI hR (BD h1) h2 h3) i (fV h1 h3 h4)
theorem LC.rt {N ar l l'}(h:LC N l (some l'))(hR:BH N ar l):BH N ar l':=by
 rcases h with⟨h,-⟩|⟨i,y,e,h,h1,h2,h3,h4,-⟩
 ·cases h
 ·cases h;exact TK hR (SN hR h1 h2 h3) i (vX h1 h3 h4)
theorem zT (N ar l cs idn idi)(hR:BH N ar l)(hE:EL (PI N) l cs)(σ):
  AF Tryz.prog 73 [Cl N idn l idi cs,sc (.int .u8 (115:UInt8).toNat)] σ fun r σ'=>(∃x b,r=tp [x,sc (.bool b)]/\EA (KQ N) N l idn x b)/\AE σ σ':=by
 have hS:=fun σ=>Mr N l cs idn idi hR.gl hE σ;have e1:((((115:UInt8).toNat:Nat):Int)==115)=true:=rfl;refine Z9 38 [.cell 4 62,.tmp 5] Tryz.func73 ?_
 refine qb ?_;intro yd yb;refine Xi (hS _) ?_;rintro _ _ ⟨⟨x1,b1,rfl,ac,ad⟩,ae⟩;(have HX:AD _:=ac;have HT:AD (oY x1):=ad;obtain⟨t1,t2,t3,t4,t5,t6,rfl⟩:=ad;clear ac;have ab:=ae.B;have aa:=ae.C;(try simp only[Aa]at ab aa));refine pz ?_
 exact⟨_,rfl,⟨_,b1,rfl,MY.stp HX.o HT.o⟩,Xs⟩
theorem zS (N ar l cs idn idi)(hR:BH N ar l)(hE:EL (PI N) l cs)(σ):
  AF Tryz.prog 73 [Cl N idn l idi cs,sc (.int .u8 (117:UInt8).toNat)] σ fun r σ'=>(∃x b,r=tp [x,sc (.bool b)]/\EA (KS N) N l idn x b)/\AE σ σ':=by
 have hS:=fun σ=>Qu N ar l cs idn idi hR hE σ;have e1:((((117:UInt8).toNat:Nat):Int)==115)=false:=rfl;have e2:((((117:UInt8).toNat:Nat):Int)==97)=false:=rfl;have e3:((((117:UInt8).toNat:Nat):Int)==114)=false:=rfl;have e4:((((117:UInt8).toNat:Nat):Int)==117)=true:=rfl;refine Z9 38 [.cell 4 62,.tmp 5] Tryz.func73 ?_
 refine qb ?_;intro yd yb;refine Xi (hS _) ?_;rintro _ _ ⟨⟨x1,b1,rfl,ac,ad⟩,ae⟩;(have HX:AD _:=ac;have HT:AD (oY x1):=ad;obtain⟨t1,t2,t3,t4,t5,t6,rfl⟩:=ad;clear ac;have ab:=ae.B;have aa:=ae.C;(try simp only[Aa]at ab aa));refine pz ?_
 exact⟨_,rfl,⟨_,b1,rfl,LQ.stp HX.o HT.o⟩,Xs⟩
theorem zV (N ar l cs idn idi)(hR:BH N ar l)(hE:EL (PI N) l cs)(σ):
  AF Tryz.prog 73 [Cl N idn l idi cs,sc (.int .u8 (108:UInt8).toNat)] σ fun r σ'=>(∃x b,r=tp [x,sc (.bool b)]/\EA (LC N) N l idn x b)/\AE σ σ':=by
 have hS:=fun σ=>Ud N ar l cs idn idi hR hE σ;have e1:((((108:UInt8).toNat:Nat):Int)==115)=false:=rfl;have e2:((((108:UInt8).toNat:Nat):Int)==97)=false:=rfl;have e3:((((108:UInt8).toNat:Nat):Int)==114)=false:=rfl;have e4:((((108:UInt8).toNat:Nat):Int)==117)=false:=rfl;have e5:((((108:UInt8).toNat:Nat):Int)==108)=true:=rfl;refine Z9 38 [.cell 4 62,.tmp 5] Tryz.func73 ?_
 refine qb ?_;intro yd yb;refine Xi (hS _) ?_;rintro _ _ ⟨⟨x1,b1,rfl,ac,ad⟩,ae⟩;(have HX:AD _:=ac;have HT:AD (oY x1):=ad;obtain⟨t1,t2,t3,t4,t5,t6,rfl⟩:=ad;clear ac;have ab:=ae.B;have aa:=ae.C;(try simp only[Aa]at ab aa));refine pz ?_
 exact⟨_,rfl,⟨_,b1,rfl,NC.stp HX.o HT.o⟩,Xs⟩
end Go.Proofs.YtmoeoppbmhfbpabGreatDoorI
