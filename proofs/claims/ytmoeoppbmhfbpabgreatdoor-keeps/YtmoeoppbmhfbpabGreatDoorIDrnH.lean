import Derived.Test.YtmoeoppbmhfbpabGreatDoorIMdlA
import Derived.Test.YtmoeoppbmhfbpabGreatDoorIDrnD
import Derived.Test.YtmoeoppbmhfbpabGreatDoorILawA
import Derived.Test.YtmoeoppbmhfbpabGreatDoorIRefH
import Derived.Test.YtmoeoppbmhfbpabGreatDoorIPrtF
import Derived.Test.YtmoeoppbmhfbpabGreatDoorIShelf
import Derived.Test.YtmoeoppbmhfbpabGreatDoorIOptC
import Derived.Test.YtmoeoppbmhfbpabGreatDoorISpaE
import Derived.Test.YtmoeoppbmhfbpabGreatDoorIDocI
import Derived.Test.YtmoeoppbmhfbpabGreatDoorIOpuB
set_option maxHeartbeats 64000000
set_option maxRecDepth 100000
set_option linter.all false
open List renaming length->Z
namespace Go.Proofs.YtmoeoppbmhfbpabGreatDoorI
open Go.Abs
def aD (a:AC):AB:=⟨false,a,[]⟩
def IL (t:Tx)(a:AC):Prop:=t=A3 a/\tO a/\D3 a/\a.nt=false/\fH a=true
theorem sK (a):Ce (aD a)=A3 a:=by simp[Ce,D6,aD]
theorem GD {a}:fH a=true↔∀t∈a.A,Ac t=false:=by
 unfold fH I5;rw[EK];constructor
 ·intro h t ht;have:=h (Ap t) (AO.2 ⟨t,ht,rfl⟩);rw[Bs]at this;simpa using this
 ·intro h x hx;obtain⟨t,ht,rfl⟩:=AO.1 hx;rw[Bs];simpa using h t ht
theorem lE {x}(ho:x.o=false)(hb:x.A=[]):Dx x=fH x.h:=by
 rw[KL,GD];unfold Dx oF Te Iu Af;rw[hb,ho];simp
theorem gy {t l r x}(hp:Bv 16 (t++[46])= .got l r)(hl:l=[x])(ho:x.o=false)(hb:x.A=[])(hs:Dx x=true):IL t x.h:=by
 subst hl;obtain⟨h1,-,-,h4⟩:=Ey _ _ _ _ hp;have hg:=Ky _ _ _ _ hp x (by simp);have hw:=h4 x (by simp);have ht:t=Ce x:=by
  simp only[Cr,DK,MH,FA]at h1;exact (List.append_inj' h1 rfl).1
 rw[lE ho hb]at hs;refine⟨?_,(hg.rule ho).1,(hw.2.2 ho).1,(hg.rule ho).2.1,hs⟩;rw[ht];unfold Ce D6;rw[hb,ho];simp
theorem dO {t a}(h:IL t a):Bv 16 (t++[46])= .got [aD a] []:=by
 obtain⟨h1,h2,h3,h4,h5⟩:=h
 have:=Sy 16 [aD a] (fun x hx=>by
  have:x=aD a:=by simpa using hx
  subst this
  exact⟨h2.nm,(fun e=>by cases e),fun _=>⟨h2,h4,by simp[aD],fun b hb=>by cases hb⟩⟩) (by simp)
 simp only[Cr,DK,MH,FA,sK]at this;rw[h1];exact this
theorem nE {l m:Tx}(h:m≠[]):(l++m).getLast?=m.getLast?:=by
 rw[List.getLast?_append];cases e:m.getLast? with
 |none=>exact absurd (List.getLast?_eq_none_iff.1 e) h
 |some _=>rfl
theorem gU:∀(s:Tx) (d:Bool) (cur:Tx),(cur++s=(B7 46 s d cur).flatMap (·++[46]))\/∃ini las,B7 46 s d cur=ini++[las]/\cur++s=ini.flatMap (·++[46])++las/\las≠[]
 |[],d,cur=>by
  unfold B7;by_cases h:cur=[]
  ·rw[if_pos h];subst h;exact .inl rfl
  ·rw[if_neg h];exact .inr ⟨[],cur,rfl,by simp,h⟩
 |b::r,d,cur=>by
  unfold B7;simp only[];generalize (if ((b.toNat:Int)==41)=true then false else _)=d2;split
  ·rename_i hc;have hb:b=46:=by
    have:=hc.1;simp only[EH]at this;exact KF.1 (by show b.toNat=46;omega)
   subst hb;rcases gU r d2 []with h|⟨ini,las,h1,h2,h3⟩
   ·refine .inl ?_;rw[DK,<-h];simp
   ·refine .inr ⟨cur::ini,las,by rw[h1];rfl,?_,h3⟩;rw[DK,CX,CX,<-h2];simp
  ·rcases gU r d2 (cur++[b])with h|⟨ini,las,h1,h2,h3⟩
   ·exact .inl (by rw[<-h];simp)
   ·exact .inr ⟨ini,las,h1,by rw[<-h2];simp,h3⟩
theorem nr {s F}(hs:s≠[])(hl:Z s<=400)(hF:Z (Gq s 46)=Z F/\∀(i:Nat) (t:Tx) (a:AC),(Gq s 46)[i]?=some t->F[i]?=some a->IL t a)(he:s.getLast?=some 46):Dr 400 s= .got F []:=by
 have aa:∀{P:List Tx} {F:List AC},Z P=Z F->(∀(i:Nat) (t:Tx) (a:AC),P[i]?=some t->F[i]?=some a->IL t a)->P=F.map A3/\∀a∈F,IL (A3 a) a:=fun {P F} h1 h2=>by
  have e:P=F.map A3:=by
   refine FS fun i=>?_;rw[EY];by_cases hi:i<Z P
   ·rw[AJ hi,AJ (show i<Z F by omega)];exact congrArg some (h2 i _ _ (AJ hi) (AJ (show i<Z F by omega))).1
   ·rw[FK AA,FK AA];rfl
  refine⟨e,fun a ha=>?_⟩;obtain⟨i,hi⟩:=CO ha;have:=h2 i (A3 a) a (by rw[e,EY,hi];rfl) hi;exact this
 obtain⟨e1,e2⟩:=aa hF.1 hF.2;rcases gU s false []with h|⟨ini,las,h1,h2,h3⟩
 ·rw[FM]at h;have h:s=(Gq s 46).flatMap (·++[46]):=h;rw[e1,LF]at h;have hlen:Z F<=400:=by
   have:Z F<=Z s:=by
    rw[h];clear h e1 e2 hF he hs hl;induction F with
    |nil=>simp
    |cons a F ih=>rw[DK,AX];simp only[AX,BQ,CP];omega
   omega
  have:=dD 400 F (fun a ha=>⟨(e2 a ha).2.1,(e2 a ha).2.2.2.1,(e2 a ha).2.2.2.2⟩) hlen;rw[<-h]at this;exact this
 ·exfalso;have hm:las∈Gq s 46:=by
   show las∈B7 46 s false [];rw[h1];simp
  rw[e1]at hm;obtain⟨a,ha,e⟩:=AO.1 hm;have hd:=ZY (e2 a ha).2.2.1;rw[FM]at h2;rw[h2,nE h3]at he;rw[e]at hd;exact hd (List.mem_of_getLast? he)
theorem dX {s F r}(h:Dr 400 s= .got F r):Gq s 46=F.map A3/\(∀a∈F,IL (A3 a) a)/\(s≠[]->s.getLast?=some 46):=by
 obtain⟨-,-,h3,h4⟩:=Eg _ _ _ _ h;have hg:=Sz _ _ _ _ h;have e:s=Cr (F.map aD):=by
  rw[h3];unfold Cr;rw[LF];congr 1;funext a;rw[sK]
 refine⟨?_,fun a ha=>⟨rfl,hg a ha,(h4 a ha).1,(h4 a ha).2.1,(h4 a ha).2.2⟩,fun hs=>?_⟩
 ·rw[e,Tc _ fun x hx=>by
   obtain⟨a,ha,rfl⟩:=AO.1 hx
   exact⟨(h4 a ha).1.1,(fun e=>by cases e),fun _=>⟨(h4 a ha).1,(h4 a ha).2.1,by simp[aD],fun b hb=>by cases hb⟩⟩,BS]
  exact CK fun a _=>sK a
 ·rw[h3]at hs⊢;clear h h3 h4 hg e;induction F with
  |nil=>exact absurd rfl hs
  |cons a F ih=>
   rw[DK];by_cases hF:F.flatMap (fun a=>A3 a++[46])=[]
   ·rw[hF];simp
   ·rw[nE hF];exact ih hF
def aG (s:Tx)(A:List AC)(ok:Bool):Prop:=(ok=true/\Dr 400 s= .got A [])\/(ok=false/\∃e,Dr 400 s= .bad e)
theorem UM (s):(∃e,Dr 400 s= .bad e)\/∃F,Dr 400 s= .got F []:=by
 cases h:Dr 400 s with
 |bad e=>exact .inl ⟨e,rfl⟩
 |got F r=>exact .inr ⟨F,by rw[(Eg _ _ _ _ h).1]⟩
theorem lu {s t}(hm:t∈Gq s 46)(hn:∀a,¬IL t a):∃e,Dr 400 s= .bad e:=by
 rcases UM s with h|⟨F,h⟩
 ·exact h
 ·obtain⟨h1,h2,-⟩:=dX h;rw[h1]at hm;obtain⟨a,ha,rfl⟩:=AO.1 hm;exact absurd (h2 a ha) (hn a)
theorem lJ (s0)(hs:Z s0<=400)(z):AF Tryz.prog 65 [str s0] z fun r z'=>∃A ida cA ok,r=tp [sl ida (Z A) cA,sc (.bool ok)]/\aG s0 A ok/\EL Bo A cA/\AE z z':=by
 have b4:({data:=#[]}:ByteArray)=bs []:=rfl;have bm:({data:=#[46]}:ByteArray)=bs [46]:=rfl;by_cases h0:s0=[]
 ·subst h0;have HR:AD (aG [] [] true):=.inl ⟨rfl,Jm 400⟩;have hb:(([]:Tx)==[])=true:=rfl;clear hs;refine Z9 70 [.tmp 2,.tmp 3] Tryz.func65 ?_
  refine p6 ?_
  exact⟨_,rfl,[],1,[],true,rfl,HR.o,rfl,AE.refl _⟩
 have bc:(s0==[])=false:=by simpa using h0
 have av:=fun z=>Nw s0 46 AA z;have bl:=Lz (s:=s0) (c:=46);have HP:AD (∀t∈Gq s0 46,Z t<=Z s0):=fun t ht=>Ly ht;have a4:AD (∀t∈Gq s0 46,(∀a,¬IL t a)->aG s0 [] false):=fun t ht hn=>.inr ⟨rfl,lu ht hn⟩
 have ba:AD (∀F:List AC,Z (Gq s0 46)=Z F->(∀(i:Nat) (t:Tx) (a:AC),(Gq s0 46)[i]?=some t->F[i]?=some a->IL t a)->(s0.getLast?=some 46->aG s0 F true)/\(s0.getLast?≠some 46->aG s0 F false)):=fun F h1 h2=>⟨fun h=>.inl ⟨rfl,nr h0 hs ⟨h1,h2⟩ h⟩,fun h=>.inr ⟨rfl,by
  rcases UM s0 with g|⟨F',g⟩
  ·exact g
  ·exact absurd ((dX g).2.2 h0) h⟩⟩
 generalize Gq s0 46=C at av bl HP a4 ba;refine Z9 70 [.tmp 2,.tmp 3] Tryz.func65 ?_
 repeat' first|refine Z1 ?_|refine Z8 fun yd yb=>?_|refine Z4 ?_;clear yb yd|refine Z2 ?_ ?_<;>intro h aa<;>try exact Xp|refine Z5 ?_;refine Xi (av _) ?_;rintro _ _ ⟨idc,rfl,br⟩|refine Z7 ?_|exact Zt|apply yb.o;clear yb yd
 refine Ae (fun m s z'=>∃(i i3:Nat) (A:List AC) (xs:List AV),m=Z C-i/\i<=Z C/\s 0=str s0/\s 4=sl i3 i xs/\s 5=sl idc (Z C) (C.map str)/\s 6=ic i/\AE z z'/\Own z z' i3 i/\Z xs=i*3/\AD (Z A=i/\EL Bo A xs/\∀(j:Nat) (t:Tx) (a:AC),C[j]?=some t->A[j]?=some a->IL t a)) (Z C)
  ⟨0,1,[],[],AA,AA,by simp[upd,AM],AG,AG,AG,br,Own.nil _ _,rfl,rfl,rfl,fun j t a h1 h2=>by simp at h2⟩ ?_
 clear av;rintro m s z' ⟨i,i3,A,xs,rfl,hi,h0,h4,h5,h6,hK,hO,b1,hA⟩;have b0:=hK.B;by_cases a8:i<Z C
 ·have ah:=AJ a8;have bi:=A7 a8;have hm:=AT a8;generalize C[i]=t at ah bi hm;have b2:=HP.o t hm;have ak:=fun z=>Pz (t++[46]) (by simp;omega) z;cases ai:Bv 16 (t++[46])with
  |bad e=>
   have ao:=F1 (t++[46]);rw[ai]at ao;have HR:AD (aG s0 [] false):=a4.o t hm fun a h=>by rw[dO h]at ai;cases ai
   rw[ao]at ak;have bn:((((Z (t++[46])-Z e:Nat):Int)) != -1)=true:=by first|(simp;done)|(simp;omega)
   clear ao ai hA;generalize (Z (t++[46])-Z e)=pv at ak bn
   repeat' first|refine Z1 ?_|refine Z8 fun yd yb=>?_|refine Z4 ?_;clear yb yd|refine Z2 ?_ ?_<;>intro h aa<;>try exact Xp|refine Z5 ?_;refine Xi (ak _) ?_;rintro _ _ ⟨rfl,ae⟩|refine Z7 ?_|exact Zt|apply yb.o;clear yb yd
   exact⟨_,rfl,[],1,[],false,rfl,HR.o,rfl,hK.trans ae⟩
  |got l r=>
   have ao:=F1 (t++[46]);rw[ai]at ao;rw[ao]at ak;obtain⟨g1,g2,g3,g4⟩:=Dd (by simp;omega) ai;have hI:=fun z=>Jr (t++[46]) (by simp;omega) (by have:=g1.1;omega) g1.2 z;rw[g2]at hI;have b6:((-1:Int) != -1)=false:=rfl;have HF:AD (∀x,l=[x]->x.o=false->x.A=[]->Dx x=true->IL t x.h):=fun x h1 h2 h3 h4=>gy ai h1 h2 h3 h4;have HX:AD (∀a,IL t a->l=[aD a]):=fun a h=>by rw[dO h]at ai;cases ai;rfl
   have a6:AD (∀x∈l,De x):=g4;clear ao ai g1 g2;by_cases a9:Z l=1
   ·obtain⟨x,rfl⟩:=List.length_eq_one_iff.1 a9;have az:x.fits:=by
     have hw:=a6.o x (by simp);cases ho:x.o with
     |true=>
      obtain⟨w1,w2,w3⟩:=hw.2.1 ho;exact⟨by rw[w3];simp,by rw[w2];simp,fun a ha=>by rw[w3]at ha;cases ha⟩
     |false=>
      obtain⟨w1,w2,w3,w4⟩:=hw.2.2 ho;exact⟨AA,by have:=w1.2.2.1;omega,fun a ha=>by have:=(w4 a ha).2.2.1;omega⟩
    have bq:(((1:Nat):Int) !=1)=false:=rfl;by_cases ad:x.o=false/\x.A=[]/\Dx x=true
    ·obtain⟨an,am,a5⟩:=ad;have bd:=HF.o x rfl an am a5;have aw:=fun c (hc:AN x c) z=>Sq x c hc az z;rw[a5]at aw
     have HN:AD (∀ih,Z (A++[x.h])=i+1/\EL Bo (A++[x.h]) (xs++[sc (.bool x.h.nt),str x.h.B,sl ih (Z x.h.A) (x.h.A.map str)])/\∀(j:Nat) (t:Tx) (a:AC),C[j]?=some t->(A++[x.h])[j]?=some a->IL t a):=fun ih=>⟨by rw[AX,hA.o.1];rfl,hA.o.2.1.append (EL.single ⟨ih,rfl⟩),fun j t' a h1 h2=>by
      have bu:=hA.o.1;rcases Nat.lt_trichotomy j (Z A) with h|h|h
      ·rw[OY h]at h2;exact hA.o.2.2 j t' a h1 h2
      ·subst h;rw[KU (AR _)]at h2;simp at h2;rw[bu,ah]at h1;cases h1;rw[<-h2];exact bd
      ·rw[FK (by simp;omega)]at h2
       cases h2⟩
     clear hA bd HF HX a6 ah
     repeat' first|refine Z1 ?_|refine Z8 fun yd yb=>?_|refine Z4 ?_;clear yb yd|refine Z2 ?_ ?_<;>intro h aa<;>try exact Xp|refine Z6 ?_;intro idn zn b8 ca bw bf bv be|(refine Z5 ?_;first|(refine Xi (ak _) ?_;rintro _ _ ⟨rfl,ae⟩)|(refine Xi (hI _) ?_;rintro _ _ ⟨idl,ics,rfl,af,aj⟩;(obtain⟨ih,id,b,r9,a0,au⟩:=Ds af (show [x][0]?=some x from rfl);have ap:=EL.length Cj af;have ab:=aw _ (AN.of (ih:=ih) (id:=id) a0);unfold Bm at ab;simp only[an,am]at au ab))|(refine Xi (ab _) ?_;rintro _ _ ⟨rfl,a7⟩;(have b9:=((hK.trans ae).trans aj).trans a7;have b7:=Own.keep (Own.keep (Own.keep hO ae) aj) a7)))|refine Z7 ?_|exact Zt|apply yb.o;clear yb yd
     refine⟨Z C-(i+1),AA,i+1,idn,A++[x.h],xs++[sc (.bool x.h.nt),str x.h.B,sl ih (Z x.h.A) (x.h.A.map str)],?_⟩;have bz:AD _:=HN.o ih
     exact qh bz
    ·have HR:AD (aG s0 [] false):=a4.o t hm fun a h=>by
      have e:=HX.o a h;have e:x=aD a:=by simpa using e
      subst e;exact ad ⟨rfl,rfl,by rw[lE rfl rfl];exact h.2.2.2.2⟩
     have aw:=fun c (hc:AN x c) z=>Sq x c hc az z;clear hA HF HX a6 ah;cases an:x.o with
     |true=>
      clear ad aw
      repeat' first|refine Z1 ?_|refine Z8 fun yd yb=>?_|refine Z4 ?_;clear yb yd|refine Z2 ?_ ?_<;>intro h aa<;>try exact Xp|(refine Z5 ?_;first|(refine Xi (ak _) ?_;rintro _ _ ⟨rfl,ae⟩)|(refine Xi (hI _) ?_;rintro _ _ ⟨idl,ics,rfl,af,aj⟩;(obtain⟨ih,id,b,r9,a0,au⟩:=Ds af (show [x][0]?=some x from rfl);have ap:=EL.length Cj af;simp only[an]at au)))|refine Z7 ?_|exact Zt|apply yb.o;clear yb yd
      exact⟨_,rfl,[],1,[],false,rfl,HR.o,rfl,(hK.trans ae).trans aj⟩
     |false=>
      by_cases am:x.A=[]
      ·have a5:Dx x=false:=by
        cases h:Dx x with
        |false=>rfl
        |true=>exact absurd ⟨an,am,h⟩ ad
       rw[a5]at aw;clear ad
       repeat' first|refine Z1 ?_|refine Z8 fun yd yb=>?_|refine Z4 ?_;clear yb yd|refine Z2 ?_ ?_<;>intro h aa<;>try exact Xp|(refine Z5 ?_;first|(refine Xi (ak _) ?_;rintro _ _ ⟨rfl,ae⟩)|(refine Xi (hI _) ?_;rintro _ _ ⟨idl,ics,rfl,af,aj⟩;(obtain⟨ih,id,b,r9,a0,au⟩:=Ds af (show [x][0]?=some x from rfl);have ap:=EL.length Cj af;have ab:=aw _ (AN.of (ih:=ih) (id:=id) a0);unfold Bm at ab;simp only[an,am]at au ab))|(refine Xi (ab _) ?_;rintro _ _ ⟨rfl,a7⟩))|refine Z7 ?_|exact Zt|apply yb.o;clear yb yd
       exact⟨_,rfl,[],1,[],false,rfl,HR.o,rfl,((hK.trans ae).trans aj).trans a7⟩
      ·have b5:decide ((Z x.A:Int)>0)=true:=by simp;exact JQ.2 am
       have bo:decide ((0:Int)<(Z x.A:Int))=true:=by simp;exact JQ.2 am
       clear ad aw am
       repeat' first|refine Z1 ?_|refine Z8 fun yd yb=>?_|refine Z4 ?_;clear yb yd|refine Z2 ?_ ?_<;>intro h aa<;>try exact Xp|(refine Z5 ?_;first|(refine Xi (ak _) ?_;rintro _ _ ⟨rfl,ae⟩)|(refine Xi (hI _) ?_;rintro _ _ ⟨idl,ics,rfl,af,aj⟩;(obtain⟨ih,id,b,r9,a0,au⟩:=Ds af (show [x][0]?=some x from rfl);have ap:=EL.length Cj af;simp only[an]at au)))|refine Z7 ?_|exact Zt|apply yb.o;clear yb yd
       exact⟨_,rfl,[],1,[],false,rfl,HR.o,rfl,(hK.trans ae).trans aj⟩
   ·have HR:AD (aG s0 [] false):=a4.o t hm fun a h=>by
     rw[HX.o a h]at a9;exact a9 rfl
    have bq:((Z l:Int) !=1)=true:=by simp;omega
    clear hA HF HX a6 ah
    repeat' first|refine Z1 ?_|refine Z8 fun yd yb=>?_|refine Z4 ?_;clear yb yd|refine Z2 ?_ ?_<;>intro h aa<;>try exact Xp|(refine Z5 ?_;first|(refine Xi (ak _) ?_;rintro _ _ ⟨rfl,ae⟩)|(refine Xi (hI _) ?_;rintro _ _ ⟨idl,ics,rfl,af,aj⟩))|refine Z7 ?_|exact Zt|apply yb.o;clear yb yd
    exact⟨_,rfl,[],1,[],false,rfl,HR.o,rfl,(hK.trans ae).trans aj⟩
 ·have hil:i=Z C:=AA;have ay:=ba.o A (by have:=hA.o.1;omega) hA.o.2.2;have bg:AD (Z A=Z C):=by have:=hA.o.1;rw[AD];omega
  have b3:0<Z s0:=JQ.2 (by intro e;rw[e]at bc;cases bc);have bb:=AJ (show Z s0-1<Z s0 by omega);have ac:s0.getLast?=s0[Z s0-1]?:=List.getLast?_eq_getElem?;rw[bb]at ac;generalize s0[Z s0-1]=lb at bb ac;rw[ac]at ay;have HE:AD (EL Bo A xs):=hA.o.2.1;have bh:((Z s0:Int)-1)=((Z s0-1:Nat):Int):=AA;clear hA a4 ba HP ac;by_cases ax:lb=46
  ·have HR:AD (aG s0 A true):=ay.1 (by rw[ax]);have bp:((lb.toNat:Int)==46)=true:=by rw[ax];rfl
   clear ay ax
   refine p6 ?_
   refine Ay Ag (fun _=>True) [] [0,1,2,3,4,5,6,7,8] [] AH (fun _ _ _ h=>h) ?_;intro yd yb;refine Z7 ?_
   refine zx ?_
   have a3:=bg.o
   first|exact⟨_,rfl,A,i3,xs,true,by rw[a3],HR.o,HE.o,hK⟩|exact⟨_,rfl,A,i3,xs,true,by rw[a3],HR.o,HE.o⟩
  ·have HR:AD (aG s0 A false):=ay.2 (by simpa using ax);have bp:((lb.toNat:Int)==46)=false:=by
    have:¬lb.toNat=46:=fun e=>ax (KF.1 e);simp;omega
   clear ay ax
   refine p6 ?_
   refine Ay Ag (fun _=>True) [] [0,1,2,3,4,5,6,7,8] [] AH (fun _ _ _ h=>h) ?_;intro yd yb;refine Z7 ?_
   refine zx ?_
   have a3:=bg.o
   first|exact⟨_,rfl,A,i3,xs,false,by rw[a3],HR.o,HE.o,hK⟩|exact⟨_,rfl,A,i3,xs,false,by rw[a3],HR.o,HE.o⟩
theorem YL {l}(hr:LN l)(hu:∀x∈l,x.o=false->∀a,a=x.h\/a∈x.A->∀t∈a.A,UT t)(F):∃M,GB l (Ta F) M:=by
 let N:List Tx:=l.flatMap (fun x=>x.h.B::x.A.map (·.B))++F.map (·.B);have hN:∀x∈l,x.h.B∈N/\∀a∈x.A,a.B∈N:=fun x hx=>⟨FZ _ (DR.2 ⟨x,hx,by simp⟩),fun a ha=>FZ _ (DR.2 ⟨x,hx,by simp only[BB,AO];exact .inr ⟨a,ha,rfl⟩⟩)⟩;have hF:∀a∈F,a.B∈N:=fun a ha=>MA _ (AO.2 ⟨a,ha,rfl⟩);have h:=mn hr hN hu (B:=fun k t=>∃a∈F,k=N.idxOf a.B/\t=Cw (C9 [] a)) fun k t ⟨a,ha,e,_⟩=>⟨a.B,hF a ha,e⟩;have e:PD N (fun k t=>∃a∈F,k=N.idxOf a.B/\t=Cw (C9 [] a))=Ta F:=by
  funext p t;refine propext ⟨?_,?_⟩
  ·rintro⟨hp,a,ha,e1,e2⟩;exact⟨a,ha,(Eh hp (hF a ha) e1).symm,e2⟩
  ·rintro⟨a,ha,rfl,e2⟩;exact⟨hF a ha,a,ha,rfl,e2⟩
 rw[e]at h;exact⟨_,h⟩
theorem EG.saf {x}(h:EG x)(ho:x.o=false):iG false x:=fun v hv hm=>by
 have hs:=h.safe;unfold Dx at hs;simp only[GH,EB]at hs;have key:∀b∈Af x,v∈b.A->∃a∈x.A,Ix false a=true/\v∈a.A:=fun b hb aa=>by
  have h1:=hs b hb;unfold oF at h1;simp only[MV,EB]at h1;have h2:Te x v=false:=by simpa using h1 v aa
  unfold Te at h2;rw[hv,ID]at h2;have h3:Iu x v=true:=by simpa using h2
  unfold Iu at h3;simp only[CW,BX,EH]at h3;obtain⟨a,ha,u,hu,hn,rfl⟩:=h3;exact⟨a,ha,by simpa[Ix]using hn,hu⟩
 rcases hm with hm|⟨a,ha,-,ab⟩
 ·exact key x.h (Ar (.inl ⟨ho,rfl⟩)) hm
 ·exact key a (Ar (.inr ha)) ab
theorem wN {c0 a}(ha:a<=600)(hc:c0<=1):∀p,Er c0 a p<=700^p
 |0=>by simp[Er];omega
 |p+1=>by
  have h1:=wN ha hc p;unfold Er;have h2:a*Er c0 a p<=600*700^p:=MJ ha h1;have h3:1<=700^p:=Nat.one_le_pow _ _ AA;rw[Nat.pow_succ];omega
theorem oB {a}(ha:a<=600):∀p,Er 0 a (p+1)<=700^p
 |0=>by simp[Er]
 |p+1=>by
  have h1:=oB ha p;rw[Er];have h2:a*Er 0 a (p+1)<=600*700^p:=MJ ha h1;have h3:1<=700^p:=Nat.one_le_pow _ _ AA;rw[Nat.pow_succ];omega
theorem EG.ruleF {x}(h:EG x)(ho:x.o=false):Qn false 600 x:=by
 have hb:=(h.w.2.2 ho).2.2.1;have ab:x.A.countP (Ix false)<=Z x.A:=List.countP_le_length;have h4:∀q,q<=4->(700:Nat)^q<=240100000000:=fun q hq=>by
  have:(700:Nat)^q<=700^4:=Nat.pow_le_pow_right AA hq;omega
 by_cases aa:∀a∈x.A,Ix false a=true
 ·refine⟨0,x.A.countP (Ix false),⟨h.cl ho,AA,h.saf ho,rfl,.inr aa⟩,fun a ha=>?_⟩;generalize x.A.countP (Ix false)=p at ab
  match p,ab with
  |0,_=>simp[Er]
  |p+1,ab=>
   have h1:=oB ha p;have h2:=h4 p AA;omega
 ·have ac:x.A.countP (Ix false)<Z x.A:=by
   refine Nat.lt_of_le_of_ne ab fun e=>aa ?_;exact List.countP_eq_length.1 e
  refine⟨1,x.A.countP (Ix false),⟨h.cl ho,AA,h.saf ho,rfl,.inl rfl⟩,fun a ha=>?_⟩;have h1:=wN (c0:=1) ha AA (x.A.countP (Ix false));have h2:=h4 (x.A.countP (Ix false)) AA;omega
section
variable {t f:Tx} {n:Int} {l:List AB} {F:List AC} (hK:iH t f n l F)
include hK
theorem fL {x}(hx:x∈l):EG x:=Hs hK.ck x (by rw[(Dd (by have:=hK.tl;omega) hK.par).2.1];exact hx)
theorem TL:RA (Gr (l.flatMap Af++F)) l F:=by
 have aa:=vO hK;refine⟨SF hK,fun x hx ho a ha=>?_,fun x hx ho=>((fL hK hx).w.2.2 ho).2.1,fun x hx ho=>(fL hK hx).saf ho,fun a ha=>?_⟩
 ·have hf:=fL hK hx;obtain⟨w1,w2,w3,w4⟩:=hf.w.2.2 ho;have ab:D3 a:=by
   rcases ha with rfl|ha
   ·exact w1
   ·exact w4 a ha
  have ac:short a:=by
   rcases ha with rfl|ha
   ·exact hf.sh.1
   ·exact hf.sh.2 a ha
  have hc:=aa a (FZ _ (DR.2 ⟨x,hx,by
   rcases ha with rfl|ha
   ·exact Ar (.inl ⟨ho,rfl⟩)
   ·exact Ar (.inr ha)⟩))
  exact⟨oh hK.ck hK.par x hx ho a ha,ab.2.2.1,hc.2,hc.1,ac.1⟩
 ·have hg:=Sz _ _ _ _ hK.fac a ha;obtain⟨h1,h2,h3⟩:=(Eg _ _ _ _ hK.fac).2.2.2 a ha;have hc:=aa a (MA _ ha);refine⟨h2,hg.few,hc.2,hc.1,by have:=hg.nm.2;omega,fun w hw=>⟨QA (P3 (T:=DT) W9 _ _ _ _ hK.fac a ha w hw) (h1.2.2.2 w hw) ?_ (P3 (T:=VT) (fun _ _ _ h=>mE h) _ _ _ _ hK.fac a ha w hw),GD.1 h3 w hw⟩⟩;rcases hg.tm w hw with⟨b,rfl,-⟩|rfl|⟨b,r,rfl,-,-,hr⟩
  ·simp
  ·simp
  ·simp;omega
theorem ZM {cF}(hE:EL Bo F cF):E6 F cF/\Z F<=400:=by
 have hl:=(Eg _ _ _ _ hK.fac).2.1;have hf:=TL hK;refine⟨⟨hE,AA,fun a ha t ht=>((hf.fac a ha).tm t ht).2,fun a ha=>gY ((Eg _ _ _ _ hK.fac).2.2.2 a ha).1 ⟨(hf.fac a ha).pl,by have:=(hf.fac a ha).le;omega,fun t ht=>((hf.fac a ha).tm t ht).1.2.2.1⟩⟩,hl⟩
theorem XV {A k ok}{N:Nat}(hN:(N:Int)=n)(hm:NN l F N A k ok):(ok=false->pB l F n [] 0 9)/\(ok=true->pB l F n (kB (fun p=>Hm (Lf (A.map H5) p)) l) k 0/\(∀a∈A,Gf (Gr (l.flatMap Af++F)) a)/\A.Nodup/\Z A<=1000):=by
 have hf:=TL hK;obtain⟨M,hM⟩:=YL hf.rg (fun x hx ho a ha=>(hf.ut x hx ho a ha).1) F;obtain⟨A0,h0,h⟩:=hm;obtain⟨s0,e0⟩:=WQ hf hM h0;have af:=h0.len;have ae:=(Eg _ _ _ _ hK.fac).2.1;have ac:=hK.n1;rcases h with⟨rfl,hc,hl,rfl⟩|⟨rfl,rfl,s,A1,hs,hc,ab⟩
 ·have aa:=hc.stg hf hM s0;refine⟨fun h=>(by cases h),fun _=>⟨⟨M,A0.map H5,A.map H5,hM,e0,.inr ⟨XQ hf hM aa,?_,?_,rfl,rfl⟩⟩,aa.gf,aa.nd,AA⟩⟩
  ·rw[BP,BP];omega
  ·rw[BP,BP]
 ·obtain⟨L,hL,ad⟩:=j8 hf hM (hc.stg hf hM s0) ab;refine⟨fun _=>⟨M,A0.map H5,L,hM,e0,.inl ⟨hL,?_,rfl,rfl,rfl⟩⟩,fun h=>(by cases h)⟩;rw[BP];omega
end
theorem WZ {ar A}(hg:∀a∈A,Gf ar a)(p):Z ((Hm (Lf (A.map H5) p)).flatMap (Gv p))<=Z A*10000:=by
 have key:∀L:List Cc,(∀t∈L,Z (Gv p t)<=10000)->Z (L.flatMap (Gv p))<=Z L*10000:=fun L=>by
  induction L with
  |nil=>intro _;simp
  |cons t L ih=>
   intro h;have h1:=h t (by simp);have h2:=ih fun u hu=>h u (by simp[hu]);rw[DK,AX,BQ];omega
 have h1:=key (Hm (Lf (A.map H5) p)) fun t ht=>by
  have:=CM.1 ((Ht _).subset ht);obtain⟨a,ha,e⟩:=AO.1 this;obtain⟨e1,e2⟩:=IT e;have aa:=hg a ha;have e3:=wK aa aa.ps;rw[e1]at e3;have e4:(H5 a).2=t:=e2;rw[<-e4,<-e3];have h2:=Mo [] a.A 0 fun t ht=>(aa.tm t ht).1.2.2.1;have h3:=aa.le;have h4:=aa.pl;unfold Da;rw[if_neg (by simp[aa.nt])];simp only[AX,CP,BQ];omega
 have h2:=(Ht (Lf (A.map H5) p)).length_eq;have h3:Z (Lf (A.map H5) p)<=Z A:=by
  unfold Lf;rw[BP];have:=KE (fun y:PT=>y.1==p) (A.map H5);rw[BP]at this;exact this
 have:=FU 10000 (show Z (Hm (Lf (A.map H5) p))<=Z A by omega);omega
theorem jo {l f F}(h:Dr 400 f= .got F []):Qh l f=Re l F:=by
 unfold Qh Re;rw[h];have e:(fun a:AC=>qK l a.B)=fun a=>D9 l a.B:=funext fun a=>by
  unfold qK D9;congr 1;funext x;unfold Ip;rw[KL];simp
 rw[e]
theorem xB {told p}:Bl told p<0↔p∉told:=by
 unfold Bl;split
 ·rename_i h;simp[h]
 ·rename_i h;simp[h]
theorem YB {T}{l:List AB}{i x}(h:l[i]?=some x):(l.take (i+1)).foldl (Lg T) ([],[])=Lg T ((l.take i).foldl (Lg T) ([],[])) x:=by
 rw[AU,h,BJ,List.foldl_append];rfl
theorem cW (t f n z):AF Tryz.prog 36 [str t,str f,ic n] z fun r z'=>∃x k e,r=tp [str x,ic k,ic e]/\Iw t f n x k e/\AE z z':=by
 have cb:({data:=#[]}:ByteArray)=bs []:=rfl;by_cases hL:600<Z t
 ·have b1:decide ((Z t:Int)>600)=true:=by rw[DF];omega
  have HP:AD (Iw t f n [] 0 1):=by rw[AD,Iw,if_pos (.inl hL)];exact⟨rfl,rfl,rfl⟩
  clear hL;refine Z9 109 [.tmp 6,.tmp 7,.tmp 8] Tryz.func36 ?_
  refine p6 ?_
  first|exact⟨_,rfl,[],0,1,rfl,HP.o,AE.refl _⟩|exact⟨_,rfl,[],0,1,rfl,HP.o⟩
 have b1:decide ((Z t:Int)>600)=false:=by simp;omega
 by_cases hM:400<Z f
 ·have b0:decide ((Z f:Int)>400)=true:=by rw[DF];omega
  have HP:AD (Iw t f n [] 0 1):=by rw[AD,Iw,if_pos (.inr hM)];exact⟨rfl,rfl,rfl⟩
  clear hL hM;refine Z9 109 [.tmp 6,.tmp 7,.tmp 8] Tryz.func36 ?_
  refine p6 ?_
  first|exact⟨_,rfl,[],0,1,rfl,HP.o,AE.refl _⟩|exact⟨_,rfl,[],0,1,rfl,HP.o⟩
 have b0:decide ((Z f:Int)>400)=false:=by simp;omega
 have hC:=fun z=>Tv t z;by_cases he:(Au t).1=0
 case neg=>
  have br:((Au t).1 !=0)=true:=by simpa using he
  have HP:AD (Iw t f n [] 0 (Au t).1):=by rw[AD,Iw,if_neg AA,if_pos he];exact⟨rfl,rfl,rfl⟩
  clear hL hM he;refine Z9 109 [.tmp 6,.tmp 7,.tmp 8] Tryz.func36 ?_
  repeat' first|refine Z1 ?_|refine Z8 fun yd yb=>?_|refine Z4 ?_;clear yb yd|refine Z2 ?_ ?_<;>intro h aa<;>try exact Xp|refine Z5 ?_;refine Xi (hC _) ?_;rintro _ _ ⟨rfl,af⟩|refine Z7 ?_|exact Zt|apply yb.o;clear yb yd
  first|exact⟨_,rfl,[],0,_,rfl,HP.o,af⟩|exact⟨_,rfl,[],0,_,rfl,HP.o⟩
 have br:((Au t).1 !=0)=false:=by simpa using he
 by_cases hn:n<0\/200<n
 ·have HP:AD (Iw t f n [] 0 6):=by rw[AD,Iw,if_neg AA,if_neg (by simp[he]),if_pos hn];exact⟨rfl,rfl,rfl⟩
  clear hL hM he;by_cases h0:n<0
  ·have d1:decide (n<0)=true:=by simpa using h0
   clear hn h0;refine Z9 109 [.tmp 6,.tmp 7,.tmp 8] Tryz.func36 ?_
   repeat' first|refine Z1 ?_|refine Z8 fun yd yb=>?_|refine Z4 ?_;clear yb yd|refine Z2 ?_ ?_<;>intro h aa<;>try exact Xp|refine Z5 ?_;refine Xi (hC _) ?_;rintro _ _ ⟨rfl,af⟩|refine Z7 ?_|exact Zt|apply yb.o;clear yb yd
   first|exact⟨_,rfl,[],0,6,rfl,HP.o,af⟩|exact⟨_,rfl,[],0,6,rfl,HP.o⟩
  ·have d1:decide (n<0)=false:=by simpa using h0
   have d2:decide (n>200)=true:=by rw[DF];omega
   clear hn h0;refine Z9 109 [.tmp 6,.tmp 7,.tmp 8] Tryz.func36 ?_
   repeat' first|refine Z1 ?_|refine Z8 fun yd yb=>?_|refine Z4 ?_;clear yb yd|refine Z2 ?_ ?_<;>intro h aa<;>try exact Xp|refine Z5 ?_;refine Xi (hC _) ?_;rintro _ _ ⟨rfl,af⟩|refine Z7 ?_|exact Zt|apply yb.o;clear yb yd
   first|exact⟨_,rfl,[],0,6,rfl,HP.o,af⟩|exact⟨_,rfl,[],0,6,rfl,HP.o⟩
 have d1:decide (n<0)=false:=by simp;omega
 have d2:decide (n>200)=false:=by simp;omega
 obtain⟨-,l,r,ab⟩:=Fq he;have bn:r=[]:=(Ey _ _ _ _ ab).2.1;subst bn;obtain⟨g1,g2,g3,g4⟩:=Dd AA ab;have bg:=fun z=>lJ f AA z;have hI:=fun z=>Jr t AA (by have:=g1.1;omega) g1.2 z;rw[g2]at hI;have HQ:AD (∀x k e,(if Qh l f≠0 then x=[]/\k=0/\e=Qh l f else∃F,Dr 400 f= .got F []/\pB l F n x k e)->Iw t f n x k e):=fun x k e h=>by
  rw[Iw,if_neg AA,if_neg (by simp[he]),if_neg hn];exact⟨l,ab,h⟩
 have HF:AD (∀x∈l,EG x):=fun x hx=>Hs he x (by rw[g2];exact hx);have HK:AD (∀F,Dr 400 f= .got F []->Qh l f=0->iH t f n l F):=fun F h1 h2=>⟨AA,AA,he,AA,AA,ab,h1,h2⟩;have an:∀x∈l,x.fits:=fun x hx=>by
  have hw:=g4 x hx;cases ho:x.o with
  |true=>
   obtain⟨w1,w2,w3⟩:=hw.2.1 ho;exact⟨by rw[w3];simp,by rw[w2];simp,fun a ha=>by rw[w3]at ha;cases ha⟩
  |false=>
   obtain⟨w1,w2,w3,w4⟩:=hw.2.2 ho;exact⟨AA,by have:=w1.2.2.1;omega,fun a ha=>by have:=(w4 a ha).2.2.1;omega⟩
 have bm:∀x∈l,x.o=false->Qn false 600 x:=fun x hx ho=>(HF.o x hx).ruleF ho;obtain⟨N,hN⟩:∃N:Nat,(N:Int)=n:=⟨n.toNat,AA⟩;have bz:N<=200:=AA;clear g1 g2 g4 ab he hL hM HF;refine Z9 109 [.tmp 6,.tmp 7,.tmp 8] Tryz.func36 ?_
 repeat' first|refine Z1 ?_|refine Z8 fun yd yb=>?_|refine Z4 ?_;clear yb yd|refine Z2 ?_ ?_<;>intro h aa<;>try exact Xp|refine Z5 ?_;refine Xi (hC _) ?_;rintro _ _ ⟨rfl,af⟩|refine Z7 ?_|exact Zt
 refine AF.mono (bg _) ?_;rintro _ z2 ⟨F,idf,cF,ok,rfl,bq,a8,av⟩;have au:=af.trans av;have a9:=au.B;clear bg hC af av;rcases bq with⟨rfl,ac⟩|⟨rfl,e,ac⟩
 case inr=>
  have HP:AD (Iw t f n [] 0 7):=HQ.o [] 0 7 (by
   have:Qh l f=7:=by unfold Qh;rw[ac]
   rw[if_pos (by rw[this];decide)]
   exact⟨rfl,rfl,this.symm⟩)
  clear HQ HK ac;refine Z7 ?_
  refine p6 ?_
  first|exact⟨_,rfl,[],0,7,rfl,HP.o,au⟩|exact⟨_,rfl,[],0,7,rfl,HP.o⟩
 have ah:=jo (l:=l) ac;have b4:Z F<=400:=(Eg _ _ _ _ ac).2.1;have ap:=fun cs idl hE z=>fJ l cs idl F cF idf hE g3 an a8 AA z;by_cases ai:Re l F=0
 case neg=>
  have a3:(Re l F !=0)=true:=by simpa using ai
  have HP:AD (Iw t f n [] 0 (Re l F)):=HQ.o [] 0 _ (by rw[if_pos (by rw[ah];exact ai)];exact⟨rfl,rfl,ah.symm⟩);clear HQ HK ac ah ai;generalize Re l F=mi at ap a3 HP;refine Z7 ?_
  repeat' first|refine Z1 ?_|refine Z8 fun yd yb=>?_|refine Z4 ?_;clear yb yd|refine Z2 ?_ ?_<;>intro h aa<;>try exact Xp|(refine Z5 ?_;first|(refine Xi (hI _) ?_;rintro _ _ ⟨idl,cs,rfl,hE,az⟩;(have bu:=EL.length Cj hE;have ae:=ap cs idl hE))|(refine Xi (ae _) ?_;rintro _ _ ⟨rfl,ay⟩))|refine Z7 ?_|exact Zt|apply yb.o;clear yb yd
  first|exact⟨_,rfl,[],0,mi,rfl,HP.o,(au.trans az).trans ay⟩|exact⟨_,rfl,[],0,mi,rfl,HP.o⟩
 have a3:(Re l F !=0)=false:=by simpa using ai
 rw[ai]at ap ah;have a3:((0:Int) !=0)=false:=rfl;have a7:=HK.o F ac ah;have a5:=fun cs idl hE z=>lH l cs idl F cF idf N hE g3 an (ZM a7 a8).1 b4 bz bm z;rw[hN]at a5;have HR:AD (∀{A:List AC} {k:Int} {ok:Bool},NN l F N A k ok->(ok=false->Iw t f n [] 0 9)/\(ok=true->Iw t f n (kB (fun p=>Hm (Lf (A.map H5) p)) l) k 0/\(∀a∈A,Gf (Gr (l.flatMap Af++F)) a)/\A.Nodup/\Z A<=1000)):=fun {A k ok} h=>by
  obtain⟨h1,h2⟩:=XV a7 hN h;have hz:¬Qh l f≠0:=by rw[ah];simp
  refine⟨fun e=>HQ.o _ _ _ (by rw[if_neg hz];exact⟨F,ac,h1 e⟩),fun e=>?_⟩;obtain⟨h3,h4⟩:=h2 e;exact⟨HQ.o _ _ _ (by rw[if_neg hz];exact⟨F,ac,h3⟩),h4⟩
 clear HQ HK ac ah ai a7 a8;generalize Gr (l.flatMap Af++F)=ar at HR;refine Z7 ?_
 repeat' first|refine Z1 ?_|refine Z8 fun yd yb=>?_|refine Z4 ?_;clear yb yd|refine Z2 ?_ ?_<;>intro h aa<;>try exact Xp|(refine Z5 ?_;first|(refine Xi (hI _) ?_;rintro _ _ ⟨idl,cs,rfl,hE,az⟩;(have bu:=EL.length Cj hE;have ae:=ap cs idl hE;have ao:=a5 cs idl hE;clear ap a5 hI))|(refine Xi (ae _) ?_;rintro _ _ ⟨rfl,ay⟩;(clear ae)))|refine Z7 ?_|exact Zt
 refine AF.mono (ao _) ?_;rintro _ z5 ⟨A,ida,cA,k,ok,rfl,aw,a4,bf⟩;have a6:=((au.trans az).trans ay).trans bf;have knob:=a6.B;clear ao az ay bf au a9;cases ok with
 |false=>
  have HP:AD (Iw t f n [] 0 9):=(HR.o aw).1 rfl;clear HR aw a4;refine Z7 ?_
  refine p6 ?_
  first|exact⟨_,rfl,[],0,9,rfl,HP.o,a6⟩|exact⟨_,rfl,[],0,9,rfl,HP.o⟩
 |true=>
  obtain⟨hq,hg,hnd,b5⟩:=(HR.o aw).2 rfl;have hT:=a4 rfl;have HP:AD _:=hq;have bl:AD (∀p,Z ((Hm (Lf (A.map H5) p)).flatMap (Gv p))<=Z A*10000):=fun p=>WZ hg p;have be:=fun p z=>fK ar A cA ida p hT.el b5 hg (fun a ha=>⟨(hg a ha).ps,(hg a ha).pl,by have:=(hg a ha).le;omega,fun t ht=>((hg a ha).tm t ht).1.2.2.1⟩) hnd z;have ca:=EL.length Bb hT.el;clear HR aw a4 hq hg hnd hT;generalize bc:(fun p=>Hm (Lf (A.map H5) p))=T at HP;have bb:∀p,Hm (Lf (A.map H5) p)=T p:=fun p=>by rw[<-bc]
  simp only[bb]at be bl;clear bc bb;refine Z7 ?_
  refine p6 ?_
  refine Ae (fun m s z'=>∃(i i3:Nat) (acc:Tx) (told:List Tx),m=Z l-i/\i<=Z l/\s 13=sl idl (Z l) cs/\s 14=sl ida (Z A) cA/\s 15=ic k/\s 16=str acc/\s 17=sl i3 (Z told) (told.map str)/\s 18=ic i/\AE z z'/\Own z z' i3 (Z told)/\Z told<=i/\AD ((l.take i).foldl (Lg T) ([],[])=(acc,told)/\Z acc<=i*10000000)) (Z l)
   ⟨0,1,[],[],AA,AA,AG,AG,AG,AG,AG,AG,a6,Own.nil _ _,by simp,by simp[AD]⟩ ?_
  rintro m s z' ⟨i,i3,acc,told,rfl,hi,ch,cg,cf,ce,cd,cc,hK,hO,b8,hA⟩;have a9:=hK.B;have ba:=hA.o.2;by_cases bo:i<Z l
  ·have ad:=AJ bo;obtain⟨ih,id,b,r,hb,hd⟩:=Ds hE ad;generalize l[i]=x at ad hb hd;have HS:AD _:=YB (T:=T) ad;have ax:=fun z=>Hq told i3 x.h.B AA z;have ak:=xB (told:=told) (p:=x.h.B);clear ad;cases am:x.o with
   |false=>
    have HN:AD ((l.take (i+1)).foldl (Lg T) ([],[])=(acc,told)/\Z acc<=(i+1)*10000000):=⟨by rw[HS.o,hA.o.1,Lg,if_neg (by simp[am])],BO ba (FU _ (Nat.le_succ i))⟩;clear HS hA ak
    refine p6 ?_
    refine⟨Z l-(i+1),AA,i+1,i3,acc,told,?_⟩
    exact qh HN
   |true=>
    by_cases aj:x.h.B∈told
    ·have a0:decide (Bl told x.h.B<0)=false:=by simp only[decide_eq_false_iff_not];exact fun h=>ak.1 h aj
     have HN:AD ((l.take (i+1)).foldl (Lg T) ([],[])=(acc,told)/\Z acc<=(i+1)*10000000):=⟨by rw[HS.o,hA.o.1,Lg,if_neg (by simp[aj])],BO ba (FU _ (Nat.le_succ i))⟩;clear HS hA ak aj;generalize Bl told x.h.B=wh at ax a0
     repeat' first|refine Z1 ?_|refine Z8 fun yd yb=>?_|refine Z4 ?_;clear yb yd|refine Z2 ?_ ?_<;>intro h aa<;>try exact Xp|refine Z5 ?_;refine Xi (ax _) ?_;rintro _ _ ⟨rfl,rfl⟩|refine Z7 ?_|exact Zt|apply yb.o;clear yb yd
     refine⟨Z l-(i+1),AA,i+1,i3,acc,told,?_⟩
     exact qh HN
    ·have a0:decide (Bl told x.h.B<0)=true:=by simp only[DF];exact ak.2 aj
     have bd:=be x.h.B;have bp:Z ((T x.h.B).flatMap (Gv x.h.B))<=10000000:=by have:=bl.o x.h.B;omega
     have HN:AD ((l.take (i+1)).foldl (Lg T) ([],[])=(acc++(T x.h.B).flatMap (Gv x.h.B),told++[x.h.B])/\Z (acc++(T x.h.B).flatMap (Gv x.h.B))<=(i+1)*10000000):=⟨by rw[HS.o,hA.o.1,Lg,if_pos ⟨am,aj⟩],by rw[AX];omega⟩;clear HS hA ak aj;generalize Bl told x.h.B=wh at ax a0;generalize (T x.h.B).flatMap (Gv x.h.B)=tx at bd bp HN;have b9:Z (told.map str)=Z told*1:=by simp
     repeat' first|refine Z1 ?_|refine Z8 fun yd yb=>?_|refine Z4 ?_;clear yb yd|refine Z2 ?_ ?_<;>intro h aa<;>try exact Xp|refine Z6 ?_;intro idn zn bw b3 b7 bi b6 bh|(refine Z5 ?_;first|(refine Xi (ax _) ?_;rintro _ _ ⟨rfl,rfl⟩)|(refine Xi (bd _) ?_;rintro _ _ ⟨rfl,av⟩;(have b2:=b3.trans av;have bv:=Own.keep bw av)))|refine Z7 ?_|exact Zt|apply yb.o;clear yb yd
     refine⟨Z l-(i+1),AA,i+1,idn,acc++tx,told++[x.h.B],?_⟩
     ((repeat' refine Zi ?_ ?_)<;>first|exact Xq|exact HN|exact b2|exact (by simpa using bv)|exact Xs)
  ·have hil:i=Z l:=AA;subst hil;rw[AS]at hA;have HX:AD (Iw t f n acc k 0):=by
    have:=HP.o;unfold kB at this;rw[hA.o.1]at this;exact this
   clear hA HP
   refine p6 ?_
   first|exact⟨_,rfl,acc,k,0,rfl,HX.o,hK⟩|exact⟨_,rfl,acc,k,0,rfl,HX.o⟩
def JE (l:List AB):Prop:=∃t,(Au t).1=0/\Cb t=l
structure kq (l:List AB):Prop where
 len:Z l<=16
 fs:∀x∈l,x.fits/\x.short
 b5:∀x∈l,Z x.A<=5
 fine:∀x∈l,EG x
theorem JE.p {l}(h:JE l):kq l:=by
 obtain⟨t,h1,rfl⟩:=h;obtain⟨hlen,l,r,hp⟩:=Fq h1;obtain⟨g1,g2,g3,g4⟩:=Dd AA hp;have hF:=Hs h1;rw[g2]at hF⊢;have hb:∀x∈l,Z x.A<=5:=fun x hx=>by
  cases ho:x.o with
  |true=>rw[((g4 x hx).2.1 ho).2.2];simp
  |false=>exact ((g4 x hx).2.2 ho).2.2.1
 refine⟨g3,fun x hx=>⟨?_,(hF x hx).sh⟩,hb,hF⟩;cases ho:x.o with
 |true=>
  obtain⟨w1,w2,w3⟩:=(g4 x hx).2.1 ho;exact⟨by rw[w3];simp,by rw[w2];simp,fun a ha=>by rw[w3]at ha;cases ha⟩
 |false=>
  obtain⟨w1,w2,w3,w4⟩:=(g4 x hx).2.2 ho;exact⟨AA,by have:=w1.2.2.1;omega,fun a ha=>by have:=(w4 a ha).2.2.1;omega⟩
def QR (l:List AB):Prop:=(Au (Cm l)).1=0/\Z l<=16/\∀x∈l,x.fits/\x.short
def QQ (T:List AB->Option (List AB)->Prop)(c:UInt8):Prop:=∀(l:List AB) (cs:List AV) (idl:Nat),JE l->EL AN l cs->∀z:St,AF Tryz.prog 63 [sl idl (Z l) cs,sc (.int .u8 c.toNat)] z fun r z'=>∃o m id c',r=tp [sl id (Z m) c',sc (.bool o.isSome)]/\T l o/\(∀l',o=some l'->m=l'/\QR l')/\EL AN m c'/\AE z z'
inductive DChg (T:List AB->Option (List AB)->Prop)(b:Int)(l:List AB)(m:Int):List AB->Int->Prop where
 |refl:DChg T b l m l m
 |snoc {l1 l2:List AB} {m1:Int}:DChg T b l m l1 m1->m1<b->T l1 (some l2)->QR l2->DChg T b l m (Cb (Cm l2)) (m1+1)
def UQ (T:List AB->Option (List AB)->Prop)(b:Int)(l:List AB)(m:Int)(l':List AB)(m':Int):Prop:=DChg T b l m l' m'/\(b<=m'\/T l' none)
inductive DPss (T:UInt8->List AB->Option (List AB)->Prop)(b:Int)(l:List AB)(m:Int):Tx->List AB->Int->Prop where
 |nil:DPss T b l m [] l m
 |snoc {ps:Tx} {c:UInt8} {l1 l2:List AB} {m1 m2:Int}:DPss T b l m ps l1 m1->UQ (T c) b l1 m1 l2 m2->DPss T b l m (ps++[c]) l2 m2
def Md (T:UInt8->List AB->Option (List AB)->Prop)(t ps:Tx)(b:Int)(r:Tx×Int×Int):Prop:=
 if (Au t).1≠0 then r=([],0,(Au t).1)else
 if C1 ps=false then r=([],0,11)else
 if b<0 then r=([],0,6)else
 ∃l' m,DPss T b (Cb t) 0 ps l' m/\r=(Cm l',m,0)
theorem gu (c):((B8 [115,97,114,117,108] (c.toNat:Int):Int)==5)=!Ig c:=by
 have:∀c:UInt8,((B8 [115,97,114,117,108] (c.toNat:Int):Int)==5)=!Ig c:=by
  intro c;have h:=c.toNat_lt;by_cases h1:c=115
  ·subst h1;decide
  by_cases h2:c=97
  ·subst h2;decide
  by_cases h3:c=114
  ·subst h3;decide
  by_cases h4:c=117
  ·subst h4;decide
  by_cases h5:c=108
  ·subst h5;decide
  have hp:Ig c=false:=by simp[Ig,h1,h2,h3,h4,h5]
  have k:∀d:UInt8,c≠d->¬((d.toNat:Int)=(c.toNat:Int)):=fun d hd e=>hd (KF.1 AA);rw[hp,Yi _ _ fun j _ x hx=>?_]
  ·rfl
  ·have aa:x∈([115,97,114,117,108]:List UInt8):=BD hx;simp only[BB,EN,DY]at aa;rcases aa with rfl|rfl|rfl|rfl|rfl
   ·simpa using k _ h1
   ·simpa using k _ h2
   ·simpa using k _ h3
   ·simpa using k _ h4
   ·simpa using k _ h5
 exact this c
theorem W0 (T t ps b)(b5:b<=9223372036854775807)(hT:0<b->C1 ps=true->∀c∈ps,QQ (T c) c)(z):AF Tryz.prog 34 [str t,str ps,ic b] z fun r z'=>∃p,r=qF p/\Md T t ps b p/\AE z z':=by
 have b4:({data:=#[]}:ByteArray)=bs []:=rfl;have b3:({data:=#[115,97,114,117,108]}:ByteArray)=bs [115,97,114,117,108]:=rfl;have hC:=fun z=>Tv t z;by_cases he:(Au t).1=0
 case neg=>
  have bq:((Au t).1 !=0)=true:=by simpa using he
  have HP:AD (Md T t ps b ([],0,(Au t).1)):=by rw[AD,Md,if_pos he]
  clear he hT;refine Z9 74 [.tmp 6,.tmp 7,.tmp 8] Tryz.func34 ?_
  refine qb ?_;intro yd yb;refine Xi (hC _) ?_;rintro _ _ ⟨rfl,ae⟩;refine pz ?_
  first|exact⟨_,rfl,([],0,_),rfl,HP.o,ae⟩|exact⟨_,rfl,([],0,_),rfl,HP.o⟩
 have bq:((Au t).1 !=0)=false:=by simpa using he
 by_cases h8:8<Z ps
 ·have bu:decide ((Z ps:Int)>8)=true:=by rw[DF];omega
  have HP:AD (Md T t ps b ([],0,11)):=by
   rw[AD,Md,if_neg (by simp[he]),if_pos];unfold C1;rw[decide_eq_false AA];rfl
  clear he hT h8;refine Z9 74 [.tmp 6,.tmp 7,.tmp 8] Tryz.func34 ?_
  refine qb ?_;intro yd yb;refine Xi (hC _) ?_;rintro _ _ ⟨rfl,ae⟩;refine pz ?_
  first|exact⟨_,rfl,([],0,11),rfl,HP.o,ae⟩|exact⟨_,rfl,([],0,11),rfl,HP.o⟩
 have bu:decide ((Z ps:Int)>8)=false:=by simp;omega
 have af:=fun c z=>K7 [115,97,114,117,108] c (by simp) z;obtain⟨hlen,l0,r0,ai⟩:=Fq he;obtain⟨g1,g2,g3,g4⟩:=Dd AA ai;have hI:=fun z=>Jr t AA (by have:=g1.1;omega) g1.2 z;have a5:AD (∀l2,QR l2->∀z,AF Tryz.prog 62 [str (Cm l2)] z fun r z'=>∃id cs,r=sl id (Z (Cb (Cm l2))) cs/\EL AN (Cb (Cm l2)) cs/\AE z z'):=fun l2 h2 z=>by
  obtain⟨h1,l3,r3,h3⟩:=Fq h2.1;obtain⟨k1,k2,k3,k4⟩:=Dd AA h3;exact Jr (Cm l2) AA (by have:=k1.1;omega) k1.2 z
 have HR:AD (∀p,(if C1 ps=false then p=([],0,11)else if b<0 then p=([],0,6)else∃l' m,DPss T b (Cb t) 0 ps l' m/\p=(Cm l',m,0))->Md T t ps b p):=fun p h=>by rw[Md,if_neg (by simp[he])];exact h
 have HG:AD (JE (Cb t)):=⟨t,he,rfl⟩;clear g1 g2 g3 g4 ai hlen;generalize Cb t=li at hI HR HG;refine Z9 74 [.tmp 6,.tmp 7,.tmp 8] Tryz.func34 ?_
 refine qb ?_;intro yd yb;refine Xi (hC _) ?_;rintro _ _ ⟨rfl,ae⟩;refine pz ?_
 refine Ae (fun m s z'=>∃i:Nat,m=Z ps-i/\i<=Z ps/\s 0=str t/\s 1=str ps/\s 2=ic b/\s 11=ic i/\AE z z'/\AD (∀c∈ps.take i,Ig c=true)) (Z ps)
  ⟨0,AA,AA,by simp[upd,AM],by simp[upd,AM],by simp[upd,AM],AG,ae,by simp[AD]⟩ ?_
 clear ae hC;rintro m s z' ⟨i,rfl,hi,h0,h1,h2,b0,hK,ad⟩;have an:=hK.B;by_cases bp:i<Z ps
 ·have ab:=AJ bp;generalize ps[i]=c at ab;have af:=af c.toNat;have ao:=gu c;cases hc:Ig c with
  |false=>
   rw[hc]at ao
   have HP:AD (Md T t ps b ([],0,11)):=HR.o _ (by
    rw[if_pos];unfold C1
    rw[show ps.all Ig=false from LH.2 ⟨c,BD ab,by simp[hc]⟩];simp)
   clear ad HR HG a5 hI hT hc;generalize B8 [115,97,114,117,108] (c.toNat:Int)=fn at af ao
   refine qb ?_;intro yd yb;refine Xi (af _) ?_;rintro _ _ ⟨rfl,rfl⟩;refine pz ?_
   first|exact⟨_,rfl,([],0,11),rfl,HP.o,hK⟩|exact⟨_,rfl,([],0,11),rfl,HP.o⟩
  |true=>
   rw[hc]at ao;have HN:AD (∀c∈ps.take (i+1),Ig c=true):=fun d hd=>by
    rw[AU,ab]at hd;rcases AW.1 hd with hd|hd
    ·exact ad.o d hd
    ·have:d=c:=by simpa using hd
     rw[this];exact hc
   clear ad hc;generalize B8 [115,97,114,117,108] (c.toNat:Int)=fn at af ao
   refine qb ?_;intro yd yb;refine Xi (af _) ?_;rintro _ _ ⟨rfl,rfl⟩;refine pz ?_
   refine⟨Z ps-(i+1),AA,i+1,?_⟩
   exact qh HN
 ·have hil:i=Z ps:=AA;subst hil;rw[AS]at ad;have ah:C1 ps=true:=by
   unfold C1;rw[decide_eq_true AA,EK.2 ad.o];rfl
  have hT:=fun h0=>hT h0 ah;by_cases am:b<0
  ·have bv:decide (b<0)=true:=by simpa using am
   have HP:AD (Md T t ps b ([],0,6)):=HR.o _ (by rw[if_neg (by simp[ah]),if_pos am]);clear ad HR HG a5 hI hT ah am
   refine pz ?_
   first|exact⟨_,rfl,([],0,6),rfl,HP.o,hK⟩|exact⟨_,rfl,([],0,6),rfl,HP.o⟩
  have bv:decide (b<0)=false:=by simpa using am
  have HP:AD (∀l' m,DPss T b li 0 ps l' m->Md T t ps b (Cm l',m,0)):=fun l' m h=>HR.o _ (by rw[if_neg (by simp[ah]),if_neg am];exact⟨l',m,h,rfl⟩);have b1:AD (0<b->∀c∈ps,QQ (T c) c):=hT;clear ad HR hT ah
  refine qb ?_;intro yd yb;refine Xi (hI _) ?_;rintro _ _ ⟨idl,cs,rfl,hE,bb⟩;(have a9:=hK.trans bb);refine pz ?_
  refine Ae (fun m s z'=>∃(i:Nat) (n:Int) (l1:List AB) (id1:Nat) (c1:List AV),m=Z ps-i/\i<=Z ps/\0<=n/\n<=b/\s 1=str ps/\s 2=ic b/\s 12=sl id1 (Z l1) c1/\s 13=ic n/\s 14=ic i/\AE z z'/\AD (DPss T b li 0 (ps.take i) l1 n/\JE l1/\EL AN l1 c1)) (Z ps)
   ⟨0,0,li,idl,cs,AA,AA,AA,AA,by simp[upd,h1],by simp[upd,h2],AG,AG,AG,a9,DPss.nil,HG.o,hE⟩ ?_
  clear h0 h1 h2 b0 hK a9 bb hI HG an;rintro m s z' ⟨i,n,l1,id1,c1,rfl,hi,bo,bn,h1,h2,a4,a3,a0,hK,hA⟩;have an:=hK.B;by_cases aj:i<Z ps
  ·have ab:=AJ aj;have aw:=fun h0=>b1.o h0 ps[i] (AT aj);generalize ps[i]=c at ab aw;have bg:AD (∀l2 m2,UQ (T c) b l1 n l2 m2->DPss T b li 0 (ps.take (i+1)) l2 m2):=fun l2 m2 h=>by
    rw[AU,ab,BJ];exact DPss.snoc hA.o.1 h
   have bf:AD (JE l1):=hA.o.2.1;have bi:AD (EL AN l1 c1):=hA.o.2.2;have bl:AD (0<b->QQ (T c) c):=aw;clear hA aw
   refine pz ?_
   refine Ae (fun q s z'=>∃(more:Bool) (n2:Int) (l2:List AB) (id2:Nat) (c2:List AV),q=(b-n2).toNat+(if more=true then 1 else 0)/\0<=n2/\n2<=b/\s 1=str ps/\s 2=ic b/\s 12=sl id2 (Z l2) c2/\s 13=ic n2/\s 14=ic i/\s 15=sc (.bool more)/\AE z z'/\AD (DChg (T c) b l1 n l2 n2/\(more=false->T c l2 none)/\JE l2/\EL AN l2 c2)) ((b-n).toNat+1)
    ⟨true,n,l1,id1,c1,by simp,bo,bn,by simp[upd,h1],by simp[upd,h2],by simp[upd,a4],by simp[upd,a3],by simp[upd,a0],AG,hK,.refl,(by intro h;cases h),bf.o,bi.o⟩ ?_
   clear h1 h2 a4 a3 a0 hK an bf bi;rintro q s z' ⟨more,n2,l2,id2,c2,hq,hm0,hm1,h1,h2,a4,a3,a0,b6,hK,hB⟩;have an:=hK.B;by_cases ak:more=true/\n2<b
   ·obtain⟨rfl,a6⟩:=ak;have br:decide (n2<b)=true:=by simpa using a6
    have b2:q=(b-n2).toNat+1:=by simpa using hq
    have be:=fun z=>bl.o AA l2 c2 id2 hB.o.2.2.1 hB.o.2.2.2 z
    refine qm ?_;intro yd yb
    refine AF.mono (be _) ?_;rintro _ z5 ⟨o,mm,idm,cm,rfl,au,ax,bd,ba⟩;have a8:=hK.trans ba;have knoy:=a8.B;clear ba be;cases o with
    |none=>
     have HN:AD (DChg (T c) b l1 n l2 n2/\(false=false->T c l2 none)/\JE l2/\EL AN l2 c2):=⟨hB.o.1,fun _=>au,hB.o.2.2⟩;clear hB au ax bd;refine Z3 ?_
     refine pz ?_
     refine⟨(b-n2).toNat,AA,false,n2,l2,id2,c2,?_⟩
     ((repeat' refine Zi ?_ ?_)<;>first|exact Xq|exact HN|exact (by simp)|exact Xs)
    |some l3=>
     obtain⟨rfl,ac⟩:=ax l3 rfl;have ay:=fun z=>Va mm cm idm bd ac.2.1 (fun x hx=>(ac.2.2 x hx).1) (fun x hx=>(ac.2.2 x hx).2) z;have bc:=a5.o mm ac;have bm:AD (DChg (T c) b l1 n (Cb (Cm mm)) (n2+1)):=.snoc hB.o.1 a6 au ac;have bh:AD (JE (Cb (Cm mm))):=⟨_,ac.1,rfl⟩;clear hB au ax ac;generalize Cb (Cm mm)=l4 at bc bm bh;refine Z3 ?_
     refine qb ?_;intro yd yb;(first|(refine Xi (ay _) ?_;rintro _ _ ⟨rfl,az⟩)|(refine Xi (bc _) ?_;rintro _ _ ⟨id4,c4,rfl,bz,bw⟩));refine p9 ?_;(first|(refine Xi (ay _) ?_;rintro _ _ ⟨rfl,az⟩)|(refine Xi (bc _) ?_;rintro _ _ ⟨id4,c4,rfl,bz,bw⟩));refine pz ?_
     have HN:AD (DChg (T c) b l1 n l4 (n2+1)/\(true=false->T c l4 none)/\JE l4/\EL AN l4 c4):=⟨bm.o,(by intro h;cases h),bh.o,bz⟩;refine⟨(b-(n2+1)).toNat+1,AA,true,n2+1,l4,id4,c4,?_⟩
     ((repeat' refine Zi ?_ ?_)<;>first|exact Xq|exact HN|exact ((a8.trans az).trans bw)|exact (by simp)|exact Xs)
   ·have HN:AD (DPss T b li 0 (ps.take (i+1)) l2 n2/\JE l2/\EL AN l2 c2):=⟨bg.o l2 n2 ⟨hB.o.1,by
     cases more with
     |false=>exact .inr (hB.o.2.1 rfl)
     |true=>exact .inl (by
      have:¬n2<b:=fun h=>ak ⟨rfl,h⟩
      omega)⟩,hB.o.2.2⟩
    clear hB bg bl;cases more with
    |false=>
     clear ak
     refine pz ?_
     refine⟨Z ps-(i+1),AA,i+1,n2,l2,id2,c2,?_⟩
     exact qh HN
    |true=>
     have br:decide (n2<b)=false:=by
      have:¬n2<b:=fun h=>ak ⟨rfl,h⟩;simpa using this
     clear ak
     refine pz ?_
     refine⟨Z ps-(i+1),AA,i+1,n2,l2,id2,c2,?_⟩
     exact qh HN
  ·have av:i=Z ps:=AA;rw[av,AS]at hA;have a7:=HP.o l1 n hA.o.1;have ap:=hA.o.2.1.p;have ay:=fun z=>Va l1 c1 id1 hA.o.2.2 ap.len (fun x hx=>(ap.fs x hx).1) (fun x hx=>(ap.fs x hx).2) z;have HX:AD _:=a7;clear hA HP ap a7
   refine qb ?_;intro yd yb;refine Xi (ay _) ?_;rintro _ _ ⟨rfl,az⟩;refine pz ?_
   first|exact⟨_,rfl,(Cm l1,n,0),rfl,HX.o,hK.trans az⟩|exact⟨_,rfl,(Cm l1,n,0),rfl,HX.o⟩
end Go.Proofs.YtmoeoppbmhfbpabGreatDoorI
