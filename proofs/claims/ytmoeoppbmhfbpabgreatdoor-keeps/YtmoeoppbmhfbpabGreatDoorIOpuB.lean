import Derived.Test.YtmoeoppbmhfbpabGreatDoorILinA
import Derived.Test.YtmoeoppbmhfbpabGreatDoorIEngR
import Derived.Test.YtmoeoppbmhfbpabGreatDoorIPrtF
import Derived.Test.YtmoeoppbmhfbpabGreatDoorIImpD
import Derived.Test.YtmoeoppbmhfbpabGreatDoorIOptC
import Derived.Test.YtmoeoppbmhfbpabGreatDoorISpaE
import Derived.KernelRfl
set_option maxHeartbeats 64000000
set_option maxRecDepth 100000
set_option linter.all false
open List renaming length->Z
namespace Go.Proofs.YtmoeoppbmhfbpabGreatDoorI
open Go.Abs
def Ig (c:UInt8):Bool:=decide (c=115\/c=97\/c=114\/c=117\/c=108)
theorem nL (c σ):AF Tryz.prog 72 [sc (.int .u8 c.toNat)] σ fun r σ'=>r=sc (.bool (Ig c))/\σ'=σ:=by
 have key:∀(k:UInt8) (n:Int),n=(k.toNat:Int)->((c.toNat:Int)==n)=decide (c=k):=fun k n e=>by rw[e];exact ZB
 have e1:=key 115 115 rfl;have e2:=key 97 97 rfl;have e3:=key 114 114 rfl;have e4:=key 117 117 rfl;have e5:=key 108 108 rfl;have hp:Ig c=(decide (c=115)||(decide (c=97)||(decide (c=114)||(decide (c=117)||decide (c=108))))):=by
  unfold Ig;simp only[Bool.decide_or]
 have HP:AD _:=hp;clear key hp;generalize decide (c=115)=b1 at e1 HP;generalize decide (c=97)=b2 at e2 HP;generalize decide (c=114)=b3 at e3 HP;generalize decide (c=117)=b4 at e4 HP;generalize decide (c=108)=b5 at e5 HP;cases b1<;>cases b2<;>cases b3<;>cases b4<;>cases b5
 all_goals
  refine Z9 10 [.tmp 2] Tryz.func72 ?_
  repeat' first|refine Z1 ?_|refine Z8 fun yd yb=>?_|refine Z4 ?_;clear yb yd|refine Z2 ?_ ?_<;>intro h aa<;>try exact Xp|refine Z3 ?_|exact Zt|apply yb.o;clear yb yd
  exact⟨_,rfl,by rw[HP.o];rfl⟩
def C1 (t:Tx):Bool:=decide (Z t<=8)&&t.all Ig
theorem Y9 (t σ):AF Tryz.prog 38 [str t] σ fun r σ'=>r=sc (.bool (C1 t))/\σ'=σ:=by
 have hI:=fun c σ=>nL c σ;by_cases h8:8<Z t
 ·have hb:decide ((8:Int)<(Z t:Int))=true:=by simp;omega
  have HL:AD (C1 t=false):=by rw[AD,C1,decide_eq_false AA];rfl
  refine Z9 18 [.tmp 2] Tryz.func38 ?_
  refine pz ?_
  exact⟨_,rfl,by rw[HL.o]⟩
 ·have hb:decide ((8:Int)<(Z t:Int))=false:=by simp;omega
  refine Z9 18 [.tmp 2] Tryz.func38 ?_
  refine pz ?_
  refine Ae (fun m s σ'=>∃i:Nat,m=Z t-i/\i<=Z t/\s 0=str t/\s 3=ic i/\σ'=σ/\AD (∀c∈t.take i,Ig c=true)) (Z t)
   ⟨0,AA,AA,rfl,rfl,rfl,by simp[AD]⟩ ?_
  rintro m s σ' ⟨i,rfl,hi,h0,h3,hσ,hA⟩;by_cases ac:i<Z t
  ·have ab:=AJ ac;generalize t[i]=c at ab;have hI:=hI c;cases hc:Ig c with
   |true=>
    rw[hc]at hI;have HA:AD (∀c∈t.take (i+1),Ig c=true):=by
     rw[AD,AU,ab,BJ];intro d hd;rcases AW.1 hd with hd|hd
     ·exact hA.o d hd
     ·simp at hd;subst hd;exact hc
    clear hA hc
    refine qb ?_;intro yd yb;refine Xi (hI _) ?_;rintro _ _ ⟨rfl,rfl⟩;refine pz ?_
    refine⟨Z t-(i+1),AA,i+1,?_⟩
    exact qh HA
   |false=>
    rw[hc]at hI;have HL:AD (C1 t=false):=by
     have:t.all Ig=false:=LH.2 ⟨c,BD ab,by simp[hc]⟩;rw[AD,C1,this];simp
    clear hA hc
    refine qb ?_;intro yd yb;refine Xi (hI _) ?_;rintro _ _ ⟨rfl,rfl⟩;refine pz ?_
    exact⟨_,rfl,by rw[HL.o]⟩
  ·have hil:i=Z t:=AA;have HL:AD (C1 t=true):=by
    have:=hA.o;rw[hil,AS]at this;rw[AD,C1,decide_eq_true AA,EK.2 this];rfl
   clear hA
   refine pz ?_
   exact⟨_,rfl,by rw[HL.o]⟩
inductive GChg (T:List AB->Option (List AB)->Prop)(b:Int)(l:List AB)(m:Int):List AB->Int->Prop where
 |refl:GChg T b l m l m
 |snoc {l1 l2:List AB} {m1:Int}:GChg T b l m l1 m1->m1<b->T l1 (some l2)->GChg T b l m l2 (m1+1)
def TM (T:List AB->Option (List AB)->Prop)(b:Int)(l:List AB)(m:Int)(l':List AB)(m':Int):Prop:=GChg T b l m l' m'/\(b<=m'\/T l' none)
inductive GPss (T:UInt8->List AB->Option (List AB)->Prop)(b:Int)(l:List AB)(m:Int):Tx->List AB->Int->Prop where
 |nil:GPss T b l m [] l m
 |snoc {ps:Tx} {c:UInt8} {l1 l2:List AB} {m1 m2:Int}:GPss T b l m ps l1 m1->TM (T c) b l1 m1 l2 m2->GPss T b l m (ps++[c]) l2 m2
structure Qp (T:List AB->Option (List AB)->Prop)(N:List Tx)(ar:Tx->Nat)(c:UInt8):Prop where
 call:∀(l:List AB) (cs:List AV) (idn idi:Nat),BH N ar l->EL (PI N) l cs->∀σ:St,AF Tryz.prog 73 [Cl N idn l idi cs,sc (.int .u8 c.toNat)] σ fun r σ'=>(∃x b,r=tp [x,sc (.bool b)]/\EA T N l idn x b)/\AE σ σ'
 rt:∀l l',T l (some l')->BH N ar l->BH N ar l'
theorem Un (T N ar l cs idn idi t b)(bg:0<=b)(bf:b<=9223372036854775807)(a9:Z t<=8)(ht:∀c∈t,Qp (T c) N ar c)(hR:BH N ar l)(hE:EL (PI N) l cs)(σ):
  AF Tryz.prog 39 [Cl N idn l idi cs,str t,ic b] σ fun r σ'=>(∃l' id c' m,r=tp [Cl N idn l' id c',ic m]/\GPss T b l 0 t l' m/\BH N ar l'/\EL (PI N) l' c')/\AE σ σ':=by
 have hC:=fun l cs idi c (hc:Qp (T c) N ar c) hR hE σ=>hc.call l cs idn idi hR hE σ;refine Z9 36 [.cell 6 62,.tmp 7] Tryz.func39 ?_
 refine zz ?_
 refine Ae (fun k s σ'=>∃(i:Nat) (m:Int) (l1:List AB) (id1:Nat) (c1:List AV),k=Z t-i/\i<=Z t/\0<=m/\m<=b/\s 1=str t/\s 2=ic b/\s 3=ptr σ.B 0/\s 6=ptr (σ.B+1) 0/\s 8=ic m/\s 9=ic i/\AE σ σ'/\σ.B+1<σ'.B/\σ'.C σ.B=[sl idn (Z N) (N.map str),sl id1 (Z l1) c1]/\σ'.C (σ.B+1)=[nilS,nilS]/\AD (GPss T b l 0 (t.take i) l1 m/\BH N ar l1/\EL (PI N) l1 c1)) (Z t)
  ⟨0,0,l,idi,cs,AA,AA,AA,AA,rfl,rfl,AG,AG,AG,AG,Xs,AK,by rw[Ah AK,Ao],by first|exact Ao|simp[Ao],⟨GPss.nil,hR,hE⟩⟩ ?_
 rintro k s σ' ⟨i,m,l1,id1,c1,rfl,hi,hm0,hm1,h1,h2,h3,h6,h8,h9,hK,ao,ad,ac,hA⟩;have ax:=hK.B;by_cases az:i<Z t
 ·have ah:=AJ az;have av:=ht t[i] (AT az);generalize t[i]=c at ah av;have HP:AD (∀l2 m2,TM (T c) b l1 m l2 m2->GPss T b l 0 (t.take (i+1)) l2 m2):=fun l2 m2 h=>by
   rw[AU,ah,BJ];exact GPss.snoc hA.o.1 h
  have a3:AD (BH N ar l1):=hA.o.2.1;have a4:AD (EL (PI N) l1 c1):=hA.o.2.2;clear hA
  refine pz ?_
  refine Ae (fun k s σ2=>∃(m2:Int) (l2:List AB) (id2:Nat) (c2:List AV),k=(b-m2).toNat/\m<=m2/\m2<=b/\s 1=str t/\s 2=ic b/\s 3=ptr σ.B 0/\s 6=ptr (σ.B+1) 0/\s 8=ic m2/\s 9=ic i/\AE σ σ2/\σ.B+1<σ2.B/\σ2.C σ.B=[sl idn (Z N) (N.map str),sl id2 (Z l2) c2]/\σ2.C (σ.B+1)=[nilS,nilS]/\AD (GChg (T c) b l1 m l2 m2/\BH N ar l2/\EL (PI N) l2 c2)) (b-m).toNat
   ⟨m,l1,id1,c1,rfl,AA,AA,AI,AI,AI,AI,AI,AI,hK,ao,ad,ac,⟨GChg.refl,a3.o,a4.o⟩⟩ ?_
  clear h1 h2 h3 h6 h8 h9 hK ao ad ac ax a3 a4;rintro k s σ2 ⟨m2,l2,id2,c2,rfl,bc,be,h1,h2,h3,h6,h8,h9,hK,ao,ad,ac,hA⟩;have ax:=hK.B;by_cases au:m2<b
  ·have hC:=hC l2 c2 id2 c av hA.o.2.1 hA.o.2.2;have ap:decide (m2<b)=true:=by simpa using au
   refine pz ?_
   refine Az (Q:=fun e s' σ''=>e= .normal/\∃(o10 t1 t2:Nat) (t3:List AV) (t4 t5:Nat) (t6:List AV) (b':Bool),s' 10=ptr o10 0/\σ2.B<=o10/\o10<σ''.B/\σ''.C o10=[sl t1 t2 t3,sl t4 t5 t6]/\s' 11=sc (.bool b')/\EA (T c) N l2 idn (ag [sl t1 t2 t3,sl t4 t5 t6]) b'/\s' 1=s 1/\s' 2=s 2/\s' 3=s 3/\s' 6=s 6/\s' 8=s 8/\s' 9=s 9/\AE σ2 σ'') ?_ ?_
   ·have bi:(∀p:Nat,some σ.B=some p->p<σ2.B)=True:=eq_true fun p e=>by cases e;omega
    have bh:(∀p:Nat,False->p<σ2.B)=True:=eq_true fun p e=>e.elim;refine Aq Ag (fun p=>p<σ2.B) [] [0,1,2,3] 7 #[true,true,true,true,false,false,false,false,false,false,false] AH (fun _ _ _ h=>by cases h.1) ?_;intro yd yb;refine Z3 ?_;refine yb.o _ ?_;clear yb yd;refine Eo (rs:=[4,8]) AH (by simp) ?_;intro j hj;simp only[BB,EN,DY]at hj;rcases hj with rfl|rfl
    ·refine Am ?_;intro yd yb;refine Z3 ?_;refine AF.mono (hC _) ?_;rintro _ σ5 ⟨⟨x5,b5,rfl,aj⟩,ab⟩;obtain⟨t1,t2,t3,t4,t5,t6,rfl⟩:=aj.1;have af:=ab.B;refine Z3 ?_;refine yb.o _ _ ⟨Al ab,?_⟩;clear yb yd;refine Hr [5,6,7] 3 6 #[true,true,true,true,true,true,true,true,false,false,false] rfl AH AH (fun _ _ _ h=>by cases h.1) (ab).B (fun o ho _=>(ab).ver o ho) ?_;intro yd yb;refine Z3 ?_;refine yb.o _ ?_;clear yb yd;refine Ai (i:=8) AH ?_;refine Am ?_;intro yd yb;refine Z3 ?_;refine yb.o _ _ ⟨Al ((AE.refl _).new _),?_⟩;clear yb yd;refine Ai (i:=9) AH ?_;refine Am ?_;intro yd yb;refine Z3 ?_;refine yb.o _ _ ⟨fun _ o ho _=>by simp[St.put,St.new];omega,?_⟩;clear yb yd;refine Ci [10] AH AH (fun _ _ _ h=>by cases h.1) BM (fun o ho _=>by simp[St.put,St.new];omega) ?_;intro yd yb;refine Z3 ?_;refine yb.o _ _ ⟨rfl,σ5.B,t1,t2,t3,t4,t5,t6,b5,AG,AA,BM,by rw[Ak],AG,aj,AG,AG,AG,AG,AG,AG,(ab.new _).put AA _⟩
    ·refine Am ?_;intro yd yb;refine Z3 ?_;refine yb.o _ _ ⟨Al ((AE.refl _).new _),?_⟩;clear yb yd;refine Ai (i:=4) AH ?_;refine Am ?_;intro yd yb;refine Z3 ?_;refine AF.mono (hC _) ?_;rintro _ σ5 ⟨⟨x5,b5,rfl,aj⟩,ab⟩;obtain⟨t1,t2,t3,t4,t5,t6,rfl⟩:=aj.1;have af:=ab.B;have ae:=ab.C;simp only[Aa]at af ae;have ak:AE σ2 σ5:=((AE.refl _).new _).trans ab;have a5:σ5.C σ2.B=[nilS,nilS]:=by rw[ae _ AA,Ao]
     refine Z3 ?_;refine yb.o _ _ ⟨Al ak,?_⟩;clear yb yd;refine Hr [5,6,7] 2 5 #[true,true,true,true,true,true,true,true,true,false,false] rfl AH AH (fun _ _ _ h=>by cases h.1) (ak).B (fun o ho _=>(ak).ver o ho) ?_;intro yd yb;refine Z3 ?_;refine yb.o _ ?_;clear yb yd;refine Ai (i:=9) AH ?_;refine Am ?_;intro yd yb;refine Z3 ?_;refine yb.o _ _ ⟨fun _ o ho hF=>by simp[St.put];omega,?_⟩;clear yb yd;refine Ci [10] AH AH (fun _ _ _ h=>by cases h.1) (by simp only[Ab];omega) (fun o ho hF=>by simp[St.put];omega) ?_;intro yd yb;refine Z3 ?_;refine yb.o _ _ ⟨rfl,σ2.B,t1,t2,t3,t4,t5,t6,b5,AG,AA,by simp only[Ab];omega,by rw[Ak],AG,aj,AG,AG,AG,AG,AG,AG,ak.put AA _⟩
   ·rintro e s' σ'' ⟨rfl,o10,t1,t2,t3,t4,t5,t6,b',g10,bb,ba,a7,g11,a8,g1,g2,g3,g6,g8,g9,am⟩;rw[h1]at g1;rw[h2]at g2;rw[h3]at g3;rw[h6]at g6;rw[h8]at g8;rw[h9]at g9;have ak:=hK.trans am;have a6:=am.B;have oz0:σ''.C σ.B=[sl idn (Z N) (N.map str),sl id2 (Z l2) c2]:=by rw[am.C _ AA,ad]
    have oz1:σ''.C (σ.B+1)=[nilS,nilS]:=by rw[am.C _ AA,ac]
    obtain⟨-,o,ai,an,aw⟩:=a8;clear h1 h2 h3 h6 h8 h9 hK am ad ac hC;cases o with
    |none=>
     simp only[Option.isSome_none]at an;subst an;have HQ:=HP.o l2 m2 ⟨hA.o.1,.inr ai⟩;have HZ:AD (GPss T b l 0 (t.take (i+1)) l2 m2/\BH N ar l2/\EL (PI N) l2 c2):=⟨HQ,hA.o.2⟩;clear HQ HP hA ai aw
     refine pz ?_
     refine⟨Z t-(i+1),AA,i+1,m2,l2,id2,c2,?_⟩
     exact qh HZ
    |some l3=>
     simp only[Option.isSome_some]at an;subst an;obtain⟨id3,c3,ay,a0⟩:=aw l3 rfl;simp only[DataW.agg.injEq,List.cons.injEq,and_true]at ay;obtain⟨e1,e2⟩:=ay;rw[e1,e2]at a7;have HZ:AD (GChg (T c) b l1 m l3 (m2+1)/\BH N ar l3/\EL (PI N) l3 c3):=⟨GChg.snoc hA.o.1 au ai,av.rt _ _ ai hA.o.2.1,a0⟩;clear HP hA ai aw a0 e1 e2
     refine pz ?_
     refine⟨(b-(m2+1)).toNat,AA,m2+1,l3,id3,c3,?_⟩
     exact qh HZ
  ·have bd:m2=b:=AA;have HQ:=HP.o l2 m2 ⟨hA.o.1,.inl AA⟩;have HZ:AD (GPss T b l 0 (t.take (i+1)) l2 m2/\BH N ar l2/\EL (PI N) l2 c2):=⟨HQ,hA.o.2⟩;clear HQ HP hA;have ap:decide (m2<b)=false:=by simpa using au
   refine pz ?_
   refine⟨Z t-(i+1),AA,i+1,m2,l2,id2,c2,?_⟩
   exact qh HZ
 ·have hil:i=Z t:=AA;subst hil;rw[AS]at hA
  refine pz ?_
  exact⟨_,rfl,⟨l1,id1,c1,m,rfl,hA.o⟩,Xs⟩
abbrev qF (p:Tx×Int×Int):AV:=tp [str p.1,ic p.2.1,ic p.2.2]
def Ka (T:List Tx->UInt8->List AB->Option (List AB)->Prop)(t ps:Tx)(b:Int)(r:Tx×Int×Int):Prop:=
 if (Au t).1≠0 then r=([],0,(Au t).1)else
 if C1 ps=false then r=([],0,11)else
 if b<0 then r=([],0,6)else
 ∃N l cs ar l' m,CZ t N l cs/\aH l ar/\BH N ar l'/\GPss (T N) b l 0 ps l' m/\r=(Cm l',m,0)
theorem Yh (T t ps b)(hb:b<=9223372036854775807)(am:C1 ps=true->∀N ar,∀c∈ps,Qp (T N c) N ar c)(σ):AF Tryz.prog 15 [str t,str ps,ic b] σ fun r σ'=>∃p,r=qF p/\Ka T t ps b p/\AE σ σ':=by
 have hL:=fun σ=>yW t σ;have hA:=fun σ=>Y9 ps σ;by_cases he:(Au t).1=0
 ·have HE:AD ((Au t).1=0):=he;have az:((Au t).1 !=0)=false:=by simpa using he
  have hlen:Z t<=600:=by
   by_cases hl:600<Z t
   ·unfold Au at he;rw[if_pos hl]at he;simp at he
   ·omega
  have ae:AD (∀r,(if C1 ps=false then r=([],0,11)else if b<0 then r=([],0,6)else∃N l cs ar l' m,CZ t N l cs/\aH l ar/\BH N ar l'/\GPss (T N) b l 0 ps l' m/\r=(Cm l',m,0))->Ka T t ps b r):=fun r h=>by
   unfold Ka;rw[if_neg (by simp[HE.o])];exact h
  clear he;cases hp:C1 ps with
  |false=>
   rw[hp]at hA;have HP:AD (Ka T t ps b ([],0,11)):=ae.o _ (by rw[if_pos hp]);clear ae hp;refine Z9 38 [.tmp 6,.tmp 7,.tmp 8] Tryz.func15 ?_
   (repeat (refine qb ?_;intro yd yb;(first|(refine Xi (hL _) ?_;rintro _ _ ⟨idn,n1,c1,idi,n2,c2,rfl,ab,aa⟩;(have ac:=ab.B;clear aa))|(refine Xi (hA _) ?_;rintro _ _ ⟨rfl,rfl⟩))));refine pz ?_
   exact⟨_,rfl,_,rfl,HP.o,Xs⟩
  |true=>
   rw[hp]at hA;have ay:Z ps<=8:=by
    unfold C1 at hp;simp only[BX,DF]at hp;exact hp.1
   by_cases ah:b<0
   ·have a0:decide (b<0)=true:=by simpa using ah
    have HP:AD (Ka T t ps b ([],0,6)):=ae.o _ (by rw[if_neg (by simp[hp]),if_pos ah]);clear ae hp;refine Z9 38 [.tmp 6,.tmp 7,.tmp 8] Tryz.func15 ?_
    (repeat (refine qb ?_;intro yd yb;(first|(refine Xi (hL _) ?_;rintro _ _ ⟨idn,n1,c1,idi,n2,c2,rfl,ab,aa⟩;(have ac:=ab.B;clear aa))|(refine Xi (hA _) ?_;rintro _ _ ⟨rfl,rfl⟩))));refine pz ?_
    exact⟨_,rfl,_,rfl,HP.o,Xs⟩
   ·have a0:decide (b<0)=false:=by simpa using ah
    have HP:AD (∀r,(∃N l cs ar l' m,CZ t N l cs/\aH l ar/\BH N ar l'/\GPss (T N) b l 0 ps l' m/\r=(Cm l',m,0))->Ka T t ps b r):=fun r h=>ae.o _ (by rw[if_neg (by simp[hp]),if_neg ah];exact h);have a9:AD (∃ar,aH (Cb t) ar):=jg HE.o;have a7:AD _:=am hp;clear ae hp am;refine Z9 38 [.tmp 6,.tmp 7,.tmp 8] Tryz.func15 ?_
    (repeat (refine qb ?_;intro yd yb;(first|(refine Xi (hL _) ?_;rintro _ _ ⟨idn,n1,c1,idi,n2,c2,rfl,ab,aa⟩;(have ac:=ab.B;obtain⟨N,l,hp,av,rfl,rfl,rfl,ax,an⟩:=aa HE.o;have ai:CZ t N l c2:=⟨HE.o,hlen,hp,av,an⟩;have af:∃ar,aH l ar:=(by rw[<-ai.items];exact a9.o);obtain⟨ar,af⟩:=af;have a4:=fun σ=>Un (T N) N ar l c2 idn idi ps b AA hb ay (a7.o N ar) (ai.rt af) av.el σ;have a6:AD _:=ai;have a8:AD _:=af;clear hp aa ax an ai af))|(refine Xi (hA _) ?_;rintro _ _ ⟨rfl,rfl⟩)|(refine Xi (a4 _) ?_;rintro _ _ ⟨⟨l',id',c',m',rfl,ao,aj,a5⟩,au⟩;(have ak:=au.B;simp only[Ab,Aa]at ak;have a3:=fun σ=>sY N l' c' idn id' ((aj.gl.bkm a5).bk aj.gl.len) aj.wi σ;have HZ:AD (Ka T t ps b (Cm l',m',0)):=HP.o _ ⟨N,l,c2,ar,l',m',a6.o,a8.o,aj,ao,rfl⟩;clear ao))|(refine Xi (a3 _) ?_;rintro _ _ ⟨rfl,ap⟩;(have aw:=ap.B)))));refine pz ?_
    exact⟨_,rfl,_,rfl,HZ.o,(((((ab.new _).put AA _).trans au).new _).put AA _).trans ap⟩
 ·have az:((Au t).1 !=0)=true:=by simpa using he
  have HP:AD (Ka T t ps b ([],0,(Au t).1)):=by unfold Ka;rw[if_pos he];rfl
  clear he;refine Z9 38 [.tmp 6,.tmp 7,.tmp 8] Tryz.func15 ?_
  refine qb ?_;intro yd yb;refine Xi (hL _) ?_;rintro _ _ ⟨idn,n1,c1,idi,n2,c2,rfl,ab,aa⟩;(have ac:=ab.B;clear aa);refine pz ?_
  exact⟨_,rfl,_,rfl,HP.o,Xs⟩
def LD (N:List Tx)(l:List AB)(o:Option (List AB)):Prop:=
 (o=none/\yP N l (Z l))\/∃i k y,o=some (C7 i [F7 y k] l)/\l[i]?=some y/\y.o=false/\k<Z y.A/\vY N l i k=true/\yP N l i/\∀k',k'<k->vY N l i k'=false
def LJ (N:List Tx)(l:List AB)(o:Option (List AB)):Prop:=
 (o=none/\yO N l (Z l))\/∃i y,o=some (C7 i [] l)/\l[i]?=some y/\y.o=false/\E4 N l (C7 i [] l)=true/\PH N l i y true/\yO N l i
theorem OC.stp {N l idn x b}(h:OC N l idn x b)(ht:oY x):EA (LD N) N l idn x b:=by
 refine⟨ht,?_⟩;rcases h with⟨rfl,h⟩|⟨rfl,i,k,y,h1,h2,h3,h4,h5,h6,id,c',h7,h8⟩
 ·exact⟨none,.inl ⟨rfl,h⟩,rfl,fun l' e=>by cases e⟩
 ·exact⟨_,.inr ⟨i,k,y,rfl,h1,h2,h3,h4,h5,h6⟩,rfl,fun l' e=>by cases e;exact⟨id,c',h7,h8⟩⟩
theorem PO.stp {N l idn x b}(h:PO N l idn x b)(ht:oY x):EA (LJ N) N l idn x b:=by
 refine⟨ht,?_⟩;rcases h with⟨rfl,h⟩|⟨rfl,i,y,h1,h2,h3,h4,h5,id,c',h7,h8⟩
 ·exact⟨none,.inl ⟨rfl,h⟩,rfl,fun l' e=>by cases e⟩
 ·exact⟨_,.inr ⟨i,y,rfl,h1,h2,h3,h4,h5⟩,rfl,fun l' e=>by cases e;exact⟨id,c',h7,h8⟩⟩
theorem LD.rt {N ar l l'}(h:LD N l (some l'))(hR:BH N ar l):BH N ar l':=by
 rcases h with⟨h,-⟩|⟨i,k,y,h,h1,h2,h3,h4,-⟩
 ·cases h
 ·cases h;refine hR.wo h1 h2 ?_;unfold vY at h4;rw[h1]at h4;simp only[BX]at h4;obtain⟨s,hs⟩:=OI.1 h4.1;unfold KZ at hs;obtain⟨s0,-,hs⟩:=Option.bind_eq_some_iff.1 hs;unfold My at hs;split at hs
  ·assumption
  ·cases hs
theorem LJ.rt {N ar l l'}(h:LJ N l (some l'))(hR:BH N ar l):BH N ar l':=by
 rcases h with⟨h,-⟩|⟨i,y,h,-⟩
 ·cases h
 ·cases h;exact hR.less i
theorem zW (N ar l cs idn idi)(hR:BH N ar l)(hE:EL (PI N) l cs)(σ):
  AF Tryz.prog 73 [Cl N idn l idi cs,sc (.int .u8 (97:UInt8).toNat)] σ fun r σ'=>(∃x b,r=tp [x,sc (.bool b)]/\EA (LD N) N l idn x b)/\AE σ σ':=by
 have hS:=fun σ=>Qt N l cs idn idi hR.gl hE σ;have e1:((((97:UInt8).toNat:Nat):Int)==115)=false:=rfl;have e2:((((97:UInt8).toNat:Nat):Int)==97)=true:=rfl;refine Z9 38 [.cell 4 62,.tmp 5] Tryz.func73 ?_
 refine qb ?_;intro yd yb;refine Xi (hS _) ?_;rintro _ _ ⟨⟨x1,b1,rfl,ac,ad⟩,ae⟩;(have HX:AD _:=ac;have HT:AD (oY x1):=ad;obtain⟨t1,t2,t3,t4,t5,t6,rfl⟩:=ad;clear ac;have ab:=ae.B;have aa:=ae.C;(try simp only[Aa]at ab aa));refine pz ?_
 exact⟨_,rfl,⟨_,b1,rfl,OC.stp HX.o HT.o⟩,Xs⟩
theorem zU (N ar l cs idn idi)(hR:BH N ar l)(hE:EL (PI N) l cs)(σ):
  AF Tryz.prog 73 [Cl N idn l idi cs,sc (.int .u8 (114:UInt8).toNat)] σ fun r σ'=>(∃x b,r=tp [x,sc (.bool b)]/\EA (LJ N) N l idn x b)/\AE σ σ':=by
 have hS:=fun σ=>O3 N l cs idn idi _ hR.gl hR.bki hE σ;have e1:((((114:UInt8).toNat:Nat):Int)==115)=false:=rfl;have e2:((((114:UInt8).toNat:Nat):Int)==97)=false:=rfl;have e3:((((114:UInt8).toNat:Nat):Int)==114)=true:=rfl;refine Z9 38 [.cell 4 62,.tmp 5] Tryz.func73 ?_
 refine qb ?_;intro yd yb;refine Xi (hS _) ?_;rintro _ _ ⟨⟨x1,b1,rfl,ac,ad⟩,ae⟩;(have HX:AD _:=ac;have HT:AD (oY x1):=ad;obtain⟨t1,t2,t3,t4,t5,t6,rfl⟩:=ad;clear ac;have ab:=ae.B;have aa:=ae.C;(try simp only[Aa]at ab aa));refine pz ?_
 exact⟨_,rfl,⟨_,b1,rfl,PO.stp HX.o HT.o⟩,Xs⟩
def DG (N:List Tx)(c:UInt8)(l:List AB)(o:Option (List AB)):Prop:=
 (c=115/\KQ N l o)\/(c=97/\LD N l o)\/(c=114/\LJ N l o)\/(c=117/\KS N l o)\/(c=108/\LC N l o)
theorem EA.mono {T T' N l idn x b}(h:EA T N l idn x b)(hT:∀o,T l o->T' l o):EA T' N l idn x b:=by
 obtain⟨h1,o,h2,h3⟩:=h;exact⟨h1,o,hT o h2,h3⟩
theorem YC (N ar):Qp (DG N 115) N ar 115:=
 ⟨fun l cs idn idi hR hE σ=>(zT N ar l cs idn idi hR hE σ).mono fun r σ' ⟨⟨x,b,h1,h2⟩,h3⟩=>⟨⟨x,b,h1,h2.mono fun o h=>.inl ⟨rfl,h⟩⟩,h3⟩,fun l l' h hR=>by
  rcases h with⟨-,h⟩|⟨h,-⟩|⟨h,-⟩|⟨h,-⟩|⟨h,-⟩
  ·exact h.rt hR
  all_goals cases h⟩
theorem pp (N ar):Qp (DG N 97) N ar 97:=
 ⟨fun l cs idn idi hR hE σ=>(zW N ar l cs idn idi hR hE σ).mono fun r σ' ⟨⟨x,b,h1,h2⟩,h3⟩=>⟨⟨x,b,h1,h2.mono fun o h=>.inr (.inl ⟨rfl,h⟩)⟩,h3⟩,fun l l' h hR=>by
  rcases h with⟨h,-⟩|⟨-,h⟩|⟨h,-⟩|⟨h,-⟩|⟨h,-⟩
  ·cases h
  ·exact h.rt hR
  all_goals cases h⟩
theorem YS (N ar):Qp (DG N 114) N ar 114:=
 ⟨fun l cs idn idi hR hE σ=>(zU N ar l cs idn idi hR hE σ).mono fun r σ' ⟨⟨x,b,h1,h2⟩,h3⟩=>⟨⟨x,b,h1,h2.mono fun o h=>.inr (.inr (.inl ⟨rfl,h⟩))⟩,h3⟩,fun l l' h hR=>by
  rcases h with⟨h,-⟩|⟨h,-⟩|⟨-,h⟩|⟨h,-⟩|⟨h,-⟩
  ·cases h
  ·cases h
  ·exact h.rt hR
  all_goals cases h⟩
theorem ju (N ar):Qp (DG N 117) N ar 117:=
 ⟨fun l cs idn idi hR hE σ=>(zS N ar l cs idn idi hR hE σ).mono fun r σ' ⟨⟨x,b,h1,h2⟩,h3⟩=>⟨⟨x,b,h1,h2.mono fun o h=>.inr (.inr (.inr (.inl ⟨rfl,h⟩)))⟩,h3⟩,fun l l' h hR=>by
  rcases h with⟨h,-⟩|⟨h,-⟩|⟨h,-⟩|⟨-,h⟩|⟨h,-⟩
  ·cases h
  ·cases h
  ·cases h
  ·exact h.rt hR
  ·cases h⟩
theorem ZA (N ar):Qp (DG N 108) N ar 108:=
 ⟨fun l cs idn idi hR hE σ=>(zV N ar l cs idn idi hR hE σ).mono fun r σ' ⟨⟨x,b,h1,h2⟩,h3⟩=>⟨⟨x,b,h1,h2.mono fun o h=>.inr (.inr (.inr (.inr ⟨rfl,h⟩)))⟩,h3⟩,fun l l' h hR=>by
  rcases h with⟨h,-⟩|⟨h,-⟩|⟨h,-⟩|⟨h,-⟩|⟨-,h⟩
  ·cases h
  ·cases h
  ·cases h
  ·cases h
  ·exact h.rt hR⟩
theorem UK {ps}(h:C1 ps=true)(N ar):∀c∈ps,Qp (DG N c) N ar c:=fun c hc=>by
 unfold C1 at h;simp only[BX,EK]at h;have hp:=h.2 c hc;unfold Ig at hp;rcases of_decide_eq_true hp with rfl|rfl|rfl|rfl|rfl
 ·exact YC N ar
 ·exact pp N ar
 ·exact YS N ar
 ·exact ju N ar
 ·exact ZA N ar
theorem yL (t ps b)(hb:b<=9223372036854775807)(σ):AF Tryz.prog 15 [str t,str ps,ic b] σ fun r σ'=>∃p,r=qF p/\Ka DG t ps b p/\AE σ σ':=
 Yh DG t ps b hb (fun h N ar=>UK h N ar) σ
theorem tQ {o}(ho:∀z∈o,z.o=false)(i):∀(l:List AB) (k:Nat),(∀y,l[i-k]?=some y->k<=i->y.o=false)->((l.zipIdx k).flatMap fun p=>if p.2=i then o else [p.1]).filter (·.o)=l.filter (·.o)
 |[],_,_=>rfl
 |x::l,k,h=>by
  rw[List.zipIdx_cons,DK,IZ,tQ ho i l (k+1) (fun y hy hk=>h y (by rw[show i-k=(i-(k+1))+1 by omega];simpa using hy) AA),KP];by_cases e:k=i
  ·subst e;have hx:x.o=false:=h x (by simp) (AR _);have:o.filter (·.o)=[]:=List.filter_eq_nil_iff.2 fun z hz=>by simp[ho z hz]
   simp[this,hx]
  ·simp only[if_neg e,KP,List.filter_nil];split<;>rfl
theorem Ux {o l:List AB}{i y}(hy:l[i]?=some y)(h1:y.o=false)(ho:∀z∈o,z.o=false):(C7 i o l).filter (·.o)=l.filter (·.o):=
 tQ ho i l 0 fun z hz _=>by
  have hz:l[i]?=some z:=by simpa using hz
  rw[hy]at hz;cases hz;exact h1
theorem TC {N l x k q}:∀z∈uL N l x k q,z.o=false:=fun z hz=>by
 obtain⟨r,-,rfl⟩:=AO.1 hz;rfl
theorem DG.kept {N ar c l l'}(hR:BH N ar l)(h:DG N c l (some l')):E4 N l l'=true/\l'.filter (·.o)=l.filter (·.o):=by
 rcases h with⟨-,M,-,h⟩|⟨-,h⟩|⟨-,h⟩|⟨-,M,-,h⟩|⟨-,h⟩
 ·rcases h with⟨-,h⟩|⟨-,⟨-,h⟩|⟨hb,h⟩⟩
  ·cases h
  ·cases h
  ·cases h;refine⟨hb,?_⟩;unfold Iy;rw[List.filter_filter];refine List.filter_congr fun x hx=>?_;cases ho:x.o with
   |false=>rfl
   |true=>
    have:Jj N (Hw (Z N) M (Z N)) l (N.idxOf x.h.B)=true:=by
     unfold Jj;exact CW.2 ⟨x,hx,by simp[ho]⟩
    rw[this];rfl
 ·rcases h with⟨h,-⟩|⟨i,k,y,h,h1,h2,h3,h4,-⟩
  ·cases h
  ·cases h;unfold vY at h4;rw[h1]at h4;simp only[BX]at h4;exact⟨h4.2,Ux h1 h2 fun z hz=>by simp at hz;subst hz;rfl⟩
 ·rcases h with⟨h,-⟩|⟨i,y,h,h1,h2,h3,-⟩
  ·cases h
  ·cases h;exact⟨h3,Ux h1 h2 fun z hz=>by cases hz⟩
 ·rcases h with⟨h,-⟩|⟨i,k,y,a,h,h1,h2,h3,h4,-⟩
  ·cases h
  ·cases h;exact⟨fV h1 h3 h4,Ux h1 h2 TC⟩
 ·rcases h with⟨h,-⟩|⟨i,y,e,h,h1,h2,h3,h4,-⟩
  ·cases h
  ·cases h;exact⟨vX h1 h3 h4,Ux h1 (Jf hR h1 h2).1 fun z hz=>by simp at hz;subst hz;rfl⟩
theorem ZI {l ar}(h:aH l ar)(i):Gm l i=false:=by
 unfold Gm;cases hx:l[i]? with
 |none=>rfl
 |some x=>
  simp only;rw[EB];intro j _;unfold Ma;cases ha:(Af x)[j]? with
  |none=>simp
  |some a=>
   simp only[MV];rw[EB];intro b hb;have aa:=BD hx;have h1:=h x aa a (BD ha);have h2:Z b.A=ar b.B:=by
    rcases AW.1 hb with hb|hb
    ·obtain⟨y,hy,ab⟩:=DR.1 hb;exact h y (ND hy) b ab
    ·exact h x aa b (ND hb)
   unfold clash;simp only[BX,EH,DF,not_and,ne_eq,Decidable.not_not];intro e;rw[h1,h2,e]
theorem pM {l l' ar}(hA:aH l' ar)(hs:∀x∈l',Dx x=true)(hw:(Cn l).1=0)(ho:∀x∈l,x.o=true->x.A=[])(ae:∀x∈l',x.o=true->x.A=[])
  (ac:∀x∈l',∃y∈l,y.o=x.o/\y.h.B=x.h.B/\∀a∈x.A,∃b∈y.A,b.B=a.B/\b.nt=a.nt):Cn l'=(0,0):=by
 have hk:∀i,i<Z l->Gc l i=false:=by
  unfold Cn at hw;split at hw
  ·cases hw
  ·split at hw
   ·cases hw
   ·split at hw
    ·cases hw
    ·rename_i h;exact Lv h
 have ab:∀p q,H2 l' p q->H2 l p q:=fun p q ⟨x,hx,h1,a,ha,h2⟩=>by
  obtain⟨y,hy,-,e,hb⟩:=ac x hx;obtain⟨b,hb,e1,-⟩:=hb a ha;exact⟨y,hy,e.trans h1,b,hb,e1.trans h2⟩
 have af:∀i,i<Z l'->Gc l' i=false:=fun i hi=>by
  unfold Gc;rw[AJ hi];simp only;have hx:=AT hi;generalize l'[i]=x at hx;rw[EB];intro a ha aa;obtain⟨y,hy,e1,e2,hb⟩:=ac x hx;obtain⟨b,hb,e3,e4⟩:=hb a ha;obtain⟨j,hj⟩:=CO hy;have:=hk j (BG.1 hj).1;unfold Gc at this;rw[hj]at this;simp only at this;refine EB.1 this b hb ?_;unfold tF at aa⊢;simp only[BX,MN,EH]at aa⊢;rw[e4,e3,e2];refine⟨aa.1,?_⟩;have ad:x.o=false:=by
   cases h:x.o with
   |false=>rfl
   |true=>rw[ae x hx h]at ha;cases ha
  rcases aa.2 with h|h
  ·exact .inl h
  ·refine .inr ?_;rw[Oa ae ⟨x,hx,ad,rfl⟩]at h;rw[Oa ho ⟨y,hy,e1.trans ad,e2⟩];exact h.map' ab
 unfold Cn
 rw[if_neg (by rw[Ch fun i _=>ZI hA i];decide),if_neg (by
  rw[Ch fun i hi=>?_]
  ·decide
  ·unfold Df;rw[AJ hi];simp only
   rw[hs _ (AT hi)];rfl),if_neg (by rw[Ch af];decide)]
theorem BH.xr {N ar l}(h:BH N ar l){x}(hx:x∈l)(ho:x.o=false):XR x:=
 ⟨fun a ha t ht=>by
  have:=((h.gl.msr x hx).at_ a ha).2.2 t ht
  exact⟨this.1,this.2.1,this.2.2.1⟩,ho,by have:=WG (h.wit x hx);omega⟩
theorem tT {x}(ho:x.o=false):F7 x (Z x.A)=x:=by
 unfold F7;rw[ME (AR _),<-ho]
theorem WC {N ar l}(h:BH N ar l){x}(hx:x∈l)(hs:Dx x=true):Dx (ren x)=true:=by
 cases ho:x.o with
 |true=>
  have hb:=(h.gl.msr x hx).o ho;unfold Dx;simp[Af,ren,ho,hb]
 |false=>
  have hX:=h.xr hx ho;have h1:=hX.safe (Z x.A);have e:F7 (ren x) (Z x.A)=ren x:=by
   have:=tT (x:=ren x) ho;simpa[ren]using this
  rw[e,tT ho,hs]at h1;rw[<-Uw (x:=ren x) fun a ha w hw=>aO (hX.inO.ut a ha w hw)];exact h1
theorem jq {x}(h:JM x)(hX:x.o=false->XR x):JM (ren x):=by
 refine⟨h.nm,fun ho=>?_,fun ho=>?_⟩
 ·obtain⟨h1,h2,h3⟩:=h.o ho;exact⟨h1,by simp[ren,C8,h2],by simp[ren,h3]⟩
 ·obtain⟨h1,h2,h3,h4⟩:=h.rule ho;have hX:=hX ho;have key:∀a∈Af x,tO a->tO (C8 (Ba x) a):=fun a ha hg=>by
   refine⟨hg.nm,by simpa[C8]using hg.ne,by simpa[C8]using hg.few,fun t ht=>?_⟩;simp only[C8,AO]at ht;obtain⟨u,hu,rfl⟩:=ht;unfold Ev;split
   ·rename_i hv;have:=hX.rng ha hu hv;exact .inl ⟨_,rfl,Fb this.1 this.2⟩
   ·exact hg.tm u hu
  refine⟨key _ (Ar (.inl ⟨ho,rfl⟩)) h1,h2,by simpa[ren]using h3,fun a ha=>?_⟩;simp only[ren,AO]at ha;obtain⟨b,hb,rfl⟩:=ha;exact key b (Ar (.inr hb)) (h4 b hb)
theorem lI {t N l cs}(hR:CZ t N l cs):(Cn l).1=0:=by
 have:=hR.ok;unfold Au at this;split at this
 ·simp at this
 ·split at this
  ·simp at this
  ·rw[hR.items]at this;exact this
theorem ig {N ar l}(hR:BH N ar l)(hw:(Cn l).1=0)(hl:Ls l=true)(hg:∀x∈l,JM x):Au (Cm l)=(0,0)/\Cb (Cm l)=l.map ren:=by
 have hi:=nJ hR.wit hR.wi;refine⟨?_,hi⟩;have hlen:Z (Cm l)<=600:=by
  rw[eT hR.wit];have h1:=aS l hR.wit;unfold Ls at hl;simp only[BX,DF]at hl;omega
 have hpl:Fc (Cm l)= -1:=by
  rw[F1,eT hR.wit,Sy 16 (l.map ren) (fun y hy=>?_) (by rw[BP];exact hR.gl.len)];obtain⟨x,hx,rfl⟩:=AO.1 hy;exact jq (hg x hx) fun ho=>hR.xr hx ho
 unfold Au;rw[if_neg AA,if_neg (by rw[hpl];decide),hi];refine pM (l:=l) (ar:=ar) (fun y hy a ha=>?_) (fun y hy=>?_) hw (fun x hx=>(hR.gl.msr x hx).o) (fun y hy ho=>?_) (fun y hy=>?_)
 ·obtain⟨x,hx,rfl⟩:=AO.1 hy;cases ho:x.o with
  |true=>
   have hb:=(hR.gl.msr x hx).o ho;simp[Af,ren,ho,hb]at ha
  |false=>
   have hr:=hR.ru x hx ho;have aa:a=C8 (Ba x) x.h\/a∈x.A.map (C8 (Ba x)):=by simpa[Af,ren,ho]using ha
   rcases aa with rfl|aa
   ·show Z (x.h.A.map _)=_;rw[BP];exact hr.h.len
   ·obtain⟨b,hb,rfl⟩:=AO.1 aa;show Z (b.A.map _)=_;rw[BP];exact (hr.A b hb).len
 ·obtain⟨x,hx,rfl⟩:=AO.1 hy;exact WC hR hx (U5 hw hx)
 ·obtain⟨x,hx,rfl⟩:=AO.1 hy;have:=(hR.gl.msr x hx).o ho;simp[ren,this]
 ·obtain⟨x,hx,rfl⟩:=AO.1 hy;refine⟨x,hx,rfl,rfl,fun a ha=>?_⟩;simp only[ren,AO]at ha;obtain⟨b,hb,rfl⟩:=ha;exact⟨b,hb,rfl,rfl⟩
theorem UO {d}(h:d<=9):A8 ((UInt8.ofNat (48+d)).toNat:Int)=true:=by
 have:d=0\/d=1\/d=2\/d=3\/d=4\/d=5\/d=6\/d=7\/d=8\/d=9:=AA;rcases this with rfl|rfl|rfl|rfl|rfl|rfl|rfl|rfl|rfl|rfl<;>decide
theorem rJ {d}(h0:1<=d)(h:d<=9):G3 ((UInt8.ofNat (48+d)).toNat:Int)=true:=by
 have:d=1\/d=2\/d=3\/d=4\/d=5\/d=6\/d=7\/d=8\/d=9:=AA;rcases this with rfl|rfl|rfl|rfl|rfl|rfl|rfl|rfl|rfl<;>decide
theorem kz {n}(h:n<=999):LX (Lib.decDigits n):=by
 by_cases h1:n<10
 ·rw[Lib.decDigits_one h1];by_cases h0:n=0
  ·subst h0;exact .inr (.inl rfl)
  ·exact .inr (.inr ⟨_,[],rfl,rJ AA AA,by simp,by simp⟩)
 ·by_cases h2:n<100
  ·rw[Lib.decDigits_two h1 h2];exact .inr (.inr ⟨_,_,rfl,rJ AA AA,fun c hc=>by simp only[BB,EN,DY]at hc;subst hc;exact UO AA,by simp⟩)
  ·rw[Lib.decDigits,dif_neg h1,Lib.decDigits_two AA AA];refine .inr (.inr ⟨UInt8.ofNat (48+n / 10 / 10),[UInt8.ofNat (48+n / 10 % 10),UInt8.ofNat (48+n % 10)],rfl,rJ AA AA,fun c hc=>?_,by simp⟩);simp only[BB,EN,DY]at hc;rcases hc with rfl|rfl<;>exact UO AA
theorem m4 {t}(h:UT t):LX t:=by
 cases hv:Ac t with
 |true=>
  obtain⟨k,hk,rfl⟩:=h.2.2.2 hv;exact .inl ⟨_,rfl,Fb AA AA⟩
 |false=>
  rcases h.1 with h1|⟨-,h1,h2,h3⟩
  ·rw[hv]at h1;cases h1
  ·obtain⟨n,hn⟩:=Int.eq_ofNat_of_zero_le h2;rw[hn]at h1 h3;rw[<-h1,Lib.itoa_nonneg];exact kz AA
theorem mw {N ar l}(hR:BH N ar l)(hN:∀x∈l,KN x.h.B/\∀a∈x.A,KN a.B):∀x∈l,JM x:=fun x hx=>by
 have hm:=hR.gl.msr x hx;have hw:=hR.wit x hx;refine⟨(hN x hx).1,hw.2.1,fun ho=>?_⟩;obtain⟨w1,w2,w3,w4⟩:=hw.2.2 ho;have key:∀a∈Af x,KN a.B->D3 a->tO a:=fun a ha h1 h2=>⟨h1,h2.2.1,h2.2.2.1,fun t ht=>m4 ((hm.at_ a ha).2.2 t ht)⟩;exact⟨key _ (Ar (.inl ⟨ho,rfl⟩)) (hN x hx).1 w1,w2,w3,fun a ha=>key a (Ar (.inr ha)) ((hN x hx).2 a ha) (w4 a ha)⟩
structure GY (N:List Tx)(ar:Tx->Nat)(l l':List AB):Prop where
 rt:BH N ar l'
 lim:Ls l'=true
 wr:(Cn l').1=0
 o:l'.filter (·.o)=l.filter (·.o)
theorem GY.step {N ar c l l1 l2}(h:GY N ar l l1)(hs:DG N c l1 (some l2))(hp:Qp (DG N c) N ar c):GY N ar l l2:=by
 obtain⟨h1,h2⟩:=hs.kept h.rt;unfold E4 at h1;simp only[BX,EH]at h1;exact⟨hp.rt _ _ hs h.rt,h1.1,h1.2.2,h2.trans h.o⟩
theorem GY.chg {N ar c b m m' l l1 l2}(h:GY N ar l l1)(hs:GChg (DG N c) b l1 m l2 m')(hp:Qp (DG N c) N ar c):GY N ar l l2:=by
 induction hs with
 |refl=>exact h
 |snoc _ _ hs ih=>exact ih.step hs hp
theorem GY.pss {N ar ps b m m' l l1 l2}(h:GY N ar l l1)(hs:GPss (DG N) b l1 m ps l2 m')(hp:∀c∈ps,Qp (DG N c) N ar c):GY N ar l l2:=by
 induction hs with
 |nil=>exact h
 |snoc _ h2 ih=>exact (ih fun c hc=>hp c (by simp[hc])).chg h2.1 (hp _ (by simp))
def mR (l:List AB)(p:Tx):Prop:=∃x∈l,x.h.B=p\/∃a∈x.A,a.B=p
def Zq (l:List AB)(p:Tx):Prop:=∃x∈l,x.o=false/\x.h.B=p
theorem VC {N q}(h:q∈N)(b){a}(ha:a.p=((N.idxOf q:Nat):Int)):(N4 N b a).B=q:=by
 show (N[a.p.toNat]?).getD []=q;rw[ha,DU,AJ (CY h),FT];rfl
theorem gb {N ar l}(hR:BH N ar l){x}(hx:x∈l)(ac:x.o=false){k q z}(hz:z∈uL N l x k q):z.h.B=x.h.B/\∀a∈z.A,∃y∈l,∃b∈y.A,b.B=a.B:=by
 obtain⟨r,hr,rfl⟩:=AO.1 hz;obtain⟨y,hy,e⟩:=List.mem_filterMap.1 hr;obtain⟨ab,aa⟩:=BV.1 hy;simp only[Mi,BX,GH,DF]at aa;unfold Zm at e;obtain⟨a,ha,e⟩:=Option.bind_eq_some_iff.1 e;obtain⟨P,hP,rfl⟩:=OQ.1 e;refine⟨VC (hR.gl.msr x hx).mem false rfl,fun b hb=>?_⟩;obtain⟨m,hm,rfl⟩:=AO.1 hb;obtain⟨m1,hm1,rfl⟩:=AO.1 hm;obtain⟨m2,af,rfl⟩:=AO.1 hm1;have key:∀w∈l,w.o=false->∀d∈w.A,∀(m:Lit),m.a.p=((N.idxOf d.B:Nat):Int)->∃y∈l,∃b∈y.A,b.B=(N4 N m.neg (lM (Fi (Fs P ⟨(Cd N x).h,C7 k (Fs BW (Cd N y)).A (Cd N x).A⟩)) (P0 P m.a))).B:=fun w hw ho d hd m ad=>⟨w,hw,d,hd,(VC ((hR.ru w hw ho).A d hd).mem m.neg ad).symm⟩;rcases Ee af with h|h
 ·obtain⟨d,hd,rfl⟩:=AO.1 h;exact key x hx ac d hd _ rfl
 ·obtain⟨m3,ae,rfl⟩:=AO.1 h;obtain⟨d,hd,rfl⟩:=AO.1 ae;exact key y ab aa.1 d hd _ rfl
theorem XE {l i p e}(h:Ib l i p=some e):∃y∈l,∃b∈y.A,b.B=e:=by
 unfold Ib at h;split at h
 case h_2=>cases h
 rename_i y ho;split at h
 case isFalse=>cases h
 split at h
 case h_2=>cases h
 rename_i a hb;cases h;have aa:y∈Lq l i p:=by rw[ho];simp
 obtain⟨⟨z,j⟩,hz,rfl⟩:=AO.1 aa;exact⟨z,List.fst_mem_of_mem_zipIdx (BV.1 hz).1,a,by rw[show z.A=[a]from hb];simp,rfl⟩
theorem DG.made {N ar c l l'}(hR:BH N ar l)(h:DG N c l (some l')):∀z∈l',z∈l\/(z.o=false/\∃x∈l,x.o=false/\z.h.B=x.h.B/\∀a∈z.A,∃y∈l,∃b∈y.A,b.B=a.B):=by
 rcases h with⟨-,M,-,h⟩|⟨-,h⟩|⟨-,h⟩|⟨-,M,-,h⟩|⟨-,h⟩
 ·rcases h with⟨-,h⟩|⟨-,⟨-,h⟩|⟨-,h⟩⟩
  ·cases h
  ·cases h
  ·cases h;exact fun z hz=>.inl (BV.1 hz).1
 ·rcases h with⟨h,-⟩|⟨i,k,y,h,h1,h2,-⟩
  ·cases h
  ·cases h;intro z hz;rcases Ee hz with hz|hz
   ·exact .inl hz
   ·simp at hz;subst hz;have hy:=BD h1;exact .inr ⟨rfl,y,hy,h2,rfl,fun a ha=>⟨y,hy,a,FY ha,rfl⟩⟩
 ·rcases h with⟨h,-⟩|⟨i,y,h,-⟩
  ·cases h
  ·cases h;intro z hz;rcases Ee hz with hz|hz
   ·exact .inl hz
   ·cases hz
 ·rcases h with⟨h,-⟩|⟨i,k,y,a,h,h1,h2,h3,-⟩
  ·cases h
  ·cases h;intro z hz;rcases Ee hz with hz|hz
   ·exact .inl hz
   ·have hy:=BD h1;obtain⟨e1,e2⟩:=gb hR hy h2 hz;exact .inr ⟨TC z hz,y,hy,h2,e1,e2⟩
 ·rcases h with⟨h,-⟩|⟨i,y,e,h,h1,h2,h3,-⟩
  ·cases h
  ·cases h;intro z hz;rcases Ee hz with hz|hz
   ·exact .inl hz
   ·simp at hz;subst hz;have hy:=BD h1;have hr:=R6 (hR.wit y hy) (hR.wi y hy) h2;have hp:∃b∈y.A,b.B=y.h.B:=by
     have hb:(y.A.map (C8 (Ba y))).map (·.B)=[y.h.B,y.h.B]:=by
      have:=congrArg (fun z:AB=>z.A.map (·.B)) hr;simpa[ren,Eb]using this
     have hm:y.h.B∈(y.A.map (C8 (Ba y))).map (·.B):=by rw[hb];simp
     obtain⟨b',ab,e2⟩:=AO.1 hm;obtain⟨b,aa,rfl⟩:=AO.1 ab;exact⟨b,aa,e2⟩
    refine .inr ⟨rfl,y,hy,(Jf hR h1 h2).1,rfl,fun a ha=>?_⟩;simp only[Eb,BB,EN,DY]at ha;rcases ha with rfl|rfl
    ·exact XE h3
    ·exact⟨y,hy,hp⟩
theorem DG.names {N ar c l l'}(hR:BH N ar l)(h:DG N c l (some l')):(∀p,mR l' p->mR l p)/\∀p,Zq l' p->Zq l p:=by
 have h:=h.made hR;refine⟨fun p ⟨z,hz,hp⟩=>?_,fun p ⟨z,hz,ho,hp⟩=>?_⟩
 ·rcases h z hz with hz|⟨-,x,hx,-,e,hb⟩
  ·exact⟨z,hz,hp⟩
  ·rcases hp with hp|⟨a,ha,hp⟩
   ·exact⟨x,hx,.inl (e.symm.trans hp)⟩
   ·obtain⟨y,hy,b,hb,e2⟩:=hb a ha;exact⟨y,hy,.inr ⟨b,hb,e2.trans hp⟩⟩
 ·rcases h z hz with hz|⟨-,x,hx,aa,e,-⟩
  ·exact⟨z,hz,ho,hp⟩
  ·exact⟨x,hx,aa,e.symm.trans hp⟩
structure IM (l l':List AB):Prop where
 nmd:∀p,mR l' p->mR l p
 rld:∀p,Zq l' p->Zq l p
 lck:∀p,mR l' p->Zq l p->Zq l' p
theorem vN {N l}(hN:∀x∈l,x.h.B∈N){p}(hp:p∈N):D8 N l (N.idxOf p)=true↔Zq l p:=by
 unfold D8 Zq;simp only[CW,BX,GH,DF];constructor
 ·rintro⟨x,hx,h1,h2⟩;refine⟨x,hx,h1,?_⟩;have e:=RJ (hN x hx) hp;rw[h2]at e;simpa using e.symm
 ·rintro⟨x,hx,h1,rfl⟩;exact⟨x,hx,h1,rfl⟩
theorem fX {N ar l}(hR:BH N ar l){p}(h:mR l p):p∈N:=by
 obtain⟨x,hx,h⟩:=h;rcases h with rfl|⟨a,ha,rfl⟩
 ·exact (hR.gl.msr x hx).mem
 ·cases ho:x.o with
  |true=>rw[(hR.gl.msr x hx).o ho]at ha;cases ha
  |false=>exact ((hR.ru x hx ho).A a ha).mem
theorem kj {N ar l l'}(hR:BH N ar l)(aa:BH N ar l')(h:T5 N l' l=false){p}(h1:mR l' p)(h2:Zq l p):Zq l' p:=by
 have hp:=fX aa h1;have hk:=CY hp;unfold T5 at h;have:=EB.1 h (N.idxOf p) (by simpa using hk);have e1:D8 N l (N.idxOf p)=true:=(vN (fun x hx=>(hR.gl.msr x hx).mem) hp).2 h2;have e2:Hv N l' (N.idxOf p)=true:=by
  obtain⟨x,hx,h1⟩:=h1;unfold Hv;refine CW.2 ⟨x,hx,?_⟩;rcases h1 with rfl|⟨a,ha,rfl⟩
  ·simp
  ·simp only[MN,CW,DF];exact .inr ⟨a,ha,rfl⟩
 rw[e1,e2]at this;refine (vN (fun x hx=>(aa.gl.msr x hx).mem) hp).1 ?_;simpa using this
theorem IM.refl (l):IM l l:=⟨fun _ h=>h,fun _ h=>h,fun _ _ h=>h⟩
theorem IM.step {N ar c l l1 l2}(h:IM l l1)(h1:BH N ar l1)(hs:DG N c l1 (some l2))(hp:Qp (DG N c) N ar c):IM l l2:=by
 obtain⟨g1,g2⟩:=hs.names h1;have hb:=(hs.kept h1).1;unfold E4 at hb;simp only[BX,GH]at hb;refine⟨fun p hp=>h.nmd p (g1 p hp),fun p hp=>h.rld p (g2 p hp),fun p hn hr=>?_⟩;exact kj h1 (hp.rt _ _ hs h1) hb.2.1 hn (h.lck p (g1 p hn) hr)
theorem IM.pss {N ar ps b m m' l l1 l2}(h:IM l l1)(hB:GY N ar l l1)(hs:GPss (DG N) b l1 m ps l2 m')(hp:∀c∈ps,Qp (DG N c) N ar c):IM l l2:=by
 induction hs with
 |nil=>exact h
 |snoc h1 h2 ih=>
  rename_i ps c la lb m1 m2;have aa:=hp c (by simp);have ih:=ih fun c hc=>hp c (by simp[hc]);have ab:=hB.pss h1 fun c hc=>hp c (by simp[hc]);have key:∀l3 m3,GChg (DG N c) b la m1 l3 m3->IM l l3/\GY N ar l l3:=fun l3 m3 h=>by
   induction h with
   |refl=>exact⟨ih,ab⟩
   |snoc _ _ hs ih2=>exact⟨ih2.1.step ih2.2.rt hs aa,ih2.2.step hs aa⟩
  exact (key _ _ h2.1).1
theorem Vg {N l M}(hN:∀x∈l,x.h.B∈N/\∀a∈x.A,a.B∈N)(hM:Em N l M){p q}(hp:p∈N)(hq:q∈N):Hw (Z N) M (Z N) (N.idxOf p) (N.idxOf q)=true↔Way (H2 l) p q:=by
 have hS:OB (Z N) M:=fun a b h=>by
  obtain⟨x,hx,e1,y,hy,e2⟩:=(hM a b).1 h;rw[<-e1,<-e2];exact⟨CY (hN x hx).1,CY ((hN x hx).2 y hy)⟩
 rw[gK hS];have one:∀p q:Tx,p∈N->q∈N->(M (N.idxOf p) (N.idxOf q)=true↔H2 l p q):=fun p q hp hq=>by
  rw[hM];constructor
  ·rintro⟨x,hx,e1,y,hy,e2⟩;exact⟨x,hx,Eh (hN x hx).1 hp e1,y,hy,Eh ((hN x hx).2 y hy) hq e2⟩
  ·rintro⟨x,hx,rfl,y,hy,rfl⟩;exact⟨x,hx,rfl,y,hy,rfl⟩
 constructor
 ·intro h;have key:∀i j,Way (fun a b=>M a b=true) i j->∀p q:Tx,p∈N->q∈N->N.idxOf p=i->N.idxOf q=j->Way (H2 l) p q:=fun i j h=>by
   induction h with
   |one e=>
    rintro p q hp hq rfl rfl;exact .one ((one p q hp hq).1 e)
   |more e _ ih=>
    rintro p q hp hq rfl rfl;obtain⟨x,hx,e1,y,hy,rfl⟩:=(hM _ _).1 e;have aa:=(hN x hx).2 y hy;exact .more ((one p y.B hp aa).1 e) (ih y.B q aa hq rfl rfl)
  exact key _ _ h p q hp hq rfl rfl
 ·intro h;induction h with
  |one e=>exact .one ((one _ _ hp hq).2 e)
  |more e _ ih=>
   have e0:=e;obtain⟨x,hx,rfl,y,hy,rfl⟩:=e0;exact .more ((one _ _ hp ((hN x hx).2 y hy)).2 e) (ih ((hN x hx).2 y hy) hq)
theorem sJ (l:List AB):(l.map ren).filter (·.o)=(l.filter (·.o)).map ren:=by
 induction l with
 |nil=>rfl
 |cons x l ih=>
  rw[CU,KP,KP,ih];have:(ren x).o=x.o:=rfl;rw[this];split<;>simp
theorem WF {α β:Type}(f:α->β)(n o l):C7 n (o.map f) (l.map f)=(C7 n o l).map f:=by
 unfold C7;rw[List.zipIdx_map,LF,List.map_flatMap];congr 1;funext p;simp only[Prod.map,id];split<;>rfl
section
variable {ι:Type} {I:ι->Prop} {e e2:ι->Tm}
theorem Lm {P v w t}(hP:Z P=52)(ht:Zd t)(hv:v.1=true):Et (Ui P v w) t=if Et P t=v then w else Et P t:=by
 obtain⟨b,n⟩:=t;cases b with
 |true=>
  obtain⟨k,hk,e⟩:=ht rfl;dsimp only at e;subst e;have hg:=AJ (show k<Z P by omega);unfold Et Ui;simp only[if_true,DU,EY,hg,GZ,Option.getD_some]
 |false=>
  have e1:∀Q,Et Q (false,n)=(false,n):=fun Q=>if_neg (by simp);rw[e1,e1,if_neg];intro h;rw[<-h]at hv;cases hv
theorem gj {t}(h:Zd t):Et CI t=t:=by
 obtain⟨b,n⟩:=t;cases b with
 |true=>
  obtain⟨k,hk,e⟩:=h rfl;dsimp only at e;subst e;simp[Et,CI,hk]
 |false=>rfl
end
abbrev LT:=Bool×Tx
def Ml:LT->Tm
 |(false,t)=>Ap t
 |(true,t)=>Et BW (Ap t)
def NM (s:Bool)(a:AC):Bool×AC:=(s,a)
def Um (x:AB)(k:Nat)(y:AB):List (Bool×AC):=C7 k (y.A.map (NM true)) (x.A.map (NM false))
def rV (x:AB)(B:List (Bool×AC)):List LT:=(x.h.A.map fun t=>(false,t))++B.flatMap fun b=>b.2.A.map fun t=>(b.1,t)
def MB (x:AB)(B:List (Bool×AC))(f:LT->Tx):AB:=⟨false,⟨false,x.h.B,x.h.A.map fun t=>f (false,t)⟩,B.map fun b=>⟨b.2.nt,b.2.B,b.2.A.map fun t=>f (b.1,t)⟩⟩
theorem gD {x y k b}(h:b∈Um x k y):(b.1=false/\b.2∈x.A)\/(b.1=true/\b.2∈y.A):=by
 rcases Ee h with h|h
 ·obtain⟨a,ha,rfl⟩:=AO.1 h;exact .inl ⟨rfl,ha⟩
 ·obtain⟨a,ha,rfl⟩:=AO.1 h;exact .inr ⟨rfl,ha⟩
theorem o8 {N x y k}(hx:∀a∈x.A,a.B∈N)(aa:x.h.B∈N)(hy:∀a∈y.A,a.B∈N):(Zm N x k y).map (Dh N)=(x.A[k]?).bind fun a=>(Dy CI (a.A.map fun t=>Ml (false,t)) (y.h.A.map fun t=>Ml (true,t))).map fun P=>
  MB x (Um x k y) fun p=>Hl (Gl (((rV x (Um x k y)).map fun p=>Et P (Ml p)).foldl vF []) (Et P (Ml p))):=by
 unfold Zm;cases ha:x.A[k]? with
 |none=>rfl
 |some a=>
  simp only[IQ];have e0:(Fs BW (Cd N y)).h.ts=y.h.A.map fun t=>Ml (true,t):=by
   simp only[Fs,P0,Cd,C9,BS];rfl
  have e00:a.A.map Ap=a.A.map fun t=>Ml (false,t):=rfl;rw[e0,e00];cases Dy CI (a.A.map fun t=>Ml (false,t)) (y.h.A.map fun t=>Ml (true,t))with
  |none=>rfl
  |some P=>
   simp only[GZ,Option.some.injEq];let lt:Bool×AC->Lit:=fun b=>⟨b.2.nt,⟨(N.idxOf b.2.B:Nat),b.2.A.map fun t=>Et P (Ml (b.1,t))⟩⟩;have eb:((C7 k (Fs BW (Cd N y)).A (Cd N x).A).map (qZ P))=(Um x k y).map lt:=by
    have h1:(Fs BW (Cd N y)).A=(y.A.map (NM true)).map fun b:Bool×AC=>(⟨b.2.nt,⟨(N.idxOf b.2.B:Nat),b.2.A.map fun t=>Ml (b.1,t)⟩⟩:Lit):=by
     simp only[Fs,Cd,BS];refine CK fun b _=>?_;simp only[Function.comp,E9,C9,qZ,P0,NM,BS];rfl
    have h2:(Cd N x).A=(x.A.map (NM false)).map fun b:Bool×AC=>(⟨b.2.nt,⟨(N.idxOf b.2.B:Nat),b.2.A.map fun t=>Ml (b.1,t)⟩⟩:Lit):=by
     simp only[Cd,BS];refine CK fun b _=>?_;simp only[Function.comp,E9,C9,NM];rfl
    rw[h1,h2,WF,BS];refine CK fun b _=>?_;simp only[Function.comp,qZ,P0,BS,lt];rfl
   have er:Fs P ⟨(Cd N x).h,C7 k (Fs BW (Cd N y)).A (Cd N x).A⟩=⟨⟨(N.idxOf x.h.B:Nat),x.h.A.map fun t=>Et P (Ml (false,t))⟩,(Um x k y).map lt⟩:=by
    unfold Fs;simp only;rw[show P0 P (Cd N x).h=⟨(N.idxOf x.h.B:Nat),x.h.A.map fun t=>Et P (Ml (false,t))⟩by simp only[P0,Cd,C9,BS];rfl];congr 1
   have ev:Fi ⟨⟨(N.idxOf x.h.B:Nat),x.h.A.map fun t=>Et P (Ml (false,t))⟩,(Um x k y).map lt⟩=((rV x (Um x k y)).map fun p=>Et P (Ml p)).foldl vF []:=by
    unfold Fi Co Ho rV;congr 1;simp only[DK,FO,BS,List.map_flatMap,LF];rfl
   rw[er];unfold Fg Dh MB;rw[ev];have key:∀(q:Tx) (b:Bool) (ts:List Tm) (V:List Int),q∈N->N4 N b (lM V ⟨(N.idxOf q:Nat),ts⟩)=⟨b,q,ts.map fun u=>Hl (Gl V u)⟩:=fun q b ts V hq=>by
    unfold N4 lM;simp only[DU,BS];rw[AJ (CY hq),FT];rfl
   simp only[BS];congr 1
   ·rw[key _ _ _ _ aa,BS];rfl
   ·refine CK fun b hb=>?_;simp only[Function.comp,JX,lt];rw[key _ _ _ _ (by rcases gD hb with⟨-,h⟩|⟨-,h⟩;exact hx _ h;exact hy _ h),BS];rfl
def ii (x y:AB)(p:LT):Prop:=∃a,(p.1=false/\a∈Af x\/p.1=true/\a∈Af y)/\p.2∈a.A
theorem R7 {t}(h:UT t):Et BW (Ap t)=if Ac t=true then (true,26+(Ap t).2)else Ap t:=by
 cases hv:Ac t with
 |true=>
  obtain⟨k,hk,-,e⟩:=h.enc hv;rw[e];simp[Et,BW,hk,show k<52 by omega]
 |false=>
  have e1:(Ap t).1=false:=by rw[Bs];exact hv
  rw[Et,if_neg (by simp[e1])];rfl
theorem pO {t}(h:Ac t=false)(l):Ev l t=t:=if_neg (by simp[h])
theorem gi {p}(h:UT p.2):Zd (Ml p):=by
 intro hv;obtain⟨s,t⟩:=p;cases s with
 |false=>
  have aa:Ac t=true:=by rw[<-Bs];exact hv
  obtain⟨k,hk,-,e⟩:=h.enc aa;exact⟨k,AA,by show (Ap t).2=_;rw[e]⟩
 |true=>
  cases aa:Ac t with
  |true=>
   obtain⟨k,hk,-,e⟩:=h.enc aa;refine⟨26+k,AA,?_⟩;show (Et BW (Ap t)).2=_;rw[R7 h,aa,if_pos rfl,e];simp
  |false=>
   have:(Et BW (Ap t)).1=true:=hv;rw[R7 h,aa,if_neg (by simp),Bs,aa]at this;cases this
theorem nv {p}(h:UT p.2):(Ml p).1=Ac p.2:=by
 obtain⟨s,t⟩:=p;cases s with
 |false=>exact Bs t
 |true=>
  show (Et BW (Ap t)).1=_;rw[R7 h];cases hv:Ac t with
  |true=>rfl
  |false=>rw[if_neg (by simp),Bs];exact hv
theorem YU {x y k}(hx:x.o=false)(hy:y.o=false){p}(h:p∈rV x (Um x k y)):ii x y p:=by
 rcases AW.1 h with h|h
 ·obtain⟨t,ht,rfl⟩:=AO.1 h;exact⟨x.h,.inl ⟨rfl,Ar (.inl ⟨hx,rfl⟩)⟩,ht⟩
 ·obtain⟨b,hb,h⟩:=DR.1 h;obtain⟨t,ht,rfl⟩:=AO.1 h;rcases gD hb with⟨e,hm⟩|⟨e,hm⟩
  ·exact⟨b.2,.inl ⟨e,Ar (.inr hm)⟩,ht⟩
  ·exact⟨b.2,.inr ⟨e,Ar (.inr hm)⟩,ht⟩
theorem BH.ut {N ar l}(h:BH N ar l){x}(hx:x∈l):∀a∈Af x,∀t∈a.A,UT t:=fun a ha=>((h.gl.msr x hx).at_ a ha).2.2
def UL (N:List Tx)(l:List AB):Prop:=∀x∈l,x.h.B∈N/\∀a∈x.A,a.B∈N
theorem BH.nm {N ar l}(h:BH N ar l):UL N l:=fun x hx=>⟨fX h ⟨x,hx,.inl rfl⟩,fun a ha=>fX h ⟨x,hx,.inr ⟨a,ha,rfl⟩⟩⟩
def LB (l:List AB)(q:Tx):Prop:=∃x∈l,x.o=true/\(x.h.B=q\/Way (H2 l) x.h.B q)
theorem iV {N l M}(hN:UL N l)(hM:Em N l M){q}(hq:q∈N):Jj N (Hw (Z N) M (Z N)) l (N.idxOf q)=true↔LB l q:=by
 unfold Jj LB;simp only[CW,BX,MN,DF];constructor
 ·rintro⟨x,hx,ho,h⟩;refine⟨x,hx,ho,?_⟩;rcases h with h|h
  ·exact .inl (Eh (hN x hx).1 hq h)
  ·exact .inr ((Vg hN hM (hN x hx).1 hq).1 h)
 ·rintro⟨x,hx,ho,h⟩;refine⟨x,hx,ho,?_⟩;rcases h with rfl|h
  ·exact .inl rfl
  ·exact .inr ((Vg hN hM (hN x hx).1 hq).2 h)
theorem cN {x}(hX:XR x)(k){N:List Tx}(hN:∀a∈x.A,a.B∈N)(hlen:∀a∈x.A,∀b∈x.A,a.B=b.B->Z a.A=Z b.A):Tk (ren x) k↔Tk x k:=by
 obtain⟨s0,e0,h1⟩:=hX.search (N:=N) (k:=k) hN hlen
 obtain⟨s1,e1,h2⟩:=Pr DX N (ren x) k (fun a ha=>by
  obtain⟨b,hb,rfl⟩:=AO.1 ha;exact hN b hb) (fun t ht=>hX.inO.ut _ (Ar (.inl ⟨hX.o,rfl⟩)) t ht) (fun a ha t ht=>hX.inO.ut _ (Ar (.inr ha)) t ht) (fun a ha b hb e=>by
  obtain⟨a',ab,rfl⟩:=AO.1 ha;obtain⟨b',aa,rfl⟩:=AO.1 hb
  simpa[C8]using hlen a' ab b' aa e) fun t ht u hu e=>DX.inj t u ht hu e
 rw[e0]at e1;cases e1;exact h2.symm.trans h1
theorem VK {N ar l}(hR:BH N ar l){x}(hx:x∈l)(ho:x.o=false)(k):(KZ N x k).isSome=true↔Dx (F7 (ren x) k)=true/\Tk (ren x) k:=by
 have hu:=hR.ut hx;have hX:=hR.xr hx ho;have hN:=(hR.nm x hx).2;have hlen:=hR.gl.ar x hx;obtain⟨s0,e0,h1⟩:=Pr DX N x k hN (fun t ht=>hu _ (Ar (.inl ⟨ho,rfl⟩)) t ht) (fun a ha t ht=>hu _ (Ar (.inr ha)) t ht) hlen fun t ht u hu e=>DX.inj t u ht hu e;rw[cN hX k hN hlen,<-h1];have ab:Dx (F7 (ren x) k)=Gg (F7 x k):=by
  have hs:∀z:AB,(∀a∈Af z,∀t∈a.A,UT t)->z.o=false->Gg (F7 z k)=Dx (F7 z k):=fun z hz aa=>Uw (x:=F7 z k) fun a ha w hw=>by
   have ha:a=z.h\/a∈z.A.eraseIdx k:=by simpa[Af,F7]using ha
   rcases ha with rfl|ha
   ·exact aO (hz _ (Ar (.inl ⟨aa,rfl⟩)) w hw)
   ·exact aO (hz _ (Ar (.inr (FY ha))) w hw)
  rw[<-hs (ren x) hX.inO.ut ho,hX.safe k,hs x hu ho]
 rw[ab];unfold KZ;rw[e0];simp only[IQ];unfold My;split
 ·rename_i hs;rw[OI];exact⟨fun h=>⟨hs,h⟩,fun h=>h.2⟩
 ·rename_i hs;simp[hs]
end Go.Proofs.YtmoeoppbmhfbpabGreatDoorI
