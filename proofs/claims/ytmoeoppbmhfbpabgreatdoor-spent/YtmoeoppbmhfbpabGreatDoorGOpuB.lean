import Derived.Test.YtmoeoppbmhfbpabGreatDoorGLinD
import Derived.Test.YtmoeoppbmhfbpabGreatDoorGEngU
import Derived.Test.YtmoeoppbmhfbpabGreatDoorGPrtH
import Derived.Test.YtmoeoppbmhfbpabGreatDoorGAgrB
import Derived.Test.YtmoeoppbmhfbpabGreatDoorGOptC
import Derived.Test.YtmoeoppbmhfbpabGreatDoorGRerA
import Derived.Test.YtmoeoppbmhfbpabGreatDoorGPrtF
import Derived.Test.YtmoeoppbmhfbpabGreatDoorGSpaE
set_option maxHeartbeats 64000000
set_option maxRecDepth 100000
set_option linter.all false
namespace Go.Proofs.YtmoeoppbmhfbpabGreatDoorG
open Go.Abs
def Oq (c:UInt8):Bool:=decide (c=115\/c=97\/c=114\/c=117\/c=108)
theorem eO (c:UInt8)(σ:St):ACalls Tryz.prog 72 [sc (.int .u8 c.toNat)] σ fun r σ'=>r=sc (.bool (Oq c))/\σ'=σ:=by
 have key:∀(k:UInt8) (n:Int),n=(k.toNat:Int)->((c.toNat:Int)==n)=decide (c=k):=fun k n e=>by rw[e];exact Zy
 have e1:=key 115 115 rfl;have e2:=key 97 97 rfl;have e3:=key 114 114 rfl;have e4:=key 117 117 rfl;have e5:=key 108 108 rfl;have hp:Oq c=(decide (c=115)||(decide (c=97)||(decide (c=114)||(decide (c=117)||decide (c=108))))):=by
  unfold Oq;simp only[Bool.decide_or]
 have HP:Agt _:=hp;clear key hp;generalize decide (c=115)=b1 at e1 HP;generalize decide (c=97)=b2 at e2 HP;generalize decide (c=114)=b3 at e3 HP;generalize decide (c=117)=b4 at e4 HP;generalize decide (c=108)=b5 at e5 HP;cases b1<;>cases b2<;>cases b3<;>cases b4<;>cases b5
 all_goals
  refine Z9 10 [.tmp 2] Tryz.func72 ?_
  repeat' (first|refine Z1 ?_|(refine Z8 ?_;intro κ hκ)|(refine Z4 ?_;clear hκ κ)|(refine Z2 ?_ ?_<;>intro h aa<;>try exact Xp)|refine Z3 ?_|exact⟨⟩|(apply hκ.out;clear hκ κ))
  exact⟨_,rfl,by rw[HP.out];rfl⟩
def Ct (t:Tx):Bool:=decide (t.length<=8)&&t.all Oq
theorem U8 (t:Tx)(σ:St):ACalls Tryz.prog 38 [str t] σ fun r σ'=>r=sc (.bool (Ct t))/\σ'=σ:=by
 have hI:=fun c σ=>eO c σ;by_cases h8:8<t.length
 ·have hb:decide ((8:Int)<(t.length:Int))=true:=by simp;omega
  have HL:Agt (Ct t=false):=by rw[Agt,Ct,decide_eq_false Agm];rfl
  refine Z9 18 [.tmp 2] Tryz.func38 ?_
  repeat' (first|refine Z1 ?_|(refine Z8 ?_;intro κ hκ)|(refine Z4 ?_;clear hκ κ)|(refine Z2 ?_ ?_<;>intro h aa<;>try exact Xp)|refine Z3 ?_|exact⟨⟩|(apply hκ.out;clear hκ κ))
  exact⟨_,rfl,by rw[HL.out]⟩
 ·have hb:decide ((8:Int)<(t.length:Int))=false:=by simp;omega
  refine Z9 18 [.tmp 2] Tryz.func38 ?_
  repeat' (first|refine Z1 ?_|(refine Z8 ?_;intro κ hκ)|(refine Z4 ?_;clear hκ κ)|(refine Z2 ?_ ?_<;>intro h aa<;>try exact Xp)|refine Z3 ?_|exact⟨⟩|(apply hκ.out;clear hκ κ))
  refine Ag (fun m s σ'=>∃i:Nat,m=t.length-i/\i<=t.length/\s 0=str t/\s 3=sc (.int .i64 i)/\σ'=σ/\Agt (∀c∈t.take i,Oq c=true)) t.length
   ⟨0,Agm,Agm,rfl,rfl,rfl,by simp[Agt]⟩ ?_
  rintro m s σ' ⟨i,rfl,hi,h0,h3,hσ,hA⟩;by_cases ac:i<t.length
  ·have ab:=List.getElem?_eq_getElem ac;generalize t[i]=c at ab;have hI:=hI c;cases hc:Oq c with
   |true=>
    rw[hc]at hI;have HA:Agt (∀c∈t.take (i+1),Oq c=true):=by
     rw[Agt,Ad3,ab,Afe];intro d hd;rcases Aew.1 hd with hd|hd
     ·exact hA.out d hd
     ·simp at hd;subst hd;exact hc
    clear hA hc
    repeat' (first|refine Z1 ?_|(refine Z8 ?_;intro κ hκ)|(refine Z4 ?_;clear hκ κ)|(refine Z2 ?_ ?_<;>intro h aa<;>try exact Xp)|(refine Z5 ?_;refine Xi (hI _) ?_;rintro _ _ ⟨rfl,rfl⟩)|refine Z3 ?_|exact⟨⟩|(apply hκ.out;clear hκ κ))
    refine⟨t.length-(i+1),Agm,i+1,?_⟩
    ((repeat' with_reducible refine And.intro ?_ ?_)<;>first|exact Xq|exact (HA)|exact Xs)
   |false=>
    rw[hc]at hI;have HL:Agt (Ct t=false):=by
     have:t.all Oq=false:=Aft.2 ⟨c,Adt ab,by simp[hc]⟩;rw[Agt,Ct,this];simp
    clear hA hc
    repeat' (first|refine Z1 ?_|(refine Z8 ?_;intro κ hκ)|(refine Z4 ?_;clear hκ κ)|(refine Z2 ?_ ?_<;>intro h aa<;>try exact Xp)|(refine Z5 ?_;refine Xi (hI _) ?_;rintro _ _ ⟨rfl,rfl⟩)|refine Z3 ?_|exact⟨⟩|(apply hκ.out;clear hκ κ))
    exact⟨_,rfl,by rw[HL.out]⟩
  ·have ad:i=t.length:=Agm;have HL:Agt (Ct t=true):=by
    have:=hA.out;rw[ad,Adz]at this;rw[Agt,Ct,decide_eq_true Agm,Ads.2 this];rfl
   clear hA
   repeat' (first|refine Z1 ?_|(refine Z8 ?_;intro κ hκ)|(refine Z4 ?_;clear hκ κ)|(refine Z2 ?_ ?_<;>intro h aa<;>try exact Xp)|refine Z3 ?_|exact⟨⟩|(apply hκ.out;clear hκ κ))
   exact⟨_,rfl,by rw[HL.out]⟩
inductive GChg (T:List RItem->Option (List RItem)->Prop)(b:Int)(l:List RItem)(m:Int):List RItem->Int->Prop where
 |refl:GChg T b l m l m
 |snoc {l1 l2:List RItem} {m1:Int}:GChg T b l m l1 m1->m1<b->T l1 (some l2)->GChg T b l m l2 (m1+1)
def Qx (T:List RItem->Option (List RItem)->Prop)(b:Int)(l:List RItem)(m:Int)(l':List RItem)(m':Int):Prop:=GChg T b l m l' m'/\(b<=m'\/T l' none)
inductive GPss (T:UInt8->List RItem->Option (List RItem)->Prop)(b:Int)(l:List RItem)(m:Int):Tx->List RItem->Int->Prop where
 |nil:GPss T b l m [] l m
 |snoc {ps:Tx} {c:UInt8} {l1 l2:List RItem} {m1 m2:Int}:GPss T b l m ps l1 m1->Qx (T c) b l1 m1 l2 m2->GPss T b l m (ps++[c]) l2 m2
structure Ml (T:List RItem->Option (List RItem)->Prop)(N:List Tx)(ar:Tx->Nat)(c:UInt8):Prop where
 call:∀(l:List RItem) (cs:List AV) (idn idi:Nat),RtL N ar l->EL (PI N) l cs->∀σ:St,ACalls Tryz.prog 73 [B9 N idn l idi cs,sc (.int .u8 c.toNat)] σ fun r σ'=>(∃x b,r=tp [x,sc (.bool b)]/\StpR T N l idn x b)/\Keep σ σ'
 rt:∀l l',T l (some l')->RtL N ar l->RtL N ar l'
theorem Q6 (T:UInt8->List RItem->Option (List RItem)->Prop)(N:List Tx)(ar:Tx->Nat)(l:List RItem)(cs:List AV)(idn idi:Nat)(t:Tx)(b:Int)(bm:0<=b)(bi:b<=9223372036854775807)(a9:t.length<=8)(ht:∀c∈t,Ml (T c) N ar c)(hR:RtL N ar l)(hE:EL (PI N) l cs)(σ:St):
  ACalls Tryz.prog 39 [B9 N idn l idi cs,str t,sc (.int .i64 b)] σ fun r σ'=>(∃l' id c' m,r=tp [B9 N idn l' id c',sc (.int .i64 m)]/\GPss T b l 0 t l' m/\RtL N ar l'/\EL (PI N) l' c')/\Keep σ σ':=by
 have hC:=fun l cs idi c (hc:Ml (T c) N ar c) hR hE σ=>hc.call l cs idn idi hR hE σ;refine Z9 36 [.cell 6 62,.tmp 7] Tryz.func39 ?_
 repeat' (first|refine Z1 ?_|(refine Z8 ?_;intro κ hκ)|(refine Z4 ?_;clear hκ κ)|(refine Z2 ?_ ?_<;>intro h aa<;>try exact Xp)|refine Z3 ?_|exact⟨⟩|(apply hκ.out;clear hκ κ))
 refine Ag (fun k s σ'=>∃(i:Nat) (m:Int) (l1:List RItem) (id1:Nat) (c1:List AV),k=t.length-i/\i<=t.length/\0<=m/\m<=b/\s 1=str t/\s 2=sc (.int .i64 b)/\s 3=ptr σ.nobj 0/\s 6=ptr (σ.nobj+1) 0/\s 8=sc (.int .i64 m)/\s 9=sc (.int .i64 i)/\Keep σ σ'/\σ.nobj+1<σ'.nobj/\σ'.obj σ.nobj=[sl idn N.length (N.map str),sl id1 l1.length c1]/\σ'.obj (σ.nobj+1)=[nilS,nilS]/\Agt (GPss T b l 0 (t.take i) l1 m/\RtL N ar l1/\EL (PI N) l1 c1)) t.length
  ⟨0,0,l,idi,cs,Agm,Agm,Agm,Agm,rfl,rfl,Ago,Ago,Ago,Ago,Xs,Agq,by rw[Af Agq,Ap],by first|exact Ap|simp[Ap],⟨GPss.nil,hR,hE⟩⟩ ?_
 rintro k s σ' ⟨i,m,l1,id1,c1,rfl,hi,bh,bg,h1,h2,h3,h6,h8,h9,hK,hno,ad,ac,hA⟩;have aw:=hK.nobj;by_cases ay:i<t.length
 ·have ah:=List.getElem?_eq_getElem ay;have au:=ht t[i] (Afa ay);generalize t[i]=c at ah au;have HP:Agt (∀l2 m2,Qx (T c) b l1 m l2 m2->GPss T b l 0 (t.take (i+1)) l2 m2):=fun l2 m2 h=>by
   rw[Ad3,ah,Afe];exact GPss.snoc hA.out.1 h
  have a0:Agt (RtL N ar l1):=hA.out.2.1;have a3:Agt (EL (PI N) l1 c1):=hA.out.2.2;clear hA
  repeat' (first|refine Z1 ?_|(refine Z8 ?_;intro κ hκ)|(refine Z4 ?_;clear hκ κ)|(refine Z2 ?_ ?_<;>intro h aa<;>try exact Xp)|refine Z3 ?_|exact⟨⟩|(apply hκ.out;clear hκ κ))
  refine Ag (fun k s σ2=>∃(m2:Int) (l2:List RItem) (id2:Nat) (c2:List AV),k=(b-m2).toNat/\m<=m2/\m2<=b/\s 1=str t/\s 2=sc (.int .i64 b)/\s 3=ptr σ.nobj 0/\s 6=ptr (σ.nobj+1) 0/\s 8=sc (.int .i64 m2)/\s 9=sc (.int .i64 i)/\Keep σ σ2/\σ.nobj+1<σ2.nobj/\σ2.obj σ.nobj=[sl idn N.length (N.map str),sl id2 l2.length c2]/\σ2.obj (σ.nobj+1)=[nilS,nilS]/\Agt (GChg (T c) b l1 m l2 m2/\RtL N ar l2/\EL (PI N) l2 c2)) (b-m).toNat
   ⟨m,l1,id1,c1,rfl,Agm,Agm,Agn,Agn,Agn,Agn,Agn,Agn,hK,hno,ad,ac,⟨GChg.refl,a0.out,a3.out⟩⟩ ?_
  clear h1 h2 h3 h6 h8 h9 hK hno ad ac aw a0 a3;rintro k s σ2 ⟨m2,l2,id2,c2,rfl,bd,bf,h1,h2,h3,h6,h8,h9,hK,hno,ad,ac,hA⟩;have aw:=hK.nobj;by_cases ap:m2<b
  ·have hC:=hC l2 c2 id2 c au hA.out.2.1 hA.out.2.2;have ao:decide (m2<b)=true:=by simpa using ap
   repeat' (first|refine Z1 ?_|(refine Z8 ?_;intro κ hκ)|(refine Z4 ?_;clear hκ κ)|(refine Z2 ?_ ?_<;>intro h aa<;>try exact Xp)|refine Z3 ?_|exact⟨⟩|(apply hκ.out;clear hκ κ))
   refine B6 (Q:=fun e s' σ''=>e= .normal/\∃(o10 t1 t2:Nat) (t3:List AV) (t4 t5:Nat) (t6:List AV) (b':Bool),s' 10=ptr o10 0/\σ2.nobj<=o10/\o10<σ''.nobj/\σ''.obj o10=[sl t1 t2 t3,sl t4 t5 t6]/\s' 11=sc (.bool b')/\StpR (T c) N l2 idn (ag [sl t1 t2 t3,sl t4 t5 t6]) b'/\s' 1=s 1/\s' 2=s 2/\s' 3=s 3/\s' 6=s 6/\s' 8=s 8/\s' 9=s 9/\Keep σ2 σ'') ?_ ?_
   ·have bo:(∀p:Nat,some σ.nobj=some p->p<σ2.nobj)=True:=eq_true fun p e=>by cases e;omega
    have bn:(∀p:Nat,False->p<σ2.nobj)=True:=eq_true fun p e=>e.elim;refine Bh Al (fun p=>p<σ2.nobj) [] [0,1,2,3] 7 #[true,true,true,true,false,false,false,false,false,false,false] Agp (fun _ _ _ h=>by cases h.1) ?_;intro κ hκ;refine Z3 ?_;refine hκ.out _ ?_;clear hκ κ;refine D4 (rs:=[4,8]) Agp (by simp) ?_;intro j hj;simp only[Aeq,Ae8,Agk]at hj;rcases hj with rfl|rfl
    ·refine Ar ?_;intro κ hκ;refine Z3 ?_;refine ACalls.mono (hC _) ?_;rintro _ σ5 ⟨⟨x5,b5,rfl,aj⟩,ab⟩;obtain⟨t1,t2,t3,t4,t5,t6,rfl⟩:=aj.1;have af:=ab.nobj;refine Z3 ?_;refine hκ.out _ _ ⟨Aq ab,?_⟩;clear hκ κ;refine V2 [5,6,7] 3 6 #[true,true,true,true,true,true,true,true,false,false,false] rfl Agp Agp (fun _ _ _ h=>by cases h.1) (ab).nobj (fun o ho _=>(ab).ver o ho) ?_;intro κ hκ;refine Z3 ?_;refine hκ.out _ ?_;clear hκ κ;refine Ao (i:=8) Agp ?_;refine Ar ?_;intro κ hκ;refine Z3 ?_;refine hκ.out _ _ ⟨Aq ((Keep.refl _).new _),?_⟩;clear hκ κ;refine Ao (i:=9) Agp ?_;refine Ar ?_;intro κ hκ;refine Z3 ?_;refine hκ.out _ _ ⟨fun _ o ho _=>by simp[St.put,St.new];omega,?_⟩;clear hκ κ;refine I5 [10] Agp Agp (fun _ _ _ h=>by cases h.1) Ags (fun o ho _=>by simp[St.put,St.new];omega) ?_;intro κ hκ;refine Z3 ?_;refine hκ.out _ _ ⟨rfl,σ5.nobj,t1,t2,t3,t4,t5,t6,b5,Ago,Agm,Ags,by rw[Aj],Ago,aj,Ago,Ago,Ago,Ago,Ago,Ago,(ab.new _).put Agm _⟩
    ·refine Ar ?_;intro κ hκ;refine Z3 ?_;refine hκ.out _ _ ⟨Aq ((Keep.refl _).new _),?_⟩;clear hκ κ;refine Ao (i:=4) Agp ?_;refine Ar ?_;intro κ hκ;refine Z3 ?_;refine ACalls.mono (hC _) ?_;rintro _ σ5 ⟨⟨x5,b5,rfl,aj⟩,ab⟩;obtain⟨t1,t2,t3,t4,t5,t6,rfl⟩:=aj.1;have af:=ab.nobj;have ae:=ab.obj;simp only[Aa]at af ae;have ak:Keep σ2 σ5:=((Keep.refl _).new _).trans ab;have a4:σ5.obj σ2.nobj=[nilS,nilS]:=by rw[ae _ Agm,Ap]
     refine Z3 ?_;refine hκ.out _ _ ⟨Aq ak,?_⟩;clear hκ κ;refine V2 [5,6,7] 2 5 #[true,true,true,true,true,true,true,true,true,false,false] rfl Agp Agp (fun _ _ _ h=>by cases h.1) (ak).nobj (fun o ho _=>(ak).ver o ho) ?_;intro κ hκ;refine Z3 ?_;refine hκ.out _ ?_;clear hκ κ;refine Ao (i:=9) Agp ?_;refine Ar ?_;intro κ hκ;refine Z3 ?_;refine hκ.out _ _ ⟨fun _ o ho hF=>by simp[St.put];omega,?_⟩;clear hκ κ;refine I5 [10] Agp Agp (fun _ _ _ h=>by cases h.1) (by simp only[Ab];omega) (fun o ho hF=>by simp[St.put];omega) ?_;intro κ hκ;refine Z3 ?_;refine hκ.out _ _ ⟨rfl,σ2.nobj,t1,t2,t3,t4,t5,t6,b5,Ago,Agm,by simp only[Ab];omega,by rw[Aj],Ago,aj,Ago,Ago,Ago,Ago,Ago,Ago,ak.put Agm _⟩
   ·rintro e s' σ'' ⟨rfl,o10,t1,t2,t3,t4,t5,t6,b',g10,bb,ba,a6,g11,a8,g1,g2,g3,g6,g8,g9,am⟩;rw[h1]at g1;rw[h2]at g2;rw[h3]at g3;rw[h6]at g6;rw[h8]at g8;rw[h9]at g9;have ak:=hK.trans am;have a5:=am.nobj;have oz0:σ''.obj σ.nobj=[sl idn N.length (N.map str),sl id2 l2.length c2]:=by rw[am.obj _ Agm,ad]
    have oz1:σ''.obj (σ.nobj+1)=[nilS,nilS]:=by rw[am.obj _ Agm,ac]
    obtain⟨-,o,ai,an,av⟩:=a8;clear h1 h2 h3 h6 h8 h9 hK am ad ac hC;cases o with
    |none=>
     simp only[Age]at an;subst an;have HQ:=HP.out l2 m2 ⟨hA.out.1,.inr ai⟩;have HZ:Agt (GPss T b l 0 (t.take (i+1)) l2 m2/\RtL N ar l2/\EL (PI N) l2 c2):=⟨HQ,hA.out.2⟩;clear HQ HP hA ai av
     repeat' (first|refine Z1 ?_|(refine Z8 ?_;intro κ hκ)|(refine Z4 ?_;clear hκ κ)|(refine Z2 ?_ ?_<;>intro h aa<;>try exact Xp)|refine Z3 ?_|exact⟨⟩|(apply hκ.out;clear hκ κ))
     refine⟨t.length-(i+1),Agm,i+1,m2,l2,id2,c2,?_⟩
     ((repeat' with_reducible refine And.intro ?_ ?_)<;>first|exact Xq|exact (HZ)|exact Xs)
    |some l3=>
     simp only[Option.isSome_some]at an;subst an;obtain⟨id3,c3,ax,az⟩:=av l3 rfl;simp only[DataW.agg.injEq,Af9,and_true]at ax;obtain⟨e1,e2⟩:=ax;rw[e1,e2]at a6;have HZ:Agt (GChg (T c) b l1 m l3 (m2+1)/\RtL N ar l3/\EL (PI N) l3 c3):=⟨GChg.snoc hA.out.1 ap ai,au.rt _ _ ai hA.out.2.1,az⟩;clear HP hA ai av az e1 e2
     repeat' (first|refine Z1 ?_|(refine Z8 ?_;intro κ hκ)|(refine Z4 ?_;clear hκ κ)|(refine Z2 ?_ ?_<;>intro h aa<;>try exact Xp)|refine Z3 ?_|exact⟨⟩|(apply hκ.out;clear hκ κ))
     refine⟨(b-(m2+1)).toNat,Agm,m2+1,l3,id3,c3,?_⟩
     ((repeat' with_reducible refine And.intro ?_ ?_)<;>first|exact Xq|exact (HZ)|exact Xs)
  ·have be:m2=b:=Agm;have HQ:=HP.out l2 m2 ⟨hA.out.1,.inl Agm⟩;have HZ:Agt (GPss T b l 0 (t.take (i+1)) l2 m2/\RtL N ar l2/\EL (PI N) l2 c2):=⟨HQ,hA.out.2⟩;clear HQ HP hA;have ao:decide (m2<b)=false:=by simpa using ap
   repeat' (first|refine Z1 ?_|(refine Z8 ?_;intro κ hκ)|(refine Z4 ?_;clear hκ κ)|(refine Z2 ?_ ?_<;>intro h aa<;>try exact Xp)|refine Z3 ?_|exact⟨⟩|(apply hκ.out;clear hκ κ))
   refine⟨t.length-(i+1),Agm,i+1,m2,l2,id2,c2,?_⟩
   ((repeat' with_reducible refine And.intro ?_ ?_)<;>first|exact Xq|exact (HZ)|exact Xs)
 ·have a7:i=t.length:=Agm;subst a7;rw[Adz]at hA
  repeat' (first|refine Z1 ?_|(refine Z8 ?_;intro κ hκ)|(refine Z4 ?_;clear hκ κ)|(refine Z2 ?_ ?_<;>intro h aa<;>try exact Xp)|refine Z3 ?_|exact⟨⟩|(apply hκ.out;clear hκ κ))
  exact⟨_,rfl,⟨l1,id1,c1,m,rfl,hA.out⟩,Xs⟩
abbrev rW (p:Tx×Int×Int):AV:=tp [str p.1,sc (.int .i64 p.2.1),sc (.int .i64 p.2.2)]
def E4 (T:List Tx->UInt8->List RItem->Option (List RItem)->Prop)(t ps:Tx)(b:Int)(r:Tx×Int×Int):Prop:=
 if (Ax t).1≠0 then r=([],0,(Ax t).1)else
 if Ct ps=false then r=([],0,11)else
 if b<0 then r=([],0,6)else
 ∃N l cs ar l' m,Right t N l cs/\Vf l ar/\RtL N ar l'/\GPss (T N) b l 0 ps l' m/\r=(Cg l',m,0)
theorem Ud (T:List Tx->UInt8->List RItem->Option (List RItem)->Prop)(t ps:Tx)(b:Int)(hb:b<=9223372036854775807)(an:Ct ps=true->∀N ar,∀c∈ps,Ml (T N c) N ar c)(σ:St):ACalls Tryz.prog 15 [str t,str ps,sc (.int .i64 b)] σ fun r σ'=>∃p,r=rW p/\E4 T t ps b p/\Keep σ σ':=by
 have hL:=fun σ=>X5 t σ;have hA:=fun σ=>U8 ps σ;by_cases he:(Ax t).1=0
 ·have HE:Agt ((Ax t).1=0):=he;have a0:((Ax t).1 !=0)=false:=by simpa using he
  have am:t.length<=600:=by
   by_cases hl:600<t.length
   ·unfold Ax at he;rw[if_pos hl]at he;simp at he
   ·omega
  have ae:Agt (∀r,(if Ct ps=false then r=([],0,11)else if b<0 then r=([],0,6)else∃N l cs ar l' m,Right t N l cs/\Vf l ar/\RtL N ar l'/\GPss (T N) b l 0 ps l' m/\r=(Cg l',m,0))->E4 T t ps b r):=fun r h=>by
   unfold E4;rw[if_neg (by simp[HE.out])];exact h
  clear he;cases hp:Ct ps with
  |false=>
   rw[hp]at hA;have HP:Agt (E4 T t ps b ([],0,11)):=ae.out _ (by rw[if_pos hp]);clear ae hp;refine Z9 38 [.tmp 6,.tmp 7,.tmp 8] Tryz.func15 ?_
   repeat' (first|refine Z1 ?_|(refine Z8 ?_;intro κ hκ)|(refine Z4 ?_;clear hκ κ)|(refine Z2 ?_ ?_<;>intro h ad<;>try exact Xp)|(refine Z5 ?_;first|(refine Xi (hL _) ?_;rintro _ _ ⟨idn,n1,c1,idi,n2,c2,rfl,ab,aa⟩;(have ac:=ab.nobj;clear aa))|(refine Xi (hA _) ?_;rintro _ _ ⟨rfl,rfl⟩))|refine Z3 ?_|exact⟨⟩|(apply hκ.out;clear hκ κ))
   exact⟨_,rfl,_,rfl,HP.out,Xs⟩
  |true=>
   rw[hp]at hA;have az:ps.length<=8:=by
    unfold Ct at hp;simp only[Adv,Agi]at hp;exact hp.1
   by_cases ah:b<0
   ·have a3:decide (b<0)=true:=by simpa using ah
    have HP:Agt (E4 T t ps b ([],0,6)):=ae.out _ (by rw[if_neg (by simp[hp]),if_pos ah]);clear ae hp;refine Z9 38 [.tmp 6,.tmp 7,.tmp 8] Tryz.func15 ?_
    repeat' (first|refine Z1 ?_|(refine Z8 ?_;intro κ hκ)|(refine Z4 ?_;clear hκ κ)|(refine Z2 ?_ ?_<;>intro h ad<;>try exact Xp)|(refine Z5 ?_;first|(refine Xi (hL _) ?_;rintro _ _ ⟨idn,n1,c1,idi,n2,c2,rfl,ab,aa⟩;(have ac:=ab.nobj;clear aa))|(refine Xi (hA _) ?_;rintro _ _ ⟨rfl,rfl⟩))|refine Z3 ?_|exact⟨⟩|(apply hκ.out;clear hκ κ))
    exact⟨_,rfl,_,rfl,HP.out,Xs⟩
   ·have a3:decide (b<0)=false:=by simpa using ah
    have HP:Agt (∀r,(∃N l cs ar l' m,Right t N l cs/\Vf l ar/\RtL N ar l'/\GPss (T N) b l 0 ps l' m/\r=(Cg l',m,0))->E4 T t ps b r):=fun r h=>ae.out _ (by rw[if_neg (by simp[hp]),if_neg ah];exact h);have ba:Agt (∃ar,Vf (Cp t) ar):=Adc HE.out;have a8:Agt _:=an hp;clear ae hp an;refine Z9 38 [.tmp 6,.tmp 7,.tmp 8] Tryz.func15 ?_
    repeat' (first|refine Z1 ?_|(refine Z8 ?_;intro κ hκ)|(refine Z4 ?_;clear hκ κ)|(refine Z2 ?_ ?_<;>intro h ad<;>try exact Xp)|(refine Z5 ?_;first|(refine Xi (hL _) ?_;rintro _ _ ⟨idn,n1,c1,idi,n2,c2,rfl,ab,aa⟩;(have ac:=ab.nobj;obtain⟨N,l,hp,aw,rfl,rfl,rfl,ay,ao⟩:=aa HE.out;have ai:Right t N l c2:=⟨HE.out,am,hp,aw,ao⟩;have af:∃ar,Vf l ar:=(by rw[<-ai.items];exact ba.out);obtain⟨ar,af⟩:=af;have a5:=fun σ=>Q6 (T N) N ar l c2 idn idi ps b Agm hb az (a8.out N ar) (ai.rt af) aw.el σ;have a7:Agt _:=ai;have a9:Agt _:=af;clear hp aa ay ao ai af))|(refine Xi (hA _) ?_;rintro _ _ ⟨rfl,rfl⟩)|(refine Xi (a5 _) ?_;rintro _ _ ⟨⟨l',id',c',m',rfl,ap,aj,a6⟩,av⟩;(have ak:=av.nobj;simp only[Ab,Aa]at ak;have a4:=fun σ=>jX N l' c' idn id' ((aj.gl.bkm a6).bk aj.gl.len) aj.wi σ;have HZ:Agt (E4 T t ps b (Cg l',m',0)):=HP.out _ ⟨N,l,c2,ar,l',m',a7.out,a9.out,aj,ap,rfl⟩;clear ap))|(refine Xi (a4 _) ?_;rintro _ _ ⟨rfl,au⟩;(have ax:=au.nobj)))|refine Z3 ?_|exact⟨⟩|(apply hκ.out;clear hκ κ))
    exact⟨_,rfl,_,rfl,HZ.out,(((((ab.new _).put Agm _).trans av).new _).put Agm _).trans au⟩
 ·have a0:((Ax t).1 !=0)=true:=by simpa using he
  have HP:Agt (E4 T t ps b ([],0,(Ax t).1)):=by unfold E4;rw[if_pos he];rfl
  clear he;refine Z9 38 [.tmp 6,.tmp 7,.tmp 8] Tryz.func15 ?_
  repeat' (first|refine Z1 ?_|(refine Z8 ?_;intro κ hκ)|(refine Z4 ?_;clear hκ κ)|(refine Z2 ?_ ?_<;>intro h ad<;>try exact Xp)|(refine Z5 ?_;refine Xi (hL _) ?_;rintro _ _ ⟨idn,n1,c1,idi,n2,c2,rfl,ab,aa⟩;(have ac:=ab.nobj;clear aa))|refine Z3 ?_|exact⟨⟩|(apply hκ.out;clear hκ κ))
  exact⟨_,rfl,_,rfl,HP.out,Xs⟩
def StA (N:List Tx)(l:List RItem)(o:Option (List RItem)):Prop:=
 (o=none/\pC N l l.length)\/∃i k y,o=some (rpl i [D9 y k] l)/\l[i]?=some y/\y.out=false/\k<y.body.length/\Ot N l i k=true/\pC N l i/\∀k',k'<k->Ot N l i k'=false
def StR (N:List Tx)(l:List RItem)(o:Option (List RItem)):Prop:=
 (o=none/\pB N l l.length)\/∃i y,o=some (rpl i [] l)/\l[i]?=some y/\y.out=false/\Cj N l (rpl i [] l)=true/\Vp N l i y true/\pB N l i
theorem chA.stp {N:List Tx}{l:List RItem}{idn:Nat}{x:AV}{b:Bool}(h:chA N l idn x b)(ht:fY x):StpR (StA N) N l idn x b:=by
 refine⟨ht,?_⟩;rcases h with⟨rfl,h⟩|⟨rfl,i,k,y,h1,h2,h3,h4,h5,h6,id,c',h7,h8⟩
 ·exact⟨none,.inl ⟨rfl,h⟩,rfl,fun l' e=>by cases e⟩
 ·exact⟨_,.inr ⟨i,k,y,rfl,h1,h2,h3,h4,h5,h6⟩,rfl,fun l' e=>by cases e;exact⟨id,c',h7,h8⟩⟩
theorem chR.stp {N:List Tx}{l:List RItem}{idn:Nat}{x:AV}{b:Bool}(h:chR N l idn x b)(ht:fY x):StpR (StR N) N l idn x b:=by
 refine⟨ht,?_⟩;rcases h with⟨rfl,h⟩|⟨rfl,i,y,h1,h2,h3,h4,h5,id,c',h7,h8⟩
 ·exact⟨none,.inl ⟨rfl,h⟩,rfl,fun l' e=>by cases e⟩
 ·exact⟨_,.inr ⟨i,y,rfl,h1,h2,h3,h4,h5⟩,rfl,fun l' e=>by cases e;exact⟨id,c',h7,h8⟩⟩
theorem StA.rt {N:List Tx}{ar:Tx->Nat}{l l':List RItem}(h:StA N l (some l'))(hR:RtL N ar l):RtL N ar l':=by
 rcases h with⟨h,-⟩|⟨i,k,y,h,h1,h2,h3,h4,-⟩
 ·cases h
 ·cases h;refine hR.wo h1 h2 ?_;unfold Ot at h4;rw[h1]at h4;simp only[Adv]at h4;obtain⟨s,hs⟩:=Ad2.1 h4.1;unfold cI at hs;obtain⟨s0,-,hs⟩:=Option.bind_eq_some_iff.1 hs;unfold Hv at hs;split at hs
  ·assumption
  ·cases hs
theorem StR.rt {N:List Tx}{ar:Tx->Nat}{l l':List RItem}(h:StR N l (some l'))(hR:RtL N ar l):RtL N ar l':=by
 rcases h with⟨h,-⟩|⟨i,y,h,-⟩
 ·cases h
 ·cases h;exact hR.less i
theorem qC (N:List Tx)(ar:Tx->Nat)(l:List RItem)(cs:List AV)(idn idi:Nat)(hR:RtL N ar l)(hE:EL (PI N) l cs)(σ:St):
  ACalls Tryz.prog 73 [B9 N idn l idi cs,sc (.int .u8 (97:UInt8).toNat)] σ fun r σ'=>(∃x b,r=tp [x,sc (.bool b)]/\StpR (StA N) N l idn x b)/\Keep σ σ':=by
 have hS:=fun σ=>N5 N l cs idn idi hR.gl hE σ;have e1:((((97:UInt8).toNat:Nat):Int)==115)=false:=rfl;have e2:((((97:UInt8).toNat:Nat):Int)==97)=true:=rfl;refine Z9 38 [.cell 4 62,.tmp 5] Tryz.func73 ?_
 repeat' (first|refine Z1 ?_|(refine Z8 ?_;intro κ hκ)|(refine Z4 ?_;clear hκ κ)|(refine Z2 ?_ ?_<;>intro h af<;>try exact Xp)|(refine Z5 ?_;refine Xi (hS _) ?_;rintro _ _ ⟨⟨x1,b1,rfl,ac,ad⟩,ae⟩;(have HX:Agt _:=ac;have HT:Agt (fY x1):=ad;obtain⟨t1,t2,t3,t4,t5,t6,rfl⟩:=ad;clear ac;have ab:=ae.nobj;have aa:=ae.obj;(try simp only[Aa]at ab aa)))|refine Z3 ?_|exact⟨⟩|(apply hκ.out;clear hκ κ))
 exact⟨_,rfl,⟨_,b1,rfl,chA.stp HX.out HT.out⟩,Xs⟩
theorem qA (N:List Tx)(ar:Tx->Nat)(l:List RItem)(cs:List AV)(idn idi:Nat)(hR:RtL N ar l)(hE:EL (PI N) l cs)(σ:St):
  ACalls Tryz.prog 73 [B9 N idn l idi cs,sc (.int .u8 (114:UInt8).toNat)] σ fun r σ'=>(∃x b,r=tp [x,sc (.bool b)]/\StpR (StR N) N l idn x b)/\Keep σ σ':=by
 have hS:=fun σ=>Mf N l cs idn idi _ hR.gl hR.bki hE σ;have e1:((((114:UInt8).toNat:Nat):Int)==115)=false:=rfl;have e2:((((114:UInt8).toNat:Nat):Int)==97)=false:=rfl;have e3:((((114:UInt8).toNat:Nat):Int)==114)=true:=rfl;refine Z9 38 [.cell 4 62,.tmp 5] Tryz.func73 ?_
 repeat' (first|refine Z1 ?_|(refine Z8 ?_;intro κ hκ)|(refine Z4 ?_;clear hκ κ)|(refine Z2 ?_ ?_<;>intro h af<;>try exact Xp)|(refine Z5 ?_;refine Xi (hS _) ?_;rintro _ _ ⟨⟨x1,b1,rfl,ac,ad⟩,ae⟩;(have HX:Agt _:=ac;have HT:Agt (fY x1):=ad;obtain⟨t1,t2,t3,t4,t5,t6,rfl⟩:=ad;clear ac;have ab:=ae.nobj;have aa:=ae.obj;(try simp only[Aa]at ab aa)))|refine Z3 ?_|exact⟨⟩|(apply hκ.out;clear hκ κ))
 exact⟨_,rfl,⟨_,b1,rfl,chR.stp HX.out HT.out⟩,Xs⟩
def St5 (N:List Tx)(c:UInt8)(l:List RItem)(o:Option (List RItem)):Prop:=
 (c=115/\StS N l o)\/(c=97/\StA N l o)\/(c=114/\StR N l o)\/(c=117/\StU N l o)\/(c=108/\StL N l o)
theorem StpR.mono {T T':List RItem->Option (List RItem)->Prop}{N:List Tx}{l:List RItem}{idn:Nat}{x:AV}{b:Bool}(h:StpR T N l idn x b)(hT:∀o,T l o->T' l o):StpR T' N l idn x b:=by
 obtain⟨h1,o,h2,h3⟩:=h;exact⟨h1,o,hT o h2,h3⟩
theorem ps5 {ps:Tx}(h:Ct ps=true)(N:List Tx)(ar:Tx->Nat):∀c∈ps,Ml (St5 N c) N ar c:=fun c hc=>by
 unfold Ct at h;simp only[Adv,Ads]at h;have hp:=h.2 c hc;unfold Oq at hp;rcases of_decide_eq_true hp with rfl|rfl|rfl|rfl|rfl
 ·exact⟨fun l cs idn idi hR hE σ=>(pZ N ar l cs idn idi hR hE σ).mono fun r σ' ⟨⟨x,b,h1,h2⟩,h3⟩=>⟨⟨x,b,h1,h2.mono fun o h=>.inl ⟨rfl,h⟩⟩,h3⟩,fun l l' h hR=>by
   rcases h with⟨-,h⟩|⟨h,-⟩|⟨h,-⟩|⟨h,-⟩|⟨h,-⟩
   ·exact h.rt hR
   all_goals cases h⟩
 ·exact⟨fun l cs idn idi hR hE σ=>(qC N ar l cs idn idi hR hE σ).mono fun r σ' ⟨⟨x,b,h1,h2⟩,h3⟩=>⟨⟨x,b,h1,h2.mono fun o h=>.inr (.inl ⟨rfl,h⟩)⟩,h3⟩,fun l l' h hR=>by
   rcases h with⟨h,-⟩|⟨-,h⟩|⟨h,-⟩|⟨h,-⟩|⟨h,-⟩
   ·cases h
   ·exact h.rt hR
   all_goals cases h⟩
 ·exact⟨fun l cs idn idi hR hE σ=>(qA N ar l cs idn idi hR hE σ).mono fun r σ' ⟨⟨x,b,h1,h2⟩,h3⟩=>⟨⟨x,b,h1,h2.mono fun o h=>.inr (.inr (.inl ⟨rfl,h⟩))⟩,h3⟩,fun l l' h hR=>by
   rcases h with⟨h,-⟩|⟨h,-⟩|⟨-,h⟩|⟨h,-⟩|⟨h,-⟩
   ·cases h
   ·cases h
   ·exact h.rt hR
   all_goals cases h⟩
 ·exact⟨fun l cs idn idi hR hE σ=>(pY N ar l cs idn idi hR hE σ).mono fun r σ' ⟨⟨x,b,h1,h2⟩,h3⟩=>⟨⟨x,b,h1,h2.mono fun o h=>.inr (.inr (.inr (.inl ⟨rfl,h⟩)))⟩,h3⟩,fun l l' h hR=>by
   rcases h with⟨h,-⟩|⟨h,-⟩|⟨h,-⟩|⟨-,h⟩|⟨h,-⟩
   ·cases h
   ·cases h
   ·cases h
   ·exact h.rt hR
   ·cases h⟩
 ·exact⟨fun l cs idn idi hR hE σ=>(qB N ar l cs idn idi hR hE σ).mono fun r σ' ⟨⟨x,b,h1,h2⟩,h3⟩=>⟨⟨x,b,h1,h2.mono fun o h=>.inr (.inr (.inr (.inr ⟨rfl,h⟩)))⟩,h3⟩,fun l l' h hR=>by
   rcases h with⟨h,-⟩|⟨h,-⟩|⟨h,-⟩|⟨h,-⟩|⟨-,h⟩
   ·cases h
   ·cases h
   ·cases h
   ·cases h
   ·exact h.rt hR⟩
theorem Hq (t ps:Tx)(b:Int)(hb:b<=9223372036854775807)(σ:St):ACalls Tryz.prog 15 [str t,str ps,sc (.int .i64 b)] σ fun r σ'=>∃p,r=rW p/\E4 St5 t ps b p/\Keep σ σ':=
 Ud St5 t ps b hb (fun h N ar=>ps5 h N ar) σ
theorem kK {o:List RItem}(ho:∀z∈o,z.out=false)(i:Nat):∀(l:List RItem) (k:Nat),(∀y,l[i-k]?=some y->k<=i->y.out=false)->((l.zipIdx k).flatMap fun p=>if p.2=i then o else [p.1]).filter (·.out)=l.filter (·.out)
 |[],_,_=>rfl
 |x::l,k,h=>by
  rw[Ad0,Ae5,Afv,kK ho i l (k+1) (fun y hy hk=>h y (by rw[show i-k=(i-(k+1))+1 by omega];simpa using hy) Agm),Agc];by_cases e:k=i
  ·subst e;have hx:x.out=false:=h x (by simp) (Adn _);have:o.filter (·.out)=[]:=List.filter_eq_nil_iff.2 fun z hz=>by simp[ho z hz]
   simp[this,hx]
  ·simp only[if_neg e,Agc,List.filter_nil];split<;>rfl
theorem Rh {o l:List RItem}{i:Nat}{y:RItem}(hy:l[i]?=some y)(h1:y.out=false)(ho:∀z∈o,z.out=false):(rpl i o l).filter (·.out)=l.filter (·.out):=
 kK ho i l 0 fun z hz _=>by
  have hz:l[i]?=some z:=by simpa using hz
  rw[hy]at hz;cases hz;exact h1
theorem Yw {N:List Tx}{l:List RItem}{x:RItem}{k:Nat}{q:Tx}:∀z∈uL N l x k q,z.out=false:=fun z hz=>by
 obtain⟨r,-,rfl⟩:=Aey.1 hz;rfl
theorem St5.kept {N:List Tx}{ar:Tx->Nat}{c:UInt8}{l l':List RItem}(hR:RtL N ar l)(h:St5 N c l (some l')):Cj N l l'=true/\l'.filter (·.out)=l.filter (·.out):=by
 rcases h with⟨-,M,-,h⟩|⟨-,h⟩|⟨-,h⟩|⟨-,M,-,h⟩|⟨-,h⟩
 ·rcases h with⟨-,h⟩|⟨-,⟨-,h⟩|⟨hb,h⟩⟩
  ·cases h
  ·cases h
  ·cases h;refine⟨hb,?_⟩;unfold Fc;rw[List.filter_filter];refine List.filter_congr fun x hx=>?_;cases ho:x.out with
   |false=>rfl
   |true=>
    have:Ey N (Ea N.length M N.length) l (N.idxOf x.head.pred)=true:=by
     unfold Ey;exact Aeo.2 ⟨x,hx,by simp[ho]⟩
    rw[this];rfl
 ·rcases h with⟨h,-⟩|⟨i,k,y,h,h1,h2,h3,h4,-⟩
  ·cases h
  ·cases h;unfold Ot at h4;rw[h1]at h4;simp only[Adv]at h4;exact⟨h4.2,Rh h1 h2 fun z hz=>by simp at hz;subst hz;rfl⟩
 ·rcases h with⟨h,-⟩|⟨i,y,h,h1,h2,h3,-⟩
  ·cases h
  ·cases h;exact⟨h3,Rh h1 h2 fun z hz=>by cases hz⟩
 ·rcases h with⟨h,-⟩|⟨i,k,y,a,h,h1,h2,h3,h4,-⟩
  ·cases h
  ·cases h;exact⟨mG h1 h3 h4,Rh h1 h2 Yw⟩
 ·rcases h with⟨h,-⟩|⟨i,y,e,h,h1,h2,h3,h4,-⟩
  ·cases h
  ·cases h;exact⟨mH h1 h3 h4,Rh h1 (Gi hR h1 h2).1 fun z hz=>by simp at hz;subst hz;rfl⟩
theorem tR {l:List RItem}{ar:Tx->Nat}(h:Vf l ar)(i:Nat):Hz l i=false:=by
 unfold Hz;cases hx:l[i]? with
 |none=>rfl
 |some x=>
  simp only;rw[Ae9];intro j _;unfold Qn;cases ha:(Ae x)[j]? with
  |none=>simp
  |some a=>
   simp only[Bool.not_eq_true];rw[Ae9];intro b hb;have aa:=Adt hx;have h1:=h x aa a (Adt ha);have h2:b.terms.length=ar b.pred:=by
    rcases Aew.1 hb with hb|hb
    ·obtain⟨y,hy,ab⟩:=Aev.1 hb;exact h y (List.mem_of_mem_take hy) b ab
    ·exact h x aa b (List.mem_of_mem_take hb)
   unfold clash;simp only[Adv,Agj,Agi,not_and,ne_eq,Decidable.not_not];intro e;rw[h1,h2,e]
theorem Rx {l l':List RItem}{ar:Tx->Nat}(hA:Vf l' ar)(hs:∀x∈l',Fa x=true)(hw:(Cd l).1=0)(ho:∀x∈l,x.out=true->x.body=[])(ad:∀x∈l',x.out=true->x.body=[])
  (ac:∀x∈l',∃y∈l,y.out=x.out/\y.head.pred=x.head.pred/\∀a∈x.body,∃b∈y.body,b.pred=a.pred/\b.nt=a.nt):Cd l'=(0,0):=by
 have hk:∀i,i<l.length->Kg l i=false:=by
  unfold Cd at hw;split at hw
  ·cases hw
  ·split at hw
   ·cases hw
   ·split at hw
    ·cases hw
    ·rename_i h;exact H4 h
 have ab:∀p q,Dk l' p q->Dk l p q:=fun p q ⟨x,hx,h1,a,ha,h2⟩=>by
  obtain⟨y,hy,-,e,hb⟩:=ac x hx;obtain⟨b,hb,e1,-⟩:=hb a ha;exact⟨y,hy,e.trans h1,b,hb,e1.trans h2⟩
 have ae:∀i,i<l'.length->Kg l' i=false:=fun i hi=>by
  unfold Kg;rw[List.getElem?_eq_getElem hi];simp only;have hx:=Afa hi;generalize l'[i]=x at hx;rw[Ae9];intro a ha aa;obtain⟨y,hy,e1,e2,hb⟩:=ac x hx;obtain⟨b,hb,e3,e4⟩:=hb a ha;obtain⟨j,hj⟩:=List.getElem?_of_mem hy;have:=hk j (List.getElem?_eq_some_iff.1 hj).1;unfold Kg at this;rw[hj]at this;simp only at this;refine Ae9.1 this b hb ?_;unfold Ab2 at aa⊢;simp only[Adv,Bool.or_eq_true,Agj]at aa⊢;rw[e4,e3,e2];refine⟨aa.1,?_⟩;have hxo:x.out=false:=by
   cases h:x.out with
   |false=>rfl
   |true=>rw[ad x hx h]at ha;cases ha
  rcases aa.2 with h|h
  ·exact .inl h
  ·refine .inr ?_;rw[Pl ad ⟨x,hx,hxo,rfl⟩]at h;rw[Pl ho ⟨y,hy,e1.trans hxo,e2⟩];exact h.map' ab
 unfold Cd
 rw[if_neg (by rw[Cq fun i _=>tR hA i];decide),if_neg (by
  rw[Cq fun i hi=>?_]
  ·decide
  ·unfold Ec;rw[List.getElem?_eq_getElem hi];simp only
   rw[hs _ (Afa hi)];rfl),if_neg (by rw[Cq ae];decide)]
theorem RtL.xr {N:List Tx}{ar:Tx->Nat}{l:List RItem}(h:RtL N ar l){x:RItem}(hx:x∈l)(ho:x.out=false):XR x:=
 ⟨fun a ha t ht=>by
  have:=((h.gl.msr x hx).at_ a ha).2.2 t ht
  exact⟨this.1,this.2.1,this.2.2.1⟩,ho,by have:=Aao (h.wit x hx);omega⟩
theorem Rb {x:RItem}(ho:x.out=false):D9 x x.body.length=x:=by
 unfold D9;rw[Afl (Adn _),<-ho]
theorem sP {N:List Tx}{ar:Tx->Nat}{l:List RItem}(h:RtL N ar l){x:RItem}(hx:x∈l)(hs:Fa x=true):Fa (ren x)=true:=by
 cases ho:x.out with
 |true=>
  have hb:=(h.gl.msr x hx).out ho;unfold Fa;simp[Ae,ren,ho,hb]
 |false=>
  have hX:=h.xr hx ho;have h1:=hX.safe x.body.length;have e:D9 (ren x) x.body.length=ren x:=by
   have:=Rb (x:=ren x) ho;simpa[ren]using this
  rw[e,Rb ho,hs]at h1;rw[<-Lv (x:=ren x) fun a ha w hw=>Qf (hX.inO.ut a ha w hw)];exact h1
theorem Abg {x:RItem}(h:zW x)(hX:x.out=false->XR x):zW (ren x):=by
 refine⟨h.nm,fun ho=>?_,fun ho=>?_⟩
 ·obtain⟨h1,h2,h3⟩:=h.out ho;exact⟨h1,by simp[ren,Bg,h2],by simp[ren,h3]⟩
 ·obtain⟨h1,h2,h3,h4⟩:=h.rule ho;have hX:=hX ho;have key:∀a∈Ae x,wM a->wM (Bg (Au x) a):=fun a ha hg=>by
   refine⟨hg.nm,by simpa[Bg]using hg.ne,by simpa[Bg]using hg.few,fun t ht=>?_⟩;simp only[Bg,Aey]at ht;obtain⟨u,hu,rfl⟩:=ht;unfold Cx;split
   ·rename_i hv;have:=hX.rng ha hu hv;exact .inl ⟨_,rfl,C7 this.1 this.2⟩
   ·exact hg.tm u hu
  refine⟨key _ (Ak (.inl ⟨ho,rfl⟩)) h1,h2,by simpa[ren]using h3,fun a ha=>?_⟩;simp only[ren,Aey]at ha;obtain⟨b,hb,rfl⟩:=ha;exact key b (Ak (.inr hb)) (h4 b hb)
theorem cO {t:Tx}{N:List Tx}{l:List RItem}{cs:List AV}(hR:Right t N l cs):(Cd l).1=0:=by
 have:=hR.ok;unfold Ax at this;split at this
 ·simp at this
 ·split at this
  ·simp at this
  ·rw[hR.items]at this;exact this
theorem Ab4 {N:List Tx}{ar:Tx->Nat}{l:List RItem}(hR:RtL N ar l)(hw:(Cd l).1=0)(hl:Gy l=true)(hg:∀x∈l,zW x):Ax (Cg l)=(0,0)/\Cp (Cg l)=l.map ren:=by
 have hi:=Qq hR.wit hR.wi;refine⟨?_,hi⟩;have ab:(Cg l).length<=600:=by
  rw[Il hR.wit];have h1:=Pm l hR.wit;unfold Gy at hl;simp only[Adv,Agi]at hl;omega
 have hpl:Nb (Cg l)= -1:=by
  rw[Jy,Il hR.wit,Xx 16 (l.map ren) (fun y hy=>?_) (by rw[Afo];exact hR.gl.len)];obtain⟨x,hx,rfl⟩:=Aey.1 hy;exact Abg (hg x hx) fun ho=>hR.xr hx ho
 unfold Ax;rw[if_neg Agm,if_neg (by rw[hpl];decide),hi];refine Rx (l:=l) (ar:=ar) (fun y hy a ha=>?_) (fun y hy=>?_) hw (fun x hx=>(hR.gl.msr x hx).out) (fun y hy ho=>?_) (fun y hy=>?_)
 ·obtain⟨x,hx,rfl⟩:=Aey.1 hy;cases ho:x.out with
  |true=>
   have hb:=(hR.gl.msr x hx).out ho;simp[Ae,ren,ho,hb]at ha
  |false=>
   have hr:=hR.ru x hx ho;have aa:a=Bg (Au x) x.head\/a∈x.body.map (Bg (Au x)):=by simpa[Ae,ren,ho]using ha
   rcases aa with rfl|aa
   ·show (x.head.terms.map _).length=_;rw[Afo];exact hr.head.len
   ·obtain⟨b,hb,rfl⟩:=Aey.1 aa;show (b.terms.map _).length=_;rw[Afo];exact (hr.body b hb).len
 ·obtain⟨x,hx,rfl⟩:=Aey.1 hy;exact sP hR hx (My hw hx)
 ·obtain⟨x,hx,rfl⟩:=Aey.1 hy;have:=(hR.gl.msr x hx).out ho;simp[ren,this]
 ·obtain⟨x,hx,rfl⟩:=Aey.1 hy;refine⟨x,hx,rfl,rfl,fun a ha=>?_⟩;simp only[ren,Aey]at ha;obtain⟨b,hb,rfl⟩:=ha;exact⟨b,hb,rfl,rfl⟩
end Go.Proofs.YtmoeoppbmhfbpabGreatDoorG
