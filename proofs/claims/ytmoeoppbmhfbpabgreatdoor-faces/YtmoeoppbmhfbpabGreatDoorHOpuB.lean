import Derived.Test.YtmoeoppbmhfbpabGreatDoorHLinD
import Derived.Test.YtmoeoppbmhfbpabGreatDoorHEngU
import Derived.Test.YtmoeoppbmhfbpabGreatDoorHPrtH
import Derived.Test.YtmoeoppbmhfbpabGreatDoorHAgrB
import Derived.Test.YtmoeoppbmhfbpabGreatDoorHOptE
import Derived.Test.YtmoeoppbmhfbpabGreatDoorHRerA
import Derived.Test.YtmoeoppbmhfbpabGreatDoorHPrtF
import Derived.Test.YtmoeoppbmhfbpabGreatDoorHSpaE
set_option linter.all false
namespace Go.Proofs.YtmoeoppbmhfbpabGreatDoorH
set_option maxHeartbeats 64000000
open Go.Abs
set_option maxRecDepth 100000
def Hh (c:UInt8):Bool:=decide (c=115\/c=97\/c=114\/c=117\/c=108)
theorem cW (c:UInt8)(σ:St):ACalls Tryz.prog 72 [sc (.int .u8 c.toNat)] σ fun r σ'=>r=sc (.bool (Hh c))/\σ'=σ:=by
 have key:∀(k:UInt8) (n:Int),n=(k.toNat:Int)->((c.toNat:Int)==n)=decide (c=k):=fun k n e=>by rw[e];exact Qv
 have e1:=key 115 115 rfl;have e2:=key 97 97 rfl;have e3:=key 114 114 rfl;have e4:=key 117 117 rfl;have e5:=key 108 108 rfl;have hp:Hh c=(decide (c=115)||(decide (c=97)||(decide (c=114)||(decide (c=117)||decide (c=108))))):=by
  unfold Hh;simp only[Bool.decide_or]
 have HP:Ad8 _:=hp;clear key hp;generalize decide (c=115)=b1 at e1 HP;generalize decide (c=97)=b2 at e2 HP;generalize decide (c=114)=b3 at e3 HP;generalize decide (c=117)=b4 at e4 HP;generalize decide (c=108)=b5 at e5 HP;cases b1<;>cases b2<;>cases b3<;>cases b4<;>cases b5
 all_goals
  refine Z9 10 [.tmp 2] Tryz.func72 ?_
  repeat' (first|refine Z1 ?_|(refine Z8 ?_;intro κ hκ)|(refine Z4 ?_;clear hκ κ)|(refine Z2 ?_ ?_<;>intro h aa<;>try exact Xp)|refine Z3 ?_|exact⟨⟩|(apply hκ.out;clear hκ κ))
  exact⟨_,rfl,by rw[HP.out];rfl⟩
def B6 (t:Tx):Bool:=decide (t.length<=8)&&t.all Hh
theorem Ub (t:Tx)(σ:St):ACalls Tryz.prog 38 [str t] σ fun r σ'=>r=sc (.bool (B6 t))/\σ'=σ:=by
 have hI:=fun c σ=>cW c σ;by_cases h8:8<t.length
 ·have hb:decide ((8:Int)<(t.length:Int))=true:=by simp;omega
  have HL:Ad8 (B6 t=false):=by rw[Ad8,B6,Ad0 Ad2];rfl
  refine Z9 18 [.tmp 2] Tryz.func38 ?_
  repeat' (first|refine Z1 ?_|(refine Z8 ?_;intro κ hκ)|(refine Z4 ?_;clear hκ κ)|(refine Z2 ?_ ?_<;>intro h aa<;>try exact Xp)|refine Z3 ?_|exact⟨⟩|(apply hκ.out;clear hκ κ))
  exact⟨_,rfl,by rw[HL.out]⟩
 ·have hb:decide ((8:Int)<(t.length:Int))=false:=by simp;omega
  refine Z9 18 [.tmp 2] Tryz.func38 ?_
  repeat' (first|refine Z1 ?_|(refine Z8 ?_;intro κ hκ)|(refine Z4 ?_;clear hκ κ)|(refine Z2 ?_ ?_<;>intro h aa<;>try exact Xp)|refine Z3 ?_|exact⟨⟩|(apply hκ.out;clear hκ κ))
  refine Ad (fun m s σ'=>∃i:Nat,m=t.length-i/\i<=t.length/\s 0=str t/\s 3=sc (.int .i64 i)/\σ'=σ/\Ad8 (∀c∈t.take i,Hh c=true)) t.length
   ⟨0,Ad2,Ad2,rfl,rfl,rfl,by simp[Ad8]⟩ ?_
  rintro m s σ' ⟨i,rfl,hi,h0,h3,hσ,hA⟩;by_cases ac:i<t.length
  ·have ab:=List.getElem?_eq_getElem ac;generalize t[i]=c at ab;have hI:=hI c;cases hc:Hh c with
   |true=>
    rw[hc]at hI;have HA:Ad8 (∀c∈t.take (i+1),Hh c=true):=by
     rw[Ad8,Abq,ab,Ac2];intro d hd;rcases Ack.1 hd with hd|hd
     ·exact hA.out d hd
     ·simp at hd;subst hd;exact hc
    clear hA hc
    repeat' (first|refine Z1 ?_|(refine Z8 ?_;intro κ hκ)|(refine Z4 ?_;clear hκ κ)|(refine Z2 ?_ ?_<;>intro h aa<;>try exact Xp)|(refine Z5 ?_;refine Xi (hI _) ?_;rintro _ _ ⟨rfl,rfl⟩)|refine Z3 ?_|exact⟨⟩|(apply hκ.out;clear hκ κ))
    refine⟨t.length-(i+1),Ad2,i+1,?_⟩
    ((repeat' with_reducible refine And.intro ?_ ?_)<;>first|exact Xq|exact (HA)|exact Xs)
   |false=>
    rw[hc]at hI;have HL:Ad8 (B6 t=false):=by
     have:t.all Hh=false:=Ade.2 ⟨c,Abh ab,by simp[hc]⟩;rw[Ad8,B6,this];simp
    clear hA hc
    repeat' (first|refine Z1 ?_|(refine Z8 ?_;intro κ hκ)|(refine Z4 ?_;clear hκ κ)|(refine Z2 ?_ ?_<;>intro h aa<;>try exact Xp)|(refine Z5 ?_;refine Xi (hI _) ?_;rintro _ _ ⟨rfl,rfl⟩)|refine Z3 ?_|exact⟨⟩|(apply hκ.out;clear hκ κ))
    exact⟨_,rfl,by rw[HL.out]⟩
  ·have ad:i=t.length:=Ad2;have HL:Ad8 (B6 t=true):=by
    have:=hA.out;rw[ad,Abn]at this;rw[Ad8,B6,Ad1 Ad2,Abg.2 this];rfl
   clear hA
   repeat' (first|refine Z1 ?_|(refine Z8 ?_;intro κ hκ)|(refine Z4 ?_;clear hκ κ)|(refine Z2 ?_ ?_<;>intro h aa<;>try exact Xp)|refine Z3 ?_|exact⟨⟩|(apply hκ.out;clear hκ κ))
   exact⟨_,rfl,by rw[HL.out]⟩
inductive GChg (T:List RItem->Option (List RItem)->Prop)(b:Int)(l:List RItem)(m:Int):List RItem->Int->Prop where
 |refl:GChg T b l m l m
 |snoc {l1 l2:List RItem} {m1:Int}:GChg T b l m l1 m1->m1<b->T l1 (some l2)->GChg T b l m l2 (m1+1)
def lF (T:List RItem->Option (List RItem)->Prop)(b:Int)(l:List RItem)(m:Int)(l':List RItem)(m':Int):Prop:=GChg T b l m l' m'/\(b<=m'\/T l' none)
inductive GPss (T:UInt8->List RItem->Option (List RItem)->Prop)(b:Int)(l:List RItem)(m:Int):Tx->List RItem->Int->Prop where
 |nil:GPss T b l m [] l m
 |snoc {ps:Tx} {c:UInt8} {l1 l2:List RItem} {m1 m2:Int}:GPss T b l m ps l1 m1->lF (T c) b l1 m1 l2 m2->GPss T b l m (ps++[c]) l2 m2
structure Uf (T:List RItem->Option (List RItem)->Prop)(N:List Tx)(ar:Tx->Nat)(c:UInt8):Prop where
 call:∀(l:List RItem) (cs:List AV) (idn idi:Nat),RtL N ar l->EL (PI N) l cs->∀σ:St,ACalls Tryz.prog 73 [B7 N idn l idi cs,sc (.int .u8 c.toNat)] σ fun r σ'=>(∃x b,r=tp [x,sc (.bool b)]/\StpR T N l idn x b)/\Keep σ σ'
 rt:∀l l',T l (some l')->RtL N ar l->RtL N ar l'
theorem Qb (T:UInt8->List RItem->Option (List RItem)->Prop)(N:List Tx)(ar:Tx->Nat)(l:List RItem)(cs:List AV)(idn idi:Nat)(t:Tx)(b:Int)(bl:0<=b)(bi:b<=9223372036854775807)(ba:t.length<=8)(ht:∀c∈t,Uf (T c) N ar c)(hR:RtL N ar l)(hE:EL (PI N) l cs)(σ:St):
  ACalls Tryz.prog 39 [B7 N idn l idi cs,str t,sc (.int .i64 b)] σ fun r σ'=>(∃l' id c' m,r=tp [B7 N idn l' id c',sc (.int .i64 m)]/\GPss T b l 0 t l' m/\RtL N ar l'/\EL (PI N) l' c')/\Keep σ σ':=by
 have hC:=fun l cs idi c (hc:Uf (T c) N ar c) hR hE σ=>hc.call l cs idn idi hR hE σ;refine Z9 36 [.cell 6 62,.tmp 7] Tryz.func39 ?_
 repeat' (first|refine Z1 ?_|(refine Z8 ?_;intro κ hκ)|(refine Z4 ?_;clear hκ κ)|(refine Z2 ?_ ?_<;>intro h aa<;>try exact Xp)|refine Z3 ?_|exact⟨⟩|(apply hκ.out;clear hκ κ))
 refine Ad (fun k s σ'=>∃(i:Nat) (m:Int) (l1:List RItem) (id1:Nat) (c1:List AV),k=t.length-i/\i<=t.length/\0<=m/\m<=b/\s 1=str t/\s 2=sc (.int .i64 b)/\s 3=ptr σ.nobj 0/\s 6=ptr (σ.nobj+1) 0/\s 8=sc (.int .i64 m)/\s 9=sc (.int .i64 i)/\Keep σ σ'/\σ.nobj+1<σ'.nobj/\σ'.obj σ.nobj=[sl idn N.length (N.map str),sl id1 l1.length c1]/\σ'.obj (σ.nobj+1)=[nilS,nilS]/\Ad8 (GPss T b l 0 (t.take i) l1 m/\RtL N ar l1/\EL (PI N) l1 c1)) t.length
  ⟨0,0,l,idi,cs,Ad2,Ad2,Ad2,Ad2,rfl,rfl,Ad4,Ad4,Ad4,Ad4,Xs,Ad6,by rw[Ae Ad6,Am],by first|exact Am|simp[Am],⟨GPss.nil,hR,hE⟩⟩ ?_
 rintro k s σ' ⟨i,m,l1,id1,c1,rfl,hi,bh,bg,h1,h2,h3,h6,h8,h9,hK,ao,ad,ac,hA⟩;have ax:=hK.nobj;by_cases az:i<t.length
 ·have ah:=List.getElem?_eq_getElem az;have av:=ht t[i] (Acz az);generalize t[i]=c at ah av;have HP:Ad8 (∀l2 m2,lF (T c) b l1 m l2 m2->GPss T b l 0 (t.take (i+1)) l2 m2):=fun l2 m2 h=>by
   rw[Abq,ah,Ac2];exact GPss.snoc hA.out.1 h
  have a3:Ad8 (RtL N ar l1):=hA.out.2.1;have a4:Ad8 (EL (PI N) l1 c1):=hA.out.2.2;clear hA
  repeat' (first|refine Z1 ?_|(refine Z8 ?_;intro κ hκ)|(refine Z4 ?_;clear hκ κ)|(refine Z2 ?_ ?_<;>intro h aa<;>try exact Xp)|refine Z3 ?_|exact⟨⟩|(apply hκ.out;clear hκ κ))
  refine Ad (fun k s σ2=>∃(m2:Int) (l2:List RItem) (id2:Nat) (c2:List AV),k=(b-m2).toNat/\m<=m2/\m2<=b/\s 1=str t/\s 2=sc (.int .i64 b)/\s 3=ptr σ.nobj 0/\s 6=ptr (σ.nobj+1) 0/\s 8=sc (.int .i64 m2)/\s 9=sc (.int .i64 i)/\Keep σ σ2/\σ.nobj+1<σ2.nobj/\σ2.obj σ.nobj=[sl idn N.length (N.map str),sl id2 l2.length c2]/\σ2.obj (σ.nobj+1)=[nilS,nilS]/\Ad8 (GChg (T c) b l1 m l2 m2/\RtL N ar l2/\EL (PI N) l2 c2)) (b-m).toNat
   ⟨m,l1,id1,c1,rfl,Ad2,Ad2,Ad3,Ad3,Ad3,Ad3,Ad3,Ad3,hK,ao,ad,ac,⟨GChg.refl,a3.out,a4.out⟩⟩ ?_
  clear h1 h2 h3 h6 h8 h9 hK ao ad ac ax a3 a4;rintro k s σ2 ⟨m2,l2,id2,c2,rfl,bd,bf,h1,h2,h3,h6,h8,h9,hK,ao,ad,ac,hA⟩;have ax:=hK.nobj;by_cases au:m2<b
  ·have hC:=hC l2 c2 id2 c av hA.out.2.1 hA.out.2.2;have ap:decide (m2<b)=true:=by simpa using au
   repeat' (first|refine Z1 ?_|(refine Z8 ?_;intro κ hκ)|(refine Z4 ?_;clear hκ κ)|(refine Z2 ?_ ?_<;>intro h aa<;>try exact Xp)|refine Z3 ?_|exact⟨⟩|(apply hκ.out;clear hκ κ))
   refine Br (Q:=fun e s' σ''=>e= .normal/\∃(o10 t1 t2:Nat) (t3:List AV) (t4 t5:Nat) (t6:List AV) (b':Bool),s' 10=ptr o10 0/\σ2.nobj<=o10/\o10<σ''.nobj/\σ''.obj o10=[sl t1 t2 t3,sl t4 t5 t6]/\s' 11=sc (.bool b')/\StpR (T c) N l2 idn (ag [sl t1 t2 t3,sl t4 t5 t6]) b'/\s' 1=s 1/\s' 2=s 2/\s' 3=s 3/\s' 6=s 6/\s' 8=s 8/\s' 9=s 9/\Keep σ2 σ'') ?_ ?_
   ·have bn:(∀p:Nat,some σ.nobj=some p->p<σ2.nobj)=True:=eq_true fun p e=>by cases e;omega
    have bm:(∀p:Nat,False->p<σ2.nobj)=True:=eq_true fun p e=>e.elim;refine A4 Ak (fun p=>p<σ2.nobj) [] [0,1,2,3] 7 #[true,true,true,true,false,false,false,false,false,false,false] Ad5 (fun _ _ _ h=>by cases h.1) ?_;intro κ hκ;refine Z3 ?_;refine hκ.out _ ?_;clear hκ κ;refine Dy (rs:=[4,8]) Ad5 (by simp) ?_;intro j hj;simp only[Ace,Acx,Adz]at hj;rcases hj with rfl|rfl
    ·refine Aq ?_;intro κ hκ;refine Z3 ?_;refine ACalls.mono (hC _) ?_;rintro _ σ5 ⟨⟨x5,b5,rfl,aj⟩,ab⟩;obtain⟨t1,t2,t3,t4,t5,t6,rfl⟩:=aj.1;have af:=ab.nobj;refine Z3 ?_;refine hκ.out _ _ ⟨Ao ab,?_⟩;clear hκ κ;refine U4 [5,6,7] 3 6 #[true,true,true,true,true,true,true,true,false,false,false] rfl Ad5 Ad5 (fun _ _ _ h=>by cases h.1) (ab).nobj (fun o ho _=>(ab).ver o ho) ?_;intro κ hκ;refine Z3 ?_;refine hκ.out _ ?_;clear hκ κ;refine Al (i:=8) Ad5 ?_;refine Aq ?_;intro κ hκ;refine Z3 ?_;refine hκ.out _ _ ⟨Ao ((Keep.refl _).new _),?_⟩;clear hκ κ;refine Al (i:=9) Ad5 ?_;refine Aq ?_;intro κ hκ;refine Z3 ?_;refine hκ.out _ _ ⟨fun _ o ho _=>by simp[St.put,St.new];omega,?_⟩;clear hκ κ;refine Ei [10] Ad5 Ad5 (fun _ _ _ h=>by cases h.1) Ad7 (fun o ho _=>by simp[St.put,St.new];omega) ?_;intro κ hκ;refine Z3 ?_;refine hκ.out _ _ ⟨rfl,σ5.nobj,t1,t2,t3,t4,t5,t6,b5,Ad4,Ad2,Ad7,by rw[Aj],Ad4,aj,Ad4,Ad4,Ad4,Ad4,Ad4,Ad4,(ab.new _).put Ad2 _⟩
    ·refine Aq ?_;intro κ hκ;refine Z3 ?_;refine hκ.out _ _ ⟨Ao ((Keep.refl _).new _),?_⟩;clear hκ κ;refine Al (i:=4) Ad5 ?_;refine Aq ?_;intro κ hκ;refine Z3 ?_;refine ACalls.mono (hC _) ?_;rintro _ σ5 ⟨⟨x5,b5,rfl,aj⟩,ab⟩;obtain⟨t1,t2,t3,t4,t5,t6,rfl⟩:=aj.1;have af:=ab.nobj;have ae:=ab.obj;simp only[Aa]at af ae;have ak:Keep σ2 σ5:=((Keep.refl _).new _).trans ab;have a5:σ5.obj σ2.nobj=[nilS,nilS]:=by rw[ae _ Ad2,Am]
     refine Z3 ?_;refine hκ.out _ _ ⟨Ao ak,?_⟩;clear hκ κ;refine U4 [5,6,7] 2 5 #[true,true,true,true,true,true,true,true,true,false,false] rfl Ad5 Ad5 (fun _ _ _ h=>by cases h.1) (ak).nobj (fun o ho _=>(ak).ver o ho) ?_;intro κ hκ;refine Z3 ?_;refine hκ.out _ ?_;clear hκ κ;refine Al (i:=9) Ad5 ?_;refine Aq ?_;intro κ hκ;refine Z3 ?_;refine hκ.out _ _ ⟨fun _ o ho hF=>by simp[St.put];omega,?_⟩;clear hκ κ;refine Ei [10] Ad5 Ad5 (fun _ _ _ h=>by cases h.1) (by simp only[Ab];omega) (fun o ho hF=>by simp[St.put];omega) ?_;intro κ hκ;refine Z3 ?_;refine hκ.out _ _ ⟨rfl,σ2.nobj,t1,t2,t3,t4,t5,t6,b5,Ad4,Ad2,by simp only[Ab];omega,by rw[Aj],Ad4,aj,Ad4,Ad4,Ad4,Ad4,Ad4,Ad4,ak.put Ad2 _⟩
   ·rintro e s' σ'' ⟨rfl,o10,t1,t2,t3,t4,t5,t6,b',g10,bc,bb,a7,g11,a9,g1,g2,g3,g6,g8,g9,am⟩;rw[h1]at g1;rw[h2]at g2;rw[h3]at g3;rw[h6]at g6;rw[h8]at g8;rw[h9]at g9;have ak:=hK.trans am;have a6:=am.nobj;have oz0:σ''.obj σ.nobj=[sl idn N.length (N.map str),sl id2 l2.length c2]:=by rw[am.obj _ Ad2,ad]
    have oz1:σ''.obj (σ.nobj+1)=[nilS,nilS]:=by rw[am.obj _ Ad2,ac]
    obtain⟨-,o,ai,an,aw⟩:=a9;clear h1 h2 h3 h6 h8 h9 hK am ad ac hC;cases o with
    |none=>
     simp only[Adv]at an;subst an;have HQ:=HP.out l2 m2 ⟨hA.out.1,.inr ai⟩;have HZ:Ad8 (GPss T b l 0 (t.take (i+1)) l2 m2/\RtL N ar l2/\EL (PI N) l2 c2):=⟨HQ,hA.out.2⟩;clear HQ HP hA ai aw
     repeat' (first|refine Z1 ?_|(refine Z8 ?_;intro κ hκ)|(refine Z4 ?_;clear hκ κ)|(refine Z2 ?_ ?_<;>intro h aa<;>try exact Xp)|refine Z3 ?_|exact⟨⟩|(apply hκ.out;clear hκ κ))
     refine⟨t.length-(i+1),Ad2,i+1,m2,l2,id2,c2,?_⟩
     ((repeat' with_reducible refine And.intro ?_ ?_)<;>first|exact Xq|exact (HZ)|exact Xs)
    |some l3=>
     simp only[Option.isSome_some]at an;subst an;obtain⟨id3,c3,ay,a0⟩:=aw l3 rfl;simp only[DataW.agg.injEq,List.cons.injEq,and_true]at ay;obtain⟨e1,e2⟩:=ay;rw[e1,e2]at a7;have HZ:Ad8 (GChg (T c) b l1 m l3 (m2+1)/\RtL N ar l3/\EL (PI N) l3 c3):=⟨GChg.snoc hA.out.1 au ai,av.rt _ _ ai hA.out.2.1,a0⟩;clear HP hA ai aw a0 e1 e2
     repeat' (first|refine Z1 ?_|(refine Z8 ?_;intro κ hκ)|(refine Z4 ?_;clear hκ κ)|(refine Z2 ?_ ?_<;>intro h aa<;>try exact Xp)|refine Z3 ?_|exact⟨⟩|(apply hκ.out;clear hκ κ))
     refine⟨(b-(m2+1)).toNat,Ad2,m2+1,l3,id3,c3,?_⟩
     ((repeat' with_reducible refine And.intro ?_ ?_)<;>first|exact Xq|exact (HZ)|exact Xs)
  ·have be:m2=b:=Ad2;have HQ:=HP.out l2 m2 ⟨hA.out.1,.inl Ad2⟩;have HZ:Ad8 (GPss T b l 0 (t.take (i+1)) l2 m2/\RtL N ar l2/\EL (PI N) l2 c2):=⟨HQ,hA.out.2⟩;clear HQ HP hA;have ap:decide (m2<b)=false:=by simpa using au
   repeat' (first|refine Z1 ?_|(refine Z8 ?_;intro κ hκ)|(refine Z4 ?_;clear hκ κ)|(refine Z2 ?_ ?_<;>intro h aa<;>try exact Xp)|refine Z3 ?_|exact⟨⟩|(apply hκ.out;clear hκ κ))
   refine⟨t.length-(i+1),Ad2,i+1,m2,l2,id2,c2,?_⟩
   ((repeat' with_reducible refine And.intro ?_ ?_)<;>first|exact Xq|exact (HZ)|exact Xs)
 ·have a8:i=t.length:=Ad2;subst a8;rw[Abn]at hA
  repeat' (first|refine Z1 ?_|(refine Z8 ?_;intro κ hκ)|(refine Z4 ?_;clear hκ κ)|(refine Z2 ?_ ?_<;>intro h aa<;>try exact Xp)|refine Z3 ?_|exact⟨⟩|(apply hκ.out;clear hκ κ))
  exact⟨_,rfl,⟨l1,id1,c1,m,rfl,hA.out⟩,Xs⟩
abbrev pQ (p:Tx×Int×Int):AV:=tp [str p.1,sc (.int .i64 p.2.1),sc (.int .i64 p.2.2)]
def F0 (T:List Tx->UInt8->List RItem->Option (List RItem)->Prop)(t ps:Tx)(b:Int)(r:Tx×Int×Int):Prop:=
 if (Au t).1≠0 then r=([],0,(Au t).1)else
 if B6 ps=false then r=([],0,11)else
 if b<0 then r=([],0,6)else
 ∃N l cs ar l' m,Right t N l cs/\Ux l ar/\RtL N ar l'/\GPss (T N) b l 0 ps l' m/\r=(B8 l',m,0)
theorem S8 (T:List Tx->UInt8->List RItem->Option (List RItem)->Prop)(t ps:Tx)(b:Int)(hb:b<=9223372036854775807)(an:B6 ps=true->∀N ar,∀c∈ps,Uf (T N c) N ar c)(σ:St):ACalls Tryz.prog 15 [str t,str ps,sc (.int .i64 b)] σ fun r σ'=>∃p,r=pQ p/\F0 T t ps b p/\Keep σ σ':=by
 have hL:=fun σ=>O1 t σ;have hA:=fun σ=>Ub ps σ;by_cases he:(Au t).1=0
 ·have HE:Ad8 ((Au t).1=0):=he;have a0:((Au t).1 !=0)=false:=by simpa using he
  have am:t.length<=600:=by
   by_cases hl:600<t.length
   ·unfold Au at he;rw[if_pos hl]at he;simp at he
   ·omega
  have ae:Ad8 (∀r,(if B6 ps=false then r=([],0,11)else if b<0 then r=([],0,6)else∃N l cs ar l' m,Right t N l cs/\Ux l ar/\RtL N ar l'/\GPss (T N) b l 0 ps l' m/\r=(B8 l',m,0))->F0 T t ps b r):=fun r h=>by
   unfold F0;rw[if_neg (by simp[HE.out])];exact h
  clear he;cases hp:B6 ps with
  |false=>
   rw[hp]at hA;have HP:Ad8 (F0 T t ps b ([],0,11)):=ae.out _ (by rw[if_pos hp]);clear ae hp;refine Z9 38 [.tmp 6,.tmp 7,.tmp 8] Tryz.func15 ?_
   repeat' (first|refine Z1 ?_|(refine Z8 ?_;intro κ hκ)|(refine Z4 ?_;clear hκ κ)|(refine Z2 ?_ ?_<;>intro h ad<;>try exact Xp)|(refine Z5 ?_;first|(refine Xi (hL _) ?_;rintro _ _ ⟨idn,n1,c1,idi,n2,c2,rfl,ab,aa⟩;(have ac:=ab.nobj;clear aa))|(refine Xi (hA _) ?_;rintro _ _ ⟨rfl,rfl⟩))|refine Z3 ?_|exact⟨⟩|(apply hκ.out;clear hκ κ))
   exact⟨_,rfl,_,rfl,HP.out,Xs⟩
  |true=>
   rw[hp]at hA;have az:ps.length<=8:=by
    unfold B6 at hp;simp only[Abj,Adx]at hp;exact hp.1
   by_cases ah:b<0
   ·have a3:decide (b<0)=true:=by simpa using ah
    have HP:Ad8 (F0 T t ps b ([],0,6)):=ae.out _ (by rw[if_neg (by simp[hp]),if_pos ah]);clear ae hp;refine Z9 38 [.tmp 6,.tmp 7,.tmp 8] Tryz.func15 ?_
    repeat' (first|refine Z1 ?_|(refine Z8 ?_;intro κ hκ)|(refine Z4 ?_;clear hκ κ)|(refine Z2 ?_ ?_<;>intro h ad<;>try exact Xp)|(refine Z5 ?_;first|(refine Xi (hL _) ?_;rintro _ _ ⟨idn,n1,c1,idi,n2,c2,rfl,ab,aa⟩;(have ac:=ab.nobj;clear aa))|(refine Xi (hA _) ?_;rintro _ _ ⟨rfl,rfl⟩))|refine Z3 ?_|exact⟨⟩|(apply hκ.out;clear hκ κ))
    exact⟨_,rfl,_,rfl,HP.out,Xs⟩
   ·have a3:decide (b<0)=false:=by simpa using ah
    have HP:Ad8 (∀r,(∃N l cs ar l' m,Right t N l cs/\Ux l ar/\RtL N ar l'/\GPss (T N) b l 0 ps l' m/\r=(B8 l',m,0))->F0 T t ps b r):=fun r h=>ae.out _ (by rw[if_neg (by simp[hp]),if_neg ah];exact h);have ba:Ad8 (∃ar,Ux (Cj t) ar):=Aa2 HE.out;have a8:Ad8 _:=an hp;clear ae hp an;refine Z9 38 [.tmp 6,.tmp 7,.tmp 8] Tryz.func15 ?_
    repeat' (first|refine Z1 ?_|(refine Z8 ?_;intro κ hκ)|(refine Z4 ?_;clear hκ κ)|(refine Z2 ?_ ?_<;>intro h ad<;>try exact Xp)|(refine Z5 ?_;first|(refine Xi (hL _) ?_;rintro _ _ ⟨idn,n1,c1,idi,n2,c2,rfl,ab,aa⟩;(have ac:=ab.nobj;obtain⟨N,l,hp,aw,rfl,rfl,rfl,ay,ao⟩:=aa HE.out;have ai:Right t N l c2:=⟨HE.out,am,hp,aw,ao⟩;have af:∃ar,Ux l ar:=(by rw[<-ai.items];exact ba.out);obtain⟨ar,af⟩:=af;have a5:=fun σ=>Qb (T N) N ar l c2 idn idi ps b Ad2 hb az (a8.out N ar) (ai.rt af) aw.el σ;have a7:Ad8 _:=ai;have a9:Ad8 _:=af;clear hp aa ay ao ai af))|(refine Xi (hA _) ?_;rintro _ _ ⟨rfl,rfl⟩)|(refine Xi (a5 _) ?_;rintro _ _ ⟨⟨l',id',c',m',rfl,ap,aj,a6⟩,av⟩;(have ak:=av.nobj;simp only[Ab,Aa]at ak;have a4:=fun σ=>Tw N l' c' idn id' ((aj.gl.bkm a6).bk aj.gl.len) aj.wi σ;have HZ:Ad8 (F0 T t ps b (B8 l',m',0)):=HP.out _ ⟨N,l,c2,ar,l',m',a7.out,a9.out,aj,ap,rfl⟩;clear ap))|(refine Xi (a4 _) ?_;rintro _ _ ⟨rfl,au⟩;(have ax:=au.nobj)))|refine Z3 ?_|exact⟨⟩|(apply hκ.out;clear hκ κ))
    exact⟨_,rfl,_,rfl,HZ.out,(((((ab.new _).put Ad2 _).trans av).new _).put Ad2 _).trans au⟩
 ·have a0:((Au t).1 !=0)=true:=by simpa using he
  have HP:Ad8 (F0 T t ps b ([],0,(Au t).1)):=by unfold F0;rw[if_pos he];rfl
  clear he;refine Z9 38 [.tmp 6,.tmp 7,.tmp 8] Tryz.func15 ?_
  repeat' (first|refine Z1 ?_|(refine Z8 ?_;intro κ hκ)|(refine Z4 ?_;clear hκ κ)|(refine Z2 ?_ ?_<;>intro h ad<;>try exact Xp)|(refine Z5 ?_;refine Xi (hL _) ?_;rintro _ _ ⟨idn,n1,c1,idi,n2,c2,rfl,ab,aa⟩;(have ac:=ab.nobj;clear aa))|refine Z3 ?_|exact⟨⟩|(apply hκ.out;clear hκ κ))
  exact⟨_,rfl,_,rfl,HP.out,Xs⟩
def StA (N:List Tx)(l:List RItem)(o:Option (List RItem)):Prop:=
 (o=none/\nC N l l.length)\/∃i k y,o=some (Ct i [Gx y k] l)/\l[i]?=some y/\y.out=false/\k<y.body.length/\Qo N l i k=true/\nC N l i/\∀k',k'<k->Qo N l i k'=false
def StR (N:List Tx)(l:List RItem)(o:Option (List RItem)):Prop:=
 (o=none/\nB N l l.length)\/∃i y,o=some (Ct i [] l)/\l[i]?=some y/\y.out=false/\Cr N l (Ct i [] l)=true/\cX N l i y true/\nB N l i
theorem chA.stp {N:List Tx}{l:List RItem}{idn:Nat}{x:AV}{b:Bool}(h:chA N l idn x b)(ht:eK x):StpR (StA N) N l idn x b:=by
 refine⟨ht,?_⟩;rcases h with⟨rfl,h⟩|⟨rfl,i,k,y,h1,h2,h3,h4,h5,h6,id,c',h7,h8⟩
 ·exact⟨none,.inl ⟨rfl,h⟩,rfl,fun l' e=>by cases e⟩
 ·exact⟨_,.inr ⟨i,k,y,rfl,h1,h2,h3,h4,h5,h6⟩,rfl,fun l' e=>by cases e;exact⟨id,c',h7,h8⟩⟩
theorem chR.stp {N:List Tx}{l:List RItem}{idn:Nat}{x:AV}{b:Bool}(h:chR N l idn x b)(ht:eK x):StpR (StR N) N l idn x b:=by
 refine⟨ht,?_⟩;rcases h with⟨rfl,h⟩|⟨rfl,i,y,h1,h2,h3,h4,h5,id,c',h7,h8⟩
 ·exact⟨none,.inl ⟨rfl,h⟩,rfl,fun l' e=>by cases e⟩
 ·exact⟨_,.inr ⟨i,y,rfl,h1,h2,h3,h4,h5⟩,rfl,fun l' e=>by cases e;exact⟨id,c',h7,h8⟩⟩
theorem StA.rt {N:List Tx}{ar:Tx->Nat}{l l':List RItem}(h:StA N l (some l'))(hR:RtL N ar l):RtL N ar l':=by
 rcases h with⟨h,-⟩|⟨i,k,y,h,h1,h2,h3,h4,-⟩
 ·cases h
 ·cases h;refine hR.wo h1 h2 ?_;unfold Qo at h4;rw[h1]at h4;simp only[Abj]at h4;obtain⟨s,hs⟩:=Option.isSome_iff_exists.1 h4.1;unfold mC at hs;obtain⟨s0,-,hs⟩:=Option.bind_eq_some_iff.1 hs;unfold Ig at hs;split at hs
  ·assumption
  ·cases hs
theorem StR.rt {N:List Tx}{ar:Tx->Nat}{l l':List RItem}(h:StR N l (some l'))(hR:RtL N ar l):RtL N ar l':=by
 rcases h with⟨h,-⟩|⟨i,y,h,-⟩
 ·cases h
 ·cases h;exact hR.less i
theorem oC (N:List Tx)(ar:Tx->Nat)(l:List RItem)(cs:List AV)(idn idi:Nat)(hR:RtL N ar l)(hE:EL (PI N) l cs)(σ:St):
  ACalls Tryz.prog 73 [B7 N idn l idi cs,sc (.int .u8 (97:UInt8).toNat)] σ fun r σ'=>(∃x b,r=tp [x,sc (.bool b)]/\StpR (StA N) N l idn x b)/\Keep σ σ':=by
 have hS:=fun σ=>Mz N l cs idn idi hR.gl hE σ;have e1:((((97:UInt8).toNat:Nat):Int)==115)=false:=rfl;have e2:((((97:UInt8).toNat:Nat):Int)==97)=true:=rfl;refine Z9 38 [.cell 4 62,.tmp 5] Tryz.func73 ?_
 repeat' (first|refine Z1 ?_|(refine Z8 ?_;intro κ hκ)|(refine Z4 ?_;clear hκ κ)|(refine Z2 ?_ ?_<;>intro h af<;>try exact Xp)|(refine Z5 ?_;refine Xi (hS _) ?_;rintro _ _ ⟨⟨x1,b1,rfl,ac,ad⟩,ae⟩;(have HX:Ad8 _:=ac;have HT:Ad8 (eK x1):=ad;obtain⟨t1,t2,t3,t4,t5,t6,rfl⟩:=ad;clear ac;have ab:=ae.nobj;have aa:=ae.obj;(try simp only[Aa]at ab aa)))|refine Z3 ?_|exact⟨⟩|(apply hκ.out;clear hκ κ))
 exact⟨_,rfl,⟨_,b1,rfl,chA.stp HX.out HT.out⟩,Xs⟩
theorem oA (N:List Tx)(ar:Tx->Nat)(l:List RItem)(cs:List AV)(idn idi:Nat)(hR:RtL N ar l)(hE:EL (PI N) l cs)(σ:St):
  ACalls Tryz.prog 73 [B7 N idn l idi cs,sc (.int .u8 (114:UInt8).toNat)] σ fun r σ'=>(∃x b,r=tp [x,sc (.bool b)]/\StpR (StR N) N l idn x b)/\Keep σ σ':=by
 have hS:=fun σ=>Ll N l cs idn idi _ hR.gl hR.bki hE σ;have e1:((((114:UInt8).toNat:Nat):Int)==115)=false:=rfl;have e2:((((114:UInt8).toNat:Nat):Int)==97)=false:=rfl;have e3:((((114:UInt8).toNat:Nat):Int)==114)=true:=rfl;refine Z9 38 [.cell 4 62,.tmp 5] Tryz.func73 ?_
 repeat' (first|refine Z1 ?_|(refine Z8 ?_;intro κ hκ)|(refine Z4 ?_;clear hκ κ)|(refine Z2 ?_ ?_<;>intro h af<;>try exact Xp)|(refine Z5 ?_;refine Xi (hS _) ?_;rintro _ _ ⟨⟨x1,b1,rfl,ac,ad⟩,ae⟩;(have HX:Ad8 _:=ac;have HT:Ad8 (eK x1):=ad;obtain⟨t1,t2,t3,t4,t5,t6,rfl⟩:=ad;clear ac;have ab:=ae.nobj;have aa:=ae.obj;(try simp only[Aa]at ab aa)))|refine Z3 ?_|exact⟨⟩|(apply hκ.out;clear hκ κ))
 exact⟨_,rfl,⟨_,b1,rfl,chR.stp HX.out HT.out⟩,Xs⟩
def St5 (N:List Tx)(c:UInt8)(l:List RItem)(o:Option (List RItem)):Prop:=
 (c=115/\StS N l o)\/(c=97/\StA N l o)\/(c=114/\StR N l o)\/(c=117/\StU N l o)\/(c=108/\StL N l o)
theorem StpR.mono {T T':List RItem->Option (List RItem)->Prop}{N:List Tx}{l:List RItem}{idn:Nat}{x:AV}{b:Bool}(h:StpR T N l idn x b)(hT:∀o,T l o->T' l o):StpR T' N l idn x b:=by
 obtain⟨h1,o,h2,h3⟩:=h;exact⟨h1,o,hT o h2,h3⟩
theorem ps5 {ps:Tx}(h:B6 ps=true)(N:List Tx)(ar:Tx->Nat):∀c∈ps,Uf (St5 N c) N ar c:=fun c hc=>by
 unfold B6 at h;simp only[Abj,Abg]at h;have hp:=h.2 c hc;unfold Hh at hp;rcases of_decide_eq_true hp with rfl|rfl|rfl|rfl|rfl
 ·exact⟨fun l cs idn idi hR hE σ=>(nZ N ar l cs idn idi hR hE σ).mono fun r σ' ⟨⟨x,b,h1,h2⟩,h3⟩=>⟨⟨x,b,h1,h2.mono fun o h=>.inl ⟨rfl,h⟩⟩,h3⟩,fun l l' h hR=>by
   rcases h with⟨-,h⟩|⟨h,-⟩|⟨h,-⟩|⟨h,-⟩|⟨h,-⟩
   ·exact h.rt hR
   all_goals cases h⟩
 ·exact⟨fun l cs idn idi hR hE σ=>(oC N ar l cs idn idi hR hE σ).mono fun r σ' ⟨⟨x,b,h1,h2⟩,h3⟩=>⟨⟨x,b,h1,h2.mono fun o h=>.inr (.inl ⟨rfl,h⟩)⟩,h3⟩,fun l l' h hR=>by
   rcases h with⟨h,-⟩|⟨-,h⟩|⟨h,-⟩|⟨h,-⟩|⟨h,-⟩
   ·cases h
   ·exact h.rt hR
   all_goals cases h⟩
 ·exact⟨fun l cs idn idi hR hE σ=>(oA N ar l cs idn idi hR hE σ).mono fun r σ' ⟨⟨x,b,h1,h2⟩,h3⟩=>⟨⟨x,b,h1,h2.mono fun o h=>.inr (.inr (.inl ⟨rfl,h⟩))⟩,h3⟩,fun l l' h hR=>by
   rcases h with⟨h,-⟩|⟨h,-⟩|⟨-,h⟩|⟨h,-⟩|⟨h,-⟩
   ·cases h
   ·cases h
   ·exact h.rt hR
   all_goals cases h⟩
 ·exact⟨fun l cs idn idi hR hE σ=>(nY N ar l cs idn idi hR hE σ).mono fun r σ' ⟨⟨x,b,h1,h2⟩,h3⟩=>⟨⟨x,b,h1,h2.mono fun o h=>.inr (.inr (.inr (.inl ⟨rfl,h⟩)))⟩,h3⟩,fun l l' h hR=>by
   rcases h with⟨h,-⟩|⟨h,-⟩|⟨h,-⟩|⟨-,h⟩|⟨h,-⟩
   ·cases h
   ·cases h
   ·cases h
   ·exact h.rt hR
   ·cases h⟩
 ·exact⟨fun l cs idn idi hR hE σ=>(oB N ar l cs idn idi hR hE σ).mono fun r σ' ⟨⟨x,b,h1,h2⟩,h3⟩=>⟨⟨x,b,h1,h2.mono fun o h=>.inr (.inr (.inr (.inr ⟨rfl,h⟩)))⟩,h3⟩,fun l l' h hR=>by
   rcases h with⟨h,-⟩|⟨h,-⟩|⟨h,-⟩|⟨h,-⟩|⟨-,h⟩
   ·cases h
   ·cases h
   ·cases h
   ·cases h
   ·exact h.rt hR⟩
theorem K9 (t ps:Tx)(b:Int)(hb:b<=9223372036854775807)(σ:St):ACalls Tryz.prog 15 [str t,str ps,sc (.int .i64 b)] σ fun r σ'=>∃p,r=pQ p/\F0 St5 t ps b p/\Keep σ σ':=
 S8 St5 t ps b hb (fun h N ar=>ps5 h N ar) σ
theorem iO {o:List RItem}(ho:∀z∈o,z.out=false)(i:Nat):∀(l:List RItem) (k:Nat),(∀y,l[i-k]?=some y->k<=i->y.out=false)->((l.zipIdx k).flatMap fun p=>if p.2=i then o else [p.1]).filter (·.out)=l.filter (·.out)
 |[],_,_=>rfl
 |x::l,k,h=>by
  rw[Abo,Acv,Adg,iO ho i l (k+1) (fun y hy hk=>h y (by rw[show i-k=(i-(k+1))+1 by omega];simpa using hy) Ad2),Adu];by_cases e:k=i
  ·subst e;have hx:x.out=false:=h x (by simp) (Abb _);have:o.filter (·.out)=[]:=List.filter_eq_nil_iff.2 fun z hz=>by simp[ho z hz]
   simp[this,hx]
  ·simp only[if_neg e,Adu,List.filter_nil];split<;>rfl
theorem Qj {o l:List RItem}{i:Nat}{y:RItem}(hy:l[i]?=some y)(h1:y.out=false)(ho:∀z∈o,z.out=false):(Ct i o l).filter (·.out)=l.filter (·.out):=
 iO ho i l 0 fun z hz _=>by
  have hz:l[i]?=some z:=by simpa using hz
  rw[hy]at hz;cases hz;exact h1
theorem pF {N:List Tx}{l:List RItem}{x:RItem}{k:Nat}{q:Tx}:∀z∈uL N l x k q,z.out=false:=fun z hz=>by
 obtain⟨r,-,rfl⟩:=Acm.1 hz;rfl
theorem St5.kept {N:List Tx}{ar:Tx->Nat}{c:UInt8}{l l':List RItem}(hR:RtL N ar l)(h:St5 N c l (some l')):Cr N l l'=true/\l'.filter (·.out)=l.filter (·.out):=by
 rcases h with⟨-,M,-,h⟩|⟨-,h⟩|⟨-,h⟩|⟨-,M,-,h⟩|⟨-,h⟩
 ·rcases h with⟨-,h⟩|⟨-,⟨-,h⟩|⟨hb,h⟩⟩
  ·cases h
  ·cases h
  ·cases h;refine⟨hb,?_⟩;unfold Gi;rw[List.filter_filter];refine List.filter_congr fun x hx=>?_;cases ho:x.out with
   |false=>rfl
   |true=>
    have:E8 N (Fb N.length M N.length) l (N.idxOf x.head.pred)=true:=by
     unfold E8;exact Acb.2 ⟨x,hx,by simp[ho]⟩
    rw[this];rfl
 ·rcases h with⟨h,-⟩|⟨i,k,y,h,h1,h2,h3,h4,-⟩
  ·cases h
  ·cases h;unfold Qo at h4;rw[h1]at h4;simp only[Abj]at h4;exact⟨h4.2,Qj h1 h2 fun z hz=>by simp at hz;subst hz;rfl⟩
 ·rcases h with⟨h,-⟩|⟨i,y,h,h1,h2,h3,-⟩
  ·cases h
  ·cases h;exact⟨h3,Qj h1 h2 fun z hz=>by cases hz⟩
 ·rcases h with⟨h,-⟩|⟨i,k,y,a,h,h1,h2,h3,h4,-⟩
  ·cases h
  ·cases h;exact⟨kJ h1 h3 h4,Qj h1 h2 pF⟩
 ·rcases h with⟨h,-⟩|⟨i,y,e,h,h1,h2,h3,h4,-⟩
  ·cases h
  ·cases h;exact⟨kK h1 h3 h4,Qj h1 (F4 hR h1 h2).1 fun z hz=>by simp at hz;subst hz;rfl⟩
theorem rJ {l:List RItem}{ar:Tx->Nat}(h:Ux l ar)(i:Nat):Ih l i=false:=by
 unfold Ih;cases hx:l[i]? with
 |none=>rfl
 |some x=>
  simp only;rw[Acy];intro j _;unfold Sy;cases ha:(Ag x)[j]? with
  |none=>simp
  |some a=>
   simp only[Bool.not_eq_true];rw[Acy];intro b hb;have aa:=Abh hx;have h1:=h x aa a (Abh ha);have h2:b.terms.length=ar b.pred:=by
    rcases Ack.1 hb with hb|hb
    ·obtain⟨y,hy,ab⟩:=Acj.1 hb;exact h y (List.mem_of_mem_take hy) b ab
    ·exact h x aa b (List.mem_of_mem_take hb)
   unfold clash;simp only[Abj,Ady,Adx,not_and,ne_eq,Decidable.not_not];intro e;rw[h1,h2,e]
theorem eN {l l':List RItem}{ar:Tx->Nat}(hA:Ux l' ar)(hs:∀x∈l',H7 x=true)(hw:(Ci l).1=0)(ho:∀x∈l,x.out=true->x.body=[])(ae:∀x∈l',x.out=true->x.body=[])
  (ac:∀x∈l',∃y∈l,y.out=x.out/\y.head.pred=x.head.pred/\∀a∈x.body,∃b∈y.body,b.pred=a.pred/\b.nt=a.nt):Ci l'=(0,0):=by
 have hk:∀i,i<l.length->Jt l i=false:=by
  unfold Ci at hw;split at hw
  ·cases hw
  ·split at hw
   ·cases hw
   ·split at hw
    ·cases hw
    ·rename_i h;exact Jk h
 have ab:∀p q,Eu l' p q->Eu l p q:=fun p q ⟨x,hx,h1,a,ha,h2⟩=>by
  obtain⟨y,hy,-,e,hb⟩:=ac x hx;obtain⟨b,hb,e1,-⟩:=hb a ha;exact⟨y,hy,e.trans h1,b,hb,e1.trans h2⟩
 have af:∀i,i<l'.length->Jt l' i=false:=fun i hi=>by
  unfold Jt;rw[List.getElem?_eq_getElem hi];simp only;have hx:=Acz hi;generalize l'[i]=x at hx;rw[Acy];intro a ha aa;obtain⟨y,hy,e1,e2,hb⟩:=ac x hx;obtain⟨b,hb,e3,e4⟩:=hb a ha;obtain⟨j,hj⟩:=List.getElem?_of_mem hy;have:=hk j (List.getElem?_eq_some_iff.1 hj).1;unfold Jt at this;rw[hj]at this;simp only at this;refine Acy.1 this b hb ?_;unfold zK at aa⊢;simp only[Abj,Bool.or_eq_true,Ady]at aa⊢;rw[e4,e3,e2];refine⟨aa.1,?_⟩;have ad:x.out=false:=by
   cases h:x.out with
   |false=>rfl
   |true=>rw[ae x hx h]at ha;cases ha
  rcases aa.2 with h|h
  ·exact .inl h
  ·refine .inr ?_;rw[Og ae ⟨x,hx,ad,rfl⟩]at h;rw[Og ho ⟨y,hy,e1.trans ad,e2⟩];exact h.map' ab
 unfold Ci
 rw[if_neg (by rw[Cn fun i _=>rJ hA i];decide),if_neg (by
  rw[Cn fun i hi=>?_]
  ·decide
  ·unfold D4;rw[List.getElem?_eq_getElem hi];simp only
   rw[hs _ (Acz hi)];rfl),if_neg (by rw[Cn af];decide)]
theorem RtL.xr {N:List Tx}{ar:Tx->Nat}{l:List RItem}(h:RtL N ar l){x:RItem}(hx:x∈l)(ho:x.out=false):XR x:=
 ⟨fun a ha t ht=>by
  have:=((h.gl.msr x hx).at_ a ha).2.2 t ht
  exact⟨this.1,this.2.1,this.2.2.1⟩,ho,by have:=xN (h.wit x hx);omega⟩
theorem iR {x:RItem}(ho:x.out=false):Gx x x.body.length=x:=by
 unfold Gx;rw[Ac6 (Abb _),<-ho]
theorem qI {N:List Tx}{ar:Tx->Nat}{l:List RItem}(h:RtL N ar l){x:RItem}(hx:x∈l)(hs:H7 x=true):H7 (ren x)=true:=by
 cases ho:x.out with
 |true=>
  have hb:=(h.gl.msr x hx).out ho;unfold H7;simp[Ag,ren,ho,hb]
 |false=>
  have hX:=h.xr hx ho;have h1:=hX.safe x.body.length;have e:Gx (ren x) x.body.length=ren x:=by
   have:=iR (x:=ren x) ho;simpa[ren]using this
  rw[e,iR ho,hs]at h1;rw[<-Xy (x:=ren x) fun a ha w hw=>iX (hX.inO.ut a ha w hw)];exact h1
theorem yQ {x:RItem}(h:wV x)(hX:x.out=false->XR x):wV (ren x):=by
 refine⟨h.nm,fun ho=>?_,fun ho=>?_⟩
 ·obtain⟨h1,h2,h3⟩:=h.out ho;exact⟨h1,by simp[ren,Ch,h2],by simp[ren,h3]⟩
 ·obtain⟨h1,h2,h3,h4⟩:=h.rule ho;have hX:=hX ho;have key:∀a∈Ag x,tS a->tS (Ch (Ba x) a):=fun a ha hg=>by
   refine⟨hg.nm,by simpa[Ch]using hg.ne,by simpa[Ch]using hg.few,fun t ht=>?_⟩;simp only[Ch,Acm]at ht;obtain⟨u,hu,rfl⟩:=ht;unfold Gq;split
   ·rename_i hv;have:=hX.rng ha hu hv;exact .inl ⟨_,rfl,C5 this.1 this.2⟩
   ·exact hg.tm u hu
  refine⟨key _ (Ay (.inl ⟨ho,rfl⟩)) h1,h2,by simpa[ren]using h3,fun a ha=>?_⟩;simp only[ren,Acm]at ha;obtain⟨b,hb,rfl⟩:=ha;exact key b (Ay (.inr hb)) (h4 b hb)
theorem aV {t:Tx}{N:List Tx}{l:List RItem}{cs:List AV}(hR:Right t N l cs):(Ci l).1=0:=by
 have:=hR.ok;unfold Au at this;split at this
 ·simp at this
 ·split at this
  ·simp at this
  ·rw[hR.items]at this;exact this
theorem zN {N:List Tx}{ar:Tx->Nat}{l:List RItem}(hR:RtL N ar l)(hw:(Ci l).1=0)(hl:Gr l=true)(hg:∀x∈l,wV x):Au (B8 l)=(0,0)/\Cj (B8 l)=l.map ren:=by
 have hi:=cT hR.wit hR.wi;refine⟨?_,hi⟩;have ab:(B8 l).length<=600:=by
  rw[Kz hR.wit];have h1:=Oh l hR.wit;unfold Gr at hl;simp only[Abj,Adx]at hl;omega
 have hpl:Md (B8 l)= -1:=by
  rw[Jc,Kz hR.wit,We 16 (l.map ren) (fun y hy=>?_) (by rw[Ac9];exact hR.gl.len)];obtain⟨x,hx,rfl⟩:=Acm.1 hy;exact yQ (hg x hx) fun ho=>hR.xr hx ho
 unfold Au;rw[if_neg Ad2,if_neg (by rw[hpl];decide),hi];refine eN (l:=l) (ar:=ar) (fun y hy a ha=>?_) (fun y hy=>?_) hw (fun x hx=>(hR.gl.msr x hx).out) (fun y hy ho=>?_) (fun y hy=>?_)
 ·obtain⟨x,hx,rfl⟩:=Acm.1 hy;cases ho:x.out with
  |true=>
   have hb:=(hR.gl.msr x hx).out ho;simp[Ag,ren,ho,hb]at ha
  |false=>
   have hr:=hR.ru x hx ho;have aa:a=Ch (Ba x) x.head\/a∈x.body.map (Ch (Ba x)):=by simpa[Ag,ren,ho]using ha
   rcases aa with rfl|aa
   ·show (x.head.terms.map _).length=_;rw[Ac9];exact hr.head.len
   ·obtain⟨b,hb,rfl⟩:=Acm.1 aa;show (b.terms.map _).length=_;rw[Ac9];exact (hr.body b hb).len
 ·obtain⟨x,hx,rfl⟩:=Acm.1 hy;exact qI hR hx (Qy hw hx)
 ·obtain⟨x,hx,rfl⟩:=Acm.1 hy;have:=(hR.gl.msr x hx).out ho;simp[ren,this]
 ·obtain⟨x,hx,rfl⟩:=Acm.1 hy;refine⟨x,hx,rfl,rfl,fun a ha=>?_⟩;simp only[ren,Acm]at ha;obtain⟨b,hb,rfl⟩:=ha;exact⟨b,hb,rfl,rfl⟩
end Go.Proofs.YtmoeoppbmhfbpabGreatDoorH
