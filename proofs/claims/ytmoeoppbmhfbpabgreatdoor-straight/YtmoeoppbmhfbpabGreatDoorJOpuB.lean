import Derived.Test.YtmoeoppbmhfbpabGreatDoorJLinD
import Derived.Test.YtmoeoppbmhfbpabGreatDoorJEngU
import Derived.Test.YtmoeoppbmhfbpabGreatDoorJPrtH
import Derived.Test.YtmoeoppbmhfbpabGreatDoorJFolD
import Derived.Test.YtmoeoppbmhfbpabGreatDoorJOptC
import Derived.Test.YtmoeoppbmhfbpabGreatDoorJOptH
import Derived.Test.YtmoeoppbmhfbpabGreatDoorJPrtF
import Derived.Test.YtmoeoppbmhfbpabGreatDoorJStrC
import Derived.KernelRfl
set_option maxHeartbeats 64000000
set_option maxRecDepth 100000
set_option linter.all false
namespace Go.Proofs.YtmoeoppbmhfbpabGreatDoorJ
open Go.Abs
def Pj (c:UInt8):Bool:=decide (c=115\/c=97\/c=114\/c=117\/c=108)
theorem cR (c:UInt8)(u:St):ACalls Tryz.prog 72 [sc (.int .u8 c.toNat)] u fun r u'=>r=sc (.bool (Pj c))/\u'=u:=by
 have key:∀(k:UInt8) (n:Int),n=(k.toNat:Int)->((c.toNat:Int)==n)=decide (c=k):=fun k n e=>by rw[e];exact lC
 have e1:=key 115 115 rfl;have e2:=key 97 97 rfl;have e3:=key 114 114 rfl;have e4:=key 117 117 rfl;have e5:=key 108 108 rfl;have hp:Pj c=(decide (c=115)||(decide (c=97)||(decide (c=114)||(decide (c=117)||decide (c=108))))):=by
  unfold Pj;simp only[Bool.decide_or]
 have HP:Aec _:=hp;clear key hp;generalize decide (c=115)=b1 at e1 HP;generalize decide (c=97)=b2 at e2 HP;generalize decide (c=114)=b3 at e3 HP;generalize decide (c=117)=b4 at e4 HP;generalize decide (c=108)=b5 at e5 HP;cases b1<;>cases b2<;>cases b3<;>cases b4<;>cases b5
 all_goals
  refine Z9 10 [.tmp 2] Tryz.func72 ?_
  repeat' (first|refine Z1 ?_|(refine Z8 ?_;intro κ hκ)|(refine Z4 ?_;clear hκ κ)|(refine Z2 ?_ ?_<;>intro h aa<;>try exact Xp)|refine Z3 ?_|exact⟨⟩|(apply hκ.out;clear hκ κ))
  exact⟨_,rfl,by rw[HP.out];rfl⟩
def E4 (t:Tx):Bool:=decide (t.length<=8)&&t.all Pj
theorem T9 (t:Tx)(u:St):ACalls Tryz.prog 38 [str t] u fun r u'=>r=sc (.bool (E4 t))/\u'=u:=by
 have hI:=fun c u=>cR c u;by_cases h8:8<t.length
 ·have hb:decide ((8:Int)<(t.length:Int))=true:=by simp;omega
  have HL:Aec (E4 t=false):=by rw[Aec,E4,decide_eq_false Ad6];rfl
  refine Z9 18 [.tmp 2] Tryz.func38 ?_
  repeat' (first|refine Z1 ?_|(refine Z8 ?_;intro κ hκ)|(refine Z4 ?_;clear hκ κ)|(refine Z2 ?_ ?_<;>intro h aa<;>try exact Xp)|refine Z3 ?_|exact⟨⟩|(apply hκ.out;clear hκ κ))
  exact⟨_,rfl,by rw[HL.out]⟩
 ·have hb:decide ((8:Int)<(t.length:Int))=false:=by simp;omega
  refine Z9 18 [.tmp 2] Tryz.func38 ?_
  repeat' (first|refine Z1 ?_|(refine Z8 ?_;intro κ hκ)|(refine Z4 ?_;clear hκ κ)|(refine Z2 ?_ ?_<;>intro h aa<;>try exact Xp)|refine Z3 ?_|exact⟨⟩|(apply hκ.out;clear hκ κ))
  refine Ad (fun m s u'=>∃i:Nat,m=t.length-i/\i<=t.length/\s 0=str t/\s 3=sc (.int .i64 i)/\u'=u/\Aec (∀c∈t.take i,Pj c=true)) t.length
   ⟨0,Ad6,Ad6,rfl,rfl,rfl,by simp[Aec]⟩ ?_
  rintro m s u' ⟨i,rfl,hi,h0,h3,hu,hA⟩;by_cases ac:i<t.length
  ·have ab:=List.getElem?_eq_getElem ac;generalize t[i]=c at ab;have hI:=hI c;cases hc:Pj c with
   |true=>
    rw[hc]at hI;have HA:Aec (∀c∈t.take (i+1),Pj c=true):=by
     rw[Aec,Abv,ab,Ac5];intro d hd;rcases Aco.1 hd with hd|hd
     ·exact hA.out d hd
     ·simp at hd;subst hd;exact hc
    clear hA hc
    repeat' (first|refine Z1 ?_|(refine Z8 ?_;intro κ hκ)|(refine Z4 ?_;clear hκ κ)|(refine Z2 ?_ ?_<;>intro h aa<;>try exact Xp)|(refine Z5 ?_;refine Xi (hI _) ?_;rintro _ _ ⟨rfl,rfl⟩)|refine Z3 ?_|exact⟨⟩|(apply hκ.out;clear hκ κ))
    refine⟨t.length-(i+1),Ad6,i+1,?_⟩
    ((repeat' with_reducible refine And.intro ?_ ?_)<;>first|exact Xq|exact (HA)|exact Xs)
   |false=>
    rw[hc]at hI;have HL:Aec (E4 t=false):=by
     have:t.all Pj=false:=Adm.2 ⟨c,Abm ab,by simp[hc]⟩;rw[Aec,E4,this];simp
    clear hA hc
    repeat' (first|refine Z1 ?_|(refine Z8 ?_;intro κ hκ)|(refine Z4 ?_;clear hκ κ)|(refine Z2 ?_ ?_<;>intro h aa<;>try exact Xp)|(refine Z5 ?_;refine Xi (hI _) ?_;rintro _ _ ⟨rfl,rfl⟩)|refine Z3 ?_|exact⟨⟩|(apply hκ.out;clear hκ κ))
    exact⟨_,rfl,by rw[HL.out]⟩
  ·have ad:i=t.length:=Ad6;have HL:Aec (E4 t=true):=by
    have:=hA.out;rw[ad,Abt]at this;rw[Aec,E4,decide_eq_true Ad6,Abl.2 this];rfl
   clear hA
   repeat' (first|refine Z1 ?_|(refine Z8 ?_;intro κ hκ)|(refine Z4 ?_;clear hκ κ)|(refine Z2 ?_ ?_<;>intro h aa<;>try exact Xp)|refine Z3 ?_|exact⟨⟩|(apply hκ.out;clear hκ κ))
   exact⟨_,rfl,by rw[HL.out]⟩
inductive GChg (T:List RItem->Option (List RItem)->Prop)(b:Int)(l:List RItem)(m:Int):List RItem->Int->Prop where
 |refl:GChg T b l m l m
 |snoc {l1 l2:List RItem} {m1:Int}:GChg T b l m l1 m1->m1<b->T l1 (some l2)->GChg T b l m l2 (m1+1)
def lL (T:List RItem->Option (List RItem)->Prop)(b:Int)(l:List RItem)(m:Int)(l':List RItem)(m':Int):Prop:=GChg T b l m l' m'/\(b<=m'\/T l' none)
inductive GPss (T:UInt8->List RItem->Option (List RItem)->Prop)(b:Int)(l:List RItem)(m:Int):Tx->List RItem->Int->Prop where
 |nil:GPss T b l m [] l m
 |snoc {ps:Tx} {c:UInt8} {l1 l2:List RItem} {m1 m2:Int}:GPss T b l m ps l1 m1->lL (T c) b l1 m1 l2 m2->GPss T b l m (ps++[c]) l2 m2
structure oN (T:List RItem->Option (List RItem)->Prop)(N:List Tx)(ar:Tx->Nat)(c:UInt8):Prop where
 call:∀(l:List RItem) (cs:List AV) (idn idi:Nat),RtL N ar l->EL (PI N) l cs->∀u:St,ACalls Tryz.prog 73 [Bs N idn l idi cs,sc (.int .u8 c.toNat)] u fun r u'=>(∃x b,r=tp [x,sc (.bool b)]/\StpR T N l idn x b)/\Keep u u'
 rt:∀l l',T l (some l')->RtL N ar l->RtL N ar l'
theorem Qe (T:UInt8->List RItem->Option (List RItem)->Prop)(N:List Tx)(ar:Tx->Nat)(l:List RItem)(cs:List AV)(idn idi:Nat)(t:Tx)(b:Int)(bl:0<=b)(bi:b<=9223372036854775807)(ba:t.length<=8)(ht:∀c∈t,oN (T c) N ar c)(hR:RtL N ar l)(hE:EL (PI N) l cs)(u:St):
  ACalls Tryz.prog 39 [Bs N idn l idi cs,str t,sc (.int .i64 b)] u fun r u'=>(∃l' id c' m,r=tp [Bs N idn l' id c',sc (.int .i64 m)]/\GPss T b l 0 t l' m/\RtL N ar l'/\EL (PI N) l' c')/\Keep u u':=by
 have hC:=fun l cs idi c (hc:oN (T c) N ar c) hR hE u=>hc.call l cs idn idi hR hE u;refine Z9 36 [.cell 6 62,.tmp 7] Tryz.func39 ?_
 repeat' (first|refine Z1 ?_|(refine Z8 ?_;intro κ hκ)|(refine Z4 ?_;clear hκ κ)|(refine Z2 ?_ ?_<;>intro h aa<;>try exact Xp)|refine Z3 ?_|exact⟨⟩|(apply hκ.out;clear hκ κ))
 refine Ad (fun k s u'=>∃(i:Nat) (m:Int) (l1:List RItem) (id1:Nat) (c1:List AV),k=t.length-i/\i<=t.length/\0<=m/\m<=b/\s 1=str t/\s 2=sc (.int .i64 b)/\s 3=ptr u.nobj 0/\s 6=ptr (u.nobj+1) 0/\s 8=sc (.int .i64 m)/\s 9=sc (.int .i64 i)/\Keep u u'/\u.nobj+1<u'.nobj/\u'.obj u.nobj=[sl idn N.length (N.map str),sl id1 l1.length c1]/\u'.obj (u.nobj+1)=[nilS,nilS]/\Aec (GPss T b l 0 (t.take i) l1 m/\RtL N ar l1/\EL (PI N) l1 c1)) t.length
  ⟨0,0,l,idi,cs,Ad6,Ad6,Ad6,Ad6,rfl,rfl,Ad8,Ad8,Ad8,Ad8,Xs,Aea,by rw[Ae Aea,Ao],by first|exact Ao|simp[Ao],⟨GPss.nil,hR,hE⟩⟩ ?_
 rintro k s u' ⟨i,m,l1,id1,c1,rfl,hi,bh,bg,h1,h2,h3,h6,h8,h9,hK,ao,ad,ac,hA⟩;have ax:=hK.nobj;by_cases az:i<t.length
 ·have ah:=List.getElem?_eq_getElem az;have av:=ht t[i] (Ac2 az);generalize t[i]=c at ah av;have HP:Aec (∀l2 m2,lL (T c) b l1 m l2 m2->GPss T b l 0 (t.take (i+1)) l2 m2):=fun l2 m2 h=>by
   rw[Abv,ah,Ac5];exact GPss.snoc hA.out.1 h
  have a3:Aec (RtL N ar l1):=hA.out.2.1;have a4:Aec (EL (PI N) l1 c1):=hA.out.2.2;clear hA
  repeat' (first|refine Z1 ?_|(refine Z8 ?_;intro κ hκ)|(refine Z4 ?_;clear hκ κ)|(refine Z2 ?_ ?_<;>intro h aa<;>try exact Xp)|refine Z3 ?_|exact⟨⟩|(apply hκ.out;clear hκ κ))
  refine Ad (fun k s u2=>∃(m2:Int) (l2:List RItem) (id2:Nat) (c2:List AV),k=(b-m2).toNat/\m<=m2/\m2<=b/\s 1=str t/\s 2=sc (.int .i64 b)/\s 3=ptr u.nobj 0/\s 6=ptr (u.nobj+1) 0/\s 8=sc (.int .i64 m2)/\s 9=sc (.int .i64 i)/\Keep u u2/\u.nobj+1<u2.nobj/\u2.obj u.nobj=[sl idn N.length (N.map str),sl id2 l2.length c2]/\u2.obj (u.nobj+1)=[nilS,nilS]/\Aec (GChg (T c) b l1 m l2 m2/\RtL N ar l2/\EL (PI N) l2 c2)) (b-m).toNat
   ⟨m,l1,id1,c1,rfl,Ad6,Ad6,Ad7,Ad7,Ad7,Ad7,Ad7,Ad7,hK,ao,ad,ac,⟨GChg.refl,a3.out,a4.out⟩⟩ ?_
  clear h1 h2 h3 h6 h8 h9 hK ao ad ac ax a3 a4;rintro k s u2 ⟨m2,l2,id2,c2,rfl,bd,bf,h1,h2,h3,h6,h8,h9,hK,ao,ad,ac,hA⟩;have ax:=hK.nobj;by_cases au:m2<b
  ·have hC:=hC l2 c2 id2 c av hA.out.2.1 hA.out.2.2;have ap:decide (m2<b)=true:=by simpa using au
   repeat' (first|refine Z1 ?_|(refine Z8 ?_;intro κ hκ)|(refine Z4 ?_;clear hκ κ)|(refine Z2 ?_ ?_<;>intro h aa<;>try exact Xp)|refine Z3 ?_|exact⟨⟩|(apply hκ.out;clear hκ κ))
   refine Bq (Q:=fun e s' u''=>e= .normal/\∃(o10 t1 t2:Nat) (t3:List AV) (t4 t5:Nat) (t6:List AV) (b':Bool),s' 10=ptr o10 0/\u2.nobj<=o10/\o10<u''.nobj/\u''.obj o10=[sl t1 t2 t3,sl t4 t5 t6]/\s' 11=sc (.bool b')/\StpR (T c) N l2 idn (ag [sl t1 t2 t3,sl t4 t5 t6]) b'/\s' 1=s 1/\s' 2=s 2/\s' 3=s 3/\s' 6=s 6/\s' 8=s 8/\s' 9=s 9/\Keep u2 u'') ?_ ?_
   ·have bn:(∀p:Nat,some u.nobj=some p->p<u2.nobj)=True:=eq_true fun p e=>by cases e;omega
    have bm:(∀p:Nat,False->p<u2.nobj)=True:=eq_true fun p e=>e.elim;refine A3 Ah (fun p=>p<u2.nobj) [] [0,1,2,3] 7 #[true,true,true,true,false,false,false,false,false,false,false] Ad9 (fun _ _ _ h=>by cases h.1) ?_;intro κ hκ;refine Z3 ?_;refine hκ.out _ ?_;clear hκ κ;refine Dz (rs:=[4,8]) Ad9 (by simp) ?_;intro j hj;simp only[Aci,Ac0,Ad5]at hj;rcases hj with rfl|rfl
    ·refine Ar ?_;intro κ hκ;refine Z3 ?_;refine ACalls.mono (hC _) ?_;rintro _ u5 ⟨⟨x5,b5,rfl,aj⟩,ab⟩;obtain⟨t1,t2,t3,t4,t5,t6,rfl⟩:=aj.1;have af:=ab.nobj;refine Z3 ?_;refine hκ.out _ _ ⟨Aq ab,?_⟩;clear hκ κ;refine U1 [5,6,7] 3 6 #[true,true,true,true,true,true,true,true,false,false,false] rfl Ad9 Ad9 (fun _ _ _ h=>by cases h.1) (ab).nobj (fun o ho _=>(ab).ver o ho) ?_;intro κ hκ;refine Z3 ?_;refine hκ.out _ ?_;clear hκ κ;refine Am (i:=8) Ad9 ?_;refine Ar ?_;intro κ hκ;refine Z3 ?_;refine hκ.out _ _ ⟨Aq ((Keep.refl _).new _),?_⟩;clear hκ κ;refine Am (i:=9) Ad9 ?_;refine Ar ?_;intro κ hκ;refine Z3 ?_;refine hκ.out _ _ ⟨fun _ o ho _=>by simp[St.put,St.new];omega,?_⟩;clear hκ κ;refine Ed [10] Ad9 Ad9 (fun _ _ _ h=>by cases h.1) Aeb (fun o ho _=>by simp[St.put,St.new];omega) ?_;intro κ hκ;refine Z3 ?_;refine hκ.out _ _ ⟨rfl,u5.nobj,t1,t2,t3,t4,t5,t6,b5,Ad8,Ad6,Aeb,by rw[Ak],Ad8,aj,Ad8,Ad8,Ad8,Ad8,Ad8,Ad8,(ab.new _).put Ad6 _⟩
    ·refine Ar ?_;intro κ hκ;refine Z3 ?_;refine hκ.out _ _ ⟨Aq ((Keep.refl _).new _),?_⟩;clear hκ κ;refine Am (i:=4) Ad9 ?_;refine Ar ?_;intro κ hκ;refine Z3 ?_;refine ACalls.mono (hC _) ?_;rintro _ u5 ⟨⟨x5,b5,rfl,aj⟩,ab⟩;obtain⟨t1,t2,t3,t4,t5,t6,rfl⟩:=aj.1;have af:=ab.nobj;have ae:=ab.obj;simp only[Aa]at af ae;have ak:Keep u2 u5:=((Keep.refl _).new _).trans ab;have a5:u5.obj u2.nobj=[nilS,nilS]:=by rw[ae _ Ad6,Ao]
     refine Z3 ?_;refine hκ.out _ _ ⟨Aq ak,?_⟩;clear hκ κ;refine U1 [5,6,7] 2 5 #[true,true,true,true,true,true,true,true,true,false,false] rfl Ad9 Ad9 (fun _ _ _ h=>by cases h.1) (ak).nobj (fun o ho _=>(ak).ver o ho) ?_;intro κ hκ;refine Z3 ?_;refine hκ.out _ ?_;clear hκ κ;refine Am (i:=9) Ad9 ?_;refine Ar ?_;intro κ hκ;refine Z3 ?_;refine hκ.out _ _ ⟨fun _ o ho hF=>by simp[St.put];omega,?_⟩;clear hκ κ;refine Ed [10] Ad9 Ad9 (fun _ _ _ h=>by cases h.1) (by simp only[Ab];omega) (fun o ho hF=>by simp[St.put];omega) ?_;intro κ hκ;refine Z3 ?_;refine hκ.out _ _ ⟨rfl,u2.nobj,t1,t2,t3,t4,t5,t6,b5,Ad8,Ad6,by simp only[Ab];omega,by rw[Ak],Ad8,aj,Ad8,Ad8,Ad8,Ad8,Ad8,Ad8,ak.put Ad6 _⟩
   ·rintro e s' u'' ⟨rfl,o10,t1,t2,t3,t4,t5,t6,b',g10,bc,bb,a7,g11,a9,g1,g2,g3,g6,g8,g9,am⟩;rw[h1]at g1;rw[h2]at g2;rw[h3]at g3;rw[h6]at g6;rw[h8]at g8;rw[h9]at g9;have ak:=hK.trans am;have a6:=am.nobj;have oz0:u''.obj u.nobj=[sl idn N.length (N.map str),sl id2 l2.length c2]:=by rw[am.obj _ Ad6,ad]
    have oz1:u''.obj (u.nobj+1)=[nilS,nilS]:=by rw[am.obj _ Ad6,ac]
    obtain⟨-,o,ai,an,aw⟩:=a9;clear h1 h2 h3 h6 h8 h9 hK am ad ac hC;cases o with
    |none=>
     simp only[Option.isSome_none]at an;subst an;have HQ:=HP.out l2 m2 ⟨hA.out.1,.inr ai⟩;have HZ:Aec (GPss T b l 0 (t.take (i+1)) l2 m2/\RtL N ar l2/\EL (PI N) l2 c2):=⟨HQ,hA.out.2⟩;clear HQ HP hA ai aw
     repeat' (first|refine Z1 ?_|(refine Z8 ?_;intro κ hκ)|(refine Z4 ?_;clear hκ κ)|(refine Z2 ?_ ?_<;>intro h aa<;>try exact Xp)|refine Z3 ?_|exact⟨⟩|(apply hκ.out;clear hκ κ))
     refine⟨t.length-(i+1),Ad6,i+1,m2,l2,id2,c2,?_⟩
     ((repeat' with_reducible refine And.intro ?_ ?_)<;>first|exact Xq|exact (HZ)|exact Xs)
    |some l3=>
     simp only[Option.isSome_some]at an;subst an;obtain⟨id3,c3,ay,a0⟩:=aw l3 rfl;simp only[DataW.agg.injEq,List.cons.injEq,and_true]at ay;obtain⟨e1,e2⟩:=ay;rw[e1,e2]at a7;have HZ:Aec (GChg (T c) b l1 m l3 (m2+1)/\RtL N ar l3/\EL (PI N) l3 c3):=⟨GChg.snoc hA.out.1 au ai,av.rt _ _ ai hA.out.2.1,a0⟩;clear HP hA ai aw a0 e1 e2
     repeat' (first|refine Z1 ?_|(refine Z8 ?_;intro κ hκ)|(refine Z4 ?_;clear hκ κ)|(refine Z2 ?_ ?_<;>intro h aa<;>try exact Xp)|refine Z3 ?_|exact⟨⟩|(apply hκ.out;clear hκ κ))
     refine⟨(b-(m2+1)).toNat,Ad6,m2+1,l3,id3,c3,?_⟩
     ((repeat' with_reducible refine And.intro ?_ ?_)<;>first|exact Xq|exact (HZ)|exact Xs)
  ·have be:m2=b:=Ad6;have HQ:=HP.out l2 m2 ⟨hA.out.1,.inl Ad6⟩;have HZ:Aec (GPss T b l 0 (t.take (i+1)) l2 m2/\RtL N ar l2/\EL (PI N) l2 c2):=⟨HQ,hA.out.2⟩;clear HQ HP hA;have ap:decide (m2<b)=false:=by simpa using au
   repeat' (first|refine Z1 ?_|(refine Z8 ?_;intro κ hκ)|(refine Z4 ?_;clear hκ κ)|(refine Z2 ?_ ?_<;>intro h aa<;>try exact Xp)|refine Z3 ?_|exact⟨⟩|(apply hκ.out;clear hκ κ))
   refine⟨t.length-(i+1),Ad6,i+1,m2,l2,id2,c2,?_⟩
   ((repeat' with_reducible refine And.intro ?_ ?_)<;>first|exact Xq|exact (HZ)|exact Xs)
 ·have a8:i=t.length:=Ad6;subst a8;rw[Abt]at hA
  repeat' (first|refine Z1 ?_|(refine Z8 ?_;intro κ hκ)|(refine Z4 ?_;clear hκ κ)|(refine Z2 ?_ ?_<;>intro h aa<;>try exact Xp)|refine Z3 ?_|exact⟨⟩|(apply hκ.out;clear hκ κ))
  exact⟨_,rfl,⟨l1,id1,c1,m,rfl,hA.out⟩,Xs⟩
abbrev yC (p:Tx×Int×Int):AV:=tp [str p.1,sc (.int .i64 p.2.1),sc (.int .i64 p.2.2)]
def Fe (T:List Tx->UInt8->List RItem->Option (List RItem)->Prop)(t ps:Tx)(b:Int)(r:Tx×Int×Int):Prop:=
 if (Ax t).1≠0 then r=([],0,(Ax t).1)else
 if E4 ps=false then r=([],0,11)else
 if b<0 then r=([],0,6)else
 ∃N l cs ar l' m,Right t N l cs/\Ut l ar/\RtL N ar l'/\GPss (T N) b l 0 ps l' m/\r=(Fo l',m,0)
theorem Ku (T:List Tx->UInt8->List RItem->Option (List RItem)->Prop)(t ps:Tx)(b:Int)(hb:b<=9223372036854775807)(an:E4 ps=true->∀N ar,∀c∈ps,oN (T N c) N ar c)(u:St):ACalls Tryz.prog 15 [str t,str ps,sc (.int .i64 b)] u fun r u'=>∃p,r=yC p/\Fe T t ps b p/\Keep u u':=by
 have hL:=fun u=>nD t u;have hA:=fun u=>T9 ps u;by_cases he:(Ax t).1=0
 ·have HE:Aec ((Ax t).1=0):=he;have a0:((Ax t).1 !=0)=false:=by simpa using he
  have am:t.length<=600:=by
   by_cases hl:600<t.length
   ·unfold Ax at he;rw[if_pos hl]at he;simp at he
   ·omega
  have ae:Aec (∀r,(if E4 ps=false then r=([],0,11)else if b<0 then r=([],0,6)else∃N l cs ar l' m,Right t N l cs/\Ut l ar/\RtL N ar l'/\GPss (T N) b l 0 ps l' m/\r=(Fo l',m,0))->Fe T t ps b r):=fun r h=>by
   unfold Fe;rw[if_neg (by simp[HE.out])];exact h
  clear he;cases hp:E4 ps with
  |false=>
   rw[hp]at hA;have HP:Aec (Fe T t ps b ([],0,11)):=ae.out _ (by rw[if_pos hp]);clear ae hp;refine Z9 38 [.tmp 6,.tmp 7,.tmp 8] Tryz.func15 ?_
   repeat' (first|refine Z1 ?_|(refine Z8 ?_;intro κ hκ)|(refine Z4 ?_;clear hκ κ)|(refine Z2 ?_ ?_<;>intro h ad<;>try exact Xp)|(refine Z5 ?_;first|(refine Xi (hL _) ?_;rintro _ _ ⟨idn,n1,c1,idi,n2,c2,rfl,ab,aa⟩;(have ac:=ab.nobj;clear aa))|(refine Xi (hA _) ?_;rintro _ _ ⟨rfl,rfl⟩))|refine Z3 ?_|exact⟨⟩|(apply hκ.out;clear hκ κ))
   exact⟨_,rfl,_,rfl,HP.out,Xs⟩
  |true=>
   rw[hp]at hA;have az:ps.length<=8:=by
    unfold E4 at hp;simp only[Abo,Ad3]at hp;exact hp.1
   by_cases ah:b<0
   ·have a3:decide (b<0)=true:=by simpa using ah
    have HP:Aec (Fe T t ps b ([],0,6)):=ae.out _ (by rw[if_neg (by simp[hp]),if_pos ah]);clear ae hp;refine Z9 38 [.tmp 6,.tmp 7,.tmp 8] Tryz.func15 ?_
    repeat' (first|refine Z1 ?_|(refine Z8 ?_;intro κ hκ)|(refine Z4 ?_;clear hκ κ)|(refine Z2 ?_ ?_<;>intro h ad<;>try exact Xp)|(refine Z5 ?_;first|(refine Xi (hL _) ?_;rintro _ _ ⟨idn,n1,c1,idi,n2,c2,rfl,ab,aa⟩;(have ac:=ab.nobj;clear aa))|(refine Xi (hA _) ?_;rintro _ _ ⟨rfl,rfl⟩))|refine Z3 ?_|exact⟨⟩|(apply hκ.out;clear hκ κ))
    exact⟨_,rfl,_,rfl,HP.out,Xs⟩
   ·have a3:decide (b<0)=false:=by simpa using ah
    have HP:Aec (∀r,(∃N l cs ar l' m,Right t N l cs/\Ut l ar/\RtL N ar l'/\GPss (T N) b l 0 ps l' m/\r=(Fo l',m,0))->Fe T t ps b r):=fun r h=>ae.out _ (by rw[if_neg (by simp[hp]),if_neg ah];exact h);have ba:Aec (∃ar,Ut (C2 t) ar):=Aau HE.out;have a8:Aec _:=an hp;clear ae hp an;refine Z9 38 [.tmp 6,.tmp 7,.tmp 8] Tryz.func15 ?_
    repeat' (first|refine Z1 ?_|(refine Z8 ?_;intro κ hκ)|(refine Z4 ?_;clear hκ κ)|(refine Z2 ?_ ?_<;>intro h ad<;>try exact Xp)|(refine Z5 ?_;first|(refine Xi (hL _) ?_;rintro _ _ ⟨idn,n1,c1,idi,n2,c2,rfl,ab,aa⟩;(have ac:=ab.nobj;obtain⟨N,l,hp,aw,rfl,rfl,rfl,ay,ao⟩:=aa HE.out;have ai:Right t N l c2:=⟨HE.out,am,hp,aw,ao⟩;have af:∃ar,Ut l ar:=(by rw[<-ai.items];exact ba.out);obtain⟨ar,af⟩:=af;have a5:=fun u=>Qe (T N) N ar l c2 idn idi ps b Ad6 hb az (a8.out N ar) (ai.rt af) aw.el u;have a7:Aec _:=ai;have a9:Aec _:=af;clear hp aa ay ao ai af))|(refine Xi (hA _) ?_;rintro _ _ ⟨rfl,rfl⟩)|(refine Xi (a5 _) ?_;rintro _ _ ⟨⟨l',id',c',m',rfl,ap,aj,a6⟩,av⟩;(have ak:=av.nobj;simp only[Ab,Aa]at ak;have a4:=fun u=>iI N l' c' idn id' ((aj.gl.bkm a6).bk aj.gl.len) aj.wi u;have HZ:Aec (Fe T t ps b (Fo l',m',0)):=HP.out _ ⟨N,l,c2,ar,l',m',a7.out,a9.out,aj,ap,rfl⟩;clear ap))|(refine Xi (a4 _) ?_;rintro _ _ ⟨rfl,au⟩;(have ax:=au.nobj)))|refine Z3 ?_|exact⟨⟩|(apply hκ.out;clear hκ κ))
    exact⟨_,rfl,_,rfl,HZ.out,(((((ab.new _).put Ad6 _).trans av).new _).put Ad6 _).trans au⟩
 ·have a0:((Ax t).1 !=0)=true:=by simpa using he
  have HP:Aec (Fe T t ps b ([],0,(Ax t).1)):=by unfold Fe;rw[if_pos he];rfl
  clear he;refine Z9 38 [.tmp 6,.tmp 7,.tmp 8] Tryz.func15 ?_
  repeat' (first|refine Z1 ?_|(refine Z8 ?_;intro κ hκ)|(refine Z4 ?_;clear hκ κ)|(refine Z2 ?_ ?_<;>intro h ad<;>try exact Xp)|(refine Z5 ?_;refine Xi (hL _) ?_;rintro _ _ ⟨idn,n1,c1,idi,n2,c2,rfl,ab,aa⟩;(have ac:=ab.nobj;clear aa))|refine Z3 ?_|exact⟨⟩|(apply hκ.out;clear hκ κ))
  exact⟨_,rfl,_,rfl,HP.out,Xs⟩
def StA (N:List Tx)(l:List RItem)(o:Option (List RItem)):Prop:=
 (o=none/\Aal N l l.length)\/∃i k y,o=some (Du i [woL y k] l)/\l[i]?=some y/\y.out=false/\k<y.body.length/\okA N l i k=true/\Aal N l i/\∀k',k'<k->okA N l i k'=false
def StR (N:List Tx)(l:List RItem)(o:Option (List RItem)):Prop:=
 (o=none/\Aak N l l.length)\/∃i y,o=some (Du i [] l)/\l[i]?=some y/\y.out=false/\Dp N l (Du i [] l)=true/\Aaq N l i y true/\Aak N l i
def W1 (N:List Tx)(c:UInt8)(l:List RItem)(o:Option (List RItem)):Prop:=
 (c=115/\StS N l o)\/(c=97/\StA N l o)\/(c=114/\StR N l o)\/(c=117/\StU N l o)\/(c=108/\StL N l o)
theorem StpR.mono {T T':List RItem->Option (List RItem)->Prop}{N:List Tx}{l:List RItem}{idn:Nat}{x:AV}{b:Bool}(h:StpR T N l idn x b)(hT:∀o,T l o->T' l o):StpR T' N l idn x b:=by
 obtain⟨h1,o,h2,h3⟩:=h;exact⟨h1,o,hT o h2,h3⟩
theorem psS (N:List Tx)(ar:Tx->Nat):oN (W1 N 115) N ar 115:=
 ⟨fun l cs idn idi hR hE u=>(oA N ar l cs idn idi hR hE u).mono fun r u' ⟨⟨x,b,h1,h2⟩,h3⟩=>⟨⟨x,b,h1,h2.mono fun o h=>.inl ⟨rfl,h⟩⟩,h3⟩,fun l l' h hR=>by
  rcases h with⟨-,h⟩|⟨h,-⟩|⟨h,-⟩|⟨h,-⟩|⟨h,-⟩
  ·exact h.rt hR
  all_goals cases h⟩
theorem psU (N:List Tx)(ar:Tx->Nat):oN (W1 N 117) N ar 117:=
 ⟨fun l cs idn idi hR hE u=>(nZ N ar l cs idn idi hR hE u).mono fun r u' ⟨⟨x,b,h1,h2⟩,h3⟩=>⟨⟨x,b,h1,h2.mono fun o h=>.inr (.inr (.inr (.inl ⟨rfl,h⟩)))⟩,h3⟩,fun l l' h hR=>by
  rcases h with⟨h,-⟩|⟨h,-⟩|⟨h,-⟩|⟨-,h⟩|⟨h,-⟩
  ·cases h
  ·cases h
  ·cases h
  ·exact h.rt hR
  ·cases h⟩
theorem psL (N:List Tx)(ar:Tx->Nat):oN (W1 N 108) N ar 108:=
 ⟨fun l cs idn idi hR hE u=>(oB N ar l cs idn idi hR hE u).mono fun r u' ⟨⟨x,b,h1,h2⟩,h3⟩=>⟨⟨x,b,h1,h2.mono fun o h=>.inr (.inr (.inr (.inr ⟨rfl,h⟩)))⟩,h3⟩,fun l l' h hR=>by
  rcases h with⟨h,-⟩|⟨h,-⟩|⟨h,-⟩|⟨h,-⟩|⟨-,h⟩
  ·cases h
  ·cases h
  ·cases h
  ·cases h
  ·exact h.rt hR⟩
theorem qY {l:List RItem}{ar:Tx->Nat}(h:Ut l ar)(i:Nat):Hb l i=false:=by
 unfold Hb;cases hx:l[i]? with
 |none=>rfl
 |some x=>
  simp only;rw[Ac1];intro j _;unfold Pn;cases ha:(Af x)[j]? with
  |none=>simp
  |some a=>
   simp only[Bool.not_eq_true];rw[Ac1];intro b hb;have aa:=Abm hx;have h1:=h x aa a (Abm ha);have h2:b.terms.length=ar b.pred:=by
    rcases Aco.1 hb with hb|hb
    ·obtain⟨y,hy,ab⟩:=Acn.1 hb;exact h y (Adr hy) b ab
    ·exact h x aa b (Adr hb)
   unfold clash;simp only[Abo,Ad4,Ad3,not_and,ne_eq,Decidable.not_not];intro e;rw[h1,h2,e]
def uW (l:List RItem)(p:Tx):Prop:=∃x∈l,x.head.pred=p\/∃a∈x.body,a.pred=p
def uG (l:List RItem)(p:Tx):Prop:=∃x∈l,x.out=false/\x.head.pred=p
theorem Mw {N:List Tx}{l:List RItem}(hN:∀x∈l,x.head.pred∈N){p:Tx}(hp:p∈N):Cb N l (N.idxOf p)=true↔uG l p:=by
 unfold Cb uG;simp only[Acg,Abo,Adw,Ad3];constructor
 ·rintro⟨x,hx,h1,h2⟩;refine⟨x,hx,h1,?_⟩;have e:=rH (hN x hx) hp;rw[h2]at e;simpa using e.symm
 ·rintro⟨x,hx,h1,rfl⟩;exact⟨x,hx,h1,rfl⟩
theorem kN {N:List Tx}{ar:Tx->Nat}{l:List RItem}(hR:RtL N ar l){p:Tx}(h:uW l p):p∈N:=by
 obtain⟨x,hx,h⟩:=h;rcases h with rfl|⟨a,ha,rfl⟩
 ·exact (hR.gl.msr x hx).mem
 ·cases ho:x.out with
  |true=>rw[(hR.gl.msr x hx).out ho]at ha;cases ha
  |false=>exact ((hR.ru x hx ho).body a ha).mem
theorem zT:UT [65]:=W9 (k:=0) (by decide) 65 rfl
theorem Yc {N:List Tx}{l l':List RItem}(h:∀k,Cb N l k=true->Cb N l' k=true):Ni N l' l=false:=by
 unfold Ni;rw[Ac1];intro k _ hc;simp only[Abo,Adw]at hc;rw[h k hc.1.1]at hc;exact absurd hc.1.2 (by simp)
def Uu:RItem:=X5 [112] [101]
def W5:RItem:=⟨true,⟨false,[112],[]⟩,[]⟩
theorem Q5 {N:List Tx}{l:List RItem}{M:Nat->Nat->Bool}(hN:∀x∈l,x.head.pred∈N/\∀a∈x.body,a.pred∈N)(hM:Dm N l M){p q:Tx}(hp:p∈N)(hq:q∈N):E5 N.length M N.length (N.idxOf p) (N.idxOf q)=true↔Way (Er l) p q:=by
 have hS:oM N.length M:=fun a b h=>by
  obtain⟨x,hx,e1,y,hy,e2⟩:=(hM a b).1 h;rw[<-e1,<-e2];exact⟨Ac4 (hN x hx).1,Ac4 ((hN x hx).2 y hy)⟩
 rw[Qu hS];have one:∀p q:Tx,p∈N->q∈N->(M (N.idxOf p) (N.idxOf q)=true↔Er l p q):=fun p q hp hq=>by
  rw[hM];constructor
  ·rintro⟨x,hx,e1,y,hy,e2⟩;exact⟨x,hx,Dy (hN x hx).1 hp e1,y,hy,Dy ((hN x hx).2 y hy) hq e2⟩
  ·rintro⟨x,hx,rfl,y,hy,rfl⟩;exact⟨x,hx,rfl,y,hy,rfl⟩
 constructor
 ·intro h;have key:∀i j,Way (fun a b=>M a b=true) i j->∀p q:Tx,p∈N->q∈N->N.idxOf p=i->N.idxOf q=j->Way (Er l) p q:=fun i j h=>by
   induction h with
   |one e=>
    rintro p q hp hq rfl rfl;exact .one ((one p q hp hq).1 e)
   |more e _ ih=>
    rintro p q hp hq rfl rfl;obtain⟨x,hx,e1,y,hy,rfl⟩:=(hM _ _).1 e;have aa:=(hN x hx).2 y hy;exact .more ((one p y.pred hp aa).1 e) (ih y.pred q aa hq rfl rfl)
  exact key _ _ h p q hp hq rfl rfl
 ·intro h;induction h with
  |one e=>exact .one ((one _ _ hp hq).2 e)
  |more e _ ih=>
   have e0:=e;obtain⟨x,hx,rfl,y,hy,rfl⟩:=e0;exact .more ((one _ _ hp ((hN x hx).2 y hy)).2 e) (ih ((hN x hx).2 y hy) hq)
inductive Kn (T:List RItem->Option (List RItem)->Prop)(b:Int):Int->List RItem->List RItem->Int->Prop where
 |full {m:Int} {l:List RItem}:b<=m->Kn T b m l l m
 |stop {m:Int} {l:List RItem}:(∀o,T l o->o=none)->Kn T b m l l m
 |step {m m':Int} {l l1 l':List RItem}:m<b->(∀o,T l o->o=some l1)->Kn T b (m+1) l1 l' m'->Kn T b m l l' m'
theorem GChg.head {T:List RItem->Option (List RItem)->Prop}{b m m2:Int}{l l2:List RItem}(h:GChg T b l m l2 m2):(l2=l/\m2=m)\/(m<b/\∃l1,T l (some l1)/\GChg T b l1 (m+1) l2 m2):=by
 induction h with
 |refl=>exact .inl ⟨rfl,rfl⟩
 |snoc _ hb hs ih=>
  rcases ih with⟨rfl,rfl⟩|⟨h1,l1,h2,h3⟩
  ·exact .inr ⟨hb,_,hs,.refl⟩
  ·exact .inr ⟨h1,l1,h2,.snoc h3 hb hs⟩
theorem Kn.eq {T:List RItem->Option (List RItem)->Prop}{b m m' m2:Int}{l l' l2:List RItem}(hk:Kn T b m l l' m')(h:lL T b l m l2 m2):l2=l'/\m2=m':=by
 obtain⟨hc,he⟩:=h;induction hk with
 |full hb=>
  rcases hc.head with h|⟨h,-⟩
  ·exact h
  ·omega
 |stop hn=>
  rcases hc.head with h|⟨-,l1,h,-⟩
  ·exact h
  ·cases hn _ h
 |step hb hn _ ih=>
  rcases hc.head with⟨rfl,rfl⟩|⟨-,l1,h,hc⟩
  ·rcases he with he|he
   ·omega
   ·cases hn _ he
  ·cases hn _ h;exact ih hc
theorem GPss.nil_eq {T:UInt8->List RItem->Option (List RItem)->Prop}{b m m2:Int}{l l2:List RItem}{ps:Tx}(h:GPss T b l m ps l2 m2)(e:ps=[]):l2=l/\m2=m:=by
 induction h with
 |nil=>exact⟨rfl,rfl⟩
 |snoc _ _ _=>simp at e
theorem GPss.cons {T:UInt8->List RItem->Option (List RItem)->Prop}{b m m2:Int}{l l2:List RItem}{ps:Tx}(h:GPss T b l m ps l2 m2):∀c qs,ps=c::qs->∃l1 m1,lL (T c) b l m l1 m1/\GPss T b l1 m1 qs l2 m2:=by
 induction h with
 |nil=>intro c qs e;cases e
 |@snoc ps c' l1 l2 m1 m2 h1 h2 ih=>
  intro c qs e;cases ps with
  |nil=>
   simp only[Acm,List.cons.injEq]at e;obtain⟨rfl,rfl⟩:=e;obtain⟨rfl,rfl⟩:=h1.nil_eq rfl;exact⟨l2,m2,h2,.nil⟩
  |cons a r=>
   simp only[Ack,List.cons.injEq]at e;obtain⟨rfl,rfl⟩:=e;obtain⟨l3,m3,g1,g2⟩:=ih a r rfl;exact⟨l3,m3,g1,.snoc g2 h2⟩
def yQ (N:List Tx)(l:List RItem):Prop:=∀x∈l,x.head.pred∈N/\∀a∈x.body,a.pred∈N
theorem RtL.nm {N:List Tx}{ar:Tx->Nat}{l:List RItem}(h:RtL N ar l):yQ N l:=fun x hx=>⟨kN h ⟨x,hx,.inl rfl⟩,fun a ha=>kN h ⟨x,hx,.inr ⟨a,ha,rfl⟩⟩⟩
theorem rF {N:List Tx}{l m:List RItem}(hl:yQ N l)(hm:yQ N m):Ni N m l=false↔∀p,uW m p->uG l p->uG m p:=by
 have nm:∀p,uW m p->p∈N:=fun p ⟨x,hx,h⟩=>by
  rcases h with rfl|⟨a,ha,rfl⟩
  ·exact (hm x hx).1
  ·exact (hm x hx).2 a ha
 constructor
 ·intro h p h1 h2;have hp:=nm p h1;have hk:=Ac4 hp;have:=Ac1.1 h (N.idxOf p) (by simpa using hk);have e1:Cb N l (N.idxOf p)=true:=(Mw (fun x hx=>(hl x hx).1) hp).2 h2;have e2:Gy N m (N.idxOf p)=true:=by
   obtain⟨x,hx,h1⟩:=h1;refine Acg.2 ⟨x,hx,?_⟩;rcases h1 with rfl|⟨a,ha,rfl⟩
   ·simp
   ·simp only[Ade,Acg,Ad3];exact .inr ⟨a,ha,rfl⟩
  rw[e1,e2]at this;refine (Mw (fun x hx=>(hm x hx).1) hp).1 ?_;simpa using this
 ·intro h;refine Ac1.2 fun k _ hc=>?_;simp only[Abo,Adw]at hc;obtain⟨⟨h1,h2⟩,h3⟩:=hc;obtain⟨x,hx,aa⟩:=Acg.1 h1;simp only[Abo,Adw,Ad3]at aa;obtain⟨z,hz,ab⟩:=Acg.1 h3;simp only[Ade,Acg,Ad3]at ab;have hn:uW m x.head.pred:=by
   refine⟨z,hz,?_⟩;rcases ab with e|⟨a,ha,e⟩
   ·exact .inl (Dy (hm z hz).1 (hl x hx).1 Ad6)
   ·exact .inr ⟨a,ha,Dy ((hm z hz).2 a ha) (hl x hx).1 Ad6⟩
  have:=(Mw (fun x hx=>(hm x hx).1) (hl x hx).1).2 (h _ hn ⟨x,hx,aa.1,rfl⟩);rw[aa.2,h2]at this;cases this
def Wnt (l:List RItem)(q:Tx):Prop:=∃x∈l,x.out=true/\(x.head.pred=q\/Way (Er l) x.head.pred q)
theorem oX {N:List Tx}{l:List RItem}{M:Nat->Nat->Bool}(hN:yQ N l)(hM:Dm N l M){q:Tx}(hq:q∈N):G6 N (E5 N.length M N.length) l (N.idxOf q)=true↔Wnt l q:=by
 unfold G6 Wnt;simp only[Acg,Abo,Ade,Ad3];constructor
 ·rintro⟨x,hx,ho,h⟩;refine⟨x,hx,ho,?_⟩;rcases h with h|h
  ·exact .inl (Dy (hN x hx).1 hq h)
  ·exact .inr ((Q5 hN hM (hN x hx).1 hq).1 h)
 ·rintro⟨x,hx,ho,h⟩;refine⟨x,hx,ho,?_⟩;rcases h with rfl|h
  ·exact .inl rfl
  ·exact .inr ((Q5 hN hM (hN x hx).1 hq).2 h)
end Go.Proofs.YtmoeoppbmhfbpabGreatDoorJ
