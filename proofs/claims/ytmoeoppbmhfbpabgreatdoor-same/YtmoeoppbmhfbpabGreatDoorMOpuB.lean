import Derived.Test.YtmoeoppbmhfbpabGreatDoorMLinA
import Derived.Test.YtmoeoppbmhfbpabGreatDoorMEngR
import Derived.Test.YtmoeoppbmhfbpabGreatDoorLPrtH
import Derived.Test.YtmoeoppbmhfbpabGreatDoorMImpD
import Derived.Test.YtmoeoppbmhfbpabGreatDoorLOptA
import Derived.Test.YtmoeoppbmhfbpabGreatDoorMOptH
import Derived.Test.YtmoeoppbmhfbpabGreatDoorLShelf
import Derived.Test.YtmoeoppbmhfbpabGreatDoorLSpaA
import Derived.Test.YtmoeoppbmhfbpabGreatDoorLSpaF
set_option maxHeartbeats 64000000
set_option maxRecDepth 100000
set_option linter.all false
namespace Go.Proofs.YtmoeoppbmhfbpabGreatDoorL
open Go.Abs
def It (c:UInt8):Bool:=decide (c=115\/c=97\/c=114\/c=117\/c=108)
theorem iR (c:UInt8)(σ:St):ACalls Tryz.prog 72 [sc (.int .u8 c.toNat)] σ fun r σ'=>r=sc (.bool (It c))/\σ'=σ:=by
 have key:∀(k:UInt8) (n:Int),n=(k.toNat:Int)->((c.toNat:Int)==n)=decide (c=k):=fun k n e=>by rw[e];exact S6
 have e1:=key 115 115 rfl;have e2:=key 97 97 rfl;have e3:=key 114 114 rfl;have e4:=key 117 117 rfl;have e5:=key 108 108 rfl;have hp:It c=(decide (c=115)||(decide (c=97)||(decide (c=114)||(decide (c=117)||decide (c=108))))):=by
  unfold It;simp only[Bool.decide_or]
 have HP:Akc _:=hp;clear key hp;generalize decide (c=115)=b1 at e1 HP;generalize decide (c=97)=b2 at e2 HP;generalize decide (c=114)=b3 at e3 HP;generalize decide (c=117)=b4 at e4 HP;generalize decide (c=108)=b5 at e5 HP;cases b1<;>cases b2<;>cases b3<;>cases b4<;>cases b5
 all_goals
  refine Z9 10 [.tmp 2] Tryz.func72 ?_
  repeat' (first|refine Z1 ?_|(refine Z8 ?_;intro yb ya)|(refine Z4 ?_;clear ya yb)|(refine Z2 ?_ ?_<;>intro h aa<;>try exact Xp)|refine Z3 ?_|exact Zt|(apply ya.out;clear ya yb))
  exact⟨_,rfl,by rw[HP.out];rfl⟩
def Ca (t:Tx):Bool:=decide (t.length<=8)&&t.all It
theorem Wj (t:Tx)(σ:St):ACalls Tryz.prog 38 [str t] σ fun r σ'=>r=sc (.bool (Ca t))/\σ'=σ:=by
 have hI:=fun c σ=>iR c σ;by_cases h8:8<t.length
 ·have hb:decide ((8:Int)<(t.length:Int))=true:=by simp;omega
  have HL:Akc (Ca t=false):=by rw[Akc,Ca,decide_eq_false Aj6];rfl
  refine Z9 18 [.tmp 2] Tryz.func38 ?_
  repeat' (first|refine Z1 ?_|(refine Z8 ?_;intro yb ya)|(refine Z4 ?_;clear ya yb)|(refine Z2 ?_ ?_<;>intro h aa<;>try exact Xp)|refine Z3 ?_|exact Zt|(apply ya.out;clear ya yb))
  exact⟨_,rfl,by rw[HL.out]⟩
 ·have hb:decide ((8:Int)<(t.length:Int))=false:=by simp;omega
  refine Z9 18 [.tmp 2] Tryz.func38 ?_
  repeat' (first|refine Z1 ?_|(refine Z8 ?_;intro yb ya)|(refine Z4 ?_;clear ya yb)|(refine Z2 ?_ ?_<;>intro h aa<;>try exact Xp)|refine Z3 ?_|exact Zt|(apply ya.out;clear ya yb))
  refine Af (fun m s σ'=>∃i:Nat,m=t.length-i/\i<=t.length/\s 0=str t/\s 3=sc (.int .i64 i)/\σ'=σ/\Akc (∀c∈t.take i,It c=true)) t.length
   ⟨0,Aj6,Aj6,rfl,rfl,rfl,by simp[Akc]⟩ ?_
  rintro m s σ' ⟨i,rfl,hi,h0,h3,hσ,hA⟩;by_cases ac:i<t.length
  ·have ab:=Agz ac;generalize t[i]=c at ab;have hI:=hI c;cases hc:It c with
   |true=>
    rw[hc]at hI;have HA:Akc (∀c∈t.take (i+1),It c=true):=by
     rw[Akc,Ahd,ab,Ais];intro d hd;rcases Ah8.1 hd with hd|hd
     ·exact hA.out d hd
     ·simp at hd;subst hd;exact hc
    clear hA hc
    repeat' (first|refine Z1 ?_|(refine Z8 ?_;intro yb ya)|(refine Z4 ?_;clear ya yb)|(refine Z2 ?_ ?_<;>intro h aa<;>try exact Xp)|(refine Z5 ?_;refine Xi (hI _) ?_;rintro _ _ ⟨rfl,rfl⟩)|refine Z3 ?_|exact Zt|(apply ya.out;clear ya yb))
    refine⟨t.length-(i+1),Aj6,i+1,?_⟩
    ((repeat' refine Zi ?_ ?_)<;>first|exact Xq|exact HA|exact Xs)
   |false=>
    rw[hc]at hI;have HL:Akc (Ca t=false):=by
     have:t.all It=false:=Ajg.2 ⟨c,Ag1 ab,by simp[hc]⟩;rw[Akc,Ca,this];simp
    clear hA hc
    repeat' (first|refine Z1 ?_|(refine Z8 ?_;intro yb ya)|(refine Z4 ?_;clear ya yb)|(refine Z2 ?_ ?_<;>intro h aa<;>try exact Xp)|(refine Z5 ?_;refine Xi (hI _) ?_;rintro _ _ ⟨rfl,rfl⟩)|refine Z3 ?_|exact Zt|(apply ya.out;clear ya yb))
    exact⟨_,rfl,by rw[HL.out]⟩
  ·have hil:i=t.length:=Aj6;have HL:Akc (Ca t=true):=by
    have:=hA.out;rw[hil,Ag7]at this;rw[Akc,Ca,decide_eq_true Aj6,Ag0.2 this];rfl
   clear hA
   repeat' (first|refine Z1 ?_|(refine Z8 ?_;intro yb ya)|(refine Z4 ?_;clear ya yb)|(refine Z2 ?_ ?_<;>intro h aa<;>try exact Xp)|refine Z3 ?_|exact Zt|(apply ya.out;clear ya yb))
   exact⟨_,rfl,by rw[HL.out]⟩
inductive GChg (T:List RItem->Option (List RItem)->Prop)(b:Int)(l:List RItem)(m:Int):List RItem->Int->Prop where
 |refl:GChg T b l m l m
 |snoc {l1 l2:List RItem} {m1:Int}:GChg T b l m l1 m1->m1<b->T l1 (some l2)->GChg T b l m l2 (m1+1)
def qV (T:List RItem->Option (List RItem)->Prop)(b:Int)(l:List RItem)(m:Int)(l':List RItem)(m':Int):Prop:=GChg T b l m l' m'/\(b<=m'\/T l' none)
inductive GPss (T:UInt8->List RItem->Option (List RItem)->Prop)(b:Int)(l:List RItem)(m:Int):Tx->List RItem->Int->Prop where
 |nil:GPss T b l m [] l m
 |snoc {ps:Tx} {c:UInt8} {l1 l2:List RItem} {m1 m2:Int}:GPss T b l m ps l1 m1->qV (T c) b l1 m1 l2 m2->GPss T b l m (ps++[c]) l2 m2
structure Ov (T:List RItem->Option (List RItem)->Prop)(N:List Tx)(ar:Tx->Nat)(c:UInt8):Prop where
 call:∀(l:List RItem) (cs:List AV) (idn idi:Nat),RtL N ar l->EL (PI N) l cs->∀σ:St,ACalls Tryz.prog 73 [Bn N idn l idi cs,sc (.int .u8 c.toNat)] σ fun r σ'=>(∃x b,r=tp [x,sc (.bool b)]/\StpR T N l idn x b)/\Keep σ σ'
 rt:∀l l',T l (some l')->RtL N ar l->RtL N ar l'
theorem Si (T:UInt8->List RItem->Option (List RItem)->Prop)(N:List Tx)(ar:Tx->Nat)(l:List RItem)(cs:List AV)(idn idi:Nat)(t:Tx)(b:Int)(bi:0<=b)(bh:b<=9223372036854775807)(a9:t.length<=8)(ht:∀c∈t,Ov (T c) N ar c)(hR:RtL N ar l)(hE:EL (PI N) l cs)(σ:St):
  ACalls Tryz.prog 39 [Bn N idn l idi cs,str t,sc (.int .i64 b)] σ fun r σ'=>(∃l' id c' m,r=tp [Bn N idn l' id c',sc (.int .i64 m)]/\GPss T b l 0 t l' m/\RtL N ar l'/\EL (PI N) l' c')/\Keep σ σ':=by
 have hC:=fun l cs idi c (hc:Ov (T c) N ar c) hR hE σ=>hc.call l cs idn idi hR hE σ;refine Z9 36 [.cell 6 62,.tmp 7] Tryz.func39 ?_
 repeat' (first|refine Z1 ?_|(refine Z8 ?_;intro yb ya)|(refine Z4 ?_;clear ya yb)|refine Z3 ?_|exact Zt|(apply ya.out;clear ya yb))
 refine Af (fun k s σ'=>∃(i:Nat) (m:Int) (l1:List RItem) (id1:Nat) (c1:List AV),k=t.length-i/\i<=t.length/\0<=m/\m<=b/\s 1=str t/\s 2=sc (.int .i64 b)/\s 3=ptr σ.nobj 0/\s 6=ptr (σ.nobj+1) 0/\s 8=sc (.int .i64 m)/\s 9=sc (.int .i64 i)/\Keep σ σ'/\σ.nobj+1<σ'.nobj/\σ'.obj σ.nobj=[sl idn N.length (N.map str),sl id1 l1.length c1]/\σ'.obj (σ.nobj+1)=[nilS,nilS]/\Akc (GPss T b l 0 (t.take i) l1 m/\RtL N ar l1/\EL (PI N) l1 c1)) t.length
  ⟨0,0,l,idi,cs,Aj6,Aj6,Aj6,Aj6,rfl,rfl,Aj8,Aj8,Aj8,Aj8,Xs,Aka,by rw[Ag Aka,Ao],by first|exact Ao|simp[Ao],⟨GPss.nil,hR,hE⟩⟩ ?_
 rintro k s σ' ⟨i,m,l1,id1,c1,rfl,hi,bg,bf,h1,h2,h3,h6,h8,h9,hK,ao,ad,ac,hA⟩;have ax:=hK.nobj;by_cases az:i<t.length
 ·have ah:=Agz az;have av:=ht t[i] (Ain az);generalize t[i]=c at ah av;have HP:Akc (∀l2 m2,qV (T c) b l1 m l2 m2->GPss T b l 0 (t.take (i+1)) l2 m2):=fun l2 m2 h=>by
   rw[Ahd,ah,Ais];exact GPss.snoc hA.out.1 h
  have a3:Akc (RtL N ar l1):=hA.out.2.1;have a4:Akc (EL (PI N) l1 c1):=hA.out.2.2;clear hA
  repeat' (first|refine Z1 ?_|(refine Z8 ?_;intro yb ya)|(refine Z4 ?_;clear ya yb)|(refine Z2 ?_ ?_<;>intro h aa<;>try exact Xp)|refine Z3 ?_|exact Zt|(apply ya.out;clear ya yb))
  refine Af (fun k s σ2=>∃(m2:Int) (l2:List RItem) (id2:Nat) (c2:List AV),k=(b-m2).toNat/\m<=m2/\m2<=b/\s 1=str t/\s 2=sc (.int .i64 b)/\s 3=ptr σ.nobj 0/\s 6=ptr (σ.nobj+1) 0/\s 8=sc (.int .i64 m2)/\s 9=sc (.int .i64 i)/\Keep σ σ2/\σ.nobj+1<σ2.nobj/\σ2.obj σ.nobj=[sl idn N.length (N.map str),sl id2 l2.length c2]/\σ2.obj (σ.nobj+1)=[nilS,nilS]/\Akc (GChg (T c) b l1 m l2 m2/\RtL N ar l2/\EL (PI N) l2 c2)) (b-m).toNat
   ⟨m,l1,id1,c1,rfl,Aj6,Aj6,Aj7,Aj7,Aj7,Aj7,Aj7,Aj7,hK,ao,ad,ac,⟨GChg.refl,a3.out,a4.out⟩⟩ ?_
  clear h1 h2 h3 h6 h8 h9 hK ao ad ac ax a3 a4;rintro k s σ2 ⟨m2,l2,id2,c2,rfl,bc,be,h1,h2,h3,h6,h8,h9,hK,ao,ad,ac,hA⟩;have ax:=hK.nobj;by_cases au:m2<b
  ·have hC:=hC l2 c2 id2 c av hA.out.2.1 hA.out.2.2;have ap:decide (m2<b)=true:=by simpa using au
   repeat' (first|refine Z1 ?_|(refine Z8 ?_;intro yb ya)|(refine Z4 ?_;clear ya yb)|(refine Z2 ?_ ?_<;>intro h aa<;>try exact Xp)|refine Z3 ?_|exact Zt|(apply ya.out;clear ya yb))
   refine Bt (Q:=fun e s' σ''=>e= .normal/\∃(o10 t1 t2:Nat) (t3:List AV) (t4 t5:Nat) (t6:List AV) (b':Bool),s' 10=ptr o10 0/\σ2.nobj<=o10/\o10<σ''.nobj/\σ''.obj o10=[sl t1 t2 t3,sl t4 t5 t6]/\s' 11=sc (.bool b')/\StpR (T c) N l2 idn (ag [sl t1 t2 t3,sl t4 t5 t6]) b'/\s' 1=s 1/\s' 2=s 2/\s' 3=s 3/\s' 6=s 6/\s' 8=s 8/\s' 9=s 9/\Keep σ2 σ'') ?_ ?_
   ·have bm:(∀p:Nat,some σ.nobj=some p->p<σ2.nobj)=True:=eq_true fun p e=>by cases e;omega
    have bl:(∀p:Nat,False->p<σ2.nobj)=True:=eq_true fun p e=>e.elim;refine A1 Ai (fun p=>p<σ2.nobj) [] [0,1,2,3] 7 #[true,true,true,true,false,false,false,false,false,false,false] Aj9 (fun _ _ _ h=>by cases h.1) ?_;intro yb ya;refine Z3 ?_;refine ya.out _ ?_;clear ya yb;refine Ef (rs:=[4,8]) Aj9 (by simp) ?_;intro j hj;simp only[Ah2,Ail,Aj5]at hj;rcases hj with rfl|rfl
    ·refine Aq ?_;intro yb ya;refine Z3 ?_;refine ACalls.mono (hC _) ?_;rintro _ σ5 ⟨⟨x5,b5,rfl,aj⟩,ab⟩;obtain⟨t1,t2,t3,t4,t5,t6,rfl⟩:=aj.1;have af:=ab.nobj;refine Z3 ?_;refine ya.out _ _ ⟨Ap ab,?_⟩;clear ya yb;refine Yc [5,6,7] 3 6 #[true,true,true,true,true,true,true,true,false,false,false] rfl Aj9 Aj9 (fun _ _ _ h=>by cases h.1) (ab).nobj (fun o ho _=>(ab).ver o ho) ?_;intro yb ya;refine Z3 ?_;refine ya.out _ ?_;clear ya yb;refine Am (i:=8) Aj9 ?_;refine Aq ?_;intro yb ya;refine Z3 ?_;refine ya.out _ _ ⟨Ap ((Keep.refl _).new _),?_⟩;clear ya yb;refine Am (i:=9) Aj9 ?_;refine Aq ?_;intro yb ya;refine Z3 ?_;refine ya.out _ _ ⟨fun _ o ho _=>by simp[St.put,St.new];omega,?_⟩;clear ya yb;refine E5 [10] Aj9 Aj9 (fun _ _ _ h=>by cases h.1) Akb (fun o ho _=>by simp[St.put,St.new];omega) ?_;intro yb ya;refine Z3 ?_;refine ya.out _ _ ⟨rfl,σ5.nobj,t1,t2,t3,t4,t5,t6,b5,Aj8,Aj6,Akb,by rw[Aj],Aj8,aj,Aj8,Aj8,Aj8,Aj8,Aj8,Aj8,(ab.new _).put Aj6 _⟩
    ·refine Aq ?_;intro yb ya;refine Z3 ?_;refine ya.out _ _ ⟨Ap ((Keep.refl _).new _),?_⟩;clear ya yb;refine Am (i:=4) Aj9 ?_;refine Aq ?_;intro yb ya;refine Z3 ?_;refine ACalls.mono (hC _) ?_;rintro _ σ5 ⟨⟨x5,b5,rfl,aj⟩,ab⟩;obtain⟨t1,t2,t3,t4,t5,t6,rfl⟩:=aj.1;have af:=ab.nobj;have ae:=ab.obj;simp only[Aa]at af ae;have ak:Keep σ2 σ5:=((Keep.refl _).new _).trans ab;have a5:σ5.obj σ2.nobj=[nilS,nilS]:=by rw[ae _ Aj6,Ao]
     refine Z3 ?_;refine ya.out _ _ ⟨Ap ak,?_⟩;clear ya yb;refine Yc [5,6,7] 2 5 #[true,true,true,true,true,true,true,true,true,false,false] rfl Aj9 Aj9 (fun _ _ _ h=>by cases h.1) (ak).nobj (fun o ho _=>(ak).ver o ho) ?_;intro yb ya;refine Z3 ?_;refine ya.out _ ?_;clear ya yb;refine Am (i:=9) Aj9 ?_;refine Aq ?_;intro yb ya;refine Z3 ?_;refine ya.out _ _ ⟨fun _ o ho hF=>by simp[St.put];omega,?_⟩;clear ya yb;refine E5 [10] Aj9 Aj9 (fun _ _ _ h=>by cases h.1) (by simp only[Ab];omega) (fun o ho hF=>by simp[St.put];omega) ?_;intro yb ya;refine Z3 ?_;refine ya.out _ _ ⟨rfl,σ2.nobj,t1,t2,t3,t4,t5,t6,b5,Aj8,Aj6,by simp only[Ab];omega,by rw[Aj],Aj8,aj,Aj8,Aj8,Aj8,Aj8,Aj8,Aj8,ak.put Aj6 _⟩
   ·rintro e s' σ'' ⟨rfl,o10,t1,t2,t3,t4,t5,t6,b',g10,bb,ba,a7,g11,a8,g1,g2,g3,g6,g8,g9,am⟩;rw[h1]at g1;rw[h2]at g2;rw[h3]at g3;rw[h6]at g6;rw[h8]at g8;rw[h9]at g9;have ak:=hK.trans am;have a6:=am.nobj;have oz0:σ''.obj σ.nobj=[sl idn N.length (N.map str),sl id2 l2.length c2]:=by rw[am.obj _ Aj6,ad]
    have oz1:σ''.obj (σ.nobj+1)=[nilS,nilS]:=by rw[am.obj _ Aj6,ac]
    obtain⟨-,o,ai,an,aw⟩:=a8;clear h1 h2 h3 h6 h8 h9 hK am ad ac hC;cases o with
    |none=>
     simp only[Aj1]at an;subst an;have HQ:=HP.out l2 m2 ⟨hA.out.1,.inr ai⟩;have HZ:Akc (GPss T b l 0 (t.take (i+1)) l2 m2/\RtL N ar l2/\EL (PI N) l2 c2):=⟨HQ,hA.out.2⟩;clear HQ HP hA ai aw
     repeat' (first|refine Z1 ?_|(refine Z8 ?_;intro yb ya)|(refine Z4 ?_;clear ya yb)|(refine Z2 ?_ ?_<;>intro h aa<;>try exact Xp)|refine Z3 ?_|exact Zt|(apply ya.out;clear ya yb))
     refine⟨t.length-(i+1),Aj6,i+1,m2,l2,id2,c2,?_⟩
     ((repeat' refine Zi ?_ ?_)<;>first|exact Xq|exact HZ|exact Xs)
    |some l3=>
     simp only[Option.isSome_some]at an;subst an;obtain⟨id3,c3,ay,a0⟩:=aw l3 rfl;simp only[DataW.agg.injEq,Ajv,and_true]at ay;obtain⟨e1,e2⟩:=ay;rw[e1,e2]at a7;have HZ:Akc (GChg (T c) b l1 m l3 (m2+1)/\RtL N ar l3/\EL (PI N) l3 c3):=⟨GChg.snoc hA.out.1 au ai,av.rt _ _ ai hA.out.2.1,a0⟩;clear HP hA ai aw a0 e1 e2
     repeat' (first|refine Z1 ?_|(refine Z8 ?_;intro yb ya)|(refine Z4 ?_;clear ya yb)|(refine Z2 ?_ ?_<;>intro h aa<;>try exact Xp)|refine Z3 ?_|exact Zt|(apply ya.out;clear ya yb))
     refine⟨(b-(m2+1)).toNat,Aj6,m2+1,l3,id3,c3,?_⟩
     ((repeat' refine Zi ?_ ?_)<;>first|exact Xq|exact HZ|exact Xs)
  ·have bd:m2=b:=Aj6;have HQ:=HP.out l2 m2 ⟨hA.out.1,.inl Aj6⟩;have HZ:Akc (GPss T b l 0 (t.take (i+1)) l2 m2/\RtL N ar l2/\EL (PI N) l2 c2):=⟨HQ,hA.out.2⟩;clear HQ HP hA;have ap:decide (m2<b)=false:=by simpa using au
   repeat' (first|refine Z1 ?_|(refine Z8 ?_;intro yb ya)|(refine Z4 ?_;clear ya yb)|(refine Z2 ?_ ?_<;>intro h aa<;>try exact Xp)|refine Z3 ?_|exact Zt|(apply ya.out;clear ya yb))
   refine⟨t.length-(i+1),Aj6,i+1,m2,l2,id2,c2,?_⟩
   ((repeat' refine Zi ?_ ?_)<;>first|exact Xq|exact HZ|exact Xs)
 ·have hil:i=t.length:=Aj6;subst hil;rw[Ag7]at hA
  repeat' (first|refine Z1 ?_|(refine Z8 ?_;intro yb ya)|(refine Z4 ?_;clear ya yb)|(refine Z2 ?_ ?_<;>intro h aa<;>try exact Xp)|refine Z3 ?_|exact Zt|(apply ya.out;clear ya yb))
  exact⟨_,rfl,⟨l1,id1,c1,m,rfl,hA.out⟩,Xs⟩
abbrev vS (p:Tx×Int×Int):AV:=tp [str p.1,sc (.int .i64 p.2.1),sc (.int .i64 p.2.2)]
def G4 (T:List Tx->UInt8->List RItem->Option (List RItem)->Prop)(t ps:Tx)(b:Int)(r:Tx×Int×Int):Prop:=
 if (As t).1≠0 then r=([],0,(As t).1)else
 if Ca ps=false then r=([],0,11)else
 if b<0 then r=([],0,6)else
 ∃N l cs ar l' m,Right t N l cs/\X0 l ar/\RtL N ar l'/\GPss (T N) b l 0 ps l' m/\r=(Cj l',m,0)
theorem Vn (T:List Tx->UInt8->List RItem->Option (List RItem)->Prop)(t ps:Tx)(b:Int)(hb:b<=9223372036854775807)(an:Ca ps=true->∀N ar,∀c∈ps,Ov (T N c) N ar c)(σ:St):ACalls Tryz.prog 15 [str t,str ps,sc (.int .i64 b)] σ fun r σ'=>∃p,r=vS p/\G4 T t ps b p/\Keep σ σ':=by
 have hL:=fun σ=>Zy t σ;have hA:=fun σ=>Wj ps σ;by_cases he:(As t).1=0
 ·have HE:Akc ((As t).1=0):=he;have a0:((As t).1 !=0)=false:=by simpa using he
  have am:t.length<=600:=by
   by_cases hl:600<t.length
   ·unfold As at he;rw[if_pos hl]at he;simp at he
   ·omega
  have ae:Akc (∀r,(if Ca ps=false then r=([],0,11)else if b<0 then r=([],0,6)else∃N l cs ar l' m,Right t N l cs/\X0 l ar/\RtL N ar l'/\GPss (T N) b l 0 ps l' m/\r=(Cj l',m,0))->G4 T t ps b r):=fun r h=>by
   unfold G4;rw[if_neg (by simp[HE.out])];exact h
  clear he;cases hp:Ca ps with
  |false=>
   rw[hp]at hA;have HP:Akc (G4 T t ps b ([],0,11)):=ae.out _ (by rw[if_pos hp]);clear ae hp;refine Z9 38 [.tmp 6,.tmp 7,.tmp 8] Tryz.func15 ?_
   repeat' (first|refine Z1 ?_|(refine Z8 ?_;intro yb ya)|(refine Z4 ?_;clear ya yb)|(refine Z2 ?_ ?_<;>intro h ad<;>try exact Xp)|(refine Z5 ?_;first|(refine Xi (hL _) ?_;rintro _ _ ⟨idn,n1,c1,idi,n2,c2,rfl,ab,aa⟩;(have ac:=ab.nobj;clear aa))|(refine Xi (hA _) ?_;rintro _ _ ⟨rfl,rfl⟩))|refine Z3 ?_|exact Zt|(apply ya.out;clear ya yb))
   exact⟨_,rfl,_,rfl,HP.out,Xs⟩
  |true=>
   rw[hp]at hA;have az:ps.length<=8:=by
    unfold Ca at hp;simp only[Ag3,Aj3]at hp;exact hp.1
   by_cases ah:b<0
   ·have a3:decide (b<0)=true:=by simpa using ah
    have HP:Akc (G4 T t ps b ([],0,6)):=ae.out _ (by rw[if_neg (by simp[hp]),if_pos ah]);clear ae hp;refine Z9 38 [.tmp 6,.tmp 7,.tmp 8] Tryz.func15 ?_
    repeat' (first|refine Z1 ?_|(refine Z8 ?_;intro yb ya)|(refine Z4 ?_;clear ya yb)|(refine Z2 ?_ ?_<;>intro h ad<;>try exact Xp)|(refine Z5 ?_;first|(refine Xi (hL _) ?_;rintro _ _ ⟨idn,n1,c1,idi,n2,c2,rfl,ab,aa⟩;(have ac:=ab.nobj;clear aa))|(refine Xi (hA _) ?_;rintro _ _ ⟨rfl,rfl⟩))|refine Z3 ?_|exact Zt|(apply ya.out;clear ya yb))
    exact⟨_,rfl,_,rfl,HP.out,Xs⟩
   ·have a3:decide (b<0)=false:=by simpa using ah
    have HP:Akc (∀r,(∃N l cs ar l' m,Right t N l cs/\X0 l ar/\RtL N ar l'/\GPss (T N) b l 0 ps l' m/\r=(Cj l',m,0))->G4 T t ps b r):=fun r h=>ae.out _ (by rw[if_neg (by simp[hp]),if_neg ah];exact h);have ba:Akc (∃ar,X0 (Cv t) ar):=Aga HE.out;have a8:Akc _:=an hp;clear ae hp an;refine Z9 38 [.tmp 6,.tmp 7,.tmp 8] Tryz.func15 ?_
    repeat' (first|refine Z1 ?_|(refine Z8 ?_;intro yb ya)|(refine Z4 ?_;clear ya yb)|(refine Z2 ?_ ?_<;>intro h ad<;>try exact Xp)|(refine Z5 ?_;first|(refine Xi (hL _) ?_;rintro _ _ ⟨idn,n1,c1,idi,n2,c2,rfl,ab,aa⟩;(have ac:=ab.nobj;obtain⟨N,l,hp,aw,rfl,rfl,rfl,ay,ao⟩:=aa HE.out;have ai:Right t N l c2:=⟨HE.out,am,hp,aw,ao⟩;have af:∃ar,X0 l ar:=(by rw[<-ai.items];exact ba.out);obtain⟨ar,af⟩:=af;have a5:=fun σ=>Si (T N) N ar l c2 idn idi ps b Aj6 hb az (a8.out N ar) (ai.rt af) aw.el σ;have a7:Akc _:=ai;have a9:Akc _:=af;clear hp aa ay ao ai af))|(refine Xi (hA _) ?_;rintro _ _ ⟨rfl,rfl⟩)|(refine Xi (a5 _) ?_;rintro _ _ ⟨⟨l',id',c',m',rfl,ap,aj,a6⟩,av⟩;(have ak:=av.nobj;simp only[Ab,Aa]at ak;have a4:=fun σ=>nN N l' c' idn id' ((aj.gl.bkm a6).bk aj.gl.len) aj.wi σ;have HZ:Akc (G4 T t ps b (Cj l',m',0)):=HP.out _ ⟨N,l,c2,ar,l',m',a7.out,a9.out,aj,ap,rfl⟩;clear ap))|(refine Xi (a4 _) ?_;rintro _ _ ⟨rfl,au⟩;(have ax:=au.nobj)))|refine Z3 ?_|exact Zt|(apply ya.out;clear ya yb))
    exact⟨_,rfl,_,rfl,HZ.out,(((((ab.new _).put Aj6 _).trans av).new _).put Aj6 _).trans au⟩
 ·have a0:((As t).1 !=0)=true:=by simpa using he
  have HP:Akc (G4 T t ps b ([],0,(As t).1)):=by unfold G4;rw[if_pos he];rfl
  clear he;refine Z9 38 [.tmp 6,.tmp 7,.tmp 8] Tryz.func15 ?_
  repeat' (first|refine Z1 ?_|(refine Z8 ?_;intro yb ya)|(refine Z4 ?_;clear ya yb)|(refine Z2 ?_ ?_<;>intro h ad<;>try exact Xp)|(refine Z5 ?_;refine Xi (hL _) ?_;rintro _ _ ⟨idn,n1,c1,idi,n2,c2,rfl,ab,aa⟩;(have ac:=ab.nobj;clear aa))|refine Z3 ?_|exact Zt|(apply ya.out;clear ya yb))
  exact⟨_,rfl,_,rfl,HP.out,Xs⟩
def StA (N:List Tx)(l:List RItem)(o:Option (List RItem)):Prop:=
 (o=none/\sR N l l.length)\/∃i k y,o=some (Co i [G6 y k] l)/\l[i]?=some y/\y.out=false/\k<y.body.length/\Se N l i k=true/\sR N l i/\∀k',k'<k->Se N l i k'=false
def StR (N:List Tx)(l:List RItem)(o:Option (List RItem)):Prop:=
 (o=none/\sQ N l l.length)\/∃i y,o=some (Co i [] l)/\l[i]?=some y/\y.out=false/\Cy N l (Co i [] l)=true/\iT N l i y true/\sQ N l i
theorem chA.stp {N:List Tx}{l:List RItem}{idn:Nat}{x:AV}{b:Bool}(h:chA N l idn x b)(ht:kC x):StpR (StA N) N l idn x b:=by
 refine⟨ht,?_⟩;rcases h with⟨rfl,h⟩|⟨rfl,i,k,y,h1,h2,h3,h4,h5,h6,id,c',h7,h8⟩
 ·exact⟨none,.inl ⟨rfl,h⟩,rfl,fun l' e=>by cases e⟩
 ·exact⟨_,.inr ⟨i,k,y,rfl,h1,h2,h3,h4,h5,h6⟩,rfl,fun l' e=>by cases e;exact⟨id,c',h7,h8⟩⟩
theorem chR.stp {N:List Tx}{l:List RItem}{idn:Nat}{x:AV}{b:Bool}(h:chR N l idn x b)(ht:kC x):StpR (StR N) N l idn x b:=by
 refine⟨ht,?_⟩;rcases h with⟨rfl,h⟩|⟨rfl,i,y,h1,h2,h3,h4,h5,id,c',h7,h8⟩
 ·exact⟨none,.inl ⟨rfl,h⟩,rfl,fun l' e=>by cases e⟩
 ·exact⟨_,.inr ⟨i,y,rfl,h1,h2,h3,h4,h5⟩,rfl,fun l' e=>by cases e;exact⟨id,c',h7,h8⟩⟩
theorem StA.rt {N:List Tx}{ar:Tx->Nat}{l l':List RItem}(h:StA N l (some l'))(hR:RtL N ar l):RtL N ar l':=by
 rcases h with⟨h,-⟩|⟨i,k,y,h,h1,h2,h3,h4,-⟩
 ·cases h
 ·cases h;refine hR.wo h1 h2 ?_;unfold Se at h4;rw[h1]at h4;simp only[Ag3]at h4;obtain⟨s,hs⟩:=Ahc.1 h4.1;unfold lE at hs;obtain⟨s0,-,hs⟩:=Option.bind_eq_some_iff.1 hs;unfold Is at hs;split at hs
  ·assumption
  ·cases hs
theorem StR.rt {N:List Tx}{ar:Tx->Nat}{l l':List RItem}(h:StR N l (some l'))(hR:RtL N ar l):RtL N ar l':=by
 rcases h with⟨h,-⟩|⟨i,y,h,-⟩
 ·cases h
 ·cases h;exact hR.less i
theorem tS (N:List Tx)(ar:Tx->Nat)(l:List RItem)(cs:List AV)(idn idi:Nat)(hR:RtL N ar l)(hE:EL (PI N) l cs)(σ:St):
  ACalls Tryz.prog 73 [Bn N idn l idi cs,sc (.int .u8 (97:UInt8).toNat)] σ fun r σ'=>(∃x b,r=tp [x,sc (.bool b)]/\StpR (StA N) N l idn x b)/\Keep σ σ':=by
 have hS:=fun σ=>O0 N l cs idn idi hR.gl hE σ;have e1:((((97:UInt8).toNat:Nat):Int)==115)=false:=rfl;have e2:((((97:UInt8).toNat:Nat):Int)==97)=true:=rfl;refine Z9 38 [.cell 4 62,.tmp 5] Tryz.func73 ?_
 repeat' (first|refine Z1 ?_|(refine Z8 ?_;intro yb ya)|(refine Z4 ?_;clear ya yb)|(refine Z2 ?_ ?_<;>intro h af<;>try exact Xp)|(refine Z5 ?_;refine Xi (hS _) ?_;rintro _ _ ⟨⟨x1,b1,rfl,ac,ad⟩,ae⟩;(have HX:Akc _:=ac;have HT:Akc (kC x1):=ad;obtain⟨t1,t2,t3,t4,t5,t6,rfl⟩:=ad;clear ac;have ab:=ae.nobj;have aa:=ae.obj;(try simp only[Aa]at ab aa)))|refine Z3 ?_|exact Zt|(apply ya.out;clear ya yb))
 exact⟨_,rfl,⟨_,b1,rfl,chA.stp HX.out HT.out⟩,Xs⟩
theorem tQ (N:List Tx)(ar:Tx->Nat)(l:List RItem)(cs:List AV)(idn idi:Nat)(hR:RtL N ar l)(hE:EL (PI N) l cs)(σ:St):
  ACalls Tryz.prog 73 [Bn N idn l idi cs,sc (.int .u8 (114:UInt8).toNat)] σ fun r σ'=>(∃x b,r=tp [x,sc (.bool b)]/\StpR (StR N) N l idn x b)/\Keep σ σ':=by
 have hS:=fun σ=>Nh N l cs idn idi _ hR.gl hR.bki hE σ;have e1:((((114:UInt8).toNat:Nat):Int)==115)=false:=rfl;have e2:((((114:UInt8).toNat:Nat):Int)==97)=false:=rfl;have e3:((((114:UInt8).toNat:Nat):Int)==114)=true:=rfl;refine Z9 38 [.cell 4 62,.tmp 5] Tryz.func73 ?_
 repeat' (first|refine Z1 ?_|(refine Z8 ?_;intro yb ya)|(refine Z4 ?_;clear ya yb)|(refine Z2 ?_ ?_<;>intro h af<;>try exact Xp)|(refine Z5 ?_;refine Xi (hS _) ?_;rintro _ _ ⟨⟨x1,b1,rfl,ac,ad⟩,ae⟩;(have HX:Akc _:=ac;have HT:Akc (kC x1):=ad;obtain⟨t1,t2,t3,t4,t5,t6,rfl⟩:=ad;clear ac;have ab:=ae.nobj;have aa:=ae.obj;(try simp only[Aa]at ab aa)))|refine Z3 ?_|exact Zt|(apply ya.out;clear ya yb))
 exact⟨_,rfl,⟨_,b1,rfl,chR.stp HX.out HT.out⟩,Xs⟩
def St5 (N:List Tx)(c:UInt8)(l:List RItem)(o:Option (List RItem)):Prop:=
 (c=115/\StS N l o)\/(c=97/\StA N l o)\/(c=114/\StR N l o)\/(c=117/\StU N l o)\/(c=108/\StL N l o)
theorem StpR.mono {T T':List RItem->Option (List RItem)->Prop}{N:List Tx}{l:List RItem}{idn:Nat}{x:AV}{b:Bool}(h:StpR T N l idn x b)(hT:∀o,T l o->T' l o):StpR T' N l idn x b:=by
 obtain⟨h1,o,h2,h3⟩:=h;exact⟨h1,o,hT o h2,h3⟩
theorem psS (N:List Tx)(ar:Tx->Nat):Ov (St5 N 115) N ar 115:=
 ⟨fun l cs idn idi hR hE σ=>(tP N ar l cs idn idi hR hE σ).mono fun r σ' ⟨⟨x,b,h1,h2⟩,h3⟩=>⟨⟨x,b,h1,h2.mono fun o h=>.inl ⟨rfl,h⟩⟩,h3⟩,fun l l' h hR=>by
  rcases h with⟨-,h⟩|⟨h,-⟩|⟨h,-⟩|⟨h,-⟩|⟨h,-⟩
  ·exact h.rt hR
  all_goals cases h⟩
theorem psA (N:List Tx)(ar:Tx->Nat):Ov (St5 N 97) N ar 97:=
 ⟨fun l cs idn idi hR hE σ=>(tS N ar l cs idn idi hR hE σ).mono fun r σ' ⟨⟨x,b,h1,h2⟩,h3⟩=>⟨⟨x,b,h1,h2.mono fun o h=>.inr (.inl ⟨rfl,h⟩)⟩,h3⟩,fun l l' h hR=>by
  rcases h with⟨h,-⟩|⟨-,h⟩|⟨h,-⟩|⟨h,-⟩|⟨h,-⟩
  ·cases h
  ·exact h.rt hR
  all_goals cases h⟩
theorem psR (N:List Tx)(ar:Tx->Nat):Ov (St5 N 114) N ar 114:=
 ⟨fun l cs idn idi hR hE σ=>(tQ N ar l cs idn idi hR hE σ).mono fun r σ' ⟨⟨x,b,h1,h2⟩,h3⟩=>⟨⟨x,b,h1,h2.mono fun o h=>.inr (.inr (.inl ⟨rfl,h⟩))⟩,h3⟩,fun l l' h hR=>by
  rcases h with⟨h,-⟩|⟨h,-⟩|⟨-,h⟩|⟨h,-⟩|⟨h,-⟩
  ·cases h
  ·cases h
  ·exact h.rt hR
  all_goals cases h⟩
theorem psU (N:List Tx)(ar:Tx->Nat):Ov (St5 N 117) N ar 117:=
 ⟨fun l cs idn idi hR hE σ=>(tO N ar l cs idn idi hR hE σ).mono fun r σ' ⟨⟨x,b,h1,h2⟩,h3⟩=>⟨⟨x,b,h1,h2.mono fun o h=>.inr (.inr (.inr (.inl ⟨rfl,h⟩)))⟩,h3⟩,fun l l' h hR=>by
  rcases h with⟨h,-⟩|⟨h,-⟩|⟨h,-⟩|⟨-,h⟩|⟨h,-⟩
  ·cases h
  ·cases h
  ·cases h
  ·exact h.rt hR
  ·cases h⟩
theorem psL (N:List Tx)(ar:Tx->Nat):Ov (St5 N 108) N ar 108:=
 ⟨fun l cs idn idi hR hE σ=>(tR N ar l cs idn idi hR hE σ).mono fun r σ' ⟨⟨x,b,h1,h2⟩,h3⟩=>⟨⟨x,b,h1,h2.mono fun o h=>.inr (.inr (.inr (.inr ⟨rfl,h⟩)))⟩,h3⟩,fun l l' h hR=>by
  rcases h with⟨h,-⟩|⟨h,-⟩|⟨h,-⟩|⟨h,-⟩|⟨-,h⟩
  ·cases h
  ·cases h
  ·cases h
  ·cases h
  ·exact h.rt hR⟩
theorem ps5 {ps:Tx}(h:Ca ps=true)(N:List Tx)(ar:Tx->Nat):∀c∈ps,Ov (St5 N c) N ar c:=fun c hc=>by
 unfold Ca at h;simp only[Ag3,Ag0]at h;have hp:=h.2 c hc;unfold It at hp;rcases of_decide_eq_true hp with rfl|rfl|rfl|rfl|rfl
 ·exact psS N ar
 ·exact psA N ar
 ·exact psR N ar
 ·exact psU N ar
 ·exact psL N ar
theorem Mw (t ps:Tx)(b:Int)(hb:b<=9223372036854775807)(σ:St):ACalls Tryz.prog 15 [str t,str ps,sc (.int .i64 b)] σ fun r σ'=>∃p,r=vS p/\G4 St5 t ps b p/\Keep σ σ':=
 Vn St5 t ps b hb (fun h N ar=>ps5 h N ar) σ
theorem oD {o:List RItem}(ho:∀z∈o,z.out=false)(i:Nat):∀(l:List RItem) (k:Nat),(∀y,l[i-k]?=some y->k<=i->y.out=false)->((l.zipIdx k).flatMap fun p=>if p.2=i then o else [p.1]).filter (·.out)=l.filter (·.out)
 |[],_,_=>rfl
 |x::l,k,h=>by
  rw[List.zipIdx_cons,Aik,Ajk,oD ho i l (k+1) (fun y hy hk=>h y (by rw[show i-k=(i-(k+1))+1 by omega];simpa using hy) Aj6),Ai5];by_cases e:k=i
  ·subst e;have hx:x.out=false:=h x (by simp) (Agn _);have:o.filter (·.out)=[]:=List.filter_eq_nil_iff.2 fun z hz=>by simp[ho z hz]
   simp[this,hx]
  ·simp only[if_neg e,Ai5,List.filter_nil];split<;>rfl
theorem Sx {o l:List RItem}{i:Nat}{y:RItem}(hy:l[i]?=some y)(h1:y.out=false)(ho:∀z∈o,z.out=false):(Co i o l).filter (·.out)=l.filter (·.out):=
 oD ho i l 0 fun z hz _=>by
  have hz:l[i]?=some z:=by simpa using hz
  rw[hy]at hz;cases hz;exact h1
theorem vD {N:List Tx}{l:List RItem}{x:RItem}{k:Nat}{q:Tx}:∀z∈uL N l x k q,z.out=false:=fun z hz=>by
 obtain⟨r,-,rfl⟩:=Aib.1 hz;rfl
theorem St5.kept {N:List Tx}{ar:Tx->Nat}{c:UInt8}{l l':List RItem}(hR:RtL N ar l)(h:St5 N c l (some l')):Cy N l l'=true/\l'.filter (·.out)=l.filter (·.out):=by
 rcases h with⟨-,M,-,h⟩|⟨-,h⟩|⟨-,h⟩|⟨-,M,-,h⟩|⟨-,h⟩
 ·rcases h with⟨-,h⟩|⟨-,⟨-,h⟩|⟨hb,h⟩⟩
  ·cases h
  ·cases h
  ·cases h;refine⟨hb,?_⟩;unfold G3;rw[List.filter_filter];refine List.filter_congr fun x hx=>?_;cases ho:x.out with
   |false=>rfl
   |true=>
    have:Gv N (F8 N.length M N.length) l (N.idxOf x.head.pred)=true:=by
     unfold Gv;exact Ahz.2 ⟨x,hx,by simp[ho]⟩
    rw[this];rfl
 ·rcases h with⟨h,-⟩|⟨i,k,y,h,h1,h2,h3,h4,-⟩
  ·cases h
  ·cases h;unfold Se at h4;rw[h1]at h4;simp only[Ag3]at h4;exact⟨h4.2,Sx h1 h2 fun z hz=>by simp at hz;subst hz;rfl⟩
 ·rcases h with⟨h,-⟩|⟨i,y,h,h1,h2,h3,-⟩
  ·cases h
  ·cases h;exact⟨h3,Sx h1 h2 fun z hz=>by cases hz⟩
 ·rcases h with⟨h,-⟩|⟨i,k,y,a,h,h1,h2,h3,h4,-⟩
  ·cases h
  ·cases h;exact⟨bR h1 h3 h4,Sx h1 h2 vD⟩
 ·rcases h with⟨h,-⟩|⟨i,y,e,h,h1,h2,h3,h4,-⟩
  ·cases h
  ·cases h;exact⟨pY h1 h3 h4,Sx h1 (Il hR h1 h2).1 fun z hz=>by simp at hz;subst hz;rfl⟩
theorem xU {l:List RItem}{ar:Tx->Nat}(h:X0 l ar)(i:Nat):H6 l i=false:=by
 unfold H6;cases hx:l[i]? with
 |none=>rfl
 |some x=>
  simp only;rw[Aim];intro j _;unfold Rp;cases ha:(Ae x)[j]? with
  |none=>simp
  |some a=>
   simp only[Bool.not_eq_true];rw[Aim];intro b hb;have aa:=Ag1 hx;have h1:=h x aa a (Ag1 ha);have h2:b.terms.length=ar b.pred:=by
    rcases Ah8.1 hb with hb|hb
    ·obtain⟨y,hy,ab⟩:=Ah7.1 hb;exact h y (Ajl hy) b ab
    ·exact h x aa b (Ajl hb)
   unfold clash;simp only[Ag3,Aj4,Aj3,not_and,ne_eq,Decidable.not_not];intro e;rw[h1,h2,e]
theorem kN {l l':List RItem}{ar:Tx->Nat}(hA:X0 l' ar)(hs:∀x∈l',F6 x=true)(hw:(Cd l).1=0)(ho:∀x∈l,x.out=true->x.body=[])(ho':∀x∈l',x.out=true->x.body=[])
  (ac:∀x∈l',∃y∈l,y.out=x.out/\y.head.pred=x.head.pred/\∀a∈x.body,∃b∈y.body,b.pred=a.pred/\b.nt=a.nt):Cd l'=(0,0):=by
 have hk:∀i,i<l.length->G1 l i=false:=by
  unfold Cd at hw;split at hw
  ·cases hw
  ·split at hw
   ·cases hw
   ·split at hw
    ·cases hw
    ·rename_i h;exact Kx h
 have ab:∀p q,D5 l' p q->D5 l p q:=fun p q ⟨x,hx,h1,a,ha,h2⟩=>by
  obtain⟨y,hy,-,e,hb⟩:=ac x hx;obtain⟨b,hb,e1,-⟩:=hb a ha;exact⟨y,hy,e.trans h1,b,hb,e1.trans h2⟩
 have ae:∀i,i<l'.length->G1 l' i=false:=fun i hi=>by
  unfold G1;rw[Agz hi];simp only;have hx:=Ain hi;generalize l'[i]=x at hx;rw[Aim];intro a ha aa;obtain⟨y,hy,e1,e2,hb⟩:=ac x hx;obtain⟨b,hb,e3,e4⟩:=hb a ha;obtain⟨j,hj⟩:=Aif hy;have:=hk j (Agy.1 hj).1;unfold G1 at this;rw[hj]at this;simp only at this;refine Aim.1 this b hb ?_;unfold Ac1 at aa⊢;simp only[Ag3,Ai2,Aj4]at aa⊢;rw[e4,e3,e2];refine⟨aa.1,?_⟩;have ad:x.out=false:=by
   cases h:x.out with
   |false=>rfl
   |true=>rw[ho' x hx h]at ha;cases ha
  rcases aa.2 with h|h
  ·exact .inl h
  ·refine .inr ?_;rw[Mn ho' ⟨x,hx,ad,rfl⟩]at h;rw[Mn ho ⟨y,hy,e1.trans ad,e2⟩];exact h.map' ab
 unfold Cd
 rw[if_neg (by rw[Cu fun i _=>xU hA i];decide),if_neg (by
  rw[Cu fun i hi=>?_]
  ·decide
  ·unfold D9;rw[Agz hi];simp only
   rw[hs _ (Ain hi)];rfl),if_neg (by rw[Cu ae];decide)]
theorem RtL.xr {N:List Tx}{ar:Tx->Nat}{l:List RItem}(h:RtL N ar l){x:RItem}(hx:x∈l)(ho:x.out=false):XR x:=
 ⟨fun a ha t ht=>by
  have:=((h.gl.msr x hx).at_ a ha).2.2 t ht
  exact⟨this.1,this.2.1,this.2.2.1⟩,ho,by have:=Afx (h.wit x hx);omega⟩
theorem oF {x:RItem}(ho:x.out=false):G6 x x.body.length=x:=by
 unfold G6;rw[Ajc (Agn _),<-ho]
theorem wU {N:List Tx}{ar:Tx->Nat}{l:List RItem}(h:RtL N ar l){x:RItem}(hx:x∈l)(hs:F6 x=true):F6 (ren x)=true:=by
 cases ho:x.out with
 |true=>
  have hb:=(h.gl.msr x hx).out ho;unfold F6;simp[Ae,ren,ho,hb]
 |false=>
  have hX:=h.xr hx ho;have h1:=hX.safe x.body.length;have e:G6 (ren x) x.body.length=ren x:=by
   have:=oF (x:=ren x) ho;simpa[ren]using this
  rw[e,oF ho,hs]at h1;rw[<-Sv (x:=ren x) fun a ha w hw=>Yb (hX.inO.ut a ha w hw)];exact h1
theorem Aeh {x:RItem}(h:GIt x)(hX:x.out=false->XR x):GIt (ren x):=by
 refine⟨h.nm,fun ho=>?_,fun ho=>?_⟩
 ·obtain⟨h1,h2,h3⟩:=h.out ho;exact⟨h1,by simp[ren,Cs,h2],by simp[ren,h3]⟩
 ·obtain⟨h1,h2,h3,h4⟩:=h.rule ho;have hX:=hX ho;have key:∀a∈Ae x,GA' a->GA' (Cs (A4 x) a):=fun a ha hg=>by
   refine⟨hg.nm,by simpa[Cs]using hg.ne,by simpa[Cs]using hg.few,fun t ht=>?_⟩;simp only[Cs,Aib]at ht;obtain⟨u,hu,rfl⟩:=ht;unfold Gt;split
   ·rename_i hv;have:=hX.rng ha hu hv;exact .inl ⟨_,rfl,Eh this.1 this.2⟩
   ·exact hg.tm u hu
  refine⟨key _ (Ar (.inl ⟨ho,rfl⟩)) h1,h2,by simpa[ren]using h3,fun a ha=>?_⟩;simp only[ren,Aib]at ha;obtain⟨b,hb,rfl⟩:=ha;exact key b (Ar (.inr hb)) (h4 b hb)
theorem fO {t:Tx}{N:List Tx}{l:List RItem}{cs:List AV}(hR:Right t N l cs):(Cd l).1=0:=by
 have:=hR.ok;unfold As at this;split at this
 ·simp at this
 ·split at this
  ·simp at this
  ·rw[hR.items]at this;exact this
theorem Ae7 {N:List Tx}{ar:Tx->Nat}{l:List RItem}(hR:RtL N ar l)(hw:(Cd l).1=0)(hl:H8 l=true)(hg:∀x∈l,GIt x):As (Cj l)=(0,0)/\Cv (Cj l)=l.map ren:=by
 have hi:=iO hR.wit hR.wi;refine⟨?_,hi⟩;have ab:(Cj l).length<=600:=by
  rw[Sr hR.wit];have h1:=Ye l hR.wit;unfold H8 at hl;simp only[Ag3,Aj3]at hl;omega
 have hpl:N5 (Cj l)= -1:=by
  rw[Kq,Sr hR.wit,Zn 16 (l.map ren) (fun y hy=>?_) (by rw[Ai1];exact hR.gl.len)];obtain⟨x,hx,rfl⟩:=Aib.1 hy;exact Aeh (hg x hx) fun ho=>hR.xr hx ho
 unfold As;rw[if_neg Aj6,if_neg (by rw[hpl];decide),hi];refine kN (l:=l) (ar:=ar) (fun y hy a ha=>?_) (fun y hy=>?_) hw (fun x hx=>(hR.gl.msr x hx).out) (fun y hy ho=>?_) (fun y hy=>?_)
 ·obtain⟨x,hx,rfl⟩:=Aib.1 hy;cases ho:x.out with
  |true=>
   have hb:=(hR.gl.msr x hx).out ho;simp[Ae,ren,ho,hb]at ha
  |false=>
   have hr:=hR.ru x hx ho;have aa:a=Cs (A4 x) x.head\/a∈x.body.map (Cs (A4 x)):=by simpa[Ae,ren,ho]using ha
   rcases aa with rfl|aa
   ·show (x.head.terms.map _).length=_;rw[Ai1];exact hr.head.len
   ·obtain⟨b,hb,rfl⟩:=Aib.1 aa;show (b.terms.map _).length=_;rw[Ai1];exact (hr.body b hb).len
 ·obtain⟨x,hx,rfl⟩:=Aib.1 hy;exact wU hR hx (S9 hw hx)
 ·obtain⟨x,hx,rfl⟩:=Aib.1 hy;have:=(hR.gl.msr x hx).out ho;simp[ren,this]
 ·obtain⟨x,hx,rfl⟩:=Aib.1 hy;refine⟨x,hx,rfl,rfl,fun a ha=>?_⟩;simp only[ren,Aib]at ha;obtain⟨b,hb,rfl⟩:=ha;exact⟨b,hb,rfl,rfl⟩
theorem zC {d:Nat}(h:d<=9):Az ((UInt8.ofNat (48+d)).toNat:Int)=true:=by
 have:d=0\/d=1\/d=2\/d=3\/d=4\/d=5\/d=6\/d=7\/d=8\/d=9:=Aj6;rcases this with rfl|rfl|rfl|rfl|rfl|rfl|rfl|rfl|rfl|rfl<;>decide
theorem mG {d:Nat}(h0:1<=d)(h:d<=9):Gz ((UInt8.ofNat (48+d)).toNat:Int)=true:=by
 have:d=1\/d=2\/d=3\/d=4\/d=5\/d=6\/d=7\/d=8\/d=9:=Aj6;rcases this with rfl|rfl|rfl|rfl|rfl|rfl|rfl|rfl|rfl<;>decide
theorem Aeu {n:Nat}(h:n<=999):GTm (Lib.decDigits n):=by
 by_cases h1:n<10
 ·rw[Lib.decDigits_one h1];by_cases h0:n=0
  ·subst h0;exact .inr (.inl rfl)
  ·exact .inr (.inr ⟨_,[],rfl,mG Aj6 Aj6,by simp,by simp⟩)
 ·by_cases h2:n<100
  ·rw[Lib.decDigits_two h1 h2];exact .inr (.inr ⟨_,_,rfl,mG Aj6 Aj6,fun c hc=>by simp only[Ah2,Ail,Aj5]at hc;subst hc;exact zC Aj6,by simp⟩)
  ·rw[Lib.decDigits,dif_neg h1,Lib.decDigits_two Aj6 Aj6];refine .inr (.inr ⟨UInt8.ofNat (48+n / 10 / 10),[UInt8.ofNat (48+n / 10 % 10),UInt8.ofNat (48+n % 10)],rfl,mG Aj6 Aj6,fun c hc=>?_,by simp⟩);simp only[Ah2,Ail,Aj5]at hc;rcases hc with rfl|rfl<;>exact zC Aj6
theorem Afg {t:Tx}(h:UT t):GTm t:=by
 cases hv:Ad t with
 |true=>
  obtain⟨k,hk,rfl⟩:=h.2.2.2 hv;exact .inl ⟨_,rfl,Eh Aj6 Aj6⟩
 |false=>
  rcases h.1 with h1|⟨-,h1,h2,h3⟩
  ·rw[hv]at h1;cases h1
  ·obtain⟨n,hn⟩:=Int.eq_ofNat_of_zero_le h2;rw[hn]at h1 h3;rw[<-h1,Lib.itoa_nonneg];exact Aeu Aj6
theorem Af8 {N:List Tx}{ar:Tx->Nat}{l:List RItem}(hR:RtL N ar l)(hN:∀x∈l,GNm x.head.pred/\∀a∈x.body,GNm a.pred):∀x∈l,GIt x:=fun x hx=>by
 have hm:=hR.gl.msr x hx;have hw:=hR.wit x hx;refine⟨(hN x hx).1,hw.2.1,fun ho=>?_⟩;obtain⟨w1,w2,w3,w4⟩:=hw.2.2 ho;have key:∀a∈Ae x,GNm a.pred->D1 a->GA' a:=fun a ha h1 h2=>⟨h1,h2.2.1,h2.2.2.1,fun t ht=>Afg ((hm.at_ a ha).2.2 t ht)⟩;exact⟨key _ (Ar (.inl ⟨ho,rfl⟩)) (hN x hx).1 w1,w2,w3,fun a ha=>key a (Ar (.inr ha)) ((hN x hx).2 a ha) (w4 a ha)⟩
structure Bhd (N:List Tx)(ar:Tx->Nat)(l l':List RItem):Prop where
 rt:RtL N ar l'
 lim:H8 l'=true
 wr:(Cd l').1=0
 out:l'.filter (·.out)=l.filter (·.out)
theorem Bhd.step {N:List Tx}{ar:Tx->Nat}{c:UInt8}{l l1 l2:List RItem}(h:Bhd N ar l l1)(hs:St5 N c l1 (some l2))(hp:Ov (St5 N c) N ar c):Bhd N ar l l2:=by
 obtain⟨h1,h2⟩:=hs.kept h.rt;unfold Cy at h1;simp only[Ag3,Aj4]at h1;exact⟨hp.rt _ _ hs h.rt,h1.1,h1.2.2,h2.trans h.out⟩
theorem Bhd.chg {N:List Tx}{ar:Tx->Nat}{c:UInt8}{b m m':Int}{l l1 l2:List RItem}(h:Bhd N ar l l1)(hs:GChg (St5 N c) b l1 m l2 m')(hp:Ov (St5 N c) N ar c):Bhd N ar l l2:=by
 induction hs with
 |refl=>exact h
 |snoc _ _ hs ih=>exact ih.step hs hp
theorem Bhd.pss {N:List Tx}{ar:Tx->Nat}{ps:Tx}{b m m':Int}{l l1 l2:List RItem}(h:Bhd N ar l l1)(hs:GPss (St5 N) b l1 m ps l2 m')(hp:∀c∈ps,Ov (St5 N c) N ar c):Bhd N ar l l2:=by
 induction hs with
 |nil=>exact h
 |snoc _ h2 ih=>exact (ih fun c hc=>hp c (by simp[hc])).chg h2.1 (hp _ (by simp))
def gW (l:List RItem)(p:Tx):Prop:=∃x∈l,x.head.pred=p\/∃a∈x.body,a.pred=p
def Wx (l:List RItem)(p:Tx):Prop:=∃x∈l,x.out=false/\x.head.pred=p
theorem wV {N:List Tx}{q:Tx}(h:q∈N)(b:Bool){a:De}(ha:a.p=((N.idxOf q:Nat):Int)):(Mh N b a).pred=q:=by
 show (N[a.p.toNat]?).getD []=q;rw[ha,Ajn,Agz (Air h),Aiq];rfl
theorem vE {N:List Tx}{ar:Tx->Nat}{l:List RItem}(hR:RtL N ar l){x:RItem}(hx:x∈l)(ac:x.out=false){k:Nat}{q:Tx}{z:RItem}(hz:z∈uL N l x k q):z.head.pred=x.head.pred/\∀a∈z.body,∃y∈l,∃b∈y.body,b.pred=a.pred:=by
 obtain⟨r,hr,rfl⟩:=Aib.1 hz;obtain⟨y,hy,e⟩:=List.mem_filterMap.1 hr;obtain⟨ab,aa⟩:=Ai7.1 hy;simp only[Lg,Ag3,Ajo,Aj3]at aa;unfold Wv at e;obtain⟨a,ha,e⟩:=Option.bind_eq_some_iff.1 e;obtain⟨P,hP,rfl⟩:=Aj0.1 e;refine⟨wV (hR.gl.msr x hx).mem false rfl,fun b hb=>?_⟩;obtain⟨m,hm,rfl⟩:=Aib.1 hb;obtain⟨m1,ah,rfl⟩:=Aib.1 hm;obtain⟨m2,af,rfl⟩:=Aib.1 ah;have key:∀w∈l,w.out=false->∀d∈w.body,∀(m:Lit),m.a.p=((N.idxOf d.pred:Nat):Int)->∃y∈l,∃b∈y.body,b.pred=(Mh N m.neg (fS (Ep (Ew P ⟨(A3 N x).head,Co k (Ew aprt (A3 N y)).body (A3 N x).body⟩)) (N6 P m.a))).pred:=fun w hw ho d hd m ad=>⟨w,hw,d,hd,(wV ((hR.ru w hw ho).body d hd).mem m.neg ad).symm⟩;rcases Dt af with h|h
 ·obtain⟨d,hd,rfl⟩:=Aib.1 h;exact key x hx ac d hd _ rfl
 ·obtain⟨m3,ae,rfl⟩:=Aib.1 h;obtain⟨d,hd,rfl⟩:=Aib.1 ae;exact key y ab aa.1 d hd _ rfl
theorem wD {l:List RItem}{i:Nat}{p e:Tx}(h:Fi l i p=some e):∃y∈l,∃b∈y.body,b.pred=e:=by
 unfold Fi at h;split at h
 case h_2=>cases h
 rename_i y ho;split at h
 case isFalse=>cases h
 split at h
 case h_2=>cases h
 rename_i a hb;cases h;have aa:y∈Ks l i p:=by rw[ho];simp
 obtain⟨⟨z,j⟩,hz,rfl⟩:=Aib.1 aa;exact⟨z,List.fst_mem_of_mem_zipIdx (Ai7.1 hz).1,a,by rw[show z.body=[a]from hb];simp,rfl⟩
theorem St5.made {N:List Tx}{ar:Tx->Nat}{c:UInt8}{l l':List RItem}(hR:RtL N ar l)(h:St5 N c l (some l')):∀z∈l',z∈l\/(z.out=false/\∃x∈l,x.out=false/\z.head.pred=x.head.pred/\∀a∈z.body,∃y∈l,∃b∈y.body,b.pred=a.pred):=by
 rcases h with⟨-,M,-,h⟩|⟨-,h⟩|⟨-,h⟩|⟨-,M,-,h⟩|⟨-,h⟩
 ·rcases h with⟨-,h⟩|⟨-,⟨-,h⟩|⟨-,h⟩⟩
  ·cases h
  ·cases h
  ·cases h;exact fun z hz=>.inl (Ai7.1 hz).1
 ·rcases h with⟨h,-⟩|⟨i,k,y,h,h1,h2,-⟩
  ·cases h
  ·cases h;intro z hz;rcases Dt hz with hz|hz
   ·exact .inl hz
   ·simp at hz;subst hz;have hy:=Ag1 h1;exact .inr ⟨rfl,y,hy,h2,rfl,fun a ha=>⟨y,hy,a,Aja ha,rfl⟩⟩
 ·rcases h with⟨h,-⟩|⟨i,y,h,-⟩
  ·cases h
  ·cases h;intro z hz;rcases Dt hz with hz|hz
   ·exact .inl hz
   ·cases hz
 ·rcases h with⟨h,-⟩|⟨i,k,y,a,h,h1,h2,h3,-⟩
  ·cases h
  ·cases h;intro z hz;rcases Dt hz with hz|hz
   ·exact .inl hz
   ·have hy:=Ag1 h1;obtain⟨e1,e2⟩:=vE hR hy h2 hz;exact .inr ⟨vD z hz,y,hy,h2,e1,e2⟩
 ·rcases h with⟨h,-⟩|⟨i,y,e,h,h1,h2,h3,-⟩
  ·cases h
  ·cases h;intro z hz;rcases Dt hz with hz|hz
   ·exact .inl hz
   ·simp at hz;subst hz;have hy:=Ag1 h1;have hr:=P9 (hR.wit y hy) (hR.wi y hy) h2;have hp:∃b∈y.body,b.pred=y.head.pred:=by
     have hb:(y.body.map (Cs (A4 y))).map (·.pred)=[y.head.pred,y.head.pred]:=by
      have:=congrArg (fun z:RItem=>z.body.map (·.pred)) hr;simpa[ren,Da]using this
     have hm:y.head.pred∈(y.body.map (Cs (A4 y))).map (·.pred):=by rw[hb];simp
     obtain⟨b',ab,e2⟩:=Aib.1 hm;obtain⟨b,aa,rfl⟩:=Aib.1 ab;exact⟨b,aa,e2⟩
    refine .inr ⟨rfl,y,hy,(Il hR h1 h2).1,rfl,fun a ha=>?_⟩;simp only[Da,Ah2,Ail,Aj5]at ha;rcases ha with rfl|rfl
    ·exact wD h3
    ·exact⟨y,hy,hp⟩
theorem St5.names {N:List Tx}{ar:Tx->Nat}{c:UInt8}{l l':List RItem}(hR:RtL N ar l)(h:St5 N c l (some l')):(∀p,gW l' p->gW l p)/\∀p,Wx l' p->Wx l p:=by
 have h:=h.made hR;refine⟨fun p ⟨z,hz,hp⟩=>?_,fun p ⟨z,hz,ho,hp⟩=>?_⟩
 ·rcases h z hz with hz|⟨-,x,hx,-,e,hb⟩
  ·exact⟨z,hz,hp⟩
  ·rcases hp with hp|⟨a,ha,hp⟩
   ·exact⟨x,hx,.inl (e.symm.trans hp)⟩
   ·obtain⟨y,hy,b,hb,e2⟩:=hb a ha;exact⟨y,hy,.inr ⟨b,hb,e2.trans hp⟩⟩
 ·rcases h z hz with hz|⟨-,x,hx,aa,e,-⟩
  ·exact⟨z,hz,ho,hp⟩
  ·exact⟨x,hx,aa,e.symm.trans hp⟩
structure Nms (l l':List RItem):Prop where
 nmd:∀p,gW l' p->gW l p
 rld:∀p,Wx l' p->Wx l p
 lck:∀p,gW l' p->Wx l p->Wx l' p
theorem pS {N:List Tx}{l:List RItem}(hN:∀x∈l,x.head.pred∈N){p:Tx}(hp:p∈N):Cf N l (N.idxOf p)=true↔Wx l p:=by
 unfold Cf Wx;simp only[Ahz,Ag3,Ajo,Aj3];constructor
 ·rintro⟨x,hx,h1,h2⟩;refine⟨x,hx,h1,?_⟩;have e:=yL (hN x hx) hp;rw[h2]at e;simpa using e.symm
 ·rintro⟨x,hx,h1,rfl⟩;exact⟨x,hx,h1,rfl⟩
theorem bS {N:List Tx}{ar:Tx->Nat}{l:List RItem}(hR:RtL N ar l){p:Tx}(h:gW l p):p∈N:=by
 obtain⟨x,hx,h⟩:=h;rcases h with rfl|⟨a,ha,rfl⟩
 ·exact (hR.gl.msr x hx).mem
 ·cases ho:x.out with
  |true=>rw[(hR.gl.msr x hx).out ho]at ha;cases ha
  |false=>exact ((hR.ru x hx ho).body a ha).mem
theorem Acb {N:List Tx}{ar:Tx->Nat}{l l':List RItem}(hR:RtL N ar l)(aa:RtL N ar l')(h:Iy N l' l=false){p:Tx}(h1:gW l' p)(h2:Wx l p):Wx l' p:=by
 have hp:=bS aa h1;have hk:=Air hp;unfold Iy at h;have:=Aim.1 h (N.idxOf p) (by simpa using hk);have e1:Cf N l (N.idxOf p)=true:=(pS (fun x hx=>(hR.gl.msr x hx).mem) hp).2 h2;have e2:F1 N l' (N.idxOf p)=true:=by
  obtain⟨x,hx,h1⟩:=h1;unfold F1;refine Ahz.2 ⟨x,hx,?_⟩;rcases h1 with rfl|⟨a,ha,rfl⟩
  ·simp
  ·simp only[Ai2,Ahz,Aj3];exact .inr ⟨a,ha,rfl⟩
 rw[e1,e2]at this;refine (pS (fun x hx=>(aa.gl.msr x hx).mem) hp).1 ?_;simpa using this
theorem Nms.refl (l:List RItem):Nms l l:=⟨fun _ h=>h,fun _ h=>h,fun _ _ h=>h⟩
theorem Nms.step {N:List Tx}{ar:Tx->Nat}{c:UInt8}{l l1 l2:List RItem}(h:Nms l l1)(h1:RtL N ar l1)(hs:St5 N c l1 (some l2))(hp:Ov (St5 N c) N ar c):Nms l l2:=by
 obtain⟨g1,g2⟩:=hs.names h1;have hb:=(hs.kept h1).1;unfold Cy at hb;simp only[Ag3,Ajo]at hb;refine⟨fun p hp=>h.nmd p (g1 p hp),fun p hp=>h.rld p (g2 p hp),fun p hn hr=>?_⟩;exact Acb h1 (hp.rt _ _ hs h1) hb.2.1 hn (h.lck p (g1 p hn) hr)
theorem Nms.pss {N:List Tx}{ar:Tx->Nat}{ps:Tx}{b m m':Int}{l l1 l2:List RItem}(h:Nms l l1)(hB:Bhd N ar l l1)(hs:GPss (St5 N) b l1 m ps l2 m')(hp:∀c∈ps,Ov (St5 N c) N ar c):Nms l l2:=by
 induction hs with
 |nil=>exact h
 |snoc h1 h2 ih=>
  rename_i ps c la lb m1 m2;have aa:=hp c (by simp);have ih:=ih fun c hc=>hp c (by simp[hc]);have ab:=hB.pss h1 fun c hc=>hp c (by simp[hc]);have key:∀l3 m3,GChg (St5 N c) b la m1 l3 m3->Nms l l3/\Bhd N ar l l3:=fun l3 m3 h=>by
   induction h with
   |refl=>exact⟨ih,ab⟩
   |snoc _ _ hs ih2=>exact⟨ih2.1.step ih2.2.rt hs aa,ih2.2.step hs aa⟩
  exact (key _ _ h2.1).1
def Nl:RItem:=⟨false,⟨false,[113],[[65]]⟩,[⟨false,[112],[[65],[66]]⟩,⟨false,[103],[[66]]⟩]⟩
def Jw:RItem:=⟨false,⟨false,[112],[[65],[49]]⟩,[⟨false,[104],[[65]]⟩]⟩
def Jv:RItem:=⟨false,⟨false,[112],[[65],[66]]⟩,[⟨false,[107],[[66],[65]]⟩]⟩
def Gf:RItem:=⟨true,⟨false,[113],[]⟩,[]⟩
def Jd:RItem:=⟨false,⟨false,[113],[[65]]⟩,[⟨false,[104],[[65]]⟩,⟨false,[103],[[49]]⟩]⟩
def Jc:RItem:=⟨false,⟨false,[113],[[65]]⟩,[⟨false,[107],[[66],[65]]⟩,⟨false,[103],[[66]]⟩]⟩
theorem Afk (N:List Tx):Ld N [Nl,Jw,Jv,Gf] Nl 0 [112]=[A3 N Jd,A3 N Jc]:=by rfl
theorem Afi:UT [65]:=Tn (k:=0) (by decide) 65 rfl
theorem Afh:UT [66]:=Tn (k:=1) (by decide) 66 rfl
theorem Afj:UT [49]:=⟨.inr ⟨rfl,(by show Lib.itoa 1=[49];simp[Lib.itoa,Lib.decDigits]),by decide,by decide⟩,⟨by simp,by decide⟩,by simp,fun h=>by cases h⟩
theorem Afo {N:List Tx}(hN:∀q:Tx,q=[113]\/q=[112]\/q=[103]\/q=[104]\/q=[107]->q∈N):uL N [Nl,Jw,Jv,Gf] Nl 0 [112]=[Jd,Jc]:=by
 unfold uL;rw[Afk];have h1:Cx N (A3 N Jd)=Jd:=cB rfl rfl fun a ha=>by
  simp only[Ae,Jd,Ahv,if_false,List.singleton_append,Ah2,Ail,Aj5]at ha;rcases ha with rfl|rfl|rfl<;>exact⟨hN _ (by simp),by simp[Afi,Afh,Afj]⟩
 have h2:Cx N (A3 N Jc)=Jc:=cB rfl rfl fun a ha=>by
  simp only[Ae,Jc,Ahv,if_false,List.singleton_append,Ah2,Ail,Aj5]at ha;rcases ha with rfl|rfl|rfl<;>exact⟨hN _ (by simp),by simp[Afi,Afh,Afj]⟩
 rw[Ahj,Ahj,Ahk,h1,h2]
theorem S3 {N:List Tx}{l l':List RItem}(h:∀k,Cf N l k=true->Cf N l' k=true):Iy N l' l=false:=by
 unfold Iy;rw[Aim];intro k _ hc;simp only[Ag3,Ajo]at hc;rw[h k hc.1.1]at hc;exact absurd hc.1.2 (by simp)
def xL0:RItem:=Uj [112] [101]
def dE:RItem:=Da [112] [112]
def Rf:RItem:=⟨true,⟨false,[112],[]⟩,[]⟩
def uH:RItem:=Da [112] [101]
theorem Ab7 (N:List Tx):Cy N [xL0,dE,Rf] [xL0,uH,Rf]=true:=by
 have h1:H8 [xL0,uH,Rf]=true:=Aj9;have h2:(Cd [xL0,uH,Rf]).1=0:=Aj9;have h3:Iy N [xL0,uH,Rf] [xL0,dE,Rf]=false:=S3 fun k h=>by simpa[Cf,xL0,dE,Rf,uH,Uj,Da]using h
 unfold Cy;rw[h1,h2,h3];rfl
theorem yE:Nk xL0=false:=Aj9
theorem yD:Nk dE=true:=Aj9
theorem qD:Fi [xL0,dE,Rf] 1 [112]=some [101]:=Aj9
theorem yA {N:List Tx}{o:Option (List RItem)}(h:StL N [xL0,dE,Rf] o):o=some [xL0,uH,Rf]:=by
 have k1:W3 N [xL0,dE,Rf] 1=true:=by
  show (Nk dE&&(match Fi [xL0,dE,Rf] 1 [112]with|some e=>Cy N [xL0,dE,Rf] (Co 1 [Da [112] e] [xL0,dE,Rf])|none=>false))=true;rw[yD,qD];exact Ab7 N
 have k0:W3 N [xL0,dE,Rf] 0=false:=by
  unfold W3;show (Nk xL0&&(match Fi [xL0,dE,Rf] 0 xL0.head.pred with|some e=>Cy N [xL0,dE,Rf] (Co 0 [Da xL0.head.pred e] [xL0,dE,Rf])|none=>false))=false;rw[yE];rfl
 rcases h with⟨-,h⟩|⟨i,y,e,rfl,h1,h2,h3,h4,h5⟩
 ·rw[h 1 (by simp)]at k1;cases k1
 ·match i,h1,h2,h3,h4,h5 with
  |0,_,_,_,h4,_=>rw[k0]at h4;cases h4
  |1,h1,h2,h3,_,_=>
   cases h1;have e2:Fi [xL0,dE,Rf] 1 [112]=some e:=h3;rw[qD]at e2;cases e2;rfl
  |n+2,_,_,_,_,h5=>rw[h5 1 Aj6]at k1;cases k1
theorem Ln {N:List Tx}{l:List RItem}{M:Nat->Nat->Bool}(hN:∀x∈l,x.head.pred∈N/\∀a∈x.body,a.pred∈N)(hM:Dq N l M){p q:Tx}(hp:p∈N)(hq:q∈N):F8 N.length M N.length (N.idxOf p) (N.idxOf q)=true↔Way (D5 l) p q:=by
 have hS:Aai N.length M:=fun a b h=>by
  obtain⟨x,hx,e1,y,hy,e2⟩:=(hM a b).1 h;rw[<-e1,<-e2];exact⟨Air (hN x hx).1,Air ((hN x hx).2 y hy)⟩
 rw[cI hS];have one:∀p q:Tx,p∈N->q∈N->(M (N.idxOf p) (N.idxOf q)=true↔D5 l p q):=fun p q hp hq=>by
  rw[hM];constructor
  ·rintro⟨x,hx,e1,y,hy,e2⟩;exact⟨x,hx,C1 (hN x hx).1 hp e1,y,hy,C1 ((hN x hx).2 y hy) hq e2⟩
  ·rintro⟨x,hx,rfl,y,hy,rfl⟩;exact⟨x,hx,rfl,y,hy,rfl⟩
 constructor
 ·intro h;have key:∀i j,Way (fun a b=>M a b=true) i j->∀p q:Tx,p∈N->q∈N->N.idxOf p=i->N.idxOf q=j->Way (D5 l) p q:=fun i j h=>by
   induction h with
   |one e=>
    rintro p q hp hq rfl rfl;exact .one ((one p q hp hq).1 e)
   |more e _ ih=>
    rintro p q hp hq rfl rfl;obtain⟨x,hx,e1,y,hy,rfl⟩:=(hM _ _).1 e;have aa:=(hN x hx).2 y hy;exact .more ((one p y.pred hp aa).1 e) (ih y.pred q aa hq rfl rfl)
  exact key _ _ h p q hp hq rfl rfl
 ·intro h;induction h with
  |one e=>exact .one ((one _ _ hp hq).2 e)
  |more e _ ih=>
   have e0:=e;obtain⟨x,hx,rfl,y,hy,rfl⟩:=e0;exact .more ((one _ _ hp ((hN x hx).2 y hy)).2 e) (ih ((hN x hx).2 y hy) hq)
end Go.Proofs.YtmoeoppbmhfbpabGreatDoorL
