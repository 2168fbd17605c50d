import Derived.Test.YtmoeoppbmhfbpaaGreatDoorDAgrB
import Derived.Test.YtmoeoppbmhfbpaaGreatDoorDEngR
import Derived.Test.YtmoeoppbmhfbpaaGreatDoorDPrtF
import Derived.Test.YtmoeoppbmhfbpaaGreatDoorDOptB
import Derived.Test.YtmoeoppbmhfbpaaGreatDoorDTxtK
import Derived.Test.YtmoeoppbmhfbpaaGreatDoorDSpaE
import Derived.KernelRfl
set_option maxHeartbeats 64000000
set_option maxRecDepth 100000
set_option linter.all false
namespace Go.Proofs.YtmoeoppbmhfbpaaGreatDoorD
open Go.Abs
def G5 (c:UInt8):Bool:=decide (c=115\/c=97\/c=114\/c=117\/c=108)
theorem iQ (c:UInt8)(σ:St):ACalls Tryz.prog 102 [sc (.int .u8 c.toNat)] σ fun r σ'=>r=sc (.bool (G5 c))/\σ'=σ:=by
 have key:∀(k:UInt8) (n:Int),n=(k.toNat:Int)->((c.toNat:Int)==n)=decide (c=k):=fun k n e=>by rw[e];exact pV
 have e1:=key 115 115 rfl;have e2:=key 97 97 rfl;have e3:=key 114 114 rfl;have e4:=key 117 117 rfl;have e5:=key 108 108 rfl;have hp:G5 c=(decide (c=115)||(decide (c=97)||(decide (c=114)||(decide (c=117)||decide (c=108))))):=by
  unfold G5;simp only[Bool.decide_or]
 have HP:Agt _:=hp;clear key hp;generalize decide (c=115)=b1 at e1 HP;generalize decide (c=97)=b2 at e2 HP;generalize decide (c=114)=b3 at e3 HP;generalize decide (c=117)=b4 at e4 HP;generalize decide (c=108)=b5 at e5 HP;cases b1<;>cases b2<;>cases b3<;>cases b4<;>cases b5
 all_goals
  refine Z9 10 [.tmp 2] Tryz.func102 ?_
  repeat' first|refine Z1 ?_|refine Z8 fun ya J=>?_|refine Z4 ?_;clear J ya|refine Z2 ?_ ?_<;>intro h aa<;>try exact Xp|refine Z3 ?_|exact Zt|apply J.out;clear J ya
  exact⟨_,rfl,by rw[HP.out];rfl⟩
def Cu (t:Tx):Bool:=decide (t.length<=8)&&t.all G5
theorem V1 (t:Tx)(σ:St):ACalls Tryz.prog 58 [str t] σ fun r σ'=>r=sc (.bool (Cu t))/\σ'=σ:=by
 have hI:=fun c σ=>iQ c σ;by_cases h8:8<t.length
 ·have hb:decide ((8:Int)<(t.length:Int))=true:=by simp;omega
  have HL:Agt (Cu t=false):=by rw[Agt,Cu,Agk Agm];rfl
  refine Z9 18 [.tmp 2] Tryz.func58 ?_
  repeat' first|refine Z1 ?_|refine Z8 fun ya J=>?_|refine Z4 ?_;clear J ya|refine Z2 ?_ ?_<;>intro h aa<;>try exact Xp|refine Z3 ?_|exact Zt|apply J.out;clear J ya
  exact⟨_,rfl,by rw[HL.out]⟩
 ·have hb:decide ((8:Int)<(t.length:Int))=false:=by simp;omega
  refine Z9 18 [.tmp 2] Tryz.func58 ?_
  repeat' first|refine Z1 ?_|refine Z8 fun ya J=>?_|refine Z4 ?_;clear J ya|refine Z2 ?_ ?_<;>intro h aa<;>try exact Xp|refine Z3 ?_|exact Zt|apply J.out;clear J ya
  refine Ad (fun m s σ'=>∃i:Nat,m=t.length-i/\i<=t.length/\s 0=str t/\s 3=sc (.int .i64 i)/\σ'=σ/\Agt (∀c∈t.take i,G5 c=true)) t.length
   ⟨0,Agm,Agm,rfl,rfl,rfl,by simp[Agt]⟩ ?_
  rintro m s σ' ⟨i,rfl,hi,h0,h3,hσ,hA⟩;by_cases ac:i<t.length
  ·have ab:=Adn ac;generalize t[i]=c at ab;have hI:=hI c;cases hc:G5 c with
   |true=>
    rw[hc]at hI;have HA:Agt (∀c∈t.take (i+1),G5 c=true):=by
     rw[Agt,Ad0,ab,Aez];intro d hd;rcases Aet.1 hd with hd|hd
     ·exact hA.out d hd
     ·simp at hd;subst hd;exact hc
    clear hA hc
    repeat' first|refine Z1 ?_|refine Z8 fun ya J=>?_|refine Z4 ?_;clear J ya|refine Z2 ?_ ?_<;>intro h aa<;>try exact Xp|refine Z5 ?_;refine Xi (hI _) ?_;rintro _ _ ⟨rfl,rfl⟩|refine Z3 ?_|exact Zt|apply J.out;clear J ya
    refine⟨t.length-(i+1),Agm,i+1,?_⟩
    ((repeat' refine Zi ?_ ?_)<;>first|exact Xq|exact HA|exact Xs)
   |false=>
    rw[hc]at hI;have HL:Agt (Cu t=false):=by
     have:t.all G5=false:=Afu.2 ⟨c,Adp ab,by simp[hc]⟩;rw[Agt,Cu,this];simp
    clear hA hc
    repeat' first|refine Z1 ?_|refine Z8 fun ya J=>?_|refine Z4 ?_;clear J ya|refine Z2 ?_ ?_<;>intro h aa<;>try exact Xp|refine Z5 ?_;refine Xi (hI _) ?_;rintro _ _ ⟨rfl,rfl⟩|refine Z3 ?_|exact Zt|apply J.out;clear J ya
    exact⟨_,rfl,by rw[HL.out]⟩
  ·have ad:i=t.length:=Agm;have HL:Agt (Cu t=true):=by
    have:=hA.out;rw[ad,Adu]at this;rw[Agt,Cu,Agl Agm,Ado.2 this];rfl
   clear hA
   repeat' first|refine Z1 ?_|refine Z8 fun ya J=>?_|refine Z4 ?_;clear J ya|refine Z2 ?_ ?_<;>intro h aa<;>try exact Xp|refine Z3 ?_|exact Zt|apply J.out;clear J ya
   exact⟨_,rfl,by rw[HL.out]⟩
inductive GChg (T:List RItem->Option (List RItem)->Prop)(b:Int)(l:List RItem)(m:Int):List RItem->Int->Prop where
 |refl:GChg T b l m l m
 |snoc {l1 l2:List RItem} {m1:Int}:GChg T b l m l1 m1->m1<b->T l1 (some l2)->GChg T b l m l2 (m1+1)
def yB (T:List RItem->Option (List RItem)->Prop)(b:Int)(l:List RItem)(m:Int)(l':List RItem)(m':Int):Prop:=GChg T b l m l' m'/\(b<=m'\/T l' none)
inductive GPss (T:UInt8->List RItem->Option (List RItem)->Prop)(b:Int)(l:List RItem)(m:Int):Tx->List RItem->Int->Prop where
 |nil:GPss T b l m [] l m
 |snoc {ps:Tx} {c:UInt8} {l1 l2:List RItem} {m1 m2:Int}:GPss T b l m ps l1 m1->yB (T c) b l1 m1 l2 m2->GPss T b l m (ps++[c]) l2 m2
structure tH (T:List RItem->Option (List RItem)->Prop)(N:List Tx)(ar:Tx->Nat)(c:UInt8):Prop where
 call:∀(l:List RItem) (cs:List AV) (idn idi:Nat),RtL N ar l->EL (PI N) l cs->∀σ:St,ACalls Tryz.prog 103 [C8 N idn l idi cs,sc (.int .u8 c.toNat)] σ fun r σ'=>(∃x b,r=tp [x,sc (.bool b)]/\StpR T N l idn x b)/\Keep σ σ'
 rt:∀l l',T l (some l')->RtL N ar l->RtL N ar l'
theorem Rp (T:UInt8->List RItem->Option (List RItem)->Prop)(N:List Tx)(ar:Tx->Nat)(l:List RItem)(cs:List AV)(idn idi:Nat)(t:Tx)(b:Int)(bh:0<=b)(bg:b<=9223372036854775807)(ba:t.length<=8)(ht:∀c∈t,tH (T c) N ar c)(hR:RtL N ar l)(hE:EL (PI N) l cs)(σ:St):
  ACalls Tryz.prog 59 [C8 N idn l idi cs,str t,sc (.int .i64 b)] σ fun r σ'=>(∃l' id c' m,r=tp [C8 N idn l' id c',sc (.int .i64 m)]/\GPss T b l 0 t l' m/\RtL N ar l'/\EL (PI N) l' c')/\Keep σ σ':=by
 have hC:=fun l cs idi c (hc:tH (T c) N ar c) hR hE σ=>hc.call l cs idn idi hR hE σ;refine Z9 36 [.cell 6 66,.tmp 7] Tryz.func59 ?_
 refine zz ?_
 refine Ad (fun k s σ'=>∃(i:Nat) (m:Int) (l1:List RItem) (id1:Nat) (c1:List AV),k=t.length-i/\i<=t.length/\0<=m/\m<=b/\s 1=str t/\s 2=sc (.int .i64 b)/\s 3=ptr σ.nobj 0/\s 6=ptr (σ.nobj+1) 0/\s 8=sc (.int .i64 m)/\s 9=sc (.int .i64 i)/\Keep σ σ'/\σ.nobj+1<σ'.nobj/\σ'.obj σ.nobj=[sl idn N.length (N.map str),sl id1 l1.length c1]/\σ'.obj (σ.nobj+1)=[nilS,nilS]/\Agt (GPss T b l 0 (t.take i) l1 m/\RtL N ar l1/\EL (PI N) l1 c1)) t.length
  ⟨0,0,l,idi,cs,Agm,Agm,Agm,Agm,rfl,rfl,Ago,Ago,Ago,Ago,Xs,Agq,by rw[Ah Agq,Al],by first|exact Al|simp[Al],⟨GPss.nil,hR,hE⟩⟩ ?_
 rintro k s σ' ⟨i,m,l1,id1,c1,rfl,hi,hm0,hm1,h1,h2,h3,h6,h8,h9,hK,ao,ad,ac,hA⟩;have ax:=hK.nobj;by_cases az:i<t.length
 ·have ah:=Adn az;have av:=ht t[i] (Aes az);generalize t[i]=c at ah av;have HP:Agt (∀l2 m2,yB (T c) b l1 m l2 m2->GPss T b l 0 (t.take (i+1)) l2 m2):=fun l2 m2 h=>by
   rw[Ad0,ah,Aez];exact GPss.snoc hA.out.1 h
  have a3:Agt (RtL N ar l1):=hA.out.2.1;have a4:Agt (EL (PI N) l1 c1):=hA.out.2.2;clear hA
  repeat' first|refine Z1 ?_|refine Z8 fun ya J=>?_|refine Z4 ?_;clear J ya|refine Z2 ?_ ?_<;>intro h aa<;>try exact Xp|refine Z3 ?_|exact Zt|apply J.out;clear J ya
  refine Ad (fun k s σ2=>∃(m2:Int) (l2:List RItem) (id2:Nat) (c2:List AV),k=(b-m2).toNat/\m<=m2/\m2<=b/\s 1=str t/\s 2=sc (.int .i64 b)/\s 3=ptr σ.nobj 0/\s 6=ptr (σ.nobj+1) 0/\s 8=sc (.int .i64 m2)/\s 9=sc (.int .i64 i)/\Keep σ σ2/\σ.nobj+1<σ2.nobj/\σ2.obj σ.nobj=[sl idn N.length (N.map str),sl id2 l2.length c2]/\σ2.obj (σ.nobj+1)=[nilS,nilS]/\Agt (GChg (T c) b l1 m l2 m2/\RtL N ar l2/\EL (PI N) l2 c2)) (b-m).toNat
   ⟨m,l1,id1,c1,rfl,Agm,Agm,Agn,Agn,Agn,Agn,Agn,Agn,hK,ao,ad,ac,⟨GChg.refl,a3.out,a4.out⟩⟩ ?_
  clear h1 h2 h3 h6 h8 h9 hK ao ad ac ax a3 a4;rintro k s σ2 ⟨m2,l2,id2,c2,rfl,bd,bf,h1,h2,h3,h6,h8,h9,hK,ao,ad,ac,hA⟩;have ax:=hK.nobj;by_cases au:m2<b
  ·have hC:=hC l2 c2 id2 c av hA.out.2.1 hA.out.2.2;have ap:decide (m2<b)=true:=by simpa using au
   repeat' first|refine Z1 ?_|refine Z8 fun ya J=>?_|refine Z4 ?_;clear J ya|refine Z2 ?_ ?_<;>intro h aa<;>try exact Xp|refine Z3 ?_|exact Zt|apply J.out;clear J ya
   refine Bl (Q:=fun e s' σ''=>e= .normal/\∃(o10 t1 t2:Nat) (t3:List AV) (t4 t5:Nat) (t6:List AV) (b':Bool),s' 10=ptr o10 0/\σ2.nobj<=o10/\o10<σ''.nobj/\σ''.obj o10=[sl t1 t2 t3,sl t4 t5 t6]/\s' 11=sc (.bool b')/\StpR (T c) N l2 idn (ag [sl t1 t2 t3,sl t4 t5 t6]) b'/\s' 1=s 1/\s' 2=s 2/\s' 3=s 3/\s' 6=s 6/\s' 8=s 8/\s' 9=s 9/\Keep σ2 σ'') ?_ ?_
   ·have bm:(∀p:Nat,some σ.nobj=some p->p<σ2.nobj)=True:=eq_true fun p e=>by cases e;omega
    have bi:(∀p:Nat,False->p<σ2.nobj)=True:=eq_true fun p e=>e.elim;refine Ay Ag (fun p=>p<σ2.nobj) [] [0,1,2,3] 7 #[true,true,true,true,false,false,false,false,false,false,false] Agp (fun _ _ _ h=>by cases h.1) ?_;intro ya J;refine Z3 ?_;refine J.out _ ?_;clear J ya;refine Gz (rs:=[4,8]) Agp (by simp) ?_;intro j hj;simp only[Ae2,Afg,Agj]at hj;rcases hj with rfl|rfl
    ·refine Am ?_;intro ya J;refine Z3 ?_;refine ACalls.mono (hC _) ?_;rintro _ σ5 ⟨⟨x5,b5,rfl,aj⟩,ab⟩;obtain⟨t1,t2,t3,t4,t5,t6,rfl⟩:=aj.1;have af:=ab.nobj;refine Z3 ?_;refine J.out _ _ ⟨Ao ab,?_⟩;clear J ya;refine Gq [5,6,7] 3 6 #[true,true,true,true,true,true,true,true,false,false,false] rfl Agp Agp (fun _ _ _ h=>by cases h.1) (ab).nobj (fun o ho _=>(ab).ver o ho) ?_;intro ya J;refine Z3 ?_;refine J.out _ ?_;clear J ya;refine Ai (i:=8) Agp ?_;refine Am ?_;intro ya J;refine Z3 ?_;refine J.out _ _ ⟨Ao ((Keep.refl _).new _),?_⟩;clear J ya;refine Ai (i:=9) Agp ?_;refine Am ?_;intro ya J;refine Z3 ?_;refine J.out _ _ ⟨fun _ o ho _=>by simp[St.put,St.new];omega,?_⟩;clear J ya;refine Dc [10] Agp Agp (fun _ _ _ h=>by cases h.1) Ags (fun o ho _=>by simp[St.put,St.new];omega) ?_;intro ya J;refine Z3 ?_;refine J.out _ _ ⟨rfl,σ5.nobj,t1,t2,t3,t4,t5,t6,b5,Ago,Agm,Ags,by rw[Aj],Ago,aj,Ago,Ago,Ago,Ago,Ago,Ago,(ab.new _).put Agm _⟩
    ·refine Am ?_;intro ya J;refine Z3 ?_;refine J.out _ _ ⟨Ao ((Keep.refl _).new _),?_⟩;clear J ya;refine Ai (i:=4) Agp ?_;refine Am ?_;intro ya J;refine Z3 ?_;refine ACalls.mono (hC _) ?_;rintro _ σ5 ⟨⟨x5,b5,rfl,aj⟩,ab⟩;obtain⟨t1,t2,t3,t4,t5,t6,rfl⟩:=aj.1;have af:=ab.nobj;have ae:=ab.obj;simp only[Aa]at af ae;have ak:Keep σ2 σ5:=((Keep.refl _).new _).trans ab;have a5:σ5.obj σ2.nobj=[nilS,nilS]:=by rw[ae _ Agm,Al]
     refine Z3 ?_;refine J.out _ _ ⟨Ao ak,?_⟩;clear J ya;refine Gq [5,6,7] 2 5 #[true,true,true,true,true,true,true,true,true,false,false] rfl Agp Agp (fun _ _ _ h=>by cases h.1) (ak).nobj (fun o ho _=>(ak).ver o ho) ?_;intro ya J;refine Z3 ?_;refine J.out _ ?_;clear J ya;refine Ai (i:=9) Agp ?_;refine Am ?_;intro ya J;refine Z3 ?_;refine J.out _ _ ⟨fun _ o ho hF=>by simp[St.put];omega,?_⟩;clear J ya;refine Dc [10] Agp Agp (fun _ _ _ h=>by cases h.1) (by simp only[Ac];omega) (fun o ho hF=>by simp[St.put];omega) ?_;intro ya J;refine Z3 ?_;refine J.out _ _ ⟨rfl,σ2.nobj,t1,t2,t3,t4,t5,t6,b5,Ago,Agm,by simp only[Ac];omega,by rw[Aj],Ago,aj,Ago,Ago,Ago,Ago,Ago,Ago,ak.put Agm _⟩
   ·rintro e s' σ'' ⟨rfl,o10,t1,t2,t3,t4,t5,t6,b',g10,bc,bb,a7,g11,a9,g1,g2,g3,g6,g8,g9,am⟩;rw[h1]at g1;rw[h2]at g2;rw[h3]at g3;rw[h6]at g6;rw[h8]at g8;rw[h9]at g9;have ak:=hK.trans am;have a6:=am.nobj;have oz0:σ''.obj σ.nobj=[sl idn N.length (N.map str),sl id2 l2.length c2]:=by rw[am.obj _ Agm,ad]
    have oz1:σ''.obj (σ.nobj+1)=[nilS,nilS]:=by rw[am.obj _ Agm,ac]
    obtain⟨-,o,ai,an,aw⟩:=a9;clear h1 h2 h3 h6 h8 h9 hK am ad ac hC;cases o with
    |none=>
     simp only[Option.isSome_none]at an;subst an;have HQ:=HP.out l2 m2 ⟨hA.out.1,.inr ai⟩;have HZ:Agt (GPss T b l 0 (t.take (i+1)) l2 m2/\RtL N ar l2/\EL (PI N) l2 c2):=⟨HQ,hA.out.2⟩;clear HQ HP hA ai aw
     repeat' first|refine Z1 ?_|refine Z8 fun ya J=>?_|refine Z4 ?_;clear J ya|refine Z2 ?_ ?_<;>intro h aa<;>try exact Xp|refine Z3 ?_|exact Zt|apply J.out;clear J ya
     refine⟨t.length-(i+1),Agm,i+1,m2,l2,id2,c2,?_⟩
     ((repeat' refine Zi ?_ ?_)<;>first|exact Xq|exact HZ|exact Xs)
    |some l3=>
     simp only[Option.isSome_some]at an;subst an;obtain⟨id3,c3,ay,a0⟩:=aw l3 rfl;simp only[DataW.agg.injEq,List.cons.injEq,and_true]at ay;obtain⟨e1,e2⟩:=ay;rw[e1,e2]at a7;have HZ:Agt (GChg (T c) b l1 m l3 (m2+1)/\RtL N ar l3/\EL (PI N) l3 c3):=⟨GChg.snoc hA.out.1 au ai,av.rt _ _ ai hA.out.2.1,a0⟩;clear HP hA ai aw a0 e1 e2
     repeat' first|refine Z1 ?_|refine Z8 fun ya J=>?_|refine Z4 ?_;clear J ya|refine Z2 ?_ ?_<;>intro h aa<;>try exact Xp|refine Z3 ?_|exact Zt|apply J.out;clear J ya
     refine⟨(b-(m2+1)).toNat,Agm,m2+1,l3,id3,c3,?_⟩
     ((repeat' refine Zi ?_ ?_)<;>first|exact Xq|exact HZ|exact Xs)
  ·have be:m2=b:=Agm;have HQ:=HP.out l2 m2 ⟨hA.out.1,.inl Agm⟩;have HZ:Agt (GPss T b l 0 (t.take (i+1)) l2 m2/\RtL N ar l2/\EL (PI N) l2 c2):=⟨HQ,hA.out.2⟩;clear HQ HP hA;have ap:decide (m2<b)=false:=by simpa using au
   repeat' first|refine Z1 ?_|refine Z8 fun ya J=>?_|refine Z4 ?_;clear J ya|refine Z2 ?_ ?_<;>intro h aa<;>try exact Xp|refine Z3 ?_|exact Zt|apply J.out;clear J ya
   refine⟨t.length-(i+1),Agm,i+1,m2,l2,id2,c2,?_⟩
   ((repeat' refine Zi ?_ ?_)<;>first|exact Xq|exact HZ|exact Xs)
 ·have a8:i=t.length:=Agm;subst a8;rw[Adu]at hA
  repeat' first|refine Z1 ?_|refine Z8 fun ya J=>?_|refine Z4 ?_;clear J ya|refine Z2 ?_ ?_<;>intro h aa<;>try exact Xp|refine Z3 ?_|exact Zt|apply J.out;clear J ya
  exact⟨_,rfl,⟨l1,id1,c1,m,rfl,hA.out⟩,Xs⟩
abbrev uO (p:Tx×Int×Int):AV:=tp [str p.1,sc (.int .i64 p.2.1),sc (.int .i64 p.2.2)]
def Kx (T:List Tx->UInt8->List RItem->Option (List RItem)->Prop)(t ps:Tx)(b:Int)(r:Tx×Int×Int):Prop:=
 if (As t).1≠0 then r=([],0,(As t).1)else
 if Cu ps=false then r=([],0,11)else
 if b<0 then r=([],0,6)else
 ∃N l cs ar l' m,Right t N l cs/\Wc l ar/\RtL N ar l'/\GPss (T N) b l 0 ps l' m/\r=(Bm l',m,0)
theorem U6 (T:List Tx->UInt8->List RItem->Option (List RItem)->Prop)(t ps:Tx)(b:Int)(hb:b<=9223372036854775807)(an:Cu ps=true->∀N ar,∀c∈ps,tH (T N c) N ar c)(σ:St):ACalls Tryz.prog 29 [str t,str ps,sc (.int .i64 b)] σ fun r σ'=>∃p,r=uO p/\Kx T t ps b p/\Keep σ σ':=by
 have hL:=fun σ=>rY t σ;have hA:=fun σ=>V1 ps σ;by_cases he:(As t).1=0
 ·have HE:Agt ((As t).1=0):=he;have a0:((As t).1 !=0)=false:=by simpa using he
  have am:t.length<=600:=by
   by_cases hl:600<t.length
   ·unfold As at he;rw[if_pos hl]at he;simp at he
   ·omega
  have ae:Agt (∀r,(if Cu ps=false then r=([],0,11)else if b<0 then r=([],0,6)else∃N l cs ar l' m,Right t N l cs/\Wc l ar/\RtL N ar l'/\GPss (T N) b l 0 ps l' m/\r=(Bm l',m,0))->Kx T t ps b r):=fun r h=>by
   unfold Kx;rw[if_neg (by simp[HE.out])];exact h
  clear he;cases hp:Cu ps with
  |false=>
   rw[hp]at hA;have HP:Agt (Kx T t ps b ([],0,11)):=ae.out _ (by rw[if_pos hp]);clear ae hp;refine Z9 38 [.tmp 6,.tmp 7,.tmp 8] Tryz.func29 ?_
   repeat' first|refine Z1 ?_|refine Z8 fun ya J=>?_|refine Z4 ?_;clear J ya|refine Z2 ?_ ?_<;>intro h ad<;>try exact Xp|(refine Z5 ?_;first|(refine Xi (hL _) ?_;rintro _ _ ⟨idn,n1,c1,idi,n2,c2,rfl,ab,aa⟩;(have ac:=ab.nobj;clear aa))|(refine Xi (hA _) ?_;rintro _ _ ⟨rfl,rfl⟩))|refine Z3 ?_|exact Zt|apply J.out;clear J ya
   exact⟨_,rfl,_,rfl,HP.out,Xs⟩
  |true=>
   rw[hp]at hA;have az:ps.length<=8:=by
    unfold Cu at hp;simp only[Adr,Age]at hp;exact hp.1
   by_cases ah:b<0
   ·have a3:decide (b<0)=true:=by simpa using ah
    have HP:Agt (Kx T t ps b ([],0,6)):=ae.out _ (by rw[if_neg (by simp[hp]),if_pos ah]);clear ae hp;refine Z9 38 [.tmp 6,.tmp 7,.tmp 8] Tryz.func29 ?_
    repeat' first|refine Z1 ?_|refine Z8 fun ya J=>?_|refine Z4 ?_;clear J ya|refine Z2 ?_ ?_<;>intro h ad<;>try exact Xp|(refine Z5 ?_;first|(refine Xi (hL _) ?_;rintro _ _ ⟨idn,n1,c1,idi,n2,c2,rfl,ab,aa⟩;(have ac:=ab.nobj;clear aa))|(refine Xi (hA _) ?_;rintro _ _ ⟨rfl,rfl⟩))|refine Z3 ?_|exact Zt|apply J.out;clear J ya
    exact⟨_,rfl,_,rfl,HP.out,Xs⟩
   ·have a3:decide (b<0)=false:=by simpa using ah
    have HP:Agt (∀r,(∃N l cs ar l' m,Right t N l cs/\Wc l ar/\RtL N ar l'/\GPss (T N) b l 0 ps l' m/\r=(Bm l',m,0))->Kx T t ps b r):=fun r h=>ae.out _ (by rw[if_neg (by simp[hp]),if_neg ah];exact h);have ba:Agt (∃ar,Wc (Bh t) ar):=Aa6 HE.out;have a8:Agt _:=an hp;clear ae hp an;refine Z9 38 [.tmp 6,.tmp 7,.tmp 8] Tryz.func29 ?_
    repeat' first|refine Z1 ?_|refine Z8 fun ya J=>?_|refine Z4 ?_;clear J ya|refine Z2 ?_ ?_<;>intro h ad<;>try exact Xp|(refine Z5 ?_;first|(refine Xi (hL _) ?_;rintro _ _ ⟨idn,n1,c1,idi,n2,c2,rfl,ab,aa⟩;(have ac:=ab.nobj;obtain⟨N,l,hp,aw,rfl,rfl,rfl,ay,ao⟩:=aa HE.out;have ai:Right t N l c2:=⟨HE.out,am,hp,aw,ao⟩;have af:∃ar,Wc l ar:=(by rw[<-ai.items];exact ba.out);obtain⟨ar,af⟩:=af;have a5:=fun σ=>Rp (T N) N ar l c2 idn idi ps b Agm hb az (a8.out N ar) (ai.rt af) aw.el σ;have a7:Agt _:=ai;have a9:Agt _:=af;clear hp aa ay ao ai af))|(refine Xi (hA _) ?_;rintro _ _ ⟨rfl,rfl⟩)|(refine Xi (a5 _) ?_;rintro _ _ ⟨⟨l',id',c',m',rfl,ap,aj,a6⟩,av⟩;(have ak:=av.nobj;simp only[Ac,Aa]at ak;have a4:=fun σ=>mQ N l' c' idn id' ((aj.gl.bkm a6).bk aj.gl.len) aj.wi σ;have HZ:Agt (Kx T t ps b (Bm l',m',0)):=HP.out _ ⟨N,l,c2,ar,l',m',a7.out,a9.out,aj,ap,rfl⟩;clear ap))|(refine Xi (a4 _) ?_;rintro _ _ ⟨rfl,au⟩;(have ax:=au.nobj)))|refine Z3 ?_|exact Zt|apply J.out;clear J ya
    exact⟨_,rfl,_,rfl,HZ.out,(((((ab.new _).put Agm _).trans av).new _).put Agm _).trans au⟩
 ·have a0:((As t).1 !=0)=true:=by simpa using he
  have HP:Agt (Kx T t ps b ([],0,(As t).1)):=by unfold Kx;rw[if_pos he];rfl
  clear he;refine Z9 38 [.tmp 6,.tmp 7,.tmp 8] Tryz.func29 ?_
  repeat' first|refine Z1 ?_|refine Z8 fun ya J=>?_|refine Z4 ?_;clear J ya|refine Z2 ?_ ?_<;>intro h ad<;>try exact Xp|refine Z5 ?_;refine Xi (hL _) ?_;rintro _ _ ⟨idn,n1,c1,idi,n2,c2,rfl,ab,aa⟩;(have ac:=ab.nobj;clear aa)|refine Z3 ?_|exact Zt|apply J.out;clear J ya
  exact⟨_,rfl,_,rfl,HP.out,Xs⟩
def StA (N:List Tx)(l:List RItem)(o:Option (List RItem)):Prop:=
 (o=none/\rS N l l.length)\/∃i k y,o=some (rpl i [Cw y k] l)/\l[i]?=some y/\y.out=false/\k<y.body.length/\Zj N l i k=true/\rS N l i/\∀k',k'<k->Zj N l i k'=false
def StR (N:List Tx)(l:List RItem)(o:Option (List RItem)):Prop:=
 (o=none/\rR N l l.length)\/∃i y,o=some (rpl i [] l)/\l[i]?=some y/\y.out=false/\En N l (rpl i [] l)=true/\bX N l i y true/\rR N l i
theorem chA.stp {N:List Tx}{l:List RItem}{idn:Nat}{x:AV}{b:Bool}(h:chA N l idn x b)(ht:xS x):StpR (StA N) N l idn x b:=by
 refine⟨ht,?_⟩;rcases h with⟨rfl,h⟩|⟨rfl,i,k,y,h1,h2,h3,h4,h5,h6,id,c',h7,h8⟩
 ·exact⟨none,.inl ⟨rfl,h⟩,rfl,fun l' e=>by cases e⟩
 ·exact⟨_,.inr ⟨i,k,y,rfl,h1,h2,h3,h4,h5,h6⟩,rfl,fun l' e=>by cases e;exact⟨id,c',h7,h8⟩⟩
theorem chR.stp {N:List Tx}{l:List RItem}{idn:Nat}{x:AV}{b:Bool}(h:chR N l idn x b)(ht:xS x):StpR (StR N) N l idn x b:=by
 refine⟨ht,?_⟩;rcases h with⟨rfl,h⟩|⟨rfl,i,y,h1,h2,h3,h4,h5,id,c',h7,h8⟩
 ·exact⟨none,.inl ⟨rfl,h⟩,rfl,fun l' e=>by cases e⟩
 ·exact⟨_,.inr ⟨i,y,rfl,h1,h2,h3,h4,h5⟩,rfl,fun l' e=>by cases e;exact⟨id,c',h7,h8⟩⟩
theorem StA.rt {N:List Tx}{ar:Tx->Nat}{l l':List RItem}(h:StA N l (some l'))(hR:RtL N ar l):RtL N ar l':=by
 rcases h with⟨h,-⟩|⟨i,k,y,h,h1,h2,h3,h4,-⟩
 ·cases h
 ·cases h;refine hR.wo h1 h2 ?_;unfold Zj at h4;rw[h1]at h4;simp only[Adr]at h4;obtain⟨s,hs⟩:=Adz.1 h4.1;unfold uX at hs;obtain⟨s0,-,hs⟩:=Option.bind_eq_some_iff.1 hs;unfold Lc at hs;split at hs
  ·assumption
  ·cases hs
theorem StR.rt {N:List Tx}{ar:Tx->Nat}{l l':List RItem}(h:StR N l (some l'))(hR:RtL N ar l):RtL N ar l':=by
 rcases h with⟨h,-⟩|⟨i,y,h,-⟩
 ·cases h
 ·cases h;exact hR.less i
theorem sS (N:List Tx)(ar:Tx->Nat)(l:List RItem)(cs:List AV)(idn idi:Nat)(hR:RtL N ar l)(hE:EL (PI N) l cs)(σ:St):
  ACalls Tryz.prog 103 [C8 N idn l idi cs,sc (.int .u8 (97:UInt8).toNat)] σ fun r σ'=>(∃x b,r=tp [x,sc (.bool b)]/\StpR (StA N) N l idn x b)/\Keep σ σ':=by
 have hS:=fun σ=>Ot N l cs idn idi hR.gl hE σ;have e1:((((97:UInt8).toNat:Nat):Int)==115)=false:=rfl;have e2:((((97:UInt8).toNat:Nat):Int)==97)=true:=rfl;refine Z9 38 [.cell 4 66,.tmp 5] Tryz.func103 ?_
 repeat' first|refine Z1 ?_|refine Z8 fun ya J=>?_|refine Z4 ?_;clear J ya|refine Z2 ?_ ?_<;>intro h af<;>try exact Xp|refine Z5 ?_;refine Xi (hS _) ?_;rintro _ _ ⟨⟨x1,b1,rfl,ac,ad⟩,ae⟩;(have HX:Agt _:=ac;have HT:Agt (xS x1):=ad;obtain⟨t1,t2,t3,t4,t5,t6,rfl⟩:=ad;clear ac;have ab:=ae.nobj;have aa:=ae.obj;(try simp only[Aa]at ab aa))|refine Z3 ?_|exact Zt|apply J.out;clear J ya
 exact⟨_,rfl,⟨_,b1,rfl,chA.stp HX.out HT.out⟩,Xs⟩
theorem sR (N:List Tx)(ar:Tx->Nat)(l:List RItem)(cs:List AV)(idn idi:Nat)(hR:RtL N ar l)(hE:EL (PI N) l cs)(σ:St):
  ACalls Tryz.prog 103 [C8 N idn l idi cs,sc (.int .u8 (114:UInt8).toNat)] σ fun r σ'=>(∃x b,r=tp [x,sc (.bool b)]/\StpR (StR N) N l idn x b)/\Keep σ σ':=by
 have hS:=fun σ=>Mt N l cs idn idi _ hR.gl hR.bki hE σ;have e1:((((114:UInt8).toNat:Nat):Int)==115)=false:=rfl;have e2:((((114:UInt8).toNat:Nat):Int)==97)=false:=rfl;have e3:((((114:UInt8).toNat:Nat):Int)==114)=true:=rfl;refine Z9 38 [.cell 4 66,.tmp 5] Tryz.func103 ?_
 repeat' first|refine Z1 ?_|refine Z8 fun ya J=>?_|refine Z4 ?_;clear J ya|refine Z2 ?_ ?_<;>intro h af<;>try exact Xp|refine Z5 ?_;refine Xi (hS _) ?_;rintro _ _ ⟨⟨x1,b1,rfl,ac,ad⟩,ae⟩;(have HX:Agt _:=ac;have HT:Agt (xS x1):=ad;obtain⟨t1,t2,t3,t4,t5,t6,rfl⟩:=ad;clear ac;have ab:=ae.nobj;have aa:=ae.obj;(try simp only[Aa]at ab aa))|refine Z3 ?_|exact Zt|apply J.out;clear J ya
 exact⟨_,rfl,⟨_,b1,rfl,chR.stp HX.out HT.out⟩,Xs⟩
theorem StpR.mono {T T':List RItem->Option (List RItem)->Prop}{N:List Tx}{l:List RItem}{idn:Nat}{x:AV}{b:Bool}(h:StpR T N l idn x b)(hT:∀o,T l o->T' l o):StpR T' N l idn x b:=by
 obtain⟨h1,o,h2,h3⟩:=h;exact⟨h1,o,hT o h2,h3⟩
theorem vY {l:List RItem}{ar:Tx->Nat}(h:Wc l ar)(i:Nat):Fq l i=false:=by
 unfold Fq;cases hx:l[i]? with
 |none=>rfl
 |some x=>
  simp only;rw[Aev];intro j _;unfold Kw;cases ha:(Ae x)[j]? with
  |none=>simp
  |some a=>
   simp only[Aew];rw[Aev];intro b hb;have aa:=Adp hx;have h1:=h x aa a (Adp ha);have h2:b.terms.length=ar b.pred:=by
    rcases Aet.1 hb with hb|hb
    ·obtain⟨y,hy,ab⟩:=Ae9.1 hb;exact h y (Af1 hy) b ab
    ·exact h x aa b (Af1 hb)
   unfold clash;simp only[Adr,Agf,Age,not_and,ne_eq,Decidable.not_not];intro e;rw[h1,h2,e]
theorem Sc {l l':List RItem}{ar:Tx->Nat}(hA:Wc l' ar)(hs:∀x∈l',Cz x=true)(hw:(Cf l).1=0)(ho:∀x∈l,x.out=true->x.body=[])(ae:∀x∈l',x.out=true->x.body=[])
  (ac:∀x∈l',∃y∈l,y.out=x.out/\y.head.pred=x.head.pred/\∀a∈x.body,∃b∈y.body,b.pred=a.pred/\b.nt=a.nt):Cf l'=(0,0):=by
 have hk:∀i,i<l.length->F9 l i=false:=by
  unfold Cf at hw;split at hw
  ·cases hw
  ·split at hw
   ·cases hw
   ·split at hw
    ·cases hw
    ·rename_i h;exact Ic h
 have ab:∀p q,Fw l' p q->Fw l p q:=fun p q ⟨x,hx,h1,a,ha,h2⟩=>by
  obtain⟨y,hy,-,e,hb⟩:=ac x hx;obtain⟨b,hb,e1,-⟩:=hb a ha;exact⟨y,hy,e.trans h1,b,hb,e1.trans h2⟩
 have af:∀i,i<l'.length->F9 l' i=false:=fun i hi=>by
  unfold F9;rw[Adn hi];simp only;have hx:=Aes hi;generalize l'[i]=x at hx;rw[Aev];intro a ha aa;obtain⟨y,hy,e1,e2,hb⟩:=ac x hx;obtain⟨b,hb,e3,e4⟩:=hb a ha;obtain⟨j,hj⟩:=Afc hy;have:=hk j (Adm.1 hj).1;unfold F9 at this;rw[hj]at this;simp only at this;refine Aev.1 this b hb ?_;unfold sW at aa⊢;simp only[Adr,Agd,Agf]at aa⊢;rw[e4,e3,e2];refine⟨aa.1,?_⟩;have ad:x.out=false:=by
   cases h:x.out with
   |false=>rfl
   |true=>rw[ae x hx h]at ha;cases ha
  rcases aa.2 with h|h
  ·exact .inl h
  ·refine .inr ?_;rw[L5 ae ⟨x,hx,ad,rfl⟩]at h;rw[L5 ho ⟨y,hy,e1.trans ad,e2⟩];exact h.map' ab
 unfold Cf
 rw[if_neg (by rw[B7 fun i _=>vY hA i];decide),if_neg (by
  rw[B7 fun i hi=>?_]
  ·decide
  ·unfold Db;rw[Adn hi];simp only
   rw[hs _ (Aes hi)];rfl),if_neg (by rw[B7 af];decide)]
theorem RtL.xr {N:List Tx}{ar:Tx->Nat}{l:List RItem}(h:RtL N ar l){x:RItem}(hx:x∈l)(ho:x.out=false):XR x:=
 ⟨fun a ha t ht=>by
  have:=((h.gl.msr x hx).at_ a ha).2.2 t ht
  exact⟨this.1,this.2.1,this.2.2.1⟩,ho,by have:=Acn (h.wit x hx);omega⟩
theorem Ry {x:RItem}(ho:x.out=false):Cw x x.body.length=x:=by
 unfold Cw;rw[Afo (Adc _),<-ho]
theorem vJ {N:List Tx}{ar:Tx->Nat}{l:List RItem}(h:RtL N ar l){x:RItem}(hx:x∈l)(hs:Cz x=true):Cz (ren x)=true:=by
 cases ho:x.out with
 |true=>
  have hb:=(h.gl.msr x hx).out ho;unfold Cz;simp[Ae,ren,ho,hb]
 |false=>
  have hX:=h.xr hx ho;have h1:=hX.safe x.body.length;have e:Cw (ren x) x.body.length=ren x:=by
   have:=Ry (x:=ren x) ho;simpa[ren]using this
  rw[e,Ry ho,hs]at h1;rw[<-Ke (x:=ren x) fun a ha w hw=>Ow (hX.inO.ut a ha w hw)];exact h1
theorem Abk {x:RItem}(h:tJ x)(hX:x.out=false->XR x):tJ (ren x):=by
 refine⟨h.nm,fun ho=>?_,fun ho=>?_⟩
 ·obtain⟨h1,h2,h3⟩:=h.out ho;exact⟨h1,by simp[ren,B9,h2],by simp[ren,h3]⟩
 ·obtain⟨h1,h2,h3,h4⟩:=h.rule ho;have hX:=hX ho;have key:∀a∈Ae x,yO a->yO (B9 (Au x) a):=fun a ha hg=>by
   refine⟨hg.nm,by simpa[B9]using hg.ne,by simpa[B9]using hg.few,fun t ht=>?_⟩;simp only[B9,Ae4]at ht;obtain⟨u,hu,rfl⟩:=ht;unfold Da;split
   ·rename_i hv;have:=hX.rng ha hu hv;exact .inl ⟨_,rfl,Gs this.1 this.2⟩
   ·exact hg.tm u hu
  refine⟨key _ (Aq (.inl ⟨ho,rfl⟩)) h1,h2,by simpa[ren]using h3,fun a ha=>?_⟩;simp only[ren,Ae4]at ha;obtain⟨b,hb,rfl⟩:=ha;exact key b (Aq (.inr hb)) (h4 b hb)
theorem Ab3 {N:List Tx}{ar:Tx->Nat}{l:List RItem}(hR:RtL N ar l)(hw:(Cf l).1=0)(hl:Lo l=true)(hg:∀x∈l,tJ x):As (Bm l)=(0,0)/\Bh (Bm l)=l.map ren:=by
 have hi:=Lq hR.wit hR.wi;refine⟨?_,hi⟩;have ab:(Bm l).length<=600:=by
  rw[L4 hR.wit];have h1:=W4 l hR.wit;unfold Lo at hl;simp only[Adr,Age]at hl;omega
 have hpl:Eh (Bm l)= -1:=by
  rw[Hm,L4 hR.wit,Zc 16 (l.map ren) (fun y hy=>?_) (by rw[Ae3];exact hR.gl.len)];obtain⟨x,hx,rfl⟩:=Ae4.1 hy;exact Abk (hg x hx) fun ho=>hR.xr hx ho
 unfold As;rw[if_neg Agm,if_neg (by rw[hpl];decide),hi];refine Sc (l:=l) (ar:=ar) (fun y hy a ha=>?_) (fun y hy=>?_) hw (fun x hx=>(hR.gl.msr x hx).out) (fun y hy ho=>?_) (fun y hy=>?_)
 ·obtain⟨x,hx,rfl⟩:=Ae4.1 hy;cases ho:x.out with
  |true=>
   have hb:=(hR.gl.msr x hx).out ho;simp[Ae,ren,ho,hb]at ha
  |false=>
   have hr:=hR.ru x hx ho;have aa:a=B9 (Au x) x.head\/a∈x.body.map (B9 (Au x)):=by simpa[Ae,ren,ho]using ha
   rcases aa with rfl|aa
   ·show (x.head.terms.map _).length=_;rw[Ae3];exact hr.head.len
   ·obtain⟨b,hb,rfl⟩:=Ae4.1 aa;show (b.terms.map _).length=_;rw[Ae3];exact (hr.body b hb).len
 ·obtain⟨x,hx,rfl⟩:=Ae4.1 hy;exact vJ hR hx (Sd hw hx)
 ·obtain⟨x,hx,rfl⟩:=Ae4.1 hy;have:=(hR.gl.msr x hx).out ho;simp[ren,this]
 ·obtain⟨x,hx,rfl⟩:=Ae4.1 hy;refine⟨x,hx,rfl,rfl,fun a ha=>?_⟩;simp only[ren,Ae4]at ha;obtain⟨b,hb,rfl⟩:=ha;exact⟨b,hb,rfl,rfl⟩
def iB (l:List RItem)(p:Tx):Prop:=∃x∈l,x.head.pred=p\/∃a∈x.body,a.pred=p
def fT (l:List RItem)(p:Tx):Prop:=∃x∈l,x.out=false/\x.head.pred=p
theorem bC {N:List Tx}{l:List RItem}(hN:∀x∈l,x.head.pred∈N){p:Tx}(hp:p∈N):D7 N l (N.idxOf p)=true↔fT l p:=by
 unfold D7 fT;simp only[Aer,Adr,Af9,Age];constructor
 ·rintro⟨x,hx,h1,h2⟩;refine⟨x,hx,h1,?_⟩;have e:=Abv (hN x hx) hp;rw[h2]at e;simpa using e.symm
 ·rintro⟨x,hx,h1,rfl⟩;exact⟨x,hx,h1,rfl⟩
theorem pI {N:List Tx}{ar:Tx->Nat}{l:List RItem}(hR:RtL N ar l){p:Tx}(h:iB l p):p∈N:=by
 obtain⟨x,hx,h⟩:=h;rcases h with rfl|⟨a,ha,rfl⟩
 ·exact (hR.gl.msr x hx).mem
 ·cases ho:x.out with
  |true=>rw[(hR.gl.msr x hx).out ho]at ha;cases ha
  |false=>exact ((hR.ru x hx ho).body a ha).mem
theorem dJ {N:List Tx}{l:List RItem}{M:Nat->Nat->Bool}(hN:∀x∈l,x.head.pred∈N/\∀a∈x.body,a.pred∈N)(hM:Ei N l M){p q:Tx}(hp:p∈N)(hq:q∈N):Hv N.length M N.length (N.idxOf p) (N.idxOf q)=true↔Way (Fw l) p q:=by
 have hS:xT N.length M:=fun a b h=>by
  obtain⟨x,hx,e1,y,hy,e2⟩:=(hM a b).1 h;rw[<-e1,<-e2];exact⟨Afj (hN x hx).1,Afj ((hN x hx).2 y hy)⟩
 rw[cB hS];have one:∀p q:Tx,p∈N->q∈N->(M (N.idxOf p) (N.idxOf q)=true↔Fw l p q):=fun p q hp hq=>by
  rw[hM];constructor
  ·rintro⟨x,hx,e1,y,hy,e2⟩;exact⟨x,hx,El (hN x hx).1 hp e1,y,hy,El ((hN x hx).2 y hy) hq e2⟩
  ·rintro⟨x,hx,rfl,y,hy,rfl⟩;exact⟨x,hx,rfl,y,hy,rfl⟩
 constructor
 ·intro h;have key:∀i j,Way (fun a b=>M a b=true) i j->∀p q:Tx,p∈N->q∈N->N.idxOf p=i->N.idxOf q=j->Way (Fw l) p q:=fun i j h=>by
   induction h with
   |one e=>
    rintro p q hp hq rfl rfl;exact .one ((one p q hp hq).1 e)
   |more e _ ih=>
    rintro p q hp hq rfl rfl;obtain⟨x,hx,e1,y,hy,rfl⟩:=(hM _ _).1 e;have aa:=(hN x hx).2 y hy;exact .more ((one p y.pred hp aa).1 e) (ih y.pred q aa hq rfl rfl)
  exact key _ _ h p q hp hq rfl rfl
 ·intro h;induction h with
  |one e=>exact .one ((one _ _ hp hq).2 e)
  |more e _ ih=>
   have e0:=e;obtain⟨x,hx,rfl,y,hy,rfl⟩:=e0;exact .more ((one _ _ hp ((hN x hx).2 y hy)).2 e) (ih ((hN x hx).2 y hy) hq)
theorem zE {x:RItem}(h:x.out=false->XR x)(ho:x.out=true->x.head.terms=[]/\x.body=[]):ren (ren x)=ren x:=by
 cases e:x.out with
 |true=>
  obtain⟨h1,h2⟩:=ho e;simp[ren,B9,h1,h2]
 |false=>
  have hX:=h e;have hI:=hX.inO;have key:∀a∈Ae x,B9 (Au (ren x)) (B9 (Au x) a)=B9 (Au x) a:=fun a ha=>by
   unfold B9;simp only[RAtom.mk.injEq,Agi,Ad3];refine Afa fun t ht=>?_;simp only[Function.comp];have hu:=hX.ut ha ht;generalize hw:Da (Au x) t=w at hu;cases hv:Ab w with
   |false=>unfold Da;rw[if_neg (by simp[hv])]
   |true=>
    have hm:w∈Au (ren x):=by
     rw[hX.ord];refine Ae4.2 ⟨t,hX.mem ha ht ?_,hw⟩;rw[<-H1 (l:=Au x) fun hv=>hX.rng ha ht hv,hw];exact hv
    have hi:=Afj hm;have hg:=Afi hi;have hl:=hI.len;have ho:=hI.ord;unfold Da Bt;rw[if_pos hv,if_pos hm];generalize (Au (ren x)).idxOf w=i at hi hg;rw[<-hg];have:(Au (ren x))[i]?=some [Kk (i:Nat)]:=by
     rw[ho,Adx,List.getElem?_range hi];rfl
    rw[Adn hi]at this;simpa using this.symm
  show (⟨x.out,B9 (Au (ren x)) (B9 (Au x) x.head),(x.body.map (B9 (Au x))).map (B9 (Au (ren x)))⟩:RItem)=⟨x.out,B9 (Au x) x.head,x.body.map (B9 (Au x))⟩;rw[key _ (Aq (.inl ⟨e,rfl⟩)),Ad3];congr 1;exact Afa fun a ha=>key a (Aq (.inr ha))
theorem oW {α β:Type}(f:α->β)(n:Nat)(o l:List α):rpl n (o.map f) (l.map f)=(rpl n o l).map f:=by
 unfold rpl;rw[List.zipIdx_map,List.flatMap_map,List.map_flatMap];congr 1;funext p;simp only[Prod.map,id];split<;>rfl
theorem Abb {t:Tx}(h:Ab t=false)(l:List Tx):Da l t=t:=if_neg (by simp[h])
def yN (f:Tx->Tx)(x:RItem):RItem:=⟨x.out,⟨x.head.nt,x.head.pred,x.head.terms.map f⟩,x.body.map fun a=>⟨a.nt,a.pred,a.terms.map f⟩⟩
theorem iR {f:Tx->Tx}{t:Tx}:∀L:List Tx,(∀u∈L,f u=f t->u=t)->(L.map f).idxOf (f t)=L.idxOf t/\(f t∈L.map f↔t∈L)
 |[],_=>⟨rfl,by simp⟩
 |u::L,h=>by
  obtain⟨i1,i2⟩:=iR (f:=f) (t:=t) L fun v hv=>h v (by simp[hv]);by_cases e:u=t
  ·subst e;simp
  ·have e2:¬f u=f t:=fun g=>e (h u (by simp) g);refine⟨?_,?_⟩
   ·rw[Ad7,List.idxOf_cons,List.idxOf_cons,i1];have b1:(f u==f t)=false:=by simpa using e2
    have b2:(u==t)=false:=by simpa using e
    rw[b1,b2]
   ·rw[Ad7,Ae2,Ae2,i2];have e3:¬t=u:=fun g=>e g.symm;have e4:¬f t=f u:=fun g=>e2 g.symm;simp[e3,e4]
theorem Abj {f:Tx->Tx}{x:RItem}(hv:∀a∈Ae x,∀t∈a.terms,Ab (f t)=Ab t)(hn:∀a∈Ae x,∀t∈a.terms,Ab t=false->f t=t)(hi:∀a∈Ae x,∀b∈Ae x,∀t∈a.terms,∀u∈b.terms,Ab t=true->Ab u=true->f t=f u->t=u)(ho:x.out=true->x.head.terms=[]/\x.body=[]):ren (yN f x)=ren x:=by
 cases e:x.out with
 |true=>
  obtain⟨h1,h2⟩:=ho e;simp[ren,yN,B9,h1,h2]
 |false=>
  have mem:∀t,t∈(Ae x).flatMap (·.terms)->∃a∈Ae x,t∈a.terms:=fun t ht=>by
   obtain⟨a,ha,hm⟩:=Ae9.1 ht;exact⟨a,ha,hm⟩
  have af:(Ae (yN f x)).flatMap (·.terms)=((Ae x).flatMap (·.terms)).map f:=by
   simp[Ae,yN,e,List.flatMap_map,List.map_flatMap]
  have ht:Au (yN f x)=(Au x).map f:=by
   unfold Au;rw[af]
   have:=Us f ((Ae x).flatMap (·.terms)) [] (by simp) (fun t ht=>by
    obtain⟨a,ha,hm⟩:=mem t ht;exact hv a ha t hm) (fun t u h1 h2 v1 v2 h=>by
    rcases h1 with h1|h1
    ·cases h1
    rcases h2 with h2|h2
    ·cases h2
    obtain⟨a,ha,hm⟩:=mem t h1;obtain⟨b,hb,hk⟩:=mem u h2
    exact hi a ha b hb t hm u hk v1 v2 h)
   exact this
  have ad:=(Me ((Ae x).flatMap (·.terms)) [] (by simp) Afs).1;have key:∀a∈Ae x,B9 (Au (yN f x)) ⟨a.nt,a.pred,a.terms.map f⟩=B9 (Au x) a:=fun a ha=>by
   unfold B9;simp only[RAtom.mk.injEq,Agi,Ad3];refine Afa fun t aa=>?_;simp only[Function.comp];unfold Da;rw[hv a ha t aa];cases ab:Ab t with
   |false=>rw[if_neg (by simp),if_neg (by simp),hn a ha t aa ab]
   |true=>
    rw[if_pos rfl,if_pos rfl,ht];obtain⟨i1,i2⟩:=iR (f:=f) (t:=t) (Au x) fun u hu g=>by
     have ac:=ad u hu;obtain⟨b,hb,ae⟩:=mem u (by rcases ac.2 with h|h;cases h;exact h);exact hi b hb a ha u ae t aa ac.1 ab g
    unfold Bt;by_cases hm:t∈Au x
    ·rw[if_pos hm,if_pos (i2.2 hm),i1]
    ·rw[if_neg hm,if_neg fun g=>hm (i2.1 g)]
  show (⟨x.out,B9 (Au (yN f x)) ⟨x.head.nt,x.head.pred,x.head.terms.map f⟩,(x.body.map fun a=>(⟨a.nt,a.pred,a.terms.map f⟩:RAtom)).map (B9 (Au (yN f x)))⟩:RItem)=⟨x.out,B9 (Au x) x.head,x.body.map (B9 (Au x))⟩;rw[key _ (Aq (.inl ⟨e,rfl⟩)),Ad3];congr 1;exact Afa fun a ha=>key a (Aq (.inr ha))
theorem vI {x:RItem}(hX:XR x)(k:Nat):ren (Cw (ren x) k)=ren (Cw x k):=by
 have hs:∀a∈Ae (Cw x k),a∈Ae x:=fun a ha=>by
  have ha:a=x.head\/a∈x.body.eraseIdx k:=by simpa[Ae,Cw]using ha
  rcases ha with rfl|ha
  ·exact Aq (.inl ⟨hX.out,rfl⟩)
  ·exact Aq (.inr (Afn ha))
 have e:Cw (ren x) k=yN (Da (Au x)) (Cw x k):=by
  simp only[Cw,ren,yN,B9,Gt];rfl
 rw[e];exact Abj (fun a ha t ht=>H1 fun hv=>hX.rng (hs a ha) ht hv) (fun a ha t ht hv=>Abb hv _) (fun a ha b hb t ht u hu _ _ h=>hX.inj (hs a ha) (hs b hb) ht hu h) fun h=>by cases h
structure Sx (x y:RItem):Prop where
 rn:ren x=ren y
 len:(Cb x).length=(Cb y).length
 sf:Cz x=Cz y
theorem Sx.refl (x:RItem):Sx x x:=⟨rfl,rfl,rfl⟩
theorem Sx.symm {x y:RItem}(h:Sx x y):Sx y x:=⟨h.rn.symm,h.len.symm,h.sf.symm⟩
theorem Sx.trans {x y z:RItem}(h:Sx x y)(g:Sx y z):Sx x z:=⟨h.rn.trans g.rn,h.len.trans g.len,h.sf.trans g.sf⟩
theorem Sx.out {x y:RItem}(h:Sx x y):x.out=y.out:=by simpa[ren]using congrArg RItem.out h.rn
theorem Sx.pred {x y:RItem}(h:Sx x y):x.head.pred=y.head.pred:=by simpa[ren,B9]using congrArg (fun z:RItem=>z.head.pred) h.rn
theorem Sx.bl {x y:RItem}(h:Sx x y):x.body.length=y.body.length:=by
 have:=congrArg (fun z:RItem=>z.body.length) h.rn;simpa[ren]using this
theorem Sx.lit {x y:RItem}(h:Sx x y){j:Nat}{a:RAtom}(ha:x.body[j]?=some a):∃b,y.body[j]?=some b/\b.nt=a.nt/\b.pred=a.pred/\b.terms.length=a.terms.length:=by
 have:=congrArg (fun z:RItem=>z.body[j]?) h.rn;simp only[ren,Adx,ha,Aeu]at this;obtain⟨b,hb,e⟩:=Option.map_eq_some_iff.1 this.symm;refine⟨b,hb,by simpa[B9]using congrArg RAtom.nt e,by simpa[B9]using congrArg RAtom.pred e,?_⟩;have:=congrArg (fun z:RAtom=>z.terms.length) e;simpa[B9]using this
theorem Sx.mem {x y:RItem}(h:Sx x y){a:RAtom}(ha:a∈x.body):∃b∈y.body,b.nt=a.nt/\b.pred=a.pred/\b.terms.length=a.terms.length:=by
 obtain⟨j,hj⟩:=Afc ha;obtain⟨b,hb,h⟩:=h.lit hj;exact⟨b,Adp hb,h⟩
theorem Sx.hl {x y:RItem}(h:Sx x y):x.head.terms.length=y.head.terms.length:=by
 have:=congrArg (fun z:RItem=>z.head.terms.length) h.rn;simpa[ren,B9]using this
theorem kK {x:RItem}(hw:Du x)(hu:∀a∈Ae x,∀t∈a.terms,UT t):(Cb (ren x)).length=(Cb x).length:=by
 refine Nat.le_antisymm (dM hw) ?_;have h1:∀l:List Tx,∀t,UT t->t.length<=(Da l t).length:=fun l t ht=>by
  unfold Da;split
  ·rename_i hv;obtain⟨k,-,rfl⟩:=ht.2.2.2 hv;simp
  ·exact Adc _
 have h2:∀a∈Ae x,(Be a).length<=(Be (B9 (Au x) a)).length:=fun a ha=>by
  have:=Ox id (Da (Au x)) a.terms fun t ht=>h1 _ t (hu a ha t ht);rw[List.map_id]at this;unfold Be B9;simp only[Aeb,Aem,Ael];omega
 cases ho:x.out with
 |true=>simp[Cb,ren,B9,ho]
 |false=>
  have h3:=h2 _ (Aq (.inl ⟨ho,rfl⟩));have h4:=Ox Ch (fun a=>Ch (B9 (Au x) a)) x.body fun a ha=>by
   have:=h2 a (Aq (.inr ha));unfold Ch;rw[Aeb,Aeb];show _<=(if a.nt=true then [33]else ([]:Tx)).length+_;omega
  unfold Cb;rw[if_neg (by simp[ho]),if_neg (by simp[ren,ho])];unfold Dz;show _<=(Be (B9 (Au x) x.head)++(if x.body.map (B9 (Au x))=[]then []else 58::45::Bj ((x.body.map (B9 (Au x))).map Ch))).length;rw[Ad3,Aeb,Aeb];by_cases hb:x.body=[]
  ·rw[if_pos hb,if_pos (by simp[hb])];simpa using h3
  ·rw[if_neg hb,if_neg (by simpa using hb)];simp only[Aem];have h5:(Bj (x.body.map Ch)).length<=(Bj (x.body.map (Ch∘B9 (Au x)))).length:=h4;omega
theorem Abi {x:RItem}(hX:x.out=false->XR x)(ho:x.out=true->x.head.terms=[]/\x.body=[]):Cz (ren x)=Cz x:=by
 cases e:x.out with
 |true=>
  obtain⟨h1,h2⟩:=ho e;have:ren x=x:=by
   obtain⟨o,⟨n,p,ts⟩,b⟩:=x;simp only at h1 h2;subst h1;subst h2;rfl
  rw[this]
 |false=>
  have hX:=hX e;have h1:=hX.safe x.body.length;have e2:Cw (ren x) x.body.length=ren x:=by
   have:=Ry (x:=ren x) e;simpa[ren]using this
  rw[e2,Ry e]at h1;rw[<-Ke (x:=ren x) fun a ha w hw=>Ow (hX.inO.ut a ha w hw)];exact h1
theorem RtL.ut {N:List Tx}{ar:Tx->Nat}{l:List RItem}(h:RtL N ar l){x:RItem}(hx:x∈l):∀a∈Ae x,∀t∈a.terms,UT t:=fun a ha=>((h.gl.msr x hx).at_ a ha).2.2
theorem RtL.sx {N:List Tx}{ar:Tx->Nat}{l:List RItem}(h:RtL N ar l){x:RItem}(hx:x∈l):Sx x (ren x):=
 ⟨(zE (fun ho=>h.xr hx ho) fun ho=>((h.wit x hx).2.1 ho).2).symm,(kK (h.wit x hx) (h.ut hx)).symm,(Abi (fun ho=>h.xr hx ho) fun ho=>((h.wit x hx).2.1 ho).2).symm⟩
def LS (l m:List RItem):Prop:=∃L:List (RItem×RItem),l=L.map (·.1)/\m=L.map (·.2)/\∀p∈L,Sx p.1 p.2
theorem LS.refl (l:List RItem):LS l l:=⟨l.map fun x=>(x,x),by simp[Function.comp_def],by simp[Function.comp_def],fun p hp=>by
 obtain⟨x,-,rfl⟩:=Ae4.1 hp
 exact Sx.refl x⟩
theorem LS.symm {l m:List RItem}(h:LS l m):LS m l:=by
 obtain⟨L,rfl,rfl,h⟩:=h
 exact⟨L.map Prod.swap,by simp[Function.comp_def],by simp[Function.comp_def],fun p hp=>by
  obtain⟨q,hq,rfl⟩:=Ae4.1 hp
  exact (h q hq).symm⟩
theorem LS.len {l m:List RItem}(h:LS l m):l.length=m.length:=by
 obtain⟨L,rfl,rfl,-⟩:=h;simp
theorem LS.get {l m:List RItem}(h:LS l m){i:Nat}{x:RItem}(hx:l[i]?=some x):∃y,m[i]?=some y/\Sx x y:=by
 obtain⟨L,rfl,rfl,h⟩:=h;rw[Adx]at hx;obtain⟨p,hp,rfl⟩:=Option.map_eq_some_iff.1 hx;exact⟨p.2,by rw[Adx,hp];rfl,h p (Adp hp)⟩
theorem LS.mem {l m:List RItem}(h:LS l m){x:RItem}(hx:x∈l):∃y∈m,Sx x y:=by
 obtain⟨i,hi⟩:=Afc hx;obtain⟨y,hy,h⟩:=h.get hi;exact⟨y,Adp hy,h⟩
theorem LS.ren {l m:List RItem}(h:LS l m):l.map ren=m.map ren:=by
 obtain⟨L,rfl,rfl,h⟩:=h;rw[Ad3,Ad3];exact Afa fun p hp=>(h p hp).rn
theorem LS.rpl {l m o o2:List RItem}(h:LS l m)(g:LS o o2)(i:Nat):LS (rpl i o l) (rpl i o2 m):=by
 obtain⟨L,rfl,rfl,h⟩:=h;obtain⟨O,rfl,rfl,g⟩:=g;refine⟨YtmoeoppbmhfbpaaGreatDoorD.rpl i O L,by rw[oW],by rw[oW],fun p hp=>?_⟩;rcases E0 hp with hp|hp
 ·exact h p hp
 ·exact g p hp
theorem LS.one {x y:RItem}(h:Sx x y):LS [x] [y]:=⟨[(x,y)],rfl,rfl,fun p hp=>by simp at hp;subst hp;exact h⟩
theorem LS.filter {l m:List RItem}(h:LS l m){f g:RItem->Bool}(hf:∀x y,x∈l->y∈m->Sx x y->f x=g y):LS (l.filter f) (m.filter g):=by
 obtain⟨L,rfl,rfl,h⟩:=h;refine⟨L.filter fun p=>f p.1,by rw[List.filter_map];rfl,?_,fun p hp=>h p (Afz.1 hp).1⟩;rw[List.filter_map];congr 1;exact List.filter_congr fun p hp=>(hf p.1 p.2 (Ae4.2 ⟨p,hp,rfl⟩) (Ae4.2 ⟨p,hp,rfl⟩) (h p hp)).symm
theorem LS.of_ren {N:List Tx}{ar:Tx->Nat}{l:List RItem}(h:RtL N ar l):LS l (l.map YtmoeoppbmhfbpaaGreatDoorD.ren):=⟨l.map fun x=>(x,YtmoeoppbmhfbpaaGreatDoorD.ren x),by simp[Function.comp_def],by simp[Function.comp_def],fun p hp=>by
 obtain⟨x,hx,rfl⟩:=Ae4.1 hp
 exact h.sx hx⟩
theorem LS.nmd {l m:List RItem}(h:LS l m){p:Tx}(hp:iB l p):iB m p:=by
 obtain⟨x,hx,hp⟩:=hp;obtain⟨y,hy,hs⟩:=h.mem hx;refine⟨y,hy,?_⟩;rcases hp with rfl|⟨a,ha,rfl⟩
 ·exact .inl hs.pred.symm
 ·obtain⟨b,hb,-,e,-⟩:=hs.mem ha;exact .inr ⟨b,hb,e⟩
theorem LS.rld {l m:List RItem}(h:LS l m){p:Tx}(hp:fT l p):fT m p:=by
 obtain⟨x,hx,ho,rfl⟩:=hp;obtain⟨y,hy,hs⟩:=h.mem hx;exact⟨y,hy,hs.out.symm.trans ho,hs.pred.symm⟩
theorem LS.once {l m:List RItem}(h:LS l m){p q:Tx}(hp:Fw l p q):Fw m p q:=by
 obtain⟨x,hx,rfl,a,ha,rfl⟩:=hp;obtain⟨y,hy,hs⟩:=h.mem hx;obtain⟨b,hb,-,e,-⟩:=hs.mem ha;exact⟨y,hy,hs.pred.symm,b,hb,e⟩
def kA (N:List Tx)(l:List RItem):Prop:=∀x∈l,x.head.pred∈N/\∀a∈x.body,a.pred∈N
theorem RtL.nm {N:List Tx}{ar:Tx->Nat}{l:List RItem}(h:RtL N ar l):kA N l:=fun x hx=>⟨pI h ⟨x,hx,.inl rfl⟩,fun a ha=>pI h ⟨x,hx,.inr ⟨a,ha,rfl⟩⟩⟩
theorem U1 {N:List Tx}{l m:List RItem}(hl:kA N l)(hm:kA N m):Q8 N m l=false↔∀p,iB m p->fT l p->fT m p:=by
 have nm:∀p,iB m p->p∈N:=fun p ⟨x,hx,h⟩=>by
  rcases h with rfl|⟨a,ha,rfl⟩
  ·exact (hm x hx).1
  ·exact (hm x hx).2 a ha
 constructor
 ·intro h p h1 h2;have hp:=nm p h1;have hk:=Afj hp;have:=Aev.1 h (N.idxOf p) (by simpa using hk);have e1:D7 N l (N.idxOf p)=true:=(bC (fun x hx=>(hl x hx).1) hp).2 h2;have e2:He N m (N.idxOf p)=true:=by
   obtain⟨x,hx,h1⟩:=h1;refine Aer.2 ⟨x,hx,?_⟩;rcases h1 with rfl|⟨a,ha,rfl⟩
   ·simp
   ·simp only[Agd,Aer,Age];exact .inr ⟨a,ha,rfl⟩
  rw[e1,e2]at this;refine (bC (fun x hx=>(hm x hx).1) hp).1 ?_;simpa using this
 ·intro h;refine Aev.2 fun k _ hc=>?_;simp only[Adr,Af9]at hc;obtain⟨⟨h1,h2⟩,h3⟩:=hc;obtain⟨x,hx,aa⟩:=Aer.1 h1;simp only[Adr,Af9,Age]at aa;obtain⟨z,hz,ab⟩:=Aer.1 h3;simp only[Agd,Aer,Age]at ab;have hn:iB m x.head.pred:=by
   refine⟨z,hz,?_⟩;rcases ab with e|⟨a,ha,e⟩
   ·exact .inl (El (hm z hz).1 (hl x hx).1 Agm)
   ·exact .inr ⟨a,ha,El ((hm z hz).2 a ha) (hl x hx).1 Agm⟩
  have:=(bC (fun x hx=>(hm x hx).1) (hl x hx).1).2 (h _ hn ⟨x,hx,aa.1,rfl⟩);rw[aa.2,h2]at this;cases this
theorem tM {l:List RItem}(h:(Cf l).1=0):∃ar,Wc l ar:=by
 have aa:∀i,i<l.length->Fq l i=false:=by
  unfold Cf at h;split at h
  ·cases h
  ·rename_i h0;exact Ic h0
 have two:∀(i j:Nat) (x y:RItem) (a b:RAtom),i<=j->l[i]?=some x->l[j]?=some y->a∈Ae x->b∈Ae y->a.pred=b.pred->a.terms.length=b.terms.length:=fun i j x y a b ac hx hy ha hb e=>by
  have key:∀(n k:Nat) (c d:RAtom),(Ae y)[k]?=some d->c∈Cj l y j k->c.pred=d.pred->c.terms.length=d.terms.length:=fun n k c d hd hc e=>by
   have ho:=aa j (Adm.1 hy).1;unfold Fq at ho;rw[hy]at ho;simp only at ho;have hk:=(Adm.1 hd).1;have:=Aev.1 ho k (by simpa using hk);unfold Kw at this;rw[hd]at this;simp only[Aew]at this;have:=Aev.1 this c hc;unfold clash at this;simp only[Adr,Agf,Age,not_and,ne_eq,Decidable.not_not]at this;exact this e
  obtain⟨n,hn⟩:=Afc hb;by_cases ab:i<j
  ·refine key 0 n a b hn (Af5 _ (Ae9.2 ⟨x,Adp (i:=i) (by rw[Adk,if_pos ab];exact hx),ha⟩)) e
  ·have:i=j:=Agm;subst this;rw[hx]at hy;cases hy;obtain⟨k,hk⟩:=Afc ha;rcases Aft k n with h1|h1|h1
   ·exact key 0 n a b hn (Af6 _ (Adp (i:=k) (by rw[Adk,if_pos h1];exact hk))) e
   ·subst h1;rw[hk]at hn;cases hn;rfl
   ·exact (key 0 k b a hk (Af6 _ (Adp (i:=n) (by rw[Adk,if_pos h1];exact hn))) e.symm).symm
 refine⟨fun p=>Classical.epsilon fun n=>∃x∈l,∃a∈Ae x,a.pred=p/\a.terms.length=n,fun x hx a ha=>?_⟩;obtain⟨y,hy,b,hb,e1,e2⟩:=Classical.epsilon_spec (p:=fun n=>∃x∈l,∃b∈Ae x,b.pred=a.pred/\b.terms.length=n) ⟨_,x,hx,a,ha,rfl,rfl⟩;obtain⟨i,hi⟩:=Afc hx;obtain⟨j,hj⟩:=Afc hy;refine Eq.trans ?_ e2;rcases Nat.le_total i j with h|h
 ·exact two i j x y a b h hi hj ha hb e1.symm
 ·exact (two j i y x b a h hj hi hb ha e1).symm
theorem cZ {l m:List RItem}(h:LS l m)(hl:∀x∈l,x.out=true->x.body=[])(hm:∀x∈m,x.out=true->x.body=[])(hw:(Cf l).1=0):(Cf m).1=0:=by
 obtain⟨ar,hA⟩:=tM hw;have g:=h.symm;rw[Sc (l:=l) (ar:=ar) (fun y hy a ha=>?_) (fun y hy=>?_) hw hl hm fun y hy=>?_]
 ·obtain⟨x,hx,hs⟩:=g.mem hy;have aa:(y.out=false/\a=y.head)\/a∈y.body:=by
   unfold Ae at ha;cases ho:y.out<;>simp[ho]at ha
   ·rcases ha with h|h
    ·exact .inl ⟨rfl,h⟩
    ·exact .inr h
   ·exact .inr ha
  rcases aa with⟨ho,rfl⟩|aa
  ·have:=hA x hx x.head (Aq (.inl ⟨hs.out.symm.trans ho,rfl⟩));rw[hs.hl,this,hs.pred]
  ·obtain⟨b,hb,-,e,e2⟩:=hs.mem aa;have:=hA x hx b (Aq (.inr hb));rw[<-e2,this,e]
 ·obtain⟨x,hx,hs⟩:=g.mem hy;rw[hs.sf];exact Sd hw hx
 ·obtain⟨x,hx,hs⟩:=g.mem hy;refine⟨x,hx,hs.out.symm,hs.pred.symm,fun a ha=>?_⟩;obtain⟨b,hb,e1,e2,-⟩:=hs.mem ha;exact⟨b,hb,e2,e1⟩
theorem nT {l m:List RItem}(h:LS l m):(Cr l).length=(Cr m).length:=by
 obtain⟨L,rfl,rfl,h⟩:=h;unfold Cr;induction L with
 |nil=>rfl
 |cons p L ih=>
  have h1:=(h p (by simp)).len;have h2:=ih fun q hq=>h q (by simp[hq]);simp only[Ad7,Ae0,Aeb];rw[h1,h2]
theorem xJ {N N2:List Tx}{l m l2 m2:List RItem}(h:LS l l2)(g:LS m m2)(n1:kA N l)(n2:kA N m)(n3:kA N2 l2)(n4:kA N2 m2)(hm:∀x∈m,x.out=true->x.body=[])(aa:∀x∈m2,x.out=true->x.body=[])(hb:En N l m=true):En N2 l2 m2=true:=by
 unfold En at hb⊢;simp only[Adr,Af9,Agf]at hb⊢;obtain⟨h1,h2,h3⟩:=hb;refine⟨?_,?_,cZ g hm aa h3⟩
 ·unfold Lo at h1⊢;simp only[Adr,Age,Ado]at h1⊢;refine⟨by rw[<-g.len];exact h1.1,fun y hy=>?_,by rw[<-nT g];exact h1.2.2⟩;obtain⟨x,hx,hs⟩:=g.symm.mem hy;rw[hs.bl];exact h1.2.1 x hx
 ·rw[U1 n1 n2]at h2;rw[U1 n3 n4];exact fun p hp hr=>g.rld (h2 p (g.symm.nmd hp) (h.symm.rld hr))
end Go.Proofs.YtmoeoppbmhfbpaaGreatDoorD
