import Derived.Test.YtmoeoppbmhfbpaaGreatDoorHDocK
set_option maxHeartbeats 64000000
set_option maxRecDepth 100000
set_option linter.all false
namespace Go.Proofs.YtmoeoppbmhfbpaaGreatDoorH
open Go.Abs
theorem Zz {ida nA:Nat}{cA:List AV}{fz:Bool}{mo:Int}{ido nO ido' nO':Nat}{oc oc':List AV}{B:BK}:(Ck ida nA cA fz mo ido nO oc B).set 3 (sl ido' nO' oc')=Ck ida nA cA fz mo ido' nO' oc' B:=rfl
theorem WOb.addO {l l':St}{ow ida nA:Nat}{cA:List AV}{fz:Bool}{mo:Int}{ido:Nat}{O:List RAtom}{oc:List AV}{B:BK}{N id':Nat}{a:RAtom}{ca:List AV}(h:WOb l ow ida nA cA fz mo ido O oc B N)(ha:Be a ca)
  (hL:Live l' id' (O.length+1)) (hid:id'=ido\/l.ntop+2<=id') (aa:id'≠1)
  (eob:∀o,o<l.nobj->o≠ow->l'.obj o=l.obj o) (ab:∀o,o<l.nobj->o≠ow->l'.ver o=l.ver o) (eno:l.nobj<=l'.nobj) (ento:l.ntop<=l'.ntop)
  (etop:∀j,j<l.ntop->j+2≠ido->l'.top j=l.top j) (eow:l'.obj ow=(Ck ida nA cA fz mo ido O.length oc B).set 3 (sl id' (O.length+1) (oc++ca))):
  WOb l' ow ida nA cA fz mo id' (O++[a]) (oc++ca) B N/\KW ow (C1 ido O.length B) (C1 id' (O++[a]).length B) l l':=by
 have hx:(C1 ido O.length B)[0]?=some (ido,O.length):=rfl;obtain⟨g1,g2⟩:=Rws.grow (ow:=ow) h.rw' hx hL hid aa eob ab eno ento etop;have e:C1 id' (O++[a]).length B=(C1 ido O.length B).set 0 (id',O.length+1):=by simp[C1]
 rw[e];refine⟨⟨?_,Aam h.lo eno,h.bl,EL.append h.oe (EL.single ha),by rw[e];exact g1,h.bn⟩,g2⟩;rw[eow,Zz];simp
theorem qN {fz:Bool}{A:List RAtom}{cA:List AV}{c0 p:Nat}{x:RItem}{h:RAtom}(hA:D5 A cA)(hH:HalfOk fz c0 p x)(hS:Pw fz A x h):clA h:=by
 obtain⟨μ,h1,-,rfl⟩:=hS;refine⟨hH.cl.2.1.1,fun t ht=>?_,by show (x.head.terms.map _).length<=1000;rw[Ace];exact hH.cl.2.1.2.2⟩;obtain⟨u,hu,rfl⟩:=Acf.1 ht;cases hv:Ag u with
 |false=>rw[C6 hv];exact hH.cl.2.1.2.1 u hu
 |true=>
  obtain⟨a,ha,hp,hm⟩:=hH.saf u hv (.inl hu);exact (hA.cl _ (h1 a ha hp)).2.1 _ (Acf.2 ⟨u,hm,rfl⟩)
theorem vU {fz:Bool}{A:List RAtom}{cA:List AV}{mo:Int}{c0 p:Nat}{x:RItem}{O O':List RAtom}{S S':Tx->Prop}(hA:D5 A cA)(hH:HalfOk fz c0 p x)(hO:∀a∈O,clA a)(h:Uk fz A mo x O S O' S'):∀a∈O',clA a:=by
 obtain⟨nw,rfl,h2⟩:=h.ext;intro a ha;rcases Ab2.1 ha with h'|h'
 ·exact hO a h'
 ·exact qN hA hH (h2 a h').1
def tI (fz:Bool)(A:List RAtom)(cA:List AV)(ida:Nat)(mo:Int)(c0 p:Nat):Prop:=∀(x:RItem) (c:List AV),EItem x c->HalfOk fz c0 p x->∀(ow ido:Nat) (O:List RAtom) (oc:List AV) (B:BK) (N:Nat) (l:St),WOb l ow ida A.length cA fz mo ido O oc B N->N+Ec c0 A.length p+1001<=1000000000000+O.length->O.Nodup->(O.length:Int)<=mo+1->(∀a∈O,clA a)->SeenOk fz A O mo (Oo B) x.body.length->
  ACalls Tryz.prog 225 [ptr ow 0,ag c] l fun r l'=>Qj fz A cA ida mo c0 p x ow ido O B N l l'
theorem Wz (fz:Bool)(A:List RAtom)(cA:List AV)(ida:Nat)(mo:Int)(c0:Nat)(hA:D5 A cA)(fb:0<=mo)(fa:mo<=900)(p:Nat)(IH:∀q,p=q+1->tI fz A cA ida mo c0 q):tI fz A cA ida mo c0 p:=by
 intro x c hc hH ow ido O oc B N l hW hN bu au dx hS;have b7:=hc;obtain⟨ih,id,b,hb,rfl⟩:=hc.cells;unfold Bo;unfold Bo at b7;have av:=hH.fits;have et:=av.1;have ej:=hW.lo;have d2:=hA.len;have fi:O.length<=901:=Ad2;have cg:=fun l=>Ko x.head _ ⟨ih,rfl⟩ av.2.1 l;have du:=fun l=>Gl O oc ido x.head [sc (.bool x.head.nt),str x.head.pred,sl ih x.head.terms.length (x.head.terms.map str)] hW.oe ⟨ih,rfl⟩ Ad2 (fun a ha=>(dx a ha).2.2) l;have dv:=fun l=>Gl A cA ida x.head [sc (.bool x.head.nt),str x.head.pred,sl ih x.head.terms.length (x.head.terms.map str)] hA.el ⟨ih,rfl⟩ d2 (fun a ha=>(hA.cl a ha).2.2) l;have eq:(Ck ida A.length cA fz mo ido O.length oc B)[0]?=some (sl ida A.length cA):=rfl;have em:(Ck ida A.length cA fz mo ido O.length oc B).head?=some (sl ida A.length cA):=rfl;have ep:(Ck ida A.length cA fz mo ido O.length oc B)[1]?=some (sc (.bool fz)):=rfl;have eo:(Ck ida A.length cA fz mo ido O.length oc B)[2]?=some (sc (.int .i64 mo)):=rfl;have en:(Ck ida A.length cA fz mo ido O.length oc B)[3]?=some (sl ido O.length oc):=rfl;have ec:=Ho (ida:=ida) (nA:=A.length) (cA:=cA) (fz:=fz) (mo:=mo) (ido:=ido) (nO:=O.length) (oc:=oc) hW.bl;have dn:=hW.ob;generalize bd:Ck ida A.length cA fz mo ido O.length oc B=wc at*
 have ch:Ad8 _:=bd;clear bd;refine Z9 109 [] Tryz.func225 ?_
 repeat' (first|refine Z1 ?_|(refine Z8 ?_;intro ya J)|(refine Z4 ?_;clear J ya)|(refine Z2 ?_ ?_<;>intro h ae<;>try exact Xp)|(refine Z6 ?_;intro idn ln ak am ad ab ac aa)|refine Z3 ?_|exact Zt|(apply J.out;clear J ya))
 obtain⟨l1,b4⟩:∃l1,l1=l.new [sc (.bool x.out),sc (.bool x.head.nt),str x.head.pred,sl ih x.head.terms.length (x.head.terms.map str),sl id x.body.length b]:=⟨_,rfl⟩;rw[<-b4];have dz:Keep l l1:=by rw[b4];exact (Keep.refl l).new _
 have e9:l1.nobj=l.nobj+1:=by rw[b4];rfl
 have bg:l1.obj ow=wc:=by rw[dz.obj _ ej,dn]
 have bc:l1.obj l.nobj=[sc (.bool x.out),sc (.bool x.head.nt),str x.head.pred,sl ih x.head.terms.length (x.head.terms.map str),sl id x.body.length b]:=by rw[b4];exact Am
 clear b4;refine A6 (Q:=fun e s' l''=>e= .normal/\∃th,s' 4=sc (.bool th)/\s' 0=ptr ow 0/\s' 3=ptr l.nobj 0/\Keep l1 l''/\(th=true↔(U1 x.head/\(x.head∈O\/x.head∈A)))) ?_ ?_
 ·by_cases hz:Ip x.head=0
  ·rw[hz]at cg;have d8:((((0:Nat):Int))==0)=true:=rfl;have ci:Ad8 (U1 x.head):=looseN_zero.1 hz;refine As Ad (fun _=>True) [] [0,1] 21 #[true,true,false,false,false,false,false,false,false,false,false,false,false,false,false,false,false,false,false,false,false,false,false] Ad5 (fun _ _ _ h=>by cases h.1) ?_;intro ya J;refine Z3 ?_;refine J.out _ ?_;clear J ya;refine Ah (i:=2) Ad5 ?_;refine Ao ?_;intro ya J;refine Z3 ?_;refine ACalls.mono (cg _) ?_;rintro _ l2 ⟨rfl,aj⟩;refine Z3 ?_;refine J.out _ _ ⟨Ap aj,?_⟩;clear J ya;have bf:l2.obj ow=wc:=by rw[aj.obj _ Ad2,bg]
   have a4:l2.obj l.nobj=[sc (.bool x.out),sc (.bool x.head.nt),str x.head.pred,sl ih x.head.terms.length (x.head.terms.map str),sl id x.body.length b]:=by rw[aj.obj _ Ad2,bc]
   have cn:=aj.nobj;refine Iz [3,4,5,6,7,8,9,10] 12 20 #[true,true,true,true,true,true,true,true,true,true,true,false,false,false,false,false,false,false,false,false,false,false,false] rfl Ad5 Ad5 (fun _ _ _ h=>by cases h.1) (aj).nobj (fun o ho _=>(aj).ver o ho) ?_;intro ya J;refine Z3 ?_;refine J.out _ ?_;clear J ya;refine Ah (i:=11) Ad5 ?_;refine Ao ?_;intro ya J;refine Z3 ?_;refine ACalls.mono (du _) ?_;rintro _ l3 ⟨b1,rfl,dt,ao⟩;refine Z3 ?_;refine J.out _ _ ⟨Ap ao,?_⟩;clear J ya;have a6:l3.obj ow=wc:=by rw[ao.obj _ Ad2,bf]
   have bb:l3.obj l.nobj=[sc (.bool x.out),sc (.bool x.head.nt),str x.head.pred,sl ih x.head.terms.length (x.head.terms.map str),sl id x.body.length b]:=by rw[ao.obj _ Ad2,a4]
   have bz:=ao.nobj;cases b1 with
   |true=>
    refine Iz [12,13,14,15,16,17,18] 4 11 #[true,true,true,true,true,true,true,true,true,true,true,true,true,true,true,true,true,true,true,false,false,false,false] rfl Ad5 Ad5 (fun _ _ _ h=>by cases h.1) (ao).nobj (fun o ho _=>(ao).ver o ho) ?_;intro ya J;refine Z3 ?_;refine J.out _ ?_;clear J ya;refine Ah (i:=19) Ad5 ?_;refine Ao ?_;intro ya J;refine Z3 ?_;refine J.out _ _ ⟨kept_refl,?_⟩;clear J ya;refine Bs [20,21,22] Ad5 Ad5 (fun _ _ _ h=>by cases h.1) (Aak _) (fun o ho _=>rfl) ?_;intro ya J;refine Z3 ?_;refine J.out _ _ ⟨rfl,true,Ad3,by simp[upd,initS, *],Ad3,aj.trans ao,fun _=>⟨ci.out,.inl (dt.1 rfl)⟩,fun _=>rfl⟩
   |false=>
    refine Iz [12,13,14,15,16,17,18] 4 11 #[true,true,true,true,true,true,true,true,true,true,true,true,true,true,true,true,true,true,true,false,false,false,false] rfl Ad5 Ad5 (fun _ _ _ h=>by cases h.1) (ao).nobj (fun o ho _=>(ao).ver o ho) ?_;intro ya J;refine Z3 ?_;refine J.out _ ?_;clear J ya;refine Ah (i:=19) Ad5 ?_;refine Ao ?_;intro ya J;refine Z3 ?_;refine ACalls.mono (dv _) ?_;rintro _ l4 ⟨b2,rfl,ds,an⟩;refine Z3 ?_;refine J.out _ _ ⟨Ap an,?_⟩;clear J ya;refine Bs [20,21,22] Ad5 Ad5 (fun _ _ _ h=>by cases h.1) an.nobj (fun o ho _=>an.ver o ho) ?_;intro ya J;refine Z3 ?_;refine J.out _ _ ⟨rfl,b2,Ad4,by simp[upd,initS, *],Ad3,(aj.trans ao).trans an,fun h=>⟨ci.out,.inr (ds.1 h)⟩,fun h=>?_⟩;rcases h.2 with h'|h'
    ·exact absurd (dt.2 h') (by simp)
    ·exact ds.2 h'
  ·have d8:(((Ip x.head:Nat):Int)==0)=false:=by simp;omega
   have ci:Ad8 (¬U1 x.head):=fun h=>hz (looseN_zero.2 h);generalize Ip x.head=lz at*
   refine As Ad (fun _=>True) [] [0,1] 21 #[true,true,false,false,false,false,false,false,false,false,false,false,false,false,false,false,false,false,false,false,false,false,false] Ad5 (fun _ _ _ h=>by cases h.1) ?_;intro ya J;refine Z3 ?_;refine J.out _ ?_;clear J ya;refine Ah (i:=2) Ad5 ?_;refine Ao ?_;intro ya J;refine Z3 ?_;refine ACalls.mono (cg _) ?_;rintro _ l2 ⟨rfl,aj⟩;refine Z3 ?_;refine J.out _ _ ⟨Ap aj,?_⟩;clear J ya;refine Iz [3,4,5,6,7,8,9,10] 12 20 #[true,true,true,true,true,true,true,true,true,true,true,false,false,false,false,false,false,false,false,false,false,false,false] rfl Ad5 Ad5 (fun _ _ _ h=>by cases h.1) (aj).nobj (fun o ho _=>(aj).ver o ho) ?_;intro ya J;refine Z3 ?_;refine J.out _ ?_;clear J ya;refine Ah (i:=11) Ad5 ?_;refine Ao ?_;intro ya J;refine Z3 ?_;refine J.out _ _ ⟨kept_refl,?_⟩;clear J ya;refine Iz [12,13,14,15,16,17,18] 4 11 #[true,true,true,true,true,true,true,true,true,true,true,true,true,true,true,true,true,true,true,false,false,false,false] rfl Ad5 Ad5 (fun _ _ _ h=>by cases h.1) (Aak _) (fun o ho _=>rfl) ?_;intro ya J;refine Z3 ?_;refine J.out _ ?_;clear J ya;refine Ah (i:=19) Ad5 ?_;refine Ao ?_;intro ya J;refine Z3 ?_;refine J.out _ _ ⟨kept_refl,?_⟩;clear J ya;refine Bs [20,21,22] Ad5 Ad5 (fun _ _ _ h=>by cases h.1) (Aak _) (fun o ho _=>rfl) ?_;intro ya J;refine Z3 ?_;refine J.out _ _ ⟨rfl,false,Ad3,by simp[upd,initS, *],Ad3,aj,fun h=>(by cases h),fun h=>absurd h.1 ci.out⟩
 ·rintro e s' l2 ⟨rfl,th,g4,g0,g3,aj,dc⟩;have bf:l2.obj ow=wc:=by rw[aj.obj _ Ad2,bg]
  have a4:l2.obj l.nobj=[sc (.bool x.out),sc (.bool x.head.nt),str x.head.pred,sl ih x.head.terms.length (x.head.terms.map str),sl id x.body.length b]:=by rw[aj.obj _ Ad2,bc]
  have cn:=aj.nobj;have bq:Ad8 _:=dc;clear dc cg du dv bg bc;have cd:Keep l l2:=dz.trans aj;have a8:=hW.keep cd;cases th with
  |true=>
   have HQ:Ad8 (Qj fz A cA ida mo c0 p x ow ido O B N l l2):=by
    refine⟨ido,O,oc,B,N,a8,KW.ofKeep cd,Pg bu au hS (fun _ h hh=>?_),Ad2⟩;obtain⟨hg,hm⟩:=bq.out.1 rfl;rw[qM hg hh];exact hm.symm
   clear bq hW hS a8
   repeat' (first|refine Z1 ?_|(refine Z8 ?_;intro ya J)|(refine Z4 ?_;clear J ya)|(refine Z2 ?_ ?_<;>intro h ae<;>try exact Xp)|(refine Z6 ?_;intro idn ln ak am ad ab ac aa)|refine Z3 ?_|exact Zt|(apply J.out;clear J ya))
   refine A6 (Q:=fun e s'' l''=>e= .normal/\s'' 48=sc (.bool true)/\l''=l2) ?_ ?_
   ·refine As Ad (fun _=>True) [16,17] [0,1,2,3,4,5,6,7,8,9,10,11,12,13,14,15] 2 #[true,true,true,true,true,true,true,true,true,true,true,true,true,true,true,true,false,false] Ad5 (fun _ _ _ h=>by cases h.1) ?_;intro ya J;refine Z3 ?_;refine J.out _ ?_;clear J ya;refine Ah (i:=16) Ad5 ?_;refine Ao ?_;intro ya J;refine Z3 ?_;refine J.out _ _ ⟨Bz rfl,?_⟩;clear J ya;refine Ah (i:=17) Ad5 ?_;refine Ao ?_;intro ya J;refine Z3 ?_;refine J.out _ _ ⟨Bz rfl,?_⟩;clear J ya;exact B7 Ad5 ⟨rfl,Ad4,rfl⟩
   ·rintro e s'' l'' ⟨rfl,g48,rfl⟩
    first|refine Br g48 ?_|(refine Ij ?_;refine Br g48 ?_)
    repeat' (first|refine Z1 ?_|(refine Z8 ?_;intro ya J)|(refine Z4 ?_;clear J ya)|(refine Z2 ?_ ?_<;>intro h ae<;>try exact Xp)|(refine Z6 ?_;intro idn ln ak am ad ab ac aa)|refine Z3 ?_|exact Zt|(apply J.out;clear J ya))
    first|exact⟨_,rfl,HQ.out⟩|exact HQ.out
  |false=>
   by_cases b5:mo<(O.length:Int)
   ·have dq:decide ((O.length:Int)>mo)=true:=by simpa using b5
    have dp:decide (mo<(O.length:Int))=true:=by simpa using b5
    have HQ:Ad8 (Qj fz A cA ida mo c0 p x ow ido O B N l l2):=
     ⟨ido,O,oc,B,N,a8,KW.ofKeep cd,Pg bu au hS (fun h=>Ad2),Ad2⟩
    clear bq hW hS a8
    repeat' (first|refine Z1 ?_|(refine Z8 ?_;intro ya J)|(refine Z4 ?_;clear J ya)|(refine Z2 ?_ ?_<;>intro h ae<;>try exact Xp)|(refine Z6 ?_;intro idn ln ak am ad ab ac aa)|refine Z3 ?_|exact Zt|(apply J.out;clear J ya))
    refine A6 (Q:=fun e s'' l''=>e= .normal/\s'' 48=sc (.bool true)/\l''=l2) ?_ ?_
    ·refine As Ad (fun _=>True) [16,17] [0,1,2,3,4,5,6,7,8,9,10,11,12,13,14,15] 2 #[true,true,true,true,true,true,true,true,true,true,true,true,true,true,true,true,false,false] Ad5 (fun _ _ _ h=>by cases h.1) ?_;intro ya J;refine Z3 ?_;refine J.out _ ?_;clear J ya;refine Ah (i:=16) Ad5 ?_;refine Ao ?_;intro ya J;refine Z3 ?_;refine J.out _ _ ⟨Bz rfl,?_⟩;clear J ya;refine Ah (i:=17) Ad5 ?_;refine Ao ?_;intro ya J;refine Z3 ?_;refine J.out _ _ ⟨Bz rfl,?_⟩;clear J ya;exact B7 Ad5 ⟨rfl,Ad4,rfl⟩
    ·rintro e s'' l'' ⟨rfl,g48,rfl⟩
     first|refine Br g48 ?_|(refine Ij ?_;refine Br g48 ?_)
     repeat' (first|refine Z1 ?_|(refine Z8 ?_;intro ya J)|(refine Z4 ?_;clear J ya)|(refine Z2 ?_ ?_<;>intro h ae<;>try exact Xp)|(refine Z6 ?_;intro idn ln ak am ad ab ac aa)|refine Z3 ?_|exact Zt|(apply J.out;clear J ya))
     first|exact⟨_,rfl,HQ.out⟩|exact HQ.out
   ·have dq:decide ((O.length:Int)>mo)=false:=by simpa using b5
    have dp:decide (mo<(O.length:Int))=false:=by simpa using b5
    have c9:=fun l h=>jM x _ b7 hH.cl et ow ida A.length cA fz mo ido O oc B N Ad2 l h
    repeat' (first|refine Z1 ?_|(refine Z8 ?_;intro ya J)|(refine Z4 ?_;clear J ya)|(refine Z2 ?_ ?_<;>intro h ae<;>try exact Xp)|(refine Z6 ?_;intro idn ln ak am ad ab ac aa)|refine Z3 ?_|exact Zt|(apply J.out;clear J ya))
    refine A6 (Q:=fun e s'' l''=>e= .normal/\s'' 0=ptr ow 0/\s'' 3=ptr l.nobj 0/\((Oo B (Ed x)/\s'' 48=sc (.bool true)/\Keep l2 l'')\/(¬Oo B (Ed x)/\s'' 48=sc (.bool false)/\∃id' y,B[Hu (Ed x)]?=some y/\WOb l'' ow ida A.length cA fz mo ido O oc (B.set (Hu (Ed x)) (id',y.2++[Ed x])) (N+1)/\KW ow (C1 ido O.length B) (C1 ido O.length (B.set (Hu (Ed x)) (id',y.2++[Ed x]))) l2 l''))) ?_ ?_
    ·refine As Ad (fun _=>True) [16,17] [0,1,2,3,4,5,6,7,8,9,10,11,12,13,14,15] 2 #[true,true,true,true,true,true,true,true,true,true,true,true,true,true,true,true,false,false] Ad5 (fun _ _ _ h=>by cases h.1) ?_;intro ya J;refine Z3 ?_;refine J.out _ ?_;clear J ya;refine Ah (i:=16) Ad5 ?_;refine Ao ?_;intro ya J;refine Z3 ?_;refine ACalls.mono (c9 _ a8) ?_;rintro r l3 (⟨h1,rfl,ao⟩|⟨h1,rfl,h3⟩)
     ·refine Z3 ?_;refine J.out _ _ ⟨Bz rfl,?_⟩;clear J ya;refine Ah (i:=17) Ad5 ?_;refine Ao ?_;intro ya J;refine Z3 ?_;refine J.out _ _ ⟨Bz rfl,?_⟩;clear J ya;exact B7 Ad5 ⟨rfl,Ad3,Ad3,.inl ⟨h1,Ad4,ao⟩⟩
     ·refine Z3 ?_;refine J.out _ _ ⟨Bz rfl,?_⟩;clear J ya;refine Ah (i:=17) Ad5 ?_;refine Ao ?_;intro ya J;refine Z3 ?_;refine J.out _ _ ⟨Bz rfl,?_⟩;clear J ya;exact B7 Ad5 ⟨rfl,Ad3,Ad3,.inr ⟨h1,Ad4,h3⟩⟩
    ·rintro e s'' l3 ⟨rfl,f0,f3,b8⟩;rcases b8 with⟨cs,g48,ao⟩|⟨cs,g48,id',y,hy,bw,ay⟩
     ·have HQ:Ad8 (Qj fz A cA ida mo c0 p x ow ido O B N l l3):=
       ⟨ido,O,oc,B,N,a8.keep ao,KW.ofKeep (cd.trans ao),Pg bu au hS (hS x hH.cl (Aak _) cs),Ad2⟩
      clear bq hW hS a8 c9
      first|refine Br g48 ?_|(refine Ij ?_;refine Br g48 ?_)
      repeat' (first|refine Z1 ?_|(refine Z8 ?_;intro ya J)|(refine Z4 ?_;clear J ya)|(refine Z2 ?_ ?_<;>intro h ae<;>try exact Xp)|(refine Z6 ?_;intro idn ln ak am ad ab ac aa)|refine Z3 ?_|exact Zt|(apply J.out;clear J ya))
      first|exact⟨_,rfl,HQ.out⟩|exact HQ.out
     ·have bm:=fun s=>wQ (s:=s) (id':=id') hy;generalize e7:B.set (Hu (Ed x)) (id',y.2++[Ed x])=Bq at bw ay bm;have db:Ad8 (Oo Bq=fun s=>Oo B s\/s=Ed x):=funext fun s=>propext (bm s);have bb:l3.obj l.nobj=[sc (.bool x.out),sc (.bool x.head.nt),str x.head.pred,sl ih x.head.terms.length (x.head.terms.map str),sl id x.body.length b]:=by rw[ay.obj _ Ad2 Ad2,a4]
      have bz:=ay.nobj;have ce:=(KW.ofKeep cd).trans ay;have a6:=bw.ob;have dm:(Ck ida A.length cA fz mo ido O.length oc Bq)[0]?=some (sl ida A.length cA):=rfl;have di:(Ck ida A.length cA fz mo ido O.length oc Bq).head?=some (sl ida A.length cA):=rfl;have dl:(Ck ida A.length cA fz mo ido O.length oc Bq)[1]?=some (sc (.bool fz)):=rfl;have dk:(Ck ida A.length cA fz mo ido O.length oc Bq)[3]?=some (sl ido O.length oc):=rfl;have dh:=Ho (ida:=ida) (nA:=A.length) (cA:=cA) (fz:=fz) (mo:=mo) (ido:=ido) (nO:=O.length) (oc:=oc) bw.bl;clear bm e7 hy c9 cs bf a4 eq em ep eo en ec dn ch hW a8 dq dp g4 g0 g3 aj;generalize bd:Ck ida A.length cA fz mo ido O.length oc Bq=wc1 at a6 dm di dl dk dh;have ch:Ad8 _:=bd;clear bd;have dy:=fun l=>gJ x _ fz b7 av l
      first|refine Ci g48 ?_|(refine Ij ?_;refine Ci g48 ?_)
      repeat' (first|refine Z1 ?_|(refine Z8 ?_;intro ya J)|(refine Z4 ?_;clear J ya)|(refine Z2 ?_ ?_<;>intro h ae<;>try exact Xp)|(refine Z6 ?_;intro idn ln ak am ad ab ac aa)|refine Z3 ?_|exact Zt|(apply J.out;clear J ya))
      refine A6 (Q:=fun e s3 l''=>e= .normal/\∃n,tG fz x n/\s3 5=sc (.int .i64 n)/\s3 0=ptr ow 0/\s3 3=ptr l.nobj 0/\Keep l3 l'') ?_ ?_
      ·refine As Ad (fun _=>True) [] [0,1,2,3,4] 2 #[true,true,true,true,true,false,false] Ad5 (fun _ _ _ h=>by cases h.1) ?_;intro ya J;refine Z3 ?_;refine J.out _ ?_;clear J ya;refine Ah (i:=5) Ad5 ?_;refine Ao ?_;intro ya J;refine Z3 ?_;refine ACalls.mono (dy _) ?_;rintro _ l4 ⟨n,rfl,c5,an⟩;refine Z3 ?_;refine J.out _ _ ⟨Ap an,?_⟩;clear J ya;refine Ah (i:=6) Ad5 ?_;refine Ao ?_;intro ya J;refine Z3 ?_;refine J.out _ _ ⟨Ap an,?_⟩;clear J ya;exact B7 Ad5 ⟨rfl,n,c5,Ad4,Ad3,Ad3,an⟩
      ·rintro e s3 l4 ⟨rfl,n,c5,g5,e0,e3,an⟩;have cc:=bw.keep an;have be:l4.obj ow=wc1:=by rw[an.obj _ bw.lo,a6]
       have cm:=an.nobj;have a3:l4.obj l.nobj=[sc (.bool x.out),sc (.bool x.head.nt),str x.head.pred,sl ih x.head.terms.length (x.head.terms.map str),sl id x.body.length b]:=by rw[an.obj _ Ad2,bb]
       have ah:=ce.trans (KW.ofKeep an);clear dy a6 bb ay ce f0 f3 g48;rcases c5 with⟨rfl,af⟩|⟨j,b0,rfl,bv,br⟩
       ·have cv:decide ((-1:Int)<0)=true:=by decide
        have d1:=fun l=>eL x _ A cA ida b7 av hA.el d2 (fun a ha=>(hA.cl a ha).2.2) l
        repeat' (first|refine Z1 ?_|(refine Z8 ?_;intro ya J)|(refine Z4 ?_;clear J ya)|(refine Z2 ?_ ?_<;>intro h ae<;>try exact Xp)|(refine Z6 ?_;intro idn ln ak am ad ab ac aa)|refine Z3 ?_|exact Zt|(apply J.out;clear J ya))
        refine A6 (Q:=fun e s4 l''=>e= .normal/\∃q,s4 69=sc (.bool q)/\(q=true↔∀a∈x.body,U6 a∉A)/\s4 0=ptr ow 0/\s4 3=ptr l.nobj 0/\Keep l4 l'') ?_ ?_
        ·cases fz with
         |true=>
          have HB:Ad8 (∀a∈x.body,U6 a∉A):=fun a ha=>by have:=af a ha;simp[He]at this
          refine As Ad (fun _=>True) [] [0,1,2,3,4,5,6,7,8,9] 3 #[true,true,true,true,true,true,true,true,true,true,false,false,false] Ad5 (fun _ _ _ h=>by cases h.1) ?_;intro ya J;refine Z3 ?_;refine J.out _ ?_;clear J ya;refine Ah (i:=10) Ad5 ?_;refine Ao ?_;intro ya J;refine Z3 ?_;refine J.out _ _ ⟨kept_refl,?_⟩;clear J ya;refine Bs [11,12] Ad5 Ad5 (fun _ _ _ h=>by cases h.1) (Aak _) (fun o ho _=>rfl) ?_;intro ya J;refine Z3 ?_;refine J.out _ _ ⟨rfl,true,Ad3,⟨fun _=>HB.out,fun _=>rfl⟩,Ad3,Ad3,Keep.refl _⟩
         |false=>
          have hnt:∀a∈x.body,a.nt=true:=fun a ha=>by have:=af a ha;simpa[He]using this
          refine As Ad (fun _=>True) [] [0,1,2,3,4,5,6,7,8,9] 3 #[true,true,true,true,true,true,true,true,true,true,false,false,false] Ad5 (fun _ _ _ h=>by cases h.1) ?_;intro ya J;refine Z3 ?_;refine J.out _ ?_;clear J ya;refine Ah (i:=10) Ad5 ?_;refine Ao ?_;intro ya J;refine Z3 ?_;refine ACalls.mono (d1 _) ?_;rintro _ l5 ⟨bo,rfl,dr,a0⟩;refine Z3 ?_;refine J.out _ _ ⟨Ap a0,?_⟩;clear J ya;have d5:Ad8 _:=dr;clear dr;refine Bs [11,12] Ad5 Ad5 (fun _ _ _ h=>by cases h.1) a0.nobj (fun o ho _=>a0.ver o ho) ?_;intro ya J;refine Z3 ?_;refine J.out _ _ ⟨rfl,!bo,Ad3,?_,Ad3,Ad3,a0⟩;cases bo with
          |true=>
           obtain⟨a,ha,-,hm⟩:=d5.out.1 rfl;exact⟨fun h=>(by cases h),fun h=>absurd hm (h a ha)⟩
          |false=>exact⟨fun _ a ha hm=>(by have:=d5.out.2 ⟨a,ha,hnt a ha,hm⟩;cases this),fun _=>rfl⟩
        ·rintro e s4 l5 ⟨rfl,q,g69,hq,e0,e3,a0⟩;have ap:=cc.keep a0;have a5:l5.obj ow=wc1:=by rw[a0.obj _ cc.lo,be]
         have ck:=a0.nobj;have ba:l5.obj l.nobj=[sc (.bool x.out),sc (.bool x.head.nt),str x.head.pred,sl ih x.head.terms.length (x.head.terms.map str),sl id x.body.length b]:=by rw[a0.obj _ Ad2,a3]
         have ax:=ah.trans (KW.ofKeep a0);have bh:x.head∉A/\x.head∉O:=by
          have hg:=(cD hH.saf af).1;exact⟨fun h=>(by have:=bq.out.2 ⟨hg,.inr h⟩;cases this),fun h=>(by have:=bq.out.2 ⟨hg,.inl h⟩;cases this)⟩
         have aw:∀k:Nat,(q=true/\k=1\/q=false/\k=0)->N+1+O.length<=N+(O.length+k)+Ec c0 A.length p:=by
          intro k hk;rcases hk with⟨-,rfl⟩|⟨dj,rfl⟩
          ·omega
          ·have br:p=0:=by
            rw[<-hH.cnt,List.countP_eq_zero];intro a ha;rw[af a ha];simp
           rcases hH.neg with h'|h'
           ·rw[br,Ec,h'];omega
           ·exfalso;have:q=true:=hq.2 fun a ha=>by have h1:=h' a ha;rw[af a ha]at h1;cases h1
            rw[this]at dj;cases dj
         clear d1 cv an a0 cc be a3 ah;cases q with
         |false=>
          have HQ:Ad8 (Qj fz A cA ida mo c0 p x ow ido O B N l l5):=
           ⟨ido,O,oc,Bq,N+1,ap,ax,by rw[db.out];exact W0 hH.cl bu Ad2 hS hH.saf af bh (.inr ⟨fun h=>(by have:=hq.2 h;cases this),rfl⟩),by have:=aw 0 (.inr ⟨rfl,rfl⟩);omega⟩
          first|refine Ci g69 ?_|(refine Ij ?_;refine Ci g69 ?_)
          repeat' (first|refine Z1 ?_|(refine Z8 ?_;intro ya J)|(refine Z4 ?_;clear J ya)|(refine Z2 ?_ ?_<;>intro h ae<;>try exact Xp)|(refine Z6 ?_;intro idn ln ak am ad ab ac aa)|refine Z3 ?_|exact Zt|(apply J.out;clear J ya))
          first|exact⟨_,rfl,HQ.out⟩|exact HQ.out
         |true=>
          have HI:Ad8 (Uk fz A mo x O (Oo B) (O++[x.head]) (Oo Bq)):=by
           rw[Ad8,db.out];exact W0 hH.cl bu Ad2 hS hH.saf af bh (.inl ⟨hq.1 rfl,rfl⟩)
          have ff:=aw 1 (.inl ⟨rfl,rfl⟩);have ey:Live l5 ido O.length:=ap.rw'.1 (ido,O.length) (by simp[C1]);have cp:=EL.length Ba ap.oe;clear aw hq bh
          first|refine Br g69 ?_|(refine Ij ?_;refine Br g69 ?_)
          repeat' (first|refine Z1 ?_|(refine Z8 ?_;intro ya J)|(refine Z4 ?_;clear J ya)|(refine Z2 ?_ ?_<;>intro h ae<;>try exact Xp)|(refine Z6 ?_;intro idn ln ak am ad ab ac aa)|refine Z3 ?_|exact Zt|(apply J.out;clear J ya))
          refine A6 (Q:=fun e s5 l''=>e= .normal/\Qj fz A cA ida mo c0 p x ow ido O B N l l'') ?_ ?_
          ·refine As Ad (fun _=>True) [11] [0,1,2,3,4,5,6] 5 #[true,true,true,true,true,true,true,false,false,false,false,false] Ad5 (fun _ _ _ h=>by cases h.1) ?_;intro ya J;refine Z3 ?_;refine J.out _ ?_;clear J ya;refine Ah (i:=7) Ad5 ?_;refine Ao ?_;intro ya J;refine Z3 ?_;refine J.out _ _ ⟨Ap ((Keep.refl _).lay 1),?_⟩;clear J ya;refine Ah (i:=8) Ad5 ?_;refine Ao ?_;intro ya J;refine Z3 ?_;refine Pv (by first|exact G8) ey (by decide) (by rfl) cp (by rfl) (by rfl) (by decide) Ad2 Ad2 ?_;intro idn ln ez ct cu ad ab ac aa etop;refine Z3 ?_;refine J.out _ _ ⟨fun _ o ho _=>by rw[ac],?_⟩;clear J ya;have eow:ln.obj ow=wc1:=by rw[ad,a5]
           refine Ah (i:=9) Ad5 ?_;refine Ao ?_;intro ya J;refine Z3 ?_;refine J.out _ _ ⟨fun _ o ho _=>by rw[ac],?_⟩;clear J ya;refine Ah (i:=10) Ad5 ?_;refine Ao ?_;intro ya J;refine Z3 ?_;refine J.out _ _ ⟨fun _ o ho _=>by rw[ac],?_⟩;clear J ya;refine Ah (i:=11) Ad5 ?_;refine Ao ?_;intro ya J;refine Z3 ?_;refine J.out _ _ ⟨Bz rfl,?_⟩;clear J ya;refine B7 Ad5 ⟨rfl,?_⟩
           have cb:=WOb.addO (l':=ln.put ow (wc1.set 3 (sl idn (O.length+1) (oc++[sc (.bool x.head.nt),str x.head.pred,sl ih x.head.terms.length (x.head.terms.map str)])))) (id':=idn) ap (a:=x.head) ⟨ih,rfl⟩ ez ct cu (fun o ho bi=>by
            rw[show∀(S:St) c,(S.put ow c).obj o=S.obj o from fun S c=>by simp[St.put,bi],ad]) (fun o ho bi=>by
            rw[show∀(S:St) c,(S.put ow c).ver o=S.ver o from fun S c=>by simp[St.put,bi],ac]) (by simp only[Ac];omega) (by simp only[Kr];omega) (fun j hj bi=>by rw[Lh];exact etop j hj bi) (by rw[Ak,ch.out])
           exact⟨idn,O++[x.head],_,Bq,N+1,cb.1,ax.trans cb.2,HI.out,by simp only[Abj,Abv,Abu];omega⟩
          ·rintro e s5 l6 ⟨rfl,HQ⟩;have HQ:Ad8 _:=HQ
           repeat' (first|refine Z1 ?_|(refine Z8 ?_;intro ya J)|(refine Z4 ?_;clear J ya)|(refine Z2 ?_ ?_<;>intro h ae<;>try exact Xp)|(refine Z6 ?_;intro idn ln ak am ad ab ac aa)|refine Z3 ?_|exact Zt|(apply J.out;clear J ya))
           first|exact⟨_,rfl,HQ.out⟩|exact HQ.out|exact⟨_,rfl⟩
       ·have cv:decide ((j:Int)<0)=false:=by simp
        have ee:0<p:=by
         rw[<-hH.cnt,Adj];exact⟨b0,Aax bv,br⟩
        obtain⟨q,rfl⟩:∃q,p=q+1:=⟨p-1,Ad2⟩;have e5:=IH q rfl;have cz:0<x.body.length:=by have:=(Aau.1 bv).1;omega
        have cw:Ec c0 A.length (q+1)=1+A.length*Ec c0 A.length q:=rfl;have d3:Ad8 (K9 fz A mo x j O (Oo B) 0 O (Oo Bq)):=by rw[Ad8,db.out];exact iD hH.cl cz bu au hS
        have e8:=EL.length Ba hA.el
        repeat' (first|refine Z1 ?_|(refine Z8 ?_;intro ya J)|(refine Z4 ?_;clear J ya)|(refine Z2 ?_ ?_<;>intro h ae<;>try exact Xp)|(refine Z6 ?_;intro idn ln ak am ad ab ac aa)|refine Z3 ?_|exact Zt|(apply J.out;clear J ya))
        refine Ab (fun m s l'=>∃(k ido' N':Nat) (O':List RAtom) (oc':List AV) (B':BK),m=A.length-k/\k<=A.length/\s 0=ptr ow 0/\s 3=ptr l.nobj 0/\s 5=sc (.int .i64 j)/\s 6=sc (.int .i64 k)/\WOb l' ow ida A.length cA fz mo ido' O' oc' B' N'/\KW ow (C1 ido O.length B) (C1 ido' O'.length B') l l'/\l.nobj<l'.nobj/\l'.obj l.nobj=[sc (.bool x.out),sc (.bool x.head.nt),str x.head.pred,sl ih x.head.terms.length (x.head.terms.map str),sl id x.body.length b]/\N'+O.length<=N+1+O'.length+k*Ec c0 A.length q/\(O'.length:Int)<=mo+1/\Ad8 (K9 fz A mo x j O (Oo B) k O' (Oo B')/\∀a∈O',clA a)) A.length
         ⟨0,ido,N+1,O,oc,Bq,Ad2,Ad2,Ad3,Ad3,Ad3,Ad4,cc,ah,Ad2,a3,Ad2,au,d3.out,dx⟩ ?_
        clear cv an cc be a3 ah bw dm di dl dk dh ch d3 bq b5 g5 e0 e3 cm bz;rintro m s l5 ⟨k,ido',N',O',oc',B',rfl,hk,h0,h3,h5,h6,ap,ah,cq,ba,er,ew,bn⟩;have a5:=ap.ob;have ei:=ap.lo;have df:(Ck ida A.length cA fz mo ido' O'.length oc' B')[0]?=some (sl ida A.length cA):=rfl;have de:(Ck ida A.length cA fz mo ido' O'.length oc' B').head?=some (sl ida A.length cA):=rfl;have dd:=Ho (ida:=ida) (nA:=A.length) (cA:=cA) (fz:=fz) (mo:=mo) (ido:=ido') (nO:=O'.length) (oc:=oc') ap.bl;generalize bd:Ck ida A.length cA fz mo ido' O'.length oc' B'=wc2 at a5 df de dd;clear bd;have ck:=ah.nobj;by_cases cr:k<A.length
        ·have a7:=Aav cr;have cf:=Ab1 cr;obtain⟨it,r,hd⟩:=B8 hA.el a7;generalize A[k]=t at a7 cf hd;have ed:=(hA.cl t cf).2.2;have c8:=fun l=>Yo x _ j t _ b0 b7 ⟨it,rfl⟩ av bv ed l;have HG:Ad8 (A[k]?=some t):=a7;clear a7
         repeat' (first|refine Z1 ?_|(refine Z8 ?_;intro ya J)|(refine Z4 ?_;clear J ya)|(refine Z2 ?_ ?_<;>intro h ae<;>try exact Xp)|(refine Z6 ?_;intro idn ln ak am ad ab ac aa)|refine Z3 ?_|exact Zt|(apply J.out;clear J ya))
         refine A6 (Q:=fun e s' l''=>e= .normal/\s' 0=ptr ow 0/\s' 3=ptr l.nobj 0/\s' 5=sc (.int .i64 j)/\s' 6=sc (.int .i64 k)/\Keep l5 l''/\∃y iy jy cy ok o7,s' 7=ptr o7 0/\s' 8=sc (.bool ok)/\EL Be y.body cy/\tQ x j t y ok/\l5.nobj<=o7/\o7<l''.nobj/\l''.obj o7=[sc (.bool y.out),sc (.bool y.head.nt),str y.head.pred,sl iy y.head.terms.length (y.head.terms.map str),sl jy y.body.length cy]) ?_ ?_
         ·refine As Ad (fun _=>True) [] [0,1,2,3,4,5,6,7,8] 7 #[true,true,true,true,true,true,true,true,true,false,false,false,false,false,false,false] Ad5 (fun _ _ _ h=>by cases h.1) ?_;intro ya J;refine Z3 ?_;refine J.out _ ?_;clear J ya;refine Nf (rs:=[9,13]) Ad5 (by simp) ?_;intro i hi;simp only[Acd,Acu,Ad1]at hi;rcases hi with rfl|rfl
          ·refine Ao ?_;intro ya J;refine Z3 ?_;refine ACalls.mono (c8 _) ?_;rintro _ l6 ⟨y,cy0,ok,rfl,b6,b9,ai⟩;obtain⟨iy,jy,cy,bk,rfl⟩:=b6.cells;unfold Bo;refine Z3 ?_;refine J.out _ _ ⟨Ap ai,?_⟩;clear J ya;have a9:=ai.nobj;refine Hh (i:=10) _ (tp [ag [sc (.bool y.out),sc (.bool y.head.nt),str y.head.pred,sl iy y.head.terms.length (y.head.terms.map str),sl jy y.body.length cy],sc (.bool ok)]) rfl rfl rfl rfl rfl Ad5 Ad5 (fun _ _ _ h=>by cases h.1) (fun o ho _=>ai.ver o ho) ?_;refine Hh (i:=11) _ (ag [sc (.bool y.out),sc (.bool y.head.nt),str y.head.pred,sl iy y.head.terms.length (y.head.terms.map str),sl jy y.body.length cy]) rfl rfl rfl rfl rfl Ad5 Ad5 (fun _ _ _ h=>by cases h.1) (fun o ho _=>ai.ver o ho) ?_;refine Hh (i:=12) _ (sc (.bool ok)) rfl rfl rfl rfl rfl Ad5 Ad5 (fun _ _ _ h=>by cases h.1) (fun o ho _=>ai.ver o ho) ?_;refine Ah (i:=13) Ad5 ?_;refine Ao ?_;intro ya J;refine Z3 ?_;refine J.out _ _ ⟨Ap (ai.new _),?_⟩;clear J ya;refine Ah (i:=14) Ad5 ?_;refine Ao ?_;intro ya J;refine Z3 ?_;refine J.out _ _ ⟨Ap ((ai.new _).put Ad2 _),?_⟩;clear J ya;refine Ah (i:=15) Ad5 ?_;refine Ao ?_;intro ya J;refine Z3 ?_;refine J.out _ _ ⟨Ap ((ai.new _).put Ad2 _),?_⟩;clear J ya;refine B7 Ad5 ⟨rfl,Ad3,Ad3,Ad3,Ad3,(ai.new _).put Ad2 _,y,iy,jy,cy,ok,l6.nobj,Ad4,Ad4,bk,b9,Ad2,Ad7,Ak⟩
          ·refine Ao ?_;intro ya J;refine Z3 ?_;refine J.out _ _ ⟨Ap ((Keep.refl _).new _),?_⟩;clear J ya;refine Ah (i:=9) Ad5 ?_;refine Ao ?_;intro ya J;refine Z3 ?_;refine ACalls.mono (c8 _) ?_;rintro _ l6 ⟨y,cy0,ok,rfl,b6,b9,ai⟩;obtain⟨iy,jy,cy,bk,rfl⟩:=b6.cells;unfold Bo;have az:Keep l5 l6:=((Keep.refl l5).new _).trans ai;have a9:=ai.nobj;have cj:=ai.obj l5.nobj Ad6;rw[Am]at cj;simp only[Aa]at a9;refine Z3 ?_;refine J.out _ _ ⟨Ap az,?_⟩;clear J ya;refine Hh (i:=10) _ (tp [ag [sc (.bool y.out),sc (.bool y.head.nt),str y.head.pred,sl iy y.head.terms.length (y.head.terms.map str),sl jy y.body.length cy],sc (.bool ok)]) rfl rfl rfl rfl rfl Ad5 Ad5 (fun _ _ _ h=>by cases h.1) (fun o ho _=>az.ver o ho) ?_;refine Hh (i:=11) _ (ag [sc (.bool y.out),sc (.bool y.head.nt),str y.head.pred,sl iy y.head.terms.length (y.head.terms.map str),sl jy y.body.length cy]) rfl rfl rfl rfl rfl Ad5 Ad5 (fun _ _ _ h=>by cases h.1) (fun o ho _=>az.ver o ho) ?_;refine Hh (i:=12) _ (sc (.bool ok)) rfl rfl rfl rfl rfl Ad5 Ad5 (fun _ _ _ h=>by cases h.1) (fun o ho _=>az.ver o ho) ?_;refine Ah (i:=14) Ad5 ?_;refine Ao ?_;intro ya J;refine Z3 ?_;refine J.out _ _ ⟨Ap (az.put (Aak _) _),?_⟩;clear J ya;refine Ah (i:=15) Ad5 ?_;refine Ao ?_;intro ya J;refine Z3 ?_;refine J.out _ _ ⟨Ap (az.put (Aak _) _),?_⟩;clear J ya;refine B7 Ad5 ⟨rfl,Ad3,Ad3,Ad3,Ad3,az.put (Aak _) _,y,iy,jy,cy,ok,l5.nobj,Ad4,Ad4,bk,b9,Ad2,by simp only[Ac];omega,Ak⟩
         ·rintro e s' l6 ⟨rfl,h0,h3,h5,h6,ai,y,iy,jy,cy,ok,o7,h7,h8,b6,b9,fc,fe,eg⟩;have a9:=ai.nobj;have dw:=ap.keep ai;have ax:=ah.trans (KW.ofKeep ai);have co:l6.obj l.nobj=[sc (.bool x.out),sc (.bool x.head.nt),str x.head.pred,sl ih x.head.terms.length (x.head.terms.map str),sl id x.body.length b]:=by rw[ai.obj _ cq,ba]
          obtain⟨d9,ef⟩:=b9;clear c8 a5 ba ap ah df de dd hd ai;rcases ef with⟨rfl,ca⟩|⟨rfl,ca⟩
          ·obtain⟨d0,b3⟩:=hH.step bv br (hA.gnd t cf) (hA.cl t cf) ca;have ea:EItem y [sc (.bool y.out),sc (.bool y.head.nt),str y.head.pred,sl iy y.head.terms.length (y.head.terms.map str),sl jy y.body.length cy]:=⟨[sc (.bool y.head.nt),str y.head.pred,sl iy y.head.terms.length (y.head.terms.map str)],jy,cy,⟨iy,rfl⟩,b6,rfl⟩;have eu:=fun l=>Up y _ j ea d9.1 l;have da:Ad8 (K9 fz A mo x j O (Oo B) k O' (Oo B')):=bn.out.1;have d4:Ad8 (∀a∈O',clA a):=bn.out.2;have eh:k*Ec c0 A.length q+Ec c0 A.length q<=A.length*Ec c0 A.length q:=by
            rw[<-Aa9];exact Aar _ cr
           have e4:∀c',EItem (fK y j) c'->∀l,WOb l ow ida A.length cA fz mo ido' O' oc' B' N'->ACalls Tryz.prog 225 [ptr ow 0,ag c'] l fun r l'=>Qj fz A cA ida mo c0 q (fK y j) ow ido' O' B' N' l l':=fun c' cx l hW=>e5 (fK y j) c' cx d0 ow ido' O' oc' B' N' l hW Ad2 da.out.nd ew d4.out (by rw[b3];exact da.out.seen);clear bn
           repeat' (first|refine Z1 ?_|(refine Z8 ?_;intro ya J)|(refine Z4 ?_;clear J ya)|(refine Z2 ?_ ?_<;>intro h ae<;>try exact Xp)|(refine Z6 ?_;intro idn ln ak am ad ab ac aa)|(refine Z5 ?_;first|(refine Xi (eu _) ?_;rintro _ _ ⟨c',rfl,cx,az⟩;(have d7:=az.nobj;have e6:=e4 c' cx))|(refine Xi (e6 _ (dw.keep (Xs))) ?_;rintro _ _ ⟨ido2,O2,oc2,B2q,N2,ev,bp,c7,fg⟩))|refine Z3 ?_|exact Zt|(apply J.out;clear J ya))
           rename_i l8 l9;have c6:=(ax.trans (KW.ofKeep az)).trans bp;have bi:l.nobj≠ow:=Ad2;have eb:l9.obj l.nobj=[sc (.bool x.out),sc (.bool x.head.nt),str x.head.pred,sl ih x.head.terms.length (x.head.terms.map str),sl id x.body.length b]:=by rw[bp.obj _ Ad2 bi,az.obj _ Ad2,co]
           have d6:=bp.nobj;have HN:Ad8 (K9 fz A mo x j O (Oo B) (k+1) O2 (Oo B2q)/\∀a∈O2,clA a):=⟨nY hA.gnd hH.cl.1 bv br da.out HG.out ca c7 b3,vU hA d0 d4.out c7⟩;have bj:N2+O.length<=N+1+O2.length+(k+1)*Ec c0 A.length q:=by rw[Aa9];omega
           have fh:=c7.len;refine⟨A.length-(k+1),Ad2,k+1,ido2,N2,O2,oc2,B2q,?_⟩
           ((repeat' refine Zi ?_ ?_)<;>first|exact Xq|exact HN|exact ev|exact c6|exact bj|exact Xs)
          ·have HN:Ad8 (K9 fz A mo x j O (Oo B) (k+1) O' (Oo B')/\∀a∈O',clA a):=⟨nZ bn.out.1 HG.out ca,bn.out.2⟩;have bj:N'+O.length<=N+1+O'.length+(k+1)*Ec c0 A.length q:=by rw[Aa9];omega
           clear ca
           repeat' (first|refine Z1 ?_|(refine Z8 ?_;intro ya J)|(refine Z4 ?_;clear J ya)|(refine Z2 ?_ ?_<;>intro h ae<;>try exact Xp)|(refine Z6 ?_;intro idn ln ak am ad ab ac aa)|refine Z3 ?_|exact Zt|(apply J.out;clear J ya))
           refine⟨A.length-(k+1),Ad2,k+1,ido',N',O',oc',B',?_⟩
           ((repeat' refine Zi ?_ ?_)<;>first|exact Xq|exact HN|exact dw|exact ax|exact bj|exact Xs)
        ·have ek:k=A.length:=Ad2;subst ek
         have HQ:Ad8 (Qj fz A cA ida mo c0 (q+1) x ow ido O B N l l5):=
          ⟨ido',O',oc',B',N',ap,ah,rQ hA.gnd hH.cl bv br hS bn.out.1,by rw[cw];omega⟩
         clear bn ap ah
         repeat' (first|refine Z1 ?_|(refine Z8 ?_;intro ya J)|(refine Z4 ?_;clear J ya)|(refine Z2 ?_ ?_<;>intro h ae<;>try exact Xp)|(refine Z6 ?_;intro idn ln ak am ad ab ac aa)|refine Z3 ?_|exact Zt|(apply J.out;clear J ya))
         first|exact⟨_,rfl,HQ.out⟩|exact HQ.out|exact⟨_,rfl⟩
structure KH (io:Nat)(l l':St):Prop where
 nobj:l.nobj<=l'.nobj
 obj:∀o,o<l.nobj->l'.obj o=l.obj o
 ver:∀o,o<l.nobj->l'.ver o=l.ver o
 ntop:l.ntop<=l'.ntop
 top:∀k,k<l.ntop->k+2≠io->l'.top k=l.top k
structure Zm (fz:Bool)(A:List RAtom)(mo:Int)(x:RItem)(O O':List RAtom):Prop where
 ext:∃nw,O'=O++nw/\∀h∈nw,Pw fz A x h/\h∉A
 nd:O'.Nodup
 len:(O'.length:Int)<=mo+1
 done:(O'.length:Int)<=mo->DoneX fz A O' x
def B0k:BK:=List.replicate 4096 (1,[])
theorem tR (s:Tx):¬Oo B0k s:=by
 rintro⟨x,hx,hm⟩;have:x=(1,[]):=by
  have:=Aax hx;exact (Adm.1 this).2
 subst this;simp at hm
theorem oF (fz:Bool)(A:List RAtom)(cA:List AV)(ida:Nat)(mo:Int)(c0:Nat)(hA:D5 A cA)(ab:0<=mo)(aa:mo<=900):∀p,tI fz A cA ida mo c0 p:=by
 intro p;induction p with
 |zero=>exact Wz fz A cA ida mo c0 hA ab aa 0 (fun q h=>Ad2)
 |succ p ih=>exact Wz fz A cA ida mo c0 hA ab aa (p+1) (fun q h=>by have:p=q:=Ad2;subst this;exact ih)
theorem WOb.outs {l:St}{ow ida nA:Nat}{cA:List AV}{fz:Bool}{mo:Int}{ido:Nat}{O:List RAtom}{oc:List AV}{B:BK}{N:Nat}(h:WOb l ow ida nA cA fz mo ido O oc B N):∃wc:List AV,l.obj ow=wc/\wc[3]?=some (sl ido O.length oc)/\wc.length=4100:=⟨_,h.ob,rfl,Ho h.bl⟩
theorem mI {ida nA:Nat}{cA:List AV}{fz:Bool}{mo:Int}{ido nO:Nat}{oc:List AV}:(((((wkZ.map cst1).set 0 (sl ida nA cA)).set 1 (sc (.bool fz))).set 3 (sl ido nO oc)).set 2 (sc (.int .i64 mo)))=Ck ida nA cA fz mo ido nO oc B0k:=by
 have e:wkZ.map cst1=nilS::sc (.bool false)::sc (.int .i64 0)::nilS::List.replicate 4096 nilS:=by
  unfold wkZ;rw[Aba,List.map_replicate];rfl
 rw[e];unfold Ck Nc B0k;rw[List.map_replicate];rfl
theorem zE (l:St){ido nO:Nat}(h:Live l ido nO):Rws l (C1 ido nO B0k):=by
 have hm:∀x∈B0k.map (fun x:Nat×List Tx=>(x.1,x.2.length)),x=(1,0):=fun x hx=>by
  obtain⟨y,hy,rfl⟩:=Acf.1 hx;rw[(Adm.1 hy).2];rfl
 refine⟨fun x hx=>?_,fun i j x y hx hy aa=>?_⟩
 ·rcases Acd.1 hx with rfl|hx
  ·exact h
  ·rw[hm x hx];exact .inl ⟨rfl,rfl⟩
 ·cases i with
  |zero=>
   cases j with
   |zero=>omega
   |succ j=>
    have:=hm y (Aax (i:=j) (by simpa[C1]using hy));subst this;by_cases e:x.1=1
    ·exact .inl e
    ·exact .inr e
  |succ i=>
   have:=hm x (Aax (i:=i) (by simpa[C1]using hx));subst this;exact .inl rfl
theorem Wi {ido nO:Nat}{x:Nat×Nat}(h:x∈C1 ido nO B0k):x.1=ido\/x.1=1:=by
 rcases Acd.1 h with rfl|h
 ·exact .inl rfl
 ·obtain⟨y,hy,rfl⟩:=Acf.1 h;rw[(Adm.1 hy).2];exact .inr rfl
theorem iM (fz:Bool)(A:List RAtom)(cA:List AV)(ida:Nat)(mo:Int)(c0 p:Nat)(hA:D5 A cA)(an:0<=mo)(am:mo<=900)(x:RItem)(c:List AV)(hc:EItem x c)(hH:HalfOk fz c0 p x)(ah:Ec c0 A.length p+2002<=1000000000000)(O:List RAtom)(oc:List AV)(ido:Nat)(hO:EL Be O oc)(ap:∀a∈O,clA a)(ak:O.Nodup)(ad:(O.length:Int)<=mo+1)(l:St)(hL:Live l ido O.length):
  ACalls Tryz.prog 182 [ag c,sl ida A.length cA,sc (.bool fz),sl ido O.length oc,sc (.int .i64 mo)] l fun r l'=>∃ido' O' oc',r=sl ido' O'.length oc'/\EL Be O' oc'/\Live l' ido' O'.length/\(ido'=ido\/ido'=1\/l.ntop+2<=ido')/\KH ido l l'/\Zm fz A mo x O O':=by
 have af:=hc;obtain⟨ih,id,b,hb,rfl⟩:=hc.cells;unfold Bo;unfold Bo at af
 have ai:WOb ((l.new [sc (.bool x.out),sc (.bool x.head.nt),str x.head.pred,sl ih x.head.terms.length (x.head.terms.map str),sl id x.body.length b]).new (((((wkZ.map cst1).set 0 (sl ida A.length cA)).set 1 (sc (.bool fz))).set 3 (sl ido O.length oc)).set 2 (sc (.int .i64 mo)))) (l.nobj+1) ida A.length cA fz mo ido O oc B0k 0:=
  ⟨by rw[Cd Ad6 Ad6];exact mI,Ad6,by simp[B0k],hO,zE _ hL,fun y hy=>by rw[(Adm.1 hy).2];simp⟩
 have aw:=oF fz A cA ida mo c0 hA an am p x _ af hH (l.nobj+1) ido O oc B0k 0 _ ai Ad2 ak ad ap (fun y _ _ hs=>absurd hs (tR _));clear ai;refine Z9 25 [.tmp 10] Tryz.func182 ?_
 repeat' (first|refine Z1 ?_|(refine Z8 ?_;intro ya J)|(refine Z4 ?_;clear J ya)|(refine Z2 ?_ ?_<;>intro h ao<;>try exact Xp)|(refine Z5 ?_;refine Xi (aw) ?_;rintro _ _ ⟨ido',O',oc',B',N',ae,aa,ab,a3⟩;(obtain⟨wc1,aj,az,ay⟩:=ae.outs;have ac:=aa.nobj;simp only[Aa]at ac))|refine Z3 ?_|exact Zt|(apply J.out;clear J ya))
 rename_i l1;have au:Live l1 ido' O'.length:=ae.rw'.1 (ido',O'.length) (by simp[C1]);have hid:ido'=ido\/ido'=1\/l.ntop+2<=ido':=by
  rcases aa.mid (ido',O'.length) (by simp[C1])with⟨y,hy,e⟩|e|e
  ·rcases Wi hy with h|h
   ·exact .inl (e.symm.trans h)
   ·exact .inr (.inl (e.symm.trans h))
  ·exact .inr (.inl e)
  ·exact .inr (.inr e)
 have av:KH ido l l1:=
  ⟨Ad2,fun o ho=>by rw[aa.obj o Ad6 Ad2,Ai Ad6,Ai Ad2],fun o ho=>by rw[aa.ver o Ad6 Ad2];rfl,aa.ntop,fun k hk a0=>aa.top k hk (fun y hy e=>by
   rcases Wi hy with h|h<;>omega)⟩
 have ax:Zm fz A mo x O O':=⟨ab.ext,ab.nd,ab.len,ab.done⟩;exact⟨_,rfl,ido',O',oc',rfl,ae.oe,au,hid,av,ax⟩
end Go.Proofs.YtmoeoppbmhfbpaaGreatDoorH
