import Derived.Test.YtmoeoppbmhfbpaaGreatDoorDDocD
set_option maxHeartbeats 64000000
set_option maxRecDepth 100000
set_option linter.all false
namespace Go.Proofs.YtmoeoppbmhfbpaaGreatDoorD
open Go.Abs
theorem dG {ida nA:Nat}{cA:List AV}{fz:Bool}{mo:Int}{ido nO ido' nO':Nat}{oc oc':List AV}{B:BK}:(Cv ida nA cA fz mo ido nO oc B).set 3 (sl ido' nO' oc')=Cv ida nA cA fz mo ido' nO' oc' B:=rfl
theorem WOb.addO {l l':St}{ow ida nA:Nat}{cA:List AV}{fz:Bool}{mo:Int}{ido:Nat}{O:List RAtom}{oc:List AV}{B:BK}{N id':Nat}{a:RAtom}{ca:List AV}(h:WOb l ow ida nA cA fz mo ido O oc B N)(ha:B6 a ca)
  (hL:Live l' id' (O.length+1)) (hid:id'=ido\/l.ntop+2<=id') (aa:id'≠1)
  (eob:∀o,o<l.nobj->o≠ow->l'.obj o=l.obj o) (ab:∀o,o<l.nobj->o≠ow->l'.ver o=l.ver o) (eno:l.nobj<=l'.nobj) (ento:l.ntop<=l'.ntop)
  (etop:∀j,j<l.ntop->j+2≠ido->l'.top j=l.top j) (eow:l'.obj ow=(Cv ida nA cA fz mo ido O.length oc B).set 3 (sl id' (O.length+1) (oc++ca))):
  WOb l' ow ida nA cA fz mo id' (O++[a]) (oc++ca) B N/\KW ow (Dh ido O.length B) (Dh id' (O++[a]).length B) l l':=by
 have hx:(Dh ido O.length B)[0]?=some (ido,O.length):=rfl;obtain⟨g1,g2⟩:=Rws.grow (ow:=ow) h.rw' hx hL hid aa eob ab eno ento etop;have e:Dh id' (O++[a]).length B=(Dh ido O.length B).set 0 (id',O.length+1):=by simp[Dh]
 rw[e];refine⟨⟨?_,Adf h.lo eno,h.bl,EL.append h.oe (EL.single ha),by rw[e];exact g1,h.bn⟩,g2⟩;rw[eow,dG];simp
theorem uZ {fz:Bool}{A:List RAtom}{cA:List AV}{c0 p:Nat}{x:RItem}{h:RAtom}(hA:Gx A cA)(hH:HalfOk fz c0 p x)(hS:Rw fz A x h):clA h:=by
 obtain⟨μ,h1,-,rfl⟩:=hS;refine⟨hH.cl.2.1.1,fun t ht=>?_,by show (x.head.terms.map _).length<=1000;rw[Ae3];exact hH.cl.2.1.2.2⟩;obtain⟨u,hu,rfl⟩:=Ae4.1 ht;cases hv:Ab u with
 |false=>rw[Ce hv];exact hH.cl.2.1.2.1 u hu
 |true=>
  obtain⟨a,ha,hp,hm⟩:=hH.saf u hv (.inl hu);exact (hA.cl _ (h1 a ha hp)).2.1 _ (Ae4.2 ⟨u,hm,rfl⟩)
theorem zZ {fz:Bool}{A:List RAtom}{cA:List AV}{mo:Int}{c0 p:Nat}{x:RItem}{O O':List RAtom}{S S':Tx->Prop}(hA:Gx A cA)(hH:HalfOk fz c0 p x)(hO:∀a∈O,clA a)(h:V9 fz A mo x O S O' S'):∀a∈O',clA a:=by
 obtain⟨nw,rfl,h2⟩:=h.ext;intro a ha;rcases Aet.1 ha with h'|h'
 ·exact hO a h'
 ·exact uZ hA hH (h2 a h').1
def yA (fz:Bool)(A:List RAtom)(cA:List AV)(ida:Nat)(mo:Int)(c0 p:Nat):Prop:=∀(x:RItem) (c:List AV),EItem x c->HalfOk fz c0 p x->∀(ow ido:Nat) (O:List RAtom) (oc:List AV) (B:BK) (N:Nat) (l:St),WOb l ow ida A.length cA fz mo ido O oc B N->N+Gm c0 A.length p+1001<=1000000000000+O.length->O.Nodup->(O.length:Int)<=mo+1->(∀a∈O,clA a)->SeenOk fz A O mo (P3 B) x.body.length->
  ACalls Tryz.prog 225 [ptr ow 0,ag c] l fun r l'=>Rj fz A cA ida mo c0 p x ow ido O B N l l'
theorem Zp (fz:Bool)(A:List RAtom)(cA:List AV)(ida:Nat)(mo:Int)(c0:Nat)(hA:Gx A cA)(hm0:0<=mo)(hm1:mo<=900)(p:Nat)(IH:∀q,p=q+1->yA fz A cA ida mo c0 q):yA fz A cA ida mo c0 p:=by
 intro x c hc hH ow ido O oc B N l hW hN bp ai dx hS;have b4:=hc;obtain⟨ih,id,b,hb,rfl⟩:=hc.cells;unfold A5;unfold A5 at b4;have aj:=hH.fits;have ev:=aj.1;have em:=hW.lo;have d2:=hA.len;have fi:O.length<=901:=Agm;have ce:=fun l=>Li x.head _ ⟨ih,rfl⟩ aj.2.1 l;have du:=fun l=>Fx O oc ido x.head [sc (.bool x.head.nt),str x.head.pred,sl ih x.head.terms.length (x.head.terms.map str)] hW.oe ⟨ih,rfl⟩ Agm (fun a ha=>(dx a ha).2.2) l;have dv:=fun l=>Fx A cA ida x.head [sc (.bool x.head.nt),str x.head.pred,sl ih x.head.terms.length (x.head.terms.map str)] hA.el ⟨ih,rfl⟩ d2 (fun a ha=>(hA.cl a ha).2.2) l;have et:(Cv ida A.length cA fz mo ido O.length oc B)[0]?=some (sl ida A.length cA):=rfl;have eo:(Cv ida A.length cA fz mo ido O.length oc B).head?=some (sl ida A.length cA):=rfl;have er:(Cv ida A.length cA fz mo ido O.length oc B)[1]?=some (sc (.bool fz)):=rfl;have eq:(Cv ida A.length cA fz mo ido O.length oc B)[2]?=some (sc (.int .i64 mo)):=rfl;have ep:(Cv ida A.length cA fz mo ido O.length oc B)[3]?=some (sl ido O.length oc):=rfl;have ee:=H0 (ida:=ida) (nA:=A.length) (cA:=cA) (fz:=fz) (mo:=mo) (ido:=ido) (nO:=O.length) (oc:=oc) hW.bl;have dm:=hW.ob;generalize a8:Cv ida A.length cA fz mo ido O.length oc B=wc at*
 have cf:Agt _:=a8;clear a8;refine Z9 109 [] Tryz.func225 ?_
 refine zz ?_
 obtain⟨l1,bw⟩:∃l1,l1=l.new [sc (.bool x.out),sc (.bool x.head.nt),str x.head.pred,sl ih x.head.terms.length (x.head.terms.map str),sl id x.body.length b]:=⟨_,rfl⟩;rw[<-bw];have dz:Keep l l1:=by rw[bw];exact (Keep.refl l).new _
 have fb:l1.nobj=l.nobj+1:=by rw[bw];rfl
 have bb:l1.obj ow=wc:=by rw[dz.obj _ em,dm]
 have a7:l1.obj l.nobj=[sc (.bool x.out),sc (.bool x.head.nt),str x.head.pred,sl ih x.head.terms.length (x.head.terms.map str),sl id x.body.length b]:=by rw[bw];exact Al
 clear bw;refine Bl (Q:=fun e s' l''=>e= .normal/\∃th,s' 4=sc (.bool th)/\s' 0=ptr ow 0/\s' 3=ptr l.nobj 0/\Keep l1 l''/\(th=true↔(We x.head/\(x.head∈O\/x.head∈A)))) ?_ ?_
 ·by_cases hz:I9 x.head=0
  ·rw[hz]at ce;have ea:((((0:Nat):Int))==0)=true:=rfl;have cg:Agt (We x.head):=looseN_zero.1 hz;refine Ay Ag (fun _=>True) [] [0,1] 21 #[true,true,false,false,false,false,false,false,false,false,false,false,false,false,false,false,false,false,false,false,false,false,false] Agp (fun _ _ _ h=>by cases h.1) ?_;intro ya J;refine Z3 ?_;refine J.out _ ?_;clear J ya;refine Ai (i:=2) Agp ?_;refine Am ?_;intro ya J;refine Z3 ?_;refine ACalls.mono (ce _) ?_;rintro _ l2 ⟨rfl,ad⟩;refine Z3 ?_;refine J.out _ _ ⟨Ao ad,?_⟩;clear J ya;have ba:l2.obj ow=wc:=by rw[ad.obj _ Agm,bb]
   have aw:l2.obj l.nobj=[sc (.bool x.out),sc (.bool x.head.nt),str x.head.pred,sl ih x.head.terms.length (x.head.terms.map str),sl id x.body.length b]:=by rw[ad.obj _ Agm,a7]
   have ck:=ad.nobj;refine Gq [3,4,5,6,7,8,9,10] 12 20 #[true,true,true,true,true,true,true,true,true,true,true,false,false,false,false,false,false,false,false,false,false,false,false] rfl Agp Agp (fun _ _ _ h=>by cases h.1) (ad).nobj (fun o ho _=>(ad).ver o ho) ?_;intro ya J;refine Z3 ?_;refine J.out _ ?_;clear J ya;refine Ai (i:=11) Agp ?_;refine Am ?_;intro ya J;refine Z3 ?_;refine ACalls.mono (du _) ?_;rintro _ l3 ⟨b1,rfl,dt,af⟩;refine Z3 ?_;refine J.out _ _ ⟨Ao af,?_⟩;clear J ya;have ay:l3.obj ow=wc:=by rw[af.obj _ Agm,ba]
   have a6:l3.obj l.nobj=[sc (.bool x.out),sc (.bool x.head.nt),str x.head.pred,sl ih x.head.terms.length (x.head.terms.map str),sl id x.body.length b]:=by rw[af.obj _ Agm,aw]
   have bu:=af.nobj;cases b1 with
   |true=>
    refine Gq [12,13,14,15,16,17,18] 4 11 #[true,true,true,true,true,true,true,true,true,true,true,true,true,true,true,true,true,true,true,false,false,false,false] rfl Agp Agp (fun _ _ _ h=>by cases h.1) (af).nobj (fun o ho _=>(af).ver o ho) ?_;intro ya J;refine Z3 ?_;refine J.out _ ?_;clear J ya;refine Ai (i:=19) Agp ?_;refine Am ?_;intro ya J;refine Z3 ?_;refine J.out _ _ ⟨kept_refl,?_⟩;clear J ya;refine Dc [20,21,22] Agp Agp (fun _ _ _ h=>by cases h.1) (Adc _) (fun o ho _=>rfl) ?_;intro ya J;refine Z3 ?_;refine J.out _ _ ⟨rfl,true,Agn,by simp[upd,initS, *],Agn,ad.trans af,fun _=>⟨cg.out,.inl (dt.1 rfl)⟩,fun _=>rfl⟩
   |false=>
    refine Gq [12,13,14,15,16,17,18] 4 11 #[true,true,true,true,true,true,true,true,true,true,true,true,true,true,true,true,true,true,true,false,false,false,false] rfl Agp Agp (fun _ _ _ h=>by cases h.1) (af).nobj (fun o ho _=>(af).ver o ho) ?_;intro ya J;refine Z3 ?_;refine J.out _ ?_;clear J ya;refine Ai (i:=19) Agp ?_;refine Am ?_;intro ya J;refine Z3 ?_;refine ACalls.mono (dv _) ?_;rintro _ l4 ⟨b2,rfl,dr,ae⟩;refine Z3 ?_;refine J.out _ _ ⟨Ao ae,?_⟩;clear J ya;refine Dc [20,21,22] Agp Agp (fun _ _ _ h=>by cases h.1) ae.nobj (fun o ho _=>ae.ver o ho) ?_;intro ya J;refine Z3 ?_;refine J.out _ _ ⟨rfl,b2,Ago,by simp[upd,initS, *],Agn,(ad.trans af).trans ae,fun h=>⟨cg.out,.inr (dr.1 h)⟩,fun h=>?_⟩;rcases h.2 with h'|h'
    ·exact absurd (dt.2 h') (by simp)
    ·exact dr.2 h'
  ·have ea:(((I9 x.head:Nat):Int)==0)=false:=by simp;omega
   have cg:Agt (¬We x.head):=fun h=>hz (looseN_zero.2 h);generalize I9 x.head=lz at*
   refine Ay Ag (fun _=>True) [] [0,1] 21 #[true,true,false,false,false,false,false,false,false,false,false,false,false,false,false,false,false,false,false,false,false,false,false] Agp (fun _ _ _ h=>by cases h.1) ?_;intro ya J;refine Z3 ?_;refine J.out _ ?_;clear J ya;refine Ai (i:=2) Agp ?_;refine Am ?_;intro ya J;refine Z3 ?_;refine ACalls.mono (ce _) ?_;rintro _ l2 ⟨rfl,ad⟩;refine Z3 ?_;refine J.out _ _ ⟨Ao ad,?_⟩;clear J ya;refine Gq [3,4,5,6,7,8,9,10] 12 20 #[true,true,true,true,true,true,true,true,true,true,true,false,false,false,false,false,false,false,false,false,false,false,false] rfl Agp Agp (fun _ _ _ h=>by cases h.1) (ad).nobj (fun o ho _=>(ad).ver o ho) ?_;intro ya J;refine Z3 ?_;refine J.out _ ?_;clear J ya;refine Ai (i:=11) Agp ?_;refine Am ?_;intro ya J;refine Z3 ?_;refine J.out _ _ ⟨kept_refl,?_⟩;clear J ya;refine Gq [12,13,14,15,16,17,18] 4 11 #[true,true,true,true,true,true,true,true,true,true,true,true,true,true,true,true,true,true,true,false,false,false,false] rfl Agp Agp (fun _ _ _ h=>by cases h.1) (Adc _) (fun o ho _=>rfl) ?_;intro ya J;refine Z3 ?_;refine J.out _ ?_;clear J ya;refine Ai (i:=19) Agp ?_;refine Am ?_;intro ya J;refine Z3 ?_;refine J.out _ _ ⟨kept_refl,?_⟩;clear J ya;refine Dc [20,21,22] Agp Agp (fun _ _ _ h=>by cases h.1) (Adc _) (fun o ho _=>rfl) ?_;intro ya J;refine Z3 ?_;refine J.out _ _ ⟨rfl,false,Agn,by simp[upd,initS, *],Agn,ad,fun h=>(by cases h),fun h=>absurd h.1 cg.out⟩
 ·rintro e s' l2 ⟨rfl,th,g4,g0,g3,ad,db⟩;have ba:l2.obj ow=wc:=by rw[ad.obj _ Agm,bb]
  have aw:l2.obj l.nobj=[sc (.bool x.out),sc (.bool x.head.nt),str x.head.pred,sl ih x.head.terms.length (x.head.terms.map str),sl id x.body.length b]:=by rw[ad.obj _ Agm,a7]
  have ck:=ad.nobj;have bm:Agt _:=db;clear db ce du dv bb a7;have ca:Keep l l2:=dz.trans ad;have a3:=hW.keep ca;cases th with
  |true=>
   have HQ:Agt (Rj fz A cA ida mo c0 p x ow ido O B N l l2):=by
    refine⟨ido,O,oc,B,N,a3,KW.ofKeep ca,Ql bp ai hS (fun _ h hh=>?_),Agm⟩;obtain⟨hg,hm⟩:=bm.out.1 rfl;rw[uY hg hh];exact hm.symm
   clear bm hW hS a3
   refine zz ?_
   refine Bl (Q:=fun e s'' l''=>e= .normal/\s'' 48=sc (.bool true)/\l''=l2) ?_ ?_
   ·refine Ay Ag (fun _=>True) [16,17] [0,1,2,3,4,5,6,7,8,9,10,11,12,13,14,15] 2 #[true,true,true,true,true,true,true,true,true,true,true,true,true,true,true,true,false,false] Agp (fun _ _ _ h=>by cases h.1) ?_;intro ya J;refine Z3 ?_;refine J.out _ ?_;clear J ya;refine Ai (i:=16) Agp ?_;refine Am ?_;intro ya J;refine Z3 ?_;refine J.out _ _ ⟨Bf rfl,?_⟩;clear J ya;refine Ai (i:=17) Agp ?_;refine Am ?_;intro ya J;refine Z3 ?_;refine J.out _ _ ⟨Bf rfl,?_⟩;clear J ya;exact Bb Agp ⟨rfl,Ago,rfl⟩
   ·rintro e s'' l'' ⟨rfl,g48,rfl⟩
    first|refine C0 g48 ?_|(refine I3 ?_;refine C0 g48 ?_)
    refine zz ?_
    first|exact⟨_,rfl,HQ.out⟩|exact HQ.out
  |false=>
   by_cases bz:mo<(O.length:Int)
   ·have dp:decide ((O.length:Int)>mo)=true:=by simpa using bz
    have dn:decide (mo<(O.length:Int))=true:=by simpa using bz
    have HQ:Agt (Rj fz A cA ida mo c0 p x ow ido O B N l l2):=
     ⟨ido,O,oc,B,N,a3,KW.ofKeep ca,Ql bp ai hS (fun h=>Agm),Agm⟩
    clear bm hW hS a3
    refine zz ?_
    refine Bl (Q:=fun e s'' l''=>e= .normal/\s'' 48=sc (.bool true)/\l''=l2) ?_ ?_
    ·refine Ay Ag (fun _=>True) [16,17] [0,1,2,3,4,5,6,7,8,9,10,11,12,13,14,15] 2 #[true,true,true,true,true,true,true,true,true,true,true,true,true,true,true,true,false,false] Agp (fun _ _ _ h=>by cases h.1) ?_;intro ya J;refine Z3 ?_;refine J.out _ ?_;clear J ya;refine Ai (i:=16) Agp ?_;refine Am ?_;intro ya J;refine Z3 ?_;refine J.out _ _ ⟨Bf rfl,?_⟩;clear J ya;refine Ai (i:=17) Agp ?_;refine Am ?_;intro ya J;refine Z3 ?_;refine J.out _ _ ⟨Bf rfl,?_⟩;clear J ya;exact Bb Agp ⟨rfl,Ago,rfl⟩
    ·rintro e s'' l'' ⟨rfl,g48,rfl⟩
     first|refine C0 g48 ?_|(refine I3 ?_;refine C0 g48 ?_)
     refine zz ?_
     first|exact⟨_,rfl,HQ.out⟩|exact HQ.out
   ·have dp:decide ((O.length:Int)>mo)=false:=by simpa using bz
    have dn:decide (mo<(O.length:Int))=false:=by simpa using bz
    have c8:=fun l h=>nD x _ b4 hH.cl ev ow ida A.length cA fz mo ido O oc B N Agm l h
    refine zz ?_
    refine Bl (Q:=fun e s'' l''=>e= .normal/\s'' 0=ptr ow 0/\s'' 3=ptr l.nobj 0/\((P3 B (Em x)/\s'' 48=sc (.bool true)/\Keep l2 l'')\/(¬P3 B (Em x)/\s'' 48=sc (.bool false)/\∃id' y,B[Ib (Em x)]?=some y/\WOb l'' ow ida A.length cA fz mo ido O oc (B.set (Ib (Em x)) (id',y.2++[Em x])) (N+1)/\KW ow (Dh ido O.length B) (Dh ido O.length (B.set (Ib (Em x)) (id',y.2++[Em x]))) l2 l''))) ?_ ?_
    ·refine Ay Ag (fun _=>True) [16,17] [0,1,2,3,4,5,6,7,8,9,10,11,12,13,14,15] 2 #[true,true,true,true,true,true,true,true,true,true,true,true,true,true,true,true,false,false] Agp (fun _ _ _ h=>by cases h.1) ?_;intro ya J;refine Z3 ?_;refine J.out _ ?_;clear J ya;refine Ai (i:=16) Agp ?_;refine Am ?_;intro ya J;refine Z3 ?_;refine ACalls.mono (c8 _ a3) ?_;rintro r l3 (⟨h1,rfl,af⟩|⟨h1,rfl,h3⟩)
     ·refine Z3 ?_;refine J.out _ _ ⟨Bf rfl,?_⟩;clear J ya;refine Ai (i:=17) Agp ?_;refine Am ?_;intro ya J;refine Z3 ?_;refine J.out _ _ ⟨Bf rfl,?_⟩;clear J ya;exact Bb Agp ⟨rfl,Agn,Agn,.inl ⟨h1,Ago,af⟩⟩
     ·refine Z3 ?_;refine J.out _ _ ⟨Bf rfl,?_⟩;clear J ya;refine Ai (i:=17) Agp ?_;refine Am ?_;intro ya J;refine Z3 ?_;refine J.out _ _ ⟨Bf rfl,?_⟩;clear J ya;exact Bb Agp ⟨rfl,Agn,Agn,.inr ⟨h1,Ago,h3⟩⟩
    ·rintro e s'' l3 ⟨rfl,f0,f3,b5⟩;rcases b5 with⟨cq,g48,af⟩|⟨cq,g48,id',y,hy,br,ao⟩
     ·have HQ:Agt (Rj fz A cA ida mo c0 p x ow ido O B N l l3):=
       ⟨ido,O,oc,B,N,a3.keep af,KW.ofKeep (ca.trans af),Ql bp ai hS (hS x hH.cl (Adc _) cq),Agm⟩
      clear bm hW hS a3 c8
      first|refine C0 g48 ?_|(refine I3 ?_;refine C0 g48 ?_)
      refine zz ?_
      first|exact⟨_,rfl,HQ.out⟩|exact HQ.out
     ·have bg:=fun s=>Aau (s:=s) (id':=id') hy;generalize e9:B.set (Ib (Em x)) (id',y.2++[Em x])=Bq at br ao bg;have da:Agt (P3 Bq=fun s=>P3 B s\/s=Em x):=funext fun s=>propext (bg s);have a6:l3.obj l.nobj=[sc (.bool x.out),sc (.bool x.head.nt),str x.head.pred,sl ih x.head.terms.length (x.head.terms.map str),sl id x.body.length b]:=by rw[ao.obj _ Agm Agm,aw]
      have bu:=ao.nobj;have cb:=(KW.ofKeep ca).trans ao;have ay:=br.ob;have dl:(Cv ida A.length cA fz mo ido O.length oc Bq)[0]?=some (sl ida A.length cA):=rfl;have dh:(Cv ida A.length cA fz mo ido O.length oc Bq).head?=some (sl ida A.length cA):=rfl;have dk:(Cv ida A.length cA fz mo ido O.length oc Bq)[1]?=some (sc (.bool fz)):=rfl;have dj:(Cv ida A.length cA fz mo ido O.length oc Bq)[3]?=some (sl ido O.length oc):=rfl;have df:=H0 (ida:=ida) (nA:=A.length) (cA:=cA) (fz:=fz) (mo:=mo) (ido:=ido) (nO:=O.length) (oc:=oc) br.bl;clear bg e9 hy c8 cq ba aw et eo er eq ep ee dm cf hW a3 dp dn g4 g0 g3 ad;generalize a8:Cv ida A.length cA fz mo ido O.length oc Bq=wc1 at ay dl dh dk dj df;have cf:Agt _:=a8;clear a8;have dy:=fun l=>lB x _ fz b4 aj l
      first|refine Ed g48 ?_|(refine I3 ?_;refine Ed g48 ?_)
      refine zz ?_
      refine Bl (Q:=fun e s3 l''=>e= .normal/\∃n,xZ fz x n/\s3 5=sc (.int .i64 n)/\s3 0=ptr ow 0/\s3 3=ptr l.nobj 0/\Keep l3 l'') ?_ ?_
      ·refine Ay Ag (fun _=>True) [] [0,1,2,3,4] 2 #[true,true,true,true,true,false,false] Agp (fun _ _ _ h=>by cases h.1) ?_;intro ya J;refine Z3 ?_;refine J.out _ ?_;clear J ya;refine Ai (i:=5) Agp ?_;refine Am ?_;intro ya J;refine Z3 ?_;refine ACalls.mono (dy _) ?_;rintro _ l4 ⟨n,rfl,cz,ae⟩;refine Z3 ?_;refine J.out _ _ ⟨Ao ae,?_⟩;clear J ya;refine Ai (i:=6) Agp ?_;refine Am ?_;intro ya J;refine Z3 ?_;refine J.out _ _ ⟨Ao ae,?_⟩;clear J ya;exact Bb Agp ⟨rfl,n,cz,Ago,Agn,Agn,ae⟩
      ·rintro e s3 l4 ⟨rfl,n,cz,g5,e0,e3,ae⟩;have b9:=br.keep ae;have a9:l4.obj ow=wc1:=by rw[ae.obj _ br.lo,ay]
       have cj:=ae.nobj;have av:l4.obj l.nobj=[sc (.bool x.out),sc (.bool x.head.nt),str x.head.pred,sl ih x.head.terms.length (x.head.terms.map str),sl id x.body.length b]:=by rw[ae.obj _ Agm,a6]
       have ab:=cb.trans (KW.ofKeep ae);clear dy ay a6 ao cb f0 f3 g48;rcases cz with⟨rfl,aa⟩|⟨j,b0,rfl,bq,bn⟩
       ·have cu:decide ((-1:Int)<0)=true:=by decide
        have d1:=fun l=>jB x _ A cA ida b4 aj hA.el d2 (fun a ha=>(hA.cl a ha).2.2) l
        repeat' first|refine Z1 ?_|refine Z8 fun ya J=>?_|refine Z4 ?_;clear J ya|refine Z2 ?_ ?_<;>intro h am<;>try exact Xp|refine Z3 ?_|exact Zt|apply J.out;clear J ya
        refine Bl (Q:=fun e s4 l''=>e= .normal/\∃q,s4 69=sc (.bool q)/\(q=true↔∀a∈x.body,qQ a∉A)/\s4 0=ptr ow 0/\s4 3=ptr l.nobj 0/\Keep l4 l'') ?_ ?_
        ·cases fz with
         |true=>
          have HB:Agt (∀a∈x.body,qQ a∉A):=fun a ha=>by have:=aa a ha;simp[Nj]at this
          refine Ay Ag (fun _=>True) [] [0,1,2,3,4,5,6,7,8,9] 3 #[true,true,true,true,true,true,true,true,true,true,false,false,false] Agp (fun _ _ _ h=>by cases h.1) ?_;intro ya J;refine Z3 ?_;refine J.out _ ?_;clear J ya;refine Ai (i:=10) Agp ?_;refine Am ?_;intro ya J;refine Z3 ?_;refine J.out _ _ ⟨kept_refl,?_⟩;clear J ya;refine Dc [11,12] Agp Agp (fun _ _ _ h=>by cases h.1) (Adc _) (fun o ho _=>rfl) ?_;intro ya J;refine Z3 ?_;refine J.out _ _ ⟨rfl,true,Agn,⟨fun _=>HB.out,fun _=>rfl⟩,Agn,Agn,Keep.refl _⟩
         |false=>
          have hnt:∀a∈x.body,a.nt=true:=fun a ha=>by have:=aa a ha;simpa[Nj]using this
          refine Ay Ag (fun _=>True) [] [0,1,2,3,4,5,6,7,8,9] 3 #[true,true,true,true,true,true,true,true,true,true,false,false,false] Agp (fun _ _ _ h=>by cases h.1) ?_;intro ya J;refine Z3 ?_;refine J.out _ ?_;clear J ya;refine Ai (i:=10) Agp ?_;refine Am ?_;intro ya J;refine Z3 ?_;refine ACalls.mono (d1 _) ?_;rintro _ l5 ⟨bo,rfl,dq,au⟩;refine Z3 ?_;refine J.out _ _ ⟨Ao au,?_⟩;clear J ya;have d7:Agt _:=dq;clear dq;refine Dc [11,12] Agp Agp (fun _ _ _ h=>by cases h.1) au.nobj (fun o ho _=>au.ver o ho) ?_;intro ya J;refine Z3 ?_;refine J.out _ _ ⟨rfl,!bo,Agn,?_,Agn,Agn,au⟩;cases bo with
          |true=>
           obtain⟨a,ha,-,hm⟩:=d7.out.1 rfl;exact⟨fun h=>(by cases h),fun h=>absurd hm (h a ha)⟩
          |false=>exact⟨fun _ a ha hm=>(by have:=d7.out.2 ⟨a,ha,hnt a ha,hm⟩;cases this),fun _=>rfl⟩
        ·rintro e s4 l5 ⟨rfl,q,g69,hq,e0,e3,au⟩;have ah:=b9.keep au;have ax:l5.obj ow=wc1:=by rw[au.obj _ b9.lo,a9]
         have ci:=au.nobj;have a5:l5.obj l.nobj=[sc (.bool x.out),sc (.bool x.head.nt),str x.head.pred,sl ih x.head.terms.length (x.head.terms.map str),sl id x.body.length b]:=by rw[au.obj _ Agm,av]
         have an:=ab.trans (KW.ofKeep au);have bc:x.head∉A/\x.head∉O:=by
          have hg:=(fO hH.saf aa).1;exact⟨fun h=>(by have:=bm.out.2 ⟨hg,.inr h⟩;cases this),fun h=>(by have:=bm.out.2 ⟨hg,.inl h⟩;cases this)⟩
         have ak:∀k:Nat,(q=true/\k=1\/q=false/\k=0)->N+1+O.length<=N+(O.length+k)+Gm c0 A.length p:=by
          intro k hk;rcases hk with⟨-,rfl⟩|⟨di,rfl⟩
          ·omega
          ·have bn:p=0:=by
            rw[<-hH.cnt,List.countP_eq_zero];intro a ha;rw[aa a ha];simp
           rcases hH.neg with h'|h'
           ·rw[bn,Gm,h'];omega
           ·exfalso;have:q=true:=hq.2 fun a ha=>by have h1:=h' a ha;rw[aa a ha]at h1;cases h1
            rw[this]at di;cases di
         clear d1 cu ae au b9 a9 av ab;cases q with
         |false=>
          have HQ:Agt (Rj fz A cA ida mo c0 p x ow ido O B N l l5):=
           ⟨ido,O,oc,Bq,N+1,ah,an,by rw[da.out];exact Zq hH.cl bp Agm hS hH.saf aa bc (.inr ⟨fun h=>(by have:=hq.2 h;cases this),rfl⟩),by have:=ak 0 (.inr ⟨rfl,rfl⟩);omega⟩
          first|refine Ed g69 ?_|(refine I3 ?_;refine Ed g69 ?_)
          refine zz ?_
          first|exact⟨_,rfl,HQ.out⟩|exact HQ.out
         |true=>
          have HI:Agt (V9 fz A mo x O (P3 B) (O++[x.head]) (P3 Bq)):=by
           rw[Agt,da.out];exact Zq hH.cl bp Agm hS hH.saf aa bc (.inl ⟨hq.1 rfl,rfl⟩)
          have ff:=ak 1 (.inl ⟨rfl,rfl⟩);have e4:Live l5 ido O.length:=ah.rw'.1 (ido,O.length) (by simp[Dh]);have cn:=EL.length Bc ah.oe;clear ak hq bc
          first|refine C0 g69 ?_|(refine I3 ?_;refine C0 g69 ?_)
          refine zz ?_
          refine Bl (Q:=fun e s5 l''=>e= .normal/\Rj fz A cA ida mo c0 p x ow ido O B N l l'') ?_ ?_
          ·refine Ay Ag (fun _=>True) [11] [0,1,2,3,4,5,6] 5 #[true,true,true,true,true,true,true,false,false,false,false,false] Agp (fun _ _ _ h=>by cases h.1) ?_;intro ya J;refine Z3 ?_;refine J.out _ ?_;clear J ya;refine Ai (i:=7) Agp ?_;refine Am ?_;intro ya J;refine Z3 ?_;refine J.out _ _ ⟨Ao ((Keep.refl _).lay 1),?_⟩;clear J ya;refine Ai (i:=8) Agp ?_;refine Am ?_;intro ya J;refine Z3 ?_;refine Qu (by first|exact Ka) e4 (by decide) (by rfl) cn (by rfl) (by rfl) (by decide) Agm Agm ?_;intro idn ln e5 cr ct cc d4 a0 d3 etop;refine Z3 ?_;refine J.out _ _ ⟨fun _ o ho _=>by rw[a0],?_⟩;clear J ya;have eow:ln.obj ow=wc1:=by rw[cc,ax]
           refine Ai (i:=9) Agp ?_;refine Am ?_;intro ya J;refine Z3 ?_;refine J.out _ _ ⟨fun _ o ho _=>by rw[a0],?_⟩;clear J ya;refine Ai (i:=10) Agp ?_;refine Am ?_;intro ya J;refine Z3 ?_;refine J.out _ _ ⟨fun _ o ho _=>by rw[a0],?_⟩;clear J ya;refine Ai (i:=11) Agp ?_;refine Am ?_;intro ya J;refine Z3 ?_;refine J.out _ _ ⟨Bf rfl,?_⟩;clear J ya;refine Bb Agp ⟨rfl,?_⟩
           have b8:=WOb.addO (l':=ln.put ow (wc1.set 3 (sl idn (O.length+1) (oc++[sc (.bool x.head.nt),str x.head.pred,sl ih x.head.terms.length (x.head.terms.map str)])))) (id':=idn) ah (a:=x.head) ⟨ih,rfl⟩ e5 cr ct (fun o ho bd=>by
            rw[show∀(S:St) c,(S.put ow c).obj o=S.obj o from fun S c=>by simp[St.put,bd],cc]) (fun o ho bd=>by
            rw[show∀(S:St) c,(S.put ow c).ver o=S.ver o from fun S c=>by simp[St.put,bd],a0]) (by simp only[Ac];omega) (by simp only[Lk];omega) (fun j hj bd=>by rw[L9];exact etop j hj bd) (by rw[Aj,cf.out])
           exact⟨idn,O++[x.head],_,Bq,N+1,b8.1,an.trans b8.2,HI.out,by simp only[Aeb,Aem,Ael];omega⟩
          ·rintro e s5 l6 ⟨rfl,HQ⟩;have HQ:Agt _:=HQ
           refine zz ?_
           first|exact⟨_,rfl,HQ.out⟩|exact HQ.out|exact⟨_,rfl⟩
       ·have cu:decide ((j:Int)<0)=false:=by simp
        have eg:0<p:=by
         rw[<-hH.cnt,Af4];exact⟨b0,Adp bq,bn⟩
        obtain⟨q,rfl⟩:∃q,p=q+1:=⟨p-1,Agm⟩;have e7:=IH q rfl;have cx:0<x.body.length:=by have:=(Adm.1 bq).1;omega
        have cv:Gm c0 A.length (q+1)=1+A.length*Gm c0 A.length q:=rfl;have d5:Agt (L1 fz A mo x j O (P3 B) 0 O (P3 Bq)):=by rw[Agt,da.out];exact lV hH.cl cx bp ai hS
        have fa:=EL.length Bc hA.el
        repeat' first|refine Z1 ?_|refine Z8 fun ya J=>?_|refine Z4 ?_;clear J ya|refine Z2 ?_ ?_<;>intro h am<;>try exact Xp|refine Z3 ?_|exact Zt|apply J.out;clear J ya
        refine Ad (fun m s l'=>∃(k ido' N':Nat) (O':List RAtom) (oc':List AV) (B':BK),m=A.length-k/\k<=A.length/\s 0=ptr ow 0/\s 3=ptr l.nobj 0/\s 5=sc (.int .i64 j)/\s 6=sc (.int .i64 k)/\WOb l' ow ida A.length cA fz mo ido' O' oc' B' N'/\KW ow (Dh ido O.length B) (Dh ido' O'.length B') l l'/\l.nobj<l'.nobj/\l'.obj l.nobj=[sc (.bool x.out),sc (.bool x.head.nt),str x.head.pred,sl ih x.head.terms.length (x.head.terms.map str),sl id x.body.length b]/\N'+O.length<=N+1+O'.length+k*Gm c0 A.length q/\(O'.length:Int)<=mo+1/\Agt (L1 fz A mo x j O (P3 B) k O' (P3 B')/\∀a∈O',clA a)) A.length
         ⟨0,ido,N+1,O,oc,Bq,Agm,Agm,Agn,Agn,Agn,Ago,b9,ab,Agm,av,Agm,ai,d5.out,dx⟩ ?_
        clear cu ae b9 a9 av ab br dl dh dk dj df cf d5 bm bz g5 e0 e3 cj bu;rintro m s l5 ⟨k,ido',N',O',oc',B',rfl,hk,h0,h3,h5,h6,ah,ab,co,a5,eu,ez,bh⟩;have ax:=ah.ob;have ek:=ah.lo;have de:(Cv ida A.length cA fz mo ido' O'.length oc' B')[0]?=some (sl ida A.length cA):=rfl;have dd:(Cv ida A.length cA fz mo ido' O'.length oc' B').head?=some (sl ida A.length cA):=rfl;have dc:=H0 (ida:=ida) (nA:=A.length) (cA:=cA) (fz:=fz) (mo:=mo) (ido:=ido') (nO:=O'.length) (oc:=oc') ah.bl;generalize a8:Cv ida A.length cA fz mo ido' O'.length oc' B'=wc2 at ax de dd dc;clear a8;have ci:=ab.nobj;by_cases cp:k<A.length
        ·have az:=Adn cp;have cd:=Aes cp;obtain⟨it,r,hd⟩:=Cm hA.el az;generalize A[k]=t at az cd hd;have ef:=(hA.cl t cd).2.2;have c7:=fun l=>bF x _ j t _ b0 b4 ⟨it,rfl⟩ aj bq ef l;have HG:Agt (A[k]?=some t):=az;clear az
         repeat' first|refine Z1 ?_|refine Z8 fun ya J=>?_|refine Z4 ?_;clear J ya|refine Z2 ?_ ?_<;>intro h am<;>try exact Xp|refine Z3 ?_|exact Zt|apply J.out;clear J ya
         refine Bl (Q:=fun e s' l''=>e= .normal/\s' 0=ptr ow 0/\s' 3=ptr l.nobj 0/\s' 5=sc (.int .i64 j)/\s' 6=sc (.int .i64 k)/\Keep l5 l''/\∃y iy jy cy ok o7,s' 7=ptr o7 0/\s' 8=sc (.bool ok)/\EL B6 y.body cy/\yK x j t y ok/\l5.nobj<=o7/\o7<l''.nobj/\l''.obj o7=[sc (.bool y.out),sc (.bool y.head.nt),str y.head.pred,sl iy y.head.terms.length (y.head.terms.map str),sl jy y.body.length cy]) ?_ ?_
         ·refine Ay Ag (fun _=>True) [] [0,1,2,3,4,5,6,7,8] 7 #[true,true,true,true,true,true,true,true,true,false,false,false,false,false,false,false] Agp (fun _ _ _ h=>by cases h.1) ?_;intro ya J;refine Z3 ?_;refine J.out _ ?_;clear J ya;refine Gz (rs:=[9,13]) Agp (by simp) ?_;intro i hi;simp only[Ae2,Afg,Agj]at hi;rcases hi with rfl|rfl
          ·refine Am ?_;intro ya J;refine Z3 ?_;refine ACalls.mono (c7 _) ?_;rintro _ l6 ⟨y,cy0,ok,rfl,b3,b6,ac⟩;obtain⟨iy,jy,cy,bf,rfl⟩:=b3.cells;unfold A5;refine Z3 ?_;refine J.out _ _ ⟨Ao ac,?_⟩;clear J ya;have a4:=ac.nobj;refine B8 (i:=10) _ (tp [ag [sc (.bool y.out),sc (.bool y.head.nt),str y.head.pred,sl iy y.head.terms.length (y.head.terms.map str),sl jy y.body.length cy],sc (.bool ok)]) rfl rfl rfl rfl rfl Agp Agp (fun _ _ _ h=>by cases h.1) (fun o ho _=>ac.ver o ho) ?_;refine B8 (i:=11) _ (ag [sc (.bool y.out),sc (.bool y.head.nt),str y.head.pred,sl iy y.head.terms.length (y.head.terms.map str),sl jy y.body.length cy]) rfl rfl rfl rfl rfl Agp Agp (fun _ _ _ h=>by cases h.1) (fun o ho _=>ac.ver o ho) ?_;refine B8 (i:=12) _ (sc (.bool ok)) rfl rfl rfl rfl rfl Agp Agp (fun _ _ _ h=>by cases h.1) (fun o ho _=>ac.ver o ho) ?_;refine Ai (i:=13) Agp ?_;refine Am ?_;intro ya J;refine Z3 ?_;refine J.out _ _ ⟨Ao (ac.new _),?_⟩;clear J ya;refine Ai (i:=14) Agp ?_;refine Am ?_;intro ya J;refine Z3 ?_;refine J.out _ _ ⟨Ao ((ac.new _).put Agm _),?_⟩;clear J ya;refine Ai (i:=15) Agp ?_;refine Am ?_;intro ya J;refine Z3 ?_;refine J.out _ _ ⟨Ao ((ac.new _).put Agm _),?_⟩;clear J ya;refine Bb Agp ⟨rfl,Agn,Agn,Agn,Agn,(ac.new _).put Agm _,y,iy,jy,cy,ok,l6.nobj,Ago,Ago,bf,b6,Agm,Ags,Aj⟩
          ·refine Am ?_;intro ya J;refine Z3 ?_;refine J.out _ _ ⟨Ao ((Keep.refl _).new _),?_⟩;clear J ya;refine Ai (i:=9) Agp ?_;refine Am ?_;intro ya J;refine Z3 ?_;refine ACalls.mono (c7 _) ?_;rintro _ l6 ⟨y,cy0,ok,rfl,b3,b6,ac⟩;obtain⟨iy,jy,cy,bf,rfl⟩:=b3.cells;unfold A5;have ap:Keep l5 l6:=((Keep.refl l5).new _).trans ac;have a4:=ac.nobj;have ch:=ac.obj l5.nobj Agq;rw[Al]at ch;simp only[Aa]at a4;refine Z3 ?_;refine J.out _ _ ⟨Ao ap,?_⟩;clear J ya;refine B8 (i:=10) _ (tp [ag [sc (.bool y.out),sc (.bool y.head.nt),str y.head.pred,sl iy y.head.terms.length (y.head.terms.map str),sl jy y.body.length cy],sc (.bool ok)]) rfl rfl rfl rfl rfl Agp Agp (fun _ _ _ h=>by cases h.1) (fun o ho _=>ap.ver o ho) ?_;refine B8 (i:=11) _ (ag [sc (.bool y.out),sc (.bool y.head.nt),str y.head.pred,sl iy y.head.terms.length (y.head.terms.map str),sl jy y.body.length cy]) rfl rfl rfl rfl rfl Agp Agp (fun _ _ _ h=>by cases h.1) (fun o ho _=>ap.ver o ho) ?_;refine B8 (i:=12) _ (sc (.bool ok)) rfl rfl rfl rfl rfl Agp Agp (fun _ _ _ h=>by cases h.1) (fun o ho _=>ap.ver o ho) ?_;refine Ai (i:=14) Agp ?_;refine Am ?_;intro ya J;refine Z3 ?_;refine J.out _ _ ⟨Ao (ap.put (Adc _) _),?_⟩;clear J ya;refine Ai (i:=15) Agp ?_;refine Am ?_;intro ya J;refine Z3 ?_;refine J.out _ _ ⟨Ao (ap.put (Adc _) _),?_⟩;clear J ya;refine Bb Agp ⟨rfl,Agn,Agn,Agn,Agn,ap.put (Adc _) _,y,iy,jy,cy,ok,l5.nobj,Ago,Ago,bf,b6,Agm,by simp only[Ac];omega,Aj⟩
         ·rintro e s' l6 ⟨rfl,h0,h3,h5,h6,ac,y,iy,jy,cy,ok,o7,h7,h8,b3,b6,fc,fe,ei⟩;have a4:=ac.nobj;have dw:=ah.keep ac;have an:=ab.trans (KW.ofKeep ac);have cm:l6.obj l.nobj=[sc (.bool x.out),sc (.bool x.head.nt),str x.head.pred,sl ih x.head.terms.length (x.head.terms.map str),sl id x.body.length b]:=by rw[ac.obj _ co,a5]
          obtain⟨eb,eh⟩:=b6;clear c7 ax a5 ah ab de dd dc hd ac;rcases eh with⟨rfl,b7⟩|⟨rfl,b7⟩
          ·obtain⟨d0,bv⟩:=hH.step bq bn (hA.gnd t cd) (hA.cl t cd) b7;have ec:EItem y [sc (.bool y.out),sc (.bool y.head.nt),str y.head.pred,sl iy y.head.terms.length (y.head.terms.map str),sl jy y.body.length cy]:=⟨[sc (.bool y.head.nt),str y.head.pred,sl iy y.head.terms.length (y.head.terms.map str)],jy,cy,⟨iy,rfl⟩,b3,rfl⟩;have ew:=fun l=>I7 y _ j ec eb.1 l;have c9:Agt (L1 fz A mo x j O (P3 B) k O' (P3 B')):=bh.out.1;have d6:Agt (∀a∈O',clA a):=bh.out.2;have ej:k*Gm c0 A.length q+Gm c0 A.length q<=A.length*Gm c0 A.length q:=by
            rw[<-Ad1];exact Adj _ cp
           have e6:∀c',EItem (Cw y j) c'->∀l,WOb l ow ida A.length cA fz mo ido' O' oc' B' N'->ACalls Tryz.prog 225 [ptr ow 0,ag c'] l fun r l'=>Rj fz A cA ida mo c0 q (Cw y j) ow ido' O' B' N' l l':=fun c' cw l hW=>e7 (Cw y j) c' cw d0 ow ido' O' oc' B' N' l hW Agm c9.out.nd ez d6.out (by rw[bv];exact c9.out.seen);clear bh
           repeat' first|refine Z1 ?_|refine Z8 fun ya J=>?_|refine Z4 ?_;clear J ya|refine Z2 ?_ ?_<;>intro h am<;>try exact Xp|(refine Z5 ?_;first|(refine Xi (ew _) ?_;rintro _ _ ⟨c',rfl,cw,ap⟩;(have d9:=ap.nobj;have e8:=e6 c' cw))|(refine Xi (e8 _ (dw.keep (Xs))) ?_;rintro _ _ ⟨ido2,O2,oc2,B2q,N2,ey,bi,c6,fg⟩))|refine Z3 ?_|exact Zt|apply J.out;clear J ya
           rename_i l8 l9;have c5:=(an.trans (KW.ofKeep ap)).trans bi;have bd:l.nobj≠ow:=Agm;have ed:l9.obj l.nobj=[sc (.bool x.out),sc (.bool x.head.nt),str x.head.pred,sl ih x.head.terms.length (x.head.terms.map str),sl id x.body.length b]:=by rw[bi.obj _ Agm bd,ap.obj _ Agm,cm]
           have d8:=bi.nobj;have HN:Agt (L1 fz A mo x j O (P3 B) (k+1) O2 (P3 B2q)/\∀a∈O2,clA a):=⟨rW hA.gnd hH.cl.1 bq bn c9.out HG.out b7 c6 bv,zZ hA d0 d6.out c6⟩;have be:N2+O.length<=N+1+O2.length+(k+1)*Gm c0 A.length q:=by rw[Ad1];omega
           have fh:=c6.len;refine⟨A.length-(k+1),Agm,k+1,ido2,N2,O2,oc2,B2q,?_⟩
           ((repeat' refine Zi ?_ ?_)<;>first|exact Xq|exact HN|exact ey|exact c5|exact be|exact Xs)
          ·have HN:Agt (L1 fz A mo x j O (P3 B) (k+1) O' (P3 B')/\∀a∈O',clA a):=⟨rX bh.out.1 HG.out b7,bh.out.2⟩;have be:N'+O.length<=N+1+O'.length+(k+1)*Gm c0 A.length q:=by rw[Ad1];omega
           clear b7
           repeat' first|refine Z1 ?_|refine Z8 fun ya J=>?_|refine Z4 ?_;clear J ya|refine Z2 ?_ ?_<;>intro h am<;>try exact Xp|refine Z3 ?_|exact Zt|apply J.out;clear J ya
           refine⟨A.length-(k+1),Agm,k+1,ido',N',O',oc',B',?_⟩
           ((repeat' refine Zi ?_ ?_)<;>first|exact Xq|exact HN|exact dw|exact an|exact be|exact Xs)
        ·have en:k=A.length:=Agm;subst en
         have HQ:Agt (Rj fz A cA ida mo c0 (q+1) x ow ido O B N l l5):=
          ⟨ido',O',oc',B',N',ah,ab,wF hA.gnd hH.cl bq bn hS bh.out.1,by rw[cv];omega⟩
         clear bh ah ab
         repeat' first|refine Z1 ?_|refine Z8 fun ya J=>?_|refine Z4 ?_;clear J ya|refine Z2 ?_ ?_<;>intro h am<;>try exact Xp|refine Z3 ?_|exact Zt|apply J.out;clear J ya
         first|exact⟨_,rfl,HQ.out⟩|exact HQ.out|exact⟨_,rfl⟩
structure KH (io:Nat)(l l':St):Prop where
 nobj:l.nobj<=l'.nobj
 obj:∀o,o<l.nobj->l'.obj o=l.obj o
 ver:∀o,o<l.nobj->l'.ver o=l.ver o
 ntop:l.ntop<=l'.ntop
 top:∀k,k<l.ntop->k+2≠io->l'.top k=l.top k
structure cW (fz:Bool)(A:List RAtom)(mo:Int)(x:RItem)(O O':List RAtom):Prop where
 ext:∃nw,O'=O++nw/\∀h∈nw,Rw fz A x h/\h∉A
 nd:O'.Nodup
 len:(O'.length:Int)<=mo+1
 done:(O'.length:Int)<=mo->DoneX fz A O' x
def B0k:BK:=List.replicate 4096 (1,[])
theorem yL (s:Tx):¬P3 B0k s:=by
 rintro⟨x,hx,hm⟩;have:x=(1,[]):=by
  have:=Adp hx;exact (Af8.1 this).2
 subst this;simp at hm
theorem sD (fz:Bool)(A:List RAtom)(cA:List AV)(ida:Nat)(mo:Int)(c0:Nat)(hA:Gx A cA)(hm0:0<=mo)(hm1:mo<=900):∀p,yA fz A cA ida mo c0 p:=by
 intro p;induction p with
 |zero=>exact Zp fz A cA ida mo c0 hA hm0 hm1 0 (fun q h=>Agm)
 |succ p ih=>exact Zp fz A cA ida mo c0 hA hm0 hm1 (p+1) (fun q h=>by have:p=q:=Agm;subst this;exact ih)
theorem WOb.outs {l:St}{ow ida nA:Nat}{cA:List AV}{fz:Bool}{mo:Int}{ido:Nat}{O:List RAtom}{oc:List AV}{B:BK}{N:Nat}(h:WOb l ow ida nA cA fz mo ido O oc B N):∃wc:List AV,l.obj ow=wc/\wc[3]?=some (sl ido O.length oc)/\wc.length=4100:=⟨_,h.ob,rfl,H0 h.bl⟩
theorem qH {ida nA:Nat}{cA:List AV}{fz:Bool}{mo:Int}{ido nO:Nat}{oc:List AV}:(((((wkZ.map cst1).set 0 (sl ida nA cA)).set 1 (sc (.bool fz))).set 3 (sl ido nO oc)).set 2 (sc (.int .i64 mo)))=Cv ida nA cA fz mo ido nO oc B0k:=by
 have e:wkZ.map cst1=nilS::sc (.bool false)::sc (.int .i64 0)::nilS::List.replicate 4096 nilS:=by
  unfold wkZ;rw[Ad2,List.map_replicate];rfl
 rw[e];unfold Cv Ou B0k;rw[List.map_replicate];rfl
theorem Acl (l:St){ido nO:Nat}(h:Live l ido nO):Rws l (Dh ido nO B0k):=by
 have hm:∀x∈B0k.map (fun x:Nat×List Tx=>(x.1,x.2.length)),x=(1,0):=fun x hx=>by
  obtain⟨y,hy,rfl⟩:=Ae4.1 hx;rw[(Af8.1 hy).2];rfl
 refine⟨fun x hx=>?_,fun i j x y hx hy aa=>?_⟩
 ·rcases Ae2.1 hx with rfl|hx
  ·exact h
  ·rw[hm x hx];exact .inl ⟨rfl,rfl⟩
 ·cases i with
  |zero=>
   cases j with
   |zero=>omega
   |succ j=>
    have:=hm y (Adp (i:=j) (by simpa[Dh]using hy));subst this;by_cases e:x.1=1
    ·exact .inl e
    ·exact .inr e
  |succ i=>
   have:=hm x (Adp (i:=i) (by simpa[Dh]using hx));subst this;exact .inl rfl
theorem Y2 {ido nO:Nat}{x:Nat×Nat}(h:x∈Dh ido nO B0k):x.1=ido\/x.1=1:=by
 rcases Ae2.1 h with rfl|h
 ·exact .inl rfl
 ·obtain⟨y,hy,rfl⟩:=Ae4.1 h;rw[(Af8.1 hy).2];exact .inr rfl
theorem mE (fz:Bool)(A:List RAtom)(cA:List AV)(ida:Nat)(mo:Int)(c0 p:Nat)(hA:Gx A cA)(hm0:0<=mo)(hm1:mo<=900)(x:RItem)(c:List AV)(hc:EItem x c)(hH:HalfOk fz c0 p x)(ah:Gm c0 A.length p+2002<=1000000000000)(O:List RAtom)(oc:List AV)(ido:Nat)(hO:EL B6 O oc)(am:∀a∈O,clA a)(ak:O.Nodup)(ad:(O.length:Int)<=mo+1)(l:St)(hL:Live l ido O.length):
  ACalls Tryz.prog 182 [ag c,sl ida A.length cA,sc (.bool fz),sl ido O.length oc,sc (.int .i64 mo)] l fun r l'=>∃ido' O' oc',r=sl ido' O'.length oc'/\EL B6 O' oc'/\Live l' ido' O'.length/\(ido'=ido\/ido'=1\/l.ntop+2<=ido')/\KH ido l l'/\cW fz A mo x O O':=by
 have af:=hc;obtain⟨ih,id,b,hb,rfl⟩:=hc.cells;unfold A5;unfold A5 at af
 have ai:WOb ((l.new [sc (.bool x.out),sc (.bool x.head.nt),str x.head.pred,sl ih x.head.terms.length (x.head.terms.map str),sl id x.body.length b]).new (((((wkZ.map cst1).set 0 (sl ida A.length cA)).set 1 (sc (.bool fz))).set 3 (sl ido O.length oc)).set 2 (sc (.int .i64 mo)))) (l.nobj+1) ida A.length cA fz mo ido O oc B0k 0:=
  ⟨by rw[Ca Agq Agq];exact qH,Agq,by simp[B0k],hO,Acl _ hL,fun y hy=>by rw[(Af8.1 hy).2];simp⟩
 have ap:=sD fz A cA ida mo c0 hA hm0 hm1 p x _ af hH (l.nobj+1) ido O oc B0k 0 _ ai Agm ak ad am (fun y _ _ hs=>absurd hs (yL _));clear ai;refine Z9 25 [.tmp 10] Tryz.func182 ?_
 repeat' first|refine Z1 ?_|refine Z8 fun ya J=>?_|refine Z4 ?_;clear J ya|refine Z5 ?_;refine Xi (ap) ?_;rintro _ _ ⟨ido',O',oc',B',N',ae,aa,ab,ay⟩;(obtain⟨wc1,aj,aw,av⟩:=ae.outs;have ac:=aa.nobj;simp only[Aa]at ac)|refine Z3 ?_|exact Zt|apply J.out;clear J ya
 rename_i l1;have an:Live l1 ido' O'.length:=ae.rw'.1 (ido',O'.length) (by simp[Dh]);have hid:ido'=ido\/ido'=1\/l.ntop+2<=ido':=by
  rcases aa.mid (ido',O'.length) (by simp[Dh])with⟨y,hy,e⟩|e|e
  ·rcases Y2 hy with h|h
   ·exact .inl (e.symm.trans h)
   ·exact .inr (.inl (e.symm.trans h))
  ·exact .inr (.inl e)
  ·exact .inr (.inr e)
 have ao:KH ido l l1:=
  ⟨Agm,fun o ho=>by rw[aa.obj o Agq Agm,Ah Agq,Ah Agm],fun o ho=>by rw[aa.ver o Agq Agm];rfl,aa.ntop,fun k hk ax=>aa.top k hk (fun y hy e=>by
   rcases Y2 hy with h|h<;>omega)⟩
 have au:cW fz A mo x O O':=⟨ab.ext,ab.nd,ab.len,ab.done⟩;exact⟨_,rfl,ido',O',oc',rfl,ae.oe,an,hid,ao,au⟩
end Go.Proofs.YtmoeoppbmhfbpaaGreatDoorD
