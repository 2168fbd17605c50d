import Derived.Test.YtmoeoppbmhfbpaaGreatDoorDDocG
import Derived.Test.YtmoeoppbmhfbpaaGreatDoorDSpaE
import Derived.Test.YtmoeoppbmhfbpaaGreatDoorDPrtF
set_option maxHeartbeats 64000000
set_option maxRecDepth 100000
set_option linter.all false
namespace Go.Proofs.YtmoeoppbmhfbpaaGreatDoorD
open Go.Abs
def Sat (fz:Bool)(l:List RItem)(giv:List RAtom)(C:RAtom->Prop):Prop:=(∀a∈giv,C a)/\∀A':List RAtom,(∀a∈A',C a)->(∀a∈giv,a∈A')->∀x∈l,∀h,Rw fz A' x h->C h
structure qC (fz:Bool)(l:List RItem)(giv:List RAtom)(limit:Nat)(A:List RAtom):Prop where
 gv:∀a∈giv,a∈A
 nd:A.Nodup
 len:A.length<=limit
 cl:∀x∈l,DoneX fz A [] x
 least:∀C,Sat fz l giv C->∀a∈A,C a
def jX (fz:Bool)(l:List RItem)(giv:List RAtom)(limit:Nat):Prop:=∀C,Sat fz l giv C->∃L:List RAtom,L.Nodup/\limit<L.length/\∀a∈L,C a
def cU (fz:Bool)(limit:Nat)(x:RItem):Prop:=∃c0 p,HalfOk fz c0 p x/\∀a,a<=limit->Gm c0 a p+2002<=1000000000000
theorem Own.ofLive {σ0 d d':St}{io io' n n':Nat}(hK:Keep σ0 d)(hO:Own σ0 d io n)(hL:Live d' io' n')(hid:io'=io\/io'=1\/d.ntop+2<=io'):Own σ0 d' io' n':=by
 rcases hL with h|⟨k,e1,e2,e3,e4⟩
 ·exact .inl h
 ·refine .inr ⟨k,e1,?_,e2,e3,e4⟩;rcases hid with h|h|h
  ·rcases hO with⟨h1,-⟩|⟨k',f1,f2,-⟩
   ·omega
   ·omega
  ·omega
  ·have:=hK.ntop;omega
theorem Keep.kh {σ0 d d':St}{io n:Nat}(hK:Keep σ0 d)(hO:Own σ0 d io n)(h:KH io d d'):Keep σ0 d':=
 ⟨Ade hK.nobj h.nobj,fun o ho=>(h.obj o (Adf ho hK.nobj)).trans (hK.obj o ho),fun o ho=>(h.ver o (Adf ho hK.nobj)).trans (hK.ver o ho),Ade hK.ntop h.ntop,fun k hk=>(h.top k (Adf hk hK.ntop) (fun e=>by
  rcases hO with⟨h1,-⟩|⟨k',f1,f2,-⟩<;>omega)).trans (hK.top k hk)⟩
theorem Own.kh {σ0 d d':St}{ia io n m:Nat}(hO:Own σ0 d ia n)(aa:ia=1\/io=1\/ia≠io)(h:KH io d d'):Own σ0 d' ia n:=by
 rcases hO with h1|⟨k,f1,f2,f3,f4,f5⟩
 ·exact .inl h1
 ·refine .inr ⟨k,f1,f2,Adf f3 h.ntop,?_,f5⟩;rw[h.top k f3 Agm];exact f4
theorem Own.apart {σ0 d:St}{ia io io' n:Nat}(hO:Own σ0 d ia n)(aa:ia=1\/io=1\/ia≠io)(hid:io'=io\/io'=1\/d.ntop+2<=io'):ia=1\/io'=1\/ia≠io':=by
 rcases hid with rfl|h|h
 ·exact aa
 ·exact .inr (.inl h)
 ·rcases hO with⟨h1,-⟩|⟨k,f1,f2,f3,-⟩
  ·exact .inl h1
  ·exact .inr (.inr Agm)
structure SetI (fz:Bool)(l:List RItem)(giv:List RAtom)(A:List RAtom)(cA:List AV):Prop where
 el:EL B6 A cA
 gnd:∀a∈A,We a
 cl:∀a∈A,clA a
 nd:A.Nodup
 gv:∀a∈giv,a∈A
 least:∀C,Sat fz l giv C->∀a∈A,C a
structure OutI (fz:Bool)(l:List RItem)(A:List RAtom)(mo:Int)(i:Nat)(O:List RAtom)(oc:List AV):Prop where
 el:EL B6 O oc
 cl:∀a∈O,clA a
 nd:O.Nodup
 new:∀h∈O,h∉A/\∃x∈l,Rw fz A x h
 done:(O.length:Int)<=mo->∀x∈l.take i,DoneX fz A O x
theorem OutI.step {fz:Bool}{l:List RItem}{A:List RAtom}{cA:List AV}{mo:Int}{i:Nat}{O O':List RAtom}{oc oc':List AV}{x:RItem}{c0 p:Nat}(hA:Gx A cA)(hH:HalfOk fz c0 p x)(h:OutI fz l A mo i O oc)(hx:l[i]?=some x)(g:cW fz A mo x O O')(he:EL B6 O' oc'):OutI fz l A mo (i+1) O' oc':=by
 obtain⟨nw,e,f⟩:=g.ext;have ab:=Adp hx;refine⟨he,fun a ha=>?_,g.nd,fun a ha=>?_,fun aa y hy=>?_⟩
 ·rw[e]at ha;rcases Aet.1 ha with h'|h'
  ·exact h.cl a h'
  ·exact uZ hA hH (f a h').1
 ·rw[e]at ha;rcases Aet.1 ha with h'|h'
  ·exact h.new a h'
  ·exact⟨(f a h').2,x,ab,(f a h').1⟩
 ·rw[Ad0,hx]at hy;rcases Aet.1 hy with h'|h'
  ·exact (h.done (by rw[e]at aa;simp at aa;omega) y h').mono fun a ha=>by rw[e];exact Af5 _ ha
  ·simp at h';subst h';exact g.done aa
theorem SetI.tups {fz:Bool}{l:List RItem}{giv A:List RAtom}{cA:List AV}(h:SetI fz l giv A cA)(hl:A.length<=1000):Gx A cA:=⟨h.el,hl,h.gnd,h.cl⟩
theorem SetI.grow {fz:Bool}{l:List RItem}{giv A O:List RAtom}{cA oc c2:List AV}{mo:Int}{i limit:Nat}(h:SetI fz l giv A cA)(hl:A.length<=1000)(hr:∀x∈l,cU fz limit x)(g:OutI fz l A mo i O oc)(he:EL B6 (A++O) c2):SetI fz l giv (A++O) c2:=by
 refine⟨he,fun a ha=>?_,fun a ha=>?_,?_,fun a ha=>Af5 _ (h.gv a ha),fun C hC a ha=>?_⟩
 ·rcases Aet.1 ha with h'|h'
  ·exact h.gnd a h'
  ·obtain⟨-,x,hx,hs⟩:=g.new a h';obtain⟨c0,p,hH,-⟩:=hr x hx;exact yY h.gnd hH.saf hs
 ·rcases Aet.1 ha with h'|h'
  ·exact h.cl a h'
  ·exact g.cl a h'
 ·rw[Afr];exact⟨h.nd,g.nd,fun a ha b hb e=>(g.new b hb).1 (e ▸ ha)⟩
 ·rcases Aet.1 ha with h'|h'
  ·exact h.least C hC a h'
  ·obtain⟨-,x,hx,hs⟩:=g.new a h';exact hC.2 A (h.least C hC) h.gv x hx a hs
def xU (fz:Bool)(l:List RItem)(giv:List RAtom)(limit:Nat)(r:AV):Prop:=(∃A ida cA,r=tp [sl ida A.length cA,sc (.bool true)]/\Gx A cA/\qC fz l giv limit A)\/(r=tp [nilS,sc (.bool false)]/\jX fz l giv limit)
theorem bA (fz:Bool)(l:List RItem)(cs:List AV)(idl:Nat)(giv:List RAtom)(cg:List AV)(idg:Nat)(limit:Nat)(hl:EL EItem l cs)(cy:l.length<=1000)(hg:Gx giv cg)(b5:limit<=900)(cz:giv.length<=limit)(hr:∀x∈l,cU fz limit x)(d:St):
  ACalls Tryz.prog 141 [sl idl l.length cs,sl idg giv.length cg,sc (.bool fz),sc (.int .i64 limit)] d fun r d'=>xU fz l giv limit r/\Keep d d':=by
 have c5:=EL.length Ci hl;have b8:=EL.length Bc hg.el;refine Z9 96 [.tmp 8,.tmp 9] Tryz.func141 ?_
 refine zz ?_
 refine Ad (fun m s d'=>∃(i ia:Nat) (A:List RAtom) (cA:List AV),m=giv.length-i/\i<=giv.length/\s 0=sl idl l.length cs/\s 1=sl idg giv.length cg/\s 2=sc (.bool fz)/\s 3=sc (.int .i64 limit)/\s 10=sl ia A.length cA/\s 11=sc (.int .i64 i)/\Keep d d'/\Own d d' ia A.length/\cA.length=A.length*3/\A.length<=i/\Agt (EL B6 A cA/\A.Nodup/\∀a,a∈A↔a∈giv.take i)) giv.length
  ⟨0,1,[],[],Agm,Agm,by simp[upd,initS],by simp[upd,initS],by simp[upd,initS],by simp[upd,initS],Ago,Ago,Keep.refl _,Own.nil _ _,rfl,by simp,rfl,Afs,by simp⟩ ?_
 rintro m s d' ⟨i,ia,A,cA,rfl,hi,h0,h1,h2,h3,an,cu,hK,hO,ay,cr,hH⟩;by_cases am:i<giv.length
 ·have aa:=Adn am;have az:=Aes am;obtain⟨it,r,hd⟩:=Cm hg.el aa;generalize giv[i]=w at aa az hd;have cq:∀a∈A,a.terms.length<=1000:=fun a ha=>(hg.cl a (Af1 ((hH.out.2.2 a).1 ha))).2.2;have ad:=fun d=>Fx A cA ia w _ hH.out.1 ⟨it,rfl⟩ Agm cq d;have bw:Agt (giv.take (i+1)=giv.take i++[w]):=by rw[Agt,Ad0,aa,Aez]
  clear aa;by_cases ak:w∈A
  ·have ad:∀d,ACalls Tryz.prog 147 [sl ia A.length cA,ag [sc (.bool w.nt),str w.pred,sl it w.terms.length (w.terms.map str)]] d fun r d'=>r=sc (.bool true)/\Keep d d':=fun d=>(ad d).mono fun r d' ⟨b,h1,h2,h3⟩=>⟨by rw[h1,h2.2 ak],h3⟩
   have HN:Agt (EL B6 A cA/\A.Nodup/\∀a,a∈A↔a∈giv.take (i+1)):=⟨hH.out.1,hH.out.2.1,fun a=>by
    rw[bw.out,Aet,<-hH.out.2.2 a,Afk]
    exact⟨.inl,fun h=>h.elim id fun e=>e ▸ ak⟩⟩
   clear ak hH
   repeat' first|refine Z1 ?_|refine Z8 fun ya J=>?_|refine Z4 ?_;clear J ya|refine Z2 ?_ ?_<;>intro h ab<;>try exact Xp|refine Z5 ?_;refine Xi (ad _) ?_;rintro _ _ ⟨rfl,af⟩|refine Z3 ?_|exact Zt|apply J.out;clear J ya
   refine⟨giv.length-(i+1),Agm,i+1,ia,A,cA,?_⟩
   ((repeat' refine Zi ?_ ?_)<;>first|exact Xq|exact HN|exact (hK.trans af)|exact (Own.keep hO af)|exact Xs)
  ·have ad:∀d,ACalls Tryz.prog 147 [sl ia A.length cA,ag [sc (.bool w.nt),str w.pred,sl it w.terms.length (w.terms.map str)]] d fun r d'=>r=sc (.bool false)/\Keep d d':=fun d=>(ad d).mono fun r d' ⟨b,h1,h2,h3⟩=>⟨by
    cases b with
    |false=>exact h1
    |true=>exact absurd (h2.1 rfl) ak,h3⟩
   have HN:Agt (EL B6 (A++[w]) (cA++[sc (.bool w.nt),str w.pred,sl it w.terms.length (w.terms.map str)])/\(A++[w]).Nodup/\∀a,a∈A++[w]↔a∈giv.take (i+1)):=⟨EL.append hH.out.1 (EL.single ⟨it,rfl⟩),by
     rw[Afr];exact⟨hH.out.2.1,by simp,fun a ha b hb e=>ak (by rw[Afk]at hb;rw[<-hb,<-e];exact ha)⟩,fun a=>by
    rw[bw.out,Aet,Aet,<-hH.out.2.2 a]⟩
   clear ak hH
   repeat' first|refine Z1 ?_|refine Z8 fun ya J=>?_|refine Z4 ?_;clear J ya|refine Z2 ?_ ?_<;>intro h ab<;>try exact Xp|refine Z6 ?_;intro idn dn bd cn bf ax be aw|refine Z5 ?_;refine Xi (ad _) ?_;rintro _ _ ⟨rfl,af⟩;(have cm:=hK.trans af;have cc:=Own.keep hO af)|refine Z3 ?_|exact Zt|apply J.out;clear J ya
   refine⟨giv.length-(i+1),Agm,i+1,idn,A++[w],cA++[sc (.bool w.nt),str w.pred,sl it w.terms.length (w.terms.map str)],?_⟩
   ((repeat' refine Zi ?_ ?_)<;>first|exact Xq|exact HN|exact (by rw[Aeb];exact bd)|exact Xs)
 ·have ba:i=giv.length:=Agm;subst ba;have b0:Agt (SetI fz l giv A cA):=by
   obtain⟨e1,e2,e3⟩:=hH.out;rw[Adu]at e3;exact⟨e1,fun a ha=>hg.gnd a ((e3 a).1 ha),fun a ha=>hg.cl a ((e3 a).1 ha),e2,fun a ha=>(e3 a).2 ha,fun C hC a ha=>hC.1 a ((e3 a).1 ha)⟩
  have a4:A.length<=limit:=Agm;clear hH cr hi
  repeat' first|refine Z1 ?_|refine Z8 fun ya J=>?_|refine Z4 ?_;clear J ya|refine Z2 ?_ ?_<;>intro h ab<;>try exact Xp|refine Z3 ?_|exact Zt|apply J.out;clear J ya
  refine Ad (fun m s d'=>∃(r ia:Nat) (A:List RAtom) (cA:List AV),m=limit+1-r/\r<=limit+1/\s 0=sl idl l.length cs/\s 2=sc (.bool fz)/\s 3=sc (.int .i64 limit)/\s 10=sl ia A.length cA/\s 12=sc (.int .i64 r)/\Keep d d'/\Own d d' ia A.length/\cA.length=A.length*3/\A.length<=limit/\r<=A.length/\Agt (SetI fz l giv A cA)) (limit+1)
   ⟨0,ia,A,cA,Agm,Agm,Agn,Agn,Agn,Agn,Ago,hK,hO,ay,a4,Agm,b0.out⟩ ?_
  clear h0 h1 h2 h3 an cu hK hO ay b0 a4 am;rintro m s d1 ⟨r,ia,A,cA,rfl,cv,h0,h2,h3,an,a5,hK,hO,ay,a4,cw,hS⟩;have bi:r<=limit:=Agm;have br:Gx A cA:=hS.out.tups Agm;obtain⟨mo,a8⟩:∃mo:Int,mo=(limit:Int)-(A.length:Int):=⟨_,rfl⟩;have a7:0<=mo:=Agm;have a6:mo<=900:=Agm;have da:Agt _:=a8;have b2:(limit:Int)-(A.length:Int)=mo:=a8.symm;have cx:mo<=(limit:Int)-(A.length:Int)/\(limit:Int)-(A.length:Int)<=mo:=Agm;clear a8
  repeat' first|refine Z1 ?_|refine Z8 fun ya J=>?_|refine Z4 ?_;clear J ya|refine Z2 ?_ ?_<;>intro h ab<;>try exact Xp|refine Z3 ?_|exact Zt|apply J.out;clear J ya
  refine Ad (fun m s d'=>∃(i io:Nat) (O:List RAtom) (oc:List AV),m=l.length-i/\i<=l.length/\s 0=sl idl l.length cs/\s 2=sc (.bool fz)/\s 3=sc (.int .i64 limit)/\s 10=sl ia A.length cA/\s 12=sc (.int .i64 r)/\s 13=sc (.int .i64 A.length)/\s 14=sl io O.length oc/\s 15=sc (.int .i64 i)/\Keep d d'/\Own d d' ia A.length/\Own d d' io O.length/\(ia=1\/io=1\/ia≠io)/\(O.length:Int)<=mo+1/\Agt (OutI fz l A mo i O oc)) l.length
   ⟨0,1,[],[],Agm,Agm,Agn,Agn,Agn,Agn,Agn,Agn,Ago,Ago,hK,hO,Own.nil _ _,.inr (.inl rfl),by simp;omega,rfl,by simp,Afs,by simp,fun _ x hx=>by simp at hx⟩ ?_
  clear h0 h2 h3 an a5 hK hO;rintro m s d2 ⟨i,io,O,oc,rfl,hi,h0,h2,h3,an,a5,bv,bu,ct,hK,hO,a0,hap,cd,ac⟩;by_cases am:i<l.length
  ·have aa:=Adn am;obtain⟨ih,id,b,rr,hb,hd⟩:=C4 hl aa;have bg:=hr _ (Aes am);generalize l[i]=x at aa bg hd hb;obtain⟨c0,p,bp,bn⟩:=bg;have au:=bn A.length a4;have cp:=fun d (hL:Live d io O.length)=>mE fz A cA ia mo c0 p br a7 a6 x [sc (.bool x.out),sc (.bool x.head.nt),str x.head.pred,sl ih x.head.terms.length (x.head.terms.map str),sl id x.body.length b] ⟨[sc (.bool x.head.nt),str x.head.pred,sl ih x.head.terms.length (x.head.terms.map str)],id,b,⟨ih,rfl⟩,hb,rfl⟩ bp au O oc io ac.out.el ac.out.cl ac.out.nd cd d hL;have ch:Live d2 io O.length:=by
    rcases a0 with h|⟨k,f1,f2,f3,f4,f5⟩
    ·exact .inl h
    ·exact .inr ⟨k,f1,f3,f4,f5⟩
   have bz:Agt (∀O' oc',cW fz A mo x O O'->EL B6 O' oc'->OutI fz l A mo (i+1) O' oc'):=fun O' oc' g he=>OutI.step br bp ac.out aa g he;clear aa bn
   repeat' first|refine Z1 ?_|refine Z8 fun ya J=>?_|refine Z4 ?_;clear J ya|refine Z2 ?_ ?_<;>intro h ab<;>try exact Xp|refine Z5 ?_;refine Xi (cp _ ch) ?_;rintro _ _ ⟨io',O',oc',rfl,bq,ck,ap,av,ai⟩;(have HN:Agt _:=bz.out O' oc' ai bq;have ao:=ai.len;clear bz bq ai)|refine Z3 ?_|exact Zt|apply J.out;clear J ya
   rename_i d3;have co:=Keep.kh hK a0 av;have cf:=Own.kh (m:=0) hO hap av;have ce:=Own.ofLive hK a0 ck ap;have bc:=Own.apart hO hap ap;refine⟨l.length-(i+1),Agm,i+1,io',O',oc',?_⟩
   ((repeat' refine Zi ?_ ?_)<;>first|exact Xq|exact HN|exact co|exact cf|exact ce|exact bc|exact ao|exact Xs)
  ·have ba:i=l.length:=Agm;subst ba;have b4:=EL.length Bc ac.out.el;have bo:A.length+O.length<=limit+1:=Agm
   repeat' first|refine Z1 ?_|refine Z8 fun ya J=>?_|refine Z4 ?_;clear J ya|refine Z2 ?_ ?_<;>intro h ab<;>try exact Xp|refine Z3 ?_|exact Zt|apply J.out;clear J ya
   refine Ad (fun m s d'=>∃(q ia2:Nat) (L:List RAtom) (c2:List AV),m=O.length-q/\q<=O.length/\s 0=sl idl l.length cs/\s 2=sc (.bool fz)/\s 3=sc (.int .i64 limit)/\s 10=sl ia2 L.length c2/\s 12=sc (.int .i64 r)/\s 13=sc (.int .i64 A.length)/\s 14=sl io O.length oc/\s 16=sc (.int .i64 q)/\Keep d d'/\Own d d' ia2 L.length/\c2.length=L.length*3/\L.length<=A.length+q/\A.length+q<=L.length/\Agt (L=A++O.take q/\EL B6 L c2)) O.length
    ⟨0,ia,A,cA,Agm,Agm,Agn,Agn,Agn,Agn,Agn,Agn,Agn,Ago,hK,hO,ay,Agm,Agm,by simp,hS.out.el⟩ ?_
   clear h0 h2 h3 an a5 bv bu ct hK hO a0 hap;rintro m s d3 ⟨q,ia2,L,c2,rfl,hq,h0,h2,h3,an,a5,bv,bu,c9,hK,hO,c6,c8,c7,ah⟩;by_cases a9:q<O.length
   ·have aa:=Adn a9;have az:=Aes a9;obtain⟨it,rr,hd⟩:=Cm ac.out.el aa;generalize O[q]=w at aa az hd;have ci:∀a∈L,a.terms.length<=1000:=fun a ha=>by
     rw[ah.out.1]at ha;rcases Aet.1 ha with h'|h'
     ·exact (hS.out.cl a h').2.2
     ·exact (ac.out.cl a (Af1 h')).2.2
    have bh:w∉L:=by
     rw[ah.out.1];intro h;rcases Aet.1 h with h'|h'
     ·exact (ac.out.new w az).1 h'
     ·obtain⟨z,hz⟩:=Afc h';have b1:=(Adm.1 hz).1;rw[Aec]at b1;rw[Adk,if_pos Agm]at hz;have:=(List.getElem?_inj a9 ac.out.nd).1 (aa.trans hz.symm);omega
    have ad:=fun d=>Fx L c2 ia2 w _ ah.out.2 ⟨it,rfl⟩ Agm ci d
    have ad:∀d,ACalls Tryz.prog 147 [sl ia2 L.length c2,ag [sc (.bool w.nt),str w.pred,sl it w.terms.length (w.terms.map str)]] d fun r d'=>r=sc (.bool false)/\Keep d d':=fun d=>(ad d).mono fun r d' ⟨b,h1,h2,h3⟩=>⟨by
     cases b with
     |false=>exact h1
     |true=>exact absurd (h2.1 rfl) bh,h3⟩
    have b7:(L.length:Int)<=(limit:Int):=Agm;have b6:decide ((L.length:Int)<=(limit:Int))=true:=by simpa using b7
    have HN:Agt (L++[w]=A++O.take (q+1)/\EL B6 (L++[w]) (c2++[sc (.bool w.nt),str w.pred,sl it w.terms.length (w.terms.map str)])):=⟨by rw[Ad0,aa,ah.out.1];simp,EL.append ah.out.2 (EL.single ⟨it,rfl⟩)⟩;clear aa bh
    repeat' first|refine Z1 ?_|refine Z8 fun ya J=>?_|refine Z4 ?_;clear J ya|refine Z2 ?_ ?_<;>intro h ab<;>try exact Xp|refine Z6 ?_;intro idn dn bd cn bf ax be aw|refine Z5 ?_;refine Xi (ad _) ?_;rintro _ _ ⟨rfl,af⟩;(have cm:=hK.trans af;have cc:=Own.keep hO af)|refine Z3 ?_|exact Zt|apply J.out;clear J ya
    refine⟨O.length-(q+1),Agm,q+1,idn,L++[w],c2++[sc (.bool w.nt),str w.pred,sl it w.terms.length (w.terms.map str)],?_⟩
    ((repeat' refine Zi ?_ ?_)<;>first|exact Xq|exact HN|exact (by rw[Aeb];exact bd)|exact Xs)
   ·have b3:q=O.length:=Agm;subst b3;have ae:L=A++O:=by have:=ah.out.1;rw[Adu]at this;exact this
    have aj:Agt (SetI fz l giv L c2):=by
     rw[ae];exact hS.out.grow Agm hr ac.out (by rw[<-ae];exact ah.out.2)
    by_cases bb:limit<L.length
    ·have cb:decide ((L.length:Int)>(limit:Int))=true:=by simp;omega
     have ca:decide ((limit:Int)<(L.length:Int))=true:=by simp;omega
     have HR:Agt (jX fz l giv limit):=fun C hC=>⟨L,aj.out.nd,bb,aj.out.least C hC⟩;clear ae
     repeat' first|refine Z1 ?_|refine Z8 fun ya J=>?_|refine Z4 ?_;clear J ya|refine Z2 ?_ ?_<;>intro h ab<;>try exact Xp|refine Z3 ?_|exact Zt|apply J.out;clear J ya
     first|exact⟨_,rfl,.inr ⟨rfl,HR.out⟩,hK⟩|exact⟨_,rfl,.inr ⟨rfl,HR.out⟩⟩
    ·have cb:decide ((L.length:Int)>(limit:Int))=false:=by simp;omega
     have ca:decide ((limit:Int)<(L.length:Int))=false:=by simp;omega
     by_cases hz:O.length=0
     ·have a3:O=[]:=Ads hz;have he:((L.length:Int)==(A.length:Int))=true:=by rw[ae,a3];simp
      have HR:Agt (xU fz l giv limit (tp [sl ia2 L.length c2,sc (.bool true)])):=.inl ⟨L,ia2,c2,rfl,aj.out.tups Agm,aj.out.gv,aj.out.nd,Agm,fun x hx h hs=>by
       have b9:=ac.out.done (by rw[hz];omega) x (by rw[Adu];exact hx);have cj:L=A:=by rw[ae,a3,Ad4]
       rw[cj]at hs⊢;rcases b9 h hs with h'|h'
       ·exact .inl h'
       ·rw[a3]at h';exact .inr h',aj.out.least⟩
      clear ae a3
      repeat' first|refine Z1 ?_|refine Z8 fun ya J=>?_|refine Z4 ?_;clear J ya|refine Z2 ?_ ?_<;>intro h ab<;>try exact Xp|refine Z3 ?_|exact Zt|apply J.out;clear J ya
      first|exact⟨_,rfl,HR.out,hK⟩|exact⟨_,rfl,HR.out⟩
     ·have he:((L.length:Int)==(A.length:Int))=false:=by rw[ae];simp;omega
      have bm:A.length+1<=L.length:=by rw[ae];simp;omega
      clear ae
      repeat' first|refine Z1 ?_|refine Z8 fun ya J=>?_|refine Z4 ?_;clear J ya|refine Z2 ?_ ?_<;>intro h ab<;>try exact Xp|refine Z3 ?_|exact Zt|apply J.out;clear J ya
      refine⟨limit+1-(r+1),Agm,r+1,ia2,L,c2,?_⟩
      ((repeat' refine Zi ?_ ?_)<;>first|exact Xq|exact aj|exact Xs)
def Gj (t:Tx):Tx:=if Ab t=true then 35::t else t
def Cl (a:RAtom):RAtom:=⟨a.nt,a.pred,a.terms.map Gj⟩
theorem O8 (a:RAtom)(ia:Nat)(hn:a.terms.length<=1000)(ht:∀t∈a.terms,t.length<=1000)(d:St):ACalls Tryz.prog 148 [ag [sc (.bool a.nt),str a.pred,sl ia a.terms.length (a.terms.map str)]] d fun r d'=>∃i,r=ag [sc (.bool a.nt),str a.pred,sl i a.terms.length ((Cl a).terms.map str)]/\Keep d d':=by
 have ax:({data:=#[35]}:ByteArray)=bs [35]:=rfl;refine Z9 34 [.cell 2 143] Tryz.func148 ?_
 refine zx ?_
 refine Ad (fun m s d'=>∃(i i3:Nat) (xs:List AV),m=a.terms.length-i/\i<=a.terms.length/\s 1=ptr d.nobj 0/\s 2=ptr (d.nobj+1) 0/\s 3=ptr (d.nobj+2) 0/\s 4=sc (.int .i64 i)/\Keep d d'/\d.nobj+2<d'.nobj/\d'.obj d.nobj=[sc (.bool a.nt),str a.pred,sl ia a.terms.length (a.terms.map str)]/\d'.obj (d.nobj+1)=[sc (.bool false),str [],nilS]/\d'.obj (d.nobj+2)=[sc (.bool a.nt),str a.pred,sl i3 i xs]/\Own d d' i3 i/\xs.length=i*1/\Agt (xs=((a.terms.take i).map Gj).map str)) a.terms.length
  ⟨0,1,[],Agm,Agm,Ago,Ago,Ago,Ago,Xs,Ags,?_,?_,?_,Own.nil _ _,by simp,by simp[Agt]⟩ ?_
 ·rw[Ak Agm,Ah Agq,Ah Agq,Al]
 ·rw[Ak Agm,Ah Agq,Ca Agq Agq]
 ·rw[Aj]
 rintro m s d' ⟨i,i3,xs,rfl,hi,h1,h2,h3,h4,hK,aw,ap,ao,an,hO,av,hX⟩;have au:=hK.nobj;by_cases ae:i<a.terms.length
 ·have aa:=Adn ae;have hd:=A2 ae;have ak:=ht _ (Aes ae);generalize a.terms[i]=u at hd aa ak;have HC:Agt (((a.terms.take (i+1)).map Gj).map str=((a.terms.take i).map Gj).map str++[str (Gj u)]):=by
   rw[Agt,Ad0,aa];simp
  clear aa;have hV:=fun d=>Co u d;cases hv:Ab u with
  |true=>
   rw[hv]at hV;have he:Gj u=35::u:=by unfold Gj;rw[if_pos hv]
   rw[he]at HC;clear he
   repeat' first|refine Z1 ?_|refine Z8 fun ya J=>?_|refine Z4 ?_;clear J ya|refine Z2 ?_ ?_<;>intro h ab<;>try exact Xp|refine Z6 ?_;intro idn dn af ah aj ad ai ac|refine Z5 ?_;refine Xi (hV _) ?_;rintro _ _ ⟨rfl,rfl⟩|refine Z7 ?_|exact Zt|apply J.out;clear J ya
   refine⟨a.terms.length-(i+1),Agm,i+1,idn,xs++[str (35::u)],?_⟩
   ((repeat' refine Zi ?_ ?_)<;>first|exact Xq|exact (ah.put Agm _)|exact (Own.put af _ _)|exact (by rw[Agt,HC.out,hX.out])|exact Xs)
  |false=>
   rw[hv]at hV;have he:Gj u=u:=by unfold Gj;rw[if_neg (by simp[hv])]
   rw[he]at HC;clear he
   repeat' first|refine Z1 ?_|refine Z8 fun ya J=>?_|refine Z4 ?_;clear J ya|refine Z2 ?_ ?_<;>intro h ab<;>try exact Xp|refine Z6 ?_;intro idn dn af ah aj ad ai ac|refine Z5 ?_;refine Xi (hV _) ?_;rintro _ _ ⟨rfl,rfl⟩|refine Z7 ?_|exact Zt|apply J.out;clear J ya
   refine⟨a.terms.length-(i+1),Agm,i+1,idn,xs++[str u],?_⟩
   ((repeat' refine Zi ?_ ?_)<;>first|exact Xq|exact (ah.put Agm _)|exact (Own.put af _ _)|exact (by rw[Agt,HC.out,hX.out])|exact Xs)
 ·have am:i=a.terms.length:=Agm;subst am;have hX:=hX.out;rw[Adu]at hX;subst hX
  repeat' first|refine Z1 ?_|refine Z8 fun ya J=>?_|refine Z4 ?_;clear J ya|refine Z2 ?_ ?_<;>intro h ab<;>try exact Xp|refine Z7 ?_|exact Zt|apply J.out;clear J ya
  exact⟨_,rfl,i3,rfl,hK.put Agm _⟩
def oth (li:List RItem)(n i:Nat):List RItem:=((li.take i).eraseIdx n).filter fun y=>!y.out
theorem gY {li:List RItem}{n i:Nat}{y:RItem}(h:li[i]?=some y):oth li n (i+1)=oth li n i++(if i=n\/y.out=true then []else [y]):=by
 have hi:=(Adm.1 h).1;have hl:(li.take i).length=i:=by rw[Aec];omega
 unfold oth;rw[Ad0,h,Aez];by_cases hn:i=n
 ·subst hn;rw[List.eraseIdx_append_of_length_le Agm,hl,Afd,if_pos (.inl rfl),Afo (l:=li.take i) Agm];simp
 ·have:(li.take i++[y]).eraseIdx n=(li.take i).eraseIdx n++[y]:=by
   rcases Nat.lt_or_gt_of_ne hn with h'|h'
   ·rw[List.eraseIdx_append_of_length_le Agm,Afo (l:=li.take i) Agm,Afo (l:=[y]) (by simp;omega)]
   ·rw[List.eraseIdx_append_of_lt_length Agm]
  rw[this,Afy];cases hy:y.out with
  |true=>rw[if_pos (.inr rfl)];simp[hy]
  |false=>rw[if_neg (by simp[hn])];simp[hy]
theorem Ek {li:List RItem}{n i:Nat}{y:RItem}(h:y∈oth li n i):y∈li/\y.out=false:=by
 unfold oth at h;rw[Afz]at h;exact⟨Af1 (Afn h.1),by simpa using h.2⟩
def On (li:List RItem)(n:Nat)(x:RItem)(b:Bool):Prop:=(∃A,qC true (oth li n li.length) (x.body.map Cl) 200 A/\(b=true↔Cl x.head∈A))\/(jX true (oth li n li.length) (x.body.map Cl) 200/\b=false)
theorem Aae (a:RAtom):We (Cl a):=fun t ht=>by
 obtain⟨u,-,rfl⟩:=Ae4.1 ht;unfold Gj;split
 ·rfl
 ·rename_i h;simpa using h
theorem Abz {a:RAtom}(h:clA a)(ht:∀t∈a.terms,Ab t=true->t.length<=999):clA (Cl a):=by
 refine⟨h.1,fun t hm=>?_,by show (a.terms.map _).length<=1000;rw[Ae3];exact h.2.2⟩;obtain⟨u,hu,rfl⟩:=Ae4.1 hm;have hc:=h.2.1 u hu;unfold Gj;split
 ·rename_i hv;refine⟨fun b hb=>?_,by simp;have:=ht u hu hv;omega⟩;rcases Ae2.1 hb with rfl|hb
  ·decide
  ·exact hc.1 b hb
 ·exact hc
theorem Wk (li:List RItem)(cs:List AV)(idl n:Nat)(x:RItem)(hl:EL EItem li cs)(bn:li.length<=1000)(hx:li[n]?=some x)(br:x.body.length<=200)(hh:clA x.head)(hb:∀a∈x.body,clA a/\∀t∈a.terms,Ab t=true->t.length<=999)(hr:∀y∈li,y.out=false->cU true 200 y)(d:St):
  ACalls Tryz.prog 98 [sl idl li.length cs,sc (.int .i64 n)] d fun r d'=>∃b,r=sc (.bool b)/\On li n x b/\Keep d d':=by
 have bp:=EL.length Ci hl;have bm:=(Adm.1 hx).1;obtain⟨ih,id,b,r,a0,hd⟩:=C4 hl hx;have bq:=EL.length Bc a0;refine Z9 74 [.tmp 4] Tryz.func98 ?_
 refine zx ?_
 refine Ad (fun m s d'=>∃(i i3:Nat) (xs:List AV),m=x.body.length-i/\i<=x.body.length/\s 0=sl idl li.length cs/\s 1=sc (.int .i64 n)/\s 5=sl i3 i xs/\s 6=sc (.int .i64 i)/\Keep d d'/\Own d d' i3 i/\xs.length=i*3/\Agt (EL B6 ((x.body.take i).map Cl) xs)) x.body.length
  ⟨0,1,[],Agm,Agm,by simp[upd,initS],by simp[upd,initS],Ago,Ago,Keep.refl _,Own.nil _ _,rfl,by simp[Agt,EL]⟩ ?_
 rintro m s d' ⟨i,i3,xs,rfl,hi,h0,h1,h5,h6,hK,hO,a6,hX⟩;by_cases af:i<x.body.length
 ·have aa:=Adn af;obtain⟨ia,r2,an⟩:=Cm a0 aa;obtain⟨ak,a7⟩:=hb _ (Aes af);generalize x.body[i]=w at aa an ak a7;have be:=fun d=>O8 w ia ak.2.2 (fun t ht=>(ak.2.1 t ht).2) d;have HG:Agt ((x.body.take (i+1)).map Cl=(x.body.take i).map Cl++[Cl w]):=by
   rw[Agt,Ad0,aa];simp
  clear aa
  repeat' first|refine Z1 ?_|refine Z8 fun ya J=>?_|refine Z4 ?_;clear J ya|refine Z2 ?_ ?_<;>intro h ab<;>try exact Xp|refine Z6 ?_;intro idn dn a3 bb ax aj aw ai|refine Z5 ?_;refine Xi (be _) ?_;rintro _ _ ⟨iw,rfl,ah⟩;(have bw:=hK.trans ah;have bu:=Own.keep hO ah)|refine Z7 ?_|exact Zt|apply J.out;clear J ya
  have HN:Agt (EL B6 ((x.body.take (i+1)).map Cl) (xs++[sc (.bool w.nt),str w.pred,sl iw w.terms.length ((Cl w).terms.map str)])):=by
   rw[Agt,HG.out];exact EL.append hX.out (EL.single ⟨iw,by simp[Cl]⟩)
  refine⟨x.body.length-(i+1),Agm,i+1,idn,xs++[sc (.bool w.nt),str w.pred,sl iw w.terms.length ((Cl w).terms.map str)],?_⟩
  ((repeat' refine Zi ?_ ?_)<;>first|exact Xq|exact HN|exact Xs)
 ·have ba:i=x.body.length:=Agm;subst ba;rw[Adu]at hX;have bg:Agt (Gx (x.body.map Cl) xs):=⟨hX.out,by simp;omega,fun a ha=>by obtain⟨y,-,rfl⟩:=Ae4.1 ha;exact Aae y,fun a ha=>by obtain⟨y,hy,rfl⟩:=Ae4.1 ha;exact Abz (hb y hy).1 (hb y hy).2⟩;clear hX
  repeat' first|refine Z1 ?_|refine Z8 fun ya J=>?_|refine Z4 ?_;clear J ya|refine Z2 ?_ ?_<;>intro h ab<;>try exact Xp|refine Z7 ?_|exact Zt|apply J.out;clear J ya
  refine Ad (fun m s d'=>∃(q i4:Nat) (L:List RItem) (ys:List AV),m=li.length-q/\q<=li.length/\s 0=sl idl li.length cs/\s 1=sc (.int .i64 n)/\s 5=sl i3 x.body.length xs/\s 7=sl i4 L.length ys/\s 8=sc (.int .i64 q)/\Keep d d'/\Own d d' i4 L.length/\ys.length=L.length*5/\L.length<=q/\Agt (L=oth li n q/\EL EItem L ys)) li.length
   ⟨0,1,[],[],Agm,Agm,Agn,Agn,Agn,Ago,Ago,hK,Own.nil _ _,rfl,by simp,by simp[oth],rfl⟩ ?_
  clear h0 h1 h5 h6 hK hO a6 af hi;rintro m s d2 ⟨q,i4,L,ys,rfl,hq,h0,h1,h5,h7,h8,hK,hO,bi,bv,hL⟩;by_cases af:q<li.length
  ·have aa:=Adn af;obtain⟨jh,jd,jb,r2,ay,an⟩:=C4 hl aa;generalize li[q]=y at aa ay an;have ae:Agt _:=gY (n:=n) aa;clear aa;by_cases ad:q=n
   ·have a9:((q:Int) !=(n:Int))=false:=by simp[ad]
    have HN:Agt (L=oth li n (q+1)/\EL EItem L ys):=⟨by rw[ae.out,if_pos (.inl ad),Ad4];exact hL.out.1,hL.out.2⟩;clear ad ae
    repeat' first|refine Z1 ?_|refine Z8 fun ya J=>?_|refine Z4 ?_;clear J ya|refine Z2 ?_ ?_<;>intro h ab<;>try exact Xp|refine Z7 ?_|exact Zt|apply J.out;clear J ya
    refine⟨li.length-(q+1),Agm,q+1,i4,L,ys,?_⟩
    ((repeat' refine Zi ?_ ?_)<;>first|exact Xq|exact HN|exact Xs)
   ·have a9:((q:Int) !=(n:Int))=true:=by simp;omega
    cases ac:y.out with
    |true=>
     have HN:Agt (L=oth li n (q+1)/\EL EItem L ys):=⟨by rw[ae.out,if_pos (.inr ac),Ad4];exact hL.out.1,hL.out.2⟩;clear ad ae
     repeat' first|refine Z1 ?_|refine Z8 fun ya J=>?_|refine Z4 ?_;clear J ya|refine Z2 ?_ ?_<;>intro h ab<;>try exact Xp|refine Z7 ?_|exact Zt|apply J.out;clear J ya
     refine⟨li.length-(q+1),Agm,q+1,i4,L,ys,?_⟩
     ((repeat' refine Zi ?_ ?_)<;>first|exact Xq|exact HN|exact Xs)
    |false=>
     have HN:Agt (L++[y]=oth li n (q+1)/\EL EItem (L++[y]) (ys++[sc (.bool y.out),sc (.bool y.head.nt),str y.head.pred,sl jh y.head.terms.length (y.head.terms.map str),sl jd y.body.length jb])):=⟨by rw[ae.out,if_neg (by simp[ad,ac]),hL.out.1],EL.append hL.out.2 (EL.single ⟨[sc (.bool y.head.nt),str y.head.pred,sl jh y.head.terms.length (y.head.terms.map str)],jd,jb,⟨jh,rfl⟩,ay,rfl⟩)⟩;rw[ac]at HN;clear ad ae
     repeat' first|refine Z1 ?_|refine Z8 fun ya J=>?_|refine Z4 ?_;clear J ya|refine Z2 ?_ ?_<;>intro h ab<;>try exact Xp|refine Z6 ?_;intro idn dn a3 bb ax aj aw ai|refine Z7 ?_|exact Zt|apply J.out;clear J ya
     refine⟨li.length-(q+1),Agm,q+1,idn,L++[y],ys++[sc (.bool false),sc (.bool y.head.nt),str y.head.pred,sl jh y.head.terms.length (y.head.terms.map str),sl jd y.body.length jb],?_⟩
     ((repeat' refine Zi ?_ ?_)<;>first|exact Xq|exact HN|exact (by rw[Aeb];exact a3)|exact Xs)
  ·have a8:q=li.length:=Agm;subst a8;obtain⟨av,a4⟩:=hL.out;have au:=fun d=>bA true L ys i4 (x.body.map Cl) xs i3 200 a4 Agm bg.out Agm (by simp;omega) (fun y hy=>by rw[av]at hy;exact hr y (Ek hy).1 (Ek hy).2) d;rw[Ae3]at au;have bf:=fun d=>O8 x.head ih hh.2.2 (fun t ht=>(hh.2.1 t ht).2) d;have a5:Agt _:=av;have ap:∀d,ACalls Tryz.prog 141 [sl i4 L.length ys,sl i3 x.body.length xs,sc (.bool true),sc (.int .i64 200)] d fun r d'=>∃A ida cA ok,r=tp [sl ida A.length cA,sc (.bool ok)]/\((ok=true/\Gx A cA/\qC true L (x.body.map Cl) 200 A)\/(ok=false/\A=[]/\jX true L (x.body.map Cl) 200))/\Keep d d':=fun d=>(au d).mono fun r d' ⟨h1,h2⟩=>by
    rcases h1 with⟨A,ida,cA,e,h3,h4⟩|⟨e,h3⟩
    ·exact⟨A,ida,cA,true,e,.inl ⟨rfl,h3,h4⟩,h2⟩
    ·exact⟨[],1,[],false,e,.inr ⟨rfl,rfl,h3⟩,h2⟩
   clear av a4 au hL;have ao:∀A cA ida,Gx A cA->∀iw d,ACalls Tryz.prog 147 [sl ida A.length cA,ag [sc (.bool x.head.nt),str x.head.pred,sl iw x.head.terms.length ((Cl x.head).terms.map str)]] d fun r d'=>∃b,r=sc (.bool b)/\(b=true↔Cl x.head∈A)/\Keep d d':=fun A cA ida hT iw d=>Fx A cA ida (Cl x.head) _ hT.el ⟨iw,by simp[Cl]⟩ hT.len (fun a ha=>(hT.cl a ha).2.2) d
   repeat' first|refine Z1 ?_|refine Z8 fun ya J=>?_|refine Z4 ?_;clear J ya|refine Z2 ?_ ?_<;>intro h ab<;>try exact Xp|(refine Z5 ?_;first|(refine Xi (ap _) ?_;rintro _ _ ⟨A,ida,cA,ok,rfl,am,ah⟩;(rcases am with⟨rfl,hT,hS⟩|⟨rfl,rfl,hS⟩<;>have HS:Agt _:=hS<;>clear hS))|(refine Xi (bf _) ?_;rintro _ _ ⟨iw,rfl,bd⟩)|(refine Xi (ao _ _ _ hT _ _) ?_;rintro _ _ ⟨bo,rfl,az,bc⟩;(have bh:Agt _:=az;clear az)))|refine Z7 ?_|exact Zt|apply J.out;clear J ya
   ·have HR:On li n x bo:=.inl ⟨A,by rw[<-a5.out];exact HS.out,bh.out⟩;exact⟨_,rfl,bo,rfl,HR,((hK.trans ah).trans bd).trans bc⟩
   ·have HR:On li n x false:=.inr ⟨by rw[<-a5.out];exact HS.out,rfl⟩;exact⟨_,rfl,false,rfl,HR,hK.trans ah⟩
theorem lC {t:Tx}(h:(As t).1=0):∀x∈Bh t,Cz x=true:=by
 have hs:∀i,i<(Bh t).length->Db (Bh t) i=false:=by
  unfold As at h;split at h
  ·simp at h
  split at h
  ·simp at h
  unfold Cf at h;split at h
  ·simp at h
  split at h
  ·simp at h
  ·rename_i hk;exact Ic hk
 intro x hx;obtain⟨i,hi⟩:=Afc hx;have h1:=hs i (Adm.1 hi).1;unfold Db at h1;rw[hi]at h1;simpa using h1
theorem jF {p:Tx}(h:aQ p)(hl:p.length<=1000):Clean p:=⟨fun b hb=>by
 have:=h.2 b hb
 refine⟨?_,?_,?_⟩<;>(rintro rfl;revert this;decide),hl⟩
theorem mP {p:Tx}(h:Ri p)(hl:p.length<=1000):Clean p:=⟨fun b hb=>by
 have:=h.2 b hb
 refine⟨?_,?_,?_⟩<;>(rintro rfl;revert this;decide),hl⟩
theorem pT {a:RAtom}(h:F1 a)(hs:short a):clA a:=⟨jF h.1 hs.1,fun t ht=>mP (h.2.2.2 t ht) (hs.2.2 t ht),hs.2.1⟩
theorem mO {a p:Nat}(ha:a<=200)(hp:p<=5):Gm 0 a p<=10000000000:=by
 have h1:∀p,Gm 0 a p<=Gm 0 200 p:=by
  intro p;induction p with
  |zero=>exact Adc _
  |succ p ih=>exact Af7 (Nat.mul_le_mul ha ih) _
 refine Ade (h1 p) ?_;have:p=0\/p=1\/p=2\/p=3\/p=4\/p=5:=Agm;rcases this with rfl|rfl|rfl|rfl|rfl|rfl<;>decide
structure Fine (x:RItem):Prop where
 w:Du x
 sh:x.short
 va:∀a∈Ae x,VA a
 dt:∀a∈Ae x,∀w∈a.terms,DT w
 safe:Cz x=true
theorem Ns {t:Tx}(h:(As t).1=0):∀x∈Bh t,Fine x:=by
 obtain⟨ab,l,r,hp⟩:=G1 h;obtain⟨g1,g2,g3,g4⟩:=D8 Agm hp;intro x hx;have aa:=hx;rw[g2]at hx;exact⟨g4 x hx,Q3 Agm hp x hx,Qi 16 t l r hp x hx,Kh (T:=DT) gR 16 t l r hp x hx,lC h x aa⟩
theorem Fine.cl {x:RItem}(h:Fine x)(ho:x.out=false):cY x:=
 ⟨ho,pT ((h.w.2.2 ho).1) h.sh.1,fun a ha=>pT ((h.w.2.2 ho).2.2.2 a ha) (h.sh.2 a ha)⟩
theorem Fine.rule {x:RItem}(h:Fine x)(ho:x.out=false):cU true 200 x:=by
 have hb:=(h.w.2.2 ho).2.2.1;refine⟨0,x.body.countP (Nj true),⟨h.cl ho,Agm,fun v hv hm=>?_,rfl,.inr fun a _=>rfl⟩,fun a ha=>?_⟩
 ·rcases hm with hm|⟨a,-,hp,-⟩
  ·have hs:=h.safe;unfold Cz at hs;simp only[Af9,Aev]at hs;have h1:=hs x.head (by simp[Ae,ho]);unfold sX at h1;simp only[Aew,Aev]at h1;have h2:Wv x v=false:=by simpa using h1 v hm
   unfold Wv at h2;rw[hv,Afb]at h2;have h3:Kq x v=true:=by simpa using h2
   unfold Kq at h3;simp only[Aer,Adr,Agf]at h3;obtain⟨a,ha,u,hu,-,rfl⟩:=h3;exact⟨a,ha,rfl,hu⟩
  ·cases hp
 ·have:=mO (a:=a) (p:=x.body.countP (Nj true)) ha (Ade List.countP_le_length hb);omega
theorem Fine.var {x:RItem}(h:Fine x){a:RAtom}(ha:a∈Ae x):∀t∈a.terms,Ab t=true->t.length<=999:=fun t ht hv=>by
 rcases h.va a ha t ht with⟨b,rfl,-⟩|⟨h1,h2⟩
 ·simp
 ·cases t with
  |nil=>exact absurd rfl h1
  |cons b r=>
   have hd:=h2 b (by simp);have hl:Bo b.toNat=true:=hv;unfold A1 at hd;unfold Bo at hl;simp at hd hl;omega
theorem pV {b c:UInt8}:((b.toNat:Int)==(c.toNat:Int))=decide (b=c):=by
 by_cases h:b=c
 ·subst h;simp
 ·rw[Agk h];have:b.toNat≠c.toNat:=fun e=>h (UInt8.toNat_inj.1 e);simpa using (by omega:¬(b.toNat:Int)=c.toNat)
theorem dX {w:Tx}(h:UT w)(d:St):ACalls Tryz.prog 110 [ag [sc (.bool (Ap w).1),sc (.int .i64 (Ap w).2)]] d fun r d'=>r=str w/\Keep d d':=by
 have:=dY (Ap w) h.dec.2 d;rwa[h.dec.1]at this
theorem aO (N:List Tx)(idn ids:Nat)(a:RAtom)(ha:a.pred∈N)(hN:N.length<=2000)(hn:a.terms.length<=1000)(hpl:a.pred.length<=1000)(hw:∀t∈a.terms,UT t)(d:St):
  ACalls Tryz.prog 270 [ag [sc (.int .i64 (N.idxOf a.pred:Nat)),sl ids a.terms.length (A0 a.terms)],sl idn N.length (N.map str)] d fun r d'=>r=sc (.int .i64 ((Be a).length:Nat))/\Keep d d':=by
 have au:=Es a.terms;have aj:=Afj ha;have an:(N.map str).drop (N.idxOf a.pred)=str a.pred::(N.map str).drop (N.idxOf a.pred+1):=by
  have:=A2 aj;rwa[Afi aj]at this
 generalize N.idxOf a.pred=ix at aj an;refine Z9 34 [.tmp 4] Tryz.func270 ?_
 refine zz ?_
 refine Ad (fun m s d'=>∃(k n:Nat),m=a.terms.length-k/\k<=a.terms.length/\s 5=sc (.int .i64 n)/\s 16=sl ids a.terms.length (A0 a.terms)/\s 17=sc (.int .i64 a.terms.length)/\s 18=sc (.int .i64 k)/\Keep d d'/\n<=1002+k*1001/\Agt (n=a.pred.length+2+(Bj (a.terms.take k)).length)) a.terms.length
  ⟨0,a.pred.length+2,Agm,Agm,Ago,Ago,Ago,rfl,Xs,Agm,by simp[Agt,Bj]⟩ ?_
 rintro m s d' ⟨k,n,rfl,hk,h5,ay,ax,aw,hK,av,hA⟩;have ao:=hK.nobj;by_cases af:k<a.terms.length
 ·have aa:=Adn af;have hu:=hw a.terms[k] (Aes af);obtain⟨r,hd⟩:=Fo aa;generalize a.terms[k]=w at aa hu hd;have ac:Agt (a.pred.length+2+(Bj (a.terms.take (k+1))).length=n+((if k=0 then 0 else 1)+w.length)):=by
   rw[Agt,Ad0,aa,Aez,Ss,hA.out];have e:(a.terms.take k=[])↔k=0:=by
    rw[List.take_eq_nil_iff];constructor
    ·rintro (h|h)
     ·exact h
     ·rw[h]at af;cases af
    ·exact .inl
   by_cases h0:k=0
   ·rw[if_pos (e.2 h0),if_pos h0];simp;omega
   ·rw[if_neg (fun h=>h0 (e.1 h)),if_neg h0];simp;omega
  have hT:=fun d=>dX hu d;have ap:=hu.2.2.1;clear aa hA hu;by_cases ad:k=0
  ·have am:decide ((0:Int)<(k:Int))=false:=by simp[ad]
   have ac:Agt (n+w.length=a.pred.length+2+(Bj (a.terms.take (k+1))).length):=by rw[Agt,ac.out,if_pos ad];omega
   clear ad
   repeat' first|refine Z1 ?_|refine Z8 fun ya J=>?_|refine Z4 ?_;clear J ya|refine Z2 ?_ ?_<;>intro h ae<;>try exact Xp|refine Z5 ?_;refine Xi (hT _) ?_;rintro _ _ ⟨rfl,ab⟩;(have ah:=ab.obj;have ai:=ab.nobj)|refine Z3 ?_|exact Zt|apply J.out;clear J ya
   refine⟨a.terms.length-(k+1),Agm,k+1,n+w.length,?_⟩
   ((repeat' refine Zi ?_ ?_)<;>first|exact Xq|exact (((hK.new _).put hK.nobj _).trans ab)|exact ac|exact Xs)
  ·have am:decide ((0:Int)<(k:Int))=true:=by simp;omega
   have ac:Agt (n+1+w.length=a.pred.length+2+(Bj (a.terms.take (k+1))).length):=by rw[Agt,ac.out,if_neg ad];omega
   clear ad
   repeat' first|refine Z1 ?_|refine Z8 fun ya J=>?_|refine Z4 ?_;clear J ya|refine Z2 ?_ ?_<;>intro h ae<;>try exact Xp|refine Z5 ?_;refine Xi (hT _) ?_;rintro _ _ ⟨rfl,ab⟩;(have ah:=ab.obj;have ai:=ab.nobj)|refine Z3 ?_|exact Zt|apply J.out;clear J ya
   refine⟨a.terms.length-(k+1),Agm,k+1,n+1+w.length,?_⟩
   ((repeat' refine Zi ?_ ?_)<;>first|exact Xq|exact (((hK.new _).put hK.nobj _).trans ab)|exact ac|exact Xs)
 ·have ak:k=a.terms.length:=Agm;subst ak;have HA:Agt ((Be a).length=n):=by
   rw[Agt,hA.out,Adu];simp[Be];omega
  clear hA
  repeat' first|refine Z1 ?_|refine Z8 fun ya J=>?_|refine Z4 ?_;clear J ya|refine Z2 ?_ ?_<;>intro h ae<;>try exact Xp|refine Z3 ?_|exact Zt|apply J.out;clear J ya
  first
  |exact⟨_,rfl,by rw[HA.out],hK⟩
  |exact⟨_,rfl,by rw[HA.out]⟩
structure Msr (N:List Tx)(x:RItem):Prop where
 out:x.out=true->x.body=[]
 body:x.body.length<=1000
 mem:x.head.pred∈N
 hpl:x.head.pred.length<=1000
 at_:∀a∈Ae x,a.terms.length<=3/\a.pred.length<=1000/\∀t∈a.terms,UT t
theorem kM {ts:List Tx}(h:ts.length<=3)(g:∀t∈ts,UT t):(Bj ts).length<=4000:=by
 have key:∀ts:List Tx,(∀t∈ts,UT t)->(Cd ts).length<=ts.length*1001:=by
  intro ts;induction ts with
  |nil=>intro _;simp[Cd]
  |cons t ts ih=>
   intro h;have h1:=ih fun u hu=>h u (by simp[hu]);have h2:=(h t (by simp)).2.2.1;unfold Cd at*
   simp only[Ae0,Aeb,Aem];omega
 cases ts with
 |nil=>simp[Bj]
 |cons t ts=>
  have h1:=key ts fun u hu=>g u (by simp[hu]);have h2:=(g t (by simp)).2.2.1;simp only[Aem]at h;rw[Bj,Aeb];omega
theorem L6 {a:RAtom}(h:a.terms.length<=3/\a.pred.length<=1000/\∀t∈a.terms,UT t):(Be a).length<=6000:=by
 have:=kM h.1 h.2.2;have:=h.2.1;simp[Be];omega
def Ro (ls:List RAtom)(k:Nat):Nat:=if k=0 then 0 else 2+(Bj ((ls.take k).map Ch)).length
theorem sA {ls:List RAtom}{k:Nat}{a:RAtom}(h:ls[k]?=some a):Ro ls (k+1)=Ro ls k+(if k=0 then 1 else 0)+(if a.nt=true then 1 else 0)+(1+(Be a).length):=by
 unfold Ro;rw[if_neg Agm,Ad0,h,Aez,Ad2,List.map_singleton,Ss];have hk:=(Adm.1 h).1;have aa:(Ch a).length=(if a.nt=true then 1 else 0)+(Be a).length:=by unfold Ch;split<;>simp;omega
 by_cases h0:k=0
 ·subst h0;simp only[List.take_zero,Ad8,if_true,Ae8,Bj,Ael,aa];omega
 ·have e:(ls.take k).map Ch≠[]:=fun e=>by
   have:=congrArg List.length e;simp at this;rcases this with h|h
   ·exact h0 h
   ·rw[h]at hk;cases hk
  rw[if_neg h0,if_neg h0,if_neg e];simp only[Aeb,Aff,aa];omega
theorem sE (N:List Tx)(idn:Nat)(x:RItem)(c:List AV)(hc:PI N x c)(hN:N.length<=2000)(hm:Msr N x)(d:St):
  ACalls Tryz.prog 260 [ag c,sl idn N.length (N.map str)] d fun r d'=>r=sc (.int .i64 ((Cb x++[46]).length:Nat))/\Keep d d':=by
 obtain⟨hm0,ih,id,b,hb,rfl⟩:=hc;have a9:=EL.length Fe hb;have ba:=hm.body;have a8:=hm.hpl;have an:=Afj hm0;have az:(N.map str).drop (N.idxOf x.head.pred)=str x.head.pred::(N.map str).drop (N.idxOf x.head.pred+1):=by
  have:=A2 an;rwa[Afi an]at this
 cases ap:x.out with
 |true=>
  have HL:Agt (((Cb x++[46]).length:Nat)=2+x.head.pred.length):=by
   rw[Agt,Cb,if_pos ap];simp;omega
  clear hm;generalize N.idxOf x.head.pred=ix at an az;refine Z9 48 [.tmp 4] Tryz.func260 ?_
  repeat' first|refine Z1 ?_|refine Z8 fun ya J=>?_|refine Z4 ?_;clear J ya|refine Z2 ?_ ?_<;>intro h ad<;>try exact Xp|refine Z3 ?_|exact Zt|apply J.out;clear J ya
  exact⟨_,rfl,by rw[HL.out];simp,Xs⟩
 |false=>
  have av:=hm.at_;have hh:=av x.head (Aq (.inl ⟨ap,rfl⟩));have ao:=fun ids d=>aO N idn ids x.head hm0 hN Agm hh.2.1 hh.2.2 d;have au:=L6 hh;have HL:Agt ((Cb x++[46]).length=(Be x.head).length+1+Ro x.body x.body.length):=by
   rw[Agt,Cb,if_neg (by simp[ap]),Dz,Ro,Adu];by_cases he:x.body=[]
   ·simp[he]
   ·have a0:x.body.length≠0:=fun e=>he (Ads e);rw[if_neg he,if_neg a0];simp;omega
  have a5:∀a∈x.body,a.terms.length<=3/\a.pred.length<=1000/\∀t∈a.terms,UT t:=fun a ha=>av a (Aq (.inr ha));clear hm av hh;generalize N.idxOf x.head.pred=ix at an az ao;generalize (Be x.head).length=hn at ao au HL;refine Z9 48 [.tmp 4] Tryz.func260 ?_
  repeat' first|refine Z1 ?_|refine Z8 fun ya J=>?_|refine Z4 ?_;clear J ya|refine Z2 ?_ ?_<;>intro h ad<;>try exact Xp|refine Z5 ?_;refine Xi (ao _ _) ?_;rintro _ _ ⟨rfl,ax⟩;(have ak:=ax.nobj;have aj:=ax.obj;simp only[Aa]at ak aj)|refine Z3 ?_|exact Zt|apply J.out;clear J ya
  rename_i d1
  refine Ad (fun m s d'=>∃(k n:Nat),m=x.body.length-k/\k<=x.body.length/\s 1=sl idn N.length (N.map str)/\s 5=sc (.int .i64 n)/\s 24=sl id x.body.length b/\s 25=sc (.int .i64 x.body.length)/\s 26=sc (.int .i64 k)/\Keep d d'/\n<=6001+k*7000/\Agt (n=hn+1+Ro x.body k)) x.body.length
   ⟨0,hn+1,Agm,Agm,rfl,Ago,Ago,Ago,rfl,Xs,Agm,by simp[Agt,Ro]⟩ ?_
  clear ak aj ax ao;rintro m s d' ⟨k,n,rfl,hk,h1,h5,bd,bc,bb,hK,a7,hA⟩;have a6:=hK.nobj;by_cases ay:k<x.body.length
  ·have af:=Adn ay;have am:=a5 x.body[k] (Aes ay);obtain⟨c0,r,⟨hap,ida,rfl⟩,hd⟩:=EL.get Fe hb af;generalize x.body[k]=a at af am hd hap;have ai:=fun ids d=>aO N idn ids a hap hN Agm am.2.1 am.2.2 d;have aw:=L6 am;have ac:Agt (hn+1+Ro x.body (k+1)=n+((if k=0 then 1 else 0)+(if a.nt=true then 1 else 0)+(1+(Be a).length))):=by
    rw[Agt,sA af,hA.out];omega
   clear af hA am;generalize (Be a).length=la at ai aw ac;generalize N.idxOf a.pred=ia at ai hd;simp only[Ae6,Ae8]at hd;by_cases ae:k=0
   ·have a4:((k:Int)==0)=true:=by simp[ae]
    cases hnt:a.nt with
    |true=>
     rw[hnt]at hd;have ac:Agt (n+(1+la)+1+1=hn+1+Ro x.body (k+1)):=by rw[Agt,ac.out,if_pos ae,if_pos hnt];omega
     clear ae hnt
     repeat' first|refine Z1 ?_|refine Z8 fun ya J=>?_|refine Z4 ?_;clear J ya|refine Z2 ?_ ?_<;>intro h ad<;>try exact Xp|refine Z5 ?_;refine Xi (ai _ _) ?_;rintro _ _ ⟨rfl,ab⟩;(have ah:=ab.obj;have aa:=ab.nobj;simp only[Ac,Aa]at aa)|refine Z3 ?_|exact Zt|apply J.out;clear J ya
     refine⟨x.body.length-(k+1),Agm,k+1,n+(1+la)+1+1,?_⟩
     ((repeat' refine Zi ?_ ?_)<;>first|exact Xq|exact (((hK.new _).put hK.nobj _).trans ab)|exact ac|exact Xs)
    |false=>
     rw[hnt]at hd;have ac:Agt (n+(1+la)+1=hn+1+Ro x.body (k+1)):=by rw[Agt,ac.out,if_pos ae,if_neg (by simp[hnt])];omega
     clear ae hnt
     repeat' first|refine Z1 ?_|refine Z8 fun ya J=>?_|refine Z4 ?_;clear J ya|refine Z2 ?_ ?_<;>intro h ad<;>try exact Xp|refine Z5 ?_;refine Xi (ai _ _) ?_;rintro _ _ ⟨rfl,ab⟩;(have ah:=ab.obj;have aa:=ab.nobj;simp only[Ac,Aa]at aa)|refine Z3 ?_|exact Zt|apply J.out;clear J ya
     refine⟨x.body.length-(k+1),Agm,k+1,n+(1+la)+1,?_⟩
     ((repeat' refine Zi ?_ ?_)<;>first|exact Xq|exact (((hK.new _).put hK.nobj _).trans ab)|exact ac|exact Xs)
   ·have a4:((k:Int)==0)=false:=by simp;omega
    cases hnt:a.nt with
    |true=>
     rw[hnt]at hd;have ac:Agt (n+(1+la)+1=hn+1+Ro x.body (k+1)):=by rw[Agt,ac.out,if_neg ae,if_pos hnt];omega
     clear ae hnt
     repeat' first|refine Z1 ?_|refine Z8 fun ya J=>?_|refine Z4 ?_;clear J ya|refine Z2 ?_ ?_<;>intro h ad<;>try exact Xp|refine Z5 ?_;refine Xi (ai _ _) ?_;rintro _ _ ⟨rfl,ab⟩;(have ah:=ab.obj;have aa:=ab.nobj;simp only[Ac,Aa]at aa)|refine Z3 ?_|exact Zt|apply J.out;clear J ya
     refine⟨x.body.length-(k+1),Agm,k+1,n+(1+la)+1,?_⟩
     ((repeat' refine Zi ?_ ?_)<;>first|exact Xq|exact (((hK.new _).put hK.nobj _).trans ab)|exact ac|exact Xs)
    |false=>
     rw[hnt]at hd;have ac:Agt (n+(1+la)=hn+1+Ro x.body (k+1)):=by rw[Agt,ac.out,if_neg ae,if_neg (by simp[hnt])];omega
     clear ae hnt
     repeat' first|refine Z1 ?_|refine Z8 fun ya J=>?_|refine Z4 ?_;clear J ya|refine Z2 ?_ ?_<;>intro h ad<;>try exact Xp|refine Z5 ?_;refine Xi (ai _ _) ?_;rintro _ _ ⟨rfl,ab⟩;(have ah:=ab.obj;have aa:=ab.nobj;simp only[Ac,Aa]at aa)|refine Z3 ?_|exact Zt|apply J.out;clear J ya
     refine⟨x.body.length-(k+1),Agm,k+1,n+(1+la),?_⟩
     ((repeat' refine Zi ?_ ?_)<;>first|exact Xq|exact (((hK.new _).put hK.nobj _).trans ab)|exact ac|exact Xs)
  ·have a3:k=x.body.length:=Agm;subst a3;have HA:Agt ((Cb x++[46]).length=n):=by rw[Agt,HL.out,hA.out]
   clear hA HL
   repeat' first|refine Z1 ?_|refine Z8 fun ya J=>?_|refine Z4 ?_;clear J ya|refine Z2 ?_ ?_<;>intro h ad<;>try exact Xp|refine Z3 ?_|exact Zt|apply J.out;clear J ya
   first
   |exact⟨_,rfl,by rw[HA.out],hK⟩
   |exact⟨_,rfl,by rw[HA.out]⟩
end Go.Proofs.YtmoeoppbmhfbpaaGreatDoorD
