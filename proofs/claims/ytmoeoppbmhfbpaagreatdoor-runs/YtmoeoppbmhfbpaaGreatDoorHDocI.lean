import Derived.Test.YtmoeoppbmhfbpaaGreatDoorHDocG
import Derived.Test.YtmoeoppbmhfbpaaGreatDoorHRspD
import Derived.Test.YtmoeoppbmhfbpaaGreatDoorHStrC
import Derived.Test.YtmoeoppbmhfbpaaGreatDoorHShelf
import Derived.Test.YtmoeoppbmhfbpaaGreatDoorHFacts
import Derived.Test.YtmoeoppbmhfbpaaGreatDoorHEngR
import Derived.Test.YtmoeoppbmhfbpaaGreatDoorHProgO
import Derived.Test.YtmoeoppbmhfbpaaGreatDoorHAbsWp
set_option maxHeartbeats 64000000
set_option maxRecDepth 100000
set_option linter.all false
namespace Go.Proofs.YtmoeoppbmhfbpaaGreatDoorH
open Go.Abs
def Sat (fz:Bool)(l:List RItem)(giv:List RAtom)(C:RAtom->Prop):Prop:=(∀a∈giv,C a)/\∀A':List RAtom,(∀a∈A',C a)->(∀a∈giv,a∈A')->∀x∈l,∀h,Pw fz A' x h->C h
structure Ui (fz:Bool)(l:List RItem)(giv:List RAtom)(limit:Nat)(A:List RAtom):Prop where
 gv:∀a∈giv,a∈A
 nd:A.Nodup
 len:A.length<=limit
 cl:∀x∈l,DoneX fz A [] x
 least:∀C,Sat fz l giv C->∀a∈A,C a
def X8 (fz:Bool)(l:List RItem)(giv:List RAtom)(limit:Nat):Prop:=∀C,Sat fz l giv C->∃L:List RAtom,L.Nodup/\limit<L.length/\∀a∈L,C a
def Px (fz:Bool)(limit:Nat)(x:RItem):Prop:=∃c0 p,HalfOk fz c0 p x/\∀a,a<=limit->Ec c0 a p+2002<=1000000000000
theorem Own.ofLive {σ0 d d':St}{io io' n n':Nat}(hK:Keep σ0 d)(hO:Own σ0 d io n)(hL:Live d' io' n')(hid:io'=io\/io'=1\/d.ntop+2<=io'):Own σ0 d' io' n':=by
 rcases hL with h|⟨k,e1,e2,e3,e4⟩
 ·exact .inl h
 ·refine .inr ⟨k,e1,?_,e2,e3,e4⟩;rcases hid with h|h|h
  ·rcases hO with⟨h1,-⟩|⟨k',f1,f2,-⟩
   ·omega
   ·omega
  ·omega
  ·have:=hK.ntop;omega
theorem Keep.kh {σ0 d d':St}{io n:Nat}(hK:Keep σ0 d)(hO:Own σ0 d io n)(h:KH io d d'):Keep σ0 d':=
 ⟨Aal hK.nobj h.nobj,fun o ho=>(h.obj o (Aam ho hK.nobj)).trans (hK.obj o ho),fun o ho=>(h.ver o (Aam ho hK.nobj)).trans (hK.ver o ho),Aal hK.ntop h.ntop,fun k hk=>(h.top k (Aam hk hK.ntop) (fun e=>by
  rcases hO with⟨h1,-⟩|⟨k',f1,f2,-⟩<;>omega)).trans (hK.top k hk)⟩
theorem Own.kh {σ0 d d':St}{ia io n m:Nat}(hO:Own σ0 d ia n)(aa:ia=1\/io=1\/ia≠io)(h:KH io d d'):Own σ0 d' ia n:=by
 rcases hO with h1|⟨k,f1,f2,f3,f4,f5⟩
 ·exact .inl h1
 ·refine .inr ⟨k,f1,f2,Aam f3 h.ntop,?_,f5⟩;rw[h.top k f3 Ad2];exact f4
theorem Own.apart {σ0 d:St}{ia io io' n:Nat}(hO:Own σ0 d ia n)(aa:ia=1\/io=1\/ia≠io)(hid:io'=io\/io'=1\/d.ntop+2<=io'):ia=1\/io'=1\/ia≠io':=by
 rcases hid with rfl|h|h
 ·exact aa
 ·exact .inr (.inl h)
 ·rcases hO with⟨h1,-⟩|⟨k,f1,f2,f3,-⟩
  ·exact .inl h1
  ·exact .inr (.inr Ad2)
structure SetI (fz:Bool)(l:List RItem)(giv:List RAtom)(A:List RAtom)(cA:List AV):Prop where
 el:EL Be A cA
 gnd:∀a∈A,U1 a
 cl:∀a∈A,clA a
 nd:A.Nodup
 gv:∀a∈giv,a∈A
 least:∀C,Sat fz l giv C->∀a∈A,C a
structure OutI (fz:Bool)(l:List RItem)(A:List RAtom)(mo:Int)(i:Nat)(O:List RAtom)(oc:List AV):Prop where
 el:EL Be O oc
 cl:∀a∈O,clA a
 nd:O.Nodup
 new:∀h∈O,h∉A/\∃x∈l,Pw fz A x h
 done:(O.length:Int)<=mo->∀x∈l.take i,DoneX fz A O x
theorem OutI.step {fz:Bool}{l:List RItem}{A:List RAtom}{cA:List AV}{mo:Int}{i:Nat}{O O':List RAtom}{oc oc':List AV}{x:RItem}{c0 p:Nat}(hA:D5 A cA)(hH:HalfOk fz c0 p x)(h:OutI fz l A mo i O oc)(hx:l[i]?=some x)(g:Zm fz A mo x O O')(he:EL Be O' oc'):OutI fz l A mo (i+1) O' oc':=by
 obtain⟨nw,e,f⟩:=g.ext;have ab:=Aax hx;refine⟨he,fun a ha=>?_,g.nd,fun a ha=>?_,fun aa y hy=>?_⟩
 ·rw[e]at ha;rcases Ab2.1 ha with h'|h'
  ·exact h.cl a h'
  ·exact qN hA hH (f a h').1
 ·rw[e]at ha;rcases Ab2.1 ha with h'|h'
  ·exact h.new a h'
  ·exact⟨(f a h').2,x,ab,(f a h').1⟩
 ·rw[Aa8,hx]at hy;rcases Ab2.1 hy with h'|h'
  ·exact (h.done (by rw[e]at aa;simp at aa;omega) y h').mono fun a ha=>by rw[e];exact Adk _ ha
  ·simp at h';subst h';exact g.done aa
theorem SetI.tups {fz:Bool}{l:List RItem}{giv A:List RAtom}{cA:List AV}(h:SetI fz l giv A cA)(hl:A.length<=1000):D5 A cA:=⟨h.el,hl,h.gnd,h.cl⟩
theorem SetI.grow {fz:Bool}{l:List RItem}{giv A O:List RAtom}{cA oc c2:List AV}{mo:Int}{i limit:Nat}(h:SetI fz l giv A cA)(hl:A.length<=1000)(hr:∀x∈l,Px fz limit x)(g:OutI fz l A mo i O oc)(he:EL Be (A++O) c2):SetI fz l giv (A++O) c2:=by
 refine⟨he,fun a ha=>?_,fun a ha=>?_,?_,fun a ha=>Adk _ (h.gv a ha),fun C hC a ha=>?_⟩
 ·rcases Ab2.1 ha with h'|h'
  ·exact h.gnd a h'
  ·obtain⟨-,x,hx,hs⟩:=g.new a h';obtain⟨c0,p,hH,-⟩:=hr x hx;exact uI h.gnd hH.saf hs
 ·rcases Ab2.1 ha with h'|h'
  ·exact h.cl a h'
  ·exact g.cl a h'
 ·rw[Adf];exact⟨h.nd,g.nd,fun a ha b hb e=>(g.new b hb).1 (e ▸ ha)⟩
 ·rcases Ab2.1 ha with h'|h'
  ·exact h.least C hC a h'
  ·obtain⟨-,x,hx,hs⟩:=g.new a h';exact hC.2 A (h.least C hC) h.gv x hx a hs
def tC (fz:Bool)(l:List RItem)(giv:List RAtom)(limit:Nat)(r:AV):Prop:=(∃A ida cA,r=tp [sl ida A.length cA,sc (.bool true)]/\D5 A cA/\Ui fz l giv limit A)\/(r=tp [nilS,sc (.bool false)]/\X8 fz l giv limit)
theorem No (fz:Bool)(l:List RItem)(cs:List AV)(idl:Nat)(giv:List RAtom)(cg:List AV)(idg:Nat)(limit:Nat)(hl:EL EItem l cs)(cw:l.length<=1000)(hg:D5 giv cg)(b4:limit<=900)(cx:giv.length<=limit)(hr:∀x∈l,Px fz limit x)(d:St):
  ACalls Tryz.prog 141 [sl idl l.length cs,sl idg giv.length cg,sc (.bool fz),sc (.int .i64 limit)] d fun r d'=>tC fz l giv limit r/\Keep d d':=by
 have cy:=EL.length Cb hl;have b7:=EL.length Ba hg.el;refine Z9 96 [.tmp 8,.tmp 9] Tryz.func141 ?_
 repeat' (first|refine Z1 ?_|(refine Z8 ?_;intro ya J)|(refine Z4 ?_;clear J ya)|(refine Z2 ?_ ?_<;>intro h ad<;>try exact Xp)|(refine Z6 ?_;intro idn dn ah ak af ab ae aa)|refine Z3 ?_|exact Zt|(apply J.out;clear J ya))
 refine Ab (fun m s d'=>∃(i ia:Nat) (A:List RAtom) (cA:List AV),m=giv.length-i/\i<=giv.length/\s 0=sl idl l.length cs/\s 1=sl idg giv.length cg/\s 2=sc (.bool fz)/\s 3=sc (.int .i64 limit)/\s 10=sl ia A.length cA/\s 11=sc (.int .i64 i)/\Keep d d'/\Own d d' ia A.length/\cA.length=A.length*3/\A.length<=i/\Ad8 (EL Be A cA/\A.Nodup/\∀a,a∈A↔a∈giv.take i)) giv.length
  ⟨0,1,[],[],Ad2,Ad2,by simp[upd,initS],by simp[upd,initS],by simp[upd,initS],by simp[upd,initS],Ad4,Ad4,Keep.refl _,Own.nil _ _,rfl,by simp,rfl,Ac3,by simp⟩ ?_
 rintro m s d' ⟨i,ia,A,cA,rfl,hi,h0,h1,h2,h3,ax,cr,hK,hO,a4,cp,hH⟩;by_cases aw:i<giv.length
 ·have ac:=Aav aw;have a5:=Ab1 aw;obtain⟨it,r,hd⟩:=B8 hg.el ac;generalize giv[i]=w at ac a5 hd;have co:∀a∈A,a.terms.length<=1000:=fun a ha=>(hg.cl a (Adg ((hH.out.2.2 a).1 ha))).2.2;have aj:=fun d=>Gl A cA ia w _ hH.out.1 ⟨it,rfl⟩ Ad2 co d;have bv:Ad8 (giv.take (i+1)=giv.take i++[w]):=by rw[Ad8,Aa8,ac,Ab9]
  clear ac;by_cases av:w∈A
  ·have aj:∀d,ACalls Tryz.prog 147 [sl ia A.length cA,ag [sc (.bool w.nt),str w.pred,sl it w.terms.length (w.terms.map str)]] d fun r d'=>r=sc (.bool true)/\Keep d d':=fun d=>(aj d).mono fun r d' ⟨b,h1,h2,h3⟩=>⟨by rw[h1,h2.2 av],h3⟩
   have HN:Ad8 (EL Be A cA/\A.Nodup/\∀a,a∈A↔a∈giv.take (i+1)):=⟨hH.out.1,hH.out.2.1,fun a=>by
    rw[bv.out,Ab2,<-hH.out.2.2 a,Acx]
    exact⟨.inl,fun h=>h.elim id fun e=>e ▸ av⟩⟩
   clear av hH
   repeat' (first|refine Z1 ?_|(refine Z8 ?_;intro ya J)|(refine Z4 ?_;clear J ya)|(refine Z2 ?_ ?_<;>intro h ad<;>try exact Xp)|(refine Z6 ?_;intro idn dn ah ak af ab ae aa)|(refine Z5 ?_;refine Xi (aj _) ?_;rintro _ _ ⟨rfl,an⟩)|refine Z3 ?_|exact Zt|(apply J.out;clear J ya))
   refine⟨giv.length-(i+1),Ad2,i+1,ia,A,cA,?_⟩
   ((repeat' refine Zi ?_ ?_)<;>first|exact Xq|exact HN|exact (hK.trans an)|exact (Own.keep hO an)|exact Xs)
  ·have aj:∀d,ACalls Tryz.prog 147 [sl ia A.length cA,ag [sc (.bool w.nt),str w.pred,sl it w.terms.length (w.terms.map str)]] d fun r d'=>r=sc (.bool false)/\Keep d d':=fun d=>(aj d).mono fun r d' ⟨b,h1,h2,h3⟩=>⟨by
    cases b with
    |false=>exact h1
    |true=>exact absurd (h2.1 rfl) av,h3⟩
   have HN:Ad8 (EL Be (A++[w]) (cA++[sc (.bool w.nt),str w.pred,sl it w.terms.length (w.terms.map str)])/\(A++[w]).Nodup/\∀a,a∈A++[w]↔a∈giv.take (i+1)):=⟨EL.append hH.out.1 (EL.single ⟨it,rfl⟩),by
     rw[Adf];exact⟨hH.out.2.1,by simp,fun a ha b hb e=>av (by rw[Acx]at hb;rw[<-hb,<-e];exact ha)⟩,fun a=>by
    rw[bv.out,Ab2,Ab2,<-hH.out.2.2 a]⟩
   clear av hH
   repeat' (first|refine Z1 ?_|(refine Z8 ?_;intro ya J)|(refine Z4 ?_;clear J ya)|(refine Z2 ?_ ?_<;>intro h ad<;>try exact Xp)|(refine Z6 ?_;intro idn dn ah ak af ab ae aa)|(refine Z5 ?_;refine Xi (aj _) ?_;rintro _ _ ⟨rfl,an⟩;(have ck:=hK.trans an;have cb:=Own.keep hO an))|refine Z3 ?_|exact Zt|(apply J.out;clear J ya))
   refine⟨giv.length-(i+1),Ad2,i+1,idn,A++[w],cA++[sc (.bool w.nt),str w.pred,sl it w.terms.length (w.terms.map str)],?_⟩
   ((repeat' refine Zi ?_ ?_)<;>first|exact Xq|exact HN|exact (by rw[Abj];exact ah)|exact Xs)
 ·have be:i=giv.length:=Ad2;subst be;have bz:Ad8 (SetI fz l giv A cA):=by
   obtain⟨e1,e2,e3⟩:=hH.out;rw[Aa3]at e3;exact⟨e1,fun a ha=>hg.gnd a ((e3 a).1 ha),fun a ha=>hg.cl a ((e3 a).1 ha),e2,fun a ha=>(e3 a).2 ha,fun C hC a ha=>hC.1 a ((e3 a).1 ha)⟩
  have a8:A.length<=limit:=Ad2;clear hH cp hi
  repeat' (first|refine Z1 ?_|(refine Z8 ?_;intro ya J)|(refine Z4 ?_;clear J ya)|(refine Z2 ?_ ?_<;>intro h ad<;>try exact Xp)|(refine Z6 ?_;intro idn dn ah ak af ab ae aa)|refine Z3 ?_|exact Zt|(apply J.out;clear J ya))
  refine Ab (fun m s d'=>∃(r ia:Nat) (A:List RAtom) (cA:List AV),m=limit+1-r/\r<=limit+1/\s 0=sl idl l.length cs/\s 2=sc (.bool fz)/\s 3=sc (.int .i64 limit)/\s 10=sl ia A.length cA/\s 12=sc (.int .i64 r)/\Keep d d'/\Own d d' ia A.length/\cA.length=A.length*3/\A.length<=limit/\r<=A.length/\Ad8 (SetI fz l giv A cA)) (limit+1)
   ⟨0,ia,A,cA,Ad2,Ad2,Ad3,Ad3,Ad3,Ad3,Ad4,hK,hO,a4,a8,Ad2,bz.out⟩ ?_
  clear h0 h1 h2 h3 ax cr hK hO a4 bz a8 aw;rintro m s d1 ⟨r,ia,A,cA,rfl,ct,h0,h2,h3,ax,a9,hK,hO,a4,a8,cu,hS⟩;have bk:r<=limit:=Ad2;have bq:D5 A cA:=hS.out.tups Ad2;obtain⟨mo,bc⟩:∃mo:Int,mo=(limit:Int)-(A.length:Int):=⟨_,rfl⟩;have bb:0<=mo:=Ad2;have ba:mo<=900:=Ad2;have c8:Ad8 _:=bc;have b1:(limit:Int)-(A.length:Int)=mo:=bc.symm;have cv:mo<=(limit:Int)-(A.length:Int)/\(limit:Int)-(A.length:Int)<=mo:=Ad2;clear bc
  repeat' (first|refine Z1 ?_|(refine Z8 ?_;intro ya J)|(refine Z4 ?_;clear J ya)|(refine Z2 ?_ ?_<;>intro h ad<;>try exact Xp)|(refine Z6 ?_;intro idn dn ah ak af ab ae aa)|refine Z3 ?_|exact Zt|(apply J.out;clear J ya))
  refine Ab (fun m s d'=>∃(i io:Nat) (O:List RAtom) (oc:List AV),m=l.length-i/\i<=l.length/\s 0=sl idl l.length cs/\s 2=sc (.bool fz)/\s 3=sc (.int .i64 limit)/\s 10=sl ia A.length cA/\s 12=sc (.int .i64 r)/\s 13=sc (.int .i64 A.length)/\s 14=sl io O.length oc/\s 15=sc (.int .i64 i)/\Keep d d'/\Own d d' ia A.length/\Own d d' io O.length/\(ia=1\/io=1\/ia≠io)/\(O.length:Int)<=mo+1/\Ad8 (OutI fz l A mo i O oc)) l.length
   ⟨0,1,[],[],Ad2,Ad2,Ad3,Ad3,Ad3,Ad3,Ad3,Ad3,Ad4,Ad4,hK,hO,Own.nil _ _,.inr (.inl rfl),by simp;omega,rfl,by simp,Ac3,by simp,fun _ x hx=>by simp at hx⟩ ?_
  clear h0 h2 h3 ax a9 hK hO;rintro m s d2 ⟨i,io,O,oc,rfl,hi,h0,h2,h3,ax,a9,bu,br,cq,hK,hO,a6,bh,cc,ai⟩;by_cases aw:i<l.length
  ·have ac:=Aav aw;obtain⟨ih,id,b,rr,hb,hd⟩:=Df hl ac;have bi:=hr _ (Ab1 aw);generalize l[i]=x at ac bi hd hb;obtain⟨c0,p,bo,bm⟩:=bi;have a0:=bm A.length a8;have cn:=fun d (hL:Live d io O.length)=>iM fz A cA ia mo c0 p bq bb ba x [sc (.bool x.out),sc (.bool x.head.nt),str x.head.pred,sl ih x.head.terms.length (x.head.terms.map str),sl id x.body.length b] ⟨[sc (.bool x.head.nt),str x.head.pred,sl ih x.head.terms.length (x.head.terms.map str)],id,b,⟨ih,rfl⟩,hb,rfl⟩ bo a0 O oc io ai.out.el ai.out.cl ai.out.nd cc d hL;have cf:Live d2 io O.length:=by
    rcases a6 with h|⟨k,f1,f2,f3,f4,f5⟩
    ·exact .inl h
    ·exact .inr ⟨k,f1,f3,f4,f5⟩
   have bw:Ad8 (∀O' oc',Zm fz A mo x O O'->EL Be O' oc'->OutI fz l A mo (i+1) O' oc'):=fun O' oc' g he=>OutI.step bq bo ai.out ac g he;clear ac bm
   repeat' (first|refine Z1 ?_|(refine Z8 ?_;intro ya J)|(refine Z4 ?_;clear J ya)|(refine Z2 ?_ ?_<;>intro h ad<;>try exact Xp)|(refine Z6 ?_;intro idn dn ah ak af ab ae aa)|(refine Z5 ?_;refine Xi (cn _ cf) ?_;rintro _ _ ⟨io',O',oc',rfl,bp,cj,az,a3,ap⟩;(have HN:Ad8 _:=bw.out O' oc' ap bp;have ay:=ap.len;clear bw bp ap))|refine Z3 ?_|exact Zt|(apply J.out;clear J ya))
   rename_i d3;have cm:=Keep.kh hK a6 a3;have ce:=Own.kh (m:=0) hO bh a3;have cd:=Own.ofLive hK a6 cj az;have bg:=Own.apart hO bh az;refine⟨l.length-(i+1),Ad2,i+1,io',O',oc',?_⟩
   ((repeat' refine Zi ?_ ?_)<;>first|exact Xq|exact HN|exact cm|exact ce|exact cd|exact bg|exact ay|exact Xs)
  ·have be:i=l.length:=Ad2;subst be;have b3:=EL.length Ba ai.out.el;have bn:A.length+O.length<=limit+1:=Ad2
   repeat' (first|refine Z1 ?_|(refine Z8 ?_;intro ya J)|(refine Z4 ?_;clear J ya)|(refine Z2 ?_ ?_<;>intro h ad<;>try exact Xp)|(refine Z6 ?_;intro idn dn ah ak af ab ae aa)|refine Z3 ?_|exact Zt|(apply J.out;clear J ya))
   refine Ab (fun m s d'=>∃(q ia2:Nat) (L:List RAtom) (c2:List AV),m=O.length-q/\q<=O.length/\s 0=sl idl l.length cs/\s 2=sc (.bool fz)/\s 3=sc (.int .i64 limit)/\s 10=sl ia2 L.length c2/\s 12=sc (.int .i64 r)/\s 13=sc (.int .i64 A.length)/\s 14=sl io O.length oc/\s 16=sc (.int .i64 q)/\Keep d d'/\Own d d' ia2 L.length/\c2.length=L.length*3/\L.length<=A.length+q/\A.length+q<=L.length/\Ad8 (L=A++O.take q/\EL Be L c2)) O.length
    ⟨0,ia,A,cA,Ad2,Ad2,Ad3,Ad3,Ad3,Ad3,Ad3,Ad3,Ad3,Ad4,hK,hO,a4,Ad2,Ad2,by simp,hS.out.el⟩ ?_
   clear h0 h2 h3 ax a9 bu br cq hK hO a6 bh;rintro m s d3 ⟨q,ia2,L,c2,rfl,hq,h0,h2,h3,ax,a9,bu,br,c7,hK,hO,cz,c6,c5,ao⟩;by_cases bd:q<O.length
   ·have ac:=Aav bd;have a5:=Ab1 bd;obtain⟨it,rr,hd⟩:=B8 ai.out.el ac;generalize O[q]=w at ac a5 hd;have ch:∀a∈L,a.terms.length<=1000:=fun a ha=>by
     rw[ao.out.1]at ha;rcases Ab2.1 ha with h'|h'
     ·exact (hS.out.cl a h').2.2
     ·exact (ai.out.cl a (Adg h')).2.2
    have bj:w∉L:=by
     rw[ao.out.1];intro h;rcases Ab2.1 h with h'|h'
     ·exact (ai.out.new w a5).1 h'
     ·obtain⟨z,hz⟩:=Acp h';have b0:=(Aau.1 hz).1;rw[Abk]at b0;rw[Aas,if_pos Ad2]at hz;have:=(List.getElem?_inj bd ai.out.nd).1 (ac.trans hz.symm);omega
    have aj:=fun d=>Gl L c2 ia2 w _ ao.out.2 ⟨it,rfl⟩ Ad2 ch d
    have aj:∀d,ACalls Tryz.prog 147 [sl ia2 L.length c2,ag [sc (.bool w.nt),str w.pred,sl it w.terms.length (w.terms.map str)]] d fun r d'=>r=sc (.bool false)/\Keep d d':=fun d=>(aj d).mono fun r d' ⟨b,h1,h2,h3⟩=>⟨by
     cases b with
     |false=>exact h1
     |true=>exact absurd (h2.1 rfl) bj,h3⟩
    have b6:(L.length:Int)<=(limit:Int):=Ad2;have b5:decide ((L.length:Int)<=(limit:Int))=true:=by simpa using b6
    have HN:Ad8 (L++[w]=A++O.take (q+1)/\EL Be (L++[w]) (c2++[sc (.bool w.nt),str w.pred,sl it w.terms.length (w.terms.map str)])):=⟨by rw[Aa8,ac,ao.out.1];simp,EL.append ao.out.2 (EL.single ⟨it,rfl⟩)⟩;clear ac bj
    repeat' (first|refine Z1 ?_|(refine Z8 ?_;intro ya J)|(refine Z4 ?_;clear J ya)|(refine Z2 ?_ ?_<;>intro h ad<;>try exact Xp)|(refine Z6 ?_;intro idn dn ah ak af ab ae aa)|(refine Z5 ?_;refine Xi (aj _) ?_;rintro _ _ ⟨rfl,an⟩;(have ck:=hK.trans an;have cb:=Own.keep hO an))|refine Z3 ?_|exact Zt|(apply J.out;clear J ya))
    refine⟨O.length-(q+1),Ad2,q+1,idn,L++[w],c2++[sc (.bool w.nt),str w.pred,sl it w.terms.length (w.terms.map str)],?_⟩
    ((repeat' refine Zi ?_ ?_)<;>first|exact Xq|exact HN|exact (by rw[Abj];exact ah)|exact Xs)
   ·have b2:q=O.length:=Ad2;subst b2;have am:L=A++O:=by have:=ao.out.1;rw[Aa3]at this;exact this
    have au:Ad8 (SetI fz l giv L c2):=by
     rw[am];exact hS.out.grow Ad2 hr ai.out (by rw[<-am];exact ao.out.2)
    by_cases bf:limit<L.length
    ·have ca:decide ((L.length:Int)>(limit:Int))=true:=by simp;omega
     have b9:decide ((limit:Int)<(L.length:Int))=true:=by simp;omega
     have HR:Ad8 (X8 fz l giv limit):=fun C hC=>⟨L,au.out.nd,bf,au.out.least C hC⟩;clear am
     repeat' (first|refine Z1 ?_|(refine Z8 ?_;intro ya J)|(refine Z4 ?_;clear J ya)|(refine Z2 ?_ ?_<;>intro h ad<;>try exact Xp)|(refine Z6 ?_;intro idn dn ah ak af ab ae aa)|refine Z3 ?_|exact Zt|(apply J.out;clear J ya))
     first|exact⟨_,rfl,.inr ⟨rfl,HR.out⟩,hK⟩|exact⟨_,rfl,.inr ⟨rfl,HR.out⟩⟩
    ·have ca:decide ((L.length:Int)>(limit:Int))=false:=by simp;omega
     have b9:decide ((limit:Int)<(L.length:Int))=false:=by simp;omega
     by_cases hz:O.length=0
     ·have a7:O=[]:=Aa1 hz;have he:((L.length:Int)==(A.length:Int))=true:=by rw[am,a7];simp
      have HR:Ad8 (tC fz l giv limit (tp [sl ia2 L.length c2,sc (.bool true)])):=.inl ⟨L,ia2,c2,rfl,au.out.tups Ad2,au.out.gv,au.out.nd,Ad2,fun x hx h hs=>by
       have b8:=ai.out.done (by rw[hz];omega) x (by rw[Aa3];exact hx);have ci:L=A:=by rw[am,a7,Abc]
       rw[ci]at hs⊢;rcases b8 h hs with h'|h'
       ·exact .inl h'
       ·rw[a7]at h';exact .inr h',au.out.least⟩
      clear am a7
      repeat' (first|refine Z1 ?_|(refine Z8 ?_;intro ya J)|(refine Z4 ?_;clear J ya)|(refine Z2 ?_ ?_<;>intro h ad<;>try exact Xp)|(refine Z6 ?_;intro idn dn ah ak af ab ae aa)|refine Z3 ?_|exact Zt|(apply J.out;clear J ya))
      first|exact⟨_,rfl,HR.out,hK⟩|exact⟨_,rfl,HR.out⟩
     ·have he:((L.length:Int)==(A.length:Int))=false:=by rw[am];simp;omega
      have bl:A.length+1<=L.length:=by rw[am];simp;omega
      clear am
      repeat' (first|refine Z1 ?_|(refine Z8 ?_;intro ya J)|(refine Z4 ?_;clear J ya)|(refine Z2 ?_ ?_<;>intro h ad<;>try exact Xp)|(refine Z6 ?_;intro idn dn ah ak af ab ae aa)|refine Z3 ?_|exact Zt|(apply J.out;clear J ya))
      refine⟨limit+1-(r+1),Ad2,r+1,ia2,L,c2,?_⟩
      ((repeat' refine Zi ?_ ?_)<;>first|exact Xq|exact au|exact Xs)
theorem gL {t:Tx}(h:(A3 t).1=0):∀x∈Fi t,E3 x=true:=by
 have hs:∀i,i<(Fi t).length->C5 (Fi t) i=false:=by
  unfold A3 at h;split at h
  ·simp at h
  split at h
  ·simp at h
  unfold Ds at h;split at h
  ·simp at h
  split at h
  ·simp at h
  ·rename_i hk;exact iP hk
 intro x hx;obtain⟨i,hi⟩:=Acp hx;have h1:=hs i (Aau.1 hi).1;unfold C5 at h1;rw[hi]at h1;simpa using h1
theorem eP {p:Tx}(h:Uh p)(hl:p.length<=1000):Clean p:=⟨fun b hb=>by
 have:=h.2 b hb
 refine⟨?_,?_,?_⟩<;>(rintro rfl;revert this;decide),hl⟩
theorem jB {p:Tx}(h:Qi p)(hl:p.length<=1000):Clean p:=⟨fun b hb=>by
 have:=h.2 b hb
 refine⟨?_,?_,?_⟩<;>(rintro rfl;revert this;decide),hl⟩
theorem Zb {a:RAtom}(h:Fb a)(hs:short a):clA a:=⟨eP h.1 hs.1,fun t ht=>jB (h.2.2.2 t ht) (hs.2.2 t ht),hs.2.1⟩
structure Fine (x:RItem):Prop where
 w:Jk x
 sh:x.short
 va:∀a∈Af x,VA a
 dt:∀a∈Af x,∀w∈a.terms,DT w
 safe:E3 x=true
theorem Me {t:Tx}(h:(A3 t).1=0):∀x∈Fi t,Fine x:=by
 obtain⟨ab,l,r,hp⟩:=Kp h;obtain⟨g1,g2,g3,g4⟩:=Ek Ad2 hp;intro x hx;have aa:=hx;rw[g2]at hx;exact⟨g4 x hx,dA Ad2 hp x hx,Wq 16 t l r hp x hx,Jt (T:=DT) Nt 16 t l r hp x hx,gL h x aa⟩
theorem Fine.cl {x:RItem}(h:Fine x)(ho:x.out=false):Zp x:=
 ⟨ho,Zb ((h.w.2.2 ho).1) h.sh.1,fun a ha=>Zb ((h.w.2.2 ho).2.2.2 a ha) (h.sh.2 a ha)⟩
def Wd (b:UInt8):Prop:=Bl b.toNat=true\/B6 b.toNat=true\/Az b.toNat=true
theorem yZ {b:UInt8}(h:Wd b):b∉[33,40,41,44,45,46,58,63]:=fun hm=>by
 simp only[Acd,Acu,Ad1]at hm;rcases hm with rfl|rfl|rfl|rfl|rfl|rfl|rfl|rfl<;>revert h<;>unfold Wd<;>decide
theorem uE {t:Tx}(h:Qi t){b:UInt8}(hb:b∈t):Wd b:=.inr (h.2 b hb)
theorem vJ {t:Tx}(h:Uh t){b:UInt8}(hb:b∈t):Wd b:=.inl (h.2 b hb)
theorem fU {ts:List Tx}{b:UInt8}(h:b∈Cr ts):b=44\/∃t∈ts,b∈t:=by
 unfold Cr at h;obtain⟨t,ht,hb⟩:=Acl.1 h;rcases Acd.1 hb with rfl|hb
 ·exact .inl rfl
 ·exact .inr ⟨t,ht,hb⟩
theorem fV {ts:List Tx}{b:UInt8}(h:b∈Cv ts):b=44\/∃t∈ts,b∈t:=by
 cases ts with
 |nil=>cases h
 |cons t ts=>
  rcases Ab2.1 h with h|h
  ·exact .inr ⟨t,by simp,h⟩
  ·rcases fU h with h|⟨u,hu,hb⟩
   ·exact .inl h
   ·exact .inr ⟨u,by simp[hu],hb⟩
theorem mS {a:RAtom}(h:Fb a){b:UInt8}(hb:b∈A4 a):Wd b\/b=40\/b=41\/b=44:=by
 unfold A4 at hb;rcases Ab2.1 hb with hb|hb
 ·exact .inl (vJ h.1 hb)
 ·rcases Acd.1 hb with rfl|hb
  ·exact .inr (.inl rfl)
  ·rcases Ab2.1 hb with hb|hb
   ·rcases fV hb with rfl|⟨t,ht,hb⟩
    ·exact .inr (.inr (.inr rfl))
    ·exact .inl (uE (h.2.2.2 t ht) hb)
   ·simp at hb;exact .inr (.inr (.inl hb))
def GNm (p:Tx):Prop:=Uh p/\p.length<=6
def zV (t:Tx):Prop:=(∃b,t=[b]/\B6 b.toNat=true)\/t=[48]\/∃b r,t=b::r/\Fx b.toNat=true/\(∀c∈r,Az c.toNat=true)/\r.length<=2
structure pE (a:RAtom):Prop where
 nm:GNm a.pred
 ne:a.terms≠[]
 few:a.terms.length<=3
 tm:∀t∈a.terms,zV t
structure GIt (x:RItem):Prop where
 nm:GNm x.head.pred
 out:x.out=true->x.head.nt=false/\x.head.terms=[]/\x.body=[]
 rule:x.out=false->pE x.head/\x.head.nt=false/\x.body.length<=5/\∀a∈x.body,pE a
theorem O6 (p:Int->Bool):∀(n:Nat) (t r:Tx),(∀b∈t,p b.toNat=true)->t.length<=n->(∀b q,r=b::q->p b.toNat=false)->Ar p n (t++r)=(t,r)
 |n,[],r,_,_,hr=>by
  cases n with
  |zero=>rfl
  |succ n=>
   cases r with
   |nil=>rfl
   |cons b q=>
    show Ar p (n+1) (b::q)=_;unfold Ar;rw[if_neg (by simp[hr b q rfl])]
 |0,b::t,r,_,hl,_=>by simp at hl
 |n+1,b::t,r,ht,hl,hr=>by
  show Ar p (n+1) (b::(t++r))=_;unfold Ar;rw[if_pos (ht b (by simp)),O6 p n t r (fun c hc=>ht c (by simp[hc])) (by simpa using hl) hr]
theorem Mm (p:Int->Bool):∀(n:Nat) (s:Tx),(Ar p n s).1.length<=n
 |0,s=>by simp[Ar]
 |n+1,[]=>by simp[Ar]
 |n+1,b::r=>by
  unfold Ar;split
  ·have:=Mm p n r;simp;omega
  ·simp
theorem dE {p r:Tx}(h:GNm p)(hr:∀b q,r=b::q->Bl b.toNat=false):Ea (p++r)= .got p r:=by
 unfold Ea;rw[O6 Bl 6 p r h.1.2 h.2 hr];rw[if_neg h.1.1]
theorem dF {s r p:Tx}(h:Ea s= .got p r):GNm p:=by
 refine⟨(Mn h).2,?_⟩;unfold Ea at h;split at h
 ·cases h
 ·cases h;exact Mm _ _ _
theorem dC {t r:Tx}(h:zV t)(hr:∀b q,r=b::q->Az b.toNat=false):Ce (t++r)= .got t r:=by
 rcases h with⟨b,rfl,hb⟩|rfl|⟨b,q,rfl,hb,hq,hl⟩
 ·show Ce (b::r)=_;unfold Ce;dsimp only;rw[if_pos hb]
 ·show Ce (48::r)=_;unfold Ce;dsimp only;rw[if_neg (by decide),if_pos (by decide)]
 ·show Ce (b::(q++r))=_;unfold Ce;dsimp only;rw[if_neg,if_neg,if_pos hb,O6 Az 2 q r hq hl hr]
  ·intro e;simp only[Fx,Aaz,Adw]at hb;simp at e;omega
  ·intro e;rw[Kx e]at hb;cases hb
theorem rF {s r t:Tx}(h:Ce s= .got t r):zV t:=by
 cases s with
 |nil=>cases h
 |cons b q=>
  unfold Ce at h;dsimp only at h;split at h
  ·rename_i hl;cases h;exact .inl ⟨b,rfl,hl⟩
  split at h
  ·rename_i h0;cases h;have:b=48:=J4 48 h0;rw[this];exact .inr (.inl rfl)
  split at h
  ·rename_i h9;cases h;exact .inr (.inr ⟨b,_,rfl,h9,(D3 Az 2 q).2,Mm _ _ _⟩)
  ·cases h
theorem Dm {α β:Type}(x:α)(r:Tx)(f:α->Tx->Rd β):(Rd.got x r).bnd f=f x r:=rfl
theorem I9 {c:UInt8}{r:Tx}:Aw c.toNat (c::r)= .got () r:=by unfold Aw;dsimp only;rw[if_pos (by simp)]
theorem Mb (t:Tx)(ts:List Tx):Cr (t::ts)=44::(t++Cr ts):=by simp[Cr]
theorem Sy {α:Type}{f:Tx->Rd α}{u:α->Tx}{c:UInt8}(hc:c≠44){P:α->Prop}(hf:∀x r,P x->(∀b q,r=b::q->b=44\/b=c)->f (u x++r)= .got x r):∀(n:Nat) (xs:List α) (r:Tx),(∀x∈xs,P x)->xs.length<=n->Dl f n (Cr (xs.map u)++c::r)= .got xs (c::r)
 |0,[],r,_,_=>rfl
 |n+1,[],r,_,_=>by
  show Dl f (n+1) (c::r)=_;unfold Dl
  rw[if_neg (by
   intro h
   exact hc (J4 44 h))]
 |0,x::xs,r,_,hl=>by simp at hl
 |n+1,x::xs,r,hP,hl=>by
  rw[Abg,Mb];show Dl f (n+1) (44::((u x++Cr (xs.map u))++c::r))=_;unfold Dl;rw[if_pos (by decide),Abl,hf x _ (hP x (by simp)) ?_]
  ·rw[Dm,Sy hc hf n xs r (fun y hy=>hP y (by simp[hy])) (by simpa using hl)];rfl
  ·intro b q e;cases xs with
   |nil=>simp[Cr]at e;exact .inr e.1.symm
   |cons y ys=>rw[Abg,Mb]at e;simp at e;exact .inl e.1.symm
theorem nd {b:UInt8}(h:b=44\/b=41):Az b.toNat=false:=by rcases h with rfl|rfl<;>decide
theorem S3 {a:RAtom}(h:pE a)(r:Tx):C2 a.nt (A4 a++r)= .got a r:=by
 unfold C2 A4;rw[Abl,dE h.nm (fun b q e=>by simp at e;rw[<-e.1];decide)];rw[Dm,Aci];rw[show (40:Int)=((40:UInt8).toNat:Int)from rfl,I9];rw[Dm];obtain⟨t,ts,e⟩:=List.exists_cons_of_ne_nil h.ne;have ab:=h.tm;have aa:=h.few;rw[e]at ab aa;rw[e,Cv];unfold S4;have e2:((t++Cr ts++[41])++r:Tx)=t++(Cr (ts.map id)++41::r):=by simp
 rw[e2,dC (ab t (by simp)) ?_]
 ·rw[Dm,Sy (u:=id) (c:=41) (by decide) (P:=zV) (fun x r hx hr=>dC hx fun b q e=>nd (hr b q e)) 2 ts r (fun y hy=>ab y (by simp[hy])) (by simpa using aa)];rw[Dm,show (41:Int)=((41:UInt8).toNat:Int)from rfl,I9];rw[Dm,<-e]
 ·intro b q eb;cases ts with
  |nil=>simp[Cr]at eb;exact nd (.inr eb.1.symm)
  |cons y ys=>rw[Abg,Mb]at eb;simp at eb;exact nd (.inl eb.1.symm)
theorem lG {a:RAtom}(h:pE a)(r:Tx):I8 (Dg a++r)= .got a r:=by
 have hp:=S3 h r;cases hn:a.nt with
 |true=>
  rw[hn]at hp;rw[show Dg a++r=33::(A4 a++r)by simp[Dg,hn]];unfold I8;dsimp only;rw[if_pos (by decide)];exact hp
 |false=>
  rw[hn]at hp;rw[show Dg a++r=A4 a++r by simp[Dg,hn]];obtain⟨b,q,e,h1,h2⟩:=Jw h.nm.1;have e2:A4 a++r=b::(q++40::(Cv a.terms++[41])++r):=by unfold A4;rw[e];simp
  rw[e2]at hp⊢;unfold I8;dsimp only;rw[if_neg (by simp;omega)];exact hp
theorem rH {x:RItem}(h:GIt x)(r:Tx):Ey (Co x++46::r)= .got x r:=by
 cases ho:x.out with
 |true=>
  obtain⟨h1,h2,h3⟩:=h.out ho;rw[Co,if_pos ho];show Ey (63::(x.head.pred++46::r))=_;unfold Ey;dsimp only;rw[if_pos (by decide)];unfold Yt;rw[dE h.nm (fun b q e=>by simp at e;rw[<-e.1];decide)];rw[Dm,show (46:Int)=((46:UInt8).toNat:Int)from rfl,I9];rw[Dm];obtain⟨o,⟨n,p,ts⟩,bd⟩:=x;simp only at h1 h2 h3 ho;subst h1;subst h2;subst h3;subst ho;rfl
 |false=>
  obtain⟨h1,h2,h3,h4⟩:=h.rule ho;have hR:Ey (Co x++46::r)=L5 (Co x++46::r):=by
   obtain⟨b,q,e,g1,g2⟩:=Jw h.nm.1;have e2:Co x++46::r=b::(q++40::(Cv x.head.terms++[41])++(if x.body=[]then []else 58::45::Cv (x.body.map Dg))++46::r):=by
    unfold Co D7 A4;rw[if_neg (by simp[ho]),e];simp
   rw[e2];unfold Ey;dsimp only;rw[if_neg (by simp;omega)]
  rw[hR,Co,if_neg (by simp[ho]),D7,Abl];unfold L5;have hp:=S3 h1 ((if x.body=[]then []else 58::45::Cv (x.body.map Dg))++46::r);rw[h2]at hp;rw[hp,Dm];by_cases hb:x.body=[]
  ·rw[if_pos hb];show L4 x.head (46::r)=_;unfold L4;dsimp only;rw[if_pos (by decide)];rw[<-hb,<-ho]
  ·rw[if_neg hb];obtain⟨l,ls,e⟩:=List.exists_cons_of_ne_nil hb;rw[e]at h3 h4;rw[e,Abg,Cv];have e2:(58::45::(Dg l++Cr (ls.map Dg))++46::r:Tx)=58::45::(Dg l++(Cr (ls.map Dg)++46::r)):=by simp
   rw[e2];unfold L4;dsimp only;rw[if_neg (by decide)];rw[show (58:Int)=((58:UInt8).toNat:Int)from rfl,I9];rw[Dm,show (45:Int)=((45:UInt8).toNat:Int)from rfl,I9];rw[Dm];unfold P6;rw[lG (h4 l (by simp)),Dm,Sy (u:=Dg) (c:=46) (by decide) (P:=pE) (fun y q hy _=>lG hy q) 4 ls r (fun y hy=>h4 y (by simp[hy])) (by simpa using h3)];rw[Dm,show (46:Int)=((46:UInt8).toNat:Int)from rfl,I9];rw[Dm,<-e,<-ho]
theorem Wr:∀(n:Nat) (l:List RItem),(∀x∈l,GIt x)->l.length<=n->Bf n (Da l)= .got l []
 |n,[],_,_=>by cases n<;>rfl
 |0,x::l,_,hl=>by simp at hl
 |n+1,x::l,h,hl=>by
  have e:Da (x::l)=Co x++46::Da l:=by simp[Da]
  have aa:Co x++46::Da l≠[]:=by simp
  obtain⟨b,q,e2⟩:=List.exists_cons_of_ne_nil aa;rw[e];have hp:=rH (h x (by simp)) (Da l);rw[e2]at hp⊢;show ((Ey (b::q)).bnd fun x r=>(Bf n r).bnd fun xs r=>.got (x::xs) r)=_;rw[hp,Dm,Wr n l (fun y hy=>h y (by simp[hy])) (by simpa using hl)];rfl
theorem rG {α:Type}{f:Tx->Rd α}{P:α->Prop}(hf:∀s x r,f s= .got x r->P x){n:Nat}{s:Tx}{xs:List α}{r:Tx}(h:Dl f n s= .got xs r):∀x∈xs,P x:=Lk hf n s xs r h
theorem Nv {nt:Bool}{s r:Tx}{a:RAtom}(h:C2 nt s= .got a r):pE a:=by
 have hw:=(Fh h).2.1;have ht:=Jb (T:=zV) (fun _ _ _ h=>rF h) h;refine⟨?_,hw.2.1,hw.2.2.1,ht⟩;unfold C2 at h;obtain⟨p,q,h1,h⟩:=Ax h;obtain⟨u,q2,h2,h⟩:=Ax h;unfold S4 at h;obtain⟨t,q3,h3,h⟩:=Ax h;obtain⟨ts,q4,h4,h⟩:=Ax h;obtain⟨u2,q5,h5,h⟩:=Ax h;cases h;exact dF h1
theorem lH {s r:Tx}{a:RAtom}(h:I8 s= .got a r):pE a:=by
 cases s with
 |nil=>cases h
 |cons b q=>
  unfold I8 at h;dsimp only at h;split at h
  ·exact Nv h
  ·exact Nv h
theorem rI {s r:Tx}{x:RItem}(h:Ey s= .got x r):GIt x:=by
 have hw:=(S0 h).2;cases s with
 |nil=>cases h
 |cons b q=>
  unfold Ey at h;dsimp only at h;split at h
  ·unfold Yt at h;obtain⟨p,q,h1,h⟩:=Ax h;obtain⟨u,q2,h2,h⟩:=Ax h;cases h;exact⟨dF h1,hw.2.1,(fun e=>by cases e)⟩
  ·unfold L5 at h;obtain⟨hd,q,h1,h⟩:=Ax h;have hg:=Nv h1;have key:x.head=hd/\x.out=false/\∀a∈x.body,pE a:=by
    cases q with
    |nil=>cases h
    |cons c q=>
     unfold L4 at h;dsimp only at h;split at h
     ·cases h;exact⟨rfl,rfl,by simp⟩
     ·obtain⟨_,q2,_,h⟩:=Ax h;obtain⟨_,q3,_,h⟩:=Ax h;unfold P6 at h;obtain⟨l,q4,h4,h⟩:=Ax h;obtain⟨ls,q5,h5,h⟩:=Ax h;obtain⟨_,q6,_,h⟩:=Ax h;cases h;refine⟨rfl,rfl,fun a ha=>?_⟩;rcases Acd.1 ha with rfl|ha
      ·exact lH h4
      ·exact rG (fun _ _ _ h=>lH h) h5 a ha
   obtain⟨e1,e2,e3⟩:=key;refine⟨by rw[e1];exact hg.nm,hw.2.1,fun ho=>⟨by rw[e1];exact hg,(hw.2.2 ho).2.1,(hw.2.2 ho).2.2.1,e3⟩⟩
theorem Ll:∀(n:Nat) (s:Tx) (l:List RItem) (r:Tx),Bf n s= .got l r->∀x∈l,GIt x
 |n,[],l,r,h=>by
  cases n<;>(cases h;intro x hx;cases hx)
 |0,b::s,l,r,h=>by cases h
 |n+1,b::s,l,r,h=>by
  have h':((Ey (b::s)).bnd fun x r=>(Bf n r).bnd fun xs r=>.got (x::xs) r)= .got l r:=h;obtain⟨x,q,h1,h2⟩:=Ax h';obtain⟨xs,q2,h3,h4⟩:=Ax h2;cases h4;intro y hy;rcases Acd.1 hy with rfl|hy
  ·exact rI h1
  ·exact Ll n _ _ _ h3 y hy
end Go.Proofs.YtmoeoppbmhfbpaaGreatDoorH
namespace Go.Abs
theorem fD {P:Program}{t:TypeId}{z b:Nat}{zc:List Value}{d:St}{id2 m n:Nat}{x:AV}{xs ys:List AV}{K:AV->St->Prop}(ht:Ld P t=some (z,b,zc))
  (hz:0<z) (hzc:zc.length=z) (hy:ys.length=m*z) (hf:ys.all flat=true) (hm:0<m) (hb:(n+m)*b<=140737488355328) (hl:n+m<=1099511627776)
  (hx:(x=nilS/\n=0/\xs=[])\/∃o cap,x=gx o n cap/\0<n/\n<=cap/\(d.obj o).length=cap*z/\(d.obj o).take (n*z)=xs)
  (hO:∀o cap cs,((∃c0,x=gx o n c0/\n+m<=c0/\cap=c0)->cs.length=cap*z->cs.take ((n+m)*z)=xs++ys->K (gx o (n+m) cap) (d.put o cs)))
  (hN:∀cap cs,cs.length=cap*z->n+m<=cap->cs.take ((n+m)*z)=xs++ys->K (gx d.nobj (n+m) cap) (d.new cs)):Gx P t t x (sl id2 m ys) d K:=by
 right;refine⟨z,b,zc,id2,m,ys,ht,rfl,rfl,hz,hzc,hy,hf,hm,?_⟩;have ab:∀k,(List.replicate k (zc.map cst1)).flatten.length=k*z:=fun k=>by
  induction k with
  |zero=>simp
  |succ k ih=>rw[Abe,List.flatten_cons,Abj,ih,Ace,hzc,Aa9,Nat.add_comm]
 rcases hx with⟨rfl,rfl,rfl⟩|⟨o,cap,rfl,ai,af,aa,ac⟩
 ·refine .inl ⟨rfl,by simpa using hb,by simpa using hl,fun cap hc=>?_⟩;have:=hN cap (ys++(List.replicate (cap-m) (zc.map cst1)).flatten) (by rw[Abj,hy,ab,<-Abh];congr 1;omega) Ad2 (by rw[Abi,<-hy,List.take_left];rfl);rw[Abi]at this;exact this
 ·have ad:xs.length=n*z:=by rw[<-ac,Abk,aa];exact Abp (Aar _ af)
  refine .inr ⟨o,n,cap,rfl,hb,hl,aa,Ad2,fun hc=>?_,fun hc cap' ah=>?_⟩
  ·have ae:n*z+ys.length<=(d.obj o).length:=by rw[hy,aa,<-Abh];exact Aar _ hc
   refine hO o cap _ ⟨cap,rfl,hc,rfl⟩ (by rw[F8];exact aa) ?_;rw[G1 _ _ _ ae,ac];have:(n+m)*z=(xs++ys).length:=by rw[Abj,ad,hy,Abh]
   rw[this,List.take_left]
  ·refine hN cap' _ ?_ ah ?_
   ·rw[ac,Abj,Abj,ad,hy,ab,<-Abh,<-Abh];congr 1;omega
   ·rw[ac];have:(n+m)*z=(xs++ys).length:=by rw[Abj,ad,hy,Abh]
    rw[this,List.take_left]
theorem wM {P:Program}{t:TypeId}{z b:Nat}{zc:List Value}{d:St}{id2 m n o cap:Nat}{xs ys:List AV}{K:AV->St->Prop}(ht:Ld P t=some (z,b,zc))
  (hz:0<z) (hzc:zc.length=z) (hy:ys.length=m*z) (hf:ys.all flat=true) (hm:0<m) (hb:(n+m)*b<=140737488355328) (hl:n+m<=1099511627776)
  (ah:0<cap) (af:n<=cap) (aa:(d.obj o).length=cap*z) (ab:(d.obj o).take (n*z)=xs)
  (hO:n+m<=cap->∀cs:List AV,cs.length=cap*z->cs.take ((n+m)*z)=xs++ys->K (gx o (n+m) cap) (d.put o cs))
  (hN:∀(cap':Nat) (cs:List AV),cs.length=cap'*z->n+m<=cap'->cs.take ((n+m)*z)=xs++ys->K (gx d.nobj (n+m) cap') (d.new cs)):Gx P t t (gx o n cap) (sl id2 m ys) d K:=by
 right;refine⟨z,b,zc,id2,m,ys,ht,rfl,rfl,hz,hzc,hy,hf,hm,?_⟩;have ac:∀k,(List.replicate k (zc.map cst1)).flatten.length=k*z:=fun k=>by
  induction k with
  |zero=>simp
  |succ k ih=>rw[Abe,List.flatten_cons,Abj,ih,Ace,hzc,Aa9,Nat.add_comm]
 have ae:xs.length=n*z:=by rw[<-ab,Abk,aa];exact Abp (Aar _ af)
 have e0:(n+m)*z=(xs++ys).length:=by rw[Abj,ae,hy,Abh]
 refine .inr ⟨o,n,cap,rfl,hb,hl,aa,ah,fun hc=>?_,fun hc cap' ai=>?_⟩
 ·have ad:n*z+ys.length<=(d.obj o).length:=by rw[hy,aa,<-Abh];exact Aar _ hc
  refine hO hc _ (by rw[F8];exact aa) ?_;rw[G1 _ _ _ ad,ab,e0,List.take_left]
 ·refine hN cap' _ ?_ ai ?_
  ·rw[ab,Abj,Abj,ae,hy,ac,<-Abh,<-Abh];congr 1;omega
  ·rw[ab,e0,List.take_left]
theorem jJ {P:Program}{N:Nat}{c:Code}{Q:Ge}{s:Sl}{d:St}{o p n cap j k:Nat}{ys:List AV}(ho:o<d.nobj)(hp:p<d.nobj)(aj:o≠p)(hy:d.obj p=ys)(hj:ys[j]?=some (gx o n cap))(hk:k<=(d.obj o).length)
  (h:Jl P N c Q s ((d.put o []).put p (ys.set j (sl 0 n ((d.obj o).take k))))):Jl P N c Q s d:=fun G a w R=>by
 obtain⟨G',I',E,ab,aa⟩:=R.inv.freeze ho;have ad:(d.put o []).obj p=ys:=by simp[St.put,aj.symm,hy]
 have am:(d.put o []).obj p≠[]:=fun e=>by rw[ad]at e;rw[e]at hj;simp at hj
 obtain⟨I2,E2⟩:=I'.retell (o:=p) hp am (ys.set j (sl 0 n ((d.obj o).take k))) (fun arr ha=>by
  rw[ad]at ha;refine⟨by rw[List.length_set];exact ha.1,fun i v x hv hx=>?_⟩;by_cases ae:i=j
  ·subst ae;have an:=(Aau.1 hj).1;rw[List.getElem?_set_self an]at hx;cases hx;obtain⟨e1,e2,e3⟩:=VR.of_gx (ha.2 i v _ hv hj);refine VR.fold ⟨some ⟨G'.blk o,0,none⟩,cap,e1,⟨e2,fun h=>by cases h⟩,fun af=>⟨G'.blk o,0,rfl,fun q y hq=>?_⟩,fun k' ap=>Ad2⟩;have ak:d.obj o≠[]:=fun e=>af (by rw[e];simp);obtain⟨⟨cur,ecur,ac,ao⟩,-⟩:=(R.inv.obj o ho).2.2 ak;rw[Aas]at hq;split at hq
   case isFalse=>cases hq
   obtain⟨u,ai,ah⟩:=ao.get hq;refine⟨by rw[aa];exact ab _,u,?_,ah.ext E⟩;rw[aa];simp only[World.cell?,ac,Abi];simpa using ai
  ·rw[Adn (Ne.symm ae)]at hx
   exact ha.2 i v x hv hx)
 have R2:Rel N G' s ((d.put o []).put p (ys.set j (sl 0 n ((d.obj o).take k)))) a w:=⟨R.defers,R.size,fun t=>(R.tmps t).ext (E.trans E2),I2⟩;exact wp_mono (h G' a w R2) fun e a' w' hc=>hc.ext (E.trans E2)
theorem T9 {P:Program}{N:Nat}{c:Code}{Q:Ge}{s:Sl}{d:St}{o n cap k t:Nat}(ho:o<d.nobj)(ht:s t=gx o n cap)(hk:k<=(d.obj o).length)
  (h:Jl P N c Q (upd s t (sl 0 n ((d.obj o).take k))) (d.put o [])):Jl P N c Q s d:=fun G a w R=>by
 obtain⟨G',I',E,aa,ai⟩:=R.inv.freeze ho
 have R2:Rel N G' (upd s t (sl 0 n ((d.obj o).take k))) (d.put o []) a w:=⟨R.defers,R.size,fun q=>by
  unfold upd;by_cases hq:q=t
  ·rw[if_pos hq];subst hq;have hv:=R.tmps q;rw[ht]at hv;obtain⟨e1,e2,e3⟩:=VR.of_gx hv;refine VR.fold ⟨some ⟨G.blk o,0,none⟩,cap,e1,⟨e2,fun h=>by cases h⟩,fun ac=>⟨G.blk o,0,rfl,fun q y hq=>?_⟩,fun k' aj=>Ad2⟩;have af:d.obj o≠[]:=fun e=>ac (by rw[e];simp);obtain⟨⟨cur,ecur,ab,ah⟩,-⟩:=(R.inv.obj o ho).2.2 af;rw[Aas]at hq;split at hq
   case isFalse=>cases hq
   obtain⟨u,ae,ad⟩:=ah.get hq;refine⟨aa _,u,?_,ad.ext E⟩;simp only[World.cell?,ab,Abi];simpa using ae
  ·rw[if_neg hq];exact (R.tmps q).ext E,I'⟩
 exact wp_mono (h G' a w R2) fun e a' w' hc=>hc.ext E
end Go.Abs
