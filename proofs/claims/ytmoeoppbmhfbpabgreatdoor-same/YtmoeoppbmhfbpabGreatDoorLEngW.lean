import Derived.Test.YtmoeoppbmhfbpabGreatDoorLNegA
set_option maxHeartbeats 64000000
set_option maxRecDepth 100000
set_option linter.all false
namespace Go.Proofs.YtmoeoppbmhfbpabGreatDoorL
open Go.Abs
structure Rc (q:Qry):Prop where
 ok:Ou q
 n:QN q
 w:WP q
 wf:jW q
theorem TrimR.ok {q q':Qry}(h:TrimR q q')(hq:Ou q):Ou q'/\q'.nots=q.nots/\∀p∈q'.parts,p∈q.parts:=by
 induction h with
 |refl=>exact⟨hq,rfl,fun p hp=>hp⟩
 |tail h ih=>exact⟨eE ih.1,ih.2.1,fun p hp=>ih.2.2 p (List.mem_of_mem_eraseP hp)⟩
theorem Aau {q q':Qry}(h:NarS q q')(hw:jW q):jW q':=fun v hv=>by
 obtain⟨e1,e2,e3⟩:=h.atoms;rw[e2,e3]at hv;obtain⟨p,hp,aa⟩:=hw v hv;have:p.a∈q'.parts.map (·.a):=by rw[e1];exact Ahv.2 ⟨p,hp,rfl⟩
 obtain⟨p',h1,h2⟩:=Ahv.1 this;exact⟨p',h1,by rw[h2];exact aa⟩
theorem RdS.fin {neg:Int->Bc->Prop}{q:Qry}{L:List Part}{Nn:List Df}(h:RdS neg q q.nots.length L Nn)(hA:Rc q):Rc ⟨q.head,L,Nn⟩/\Red neg q ⟨q.head,L,Nn⟩:=by
 have ab:∀a∈Nn,a∈q.nots:=fun a ha=>by
  have:=h.nsub.subset ha;rwa[Agw]at this
 have aa:=h.sol;rw[Agw]at aa;have ad:∀p∈q.parts,∃p'∈L,p'.a=p.a:=fun p hp=>by
  have:p.a∈L.map (·.a):=by rw[h.atm];exact Ahv.2 ⟨p,hp,rfl⟩
  obtain⟨p',h1,h2⟩:=Ahv.1 this;exact⟨p',h1,h2⟩
 refine⟨⟨⟨hA.ok.hd,?_,?_,fun p hp=>?_,fun p hp=>?_,fun p hp=>?_,fun a ha=>hA.ok.na a (ab a ha)⟩,fun p hp t ht=>?_,fun p hp=>?_,fun v hv=>?_⟩,rfl,fun a ha=>?_,fun ν hν=>(aa ν).1 hν,fun ν hν=>⟨ν,(aa ν).2 hν,fun _ _=>rfl⟩⟩
 ·have:=congrArg List.length h.atm;simp at this;rw[this];exact hA.ok.pl
 ·have:=h.nsub.length_le;rw[Agw]at this;exact Agj this hA.ok.nl
 ·obtain⟨p0,g1,g2,g3⟩:=h.sub p hp;rw[g2];exact hA.ok.pa p0 g1
 ·obtain⟨p0,g1,g2,g3⟩:=h.sub p hp;exact Agj g3.length_le (hA.ok.pt p0 g1)
 ·obtain⟨p0,g1,g2,g3⟩:=h.sub p hp;exact fun t ht=>hA.ok.p3 p0 g1 t (g3.subset ht)
 ·obtain⟨p0,g1,g2,g3⟩:=h.sub p hp;rw[g2];exact hA.n p0 g1 t (g3.subset ht)
 ·obtain⟨p0,g1,g2,g3⟩:=h.sub p hp;rw[g2];exact⟨(hA.w p0 g1).1,fun t ht=>(hA.w p0 g1).2 t (g3.subset ht)⟩
 ·obtain⟨p,hp,ac⟩:=hA.wf v (by
   rcases hv with hv|⟨a,ha,hv⟩
   ·exact .inl hv
   ·exact .inr ⟨a,ab a ha,hv⟩)
  obtain⟨p',h1,h2⟩:=ad p hp;exact⟨p',h1,by rw[h2];exact ac⟩
 ·unfold atomsQ at ha⊢;simp only[Ahm,Ahs]at ha⊢;rcases ha with ha|ha|ha
  ·exact .inl ha
  ·rw[h.atm]at ha;exact .inr (.inl ha)
  ·exact .inr (.inr (ab a ha))
theorem PS.gx {lo:Nat}{y:St}{x:AV}{n:Nat}{pc:List AV}(h:PS lo y x n pc)(hn:0<n):∃o cap,x=Abs.gx o n cap/\lo<=o/\o<y.nobj/\(y.obj o).length=cap*3/\n<=cap/\(y.obj o).take (n*3)=pc:=by
 rcases h with⟨-,h,-⟩|⟨o,cap,h1,h2,h3,h4,h5,h6,h7⟩
 ·omega
 ·exact⟨o,cap,h1,h6,h7,h4,h3,h5⟩
def NegOk (neg:Int->Bc->Prop)(M:MM)(q:Qry):Prop:=∀a∈q.nots,∃(k:Nat) (x:Nat×List Bc),a.p=(k:Int)/\M[k]?=some x/\∀t,neg a.p t↔t∈x.2
def Agh (neg:Int->Bc->Prop)(q:Qry)(x:AV):Prop:=∃c',(x=tp [ag c',sc (.bool false)]/\c'.length=4/\c'.all flat=true/\∀ν,¬Lj neg q ν)\/∃q',x=tp [ag c',sc (.bool true)]/\EQ q' c'/\Rc q'/\NE q'/\Red neg q q'/\∀a∈q'.nots,a∈q.nots/\Hw a.ts=false
theorem Z0 (neg:Int->Bc->Prop)(q:Qry)(c:List AV)(om ot:Nat)(M:MM)(d b:Int)(hc:EQ q c)(hA:Rc q)(hNg:NegOk neg M q)(y:St)(hM:MOb y om ot M d b):ACalls Tryz.prog 186 [ptr om 0,ag c] y fun r y'=>Agh neg q r/\Keep y y':=by
 obtain⟨ih,ip,inn,pc,nc,rfl,hP,cp⟩:=hc;have hpl:=EL.length Ef hP;have d6:=EL.length Ic cp;have hl:=hA.ok.pl;have ea:=hA.ok.nl;have di:=hA.ok.na;have HM:Ajs (MOb y om ot M d b):=hM;clear hM;refine Z9 86 [.cell 4 191,.tmp 5] Tryz.func186 ?_
 repeat' (first|refine Z1 ?_|(refine Z8 ?_;intro κ hκ)|(refine Z4 ?_;clear hκ κ)|(refine Z2 ?_ ?_<;>intro h ae<;>try exact Xp)|(refine Z6 ?_;intro idn yn ao am af aa ah ab)|refine Z3 ?_|exact⟨⟩|(apply hκ.out;clear hκ κ))
 refine Af (fun m s y'=>∃(i:Nat) (X:AV) (xs:List AV),m=q.parts.length-i/\i<=q.parts.length/\s 0=ptr om 0/\s 3=ptr y.nobj 0/\s 4=ptr (y.nobj+1) 0/\s 6=ptr (y.nobj+2) 0/\s 18=sl ip q.parts.length pc/\s 19=ic q.parts.length/\s 20=ic i/\Keep y y'/\y.nobj+2<y'.nobj/\y'.obj y.nobj=[ic q.head.p,sl ih q.head.ts.length (Ac q.head.ts),sl ip q.parts.length pc,sl inn q.nots.length nc]/\y'.obj (y.nobj+1)=[ic 0,nilS,nilS,nilS]/\y'.obj (y.nobj+2)=[ic q.head.p,sl ih q.head.ts.length (Ac q.head.ts),X,nilS]/\PS (y.nobj+3) y' X i xs/\Ajs (EL Mk (q.parts.take i) xs)) q.parts.length
  ⟨0,nilS,[],Ajm,Ajm,by simp[upd,initS],Ajo,Ajo,Ajo,Ajo,Ajo,rfl,Xs,Ajr,?_,?_,?_,.inl ⟨rfl,rfl,rfl⟩,rfl⟩ ?_
 ·rw[Ai Ajm,Ag Ajq,Ag Ajq,Ap]
 ·rw[Ai Ajm,Ag Ajq,Bt Ajq Ajq]
 ·rw[show y.nobj+2=y.nobj+1+1 from rfl,Ak]
 rintro m s y' ⟨i,X,xs,rfl,hi,h0,h3,h4,h6,d3,d2,d1,hK,az,c5,au,ap,hX,hE⟩;have a8:=hK.nobj;have ci:=hX.flat;by_cases av:i<q.parts.length
 ·have ad:=List.getElem?_eq_getElem av;obtain⟨id,idt,r,hd⟩:=Fa hP ad;generalize q.parts[i]=w at hd ad;have HX:Ajs (EL Mk (q.parts.take (i+1)) (xs++[ic w.a.p,sl id w.a.ts.length (Ac w.a.ts),sl idt w.tups.length (Dd w.tups)])):=by
   rw[Ajs,Agz,ad,Aia];exact EL.append hE.out (EL.single ⟨id,idt,rfl⟩)
  clear ad hE
  repeat' (first|refine Z1 ?_|(refine Z8 ?_;intro κ hκ)|(refine Z4 ?_;clear hκ κ)|(refine Z2 ?_ ?_<;>intro h ae<;>try exact Xp)|(refine Z6 ?_;intro idn yn ao am af aa ah ab)|refine Z3 ?_|exact⟨⟩|(apply hκ.out;clear hκ κ))
  refine qN (lo:=y.nobj+3) (σ0:=y) (by first|exact Es|exact D3) (by rfl) (by rfl) (by rfl) Ajm Ajm (by simp only[Ah,Ab,Aa];omega) Ajm (((hK.new _).put hK.nobj _).lay 1) (hX.keep ((((Keep.refl _).new _).put (Agi _) _).lay 1)) ?_;intro X' yn cn dj ba am;simp only[Ah,Ab,Aa]at dj;have eob:∀p,p<y.nobj+3->yn.obj p=y'.obj p:=fun p hp=>by rw[ba p hp,As,Ai Ajm,Ag Ajm]
  obtain⟨og,cg,rfl,-⟩:=cn.gx Ajm;clear ba hX;refine Z3 ?_
  repeat' (first|refine Z1 ?_|(refine Z8 ?_;intro κ hκ)|(refine Z4 ?_;clear hκ κ)|(refine Z2 ?_ ?_<;>intro h ae<;>try exact Xp)|(refine Z6 ?_;intro idn yn ao am af aa ah ab)|refine Z3 ?_|exact⟨⟩|(apply hκ.out;clear hκ κ))
  refine⟨q.parts.length-(i+1),Ajm,i+1,gx og (i+1) cg,xs++[ic w.a.p,sl id w.a.ts.length (Ac w.a.ts),sl idt w.tups.length (Dd w.tups)],?_⟩
  ((repeat' with_reducible refine And.intro ?_ ?_)<;>first|exact Xq|exact (am.put Ajm _)|exact (cn.put Ajm _)|exact (HX)|exact Xs)
 ·have hil:i=q.parts.length:=Ajm;subst hil;rw[Agw]at hE;have ds:=hA.ok.pa;have bg:=hA.ok.pt;have dt:=hA.ok.p3;have b9:Ajs (EL Mk q.parts xs/\EL Mm [] []/\RdS neg q 0 q.parts []):=⟨hE.out,rfl,RdS.start neg q⟩;clear hE hi
  repeat' (first|refine Z1 ?_|(refine Z8 ?_;intro κ hκ)|(refine Z4 ?_;clear hκ κ)|(refine Z2 ?_ ?_<;>intro h ae<;>try exact Xp)|(refine Z6 ?_;intro idn yn ao am af aa ah ab)|refine Z3 ?_|exact⟨⟩|(apply hκ.out;clear hκ κ))
  refine Af (fun m s y'=>∃(k i4:Nat) (X:AV) (L:List Part) (Nn:List Df) (xs nxs:List AV),m=q.nots.length-k/\k<=q.nots.length/\s 0=ptr om 0/\s 4=ptr (y.nobj+1) 0/\s 6=ptr (y.nobj+2) 0/\s 32=sl inn q.nots.length nc/\s 33=ic q.nots.length/\s 34=ic k/\Keep y y'/\y.nobj+2<y'.nobj/\y'.obj (y.nobj+1)=[ic 0,nilS,nilS,nilS]/\y'.obj (y.nobj+2)=[ic q.head.p,sl ih q.head.ts.length (Ac q.head.ts),X,sl i4 Nn.length nxs]/\PS (y.nobj+3) y' X L.length xs/\Own y y' i4 Nn.length/\nxs.length=Nn.length*2/\Nn.length<=k/\L.length<=64/\Ajs (EL Mk L xs/\EL Mm Nn nxs/\RdS neg q k L Nn)) q.nots.length
   ⟨0,1,X,q.parts,[],xs,[],Ajm,Ajm,Ajn,Ajn,Ajn,Ajn,Ajn,Ajo,hK,az,au,ap,hX,Own.nil _ _,by simp,by simp,hl,b9⟩ ?_
  clear h0 h3 h4 h6 d3 d2 d1 hK az c5 au ap hX ci a8 av b9;rintro m s y' ⟨k,i4,X,L,Nn,xs,nxs,rfl,hk,h0,h4,h6,d0,cx,cw,hK,az,au,ap,hX,hO,df,ee,cq,hS⟩;have a8:=hK.nobj;have ci:=hX.flat;by_cases av:k<q.nots.length
  ·have ad:=List.getElem?_eq_getElem av;obtain⟨ida,r,hd⟩:=Jl cp ad;have aj:=Ah6 av;have bo:=di _ aj;obtain⟨ka,x,bd,hx,b1⟩:=hNg _ aj;generalize q.nots[k]=a at hd ad aj bo bd b1;have cr:∀p∈L,p.a.ts.length<=3/\p.tups.length<=5000/\T3 p.tups:=fun p hp=>by
    obtain⟨p0,g1,g2,g3⟩:=hS.out.2.2.sub p hp;exact⟨by rw[g2];exact ds p0 g1,Agj g3.length_le (bg p0 g1),fun t ht=>dt p0 g1 t (g3.subset ht)⟩
   have HG:Ajs (q.nots[k]?=some a/\a∈q.nots/\a.p=(ka:Int)/\M[ka]?=some x/\∀t,neg a.p t↔t∈x.2):=⟨ad,aj,bd,hx,b1⟩;have bg:=fun (y1:St) (hh:PS (y.nobj+3) y1 X L.length xs)=>mV (y.nobj+3) (ic q.head.p) (sl ih q.head.ts.length (Ac q.head.ts)) (sl i4 Nn.length nxs) rfl L (fun p hp=>(cr p hp).1) cq X xs hS.out.1 a ida bo y1 hh;have bf:=fun (y1:St)=>Js a.p ida a.ts Ajm y1;have cu:=fun (y1:St) (hh:Keep y y1)=>I0 om ot M d b a ida ka x bo bd hx y1 (HM.out.keep hh);have bl:=fun (p:Part) (idp idtp:Nat) (g1:p.a.ts.length<=3) (g2:p.tups.length<=5000) (g3:T3 p.tups) (y1:St) (hh:Keep y y1)=>cK om ot M d b p a idp idtp ida ka x g1 g2 g3 bo bd hx y1 (HM.out.keep hh);have ay:Ajs _:=bl;clear ad aj bd hx b1 bl
   repeat' (first|refine Z1 ?_|(refine Z8 ?_;intro κ hκ)|(refine Z4 ?_;clear hκ κ)|(refine Z2 ?_ ?_<;>intro h ae<;>try exact Xp)|(refine Z6 ?_;intro idn yn ao am af aa ah ab)|(refine Z5 ?_;refine Xi (bg _ (hX.keep (((Keep.refl _).new _).put (Agi _) _))) ?_;rintro _ _ ⟨(⟨i,p,rfl,hp,cb⟩|⟨rfl,d5⟩),ai⟩)|refine Z3 ?_|exact⟨⟩|(apply hκ.out;clear hκ κ))
   ·rename_i y2;have ak:=ai.nobj;have ac:=ai.obj;simp only[Ab,Aa]at ak ac;have bu:=((hK.new _).put hK.nobj _).trans ai;have o10:=ac y'.nobj Ajm;rw[Ak]at o10;have hi:i<L.length:=(List.getElem?_eq_some_iff.1 hp).1;obtain⟨cd,bz,dc⟩:=cr p (Agp hp);have be:=(hX.keep (((Keep.refl _).new _).put (Agi _) _)).keep ai;obtain⟨o,cap,rfl,d9,ch,ck,ed,b8⟩:=be.gx Ajm;obtain⟨idp,idtp,rp,cj⟩:=Fa hS.out.1 hp;have b5:=EL.length Ef hS.out.1;have de:(y2.obj o).drop (i*3)=ic p.a.p::sl idp p.a.ts.length (Ac p.a.ts)::sl idtp p.tups.length (Dd p.tups)::(rp++(y2.obj o).drop (L.length*3)):=by
     conv=>lhs;rw[<-Aiv (L.length*3) (y2.obj o),b8]
     rw[Aht (by rw[b5];omega),cj];rfl
    have o6:y2.obj (y.nobj+2)=[ic q.head.p,sl ih q.head.ts.length (Ac q.head.ts),gx o L.length cap,sl i4 Nn.length nxs]:=by rw[ac _ Ajm,Ai Ajm,Ag Ajm,ap]
    have o4:y2.obj (y.nobj+1)=[ic 0,nilS,nilS,nilS]:=by rw[ac _ Ajm,Ai Ajm,Ag Ajm,au]
    have bq:Own y y2 i4 Nn.length:=Own.keep (Own.put (Own.new hO _) _ _) ai;have cv:=ay.out p idp idtp cd bz dc;have a0:Ajs (∀idn,EL Mk (L.set i (On x.2 a p)) (lsp xs (i*3) [ic p.a.p,sl idp p.a.ts.length (Ac p.a.ts),sl idn (On x.2 a p).tups.length (Dd (On x.2 a p).tups)])/\EL Mm Nn nxs/\RdS neg q (k+1) (L.set i (On x.2 a p)) Nn):=fun idn=>⟨Aan Ef hS.out.1 hi ⟨idp,idn,rfl⟩,hS.out.2.1,hS.out.2.2.bar HG.out.1 hp cd cb HG.out.2.2.2.2⟩;have ec:i*3+3<=cap*3:=Ajm;have dd:o≠y.nobj+2:=Ajm;have b0:o≠y.nobj+1:=Ajm;clear b8 cj b5 ay hS au ap hX bg bf cu ac hK az hO cb hp h ae;generalize On x.2 a p=bp at*
    refine Bu (Q:=fun e s' y''=>e= .normal/\s' 0=ptr om 0/\s' 4=ptr (y.nobj+1) 0/\s' 6=ptr (y.nobj+2) 0/\s' 32=sl inn q.nots.length nc/\s' 33=ic q.nots.length/\s' 34=ic k/\Keep y y''/\y.nobj+2<y''.nobj/\y''.obj (y.nobj+1)=[ic 0,nilS,nilS,nilS]/\y''.obj (y.nobj+2)=[ic q.head.p,sl ih q.head.ts.length (Ac q.head.ts),gx o L.length cap,sl i4 Nn.length nxs]/\Own y y'' i4 Nn.length/\∃idn,PS (y.nobj+3) y'' (gx o L.length cap) L.length (lsp xs (i*3) [ic p.a.p,sl idp p.a.ts.length (Ac p.a.ts),sl idn bp.tups.length (Dd bp.tups)])) ?_ ?_
    ·refine A2 Aj (fun _=>True) [12] [0,1,2,3,4,5,6,7,8,9] 3 #[true,true,true,true,true,true,true,true,true,true,false,false,false] Ajp (fun _ _ _ h=>by cases h.1) ?_;intro κ hκ;refine Z3 ?_;refine hκ.out _ ?_;clear hκ κ;refine Ao (i:=10) Ajp ?_;refine Ar ?_;intro κ hκ;refine Z3 ?_;refine ACalls.mono (cv _ bu) ?_;rintro _ y5 ⟨⟨idn,rfl⟩,an⟩;have knb:=an.nobj;have bm:=an.obj;have dm:(y5.obj o).length=cap*3:=by rw[bm o ch,ck]
     refine Z3 ?_;refine hκ.out _ _ ⟨Aq an,?_⟩;clear hκ κ;refine Ao (i:=11) Ajp ?_;refine Ar ?_;intro κ hκ;refine Z3 ?_;refine hκ.out _ _ ⟨Aq an,?_⟩;clear hκ κ;refine Ao (i:=12) Ajp ?_;refine Ar ?_;intro κ hκ;refine Z3 ?_;refine hκ.out _ _ ⟨Bs rfl,?_⟩;clear hκ κ;refine A3 Ajp ⟨rfl,Ajn,Ajn,Ajn,Ajn,Ajn,Ajn,(bu.trans an).put Ajm _,by simp only[Ab];omega,by rw[Cn b0.symm,bm _ Ajm,o4],by rw[Cn dd.symm,bm _ Ajm,o6],Own.put (Own.keep bq an) _ _,idn,by rw[<-bm o ch];exact PS.set (c:=[ic p.a.p,sl idp p.a.ts.length (Ac p.a.ts),sl idn bp.tups.length (Dd bp.tups)]) (be.keep an) hi rfl⟩
    ·rintro e s2 y3 ⟨rfl,g0,g4,g6,g32,g33,g34,ef,d8,oc1,oc2,dv,idn,dr⟩;have cy:=a0.out idn;have d4:Ajs _:=cy;clear h0 h4 h6 d0 cx cw be bq o6 o4 de a0 cy cv ck o10
     repeat' (first|refine Z1 ?_|(refine Z8 ?_;intro κ hκ)|(refine Z4 ?_;clear hκ κ)|(refine Z2 ?_ ?_<;>intro h ae<;>try exact Xp)|(refine Z6 ?_;intro idn yn ao am af aa ah ab)|refine Z3 ?_|exact⟨⟩|(apply hκ.out;clear hκ κ))
     refine⟨q.nots.length-(k+1),Ajm,k+1,i4,gx o L.length cap,L.set i bp,Nn,lsp xs (i*3) [ic p.a.p,sl idp p.a.ts.length (Ac p.a.ts),sl idn bp.tups.length (Dd bp.tups)],nxs,?_⟩
     ((repeat' with_reducible refine And.intro ?_ ?_)<;>first|exact Xq|exact (by rw[Ai8];exact dr)|exact (by rw[Ai8];exact cq)|exact (d4)|exact (dv)|exact Xs)
   ·rename_i y2;have ak:=ai.nobj;have ac:=ai.obj;simp only[Ab,Aa]at ak ac;have bu:=((hK.new _).put hK.nobj _).trans ai;have o10:=ac y'.nobj Ajm;rw[Ak]at o10;have o6:y2.obj (y.nobj+2)=[ic q.head.p,sl ih q.head.ts.length (Ac q.head.ts),X,sl i4 Nn.length nxs]:=by rw[ac _ Ajm,Ai Ajm,Ag Ajm,ap]
    have o4:y2.obj (y.nobj+1)=[ic 0,nilS,nilS,nilS]:=by rw[ac _ Ajm,Ai Ajm,Ag Ajm,au]
    have bq:Own y y2 i4 Nn.length:=Own.keep (Own.put (Own.new hO _) _ _) ai;have be:=(hX.keep (((Keep.refl _).new _).put (Agi _) _)).keep ai;clear ay au ap hX bg ac hK hO ai
    repeat' (first|refine Z1 ?_|(refine Z8 ?_;intro κ hκ)|(refine Z4 ?_;clear hκ κ)|(refine Z2 ?_ ?_<;>intro h ae<;>try exact Xp)|(refine Z6 ?_;intro idn yn ao am af aa ah ab)|(refine Z5 ?_;first|(refine Xi (bf _) ?_;rintro _ _ ⟨rfl,an⟩;(have c7:=an.nobj;have aw:=an.obj;have ct:=bu.trans an;have o11:=aw y'.nobj Ajm;rw[o10]at o11;have o12:=aw (y.nobj+2) Ajm;rw[o6]at o12;have o13:=aw (y.nobj+1) Ajm;rw[o4]at o13;have dw:=Own.keep bq an;have cm:=be.keep an))|(refine Xi (cu _ ct) ?_;rintro _ _ ⟨rfl,bi⟩;(have c6:=bi.nobj;have bv:=bi.obj;have dz:=ct.trans bi)))|refine Z3 ?_|exact⟨⟩|(apply hκ.out;clear hκ κ))
    ·have a0:Ajs (EL Mk L xs/\EL Mm (Nn++[a]) (nxs++[ic a.p,sl ida a.ts.length (Ac a.ts)])/\RdS neg q (k+1) L (Nn++[a])):=⟨hS.out.1,EL.append hS.out.2.1 (EL.single ⟨ida,rfl⟩),hS.out.2.2.keepN HG.out.1 (by assumption)⟩;have dn:PS (y.nobj+3) yn X L.length xs:=by
      have:=cm;unfold PS at this⊢;rw[af,aa];exact this
     refine⟨q.nots.length-(k+1),Ajm,k+1,idn,X,L,Nn++[a],xs,nxs++[ic a.p,sl ida a.ts.length (Ac a.ts)],?_⟩
     ((repeat' with_reducible refine And.intro ?_ ?_)<;>first|exact Xq|exact (am.put Ajm _)|exact (dn.put Ajm _)|exact (by simpa using Own.put ao _ _)|exact (a0)|exact Xs)
    ·have bw:Hw a.ts=true:=by assumption
     exact⟨_,rfl,⟨_,.inl ⟨rfl,rfl,rfl,fun ν hν=>hν.2 a HG.out.2.1 ((HG.out.2.2.2.2 _).2 (by rw[Pe bw];simpa using h))⟩⟩,dz.put Ajm _⟩
    ·have bw:Hw a.ts=true:=by assumption
     have a0:Ajs (EL Mk L xs/\EL Mm Nn nxs/\RdS neg q (k+1) L Nn):=⟨hS.out.1,hS.out.2.1,hS.out.2.2.drop HG.out.1 (fun ν hn=>by
      have:=(HG.out.2.2.2.2 _).1 hn;rw[Pe bw]at this
      simp[this]at h)⟩
     refine⟨q.nots.length-(k+1),Ajm,k+1,i4,X,L,Nn,xs,nxs,?_⟩
     ((repeat' with_reducible refine And.intro ?_ ?_)<;>first|exact Xq|exact (cm.keep bi)|exact (Own.keep dw bi)|exact (a0)|exact (by rw[bv _ Ajm];assumption)|exact Xs)
  ·have dk:k=q.nots.length:=Ajm;subst dk;obtain⟨ax,dq⟩:=hS.out.2.2.fin hA;have HU:Ajs (∀a∈Nn,a∈q.nots/\Hw a.ts=false):=fun a ha=>⟨by have:=hS.out.2.2.nsub.subset ha;rwa[Agw]at this,hS.out.2.2.uns a ha⟩;refine jH (lo:=y.nobj+3) (p:=y.nobj+2) (j:=2) hK Ajm Ajm Ajm Ajm hX ap rfl ?_;intro ip1 yf b3 d7 obf ce;have obf2:yf.obj (y.nobj+2)=[ic q.head.p,sl ih q.head.ts.length (Ac q.head.ts),sl ip1 L.length xs,sl i4 Nn.length nxs]:=obf;have o1f:yf.obj (y.nobj+1)=[ic 0,nilS,nilS,nilS]:=by rw[ce _ Ajm Ajm,au]
   have dh:y.nobj+2<yf.nobj:=Ajm;have bh:=fun y=>tF ⟨q.head,L,Nn⟩ [ic q.head.p,sl ih q.head.ts.length (Ac q.head.ts),sl ip1 L.length xs,sl i4 Nn.length nxs] ⟨ih,ip1,i4,xs,nxs,rfl,hS.out.1,hS.out.2.1⟩ ax.ok ax.n y;clear hX au ap hK hS hO df hk ce obf az av a8;have a8:=b3.nobj
   repeat' (first|refine Z1 ?_|(refine Z8 ?_;intro κ hκ)|(refine Z4 ?_;clear hκ κ)|(refine Z2 ?_ ?_<;>intro h ae<;>try exact Xp)|(refine Z6 ?_;intro idn yn ao am af aa ah ab)|(refine Z5 ?_;refine Xi (bh _) ?_;rintro _ _ ⟨⟨_,q1,qp,rfl,⟨ih1,ip1,in1,pc1,nc1,rfl,b2,dy⟩,n1,n2,n3,n4⟩,ai⟩;(have N3:Ajs (q1=kG qp (Cc (atomsQ qp))):=n3;clear n3;have ak:=ai.nobj;have ac:=ai.obj;have br:=b3.trans ai))|refine Z3 ?_|exact⟨⟩|(apply hκ.out;clear hκ κ))
   rename_i y1;have o1:y1.obj (y.nobj+1)=[ic 0,nilS,nilS,nilS]:=by rw[ac _ Ajm,o1f]
   have b6:WP q1:=n2.wp ax.w;have bn:Ou q1:=n2.ok ax.ok;have cf:QN q1:=n2.n ax.n;have bb:q1.nots=Nn:=n2.atoms.2.2;have ca:Red neg q q1:=dq.trans (n2.red ax.w);have a9:jW q1:=Aau n2 ax.wf;have bc:Nrw q1:=by
    obtain⟨g1,g2⟩:=(fI (Cc (atomsQ qp)) qp).2 (by rw[<-N3.out];exact n4);rw[N3.out,g1];exact Aeh g2
   have b4:Ajs (WP q1/\Ou q1/\QN q1/\q1.nots=Nn/\Red neg q q1/\jW q1/\Nrw q1):=⟨b6,bn,cf,bb,ca,a9,bc⟩;clear b6 cf bb ca a9 bc n1 n2 N3 n4 ac ai bh;have eb:=bn.pl;have c9:=bn.pt;clear bn;have db:=EL.length Ef b2
   refine Af (fun m s y2=>∃j:Nat,m=q1.parts.length-j/\j<=q1.parts.length/\s 4=ptr (y.nobj+1) 0/\s 6=ptr (y.nobj+2) 0/\s 72=sl ip1 q1.parts.length pc1/\s 73=ic q1.parts.length/\s 74=ic j/\Keep y y2/\y.nobj+2<y2.nobj/\y2.obj (y.nobj+1)=[ic 0,nilS,nilS,nilS]/\y2.obj (y.nobj+2)=[ic q1.head.p,sl ih1 q1.head.ts.length (Ac q1.head.ts),sl ip1 q1.parts.length pc1,sl in1 q1.nots.length nc1]/\Ajs (∀p∈q1.parts.take j,p.tups≠[])) q1.parts.length
    ⟨0,Ajm,Ajm,Ajn,Ajn,Ajo,Ajo,rfl,br.put Ajm _,by simp only[Ab];omega,by rw[Ai Ajm,o1],by rw[Ak],by simp[Ajs]⟩ ?_
   clear h4 h6 cx cw o1 br ak b3;rintro m s y2 ⟨j,rfl,hj,h4,h6,ei,eh,eg,hK,az,au,ap,hJ⟩;have a8:=hK.nobj;by_cases av:j<q1.parts.length
   ·have ad:=List.getElem?_eq_getElem av;obtain⟨id,idt,r,hd⟩:=Fa b2 ad;have aj:=Ah6 av;have c8:=c9 _ aj;generalize q1.parts[j]=w at hd ad aj c8;by_cases he:w.tups=[]
    ·have b7:w.tups.length=0:=by rw[he];rfl
     have HF:Ajs (∀ν,¬Lj neg q ν):=fun ν hν=>by
      have h1:=(b4.out.2.2.2.2.1.to ν hν).1 w aj;rw[he]at h1;cases h1
     have hb:((w.tups.length:Int)==0)=true:=by rw[b7];rfl
     clear ad b7 he hJ
     repeat' (first|refine Z1 ?_|(refine Z8 ?_;intro κ hκ)|(refine Z4 ?_;clear hκ κ)|(refine Z2 ?_ ?_<;>intro h ae<;>try exact Xp)|(refine Z6 ?_;intro idn yn ao am af aa ah ab)|refine Z3 ?_|exact⟨⟩|(apply hκ.out;clear hκ κ))
     exact⟨_,rfl,⟨_,.inl ⟨rfl,rfl,rfl,HF.out⟩⟩,((hK.new _).put hK.nobj _).put Ajm _⟩
    ·have hb:((w.tups.length:Int)==0)=false:=by
      have:w.tups.length≠0:=fun h=>he (Agu h);simp;exact he
     have HJ:Ajs (∀p∈q1.parts.take (j+1),p.tups≠[]):=by
      rw[Ajs,Agz,ad,Aia];intro p hp;rcases Ahs.1 hp with h|h
      ·exact hJ.out p h
      ·simp at h;subst h;exact he
     clear ad he hJ
     repeat' (first|refine Z1 ?_|(refine Z8 ?_;intro κ hκ)|(refine Z4 ?_;clear hκ κ)|(refine Z2 ?_ ?_<;>intro h ae<;>try exact Xp)|(refine Z6 ?_;intro idn yn ao am af aa ah ab)|refine Z3 ?_|exact⟨⟩|(apply hκ.out;clear hκ κ))
     refine⟨q1.parts.length-(j+1),Ajm,j+1,?_⟩
     ((repeat' with_reducible refine And.intro ?_ ?_)<;>first|exact Xq|exact (HJ)|exact Xs)
   ·have dl:j=q1.parts.length:=Ajm;subst dl;rw[Agw]at hJ;obtain⟨a1,a2,a3,a4,a5,a6,a7⟩:=b4.out;have dp:=fun y=>mT q1 _ ⟨ih1,ip1,in1,pc1,nc1,rfl,b2,dy⟩ a2 y;have cz:Ajs (NE q1):=hJ.out;clear a1 a2 a3 a4 a5 a6 a7 hJ
    repeat' (first|refine Z1 ?_|(refine Z8 ?_;intro κ hκ)|(refine Z4 ?_;clear hκ κ)|(refine Z2 ?_ ?_<;>intro h ae<;>try exact Xp)|(refine Z6 ?_;intro idn yn ao am af aa ah ab)|(refine Z5 ?_;refine Xi (dp _) ?_;rintro _ _ ⟨⟨_,q2,rfl,⟨ih2,ip2,in2,pc2,nc2,rfl,du,dx⟩,da,co⟩,ai⟩;(have ak:=ai.nobj;have ac:=ai.obj;have br:=hK.trans ai))|refine Z3 ?_|exact⟨⟩|(apply hκ.out;clear hκ κ))
    obtain⟨a1,a2,a3,a4,a5,a6,a7⟩:=b4.out;obtain⟨t1,t2,t3⟩:=co.red (neg:=neg) a1 cz.out a7;obtain⟨-,u2,u3⟩:=co.ok a2;exact⟨_,rfl,⟨_,.inr ⟨q2,rfl,⟨ih2,ip2,in2,pc2,nc2,rfl,du,dx⟩,⟨da,fun p hp=>a3 p (u3 p hp),fun p hp=>a1 p (u3 p hp),t3 a6⟩,fun p hp=>cz.out p (u3 p hp),a5.trans t1,fun a ha=>HU.out a (by rw[<-a4,<-u2];exact ha)⟩⟩,br.put Ajm _⟩
theorem Lz (v n:Int)(p:Part):(H5 v n p).a.ts.length=p.a.ts.length/\(H5 v n p).tups.length<=p.tups.length/\∀t∈(H5 v n p).tups,t∈p.tups:=by
 unfold H5;split
 ·exact⟨by simp[Bg],Aio _ _,fun t ht=>(Aip.1 ht).1⟩
 ·exact⟨rfl,Agi _,fun t ht=>ht⟩
theorem putP_has {v n:Int}{p:Part}{w:Int}:A8 (H5 v n p).a.ts w=true↔A8 p.a.ts w=true/\w≠v:=by
 unfold H5;by_cases h:A8 p.a.ts v=true
 ·rw[if_pos h];exact hasV_put (a:=p.a)
 ·rw[if_neg h];exact⟨fun hw=>⟨hw,fun e=>h (e ▸ hw)⟩,fun hw=>hw.1⟩
theorem S4 {q:Qry}{v n w:Int}(h:inQ (C3 v n q) w):inQ q w/\w≠v:=by
 obtain⟨a,ha,hw⟩:=h;unfold atomsQ C3 at ha;simp only[Ahm,Ahs,Ahv]at ha;rcases ha with rfl|⟨p',⟨p,hp,rfl⟩,rfl⟩|⟨b,hb,rfl⟩
 ·have:=hasV_put.1 hw;exact⟨⟨q.head,by simp[atomsQ],this.1⟩,this.2⟩
 ·have:=putP_has.1 hw;exact⟨⟨p.a,Kr hp,this.1⟩,this.2⟩
 ·have:=hasV_put.1 hw;exact⟨⟨b,by simp[atomsQ,hb],this.1⟩,this.2⟩
theorem fQ {q:Qry}{v n:Int}(h:Rc q):Rc (C3 v n q):=by
 have hm:∀p∈(C3 v n q).parts,∃p0∈q.parts,H5 v n p0=p:=fun p hp=>Ahv.1 hp;have ab:∀a∈(C3 v n q).nots,∃a0∈q.nots,Fs v n a0=a:=fun a ha=>Ahv.1 ha;refine⟨⟨by simp[C3,Fs,Bg];exact h.ok.hd,by simp[C3];exact h.ok.pl,by simp[C3];exact h.ok.nl,fun p hp=>?_,fun p hp=>?_,fun p hp=>?_,?_⟩,fun p hp t ht=>?_,Adx h.w,fun w hw=>?_⟩
 ·obtain⟨p0,h0,rfl⟩:=hm p hp;rw[(Lz v n p0).1];exact h.ok.pa p0 h0
 ·obtain⟨p0,h0,rfl⟩:=hm p hp;exact Agj (Lz v n p0).2.1 (h.ok.pt p0 h0)
 ·obtain⟨p0,h0,rfl⟩:=hm p hp;exact fun t ht=>h.ok.p3 p0 h0 t ((Lz v n p0).2.2 t ht)
 ·intro a ha;obtain⟨a0,h0,rfl⟩:=ab a ha;simp[Fs,Bg];exact h.ok.na a0 h0
 ·obtain⟨p0,h0,rfl⟩:=hm p hp;rw[(Lz v n p0).1];exact h.n p0 h0 t ((Lz v n p0).2.2 t ht)
 ·have aa:(A8 q.head.ts w=true\/∃a∈q.nots,A8 a.ts w=true)/\w≠v:=by
   rcases hw with hw|⟨a,ha,hw⟩
   ·have:=hasV_put.1 hw;exact⟨.inl this.1,this.2⟩
   ·obtain⟨a0,h0,rfl⟩:=ab a ha;have:=hasV_put.1 hw;exact⟨.inr ⟨a0,h0,this.1⟩,this.2⟩
  obtain⟨p,hp,ac⟩:=h.wf w aa.1;exact⟨H5 v n p,Ahv.2 ⟨p,hp,rfl⟩,putP_has.2 ⟨ac,aa.2⟩⟩
theorem Lx {q q':Qry}(h:Rc q)(hh:q'.head.ts.length<=3)(hp:q'.parts.Sublist q.parts)(hn:q'.nots.Sublist q.nots)(hw:jW q'):Rc q':=
 ⟨⟨hh,Agj hp.length_le h.ok.pl,Agj hn.length_le h.ok.nl,fun p aa=>h.ok.pa p (hp.subset aa),fun p aa=>h.ok.pt p (hp.subset aa),fun p aa=>h.ok.p3 p (hp.subset aa),fun a ha=>h.ok.na a (hn.subset ha)⟩,
  fun p aa=>h.n p (hp.subset aa),fun p aa=>h.w p (hp.subset aa),hw⟩
theorem Vl {q:Qry}(hw:jW q){v:Int}(h:inQ q v):∃p∈q.parts,A8 p.a.ts v=true:=by
 obtain⟨a,ha,hv⟩:=h;unfold atomsQ at ha;simp only[Ahm,Ahs,Ahv]at ha;rcases ha with rfl|⟨p,hp,rfl⟩|ha
 ·exact hw v (.inl hv)
 ·exact⟨p,hp,hv⟩
 ·exact hw v (.inr ⟨a,ha,hv⟩)
theorem dD {q:Qry}{rs:List Int}(hw:jW q)(hC:Fb (atomsQ q) rs rs)(hh:∀v,A8 q.head.ts v=true->v∈rs):jW (A6 q rs):=fun v hv=>by
 have hr:v∈rs/\∃p∈q.parts,A8 p.a.ts v=true:=by
  rcases hv with h|⟨a,ha,h⟩
  ·exact⟨hh v h,hw v (.inl h)⟩
  ·obtain⟨h1,h2⟩:=Aip.1 ha;exact⟨hC a (by unfold atomsQ;simp[h1]) h2 v (hasV_iff.1 h),hw v (.inr ⟨a,h1,h⟩)⟩
 obtain⟨h1,p,hp,aa⟩:=hr;exact⟨p,Aip.2 ⟨hp,Ahk.2 ⟨v,h1,aa⟩⟩,aa⟩
theorem Aav {q:Qry}{rs:List Int}(hw:jW q)(hC:Fb (atomsQ q) rs rs):jW (H0 q rs):=fun v hv=>by
 rcases hv with h|⟨a,ha,h⟩
 ·simp[H0,A8]at h
 ·obtain⟨h1,h2⟩:=Aip.1 ha;obtain⟨p,hp,aa⟩:=hw v (.inr ⟨a,h1,h⟩);refine⟨p,Aip.2 ⟨hp,?_⟩,aa⟩;cases hb:I9 rs p.a with
  |false=>rfl
  |true=>
   have:=hC p.a (Kr hp) hb v (hasV_iff.1 aa);have:I9 rs a=true:=Ahk.2 ⟨v,this,h⟩;rw[this]at h2;cases h2
theorem NegOk.sub {neg:Int->Bc->Prop}{M:MM}{q q':Qry}(h:NegOk neg M q)(hs:∀a∈q'.nots,∃b∈q.nots,a.p=b.p):NegOk neg M q':=fun a ha=>by
 obtain⟨b,hb,e⟩:=hs a ha;rw[e];exact h b hb
theorem NegOk.put {neg:Int->Bc->Prop}{M:MM}{q:Qry}(h:NegOk neg M q)(v n:Int):NegOk neg M (C3 v n q):=h.sub fun a ha=>by
 obtain⟨b,hb,rfl⟩:=Ahv.1 ha;exact⟨b,hb,rfl⟩
theorem NegOk.near {neg:Int->Bc->Prop}{M:MM}{q:Qry}(h:NegOk neg M q)(rs:List Int):NegOk neg M (A6 q rs):=h.sub fun a ha=>⟨a,(Aip.1 ha).1,rfl⟩
theorem NegOk.far {neg:Int->Bc->Prop}{M:MM}{q:Qry}(h:NegOk neg M q)(rs:List Int):NegOk neg M (H0 q rs):=h.sub fun a ha=>⟨a,(Aip.1 ha).1,rfl⟩
theorem wC {a:Df}(h:Hw a.ts=false):∃v,A8 a.ts v=true:=by
 unfold Hw at h;rw[Aix]at h;obtain⟨⟨b,w⟩,h1,h2⟩:=h;cases b with
 |false=>simp at h2
 |true=>exact⟨w,hasV_iff.2 h1⟩
def S8 (neg:Int->Bc->Prop)(om ot:Nat)(M:MM)(d b:Int)(V:List Int):Prop:=∀(q:Qry) (c:List AV),EQ q c->Rc q->NegOk neg M q->QV q->q.head.ts=[]->(∀v,inQ q v->v∈V)->∀y,MOb y om ot M d b->ACalls Tryz.prog 187 [ptr om 0,ag c] y fun r y'=>(∃b,r=sc (.bool b)/\(b=true↔∃ν,Lj neg q ν))/\Keep y y'
theorem Vu (neg:Int->Bc->Prop)(om ot:Nat)(M:MM)(d b:Int)(V:List Int)(hH:S8 neg om ot M d b V)(q:Qry)(c:List AV)(v:Int)(hc:EQ q c)(hA:Rc q)(hNg:NegOk neg M q)(hV:QV q)(hh:q.head.ts=[])(a0:∀w,inQ q w->w≠v->w∈V)(y:St)(hM:MOb y om ot M d b):ACalls Tryz.prog 223 [ptr om 0,ag c,ic v] y fun r y'=>(∃b,r=sc (.bool b)/\(b=true↔∃n∈Lb q v,∃ν,Lj neg (C3 v n q) ν))/\Keep y y':=by
 have au:=fun y=>Ky q c v hc hA.ok hA.n y;have a9:=Tk hA.n v;have ak:=fun n y=>Vr q c v n hc hA.ok y;have HM:Ajs (MOb y om ot M d b):=hM;clear hM;have a6:∀(n:Int) (c2:List AV),EQ (C3 v n q) c2->∀y1,Keep y y1->ACalls Tryz.prog 187 [ptr om 0,ag c2] y1 fun r y'=>(∃b,r=sc (.bool b)/\(b=true↔∃ν,Lj neg (C3 v n q) ν))/\Keep y1 y':=fun n c2 h2 y1 ay=>
  hH _ c2 h2 (fQ hA) (hNg.put v n) (fun a ha w hw=>by
   obtain⟨⟨b,hb,a3⟩,-⟩:=S4 (q:=q) (v:=v) (n:=n) (w:=w) ⟨a,ha,hasV_iff.2 hw⟩;exact hV b hb w (hasV_iff.1 a3)) (by simp[C3,Fs,Bg,hh]) (fun w hw=>by
   obtain⟨h1,h2⟩:=S4 hw
   exact a0 w h1 h2) y1 (HM.out.keep ay)
 clear hh;obtain⟨ih,ip,inn,pc,nc,rfl,-,-⟩:=hc;generalize Lb q v=vs at*
 have ba:=Bn vs;refine Z9 26 [.tmp 6] Tryz.func223 ?_
 repeat' (first|refine Z1 ?_|(refine Z8 ?_;intro κ hκ)|(refine Z4 ?_;clear hκ κ)|(refine Z2 ?_ ?_<;>intro h ae<;>try exact Xp)|(refine Z5 ?_;refine Xi (au _) ?_;rintro _ _ ⟨⟨idv,rfl⟩,ah⟩;(have ad:=ah.nobj;have ab:=ah.obj;have af:=((Keep.refl y).new _).trans ah;simp only[Aa]at ad ab))|refine Z3 ?_|exact⟨⟩|(apply hκ.out;clear hκ κ))
 rename_i y1;have o0:y1.obj y.nobj=[ic q.head.p,sl ih q.head.ts.length (Ac q.head.ts),sl ip q.parts.length pc,sl inn q.nots.length nc]:=by rw[ab _ Ajm,Ap]
 clear ab ah au
 refine Af (fun m s y'=>∃j:Nat,m=vs.length-j/\j<=vs.length/\s 0=ptr om 0/\s 2=ic v/\s 4=ptr y.nobj 0/\s 12=sl idv vs.length (Am vs)/\s 13=ic vs.length/\s 14=ic j/\Keep y y'/\y.nobj<y'.nobj/\y'.obj y.nobj=[ic q.head.p,sl ih q.head.ts.length (Ac q.head.ts),sl ip q.parts.length pc,sl inn q.nots.length nc]/\Ajs (∀n∈vs.take j,¬ ∃ν,Lj neg (C3 v n q) ν)) vs.length
  ⟨0,Ajm,Ajm,by simp[upd,initS],by simp[upd,initS],Ajo,Ajo,Ajo,rfl,af,Ajm,o0,by simp[Ajs]⟩ ?_
 clear af o0 ad;rintro m s y' ⟨j,rfl,hj,h0,h2,h4,bg,bf,be,hK,bc,ob,hN⟩;have a8:=hK.nobj;by_cases ao:j<vs.length
 ·have aa:=List.getElem?_eq_getElem ao;obtain⟨r,hd⟩:=Dm aa;have ac:=Ah6 ao;generalize vs[j]=n at hd aa ac;have HG:Ajs (n∈vs/\vs[j]?=some n):=⟨ac,aa⟩;clear aa ac;have ak:=ak n
  repeat' (first|refine Z1 ?_|(refine Z8 ?_;intro κ hκ)|(refine Z4 ?_;clear hκ κ)|(refine Z2 ?_ ?_<;>intro h ae<;>try exact Xp)|(refine Z5 ?_;first|(refine Xi (ak _) ?_;rintro _ _ ⟨⟨_,rfl,ih2,ip2,in2,pc2,nc2,rfl,a4,a5⟩,an⟩;(have ax:=an.nobj;have aw:=an.obj;have af:=hK.trans an;have a7:=a6 n _ ⟨ih2,ip2,in2,pc2,nc2,rfl,a4,a5⟩))|(refine Xi (a7 _ ((af.new _).put Ajm _)) ?_;rintro _ _ ⟨⟨bb,rfl,ap⟩,am⟩;(have aj:=am.nobj;have ai:=am.obj;have bd:=((af.new _).put Ajm _).trans am;have av:Ajs _:=ap;clear ap;simp only[Ab,Aa]at aj ai)))|refine Z3 ?_|exact⟨⟩|(apply hκ.out;clear hκ κ))
  ·exact⟨_,rfl,⟨true,rfl,fun _=>⟨n,HG.out.1,av.out.1 (by assumption)⟩,fun _=>rfl⟩⟩
  ·have HN:Ajs (∀n∈vs.take (j+1),¬ ∃ν,Lj neg (C3 v n q) ν):=by
    rw[Ajs,Agz,HG.out.2,Aia];intro u hu;rcases Ahs.1 hu with h'|h'
    ·exact hN.out u h'
    ·simp at h';subst h';intro hex;have:=av.out.2 hex;rw[this]at h;cases h
   refine⟨vs.length-(j+1),Ajm,j+1,?_⟩
   ((repeat' with_reducible refine And.intro ?_ ?_)<;>first|exact Xq|exact (HN)|exact Xs)
 ·have az:j=vs.length:=Ajm;subst az;rw[Agw]at hN
  repeat' (first|refine Z1 ?_|(refine Z8 ?_;intro κ hκ)|(refine Z4 ?_;clear hκ κ)|(refine Z2 ?_ ?_<;>intro h ae<;>try exact Xp)|refine Z3 ?_|exact⟨⟩|(apply hκ.out;clear hκ κ))
  first|exact⟨_,rfl,⟨false,rfl,(fun h=>by cases h),fun⟨n,h1,h2⟩=>absurd h2 (hN.out n h1)⟩,hK⟩|exact⟨_,rfl,⟨false,rfl,(fun h=>by cases h),fun⟨n,h1,h2⟩=>absurd h2 (hN.out n h1)⟩⟩
theorem Pv {q:Qry}{rs:List Int}{v:Int}(h:inQ (A6 q rs) v):inQ q v:=by
 obtain⟨a,ha,hv⟩:=h;refine⟨a,?_,hv⟩;unfold atomsQ A6 at ha;unfold atomsQ;simp only[Ahm,Ahs,Ahv]at ha⊢;rcases ha with h|⟨p,hp,h⟩|h
 ·exact .inl h
 ·exact .inr (.inl ⟨p,(Aip.1 hp).1,h⟩)
 ·exact .inr (.inr (Aip.1 h).1)
theorem qA {q:Qry}{rs:List Int}{v:Int}(h:inQ (H0 q rs) v):inQ q v/\v∉rs:=by
 obtain⟨a,ha,hv⟩:=h;unfold atomsQ H0 at ha;simp only[Ahm,Ahs,Ahv]at ha
 have key:∀b:Df,b∈atomsQ q->(!I9 rs b)=true->A8 b.ts v=true->inQ q v/\v∉rs:=fun b hb aa ab=>⟨⟨b,hb,ab⟩,fun hm=>by
  have:I9 rs b=true:=Ahk.2 ⟨v,hm,ab⟩;rw[this]at aa
  cases aa⟩
 rcases ha with rfl|⟨p,hp,rfl⟩|h
 ·simp[A8]at hv
 ·exact key p.a (Kr (Aip.1 hp).1) (Aip.1 hp).2 hv
 ·exact key a (by unfold atomsQ;simp[(Aip.1 h).1]) (Aip.1 h).2 hv
theorem Rx (neg:Int->Bc->Prop)(om ot:Nat)(M:MM)(d bg:Int)(V:List Int)(IH:∀V':List Int,V'.length<V.length->S8 neg om ot M d bg V'):S8 neg om ot M d bg V:=by
 intro q c hc hA hNg hV hh b2 y hM;have bm:=fun y1 hk=>Z0 neg q c om ot M d bg hc hA hNg y1 (MOb.keep hM (show Keep y y1 from hk));have HM:Ajs (MOb y om ot M d bg):=hM;clear hM;obtain⟨ih,ip,inn,pc,nc,rfl,-,-⟩:=hc;have HH:Ajs (q.head.ts=[]):=hh;clear hh;refine Z9 36 [.tmp 4] Tryz.func187 ?_
 repeat' (first|refine Z1 ?_|(refine Z8 ?_;intro κ hκ)|(refine Z4 ?_;clear hκ κ)|(refine Z2 ?_ ?_<;>intro h ae<;>try exact Xp)|(refine Z5 ?_;refine Xi (bm _ ((Keep.refl _).new _)) ?_;rintro _ _ ⟨⟨c',(⟨rfl,co,cp,a9⟩|⟨q',rfl,⟨ih2,ip2,in2,pc2,nc2,rfl,bn,bo⟩,aa,a6,af,aj⟩)⟩,ah⟩)|refine Z3 ?_|exact⟨⟩|(apply hκ.out;clear hκ κ))
 ·rename_i y1;have ab:=ah.nobj;have o0:=ah.obj y.nobj Ajq;rw[Ap]at o0;simp only[Aa]at ab;have am:=(((Keep.refl y).new _).trans ah);have cj:Ajs (∀ν,¬Lj neg q ν):=a9;clear a9
  repeat' (first|refine Z1 ?_|(refine Z8 ?_;intro κ hκ)|(refine Z4 ?_;clear hκ κ)|(refine Z2 ?_ ?_<;>intro h ae<;>try exact Xp)|refine Z3 ?_|exact⟨⟩|(apply hκ.out;clear hκ κ))
  exact⟨_,rfl,⟨false,rfl,(fun h=>by cases h),fun⟨ν,hν⟩=>absurd hν (cj.out ν)⟩,am.put Ajm _⟩
 ·have ab:=ah.nobj;have aw:=ah.obj;simp only[Aa]at ab aw;have cd:=((Keep.refl y).new _).trans ah;have bc:q'.head.ts=[]:=by rw[af.hd];exact HH.out
  have ak:NegOk neg M q':=hNg.sub fun a ha=>⟨a,(aj a ha).1,rfl⟩;have ap:QV q':=fun a ha v hv=>hV a (af.at_ a ha) v hv;have ac:∀v,inQ q' v->v∈V:=fun v hv=>b2 v (hv.sub af.at_);have bv:=fun y=>cJ q' _ ⟨ih2,ip2,in2,pc2,nc2,rfl,bn,bo⟩ aa.ok aa.n ap y;have bw:Ajs _:=bc;clear bc
  repeat' (first|refine Z1 ?_|(refine Z8 ?_;intro κ hκ)|(refine Z4 ?_;clear hκ κ)|(refine Z2 ?_ ?_<;>intro h ae<;>try exact Xp)|(refine Z5 ?_;refine Xi (bv _) ?_;rintro _ _ ⟨⟨b,rfl,hb⟩,am⟩;(have HB:Ajs _:=hb;clear hb;have az:=am.nobj;have av:=am.obj;have bq:=(cd.put Ajm _).trans am))|refine Z3 ?_|exact⟨⟩|(apply hκ.out;clear hκ κ))
  ·have bd:b= -1:=by simpa using h
   have ba:∀v∈Cc (atomsQ q'),C6 q' v=false:=by
    rcases HB.out with⟨-,h2⟩|⟨h1,-⟩
    ·exact h2
    ·obtain⟨a,ha,hv⟩:=(C4 _ _).1 h1;have:=ap a ha b hv;omega
   have b3:∀v,C8 (q'.parts.map (·.a)) v<=1:=fun v=>by
    have cn:C8 (q'.parts.map (·.a)) v<=C8 (atomsQ q') v:=by
     unfold atomsQ;rw[He,E3];omega
    by_cases hm:v∈Cc (atomsQ q')
    ·have:=ba v hm;unfold C6 at this;rw[decide_eq_false_iff_not]at this;omega
    ·have:C8 (atomsQ q') v=0:=by
      rcases Nat.eq_zero_or_pos (C8 (atomsQ q') v)with h0|h0
      ·exact h0
      ·obtain⟨a,ha,b6⟩:=List.countP_pos_iff.1 h0;exact absurd ((C4 _ _).2 ⟨a,ha,hasV_iff.1 b6⟩) hm
     omega
   obtain⟨ν,hν⟩:=gW (l:=q'.parts) (fun p hp=>⟨a6 p hp,(aa.w p hp).2⟩) b3
   have hS:Lj neg q' ν:=⟨hν,fun a ha=>by
    exfalso;obtain⟨v,hv⟩:=wC (aj a ha).2;obtain⟨p,hp,ai⟩:=aa.wf v (.inr ⟨a,ha,hv⟩);have h1:0<C8 (q'.parts.map (·.a)) v:=Md (Ahv.2 ⟨p,hp,rfl⟩) ai;have h2:=Md ha hv;have h3:C8 (atomsQ q') v=C8 (q'.parts.map (·.a)) v+C8 q'.nots v+if A8 q'.head.ts v=true then 1 else 0:=by
     unfold atomsQ;rw[He,E3]
    have hm:v∈Cc (atomsQ q'):=(C4 _ _).2 ⟨p.a,Kr hp,hasV_iff.1 ai⟩;have:=ba v hm;unfold C6 at this;rw[decide_eq_false_iff_not]at this
    omega⟩
   obtain⟨ν',hν',-⟩:=af.back ν hS
   first|exact⟨_,rfl,⟨true,rfl,fun _=>⟨ν',hν'⟩,fun _=>rfl⟩,bq⟩|exact⟨_,rfl,⟨true,rfl,fun _=>⟨ν',hν'⟩,fun _=>rfl⟩⟩
  ·have bd:b≠ -1:=by simpa using h
   have b4:b∈Cc (atomsQ q'):=by
    rcases HB.out with⟨h1,-⟩|⟨h1,-⟩
    ·exact absurd h1 bd
    ·exact h1
   have be:inQ q' b:=by
    obtain⟨a,ha,hv⟩:=(C4 _ _).1 b4;exact⟨a,ha,hasV_iff.2 hv⟩
   have a4:=ac b be;have bi:(V.erase b).length<V.length:=by
    rw[List.length_erase_of_mem a4];have:=List.length_pos_of_mem a4;omega
   have IHb:=IH (V.erase b) bi;have bl:=fun (id:Nat) y=>Rv q' _ [b] id ⟨ih2,ip2,in2,pc2,nc2,rfl,bn,bo⟩ aa.ok (by simp) y;simp only[Ahj,Ahi,Am,Ag5,Ag6,Ag9]at bl;have ck:Ajs (∀(rs:List Int) (c3:List AV),Fb (atomsQ q') rs rs->EQ (A6 q' rs) c3->∀y1,Keep y y1->ACalls Tryz.prog 223 [ptr om 0,ag c3,ic b] y1 fun r y'=>(∃bb,r=sc (.bool bb)/\(bb=true↔∃n∈Lb (A6 q' rs) b,∃ν,Lj neg (C3 b n (A6 q' rs)) ν))/\Keep y1 y'):=fun rs c3 a8 ci y1 a3=>
    Vu neg om ot M d bg (V.erase b) IHb (A6 q' rs) c3 b ci (Lx aa aa.ok.hd Aja Aja (dD aa.wf a8 (fun v hv=>by rw[bw.out]at hv;simp[A8]at hv))) (ak.near rs)
     (fun a ha w hw=>by
      obtain⟨a',a5,a0⟩:=Pv (rs:=rs) ⟨a,ha,hasV_iff.2 hw⟩
      exact ap a' a5 w (hasV_iff.1 a0)) bw.out (fun w hw b1=>(Aih b1).2 (ac w (Pv hw))) y1 (HM.out.keep a3)
   have cm:Ajs (∀(rs:List Int) (c4:List AV),b∈rs->Fb (atomsQ q') rs rs->EQ (H0 q' rs) c4->∀y1,Keep y y1->ACalls Tryz.prog 187 [ptr om 0,ag c4] y1 fun r y'=>(∃bb,r=sc (.bool bb)/\(bb=true↔∃ν,Lj neg (H0 q' rs) ν))/\Keep y1 y'):=fun rs c4 ao a8 ch y1 a3=>
    IHb (H0 q' rs) c4 ch (Lx aa (by simp[H0]) Aja Aja (Aav aa.wf a8)) (ak.far rs)
     (fun a ha w hw=>by
      obtain⟨⟨a',a5,a0⟩,-⟩:=qA (rs:=rs) ⟨a,ha,hasV_iff.2 hw⟩;exact ap a' a5 w (hasV_iff.1 a0)) rfl (fun w hw=>by
      obtain⟨h1,h2⟩:=qA hw
      exact (Aih (fun e=>h2 (by rw[e];exact ao))).2 (ac w h1)) y1 (HM.out.keep a3)
   clear IHb IH bm bv a4 bi;have o3:=av y.nobj (by simp only[Ab];omega);rw[Ak]at o3;simp only[Ab]at az
   repeat' (first|refine Z1 ?_|(refine Z8 ?_;intro κ hκ)|(refine Z4 ?_;clear hκ κ)|(refine Z2 ?_ ?_<;>intro h ae<;>try exact Xp)|(refine Z5 ?_;first|(refine Xi (bl _ _) ?_;rintro _ _ ⟨⟨_,_,rs,rfl,⟨ih3,ip3,in3,pc3,nc3,rfl,b9,cb⟩,⟨ih4,ip4,in4,pc4,nc4,rfl,b8,ca⟩,hG,hC⟩,bu⟩;(have ao:b∈rs:=(by obtain⟨ad,e,-,-⟩:=hG;rw[e];simp);have cf:=ck.out rs _ hC ⟨ih3,ip3,in3,pc3,nc3,rfl,b9,cb⟩;have cg:=cm.out rs _ ao hC ⟨ih4,ip4,in4,pc4,nc4,rfl,b8,ca⟩;have HC:Ajs _:=hC;clear hC hG;have ay:=bu.nobj;simp only[Ah]at ay;have bp:=(bq.lay 1).trans bu))|(refine Xi (cf _ ((((bp.new _).new _).put Ajm _).put Ajm _)) ?_;rintro _ _ ⟨⟨b5,rfl,bh⟩,a7⟩;(have b0:Ajs _:=bh;clear bh;have ax:=a7.nobj;have au:=a7.obj;simp only[Ab,Aa]at ax au;have br:=((((bp.new _).new _).put Ajm _).put Ajm _).trans a7))|(refine Xi (cg _ br) ?_;rintro _ _ ⟨⟨b7,rfl,bf⟩,ce⟩;(have bz:Ajs _:=bf;clear bf;have cq:=br.trans ce)))|refine Z3 ?_|exact⟨⟩|(apply hκ.out;clear hκ κ))
   ·refine⟨_,rfl,false,rfl,(fun h=>by cases h),fun⟨ν,hν⟩=>?_⟩;have h1:=af.to ν hν;have h2:=eY (rs:=rs) h1;have an:WP (A6 q' rs):=fun p hp=>aa.w p (Aip.1 hp).1;obtain⟨p,hp,ai⟩:=Vl aa.wf be;have h3:=oD (v:=b) an h2 ⟨p,Aip.2 ⟨hp,Ahk.2 ⟨b,ao,ai⟩⟩,ai⟩
    have h4:Lj neg (C3 b (ν b) (A6 q' rs)) ν:=(Su an).2 (by
     have:Ni ν b (ν b)=ν:=by
      funext w;unfold Ni;split
      ·rename_i e;rw[e]
      ·rfl
     rw[this];exact h2)
    have:=b0.out.2 ⟨ν b,h3,ν,h4⟩;rw[this]at h;cases h
   ·refine⟨_,rfl,b7,rfl,fun h7=>?_,fun⟨ν,hν⟩=>bz.out.2 ⟨ν,pL (af.to ν hν)⟩⟩;obtain⟨n,-,ν1,hν1⟩:=b0.out.1 h;obtain⟨ν2,hν2⟩:=bz.out.1 h7;have an:WP (A6 q' rs):=fun p hp=>aa.w p (Aip.1 hp).1;obtain⟨ν',hν',-⟩:=af.back _ (Za HC.out ((Su an).1 hν1) hν2);exact⟨ν',hν'⟩
theorem Ry (neg:Int->Bc->Prop)(om ot:Nat)(M:MM)(d b:Int):∀(k:Nat) (V:List Int),V.length<=k->S8 neg om ot M d b V:=by
 intro k;induction k with
 |zero=>exact fun V hV=>Rx neg om ot M d b V (fun V' h=>Ajm)
 |succ k IH=>exact fun V hV=>Rx neg om ot M d b V (fun V' h=>IH V' Ajm)
end Go.Proofs.YtmoeoppbmhfbpabGreatDoorL
