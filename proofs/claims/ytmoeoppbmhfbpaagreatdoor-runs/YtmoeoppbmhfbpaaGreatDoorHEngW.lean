import Derived.Test.YtmoeoppbmhfbpaaGreatDoorHNegA
set_option maxHeartbeats 64000000
set_option maxRecDepth 100000
set_option linter.all false
namespace Go.Proofs.YtmoeoppbmhfbpaaGreatDoorH
open Go.Abs
structure Py (q:Qry):Prop where
 ok:M9 q
 n:QN q
 w:WP q
 wf:fE q
theorem TrimR.ok {q q':Qry}(h:TrimR q q')(hq:M9 q):M9 q'/\q'.nots=q.nots/\∀p∈q'.parts,p∈q.parts:=by
 induction h with
 |refl=>exact⟨hq,rfl,fun p hp=>hp⟩
 |tail h ih=>exact⟨aY ih.1,ih.2.1,fun p hp=>ih.2.2 p (List.mem_of_mem_eraseP hp)⟩
theorem tX {q q':Qry}(h:NarS q q')(hw:fE q):fE q':=fun v hv=>by
 obtain⟨e1,e2,e3⟩:=h.atoms;rw[e2,e3]at hv;obtain⟨p,hp,aa⟩:=hw v hv;have:p.a∈q'.parts.map (·.a):=by rw[e1];exact Acf.2 ⟨p,hp,rfl⟩
 obtain⟨p',h1,h2⟩:=Acf.1 this;exact⟨p',h1,by rw[h2];exact aa⟩
theorem RdS.fin {neg:Int->Bj->Prop}{q:Qry}{L:List Part}{Nn:List Ee}(h:RdS neg q q.nots.length L Nn)(hA:Py q):Py ⟨q.head,L,Nn⟩/\Red neg q ⟨q.head,L,Nn⟩:=by
 have ab:∀a∈Nn,a∈q.nots:=fun a ha=>by
  have:=h.nsub.subset ha;rwa[Aa3]at this
 have aa:=h.sol;rw[Aa3]at aa;have ad:∀p∈q.parts,∃p'∈L,p'.a=p.a:=fun p hp=>by
  have:p.a∈L.map (·.a):=by rw[h.atm];exact Acf.2 ⟨p,hp,rfl⟩
  obtain⟨p',h1,h2⟩:=Acf.1 this;exact⟨p',h1,h2⟩
 refine⟨⟨⟨hA.ok.hd,?_,?_,fun p hp=>?_,fun p hp=>?_,fun p hp=>?_,fun a ha=>hA.ok.na a (ab a ha)⟩,fun p hp t ht=>?_,fun p hp=>?_,fun v hv=>?_⟩,rfl,fun a ha=>?_,fun ν hν=>(aa ν).1 hν,fun ν hν=>⟨ν,(aa ν).2 hν,fun _ _=>rfl⟩⟩
 ·have:=congrArg List.length h.atm;simp at this;rw[this];exact hA.ok.pl
 ·have:=h.nsub.length_le;rw[Aa3]at this;exact Aal this hA.ok.nl
 ·obtain⟨p0,g1,g2,g3⟩:=h.sub p hp;rw[g2];exact hA.ok.pa p0 g1
 ·obtain⟨p0,g1,g2,g3⟩:=h.sub p hp;exact Aal g3.length_le (hA.ok.pt p0 g1)
 ·obtain⟨p0,g1,g2,g3⟩:=h.sub p hp;exact fun t ht=>hA.ok.p3 p0 g1 t (g3.subset ht)
 ·obtain⟨p0,g1,g2,g3⟩:=h.sub p hp;rw[g2];exact hA.n p0 g1 t (g3.subset ht)
 ·obtain⟨p0,g1,g2,g3⟩:=h.sub p hp;rw[g2];exact⟨(hA.w p0 g1).1,fun t ht=>(hA.w p0 g1).2 t (g3.subset ht)⟩
 ·obtain⟨p,hp,ac⟩:=hA.wf v (by
   rcases hv with hv|⟨a,ha,hv⟩
   ·exact .inl hv
   ·exact .inr ⟨a,ab a ha,hv⟩)
  obtain⟨p',h1,h2⟩:=ad p hp;exact⟨p',h1,by rw[h2];exact ac⟩
 ·unfold atomsQ at ha⊢;simp only[Acd,Ab2]at ha⊢;rcases ha with ha|ha|ha
  ·exact .inl ha
  ·rw[h.atm]at ha;exact .inr (.inl ha)
  ·exact .inr (.inr (ab a ha))
theorem PS.gx {lo:Nat}{y:St}{x:AV}{n:Nat}{pc:List AV}(h:PS lo y x n pc)(hn:0<n):∃o cap,x=Abs.gx o n cap/\lo<=o/\o<y.nobj/\(y.obj o).length=cap*3/\n<=cap/\(y.obj o).take (n*3)=pc:=by
 rcases h with⟨-,h,-⟩|⟨o,cap,h1,h2,h3,h4,h5,h6,h7⟩
 ·omega
 ·exact⟨o,cap,h1,h6,h7,h4,h3,h5⟩
def NegOk (neg:Int->Bj->Prop)(M:MM)(q:Qry):Prop:=∀a∈q.nots,∃(k:Nat) (x:Nat×List Bj),a.p=(k:Int)/\M[k]?=some x/\∀t,neg a.p t↔t∈x.2
def Aaj (neg:Int->Bj->Prop)(q:Qry)(x:AV):Prop:=∃c',(x=tp [ag c',sc (.bool false)]/\c'.length=4/\c'.all flat=true/\∀ν,¬Kf neg q ν)\/∃q',x=tp [ag c',sc (.bool true)]/\EQ q' c'/\Py q'/\NE q'/\Red neg q q'/\∀a∈q'.nots,a∈q.nots/\Gn a.ts=false
theorem W7 (neg:Int->Bj->Prop)(q:Qry)(c:List AV)(om ot:Nat)(M:MM)(d b:Int)(hc:EQ q c)(hA:Py q)(dt:NegOk neg M q)(y:St)(hM:MOb y om ot M d b):ACalls Tryz.prog 169 [ptr om 0,ag c] y fun r y'=>Aaj neg q r/\Keep y y':=by
 obtain⟨ih,ip,inn,pc,nc,rfl,hP,ck⟩:=hc;have d3:=EL.length D6 hP;have d4:=EL.length Hg ck;have hl:=hA.ok.pl;have d8:=hA.ok.nl;have dc:=hA.ok.na;have HM:Ad8 (MOb y om ot M d b):=hM;clear hM;refine Z9 86 [.cell 4 182,.tmp 5] Tryz.func169 ?_
 repeat' (first|refine Z1 ?_|(refine Z8 ?_;intro ya J)|(refine Z4 ?_;clear J ya)|(refine Z2 ?_ ?_<;>intro h ae<;>try exact Xp)|(refine Z6 ?_;intro idn yn ao am af aa ah ab)|refine Z3 ?_|exact Zt|(apply J.out;clear J ya))
 refine Ab (fun m s y'=>∃(i:Nat) (X:AV) (xs:List AV),m=q.parts.length-i/\i<=q.parts.length/\s 0=ptr om 0/\s 3=ptr y.nobj 0/\s 4=ptr (y.nobj+1) 0/\s 6=ptr (y.nobj+2) 0/\s 18=sl ip q.parts.length pc/\s 19=ic q.parts.length/\s 20=ic i/\Keep y y'/\y.nobj+2<y'.nobj/\y'.obj y.nobj=[ic q.head.p,sl ih q.head.ts.length (Ae q.head.ts),sl ip q.parts.length pc,sl inn q.nots.length nc]/\y'.obj (y.nobj+1)=[ic 0,nilS,nilS,nilS]/\y'.obj (y.nobj+2)=[ic q.head.p,sl ih q.head.ts.length (Ae q.head.ts),X,nilS]/\PS (y.nobj+3) y' X i xs/\Ad8 (EL La (q.parts.take i) xs)) q.parts.length
  ⟨0,nilS,[],Ad2,Ad2,by simp[upd,initS],Ad4,Ad4,Ad4,Ad4,Ad4,rfl,Xs,Ad7,?_,?_,?_,.inl ⟨rfl,rfl,rfl⟩,rfl⟩ ?_
 ·rw[Al Ad2,Ai Ad6,Ai Ad6,Am]
 ·rw[Al Ad2,Ai Ad6,Cd Ad6 Ad6]
 ·rw[show y.nobj+2=y.nobj+1+1 from rfl,Ak]
 rintro m s y' ⟨i,X,xs,rfl,hi,h0,h3,h4,h6,d0,dz,dy,hK,az,cv,au,ap,hX,hE⟩;have a8:=hK.nobj;have ce:=hX.flat;by_cases av:i<q.parts.length
 ·have ad:=Aav av;obtain⟨id,idt,r,hd⟩:=Eu hP ad;generalize q.parts[i]=w at hd ad;have HX:Ad8 (EL La (q.parts.take (i+1)) (xs++[ic w.a.p,sl id w.a.ts.length (Ae w.a.ts),sl idt w.tups.length (C7 w.tups)])):=by
   rw[Ad8,Aa8,ad,Ab9];exact EL.append hE.out (EL.single ⟨id,idt,rfl⟩)
  clear ad hE
  repeat' (first|refine Z1 ?_|(refine Z8 ?_;intro ya J)|(refine Z4 ?_;clear J ya)|(refine Z2 ?_ ?_<;>intro h ae<;>try exact Xp)|(refine Z6 ?_;intro idn yn ao am af aa ah ab)|refine Z3 ?_|exact Zt|(apply J.out;clear J ya))
  refine wO (lo:=y.nobj+3) (σ0:=y) (by first|exact Ef|exact Dx) (by rfl) (by rfl) (by rfl) Ad2 Ad2 (by simp only[Av,Ac,Aa];omega) Ad2 (((hK.new _).put hK.nobj _).lay 1) (hX.keep ((((Keep.refl _).new _).put (Aak _) _).lay 1)) ?_;intro X' yn cj dd ba am;simp only[Av,Ac,Aa]at dd;have eob:∀p,p<y.nobj+3->yn.obj p=y'.obj p:=fun p hp=>by rw[ba p hp,Gj,Al Ad2,Ai Ad2]
  obtain⟨og,cg,rfl,-⟩:=cj.gx Ad2;clear ba hX;refine Z3 ?_
  repeat' (first|refine Z1 ?_|(refine Z8 ?_;intro ya J)|(refine Z4 ?_;clear J ya)|(refine Z2 ?_ ?_<;>intro h ae<;>try exact Xp)|(refine Z6 ?_;intro idn yn ao am af aa ah ab)|refine Z3 ?_|exact Zt|(apply J.out;clear J ya))
  refine⟨q.parts.length-(i+1),Ad2,i+1,gx og (i+1) cg,xs++[ic w.a.p,sl id w.a.ts.length (Ae w.a.ts),sl idt w.tups.length (C7 w.tups)],?_⟩
  ((repeat' refine Zi ?_ ?_)<;>first|exact Xq|exact (am.put Ad2 _)|exact (cj.put Ad2 _)|exact HX|exact Xs)
 ·have dh:i=q.parts.length:=Ad2;subst dh;rw[Aa3]at hE;have dn:=hA.ok.pa;have bg:=hA.ok.pt;have dp:=hA.ok.p3;have b7:Ad8 (EL La q.parts xs/\EL Ot [] []/\RdS neg q 0 q.parts []):=⟨hE.out,rfl,RdS.start neg q⟩;clear hE hi
  repeat' (first|refine Z1 ?_|(refine Z8 ?_;intro ya J)|(refine Z4 ?_;clear J ya)|(refine Z2 ?_ ?_<;>intro h ae<;>try exact Xp)|(refine Z6 ?_;intro idn yn ao am af aa ah ab)|refine Z3 ?_|exact Zt|(apply J.out;clear J ya))
  refine Ab (fun m s y'=>∃(k i4:Nat) (X:AV) (L:List Part) (Nn:List Ee) (xs nxs:List AV),m=q.nots.length-k/\k<=q.nots.length/\s 0=ptr om 0/\s 4=ptr (y.nobj+1) 0/\s 6=ptr (y.nobj+2) 0/\s 32=sl inn q.nots.length nc/\s 33=ic q.nots.length/\s 34=ic k/\Keep y y'/\y.nobj+2<y'.nobj/\y'.obj (y.nobj+1)=[ic 0,nilS,nilS,nilS]/\y'.obj (y.nobj+2)=[ic q.head.p,sl ih q.head.ts.length (Ae q.head.ts),X,sl i4 Nn.length nxs]/\PS (y.nobj+3) y' X L.length xs/\Own y y' i4 Nn.length/\nxs.length=Nn.length*2/\Nn.length<=k/\L.length<=64/\Ad8 (EL La L xs/\EL Ot Nn nxs/\RdS neg q k L Nn)) q.nots.length
   ⟨0,1,X,q.parts,[],xs,[],Ad2,Ad2,Ad3,Ad3,Ad3,Ad3,Ad3,Ad4,hK,az,au,ap,hX,Own.nil _ _,by simp,by simp,hl,b7⟩ ?_
  clear h0 h3 h4 h6 d0 dz dy hK az cv au ap hX ce a8 av b7;rintro m s y' ⟨k,i4,X,L,Nn,xs,nxs,rfl,hk,h0,h4,h6,dx,cs,cr,hK,az,au,ap,hX,hO,da,ec,cm,hS⟩;have a8:=hK.nobj;have ce:=hX.flat;by_cases av:k<q.nots.length
  ·have ad:=Aav av;obtain⟨ida,r,hd⟩:=Il ck ad;have aj:=Ab1 av;have bm:=dc _ aj;obtain⟨ka,x,bd,hx,bz⟩:=dt _ aj;generalize q.nots[k]=a at hd ad aj bm bd bz;have cn:∀p∈L,p.a.ts.length<=3/\p.tups.length<=5000/\T3 p.tups:=fun p hp=>by
    obtain⟨p0,g1,g2,g3⟩:=hS.out.2.2.sub p hp;exact⟨by rw[g2];exact dn p0 g1,Aal g3.length_le (bg p0 g1),fun t ht=>dp p0 g1 t (g3.subset ht)⟩
   have HG:Ad8 (q.nots[k]?=some a/\a∈q.nots/\a.p=(ka:Int)/\M[ka]?=some x/\∀t,neg a.p t↔t∈x.2):=⟨ad,aj,bd,hx,bz⟩;have bg:=fun (y1:St) (hh:PS (y.nobj+3) y1 X L.length xs)=>iV (y.nobj+3) (ic q.head.p) (sl ih q.head.ts.length (Ae q.head.ts)) (sl i4 Nn.length nxs) rfl L (fun p hp=>(cn p hp).1) cm X xs hS.out.1 a ida bm y1 hh;have bf:=fun (y1:St)=>It a.p ida a.ts Ad2 y1;have cp:=fun (y1:St) (hh:Keep y y1)=>Jy om ot M d b a ida ka x bm bd hx y1 (HM.out.keep hh);have bj:=fun (p:Part) (idp idtp:Nat) (g1:p.a.ts.length<=3) (g2:p.tups.length<=5000) (g3:T3 p.tups) (y1:St) (hh:Keep y y1)=>Y6 om ot M d b p a idp idtp ida ka x g1 g2 g3 bm bd hx y1 (HM.out.keep hh);have ay:Ad8 _:=bj;clear ad aj bd hx bz bj
   repeat' (first|refine Z1 ?_|(refine Z8 ?_;intro ya J)|(refine Z4 ?_;clear J ya)|(refine Z2 ?_ ?_<;>intro h ae<;>try exact Xp)|(refine Z6 ?_;intro idn yn ao am af aa ah ab)|(refine Z5 ?_;refine Xi (bg _ (hX.keep (((Keep.refl _).new _).put (Aak _) _))) ?_;rintro _ _ ⟨(⟨i,p,rfl,hp,b9⟩|⟨rfl,d2⟩),ai⟩)|refine Z3 ?_|exact Zt|(apply J.out;clear J ya))
   ·rename_i y2;have ak:=ai.nobj;have ac:=ai.obj;simp only[Ac,Aa]at ak ac;have bq:=((hK.new _).put hK.nobj _).trans ai;have o10:=ac y'.nobj Ad2;rw[Ak]at o10;have hi:i<L.length:=(Aau.1 hp).1;obtain⟨ca,bv,c7⟩:=cn p (Aax hp);have be:=(hX.keep (((Keep.refl _).new _).put (Aak _) _)).keep ai;obtain⟨o,cap,rfl,d7,cd,ch,eb,b6⟩:=be.gx Ad2;obtain⟨idp,idtp,rp,cf⟩:=Eu hS.out.1 hp;have b3:=EL.length D6 hS.out.1;have c9:(y2.obj o).drop (i*3)=ic p.a.p::sl idp p.a.ts.length (Ae p.a.ts)::sl idtp p.tups.length (C7 p.tups)::(rp++(y2.obj o).drop (L.length*3)):=by
     conv=>lhs;rw[<-Ada (L.length*3) (y2.obj o),b6]
     rw[Acm (by rw[b3];omega),cf];rfl
    have o6:y2.obj (y.nobj+2)=[ic q.head.p,sl ih q.head.ts.length (Ae q.head.ts),gx o L.length cap,sl i4 Nn.length nxs]:=by rw[ac _ Ad2,Al Ad2,Ai Ad2,ap]
    have o4:y2.obj (y.nobj+1)=[ic 0,nilS,nilS,nilS]:=by rw[ac _ Ad2,Al Ad2,Ai Ad2,au]
    have bn:Own y y2 i4 Nn.length:=Own.keep (Own.put (Own.new hO _) _ _) ai;have cq:=ay.out p idp idtp ca bv c7;have a0:Ad8 (∀idn,EL La (L.set i (My x.2 a p)) (lsp xs (i*3) [ic p.a.p,sl idp p.a.ts.length (Ae p.a.ts),sl idn (My x.2 a p).tups.length (C7 (My x.2 a p).tups)])/\EL Ot Nn nxs/\RdS neg q (k+1) (L.set i (My x.2 a p)) Nn):=fun idn=>⟨tM D6 hS.out.1 hi ⟨idp,idn,rfl⟩,hS.out.2.1,hS.out.2.2.bar HG.out.1 hp ca b9 HG.out.2.2.2.2⟩;have ea:i*3+3<=cap*3:=Ad2;have c8:o≠y.nobj+2:=Ad2;have bw:o≠y.nobj+1:=Ad2;clear b6 cf b3 ay hS au ap hX bg bf cp ac hK az hO b9 hp h ae;generalize My x.2 a p=bp at*
    refine A6 (Q:=fun e s' y''=>e= .normal/\s' 0=ptr om 0/\s' 4=ptr (y.nobj+1) 0/\s' 6=ptr (y.nobj+2) 0/\s' 32=sl inn q.nots.length nc/\s' 33=ic q.nots.length/\s' 34=ic k/\Keep y y''/\y.nobj+2<y''.nobj/\y''.obj (y.nobj+1)=[ic 0,nilS,nilS,nilS]/\y''.obj (y.nobj+2)=[ic q.head.p,sl ih q.head.ts.length (Ae q.head.ts),gx o L.length cap,sl i4 Nn.length nxs]/\Own y y'' i4 Nn.length/\∃idn,PS (y.nobj+3) y'' (gx o L.length cap) L.length (lsp xs (i*3) [ic p.a.p,sl idp p.a.ts.length (Ae p.a.ts),sl idn bp.tups.length (C7 bp.tups)])) ?_ ?_
    ·refine As Ad (fun _=>True) [12] [0,1,2,3,4,5,6,7,8,9] 3 #[true,true,true,true,true,true,true,true,true,true,false,false,false] Ad5 (fun _ _ _ h=>by cases h.1) ?_;intro ya J;refine Z3 ?_;refine J.out _ ?_;clear J ya;refine Ah (i:=10) Ad5 ?_;refine Ao ?_;intro ya J;refine Z3 ?_;refine ACalls.mono (cq _ bq) ?_;rintro _ y5 ⟨⟨idn,rfl⟩,an⟩;have knb:=an.nobj;have bk:=an.obj;have di:(y5.obj o).length=cap*3:=by rw[bk o cd,ch]
     refine Z3 ?_;refine J.out _ _ ⟨Ap an,?_⟩;clear J ya;refine Ah (i:=11) Ad5 ?_;refine Ao ?_;intro ya J;refine Z3 ?_;refine J.out _ _ ⟨Ap an,?_⟩;clear J ya;refine Ah (i:=12) Ad5 ?_;refine Ao ?_;intro ya J;refine Z3 ?_;refine J.out _ _ ⟨Bz rfl,?_⟩;clear J ya;refine B7 Ad5 ⟨rfl,Ad3,Ad3,Ad3,Ad3,Ad3,Ad3,(bq.trans an).put Ad2 _,by simp only[Ac];omega,by rw[Dy bw.symm,bk _ Ad2,o4],by rw[Dy c8.symm,bk _ Ad2,o6],Own.put (Own.keep bn an) _ _,idn,by rw[<-bk o cd];exact PS.set (c:=[ic p.a.p,sl idp p.a.ts.length (Ae p.a.ts),sl idn bp.tups.length (C7 bp.tups)]) (be.keep an) hi rfl⟩
    ·rintro e s2 y3 ⟨rfl,g0,g4,g6,g32,g33,g34,ed,d6,oc1,oc2,dr,idn,dm⟩;have ct:=a0.out idn;have d1:Ad8 _:=ct;clear h0 h4 h6 dx cs cr be bn o6 o4 c9 a0 ct cq ch o10
     repeat' (first|refine Z1 ?_|(refine Z8 ?_;intro ya J)|(refine Z4 ?_;clear J ya)|(refine Z2 ?_ ?_<;>intro h ae<;>try exact Xp)|(refine Z6 ?_;intro idn yn ao am af aa ah ab)|refine Z3 ?_|exact Zt|(apply J.out;clear J ya))
     refine⟨q.nots.length-(k+1),Ad2,k+1,i4,gx o L.length cap,L.set i bp,Nn,lsp xs (i*3) [ic p.a.p,sl idp p.a.ts.length (Ae p.a.ts),sl idn bp.tups.length (C7 bp.tups)],nxs,?_⟩
     ((repeat' refine Zi ?_ ?_)<;>first|exact Xq|exact (by rw[List.length_set];exact dm)|exact (by rw[List.length_set];exact cm)|exact d1|exact dr|exact Xs)
   ·rename_i y2;have ak:=ai.nobj;have ac:=ai.obj;simp only[Ac,Aa]at ak ac;have bq:=((hK.new _).put hK.nobj _).trans ai;have o10:=ac y'.nobj Ad2;rw[Ak]at o10;have o6:y2.obj (y.nobj+2)=[ic q.head.p,sl ih q.head.ts.length (Ae q.head.ts),X,sl i4 Nn.length nxs]:=by rw[ac _ Ad2,Al Ad2,Ai Ad2,ap]
    have o4:y2.obj (y.nobj+1)=[ic 0,nilS,nilS,nilS]:=by rw[ac _ Ad2,Al Ad2,Ai Ad2,au]
    have bn:Own y y2 i4 Nn.length:=Own.keep (Own.put (Own.new hO _) _ _) ai;have be:=(hX.keep (((Keep.refl _).new _).put (Aak _) _)).keep ai;clear ay au ap hX bg ac hK hO ai
    repeat' (first|refine Z1 ?_|(refine Z8 ?_;intro ya J)|(refine Z4 ?_;clear J ya)|(refine Z2 ?_ ?_<;>intro h ae<;>try exact Xp)|(refine Z6 ?_;intro idn yn ao am af aa ah ab)|(refine Z5 ?_;first|(refine Xi (bf _) ?_;rintro _ _ ⟨rfl,an⟩;(have cx:=an.nobj;have aw:=an.obj;have co:=bq.trans an;have o11:=aw y'.nobj Ad2;rw[o10]at o11;have o12:=aw (y.nobj+2) Ad2;rw[o6]at o12;have o13:=aw (y.nobj+1) Ad2;rw[o4]at o13;have ds:=Own.keep bn an;have ci:=be.keep an))|(refine Xi (cp _ co) ?_;rintro _ _ ⟨rfl,bi⟩;(have cw:=bi.nobj;have br:=bi.obj;have dw:=co.trans bi)))|refine Z3 ?_|exact Zt|(apply J.out;clear J ya))
    ·have a0:Ad8 (EL La L xs/\EL Ot (Nn++[a]) (nxs++[ic a.p,sl ida a.ts.length (Ae a.ts)])/\RdS neg q (k+1) L (Nn++[a])):=⟨hS.out.1,EL.append hS.out.2.1 (EL.single ⟨ida,rfl⟩),hS.out.2.2.keepN HG.out.1 (by assumption)⟩;have dj:PS (y.nobj+3) yn X L.length xs:=by
      have:=ci;unfold PS at this⊢;rw[af,aa];exact this
     refine⟨q.nots.length-(k+1),Ad2,k+1,idn,X,L,Nn++[a],xs,nxs++[ic a.p,sl ida a.ts.length (Ae a.ts)],?_⟩
     ((repeat' refine Zi ?_ ?_)<;>first|exact Xq|exact (am.put Ad2 _)|exact (dj.put Ad2 _)|exact (by simpa using Own.put ao _ _)|exact a0|exact Xs)
    ·have bu:Gn a.ts=true:=by assumption
     exact⟨_,rfl,⟨_,.inl ⟨rfl,rfl,rfl,fun ν hν=>hν.2 a HG.out.2.1 ((HG.out.2.2.2.2 _).2 (by rw[Np bu];simpa using h))⟩⟩,dw.put Ad2 _⟩
    ·have bu:Gn a.ts=true:=by assumption
     have a0:Ad8 (EL La L xs/\EL Ot Nn nxs/\RdS neg q (k+1) L Nn):=⟨hS.out.1,hS.out.2.1,hS.out.2.2.drop HG.out.1 (fun ν hn=>by
      have:=(HG.out.2.2.2.2 _).1 hn;rw[Np bu]at this
      simp[this]at h)⟩
     refine⟨q.nots.length-(k+1),Ad2,k+1,i4,X,L,Nn,xs,nxs,?_⟩
     ((repeat' refine Zi ?_ ?_)<;>first|exact Xq|exact (ci.keep bi)|exact (Own.keep ds bi)|exact a0|exact (by rw[br _ Ad2];assumption)|exact Xs)
  ·have de:k=q.nots.length:=Ad2;subst de;obtain⟨ax,dl⟩:=hS.out.2.2.fin hA;have HU:Ad8 (∀a∈Nn,a∈q.nots/\Gn a.ts=false):=fun a ha=>⟨by have:=hS.out.2.2.nsub.subset ha;rwa[Aa3]at this,hS.out.2.2.uns a ha⟩;refine eS (lo:=y.nobj+3) (p:=y.nobj+2) (j:=2) hK Ad2 Ad2 Ad2 Ad2 hX ap rfl ?_;intro ip1 yf b1 d5 obf cb;have obf2:yf.obj (y.nobj+2)=[ic q.head.p,sl ih q.head.ts.length (Ae q.head.ts),sl ip1 L.length xs,sl i4 Nn.length nxs]:=obf;have o1f:yf.obj (y.nobj+1)=[ic 0,nilS,nilS,nilS]:=by rw[cb _ Ad2 Ad2,au]
   have db:y.nobj+2<yf.nobj:=Ad2;have bh:=fun y=>oN ⟨q.head,L,Nn⟩ [ic q.head.p,sl ih q.head.ts.length (Ae q.head.ts),sl ip1 L.length xs,sl i4 Nn.length nxs] ⟨ih,ip1,i4,xs,nxs,rfl,hS.out.1,hS.out.2.1⟩ ax.ok ax.n y;clear hX au ap hK hS hO da hk cb obf az av a8;have a8:=b1.nobj
   repeat' (first|refine Z1 ?_|(refine Z8 ?_;intro ya J)|(refine Z4 ?_;clear J ya)|(refine Z2 ?_ ?_<;>intro h ae<;>try exact Xp)|(refine Z6 ?_;intro idn yn ao am af aa ah ab)|(refine Z5 ?_;refine Xi (bh _) ?_;rintro _ _ ⟨⟨_,q1,qp,rfl,⟨ih1,ip1,in1,pc1,nc1,rfl,b0,dv⟩,n1,n2,n3,n4⟩,ai⟩;(have N3:Ad8 (q1=fL qp (Cg (atomsQ qp))):=n3;clear n3;have ak:=ai.nobj;have ac:=ai.obj;have bo:=b1.trans ai))|refine Z3 ?_|exact Zt|(apply J.out;clear J ya))
   rename_i y1;have o1:y1.obj (y.nobj+1)=[ic 0,nilS,nilS,nilS]:=by rw[ac _ Ad2,o1f]
   have b4:WP q1:=n2.wp ax.w;have bl:M9 q1:=n2.ok ax.ok;have cc:QN q1:=n2.n ax.n;have bb:q1.nots=Nn:=n2.atoms.2.2;have b8:Red neg q q1:=dl.trans (n2.red ax.w);have a9:fE q1:=tX n2 ax.wf;have bc:zU q1:=by
    obtain⟨g1,g2⟩:=(cI (Cg (atomsQ qp)) qp).2 (by rw[<-N3.out];exact n4);rw[N3.out,g1];exact yD g2
   have b2:Ad8 (WP q1/\M9 q1/\QN q1/\q1.nots=Nn/\Red neg q q1/\fE q1/\zU q1):=⟨b4,bl,cc,bb,b8,a9,bc⟩;clear b4 cc bb b8 a9 bc n1 n2 N3 n4 ac ai bh;have d9:=bl.pl;have cz:=bl.pt;clear bl;have c6:=EL.length D6 b0
   refine Ab (fun m s y2=>∃j:Nat,m=q1.parts.length-j/\j<=q1.parts.length/\s 4=ptr (y.nobj+1) 0/\s 6=ptr (y.nobj+2) 0/\s 72=sl ip1 q1.parts.length pc1/\s 73=ic q1.parts.length/\s 74=ic j/\Keep y y2/\y.nobj+2<y2.nobj/\y2.obj (y.nobj+1)=[ic 0,nilS,nilS,nilS]/\y2.obj (y.nobj+2)=[ic q1.head.p,sl ih1 q1.head.ts.length (Ae q1.head.ts),sl ip1 q1.parts.length pc1,sl in1 q1.nots.length nc1]/\Ad8 (∀p∈q1.parts.take j,p.tups≠[])) q1.parts.length
    ⟨0,Ad2,Ad2,Ad3,Ad3,Ad4,Ad4,rfl,bo.put Ad2 _,by simp only[Ac];omega,by rw[Al Ad2,o1],by rw[Ak],by simp[Ad8]⟩ ?_
   clear h4 h6 cs cr o1 bo ak b1;rintro m s y2 ⟨j,rfl,hj,h4,h6,eg,ef,ee,hK,az,au,ap,hJ⟩;have a8:=hK.nobj;by_cases av:j<q1.parts.length
   ·have ad:=Aav av;obtain⟨id,idt,r,hd⟩:=Eu b0 ad;have aj:=Ab1 av;have cy:=cz _ aj;generalize q1.parts[j]=w at hd ad aj cy;by_cases he:w.tups=[]
    ·have b5:w.tups.length=0:=by rw[he];rfl
     have HF:Ad8 (∀ν,¬Kf neg q ν):=fun ν hν=>by
      have h1:=(b2.out.2.2.2.2.1.to ν hν).1 w aj;rw[he]at h1;cases h1
     have hb:((w.tups.length:Int)==0)=true:=by rw[b5];rfl
     clear ad b5 he hJ
     repeat' (first|refine Z1 ?_|(refine Z8 ?_;intro ya J)|(refine Z4 ?_;clear J ya)|(refine Z2 ?_ ?_<;>intro h ae<;>try exact Xp)|(refine Z6 ?_;intro idn yn ao am af aa ah ab)|refine Z3 ?_|exact Zt|(apply J.out;clear J ya))
     exact⟨_,rfl,⟨_,.inl ⟨rfl,rfl,rfl,HF.out⟩⟩,((hK.new _).put hK.nobj _).put Ad2 _⟩
    ·have hb:((w.tups.length:Int)==0)=false:=by
      have:w.tups.length≠0:=fun h=>he (Aa1 h);simp;exact he
     have HJ:Ad8 (∀p∈q1.parts.take (j+1),p.tups≠[]):=by
      rw[Ad8,Aa8,ad,Ab9];intro p hp;rcases Ab2.1 hp with h|h
      ·exact hJ.out p h
      ·simp at h;subst h;exact he
     clear ad he hJ
     repeat' (first|refine Z1 ?_|(refine Z8 ?_;intro ya J)|(refine Z4 ?_;clear J ya)|(refine Z2 ?_ ?_<;>intro h ae<;>try exact Xp)|(refine Z6 ?_;intro idn yn ao am af aa ah ab)|refine Z3 ?_|exact Zt|(apply J.out;clear J ya))
     refine⟨q1.parts.length-(j+1),Ad2,j+1,?_⟩
     ((repeat' refine Zi ?_ ?_)<;>first|exact Xq|exact HJ|exact Xs)
   ·have df:j=q1.parts.length:=Ad2;subst df;rw[Aa3]at hJ;obtain⟨a1,a2,a3,a4,a5,a6,a7⟩:=b2.out;have dk:=fun y=>iT q1 _ ⟨ih1,ip1,in1,pc1,nc1,rfl,b0,dv⟩ a2 y;have cu:Ad8 (NE q1):=hJ.out;clear a1 a2 a3 a4 a5 a6 a7 hJ
    repeat' (first|refine Z1 ?_|(refine Z8 ?_;intro ya J)|(refine Z4 ?_;clear J ya)|(refine Z2 ?_ ?_<;>intro h ae<;>try exact Xp)|(refine Z6 ?_;intro idn yn ao am af aa ah ab)|(refine Z5 ?_;refine Xi (dk _) ?_;rintro _ _ ⟨⟨_,q2,rfl,⟨ih2,ip2,in2,pc2,nc2,rfl,dq,du⟩,c5,hR2⟩,ai⟩;(have ak:=ai.nobj;have ac:=ai.obj;have bo:=hK.trans ai))|refine Z3 ?_|exact Zt|(apply J.out;clear J ya))
    obtain⟨a1,a2,a3,a4,a5,a6,a7⟩:=b2.out;obtain⟨t1,t2,t3⟩:=hR2.red (neg:=neg) a1 cu.out a7;obtain⟨-,u2,u3⟩:=hR2.ok a2;exact⟨_,rfl,⟨_,.inr ⟨q2,rfl,⟨ih2,ip2,in2,pc2,nc2,rfl,dq,du⟩,⟨c5,fun p hp=>a3 p (u3 p hp),fun p hp=>a1 p (u3 p hp),t3 a6⟩,fun p hp=>cu.out p (u3 p hp),a5.trans t1,fun a ha=>HU.out a (by rw[<-a4,<-u2];exact ha)⟩⟩,bo.put Ad2 _⟩
theorem Ks (v n:Int)(p:Part):(Ha v n p).a.ts.length=p.a.ts.length/\(Ha v n p).tups.length<=p.tups.length/\∀t∈(Ha v n p).tups,t∈p.tups:=by
 unfold Ha;split
 ·exact⟨by simp[Bg],Ac6 _ _,fun t ht=>(Ac7.1 ht).1⟩
 ·exact⟨rfl,Aak _,fun t ht=>ht⟩
theorem putP_has {v n:Int}{p:Part}{w:Int}:Bb (Ha v n p).a.ts w=true↔Bb p.a.ts w=true/\w≠v:=by
 unfold Ha;by_cases h:Bb p.a.ts v=true
 ·rw[if_pos h];exact hasV_put (a:=p.a)
 ·rw[if_neg h];exact⟨fun hw=>⟨hw,fun e=>h (e ▸ hw)⟩,fun hw=>hw.1⟩
theorem Q1 {q:Qry}{v n w:Int}(h:inQ (Cu v n q) w):inQ q w/\w≠v:=by
 obtain⟨a,ha,hw⟩:=h;unfold atomsQ Cu at ha;simp only[Acd,Ab2,Acf]at ha;rcases ha with rfl|⟨p',⟨p,hp,rfl⟩,rfl⟩|⟨b,hb,rfl⟩
 ·have:=hasV_put.1 hw;exact⟨⟨q.head,by simp[atomsQ],this.1⟩,this.2⟩
 ·have:=putP_has.1 hw;exact⟨⟨p.a,Js hp,this.1⟩,this.2⟩
 ·have:=hasV_put.1 hw;exact⟨⟨b,by simp[atomsQ,hb],this.1⟩,this.2⟩
theorem cQ {q:Qry}{v n:Int}(h:Py q):Py (Cu v n q):=by
 have hm:∀p∈(Cu v n q).parts,∃p0∈q.parts,Ha v n p0=p:=fun p hp=>Acf.1 hp;have ab:∀a∈(Cu v n q).nots,∃a0∈q.nots,E6 v n a0=a:=fun a ha=>Acf.1 ha;refine⟨⟨by simp[Cu,E6,Bg];exact h.ok.hd,by simp[Cu];exact h.ok.pl,by simp[Cu];exact h.ok.nl,fun p hp=>?_,fun p hp=>?_,fun p hp=>?_,?_⟩,fun p hp t ht=>?_,xO h.w,fun w hw=>?_⟩
 ·obtain⟨p0,h0,rfl⟩:=hm p hp;rw[(Ks v n p0).1];exact h.ok.pa p0 h0
 ·obtain⟨p0,h0,rfl⟩:=hm p hp;exact Aal (Ks v n p0).2.1 (h.ok.pt p0 h0)
 ·obtain⟨p0,h0,rfl⟩:=hm p hp;exact fun t ht=>h.ok.p3 p0 h0 t ((Ks v n p0).2.2 t ht)
 ·intro a ha;obtain⟨a0,h0,rfl⟩:=ab a ha;simp[E6,Bg];exact h.ok.na a0 h0
 ·obtain⟨p0,h0,rfl⟩:=hm p hp;rw[(Ks v n p0).1];exact h.n p0 h0 t ((Ks v n p0).2.2 t ht)
 ·have aa:(Bb q.head.ts w=true\/∃a∈q.nots,Bb a.ts w=true)/\w≠v:=by
   rcases hw with hw|⟨a,ha,hw⟩
   ·have:=hasV_put.1 hw;exact⟨.inl this.1,this.2⟩
   ·obtain⟨a0,h0,rfl⟩:=ab a ha;have:=hasV_put.1 hw;exact⟨.inr ⟨a0,h0,this.1⟩,this.2⟩
  obtain⟨p,hp,ac⟩:=h.wf w aa.1;exact⟨Ha v n p,Acf.2 ⟨p,hp,rfl⟩,putP_has.2 ⟨ac,aa.2⟩⟩
theorem Kq {q q':Qry}(h:Py q)(hh:q'.head.ts.length<=3)(hp:q'.parts.Sublist q.parts)(hn:q'.nots.Sublist q.nots)(hw:fE q'):Py q':=
 ⟨⟨hh,Aal hp.length_le h.ok.pl,Aal hn.length_le h.ok.nl,fun p aa=>h.ok.pa p (hp.subset aa),fun p aa=>h.ok.pt p (hp.subset aa),fun p aa=>h.ok.p3 p (hp.subset aa),fun a ha=>h.ok.na a (hn.subset ha)⟩,
  fun p aa=>h.n p (hp.subset aa),fun p aa=>h.w p (hp.subset aa),hw⟩
theorem Tf {q:Qry}(hw:fE q){v:Int}(h:inQ q v):∃p∈q.parts,Bb p.a.ts v=true:=by
 obtain⟨a,ha,hv⟩:=h;unfold atomsQ at ha;simp only[Acd,Ab2,Acf]at ha;rcases ha with rfl|⟨p,hp,rfl⟩|ha
 ·exact hw v (.inl hv)
 ·exact⟨p,hp,hv⟩
 ·exact hw v (.inr ⟨a,ha,hv⟩)
theorem Zx {q:Qry}{rs:List Int}(hw:fE q)(hC:Ev (atomsQ q) rs rs)(hh:∀v,Bb q.head.ts v=true->v∈rs):fE (A5 q rs):=fun v hv=>by
 have hr:v∈rs/\∃p∈q.parts,Bb p.a.ts v=true:=by
  rcases hv with h|⟨a,ha,h⟩
  ·exact⟨hh v h,hw v (.inl h)⟩
  ·obtain⟨h1,h2⟩:=Ac7.1 ha;exact⟨hC a (by unfold atomsQ;simp[h1]) h2 v (hasV_iff.1 h),hw v (.inr ⟨a,h1,h⟩)⟩
 obtain⟨h1,p,hp,aa⟩:=hr;exact⟨p,Ac7.2 ⟨hp,Ab0.2 ⟨v,h1,aa⟩⟩,aa⟩
theorem tY {q:Qry}{rs:List Int}(hw:fE q)(hC:Ev (atomsQ q) rs rs):fE (G4 q rs):=fun v hv=>by
 rcases hv with h|⟨a,ha,h⟩
 ·simp[G4,Bb]at h
 ·obtain⟨h1,h2⟩:=Ac7.1 ha;obtain⟨p,hp,aa⟩:=hw v (.inr ⟨a,h1,h⟩);refine⟨p,Ac7.2 ⟨hp,?_⟩,aa⟩;cases hb:H6 rs p.a with
  |false=>rfl
  |true=>
   have:=hC p.a (Js hp) hb v (hasV_iff.1 aa);have:H6 rs a=true:=Ab0.2 ⟨v,this,h⟩;rw[this]at h2;cases h2
theorem NegOk.sub {neg:Int->Bj->Prop}{M:MM}{q q':Qry}(h:NegOk neg M q)(hs:∀a∈q'.nots,∃b∈q.nots,a.p=b.p):NegOk neg M q':=fun a ha=>by
 obtain⟨b,hb,e⟩:=hs a ha;rw[e];exact h b hb
theorem NegOk.put {neg:Int->Bj->Prop}{M:MM}{q:Qry}(h:NegOk neg M q)(v n:Int):NegOk neg M (Cu v n q):=h.sub fun a ha=>by
 obtain⟨b,hb,rfl⟩:=Acf.1 ha;exact⟨b,hb,rfl⟩
theorem NegOk.near {neg:Int->Bj->Prop}{M:MM}{q:Qry}(h:NegOk neg M q)(rs:List Int):NegOk neg M (A5 q rs):=h.sub fun a ha=>⟨a,(Ac7.1 ha).1,rfl⟩
theorem NegOk.far {neg:Int->Bj->Prop}{M:MM}{q:Qry}(h:NegOk neg M q)(rs:List Int):NegOk neg M (G4 q rs):=h.sub fun a ha=>⟨a,(Ac7.1 ha).1,rfl⟩
theorem qO {a:Ee}(h:Gn a.ts=false):∃v,Bb a.ts v=true:=by
 unfold Gn at h;rw[List.all_eq_false]at h;obtain⟨⟨b,w⟩,h1,h2⟩:=h;cases b with
 |false=>simp at h2
 |true=>exact⟨w,hasV_iff.2 h1⟩
def Q4 (neg:Int->Bj->Prop)(om ot:Nat)(M:MM)(d b:Int)(V:List Int):Prop:=∀(q:Qry) (c:List AV),EQ q c->Py q->NegOk neg M q->QV q->q.head.ts=[]->(∀v,inQ q v->v∈V)->∀y,MOb y om ot M d b->ACalls Tryz.prog 170 [ptr om 0,ag c] y fun r y'=>(∃b,r=sc (.bool b)/\(b=true↔∃ν,Kf neg q ν))/\Keep y y'
theorem Ts (neg:Int->Bj->Prop)(om ot:Nat)(M:MM)(d b:Int)(V:List Int)(hH:Q4 neg om ot M d b V)(q:Qry)(c:List AV)(v:Int)(hc:EQ q c)(hA:Py q)(a5:NegOk neg M q)(hV:QV q)(hh:q.head.ts=[])(a0:∀w,inQ q w->w≠v->w∈V)(y:St)(hM:MOb y om ot M d b):ACalls Tryz.prog 216 [ptr om 0,ag c,ic v] y fun r y'=>(∃b,r=sc (.bool b)/\(b=true↔∃n∈Kb q v,∃ν,Kf neg (Cu v n q) ν))/\Keep y y':=by
 have au:=fun y=>Jx q c v hc hA.ok hA.n y;have ba:=Q9 hA.n v;have ak:=fun n y=>Tn q c v n hc hA.ok y;have HM:Ad8 (MOb y om ot M d b):=hM;clear hM;have a7:∀(n:Int) (c2:List AV),EQ (Cu v n q) c2->∀y1,Keep y y1->ACalls Tryz.prog 170 [ptr om 0,ag c2] y1 fun r y'=>(∃b,r=sc (.bool b)/\(b=true↔∃ν,Kf neg (Cu v n q) ν))/\Keep y1 y':=fun n c2 h2 y1 ay=>
  hH _ c2 h2 (cQ hA) (a5.put v n) (fun a ha w hw=>by
   obtain⟨⟨b,hb,a3⟩,-⟩:=Q1 (q:=q) (v:=v) (n:=n) (w:=w) ⟨a,ha,hasV_iff.2 hw⟩;exact hV b hb w (hasV_iff.1 a3)) (by simp[Cu,E6,Bg,hh]) (fun w hw=>by
   obtain⟨h1,h2⟩:=Q1 hw
   exact a0 w h1 h2) y1 (HM.out.keep ay)
 clear hh;obtain⟨ih,ip,inn,pc,nc,rfl,-,-⟩:=hc;generalize Kb q v=vs at*
 have bc:=Bm vs;refine Z9 26 [.tmp 6] Tryz.func216 ?_
 repeat' (first|refine Z1 ?_|(refine Z8 ?_;intro ya J)|(refine Z4 ?_;clear J ya)|(refine Z2 ?_ ?_<;>intro h ae<;>try exact Xp)|(refine Z5 ?_;refine Xi (au _) ?_;rintro _ _ ⟨⟨idv,rfl⟩,ah⟩;(have ad:=ah.nobj;have ab:=ah.obj;have af:=((Keep.refl y).new _).trans ah;simp only[Aa]at ad ab))|refine Z3 ?_|exact Zt|(apply J.out;clear J ya))
 rename_i y1;have o0:y1.obj y.nobj=[ic q.head.p,sl ih q.head.ts.length (Ae q.head.ts),sl ip q.parts.length pc,sl inn q.nots.length nc]:=by rw[ab _ Ad2,Am]
 clear ab ah au
 refine Ab (fun m s y'=>∃j:Nat,m=vs.length-j/\j<=vs.length/\s 0=ptr om 0/\s 2=ic v/\s 4=ptr y.nobj 0/\s 12=sl idv vs.length (Aj vs)/\s 13=ic vs.length/\s 14=ic j/\Keep y y'/\y.nobj<y'.nobj/\y'.obj y.nobj=[ic q.head.p,sl ih q.head.ts.length (Ae q.head.ts),sl ip q.parts.length pc,sl inn q.nots.length nc]/\Ad8 (∀n∈vs.take j,¬ ∃ν,Kf neg (Cu v n q) ν)) vs.length
  ⟨0,Ad2,Ad2,by simp[upd,initS],by simp[upd,initS],Ad4,Ad4,Ad4,rfl,af,Ad2,o0,by simp[Ad8]⟩ ?_
 clear af o0 ad;rintro m s y' ⟨j,rfl,hj,h0,h2,h4,bh,bg,bf,hK,bd,ob,hN⟩;have a9:=hK.nobj;by_cases ao:j<vs.length
 ·have aa:=Aav ao;obtain⟨r,hd⟩:=Db aa;have ac:=Ab1 ao;generalize vs[j]=n at hd aa ac;have HG:Ad8 (n∈vs/\vs[j]?=some n):=⟨ac,aa⟩;clear aa ac;have ak:=ak n
  repeat' (first|refine Z1 ?_|(refine Z8 ?_;intro ya J)|(refine Z4 ?_;clear J ya)|(refine Z2 ?_ ?_<;>intro h ae<;>try exact Xp)|(refine Z5 ?_;first|(refine Xi (ak _) ?_;rintro _ _ ⟨⟨_,rfl,ih2,ip2,in2,pc2,nc2,rfl,a4,a6⟩,an⟩;(have ax:=an.nobj;have aw:=an.obj;have af:=hK.trans an;have a8:=a7 n _ ⟨ih2,ip2,in2,pc2,nc2,rfl,a4,a6⟩))|(refine Xi (a8 _ ((af.new _).put Ad2 _)) ?_;rintro _ _ ⟨⟨bb,rfl,ap⟩,am⟩;(have aj:=am.nobj;have ai:=am.obj;have be:=((af.new _).put Ad2 _).trans am;have av:Ad8 _:=ap;clear ap;simp only[Ac,Aa]at aj ai)))|refine Z3 ?_|exact Zt|(apply J.out;clear J ya))
  ·exact⟨_,rfl,⟨true,rfl,fun _=>⟨n,HG.out.1,av.out.1 (by assumption)⟩,fun _=>rfl⟩⟩
  ·have HN:Ad8 (∀n∈vs.take (j+1),¬ ∃ν,Kf neg (Cu v n q) ν):=by
    rw[Ad8,Aa8,HG.out.2,Ab9];intro u hu;rcases Ab2.1 hu with h'|h'
    ·exact hN.out u h'
    ·simp at h';subst h';intro hex;have:=av.out.2 hex;rw[this]at h;cases h
   refine⟨vs.length-(j+1),Ad2,j+1,?_⟩
   ((repeat' refine Zi ?_ ?_)<;>first|exact Xq|exact HN|exact Xs)
 ·have az:j=vs.length:=Ad2;subst az;rw[Aa3]at hN
  repeat' (first|refine Z1 ?_|(refine Z8 ?_;intro ya J)|(refine Z4 ?_;clear J ya)|(refine Z2 ?_ ?_<;>intro h ae<;>try exact Xp)|refine Z3 ?_|exact Zt|(apply J.out;clear J ya))
  first|exact⟨_,rfl,⟨false,rfl,(fun h=>by cases h),fun⟨n,h1,h2⟩=>absurd h2 (hN.out n h1)⟩,hK⟩|exact⟨_,rfl,⟨false,rfl,(fun h=>by cases h),fun⟨n,h1,h2⟩=>absurd h2 (hN.out n h1)⟩⟩
theorem N8 {q:Qry}{rs:List Int}{v:Int}(h:inQ (A5 q rs) v):inQ q v:=by
 obtain⟨a,ha,hv⟩:=h;refine⟨a,?_,hv⟩;unfold atomsQ A5 at ha;unfold atomsQ;simp only[Acd,Ab2,Acf]at ha⊢;rcases ha with h|⟨p,hp,h⟩|h
 ·exact .inl h
 ·exact .inr (.inl ⟨p,(Ac7.1 hp).1,h⟩)
 ·exact .inr (.inr (Ac7.1 h).1)
theorem lQ {q:Qry}{rs:List Int}{v:Int}(h:inQ (G4 q rs) v):inQ q v/\v∉rs:=by
 obtain⟨a,ha,hv⟩:=h;unfold atomsQ G4 at ha;simp only[Acd,Ab2,Acf]at ha
 have key:∀b:Ee,b∈atomsQ q->(!H6 rs b)=true->Bb b.ts v=true->inQ q v/\v∉rs:=fun b hb aa ab=>⟨⟨b,hb,ab⟩,fun hm=>by
  have:H6 rs b=true:=Ab0.2 ⟨v,hm,ab⟩;rw[this]at aa
  cases aa⟩
 rcases ha with rfl|⟨p,hp,rfl⟩|h
 ·simp[Bb]at hv
 ·exact key p.a (Js (Ac7.1 hp).1) (Ac7.1 hp).2 hv
 ·exact key a (by unfold atomsQ;simp[(Ac7.1 h).1]) (Ac7.1 h).2 hv
theorem Qe (neg:Int->Bj->Prop)(om ot:Nat)(M:MM)(d bg:Int)(V:List Int)(IH:∀V':List Int,V'.length<V.length->Q4 neg om ot M d bg V'):Q4 neg om ot M d bg V:=by
 intro q c hc hA bl hV hh b0 y hM;have bj:=fun y1 hk=>W7 neg q c om ot M d bg hc hA bl y1 (MOb.keep hM (show Keep y y1 from hk));have HM:Ad8 (MOb y om ot M d bg):=hM;clear hM;obtain⟨ih,ip,inn,pc,nc,rfl,-,-⟩:=hc;have HH:Ad8 (q.head.ts=[]):=hh;clear hh;refine Z9 36 [.tmp 4] Tryz.func170 ?_
 repeat' (first|refine Z1 ?_|(refine Z8 ?_;intro ya J)|(refine Z4 ?_;clear J ya)|(refine Z2 ?_ ?_<;>intro h ae<;>try exact Xp)|(refine Z5 ?_;refine Xi (bj _ ((Keep.refl _).new _)) ?_;rintro _ _ ⟨⟨c',(⟨rfl,ck,cm,a8⟩|⟨q',rfl,⟨ih2,ip2,in2,pc2,nc2,rfl,bk,bm⟩,aa,a5,hR2,ai⟩)⟩,af⟩)|refine Z3 ?_|exact Zt|(apply J.out;clear J ya))
 ·rename_i y1;have ab:=af.nobj;have o0:=af.obj y.nobj Ad6;rw[Am]at o0;simp only[Aa]at ab;have ak:=(((Keep.refl y).new _).trans af);have cg:Ad8 (∀ν,¬Kf neg q ν):=a8;clear a8
  repeat' (first|refine Z1 ?_|(refine Z8 ?_;intro ya J)|(refine Z4 ?_;clear J ya)|(refine Z2 ?_ ?_<;>intro h ae<;>try exact Xp)|refine Z3 ?_|exact Zt|(apply J.out;clear J ya))
  exact⟨_,rfl,⟨false,rfl,(fun h=>by cases h),fun⟨ν,hν⟩=>absurd hν (cg.out ν)⟩,ak.put Ad2 _⟩
 ·have ab:=af.nobj;have av:=af.obj;simp only[Aa]at ab av;have ca:=((Keep.refl y).new _).trans af;have ba:q'.head.ts=[]:=by rw[hR2.hd];exact HH.out
  have aj:NegOk neg M q':=bl.sub fun a ha=>⟨a,(ai a ha).1,rfl⟩;have ao:QV q':=fun a ha v hv=>hV a (hR2.at_ a ha) v hv;have ac:∀v,inQ q' v->v∈V:=fun v hv=>b0 v (hv.sub hR2.at_);have br:=fun y=>Y5 q' _ ⟨ih2,ip2,in2,pc2,nc2,rfl,bk,bm⟩ aa.ok aa.n ao y;have bu:Ad8 _:=ba;clear ba
  repeat' (first|refine Z1 ?_|(refine Z8 ?_;intro ya J)|(refine Z4 ?_;clear J ya)|(refine Z2 ?_ ?_<;>intro h ae<;>try exact Xp)|(refine Z5 ?_;refine Xi (br _) ?_;rintro _ _ ⟨⟨b,rfl,hb⟩,ak⟩;(have HB:Ad8 _:=hb;clear hb;have ay:=ak.nobj;have au:=ak.obj;have bo:=(ca.put Ad2 _).trans ak))|refine Z3 ?_|exact Zt|(apply J.out;clear J ya))
  ·have bc:b= -1:=by simpa using h
   have a9:∀v∈Cg (atomsQ q'),Cw q' v=false:=by
    rcases HB.out with⟨-,h2⟩|⟨h1,-⟩
    ·exact h2
    ·obtain⟨a,ha,hv⟩:=(Dk _ _).1 h1;have:=ao a ha b hv;omega
   have b1:∀v,Cz (q'.parts.map (·.a)) v<=1:=fun v=>by
    have cj:Cz (q'.parts.map (·.a)) v<=Cz (atomsQ q') v:=by
     unfold atomsQ;rw[Gc,Ep];omega
    by_cases hm:v∈Cg (atomsQ q')
    ·have:=a9 v hm;unfold Cw at this;rw[decide_eq_false_iff_not]at this;omega
    ·have:Cz (atomsQ q') v=0:=by
      rcases Nat.eq_zero_or_pos (Cz (atomsQ q') v)with h0|h0
      ·exact h0
      ·obtain⟨a,ha,b3⟩:=Adj.1 h0;exact absurd ((Dk _ _).2 ⟨a,ha,hasV_iff.1 b3⟩) hm
     omega
   obtain⟨ν,hν⟩:=dN (l:=q'.parts) (fun p hp=>⟨a5 p hp,(aa.w p hp).2⟩) b1
   have hS:Kf neg q' ν:=⟨hν,fun a ha=>by
    exfalso;obtain⟨v,hv⟩:=qO (ai a ha).2;obtain⟨p,hp,ah⟩:=aa.wf v (.inr ⟨a,ha,hv⟩);have h1:0<Cz (q'.parts.map (·.a)) v:=K5 (Acf.2 ⟨p,hp,rfl⟩) ah;have h2:=K5 ha hv;have h3:Cz (atomsQ q') v=Cz (q'.parts.map (·.a)) v+Cz q'.nots v+if Bb q'.head.ts v=true then 1 else 0:=by
     unfold atomsQ;rw[Gc,Ep]
    have hm:v∈Cg (atomsQ q'):=(Dk _ _).2 ⟨p.a,Js hp,hasV_iff.1 ah⟩;have:=a9 v hm;unfold Cw at this;rw[decide_eq_false_iff_not]at this
    omega⟩
   obtain⟨ν',hν',-⟩:=hR2.back ν hS
   first|exact⟨_,rfl,⟨true,rfl,fun _=>⟨ν',hν'⟩,fun _=>rfl⟩,bo⟩|exact⟨_,rfl,⟨true,rfl,fun _=>⟨ν',hν'⟩,fun _=>rfl⟩⟩
  ·have bc:b≠ -1:=by simpa using h
   have b2:b∈Cg (atomsQ q'):=by
    rcases HB.out with⟨h1,-⟩|⟨h1,-⟩
    ·exact absurd h1 bc
    ·exact h1
   have bd:inQ q' b:=by
    obtain⟨a,ha,hv⟩:=(Dk _ _).1 b2;exact⟨a,ha,hasV_iff.2 hv⟩
   have a3:=ac b bd;have bh:(V.erase b).length<V.length:=by
    rw[List.length_erase_of_mem a3];have:=List.length_pos_of_mem a3;omega
   have IHb:=IH (V.erase b) bh;have bi:=fun (id:Nat) y=>Qd q' _ [b] id ⟨ih2,ip2,in2,pc2,nc2,rfl,bk,bm⟩ aa.ok (by simp) y;simp only[Abv,Abu,Aj,Abg,List.map_nil,Abi]at bi;have ch:Ad8 (∀(rs:List Int) (c3:List AV),Ev (atomsQ q') rs rs->EQ (A5 q' rs) c3->∀y1,Keep y y1->ACalls Tryz.prog 216 [ptr om 0,ag c3,ic b] y1 fun r y'=>(∃bb,r=sc (.bool bb)/\(bb=true↔∃n∈Kb (A5 q' rs) b,∃ν,Kf neg (Cu b n (A5 q' rs)) ν))/\Keep y1 y'):=fun rs c3 a7 cf y1 a0=>
    Ts neg om ot M d bg (V.erase b) IHb (A5 q' rs) c3 b cf (Kq aa aa.ok.hd Adp Adp (Zx aa.wf a7 (fun v hv=>by rw[bu.out]at hv;simp[Bb]at hv))) (aj.near rs)
     (fun a ha w hw=>by
      obtain⟨a',a4,az⟩:=N8 (rs:=rs) ⟨a,ha,hasV_iff.2 hw⟩
      exact ao a' a4 w (hasV_iff.1 az)) bu.out (fun w hw bz=>(Ac2 bz).2 (ac w (N8 hw))) y1 (HM.out.keep a0)
   have ci:Ad8 (∀(rs:List Int) (c4:List AV),b∈rs->Ev (atomsQ q') rs rs->EQ (G4 q' rs) c4->∀y1,Keep y y1->ACalls Tryz.prog 170 [ptr om 0,ag c4] y1 fun r y'=>(∃bb,r=sc (.bool bb)/\(bb=true↔∃ν,Kf neg (G4 q' rs) ν))/\Keep y1 y'):=fun rs c4 an a7 ce y1 a0=>
    IHb (G4 q' rs) c4 ce (Kq aa (by simp[G4]) Adp Adp (tY aa.wf a7)) (aj.far rs)
     (fun a ha w hw=>by
      obtain⟨⟨a',a4,az⟩,-⟩:=lQ (rs:=rs) ⟨a,ha,hasV_iff.2 hw⟩;exact ao a' a4 w (hasV_iff.1 az)) rfl (fun w hw=>by
      obtain⟨h1,h2⟩:=lQ hw
      exact (Ac2 (fun e=>h2 (by rw[e];exact an))).2 (ac w h1)) y1 (HM.out.keep a0)
   clear IHb IH bj br a3 bh;have o3:=au y.nobj (by simp only[Ac];omega);rw[Ak]at o3;simp only[Ac]at ay
   repeat' (first|refine Z1 ?_|(refine Z8 ?_;intro ya J)|(refine Z4 ?_;clear J ya)|(refine Z2 ?_ ?_<;>intro h ae<;>try exact Xp)|(refine Z5 ?_;first|(refine Xi (bi _ _) ?_;rintro _ _ ⟨⟨_,_,rs,rfl,⟨ih3,ip3,in3,pc3,nc3,rfl,b6,b9⟩,⟨ih4,ip4,in4,pc4,nc4,rfl,b4,b8⟩,hG,hC⟩,bq⟩;(have an:b∈rs:=(by obtain⟨ad,e,-,-⟩:=hG;rw[e];simp);have cc:=ch.out rs _ hC ⟨ih3,ip3,in3,pc3,nc3,rfl,b6,b9⟩;have cd:=ci.out rs _ an hC ⟨ih4,ip4,in4,pc4,nc4,rfl,b4,b8⟩;have HC:Ad8 _:=hC;clear hC hG;have ax:=bq.nobj;simp only[Av]at ax;have bn:=(bo.lay 1).trans bq))|(refine Xi (cc _ ((((bn.new _).new _).put Ad2 _).put Ad2 _)) ?_;rintro _ _ ⟨⟨b5,rfl,bf⟩,a6⟩;(have bw:Ad8 _:=bf;clear bf;have aw:=a6.nobj;have ap:=a6.obj;simp only[Ac,Aa]at aw ap;have bp:=((((bn.new _).new _).put Ad2 _).put Ad2 _).trans a6))|(refine Xi (cd _ bp) ?_;rintro _ _ ⟨⟨b7,rfl,be⟩,cb⟩;(have bv:Ad8 _:=be;clear be;have cn:=bp.trans cb)))|refine Z3 ?_|exact Zt|(apply J.out;clear J ya))
   ·refine⟨_,rfl,false,rfl,(fun h=>by cases h),fun⟨ν,hν⟩=>?_⟩;have h1:=hR2.to ν hν;have h2:=bX (rs:=rs) h1;have am:WP (A5 q' rs):=fun p hp=>aa.w p (Ac7.1 hp).1;obtain⟨p,hp,ah⟩:=Tf aa.wf bd;have h3:=jV (v:=b) am h2 ⟨p,Ac7.2 ⟨hp,Ab0.2 ⟨b,an,ah⟩⟩,ah⟩
    have h4:Kf neg (Cu b (ν b) (A5 q' rs)) ν:=(Qy am).2 (by
     have:Lx ν b (ν b)=ν:=by
      funext w;unfold Lx;split
      ·rename_i e;rw[e]
      ·rfl
     rw[this];exact h2)
    have:=bw.out.2 ⟨ν b,h3,ν,h4⟩;rw[this]at h;cases h
   ·refine⟨_,rfl,b7,rfl,fun h7=>?_,fun⟨ν,hν⟩=>bv.out.2 ⟨ν,lB (hR2.to ν hν)⟩⟩;obtain⟨n,-,ν1,hν1⟩:=bw.out.1 h;obtain⟨ν2,hν2⟩:=bv.out.1 h7;have am:WP (A5 q' rs):=fun p hp=>aa.w p (Ac7.1 hp).1;obtain⟨ν',hν',-⟩:=hR2.back _ (We HC.out ((Qy am).1 hν1) hν2);exact⟨ν',hν'⟩
theorem Qf (neg:Int->Bj->Prop)(om ot:Nat)(M:MM)(d b:Int):∀(k:Nat) (V:List Int),V.length<=k->Q4 neg om ot M d b V:=by
 intro k;induction k with
 |zero=>exact fun V hV=>Qe neg om ot M d b V (fun V' h=>Ad2)
 |succ k IH=>exact fun V hV=>Qe neg om ot M d b V (fun V' h=>IH V' Ad2)
end Go.Proofs.YtmoeoppbmhfbpaaGreatDoorH
