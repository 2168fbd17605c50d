import Derived.Test.YtmoeoppbmhfbpaaGreatDoorDTxtK
set_option maxHeartbeats 64000000
set_option maxRecDepth 100000
set_option linter.all false
namespace Go.Proofs.YtmoeoppbmhfbpaaGreatDoorD
open Go.Abs
structure Qv (q:Qry):Prop where
 ok:Om q
 n:QN q
 w:WP q
 wf:jW q
theorem TrimR.ok {q q':Qry}(h:TrimR q q')(hq:Om q):Om q'/\q'.nots=q.nots/\∀p∈q'.parts,p∈q.parts:=by
 induction h with
 |refl=>exact⟨hq,rfl,fun p hp=>hp⟩
 |tail h ih=>exact⟨eM ih.1,ih.2.1,fun p hp=>ih.2.2 p (List.mem_of_mem_eraseP hp)⟩
theorem yP {q q':Qry}(h:NarS q q')(hw:jW q):jW q':=fun v hv=>by
 obtain⟨e1,e2,e3⟩:=h.atoms;rw[e2,e3]at hv;obtain⟨p,hp,aa⟩:=hw v hv;have:p.a∈q'.parts.map (·.a):=by rw[e1];exact Ae4.2 ⟨p,hp,rfl⟩
 obtain⟨p',h1,h2⟩:=Ae4.1 this;exact⟨p',h1,by rw[h2];exact aa⟩
theorem RdS.fin {neg:Int->Cc->Prop}{q:Qry}{L:List Part}{Nn:List Dy}(h:RdS neg q q.nots.length L Nn)(hA:Qv q):Qv ⟨q.head,L,Nn⟩/\Red neg q ⟨q.head,L,Nn⟩:=by
 have ab:∀a∈Nn,a∈q.nots:=fun a ha=>by
  have:=h.nsub.subset ha;rwa[Adu]at this
 have aa:=h.sol;rw[Adu]at aa;have ad:∀p∈q.parts,∃p'∈L,p'.a=p.a:=fun p hp=>by
  have:p.a∈L.map (·.a):=by rw[h.atm];exact Ae4.2 ⟨p,hp,rfl⟩
  obtain⟨p',h1,h2⟩:=Ae4.1 this;exact⟨p',h1,h2⟩
 refine⟨⟨⟨hA.ok.hd,?_,?_,fun p hp=>?_,fun p hp=>?_,fun p hp=>?_,fun a ha=>hA.ok.na a (ab a ha)⟩,fun p hp t ht=>?_,fun p hp=>?_,fun v hv=>?_⟩,rfl,fun a ha=>?_,fun ν hν=>(aa ν).1 hν,fun ν hν=>⟨ν,(aa ν).2 hν,fun _ _=>rfl⟩⟩
 ·have:=congrArg List.length h.atm;simp at this;rw[this];exact hA.ok.pl
 ·have:=h.nsub.length_le;rw[Adu]at this;exact Ade this hA.ok.nl
 ·obtain⟨p0,g1,g2,g3⟩:=h.sub p hp;rw[g2];exact hA.ok.pa p0 g1
 ·obtain⟨p0,g1,g2,g3⟩:=h.sub p hp;exact Ade g3.length_le (hA.ok.pt p0 g1)
 ·obtain⟨p0,g1,g2,g3⟩:=h.sub p hp;exact fun t ht=>hA.ok.p3 p0 g1 t (g3.subset ht)
 ·obtain⟨p0,g1,g2,g3⟩:=h.sub p hp;rw[g2];exact hA.n p0 g1 t (g3.subset ht)
 ·obtain⟨p0,g1,g2,g3⟩:=h.sub p hp;rw[g2];exact⟨(hA.w p0 g1).1,fun t ht=>(hA.w p0 g1).2 t (g3.subset ht)⟩
 ·obtain⟨p,hp,ac⟩:=hA.wf v (by
   rcases hv with hv|⟨a,ha,hv⟩
   ·exact .inl hv
   ·exact .inr ⟨a,ab a ha,hv⟩)
  obtain⟨p',h1,h2⟩:=ad p hp;exact⟨p',h1,by rw[h2];exact ac⟩
 ·unfold atomsQ at ha⊢;simp only[Ae2,Aet]at ha⊢;rcases ha with ha|ha|ha
  ·exact .inl ha
  ·rw[h.atm]at ha;exact .inr (.inl ha)
  ·exact .inr (.inr (ab a ha))
theorem PS.gx {lo:Nat}{y:St}{x:AV}{n:Nat}{pc:List AV}(h:PS lo y x n pc)(hn:0<n):∃o cap,x=Abs.gx o n cap/\lo<=o/\o<y.nobj/\(y.obj o).length=cap*3/\n<=cap/\(y.obj o).take (n*3)=pc:=by
 rcases h with⟨-,h,-⟩|⟨o,cap,h1,h2,h3,h4,h5,h6,h7⟩
 ·omega
 ·exact⟨o,cap,h1,h6,h7,h4,h3,h5⟩
def NegOk (neg:Int->Cc->Prop)(M:MM)(q:Qry):Prop:=∀a∈q.nots,∃(k:Nat) (x:Nat×List Cc),a.p=(k:Int)/\M[k]?=some x/\∀t,neg a.p t↔t∈x.2
def Ada (neg:Int->Cc->Prop)(q:Qry)(x:AV):Prop:=∃c',(x=tp [ag c',sc (.bool false)]/\c'.length=4/\c'.all flat=true/\∀ν,¬K5 neg q ν)\/∃q',x=tp [ag c',sc (.bool true)]/\EQ q' c'/\Qv q'/\NE q'/\Red neg q q'/\∀a∈q'.nots,a∈q.nots/\Io a.ts=false
theorem Z0 (neg:Int->Cc->Prop)(q:Qry)(c:List AV)(om ot:Nat)(M:MM)(d b:Int)(hc:EQ q c)(hA:Qv q)(hNg:NegOk neg M q)(y:St)(hM:MOb y om ot M d b):ACalls Tryz.prog 169 [ptr om 0,ag c] y fun r y'=>Ada neg q r/\Keep y y':=by
 obtain⟨ih,ip,inn,pc,nc,rfl,hP,ck⟩:=hc;have hpl:=EL.length Ef hP;have d7:=EL.length Hp ck;have hl:=hA.ok.pl;have eb:=hA.ok.nl;have de:=hA.ok.na;have HM:Agt (MOb y om ot M d b):=hM;clear hM;refine Z9 86 [.cell 4 182,.tmp 5] Tryz.func169 ?_
 refine zz ?_
 refine Ad (fun m s y'=>∃(i:Nat) (X:AV) (xs:List AV),m=q.parts.length-i/\i<=q.parts.length/\s 0=ptr om 0/\s 3=ptr y.nobj 0/\s 4=ptr (y.nobj+1) 0/\s 6=ptr (y.nobj+2) 0/\s 18=sl ip q.parts.length pc/\s 19=ic q.parts.length/\s 20=ic i/\Keep y y'/\y.nobj+2<y'.nobj/\y'.obj y.nobj=[ic q.head.p,sl ih q.head.ts.length (Af q.head.ts),sl ip q.parts.length pc,sl inn q.nots.length nc]/\y'.obj (y.nobj+1)=[ic 0,nilS,nilS,nilS]/\y'.obj (y.nobj+2)=[ic q.head.p,sl ih q.head.ts.length (Af q.head.ts),X,nilS]/\PS (y.nobj+3) y' X i xs/\Agt (EL L2 (q.parts.take i) xs)) q.parts.length
  ⟨0,nilS,[],Agm,Agm,by simp[upd,initS],Ago,Ago,Ago,Ago,Ago,rfl,Xs,Ags,?_,?_,?_,.inl ⟨rfl,rfl,rfl⟩,rfl⟩ ?_
 ·rw[Ak Agm,Ah Agq,Ah Agq,Al]
 ·rw[Ak Agm,Ah Agq,Ca Agq Agq]
 ·rw[show y.nobj+2=y.nobj+1+1 from rfl,Aj]
 rintro m s y' ⟨i,X,xs,rfl,hi,h0,h3,h4,h6,d3,d2,d1,hK,ap,cx,aj,ai,hX,hE⟩;have av:=hK.nobj;have ce:=hX.flat;by_cases ak:i<q.parts.length
 ·have ab:=Adn ak;obtain⟨id,idt,r,hd⟩:=E6 hP ab;generalize q.parts[i]=w at hd ab;have HX:Agt (EL L2 (q.parts.take (i+1)) (xs++[ic w.a.p,sl id w.a.ts.length (Af w.a.ts),sl idt w.tups.length (Er w.tups)])):=by
   rw[Agt,Ad0,ab,Aez];exact EL.append hE.out (EL.single ⟨id,idt,rfl⟩)
  clear ab hE
  repeat' first|refine Z1 ?_|refine Z8 fun ya J=>?_|refine Z4 ?_;clear J ya|refine Z2 ?_ ?_<;>intro h ae<;>try exact Xp|refine Z3 ?_|exact Zt
  refine Aas (lo:=y.nobj+3) (σ0:=y) (by first|exact Fa|exact Dx) (by rfl) (by rfl) (by rfl) Agm Agm (by simp only[Ax,Ac,Aa];omega) Agm (((hK.new _).put hK.nobj _).lay 1) (hX.keep ((((Keep.refl _).new _).put (Adc _) _).lay 1)) ?_;intro X' yn cj df ax bz;simp only[Ax,Ac,Aa]at df;have eob:∀p,p<y.nobj+3->yn.obj p=y'.obj p:=fun p hp=>by rw[ax p hp,Ho,Ak Agm,Ah Agm]
  obtain⟨og,cg,rfl,-⟩:=cj.gx Agm;clear ax hX;refine Z3 ?_
  refine zz ?_
  refine⟨q.parts.length-(i+1),Agm,i+1,gx og (i+1) cg,xs++[ic w.a.p,sl id w.a.ts.length (Af w.a.ts),sl idt w.tups.length (Er w.tups)],?_⟩
  ((repeat' refine Zi ?_ ?_)<;>first|exact Xq|exact (bz.put Agm _)|exact (cj.put Agm _)|exact HX|exact Xs)
 ·have dj:i=q.parts.length:=Agm;subst dj;rw[Adu]at hE;have dq:=hA.ok.pa;have ba:=hA.ok.pt;have dr:=hA.ok.p3;have b7:Agt (EL L2 q.parts xs/\EL Nk [] []/\RdS neg q 0 q.parts []):=⟨hE.out,rfl,RdS.start neg q⟩;clear hE hi
  repeat' first|refine Z1 ?_|refine Z8 fun ya J=>?_|refine Z4 ?_;clear J ya|refine Z2 ?_ ?_<;>intro h ae<;>try exact Xp|refine Z3 ?_|exact Zt|apply J.out;clear J ya
  refine Ad (fun m s y'=>∃(k i4:Nat) (X:AV) (L:List Part) (Nn:List Dy) (xs nxs:List AV),m=q.nots.length-k/\k<=q.nots.length/\s 0=ptr om 0/\s 4=ptr (y.nobj+1) 0/\s 6=ptr (y.nobj+2) 0/\s 32=sl inn q.nots.length nc/\s 33=ic q.nots.length/\s 34=ic k/\Keep y y'/\y.nobj+2<y'.nobj/\y'.obj (y.nobj+1)=[ic 0,nilS,nilS,nilS]/\y'.obj (y.nobj+2)=[ic q.head.p,sl ih q.head.ts.length (Af q.head.ts),X,sl i4 Nn.length nxs]/\PS (y.nobj+3) y' X L.length xs/\Own y y' i4 Nn.length/\nxs.length=Nn.length*2/\Nn.length<=k/\L.length<=64/\Agt (EL L2 L xs/\EL Nk Nn nxs/\RdS neg q k L Nn)) q.nots.length
   ⟨0,1,X,q.parts,[],xs,[],Agm,Agm,Agn,Agn,Agn,Agn,Agn,Ago,hK,ap,aj,ai,hX,Own.nil _ _,by simp,by simp,hl,b7⟩ ?_
  clear h0 h3 h4 h6 d3 d2 d1 hK ap cx aj ai hX ce av ak b7;rintro m s y' ⟨k,i4,X,L,Nn,xs,nxs,rfl,hk,h0,h4,h6,d0,ct,cr,hK,ap,aj,ai,hX,hO,dc,ef,cm,hS⟩;have av:=hK.nobj;have ce:=hX.flat;by_cases ak:k<q.nots.length
  ·have ab:=Adn ak;obtain⟨ida,r,hd⟩:=I4 ck ab;have ad:=Aes ak;have bh:=de _ ad;obtain⟨ka,x,a0,hx,bv⟩:=hNg _ ad;generalize q.nots[k]=a at hd ab ad bh a0 bv;have cn:∀p∈L,p.a.ts.length<=3/\p.tups.length<=5000/\T3 p.tups:=fun p hp=>by
    obtain⟨p0,g1,g2,g3⟩:=hS.out.2.2.sub p hp;exact⟨by rw[g2];exact dq p0 g1,Ade g3.length_le (ba p0 g1),fun t ht=>dr p0 g1 t (g3.subset ht)⟩
   have HG:Agt (q.nots[k]?=some a/\a∈q.nots/\a.p=(ka:Int)/\M[ka]?=some x/\∀t,neg a.p t↔t∈x.2):=⟨ab,ad,a0,hx,bv⟩;have ba:=fun (y1:St) (hh:PS (y.nobj+3) y1 X L.length xs)=>mJ (y.nobj+3) (ic q.head.p) (sl ih q.head.ts.length (Af q.head.ts)) (sl i4 Nn.length nxs) rfl L (fun p hp=>(cn p hp).1) cm X xs hS.out.1 a ida bh y1 hh;have a9:=fun (y1:St)=>Nf a.p ida a.ts Agm y1;have cp:=fun (y1:St) (hh:Keep y y1)=>Ih om ot M d b a ida ka x bh a0 hx y1 (HM.out.keep hh);have bd:=fun (p:Part) (idp idtp:Nat) (g1:p.a.ts.length<=3) (g2:p.tups.length<=5000) (g3:T3 p.tups) (y1:St) (hh:Keep y y1)=>cG om ot M d b p a idp idtp ida ka x g1 g2 g3 bh a0 hx y1 (HM.out.keep hh);have ao:Agt _:=bd;clear ab ad a0 hx bv bd
   repeat' first|refine Z1 ?_|refine Z8 fun ya J=>?_|refine Z4 ?_;clear J ya|refine Z2 ?_ ?_<;>intro h ae<;>try exact Xp|(refine Z5 ?_;refine Xi (ba _ (hX.keep (((Keep.refl _).new _).put (Adc _) _))) ?_;rintro _ _ ⟨(⟨i,p,rfl,hp,b9⟩|⟨rfl,d6⟩),ac⟩)|refine Z3 ?_|exact Zt|apply J.out;clear J ya
   ·rename_i y2;have af:=ac.nobj;have aa:=ac.obj;simp only[Ac,Aa]at af aa;have bn:=((hK.new _).put hK.nobj _).trans ac;have o10:=aa y'.nobj Agm;rw[Aj]at o10;have hi:i<L.length:=(Adm.1 hp).1;obtain⟨ca,br,c9⟩:=cn p (Adp hp);have a8:=(hX.keep (((Keep.refl _).new _).put (Adc _) _)).keep ac;obtain⟨o,cap,rfl,ea,cd,ch,ee,b6⟩:=a8.gx Agm;obtain⟨idp,idtp,rp,cf⟩:=E6 hS.out.1 hp;have b3:=EL.length Ef hS.out.1;have db:(y2.obj o).drop (i*3)=ic p.a.p::sl idp p.a.ts.length (Af p.a.ts)::sl idtp p.tups.length (Er p.tups)::(rp++(y2.obj o).drop (L.length*3)):=by
     conv=>lhs;rw[<-Afq (L.length*3) (y2.obj o),b6]
     rw[List.drop_append_of_le_length (by rw[b3];omega),cf];rfl
    have o6:y2.obj (y.nobj+2)=[ic q.head.p,sl ih q.head.ts.length (Af q.head.ts),gx o L.length cap,sl i4 Nn.length nxs]:=by rw[aa _ Agm,Ak Agm,Ah Agm,ai]
    have o4:y2.obj (y.nobj+1)=[ic 0,nilS,nilS,nilS]:=by rw[aa _ Agm,Ak Agm,Ah Agm,aj]
    have bi:Own y y2 i4 Nn.length:=Own.keep (Own.put (Own.new hO _) _ _) ac;have cq:=ao.out p idp idtp ca br c9;have au:Agt (∀idn,EL L2 (L.set i (Oh x.2 a p)) (lsp xs (i*3) [ic p.a.p,sl idp p.a.ts.length (Af p.a.ts),sl idn (Oh x.2 a p).tups.length (Er (Oh x.2 a p).tups)])/\EL Nk Nn nxs/\RdS neg q (k+1) (L.set i (Oh x.2 a p)) Nn):=fun idn=>⟨yE Ef hS.out.1 hi ⟨idp,idn,rfl⟩,hS.out.2.1,hS.out.2.2.bar HG.out.1 hp ca b9 HG.out.2.2.2.2⟩;have ed:i*3+3<=cap*3:=Agm;have da:o≠y.nobj+2:=Agm;have bu:o≠y.nobj+1:=Agm;clear b6 cf b3 ao hS aj ai hX ba a9 cp aa hK ap hO b9 hp h ae;generalize Oh x.2 a p=bp at*
    refine Bl (Q:=fun e s' y''=>e= .normal/\s' 0=ptr om 0/\s' 4=ptr (y.nobj+1) 0/\s' 6=ptr (y.nobj+2) 0/\s' 32=sl inn q.nots.length nc/\s' 33=ic q.nots.length/\s' 34=ic k/\Keep y y''/\y.nobj+2<y''.nobj/\y''.obj (y.nobj+1)=[ic 0,nilS,nilS,nilS]/\y''.obj (y.nobj+2)=[ic q.head.p,sl ih q.head.ts.length (Af q.head.ts),gx o L.length cap,sl i4 Nn.length nxs]/\Own y y'' i4 Nn.length/\∃idn,PS (y.nobj+3) y'' (gx o L.length cap) L.length (lsp xs (i*3) [ic p.a.p,sl idp p.a.ts.length (Af p.a.ts),sl idn bp.tups.length (Er bp.tups)])) ?_ ?_
    ·refine Ay Ag (fun _=>True) [12] [0,1,2,3,4,5,6,7,8,9] 3 #[true,true,true,true,true,true,true,true,true,true,false,false,false] Agp (fun _ _ _ h=>by cases h.1) ?_;intro ya J;refine Z3 ?_;refine J.out _ ?_;clear J ya;refine Ai (i:=10) Agp ?_;refine Am ?_;intro ya J;refine Z3 ?_;refine ACalls.mono (cq _ bn) ?_;rintro _ y5 ⟨⟨idn,rfl⟩,ah⟩;have knb:=ah.nobj;have bf:=ah.obj;have dk:(y5.obj o).length=cap*3:=by rw[bf o cd,ch]
     refine Z3 ?_;refine J.out _ _ ⟨Ao ah,?_⟩;clear J ya;refine Ai (i:=11) Agp ?_;refine Am ?_;intro ya J;refine Z3 ?_;refine J.out _ _ ⟨Ao ah,?_⟩;clear J ya;refine Ai (i:=12) Agp ?_;refine Am ?_;intro ya J;refine Z3 ?_;refine J.out _ _ ⟨Bf rfl,?_⟩;clear J ya;refine Bb Agp ⟨rfl,Agn,Agn,Agn,Agn,Agn,Agn,(bn.trans ah).put Agm _,by simp only[Ac];omega,by rw[Hs bu.symm,bf _ Agm,o4],by rw[Hs da.symm,bf _ Agm,o6],Own.put (Own.keep bi ah) _ _,idn,by rw[<-bf o cd];exact PS.set (c:=[ic p.a.p,sl idp p.a.ts.length (Af p.a.ts),sl idn bp.tups.length (Er bp.tups)]) (a8.keep ah) hi rfl⟩
    ·rintro e s2 y3 ⟨rfl,g0,g4,g6,g32,g33,g34,eg,d9,oc1,oc2,dv,idn,dp⟩;have cv:=au.out idn;have d5:Agt _:=cv;clear h0 h4 h6 d0 ct cr a8 bi o6 o4 db au cv cq ch o10
     refine zz ?_
     refine⟨q.nots.length-(k+1),Agm,k+1,i4,gx o L.length cap,L.set i bp,Nn,lsp xs (i*3) [ic p.a.p,sl idp p.a.ts.length (Af p.a.ts),sl idn bp.tups.length (Er bp.tups)],nxs,?_⟩
     ((repeat' refine Zi ?_ ?_)<;>first|exact Xq|exact (by rw[List.length_set];exact dp)|exact (by rw[List.length_set];exact cm)|exact d5|exact dv|exact Xs)
   ·rename_i y2;have af:=ac.nobj;have aa:=ac.obj;simp only[Ac,Aa]at af aa;have bn:=((hK.new _).put hK.nobj _).trans ac;have o10:=aa y'.nobj Agm;rw[Aj]at o10;have o6:y2.obj (y.nobj+2)=[ic q.head.p,sl ih q.head.ts.length (Af q.head.ts),X,sl i4 Nn.length nxs]:=by rw[aa _ Agm,Ak Agm,Ah Agm,ai]
    have o4:y2.obj (y.nobj+1)=[ic 0,nilS,nilS,nilS]:=by rw[aa _ Agm,Ak Agm,Ah Agm,aj]
    have bi:Own y y2 i4 Nn.length:=Own.keep (Own.put (Own.new hO _) _ _) ac;have a8:=(hX.keep (((Keep.refl _).new _).put (Adc _) _)).keep ac;clear ao aj ai hX ba aa hK hO ac
    repeat' first|refine Z1 ?_|refine Z8 fun ya J=>?_|refine Z4 ?_;clear J ya|refine Z2 ?_ ?_<;>intro h ae<;>try exact Xp|refine Z6 ?_;intro idn yn du bz b1 be d4 cu|(refine Z5 ?_;first|(refine Xi (a9 _) ?_;rintro _ _ ⟨rfl,ah⟩;(have cz:=ah.nobj;have am:=ah.obj;have co:=bn.trans ah;have o11:=am y'.nobj Agm;rw[o10]at o11;have o12:=am (y.nobj+2) Agm;rw[o6]at o12;have o13:=am (y.nobj+1) Agm;rw[o4]at o13;have dw:=Own.keep bi ah;have ci:=a8.keep ah))|(refine Xi (cp _ co) ?_;rintro _ _ ⟨rfl,bc⟩;(have cy:=bc.nobj;have bo:=bc.obj;have dz:=co.trans bc)))|refine Z3 ?_|exact Zt|apply J.out;clear J ya
    ·have au:Agt (EL L2 L xs/\EL Nk (Nn++[a]) (nxs++[ic a.p,sl ida a.ts.length (Af a.ts)])/\RdS neg q (k+1) L (Nn++[a])):=⟨hS.out.1,EL.append hS.out.2.1 (EL.single ⟨ida,rfl⟩),hS.out.2.2.keepN HG.out.1 (by assumption)⟩;have dl:PS (y.nobj+3) yn X L.length xs:=by
      have:=ci;unfold PS at this⊢;rw[b1,be];exact this
     refine⟨q.nots.length-(k+1),Agm,k+1,idn,X,L,Nn++[a],xs,nxs++[ic a.p,sl ida a.ts.length (Af a.ts)],?_⟩
     ((repeat' refine Zi ?_ ?_)<;>first|exact Xq|exact (bz.put Agm _)|exact (dl.put Agm _)|exact (by simpa using Own.put du _ _)|exact au|exact Xs)
    ·have bq:Io a.ts=true:=by assumption
     exact⟨_,rfl,⟨_,.inl ⟨rfl,rfl,rfl,fun ν hν=>hν.2 a HG.out.2.1 ((HG.out.2.2.2.2 _).2 (by rw[O6 bq];simpa using h))⟩⟩,dz.put Agm _⟩
    ·have bq:Io a.ts=true:=by assumption
     have au:Agt (EL L2 L xs/\EL Nk Nn nxs/\RdS neg q (k+1) L Nn):=⟨hS.out.1,hS.out.2.1,hS.out.2.2.drop HG.out.1 (fun ν hn=>by
      have:=(HG.out.2.2.2.2 _).1 hn;rw[O6 bq]at this
      simp[this]at h)⟩
     refine⟨q.nots.length-(k+1),Agm,k+1,i4,X,L,Nn,xs,nxs,?_⟩
     ((repeat' refine Zi ?_ ?_)<;>first|exact Xq|exact (ci.keep bc)|exact (Own.keep dw bc)|exact au|exact (by rw[bo _ Agm];assumption)|exact Xs)
  ·have dh:k=q.nots.length:=Agm;subst dh;obtain⟨an,dn⟩:=hS.out.2.2.fin hA;have HU:Agt (∀a∈Nn,a∈q.nots/\Io a.ts=false):=fun a ha=>⟨by have:=hS.out.2.2.nsub.subset ha;rwa[Adu]at this,hS.out.2.2.uns a ha⟩;refine jI (lo:=y.nobj+3) (p:=y.nobj+2) (j:=2) hK Agm Agm Agm Agm hX ai rfl ?_;intro ip1 yf b0 d8 obf cb;have obf2:yf.obj (y.nobj+2)=[ic q.head.p,sl ih q.head.ts.length (Af q.head.ts),sl ip1 L.length xs,sl i4 Nn.length nxs]:=obf;have o1f:yf.obj (y.nobj+1)=[ic 0,nilS,nilS,nilS]:=by rw[cb _ Agm Agm,aj]
   have dd:y.nobj+2<yf.nobj:=Agm;have bb:=fun y=>sM ⟨q.head,L,Nn⟩ [ic q.head.p,sl ih q.head.ts.length (Af q.head.ts),sl ip1 L.length xs,sl i4 Nn.length nxs] ⟨ih,ip1,i4,xs,nxs,rfl,hS.out.1,hS.out.2.1⟩ an.ok an.n y;clear hX aj ai hK hS hO dc hk cb obf ap ak av;have av:=b0.nobj
   repeat' first|refine Z1 ?_|refine Z8 fun ya J=>?_|refine Z4 ?_;clear J ya|refine Z2 ?_ ?_<;>intro h ae<;>try exact Xp|refine Z5 ?_;refine Xi (bb _) ?_;rintro _ _ ⟨⟨_,q1,qp,rfl,⟨ih1,ip1,in1,pc1,nc1,rfl,bw,dy⟩,n1,n2,n3,n4⟩,ac⟩;(have N3:Agt (q1=jZ qp (Cn (atomsQ qp))):=n3;clear n3;have af:=ac.nobj;have aa:=ac.obj;have bm:=b0.trans ac)|refine Z3 ?_|exact Zt|apply J.out;clear J ya
   rename_i y1;have o1:y1.obj (y.nobj+1)=[ic 0,nilS,nilS,nilS]:=by rw[aa _ Agm,o1f]
   have b4:WP q1:=n2.wp an.w;have bg:Om q1:=n2.ok an.ok;have cc:QN q1:=n2.n an.n;have ay:q1.nots=Nn:=n2.atoms.2.2;have b8:Red neg q q1:=dn.trans (n2.red an.w);have aw:jW q1:=yP n2 an.wf;have az:Nrw q1:=by
    obtain⟨g1,g2⟩:=(fR (Cn (atomsQ qp)) qp).2 (by rw[<-N3.out];exact n4);rw[N3.out,g1];exact Abp g2
   have b2:Agt (WP q1/\Om q1/\QN q1/\q1.nots=Nn/\Red neg q q1/\jW q1/\Nrw q1):=⟨b4,bg,cc,ay,b8,aw,az⟩;clear b4 cc ay b8 aw az n1 n2 N3 n4 aa ac bb;have ec:=bg.pl;have c6:=bg.pt;clear bg;have c8:=EL.length Ef bw
   refine Ad (fun m s y2=>∃j:Nat,m=q1.parts.length-j/\j<=q1.parts.length/\s 4=ptr (y.nobj+1) 0/\s 6=ptr (y.nobj+2) 0/\s 72=sl ip1 q1.parts.length pc1/\s 73=ic q1.parts.length/\s 74=ic j/\Keep y y2/\y.nobj+2<y2.nobj/\y2.obj (y.nobj+1)=[ic 0,nilS,nilS,nilS]/\y2.obj (y.nobj+2)=[ic q1.head.p,sl ih1 q1.head.ts.length (Af q1.head.ts),sl ip1 q1.parts.length pc1,sl in1 q1.nots.length nc1]/\Agt (∀p∈q1.parts.take j,p.tups≠[])) q1.parts.length
    ⟨0,Agm,Agm,Agn,Agn,Ago,Ago,rfl,bm.put Agm _,by simp only[Ac];omega,by rw[Ak Agm,o1],by rw[Aj],by simp[Agt]⟩ ?_
   clear h4 h6 ct cr o1 bm af b0;rintro m s y2 ⟨j,rfl,hj,h4,h6,ej,ei,eh,hK,ap,aj,ai,hJ⟩;have av:=hK.nobj;by_cases ak:j<q1.parts.length
   ·have ab:=Adn ak;obtain⟨id,idt,r,hd⟩:=E6 bw ab;have ad:=Aes ak;have c5:=c6 _ ad;generalize q1.parts[j]=w at hd ab ad c5;by_cases he:w.tups=[]
    ·have b5:w.tups.length=0:=by rw[he];rfl
     have HF:Agt (∀ν,¬K5 neg q ν):=fun ν hν=>by
      have h1:=(b2.out.2.2.2.2.1.to ν hν).1 w ad;rw[he]at h1;cases h1
     have hb:((w.tups.length:Int)==0)=true:=by rw[b5];rfl
     clear ab b5 he hJ
     repeat' first|refine Z1 ?_|refine Z8 fun ya J=>?_|refine Z4 ?_;clear J ya|refine Z2 ?_ ?_<;>intro h ae<;>try exact Xp|refine Z3 ?_|exact Zt|apply J.out;clear J ya
     exact⟨_,rfl,⟨_,.inl ⟨rfl,rfl,rfl,HF.out⟩⟩,((hK.new _).put hK.nobj _).put Agm _⟩
    ·have hb:((w.tups.length:Int)==0)=false:=by
      have:w.tups.length≠0:=fun h=>he (Ads h);simp;exact he
     have HJ:Agt (∀p∈q1.parts.take (j+1),p.tups≠[]):=by
      rw[Agt,Ad0,ab,Aez];intro p hp;rcases Aet.1 hp with h|h
      ·exact hJ.out p h
      ·simp at h;subst h;exact he
     clear ab he hJ
     repeat' first|refine Z1 ?_|refine Z8 fun ya J=>?_|refine Z4 ?_;clear J ya|refine Z2 ?_ ?_<;>intro h ae<;>try exact Xp|refine Z3 ?_|exact Zt|apply J.out;clear J ya
     refine⟨q1.parts.length-(j+1),Agm,j+1,?_⟩
     ((repeat' refine Zi ?_ ?_)<;>first|exact Xq|exact HJ|exact Xs)
   ·have di:j=q1.parts.length:=Agm;subst di;rw[Adu]at hJ;obtain⟨a1,a2,a3,a4,a5,a6,a7⟩:=b2.out;have dm:=fun y=>mH q1 _ ⟨ih1,ip1,in1,pc1,nc1,rfl,bw,dy⟩ a2 y;have cw:Agt (NE q1):=hJ.out;clear a1 a2 a3 a4 a5 a6 a7 hJ
    repeat' first|refine Z1 ?_|refine Z8 fun ya J=>?_|refine Z4 ?_;clear J ya|refine Z2 ?_ ?_<;>intro h ae<;>try exact Xp|refine Z5 ?_;refine Xi (dm _) ?_;rintro _ _ ⟨⟨_,q2,rfl,⟨ih2,ip2,in2,pc2,nc2,rfl,dt,dx⟩,c7,hR2⟩,ac⟩;(have af:=ac.nobj;have aa:=ac.obj;have bm:=hK.trans ac)|refine Z3 ?_|exact Zt|apply J.out;clear J ya
    obtain⟨a1,a2,a3,a4,a5,a6,a7⟩:=b2.out;obtain⟨t1,t2,t3⟩:=hR2.red (neg:=neg) a1 cw.out a7;obtain⟨-,u2,u3⟩:=hR2.ok a2;exact⟨_,rfl,⟨_,.inr ⟨q2,rfl,⟨ih2,ip2,in2,pc2,nc2,rfl,dt,dx⟩,⟨c7,fun p hp=>a3 p (u3 p hp),fun p hp=>a1 p (u3 p hp),t3 a6⟩,fun p hp=>cw.out p (u3 p hp),a5.trans t1,fun a ha=>HU.out a (by rw[<-a4,<-u2];exact ha)⟩⟩,bm.put Agm _⟩
theorem Ll (v n:Int)(p:Part):(Hl v n p).a.ts.length=p.a.ts.length/\(Hl v n p).tups.length<=p.tups.length/\∀t∈(Hl v n p).tups,t∈p.tups:=by
 unfold Hl;split
 ·exact⟨by simp[Bg],Af0 _ _,fun t ht=>(Afz.1 ht).1⟩
 ·exact⟨rfl,Adc _,fun t ht=>ht⟩
theorem putP_has {v n:Int}{p:Part}{w:Int}:A9 (Hl v n p).a.ts w=true↔A9 p.a.ts w=true/\w≠v:=by
 unfold Hl;by_cases h:A9 p.a.ts v=true
 ·rw[if_pos h];exact hasV_put (a:=p.a)
 ·rw[if_neg h];exact⟨fun hw=>⟨hw,fun e=>h (e ▸ hw)⟩,fun hw=>hw.1⟩
theorem R6 {q:Qry}{v n w:Int}(h:inQ (C7 v n q) w):inQ q w/\w≠v:=by
 obtain⟨a,ha,hw⟩:=h;unfold atomsQ C7 at ha;simp only[Ae2,Aet,Ae4]at ha;rcases ha with rfl|⟨p',⟨p,hp,rfl⟩,rfl⟩|⟨b,hb,rfl⟩
 ·have:=hasV_put.1 hw;exact⟨⟨q.head,by simp[atomsQ],this.1⟩,this.2⟩
 ·have:=putP_has.1 hw;exact⟨⟨p.a,Kf hp,this.1⟩,this.2⟩
 ·have:=hasV_put.1 hw;exact⟨⟨b,by simp[atomsQ,hb],this.1⟩,this.2⟩
theorem fX {q:Qry}{v n:Int}(h:Qv q):Qv (C7 v n q):=by
 have hm:∀p∈(C7 v n q).parts,∃p0∈q.parts,Hl v n p0=p:=fun p hp=>Ae4.1 hp;have ab:∀a∈(C7 v n q).nots,∃a0∈q.nots,Fi v n a0=a:=fun a ha=>Ae4.1 ha;refine⟨⟨by simp[C7,Fi,Bg];exact h.ok.hd,by simp[C7];exact h.ok.pl,by simp[C7];exact h.ok.nl,fun p hp=>?_,fun p hp=>?_,fun p hp=>?_,?_⟩,fun p hp t ht=>?_,Abd h.w,fun w hw=>?_⟩
 ·obtain⟨p0,h0,rfl⟩:=hm p hp;rw[(Ll v n p0).1];exact h.ok.pa p0 h0
 ·obtain⟨p0,h0,rfl⟩:=hm p hp;exact Ade (Ll v n p0).2.1 (h.ok.pt p0 h0)
 ·obtain⟨p0,h0,rfl⟩:=hm p hp;exact fun t ht=>h.ok.p3 p0 h0 t ((Ll v n p0).2.2 t ht)
 ·intro a ha;obtain⟨a0,h0,rfl⟩:=ab a ha;simp[Fi,Bg];exact h.ok.na a0 h0
 ·obtain⟨p0,h0,rfl⟩:=hm p hp;rw[(Ll v n p0).1];exact h.n p0 h0 t ((Ll v n p0).2.2 t ht)
 ·have aa:(A9 q.head.ts w=true\/∃a∈q.nots,A9 a.ts w=true)/\w≠v:=by
   rcases hw with hw|⟨a,ha,hw⟩
   ·have:=hasV_put.1 hw;exact⟨.inl this.1,this.2⟩
   ·obtain⟨a0,h0,rfl⟩:=ab a ha;have:=hasV_put.1 hw;exact⟨.inr ⟨a0,h0,this.1⟩,this.2⟩
  obtain⟨p,hp,ac⟩:=h.wf w aa.1;exact⟨Hl v n p,Ae4.2 ⟨p,hp,rfl⟩,putP_has.2 ⟨ac,aa.2⟩⟩
theorem Lj {q q':Qry}(h:Qv q)(hh:q'.head.ts.length<=3)(hp:q'.parts.Sublist q.parts)(hn:q'.nots.Sublist q.nots)(hw:jW q'):Qv q':=
 ⟨⟨hh,Ade hp.length_le h.ok.pl,Ade hn.length_le h.ok.nl,fun p aa=>h.ok.pa p (hp.subset aa),fun p aa=>h.ok.pt p (hp.subset aa),fun p aa=>h.ok.p3 p (hp.subset aa),fun a ha=>h.ok.na a (hn.subset ha)⟩,
  fun p aa=>h.n p (hp.subset aa),fun p aa=>h.w p (hp.subset aa),hw⟩
theorem U3 {q:Qry}(hw:jW q){v:Int}(h:inQ q v):∃p∈q.parts,A9 p.a.ts v=true:=by
 obtain⟨a,ha,hv⟩:=h;unfold atomsQ at ha;simp only[Ae2,Aet,Ae4]at ha;rcases ha with rfl|⟨p,hp,rfl⟩|ha
 ·exact hw v (.inl hv)
 ·exact⟨p,hp,hv⟩
 ·exact hw v (.inr ⟨a,ha,hv⟩)
theorem dE {q:Qry}{rs:List Int}(hw:jW q)(hC:E7 (atomsQ q) rs rs)(hh:∀v,A9 q.head.ts v=true->v∈rs):jW (A7 q rs):=fun v hv=>by
 have hr:v∈rs/\∃p∈q.parts,A9 p.a.ts v=true:=by
  rcases hv with h|⟨a,ha,h⟩
  ·exact⟨hh v h,hw v (.inl h)⟩
  ·obtain⟨h1,h2⟩:=Afz.1 ha;exact⟨hC a (by unfold atomsQ;simp[h1]) h2 v (hasV_iff.1 h),hw v (.inr ⟨a,h1,h⟩)⟩
 obtain⟨h1,p,hp,aa⟩:=hr;exact⟨p,Afz.2 ⟨hp,Aer.2 ⟨v,h1,aa⟩⟩,aa⟩
theorem yQ {q:Qry}{rs:List Int}(hw:jW q)(hC:E7 (atomsQ q) rs rs):jW (Hg q rs):=fun v hv=>by
 rcases hv with h|⟨a,ha,h⟩
 ·simp[Hg,A9]at h
 ·obtain⟨h1,h2⟩:=Afz.1 ha;obtain⟨p,hp,aa⟩:=hw v (.inr ⟨a,h1,h⟩);refine⟨p,Afz.2 ⟨hp,?_⟩,aa⟩;cases hb:Ip rs p.a with
  |false=>rfl
  |true=>
   have:=hC p.a (Kf hp) hb v (hasV_iff.1 aa);have:Ip rs a=true:=Aer.2 ⟨v,this,h⟩;rw[this]at h2;cases h2
theorem NegOk.sub {neg:Int->Cc->Prop}{M:MM}{q q':Qry}(h:NegOk neg M q)(hs:∀a∈q'.nots,∃b∈q.nots,a.p=b.p):NegOk neg M q':=fun a ha=>by
 obtain⟨b,hb,e⟩:=hs a ha;rw[e];exact h b hb
theorem NegOk.put {neg:Int->Cc->Prop}{M:MM}{q:Qry}(h:NegOk neg M q)(v n:Int):NegOk neg M (C7 v n q):=h.sub fun a ha=>by
 obtain⟨b,hb,rfl⟩:=Ae4.1 ha;exact⟨b,hb,rfl⟩
theorem NegOk.near {neg:Int->Cc->Prop}{M:MM}{q:Qry}(h:NegOk neg M q)(rs:List Int):NegOk neg M (A7 q rs):=h.sub fun a ha=>⟨a,(Afz.1 ha).1,rfl⟩
theorem NegOk.far {neg:Int->Cc->Prop}{M:MM}{q:Qry}(h:NegOk neg M q)(rs:List Int):NegOk neg M (Hg q rs):=h.sub fun a ha=>⟨a,(Afz.1 ha).1,rfl⟩
theorem vB {a:Dy}(h:Io a.ts=false):∃v,A9 a.ts v=true:=by
 unfold Io at h;rw[Afu]at h;obtain⟨⟨b,w⟩,h1,h2⟩:=h;cases b with
 |false=>simp at h2
 |true=>exact⟨w,hasV_iff.2 h1⟩
def Sa (neg:Int->Cc->Prop)(om ot:Nat)(M:MM)(d b:Int)(V:List Int):Prop:=∀(q:Qry) (c:List AV),EQ q c->Qv q->NegOk neg M q->QV q->q.head.ts=[]->(∀v,inQ q v->v∈V)->∀y,MOb y om ot M d b->ACalls Tryz.prog 170 [ptr om 0,ag c] y fun r y'=>(∃b,r=sc (.bool b)/\(b=true↔∃ν,K5 neg q ν))/\Keep y y'
theorem Vh (neg:Int->Cc->Prop)(om ot:Nat)(M:MM)(d b:Int)(V:List Int)(hH:Sa neg om ot M d b V)(q:Qry)(c:List AV)(v:Int)(hc:EQ q c)(hA:Qv q)(hNg:NegOk neg M q)(hV:QV q)(hh:q.head.ts=[])(a0:∀w,inQ q w->w≠v->w∈V)(y:St)(hM:MOb y om ot M d b):ACalls Tryz.prog 216 [ptr om 0,ag c,ic v] y fun r y'=>(∃b,r=sc (.bool b)/\(b=true↔∃n∈K0 q v,∃ν,K5 neg (C7 v n q) ν))/\Keep y y':=by
 have au:=fun y=>Km q c v hc hA.ok hA.n y;have a9:=Sq hA.n v;have ak:=fun n y=>Va q c v n hc hA.ok y;have HM:Agt (MOb y om ot M d b):=hM;clear hM;have a6:∀(n:Int) (c2:List AV),EQ (C7 v n q) c2->∀y1,Keep y y1->ACalls Tryz.prog 170 [ptr om 0,ag c2] y1 fun r y'=>(∃b,r=sc (.bool b)/\(b=true↔∃ν,K5 neg (C7 v n q) ν))/\Keep y1 y':=fun n c2 h2 y1 ay=>
  hH _ c2 h2 (fX hA) (hNg.put v n) (fun a ha w hw=>by
   obtain⟨⟨b,hb,a3⟩,-⟩:=R6 (q:=q) (v:=v) (n:=n) (w:=w) ⟨a,ha,hasV_iff.2 hw⟩;exact hV b hb w (hasV_iff.1 a3)) (by simp[C7,Fi,Bg,hh]) (fun w hw=>by
   obtain⟨h1,h2⟩:=R6 hw
   exact a0 w h1 h2) y1 (HM.out.keep ay)
 clear hh;obtain⟨ih,ip,inn,pc,nc,rfl,-,-⟩:=hc;generalize K0 q v=vs at*
 have ba:=Bs vs;refine Z9 26 [.tmp 6] Tryz.func216 ?_
 repeat' first|refine Z1 ?_|refine Z8 fun ya J=>?_|refine Z4 ?_;clear J ya|refine Z5 ?_;refine Xi (au _) ?_;rintro _ _ ⟨⟨idv,rfl⟩,af⟩;(have ad:=af.nobj;have ab:=af.obj;have ae:=((Keep.refl y).new _).trans af;simp only[Aa]at ad ab)|refine Z3 ?_|exact Zt|apply J.out;clear J ya
 rename_i y1;have o0:y1.obj y.nobj=[ic q.head.p,sl ih q.head.ts.length (Af q.head.ts),sl ip q.parts.length pc,sl inn q.nots.length nc]:=by rw[ab _ Agm,Al]
 clear ab af au
 refine Ad (fun m s y'=>∃j:Nat,m=vs.length-j/\j<=vs.length/\s 0=ptr om 0/\s 2=ic v/\s 4=ptr y.nobj 0/\s 12=sl idv vs.length (Ar vs)/\s 13=ic vs.length/\s 14=ic j/\Keep y y'/\y.nobj<y'.nobj/\y'.obj y.nobj=[ic q.head.p,sl ih q.head.ts.length (Af q.head.ts),sl ip q.parts.length pc,sl inn q.nots.length nc]/\Agt (∀n∈vs.take j,¬ ∃ν,K5 neg (C7 v n q) ν)) vs.length
  ⟨0,Agm,Agm,by simp[upd,initS],by simp[upd,initS],Ago,Ago,Ago,rfl,ae,Agm,o0,by simp[Agt]⟩ ?_
 clear ae o0 ad;rintro m s y' ⟨j,rfl,hj,h0,h2,h4,bg,bf,be,hK,bc,ob,hN⟩;have a8:=hK.nobj;by_cases ao:j<vs.length
 ·have aa:=Adn ao;obtain⟨r,hd⟩:=Di aa;have ac:=Aes ao;generalize vs[j]=n at hd aa ac;have HG:Agt (n∈vs/\vs[j]?=some n):=⟨ac,aa⟩;clear aa ac;have ak:=ak n
  repeat' first|refine Z1 ?_|refine Z8 fun ya J=>?_|refine Z4 ?_;clear J ya|refine Z2 ?_ ?_<;>intro h aj<;>try exact Xp|(refine Z5 ?_;first|(refine Xi (ak _) ?_;rintro _ _ ⟨⟨_,rfl,ih2,ip2,in2,pc2,nc2,rfl,a4,a5⟩,an⟩;(have ax:=an.nobj;have aw:=an.obj;have ae:=hK.trans an;have a7:=a6 n _ ⟨ih2,ip2,in2,pc2,nc2,rfl,a4,a5⟩))|(refine Xi (a7 _ ((ae.new _).put Agm _)) ?_;rintro _ _ ⟨⟨bb,rfl,ap⟩,am⟩;(have ai:=am.nobj;have ah:=am.obj;have bd:=((ae.new _).put Agm _).trans am;have av:Agt _:=ap;clear ap;simp only[Ac,Aa]at ai ah)))|refine Z3 ?_|exact Zt|apply J.out;clear J ya
  ·exact⟨_,rfl,⟨true,rfl,fun _=>⟨n,HG.out.1,av.out.1 (by assumption)⟩,fun _=>rfl⟩⟩
  ·have HN:Agt (∀n∈vs.take (j+1),¬ ∃ν,K5 neg (C7 v n q) ν):=by
    rw[Agt,Ad0,HG.out.2,Aez];intro u hu;rcases Aet.1 hu with h'|h'
    ·exact hN.out u h'
    ·simp at h';subst h';intro hex;have:=av.out.2 hex;rw[this]at h;cases h
   refine⟨vs.length-(j+1),Agm,j+1,?_⟩
   ((repeat' refine Zi ?_ ?_)<;>first|exact Xq|exact HN|exact Xs)
 ·have az:j=vs.length:=Agm;subst az;rw[Adu]at hN
  repeat' first|refine Z1 ?_|refine Z8 fun ya J=>?_|refine Z4 ?_;clear J ya|refine Z2 ?_ ?_<;>intro h aj<;>try exact Xp|refine Z3 ?_|exact Zt|apply J.out;clear J ya
  first|exact⟨_,rfl,⟨false,rfl,(fun h=>by cases h),fun⟨n,h1,h2⟩=>absurd h2 (hN.out n h1)⟩,hK⟩|exact⟨_,rfl,⟨false,rfl,(fun h=>by cases h),fun⟨n,h1,h2⟩=>absurd h2 (hN.out n h1)⟩⟩
theorem Ph {q:Qry}{rs:List Int}{v:Int}(h:inQ (A7 q rs) v):inQ q v:=by
 obtain⟨a,ha,hv⟩:=h;refine⟨a,?_,hv⟩;unfold atomsQ A7 at ha;unfold atomsQ;simp only[Ae2,Aet,Ae4]at ha⊢;rcases ha with h|⟨p,hp,h⟩|h
 ·exact .inl h
 ·exact .inr (.inl ⟨p,(Afz.1 hp).1,h⟩)
 ·exact .inr (.inr (Afz.1 h).1)
theorem pO {q:Qry}{rs:List Int}{v:Int}(h:inQ (Hg q rs) v):inQ q v/\v∉rs:=by
 obtain⟨a,ha,hv⟩:=h;unfold atomsQ Hg at ha;simp only[Ae2,Aet,Ae4]at ha
 have key:∀b:Dy,b∈atomsQ q->(!Ip rs b)=true->A9 b.ts v=true->inQ q v/\v∉rs:=fun b hb aa ab=>⟨⟨b,hb,ab⟩,fun hm=>by
  have:Ip rs b=true:=Aer.2 ⟨v,hm,ab⟩;rw[this]at aa
  cases aa⟩
 rcases ha with rfl|⟨p,hp,rfl⟩|h
 ·simp[A9]at hv
 ·exact key p.a (Kf (Afz.1 hp).1) (Afz.1 hp).2 hv
 ·exact key a (by unfold atomsQ;simp[(Afz.1 h).1]) (Afz.1 h).2 hv
theorem Re (neg:Int->Cc->Prop)(om ot:Nat)(M:MM)(d bg:Int)(V:List Int)(IH:∀V':List Int,V'.length<V.length->Sa neg om ot M d bg V'):Sa neg om ot M d bg V:=by
 intro q c hc hA hNg hV hh b2 y hM;have bm:=fun y1 hk=>Z0 neg q c om ot M d bg hc hA hNg y1 (MOb.keep hM (show Keep y y1 from hk));have HM:Agt (MOb y om ot M d bg):=hM;clear hM;obtain⟨ih,ip,inn,pc,nc,rfl,-,-⟩:=hc;have HH:Agt (q.head.ts=[]):=hh;clear hh;refine Z9 36 [.tmp 4] Tryz.func170 ?_
 repeat' first|refine Z1 ?_|refine Z8 fun ya J=>?_|refine Z4 ?_;clear J ya|(refine Z5 ?_;refine Xi (bm _ ((Keep.refl _).new _)) ?_;rintro _ _ ⟨⟨c',(⟨rfl,cn,co,a8⟩|⟨q',rfl,⟨ih2,ip2,in2,pc2,nc2,rfl,bn,bo⟩,aa,a5,hR2,ah⟩)⟩,ae⟩)|refine Z3 ?_|exact Zt
 ·rename_i y1;have ab:=ae.nobj;have o0:=ae.obj y.nobj Agq;rw[Al]at o0;simp only[Aa]at ab;have ak:=(((Keep.refl y).new _).trans ae);have ci:Agt (∀ν,¬K5 neg q ν):=a8;clear a8
  repeat' first|refine Z1 ?_|refine Z8 fun ya J=>?_|refine Z4 ?_;clear J ya|refine Z2 ?_ ?_<;>intro h ai<;>try exact Xp|refine Z3 ?_|exact Zt|apply J.out;clear J ya
  exact⟨_,rfl,⟨false,rfl,(fun h=>by cases h),fun⟨ν,hν⟩=>absurd hν (ci.out ν)⟩,ak.put Agm _⟩
 ·have ab:=ae.nobj;have av:=ae.obj;simp only[Aa]at ab av;have cc:=((Keep.refl y).new _).trans ae;have ba:q'.head.ts=[]:=by rw[hR2.hd];exact HH.out
  have aj:NegOk neg M q':=hNg.sub fun a ha=>⟨a,(ah a ha).1,rfl⟩;have ao:QV q':=fun a ha v hv=>hV a (hR2.at_ a ha) v hv;have ac:∀v,inQ q' v->v∈V:=fun v hv=>b2 v (hv.sub hR2.at_);have bv:=fun y=>cF q' _ ⟨ih2,ip2,in2,pc2,nc2,rfl,bn,bo⟩ aa.ok aa.n ao y;have bw:Agt _:=ba;clear ba
  repeat' first|refine Z1 ?_|refine Z8 fun ya J=>?_|refine Z4 ?_;clear J ya|refine Z2 ?_ ?_<;>intro h ai<;>try exact Xp|refine Z5 ?_;refine Xi (bv _) ?_;rintro _ _ ⟨⟨b,rfl,hb⟩,ak⟩;(have HB:Agt _:=hb;clear hb;have ay:=ak.nobj;have au:=ak.obj;have bq:=(cc.put Agm _).trans ak)|refine Z3 ?_|exact Zt|apply J.out;clear J ya
  ·have bc:b= -1:=by simpa using h
   have a9:∀v∈Cn (atomsQ q'),Dd q' v=false:=by
    rcases HB.out with⟨-,h2⟩|⟨h1,-⟩
    ·exact h2
    ·obtain⟨a,ha,hv⟩:=(Dp _ _).1 h1;have:=ao a ha b hv;omega
   have b3:∀v,Df (q'.parts.map (·.a)) v<=1:=fun v=>by
    have cm:Df (q'.parts.map (·.a)) v<=Df (atomsQ q') v:=by
     unfold atomsQ;rw[Gw,Ew];omega
    by_cases hm:v∈Cn (atomsQ q')
    ·have:=a9 v hm;unfold Dd at this;rw[decide_eq_false_iff_not]at this;omega
    ·have:Df (atomsQ q') v=0:=by
      rcases Nat.eq_zero_or_pos (Df (atomsQ q') v)with h0|h0
      ·exact h0
      ·obtain⟨a,ha,b6⟩:=Af4.1 h0;exact absurd ((Dp _ _).2 ⟨a,ha,hasV_iff.1 b6⟩) hm
     omega
   obtain⟨ν,hν⟩:=iG (l:=q'.parts) (fun p hp=>⟨a5 p hp,(aa.w p hp).2⟩) b3
   have hS:K5 neg q' ν:=⟨hν,fun a ha=>by
    exfalso;obtain⟨v,hv⟩:=vB (ah a ha).2;obtain⟨p,hp,af⟩:=aa.wf v (.inr ⟨a,ha,hv⟩);have h1:0<Df (q'.parts.map (·.a)) v:=Lw (Ae4.2 ⟨p,hp,rfl⟩) af;have h2:=Lw ha hv;have h3:Df (atomsQ q') v=Df (q'.parts.map (·.a)) v+Df q'.nots v+if A9 q'.head.ts v=true then 1 else 0:=by
     unfold atomsQ;rw[Gw,Ew]
    have hm:v∈Cn (atomsQ q'):=(Dp _ _).2 ⟨p.a,Kf hp,hasV_iff.1 af⟩;have:=a9 v hm;unfold Dd at this;rw[decide_eq_false_iff_not]at this
    omega⟩
   obtain⟨ν',hν',-⟩:=hR2.back ν hS
   first|exact⟨_,rfl,⟨true,rfl,fun _=>⟨ν',hν'⟩,fun _=>rfl⟩,bq⟩|exact⟨_,rfl,⟨true,rfl,fun _=>⟨ν',hν'⟩,fun _=>rfl⟩⟩
  ·have bc:b≠ -1:=by simpa using h
   have b4:b∈Cn (atomsQ q'):=by
    rcases HB.out with⟨h1,-⟩|⟨h1,-⟩
    ·exact absurd h1 bc
    ·exact h1
   have bd:inQ q' b:=by
    obtain⟨a,ha,hv⟩:=(Dp _ _).1 b4;exact⟨a,ha,hasV_iff.2 hv⟩
   have a3:=ac b bd;have bh:(V.erase b).length<V.length:=by
    rw[List.length_erase_of_mem a3];have:=List.length_pos_of_mem a3;omega
   have IHb:=IH (V.erase b) bh;have bi:=fun (id:Nat) y=>Rb q' _ [b] id ⟨ih2,ip2,in2,pc2,nc2,rfl,bn,bo⟩ aa.ok (by simp) y;simp only[Aem,Ael,Ar,Ad7,Ad8,Aea]at bi;have cj:Agt (∀(rs:List Int) (c3:List AV),E7 (atomsQ q') rs rs->EQ (A7 q' rs) c3->∀y1,Keep y y1->ACalls Tryz.prog 216 [ptr om 0,ag c3,ic b] y1 fun r y'=>(∃bb,r=sc (.bool bb)/\(bb=true↔∃n∈K0 (A7 q' rs) b,∃ν,K5 neg (C7 b n (A7 q' rs)) ν))/\Keep y1 y'):=fun rs c3 a7 ch y1 a0=>
    Vh neg om ot M d bg (V.erase b) IHb (A7 q' rs) c3 b ch (Lj aa aa.ok.hd Agc Agc (dE aa.wf a7 (fun v hv=>by rw[bw.out]at hv;simp[A9]at hv))) (aj.near rs)
     (fun a ha w hw=>by
      obtain⟨a',a4,az⟩:=Ph (rs:=rs) ⟨a,ha,hasV_iff.2 hw⟩
      exact ao a' a4 w (hasV_iff.1 az)) bw.out (fun w hw b1=>(List.mem_erase_of_ne b1).2 (ac w (Ph hw))) y1 (HM.out.keep a0)
   have ck:Agt (∀(rs:List Int) (c4:List AV),b∈rs->E7 (atomsQ q') rs rs->EQ (Hg q' rs) c4->∀y1,Keep y y1->ACalls Tryz.prog 170 [ptr om 0,ag c4] y1 fun r y'=>(∃bb,r=sc (.bool bb)/\(bb=true↔∃ν,K5 neg (Hg q' rs) ν))/\Keep y1 y'):=fun rs c4 an a7 cg y1 a0=>
    IHb (Hg q' rs) c4 cg (Lj aa (by simp[Hg]) Agc Agc (yQ aa.wf a7)) (aj.far rs)
     (fun a ha w hw=>by
      obtain⟨⟨a',a4,az⟩,-⟩:=pO (rs:=rs) ⟨a,ha,hasV_iff.2 hw⟩;exact ao a' a4 w (hasV_iff.1 az)) rfl (fun w hw=>by
      obtain⟨h1,h2⟩:=pO hw
      exact (List.mem_erase_of_ne (fun e=>h2 (by rw[e];exact an))).2 (ac w h1)) y1 (HM.out.keep a0)
   clear IHb IH bm bv a3 bh;have o3:=au y.nobj (by simp only[Ac];omega);rw[Aj]at o3;simp only[Ac]at ay
   repeat' first|refine Z1 ?_|refine Z8 fun ya J=>?_|refine Z4 ?_;clear J ya|refine Z2 ?_ ?_<;>intro h ai<;>try exact Xp|(refine Z5 ?_;first|(refine Xi (bi _ _) ?_;rintro _ _ ⟨⟨_,_,rs,rfl,⟨ih3,ip3,in3,pc3,nc3,rfl,b9,cb⟩,⟨ih4,ip4,in4,pc4,nc4,rfl,b8,ca⟩,hG,hC⟩,bu⟩;(have an:b∈rs:=(by obtain⟨ad,e,-,-⟩:=hG;rw[e];simp);have ce:=cj.out rs _ hC ⟨ih3,ip3,in3,pc3,nc3,rfl,b9,cb⟩;have cf:=ck.out rs _ an hC ⟨ih4,ip4,in4,pc4,nc4,rfl,b8,ca⟩;have HC:Agt _:=hC;clear hC hG;have ax:=bu.nobj;simp only[Ax]at ax;have bp:=(bq.lay 1).trans bu))|(refine Xi (ce _ ((((bp.new _).new _).put Agm _).put Agm _)) ?_;rintro _ _ ⟨⟨b5,rfl,bf⟩,a6⟩;(have b0:Agt _:=bf;clear bf;have aw:=a6.nobj;have ap:=a6.obj;simp only[Ac,Aa]at aw ap;have br:=((((bp.new _).new _).put Agm _).put Agm _).trans a6))|(refine Xi (cf _ br) ?_;rintro _ _ ⟨⟨b7,rfl,be⟩,cd⟩;(have bz:Agt _:=be;clear be;have cp:=br.trans cd)))|refine Z3 ?_|exact Zt|apply J.out;clear J ya
   ·refine⟨_,rfl,false,rfl,(fun h=>by cases h),fun⟨ν,hν⟩=>?_⟩;have h1:=hR2.to ν hν;have h2:=fK (rs:=rs) h1;have am:WP (A7 q' rs):=fun p hp=>aa.w p (Afz.1 hp).1;obtain⟨p,hp,af⟩:=U3 aa.wf bd;have h3:=nQ (v:=b) am h2 ⟨p,Afz.2 ⟨hp,Aer.2 ⟨b,an,af⟩⟩,af⟩
    have h4:K5 neg (C7 b (ν b) (A7 q' rs)) ν:=(R4 am).2 (by
     have:Mu ν b (ν b)=ν:=by
      funext w;unfold Mu;split
      ·rename_i e;rw[e]
      ·rfl
     rw[this];exact h2)
    have:=b0.out.2 ⟨ν b,h3,ν,h4⟩;rw[this]at h;cases h
   ·refine⟨_,rfl,b7,rfl,fun h7=>?_,fun⟨ν,hν⟩=>bz.out.2 ⟨ν,oV (hR2.to ν hν)⟩⟩;obtain⟨n,-,ν1,hν1⟩:=b0.out.1 h;obtain⟨ν2,hν2⟩:=bz.out.1 h7;have am:WP (A7 q' rs):=fun p hp=>aa.w p (Afz.1 hp).1;obtain⟨ν',hν',-⟩:=hR2.back _ (Yy HC.out ((R4 am).1 hν1) hν2);exact⟨ν',hν'⟩
theorem Rf (neg:Int->Cc->Prop)(om ot:Nat)(M:MM)(d b:Int):∀(k:Nat) (V:List Int),V.length<=k->Sa neg om ot M d b V:=by
 intro k;induction k with
 |zero=>exact fun V hV=>Re neg om ot M d b V (fun V' h=>Agm)
 |succ k IH=>exact fun V hV=>Re neg om ot M d b V (fun V' h=>IH V' Agm)
end Go.Proofs.YtmoeoppbmhfbpaaGreatDoorD
