import Derived.Test.YtmoeoppbmhfbpabGreatDoorHNegA
set_option linter.all false
namespace Go.Proofs.YtmoeoppbmhfbpabGreatDoorH
set_option maxHeartbeats 64000000
open Go.Abs
set_option maxRecDepth 100000
structure Pi (q:Qry):Prop where
 ok:Ms q
 n:QN q
 w:WP q
 wf:eE q
theorem TrimR.ok {q q':Qry}(h:TrimR q q')(hq:Ms q):Ms q'/\q'.nots=q.nots/\∀p∈q'.parts,p∈q.parts:=by
 induction h with
 |refl=>exact⟨hq,rfl,fun p hp=>hp⟩
 |tail h ih=>exact⟨Zv ih.1,ih.2.1,fun p hp=>ih.2.2 p (List.mem_of_mem_eraseP hp)⟩
theorem uE {q q':Qry}(h:NarS q q')(hw:eE q):eE q':=fun v hv=>by
 obtain⟨e1,e2,e3⟩:=h.atoms;rw[e2,e3]at hv;obtain⟨p,hp,aa⟩:=hw v hv;have:p.a∈q'.parts.map (·.a):=by rw[e1];exact Acm.2 ⟨p,hp,rfl⟩
 obtain⟨p',h1,h2⟩:=Acm.1 this;exact⟨p',h1,by rw[h2];exact aa⟩
theorem RdS.fin {neg:Int->Ca->Prop}{q:Qry}{L:List Part}{Nn:List C3}(h:RdS neg q q.nots.length L Nn)(hA:Pi q):Pi ⟨q.head,L,Nn⟩/\Red neg q ⟨q.head,L,Nn⟩:=by
 have ab:∀a∈Nn,a∈q.nots:=fun a ha=>by
  have:=h.nsub.subset ha;rwa[Abn]at this
 have aa:=h.sol;rw[Abn]at aa;have ad:∀p∈q.parts,∃p'∈L,p'.a=p.a:=fun p hp=>by
  have:p.a∈L.map (·.a):=by rw[h.atm];exact Acm.2 ⟨p,hp,rfl⟩
  obtain⟨p',h1,h2⟩:=Acm.1 this;exact⟨p',h1,h2⟩
 refine⟨⟨⟨hA.ok.hd,?_,?_,fun p hp=>?_,fun p hp=>?_,fun p hp=>?_,fun a ha=>hA.ok.na a (ab a ha)⟩,fun p hp t ht=>?_,fun p hp=>?_,fun v hv=>?_⟩,rfl,fun a ha=>?_,fun ν hν=>(aa ν).1 hν,fun ν hν=>⟨ν,(aa ν).2 hν,fun _ _=>rfl⟩⟩
 ·have:=congrArg List.length h.atm;simp at this;rw[this];exact hA.ok.pl
 ·have:=h.nsub.length_le;rw[Abn]at this;exact Abc this hA.ok.nl
 ·obtain⟨p0,g1,g2,g3⟩:=h.sub p hp;rw[g2];exact hA.ok.pa p0 g1
 ·obtain⟨p0,g1,g2,g3⟩:=h.sub p hp;exact Abc g3.length_le (hA.ok.pt p0 g1)
 ·obtain⟨p0,g1,g2,g3⟩:=h.sub p hp;exact fun t ht=>hA.ok.p3 p0 g1 t (g3.subset ht)
 ·obtain⟨p0,g1,g2,g3⟩:=h.sub p hp;rw[g2];exact hA.n p0 g1 t (g3.subset ht)
 ·obtain⟨p0,g1,g2,g3⟩:=h.sub p hp;rw[g2];exact⟨(hA.w p0 g1).1,fun t ht=>(hA.w p0 g1).2 t (g3.subset ht)⟩
 ·obtain⟨p,hp,ac⟩:=hA.wf v (by
   rcases hv with hv|⟨a,ha,hv⟩
   ·exact .inl hv
   ·exact .inr ⟨a,ab a ha,hv⟩)
  obtain⟨p',h1,h2⟩:=ad p hp;exact⟨p',h1,by rw[h2];exact ac⟩
 ·unfold atomsQ at ha⊢;simp only[Ace,Ack]at ha⊢;rcases ha with ha|ha|ha
  ·exact .inl ha
  ·rw[h.atm]at ha;exact .inr (.inl ha)
  ·exact .inr (.inr (ab a ha))
theorem PS.gx {lo:Nat}{l:St}{x:AV}{n:Nat}{pc:List AV}(h:PS lo l x n pc)(hn:0<n):∃o cap,x=Abs.gx o n cap/\lo<=o/\o<l.nobj/\(l.obj o).length=cap*3/\n<=cap/\(l.obj o).take (n*3)=pc:=by
 rcases h with⟨-,h,-⟩|⟨o,cap,h1,h2,h3,h4,h5,h6,h7⟩
 ·omega
 ·exact⟨o,cap,h1,h6,h7,h4,h3,h5⟩
def NegOk (neg:Int->Ca->Prop)(M:MM)(q:Qry):Prop:=∀a∈q.nots,∃(k:Nat) (x:Nat×List Ca),a.p=(k:Int)/\M[k]?=some x/\∀t,neg a.p t↔t∈x.2
def Aba (neg:Int->Ca->Prop)(q:Qry)(x:AV):Prop:=∃c',(x=tp [ag c',sc (.bool false)]/\c'.length=4/\c'.all flat=true/\∀ν,¬J1 neg q ν)\/∃q',x=tp [ag c',sc (.bool true)]/\EQ q' c'/\Pi q'/\NE q'/\Red neg q q'/\∀a∈q'.nots,a∈q.nots/\H1 a.ts=false
theorem Wo (neg:Int->Ca->Prop)(q:Qry)(c:List AV)(om ot:Nat)(M:MM)(d b:Int)(hc:EQ q c)(hA:Pi q)(dy:NegOk neg M q)(l:St)(hM:MOb l om ot M d b):ACalls Tryz.prog 186 [ptr om 0,ag c] l fun r l'=>Aba neg q r/\Keep l l':=by
 obtain⟨ih,ip,inn,pc,nc,rfl,hP,co⟩:=hc;have hpl:=EL.length Dx hP;have d8:=EL.length G4 co;have hl:=hA.ok.pl;have ec:=hA.ok.nl;have dh:=hA.ok.na;have HM:Ad8 (MOb l om ot M d b):=hM;clear hM;refine Z9 86 [.cell 4 191,.tmp 5] Tryz.func186 ?_
 repeat' (first|refine Z1 ?_|(refine Z8 ?_;intro κ hκ)|(refine Z4 ?_;clear hκ κ)|(refine Z2 ?_ ?_<;>intro h ae<;>try exact Xp)|(refine Z6 ?_;intro idn ln ao am af aa ah ab)|refine Z3 ?_|exact⟨⟩|(apply hκ.out;clear hκ κ))
 refine Ad (fun m s l'=>∃(i:Nat) (X:AV) (xs:List AV),m=q.parts.length-i/\i<=q.parts.length/\s 0=ptr om 0/\s 3=ptr l.nobj 0/\s 4=ptr (l.nobj+1) 0/\s 6=ptr (l.nobj+2) 0/\s 18=sl ip q.parts.length pc/\s 19=ic q.parts.length/\s 20=ic i/\Keep l l'/\l.nobj+2<l'.nobj/\l'.obj l.nobj=[ic q.head.p,sl ih q.head.ts.length (Ac q.head.ts),sl ip q.parts.length pc,sl inn q.nots.length nc]/\l'.obj (l.nobj+1)=[ic 0,nilS,nilS,nilS]/\l'.obj (l.nobj+2)=[ic q.head.p,sl ih q.head.ts.length (Ac q.head.ts),X,nilS]/\PS (l.nobj+3) l' X i xs/\Ad8 (EL Ky (q.parts.take i) xs)) q.parts.length
  ⟨0,nilS,[],Ad2,Ad2,by simp[upd,initS],Ad4,Ad4,Ad4,Ad4,Ad4,rfl,Xs,Ad7,?_,?_,?_,.inl ⟨rfl,rfl,rfl⟩,rfl⟩ ?_
 ·rw[Ai Ad2,Ae Ad6,Ae Ad6,Am]
 ·rw[Ai Ad2,Ae Ad6,Bp Ad6 Ad6]
 ·rw[show l.nobj+2=l.nobj+1+1 from rfl,Aj]
 rintro m s l' ⟨i,X,xs,rfl,hi,h0,h3,h4,h6,d5,d4,d3,hK,ay,cz,ar,ap,hX,hE⟩;have a0:=hK.nobj;have ch:=hX.flat;by_cases au:i<q.parts.length
 ·have ad:=List.getElem?_eq_getElem au;obtain⟨id,idt,r,hd⟩:=Ek hP ad;generalize q.parts[i]=w at hd ad;have HX:Ad8 (EL Ky (q.parts.take (i+1)) (xs++[ic w.a.p,sl id w.a.ts.length (Ac w.a.ts),sl idt w.tups.length (D9 w.tups)])):=by
   rw[Ad8,Abq,ad,Ac2];exact EL.append hE.out (EL.single ⟨id,idt,rfl⟩)
  clear ad hE
  repeat' (first|refine Z1 ?_|(refine Z8 ?_;intro κ hκ)|(refine Z4 ?_;clear hκ κ)|(refine Z2 ?_ ?_<;>intro h ae<;>try exact Xp)|(refine Z6 ?_;intro idn ln ao am af aa ah ab)|refine Z3 ?_|exact⟨⟩|(apply hκ.out;clear hκ κ))
  refine lD (lo:=l.nobj+3) (σ0:=l) (by first|exact Er|exact Dh) (by rfl) (by rfl) (by rfl) Ad2 Ad2 (by simp only[Ah,Ab,Aa];omega) Ad2 (((hK.new _).put hK.nobj _).lay 1) (hX.keep ((((Keep.refl _).new _).put (Abb _) _).lay 1)) ?_;intro X' ln cm di a9 am;simp only[Ah,Ab,Aa]at di;have eob:∀p,p<l.nobj+3->ln.obj p=l'.obj p:=fun p hp=>by rw[a9 p hp,As,Ai Ad2,Ae Ad2]
  obtain⟨og,cg,rfl,-⟩:=cm.gx Ad2;clear a9 hX;refine Z3 ?_
  repeat' (first|refine Z1 ?_|(refine Z8 ?_;intro κ hκ)|(refine Z4 ?_;clear hκ κ)|(refine Z2 ?_ ?_<;>intro h ae<;>try exact Xp)|(refine Z6 ?_;intro idn ln ao am af aa ah ab)|refine Z3 ?_|exact⟨⟩|(apply hκ.out;clear hκ κ))
  refine⟨q.parts.length-(i+1),Ad2,i+1,gx og (i+1) cg,xs++[ic w.a.p,sl id w.a.ts.length (Ac w.a.ts),sl idt w.tups.length (D9 w.tups)],?_⟩
  ((repeat' with_reducible refine And.intro ?_ ?_)<;>first|exact Xq|exact (am.put Ad2 _)|exact (cm.put Ad2 _)|exact (HX)|exact Xs)
 ·have dl:i=q.parts.length:=Ad2;subst dl;rw[Abn]at hE;have dt:=hA.ok.pa;have bf:=hA.ok.pt;have du:=hA.ok.p3;have b8:Ad8 (EL Ky q.parts xs/\EL Lk [] []/\RdS neg q 0 q.parts []):=⟨hE.out,rfl,RdS.start neg q⟩;clear hE hi
  repeat' (first|refine Z1 ?_|(refine Z8 ?_;intro κ hκ)|(refine Z4 ?_;clear hκ κ)|(refine Z2 ?_ ?_<;>intro h ae<;>try exact Xp)|(refine Z6 ?_;intro idn ln ao am af aa ah ab)|refine Z3 ?_|exact⟨⟩|(apply hκ.out;clear hκ κ))
  refine Ad (fun m s l'=>∃(k i4:Nat) (X:AV) (L:List Part) (Nn:List C3) (xs nxs:List AV),m=q.nots.length-k/\k<=q.nots.length/\s 0=ptr om 0/\s 4=ptr (l.nobj+1) 0/\s 6=ptr (l.nobj+2) 0/\s 32=sl inn q.nots.length nc/\s 33=ic q.nots.length/\s 34=ic k/\Keep l l'/\l.nobj+2<l'.nobj/\l'.obj (l.nobj+1)=[ic 0,nilS,nilS,nilS]/\l'.obj (l.nobj+2)=[ic q.head.p,sl ih q.head.ts.length (Ac q.head.ts),X,sl i4 Nn.length nxs]/\PS (l.nobj+3) l' X L.length xs/\Own l l' i4 Nn.length/\nxs.length=Nn.length*2/\Nn.length<=k/\L.length<=64/\Ad8 (EL Ky L xs/\EL Lk Nn nxs/\RdS neg q k L Nn)) q.nots.length
   ⟨0,1,X,q.parts,[],xs,[],Ad2,Ad2,Ad3,Ad3,Ad3,Ad3,Ad3,Ad4,hK,ay,ar,ap,hX,Own.nil _ _,by simp,by simp,hl,b8⟩ ?_
  clear h0 h3 h4 h6 d5 d4 d3 hK ay cz ar ap hX ch a0 au b8;rintro m s l' ⟨k,i4,X,L,Nn,xs,nxs,rfl,hk,h0,h4,h6,d2,cw,cv,hK,ay,ar,ap,hX,hO,de,eg,cp,hS⟩;have a0:=hK.nobj;have ch:=hX.flat;by_cases au:k<q.nots.length
  ·have ad:=List.getElem?_eq_getElem au;obtain⟨ida,r,hd⟩:=Ib co ad;have aj:=Acz au;have bn:=dh _ aj;obtain⟨ka,x,bc,hx,b0⟩:=dy _ aj;generalize q.nots[k]=a at hd ad aj bn bc b0;have cq:∀p∈L,p.a.ts.length<=3/\p.tups.length<=5000/\T3 p.tups:=fun p hp=>by
    obtain⟨p0,g1,g2,g3⟩:=hS.out.2.2.sub p hp;exact⟨by rw[g2];exact dt p0 g1,Abc g3.length_le (bf p0 g1),fun t ht=>du p0 g1 t (g3.subset ht)⟩
   have HG:Ad8 (q.nots[k]?=some a/\a∈q.nots/\a.p=(ka:Int)/\M[ka]?=some x/\∀t,neg a.p t↔t∈x.2):=⟨ad,aj,bc,hx,b0⟩;have bf:=fun (l1:St) (hh:PS (l.nobj+3) l1 X L.length xs)=>gS (l.nobj+3) (ic q.head.p) (sl ih q.head.ts.length (Ac q.head.ts)) (sl i4 Nn.length nxs) rfl L (fun p hp=>(cq p hp).1) cp X xs hS.out.1 a ida bn l1 hh;have be:=fun (l1:St)=>L3 a.p ida a.ts Ad2 l1;have ct:=fun (l1:St) (hh:Keep l l1)=>Hq om ot M d b a ida ka x bn bc hx l1 (HM.out.keep hh);have bi:=fun (p:Part) (idp idtp:Nat) (g1:p.a.ts.length<=3) (g2:p.tups.length<=5000) (g3:T3 p.tups) (l1:St) (hh:Keep l l1)=>Yp om ot M d b p a idp idtp ida ka x g1 g2 g3 bn bc hx l1 (HM.out.keep hh);have ax:Ad8 _:=bi;clear ad aj bc hx b0 bi
   repeat' (first|refine Z1 ?_|(refine Z8 ?_;intro κ hκ)|(refine Z4 ?_;clear hκ κ)|(refine Z2 ?_ ?_<;>intro h ae<;>try exact Xp)|(refine Z6 ?_;intro idn ln ao am af aa ah ab)|(refine Z5 ?_;refine Xi (bf _ (hX.keep (((Keep.refl _).new _).put (Abb _) _))) ?_;rintro _ _ ⟨(⟨i,p,rfl,hp,ca⟩|⟨rfl,d7⟩),ai⟩)|refine Z3 ?_|exact⟨⟩|(apply hκ.out;clear hκ κ))
   ·rename_i l2;have ak:=ai.nobj;have ac:=ai.obj;simp only[Ab,Aa]at ak ac;have br:=((hK.new _).put hK.nobj _).trans ai;have o10:=ac l'.nobj Ad2;rw[Aj]at o10;have hi:i<L.length:=(List.getElem?_eq_some_iff.1 hp).1;obtain⟨cb,bw,db⟩:=cq p (Abh hp);have bd:=(hX.keep (((Keep.refl _).new _).put (Abb _) _)).keep ai;obtain⟨o,cap,rfl,eb,cf,cj,ef,b7⟩:=bd.gx Ad2;obtain⟨idp,idtp,rp,ci⟩:=Ek hS.out.1 hp;have b4:=EL.length Dx hS.out.1;have dd:(l2.obj o).drop (i*3)=ic p.a.p::sl idp p.a.ts.length (Ac p.a.ts)::sl idtp p.tups.length (D9 p.tups)::(rp++(l2.obj o).drop (L.length*3)):=by
     conv=>lhs;rw[<-Ac8 (L.length*3) (l2.obj o),b7]
     rw[List.drop_append_of_le_length (by rw[b4];omega),ci];rfl
    have o6:l2.obj (l.nobj+2)=[ic q.head.p,sl ih q.head.ts.length (Ac q.head.ts),gx o L.length cap,sl i4 Nn.length nxs]:=by rw[ac _ Ad2,Ai Ad2,Ae Ad2,ap]
    have o4:l2.obj (l.nobj+1)=[ic 0,nilS,nilS,nilS]:=by rw[ac _ Ad2,Ai Ad2,Ae Ad2,ar]
    have bo:Own l l2 i4 Nn.length:=Own.keep (Own.put (Own.new hO _) _ _) ai;have cu:=ax.out p idp idtp cb bw db;have az:Ad8 (∀idn,EL Ky (L.set i (Mp x.2 a p)) (lsp xs (i*3) [ic p.a.p,sl idp p.a.ts.length (Ac p.a.ts),sl idn (Mp x.2 a p).tups.length (D9 (Mp x.2 a p).tups)])/\EL Lk Nn nxs/\RdS neg q (k+1) (L.set i (Mp x.2 a p)) Nn):=fun idn=>⟨tU Dx hS.out.1 hi ⟨idp,idn,rfl⟩,hS.out.2.1,hS.out.2.2.bar HG.out.1 hp cb ca HG.out.2.2.2.2⟩;have ee:i*3+3<=cap*3:=Ad2;have dc:o≠l.nobj+2:=Ad2;have bz:o≠l.nobj+1:=Ad2;clear b7 ci b4 ax hS ar ap hX bf be ct ac hK ay hO ca hp h ae;generalize Mp x.2 a p=bp at*
    refine Br (Q:=fun e s' l''=>e= .normal/\s' 0=ptr om 0/\s' 4=ptr (l.nobj+1) 0/\s' 6=ptr (l.nobj+2) 0/\s' 32=sl inn q.nots.length nc/\s' 33=ic q.nots.length/\s' 34=ic k/\Keep l l''/\l.nobj+2<l''.nobj/\l''.obj (l.nobj+1)=[ic 0,nilS,nilS,nilS]/\l''.obj (l.nobj+2)=[ic q.head.p,sl ih q.head.ts.length (Ac q.head.ts),gx o L.length cap,sl i4 Nn.length nxs]/\Own l l'' i4 Nn.length/\∃idn,PS (l.nobj+3) l'' (gx o L.length cap) L.length (lsp xs (i*3) [ic p.a.p,sl idp p.a.ts.length (Ac p.a.ts),sl idn bp.tups.length (D9 bp.tups)])) ?_ ?_
    ·refine A4 Ak (fun _=>True) [12] [0,1,2,3,4,5,6,7,8,9] 3 #[true,true,true,true,true,true,true,true,true,true,false,false,false] Ad5 (fun _ _ _ h=>by cases h.1) ?_;intro κ hκ;refine Z3 ?_;refine hκ.out _ ?_;clear hκ κ;refine Al (i:=10) Ad5 ?_;refine Aq ?_;intro κ hκ;refine Z3 ?_;refine ACalls.mono (cu _ br) ?_;rintro _ l5 ⟨⟨idn,rfl⟩,an⟩;have knb:=an.nobj;have bl:=an.obj;have dm:(l5.obj o).length=cap*3:=by rw[bl o cf,cj]
     refine Z3 ?_;refine hκ.out _ _ ⟨Ao an,?_⟩;clear hκ κ;refine Al (i:=11) Ad5 ?_;refine Aq ?_;intro κ hκ;refine Z3 ?_;refine hκ.out _ _ ⟨Ao an,?_⟩;clear hκ κ;refine Al (i:=12) Ad5 ?_;refine Aq ?_;intro κ hκ;refine Z3 ?_;refine hκ.out _ _ ⟨Bo rfl,?_⟩;clear hκ κ;refine A7 Ad5 ⟨rfl,Ad3,Ad3,Ad3,Ad3,Ad3,Ad3,(br.trans an).put Ad2 _,by simp only[Ab];omega,by rw[C4 bz.symm,bl _ Ad2,o4],by rw[C4 dc.symm,bl _ Ad2,o6],Own.put (Own.keep bo an) _ _,idn,by rw[<-bl o cf];exact PS.set (c:=[ic p.a.p,sl idp p.a.ts.length (Ac p.a.ts),sl idn bp.tups.length (D9 bp.tups)]) (bd.keep an) hi rfl⟩
    ·rintro e s2 l3 ⟨rfl,g0,g4,g6,g32,g33,g34,eh,ea,oc1,oc2,dw,idn,dr⟩;have cx:=az.out idn;have d6:Ad8 _:=cx;clear h0 h4 h6 d2 cw cv bd bo o6 o4 dd az cx cu cj o10
     repeat' (first|refine Z1 ?_|(refine Z8 ?_;intro κ hκ)|(refine Z4 ?_;clear hκ κ)|(refine Z2 ?_ ?_<;>intro h ae<;>try exact Xp)|(refine Z6 ?_;intro idn ln ao am af aa ah ab)|refine Z3 ?_|exact⟨⟩|(apply hκ.out;clear hκ κ))
     refine⟨q.nots.length-(k+1),Ad2,k+1,i4,gx o L.length cap,L.set i bp,Nn,lsp xs (i*3) [ic p.a.p,sl idp p.a.ts.length (Ac p.a.ts),sl idn bp.tups.length (D9 bp.tups)],nxs,?_⟩
     ((repeat' with_reducible refine And.intro ?_ ?_)<;>first|exact Xq|exact (by rw[Adq];exact dr)|exact (by rw[Adq];exact cp)|exact (d6)|exact (dw)|exact Xs)
   ·rename_i l2;have ak:=ai.nobj;have ac:=ai.obj;simp only[Ab,Aa]at ak ac;have br:=((hK.new _).put hK.nobj _).trans ai;have o10:=ac l'.nobj Ad2;rw[Aj]at o10;have o6:l2.obj (l.nobj+2)=[ic q.head.p,sl ih q.head.ts.length (Ac q.head.ts),X,sl i4 Nn.length nxs]:=by rw[ac _ Ad2,Ai Ad2,Ae Ad2,ap]
    have o4:l2.obj (l.nobj+1)=[ic 0,nilS,nilS,nilS]:=by rw[ac _ Ad2,Ai Ad2,Ae Ad2,ar]
    have bo:Own l l2 i4 Nn.length:=Own.keep (Own.put (Own.new hO _) _ _) ai;have bd:=(hX.keep (((Keep.refl _).new _).put (Abb _) _)).keep ai;clear ax ar ap hX bf ac hK hO ai
    repeat' (first|refine Z1 ?_|(refine Z8 ?_;intro κ hκ)|(refine Z4 ?_;clear hκ κ)|(refine Z2 ?_ ?_<;>intro h ae<;>try exact Xp)|(refine Z6 ?_;intro idn ln ao am af aa ah ab)|(refine Z5 ?_;first|(refine Xi (be _) ?_;rintro _ _ ⟨rfl,an⟩;(have c6:=an.nobj;have av:=an.obj;have cr:=br.trans an;have o11:=av l'.nobj Ad2;rw[o10]at o11;have o12:=av (l.nobj+2) Ad2;rw[o6]at o12;have o13:=av (l.nobj+1) Ad2;rw[o4]at o13;have dx:=Own.keep bo an;have ck:=bd.keep an))|(refine Xi (ct _ cr) ?_;rintro _ _ ⟨rfl,bh⟩;(have c5:=bh.nobj;have bu:=bh.obj;have d1:=cr.trans bh)))|refine Z3 ?_|exact⟨⟩|(apply hκ.out;clear hκ κ))
    ·have az:Ad8 (EL Ky L xs/\EL Lk (Nn++[a]) (nxs++[ic a.p,sl ida a.ts.length (Ac a.ts)])/\RdS neg q (k+1) L (Nn++[a])):=⟨hS.out.1,EL.append hS.out.2.1 (EL.single ⟨ida,rfl⟩),hS.out.2.2.keepN HG.out.1 (by assumption)⟩;have dn:PS (l.nobj+3) ln X L.length xs:=by
      have:=ck;unfold PS at this⊢;rw[af,aa];exact this
     refine⟨q.nots.length-(k+1),Ad2,k+1,idn,X,L,Nn++[a],xs,nxs++[ic a.p,sl ida a.ts.length (Ac a.ts)],?_⟩
     ((repeat' with_reducible refine And.intro ?_ ?_)<;>first|exact Xq|exact (am.put Ad2 _)|exact (dn.put Ad2 _)|exact (by simpa using Own.put ao _ _)|exact (az)|exact Xs)
    ·have bv:H1 a.ts=true:=by assumption
     exact⟨_,rfl,⟨_,.inl ⟨rfl,rfl,rfl,fun ν hν=>hν.2 a HG.out.2.1 ((HG.out.2.2.2.2 _).2 (by rw[Ng bv];simpa using h))⟩⟩,d1.put Ad2 _⟩
    ·have bv:H1 a.ts=true:=by assumption
     have az:Ad8 (EL Ky L xs/\EL Lk Nn nxs/\RdS neg q (k+1) L Nn):=⟨hS.out.1,hS.out.2.1,hS.out.2.2.drop HG.out.1 (fun ν hn=>by
      have:=(HG.out.2.2.2.2 _).1 hn;rw[Ng bv]at this
      simp[this]at h)⟩
     refine⟨q.nots.length-(k+1),Ad2,k+1,i4,X,L,Nn,xs,nxs,?_⟩
     ((repeat' with_reducible refine And.intro ?_ ?_)<;>first|exact Xq|exact (ck.keep bh)|exact (Own.keep dx bh)|exact (az)|exact (by rw[bu _ Ad2];assumption)|exact Xs)
  ·have dj:k=q.nots.length:=Ad2;subst dj;obtain⟨aw,dq⟩:=hS.out.2.2.fin hA;have HU:Ad8 (∀a∈Nn,a∈q.nots/\H1 a.ts=false):=fun a ha=>⟨by have:=hS.out.2.2.nsub.subset ha;rwa[Abn]at this,hS.out.2.2.uns a ha⟩;refine dP (lo:=l.nobj+3) (p:=l.nobj+2) (j:=2) hK Ad2 Ad2 Ad2 Ad2 hX ap rfl ?_;intro ip1 lf b2 d9 obf cd;have obf2:lf.obj (l.nobj+2)=[ic q.head.p,sl ih q.head.ts.length (Ac q.head.ts),sl ip1 L.length xs,sl i4 Nn.length nxs]:=obf;have o1f:lf.obj (l.nobj+1)=[ic 0,nilS,nilS,nilS]:=by rw[cd _ Ad2 Ad2,ar]
   have df:l.nobj+2<lf.nobj:=Ad2;have bg:=fun l=>nS ⟨q.head,L,Nn⟩ [ic q.head.p,sl ih q.head.ts.length (Ac q.head.ts),sl ip1 L.length xs,sl i4 Nn.length nxs] ⟨ih,ip1,i4,xs,nxs,rfl,hS.out.1,hS.out.2.1⟩ aw.ok aw.n l;clear hX ar ap hK hS hO de hk cd obf ay au a0;have a0:=b2.nobj
   repeat' (first|refine Z1 ?_|(refine Z8 ?_;intro κ hκ)|(refine Z4 ?_;clear hκ κ)|(refine Z2 ?_ ?_<;>intro h ae<;>try exact Xp)|(refine Z6 ?_;intro idn ln ao am af aa ah ab)|(refine Z5 ?_;refine Xi (bg _) ?_;rintro _ _ ⟨⟨_,q1,qp,rfl,⟨ih1,ip1,in1,pc1,nc1,rfl,b1,d0⟩,n1,n2,n3,n4⟩,ai⟩;(have N3:Ad8 (q1=eJ qp (Cb (atomsQ qp))):=n3;clear n3;have ak:=ai.nobj;have ac:=ai.obj;have bq:=b2.trans ai))|refine Z3 ?_|exact⟨⟩|(apply hκ.out;clear hκ κ))
   rename_i l1;have o1:l1.obj (l.nobj+1)=[ic 0,nilS,nilS,nilS]:=by rw[ac _ Ad2,o1f]
   have b5:WP q1:=n2.wp aw.w;have bm:Ms q1:=n2.ok aw.ok;have ce:QN q1:=n2.n aw.n;have ba:q1.nots=Nn:=n2.atoms.2.2;have b9:Red neg q q1:=dq.trans (n2.red aw.w);have a8:eE q1:=uE n2 aw.wf;have bb:Nrw q1:=by
    obtain⟨g1,g2⟩:=(aS (Cb (atomsQ qp)) qp).2 (by rw[<-N3.out];exact n4);rw[N3.out,g1];exact yW g2
   have b3:Ad8 (WP q1/\Ms q1/\QN q1/\q1.nots=Nn/\Red neg q q1/\eE q1/\Nrw q1):=⟨b5,bm,ce,ba,b9,a8,bb⟩;clear b5 ce ba b9 a8 bb n1 n2 N3 n4 ac ai bg;have ed:=bm.pl;have c8:=bm.pt;clear bm;have da:=EL.length Dx b1
   refine Ad (fun m s l2=>∃j:Nat,m=q1.parts.length-j/\j<=q1.parts.length/\s 4=ptr (l.nobj+1) 0/\s 6=ptr (l.nobj+2) 0/\s 72=sl ip1 q1.parts.length pc1/\s 73=ic q1.parts.length/\s 74=ic j/\Keep l l2/\l.nobj+2<l2.nobj/\l2.obj (l.nobj+1)=[ic 0,nilS,nilS,nilS]/\l2.obj (l.nobj+2)=[ic q1.head.p,sl ih1 q1.head.ts.length (Ac q1.head.ts),sl ip1 q1.parts.length pc1,sl in1 q1.nots.length nc1]/\Ad8 (∀p∈q1.parts.take j,p.tups≠[])) q1.parts.length
    ⟨0,Ad2,Ad2,Ad3,Ad3,Ad4,Ad4,rfl,bq.put Ad2 _,by simp only[Ab];omega,by rw[Ai Ad2,o1],by rw[Aj],by simp[Ad8]⟩ ?_
   clear h4 h6 cw cv o1 bq ak b2;rintro m s l2 ⟨j,rfl,hj,h4,h6,ek,ej,ei,hK,ay,ar,ap,hJ⟩;have a0:=hK.nobj;by_cases au:j<q1.parts.length
   ·have ad:=List.getElem?_eq_getElem au;obtain⟨id,idt,r,hd⟩:=Ek b1 ad;have aj:=Acz au;have c7:=c8 _ aj;generalize q1.parts[j]=w at hd ad aj c7;by_cases he:w.tups=[]
    ·have b6:w.tups.length=0:=by rw[he];rfl
     have HF:Ad8 (∀ν,¬J1 neg q ν):=fun ν hν=>by
      have h1:=(b3.out.2.2.2.2.1.to ν hν).1 w aj;rw[he]at h1;cases h1
     have hb:((w.tups.length:Int)==0)=true:=by rw[b6];rfl
     clear ad b6 he hJ
     repeat' (first|refine Z1 ?_|(refine Z8 ?_;intro κ hκ)|(refine Z4 ?_;clear hκ κ)|(refine Z2 ?_ ?_<;>intro h ae<;>try exact Xp)|(refine Z6 ?_;intro idn ln ao am af aa ah ab)|refine Z3 ?_|exact⟨⟩|(apply hκ.out;clear hκ κ))
     exact⟨_,rfl,⟨_,.inl ⟨rfl,rfl,rfl,HF.out⟩⟩,((hK.new _).put hK.nobj _).put Ad2 _⟩
    ·have hb:((w.tups.length:Int)==0)=false:=by
      have:w.tups.length≠0:=fun h=>he (Abl h);simp;exact he
     have HJ:Ad8 (∀p∈q1.parts.take (j+1),p.tups≠[]):=by
      rw[Ad8,Abq,ad,Ac2];intro p hp;rcases Ack.1 hp with h|h
      ·exact hJ.out p h
      ·simp at h;subst h;exact he
     clear ad he hJ
     repeat' (first|refine Z1 ?_|(refine Z8 ?_;intro κ hκ)|(refine Z4 ?_;clear hκ κ)|(refine Z2 ?_ ?_<;>intro h ae<;>try exact Xp)|(refine Z6 ?_;intro idn ln ao am af aa ah ab)|refine Z3 ?_|exact⟨⟩|(apply hκ.out;clear hκ κ))
     refine⟨q1.parts.length-(j+1),Ad2,j+1,?_⟩
     ((repeat' with_reducible refine And.intro ?_ ?_)<;>first|exact Xq|exact (HJ)|exact Xs)
   ·have dk:j=q1.parts.length:=Ad2;subst dk;rw[Abn]at hJ;obtain⟨a1,a2,a3,a4,a5,a6,a7⟩:=b3.out;have dp:=fun l=>gQ q1 _ ⟨ih1,ip1,in1,pc1,nc1,rfl,b1,d0⟩ a2 l;have cy:Ad8 (NE q1):=hJ.out;clear a1 a2 a3 a4 a5 a6 a7 hJ
    repeat' (first|refine Z1 ?_|(refine Z8 ?_;intro κ hκ)|(refine Z4 ?_;clear hκ κ)|(refine Z2 ?_ ?_<;>intro h ae<;>try exact Xp)|(refine Z6 ?_;intro idn ln ao am af aa ah ab)|(refine Z5 ?_;refine Xi (dp _) ?_;rintro _ _ ⟨⟨_,q2,rfl,⟨ih2,ip2,in2,pc2,nc2,rfl,dv,dz⟩,c9,cn⟩,ai⟩;(have ak:=ai.nobj;have ac:=ai.obj;have bq:=hK.trans ai))|refine Z3 ?_|exact⟨⟩|(apply hκ.out;clear hκ κ))
    obtain⟨a1,a2,a3,a4,a5,a6,a7⟩:=b3.out;obtain⟨t1,t2,t3⟩:=cn.red (neg:=neg) a1 cy.out a7;obtain⟨-,u2,u3⟩:=cn.ok a2;exact⟨_,rfl,⟨_,.inr ⟨q2,rfl,⟨ih2,ip2,in2,pc2,nc2,rfl,dv,dz⟩,⟨c9,fun p hp=>a3 p (u3 p hp),fun p hp=>a1 p (u3 p hp),t3 a6⟩,fun p hp=>cy.out p (u3 p hp),a5.trans t1,fun a ha=>HU.out a (by rw[<-a4,<-u2];exact ha)⟩⟩,bq.put Ad2 _⟩
end Go.Proofs.YtmoeoppbmhfbpabGreatDoorH
