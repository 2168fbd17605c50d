import Derived.Test.YtmoeoppbmhfbpabGreatDoorGNegB
set_option maxHeartbeats 64000000
set_option maxRecDepth 100000
set_option linter.all false
namespace Go.Proofs.YtmoeoppbmhfbpabGreatDoorG
open Go.Abs
structure Qc (q:Qry):Prop where
 ok:Nx q
 n:QN q
 w:WP q
 wf:fX q
theorem TrimR.ok {q q':Qry}(h:TrimR q q')(hq:Nx q):Nx q'/\q'.nots=q.nots/\∀p∈q'.parts,p∈q.parts:=by
 induction h with
 |refl=>exact⟨hq,rfl,fun p hp=>hp⟩
 |tail h ih=>exact⟨bM ih.1,ih.2.1,fun p hp=>ih.2.2 p (List.mem_of_mem_eraseP hp)⟩
theorem xB {q q':Qry}(h:NarS q q')(hw:fX q):fX q':=fun v hv=>by
 obtain⟨e1,e2,e3⟩:=h.atoms;rw[e2,e3]at hv;obtain⟨p,hp,aa⟩:=hw v hv;have:p.a∈q'.parts.map (·.a):=by rw[e1];exact Aey.2 ⟨p,hp,rfl⟩
 obtain⟨p',h1,h2⟩:=Aey.1 this;exact⟨p',h1,by rw[h2];exact aa⟩
theorem RdS.fin {neg:Int->Ca->Prop}{q:Qry}{L:List Part}{Nn:List C4}(h:RdS neg q q.nots.length L Nn)(hA:Qc q):Qc ⟨q.head,L,Nn⟩/\Red neg q ⟨q.head,L,Nn⟩:=by
 have ab:∀a∈Nn,a∈q.nots:=fun a ha=>by
  have:=h.nsub.subset ha;rwa[Adz]at this
 have aa:=h.sol;rw[Adz]at aa;have ad:∀p∈q.parts,∃p'∈L,p'.a=p.a:=fun p hp=>by
  have:p.a∈L.map (·.a):=by rw[h.atm];exact Aey.2 ⟨p,hp,rfl⟩
  obtain⟨p',h1,h2⟩:=Aey.1 this;exact⟨p',h1,h2⟩
 refine⟨⟨⟨hA.ok.hd,?_,?_,fun p hp=>?_,fun p hp=>?_,fun p hp=>?_,fun a ha=>hA.ok.na a (ab a ha)⟩,fun p hp t ht=>?_,fun p hp=>?_,fun v hv=>?_⟩,rfl,fun a ha=>?_,fun ν hν=>(aa ν).1 hν,fun ν hν=>⟨ν,(aa ν).2 hν,fun _ _=>rfl⟩⟩
 ·have:=congrArg List.length h.atm;simp at this;rw[this];exact hA.ok.pl
 ·have:=h.nsub.length_le;rw[Adz]at this;exact Ado this hA.ok.nl
 ·obtain⟨p0,g1,g2,g3⟩:=h.sub p hp;rw[g2];exact hA.ok.pa p0 g1
 ·obtain⟨p0,g1,g2,g3⟩:=h.sub p hp;exact Ado g3.length_le (hA.ok.pt p0 g1)
 ·obtain⟨p0,g1,g2,g3⟩:=h.sub p hp;exact fun t ht=>hA.ok.p3 p0 g1 t (g3.subset ht)
 ·obtain⟨p0,g1,g2,g3⟩:=h.sub p hp;rw[g2];exact hA.n p0 g1 t (g3.subset ht)
 ·obtain⟨p0,g1,g2,g3⟩:=h.sub p hp;rw[g2];exact⟨(hA.w p0 g1).1,fun t ht=>(hA.w p0 g1).2 t (g3.subset ht)⟩
 ·obtain⟨p,hp,ac⟩:=hA.wf v (by
   rcases hv with hv|⟨a,ha,hv⟩
   ·exact .inl hv
   ·exact .inr ⟨a,ab a ha,hv⟩)
  obtain⟨p',h1,h2⟩:=ad p hp;exact⟨p',h1,by rw[h2];exact ac⟩
 ·unfold atomsQ at ha⊢;simp only[Aeq,Aew]at ha⊢;rcases ha with ha|ha|ha
  ·exact .inl ha
  ·rw[h.atm]at ha;exact .inr (.inl ha)
  ·exact .inr (.inr (ab a ha))
theorem PS.gx {lo:Nat}{l:St}{x:AV}{n:Nat}{pc:List AV}(h:PS lo l x n pc)(hn:0<n):∃o cap,x=Abs.gx o n cap/\lo<=o/\o<l.nobj/\(l.obj o).length=cap*3/\n<=cap/\(l.obj o).take (n*3)=pc:=by
 rcases h with⟨-,h,-⟩|⟨o,cap,h1,h2,h3,h4,h5,h6,h7⟩
 ·omega
 ·exact⟨o,cap,h1,h6,h7,h4,h3,h5⟩
def NegOk (neg:Int->Ca->Prop)(M:MM)(q:Qry):Prop:=∀a∈q.nots,∃(k:Nat) (x:Nat×List Ca),a.p=(k:Int)/\M[k]?=some x/\∀t,neg a.p t↔t∈x.2
def Adm (neg:Int->Ca->Prop)(q:Qry)(x:AV):Prop:=∃c',(x=tp [ag c',sc (.bool false)]/\c'.length=4/\c'.all flat=true/\∀ν,¬Kq neg q ν)\/∃q',x=tp [ag c',sc (.bool true)]/\EQ q' c'/\Qc q'/\NE q'/\Red neg q q'/\∀a∈q'.nots,a∈q.nots/\Ih a.ts=false
theorem Yd (neg:Int->Ca->Prop)(q:Qry)(c:List AV)(om ot:Nat)(M:MM)(d b:Int)(hc:EQ q c)(hA:Qc q)(dy:NegOk neg M q)(l:St)(hM:MOb l om ot M d b):ACalls Tryz.prog 186 [ptr om 0,ag c] l fun r l'=>Adm neg q r/\Keep l l':=by
 obtain⟨ih,ip,inn,pc,nc,rfl,hP,cp⟩:=hc;have hpl:=EL.length D3 hP;have d8:=EL.length Hk cp;have hl:=hA.ok.pl;have ec:=hA.ok.nl;have dh:=hA.ok.na;have HM:Agt (MOb l om ot M d b):=hM;clear hM;refine Z9 86 [.cell 4 191,.tmp 5] Tryz.func186 ?_
 repeat' (first|refine Z1 ?_|(refine Z8 ?_;intro κ hκ)|(refine Z4 ?_;clear hκ κ)|(refine Z2 ?_ ?_<;>intro h ae<;>try exact Xp)|(refine Z6 ?_;intro idn ln ao am af aa ah ab)|refine Z3 ?_|exact⟨⟩|(apply hκ.out;clear hκ κ))
 refine Ag (fun m s l'=>∃(i:Nat) (X:AV) (xs:List AV),m=q.parts.length-i/\i<=q.parts.length/\s 0=ptr om 0/\s 3=ptr l.nobj 0/\s 4=ptr (l.nobj+1) 0/\s 6=ptr (l.nobj+2) 0/\s 18=sl ip q.parts.length pc/\s 19=ic q.parts.length/\s 20=ic i/\Keep l l'/\l.nobj+2<l'.nobj/\l'.obj l.nobj=[ic q.head.p,sl ih q.head.ts.length (Ac q.head.ts),sl ip q.parts.length pc,sl inn q.nots.length nc]/\l'.obj (l.nobj+1)=[ic 0,nilS,nilS,nilS]/\l'.obj (l.nobj+2)=[ic q.head.p,sl ih q.head.ts.length (Ac q.head.ts),X,nilS]/\PS (l.nobj+3) l' X i xs/\Agt (EL Lr (q.parts.take i) xs)) q.parts.length
  ⟨0,nilS,[],Agm,Agm,by simp[upd,initS],Ago,Ago,Ago,Ago,Ago,rfl,Xs,Ags,?_,?_,?_,.inl ⟨rfl,rfl,rfl⟩,rfl⟩ ?_
 ·rw[Ai Agm,Af Agq,Af Agq,Ap]
 ·rw[Ai Agm,Af Agq,Bs Agq Agq]
 ·rw[show l.nobj+2=l.nobj+1+1 from rfl,Aj]
 rintro m s l' ⟨i,X,xs,rfl,hi,h0,h3,h4,h6,d5,d4,d3,hK,hno,cz,au,ap,hX,hE⟩;have a0:=hK.nobj;have ci:=hX.flat;by_cases av:i<q.parts.length
 ·have ad:=List.getElem?_eq_getElem av;obtain⟨id,idt,r,hd⟩:=Ew hP ad;generalize q.parts[i]=w at hd ad;have HX:Agt (EL Lr (q.parts.take (i+1)) (xs++[ic w.a.p,sl id w.a.ts.length (Ac w.a.ts),sl idt w.tups.length (Ej w.tups)])):=by
   rw[Agt,Ad3,ad,Afe];exact EL.append hE.out (EL.single ⟨id,idt,rfl⟩)
  clear ad hE
  repeat' (first|refine Z1 ?_|(refine Z8 ?_;intro κ hκ)|(refine Z4 ?_;clear hκ κ)|(refine Z2 ?_ ?_<;>intro h ae<;>try exact Xp)|(refine Z6 ?_;intro idn ln ao am af aa ah ab)|refine Z3 ?_|exact⟨⟩|(apply hκ.out;clear hκ κ))
  refine nF (lo:=l.nobj+3) (σ0:=l) (by first|exact E5|exact Dl) (by rfl) (by rfl) (by rfl) Agm Agm (by simp only[Ah,Ab,Aa];omega) Agm (((hK.new _).put hK.nobj _).lay 1) (hX.keep ((((Keep.refl _).new _).put (Adn _) _).lay 1)) ?_;intro X' ln cn di a9 am;simp only[Ah,Ab,Aa]at di;have eob:∀p,p<l.nobj+3->ln.obj p=l'.obj p:=fun p hp=>by rw[a9 p hp,Av,Ai Agm,Af Agm]
  obtain⟨og,cg,rfl,-⟩:=cn.gx Agm;clear a9 hX;refine Z3 ?_
  repeat' (first|refine Z1 ?_|(refine Z8 ?_;intro κ hκ)|(refine Z4 ?_;clear hκ κ)|(refine Z2 ?_ ?_<;>intro h ae<;>try exact Xp)|(refine Z6 ?_;intro idn ln ao am af aa ah ab)|refine Z3 ?_|exact⟨⟩|(apply hκ.out;clear hκ κ))
  refine⟨q.parts.length-(i+1),Agm,i+1,gx og (i+1) cg,xs++[ic w.a.p,sl id w.a.ts.length (Ac w.a.ts),sl idt w.tups.length (Ej w.tups)],?_⟩
  ((repeat' with_reducible refine And.intro ?_ ?_)<;>first|exact Xq|exact (am.put Agm _)|exact (cn.put Agm _)|exact (HX)|exact Xs)
 ·have dl:i=q.parts.length:=Agm;subst dl;rw[Adz]at hE;have dt:=hA.ok.pa;have bg:=hA.ok.pt;have du:=hA.ok.p3;have ca:Agt (EL Lr q.parts xs/\EL Me [] []/\RdS neg q 0 q.parts []):=⟨hE.out,rfl,RdS.start neg q⟩;clear hE hi
  repeat' (first|refine Z1 ?_|(refine Z8 ?_;intro κ hκ)|(refine Z4 ?_;clear hκ κ)|(refine Z2 ?_ ?_<;>intro h ae<;>try exact Xp)|(refine Z6 ?_;intro idn ln ao am af aa ah ab)|refine Z3 ?_|exact⟨⟩|(apply hκ.out;clear hκ κ))
  refine Ag (fun m s l'=>∃(k i4:Nat) (X:AV) (L:List Part) (Nn:List C4) (xs nxs:List AV),m=q.nots.length-k/\k<=q.nots.length/\s 0=ptr om 0/\s 4=ptr (l.nobj+1) 0/\s 6=ptr (l.nobj+2) 0/\s 32=sl inn q.nots.length nc/\s 33=ic q.nots.length/\s 34=ic k/\Keep l l'/\l.nobj+2<l'.nobj/\l'.obj (l.nobj+1)=[ic 0,nilS,nilS,nilS]/\l'.obj (l.nobj+2)=[ic q.head.p,sl ih q.head.ts.length (Ac q.head.ts),X,sl i4 Nn.length nxs]/\PS (l.nobj+3) l' X L.length xs/\Own l l' i4 Nn.length/\nxs.length=Nn.length*2/\Nn.length<=k/\L.length<=64/\Agt (EL Lr L xs/\EL Me Nn nxs/\RdS neg q k L Nn)) q.nots.length
   ⟨0,1,X,q.parts,[],xs,[],Agm,Agm,Agn,Agn,Agn,Agn,Agn,Ago,hK,hno,au,ap,hX,Own.nil _ _,by simp,by simp,hl,ca⟩ ?_
  clear h0 h3 h4 h6 d5 d4 d3 hK hno cz au ap hX ci a0 av ca;rintro m s l' ⟨k,i4,X,L,Nn,xs,nxs,rfl,hk,h0,h4,h6,d2,cw,cv,hK,hno,au,ap,hX,hO,de,eg,cq,hS⟩;have a0:=hK.nobj;have ci:=hX.flat;by_cases av:k<q.nots.length
  ·have ad:=List.getElem?_eq_getElem av;obtain⟨ida,r,hd⟩:=It cp ad;have aj:=Afa av;have bq:=dh _ aj;obtain⟨ka,x,bd,hx,b2⟩:=dy _ aj;generalize q.nots[k]=a at hd ad aj bq bd b2;have cr:∀p∈L,p.a.ts.length<=3/\p.tups.length<=5000/\T3 p.tups:=fun p hp=>by
    obtain⟨p0,g1,g2,g3⟩:=hS.out.2.2.sub p hp;exact⟨by rw[g2];exact dt p0 g1,Ado g3.length_le (bg p0 g1),fun t ht=>du p0 g1 t (g3.subset ht)⟩
   have HG:Agt (q.nots[k]?=some a/\a∈q.nots/\a.p=(ka:Int)/\M[ka]?=some x/\∀t,neg a.p t↔t∈x.2):=⟨ad,aj,bd,hx,b2⟩;have bg:=fun (l1:St) (hh:PS (l.nobj+3) l1 X L.length xs)=>jN (l.nobj+3) (ic q.head.p) (sl ih q.head.ts.length (Ac q.head.ts)) (sl i4 Nn.length nxs) rfl L (fun p hp=>(cr p hp).1) cq X xs hS.out.1 a ida bq l1 hh;have bf:=fun (l1:St)=>Mw a.p ida a.ts Agm l1;have ct:=fun (l1:St) (hh:Keep l l1)=>H6 om ot M d b a ida ka x bq bd hx l1 (HM.out.keep hh);have bm:=fun (p:Part) (idp idtp:Nat) (g1:p.a.ts.length<=3) (g2:p.tups.length<=5000) (g3:T3 p.tups) (l1:St) (hh:Keep l l1)=>Zs om ot M d b p a idp idtp ida ka x g1 g2 g3 bq bd hx l1 (HM.out.keep hh);have ay:Agt _:=bm;clear ad aj bd hx b2 bm
   repeat' (first|refine Z1 ?_|(refine Z8 ?_;intro κ hκ)|(refine Z4 ?_;clear hκ κ)|(refine Z2 ?_ ?_<;>intro h ae<;>try exact Xp)|(refine Z6 ?_;intro idn ln ao am af aa ah ab)|(refine Z5 ?_;refine Xi (bg _ (hX.keep (((Keep.refl _).new _).put (Adn _) _))) ?_;rintro _ _ ⟨(⟨i,p,rfl,hp,cc⟩|⟨rfl,d7⟩),ai⟩)|refine Z3 ?_|exact⟨⟩|(apply hκ.out;clear hκ κ))
   ·rename_i l2;have ak:=ai.nobj;have ac:=ai.obj;simp only[Ab,Aa]at ak ac;have bv:=((hK.new _).put hK.nobj _).trans ai;have o10:=ac l'.nobj Agm;rw[Aj]at o10;have hi:i<L.length:=(List.getElem?_eq_some_iff.1 hp).1;obtain⟨cd,b0,db⟩:=cr p (Adt hp);have be:=(hX.keep (((Keep.refl _).new _).put (Adn _) _)).keep ai;obtain⟨o,cap,rfl,eb,ch,ck,ef,b9⟩:=be.gx Agm;obtain⟨idp,idtp,rp,cj⟩:=Ew hS.out.1 hp;have b6:=EL.length D3 hS.out.1;have dd:(l2.obj o).drop (i*3)=ic p.a.p::sl idp p.a.ts.length (Ac p.a.ts)::sl idtp p.tups.length (Ej p.tups)::(rp++(l2.obj o).drop (L.length*3)):=by
     conv=>lhs;rw[<-Afn (L.length*3) (l2.obj o),b9]
     rw[List.drop_append_of_le_length (by rw[b6];omega),cj];rfl
    have o6:l2.obj (l.nobj+2)=[ic q.head.p,sl ih q.head.ts.length (Ac q.head.ts),gx o L.length cap,sl i4 Nn.length nxs]:=by rw[ac _ Agm,Ai Agm,Af Agm,ap]
    have o4:l2.obj (l.nobj+1)=[ic 0,nilS,nilS,nilS]:=by rw[ac _ Agm,Ai Agm,Af Agm,au]
    have br:Own l l2 i4 Nn.length:=Own.keep (Own.put (Own.new hO _) _ _) ai;have cu:=ay.out p idp idtp cd b0 db;have az:Agt (∀idn,EL Lr (L.set i (Ns x.2 a p)) (lsp xs (i*3) [ic p.a.p,sl idp p.a.ts.length (Ac p.a.ts),sl idn (Ns x.2 a p).tups.length (Ej (Ns x.2 a p).tups)])/\EL Me Nn nxs/\RdS neg q (k+1) (L.set i (Ns x.2 a p)) Nn):=fun idn=>⟨wO D3 hS.out.1 hi ⟨idp,idn,rfl⟩,hS.out.2.1,hS.out.2.2.bar HG.out.1 hp cd cc HG.out.2.2.2.2⟩;have ee:i*3+3<=cap*3:=Agm;have dc:o≠l.nobj+2:=Agm;have b1:o≠l.nobj+1:=Agm;clear b9 cj b6 ay hS au ap hX bg bf ct ac hK hno hO cc hp h ae;generalize Ns x.2 a p=bp at*
    refine B6 (Q:=fun e s' l''=>e= .normal/\s' 0=ptr om 0/\s' 4=ptr (l.nobj+1) 0/\s' 6=ptr (l.nobj+2) 0/\s' 32=sl inn q.nots.length nc/\s' 33=ic q.nots.length/\s' 34=ic k/\Keep l l''/\l.nobj+2<l''.nobj/\l''.obj (l.nobj+1)=[ic 0,nilS,nilS,nilS]/\l''.obj (l.nobj+2)=[ic q.head.p,sl ih q.head.ts.length (Ac q.head.ts),gx o L.length cap,sl i4 Nn.length nxs]/\Own l l'' i4 Nn.length/\∃idn,PS (l.nobj+3) l'' (gx o L.length cap) L.length (lsp xs (i*3) [ic p.a.p,sl idp p.a.ts.length (Ac p.a.ts),sl idn bp.tups.length (Ej bp.tups)])) ?_ ?_
    ·refine Bh Al (fun _=>True) [12] [0,1,2,3,4,5,6,7,8,9] 3 #[true,true,true,true,true,true,true,true,true,true,false,false,false] Agp (fun _ _ _ h=>by cases h.1) ?_;intro κ hκ;refine Z3 ?_;refine hκ.out _ ?_;clear hκ κ;refine Ao (i:=10) Agp ?_;refine Ar ?_;intro κ hκ;refine Z3 ?_;refine ACalls.mono (cu _ bv) ?_;rintro _ l5 ⟨⟨idn,rfl⟩,an⟩;have knb:=an.nobj;have bn:=an.obj;have dm:(l5.obj o).length=cap*3:=by rw[bn o ch,ck]
     refine Z3 ?_;refine hκ.out _ _ ⟨Aq an,?_⟩;clear hκ κ;refine Ao (i:=11) Agp ?_;refine Ar ?_;intro κ hκ;refine Z3 ?_;refine hκ.out _ _ ⟨Aq an,?_⟩;clear hκ κ;refine Ao (i:=12) Agp ?_;refine Ar ?_;intro κ hκ;refine Z3 ?_;refine hκ.out _ _ ⟨Bq rfl,?_⟩;clear hκ κ;refine A6 Agp ⟨rfl,Agn,Agn,Agn,Agn,Agn,Agn,(bv.trans an).put Agm _,by simp only[Ab];omega,by rw[C5 b1.symm,bn _ Agm,o4],by rw[C5 dc.symm,bn _ Agm,o6],Own.put (Own.keep br an) _ _,idn,by rw[<-bn o ch];exact PS.set (c:=[ic p.a.p,sl idp p.a.ts.length (Ac p.a.ts),sl idn bp.tups.length (Ej bp.tups)]) (be.keep an) hi rfl⟩
    ·rintro e s2 l3 ⟨rfl,g0,g4,g6,g32,g33,g34,eh,ea,oc1,oc2,dw,idn,dr⟩;have cx:=az.out idn;have d6:Agt _:=cx;clear h0 h4 h6 d2 cw cv be br o6 o4 dd az cx cu ck o10
     repeat' (first|refine Z1 ?_|(refine Z8 ?_;intro κ hκ)|(refine Z4 ?_;clear hκ κ)|(refine Z2 ?_ ?_<;>intro h ae<;>try exact Xp)|(refine Z6 ?_;intro idn ln ao am af aa ah ab)|refine Z3 ?_|exact⟨⟩|(apply hκ.out;clear hκ κ))
     refine⟨q.nots.length-(k+1),Agm,k+1,i4,gx o L.length cap,L.set i bp,Nn,lsp xs (i*3) [ic p.a.p,sl idp p.a.ts.length (Ac p.a.ts),sl idn bp.tups.length (Ej bp.tups)],nxs,?_⟩
     ((repeat' with_reducible refine And.intro ?_ ?_)<;>first|exact Xq|exact (by rw[Af6];exact dr)|exact (by rw[Af6];exact cq)|exact (d6)|exact (dw)|exact Xs)
   ·rename_i l2;have ak:=ai.nobj;have ac:=ai.obj;simp only[Ab,Aa]at ak ac;have bv:=((hK.new _).put hK.nobj _).trans ai;have o10:=ac l'.nobj Agm;rw[Aj]at o10;have o6:l2.obj (l.nobj+2)=[ic q.head.p,sl ih q.head.ts.length (Ac q.head.ts),X,sl i4 Nn.length nxs]:=by rw[ac _ Agm,Ai Agm,Af Agm,ap]
    have o4:l2.obj (l.nobj+1)=[ic 0,nilS,nilS,nilS]:=by rw[ac _ Agm,Ai Agm,Af Agm,au]
    have br:Own l l2 i4 Nn.length:=Own.keep (Own.put (Own.new hO _) _ _) ai;have be:=(hX.keep (((Keep.refl _).new _).put (Adn _) _)).keep ai;clear ay au ap hX bg ac hK hO ai
    repeat' (first|refine Z1 ?_|(refine Z8 ?_;intro κ hκ)|(refine Z4 ?_;clear hκ κ)|(refine Z2 ?_ ?_<;>intro h ae<;>try exact Xp)|(refine Z6 ?_;intro idn ln ao am af aa ah ab)|(refine Z5 ?_;first|(refine Xi (bf _) ?_;rintro _ _ ⟨rfl,an⟩;(have c6:=an.nobj;have aw:=an.obj;have cs:=bv.trans an;have o11:=aw l'.nobj Agm;rw[o10]at o11;have o12:=aw (l.nobj+2) Agm;rw[o6]at o12;have o13:=aw (l.nobj+1) Agm;rw[o4]at o13;have dx:=Own.keep br an;have cm:=be.keep an))|(refine Xi (ct _ cs) ?_;rintro _ _ ⟨rfl,bi⟩;(have c5:=bi.nobj;have bw:=bi.obj;have d1:=cs.trans bi)))|refine Z3 ?_|exact⟨⟩|(apply hκ.out;clear hκ κ))
    ·have az:Agt (EL Lr L xs/\EL Me (Nn++[a]) (nxs++[ic a.p,sl ida a.ts.length (Ac a.ts)])/\RdS neg q (k+1) L (Nn++[a])):=⟨hS.out.1,EL.append hS.out.2.1 (EL.single ⟨ida,rfl⟩),hS.out.2.2.keepN HG.out.1 (by assumption)⟩;have dn:PS (l.nobj+3) ln X L.length xs:=by
      have:=cm;unfold PS at this⊢;rw[af,aa];exact this
     refine⟨q.nots.length-(k+1),Agm,k+1,idn,X,L,Nn++[a],xs,nxs++[ic a.p,sl ida a.ts.length (Ac a.ts)],?_⟩
     ((repeat' with_reducible refine And.intro ?_ ?_)<;>first|exact Xq|exact (am.put Agm _)|exact (dn.put Agm _)|exact (by simpa using Own.put ao _ _)|exact (az)|exact Xs)
    ·have bz:Ih a.ts=true:=by assumption
     exact⟨_,rfl,⟨_,.inl ⟨rfl,rfl,rfl,fun ν hν=>hν.2 a HG.out.2.1 ((HG.out.2.2.2.2 _).2 (by rw[Og bz];simpa using h))⟩⟩,d1.put Agm _⟩
    ·have bz:Ih a.ts=true:=by assumption
     have az:Agt (EL Lr L xs/\EL Me Nn nxs/\RdS neg q (k+1) L Nn):=⟨hS.out.1,hS.out.2.1,hS.out.2.2.drop HG.out.1 (fun ν hn=>by
      have:=(HG.out.2.2.2.2 _).1 hn;rw[Og bz]at this
      simp[this]at h)⟩
     refine⟨q.nots.length-(k+1),Agm,k+1,i4,X,L,Nn,xs,nxs,?_⟩
     ((repeat' with_reducible refine And.intro ?_ ?_)<;>first|exact Xq|exact (cm.keep bi)|exact (Own.keep dx bi)|exact (az)|exact (by rw[bw _ Agm];assumption)|exact Xs)
  ·have dj:k=q.nots.length:=Agm;subst dj;obtain⟨ax,dq⟩:=hS.out.2.2.fin hA;have HU:Agt (∀a∈Nn,a∈q.nots/\Ih a.ts=false):=fun a ha=>⟨by have:=hS.out.2.2.nsub.subset ha;rwa[Adz]at this,hS.out.2.2.uns a ha⟩;refine fJ (lo:=l.nobj+3) (p:=l.nobj+2) (j:=2) hK Agm Agm Agm Agm hX ap rfl ?_;intro ip1 lf b4 d9 obf ce;have obf2:lf.obj (l.nobj+2)=[ic q.head.p,sl ih q.head.ts.length (Ac q.head.ts),sl ip1 L.length xs,sl i4 Nn.length nxs]:=obf;have o1f:lf.obj (l.nobj+1)=[ic 0,nilS,nilS,nilS]:=by rw[ce _ Agm Agm,au]
   have df:l.nobj+2<lf.nobj:=Agm;have bh:=fun l=>pS ⟨q.head,L,Nn⟩ [ic q.head.p,sl ih q.head.ts.length (Ac q.head.ts),sl ip1 L.length xs,sl i4 Nn.length nxs] ⟨ih,ip1,i4,xs,nxs,rfl,hS.out.1,hS.out.2.1⟩ ax.ok ax.n l;clear hX au ap hK hS hO de hk ce obf hno av a0;have a0:=b4.nobj
   repeat' (first|refine Z1 ?_|(refine Z8 ?_;intro κ hκ)|(refine Z4 ?_;clear hκ κ)|(refine Z2 ?_ ?_<;>intro h ae<;>try exact Xp)|(refine Z6 ?_;intro idn ln ao am af aa ah ab)|(refine Z5 ?_;refine Xi (bh _) ?_;rintro _ _ ⟨⟨_,q1,qp,rfl,⟨ih1,ip1,in1,pc1,nc1,rfl,b3,d0⟩,n1,n2,n3,n4⟩,ai⟩;(have N3:Agt (q1=gD qp (Cb (atomsQ qp))):=n3;clear n3;have ak:=ai.nobj;have ac:=ai.obj;have bu:=b4.trans ai))|refine Z3 ?_|exact⟨⟩|(apply hκ.out;clear hκ κ))
   rename_i l1;have o1:l1.obj (l.nobj+1)=[ic 0,nilS,nilS,nilS]:=by rw[ac _ Agm,o1f]
   have b7:WP q1:=n2.wp ax.w;have bo:Nx q1:=n2.ok ax.ok;have cf:QN q1:=n2.n ax.n;have ba:q1.nots=Nn:=n2.atoms.2.2;have cb:Red neg q q1:=dq.trans (n2.red ax.w);have a8:fX q1:=xB n2 ax.wf;have bb:Nrw q1:=by
    obtain⟨g1,g2⟩:=(cN (Cb (atomsQ qp)) qp).2 (by rw[<-N3.out];exact n4);rw[N3.out,g1];exact Abo g2
   have b5:Agt (WP q1/\Nx q1/\QN q1/\q1.nots=Nn/\Red neg q q1/\fX q1/\Nrw q1):=⟨b7,bo,cf,ba,cb,a8,bb⟩;clear b7 cf ba cb a8 bb n1 n2 N3 n4 ac ai bh;have ed:=bo.pl;have c8:=bo.pt;clear bo;have da:=EL.length D3 b3
   refine Ag (fun m s l2=>∃j:Nat,m=q1.parts.length-j/\j<=q1.parts.length/\s 4=ptr (l.nobj+1) 0/\s 6=ptr (l.nobj+2) 0/\s 72=sl ip1 q1.parts.length pc1/\s 73=ic q1.parts.length/\s 74=ic j/\Keep l l2/\l.nobj+2<l2.nobj/\l2.obj (l.nobj+1)=[ic 0,nilS,nilS,nilS]/\l2.obj (l.nobj+2)=[ic q1.head.p,sl ih1 q1.head.ts.length (Ac q1.head.ts),sl ip1 q1.parts.length pc1,sl in1 q1.nots.length nc1]/\Agt (∀p∈q1.parts.take j,p.tups≠[])) q1.parts.length
    ⟨0,Agm,Agm,Agn,Agn,Ago,Ago,rfl,bu.put Agm _,by simp only[Ab];omega,by rw[Ai Agm,o1],by rw[Aj],by simp[Agt]⟩ ?_
   clear h4 h6 cw cv o1 bu ak b4;rintro m s l2 ⟨j,rfl,hj,h4,h6,ek,ej,ei,hK,hno,au,ap,hJ⟩;have a0:=hK.nobj;by_cases av:j<q1.parts.length
   ·have ad:=List.getElem?_eq_getElem av;obtain⟨id,idt,r,hd⟩:=Ew b3 ad;have aj:=Afa av;have c7:=c8 _ aj;generalize q1.parts[j]=w at hd ad aj c7;by_cases he:w.tups=[]
    ·have b8:w.tups.length=0:=by rw[he];rfl
     have HF:Agt (∀ν,¬Kq neg q ν):=fun ν hν=>by
      have h1:=(b5.out.2.2.2.2.1.to ν hν).1 w aj;rw[he]at h1;cases h1
     have hb:((w.tups.length:Int)==0)=true:=by rw[b8];rfl
     clear ad b8 he hJ
     repeat' (first|refine Z1 ?_|(refine Z8 ?_;intro κ hκ)|(refine Z4 ?_;clear hκ κ)|(refine Z2 ?_ ?_<;>intro h ae<;>try exact Xp)|(refine Z6 ?_;intro idn ln ao am af aa ah ab)|refine Z3 ?_|exact⟨⟩|(apply hκ.out;clear hκ κ))
     exact⟨_,rfl,⟨_,.inl ⟨rfl,rfl,rfl,HF.out⟩⟩,((hK.new _).put hK.nobj _).put Agm _⟩
    ·have hb:((w.tups.length:Int)==0)=false:=by
      have:w.tups.length≠0:=fun h=>he (Adx h);simp;exact he
     have HJ:Agt (∀p∈q1.parts.take (j+1),p.tups≠[]):=by
      rw[Agt,Ad3,ad,Afe];intro p hp;rcases Aew.1 hp with h|h
      ·exact hJ.out p h
      ·simp at h;subst h;exact he
     clear ad he hJ
     repeat' (first|refine Z1 ?_|(refine Z8 ?_;intro κ hκ)|(refine Z4 ?_;clear hκ κ)|(refine Z2 ?_ ?_<;>intro h ae<;>try exact Xp)|(refine Z6 ?_;intro idn ln ao am af aa ah ab)|refine Z3 ?_|exact⟨⟩|(apply hκ.out;clear hκ κ))
     refine⟨q1.parts.length-(j+1),Agm,j+1,?_⟩
     ((repeat' with_reducible refine And.intro ?_ ?_)<;>first|exact Xq|exact (HJ)|exact Xs)
   ·have dk:j=q1.parts.length:=Agm;subst dk;rw[Adz]at hJ;obtain⟨a1,a2,a3,a4,a5,a6,a7⟩:=b5.out;have dp:=fun l=>jL q1 _ ⟨ih1,ip1,in1,pc1,nc1,rfl,b3,d0⟩ a2 l;have cy:Agt (NE q1):=hJ.out;clear a1 a2 a3 a4 a5 a6 a7 hJ
    repeat' (first|refine Z1 ?_|(refine Z8 ?_;intro κ hκ)|(refine Z4 ?_;clear hκ κ)|(refine Z2 ?_ ?_<;>intro h ae<;>try exact Xp)|(refine Z6 ?_;intro idn ln ao am af aa ah ab)|(refine Z5 ?_;refine Xi (dp _) ?_;rintro _ _ ⟨⟨_,q2,rfl,⟨ih2,ip2,in2,pc2,nc2,rfl,dv,dz⟩,c9,co⟩,ai⟩;(have ak:=ai.nobj;have ac:=ai.obj;have bu:=hK.trans ai))|refine Z3 ?_|exact⟨⟩|(apply hκ.out;clear hκ κ))
    obtain⟨a1,a2,a3,a4,a5,a6,a7⟩:=b5.out;obtain⟨t1,t2,t3⟩:=co.red (neg:=neg) a1 cy.out a7;obtain⟨-,u2,u3⟩:=co.ok a2;exact⟨_,rfl,⟨_,.inr ⟨q2,rfl,⟨ih2,ip2,in2,pc2,nc2,rfl,dv,dz⟩,⟨c9,fun p hp=>a3 p (u3 p hp),fun p hp=>a1 p (u3 p hp),t3 a6⟩,fun p hp=>cy.out p (u3 p hp),a5.trans t1,fun a ha=>HU.out a (by rw[<-a4,<-u2];exact ha)⟩⟩,bu.put Agm _⟩
end Go.Proofs.YtmoeoppbmhfbpabGreatDoorG
