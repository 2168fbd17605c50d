import Derived.Test.YtmoeoppbmhfbpabGreatDoorJNegA
set_option maxHeartbeats 64000000
set_option maxRecDepth 100000
set_option linter.all false
namespace Go.Proofs.YtmoeoppbmhfbpabGreatDoorJ
open Go.Abs
structure O7 (q:Qry):Prop where
 ok:Me q
 n:QN q
 w:WP q
 wf:eE q
theorem TrimR.ok {q q':Qry}(h:TrimR q q')(hq:Me q):Me q'/\q'.nots=q.nots/\∀p∈q'.parts,p∈q.parts:=by
 induction h with
 |refl=>exact⟨hq,rfl,fun p hp=>hp⟩
 |tail h ih=>exact⟨Zr ih.1,ih.2.1,fun p hp=>ih.2.2 p (List.mem_of_mem_eraseP hp)⟩
theorem tS {q q':Qry}(h:NarS q q')(hw:eE q):eE q':=fun v hv=>by
 obtain⟨e1,e2,e3⟩:=h.atoms;rw[e2,e3]at hv;obtain⟨p,hp,aa⟩:=hw v hv;have:p.a∈q'.parts.map (·.a):=by rw[e1];exact Acs.2 ⟨p,hp,rfl⟩
 obtain⟨p',h1,h2⟩:=Acs.1 this;exact⟨p',h1,by rw[h2];exact aa⟩
theorem RdS.fin {neg:Int->Bc->Prop}{q:Qry}{L:List Part}{Nn:List C6}(h:RdS neg q q.nots.length L Nn)(hA:O7 q):O7 ⟨q.head,L,Nn⟩/\Red neg q ⟨q.head,L,Nn⟩:=by
 have ab:∀a∈Nn,a∈q.nots:=fun a ha=>by
  have:=h.nsub.subset ha;rwa[Abt]at this
 have aa:=h.sol;rw[Abt]at aa;have ad:∀p∈q.parts,∃p'∈L,p'.a=p.a:=fun p hp=>by
  have:p.a∈L.map (·.a):=by rw[h.atm];exact Acs.2 ⟨p,hp,rfl⟩
  obtain⟨p',h1,h2⟩:=Acs.1 this;exact⟨p',h1,h2⟩
 refine⟨⟨⟨hA.ok.hd,?_,?_,fun p hp=>?_,fun p hp=>?_,fun p hp=>?_,fun a ha=>hA.ok.na a (ab a ha)⟩,fun p hp t ht=>?_,fun p hp=>?_,fun v hv=>?_⟩,rfl,fun a ha=>?_,fun ν hν=>(aa ν).1 hν,fun ν hν=>⟨ν,(aa ν).2 hν,fun _ _=>rfl⟩⟩
 ·have:=congrArg List.length h.atm;simp at this;rw[this];exact hA.ok.pl
 ·have:=h.nsub.length_le;rw[Abt]at this;exact Abg this hA.ok.nl
 ·obtain⟨p0,g1,g2,g3⟩:=h.sub p hp;rw[g2];exact hA.ok.pa p0 g1
 ·obtain⟨p0,g1,g2,g3⟩:=h.sub p hp;exact Abg g3.length_le (hA.ok.pt p0 g1)
 ·obtain⟨p0,g1,g2,g3⟩:=h.sub p hp;exact fun t ht=>hA.ok.p3 p0 g1 t (g3.subset ht)
 ·obtain⟨p0,g1,g2,g3⟩:=h.sub p hp;rw[g2];exact hA.n p0 g1 t (g3.subset ht)
 ·obtain⟨p0,g1,g2,g3⟩:=h.sub p hp;rw[g2];exact⟨(hA.w p0 g1).1,fun t ht=>(hA.w p0 g1).2 t (g3.subset ht)⟩
 ·obtain⟨p,hp,ac⟩:=hA.wf v (by
   rcases hv with hv|⟨a,ha,hv⟩
   ·exact .inl hv
   ·exact .inr ⟨a,ab a ha,hv⟩)
  obtain⟨p',h1,h2⟩:=ad p hp;exact⟨p',h1,by rw[h2];exact ac⟩
 ·unfold atomsQ at ha⊢;simp only[Aci,Aco]at ha⊢;rcases ha with ha|ha|ha
  ·exact .inl ha
  ·rw[h.atm]at ha;exact .inr (.inl ha)
  ·exact .inr (.inr (ab a ha))
theorem PS.gx {lo:Nat}{l:St}{x:AV}{n:Nat}{pc:List AV}(h:PS lo l x n pc)(hn:0<n):∃o cap,x=Abs.gx o n cap/\lo<=o/\o<l.nobj/\(l.obj o).length=cap*3/\n<=cap/\(l.obj o).take (n*3)=pc:=by
 rcases h with⟨-,h,-⟩|⟨o,cap,h1,h2,h3,h4,h5,h6,h7⟩
 ·omega
 ·exact⟨o,cap,h1,h6,h7,h4,h3,h5⟩
def NegOk (neg:Int->Bc->Prop)(M:MM)(q:Qry):Prop:=∀a∈q.nots,∃(k:Nat) (x:Nat×List Bc),a.p=(k:Int)/\M[k]?=some x/\∀t,neg a.p t↔t∈x.2
def Abd (neg:Int->Bc->Prop)(q:Qry)(x:AV):Prop:=∃c',(x=tp [ag c',sc (.bool false)]/\c'.length=4/\c'.all flat=true/\∀ν,¬Ka neg q ν)\/∃q',x=tp [ag c',sc (.bool true)]/\EQ q' c'/\O7 q'/\NE q'/\Red neg q q'/\∀a∈q'.nots,a∈q.nots/\F5 a.ts=false
theorem Wo (neg:Int->Bc->Prop)(q:Qry)(c:List AV)(om ot:Nat)(M:MM)(d b:Int)(hc:EQ q c)(hA:O7 q)(d0:NegOk neg M q)(l:St)(hM:MOb l om ot M d b):ACalls Tryz.prog 186 [ptr om 0,ag c] l fun r l'=>Abd neg q r/\Keep l l':=by
 obtain⟨ih,ip,inn,pc,nc,rfl,hP,cq⟩:=hc;have hpl:=EL.length Dt hP;have ea:=EL.length Hi cq;have hl:=hA.ok.pl;have ee:=hA.ok.nl;have dj:=hA.ok.na;have HM:Aec (MOb l om ot M d b):=hM;clear hM;refine Z9 86 [.cell 4 191,.tmp 5] Tryz.func186 ?_
 repeat' (first|refine Z1 ?_|(refine Z8 ?_;intro κ hκ)|(refine Z4 ?_;clear hκ κ)|(refine Z2 ?_ ?_<;>intro h ae<;>try exact Xp)|(refine Z6 ?_;intro idn ln ao am af aa ah ab)|refine Z3 ?_|exact⟨⟩|(apply hκ.out;clear hκ κ))
 refine Ad (fun m s l'=>∃(i:Nat) (X:AV) (xs:List AV),m=q.parts.length-i/\i<=q.parts.length/\s 0=ptr om 0/\s 3=ptr l.nobj 0/\s 4=ptr (l.nobj+1) 0/\s 6=ptr (l.nobj+2) 0/\s 18=sl ip q.parts.length pc/\s 19=ic q.parts.length/\s 20=ic i/\Keep l l'/\l.nobj+2<l'.nobj/\l'.obj l.nobj=[ic q.head.p,sl ih q.head.ts.length (Ac q.head.ts),sl ip q.parts.length pc,sl inn q.nots.length nc]/\l'.obj (l.nobj+1)=[ic 0,nilS,nilS,nilS]/\l'.obj (l.nobj+2)=[ic q.head.p,sl ih q.head.ts.length (Ac q.head.ts),X,nilS]/\PS (l.nobj+3) l' X i xs/\Aec (EL K3 (q.parts.take i) xs)) q.parts.length
  ⟨0,nilS,[],Ad6,Ad6,by simp[upd,initS],Ad8,Ad8,Ad8,Ad8,Ad8,rfl,Xs,Aeb,?_,?_,?_,.inl ⟨rfl,rfl,rfl⟩,rfl⟩ ?_
 ·rw[Aj Ad6,Ae Aea,Ae Aea,Ao]
 ·rw[Aj Ad6,Ae Aea,Bu Aea Aea]
 ·rw[show l.nobj+2=l.nobj+1+1 from rfl,Ak]
 rintro m s l' ⟨i,X,xs,rfl,hi,h0,h3,h4,h6,d7,d6,d5,hK,az,c6,au,ap,hX,hE⟩;have a8:=hK.nobj;have ci:=hX.flat;by_cases av:i<q.parts.length
 ·have ad:=List.getElem?_eq_getElem av;obtain⟨id,idt,r,hd⟩:=Eh hP ad;generalize q.parts[i]=w at hd ad;have HX:Aec (EL K3 (q.parts.take (i+1)) (xs++[ic w.a.p,sl id w.a.ts.length (Ac w.a.ts),sl idt w.tups.length (Cx w.tups)])):=by
   rw[Aec,Abv,ad,Ac5];exact EL.append hE.out (EL.single ⟨id,idt,rfl⟩)
  clear ad hE
  repeat' (first|refine Z1 ?_|(refine Z8 ?_;intro κ hκ)|(refine Z4 ?_;clear hκ κ)|(refine Z2 ?_ ?_<;>intro h ae<;>try exact Xp)|(refine Z6 ?_;intro idn ln ao am af aa ah ab)|refine Z3 ?_|exact⟨⟩|(apply hκ.out;clear hκ κ))
  refine lH (lo:=l.nobj+3) (σ0:=l) (by first|exact D1|exact Di) (by rfl) (by rfl) (by rfl) Ad6 Ad6 (by simp only[Ag,Ab,Aa];omega) Ad6 (((hK.new _).put hK.nobj _).lay 1) (hX.keep ((((Keep.refl _).new _).put (Abf _) _).lay 1)) ?_;intro X' ln co dk ba am;simp only[Ag,Ab,Aa]at dk;have eob:∀p,p<l.nobj+3->ln.obj p=l'.obj p:=fun p hp=>by rw[ba p hp,Ap,Aj Ad6,Ae Ad6]
  obtain⟨og,cg,rfl,-⟩:=co.gx Ad6;clear ba hX;refine Z3 ?_
  repeat' (first|refine Z1 ?_|(refine Z8 ?_;intro κ hκ)|(refine Z4 ?_;clear hκ κ)|(refine Z2 ?_ ?_<;>intro h ae<;>try exact Xp)|(refine Z6 ?_;intro idn ln ao am af aa ah ab)|refine Z3 ?_|exact⟨⟩|(apply hκ.out;clear hκ κ))
  refine⟨q.parts.length-(i+1),Ad6,i+1,gx og (i+1) cg,xs++[ic w.a.p,sl id w.a.ts.length (Ac w.a.ts),sl idt w.tups.length (Cx w.tups)],?_⟩
  ((repeat' with_reducible refine And.intro ?_ ?_)<;>first|exact Xq|exact (am.put Ad6 _)|exact (co.put Ad6 _)|exact (HX)|exact Xs)
 ·have dn:i=q.parts.length:=Ad6;subst dn;rw[Abt]at hE;have dv:=hA.ok.pa;have bg:=hA.ok.pt;have dw:=hA.ok.p3;have b9:Aec (EL K3 q.parts xs/\EL Mg [] []/\RdS neg q 0 q.parts []):=⟨hE.out,rfl,RdS.start neg q⟩;clear hE hi
  repeat' (first|refine Z1 ?_|(refine Z8 ?_;intro κ hκ)|(refine Z4 ?_;clear hκ κ)|(refine Z2 ?_ ?_<;>intro h ae<;>try exact Xp)|(refine Z6 ?_;intro idn ln ao am af aa ah ab)|refine Z3 ?_|exact⟨⟩|(apply hκ.out;clear hκ κ))
  refine Ad (fun m s l'=>∃(k i4:Nat) (X:AV) (L:List Part) (Nn:List C6) (xs nxs:List AV),m=q.nots.length-k/\k<=q.nots.length/\s 0=ptr om 0/\s 4=ptr (l.nobj+1) 0/\s 6=ptr (l.nobj+2) 0/\s 32=sl inn q.nots.length nc/\s 33=ic q.nots.length/\s 34=ic k/\Keep l l'/\l.nobj+2<l'.nobj/\l'.obj (l.nobj+1)=[ic 0,nilS,nilS,nilS]/\l'.obj (l.nobj+2)=[ic q.head.p,sl ih q.head.ts.length (Ac q.head.ts),X,sl i4 Nn.length nxs]/\PS (l.nobj+3) l' X L.length xs/\Own l l' i4 Nn.length/\nxs.length=Nn.length*2/\Nn.length<=k/\L.length<=64/\Aec (EL K3 L xs/\EL Mg Nn nxs/\RdS neg q k L Nn)) q.nots.length
   ⟨0,1,X,q.parts,[],xs,[],Ad6,Ad6,Ad7,Ad7,Ad7,Ad7,Ad7,Ad8,hK,az,au,ap,hX,Own.nil _ _,by simp,by simp,hl,b9⟩ ?_
  clear h0 h3 h4 h6 d7 d6 d5 hK az c6 au ap hX ci a8 av b9;rintro m s l' ⟨k,i4,X,L,Nn,xs,nxs,rfl,hk,h0,h4,h6,d4,cy,cx,hK,az,au,ap,hX,hO,dh,ei,cr,hS⟩;have a8:=hK.nobj;have ci:=hX.flat;by_cases av:k<q.nots.length
  ·have ad:=List.getElem?_eq_getElem av;obtain⟨ida,r,hd⟩:=Ip cq ad;have aj:=Ac2 av;have bo:=dj _ aj;obtain⟨ka,x,bd,hx,b1⟩:=d0 _ aj;generalize q.nots[k]=a at hd ad aj bo bd b1;have ct:∀p∈L,p.a.ts.length<=3/\p.tups.length<=5000/\T3 p.tups:=fun p hp=>by
    obtain⟨p0,g1,g2,g3⟩:=hS.out.2.2.sub p hp;exact⟨by rw[g2];exact dv p0 g1,Abg g3.length_le (bg p0 g1),fun t ht=>dw p0 g1 t (g3.subset ht)⟩
   have HG:Aec (q.nots[k]?=some a/\a∈q.nots/\a.p=(ka:Int)/\M[ka]?=some x/\∀t,neg a.p t↔t∈x.2):=⟨ad,aj,bd,hx,b1⟩;have bg:=fun (l1:St) (hh:PS (l.nobj+3) l1 X L.length xs)=>gV (l.nobj+3) (ic q.head.p) (sl ih q.head.ts.length (Ac q.head.ts)) (sl i4 Nn.length nxs) rfl L (fun p hp=>(ct p hp).1) cr X xs hS.out.1 a ida bo l1 hh;have bf:=fun (l1:St)=>Iv a.p ida a.ts Ad6 l1;have cv:=fun (l1:St) (hh:Keep l l1)=>Jv om ot M d b a ida ka x bo bd hx l1 (HM.out.keep hh);have bl:=fun (p:Part) (idp idtp:Nat) (g1:p.a.ts.length<=3) (g2:p.tups.length<=5000) (g3:T3 p.tups) (l1:St) (hh:Keep l l1)=>Yq om ot M d b p a idp idtp ida ka x g1 g2 g3 bo bd hx l1 (HM.out.keep hh);have ay:Aec _:=bl;clear ad aj bd hx b1 bl
   repeat' (first|refine Z1 ?_|(refine Z8 ?_;intro κ hκ)|(refine Z4 ?_;clear hκ κ)|(refine Z2 ?_ ?_<;>intro h ae<;>try exact Xp)|(refine Z6 ?_;intro idn ln ao am af aa ah ab)|(refine Z5 ?_;refine Xi (bg _ (hX.keep (((Keep.refl _).new _).put (Abf _) _))) ?_;rintro _ _ ⟨(⟨i,p,rfl,hp,cb⟩|⟨rfl,d9⟩),ai⟩)|refine Z3 ?_|exact⟨⟩|(apply hκ.out;clear hκ κ))
   ·rename_i l2;have ak:=ai.nobj;have ac:=ai.obj;simp only[Ab,Aa]at ak ac;have bu:=((hK.new _).put hK.nobj _).trans ai;have o10:=ac l'.nobj Ad6;rw[Ak]at o10;have hi:i<L.length:=(List.getElem?_eq_some_iff.1 hp).1;obtain⟨cd,bz,dd⟩:=ct p (Abm hp);have be:=(hX.keep (((Keep.refl _).new _).put (Abf _) _)).keep ai;obtain⟨o,cap,rfl,ed,ch,cm,eh,b8⟩:=be.gx Ad6;obtain⟨idp,idtp,rp,cj⟩:=Eh hS.out.1 hp;have b5:=EL.length Dt hS.out.1;have df:(l2.obj o).drop (i*3)=ic p.a.p::sl idp p.a.ts.length (Ac p.a.ts)::sl idtp p.tups.length (Cx p.tups)::(rp++(l2.obj o).drop (L.length*3)):=by
     conv=>lhs;rw[<-Adl (L.length*3) (l2.obj o),b8]
     rw[Acp (by rw[b5];omega),cj];rfl
    have o6:l2.obj (l.nobj+2)=[ic q.head.p,sl ih q.head.ts.length (Ac q.head.ts),gx o L.length cap,sl i4 Nn.length nxs]:=by rw[ac _ Ad6,Aj Ad6,Ae Ad6,ap]
    have o4:l2.obj (l.nobj+1)=[ic 0,nilS,nilS,nilS]:=by rw[ac _ Ad6,Aj Ad6,Ae Ad6,au]
    have bq:Own l l2 i4 Nn.length:=Own.keep (Own.put (Own.new hO _) _ _) ai;have cw:=ay.out p idp idtp cd bz dd;have a0:Aec (∀idn,EL K3 (L.set i (Ma x.2 a p)) (lsp xs (i*3) [ic p.a.p,sl idp p.a.ts.length (Ac p.a.ts),sl idn (Ma x.2 a p).tups.length (Cx (Ma x.2 a p).tups)])/\EL Mg Nn nxs/\RdS neg q (k+1) (L.set i (Ma x.2 a p)) Nn):=fun idn=>⟨tK Dt hS.out.1 hi ⟨idp,idn,rfl⟩,hS.out.2.1,hS.out.2.2.bar HG.out.1 hp cd cb HG.out.2.2.2.2⟩;have eg:i*3+3<=cap*3:=Ad6;have de:o≠l.nobj+2:=Ad6;have b0:o≠l.nobj+1:=Ad6;clear b8 cj b5 ay hS au ap hX bg bf cv ac hK az hO cb hp h ae;generalize Ma x.2 a p=bp at*
    refine Bq (Q:=fun e s' l''=>e= .normal/\s' 0=ptr om 0/\s' 4=ptr (l.nobj+1) 0/\s' 6=ptr (l.nobj+2) 0/\s' 32=sl inn q.nots.length nc/\s' 33=ic q.nots.length/\s' 34=ic k/\Keep l l''/\l.nobj+2<l''.nobj/\l''.obj (l.nobj+1)=[ic 0,nilS,nilS,nilS]/\l''.obj (l.nobj+2)=[ic q.head.p,sl ih q.head.ts.length (Ac q.head.ts),gx o L.length cap,sl i4 Nn.length nxs]/\Own l l'' i4 Nn.length/\∃idn,PS (l.nobj+3) l'' (gx o L.length cap) L.length (lsp xs (i*3) [ic p.a.p,sl idp p.a.ts.length (Ac p.a.ts),sl idn bp.tups.length (Cx bp.tups)])) ?_ ?_
    ·refine A3 Ah (fun _=>True) [12] [0,1,2,3,4,5,6,7,8,9] 3 #[true,true,true,true,true,true,true,true,true,true,false,false,false] Ad9 (fun _ _ _ h=>by cases h.1) ?_;intro κ hκ;refine Z3 ?_;refine hκ.out _ ?_;clear hκ κ;refine Am (i:=10) Ad9 ?_;refine Ar ?_;intro κ hκ;refine Z3 ?_;refine ACalls.mono (cw _ bu) ?_;rintro _ l5 ⟨⟨idn,rfl⟩,an⟩;have knb:=an.nobj;have bm:=an.obj;have dp:(l5.obj o).length=cap*3:=by rw[bm o ch,cm]
     refine Z3 ?_;refine hκ.out _ _ ⟨Aq an,?_⟩;clear hκ κ;refine Am (i:=11) Ad9 ?_;refine Ar ?_;intro κ hκ;refine Z3 ?_;refine hκ.out _ _ ⟨Aq an,?_⟩;clear hκ κ;refine Am (i:=12) Ad9 ?_;refine Ar ?_;intro κ hκ;refine Z3 ?_;refine hκ.out _ _ ⟨Bt rfl,?_⟩;clear hκ κ;refine A7 Ad9 ⟨rfl,Ad7,Ad7,Ad7,Ad7,Ad7,Ad7,(bu.trans an).put Ad6 _,by simp only[Ab];omega,by rw[Cd b0.symm,bm _ Ad6,o4],by rw[Cd de.symm,bm _ Ad6,o6],Own.put (Own.keep bq an) _ _,idn,by rw[<-bm o ch];exact PS.set (c:=[ic p.a.p,sl idp p.a.ts.length (Ac p.a.ts),sl idn bp.tups.length (Cx bp.tups)]) (be.keep an) hi rfl⟩
    ·rintro e s2 l3 ⟨rfl,g0,g4,g6,g32,g33,g34,ej,ec,oc1,oc2,dy,idn,du⟩;have cz:=a0.out idn;have d8:Aec _:=cz;clear h0 h4 h6 d4 cy cx be bq o6 o4 df a0 cz cw cm o10
     repeat' (first|refine Z1 ?_|(refine Z8 ?_;intro κ hκ)|(refine Z4 ?_;clear hκ κ)|(refine Z2 ?_ ?_<;>intro h ae<;>try exact Xp)|(refine Z6 ?_;intro idn ln ao am af aa ah ab)|refine Z3 ?_|exact⟨⟩|(apply hκ.out;clear hκ κ))
     refine⟨q.nots.length-(k+1),Ad6,k+1,i4,gx o L.length cap,L.set i bp,Nn,lsp xs (i*3) [ic p.a.p,sl idp p.a.ts.length (Ac p.a.ts),sl idn bp.tups.length (Cx bp.tups)],nxs,?_⟩
     ((repeat' with_reducible refine And.intro ?_ ?_)<;>first|exact Xq|exact (by rw[Ady];exact du)|exact (by rw[Ady];exact cr)|exact (d8)|exact (dy)|exact Xs)
   ·rename_i l2;have ak:=ai.nobj;have ac:=ai.obj;simp only[Ab,Aa]at ak ac;have bu:=((hK.new _).put hK.nobj _).trans ai;have o10:=ac l'.nobj Ad6;rw[Ak]at o10;have o6:l2.obj (l.nobj+2)=[ic q.head.p,sl ih q.head.ts.length (Ac q.head.ts),X,sl i4 Nn.length nxs]:=by rw[ac _ Ad6,Aj Ad6,Ae Ad6,ap]
    have o4:l2.obj (l.nobj+1)=[ic 0,nilS,nilS,nilS]:=by rw[ac _ Ad6,Aj Ad6,Ae Ad6,au]
    have bq:Own l l2 i4 Nn.length:=Own.keep (Own.put (Own.new hO _) _ _) ai;have be:=(hX.keep (((Keep.refl _).new _).put (Abf _) _)).keep ai;clear ay au ap hX bg ac hK hO ai
    repeat' (first|refine Z1 ?_|(refine Z8 ?_;intro κ hκ)|(refine Z4 ?_;clear hκ κ)|(refine Z2 ?_ ?_<;>intro h ae<;>try exact Xp)|(refine Z6 ?_;intro idn ln ao am af aa ah ab)|(refine Z5 ?_;first|(refine Xi (bf _) ?_;rintro _ _ ⟨rfl,an⟩;(have c8:=an.nobj;have aw:=an.obj;have cu:=bu.trans an;have o11:=aw l'.nobj Ad6;rw[o10]at o11;have o12:=aw (l.nobj+2) Ad6;rw[o6]at o12;have o13:=aw (l.nobj+1) Ad6;rw[o4]at o13;have dz:=Own.keep bq an;have cn:=be.keep an))|(refine Xi (cv _ cu) ?_;rintro _ _ ⟨rfl,bi⟩;(have c7:=bi.nobj;have bv:=bi.obj;have d3:=cu.trans bi)))|refine Z3 ?_|exact⟨⟩|(apply hκ.out;clear hκ κ))
    ·have a0:Aec (EL K3 L xs/\EL Mg (Nn++[a]) (nxs++[ic a.p,sl ida a.ts.length (Ac a.ts)])/\RdS neg q (k+1) L (Nn++[a])):=⟨hS.out.1,EL.append hS.out.2.1 (EL.single ⟨ida,rfl⟩),hS.out.2.2.keepN HG.out.1 (by assumption)⟩;have dq:PS (l.nobj+3) ln X L.length xs:=by
      have:=cn;unfold PS at this⊢;rw[af,aa];exact this
     refine⟨q.nots.length-(k+1),Ad6,k+1,idn,X,L,Nn++[a],xs,nxs++[ic a.p,sl ida a.ts.length (Ac a.ts)],?_⟩
     ((repeat' with_reducible refine And.intro ?_ ?_)<;>first|exact Xq|exact (am.put Ad6 _)|exact (dq.put Ad6 _)|exact (by simpa using Own.put ao _ _)|exact (a0)|exact Xs)
    ·have bw:F5 a.ts=true:=by assumption
     exact⟨_,rfl,⟨_,.inl ⟨rfl,rfl,rfl,fun ν hν=>hν.2 a HG.out.2.1 ((HG.out.2.2.2.2 _).2 (by rw[Mu bw];simpa using h))⟩⟩,d3.put Ad6 _⟩
    ·have bw:F5 a.ts=true:=by assumption
     have a0:Aec (EL K3 L xs/\EL Mg Nn nxs/\RdS neg q (k+1) L Nn):=⟨hS.out.1,hS.out.2.1,hS.out.2.2.drop HG.out.1 (fun ν hn=>by
      have:=(HG.out.2.2.2.2 _).1 hn;rw[Mu bw]at this
      simp[this]at h)⟩
     refine⟨q.nots.length-(k+1),Ad6,k+1,i4,X,L,Nn,xs,nxs,?_⟩
     ((repeat' with_reducible refine And.intro ?_ ?_)<;>first|exact Xq|exact (cn.keep bi)|exact (Own.keep dz bi)|exact (a0)|exact (by rw[bv _ Ad6];assumption)|exact Xs)
  ·have dl:k=q.nots.length:=Ad6;subst dl;obtain⟨ax,dt⟩:=hS.out.2.2.fin hA;have HU:Aec (∀a∈Nn,a∈q.nots/\F5 a.ts=false):=fun a ha=>⟨by have:=hS.out.2.2.nsub.subset ha;rwa[Abt]at this,hS.out.2.2.uns a ha⟩;refine dQ (lo:=l.nobj+3) (p:=l.nobj+2) (j:=2) hK Ad6 Ad6 Ad6 Ad6 hX ap rfl ?_;intro ip1 lf b3 eb obf ce;have obf2:lf.obj (l.nobj+2)=[ic q.head.p,sl ih q.head.ts.length (Ac q.head.ts),sl ip1 L.length xs,sl i4 Nn.length nxs]:=obf;have o1f:lf.obj (l.nobj+1)=[ic 0,nilS,nilS,nilS]:=by rw[ce _ Ad6 Ad6,au]
   have di:l.nobj+2<lf.nobj:=Ad6;have bh:=fun l=>nS ⟨q.head,L,Nn⟩ [ic q.head.p,sl ih q.head.ts.length (Ac q.head.ts),sl ip1 L.length xs,sl i4 Nn.length nxs] ⟨ih,ip1,i4,xs,nxs,rfl,hS.out.1,hS.out.2.1⟩ ax.ok ax.n l;clear hX au ap hK hS hO dh hk ce obf az av a8;have a8:=b3.nobj
   repeat' (first|refine Z1 ?_|(refine Z8 ?_;intro κ hκ)|(refine Z4 ?_;clear hκ κ)|(refine Z2 ?_ ?_<;>intro h ae<;>try exact Xp)|(refine Z6 ?_;intro idn ln ao am af aa ah ab)|(refine Z5 ?_;refine Xi (bh _) ?_;rintro _ _ ⟨⟨_,q1,qp,rfl,⟨ih1,ip1,in1,pc1,nc1,rfl,b2,d2⟩,n1,n2,n3,n4⟩,ai⟩;(have N3:Aec (q1=eJ qp (B7 (atomsQ qp))):=n3;clear n3;have ak:=ai.nobj;have ac:=ai.obj;have br:=b3.trans ai))|refine Z3 ?_|exact⟨⟩|(apply hκ.out;clear hκ κ))
   rename_i l1;have o1:l1.obj (l.nobj+1)=[ic 0,nilS,nilS,nilS]:=by rw[ac _ Ad6,o1f]
   have b6:WP q1:=n2.wp ax.w;have bn:Me q1:=n2.ok ax.ok;have cf:QN q1:=n2.n ax.n;have bb:q1.nots=Nn:=n2.atoms.2.2;have ca:Red neg q q1:=dt.trans (n2.red ax.w);have a9:eE q1:=tS n2 ax.wf;have bc:Nrw q1:=by
    obtain⟨g1,g2⟩:=(aR (B7 (atomsQ qp)) qp).2 (by rw[<-N3.out];exact n4);rw[N3.out,g1];exact yP g2
   have b4:Aec (WP q1/\Me q1/\QN q1/\q1.nots=Nn/\Red neg q q1/\eE q1/\Nrw q1):=⟨b6,bn,cf,bb,ca,a9,bc⟩;clear b6 cf bb ca a9 bc n1 n2 N3 n4 ac ai bh;have ef:=bn.pl;have da:=bn.pt;clear bn;have dc:=EL.length Dt b2
   refine Ad (fun m s l2=>∃j:Nat,m=q1.parts.length-j/\j<=q1.parts.length/\s 4=ptr (l.nobj+1) 0/\s 6=ptr (l.nobj+2) 0/\s 72=sl ip1 q1.parts.length pc1/\s 73=ic q1.parts.length/\s 74=ic j/\Keep l l2/\l.nobj+2<l2.nobj/\l2.obj (l.nobj+1)=[ic 0,nilS,nilS,nilS]/\l2.obj (l.nobj+2)=[ic q1.head.p,sl ih1 q1.head.ts.length (Ac q1.head.ts),sl ip1 q1.parts.length pc1,sl in1 q1.nots.length nc1]/\Aec (∀p∈q1.parts.take j,p.tups≠[])) q1.parts.length
    ⟨0,Ad6,Ad6,Ad7,Ad7,Ad8,Ad8,rfl,br.put Ad6 _,by simp only[Ab];omega,by rw[Aj Ad6,o1],by rw[Ak],by simp[Aec]⟩ ?_
   clear h4 h6 cy cx o1 br ak b3;rintro m s l2 ⟨j,rfl,hj,h4,h6,en,em,ek,hK,az,au,ap,hJ⟩;have a8:=hK.nobj;by_cases av:j<q1.parts.length
   ·have ad:=List.getElem?_eq_getElem av;obtain⟨id,idt,r,hd⟩:=Eh b2 ad;have aj:=Ac2 av;have c9:=da _ aj;generalize q1.parts[j]=w at hd ad aj c9;by_cases he:w.tups=[]
    ·have b7:w.tups.length=0:=by rw[he];rfl
     have HF:Aec (∀ν,¬Ka neg q ν):=fun ν hν=>by
      have h1:=(b4.out.2.2.2.2.1.to ν hν).1 w aj;rw[he]at h1;cases h1
     have hb:((w.tups.length:Int)==0)=true:=by rw[b7];rfl
     clear ad b7 he hJ
     repeat' (first|refine Z1 ?_|(refine Z8 ?_;intro κ hκ)|(refine Z4 ?_;clear hκ κ)|(refine Z2 ?_ ?_<;>intro h ae<;>try exact Xp)|(refine Z6 ?_;intro idn ln ao am af aa ah ab)|refine Z3 ?_|exact⟨⟩|(apply hκ.out;clear hκ κ))
     exact⟨_,rfl,⟨_,.inl ⟨rfl,rfl,rfl,HF.out⟩⟩,((hK.new _).put hK.nobj _).put Ad6 _⟩
    ·have hb:((w.tups.length:Int)==0)=false:=by
      have:w.tups.length≠0:=fun h=>he (Abq h);simp;exact he
     have HJ:Aec (∀p∈q1.parts.take (j+1),p.tups≠[]):=by
      rw[Aec,Abv,ad,Ac5];intro p hp;rcases Aco.1 hp with h|h
      ·exact hJ.out p h
      ·simp at h;subst h;exact he
     clear ad he hJ
     repeat' (first|refine Z1 ?_|(refine Z8 ?_;intro κ hκ)|(refine Z4 ?_;clear hκ κ)|(refine Z2 ?_ ?_<;>intro h ae<;>try exact Xp)|(refine Z6 ?_;intro idn ln ao am af aa ah ab)|refine Z3 ?_|exact⟨⟩|(apply hκ.out;clear hκ κ))
     refine⟨q1.parts.length-(j+1),Ad6,j+1,?_⟩
     ((repeat' with_reducible refine And.intro ?_ ?_)<;>first|exact Xq|exact (HJ)|exact Xs)
   ·have dm:j=q1.parts.length:=Ad6;subst dm;rw[Abt]at hJ;obtain⟨a1,a2,a3,a4,a5,a6,a7⟩:=b4.out;have dr:=fun l=>gT q1 _ ⟨ih1,ip1,in1,pc1,nc1,rfl,b2,d2⟩ a2 l;have c5:Aec (NE q1):=hJ.out;clear a1 a2 a3 a4 a5 a6 a7 hJ
    repeat' (first|refine Z1 ?_|(refine Z8 ?_;intro κ hκ)|(refine Z4 ?_;clear hκ κ)|(refine Z2 ?_ ?_<;>intro h ae<;>try exact Xp)|(refine Z6 ?_;intro idn ln ao am af aa ah ab)|(refine Z5 ?_;refine Xi (dr _) ?_;rintro _ _ ⟨⟨_,q2,rfl,⟨ih2,ip2,in2,pc2,nc2,rfl,dx,d1⟩,db,cp⟩,ai⟩;(have ak:=ai.nobj;have ac:=ai.obj;have br:=hK.trans ai))|refine Z3 ?_|exact⟨⟩|(apply hκ.out;clear hκ κ))
    obtain⟨a1,a2,a3,a4,a5,a6,a7⟩:=b4.out;obtain⟨t1,t2,t3⟩:=cp.red (neg:=neg) a1 c5.out a7;obtain⟨-,u2,u3⟩:=cp.ok a2;exact⟨_,rfl,⟨_,.inr ⟨q2,rfl,⟨ih2,ip2,in2,pc2,nc2,rfl,dx,d1⟩,⟨db,fun p hp=>a3 p (u3 p hp),fun p hp=>a1 p (u3 p hp),t3 a6⟩,fun p hp=>c5.out p (u3 p hp),a5.trans t1,fun a ha=>HU.out a (by rw[<-a4,<-u2];exact ha)⟩⟩,br.put Ad6 _⟩
end Go.Proofs.YtmoeoppbmhfbpabGreatDoorJ
