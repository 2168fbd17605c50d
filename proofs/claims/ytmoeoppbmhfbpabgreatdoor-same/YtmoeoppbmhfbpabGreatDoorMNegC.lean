import Derived.Test.YtmoeoppbmhfbpabGreatDoorMEngK
import Derived.Test.YtmoeoppbmhfbpabGreatDoorMEngM
import Derived.Test.YtmoeoppbmhfbpabGreatDoorMEngP
import Derived.Test.YtmoeoppbmhfbpabGreatDoorMOptH
set_option maxHeartbeats 64000000
set_option maxRecDepth 100000
set_option linter.all false
namespace Go.Proofs.YtmoeoppbmhfbpabGreatDoorL
open Go.Abs
def PS (lo:Nat)(σ:St)(x:AV)(n:Nat)(pc:List AV):Prop:=(x=nilS/\n=0/\pc=[])\/∃o cap,x=gx o n cap/\0<n/\n<=cap/\(σ.obj o).length=cap*3/\(σ.obj o).take (n*3)=pc/\lo<=o/\o<σ.nobj
theorem Cm {σ:St}{p o:Nat}{c:List AV}(h:o≠p):(σ.put p c).obj o=σ.obj o:=by simp[St.put,h]
theorem PS.flat {lo:Nat}{σ:St}{x:AV}{n:Nat}{pc:List AV}(h:PS lo σ x n pc):flat x=true:=by
 rcases h with⟨rfl,-,-⟩|⟨o,cap,rfl,-⟩<;>rfl
theorem PS.keep {lo:Nat}{σ σ':St}{x:AV}{n:Nat}{pc:List AV}(h:PS lo σ x n pc)(k:Keep σ σ'):PS lo σ' x n pc:=by
 rcases h with h|⟨o,cap,h1,h2,h3,h4,h5,h6,h7⟩
 ·exact .inl h
 ·have:=k.obj o h7;exact .inr ⟨o,cap,h1,h2,h3,by rw[this];exact h4,by rw[this];exact h5,h6,Agp h7 k.nobj⟩
theorem PS.put {lo:Nat}{σ:St}{x:AV}{n:Nat}{pc:List AV}(h:PS lo σ x n pc){p:Nat}(hp:p<lo)(c:List AV):PS lo (σ.put p c) x n pc:=by
 rcases h with h|⟨o,cap,h1,h2,h3,h4,h5,h6,h7⟩
 ·exact .inl h
 ·have:(σ.put p c).obj o=σ.obj o:=Cm Aj6;exact .inr ⟨o,cap,h1,h2,h3,by rw[this];exact h4,by rw[this];exact h5,h6,h7⟩
theorem qS {P:Program}{t:TypeId}{b:Nat}{zc:List Value}{σ0 σ:St}{id2 n lo:Nat}{x:AV}{xs ys:List AV}{K:AV->St->Prop}(ht:Nm P t=some (3,b,zc))(hzc:zc.length=3)(hy:ys.length=3)(hf:ys.all Abs.flat=true)(hb:(n+1)*b<=140737488355328)(hl:n+1<=1099511627776)
  (ac:lo<=σ.nobj) (h0:σ0.nobj<=lo) (hK:Keep σ0 σ) (hx:PS lo σ x n xs) (h:∀x' σ',PS lo σ' x' (n+1) (xs++ys)->σ.nobj<=σ'.nobj->(∀p,p<lo->σ'.obj p=σ.obj p)->Keep σ0 σ'->K x' σ'):Ib P t t x (sl id2 1 ys) σ K:=by
 refine kA (xs:=xs) ht Aj6 hzc Aj6 hf Aj6 hb hl ?_ ?_ ?_
 ·rcases hx with h|⟨o,cap,h1,h2,h3,h4,h5,-,-⟩
  ·exact .inl h
  ·exact .inr ⟨o,cap,h1,h2,h3,h4,h5⟩
 ·rintro o cap cs ⟨c0,e1,e2,rfl⟩ ab aa;rcases hx with⟨rfl,-,-⟩|⟨o',cap',rfl,h2,h3,h4,h5,h6,h7⟩
  ·simp at e1
  ·simp at e1;obtain⟨rfl,rfl⟩:=e1;refine h _ _ (.inr ⟨_,_,rfl,Aj6,e2,by rw[Aj];exact ab,by rw[Aj];exact aa,h6,h7⟩) (Agn _) (fun p hp=>Cm Aj6) (hK.put Aj6 _)
 ·intro cap cs ab hc aa;exact h _ _ (.inr ⟨_,_,rfl,Aj6,hc,by rw[Ao];exact ab,by rw[Ao];exact aa,ac,Aka⟩) Aka (fun p hp=>Ag Aj6) (hK.new _)
theorem jM {P:Program}{N:Nat}{c:Code}{Q:Hg}{s:Sl}{σ0 σ:St}{lo p j n:Nat}{ys pc:List AV}{x:AV}(hK:Keep σ0 σ)(h0:σ0.nobj<=lo)(ab:σ0.nobj<=p)(hp:p<lo)(ac:lo<=σ.nobj)(hx:PS lo σ x n pc)(hy:σ.obj p=ys)(hj:ys[j]?=some x)
  (h:∀(ip:Nat) (σ':St),Keep σ0 σ'->σ'.nobj=σ.nobj->σ'.obj p=ys.set j (sl ip n pc)->(∀o,o<lo->o≠p->σ'.obj o=σ.obj o)->Kf P N c Q s σ'):Kf P N c Q s σ:=by
 rcases hx with⟨rfl,rfl,rfl⟩|⟨o,cap,rfl,h2,h3,h4,h5,h6,h7⟩
 ·refine h 1 σ hK rfl ?_ (fun _ _ _=>rfl);rw[hy];apply Ahi;intro i;by_cases e:j=i
  ·subst e;rw[List.getElem?_set_self (Agy.1 hj).1,hj]
  ·rw[Ajs e]
 ·refine V9 (o:=o) (p:=p) (k:=n*3) h7 Aj6 Aj6 hy hj (by rw[h4];omega) ?_;rw[h5];exact h 0 _ ((hK.put Aj6 _).put ab _) rfl Aj (fun q hq aa=>by rw[Cm aa,Cm Aj6])
theorem xZ {l c:List AV}{off m:Nat}(h1:off+c.length<=m)(h2:m<=l.length):(lsp l off c).take m=lsp (l.take m) off c:=by
 rw[Gk _ _ _ Aj6,Gk _ _ _ (by rw[Ahp];omega),List.take_take,Ahu Aj6,List.drop_take,List.take_append];rw[Aho,Ahp,Ahu Aj6,Aia (by rw[Aho,Ahp];omega)]
theorem Aas {α:Type}{E:α->List AV->Prop}{z:Nat}(hz:∀a c,E a c->c.length=z):∀{l:List α} {cs:List AV} {i:Nat} {a:α} {c:List AV},EL E l cs->i<l.length->E a c->EL E (l.set i a) (lsp cs (i*z) c)
 |[],_,i,_,_,_,hi,_=>by simp at hi
 |b::l,cs,0,a,c,⟨d,r,h1,h2,e⟩,hi,ha=>by
  subst e;have e1:=hz _ _ h1;have e2:=hz _ _ ha;refine⟨c,r,ha,h2,?_⟩;rw[Ahl,Gk _ _ _ (by simp;omega)];simp[show c.length=d.length by omega]
 |b::l,cs,i+1,a,c,⟨d,r,h1,h2,e⟩,hi,ha=>by
  subst e;have e1:=hz _ _ h1;have e2:=hz _ _ ha;have hr:=EL.length hz h2;have aa:i<l.length:=by simpa using hi
  have hb:i*z+z<=r.length:=by rw[hr,<-Ahe];exact Agv _ aa
  refine⟨d,lsp r (i*z) c,h1,Aas hz h2 aa ha,?_⟩;rw[Gk c (d++r) _ (by rw[Aho,Ahe,e1,e2];omega),Gk c r _ (by rw[e2];omega)];rw[Ahe,<-e1,Nat.add_comm (i*d.length),List.take_length_add_append,Ag9,List.drop_length_add_append];simp
theorem PS.set {lo:Nat}{σ:St}{o cap n i:Nat}{pc c:List AV}(h:PS lo σ (gx o n cap) n pc)(hi:i<n)(hc:c.length=3):PS lo (σ.put o (lsp (σ.obj o) (i*3) c)) (gx o n cap) n (lsp pc (i*3) c):=by
 rcases h with⟨h,-,-⟩|⟨o',cap',e,h2,h3,h4,h5,h6,h7⟩
 ·simp at h
 ·simp at e;obtain⟨rfl,rfl⟩:=e;refine .inr ⟨o,cap,rfl,h2,h3,by rw[Aj,Ix];exact h4,?_,h6,h7⟩;rw[Aj,xZ (by rw[hc];omega) (by rw[h4];omega),h5]
theorem nA (lo:Nat)(h0 h1 h3:AV)(hf:([h0,h1,h3]:List AV).all flat=true)(L:List Part)(hL:∀p∈L,p.a.ts.length<=3)(aa:L.length<=64)(X:AV)(pc:List AV)(hP:EL Mk L pc)(a:De)(ida:Nat)(ha:a.ts.length<=3)(σ:St)(hX:PS lo σ X L.length pc):ACalls Tryz.prog 218 [ag [h0,h1,X,h3],ag [ic a.p,sl ida a.ts.length (Ac a.ts)]] σ fun r σ'=>((∃(i:Nat) (p:Part),r=ic i/\L[i]?=some p/\lU a p=true)\/(r=ic (-1)/\∀p∈L,lU a p=false))/\Keep σ σ':=by
 rcases hX with⟨rfl,hn,-⟩|⟨o,cap,rfl,h2,hc,h4,h5,h6,h7⟩
 ·refine ACalls.mono (jA h0 h1 h3 hf a ida σ) ?_;rintro r σ' ⟨rfl,hK⟩;have:L=[]:=Ag5 hn;subst this;exact⟨.inr ⟨rfl,by simp⟩,hK⟩
 ·exact iZ h0 h1 h3 hf L hL aa o cap pc hP a ida ha σ h7 hc h4 h5
structure RdS (neg:Int->Bb->Prop)(q:Qry)(k:Nat)(L:List Part)(Nn:List De):Prop where
 atm:L.map (·.a)=q.parts.map (·.a)
 sub:∀p∈L,∃p0∈q.parts,p.a=p0.a/\p.tups.Sublist p0.tups
 nsub:Nn.Sublist (q.nots.take k)
 uns:∀a∈Nn,Hw a.ts=false
 sol:∀ν,((∀p∈q.parts,Be p.a ν∈p.tups)/\∀a∈q.nots.take k,¬neg a.p (Be a ν))↔((∀p∈L,Be p.a ν∈p.tups)/\∀a∈Nn,¬neg a.p (Be a ν))
theorem RdS.start (neg:Int->Bb->Prop)(q:Qry):RdS neg q 0 q.parts []:=
 ⟨rfl,fun p hp=>⟨p,hp,rfl,Ajt _⟩,by simp,by simp,fun ν=>by simp⟩
theorem Ig {α:Type}{l:List α}{k:Nat}{a:α}(h:l[k]?=some a):l.take (k+1)=l.take k++[a]:=by rw[Ahd,h,Ais]
theorem RdS.keepN {neg:Int->Bb->Prop}{q:Qry}{k:Nat}{L:List Part}{Nn:List De}{a:De}(h:RdS neg q k L Nn)(ha:q.nots[k]?=some a)(hs:Hw a.ts=false):RdS neg q (k+1) L (Nn++[a]):=by
 refine⟨h.atm,h.sub,by rw[Ig ha];exact h.nsub.append (Ajt _),fun b hb=>?_,fun ν=>?_⟩
 ·rcases Ah8.1 hb with hb|hb
  ·exact h.uns b hb
  ·simp at hb;subst hb;exact hs
 ·have:=h.sol ν;rw[Ig ha];simp only[Ah8,Ait,or_imp,forall_and,forall_eq];rw[<-and_assoc,this,and_assoc]
theorem RdS.drop {neg:Int->Bb->Prop}{q:Qry}{k:Nat}{L:List Part}{Nn:List De}{a:De}(h:RdS neg q k L Nn)(ha:q.nots[k]?=some a)(hs:∀ν,¬neg a.p (Be a ν)):RdS neg q (k+1) L Nn:=by
 refine⟨h.atm,h.sub,by rw[Ig ha];exact h.nsub.trans (List.sublist_append_left _ _),h.uns,fun ν=>?_⟩;have:=h.sol ν;rw[Ig ha];simp only[Ah8,Ait,or_imp,forall_and,forall_eq];rw[<-and_assoc,this];exact and_iff_left (hs ν)
theorem RdS.bar {neg:Int->Bb->Prop}{q:Qry}{k i:Nat}{L:List Part}{Nn:List De}{a:De}{p:Part}{l:List Bb}(h:RdS neg q k L Nn)(ha:q.nots[k]?=some a)(hp:L[i]?=some p)(h3:p.a.ts.length<=3)(hw:lU a p=true)(hn:∀t,neg a.p t↔t∈l):RdS neg q (k+1) (L.set i (On l a p)) Nn:=by
 have hi:=(Agy.1 hp).1;have ac:=Ag1 hp;refine⟨?_,fun p' aa=>?_,by rw[Ig ha];exact h.nsub.trans (List.sublist_append_left _ _),h.uns,fun ν=>?_⟩
 ·rw[<-h.atm];apply Ahi;intro n;rw[Aha,Aha];by_cases e:i=n
  ·subst e;rw[List.getElem?_set_self hi,hp];rfl
  ·rw[Ajs e]
 ·rcases Ajm aa with h1|rfl
  ·exact h.sub p' h1
  ·obtain⟨p0,g1,g2,g3⟩:=h.sub p ac;exact⟨p0,g1,g2,Aju.trans g3⟩
 ·have hs:=h.sol ν;rw[Ig ha];simp only[Ah8,Ait,or_imp,forall_and,forall_eq];rw[<-and_assoc,hs,hn];have hb:=Ac0 (l:=l) (a:=a) (p:=p) (ν:=ν) h3 (pwB_iff.1 hw);have hL:(∀p'∈L.set i (On l a p),Be p'.a ν∈p'.tups)↔(∀p'∈L,Be p'.a ν∈p'.tups)/\Be a ν∉l:=by
   constructor
   ·intro g;have g1:=hb.1 (g (On l a p) (List.mem_set hi _));refine⟨fun p' aa=>?_,g1.2⟩;obtain⟨n,ab⟩:=Aif aa;by_cases e:i=n
    ·subst e;rw[hp]at ab;cases ab;exact g1.1
    ·exact g p' (Ag1 (by rw[Ajs e];exact ab))
   ·rintro⟨g1,g2⟩ p' aa;rcases Ajm aa with h1|rfl
    ·exact g1 p' h1
    ·exact hb.2 ⟨g1 p ac,g2⟩
  rw[hL];constructor
  ·rintro⟨⟨x,y⟩,z⟩;exact⟨⟨x,z⟩,y⟩
  ·rintro⟨⟨x,z⟩,y⟩;exact⟨⟨x,y⟩,z⟩
structure Rc (q:Qry):Prop where
 ok:Ou q
 n:QN q
 w:WP q
 wf:kB q
theorem TrimR.ok {q q':Qry}(h:TrimR q q')(hq:Ou q):Ou q'/\q'.nots=q.nots/\∀p∈q'.parts,p∈q.parts:=by
 induction h with
 |refl=>exact⟨hq,rfl,fun p hp=>hp⟩
 |tail h ih=>exact⟨eJ ih.1,ih.2.1,fun p hp=>ih.2.2 p (List.mem_of_mem_eraseP hp)⟩
theorem Aaz {q q':Qry}(h:NarS q q')(hw:kB q):kB q':=fun v hv=>by
 obtain⟨e1,e2,e3⟩:=h.atoms;rw[e2,e3]at hv;obtain⟨p,hp,aa⟩:=hw v hv;have:p.a∈q'.parts.map (·.a):=by rw[e1];exact Aib.2 ⟨p,hp,rfl⟩
 obtain⟨p',h1,h2⟩:=Aib.1 this;exact⟨p',h1,by rw[h2];exact aa⟩
theorem RdS.fin {neg:Int->Bb->Prop}{q:Qry}{L:List Part}{Nn:List De}(h:RdS neg q q.nots.length L Nn)(hA:Rc q):Rc ⟨q.head,L,Nn⟩/\Red neg q ⟨q.head,L,Nn⟩:=by
 have ab:∀a∈Nn,a∈q.nots:=fun a ha=>by
  have:=h.nsub.subset ha;rwa[Ag7]at this
 have aa:=h.sol;rw[Ag7]at aa;have ad:∀p∈q.parts,∃p'∈L,p'.a=p.a:=fun p hp=>by
  have:p.a∈L.map (·.a):=by rw[h.atm];exact Aib.2 ⟨p,hp,rfl⟩
  obtain⟨p',h1,h2⟩:=Aib.1 this;exact⟨p',h1,h2⟩
 refine⟨⟨⟨hA.ok.hd,?_,?_,fun p hp=>?_,fun p hp=>?_,fun p hp=>?_,fun a ha=>hA.ok.na a (ab a ha)⟩,fun p hp t ht=>?_,fun p hp=>?_,fun v hv=>?_⟩,rfl,fun a ha=>?_,fun ν hν=>(aa ν).1 hν,fun ν hν=>⟨ν,(aa ν).2 hν,fun _ _=>rfl⟩⟩
 ·have:=congrArg List.length h.atm;simp at this;rw[this];exact hA.ok.pl
 ·have:=h.nsub.length_le;rw[Ag7]at this;exact Ago this hA.ok.nl
 ·obtain⟨p0,g1,g2,g3⟩:=h.sub p hp;rw[g2];exact hA.ok.pa p0 g1
 ·obtain⟨p0,g1,g2,g3⟩:=h.sub p hp;exact Ago g3.length_le (hA.ok.pt p0 g1)
 ·obtain⟨p0,g1,g2,g3⟩:=h.sub p hp;exact fun t ht=>hA.ok.p3 p0 g1 t (g3.subset ht)
 ·obtain⟨p0,g1,g2,g3⟩:=h.sub p hp;rw[g2];exact hA.n p0 g1 t (g3.subset ht)
 ·obtain⟨p0,g1,g2,g3⟩:=h.sub p hp;rw[g2];exact⟨(hA.w p0 g1).1,fun t ht=>(hA.w p0 g1).2 t (g3.subset ht)⟩
 ·obtain⟨p,hp,ac⟩:=hA.wf v (by
   rcases hv with hv|⟨a,ha,hv⟩
   ·exact .inl hv
   ·exact .inr ⟨a,ab a ha,hv⟩)
  obtain⟨p',h1,h2⟩:=ad p hp;exact⟨p',h1,by rw[h2];exact ac⟩
 ·unfold atomsQ at ha⊢;simp only[Ah2,Ah8]at ha⊢;rcases ha with ha|ha|ha
  ·exact .inl ha
  ·rw[h.atm]at ha;exact .inr (.inl ha)
  ·exact .inr (.inr (ab a ha))
theorem PS.gx {lo:Nat}{σ:St}{x:AV}{n:Nat}{pc:List AV}(h:PS lo σ x n pc)(hn:0<n):∃o cap,x=Abs.gx o n cap/\lo<=o/\o<σ.nobj/\(σ.obj o).length=cap*3/\n<=cap/\(σ.obj o).take (n*3)=pc:=by
 rcases h with⟨-,h,-⟩|⟨o,cap,h1,h2,h3,h4,h5,h6,h7⟩
 ·omega
 ·exact⟨o,cap,h1,h6,h7,h4,h3,h5⟩
def NegOk (neg:Int->Bb->Prop)(M:MM)(q:Qry):Prop:=∀a∈q.nots,∃(k:Nat) (x:Nat×List Bb),a.p=(k:Int)/\M[k]?=some x/\∀t,neg a.p t↔t∈x.2
def Agm (neg:Int->Bb->Prop)(q:Qry)(x:AV):Prop:=∃c',(x=tp [ag c',sc (.bool false)]/\c'.length=4/\c'.all flat=true/\∀ν,¬Lj neg q ν)\/∃q',x=tp [ag c',sc (.bool true)]/\EQ q' c'/\Rc q'/\NE q'/\Red neg q q'/\∀a∈q'.nots,a∈q.nots/\Hw a.ts=false
theorem aE (neg:Int->Bb->Prop)(q:Qry)(c:List AV)(om ot:Nat)(M:MM)(d b:Int)(hc:EQ q c)(hA:Rc q)(hNg:NegOk neg M q)(σ:St)(hM:MOb σ om ot M d b):ACalls Tryz.prog 186 [ptr om 0,ag c] σ fun r σ'=>Agm neg q r/\Keep σ σ':=by
 obtain⟨ih,ip,inn,pc,nc,rfl,hP,cj⟩:=hc;have hpl:=EL.length Ee hP;have d4:=EL.length Ic cj;have hl:=hA.ok.pl;have d8:=hA.ok.nl;have dd:=hA.ok.na;have HM:Akc (MOb σ om ot M d b):=hM;clear hM;refine Z9 86 [.cell 4 191,.tmp 5] Tryz.func186 ?_
 repeat' (first|refine Z1 ?_|(refine Z8 ?_;intro yb ya)|(refine Z4 ?_;clear ya yb)|refine Z3 ?_|exact Zt|(apply ya.out;clear ya yb))
 refine Af (fun m s σ'=>∃(i:Nat) (X:AV) (xs:List AV),m=q.parts.length-i/\i<=q.parts.length/\s 0=ptr om 0/\s 3=ptr σ.nobj 0/\s 4=ptr (σ.nobj+1) 0/\s 6=ptr (σ.nobj+2) 0/\s 18=sl ip q.parts.length pc/\s 19=ic q.parts.length/\s 20=ic i/\Keep σ σ'/\σ.nobj+2<σ'.nobj/\σ'.obj σ.nobj=[ic q.head.p,sl ih q.head.ts.length (Ac q.head.ts),sl ip q.parts.length pc,sl inn q.nots.length nc]/\σ'.obj (σ.nobj+1)=[ic 0,nilS,nilS,nilS]/\σ'.obj (σ.nobj+2)=[ic q.head.p,sl ih q.head.ts.length (Ac q.head.ts),X,nilS]/\PS (σ.nobj+3) σ' X i xs/\Akc (EL Mk (q.parts.take i) xs)) q.parts.length
  ⟨0,nilS,[],Aj6,Aj6,by simp[upd,initS],Aj8,Aj8,Aj8,Aj8,Aj8,rfl,Xs,Akb,?_,?_,?_,.inl ⟨rfl,rfl,rfl⟩,rfl⟩ ?_
 ·rw[Ah Aj6,Ag Aka,Ag Aka,Ao]
 ·rw[Ah Aj6,Ag Aka,Bs Aka Aka]
 ·rw[show σ.nobj+2=σ.nobj+1+1 from rfl,Aj]
 rintro m s σ' ⟨i,X,xs,rfl,hi,h0,h3,h4,h6,d0,dz,dy,hK,ap,cw,aj,ai,hX,hE⟩;have av:=hK.nobj;have cd:=hX.flat;by_cases ak:i<q.parts.length
 ·have ab:=Agz ak;obtain⟨id,idt,r,hd⟩:=E9 hP ab;generalize q.parts[i]=w at hd ab;have HX:Akc (EL Mk (q.parts.take (i+1)) (xs++[ic w.a.p,sl id w.a.ts.length (Ac w.a.ts),sl idt w.tups.length (Dc w.tups)])):=by
   rw[Akc,Ahd,ab,Ais];exact EL.append hE.out (EL.single ⟨id,idt,rfl⟩)
  clear ab hE
  repeat' (first|refine Z1 ?_|(refine Z8 ?_;intro yb ya)|(refine Z4 ?_;clear ya yb)|(refine Z2 ?_ ?_<;>intro h ae<;>try exact Xp)|refine Z3 ?_|exact Zt)
  refine qS (lo:=σ.nobj+3) (σ0:=σ) (by first|exact Er|exact D2) (by rfl) (by rfl) (by rfl) Aj6 Aj6 (by simp only[Aw,Ab,Aa];omega) Aj6 (((hK.new _).put hK.nobj _).lay 1) (hX.keep ((((Keep.refl _).new _).put (Agn _) _).lay 1)) ?_;intro X' σn ci de ax bw;simp only[Aw,Ab,Aa]at de;have eob:∀p,p<σ.nobj+3->σn.obj p=σ'.obj p:=fun p hp=>by rw[ax p hp,Gl,Ah Aj6,Ag Aj6]
  obtain⟨og,cg,rfl,-⟩:=ci.gx Aj6;clear ax hX;refine Z3 ?_
  repeat' (first|refine Z1 ?_|(refine Z8 ?_;intro yb ya)|(refine Z4 ?_;clear ya yb)|refine Z3 ?_|exact Zt|(apply ya.out;clear ya yb))
  refine⟨q.parts.length-(i+1),Aj6,i+1,gx og (i+1) cg,xs++[ic w.a.p,sl id w.a.ts.length (Ac w.a.ts),sl idt w.tups.length (Dc w.tups)],?_⟩
  ((repeat' refine Zi ?_ ?_)<;>first|exact Xq|exact (bw.put Aj6 _)|exact (ci.put Aj6 _)|exact HX|exact Xs)
 ·have hil:i=q.parts.length:=Aj6;subst hil;rw[Ag7]at hE;have dn:=hA.ok.pa;have ba:=hA.ok.pt;have dp:=hA.ok.p3;have b6:Akc (EL Mk q.parts xs/\EL Mm [] []/\RdS neg q 0 q.parts []):=⟨hE.out,rfl,RdS.start neg q⟩;clear hE hi
  repeat' (first|refine Z1 ?_|(refine Z8 ?_;intro yb ya)|(refine Z4 ?_;clear ya yb)|(refine Z2 ?_ ?_<;>intro h ae<;>try exact Xp)|refine Z3 ?_|exact Zt|(apply ya.out;clear ya yb))
  refine Af (fun m s σ'=>∃(k i4:Nat) (X:AV) (L:List Part) (Nn:List De) (xs nxs:List AV),m=q.nots.length-k/\k<=q.nots.length/\s 0=ptr om 0/\s 4=ptr (σ.nobj+1) 0/\s 6=ptr (σ.nobj+2) 0/\s 32=sl inn q.nots.length nc/\s 33=ic q.nots.length/\s 34=ic k/\Keep σ σ'/\σ.nobj+2<σ'.nobj/\σ'.obj (σ.nobj+1)=[ic 0,nilS,nilS,nilS]/\σ'.obj (σ.nobj+2)=[ic q.head.p,sl ih q.head.ts.length (Ac q.head.ts),X,sl i4 Nn.length nxs]/\PS (σ.nobj+3) σ' X L.length xs/\Own σ σ' i4 Nn.length/\nxs.length=Nn.length*2/\Nn.length<=k/\L.length<=64/\Akc (EL Mk L xs/\EL Mm Nn nxs/\RdS neg q k L Nn)) q.nots.length
   ⟨0,1,X,q.parts,[],xs,[],Aj6,Aj6,Aj7,Aj7,Aj7,Aj7,Aj7,Aj8,hK,ap,aj,ai,hX,Own.nil _ _,by simp,by simp,hl,b6⟩ ?_
  clear h0 h3 h4 h6 d0 dz dy hK ap cw aj ai hX cd av ak b6;rintro m s σ' ⟨k,i4,X,L,Nn,xs,nxs,rfl,hk,h0,h4,h6,dx,cr,cq,hK,ap,aj,ai,hX,hO,db,ec,ck,hS⟩;have av:=hK.nobj;have cd:=hX.flat;by_cases ak:k<q.nots.length
  ·have ab:=Agz ak;obtain⟨ida,r,hd⟩:=Jl cj ab;have ad:=Ain ak;have bh:=dd _ ad;obtain⟨ka,x,a0,hx,bu⟩:=hNg _ ad;generalize q.nots[k]=a at hd ab ad bh a0 bu;have cm:∀p∈L,p.a.ts.length<=3/\p.tups.length<=5000/\T3 p.tups:=fun p hp=>by
    obtain⟨p0,g1,g2,g3⟩:=hS.out.2.2.sub p hp;exact⟨by rw[g2];exact dn p0 g1,Ago g3.length_le (ba p0 g1),fun t ht=>dp p0 g1 t (g3.subset ht)⟩
   have HG:Akc (q.nots[k]?=some a/\a∈q.nots/\a.p=(ka:Int)/\M[ka]?=some x/\∀t,neg a.p t↔t∈x.2):=⟨ab,ad,a0,hx,bu⟩;have ba:=fun (σ1:St) (hh:PS (σ.nobj+3) σ1 X L.length xs)=>nA (σ.nobj+3) (ic q.head.p) (sl ih q.head.ts.length (Ac q.head.ts)) (sl i4 Nn.length nxs) rfl L (fun p hp=>(cm p hp).1) ck X xs hS.out.1 a ida bh σ1 hh;have a9:=fun (σ1:St)=>Js a.p ida a.ts Aj6 σ1;have co:=fun (σ1:St) (hh:Keep σ σ1)=>I0 om ot M d b a ida ka x bh a0 hx σ1 (HM.out.keep hh);have bd:=fun (p:Part) (idp idtp:Nat) (g1:p.a.ts.length<=3) (g2:p.tups.length<=5000) (g3:T3 p.tups) (σ1:St) (hh:Keep σ σ1)=>cP om ot M d b p a idp idtp ida ka x g1 g2 g3 bh a0 hx σ1 (HM.out.keep hh);have ao:Akc _:=bd;clear ab ad a0 hx bu bd
   repeat' (first|refine Z1 ?_|(refine Z8 ?_;intro yb ya)|(refine Z4 ?_;clear ya yb)|(refine Z2 ?_ ?_<;>intro h ae<;>try exact Xp)|(refine Z5 ?_;refine Xi (ba _ (hX.keep (((Keep.refl _).new _).put (Agn _) _))) ?_;rintro _ _ ⟨(⟨i,p,rfl,hp,b8⟩|⟨rfl,d3⟩),ac⟩)|refine Z3 ?_|exact Zt|(apply ya.out;clear ya yb))
   ·rename_i σ2;have af:=ac.nobj;have aa:=ac.obj;simp only[Ab,Aa]at af aa;have bm:=((hK.new _).put hK.nobj _).trans ac;have o10:=aa σ'.nobj Aj6;rw[Aj]at o10;have hi:i<L.length:=(Agy.1 hp).1;obtain⟨b9,bq,c8⟩:=cm p (Ag1 hp);have a8:=(hX.keep (((Keep.refl _).new _).put (Agn _) _)).keep ac;obtain⟨o,cap,rfl,d7,cc,cf,eb,b5⟩:=a8.gx Aj6;obtain⟨idp,idtp,rp,ce⟩:=E9 hS.out.1 hp;have b2:=EL.length Ee hS.out.1;have da:(σ2.obj o).drop (i*3)=ic p.a.p::sl idp p.a.ts.length (Ac p.a.ts)::sl idtp p.tups.length (Dc p.tups)::(rp++(σ2.obj o).drop (L.length*3)):=by
     conv=>lhs;rw[<-Aje (L.length*3) (σ2.obj o),b5]
     rw[Ah9 (by rw[b2];omega),ce];rfl
    have o6:σ2.obj (σ.nobj+2)=[ic q.head.p,sl ih q.head.ts.length (Ac q.head.ts),gx o L.length cap,sl i4 Nn.length nxs]:=by rw[aa _ Aj6,Ah Aj6,Ag Aj6,ai]
    have o4:σ2.obj (σ.nobj+1)=[ic 0,nilS,nilS,nilS]:=by rw[aa _ Aj6,Ah Aj6,Ag Aj6,aj]
    have bi:Own σ σ2 i4 Nn.length:=Own.keep (Own.put (Own.new hO _) _ _) ac;have cp:=ao.out p idp idtp b9 bq c8;have au:Akc (∀idn,EL Mk (L.set i (On x.2 a p)) (lsp xs (i*3) [ic p.a.p,sl idp p.a.ts.length (Ac p.a.ts),sl idn (On x.2 a p).tups.length (Dc (On x.2 a p).tups)])/\EL Mm Nn nxs/\RdS neg q (k+1) (L.set i (On x.2 a p)) Nn):=fun idn=>⟨Aas Ee hS.out.1 hi ⟨idp,idn,rfl⟩,hS.out.2.1,hS.out.2.2.bar HG.out.1 hp b9 b8 HG.out.2.2.2.2⟩;have ea:i*3+3<=cap*3:=Aj6;have c9:o≠σ.nobj+2:=Aj6;have br:o≠σ.nobj+1:=Aj6;clear b5 ce b2 ao hS aj ai hX ba a9 co aa hK ap hO b8 hp h ae;generalize On x.2 a p=bp at*
    refine Bt (Q:=fun e s' σ''=>e= .normal/\s' 0=ptr om 0/\s' 4=ptr (σ.nobj+1) 0/\s' 6=ptr (σ.nobj+2) 0/\s' 32=sl inn q.nots.length nc/\s' 33=ic q.nots.length/\s' 34=ic k/\Keep σ σ''/\σ.nobj+2<σ''.nobj/\σ''.obj (σ.nobj+1)=[ic 0,nilS,nilS,nilS]/\σ''.obj (σ.nobj+2)=[ic q.head.p,sl ih q.head.ts.length (Ac q.head.ts),gx o L.length cap,sl i4 Nn.length nxs]/\Own σ σ'' i4 Nn.length/\∃idn,PS (σ.nobj+3) σ'' (gx o L.length cap) L.length (lsp xs (i*3) [ic p.a.p,sl idp p.a.ts.length (Ac p.a.ts),sl idn bp.tups.length (Dc bp.tups)])) ?_ ?_
    ·refine A1 Ai (fun _=>True) [12] [0,1,2,3,4,5,6,7,8,9] 3 #[true,true,true,true,true,true,true,true,true,true,false,false,false] Aj9 (fun _ _ _ h=>by cases h.1) ?_;intro yb ya;refine Z3 ?_;refine ya.out _ ?_;clear ya yb;refine Am (i:=10) Aj9 ?_;refine Aq ?_;intro yb ya;refine Z3 ?_;refine ACalls.mono (cp _ bm) ?_;rintro _ σ5 ⟨⟨idn,rfl⟩,ah⟩;have knb:=ah.nobj;have bf:=ah.obj;have di:(σ5.obj o).length=cap*3:=by rw[bf o cc,cf]
     refine Z3 ?_;refine ya.out _ _ ⟨Ap ah,?_⟩;clear ya yb;refine Am (i:=11) Aj9 ?_;refine Aq ?_;intro yb ya;refine Z3 ?_;refine ya.out _ _ ⟨Ap ah,?_⟩;clear ya yb;refine Am (i:=12) Aj9 ?_;refine Aq ?_;intro yb ya;refine Z3 ?_;refine ya.out _ _ ⟨Br rfl,?_⟩;clear ya yb;refine A2 Aj9 ⟨rfl,Aj7,Aj7,Aj7,Aj7,Aj7,Aj7,(bm.trans ah).put Aj6 _,by simp only[Ab];omega,by rw[Cm br.symm,bf _ Aj6,o4],by rw[Cm c9.symm,bf _ Aj6,o6],Own.put (Own.keep bi ah) _ _,idn,by rw[<-bf o cc];exact PS.set (c:=[ic p.a.p,sl idp p.a.ts.length (Ac p.a.ts),sl idn bp.tups.length (Dc bp.tups)]) (a8.keep ah) hi rfl⟩
    ·rintro e s2 σ3 ⟨rfl,g0,g4,g6,g32,g33,g34,ed,d6,oc1,oc2,ds,idn,dm⟩;have cu:=au.out idn;have d2:Akc _:=cu;clear h0 h4 h6 dx cr cq a8 bi o6 o4 da au cu cp cf o10
     repeat' (first|refine Z1 ?_|(refine Z8 ?_;intro yb ya)|(refine Z4 ?_;clear ya yb)|refine Z3 ?_|exact Zt|(apply ya.out;clear ya yb))
     refine⟨q.nots.length-(k+1),Aj6,k+1,i4,gx o L.length cap,L.set i bp,Nn,lsp xs (i*3) [ic p.a.p,sl idp p.a.ts.length (Ac p.a.ts),sl idn bp.tups.length (Dc bp.tups)],nxs,?_⟩
     ((repeat' refine Zi ?_ ?_)<;>first|exact Xq|exact (by rw[Ajr];exact dm)|exact (by rw[Ajr];exact ck)|exact d2|exact ds|exact Xs)
   ·rename_i σ2;have af:=ac.nobj;have aa:=ac.obj;simp only[Ab,Aa]at af aa;have bm:=((hK.new _).put hK.nobj _).trans ac;have o10:=aa σ'.nobj Aj6;rw[Aj]at o10;have o6:σ2.obj (σ.nobj+2)=[ic q.head.p,sl ih q.head.ts.length (Ac q.head.ts),X,sl i4 Nn.length nxs]:=by rw[aa _ Aj6,Ah Aj6,Ag Aj6,ai]
    have o4:σ2.obj (σ.nobj+1)=[ic 0,nilS,nilS,nilS]:=by rw[aa _ Aj6,Ah Aj6,Ag Aj6,aj]
    have bi:Own σ σ2 i4 Nn.length:=Own.keep (Own.put (Own.new hO _) _ _) ac;have a8:=(hX.keep (((Keep.refl _).new _).put (Agn _) _)).keep ac;clear ao aj ai hX ba aa hK hO ac
    repeat' (first|refine Z1 ?_|(refine Z8 ?_;intro yb ya)|(refine Z4 ?_;clear ya yb)|(refine Z2 ?_ ?_<;>intro h ae<;>try exact Xp)|(refine Z6 ?_;intro idn σn dr bw b0 be d1 ct)|(refine Z5 ?_;first|(refine Xi (a9 _) ?_;rintro _ _ ⟨rfl,ah⟩;(have cy:=ah.nobj;have am:=ah.obj;have cn:=bm.trans ah;have o11:=am σ'.nobj Aj6;rw[o10]at o11;have o12:=am (σ.nobj+2) Aj6;rw[o6]at o12;have o13:=am (σ.nobj+1) Aj6;rw[o4]at o13;have dt:=Own.keep bi ah;have ch:=a8.keep ah))|(refine Xi (co _ cn) ?_;rintro _ _ ⟨rfl,bc⟩;(have cx:=bc.nobj;have bn:=bc.obj;have dw:=cn.trans bc)))|refine Z3 ?_|exact Zt|(apply ya.out;clear ya yb))
    ·have au:Akc (EL Mk L xs/\EL Mm (Nn++[a]) (nxs++[ic a.p,sl ida a.ts.length (Ac a.ts)])/\RdS neg q (k+1) L (Nn++[a])):=⟨hS.out.1,EL.append hS.out.2.1 (EL.single ⟨ida,rfl⟩),hS.out.2.2.keepN HG.out.1 (by assumption)⟩;have dj:PS (σ.nobj+3) σn X L.length xs:=by
      have:=ch;unfold PS at this⊢;rw[b0,be];exact this
     refine⟨q.nots.length-(k+1),Aj6,k+1,idn,X,L,Nn++[a],xs,nxs++[ic a.p,sl ida a.ts.length (Ac a.ts)],?_⟩
     ((repeat' refine Zi ?_ ?_)<;>first|exact Xq|exact (bw.put Aj6 _)|exact (dj.put Aj6 _)|exact (by simpa using Own.put dr _ _)|exact au|exact Xs)
    ·have bo:Hw a.ts=true:=by assumption
     exact⟨_,rfl,⟨_,.inl ⟨rfl,rfl,rfl,fun ν hν=>hν.2 a HG.out.2.1 ((HG.out.2.2.2.2 _).2 (by rw[Pe bo];simpa using h))⟩⟩,dw.put Aj6 _⟩
    ·have bo:Hw a.ts=true:=by assumption
     have au:Akc (EL Mk L xs/\EL Mm Nn nxs/\RdS neg q (k+1) L Nn):=⟨hS.out.1,hS.out.2.1,hS.out.2.2.drop HG.out.1 (fun ν hn=>by
      have:=(HG.out.2.2.2.2 _).1 hn;rw[Pe bo]at this
      simp[this]at h)⟩
     refine⟨q.nots.length-(k+1),Aj6,k+1,i4,X,L,Nn,xs,nxs,?_⟩
     ((repeat' refine Zi ?_ ?_)<;>first|exact Xq|exact (ch.keep bc)|exact (Own.keep dt bc)|exact au|exact (by rw[bn _ Aj6];assumption)|exact Xs)
  ·have df:k=q.nots.length:=Aj6;subst df;obtain⟨an,dl⟩:=hS.out.2.2.fin hA;have HU:Akc (∀a∈Nn,a∈q.nots/\Hw a.ts=false):=fun a ha=>⟨by have:=hS.out.2.2.nsub.subset ha;rwa[Ag7]at this,hS.out.2.2.uns a ha⟩;refine jM (lo:=σ.nobj+3) (p:=σ.nobj+2) (j:=2) hK Aj6 Aj6 Aj6 Aj6 hX ai rfl ?_;intro ip1 σf bz d5 obf ca;have obf2:σf.obj (σ.nobj+2)=[ic q.head.p,sl ih q.head.ts.length (Ac q.head.ts),sl ip1 L.length xs,sl i4 Nn.length nxs]:=obf;have o1f:σf.obj (σ.nobj+1)=[ic 0,nilS,nilS,nilS]:=by rw[ca _ Aj6 Aj6,aj]
   have dc:σ.nobj+2<σf.nobj:=Aj6;have bb:=fun σ=>tK ⟨q.head,L,Nn⟩ [ic q.head.p,sl ih q.head.ts.length (Ac q.head.ts),sl ip1 L.length xs,sl i4 Nn.length nxs] ⟨ih,ip1,i4,xs,nxs,rfl,hS.out.1,hS.out.2.1⟩ an.ok an.n σ;clear hX aj ai hK hS hO db hk ca obf ap ak av;have av:=bz.nobj
   repeat' (first|refine Z1 ?_|(refine Z8 ?_;intro yb ya)|(refine Z4 ?_;clear ya yb)|(refine Z2 ?_ ?_<;>intro h ae<;>try exact Xp)|(refine Z5 ?_;refine Xi (bb _) ?_;rintro _ _ ⟨⟨_,q1,qp,rfl,⟨ih1,ip1,in1,pc1,nc1,rfl,bv,dv⟩,n1,n2,n3,n4⟩,ac⟩;(have N3:Akc (q1=kL qp (Cb (atomsQ qp))):=n3;clear n3;have af:=ac.nobj;have aa:=ac.obj;have bl:=bz.trans ac))|refine Z3 ?_|exact Zt|(apply ya.out;clear ya yb))
   rename_i σ1;have o1:σ1.obj (σ.nobj+1)=[ic 0,nilS,nilS,nilS]:=by rw[aa _ Aj6,o1f]
   have b3:WP q1:=n2.wp an.w;have bg:Ou q1:=n2.ok an.ok;have cb:QN q1:=n2.n an.n;have ay:q1.nots=Nn:=n2.atoms.2.2;have b7:Red neg q q1:=dl.trans (n2.red an.w);have aw:kB q1:=Aaz n2 an.wf;have az:Nrw q1:=by
    obtain⟨g1,g2⟩:=(fN (Cb (atomsQ qp)) qp).2 (by rw[<-N3.out];exact n4);rw[N3.out,g1];exact Aem g2
   have b1:Akc (WP q1/\Ou q1/\QN q1/\q1.nots=Nn/\Red neg q q1/\kB q1/\Nrw q1):=⟨b3,bg,cb,ay,b7,aw,az⟩;clear b3 cb ay b7 aw az n1 n2 N3 n4 aa ac bb;have d9:=bg.pl;have c5:=bg.pt;clear bg;have c7:=EL.length Ee bv
   refine Af (fun m s σ2=>∃j:Nat,m=q1.parts.length-j/\j<=q1.parts.length/\s 4=ptr (σ.nobj+1) 0/\s 6=ptr (σ.nobj+2) 0/\s 72=sl ip1 q1.parts.length pc1/\s 73=ic q1.parts.length/\s 74=ic j/\Keep σ σ2/\σ.nobj+2<σ2.nobj/\σ2.obj (σ.nobj+1)=[ic 0,nilS,nilS,nilS]/\σ2.obj (σ.nobj+2)=[ic q1.head.p,sl ih1 q1.head.ts.length (Ac q1.head.ts),sl ip1 q1.parts.length pc1,sl in1 q1.nots.length nc1]/\Akc (∀p∈q1.parts.take j,p.tups≠[])) q1.parts.length
    ⟨0,Aj6,Aj6,Aj7,Aj7,Aj8,Aj8,rfl,bl.put Aj6 _,by simp only[Ab];omega,by rw[Ah Aj6,o1],by rw[Aj],by simp[Akc]⟩ ?_
   clear h4 h6 cr cq o1 bl af bz;rintro m s σ2 ⟨j,rfl,hj,h4,h6,eg,ef,ee,hK,ap,aj,ai,hJ⟩;have av:=hK.nobj;by_cases ak:j<q1.parts.length
   ·have ab:=Agz ak;obtain⟨id,idt,r,hd⟩:=E9 bv ab;have ad:=Ain ak;have cz:=c5 _ ad;generalize q1.parts[j]=w at hd ab ad cz;by_cases he:w.tups=[]
    ·have b4:w.tups.length=0:=by rw[he];rfl
     have HF:Akc (∀ν,¬Lj neg q ν):=fun ν hν=>by
      have h1:=(b1.out.2.2.2.2.1.to ν hν).1 w ad;rw[he]at h1;cases h1
     have hb:((w.tups.length:Int)==0)=true:=by rw[b4];rfl
     clear ab b4 he hJ
     repeat' (first|refine Z1 ?_|(refine Z8 ?_;intro yb ya)|(refine Z4 ?_;clear ya yb)|(refine Z2 ?_ ?_<;>intro h ae<;>try exact Xp)|refine Z3 ?_|exact Zt|(apply ya.out;clear ya yb))
     exact⟨_,rfl,⟨_,.inl ⟨rfl,rfl,rfl,HF.out⟩⟩,((hK.new _).put hK.nobj _).put Aj6 _⟩
    ·have hb:((w.tups.length:Int)==0)=false:=by
      have:w.tups.length≠0:=fun h=>he (Ag5 h);simp;exact he
     have HJ:Akc (∀p∈q1.parts.take (j+1),p.tups≠[]):=by
      rw[Akc,Ahd,ab,Ais];intro p hp;rcases Ah8.1 hp with h|h
      ·exact hJ.out p h
      ·simp at h;subst h;exact he
     clear ab he hJ
     repeat' (first|refine Z1 ?_|(refine Z8 ?_;intro yb ya)|(refine Z4 ?_;clear ya yb)|(refine Z2 ?_ ?_<;>intro h ae<;>try exact Xp)|refine Z3 ?_|exact Zt|(apply ya.out;clear ya yb))
     refine⟨q1.parts.length-(j+1),Aj6,j+1,?_⟩
     ((repeat' refine Zi ?_ ?_)<;>first|exact Xq|exact HJ|exact Xs)
   ·have dh:j=q1.parts.length:=Aj6;subst dh;rw[Ag7]at hJ;obtain⟨a1,a2,a3,a4,a5,a6,a7⟩:=b1.out;have dk:=fun σ=>mY q1 _ ⟨ih1,ip1,in1,pc1,nc1,rfl,bv,dv⟩ a2 σ;have cv:Akc (NE q1):=hJ.out;clear a1 a2 a3 a4 a5 a6 a7 hJ
    repeat' (first|refine Z1 ?_|(refine Z8 ?_;intro yb ya)|(refine Z4 ?_;clear ya yb)|(refine Z2 ?_ ?_<;>intro h ae<;>try exact Xp)|(refine Z5 ?_;refine Xi (dk _) ?_;rintro _ _ ⟨⟨_,q2,rfl,⟨ih2,ip2,in2,pc2,nc2,rfl,dq,du⟩,c6,hR2⟩,ac⟩;(have af:=ac.nobj;have aa:=ac.obj;have bl:=hK.trans ac))|refine Z3 ?_|exact Zt|(apply ya.out;clear ya yb))
    obtain⟨a1,a2,a3,a4,a5,a6,a7⟩:=b1.out;obtain⟨t1,t2,t3⟩:=hR2.red (neg:=neg) a1 cv.out a7;obtain⟨-,u2,u3⟩:=hR2.ok a2;exact⟨_,rfl,⟨_,.inr ⟨q2,rfl,⟨ih2,ip2,in2,pc2,nc2,rfl,dq,du⟩,⟨c6,fun p hp=>a3 p (u3 p hp),fun p hp=>a1 p (u3 p hp),t3 a6⟩,fun p hp=>cv.out p (u3 p hp),a5.trans t1,fun a ha=>HU.out a (by rw[<-a4,<-u2];exact ha)⟩⟩,bl.put Aj6 _⟩
theorem Lz (v n:Int)(p:Part):(H5 v n p).a.ts.length=p.a.ts.length/\(H5 v n p).tups.length<=p.tups.length/\∀t∈(H5 v n p).tups,t∈p.tups:=by
 unfold H5;split
 ·exact⟨by simp[Bf],Ai6 _ _,fun t ht=>(Ai7.1 ht).1⟩
 ·exact⟨rfl,Agn _,fun t ht=>ht⟩
theorem putP_has {v n:Int}{p:Part}{w:Int}:A7 (H5 v n p).a.ts w=true↔A7 p.a.ts w=true/\w≠v:=by
 unfold H5;by_cases h:A7 p.a.ts v=true
 ·rw[if_pos h];exact hasV_put (a:=p.a)
 ·rw[if_neg h];exact⟨fun hw=>⟨hw,fun e=>h (e ▸ hw)⟩,fun hw=>hw.1⟩
theorem S4 {q:Qry}{v n w:Int}(h:inQ (C2 v n q) w):inQ q w/\w≠v:=by
 obtain⟨a,ha,hw⟩:=h;unfold atomsQ C2 at ha;simp only[Ah2,Ah8,Aib]at ha;rcases ha with rfl|⟨p',⟨p,hp,rfl⟩,rfl⟩|⟨b,hb,rfl⟩
 ·have:=hasV_put.1 hw;exact⟨⟨q.head,by simp[atomsQ],this.1⟩,this.2⟩
 ·have:=putP_has.1 hw;exact⟨⟨p.a,Kr hp,this.1⟩,this.2⟩
 ·have:=hasV_put.1 hw;exact⟨⟨b,by simp[atomsQ,hb],this.1⟩,this.2⟩
theorem fV {q:Qry}{v n:Int}(h:Rc q):Rc (C2 v n q):=by
 have hm:∀p∈(C2 v n q).parts,∃p0∈q.parts,H5 v n p0=p:=fun p hp=>Aib.1 hp;have ab:∀a∈(C2 v n q).nots,∃a0∈q.nots,Fq v n a0=a:=fun a ha=>Aib.1 ha;refine⟨⟨by simp[C2,Fq,Bf];exact h.ok.hd,by simp[C2];exact h.ok.pl,by simp[C2];exact h.ok.nl,fun p hp=>?_,fun p hp=>?_,fun p hp=>?_,?_⟩,fun p hp t ht=>?_,Ad2 h.w,fun w hw=>?_⟩
 ·obtain⟨p0,h0,rfl⟩:=hm p hp;rw[(Lz v n p0).1];exact h.ok.pa p0 h0
 ·obtain⟨p0,h0,rfl⟩:=hm p hp;exact Ago (Lz v n p0).2.1 (h.ok.pt p0 h0)
 ·obtain⟨p0,h0,rfl⟩:=hm p hp;exact fun t ht=>h.ok.p3 p0 h0 t ((Lz v n p0).2.2 t ht)
 ·intro a ha;obtain⟨a0,h0,rfl⟩:=ab a ha;simp[Fq,Bf];exact h.ok.na a0 h0
 ·obtain⟨p0,h0,rfl⟩:=hm p hp;rw[(Lz v n p0).1];exact h.n p0 h0 t ((Lz v n p0).2.2 t ht)
 ·have aa:(A7 q.head.ts w=true\/∃a∈q.nots,A7 a.ts w=true)/\w≠v:=by
   rcases hw with hw|⟨a,ha,hw⟩
   ·have:=hasV_put.1 hw;exact⟨.inl this.1,this.2⟩
   ·obtain⟨a0,h0,rfl⟩:=ab a ha;have:=hasV_put.1 hw;exact⟨.inr ⟨a0,h0,this.1⟩,this.2⟩
  obtain⟨p,hp,ac⟩:=h.wf w aa.1;exact⟨H5 v n p,Aib.2 ⟨p,hp,rfl⟩,putP_has.2 ⟨ac,aa.2⟩⟩
theorem Lx {q q':Qry}(h:Rc q)(hh:q'.head.ts.length<=3)(hp:q'.parts.Sublist q.parts)(hn:q'.nots.Sublist q.nots)(hw:kB q'):Rc q':=
 ⟨⟨hh,Ago hp.length_le h.ok.pl,Ago hn.length_le h.ok.nl,fun p aa=>h.ok.pa p (hp.subset aa),fun p aa=>h.ok.pt p (hp.subset aa),fun p aa=>h.ok.p3 p (hp.subset aa),fun a ha=>h.ok.na a (hn.subset ha)⟩,
  fun p aa=>h.n p (hp.subset aa),fun p aa=>h.w p (hp.subset aa),hw⟩
theorem Vl {q:Qry}(hw:kB q){v:Int}(h:inQ q v):∃p∈q.parts,A7 p.a.ts v=true:=by
 obtain⟨a,ha,hv⟩:=h;unfold atomsQ at ha;simp only[Ah2,Ah8,Aib]at ha;rcases ha with rfl|⟨p,hp,rfl⟩|ha
 ·exact hw v (.inl hv)
 ·exact⟨p,hp,hv⟩
 ·exact hw v (.inr ⟨a,ha,hv⟩)
theorem dI {q:Qry}{rs:List Int}(hw:kB q)(hC:Fa (atomsQ q) rs rs)(hh:∀v,A7 q.head.ts v=true->v∈rs):kB (A5 q rs):=fun v hv=>by
 have hr:v∈rs/\∃p∈q.parts,A7 p.a.ts v=true:=by
  rcases hv with h|⟨a,ha,h⟩
  ·exact⟨hh v h,hw v (.inl h)⟩
  ·obtain⟨h1,h2⟩:=Ai7.1 ha;exact⟨hC a (by unfold atomsQ;simp[h1]) h2 v (hasV_iff.1 h),hw v (.inr ⟨a,h1,h⟩)⟩
 obtain⟨h1,p,hp,aa⟩:=hr;exact⟨p,Ai7.2 ⟨hp,Ahz.2 ⟨v,h1,aa⟩⟩,aa⟩
theorem Aa0 {q:Qry}{rs:List Int}(hw:kB q)(hC:Fa (atomsQ q) rs rs):kB (H0 q rs):=fun v hv=>by
 rcases hv with h|⟨a,ha,h⟩
 ·simp[H0,A7]at h
 ·obtain⟨h1,h2⟩:=Ai7.1 ha;obtain⟨p,hp,aa⟩:=hw v (.inr ⟨a,h1,h⟩);refine⟨p,Ai7.2 ⟨hp,?_⟩,aa⟩;cases hb:I9 rs p.a with
  |false=>rfl
  |true=>
   have:=hC p.a (Kr hp) hb v (hasV_iff.1 aa);have:I9 rs a=true:=Ahz.2 ⟨v,this,h⟩;rw[this]at h2;cases h2
theorem NegOk.sub {neg:Int->Bb->Prop}{M:MM}{q q':Qry}(h:NegOk neg M q)(hs:∀a∈q'.nots,∃b∈q.nots,a.p=b.p):NegOk neg M q':=fun a ha=>by
 obtain⟨b,hb,e⟩:=hs a ha;rw[e];exact h b hb
theorem NegOk.put {neg:Int->Bb->Prop}{M:MM}{q:Qry}(h:NegOk neg M q)(v n:Int):NegOk neg M (C2 v n q):=h.sub fun a ha=>by
 obtain⟨b,hb,rfl⟩:=Aib.1 ha;exact⟨b,hb,rfl⟩
theorem NegOk.near {neg:Int->Bb->Prop}{M:MM}{q:Qry}(h:NegOk neg M q)(rs:List Int):NegOk neg M (A5 q rs):=h.sub fun a ha=>⟨a,(Ai7.1 ha).1,rfl⟩
theorem NegOk.far {neg:Int->Bb->Prop}{M:MM}{q:Qry}(h:NegOk neg M q)(rs:List Int):NegOk neg M (H0 q rs):=h.sub fun a ha=>⟨a,(Ai7.1 ha).1,rfl⟩
theorem wH {a:De}(h:Hw a.ts=false):∃v,A7 a.ts v=true:=by
 unfold Hw at h;rw[Ajg]at h;obtain⟨⟨b,w⟩,h1,h2⟩:=h;cases b with
 |false=>simp at h2
 |true=>exact⟨w,hasV_iff.2 h1⟩
def S8 (neg:Int->Bb->Prop)(om ot:Nat)(M:MM)(d b:Int)(V:List Int):Prop:=∀(q:Qry) (c:List AV),EQ q c->Rc q->NegOk neg M q->QV q->q.head.ts=[]->(∀v,inQ q v->v∈V)->∀σ,MOb σ om ot M d b->ACalls Tryz.prog 187 [ptr om 0,ag c] σ fun r σ'=>(∃b,r=sc (.bool b)/\(b=true↔∃ν,Lj neg q ν))/\Keep σ σ'
theorem Vu (neg:Int->Bb->Prop)(om ot:Nat)(M:MM)(d b:Int)(V:List Int)(hH:S8 neg om ot M d b V)(q:Qry)(c:List AV)(v:Int)(hc:EQ q c)(hA:Rc q)(hNg:NegOk neg M q)(hV:QV q)(hh:q.head.ts=[])(a0:∀w,inQ q w->w≠v->w∈V)(σ:St)(hM:MOb σ om ot M d b):ACalls Tryz.prog 223 [ptr om 0,ag c,ic v] σ fun r σ'=>(∃b,r=sc (.bool b)/\(b=true↔∃n∈Lb q v,∃ν,Lj neg (C2 v n q) ν))/\Keep σ σ':=by
 have au:=fun σ=>Ky q c v hc hA.ok hA.n σ;have a9:=Tk hA.n v;have ak:=fun n σ=>Vr q c v n hc hA.ok σ;have HM:Akc (MOb σ om ot M d b):=hM;clear hM;have a6:∀(n:Int) (c2:List AV),EQ (C2 v n q) c2->∀σ1,Keep σ σ1->ACalls Tryz.prog 187 [ptr om 0,ag c2] σ1 fun r σ'=>(∃b,r=sc (.bool b)/\(b=true↔∃ν,Lj neg (C2 v n q) ν))/\Keep σ1 σ':=fun n c2 h2 σ1 ay=>
  hH _ c2 h2 (fV hA) (hNg.put v n) (fun a ha w hw=>by
   obtain⟨⟨b,hb,a3⟩,-⟩:=S4 (q:=q) (v:=v) (n:=n) (w:=w) ⟨a,ha,hasV_iff.2 hw⟩;exact hV b hb w (hasV_iff.1 a3)) (by simp[C2,Fq,Bf,hh]) (fun w hw=>by
   obtain⟨h1,h2⟩:=S4 hw
   exact a0 w h1 h2) σ1 (HM.out.keep ay)
 clear hh;obtain⟨ih,ip,inn,pc,nc,rfl,-,-⟩:=hc;generalize Lb q v=vs at*
 have ba:=Bm vs;refine Z9 26 [.tmp 6] Tryz.func223 ?_
 repeat' (first|refine Z1 ?_|(refine Z8 ?_;intro yb ya)|(refine Z4 ?_;clear ya yb)|(refine Z5 ?_;refine Xi (au _) ?_;rintro _ _ ⟨⟨idv,rfl⟩,af⟩;(have ad:=af.nobj;have ab:=af.obj;have ae:=((Keep.refl σ).new _).trans af;simp only[Aa]at ad ab))|refine Z3 ?_|exact Zt|(apply ya.out;clear ya yb))
 rename_i σ1;have o0:σ1.obj σ.nobj=[ic q.head.p,sl ih q.head.ts.length (Ac q.head.ts),sl ip q.parts.length pc,sl inn q.nots.length nc]:=by rw[ab _ Aj6,Ao]
 clear ab af au
 refine Af (fun m s σ'=>∃j:Nat,m=vs.length-j/\j<=vs.length/\s 0=ptr om 0/\s 2=ic v/\s 4=ptr σ.nobj 0/\s 12=sl idv vs.length (Al vs)/\s 13=ic vs.length/\s 14=ic j/\Keep σ σ'/\σ.nobj<σ'.nobj/\σ'.obj σ.nobj=[ic q.head.p,sl ih q.head.ts.length (Ac q.head.ts),sl ip q.parts.length pc,sl inn q.nots.length nc]/\Akc (∀n∈vs.take j,¬ ∃ν,Lj neg (C2 v n q) ν)) vs.length
  ⟨0,Aj6,Aj6,by simp[upd,initS],by simp[upd,initS],Aj8,Aj8,Aj8,rfl,ae,Aj6,o0,by simp[Akc]⟩ ?_
 clear ae o0 ad;rintro m s σ' ⟨j,rfl,hj,h0,h2,h4,bg,bf,be,hK,bc,ob,hN⟩;have a8:=hK.nobj;by_cases ao:j<vs.length
 ·have aa:=Agz ao;obtain⟨r,hd⟩:=Dl aa;have ac:=Ain ao;generalize vs[j]=n at hd aa ac;have HG:Akc (n∈vs/\vs[j]?=some n):=⟨ac,aa⟩;clear aa ac;have ak:=ak n
  repeat' (first|refine Z1 ?_|(refine Z8 ?_;intro yb ya)|(refine Z4 ?_;clear ya yb)|(refine Z2 ?_ ?_<;>intro h aj<;>try exact Xp)|(refine Z5 ?_;first|(refine Xi (ak _) ?_;rintro _ _ ⟨⟨_,rfl,ih2,ip2,in2,pc2,nc2,rfl,a4,a5⟩,an⟩;(have ax:=an.nobj;have aw:=an.obj;have ae:=hK.trans an;have a7:=a6 n _ ⟨ih2,ip2,in2,pc2,nc2,rfl,a4,a5⟩))|(refine Xi (a7 _ ((ae.new _).put Aj6 _)) ?_;rintro _ _ ⟨⟨bb,rfl,ap⟩,am⟩;(have ai:=am.nobj;have ah:=am.obj;have bd:=((ae.new _).put Aj6 _).trans am;have av:Akc _:=ap;clear ap;simp only[Ab,Aa]at ai ah)))|refine Z3 ?_|exact Zt|(apply ya.out;clear ya yb))
  ·exact⟨_,rfl,⟨true,rfl,fun _=>⟨n,HG.out.1,av.out.1 (by assumption)⟩,fun _=>rfl⟩⟩
  ·have HN:Akc (∀n∈vs.take (j+1),¬ ∃ν,Lj neg (C2 v n q) ν):=by
    rw[Akc,Ahd,HG.out.2,Ais];intro u hu;rcases Ah8.1 hu with h'|h'
    ·exact hN.out u h'
    ·simp at h';subst h';intro hex;have:=av.out.2 hex;rw[this]at h;cases h
   refine⟨vs.length-(j+1),Aj6,j+1,?_⟩
   ((repeat' refine Zi ?_ ?_)<;>first|exact Xq|exact HN|exact Xs)
 ·have az:j=vs.length:=Aj6;subst az;rw[Ag7]at hN
  repeat' (first|refine Z1 ?_|(refine Z8 ?_;intro yb ya)|(refine Z4 ?_;clear ya yb)|(refine Z2 ?_ ?_<;>intro h aj<;>try exact Xp)|refine Z3 ?_|exact Zt|(apply ya.out;clear ya yb))
  first|exact⟨_,rfl,⟨false,rfl,(fun h=>by cases h),fun⟨n,h1,h2⟩=>absurd h2 (hN.out n h1)⟩,hK⟩|exact⟨_,rfl,⟨false,rfl,(fun h=>by cases h),fun⟨n,h1,h2⟩=>absurd h2 (hN.out n h1)⟩⟩
theorem Pv {q:Qry}{rs:List Int}{v:Int}(h:inQ (A5 q rs) v):inQ q v:=by
 obtain⟨a,ha,hv⟩:=h;refine⟨a,?_,hv⟩;unfold atomsQ A5 at ha;unfold atomsQ;simp only[Ah2,Ah8,Aib]at ha⊢;rcases ha with h|⟨p,hp,h⟩|h
 ·exact .inl h
 ·exact .inr (.inl ⟨p,(Ai7.1 hp).1,h⟩)
 ·exact .inr (.inr (Ai7.1 h).1)
theorem qF {q:Qry}{rs:List Int}{v:Int}(h:inQ (H0 q rs) v):inQ q v/\v∉rs:=by
 obtain⟨a,ha,hv⟩:=h;unfold atomsQ H0 at ha;simp only[Ah2,Ah8,Aib]at ha
 have key:∀b:De,b∈atomsQ q->(!I9 rs b)=true->A7 b.ts v=true->inQ q v/\v∉rs:=fun b hb aa ab=>⟨⟨b,hb,ab⟩,fun hm=>by
  have:I9 rs b=true:=Ahz.2 ⟨v,hm,ab⟩;rw[this]at aa
  cases aa⟩
 rcases ha with rfl|⟨p,hp,rfl⟩|h
 ·simp[A7]at hv
 ·exact key p.a (Kr (Ai7.1 hp).1) (Ai7.1 hp).2 hv
 ·exact key a (by unfold atomsQ;simp[(Ai7.1 h).1]) (Ai7.1 h).2 hv
theorem Rx (neg:Int->Bb->Prop)(om ot:Nat)(M:MM)(d bg:Int)(V:List Int)(IH:∀V':List Int,V'.length<V.length->S8 neg om ot M d bg V'):S8 neg om ot M d bg V:=by
 intro q c hc hA hNg hV hh b1 σ hM;have bl:=fun σ1 hk=>aE neg q c om ot M d bg hc hA hNg σ1 (MOb.keep hM (show Keep σ σ1 from hk));have HM:Akc (MOb σ om ot M d bg):=hM;clear hM;obtain⟨ih,ip,inn,pc,nc,rfl,-,-⟩:=hc;have HH:Akc (q.head.ts=[]):=hh;clear hh;refine Z9 36 [.tmp 4] Tryz.func187 ?_
 repeat' (first|refine Z1 ?_|(refine Z8 ?_;intro yb ya)|(refine Z4 ?_;clear ya yb)|(refine Z5 ?_;refine Xi (bl _ ((Keep.refl _).new _)) ?_;rintro _ _ ⟨⟨c',(⟨rfl,cm,cn,a8⟩|⟨q',rfl,⟨ih2,ip2,in2,pc2,nc2,rfl,bm,bn⟩,aa,a5,hR2,ah⟩)⟩,ae⟩)|refine Z3 ?_|exact Zt)
 ·rename_i σ1;have ab:=ae.nobj;have o0:=ae.obj σ.nobj Aka;rw[Ao]at o0;simp only[Aa]at ab;have ak:=(((Keep.refl σ).new _).trans ae);have ch:Akc (∀ν,¬Lj neg q ν):=a8;clear a8
  repeat' (first|refine Z1 ?_|(refine Z8 ?_;intro yb ya)|(refine Z4 ?_;clear ya yb)|(refine Z2 ?_ ?_<;>intro h ai<;>try exact Xp)|refine Z3 ?_|exact Zt|(apply ya.out;clear ya yb))
  exact⟨_,rfl,⟨false,rfl,(fun h=>by cases h),fun⟨ν,hν⟩=>absurd hν (ch.out ν)⟩,ak.put Aj6 _⟩
 ·have ab:=ae.nobj;have av:=ae.obj;simp only[Aa]at ab av;have cb:=((Keep.refl σ).new _).trans ae;have ba:q'.head.ts=[]:=by rw[hR2.hd];exact HH.out
  have aj:NegOk neg M q':=hNg.sub fun a ha=>⟨a,(ah a ha).1,rfl⟩;have ao:QV q':=fun a ha v hv=>hV a (hR2.at_ a ha) v hv;have ac:∀v,inQ q' v->v∈V:=fun v hv=>b1 v (hv.sub hR2.at_);have bu:=fun σ=>cO q' _ ⟨ih2,ip2,in2,pc2,nc2,rfl,bm,bn⟩ aa.ok aa.n ao σ;have bv:Akc _:=ba;clear ba
  repeat' (first|refine Z1 ?_|(refine Z8 ?_;intro yb ya)|(refine Z4 ?_;clear ya yb)|(refine Z2 ?_ ?_<;>intro h ai<;>try exact Xp)|(refine Z5 ?_;refine Xi (bu _) ?_;rintro _ _ ⟨⟨b,rfl,hb⟩,ak⟩;(have HB:Akc _:=hb;clear hb;have ay:=ak.nobj;have au:=ak.obj;have bp:=(cb.put Aj6 _).trans ak))|refine Z3 ?_|exact Zt|(apply ya.out;clear ya yb))
  ·have bc:b= -1:=by simpa using h
   have a9:∀v∈Cb (atomsQ q'),C5 q' v=false:=by
    rcases HB.out with⟨-,h2⟩|⟨h1,-⟩
    ·exact h2
    ·obtain⟨a,ha,hv⟩:=(C3 _ _).1 h1;have:=ao a ha b hv;omega
   have b2:∀v,C7 (q'.parts.map (·.a)) v<=1:=fun v=>by
    have ck:C7 (q'.parts.map (·.a)) v<=C7 (atomsQ q') v:=by
     unfold atomsQ;rw[He,E0];omega
    by_cases hm:v∈Cb (atomsQ q')
    ·have:=a9 v hm;unfold C5 at this;rw[decide_eq_false_iff_not]at this;omega
    ·have:C7 (atomsQ q') v=0:=by
      rcases Nat.eq_zero_or_pos (C7 (atomsQ q') v)with h0|h0
      ·exact h0
      ·obtain⟨a,ha,b4⟩:=List.countP_pos_iff.1 h0;exact absurd ((C3 _ _).2 ⟨a,ha,hasV_iff.1 b4⟩) hm
     omega
   obtain⟨ν,hν⟩:=iB (l:=q'.parts) (fun p hp=>⟨a5 p hp,(aa.w p hp).2⟩) b2
   have hS:Lj neg q' ν:=⟨hν,fun a ha=>by
    exfalso;obtain⟨v,hv⟩:=wH (ah a ha).2;obtain⟨p,hp,af⟩:=aa.wf v (.inr ⟨a,ha,hv⟩);have h1:0<C7 (q'.parts.map (·.a)) v:=Md (Aib.2 ⟨p,hp,rfl⟩) af;have h2:=Md ha hv;have h3:C7 (atomsQ q') v=C7 (q'.parts.map (·.a)) v+C7 q'.nots v+if A7 q'.head.ts v=true then 1 else 0:=by
     unfold atomsQ;rw[He,E0]
    have hm:v∈Cb (atomsQ q'):=(C3 _ _).2 ⟨p.a,Kr hp,hasV_iff.1 af⟩;have:=a9 v hm;unfold C5 at this;rw[decide_eq_false_iff_not]at this
    omega⟩
   obtain⟨ν',hν',-⟩:=hR2.back ν hS
   first|exact⟨_,rfl,⟨true,rfl,fun _=>⟨ν',hν'⟩,fun _=>rfl⟩,bp⟩|exact⟨_,rfl,⟨true,rfl,fun _=>⟨ν',hν'⟩,fun _=>rfl⟩⟩
  ·have bc:b≠ -1:=by simpa using h
   have b3:b∈Cb (atomsQ q'):=by
    rcases HB.out with⟨h1,-⟩|⟨h1,-⟩
    ·exact absurd h1 bc
    ·exact h1
   have bd:inQ q' b:=by
    obtain⟨a,ha,hv⟩:=(C3 _ _).1 b3;exact⟨a,ha,hasV_iff.2 hv⟩
   have a3:=ac b bd;have bh:(V.erase b).length<V.length:=by
    rw[List.length_erase_of_mem a3];have:=List.length_pos_of_mem a3;omega
   have IHb:=IH (V.erase b) bh;have bi:=fun (id:Nat) σ=>Rv q' _ [b] id ⟨ih2,ip2,in2,pc2,nc2,rfl,bm,bn⟩ aa.ok (by simp) σ;simp only[Ahy,Ahx,Al,Ahj,Ahk,Ahn]at bi;have ci:Akc (∀(rs:List Int) (c3:List AV),Fa (atomsQ q') rs rs->EQ (A5 q' rs) c3->∀σ1,Keep σ σ1->ACalls Tryz.prog 223 [ptr om 0,ag c3,ic b] σ1 fun r σ'=>(∃bb,r=sc (.bool bb)/\(bb=true↔∃n∈Lb (A5 q' rs) b,∃ν,Lj neg (C2 b n (A5 q' rs)) ν))/\Keep σ1 σ'):=fun rs c3 a7 cg σ1 a0=>
    Vu neg om ot M d bg (V.erase b) IHb (A5 q' rs) c3 b cg (Lx aa aa.ok.hd Aju Aju (dI aa.wf a7 (fun v hv=>by rw[bv.out]at hv;simp[A7]at hv))) (aj.near rs)
     (fun a ha w hw=>by
      obtain⟨a',a4,az⟩:=Pv (rs:=rs) ⟨a,ha,hasV_iff.2 hw⟩
      exact ao a' a4 w (hasV_iff.1 az)) bv.out (fun w hw b0=>(Aiz b0).2 (ac w (Pv hw))) σ1 (HM.out.keep a0)
   have cj:Akc (∀(rs:List Int) (c4:List AV),b∈rs->Fa (atomsQ q') rs rs->EQ (H0 q' rs) c4->∀σ1,Keep σ σ1->ACalls Tryz.prog 187 [ptr om 0,ag c4] σ1 fun r σ'=>(∃bb,r=sc (.bool bb)/\(bb=true↔∃ν,Lj neg (H0 q' rs) ν))/\Keep σ1 σ'):=fun rs c4 an a7 cf σ1 a0=>
    IHb (H0 q' rs) c4 cf (Lx aa (by simp[H0]) Aju Aju (Aa0 aa.wf a7)) (aj.far rs)
     (fun a ha w hw=>by
      obtain⟨⟨a',a4,az⟩,-⟩:=qF (rs:=rs) ⟨a,ha,hasV_iff.2 hw⟩;exact ao a' a4 w (hasV_iff.1 az)) rfl (fun w hw=>by
      obtain⟨h1,h2⟩:=qF hw
      exact (Aiz (fun e=>h2 (by rw[e];exact an))).2 (ac w h1)) σ1 (HM.out.keep a0)
   clear IHb IH bl bu a3 bh;have o3:=au σ.nobj (by simp only[Ab];omega);rw[Aj]at o3;simp only[Ab]at ay
   repeat' (first|refine Z1 ?_|(refine Z8 ?_;intro yb ya)|(refine Z4 ?_;clear ya yb)|(refine Z2 ?_ ?_<;>intro h ai<;>try exact Xp)|(refine Z5 ?_;first|(refine Xi (bi _ _) ?_;rintro _ _ ⟨⟨_,_,rs,rfl,⟨ih3,ip3,in3,pc3,nc3,rfl,b8,ca⟩,⟨ih4,ip4,in4,pc4,nc4,rfl,b6,b9⟩,hG,hC⟩,br⟩;(have an:b∈rs:=(by obtain⟨ad,e,-,-⟩:=hG;rw[e];simp);have cd:=ci.out rs _ hC ⟨ih3,ip3,in3,pc3,nc3,rfl,b8,ca⟩;have ce:=cj.out rs _ an hC ⟨ih4,ip4,in4,pc4,nc4,rfl,b6,b9⟩;have HC:Akc _:=hC;clear hC hG;have ax:=br.nobj;simp only[Aw]at ax;have bo:=(bp.lay 1).trans br))|(refine Xi (cd _ ((((bo.new _).new _).put Aj6 _).put Aj6 _)) ?_;rintro _ _ ⟨⟨b5,rfl,bf⟩,a6⟩;(have bz:Akc _:=bf;clear bf;have aw:=a6.nobj;have ap:=a6.obj;simp only[Ab,Aa]at aw ap;have bq:=((((bo.new _).new _).put Aj6 _).put Aj6 _).trans a6))|(refine Xi (ce _ bq) ?_;rintro _ _ ⟨⟨b7,rfl,be⟩,cc⟩;(have bw:Akc _:=be;clear be;have co:=bq.trans cc)))|refine Z3 ?_|exact Zt|(apply ya.out;clear ya yb))
   ·refine⟨_,rfl,false,rfl,(fun h=>by cases h),fun⟨ν,hν⟩=>?_⟩;have h1:=hR2.to ν hν;have h2:=fE (rs:=rs) h1;have am:WP (A5 q' rs):=fun p hp=>aa.w p (Ai7.1 hp).1;obtain⟨p,hp,af⟩:=Vl aa.wf bd;have h3:=oI (v:=b) am h2 ⟨p,Ai7.2 ⟨hp,Ahz.2 ⟨b,an,af⟩⟩,af⟩
    have h4:Lj neg (C2 b (ν b) (A5 q' rs)) ν:=(Su am).2 (by
     have:Ni ν b (ν b)=ν:=by
      funext w;unfold Ni;split
      ·rename_i e;rw[e]
      ·rfl
     rw[this];exact h2)
    have:=bz.out.2 ⟨ν b,h3,ν,h4⟩;rw[this]at h;cases h
   ·refine⟨_,rfl,b7,rfl,fun h7=>?_,fun⟨ν,hν⟩=>bw.out.2 ⟨ν,pQ (hR2.to ν hν)⟩⟩;obtain⟨n,-,ν1,hν1⟩:=bz.out.1 h;obtain⟨ν2,hν2⟩:=bw.out.1 h7;have am:WP (A5 q' rs):=fun p hp=>aa.w p (Ai7.1 hp).1;obtain⟨ν',hν',-⟩:=hR2.back _ (Za HC.out ((Su am).1 hν1) hν2);exact⟨ν',hν'⟩
theorem Ry (neg:Int->Bb->Prop)(om ot:Nat)(M:MM)(d b:Int):∀(k:Nat) (V:List Int),V.length<=k->S8 neg om ot M d b V:=by
 intro k;induction k with
 |zero=>exact fun V hV=>Rx neg om ot M d b V (fun V' h=>Aj6)
 |succ k IH=>exact fun V hV=>Rx neg om ot M d b V (fun V' h=>IH V' Aj6)
end Go.Proofs.YtmoeoppbmhfbpabGreatDoorL
