import Derived.Test.YtmoeoppbmhfbpabGreatDoorGRerA
set_option maxHeartbeats 32000000
set_option maxRecDepth 100000
set_option linter.all false
namespace Go.Proofs.YtmoeoppbmhfbpabGreatDoorG
open Go.Abs
def iK (a:C4)(p:Part):Bool:=(Cb [a]).all (Bc p.a.ts)
theorem pwB_iff {a:C4}{p:Part}:iK a p=true↔∀v,Bc a.ts v=true->Bc p.a.ts v=true:=by
 unfold iK;rw[Ads];constructor
 ·intro h v hv;exact h v ((Cy _ _).2 ⟨a,by simp,hasV_iff.1 hv⟩)
 ·intro h v hv;obtain⟨b,hb,aa⟩:=(Cy _ _).1 hv;simp at hb;subst hb;exact h v (hasV_iff.2 aa)
theorem eW (h0 h1 h3:AV)(hf:([h0,h1,h3]:List AV).all flat=true)(a:C4)(ida:Nat)(u:St):ACalls Tryz.prog 218 [ag [h0,h1,nilS,h3],ag [ic a.p,sl ida a.ts.length (Ac a.ts)]] u fun r u'=>r=ic (-1)/\Keep u u':=by
 simp only[List.all_cons,List.all_nil,Bool.and_true,Adv]at hf;obtain⟨f0,f1,f3⟩:=hf;refine Z9 23 [.tmp 4] Tryz.func218 ?_
 repeat' (first|refine Z1 ?_|(refine Z8 ?_;intro κ hκ)|(refine Z4 ?_;clear hκ κ)|(refine Z2 ?_ ?_<;>intro h aa<;>try exact Xp)|refine Z3 ?_|exact⟨⟩|(apply hκ.out;clear hκ κ))
 refine Ag (fun m s u'=>m=0/\s 9=ic 0/\s 10=ic 0/\Keep u u') 0
  ⟨rfl,Ago,Ago,Xs⟩ ?_
 rintro m s u' ⟨rfl,h9,ab,hK⟩
 repeat' (first|refine Z1 ?_|(refine Z8 ?_;intro κ hκ)|(refine Z4 ?_;clear hκ κ)|(refine Z2 ?_ ?_<;>intro h aa<;>try exact Xp)|refine Z3 ?_|exact⟨⟩|(apply hκ.out;clear hκ κ))
 first|exact⟨_,rfl,rfl⟩|exact⟨_,rfl,rfl,hK⟩
theorem eV (h0 h1 h3:AV)(hf:([h0,h1,h3]:List AV).all flat=true)(L:List Part)(hL:∀p∈L,p.a.ts.length<=3)(a7:L.length<=64)(o cap:Nat)(pc:List AV)(hP:EL Lr L pc)(a:C4)(ida:Nat)(ha:a.ts.length<=3)(u:St)(ho:o<u.nobj)(aw:L.length<=cap)(a6:(u.obj o).length=cap*3)(ao:(u.obj o).take (L.length*3)=pc):ACalls Tryz.prog 218 [ag [h0,h1,gx o L.length cap,h3],ag [ic a.p,sl ida a.ts.length (Ac a.ts)]] u fun r u'=>((∃(i:Nat) (p:Part),r=ic i/\L[i]?=some p/\iK a p=true)\/(r=ic (-1)/\∀p∈L,iK a p=false))/\Keep u u':=by
 simp only[List.all_cons,List.all_nil,Bool.and_true,Adv]at hf;obtain⟨f0,f1,f3⟩:=hf;have ac:=fun (i:Nat) (u:St)=>Gj [a] [ic a.p,sl ida a.ts.length (Ac a.ts)] i (EL.single ⟨ida,rfl⟩) (by simp;exact ha) (by simp) u;have an:=Es (l:=[a]) (by simp;exact ha);have HV:Agt (∀p,iK a p=(Cb [a]).all (Bc p.a.ts)):=fun p=>rfl;generalize Cb [a]=vs at*
 simp only[Aen,Aem]at an ac;have hpl:=EL.length D3 hP;refine Z9 23 [.tmp 4] Tryz.func218 ?_
 repeat' (first|refine Z1 ?_|(refine Z8 ?_;intro κ hκ)|(refine Z4 ?_;clear hκ κ)|(refine Z2 ?_ ?_<;>intro h ab<;>try exact Xp)|refine Z3 ?_|exact⟨⟩|(apply hκ.out;clear hκ κ))
 refine Ag (fun m s u'=>∃i:Nat,m=L.length-i/\i<=L.length/\s 2=ptr u.nobj 0/\s 3=ptr (u.nobj+1) 0/\s 8=gx o L.length cap/\s 9=ic L.length/\s 10=ic i/\Keep u u'/\u.nobj+1<u'.nobj/\u'.obj (u.nobj+1)=[ic a.p,sl ida a.ts.length (Ac a.ts)]/\Agt (∀p∈L.take i,iK a p=false)) L.length
  ⟨0,Agm,Agm,Ago,Ago,Ago,Ago,rfl,Xs,Ags,?_,by simp[Agt]⟩ ?_
 ·rw[Bs Agq Agq]
 rintro m s u' ⟨i,rfl,hi,h2,az,h8,h9,a0,hK,hno,aj,hA⟩;have a4:=hK.nobj;by_cases ak:i<L.length
 ·have aa:=List.getElem?_eq_getElem ak;obtain⟨id,idt,r,hd⟩:=Ew hP aa;have am:=hL _ (Afa ak);generalize L[i]=w at hd aa am;have oo:u'.obj o=u.obj o:=hK.obj o ho;have ap:(u'.obj o).drop (i*3)=ic w.a.p::sl id w.a.ts.length (Ac w.a.ts)::sl idt w.tups.length (Ej w.tups)::(r++(u.obj o).drop (L.length*3)):=by
   rw[oo]
   conv=>lhs;rw[<-Afn (L.length*3) (u.obj o),ao]
   rw[List.drop_append_of_le_length (by rw[hpl];omega),hd];rfl
  have au:o≠u'.nobj:=Agm;have HA:Agt (iK a w=false->∀p∈L.take (i+1),iK a p=false):=fun hw p hp=>by
   rw[Ad3,aa,Afe]at hp;rcases Aew.1 hp with h|h
   ·exact hA.out p h
   ·simp at h;subst h;exact hw
  have HW:Agt (L[i]?=some w):=aa;have af:=fun (i:Nat) (u:St)=>Zp w.a.p id w.a.ts vs i Agm Agm u;rw[<-HV.out w]at af;have a5:u'.nobj≠o:=fun e=>au e.symm;clear aa hA oo
  repeat' (first|refine Z1 ?_|(refine Z8 ?_;intro κ hκ)|(refine Z4 ?_;clear hκ κ)|(refine Z2 ?_ ?_<;>intro h ab<;>try exact Xp)|refine Z3 ?_|exact⟨⟩|(apply hκ.out;clear hκ κ))
  have ay:Keep u ((u'.new [ic 0,nilS,nilS]).put u'.nobj [ic w.a.p,sl id w.a.ts.length (Ac w.a.ts),sl idt w.tups.length (Ej w.tups)]):=(hK.new _).put hK.nobj _;have kv:∀p,p<u'.nobj->((u'.new [ic 0,nilS,nilS]).put u'.nobj [ic w.a.p,sl id w.a.ts.length (Ac w.a.ts),sl idt w.tups.length (Ej w.tups)]).obj p=u'.obj p:=fun p hp=>by rw[Ai Agm,Af Agm]
  generalize ai:(u'.new [ic 0,nilS,nilS]).put u'.nobj [ic w.a.p,sl id w.a.ts.length (Ac w.a.ts),sl idt w.tups.length (Ej w.tups)]=ub at*
  have nb:ub.nobj=u'.nobj+1:=by rw[<-ai];rfl
  have o6:ub.obj u'.nobj=[ic w.a.p,sl id w.a.ts.length (Ac w.a.ts),sl idt w.tups.length (Ej w.tups)]:=by rw[<-ai,Aj]
  have o3:ub.obj (u.nobj+1)=[ic a.p,sl ida a.ts.length (Ac a.ts)]:=by rw[kv _ Agm,aj]
  clear ai;refine B6 (Q:=fun e s' u''=>e= .normal/\s' 20=sc (.bool (iK a w))/\s' 2=ptr u.nobj 0/\s' 3=ptr (u.nobj+1) 0/\s' 5=ic i/\s' 8=gx o L.length cap/\s' 9=ic L.length/\s' 10=ic i/\Keep ub u'') ?_ ?_
  ·refine Bh Al (fun _=>True) [] [0,1,2] 3 #[true,true,true,false,false,false] Agp (fun _ _ _ h=>by cases h.1) ?_;intro κ hκ;refine Z3 ?_;refine hκ.out _ ?_;clear hκ κ;refine Ao (i:=3) Agp ?_;refine Ar ?_;intro κ hκ;refine Z3 ?_;refine hκ.out _ _ ⟨Aq ((Keep.refl _).lay 1),?_⟩;clear hκ κ;refine Ao (i:=4) Agp ?_;refine Ar ?_;intro κ hκ;refine Z3 ?_;refine ACalls.mono (ac _ _) ?_;rintro _ uc ⟨⟨idv,rfl⟩,ah⟩;have knc:=ah.nobj;refine Z3 ?_;refine hκ.out _ _ ⟨Aq (((Keep.refl _).lay 1).trans ah),?_⟩;clear hκ κ;refine Ao (i:=5) Agp ?_;refine Ar ?_;intro κ hκ;refine Z3 ?_;refine ACalls.mono (af _ _) ?_;rintro _ ud ⟨rfl,ae⟩;refine Z3 ?_;refine hκ.out _ _ ⟨Aq ((((Keep.refl _).lay 1).trans ah).trans ae),?_⟩;clear hκ κ;refine A6 Agp ⟨rfl,Agn,Agn,Agn,Agn,Agn,Agn,Agn,(((Keep.refl _).lay 1).trans ah).trans ae⟩
  ·rintro e s' ud ⟨rfl,g20,g2,g3,g5,g8,g9,g10,ae⟩;have ax:=ay.trans ae;have knd:=ae.nobj;have oe:ud.obj (u.nobj+1)=[ic a.p,sl ida a.ts.length (Ac a.ts)]:=by rw[ae.obj _ Agm,o3]
   clear h2 az h8 h9 a0 h ab aj hd ap;cases ad:iK a w with
   |true=>
    have HP:Agt (iK a w=true):=ad;rw[ad]at g20;clear ad;refine Gn g20 ?_
    repeat' (first|refine Z1 ?_|(refine Z8 ?_;intro κ hκ)|(refine Z4 ?_;clear hκ κ)|(refine Z2 ?_ ?_<;>intro h ab<;>try exact Xp)|refine Z3 ?_|exact⟨⟩|(apply hκ.out;clear hκ κ))
    first|exact⟨_,rfl,.inl ⟨i,w,rfl,HW.out,HP.out⟩⟩|exact⟨_,rfl,.inl ⟨i,w,rfl,HW.out,HP.out⟩,ax⟩
   |false=>
    have a3:Agt (∀p∈L.take (i+1),iK a p=false):=HA.out ad;rw[ad]at g20;clear ad HA;refine Gp g20 ?_
    repeat' (first|refine Z1 ?_|(refine Z8 ?_;intro κ hκ)|(refine Z4 ?_;clear hκ κ)|(refine Z2 ?_ ?_<;>intro h ab<;>try exact Xp)|refine Z3 ?_|exact⟨⟩|(apply hκ.out;clear hκ κ))
    refine⟨L.length-(i+1),Agm,i+1,?_⟩
    ((repeat' with_reducible refine And.intro ?_ ?_)<;>first|exact Xq|exact (a3)|exact Xs)
 ·have av:i=L.length:=Agm;subst av;rw[Adz]at hA
  repeat' (first|refine Z1 ?_|(refine Z8 ?_;intro κ hκ)|(refine Z4 ?_;clear hκ κ)|(refine Z2 ?_ ?_<;>intro h ab<;>try exact Xp)|refine Z3 ?_|exact⟨⟩|(apply hκ.out;clear hκ κ))
  first|exact⟨_,rfl,.inr ⟨rfl,hA.out⟩,hK⟩|exact .inr ⟨rfl,hA.out⟩|exact⟨_,rfl,.inr ⟨rfl,hA.out⟩⟩
def PS (lo:Nat)(u:St)(x:AV)(n:Nat)(pc:List AV):Prop:=(x=nilS/\n=0/\pc=[])\/∃o cap,x=gx o n cap/\0<n/\n<=cap/\(u.obj o).length=cap*3/\(u.obj o).take (n*3)=pc/\lo<=o/\o<u.nobj
theorem C5 {u:St}{p o:Nat}{c:List AV}(h:o≠p):(u.put p c).obj o=u.obj o:=by simp[St.put,h]
theorem PS.flat {lo:Nat}{u:St}{x:AV}{n:Nat}{pc:List AV}(h:PS lo u x n pc):flat x=true:=by
 rcases h with⟨rfl,-,-⟩|⟨o,cap,rfl,-⟩<;>rfl
theorem PS.keep {lo:Nat}{u u':St}{x:AV}{n:Nat}{pc:List AV}(h:PS lo u x n pc)(k:Keep u u'):PS lo u' x n pc:=by
 rcases h with h|⟨o,cap,h1,h2,h3,h4,h5,h6,h7⟩
 ·exact .inl h
 ·have:=k.obj o h7;exact .inr ⟨o,cap,h1,h2,h3,by rw[this];exact h4,by rw[this];exact h5,h6,Adp h7 k.nobj⟩
theorem PS.put {lo:Nat}{u:St}{x:AV}{n:Nat}{pc:List AV}(h:PS lo u x n pc){p:Nat}(hp:p<lo)(c:List AV):PS lo (u.put p c) x n pc:=by
 rcases h with h|⟨o,cap,h1,h2,h3,h4,h5,h6,h7⟩
 ·exact .inl h
 ·have:(u.put p c).obj o=u.obj o:=C5 Agm;exact .inr ⟨o,cap,h1,h2,h3,by rw[this];exact h4,by rw[this];exact h5,h6,h7⟩
theorem nF {P:Program}{t:TypeId}{b:Nat}{zc:List Value}{σ0 u:St}{id2 n lo:Nat}{x:AV}{xs ys:List AV}{K:AV->St->Prop}(ht:M6 P t=some (3,b,zc))(hzc:zc.length=3)(hy:ys.length=3)(hf:ys.all Abs.flat=true)(hb:(n+1)*b<=140737488355328)(hl:n+1<=1099511627776)
  (ac:lo<=u.nobj) (h0:σ0.nobj<=lo) (hK:Keep σ0 u) (hx:PS lo u x n xs) (h:∀x' u',PS lo u' x' (n+1) (xs++ys)->u.nobj<=u'.nobj->(∀p,p<lo->u'.obj p=u.obj p)->Keep σ0 u'->K x' u'):Ie P t t x (sl id2 1 ys) u K:=by
 refine wD (xs:=xs) ht Agm hzc Agm hf Agm hb hl ?_ ?_ ?_
 ·rcases hx with h|⟨o,cap,h1,h2,h3,h4,h5,-,-⟩
  ·exact .inl h
  ·exact .inr ⟨o,cap,h1,h2,h3,h4,h5⟩
 ·rintro o cap cs ⟨c0,e1,e2,rfl⟩ ab aa;rcases hx with⟨rfl,-,-⟩|⟨o',cap',rfl,h2,h3,h4,h5,h6,h7⟩
  ·simp at e1
  ·simp at e1;obtain⟨rfl,rfl⟩:=e1;refine h _ _ (.inr ⟨_,_,rfl,Agm,e2,by rw[Aj];exact ab,by rw[Aj];exact aa,h6,h7⟩) (Adn _) (fun p hp=>C5 Agm) (hK.put Agm _)
 ·intro cap cs ab hc aa;exact h _ _ (.inr ⟨_,_,rfl,Agm,hc,by rw[Ap];exact ab,by rw[Ap];exact aa,ac,Agq⟩) Agq (fun p hp=>Af Agm) (hK.new _)
theorem fJ {P:Program}{N:Nat}{c:Code}{Q:G7}{s:Sl}{σ0 u:St}{lo p j n:Nat}{ys pc:List AV}{x:AV}(hK:Keep σ0 u)(h0:σ0.nobj<=lo)(ab:σ0.nobj<=p)(hp:p<lo)(ac:lo<=u.nobj)(hx:PS lo u x n pc)(hy:u.obj p=ys)(hj:ys[j]?=some x)
  (h:∀(ip:Nat) (u':St),Keep σ0 u'->u'.nobj=u.nobj->u'.obj p=ys.set j (sl ip n pc)->(∀o,o<lo->o≠p->u'.obj o=u.obj o)->Kk P N c Q s u'):Kk P N c Q s u:=by
 rcases hx with⟨rfl,rfl,rfl⟩|⟨o,cap,rfl,h2,h3,h4,h5,h6,h7⟩
 ·refine h 1 u hK rfl ?_ (fun _ _ _=>rfl);rw[hy];apply Ad8;intro i;by_cases e:j=i
  ·subst e;rw[List.getElem?_set_self (List.getElem?_eq_some_iff.1 hj).1,hj]
  ·rw[List.getElem?_set_ne e]
 ·refine Uy (o:=o) (p:=p) (k:=n*3) h7 Agm Agm hy hj (by rw[h4];omega) ?_;rw[h5];exact h 0 _ ((hK.put Agm _).put ab _) rfl Aj (fun q hq aa=>by rw[C5 aa,C5 Agm])
theorem tV {l c:List AV}{off m:Nat}(h1:off+c.length<=m)(h2:m<=l.length):(lsp l off c).take m=lsp (l.take m) off c:=by
 rw[Gg _ _ _ Agm,Gg _ _ _ (by rw[Aef];omega),List.take_take,Aej Agm,List.drop_take,List.take_append];rw[Aee,Aef,Aej Agm,Aex (by rw[Aee,Aef];omega)]
theorem wO {α:Type}{E:α->List AV->Prop}{z:Nat}(hz:∀a c,E a c->c.length=z):∀{l:List α} {cs:List AV} {i:Nat} {a:α} {c:List AV},EL E l cs->i<l.length->E a c->EL E (l.set i a) (lsp cs (i*z) c)
 |[],_,i,_,_,_,hi,_=>by simp at hi
 |b::l,cs,0,a,c,⟨d,r,h1,h2,e⟩,hi,ha=>by
  subst e;have e1:=hz _ _ h1;have e2:=hz _ _ ha;refine⟨c,r,ha,h2,?_⟩;rw[Aeb,Gg _ _ _ (by simp;omega)];simp[show c.length=d.length by omega]
 |b::l,cs,i+1,a,c,⟨d,r,h1,h2,e⟩,hi,ha=>by
  subst e;have e1:=hz _ _ h1;have e2:=hz _ _ ha;have hr:=EL.length hz h2;have aa:i<l.length:=by simpa using hi
  have hb:i*z+z<=r.length:=by rw[hr,<-Ad4];exact Adr _ aa
  refine⟨d,lsp r (i*z) c,h1,wO hz h2 aa ha,?_⟩;rw[Gg c (d++r) _ (by rw[Aee,Ad4,e1,e2];omega),Gg c r _ (by rw[e2];omega)];rw[Ad4,<-e1,Nat.add_comm (i*d.length),List.take_length_add_append,Ad1,List.drop_length_add_append];simp
theorem PS.set {lo:Nat}{u:St}{o cap n i:Nat}{pc c:List AV}(h:PS lo u (gx o n cap) n pc)(hi:i<n)(hc:c.length=3):PS lo (u.put o (lsp (u.obj o) (i*3) c)) (gx o n cap) n (lsp pc (i*3) c):=by
 rcases h with⟨h,-,-⟩|⟨o',cap',e,h2,h3,h4,h5,h6,h7⟩
 ·simp at h
 ·simp at e;obtain⟨rfl,rfl⟩:=e;refine .inr ⟨o,cap,rfl,h2,h3,by rw[Aj,J2];exact h4,?_,h6,h7⟩;rw[Aj,tV (by rw[hc];omega) (by rw[h4];omega),h5]
theorem jN (lo:Nat)(h0 h1 h3:AV)(hf:([h0,h1,h3]:List AV).all flat=true)(L:List Part)(hL:∀p∈L,p.a.ts.length<=3)(aa:L.length<=64)(X:AV)(pc:List AV)(hP:EL Lr L pc)(a:C4)(ida:Nat)(ha:a.ts.length<=3)(u:St)(hX:PS lo u X L.length pc):ACalls Tryz.prog 218 [ag [h0,h1,X,h3],ag [ic a.p,sl ida a.ts.length (Ac a.ts)]] u fun r u'=>((∃(i:Nat) (p:Part),r=ic i/\L[i]?=some p/\iK a p=true)\/(r=ic (-1)/\∀p∈L,iK a p=false))/\Keep u u':=by
 rcases hX with⟨rfl,hn,-⟩|⟨o,cap,rfl,h2,hc,h4,h5,h6,h7⟩
 ·refine ACalls.mono (eW h0 h1 h3 hf a ida u) ?_;rintro r u' ⟨rfl,hK⟩;have:L=[]:=Adx hn;subst this;exact⟨.inr ⟨rfl,by simp⟩,hK⟩
 ·exact eV h0 h1 h3 hf L hL aa o cap pc hP a ida ha u h7 hc h4 h5
structure RdS (neg:Int->Ca->Prop)(q:Qry)(k:Nat)(L:List Part)(Nn:List C4):Prop where
 atm:L.map (·.a)=q.parts.map (·.a)
 sub:∀p∈L,∃p0∈q.parts,p.a=p0.a/\p.tups.Sublist p0.tups
 nsub:Nn.Sublist (q.nots.take k)
 uns:∀a∈Nn,Ih a.ts=false
 sol:∀ν,((∀p∈q.parts,Bo p.a ν∈p.tups)/\∀a∈q.nots.take k,¬neg a.p (Bo a ν))↔((∀p∈L,Bo p.a ν∈p.tups)/\∀a∈Nn,¬neg a.p (Bo a ν))
theorem RdS.start (neg:Int->Ca->Prop)(q:Qry):RdS neg q 0 q.parts []:=
 ⟨rfl,fun p hp=>⟨p,hp,rfl,Af7 _⟩,by simp,by simp,fun ν=>by simp⟩
theorem Hm {α:Type}{l:List α}{k:Nat}{a:α}(h:l[k]?=some a):l.take (k+1)=l.take k++[a]:=by rw[Ad3,h,Afe]
theorem RdS.keepN {neg:Int->Ca->Prop}{q:Qry}{k:Nat}{L:List Part}{Nn:List C4}{a:C4}(h:RdS neg q k L Nn)(ha:q.nots[k]?=some a)(hs:Ih a.ts=false):RdS neg q (k+1) L (Nn++[a]):=by
 refine⟨h.atm,h.sub,by rw[Hm ha];exact h.nsub.append (Af7 _),fun b hb=>?_,fun ν=>?_⟩
 ·rcases Aew.1 hb with hb|hb
  ·exact h.uns b hb
  ·simp at hb;subst hb;exact hs
 ·have:=h.sol ν;rw[Hm ha];simp only[Aew,Aff,or_imp,forall_and,forall_eq];rw[<-and_assoc,this,and_assoc]
theorem RdS.drop {neg:Int->Ca->Prop}{q:Qry}{k:Nat}{L:List Part}{Nn:List C4}{a:C4}(h:RdS neg q k L Nn)(ha:q.nots[k]?=some a)(hs:∀ν,¬neg a.p (Bo a ν)):RdS neg q (k+1) L Nn:=by
 refine⟨h.atm,h.sub,by rw[Hm ha];exact h.nsub.trans (List.sublist_append_left _ _),h.uns,fun ν=>?_⟩;have:=h.sol ν;rw[Hm ha];simp only[Aew,Aff,or_imp,forall_and,forall_eq];rw[<-and_assoc,this];exact and_iff_left (hs ν)
theorem RdS.bar {neg:Int->Ca->Prop}{q:Qry}{k i:Nat}{L:List Part}{Nn:List C4}{a:C4}{p:Part}{l:List Ca}(h:RdS neg q k L Nn)(ha:q.nots[k]?=some a)(hp:L[i]?=some p)(h3:p.a.ts.length<=3)(hw:iK a p=true)(hn:∀t,neg a.p t↔t∈l):RdS neg q (k+1) (L.set i (Ns l a p)) Nn:=by
 have hi:=(List.getElem?_eq_some_iff.1 hp).1;have ac:=Adt hp;refine⟨?_,fun p' aa=>?_,by rw[Hm ha];exact h.nsub.trans (List.sublist_append_left _ _),h.uns,fun ν=>?_⟩
 ·rw[<-h.atm];apply Ad8;intro n;rw[List.getElem?_map,List.getElem?_map];by_cases e:i=n
  ·subst e;rw[List.getElem?_set_self hi,hp];rfl
  ·rw[List.getElem?_set_ne e]
 ·rcases List.mem_or_eq_of_mem_set aa with h1|rfl
  ·exact h.sub p' h1
  ·obtain⟨p0,g1,g2,g3⟩:=h.sub p ac;exact⟨p0,g1,g2,Af8.trans g3⟩
 ·have hs:=h.sol ν;rw[Hm ha];simp only[Aew,Aff,or_imp,forall_and,forall_eq];rw[<-and_assoc,hs,hn];have hb:=zK (l:=l) (a:=a) (p:=p) (ν:=ν) h3 (pwB_iff.1 hw);have hL:(∀p'∈L.set i (Ns l a p),Bo p'.a ν∈p'.tups)↔(∀p'∈L,Bo p'.a ν∈p'.tups)/\Bo a ν∉l:=by
   constructor
   ·intro g;have g1:=hb.1 (g (Ns l a p) (List.mem_set hi _));refine⟨fun p' aa=>?_,g1.2⟩;obtain⟨n,ab⟩:=List.getElem?_of_mem aa;by_cases e:i=n
    ·subst e;rw[hp]at ab;cases ab;exact g1.1
    ·exact g p' (Adt (by rw[List.getElem?_set_ne e];exact ab))
   ·rintro⟨g1,g2⟩ p' aa;rcases List.mem_or_eq_of_mem_set aa with h1|rfl
    ·exact g1 p' h1
    ·exact hb.2 ⟨g1 p ac,g2⟩
  rw[hL];constructor
  ·rintro⟨⟨x,y⟩,z⟩;exact⟨⟨x,z⟩,y⟩
  ·rintro⟨⟨x,z⟩,y⟩;exact⟨⟨x,y⟩,z⟩
end Go.Proofs.YtmoeoppbmhfbpabGreatDoorG
