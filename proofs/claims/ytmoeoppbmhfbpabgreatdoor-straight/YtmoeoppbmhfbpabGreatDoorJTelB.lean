import Derived.Test.YtmoeoppbmhfbpabGreatDoorJFacC
import Derived.Test.YtmoeoppbmhfbpabGreatDoorJEngW
import Derived.Test.YtmoeoppbmhfbpabGreatDoorJProgR
set_option maxHeartbeats 64000000
set_option maxRecDepth 100000
set_option linter.all false
namespace Go.Proofs.YtmoeoppbmhfbpabGreatDoorJ
open Go.Abs
def H8 (l:List Bc):Prop:=l.Pairwise fun a b=>Eo b a=false
theorem jZ {l:List Bc}{i:Nat}{t:Bc}(h3:T3 l)(ht:t.length=3)(hi:i<l.length):lsp (Cx l) (i*3) (icells t)=Cx (l.set i t):=by
 have hl:=Ef h3;have aa:=C9 ht;rw[Gb _ _ _ (by rw[aa,hl];omega),aa];have e:l=l.take i++l[i]::l.drop (i+1):=by rw[<-Ach hi,Adl]
 have e2:l.set i t=l.take i++t::l.drop (i+1):=by
  rw[List.set_eq_take_append_cons_drop,if_pos hi]
 have ac:(Cx (l.take i)).length=i*3:=by
  rw[Ef (fun x hx=>h3 x (Adr hx)),Ab7,Aca (Nat.le_of_lt hi)]
 have ab:=C9 (h3 _ (Ac2 hi));have e3:Cx l=Cx (l.take i)++(icells l[i]++Cx (l.drop (i+1))):=by
  unfold Cx
  conv=>lhs;rw[e]
  rw[Adx,Acz]
 have e4:Cx (l.set i t)=Cx (l.take i)++(icells t++Cx (l.drop (i+1))):=by
  rw[e2];simp[Cx]
 rw[e4,e3,<-ac,List.take_left,Ab8];congr 1;congr 1;rw[show (Cx (l.take i)).length+3=(Cx (l.take i)).length+(icells l[i]).length by rw[ab],List.drop_length_add_append,List.drop_left]
structure Ins (acc:List Bc)(t:Bc)(A B:List Bc):Prop where
 eq:A++B=acc
 le:∀b∈B,Eo t b=true
theorem Ins.done {acc:List Bc}{t:Bc}{A B:List Bc}(h:Ins acc t A B)(hr:H8 acc)(h3:T3 acc)(ht:t.length=3)(hA:∀a,A.getLast?=some a->Eo t a=false):H8 (A++t::B)/\(A++t::B).Perm (acc++[t]):=by
 have ab:=hr;rw[<-h.eq]at ab h3;unfold H8 at ab;rw[List.pairwise_append]at ab;obtain⟨p1,p2,p3⟩:=ab;have ac:∀a∈A,Eo t a=false:=fun a ha=>by
  rcases List.eq_nil_or_concat A with e|⟨A',z,e⟩
  ·rw[e]at ha;cases ha
  ·rw[List.concat_eq_append]at e;have hz:=hA z (by rw[e];simp);rw[e]at ha p1;rcases Aco.1 ha with aa|aa
   ·have h1:=(List.pairwise_append.1 p1).2.2 a aa z (by simp);exact Wj (h3 a (by rw[e];simp[aa])) (h3 z (by rw[e];simp)) ht h1 hz
   ·simp at aa;rw[aa];exact hz
 refine⟨?_,?_⟩
 ·unfold H8;rw[List.pairwise_append,Ad2];refine⟨p1,⟨fun b hb=>Nf (h.le b hb),p2⟩,fun a ha b hb=>?_⟩;rcases Aci.1 hb with rfl|hb
  ·exact ac a ha
  ·exact p3 a ha b hb
 ·rw[<-h.eq];exact List.perm_middle.trans ((List.perm_append_singleton t (A++B)).symm)
theorem wF {P:Program}{t:TypeId}{b:Nat}{zc:List Value}{σ0 σ:St}{id2 n lo:Nat}{x:AV}{xs ys:List AV}{K:AV->St->Prop}(ht:Lp P t=some (3,b,zc))(hzc:zc.length=3)(hy:ys.length=3)(hf:ys.all Abs.flat=true)(hb:(n+1)*b<=140737488355328)(hl:n+1<=1099511627776)
  (ae:lo<=σ.nobj) (h0:σ0.nobj<=lo) (hK:Keep σ0 σ) (hx:PS lo σ x n xs) (h:∀o cap σ',PS lo σ' (Abs.gx o (n+1) cap) (n+1) (xs++ys)->σ.nobj<=σ'.nobj->(∀p,p<σ.nobj->(∀c,x≠Abs.gx p n c)->σ'.obj p=σ.obj p/\o≠p)->Keep σ0 σ'->K (Abs.gx o (n+1) cap) σ'):Hg P t t x (sl id2 1 ys) σ K:=by
 refine eD (xs:=xs) ht Ad6 hzc Ad6 hf Ad6 hb hl ?_ ?_ ?_
 ·rcases hx with h|⟨o,cap,h1,h2,h3,h4,h5,-,-⟩
  ·exact .inl h
  ·exact .inr ⟨o,cap,h1,h2,h3,h4,h5⟩
 ·rintro o cap cs ⟨c0,e1,e2,rfl⟩ ab aa;rcases hx with⟨rfl,-,-⟩|⟨o',cap',rfl,h2,h3,h4,h5,h6,h7⟩
  ·simp at e1
  ·simp at e1;obtain⟨rfl,rfl⟩:=e1;refine h _ _ _ (.inr ⟨_,_,rfl,Ad6,e2,by rw[Ak];exact ab,by rw[Ak];exact aa,h6,h7⟩) (Abf _) (fun p hp ad=>?_) (hK.put Ad6 _);have ac:p≠o':=fun e=>ad cap' (by rw[e]);exact⟨Cd ac,fun e=>ac e.symm⟩
 ·intro cap cs ab hc aa;exact h _ _ _ (.inr ⟨_,_,rfl,Ad6,hc,by rw[Ao];exact ab,by rw[Ao];exact aa,ae,Aea⟩) Aea (fun p hp _=>⟨Ae Ad6,Ad6⟩) (hK.new _)
theorem PS.tup {lo:Nat}{σ:St}{o cap n i:Nat}{L:List Bc}{t:Bc}(h:PS lo σ (Abs.gx o n cap) n (Cx L))(h3:T3 L)(hn:n=L.length)(hi:L[i]?=some t):∃r,(σ.obj o).drop (i*3)=icells t++r:=by
 obtain⟨o',cap',e,-,-,-,-,aa⟩:=h.gx (by have:=(List.getElem?_eq_some_iff.1 hi).1;omega);simp at e;obtain⟨rfl,rfl⟩:=e;obtain⟨-,r,hd⟩:=Fs h3 hi;have hl:=Ef h3;have ab:=(List.getElem?_eq_some_iff.1 hi).1;refine⟨r++(σ.obj o).drop (n*3),?_⟩
 conv=>lhs;rw[<-Adl (n*3) (σ.obj o),aa]
 rw[Acp (by rw[hl];omega),hd,Ab8]
theorem PS.len {lo:Nat}{σ:St}{o cap n:Nat}{pc:List AV}(h:PS lo σ (Abs.gx o n cap) n pc)(hn:0<n):(σ.obj o).length=cap*3/\n<=cap/\lo<=o/\o<σ.nobj:=by
 obtain⟨o',cap',e,h1,h2,h3,h4,-⟩:=h.gx hn;simp at e;obtain⟨rfl,rfl⟩:=e;exact⟨h3,h4,h1,h2⟩
theorem cS (l:List Bc)(idl:Nat)(h3:T3 l)(hl:l.length<=5000)(σ:St):ACalls Tryz.prog 86 [sl idl l.length (Cx l)] σ fun r σ'=>∃id L,r=sl id L.length (Cx L)/\L.Perm l/\H8 L/\Keep σ σ':=by
 have cb:=Ef h3;refine Z9 52 [.tmp 2] Tryz.func86 ?_
 repeat' (first|refine Z1 ?_|(refine Z8 ?_;intro κ hκ)|(refine Z4 ?_;clear hκ κ)|(refine Z2 ?_ ?_<;>intro h ac<;>try exact Xp)|(refine Z6 ?_;intro idn σn am ah ae ab ad aa)|refine Z3 ?_|exact⟨⟩|(apply hκ.out;clear hκ κ))
 refine Ad (fun m s σ'=>∃(i:Nat) (X:AV) (L:List Bc),m=l.length-i/\i<=l.length/\s 3=X/\s 8=sl idl l.length (Cx l)/\s 9=ic l.length/\s 10=ic i/\Keep σ σ'/\PS σ.nobj σ' X L.length (Cx L)/\L.length<=5000/\Aec (L.Perm (l.take i)/\H8 L)) l.length
  ⟨0,nilS,[],Ad6,Ad6,Ad8,by simp[upd,initS],Ad8,Ad8,Xs,.inl ⟨rfl,rfl,rfl⟩,by simp,by simp,List.Pairwise.nil⟩ ?_
 rintro m s σ' ⟨i,X,L,rfl,hi,az,h8,h9,a6,hK,hX,ch,hL⟩;have ba:=hK.nobj;by_cases bp:i<l.length
 ·have ak:=List.getElem?_eq_getElem bp;obtain⟨ai,r,hd⟩:=Fs h3 ak;generalize l[i]=t at hd ak ai;have b8:Aec (l.take (i+1)=l.take i++[t]):=by rw[Aec,Abv,ak,Ac5]
  have a5:T3 L:=fun x hx=>h3 x (Adr (hL.out.1.subset hx));have b2:L.length=i:=by have:=hL.out.1.length_eq;rw[Ab7,Aca hi]at this;exact this
  have b1:L.length<=i:=Ad6;clear ak b2;have f1:=C9 ai;have f2:=He ai;have f3:=Dn ai;have f4:=Gz ai;have f5:=Ce t;have f6:=No ai;have bu:=hX.flat
  repeat' (first|refine Z1 ?_|(refine Z8 ?_;intro κ hκ)|(refine Z4 ?_;clear hκ κ)|(refine Z2 ?_ ?_<;>intro h ac<;>try exact Xp)|(refine Z6 ?_;intro idn σn am ah ae ab ad aa)|refine Z3 ?_|exact⟨⟩|(apply hκ.out;clear hκ κ))
  have bg:∀c,X≠gx σ'.nobj L.length c:=fun c e=>by
   rcases hX with⟨e2,-,-⟩|⟨o,cap,e2,-,-,-,-,-,h7⟩
   ·rw[e2]at e;simp at e
   ·rw[e2]at e;simp at e;omega
  refine wF (lo:=σ.nobj) (σ0:=σ) (by first|exact E0) (by rfl) f1 f5 Ad6 Ad6 (by simp only[Ag,Ab,Aa];omega) Ad6 (((hK.new _).put hK.nobj _).lay 1) (hX.keep ((((Keep.refl _).new _).put (Abf _) _).lay 1)) ?_;intro og cg σn a4 bc au ah;simp only[Ag,Ab,Aa]at bc;obtain⟨ot5,a3⟩:=au σ'.nobj (by simp only[Ag,Ab,Aa];omega) bg;rw[Ap,Ak]at ot5;rw[<-Ke]at a4;clear au bg hX bu;refine Z3 ?_
  repeat' (first|refine Z1 ?_|(refine Z8 ?_;intro κ hκ)|(refine Z4 ?_;clear hκ κ)|(refine Z2 ?_ ?_<;>intro h ac<;>try exact Xp)|(refine Z6 ?_;intro idn σn am ah ae ab ad aa)|refine Z3 ?_|exact⟨⟩|(apply hκ.out;clear hκ κ))
  refine Ad (fun m s σ2=>∃(A B:List Bc),m=A.length/\s 3=gx og (L.length+1) cg/\s 5=ptr σ'.nobj 0/\s 6=ic A.length/\s 8=sl idl l.length (Cx l)/\s 9=ic l.length/\s 10=ic i/\Keep σ σ2/\σ'.nobj<σ2.nobj/\σ2.obj σ'.nobj=icells t/\PS σ.nobj σ2 (gx og (L.length+1) cg) (L.length+1) (Cx (A++t::B))/\Aec (Ins L t A B)) L.length
   ⟨L,[],rfl,Ad7,Ad7,Ad8,Ad7,Ad7,Ad7,ah,Ad6,ot5,a4,by simp,by simp⟩ ?_
  clear az h8 h9 a6 a4 ot5 ah hK ba bc;rintro m s σ2 ⟨A,B,rfl,az,h5,h6,h8,h9,a6,hK,bo,ot5,hX,hI⟩;have ba:=hK.nobj;have b4:A.length+B.length=L.length:=by have:=congrArg List.length hI.out.eq;simpa using this
  have af:(A++t::B).length=L.length+1:=by simp;omega
  have aj:T3 (A++t::B):=fun x hx=>by
   rcases Aco.1 hx with h|h
   ·exact a5 x (by rw[<-hI.out.eq];simp[h])
   ·rcases Aci.1 h with rfl|h
    ·exact ai
    ·exact a5 x (by rw[<-hI.out.eq];simp[h])
  obtain⟨xl1,xl2,xl3,xl4⟩:=hX.len Ad6;have HD:Aec ((∀a,A.getLast?=some a->Eo t a=false)->(A++t::B).Perm (l.take (i+1))/\H8 (A++t::B)):=fun hA=>by
   obtain⟨r1,r2⟩:=hI.out.done hL.out.2 a5 ai hA;refine⟨?_,r1⟩;rw[b8.out];exact r2.trans (hL.out.1.append_right [t])
  rcases List.eq_nil_or_concat A with rfl|⟨A',u,bh⟩
  ·have HN:Aec (([]++t::B).Perm (l.take (i+1))/\H8 ([]++t::B)):=HD.out (by simp);have bz:PS σ.nobj σ2 (gx og (L.length+1) cg) ([]++t::B).length (Cx ([]++t::B)):=by rw[af];exact hX
   have ci:s 6=ic 0:=h6;have b7:decide ((0:Int)<0)=false:=rfl;have b6:decide ((0:Int)>0)=false:=rfl;clear HD h6
   repeat' (first|refine Z1 ?_|(refine Z8 ?_;intro κ hκ)|(refine Z4 ?_;clear hκ κ)|(refine Z2 ?_ ?_<;>intro h ac<;>try exact Xp)|(refine Z6 ?_;intro idn σn am ah ae ab ad aa)|refine Z3 ?_|exact⟨⟩|(apply hκ.out;clear hκ κ))
   refine Bq (Q:=fun e s' σ''=>e= .normal/\s' 34=sc (.bool false)/\s' 3=gx og (L.length+1) cg/\s' 5=ptr σ'.nobj 0/\s' 8=sl idl l.length (Cx l)/\s' 9=ic l.length/\s' 10=ic i/\σ''=σ2) ?_ ?_
   ·refine A3 Ah (fun _=>True) [] [0,1,2,3,4,5,6,7,8,9,10,11] 2 #[true,true,true,true,true,true,true,true,true,true,true,true,false,false] Ad9 (fun _ _ _ h=>by cases h.1) ?_;intro κ hκ;refine Z3 ?_;refine hκ.out _ ?_;clear hκ κ;refine Am (i:=12) Ad9 ?_;refine Ar ?_;intro κ hκ;refine Z3 ?_;refine hκ.out _ _ ⟨kept_refl,?_⟩;clear hκ κ;refine Ed [13] Ad9 Ad9 (fun _ _ _ h=>by cases h.1) (Abf _) (fun o ho _=>rfl) ?_;intro κ hκ;refine Z3 ?_;refine hκ.out _ _ ⟨rfl,?_⟩;simp[upd, *]
   ·rintro e s' σ3 ⟨rfl,g34,g3,g5,g8,g9,g10,rfl⟩;refine D9 g34 ?_
    repeat' (first|refine Z1 ?_|(refine Z8 ?_;intro κ hκ)|(refine Z4 ?_;clear hκ κ)|(refine Z2 ?_ ?_<;>intro h ac<;>try exact Xp)|(refine Z6 ?_;intro idn σn am ah ae ab ad aa)|refine Z3 ?_|exact⟨⟩|(apply hκ.out;clear hκ κ))
    refine⟨l.length-(i+1),Ad6,i+1,gx og (L.length+1) cg,[]++t::B,?_⟩
    ((repeat' with_reducible refine And.intro ?_ ?_)<;>first|exact Xq|exact (bz)|exact (HN)|exact (by rw[af];omega)|exact Xs)
  ·rw[List.concat_eq_append]at bh;subst bh;rw[show (A'++[u]).length=A'.length+1 by simp]at h6 b4;have bd:(A'++[u]++t::B)[A'.length]?=some u:=by simp
   have av:(A'++[u]++t::B)[A'.length+1]?=some t:=by rw[List.getElem?_append_right (by simp)];simp
   obtain⟨r1,bf⟩:=hX.tup aj af.symm bd;obtain⟨r2,be⟩:=hX.tup aj af.symm av;have ao:=aj u (by simp);have b0:=fun σ=>gW t u ai ao σ;have a9:Aec (Eo t u=false->(A'++[u]++t::B).Perm (l.take (i+1))/\H8 (A'++[u]++t::B)):=fun h=>HD.out (fun a ha=>by simp at ha;subst ha;exact h)
   have a8:Aec (Eo t u=true->Ins L t A' (u::B)):=fun h=>⟨by rw[<-hI.out.eq];simp,fun b hb=>by
    rcases Aci.1 hb with rfl|hb
    ·exact h
    ·exact hI.out.le b hb⟩
   have ay:Aec (((A'++[u]++t::B).set (A'.length+1) u).set A'.length t=A'++t::u::B):=by
    rw[Aec,List.set_append_right _ _ (by simp)];simp
   have bb:=jZ (l:=A'++[u]++t::B) (i:=A'.length+1) (t:=u) aj ao (by rw[af];omega);have bl:T3 ((A'++[u]++t::B).set (A'.length+1) u):=fun x hx=>by
    rcases Adt hx with h|rfl
    ·exact aj x h
    ·exact ao
   have a0:=jZ (l:=(A'++[u]++t::B).set (A'.length+1) u) (i:=A'.length) (t:=t) bl ai (by rw[Ady,af];omega);rw[ay.out]at a0;have bm:Aec (∀σ3,PS σ.nobj σ3 (gx og (L.length+1) cg) (L.length+1) (Cx (A'++[u]++t::B))->PS σ.nobj ((σ3.put og (lsp (σ3.obj og) ((A'.length+1)*3) (icells u))).put og (lsp (lsp (σ3.obj og) ((A'.length+1)*3) (icells u)) (A'.length*3) (icells t))) (gx og (L.length+1) cg) (L.length+1) (Cx (A'++t::u::B))):=fun σ3 h=>by
    have g1:=h.set (i:=A'.length+1) (c:=icells u) Ad6 (C9 ao);rw[bb]at g1;have g2:=g1.set (i:=A'.length) (c:=icells t) Ad6 (C9 ai);rw[a0,Ak]at g2;exact g2
   have k1:=C9 ao;have k2:=He ao;have k3:=Dn ao;have k5:=Ce u;have k6:=No ao;have ax:PS σ.nobj σ2 (gx og (L.length+1) cg) (A'++[u]++t::B).length (Cx (A'++[u]++t::B)):=by rw[af];exact hX
   have bn:((A'.length:Int)+1)-1=(A'.length:Int):=Ad6;have b5:s 6=ic ((A'.length:Int)+1):=by rw[h6];simp
   clear HD hI bd av bb a0 bl ay h6;generalize bi:A'.length=j at*
   have b9:Aec (A'.length=j):=bi;clear bi;have b7:decide ((0:Int)<(j:Int)+1)=true:=by rw[Ad3];omega
   have b6:decide ((j:Int)+1>0)=true:=by rw[Ad3];omega
   have ca:((j:Int)+1).toNat=j+1:=Ad6
   repeat' (first|refine Z1 ?_|(refine Z8 ?_;intro κ hκ)|(refine Z4 ?_;clear hκ κ)|(refine Z2 ?_ ?_<;>intro h ac<;>try exact Xp)|(refine Z6 ?_;intro idn σn am ah ae ab ad aa)|refine Z3 ?_|exact⟨⟩|(apply hκ.out;clear hκ κ))
   refine Bq (Q:=fun e s' σ''=>e= .normal/\s' 34=sc (.bool (Eo t u))/\s' 3=gx og (L.length+1) cg/\s' 5=ptr σ'.nobj 0/\s' 6=ic ((j:Int)+1)/\s' 8=sl idl l.length (Cx l)/\s' 9=ic l.length/\s' 10=ic i/\Keep σ2 σ'') ?_ ?_
   ·refine A3 Ah (fun _=>True) [] [0,1,2,3,4,5,6,7,8,9,10,11] 2 #[true,true,true,true,true,true,true,true,true,true,true,true,false,false] Ad9 (fun _ _ _ h=>by cases h.1) ?_;intro κ hκ;refine Z3 ?_;refine hκ.out _ ?_;clear hκ κ;refine Am (i:=12) Ad9 ?_;refine Ar ?_;intro κ hκ;refine Z3 ?_;refine ACalls.mono (b0 _) ?_;rintro _ σ5 ⟨rfl,an⟩;refine Z3 ?_;refine hκ.out _ _ ⟨Aq an,?_⟩;clear hκ κ;refine Ed [13] Ad9 Ad9 (fun _ _ _ h=>by cases h.1) an.nobj (fun o ho _=>an.ver o ho) ?_;intro κ hκ;refine Z3 ?_;refine hκ.out _ _ ⟨rfl,?_⟩;simp[upd, *]
   ·rintro e s' σ5 ⟨rfl,g34,g3,g5,g6,g8,g9,g10,an⟩;have kn5:=an.nobj;have ap:=an.obj;have oog:σ5.obj og=σ2.obj og:=ap _ xl4;have bw:(σ5.obj og).drop (j*3)=icells u++r1:=by rw[oog];exact bf
    have bv:(σ5.obj og).drop ((j+1)*3)=icells t++r2:=by rw[oog];exact be
    have xl1':(σ5.obj og).length=cg*3:=by rw[oog];exact xl1
    have ot5':σ5.obj σ'.nobj=icells t:=by rw[ap _ bo];exact ot5
    have b3:=hK.trans an;have a7:Aec _:=bm.out σ5 (hX.keep an);have aw:=ax.keep an;clear az h5 b5 h8 h9 a6 bf be xl1 ot5 oog ap hX ax bm;cases hb:Eo t u with
    |false=>
     have HN:Aec _:=a9.out hb;rw[hb]at g34;refine D9 g34 ?_;clear hb a9 a8
     repeat' (first|refine Z1 ?_|(refine Z8 ?_;intro κ hκ)|(refine Z4 ?_;clear hκ κ)|(refine Z2 ?_ ?_<;>intro h ac<;>try exact Xp)|(refine Z6 ?_;intro idn σn am ah ae ab ad aa)|refine Z3 ?_|exact⟨⟩|(apply hκ.out;clear hκ κ))
     refine⟨l.length-(i+1),Ad6,i+1,gx og (L.length+1) cg,A'++[u]++t::B,?_⟩
     ((repeat' with_reducible refine And.intro ?_ ?_)<;>first|exact Xq|exact (aw)|exact (HN)|exact (by rw[af];omega)|exact Xs)
    |true=>
     have HN:Aec _:=a8.out hb;rw[hb]at g34;refine E9 g34 ?_;clear hb a9 a8;have ce:j+1<L.length+1:=Ad6;have cd:∀c,(σ5.put og c).obj σ'.nobj=icells t:=fun c=>by rw[Cd (Ne.symm a3)];exact ot5'
     have bq:(lsp (σ5.obj og) ((j+1)*3) (icells u)).length=cg*3:=by rw[H0];exact xl1'
     have cf:j*3+3<=cg*3:=Ad6
     repeat' (first|refine Z1 ?_|(refine Z8 ?_;intro κ hκ)|(refine Z4 ?_;clear hκ κ)|(refine Z2 ?_ ?_<;>intro h ac<;>try exact Xp)|(refine Z6 ?_;intro idn σn am ah ae ab ad aa)|refine Z3 ?_|exact⟨⟩|(apply hκ.out;clear hκ κ))
     refine⟨A'.length,by simp,A',u::B,?_⟩
     ((repeat' with_reducible refine And.intro ?_ ?_)<;>first|exact Xq|exact (a7)|exact (HN)|exact ((b3.put xl3 _).put xl3 _)|exact (by rw[b9.out])|exact (by rw[Cd (Ne.symm a3),Cd (Ne.symm a3)];exact ot5')|exact Xs)
 ·have br:i=l.length:=Ad6;subst br;obtain⟨e1,e2⟩:=hL.out;rw[Abt]at e1;rcases hX with⟨rfl,hn,-⟩|⟨o,cap,rfl,g2,g3,g4,g5,g6,g7⟩
  ·have:L=[]:=Abq hn;subst this
   repeat' (first|refine Z1 ?_|(refine Z8 ?_;intro κ hκ)|(refine Z4 ?_;clear hκ κ)|(refine Z2 ?_ ?_<;>intro h ac<;>try exact Xp)|(refine Z6 ?_;intro idn σn am ah ae ab ad aa)|refine Z3 ?_|exact⟨⟩|(apply hκ.out;clear hκ κ))
   exact⟨_,rfl,1,[],rfl,e1,e2⟩
  ·refine Tw (t:=3) (o:=o) (k:=L.length*3) g7 az (by rw[g4];omega) ?_;rw[g5]
   repeat' (first|refine Z1 ?_|(refine Z8 ?_;intro κ hκ)|(refine Z4 ?_;clear hκ κ)|(refine Z2 ?_ ?_<;>intro h ac<;>try exact Xp)|(refine Z6 ?_;intro idn σn am ah ae ab ad aa)|refine Z3 ?_|exact⟨⟩|(apply hκ.out;clear hκ κ))
   exact⟨_,rfl,0,L,rfl,e1,e2,hK.put g6 _⟩
theorem V2:∀{L L':List Bc},T3 L->L.Perm L'->H8 L->H8 L'->L=L'
 |[],L',_,hp,_,_=>by rw[hp.nil_eq]
 |a::L,[],_,hp,_,_=>by have:=hp.length_eq;simp at this
 |a::L,b::L',h3,hp,h1,h2=>by
  unfold H8 at h1 h2;rw[Ad2]at h1 h2;have ab:T3 (b::L'):=fun x hx=>h3 x (hp.symm.subset hx);have aa:a=b:=by
   have ha:a∈b::L':=hp.subset (by simp);have hb:b∈a::L:=hp.symm.subset (by simp);rcases Aci.1 ha with e|ha
   ·exact e
   ·rcases Aci.1 hb with e|hb
    ·exact e.symm
    ·exact vD (h3 a (by simp)) (ab b (by simp)) (h2.1 a ha) (h1.1 b hb)
  subst aa;rw[V2 (fun x hx=>h3 x (Acl _ hx)) (List.perm_cons a|>.1 hp) h1.2 h2.2]
def gP (t:Bc):List Bc->List Bc
 |[]=>[t]
 |u::l=>if Eo t u=true then t::u::l else u::gP t l
def Ig:List Bc->List Bc
 |[]=>[]
 |t::l=>gP t (Ig l)
theorem Ou (t:Bc):∀l,(gP t l).Perm (t::l)
 |[]=>List.Perm.refl _
 |u::l=>by
  unfold gP;split
  ·exact List.Perm.refl _
  ·exact ((Ou t l).cons u).trans (List.Perm.swap _ _ _)
theorem Lv:∀l,(Ig l).Perm l
 |[]=>List.Perm.refl _
 |t::l=>(Ou t _).trans ((Lv l).cons t)
theorem Wl {t:Bc}(ht:t.length=3):∀{l:List Bc},T3 l->H8 l->H8 (gP t l)
 |[],_,_=>by simp[gP,H8]
 |u::l,h3,h=>by
  unfold H8 at h;rw[Ad2]at h;have hu:=h3 u (by simp);unfold gP;split
  ·rename_i hc;unfold H8;rw[Ad2,Ad2];refine⟨fun x hx=>?_,h.1,h.2⟩;rcases Aci.1 hx with rfl|hx
   ·exact Nf hc
   ·exact Wj ht hu (h3 x (Acl _ hx)) (Nf hc) (h.1 x hx)
  ·rename_i hc;have:=Wl ht (fun x hx=>h3 x (Acl _ hx)) h.2;unfold H8 at this⊢;rw[Ad2];refine⟨fun x hx=>?_,this⟩;rcases Aci.1 ((Ou t l).subset hx)with rfl|hx
   ·simpa using hc
   ·exact h.1 x hx
theorem R4:∀{l:List Bc},T3 l->H8 (Ig l)
 |[],_=>List.Pairwise.nil
 |t::l,h3=>Wl (h3 t (by simp)) (fun x hx=>h3 x (Acl _ ((Lv l).subset hx))) (R4 (fun x hx=>h3 x (Acl _ hx)))
theorem kI {L l:List Bc}(h3:T3 l)(hp:L.Perm l)(hr:H8 L):L=Ig l:=
 V2 (fun x hx=>h3 x (hp.subset hx)) (hp.trans (Lv l).symm) hr (R4 h3)
def F6 (nm:Tx)(t:Bc):Tx:=nm++[40]++Uk t++[41,46]
def Ic (N:List Tx)(rk:Nat->List Bc)(acc:Tx×List Int)(x:RItem):Tx×List Int:=
 if x.out=true/\((N.idxOf x.head.pred:Nat):Int)∉acc.2 then (acc.1++(rk (N.idxOf x.head.pred)).flatMap (F6 x.head.pred),acc.2++[((N.idxOf x.head.pred:Nat):Int)])else acc
def Et (N:List Tx)(rk:Nat->List Bc)(l:List RItem):Tx×List Int:=l.foldl (Ic N rk) ([],[])
def Pd (N:List Tx)(rk:Nat->List Bc)(l:List RItem):Tx:=(Et N rk l).1
theorem eY {N:List Tx}{rk:Nat->List Bc}{l:List RItem}{i:Nat}{x:RItem}(h:l[i]?=some x):Et N rk (l.take (i+1))=Ic N rk (Et N rk (l.take i)) x:=by
 unfold Et;rw[Abv,h,Ac5,Ac8];rfl
theorem pL {t:Bc}(ht:t.length=3)(hb:∀y∈t,-1<=y/\y<=9999):(Uk t).length<=60:=by
 have hl:(tups t).length<=3:=by
  unfold tups;have:=(List.takeWhile_prefix (fun x=>decide (x≠ -1)) (l:=t)).length_le;omega
 have hs:∀y∈tups t,0<=y/\y<=9999:=fun y hy=>by
  have h1:=(List.takeWhile_subset _ hy:y∈t);have h2:∀(l:List Int),y∈l.takeWhile (fun x=>decide (x≠ -1))->y≠ -1:=fun l=>by
   induction l with
   |nil=>intro h;cases h
   |cons z l ih=>
    intro h;rw[List.takeWhile_cons]at h;split at h
    ·rename_i hz;rcases Aci.1 h with rfl|h
     ·simpa using hz
     ·exact ih h
    ·cases h
  have h3:=h2 t hy;have:=hb y h1;omega
 unfold Uk;generalize tups t=l at hl hs
 match l,hl with
 |[],_=>simp[jn]
 |[a],_=>have:=Fx a (hs a (by simp)).1 (hs a (by simp)).2;simp[jn];omega
 |[a,b],_=>
  have h1:=Fx a (hs a (by simp)).1 (hs a (by simp)).2;have h2:=Fx b (hs b (by simp)).1 (hs b (by simp)).2;simp[jn];omega
 |[a,b,c],_=>
  have h1:=Fx a (hs a (by simp)).1 (hs a (by simp)).2;have h2:=Fx b (hs b (by simp)).1 (hs b (by simp)).2;have h3:=Fx c (hs c (by simp)).1 (hs c (by simp)).2;simp[jn];omega
theorem Qh (N:List Tx)(l:List RItem)(cs:List AV)(idb idi:Nat)(hB:Bk N l cs)(ct:∀x∈l,x.head.pred.length<=600)(om ot:Nat)(M:MM)(d b:Int)(de:N.length<=M.length)(bl:∀x∈M,∀t∈x.2,∀y∈t,-1<=y/\y<=9999)(σ:St)(hM:MOb σ om ot M d b):
  ACalls Tryz.prog 52 [ptr om 0,Bs N idb l idi cs] σ fun r σ'=>r=str (Pd N (fun k=>Ig (Au M (k:Int))) l)/\Keep σ σ':=by
 have df:=EL.length Df hB.el;have cj:=hB.len;have dl:=hB.nm;have hE:=hB.el;have lo:=hM.lo;have lt:=hM.lt;have b1:=hM.ob;have b0:=hM.oc;have hpl:=hM.pl;have dc:=F9 M;have di:({data:=#[40]}:ByteArray)=bs [40]:=rfl;have dh:({data:=#[41,46]}:ByteArray)=bs [41,46]:=rfl;have dj:({data:=#[]}:ByteArray)=bs []:=rfl;generalize bw:(fun k:Nat=>Ig (Au M (k:Int)))=rk;have c5:Aec (∀k:Nat,rk k=Ig (Au M (k:Int))):=fun k=>by rw[<-bw]
 clear bw;unfold Bs;refine Z9 64 [.tmp 4] Tryz.func52 ?_
 repeat' (first|refine Z1 ?_|(refine Z8 ?_;intro κ hκ)|(refine Z4 ?_;clear hκ κ)|(refine Z2 ?_ ?_<;>intro h af<;>try exact Xp)|(refine Z6 ?_;intro idn σn ak am ad ab ae aa)|refine Z7 ?_|exact⟨⟩|(apply hκ.out;clear hκ κ))
 refine Ad (fun m s σ'=>∃(i i6:Nat),m=l.length-i/\i<=l.length/\s 0=ptr om 0/\s 3=ptr σ.nobj 0/\s 5=str (Et N rk (l.take i)).1/\s 6=sl i6 (Et N rk (l.take i)).2.length (icells (Et N rk (l.take i)).2)/\s 14=sl idi l.length cs/\s 15=ic l.length/\s 16=ic i/\Keep σ σ'/\σ.nobj<σ'.nobj/\σ'.obj σ.nobj=[sl idb N.length (N.map str),sl idi l.length cs]/\Own σ σ' i6 (Et N rk (l.take i)).2.length/\(Et N rk (l.take i)).2.length<=i/\(Et N rk (l.take i)).1.length<=i*4000000) l.length
  ⟨0,1,Ad6,Ad6,by simp[upd,initS],Ad8,by simp[upd,Et];try rfl,by simp[upd,Et,icells],Ad8,Ad8,Ad8,Xs,Aea,by rw[Ao],by simp[Et,Own.nil],by simp[Et],by simp[Et]⟩ ?_
 rintro m s σ' ⟨i,i6,rfl,hi,h0,h3,h5,h6,br,bq,bp,hK,b2,au,hO,bh,a9⟩;have be:=hK.nobj;by_cases b3:i<l.length
 ·have ac:=List.getElem?_eq_getElem b3;obtain⟨hm,ih,id,bb,r,hb,hd⟩:=Fi hE ac;have bv:=Ac2 b3;generalize l[i]=x at hd ac hb hm bv;have HS:Aec _:=eY (N:=N) (rk:=rk) ac;generalize cr:Et N rk (l.take i)=T at*
  clear ac cr;obtain⟨T1,T2⟩:=T;simp only at h5 h6 hO bh a9;cases ap:x.out with
  |false=>
   rw[ap]at hd;have HN:Aec (Et N rk (l.take (i+1))=(T1,T2)):=by rw[Aec,HS.out,Ic,if_neg (by simp[ap])]
   clear ap HS
   repeat' (first|refine Z1 ?_|(refine Z8 ?_;intro κ hκ)|(refine Z4 ?_;clear hκ κ)|(refine Z2 ?_ ?_<;>intro h af<;>try exact Xp)|(refine Z6 ?_;intro idn σn ak am ad ab ae aa)|refine Z7 ?_|exact⟨⟩|(apply hκ.out;clear hκ κ))
   refine⟨l.length-(i+1),Ad6,i+1,i6,?_⟩;rw[HN.out];refine⟨rfl,Ad6,rfl,rfl,by simp,(hK.new _).put hK.nobj _,Ad6,Own.put (Own.new hO _) _ _,Abg bh (Abj i),?_⟩;exact Abg a9 (Abk _ (Abj i))
  |true=>
   rw[ap]at hd;have cn:=Ado.2 hm;have ax:=fun σ=>Ex ((N.idxOf x.head.pred:Nat):Int) T2 i6 Ad6 σ;have c9:=A8 T2;by_cases aw:((N.idxOf x.head.pred:Nat):Int)∈T2
   ·have HN:Aec (Et N rk (l.take (i+1))=(T1,T2)):=by rw[Aec,HS.out,Ic,if_neg (by simp[aw])]
    rw[if_pos aw]at ax;have ch:(((T2.idxOf ((N.idxOf x.head.pred:Nat):Int):Nat):Int) != -1)=true:=by simp
    generalize T2.idxOf ((N.idxOf x.head.pred:Nat):Int)=q at ax ch;clear ap HS aw
    repeat' (first|refine Z1 ?_|(refine Z8 ?_;intro κ hκ)|(refine Z4 ?_;clear hκ κ)|(refine Z2 ?_ ?_<;>intro h af<;>try exact Xp)|(refine Z6 ?_;intro idn σn ak am ad ab ae aa)|(refine Z5 ?_;refine Xi (ax _) ?_;rintro _ _ ⟨rfl,ai⟩;(have bc:=((hK.new _).put hK.nobj _).trans ai;have aj:=ai.nobj;have ah:=ai.obj;simp only[Ab,Aa]at aj ah;have bo:=Own.keep (Own.put (Own.new hO _) _ _) ai))|refine Z7 ?_|exact⟨⟩|(apply hκ.out;clear hκ κ))
    rename_i σ2;have a8:σ2.obj σ.nobj=[sl idb N.length (N.map str),sl idi l.length cs]:=by rw[ah _ Ad6,Aj Ad6,Ae Ad6,au]
    refine⟨l.length-(i+1),Ad6,i+1,i6,?_⟩;rw[HN.out];refine⟨rfl,Ad6,rfl,rfl,by simp,Ad6,bo,Abg bh (Abj i),?_⟩;exact Abg a9 (Abk _ (Abj i))
   ·rw[if_neg aw]at ax;have a6:M[N.idxOf x.head.pred]?=some (M[N.idxOf x.head.pred]'Ad6):=List.getElem?_eq_getElem Ad6;generalize M[N.idxOf x.head.pred]'Ad6=y at a6;have av:=Abm a6;have dd:=Ga a6;have b5:=fun σ=>cS y.2 y.1 (hM.t3 y av) (hM.ln y av) σ;have HN:Aec (∀L,L.Perm y.2->H8 L->Et N rk (l.take (i+1))=(T1++L.flatMap (F6 x.head.pred),T2++[((N.idxOf x.head.pred:Nat):Int)])):=fun L h1 h2=>by
     rw[HS.out,Ic,if_pos ⟨ap,aw⟩];have:rk (N.idxOf x.head.pred)=L:=by rw[c5.out,show Au M ((N.idxOf x.head.pred:Nat):Int)=y.2 by simp[Au,a6],kI (hM.t3 y av) h1 h2]
     rw[this]
    have ci:(N.map str).drop (N.idxOf x.head.pred)=str x.head.pred::(N.map str).drop (N.idxOf x.head.pred+1):=by
     rw[Ach (by simpa using cn)];simp
    have db:=ct x bv;have ce:=hM.ln y av;have cd:=bl y av;have cf:=hM.t3 y av;generalize (N.map str).drop (N.idxOf x.head.pred+1)=rest at ci;generalize cg:N.idxOf x.head.pred=ix at*
    generalize x.head.pred=nm at*
    clear ap HS aw cg a6;have a3:σ'.obj om=[fx ot 0 M.length,ic d,ic b]:=by rw[hK.obj _ lo,b1]
    have az:σ'.obj ot=En M:=by rw[hK.obj _ lt,b0]
    repeat' (first|refine Z1 ?_|(refine Z8 ?_;intro κ hκ)|(refine Z4 ?_;clear hκ κ)|(refine Z2 ?_ ?_<;>intro h af<;>try exact Xp)|(refine Z6 ?_;intro idn σn ak am ad ab ae aa)|(refine Z5 ?_;first|(refine Xi (ax _) ?_;rintro _ _ ⟨rfl,ai⟩;(have bc:=((hK.new _).put hK.nobj _).trans ai;have aj:=ai.nobj;have ah:=ai.obj;simp only[Ab,Aa]at aj ah;have bo:=Own.keep (Own.put (Own.new hO _) _ _) ai;have a4:=bc.obj om lo;rw[b1]at a4;have a0:=bc.obj ot lt;rw[b0]at a0;have a8:=ah σ.nobj Ad6;rw[Aj Ad6,Ae Ad6,au]at a8))|(refine Xi (b5 _) ?_;rintro _ _ ⟨idr,L,rfl,ba,cu,a7⟩;(have b9:=am.trans a7;have bd:=a7.nobj;have ay:=a7.obj;have b6:=Own.keep ak a7;have c7:Aec _:=HN.out L ba cu)))|refine Z7 ?_|exact⟨⟩|(apply hκ.out;clear hκ κ))
    rename_i σ2 _ σ3;have bu:σ3.obj σ.nobj=[sl idb N.length (N.map str),sl idi l.length cs]:=by rw[ay _ Ad6,ad,a8]
    have dm:L.length<=5000:=by rw[ba.length_eq];exact ce
    have b8:T3 L:=fun u hu=>cf u (ba.subset hu);have cv:∀u∈L,∀z∈u,-1<=z/\z<=9999:=fun u hu=>cd u (ba.subset hu);have da:=Ef b8
    refine Ad (fun m s σ4=>∃(j:Nat) (W:Tx),m=L.length-j/\j<=L.length/\s 0=ptr om 0/\s 3=ptr σ.nobj 0/\s 5=str W/\s 6=sl idn (T2.length+1) (icells T2++[ic ix])/\s 9=ic ix/\s 14=sl idi l.length cs/\s 15=ic l.length/\s 16=ic i/\s 43=sl idr L.length (Cx L)/\s 44=ic L.length/\s 45=ic j/\Keep σ σ4/\σ.nobj<σ4.nobj/\σ4.obj σ.nobj=[sl idb N.length (N.map str),sl idi l.length cs]/\Own σ σ4 idn (T2.length+1)/\W.length<=i*4000000+j*700/\Aec (W=T1++(L.take j).flatMap (F6 nm))) L.length
     ⟨0,T1,Ad6,Ad6,Ad7,Ad7,Ad7,Ad7,Ad7,Ad7,Ad7,Ad7,Ad7,Ad7,Ad8,b9,Ad6,bu,b6,Abg a9 (Nat.le_add_right _ _),by simp[Aec]⟩ ?_
    clear h0 h3 h5 h6 br bq bp hK b2 au hO be a3 az bc aj ah bo a4 a0 a8 ak am ad ab ae aa a7 b9 bd ay b6 bu ax b5 ai;rintro m s σ4 ⟨j,W,rfl,hj,h0,h3,h5,h6,h9,br,bq,bp,cy,cx,cw,hK,b2,au,hO,cq,hW⟩;have be:=hK.nobj;by_cases a5:j<L.length
    ·have ac:=List.getElem?_eq_getElem a5;obtain⟨an,r5,cp⟩:=Fs b8 ac;have bf:=cv _ (Ac2 a5);generalize L[j]=t at cp ac an bf;have cb:Aec (∀W',W'=W++F6 nm t->W'=T1++(L.take (j+1)).flatMap (F6 nm)):=fun W' e=>by
      rw[e,hW.out,Abv,ac,Ac5];simp
     have bn:=fun σ=>Up t an bf σ;have bg:=pL an bf;clear ac hW;have f1:=C9 an;have f2:=He an;have f3:=Dn an;have f4:=Gz an;have f5:=Ce t;have f6:=No an;generalize bz:Uk t=px at bn bg;have c6:Aec (F6 nm t=nm++[40]++px++[41,46]):=by rw[Aec,F6,bz]
     clear bz
     repeat' (first|refine Z1 ?_|(refine Z8 ?_;intro κ hκ)|(refine Z4 ?_;clear hκ κ)|(refine Z2 ?_ ?_<;>intro h af<;>try exact Xp)|(refine Z6 ?_;intro idn σn ak am ad ab ae aa)|refine Z7 ?_|exact⟨⟩|(apply hκ.out;clear hκ κ))
     have ca:Keep σ ((σ4.new [ic 0,ic 0,ic 0]).put σ4.nobj (icells t)):=(hK.new _).put hK.nobj _;generalize hσb:(σ4.new [ic 0,ic 0,ic 0]).put σ4.nobj (icells t)=σb at*
     have nb:σb.nobj=σ4.nobj+1:=by rw[<-hσb];rfl
     have o11:σb.obj σ4.nobj=icells t:=by rw[<-hσb,Ak]
     have o3:σb.obj σ.nobj=[sl idb N.length (N.map str),sl idi l.length cs]:=by rw[<-hσb,Aj Ad6,Ae Ad6,au]
     have b7:Own σ σb idn (T2.length+1):=by rw[<-hσb];exact Own.put (Own.new hO _) _ _
     clear hσb;refine Bq (Q:=fun e s' σ''=>e= .normal/\s' 0=ptr om 0/\s' 3=ptr σ.nobj 0/\s' 5=str (W++(nm++[40]++px++[41,46]))/\s' 6=sl idn (T2.length+1) (icells T2++[ic ix])/\s' 9=ic ix/\s' 14=sl idi l.length cs/\s' 15=ic l.length/\s' 16=ic i/\s' 43=sl idr L.length (Cx L)/\s' 44=ic L.length/\s' 45=ic j/\Keep σb σ'') ?_ ?_
     ·refine A3 Ah (fun _=>True) [] [0,1,2,3,4,5,6,7] 5 #[true,true,true,true,true,true,true,true,false,false,false,false,false] Ad9 (fun _ _ _ h=>by cases h.1) ?_;intro κ hκ;refine Z7 ?_;refine hκ.out _ ?_;clear hκ κ;refine Am (i:=8) Ad9 ?_;refine Ar ?_;intro κ hκ;refine Z7 ?_;refine ACalls.mono (bn _) ?_;rintro _ σ5 ⟨rfl,ao⟩;refine Z7 ?_;refine hκ.out _ _ ⟨Aq ao,?_⟩;clear hκ κ;refine Ed [9,10,11,12] Ad9 Ad9 (fun _ _ _ h=>by cases h.1) ao.nobj (fun o ho _=>ao.ver o ho) ?_;intro κ hκ;refine Z7 ?_;refine hκ.out _ _ ⟨rfl,?_⟩;simp[upd, *]
     ·rintro e s' σ5 ⟨rfl,g0,g3,g5,g6,g9,g14,g15,g16,g43,g44,g45,ao⟩;have kn5:=ao.nobj;have o5:σ5.obj σ.nobj=[sl idb N.length (N.map str),sl idi l.length cs]:=by rw[ao.obj _ Ad6,o3]
      have dn:=ca.trans ao;have dk:=Own.keep b7 ao;have cz:Aec (W++(nm++[40]++px++[41,46])=T1++(L.take (j+1)).flatMap (F6 nm)):=cb.out _ (by rw[c6.out]);have c8:(W++(nm++[40]++px++[41,46])).length<=i*4000000+(j+1)*700:=by simp;omega
      clear h0 h3 h5 h6 h9 br bq bp cy cx cw ca o3 o11 b7 au hO hK be cb bn;generalize W++(nm++[40]++px++[41,46])=W2 at*
      repeat' (first|refine Z1 ?_|(refine Z8 ?_;intro κ hκ)|(refine Z4 ?_;clear hκ κ)|(refine Z2 ?_ ?_<;>intro h af<;>try exact Xp)|(refine Z6 ?_;intro idn σn ak am ad ab ae aa)|refine Z7 ?_|exact⟨⟩|(apply hκ.out;clear hκ κ))
      refine⟨L.length-(j+1),Ad6,j+1,W2,?_⟩
      ((repeat' with_reducible refine And.intro ?_ ?_)<;>first|exact Xq|exact (cz)|exact Xs)
    ·have cm:j=L.length:=Ad6;subst cm;have b4:=hW.out;rw[Abt]at b4
     repeat' (first|refine Z1 ?_|(refine Z8 ?_;intro κ hκ)|(refine Z4 ?_;clear hκ κ)|(refine Z2 ?_ ?_<;>intro h af<;>try exact Xp)|(refine Z6 ?_;intro idn σn ak am ad ab ae aa)|refine Z7 ?_|exact⟨⟩|(apply hκ.out;clear hκ κ))
     refine⟨l.length-(i+1),Ad6,i+1,idn,?_⟩;rw[c7.out];have bm:(T1++L.flatMap (F6 nm)).length<=(i+1)*4000000:=by
      rw[<-b4,Abw];exact Abg cq (Nat.add_le_add_left Ad6 _)
     have bi:(T2++[(ix:Int)]).length=T2.length+1:=by simp
     refine⟨rfl,Ad6,rfl,?_,by simp,?_,?_,bm⟩
     ·show _=sl idn (T2++[(ix:Int)]).length (icells (T2++[(ix:Int)]));rw[bi,cT]
     ·show Own σ σ4 idn (T2++[(ix:Int)]).length;rw[bi];exact hO
     ·show (T2++[(ix:Int)]).length<=i+1;rw[bi];omega
 ·have co:i=l.length:=Ad6;subst co;rw[Abt]at h5
  repeat' (first|refine Z1 ?_|(refine Z8 ?_;intro κ hκ)|(refine Z4 ?_;clear hκ κ)|(refine Z2 ?_ ?_<;>intro h af<;>try exact Xp)|(refine Z6 ?_;intro idn σn ak am ad ab ae aa)|refine Z7 ?_|exact⟨⟩|(apply hκ.out;clear hκ κ))
  first|exact⟨_,rfl,rfl,hK⟩|exact⟨_,rfl,rfl⟩
end Go.Proofs.YtmoeoppbmhfbpabGreatDoorJ
