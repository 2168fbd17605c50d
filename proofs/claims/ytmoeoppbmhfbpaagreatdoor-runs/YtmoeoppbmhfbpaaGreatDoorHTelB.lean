import Derived.Test.YtmoeoppbmhfbpaaGreatDoorHFacB
import Derived.Test.YtmoeoppbmhfbpaaGreatDoorHEngW
import Derived.Test.YtmoeoppbmhfbpaaGreatDoorHProgO
import Derived.Test.YtmoeoppbmhfbpaaGreatDoorHFolD
set_option maxHeartbeats 64000000
set_option maxRecDepth 100000
set_option linter.all false
namespace Go.Proofs.YtmoeoppbmhfbpaaGreatDoorH
open Go.Abs
def H8 (l:List Bj):Prop:=l.Pairwise fun a b=>Cy b a=false
theorem kY {l:List Bj}{i:Nat}{t:Bj}(h3:T3 l)(ht:t.length=3)(hi:i<l.length):lsp (C7 l) (i*3) (Aj t)=C7 (l.set i t):=by
 have hl:=Er h3;have aa:=Dj ht;rw[G1 _ _ _ (by rw[aa,hl];omega),aa];have e:l=l.take i++l[i]::l.drop (i+1):=by rw[<-Abx hi,Ada]
 have e2:l.set i t=l.take i++t::l.drop (i+1):=by
  rw[List.set_eq_take_append_cons_drop,if_pos hi]
 have ac:(C7 (l.take i)).length=i*3:=by
  rw[Er (fun x hx=>h3 x (Adg hx)),Abk,Abp (Nat.le_of_lt hi)]
 have ab:=Dj (h3 _ (Ab1 hi));have e3:C7 l=C7 (l.take i)++(Aj l[i]++C7 (l.drop (i+1))):=by
  unfold C7
  conv=>lhs;rw[e]
  rw[Ab7,Aca]
 have e4:C7 (l.set i t)=C7 (l.take i)++(Aj t++C7 (l.drop (i+1))):=by
  rw[e2];simp[C7]
 rw[e4,e3,<-ac,List.take_left,Abl];congr 1;congr 1;rw[show (C7 (l.take i)).length+3=(C7 (l.take i)).length+(Aj l[i]).length by rw[ab],List.drop_length_add_append,List.drop_left]
structure Ins (acc:List Bj)(t:Bj)(A B:List Bj):Prop where
 eq:A++B=acc
 le:∀b∈B,Cy t b=true
theorem Ins.done {acc:List Bj}{t:Bj}{A B:List Bj}(h:Ins acc t A B)(hr:H8 acc)(h3:T3 acc)(ht:t.length=3)(hA:∀a,A.getLast?=some a->Cy t a=false):H8 (A++t::B)/\(A++t::B).Perm (acc++[t]):=by
 have ab:=hr;rw[<-h.eq]at ab h3;unfold H8 at ab;rw[Adq]at ab;obtain⟨p1,p2,p3⟩:=ab;have ac:∀a∈A,Cy t a=false:=fun a ha=>by
  rcases List.eq_nil_or_concat A with e|⟨A',z,e⟩
  ·rw[e]at ha;cases ha
  ·rw[List.concat_eq_append]at e;have hz:=hA z (by rw[e];simp);rw[e]at ha p1;rcases Ab2.1 ha with aa|aa
   ·have h1:=(Adq.1 p1).2.2 a aa z (by simp);exact Pe (h3 a (by rw[e];simp[aa])) (h3 z (by rw[e];simp)) ht h1 hz
   ·simp at aa;rw[aa];exact hz
 refine⟨?_,?_⟩
 ·unfold H8;rw[Adq,Adr];refine⟨p1,⟨fun b hb=>Kv (h.le b hb),p2⟩,fun a ha b hb=>?_⟩;rcases Acd.1 hb with rfl|hb
  ·exact ac a ha
  ·exact p3 a ha b hb
 ·rw[<-h.eq];exact List.perm_middle.trans ((List.perm_append_singleton t (A++B)).symm)
theorem wN {P:Program}{t:TypeId}{b:Nat}{zc:List Value}{σ0 σ:St}{id2 n lo:Nat}{x:AV}{xs ys:List AV}{K:AV->St->Prop}(ht:Ld P t=some (3,b,zc))(hzc:zc.length=3)(hy:ys.length=3)(hf:ys.all Abs.flat=true)(hb:(n+1)*b<=140737488355328)(hl:n+1<=1099511627776)
  (ae:lo<=σ.nobj) (h0:σ0.nobj<=lo) (hK:Keep σ0 σ) (hx:PS lo σ x n xs) (h:∀o cap σ',PS lo σ' (Abs.gx o (n+1) cap) (n+1) (xs++ys)->σ.nobj<=σ'.nobj->(∀p,p<σ.nobj->(∀c,x≠Abs.gx p n c)->σ'.obj p=σ.obj p/\o≠p)->Keep σ0 σ'->K (Abs.gx o (n+1) cap) σ'):Gx P t t x (sl id2 1 ys) σ K:=by
 refine fD (xs:=xs) ht Ad2 hzc Ad2 hf Ad2 hb hl ?_ ?_ ?_
 ·rcases hx with h|⟨o,cap,h1,h2,h3,h4,h5,-,-⟩
  ·exact .inl h
  ·exact .inr ⟨o,cap,h1,h2,h3,h4,h5⟩
 ·rintro o cap cs ⟨c0,e1,e2,rfl⟩ ab aa;rcases hx with⟨rfl,-,-⟩|⟨o',cap',rfl,h2,h3,h4,h5,h6,h7⟩
  ·simp at e1
  ·simp at e1;obtain⟨rfl,rfl⟩:=e1;refine h _ _ _ (.inr ⟨_,_,rfl,Ad2,e2,by rw[Ak];exact ab,by rw[Ak];exact aa,h6,h7⟩) (Aak _) (fun p hp ad=>?_) (hK.put Ad2 _);have ac:p≠o':=fun e=>ad cap' (by rw[e]);exact⟨Dy ac,fun e=>ac e.symm⟩
 ·intro cap cs ab hc aa;exact h _ _ _ (.inr ⟨_,_,rfl,Ad2,hc,by rw[Am];exact ab,by rw[Am];exact aa,ae,Ad6⟩) Ad6 (fun p hp _=>⟨Ai Ad2,Ad2⟩) (hK.new _)
theorem PS.tup {lo:Nat}{σ:St}{o cap n i:Nat}{L:List Bj}{t:Bj}(h:PS lo σ (Abs.gx o n cap) n (C7 L))(h3:T3 L)(hn:n=L.length)(hi:L[i]?=some t):∃r,(σ.obj o).drop (i*3)=Aj t++r:=by
 obtain⟨o',cap',e,-,-,-,-,aa⟩:=h.gx (by have:=(Aau.1 hi).1;omega);simp at e;obtain⟨rfl,rfl⟩:=e;obtain⟨-,r,hd⟩:=Fv h3 hi;have hl:=Er h3;have ab:=(Aau.1 hi).1;refine⟨r++(σ.obj o).drop (n*3),?_⟩
 conv=>lhs;rw[<-Ada (n*3) (σ.obj o),aa]
 rw[Acm (by rw[hl];omega),hd,Abl]
theorem PS.len {lo:Nat}{σ:St}{o cap n:Nat}{pc:List AV}(h:PS lo σ (Abs.gx o n cap) n pc)(hn:0<n):(σ.obj o).length=cap*3/\n<=cap/\lo<=o/\o<σ.nobj:=by
 obtain⟨o',cap',e,h1,h2,h3,h4,-⟩:=h.gx hn;simp at e;obtain⟨rfl,rfl⟩:=e;exact⟨h3,h4,h1,h2⟩
theorem eA (l:List Bj)(idl:Nat)(h3:T3 l)(hl:l.length<=5000)(σ:St):ACalls Tryz.prog 80 [sl idl l.length (C7 l)] σ fun r σ'=>∃id L,r=sl id L.length (C7 L)/\L.Perm l/\H8 L/\Keep σ σ':=by
 have b9:=Er h3;refine Z9 52 [.tmp 2] Tryz.func80 ?_
 repeat' (first|refine Z1 ?_|(refine Z8 ?_;intro ya J)|(refine Z4 ?_;clear J ya)|(refine Z2 ?_ ?_<;>intro h ac<;>try exact Xp)|(refine Z6 ?_;intro idn σn am ah ae ab ad aa)|refine Z3 ?_|exact Zt|(apply J.out;clear J ya))
 refine Ab (fun m s σ'=>∃(i:Nat) (X:AV) (L:List Bj),m=l.length-i/\i<=l.length/\s 3=X/\s 8=sl idl l.length (C7 l)/\s 9=ic l.length/\s 10=ic i/\Keep σ σ'/\PS σ.nobj σ' X L.length (C7 L)/\L.length<=5000/\Ad8 (L.Perm (l.take i)/\H8 L)) l.length
  ⟨0,nilS,[],Ad2,Ad2,Ad4,by simp[upd,initS],Ad4,Ad4,Xs,.inl ⟨rfl,rfl,rfl⟩,by simp,by simp,List.Pairwise.nil⟩ ?_
 rintro m s σ' ⟨i,X,L,rfl,hi,az,h8,h9,a6,hK,hX,cd,hL⟩;have ba:=hK.nobj;by_cases bn:i<l.length
 ·have ak:=Aav bn;obtain⟨ai,r,hd⟩:=Fv h3 ak;generalize l[i]=t at hd ak ai;have b6:Ad8 (l.take (i+1)=l.take i++[t]):=by rw[Ad8,Aa8,ak,Ab9]
  have a5:T3 L:=fun x hx=>h3 x (Adg (hL.out.1.subset hx));have b0:L.length=i:=by have:=hL.out.1.length_eq;rw[Abk,Abp hi]at this;exact this
  have bz:L.length<=i:=Ad2;clear ak b0;have f1:=Dj ai;have f2:=Hc ai;have f3:=D1 ai;have f4:=G3 ai;have f5:=Cj t;have f6:=N9 ai;have bq:=hX.flat
  repeat' (first|refine Z1 ?_|(refine Z8 ?_;intro ya J)|(refine Z4 ?_;clear J ya)|(refine Z2 ?_ ?_<;>intro h ac<;>try exact Xp)|(refine Z6 ?_;intro idn σn am ah ae ab ad aa)|refine Z3 ?_|exact Zt|(apply J.out;clear J ya))
  have bg:∀c,X≠gx σ'.nobj L.length c:=fun c e=>by
   rcases hX with⟨e2,-,-⟩|⟨o,cap,e2,-,-,-,-,-,h7⟩
   ·rw[e2]at e;simp at e
   ·rw[e2]at e;simp at e;omega
  refine wN (lo:=σ.nobj) (σ0:=σ) (by first|exact Fc) (by rfl) f1 f5 Ad2 Ad2 (by simp only[Av,Ac,Aa];omega) Ad2 (((hK.new _).put hK.nobj _).lay 1) (hX.keep ((((Keep.refl _).new _).put (Aak _) _).lay 1)) ?_;intro og cg σn a4 bc au ah;simp only[Av,Ac,Aa]at bc;obtain⟨ot5,a3⟩:=au σ'.nobj (by simp only[Av,Ac,Aa];omega) bg;rw[Gj,Ak]at ot5;rw[<-Ki]at a4;clear au bg hX bq;refine Z3 ?_
  repeat' (first|refine Z1 ?_|(refine Z8 ?_;intro ya J)|(refine Z4 ?_;clear J ya)|(refine Z2 ?_ ?_<;>intro h ac<;>try exact Xp)|(refine Z6 ?_;intro idn σn am ah ae ab ad aa)|refine Z3 ?_|exact Zt|(apply J.out;clear J ya))
  refine Ab (fun m s σ2=>∃(A B:List Bj),m=A.length/\s 3=gx og (L.length+1) cg/\s 5=ptr σ'.nobj 0/\s 6=ic A.length/\s 8=sl idl l.length (C7 l)/\s 9=ic l.length/\s 10=ic i/\Keep σ σ2/\σ'.nobj<σ2.nobj/\σ2.obj σ'.nobj=Aj t/\PS σ.nobj σ2 (gx og (L.length+1) cg) (L.length+1) (C7 (A++t::B))/\Ad8 (Ins L t A B)) L.length
   ⟨L,[],rfl,Ad3,Ad3,Ad4,Ad3,Ad3,Ad3,ah,Ad2,ot5,a4,by simp,by simp⟩ ?_
  clear az h8 h9 a6 a4 ot5 ah hK ba bc;rintro m s σ2 ⟨A,B,rfl,az,h5,h6,h8,h9,a6,hK,bm,ot5,hX,hI⟩;have ba:=hK.nobj;have b2:A.length+B.length=L.length:=by have:=congrArg List.length hI.out.eq;simpa using this
  have af:(A++t::B).length=L.length+1:=by simp;omega
  have aj:T3 (A++t::B):=fun x hx=>by
   rcases Ab2.1 hx with h|h
   ·exact a5 x (by rw[<-hI.out.eq];simp[h])
   ·rcases Acd.1 h with rfl|h
    ·exact ai
    ·exact a5 x (by rw[<-hI.out.eq];simp[h])
  obtain⟨xl1,xl2,xl3,xl4⟩:=hX.len Ad2;have HD:Ad8 ((∀a,A.getLast?=some a->Cy t a=false)->(A++t::B).Perm (l.take (i+1))/\H8 (A++t::B)):=fun hA=>by
   obtain⟨r1,r2⟩:=hI.out.done hL.out.2 a5 ai hA;refine⟨?_,r1⟩;rw[b6.out];exact r2.trans (hL.out.1.append_right [t])
  rcases List.eq_nil_or_concat A with rfl|⟨A',u,bh⟩
  ·have HN:Ad8 (([]++t::B).Perm (l.take (i+1))/\H8 ([]++t::B)):=HD.out (by simp);have bv:PS σ.nobj σ2 (gx og (L.length+1) cg) ([]++t::B).length (C7 ([]++t::B)):=by rw[af];exact hX
   have ce:s 6=ic 0:=h6;have b5:decide ((0:Int)<0)=false:=rfl;have b4:decide ((0:Int)>0)=false:=rfl;clear HD h6
   repeat' (first|refine Z1 ?_|(refine Z8 ?_;intro ya J)|(refine Z4 ?_;clear J ya)|(refine Z2 ?_ ?_<;>intro h ac<;>try exact Xp)|(refine Z6 ?_;intro idn σn am ah ae ab ad aa)|refine Z3 ?_|exact Zt|(apply J.out;clear J ya))
   refine A6 (Q:=fun e s' σ''=>e= .normal/\s' 34=sc (.bool false)/\s' 3=gx og (L.length+1) cg/\s' 5=ptr σ'.nobj 0/\s' 8=sl idl l.length (C7 l)/\s' 9=ic l.length/\s' 10=ic i/\σ''=σ2) ?_ ?_
   ·refine As Ad (fun _=>True) [] [0,1,2,3,4,5,6,7,8,9,10,11] 2 #[true,true,true,true,true,true,true,true,true,true,true,true,false,false] Ad5 (fun _ _ _ h=>by cases h.1) ?_;intro ya J;refine Z3 ?_;refine J.out _ ?_;clear J ya;refine Ah (i:=12) Ad5 ?_;refine Ao ?_;intro ya J;refine Z3 ?_;refine J.out _ _ ⟨kept_refl,?_⟩;clear J ya;refine Bs [13] Ad5 Ad5 (fun _ _ _ h=>by cases h.1) (Aak _) (fun o ho _=>rfl) ?_;intro ya J;refine Z3 ?_;refine J.out _ _ ⟨rfl,?_⟩;simp[upd, *]
   ·rintro e s' σ3 ⟨rfl,g34,g3,g5,g8,g9,g10,rfl⟩;refine Ci g34 ?_
    repeat' (first|refine Z1 ?_|(refine Z8 ?_;intro ya J)|(refine Z4 ?_;clear J ya)|(refine Z2 ?_ ?_<;>intro h ac<;>try exact Xp)|(refine Z6 ?_;intro idn σn am ah ae ab ad aa)|refine Z3 ?_|exact Zt|(apply J.out;clear J ya))
    refine⟨l.length-(i+1),Ad2,i+1,gx og (L.length+1) cg,[]++t::B,?_⟩
    ((repeat' refine Zi ?_ ?_)<;>first|exact Xq|exact bv|exact HN|exact (by rw[af];omega)|exact Xs)
  ·rw[List.concat_eq_append]at bh;subst bh;rw[show (A'++[u]).length=A'.length+1 by simp]at h6 b2;have bd:(A'++[u]++t::B)[A'.length]?=some u:=by simp
   have av:(A'++[u]++t::B)[A'.length+1]?=some t:=by rw[Abm (by simp)];simp
   obtain⟨r1,bf⟩:=hX.tup aj af.symm bd;obtain⟨r2,be⟩:=hX.tup aj af.symm av;have ao:=aj u (by simp);have bw:=fun σ=>iW t u ai ao σ;have a9:Ad8 (Cy t u=false->(A'++[u]++t::B).Perm (l.take (i+1))/\H8 (A'++[u]++t::B)):=fun h=>HD.out (fun a ha=>by simp at ha;subst ha;exact h)
   have a8:Ad8 (Cy t u=true->Ins L t A' (u::B)):=fun h=>⟨by rw[<-hI.out.eq];simp,fun b hb=>by
    rcases Acd.1 hb with rfl|hb
    ·exact h
    ·exact hI.out.le b hb⟩
   have ay:Ad8 (((A'++[u]++t::B).set (A'.length+1) u).set A'.length t=A'++t::u::B):=by
    rw[Ad8,List.set_append_right _ _ (by simp)];simp
   have bb:=kY (l:=A'++[u]++t::B) (i:=A'.length+1) (t:=u) aj ao (by rw[af];omega);have bj:T3 ((A'++[u]++t::B).set (A'.length+1) u):=fun x hx=>by
    rcases Adh hx with h|rfl
    ·exact aj x h
    ·exact ao
   have a0:=kY (l:=(A'++[u]++t::B).set (A'.length+1) u) (i:=A'.length) (t:=t) bj ai (by rw[List.length_set,af];omega);rw[ay.out]at a0;have bk:Ad8 (∀σ3,PS σ.nobj σ3 (gx og (L.length+1) cg) (L.length+1) (C7 (A'++[u]++t::B))->PS σ.nobj ((σ3.put og (lsp (σ3.obj og) ((A'.length+1)*3) (Aj u))).put og (lsp (lsp (σ3.obj og) ((A'.length+1)*3) (Aj u)) (A'.length*3) (Aj t))) (gx og (L.length+1) cg) (L.length+1) (C7 (A'++t::u::B))):=fun σ3 h=>by
    have g1:=h.set (i:=A'.length+1) (c:=Aj u) Ad2 (Dj ao);rw[bb]at g1;have g2:=g1.set (i:=A'.length) (c:=Aj t) Ad2 (Dj ai);rw[a0,Ak]at g2;exact g2
   have k1:=Dj ao;have k2:=Hc ao;have k3:=D1 ao;have k5:=Cj u;have k6:=N9 ao;have ax:PS σ.nobj σ2 (gx og (L.length+1) cg) (A'++[u]++t::B).length (C7 (A'++[u]++t::B)):=by rw[af];exact hX
   have bl:((A'.length:Int)+1)-1=(A'.length:Int):=Ad2;have b3:s 6=ic ((A'.length:Int)+1):=by rw[h6];simp
   clear HD hI bd av bb a0 bj ay h6;generalize bi:A'.length=j at*
   have b7:Ad8 (A'.length=j):=bi;clear bi;have b5:decide ((0:Int)<(j:Int)+1)=true:=by rw[Adw];omega
   have b4:decide ((j:Int)+1>0)=true:=by rw[Adw];omega
   have b8:((j:Int)+1).toNat=j+1:=Ad2
   repeat' (first|refine Z1 ?_|(refine Z8 ?_;intro ya J)|(refine Z4 ?_;clear J ya)|(refine Z2 ?_ ?_<;>intro h ac<;>try exact Xp)|(refine Z6 ?_;intro idn σn am ah ae ab ad aa)|refine Z3 ?_|exact Zt|(apply J.out;clear J ya))
   refine A6 (Q:=fun e s' σ''=>e= .normal/\s' 34=sc (.bool (Cy t u))/\s' 3=gx og (L.length+1) cg/\s' 5=ptr σ'.nobj 0/\s' 6=ic ((j:Int)+1)/\s' 8=sl idl l.length (C7 l)/\s' 9=ic l.length/\s' 10=ic i/\Keep σ2 σ'') ?_ ?_
   ·refine As Ad (fun _=>True) [] [0,1,2,3,4,5,6,7,8,9,10,11] 2 #[true,true,true,true,true,true,true,true,true,true,true,true,false,false] Ad5 (fun _ _ _ h=>by cases h.1) ?_;intro ya J;refine Z3 ?_;refine J.out _ ?_;clear J ya;refine Ah (i:=12) Ad5 ?_;refine Ao ?_;intro ya J;refine Z3 ?_;refine ACalls.mono (bw _) ?_;rintro _ σ5 ⟨rfl,an⟩;refine Z3 ?_;refine J.out _ _ ⟨Ap an,?_⟩;clear J ya;refine Bs [13] Ad5 Ad5 (fun _ _ _ h=>by cases h.1) an.nobj (fun o ho _=>an.ver o ho) ?_;intro ya J;refine Z3 ?_;refine J.out _ _ ⟨rfl,?_⟩;simp[upd, *]
   ·rintro e s' σ5 ⟨rfl,g34,g3,g5,g6,g8,g9,g10,an⟩;have kn5:=an.nobj;have ap:=an.obj;have oog:σ5.obj og=σ2.obj og:=ap _ xl4;have bu:(σ5.obj og).drop (j*3)=Aj u++r1:=by rw[oog];exact bf
    have br:(σ5.obj og).drop ((j+1)*3)=Aj t++r2:=by rw[oog];exact be
    have xl1':(σ5.obj og).length=cg*3:=by rw[oog];exact xl1
    have ot5':σ5.obj σ'.nobj=Aj t:=by rw[ap _ bm];exact ot5
    have b1:=hK.trans an;have a7:Ad8 _:=bk.out σ5 (hX.keep an);have aw:=ax.keep an;clear az h5 b3 h8 h9 a6 bf be xl1 ot5 oog ap hX ax bk;cases hb:Cy t u with
    |false=>
     have HN:Ad8 _:=a9.out hb;rw[hb]at g34;refine Ci g34 ?_;clear hb a9 a8
     repeat' (first|refine Z1 ?_|(refine Z8 ?_;intro ya J)|(refine Z4 ?_;clear J ya)|(refine Z2 ?_ ?_<;>intro h ac<;>try exact Xp)|(refine Z6 ?_;intro idn σn am ah ae ab ad aa)|refine Z3 ?_|exact Zt|(apply J.out;clear J ya))
     refine⟨l.length-(i+1),Ad2,i+1,gx og (L.length+1) cg,A'++[u]++t::B,?_⟩
     ((repeat' refine Zi ?_ ?_)<;>first|exact Xq|exact aw|exact HN|exact (by rw[af];omega)|exact Xs)
    |true=>
     have HN:Ad8 _:=a8.out hb;rw[hb]at g34;refine Br g34 ?_;clear hb a9 a8;have cb:j+1<L.length+1:=Ad2;have ca:∀c,(σ5.put og c).obj σ'.nobj=Aj t:=fun c=>by rw[Dy (Ne.symm a3)];exact ot5'
     have bo:(lsp (σ5.obj og) ((j+1)*3) (Aj u)).length=cg*3:=by rw[F8];exact xl1'
     have cc:j*3+3<=cg*3:=Ad2
     repeat' (first|refine Z1 ?_|(refine Z8 ?_;intro ya J)|(refine Z4 ?_;clear J ya)|(refine Z2 ?_ ?_<;>intro h ac<;>try exact Xp)|(refine Z6 ?_;intro idn σn am ah ae ab ad aa)|refine Z3 ?_|exact Zt|(apply J.out;clear J ya))
     refine⟨A'.length,by simp,A',u::B,?_⟩
     ((repeat' refine Zi ?_ ?_)<;>first|exact Xq|exact a7|exact HN|exact ((b1.put xl3 _).put xl3 _)|exact (by rw[b7.out])|exact (by rw[Dy (Ne.symm a3),Dy (Ne.symm a3)];exact ot5')|exact Xs)
 ·have bp:i=l.length:=Ad2;subst bp;obtain⟨e1,e2⟩:=hL.out;rw[Aa3]at e1;rcases hX with⟨rfl,hn,-⟩|⟨o,cap,rfl,g2,g3,g4,g5,g6,g7⟩
  ·have:L=[]:=Aa1 hn;subst this
   repeat' (first|refine Z1 ?_|(refine Z8 ?_;intro ya J)|(refine Z4 ?_;clear J ya)|(refine Z2 ?_ ?_<;>intro h ac<;>try exact Xp)|(refine Z6 ?_;intro idn σn am ah ae ab ad aa)|refine Z3 ?_|exact Zt|(apply J.out;clear J ya))
   exact⟨_,rfl,1,[],rfl,e1,e2⟩
  ·refine T9 (t:=3) (o:=o) (k:=L.length*3) g7 az (by rw[g4];omega) ?_;rw[g5]
   repeat' (first|refine Z1 ?_|(refine Z8 ?_;intro ya J)|(refine Z4 ?_;clear J ya)|(refine Z2 ?_ ?_<;>intro h ac<;>try exact Xp)|(refine Z6 ?_;intro idn σn am ah ae ab ad aa)|refine Z3 ?_|exact Zt|(apply J.out;clear J ya))
   exact⟨_,rfl,0,L,rfl,e1,e2,hK.put g6 _⟩
theorem Wj:∀{L L':List Bj},T3 L->L.Perm L'->H8 L->H8 L'->L=L'
 |[],L',_,hp,_,_=>by rw[hp.nil_eq]
 |a::L,[],_,hp,_,_=>by have:=hp.length_eq;simp at this
 |a::L,b::L',h3,hp,h1,h2=>by
  unfold H8 at h1 h2;rw[Adr]at h1 h2;have ab:T3 (b::L'):=fun x hx=>h3 x (hp.symm.subset hx);have aa:a=b:=by
   have ha:a∈b::L':=hp.subset (by simp);have hb:b∈a::L:=hp.symm.subset (by simp);rcases Acd.1 ha with e|ha
   ·exact e
   ·rcases Acd.1 hb with e|hb
    ·exact e.symm
    ·exact lN (h3 a (by simp)) (ab b (by simp)) (h2.1 a ha) (h1.1 b hb)
  subst aa;rw[Wj (fun x hx=>h3 x (Acj _ hx)) (List.perm_cons a|>.1 hp) h1.2 h2.2]
def iI (t:Bj):List Bj->List Bj
 |[]=>[t]
 |u::l=>if Cy t u=true then t::u::l else u::iI t l
def D2:List Bj->List Bj
 |[]=>[]
 |t::l=>iI t (D2 l)
theorem Ph (t:Bj):∀l,(iI t l).Perm (t::l)
 |[]=>List.Perm.refl _
 |u::l=>by
  unfold iI;split
  ·exact List.Perm.refl _
  ·exact ((Ph t l).cons u).trans (List.Perm.swap _ _ _)
theorem F4:∀l,(D2 l).Perm l
 |[]=>List.Perm.refl _
 |t::l=>(Ph t _).trans ((F4 l).cons t)
theorem W1 {t:Bj}(ht:t.length=3):∀{l:List Bj},T3 l->H8 l->H8 (iI t l)
 |[],_,_=>by simp[iI,H8]
 |u::l,h3,h=>by
  unfold H8 at h;rw[Adr]at h;have hu:=h3 u (by simp);unfold iI;split
  ·rename_i hc;unfold H8;rw[Adr,Adr];refine⟨fun x hx=>?_,h.1,h.2⟩;rcases Acd.1 hx with rfl|hx
   ·exact Kv hc
   ·exact Pe ht hu (h3 x (Acj _ hx)) (Kv hc) (h.1 x hx)
  ·rename_i hc;have:=W1 ht (fun x hx=>h3 x (Acj _ hx)) h.2;unfold H8 at this⊢;rw[Adr];refine⟨fun x hx=>?_,this⟩;rcases Acd.1 ((Ph t l).subset hx)with rfl|hx
   ·simpa using hc
   ·exact h.1 x hx
theorem Mg:∀{l:List Bj},T3 l->H8 (D2 l)
 |[],_=>List.Pairwise.nil
 |t::l,h3=>W1 (h3 t (by simp)) (fun x hx=>h3 x (Acj _ ((F4 l).subset hx))) (Mg (fun x hx=>h3 x (Acj _ hx)))
theorem Yp {L l:List Bj}(h3:T3 l)(hp:L.Perm l)(hr:H8 L):L=D2 l:=
 Wj (fun x hx=>h3 x (hp.subset hx)) (hp.trans (F4 l).symm) hr (Mg h3)
def Cs (nm:Tx)(t:Bj):Tx:=nm++[40]++Ra t++[41,46]
def Hq (N:List Tx)(rk:Nat->List Bj)(acc:Tx×List Int)(x:RItem):Tx×List Int:=
 if x.out=true/\((N.idxOf x.head.pred:Nat):Int)∉acc.2 then (acc.1++(rk (N.idxOf x.head.pred)).flatMap (Cs x.head.pred),acc.2++[((N.idxOf x.head.pred:Nat):Int)])else acc
def Fo (N:List Tx)(rk:Nat->List Bj)(l:List RItem):Tx×List Int:=l.foldl (Hq N rk) ([],[])
def Sc (N:List Tx)(rk:Nat->List Bj)(l:List RItem):Tx:=(Fo N rk l).1
theorem fZ {N:List Tx}{rk:Nat->List Bj}{l:List RItem}{i:Nat}{x:RItem}(h:l[i]?=some x):Fo N rk (l.take (i+1))=Hq N rk (Fo N rk (l.take i)) x:=by
 unfold Fo;rw[Aa8,h,Ab9,Ac1];rfl
theorem pS {t:Bj}(ht:t.length=3)(hb:∀y∈t,-1<=y/\y<=9999):(Ra t).length<=60:=by
 have hl:(tups t).length<=3:=by
  unfold tups;have:=(List.takeWhile_prefix (fun x=>decide (x≠ -1)) (l:=t)).length_le;omega
 have hs:∀y∈tups t,0<=y/\y<=9999:=fun y hy=>by
  have h1:=(List.takeWhile_subset _ hy:y∈t);have h2:∀(l:List Int),y∈l.takeWhile (fun x=>decide (x≠ -1))->y≠ -1:=fun l=>by
   induction l with
   |nil=>intro h;cases h
   |cons z l ih=>
    intro h;rw[List.takeWhile_cons]at h;split at h
    ·rename_i hz;rcases Acd.1 h with rfl|h
     ·simpa using hz
     ·exact ih h
    ·cases h
  have h3:=h2 t hy;have:=hb y h1;omega
 unfold Ra;generalize tups t=l at hl hs
 match l,hl with
 |[],_=>simp[jn]
 |[a],_=>have:=Gt a (hs a (by simp)).1 (hs a (by simp)).2;simp[jn];omega
 |[a,b],_=>
  have h1:=Gt a (hs a (by simp)).1 (hs a (by simp)).2;have h2:=Gt b (hs b (by simp)).1 (hs b (by simp)).2;simp[jn];omega
 |[a,b,c],_=>
  have h1:=Gt a (hs a (by simp)).1 (hs a (by simp)).2;have h2:=Gt b (hs b (by simp)).1 (hs b (by simp)).2;have h3:=Gt c (hs c (by simp)).1 (hs c (by simp)).2;simp[jn];omega
theorem Qs (N:List Tx)(l:List RItem)(cs:List AV)(idb idi:Nat)(hB:Bk N l cs)(co:∀x∈l,x.head.pred.length<=600)(om ot:Nat)(M:MM)(d b:Int)(db:N.length<=M.length)(bj:∀x∈M,∀t∈x.2,∀y∈t,-1<=y/\y<=9999)(σ:St)(hM:MOb σ om ot M d b):
  ACalls Tryz.prog 49 [ptr om 0,Fa N idb l idi cs] σ fun r σ'=>r=str (Sc N (fun k=>D2 (Au M (k:Int))) l)/\Keep σ σ':=by
 have dc:=EL.length Iy hB.el;have cg:=hB.len;have di:=hB.nm;have hE:=hB.el;have lo:=hM.lo;have lt:=hM.lt;have bz:=hM.ob;have bw:=hM.oc;have c7:=hM.pl;have c9:=F6 M;have de:({data:=#[40]}:ByteArray)=bs [40]:=rfl;have dd:({data:=#[41,46]}:ByteArray)=bs [41,46]:=rfl;have df:({data:=#[]}:ByteArray)=bs []:=rfl;generalize bu:(fun k:Nat=>D2 (Au M (k:Int)))=rk;have cw:Ad8 (∀k:Nat,rk k=D2 (Au M (k:Int))):=fun k=>by rw[<-bu]
 clear bu;unfold Fa;refine Z9 64 [.tmp 4] Tryz.func49 ?_
 repeat' (first|refine Z1 ?_|(refine Z8 ?_;intro ya J)|(refine Z4 ?_;clear J ya)|(refine Z2 ?_ ?_<;>intro h af<;>try exact Xp)|(refine Z6 ?_;intro idn σn ak am ad ab ae aa)|refine Z7 ?_|exact Zt|(apply J.out;clear J ya))
 refine Ab (fun m s σ'=>∃(i i6:Nat),m=l.length-i/\i<=l.length/\s 0=ptr om 0/\s 3=ptr σ.nobj 0/\s 5=str (Fo N rk (l.take i)).1/\s 6=sl i6 (Fo N rk (l.take i)).2.length (Aj (Fo N rk (l.take i)).2)/\s 14=sl idi l.length cs/\s 15=ic l.length/\s 16=ic i/\Keep σ σ'/\σ.nobj<σ'.nobj/\σ'.obj σ.nobj=[sl idb N.length (N.map str),sl idi l.length cs]/\Own σ σ' i6 (Fo N rk (l.take i)).2.length/\(Fo N rk (l.take i)).2.length<=i/\(Fo N rk (l.take i)).1.length<=i*4000000) l.length
  ⟨0,1,Ad2,Ad2,by simp[upd,initS],Ad4,by simp[upd,Fo];try rfl,by simp[upd,Fo,Aj],Ad4,Ad4,Ad4,Xs,Ad6,by rw[Am],by simp[Fo,Own.nil],by simp[Fo],by simp[Fo]⟩ ?_
 rintro m s σ' ⟨i,i6,rfl,hi,h0,h3,h5,h6,bp,bo,bn,hK,b0,au,hO,bh,a9⟩;have be:=hK.nobj;by_cases b1:i<l.length
 ·have ac:=Aav b1;obtain⟨hm,ih,id,bb,r,hb,hd⟩:=Lb hE ac;have br:=Ab1 b1;generalize l[i]=x at hd ac hb hm br;have HS:Ad8 _:=fZ (N:=N) (rk:=rk) ac;generalize cn:Fo N rk (l.take i)=T at*
  clear ac cn;obtain⟨T1,T2⟩:=T;simp only at h5 h6 hO bh a9;cases ap:x.out with
  |false=>
   rw[ap]at hd;have HN:Ad8 (Fo N rk (l.take (i+1))=(T1,T2)):=by rw[Ad8,HS.out,Hq,if_neg (by simp[ap])]
   clear ap HS
   repeat' (first|refine Z1 ?_|(refine Z8 ?_;intro ya J)|(refine Z4 ?_;clear J ya)|(refine Z2 ?_ ?_<;>intro h af<;>try exact Xp)|(refine Z6 ?_;intro idn σn ak am ad ab ae aa)|refine Z7 ?_|exact Zt|(apply J.out;clear J ya))
   refine⟨l.length-(i+1),Ad2,i+1,i6,?_⟩;rw[HN.out];refine⟨rfl,Ad2,rfl,rfl,by simp,(hK.new _).put hK.nobj _,Ad2,Own.put (Own.new hO _) _ _,Aal bh (Aaq i),?_⟩;exact Aal a9 (Aar _ (Aaq i))
  |true=>
   rw[ap]at hd;have ci:=Ade.2 hm;have ax:=fun σ=>Gk ((N.idxOf x.head.pred:Nat):Int) T2 i6 Ad2 σ;have c5:=Bm T2;by_cases aw:((N.idxOf x.head.pred:Nat):Int)∈T2
   ·have HN:Ad8 (Fo N rk (l.take (i+1))=(T1,T2)):=by rw[Ad8,HS.out,Hq,if_neg (by simp[aw])]
    rw[if_pos aw]at ax;have ce:(((T2.idxOf ((N.idxOf x.head.pred:Nat):Int):Nat):Int) != -1)=true:=by simp
    generalize T2.idxOf ((N.idxOf x.head.pred:Nat):Int)=q at ax ce;clear ap HS aw
    repeat' (first|refine Z1 ?_|(refine Z8 ?_;intro ya J)|(refine Z4 ?_;clear J ya)|(refine Z2 ?_ ?_<;>intro h af<;>try exact Xp)|(refine Z6 ?_;intro idn σn ak am ad ab ae aa)|(refine Z5 ?_;refine Xi (ax _) ?_;rintro _ _ ⟨rfl,ai⟩;(have bc:=((hK.new _).put hK.nobj _).trans ai;have aj:=ai.nobj;have ah:=ai.obj;simp only[Ac,Aa]at aj ah;have bm:=Own.keep (Own.put (Own.new hO _) _ _) ai))|refine Z7 ?_|exact Zt|(apply J.out;clear J ya))
    rename_i σ2;have a8:σ2.obj σ.nobj=[sl idb N.length (N.map str),sl idi l.length cs]:=by rw[ah _ Ad2,Al Ad2,Ai Ad2,au]
    refine⟨l.length-(i+1),Ad2,i+1,i6,?_⟩;rw[HN.out];refine⟨rfl,Ad2,rfl,rfl,by simp,Ad2,bm,Aal bh (Aaq i),?_⟩;exact Aal a9 (Aar _ (Aaq i))
   ·rw[if_neg aw]at ax;have a6:M[N.idxOf x.head.pred]?=some (M[N.idxOf x.head.pred]'Ad2):=Aav Ad2;generalize M[N.idxOf x.head.pred]'Ad2=y at a6;have av:=Aax a6;have da:=F7 a6;have b3:=fun σ=>eA y.2 y.1 (hM.t3 y av) (hM.ln y av) σ;have HN:Ad8 (∀L,L.Perm y.2->H8 L->Fo N rk (l.take (i+1))=(T1++L.flatMap (Cs x.head.pred),T2++[((N.idxOf x.head.pred:Nat):Int)])):=fun L h1 h2=>by
     rw[HS.out,Hq,if_pos ⟨ap,aw⟩];have:rk (N.idxOf x.head.pred)=L:=by rw[cw.out,show Au M ((N.idxOf x.head.pred:Nat):Int)=y.2 by simp[Au,a6],Yp (hM.t3 y av) h1 h2]
     rw[this]
    have cf:(N.map str).drop (N.idxOf x.head.pred)=str x.head.pred::(N.map str).drop (N.idxOf x.head.pred+1):=by
     rw[Abx (by simpa using ci)];simp
    have c8:=co x br;have cb:=hM.ln y av;have ca:=bj y av;have cc:=hM.t3 y av;generalize (N.map str).drop (N.idxOf x.head.pred+1)=rest at cf;generalize cd:N.idxOf x.head.pred=ix at*
    generalize x.head.pred=nm at*
    clear ap HS aw cd a6;have a3:σ'.obj om=[fx ot 0 M.length,ic d,ic b]:=by rw[hK.obj _ lo,bz]
    have az:σ'.obj ot=Ez M:=by rw[hK.obj _ lt,bw]
    repeat' (first|refine Z1 ?_|(refine Z8 ?_;intro ya J)|(refine Z4 ?_;clear J ya)|(refine Z2 ?_ ?_<;>intro h af<;>try exact Xp)|(refine Z6 ?_;intro idn σn ak am ad ab ae aa)|(refine Z5 ?_;first|(refine Xi (ax _) ?_;rintro _ _ ⟨rfl,ai⟩;(have bc:=((hK.new _).put hK.nobj _).trans ai;have aj:=ai.nobj;have ah:=ai.obj;simp only[Ac,Aa]at aj ah;have bm:=Own.keep (Own.put (Own.new hO _) _ _) ai;have a4:=bc.obj om lo;rw[bz]at a4;have a0:=bc.obj ot lt;rw[bw]at a0;have a8:=ah σ.nobj Ad2;rw[Al Ad2,Ai Ad2,au]at a8))|(refine Xi (b3 _) ?_;rintro _ _ ⟨idr,L,rfl,ba,cp,a7⟩;(have b7:=am.trans a7;have bd:=a7.nobj;have ay:=a7.obj;have b4:=Own.keep ak a7;have cy:Ad8 _:=HN.out L ba cp)))|refine Z7 ?_|exact Zt|(apply J.out;clear J ya))
    rename_i σ2 _ σ3;have bq:σ3.obj σ.nobj=[sl idb N.length (N.map str),sl idi l.length cs]:=by rw[ay _ Ad2,ad,a8]
    have dj:L.length<=5000:=by rw[ba.length_eq];exact cb
    have b6:T3 L:=fun u hu=>cc u (ba.subset hu);have cq:∀u∈L,∀z∈u,-1<=z/\z<=9999:=fun u hu=>ca u (ba.subset hu);have c6:=Er b6
    refine Ab (fun m s σ4=>∃(j:Nat) (W:Tx),m=L.length-j/\j<=L.length/\s 0=ptr om 0/\s 3=ptr σ.nobj 0/\s 5=str W/\s 6=sl idn (T2.length+1) (Aj T2++[ic ix])/\s 9=ic ix/\s 14=sl idi l.length cs/\s 15=ic l.length/\s 16=ic i/\s 43=sl idr L.length (C7 L)/\s 44=ic L.length/\s 45=ic j/\Keep σ σ4/\σ.nobj<σ4.nobj/\σ4.obj σ.nobj=[sl idb N.length (N.map str),sl idi l.length cs]/\Own σ σ4 idn (T2.length+1)/\W.length<=i*4000000+j*700/\Ad8 (W=T1++(L.take j).flatMap (Cs nm))) L.length
     ⟨0,T1,Ad2,Ad2,Ad3,Ad3,Ad3,Ad3,Ad3,Ad3,Ad3,Ad3,Ad3,Ad3,Ad4,b7,Ad2,bq,b4,Aal a9 (Nat.le_add_right _ _),by simp[Ad8]⟩ ?_
    clear h0 h3 h5 h6 bp bo bn hK b0 au hO be a3 az bc aj ah bm a4 a0 a8 ak am ad ab ae aa a7 b7 bd ay b4 bq ax b3 ai;rintro m s σ4 ⟨j,W,rfl,hj,h0,h3,h5,h6,h9,bp,bo,bn,cu,ct,cr,hK,b0,au,hO,cm,hW⟩;have be:=hK.nobj;by_cases a5:j<L.length
    ·have ac:=Aav a5;obtain⟨an,r5,ck⟩:=Fv b6 ac;have bf:=cq _ (Ab1 a5);generalize L[j]=t at ck ac an bf;have b9:Ad8 (∀W',W'=W++Cs nm t->W'=T1++(L.take (j+1)).flatMap (Cs nm)):=fun W' e=>by
      rw[e,hW.out,Aa8,ac,Ab9];simp
     have bl:=fun σ=>Uy t an bf σ;have bg:=pS an bf;clear ac hW;have f1:=Dj an;have f2:=Hc an;have f3:=D1 an;have f4:=G3 an;have f5:=Cj t;have f6:=N9 an;generalize bv:Ra t=px at bl bg;have cx:Ad8 (Cs nm t=nm++[40]++px++[41,46]):=by rw[Ad8,Cs,bv]
     clear bv
     repeat' (first|refine Z1 ?_|(refine Z8 ?_;intro ya J)|(refine Z4 ?_;clear J ya)|(refine Z2 ?_ ?_<;>intro h af<;>try exact Xp)|(refine Z6 ?_;intro idn σn ak am ad ab ae aa)|refine Z7 ?_|exact Zt|(apply J.out;clear J ya))
     have b8:Keep σ ((σ4.new [ic 0,ic 0,ic 0]).put σ4.nobj (Aj t)):=(hK.new _).put hK.nobj _;generalize hσb:(σ4.new [ic 0,ic 0,ic 0]).put σ4.nobj (Aj t)=σb at*
     have nb:σb.nobj=σ4.nobj+1:=by rw[<-hσb];rfl
     have o11:σb.obj σ4.nobj=Aj t:=by rw[<-hσb,Ak]
     have o3:σb.obj σ.nobj=[sl idb N.length (N.map str),sl idi l.length cs]:=by rw[<-hσb,Al Ad2,Ai Ad2,au]
     have b5:Own σ σb idn (T2.length+1):=by rw[<-hσb];exact Own.put (Own.new hO _) _ _
     clear hσb;refine A6 (Q:=fun e s' σ''=>e= .normal/\s' 0=ptr om 0/\s' 3=ptr σ.nobj 0/\s' 5=str (W++(nm++[40]++px++[41,46]))/\s' 6=sl idn (T2.length+1) (Aj T2++[ic ix])/\s' 9=ic ix/\s' 14=sl idi l.length cs/\s' 15=ic l.length/\s' 16=ic i/\s' 43=sl idr L.length (C7 L)/\s' 44=ic L.length/\s' 45=ic j/\Keep σb σ'') ?_ ?_
     ·refine As Ad (fun _=>True) [] [0,1,2,3,4,5,6,7] 5 #[true,true,true,true,true,true,true,true,false,false,false,false,false] Ad5 (fun _ _ _ h=>by cases h.1) ?_;intro ya J;refine Z7 ?_;refine J.out _ ?_;clear J ya;refine Ah (i:=8) Ad5 ?_;refine Ao ?_;intro ya J;refine Z7 ?_;refine ACalls.mono (bl _) ?_;rintro _ σ5 ⟨rfl,ao⟩;refine Z7 ?_;refine J.out _ _ ⟨Ap ao,?_⟩;clear J ya;refine Bs [9,10,11,12] Ad5 Ad5 (fun _ _ _ h=>by cases h.1) ao.nobj (fun o ho _=>ao.ver o ho) ?_;intro ya J;refine Z7 ?_;refine J.out _ _ ⟨rfl,?_⟩;simp[upd, *]
     ·rintro e s' σ5 ⟨rfl,g0,g3,g5,g6,g9,g14,g15,g16,g43,g44,g45,ao⟩;have kn5:=ao.nobj;have o5:σ5.obj σ.nobj=[sl idb N.length (N.map str),sl idi l.length cs]:=by rw[ao.obj _ Ad2,o3]
      have dk:=b8.trans ao;have dh:=Own.keep b5 ao;have cv:Ad8 (W++(nm++[40]++px++[41,46])=T1++(L.take (j+1)).flatMap (Cs nm)):=b9.out _ (by rw[cx.out]);have cz:(W++(nm++[40]++px++[41,46])).length<=i*4000000+(j+1)*700:=by simp;omega
      clear h0 h3 h5 h6 h9 bp bo bn cu ct cr b8 o3 o11 b5 au hO hK be b9 bl;generalize W++(nm++[40]++px++[41,46])=W2 at*
      repeat' (first|refine Z1 ?_|(refine Z8 ?_;intro ya J)|(refine Z4 ?_;clear J ya)|(refine Z2 ?_ ?_<;>intro h af<;>try exact Xp)|(refine Z6 ?_;intro idn σn ak am ad ab ae aa)|refine Z7 ?_|exact Zt|(apply J.out;clear J ya))
      refine⟨L.length-(j+1),Ad2,j+1,W2,?_⟩
      ((repeat' refine Zi ?_ ?_)<;>first|exact Xq|exact cv|exact Xs)
    ·have ch:j=L.length:=Ad2;subst ch;have b2:=hW.out;rw[Aa3]at b2
     repeat' (first|refine Z1 ?_|(refine Z8 ?_;intro ya J)|(refine Z4 ?_;clear J ya)|(refine Z2 ?_ ?_<;>intro h af<;>try exact Xp)|(refine Z6 ?_;intro idn σn ak am ad ab ae aa)|refine Z7 ?_|exact Zt|(apply J.out;clear J ya))
     refine⟨l.length-(i+1),Ad2,i+1,idn,?_⟩;rw[cy.out];have bk:(T1++L.flatMap (Cs nm)).length<=(i+1)*4000000:=by
      rw[<-b2,Aa9];exact Aal cm (Adl Ad2 _)
     have bi:(T2++[(ix:Int)]).length=T2.length+1:=by simp
     refine⟨rfl,Ad2,rfl,?_,by simp,?_,?_,bk⟩
     ·show _=sl idn (T2++[(ix:Int)]).length (Aj (T2++[(ix:Int)]));rw[bi,eB]
     ·show Own σ σ4 idn (T2++[(ix:Int)]).length;rw[bi];exact hO
     ·show (T2++[(ix:Int)]).length<=i+1;rw[bi];omega
 ·have cj:i=l.length:=Ad2;subst cj;rw[Aa3]at h5
  repeat' (first|refine Z1 ?_|(refine Z8 ?_;intro ya J)|(refine Z4 ?_;clear J ya)|(refine Z2 ?_ ?_<;>intro h af<;>try exact Xp)|(refine Z6 ?_;intro idn σn ak am ad ab ae aa)|refine Z7 ?_|exact Zt|(apply J.out;clear J ya))
  first|exact⟨_,rfl,rfl,hK⟩|exact⟨_,rfl,rfl⟩
theorem Mv {p:Nat->Bool}{n:Nat}(h:¬0<=A9 p n):∀i,i<n->p i=false:=by
 intro i hi;unfold A9 at h;split at h
 ·rename_i j hj;exact absurd (Acy j) h
 ·rename_i hn;have:=List.find?_range_eq_none.1 hn i hi;simpa using this
structure RtI (l:List RItem):Prop where
 odd:∀i,i<l.length->Gs l i=false
 saf:∀x∈l,E3 x=true
 kn:∀i,i<l.length->E5 l i=false
theorem qX {l:List RItem}(h:(Ds l).1=0):RtI l:=by
 unfold Ds at h;split at h
 ·simp at h
 rename_i h1;split at h
 ·simp at h
 rename_i h2;split at h
 ·simp at h
 rename_i h3;refine⟨Mv h1,fun x hx=>?_,Mv h3⟩;obtain⟨i,hi⟩:=Acp hx;have:=Mv h2 i (Aau.1 hi).1;unfold C5 at this;rw[hi]at this;simpa using this
theorem Zq {t:Tx}{l:List RItem}(h:(A3 t).1=0)(hp:Bf 16 t= .got l []):t.length<=600/\(Ds l).1=0:=by
 unfold A3 at h;split at h
 ·simp at h
 rename_i h1;split at h
 ·simp at h
 obtain⟨-,e,-,-⟩:=Ek Ad2 hp;rw[e]at h;exact⟨Ad2,h⟩
theorem Tw {l:List RItem}(h:∀i,i<l.length->Gs l i=false)(hp:∀x∈l,∀a∈Af x,0<a.terms.length):Dd (l.flatMap Af):=by
 have key:∀i,i<=l.length->Dd (Ca l i):=by
  intro i;induction i with
  |zero=>intro _;simp[Ca,Ty]
  |succ i ih=>
   intro hi;have hg:=Aav (show i<l.length by omega);generalize l[i]=x at hg;rw[Jr hg];have inner:∀j,j<=(Af x).length->Dd (Bh l x i j):=by
    intro j;induction j with
    |zero=>intro _;simpa[Bh]using ih Ad2
    |succ j jh=>
     intro hj;have aa:=Aav (show j<(Af x).length by omega);have hm:=Ab1 (show j<(Af x).length by omega);generalize (Af x)[j]=a at aa hm;rw[Et aa];refine Gb (jh Ad2) (hp x (Aax hg) a hm) ?_;have h1:=h i Ad2;unfold Gs at h1;rw[hg]at h1;have h2:=Ab4.1 h1 j (by rw[Ab5];omega);unfold Nw at h2;rw[aa]at h2;simpa using h2
   exact inner _ (Aak _)
 have:=key l.length (Aak _);simpa[Ca]using this
theorem jA {S:List RAtom}(h:Dd S){a b:RAtom}(ha:a∈S)(hb:b∈S):clash a b=false:=by
 unfold clash;by_cases e:b.pred=a.pred
 ·have h1:=(h a ha).2;have h2:=(h b hb).2;rw[e]at h2;simp[e];omega
 ·simp[e]
theorem sQ {S:List RAtom}(h:Dd S):∀T,T<+:S->∀a∈S,T.any (clash a)=false:=fun T hT a ha=>by
 rw[Ab4];intro b hb;rw[jA h ha (hT.subset hb)];simp
theorem Mx:∀{F A:List RAtom},Dd A->(∀a∈F,0<a.terms.length)->Gr A F=false->Dd (A++F)
 |[],A,h,_,_=>by simpa using h
 |a::F,A,h,hp,ho=>by
  unfold Gr at ho;rw[Bool.or_eq_false_iff]at ho;have:=Mx (F:=F) (A:=A++[a]) (Gb h (hp a (by simp)) ho.1) (fun b hb=>hp b (by simp[hb])) ho.2;simpa using this
def xE (N:List Tx)(S:List RAtom)(k:Nat):Nat:=Fl S (N.getD k [])
theorem Kz {N:List Tx}{p:Tx}(h:p∈N):N.getD (N.idxOf p) []=p:=by
 have hl:=Acw h;rw[List.getD_eq_getElem?_getD,Aav hl,Option.getD_some];exact List.getElem_idxOf hl
theorem jK {N:List Tx}{S:List RAtom}(hS:Dd S){a:RAtom}(ha:a∈S)(hm:a.pred∈N):a.terms.length=xE N S (N.idxOf a.pred):=by
 unfold xE;rw[Kz hm];exact (hS a ha).2
theorem lV {w:Tx}(hv:VT w)(hd:DT w):((Bu w).1=true->0<=(Bu w).2/\(Bu w).2<26)/\((Bu w).1=false->∃n:Nat,(Bu w).2=(n:Int)/\n<1026):=by
 rcases hv with⟨b,rfl,hl⟩|⟨hn,ab⟩
 ·rw[Ga hl];unfold B6 at hl;simp at hl;exact⟨(fun _=>by simp only;omega),(fun h=>by cases h)⟩
 ·have aa:Ag w=false:=by
   cases w with
   |nil=>rfl
   |cons b r=>
    have:=ab b (by simp);unfold Ag Az at*
    unfold B6;simp at this⊢;omega
  have he:=Q2 (.inr ⟨hn,ab⟩:VT w);rw[he,aa];refine⟨(fun h=>by cases h),fun _=>?_⟩;rcases hd with h|⟨-,-,h1,h2⟩
  ·rw[aa]at h;cases h
  ·exact⟨(Bu w).2.toNat,Ad2,Ad2⟩
theorem cG {N N':List Tx}(h:N<+:N'){x:RItem}(hx:x.head.pred∈N/\∀a∈x.body,a.pred∈N):Fg N' x=Fg N x:=by
 unfold Fg;congr 1
 ·unfold Dv;rw[Jv h hx.1]
 ·apply Acn;intro a ha;unfold Pd Dv;rw[Jv h (hx.2 a ha)]
theorem xW {N:List Tx}{S:List RAtom}{x:RItem}(hS:Dd S)(hA:∀a∈Af x,a∈S)(hm:x.head.pred∈N/\∀a∈x.body,a.pred∈N)(ho:x.out=false)(hw:Jk x)(hv:∀a∈Af x,VA a)(hd:∀a∈Af x,∀w∈a.terms,DT w)(hs:E3 x=true)(hn:∀a∈x.body,a.nt=true->a.pred≠x.head.pred):RW N.length (xE N S) (Fg N x):=by
 have ac:∀a,a=x.head\/a∈x.body->a∈Af x:=fun a ha=>by
  rcases ha with rfl|ha<;>simp[Af,ho, *]
 obtain⟨w1,w2,w3,w4⟩:=hw.2.2 ho;have hb:∀l∈(Fg N x).body,∃a∈x.body,l=Pd N a:=fun l hl=>by
  obtain⟨a,ha,rfl⟩:=Acf.1 hl;exact⟨a,ha,rfl⟩
 have ae:∀(ts:List Tx) (v:Int),(true,v)∈ts.map Bu->∃w∈ts,(Bu w).1=true/\(Bu w).2=v:=fun ts v h=>by
  obtain⟨w,hw,e⟩:=Acf.1 h;exact⟨w,hw,by rw[e],by rw[e]⟩
 have ab:∀a∈Af x,∀w∈a.terms,_:=fun a ha w aa=>lV (hv a ha w aa) (hd a ha w aa);have aj:∀p∈N,N.idxOf p<N.length:=fun p hp=>Acw hp;refine⟨⟨by simp[Fg,Dv];exact w1.2.2.1,⟨_,rfl,aj _ hm.1⟩,by simp[Fg];omega,fun l hl=>?_,fun l hl=>?_⟩,fun l hl am=>?_,?_,fun l hl=>?_,fun t ht hc=>?_,fun v ad=>?_,fun l hl v ad=>?_,fun v ad=>?_⟩
 ·obtain⟨a,ha,rfl⟩:=hb l hl;simp[Pd,Dv];exact (w4 a ha).2.2.1
 ·obtain⟨a,ha,rfl⟩:=hb l hl;exact⟨_,rfl,aj _ (hm.2 a ha)⟩
 ·obtain⟨a,ha,rfl⟩:=hb l hl;intro e;simp only[Pd,Dv,Fg]at e;exact hn a ha am (Eb (hm.2 a ha) hm.1 Ad2)
 ·simp only[Fg,Dv,Ace,Adi];exact jK hS (hA _ (ac _ (.inl rfl))) hm.1
 ·obtain⟨a,ha,rfl⟩:=hb l hl;simp only[Pd,Dv,Ace,Adi];exact jK hS (hA _ (ac _ (.inr ha))) (hm.2 a ha)
 ·obtain⟨w,aa,rfl⟩:=Acf.1 ht;exact (ab _ (ac _ (.inl rfl)) w aa).2 hc
 ·obtain⟨w,aa,e1,e2⟩:=ae _ v ad;rw[<-e2];exact (ab _ (ac _ (.inl rfl)) w aa).1 e1
 ·obtain⟨a,ha,rfl⟩:=hb l hl;obtain⟨w,aa,e1,e2⟩:=ae _ v ad;rw[<-e2];exact (ab _ (ac _ (.inr ha)) w aa).1 e1
 ·have hex:∃a∈Af x,∃w∈a.terms,(Bu w).1=true/\(Bu w).2=v:=by
   rcases ad with h|⟨l,hl,-,h⟩
   ·obtain⟨w,h1,h2,h3⟩:=ae _ v (hasV_iff.1 h);exact⟨_,ac _ (.inl rfl),w,h1,h2,h3⟩
   ·obtain⟨a,ha,rfl⟩:=hb l hl;obtain⟨w,h1,h2,h3⟩:=ae _ v (hasV_iff.1 h);exact⟨a,ac _ (.inr ha),w,h1,h2,h3⟩
  obtain⟨a,ha,w,ai,e1,e2⟩:=hex;have ah:Hz x w=true:=by
   unfold E3 at hs;simp only[Bool.not_eq_true']at hs;have h1:=Ab4.1 hs a ha;unfold jH at h1;simp only[Ab0,not_exists,not_and]at h1;have h2:=h1 w ai;unfold T8 at h2;rw[<-Q2 (hv a ha w ai),e1]at h2;simpa using h2
  unfold Hz at ah;rw[Ab0]at ah;obtain⟨c,hc,ak⟩:=ah;rw[Ab0]at ak;obtain⟨u,hu,af⟩:=ak;simp only[Aaz,Bool.not_eq_true',Adx]at af;refine⟨Pd N c,Acf.2 ⟨c,hc,rfl⟩,af.1,?_⟩;rw[hasV_iff];refine Acf.2 ⟨u,hu,?_⟩;rw[af.2,<-e1,<-e2]
theorem Hs {T:Tx->Prop}(hT:∀s w r,Ce s= .got w r->T w):∀(n:Nat) (s:Tx) (F:List RAtom) (r:Tx),Bw n s= .got F r->∀a∈F,∀w∈a.terms,T w
 |n,[],F,r,h=>by
  rw[F5]at h;cases h;simp
 |0,b::s,F,r,h=>by cases h
 |n+1,b::s,F,r,h=>by
  rw[Fp]at h;cases h1:G5 (b::s)with
  |bad e=>rw[h1]at h;cases h
  |got x r1=>
   rw[h1]at h;simp only[Rd.bnd]at h;cases h2:Bw n r1 with
   |bad e=>rw[h2]at h;cases h
   |got xs r2=>
    rw[h2]at h;cases h;intro a ha;rcases Acd.1 ha with rfl|ha
    ·unfold G5 at h1;cases h3:C2 false (b::s)with
     |bad e=>rw[h3]at h1;cases h1
     |got a2 r3=>
      rw[h3]at h1;simp only[Rd.bnd]at h1;split at h1
      ·cases h4:Aw 46 r3 with
       |bad e=>rw[h4]at h1;cases h1
       |got u r4=>
        rw[h4]at h1;cases h1;exact Jb hT h3
      ·cases h1
    ·exact Hs hT n r1 xs r h2 a ha
theorem vR {σ0 σ σ':St}{om ot:Nat}{M M':MM}(hK:Keep σ0 σ)(h:KM om ot M M' σ σ')(hm:σ0.nobj<=om)(ht:σ0.nobj<=ot)(hM:∀x∈M,x.1=1\/σ0.ntop+2<=x.1):Keep σ0 σ':=
 ⟨Aal hK.nobj h.nobj,fun o ho=>by rw[h.obj o (Aam ho hK.nobj) Ad2 Ad2];exact hK.obj o ho,fun o ho=>by rw[h.ver o (Aam ho hK.nobj) Ad2 Ad2];exact hK.ver o ho,Aal hK.ntop h.ntop,fun k hk=>by
  rw[h.top k (Aam hk hK.ntop) (fun x hx=>by rcases hM x hx with e|e<;>omega)];exact hK.top k hk⟩
theorem tE {N N':List Tx}(h:N<+:N'){l:List RItem}(hl:∀x∈l,x.head.pred∈N/\∀a∈x.body,a.pred∈N)(s:Nat):(Ix l s).map (Fg N')=(Ix l s).map (Fg N):=by
 apply Acn;intro x hx;exact cG h (hl x (Ac7.1 hx).1)
theorem Zj {N N':List Tx}(h:N<+:N'){l:List RItem}(hl:∀x∈l,x.head.pred∈N/\∀a∈x.body,a.pred∈N)(B:Cq):∀s,PMi N' l B s=PMi N l B s
 |0=>rfl
 |s+1=>by
  show LstG _ _=LstG _ _;rw[tE h hl,Zj h hl B s]
theorem V2 {N N':List Tx}(h:N<+:N')(rk:Nat->List Bj):∀{l:List RItem} (acc:Tx×List Int),(∀x∈l,x.head.pred∈N)->l.foldl (Hq N' rk) acc=l.foldl (Hq N rk) acc
 |[],acc,_=>rfl
 |x::l,acc,hl=>by
  rw[Aa2,Aa2];have:Hq N' rk acc x=Hq N rk acc x:=by
   unfold Hq;rw[Jv h (hl x (by simp))]
  rw[this];exact V2 h rk _ (fun y hy=>hl y (by simp[hy]))
theorem Gv {N:List Tx}{l:List RItem}{cs:List AV}(h:EL (PI N) l cs):∀x∈l,x.head.pred∈N/\∀a∈x.body,a.pred∈N:=fun x hx=>by
 obtain⟨i,hi⟩:=Acp hx;obtain⟨hm,ih,id,b,r,hb,-⟩:=Lb h hi;refine⟨hm,fun a ha=>?_⟩;obtain⟨j,hj⟩:=Acp ha;obtain⟨c,r2,⟨hc,-⟩,-⟩:=EL.get K8 hb hj;exact hc
def tD (l:List RItem)(F:List RAtom)(n:Int)(x:Tx)(k e:Int):Prop:=
 ∃(N:List Tx) (M M':MM) (d:Int),(∀y∈l,y.head.pred∈N/\∀a∈y.body,a.pred∈N)/\(∀a∈F,a.pred∈N)/\MkM N.length (F.map (Dv N)) M/\(∀z∈M',T3 z.2)/\FolI N l M n (l.length+1) M' d/\
  if n<d then x=[]/\k=0/\e=9 else x=Sc N (fun j=>D2 (Au M' (j:Int))) l/\k=d/\e=0/\∀z∈M',∀u∈z.2,∀y∈u,-1<=y/\y<=9999
def Qu (t f:Tx)(n:Int)(x:Tx)(k e:Int):Prop:=
 if 600<t.length\/400<f.length then x=[]/\k=0/\e=1
 else if (A3 t).1≠0 then x=[]/\k=0/\e=(A3 t).1
 else if n<0\/200<n then x=[]/\k=0/\e=6
 else∃l,Bf 16 t= .got l []/\if F1 l f≠0 then x=[]/\k=0/\e=F1 l f else∃F,Bw 400 f= .got F []/\tD l F n x k e
structure BkT (N:List Tx)(l:List RItem)(cs:List AV):Prop where
 bk:Bk N l cs
 nl:N.length<=600
 rt:RtI l
 va:∀x∈l,∀a∈Af x,VA a
 dt:∀x∈l,∀a∈Af x,∀w∈a.terms,DT w
 wi:∀x∈l,Jk x
 nn:∀x∈l,x.head.pred.length<=600
theorem BkT.cons {N:List Tx}{l:List RItem}{cs:List AV}(h:BkT N l cs):Dd (l.flatMap Af):=Tw h.rt.odd h.bk.pos
theorem BkT.bkr {N N':List Tx}{l:List RItem}{cs:List AV}(h:BkT N l cs)(hN:N<+:N'){F:List RAtom}(hS:Dd (l.flatMap Af++F)):yY N l N'.length (xE N' (l.flatMap Af++F)):=by
 have hn:=Gv h.bk.el;refine⟨hN.length_le,hn,h.rt.kn,fun x hx ho=>?_⟩;rw[<-cG hN (hn x hx)];refine xW hS (fun a ha=>Ab2.2 (.inl (Acl.2 ⟨x,hx,ha⟩))) ⟨hN.subset (hn x hx).1,fun a ha=>hN.subset ((hn x hx).2 a ha)⟩ ho (h.wi x hx) (h.va x hx) (h.dt x hx) (h.rt.saf x hx) (fun a ha hnt e=>?_);have:=Wt h.bk.out h.rt.kn h.bk.len hx ha hnt;rw[e]at this;exact Nat.lt_irrefl _ this
theorem wC {N:List Tx}{S:List RAtom}(hS:Dd S){a:RAtom}(ha:a∈S)(hm:a.pred∈N)(hs:Nq a=true)(hv:∀w∈a.terms,VT w/\DT w):Sh (xE N S) (N.idxOf a.pred) (Cx (Dv N a)):=by
 refine⟨(a.terms.map Bu).map (·.2),rfl,?_,fun x hx=>?_⟩
 ·rw[Ace,Ace];exact jK hS ha hm
 ·obtain⟨p,hp,rfl⟩:=Acf.1 hx;obtain⟨w,hw,rfl⟩:=Acf.1 hp;refine (lV (hv w hw).1 (hv w hw).2).2 ?_;unfold Nq Gn at hs;rw[Aaw]at hs;have:=hs (Bu w) (Acf.2 ⟨w,hw,rfl⟩);simpa using this
theorem xU {ar:Nat->Nat}{k:Nat}{t:Bj}(h:Sh ar k t):∀y∈t,-1<=y/\y<=9999:=fun y hy=>by
 obtain⟨l,rfl,-,hl⟩:=h;have key:∀i:Nat,-1<=(l[i]?).getD (-1)/\(l[i]?).getD (-1)<=9999:=fun i=>by
  cases hi:l[i]? with
  |none=>simp
  |some z=>
   obtain⟨n,rfl,hn⟩:=hl z (Aax hi);simp;omega
 unfold C8 at hy;simp only[Acd,Acu,Ad1]at hy;rcases hy with rfl|rfl|rfl
 ·exact key 0
 ·exact key 1
 ·exact key 2
end Go.Proofs.YtmoeoppbmhfbpaaGreatDoorH
