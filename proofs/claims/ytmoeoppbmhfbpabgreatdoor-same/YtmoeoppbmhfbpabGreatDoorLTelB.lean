import Derived.Test.YtmoeoppbmhfbpabGreatDoorLFacB
import Derived.Test.YtmoeoppbmhfbpabGreatDoorLEngW
import Derived.Test.YtmoeoppbmhfbpabGreatDoorLProgP
import Derived.Test.YtmoeoppbmhfbpabGreatDoorLImpB
set_option maxHeartbeats 64000000
set_option maxRecDepth 100000
set_option linter.all false
namespace Go.Proofs.YtmoeoppbmhfbpabGreatDoorL
open Go.Abs
def Ju (l:List Bc):Prop:=l.Pairwise fun a b=>Fp b a=false
theorem pG {l:List Bc}{i:Nat}{t:Bc}(h3:T3 l)(ht:t.length=3)(hi:i<l.length):lsp (Dd l) (i*3) (Am t)=Dd (l.set i t):=by
 have hl:=E7 h3;have aa:=Ds ht;rw[Gl _ _ _ (by rw[aa,hl];omega),aa];have e:l=l.take i++l[i]::l.drop (i+1):=by rw[<-Ahl hi,Aiv]
 have e2:l.set i t=l.take i++t::l.drop (i+1):=by
  rw[List.set_eq_take_append_cons_drop,if_pos hi]
 have ac:(Dd (l.take i)).length=i*3:=by
  rw[E7 (fun x hx=>h3 x (Ai2 hx)),Ahb,Ahf (Nat.le_of_lt hi)]
 have ab:=Ds (h3 _ (Ah6 hi));have e3:Dd l=Dd (l.take i)++(Am l[i]++Dd (l.drop (i+1))):=by
  unfold Dd
  conv=>lhs;rw[e]
  rw[List.flatMap_append,Ah3]
 have e4:Dd (l.set i t)=Dd (l.take i)++(Am t++Dd (l.drop (i+1))):=by
  rw[e2];simp[Dd]
 rw[e4,e3,<-ac,List.take_left,Ahc];congr 1;congr 1;rw[show (Dd (l.take i)).length+3=(Dd (l.take i)).length+(Am l[i]).length by rw[ab],List.drop_length_add_append,List.drop_left]
structure Ins (acc:List Bc)(t:Bc)(A B:List Bc):Prop where
 eq:A++B=acc
 le:∀b∈B,Fp t b=true
theorem Ins.done {acc:List Bc}{t:Bc}{A B:List Bc}(h:Ins acc t A B)(hr:Ju acc)(h3:T3 acc)(ht:t.length=3)(hA:∀a,A.getLast?=some a->Fp t a=false):Ju (A++t::B)/\(A++t::B).Perm (acc++[t]):=by
 have ab:=hr;rw[<-h.eq]at ab h3;unfold Ju at ab;rw[List.pairwise_append]at ab;obtain⟨p1,p2,p3⟩:=ab;have ac:∀a∈A,Fp t a=false:=fun a ha=>by
  rcases List.eq_nil_or_concat A with e|⟨A',z,e⟩
  ·rw[e]at ha;cases ha
  ·rw[List.concat_eq_append]at e;have hz:=hA z (by rw[e];simp);rw[e]at ha p1;rcases Ahs.1 ha with aa|aa
   ·have h1:=(List.pairwise_append.1 p1).2.2 a aa z (by simp);exact Zu (h3 a (by rw[e];simp[aa])) (h3 z (by rw[e];simp)) ht h1 hz
   ·simp at aa;rw[aa];exact hz
 refine⟨?_,?_⟩
 ·unfold Ju;rw[List.pairwise_append,Ajf];refine⟨p1,⟨fun b hb=>Pr (h.le b hb),p2⟩,fun a ha b hb=>?_⟩;rcases Ahm.1 hb with rfl|hb
  ·exact ac a ha
  ·exact p3 a ha b hb
 ·rw[<-h.eq];exact List.perm_middle.trans ((List.perm_append_singleton t (A++B)).symm)
theorem Ac4 {P:Program}{t:TypeId}{b:Nat}{zc:List Value}{σ0 σ:St}{id2 n lo:Nat}{x:AV}{xs ys:List AV}{K:AV->St->Prop}(ht:Nm P t=some (3,b,zc))(hzc:zc.length=3)(hy:ys.length=3)(hf:ys.all Abs.flat=true)(hb:(n+1)*b<=140737488355328)(hl:n+1<=1099511627776)
  (ae:lo<=σ.nobj) (h0:σ0.nobj<=lo) (hK:Keep σ0 σ) (hx:PS lo σ x n xs) (h:∀o cap σ',PS lo σ' (Abs.gx o (n+1) cap) (n+1) (xs++ys)->σ.nobj<=σ'.nobj->(∀p,p<σ.nobj->(∀c,x≠Abs.gx p n c)->σ'.obj p=σ.obj p/\o≠p)->Keep σ0 σ'->K (Abs.gx o (n+1) cap) σ'):Ib P t t x (sl id2 1 ys) σ K:=by
 refine jV (xs:=xs) ht Ajm hzc Ajm hf Ajm hb hl ?_ ?_ ?_
 ·rcases hx with h|⟨o,cap,h1,h2,h3,h4,h5,-,-⟩
  ·exact .inl h
  ·exact .inr ⟨o,cap,h1,h2,h3,h4,h5⟩
 ·rintro o cap cs ⟨c0,e1,e2,rfl⟩ ab aa;rcases hx with⟨rfl,-,-⟩|⟨o',cap',rfl,h2,h3,h4,h5,h6,h7⟩
  ·simp at e1
  ·simp at e1;obtain⟨rfl,rfl⟩:=e1;refine h _ _ _ (.inr ⟨_,_,rfl,Ajm,e2,by rw[Ak];exact ab,by rw[Ak];exact aa,h6,h7⟩) (Agi _) (fun p hp ad=>?_) (hK.put Ajm _);have ac:p≠o':=fun e=>ad cap' (by rw[e]);exact⟨Cn ac,fun e=>ac e.symm⟩
 ·intro cap cs ab hc aa;exact h _ _ _ (.inr ⟨_,_,rfl,Ajm,hc,by rw[Ap];exact ab,by rw[Ap];exact aa,ae,Ajq⟩) Ajq (fun p hp _=>⟨Ag Ajm,Ajm⟩) (hK.new _)
theorem PS.tup {lo:Nat}{σ:St}{o cap n i:Nat}{L:List Bc}{t:Bc}(h:PS lo σ (Abs.gx o n cap) n (Dd L))(h3:T3 L)(hn:n=L.length)(hi:L[i]?=some t):∃r,(σ.obj o).drop (i*3)=Am t++r:=by
 obtain⟨o',cap',e,-,-,-,-,aa⟩:=h.gx (by have:=(List.getElem?_eq_some_iff.1 hi).1;omega);simp at e;obtain⟨rfl,rfl⟩:=e;obtain⟨-,r,hd⟩:=Gj h3 hi;have hl:=E7 h3;have hil:=(List.getElem?_eq_some_iff.1 hi).1;refine⟨r++(σ.obj o).drop (n*3),?_⟩
 conv=>lhs;rw[<-Aiv (n*3) (σ.obj o),aa]
 rw[Aht (by rw[hl];omega),hd,Ahc]
theorem PS.len {lo:Nat}{σ:St}{o cap n:Nat}{pc:List AV}(h:PS lo σ (Abs.gx o n cap) n pc)(hn:0<n):(σ.obj o).length=cap*3/\n<=cap/\lo<=o/\o<σ.nobj:=by
 obtain⟨o',cap',e,h1,h2,h3,h4,-⟩:=h.gx hn;simp at e;obtain⟨rfl,rfl⟩:=e;exact⟨h3,h4,h1,h2⟩
theorem iN (l:List Bc)(idl:Nat)(h3:T3 l)(hl:l.length<=5000)(σ:St):ACalls Tryz.prog 86 [sl idl l.length (Dd l)] σ fun r σ'=>∃id L,r=sl id L.length (Dd L)/\L.Perm l/\Ju L/\Keep σ σ':=by
 have ca:=E7 h3;refine Z9 52 [.tmp 2] Tryz.func86 ?_
 repeat' (first|refine Z1 ?_|(refine Z8 ?_;intro κ hκ)|(refine Z4 ?_;clear hκ κ)|(refine Z2 ?_ ?_<;>intro h ac<;>try exact Xp)|(refine Z6 ?_;intro idn σn am ah ae ab ad aa)|refine Z3 ?_|exact⟨⟩|(apply hκ.out;clear hκ κ))
 refine Af (fun m s σ'=>∃(i:Nat) (X:AV) (L:List Bc),m=l.length-i/\i<=l.length/\s 3=X/\s 8=sl idl l.length (Dd l)/\s 9=ic l.length/\s 10=ic i/\Keep σ σ'/\PS σ.nobj σ' X L.length (Dd L)/\L.length<=5000/\Ajs (L.Perm (l.take i)/\Ju L)) l.length
  ⟨0,nilS,[],Ajm,Ajm,Ajo,by simp[upd,initS],Ajo,Ajo,Xs,.inl ⟨rfl,rfl,rfl⟩,by simp,by simp,List.Pairwise.nil⟩ ?_
 rintro m s σ' ⟨i,X,L,rfl,hi,az,h8,h9,a6,hK,hX,cf,hL⟩;have ba:=hK.nobj;by_cases bp:i<l.length
 ·have ak:=List.getElem?_eq_getElem bp;obtain⟨ai,r,hd⟩:=Gj h3 ak;generalize l[i]=t at hd ak ai;have b7:Ajs (l.take (i+1)=l.take i++[t]):=by rw[Ajs,Agz,ak,Aia]
  have a5:T3 L:=fun x hx=>h3 x (Ai2 (hL.out.1.subset hx));have b1:L.length=i:=by have:=hL.out.1.length_eq;rw[Ahb,Ahf hi]at this;exact this
  have b0:L.length<=i:=Ajm;clear ak b1;have f1:=Ds ai;have f2:=H9 ai;have f3:=D5 ai;have f4:=Hz ai;have f5:=Co t;have f6:=Pw ai;have br:=hX.flat
  repeat' (first|refine Z1 ?_|(refine Z8 ?_;intro κ hκ)|(refine Z4 ?_;clear hκ κ)|(refine Z2 ?_ ?_<;>intro h ac<;>try exact Xp)|(refine Z6 ?_;intro idn σn am ah ae ab ad aa)|refine Z3 ?_|exact⟨⟩|(apply hκ.out;clear hκ κ))
  have bg:∀c,X≠gx σ'.nobj L.length c:=fun c e=>by
   rcases hX with⟨e2,-,-⟩|⟨o,cap,e2,-,-,-,-,-,h7⟩
   ·rw[e2]at e;simp at e
   ·rw[e2]at e;simp at e;omega
  refine Ac4 (lo:=σ.nobj) (σ0:=σ) (by first|exact Fx) (by rfl) f1 f5 Ajm Ajm (by simp only[Ah,Ab,Aa];omega) Ajm (((hK.new _).put hK.nobj _).lay 1) (hX.keep ((((Keep.refl _).new _).put (Agi _) _).lay 1)) ?_;intro og cg σn a4 bc au ah;simp only[Ah,Ab,Aa]at bc;obtain⟨ot5,a3⟩:=au σ'.nobj (by simp only[Ah,Ab,Aa];omega) bg;rw[As,Ak]at ot5;rw[<-Lp]at a4;clear au bg hX br;refine Z3 ?_
  repeat' (first|refine Z1 ?_|(refine Z8 ?_;intro κ hκ)|(refine Z4 ?_;clear hκ κ)|(refine Z2 ?_ ?_<;>intro h ac<;>try exact Xp)|(refine Z6 ?_;intro idn σn am ah ae ab ad aa)|refine Z3 ?_|exact⟨⟩|(apply hκ.out;clear hκ κ))
  refine Af (fun m s σ2=>∃(A B:List Bc),m=A.length/\s 3=gx og (L.length+1) cg/\s 5=ptr σ'.nobj 0/\s 6=ic A.length/\s 8=sl idl l.length (Dd l)/\s 9=ic l.length/\s 10=ic i/\Keep σ σ2/\σ'.nobj<σ2.nobj/\σ2.obj σ'.nobj=Am t/\PS σ.nobj σ2 (gx og (L.length+1) cg) (L.length+1) (Dd (A++t::B))/\Ajs (Ins L t A B)) L.length
   ⟨L,[],rfl,Ajn,Ajn,Ajo,Ajn,Ajn,Ajn,ah,Ajm,ot5,a4,by simp,by simp⟩ ?_
  clear az h8 h9 a6 a4 ot5 ah hK ba bc;rintro m s σ2 ⟨A,B,rfl,az,h5,h6,h8,h9,a6,hK,bo,ot5,hX,hI⟩;have ba:=hK.nobj;have b3:A.length+B.length=L.length:=by have:=congrArg List.length hI.out.eq;simpa using this
  have af:(A++t::B).length=L.length+1:=by simp;omega
  have aj:T3 (A++t::B):=fun x hx=>by
   rcases Ahs.1 hx with h|h
   ·exact a5 x (by rw[<-hI.out.eq];simp[h])
   ·rcases Ahm.1 h with rfl|h
    ·exact ai
    ·exact a5 x (by rw[<-hI.out.eq];simp[h])
  obtain⟨xl1,xl2,xl3,xl4⟩:=hX.len Ajm;have HD:Ajs ((∀a,A.getLast?=some a->Fp t a=false)->(A++t::B).Perm (l.take (i+1))/\Ju (A++t::B)):=fun hA=>by
   obtain⟨r1,r2⟩:=hI.out.done hL.out.2 a5 ai hA;refine⟨?_,r1⟩;rw[b7.out];exact r2.trans (hL.out.1.append_right [t])
  rcases List.eq_nil_or_concat A with rfl|⟨A',u,bh⟩
  ·have HN:Ajs (([]++t::B).Perm (l.take (i+1))/\Ju ([]++t::B)):=HD.out (by simp);have bw:PS σ.nobj σ2 (gx og (L.length+1) cg) ([]++t::B).length (Dd ([]++t::B)):=by rw[af];exact hX
   have ch:s 6=ic 0:=h6;have b6:decide ((0:Int)<0)=false:=rfl;have b5:decide ((0:Int)>0)=false:=rfl;clear HD h6
   repeat' (first|refine Z1 ?_|(refine Z8 ?_;intro κ hκ)|(refine Z4 ?_;clear hκ κ)|(refine Z2 ?_ ?_<;>intro h ac<;>try exact Xp)|(refine Z6 ?_;intro idn σn am ah ae ab ad aa)|refine Z3 ?_|exact⟨⟩|(apply hκ.out;clear hκ κ))
   refine Bu (Q:=fun e s' σ''=>e= .normal/\s' 34=sc (.bool false)/\s' 3=gx og (L.length+1) cg/\s' 5=ptr σ'.nobj 0/\s' 8=sl idl l.length (Dd l)/\s' 9=ic l.length/\s' 10=ic i/\σ''=σ2) ?_ ?_
   ·refine A2 Aj (fun _=>True) [] [0,1,2,3,4,5,6,7,8,9,10,11] 2 #[true,true,true,true,true,true,true,true,true,true,true,true,false,false] Ajp (fun _ _ _ h=>by cases h.1) ?_;intro κ hκ;refine Z3 ?_;refine hκ.out _ ?_;clear hκ κ;refine Ao (i:=12) Ajp ?_;refine Ar ?_;intro κ hκ;refine Z3 ?_;refine hκ.out _ _ ⟨kept_refl,?_⟩;clear hκ κ;refine E6 [13] Ajp Ajp (fun _ _ _ h=>by cases h.1) (Agi _) (fun o ho _=>rfl) ?_;intro κ hκ;refine Z3 ?_;refine hκ.out _ _ ⟨rfl,?_⟩;simp[upd, *]
   ·rintro e s' σ3 ⟨rfl,g34,g3,g5,g8,g9,g10,rfl⟩;refine E4 g34 ?_
    repeat' (first|refine Z1 ?_|(refine Z8 ?_;intro κ hκ)|(refine Z4 ?_;clear hκ κ)|(refine Z2 ?_ ?_<;>intro h ac<;>try exact Xp)|(refine Z6 ?_;intro idn σn am ah ae ab ad aa)|refine Z3 ?_|exact⟨⟩|(apply hκ.out;clear hκ κ))
    refine⟨l.length-(i+1),Ajm,i+1,gx og (L.length+1) cg,[]++t::B,?_⟩
    ((repeat' with_reducible refine And.intro ?_ ?_)<;>first|exact Xq|exact (bw)|exact (HN)|exact (by rw[af];omega)|exact Xs)
  ·rw[List.concat_eq_append]at bh;subst bh;rw[show (A'++[u]).length=A'.length+1 by simp]at h6 b3;have bd:(A'++[u]++t::B)[A'.length]?=some u:=by simp
   have av:(A'++[u]++t::B)[A'.length+1]?=some t:=by rw[List.getElem?_append_right (by simp)];simp
   obtain⟨r1,bf⟩:=hX.tup aj af.symm bd;obtain⟨r2,be⟩:=hX.tup aj af.symm av;have ao:=aj u (by simp);have bz:=fun σ=>mY t u ai ao σ;have a9:Ajs (Fp t u=false->(A'++[u]++t::B).Perm (l.take (i+1))/\Ju (A'++[u]++t::B)):=fun h=>HD.out (fun a ha=>by simp at ha;subst ha;exact h)
   have a8:Ajs (Fp t u=true->Ins L t A' (u::B)):=fun h=>⟨by rw[<-hI.out.eq];simp,fun b hb=>by
    rcases Ahm.1 hb with rfl|hb
    ·exact h
    ·exact hI.out.le b hb⟩
   have ay:Ajs (((A'++[u]++t::B).set (A'.length+1) u).set A'.length t=A'++t::u::B):=by
    rw[Ajs,List.set_append_right _ _ (by simp)];simp
   have bb:=pG (l:=A'++[u]++t::B) (i:=A'.length+1) (t:=u) aj ao (by rw[af];omega);have bl:T3 ((A'++[u]++t::B).set (A'.length+1) u):=fun x hx=>by
    rcases Ai3 hx with h|rfl
    ·exact aj x h
    ·exact ao
   have a0:=pG (l:=(A'++[u]++t::B).set (A'.length+1) u) (i:=A'.length) (t:=t) bl ai (by rw[Ai8,af];omega);rw[ay.out]at a0;have bm:Ajs (∀σ3,PS σ.nobj σ3 (gx og (L.length+1) cg) (L.length+1) (Dd (A'++[u]++t::B))->PS σ.nobj ((σ3.put og (lsp (σ3.obj og) ((A'.length+1)*3) (Am u))).put og (lsp (lsp (σ3.obj og) ((A'.length+1)*3) (Am u)) (A'.length*3) (Am t))) (gx og (L.length+1) cg) (L.length+1) (Dd (A'++t::u::B))):=fun σ3 h=>by
    have g1:=h.set (i:=A'.length+1) (c:=Am u) Ajm (Ds ao);rw[bb]at g1;have g2:=g1.set (i:=A'.length) (c:=Am t) Ajm (Ds ai);rw[a0,Ak]at g2;exact g2
   have k1:=Ds ao;have k2:=H9 ao;have k3:=D5 ao;have k5:=Co u;have k6:=Pw ao;have ax:PS σ.nobj σ2 (gx og (L.length+1) cg) (A'++[u]++t::B).length (Dd (A'++[u]++t::B)):=by rw[af];exact hX
   have bn:((A'.length:Int)+1)-1=(A'.length:Int):=Ajm;have b4:s 6=ic ((A'.length:Int)+1):=by rw[h6];simp
   clear HD hI bd av bb a0 bl ay h6;generalize bi:A'.length=j at*
   have b8:Ajs (A'.length=j):=bi;clear bi;have b6:decide ((0:Int)<(j:Int)+1)=true:=by rw[Ajj];omega
   have b5:decide ((j:Int)+1>0)=true:=by rw[Ajj];omega
   have b9:((j:Int)+1).toNat=j+1:=Ajm
   repeat' (first|refine Z1 ?_|(refine Z8 ?_;intro κ hκ)|(refine Z4 ?_;clear hκ κ)|(refine Z2 ?_ ?_<;>intro h ac<;>try exact Xp)|(refine Z6 ?_;intro idn σn am ah ae ab ad aa)|refine Z3 ?_|exact⟨⟩|(apply hκ.out;clear hκ κ))
   refine Bu (Q:=fun e s' σ''=>e= .normal/\s' 34=sc (.bool (Fp t u))/\s' 3=gx og (L.length+1) cg/\s' 5=ptr σ'.nobj 0/\s' 6=ic ((j:Int)+1)/\s' 8=sl idl l.length (Dd l)/\s' 9=ic l.length/\s' 10=ic i/\Keep σ2 σ'') ?_ ?_
   ·refine A2 Aj (fun _=>True) [] [0,1,2,3,4,5,6,7,8,9,10,11] 2 #[true,true,true,true,true,true,true,true,true,true,true,true,false,false] Ajp (fun _ _ _ h=>by cases h.1) ?_;intro κ hκ;refine Z3 ?_;refine hκ.out _ ?_;clear hκ κ;refine Ao (i:=12) Ajp ?_;refine Ar ?_;intro κ hκ;refine Z3 ?_;refine ACalls.mono (bz _) ?_;rintro _ σ5 ⟨rfl,an⟩;refine Z3 ?_;refine hκ.out _ _ ⟨Aq an,?_⟩;clear hκ κ;refine E6 [13] Ajp Ajp (fun _ _ _ h=>by cases h.1) an.nobj (fun o ho _=>an.ver o ho) ?_;intro κ hκ;refine Z3 ?_;refine hκ.out _ _ ⟨rfl,?_⟩;simp[upd, *]
   ·rintro e s' σ5 ⟨rfl,g34,g3,g5,g6,g8,g9,g10,an⟩;have kn5:=an.nobj;have ap:=an.obj;have oog:σ5.obj og=σ2.obj og:=ap _ xl4;have bv:(σ5.obj og).drop (j*3)=Am u++r1:=by rw[oog];exact bf
    have bu:(σ5.obj og).drop ((j+1)*3)=Am t++r2:=by rw[oog];exact be
    have xl1':(σ5.obj og).length=cg*3:=by rw[oog];exact xl1
    have ot5':σ5.obj σ'.nobj=Am t:=by rw[ap _ bo];exact ot5
    have b2:=hK.trans an;have a7:Ajs _:=bm.out σ5 (hX.keep an);have aw:=ax.keep an;clear az h5 b4 h8 h9 a6 bf be xl1 ot5 oog ap hX ax bm;cases hb:Fp t u with
    |false=>
     have HN:Ajs _:=a9.out hb;rw[hb]at g34;refine E4 g34 ?_;clear hb a9 a8
     repeat' (first|refine Z1 ?_|(refine Z8 ?_;intro κ hκ)|(refine Z4 ?_;clear hκ κ)|(refine Z2 ?_ ?_<;>intro h ac<;>try exact Xp)|(refine Z6 ?_;intro idn σn am ah ae ab ad aa)|refine Z3 ?_|exact⟨⟩|(apply hκ.out;clear hκ κ))
     refine⟨l.length-(i+1),Ajm,i+1,gx og (L.length+1) cg,A'++[u]++t::B,?_⟩
     ((repeat' with_reducible refine And.intro ?_ ?_)<;>first|exact Xq|exact (aw)|exact (HN)|exact (by rw[af];omega)|exact Xs)
    |true=>
     have HN:Ajs _:=a8.out hb;rw[hb]at g34;refine F4 g34 ?_;clear hb a9 a8;have cd:j+1<L.length+1:=Ajm;have cb:∀c,(σ5.put og c).obj σ'.nobj=Am t:=fun c=>by rw[Cn (Ne.symm a3)];exact ot5'
     have bq:(lsp (σ5.obj og) ((j+1)*3) (Am u)).length=cg*3:=by rw[Ix];exact xl1'
     have ce:j*3+3<=cg*3:=Ajm
     repeat' (first|refine Z1 ?_|(refine Z8 ?_;intro κ hκ)|(refine Z4 ?_;clear hκ κ)|(refine Z2 ?_ ?_<;>intro h ac<;>try exact Xp)|(refine Z6 ?_;intro idn σn am ah ae ab ad aa)|refine Z3 ?_|exact⟨⟩|(apply hκ.out;clear hκ κ))
     refine⟨A'.length,by simp,A',u::B,?_⟩
     ((repeat' with_reducible refine And.intro ?_ ?_)<;>first|exact Xq|exact (a7)|exact (HN)|exact ((b2.put xl3 _).put xl3 _)|exact (by rw[b8.out])|exact (by rw[Cn (Ne.symm a3),Cn (Ne.symm a3)];exact ot5')|exact Xs)
 ·have hil:i=l.length:=Ajm;subst hil;obtain⟨e1,e2⟩:=hL.out;rw[Agw]at e1;rcases hX with⟨rfl,hn,-⟩|⟨o,cap,rfl,g2,g3,g4,g5,g6,g7⟩
  ·have:L=[]:=Agu hn;subst this
   repeat' (first|refine Z1 ?_|(refine Z8 ?_;intro κ hκ)|(refine Z4 ?_;clear hκ κ)|(refine Z2 ?_ ?_<;>intro h ac<;>try exact Xp)|(refine Z6 ?_;intro idn σn am ah ae ab ad aa)|refine Z3 ?_|exact⟨⟩|(apply hκ.out;clear hκ κ))
   exact⟨_,rfl,1,[],rfl,e1,e2⟩
  ·refine V8 (t:=3) (o:=o) (k:=L.length*3) g7 az (by rw[g4];omega) ?_;rw[g5]
   repeat' (first|refine Z1 ?_|(refine Z8 ?_;intro κ hκ)|(refine Z4 ?_;clear hκ κ)|(refine Z2 ?_ ?_<;>intro h ac<;>try exact Xp)|(refine Z6 ?_;intro idn σn am ah ae ab ad aa)|refine Z3 ?_|exact⟨⟩|(apply hκ.out;clear hκ κ))
   exact⟨_,rfl,0,L,rfl,e1,e2,hK.put g6 _⟩
theorem Ze:∀{L L':List Bc},T3 L->L.Perm L'->Ju L->Ju L'->L=L'
 |[],L',_,hp,_,_=>by rw[hp.nil_eq]
 |a::L,[],_,hp,_,_=>by have:=hp.length_eq;simp at this
 |a::L,b::L',h3,hp,h1,h2=>by
  unfold Ju at h1 h2;rw[Ajf]at h1 h2;have ab:T3 (b::L'):=fun x hx=>h3 x (hp.symm.subset hx);have aa:a=b:=by
   have ha:a∈b::L':=hp.subset (by simp);have hb:b∈a::L:=hp.symm.subset (by simp);rcases Ahm.1 ha with e|ha
   ·exact e
   ·rcases Ahm.1 hb with e|hb
    ·exact e.symm
    ·exact Ab4 (h3 a (by simp)) (ab b (by simp)) (h2.1 a ha) (h1.1 b hb)
  subst aa;rw[Ze (fun x hx=>h3 x (Ahp _ hx)) (List.perm_cons a|>.1 hp) h1.2 h2.2]
def mN (t:Bc):List Bc->List Bc
 |[]=>[t]
 |u::l=>if Fp t u=true then t::u::l else u::mN t l
def Gx:List Bc->List Bc
 |[]=>[]
 |t::l=>mN t (Gx l)
theorem Q1 (t:Bc):∀l,(mN t l).Perm (t::l)
 |[]=>List.Perm.refl _
 |u::l=>by
  unfold mN;split
  ·exact List.Perm.refl _
  ·exact ((Q1 t l).cons u).trans (List.Perm.swap _ _ _)
theorem Km:∀l,(Gx l).Perm l
 |[]=>List.Perm.refl _
 |t::l=>(Q1 t _).trans ((Km l).cons t)
theorem Zw {t:Bc}(ht:t.length=3):∀{l:List Bc},T3 l->Ju l->Ju (mN t l)
 |[],_,_=>by simp[mN,Ju]
 |u::l,h3,h=>by
  unfold Ju at h;rw[Ajf]at h;have hu:=h3 u (by simp);unfold mN;split
  ·rename_i hc;unfold Ju;rw[Ajf,Ajf];refine⟨fun x hx=>?_,h.1,h.2⟩;rcases Ahm.1 hx with rfl|hx
   ·exact Pr hc
   ·exact Zu ht hu (h3 x (Ahp _ hx)) (Pr hc) (h.1 x hx)
  ·rename_i hc;have:=Zw ht (fun x hx=>h3 x (Ahp _ hx)) h.2;unfold Ju at this⊢;rw[Ajf];refine⟨fun x hx=>?_,this⟩;rcases Ahm.1 ((Q1 t l).subset hx)with rfl|hx
   ·simpa using hc
   ·exact h.1 x hx
theorem Nz:∀{l:List Bc},T3 l->Ju (Gx l)
 |[],_=>List.Pairwise.nil
 |t::l,h3=>Zw (h3 t (by simp)) (fun x hx=>h3 x (Ahp _ ((Km l).subset hx))) (Nz (fun x hx=>h3 x (Ahp _ hx)))
theorem pO {L l:List Bc}(h3:T3 l)(hp:L.Perm l)(hr:Ju L):L=Gx l:=
 Ze (fun x hx=>h3 x (hp.subset hx)) (hp.trans (Km l).symm) hr (Nz h3)
def Hy (nm:Tx)(t:Bc):Tx:=nm++[40]++aV t++[41,46]
def Iq (N:List Tx)(rk:Nat->List Bc)(acc:Tx×List Int)(x:RItem):Tx×List Int:=
 if x.out=true/\((N.idxOf x.head.pred:Nat):Int)∉acc.2 then (acc.1++(rk (N.idxOf x.head.pred)).flatMap (Hy x.head.pred),acc.2++[((N.idxOf x.head.pred:Nat):Int)])else acc
def F6 (N:List Tx)(rk:Nat->List Bc)(l:List RItem):Tx×List Int:=l.foldl (Iq N rk) ([],[])
def O7 (N:List Tx)(rk:Nat->List Bc)(l:List RItem):Tx:=(F6 N rk l).1
theorem kX {N:List Tx}{rk:Nat->List Bc}{l:List RItem}{i:Nat}{x:RItem}(h:l[i]?=some x):F6 N rk (l.take (i+1))=Iq N rk (F6 N rk (l.take i)) x:=by
 unfold F6;rw[Agz,h,Aia,Aif];rfl
theorem vD {t:Bc}(ht:t.length=3)(hb:∀y∈t,-1<=y/\y<=9999):(aV t).length<=60:=by
 have hl:(tups t).length<=3:=by
  unfold tups;have:=(List.takeWhile_prefix (fun x=>decide (x≠ -1)) (l:=t)).length_le;omega
 have hs:∀y∈tups t,0<=y/\y<=9999:=fun y hy=>by
  have h1:=(List.takeWhile_subset _ hy:y∈t);have h2:∀(l:List Int),y∈l.takeWhile (fun x=>decide (x≠ -1))->y≠ -1:=fun l=>by
   induction l with
   |nil=>intro h;cases h
   |cons z l ih=>
    intro h;rw[List.takeWhile_cons]at h;split at h
    ·rename_i hz;rcases Ahm.1 h with rfl|h
     ·simpa using hz
     ·exact ih h
    ·cases h
  have h3:=h2 t hy;have:=hb y h1;omega
 unfold aV;generalize tups t=l at hl hs
 match l,hl with
 |[],_=>simp[jn]
 |[a],_=>have:=Ho a (hs a (by simp)).1 (hs a (by simp)).2;simp[jn];omega
 |[a,b],_=>
  have h1:=Ho a (hs a (by simp)).1 (hs a (by simp)).2;have h2:=Ho b (hs b (by simp)).1 (hs b (by simp)).2;simp[jn];omega
 |[a,b,c],_=>
  have h1:=Ho a (hs a (by simp)).1 (hs a (by simp)).2;have h2:=Ho b (hs b (by simp)).1 (hs b (by simp)).2;have h3:=Ho c (hs c (by simp)).1 (hs c (by simp)).2;simp[jn];omega
theorem Sm (N:List Tx)(l:List RItem)(cs:List AV)(idb idi:Nat)(hB:Bk N l cs)(cq:∀x∈l,x.head.pred.length<=600)(om ot:Nat)(M:MM)(d b:Int)(dc:N.length<=M.length)(bl:∀x∈M,∀t∈x.2,∀y∈t,-1<=y/\y<=9999)(σ:St)(hM:MOb σ om ot M d b):
  ACalls Tryz.prog 52 [ptr om 0,Bo N idb l idi cs] σ fun r σ'=>r=str (O7 N (fun k=>Gx (Ay M (k:Int))) l)/\Keep σ σ':=by
 have dd:=EL.length De hB.el;have cj:=hB.len;have dj:=hB.nm;have hE:=hB.el;have lo:=hM.lo;have lt:=hM.lt;have b1:=hM.ob;have b0:=hM.oc;have hpl:=hM.pl;have da:=G7 M;have df:({data:=#[40]}:ByteArray)=bs [40]:=rfl;have de:({data:=#[41,46]}:ByteArray)=bs [41,46]:=rfl;have dh:({data:=#[]}:ByteArray)=bs []:=rfl;generalize bw:(fun k:Nat=>Gx (Ay M (k:Int)))=rk;have cy:Ajs (∀k:Nat,rk k=Gx (Ay M (k:Int))):=fun k=>by rw[<-bw]
 clear bw;unfold Bo;refine Z9 64 [.tmp 4] Tryz.func52 ?_
 repeat' (first|refine Z1 ?_|(refine Z8 ?_;intro κ hκ)|(refine Z4 ?_;clear hκ κ)|(refine Z2 ?_ ?_<;>intro h af<;>try exact Xp)|(refine Z6 ?_;intro idn σn ak am ad ab ae aa)|refine Z7 ?_|exact⟨⟩|(apply hκ.out;clear hκ κ))
 refine Af (fun m s σ'=>∃(i i6:Nat),m=l.length-i/\i<=l.length/\s 0=ptr om 0/\s 3=ptr σ.nobj 0/\s 5=str (F6 N rk (l.take i)).1/\s 6=sl i6 (F6 N rk (l.take i)).2.length (Am (F6 N rk (l.take i)).2)/\s 14=sl idi l.length cs/\s 15=ic l.length/\s 16=ic i/\Keep σ σ'/\σ.nobj<σ'.nobj/\σ'.obj σ.nobj=[sl idb N.length (N.map str),sl idi l.length cs]/\Own σ σ' i6 (F6 N rk (l.take i)).2.length/\(F6 N rk (l.take i)).2.length<=i/\(F6 N rk (l.take i)).1.length<=i*4000000) l.length
  ⟨0,1,Ajm,Ajm,by simp[upd,initS],Ajo,by simp[upd,F6];try rfl,by simp[upd,F6,Am],Ajo,Ajo,Ajo,Xs,Ajq,by rw[Ap],by simp[F6,Own.nil],by simp[F6],by simp[F6]⟩ ?_
 rintro m s σ' ⟨i,i6,rfl,hi,h0,h3,h5,h6,br,bq,bp,hK,b2,au,hO,bh,a9⟩;have be:=hK.nobj;by_cases b3:i<l.length
 ·have ac:=List.getElem?_eq_getElem b3;obtain⟨hm,ih,id,bb,r,hb,hd⟩:=En hE ac;have bv:=Ah6 b3;generalize l[i]=x at hd ac hb hm bv;have HS:Ajs _:=kX (N:=N) (rk:=rk) ac;generalize cp:F6 N rk (l.take i)=T at*
  clear ac cp;obtain⟨T1,T2⟩:=T;simp only at h5 h6 hO bh a9;cases ap:x.out with
  |false=>
   rw[ap]at hd;have HN:Ajs (F6 N rk (l.take (i+1))=(T1,T2)):=by rw[Ajs,HS.out,Iq,if_neg (by simp[ap])]
   clear ap HS
   repeat' (first|refine Z1 ?_|(refine Z8 ?_;intro κ hκ)|(refine Z4 ?_;clear hκ κ)|(refine Z2 ?_ ?_<;>intro h af<;>try exact Xp)|(refine Z6 ?_;intro idn σn ak am ad ab ae aa)|refine Z7 ?_|exact⟨⟩|(apply hκ.out;clear hκ κ))
   refine⟨l.length-(i+1),Ajm,i+1,i6,?_⟩;rw[HN.out];refine⟨rfl,Ajm,rfl,rfl,by simp,(hK.new _).put hK.nobj _,Ajm,Own.put (Own.new hO _) _ _,Agj bh (Agm i),?_⟩;exact Agj a9 (Agn _ (Agm i))
  |true=>
   rw[ap]at hd;have cm:=Ai0.2 hm;have ax:=fun σ=>Ft ((N.idxOf x.head.pred:Nat):Int) T2 i6 Ajm σ;have c7:=Bn T2;by_cases aw:((N.idxOf x.head.pred:Nat):Int)∈T2
   ·have HN:Ajs (F6 N rk (l.take (i+1))=(T1,T2)):=by rw[Ajs,HS.out,Iq,if_neg (by simp[aw])]
    rw[if_pos aw]at ax;have ch:(((T2.idxOf ((N.idxOf x.head.pred:Nat):Int):Nat):Int) != -1)=true:=by simp
    generalize T2.idxOf ((N.idxOf x.head.pred:Nat):Int)=q at ax ch;clear ap HS aw
    repeat' (first|refine Z1 ?_|(refine Z8 ?_;intro κ hκ)|(refine Z4 ?_;clear hκ κ)|(refine Z2 ?_ ?_<;>intro h af<;>try exact Xp)|(refine Z6 ?_;intro idn σn ak am ad ab ae aa)|(refine Z5 ?_;refine Xi (ax _) ?_;rintro _ _ ⟨rfl,ai⟩;(have bc:=((hK.new _).put hK.nobj _).trans ai;have aj:=ai.nobj;have ah:=ai.obj;simp only[Ab,Aa]at aj ah;have bo:=Own.keep (Own.put (Own.new hO _) _ _) ai))|refine Z7 ?_|exact⟨⟩|(apply hκ.out;clear hκ κ))
    rename_i σ2;have a8:σ2.obj σ.nobj=[sl idb N.length (N.map str),sl idi l.length cs]:=by rw[ah _ Ajm,Ai Ajm,Ag Ajm,au]
    refine⟨l.length-(i+1),Ajm,i+1,i6,?_⟩;rw[HN.out];refine⟨rfl,Ajm,rfl,rfl,by simp,Ajm,bo,Agj bh (Agm i),?_⟩;exact Agj a9 (Agn _ (Agm i))
   ·rw[if_neg aw]at ax;have a6:M[N.idxOf x.head.pred]?=some (M[N.idxOf x.head.pred]'Ajm):=List.getElem?_eq_getElem Ajm;generalize M[N.idxOf x.head.pred]'Ajm=y at a6;have av:=Agp a6;have db:=G8 a6;have b5:=fun σ=>iN y.2 y.1 (hM.t3 y av) (hM.ln y av) σ;have HN:Ajs (∀L,L.Perm y.2->Ju L->F6 N rk (l.take (i+1))=(T1++L.flatMap (Hy x.head.pred),T2++[((N.idxOf x.head.pred:Nat):Int)])):=fun L h1 h2=>by
     rw[HS.out,Iq,if_pos ⟨ap,aw⟩];have:rk (N.idxOf x.head.pred)=L:=by rw[cy.out,show Ay M ((N.idxOf x.head.pred:Nat):Int)=y.2 by simp[Ay,a6],pO (hM.t3 y av) h1 h2]
     rw[this]
    have ci:(N.map str).drop (N.idxOf x.head.pred)=str x.head.pred::(N.map str).drop (N.idxOf x.head.pred+1):=by
     rw[Ahl (by simpa using cm)];simp
    have c9:=cq x bv;have ce:=hM.ln y av;have cd:=bl y av;have cf:=hM.t3 y av;generalize (N.map str).drop (N.idxOf x.head.pred+1)=rest at ci;generalize cg:N.idxOf x.head.pred=ix at*
    generalize x.head.pred=nm at*
    clear ap HS aw cg a6;have a3:σ'.obj om=[fx ot 0 M.length,ic d,ic b]:=by rw[hK.obj _ lo,b1]
    have az:σ'.obj ot=Fg M:=by rw[hK.obj _ lt,b0]
    repeat' (first|refine Z1 ?_|(refine Z8 ?_;intro κ hκ)|(refine Z4 ?_;clear hκ κ)|(refine Z2 ?_ ?_<;>intro h af<;>try exact Xp)|(refine Z6 ?_;intro idn σn ak am ad ab ae aa)|(refine Z5 ?_;first|(refine Xi (ax _) ?_;rintro _ _ ⟨rfl,ai⟩;(have bc:=((hK.new _).put hK.nobj _).trans ai;have aj:=ai.nobj;have ah:=ai.obj;simp only[Ab,Aa]at aj ah;have bo:=Own.keep (Own.put (Own.new hO _) _ _) ai;have a4:=bc.obj om lo;rw[b1]at a4;have a0:=bc.obj ot lt;rw[b0]at a0;have a8:=ah σ.nobj Ajm;rw[Ai Ajm,Ag Ajm,au]at a8))|(refine Xi (b5 _) ?_;rintro _ _ ⟨idr,L,rfl,ba,cr,a7⟩;(have b9:=am.trans a7;have bd:=a7.nobj;have ay:=a7.obj;have b6:=Own.keep ak a7;have c5:Ajs _:=HN.out L ba cr)))|refine Z7 ?_|exact⟨⟩|(apply hκ.out;clear hκ κ))
    rename_i σ2 _ σ3;have bu:σ3.obj σ.nobj=[sl idb N.length (N.map str),sl idi l.length cs]:=by rw[ay _ Ajm,ad,a8]
    have dk:L.length<=5000:=by rw[ba.length_eq];exact ce
    have b8:T3 L:=fun u hu=>cf u (ba.subset hu);have ct:∀u∈L,∀z∈u,-1<=z/\z<=9999:=fun u hu=>cd u (ba.subset hu);have c8:=E7 b8
    refine Af (fun m s σ4=>∃(j:Nat) (W:Tx),m=L.length-j/\j<=L.length/\s 0=ptr om 0/\s 3=ptr σ.nobj 0/\s 5=str W/\s 6=sl idn (T2.length+1) (Am T2++[ic ix])/\s 9=ic ix/\s 14=sl idi l.length cs/\s 15=ic l.length/\s 16=ic i/\s 43=sl idr L.length (Dd L)/\s 44=ic L.length/\s 45=ic j/\Keep σ σ4/\σ.nobj<σ4.nobj/\σ4.obj σ.nobj=[sl idb N.length (N.map str),sl idi l.length cs]/\Own σ σ4 idn (T2.length+1)/\W.length<=i*4000000+j*700/\Ajs (W=T1++(L.take j).flatMap (Hy nm))) L.length
     ⟨0,T1,Ajm,Ajm,Ajn,Ajn,Ajn,Ajn,Ajn,Ajn,Ajn,Ajn,Ajn,Ajn,Ajo,b9,Ajm,bu,b6,Agj a9 (Nat.le_add_right _ _),by simp[Ajs]⟩ ?_
    clear h0 h3 h5 h6 br bq bp hK b2 au hO be a3 az bc aj ah bo a4 a0 a8 ak am ad ab ae aa a7 b9 bd ay b6 bu ax b5 ai;rintro m s σ4 ⟨j,W,rfl,hj,h0,h3,h5,h6,h9,br,bq,bp,cw,cv,cu,hK,b2,au,hO,co,hW⟩;have be:=hK.nobj;by_cases a5:j<L.length
    ·have ac:=List.getElem?_eq_getElem a5;obtain⟨an,r5,cn⟩:=Gj b8 ac;have bf:=ct _ (Ah6 a5);generalize L[j]=t at cn ac an bf;have cb:Ajs (∀W',W'=W++Hy nm t->W'=T1++(L.take (j+1)).flatMap (Hy nm)):=fun W' e=>by
      rw[e,hW.out,Agz,ac,Aia];simp
     have bn:=fun σ=>Xx t an bf σ;have bg:=vD an bf;clear ac hW;have f1:=Ds an;have f2:=H9 an;have f3:=D5 an;have f4:=Hz an;have f5:=Co t;have f6:=Pw an;generalize bz:aV t=px at bn bg;have cz:Ajs (Hy nm t=nm++[40]++px++[41,46]):=by rw[Ajs,Hy,bz]
     clear bz
     repeat' (first|refine Z1 ?_|(refine Z8 ?_;intro κ hκ)|(refine Z4 ?_;clear hκ κ)|(refine Z2 ?_ ?_<;>intro h af<;>try exact Xp)|(refine Z6 ?_;intro idn σn ak am ad ab ae aa)|refine Z7 ?_|exact⟨⟩|(apply hκ.out;clear hκ κ))
     have ca:Keep σ ((σ4.new [ic 0,ic 0,ic 0]).put σ4.nobj (Am t)):=(hK.new _).put hK.nobj _;generalize hσb:(σ4.new [ic 0,ic 0,ic 0]).put σ4.nobj (Am t)=σb at*
     have nb:σb.nobj=σ4.nobj+1:=by rw[<-hσb];rfl
     have o11:σb.obj σ4.nobj=Am t:=by rw[<-hσb,Ak]
     have o3:σb.obj σ.nobj=[sl idb N.length (N.map str),sl idi l.length cs]:=by rw[<-hσb,Ai Ajm,Ag Ajm,au]
     have b7:Own σ σb idn (T2.length+1):=by rw[<-hσb];exact Own.put (Own.new hO _) _ _
     clear hσb;refine Bu (Q:=fun e s' σ''=>e= .normal/\s' 0=ptr om 0/\s' 3=ptr σ.nobj 0/\s' 5=str (W++(nm++[40]++px++[41,46]))/\s' 6=sl idn (T2.length+1) (Am T2++[ic ix])/\s' 9=ic ix/\s' 14=sl idi l.length cs/\s' 15=ic l.length/\s' 16=ic i/\s' 43=sl idr L.length (Dd L)/\s' 44=ic L.length/\s' 45=ic j/\Keep σb σ'') ?_ ?_
     ·refine A2 Aj (fun _=>True) [] [0,1,2,3,4,5,6,7] 5 #[true,true,true,true,true,true,true,true,false,false,false,false,false] Ajp (fun _ _ _ h=>by cases h.1) ?_;intro κ hκ;refine Z7 ?_;refine hκ.out _ ?_;clear hκ κ;refine Ao (i:=8) Ajp ?_;refine Ar ?_;intro κ hκ;refine Z7 ?_;refine ACalls.mono (bn _) ?_;rintro _ σ5 ⟨rfl,ao⟩;refine Z7 ?_;refine hκ.out _ _ ⟨Aq ao,?_⟩;clear hκ κ;refine E6 [9,10,11,12] Ajp Ajp (fun _ _ _ h=>by cases h.1) ao.nobj (fun o ho _=>ao.ver o ho) ?_;intro κ hκ;refine Z7 ?_;refine hκ.out _ _ ⟨rfl,?_⟩;simp[upd, *]
     ·rintro e s' σ5 ⟨rfl,g0,g3,g5,g6,g9,g14,g15,g16,g43,g44,g45,ao⟩;have kn5:=ao.nobj;have o5:σ5.obj σ.nobj=[sl idb N.length (N.map str),sl idi l.length cs]:=by rw[ao.obj _ Ajm,o3]
      have dl:=ca.trans ao;have di:=Own.keep b7 ao;have cx:Ajs (W++(nm++[40]++px++[41,46])=T1++(L.take (j+1)).flatMap (Hy nm)):=cb.out _ (by rw[cz.out]);have c6:(W++(nm++[40]++px++[41,46])).length<=i*4000000+(j+1)*700:=by simp;omega
      clear h0 h3 h5 h6 h9 br bq bp cw cv cu ca o3 o11 b7 au hO hK be cb bn;generalize W++(nm++[40]++px++[41,46])=W2 at*
      repeat' (first|refine Z1 ?_|(refine Z8 ?_;intro κ hκ)|(refine Z4 ?_;clear hκ κ)|(refine Z2 ?_ ?_<;>intro h af<;>try exact Xp)|(refine Z6 ?_;intro idn σn ak am ad ab ae aa)|refine Z7 ?_|exact⟨⟩|(apply hκ.out;clear hκ κ))
      refine⟨L.length-(j+1),Ajm,j+1,W2,?_⟩
      ((repeat' with_reducible refine And.intro ?_ ?_)<;>first|exact Xq|exact (cx)|exact Xs)
    ·have ck:j=L.length:=Ajm;subst ck;have b4:=hW.out;rw[Agw]at b4
     repeat' (first|refine Z1 ?_|(refine Z8 ?_;intro κ hκ)|(refine Z4 ?_;clear hκ κ)|(refine Z2 ?_ ?_<;>intro h af<;>try exact Xp)|(refine Z6 ?_;intro idn σn ak am ad ab ae aa)|refine Z7 ?_|exact⟨⟩|(apply hκ.out;clear hκ κ))
     refine⟨l.length-(i+1),Ajm,i+1,idn,?_⟩;rw[c5.out];have bm:(T1++L.flatMap (Hy nm)).length<=(i+1)*4000000:=by
      rw[<-b4,Ag0];exact Agj co (Nat.add_le_add_left Ajm _)
     have bi:(T2++[(ix:Int)]).length=T2.length+1:=by simp
     refine⟨rfl,Ajm,rfl,?_,by simp,?_,?_,bm⟩
     ·show _=sl idn (T2++[(ix:Int)]).length (Am (T2++[(ix:Int)]));rw[bi,iP]
     ·show Own σ σ4 idn (T2++[(ix:Int)]).length;rw[bi];exact hO
     ·show (T2++[(ix:Int)]).length<=i+1;rw[bi];omega
 ·have hil:i=l.length:=Ajm;subst hil;rw[Agw]at h5
  repeat' (first|refine Z1 ?_|(refine Z8 ?_;intro κ hκ)|(refine Z4 ?_;clear hκ κ)|(refine Z2 ?_ ?_<;>intro h af<;>try exact Xp)|(refine Z6 ?_;intro idn σn ak am ad ab ae aa)|refine Z7 ?_|exact⟨⟩|(apply hκ.out;clear hκ κ))
  first|exact⟨_,rfl,rfl,hK⟩|exact⟨_,rfl,rfl⟩
theorem Oj {p:Nat->Bool}{n:Nat}(h:¬0<=Bj p n):∀i,i<n->p i=false:=by
 intro i hi;unfold Bj at h;split at h
 ·rename_i j hj;exact absurd (Aic j) h
 ·rename_i hn;have:=List.find?_range_eq_none.1 hn i hi;simpa using this
structure RtI (l:List RItem):Prop where
 odd:∀i,i<l.length->H6 l i=false
 saf:∀x∈l,F7 x=true
 kn:∀i,i<l.length->G1 l i=false
theorem wJ {l:List RItem}(h:(Ce l).1=0):RtI l:=by
 unfold Ce at h;split at h
 ·simp at h
 rename_i h1;split at h
 ·simp at h
 rename_i h2;split at h
 ·simp at h
 rename_i h3;refine⟨Oj h1,fun x hx=>?_,Oj h3⟩;obtain⟨i,hi⟩:=List.getElem?_of_mem hx;have:=Oj h2 i (List.getElem?_eq_some_iff.1 hi).1;unfold Ea at this;rw[hi]at this;simpa using this
theorem dA {t:Tx}{l:List RItem}(h:(Av t).1=0)(hp:Br 16 t= .got l []):t.length<=600/\(Ce l).1=0:=by
 unfold Av at h;split at h
 ·simp at h
 rename_i h1;split at h
 ·simp at h
 obtain⟨-,e,-,-⟩:=Iu Ajm hp;rw[e]at h;exact⟨Ajm,h⟩
theorem Vz {l:List RItem}(h:∀i,i<l.length->H6 l i=false)(hp:∀x∈l,∀a∈Ae x,0<a.terms.length):Dc (l.flatMap Ae):=by
 have key:∀i,i<=l.length->Dc (Dk l i):=by
  intro i;induction i with
  |zero=>intro _;simp[Dk,V0]
  |succ i ih=>
   intro hi;have hg:=List.getElem?_eq_getElem (show i<l.length by omega);generalize l[i]=x at hg;rw[Uw hg];have inner:∀j,j<=(Ae x).length->Dc (Dg l x i j):=by
    intro j;induction j with
    |zero=>intro _;simpa[Dg]using ih Ajm
    |succ j jh=>
     intro hj;have aa:=List.getElem?_eq_getElem (show j<(Ae x).length by omega);have hm:=Ah6 (show j<(Ae x).length by omega);generalize (Ae x)[j]=a at aa hm;rw[Ih aa];refine Hd (jh Ajm) (hp x (Agp hg) a hm) ?_;have h1:=h i Ajm;unfold H6 at h1;rw[hg]at h1;have h2:=Ah5.1 h1 j (by rw[List.mem_range];omega);unfold Rp at h2;rw[aa]at h2;simpa using h2
   exact inner _ (Agi _)
 have:=key l.length (Agi _);simpa[Dk]using this
theorem V1 {S:List RAtom}(h:Dc S){a b:RAtom}(ha:a∈S)(hb:b∈S):clash a b=false:=by
 unfold clash;by_cases e:b.pred=a.pred
 ·have h1:=(h a ha).2;have h2:=(h b hb).2;rw[e]at h2;simp[e];omega
 ·simp[e]
theorem zE {S:List RAtom}(h:Dc S):∀T,T<+:S->∀a∈S,T.any (clash a)=false:=fun T hT a ha=>by
 rw[Ah5];intro b hb;rw[V1 h ha (hT.subset hb)];simp
theorem Om:∀{F A:List RAtom},Dc A->(∀a∈F,0<a.terms.length)->L2 A F=false->Dc (A++F)
 |[],A,h,_,_=>by simpa using h
 |a::F,A,h,hp,ho=>by
  unfold L2 at ho;rw[Bool.or_eq_false_iff]at ho;have:=Om (F:=F) (A:=A++[a]) (Hd h (hp a (by simp)) ho.1) (fun b hb=>hp b (by simp[hb])) ho.2;simpa using this
theorem xJ:∀{F A:List RAtom},Dc (A++F)->L2 A F=false
 |[],A,_=>rfl
 |a::F,A,h=>by
  unfold L2;rw[Bool.or_eq_false_iff];refine⟨?_,xJ (by simpa using h)⟩;rw[Ah5];intro b hb;rw[V1 h (by simp) (by simp[hb])];simp
def arA (N:List Tx)(S:List RAtom)(k:Nat):Nat:=Fw S (N.getD k [])
theorem L6 {N:List Tx}{p:Tx}(h:p∈N):N.getD (N.idxOf p) []=p:=by
 have hl:=Ah9 h;rw[List.getD_eq_getElem?_getD,List.getElem?_eq_getElem hl,Aiy];exact Ah8 hl
theorem nQ {N:List Tx}{S:List RAtom}(hS:Dc S){a:RAtom}(ha:a∈S)(hm:a.pred∈N):a.terms.length=arA N S (N.idxOf a.pred):=by
 unfold arA;rw[L6 hm];exact (hS a ha).2
theorem qE {w:Tx}(hv:VT w)(hd:DT w):((Al w).1=true->0<=(Al w).2/\(Al w).2<26)/\((Al w).1=false->∃n:Nat,(Al w).2=(n:Int)/\n<1026):=by
 rcases hv with⟨b,rfl,hl⟩|⟨hn,ab⟩
 ·rw[D1 hl];unfold Bm at hl;simp at hl;exact⟨(fun _=>by simp only;omega),(fun h=>by cases h)⟩
 ·have aa:Ad w=false:=by
   cases w with
   |nil=>rfl
   |cons b r=>
    have:=ab b (by simp);unfold Ad A0 at*
    unfold Bm;simp at this⊢;omega
  have he:=K0 (.inr ⟨hn,ab⟩:VT w);rw[he,aa];refine⟨(fun h=>by cases h),fun _=>?_⟩;rcases hd with h|⟨-,-,h1,h2⟩
  ·rw[aa]at h;cases h
  ·exact⟨(Al w).2.toNat,Ajm,Ajm⟩
theorem fG {N N':List Tx}(h:N<+:N'){x:RItem}(hx:x.head.pred∈N/\∀a∈x.body,a.pred∈N):A4 N' x=A4 N x:=by
 unfold A4;congr 1
 ·unfold Ca;rw[Kt h hx.1]
 ·apply Ahx;intro a ha;unfold Dq Ca;rw[Kt h (hx.2 a ha)]
theorem Ad8 {N:List Tx}{S:List RAtom}{x:RItem}(hS:Dc S)(hA:∀a∈Ae x,a∈S)(hm:x.head.pred∈N/\∀a∈x.body,a.pred∈N)(ho:x.out=false)(hw:Cl x)(hv:∀a∈Ae x,VA a)(hd:∀a∈Ae x,∀w∈a.terms,DT w)(hs:F7 x=true)(hn:∀a∈x.body,a.nt=true->a.pred≠x.head.pred):RW N.length (arA N S) (A4 N x):=by
 have ac:∀a,a=x.head\/a∈x.body->a∈Ae x:=fun a ha=>by
  rcases ha with rfl|ha<;>simp[Ae,ho, *]
 obtain⟨w1,w2,w3,w4⟩:=hw.2.2 ho;have hb:∀l∈(A4 N x).body,∃a∈x.body,l=Dq N a:=fun l hl=>by
  obtain⟨a,ha,rfl⟩:=Ahv.1 hl;exact⟨a,ha,rfl⟩
 have ae:∀(ts:List Tx) (v:Int),(true,v)∈ts.map Al->∃w∈ts,(Al w).1=true/\(Al w).2=v:=fun ts v h=>by
  obtain⟨w,hw,e⟩:=Ahv.1 h;exact⟨w,hw,by rw[e],by rw[e]⟩
 have ab:∀a∈Ae x,∀w∈a.terms,_:=fun a ha w aa=>qE (hv a ha w aa) (hd a ha w aa);have aj:∀p∈N,N.idxOf p<N.length:=fun p hp=>Ah9 hp;refine⟨⟨by simp[A4,Ca];exact w1.2.2.1,⟨_,rfl,aj _ hm.1⟩,by simp[A4];omega,fun l hl=>?_,fun l hl=>?_⟩,fun l hl am=>?_,?_,fun l hl=>?_,fun t ht hc=>?_,fun v ad=>?_,fun l hl v ad=>?_,fun v ad=>?_⟩
 ·obtain⟨a,ha,rfl⟩:=hb l hl;simp[Dq,Ca];exact (w4 a ha).2.2.1
 ·obtain⟨a,ha,rfl⟩:=hb l hl;exact⟨_,rfl,aj _ (hm.2 a ha)⟩
 ·obtain⟨a,ha,rfl⟩:=hb l hl;intro e;simp only[Dq,Ca,A4]at e;exact hn a ha am (C2 (hm.2 a ha) hm.1 Ajm)
 ·simp only[A4,Ca,Aij,Ai4];exact nQ hS (hA _ (ac _ (.inl rfl))) hm.1
 ·obtain⟨a,ha,rfl⟩:=hb l hl;simp only[Dq,Ca,Aij,Ai4];exact nQ hS (hA _ (ac _ (.inr ha))) (hm.2 a ha)
 ·obtain⟨w,aa,rfl⟩:=Ahv.1 ht;exact (ab _ (ac _ (.inl rfl)) w aa).2 hc
 ·obtain⟨w,aa,e1,e2⟩:=ae _ v ad;rw[<-e2];exact (ab _ (ac _ (.inl rfl)) w aa).1 e1
 ·obtain⟨a,ha,rfl⟩:=hb l hl;obtain⟨w,aa,e1,e2⟩:=ae _ v ad;rw[<-e2];exact (ab _ (ac _ (.inr ha)) w aa).1 e1
 ·have hex:∃a∈Ae x,∃w∈a.terms,(Al w).1=true/\(Al w).2=v:=by
   rcases ad with h|⟨l,hl,-,h⟩
   ·obtain⟨w,h1,h2,h3⟩:=ae _ v (hasV_iff.1 h);exact⟨_,ac _ (.inl rfl),w,h1,h2,h3⟩
   ·obtain⟨a,ha,rfl⟩:=hb l hl;obtain⟨w,h1,h2,h3⟩:=ae _ v (hasV_iff.1 h);exact⟨a,ac _ (.inr ha),w,h1,h2,h3⟩
  obtain⟨a,ha,w,ai,e1,e2⟩:=hex;have ah:Me x w=true:=by
   unfold F7 at hs;simp only[Ai5]at hs;have h1:=Ah5.1 hs a ha;unfold zM at h1;simp only[Ahk,not_exists,not_and]at h1;have h2:=h1 w ai;unfold tP at h2;rw[<-K0 (hv a ha w ai),e1]at h2;simpa using h2
  unfold Me at ah;rw[Ahk]at ah;obtain⟨c,hc,ak⟩:=ah;rw[Ahk]at ak;obtain⟨u,hu,af⟩:=ak;simp only[Ags,Ai5,Ajk]at af;refine⟨Dq N c,Ahv.2 ⟨c,hc,rfl⟩,af.1,?_⟩;rw[hasV_iff];refine Ahv.2 ⟨u,hu,?_⟩;rw[af.2,<-e1,<-e2]
theorem Oa {T:Tx->Prop}(hT:∀s w r,Cj s= .got w r->T w):∀(n:Nat) (s:Tx) (F:List RAtom) (r:Tx),C0 n s= .got F r->∀a∈F,∀w∈a.terms,T w
 |n,[],F,r,h=>by
  rw[N9]at h;cases h;simp
 |0,b::s,F,r,h=>by cases h
 |n+1,b::s,F,r,h=>by
  rw[Jh]at h;cases h1:J4 (b::s)with
  |bad e=>rw[h1]at h;cases h
  |got x r1=>
   rw[h1]at h;simp only[Rd.bnd]at h;cases h2:C0 n r1 with
   |bad e=>rw[h2]at h;cases h
   |got xs r2=>
    rw[h2]at h;cases h;intro a ha;rcases Ahm.1 ha with rfl|ha
    ·unfold J4 at h1;cases h3:Da false (b::s)with
     |bad e=>rw[h3]at h1;cases h1
     |got a2 r3=>
      rw[h3]at h1;simp only[Rd.bnd]at h1;split at h1
      ·cases h4:Az 46 r3 with
       |bad e=>rw[h4]at h1;cases h1
       |got u r4=>
        rw[h4]at h1;cases h1;exact J7 hT h3
      ·cases h1
    ·exact Oa hT n r1 xs r h2 a ha
theorem Acb {σ0 σ σ':St}{om ot:Nat}{M M':MM}(hK:Keep σ0 σ)(h:KM om ot M M' σ σ')(hm:σ0.nobj<=om)(ht:σ0.nobj<=ot)(hM:∀x∈M,x.1=1\/σ0.ntop+2<=x.1):Keep σ0 σ':=
 ⟨Agj hK.nobj h.nobj,fun o ho=>by rw[h.obj o (Agk ho hK.nobj) Ajm Ajm];exact hK.obj o ho,fun o ho=>by rw[h.ver o (Agk ho hK.nobj) Ajm Ajm];exact hK.ver o ho,Agj hK.ntop h.ntop,fun k hk=>by
  rw[h.top k (Agk hk hK.ntop) (fun x hx=>by rcases hM x hx with e|e<;>omega)];exact hK.top k hk⟩
theorem Aae {N N':List Tx}(h:N<+:N'){l:List RItem}(hl:∀x∈l,x.head.pred∈N/\∀a∈x.body,a.pred∈N)(s:Nat):(Qd l s).map (A4 N')=(Qd l s).map (A4 N):=by
 apply Ahx;intro x hx;exact fG h (hl x (Aip.1 hx).1)
theorem cW {N N':List Tx}(h:N<+:N'){l:List RItem}(hl:∀x∈l,x.head.pred∈N/\∀a∈x.body,a.pred∈N)(B:Cu):∀s,PMi N' l B s=PMi N l B s
 |0=>rfl
 |s+1=>by
  show LstG _ _=LstG _ _;rw[Aae h hl,cW h hl B s]
theorem Yz {N N':List Tx}(h:N<+:N')(rk:Nat->List Bc):∀{l:List RItem} (acc:Tx×List Int),(∀x∈l,x.head.pred∈N)->l.foldl (Iq N' rk) acc=l.foldl (Iq N rk) acc
 |[],acc,_=>rfl
 |x::l,acc,hl=>by
  rw[Agv,Agv];have:Iq N' rk acc x=Iq N rk acc x:=by
   unfold Iq;rw[Kt h (hl x (by simp))]
  rw[this];exact Yz h rk _ (fun y hy=>hl y (by simp[hy]))
theorem Ht {N:List Tx}{l:List RItem}{cs:List AV}(h:EL (PI N) l cs):∀x∈l,x.head.pred∈N/\∀a∈x.body,a.pred∈N:=fun x hx=>by
 obtain⟨i,hi⟩:=List.getElem?_of_mem hx;obtain⟨hm,ih,id,b,r,hb,-⟩:=En h hi;refine⟨hm,fun a ha=>?_⟩;obtain⟨j,hj⟩:=List.getElem?_of_mem ha;obtain⟨c,r2,⟨hc,-⟩,-⟩:=EL.get Dt hb hj;exact hc
def jZ (l:List RItem)(F:List RAtom)(n:Int)(x:Tx)(k e:Int):Prop:=
 ∃(N:List Tx) (M M':MM) (d:Int),(∀y∈l,y.head.pred∈N/\∀a∈y.body,a.pred∈N)/\(∀a∈F,a.pred∈N)/\MkM N.length (F.map (Ca N)) M/\(∀z∈M',T3 z.2)/\FolI N l M n (l.length+1) M' d/\
  if n<d then x=[]/\k=0/\e=9 else x=O7 N (fun j=>Gx (Ay M' (j:Int))) l/\k=d/\e=0/\∀z∈M',∀u∈z.2,∀y∈u,-1<=y/\y<=9999
def K5 (t f:Tx)(n:Int)(x:Tx)(k e:Int):Prop:=
 if 600<t.length\/400<f.length then x=[]/\k=0/\e=1
 else if (Av t).1≠0 then x=[]/\k=0/\e=(Av t).1
 else if n<0\/200<n then x=[]/\k=0/\e=6
 else∃l,Br 16 t= .got l []/\if Hp l f≠0 then x=[]/\k=0/\e=Hp l f else∃F,C0 400 f= .got F []/\jZ l F n x k e
structure BkT (N:List Tx)(l:List RItem)(cs:List AV):Prop where
 bk:Bk N l cs
 nl:N.length<=600
 rt:RtI l
 va:∀x∈l,∀a∈Ae x,VA a
 dt:∀x∈l,∀a∈Ae x,∀w∈a.terms,DT w
 wi:∀x∈l,Cl x
 nn:∀x∈l,x.head.pred.length<=600
theorem BkT.cons {N:List Tx}{l:List RItem}{cs:List AV}(h:BkT N l cs):Dc (l.flatMap Ae):=Vz h.rt.odd h.bk.pos
theorem BkT.bkr {N N':List Tx}{l:List RItem}{cs:List AV}(h:BkT N l cs)(hN:N<+:N'){F:List RAtom}(hS:Dc (l.flatMap Ae++F)):BkR N l N'.length (arA N' (l.flatMap Ae++F)):=by
 have hn:=Ht h.bk.el;refine⟨hN.length_le,hn,h.rt.kn,fun x hx ho=>?_⟩;rw[<-fG hN (hn x hx)];refine Ad8 hS (fun a ha=>Ahs.2 (.inl (Ahr.2 ⟨x,hx,ha⟩))) ⟨hN.subset (hn x hx).1,fun a ha=>hN.subset ((hn x hx).2 a ha)⟩ ho (h.wi x hx) (h.va x hx) (h.dt x hx) (h.rt.saf x hx) (fun a ha hnt e=>?_);have:=Zp h.bk.out h.rt.kn h.bk.len hx ha hnt;rw[e]at this;exact Nat.lt_irrefl _ this
theorem Ach {N:List Tx}{S:List RAtom}(hS:Dc S){a:RAtom}(ha:a∈S)(hm:a.pred∈N)(hs:fC a=true)(hv:∀w∈a.terms,VT w/\DT w):Sh (arA N S) (N.idxOf a.pred) (Cs (Ca N a)):=by
 refine⟨(a.terms.map Al).map (·.2),rfl,?_,fun x hx=>?_⟩
 ·rw[Aij,Aij];exact nQ hS ha hm
 ·obtain⟨p,hp,rfl⟩:=Ahv.1 hx;obtain⟨w,hw,rfl⟩:=Ahv.1 hp;refine (qE (hv w hw).1 (hv w hw).2).2 ?_;unfold fC Hw at hs;rw[Ago]at hs;have:=hs (Al w) (Ahv.2 ⟨w,hw,rfl⟩);simpa using this
theorem Ad6 {ar:Nat->Nat}{k:Nat}{t:Bc}(h:Sh ar k t):∀y∈t,-1<=y/\y<=9999:=fun y hy=>by
 obtain⟨l,rfl,-,hl⟩:=h;have key:∀i:Nat,-1<=(l[i]?).getD (-1)/\(l[i]?).getD (-1)<=9999:=fun i=>by
  cases hi:l[i]? with
  |none=>simp
  |some z=>
   obtain⟨n,rfl,hn⟩:=hl z (Agp hi);simp;omega
 unfold C5 at hy;simp only[Ahm,Ah4,Ajl]at hy;rcases hy with rfl|rfl|rfl
 ·exact key 0
 ·exact key 1
 ·exact key 2
end Go.Proofs.YtmoeoppbmhfbpabGreatDoorL
