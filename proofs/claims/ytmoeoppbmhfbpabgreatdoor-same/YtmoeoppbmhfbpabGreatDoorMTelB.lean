import Derived.Test.YtmoeoppbmhfbpabGreatDoorMFacA
import Derived.Test.YtmoeoppbmhfbpabGreatDoorMNegC
import Derived.Test.YtmoeoppbmhfbpabGreatDoorLProgM
import Derived.Test.YtmoeoppbmhfbpabGreatDoorMFolB
import Derived.Test.YtmoeoppbmhfbpabGreatDoorMOptH
import Derived.Test.YtmoeoppbmhfbpabGreatDoorLSpaF
import Derived.Test.YtmoeoppbmhfbpabGreatDoorLRefA
import Derived.Test.YtmoeoppbmhfbpabGreatDoorLFacts
set_option maxHeartbeats 64000000
set_option maxRecDepth 100000
set_option linter.all false
namespace Go.Proofs.YtmoeoppbmhfbpabGreatDoorL
open Go.Abs
def Ju (l:List Bb):Prop:=l.Pairwise fun a b=>Fo b a=false
theorem pL {l:List Bb}{i:Nat}{t:Bb}(h3:T3 l)(ht:t.length=3)(hi:i<l.length):lsp (Dc l) (i*3) (Al t)=Dc (l.set i t):=by
 have hl:=E6 h3;have aa:=Dr ht;rw[Gk _ _ _ (by rw[aa,hl];omega),aa];have e:l=l.take i++l[i]::l.drop (i+1):=by rw[<-Ah0 hi,Aje]
 have e2:l.set i t=l.take i++t::l.drop (i+1):=by
  rw[List.set_eq_take_append_cons_drop,if_pos hi]
 have ac:(Dc (l.take i)).length=i*3:=by
  rw[E6 (fun x hx=>h3 x (Ajl hx)),Ahp,Ahu (Nat.le_of_lt hi)]
 have ab:=Dr (h3 _ (Ain hi));have e3:Dc l=Dc (l.take i)++(Al l[i]++Dc (l.drop (i+1))):=by
  unfold Dc
  conv=>lhs;rw[e]
  rw[List.flatMap_append,Aik]
 have e4:Dc (l.set i t)=Dc (l.take i)++(Al t++Dc (l.drop (i+1))):=by
  rw[e2];simp[Dc]
 rw[e4,e3,<-ac,List.take_left,Ahq];congr 1;congr 1;rw[show (Dc (l.take i)).length+3=(Dc (l.take i)).length+(Al l[i]).length by rw[ab],List.drop_length_add_append,List.drop_left]
structure Ins (acc:List Bb)(t:Bb)(A B:List Bb):Prop where
 eq:A++B=acc
 le:∀b∈B,Fo t b=true
theorem Ins.done {acc:List Bb}{t:Bb}{A B:List Bb}(h:Ins acc t A B)(hr:Ju acc)(h3:T3 acc)(ht:t.length=3)(hA:∀a,A.getLast?=some a->Fo t a=false):Ju (A++t::B)/\(A++t::B).Perm (acc++[t]):=by
 have ab:=hr;rw[<-h.eq]at ab h3;unfold Ju at ab;rw[List.pairwise_append]at ab;obtain⟨p1,p2,p3⟩:=ab;have ac:∀a∈A,Fo t a=false:=fun a ha=>by
  rcases List.eq_nil_or_concat A with e|⟨A',z,e⟩
  ·rw[e]at ha;cases ha
  ·rw[List.concat_eq_append]at e;have hz:=hA z (by rw[e];simp);rw[e]at ha p1;rcases Ah8.1 ha with aa|aa
   ·have h1:=(List.pairwise_append.1 p1).2.2 a aa z (by simp);exact Zz (h3 a (by rw[e];simp[aa])) (h3 z (by rw[e];simp)) ht h1 hz
   ·simp at aa;rw[aa];exact hz
 refine⟨?_,?_⟩
 ·unfold Ju;rw[List.pairwise_append,Ajz];refine⟨p1,⟨fun b hb=>Pr (h.le b hb),p2⟩,fun a ha b hb=>?_⟩;rcases Ah2.1 hb with rfl|hb
  ·exact ac a ha
  ·exact p3 a ha b hb
 ·rw[<-h.eq];exact List.perm_middle.trans ((List.perm_append_singleton t (A++B)).symm)
theorem Ac9 {P:Program}{t:TypeId}{b:Nat}{zc:List Value}{σ0 σ:St}{id2 n lo:Nat}{x:AV}{xs ys:List AV}{K:AV->St->Prop}(ht:Nm P t=some (3,b,zc))(hzc:zc.length=3)(hy:ys.length=3)(hf:ys.all Abs.flat=true)(hb:(n+1)*b<=140737488355328)(hl:n+1<=1099511627776)
  (ae:lo<=σ.nobj) (h0:σ0.nobj<=lo) (hK:Keep σ0 σ) (hx:PS lo σ x n xs) (h:∀o cap σ',PS lo σ' (Abs.gx o (n+1) cap) (n+1) (xs++ys)->σ.nobj<=σ'.nobj->(∀p,p<σ.nobj->(∀c,x≠Abs.gx p n c)->σ'.obj p=σ.obj p/\o≠p)->Keep σ0 σ'->K (Abs.gx o (n+1) cap) σ'):Ib P t t x (sl id2 1 ys) σ K:=by
 refine kA (xs:=xs) ht Aj6 hzc Aj6 hf Aj6 hb hl ?_ ?_ ?_
 ·rcases hx with h|⟨o,cap,h1,h2,h3,h4,h5,-,-⟩
  ·exact .inl h
  ·exact .inr ⟨o,cap,h1,h2,h3,h4,h5⟩
 ·rintro o cap cs ⟨c0,e1,e2,rfl⟩ ab aa;rcases hx with⟨rfl,-,-⟩|⟨o',cap',rfl,h2,h3,h4,h5,h6,h7⟩
  ·simp at e1
  ·simp at e1;obtain⟨rfl,rfl⟩:=e1;refine h _ _ _ (.inr ⟨_,_,rfl,Aj6,e2,by rw[Aj];exact ab,by rw[Aj];exact aa,h6,h7⟩) (Agn _) (fun p hp ad=>?_) (hK.put Aj6 _);have ac:p≠o':=fun e=>ad cap' (by rw[e]);exact⟨Cm ac,fun e=>ac e.symm⟩
 ·intro cap cs ab hc aa;exact h _ _ _ (.inr ⟨_,_,rfl,Aj6,hc,by rw[Ao];exact ab,by rw[Ao];exact aa,ae,Aka⟩) Aka (fun p hp _=>⟨Ag Aj6,Aj6⟩) (hK.new _)
theorem PS.tup {lo:Nat}{σ:St}{o cap n i:Nat}{L:List Bb}{t:Bb}(h:PS lo σ (Abs.gx o n cap) n (Dc L))(h3:T3 L)(hn:n=L.length)(hi:L[i]?=some t):∃r,(σ.obj o).drop (i*3)=Al t++r:=by
 obtain⟨o',cap',e,-,-,-,-,aa⟩:=h.gx (by have:=(Agy.1 hi).1;omega);simp at e;obtain⟨rfl,rfl⟩:=e;obtain⟨-,r,hd⟩:=Gi h3 hi;have hl:=E6 h3;have hil:=(Agy.1 hi).1;refine⟨r++(σ.obj o).drop (n*3),?_⟩
 conv=>lhs;rw[<-Aje (n*3) (σ.obj o),aa]
 rw[Ah9 (by rw[hl];omega),hd,Ahq]
theorem PS.len {lo:Nat}{σ:St}{o cap n:Nat}{pc:List AV}(h:PS lo σ (Abs.gx o n cap) n pc)(hn:0<n):(σ.obj o).length=cap*3/\n<=cap/\lo<=o/\o<σ.nobj:=by
 obtain⟨o',cap',e,h1,h2,h3,h4,-⟩:=h.gx hn;simp at e;obtain⟨rfl,rfl⟩:=e;exact⟨h3,h4,h1,h2⟩
theorem iS (l:List Bb)(idl:Nat)(h3:T3 l)(hl:l.length<=5000)(σ:St):ACalls Tryz.prog 86 [sl idl l.length (Dc l)] σ fun r σ'=>∃id L,r=sl id L.length (Dc L)/\L.Perm l/\Ju L/\Keep σ σ':=by
 have b5:=E6 h3;refine Z9 52 [.tmp 2] Tryz.func86 ?_
 repeat' (first|refine Z1 ?_|(refine Z8 ?_;intro yb ya)|(refine Z4 ?_;clear ya yb)|refine Z3 ?_|exact Zt|(apply ya.out;clear ya yb))
 refine Af (fun m s σ'=>∃(i:Nat) (X:AV) (L:List Bb),m=l.length-i/\i<=l.length/\s 3=X/\s 8=sl idl l.length (Dc l)/\s 9=ic l.length/\s 10=ic i/\Keep σ σ'/\PS σ.nobj σ' X L.length (Dc L)/\L.length<=5000/\Akc (L.Perm (l.take i)/\Ju L)) l.length
  ⟨0,nilS,[],Aj6,Aj6,Aj8,by simp[upd,initS],Aj8,Aj8,Xs,.inl ⟨rfl,rfl,rfl⟩,by simp,by simp,List.Pairwise.nil⟩ ?_
 rintro m s σ' ⟨i,X,L,rfl,hi,ap,h8,h9,ay,hK,hX,b9,hL⟩;have a4:=hK.nobj;by_cases bi:i<l.length
 ·have ad:=Agz bi;obtain⟨ab,r,hd⟩:=Gi h3 ad;generalize l[i]=t at hd ad ab;have b2:Akc (l.take (i+1)=l.take i++[t]):=by rw[Akc,Ahd,ad,Ais]
  have ax:T3 L:=fun x hx=>h3 x (Ajl (hL.out.1.subset hx));have bu:L.length=i:=by have:=hL.out.1.length_eq;rw[Ahp,Ahu hi]at this;exact this
  have br:L.length<=i:=Aj6;clear ad bu;have f1:=Dr ab;have f2:=H9 ab;have f3:=D4 ab;have f4:=Hz ab;have f5:=Cn t;have f6:=Pw ab;have bm:=hX.flat
  repeat' (first|refine Z1 ?_|(refine Z8 ?_;intro yb ya)|(refine Z4 ?_;clear ya yb)|(refine Z2 ?_ ?_<;>intro h ak<;>try exact Xp)|refine Z3 ?_|exact Zt)
  have ba:∀c,X≠gx σ'.nobj L.length c:=fun c e=>by
   rcases hX with⟨e2,-,-⟩|⟨o,cap,e2,-,-,-,-,-,h7⟩
   ·rw[e2]at e;simp at e
   ·rw[e2]at e;simp at e;omega
  refine Ac9 (lo:=σ.nobj) (σ0:=σ) (by first|exact Fw) (by rfl) f1 f5 Aj6 Aj6 (by simp only[Aw,Ab,Aa];omega) Aj6 (((hK.new _).put hK.nobj _).lay 1) (hX.keep ((((Keep.refl _).new _).put (Agn _) _).lay 1)) ?_;intro og cg σn aw a6 ai bb;simp only[Aw,Ab,Aa]at a6;obtain⟨ot5,av⟩:=ai σ'.nobj (by simp only[Aw,Ab,Aa];omega) ba;rw[Gl,Aj]at ot5;rw[<-Lp]at aw;clear ai ba hX bm;refine Z3 ?_
  repeat' (first|refine Z1 ?_|(refine Z8 ?_;intro yb ya)|(refine Z4 ?_;clear ya yb)|refine Z3 ?_|exact Zt|(apply ya.out;clear ya yb))
  refine Af (fun m s σ2=>∃(A B:List Bb),m=A.length/\s 3=gx og (L.length+1) cg/\s 5=ptr σ'.nobj 0/\s 6=ic A.length/\s 8=sl idl l.length (Dc l)/\s 9=ic l.length/\s 10=ic i/\Keep σ σ2/\σ'.nobj<σ2.nobj/\σ2.obj σ'.nobj=Al t/\PS σ.nobj σ2 (gx og (L.length+1) cg) (L.length+1) (Dc (A++t::B))/\Akc (Ins L t A B)) L.length
   ⟨L,[],rfl,Aj7,Aj7,Aj8,Aj7,Aj7,Aj7,bb,Aj6,ot5,aw,by simp,by simp⟩ ?_
  clear ap h8 h9 ay aw ot5 bb hK a4 a6;rintro m s σ2 ⟨A,B,rfl,ap,h5,h6,h8,h9,ay,hK,bh,ot5,hX,hI⟩;have a4:=hK.nobj;have bw:A.length+B.length=L.length:=by have:=congrArg List.length hI.out.eq;simpa using this
  have aa:(A++t::B).length=L.length+1:=by simp;omega
  have ac:T3 (A++t::B):=fun x hx=>by
   rcases Ah8.1 hx with h|h
   ·exact ax x (by rw[<-hI.out.eq];simp[h])
   ·rcases Ah2.1 h with rfl|h
    ·exact ab
    ·exact ax x (by rw[<-hI.out.eq];simp[h])
  obtain⟨xl1,xl2,xl3,xl4⟩:=hX.len Aj6;have HD:Akc ((∀a,A.getLast?=some a->Fo t a=false)->(A++t::B).Perm (l.take (i+1))/\Ju (A++t::B)):=fun hA=>by
   obtain⟨r1,r2⟩:=hI.out.done hL.out.2 ax ab hA;refine⟨?_,r1⟩;rw[b2.out];exact r2.trans (hL.out.1.append_right [t])
  rcases List.eq_nil_or_concat A with rfl|⟨A',u,bc⟩
  ·have HN:Akc (([]++t::B).Perm (l.take (i+1))/\Ju ([]++t::B)):=HD.out (by simp);have bp:PS σ.nobj σ2 (gx og (L.length+1) cg) ([]++t::B).length (Dc ([]++t::B)):=by rw[aa];exact hX
   have ca:s 6=ic 0:=h6;have b1:decide ((0:Int)<0)=false:=rfl;have b0:decide ((0:Int)>0)=false:=rfl;clear HD h6
   repeat' (first|refine Z1 ?_|refine Z3 ?_|exact Zt|(apply ya.out;clear ya yb))
   refine Bt (Q:=fun e s' σ''=>e= .normal/\s' 34=sc (.bool false)/\s' 3=gx og (L.length+1) cg/\s' 5=ptr σ'.nobj 0/\s' 8=sl idl l.length (Dc l)/\s' 9=ic l.length/\s' 10=ic i/\σ''=σ2) ?_ ?_
   ·refine A1 Ai (fun _=>True) [] [0,1,2,3,4,5,6,7,8,9,10,11] 2 #[true,true,true,true,true,true,true,true,true,true,true,true,false,false] Aj9 (fun _ _ _ h=>by cases h.1) ?_;intro yb ya;refine Z3 ?_;refine ya.out _ ?_;clear ya yb;refine Am (i:=12) Aj9 ?_;refine Aq ?_;intro yb ya;refine Z3 ?_;refine ya.out _ _ ⟨kept_refl,?_⟩;clear ya yb;refine E5 [13] Aj9 Aj9 (fun _ _ _ h=>by cases h.1) (Agn _) (fun o ho _=>rfl) ?_;intro yb ya;refine Z3 ?_;refine ya.out _ _ ⟨rfl,?_⟩;simp[upd, *]
   ·rintro e s' σ3 ⟨rfl,g34,g3,g5,g8,g9,g10,rfl⟩;refine E3 g34 ?_
    repeat' (first|refine Z1 ?_|(refine Z8 ?_;intro yb ya)|(refine Z4 ?_;clear ya yb)|refine Z3 ?_|exact Zt|(apply ya.out;clear ya yb))
    refine⟨l.length-(i+1),Aj6,i+1,gx og (L.length+1) cg,[]++t::B,?_⟩
    ((repeat' refine Zi ?_ ?_)<;>first|exact Xq|exact bp|exact HN|exact (by rw[aa];omega)|exact Xs)
  ·rw[List.concat_eq_append]at bc;subst bc;rw[show (A'++[u]).length=A'.length+1 by simp]at h6 bw;have a7:(A'++[u]++t::B)[A'.length]?=some u:=by simp
   have aj:(A'++[u]++t::B)[A'.length+1]?=some t:=by rw[Ahr (by simp)];simp
   obtain⟨r1,a9⟩:=hX.tup ac aa.symm a7;obtain⟨r2,a8⟩:=hX.tup ac aa.symm aj;have af:=ac u (by simp);have bq:=fun σ=>nD t u ab af σ;have a3:Akc (Fo t u=false->(A'++[u]++t::B).Perm (l.take (i+1))/\Ju (A'++[u]++t::B)):=fun h=>HD.out (fun a ha=>by simp at ha;subst ha;exact h)
   have a0:Akc (Fo t u=true->Ins L t A' (u::B)):=fun h=>⟨by rw[<-hI.out.eq];simp,fun b hb=>by
    rcases Ah2.1 hb with rfl|hb
    ·exact h
    ·exact hI.out.le b hb⟩
   have ao:Akc (((A'++[u]++t::B).set (A'.length+1) u).set A'.length t=A'++t::u::B):=by
    rw[Akc,List.set_append_right _ _ (by simp)];simp
   have a5:=pL (l:=A'++[u]++t::B) (i:=A'.length+1) (t:=u) ac af (by rw[aa];omega);have be:T3 ((A'++[u]++t::B).set (A'.length+1) u):=fun x hx=>by
    rcases Ajm hx with h|rfl
    ·exact ac x h
    ·exact af
   have au:=pL (l:=(A'++[u]++t::B).set (A'.length+1) u) (i:=A'.length) (t:=t) be ab (by rw[Ajr,aa];omega);rw[ao.out]at au;have bf:Akc (∀σ3,PS σ.nobj σ3 (gx og (L.length+1) cg) (L.length+1) (Dc (A'++[u]++t::B))->PS σ.nobj ((σ3.put og (lsp (σ3.obj og) ((A'.length+1)*3) (Al u))).put og (lsp (lsp (σ3.obj og) ((A'.length+1)*3) (Al u)) (A'.length*3) (Al t))) (gx og (L.length+1) cg) (L.length+1) (Dc (A'++t::u::B))):=fun σ3 h=>by
    have g1:=h.set (i:=A'.length+1) (c:=Al u) Aj6 (Dr af);rw[a5]at g1;have g2:=g1.set (i:=A'.length) (c:=Al t) Aj6 (Dr ab);rw[au,Aj]at g2;exact g2
   have k1:=Dr af;have k2:=H9 af;have k3:=D4 af;have k5:=Cn u;have k6:=Pw af;have an:PS σ.nobj σ2 (gx og (L.length+1) cg) (A'++[u]++t::B).length (Dc (A'++[u]++t::B)):=by rw[aa];exact hX
   have bg:((A'.length:Int)+1)-1=(A'.length:Int):=Aj6;have bz:s 6=ic ((A'.length:Int)+1):=by rw[h6];simp
   clear HD hI a7 aj a5 au be ao h6;generalize bd:A'.length=j at*
   have b3:Akc (A'.length=j):=bd;clear bd;have b1:decide ((0:Int)<(j:Int)+1)=true:=by rw[Aj3];omega
   have b0:decide ((j:Int)+1>0)=true:=by rw[Aj3];omega
   have b4:((j:Int)+1).toNat=j+1:=Aj6
   repeat' (first|refine Z1 ?_|refine Z3 ?_|exact Zt|(apply ya.out;clear ya yb))
   refine Bt (Q:=fun e s' σ''=>e= .normal/\s' 34=sc (.bool (Fo t u))/\s' 3=gx og (L.length+1) cg/\s' 5=ptr σ'.nobj 0/\s' 6=ic ((j:Int)+1)/\s' 8=sl idl l.length (Dc l)/\s' 9=ic l.length/\s' 10=ic i/\Keep σ2 σ'') ?_ ?_
   ·refine A1 Ai (fun _=>True) [] [0,1,2,3,4,5,6,7,8,9,10,11] 2 #[true,true,true,true,true,true,true,true,true,true,true,true,false,false] Aj9 (fun _ _ _ h=>by cases h.1) ?_;intro yb ya;refine Z3 ?_;refine ya.out _ ?_;clear ya yb;refine Am (i:=12) Aj9 ?_;refine Aq ?_;intro yb ya;refine Z3 ?_;refine ACalls.mono (bq _) ?_;rintro _ σ5 ⟨rfl,ae⟩;refine Z3 ?_;refine ya.out _ _ ⟨Ap ae,?_⟩;clear ya yb;refine E5 [13] Aj9 Aj9 (fun _ _ _ h=>by cases h.1) ae.nobj (fun o ho _=>ae.ver o ho) ?_;intro yb ya;refine Z3 ?_;refine ya.out _ _ ⟨rfl,?_⟩;simp[upd, *]
   ·rintro e s' σ5 ⟨rfl,g34,g3,g5,g6,g8,g9,g10,ae⟩;have kn5:=ae.nobj;have ah:=ae.obj;have oog:σ5.obj og=σ2.obj og:=ah _ xl4;have bo:(σ5.obj og).drop (j*3)=Al u++r1:=by rw[oog];exact a9
    have bn:(σ5.obj og).drop ((j+1)*3)=Al t++r2:=by rw[oog];exact a8
    have xl1':(σ5.obj og).length=cg*3:=by rw[oog];exact xl1
    have ot5':σ5.obj σ'.nobj=Al t:=by rw[ah _ bh];exact ot5
    have bv:=hK.trans ae;have az:Akc _:=bf.out σ5 (hX.keep ae);have am:=an.keep ae;clear ap h5 bz h8 h9 ay a9 a8 xl1 ot5 oog ah hX an bf;cases hb:Fo t u with
    |false=>
     have HN:Akc _:=a3.out hb;rw[hb]at g34;refine E3 g34 ?_;clear hb a3 a0
     repeat' (first|refine Z1 ?_|(refine Z8 ?_;intro yb ya)|(refine Z4 ?_;clear ya yb)|refine Z3 ?_|exact Zt|(apply ya.out;clear ya yb))
     refine⟨l.length-(i+1),Aj6,i+1,gx og (L.length+1) cg,A'++[u]++t::B,?_⟩
     ((repeat' refine Zi ?_ ?_)<;>first|exact Xq|exact am|exact HN|exact (by rw[aa];omega)|exact Xs)
    |true=>
     have HN:Akc _:=a0.out hb;rw[hb]at g34;refine F3 g34 ?_;clear hb a3 a0;have b7:j+1<L.length+1:=Aj6;have b6:∀c,(σ5.put og c).obj σ'.nobj=Al t:=fun c=>by rw[Cm (Ne.symm av)];exact ot5'
     have bl:(lsp (σ5.obj og) ((j+1)*3) (Al u)).length=cg*3:=by rw[Ix];exact xl1'
     have b8:j*3+3<=cg*3:=Aj6
     repeat' (first|refine Z1 ?_|(refine Z8 ?_;intro yb ya)|(refine Z4 ?_;clear ya yb)|refine Z3 ?_|exact Zt|(apply ya.out;clear ya yb))
     refine⟨A'.length,by simp,A',u::B,?_⟩
     ((repeat' refine Zi ?_ ?_)<;>first|exact Xq|exact az|exact HN|exact ((bv.put xl3 _).put xl3 _)|exact (by rw[b3.out])|exact (by rw[Cm (Ne.symm av),Cm (Ne.symm av)];exact ot5')|exact Xs)
 ·have hil:i=l.length:=Aj6;subst hil;obtain⟨e1,e2⟩:=hL.out;rw[Ag7]at e1;rcases hX with⟨rfl,hn,-⟩|⟨o,cap,rfl,g2,g3,g4,g5,g6,g7⟩
  ·have:L=[]:=Ag5 hn;subst this
   repeat' (first|refine Z1 ?_|(refine Z8 ?_;intro yb ya)|(refine Z4 ?_;clear ya yb)|(refine Z2 ?_ ?_<;>intro h ak<;>try exact Xp)|refine Z3 ?_|exact Zt|(apply ya.out;clear ya yb))
   exact⟨_,rfl,1,[],rfl,e1,e2⟩
  ·refine V8 (t:=3) (o:=o) (k:=L.length*3) g7 ap (by rw[g4];omega) ?_;rw[g5]
   repeat' (first|refine Z1 ?_|(refine Z8 ?_;intro yb ya)|(refine Z4 ?_;clear ya yb)|(refine Z2 ?_ ?_<;>intro h ak<;>try exact Xp)|refine Z3 ?_|exact Zt|(apply ya.out;clear ya yb))
   exact⟨_,rfl,0,L,rfl,e1,e2,hK.put g6 _⟩
theorem Ze:∀{L L':List Bb},T3 L->L.Perm L'->Ju L->Ju L'->L=L'
 |[],L',_,hp,_,_=>by rw[hp.nil_eq]
 |a::L,[],_,hp,_,_=>by have:=hp.length_eq;simp at this
 |a::L,b::L',h3,hp,h1,h2=>by
  unfold Ju at h1 h2;rw[Ajz]at h1 h2;have ab:T3 (b::L'):=fun x hx=>h3 x (hp.symm.subset hx);have aa:a=b:=by
   have ha:a∈b::L':=hp.subset (by simp);have hb:b∈a::L:=hp.symm.subset (by simp);rcases Ah2.1 ha with e|ha
   ·exact e
   ·rcases Ah2.1 hb with e|hb
    ·exact e.symm
    ·exact Ab9 (h3 a (by simp)) (ab b (by simp)) (h2.1 a ha) (h1.1 b hb)
  subst aa;rw[Ze (fun x hx=>h3 x (Ah5 _ hx)) (List.perm_cons a|>.1 hp) h1.2 h2.2]
def mS (t:Bb):List Bb->List Bb
 |[]=>[t]
 |u::l=>if Fo t u=true then t::u::l else u::mS t l
def Gx:List Bb->List Bb
 |[]=>[]
 |t::l=>mS t (Gx l)
theorem Q1 (t:Bb):∀l,(mS t l).Perm (t::l)
 |[]=>List.Perm.refl _
 |u::l=>by
  unfold mS;split
  ·exact List.Perm.refl _
  ·exact ((Q1 t l).cons u).trans (List.Perm.swap _ _ _)
theorem Km:∀l,(Gx l).Perm l
 |[]=>List.Perm.refl _
 |t::l=>(Q1 t _).trans ((Km l).cons t)
theorem aA {t:Bb}(ht:t.length=3):∀{l:List Bb},T3 l->Ju l->Ju (mS t l)
 |[],_,_=>by simp[mS,Ju]
 |u::l,h3,h=>by
  unfold Ju at h;rw[Ajz]at h;have hu:=h3 u (by simp);unfold mS;split
  ·rename_i hc;unfold Ju;rw[Ajz,Ajz];refine⟨fun x hx=>?_,h.1,h.2⟩;rcases Ah2.1 hx with rfl|hx
   ·exact Pr hc
   ·exact Zz ht hu (h3 x (Ah5 _ hx)) (Pr hc) (h.1 x hx)
  ·rename_i hc;have:=aA ht (fun x hx=>h3 x (Ah5 _ hx)) h.2;unfold Ju at this⊢;rw[Ajz];refine⟨fun x hx=>?_,this⟩;rcases Ah2.1 ((Q1 t l).subset hx)with rfl|hx
   ·simpa using hc
   ·exact h.1 x hx
theorem Nz:∀{l:List Bb},T3 l->Ju (Gx l)
 |[],_=>List.Pairwise.nil
 |t::l,h3=>aA (h3 t (by simp)) (fun x hx=>h3 x (Ah5 _ ((Km l).subset hx))) (Nz (fun x hx=>h3 x (Ah5 _ hx)))
theorem pT {L l:List Bb}(h3:T3 l)(hp:L.Perm l)(hr:Ju L):L=Gx l:=
 Ze (fun x hx=>h3 x (hp.subset hx)) (hp.trans (Km l).symm) hr (Nz h3)
def Hy (nm:Tx)(t:Bb):Tx:=nm++[40]++bA t++[41,46]
def Iq (N:List Tx)(rk:Nat->List Bb)(acc:Tx×List Int)(x:RItem):Tx×List Int:=
 if x.out=true/\((N.idxOf x.head.pred:Nat):Int)∉acc.2 then (acc.1++(rk (N.idxOf x.head.pred)).flatMap (Hy x.head.pred),acc.2++[((N.idxOf x.head.pred:Nat):Int)])else acc
def F5 (N:List Tx)(rk:Nat->List Bb)(l:List RItem):Tx×List Int:=l.foldl (Iq N rk) ([],[])
def O7 (N:List Tx)(rk:Nat->List Bb)(l:List RItem):Tx:=(F5 N rk l).1
theorem lC {N:List Tx}{rk:Nat->List Bb}{l:List RItem}{i:Nat}{x:RItem}(h:l[i]?=some x):F5 N rk (l.take (i+1))=Iq N rk (F5 N rk (l.take i)) x:=by
 unfold F5;rw[Ahd,h,Ais,Aix];rfl
theorem vJ {t:Bb}(ht:t.length=3)(hb:∀y∈t,-1<=y/\y<=9999):(bA t).length<=60:=by
 have hl:(tups t).length<=3:=by
  unfold tups;have:=(List.takeWhile_prefix (fun x=>decide (x≠ -1)) (l:=t)).length_le;omega
 have hs:∀y∈tups t,0<=y/\y<=9999:=fun y hy=>by
  have h1:=(List.takeWhile_subset _ hy:y∈t);have h2:∀(l:List Int),y∈l.takeWhile (fun x=>decide (x≠ -1))->y≠ -1:=fun l=>by
   induction l with
   |nil=>intro h;cases h
   |cons z l ih=>
    intro h;rw[List.takeWhile_cons]at h;split at h
    ·rename_i hz;rcases Ah2.1 h with rfl|h
     ·simpa using hz
     ·exact ih h
    ·cases h
  have h3:=h2 t hy;have:=hb y h1;omega
 unfold bA;generalize tups t=l at hl hs
 match l,hl with
 |[],_=>simp[jn]
 |[a],_=>have:=Ho a (hs a (by simp)).1 (hs a (by simp)).2;simp[jn];omega
 |[a,b],_=>
  have h1:=Ho a (hs a (by simp)).1 (hs a (by simp)).2;have h2:=Ho b (hs b (by simp)).1 (hs b (by simp)).2;simp[jn];omega
 |[a,b,c],_=>
  have h1:=Ho a (hs a (by simp)).1 (hs a (by simp)).2;have h2:=Ho b (hs b (by simp)).1 (hs b (by simp)).2;have h3:=Ho c (hs c (by simp)).1 (hs c (by simp)).2;simp[jn];omega
theorem Sm (N:List Tx)(l:List RItem)(cs:List AV)(idb idi:Nat)(hB:Bk N l cs)(cp:∀x∈l,x.head.pred.length<=600)(om ot:Nat)(M:MM)(d b:Int)(db:N.length<=M.length)(bg:∀x∈M,∀t∈x.2,∀y∈t,-1<=y/\y<=9999)(σ:St)(hM:MOb σ om ot M d b):
  ACalls Tryz.prog 52 [ptr om 0,Bn N idb l idi cs] σ fun r σ'=>r=str (O7 N (fun k=>Gx (Ax M (k:Int))) l)/\Keep σ σ':=by
 have dc:=EL.length Dd hB.el;have ci:=hB.len;have di:=hB.nm;have hE:=hB.el;have lo:=hM.lo;have lt:=hM.lt;have bz:=hM.ob;have bw:=hM.oc;have hpl:=hM.pl;have c9:=G7 M;have de:({data:=#[40]}:ByteArray)=bs [40]:=rfl;have dd:({data:=#[41,46]}:ByteArray)=bs [41,46]:=rfl;have df:({data:=#[]}:ByteArray)=bs []:=rfl;generalize bu:(fun k:Nat=>Gx (Ax M (k:Int)))=rk;have cx:Akc (∀k:Nat,rk k=Gx (Ax M (k:Int))):=fun k=>by rw[<-bu]
 clear bu;unfold Bn;refine Z9 64 [.tmp 4] Tryz.func52 ?_
 repeat' (first|refine Z1 ?_|(refine Z8 ?_;intro yb ya)|(refine Z4 ?_;clear ya yb)|refine Z7 ?_|exact Zt|(apply ya.out;clear ya yb))
 refine Af (fun m s σ'=>∃(i i6:Nat),m=l.length-i/\i<=l.length/\s 0=ptr om 0/\s 3=ptr σ.nobj 0/\s 5=str (F5 N rk (l.take i)).1/\s 6=sl i6 (F5 N rk (l.take i)).2.length (Al (F5 N rk (l.take i)).2)/\s 14=sl idi l.length cs/\s 15=ic l.length/\s 16=ic i/\Keep σ σ'/\σ.nobj<σ'.nobj/\σ'.obj σ.nobj=[sl idb N.length (N.map str),sl idi l.length cs]/\Own σ σ' i6 (F5 N rk (l.take i)).2.length/\(F5 N rk (l.take i)).2.length<=i/\(F5 N rk (l.take i)).1.length<=i*4000000) l.length
  ⟨0,1,Aj6,Aj6,by simp[upd,initS],Aj8,by simp[upd,F5];try rfl,by simp[upd,F5,Al],Aj8,Aj8,Aj8,Xs,Aka,by rw[Ao],by simp[F5,Own.nil],by simp[F5],by simp[F5]⟩ ?_
 rintro m s σ' ⟨i,i6,rfl,hi,h0,h3,h5,h6,bo,bn,bm,hK,b0,aj,hO,be,a6⟩;have ba:=hK.nobj;by_cases b1:i<l.length
 ·have aa:=Agz b1;obtain⟨hm,ih,id,bb,r,hb,hd⟩:=Em hE aa;have br:=Ain b1;generalize l[i]=x at hd aa hb hm br;have HS:Akc _:=lC (N:=N) (rk:=rk) aa;generalize co:F5 N rk (l.take i)=T at*
  clear aa co;obtain⟨T1,T2⟩:=T;simp only at h5 h6 hO be a6;cases ai:x.out with
  |false=>
   rw[ai]at hd;have HN:Akc (F5 N rk (l.take (i+1))=(T1,T2)):=by rw[Akc,HS.out,Iq,if_neg (by simp[ai])]
   clear ai HS
   repeat' (first|refine Z1 ?_|(refine Z8 ?_;intro yb ya)|(refine Z4 ?_;clear ya yb)|(refine Z2 ?_ ?_<;>intro h ac<;>try exact Xp)|refine Z7 ?_|exact Zt|(apply ya.out;clear ya yb))
   refine⟨l.length-(i+1),Aj6,i+1,i6,?_⟩;rw[HN.out];refine⟨rfl,Aj6,rfl,rfl,by simp,(hK.new _).put hK.nobj _,Aj6,Own.put (Own.new hO _) _ _,Ago be (Agu i),?_⟩;exact Ago a6 (Agv _ (Agu i))
  |true=>
   rw[ai]at hd;have ck:=Ajj.2 hm;have an:=fun σ=>Fs ((N.idxOf x.head.pred:Nat):Int) T2 i6 Aj6 σ;have c6:=Bm T2;by_cases am:((N.idxOf x.head.pred:Nat):Int)∈T2
   ·have HN:Akc (F5 N rk (l.take (i+1))=(T1,T2)):=by rw[Akc,HS.out,Iq,if_neg (by simp[am])]
    rw[if_pos am]at an;have cg:(((T2.idxOf ((N.idxOf x.head.pred:Nat):Int):Nat):Int) != -1)=true:=by simp
    generalize T2.idxOf ((N.idxOf x.head.pred:Nat):Int)=q at an cg;clear ai HS am
    repeat' (first|refine Z1 ?_|(refine Z8 ?_;intro yb ya)|(refine Z4 ?_;clear ya yb)|(refine Z2 ?_ ?_<;>intro h ac<;>try exact Xp)|(refine Z5 ?_;refine Xi (an _) ?_;rintro _ _ ⟨rfl,ad⟩;(have a8:=((hK.new _).put hK.nobj _).trans ad;have ae:=ad.nobj;have ab:=ad.obj;simp only[Ab,Aa]at ae ab;have bl:=Own.keep (Own.put (Own.new hO _) _ _) ad))|refine Z7 ?_|exact Zt|(apply ya.out;clear ya yb))
    rename_i σ2;have a5:σ2.obj σ.nobj=[sl idb N.length (N.map str),sl idi l.length cs]:=by rw[ab _ Aj6,Ah Aj6,Ag Aj6,aj]
    refine⟨l.length-(i+1),Aj6,i+1,i6,?_⟩;rw[HN.out];refine⟨rfl,Aj6,rfl,rfl,by simp,Aj6,bl,Ago be (Agu i),?_⟩;exact Ago a6 (Agv _ (Agu i))
   ·rw[if_neg am]at an;have ay:M[N.idxOf x.head.pred]?=some (M[N.idxOf x.head.pred]'Aj6):=Agz Aj6;generalize M[N.idxOf x.head.pred]'Aj6=y at ay;have ak:=Ag1 ay;have da:=G8 ay;have b3:=fun σ=>iS y.2 y.1 (hM.t3 y ak) (hM.ln y ak) σ;have HN:Akc (∀L,L.Perm y.2->Ju L->F5 N rk (l.take (i+1))=(T1++L.flatMap (Hy x.head.pred),T2++[((N.idxOf x.head.pred:Nat):Int)])):=fun L h1 h2=>by
     rw[HS.out,Iq,if_pos ⟨ai,am⟩];have:rk (N.idxOf x.head.pred)=L:=by rw[cx.out,show Ax M ((N.idxOf x.head.pred:Nat):Int)=y.2 by simp[Ax,ay],pT (hM.t3 y ak) h1 h2]
     rw[this]
    have ch:(N.map str).drop (N.idxOf x.head.pred)=str x.head.pred::(N.map str).drop (N.idxOf x.head.pred+1):=by
     rw[Ah0 (by simpa using ck)];simp
    have c8:=cp x br;have cd:=hM.ln y ak;have cc:=bg y ak;have ce:=hM.t3 y ak;generalize (N.map str).drop (N.idxOf x.head.pred+1)=rest at ch;generalize cf:N.idxOf x.head.pred=ix at*
    generalize x.head.pred=nm at*
    clear ai HS am cf ay;have av:σ'.obj om=[fx ot 0 M.length,ic d,ic b]:=by rw[hK.obj _ lo,bz]
    have ap:σ'.obj ot=Ff M:=by rw[hK.obj _ lt,bw]
    repeat' (first|refine Z1 ?_|(refine Z8 ?_;intro yb ya)|(refine Z4 ?_;clear ya yb)|(refine Z2 ?_ ?_<;>intro h ac<;>try exact Xp)|(refine Z6 ?_;intro idn σn b5 b9 a0 a4 bp a3)|(refine Z5 ?_;first|(refine Xi (an _) ?_;rintro _ _ ⟨rfl,ad⟩;(have a8:=((hK.new _).put hK.nobj _).trans ad;have ae:=ad.nobj;have ab:=ad.obj;simp only[Ab,Aa]at ae ab;have bl:=Own.keep (Own.put (Own.new hO _) _ _) ad;have aw:=a8.obj om lo;rw[bz]at aw;have au:=a8.obj ot lt;rw[bw]at au;have a5:=ab σ.nobj Aj6;rw[Ah Aj6,Ag Aj6,aj]at a5))|(refine Xi (b3 _) ?_;rintro _ _ ⟨idr,L,rfl,a7,cq,az⟩;(have b8:=b9.trans az;have a9:=az.nobj;have ao:=az.obj;have b4:=Own.keep b5 az;have cz:Akc _:=HN.out L a7 cq)))|refine Z7 ?_|exact Zt|(apply ya.out;clear ya yb))
    rename_i σ2 _ σ3;have bq:σ3.obj σ.nobj=[sl idb N.length (N.map str),sl idi l.length cs]:=by rw[ao _ Aj6,a0,a5]
    have dj:L.length<=5000:=by rw[a7.length_eq];exact cd
    have b7:T3 L:=fun u hu=>ce u (a7.subset hu);have cr:∀u∈L,∀z∈u,-1<=z/\z<=9999:=fun u hu=>cc u (a7.subset hu);have c7:=E6 b7
    refine Af (fun m s σ4=>∃(j:Nat) (W:Tx),m=L.length-j/\j<=L.length/\s 0=ptr om 0/\s 3=ptr σ.nobj 0/\s 5=str W/\s 6=sl idn (T2.length+1) (Al T2++[ic ix])/\s 9=ic ix/\s 14=sl idi l.length cs/\s 15=ic l.length/\s 16=ic i/\s 43=sl idr L.length (Dc L)/\s 44=ic L.length/\s 45=ic j/\Keep σ σ4/\σ.nobj<σ4.nobj/\σ4.obj σ.nobj=[sl idb N.length (N.map str),sl idi l.length cs]/\Own σ σ4 idn (T2.length+1)/\W.length<=i*4000000+j*700/\Akc (W=T1++(L.take j).flatMap (Hy nm))) L.length
     ⟨0,T1,Aj6,Aj6,Aj7,Aj7,Aj7,Aj7,Aj7,Aj7,Aj7,Aj7,Aj7,Aj7,Aj8,b8,Aj6,bq,b4,Ago a6 (Nat.le_add_right _ _),by simp[Akc]⟩ ?_
    clear h0 h3 h5 h6 bo bn bm hK b0 aj hO ba av ap a8 ae ab bl aw au a5 b5 b9 a0 a4 bp a3 az b8 a9 ao b4 bq an b3 ad;rintro m s σ4 ⟨j,W,rfl,hj,h0,h3,h5,h6,h9,bo,bn,bm,cv,cu,ct,hK,b0,aj,hO,cn,hW⟩;have ba:=hK.nobj;by_cases ax:j<L.length
    ·have aa:=Agz ax;obtain⟨af,r5,cm⟩:=Gi b7 aa;have bc:=cr _ (Ain ax);generalize L[j]=t at cm aa af bc;have cb:Akc (∀W',W'=W++Hy nm t->W'=T1++(L.take (j+1)).flatMap (Hy nm)):=fun W' e=>by
      rw[e,hW.out,Ahd,aa,Ais];simp
     have bi:=fun σ=>Xx t af bc σ;have bd:=vJ af bc;clear aa hW;have f1:=Dr af;have f2:=H9 af;have f3:=D4 af;have f4:=Hz af;have f5:=Cn t;have f6:=Pw af;generalize bv:bA t=px at bi bd;have cy:Akc (Hy nm t=nm++[40]++px++[41,46]):=by rw[Akc,Hy,bv]
     clear bv
     repeat' (first|refine Z1 ?_|(refine Z8 ?_;intro yb ya)|(refine Z4 ?_;clear ya yb)|(refine Z2 ?_ ?_<;>intro h ac<;>try exact Xp)|refine Z7 ?_|exact Zt|(apply ya.out;clear ya yb))
     have ca:Keep σ ((σ4.new [ic 0,ic 0,ic 0]).put σ4.nobj (Al t)):=(hK.new _).put hK.nobj _;generalize hσb:(σ4.new [ic 0,ic 0,ic 0]).put σ4.nobj (Al t)=σb at*
     have nb:σb.nobj=σ4.nobj+1:=by rw[<-hσb];rfl
     have o11:σb.obj σ4.nobj=Al t:=by rw[<-hσb,Aj]
     have o3:σb.obj σ.nobj=[sl idb N.length (N.map str),sl idi l.length cs]:=by rw[<-hσb,Ah Aj6,Ag Aj6,aj]
     have b6:Own σ σb idn (T2.length+1):=by rw[<-hσb];exact Own.put (Own.new hO _) _ _
     clear hσb;refine Bt (Q:=fun e s' σ''=>e= .normal/\s' 0=ptr om 0/\s' 3=ptr σ.nobj 0/\s' 5=str (W++(nm++[40]++px++[41,46]))/\s' 6=sl idn (T2.length+1) (Al T2++[ic ix])/\s' 9=ic ix/\s' 14=sl idi l.length cs/\s' 15=ic l.length/\s' 16=ic i/\s' 43=sl idr L.length (Dc L)/\s' 44=ic L.length/\s' 45=ic j/\Keep σb σ'') ?_ ?_
     ·refine A1 Ai (fun _=>True) [] [0,1,2,3,4,5,6,7] 5 #[true,true,true,true,true,true,true,true,false,false,false,false,false] Aj9 (fun _ _ _ h=>by cases h.1) ?_;intro yb ya;refine Z7 ?_;refine ya.out _ ?_;clear ya yb;refine Am (i:=8) Aj9 ?_;refine Aq ?_;intro yb ya;refine Z7 ?_;refine ACalls.mono (bi _) ?_;rintro _ σ5 ⟨rfl,ah⟩;refine Z7 ?_;refine ya.out _ _ ⟨Ap ah,?_⟩;clear ya yb;refine E5 [9,10,11,12] Aj9 Aj9 (fun _ _ _ h=>by cases h.1) ah.nobj (fun o ho _=>ah.ver o ho) ?_;intro yb ya;refine Z7 ?_;refine ya.out _ _ ⟨rfl,?_⟩;simp[upd, *]
     ·rintro e s' σ5 ⟨rfl,g0,g3,g5,g6,g9,g14,g15,g16,g43,g44,g45,ah⟩;have kn5:=ah.nobj;have o5:σ5.obj σ.nobj=[sl idb N.length (N.map str),sl idi l.length cs]:=by rw[ah.obj _ Aj6,o3]
      have dk:=ca.trans ah;have dh:=Own.keep b6 ah;have cw:Akc (W++(nm++[40]++px++[41,46])=T1++(L.take (j+1)).flatMap (Hy nm)):=cb.out _ (by rw[cy.out]);have c5:(W++(nm++[40]++px++[41,46])).length<=i*4000000+(j+1)*700:=by simp;omega
      clear h0 h3 h5 h6 h9 bo bn bm cv cu ct ca o3 o11 b6 aj hO hK ba cb bi;generalize W++(nm++[40]++px++[41,46])=W2 at*
      repeat' (first|refine Z1 ?_|(refine Z8 ?_;intro yb ya)|(refine Z4 ?_;clear ya yb)|refine Z7 ?_|exact Zt|(apply ya.out;clear ya yb))
      refine⟨L.length-(j+1),Aj6,j+1,W2,?_⟩
      ((repeat' refine Zi ?_ ?_)<;>first|exact Xq|exact cw|exact Xs)
    ·have cj:j=L.length:=Aj6;subst cj;have b2:=hW.out;rw[Ag7]at b2
     repeat' (first|refine Z1 ?_|(refine Z8 ?_;intro yb ya)|(refine Z4 ?_;clear ya yb)|(refine Z2 ?_ ?_<;>intro h ac<;>try exact Xp)|refine Z7 ?_|exact Zt|(apply ya.out;clear ya yb))
     refine⟨l.length-(i+1),Aj6,i+1,idn,?_⟩;rw[cz.out];have bh:(T1++L.flatMap (Hy nm)).length<=(i+1)*4000000:=by
      rw[<-b2,Ahe];exact Ago cn (Nat.add_le_add_left Aj6 _)
     have bf:(T2++[(ix:Int)]).length=T2.length+1:=by simp
     refine⟨rfl,Aj6,rfl,?_,by simp,?_,?_,bh⟩
     ·show _=sl idn (T2++[(ix:Int)]).length (Al (T2++[(ix:Int)]));rw[bf,iU]
     ·show Own σ σ4 idn (T2++[(ix:Int)]).length;rw[bf];exact hO
     ·show (T2++[(ix:Int)]).length<=i+1;rw[bf];omega
 ·have hil:i=l.length:=Aj6;subst hil;rw[Ag7]at h5
  repeat' (first|refine Z1 ?_|(refine Z8 ?_;intro yb ya)|(refine Z4 ?_;clear ya yb)|(refine Z2 ?_ ?_<;>intro h ac<;>try exact Xp)|refine Z7 ?_|exact Zt|(apply ya.out;clear ya yb))
  first|exact⟨_,rfl,rfl,hK⟩|exact⟨_,rfl,rfl⟩
theorem Oj {p:Nat->Bool}{n:Nat}(h:¬0<=Bh p n):∀i,i<n->p i=false:=by
 intro i hi;unfold Bh at h;split at h
 ·rename_i j hj;exact absurd (Aiu j) h
 ·rename_i hn;have:=List.find?_range_eq_none.1 hn i hi;simpa using this
structure RtI (l:List RItem):Prop where
 odd:∀i,i<l.length->H6 l i=false
 saf:∀x∈l,F6 x=true
 kn:∀i,i<l.length->G1 l i=false
theorem wO {l:List RItem}(h:(Cd l).1=0):RtI l:=by
 unfold Cd at h;split at h
 ·simp at h
 rename_i h1;split at h
 ·simp at h
 rename_i h2;split at h
 ·simp at h
 rename_i h3;refine⟨Oj h1,fun x hx=>?_,Oj h3⟩;obtain⟨i,hi⟩:=Aif hx;have:=Oj h2 i (Agy.1 hi).1;unfold D9 at this;rw[hi]at this;simpa using this
theorem dF {t:Tx}{l:List RItem}(h:(As t).1=0)(hp:Bq 16 t= .got l []):t.length<=600/\(Cd l).1=0:=by
 unfold As at h;split at h
 ·simp at h
 rename_i h1;split at h
 ·simp at h
 obtain⟨-,e,-,-⟩:=Iu Aj6 hp;rw[e]at h;exact⟨Aj6,h⟩
theorem Vz {l:List RItem}(h:∀i,i<l.length->H6 l i=false)(hp:∀x∈l,∀a∈Ae x,0<a.terms.length):Db (l.flatMap Ae):=by
 have key:∀i,i<=l.length->Db (Dj l i):=by
  intro i;induction i with
  |zero=>intro _;simp[Dj,V0]
  |succ i ih=>
   intro hi;have hg:=Agz (show i<l.length by omega);generalize l[i]=x at hg;rw[Uw hg];have inner:∀j,j<=(Ae x).length->Db (Df l x i j):=by
    intro j;induction j with
    |zero=>intro _;simpa[Df]using ih Aj6
    |succ j jh=>
     intro hj;have aa:=Agz (show j<(Ae x).length by omega);have hm:=Ain (show j<(Ae x).length by omega);generalize (Ae x)[j]=a at aa hm;rw[Ih aa];refine Hd (jh Aj6) (hp x (Ag1 hg) a hm) ?_;have h1:=h i Aj6;unfold H6 at h1;rw[hg]at h1;have h2:=Aim.1 h1 j (by rw[List.mem_range];omega);unfold Rp at h2;rw[aa]at h2;simpa using h2
   exact inner _ (Agn _)
 have:=key l.length (Agn _);simpa[Dj]using this
theorem V1 {S:List RAtom}(h:Db S){a b:RAtom}(ha:a∈S)(hb:b∈S):clash a b=false:=by
 unfold clash;by_cases e:b.pred=a.pred
 ·have h1:=(h a ha).2;have h2:=(h b hb).2;rw[e]at h2;simp[e];omega
 ·simp[e]
theorem zJ {S:List RAtom}(h:Db S):∀T,T<+:S->∀a∈S,T.any (clash a)=false:=fun T hT a ha=>by
 rw[Aim];intro b hb;rw[V1 h ha (hT.subset hb)];simp
theorem Om:∀{F A:List RAtom},Db A->(∀a∈F,0<a.terms.length)->L2 A F=false->Db (A++F)
 |[],A,h,_,_=>by simpa using h
 |a::F,A,h,hp,ho=>by
  unfold L2 at ho;rw[Bool.or_eq_false_iff]at ho;have:=Om (F:=F) (A:=A++[a]) (Hd h (hp a (by simp)) ho.1) (fun b hb=>hp b (by simp[hb])) ho.2;simpa using this
theorem xO:∀{F A:List RAtom},Db (A++F)->L2 A F=false
 |[],A,_=>rfl
 |a::F,A,h=>by
  unfold L2;rw[Bool.or_eq_false_iff];refine⟨?_,xO (by simpa using h)⟩;rw[Aim];intro b hb;rw[V1 h (by simp) (by simp[hb])];simp
def arA (N:List Tx)(S:List RAtom)(k:Nat):Nat:=Fv S (N.getD k [])
theorem L6 {N:List Tx}{p:Tx}(h:p∈N):N.getD (N.idxOf p) []=p:=by
 have hl:=Air h;rw[List.getD_eq_getElem?_getD,Agz hl,Ajh];exact Aiq hl
theorem nV {N:List Tx}{S:List RAtom}(hS:Db S){a:RAtom}(ha:a∈S)(hm:a.pred∈N):a.terms.length=arA N S (N.idxOf a.pred):=by
 unfold arA;rw[L6 hm];exact (hS a ha).2
theorem qJ {w:Tx}(hv:VT w)(hd:DT w):((Ak w).1=true->0<=(Ak w).2/\(Ak w).2<26)/\((Ak w).1=false->∃n:Nat,(Ak w).2=(n:Int)/\n<1026):=by
 rcases hv with⟨b,rfl,hl⟩|⟨hn,ab⟩
 ·rw[Dz hl];unfold Bl at hl;simp at hl;exact⟨(fun _=>by simp only;omega),(fun h=>by cases h)⟩
 ·have aa:Ad w=false:=by
   cases w with
   |nil=>rfl
   |cons b r=>
    have:=ab b (by simp);unfold Ad Az at*
    unfold Bl;simp at this⊢;omega
  have he:=K0 (.inr ⟨hn,ab⟩:VT w);rw[he,aa];refine⟨(fun h=>by cases h),fun _=>?_⟩;rcases hd with h|⟨-,-,h1,h2⟩
  ·rw[aa]at h;cases h
  ·exact⟨(Ak w).2.toNat,Aj6,Aj6⟩
theorem fL {N N':List Tx}(h:N<+:N'){x:RItem}(hx:x.head.pred∈N/\∀a∈x.body,a.pred∈N):A3 N' x=A3 N x:=by
 unfold A3;congr 1
 ·unfold B9;rw[Kt h hx.1]
 ·apply Aid;intro a ha;unfold Dp B9;rw[Kt h (hx.2 a ha)]
theorem Aed {N:List Tx}{S:List RAtom}{x:RItem}(hS:Db S)(hA:∀a∈Ae x,a∈S)(hm:x.head.pred∈N/\∀a∈x.body,a.pred∈N)(ho:x.out=false)(hw:Ck x)(hv:∀a∈Ae x,VA a)(hd:∀a∈Ae x,∀w∈a.terms,DT w)(hs:F6 x=true)(hn:∀a∈x.body,a.nt=true->a.pred≠x.head.pred):RW N.length (arA N S) (A3 N x):=by
 have ac:∀a,a=x.head\/a∈x.body->a∈Ae x:=fun a ha=>by
  rcases ha with rfl|ha<;>simp[Ae,ho, *]
 obtain⟨w1,w2,w3,w4⟩:=hw.2.2 ho;have hb:∀l∈(A3 N x).body,∃a∈x.body,l=Dp N a:=fun l hl=>by
  obtain⟨a,ha,rfl⟩:=Aib.1 hl;exact⟨a,ha,rfl⟩
 have ae:∀(ts:List Tx) (v:Int),(true,v)∈ts.map Ak->∃w∈ts,(Ak w).1=true/\(Ak w).2=v:=fun ts v h=>by
  obtain⟨w,hw,e⟩:=Aib.1 h;exact⟨w,hw,by rw[e],by rw[e]⟩
 have ab:∀a∈Ae x,∀w∈a.terms,_:=fun a ha w aa=>qJ (hv a ha w aa) (hd a ha w aa);have aj:∀p∈N,N.idxOf p<N.length:=fun p hp=>Air hp;refine⟨⟨by simp[A3,B9];exact w1.2.2.1,⟨_,rfl,aj _ hm.1⟩,by simp[A3];omega,fun l hl=>?_,fun l hl=>?_⟩,fun l hl am=>?_,?_,fun l hl=>?_,fun t ht hc=>?_,fun v ad=>?_,fun l hl v ad=>?_,fun v ad=>?_⟩
 ·obtain⟨a,ha,rfl⟩:=hb l hl;simp[Dp,B9];exact (w4 a ha).2.2.1
 ·obtain⟨a,ha,rfl⟩:=hb l hl;exact⟨_,rfl,aj _ (hm.2 a ha)⟩
 ·obtain⟨a,ha,rfl⟩:=hb l hl;intro e;simp only[Dp,B9,A3]at e;exact hn a ha am (C1 (hm.2 a ha) hm.1 Aj6)
 ·simp only[A3,B9,Ai1,Ajn];exact nV hS (hA _ (ac _ (.inl rfl))) hm.1
 ·obtain⟨a,ha,rfl⟩:=hb l hl;simp only[Dp,B9,Ai1,Ajn];exact nV hS (hA _ (ac _ (.inr ha))) (hm.2 a ha)
 ·obtain⟨w,aa,rfl⟩:=Aib.1 ht;exact (ab _ (ac _ (.inl rfl)) w aa).2 hc
 ·obtain⟨w,aa,e1,e2⟩:=ae _ v ad;rw[<-e2];exact (ab _ (ac _ (.inl rfl)) w aa).1 e1
 ·obtain⟨a,ha,rfl⟩:=hb l hl;obtain⟨w,aa,e1,e2⟩:=ae _ v ad;rw[<-e2];exact (ab _ (ac _ (.inr ha)) w aa).1 e1
 ·have hex:∃a∈Ae x,∃w∈a.terms,(Ak w).1=true/\(Ak w).2=v:=by
   rcases ad with h|⟨l,hl,-,h⟩
   ·obtain⟨w,h1,h2,h3⟩:=ae _ v (hasV_iff.1 h);exact⟨_,ac _ (.inl rfl),w,h1,h2,h3⟩
   ·obtain⟨a,ha,rfl⟩:=hb l hl;obtain⟨w,h1,h2,h3⟩:=ae _ v (hasV_iff.1 h);exact⟨a,ac _ (.inr ha),w,h1,h2,h3⟩
  obtain⟨a,ha,w,ai,e1,e2⟩:=hex;have ah:Me x w=true:=by
   unfold F6 at hs;simp only[Ajo]at hs;have h1:=Aim.1 hs a ha;unfold zR at h1;simp only[Ahz,not_exists,not_and]at h1;have h2:=h1 w ai;unfold tU at h2;rw[<-K0 (hv a ha w ai),e1]at h2;simpa using h2
  unfold Me at ah;rw[Ahz]at ah;obtain⟨c,hc,ak⟩:=ah;rw[Ahz]at ak;obtain⟨u,hu,af⟩:=ak;simp only[Ag3,Ajo,Aj4]at af;refine⟨Dp N c,Aib.2 ⟨c,hc,rfl⟩,af.1,?_⟩;rw[hasV_iff];refine Aib.2 ⟨u,hu,?_⟩;rw[af.2,<-e1,<-e2]
theorem Oa {T:Tx->Prop}(hT:∀s w r,Ci s= .got w r->T w):∀(n:Nat) (s:Tx) (F:List RAtom) (r:Tx),Cz n s= .got F r->∀a∈F,∀w∈a.terms,T w
 |n,[],F,r,h=>by
  rw[N9]at h;cases h;simp
 |0,b::s,F,r,h=>by cases h
 |n+1,b::s,F,r,h=>by
  rw[Jh]at h;cases h1:J4 (b::s)with
  |bad e=>rw[h1]at h;cases h
  |got x r1=>
   rw[h1]at h;simp only[Rd.bnd]at h;cases h2:Cz n r1 with
   |bad e=>rw[h2]at h;cases h
   |got xs r2=>
    rw[h2]at h;cases h;intro a ha;rcases Ah2.1 ha with rfl|ha
    ·unfold J4 at h1;cases h3:C9 false (b::s)with
     |bad e=>rw[h3]at h1;cases h1
     |got a2 r3=>
      rw[h3]at h1;simp only[Rd.bnd]at h1;split at h1
      ·cases h4:Ay 46 r3 with
       |bad e=>rw[h4]at h1;cases h1
       |got u r4=>
        rw[h4]at h1;cases h1;exact J7 hT h3
      ·cases h1
    ·exact Oa hT n r1 xs r h2 a ha
theorem Ach {σ0 σ σ':St}{om ot:Nat}{M M':MM}(hK:Keep σ0 σ)(h:KM om ot M M' σ σ')(hm:σ0.nobj<=om)(ht:σ0.nobj<=ot)(hM:∀x∈M,x.1=1\/σ0.ntop+2<=x.1):Keep σ0 σ':=
 ⟨Ago hK.nobj h.nobj,fun o ho=>by rw[h.obj o (Agp ho hK.nobj) Aj6 Aj6];exact hK.obj o ho,fun o ho=>by rw[h.ver o (Agp ho hK.nobj) Aj6 Aj6];exact hK.ver o ho,Ago hK.ntop h.ntop,fun k hk=>by
  rw[h.top k (Agp hk hK.ntop) (fun x hx=>by rcases hM x hx with e|e<;>omega)];exact hK.top k hk⟩
theorem Aaj {N N':List Tx}(h:N<+:N'){l:List RItem}(hl:∀x∈l,x.head.pred∈N/\∀a∈x.body,a.pred∈N)(s:Nat):(Qd l s).map (A3 N')=(Qd l s).map (A3 N):=by
 apply Aid;intro x hx;exact fL h (hl x (Ai7.1 hx).1)
theorem dB {N N':List Tx}(h:N<+:N'){l:List RItem}(hl:∀x∈l,x.head.pred∈N/\∀a∈x.body,a.pred∈N)(B:Ct):∀s,PMi N' l B s=PMi N l B s
 |0=>rfl
 |s+1=>by
  show LstG _ _=LstG _ _;rw[Aaj h hl,dB h hl B s]
theorem Yz {N N':List Tx}(h:N<+:N')(rk:Nat->List Bb):∀{l:List RItem} (acc:Tx×List Int),(∀x∈l,x.head.pred∈N)->l.foldl (Iq N' rk) acc=l.foldl (Iq N rk) acc
 |[],acc,_=>rfl
 |x::l,acc,hl=>by
  rw[Ag6,Ag6];have:Iq N' rk acc x=Iq N rk acc x:=by
   unfold Iq;rw[Kt h (hl x (by simp))]
  rw[this];exact Yz h rk _ (fun y hy=>hl y (by simp[hy]))
theorem Ht {N:List Tx}{l:List RItem}{cs:List AV}(h:EL (PI N) l cs):∀x∈l,x.head.pred∈N/\∀a∈x.body,a.pred∈N:=fun x hx=>by
 obtain⟨i,hi⟩:=Aif hx;obtain⟨hm,ih,id,b,r,hb,-⟩:=Em h hi;refine⟨hm,fun a ha=>?_⟩;obtain⟨j,hj⟩:=Aif ha;obtain⟨c,r2,⟨hc,-⟩,-⟩:=EL.get Ds hb hj;exact hc
def kE (l:List RItem)(F:List RAtom)(n:Int)(x:Tx)(k e:Int):Prop:=
 ∃(N:List Tx) (M M':MM) (d:Int),(∀y∈l,y.head.pred∈N/\∀a∈y.body,a.pred∈N)/\(∀a∈F,a.pred∈N)/\MkM N.length (F.map (B9 N)) M/\(∀z∈M',T3 z.2)/\FolI N l M n (l.length+1) M' d/\
  if n<d then x=[]/\k=0/\e=9 else x=O7 N (fun j=>Gx (Ax M' (j:Int))) l/\k=d/\e=0/\∀z∈M',∀u∈z.2,∀y∈u,-1<=y/\y<=9999
def K5 (t f:Tx)(n:Int)(x:Tx)(k e:Int):Prop:=
 if 600<t.length\/400<f.length then x=[]/\k=0/\e=1
 else if (As t).1≠0 then x=[]/\k=0/\e=(As t).1
 else if n<0\/200<n then x=[]/\k=0/\e=6
 else∃l,Bq 16 t= .got l []/\if Hp l f≠0 then x=[]/\k=0/\e=Hp l f else∃F,Cz 400 f= .got F []/\kE l F n x k e
structure BkT (N:List Tx)(l:List RItem)(cs:List AV):Prop where
 bk:Bk N l cs
 nl:N.length<=600
 rt:RtI l
 va:∀x∈l,∀a∈Ae x,VA a
 dt:∀x∈l,∀a∈Ae x,∀w∈a.terms,DT w
 wi:∀x∈l,Ck x
 nn:∀x∈l,x.head.pred.length<=600
theorem BkT.cons {N:List Tx}{l:List RItem}{cs:List AV}(h:BkT N l cs):Db (l.flatMap Ae):=Vz h.rt.odd h.bk.pos
theorem BkT.bkr {N N':List Tx}{l:List RItem}{cs:List AV}(h:BkT N l cs)(hN:N<+:N'){F:List RAtom}(hS:Db (l.flatMap Ae++F)):BkR N l N'.length (arA N' (l.flatMap Ae++F)):=by
 have hn:=Ht h.bk.el;refine⟨hN.length_le,hn,h.rt.kn,fun x hx ho=>?_⟩;rw[<-fL hN (hn x hx)];refine Aed hS (fun a ha=>Ah8.2 (.inl (Ah7.2 ⟨x,hx,ha⟩))) ⟨hN.subset (hn x hx).1,fun a ha=>hN.subset ((hn x hx).2 a ha)⟩ ho (h.wi x hx) (h.va x hx) (h.dt x hx) (h.rt.saf x hx) (fun a ha hnt e=>?_);have:=Zq h.bk.out h.rt.kn h.bk.len hx ha hnt;rw[e]at this;exact Nat.lt_irrefl _ this
theorem Acm {N:List Tx}{S:List RAtom}(hS:Db S){a:RAtom}(ha:a∈S)(hm:a.pred∈N)(hs:fH a=true)(hv:∀w∈a.terms,VT w/\DT w):Sh (arA N S) (N.idxOf a.pred) (Cr (B9 N a)):=by
 refine⟨(a.terms.map Ak).map (·.2),rfl,?_,fun x hx=>?_⟩
 ·rw[Ai1,Ai1];exact nV hS ha hm
 ·obtain⟨p,hp,rfl⟩:=Aib.1 hx;obtain⟨w,hw,rfl⟩:=Aib.1 hp;refine (qJ (hv w hw).1 (hv w hw).2).2 ?_;unfold fH Hw at hs;rw[Ag0]at hs;have:=hs (Ak w) (Aib.2 ⟨w,hw,rfl⟩);simpa using this
theorem Aeb {ar:Nat->Nat}{k:Nat}{t:Bb}(h:Sh ar k t):∀y∈t,-1<=y/\y<=9999:=fun y hy=>by
 obtain⟨l,rfl,-,hl⟩:=h;have key:∀i:Nat,-1<=(l[i]?).getD (-1)/\(l[i]?).getD (-1)<=9999:=fun i=>by
  cases hi:l[i]? with
  |none=>simp
  |some z=>
   obtain⟨n,rfl,hn⟩:=hl z (Ag1 hi);simp;omega
 unfold C4 at hy;simp only[Ah2,Ail,Aj5]at hy;rcases hy with rfl|rfl|rfl
 ·exact key 0
 ·exact key 1
 ·exact key 2
theorem yO {t:Tx}{l:List RItem}(ht:t.length<=600)(h:Bq 16 t= .got l []):∀x∈l,x.head.pred.length<=600:=fun x hx=>by
 obtain⟨h1,-,-,-⟩:=Ex _ _ _ _ h;have hl:(Bc x).length<=(Bu l).length:=by
  unfold Bu;obtain⟨a,b,rfl⟩:=List.append_of_mem hx;simp;omega
 have h2:x.head.pred.length<=(Bc x).length:=by
  unfold Bc;split
  ·simp
  ·simp[Dh,A6]
 rw[<-h1]at hl;omega
theorem fJ (t f:Tx)(n:Int)(σ:St):ACalls Tryz.prog 25 [str t,str f,ic n] σ fun r σ'=>∃x k e,r=tp [str x,ic k,ic e]/\K5 t f n x k e/\Keep σ σ':=by
 have cq:({data:=#[]}:ByteArray)=bs []:=rfl;by_cases hL:600<t.length
 ·have cj:decide ((t.length:Int)>600)=true:=by rw[Aj3];omega
  have HP:Akc (K5 t f n [] 0 1):=by rw[Akc,K5,if_pos (.inl hL)];exact⟨rfl,rfl,rfl⟩
  clear hL;refine Z9 59 [.tmp 6,.tmp 7,.tmp 8] Tryz.func25 ?_
  repeat' (first|refine Z1 ?_|(refine Z8 ?_;intro yb ya)|(refine Z4 ?_;clear ya yb)|(refine Z2 ?_ ?_<;>intro h ac<;>try exact Xp)|refine Z7 ?_|exact Zt|(apply ya.out;clear ya yb))
  exact⟨_,rfl,[],0,1,rfl,HP.out,Keep.refl _⟩
 ·have cj:decide ((t.length:Int)>600)=false:=by rw[decide_eq_false_iff_not];omega
  by_cases hF:400<f.length
  ·have bw:decide ((f.length:Int)>400)=true:=by rw[Aj3];omega
   have HP:Akc (K5 t f n [] 0 1):=by rw[Akc,K5,if_pos (.inr hF)];exact⟨rfl,rfl,rfl⟩
   clear hL hF;refine Z9 59 [.tmp 6,.tmp 7,.tmp 8] Tryz.func25 ?_
   repeat' (first|refine Z1 ?_|(refine Z8 ?_;intro yb ya)|(refine Z4 ?_;clear ya yb)|(refine Z2 ?_ ?_<;>intro h ac<;>try exact Xp)|refine Z7 ?_|exact Zt|(apply ya.out;clear ya yb))
   exact⟨_,rfl,[],0,1,rfl,HP.out,Keep.refl _⟩
  ·have bw:decide ((f.length:Int)>400)=false:=by rw[decide_eq_false_iff_not];omega
   have HP:Akc (∀x k e,K5 t f n x k e↔if (As t).1≠0 then x=[]/\k=0/\e=(As t).1
 else if n<0\/200<n then x=[]/\k=0/\e=6
 else∃l,Bq 16 t= .got l []/\if Hp l f≠0 then x=[]/\k=0/\e=Hp l f else∃F,Cz 400 f= .got F []/\kE l F n x k e):=fun x k e=>by rw[K5,if_neg (by simp[hL,hF])]
   have bq:=fun σ=>Vi t σ;have bd:Akc ((As t).1=0->∀n1 c1 n2 c2,n1<=600/\mQ t n1 c1 n2 c2->∃N l,Bq 16 t= .got l []/\BkT N l c2/\n1=N.length/\c1=N.map str/\n2=l.length):=fun h0 n1 c1 n2 c2 ⟨h6,N,l,hp,hB,e1,e2,e3,ce,cd⟩=>by
    obtain⟨cf,hw⟩:=dF h0 hp;refine⟨N,l,hp,⟨hB,Aj6,wO hw,ce,Iv (T:=DT) Pm 16 t l [] hp,cd,yO cf hp⟩,e1,e2,e3⟩
   clear hL hF;generalize As t=rc at*
   obtain⟨e0,p0⟩:=rc;simp only at bq HP bd;refine Z9 59 [.tmp 6,.tmp 7,.tmp 8] Tryz.func25 ?_
   repeat' (first|refine Z1 ?_|(refine Z8 ?_;intro yb ya)|(refine Z4 ?_;clear ya yb)|(refine Z2 ?_ ?_<;>intro h ac<;>try exact Xp)|(refine Z5 ?_;refine Xi (bq _) ?_;rintro _ _ ⟨idn,n1,c1,idi,n2,c2,rfl,ab,hb⟩;(have HB:Akc _:=hb;clear hb;have cc:=ab.nobj))|refine Z7 ?_|exact Zt|(apply ya.out;clear ya yb))
   ·have he:e0≠0:=by simpa using h
    exact⟨_,rfl,[],0,e0,rfl,(HP.out _ _ _).2 (by rw[if_pos he];exact⟨rfl,rfl,rfl⟩),(ab.new _).put ab.nobj _⟩
   ·skip
    have he:¬e0≠0:=by
     have:(e0 !=0)=false:=by assumption
     simpa using this
    exact⟨_,rfl,[],0,6,rfl,(HP.out _ _ _).2 (by rw[if_neg he,if_pos (.inr (by assumption))];exact⟨rfl,rfl,rfl⟩),(ab.new _).put ab.nobj _⟩
   ·rename St=>σ1;have he:e0=0:=by
     have:(e0 !=0)=false:=by assumption
     simpa using this
    have ch:0<=n:=by assumption
    have cp:n<=200:=by assumption
    obtain⟨N,l,hp,hT,rfl,rfl,rfl⟩:=bd.out he _ _ _ _ (HB.out he);have bb:Akc (∀x k e,(if Hp l f≠0 then x=[]/\k=0/\e=Hp l f else∃F,Cz 400 f= .got F []/\kE l F n x k e)->K5 t f n x k e):=fun x k e h=>(HP.out x k e).2 (by rw[if_neg (by simp[he]),if_neg Aj6];exact⟨l,hp,h⟩);have a8:=fun σ=>Vj N l c2 idn idi hT.bk hT.nl (zJ hT.cons) f (by have:decide ((f.length:Int)>400)=false:=bw;rw[decide_eq_false_iff_not]at this;omega) σ;unfold Bn at a8;have HT:Akc _:=hT;clear hT hp HP bd HB;have br:=(ab.new [nilS,nilS]).put ab.nobj [sl idn N.length (N.map str),sl idi l.length c2]
    repeat' (first|refine Z1 ?_|(refine Z8 ?_;intro yb ya)|(refine Z4 ?_;clear ya yb)|(refine Z2 ?_ ?_<;>intro h ac<;>try exact Xp)|(refine Z5 ?_;refine Xi (a8 _) ?_;rintro _ _ ⟨idf,nf,np,fc,rfl,az,bi⟩;(have b6:Akc _:=bi;clear bi;have a5:=az.nobj;have af:=az.obj;simp only[Ab,Aa]at a5 af;have a9:=br.trans az;have a4:=af σ1.nobj Aj6;rw[Aj]at a4))|refine Z7 ?_|exact Zt|(apply ya.out;clear ya yb))
    ·have aa:Hp l f≠0:=by simpa using h
     exact⟨_,rfl,[],0,Hp l f,rfl,bb.out _ _ _ (by rw[if_pos aa];exact⟨rfl,rfl,rfl⟩)⟩
    ·rename St=>σ2;have aa:Hp l f=0:=by simpa using h
     obtain⟨F,N',ak,rfl,rfl,ad,cr,hE⟩:=b6.out aa;have b3:Akc (∀x k e,kE l F n x k e->K5 t f n x k e):=fun x k e h=>bb.out x k e (by rw[if_neg (by simp[aa])];exact⟨F,ak,h⟩);obtain⟨-,b0,-,a0⟩:=Jg _ _ _ _ ak;have a3:∀a∈F,a.pred∈N':=fun a ha=>by
      obtain⟨i,hi⟩:=Aif ha;exact (Wn hE hi).1
     have ap:L2 (l.flatMap Ae) F=false:=by
      unfold Hp at aa;rw[ak]at aa;simp only at aa;cases ho:L2 (l.flatMap Ae) F with
      |false=>rfl
      |true=>rw[ho]at aa;simp at aa
     have ao:∀a∈F,0<a.terms.length:=fun a ha=>by
      have:=(a0 a ha).1.2.1;cases hh:a.terms with
      |nil=>exact absurd hh this
      |cons y ys=>simp
     have hS:=Om HT.out.cons ao ap;have b1:=HT.out.bkr ad hS;have bl:∀a∈F,∀w∈a.terms,VT w/\DT w:=fun a ha w hw=>⟨Oa (T:=VT) (fun _ _ _ h=>gK h) _ _ _ _ ak a ha w hw,Oa (T:=DT) Pm _ _ _ _ ak a ha w hw⟩
     have a6:=fun σ=>Ma N'.length (F.map (B9 N')) fc idf n (Ady hE) Aj6 (by rw[Ai1];omega) (fun a ha=>by
      obtain⟨b,hb,rfl⟩:=Aib.1 ha
      exact⟨by simp[B9];exact (a0 b hb).1.2.2.1,_,rfl,Air (a3 b hb)⟩) σ
     rw[Ai1]at a6;have ba:Akc (∀M,MkM N'.length (F.map (B9 N')) M->MSh (arA N' (l.flatMap Ae++F)) M):=fun M ae k u hu=>by
      obtain⟨a,ha,e1,e2⟩:=(ae.mem k u).1 hu;obtain⟨b,hb,rfl⟩:=Aib.1 ha;have:=Acm hS (Ah8.2 (.inr hb)) (a3 b hb) (a0 b hb).2.2 (bl b hb);rw[e2];have e3:k=N'.idxOf b.pred:=by simp only[B9]at e1;omega
      rw[e3];exact this
     have b5:Akc _:=b1;have b4:Akc _:=a3;have cn:F.length<=400:=b0;clear ak a0 a3 ap ao hS b1 bl b6 bb aa hE a8 b0
     repeat' (first|refine Z1 ?_|(refine Z8 ?_;intro yb ya)|(refine Z4 ?_;clear ya yb)|(refine Z5 ?_;refine Xi (a6 _) ?_;rintro _ _ ⟨ot,M,rfl,ae,ay,co,a7,au⟩;(have cb:=ay.nobj;have an:=ay.obj))|refine Z7 ?_|exact Zt)
     rename St=>σ3;obtain⟨σ4,hσ4⟩:∃τ,τ=((σ3.new [nilS,ic 0,ic 0]).put σ3.nobj [fx ot 0 N'.length,ic 0,ic n]):=⟨_,rfl⟩;rw[<-hσ4];have aj:Keep σ3 σ4:=by rw[hσ4];exact ((Keep.refl σ3).new _).put (Agn _) _
     have cm:Keep σ σ4:=(a9.trans ay).trans aj;have n4:σ4.nobj=σ3.nobj+1:=by rw[hσ4];rfl
     have b8:σ4.obj σ1.nobj=[sl idn N.length (N.map str),sl idi l.length c2]:=by rw[aj.obj _ Aj6,an _ Aj6,a4]
     have cg:=a7.lt;have bn:=ae.len;have bp:MOb σ4 σ3.nobj ot M 0 n:=(a7.keep aj).mob (by rw[hσ4,Aj,bn]) Aj6 Aj6;have bm:∀y∈M,y.1=1\/σ.ntop+2<=y.1:=fun y hy=>by have:=a9.ntop;rcases au y hy with h|h<;>omega
     have be:tot M<=1000:=by have:=ae.tot;rw[Ai1]at this;omega
     have bv:=cM N l c2 idn idi N'.length (arA N' (l.flatMap Ae++F)) HT.out.bk b5.out σ3.nobj ot n ch Aj6 M bn (ba.out M ae) ae.nd be σ4 bp;have bf:=lW b5.out (B:=MD M) (ba.out M ae);unfold Bn at bv;have bc:Akc _:=ae;have b2:Akc _:=bf;clear hσ4 a7 au ae bp bf ba a6 ay az br a9 af an a4 ab
     repeat' (first|refine Z1 ?_|(refine Z8 ?_;intro yb ya)|(refine Z4 ?_;clear ya yb)|(refine Z2 ?_ ?_<;>intro h ac<;>try exact Xp)|(refine Z5 ?_;first|(refine Xi (bv) ?_;rintro _ _ ⟨M',d',am,ai,bu⟩;(have aw:Akc _:=bu;clear bu;have ca:=ai.nobj;have ck:=Ach cm ai Aj6 Aj6 bm;have ci:=Kz σ3.nobj ot M' d' n _ am;have b7:=ai.obj σ1.nobj Aj6 Aj6 Aj6;rw[b8]at b7))|(refine Xi (ci) ?_;rintro _ _ ⟨rfl,rfl⟩))|refine Z7 ?_|exact Zt|(apply ya.out;clear ya yb))
     ·refine⟨_,rfl,[],0,9,rfl,b3.out _ _ _ ⟨N',M,M',d',fun y hy=>⟨ad.subset ((Ht HT.out.bk.el y hy).1),fun a ha=>ad.subset ((Ht HT.out.bk.el y hy).2 a ha)⟩,b4.out,bc.out,am.t3,?_,by rw[if_pos (by assumption)];exact⟨rfl,rfl,rfl⟩⟩⟩;unfold FolI;rw[dB ad (Ht HT.out.bk.el)];exact aw.out
     ·rename St=>σ5;have bg:¬n<d':=Aj6;have bz:FolI N' l M n (l.length+1) M' d':=by
       unfold FolI;rw[dB ad (Ht HT.out.bk.el)];exact aw.out
      have bo:∀k u,MD M' k u->Sh (arA N' (l.flatMap Ae++F)) k u:=fun k u hu=>by
       rcases aw.out.2.2 with⟨-,g,-⟩|⟨g,-⟩
       ·exact b2.out _ _ _ ((g k u).1 hu)
       ·exact absurd g bg
      have ah:∀x∈M',∀u∈x.2,∀y∈u,-1<=y/\y<=9999:=fun x hx u hu=>by
       obtain⟨k,hk⟩:=Aif hx;exact Aeb (bo k u (by unfold MD;rw[B7 hk];exact hu))
      have bh:N.length<=M'.length:=by
       have:=aw.out.1;have:=ad.length_le;omega
      have ax:=Sm N l c2 idn idi HT.out.bk HT.out.nn σ3.nobj ot M' d' n bh ah σ5 am;have e1:O7 N (fun j=>Gx (Ax M' (j:Int))) l=O7 N' (fun j=>Gx (Ax M' (j:Int))) l:=by
       unfold O7 F5;rw[Yz ad _ _ (fun x hx=>(Ht HT.out.bk.el x hx).1)]
      rw[e1]at ax;have HR:Akc (K5 t f n (O7 N' (fun j=>Gx (Ax M' (j:Int))) l) d' 0):=b3.out _ _ _ ⟨N',M,M',d',fun y hy=>⟨ad.subset ((Ht HT.out.bk.el y hy).1),fun a ha=>ad.subset ((Ht HT.out.bk.el y hy).2 a ha)⟩,b4.out,bc.out,am.t3,bz,by rw[if_neg bg];exact⟨rfl,rfl,rfl,ah⟩⟩;generalize O7 N' (fun j=>Gx (Ax M' (j:Int))) l=tx at ax HR;unfold Bn at ax;have b9:=am.ob;have lo14:=am.lo;clear e1 bz bo ah bh aw b2 bc bm be;refine Bt (Q:=fun e s' σ''=>e= .normal/\s' 6=str tx/\s' 7=ic d'/\s' 8=ic 0/\Keep σ5 σ'') ?_ ?_
      ·refine A1 Ai (fun _=>True) [] [0,2,3] 4 #[true,false,true,true,false,false,false] Aj9 (fun _ _ _ h=>by cases h.1) ?_;intro yb ya;refine Z7 ?_;refine ya.out _ ?_;clear ya yb;refine Am (i:=1) Aj9 ?_;refine Aq ?_;intro yb ya;refine Z7 ?_;refine ACalls.mono ax ?_;rintro _ σ6 ⟨rfl,av⟩;refine Z7 ?_;refine ya.out _ _ ⟨Ap av,?_⟩;clear ya yb;refine E5 [4,5,6] Aj9 Aj9 (fun _ _ _ h=>by cases h.1) av.nobj (fun o ho _=>av.ver o ho) ?_;intro yb ya;refine Z7 ?_;refine ya.out _ _ ⟨rfl,?_⟩;simp[upd, *]
      ·rintro e s' σ6 ⟨rfl,g6,g7,g8,av⟩
       repeat' (first|refine Z1 ?_|refine Z7 ?_|exact Zt|(apply ya.out;clear ya yb))
       first|exact⟨_,rfl,tx,d',0,rfl,HR.out,ck.trans av⟩|exact⟨_,rfl,tx,d',0,rfl,HR.out⟩
   ·skip
    have he:¬e0≠0:=by
     have:(e0 !=0)=false:=by assumption
     simpa using this
    exact⟨_,rfl,[],0,6,rfl,(HP.out _ _ _).2 (by rw[if_neg he,if_pos (.inl (by assumption))];exact⟨rfl,rfl,rfl⟩),(ab.new _).put ab.nobj _⟩
set_option maxRecDepth 1000000
section
variable {N:List Tx} {Ng B D:Ct}
end
section
variable {E:List Int} {base:Int} {N:List Tx} {M:MM}
end
section
variable {E:List Int} {base:Int} {N:List Tx} {M:MM}
end
theorem zK {S:List RAtom}{f:Tx->Nat}(hf:∀p,0<f p)(h:∀a∈S,a.terms.length=f a.pred):Db S:=fun b hb=>by
 refine⟨by rw[h b hb];exact hf _,?_⟩;rw[h b hb];unfold Fv;cases hh:S.find? (fun a=>a.pred==b.pred)with
 |none=>
  have:=Ah1.1 hh b hb;simp at this
 |some a=>
  have h1:=List.find?_some hh;have e:a.pred=b.pred:=by simpa using h1
  show f b.pred=a.terms.length;rw[h a (Aip hh),e]
end Go.Proofs.YtmoeoppbmhfbpabGreatDoorL
