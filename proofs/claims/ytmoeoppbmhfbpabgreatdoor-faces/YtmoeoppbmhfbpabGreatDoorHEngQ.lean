import Derived.Test.YtmoeoppbmhfbpabGreatDoorHEngO
set_option linter.all false
namespace Go.Proofs.YtmoeoppbmhfbpabGreatDoorH
set_option maxHeartbeats 32000000
open Go.Abs
set_option maxRecDepth 100000
structure KM (om ot:Nat)(M M':MM)(q q':St):Prop where
 nobj:q.nobj<=q'.nobj
 obj:∀o,o<q.nobj->o≠om->o≠ot->q'.obj o=q.obj o
 ver:∀o,o<q.nobj->o≠om->o≠ot->q'.ver o=q.ver o
 ntop:q.ntop<=q'.ntop
 top:∀k,k<q.ntop->(∀x∈M,x.1≠k+2)->q'.top k=q.top k
 mid:∀x∈M',(∃y∈M,y.1=x.1)\/x.1=1\/q.ntop+2<=x.1
theorem KM.ofKeep {om ot:Nat}{M:MM}{q q':St}(h:Keep q q'):KM om ot M M q q':=
 ⟨h.nobj,fun o ho _ _=>h.obj o ho,fun o ho _ _=>h.ver o ho,h.ntop,fun k hk _=>h.top k hk,fun x hx=>.inl ⟨x,hx,rfl⟩⟩
theorem KM.trans {om ot:Nat}{M M1 M2:MM}{q q1 q2:St}(h:KM om ot M M1 q q1)(g:KM om ot M1 M2 q1 q2):KM om ot M M2 q q2 where
 nobj:=Abc h.nobj g.nobj
 obj:=fun o ho h1 h2=>(g.obj o (Abd ho h.nobj) h1 h2).trans (h.obj o ho h1 h2)
 ver:=fun o ho h1 h2=>(g.ver o (Abd ho h.nobj) h1 h2).trans (h.ver o ho h1 h2)
 ntop:=Abc h.ntop g.ntop
 top:=fun k hk hx=>(g.top k (Abd hk h.ntop) (fun x aa e=>by
  rcases h.mid x aa with⟨y,hy,e2⟩|e2|e2
  ·exact hx y hy (e2.trans e)
  ·omega
  ·omega)).trans (h.top k hk hx)
 mid:=fun x hx=>by
  rcases g.mid x hx with⟨y,hy,e⟩|e|e
  ·rcases h.mid y hy with⟨z,hz,e2⟩|e2|e2
   ·exact .inl ⟨z,hz,e2.trans e⟩
   ·exact .inr (.inl Ad2)
   ·exact .inr (.inr Ad2)
  ·exact .inr (.inl e)
  ·exact .inr (.inr (by have:=h.ntop;omega))
theorem oK {P:Program}{t:TypeId}{z b:Nat}{zc:List Value}{q:St}{id id2 n m m':Nat}{xs ys:List AV}{K:AV->St->Prop}(ht:Ma P t=some (z,b,zc))(hO:Live q id n)
  (hz:0<z) (hzc:zc.length=z) (hx:xs.length=n*z) (hy:ys.length=m*z) (hf:ys.all flat=true) (hm:0<m) (hb:(n+m)*b<=140737488355328) (hl:n+m<=1099511627776)
  (h:∀id' q',Live q' id' (n+m)->(id'=id\/q.ntop+2<=id')->id'≠1->q'.obj=q.obj->q'.nobj=q.nobj->q'.ver=q.ver->q.ntop<q'.ntop->(∀k,k<q.ntop->k+2≠id->q'.top k=q.top k)->K (sl id' (n+m) (xs++ys)) q'):Hy P t t (sl id n xs) (sl id2 m ys) (q.lay m') K:=by
 unfold Hy Yw;left;simp only[ht];rw[if_pos ⟨trivial,hz,hzc,hx,hy,hf,hm,hb,hl⟩];rcases hO with⟨rfl,rfl⟩|⟨k,rfl,h3,h4,h5⟩
 ·have aa:xs=[]:=Abl (by simpa using hx);subst aa;have:=h ((q.lay m').ntop+2) ((q.lay m').lay m) (.inr ⟨(q.lay m').ntop,rfl,by simp[St.lay],by simp[St.lay],Ad2⟩) (.inr (by simp[St.lay])) (by simp) rfl rfl rfl (by simp[St.lay];omega) (fun k hk _=>(((Keep.refl q).lay m').lay m).top k hk);simpa using this
 ·have e1:(q.lay m').top k=n:=by simp[St.lay];rw[if_neg Ad2];exact h4
  simp only;rw[if_pos ⟨e1,h5⟩]
  exact h (k+2) _ (.inr ⟨k,rfl,by simp[St.raise,St.lay];omega,by simp[St.raise],Ad2⟩) (.inl rfl) Ad2 rfl rfl rfl (by simp[St.raise,St.lay]) (fun j hj hne=>by
   simp[St.raise,St.lay]
   rw[if_neg Ad2,if_neg Ad2])
theorem MOb.grow {q q':St}{om ot:Nat}{M:MM}{d b:Int}{k id':Nat}{x:Nat×List Ca}{t:Ca}(hM:MOb q om ot M d b)(hx:M[k]?=some x)(ht:t.length=3)(hn:x.2.length<5000)
  (hL:Live q' id' (x.2.length+1)) (hid:id'=x.1\/q.ntop+2<=id') (am:id'≠1) (eob:∀o,o<q.nobj->o≠ot->q'.obj o=q.obj o) (ai:∀o,o<q.nobj->o≠ot->q'.ver o=q.ver o) (eoc:q'.obj ot=(E7 M).set k (sl id' (x.2.length+1) (D9 x.2++Ar t))) (eno:q.nobj<=q'.nobj) (ento:q.ntop<=q'.ntop)
  (etop:∀j,j<q.ntop->j+2≠x.1->q'.top j=q.top j):MOb q' om ot (M.set k (id',x.2++[t])) d b/\KM om ot M (M.set k (id',x.2++[t])) q q':=by
 have ad:=Abh hx;have ak:k<M.length:=(List.getElem?_eq_some_iff.1 hx).1;have af:∀(i:Nat) (y:Nat×List Ca),M[i]?=some y->i≠k->Live q' y.1 y.2.length/\(y.1=1\/y.1≠id'):=fun i y hy hne=>by
  have aj:=Abh hy;rcases hM.live y aj with h|⟨j,e1,e2,e3,e4⟩
  ·exact⟨.inl h,.inl h.1⟩
  ·have an:y.1≠x.1:=by
    rcases hM.inj i k y x hy hx hne with h|h
    ·omega
    ·exact h
   refine⟨.inr ⟨j,e1,Abd e2 ento,(etop j e2 Ad2).trans e3,e4⟩,.inr ?_⟩;rcases hid with h|h<;>omega
 have aa:∀(i:Nat) (y:Nat×List Ca),(M.set k (id',x.2++[t]))[i]?=some y->(i=k/\y=(id',x.2++[t]))\/(i≠k/\M[i]?=some y):=fun i y hy=>by
  rw[List.getElem?_set]at hy;by_cases e:k=i
  ·subst e;rw[if_pos rfl,if_pos ak]at hy;exact .inl ⟨rfl,(Ac5 hy).symm⟩
  ·rw[if_neg e]at hy;exact .inr ⟨fun h=>e h.symm,hy⟩
 have ab:∀y∈M.set k (id',x.2++[t]),y=(id',x.2++[t])\/y∈M:=fun y hy=>(List.mem_or_eq_of_mem_set hy).symm;have ah:∀y∈M.set k (id',x.2++[t]),∃i,(M.set k (id',x.2++[t]))[i]?=some y:=fun y hy=>List.getElem?_of_mem hy;refine⟨⟨?_,?_,Abd hM.lo eno,Abd hM.lt eno,hM.ne,?_,?_,?_,?_,by simp;exact hM.pl⟩,⟨eno,fun o ho h1 h2=>eob o ho h2,fun o ho h1 h2=>ai o ho h2,ento,fun j hj h=>etop j hj (fun e=>h x ad e.symm),?_⟩⟩
 ·rw[eob om hM.lo hM.ne,hM.ob];simp
 ·rw[eoc];unfold E7;rw[List.map_set];congr 1;simp[D9]
 ·intro y hy;obtain⟨i,hi⟩:=ah y hy;rcases aa i y hi with⟨-,rfl⟩|⟨hne,ac⟩
  ·simpa using hL
  ·exact (af i y ac hne).1
 ·intro i j y w hy hw hne;rcases aa i y hy with⟨rfl,rfl⟩|⟨h1,ac⟩
  ·rcases aa j w hw with⟨rfl,rfl⟩|⟨h2,ae⟩
   ·exact absurd rfl hne
   ·have:=(af j w ae h2).2;simp only;by_cases e:id'=w.1
    ·rcases this with h|h
     ·omega
     ·omega
    ·exact .inr e
  ·rcases aa j w hw with⟨rfl,rfl⟩|⟨h2,ae⟩
   ·exact (af i y ac h1).2
   ·exact hM.inj i j y w ac ae hne
 ·intro y hy;rcases ab y hy with rfl|hy
  ·intro u hu;rcases Ack.1 hu with h|h
   ·exact hM.t3 x ad u h
   ·simp at h;subst h;exact ht
  ·exact hM.t3 y hy
 ·intro y hy;rcases ab y hy with rfl|hy
  ·simp;omega
  ·exact hM.ln y hy
 ·intro y hy;rcases ab y hy with rfl|hy
  ·rcases hid with h|h
   ·exact .inl ⟨x,ad,h.symm⟩
   ·exact .inr (.inr h)
  ·exact .inl ⟨y,hy,rfl⟩
theorem Te (om ot:Nat)(M:MM)(d b:Int)(a:C3)(id k:Nat)(x:Nat×List Ca)(ha:a.ts.length<=3)(hk:a.p=(k:Int))(hx:M[k]?=some x)(hn:x.2.length<5000)(q:St)(hM:MOb q om ot M d b):ACalls Tryz.prog 82 [ptr om 0,ag [ic a.p,sl id a.ts.length (Ac a.ts)]] q fun r q'=>∃id',MOb q' om ot (M.set k (id',x.2++[Cq a])) d b/\KM om ot M (M.set k (id',x.2++[Cq a])) q q':=by
 have ar:a.ts.length<=1000:=Ad2;have ao:=fun q=>Pw a.p id a.ts ar q;have an:=Abh hx;have h3:=hM.t3 x an;have hL:=hM.live x an;have ap:=H5 h3;have ay:k<M.length:=(List.getElem?_eq_some_iff.1 hx).1;have hpl:=hM.pl;have ax:=Hk M;have az:=Hl hx;have lo:=hM.lo;have lt:=hM.lt;have ob:=hM.ob;have oc:=hM.oc;rw[hk];rw[hk]at ao;have ai:(D7 (a.ts.map (·.2))).length=3:=rfl;have HT:Ad8 (Cq a=D7 (a.ts.map (·.2))):=rfl;generalize Cq a=ta at*
 generalize D7 (a.ts.map (·.2))=t0 at*
 have w1:=Gs ai;have w5:=Ee t0;have w4:=Ml ai;refine Z9 23 [] Tryz.func82 ?_
 repeat' (first|refine Z1 ?_|(refine Z8 ?_;intro κ hκ)|(refine Z4 ?_;clear hκ κ)|(refine Z2 ?_ ?_<;>intro h am<;>try exact Xp)|(refine Z6 ?_;intro idn qn au aw ac ae aa ad)|refine Z3 ?_|exact⟨⟩|(apply hκ.out;clear hκ κ))
 refine Br (Q:=fun e s' q'=>e= .normal/\∃id',MOb q' om ot (M.set k (id',x.2++[ta])) d b/\KM om ot M (M.set k (id',x.2++[ta])) q q') ?_ ?_
 ·refine A4 Ak (fun _=>True) [19] [0,1,2,3,4,5,6,7,8,9,10,11,12,13,14] 5 #[true,true,true,true,true,true,true,true,true,true,true,true,true,true,true,false,false,false,false,false] Ad5 (fun _ _ _ h=>by cases h.1) ?_;intro κ hκ;refine Z3 ?_;refine hκ.out _ ?_;clear hκ κ;refine Al (i:=15) Ad5 ?_;refine Aq ?_;intro κ hκ;refine Z3 ?_;refine ACalls.mono (ao _) ?_;rintro _ q5 ⟨rfl,af⟩;refine Z3 ?_;refine hκ.out _ _ ⟨Ao af,?_⟩;clear hκ κ;have ah:=af.nobj;simp only[Aa]at ah;have ab:Keep q q5:=((Keep.refl q).new _).trans af;have e1:q5.obj om=[fx ot 0 M.length,ic d,ic b]:=by rw[ab.obj _ lo,ob]
  have e2:q5.obj ot=E7 M:=by rw[ab.obj _ lt,oc]
  refine Al (i:=16) Ad5 ?_;refine Aq ?_;intro κ hκ;refine Z3 ?_;refine hκ.out _ _ ⟨Ao (af.lay 1),?_⟩;clear hκ κ;refine Al (i:=17) Ad5 ?_;refine Aq ?_;intro κ hκ;refine Z3 ?_;refine oK (by first|exact Fj) (hL.keep ab) (by decide) (by rfl) ap (by rw[w1]) w5 (by decide) Ad2 Ad2 ?_;intro idn qn av aj ak ac ae aa ad etop;have e3:qn.obj ot=E7 M:=by rw[ac,e2]
  refine Z3 ?_;refine hκ.out _ _ ⟨fun _ o ho _=>by rw[aa];exact af.ver o ho,?_⟩;clear hκ κ;refine Al (i:=18) Ad5 ?_;refine Aq ?_;intro κ hκ;refine Z3 ?_;refine hκ.out _ _ ⟨fun _ o ho _=>by rw[aa];exact af.ver o ho,?_⟩;clear hκ κ;refine Al (i:=19) Ad5 ?_;refine Aq ?_;intro κ hκ;refine Z3 ?_;refine hκ.out _ _ ⟨Bo rfl,?_⟩;clear hκ κ;refine A7 Ad5 ⟨rfl,idn,?_⟩;rw[HT.out];refine MOb.grow hM hx ai hn ?_ ?_ ak ?_ ?_ ?_ ?_ ?_ ?_
  ·rcases av with h|⟨j,h1,h2,h3,h4⟩
   ·exact .inl h
   ·exact .inr ⟨j,h1,h2,h3,h4⟩
  ·have:=ab.ntop;rcases aj with h|h
   ·exact .inl h
   ·exact .inr Ad2
  ·intro o ho hne;rw[show∀(S:St) c,(S.put ot c).obj o=S.obj o from fun S c=>by simp[St.put,hne],ac,ab.obj o ho]
  ·intro o ho hne;rw[show∀(S:St) c,(S.put ot c).ver o=S.ver o from fun S c=>by simp[St.put,hne],aa,ab.ver o ho]
  ·rw[Aj]
  ·have:=ab.nobj;simp only[Ab];omega
  ·have:=ab.ntop;simp only[Sb];omega
  ·intro j hj hne;rw[Ql,etop j (Abd hj ab.ntop) hne,ab.top j hj]
 ·rintro e s' q'' ⟨rfl,idn,h1,h2⟩
  repeat' (first|refine Z1 ?_|(refine Z8 ?_;intro κ hκ)|(refine Z4 ?_;clear hκ κ)|(refine Z2 ?_ ?_<;>intro h am<;>try exact Xp)|(refine Z6 ?_;intro idn qn au aw ac ae aa ad)|refine Z3 ?_|exact⟨⟩|(apply hκ.out;clear hκ κ))
  exact⟨_,rfl,idn,h1,h2⟩
def Gu (M:MM):List Int:=M.map fun x=>(x.2.length:Int)
theorem N4 (om ot:Nat)(M:MM)(d b:Int)(q:St)(hM:MOb q om ot M d b):ACalls Tryz.prog 137 [ptr om 0] q fun r q'=>(∃id,r=sl id M.length (Ar (Gu M)))/\Keep q q':=by
 have hpl:=hM.pl;have ar:=Hk M;have lo:=hM.lo;have lt:=hM.lt;have ob:=hM.ob;have oc:=hM.oc;refine Z9 23 [.tmp 2] Tryz.func137 ?_
 repeat' (first|refine Z1 ?_|(refine Z8 ?_;intro κ hκ)|(refine Z4 ?_;clear hκ κ)|(refine Z2 ?_ ?_<;>intro h ad<;>try exact Xp)|(refine Z6 ?_;intro idn qn ai aj af ac ae ab)|refine Z3 ?_|exact⟨⟩|(apply hκ.out;clear hκ κ))
 refine Ad (fun m s q'=>∃(i i3:Nat) (xs:List AV),m=M.length-i/\i<=M.length/\s 3=sl i3 i xs/\s 10=fx ot 0 M.length/\s 11=ic M.length/\s 12=ic i/\Keep q q'/\Own q q' i3 i/\xs.length=i/\Ad8 (xs=Ar (Gu (M.take i)))) M.length
  ⟨0,1,[],Ad2,Ad2,Ad4,Ad4,Ad4,rfl,Xs,Own.nil _ _,by simp,by simp[Ad8,Gu,Ar]⟩ ?_
 rintro m s q' ⟨i,i3,xs,rfl,hi,h3,aw,av,au,hK,hO,ap,hX⟩;have ao:=hK.nobj;have e2:q'.obj ot=E7 M:=by rw[hK.obj _ lt,oc]
 by_cases ah:i<M.length
 ·have aa:=List.getElem?_eq_getElem ah;have an:=Hl aa;have hb:=hM.ln _ (Acz ah);generalize M[i]=x at aa an hb;have HX:Ad8 (xs++[ic (x.2.length:Int)]=Ar (Gu (M.take (i+1)))):=by
   rw[Ad8,Abq,aa,hX.out];simp[Gu,Ar]
  clear aa hX;have ak:xs.length=i*1:=Ad2
  repeat' (first|refine Z1 ?_|(refine Z8 ?_;intro κ hκ)|(refine Z4 ?_;clear hκ κ)|(refine Z2 ?_ ?_<;>intro h ad<;>try exact Xp)|(refine Z6 ?_;intro idn qn ai aj af ac ae ab)|refine Z3 ?_|exact⟨⟩|(apply hκ.out;clear hκ κ))
  refine⟨M.length-(i+1),Ad2,i+1,idn,xs++[ic (x.2.length:Int)],?_⟩
  ((repeat' with_reducible refine And.intro ?_ ?_)<;>first|exact Xq|exact (HX)|exact Xs)
 ·have am:i=M.length:=Ad2;subst am;have hX:=hX.out;rw[Abn]at hX
  repeat' (first|refine Z1 ?_|(refine Z8 ?_;intro κ hκ)|(refine Z4 ?_;clear hκ κ)|(refine Z2 ?_ ?_<;>intro h ad<;>try exact Xp)|(refine Z6 ?_;intro idn qn ai aj af ac ae ab)|refine Z3 ?_|exact⟨⟩|(apply hκ.out;clear hκ κ))
  first|exact⟨_,rfl,⟨i3,by rw[hX]⟩,hK⟩|exact⟨_,rfl,i3,by rw[hX]⟩|exact⟨_,rfl,⟨i3,rfl⟩⟩
structure Lit where
 neg:Bool
 a:C3
structure D2 where
 head:C3
 body:List Lit
def Od (l:Lit)(c:List AV):Prop:=∃id,c=[sc (.bool l.neg),ic l.a.p,sl id l.a.ts.length (Ac l.a.ts)]
theorem Fv (a:Lit)(c:List AV)(h:Od a c):c.length=3:=by obtain⟨id,rfl⟩:=h;rfl
theorem Gf {l:List Lit}{cs:List AV}{i:Nat}{p:Lit}(h:EL Od l cs)(hi:l[i]?=some p):∃id r,cs.drop (i*3)=sc (.bool p.neg)::ic p.a.p::sl id p.a.ts.length (Ac p.a.ts)::r:=by
 obtain⟨c,r,⟨id,rfl⟩,e⟩:=EL.get Fv h hi;exact⟨id,r,e⟩
def eL (r:D2)(c:List AV):Prop:=∃o ih ib bc,c=[sc (.bool o),ic r.head.p,sl ih r.head.ts.length (Ac r.head.ts),sl ib r.body.length bc]/\EL Od r.body bc
def A6 (M:MM)(p:Int):List Ca:=((M[p.toNat]?).map (·.2)).getD []
def T8 (M:MM)(nw:Int)(fr:Nat)(i:Nat)(l:Lit):List Ca:=if (i:Int)=nw then (A6 M l.a.p).drop fr else A6 M l.a.p
def dV (M:MM)(nw:Int)(fr:Nat)(x:Lit×Nat):Part:=⟨x.1.a,(T8 M nw fr x.2 x.1).filter (J0 x.1.a.ts)⟩
def Ls (M:MM)(nw:Int)(fr:Nat)(l:List Lit):List Part:=(l.zipIdx.filter fun x=>!x.1.neg).map (dV M nw fr)
def Pf (l:List Lit):List C3:=(l.filter (·.neg)).map (·.a)
def Jq (M:MM)(nw:Int)(fr:Nat)(r:D2):Qry:=⟨r.head,Ls M nw fr r.body,Pf r.body⟩
structure ROk (np:Nat)(r:D2):Prop where
 hd:r.head.ts.length<=3
 hp:∃k:Nat,r.head.p=(k:Int)/\k<np
 bl:r.body.length<=64
 ba:∀l∈r.body,l.a.ts.length<=3
 bp:∀l∈r.body,∃k:Nat,l.a.p=(k:Int)/\k<np
theorem oF (M:MM)(nw:Int)(fr:Nat)(l:List Lit)(w:Lit):Ls M nw fr (l++[w])=Ls M nw fr l++if w.neg=true then []else [dV M nw fr (w,l.length)]:=by
 unfold Ls;rw[List.zipIdx_append,Adg,Abt];congr 1;cases h:w.neg<;>simp[h]
theorem oE (l:List Lit)(w:Lit):Pf (l++[w])=Pf l++if w.neg=true then [w.a]else []:=by
 unfold Pf;rw[Adg,Abt];congr 1;cases h:w.neg<;>simp[h]
theorem Tk {α:Type}(l:List α)(fr k:Nat){x:α}(hx:l[k]?=some x):(l.take (k+1)).drop fr=(l.take k).drop fr++if fr<=k then [x]else []:=by
 have hk:=(List.getElem?_eq_some_iff.1 hx).1;rw[Abq,hx,Ac2,List.drop_append,Ab3,Ab6 Ad2];congr 1;by_cases h:fr<=k
 ·rw[if_pos h,show fr-k=0 by omega];rfl
 ·rw[if_neg h,Abk (by simp;omega)]
def T9 (i:Nat)(nw:Int)(fr:Nat)(ts:List Tm)(l:List Ca)(j:Nat):List Ca:=(if (i:Int)=nw then (l.take j).drop fr else l.take j).filter (J0 ts)
theorem oG {i:Nat}{nw:Int}{fr:Nat}{ts:List Tm}{l:List Ca}{j:Nat}{t:Ca}(aa:l[j]?=some t):T9 i nw fr ts l (j+1)=T9 i nw fr ts l j++if (((i:Int)≠nw\/fr<=j)/\J0 ts t=true)then [t]else []:=by
 unfold T9;by_cases e:(i:Int)=nw
 ·rw[if_pos e,if_pos e,Tk _ _ _ aa,Adg];congr 1;by_cases h1:fr<=j
  ·cases h2:J0 ts t<;>simp[h1,h2]
  ·simp[h1,e]
 ·rw[if_neg e,if_neg e,Abq,aa,Ac2,Dr];congr 1;cases h2:J0 ts t<;>simp[e]
theorem Ws (om ot:Nat)(M:MM)(d b:Int)(r:D2)(c:List AV)(nw:Int)(fr:Nat)(hc:eL r c)(hr:ROk M.length r)(co:fr<=100000)(q:St)(hM:MOb q om ot M d b):ACalls Tryz.prog 138 [ptr om 0,ag c,ic nw,ic fr] q fun x q'=>(∃c',x=ag c'/\EQ (Jq M nw fr r) c')/\Keep q q':=by
 obtain⟨o,ih,ib,bc,rfl,hB⟩:=hc;have cp:=EL.length Fv hB;have hl:=hr.bl;have hpl:=hM.pl;have ch:=Hk M;have lo:=hM.lo;have lt:=hM.lt;have obm:=hM.ob;have ocm:=hM.oc;refine Z9 82 [.cell 8 191] Tryz.func138 ?_
 repeat' (first|refine Z1 ?_|(refine Z8 ?_;intro κ hκ)|(refine Z4 ?_;clear hκ κ)|(refine Z2 ?_ ?_<;>intro h ae<;>try exact Xp)|(refine Z6 ?_;intro idn qn ai aj ac aa ad ab)|refine Z3 ?_|exact⟨⟩|(apply hκ.out;clear hκ κ))
 refine Ad (fun m s q'=>∃(i i3 i5:Nat) (l1:List Part) (l2:List C3) (xs ys:List AV),m=r.body.length-i/\i<=r.body.length/\s 0=ptr om 0/\s 2=ic nw/\s 3=ic fr/\s 8=ptr (q.nobj+1) 0/\s 9=ptr (q.nobj+2) 0/\s 19=sl ib r.body.length bc/\s 20=ic r.body.length/\s 21=ic i/\Keep q q'/\q.nobj+2<q'.nobj/\q'.obj (q.nobj+1)=[ic 0,nilS,nilS,nilS]/\q'.obj (q.nobj+2)=[ic r.head.p,sl ih r.head.ts.length (Ac r.head.ts),sl i3 l1.length xs,sl i5 l2.length ys]/\Own q q' i3 l1.length/\Own q q' i5 l2.length/\(i3=1\/i3≠i5)/\l1.length<=i/\l2.length<=i/\xs.length=l1.length*3/\ys.length=l2.length*2/\Ad8 (EL Ky l1 xs/\EL Lk l2 ys/\l1=Ls M nw fr (r.body.take i)/\l2=Pf (r.body.take i))) r.body.length
  ⟨0,1,1,[],[],[],[],Ad2,Ad2,by simp[upd,initS],by simp[upd,initS],by simp[upd,initS],Ad4,Ad4,Ad4,Ad4,rfl,Xs,Ad7,?_,?_,Own.nil _ _,Own.nil _ _,.inl rfl,by simp,by simp,by simp,by simp,⟨rfl,rfl,by simp[Ls],by simp[Pf]⟩⟩ ?_
 ·rw[Ai Ad2,Ae Ad6,Bp Ad6 Ad6]
 ·rw[show q.nobj+2=q.nobj+1+1 from rfl,Aj];simp
 rintro m s q' ⟨i,i3,i5,l1,l2,xs,ys,rfl,hi,h0,h2,h3,h8,h9,bz,bw,bv,hK,cg,a7,a6,ar,au,hne,cm,ck,b5,b4,hX⟩;have ce:=hK.nobj;have em:q'.obj om=[fx ot 0 M.length,ic d,ic b]:=by rw[hK.obj _ lo,obm]
 have et:q'.obj ot=E7 M:=by rw[hK.obj _ lt,ocm]
 by_cases bg:i<r.body.length
 ·have ah:=List.getElem?_eq_getElem bg;obtain⟨id,rr,hd⟩:=Gf hB ah;have bo:=hr.ba _ (Acz bg);obtain⟨k,hk,b8⟩:=hr.bp _ (Acz bg);generalize r.body[i]=w at hd ah bo hk;have HA:Ad8 (Ls M nw fr (r.body.take (i+1))=Ls M nw fr (r.body.take i)++(if w.neg=true then []else [dV M nw fr (w,i)])/\Pf (r.body.take (i+1))=Pf (r.body.take i)++if w.neg=true then [w.a]else []):=by
   rw[Ad8,Abq,ah,Ac2,oF,oE,Ab3,Ab6 Ad2];exact⟨rfl,rfl⟩
  clear ah;cases am:w.neg with
  |true=>
   rw[am]at hd;have HX:Ad8 (EL Ky l1 xs/\EL Lk (l2++[w.a]) (ys++[ic w.a.p,sl id w.a.ts.length (Ac w.a.ts)])/\l1=Ls M nw fr (r.body.take (i+1))/\l2++[w.a]=Pf (r.body.take (i+1))):=by
    obtain⟨x1,x2,x3,x4⟩:=hX.out;exact⟨x1,EL.append x2 (EL.single ⟨id,rfl⟩),by rw[HA.out.1,if_pos am,Abv,x3],by rw[HA.out.2,if_pos am,x4]⟩
   clear hX HA
   repeat' (first|refine Z1 ?_|(refine Z8 ?_;intro κ hκ)|(refine Z4 ?_;clear hκ κ)|(refine Z2 ?_ ?_<;>intro h ae<;>try exact Xp)|(refine Z6 ?_;intro idn qn ai aj ac aa ad ab)|refine Z3 ?_|exact⟨⟩|(apply hκ.out;clear hκ κ))
   refine Gl (by first|exact Er|exact Fj|exact Dh) ((hK.new _).put hK.nobj _) (Own.put (Own.new au _) _ _) (by decide) (by rfl) b4 (by rfl) (by rfl) (by decide) Ad2 Ad2 ?_;intro idn qn ai aj ac aa ad ab ak;obtain⟨ay,b7⟩:=ak i3 l1.length (Own.put (Own.new ar _) _ _) Ad2;have bb:i3=1\/i3≠idn:=Ad2;simp only[Ab,Aa]at aa;have eob:∀p,p<q'.nobj->qn.obj p=q'.obj p:=fun p hp=>by rw[ac,Ai Ad2,Ae Ad2]
   refine Z3 ?_
   repeat' (first|refine Z1 ?_|(refine Z8 ?_;intro κ hκ)|(refine Z4 ?_;clear hκ κ)|(refine Z2 ?_ ?_<;>intro h ae<;>try exact Xp)|(refine Z6 ?_;intro idn qn ai aj ac aa ad ab)|refine Z3 ?_|exact⟨⟩|(apply hκ.out;clear hκ κ))
   refine⟨r.body.length-(i+1),Ad2,i+1,i3,idn,l1,l2++[w.a],xs,ys++[ic w.a.p,sl id w.a.ts.length (Ac w.a.ts)],?_⟩
   ((repeat' with_reducible refine And.intro ?_ ?_)<;>first|exact Xq|exact (aj.put Ad2 _)|exact (by simpa using Own.put ai _ _)|exact (Own.put ay _ _)|exact (HX)|exact Xs)
  |false=>
   rw[am]at hd;have ap:M[k]?=some M[k]:=List.getElem?_eq_getElem b8;generalize M[k]=x at ap;have bm:=Abh ap;have cn:=Hl ap;have bu:=hM.t3 x bm;have ci:=hM.ln x bm;have cf:=H5 bu;have HT:Ad8 (A6 M w.a.p=x.2):=by rw[Ad8,A6,hk];simp[ap]
   rw[hk]at hd;have bq:Ad8 _:=hX
   repeat' (first|refine Z1 ?_|(refine Z8 ?_;intro κ hκ)|(refine Z4 ?_;clear hκ κ)|(refine Z2 ?_ ?_<;>intro h ae<;>try exact Xp)|(refine Z6 ?_;intro idn qn ai aj ac aa ad ab)|refine Z3 ?_|exact⟨⟩|(apply hκ.out;clear hκ κ))
   refine Bt Ak (fun _=>True) [] [0,1,2,3,4,5,6,7,8,9,10] [] Ad5 (fun _ _ _ h=>h) ?_;intro κ hκ
   repeat' (first|refine Z1 ?_|(refine Z8 ?_;intro κ hκ)|(refine Z4 ?_;clear hκ κ)|(refine Z2 ?_ ?_<;>intro h ae<;>try exact Xp)|(refine Z6 ?_;intro idn qn ai aj ac aa ad ab)|refine Z3 ?_|exact⟨⟩|(apply hκ.out;clear hκ κ))
   refine Ad (fun m s q2=>∃(j i6:Nat) (l3:List Ca) (zs:List AV),m=x.2.length-j/\j<=x.2.length/\s 0=ptr om 0/\s 2=ic nw/\s 3=ic fr/\s 8=ptr (q.nobj+1) 0/\s 9=ptr (q.nobj+2) 0/\s 10=ic i/\s 11=ptr q'.nobj 0/\s 12=ptr (q'.nobj+1) 0/\s 19=sl ib r.body.length bc/\s 20=ic r.body.length/\s 21=ic i/\s 46=sl x.1 x.2.length (D9 x.2)/\s 47=ic x.2.length/\s 48=ic j/\Keep q q2/\q'.nobj+1<q2.nobj/\q2.obj (q.nobj+1)=[ic 0,nilS,nilS,nilS]/\q2.obj (q.nobj+2)=[ic r.head.p,sl ih r.head.ts.length (Ac r.head.ts),sl i3 l1.length xs,sl i5 l2.length ys]/\q2.obj q'.nobj=[sc (.bool false),ic (k:Int),sl id w.a.ts.length (Ac w.a.ts)]/\q2.obj (q'.nobj+1)=[ic (k:Int),sl id w.a.ts.length (Ac w.a.ts),sl i6 l3.length zs]/\Own q q2 i3 l1.length/\Own q q2 i5 l2.length/\Own q q2 i6 l3.length/\(i6=1\/i6≠i3)/\(i6=1\/i6≠i5)/\l3.length<=j/\zs.length=l3.length*3/\Ad8 (zs=D9 l3/\l3=T9 i nw fr w.a.ts x.2 j)) x.2.length
    ⟨0,1,[],[],Ad2,Ad2,Ad3,Ad3,Ad3,Ad3,Ad3,Ad3,Ad3,Ad3,Ad3,Ad3,Ad3,Ad3,Ad3,Ad4,Xs,Ad7,?_,?_,?_,?_,Own.put (Own.new (Own.put (Own.new ar _) _ _) _) _ _,Own.put (Own.new (Own.put (Own.new au _) _ _) _) _ _,Own.nil _ _,.inl rfl,.inl rfl,by simp,by simp,⟨rfl,by simp[T9]⟩⟩ ?_
   ·rw[Ai Ad2,Ae Ad7,Ai Ad2,Ae Ad2,a7]
   ·rw[Ai Ad2,Ae Ad7,Ai Ad2,Ae Ad2,a6]
   ·rw[Ai Ad2,Ae Ad7,Aj]
   ·rw[Aj];simp
   generalize bi:q'.nobj=o11 at*
   clear bi h0 h2 h3 h8 h9 bz bw bv hK a7 a6 ar au em et hX;rintro m s q2 ⟨j,i6,l3,zs,rfl,hj,h0,h2,h3,h8,h9,cw,cv,cu,bz,bw,bv,ct,cr,cq,hK,b6,a7,a6,b1,b0,ar,au,bh,be,bd,cj,b3,hZ⟩;have b2:=hK.nobj;by_cases bf:j<x.2.length
   ·have ah:=List.getElem?_eq_getElem bf;obtain⟨aw,r2,cb⟩:=Io bu ah;generalize x.2[j]=t at cb ah aw;have HD:Ad8 (T9 i nw fr w.a.ts x.2 (j+1)=T9 i nw fr w.a.ts x.2 j++if (((i:Int)≠nw\/fr<=j)/\J0 w.a.ts t=true)then [t]else []):=oG ah;clear ah;have f1:=Gs aw;have f2:=Le aw;have f3:=Hn aw;have f4:=Ml aw;have f5:=Ee t;have f6:=Wl aw;have a5:=fun q=>gV k id w.a.ts t aw bo q;by_cases af:(i:Int)≠nw\/fr<=j
    ·cases hf:J0 w.a.ts t with
     |true=>
      rw[hf]at a5;have HZ:Ad8 (zs++Ar t=D9 (l3++[t])/\l3++[t]=T9 i nw fr w.a.ts x.2 (j+1)):=by
       obtain⟨x1,x2⟩:=hZ.out;exact⟨by rw[x1,Na],by rw[HD.out,if_pos ⟨af,hf⟩,x2]⟩
      clear hZ HD;have hs:((i:Int) !=nw)=true\/(((i:Int) !=nw)=false/\decide ((j:Int)>=(fr:Int))=true):=by
       by_cases e:(i:Int)=nw
       ·right;have:fr<=j:=by rcases af with h|h;exact absurd e h;exact h
        exact⟨by simp[e],by simp;omega⟩
       ·left;simpa using e
      clear af;rcases hs with a4|⟨a4,bn⟩
      all_goals
       repeat' (first|refine Z1 ?_|(refine Z8 ?_;intro κ hκ)|(refine Z4 ?_;clear hκ κ)|(refine Z2 ?_ ?_<;>intro h ae<;>try exact Xp)|(refine Z6 ?_;intro idn qn ai aj ac aa ad ab)|(refine Z5 ?_;refine Xi (a5 _) ?_;rintro _ _ ⟨rfl,an⟩;(have av:=an.nobj;have ao:=an.obj;have br:=((hK.new _).put hK.nobj _).trans an;have a3:=Own.keep (Own.put (Own.new ar _) _ _) an;have a0:=Own.keep (Own.put (Own.new au _) _ _) an;have az:=Own.keep (Own.put (Own.new bh _) _ _) an;simp only[Ab,Aa]at av ao;have a8:=ao q2.nobj Ad2;rw[Aj]at a8))|refine Z3 ?_|exact⟨⟩|(apply hκ.out;clear hκ κ))
       refine Gl (by first|exact Er|exact Fj|exact Dh) br az (by decide) (by rfl) b3 (by rw[f1]) f5 (by decide) Ad2 Ad2 ?_;intro idn qn ai aj ac aa ad ab ak;obtain⟨ay,bb⟩:=ak i3 l1.length a3 be;obtain⟨ax,a9⟩:=ak i5 l2.length a0 bd;have eob:∀p,p<q2.nobj->qn.obj p=q2.obj p:=fun p hp=>by rw[ac,ao _ Ad2,Ai Ad2,Ae Ad2]
       refine Z3 ?_
       repeat' (first|refine Z1 ?_|(refine Z8 ?_;intro κ hκ)|(refine Z4 ?_;clear hκ κ)|(refine Z2 ?_ ?_<;>intro h ae<;>try exact Xp)|(refine Z6 ?_;intro idn qn ai aj ac aa ad ab)|refine Z3 ?_|exact⟨⟩|(apply hκ.out;clear hκ κ))
       refine⟨x.2.length-(j+1),Ad2,j+1,idn,l3++[t],zs++Ar t,?_⟩
       ((repeat' with_reducible refine And.intro ?_ ?_)<;>first|exact Xq|exact (aj.put Ad2 _)|exact (by simpa using Own.put ai _ _)|exact (Own.put ay _ _)|exact (Own.put ax _ _)|exact (HZ)|exact Xs)
     |false=>
      rw[hf]at a5;have HZ:Ad8 (zs=D9 l3/\l3=T9 i nw fr w.a.ts x.2 (j+1)):=by
       obtain⟨x1,x2⟩:=hZ.out;exact⟨x1,by rw[HD.out,if_neg (fun h=>by rw[hf]at h;cases h.2),x2,Abv]⟩
      clear hZ HD;have hs:((i:Int) !=nw)=true\/(((i:Int) !=nw)=false/\decide ((j:Int)>=(fr:Int))=true):=by
       by_cases e:(i:Int)=nw
       ·right;have:fr<=j:=by rcases af with h|h;exact absurd e h;exact h
        exact⟨by simp[e],by simp;omega⟩
       ·left;simpa using e
      clear af;rcases hs with a4|⟨a4,bn⟩
      all_goals
       repeat' (first|refine Z1 ?_|(refine Z8 ?_;intro κ hκ)|(refine Z4 ?_;clear hκ κ)|(refine Z2 ?_ ?_<;>intro h ae<;>try exact Xp)|(refine Z6 ?_;intro idn qn ai aj ac aa ad ab)|(refine Z5 ?_;refine Xi (a5 _) ?_;rintro _ _ ⟨rfl,an⟩;(have av:=an.nobj;have ao:=an.obj;have br:=((hK.new _).put hK.nobj _).trans an;have a3:=Own.keep (Own.put (Own.new ar _) _ _) an;have a0:=Own.keep (Own.put (Own.new au _) _ _) an;have az:=Own.keep (Own.put (Own.new bh _) _ _) an;simp only[Ab,Aa]at av ao))|refine Z3 ?_|exact⟨⟩|(apply hκ.out;clear hκ κ))
       refine⟨x.2.length-(j+1),Ad2,j+1,i6,l3,zs,?_⟩
       ((repeat' with_reducible refine And.intro ?_ ?_)<;>first|exact Xq|exact (HZ)|exact Xs)
    ·have HZ:Ad8 (zs=D9 l3/\l3=T9 i nw fr w.a.ts x.2 (j+1)):=by
      obtain⟨x1,x2⟩:=hZ.out;exact⟨x1,by rw[HD.out,if_neg (fun h=>af h.1),x2,Abv]⟩
     have a4:((i:Int) !=nw)=false:=by
      cases h:(i:Int) !=nw with
      |false=>rfl
      |true=>exact absurd (.inl (by simpa using h)) af
     have bn:decide ((j:Int)>=(fr:Int))=false:=by
      have:¬fr<=j:=fun h=>af (.inr h);simp;omega
     clear hZ HD af
     repeat' (first|refine Z1 ?_|(refine Z8 ?_;intro κ hκ)|(refine Z4 ?_;clear hκ κ)|(refine Z2 ?_ ?_<;>intro h ae<;>try exact Xp)|(refine Z6 ?_;intro idn qn ai aj ac aa ad ab)|refine Z3 ?_|exact⟨⟩|(apply hκ.out;clear hκ κ))
     refine⟨x.2.length-(j+1),Ad2,j+1,i6,l3,zs,?_⟩
     ((repeat' with_reducible refine And.intro ?_ ?_)<;>first|exact Xq|exact (Own.put (Own.new ar _) _ _)|exact (Own.put (Own.new au _) _ _)|exact (Own.put (Own.new bh _) _ _)|exact (HZ)|exact Xs)
   ·have b9:j=x.2.length:=Ad2;subst b9;have HX:Ad8 (EL Ky (l1++[⟨w.a,l3⟩]) (xs++[ic (k:Int),sl id w.a.ts.length (Ac w.a.ts),sl i6 l3.length zs])/\EL Lk l2 ys/\l1++[⟨w.a,l3⟩]=Ls M nw fr (r.body.take (i+1))/\l2=Pf (r.body.take (i+1))):=by
     obtain⟨x1,x2,x3,x4⟩:=bq.out;obtain⟨z1,z2⟩:=hZ.out;refine⟨EL.append x1 (EL.single ⟨id,i6,by rw[hk,z1]⟩),x2,?_,by rw[HA.out.2,if_neg (by rw[am];simp),Abv,x4]⟩;rw[HA.out.1,if_neg (by rw[am];simp),x3];congr 2;unfold dV T8;simp only[HT.out];rw[z2];unfold T9;rw[Abn]
    clear hZ bq HA;have cd:True->Own q q2 i3 l1.length:=fun _=>ar;clear ar
    repeat' (first|refine Z1 ?_|(refine Z8 ?_;intro κ hκ)|(refine Z4 ?_;clear hκ κ)|(refine Z2 ?_ ?_<;>intro h ae<;>try exact Xp)|(refine Z6 ?_;intro idn qn ai aj ac aa ad ab)|refine Z3 ?_|exact⟨⟩|(apply hκ.out;clear hκ κ))
    refine Gl (by first|exact Er|exact Fj|exact Dh) hK (cd trivial) (by decide) (by rfl) b5 (by rfl) (by rfl) (by decide) Ad2 Ad2 ?_;intro idn qn ai aj ac aa ad ab ak;obtain⟨ax,a9⟩:=ak i5 l2.length au hne;refine Z3 ?_
    repeat' (first|refine Z1 ?_|(refine Z8 ?_;intro κ hκ)|(refine Z4 ?_;clear hκ κ)|(refine Z2 ?_ ?_<;>intro h ae<;>try exact Xp)|(refine Z6 ?_;intro idn qn ai aj ac aa ad ab)|refine Z3 ?_|exact⟨⟩|(apply hκ.out;clear hκ κ))
    refine⟨r.body.length-(i+1),Ad2,i+1,idn,i5,l1++[⟨w.a,l3⟩],l2,xs++[ic (k:Int),sl id w.a.ts.length (Ac w.a.ts),sl i6 l3.length zs],ys,?_⟩
    ((repeat' with_reducible refine And.intro ?_ ?_)<;>first|exact Xq|exact (aj.put Ad2 _)|exact (by simpa using Own.put ai _ _)|exact (Own.put ax _ _)|exact (HX)|exact Xs)
 ·have ca:i=r.body.length:=Ad2;subst ca;obtain⟨x1,x2,x3,x4⟩:=hX.out;rw[Abn]at x3 x4
  repeat' (first|refine Z1 ?_|(refine Z8 ?_;intro κ hκ)|(refine Z4 ?_;clear hκ κ)|(refine Z2 ?_ ?_<;>intro h ae<;>try exact Xp)|(refine Z6 ?_;intro idn qn ai aj ac aa ad ab)|refine Z3 ?_|exact⟨⟩|(apply hκ.out;clear hκ κ))
  exact⟨_,rfl,⟨_,rfl,ih,i3,i5,xs,ys,by first|(simp only[Jq];done)|(simp only[Jq];rw[x3,x4]),by simp only[Jq];rw[<-x3];exact x1,by simp only[Jq];rw[<-x4];exact x2⟩,hK.put Ad2 _⟩
end Go.Proofs.YtmoeoppbmhfbpabGreatDoorH
