import Derived.Test.YtmoeoppbmhfbpabGreatDoorJEngO
set_option maxHeartbeats 32000000
set_option maxRecDepth 100000
set_option linter.all false
namespace Go.Proofs.YtmoeoppbmhfbpabGreatDoorJ
open Go.Abs
structure KM (om ot:Nat)(M M':MM)(q q':St):Prop where
 nobj:q.nobj<=q'.nobj
 obj:∀o,o<q.nobj->o≠om->o≠ot->q'.obj o=q.obj o
 ver:∀o,o<q.nobj->o≠om->o≠ot->q'.ver o=q.ver o
 ntop:q.ntop<=q'.ntop
 top:∀k,k<q.ntop->(∀x∈M,x.1≠k+2)->q'.top k=q.top k
 mid:∀x∈M',(∃y∈M,y.1=x.1)\/x.1=1\/q.ntop+2<=x.1
theorem KM.ofKeep {om ot:Nat}{M:MM}{q q':St}(h:Keep q q'):KM om ot M M q q':=
 ⟨h.nobj,fun o ho _ _=>h.obj o ho,fun o ho _ _=>h.ver o ho,h.ntop,fun k hk _=>h.top k hk,fun x hx=>.inl ⟨x,hx,rfl⟩⟩
theorem KM.trans {om ot:Nat}{M M1 M2:MM}{q q1 q2:St}(h:KM om ot M M1 q q1)(g:KM om ot M1 M2 q1 q2):KM om ot M M2 q q2 where
 nobj:=Abg h.nobj g.nobj
 obj:=fun o ho h1 h2=>(g.obj o (Abh ho h.nobj) h1 h2).trans (h.obj o ho h1 h2)
 ver:=fun o ho h1 h2=>(g.ver o (Abh ho h.nobj) h1 h2).trans (h.ver o ho h1 h2)
 ntop:=Abg h.ntop g.ntop
 top:=fun k hk hx=>(g.top k (Abh hk h.ntop) (fun x aa e=>by
  rcases h.mid x aa with⟨y,hy,e2⟩|e2|e2
  ·exact hx y hy (e2.trans e)
  ·omega
  ·omega)).trans (h.top k hk hx)
 mid:=fun x hx=>by
  rcases g.mid x hx with⟨y,hy,e⟩|e|e
  ·rcases h.mid y hy with⟨z,hz,e2⟩|e2|e2
   ·exact .inl ⟨z,hz,e2.trans e⟩
   ·exact .inr (.inl Ad6)
   ·exact .inr (.inr Ad6)
  ·exact .inr (.inl e)
  ·exact .inr (.inr (by have:=h.ntop;omega))
theorem oL {P:Program}{t:TypeId}{z b:Nat}{zc:List Value}{q:St}{id id2 n m m':Nat}{xs ys:List AV}{K:AV->St->Prop}(ht:Lp P t=some (z,b,zc))(hO:Live q id n)
  (hz:0<z) (hzc:zc.length=z) (hx:xs.length=n*z) (hy:ys.length=m*z) (hf:ys.all flat=true) (hm:0<m) (hb:(n+m)*b<=140737488355328) (hl:n+m<=1099511627776)
  (h:∀id' q',Live q' id' (n+m)->(id'=id\/q.ntop+2<=id')->id'≠1->q'.obj=q.obj->q'.nobj=q.nobj->q'.ver=q.ver->q.ntop<q'.ntop->(∀k,k<q.ntop->k+2≠id->q'.top k=q.top k)->K (sl id' (n+m) (xs++ys)) q'):Hg P t t (sl id n xs) (sl id2 m ys) (q.lay m') K:=by
 unfold Hg Yz;left;simp only[ht];rw[if_pos ⟨trivial,hz,hzc,hx,hy,hf,hm,hb,hl⟩];rcases hO with⟨rfl,rfl⟩|⟨k,rfl,h3,h4,h5⟩
 ·have aa:xs=[]:=Abq (by simpa using hx);subst aa;have:=h ((q.lay m').ntop+2) ((q.lay m').lay m) (.inr ⟨(q.lay m').ntop,rfl,by simp[St.lay],by simp[St.lay],Ad6⟩) (.inr (by simp[St.lay])) (by simp) rfl rfl rfl (by simp[St.lay];omega) (fun k hk _=>(((Keep.refl q).lay m').lay m).top k hk);simpa using this
 ·have e1:(q.lay m').top k=n:=by simp[St.lay];rw[if_neg Ad6];exact h4
  simp only;rw[if_pos ⟨e1,h5⟩]
  exact h (k+2) _ (.inr ⟨k,rfl,by simp[St.raise,St.lay];omega,by simp[St.raise],Ad6⟩) (.inl rfl) Ad6 rfl rfl rfl (by simp[St.raise,St.lay]) (fun j hj ab=>by
   simp[St.raise,St.lay]
   rw[if_neg Ad6,if_neg Ad6])
theorem MOb.grow {q q':St}{om ot:Nat}{M:MM}{d b:Int}{k id':Nat}{x:Nat×List Bc}{t:Bc}(hM:MOb q om ot M d b)(hx:M[k]?=some x)(ht:t.length=3)(hn:x.2.length<5000)
  (hL:Live q' id' (x.2.length+1)) (hid:id'=x.1\/q.ntop+2<=id') (an:id'≠1) (eob:∀o,o<q.nobj->o≠ot->q'.obj o=q.obj o) (aj:∀o,o<q.nobj->o≠ot->q'.ver o=q.ver o) (eoc:q'.obj ot=(En M).set k (sl id' (x.2.length+1) (Cx x.2++icells t))) (eno:q.nobj<=q'.nobj) (ento:q.ntop<=q'.ntop)
  (etop:∀j,j<q.ntop->j+2≠x.1->q'.top j=q.top j):MOb q' om ot (M.set k (id',x.2++[t])) d b/\KM om ot M (M.set k (id',x.2++[t])) q q':=by
 have ae:=Abm hx;have am:k<M.length:=(List.getElem?_eq_some_iff.1 hx).1;have ah:∀(i:Nat) (y:Nat×List Bc),M[i]?=some y->i≠k->Live q' y.1 y.2.length/\(y.1=1\/y.1≠id'):=fun i y hy ac=>by
  have ak:=Abm hy;rcases hM.live y ak with h|⟨j,e1,e2,e3,e4⟩
  ·exact⟨.inl h,.inl h.1⟩
  ·have ao:y.1≠x.1:=by
    rcases hM.inj i k y x hy hx ac with h|h
    ·omega
    ·exact h
   refine⟨.inr ⟨j,e1,Abh e2 ento,(etop j e2 Ad6).trans e3,e4⟩,.inr ?_⟩;rcases hid with h|h<;>omega
 have aa:∀(i:Nat) (y:Nat×List Bc),(M.set k (id',x.2++[t]))[i]?=some y->(i=k/\y=(id',x.2++[t]))\/(i≠k/\M[i]?=some y):=fun i y hy=>by
  rw[List.getElem?_set]at hy;by_cases e:k=i
  ·subst e;rw[if_pos rfl,if_pos am]at hy;exact .inl ⟨rfl,(Ads hy).symm⟩
  ·rw[if_neg e]at hy;exact .inr ⟨fun h=>e h.symm,hy⟩
 have ab:∀y∈M.set k (id',x.2++[t]),y=(id',x.2++[t])\/y∈M:=fun y hy=>(Adt hy).symm;have ai:∀y∈M.set k (id',x.2++[t]),∃i,(M.set k (id',x.2++[t]))[i]?=some y:=fun y hy=>List.getElem?_of_mem hy;refine⟨⟨?_,?_,Abh hM.lo eno,Abh hM.lt eno,hM.ne,?_,?_,?_,?_,by simp;exact hM.pl⟩,⟨eno,fun o ho h1 h2=>eob o ho h2,fun o ho h1 h2=>aj o ho h2,ento,fun j hj h=>etop j hj (fun e=>h x ae e.symm),?_⟩⟩
 ·rw[eob om hM.lo hM.ne,hM.ob];simp
 ·rw[eoc];unfold En;rw[List.map_set];congr 1;simp[Cx]
 ·intro y hy;obtain⟨i,hi⟩:=ai y hy;rcases aa i y hi with⟨-,rfl⟩|⟨ac,ad⟩
  ·simpa using hL
  ·exact (ah i y ad ac).1
 ·intro i j y w hy hw ac;rcases aa i y hy with⟨rfl,rfl⟩|⟨h1,ad⟩
  ·rcases aa j w hw with⟨rfl,rfl⟩|⟨h2,af⟩
   ·exact absurd rfl ac
   ·have:=(ah j w af h2).2;simp only;by_cases e:id'=w.1
    ·rcases this with h|h
     ·omega
     ·omega
    ·exact .inr e
  ·rcases aa j w hw with⟨rfl,rfl⟩|⟨h2,af⟩
   ·exact (ah i y ad h1).2
   ·exact hM.inj i j y w ad af ac
 ·intro y hy;rcases ab y hy with rfl|hy
  ·intro u hu;rcases Aco.1 hu with h|h
   ·exact hM.t3 x ae u h
   ·simp at h;subst h;exact ht
  ·exact hM.t3 y hy
 ·intro y hy;rcases ab y hy with rfl|hy
  ·simp;omega
  ·exact hM.ln y hy
 ·intro y hy;rcases ab y hy with rfl|hy
  ·rcases hid with h|h
   ·exact .inl ⟨x,ae,h.symm⟩
   ·exact .inr (.inr h)
  ·exact .inl ⟨y,hy,rfl⟩
theorem Tb (om ot:Nat)(M:MM)(d b:Int)(a:C6)(id k:Nat)(x:Nat×List Bc)(ha:a.ts.length<=3)(hk:a.p=(k:Int))(hx:M[k]?=some x)(hn:x.2.length<5000)(q:St)(hM:MOb q om ot M d b):ACalls Tryz.prog 82 [ptr om 0,ag [ic a.p,sl id a.ts.length (Ac a.ts)]] q fun r q'=>∃id',MOb q' om ot (M.set k (id',x.2++[C7 a])) d b/\KM om ot M (M.set k (id',x.2++[C7 a])) q q':=by
 have av:a.ts.length<=1000:=Ad6;have ap:=fun q=>Pr a.p id a.ts av q;have ao:=Abm hx;have h3:=hM.t3 x ao;have hL:=hM.live x ao;have au:=Ef h3;have a0:k<M.length:=(List.getElem?_eq_some_iff.1 hx).1;have hpl:=hM.pl;have az:=F9 M;have a3:=Ga hx;have lo:=hM.lo;have lt:=hM.lt;have ob:=hM.ob;have oc:=hM.oc;rw[hk];rw[hk]at ap;have aj:(Es (a.ts.map (·.2))).length=3:=rfl;have HT:Aec (C7 a=Es (a.ts.map (·.2))):=rfl;generalize C7 a=ta at*
 generalize Es (a.ts.map (·.2))=t0 at*
 have w1:=C9 aj;have w5:=Ce t0;have w4:=Gz aj;refine Z9 23 [] Tryz.func82 ?_
 repeat' (first|refine Z1 ?_|(refine Z8 ?_;intro κ hκ)|(refine Z4 ?_;clear hκ κ)|(refine Z2 ?_ ?_<;>intro h an<;>try exact Xp)|(refine Z6 ?_;intro idn qn aw ay ac ae aa ad)|refine Z3 ?_|exact⟨⟩|(apply hκ.out;clear hκ κ))
 refine Bq (Q:=fun e s' q'=>e= .normal/\∃id',MOb q' om ot (M.set k (id',x.2++[ta])) d b/\KM om ot M (M.set k (id',x.2++[ta])) q q') ?_ ?_
 ·refine A3 Ah (fun _=>True) [19] [0,1,2,3,4,5,6,7,8,9,10,11,12,13,14] 5 #[true,true,true,true,true,true,true,true,true,true,true,true,true,true,true,false,false,false,false,false] Ad9 (fun _ _ _ h=>by cases h.1) ?_;intro κ hκ;refine Z3 ?_;refine hκ.out _ ?_;clear hκ κ;refine Am (i:=15) Ad9 ?_;refine Ar ?_;intro κ hκ;refine Z3 ?_;refine ACalls.mono (ap _) ?_;rintro _ q5 ⟨rfl,af⟩;refine Z3 ?_;refine hκ.out _ _ ⟨Aq af,?_⟩;clear hκ κ;have ai:=af.nobj;simp only[Aa]at ai;have ab:Keep q q5:=((Keep.refl q).new _).trans af;have e1:q5.obj om=[fx ot 0 M.length,ic d,ic b]:=by rw[ab.obj _ lo,ob]
  have e2:q5.obj ot=En M:=by rw[ab.obj _ lt,oc]
  refine Am (i:=16) Ad9 ?_;refine Ar ?_;intro κ hκ;refine Z3 ?_;refine hκ.out _ _ ⟨Aq (af.lay 1),?_⟩;clear hκ κ;refine Am (i:=17) Ad9 ?_;refine Ar ?_;intro κ hκ;refine Z3 ?_;refine oL (by first|exact E0) (hL.keep ab) (by decide) (by rfl) au (by rw[w1]) w5 (by decide) Ad6 Ad6 ?_;intro idn qn ax ak am ac ae aa ad etop;have e3:qn.obj ot=En M:=by rw[ac,e2]
  refine Z3 ?_;refine hκ.out _ _ ⟨fun _ o ho _=>by rw[aa];exact af.ver o ho,?_⟩;clear hκ κ;refine Am (i:=18) Ad9 ?_;refine Ar ?_;intro κ hκ;refine Z3 ?_;refine hκ.out _ _ ⟨fun _ o ho _=>by rw[aa];exact af.ver o ho,?_⟩;clear hκ κ;refine Am (i:=19) Ad9 ?_;refine Ar ?_;intro κ hκ;refine Z3 ?_;refine hκ.out _ _ ⟨Bt rfl,?_⟩;clear hκ κ;refine A7 Ad9 ⟨rfl,idn,?_⟩;rw[HT.out];refine MOb.grow hM hx aj hn ?_ ?_ am ?_ ?_ ?_ ?_ ?_ ?_
  ·rcases ax with h|⟨j,h1,h2,h3,h4⟩
   ·exact .inl h
   ·exact .inr ⟨j,h1,h2,h3,h4⟩
  ·have:=ab.ntop;rcases ak with h|h
   ·exact .inl h
   ·exact .inr Ad6
  ·intro o ho ah;rw[show∀(S:St) c,(S.put ot c).obj o=S.obj o from fun S c=>by simp[St.put,ah],ac,ab.obj o ho]
  ·intro o ho ah;rw[show∀(S:St) c,(S.put ot c).ver o=S.ver o from fun S c=>by simp[St.put,ah],aa,ab.ver o ho]
  ·rw[Ak]
  ·have:=ab.nobj;simp only[Ab];omega
  ·have:=ab.ntop;simp only[R6];omega
  ·intro j hj ah;rw[Qo,etop j (Abh hj ab.ntop) ah,ab.top j hj]
 ·rintro e s' q'' ⟨rfl,idn,h1,h2⟩
  repeat' (first|refine Z1 ?_|(refine Z8 ?_;intro κ hκ)|(refine Z4 ?_;clear hκ κ)|(refine Z2 ?_ ?_<;>intro h an<;>try exact Xp)|(refine Z6 ?_;intro idn qn aw ay ac ae aa ad)|refine Z3 ?_|exact⟨⟩|(apply hκ.out;clear hκ κ))
  exact⟨_,rfl,idn,h1,h2⟩
def G4 (M:MM):List Int:=M.map fun x=>(x.2.length:Int)
theorem Yo (om ot:Nat)(M:MM)(d b:Int)(q:St)(hM:MOb q om ot M d b):ACalls Tryz.prog 137 [ptr om 0] q fun r q'=>(∃id,r=sl id M.length (icells (G4 M)))/\Keep q q':=by
 have hpl:=hM.pl;have au:=F9 M;have lo:=hM.lo;have lt:=hM.lt;have ob:=hM.ob;have oc:=hM.oc;refine Z9 23 [.tmp 2] Tryz.func137 ?_
 repeat' (first|refine Z1 ?_|(refine Z8 ?_;intro κ hκ)|(refine Z4 ?_;clear hκ κ)|(refine Z2 ?_ ?_<;>intro h ad<;>try exact Xp)|(refine Z6 ?_;intro idn qn ai aj af ac ae ab)|refine Z3 ?_|exact⟨⟩|(apply hκ.out;clear hκ κ))
 refine Ad (fun m s q'=>∃(i i3:Nat) (xs:List AV),m=M.length-i/\i<=M.length/\s 3=sl i3 i xs/\s 10=fx ot 0 M.length/\s 11=ic M.length/\s 12=ic i/\Keep q q'/\Own q q' i3 i/\xs.length=i/\Aec (xs=icells (G4 (M.take i)))) M.length
  ⟨0,1,[],Ad6,Ad6,Ad8,Ad8,Ad8,rfl,Xs,Own.nil _ _,by simp,by simp[Aec,G4,icells]⟩ ?_
 rintro m s q' ⟨i,i3,xs,rfl,hi,h3,ax,aw,av,hK,hO,ap,hX⟩;have ao:=hK.nobj;have e2:q'.obj ot=En M:=by rw[hK.obj _ lt,oc]
 by_cases ah:i<M.length
 ·have aa:=List.getElem?_eq_getElem ah;have an:=Ga aa;have hb:=hM.ln _ (Ac2 ah);generalize M[i]=x at aa an hb;have HX:Aec (xs++[ic (x.2.length:Int)]=icells (G4 (M.take (i+1)))):=by
   rw[Aec,Abv,aa,hX.out];simp[G4,icells]
  clear aa hX;have ak:xs.length=i*1:=Ad6
  repeat' (first|refine Z1 ?_|(refine Z8 ?_;intro κ hκ)|(refine Z4 ?_;clear hκ κ)|(refine Z2 ?_ ?_<;>intro h ad<;>try exact Xp)|(refine Z6 ?_;intro idn qn ai aj af ac ae ab)|refine Z3 ?_|exact⟨⟩|(apply hκ.out;clear hκ κ))
  refine⟨M.length-(i+1),Ad6,i+1,idn,xs++[ic (x.2.length:Int)],?_⟩
  ((repeat' with_reducible refine And.intro ?_ ?_)<;>first|exact Xq|exact (HX)|exact Xs)
 ·have am:i=M.length:=Ad6;subst am;have hX:=hX.out;rw[Abt]at hX
  repeat' (first|refine Z1 ?_|(refine Z8 ?_;intro κ hκ)|(refine Z4 ?_;clear hκ κ)|(refine Z2 ?_ ?_<;>intro h ad<;>try exact Xp)|(refine Z6 ?_;intro idn qn ai aj af ac ae ab)|refine Z3 ?_|exact⟨⟩|(apply hκ.out;clear hκ κ))
  first|exact⟨_,rfl,⟨i3,by rw[hX]⟩,hK⟩|exact⟨_,rfl,i3,by rw[hX]⟩|exact⟨_,rfl,⟨i3,rfl⟩⟩
structure Lit where
 neg:Bool
 a:C6
structure Dq where
 head:C6
 body:List Lit
def Pz (l:Lit)(c:List AV):Prop:=∃id,c=[sc (.bool l.neg),ic l.a.p,sl id l.a.ts.length (Ac l.a.ts)]
theorem Hh (a:Lit)(c:List AV)(h:Pz a c):c.length=3:=by obtain⟨id,rfl⟩:=h;rfl
theorem Io {l:List Lit}{cs:List AV}{i:Nat}{p:Lit}(h:EL Pz l cs)(hi:l[i]?=some p):∃id r,cs.drop (i*3)=sc (.bool p.neg)::ic p.a.p::sl id p.a.ts.length (Ac p.a.ts)::r:=by
 obtain⟨c,r,⟨id,rfl⟩,e⟩:=EL.get Hh h hi;exact⟨id,r,e⟩
def tQ (r:Dq)(c:List AV):Prop:=∃o ih ib bc,c=[sc (.bool o),ic r.head.p,sl ih r.head.ts.length (Ac r.head.ts),sl ib r.body.length bc]/\EL Pz r.body bc
def Au (M:MM)(p:Int):List Bc:=((M[p.toNat]?).map (·.2)).getD []
def T7 (M:MM)(nw:Int)(fr:Nat)(i:Nat)(l:Lit):List Bc:=if (i:Int)=nw then (Au M l.a.p).drop fr else Au M l.a.p
def dV (M:MM)(nw:Int)(fr:Nat)(x:Lit×Nat):Part:=⟨x.1.a,(T7 M nw fr x.2 x.1).filter (J8 x.1.a.ts)⟩
def Ln (M:MM)(nw:Int)(fr:Nat)(l:List Lit):List Part:=(l.zipIdx.filter fun x=>!x.1.neg).map (dV M nw fr)
def O3 (l:List Lit):List C6:=(l.filter (·.neg)).map (·.a)
def Jy (M:MM)(nw:Int)(fr:Nat)(r:Dq):Qry:=⟨r.head,Ln M nw fr r.body,O3 r.body⟩
structure ROk (np:Nat)(r:Dq):Prop where
 hd:r.head.ts.length<=3
 hp:∃k:Nat,r.head.p=(k:Int)/\k<np
 bl:r.body.length<=64
 ba:∀l∈r.body,l.a.ts.length<=3
 bp:∀l∈r.body,∃k:Nat,l.a.p=(k:Int)/\k<np
theorem oG (M:MM)(nw:Int)(fr:Nat)(l:List Lit)(w:Lit):Ln M nw fr (l++[w])=Ln M nw fr l++if w.neg=true then []else [dV M nw fr (w,l.length)]:=by
 unfold Ln;rw[List.zipIdx_append,Adp,Abx];congr 1;cases h:w.neg<;>simp[h]
theorem oF (l:List Lit)(w:Lit):O3 (l++[w])=O3 l++if w.neg=true then [w.a]else []:=by
 unfold O3;rw[Adp,Abx];congr 1;cases h:w.neg<;>simp[h]
theorem Te {α:Type}(l:List α)(fr k:Nat){x:α}(hx:l[k]?=some x):(l.take (k+1)).drop fr=(l.take k).drop fr++if fr<=k then [x]else []:=by
 have hk:=(List.getElem?_eq_some_iff.1 hx).1;rw[Abv,hx,Ac5,List.drop_append,Ab7,Aca Ad6];congr 1;by_cases h:fr<=k
 ·rw[if_pos h,show fr-k=0 by omega];rfl
 ·rw[if_neg h,Abp (by simp;omega)]
def T8 (i:Nat)(nw:Int)(fr:Nat)(ts:List Tm)(l:List Bc)(j:Nat):List Bc:=(if (i:Int)=nw then (l.take j).drop fr else l.take j).filter (J8 ts)
theorem oH {i:Nat}{nw:Int}{fr:Nat}{ts:List Tm}{l:List Bc}{j:Nat}{t:Bc}(aa:l[j]?=some t):T8 i nw fr ts l (j+1)=T8 i nw fr ts l j++if (((i:Int)≠nw\/fr<=j)/\J8 ts t=true)then [t]else []:=by
 unfold T8;by_cases e:(i:Int)=nw
 ·rw[if_pos e,if_pos e,Te _ _ _ aa,Adp];congr 1;by_cases h1:fr<=j
  ·cases h2:J8 ts t<;>simp[h1,h2]
  ·simp[h1,e]
 ·rw[if_neg e,if_neg e,Abv,aa,Ac5,Db];congr 1;cases h2:J8 ts t<;>simp[e]
theorem Wr (om ot:Nat)(M:MM)(d b:Int)(r:Dq)(c:List AV)(nw:Int)(fr:Nat)(hc:tQ r c)(hr:ROk M.length r)(cr:fr<=100000)(q:St)(hM:MOb q om ot M d b):ACalls Tryz.prog 138 [ptr om 0,ag c,ic nw,ic fr] q fun x q'=>(∃c',x=ag c'/\EQ (Jy M nw fr r) c')/\Keep q q':=by
 obtain⟨o,ih,ib,bc,rfl,hB⟩:=hc;have ct:=EL.length Hh hB;have hl:=hr.bl;have hpl:=hM.pl;have cj:=F9 M;have lo:=hM.lo;have lt:=hM.lt;have obm:=hM.ob;have ocm:=hM.oc;refine Z9 82 [.cell 8 191] Tryz.func138 ?_
 repeat' (first|refine Z1 ?_|(refine Z8 ?_;intro κ hκ)|(refine Z4 ?_;clear hκ κ)|(refine Z2 ?_ ?_<;>intro h ae<;>try exact Xp)|(refine Z6 ?_;intro idn qn ai aj ac aa ad ab)|refine Z3 ?_|exact⟨⟩|(apply hκ.out;clear hκ κ))
 refine Ad (fun m s q'=>∃(i i3 i5:Nat) (l1:List Part) (l2:List C6) (xs ys:List AV),m=r.body.length-i/\i<=r.body.length/\s 0=ptr om 0/\s 2=ic nw/\s 3=ic fr/\s 8=ptr (q.nobj+1) 0/\s 9=ptr (q.nobj+2) 0/\s 19=sl ib r.body.length bc/\s 20=ic r.body.length/\s 21=ic i/\Keep q q'/\q.nobj+2<q'.nobj/\q'.obj (q.nobj+1)=[ic 0,nilS,nilS,nilS]/\q'.obj (q.nobj+2)=[ic r.head.p,sl ih r.head.ts.length (Ac r.head.ts),sl i3 l1.length xs,sl i5 l2.length ys]/\Own q q' i3 l1.length/\Own q q' i5 l2.length/\(i3=1\/i3≠i5)/\l1.length<=i/\l2.length<=i/\xs.length=l1.length*3/\ys.length=l2.length*2/\Aec (EL K3 l1 xs/\EL Mg l2 ys/\l1=Ln M nw fr (r.body.take i)/\l2=O3 (r.body.take i))) r.body.length
  ⟨0,1,1,[],[],[],[],Ad6,Ad6,by simp[upd,initS],by simp[upd,initS],by simp[upd,initS],Ad8,Ad8,Ad8,Ad8,rfl,Xs,Aeb,?_,?_,Own.nil _ _,Own.nil _ _,.inl rfl,by simp,by simp,by simp,by simp,⟨rfl,rfl,by simp[Ln],by simp[O3]⟩⟩ ?_
 ·rw[Aj Ad6,Ae Aea,Bu Aea Aea]
 ·rw[show q.nobj+2=q.nobj+1+1 from rfl,Ak];simp
 rintro m s q' ⟨i,i3,i5,l1,l2,xs,ys,rfl,hi,h0,h2,h3,h8,h9,b0,bz,bw,hK,ci,a8,a7,au,av,b9,cp,co,b6,b5,hX⟩;have cg:=hK.nobj;have em:q'.obj om=[fx ot 0 M.length,ic d,ic b]:=by rw[hK.obj _ lo,obm]
 have et:q'.obj ot=En M:=by rw[hK.obj _ lt,ocm]
 by_cases bh:i<r.body.length
 ·have ah:=List.getElem?_eq_getElem bh;obtain⟨id,rr,hd⟩:=Io hB ah;have bq:=hr.ba _ (Ac2 bh);obtain⟨k,hk,ca⟩:=hr.bp _ (Ac2 bh);generalize r.body[i]=w at hd ah bq hk;have HA:Aec (Ln M nw fr (r.body.take (i+1))=Ln M nw fr (r.body.take i)++(if w.neg=true then []else [dV M nw fr (w,i)])/\O3 (r.body.take (i+1))=O3 (r.body.take i)++if w.neg=true then [w.a]else []):=by
   rw[Aec,Abv,ah,Ac5,oG,oF,Ab7,Aca Ad6];exact⟨rfl,rfl⟩
  clear ah;cases am:w.neg with
  |true=>
   rw[am]at hd;have HX:Aec (EL K3 l1 xs/\EL Mg (l2++[w.a]) (ys++[ic w.a.p,sl id w.a.ts.length (Ac w.a.ts)])/\l1=Ln M nw fr (r.body.take (i+1))/\l2++[w.a]=O3 (r.body.take (i+1))):=by
    obtain⟨x1,x2,x3,x4⟩:=hX.out;exact⟨x1,EL.append x2 (EL.single ⟨id,rfl⟩),by rw[HA.out.1,if_pos am,Abz,x3],by rw[HA.out.2,if_pos am,x4]⟩
   clear hX HA
   repeat' (first|refine Z1 ?_|(refine Z8 ?_;intro κ hκ)|(refine Z4 ?_;clear hκ κ)|(refine Z2 ?_ ?_<;>intro h ae<;>try exact Xp)|(refine Z6 ?_;intro idn qn ai aj ac aa ad ab)|refine Z3 ?_|exact⟨⟩|(apply hκ.out;clear hκ κ))
   refine Gu (by first|exact D1|exact E0|exact Di) ((hK.new _).put hK.nobj _) (Own.put (Own.new av _) _ _) (by decide) (by rfl) b5 (by rfl) (by rfl) (by decide) Ad6 Ad6 ?_;intro idn qn ai aj ac aa ad ab ak;obtain⟨az,b8⟩:=ak i3 l1.length (Own.put (Own.new au _) _ _) Ad6;have bd:i3=1\/i3≠idn:=Ad6;simp only[Ab,Aa]at aa;have eob:∀p,p<q'.nobj->qn.obj p=q'.obj p:=fun p hp=>by rw[ac,Aj Ad6,Ae Ad6]
   refine Z3 ?_
   repeat' (first|refine Z1 ?_|(refine Z8 ?_;intro κ hκ)|(refine Z4 ?_;clear hκ κ)|(refine Z2 ?_ ?_<;>intro h ae<;>try exact Xp)|(refine Z6 ?_;intro idn qn ai aj ac aa ad ab)|refine Z3 ?_|exact⟨⟩|(apply hκ.out;clear hκ κ))
   refine⟨r.body.length-(i+1),Ad6,i+1,i3,idn,l1,l2++[w.a],xs,ys++[ic w.a.p,sl id w.a.ts.length (Ac w.a.ts)],?_⟩
   ((repeat' with_reducible refine And.intro ?_ ?_)<;>first|exact Xq|exact (aj.put Ad6 _)|exact (by simpa using Own.put ai _ _)|exact (Own.put az _ _)|exact (HX)|exact Xs)
  |false=>
   rw[am]at hd;have ap:M[k]?=some M[k]:=List.getElem?_eq_getElem ca;generalize M[k]=x at ap;have bn:=Abm ap;have cq:=Ga ap;have bv:=hM.t3 x bn;have cm:=hM.ln x bn;have ch:=Ef bv;have HT:Aec (Au M w.a.p=x.2):=by rw[Aec,Au,hk];simp[ap]
   rw[hk]at hd;have br:Aec _:=hX
   repeat' (first|refine Z1 ?_|(refine Z8 ?_;intro κ hκ)|(refine Z4 ?_;clear hκ κ)|(refine Z2 ?_ ?_<;>intro h ae<;>try exact Xp)|(refine Z6 ?_;intro idn qn ai aj ac aa ad ab)|refine Z3 ?_|exact⟨⟩|(apply hκ.out;clear hκ κ))
   refine A1 Ah (fun _=>True) [] [0,1,2,3,4,5,6,7,8,9,10] [] Ad9 (fun _ _ _ h=>h) ?_;intro κ hκ
   repeat' (first|refine Z1 ?_|(refine Z8 ?_;intro κ hκ)|(refine Z4 ?_;clear hκ κ)|(refine Z2 ?_ ?_<;>intro h ae<;>try exact Xp)|(refine Z6 ?_;intro idn qn ai aj ac aa ad ab)|refine Z3 ?_|exact⟨⟩|(apply hκ.out;clear hκ κ))
   refine Ad (fun m s q2=>∃(j i6:Nat) (l3:List Bc) (zs:List AV),m=x.2.length-j/\j<=x.2.length/\s 0=ptr om 0/\s 2=ic nw/\s 3=ic fr/\s 8=ptr (q.nobj+1) 0/\s 9=ptr (q.nobj+2) 0/\s 10=ic i/\s 11=ptr q'.nobj 0/\s 12=ptr (q'.nobj+1) 0/\s 19=sl ib r.body.length bc/\s 20=ic r.body.length/\s 21=ic i/\s 46=sl x.1 x.2.length (Cx x.2)/\s 47=ic x.2.length/\s 48=ic j/\Keep q q2/\q'.nobj+1<q2.nobj/\q2.obj (q.nobj+1)=[ic 0,nilS,nilS,nilS]/\q2.obj (q.nobj+2)=[ic r.head.p,sl ih r.head.ts.length (Ac r.head.ts),sl i3 l1.length xs,sl i5 l2.length ys]/\q2.obj q'.nobj=[sc (.bool false),ic (k:Int),sl id w.a.ts.length (Ac w.a.ts)]/\q2.obj (q'.nobj+1)=[ic (k:Int),sl id w.a.ts.length (Ac w.a.ts),sl i6 l3.length zs]/\Own q q2 i3 l1.length/\Own q q2 i5 l2.length/\Own q q2 i6 l3.length/\(i6=1\/i6≠i3)/\(i6=1\/i6≠i5)/\l3.length<=j/\zs.length=l3.length*3/\Aec (zs=Cx l3/\l3=T8 i nw fr w.a.ts x.2 j)) x.2.length
    ⟨0,1,[],[],Ad6,Ad6,Ad7,Ad7,Ad7,Ad7,Ad7,Ad7,Ad7,Ad7,Ad7,Ad7,Ad7,Ad7,Ad7,Ad8,Xs,Aeb,?_,?_,?_,?_,Own.put (Own.new (Own.put (Own.new au _) _ _) _) _ _,Own.put (Own.new (Own.put (Own.new av _) _ _) _) _ _,Own.nil _ _,.inl rfl,.inl rfl,by simp,by simp,⟨rfl,by simp[T8]⟩⟩ ?_
   ·rw[Aj Ad6,Ae Aeb,Aj Ad6,Ae Ad6,a8]
   ·rw[Aj Ad6,Ae Aeb,Aj Ad6,Ae Ad6,a7]
   ·rw[Aj Ad6,Ae Aeb,Ak]
   ·rw[Ak];simp
   generalize bm:q'.nobj=o11 at*
   clear bm h0 h2 h3 h8 h9 b0 bz bw hK a8 a7 au av em et hX;rintro m s q2 ⟨j,i6,l3,zs,rfl,hj,h0,h2,h3,h8,h9,cz,cy,cx,b0,bz,bw,cw,cv,cu,hK,b7,a8,a7,b2,b1,au,av,bi,bf,be,cn,b4,hZ⟩;have b3:=hK.nobj;by_cases bg:j<x.2.length
   ·have ah:=List.getElem?_eq_getElem bg;obtain⟨ax,r2,ce⟩:=Fs bv ah;generalize x.2[j]=t at ce ah ax;have HD:Aec (T8 i nw fr w.a.ts x.2 (j+1)=T8 i nw fr w.a.ts x.2 j++if (((i:Int)≠nw\/fr<=j)/\J8 w.a.ts t=true)then [t]else []):=oH ah;clear ah;have f1:=C9 ax;have f2:=He ax;have f3:=Dn ax;have f4:=Gz ax;have f5:=Ce t;have f6:=No ax;have a6:=fun q=>gY k id w.a.ts t ax bq q;by_cases af:(i:Int)≠nw\/fr<=j
    ·cases hf:J8 w.a.ts t with
     |true=>
      rw[hf]at a6;have HZ:Aec (zs++icells t=Cx (l3++[t])/\l3++[t]=T8 i nw fr w.a.ts x.2 (j+1)):=by
       obtain⟨x1,x2⟩:=hZ.out;exact⟨by rw[x1,Ke],by rw[HD.out,if_pos ⟨af,hf⟩,x2]⟩
      clear hZ HD;have hs:((i:Int) !=nw)=true\/(((i:Int) !=nw)=false/\decide ((j:Int)>=(fr:Int))=true):=by
       by_cases e:(i:Int)=nw
       ·right;have:fr<=j:=by rcases af with h|h;exact absurd e h;exact h
        exact⟨by simp[e],by simp;omega⟩
       ·left;simpa using e
      clear af;rcases hs with a5|⟨a5,bo⟩
      all_goals
       repeat' (first|refine Z1 ?_|(refine Z8 ?_;intro κ hκ)|(refine Z4 ?_;clear hκ κ)|(refine Z2 ?_ ?_<;>intro h ae<;>try exact Xp)|(refine Z6 ?_;intro idn qn ai aj ac aa ad ab)|(refine Z5 ?_;refine Xi (a6 _) ?_;rintro _ _ ⟨rfl,an⟩;(have aw:=an.nobj;have ao:=an.obj;have bu:=((hK.new _).put hK.nobj _).trans an;have a4:=Own.keep (Own.put (Own.new au _) _ _) an;have a3:=Own.keep (Own.put (Own.new av _) _ _) an;have a0:=Own.keep (Own.put (Own.new bi _) _ _) an;simp only[Ab,Aa]at aw ao;have a9:=ao q2.nobj Ad6;rw[Ak]at a9))|refine Z3 ?_|exact⟨⟩|(apply hκ.out;clear hκ κ))
       refine Gu (by first|exact D1|exact E0|exact Di) bu a0 (by decide) (by rfl) b4 (by rw[f1]) f5 (by decide) Ad6 Ad6 ?_;intro idn qn ai aj ac aa ad ab ak;obtain⟨az,bd⟩:=ak i3 l1.length a4 bf;obtain⟨ay,bb⟩:=ak i5 l2.length a3 be;have eob:∀p,p<q2.nobj->qn.obj p=q2.obj p:=fun p hp=>by rw[ac,ao _ Ad6,Aj Ad6,Ae Ad6]
       refine Z3 ?_
       repeat' (first|refine Z1 ?_|(refine Z8 ?_;intro κ hκ)|(refine Z4 ?_;clear hκ κ)|(refine Z2 ?_ ?_<;>intro h ae<;>try exact Xp)|(refine Z6 ?_;intro idn qn ai aj ac aa ad ab)|refine Z3 ?_|exact⟨⟩|(apply hκ.out;clear hκ κ))
       refine⟨x.2.length-(j+1),Ad6,j+1,idn,l3++[t],zs++icells t,?_⟩
       ((repeat' with_reducible refine And.intro ?_ ?_)<;>first|exact Xq|exact (aj.put Ad6 _)|exact (by simpa using Own.put ai _ _)|exact (Own.put az _ _)|exact (Own.put ay _ _)|exact (HZ)|exact Xs)
     |false=>
      rw[hf]at a6;have HZ:Aec (zs=Cx l3/\l3=T8 i nw fr w.a.ts x.2 (j+1)):=by
       obtain⟨x1,x2⟩:=hZ.out;exact⟨x1,by rw[HD.out,if_neg (fun h=>by rw[hf]at h;cases h.2),x2,Abz]⟩
      clear hZ HD;have hs:((i:Int) !=nw)=true\/(((i:Int) !=nw)=false/\decide ((j:Int)>=(fr:Int))=true):=by
       by_cases e:(i:Int)=nw
       ·right;have:fr<=j:=by rcases af with h|h;exact absurd e h;exact h
        exact⟨by simp[e],by simp;omega⟩
       ·left;simpa using e
      clear af;rcases hs with a5|⟨a5,bo⟩
      all_goals
       repeat' (first|refine Z1 ?_|(refine Z8 ?_;intro κ hκ)|(refine Z4 ?_;clear hκ κ)|(refine Z2 ?_ ?_<;>intro h ae<;>try exact Xp)|(refine Z6 ?_;intro idn qn ai aj ac aa ad ab)|(refine Z5 ?_;refine Xi (a6 _) ?_;rintro _ _ ⟨rfl,an⟩;(have aw:=an.nobj;have ao:=an.obj;have bu:=((hK.new _).put hK.nobj _).trans an;have a4:=Own.keep (Own.put (Own.new au _) _ _) an;have a3:=Own.keep (Own.put (Own.new av _) _ _) an;have a0:=Own.keep (Own.put (Own.new bi _) _ _) an;simp only[Ab,Aa]at aw ao))|refine Z3 ?_|exact⟨⟩|(apply hκ.out;clear hκ κ))
       refine⟨x.2.length-(j+1),Ad6,j+1,i6,l3,zs,?_⟩
       ((repeat' with_reducible refine And.intro ?_ ?_)<;>first|exact Xq|exact (HZ)|exact Xs)
    ·have HZ:Aec (zs=Cx l3/\l3=T8 i nw fr w.a.ts x.2 (j+1)):=by
      obtain⟨x1,x2⟩:=hZ.out;exact⟨x1,by rw[HD.out,if_neg (fun h=>af h.1),x2,Abz]⟩
     have a5:((i:Int) !=nw)=false:=by
      cases h:(i:Int) !=nw with
      |false=>rfl
      |true=>exact absurd (.inl (by simpa using h)) af
     have bo:decide ((j:Int)>=(fr:Int))=false:=by
      have:¬fr<=j:=fun h=>af (.inr h);simp;omega
     clear hZ HD af
     repeat' (first|refine Z1 ?_|(refine Z8 ?_;intro κ hκ)|(refine Z4 ?_;clear hκ κ)|(refine Z2 ?_ ?_<;>intro h ae<;>try exact Xp)|(refine Z6 ?_;intro idn qn ai aj ac aa ad ab)|refine Z3 ?_|exact⟨⟩|(apply hκ.out;clear hκ κ))
     refine⟨x.2.length-(j+1),Ad6,j+1,i6,l3,zs,?_⟩
     ((repeat' with_reducible refine And.intro ?_ ?_)<;>first|exact Xq|exact (Own.put (Own.new au _) _ _)|exact (Own.put (Own.new av _) _ _)|exact (Own.put (Own.new bi _) _ _)|exact (HZ)|exact Xs)
   ·have cb:j=x.2.length:=Ad6;subst cb;have HX:Aec (EL K3 (l1++[⟨w.a,l3⟩]) (xs++[ic (k:Int),sl id w.a.ts.length (Ac w.a.ts),sl i6 l3.length zs])/\EL Mg l2 ys/\l1++[⟨w.a,l3⟩]=Ln M nw fr (r.body.take (i+1))/\l2=O3 (r.body.take (i+1))):=by
     obtain⟨x1,x2,x3,x4⟩:=br.out;obtain⟨z1,z2⟩:=hZ.out;refine⟨EL.append x1 (EL.single ⟨id,i6,by rw[hk,z1]⟩),x2,?_,by rw[HA.out.2,if_neg (by rw[am];simp),Abz,x4]⟩;rw[HA.out.1,if_neg (by rw[am];simp),x3];congr 2;unfold dV T7;simp only[HT.out];rw[z2];unfold T8;rw[Abt]
    clear hZ br HA;have cf:True->Own q q2 i3 l1.length:=fun _=>au;clear au
    repeat' (first|refine Z1 ?_|(refine Z8 ?_;intro κ hκ)|(refine Z4 ?_;clear hκ κ)|(refine Z2 ?_ ?_<;>intro h ae<;>try exact Xp)|(refine Z6 ?_;intro idn qn ai aj ac aa ad ab)|refine Z3 ?_|exact⟨⟩|(apply hκ.out;clear hκ κ))
    refine Gu (by first|exact D1|exact E0|exact Di) hK (cf trivial) (by decide) (by rfl) b6 (by rfl) (by rfl) (by decide) Ad6 Ad6 ?_;intro idn qn ai aj ac aa ad ab ak;obtain⟨ay,bb⟩:=ak i5 l2.length av b9;refine Z3 ?_
    repeat' (first|refine Z1 ?_|(refine Z8 ?_;intro κ hκ)|(refine Z4 ?_;clear hκ κ)|(refine Z2 ?_ ?_<;>intro h ae<;>try exact Xp)|(refine Z6 ?_;intro idn qn ai aj ac aa ad ab)|refine Z3 ?_|exact⟨⟩|(apply hκ.out;clear hκ κ))
    refine⟨r.body.length-(i+1),Ad6,i+1,idn,i5,l1++[⟨w.a,l3⟩],l2,xs++[ic (k:Int),sl id w.a.ts.length (Ac w.a.ts),sl i6 l3.length zs],ys,?_⟩
    ((repeat' with_reducible refine And.intro ?_ ?_)<;>first|exact Xq|exact (aj.put Ad6 _)|exact (by simpa using Own.put ai _ _)|exact (Own.put ay _ _)|exact (HX)|exact Xs)
 ·have cd:i=r.body.length:=Ad6;subst cd;obtain⟨x1,x2,x3,x4⟩:=hX.out;rw[Abt]at x3 x4
  repeat' (first|refine Z1 ?_|(refine Z8 ?_;intro κ hκ)|(refine Z4 ?_;clear hκ κ)|(refine Z2 ?_ ?_<;>intro h ae<;>try exact Xp)|(refine Z6 ?_;intro idn qn ai aj ac aa ad ab)|refine Z3 ?_|exact⟨⟩|(apply hκ.out;clear hκ κ))
  exact⟨_,rfl,⟨_,rfl,ih,i3,i5,xs,ys,by first|(simp only[Jy];done)|(simp only[Jy];rw[x3,x4]),by simp only[Jy];rw[<-x3];exact x1,by simp only[Jy];rw[<-x4];exact x2⟩,hK.put Ad6 _⟩
end Go.Proofs.YtmoeoppbmhfbpabGreatDoorJ
