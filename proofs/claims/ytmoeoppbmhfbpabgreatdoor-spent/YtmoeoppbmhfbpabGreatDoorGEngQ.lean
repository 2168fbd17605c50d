import Derived.Test.YtmoeoppbmhfbpabGreatDoorGEngO
set_option maxHeartbeats 32000000
set_option maxRecDepth 100000
set_option linter.all false
namespace Go.Proofs.YtmoeoppbmhfbpabGreatDoorG
open Go.Abs
structure KM (om ot:Nat)(M M':MM)(q q':St):Prop where
 nobj:q.nobj<=q'.nobj
 obj:∀o,o<q.nobj->o≠om->o≠ot->q'.obj o=q.obj o
 ver:∀o,o<q.nobj->o≠om->o≠ot->q'.ver o=q.ver o
 ntop:q.ntop<=q'.ntop
 top:∀k,k<q.ntop->(∀x∈M,x.1≠k+2)->q'.top k=q.top k
 mid:∀x∈M',(∃y∈M,y.1=x.1)\/x.1=1\/q.ntop+2<=x.1
theorem KM.ofKeep {om ot:Nat}{M:MM}{q q':St}(h:Keep q q'):KM om ot M M q q':=
 ⟨h.nobj,fun o ho _ _=>h.obj o ho,fun o ho _ _=>h.ver o ho,h.ntop,fun k hk _=>h.top k hk,fun x hx=>.inl ⟨x,hx,rfl⟩⟩
theorem KM.trans {om ot:Nat}{M M1 M2:MM}{q q1 q2:St}(h:KM om ot M M1 q q1)(g:KM om ot M1 M2 q1 q2):KM om ot M M2 q q2 where
 nobj:=Ado h.nobj g.nobj
 obj:=fun o ho h1 h2=>(g.obj o (Adp ho h.nobj) h1 h2).trans (h.obj o ho h1 h2)
 ver:=fun o ho h1 h2=>(g.ver o (Adp ho h.nobj) h1 h2).trans (h.ver o ho h1 h2)
 ntop:=Ado h.ntop g.ntop
 top:=fun k hk hx=>(g.top k (Adp hk h.ntop) (fun x aa e=>by
  rcases h.mid x aa with⟨y,hy,e2⟩|e2|e2
  ·exact hx y hy (e2.trans e)
  ·omega
  ·omega)).trans (h.top k hk hx)
 mid:=fun x hx=>by
  rcases g.mid x hx with⟨y,hy,e⟩|e|e
  ·rcases h.mid y hy with⟨z,hz,e2⟩|e2|e2
   ·exact .inl ⟨z,hz,e2.trans e⟩
   ·exact .inr (.inl Agm)
   ·exact .inr (.inr Agm)
  ·exact .inr (.inl e)
  ·exact .inr (.inr (by have:=h.ntop;omega))
theorem qL {P:Program}{t:TypeId}{z b:Nat}{zc:List Value}{q:St}{id id2 n m m':Nat}{xs ys:List AV}{K:AV->St->Prop}(ht:M6 P t=some (z,b,zc))(hO:Live q id n)
  (hz:0<z) (hzc:zc.length=z) (hx:xs.length=n*z) (hy:ys.length=m*z) (hf:ys.all flat=true) (hm:0<m) (hb:(n+m)*b<=140737488355328) (hl:n+m<=1099511627776)
  (h:∀id' q',Live q' id' (n+m)->(id'=id\/q.ntop+2<=id')->id'≠1->q'.obj=q.obj->q'.nobj=q.nobj->q'.ver=q.ver->q.ntop<q'.ntop->(∀k,k<q.ntop->k+2≠id->q'.top k=q.top k)->K (sl id' (n+m) (xs++ys)) q'):Ie P t t (sl id n xs) (sl id2 m ys) (q.lay m') K:=by
 unfold Ie aB;left;simp only[ht];rw[if_pos ⟨trivial,hz,hzc,hx,hy,hf,hm,hb,hl⟩];rcases hO with⟨rfl,rfl⟩|⟨k,rfl,h3,h4,h5⟩
 ·have aa:xs=[]:=Adx (by simpa using hx);subst aa;have:=h ((q.lay m').ntop+2) ((q.lay m').lay m) (.inr ⟨(q.lay m').ntop,rfl,by simp[St.lay],by simp[St.lay],Agm⟩) (.inr (by simp[St.lay])) (by simp) rfl rfl rfl (by simp[St.lay];omega) (fun k hk _=>(((Keep.refl q).lay m').lay m).top k hk);simpa using this
 ·have e1:(q.lay m').top k=n:=by simp[St.lay];rw[if_neg Agm];exact h4
  simp only;rw[if_pos ⟨e1,h5⟩]
  exact h (k+2) _ (.inr ⟨k,rfl,by simp[St.raise,St.lay];omega,by simp[St.raise],Agm⟩) (.inl rfl) Agm rfl rfl rfl (by simp[St.raise,St.lay]) (fun j hj ab=>by
   simp[St.raise,St.lay]
   rw[if_neg Agm,if_neg Agm])
theorem MOb.grow {q q':St}{om ot:Nat}{M:MM}{d b:Int}{k id':Nat}{x:Nat×List Ca}{t:Ca}(hM:MOb q om ot M d b)(hx:M[k]?=some x)(ht:t.length=3)(hn:x.2.length<5000)
  (hL:Live q' id' (x.2.length+1)) (hid:id'=x.1\/q.ntop+2<=id') (an:id'≠1) (eob:∀o,o<q.nobj->o≠ot->q'.obj o=q.obj o) (aj:∀o,o<q.nobj->o≠ot->q'.ver o=q.ver o) (eoc:q'.obj ot=(Fl M).set k (sl id' (x.2.length+1) (Ej x.2++As t))) (eno:q.nobj<=q'.nobj) (ento:q.ntop<=q'.ntop)
  (etop:∀j,j<q.ntop->j+2≠x.1->q'.top j=q.top j):MOb q' om ot (M.set k (id',x.2++[t])) d b/\KM om ot M (M.set k (id',x.2++[t])) q q':=by
 have ae:=Adt hx;have am:k<M.length:=(List.getElem?_eq_some_iff.1 hx).1;have ah:∀(i:Nat) (y:Nat×List Ca),M[i]?=some y->i≠k->Live q' y.1 y.2.length/\(y.1=1\/y.1≠id'):=fun i y hy ac=>by
  have ak:=Adt hy;rcases hM.live y ak with h|⟨j,e1,e2,e3,e4⟩
  ·exact⟨.inl h,.inl h.1⟩
  ·have ao:y.1≠x.1:=by
    rcases hM.inj i k y x hy hx ac with h|h
    ·omega
    ·exact h
   refine⟨.inr ⟨j,e1,Adp e2 ento,(etop j e2 Agm).trans e3,e4⟩,.inr ?_⟩;rcases hid with h|h<;>omega
 have aa:∀(i:Nat) (y:Nat×List Ca),(M.set k (id',x.2++[t]))[i]?=some y->(i=k/\y=(id',x.2++[t]))\/(i≠k/\M[i]?=some y):=fun i y hy=>by
  rw[List.getElem?_set]at hy;by_cases e:k=i
  ·subst e;rw[if_pos rfl,if_pos am]at hy;exact .inl ⟨rfl,(Afh hy).symm⟩
  ·rw[if_neg e]at hy;exact .inr ⟨fun h=>e h.symm,hy⟩
 have ab:∀y∈M.set k (id',x.2++[t]),y=(id',x.2++[t])\/y∈M:=fun y hy=>(List.mem_or_eq_of_mem_set hy).symm;have ai:∀y∈M.set k (id',x.2++[t]),∃i,(M.set k (id',x.2++[t]))[i]?=some y:=fun y hy=>List.getElem?_of_mem hy;refine⟨⟨?_,?_,Adp hM.lo eno,Adp hM.lt eno,hM.ne,?_,?_,?_,?_,by simp;exact hM.pl⟩,⟨eno,fun o ho h1 h2=>eob o ho h2,fun o ho h1 h2=>aj o ho h2,ento,fun j hj h=>etop j hj (fun e=>h x ae e.symm),?_⟩⟩
 ·rw[eob om hM.lo hM.ne,hM.ob];simp
 ·rw[eoc];unfold Fl;rw[List.map_set];congr 1;simp[Ej]
 ·intro y hy;obtain⟨i,hi⟩:=ai y hy;rcases aa i y hi with⟨-,rfl⟩|⟨ac,ad⟩
  ·simpa using hL
  ·exact (ah i y ad ac).1
 ·intro i j y w hy hw ac;rcases aa i y hy with⟨rfl,rfl⟩|⟨h1,ad⟩
  ·rcases aa j w hw with⟨rfl,rfl⟩|⟨h2,af⟩
   ·exact absurd rfl ac
   ·have:=(ah j w af h2).2;simp only;by_cases e:id'=w.1
    ·rcases this with h|h
     ·omega
     ·omega
    ·exact .inr e
  ·rcases aa j w hw with⟨rfl,rfl⟩|⟨h2,af⟩
   ·exact (ah i y ad h1).2
   ·exact hM.inj i j y w ad af ac
 ·intro y hy;rcases ab y hy with rfl|hy
  ·intro u hu;rcases Aew.1 hu with h|h
   ·exact hM.t3 x ae u h
   ·simp at h;subst h;exact ht
  ·exact hM.t3 y hy
 ·intro y hy;rcases ab y hy with rfl|hy
  ·simp;omega
  ·exact hM.ln y hy
 ·intro y hy;rcases ab y hy with rfl|hy
  ·rcases hid with h|h
   ·exact .inl ⟨x,ae,h.symm⟩
   ·exact .inr (.inr h)
  ·exact .inl ⟨y,hy,rfl⟩
theorem Ui (om ot:Nat)(M:MM)(d b:Int)(a:C4)(id k:Nat)(x:Nat×List Ca)(ha:a.ts.length<=3)(hk:a.p=(k:Int))(hx:M[k]?=some x)(hn:x.2.length<5000)(q:St)(hM:MOb q om ot M d b):ACalls Tryz.prog 82 [ptr om 0,ag [ic a.p,sl id a.ts.length (Ac a.ts)]] q fun r q'=>∃id',MOb q' om ot (M.set k (id',x.2++[Cl a])) d b/\KM om ot M (M.set k (id',x.2++[Cl a])) q q':=by
 have av:a.ts.length<=1000:=Agm;have ap:=fun q=>Qr a.p id a.ts av q;have ao:=Adt hx;have h3:=hM.t3 x ao;have hL:=hM.live x ao;have au:=Io h3;have a0:k<M.length:=(List.getElem?_eq_some_iff.1 hx).1;have hpl:=hM.pl;have az:=H1 M;have a3:=H2 hx;have lo:=hM.lo;have lt:=hM.lt;have ob:=hM.ob;have oc:=hM.oc;rw[hk];rw[hk]at ap;have aj:(Df (a.ts.map (·.2))).length=3:=rfl;have HT:Agt (Cl a=Df (a.ts.map (·.2))):=rfl;generalize Cl a=ta at*
 generalize Df (a.ts.map (·.2))=t0 at*
 have w1:=G9 aj;have w5:=Ep t0;have w4:=Nm aj;refine Z9 23 [] Tryz.func82 ?_
 repeat' (first|refine Z1 ?_|(refine Z8 ?_;intro κ hκ)|(refine Z4 ?_;clear hκ κ)|(refine Z2 ?_ ?_<;>intro h an<;>try exact Xp)|(refine Z6 ?_;intro idn qn aw ay ac ae aa ad)|refine Z3 ?_|exact⟨⟩|(apply hκ.out;clear hκ κ))
 refine B6 (Q:=fun e s' q'=>e= .normal/\∃id',MOb q' om ot (M.set k (id',x.2++[ta])) d b/\KM om ot M (M.set k (id',x.2++[ta])) q q') ?_ ?_
 ·refine Bh Al (fun _=>True) [19] [0,1,2,3,4,5,6,7,8,9,10,11,12,13,14] 5 #[true,true,true,true,true,true,true,true,true,true,true,true,true,true,true,false,false,false,false,false] Agp (fun _ _ _ h=>by cases h.1) ?_;intro κ hκ;refine Z3 ?_;refine hκ.out _ ?_;clear hκ κ;refine Ao (i:=15) Agp ?_;refine Ar ?_;intro κ hκ;refine Z3 ?_;refine ACalls.mono (ap _) ?_;rintro _ q5 ⟨rfl,af⟩;refine Z3 ?_;refine hκ.out _ _ ⟨Aq af,?_⟩;clear hκ κ;have ai:=af.nobj;simp only[Aa]at ai;have ab:Keep q q5:=((Keep.refl q).new _).trans af;have e1:q5.obj om=[fx ot 0 M.length,ic d,ic b]:=by rw[ab.obj _ lo,ob]
  have e2:q5.obj ot=Fl M:=by rw[ab.obj _ lt,oc]
  refine Ao (i:=16) Agp ?_;refine Ar ?_;intro κ hκ;refine Z3 ?_;refine hκ.out _ _ ⟨Aq (af.lay 1),?_⟩;clear hκ κ;refine Ao (i:=17) Agp ?_;refine Ar ?_;intro κ hκ;refine Z3 ?_;refine qL (by first|exact Fx) (hL.keep ab) (by decide) (by rfl) au (by rw[w1]) w5 (by decide) Agm Agm ?_;intro idn qn ax ak am ac ae aa ad etop;have e3:qn.obj ot=Fl M:=by rw[ac,e2]
  refine Z3 ?_;refine hκ.out _ _ ⟨fun _ o ho _=>by rw[aa];exact af.ver o ho,?_⟩;clear hκ κ;refine Ao (i:=18) Agp ?_;refine Ar ?_;intro κ hκ;refine Z3 ?_;refine hκ.out _ _ ⟨fun _ o ho _=>by rw[aa];exact af.ver o ho,?_⟩;clear hκ κ;refine Ao (i:=19) Agp ?_;refine Ar ?_;intro κ hκ;refine Z3 ?_;refine hκ.out _ _ ⟨Bq rfl,?_⟩;clear hκ κ;refine A6 Agp ⟨rfl,idn,?_⟩;rw[HT.out];refine MOb.grow hM hx aj hn ?_ ?_ am ?_ ?_ ?_ ?_ ?_ ?_
  ·rcases ax with h|⟨j,h1,h2,h3,h4⟩
   ·exact .inl h
   ·exact .inr ⟨j,h1,h2,h3,h4⟩
  ·have:=ab.ntop;rcases ak with h|h
   ·exact .inl h
   ·exact .inr Agm
  ·intro o ho ah;rw[show∀(S:St) c,(S.put ot c).obj o=S.obj o from fun S c=>by simp[St.put,ah],ac,ab.obj o ho]
  ·intro o ho ah;rw[show∀(S:St) c,(S.put ot c).ver o=S.ver o from fun S c=>by simp[St.put,ah],aa,ab.ver o ho]
  ·rw[Aj]
  ·have:=ab.nobj;simp only[Ab];omega
  ·have:=ab.ntop;simp only[Tg];omega
  ·intro j hj ah;rw[Rl,etop j (Adp hj ab.ntop) ah,ab.top j hj]
 ·rintro e s' q'' ⟨rfl,idn,h1,h2⟩
  repeat' (first|refine Z1 ?_|(refine Z8 ?_;intro κ hκ)|(refine Z4 ?_;clear hκ κ)|(refine Z2 ?_ ?_<;>intro h an<;>try exact Xp)|(refine Z6 ?_;intro idn qn aw ay ac ae aa ad)|refine Z3 ?_|exact⟨⟩|(apply hκ.out;clear hκ κ))
  exact⟨_,rfl,idn,h1,h2⟩
def Hb (M:MM):List Int:=M.map fun x=>(x.2.length:Int)
theorem O6 (om ot:Nat)(M:MM)(d b:Int)(q:St)(hM:MOb q om ot M d b):ACalls Tryz.prog 137 [ptr om 0] q fun r q'=>(∃id,r=sl id M.length (As (Hb M)))/\Keep q q':=by
 have hpl:=hM.pl;have au:=H1 M;have lo:=hM.lo;have lt:=hM.lt;have ob:=hM.ob;have oc:=hM.oc;refine Z9 23 [.tmp 2] Tryz.func137 ?_
 repeat' (first|refine Z1 ?_|(refine Z8 ?_;intro κ hκ)|(refine Z4 ?_;clear hκ κ)|(refine Z2 ?_ ?_<;>intro h ad<;>try exact Xp)|(refine Z6 ?_;intro idn qn ai aj af ac ae ab)|refine Z3 ?_|exact⟨⟩|(apply hκ.out;clear hκ κ))
 refine Ag (fun m s q'=>∃(i i3:Nat) (xs:List AV),m=M.length-i/\i<=M.length/\s 3=sl i3 i xs/\s 10=fx ot 0 M.length/\s 11=ic M.length/\s 12=ic i/\Keep q q'/\Own q q' i3 i/\xs.length=i/\Agt (xs=As (Hb (M.take i)))) M.length
  ⟨0,1,[],Agm,Agm,Ago,Ago,Ago,rfl,Xs,Own.nil _ _,by simp,by simp[Agt,Hb,As]⟩ ?_
 rintro m s q' ⟨i,i3,xs,rfl,hi,h3,ax,aw,av,hK,hO,ap,hX⟩;have ao:=hK.nobj;have e2:q'.obj ot=Fl M:=by rw[hK.obj _ lt,oc]
 by_cases ah:i<M.length
 ·have aa:=List.getElem?_eq_getElem ah;have an:=H2 aa;have hb:=hM.ln _ (Afa ah);generalize M[i]=x at aa an hb;have HX:Agt (xs++[ic (x.2.length:Int)]=As (Hb (M.take (i+1)))):=by
   rw[Agt,Ad3,aa,hX.out];simp[Hb,As]
  clear aa hX;have ak:xs.length=i*1:=Agm
  repeat' (first|refine Z1 ?_|(refine Z8 ?_;intro κ hκ)|(refine Z4 ?_;clear hκ κ)|(refine Z2 ?_ ?_<;>intro h ad<;>try exact Xp)|(refine Z6 ?_;intro idn qn ai aj af ac ae ab)|refine Z3 ?_|exact⟨⟩|(apply hκ.out;clear hκ κ))
  refine⟨M.length-(i+1),Agm,i+1,idn,xs++[ic (x.2.length:Int)],?_⟩
  ((repeat' with_reducible refine And.intro ?_ ?_)<;>first|exact Xq|exact (HX)|exact Xs)
 ·have am:i=M.length:=Agm;subst am;have hX:=hX.out;rw[Adz]at hX
  repeat' (first|refine Z1 ?_|(refine Z8 ?_;intro κ hκ)|(refine Z4 ?_;clear hκ κ)|(refine Z2 ?_ ?_<;>intro h ad<;>try exact Xp)|(refine Z6 ?_;intro idn qn ai aj af ac ae ab)|refine Z3 ?_|exact⟨⟩|(apply hκ.out;clear hκ κ))
  first|exact⟨_,rfl,⟨i3,by rw[hX]⟩,hK⟩|exact⟨_,rfl,i3,by rw[hX]⟩|exact⟨_,rfl,⟨i3,rfl⟩⟩
structure Lit where
 neg:Bool
 a:C4
structure D8 where
 head:C4
 body:List Lit
def Pi (l:Lit)(c:List AV):Prop:=∃id,c=[sc (.bool l.neg),ic l.a.p,sl id l.a.ts.length (Ac l.a.ts)]
theorem F6 (a:Lit)(c:List AV)(h:Pi a c):c.length=3:=by obtain⟨id,rfl⟩:=h;rfl
theorem Gx {l:List Lit}{cs:List AV}{i:Nat}{p:Lit}(h:EL Pi l cs)(hi:l[i]?=some p):∃id r,cs.drop (i*3)=sc (.bool p.neg)::ic p.a.p::sl id p.a.ts.length (Ac p.a.ts)::r:=by
 obtain⟨c,r,⟨id,rfl⟩,e⟩:=EL.get F6 h hi;exact⟨id,r,e⟩
def gE (r:D8)(c:List AV):Prop:=∃o ih ib bc,c=[sc (.bool o),ic r.head.p,sl ih r.head.ts.length (Ac r.head.ts),sl ib r.body.length bc]/\EL Pi r.body bc
def A5 (M:MM)(p:Int):List Ca:=((M[p.toNat]?).map (·.2)).getD []
def U5 (M:MM)(nw:Int)(fr:Nat)(i:Nat)(l:Lit):List Ca:=if (i:Int)=nw then (A5 M l.a.p).drop fr else A5 M l.a.p
def fP (M:MM)(nw:Int)(fr:Nat)(x:Lit×Nat):Part:=⟨x.1.a,(U5 M nw fr x.2 x.1).filter (Kp x.1.a.ts)⟩
def Mk (M:MM)(nw:Int)(fr:Nat)(l:List Lit):List Part:=(l.zipIdx.filter fun x=>!x.1.neg).map (fP M nw fr)
def Qa (l:List Lit):List C4:=(l.filter (·.neg)).map (·.a)
def Kb (M:MM)(nw:Int)(fr:Nat)(r:D8):Qry:=⟨r.head,Mk M nw fr r.body,Qa r.body⟩
structure ROk (np:Nat)(r:D8):Prop where
 hd:r.head.ts.length<=3
 hp:∃k:Nat,r.head.p=(k:Int)/\k<np
 bl:r.body.length<=64
 ba:∀l∈r.body,l.a.ts.length<=3
 bp:∀l∈r.body,∃k:Nat,l.a.p=(k:Int)/\k<np
theorem qF (M:MM)(nw:Int)(fr:Nat)(l:List Lit)(w:Lit):Mk M nw fr (l++[w])=Mk M nw fr l++if w.neg=true then []else [fP M nw fr (w,l.length)]:=by
 unfold Mk;rw[List.zipIdx_append,Afv,Ad5];congr 1;cases h:w.neg<;>simp[h]
theorem qE (l:List Lit)(w:Lit):Qa (l++[w])=Qa l++if w.neg=true then [w.a]else []:=by
 unfold Qa;rw[Afv,Ad5];congr 1;cases h:w.neg<;>simp[h]
theorem Un {α:Type}(l:List α)(fr k:Nat){x:α}(hx:l[k]?=some x):(l.take (k+1)).drop fr=(l.take k).drop fr++if fr<=k then [x]else []:=by
 have hk:=(List.getElem?_eq_some_iff.1 hx).1;rw[Ad3,hx,Afe,List.drop_append,Aef,Aej Agm];congr 1;by_cases h:fr<=k
 ·rw[if_pos h,show fr-k=0 by omega];rfl
 ·rw[if_neg h,Adw (by simp;omega)]
def U6 (i:Nat)(nw:Int)(fr:Nat)(ts:List Tm)(l:List Ca)(j:Nat):List Ca:=(if (i:Int)=nw then (l.take j).drop fr else l.take j).filter (Kp ts)
theorem qG {i:Nat}{nw:Int}{fr:Nat}{ts:List Tm}{l:List Ca}{j:Nat}{t:Ca}(aa:l[j]?=some t):U6 i nw fr ts l (j+1)=U6 i nw fr ts l j++if (((i:Int)≠nw\/fr<=j)/\Kp ts t=true)then [t]else []:=by
 unfold U6;by_cases e:(i:Int)=nw
 ·rw[if_pos e,if_pos e,Un _ _ _ aa,Afv];congr 1;by_cases h1:fr<=j
  ·cases h2:Kp ts t<;>simp[h1,h2]
  ·simp[h1,e]
 ·rw[if_neg e,if_neg e,Ad3,aa,Afe,Du];congr 1;cases h2:Kp ts t<;>simp[e]
theorem Yg (om ot:Nat)(M:MM)(d b:Int)(r:D8)(c:List AV)(nw:Int)(fr:Nat)(hc:gE r c)(hr:ROk M.length r)(co:fr<=100000)(q:St)(hM:MOb q om ot M d b):ACalls Tryz.prog 138 [ptr om 0,ag c,ic nw,ic fr] q fun x q'=>(∃c',x=ag c'/\EQ (Kb M nw fr r) c')/\Keep q q':=by
 obtain⟨o,ih,ib,bc,rfl,hB⟩:=hc;have cp:=EL.length F6 hB;have hl:=hr.bl;have hpl:=hM.pl;have ch:=H1 M;have lo:=hM.lo;have lt:=hM.lt;have obm:=hM.ob;have ocm:=hM.oc;refine Z9 82 [.cell 8 191] Tryz.func138 ?_
 repeat' (first|refine Z1 ?_|(refine Z8 ?_;intro κ hκ)|(refine Z4 ?_;clear hκ κ)|(refine Z2 ?_ ?_<;>intro h ae<;>try exact Xp)|(refine Z6 ?_;intro idn qn ai aj ac aa ad ab)|refine Z3 ?_|exact⟨⟩|(apply hκ.out;clear hκ κ))
 refine Ag (fun m s q'=>∃(i i3 i5:Nat) (l1:List Part) (l2:List C4) (xs ys:List AV),m=r.body.length-i/\i<=r.body.length/\s 0=ptr om 0/\s 2=ic nw/\s 3=ic fr/\s 8=ptr (q.nobj+1) 0/\s 9=ptr (q.nobj+2) 0/\s 19=sl ib r.body.length bc/\s 20=ic r.body.length/\s 21=ic i/\Keep q q'/\q.nobj+2<q'.nobj/\q'.obj (q.nobj+1)=[ic 0,nilS,nilS,nilS]/\q'.obj (q.nobj+2)=[ic r.head.p,sl ih r.head.ts.length (Ac r.head.ts),sl i3 l1.length xs,sl i5 l2.length ys]/\Own q q' i3 l1.length/\Own q q' i5 l2.length/\(i3=1\/i3≠i5)/\l1.length<=i/\l2.length<=i/\xs.length=l1.length*3/\ys.length=l2.length*2/\Agt (EL Lr l1 xs/\EL Me l2 ys/\l1=Mk M nw fr (r.body.take i)/\l2=Qa (r.body.take i))) r.body.length
  ⟨0,1,1,[],[],[],[],Agm,Agm,by simp[upd,initS],by simp[upd,initS],by simp[upd,initS],Ago,Ago,Ago,Ago,rfl,Xs,Ags,?_,?_,Own.nil _ _,Own.nil _ _,.inl rfl,by simp,by simp,by simp,by simp,⟨rfl,rfl,by simp[Mk],by simp[Qa]⟩⟩ ?_
 ·rw[Ai Agm,Af Agq,Bs Agq Agq]
 ·rw[show q.nobj+2=q.nobj+1+1 from rfl,Aj];simp
 rintro m s q' ⟨i,i3,i5,l1,l2,xs,ys,rfl,hi,h0,h2,h3,h8,h9,b0,bz,bw,hK,hno,a8,a7,au,av,b9,cm,ck,b6,b5,hX⟩;have cf:=hK.nobj;have em:q'.obj om=[fx ot 0 M.length,ic d,ic b]:=by rw[hK.obj _ lo,obm]
 have et:q'.obj ot=Fl M:=by rw[hK.obj _ lt,ocm]
 by_cases bh:i<r.body.length
 ·have ah:=List.getElem?_eq_getElem bh;obtain⟨id,rr,hd⟩:=Gx hB ah;have bq:=hr.ba _ (Afa bh);obtain⟨k,hk,ca⟩:=hr.bp _ (Afa bh);generalize r.body[i]=w at hd ah bq hk;have HA:Agt (Mk M nw fr (r.body.take (i+1))=Mk M nw fr (r.body.take i)++(if w.neg=true then []else [fP M nw fr (w,i)])/\Qa (r.body.take (i+1))=Qa (r.body.take i)++if w.neg=true then [w.a]else []):=by
   rw[Agt,Ad3,ah,Afe,qF,qE,Aef,Aej Agm];exact⟨rfl,rfl⟩
  clear ah;cases am:w.neg with
  |true=>
   rw[am]at hd;have HX:Agt (EL Lr l1 xs/\EL Me (l2++[w.a]) (ys++[ic w.a.p,sl id w.a.ts.length (Ac w.a.ts)])/\l1=Mk M nw fr (r.body.take (i+1))/\l2++[w.a]=Qa (r.body.take (i+1))):=by
    obtain⟨x1,x2,x3,x4⟩:=hX.out;exact⟨x1,EL.append x2 (EL.single ⟨id,rfl⟩),by rw[HA.out.1,if_pos am,Ad7,x3],by rw[HA.out.2,if_pos am,x4]⟩
   clear hX HA
   repeat' (first|refine Z1 ?_|(refine Z8 ?_;intro κ hκ)|(refine Z4 ?_;clear hκ κ)|(refine Z2 ?_ ?_<;>intro h ae<;>try exact Xp)|(refine Z6 ?_;intro idn qn ai aj ac aa ad ab)|refine Z3 ?_|exact⟨⟩|(apply hκ.out;clear hκ κ))
   refine G5 (by first|exact E5|exact Fx|exact Dl) ((hK.new _).put hK.nobj _) (Own.put (Own.new av _) _ _) (by decide) (by rfl) b5 (by rfl) (by rfl) (by decide) Agm Agm ?_;intro idn qn ai aj ac aa ad ab ak;obtain⟨az,b8⟩:=ak i3 l1.length (Own.put (Own.new au _) _ _) Agm;have bd:i3=1\/i3≠idn:=Agm;simp only[Ab,Aa]at aa;have eob:∀p,p<q'.nobj->qn.obj p=q'.obj p:=fun p hp=>by rw[ac,Ai Agm,Af Agm]
   refine Z3 ?_
   repeat' (first|refine Z1 ?_|(refine Z8 ?_;intro κ hκ)|(refine Z4 ?_;clear hκ κ)|(refine Z2 ?_ ?_<;>intro h ae<;>try exact Xp)|(refine Z6 ?_;intro idn qn ai aj ac aa ad ab)|refine Z3 ?_|exact⟨⟩|(apply hκ.out;clear hκ κ))
   refine⟨r.body.length-(i+1),Agm,i+1,i3,idn,l1,l2++[w.a],xs,ys++[ic w.a.p,sl id w.a.ts.length (Ac w.a.ts)],?_⟩
   ((repeat' with_reducible refine And.intro ?_ ?_)<;>first|exact Xq|exact (aj.put Agm _)|exact (by simpa using Own.put ai _ _)|exact (Own.put az _ _)|exact (HX)|exact Xs)
  |false=>
   rw[am]at hd;have ap:M[k]?=some M[k]:=List.getElem?_eq_getElem ca;generalize M[k]=x at ap;have bn:=Adt ap;have cn:=H2 ap;have bv:=hM.t3 x bn;have ci:=hM.ln x bn;have cg:=Io bv;have HT:Agt (A5 M w.a.p=x.2):=by rw[Agt,A5,hk];simp[ap]
   rw[hk]at hd;have br:Agt _:=hX
   repeat' (first|refine Z1 ?_|(refine Z8 ?_;intro κ hκ)|(refine Z4 ?_;clear hκ κ)|(refine Z2 ?_ ?_<;>intro h ae<;>try exact Xp)|(refine Z6 ?_;intro idn qn ai aj ac aa ad ab)|refine Z3 ?_|exact⟨⟩|(apply hκ.out;clear hκ κ))
   refine Bu Al (fun _=>True) [] [0,1,2,3,4,5,6,7,8,9,10] [] Agp (fun _ _ _ h=>h) ?_;intro κ hκ
   repeat' (first|refine Z1 ?_|(refine Z8 ?_;intro κ hκ)|(refine Z4 ?_;clear hκ κ)|(refine Z2 ?_ ?_<;>intro h ae<;>try exact Xp)|(refine Z6 ?_;intro idn qn ai aj ac aa ad ab)|refine Z3 ?_|exact⟨⟩|(apply hκ.out;clear hκ κ))
   refine Ag (fun m s q2=>∃(j i6:Nat) (l3:List Ca) (zs:List AV),m=x.2.length-j/\j<=x.2.length/\s 0=ptr om 0/\s 2=ic nw/\s 3=ic fr/\s 8=ptr (q.nobj+1) 0/\s 9=ptr (q.nobj+2) 0/\s 10=ic i/\s 11=ptr q'.nobj 0/\s 12=ptr (q'.nobj+1) 0/\s 19=sl ib r.body.length bc/\s 20=ic r.body.length/\s 21=ic i/\s 46=sl x.1 x.2.length (Ej x.2)/\s 47=ic x.2.length/\s 48=ic j/\Keep q q2/\q'.nobj+1<q2.nobj/\q2.obj (q.nobj+1)=[ic 0,nilS,nilS,nilS]/\q2.obj (q.nobj+2)=[ic r.head.p,sl ih r.head.ts.length (Ac r.head.ts),sl i3 l1.length xs,sl i5 l2.length ys]/\q2.obj q'.nobj=[sc (.bool false),ic (k:Int),sl id w.a.ts.length (Ac w.a.ts)]/\q2.obj (q'.nobj+1)=[ic (k:Int),sl id w.a.ts.length (Ac w.a.ts),sl i6 l3.length zs]/\Own q q2 i3 l1.length/\Own q q2 i5 l2.length/\Own q q2 i6 l3.length/\(i6=1\/i6≠i3)/\(i6=1\/i6≠i5)/\l3.length<=j/\zs.length=l3.length*3/\Agt (zs=Ej l3/\l3=U6 i nw fr w.a.ts x.2 j)) x.2.length
    ⟨0,1,[],[],Agm,Agm,Agn,Agn,Agn,Agn,Agn,Agn,Agn,Agn,Agn,Agn,Agn,Agn,Agn,Ago,Xs,Ags,?_,?_,?_,?_,Own.put (Own.new (Own.put (Own.new au _) _ _) _) _ _,Own.put (Own.new (Own.put (Own.new av _) _ _) _) _ _,Own.nil _ _,.inl rfl,.inl rfl,by simp,by simp,⟨rfl,by simp[U6]⟩⟩ ?_
   ·rw[Ai Agm,Af Ags,Ai Agm,Af Agm,a8]
   ·rw[Ai Agm,Af Ags,Ai Agm,Af Agm,a7]
   ·rw[Ai Agm,Af Ags,Aj]
   ·rw[Aj];simp
   generalize bm:q'.nobj=o11 at*
   clear bm h0 h2 h3 h8 h9 b0 bz bw hK a8 a7 au av em et hX;rintro m s q2 ⟨j,i6,l3,zs,rfl,hj,h0,h2,h3,h8,h9,cv,cu,ct,b0,bz,bw,cs,cr,cq,hK,b7,a8,a7,b2,b1,au,av,bi,bf,be,cj,b4,hZ⟩;have b3:=hK.nobj;by_cases bg:j<x.2.length
   ·have ah:=List.getElem?_eq_getElem bg;obtain⟨ax,r2,cd⟩:=I7 bv ah;generalize x.2[j]=t at cd ah ax;have HD:Agt (U6 i nw fr w.a.ts x.2 (j+1)=U6 i nw fr w.a.ts x.2 j++if (((i:Int)≠nw\/fr<=j)/\Kp w.a.ts t=true)then [t]else []):=qG ah;clear ah;have f1:=G9 ax;have f2:=L5 ax;have f3:=H3 ax;have f4:=Nm ax;have f5:=Ep t;have f6:=X8 ax;have a6:=fun q=>jQ k id w.a.ts t ax bq q;by_cases af:(i:Int)≠nw\/fr<=j
    ·cases hf:Kp w.a.ts t with
     |true=>
      rw[hf]at a6;have HZ:Agt (zs++As t=Ej (l3++[t])/\l3++[t]=U6 i nw fr w.a.ts x.2 (j+1)):=by
       obtain⟨x1,x2⟩:=hZ.out;exact⟨by rw[x1,Oc],by rw[HD.out,if_pos ⟨af,hf⟩,x2]⟩
      clear hZ HD;have hs:((i:Int) !=nw)=true\/(((i:Int) !=nw)=false/\decide ((j:Int)>=(fr:Int))=true):=by
       by_cases e:(i:Int)=nw
       ·right;have:fr<=j:=by rcases af with h|h;exact absurd e h;exact h
        exact⟨by simp[e],by simp;omega⟩
       ·left;simpa using e
      clear af;rcases hs with a5|⟨a5,bo⟩
      all_goals
       repeat' (first|refine Z1 ?_|(refine Z8 ?_;intro κ hκ)|(refine Z4 ?_;clear hκ κ)|(refine Z2 ?_ ?_<;>intro h ae<;>try exact Xp)|(refine Z6 ?_;intro idn qn ai aj ac aa ad ab)|(refine Z5 ?_;refine Xi (a6 _) ?_;rintro _ _ ⟨rfl,an⟩;(have aw:=an.nobj;have ao:=an.obj;have bu:=((hK.new _).put hK.nobj _).trans an;have a4:=Own.keep (Own.put (Own.new au _) _ _) an;have a3:=Own.keep (Own.put (Own.new av _) _ _) an;have a0:=Own.keep (Own.put (Own.new bi _) _ _) an;simp only[Ab,Aa]at aw ao;have a9:=ao q2.nobj Agm;rw[Aj]at a9))|refine Z3 ?_|exact⟨⟩|(apply hκ.out;clear hκ κ))
       refine G5 (by first|exact E5|exact Fx|exact Dl) bu a0 (by decide) (by rfl) b4 (by rw[f1]) f5 (by decide) Agm Agm ?_;intro idn qn ai aj ac aa ad ab ak;obtain⟨az,bd⟩:=ak i3 l1.length a4 bf;obtain⟨ay,bb⟩:=ak i5 l2.length a3 be;have eob:∀p,p<q2.nobj->qn.obj p=q2.obj p:=fun p hp=>by rw[ac,ao _ Agm,Ai Agm,Af Agm]
       refine Z3 ?_
       repeat' (first|refine Z1 ?_|(refine Z8 ?_;intro κ hκ)|(refine Z4 ?_;clear hκ κ)|(refine Z2 ?_ ?_<;>intro h ae<;>try exact Xp)|(refine Z6 ?_;intro idn qn ai aj ac aa ad ab)|refine Z3 ?_|exact⟨⟩|(apply hκ.out;clear hκ κ))
       refine⟨x.2.length-(j+1),Agm,j+1,idn,l3++[t],zs++As t,?_⟩
       ((repeat' with_reducible refine And.intro ?_ ?_)<;>first|exact Xq|exact (aj.put Agm _)|exact (by simpa using Own.put ai _ _)|exact (Own.put az _ _)|exact (Own.put ay _ _)|exact (HZ)|exact Xs)
     |false=>
      rw[hf]at a6;have HZ:Agt (zs=Ej l3/\l3=U6 i nw fr w.a.ts x.2 (j+1)):=by
       obtain⟨x1,x2⟩:=hZ.out;exact⟨x1,by rw[HD.out,if_neg (fun h=>by rw[hf]at h;cases h.2),x2,Ad7]⟩
      clear hZ HD;have hs:((i:Int) !=nw)=true\/(((i:Int) !=nw)=false/\decide ((j:Int)>=(fr:Int))=true):=by
       by_cases e:(i:Int)=nw
       ·right;have:fr<=j:=by rcases af with h|h;exact absurd e h;exact h
        exact⟨by simp[e],by simp;omega⟩
       ·left;simpa using e
      clear af;rcases hs with a5|⟨a5,bo⟩
      all_goals
       repeat' (first|refine Z1 ?_|(refine Z8 ?_;intro κ hκ)|(refine Z4 ?_;clear hκ κ)|(refine Z2 ?_ ?_<;>intro h ae<;>try exact Xp)|(refine Z6 ?_;intro idn qn ai aj ac aa ad ab)|(refine Z5 ?_;refine Xi (a6 _) ?_;rintro _ _ ⟨rfl,an⟩;(have aw:=an.nobj;have ao:=an.obj;have bu:=((hK.new _).put hK.nobj _).trans an;have a4:=Own.keep (Own.put (Own.new au _) _ _) an;have a3:=Own.keep (Own.put (Own.new av _) _ _) an;have a0:=Own.keep (Own.put (Own.new bi _) _ _) an;simp only[Ab,Aa]at aw ao))|refine Z3 ?_|exact⟨⟩|(apply hκ.out;clear hκ κ))
       refine⟨x.2.length-(j+1),Agm,j+1,i6,l3,zs,?_⟩
       ((repeat' with_reducible refine And.intro ?_ ?_)<;>first|exact Xq|exact (HZ)|exact Xs)
    ·have HZ:Agt (zs=Ej l3/\l3=U6 i nw fr w.a.ts x.2 (j+1)):=by
      obtain⟨x1,x2⟩:=hZ.out;exact⟨x1,by rw[HD.out,if_neg (fun h=>af h.1),x2,Ad7]⟩
     have a5:((i:Int) !=nw)=false:=by
      cases h:(i:Int) !=nw with
      |false=>rfl
      |true=>exact absurd (.inl (by simpa using h)) af
     have bo:decide ((j:Int)>=(fr:Int))=false:=by
      have:¬fr<=j:=fun h=>af (.inr h);simp;omega
     clear hZ HD af
     repeat' (first|refine Z1 ?_|(refine Z8 ?_;intro κ hκ)|(refine Z4 ?_;clear hκ κ)|(refine Z2 ?_ ?_<;>intro h ae<;>try exact Xp)|(refine Z6 ?_;intro idn qn ai aj ac aa ad ab)|refine Z3 ?_|exact⟨⟩|(apply hκ.out;clear hκ κ))
     refine⟨x.2.length-(j+1),Agm,j+1,i6,l3,zs,?_⟩
     ((repeat' with_reducible refine And.intro ?_ ?_)<;>first|exact Xq|exact (Own.put (Own.new au _) _ _)|exact (Own.put (Own.new av _) _ _)|exact (Own.put (Own.new bi _) _ _)|exact (HZ)|exact Xs)
   ·have cb:j=x.2.length:=Agm;subst cb;have HX:Agt (EL Lr (l1++[⟨w.a,l3⟩]) (xs++[ic (k:Int),sl id w.a.ts.length (Ac w.a.ts),sl i6 l3.length zs])/\EL Me l2 ys/\l1++[⟨w.a,l3⟩]=Mk M nw fr (r.body.take (i+1))/\l2=Qa (r.body.take (i+1))):=by
     obtain⟨x1,x2,x3,x4⟩:=br.out;obtain⟨z1,z2⟩:=hZ.out;refine⟨EL.append x1 (EL.single ⟨id,i6,by rw[hk,z1]⟩),x2,?_,by rw[HA.out.2,if_neg (by rw[am];simp),Ad7,x4]⟩;rw[HA.out.1,if_neg (by rw[am];simp),x3];congr 2;unfold fP U5;simp only[HT.out];rw[z2];unfold U6;rw[Adz]
    clear hZ br HA;have ce:True->Own q q2 i3 l1.length:=fun _=>au;clear au
    repeat' (first|refine Z1 ?_|(refine Z8 ?_;intro κ hκ)|(refine Z4 ?_;clear hκ κ)|(refine Z2 ?_ ?_<;>intro h ae<;>try exact Xp)|(refine Z6 ?_;intro idn qn ai aj ac aa ad ab)|refine Z3 ?_|exact⟨⟩|(apply hκ.out;clear hκ κ))
    refine G5 (by first|exact E5|exact Fx|exact Dl) hK (ce trivial) (by decide) (by rfl) b6 (by rfl) (by rfl) (by decide) Agm Agm ?_;intro idn qn ai aj ac aa ad ab ak;obtain⟨ay,bb⟩:=ak i5 l2.length av b9;refine Z3 ?_
    repeat' (first|refine Z1 ?_|(refine Z8 ?_;intro κ hκ)|(refine Z4 ?_;clear hκ κ)|(refine Z2 ?_ ?_<;>intro h ae<;>try exact Xp)|(refine Z6 ?_;intro idn qn ai aj ac aa ad ab)|refine Z3 ?_|exact⟨⟩|(apply hκ.out;clear hκ κ))
    refine⟨r.body.length-(i+1),Agm,i+1,idn,i5,l1++[⟨w.a,l3⟩],l2,xs++[ic (k:Int),sl id w.a.ts.length (Ac w.a.ts),sl i6 l3.length zs],ys,?_⟩
    ((repeat' with_reducible refine And.intro ?_ ?_)<;>first|exact Xq|exact (aj.put Agm _)|exact (by simpa using Own.put ai _ _)|exact (Own.put ay _ _)|exact (HX)|exact Xs)
 ·have cc:i=r.body.length:=Agm;subst cc;obtain⟨x1,x2,x3,x4⟩:=hX.out;rw[Adz]at x3 x4
  repeat' (first|refine Z1 ?_|(refine Z8 ?_;intro κ hκ)|(refine Z4 ?_;clear hκ κ)|(refine Z2 ?_ ?_<;>intro h ae<;>try exact Xp)|(refine Z6 ?_;intro idn qn ai aj ac aa ad ab)|refine Z3 ?_|exact⟨⟩|(apply hκ.out;clear hκ κ))
  exact⟨_,rfl,⟨_,rfl,ih,i3,i5,xs,ys,by first|(simp only[Kb];done)|(simp only[Kb];rw[x3,x4]),by simp only[Kb];rw[<-x3];exact x1,by simp only[Kb];rw[<-x4];exact x2⟩,hK.put Agm _⟩
end Go.Proofs.YtmoeoppbmhfbpabGreatDoorG
