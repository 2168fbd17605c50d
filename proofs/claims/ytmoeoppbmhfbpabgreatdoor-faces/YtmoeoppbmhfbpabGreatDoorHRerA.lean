import Derived.Test.YtmoeoppbmhfbpabGreatDoorHProgR
import Derived.Test.YtmoeoppbmhfbpabGreatDoorHTxtK
import Derived.Test.YtmoeoppbmhfbpabGreatDoorHAbsWp
set_option linter.all false
namespace Go.Proofs.YtmoeoppbmhfbpabGreatDoorH
set_option maxHeartbeats 16000000
open Go.Abs
def xX (p:Tx):Prop:=Gm p/\p.length<=6
def zV (t:Tx):Prop:=(∃b,t=[b]/\A3 b.toNat=true)\/t=[48]\/∃b r,t=b::r/\Fz b.toNat=true/\(∀c∈r,Ax c.toNat=true)/\r.length<=2
structure tS (a:RAtom):Prop where
 nm:xX a.pred
 ne:a.terms≠[]
 few:a.terms.length<=3
 tm:∀t∈a.terms,zV t
structure wV (x:RItem):Prop where
 nm:xX x.head.pred
 out:x.out=true->x.head.nt=false/\x.head.terms=[]/\x.body=[]
 rule:x.out=false->tS x.head/\x.head.nt=false/\x.body.length<=5/\∀a∈x.body,tS a
theorem Ou (p:Int->Bool):∀(n:Nat) (t r:Tx),(∀b∈t,p b.toNat=true)->t.length<=n->(∀b q,r=b::q->p b.toNat=false)->Av p n (t++r)=(t,r)
 |n,[],r,_,_,hr=>by
  cases n with
  |zero=>rfl
  |succ n=>
   cases r with
   |nil=>rfl
   |cons b q=>
    show Av p (n+1) (b::q)=_;unfold Av;rw[if_neg (by simp[hr b q rfl])]
 |0,b::t,r,_,hl,_=>by simp at hl
 |n+1,b::t,r,ht,hl,hr=>by
  show Av p (n+1) (b::(t++r))=_;unfold Av;rw[if_pos (ht b (by simp)),Ou p n t r (fun c hc=>ht c (by simp[hc])) (by simpa using hl) hr]
theorem Me (p:Int->Bool):∀(n:Nat) (s:Tx),(Av p n s).1.length<=n
 |0,s=>by simp[Av]
 |n+1,[]=>by simp[Av]
 |n+1,b::r=>by
  unfold Av;split
  ·have:=Me p n r;simp;omega
  ·simp
theorem bV {p r:Tx}(h:xX p)(hr:∀b q,r=b::q->A5 b.toNat=false):D6 (p++r)= .got p r:=by
 unfold D6;rw[Ou A5 6 p r h.1.2 h.2 hr];rw[if_neg h.1.1]
theorem bW {s r p:Tx}(h:D6 s= .got p r):xX p:=by
 refine⟨(Mf h).2,?_⟩;unfold D6 at h;split at h
 ·cases h
 ·cases h;exact Me _ _ _
theorem bR {t r:Tx}(h:zV t)(hr:∀b q,r=b::q->Ax b.toNat=false):Cf (t++r)= .got t r:=by
 rcases h with⟨b,rfl,hb⟩|rfl|⟨b,q,rfl,hb,hq,hl⟩
 ·show Cf (b::r)=_;unfold Cf;dsimp only;rw[if_pos hb]
 ·show Cf (48::r)=_;unfold Cf;dsimp only;rw[if_neg (by decide),if_pos (by decide)]
 ·show Cf (b::(q++r))=_;unfold Cf;dsimp only;rw[if_neg,if_neg,if_pos hb,Ou Ax 2 q r hq hl hr]
  ·intro e;simp only[Fz,Abj,Adx]at hb;simp at e;omega
  ·intro e;rw[Kk e]at hb;cases hb
theorem qZ {s r t:Tx}(h:Cf s= .got t r):zV t:=by
 cases s with
 |nil=>cases h
 |cons b q=>
  unfold Cf at h;dsimp only at h;split at h
  ·rename_i hl;cases h;exact .inl ⟨b,rfl,hl⟩
  split at h
  ·rename_i h0;cases h;have:b=48:=Jo 48 h0;rw[this];exact .inr (.inl rfl)
  split at h
  ·rename_i h9;cases h;exact .inr (.inr ⟨b,_,rfl,h9,(Dp Ax 2 q).2,Me _ _ _⟩)
  ·cases h
theorem Dt {α β:Type}(x:α)(r:Tx)(f:α->Tx->Rd β):(Rd.got x r).bnd f=f x r:=rfl
theorem Iw {c:UInt8}{r:Tx}:Az c.toNat (c::r)= .got () r:=by unfold Az;dsimp only;rw[if_pos (by simp)]
theorem L8 (t:Tx)(ts:List Tx):A8 (t::ts)=44::(t++A8 ts):=by simp[A8]
theorem Sn {α:Type}{f:Tx->Rd α}{u:α->Tx}{c:UInt8}(hc:c≠44){P:α->Prop}(hf:∀x r,P x->(∀b q,r=b::q->b=44\/b=c)->f (u x++r)= .got x r):∀(n:Nat) (xs:List α) (r:Tx),(∀x∈xs,P x)->xs.length<=n->De f n (A8 (xs.map u)++c::r)= .got xs (c::r)
 |0,[],r,_,_=>rfl
 |n+1,[],r,_,_=>by
  show De f (n+1) (c::r)=_;unfold De
  rw[if_neg (by
   intro h
   exact hc (Jo 44 h))]
 |0,x::xs,r,_,hl=>by simp at hl
 |n+1,x::xs,r,hP,hl=>by
  rw[Abx,L8];show De f (n+1) (44::((u x++A8 (xs.map u))++c::r))=_;unfold De;rw[if_pos (by decide),Ab4,hf x _ (hP x (by simp)) ?_]
  ·rw[Dt,Sn hc hf n xs r (fun y hy=>hP y (by simp[hy])) (by simpa using hl)];rfl
  ·intro b q e;cases xs with
   |nil=>simp[A8]at e;exact .inr e.1.symm
   |cons y ys=>rw[Abx,L8]at e;simp at e;exact .inl e.1.symm
theorem nd {b:UInt8}(h:b=44\/b=41):Ax b.toNat=false:=by rcases h with rfl|rfl<;>decide
theorem bZ {a:RAtom}(h:tS a)(r:Tx):Df a.nt (A9 a++r)= .got a r:=by
 unfold Df A9;rw[Ab4,bV h.nm (fun b q e=>by simp at e;rw[<-e.1];decide)];rw[Dt,Acg];rw[show (40:Int)=((40:UInt8).toNat:Int)from rfl,Iw];rw[Dt];obtain⟨t,ts,e⟩:=Ado h.ne;have ab:=h.tm;have aa:=h.few;rw[e]at ab aa;rw[e,A2];unfold Ss;have e2:((t++A8 ts++[41])++r:Tx)=t++(A8 (ts.map id)++41::r):=by simp
 rw[e2,bR (ab t (by simp)) ?_]
 ·rw[Dt,Sn (u:=id) (c:=41) (by decide) (P:=zV) (fun x r hx hr=>bR hx fun b q e=>nd (hr b q e)) 2 ts r (fun y hy=>ab y (by simp[hy])) (by simpa using aa)];rw[Dt,show (41:Int)=((41:UInt8).toNat:Int)from rfl,Iw];rw[Dt,<-e]
 ·intro b q eb;cases ts with
  |nil=>simp[A8]at eb;exact nd (.inr eb.1.symm)
  |cons y ys=>rw[Abx,L8]at eb;simp at eb;exact nd (.inl eb.1.symm)
theorem kF {a:RAtom}(h:tS a)(r:Tx):Iv (Bg a++r)= .got a r:=by
 have hp:=bZ h r;cases hn:a.nt with
 |true=>
  rw[hn]at hp;rw[show Bg a++r=33::(A9 a++r)by simp[Bg,hn]];unfold Iv;dsimp only;rw[if_pos (by decide)];exact hp
 |false=>
  rw[hn]at hp;rw[show Bg a++r=A9 a++r by simp[Bg,hn]];obtain⟨b,q,e,h1,h2⟩:=Ji h.nm.1;have e2:A9 a++r=b::(q++40::(A2 a.terms++[41])++r):=by unfold A9;rw[e];simp
  rw[e2]at hp⊢;unfold Iv;dsimp only;rw[if_neg (by simp;omega)];exact hp
theorem rB {x:RItem}(h:wV x)(r:Tx):Eo (A0 x++46::r)= .got x r:=by
 cases ho:x.out with
 |true=>
  obtain⟨h1,h2,h3⟩:=h.out ho;rw[A0,if_pos ho];show Eo (63::(x.head.pred++46::r))=_;unfold Eo;dsimp only;rw[if_pos (by decide)];unfold X8;rw[bV h.nm (fun b q e=>by simp at e;rw[<-e.1];decide)];rw[Dt,show (46:Int)=((46:UInt8).toNat:Int)from rfl,Iw];rw[Dt];obtain⟨o,⟨n,p,ts⟩,bd⟩:=x;simp only at h1 h2 h3 ho;subst h1;subst h2;subst h3;subst ho;rfl
 |false=>
  obtain⟨h1,h2,h3,h4⟩:=h.rule ho;have hR:Eo (A0 x++46::r)=L0 (A0 x++46::r):=by
   obtain⟨b,q,e,g1,g2⟩:=Ji h.nm.1;have e2:A0 x++46::r=b::(q++40::(A2 x.head.terms++[41])++(if x.body=[]then []else 58::45::A2 (x.body.map Bg))++46::r):=by
    unfold A0 Cw A9;rw[if_neg (by simp[ho]),e];simp
   rw[e2];unfold Eo;dsimp only;rw[if_neg (by simp;omega)]
  rw[hR,A0,if_neg (by simp[ho]),Cw,Ab4];unfold L0;have hp:=bZ h1 ((if x.body=[]then []else 58::45::A2 (x.body.map Bg))++46::r);rw[h2]at hp;rw[hp,Dt];by_cases hb:x.body=[]
  ·rw[if_pos hb];show Lz x.head (46::r)=_;unfold Lz;dsimp only;rw[if_pos (by decide)];rw[<-hb,<-ho]
  ·rw[if_neg hb];obtain⟨l,ls,e⟩:=Ado hb;rw[e]at h3 h4;rw[e,Abx,A2];have e2:(58::45::(Bg l++A8 (ls.map Bg))++46::r:Tx)=58::45::(Bg l++(A8 (ls.map Bg)++46::r)):=by simp
   rw[e2];unfold Lz;dsimp only;rw[if_neg (by decide)];rw[show (58:Int)=((58:UInt8).toNat:Int)from rfl,Iw];rw[Dt,show (45:Int)=((45:UInt8).toNat:Int)from rfl,Iw];rw[Dt];unfold Ps;rw[kF (h4 l (by simp)),Dt,Sn (u:=Bg) (c:=46) (by decide) (P:=tS) (fun y q hy _=>kF hy q) 4 ls r (fun y hy=>h4 y (by simp[hy])) (by simpa using h3)];rw[Dt,show (46:Int)=((46:UInt8).toNat:Int)from rfl,Iw];rw[Dt,<-e,<-ho]
theorem We:∀(n:Nat) (l:List RItem),(∀x∈l,wV x)->l.length<=n->Bu n (Bl l)= .got l []
 |n,[],_,_=>by cases n<;>rfl
 |0,x::l,_,hl=>by simp at hl
 |n+1,x::l,h,hl=>by
  have e:Bl (x::l)=A0 x++46::Bl l:=by simp[Bl]
  have hne:A0 x++46::Bl l≠[]:=by simp
  obtain⟨b,q,e2⟩:=Ado hne;rw[e];have hp:=rB (h x (by simp)) (Bl l);rw[e2]at hp⊢;show ((Eo (b::q)).bnd fun x r=>(Bu n r).bnd fun xs r=>.got (x::xs) r)=_;rw[hp,Dt,We n l (fun y hy=>h y (by simp[hy])) (by simpa using hl)];rfl
theorem rA {α:Type}{f:Tx->Rd α}{P:α->Prop}(hf:∀s x r,f s= .got x r->P x){n:Nat}{s:Tx}{xs:List α}{r:Tx}(h:De f n s= .got xs r):∀x∈xs,P x:=K6 hf n s xs r h
theorem Sr {nt:Bool}{s r:Tx}{a:RAtom}(h:Df nt s= .got a r):tS a:=by
 have hw:=(Hi h).2.1;have ht:=K7 (T:=zV) (fun _ _ _ h=>qZ h) h;refine⟨?_,hw.2.1,hw.2.2.1,ht⟩;unfold Df at h;obtain⟨p,q,h1,h⟩:=A1 h;obtain⟨u,q2,h2,h⟩:=A1 h;unfold Ss at h;obtain⟨t,q3,h3,h⟩:=A1 h;obtain⟨ts,q4,h4,h⟩:=A1 h;obtain⟨u2,q5,h5,h⟩:=A1 h;cases h;exact bW h1
theorem kG {s r:Tx}{a:RAtom}(h:Iv s= .got a r):tS a:=by
 cases s with
 |nil=>cases h
 |cons b q=>
  unfold Iv at h;dsimp only at h;split at h
  ·exact Sr h
  ·exact Sr h
theorem rC {s r:Tx}{x:RItem}(h:Eo s= .got x r):wV x:=by
 have hw:=(Sq h).2;cases s with
 |nil=>cases h
 |cons b q=>
  unfold Eo at h;dsimp only at h;split at h
  ·unfold X8 at h;obtain⟨p,q,h1,h⟩:=A1 h;obtain⟨u,q2,h2,h⟩:=A1 h;cases h;exact⟨bW h1,hw.2.1,(fun e=>by cases e)⟩
  ·unfold L0 at h;obtain⟨hd,q,h1,h⟩:=A1 h;have hg:=Sr h1;have key:x.head=hd/\x.out=false/\∀a∈x.body,tS a:=by
    cases q with
    |nil=>cases h
    |cons c q=>
     unfold Lz at h;dsimp only at h;split at h
     ·cases h;exact⟨rfl,rfl,by simp⟩
     ·obtain⟨_,q2,_,h⟩:=A1 h;obtain⟨_,q3,_,h⟩:=A1 h;unfold Ps at h;obtain⟨l,q4,h4,h⟩:=A1 h;obtain⟨ls,q5,h5,h⟩:=A1 h;obtain⟨_,q6,_,h⟩:=A1 h;cases h;refine⟨rfl,rfl,fun a ha=>?_⟩;rcases Ace.1 ha with rfl|ha
      ·exact kG h4
      ·exact rA (fun _ _ _ h=>kG h) h5 a ha
   obtain⟨e1,e2,e3⟩:=key;refine⟨by rw[e1];exact hg.nm,hw.2.1,fun ho=>⟨by rw[e1];exact hg,(hw.2.2 ho).2.1,(hw.2.2 ho).2.2.1,e3⟩⟩
theorem Wg:∀(n:Nat) (s:Tx) (l:List RItem) (r:Tx),Bu n s= .got l r->∀x∈l,wV x
 |n,[],l,r,h=>by
  cases n<;>(cases h;intro x hx;cases hx)
 |0,b::s,l,r,h=>by cases h
 |n+1,b::s,l,r,h=>by
  have h':((Eo (b::s)).bnd fun x r=>(Bu n r).bnd fun xs r=>.got (x::xs) r)= .got l r:=h;obtain⟨x,q,h1,h2⟩:=A1 h';obtain⟨xs,q2,h3,h4⟩:=A1 h2;cases h4;intro y hy;rcases Ace.1 hy with rfl|hy
  ·exact rC h1
  ·exact Wg n _ _ _ h3 y hy
set_option maxRecDepth 100000
def Fy (P:List Tx):Tx:=(P.filter Mg).flatten
theorem Wh {P:List Tx}{i:Nat}{p:Tx}(h:P[i]?=some p):Fy (P.take (i+1))=Fy (P.take i)++if Mg p=true then p else []:=by
 unfold Fy;rw[Abq,h,Ac2,Adg,List.flatten_append];cases hp:Mg p<;>simp[hp]
theorem rD {P:List Tx}{B:Nat}(h:∀p∈P,p.length<=B)(i:Nat):(Fy (P.take i)).length<=i*B:=by
 induction i with
 |zero=>simp[Fy]
 |succ i ih=>
  rw[Abr];cases hg:P[i]? with
  |none=>rw[Abq,hg,Option.toList_none,Abv];omega
  |some p=>
   have:=h p (Abh hg);rw[Wh hg,Ab2];split
   ·omega
   ·simp;omega
theorem L1 (t:Tx)(ht:t.length<=100000)(hn:(Dn t).length<=1000)(hp:∀p∈Dn t,p.length<=100000)(M:St):ACalls Tryz.prog 17 [str t] M fun r M'=>r=str (Fy (Dn t))/\Keep M M':=by
 have aj:=fun M=>Fp t Ad2 M;have ac:=fun p M=>Nq p M;have an:({data:=#[]}:ByteArray)=bs []:=rfl;generalize Dn t=P at*
 refine Z9 26 [.tmp 2] Tryz.func17 ?_
 repeat' (first|refine Z1 ?_|(refine Z8 ?_;intro κ hκ)|(refine Z4 ?_;clear hκ κ)|(refine Z2 ?_ ?_<;>intro h ab<;>try exact Xp)|(refine Z5 ?_;refine Xi (aj _) ?_;rintro _ _ ⟨⟨idp,rfl⟩,ae⟩;(have ad:=ae.nobj))|refine Z7 ?_|exact⟨⟩|(apply hκ.out;clear hκ κ))
 rename_i M1
 refine Ad (fun m s M'=>∃(i:Nat) (u:Tx),m=P.length-i/\i<=P.length/\s 3=sl idp P.length (P.map str)/\s 4=str u/\s 5=sc (.int .i64 i)/\Keep M M'/\Ad8 (u=Fy (P.take i))) P.length
  ⟨0,[],Ad2,Ad2,rfl,rfl,rfl,ae,by simp[Ad8,Fy]⟩ ?_
 clear ae ad;rintro m s M2 ⟨i,u,rfl,hi,h3,h4,h5,hK,hU⟩;have ak:=hK.nobj;by_cases af:i<P.length
 ·have aa:=List.getElem?_eq_getElem af;have ai:=Cm af;generalize P[i]=p at aa ai;have ac:=ac p;have am:u.length+p.length<=1099511627776:=by
   have h1:=rD hp i;rw[<-hU.out]at h1;have h2:=hp p (Abh aa);omega
  have HS:Ad8 (Fy (P.take (i+1))=u++if Mg p=true then p else []):=by
   rw[Ad8,Wh aa,<-hU.out]
  clear hp aa hU;cases ho:Mg p with
  |true=>
   rw[ho]at ac HS;have HU:Ad8 (u++p=Fy (P.take (i+1))):=by rw[Ad8,HS.out];rfl
   clear HS
   repeat' (first|refine Z1 ?_|(refine Z8 ?_;intro κ hκ)|(refine Z4 ?_;clear hκ κ)|(refine Z2 ?_ ?_<;>intro h ab<;>try exact Xp)|(refine Z5 ?_;refine Xi (ac _) ?_;rintro _ _ ⟨rfl,rfl⟩)|refine Z7 ?_|exact⟨⟩|(apply hκ.out;clear hκ κ))
   refine⟨P.length-(i+1),Ad2,i+1,u++p,?_⟩
   ((repeat' with_reducible refine And.intro ?_ ?_)<;>first|exact Xq|exact (HU)|exact Xs)
  |false=>
   rw[ho]at ac HS;have HU:Ad8 (u=Fy (P.take (i+1))):=by rw[Ad8,HS.out];simp
   clear HS
   repeat' (first|refine Z1 ?_|(refine Z8 ?_;intro κ hκ)|(refine Z4 ?_;clear hκ κ)|(refine Z2 ?_ ?_<;>intro h ab<;>try exact Xp)|(refine Z5 ?_;refine Xi (ac _) ?_;rintro _ _ ⟨rfl,rfl⟩)|refine Z7 ?_|exact⟨⟩|(apply hκ.out;clear hκ κ))
   refine⟨P.length-(i+1),Ad2,i+1,u,?_⟩
   ((repeat' with_reducible refine And.intro ?_ ?_)<;>first|exact Xq|exact (HU)|exact Xs)
 ·have ah:i=P.length:=Ad2;have hu:u=Fy P:=by rw[hU.out,ah,Abn]
  rw[hu]at h4;clear hU hu hp;generalize Fy P=v at*
  repeat' (first|refine Z1 ?_|(refine Z8 ?_;intro κ hκ)|(refine Z4 ?_;clear hκ κ)|(refine Z2 ?_ ?_<;>intro h ab<;>try exact Xp)|refine Z7 ?_|exact⟨⟩|(apply hκ.out;clear hκ κ))
  first|exact⟨_,rfl,rfl,hK⟩|exact⟨_,rfl,hK⟩|exact⟨_,rfl,rfl⟩
def Iq (q:Tx)(P:List Tx):Nat:=(P.filter fun p=>!Mg p&&nL p==q).length
theorem qG {q:Tx}{P:List Tx}{i:Nat}{p:Tx}(h:P[i]?=some p):Iq q (P.take (i+1))=Iq q (P.take i)+if (!Mg p&&nL p==q)=true then 1 else 0:=by
 unfold Iq;rw[Abq,h,Ac2,Adg,Ab2];congr 1;cases hp:(!Mg p&&nL p==q)<;>simp[List.filter,hp]
theorem Pv (P:List Tx)(ids:Nat)(q:Tx)(hn:P.length<=1000)(hp:∀p∈P,p.length<=100000/\(F1 p).length<=1000)(M:St):ACalls Tryz.prog 47 [sl ids P.length (P.map str),str q] M fun r M'=>r=sc (.int .i64 (Iq q P:Nat))/\Keep M M':=by
 have ad:=fun p M=>Nq p M;have af:=fun p (am:p∈P) M=>gJ p (hp p am).1 (by have:=(hp p am).2;omega) M;clear hp;refine Z9 31 [.tmp 4] Tryz.func47 ?_
 repeat' (first|refine Z1 ?_|(refine Z8 ?_;intro κ hκ)|(refine Z4 ?_;clear hκ κ)|(refine Z2 ?_ ?_<;>intro h aa<;>try exact Xp)|refine Z7 ?_|exact⟨⟩|(apply hκ.out;clear hκ κ))
 refine Ad (fun m s M'=>∃(i u:Nat),m=P.length-i/\i<=P.length/\u<=i/\s 0=sl ids P.length (P.map str)/\s 1=str q/\s 5=sc (.int .i64 u)/\s 6=sc (.int .i64 i)/\Keep M M'/\Ad8 (u=Iq q (P.take i))) P.length
  ⟨0,0,Ad2,Ad2,Ad2,rfl,rfl,rfl,rfl,Keep.refl _,by simp[Ad8,Iq]⟩ ?_
 rintro m s M2 ⟨i,u,rfl,hi,au,h0,h1,h5,h6,hK,hU⟩;have ar:=hK.nobj;by_cases ai:i<P.length
 ·have ac:=List.getElem?_eq_getElem ai;have ao:=Cm ai;have ab:=Acz ai;generalize P[i]=p at ac ao ab;have ad:=ad p;have af:=af p ab;have HS:Ad8 (Iq q (P.take (i+1))=u+if (!Mg p&&nL p==q)=true then 1 else 0):=by rw[Ad8,qG ac,<-hU.out]
  clear ac ab hU;cases ho:Mg p with
  |true=>
   rw[ho]at ad HS;have HU:Ad8 (u=Iq q (P.take (i+1))):=by rw[Ad8,HS.out];simp
   clear HS af
   repeat' (first|refine Z1 ?_|(refine Z8 ?_;intro κ hκ)|(refine Z4 ?_;clear hκ κ)|(refine Z2 ?_ ?_<;>intro h aa<;>try exact Xp)|(refine Z5 ?_;refine Xi (ad _) ?_;rintro _ _ ⟨rfl,rfl⟩)|refine Z7 ?_|exact⟨⟩|(apply hκ.out;clear hκ κ))
   refine⟨P.length-(i+1),Ad2,i+1,u,?_⟩
   ((repeat' with_reducible refine And.intro ?_ ?_)<;>first|exact Xq|exact (HU)|exact Xs)
  |false=>
   rw[ho]at ad HS;by_cases hh:nL p=q
   ·have aj:(nL p==q)=true:=by simpa using hh
    rw[aj]at HS;have HU:Ad8 (u+1=Iq q (P.take (i+1))):=by rw[Ad8,HS.out];rfl
    clear HS hh;generalize nL p=ap at*
    repeat' (first|refine Z1 ?_|(refine Z8 ?_;intro κ hκ)|(refine Z4 ?_;clear hκ κ)|(refine Z2 ?_ ?_<;>intro h aa<;>try exact Xp)|(refine Z5 ?_;first|(refine Xi (ad _) ?_;rintro _ _ ⟨rfl,rfl⟩)|(refine Xi (af _) ?_;rintro _ _ ⟨rfl,ae⟩;(have ah:=ae.nobj;have ak:=hK.trans ae)))|refine Z7 ?_|exact⟨⟩|(apply hκ.out;clear hκ κ))
    refine⟨P.length-(i+1),Ad2,i+1,u+1,?_⟩
    ((repeat' with_reducible refine And.intro ?_ ?_)<;>first|exact Xq|exact (ak)|exact (HU)|exact Xs)
   ·have aj:(nL p==q)=false:=by simpa using hh
    rw[aj]at HS;have HU:Ad8 (u=Iq q (P.take (i+1))):=by rw[Ad8,HS.out];simp
    clear HS hh;generalize nL p=ap at*
    repeat' (first|refine Z1 ?_|(refine Z8 ?_;intro κ hκ)|(refine Z4 ?_;clear hκ κ)|(refine Z2 ?_ ?_<;>intro h aa<;>try exact Xp)|(refine Z5 ?_;first|(refine Xi (ad _) ?_;rintro _ _ ⟨rfl,rfl⟩)|(refine Xi (af _) ?_;rintro _ _ ⟨rfl,ae⟩;(have ah:=ae.nobj;have ak:=hK.trans ae)))|refine Z7 ?_|exact⟨⟩|(apply hκ.out;clear hκ κ))
    refine⟨P.length-(i+1),Ad2,i+1,u,?_⟩
    ((repeat' with_reducible refine And.intro ?_ ?_)<;>first|exact Xq|exact (ak)|exact (HU)|exact Xs)
 ·have an:i=P.length:=Ad2;have hu:u=Iq q P:=by rw[hU.out,an,Abn]
  subst hu;clear hU;generalize Iq q P=v at*
  repeat' (first|refine Z1 ?_|(refine Z8 ?_;intro κ hκ)|(refine Z4 ?_;clear hκ κ)|(refine Z2 ?_ ?_<;>intro h aa<;>try exact Xp)|refine Z7 ?_|exact⟨⟩|(apply hκ.out;clear hκ κ))
  first|exact⟨_,rfl,rfl,hK⟩|exact⟨_,rfl,hK⟩|exact⟨_,rfl,rfl⟩
end Go.Proofs.YtmoeoppbmhfbpabGreatDoorH
namespace Go.Abs
theorem tJ {P:Program}{t:TypeId}{z b:Nat}{zc:List Value}{M:St}{id2 m n:Nat}{x:AV}{xs ys:List AV}{K:AV->St->Prop}(ht:Ma P t=some (z,b,zc))
  (hz:0<z) (hzc:zc.length=z) (hy:ys.length=m*z) (hf:ys.all flat=true) (hm:0<m) (hb:(n+m)*b<=140737488355328) (hl:n+m<=1099511627776)
  (hx:(x=nilS/\n=0/\xs=[])\/∃o cap,x=gx o n cap/\0<n/\n<=cap/\(M.obj o).length=cap*z/\(M.obj o).take (n*z)=xs)
  (hO:∀o cap cs,((∃c0,x=gx o n c0/\n+m<=c0/\cap=c0)->cs.length=cap*z->cs.take ((n+m)*z)=xs++ys->K (gx o (n+m) cap) (M.put o cs)))
  (hN:∀cap cs,cs.length=cap*z->n+m<=cap->cs.take ((n+m)*z)=xs++ys->K (gx M.nobj (n+m) cap) (M.new cs)):Hy P t t x (sl id2 m ys) M K:=by
 right;refine⟨z,b,zc,id2,m,ys,ht,rfl,rfl,hz,hzc,hy,hf,hm,?_⟩;have ab:∀k,(List.replicate k (zc.map cst1)).flatten.length=k*z:=fun k=>by
  induction k with
  |zero=>simp
  |succ k ih=>rw[List.replicate_succ,List.flatten_cons,Ab2,ih,Ac9,hzc,Abr,Nat.add_comm]
 rcases hx with⟨rfl,rfl,rfl⟩|⟨o,cap,rfl,af,ah,aa,ac⟩
 ·refine .inl ⟨rfl,by simpa using hb,by simpa using hl,fun cap hc=>?_⟩;have:=hN cap (ys++(List.replicate (cap-m) (zc.map cst1)).flatten) (by rw[Ab2,hy,ab,<-Ab0];congr 1;omega) Ad2 (by rw[Ab1,<-hy,List.take_left];rfl);rw[Ab1]at this;exact this
 ·have ad:xs.length=n*z:=by rw[<-ac,Ab3,aa];exact Ab6 (Abf _ ah)
  refine .inr ⟨o,n,cap,rfl,hb,hl,aa,af,fun hc=>?_,fun hc cap' ai=>?_⟩
  ·have ae:n*z+ys.length<=(M.obj o).length:=by rw[hy,aa,<-Ab0];exact Abf _ hc
   refine hO o cap _ ⟨cap,rfl,hc,rfl⟩ (by rw[Jg];exact aa) ?_;rw[F3 _ _ _ ae,ac];have:(n+m)*z=(xs++ys).length:=by rw[Ab2,ad,hy,Ab0]
   rw[this,List.take_left]
  ·refine hN cap' _ ?_ ai ?_
   ·rw[ac,Ab2,Ab2,ad,hy,ab,<-Ab0,<-Ab0];congr 1;omega
   ·rw[ac];have:(n+m)*z=(xs++ys).length:=by rw[Ab2,ad,hy,Ab0]
    rw[this,List.take_left]
theorem T0 {P:Program}{N:Nat}{c:Code}{Q:Gn}{s:Sl}{M:St}{o p n cap j k:Nat}{ys:List AV}(ho:o<M.nobj)(hp:p<M.nobj)(aj:o≠p)(hy:M.obj p=ys)(hj:ys[j]?=some (gx o n cap))(hk:k<=(M.obj o).length)
  (h:Jw P N c Q s ((M.put o []).put p (ys.set j (sl 0 n ((M.obj o).take k))))):Jw P N c Q s M:=fun G a w R=>by
 obtain⟨G',I',E,ab,aa⟩:=R.inv.freeze ho;have ad:(M.put o []).obj p=ys:=by simp[St.put,aj.symm,hy]
 have hne:(M.put o []).obj p≠[]:=fun e=>by rw[ad]at e;rw[e]at hj;simp at hj
 obtain⟨I2,E2⟩:=I'.retell (o:=p) hp hne (ys.set j (sl 0 n ((M.obj o).take k))) (fun arr ha=>by
  rw[ad]at ha;refine⟨by rw[Adq];exact ha.1,fun i v x hv hx=>?_⟩;by_cases ae:i=j
  ·subst ae;have am:=(List.getElem?_eq_some_iff.1 hj).1;rw[List.getElem?_set_self am]at hx;cases hx;obtain⟨e1,e2,e3⟩:=VR.of_gx (ha.2 i v _ hv hj);refine VR.fold ⟨some ⟨G'.blk o,0,none⟩,cap,e1,⟨e2,fun h=>by cases h⟩,fun af=>⟨G'.blk o,0,rfl,fun q y hq=>?_⟩,fun k' ao=>Ad2⟩;have ak:M.obj o≠[]:=fun e=>af (by rw[e];simp);obtain⟨⟨cur,ecur,ac,an⟩,-⟩:=(R.inv.obj o ho).2.2 ak;rw[List.getElem?_take]at hq;split at hq
   case isFalse=>cases hq
   obtain⟨u,ai,ah⟩:=an.get hq;refine⟨by rw[aa];exact ab _,u,?_,ah.ext E⟩;rw[aa];simp only[World.cell?,ac,Ab1];simpa using ai
  ·rw[List.getElem?_set_ne (Ne.symm ae)]at hx
   exact ha.2 i v x hv hx)
 have R2:Rel N G' s ((M.put o []).put p (ys.set j (sl 0 n ((M.obj o).take k)))) a w:=⟨R.defers,R.size,fun t=>(R.tmps t).ext (E.trans E2),I2⟩;exact wp_mono (h G' a w R2) fun e a' w' hc=>hc.ext (E.trans E2)
end Go.Abs
