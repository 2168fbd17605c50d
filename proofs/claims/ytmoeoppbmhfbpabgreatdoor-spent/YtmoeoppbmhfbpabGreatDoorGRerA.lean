import Derived.Test.YtmoeoppbmhfbpabGreatDoorGProgR
import Derived.Test.YtmoeoppbmhfbpabGreatDoorGOptH
import Derived.Test.YtmoeoppbmhfbpabGreatDoorGAbsWp
import Derived.Test.YtmoeoppbmhfbpabGreatDoorGEngU
set_option maxHeartbeats 32000000
set_option maxRecDepth 100000
set_option linter.all false
namespace Go.Proofs.YtmoeoppbmhfbpabGreatDoorG
open Go.Abs
def GNm (p:Tx):Prop:=G6 p/\p.length<=6
def GTm (t:Tx):Prop:=(∃b,t=[b]/\A8 b.toNat=true)\/t=[48]\/∃b r,t=b::r/\Gb b.toNat=true/\(∀c∈r,Az c.toNat=true)/\r.length<=2
structure wM (a:RAtom):Prop where
 nm:GNm a.pred
 ne:a.terms≠[]
 few:a.terms.length<=3
 tm:∀t∈a.terms,GTm t
structure zW (x:RItem):Prop where
 nm:GNm x.head.pred
 out:x.out=true->x.head.nt=false/\x.head.terms=[]/\x.body=[]
 rule:x.out=false->wM x.head/\x.head.nt=false/\x.body.length<=5/\∀a∈x.body,wM a
theorem Pv (p:Int->Bool):∀(n:Nat) (t r:Tx),(∀b∈t,p b.toNat=true)->t.length<=n->(∀b q,r=b::q->p b.toNat=false)->Aw p n (t++r)=(t,r)
 |n,[],r,_,_,hr=>by
  cases n with
  |zero=>rfl
  |succ n=>
   cases r with
   |nil=>rfl
   |cons b q=>
    show Aw p (n+1) (b::q)=_;unfold Aw;rw[if_neg (by simp[hr b q rfl])]
 |0,b::t,r,_,hl,_=>by simp at hl
 |n+1,b::t,r,ht,hl,hr=>by
  show Aw p (n+1) (b::(t++r))=_;unfold Aw;rw[if_pos (ht b (by simp)),Pv p n t r (fun c hc=>ht c (by simp[hc])) (by simpa using hl) hr]
theorem Ng (p:Int->Bool):∀(n:Nat) (s:Tx),(Aw p n s).1.length<=n
 |0,s=>by simp[Aw]
 |n+1,[]=>by simp[Aw]
 |n+1,b::r=>by
  unfold Aw;split
  ·have:=Ng p n r;simp;omega
  ·simp
theorem dP {p r:Tx}(h:GNm p)(hr:∀b q,r=b::q->Ba b.toNat=false):Ee (p++r)= .got p r:=by
 unfold Ee;rw[Pv Ba 6 p r h.1.2 h.2 hr];rw[if_neg h.1.1]
theorem dQ {s r p:Tx}(h:Ee s= .got p r):GNm p:=by
 refine⟨(Nh h).2,?_⟩;unfold Ee at h;split at h
 ·cases h
 ·cases h;exact Ng _ _ _
theorem dM {t r:Tx}(h:GTm t)(hr:∀b q,r=b::q->Az b.toNat=false):Ci (t++r)= .got t r:=by
 rcases h with⟨b,rfl,hb⟩|rfl|⟨b,q,rfl,hb,hq,hl⟩
 ·show Ci (b::r)=_;unfold Ci;dsimp only;rw[if_pos hb]
 ·show Ci (48::r)=_;unfold Ci;dsimp only;rw[if_neg (by decide),if_pos (by decide)]
 ·show Ci (b::(q++r))=_;unfold Ci;dsimp only;rw[if_neg,if_neg,if_pos hb,Pv Az 2 q r hq hl hr]
  ·intro e;simp only[Gb,Adv,Agi]at hb;simp at e;omega
  ·intro e;rw[Ld e]at hb;cases hb
theorem tH {s r t:Tx}(h:Ci s= .got t r):GTm t:=by
 cases s with
 |nil=>cases h
 |cons b q=>
  unfold Ci at h;dsimp only at h;split at h
  ·rename_i hl;cases h;exact .inl ⟨b,rfl,hl⟩
  split at h
  ·rename_i h0;cases h;have:b=48:=J9 48 h0;rw[this];exact .inr (.inl rfl)
  split at h
  ·rename_i h9;cases h;exact .inr (.inr ⟨b,_,rfl,h9,(Ds Az 2 q).2,Ng _ _ _⟩)
  ·cases h
theorem Dx {α β:Type}(x:α)(r:Tx)(f:α->Tx->Rd β):(Rd.got x r).bnd f=f x r:=rfl
theorem Jf {c:UInt8}{r:Tx}:A1 c.toNat (c::r)= .got () r:=by unfold A1;dsimp only;rw[if_pos (by simp)]
theorem M4 (t:Tx)(ts:List Tx):A7 (t::ts)=44::(t++A7 ts):=by simp[A7]
theorem Ts {α:Type}{f:Tx->Rd α}{u:α->Tx}{c:UInt8}(hc:c≠44){P:α->Prop}(hf:∀x r,P x->(∀b q,r=b::q->b=44\/b=c)->f (u x++r)= .got x r):∀(n:Nat) (xs:List α) (r:Tx),(∀x∈xs,P x)->xs.length<=n->Dg f n (A7 (xs.map u)++c::r)= .got xs (c::r)
 |0,[],r,_,_=>rfl
 |n+1,[],r,_,_=>by
  show Dg f (n+1) (c::r)=_;unfold Dg
  rw[if_neg (by
   intro h
   exact hc (J9 44 h))]
 |0,x::xs,r,_,hl=>by simp at hl
 |n+1,x::xs,r,hP,hl=>by
  rw[Ad9,M4];show Dg f (n+1) (44::((u x++A7 (xs.map u))++c::r))=_;unfold Dg;rw[if_pos (by decide),Aeg,hf x _ (hP x (by simp)) ?_]
  ·rw[Dx,Ts hc hf n xs r (fun y hy=>hP y (by simp[hy])) (by simpa using hl)];rfl
  ·intro b q e;cases xs with
   |nil=>simp[A7]at e;exact .inr e.1.symm
   |cons y ys=>rw[Ad9,M4]at e;simp at e;exact .inl e.1.symm
theorem nd {b:UInt8}(h:b=44\/b=41):Az b.toNat=false:=by rcases h with rfl|rfl<;>decide
theorem dT {a:RAtom}(h:wM a)(r:Tx):Dh a.nt (A4 a++r)= .got a r:=by
 unfold Dh A4;rw[Aeg,dP h.nm (fun b q e=>by simp at e;rw[<-e.1];decide)];rw[Dx,Aes];rw[show (40:Int)=((40:UInt8).toNat:Int)from rfl,Jf];rw[Dx];obtain⟨t,ts,e⟩:=Af3 h.ne;have ab:=h.tm;have aa:=h.few;rw[e]at ab aa;rw[e,A2];unfold Tw;have e2:((t++A7 ts++[41])++r:Tx)=t++(A7 (ts.map id)++41::r):=by simp
 rw[e2,dM (ab t (by simp)) ?_]
 ·rw[Dx,Ts (u:=id) (c:=41) (by decide) (P:=GTm) (fun x r hx hr=>dM hx fun b q e=>nd (hr b q e)) 2 ts r (fun y hy=>ab y (by simp[hy])) (by simpa using aa)];rw[Dx,show (41:Int)=((41:UInt8).toNat:Int)from rfl,Jf];rw[Dx,<-e]
 ·intro b q eb;cases ts with
  |nil=>simp[A7]at eb;exact nd (.inr eb.1.symm)
  |cons y ys=>rw[Ad9,M4]at eb;simp at eb;exact nd (.inl eb.1.symm)
theorem mD {a:RAtom}(h:wM a)(r:Tx):Je (Bb a++r)= .got a r:=by
 have hp:=dT h r;cases hn:a.nt with
 |true=>
  rw[hn]at hp;rw[show Bb a++r=33::(A4 a++r)by simp[Bb,hn]];unfold Je;dsimp only;rw[if_pos (by decide)];exact hp
 |false=>
  rw[hn]at hp;rw[show Bb a++r=A4 a++r by simp[Bb,hn]];obtain⟨b,q,e,h1,h2⟩:=J4 h.nm.1;have e2:A4 a++r=b::(q++40::(A2 a.terms++[41])++r):=by unfold A4;rw[e];simp
  rw[e2]at hp⊢;unfold Je;dsimp only;rw[if_neg (by simp;omega)];exact hp
theorem tJ {x:RItem}(h:zW x)(r:Tx):E3 (A0 x++46::r)= .got x r:=by
 cases ho:x.out with
 |true=>
  obtain⟨h1,h2,h3⟩:=h.out ho;rw[A0,if_pos ho];show E3 (63::(x.head.pred++46::r))=_;unfold E3;dsimp only;rw[if_pos (by decide)];unfold Y8;rw[dP h.nm (fun b q e=>by simp at e;rw[<-e.1];decide)];rw[Dx,show (46:Int)=((46:UInt8).toNat:Int)from rfl,Jf];rw[Dx];obtain⟨o,⟨n,p,ts⟩,bd⟩:=x;simp only at h1 h2 h3 ho;subst h1;subst h2;subst h3;subst ho;rfl
 |false=>
  obtain⟨h1,h2,h3,h4⟩:=h.rule ho;have hR:E3 (A0 x++46::r)=Mr (A0 x++46::r):=by
   obtain⟨b,q,e,g1,g2⟩:=J4 h.nm.1;have e2:A0 x++46::r=b::(q++40::(A2 x.head.terms++[41])++(if x.body=[]then []else 58::45::A2 (x.body.map Bb))++46::r):=by
    unfold A0 Cv A4;rw[if_neg (by simp[ho]),e];simp
   rw[e2];unfold E3;dsimp only;rw[if_neg (by simp;omega)]
  rw[hR,A0,if_neg (by simp[ho]),Cv,Aeg];unfold Mr;have hp:=dT h1 ((if x.body=[]then []else 58::45::A2 (x.body.map Bb))++46::r);rw[h2]at hp;rw[hp,Dx];by_cases hb:x.body=[]
  ·rw[if_pos hb];show Mq x.head (46::r)=_;unfold Mq;dsimp only;rw[if_pos (by decide)];rw[<-hb,<-ho]
  ·rw[if_neg hb];obtain⟨l,ls,e⟩:=Af3 hb;rw[e]at h3 h4;rw[e,Ad9,A2];have e2:(58::45::(Bb l++A7 (ls.map Bb))++46::r:Tx)=58::45::(Bb l++(A7 (ls.map Bb)++46::r)):=by simp
   rw[e2];unfold Mq;dsimp only;rw[if_neg (by decide)];rw[show (58:Int)=((58:UInt8).toNat:Int)from rfl,Jf];rw[Dx,show (45:Int)=((45:UInt8).toNat:Int)from rfl,Jf];rw[Dx];unfold Qm;rw[mD (h4 l (by simp)),Dx,Ts (u:=Bb) (c:=46) (by decide) (P:=wM) (fun y q hy _=>mD hy q) 4 ls r (fun y hy=>h4 y (by simp[hy])) (by simpa using h3)];rw[Dx,show (46:Int)=((46:UInt8).toNat:Int)from rfl,Jf];rw[Dx,<-e,<-ho]
theorem Xx:∀(n:Nat) (l:List RItem),(∀x∈l,zW x)->l.length<=n->Bz n (Bj l)= .got l []
 |n,[],_,_=>by cases n<;>rfl
 |0,x::l,_,hl=>by simp at hl
 |n+1,x::l,h,hl=>by
  have e:Bj (x::l)=A0 x++46::Bj l:=by simp[Bj]
  have aa:A0 x++46::Bj l≠[]:=by simp
  obtain⟨b,q,e2⟩:=Af3 aa;rw[e];have hp:=tJ (h x (by simp)) (Bj l);rw[e2]at hp⊢;show ((E3 (b::q)).bnd fun x r=>(Bz n r).bnd fun xs r=>.got (x::xs) r)=_;rw[hp,Dx,Xx n l (fun y hy=>h y (by simp[hy])) (by simpa using hl)];rfl
theorem tI {α:Type}{f:Tx->Rd α}{P:α->Prop}(hf:∀s x r,f s= .got x r->P x){n:Nat}{s:Tx}{xs:List α}{r:Tx}(h:Dg f n s= .got xs r):∀x∈xs,P x:=Lz hf n s xs r h
theorem Tv {nt:Bool}{s r:Tx}{a:RAtom}(h:Dh nt s= .got a r):wM a:=by
 have hw:=(Hw h).2.1;have ht:=L0 (T:=GTm) (fun _ _ _ h=>tH h) h;refine⟨?_,hw.2.1,hw.2.2.1,ht⟩;unfold Dh at h;obtain⟨p,q,h1,h⟩:=A3 h;obtain⟨u,q2,h2,h⟩:=A3 h;unfold Tw at h;obtain⟨t,q3,h3,h⟩:=A3 h;obtain⟨ts,q4,h4,h⟩:=A3 h;obtain⟨u2,q5,h5,h⟩:=A3 h;cases h;exact dQ h1
theorem mE {s r:Tx}{a:RAtom}(h:Je s= .got a r):wM a:=by
 cases s with
 |nil=>cases h
 |cons b q=>
  unfold Je at h;dsimp only at h;split at h
  ·exact Tv h
  ·exact Tv h
theorem tK {s r:Tx}{x:RItem}(h:E3 s= .got x r):zW x:=by
 have hw:=(Tu h).2;cases s with
 |nil=>cases h
 |cons b q=>
  unfold E3 at h;dsimp only at h;split at h
  ·unfold Y8 at h;obtain⟨p,q,h1,h⟩:=A3 h;obtain⟨u,q2,h2,h⟩:=A3 h;cases h;exact⟨dQ h1,hw.2.1,(fun e=>by cases e)⟩
  ·unfold Mr at h;obtain⟨hd,q,h1,h⟩:=A3 h;have hg:=Tv h1;have key:x.head=hd/\x.out=false/\∀a∈x.body,wM a:=by
    cases q with
    |nil=>cases h
    |cons c q=>
     unfold Mq at h;dsimp only at h;split at h
     ·cases h;exact⟨rfl,rfl,by simp⟩
     ·obtain⟨_,q2,_,h⟩:=A3 h;obtain⟨_,q3,_,h⟩:=A3 h;unfold Qm at h;obtain⟨l,q4,h4,h⟩:=A3 h;obtain⟨ls,q5,h5,h⟩:=A3 h;obtain⟨_,q6,_,h⟩:=A3 h;cases h;refine⟨rfl,rfl,fun a ha=>?_⟩;rcases Aeq.1 ha with rfl|ha
      ·exact mE h4
      ·exact tI (fun _ _ _ h=>mE h) h5 a ha
   obtain⟨e1,e2,e3⟩:=key;refine⟨by rw[e1];exact hg.nm,hw.2.1,fun ho=>⟨by rw[e1];exact hg,(hw.2.2 ho).2.1,(hw.2.2 ho).2.2.1,e3⟩⟩
theorem Xy:∀(n:Nat) (s:Tx) (l:List RItem) (r:Tx),Bz n s= .got l r->∀x∈l,zW x
 |n,[],l,r,h=>by
  cases n<;>(cases h;intro x hx;cases hx)
 |0,b::s,l,r,h=>by cases h
 |n+1,b::s,l,r,h=>by
  have h':((E3 (b::s)).bnd fun x r=>(Bz n r).bnd fun xs r=>.got (x::xs) r)= .got l r:=h;obtain⟨x,q,h1,h2⟩:=A3 h';obtain⟨xs,q2,h3,h4⟩:=A3 h2;cases h4;intro y hy;rcases Aeq.1 hy with rfl|hy
  ·exact tK h1
  ·exact Xy n _ _ _ h3 y hy
def Ga (P:List Tx):Tx:=(P.filter Tz).flatten
theorem Xz {P:List Tx}{i:Nat}{p:Tx}(h:P[i]?=some p):Ga (P.take (i+1))=Ga (P.take i)++if Tz p=true then p else []:=by
 unfold Ga;rw[Ad3,h,Afe,Afv,List.flatten_append];cases hp:Tz p<;>simp[hp]
theorem tL {P:List Tx}{B:Nat}(h:∀p∈P,p.length<=B)(i:Nat):(Ga (P.take i)).length<=i*B:=by
 induction i with
 |zero=>simp[Ga]
 |succ i ih=>
  rw[Ad4];cases hg:P[i]? with
  |none=>rw[Ad3,hg,Option.toList_none,Ad7];omega
  |some p=>
   have:=h p (Adt hg);rw[Xz hg,Aee];split
   ·omega
   ·simp;omega
theorem Mu (t:Tx)(ht:t.length<=100000)(hn:(Gf t).length<=1000)(hp:∀p∈Gf t,p.length<=100000)(σ:St):ACalls Tryz.prog 17 [str t] σ fun r σ'=>r=str (Ga (Gf t))/\Keep σ σ':=by
 have aj:=fun σ=>Zc t Agm σ;have ac:=fun p σ=>Zd p σ;have an:({data:=#[]}:ByteArray)=bs []:=rfl;generalize Gf t=P at*
 refine Z9 26 [.tmp 2] Tryz.func17 ?_
 repeat' (first|refine Z1 ?_|(refine Z8 ?_;intro κ hκ)|(refine Z4 ?_;clear hκ κ)|(refine Z2 ?_ ?_<;>intro h ab<;>try exact Xp)|(refine Z5 ?_;refine Xi (aj _) ?_;rintro _ _ ⟨⟨idp,rfl⟩,ae⟩;(have ad:=ae.nobj))|refine Z7 ?_|exact⟨⟩|(apply hκ.out;clear hκ κ))
 rename_i σ1
 refine Ag (fun m s σ'=>∃(i:Nat) (u:Tx),m=P.length-i/\i<=P.length/\s 3=sl idp P.length (P.map str)/\s 4=str u/\s 5=sc (.int .i64 i)/\Keep σ σ'/\Agt (u=Ga (P.take i))) P.length
  ⟨0,[],Agm,Agm,rfl,rfl,rfl,ae,by simp[Agt,Ga]⟩ ?_
 clear ae ad;rintro m s σ2 ⟨i,u,rfl,hi,h3,h4,h5,hK,hU⟩;have ak:=hK.nobj;by_cases af:i<P.length
 ·have aa:=List.getElem?_eq_getElem af;have ai:=En af;generalize P[i]=p at aa ai;have ac:=ac p;have am:u.length+p.length<=1099511627776:=by
   have h1:=tL hp i;rw[<-hU.out]at h1;have h2:=hp p (Adt aa);omega
  have HS:Agt (Ga (P.take (i+1))=u++if Tz p=true then p else []):=by
   rw[Agt,Xz aa,<-hU.out]
  clear hp aa hU;cases ho:Tz p with
  |true=>
   rw[ho]at ac HS;have HU:Agt (u++p=Ga (P.take (i+1))):=by rw[Agt,HS.out];rfl
   clear HS
   repeat' (first|refine Z1 ?_|(refine Z8 ?_;intro κ hκ)|(refine Z4 ?_;clear hκ κ)|(refine Z2 ?_ ?_<;>intro h ab<;>try exact Xp)|(refine Z5 ?_;refine Xi (ac _) ?_;rintro _ _ ⟨rfl,rfl⟩)|refine Z7 ?_|exact⟨⟩|(apply hκ.out;clear hκ κ))
   refine⟨P.length-(i+1),Agm,i+1,u++p,?_⟩
   ((repeat' with_reducible refine And.intro ?_ ?_)<;>first|exact Xq|exact (HU)|exact Xs)
  |false=>
   rw[ho]at ac HS;have HU:Agt (u=Ga (P.take (i+1))):=by rw[Agt,HS.out];simp
   clear HS
   repeat' (first|refine Z1 ?_|(refine Z8 ?_;intro κ hκ)|(refine Z4 ?_;clear hκ κ)|(refine Z2 ?_ ?_<;>intro h ab<;>try exact Xp)|(refine Z5 ?_;refine Xi (ac _) ?_;rintro _ _ ⟨rfl,rfl⟩)|refine Z7 ?_|exact⟨⟩|(apply hκ.out;clear hκ κ))
   refine⟨P.length-(i+1),Agm,i+1,u,?_⟩
   ((repeat' with_reducible refine And.intro ?_ ?_)<;>first|exact Xq|exact (HU)|exact Xs)
 ·have ah:i=P.length:=Agm;have hu:u=Ga P:=by rw[hU.out,ah,Adz]
  rw[hu]at h4;clear hU hu hp;generalize Ga P=v at*
  repeat' (first|refine Z1 ?_|(refine Z8 ?_;intro κ hκ)|(refine Z4 ?_;clear hκ κ)|(refine Z2 ?_ ?_<;>intro h ab<;>try exact Xp)|refine Z7 ?_|exact⟨⟩|(apply hκ.out;clear hκ κ))
  first|exact⟨_,rfl,rfl,hK⟩|exact⟨_,rfl,hK⟩|exact⟨_,rfl,rfl⟩
def xV (q:Tx)(P:List Tx):Nat:=(P.filter fun p=>!Tz p&&hdL p==q).length
end Go.Proofs.YtmoeoppbmhfbpabGreatDoorG
namespace Go.Abs
theorem wD {P:Program}{t:TypeId}{z b:Nat}{zc:List Value}{σ:St}{id2 m n:Nat}{x:AV}{xs ys:List AV}{K:AV->St->Prop}(ht:M6 P t=some (z,b,zc))
  (hz:0<z) (hzc:zc.length=z) (hy:ys.length=m*z) (hf:ys.all flat=true) (hm:0<m) (hb:(n+m)*b<=140737488355328) (hl:n+m<=1099511627776)
  (hx:(x=nilS/\n=0/\xs=[])\/∃o cap,x=gx o n cap/\0<n/\n<=cap/\(σ.obj o).length=cap*z/\(σ.obj o).take (n*z)=xs)
  (hO:∀o cap cs,((∃c0,x=gx o n c0/\n+m<=c0/\cap=c0)->cs.length=cap*z->cs.take ((n+m)*z)=xs++ys->K (gx o (n+m) cap) (σ.put o cs)))
  (hN:∀cap cs,cs.length=cap*z->n+m<=cap->cs.take ((n+m)*z)=xs++ys->K (gx σ.nobj (n+m) cap) (σ.new cs)):Ie P t t x (sl id2 m ys) σ K:=by
 right;refine⟨z,b,zc,id2,m,ys,ht,rfl,rfl,hz,hzc,hy,hf,hm,?_⟩;have ab:∀k,(List.replicate k (zc.map cst1)).flatten.length=k*z:=fun k=>by
  induction k with
  |zero=>simp
  |succ k ih=>rw[List.replicate_succ,List.flatten_cons,Aee,ih,Afo,hzc,Ad4,Nat.add_comm]
 rcases hx with⟨rfl,rfl,rfl⟩|⟨o,cap,rfl,af,ah,aa,ac⟩
 ·refine .inl ⟨rfl,by simpa using hb,by simpa using hl,fun cap hc=>?_⟩;have:=hN cap (ys++(List.replicate (cap-m) (zc.map cst1)).flatten) (by rw[Aee,hy,ab,<-Aec];congr 1;omega) Agm (by rw[Aed,<-hy,List.take_left];rfl);rw[Aed]at this;exact this
 ·have ad:xs.length=n*z:=by rw[<-ac,Aef,aa];exact Aej (Adr _ ah)
  refine .inr ⟨o,n,cap,rfl,hb,hl,aa,af,fun hc=>?_,fun hc cap' ai=>?_⟩
  ·have ae:n*z+ys.length<=(σ.obj o).length:=by rw[hy,aa,<-Aec];exact Adr _ hc
   refine hO o cap _ ⟨cap,rfl,hc,rfl⟩ (by rw[J2];exact aa) ?_;rw[Gg _ _ _ ae,ac];have:(n+m)*z=(xs++ys).length:=by rw[Aee,ad,hy,Aec]
   rw[this,List.take_left]
  ·refine hN cap' _ ?_ ai ?_
   ·rw[ac,Aee,Aee,ad,hy,ab,<-Aec,<-Aec];congr 1;omega
   ·rw[ac];have:(n+m)*z=(xs++ys).length:=by rw[Aee,ad,hy,Aec]
    rw[this,List.take_left]
theorem Uy {P:Program}{N:Nat}{c:Code}{Q:G7}{s:Sl}{σ:St}{o p n cap j k:Nat}{ys:List AV}(ho:o<σ.nobj)(hp:p<σ.nobj)(aj:o≠p)(hy:σ.obj p=ys)(hj:ys[j]?=some (gx o n cap))(hk:k<=(σ.obj o).length)
  (h:Kk P N c Q s ((σ.put o []).put p (ys.set j (sl 0 n ((σ.obj o).take k))))):Kk P N c Q s σ:=fun G a w R=>by
 obtain⟨G',I',E,ab,aa⟩:=R.inv.freeze ho;have ad:(σ.put o []).obj p=ys:=by simp[St.put,aj.symm,hy]
 have am:(σ.put o []).obj p≠[]:=fun e=>by rw[ad]at e;rw[e]at hj;simp at hj
 obtain⟨I2,E2⟩:=I'.retell (o:=p) hp am (ys.set j (sl 0 n ((σ.obj o).take k))) (fun arr ha=>by
  rw[ad]at ha;refine⟨by rw[Af6];exact ha.1,fun i v x hv hx=>?_⟩;by_cases ae:i=j
  ·subst ae;have an:=(List.getElem?_eq_some_iff.1 hj).1;rw[List.getElem?_set_self an]at hx;cases hx;obtain⟨e1,e2,e3⟩:=VR.of_gx (ha.2 i v _ hv hj);refine VR.fold ⟨some ⟨G'.blk o,0,none⟩,cap,e1,⟨e2,fun h=>by cases h⟩,fun af=>⟨G'.blk o,0,rfl,fun q y hq=>?_⟩,fun k' ap=>Agm⟩;have ak:σ.obj o≠[]:=fun e=>af (by rw[e];simp);obtain⟨⟨cur,ecur,ac,ao⟩,-⟩:=(R.inv.obj o ho).2.2 ak;rw[List.getElem?_take]at hq;split at hq
   case isFalse=>cases hq
   obtain⟨u,ai,ah⟩:=ao.get hq;refine⟨by rw[aa];exact ab _,u,?_,ah.ext E⟩;rw[aa];simp only[World.cell?,ac,Aed];simpa using ai
  ·rw[List.getElem?_set_ne (Ne.symm ae)]at hx
   exact ha.2 i v x hv hx)
 have R2:Rel N G' s ((σ.put o []).put p (ys.set j (sl 0 n ((σ.obj o).take k)))) a w:=⟨R.defers,R.size,fun t=>(R.tmps t).ext (E.trans E2),I2⟩;exact wp_mono (h G' a w R2) fun e a' w' hc=>hc.ext (E.trans E2)
end Go.Abs
namespace Go.Proofs.YtmoeoppbmhfbpabGreatDoorG
open Go.Abs
theorem Og {a:C4}(h:Ih a.ts=true)(ν:Nu):Bo a ν=Cl a:=by
 unfold Bo Cl;congr 1;apply Ae0;intro t ht;unfold Ih at h;rw[Ads]at h;have:=h t ht;obtain⟨b,w⟩:=t;cases b with
 |false=>rfl
 |true=>simp at this
def kB (t:Ca)(ts:List Tm)(x:Tm×Nat):List Tm:=if x.1.1=true then Bl x.1.2 (Hh t (x.2:Nat)) ts else ts
def Pb (ps:List Tm)(t:Ca)(ts:List Tm):List Tm:=ps.zipIdx.foldl (kB t) ts
def Ns (l:List Ca)(a:C4)(p:Part):Part:=⟨p.a,p.tups.filter fun t=>!decide (Cl ⟨a.p,Pb p.a.ts t a.ts⟩∈l)⟩
theorem qD (ps:List Tm)(x:Tm)(t:Ca)(ts:List Tm):Pb (ps++[x]) t ts=kB t (Pb ps t ts) (x,ps.length):=by
 unfold Pb;rw[List.zipIdx_append,Afw];simp
theorem rJ (μ:Nu)(v:Int):Mg μ v (μ v)=μ:=by
 funext w;unfold Mg;split
 ·rename_i e;rw[e]
 ·rfl
theorem nA {t:Ca}{v:Int}:∀(l:List (Tm×Nat)) (ts:List Tm),Bc (l.foldl (kB t) ts) v=true->Bc ts v=true/\∀x∈l,x.1≠(true,v)
 |[],ts,h=>⟨h,by simp⟩
 |x::l,ts,h=>by
  rw[Ady]at h;obtain⟨h1,h2⟩:=nA l _ h;unfold kB at h1;obtain⟨⟨xb,xv⟩,xi⟩:=x;cases xb with
  |false=>
   simp only[Aek,if_false]at h1
   exact⟨h1,fun y hy=>by
    rcases Aeq.1 hy with rfl|hy
    ·simp
    ·exact h2 y hy⟩
  |true=>
   simp only[if_true]at h1;have:=(hasV_put (a:=⟨0,ts⟩)).1 h1
   exact⟨this.1,fun y hy=>by
    rcases Aeq.1 hy with rfl|hy
    ·simp only[ne_eq,Prod.mk.injEq,Agl];exact fun e=>this.2 e.symm
    ·exact h2 y hy⟩
theorem zJ {pa a:C4}{μ:Nu}(h3:pa.ts.length<=3)(hv:∀v,Bc a.ts v=true->Bc pa.ts v=true):Cl ⟨a.p,Pb pa.ts (Bo pa μ) a.ts⟩=Bo a μ:=by
 have key:∀(l:List (Tm×Nat)) (ts:List Tm),(∀x∈l,pa.ts[x.2]?=some x.1)->Bo ⟨a.p,l.foldl (kB (Bo pa μ)) ts⟩ μ=Bo ⟨a.p,ts⟩ μ:=by
  intro l;induction l with
  |nil=>intro ts _;rfl
  |cons x l ih=>
   intro ts hl;rw[Ady,ih _ (fun y hy=>hl y (Aet _ hy))];unfold kB;split
   ·rename_i hx;obtain⟨⟨xb,xv⟩,xi⟩:=x;simp only at hx;subst hx;have hg:pa.ts[xi]?=some (true,xv):=hl _ Aer;have aa:=(List.getElem?_eq_some_iff.1 hg).1;have ht:Hh (Bo pa μ) ((xi:Nat):Int)=μ xv:=by
     unfold Hh;rw[Afz,Bo,I6 (by simpa using aa) (by simpa using h3)];have:=(List.getElem?_eq_some_iff.1 hg).2;simp[this,Et]
    show Bo ⟨a.p,Bl xv (Hh (Bo pa μ) ((xi:Nat):Int)) ts⟩ μ=_;rw[ht];have:=Ju ⟨a.p,ts⟩ xv (μ xv) μ;rw[rJ]at this;exact this
   ·rfl
 have hz:∀x∈pa.ts.zipIdx,pa.ts[x.2]?=some x.1:=fun x hx=>by
  obtain⟨y,i⟩:=x;exact List.mem_zipIdx_iff_getElem?.1 hx
 have h1:=key pa.ts.zipIdx a.ts hz;have h2:Ih (Pb pa.ts (Bo pa μ) a.ts)=true:=by
  unfold Ih;rw[Ads];intro t ht;obtain⟨b,w⟩:=t;cases b with
  |false=>rfl
  |true=>
   exfalso;obtain⟨g1,g2⟩:=nA pa.ts.zipIdx a.ts (hasV_iff.2 ht);have:=hasV_iff.1 (hv w g1);obtain⟨i,hi⟩:=List.getElem?_of_mem this;exact g2 ((true,w),i) (List.mem_zipIdx_iff_getElem?.2 hi) rfl
 rw[<-Og (a:=⟨a.p,Pb pa.ts (Bo pa μ) a.ts⟩) h2 μ];exact h1
theorem zK {l:List Ca}{a:C4}{p:Part}{ν:Nu}(h3:p.a.ts.length<=3)(hv:∀v,Bc a.ts v=true->Bc p.a.ts v=true):Bo p.a ν∈(Ns l a p).tups↔Bo p.a ν∈p.tups/\Bo a ν∉l:=by
 unfold Ns;rw[Afx,zJ h3 hv];simp
theorem Zs (om ot:Nat)(M:MM)(d b:Int)(p:Part)(a:C4)(id idt ida k:Nat)(x:Nat×List Ca)(b9:p.a.ts.length<=3)(b8:p.tups.length<=5000)(h3:T3 p.tups)(ha:a.ts.length<=3)(hk:a.p=(k:Int))(hx:M[k]?=some x)(σ:St)(hM:MOb σ om ot M d b):ACalls Tryz.prog 219 [ptr om 0,ag [ic p.a.p,sl id p.a.ts.length (Ac p.a.ts),sl idt p.tups.length (Ej p.tups)],ag [ic a.p,sl ida a.ts.length (Ac a.ts)]] σ fun r σ'=>(∃idn,r=ag [ic p.a.p,sl id p.a.ts.length (Ac p.a.ts),sl idn (Ns x.2 a p).tups.length (Ej (Ns x.2 a p).tups)])/\Keep σ σ':=by
 have b7:=Io h3;have cc:=Ch p.a.ts;have HR:Agt ((Ns x.2 a p).tups=p.tups.filter fun t=>!decide (Cl ⟨a.p,Pb p.a.ts t a.ts⟩∈x.2)):=rfl;have a9:Agt (∀(ts:List Tm) (i:Nat) (σ1:St),ts.length<=3->Keep σ σ1->ACalls Tryz.prog 81 [ptr om 0,ag [ic a.p,sl i ts.length (Ac ts)]] σ1 fun r σ'=>r=sc (.bool (decide (Cl ⟨a.p,ts⟩∈x.2)))/\Keep σ1 σ'):=fun ts i σ1 h1 h2=>H6 om ot M d b ⟨a.p,ts⟩ i k x h1 hk hx σ1 (hM.keep h2);generalize hG:(fun t:Ca=>Cl ⟨a.p,Pb p.a.ts t a.ts⟩)=bT at*
 have HG:Agt (∀t,bT t=Cl ⟨a.p,Pb p.a.ts t a.ts⟩):=fun t=>by rw[<-hG]
 have b2:Agt ((Ns x.2 a p).tups=p.tups.filter fun t=>!decide (bT t∈x.2)):=by
  rw[Agt,HR.out];congr 1;funext t;rw[HG.out t]
 clear hG HR hk hx hM;generalize Ns x.2 a p=bp at*
 refine Z9 55 [.cell 6 239] Tryz.func219 ?_
 repeat' (first|refine Z1 ?_|(refine Z8 ?_;intro κ hκ)|(refine Z4 ?_;clear hκ κ)|(refine Z2 ?_ ?_<;>intro h ae<;>try exact Xp)|(refine Z6 ?_;intro idn σn ah ai ac ab ad aa)|refine Z3 ?_|exact⟨⟩|(apply hκ.out;clear hκ κ))
 refine Ag (fun m s σ'=>∃(i i3:Nat) (o:List Ca) (xs:List AV),m=p.tups.length-i/\i<=p.tups.length/\s 0=ptr om 0/\s 4=ptr σ.nobj 0/\s 5=ptr (σ.nobj+1) 0/\s 6=ptr (σ.nobj+2) 0/\s 7=ptr (σ.nobj+3) 0/\s 17=sl idt p.tups.length (Ej p.tups)/\s 18=ic p.tups.length/\s 19=ic i/\Keep σ σ'/\σ.nobj+3<σ'.nobj/\σ'.obj σ.nobj=[ic p.a.p,sl id p.a.ts.length (Ac p.a.ts),sl idt p.tups.length (Ej p.tups)]/\σ'.obj (σ.nobj+1)=[ic a.p,sl ida a.ts.length (Ac a.ts)]/\σ'.obj (σ.nobj+2)=[ic 0,nilS,nilS]/\σ'.obj (σ.nobj+3)=[ic p.a.p,sl id p.a.ts.length (Ac p.a.ts),sl i3 o.length xs]/\Own σ σ' i3 o.length/\o.length<=i/\xs.length=o.length*3/\Agt (xs=Ej o/\o=(p.tups.take i).filter fun t=>!decide (bT t∈x.2))) p.tups.length
  ⟨0,1,[],[],Agm,Agm,by simp[upd,initS],Ago,Ago,Ago,Ago,Ago,Ago,rfl,Xs,Ags,?_,?_,?_,?_,Own.nil _ _,by simp,by simp,⟨rfl,by simp⟩⟩ ?_
 ·rw[Ai Agm,Af Agq,Af Agq,Af Agq,Ap]
 ·rw[Ai Agm,Af Agq,Af Agq,Bs Agq Agq]
 ·rw[Ai Agm,Af Agq,Bs Agq Agq]
 ·rw[show σ.nobj+3=σ.nobj+1+1+1 from rfl,Aj];simp
 rintro m s σ' ⟨i,i3,o,xs,rfl,hi,h0,h4,h5,h6,h7,bd,bb,ba,hK,hno,b5,b4,b3,bh,hO,ca,bi,hX⟩;have b6:=hK.nobj;by_cases bm:i<p.tups.length
 ·have am:=List.getElem?_eq_getElem bm;obtain⟨ao,r,hd⟩:=I7 h3 am;generalize p.tups[i]=t at hd am ao;have HF:Agt ((p.tups.take (i+1)).filter (fun t=>!decide (bT t∈x.2))=(p.tups.take i).filter (fun t=>!decide (bT t∈x.2))++if (!decide (bT t∈x.2))=true then [t]else []):=by
   rw[Agt,Ad3,am,Afe,Du]
  clear am;have f1:=G9 ao;have f2:=L5 ao;have f3:=H3 ao;have f4:=Nm ao;have f5:=Ep t;have f6:=X8 ao
  repeat' (first|refine Z1 ?_|(refine Z8 ?_;intro κ hκ)|(refine Z4 ?_;clear hκ κ)|(refine Z2 ?_ ?_<;>intro h ae<;>try exact Xp)|(refine Z6 ?_;intro idn σn ah ai ac ab ad aa)|refine Z3 ?_|exact⟨⟩|(apply hκ.out;clear hκ κ))
  refine Ag (fun m s σ2=>∃(j idj:Nat) (ts:List Tm),m=p.a.ts.length-j/\j<=p.a.ts.length/\s 0=ptr om 0/\s 4=ptr σ.nobj 0/\s 5=ptr (σ.nobj+1) 0/\s 6=ptr (σ.nobj+2) 0/\s 7=ptr (σ.nobj+3) 0/\s 9=ptr σ'.nobj 0/\s 10=ptr (σ'.nobj+1) 0/\s 17=sl idt p.tups.length (Ej p.tups)/\s 18=ic p.tups.length/\s 19=ic i/\s 26=sl id p.a.ts.length (Ac p.a.ts)/\s 27=ic p.a.ts.length/\s 28=ic j/\Keep σ' σ2/\σ'.nobj+1<σ2.nobj/\σ2.obj σ'.nobj=As t/\σ2.obj (σ'.nobj+1)=[ic a.p,sl idj ts.length (Ac ts)]/\ts.length<=3/\Agt (ts=Pb (p.a.ts.take j) t a.ts)) p.a.ts.length
   ⟨0,ida,a.ts,Agm,Agm,Agn,Agn,Agn,Agn,Agn,Agn,Agn,Agn,Agn,Agn,Agn,Agn,Ago,Xs,Ags,?_,?_,ha,rfl⟩ ?_
  ·rw[Ai Agm,Af Ags,Aj]
  ·rw[Aj]
  clear h0 h4 h5 h6 h7 bd bb ba;rintro m s σ2 ⟨j,idj,ts,rfl,hj,h0,h4,h5,h6,h7,h9,b1,bd,bb,ba,b0,bz,bw,an,a6,oc0,oc1,bf,hT⟩;have au:=an.nobj;by_cases av:j<p.a.ts.length
  ·have af:=List.getElem?_eq_getElem av;obtain⟨rj,bu⟩:=Cm af;generalize p.a.ts[j]=w at bu af;obtain⟨w1,w2⟩:=w;have ax:t[j]?=some t[j]:=List.getElem?_eq_getElem Agm;have bq:=No ax;have a5:Agt (Hh t (j:Nat)=t[j]):=by simp[Agt,Hh,ax]
   generalize t[j]=y at ax bq a5;have HT:Agt (Pb (p.a.ts.take (j+1)) t a.ts=if w1=true then Bl w2 y ts else ts):=by
    rw[Agt,Ad3,af,Afe,qD,Aef,Aej hj,<-hT.out];unfold kB;simp only[a5.out]
   clear af ax a5 hT;cases w1 with
   |false=>
    have be:Agt (ts=Pb (p.a.ts.take (j+1)) t a.ts):=by rw[Agt,HT.out];rfl
    clear HT
    repeat' (first|refine Z1 ?_|(refine Z8 ?_;intro κ hκ)|(refine Z4 ?_;clear hκ κ)|(refine Z2 ?_ ?_<;>intro h ae<;>try exact Xp)|(refine Z6 ?_;intro idn σn ah ai ac ab ad aa)|refine Z3 ?_|exact⟨⟩|(apply hκ.out;clear hκ κ))
    refine⟨p.a.ts.length-(j+1),Agm,j+1,idj,ts,?_⟩
    ((repeat' with_reducible refine And.intro ?_ ?_)<;>first|exact Xq|exact (be)|exact Xs)
   |true=>
    have be:Agt (Bl w2 y ts=Pb (p.a.ts.take (j+1)) t a.ts):=by rw[Agt,HT.out];rfl
    clear HT;have bv:=fun σ=>L9 a.p idj ts w2 y Agm σ;have br:(Bl w2 y ts).length<=3:=by simpa[Bl]using bf
    repeat' (first|refine Z1 ?_|(refine Z8 ?_;intro κ hκ)|(refine Z4 ?_;clear hκ κ)|(refine Z2 ?_ ?_<;>intro h ae<;>try exact Xp)|(refine Z6 ?_;intro idn σn ah ai ac ab ad aa)|refine Z3 ?_|exact⟨⟩|(apply hκ.out;clear hκ κ))
    have bg:Keep σ' ((σ2.new [sc (.bool false),ic 0]).put σ2.nobj [sc (.bool true),ic w2]):=(an.new _).put au _;refine B6 (Q:=fun e s' σ''=>e= .normal/\s' 0=ptr om 0/\s' 4=ptr σ.nobj 0/\s' 5=ptr (σ.nobj+1) 0/\s' 6=ptr (σ.nobj+2) 0/\s' 7=ptr (σ.nobj+3) 0/\s' 9=ptr σ'.nobj 0/\s' 10=ptr (σ'.nobj+1) 0/\s' 17=sl idt p.tups.length (Ej p.tups)/\s' 18=ic p.tups.length/\s' 19=ic i/\s' 26=sl id p.a.ts.length (Ac p.a.ts)/\s' 27=ic p.a.ts.length/\s' 28=ic j/\Keep σ' σ''/\σ'.nobj+1<σ''.nobj/\σ''.obj σ'.nobj=As t/\∃idn,σ''.obj (σ'.nobj+1)=[ic a.p,sl idn (Bl w2 y ts).length (Ac (Bl w2 y ts))]) ?_ ?_
    ·refine Bh Al (fun _=>True) [7] [0,1,2,3,4,5] 2 #[true,true,true,true,true,true,false,false] Agp (fun _ _ _ h=>by cases h.1) ?_;intro κ hκ;refine Z3 ?_;refine hκ.out _ ?_;clear hκ κ;refine Ao (i:=6) Agp ?_;refine Ar ?_;intro κ hκ;refine Z3 ?_;refine ACalls.mono (bv _) ?_;rintro _ σb ⟨⟨idn,rfl⟩,ay⟩;have knb:=ay.nobj;simp only[Ab,Aa]at knb;have a3:=ay.obj;simp only[Ab,Aa]at a3;have og0:σb.obj σ'.nobj=As t:=by rw[a3 _ Agm,Ai Agm,Af Agm,oc0]
     have og1:σb.obj (σ'.nobj+1)=[ic a.p,sl idj ts.length (Ac ts)]:=by rw[a3 _ Agm,Ai Agm,Af Agm,oc1]
     refine Z3 ?_;refine hκ.out _ _ ⟨Aq ay,?_⟩;clear hκ κ;refine Ao (i:=7) Agp ?_;refine Ar ?_;intro κ hκ;refine Z3 ?_;refine hκ.out _ _ ⟨Bq rfl,?_⟩;clear hκ κ;refine A6 Agp ⟨rfl,Agn,Agn,Agn,Agn,Agn,Agn,Agn,Agn,Agn,Agn,Agn,Agn,Agn,(bg.trans ay).put Agm _,by simp only[Ab];omega,by rw[Ai Agm,og0],idn,Aj⟩
    ·rintro e s2 σ3 ⟨rfl,g0,g4,g5,g6,g7,g9,g10,g17,g18,g19,g26,g27,g28,cd,cb,oe0,idn,oe1⟩;clear h0 h4 h5 h6 h7 h9 b1 bd bb ba b0 bz bw oc0 oc1 bg an au a6
     repeat' (first|refine Z1 ?_|(refine Z8 ?_;intro κ hκ)|(refine Z4 ?_;clear hκ κ)|(refine Z2 ?_ ?_<;>intro h ae<;>try exact Xp)|(refine Z6 ?_;intro idn σn ah ai ac ab ad aa)|refine Z3 ?_|exact⟨⟩|(apply hκ.out;clear hκ κ))
     refine⟨p.a.ts.length-(j+1),Agm,j+1,idn,Bl w2 y ts,?_⟩
     ((repeat' with_reducible refine And.intro ?_ ?_)<;>first|exact Xq|exact (be)|exact Xs)
  ·have bn:j=p.a.ts.length:=Agm;subst bn;have HB:Agt (Cl ⟨a.p,ts⟩=bT t):=by
    rw[Agt,HG.out t,hT.out,Adz]
   have aw:=fun σ1 hh=>a9.out ts idj σ1 bf hh;rw[HB.out]at aw;have az:=hK.trans an;clear hT HB hj av;cases ap:decide (bT t∈x.2)with
   |true=>
    have HX:Agt (xs=Ej o/\o=(p.tups.take (i+1)).filter fun t=>!decide (bT t∈x.2)):=by
     obtain⟨x1,x2⟩:=hX.out;refine⟨x1,?_⟩;rw[HF.out,ap,x2];simp
    rw[ap]at aw;clear hX HF ap
    repeat' (first|refine Z1 ?_|(refine Z8 ?_;intro κ hκ)|(refine Z4 ?_;clear hκ κ)|(refine Z2 ?_ ?_<;>intro h ae<;>try exact Xp)|(refine Z6 ?_;intro idn σn ah ai ac ab ad aa)|(refine Z5 ?_;refine Xi (aw _ az) ?_;rintro _ _ ⟨rfl,aj⟩;(have a4:=aj.nobj;have ak:=(an.trans aj).obj;have a8:=az.trans aj;have a7:=Own.keep hO (an.trans aj)))|refine Z3 ?_|exact⟨⟩|(apply hκ.out;clear hκ κ))
    refine⟨p.tups.length-(i+1),Agm,i+1,i3,o,xs,?_⟩
    ((repeat' with_reducible refine And.intro ?_ ?_)<;>first|exact Xq|exact (a8)|exact (a7)|exact (HX)|exact (by rw[ak _ Agm];assumption)|exact Xs)
   |false=>
    have HX:Agt (xs++As t=Ej (o++[t])/\o++[t]=(p.tups.take (i+1)).filter fun t=>!decide (bT t∈x.2)):=by
     obtain⟨x1,x2⟩:=hX.out;refine⟨by rw[x1,Oc],?_⟩;rw[HF.out,ap,<-x2];simp
    rw[ap]at aw;clear hX HF ap
    repeat' (first|refine Z1 ?_|(refine Z8 ?_;intro κ hκ)|(refine Z4 ?_;clear hκ κ)|(refine Z2 ?_ ?_<;>intro h ae<;>try exact Xp)|(refine Z6 ?_;intro idn σn ah ai ac ab ad aa)|(refine Z5 ?_;refine Xi (aw _ az) ?_;rintro _ _ ⟨rfl,aj⟩;(have a4:=aj.nobj;have ak:=(an.trans aj).obj;have a0:=aj.obj;have a8:=az.trans aj;have a7:=Own.keep hO (an.trans aj)))|refine Z3 ?_|exact⟨⟩|(apply hκ.out;clear hκ κ))
    rename_i σ5;have oh0:σ5.obj σ'.nobj=As t:=by rw[a0 _ Agm,oc0]
    have oh3:σ5.obj (σ.nobj+3)=[ic p.a.p,sl id p.a.ts.length (Ac p.a.ts),sl i3 o.length xs]:=by rw[ak _ Agm,bh]
    repeat' (first|refine Z1 ?_|(refine Z8 ?_;intro κ hκ)|(refine Z4 ?_;clear hκ κ)|(refine Z2 ?_ ?_<;>intro h ae<;>try exact Xp)|(refine Z6 ?_;intro idn σn ah ai ac ab ad aa)|refine Z3 ?_|exact⟨⟩|(apply hκ.out;clear hκ κ))
    refine Bm (by first|exact Fx) (a8) (a7) (by decide) (by rfl) (bi) (by rw[f1]) (f5) (by decide) Agm Agm ?_;intro idn σn ah ai ac ab ad aa;have eob:∀q,q<σ'.nobj->σn.obj q=σ'.obj q:=fun q hq=>by rw[ac,ak _ hq]
    refine Z3 ?_
    repeat' (first|refine Z1 ?_|(refine Z8 ?_;intro κ hκ)|(refine Z4 ?_;clear hκ κ)|(refine Z2 ?_ ?_<;>intro h ae<;>try exact Xp)|(refine Z6 ?_;intro idn σn ah ai ac ab ad aa)|refine Z3 ?_|exact⟨⟩|(apply hκ.out;clear hκ κ))
    refine⟨p.tups.length-(i+1),Agm,i+1,idn,o++[t],xs++As t,?_⟩
    ((repeat' with_reducible refine And.intro ?_ ?_)<;>first|exact Xq|exact (ai.put Agm _)|exact (by simpa using Own.put ah _ _)|exact (HX)|exact Xs)
 ·have bo:i=p.tups.length:=Agm;subst bo;obtain⟨x1,x2⟩:=hX.out;rw[Adz]at x2
  repeat' (first|refine Z1 ?_|(refine Z8 ?_;intro κ hκ)|(refine Z4 ?_;clear hκ κ)|(refine Z2 ?_ ?_<;>intro h ae<;>try exact Xp)|(refine Z6 ?_;intro idn σn ah ai ac ab ad aa)|refine Z3 ?_|exact⟨⟩|(apply hκ.out;clear hκ κ))
  exact⟨_,rfl,⟨_,by rw[b2.out,<-x2]<;>first|rfl|rw[x1]⟩,hK.put Agm _⟩
end Go.Proofs.YtmoeoppbmhfbpabGreatDoorG
