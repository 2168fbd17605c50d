import Derived.Test.YtmoeoppbmhfbpabGreatDoorJProgK
import Derived.Test.YtmoeoppbmhfbpabGreatDoorJFolB
import Derived.Test.YtmoeoppbmhfbpabGreatDoorJProgN
set_option maxHeartbeats 64000000
set_option maxRecDepth 100000
set_option linter.all false
namespace Go.Proofs.YtmoeoppbmhfbpabGreatDoorJ
open Go.Abs
variable {Bd:Nat}
def Mv (a:Ai):Bool:=F5 (a.terms.map Az)
def Hy (s:Tx):Rd Ai:=(C1 false s).bnd fun a r=>if Mv a=true then (Aw 46 r).bnd fun _ r=>.got a r else .bad r
def Cl:Nat->Tx->Rd (List Ai)
 |_,[]=>.got [] []
 |0,s=>.bad s
 |n+1,s=>(Hy s).bnd fun x r=>(Cl n r).bnd fun xs r=>.got (x::xs) r
theorem Jn (n:Nat):Cl n []= .got [] []:=by cases n<;>rfl
theorem Gq (n:Nat)(b:UInt8)(r:Tx):Cl (n+1) (b::r)=(Hy (b::r)).bnd fun x r=>(Cl n r).bnd fun xs r=>.got (x::xs) r:=rfl
def faI (s:Tx)(xs:List Ai)(q:Tx):Prop:=xs.length+q.length<=400/\Cl 400 s=(Cl (400-xs.length) q).bnd fun ys r=>.got (xs++ys) r
theorem faI.start {s:Tx}(h:s.length<=400):faI s [] s:=by
 refine⟨by simpa using h,?_⟩;simp only[Ace,Acw,Acm];cases Cl 400 s<;>rfl
theorem faI.done {s:Tx}{xs:List Ai}(h:faI s xs []):Cl 400 s= .got xs []:=by
 rw[h.2,Jn];simp[Rd.bnd]
theorem faI.fail {s:Tx}{xs:List Ai}{b:UInt8}{r e:Tx}(h:faI s xs (b::r))(he:Hy (b::r)= .bad e):Cl 400 s= .bad e:=by
 have:=h.1;simp only[Acf]at this;obtain⟨k,hk⟩:∃k,400-xs.length=k+1:=⟨399-xs.length,Ad6⟩;rw[h.2,hk,Gq,he];rfl
theorem Sm {s r:Tx}{a:Ai}(h:Hy s= .got a r):s=Ay a++46::r/\Ea a/\a.nt=false/\Mv a=true:=by
 unfold Hy at h;cases hp:C1 false s with
 |bad e=>rw[hp]at h;cases h
 |got a2 r2=>
  rw[hp]at h;simp only[Rd.bnd]at h;split at h
  ·rename_i hs;cases hb:Aw 46 r2 with
   |bad e=>rw[hb]at h;cases h
   |got u r3=>
    rw[hb]at h;cases h;obtain⟨e1,e2,e3⟩:=F7 hp;refine⟨?_,e2,e3,hs⟩;rw[e1];congr 1;cases r2 with
    |nil=>cases hb
    |cons c r4=>
     unfold Aw at hb;dsimp only at hb;split at hb
     ·rename_i hc;cases hb;have:c=46:=by
       have:=Ad4.1 hc;apply UInt8.toNat_inj.1;simpa using Int.ofNat.inj this
      rw[this]
     ·cases hb
  ·cases h
theorem Nj {y y':St}(k:Keep y y')(o:Nat):KeepX o y y':=⟨k.nobj,fun p hp _=>k.obj p hp,fun p hp _=>k.ver p hp,k.ntop,k.top⟩
theorem RS.keep {t:Tx}{o:Nat}{N:List Tx}{id:Nat}{s:Tx}{y y':St}(h:RS Bd t o N id s y)(k:Keep y y'):RS Bd t o N id s y':=h.stepX (Nj k o) (by rw[k.obj o h.lt];exact h.obj) h.suf (Abf _)
theorem faI.next {s:Tx}{xs:List Ai}{b:UInt8}{r r2:Tx}{x:Ai}(h:faI s xs (b::r))(he:Hy (b::r)= .got x r2):faI s (xs++[x]) r2:=by
 have h1:=h.1;have h2:=congrArg List.length (Sm he).1;simp only[Acf,Ab6]at h1 h2;obtain⟨k,hk⟩:∃k,400-xs.length=k+1:=⟨399-xs.length,Ad6⟩;refine⟨by simp;omega,?_⟩;rw[h.2,hk,Gq,he,show 400-(xs++[x]).length=k by simp;omega];simp only[Rd.bnd];cases Cl k r2<;>simp
def PF (N:List Tx)(a:Ai)(c:List AV):Prop:=a.pred∈N/\∃ids,c=[ic (N.idxOf a.pred:Nat),sl ids a.terms.length (Av a.terms)]
theorem iU {N:List Tx}(a:Ai)(c:List AV)(h:PF N a c):c.length=2:=by obtain⟨-,ids,rfl⟩:=h;rfl
theorem PF.mono {N N':List Tx}(hN:N<+:N')(a:Ai)(c:List AV)(h:PF N a c):PF N' a c:=by
 obtain⟨hm,ids,rfl⟩:=h;exact⟨hN.subset hm,ids,by rw[Jq hN hm]⟩
theorem xR {N:List Tx}:∀{l:List Ai} {c:List AV},EL (PF N) l c->EL Mg (l.map (Cm N)) c
 |[],_,h=>h
 |a::l,_,⟨c,r,⟨hm,ids,e⟩,h,e2⟩=>⟨c,r,⟨ids,by rw[e];simp[Cm,E7]⟩,xR h,e2⟩
theorem aX {t:Tx}{o:Nat}{N:List Tx}{id:Nat}{y:St}(ht4:t.length<=400)(hR:RS Bd t o N id t y):
  ACalls Tryz.prog 78 [ptr o 0] y fun x y'=>∃n ids c N' id' r',x=tp [sl ids n c,sc (.bool (Cl 400 t).ok)]/\Rs o y id y' id'/\RS Bd t o N' id' r' y'/\N<+:N'/\Rd.Val (Cl 400 t) fun xs=>n=xs.length/\EL (PF N') xs c:=by
 have ht:t.length<=1000:=Ad6;have hn:=hR.lt;have be:OwnN y id N.length:=hR.own;refine Z9 39 [.tmp 2,.tmp 3] Tryz.func78 ?_
 repeat' (first|refine Z1 ?_|(refine Z8 ?_;intro κ hκ)|(refine Z4 ?_;clear hκ κ)|(refine Z2 ?_ ?_<;>intro h ae<;>try exact Xp)|(refine Z6 ?_;intro idn yn ah ai ac ab ad aa)|refine Z3 ?_|exact⟨⟩|(apply hκ.out;clear hκ κ))
 refine Ad (fun m s' y'=>∃(xs:List Ai) (q:Tx) (ids:Nat) (d:List AV) (N2:List Tx) (id2:Nat),m=400-xs.length/\s' 0=ptr o 0/\s' 4=sl ids xs.length d/\Rs o y id y' id2/\RS Bd t o N2 id2 q y'/\Own y y' ids xs.length/\Aec (id2=1\/id2≠ids)/\N<+:N2/\d.length=xs.length*2/\Aec (EL (PF N2) xs d)/\Aec (faI t xs q)) 400
  ⟨[],t,1,[],N,id,rfl,rfl,rfl,Rs.refl _ _ _,hR,Own.nil _ _,by rcases be with⟨e,-⟩|⟨k,e,-⟩;exact .inl e;exact .inr Ad6,List.prefix_refl _,by simp,rfl,faI.start ht4⟩ ?_
 rintro m s' y' ⟨xs,q,ids,d,N2,id2,rfl,h0,h4,hS,av,hO,a9,aw,bd,hE,hI⟩;have bi:=hS.keep.nobj;have bc:=av.lt;have a4:=av.obj;have a8:=Gp av.suf;have bb:=hI.out.1;unfold J6 P6 at a4
 repeat' (first|refine Z1 ?_|(refine Z8 ?_;intro κ hκ)|(refine Z4 ?_;clear hκ κ)|(refine Z2 ?_ ?_<;>intro h ae<;>try exact Xp)|(refine Z6 ?_;intro idn yn ah ai ac ab ad aa)|refine Z3 ?_|exact⟨⟩|(apply hκ.out;clear hκ κ))
 refine A1 Ah (fun _=>True) [9] [0,1,2,3,4,5,6,7,8] [9] Ad9 (fun _ _ _ h=>h) ?_;intro κ hκ;cases q with
 |nil=>
  simp only[Ace,Acw]at a4 a8;refine Z3 ?_
  repeat' (first|refine Z1 ?_|(refine Z8 ?_;intro κ hκ)|(refine Z4 ?_;clear hκ κ)|(refine Z2 ?_ ?_<;>intro h ae<;>try exact Xp)|(refine Z6 ?_;intro idn yn ah ai ac ab ad aa)|refine Z3 ?_|exact⟨⟩|(apply hκ.out;clear hκ κ))
  have hp:=hI.out.done
  first
  |exact⟨_,rfl,_,ids,d,N2,id2,[],by rw[hp];rfl,hS,av,aw,by rw[hp];exact⟨rfl,hE.out⟩⟩
  |exact⟨_,rfl,_,ids,d,N2,id2,[],by rw[hp];rfl,av,aw,by rw[hp];exact⟨rfl,hE.out⟩⟩
 |cons b0 r0=>
  simp only[Acf]at a4 a8 bb;have ak:=Lu (Bd:=Bd) false ht av;have ap:Aec (∀e,Hy (b0::r0)= .bad e->Cl 400 t= .bad e):=fun e he=>hI.out.fail he;cases hp:C1 false (b0::r0)with
  |bad e=>
   rw[hp]at ak;have HF:Aec (Cl 400 t= .bad e):=ap.out e (by unfold Hy;rw[hp];rfl);clear hp ap;simp only[Rd.ok,Rd.rest,Rd.Val]at ak;refine Z3 ?_
   repeat' (first|refine Z1 ?_|(refine Z8 ?_;intro κ hκ)|(refine Z4 ?_;clear hκ κ)|(refine Z2 ?_ ?_<;>intro h ae<;>try exact Xp)|(refine Z6 ?_;intro idn yn ah ai ac ab ad aa)|(refine Z5 ?_;refine Xi (ak) ?_;rintro _ _ ⟨k,n,ids2,c,N3,id3,rfl,aj,a7,am,-⟩;(have an:=aj.keep.nobj))|refine Z3 ?_|exact⟨⟩|(apply hκ.out;clear hκ κ))
   rename_i y3;refine⟨_,rfl,0,1,[],N3,id3,e,by rw[HF.out];rfl,by repeat (first|exact Rs.refl _ _ _|(with_reducible assumption)|(with_reducible apply Rs.put;rotate_left;(first|omega|(simp only[Aa,Ab,Ag,Ap]at*;omega)))|(with_reducible apply Rs.new)|(with_reducible apply Rs.lay)|(refine Rs.trans ?_ (by with_reducible assumption))|(refine Rs.transX ?_ (by with_reducible assumption))),?_,aw.trans am,by rw[HF.out];trivial⟩
   repeat (first|(with_reducible assumption)|(with_reducible apply RS.put;rotate_left;(first|omega|(simp only[Aa,Ab,Ag,Ap]at*;omega)))|(with_reducible apply RS.new)|(with_reducible apply RS.lay)|assumption)
  |got a r2=>
   rw[hp]at ak;simp only[Rd.ok,Rd.rest,Rd.Val]at ak;have ao:=fun (k:Int) (ids2:Nat) (y:St)=>Iv k ids2 (a.terms.map Az) (by have:=(F7 hp).2.1.2.2.1;simp;omega) y;rw[E7,Adc]at ao;have HP:Aec (Hy (b0::r0)=if Mv a=true then (Aw 46 r2).bnd fun _ r=>.got a r else .bad r2):=by rw[Aec,Hy,hp];rfl
   rw[show F5 (a.terms.map Az)=Mv a from rfl]at ao;clear hp;cases hs:Mv a with
   |false=>
    have HF:Aec (Cl 400 t= .bad r2):=ap.out r2 (by rw[HP.out,hs];rfl);rw[hs]at ao;clear hs HP ap;refine Z3 ?_
    repeat' (first|refine Z1 ?_|(refine Z8 ?_;intro κ hκ)|(refine Z4 ?_;clear hκ κ)|(refine Z2 ?_ ?_<;>intro h ae<;>try exact Xp)|(refine Z6 ?_;intro idn yn ah ai ac ab ad aa)|(refine Z5 ?_;first|(refine Xi (ak) ?_;rintro _ _ ⟨k,n,ids2,c,N3,id3,rfl,aj,a7,am,⟨m1,rfl,rfl,rfl⟩⟩;(have an:=aj.keep.nobj))|(refine Xi (ao _ _ _) ?_;rintro _ _ ⟨rfl,af⟩))|refine Z3 ?_|exact⟨⟩|(apply hκ.out;clear hκ κ))
    rename_i y3 y5;have ay:Rs o y id ((y3.new [ic 0,nilS]).put y3.nobj [ic (N3.idxOf a.pred:Nat),sl ids2 a.terms.length (Av a.terms)]) id3:=by repeat (first|exact Rs.refl _ _ _|(with_reducible assumption)|(with_reducible apply Rs.put;rotate_left;(first|omega|(simp only[Aa,Ab,Ag,Ap]at*;omega)))|(with_reducible apply Rs.new)|(with_reducible apply Rs.lay)|(refine Rs.trans ?_ (by with_reducible assumption))|(refine Rs.transX ?_ (by with_reducible assumption)))
    have az:RS Bd t o N3 id3 r2 ((y3.new [ic 0,nilS]).put y3.nobj [ic (N3.idxOf a.pred:Nat),sl ids2 a.terms.length (Av a.terms)]):=by repeat (first|(with_reducible assumption)|(with_reducible apply RS.put;rotate_left;(first|omega|(simp only[Aa,Ab,Ag,Ap]at*;omega)))|(with_reducible apply RS.new)|(with_reducible apply RS.lay)|assumption)
    exact⟨_,rfl,0,1,[],N3,id3,r2,by rw[HF.out];rfl,ay.transX (Nj af o),az.keep af,aw.trans am,by rw[HF.out];trivial⟩
   |true=>
    rw[hs]at ao;have au:=fun (N3:List Tx) (id3:Nat) (y1:St) (h:RS Bd t o N3 id3 r2 y1)=>Ht (c:=46) ht h;cases hb:(Aw 46 r2)with
    |bad e=>
     have HF:Aec (Cl 400 t= .bad e):=ap.out e (by rw[HP.out,hs,hb];rfl);rw[hb]at au;simp only[Rd.ok,Rd.rest]at au;clear hs HP ap hb;refine Z3 ?_
     repeat' (first|refine Z1 ?_|(refine Z8 ?_;intro κ hκ)|(refine Z4 ?_;clear hκ κ)|(refine Z2 ?_ ?_<;>intro h ae<;>try exact Xp)|(refine Z6 ?_;intro idn yn ah ai ac ab ad aa)|(refine Z5 ?_;first|(refine Xi (ak) ?_;rintro _ _ ⟨k,n,ids2,c,N3,id3,rfl,aj,a7,am,⟨m1,rfl,rfl,rfl⟩⟩;(have an:=aj.keep.nobj;rename_i y3;have ay:Rs o y id ((y3.new [ic 0,nilS]).put y3.nobj [ic (N3.idxOf a.pred:Nat),sl ids2 a.terms.length (Av a.terms)]) id3:=(by repeat (first|exact Rs.refl _ _ _|(with_reducible assumption)|(with_reducible apply Rs.put;rotate_left;(first|omega|(simp only[Aa,Ab,Ag,Ap]at*;omega)))|(with_reducible apply Rs.new)|(with_reducible apply Rs.lay)|(refine Rs.trans ?_ (by with_reducible assumption))|(refine Rs.transX ?_ (by with_reducible assumption))));have az:RS Bd t o N3 id3 r2 ((y3.new [ic 0,nilS]).put y3.nobj [ic (N3.idxOf a.pred:Nat),sl ids2 a.terms.length (Av a.terms)]):=(by repeat (first|(with_reducible assumption)|(with_reducible apply RS.put;rotate_left;(first|omega|(simp only[Aa,Ab,Ag,Ap]at*;omega)))|(with_reducible apply RS.new)|(with_reducible apply RS.lay)|assumption))))|(refine Xi (ao _ _ _) ?_;rintro _ _ ⟨rfl,af⟩;(have a5:=ay.transX (Nj af o);have a6:=az.keep af))|(refine Xi (au N3 id3 _ a6) ?_;rintro _ _ ⟨rfl,a0,a3⟩))|refine Z3 ?_|exact⟨⟩|(apply hκ.out;clear hκ κ))
     exact⟨_,rfl,0,1,[],N3,id3,e,by rw[HF.out];rfl,a5.transX a0,a3,aw.trans am,by rw[HF.out];trivial⟩
    |got u r3=>
     have HF:Aec (faI t (xs++[a]) r3):=hI.out.next (by rw[HP.out,hs,hb];rfl);rw[hb]at au;simp only[Rd.ok,Rd.rest]at au;clear hs HP ap hb;refine Z3 ?_
     repeat' (first|refine Z1 ?_|(refine Z8 ?_;intro κ hκ)|(refine Z4 ?_;clear hκ κ)|(refine Z2 ?_ ?_<;>intro h ae<;>try exact Xp)|(refine Z6 ?_;intro idn yn ah ai ac ab ad aa)|(refine Z5 ?_;first|(refine Xi (ak) ?_;rintro _ _ ⟨k,n,ids2,c,N3,id3,rfl,aj,a7,am,⟨m1,rfl,rfl,rfl⟩⟩;(have an:=aj.keep.nobj;rename_i y3;have ay:Rs o y id ((y3.new [ic 0,nilS]).put y3.nobj [ic (N3.idxOf a.pred:Nat),sl ids2 a.terms.length (Av a.terms)]) id3:=(by repeat (first|exact Rs.refl _ _ _|(with_reducible assumption)|(with_reducible apply Rs.put;rotate_left;(first|omega|(simp only[Aa,Ab,Ag,Ap]at*;omega)))|(with_reducible apply Rs.new)|(with_reducible apply Rs.lay)|(refine Rs.trans ?_ (by with_reducible assumption))|(refine Rs.transX ?_ (by with_reducible assumption))));have az:RS Bd t o N3 id3 r2 ((y3.new [ic 0,nilS]).put y3.nobj [ic (N3.idxOf a.pred:Nat),sl ids2 a.terms.length (Av a.terms)]):=(by repeat (first|(with_reducible assumption)|(with_reducible apply RS.put;rotate_left;(first|omega|(simp only[Aa,Ab,Ag,Ap]at*;omega)))|(with_reducible apply RS.new)|(with_reducible apply RS.lay)|assumption))))|(refine Xi (ao _ _ _) ?_;rintro _ _ ⟨rfl,af⟩;(have a5:=ay.transX (Nj af o);have a6:=az.keep af))|(refine Xi (au N3 id3 _ a6) ?_;rintro _ _ ⟨rfl,a0,a3⟩))|refine Z3 ?_|exact⟨⟩|(apply hκ.out;clear hκ κ))
     rename_i y5 y6;have bh:=Own.keepR hO aj.keep (Mc a9.out hO);have bg:Own y ((y3.new [ic 0,nilS]).put y3.nobj [ic (N3.idxOf a.pred:Nat),sl ids2 a.terms.length (Av a.terms)]) ids xs.length:=Own.put (Own.new bh _) _ _;have bf:=Own.keepX (Own.keep bg af) a0;have ba:=a5.transX a0;have ax:id3=1\/id3≠ids:=Px a9.out hO aj.nid;have kn5:=af.nobj;simp only[Ab,Aa]at kn5;have bl:=bc;have o6:y6.obj y3.nobj=[ic (N3.idxOf a.pred:Nat),sl ids2 a.terms.length (Av a.terms)]:=by rw[a0.obj _ Ad6 Ad6,af.obj _ Aeb,Ak]
     have hC:PF N3 a [ic (N3.idxOf a.pred:Nat),sl ids2 a.terms.length (Av a.terms)]:=⟨m1,ids2,rfl⟩
     repeat' (first|refine Z1 ?_|(refine Z8 ?_;intro κ hκ)|(refine Z4 ?_;clear hκ κ)|(refine Z2 ?_ ?_<;>intro h ae<;>try exact Xp)|(refine Z6 ?_;intro idn yn ah ai ac ab ad aa)|refine Z3 ?_|exact⟨⟩|(apply hκ.out;clear hκ κ))
     refine Lk (o:=o) (idn:=id) (σ0:=y) (by first|exact D1) ba.keep bf (by decide) (by rfl) bd (by rfl) (by rfl) (by decide) Ad6 Ad6 ?_;intro idn yn ah ai ac ab ad aa etop hid;refine Z3 ?_
     repeat' (first|refine Z1 ?_|(refine Z8 ?_;intro κ hκ)|(refine Z4 ?_;clear hκ κ)|(refine Z2 ?_ ?_<;>intro h ae<;>try exact Xp)|(refine Z6 ?_;intro idn yn ah ai ac ab ad aa)|refine Z3 ?_|exact⟨⟩|(apply hκ.out;clear hκ κ))
     refine⟨400-(xs++[a]).length,by simp;omega,xs++[a],r3,idn,d++[ic (N3.idxOf a.pred:Nat),sl ids2 a.terms.length (Av a.terms)],N3,id3,rfl,by simp,⟨ai,ba.nid⟩,a3.app ac ab aa etop ax,by simpa using ah,O4 a3.own ax hid,aw.trans am,by simp;omega,EL.append (hE.out.mono (PF.mono am)) (EL.single hC),HF⟩
def Kq (A:List Ai):List Ai->Bool
 |[]=>false
 |a::F=>A.any (clash a)||Kq (A++[a]) F
theorem qU {F:List Ai}:∀{A:List Ai} {i:Nat} {a:Ai},F[i]?=some a->(A++F.take i).any (clash a)=true->Kq A F=true:=by
 induction F with
 |nil=>intro A i a h;simp at h
 |cons b F ih=>
  intro A i a h hc;unfold Kq;cases i with
  |zero=>
   simp at h hc;subst h;rw[Ade];left;rw[Acg];exact hc
  |succ i=>
   rw[Ade];right;exact ih (A:=A++[b]) (i:=i) (by simpa using h) (by simpa using hc)
theorem mV {F:List Ai}:∀{A:List Ai},(∀(i:Nat) (a:Ai),F[i]?=some a->(A++F.take i).any (clash a)=false)->Kq A F=false:=by
 induction F with
 |nil=>intro A _;rfl
 |cons b F ih=>
  intro A h;unfold Kq;rw[Bool.or_eq_false_iff];refine⟨by simpa using h 0 b rfl,ih fun i a hi=>?_⟩;have:=h (i+1) a (by simpa using hi);simpa using this
theorem cntsOk.put {N:List Tx}{S:List Ai}{cc:Nat->Int}{a:Ai}(h:cntsOk N S cc)(hc:C4 S)(hn:S.any (clash a)=false)(ha:a.pred∈N):cntsOk N (S++[a]) (fun j=>if j=N.idxOf a.pred then (a.terms.length:Int)else cc j):=by
 have h0:=h a.pred ha;by_cases e:cc (N.idxOf a.pred)=0
 ·exact (h.step hc ha).1 e
 ·have h1:=(h.step hc ha).2 e;have h2:¬(F3 S a.pred≠0/\F3 S a.pred≠a.terms.length):=fun g=>by rw[<-Lg hc a,hn]at g;cases g
  intro p hp;dsimp only;by_cases ep:N.idxOf p=N.idxOf a.pred
  ·rw[if_pos ep,<-h1 p hp,ep];omega
  ·rw[if_neg ep];exact h1 p hp
theorem R7 {l:List RItem}{i:Nat}{x:RItem}(h:l[i]?=some x):C0 l (i+1)=Cy l x i (Af x).length:=by
 unfold C0 Cy;rw[Abv,h,Ac5,Adx,Abt];simp[C0]
theorem Uc {N:List Tx}{l:List Ai}{cs:List AV}{i:Nat}{a:Ai}(h:EL (PF N) l cs)(hi:l[i]?=some a):a.pred∈N/\∃ids r,cs.drop (i*2)=ic (N.idxOf a.pred:Nat)::sl ids a.terms.length (Av a.terms)::r:=by
 obtain⟨c,r,⟨hm,ids,rfl⟩,e⟩:=EL.get iU h hi;exact⟨hm,ids,r,e⟩
theorem Qa (N N':List Tx)(hN:N<+:N')(l:List RItem)(cs:List AV)(idn idi:Nat)(hB:Bk N l cs)(hT:∀S,S<+:l.flatMap Af->∀a∈l.flatMap Af,S.any (clash a)=false)(F:List Ai)(fc:List AV)(idf:Nat)(hF:EL (PF N') F fc)(b6:F.length<=1000)(bz:∀a∈F,0<a.terms.length/\a.terms.length<=3)(b5:N'.length<=2500)(y:St):
  ACalls Tryz.prog 79 [Bs N idn l idi cs,sl idf F.length fc,ic N'.length] y fun r y'=>r=sc (.bool (Kq (l.flatMap Af) F))/\Keep y y':=by
 have hE:EL (PI N') l cs:=hB.el.mono (PI.mono hN);have a3:=EL.length Df hE;have b3:=EL.length iU hF;have bo:=hB.len;unfold Bs;refine Z9 68 [.tmp 6] Tryz.func79 ?_
 repeat' (first|refine Z1 ?_|(refine Z8 ?_;intro κ hκ)|(refine Z4 ?_;clear hκ κ)|(refine Z2 ?_ ?_<;>intro h ab<;>try exact Xp)|refine Z3 ?_|exact⟨⟩|(apply hκ.out;clear hκ κ))
 refine Ad (fun m s y'=>∃(i:Nat) (cc:Nat->Int),m=l.length-i/\i<=l.length/\s 1=sl idf F.length fc/\s 7=fx (y.nobj+1) 0 N'.length/\s 17=sl idi l.length cs/\s 18=ic l.length/\s 19=ic i/\Keep y y'/\y.nobj+1<y'.nobj/\y'.obj (y.nobj+1)=Ez N'.length cc/\Aec (cntsOk N' (C0 l i) cc)/\Aec (C4 (C0 l i))) l.length
  ⟨0,fun _=>0,Ad6,Ad6,rfl,?_,rfl,rfl,rfl,Xs,Aea,?_,?_,by simp[Aec,C0,Tj]⟩ ?_
 ·simp[upd]
 ·show (if y.nobj+1=y.nobj+1 then _ else _)=_;rw[if_pos rfl];exact O2 _
 ·intro p hp;simp[C0,F3]
 rintro m s y' ⟨i,cc,rfl,hi,h1,h7,a8,a7,a6,hK,ac,ak,hC,hS⟩;have av:=hK.nobj;by_cases ae:i<l.length
 ·have aa:=List.getElem?_eq_getElem ae;have az:=hB.fits l[i] (Ac2 ae);have bb:=hB.out l[i] (Ac2 ae);have ba:=hB.pos l[i] (Ac2 ae);obtain⟨hm,ih,id,b,r,hb,hd⟩:=Fi hE aa;generalize l[i]=x at hd aa az bb hb hm ba;have HX:Aec (l[i]?=some x):=aa;clear aa;have b4:=az.atoms
  repeat' (first|refine Z1 ?_|(refine Z8 ?_;intro κ hκ)|(refine Z4 ?_;clear hκ κ)|(refine Z2 ?_ ?_<;>intro h ab<;>try exact Xp)|(refine Z5 ?_;refine Xi (Ih N' x _ (PI.of hm hb) bb (by have:=az.1;omega) _) ?_;rintro _ _ ⟨ida,cs2,rfl,bh,a5⟩;(have am:=a5.obj;have an:=a5.nobj;(try simp only[Aa,Ab,Ag]at an)))|refine Z3 ?_|exact⟨⟩|(apply hκ.out;clear hκ κ))
  rename_i y1;have bv:=EL.length Ud bh;have bg:Keep y y1:=Xs;have ao:y1.obj (y.nobj+1)=Ez N'.length cc:=by
   rw[am _ (by simp only[Aa,Ab];omega),Aj Ad6,Ae ac];exact ak
  clear am
  refine Ad (fun m s y'=>∃(j:Nat) (cc:Nat->Int),m=(Af x).length-j/\j<=(Af x).length/\s 1=sl idf F.length fc/\s 7=fx (y.nobj+1) 0 N'.length/\s 17=sl idi l.length cs/\s 18=ic l.length/\s 19=ic i/\s 24=sl ida (Af x).length cs2/\s 25=ic (Af x).length/\s 26=ic j/\Keep y y'/\y.nobj+1<y'.nobj/\y'.obj (y.nobj+1)=Ez N'.length cc/\Aec (cntsOk N' (Cy l x i j) cc)/\Aec (C4 (Cy l x i j))) (Af x).length
   ⟨0,cc,Ad6,Ad6,Ad7,Ad7,Ad7,Ad7,Ad7,Ad8,rfl,rfl,bg,Ad6,ao,by simpa[Cy]using hC,by simpa[Cy]using hS⟩ ?_
  clear ao hK ak hC hS a5 an av h1 h7 a8 a7 a6 ac cc bg;rintro m s y' ⟨j,cc,rfl,hj,h1,h7,a8,a7,a6,cd,cb,ca,hK,ac,ak,hC,hS⟩;have av:=hK.nobj;by_cases ai:j<(Af x).length
  ·have aa:=List.getElem?_eq_getElem ai;have aj:=ba (Af x)[j] (Ac2 ai);have ah:=Ac2 ai;obtain⟨ha,ia,r2,bc⟩:=lN bh aa;generalize (Af x)[j]=a at bc aa ha aj ah
   have ad:(Cy l x i j).any (clash a)=false:=hT _ (by
    unfold Cy C0;have e1:l=l.take i++x::l.drop (i+1):=by
     obtain⟨h1,h2⟩:=List.getElem?_eq_some_iff.1 HX.out;rw[<-h2];exact (Adl i l).symm.trans (by rw[Ach h1])
    conv=>rhs;rw[e1]
    rw[Adx,Acz]
    exact (List.prefix_append_right_inj _).2 ((List.take_prefix j _).trans (List.prefix_append _ _))) a (Acn.2 ⟨x,Abm HX.out,ah⟩)
   have HN:Aec (cntsOk N' (Cy l x i (j+1)) (fun q=>if q=N'.idxOf a.pred then (a.terms.length:Int)else cc q)/\C4 (Cy l x i (j+1))):=by
    rw[Aec,Hk aa];exact⟨hC.out.put hS.out ad ha,Gg hS.out aj ad⟩
   have ap:=Ac4 ha;have af:=fun v=>Nv (n:=N'.length) (i:=N'.idxOf a.pred) cc v;have bn:=H4 N'.length cc;clear aa ad ah;generalize N'.idxOf a.pred=ix at bc ap af HN
   repeat' (first|refine Z1 ?_|(refine Z8 ?_;intro κ hκ)|(refine Z4 ?_;clear hκ κ)|(refine Z2 ?_ ?_<;>intro h ab<;>try exact Xp)|refine Z3 ?_|exact⟨⟩|(apply hκ.out;clear hκ κ))
   refine⟨(Af x).length-(j+1),Ad6,j+1,fun q=>if q=ix then (a.terms.length:Int)else cc q,?_⟩
   ((repeat' with_reducible refine And.intro ?_ ?_)<;>first|exact Xq|exact (HN.out.1)|exact (HN.out.2)|exact (((hK.new _).put hK.nobj _).put Ad6 _)|exact (af _)|exact Xs)
  ·have bq:j=(Af x).length:=Ad6;subst bq;have HN:Aec (cntsOk N' (C0 l (i+1)) cc/\C4 (C0 l (i+1))):=by
    rw[Aec,R7 HX.out];exact⟨hC.out,hS.out⟩
   repeat' (first|refine Z1 ?_|(refine Z8 ?_;intro κ hκ)|(refine Z4 ?_;clear hκ κ)|(refine Z2 ?_ ?_<;>intro h ab<;>try exact Xp)|refine Z3 ?_|exact⟨⟩|(apply hκ.out;clear hκ κ))
   refine⟨l.length-(i+1),Ad6,i+1,cc,?_⟩
   ((repeat' with_reducible refine And.intro ?_ ?_)<;>first|exact Xq|exact (HN.out.1)|exact (HN.out.2)|exact Xs)
 ·have br:i=l.length:=Ad6;subst br;have e0:C0 l l.length=l.flatMap Af:=by simp[C0]
  rw[e0]at hC hS;generalize l.flatMap Af=A at hC hS
  repeat' (first|refine Z1 ?_|(refine Z8 ?_;intro κ hκ)|(refine Z4 ?_;clear hκ κ)|(refine Z2 ?_ ?_<;>intro h ab<;>try exact Xp)|refine Z3 ?_|exact⟨⟩|(apply hκ.out;clear hκ κ))
  refine Ad (fun m s y'=>∃(k:Nat) (cc:Nat->Int),m=F.length-k/\k<=F.length/\s 7=fx (y.nobj+1) 0 N'.length/\s 39=sl idf F.length fc/\s 40=ic F.length/\s 41=ic k/\Keep y y'/\y.nobj+1<y'.nobj/\y'.obj (y.nobj+1)=Ez N'.length cc/\Aec (cntsOk N' (A++F.take k) cc/\C4 (A++F.take k)/\∀(i:Nat) (a:Ai),i<k->F[i]?=some a->(A++F.take i).any (clash a)=false)) F.length
   ⟨0,cc,Ad6,Ad6,Ad7,Ad7,Ad7,Ad8,hK,ac,ak,by simpa using hC.out,by simpa using hS.out,fun i a hi=>Ad6⟩ ?_
  clear h1 h7 a8 a7 a6 hK ac ak hC hS av cc ae;rintro m s y' ⟨k,cc,rfl,hk,h7,b9,b8,b7,hK,ac,ak,hC⟩;have av:=hK.nobj;by_cases ae:k<F.length
  ·have aa:=List.getElem?_eq_getElem ae;obtain⟨ha,ids,r,hd⟩:=Uc hF aa;have aj:=bz _ (Ac2 ae);generalize F[k]=a at hd aa ha aj;obtain⟨c1,c2,c3⟩:=hC.out;have HG:Aec (F[k]?=some a):=aa;have ax:Aec (A++F.take (k+1)=A++F.take k++[a]):=by rw[Aec,Abv,aa,Ac5,Ab8]
   have ap:=Ac4 ha;have aw:=c1.step c2 ha;have a0:=c1 a.pred ha;have bd:=Ey cc ap;have af:=fun v=>Nv (n:=N'.length) (i:=N'.idxOf a.pred) cc v;have bn:=H4 N'.length cc;have a3:=Lg c2 a;have bm:Aec (((A++F.take k).any (clash a)=false)->∀(i:Nat) (b:Ai),i<k+1->F[i]?=some b->(A++F.take i).any (clash b)=false):=fun hh i b hi hb=>by
    by_cases e:i=k
    ·subst e;rw[HG.out]at hb;cases hb;exact hh
    ·exact c3 i b Ad6 hb
   generalize bw:cc (N'.idxOf a.pred)=c at bd aw a0;clear bw aa c1 c3 hC;generalize N'.idxOf a.pred=ix at hd bd ap aw af;have bl:Aec _:=c2;have bi:Aec _:=aw;have ay:Aec _:=a0;have a9:Aec _:=a3;clear aw a0 a3 c2;by_cases au:(c==0)=true
   ·have b2:((Ez N'.length cc).set ix (sc (.int .i64 a.terms.length)))[ix]?=some (sc (.int .i64 a.terms.length)):=by rw[af,Ey _ ap];simp
    have b1:((a.terms.length:Int) !=a.terms.length)=false:=by simp
    have be:c=0:=by simpa using au
    have b0:Aec _:=af;have ad:(A++F.take k).any (clash a)=false:=by
     cases hq:(A++F.take k).any (clash a)with
     |false=>rfl
     |true=>exfalso;have h1:=(a9.out.1 hq).1;have h2:=ay.out;omega
    have HN:Aec (cntsOk N' (A++F.take (k+1)) (fun j=>if j=ix then (a.terms.length:Int)else cc j)/\C4 (A++F.take (k+1))/\∀(i:Nat) (b:Ai),i<k+1->F[i]?=some b->(A++F.take i).any (clash b)=false):=by
     refine⟨?_,?_,bm.out ad⟩
     ·rw[ax.out];exact bi.out.1 be
     ·rw[ax.out];exact Gg bl.out aj.1 ad
    clear af ad be
    repeat' (first|refine Z1 ?_|(refine Z8 ?_;intro κ hκ)|(refine Z4 ?_;clear hκ κ)|(refine Z2 ?_ ?_<;>intro h ab<;>try exact Xp)|refine Z3 ?_|exact⟨⟩|(apply hκ.out;clear hκ κ))
    refine A1 Ah (fun _=>True) [8] [0,1,2,3,4,5,6,7] [8] Ad9 (fun _ _ _ h=>h) ?_;intro κ hκ;refine Z3 ?_
    repeat' (first|refine Z1 ?_|(refine Z8 ?_;intro κ hκ)|(refine Z4 ?_;clear hκ κ)|(refine Z2 ?_ ?_<;>intro h ab<;>try exact Xp)|refine Z3 ?_|exact⟨⟩|(apply hκ.out;clear hκ κ))
    refine⟨F.length-(k+1),Ad6,k+1,fun j=>if j=ix then (a.terms.length:Int)else cc j,?_⟩
    ((repeat' with_reducible refine And.intro ?_ ?_)<;>first|exact Xq|exact (HN)|exact (((hK.new _).put hK.nobj _).put Ad6 _)|exact (b0.out _)|exact Xs)
   ·have au:(c==0)=false:=by simpa using au
    clear af
    repeat' (first|refine Z1 ?_|(refine Z8 ?_;intro κ hκ)|(refine Z4 ?_;clear hκ κ)|(refine Z2 ?_ ?_<;>intro h ab<;>try exact Xp)|refine Z3 ?_|exact⟨⟩|(apply hκ.out;clear hκ κ))
    refine A1 Ah (fun _=>True) [8] [0,1,2,3,4,5,6,7] [8] Ad9 (fun _ _ _ h=>h) ?_;intro κ hκ;refine Z3 ?_
    repeat' (first|refine Z1 ?_|(refine Z8 ?_;intro κ hκ)|(refine Z4 ?_;clear hκ κ)|(refine Z2 ?_ ?_<;>intro h ab<;>try exact Xp)|refine Z3 ?_|exact⟨⟩|(apply hκ.out;clear hκ κ))
    ·have a4:c≠0:=by simpa using au
     have bf:c≠a.terms.length:=by simpa using h
     have bu:=a9.out.2 ⟨by have:=ay.out;omega,by have:=ay.out;omega⟩;exact⟨_,rfl,by rw[qU HG.out bu],(hK.new _).put hK.nobj _⟩
    ·have a4:c≠0:=by simpa using au
     have bf:c=a.terms.length:=by simpa using h
     have ad:(A++F.take k).any (clash a)=false:=by
      cases hq:(A++F.take k).any (clash a)with
      |false=>rfl
      |true=>exfalso;have h1:=(a9.out.1 hq).2;have h2:=ay.out;omega
     have HN:Aec (cntsOk N' (A++F.take (k+1)) cc/\C4 (A++F.take (k+1))/\∀(i:Nat) (b:Ai),i<k+1->F[i]?=some b->(A++F.take i).any (clash b)=false):=by
      refine⟨?_,?_,bm.out ad⟩
      ·rw[ax.out];exact bi.out.2 a4
      ·rw[ax.out];exact Gg bl.out aj.1 ad
     clear bf a4 ad;refine⟨F.length-(k+1),Ad6,k+1,cc,?_⟩
     ((repeat' with_reducible refine And.intro ?_ ?_)<;>first|exact Xq|exact (HN)|exact ((hK.new _).put hK.nobj _)|exact Xs)
  ·have bp:k=F.length:=Ad6;subst bp;have hz:Kq A F=false:=mV fun i a hi=>hC.out.2.2 i a (List.getElem?_eq_some_iff.1 hi).1 hi;rw[hz]
   repeat' (first|refine Z1 ?_|(refine Z8 ?_;intro κ hκ)|(refine Z4 ?_;clear hκ κ)|(refine Z2 ?_ ?_<;>intro h ab<;>try exact Xp)|refine Z3 ?_|exact⟨⟩|(apply hκ.out;clear hκ κ))
   first|exact⟨_,rfl,rfl,hK⟩|exact⟨_,rfl,rfl⟩
def Kj (N:List Tx)(l:List RItem)(k:Nat):Bool:=l.any fun x=>!x.out&&decide (N.idxOf x.head.pred=k)
theorem Yy {α:Type}{l:List α}{f:α->Bool}{i:Nat}{x:α}(h:(l.take i).any f=false)(hi:l[i]?=some x)(hx:f x=false):(l.take (i+1)).any f=false:=by
 rw[Abv,hi,Ac5,Adn,h];simp[hx]
theorem xL {α:Type}{l:List α}{f:α->Bool}{i:Nat}{x:α}(hi:l[i]?=some x)(hx:f x=true):l.any f=true:=Acg.2 ⟨x,Abm hi,hx⟩
theorem aO (N:List Tx)(l:List RItem)(cs:List AV)(nm:AV)(hnm:flat nm=true)(idi k:Nat)(hE:EL (PI N) l cs)(hl:l.length<=1000)(y:St):ACalls Tryz.prog 134 [ag [nm,sl idi l.length cs],sc (.int .i64 k)] y fun r y'=>r=sc (.bool (Kj N l k))/\Keep y y':=by
 have ak:=EL.length Df hE;refine Z9 25 [.tmp 4] Tryz.func134 ?_
 repeat' (first|refine Z1 ?_|(refine Z8 ?_;intro κ hκ)|(refine Z4 ?_;clear hκ κ)|(refine Z2 ?_ ?_<;>intro h ab<;>try exact Xp)|refine Z3 ?_|exact⟨⟩|(apply hκ.out;clear hκ κ))
 refine Ad (fun m s y'=>∃(i:Nat),m=l.length-i/\i<=l.length/\s 1=sc (.int .i64 k)/\s 8=sl idi l.length cs/\s 9=sc (.int .i64 l.length)/\s 10=sc (.int .i64 i)/\Keep y y'/\Aec (Kj N (l.take i) k=false)) l.length
  ⟨0,Ad6,Ad6,rfl,Ad8,Ad8,rfl,Xs,by simp[Aec,Kj]⟩ ?_
 rintro m s y' ⟨i,rfl,hi,h1,h8,h9,am,hK,hA⟩;have aj:=hK.nobj;by_cases af:i<l.length
 ·have aa:=List.getElem?_eq_getElem af;obtain⟨ae,ih,id,b,r,ai,hd⟩:=Fi hE aa;generalize l[i]=x at hd aa ae ai;cases ac:x.out with
  |true=>
   rw[ac]at hd;have HA:Aec (Kj N (l.take (i+1)) k=false):=Yy hA.out aa (by simp[ac]);clear aa hA ac
   repeat' (first|refine Z1 ?_|(refine Z8 ?_;intro κ hκ)|(refine Z4 ?_;clear hκ κ)|(refine Z2 ?_ ?_<;>intro h ab<;>try exact Xp)|refine Z3 ?_|exact⟨⟩|(apply hκ.out;clear hκ κ))
   refine⟨l.length-(i+1),Ad6,i+1,?_⟩
   ((repeat' with_reducible refine And.intro ?_ ?_)<;>first|exact Xq|exact (HA)|exact Xs)
  |false=>
   rw[ac]at hd;by_cases hk:N.idxOf x.head.pred=k
   ·have ad:(((N.idxOf x.head.pred:Nat):Int)==(k:Int))=true:=by simp[hk]
    have HA:Aec (Kj N l k=true):=xL aa (by simp[ac,hk]);clear aa hA ac hk;generalize N.idxOf x.head.pred=ix at hd ad
    repeat' (first|refine Z1 ?_|(refine Z8 ?_;intro κ hκ)|(refine Z4 ?_;clear hκ κ)|(refine Z2 ?_ ?_<;>intro h ab<;>try exact Xp)|refine Z3 ?_|exact⟨⟩|(apply hκ.out;clear hκ κ))
    exact⟨_,rfl,by rw[HA.out],Xs⟩
   ·have ad:(((N.idxOf x.head.pred:Nat):Int)==(k:Int))=false:=by simpa using (by omega:¬((N.idxOf x.head.pred:Nat):Int)=k)
    have HA:Aec (Kj N (l.take (i+1)) k=false):=Yy hA.out aa (by simp[hk]);clear aa hA ac hk;generalize N.idxOf x.head.pred=ix at hd ad
    repeat' (first|refine Z1 ?_|(refine Z8 ?_;intro κ hκ)|(refine Z4 ?_;clear hκ κ)|(refine Z2 ?_ ?_<;>intro h ab<;>try exact Xp)|refine Z3 ?_|exact⟨⟩|(apply hκ.out;clear hκ κ))
    refine⟨l.length-(i+1),Ad6,i+1,?_⟩
    ((repeat' with_reducible refine And.intro ?_ ?_)<;>first|exact Xq|exact (HA)|exact Xs)
 ·have ah:i=l.length:=Ad6;subst ah;have hA:=hA.out;rw[Abt]at hA;rw[hA]
  repeat' (first|refine Z1 ?_|(refine Z8 ?_;intro κ hκ)|(refine Z4 ?_;clear hκ κ)|(refine Z2 ?_ ?_<;>intro h ab<;>try exact Xp)|refine Z3 ?_|exact⟨⟩|(apply hκ.out;clear hκ κ))
  first|exact⟨_,rfl,rfl,hK⟩|exact⟨_,rfl,rfl⟩
theorem Us (N N':List Tx)(hN:N<+:N')(l:List RItem)(cs:List AV)(idn idi:Nat)(hB:Bk N l cs)(F:List Ai)(fc:List AV)(idf:Nat)(hF:EL (PF N') F fc)(au:F.length<=1000)(y:St):
  ACalls Tryz.prog 80 [Bs N idn l idi cs,sl idf F.length fc] y fun r y'=>r=sc (.bool (F.any fun a=>Kj N' l (N'.idxOf a.pred)))/\Keep y y':=by
 have hE:EL (PI N') l cs:=hB.el.mono (PI.mono hN);have ao:=EL.length iU hF;have ai:=hB.len;have ak:=fun (k:Nat) y=>aO N' l cs (sl idn N.length (N.map str)) rfl idi k hE Ad6 y;unfold Bs;refine Z9 18 [.tmp 4] Tryz.func80 ?_
 repeat' (first|refine Z1 ?_|(refine Z8 ?_;intro κ hκ)|(refine Z4 ?_;clear hκ κ)|(refine Z2 ?_ ?_<;>intro h ac<;>try exact Xp)|refine Z3 ?_|exact⟨⟩|(apply hκ.out;clear hκ κ))
 refine Ad (fun m s y'=>∃(k:Nat),m=F.length-k/\k<=F.length/\s 2=ptr y.nobj 0/\s 7=sl idf F.length fc/\s 8=ic F.length/\s 9=ic k/\Keep y y'/\y.nobj<y'.nobj/\y'.obj y.nobj=[sl idn N.length (N.map str),sl idi l.length cs]/\Aec ((F.take k).any (fun a=>Kj N' l (N'.idxOf a.pred))=false)) F.length
  ⟨0,Ad6,Ad6,Ad8,by simp[upd,initS],Ad8,rfl,Xs,Aea,by rw[Ao],by simp[Aec]⟩ ?_
 rintro m s y' ⟨k,rfl,hk,h2,h7,h8,h9,hK,an,ob,hA⟩;have am:=hK.nobj;by_cases ah:k<F.length
 ·have aa:=List.getElem?_eq_getElem ah;obtain⟨ha,ids,r,hd⟩:=Uc hF aa;generalize F[k]=a at hd aa ha;have af:=ak (N'.idxOf a.pred);have HT:Aec (Kj N' l (N'.idxOf a.pred)=true->F.any (fun a=>Kj N' l (N'.idxOf a.pred))=true):=fun h=>xL aa h;have HF:Aec (Kj N' l (N'.idxOf a.pred)=false->(F.take (k+1)).any (fun a=>Kj N' l (N'.idxOf a.pred))=false):=fun h=>Yy hA.out aa h;clear aa hA;generalize N'.idxOf a.pred=ix at hd af HT HF
  repeat' (first|refine Z1 ?_|(refine Z8 ?_;intro κ hκ)|(refine Z4 ?_;clear hκ κ)|(refine Z2 ?_ ?_<;>intro h ac<;>try exact Xp)|(refine Z5 ?_;refine Xi (af _) ?_;rintro _ _ ⟨rfl,ae⟩;(have ad:=ae.nobj;have ab:=ae.obj;simp only[Ab,Aa]at ad ab;have ap:=((hK.new _).put hK.nobj _).trans ae))|refine Z3 ?_|exact⟨⟩|(apply hκ.out;clear hκ κ))
  ·exact⟨_,rfl,by rw[HT.out (by assumption)]⟩
  ·have HA:Aec ((F.take (k+1)).any (fun a=>Kj N' l (N'.idxOf a.pred))=false):=HF.out (by assumption);refine⟨F.length-(k+1),Ad6,k+1,?_⟩
   ((repeat' with_reducible refine And.intro ?_ ?_)<;>first|exact Xq|exact (HA)|exact (by rw[ab _ Ad6,Aj Ad6,Ae Ad6,ob])|exact Xs)
 ·have aj:k=F.length:=Ad6;subst aj;have hA:=hA.out;rw[Abt]at hA;rw[hA]
  repeat' (first|refine Z1 ?_|(refine Z8 ?_;intro κ hκ)|(refine Z4 ?_;clear hκ κ)|(refine Z2 ?_ ?_<;>intro h ac<;>try exact Xp)|refine Z3 ?_|exact⟨⟩|(apply hκ.out;clear hκ κ))
  first|exact⟨_,rfl,rfl,hK⟩|exact⟨_,rfl,rfl⟩
end Go.Proofs.YtmoeoppbmhfbpabGreatDoorJ
