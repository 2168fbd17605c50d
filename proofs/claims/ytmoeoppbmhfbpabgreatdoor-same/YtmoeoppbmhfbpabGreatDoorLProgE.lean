import Derived.Test.YtmoeoppbmhfbpabGreatDoorLGramD
set_option maxHeartbeats 16000000
set_option maxRecDepth 100000
set_option linter.all false
namespace Go.Proofs.YtmoeoppbmhfbpabGreatDoorL
open Go.Abs
variable {Bd:Nat}
def pZ (N:List Tx)(n:Tx):List Tx:=if n∈N then N else N++[n]
theorem bY (N:List Tx)(n:Tx):n∈pZ N n:=by unfold pZ;split<;>simp_all
theorem bX (N:List Tx)(n:Tx):N<+:pZ N n:=by
 unfold pZ;split
 ·exact List.prefix_refl _
 ·exact List.prefix_append _ _
theorem Kt {N N':List Tx}{n:Tx}(h:N<+:N')(hm:n∈N):N'.idxOf n=N.idxOf n:=by
 obtain⟨r,rfl⟩:=h;rw[List.idxOf_append,if_pos hm]
theorem bZ (N:List Tx)(n:Tx):(pZ N n).idxOf n=N.idxOf n:=by
 unfold pZ;split
 ·rfl
 ·rename_i h;rw[List.idxOf_append,if_neg h,List.idxOf_eq_length h];simp
theorem Q2:∀{N:List Tx} {i:Nat} {n:Tx},(∀a,a<i->N[a]?≠some n)->N[i]?=some n->N.idxOf n=i
 |[],i,n,h,hi=>by simp at hi
 |x::N,0,n,h,hi=>by simp at hi;subst hi;simp
 |x::N,i+1,n,h,hi=>by
  have h0:=h 0 Ajm;have ih:=Q2 (N:=N) (i:=i) (n:=n) (fun a ha=>by have:=h (a+1) Ajm;simpa using this) (by simpa using hi);have hx:(x==n)=false:=by
   simp at h0;simpa using h0
  rw[List.idxOf_cons,hx,ih];rfl
theorem Vb {N:List Tx}{n:Tx}(h:∀a,a<N.length->N[a]?≠some n):n∉N:=fun hm=>by
 obtain⟨i,hi,he⟩:=List.getElem_of_mem hm;exact h i hi (by rw[List.getElem?_eq_getElem hi,he])
theorem Abt {t:Tx}{o:Nat}{N:List Tx}{id:Nat}{s:Tx}{y:St}(n:Tx)(ht:t.length<=1000)(hR:RS Bd t o N id s y)(hl:N.length+1+s.length<=Bd+t.length):
  ACalls Tryz.prog 215 [ptr o 0,str n] y fun x y'=>∃id',x=sc (.int .i64 (N.idxOf n:Nat))/\Rs o y id y' id'/\RS Bd t o (pZ N n) id' s y':=by
 have ax:Ajs (RS Bd t o N id s y):=hR;obtain⟨ho,hn,af,hs,av⟩:=hR;have am:Ajs (OwnN y id N.length):=af;clear af;have a0:=Hm hs;unfold Le R9 at ho;refine Z9 38 [.tmp 4] Tryz.func215 ?_
 repeat' (first|refine Z1 ?_|(refine Z8 ?_;intro κ hκ)|(refine Z4 ?_;clear hκ κ)|(refine Z2 ?_ ?_<;>intro h ae<;>try exact Xp)|(refine Z6 ?_;intro idn yn aj ak ab aa ad ac)|refine Z3 ?_|exact⟨⟩|(apply hκ.out;clear hκ κ))
 refine Af (fun m s' y'=>∃i:Nat,m=N.length-i/\i<=N.length/\s' 0=ptr o 0/\s' 1=str n/\s' 10=sl id N.length (N.map str)/\s' 11=sc (.int .i64 N.length)/\s' 12=sc (.int .i64 i)/\y'=y/\Ajs (∀a,a<i->N[a]?≠some n)) N.length
  ⟨0,Ajm,Ajm,rfl,rfl,rfl,rfl,rfl,rfl,fun a ha=>Ajm⟩ ?_
 rintro m s' y' ⟨i,rfl,hi,h0,h1,a6,a5,a4,hy,ah⟩;subst hy;by_cases ao:i<N.length
 ·have ap:=E0 ao;have HX:Ajs (N[i]?=some N[i]):=List.getElem?_eq_getElem ao;generalize N[i]=w at ap HX
  repeat' (first|refine Z1 ?_|(refine Z8 ?_;intro κ hκ)|(refine Z4 ?_;clear hκ κ)|(refine Z2 ?_ ?_<;>intro h ae<;>try exact Xp)|(refine Z6 ?_;intro idn yn aj ak ab aa ad ac)|refine Z3 ?_|exact⟨⟩|(apply hκ.out;clear hκ κ))
  ·have hw:w=n:=by simpa using h
   subst hw;have ai:w∈N:=Agp HX.out;refine⟨_,rfl,id,by rw[Q2 ah.out HX.out],Rs.refl _ _ _,?_⟩;rw[pZ,if_pos ai];exact ax.out
  ·have hw:w≠n:=by simpa using h
   refine⟨N.length-(i+1),Ajm,i+1,rfl,Ajm,by simp,?_⟩;intro a ha;by_cases aw:a=i
   ·subst aw;rw[HX.out];simpa using hw
   ·exact ah.out a Ajm
 ·have hil:i=N.length:=Ajm;subst hil;have an:=Vb ah.out
  repeat' (first|refine Z1 ?_|(refine Z8 ?_;intro κ hκ)|(refine Z4 ?_;clear hκ κ)|(refine Z2 ?_ ?_<;>intro h ae<;>try exact Xp)|(refine Z6 ?_;intro idn yn aj ak ab aa ad ac)|refine Z3 ?_|exact⟨⟩|(apply hκ.out;clear hκ κ))
  refine nS (σ0:=y') (o:=o) (by first|exact Uf) am.out (by decide) (by rfl) (by simp) (by rfl) (by rfl) (by decide) Ajm Ajm ?_;intro id' y1 ay az ab aa ad hid;have au:o<y1.nobj:=Ajm;have a3:y1.obj o=[str t,sc (.int .i64 (t.length-s.length:Nat)),sl id N.length (N.map str)]:=by rw[ab];exact ho
  refine Z3 ?_
  repeat' (first|refine Z1 ?_|(refine Z8 ?_;intro κ hκ)|(refine Z4 ?_;clear hκ κ)|(refine Z2 ?_ ?_<;>intro h ae<;>try exact Xp)|(refine Z6 ?_;intro idn yn aj ak ab aa ad ac)|refine Z3 ?_|exact⟨⟩|(apply hκ.out;clear hκ κ))
  have hI:pZ N n=N++[n]:=by rw[pZ,if_neg an]
  have hx:N.idxOf n=N.length:=List.idxOf_eq_length an;refine⟨_,rfl,id',by rw[hx,show ((N.length+1:Nat):Int)-1=N.length by omega],⟨az.put _,hid⟩,?_⟩;rw[hI];refine⟨?_,au,?_,hs,by simp;omega⟩
  ·rw[Ak];simp[Le,R9]
  ·rcases ay with h|⟨j,q1,q2,q3,q4⟩
   ·exact .inl ⟨h.1,by have:=h.2;omega⟩
   ·exact .inr ⟨j,q1,q2,by rw[Sz,q3];simp,by simp⟩
theorem Uy {t:Tx}{o:Nat}{N:List Tx}{id:Nat}{s:Tx}{y:St}(ds:Tx){n:Tx}(ht:t.length<=1000)(hR:RS Bd t o N id s y)(hl:N.length+1+s.length<=Bd+t.length)(he:n=ds):
  ACalls Tryz.prog 215 [ptr o 0,str n] y fun x y'=>∃id',x=sc (.int .i64 (N.idxOf ds:Nat))/\Rs o y id y' id'/\RS Bd t o (pZ N ds) id' s y':=by
 subst he;exact Abt n ht hR hl
variable {Bd:Nat}
def smalls (s ds q:Tx):Prop:=ds.length<=6/\s=ds++q/\Ax Bq 6 s=(ds++(Ax Bq (6-ds.length) q).1,(Ax Bq (6-ds.length) q).2)
theorem lA (s:Tx):smalls s [] s:=⟨by simp,by simp,by simp⟩
theorem eZ {s ds q:Tx}{b:UInt8}(h:smalls s ds (b::q))(hl:ds.length<6)(hb:Bq b.toNat=true):smalls s (ds++[b]) q:=by
 obtain⟨h1,h2,h3⟩:=h;have e:6-ds.length=(6-(ds++[b]).length)+1:=by simp;omega
 rw[e,Ax,if_pos hb]at h3;exact⟨by simp;omega,by rw[h2];simp,by rw[h3];simp⟩
theorem Kk {s ds q:Tx}(h:smalls s ds q)(he:ds.length=6\/q=[]\/∃b r,q=b::r/\Bq b.toNat=false):Ax Bq 6 s=(ds,q):=by
 obtain⟨h1,-,h2⟩:=h;rw[h2];rcases he with he|rfl|⟨b,r,rfl,hb⟩
 ·rw[he];simp[Ax]
 ·cases hn:6-ds.length<;>simp[Ax]
 ·cases hn:6-ds.length<;>simp[Ax,hb]
theorem rI {t s:Tx}(h:s<:+t):t.drop (t.length-s.length)=s:=by
 obtain⟨p,rfl⟩:=h;simp
theorem vU {t s ds q:Tx}(h:s<:+t)(e:s=ds++q){k:Nat}(hk:k=ds.length):(t.drop (t.length-s.length)).take k=ds:=by
 rw[rI h,e,hk];simp
theorem Qp {t s ds q:Tx}(h:s<:+t)(e:s=ds++q){j k:Nat}(hj:j=t.length-s.length)(hk:k=ds.length):(t.drop j).take k=ds:=by
 subst hj;exact vU h e hk
theorem Zk {s ds q:Tx}(h:Ax Bq 6 s=(ds,q))(h0:ds.length=0):Em s= .bad s:=by
 have:ds=[]:=Agu h0;unfold Em;rw[h,if_pos this]
theorem Qv {s ds q:Tx}(h:Ax Bq 6 s=(ds,q))(h0:ds.length≠0):Em s= .got ds q:=by
 unfold Em;rw[h,if_neg (by intro e;simp at e;simp[e]at h0)]
theorem K8 {t:Tx}{o:Nat}{N:List Tx}{id:Nat}{s:Tx}{y:St}(ht:t.length<=1000)(hR:RS Bd t o N id s y):
  ACalls Tryz.prog 183 [ptr o 0] y fun x y'=>∃k N' id',x=tp [sc (.int .i64 k),sc (.bool (Em s).ok)]/\Rs o y id y' id'/\RS Bd t o N' id' (Em s).rest y'/\N<+:N'/\Rd.Val (Em s) fun n=>n∈N'/\k=(N'.idxOf n:Nat):=by
 have ae:Ajs (RS Bd t o N id s y):=hR;obtain⟨ho,hn,-,hs,-⟩:=hR;have ax:=Hm hs;generalize ah:sl id N.length (N.map str)=nm at ho;have ho':Ajs (y.obj o=Le t s nm):=ho;unfold Le R9 at ho;refine Z9 67 [.tmp 2,.tmp 3] Tryz.func183 ?_
 repeat' (first|refine Z1 ?_|(refine Z8 ?_;intro κ hκ)|(refine Z4 ?_;clear hκ κ)|(refine Z2 ?_ ?_<;>intro h aa<;>try exact Xp)|refine Z3 ?_|exact⟨⟩|(apply hκ.out;clear hκ κ))
 refine Af (fun m s' y'=>∃(q ds:Tx),m=6-ds.length/\s' 0=ptr o 0/\s' 4=sc (.int .i64 (t.length-s.length:Nat))/\KeepX o y y'/\y'.obj o=Le t q nm/\o<y'.nobj/\q<:+t/\s.length=ds.length+q.length/\Ajs (smalls s ds q)) 6
  ⟨s,[],rfl,rfl,rfl,KeepX.refl _ _,ho'.out,hn,hs,by simp,lA s⟩ ?_
 rintro m s' y' ⟨q,ds,rfl,h0,h4,hK,hO,ay,hq,am,hD⟩;clear ho;have an:=Hm hq;have ao:=Pd hq;have az:=hD.out.1;have HO:Ajs (y'.obj o=Le t q nm):=hO;unfold Le R9 at hO
 repeat' (first|refine Z1 ?_|(refine Z8 ?_;intro κ hκ)|(refine Z4 ?_;clear hκ κ)|(refine Z2 ?_ ?_<;>intro h aa<;>try exact Xp)|refine Z3 ?_|exact⟨⟩|(apply hκ.out;clear hκ κ))
 refine A9 Aj (fun _=>True) [30] [0,1,2,3,4,5,6,7,8,9,10,11,12,13,14,15,16,17,18,19,20,21,22,23,24,25,26,27,28] [29,30] Ajp (fun _ _ _ h=>h) ?_;intro κ hκ;cases q with
 |nil=>
  simp only[Ahi,Ah0,Agq]at hO ao an am;refine Z3 ?_
  repeat' (first|refine Z1 ?_|(refine Z8 ?_;intro κ hκ)|(refine Z4 ?_;clear hκ κ)|(refine Z2 ?_ ?_<;>intro h aa<;>try exact Xp)|(refine Z5 ?_;refine Xi (Pu _ _) ?_;rintro _ _ ⟨rfl,rfl⟩)|refine Z3 ?_|exact⟨⟩|(apply hκ.out;clear hκ κ))
  all_goals have ab:=Kk hD.out (.inr (.inl rfl))
  ·
   have ac:ds.length=0:=by simp at h;omega
   have hp:=Zk ab ac;have af:=hD.out.2.1;rw[Agu ac,Ahq]at af;refine⟨_,rfl,0,N,id,by rw[hp];rfl,Rs.ofX hK,?_,List.prefix_refl _,by rw[hp];trivial⟩;rw[hp];exact ae.out.stepX hK (by rw[ah];exact af ▸ HO.out) hs (Agi _)
  ·
   have ac:ds.length≠0:=by simp at h;omega
   have hp:=Qv ab ac;have ad:=ae.out.stepX hK (by rw[ah];exact HO.out) hq (by first|omega|(simp only[Ahj,Ahi];omega));have ap:=ae.out.len;have ak:Ajs _:=ad;have HD:Ajs _:=hD;have HP:Ajs _:=hp;have HK:Ajs _:=hK;clear ad hp hK ab;refine A9 Aj (fun _=>True) [10] [0,1,2,3,4,5,6,7,8,9] [10] Ajp (fun _ _ _ h=>h) ?_;intro κ hκ;refine Z3 ?_
   repeat' (first|refine Z1 ?_|(refine Z8 ?_;intro κ hκ)|(refine Z4 ?_;clear hκ κ)|(refine Z2 ?_ ?_<;>intro h aa<;>try exact Xp)|(refine Z5 ?_;refine Xi (Uy ds ht ak.out (by first|omega|(simp only[Ahj,Ahi];omega)) (by refine Qp hs HD.out.2.1 ?_ ?_<;>first|omega|(simp only[Ahj,Ahi,Agq];omega))) ?_;rintro _ _ ⟨id',rfl,ai,aj⟩)|refine Z3 ?_|exact⟨⟩|(apply hκ.out;clear hκ κ))
   refine⟨_,rfl,_,pZ N ds,id',by rw[HP.out];rfl,(Rs.ofX HK.out).trans ai,?_,bX _ _,?_⟩
   ·rw[HP.out];exact aj
   ·rw[HP.out];exact⟨bY _ _,by rw[bZ]⟩
 |cons b r=>
  simp only[Ahj,List.head?_cons]at hO ao an am;have av:=Qo hq;refine Z3 ?_
  repeat' (first|refine Z1 ?_|(refine Z8 ?_;intro κ hκ)|(refine Z4 ?_;clear hκ κ)|(refine Z2 ?_ ?_<;>intro h aa<;>try exact Xp)|(refine Z5 ?_;refine Xi (Pu _ _) ?_;rintro _ _ ⟨rfl,rfl⟩)|refine Z3 ?_|exact⟨⟩|(apply hκ.out;clear hκ κ))
  ·have aw:ds.length<6:=Ajm;have au:Bq b.toNat=true:=by assumption
   refine⟨6-(ds++[b]).length,by simp;omega,r,ds++[b],rfl,hK.put _,?_,av,by simp;omega,eZ hD.out aw au⟩;unfold Le R9;rw[show ((t.length-(r.length+1):Nat):Int)+1=((t.length-r.length:Nat):Int)by omega]
  ·have ab:=Kk hD.out (.inr (.inr ⟨b,r,rfl,by assumption⟩));have ac:ds.length=0:=by simp at h;omega
   have hp:=Zk ab ac;have af:=hD.out.2.1;rw[Agu ac,Ahq]at af;refine⟨_,rfl,0,N,id,by rw[hp];rfl,Rs.ofX hK,?_,List.prefix_refl _,by rw[hp];trivial⟩;rw[hp];exact ae.out.stepX hK (by rw[ah];exact af ▸ HO.out) hs (Agi _)
  ·have ab:=Kk hD.out (.inr (.inr ⟨b,r,rfl,by assumption⟩));have ac:ds.length≠0:=by simp at h;omega
   have hp:=Qv ab ac;have ad:=ae.out.stepX hK (by rw[ah];exact HO.out) hq (by first|omega|(simp only[Ahj,Ahi];omega));have ap:=ae.out.len;have ak:Ajs _:=ad;have HD:Ajs _:=hD;have HP:Ajs _:=hp;have HK:Ajs _:=hK;clear ad hp hK ab;refine A9 Aj (fun _=>True) [10] [0,1,2,3,4,5,6,7,8,9] [10] Ajp (fun _ _ _ h=>h) ?_;intro κ hκ;refine Z3 ?_
   repeat' (first|refine Z1 ?_|(refine Z8 ?_;intro κ hκ)|(refine Z4 ?_;clear hκ κ)|(refine Z2 ?_ ?_<;>intro h aa<;>try exact Xp)|(refine Z5 ?_;refine Xi (Uy ds ht ak.out (by first|omega|(simp only[Ahj,Ahi];omega)) (by refine Qp hs HD.out.2.1 ?_ ?_<;>first|omega|(simp only[Ahj,Ahi,Agq];omega))) ?_;rintro _ _ ⟨id',rfl,ai,aj⟩)|refine Z3 ?_|exact⟨⟩|(apply hκ.out;clear hκ κ))
   refine⟨_,rfl,_,pZ N ds,id',by rw[HP.out];rfl,(Rs.ofX HK.out).trans ai,?_,bX _ _,?_⟩
   ·rw[HP.out];exact aj
   ·rw[HP.out];exact⟨bY _ _,by rw[bZ]⟩
  ·exfalso;simp at h;omega
  ·have ab:=Kk hD.out (.inl Ajm);have ac:ds.length≠0:=by simp at h;omega
   have hp:=Qv ab ac;have ad:=ae.out.stepX hK (by rw[ah];exact HO.out) hq (by first|omega|(simp only[Ahj,Ahi];omega));have ap:=ae.out.len;have ak:Ajs _:=ad;have HD:Ajs _:=hD;have HP:Ajs _:=hp;have HK:Ajs _:=hK;clear ad hp hK ab;refine A9 Aj (fun _=>True) [10] [0,1,2,3,4,5,6,7,8,9] [10] Ajp (fun _ _ _ h=>h) ?_;intro κ hκ;refine Z3 ?_
   repeat' (first|refine Z1 ?_|(refine Z8 ?_;intro κ hκ)|(refine Z4 ?_;clear hκ κ)|(refine Z2 ?_ ?_<;>intro h aa<;>try exact Xp)|(refine Z5 ?_;refine Xi (Uy ds ht ak.out (by first|omega|(simp only[Ahj,Ahi];omega)) (by refine Qp hs HD.out.2.1 ?_ ?_<;>first|omega|(simp only[Ahj,Ahi,Agq];omega))) ?_;rintro _ _ ⟨id',rfl,ai,aj⟩)|refine Z3 ?_|exact⟨⟩|(apply hκ.out;clear hκ κ))
   refine⟨_,rfl,_,pZ N ds,id',by rw[HP.out];rfl,(Rs.ofX HK.out).trans ai,?_,bX _ _,?_⟩
   ·rw[HP.out];exact aj
   ·rw[HP.out];exact⟨bY _ _,by rw[bZ]⟩
variable {Bd:Nat}
theorem RS.new {t:Tx}{o:Nat}{N:List Tx}{id:Nat}{s:Tx}{y:St}(h:RS Bd t o N id s y)(cs:List AV):RS Bd t o N id s (y.new cs):=
 ⟨by rw[Ag h.lt];exact h.obj,by have:=h.lt;rw[Aa];omega,h.own,h.suf,h.len⟩
theorem RS.put {t:Tx}{o:Nat}{N:List Tx}{id:Nat}{s:Tx}{y:St}(h:RS Bd t o N id s y){p:Nat}(hp:o<p)(cs:List AV):RS Bd t o N id s (y.put p cs):=
 ⟨by rw[Ai hp];exact h.obj,h.lt,h.own,h.suf,h.len⟩
theorem RS.lay {t:Tx}{o:Nat}{N:List Tx}{id:Nat}{s:Tx}{y:St}(h:RS Bd t o N id s y)(n:Nat):RS Bd t o N id s (y.lay n):=by
 refine⟨h.obj,h.lt,?_,h.suf,h.len⟩;rcases h.own with e|⟨k,h1,h2,h3,h4⟩
 ·exact .inl e
 ·exact .inr ⟨k,h1,by rw[J9];omega,by rw[S2 h2];exact h3,h4⟩
theorem Rs.new {o:Nat}{a b:St}{i j:Nat}(h:Rs o a i b j)(cs:List AV):Rs o a i (b.new cs) j:=⟨h.keep.new cs,h.nid⟩
theorem Rs.lay {o:Nat}{a b:St}{i j:Nat}(h:Rs o a i b j)(n:Nat):Rs o a i (b.lay n) j:=⟨h.keep.lay n,h.nid⟩
theorem KeepR.putN {o id p:Nat}{y y':St}(h:KeepR o id y y')(hp:y.nobj<=p)(cs:List AV):KeepR o id y (y'.put p cs):=
 ⟨h.nobj,fun q hq aa=>by simp[St.put];rw[if_neg Ajm];exact h.obj q hq aa,fun q hq aa=>by simp[St.put];rw[if_neg Ajm];exact h.ver q hq aa,h.ntop,h.top⟩
theorem Rs.put {o p:Nat}{a b:St}{i j:Nat}(h:Rs o a i b j)(hp:a.nobj<=p)(cs:List AV):Rs o a i (b.put p cs) j:=⟨h.keep.putN hp cs,h.nid⟩
theorem Rs.transX {o:Nat}{a b c:St}{i j:Nat}(h:Rs o a i b j)(k:KeepX o b c):Rs o a i c j:=h.trans (Rs.ofX k)
theorem KeepR.x {o:Nat}{a b:St}(h:KeepR o 0 a b):KeepX o a b:=⟨h.nobj,h.obj,h.ver,h.ntop,fun k hk=>h.top k hk Ajm⟩
theorem Own.keepX {o:Nat}{σ0 y y':St}{id n:Nat}(h:Own σ0 y id n)(k:KeepX o y y'):Own σ0 y' id n:=by
 rcases h with h|⟨j,h1,h2,h3,h4,h5⟩
 ·exact .inl h
 ·exact .inr ⟨j,h1,h2,Agk h3 k.ntop,(k.top j h3).trans h4,h5⟩
theorem Own.made' {σ0 b:St}(h:σ0.ntop<=b.ntop){n:Nat}(hn:0<n):Own σ0 (b.lay n) (b.ntop+2) n:=.inr ⟨b.ntop,rfl,h,by simp[St.lay],by simp[St.lay],hn⟩
theorem RS.app {t:Tx}{o:Nat}{N:List Tx}{id ids:Nat}{r:Tx}{X Y:St}(h:RS Bd t o N id r X)(ab:Y.obj=X.obj)(aa:Y.nobj=X.nobj)(ac:X.ntop<Y.ntop)(etop:∀k,k<X.ntop->k+2≠ids->Y.top k=X.top k)(ad:id=1\/id≠ids):RS Bd t o N id r Y:=by
 refine⟨by rw[ab];exact h.obj,by rw[aa];exact h.lt,?_,h.suf,h.len⟩;rcases h.own with e|⟨k,h1,h2,h3,h4⟩
 ·exact .inl e
 ·exact .inr ⟨k,h1,Ajm,(etop k h2 Ajm).trans h3,h4⟩
theorem OwnN.apart {y X:St}{id ids n m:Nat}(h:OwnN y id n)(g:Own y X ids m):id=1\/id≠ids:=by
 rcases h with⟨rfl,-⟩|⟨k,h1,h2,-⟩
 ·exact .inl rfl
 ·rcases g with⟨rfl,-⟩|⟨j,g1,g2,-⟩<;>omega
theorem J6 {c:Int}{q:Tx}(h:(Az c q).ok=false):Az c q= .bad q:=by
 cases q with
 |nil=>rfl
 |cons b r=>
  unfold Az at h⊢;dsimp only at h⊢;split at h
  ·cases h
  ·rename_i hb;rw[if_neg hb]
abbrev D4 (s:Tx):Rd (List Tx):=Sc Cj 2 s
theorem fK {t:Tx}{o:Nat}{N:List Tx}{id:Nat}{s:Tx}{y:St}(ht:t.length<=1000)(hR:RS Bd t o N id s y):
  ACalls Tryz.prog 184 [ptr o 0] y fun x y'=>∃n ids c,x=tp [sl ids n c,sc (.bool (D4 s).ok)]/\KeepX o y y'/\RS Bd t o N id (D4 s).rest y'/\Rd.Val (D4 s) fun ts=>n=ts.length/\c=Aw ts:=by
 have hn:=hR.lt;refine Z9 37 [.tmp 2,.tmp 3] Tryz.func184 ?_
 repeat' (first|refine Z1 ?_|(refine Z8 ?_;intro κ hκ)|(refine Z4 ?_;clear hκ κ)|(refine Z2 ?_ ?_<;>intro h ae<;>try exact Xp)|(refine Z6 ?_;intro idn yn am an ac ab ad aa)|(refine Z5 ?_;refine Xi (Ur ht hR) ?_;rintro _ _ ⟨v,k,rfl,au,ak,aj⟩;(have ai:=au.nobj))|refine Z3 ?_|exact⟨⟩|(apply hκ.out;clear hκ κ))
 ·rename_i y1;obtain⟨e,he⟩:=Rd.ok_false h;have hp:=sepI.none (n:=2) he;rw[he]at ak;refine⟨_,rfl,0,1,[],by rw[D4,hp];rfl,by repeat (first|exact KeepX.refl _ _|(with_reducible assumption)|(with_reducible apply KeepX.putN;rotate_left;(first|omega|(simp only[Aa,Ab,Ah,As]at*;omega)))|(with_reducible apply KeepX.new)|(with_reducible apply KeepX.lay)|(with_reducible refine KeepX.trans ?_ (by assumption))),?_,by rw[D4,hp];trivial⟩;rw[D4,hp]
  repeat (first|(with_reducible assumption)|(with_reducible apply RS.put;rotate_left;(first|omega|(simp only[Aa,Ab,Ah,As]at*;omega)))|(with_reducible apply RS.new)|(with_reducible apply RS.lay)|assumption)
 ·rename_i y1;obtain⟨w,q,he⟩:=Rd.ok_true h;have hp:=sepI.first (n:=2) he;rw[he]at ak aj;have aj:Al w=(v,k):=aj;have ak:RS Bd t o N id q y1:=ak;have hc:[sc (.bool v),sc (.int .i64 k)]=Aw [w]:=by simp[Aw,Ri,aj]
  rw[hc]
  refine Af (fun m s' y'=>∃(ts:List Tx) (q:Tx) (ids:Nat),m=3-ts.length/\s' 0=ptr o 0/\s' 6=sl ids ts.length (Aw ts)/\KeepX o y y'/\RS Bd t o N id q y'/\Own y y' ids ts.length/\ts.length<=3/\Ajs (sepI Cj 2 s ts q)) 2
   ⟨[w],q,_,rfl,rfl,rfl,by repeat (first|exact KeepX.refl _ _|(with_reducible assumption)|(with_reducible apply KeepX.putN;rotate_left;(first|omega|(simp only[Aa,Ab,Ah,As]at*;omega)))|(with_reducible apply KeepX.new)|(with_reducible apply KeepX.lay)|(with_reducible refine KeepX.trans ?_ (by assumption))),by repeat (first|(with_reducible assumption)|(with_reducible apply RS.put;rotate_left;(first|omega|(simp only[Aa,Ab,Ah,As]at*;omega)))|(with_reducible apply RS.new)|(with_reducible apply RS.lay)|assumption),?_,by simp,hp⟩ ?_
  ·exact Own.made' (b:=(y1.new _).put _ _) au.ntop (by decide)
  clear au ak aj ai hc hp he h;rintro m s' y' ⟨ts,q,ids,rfl,h0,h6,hK,aw,hO,a7,hS⟩;have a0:=Eu ts;have a5:=hK.nobj;by_cases a6:ts.length<3
  ·repeat' (first|refine Z1 ?_|(refine Z8 ?_;intro κ hκ)|(refine Z4 ?_;clear hκ κ)|(refine Z2 ?_ ?_<;>intro h ae<;>try exact Xp)|(refine Z6 ?_;intro idn yn am an ac ab ad aa)|(refine Z5 ?_;first|(refine Xi (Ir ht (by assumption)) ?_;rintro _ _ ⟨rfl,ap,av⟩;(have ai:=ap.nobj))|(refine Xi (Ur ht (by assumption)) ?_;rintro _ _ ⟨v,k,rfl,ay,ah,af⟩;(have az:=ay.nobj)))|refine Z3 ?_|exact⟨⟩|(apply hκ.out;clear hκ κ))
   ·rename_i y2 ao _ y3;obtain⟨u,r,hb⟩:=Rd.ok_true ao;rw[hb]at h ah;obtain⟨e,he⟩:=Rd.ok_false h;rw[show (Rd.got u r).rest=r from rfl]at he ah;have hp:=hS.out.fail Ajm hb he;rw[he]at ah;refine⟨_,rfl,0,1,[],by rw[D4,hp];rfl,by repeat (first|exact KeepX.refl _ _|(with_reducible assumption)|(with_reducible apply KeepX.putN;rotate_left;(first|omega|(simp only[Aa,Ab,Ah,As]at*;omega)))|(with_reducible apply KeepX.new)|(with_reducible apply KeepX.lay)|(with_reducible refine KeepX.trans ?_ (by assumption))),?_,by rw[D4,hp];trivial⟩;rw[D4,hp]
    repeat (first|(with_reducible assumption)|(with_reducible apply RS.put;rotate_left;(first|omega|(simp only[Aa,Ab,Ah,As]at*;omega)))|(with_reducible apply RS.new)|(with_reducible apply RS.lay)|assumption)
   ·rename_i y2 ao _ y3;obtain⟨u,r,hb⟩:=Rd.ok_true ao;rw[hb]at h ah af;obtain⟨x,r2,he⟩:=Rd.ok_true h;rw[show (Rd.got u r).rest=r from rfl]at he ah af;have hp:=hS.out.next Ajm hb he;rw[he]at ah af;have af:Al x=(v,k):=af;have a4:KeepX o y ((y3.new [sc (.bool false),sc (.int .i64 0)]).put y3.nobj [sc (.bool v),sc (.int .i64 k)]):=by repeat (first|exact KeepX.refl _ _|(with_reducible assumption)|(with_reducible apply KeepX.putN;rotate_left;(first|omega|(simp only[Aa,Ab,Ah,As]at*;omega)))|(with_reducible apply KeepX.new)|(with_reducible apply KeepX.lay)|(with_reducible refine KeepX.trans ?_ (by assumption)))
    have ax:Own y ((y3.new [sc (.bool false),sc (.int .i64 0)]).put y3.nobj [sc (.bool v),sc (.int .i64 k)]) ids ts.length:=Own.put (Own.new (Own.keepX (Own.keepX hO ap) ay) _) _ _;have a3:RS Bd t o N id r2 ((y3.new [sc (.bool false),sc (.int .i64 0)]).put y3.nobj [sc (.bool v),sc (.int .i64 k)]):=by repeat (first|(with_reducible assumption)|(with_reducible apply RS.put;rotate_left;(first|omega|(simp only[Aa,Ab,Ah,As]at*;omega)))|(with_reducible apply RS.new)|(with_reducible apply RS.lay)|assumption)
    refine Nf (o:=o) (idn:=0) (σ0:=y) (by first|exact Eb) (a4.kr 0) ax (by decide) (by rfl) a0 (by rfl) (by rfl) (by decide) Ajm Ajm ?_;intro idn yn am an ac ab ad aa etop hid;refine Z3 ?_
    repeat' (first|refine Z1 ?_|(refine Z8 ?_;intro κ hκ)|(refine Z4 ?_;clear hκ κ)|(refine Z2 ?_ ?_<;>intro h ae<;>try exact Xp)|(refine Z6 ?_;intro idn yn am an ac ab ad aa)|refine Z3 ?_|exact⟨⟩|(apply hκ.out;clear hκ κ))
    refine⟨3-(ts++[x]).length,by simp;omega,ts++[x],r2,idn,rfl,?_,an.x,?_,by simpa using am,by simp;omega,hp⟩
    ·rw[eM,Ri,af];simp
    ·exact a3.app ac ab aa etop (hR.own.apart ax)
   ·have hp:=hS.out.stop h;rename_i y2;rw[J6 h]at av;refine⟨_,rfl,_,ids,_,by rw[D4,hp];rfl,by repeat (first|exact KeepX.refl _ _|(with_reducible assumption)|(with_reducible apply KeepX.putN;rotate_left;(first|omega|(simp only[Aa,Ab,Ah,As]at*;omega)))|(with_reducible apply KeepX.new)|(with_reducible apply KeepX.lay)|(with_reducible refine KeepX.trans ?_ (by assumption))),?_,by rw[D4,hp];exact⟨rfl,rfl⟩⟩;rw[D4,hp]
    repeat (first|(with_reducible assumption)|(with_reducible apply RS.put;rotate_left;(first|omega|(simp only[Aa,Ab,Ah,As]at*;omega)))|(with_reducible apply RS.new)|(with_reducible apply RS.lay)|assumption)
  ·repeat' (first|refine Z1 ?_|(refine Z8 ?_;intro κ hκ)|(refine Z4 ?_;clear hκ κ)|(refine Z2 ?_ ?_<;>intro h ae<;>try exact Xp)|(refine Z6 ?_;intro idn yn am an ac ab ad aa)|(refine Z5 ?_;refine Xi (Ir ht (by assumption)) ?_;rintro _ _ ⟨rfl,ap,av⟩)|refine Z3 ?_|exact⟨⟩|(apply hκ.out;clear hκ κ))
   have hp:=hS.out.full Ajm
   first
   |exact⟨_,rfl,_,ids,_,by rw[D4,hp];rfl,hK,by rw[D4,hp];exact aw,by rw[D4,hp];exact⟨rfl,rfl⟩⟩
   |exact⟨_,rfl,_,ids,_,by rw[D4,hp];rfl,by rw[D4,hp];exact aw,by rw[D4,hp];exact⟨rfl,rfl⟩⟩
end Go.Proofs.YtmoeoppbmhfbpabGreatDoorL
