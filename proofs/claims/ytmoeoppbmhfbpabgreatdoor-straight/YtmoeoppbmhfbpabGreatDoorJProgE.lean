import Derived.Test.YtmoeoppbmhfbpabGreatDoorJProgC
set_option maxHeartbeats 16000000
set_option maxRecDepth 100000
set_option linter.all false
namespace Go.Proofs.YtmoeoppbmhfbpabGreatDoorJ
open Go.Abs
variable {Bd:Nat}
def kS (N:List Tx)(n:Tx):List Tx:=if n∈N then N else N++[n]
theorem Yf (N:List Tx)(n:Tx):n∈kS N n:=by unfold kS;split<;>simp_all
theorem Ye (N:List Tx)(n:Tx):N<+:kS N n:=by
 unfold kS;split
 ·exact List.prefix_refl _
 ·exact List.prefix_append _ _
theorem Jq {N N':List Tx}{n:Tx}(h:N<+:N')(hm:n∈N):N'.idxOf n=N.idxOf n:=by
 obtain⟨r,rfl⟩:=h;rw[List.idxOf_append,if_pos hm]
theorem Yg (N:List Tx)(n:Tx):(kS N n).idxOf n=N.idxOf n:=by
 unfold kS;split
 ·rfl
 ·rename_i h;rw[List.idxOf_append,if_neg h,List.idxOf_eq_length h];simp
theorem Ov:∀{N:List Tx} {i:Nat} {n:Tx},(∀a,a<i->N[a]?≠some n)->N[i]?=some n->N.idxOf n=i
 |[],i,n,h,hi=>by simp at hi
 |x::N,0,n,h,hi=>by simp at hi;subst hi;simp
 |x::N,i+1,n,h,hi=>by
  have h0:=h 0 Ad6;have ih:=Ov (N:=N) (i:=i) (n:=n) (fun a ha=>by have:=h (a+1) Ad6;simpa using this) (by simpa using hi);have hx:(x==n)=false:=by
   simp at h0;simpa using h0
  rw[List.idxOf_cons,hx,ih];rfl
theorem Sr {N:List Tx}{n:Tx}(h:∀a,a<N.length->N[a]?≠some n):n∉N:=fun hm=>by
 obtain⟨i,hi,he⟩:=List.getElem_of_mem hm;exact h i hi (by rw[List.getElem?_eq_getElem hi,he])
theorem uP {t:Tx}{o:Nat}{N:List Tx}{id:Nat}{s:Tx}{y:St}(n:Tx)(ht:t.length<=1000)(hR:RS Bd t o N id s y)(hl:N.length+1+s.length<=Bd+t.length):
  ACalls Tryz.prog 215 [ptr o 0,str n] y fun x y'=>∃id',x=sc (.int .i64 (N.idxOf n:Nat))/\Rs o y id y' id'/\RS Bd t o (kS N n) id' s y':=by
 have ax:Aec (RS Bd t o N id s y):=hR;obtain⟨ho,hn,af,hs,au⟩:=hR;have am:Aec (OwnN y id N.length):=af;clear af;have a0:=Gp hs;unfold J6 P6 at ho;refine Z9 38 [.tmp 4] Tryz.func215 ?_
 repeat' (first|refine Z1 ?_|(refine Z8 ?_;intro κ hκ)|(refine Z4 ?_;clear hκ κ)|(refine Z2 ?_ ?_<;>intro h ae<;>try exact Xp)|(refine Z6 ?_;intro idn yn aj ak ab aa ad ac)|refine Z3 ?_|exact⟨⟩|(apply hκ.out;clear hκ κ))
 refine Ad (fun m s' y'=>∃i:Nat,m=N.length-i/\i<=N.length/\s' 0=ptr o 0/\s' 1=str n/\s' 10=sl id N.length (N.map str)/\s' 11=sc (.int .i64 N.length)/\s' 12=sc (.int .i64 i)/\y'=y/\Aec (∀a,a<i->N[a]?≠some n)) N.length
  ⟨0,Ad6,Ad6,rfl,rfl,rfl,rfl,rfl,rfl,fun a ha=>Ad6⟩ ?_
 rintro m s' y' ⟨i,rfl,hi,h0,h1,a6,a5,a4,hy,ah⟩;subst hy;by_cases an:i<N.length
 ·have ao:=Fb an;have HX:Aec (N[i]?=some N[i]):=List.getElem?_eq_getElem an;generalize N[i]=w at ao HX
  repeat' (first|refine Z1 ?_|(refine Z8 ?_;intro κ hκ)|(refine Z4 ?_;clear hκ κ)|(refine Z2 ?_ ?_<;>intro h ae<;>try exact Xp)|(refine Z6 ?_;intro idn yn aj ak ab aa ad ac)|refine Z3 ?_|exact⟨⟩|(apply hκ.out;clear hκ κ))
  ·have hw:w=n:=by simpa using h
   subst hw;have ai:w∈N:=Abm HX.out;refine⟨_,rfl,id,by rw[Ov ah.out HX.out],Rs.refl _ _ _,?_⟩;rw[kS,if_pos ai];exact ax.out
  ·have hw:w≠n:=by simpa using h
   refine⟨N.length-(i+1),Ad6,i+1,rfl,Ad6,by simp,?_⟩;intro a ha;by_cases aw:a=i
   ·subst aw;rw[HX.out];simpa using hw
   ·exact ah.out a Ad6
 ·have av:i=N.length:=Ad6;subst av;have hnm:=Sr ah.out
  repeat' (first|refine Z1 ?_|(refine Z8 ?_;intro κ hκ)|(refine Z4 ?_;clear hκ κ)|(refine Z2 ?_ ?_<;>intro h ae<;>try exact Xp)|(refine Z6 ?_;intro idn yn aj ak ab aa ad ac)|refine Z3 ?_|exact⟨⟩|(apply hκ.out;clear hκ κ))
  refine iS (σ0:=y') (o:=o) (by first|exact Rt) am.out (by decide) (by rfl) (by simp) (by rfl) (by rfl) (by decide) Ad6 Ad6 ?_;intro id' y1 ay az ab aa ad hid;have ap:o<y1.nobj:=Ad6;have a3:y1.obj o=[str t,sc (.int .i64 (t.length-s.length:Nat)),sl id N.length (N.map str)]:=by rw[ab];exact ho
  refine Z3 ?_
  repeat' (first|refine Z1 ?_|(refine Z8 ?_;intro κ hκ)|(refine Z4 ?_;clear hκ κ)|(refine Z2 ?_ ?_<;>intro h ae<;>try exact Xp)|(refine Z6 ?_;intro idn yn aj ak ab aa ad ac)|refine Z3 ?_|exact⟨⟩|(apply hκ.out;clear hκ κ))
  have hI:kS N n=N++[n]:=by rw[kS,if_neg hnm]
  have hx:N.idxOf n=N.length:=List.idxOf_eq_length hnm;refine⟨_,rfl,id',by rw[hx,show ((N.length+1:Nat):Int)-1=N.length by omega],⟨az.put _,hid⟩,?_⟩;rw[hI];refine⟨?_,ap,?_,hs,by simp;omega⟩
  ·rw[Ak];simp[J6,P6]
  ·rcases ay with h|⟨j,q1,q2,q3,q4⟩
   ·exact .inl ⟨h.1,by have:=h.2;omega⟩
   ·exact .inr ⟨j,q1,q2,by rw[Qo,q3];simp,by simp⟩
theorem R9 {t:Tx}{o:Nat}{N:List Tx}{id:Nat}{s:Tx}{y:St}(ds:Tx){n:Tx}(ht:t.length<=1000)(hR:RS Bd t o N id s y)(hl:N.length+1+s.length<=Bd+t.length)(he:n=ds):
  ACalls Tryz.prog 215 [ptr o 0,str n] y fun x y'=>∃id',x=sc (.int .i64 (N.idxOf ds:Nat))/\Rs o y id y' id'/\RS Bd t o (kS N ds) id' s y':=by
 subst he;exact uP n ht hR hl
variable {Bd:Nat}
def smalls (s ds q:Tx):Prop:=ds.length<=6/\s=ds++q/\As Be 6 s=(ds++(As Be (6-ds.length) q).1,(As Be (6-ds.length) q).2)
theorem fB (s:Tx):smalls s [] s:=⟨by simp,by simp,by simp⟩
theorem aL {s ds q:Tx}{b:UInt8}(h:smalls s ds (b::q))(hl:ds.length<6)(hb:Be b.toNat=true):smalls s (ds++[b]) q:=by
 obtain⟨h1,h2,h3⟩:=h;have e:6-ds.length=(6-(ds++[b]).length)+1:=by simp;omega
 rw[e,As,if_pos hb]at h3;exact⟨by simp;omega,by rw[h2];simp,by rw[h3];simp⟩
theorem Jl {s ds q:Tx}(h:smalls s ds q)(he:ds.length=6\/q=[]\/∃b r,q=b::r/\Be b.toNat=false):As Be 6 s=(ds,q):=by
 obtain⟨h1,-,h2⟩:=h;rw[h2];rcases he with he|rfl|⟨b,r,rfl,hb⟩
 ·rw[he];simp[As]
 ·cases hn:6-ds.length<;>simp[As]
 ·cases hn:6-ds.length<;>simp[As,hb]
theorem mD {t s:Tx}(h:s<:+t):t.drop (t.length-s.length)=s:=by
 obtain⟨p,rfl⟩:=h;simp
theorem pW {t s ds q:Tx}(h:s<:+t)(e:s=ds++q){k:Nat}(hk:k=ds.length):(t.drop (t.length-s.length)).take k=ds:=by
 rw[mD h,e,hk];simp
theorem Od {t s ds q:Tx}(h:s<:+t)(e:s=ds++q){j k:Nat}(hj:j=t.length-s.length)(hk:k=ds.length):(t.drop j).take k=ds:=by
 subst hj;exact pW h e hk
theorem V8 {s ds q:Tx}(h:As Be 6 s=(ds,q))(h0:ds.length=0):El s= .bad s:=by
 have:ds=[]:=Abq h0;unfold El;rw[h,if_pos this]
theorem Ol {s ds q:Tx}(h:As Be 6 s=(ds,q))(h0:ds.length≠0):El s= .got ds q:=by
 unfold El;rw[h,if_neg (by intro e;simp at e;simp[e]at h0)]
theorem J0 {t:Tx}{o:Nat}{N:List Tx}{id:Nat}{s:Tx}{y:St}(ht:t.length<=1000)(hR:RS Bd t o N id s y):
  ACalls Tryz.prog 183 [ptr o 0] y fun x y'=>∃k N' id',x=tp [sc (.int .i64 k),sc (.bool (El s).ok)]/\Rs o y id y' id'/\RS Bd t o N' id' (El s).rest y'/\N<+:N'/\Rd.Val (El s) fun n=>n∈N'/\k=(N'.idxOf n:Nat):=by
 have ae:Aec (RS Bd t o N id s y):=hR;obtain⟨ho,hn,-,hs,-⟩:=hR;have ax:=Gp hs;generalize hnm:sl id N.length (N.map str)=nm at ho;have av:Aec (y.obj o=J6 t s nm):=ho;unfold J6 P6 at ho;refine Z9 67 [.tmp 2,.tmp 3] Tryz.func183 ?_
 repeat' (first|refine Z1 ?_|(refine Z8 ?_;intro κ hκ)|(refine Z4 ?_;clear hκ κ)|(refine Z2 ?_ ?_<;>intro h aa<;>try exact Xp)|refine Z3 ?_|exact⟨⟩|(apply hκ.out;clear hκ κ))
 refine Ad (fun m s' y'=>∃(q ds:Tx),m=6-ds.length/\s' 0=ptr o 0/\s' 4=sc (.int .i64 (t.length-s.length:Nat))/\KeepX o y y'/\y'.obj o=J6 t q nm/\o<y'.nobj/\q<:+t/\s.length=ds.length+q.length/\Aec (smalls s ds q)) 6
  ⟨s,[],rfl,rfl,rfl,KeepX.refl _ _,av.out,hn,hs,by simp,fB s⟩ ?_
 rintro m s' y' ⟨q,ds,rfl,h0,h4,hK,hO,ay,hq,ak,hD⟩;clear ho;have am:=Gp hq;have an:=Mt hq;have az:=hD.out.1;have HO:Aec (y'.obj o=J6 t q nm):=hO;unfold J6 P6 at hO
 repeat' (first|refine Z1 ?_|(refine Z8 ?_;intro κ hκ)|(refine Z4 ?_;clear hκ κ)|(refine Z2 ?_ ?_<;>intro h aa<;>try exact Xp)|refine Z3 ?_|exact⟨⟩|(apply hκ.out;clear hκ κ))
 refine A1 Ah (fun _=>True) [30] [0,1,2,3,4,5,6,7,8,9,10,11,12,13,14,15,16,17,18,19,20,21,22,23,24,25,26,27,28] [29,30] Ad9 (fun _ _ _ h=>h) ?_;intro κ hκ;cases q with
 |nil=>
  simp only[Ace,Acw,Abn]at hO an am ak;refine Z3 ?_
  repeat' (first|refine Z1 ?_|(refine Z8 ?_;intro κ hκ)|(refine Z4 ?_;clear hκ κ)|(refine Z2 ?_ ?_<;>intro h aa<;>try exact Xp)|(refine Z5 ?_;refine Xi (Nl _ _) ?_;rintro _ _ ⟨rfl,rfl⟩)|refine Z3 ?_|exact⟨⟩|(apply hκ.out;clear hκ κ))
  all_goals have ab:=Jl hD.out (.inr (.inl rfl))
  ·
   have ac:ds.length=0:=by simp at h;omega
   have hp:=V8 ab ac;have af:=hD.out.2.1;rw[Abq ac,Acm]at af;refine⟨_,rfl,0,N,id,by rw[hp];rfl,Rs.ofX hK,?_,List.prefix_refl _,by rw[hp];trivial⟩;rw[hp];exact ae.out.stepX hK (by rw[hnm];exact af ▸ HO.out) hs (Abf _)
  ·
   have ac:ds.length≠0:=by simp at h;omega
   have hp:=Ol ab ac;have ad:=ae.out.stepX hK (by rw[hnm];exact HO.out) hq (by first|omega|(simp only[Acf,Ace];omega));have ao:=ae.out.len;have aj:Aec _:=ad;have HD:Aec _:=hD;have HP:Aec _:=hp;have HK:Aec _:=hK;clear ad hp hK ab;refine A1 Ah (fun _=>True) [10] [0,1,2,3,4,5,6,7,8,9] [10] Ad9 (fun _ _ _ h=>h) ?_;intro κ hκ;refine Z3 ?_
   repeat' (first|refine Z1 ?_|(refine Z8 ?_;intro κ hκ)|(refine Z4 ?_;clear hκ κ)|(refine Z2 ?_ ?_<;>intro h aa<;>try exact Xp)|(refine Z5 ?_;refine Xi (R9 ds ht aj.out (by first|omega|(simp only[Acf,Ace];omega)) (by refine Od hs HD.out.2.1 ?_ ?_<;>first|omega|(simp only[Acf,Ace,Abn];omega))) ?_;rintro _ _ ⟨id',rfl,ah,ai⟩)|refine Z3 ?_|exact⟨⟩|(apply hκ.out;clear hκ κ))
   refine⟨_,rfl,_,kS N ds,id',by rw[HP.out];rfl,(Rs.ofX HK.out).trans ah,?_,Ye _ _,?_⟩
   ·rw[HP.out];exact ai
   ·rw[HP.out];exact⟨Yf _ _,by rw[Yg]⟩
 |cons b r=>
  simp only[Acf,List.head?_cons]at hO an am ak;have au:=Oc hq;refine Z3 ?_
  repeat' (first|refine Z1 ?_|(refine Z8 ?_;intro κ hκ)|(refine Z4 ?_;clear hκ κ)|(refine Z2 ?_ ?_<;>intro h aa<;>try exact Xp)|(refine Z5 ?_;refine Xi (Nl _ _) ?_;rintro _ _ ⟨rfl,rfl⟩)|refine Z3 ?_|exact⟨⟩|(apply hκ.out;clear hκ κ))
  ·have aw:ds.length<6:=Ad6;have ap:Be b.toNat=true:=by assumption
   refine⟨6-(ds++[b]).length,by simp;omega,r,ds++[b],rfl,hK.put _,?_,au,by simp;omega,aL hD.out aw ap⟩;unfold J6 P6;rw[show ((t.length-(r.length+1):Nat):Int)+1=((t.length-r.length:Nat):Int)by omega]
  ·have ab:=Jl hD.out (.inr (.inr ⟨b,r,rfl,by assumption⟩));have ac:ds.length=0:=by simp at h;omega
   have hp:=V8 ab ac;have af:=hD.out.2.1;rw[Abq ac,Acm]at af;refine⟨_,rfl,0,N,id,by rw[hp];rfl,Rs.ofX hK,?_,List.prefix_refl _,by rw[hp];trivial⟩;rw[hp];exact ae.out.stepX hK (by rw[hnm];exact af ▸ HO.out) hs (Abf _)
  ·have ab:=Jl hD.out (.inr (.inr ⟨b,r,rfl,by assumption⟩));have ac:ds.length≠0:=by simp at h;omega
   have hp:=Ol ab ac;have ad:=ae.out.stepX hK (by rw[hnm];exact HO.out) hq (by first|omega|(simp only[Acf,Ace];omega));have ao:=ae.out.len;have aj:Aec _:=ad;have HD:Aec _:=hD;have HP:Aec _:=hp;have HK:Aec _:=hK;clear ad hp hK ab;refine A1 Ah (fun _=>True) [10] [0,1,2,3,4,5,6,7,8,9] [10] Ad9 (fun _ _ _ h=>h) ?_;intro κ hκ;refine Z3 ?_
   repeat' (first|refine Z1 ?_|(refine Z8 ?_;intro κ hκ)|(refine Z4 ?_;clear hκ κ)|(refine Z2 ?_ ?_<;>intro h aa<;>try exact Xp)|(refine Z5 ?_;refine Xi (R9 ds ht aj.out (by first|omega|(simp only[Acf,Ace];omega)) (by refine Od hs HD.out.2.1 ?_ ?_<;>first|omega|(simp only[Acf,Ace,Abn];omega))) ?_;rintro _ _ ⟨id',rfl,ah,ai⟩)|refine Z3 ?_|exact⟨⟩|(apply hκ.out;clear hκ κ))
   refine⟨_,rfl,_,kS N ds,id',by rw[HP.out];rfl,(Rs.ofX HK.out).trans ah,?_,Ye _ _,?_⟩
   ·rw[HP.out];exact ai
   ·rw[HP.out];exact⟨Yf _ _,by rw[Yg]⟩
  ·exfalso;simp at h;omega
  ·have ab:=Jl hD.out (.inl Ad6);have ac:ds.length≠0:=by simp at h;omega
   have hp:=Ol ab ac;have ad:=ae.out.stepX hK (by rw[hnm];exact HO.out) hq (by first|omega|(simp only[Acf,Ace];omega));have ao:=ae.out.len;have aj:Aec _:=ad;have HD:Aec _:=hD;have HP:Aec _:=hp;have HK:Aec _:=hK;clear ad hp hK ab;refine A1 Ah (fun _=>True) [10] [0,1,2,3,4,5,6,7,8,9] [10] Ad9 (fun _ _ _ h=>h) ?_;intro κ hκ;refine Z3 ?_
   repeat' (first|refine Z1 ?_|(refine Z8 ?_;intro κ hκ)|(refine Z4 ?_;clear hκ κ)|(refine Z2 ?_ ?_<;>intro h aa<;>try exact Xp)|(refine Z5 ?_;refine Xi (R9 ds ht aj.out (by first|omega|(simp only[Acf,Ace];omega)) (by refine Od hs HD.out.2.1 ?_ ?_<;>first|omega|(simp only[Acf,Ace,Abn];omega))) ?_;rintro _ _ ⟨id',rfl,ah,ai⟩)|refine Z3 ?_|exact⟨⟩|(apply hκ.out;clear hκ κ))
   refine⟨_,rfl,_,kS N ds,id',by rw[HP.out];rfl,(Rs.ofX HK.out).trans ah,?_,Ye _ _,?_⟩
   ·rw[HP.out];exact ai
   ·rw[HP.out];exact⟨Yf _ _,by rw[Yg]⟩
variable {Bd:Nat}
theorem RS.new {t:Tx}{o:Nat}{N:List Tx}{id:Nat}{s:Tx}{y:St}(h:RS Bd t o N id s y)(cs:List AV):RS Bd t o N id s (y.new cs):=
 ⟨by rw[Ae h.lt];exact h.obj,by have:=h.lt;rw[Aa];omega,h.own,h.suf,h.len⟩
theorem RS.put {t:Tx}{o:Nat}{N:List Tx}{id:Nat}{s:Tx}{y:St}(h:RS Bd t o N id s y){p:Nat}(hp:o<p)(cs:List AV):RS Bd t o N id s (y.put p cs):=
 ⟨by rw[Aj hp];exact h.obj,h.lt,h.own,h.suf,h.len⟩
theorem RS.lay {t:Tx}{o:Nat}{N:List Tx}{id:Nat}{s:Tx}{y:St}(h:RS Bd t o N id s y)(n:Nat):RS Bd t o N id s (y.lay n):=by
 refine⟨h.obj,h.lt,?_,h.suf,h.len⟩;rcases h.own with e|⟨k,h1,h2,h3,h4⟩
 ·exact .inl e
 ·exact .inr ⟨k,h1,by rw[Jc];omega,by rw[Qs h2];exact h3,h4⟩
theorem Rs.new {o:Nat}{a b:St}{i j:Nat}(h:Rs o a i b j)(cs:List AV):Rs o a i (b.new cs) j:=⟨h.keep.new cs,h.nid⟩
theorem Rs.lay {o:Nat}{a b:St}{i j:Nat}(h:Rs o a i b j)(n:Nat):Rs o a i (b.lay n) j:=⟨h.keep.lay n,h.nid⟩
theorem KeepR.putN {o id p:Nat}{y y':St}(h:KeepR o id y y')(hp:y.nobj<=p)(cs:List AV):KeepR o id y (y'.put p cs):=
 ⟨h.nobj,fun q hq aa=>by simp[St.put];rw[if_neg Ad6];exact h.obj q hq aa,fun q hq aa=>by simp[St.put];rw[if_neg Ad6];exact h.ver q hq aa,h.ntop,h.top⟩
theorem Rs.put {o p:Nat}{a b:St}{i j:Nat}(h:Rs o a i b j)(hp:a.nobj<=p)(cs:List AV):Rs o a i (b.put p cs) j:=⟨h.keep.putN hp cs,h.nid⟩
theorem Rs.transX {o:Nat}{a b c:St}{i j:Nat}(h:Rs o a i b j)(k:KeepX o b c):Rs o a i c j:=h.trans (Rs.ofX k)
theorem KeepR.x {o:Nat}{a b:St}(h:KeepR o 0 a b):KeepX o a b:=⟨h.nobj,h.obj,h.ver,h.ntop,fun k hk=>h.top k hk Ad6⟩
theorem Own.keepX {o:Nat}{σ0 y y':St}{id n:Nat}(h:Own σ0 y id n)(k:KeepX o y y'):Own σ0 y' id n:=by
 rcases h with h|⟨j,h1,h2,h3,h4,h5⟩
 ·exact .inl h
 ·exact .inr ⟨j,h1,h2,Abh h3 k.ntop,(k.top j h3).trans h4,h5⟩
theorem Own.made' {σ0 b:St}(h:σ0.ntop<=b.ntop){n:Nat}(hn:0<n):Own σ0 (b.lay n) (b.ntop+2) n:=.inr ⟨b.ntop,rfl,h,by simp[St.lay],by simp[St.lay],hn⟩
theorem RS.app {t:Tx}{o:Nat}{N:List Tx}{id ids:Nat}{r:Tx}{X Y:St}(h:RS Bd t o N id r X)(ab:Y.obj=X.obj)(aa:Y.nobj=X.nobj)(ac:X.ntop<Y.ntop)(etop:∀k,k<X.ntop->k+2≠ids->Y.top k=X.top k)(ad:id=1\/id≠ids):RS Bd t o N id r Y:=by
 refine⟨by rw[ab];exact h.obj,by rw[aa];exact h.lt,?_,h.suf,h.len⟩;rcases h.own with e|⟨k,h1,h2,h3,h4⟩
 ·exact .inl e
 ·exact .inr ⟨k,h1,Ad6,(etop k h2 Ad6).trans h3,h4⟩
theorem OwnN.apart {y X:St}{id ids n m:Nat}(h:OwnN y id n)(g:Own y X ids m):id=1\/id≠ids:=by
 rcases h with⟨rfl,-⟩|⟨k,h1,h2,-⟩
 ·exact .inl rfl
 ·rcases g with⟨rfl,-⟩|⟨j,g1,g2,-⟩<;>omega
theorem I8 {c:Int}{q:Tx}(h:(Aw c q).ok=false):Aw c q= .bad q:=by
 cases q with
 |nil=>rfl
 |cons b r=>
  unfold Aw at h⊢;dsimp only at h⊢;split at h
  ·cases h
  ·rename_i hb;rw[if_neg hb]
abbrev Dl (s:Tx):Rd (List Tx):=P9 Ca 2 s
theorem aV {t:Tx}{o:Nat}{N:List Tx}{id:Nat}{s:Tx}{y:St}(ht:t.length<=1000)(hR:RS Bd t o N id s y):
  ACalls Tryz.prog 184 [ptr o 0] y fun x y'=>∃n ids c,x=tp [sl ids n c,sc (.bool (Dl s).ok)]/\KeepX o y y'/\RS Bd t o N id (Dl s).rest y'/\Rd.Val (Dl s) fun ts=>n=ts.length/\c=Av ts:=by
 have hn:=hR.lt;refine Z9 37 [.tmp 2,.tmp 3] Tryz.func184 ?_
 repeat' (first|refine Z1 ?_|(refine Z8 ?_;intro κ hκ)|(refine Z4 ?_;clear hκ κ)|(refine Z2 ?_ ?_<;>intro h ae<;>try exact Xp)|(refine Z6 ?_;intro idn yn am an ac ab ad aa)|(refine Z5 ?_;refine Xi (R3 ht hR) ?_;rintro _ _ ⟨v,k,rfl,au,ak,aj⟩;(have ai:=au.nobj))|refine Z3 ?_|exact⟨⟩|(apply hκ.out;clear hκ κ))
 ·rename_i y1;obtain⟨e,he⟩:=Rd.ok_false h;have hp:=sepI.none (n:=2) he;rw[he]at ak;refine⟨_,rfl,0,1,[],by rw[Dl,hp];rfl,by repeat (first|exact KeepX.refl _ _|(with_reducible assumption)|(with_reducible apply KeepX.putN;rotate_left;(first|omega|(simp only[Aa,Ab,Ag,Ap]at*;omega)))|(with_reducible apply KeepX.new)|(with_reducible apply KeepX.lay)|(with_reducible refine KeepX.trans ?_ (by assumption))),?_,by rw[Dl,hp];trivial⟩;rw[Dl,hp]
  repeat (first|(with_reducible assumption)|(with_reducible apply RS.put;rotate_left;(first|omega|(simp only[Aa,Ab,Ag,Ap]at*;omega)))|(with_reducible apply RS.new)|(with_reducible apply RS.lay)|assumption)
 ·rename_i y1;obtain⟨w,q,he⟩:=Rd.ok_true h;have hp:=sepI.first (n:=2) he;rw[he]at ak aj;have aj:Az w=(v,k):=aj;have ak:RS Bd t o N id q y1:=ak;have hc:[sc (.bool v),sc (.int .i64 k)]=Av [w]:=by simp[Av,Pe,aj]
  rw[hc]
  refine Ad (fun m s' y'=>∃(ts:List Tx) (q:Tx) (ids:Nat),m=3-ts.length/\s' 0=ptr o 0/\s' 6=sl ids ts.length (Av ts)/\KeepX o y y'/\RS Bd t o N id q y'/\Own y y' ids ts.length/\ts.length<=3/\Aec (sepI Ca 2 s ts q)) 2
   ⟨[w],q,_,rfl,rfl,rfl,by repeat (first|exact KeepX.refl _ _|(with_reducible assumption)|(with_reducible apply KeepX.putN;rotate_left;(first|omega|(simp only[Aa,Ab,Ag,Ap]at*;omega)))|(with_reducible apply KeepX.new)|(with_reducible apply KeepX.lay)|(with_reducible refine KeepX.trans ?_ (by assumption))),by repeat (first|(with_reducible assumption)|(with_reducible apply RS.put;rotate_left;(first|omega|(simp only[Aa,Ab,Ag,Ap]at*;omega)))|(with_reducible apply RS.new)|(with_reducible apply RS.lay)|assumption),?_,by simp,hp⟩ ?_
  ·exact Own.made' (b:=(y1.new _).put _ _) au.ntop (by decide)
  clear au ak aj ai hc hp he h;rintro m s' y' ⟨ts,q,ids,rfl,h0,h6,hK,aw,hO,a7,hS⟩;have a0:=F4 ts;have a5:=hK.nobj;by_cases a6:ts.length<3
  ·repeat' (first|refine Z1 ?_|(refine Z8 ?_;intro κ hκ)|(refine Z4 ?_;clear hκ κ)|(refine Z2 ?_ ?_<;>intro h ae<;>try exact Xp)|(refine Z6 ?_;intro idn yn am an ac ab ad aa)|(refine Z5 ?_;first|(refine Xi (Ht ht (by assumption)) ?_;rintro _ _ ⟨rfl,ap,av⟩;(have ai:=ap.nobj))|(refine Xi (R3 ht (by assumption)) ?_;rintro _ _ ⟨v,k,rfl,ay,ah,af⟩;(have az:=ay.nobj)))|refine Z3 ?_|exact⟨⟩|(apply hκ.out;clear hκ κ))
   ·rename_i y2 ao _ y3;obtain⟨u,r,hb⟩:=Rd.ok_true ao;rw[hb]at h ah;obtain⟨e,he⟩:=Rd.ok_false h;rw[show (Rd.got u r).rest=r from rfl]at he ah;have hp:=hS.out.fail Ad6 hb he;rw[he]at ah;refine⟨_,rfl,0,1,[],by rw[Dl,hp];rfl,by repeat (first|exact KeepX.refl _ _|(with_reducible assumption)|(with_reducible apply KeepX.putN;rotate_left;(first|omega|(simp only[Aa,Ab,Ag,Ap]at*;omega)))|(with_reducible apply KeepX.new)|(with_reducible apply KeepX.lay)|(with_reducible refine KeepX.trans ?_ (by assumption))),?_,by rw[Dl,hp];trivial⟩;rw[Dl,hp]
    repeat (first|(with_reducible assumption)|(with_reducible apply RS.put;rotate_left;(first|omega|(simp only[Aa,Ab,Ag,Ap]at*;omega)))|(with_reducible apply RS.new)|(with_reducible apply RS.lay)|assumption)
   ·rename_i y2 ao _ y3;obtain⟨u,r,hb⟩:=Rd.ok_true ao;rw[hb]at h ah af;obtain⟨x,r2,he⟩:=Rd.ok_true h;rw[show (Rd.got u r).rest=r from rfl]at he ah af;have hp:=hS.out.next Ad6 hb he;rw[he]at ah af;have af:Az x=(v,k):=af;have a4:KeepX o y ((y3.new [sc (.bool false),sc (.int .i64 0)]).put y3.nobj [sc (.bool v),sc (.int .i64 k)]):=by repeat (first|exact KeepX.refl _ _|(with_reducible assumption)|(with_reducible apply KeepX.putN;rotate_left;(first|omega|(simp only[Aa,Ab,Ag,Ap]at*;omega)))|(with_reducible apply KeepX.new)|(with_reducible apply KeepX.lay)|(with_reducible refine KeepX.trans ?_ (by assumption)))
    have ax:Own y ((y3.new [sc (.bool false),sc (.int .i64 0)]).put y3.nobj [sc (.bool v),sc (.int .i64 k)]) ids ts.length:=Own.put (Own.new (Own.keepX (Own.keepX hO ap) ay) _) _ _;have a3:RS Bd t o N id r2 ((y3.new [sc (.bool false),sc (.int .i64 0)]).put y3.nobj [sc (.bool v),sc (.int .i64 k)]):=by repeat (first|(with_reducible assumption)|(with_reducible apply RS.put;rotate_left;(first|omega|(simp only[Aa,Ab,Ag,Ap]at*;omega)))|(with_reducible apply RS.new)|(with_reducible apply RS.lay)|assumption)
    refine Lk (o:=o) (idn:=0) (σ0:=y) (by first|exact Ee) (a4.kr 0) ax (by decide) (by rfl) a0 (by rfl) (by rfl) (by decide) Ad6 Ad6 ?_;intro idn yn am an ac ab ad aa etop hid;refine Z3 ?_
    repeat' (first|refine Z1 ?_|(refine Z8 ?_;intro κ hκ)|(refine Z4 ?_;clear hκ κ)|(refine Z2 ?_ ?_<;>intro h ae<;>try exact Xp)|(refine Z6 ?_;intro idn yn am an ac ab ad aa)|refine Z3 ?_|exact⟨⟩|(apply hκ.out;clear hκ κ))
    refine⟨3-(ts++[x]).length,by simp;omega,ts++[x],r2,idn,rfl,?_,an.x,?_,by simpa using am,by simp;omega,hp⟩
    ·rw[Zz,Pe,af];simp
    ·exact a3.app ac ab aa etop (hR.own.apart ax)
   ·have hp:=hS.out.stop h;rename_i y2;rw[I8 h]at av;refine⟨_,rfl,_,ids,_,by rw[Dl,hp];rfl,by repeat (first|exact KeepX.refl _ _|(with_reducible assumption)|(with_reducible apply KeepX.putN;rotate_left;(first|omega|(simp only[Aa,Ab,Ag,Ap]at*;omega)))|(with_reducible apply KeepX.new)|(with_reducible apply KeepX.lay)|(with_reducible refine KeepX.trans ?_ (by assumption))),?_,by rw[Dl,hp];exact⟨rfl,rfl⟩⟩;rw[Dl,hp]
    repeat (first|(with_reducible assumption)|(with_reducible apply RS.put;rotate_left;(first|omega|(simp only[Aa,Ab,Ag,Ap]at*;omega)))|(with_reducible apply RS.new)|(with_reducible apply RS.lay)|assumption)
  ·repeat' (first|refine Z1 ?_|(refine Z8 ?_;intro κ hκ)|(refine Z4 ?_;clear hκ κ)|(refine Z2 ?_ ?_<;>intro h ae<;>try exact Xp)|(refine Z6 ?_;intro idn yn am an ac ab ad aa)|(refine Z5 ?_;refine Xi (Ht ht (by assumption)) ?_;rintro _ _ ⟨rfl,ap,av⟩)|refine Z3 ?_|exact⟨⟩|(apply hκ.out;clear hκ κ))
   have hp:=hS.out.full Ad6
   first
   |exact⟨_,rfl,_,ids,_,by rw[Dl,hp];rfl,hK,by rw[Dl,hp];exact aw,by rw[Dl,hp];exact⟨rfl,rfl⟩⟩
   |exact⟨_,rfl,_,ids,_,by rw[Dl,hp];rfl,by rw[Dl,hp];exact aw,by rw[Dl,hp];exact⟨rfl,rfl⟩⟩
end Go.Proofs.YtmoeoppbmhfbpabGreatDoorJ
