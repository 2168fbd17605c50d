import Derived.Test.YtmoeoppbmhfbpaaGreatDoorHGramD
set_option maxHeartbeats 16000000
set_option maxRecDepth 100000
set_option linter.all false
namespace Go.Proofs.YtmoeoppbmhfbpaaGreatDoorH
open Go.Abs
variable {Bd:Nat}
theorem KeepX.new {o:Nat}{y y':St}(h:KeepX o y y')(cs:List AV):KeepX o y (y'.new cs):=by
 have:=h.nobj;exact⟨by simp[St.new];omega,fun p hp aa=>by simp[St.new];rw[if_neg Ad2];exact h.obj p hp aa,h.ver,h.ntop,h.top⟩
theorem KeepX.putN {o p:Nat}{y y':St}(h:KeepX o y y')(hp:y.nobj<=p)(cs:List AV):KeepX o y (y'.put p cs):=
 ⟨h.nobj,fun q hq aa=>by simp[St.put];rw[if_neg Ad2];exact h.obj q hq aa,fun q hq aa=>by simp[St.put];rw[if_neg Ad2];exact h.ver q hq aa,h.ntop,h.top⟩
theorem KeepX.lay {o:Nat}{a b:St}(h:KeepX o a b)(n:Nat):KeepX o a (b.lay n):=by
 have:=h.ntop;exact⟨h.nobj,h.obj,h.ver,by simp[St.lay];omega,fun k hk=>by simp[St.lay];rw[if_neg Ad2];exact h.top k hk⟩
theorem Zs {p:Prop}(h:p:=by repeat (first|exact KeepX.refl _ _|(with_reducible assumption)|(with_reducible apply KeepX.putN;rotate_left;(first|omega|(simp only[Aa,Ac,Av,Gj]at*;omega)))|(with_reducible apply KeepX.new)|(with_reducible apply KeepX.lay)|(with_reducible refine KeepX.trans ?_ (by assumption)))):p:=h
def Bu:Tx->Bool×Int
 |[]=>(false,0)
 |b::r=>if B6 b.toNat=true then (true,(b.toNat:Int)-65)else (false,Hb (b::r))
theorem Ga {b:UInt8}{r:Tx}(h:B6 b.toNat=true):Bu (b::r)=(true,(b.toNat:Int)-65):=by unfold Bu;dsimp only;rw[if_pos h]
theorem Od {b:UInt8}{r:Tx}(h:B6 b.toNat=false):Bu (b::r)=(false,Hb (b::r)):=by unfold Bu;dsimp only;rw[if_neg (by rw[h];simp)]
def P1 (x:Tx):List AV:=[sc (.bool (Bu x).1),sc (.int .i64 (Bu x).2)]
def A8 (ts:List Tx):List AV:=ts.flatMap P1
theorem Mc (ts:List Tx):(A8 ts).length=ts.length*2:=by
 induction ts with
 |nil=>rfl
 |cons a l ih=>unfold A8 at*;rw[Aca,Abj,ih];simp[P1];omega
theorem bI (ts:List Tx)(x:Tx):A8 (ts++[x])=A8 ts++P1 x:=by simp[A8]
theorem dB (p:Int->Bool)(n:Nat)(s:Tx):(Ar p n s).2<:+s:=⟨(Ar p n s).1,(D3 p n s).1.symm⟩
theorem Sv (s:Tx):(Ce s).rest<:+s:=by
 cases s with
 |nil=>exact Acs _
 |cons b r=>
  unfold Ce;dsimp only;split
  ·exact List.suffix_cons b r
  split
  ·exact List.suffix_cons b r
  split
  ·exact (dB Az 2 r).trans (List.suffix_cons b r)
  ·exact Acs _
theorem Us (t r:Tx)(b:UInt8)(o:Nat)(nm:AV)(ht:t.length<=1000)(hs:(b::r)<:+t)(y:St)(ho:y.obj o=Kc t (b::r) nm)(hn:o<y.nobj)(ad:((b.toNat:Int)==48)=true):
  ACalls Tryz.prog 245 [ptr o 0] y fun x y'=>KeepX o y y'/\y'.obj o=Kc t r nm/\x=sc (.int .i64 0):=by
 have hp:Aw 48 (b::r)= .got () r:=by unfold Aw;dsimp only;rw[if_pos ad]
 have hT:=O0 t (b::r) o nm 48 ht hs y ho hn;rw[hp]at hT;refine Z9 57 [.tmp 2] Tryz.func245 ?_
 repeat' (first|refine Z1 ?_|(refine Z8 ?_;intro ya J)|(refine Z4 ?_;clear J ya)|(refine Z2 ?_ ?_<;>intro h ac<;>try exact Xp)|(refine Z5 ?_;refine Xi (hT) ?_;rintro _ _ ⟨aa,rfl,ab,-⟩)|refine Z3 ?_|exact Zt|(apply J.out;clear J ya))
 first|exact⟨_,rfl,aa,ab,rfl⟩|exact⟨_,rfl,aa,ab⟩|exact⟨_,rfl,aa,rfl⟩|exact⟨_,rfl,rfl⟩
theorem Sn {t:Tx}{o:Nat}{N:List Tx}{id:Nat}{s:Tx}{y:St}(ht:t.length<=1000)(hR:RS Bd t o N id s y):
  ACalls Tryz.prog 209 [ptr o 0] y fun x y'=>∃v k,x=tp [ag [sc (.bool v),sc (.int .i64 k)],sc (.bool (Ce s).ok)]/\KeepX o y y'/\RS Bd t o N id (Ce s).rest y'/\Rd.Val (Ce s) fun w=>Bu w=(v,k):=by
 have ah:Ad8 (RS Bd t o N id s y):=hR;obtain⟨ho,hn,-,hs,-⟩:=hR;have au:=Gm hs;have av:=Nm hs;have ac:Ad8 ((Ce s).rest.length<=s.length):=(Sv s).length_le;have hrs:Ad8 ((Ce s).rest<:+t):=(Sv s).trans hs;generalize ad:sl id N.length (N.map str)=nm at ho;have ad:Ad8 (sl id N.length (N.map str)=nm):=ad;have ax:Ad8 (y.obj o=Kc t s nm):=ho;unfold Kc Qm at ho;refine Z9 46 [.cell 2 101,.tmp 3] Tryz.func209 ?_
 repeat' (first|refine Z1 ?_|(refine Z8 ?_;intro ya J)|(refine Z4 ?_;clear J ya)|(refine Z2 ?_ ?_<;>intro h aa<;>try exact Xp)|refine Z3 ?_|exact Zt|(apply J.out;clear J ya))
 refine Aq Ad (fun _=>True) [9] [0,1,2,3,4,5,6,7,8] [9] Ad5 (fun _ _ _ h=>h) ?_;intro ya J;cases s with
 |nil=>
  simp only[Abu,Acr]at ho av au;refine Z3 ?_
  repeat' (first|refine Z1 ?_|(refine Z8 ?_;intro ya J)|(refine Z4 ?_;clear J ya)|(refine Z2 ?_ ?_<;>intro h aa<;>try exact Xp)|refine Z3 ?_|exact Zt|(apply J.out;clear J ya))
  have hK:KeepX o y ((y.new [sc (.bool false),sc (.int .i64 0)]).put y.nobj [sc (.bool false),sc (.int .i64 0)]):=((KeepX.refl _ _).new _).putN (Aak _) _;refine⟨_,rfl,false,0,rfl,hK,ah.out.stepX hK ?_ hrs.out ac.out,trivial⟩;rw[ad.out,Al hn,Ai hn];exact ax.out
 |cons b r=>
  simp only[Abv,List.head?_cons]at ho av au;refine Z3 ?_
  repeat' (first|refine Z1 ?_|(refine Z8 ?_;intro ya J)|(refine Z4 ?_;clear J ya)|(refine Z2 ?_ ?_<;>intro h aa<;>try exact Xp)|refine Z3 ?_|exact Zt|(apply J.out;clear J ya))
  refine Aq Ad (fun _=>True) [9] [0,1,2,3,4,5,6,7,8] [9] Ad5 (fun _ _ _ h=>h) ?_;intro ya J;refine Z3 ?_;have az:Az b.toNat=true->48<=(b.toNat:Int)/\(b.toNat:Int)<=57:=fun h=>by simp[Az]at h;omega
  have an:B6 b.toNat=true->65<=(b.toNat:Int)/\(b.toNat:Int)<=90:=fun h=>by simp[B6]at h;omega
  have am:Ad8 ((y.new [sc (.bool false),sc (.int .i64 0)]).obj o=Kc t (b::r) nm):=by rw[Ad8,Ai hn];exact ax.out
  have ay:o<(y.new [sc (.bool false),sc (.int .i64 0)]).nobj:=by rw[Aa];omega
  have aj:Ad8 (KeepX o y (y.new [sc (.bool false),sc (.int .i64 0)])):=(KeepX.refl _ _).new _;by_cases ab:((b.toNat:Int)==48)=true
  ·have hl:B6 b.toNat=false:=by
    cases hl:B6 b.toNat with
    |false=>rfl
    |true=>have:=an hl;simp at ab;omega
   have hd:Az b.toNat=true:=by simp at ab;simp[Az];omega
   have hp:Ce (b::r)= .got [b] r:=by
    unfold Ce;dsimp only;rw[if_neg (by rw[hl];simp),if_pos ab]
   rw[hp]at ac hrs;have hE:Ad8 (Bu [b]=(false,0)):=by
    rw[Ad8,Od hl];simp at ab;simp[Hb];omega
   repeat' (first|refine Z1 ?_|(refine Z8 ?_;intro ya J)|(refine Z4 ?_;clear J ya)|(refine Z2 ?_ ?_<;>intro h aa<;>try exact Xp)|(refine Z5 ?_;first|(refine Xi (Fz _ _) ?_;rintro _ _ ⟨rfl,rfl⟩)|(refine Xi (Fy _ _) ?_;rintro _ _ ⟨rfl,rfl⟩)|(refine Xi (Us t r b o nm ht hs _ am.out ay ab) ?_;rintro _ _ ⟨ae,ai,rfl⟩;(have ak:=ae.obj y.nobj (by rw[Aa];omega) Ad2;rw[Am]at ak;have ap:Ad8 _:=ae;have ao:Ad8 _:=ai;clear ae ai)))|refine Z3 ?_|exact Zt|(apply J.out;clear J ya))
   rename_i y1;have hK:KeepX o y (y1.put y.nobj [sc (.bool false),sc (.int .i64 0)]):=(aj.out.trans ap.out).putN (Aak _) _;refine⟨_,rfl,false,0,rfl,hK,ah.out.stepX hK ?_ hrs.out ac.out,hE.out⟩;rw[ad.out,Al hn];exact ao.out
  ·have ab:((b.toNat:Int)==48)=false:=by simpa using ab
   by_cases hl:B6 b.toNat=true
   ·have hp:Ce (b::r)= .got [b] r:=by
     unfold Ce;dsimp only;rw[if_pos hl]
    rw[hp]at ac hrs;have hE:Ad8 (Bu [b]=(true,(b.toNat:Int)-65)):=by
     exact Ga hl
    have an:=an hl;have hw:IntKind.i64.wrap (IntKind.u8.wrap ((b.toNat:Int)-65))=(b.toNat:Int)-65:=by
     rw[Abs.u8w Ad2 Ad2,Abs.i64w Ad2 Ad2]
    repeat' (first|refine Z1 ?_|(refine Z8 ?_;intro ya J)|(refine Z4 ?_;clear J ya)|(refine Z2 ?_ ?_<;>intro h aa<;>try exact Xp)|(refine Z5 ?_;refine Xi (Fz _ _) ?_;rintro _ _ ⟨rfl,rfl⟩)|refine Z3 ?_|exact Zt|(apply J.out;clear J ya))
    have hK:KeepX o y (((y.new [sc (.bool false),sc (.int .i64 0)]).put o [str t,sc (.int .i64 ((t.length-(r.length+1):Nat)+1)),nm]).put y.nobj [sc (.bool true),sc (.int .i64 ((b.toNat:Int)-65))]):=(aj.out.put _).putN (Aak _) _;refine⟨_,rfl,true,_,rfl,hK,ah.out.stepX hK ?_ hrs.out ac.out,hE.out⟩;rw[ad.out,Al hn,Ak];unfold Kc Qm;rw[show ((t.length-(r.length+1):Nat):Int)+1=((t.length-r.length:Nat):Int)by omega];rfl
   ·have hl:B6 b.toNat=false:=by simpa using hl
    by_cases hd:Az b.toNat=true
    ·have hN:=Ql t (b::r) o nm ht hs _ am.out ay (fun b' r' e=>by cases e;exact ab);have hw:Ar Az 3 (b::r)=(b::(Ar Az 2 r).1,(Ar Az 2 r).2):=by rw[Ar,if_pos hd]
     rw[hw]at hN;have hN:Ad8 _:=hN;have af:Fx b.toNat=true:=by
      rcases digit_iff.1 hd with h|h
      ·exact h
      ·rw[ab]at h;cases h
     have hp:Ce (b::r)= .got (b::(Ar Az 2 r).1) (Ar Az 2 r).2:=by
      unfold Ce;dsimp only;rw[if_neg (by rw[hl];simp),if_neg (by rw[ab];simp),if_pos af]
     rw[hp]at ac hrs;have hE:Ad8 (Bu (b::(Ar Az 2 r).1)=(false,Hb (b::(Ar Az 2 r).1))):=by
      exact Od hl
     clear hw
     repeat' (first|refine Z1 ?_|(refine Z8 ?_;intro ya J)|(refine Z4 ?_;clear J ya)|(refine Z2 ?_ ?_<;>intro h aa<;>try exact Xp)|(refine Z5 ?_;first|(refine Xi (Fz _ _) ?_;rintro _ _ ⟨rfl,rfl⟩)|(refine Xi (Fy _ _) ?_;rintro _ _ ⟨rfl,rfl⟩)|(refine Xi (hN.out) ?_;rintro _ _ ⟨ae,q,ai,hq,aw,rfl⟩;(have ak:=ae.obj y.nobj (by rw[Aa];omega) Ad2;rw[Am]at ak;have ap:Ad8 _:=ae;have ao:Ad8 _:=ai;have HQ:Ad8 _:=aw;clear ae ai aw)))|refine Z3 ?_|exact Zt|(apply J.out;clear J ya))
     rename_i y1;have hK:KeepX o y (y1.put y.nobj [sc (.bool false),sc (.int .i64 (Hb (b::(Ar Az 2 r).1)))]):=(aj.out.trans ap.out).putN (Aak _) _;refine⟨_,rfl,false,_,rfl,hK,ah.out.stepX hK ?_ hrs.out ac.out,hE.out⟩;rw[ad.out,Al hn,show (Rd.got (b::(Ar Az 2 r).1) (Ar Az 2 r).2).rest=q from HQ.out.symm];exact ao.out
    ·have hd:Az b.toNat=false:=by simpa using hd
     have af:Fx b.toNat=false:=by
      cases af:Fx b.toNat with
      |false=>rfl
      |true=>rw[digit_iff.2 (.inl af)]at hd;cases hd
     have hp:Ce (b::r)= .bad (b::r):=by
      unfold Ce;dsimp only;rw[if_neg (by rw[hl];simp),if_neg (by rw[ab];simp),if_neg (by rw[af];simp)]
     rw[hp]at ac hrs
     repeat' (first|refine Z1 ?_|(refine Z8 ?_;intro ya J)|(refine Z4 ?_;clear J ya)|(refine Z2 ?_ ?_<;>intro h aa<;>try exact Xp)|(refine Z5 ?_;first|(refine Xi (Fz _ _) ?_;rintro _ _ ⟨rfl,rfl⟩)|(refine Xi (Fy _ _) ?_;rintro _ _ ⟨rfl,rfl⟩))|refine Z3 ?_|exact Zt|(apply J.out;clear J ya))
     have hK:KeepX o y ((y.new [sc (.bool false),sc (.int .i64 0)]).put y.nobj [sc (.bool false),sc (.int .i64 0)]):=aj.out.putN (Aak _) _;refine⟨_,rfl,false,0,rfl,hK,ah.out.stepX hK ?_ hrs.out ac.out,trivial⟩;rw[ad.out,Al hn];exact am.out
variable {Bd:Nat}
def lP (N:List Tx)(n:Tx):List Tx:=if n∈N then N else N++[n]
theorem Yz (N:List Tx)(n:Tx):n∈lP N n:=by unfold lP;split<;>simp_all
theorem Yy (N:List Tx)(n:Tx):N<+:lP N n:=by
 unfold lP;split
 ·exact List.prefix_refl _
 ·exact List.prefix_append _ _
theorem Jv {N N':List Tx}{n:Tx}(h:N<+:N')(hm:n∈N):N'.idxOf n=N.idxOf n:=by
 obtain⟨r,rfl⟩:=h;rw[List.idxOf_append,if_pos hm]
theorem Y0 (N:List Tx)(n:Tx):(lP N n).idxOf n=N.idxOf n:=by
 unfold lP;split
 ·rfl
 ·rename_i h;rw[List.idxOf_append,if_neg h,List.idxOf_eq_length h];simp
theorem Pj:∀{N:List Tx} {i:Nat} {n:Tx},(∀a,a<i->N[a]?≠some n)->N[i]?=some n->N.idxOf n=i
 |[],i,n,h,hi=>by simp at hi
 |x::N,0,n,h,hi=>by simp at hi;subst hi;simp
 |x::N,i+1,n,h,hi=>by
  have h0:=h 0 Ad2;have ih:=Pj (N:=N) (i:=i) (n:=n) (fun a ha=>by have:=h (a+1) Ad2;simpa using this) (by simpa using hi);have hx:(x==n)=false:=by
   simp at h0;simpa using h0
  rw[List.idxOf_cons,hx,ih];rfl
theorem S6 {N:List Tx}{n:Tx}(h:∀a,a<N.length->N[a]?≠some n):n∉N:=fun hm=>by
 obtain⟨i,hi,he⟩:=List.getElem_of_mem hm;exact h i hi (by rw[Aav hi,he])
theorem uY {t:Tx}{o:Nat}{N:List Tx}{id:Nat}{s:Tx}{y:St}(n:Tx)(ht:t.length<=1000)(hR:RS Bd t o N id s y)(hl:N.length+1+s.length<=Bd+t.length):
  ACalls Tryz.prog 208 [ptr o 0,str n] y fun x y'=>∃id',x=sc (.int .i64 (N.idxOf n:Nat))/\Rs o y id y' id'/\RS Bd t o (lP N n) id' s y':=by
 have ay:Ad8 (RS Bd t o N id s y):=hR;obtain⟨ho,hn,af,hs,av⟩:=hR;have am:Ad8 (OwnN y id N.length):=af;clear af;have a3:=Gm hs;unfold Kc Qm at ho;refine Z9 38 [.tmp 4] Tryz.func208 ?_
 repeat' (first|refine Z1 ?_|(refine Z8 ?_;intro ya J)|(refine Z4 ?_;clear J ya)|(refine Z2 ?_ ?_<;>intro h ae<;>try exact Xp)|(refine Z6 ?_;intro idn yn aj ak ab aa ad ac)|refine Z3 ?_|exact Zt|(apply J.out;clear J ya))
 refine Ab (fun m s' y'=>∃i:Nat,m=N.length-i/\i<=N.length/\s' 0=ptr o 0/\s' 1=str n/\s' 10=sl id N.length (N.map str)/\s' 11=sc (.int .i64 N.length)/\s' 12=sc (.int .i64 i)/\y'=y/\Ad8 (∀a,a<i->N[a]?≠some n)) N.length
  ⟨0,Ad2,Ad2,rfl,rfl,rfl,rfl,rfl,rfl,fun a ha=>Ad2⟩ ?_
 rintro m s' y' ⟨i,rfl,hi,h0,h1,a7,a6,a5,hy,ah⟩;subst hy;by_cases ao:i<N.length
 ·have ap:=Bc ao;have HX:Ad8 (N[i]?=some N[i]):=Aav ao;generalize N[i]=w at ap HX
  repeat' (first|refine Z1 ?_|(refine Z8 ?_;intro ya J)|(refine Z4 ?_;clear J ya)|(refine Z2 ?_ ?_<;>intro h ae<;>try exact Xp)|(refine Z6 ?_;intro idn yn aj ak ab aa ad ac)|refine Z3 ?_|exact Zt|(apply J.out;clear J ya))
  ·have hw:w=n:=by simpa using h
   subst hw;have ai:w∈N:=Aax HX.out;refine⟨_,rfl,id,by rw[Pj ah.out HX.out],Rs.refl _ _ _,?_⟩;rw[lP,if_pos ai];exact ay.out
  ·have hw:w≠n:=by simpa using h
   refine⟨N.length-(i+1),Ad2,i+1,rfl,Ad2,by simp,?_⟩;intro a ha;by_cases ax:a=i
   ·subst ax;rw[HX.out];simpa using hw
   ·exact ah.out a Ad2
 ·have aw:i=N.length:=Ad2;subst aw;have an:=S6 ah.out
  repeat' (first|refine Z1 ?_|(refine Z8 ?_;intro ya J)|(refine Z4 ?_;clear J ya)|(refine Z2 ?_ ?_<;>intro h ae<;>try exact Xp)|(refine Z6 ?_;intro idn yn aj ak ab aa ad ac)|refine Z3 ?_|exact Zt|(apply J.out;clear J ya))
  refine jN (σ0:=y') (o:=o) (by first|exact Oz) am.out (by decide) (by rfl) (by simp) (by rfl) (by rfl) (by decide) Ad2 Ad2 ?_;intro id' y1 az a0 ab aa ad hid;have au:o<y1.nobj:=Ad2;have a4:y1.obj o=[str t,sc (.int .i64 (t.length-s.length:Nat)),sl id N.length (N.map str)]:=by rw[ab];exact ho
  refine Z3 ?_
  repeat' (first|refine Z1 ?_|(refine Z8 ?_;intro ya J)|(refine Z4 ?_;clear J ya)|(refine Z2 ?_ ?_<;>intro h ae<;>try exact Xp)|(refine Z6 ?_;intro idn yn aj ak ab aa ad ac)|refine Z3 ?_|exact Zt|(apply J.out;clear J ya))
  have hI:lP N n=N++[n]:=by rw[lP,if_neg an]
  have hx:N.idxOf n=N.length:=List.idxOf_eq_length an;refine⟨_,rfl,id',by rw[hx,show ((N.length+1:Nat):Int)-1=N.length by omega],⟨a0.put _,hid⟩,?_⟩;rw[hI];refine⟨?_,au,?_,hs,by simp;omega⟩
  ·rw[Ak];simp[Kc,Qm]
  ·rcases az with h|⟨j,q1,q2,q3,q4⟩
   ·exact .inl ⟨h.1,by have:=h.2;omega⟩
   ·exact .inr ⟨j,q1,q2,by rw[Lh,q3];simp,by simp⟩
theorem Sp {t:Tx}{o:Nat}{N:List Tx}{id:Nat}{s:Tx}{y:St}(ds:Tx){n:Tx}(ht:t.length<=1000)(hR:RS Bd t o N id s y)(hl:N.length+1+s.length<=Bd+t.length)(he:n=ds):
  ACalls Tryz.prog 208 [ptr o 0,str n] y fun x y'=>∃id',x=sc (.int .i64 (N.idxOf ds:Nat))/\Rs o y id y' id'/\RS Bd t o (lP N ds) id' s y':=by
 subst he;exact uY n ht hR hl
variable {Bd:Nat}
def smalls (s ds q:Tx):Prop:=ds.length<=6/\s=ds++q/\Ar Bl 6 s=(ds++(Ar Bl (6-ds.length) q).1,(Ar Bl (6-ds.length) q).2)
theorem gC (s:Tx):smalls s [] s:=⟨by simp,by simp,by simp⟩
theorem bZ {s ds q:Tx}{b:UInt8}(h:smalls s ds (b::q))(hl:ds.length<6)(hb:Bl b.toNat=true):smalls s (ds++[b]) q:=by
 obtain⟨h1,h2,h3⟩:=h;have e:6-ds.length=(6-(ds++[b]).length)+1:=by simp;omega
 rw[e,Ar,if_pos hb]at h3;exact⟨by simp;omega,by rw[h2];simp,by rw[h3];simp⟩
theorem Jp {s ds q:Tx}(h:smalls s ds q)(he:ds.length=6\/q=[]\/∃b r,q=b::r/\Bl b.toNat=false):Ar Bl 6 s=(ds,q):=by
 obtain⟨h1,-,h2⟩:=h;rw[h2];rcases he with he|rfl|⟨b,r,rfl,hb⟩
 ·rw[he];simp[Ar]
 ·cases hn:6-ds.length<;>simp[Ar]
 ·cases hn:6-ds.length<;>simp[Ar,hb]
theorem mW {t s:Tx}(h:s<:+t):t.drop (t.length-s.length)=s:=by
 obtain⟨p,rfl⟩:=h;simp
theorem qI {t s ds q:Tx}(h:s<:+t)(e:s=ds++q){k:Nat}(hk:k=ds.length):(t.drop (t.length-s.length)).take k=ds:=by
 rw[mW h,e,hk];simp
theorem O3 {t s ds q:Tx}(h:s<:+t)(e:s=ds++q){j k:Nat}(hj:j=t.length-s.length)(hk:k=ds.length):(t.drop j).take k=ds:=by
 subst hj;exact qI h e hk
theorem Wo {s ds q:Tx}(h:Ar Bl 6 s=(ds,q))(h0:ds.length=0):Ea s= .bad s:=by
 have:ds=[]:=Aa1 h0;unfold Ea;rw[h,if_pos this]
theorem O7 {s ds q:Tx}(h:Ar Bl 6 s=(ds,q))(h0:ds.length≠0):Ea s= .got ds q:=by
 unfold Ea;rw[h,if_neg (by intro e;simp at e;simp[e]at h0)]
theorem J9 {t:Tx}{o:Nat}{N:List Tx}{id:Nat}{s:Tx}{y:St}(ht:t.length<=1000)(hR:RS Bd t o N id s y):
  ACalls Tryz.prog 166 [ptr o 0] y fun x y'=>∃k N' id',x=tp [sc (.int .i64 k),sc (.bool (Ea s).ok)]/\Rs o y id y' id'/\RS Bd t o N' id' (Ea s).rest y'/\N<+:N'/\Rd.Val (Ea s) fun n=>n∈N'/\k=(N'.idxOf n:Nat):=by
 have ae:Ad8 (RS Bd t o N id s y):=hR;obtain⟨ho,hn,-,hs,-⟩:=hR;have ay:=Gm hs;generalize ah:sl id N.length (N.map str)=nm at ho;have aw:Ad8 (y.obj o=Kc t s nm):=ho;unfold Kc Qm at ho;refine Z9 67 [.tmp 2,.tmp 3] Tryz.func166 ?_
 repeat' (first|refine Z1 ?_|(refine Z8 ?_;intro ya J)|(refine Z4 ?_;clear J ya)|(refine Z2 ?_ ?_<;>intro h aa<;>try exact Xp)|refine Z3 ?_|exact Zt|(apply J.out;clear J ya))
 refine Ab (fun m s' y'=>∃(q ds:Tx),m=6-ds.length/\s' 0=ptr o 0/\s' 4=sc (.int .i64 (t.length-s.length:Nat))/\KeepX o y y'/\y'.obj o=Kc t q nm/\o<y'.nobj/\q<:+t/\s.length=ds.length+q.length/\Ad8 (smalls s ds q)) 6
  ⟨s,[],rfl,rfl,rfl,KeepX.refl _ _,aw.out,hn,hs,by simp,gC s⟩ ?_
 rintro m s' y' ⟨q,ds,rfl,h0,h4,hK,hO,az,hq,am,hD⟩;clear ho;have an:=Gm hq;have ao:=Nm hq;have a0:=hD.out.1;have HO:Ad8 (y'.obj o=Kc t q nm):=hO;unfold Kc Qm at hO
 repeat' (first|refine Z1 ?_|(refine Z8 ?_;intro ya J)|(refine Z4 ?_;clear J ya)|(refine Z2 ?_ ?_<;>intro h aa<;>try exact Xp)|refine Z3 ?_|exact Zt|(apply J.out;clear J ya))
 refine Aq Ad (fun _=>True) [30] [0,1,2,3,4,5,6,7,8,9,10,11,12,13,14,15,16,17,18,19,20,21,22,23,24,25,26,27,28] [29,30] Ad5 (fun _ _ _ h=>h) ?_;intro ya J;cases q with
 |nil=>
  simp only[Abu,Acr,Aay]at hO ao an am;refine Z3 ?_
  repeat' (first|refine Z1 ?_|(refine Z8 ?_;intro ya J)|(refine Z4 ?_;clear J ya)|(refine Z2 ?_ ?_<;>intro h aa<;>try exact Xp)|(refine Z5 ?_;refine Xi (N7 _ _) ?_;rintro _ _ ⟨rfl,rfl⟩)|refine Z3 ?_|exact Zt|(apply J.out;clear J ya))
  all_goals have ab:=Jp hD.out (.inr (.inl rfl))
  ·
   have ac:ds.length=0:=by simp at h;omega
   have hp:=Wo ab ac;have af:=hD.out.2.1;rw[Aa1 ac,Ack]at af;refine⟨_,rfl,0,N,id,by rw[hp];rfl,Rs.ofX hK,?_,List.prefix_refl _,by rw[hp];trivial⟩;rw[hp];exact ae.out.stepX hK (by rw[ah];exact af ▸ HO.out) hs (Aak _)
  ·
   have ac:ds.length≠0:=by simp at h;omega
   have hp:=O7 ab ac;have ad:=ae.out.stepX hK (by rw[ah];exact HO.out) hq (by first|omega|(simp only[Abv,Abu];omega));have ap:=ae.out.len;have ak:Ad8 _:=ad;have HD:Ad8 _:=hD;have HP:Ad8 _:=hp;have HK:Ad8 _:=hK;clear ad hp hK ab;refine Aq Ad (fun _=>True) [10] [0,1,2,3,4,5,6,7,8,9] [10] Ad5 (fun _ _ _ h=>h) ?_;intro ya J;refine Z3 ?_
   repeat' (first|refine Z1 ?_|(refine Z8 ?_;intro ya J)|(refine Z4 ?_;clear J ya)|(refine Z2 ?_ ?_<;>intro h aa<;>try exact Xp)|(refine Z5 ?_;refine Xi (Sp ds ht ak.out (by first|omega|(simp only[Abv,Abu];omega)) (by refine O3 hs HD.out.2.1 ?_ ?_<;>first|omega|(simp only[Abv,Abu,Aay];omega))) ?_;rintro _ _ ⟨id',rfl,ai,aj⟩)|refine Z3 ?_|exact Zt|(apply J.out;clear J ya))
   refine⟨_,rfl,_,lP N ds,id',by rw[HP.out];rfl,(Rs.ofX HK.out).trans ai,?_,Yy _ _,?_⟩
   ·rw[HP.out];exact aj
   ·rw[HP.out];exact⟨Yz _ _,by rw[Y0]⟩
 |cons b r=>
  simp only[Abv,List.head?_cons]at hO ao an am;have av:=O1 hq;refine Z3 ?_
  repeat' (first|refine Z1 ?_|(refine Z8 ?_;intro ya J)|(refine Z4 ?_;clear J ya)|(refine Z2 ?_ ?_<;>intro h aa<;>try exact Xp)|(refine Z5 ?_;refine Xi (N7 _ _) ?_;rintro _ _ ⟨rfl,rfl⟩)|refine Z3 ?_|exact Zt|(apply J.out;clear J ya))
  ·have ax:ds.length<6:=Ad2;have au:Bl b.toNat=true:=by assumption
   refine⟨6-(ds++[b]).length,by simp;omega,r,ds++[b],rfl,hK.put _,?_,av,by simp;omega,bZ hD.out ax au⟩;unfold Kc Qm;rw[show ((t.length-(r.length+1):Nat):Int)+1=((t.length-r.length:Nat):Int)by omega]
  ·have ab:=Jp hD.out (.inr (.inr ⟨b,r,rfl,by assumption⟩));have ac:ds.length=0:=by simp at h;omega
   have hp:=Wo ab ac;have af:=hD.out.2.1;rw[Aa1 ac,Ack]at af;refine⟨_,rfl,0,N,id,by rw[hp];rfl,Rs.ofX hK,?_,List.prefix_refl _,by rw[hp];trivial⟩;rw[hp];exact ae.out.stepX hK (by rw[ah];exact af ▸ HO.out) hs (Aak _)
  ·have ab:=Jp hD.out (.inr (.inr ⟨b,r,rfl,by assumption⟩));have ac:ds.length≠0:=by simp at h;omega
   have hp:=O7 ab ac;have ad:=ae.out.stepX hK (by rw[ah];exact HO.out) hq (by first|omega|(simp only[Abv,Abu];omega));have ap:=ae.out.len;have ak:Ad8 _:=ad;have HD:Ad8 _:=hD;have HP:Ad8 _:=hp;have HK:Ad8 _:=hK;clear ad hp hK ab;refine Aq Ad (fun _=>True) [10] [0,1,2,3,4,5,6,7,8,9] [10] Ad5 (fun _ _ _ h=>h) ?_;intro ya J;refine Z3 ?_
   repeat' (first|refine Z1 ?_|(refine Z8 ?_;intro ya J)|(refine Z4 ?_;clear J ya)|(refine Z2 ?_ ?_<;>intro h aa<;>try exact Xp)|(refine Z5 ?_;refine Xi (Sp ds ht ak.out (by first|omega|(simp only[Abv,Abu];omega)) (by refine O3 hs HD.out.2.1 ?_ ?_<;>first|omega|(simp only[Abv,Abu,Aay];omega))) ?_;rintro _ _ ⟨id',rfl,ai,aj⟩)|refine Z3 ?_|exact Zt|(apply J.out;clear J ya))
   refine⟨_,rfl,_,lP N ds,id',by rw[HP.out];rfl,(Rs.ofX HK.out).trans ai,?_,Yy _ _,?_⟩
   ·rw[HP.out];exact aj
   ·rw[HP.out];exact⟨Yz _ _,by rw[Y0]⟩
  ·exfalso;simp at h;omega
  ·have ab:=Jp hD.out (.inl Ad2);have ac:ds.length≠0:=by simp at h;omega
   have hp:=O7 ab ac;have ad:=ae.out.stepX hK (by rw[ah];exact HO.out) hq (by first|omega|(simp only[Abv,Abu];omega));have ap:=ae.out.len;have ak:Ad8 _:=ad;have HD:Ad8 _:=hD;have HP:Ad8 _:=hp;have HK:Ad8 _:=hK;clear ad hp hK ab;refine Aq Ad (fun _=>True) [10] [0,1,2,3,4,5,6,7,8,9] [10] Ad5 (fun _ _ _ h=>h) ?_;intro ya J;refine Z3 ?_
   repeat' (first|refine Z1 ?_|(refine Z8 ?_;intro ya J)|(refine Z4 ?_;clear J ya)|(refine Z2 ?_ ?_<;>intro h aa<;>try exact Xp)|(refine Z5 ?_;refine Xi (Sp ds ht ak.out (by first|omega|(simp only[Abv,Abu];omega)) (by refine O3 hs HD.out.2.1 ?_ ?_<;>first|omega|(simp only[Abv,Abu,Aay];omega))) ?_;rintro _ _ ⟨id',rfl,ai,aj⟩)|refine Z3 ?_|exact Zt|(apply J.out;clear J ya))
   refine⟨_,rfl,_,lP N ds,id',by rw[HP.out];rfl,(Rs.ofX HK.out).trans ai,?_,Yy _ _,?_⟩
   ·rw[HP.out];exact aj
   ·rw[HP.out];exact⟨Yz _ _,by rw[Y0]⟩
variable {Bd:Nat}
theorem RS.new {t:Tx}{o:Nat}{N:List Tx}{id:Nat}{s:Tx}{y:St}(h:RS Bd t o N id s y)(cs:List AV):RS Bd t o N id s (y.new cs):=
 ⟨by rw[Ai h.lt];exact h.obj,by have:=h.lt;rw[Aa];omega,h.own,h.suf,h.len⟩
theorem RS.put {t:Tx}{o:Nat}{N:List Tx}{id:Nat}{s:Tx}{y:St}(h:RS Bd t o N id s y){p:Nat}(hp:o<p)(cs:List AV):RS Bd t o N id s (y.put p cs):=
 ⟨by rw[Al hp];exact h.obj,h.lt,h.own,h.suf,h.len⟩
theorem RS.lay {t:Tx}{o:Nat}{N:List Tx}{id:Nat}{s:Tx}{y:St}(h:RS Bd t o N id s y)(n:Nat):RS Bd t o N id s (y.lay n):=by
 refine⟨h.obj,h.lt,?_,h.suf,h.len⟩;rcases h.own with e|⟨k,h1,h2,h3,h4⟩
 ·exact .inl e
 ·exact .inr ⟨k,h1,by rw[Jd];omega,by rw[Q0 h2];exact h3,h4⟩
theorem Zr {p:Prop}(h:p:=by repeat (first|(with_reducible assumption)|(with_reducible apply RS.put;rotate_left;(first|omega|(simp only[Aa,Ac,Av,Gj]at*;omega)))|(with_reducible apply RS.new)|(with_reducible apply RS.lay)|assumption)):p:=h
theorem Rs.new {o:Nat}{a b:St}{i j:Nat}(h:Rs o a i b j)(cs:List AV):Rs o a i (b.new cs) j:=⟨h.keep.new cs,h.nid⟩
theorem Rs.lay {o:Nat}{a b:St}{i j:Nat}(h:Rs o a i b j)(n:Nat):Rs o a i (b.lay n) j:=⟨h.keep.lay n,h.nid⟩
theorem KeepR.putN {o id p:Nat}{y y':St}(h:KeepR o id y y')(hp:y.nobj<=p)(cs:List AV):KeepR o id y (y'.put p cs):=
 ⟨h.nobj,fun q hq aa=>by simp[St.put];rw[if_neg Ad2];exact h.obj q hq aa,fun q hq aa=>by simp[St.put];rw[if_neg Ad2];exact h.ver q hq aa,h.ntop,h.top⟩
theorem Rs.put {o p:Nat}{a b:St}{i j:Nat}(h:Rs o a i b j)(hp:a.nobj<=p)(cs:List AV):Rs o a i (b.put p cs) j:=⟨h.keep.putN hp cs,h.nid⟩
theorem Rs.transX {o:Nat}{a b c:St}{i j:Nat}(h:Rs o a i b j)(k:KeepX o b c):Rs o a i c j:=h.trans (Rs.ofX k)
theorem Zu {p:Prop}(h:p:=by repeat (first|exact Rs.refl _ _ _|(with_reducible assumption)|(with_reducible apply Rs.put;rotate_left;(first|omega|(simp only[Aa,Ac,Av,Gj]at*;omega)))|(with_reducible apply Rs.new)|(with_reducible apply Rs.lay)|(refine Rs.trans ?_ (by with_reducible assumption))|(refine Rs.transX ?_ (by with_reducible assumption)))):p:=h
theorem KeepR.x {o:Nat}{a b:St}(h:KeepR o 0 a b):KeepX o a b:=⟨h.nobj,h.obj,h.ver,h.ntop,fun k hk=>h.top k hk Ad2⟩
theorem Own.keepX {o:Nat}{σ0 y y':St}{id n:Nat}(h:Own σ0 y id n)(k:KeepX o y y'):Own σ0 y' id n:=by
 rcases h with h|⟨j,h1,h2,h3,h4,h5⟩
 ·exact .inl h
 ·exact .inr ⟨j,h1,h2,Aam h3 k.ntop,(k.top j h3).trans h4,h5⟩
theorem Own.made' {σ0 b:St}(h:σ0.ntop<=b.ntop){n:Nat}(hn:0<n):Own σ0 (b.lay n) (b.ntop+2) n:=.inr ⟨b.ntop,rfl,h,by simp[St.lay],by simp[St.lay],hn⟩
theorem RS.app {t:Tx}{o:Nat}{N:List Tx}{id ids:Nat}{r:Tx}{X Y:St}(h:RS Bd t o N id r X)(ab:Y.obj=X.obj)(aa:Y.nobj=X.nobj)(ac:X.ntop<Y.ntop)(etop:∀k,k<X.ntop->k+2≠ids->Y.top k=X.top k)(ad:id=1\/id≠ids):RS Bd t o N id r Y:=by
 refine⟨by rw[ab];exact h.obj,by rw[aa];exact h.lt,?_,h.suf,h.len⟩;rcases h.own with e|⟨k,h1,h2,h3,h4⟩
 ·exact .inl e
 ·exact .inr ⟨k,h1,Ad2,(etop k h2 Ad2).trans h3,h4⟩
theorem OwnN.apart {y X:St}{id ids n m:Nat}(h:OwnN y id n)(g:Own y X ids m):id=1\/id≠ids:=by
 rcases h with⟨rfl,-⟩|⟨k,h1,h2,-⟩
 ·exact .inl rfl
 ·rcases g with⟨rfl,-⟩|⟨j,g1,g2,-⟩<;>omega
theorem Ja {c:Int}{q:Tx}(h:(Aw c q).ok=false):Aw c q= .bad q:=by
 cases q with
 |nil=>rfl
 |cons b r=>
  unfold Aw at h⊢;dsimp only at h⊢;split at h
  ·cases h
  ·rename_i hb;rw[if_neg hb]
abbrev Dz (s:Tx):Rd (List Tx):=Qn Ce 2 s
theorem cM {t:Tx}{o:Nat}{N:List Tx}{id:Nat}{s:Tx}{y:St}(ht:t.length<=1000)(hR:RS Bd t o N id s y):
  ACalls Tryz.prog 167 [ptr o 0] y fun x y'=>∃n ids c,x=tp [sl ids n c,sc (.bool (Dz s).ok)]/\KeepX o y y'/\RS Bd t o N id (Dz s).rest y'/\Rd.Val (Dz s) fun ts=>n=ts.length/\c=A8 ts:=by
 have hn:=hR.lt;refine Z9 37 [.tmp 2,.tmp 3] Tryz.func167 ?_
 repeat' (first|refine Z1 ?_|(refine Z8 ?_;intro ya J)|(refine Z4 ?_;clear J ya)|(refine Z2 ?_ ?_<;>intro h ae<;>try exact Xp)|(refine Z6 ?_;intro idn yn am an ac ab ad aa)|(refine Z5 ?_;refine Xi (Sn ht hR) ?_;rintro _ _ ⟨v,k,rfl,au,ak,aj⟩;(have ai:=au.nobj))|refine Z3 ?_|exact Zt|(apply J.out;clear J ya))
 ·rename_i y1;obtain⟨e,he⟩:=Rd.ok_false h;have hp:=sepI.none (n:=2) he;rw[he]at ak;refine⟨_,rfl,0,1,[],by rw[Dz,hp];rfl,Zs,?_,by rw[Dz,hp];trivial⟩;rw[Dz,hp];exact Zr
 ·rename_i y1;obtain⟨w,q,he⟩:=Rd.ok_true h;have hp:=sepI.first (n:=2) he;rw[he]at ak aj;have aj:Bu w=(v,k):=aj;have ak:RS Bd t o N id q y1:=ak;have hc:[sc (.bool v),sc (.int .i64 k)]=A8 [w]:=by simp[A8,P1,aj]
  rw[hc]
  refine Ab (fun m s' y'=>∃(ts:List Tx) (q:Tx) (ids:Nat),m=3-ts.length/\s' 0=ptr o 0/\s' 6=sl ids ts.length (A8 ts)/\KeepX o y y'/\RS Bd t o N id q y'/\Own y y' ids ts.length/\ts.length<=3/\Ad8 (sepI Ce 2 s ts q)) 2
   ⟨[w],q,_,rfl,rfl,rfl,Zs,Zr,?_,by simp,hp⟩ ?_
  ·exact Own.made' (b:=(y1.new _).put _ _) au.ntop (by decide)
  clear au ak aj ai hc hp he h;rintro m s' y' ⟨ts,q,ids,rfl,h0,h6,hK,hR2,hO,a6,hS⟩;have az:=Mc ts;have a4:=hK.nobj;by_cases a5:ts.length<3
  ·repeat' (first|refine Z1 ?_|(refine Z8 ?_;intro ya J)|(refine Z4 ?_;clear J ya)|(refine Z2 ?_ ?_<;>intro h ae<;>try exact Xp)|(refine Z6 ?_;intro idn yn am an ac ab ad aa)|(refine Z5 ?_;first|(refine Xi (Hr ht (by assumption)) ?_;rintro _ _ ⟨rfl,ap,av⟩;(have ai:=ap.nobj))|(refine Xi (Sn ht (by assumption)) ?_;rintro _ _ ⟨v,k,rfl,ax,ah,af⟩;(have ay:=ax.nobj)))|refine Z3 ?_|exact Zt|(apply J.out;clear J ya))
   ·rename_i y2 ao _ y3;obtain⟨u,r,hb⟩:=Rd.ok_true ao;rw[hb]at h ah;obtain⟨e,he⟩:=Rd.ok_false h;rw[show (Rd.got u r).rest=r from rfl]at he ah;have hp:=hS.out.fail Ad2 hb he;rw[he]at ah;refine⟨_,rfl,0,1,[],by rw[Dz,hp];rfl,Zs,?_,by rw[Dz,hp];trivial⟩;rw[Dz,hp];exact Zr
   ·rename_i y2 ao _ y3;obtain⟨u,r,hb⟩:=Rd.ok_true ao;rw[hb]at h ah af;obtain⟨x,r2,he⟩:=Rd.ok_true h;rw[show (Rd.got u r).rest=r from rfl]at he ah af;have hp:=hS.out.next Ad2 hb he;rw[he]at ah af;have af:Bu x=(v,k):=af;have a3:KeepX o y ((y3.new [sc (.bool false),sc (.int .i64 0)]).put y3.nobj [sc (.bool v),sc (.int .i64 k)]):=Zs;have aw:Own y ((y3.new [sc (.bool false),sc (.int .i64 0)]).put y3.nobj [sc (.bool v),sc (.int .i64 k)]) ids ts.length:=Own.put (Own.new (Own.keepX (Own.keepX hO ap) ax) _) _ _;have a0:RS Bd t o N id r2 ((y3.new [sc (.bool false),sc (.int .i64 0)]).put y3.nobj [sc (.bool v),sc (.int .i64 k)]):=Zr;refine Lw (o:=o) (idn:=0) (σ0:=y) (by first|exact Kh) (a3.kr 0) aw (by decide) (by rfl) az (by rfl) (by rfl) (by decide) Ad2 Ad2 ?_;intro idn yn am an ac ab ad aa etop hid;refine Z3 ?_
    repeat' (first|refine Z1 ?_|(refine Z8 ?_;intro ya J)|(refine Z4 ?_;clear J ya)|(refine Z2 ?_ ?_<;>intro h ae<;>try exact Xp)|(refine Z6 ?_;intro idn yn am an ac ab ad aa)|refine Z3 ?_|exact Zt|(apply J.out;clear J ya))
    refine⟨3-(ts++[x]).length,by simp;omega,ts++[x],r2,idn,rfl,?_,an.x,?_,by simpa using am,by simp;omega,hp⟩
    ·rw[bI,P1,af];simp
    ·exact a0.app ac ab aa etop (hR.own.apart aw)
   ·have hp:=hS.out.stop h;rename_i y2;rw[Ja h]at av;refine⟨_,rfl,_,ids,_,by rw[Dz,hp];rfl,Zs,?_,by rw[Dz,hp];exact⟨rfl,rfl⟩⟩;rw[Dz,hp];exact Zr
  ·repeat' (first|refine Z1 ?_|(refine Z8 ?_;intro ya J)|(refine Z4 ?_;clear J ya)|(refine Z2 ?_ ?_<;>intro h ae<;>try exact Xp)|(refine Z6 ?_;intro idn yn am an ac ab ad aa)|(refine Z5 ?_;refine Xi (Hr ht (by assumption)) ?_;rintro _ _ ⟨rfl,ap,av⟩)|refine Z3 ?_|exact Zt|(apply J.out;clear J ya))
   have hp:=hS.out.full Ad2
   first
   |exact⟨_,rfl,_,ids,_,by rw[Dz,hp];rfl,hK,by rw[Dz,hp];exact hR2,by rw[Dz,hp];exact⟨rfl,rfl⟩⟩
   |exact⟨_,rfl,_,ids,_,by rw[Dz,hp];rfl,by rw[Dz,hp];exact hR2,by rw[Dz,hp];exact⟨rfl,rfl⟩⟩
end Go.Proofs.YtmoeoppbmhfbpaaGreatDoorH
