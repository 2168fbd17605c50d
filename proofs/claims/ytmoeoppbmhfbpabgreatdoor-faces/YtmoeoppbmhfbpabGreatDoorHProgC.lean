import Derived.Test.YtmoeoppbmhfbpabGreatDoorHGramD
set_option linter.all false
namespace Go.Proofs.YtmoeoppbmhfbpabGreatDoorH
set_option maxHeartbeats 16000000
open Go.Abs
variable {Bd:Nat}
set_option maxRecDepth 100000
namespace Rd
def ok {α:Type}:Rd α->Bool
 |.bad _=>false
 |.got _ _=>true
def rest {α:Type}:Rd α->Tx
 |.bad e=>e
 |.got _ r=>r
def Val {α:Type}:Rd α->(α->Prop)->Prop
 |.bad _,_=>True
 |.got a _,P=>P a
theorem ok_true {α:Type}{x:Rd α}(h:x.ok=true):∃a r,x= .got a r:=by
 cases x with
 |bad e=>cases h
 |got a r=>exact⟨a,r,rfl⟩
theorem ok_false {α:Type}{x:Rd α}(h:x.ok=false):∃e,x= .bad e:=by
 cases x with
 |bad e=>exact⟨e,rfl⟩
 |got a r=>cases h
theorem Ff {α β γ:Type}(x:Rd α)(f:α->Tx->Rd β)(g:β->Tx->Rd γ):(x.bnd f).bnd g=x.bnd fun a r=>(f a r).bnd g:=by cases x<;>rfl
theorem Val.mono {α:Type}{x:Rd α}{P Q:α->Prop}(h:Val x P)(k:∀a,P a->Q a):Val x Q:=by
 cases x with
 |bad e=>trivial
 |got a r=>exact k a h
end Rd
def P9 {α:Type}(f:Tx->Rd α)(n:Nat)(s:Tx):Rd (List α):=(f s).bnd fun x r=>(De f n r).bnd fun xs r=>.got (x::xs) r
def sepI {α:Type}(f:Tx->Rd α)(n:Nat)(s:Tx)(xs:List α)(q:Tx):Prop:=
 xs.length<=n+1/\0<xs.length/\P9 f n s=(De f (n+1-xs.length) q).bnd fun ys r=>.got (xs++ys) r
theorem sepI.first {α:Type}{f:Tx->Rd α}{n:Nat}{s r:Tx}{x:α}(h:f s= .got x r):sepI f n s [x] r:=by
 refine⟨by simp,by simp,?_⟩;unfold P9;rw[h];simp only[Rd.bnd,List.length_singleton,Nat.add_sub_cancel,List.singleton_append]
theorem sepI.none {α:Type}{f:Tx->Rd α}{n:Nat}{s e:Tx}(h:f s= .bad e):P9 f n s= .bad e:=by
 unfold P9;rw[h];rfl
theorem sepI.full {α:Type}{f:Tx->Rd α}{n:Nat}{s q:Tx}{xs:List α}(h:sepI f n s xs q)(hl:n+1<=xs.length):P9 f n s= .got xs q:=by
 rw[h.2.2,show n+1-xs.length=0 by omega];simp[De,Rd.bnd]
theorem sepI.stop {α:Type}{f:Tx->Rd α}{n:Nat}{s q:Tx}{xs:List α}(h:sepI f n s xs q)(hb:(Az 44 q).ok=false):P9 f n s= .got xs q:=by
 rw[h.2.2];cases hk:n+1-xs.length with
 |zero=>simp[De,Rd.bnd]
 |succ k=>
  cases q with
  |nil=>simp[De,Rd.bnd]
  |cons b r=>
   unfold Az at hb;dsimp only at hb;have aa:((b.toNat:Int)==44)=false:=by
    by_cases hc:((b.toNat:Int)==44)=true
    ·rw[if_pos hc]at hb;cases hb
    ·simpa using hc
   unfold De;rw[if_neg (by rw[aa];simp)];simp[Rd.bnd]
theorem sepI.fail {α:Type}{f:Tx->Rd α}{n:Nat}{s q r e:Tx}{xs:List α}{u:Unit}(h:sepI f n s xs q)(hl:xs.length<n+1)(hb:Az 44 q= .got u r)(hf:f r= .bad e):P9 f n s= .bad e:=by
 rw[h.2.2];obtain⟨k,hk⟩:∃k,n+1-xs.length=k+1:=⟨n-xs.length,by omega⟩;rw[hk];cases q with
 |nil=>cases hb
 |cons b q=>
  unfold Az at hb;dsimp only at hb;by_cases hc:((b.toNat:Int)==44)=true
  ·rw[if_pos hc]at hb;cases hb;rw[De,if_pos hc,hf];rfl
  ·rw[if_neg hc]at hb;cases hb
theorem sepI.next {α:Type}{f:Tx->Rd α}{n:Nat}{s q r r2:Tx}{xs:List α}{u:Unit}{x:α}(h:sepI f n s xs q)(hl:xs.length<n+1)(hb:Az 44 q= .got u r)(hf:f r= .got x r2):sepI f n s (xs++[x]) r2:=by
 refine⟨by simp;omega,by simp,?_⟩;rw[h.2.2];obtain⟨k,hk⟩:∃k,n+1-xs.length=k+1:=⟨n-xs.length,by omega⟩;rw[hk,show n+1-(xs++[x]).length=k by simp;omega];cases q with
 |nil=>cases hb
 |cons b q=>
  unfold Az at hb;dsimp only at hb;by_cases hc:((b.toNat:Int)==44)=true
  ·rw[if_pos hc]at hb;cases hb;rw[De,if_pos hc,hf];simp only[Rd.bnd];cases De f k r2<;>simp[Rd.bnd]
  ·rw[if_neg hc]at hb;cases hb
structure KeepR (o id:Nat)(M M':St):Prop where
 nobj:M.nobj<=M'.nobj
 obj:∀p,p<M.nobj->p≠o->M'.obj p=M.obj p
 ver:∀p,p<M.nobj->p≠o->M'.ver p=M.ver p
 ntop:M.ntop<=M'.ntop
 top:∀k,k<M.ntop->k+2≠id->M'.top k=M.top k
theorem KeepR.refl (o id:Nat)(M:St):KeepR o id M M:=⟨Nat.le_refl _,fun _ _ _=>rfl,fun _ _ _=>rfl,Nat.le_refl _,fun _ _ _=>rfl⟩
theorem KeepX.kr {o:Nat}{M M':St}(h:KeepX o M M')(id:Nat):KeepR o id M M':=⟨h.nobj,h.obj,h.ver,h.ntop,fun k hk _=>h.top k hk⟩
theorem Keep.kr {M M':St}(h:Keep M M')(o id:Nat):KeepR o id M M':=⟨h.nobj,fun p hp _=>h.obj p hp,fun p hp _=>h.ver p hp,h.ntop,fun k hk _=>h.top k hk⟩
theorem KeepR.trans {o id id':Nat}{a b c:St}(h:KeepR o id a b)(hi:id'=id\/a.ntop+2<=id')(k:KeepR o id' b c):KeepR o id a c:=
 ⟨Nat.le_trans h.nobj k.nobj,fun p hp hne=>(k.obj p (Nat.lt_of_lt_of_le hp h.nobj) hne).trans (h.obj p hp hne),fun p hp hne=>(k.ver p (Nat.lt_of_lt_of_le hp h.nobj) hne).trans (h.ver p hp hne),
  Nat.le_trans h.ntop k.ntop,fun j hj hne=>(k.top j (Nat.lt_of_lt_of_le hj h.ntop) (by omega)).trans (h.top j hj hne)⟩
theorem KeepR.put {o id:Nat}{M M':St}(h:KeepR o id M M')(cs:List AV):KeepR o id M (M'.put o cs):=
 ⟨h.nobj,fun p hp hne=>by simp[St.put,hne];exact h.obj p hp hne,fun p hp hne=>by simp[St.put,hne];exact h.ver p hp hne,h.ntop,h.top⟩
theorem KeepR.lay {o id:Nat}{a b:St}(h:KeepR o id a b)(n:Nat):KeepR o id a (b.lay n):=by
 have:=h.ntop;exact⟨h.nobj,h.obj,h.ver,by simp[St.lay];omega,fun k hk hne=>by simp[St.lay];rw[if_neg (by omega)];exact h.top k hk hne⟩
theorem KeepR.new {o id:Nat}{a b:St}(h:KeepR o id a b)(cs:List AV):KeepR o id a (b.new cs):=by
 have:=h.nobj;exact⟨by simp[St.new];omega,fun p hp hne=>by simp[St.new];rw[if_neg (by omega)];exact h.obj p hp hne,h.ver,h.ntop,h.top⟩
theorem KeepR.raise {o id:Nat}{a b:St}(h:KeepR o id a b){k:Nat}(hk:a.ntop<=k\/k+2=id)(n:Nat):KeepR o id a (b.raise k n):=
 ⟨h.nobj,h.obj,h.ver,h.ntop,fun j hj hne=>by simp[St.raise];rw[if_neg (by omega)];exact h.top j hj hne⟩
theorem KeepR.keep {o id:Nat}{a b c:St}(h:Keep a b)(k:KeepR o id b c)(ho:a.nobj<=o)(hi:id<2\/a.ntop+2<=id):Keep a c:=
 ⟨Nat.le_trans h.nobj k.nobj,fun p hp=>(k.obj p (Nat.lt_of_lt_of_le hp h.nobj) (by omega)).trans (h.obj p hp),fun p hp=>(k.ver p (Nat.lt_of_lt_of_le hp h.nobj) (by omega)).trans (h.ver p hp),
  Nat.le_trans h.ntop k.ntop,fun j hj=>(k.top j (Nat.lt_of_lt_of_le hj h.ntop) (by omega)).trans (h.top j hj)⟩
def OwnN (M:St)(id n:Nat):Prop:=(id=1/\n=0)\/∃k,id=k+2/\k<M.ntop/\M.top k=n/\0<n
theorem OwnN.keepX {o:Nat}{M M':St}{id n:Nat}(h:OwnN M id n)(k:KeepX o M M'):OwnN M' id n:=by
 rcases h with h|⟨j,h1,h3,h4,h5⟩
 ·exact .inl h
 ·exact .inr ⟨j,h1,Nat.lt_of_lt_of_le h3 k.ntop,(k.top j h3).trans h4,h5⟩
theorem Own.keepR {o idn:Nat}{σ0 M M':St}{id n:Nat}(h:Own σ0 M id n)(k:KeepR o idn M M')(hne:id=1\/id≠idn):Own σ0 M' id n:=by
 rcases h with h|⟨j,h1,h2,h3,h4,h5⟩
 ·exact .inl h
 ·exact .inr ⟨j,h1,h2,Nat.lt_of_lt_of_le h3 k.ntop,(k.top j h3 (by omega)).trans h4,h5⟩
theorem OwnN.keepR {o idn:Nat}{M M':St}{id n:Nat}(h:OwnN M id n)(k:KeepR o idn M M')(hne:id=1\/id≠idn):OwnN M' id n:=by
 rcases h with h|⟨j,h1,h3,h4,h5⟩
 ·exact .inl h
 ·exact .inr ⟨j,h1,Nat.lt_of_lt_of_le h3 k.ntop,(k.top j h3 (by omega)).trans h4,h5⟩
theorem Qq {M:St}{n k:Nat}(h:k<M.ntop):(M.lay n).top k=M.top k:=by simp[St.lay];intro e;omega
theorem mH {M:St}{n k j:Nat}(h:j≠k):(M.raise k n).top j=M.top j:=by simp[St.raise,h]
theorem Ph {P:Program}{t:TypeId}{z b:Nat}{zc:List Value}{σ0 M:St}{o idn id id2 n m m':Nat}{xs ys:List AV}{K:AV->St->Prop}(ht:Ma P t=some (z,b,zc))(hK:KeepR o idn σ0 M)(hO:Own σ0 M id n)
  (hz:0<z) (hzc:zc.length=z) (hx:xs.length=n*z) (hy:ys.length=m*z) (hf:ys.all flat=true) (hm:0<m) (hb:(n+m)*b<=140737488355328) (hl:n+m<=1099511627776)
  (h:∀id' M',Own σ0 M' id' (n+m)->KeepR o idn σ0 M'->M'.obj=M.obj->M'.nobj=M.nobj->M'.ver=M.ver->M.ntop<M'.ntop->(∀k,k<M.ntop->k+2≠id->M'.top k=M.top k)->(id'=id\/M.ntop+2<=id')->K (sl id' (n+m) (xs++ys)) M'):Hy P t t (sl id n xs) (sl id2 m ys) (M.lay m') K:=by
 unfold Hy Yw;left;simp only[ht];rw[if_pos ⟨trivial,hz,hzc,hx,hy,hf,hm,hb,hl⟩];rcases hO with⟨rfl,rfl⟩|⟨k,rfl,h2,h3,h4,h5⟩
 ·have aa:xs=[]:=List.eq_nil_of_length_eq_zero (by simpa using hx);subst aa;have ab:=hK.ntop
  have:=h ((M.lay m').ntop+2) ((M.lay m').lay m) (by rw[Nat.zero_add];exact .inr ⟨(M.lay m').ntop,rfl,by simp[St.lay];omega,by simp[St.lay],by simp[St.lay],hm⟩) ((hK.lay m').lay m) rfl rfl rfl (by simp[St.lay];omega)
   (fun j hj _=>by rw[Qq (by rw[I0];omega),Qq hj]) (by rw[I0];omega)
  simpa using this
 ·have e1:(M.lay m').top k=n:=by simp[St.lay];rw[if_neg (by omega)];exact h4
  simp only;rw[if_pos ⟨e1,h5⟩]
  exact h (k+2) _ (.inr ⟨k,rfl,h2,by simp[St.raise,St.lay];omega,by simp[St.raise],by omega⟩) ((hK.lay m').raise (.inl h2) _) rfl rfl rfl (by simp[St.raise,St.lay])
   (fun j hj hne=>by rw[mH (by omega),Qq hj]) (.inl rfl)
theorem iL {P:Program}{t:TypeId}{z b:Nat}{zc:List Value}{σ0 M:St}{o id id2 n m m':Nat}{xs ys:List AV}{K:AV->St->Prop}(ht:Ma P t=some (z,b,zc))(hO:OwnN M id n)
  (hz:0<z) (hzc:zc.length=z) (hx:xs.length=n*z) (hy:ys.length=m*z) (hf:ys.all flat=true) (hm:0<m) (hb:(n+m)*b<=140737488355328) (hl:n+m<=1099511627776)
  (h:∀id' M',OwnN M' id' (n+m)->KeepR o id M M'->M'.obj=M.obj->M'.nobj=M.nobj->M'.ver=M.ver->(id'=id\/M.ntop+2<=id')->K (sl id' (n+m) (xs++ys)) M'):Hy P t t (sl id n xs) (sl id2 m ys) (M.lay m') K:=by
 unfold Hy Yw;left;simp only[ht];rw[if_pos ⟨trivial,hz,hzc,hx,hy,hf,hm,hb,hl⟩];have hR:=KeepR.refl o id M;rcases hO with⟨rfl,rfl⟩|⟨k,rfl,h3,h4,h5⟩
 ·have aa:xs=[]:=List.eq_nil_of_length_eq_zero (by simpa using hx);subst aa;have:=h ((M.lay m').ntop+2) ((M.lay m').lay m) (by rw[Nat.zero_add];exact .inr ⟨(M.lay m').ntop,rfl,by simp[St.lay],by simp[St.lay],hm⟩) ((hR.lay m').lay m) rfl rfl rfl (by rw[I0];omega);simpa using this
 ·have e1:(M.lay m').top k=n:=by simp[St.lay];rw[if_neg (by omega)];exact h4
  simp only;rw[if_pos ⟨e1,h5⟩];exact h (k+2) _ (.inr ⟨k,rfl,by simp[St.raise,St.lay];omega,by simp[St.raise],by omega⟩) ((hR.lay m').raise (.inr rfl) _) rfl rfl rfl (.inl rfl)
structure RS (Bd:Nat)(t:Tx)(o:Nat)(N:List Tx)(id:Nat)(s:Tx)(M:St):Prop where
 obj:M.obj o=Lx t s (sl id N.length (N.map str))
 lt:o<M.nobj
 own:OwnN M id N.length
 suf:s<:+t
 len:N.length+s.length<=Bd+t.length/\Bd<=1000
structure Rs (o:Nat)(M:St)(id:Nat)(M':St)(id':Nat):Prop where
 keep:KeepR o id M M'
 nid:id'=id\/M.ntop+2<=id'
theorem Rs.refl (o:Nat)(M:St)(id:Nat):Rs o M id M id:=⟨KeepR.refl _ _ _,.inl rfl⟩
theorem Rs.trans {o:Nat}{a b c:St}{i j k:Nat}(h:Rs o a i b j)(g:Rs o b j c k):Rs o a i c k:=
 ⟨h.keep.trans h.nid g.keep,by have:=h.keep.ntop;rcases h.nid with h1|h1<;>rcases g.nid with h2|h2<;>omega⟩
theorem Rs.ofX {o:Nat}{a b:St}{i:Nat}(h:KeepX o a b):Rs o a i b i:=⟨h.kr i,.inl rfl⟩
theorem RS.stepX {t:Tx}{o:Nat}{N:List Tx}{id:Nat}{s r:Tx}{M M':St}(h:RS Bd t o N id s M)(k:KeepX o M M')(ho:M'.obj o=Lx t r (sl id N.length (N.map str)))(hr:r<:+t)(hl:r.length<=s.length):RS Bd t o N id r M':=
 ⟨ho,Nat.lt_of_lt_of_le h.lt k.nobj,h.own.keepX k,hr,by have:=h.len;omega⟩
theorem fY (c:Int)(s:Tx):(Az c s).rest<:+s:=by
 cases s with
 |nil=>exact List.suffix_refl _
 |cons b r=>
  unfold Az;dsimp only;split
  ·exact List.suffix_cons b r
  ·exact List.suffix_refl _
theorem Ie {t:Tx}{o:Nat}{N:List Tx}{id:Nat}{s:Tx}{c:Int}{M:St}(ht:t.length<=1000)(h:RS Bd t o N id s M):
  ACalls Tryz.prog 132 [ptr o 0,sc (.int .u8 c)] M fun x M'=>x=sc (.bool (Az c s).ok)/\KeepX o M M'/\RS Bd t o N id (Az c s).rest M':=by
 refine ACalls.mono (Ol t s o _ c ht h.suf M h.obj h.lt) ?_;rintro x M' ⟨hK,hm⟩;have hr:=fY c s;have hl:=hr.length_le;have hs:=hr.trans h.suf;cases hp:Az c s with
 |bad e=>
  rw[hp]at hm hr hl hs;obtain⟨rfl,hO,rfl⟩:=hm;exact⟨rfl,hK,h.stepX hK hO hs hl⟩
 |got u r=>
  rw[hp]at hm hr hl hs;obtain⟨rfl,hO,-⟩:=hm;exact⟨rfl,hK,h.stepX hK hO hs hl⟩
variable {Bd:Nat}
set_option maxRecDepth 100000
theorem KeepX.new {o:Nat}{M M':St}(h:KeepX o M M')(cs:List AV):KeepX o M (M'.new cs):=by
 have:=h.nobj;exact⟨by simp[St.new];omega,fun p hp hne=>by simp[St.new];rw[if_neg (by omega)];exact h.obj p hp hne,h.ver,h.ntop,h.top⟩
theorem KeepX.putN {o p:Nat}{M M':St}(h:KeepX o M M')(hp:M.nobj<=p)(cs:List AV):KeepX o M (M'.put p cs):=
 ⟨h.nobj,fun q hq hne=>by simp[St.put];rw[if_neg (by omega)];exact h.obj q hq hne,fun q hq hne=>by simp[St.put];rw[if_neg (by omega)];exact h.ver q hq hne,h.ntop,h.top⟩
theorem KeepX.lay {o:Nat}{a b:St}(h:KeepX o a b)(n:Nat):KeepX o a (b.lay n):=by
 have:=h.ntop;exact⟨h.nobj,h.obj,h.ver,by simp[St.lay];omega,fun k hk=>by simp[St.lay];rw[if_neg (by omega)];exact h.top k hk⟩
def Ap:Tx->Bool×Int
 |[]=>(false,0)
 |b::r=>if A3 b.toNat=true then (true,(b.toNat:Int)-65)else (false,G1 (b::r))
theorem Ef {b:UInt8}{r:Tx}(h:A3 b.toNat=true):Ap (b::r)=(true,(b.toNat:Int)-65):=by unfold Ap;dsimp only;rw[if_pos h]
theorem Kr {b:UInt8}{r:Tx}(h:A3 b.toNat=false):Ap (b::r)=(false,G1 (b::r)):=by unfold Ap;dsimp only;rw[if_neg (by rw[h];simp)]
def Pm (x:Tx):List AV:=[sc (.bool (Ap x).1),sc (.int .i64 (Ap x).2)]
def Aw (ts:List Tx):List AV:=ts.flatMap Pm
theorem Ea (ts:List Tx):(Aw ts).length=ts.length*2:=by
 induction ts with
 |nil=>rfl
 |cons a l ih=>unfold Aw at*;rw[List.flatMap_cons,List.length_append,ih];simp[Pm];omega
theorem aC (ts:List Tx)(x:Tx):Aw (ts++[x])=Aw ts++Pm x:=by simp[Aw]
theorem bQ (p:Int->Bool)(n:Nat)(s:Tx):(Av p n s).2<:+s:=⟨(Av p n s).1,(Dp p n s).1.symm⟩
theorem Sk (s:Tx):(Cf s).rest<:+s:=by
 cases s with
 |nil=>exact List.suffix_refl _
 |cons b r=>
  unfold Cf;dsimp only;split
  ·exact List.suffix_cons b r
  split
  ·exact List.suffix_cons b r
  split
  ·exact (bQ Ax 2 r).trans (List.suffix_cons b r)
  ·exact List.suffix_refl _
theorem Ul (t r:Tx)(b:UInt8)(o:Nat)(nm:AV)(ht:t.length<=1000)(hs:(b::r)<:+t)(M:St)(ho:M.obj o=Lx t (b::r) nm)(hn:o<M.nobj)(ad:((b.toNat:Int)==48)=true):
  ACalls Tryz.prog 250 [ptr o 0] M fun x M'=>KeepX o M M'/\M'.obj o=Lx t r nm/\x=sc (.int .i64 0):=by
 have hp:Az 48 (b::r)= .got () r:=by unfold Az;dsimp only;rw[if_pos ad]
 have hT:=Ol t (b::r) o nm 48 ht hs M ho hn;rw[hp]at hT;refine Z9 57 [.tmp 2] Tryz.func250 ?_
 repeat' (first|refine Z1 ?_|(refine Z8 ?_;intro κ hκ)|(refine Z4 ?_;clear hκ κ)|(refine Z2 ?_ ?_<;>intro h ac<;>try exact Xp)|(refine Z5 ?_;refine Xi (hT) ?_;rintro _ _ ⟨aa,rfl,ab,-⟩)|refine Z3 ?_|exact⟨⟩|(apply hκ.out;clear hκ κ))
 first|exact⟨_,rfl,aa,ab,rfl⟩|exact⟨_,rfl,aa,ab⟩|exact⟨_,rfl,aa,rfl⟩|exact⟨_,rfl,rfl⟩
theorem R7 {t:Tx}{o:Nat}{N:List Tx}{id:Nat}{s:Tx}{M:St}(ht:t.length<=1000)(hR:RS Bd t o N id s M):
  ACalls Tryz.prog 216 [ptr o 0] M fun x M'=>∃v k,x=tp [ag [sc (.bool v),sc (.int .i64 k)],sc (.bool (Cf s).ok)]/\KeepX o M M'/\RS Bd t o N id (Cf s).rest M'/\Rd.Val (Cf s) fun w=>Ap w=(v,k):=by
 have ah:Ad8 (RS Bd t o N id s M):=hR;obtain⟨ho,hn,-,hs,-⟩:=hR;have ar:=Hf hs;have au:=Nf hs;have ac:Ad8 ((Cf s).rest.length<=s.length):=(Sk s).length_le;have hrs:Ad8 ((Cf s).rest<:+t):=(Sk s).trans hs;generalize ad:sl id N.length (N.map str)=nm at ho;have ad:Ad8 (sl id N.length (N.map str)=nm):=ad;have aw:Ad8 (M.obj o=Lx t s nm):=ho;unfold Lx V4 at ho;refine Z9 46 [.cell 2 151,.tmp 3] Tryz.func216 ?_
 repeat' (first|refine Z1 ?_|(refine Z8 ?_;intro κ hκ)|(refine Z4 ?_;clear hκ κ)|(refine Z2 ?_ ?_<;>intro h aa<;>try exact Xp)|refine Z3 ?_|exact⟨⟩|(apply hκ.out;clear hκ κ))
 refine Bt Ak (fun _=>True) [9] [0,1,2,3,4,5,6,7,8] [9] (by kernel_rfl) (fun _ _ _ h=>h) ?_;intro κ hκ;cases s with
 |nil=>
  simp only[List.length_nil,Nat.sub_zero]at ho au ar;refine Z3 ?_
  repeat' (first|refine Z1 ?_|(refine Z8 ?_;intro κ hκ)|(refine Z4 ?_;clear hκ κ)|(refine Z2 ?_ ?_<;>intro h aa<;>try exact Xp)|refine Z3 ?_|exact⟨⟩|(apply hκ.out;clear hκ κ))
  have hK:KeepX o M ((M.new [sc (.bool false),sc (.int .i64 0)]).put M.nobj [sc (.bool false),sc (.int .i64 0)]):=((KeepX.refl _ _).new _).putN (Nat.le_refl _) _;refine⟨_,rfl,false,0,rfl,hK,ah.out.stepX hK ?_ hrs.out ac.out,trivial⟩;rw[ad.out,Ai hn,Ae hn];exact aw.out
 |cons b r=>
  simp only[List.length_cons,List.head?_cons]at ho au ar;refine Z3 ?_
  repeat' (first|refine Z1 ?_|(refine Z8 ?_;intro κ hκ)|(refine Z4 ?_;clear hκ κ)|(refine Z2 ?_ ?_<;>intro h aa<;>try exact Xp)|refine Z3 ?_|exact⟨⟩|(apply hκ.out;clear hκ κ))
  refine Bt Ak (fun _=>True) [9] [0,1,2,3,4,5,6,7,8] [9] (by kernel_rfl) (fun _ _ _ h=>h) ?_;intro κ hκ;refine Z3 ?_;have ay:Ax b.toNat=true->48<=(b.toNat:Int)/\(b.toNat:Int)<=57:=fun h=>by simp[Ax]at h;omega
  have an:A3 b.toNat=true->65<=(b.toNat:Int)/\(b.toNat:Int)<=90:=fun h=>by simp[A3]at h;omega
  have am:Ad8 ((M.new [sc (.bool false),sc (.int .i64 0)]).obj o=Lx t (b::r) nm):=by rw[Ad8,Ae hn];exact aw.out
  have ax:o<(M.new [sc (.bool false),sc (.int .i64 0)]).nobj:=by rw[Aa];omega
  have aj:Ad8 (KeepX o M (M.new [sc (.bool false),sc (.int .i64 0)])):=(KeepX.refl _ _).new _;by_cases ab:((b.toNat:Int)==48)=true
  ·have hl:A3 b.toNat=false:=by
    cases hl:A3 b.toNat with
    |false=>rfl
    |true=>have:=an hl;simp at ab;omega
   have hd:Ax b.toNat=true:=by simp at ab;simp[Ax];omega
   have hp:Cf (b::r)= .got [b] r:=by
    unfold Cf;dsimp only;rw[if_neg (by rw[hl];simp),if_pos ab]
   rw[hp]at ac hrs;have hE:Ad8 (Ap [b]=(false,0)):=by
    rw[Ad8,Kr hl];simp at ab;simp[G1];omega
   repeat' (first|refine Z1 ?_|(refine Z8 ?_;intro κ hκ)|(refine Z4 ?_;clear hκ κ)|(refine Z2 ?_ ?_<;>intro h aa<;>try exact Xp)|(refine Z5 ?_;first|(refine Xi (Fs _ _) ?_;rintro _ _ ⟨rfl,rfl⟩)|(refine Xi (Fq _ _) ?_;rintro _ _ ⟨rfl,rfl⟩)|(refine Xi (Ul t r b o nm ht hs _ am.out ax ab) ?_;rintro _ _ ⟨ae,ai,rfl⟩;(have ak:=ae.obj M.nobj (by rw[Aa];omega) (by omega);rw[Am]at ak;have ap:Ad8 _:=ae;have ao:Ad8 _:=ai;clear ae ai)))|refine Z3 ?_|exact⟨⟩|(apply hκ.out;clear hκ κ))
   rename_i M1;have hK:KeepX o M (M1.put M.nobj [sc (.bool false),sc (.int .i64 0)]):=(aj.out.trans ap.out).putN (Nat.le_refl _) _;refine⟨_,rfl,false,0,rfl,hK,ah.out.stepX hK ?_ hrs.out ac.out,hE.out⟩;rw[ad.out,Ai hn];exact ao.out
  ·have ab:((b.toNat:Int)==48)=false:=by simpa using ab
   by_cases hl:A3 b.toNat=true
   ·have hp:Cf (b::r)= .got [b] r:=by
     unfold Cf;dsimp only;rw[if_pos hl]
    rw[hp]at ac hrs;have hE:Ad8 (Ap [b]=(true,(b.toNat:Int)-65)):=by
     exact Ef hl
    have an:=an hl;have hw:IntKind.i64.wrap (IntKind.u8.wrap ((b.toNat:Int)-65))=(b.toNat:Int)-65:=by
     rw[Abs.u8w (by omega) (by omega),Abs.i64w (by omega) (by omega)]
    repeat' (first|refine Z1 ?_|(refine Z8 ?_;intro κ hκ)|(refine Z4 ?_;clear hκ κ)|(refine Z2 ?_ ?_<;>intro h aa<;>try exact Xp)|(refine Z5 ?_;refine Xi (Fs _ _) ?_;rintro _ _ ⟨rfl,rfl⟩)|refine Z3 ?_|exact⟨⟩|(apply hκ.out;clear hκ κ))
    have hK:KeepX o M (((M.new [sc (.bool false),sc (.int .i64 0)]).put o [str t,sc (.int .i64 ((t.length-(r.length+1):Nat)+1)),nm]).put M.nobj [sc (.bool true),sc (.int .i64 ((b.toNat:Int)-65))]):=(aj.out.put _).putN (Nat.le_refl _) _;refine⟨_,rfl,true,_,rfl,hK,ah.out.stepX hK ?_ hrs.out ac.out,hE.out⟩;rw[ad.out,Ai hn,Aj];unfold Lx V4;rw[show ((t.length-(r.length+1):Nat):Int)+1=((t.length-r.length:Nat):Int)by omega];rfl
   ·have hl:A3 b.toNat=false:=by simpa using hl
    by_cases hd:Ax b.toNat=true
    ·have hN:=P6 t (b::r) o nm ht hs _ am.out ax (fun b' r' e=>by cases e;exact ab);have hw:Av Ax 3 (b::r)=(b::(Av Ax 2 r).1,(Av Ax 2 r).2):=by rw[Av,if_pos hd]
     rw[hw]at hN;have hN:Ad8 _:=hN;have af:Fz b.toNat=true:=by
      rcases digit_iff.1 hd with h|h
      ·exact h
      ·rw[ab]at h;cases h
     have hp:Cf (b::r)= .got (b::(Av Ax 2 r).1) (Av Ax 2 r).2:=by
      unfold Cf;dsimp only;rw[if_neg (by rw[hl];simp),if_neg (by rw[ab];simp),if_pos af]
     rw[hp]at ac hrs;have hE:Ad8 (Ap (b::(Av Ax 2 r).1)=(false,G1 (b::(Av Ax 2 r).1))):=by
      exact Kr hl
     clear hw
     repeat' (first|refine Z1 ?_|(refine Z8 ?_;intro κ hκ)|(refine Z4 ?_;clear hκ κ)|(refine Z2 ?_ ?_<;>intro h aa<;>try exact Xp)|(refine Z5 ?_;first|(refine Xi (Fs _ _) ?_;rintro _ _ ⟨rfl,rfl⟩)|(refine Xi (Fq _ _) ?_;rintro _ _ ⟨rfl,rfl⟩)|(refine Xi (hN.out) ?_;rintro _ _ ⟨ae,q,ai,hq,av,rfl⟩;(have ak:=ae.obj M.nobj (by rw[Aa];omega) (by omega);rw[Am]at ak;have ap:Ad8 _:=ae;have ao:Ad8 _:=ai;have HQ:Ad8 _:=av;clear ae ai av)))|refine Z3 ?_|exact⟨⟩|(apply hκ.out;clear hκ κ))
     rename_i M1;have hK:KeepX o M (M1.put M.nobj [sc (.bool false),sc (.int .i64 (G1 (b::(Av Ax 2 r).1)))]):=(aj.out.trans ap.out).putN (Nat.le_refl _) _;refine⟨_,rfl,false,_,rfl,hK,ah.out.stepX hK ?_ hrs.out ac.out,hE.out⟩;rw[ad.out,Ai hn,show (Rd.got (b::(Av Ax 2 r).1) (Av Ax 2 r).2).rest=q from HQ.out.symm];exact ao.out
    ·have hd:Ax b.toNat=false:=by simpa using hd
     have af:Fz b.toNat=false:=by
      cases af:Fz b.toNat with
      |false=>rfl
      |true=>rw[digit_iff.2 (.inl af)]at hd;cases hd
     have hp:Cf (b::r)= .bad (b::r):=by
      unfold Cf;dsimp only;rw[if_neg (by rw[hl];simp),if_neg (by rw[ab];simp),if_neg (by rw[af];simp)]
     rw[hp]at ac hrs
     repeat' (first|refine Z1 ?_|(refine Z8 ?_;intro κ hκ)|(refine Z4 ?_;clear hκ κ)|(refine Z2 ?_ ?_<;>intro h aa<;>try exact Xp)|(refine Z5 ?_;first|(refine Xi (Fs _ _) ?_;rintro _ _ ⟨rfl,rfl⟩)|(refine Xi (Fq _ _) ?_;rintro _ _ ⟨rfl,rfl⟩))|refine Z3 ?_|exact⟨⟩|(apply hκ.out;clear hκ κ))
     have hK:KeepX o M ((M.new [sc (.bool false),sc (.int .i64 0)]).put M.nobj [sc (.bool false),sc (.int .i64 0)]):=aj.out.putN (Nat.le_refl _) _;refine⟨_,rfl,false,0,rfl,hK,ah.out.stepX hK ?_ hrs.out ac.out,trivial⟩;rw[ad.out,Ai hn];exact am.out
end Go.Proofs.YtmoeoppbmhfbpabGreatDoorH
