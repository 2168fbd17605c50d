import Derived.Test.YtmoeoppbmhfbpabGreatDoorJGramD
set_option maxHeartbeats 16000000
set_option maxRecDepth 100000
set_option linter.all false
namespace Go.Proofs.YtmoeoppbmhfbpabGreatDoorJ
open Go.Abs
variable {Bd:Nat}
namespace Rd
def ok {α:Type}:Rd α->Bool
 |.bad _=>false
 |.got _ _=>true
def rest {α:Type}:Rd α->Tx
 |.bad e=>e
 |.got _ r=>r
def Val {α:Type}:Rd α->(α->Prop)->Prop
 |.bad _,_=>True
 |.got a _,P=>P a
theorem ok_true {α:Type}{x:Rd α}(h:x.ok=true):∃a r,x= .got a r:=by
 cases x with
 |bad e=>cases h
 |got a r=>exact⟨a,r,rfl⟩
theorem ok_false {α:Type}{x:Rd α}(h:x.ok=false):∃e,x= .bad e:=by
 cases x with
 |bad e=>exact⟨e,rfl⟩
 |got a r=>cases h
theorem Fh {α β γ:Type}(x:Rd α)(f:α->Tx->Rd β)(g:β->Tx->Rd γ):(x.bnd f).bnd g=x.bnd fun a r=>(f a r).bnd g:=by cases x<;>rfl
theorem Val.mono {α:Type}{x:Rd α}{P Q:α->Prop}(h:Val x P)(k:∀a,P a->Q a):Val x Q:=by
 cases x with
 |bad e=>trivial
 |got a r=>exact k a h
end Rd
def P9 {α:Type}(f:Tx->Rd α)(n:Nat)(s:Tx):Rd (List α):=(f s).bnd fun x r=>(Dg f n r).bnd fun xs r=>.got (x::xs) r
def sepI {α:Type}(f:Tx->Rd α)(n:Nat)(s:Tx)(xs:List α)(q:Tx):Prop:=
 xs.length<=n+1/\0<xs.length/\P9 f n s=(Dg f (n+1-xs.length) q).bnd fun ys r=>.got (xs++ys) r
theorem sepI.first {α:Type}{f:Tx->Rd α}{n:Nat}{s r:Tx}{x:α}(h:f s= .got x r):sepI f n s [x] r:=by
 refine⟨by simp,by simp,?_⟩;unfold P9;rw[h];simp only[Rd.bnd,List.length_singleton,Nat.add_sub_cancel,List.singleton_append]
theorem sepI.none {α:Type}{f:Tx->Rd α}{n:Nat}{s e:Tx}(h:f s= .bad e):P9 f n s= .bad e:=by
 unfold P9;rw[h];rfl
theorem sepI.full {α:Type}{f:Tx->Rd α}{n:Nat}{s q:Tx}{xs:List α}(h:sepI f n s xs q)(hl:n+1<=xs.length):P9 f n s= .got xs q:=by
 rw[h.2.2,show n+1-xs.length=0 by omega];simp[Dg,Rd.bnd]
theorem sepI.stop {α:Type}{f:Tx->Rd α}{n:Nat}{s q:Tx}{xs:List α}(h:sepI f n s xs q)(hb:(Aw 44 q).ok=false):P9 f n s= .got xs q:=by
 rw[h.2.2];cases hk:n+1-xs.length with
 |zero=>simp[Dg,Rd.bnd]
 |succ k=>
  cases q with
  |nil=>simp[Dg,Rd.bnd]
  |cons b r=>
   unfold Aw at hb;dsimp only at hb;have aa:((b.toNat:Int)==44)=false:=by
    by_cases hc:((b.toNat:Int)==44)=true
    ·rw[if_pos hc]at hb;cases hb
    ·simpa using hc
   unfold Dg;rw[if_neg (by rw[aa];simp)];simp[Rd.bnd]
theorem sepI.fail {α:Type}{f:Tx->Rd α}{n:Nat}{s q r e:Tx}{xs:List α}{u:Unit}(h:sepI f n s xs q)(hl:xs.length<n+1)(hb:Aw 44 q= .got u r)(hf:f r= .bad e):P9 f n s= .bad e:=by
 rw[h.2.2];obtain⟨k,hk⟩:∃k,n+1-xs.length=k+1:=⟨n-xs.length,by omega⟩;rw[hk];cases q with
 |nil=>cases hb
 |cons b q=>
  unfold Aw at hb;dsimp only at hb;by_cases hc:((b.toNat:Int)==44)=true
  ·rw[if_pos hc]at hb;cases hb;rw[Dg,if_pos hc,hf];rfl
  ·rw[if_neg hc]at hb;cases hb
theorem sepI.next {α:Type}{f:Tx->Rd α}{n:Nat}{s q r r2:Tx}{xs:List α}{u:Unit}{x:α}(h:sepI f n s xs q)(hl:xs.length<n+1)(hb:Aw 44 q= .got u r)(hf:f r= .got x r2):sepI f n s (xs++[x]) r2:=by
 refine⟨by simp;omega,by simp,?_⟩;rw[h.2.2];obtain⟨k,hk⟩:∃k,n+1-xs.length=k+1:=⟨n-xs.length,by omega⟩;rw[hk,show n+1-(xs++[x]).length=k by simp;omega];cases q with
 |nil=>cases hb
 |cons b q=>
  unfold Aw at hb;dsimp only at hb;by_cases hc:((b.toNat:Int)==44)=true
  ·rw[if_pos hc]at hb;cases hb;rw[Dg,if_pos hc,hf];simp only[Rd.bnd];cases Dg f k r2<;>simp[Rd.bnd]
  ·rw[if_neg hc]at hb;cases hb
structure KeepR (o id:Nat)(I I':St):Prop where
 nobj:I.nobj<=I'.nobj
 obj:∀p,p<I.nobj->p≠o->I'.obj p=I.obj p
 ver:∀p,p<I.nobj->p≠o->I'.ver p=I.ver p
 ntop:I.ntop<=I'.ntop
 top:∀k,k<I.ntop->k+2≠id->I'.top k=I.top k
theorem KeepR.refl (o id:Nat)(I:St):KeepR o id I I:=⟨Nat.le_refl _,fun _ _ _=>rfl,fun _ _ _=>rfl,Nat.le_refl _,fun _ _ _=>rfl⟩
theorem KeepX.kr {o:Nat}{I I':St}(h:KeepX o I I')(id:Nat):KeepR o id I I':=⟨h.nobj,h.obj,h.ver,h.ntop,fun k hk _=>h.top k hk⟩
theorem Keep.kr {I I':St}(h:Keep I I')(o id:Nat):KeepR o id I I':=⟨h.nobj,fun p hp _=>h.obj p hp,fun p hp _=>h.ver p hp,h.ntop,fun k hk _=>h.top k hk⟩
theorem KeepR.trans {o id id':Nat}{a b c:St}(h:KeepR o id a b)(hi:id'=id\/a.ntop+2<=id')(k:KeepR o id' b c):KeepR o id a c:=
 ⟨Nat.le_trans h.nobj k.nobj,fun p hp aa=>(k.obj p (Nat.lt_of_lt_of_le hp h.nobj) aa).trans (h.obj p hp aa),fun p hp aa=>(k.ver p (Nat.lt_of_lt_of_le hp h.nobj) aa).trans (h.ver p hp aa),
  Nat.le_trans h.ntop k.ntop,fun j hj aa=>(k.top j (Nat.lt_of_lt_of_le hj h.ntop) (by omega)).trans (h.top j hj aa)⟩
theorem KeepR.put {o id:Nat}{I I':St}(h:KeepR o id I I')(cs:List AV):KeepR o id I (I'.put o cs):=
 ⟨h.nobj,fun p hp aa=>by simp[St.put,aa];exact h.obj p hp aa,fun p hp aa=>by simp[St.put,aa];exact h.ver p hp aa,h.ntop,h.top⟩
theorem KeepR.lay {o id:Nat}{a b:St}(h:KeepR o id a b)(n:Nat):KeepR o id a (b.lay n):=by
 have:=h.ntop;exact⟨h.nobj,h.obj,h.ver,by simp[St.lay];omega,fun k hk aa=>by simp[St.lay];rw[if_neg (by omega)];exact h.top k hk aa⟩
theorem KeepR.new {o id:Nat}{a b:St}(h:KeepR o id a b)(cs:List AV):KeepR o id a (b.new cs):=by
 have:=h.nobj;exact⟨by simp[St.new];omega,fun p hp aa=>by simp[St.new];rw[if_neg (by omega)];exact h.obj p hp aa,h.ver,h.ntop,h.top⟩
theorem KeepR.raise {o id:Nat}{a b:St}(h:KeepR o id a b){k:Nat}(hk:a.ntop<=k\/k+2=id)(n:Nat):KeepR o id a (b.raise k n):=
 ⟨h.nobj,h.obj,h.ver,h.ntop,fun j hj aa=>by simp[St.raise];rw[if_neg (by omega)];exact h.top j hj aa⟩
theorem KeepR.keep {o id:Nat}{a b c:St}(h:Keep a b)(k:KeepR o id b c)(ho:a.nobj<=o)(hi:id<2\/a.ntop+2<=id):Keep a c:=
 ⟨Nat.le_trans h.nobj k.nobj,fun p hp=>(k.obj p (Nat.lt_of_lt_of_le hp h.nobj) (by omega)).trans (h.obj p hp),fun p hp=>(k.ver p (Nat.lt_of_lt_of_le hp h.nobj) (by omega)).trans (h.ver p hp),
  Nat.le_trans h.ntop k.ntop,fun j hj=>(k.top j (Nat.lt_of_lt_of_le hj h.ntop) (by omega)).trans (h.top j hj)⟩
def OwnN (I:St)(id n:Nat):Prop:=(id=1/\n=0)\/∃k,id=k+2/\k<I.ntop/\I.top k=n/\0<n
theorem OwnN.keepX {o:Nat}{I I':St}{id n:Nat}(h:OwnN I id n)(k:KeepX o I I'):OwnN I' id n:=by
 rcases h with h|⟨j,h1,h3,h4,h5⟩
 ·exact .inl h
 ·exact .inr ⟨j,h1,Nat.lt_of_lt_of_le h3 k.ntop,(k.top j h3).trans h4,h5⟩
theorem Own.keepR {o idn:Nat}{σ0 I I':St}{id n:Nat}(h:Own σ0 I id n)(k:KeepR o idn I I')(aa:id=1\/id≠idn):Own σ0 I' id n:=by
 rcases h with h|⟨j,h1,h2,h3,h4,h5⟩
 ·exact .inl h
 ·exact .inr ⟨j,h1,h2,Nat.lt_of_lt_of_le h3 k.ntop,(k.top j h3 (by omega)).trans h4,h5⟩
theorem OwnN.keepR {o idn:Nat}{I I':St}{id n:Nat}(h:OwnN I id n)(k:KeepR o idn I I')(aa:id=1\/id≠idn):OwnN I' id n:=by
 rcases h with h|⟨j,h1,h3,h4,h5⟩
 ·exact .inl h
 ·exact .inr ⟨j,h1,Nat.lt_of_lt_of_le h3 k.ntop,(k.top j h3 (by omega)).trans h4,h5⟩
theorem Qs {I:St}{n k:Nat}(h:k<I.ntop):(I.lay n).top k=I.top k:=by simp[St.lay];intro e;omega
theorem mL {I:St}{n k j:Nat}(h:j≠k):(I.raise k n).top j=I.top j:=by simp[St.raise,h]
theorem Lk {P:Program}{t:TypeId}{z b:Nat}{zc:List Value}{σ0 I:St}{o idn id id2 n m m':Nat}{xs ys:List AV}{K:AV->St->Prop}(ht:Lp P t=some (z,b,zc))(hK:KeepR o idn σ0 I)(hO:Own σ0 I id n)
  (hz:0<z) (hzc:zc.length=z) (hx:xs.length=n*z) (hy:ys.length=m*z) (hf:ys.all flat=true) (hm:0<m) (hb:(n+m)*b<=140737488355328) (hl:n+m<=1099511627776)
  (h:∀id' I',Own σ0 I' id' (n+m)->KeepR o idn σ0 I'->I'.obj=I.obj->I'.nobj=I.nobj->I'.ver=I.ver->I.ntop<I'.ntop->(∀k,k<I.ntop->k+2≠id->I'.top k=I.top k)->(id'=id\/I.ntop+2<=id')->K (sl id' (n+m) (xs++ys)) I'):Hg P t t (sl id n xs) (sl id2 m ys) (I.lay m') K:=by
 unfold Hg Yz;left;simp only[ht];rw[if_pos ⟨trivial,hz,hzc,hx,hy,hf,hm,hb,hl⟩];rcases hO with⟨rfl,rfl⟩|⟨k,rfl,h2,h3,h4,h5⟩
 ·have aa:xs=[]:=List.eq_nil_of_length_eq_zero (by simpa using hx);subst aa;have ac:=hK.ntop
  have:=h ((I.lay m').ntop+2) ((I.lay m').lay m) (by rw[Nat.zero_add];exact .inr ⟨(I.lay m').ntop,rfl,by simp[St.lay];omega,by simp[St.lay],by simp[St.lay],hm⟩) ((hK.lay m').lay m) rfl rfl rfl (by simp[St.lay];omega)
   (fun j hj _=>by rw[Qs (by rw[Jc];omega),Qs hj]) (by rw[Jc];omega)
  simpa using this
 ·have e1:(I.lay m').top k=n:=by simp[St.lay];rw[if_neg (by omega)];exact h4
  simp only;rw[if_pos ⟨e1,h5⟩]
  exact h (k+2) _ (.inr ⟨k,rfl,h2,by simp[St.raise,St.lay];omega,by simp[St.raise],by omega⟩) ((hK.lay m').raise (.inl h2) _) rfl rfl rfl (by simp[St.raise,St.lay])
   (fun j hj ab=>by rw[mL (by omega),Qs hj]) (.inl rfl)
theorem iS {P:Program}{t:TypeId}{z b:Nat}{zc:List Value}{σ0 I:St}{o id id2 n m m':Nat}{xs ys:List AV}{K:AV->St->Prop}(ht:Lp P t=some (z,b,zc))(hO:OwnN I id n)
  (hz:0<z) (hzc:zc.length=z) (hx:xs.length=n*z) (hy:ys.length=m*z) (hf:ys.all flat=true) (hm:0<m) (hb:(n+m)*b<=140737488355328) (hl:n+m<=1099511627776)
  (h:∀id' I',OwnN I' id' (n+m)->KeepR o id I I'->I'.obj=I.obj->I'.nobj=I.nobj->I'.ver=I.ver->(id'=id\/I.ntop+2<=id')->K (sl id' (n+m) (xs++ys)) I'):Hg P t t (sl id n xs) (sl id2 m ys) (I.lay m') K:=by
 unfold Hg Yz;left;simp only[ht];rw[if_pos ⟨trivial,hz,hzc,hx,hy,hf,hm,hb,hl⟩];have hR:=KeepR.refl o id I;rcases hO with⟨rfl,rfl⟩|⟨k,rfl,h3,h4,h5⟩
 ·have aa:xs=[]:=List.eq_nil_of_length_eq_zero (by simpa using hx);subst aa;have:=h ((I.lay m').ntop+2) ((I.lay m').lay m) (by rw[Nat.zero_add];exact .inr ⟨(I.lay m').ntop,rfl,by simp[St.lay],by simp[St.lay],hm⟩) ((hR.lay m').lay m) rfl rfl rfl (by rw[Jc];omega);simpa using this
 ·have e1:(I.lay m').top k=n:=by simp[St.lay];rw[if_neg (by omega)];exact h4
  simp only;rw[if_pos ⟨e1,h5⟩];exact h (k+2) _ (.inr ⟨k,rfl,by simp[St.raise,St.lay];omega,by simp[St.raise],by omega⟩) ((hR.lay m').raise (.inr rfl) _) rfl rfl rfl (.inl rfl)
structure RS (Bd:Nat)(t:Tx)(o:Nat)(N:List Tx)(id:Nat)(s:Tx)(I:St):Prop where
 obj:I.obj o=J6 t s (sl id N.length (N.map str))
 lt:o<I.nobj
 own:OwnN I id N.length
 suf:s<:+t
 len:N.length+s.length<=Bd+t.length/\Bd<=1000
structure Rs (o:Nat)(I:St)(id:Nat)(I':St)(id':Nat):Prop where
 keep:KeepR o id I I'
 nid:id'=id\/I.ntop+2<=id'
theorem Rs.refl (o:Nat)(I:St)(id:Nat):Rs o I id I id:=⟨KeepR.refl _ _ _,.inl rfl⟩
theorem Rs.trans {o:Nat}{a b c:St}{i j k:Nat}(h:Rs o a i b j)(g:Rs o b j c k):Rs o a i c k:=
 ⟨h.keep.trans h.nid g.keep,by have:=h.keep.ntop;rcases h.nid with h1|h1<;>rcases g.nid with h2|h2<;>omega⟩
theorem Rs.ofX {o:Nat}{a b:St}{i:Nat}(h:KeepX o a b):Rs o a i b i:=⟨h.kr i,.inl rfl⟩
theorem RS.stepX {t:Tx}{o:Nat}{N:List Tx}{id:Nat}{s r:Tx}{I I':St}(h:RS Bd t o N id s I)(k:KeepX o I I')(ho:I'.obj o=J6 t r (sl id N.length (N.map str)))(hr:r<:+t)(hl:r.length<=s.length):RS Bd t o N id r I':=
 ⟨ho,Nat.lt_of_lt_of_le h.lt k.nobj,h.own.keepX k,hr,by have:=h.len;omega⟩
theorem gA (c:Int)(s:Tx):(Aw c s).rest<:+s:=by
 cases s with
 |nil=>exact List.suffix_refl _
 |cons b r=>
  unfold Aw;dsimp only;split
  ·exact List.suffix_cons b r
  ·exact List.suffix_refl _
theorem Ht {t:Tx}{o:Nat}{N:List Tx}{id:Nat}{s:Tx}{c:Int}{I:St}(ht:t.length<=1000)(h:RS Bd t o N id s I):
  ACalls Tryz.prog 132 [ptr o 0,sc (.int .u8 c)] I fun x I'=>x=sc (.bool (Aw c s).ok)/\KeepX o I I'/\RS Bd t o N id (Aw c s).rest I':=by
 refine ACalls.mono (Ob t s o _ c ht h.suf I h.obj h.lt) ?_;rintro x I' ⟨hK,hm⟩;have hr:=gA c s;have hl:=hr.length_le;have hs:=hr.trans h.suf;cases hp:Aw c s with
 |bad e=>
  rw[hp]at hm hr hl hs;obtain⟨rfl,hO,rfl⟩:=hm;exact⟨rfl,hK,h.stepX hK hO hs hl⟩
 |got u r=>
  rw[hp]at hm hr hl hs;obtain⟨rfl,hO,-⟩:=hm;exact⟨rfl,hK,h.stepX hK hO hs hl⟩
variable {Bd:Nat}
theorem KeepX.new {o:Nat}{I I':St}(h:KeepX o I I')(cs:List AV):KeepX o I (I'.new cs):=by
 have:=h.nobj;exact⟨by simp[St.new];omega,fun p hp aa=>by simp[St.new];rw[if_neg (by omega)];exact h.obj p hp aa,h.ver,h.ntop,h.top⟩
theorem KeepX.putN {o p:Nat}{I I':St}(h:KeepX o I I')(hp:I.nobj<=p)(cs:List AV):KeepX o I (I'.put p cs):=
 ⟨h.nobj,fun q hq aa=>by simp[St.put];rw[if_neg (by omega)];exact h.obj q hq aa,fun q hq aa=>by simp[St.put];rw[if_neg (by omega)];exact h.ver q hq aa,h.ntop,h.top⟩
theorem KeepX.lay {o:Nat}{a b:St}(h:KeepX o a b)(n:Nat):KeepX o a (b.lay n):=by
 have:=h.ntop;exact⟨h.nobj,h.obj,h.ver,by simp[St.lay];omega,fun k hk=>by simp[St.lay];rw[if_neg (by omega)];exact h.top k hk⟩
def Az:Tx->Bool×Int
 |[]=>(false,0)
 |b::r=>if Bl b.toNat=true then (true,(b.toNat:Int)-65)else (false,F8 (b::r))
theorem D7 {b:UInt8}{r:Tx}(h:Bl b.toNat=true):Az (b::r)=(true,(b.toNat:Int)-65):=by unfold Az;dsimp only;rw[if_pos h]
theorem Gr {b:UInt8}{r:Tx}(h:Bl b.toNat=false):Az (b::r)=(false,F8 (b::r)):=by unfold Az;dsimp only;rw[if_neg (by rw[h];simp)]
def Pe (x:Tx):List AV:=[sc (.bool (Az x).1),sc (.int .i64 (Az x).2)]
def Av (ts:List Tx):List AV:=ts.flatMap Pe
theorem F4 (ts:List Tx):(Av ts).length=ts.length*2:=by
 induction ts with
 |nil=>rfl
 |cons a l ih=>unfold Av at*;rw[List.flatMap_cons,List.length_append,ih];simp[Pe];omega
theorem Zz (ts:List Tx)(x:Tx):Av (ts++[x])=Av ts++Pe x:=by simp[Av]
theorem bJ (p:Int->Bool)(n:Nat)(s:Tx):(As p n s).2<:+s:=⟨(As p n s).1,(D4 p n s).1.symm⟩
theorem Sf (s:Tx):(Ca s).rest<:+s:=by
 cases s with
 |nil=>exact List.suffix_refl _
 |cons b r=>
  unfold Ca;dsimp only;split
  ·exact List.suffix_cons b r
  split
  ·exact List.suffix_cons b r
  split
  ·exact (bJ A0 2 r).trans (List.suffix_cons b r)
  ·exact List.suffix_refl _
theorem Ul (t r:Tx)(b:UInt8)(o:Nat)(nm:AV)(ht:t.length<=1000)(hs:(b::r)<:+t)(I:St)(ho:I.obj o=J6 t (b::r) nm)(hn:o<I.nobj)(ad:((b.toNat:Int)==48)=true):
  ACalls Tryz.prog 250 [ptr o 0] I fun x I'=>KeepX o I I'/\I'.obj o=J6 t r nm/\x=sc (.int .i64 0):=by
 have hp:Aw 48 (b::r)= .got () r:=by unfold Aw;dsimp only;rw[if_pos ad]
 have hT:=Ob t (b::r) o nm 48 ht hs I ho hn;rw[hp]at hT;refine Z9 57 [.tmp 2] Tryz.func250 ?_
 repeat' (first|refine Z1 ?_|(refine Z8 ?_;intro κ hκ)|(refine Z4 ?_;clear hκ κ)|(refine Z2 ?_ ?_<;>intro h ac<;>try exact Xp)|(refine Z5 ?_;refine Xi (hT) ?_;rintro _ _ ⟨aa,rfl,ab,-⟩)|refine Z3 ?_|exact⟨⟩|(apply hκ.out;clear hκ κ))
 first|exact⟨_,rfl,aa,ab,rfl⟩|exact⟨_,rfl,aa,ab⟩|exact⟨_,rfl,aa,rfl⟩|exact⟨_,rfl,rfl⟩
theorem R3 {t:Tx}{o:Nat}{N:List Tx}{id:Nat}{s:Tx}{I:St}(ht:t.length<=1000)(hR:RS Bd t o N id s I):
  ACalls Tryz.prog 216 [ptr o 0] I fun x I'=>∃v k,x=tp [ag [sc (.bool v),sc (.int .i64 k)],sc (.bool (Ca s).ok)]/\KeepX o I I'/\RS Bd t o N id (Ca s).rest I'/\Rd.Val (Ca s) fun w=>Az w=(v,k):=by
 have af:Aec (RS Bd t o N id s I):=hR;obtain⟨ho,hn,-,hs,-⟩:=hR;have ap:=Gp hs;have au:=Mt hs;have ac:Aec ((Ca s).rest.length<=s.length):=(Sf s).length_le;have hrs:Aec ((Ca s).rest<:+t):=(Sf s).trans hs;generalize hnm:sl id N.length (N.map str)=nm at ho;have hnm:Aec (sl id N.length (N.map str)=nm):=hnm;have aw:Aec (I.obj o=J6 t s nm):=ho;unfold J6 P6 at ho;refine Z9 46 [.cell 2 151,.tmp 3] Tryz.func216 ?_
 repeat' (first|refine Z1 ?_|(refine Z8 ?_;intro κ hκ)|(refine Z4 ?_;clear hκ κ)|(refine Z2 ?_ ?_<;>intro h aa<;>try exact Xp)|refine Z3 ?_|exact⟨⟩|(apply hκ.out;clear hκ κ))
 refine A1 Ah (fun _=>True) [9] [0,1,2,3,4,5,6,7,8] [9] (by kernel_rfl) (fun _ _ _ h=>h) ?_;intro κ hκ;cases s with
 |nil=>
  simp only[List.length_nil,Nat.sub_zero]at ho au ap;refine Z3 ?_
  repeat' (first|refine Z1 ?_|(refine Z8 ?_;intro κ hκ)|(refine Z4 ?_;clear hκ κ)|(refine Z2 ?_ ?_<;>intro h aa<;>try exact Xp)|refine Z3 ?_|exact⟨⟩|(apply hκ.out;clear hκ κ))
  have hK:KeepX o I ((I.new [sc (.bool false),sc (.int .i64 0)]).put I.nobj [sc (.bool false),sc (.int .i64 0)]):=((KeepX.refl _ _).new _).putN (Nat.le_refl _) _;refine⟨_,rfl,false,0,rfl,hK,af.out.stepX hK ?_ hrs.out ac.out,trivial⟩;rw[hnm.out,Aj hn,Ae hn];exact aw.out
 |cons b r=>
  simp only[List.length_cons,List.head?_cons]at ho au ap;refine Z3 ?_
  repeat' (first|refine Z1 ?_|(refine Z8 ?_;intro κ hκ)|(refine Z4 ?_;clear hκ κ)|(refine Z2 ?_ ?_<;>intro h aa<;>try exact Xp)|refine Z3 ?_|exact⟨⟩|(apply hκ.out;clear hκ κ))
  refine A1 Ah (fun _=>True) [9] [0,1,2,3,4,5,6,7,8] [9] (by kernel_rfl) (fun _ _ _ h=>h) ?_;intro κ hκ;refine Z3 ?_;have ay:A0 b.toNat=true->48<=(b.toNat:Int)/\(b.toNat:Int)<=57:=fun h=>by simp[A0]at h;omega
  have am:Bl b.toNat=true->65<=(b.toNat:Int)/\(b.toNat:Int)<=90:=fun h=>by simp[Bl]at h;omega
  have ak:Aec ((I.new [sc (.bool false),sc (.int .i64 0)]).obj o=J6 t (b::r) nm):=by rw[Aec,Ae hn];exact aw.out
  have ax:o<(I.new [sc (.bool false),sc (.int .i64 0)]).nobj:=by rw[Aa];omega
  have ai:Aec (KeepX o I (I.new [sc (.bool false),sc (.int .i64 0)])):=(KeepX.refl _ _).new _;by_cases ab:((b.toNat:Int)==48)=true
  ·have hl:Bl b.toNat=false:=by
    cases hl:Bl b.toNat with
    |false=>rfl
    |true=>have:=am hl;simp at ab;omega
   have hd:A0 b.toNat=true:=by simp at ab;simp[A0];omega
   have hp:Ca (b::r)= .got [b] r:=by
    unfold Ca;dsimp only;rw[if_neg (by rw[hl];simp),if_pos ab]
   rw[hp]at ac hrs;have hE:Aec (Az [b]=(false,0)):=by
    rw[Aec,Gr hl];simp at ab;simp[F8];omega
   repeat' (first|refine Z1 ?_|(refine Z8 ?_;intro κ hκ)|(refine Z4 ?_;clear hκ κ)|(refine Z2 ?_ ?_<;>intro h aa<;>try exact Xp)|(refine Z5 ?_;first|(refine Xi (Fz _ _) ?_;rintro _ _ ⟨rfl,rfl⟩)|(refine Xi (Fy _ _) ?_;rintro _ _ ⟨rfl,rfl⟩)|(refine Xi (Ul t r b o nm ht hs _ ak.out ax ab) ?_;rintro _ _ ⟨ad,ah,rfl⟩;(have aj:=ad.obj I.nobj (by rw[Aa];omega) (by omega);rw[Ao]at aj;have ao:Aec _:=ad;have an:Aec _:=ah;clear ad ah)))|refine Z3 ?_|exact⟨⟩|(apply hκ.out;clear hκ κ))
   rename_i I1;have hK:KeepX o I (I1.put I.nobj [sc (.bool false),sc (.int .i64 0)]):=(ai.out.trans ao.out).putN (Nat.le_refl _) _;refine⟨_,rfl,false,0,rfl,hK,af.out.stepX hK ?_ hrs.out ac.out,hE.out⟩;rw[hnm.out,Aj hn];exact an.out
  ·have ab:((b.toNat:Int)==48)=false:=by simpa using ab
   by_cases hl:Bl b.toNat=true
   ·have hp:Ca (b::r)= .got [b] r:=by
     unfold Ca;dsimp only;rw[if_pos hl]
    rw[hp]at ac hrs;have hE:Aec (Az [b]=(true,(b.toNat:Int)-65)):=by
     exact D7 hl
    have am:=am hl;have hw:IntKind.i64.wrap (IntKind.u8.wrap ((b.toNat:Int)-65))=(b.toNat:Int)-65:=by
     rw[Abs.u8w (by omega) (by omega),Abs.i64w (by omega) (by omega)]
    repeat' (first|refine Z1 ?_|(refine Z8 ?_;intro κ hκ)|(refine Z4 ?_;clear hκ κ)|(refine Z2 ?_ ?_<;>intro h aa<;>try exact Xp)|(refine Z5 ?_;refine Xi (Fz _ _) ?_;rintro _ _ ⟨rfl,rfl⟩)|refine Z3 ?_|exact⟨⟩|(apply hκ.out;clear hκ κ))
    have hK:KeepX o I (((I.new [sc (.bool false),sc (.int .i64 0)]).put o [str t,sc (.int .i64 ((t.length-(r.length+1):Nat)+1)),nm]).put I.nobj [sc (.bool true),sc (.int .i64 ((b.toNat:Int)-65))]):=(ai.out.put _).putN (Nat.le_refl _) _;refine⟨_,rfl,true,_,rfl,hK,af.out.stepX hK ?_ hrs.out ac.out,hE.out⟩;rw[hnm.out,Aj hn,Ak];unfold J6 P6;rw[show ((t.length-(r.length+1):Nat):Int)+1=((t.length-r.length:Nat):Int)by omega];rfl
   ·have hl:Bl b.toNat=false:=by simpa using hl
    by_cases hd:A0 b.toNat=true
    ·have hN:=P5 t (b::r) o nm ht hs _ ak.out ax (fun b' r' e=>by cases e;exact ab);have hw:As A0 3 (b::r)=(b::(As A0 2 r).1,(As A0 2 r).2):=by rw[As,if_pos hd]
     rw[hw]at hN;have hN:Aec _:=hN;have ae:Fw b.toNat=true:=by
      rcases digit_iff.1 hd with h|h
      ·exact h
      ·rw[ab]at h;cases h
     have hp:Ca (b::r)= .got (b::(As A0 2 r).1) (As A0 2 r).2:=by
      unfold Ca;dsimp only;rw[if_neg (by rw[hl];simp),if_neg (by rw[ab];simp),if_pos ae]
     rw[hp]at ac hrs;have hE:Aec (Az (b::(As A0 2 r).1)=(false,F8 (b::(As A0 2 r).1))):=by
      exact Gr hl
     clear hw
     repeat' (first|refine Z1 ?_|(refine Z8 ?_;intro κ hκ)|(refine Z4 ?_;clear hκ κ)|(refine Z2 ?_ ?_<;>intro h aa<;>try exact Xp)|(refine Z5 ?_;first|(refine Xi (Fz _ _) ?_;rintro _ _ ⟨rfl,rfl⟩)|(refine Xi (Fy _ _) ?_;rintro _ _ ⟨rfl,rfl⟩)|(refine Xi (hN.out) ?_;rintro _ _ ⟨ad,q,ah,hq,av,rfl⟩;(have aj:=ad.obj I.nobj (by rw[Aa];omega) (by omega);rw[Ao]at aj;have ao:Aec _:=ad;have an:Aec _:=ah;have HQ:Aec _:=av;clear ad ah av)))|refine Z3 ?_|exact⟨⟩|(apply hκ.out;clear hκ κ))
     rename_i I1;have hK:KeepX o I (I1.put I.nobj [sc (.bool false),sc (.int .i64 (F8 (b::(As A0 2 r).1)))]):=(ai.out.trans ao.out).putN (Nat.le_refl _) _;refine⟨_,rfl,false,_,rfl,hK,af.out.stepX hK ?_ hrs.out ac.out,hE.out⟩;rw[hnm.out,Aj hn,show (Rd.got (b::(As A0 2 r).1) (As A0 2 r).2).rest=q from HQ.out.symm];exact an.out
    ·have hd:A0 b.toNat=false:=by simpa using hd
     have ae:Fw b.toNat=false:=by
      cases ae:Fw b.toNat with
      |false=>rfl
      |true=>rw[digit_iff.2 (.inl ae)]at hd;cases hd
     have hp:Ca (b::r)= .bad (b::r):=by
      unfold Ca;dsimp only;rw[if_neg (by rw[hl];simp),if_neg (by rw[ab];simp),if_neg (by rw[ae];simp)]
     rw[hp]at ac hrs
     repeat' (first|refine Z1 ?_|(refine Z8 ?_;intro κ hκ)|(refine Z4 ?_;clear hκ κ)|(refine Z2 ?_ ?_<;>intro h aa<;>try exact Xp)|(refine Z5 ?_;first|(refine Xi (Fz _ _) ?_;rintro _ _ ⟨rfl,rfl⟩)|(refine Xi (Fy _ _) ?_;rintro _ _ ⟨rfl,rfl⟩))|refine Z3 ?_|exact⟨⟩|(apply hκ.out;clear hκ κ))
     have hK:KeepX o I ((I.new [sc (.bool false),sc (.int .i64 0)]).put I.nobj [sc (.bool false),sc (.int .i64 0)]):=ai.out.putN (Nat.le_refl _) _;refine⟨_,rfl,false,0,rfl,hK,af.out.stepX hK ?_ hrs.out ac.out,trivial⟩;rw[hnm.out,Aj hn];exact ak.out
end Go.Proofs.YtmoeoppbmhfbpabGreatDoorJ
