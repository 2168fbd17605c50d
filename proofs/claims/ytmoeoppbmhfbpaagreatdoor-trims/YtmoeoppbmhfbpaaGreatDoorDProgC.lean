import Derived.Test.YtmoeoppbmhfbpaaGreatDoorDGram
set_option maxHeartbeats 16000000
set_option maxRecDepth 100000
set_option linter.all false
namespace Go.Proofs.YtmoeoppbmhfbpaaGreatDoorD
open Go.Abs
variable {Bd:Nat}
namespace Rd
def ok {α:Type}:Rd α->Bool
 |.bad _=>false
 |.got _ _=>true
def rest {α:Type}:Rd α->Tx
 |.bad e=>e
 |.got _ r=>r
def Val {α:Type}:Rd α->(α->Prop)->Prop
 |.bad _,_=>True
 |.got a _,P=>P a
theorem ok_true {α:Type}{x:Rd α}(h:x.ok=true):∃a r,x= .got a r:=by
 cases x with
 |bad e=>cases h
 |got a r=>exact⟨a,r,rfl⟩
theorem ok_false {α:Type}{x:Rd α}(h:x.ok=false):∃e,x= .bad e:=by
 cases x with
 |bad e=>exact⟨e,rfl⟩
 |got a r=>cases h
theorem F0 {α β γ:Type}(x:Rd α)(f:α->Tx->Rd β)(g:β->Tx->Rd γ):(x.bnd f).bnd g=x.bnd fun a r=>(f a r).bnd g:=by cases x<;>rfl
theorem Val.mono {α:Type}{x:Rd α}{P Q:α->Prop}(h:Val x P)(k:∀a,P a->Q a):Val x Q:=by
 cases x with
 |bad e=>trivial
 |got a r=>exact k a h
end Rd
def Rn {α:Type}(f:Tx->Rd α)(n:Nat)(s:Tx):Rd (List α):=(f s).bnd fun x r=>(Dr f n r).bnd fun xs r=>.got (x::xs) r
def sepI {α:Type}(f:Tx->Rd α)(n:Nat)(s:Tx)(xs:List α)(q:Tx):Prop:=
 xs.length<=n+1/\0<xs.length/\Rn f n s=(Dr f (n+1-xs.length) q).bnd fun ys r=>.got (xs++ys) r
theorem sepI.first {α:Type}{f:Tx->Rd α}{n:Nat}{s r:Tx}{x:α}(h:f s= .got x r):sepI f n s [x] r:=by
 refine⟨by simp,by simp,?_⟩;unfold Rn;rw[h];simp only[Rd.bnd,List.length_singleton,Nat.add_sub_cancel,List.singleton_append]
theorem sepI.none {α:Type}{f:Tx->Rd α}{n:Nat}{s e:Tx}(h:f s= .bad e):Rn f n s= .bad e:=by
 unfold Rn;rw[h];rfl
theorem sepI.full {α:Type}{f:Tx->Rd α}{n:Nat}{s q:Tx}{xs:List α}(h:sepI f n s xs q)(hl:n+1<=xs.length):Rn f n s= .got xs q:=by
 rw[h.2.2,show n+1-xs.length=0 by omega];simp[Dr,Rd.bnd]
theorem sepI.stop {α:Type}{f:Tx->Rd α}{n:Nat}{s q:Tx}{xs:List α}(h:sepI f n s xs q)(hb:(Az 44 q).ok=false):Rn f n s= .got xs q:=by
 rw[h.2.2];cases hk:n+1-xs.length with
 |zero=>simp[Dr,Rd.bnd]
 |succ k=>
  cases q with
  |nil=>simp[Dr,Rd.bnd]
  |cons b r=>
   unfold Az at hb;dsimp only at hb;have aa:((b.toNat:Int)==44)=false:=by
    by_cases hc:((b.toNat:Int)==44)=true
    ·rw[if_pos hc]at hb;cases hb
    ·simpa using hc
   unfold Dr;rw[if_neg (by rw[aa];simp)];simp[Rd.bnd]
theorem sepI.fail {α:Type}{f:Tx->Rd α}{n:Nat}{s q r e:Tx}{xs:List α}{u:Unit}(h:sepI f n s xs q)(hl:xs.length<n+1)(hb:Az 44 q= .got u r)(hf:f r= .bad e):Rn f n s= .bad e:=by
 rw[h.2.2];obtain⟨k,hk⟩:∃k,n+1-xs.length=k+1:=⟨n-xs.length,by omega⟩;rw[hk];cases q with
 |nil=>cases hb
 |cons b q=>
  unfold Az at hb;dsimp only at hb;by_cases hc:((b.toNat:Int)==44)=true
  ·rw[if_pos hc]at hb;cases hb;rw[Dr,if_pos hc,hf];rfl
  ·rw[if_neg hc]at hb;cases hb
theorem sepI.next {α:Type}{f:Tx->Rd α}{n:Nat}{s q r r2:Tx}{xs:List α}{u:Unit}{x:α}(h:sepI f n s xs q)(hl:xs.length<n+1)(hb:Az 44 q= .got u r)(hf:f r= .got x r2):sepI f n s (xs++[x]) r2:=by
 refine⟨by simp;omega,by simp,?_⟩;rw[h.2.2];obtain⟨k,hk⟩:∃k,n+1-xs.length=k+1:=⟨n-xs.length,by omega⟩;rw[hk,show n+1-(xs++[x]).length=k by simp;omega];cases q with
 |nil=>cases hb
 |cons b q=>
  unfold Az at hb;dsimp only at hb;by_cases hc:((b.toNat:Int)==44)=true
  ·rw[if_pos hc]at hb;cases hb;rw[Dr,if_pos hc,hf];simp only[Rd.bnd];cases Dr f k r2<;>simp[Rd.bnd]
  ·rw[if_neg hc]at hb;cases hb
structure KeepR (o id:Nat)(σ σ':St):Prop where
 nobj:σ.nobj<=σ'.nobj
 obj:∀p,p<σ.nobj->p≠o->σ'.obj p=σ.obj p
 ver:∀p,p<σ.nobj->p≠o->σ'.ver p=σ.ver p
 ntop:σ.ntop<=σ'.ntop
 top:∀k,k<σ.ntop->k+2≠id->σ'.top k=σ.top k
theorem KeepR.refl (o id:Nat)(σ:St):KeepR o id σ σ:=⟨Nat.le_refl _,fun _ _ _=>rfl,fun _ _ _=>rfl,Nat.le_refl _,fun _ _ _=>rfl⟩
theorem KeepX.kr {o:Nat}{σ σ':St}(h:KeepX o σ σ')(id:Nat):KeepR o id σ σ':=⟨h.nobj,h.obj,h.ver,h.ntop,fun k hk _=>h.top k hk⟩
theorem Keep.kr {σ σ':St}(h:Keep σ σ')(o id:Nat):KeepR o id σ σ':=⟨h.nobj,fun p hp _=>h.obj p hp,fun p hp _=>h.ver p hp,h.ntop,fun k hk _=>h.top k hk⟩
theorem KeepR.trans {o id id':Nat}{a b c:St}(h:KeepR o id a b)(hi:id'=id\/a.ntop+2<=id')(k:KeepR o id' b c):KeepR o id a c:=
 ⟨Nat.le_trans h.nobj k.nobj,fun p hp aa=>(k.obj p (Nat.lt_of_lt_of_le hp h.nobj) aa).trans (h.obj p hp aa),fun p hp aa=>(k.ver p (Nat.lt_of_lt_of_le hp h.nobj) aa).trans (h.ver p hp aa),
  Nat.le_trans h.ntop k.ntop,fun j hj aa=>(k.top j (Nat.lt_of_lt_of_le hj h.ntop) (by omega)).trans (h.top j hj aa)⟩
theorem KeepR.put {o id:Nat}{σ σ':St}(h:KeepR o id σ σ')(cs:List AV):KeepR o id σ (σ'.put o cs):=
 ⟨h.nobj,fun p hp aa=>by simp[St.put,aa];exact h.obj p hp aa,fun p hp aa=>by simp[St.put,aa];exact h.ver p hp aa,h.ntop,h.top⟩
theorem KeepR.lay {o id:Nat}{a b:St}(h:KeepR o id a b)(n:Nat):KeepR o id a (b.lay n):=by
 have:=h.ntop;exact⟨h.nobj,h.obj,h.ver,by simp[St.lay];omega,fun k hk aa=>by simp[St.lay];rw[if_neg (by omega)];exact h.top k hk aa⟩
theorem KeepR.new {o id:Nat}{a b:St}(h:KeepR o id a b)(cs:List AV):KeepR o id a (b.new cs):=by
 have:=h.nobj;exact⟨by simp[St.new];omega,fun p hp aa=>by simp[St.new];rw[if_neg (by omega)];exact h.obj p hp aa,h.ver,h.ntop,h.top⟩
theorem KeepR.raise {o id:Nat}{a b:St}(h:KeepR o id a b){k:Nat}(hk:a.ntop<=k\/k+2=id)(n:Nat):KeepR o id a (b.raise k n):=
 ⟨h.nobj,h.obj,h.ver,h.ntop,fun j hj aa=>by simp[St.raise];rw[if_neg (by omega)];exact h.top j hj aa⟩
theorem KeepR.keep {o id:Nat}{a b c:St}(h:Keep a b)(k:KeepR o id b c)(ho:a.nobj<=o)(hi:id<2\/a.ntop+2<=id):Keep a c:=
 ⟨Nat.le_trans h.nobj k.nobj,fun p hp=>(k.obj p (Nat.lt_of_lt_of_le hp h.nobj) (by omega)).trans (h.obj p hp),fun p hp=>(k.ver p (Nat.lt_of_lt_of_le hp h.nobj) (by omega)).trans (h.ver p hp),
  Nat.le_trans h.ntop k.ntop,fun j hj=>(k.top j (Nat.lt_of_lt_of_le hj h.ntop) (by omega)).trans (h.top j hj)⟩
def OwnN (σ:St)(id n:Nat):Prop:=(id=1/\n=0)\/∃k,id=k+2/\k<σ.ntop/\σ.top k=n/\0<n
theorem OwnN.keepX {o:Nat}{σ σ':St}{id n:Nat}(h:OwnN σ id n)(k:KeepX o σ σ'):OwnN σ' id n:=by
 rcases h with h|⟨j,h1,h3,h4,h5⟩
 ·exact .inl h
 ·exact .inr ⟨j,h1,Nat.lt_of_lt_of_le h3 k.ntop,(k.top j h3).trans h4,h5⟩
theorem Own.keepR {o idn:Nat}{σ0 σ σ':St}{id n:Nat}(h:Own σ0 σ id n)(k:KeepR o idn σ σ')(aa:id=1\/id≠idn):Own σ0 σ' id n:=by
 rcases h with h|⟨j,h1,h2,h3,h4,h5⟩
 ·exact .inl h
 ·exact .inr ⟨j,h1,h2,Nat.lt_of_lt_of_le h3 k.ntop,(k.top j h3 (by omega)).trans h4,h5⟩
theorem OwnN.keepR {o idn:Nat}{σ σ':St}{id n:Nat}(h:OwnN σ id n)(k:KeepR o idn σ σ')(aa:id=1\/id≠idn):OwnN σ' id n:=by
 rcases h with h|⟨j,h1,h3,h4,h5⟩
 ·exact .inl h
 ·exact .inr ⟨j,h1,Nat.lt_of_lt_of_le h3 k.ntop,(k.top j h3 (by omega)).trans h4,h5⟩
theorem R5 {σ:St}{n k:Nat}(h:k<σ.ntop):(σ.lay n).top k=σ.top k:=by simp[St.lay];intro e;omega
theorem rF {σ:St}{n k j:Nat}(h:j≠k):(σ.raise k n).top j=σ.top j:=by simp[St.raise,h]
theorem Qt {P:Program}{t:TypeId}{z b:Nat}{zc:List Value}{σ0 σ:St}{o idn id id2 n m m':Nat}{xs ys:List AV}{K:AV->St->Prop}(ht:Np P t=some (z,b,zc))(hK:KeepR o idn σ0 σ)(hO:Own σ0 σ id n)
  (hz:0<z) (hzc:zc.length=z) (hx:xs.length=n*z) (hy:ys.length=m*z) (hf:ys.all flat=true) (hm:0<m) (hb:(n+m)*b<=140737488355328) (hl:n+m<=1099511627776)
  (h:∀id' σ',Own σ0 σ' id' (n+m)->KeepR o idn σ0 σ'->σ'.obj=σ.obj->σ'.nobj=σ.nobj->σ'.ver=σ.ver->σ.ntop<σ'.ntop->(∀k,k<σ.ntop->k+2≠id->σ'.top k=σ.top k)->(id'=id\/σ.ntop+2<=id')->K (sl id' (n+m) (xs++ys)) σ'):Im P t t (sl id n xs) (sl id2 m ys) (σ.lay m') K:=by
 unfold Im cS;left;simp only[ht];rw[if_pos ⟨trivial,hz,hzc,hx,hy,hf,hm,hb,hl⟩];rcases hO with⟨rfl,rfl⟩|⟨k,rfl,h2,h3,h4,h5⟩
 ·have aa:xs=[]:=List.eq_nil_of_length_eq_zero (by simpa using hx);subst aa;have ac:=hK.ntop
  have:=h ((σ.lay m').ntop+2) ((σ.lay m').lay m) (by rw[Nat.zero_add];exact .inr ⟨(σ.lay m').ntop,rfl,by simp[St.lay];omega,by simp[St.lay],by simp[St.lay],hm⟩) ((hK.lay m').lay m) rfl rfl rfl (by simp[St.lay];omega)
   (fun j hj _=>by rw[R5 (by rw[Jv];omega),R5 hj]) (by rw[Jv];omega)
  simpa using this
 ·have e1:(σ.lay m').top k=n:=by simp[St.lay];rw[if_neg (by omega)];exact h4
  simp only;rw[if_pos ⟨e1,h5⟩]
  exact h (k+2) _ (.inr ⟨k,rfl,h2,by simp[St.raise,St.lay];omega,by simp[St.raise],by omega⟩) ((hK.lay m').raise (.inl h2) _) rfl rfl rfl (by simp[St.raise,St.lay])
   (fun j hj ab=>by rw[rF (by omega),R5 hj]) (.inl rfl)
theorem nE {P:Program}{t:TypeId}{z b:Nat}{zc:List Value}{σ0 σ:St}{o id id2 n m m':Nat}{xs ys:List AV}{K:AV->St->Prop}(ht:Np P t=some (z,b,zc))(hO:OwnN σ id n)
  (hz:0<z) (hzc:zc.length=z) (hx:xs.length=n*z) (hy:ys.length=m*z) (hf:ys.all flat=true) (hm:0<m) (hb:(n+m)*b<=140737488355328) (hl:n+m<=1099511627776)
  (h:∀id' σ',OwnN σ' id' (n+m)->KeepR o id σ σ'->σ'.obj=σ.obj->σ'.nobj=σ.nobj->σ'.ver=σ.ver->(id'=id\/σ.ntop+2<=id')->K (sl id' (n+m) (xs++ys)) σ'):Im P t t (sl id n xs) (sl id2 m ys) (σ.lay m') K:=by
 unfold Im cS;left;simp only[ht];rw[if_pos ⟨trivial,hz,hzc,hx,hy,hf,hm,hb,hl⟩];have hR:=KeepR.refl o id σ;rcases hO with⟨rfl,rfl⟩|⟨k,rfl,h3,h4,h5⟩
 ·have aa:xs=[]:=List.eq_nil_of_length_eq_zero (by simpa using hx);subst aa;have:=h ((σ.lay m').ntop+2) ((σ.lay m').lay m) (by rw[Nat.zero_add];exact .inr ⟨(σ.lay m').ntop,rfl,by simp[St.lay],by simp[St.lay],hm⟩) ((hR.lay m').lay m) rfl rfl rfl (by rw[Jv];omega);simpa using this
 ·have e1:(σ.lay m').top k=n:=by simp[St.lay];rw[if_neg (by omega)];exact h4
  simp only;rw[if_pos ⟨e1,h5⟩];exact h (k+2) _ (.inr ⟨k,rfl,by simp[St.raise,St.lay];omega,by simp[St.raise],by omega⟩) ((hR.lay m').raise (.inr rfl) _) rfl rfl rfl (.inl rfl)
structure RS (Bd:Nat)(t:Tx)(o:Nat)(N:List Tx)(id:Nat)(s:Tx)(σ:St):Prop where
 obj:σ.obj o=M8 t s (sl id N.length (N.map str))
 lt:o<σ.nobj
 own:OwnN σ id N.length
 suf:s<:+t
 len:N.length+s.length<=Bd+t.length/\Bd<=1000
structure Rs (o:Nat)(σ:St)(id:Nat)(σ':St)(id':Nat):Prop where
 keep:KeepR o id σ σ'
 nid:id'=id\/σ.ntop+2<=id'
theorem Rs.refl (o:Nat)(σ:St)(id:Nat):Rs o σ id σ id:=⟨KeepR.refl _ _ _,.inl rfl⟩
theorem Rs.trans {o:Nat}{a b c:St}{i j k:Nat}(h:Rs o a i b j)(g:Rs o b j c k):Rs o a i c k:=
 ⟨h.keep.trans h.nid g.keep,by have:=h.keep.ntop;rcases h.nid with h1|h1<;>rcases g.nid with h2|h2<;>omega⟩
theorem Rs.ofX {o:Nat}{a b:St}{i:Nat}(h:KeepX o a b):Rs o a i b i:=⟨h.kr i,.inl rfl⟩
theorem RS.stepX {t:Tx}{o:Nat}{N:List Tx}{id:Nat}{s r:Tx}{σ σ':St}(h:RS Bd t o N id s σ)(k:KeepX o σ σ')(ho:σ'.obj o=M8 t r (sl id N.length (N.map str)))(hr:r<:+t)(hl:r.length<=s.length):RS Bd t o N id r σ':=
 ⟨ho,Nat.lt_of_lt_of_le h.lt k.nobj,h.own.keepX k,hr,by have:=h.len;omega⟩
theorem lP (c:Int)(s:Tx):(Az c s).rest<:+s:=by
 cases s with
 |nil=>exact List.suffix_refl _
 |cons b r=>
  unfold Az;dsimp only;split
  ·exact List.suffix_cons b r
  ·exact List.suffix_refl _
theorem I6 {t:Tx}{o:Nat}{N:List Tx}{id:Nat}{s:Tx}{c:Int}{σ:St}(ht:t.length<=1000)(h:RS Bd t o N id s σ):
  ACalls Tryz.prog 126 [ptr o 0,sc (.int .u8 c)] σ fun x σ'=>x=sc (.bool (Az c s).ok)/\KeepX o σ σ'/\RS Bd t o N id (Az c s).rest σ':=by
 refine ACalls.mono (Qb t s o _ c ht h.suf σ h.obj h.lt) ?_;rintro x σ' ⟨hK,hm⟩;have hr:=lP c s;have hl:=hr.length_le;have hs:=hr.trans h.suf;cases hp:Az c s with
 |bad e=>
  rw[hp]at hm hr hl hs;obtain⟨rfl,hO,rfl⟩:=hm;exact⟨rfl,hK,h.stepX hK hO hs hl⟩
 |got u r=>
  rw[hp]at hm hr hl hs;obtain⟨rfl,hO,-⟩:=hm;exact⟨rfl,hK,h.stepX hK hO hs hl⟩
variable {Bd:Nat}
theorem KeepX.new {o:Nat}{σ σ':St}(h:KeepX o σ σ')(cs:List AV):KeepX o σ (σ'.new cs):=by
 have:=h.nobj;exact⟨by simp[St.new];omega,fun p hp aa=>by simp[St.new];rw[if_neg (by omega)];exact h.obj p hp aa,h.ver,h.ntop,h.top⟩
theorem KeepX.putN {o p:Nat}{σ σ':St}(h:KeepX o σ σ')(hp:σ.nobj<=p)(cs:List AV):KeepX o σ (σ'.put p cs):=
 ⟨h.nobj,fun q hq aa=>by simp[St.put];rw[if_neg (by omega)];exact h.obj q hq aa,fun q hq aa=>by simp[St.put];rw[if_neg (by omega)];exact h.ver q hq aa,h.ntop,h.top⟩
theorem KeepX.lay {o:Nat}{a b:St}(h:KeepX o a b)(n:Nat):KeepX o a (b.lay n):=by
 have:=h.ntop;exact⟨h.nobj,h.obj,h.ver,by simp[St.lay];omega,fun k hk=>by simp[St.lay];rw[if_neg (by omega)];exact h.top k hk⟩
theorem Zs {p:Prop}(h:p:=by repeat (first|exact KeepX.refl _ _|(with_reducible assumption)|(with_reducible apply KeepX.putN;rotate_left;(first|omega|(simp only[Aa,Ac,Ax,Ho]at*;omega)))|(with_reducible apply KeepX.new)|(with_reducible apply KeepX.lay)|(with_reducible refine KeepX.trans ?_ (by assumption)))):p:=h
def Ap:Tx->Bool×Int
 |[]=>(false,0)
 |b::r=>if Bo b.toNat=true then (true,(b.toNat:Int)-65)else (false,Hn (b::r))
theorem Fv {b:UInt8}{r:Tx}(h:Bo b.toNat=true):Ap (b::r)=(true,(b.toNat:Int)-65):=by unfold Ap;dsimp only;rw[if_pos h]
theorem Po {b:UInt8}{r:Tx}(h:Bo b.toNat=false):Ap (b::r)=(false,Hn (b::r)):=by unfold Ap;dsimp only;rw[if_neg (by rw[h];simp)]
def Qy (x:Tx):List AV:=[sc (.bool (Ap x).1),sc (.int .i64 (Ap x).2)]
def A0 (ts:List Tx):List AV:=ts.flatMap Qy
theorem Es (ts:List Tx):(A0 ts).length=ts.length*2:=by
 induction ts with
 |nil=>rfl
 |cons a l ih=>unfold A0 at*;rw[List.flatMap_cons,List.length_append,ih];simp[Qy];omega
theorem eX (ts:List Tx)(x:Tx):A0 (ts++[x])=A0 ts++Qy x:=by simp[A0]
theorem gP (p:Int->Bool)(n:Nat)(s:Tx):(Av p n s).2<:+s:=⟨(Av p n s).1,(D4 p n s).1.symm⟩
theorem Ul (s:Tx):(Cp s).rest<:+s:=by
 cases s with
 |nil=>exact List.suffix_refl _
 |cons b r=>
  unfold Cp;dsimp only;split
  ·exact List.suffix_cons b r
  split
  ·exact List.suffix_cons b r
  split
  ·exact (gP A1 2 r).trans (List.suffix_cons b r)
  ·exact List.suffix_refl _
theorem Wm (t r:Tx)(b:UInt8)(o:Nat)(nm:AV)(ht:t.length<=1000)(hs:(b::r)<:+t)(σ:St)(ho:σ.obj o=M8 t (b::r) nm)(hn:o<σ.nobj)(ad:((b.toNat:Int)==48)=true):
  ACalls Tryz.prog 245 [ptr o 0] σ fun x σ'=>KeepX o σ σ'/\σ'.obj o=M8 t r nm/\x=sc (.int .i64 0):=by
 have hp:Az 48 (b::r)= .got () r:=by unfold Az;dsimp only;rw[if_pos ad]
 have hT:=Qb t (b::r) o nm 48 ht hs σ ho hn;rw[hp]at hT;refine Z9 57 [.tmp 2] Tryz.func245 ?_
 repeat' first|refine Z1 ?_|refine Z8 fun ya J=>?_|refine Z4 ?_;clear J ya|refine Z2 ?_ ?_<;>intro h ac<;>try exact Xp|refine Z5 ?_;refine Xi (hT) ?_;rintro _ _ ⟨aa,rfl,ab,-⟩|refine Z3 ?_|exact Zt|apply J.out;clear J ya
 first|exact⟨_,rfl,aa,ab,rfl⟩|exact⟨_,rfl,aa,ab⟩|exact⟨_,rfl,aa,rfl⟩|exact⟨_,rfl,rfl⟩
theorem T6 {t:Tx}{o:Nat}{N:List Tx}{id:Nat}{s:Tx}{σ:St}(ht:t.length<=1000)(hR:RS Bd t o N id s σ):
  ACalls Tryz.prog 209 [ptr o 0] σ fun x σ'=>∃v k,x=tp [ag [sc (.bool v),sc (.int .i64 k)],sc (.bool (Cp s).ok)]/\KeepX o σ σ'/\RS Bd t o N id (Cp s).rest σ'/\Rd.Val (Cp s) fun w=>Ap w=(v,k):=by
 have ah:Agt (RS Bd t o N id s σ):=hR;obtain⟨ho,hn,-,hs,-⟩:=hR;have au:=H3 hs;have av:=O5 hs;have ac:Agt ((Cp s).rest.length<=s.length):=(Ul s).length_le;have hrs:Agt ((Cp s).rest<:+t):=(Ul s).trans hs;generalize ad:sl id N.length (N.map str)=nm at ho;have ad:Agt (sl id N.length (N.map str)=nm):=ad;have ax:Agt (σ.obj o=M8 t s nm):=ho;unfold M8 Y6 at ho;refine Z9 46 [.cell 2 101,.tmp 3] Tryz.func209 ?_
 refine zz ?_
 refine Aw Ag (fun _=>True) [9] [0,1,2,3,4,5,6,7,8] [9] (by kernel_rfl) (fun _ _ _ h=>h) ?_;intro ya J;cases s with
 |nil=>
  simp only[List.length_nil,Nat.sub_zero]at ho av au;refine Z3 ?_
  repeat' first|refine Z1 ?_|refine Z8 fun ya J=>?_|refine Z4 ?_;clear J ya|refine Z2 ?_ ?_<;>intro h aa<;>try exact Xp|refine Z3 ?_|exact Zt|apply J.out;clear J ya
  have hK:KeepX o σ ((σ.new [sc (.bool false),sc (.int .i64 0)]).put σ.nobj [sc (.bool false),sc (.int .i64 0)]):=((KeepX.refl _ _).new _).putN (Nat.le_refl _) _;refine⟨_,rfl,false,0,rfl,hK,ah.out.stepX hK ?_ hrs.out ac.out,trivial⟩;rw[ad.out,Ak hn,Ah hn];exact ax.out
 |cons b r=>
  simp only[List.length_cons,List.head?_cons]at ho av au;refine Z3 ?_
  repeat' first|refine Z1 ?_|refine Z4 ?_;clear J ya|refine Z2 ?_ ?_<;>intro h aa<;>try exact Xp|refine Z3 ?_|exact Zt|apply J.out;clear J ya
  refine Aw Ag (fun _=>True) [9] [0,1,2,3,4,5,6,7,8] [9] (by kernel_rfl) (fun _ _ _ h=>h) ?_;intro ya J;refine Z3 ?_;have az:A1 b.toNat=true->48<=(b.toNat:Int)/\(b.toNat:Int)<=57:=fun h=>by simp[A1]at h;omega
  have an:Bo b.toNat=true->65<=(b.toNat:Int)/\(b.toNat:Int)<=90:=fun h=>by simp[Bo]at h;omega
  have am:Agt ((σ.new [sc (.bool false),sc (.int .i64 0)]).obj o=M8 t (b::r) nm):=by rw[Agt,Ah hn];exact ax.out
  have ay:o<(σ.new [sc (.bool false),sc (.int .i64 0)]).nobj:=by rw[Aa];omega
  have aj:Agt (KeepX o σ (σ.new [sc (.bool false),sc (.int .i64 0)])):=(KeepX.refl _ _).new _;by_cases ab:((b.toNat:Int)==48)=true
  ·have hl:Bo b.toNat=false:=by
    cases hl:Bo b.toNat with
    |false=>rfl
    |true=>have:=an hl;simp at ab;omega
   have hd:A1 b.toNat=true:=by simp at ab;simp[A1];omega
   have hp:Cp (b::r)= .got [b] r:=by
    unfold Cp;dsimp only;rw[if_neg (by rw[hl];simp),if_pos ab]
   rw[hp]at ac hrs;have hE:Agt (Ap [b]=(false,0)):=by
    rw[Agt,Po hl];simp at ab;simp[Hn];omega
   repeat' first|refine Z1 ?_|refine Z8 fun ya J=>?_|refine Z4 ?_;clear J ya|refine Z2 ?_ ?_<;>intro h aa<;>try exact Xp|(refine Z5 ?_;first|(refine Xi (Gb _ _) ?_;rintro _ _ ⟨rfl,rfl⟩)|(refine Xi (Ga _ _) ?_;rintro _ _ ⟨rfl,rfl⟩)|(refine Xi (Wm t r b o nm ht hs _ am.out ay ab) ?_;rintro _ _ ⟨ae,ai,rfl⟩;(have ak:=ae.obj σ.nobj (by rw[Aa];omega) (by omega);rw[Al]at ak;have ap:Agt _:=ae;have ao:Agt _:=ai;clear ae ai)))|refine Z3 ?_|exact Zt|apply J.out;clear J ya
   rename_i σ1;have hK:KeepX o σ (σ1.put σ.nobj [sc (.bool false),sc (.int .i64 0)]):=(aj.out.trans ap.out).putN (Nat.le_refl _) _;refine⟨_,rfl,false,0,rfl,hK,ah.out.stepX hK ?_ hrs.out ac.out,hE.out⟩;rw[ad.out,Ak hn];exact ao.out
  ·have ab:((b.toNat:Int)==48)=false:=by simpa using ab
   by_cases hl:Bo b.toNat=true
   ·have hp:Cp (b::r)= .got [b] r:=by
     unfold Cp;dsimp only;rw[if_pos hl]
    rw[hp]at ac hrs;have hE:Agt (Ap [b]=(true,(b.toNat:Int)-65)):=by
     exact Fv hl
    have an:=an hl;have hw:IntKind.i64.wrap (IntKind.u8.wrap ((b.toNat:Int)-65))=(b.toNat:Int)-65:=by
     rw[Abs.u8w (by omega) (by omega),Abs.i64w (by omega) (by omega)]
    repeat' first|refine Z1 ?_|refine Z8 fun ya J=>?_|refine Z4 ?_;clear J ya|refine Z2 ?_ ?_<;>intro h aa<;>try exact Xp|refine Z5 ?_;refine Xi (Gb _ _) ?_;rintro _ _ ⟨rfl,rfl⟩|refine Z3 ?_|exact Zt|apply J.out;clear J ya
    have hK:KeepX o σ (((σ.new [sc (.bool false),sc (.int .i64 0)]).put o [str t,sc (.int .i64 ((t.length-(r.length+1):Nat)+1)),nm]).put σ.nobj [sc (.bool true),sc (.int .i64 ((b.toNat:Int)-65))]):=(aj.out.put _).putN (Nat.le_refl _) _;refine⟨_,rfl,true,_,rfl,hK,ah.out.stepX hK ?_ hrs.out ac.out,hE.out⟩;rw[ad.out,Ak hn,Aj];unfold M8 Y6;rw[show ((t.length-(r.length+1):Nat):Int)+1=((t.length-r.length:Nat):Int)by omega];rfl
   ·have hl:Bo b.toNat=false:=by simpa using hl
    by_cases hd:A1 b.toNat=true
    ·have hN:=Rl t (b::r) o nm ht hs _ am.out ay (fun b' r' e=>by cases e;exact ab);have hw:Av A1 3 (b::r)=(b::(Av A1 2 r).1,(Av A1 2 r).2):=by rw[Av,if_pos hd]
     rw[hw]at hN;have hN:Agt _:=hN;have af:F7 b.toNat=true:=by
      rcases digit_iff.1 hd with h|h
      ·exact h
      ·rw[ab]at h;cases h
     have hp:Cp (b::r)= .got (b::(Av A1 2 r).1) (Av A1 2 r).2:=by
      unfold Cp;dsimp only;rw[if_neg (by rw[hl];simp),if_neg (by rw[ab];simp),if_pos af]
     rw[hp]at ac hrs;have hE:Agt (Ap (b::(Av A1 2 r).1)=(false,Hn (b::(Av A1 2 r).1))):=by
      exact Po hl
     clear hw
     repeat' first|refine Z1 ?_|refine Z8 fun ya J=>?_|refine Z4 ?_;clear J ya|refine Z2 ?_ ?_<;>intro h aa<;>try exact Xp|(refine Z5 ?_;first|(refine Xi (Gb _ _) ?_;rintro _ _ ⟨rfl,rfl⟩)|(refine Xi (Ga _ _) ?_;rintro _ _ ⟨rfl,rfl⟩)|(refine Xi (hN.out) ?_;rintro _ _ ⟨ae,q,ai,hq,aw,rfl⟩;(have ak:=ae.obj σ.nobj (by rw[Aa];omega) (by omega);rw[Al]at ak;have ap:Agt _:=ae;have ao:Agt _:=ai;have HQ:Agt _:=aw;clear ae ai aw)))|refine Z3 ?_|exact Zt|apply J.out;clear J ya
     rename_i σ1;have hK:KeepX o σ (σ1.put σ.nobj [sc (.bool false),sc (.int .i64 (Hn (b::(Av A1 2 r).1)))]):=(aj.out.trans ap.out).putN (Nat.le_refl _) _;refine⟨_,rfl,false,_,rfl,hK,ah.out.stepX hK ?_ hrs.out ac.out,hE.out⟩;rw[ad.out,Ak hn,show (Rd.got (b::(Av A1 2 r).1) (Av A1 2 r).2).rest=q from HQ.out.symm];exact ao.out
    ·have hd:A1 b.toNat=false:=by simpa using hd
     have af:F7 b.toNat=false:=by
      cases af:F7 b.toNat with
      |false=>rfl
      |true=>rw[digit_iff.2 (.inl af)]at hd;cases hd
     have hp:Cp (b::r)= .bad (b::r):=by
      unfold Cp;dsimp only;rw[if_neg (by rw[hl];simp),if_neg (by rw[ab];simp),if_neg (by rw[af];simp)]
     rw[hp]at ac hrs
     repeat' first|refine Z1 ?_|refine Z8 fun ya J=>?_|refine Z4 ?_;clear J ya|refine Z2 ?_ ?_<;>intro h aa<;>try exact Xp|(refine Z5 ?_;first|(refine Xi (Gb _ _) ?_;rintro _ _ ⟨rfl,rfl⟩)|(refine Xi (Ga _ _) ?_;rintro _ _ ⟨rfl,rfl⟩))|refine Z3 ?_|exact Zt|apply J.out;clear J ya
     have hK:KeepX o σ ((σ.new [sc (.bool false),sc (.int .i64 0)]).put σ.nobj [sc (.bool false),sc (.int .i64 0)]):=aj.out.putN (Nat.le_refl _) _;refine⟨_,rfl,false,0,rfl,hK,ah.out.stepX hK ?_ hrs.out ac.out,trivial⟩;rw[ad.out,Ak hn];exact am.out
variable {Bd:Nat}
def pN (N:List Tx)(n:Tx):List Tx:=if n∈N then N else N++[n]
theorem bS (N:List Tx)(n:Tx):n∈pN N n:=by unfold pN;split<;>simp_all
theorem bR (N:List Tx)(n:Tx):N<+:pN N n:=by
 unfold pN;split
 ·exact List.prefix_refl _
 ·exact List.prefix_append _ _
theorem bY {N N':List Tx}{n:Tx}(h:N<+:N')(hm:n∈N):N'.idxOf n=N.idxOf n:=by
 obtain⟨r,rfl⟩:=h;rw[List.idxOf_append,if_pos hm]
theorem bU (N:List Tx)(n:Tx):(pN N n).idxOf n=N.idxOf n:=by
 unfold pN;split
 ·rfl
 ·rename_i h;rw[List.idxOf_append,if_neg h,List.idxOf_eq_length h];simp
theorem Mi:∀{N:List Tx} {i:Nat} {n:Tx},(∀a,a<i->N[a]?≠some n)->N[i]?=some n->N.idxOf n=i
 |[],i,n,h,hi=>by simp at hi
 |x::N,0,n,h,hi=>by simp at hi;subst hi;simp
 |x::N,i+1,n,h,hi=>by
  have h0:=h 0 (by omega);have ih:=Mi (N:=N) (i:=i) (n:=n) (fun a ha=>by have:=h (a+1) (by omega);simpa using this) (by simpa using hi);have hx:(x==n)=false:=by
   simp at h0;simpa using h0
  rw[List.idxOf_cons,hx,ih];rfl
theorem N0 {N:List Tx}{n:Tx}(h:∀a,a<N.length->N[a]?≠some n):n∉N:=fun hm=>by
 obtain⟨i,hi,he⟩:=List.getElem_of_mem hm;exact h i hi (by rw[List.getElem?_eq_getElem hi,he])
theorem zL {t:Tx}{o:Nat}{N:List Tx}{id:Nat}{s:Tx}{σ:St}(n:Tx)(ht:t.length<=1000)(hR:RS Bd t o N id s σ)(hl:N.length+1+s.length<=Bd+t.length):
  ACalls Tryz.prog 208 [ptr o 0,str n] σ fun x σ'=>∃id',x=sc (.int .i64 (N.idxOf n:Nat))/\Rs o σ id σ' id'/\RS Bd t o (pN N n) id' s σ':=by
 have au:Agt (RS Bd t o N id s σ):=hR;obtain⟨ho,hn,aa,hs,an⟩:=hR;have af:Agt (OwnN σ id N.length):=aa;clear aa;have ay:=H3 hs;unfold M8 Y6 at ho;refine Z9 38 [.tmp 4] Tryz.func208 ?_
 refine zz ?_
 refine Ad (fun m s' σ'=>∃i:Nat,m=N.length-i/\i<=N.length/\s' 0=ptr o 0/\s' 1=str n/\s' 10=sl id N.length (N.map str)/\s' 11=sc (.int .i64 N.length)/\s' 12=sc (.int .i64 i)/\σ'=σ/\Agt (∀a,a<i->N[a]?≠some n)) N.length
  ⟨0,by omega,by omega,rfl,rfl,rfl,rfl,rfl,rfl,fun a ha=>by omega⟩ ?_
 rintro m s' σ' ⟨i,rfl,hi,h0,h1,a4,a3,a0,hσ,ab⟩;subst hσ;by_cases ai:i<N.length
 ·have ak:=A2 ai;have HX:Agt (N[i]?=some N[i]):=List.getElem?_eq_getElem ai;generalize N[i]=w at ak HX
  repeat' first|refine Z1 ?_|refine Z8 fun ya J=>?_|refine Z4 ?_;clear J ya|refine Z2 ?_ ?_<;>intro h ad<;>try exact Xp|refine Z3 ?_|exact Zt|apply J.out;clear J ya
  ·have hw:w=n:=by simpa using h
   subst hw;have ac:w∈N:=List.mem_of_getElem? HX.out;refine⟨_,rfl,id,by rw[Mi ab.out HX.out],Rs.refl _ _ _,?_⟩;rw[pN,if_pos ac];exact au.out
  ·have hw:w≠n:=by simpa using h
   refine⟨N.length-(i+1),by omega,i+1,rfl,by omega,by simp,?_⟩;intro a ha;by_cases ap:a=i
   ·subst ap;rw[HX.out];simpa using hw
   ·exact ab.out a (by omega)
 ·have ao:i=N.length:=by omega
  subst ao;have ah:=N0 ab.out
  repeat' first|refine Z1 ?_|refine Z8 fun ya J=>?_|refine Z4 ?_;clear J ya|refine Z2 ?_ ?_<;>intro h ad<;>try exact Xp|refine Z3 ?_|exact Zt|apply J.out;clear J ya
  refine nE (σ0:=σ') (o:=o) (by first|exact P9) af.out (by decide) (by rfl) (by simp) (by rfl) (by rfl) (by decide) (by omega) (by omega) ?_;intro id' σ1 av aw ae aj ax hid;have am:o<σ1.nobj:=by omega
  have az:σ1.obj o=[str t,sc (.int .i64 (t.length-s.length:Nat)),sl id N.length (N.map str)]:=by rw[ae];exact ho
  refine Z3 ?_
  refine zz ?_
  have hI:pN N n=N++[n]:=by rw[pN,if_neg ah]
  have hx:N.idxOf n=N.length:=List.idxOf_eq_length ah;refine⟨_,rfl,id',by rw[hx,show ((N.length+1:Nat):Int)-1=N.length by omega],⟨aw.put _,hid⟩,?_⟩;rw[hI];refine⟨?_,am,?_,hs,by simp;omega⟩
  ·rw[Aj];simp[M8,Y6]
  ·rcases av with h|⟨j,q1,q2,q3,q4⟩
   ·exact .inl ⟨h.1,by have:=h.2;omega⟩
   ·exact .inr ⟨j,q1,q2,by rw[L9,q3];simp,by simp⟩
theorem Uf {t:Tx}{o:Nat}{N:List Tx}{id:Nat}{s:Tx}{σ:St}(ds:Tx){n:Tx}(ht:t.length<=1000)(hR:RS Bd t o N id s σ)(hl:N.length+1+s.length<=Bd+t.length)(he:n=ds):
  ACalls Tryz.prog 208 [ptr o 0,str n] σ fun x σ'=>∃id',x=sc (.int .i64 (N.idxOf ds:Nat))/\Rs o σ id σ' id'/\RS Bd t o (pN N ds) id' s σ':=by
 subst he;exact zL n ht hR hl
variable {Bd:Nat}
def smalls (s ds q:Tx):Prop:=ds.length<=6/\s=ds++q/\Av Bn 6 s=(ds++(Av Bn (6-ds.length) q).1,(Av Bn (6-ds.length) q).2)
theorem kS (s:Tx):smalls s [] s:=⟨by simp,by simp,by simp⟩
theorem fM {s ds q:Tx}{b:UInt8}(h:smalls s ds (b::q))(hl:ds.length<6)(hb:Bn b.toNat=true):smalls s (ds++[b]) q:=by
 obtain⟨h1,h2,h3⟩:=h;have e:6-ds.length=(6-(ds++[b]).length)+1:=by simp;omega
 rw[e,Av,if_pos hb]at h3;exact⟨by simp;omega,by rw[h2];simp,by rw[h3];simp⟩
theorem Kc {s ds q:Tx}(h:smalls s ds q)(he:ds.length=6\/q=[]\/∃b r,q=b::r/\Bn b.toNat=false):Av Bn 6 s=(ds,q):=by
 obtain⟨h1,-,h2⟩:=h;rw[h2];rcases he with he|rfl|⟨b,r,rfl,hb⟩
 ·rw[he];simp[Av]
 ·cases hn:6-ds.length<;>simp[Av]
 ·cases hn:6-ds.length<;>simp[Av,hb]
theorem qW {t s:Tx}(h:s<:+t):t.drop (t.length-s.length)=s:=by
 obtain⟨p,rfl⟩:=h;simp
theorem uU {t s ds q:Tx}(h:s<:+t)(e:s=ds++q){k:Nat}(hk:k=ds.length):(t.drop (t.length-s.length)).take k=ds:=by
 rw[qW h,e,hk];simp
theorem Qd {t s ds q:Tx}(h:s<:+t)(e:s=ds++q){j k:Nat}(hj:j=t.length-s.length)(hk:k=ds.length):(t.drop j).take k=ds:=by
 subst hj;exact uU h e hk
theorem Za {s ds q:Tx}(h:Av Bn 6 s=(ds,q))(h0:ds.length=0):Ej s= .bad s:=by
 have:ds=[]:=List.eq_nil_of_length_eq_zero h0;unfold Ej;rw[h,if_pos this]
theorem Qh {s ds q:Tx}(h:Av Bn 6 s=(ds,q))(h0:ds.length≠0):Ej s= .got ds q:=by
 unfold Ej;rw[h,if_neg (by intro e;simp at e;simp[e]at h0)]
theorem Kv {t:Tx}{o:Nat}{N:List Tx}{id:Nat}{s:Tx}{σ:St}(ht:t.length<=1000)(hR:RS Bd t o N id s σ):
  ACalls Tryz.prog 166 [ptr o 0] σ fun x σ'=>∃k N' id',x=tp [sc (.int .i64 k),sc (.bool (Ej s).ok)]/\Rs o σ id σ' id'/\RS Bd t o N' id' (Ej s).rest σ'/\N<+:N'/\Rd.Val (Ej s) fun n=>n∈N'/\k=(N'.idxOf n:Nat):=by
 have ad:Agt (RS Bd t o N id s σ):=hR;obtain⟨ho,hn,-,hs,-⟩:=hR;have ay:=H3 hs;generalize af:sl id N.length (N.map str)=nm at ho;have aw:Agt (σ.obj o=M8 t s nm):=ho;unfold M8 Y6 at ho;refine Z9 67 [.tmp 2,.tmp 3] Tryz.func166 ?_
 refine zz ?_
 refine Ad (fun m s' σ'=>∃(q ds:Tx),m=6-ds.length/\s' 0=ptr o 0/\s' 4=sc (.int .i64 (t.length-s.length:Nat))/\KeepX o σ σ'/\σ'.obj o=M8 t q nm/\o<σ'.nobj/\q<:+t/\s.length=ds.length+q.length/\Agt (smalls s ds q)) 6
  ⟨s,[],rfl,rfl,rfl,KeepX.refl _ _,aw.out,hn,hs,by simp,kS s⟩ ?_
 rintro m s' σ' ⟨q,ds,rfl,h0,h4,hK,hO,az,hq,am,hD⟩;clear ho;have an:=H3 hq;have ao:=O5 hq;have a0:=hD.out.1;have HO:Agt (σ'.obj o=M8 t q nm):=hO;unfold M8 Y6 at hO
 repeat' first|refine Z1 ?_|refine Z8 fun ya J=>?_|refine Z4 ?_;clear J ya|refine Z2 ?_ ?_<;>intro h ah<;>try exact Xp|refine Z3 ?_|exact Zt|apply J.out;clear J ya
 refine Aw Ag (fun _=>True) [30] [0,1,2,3,4,5,6,7,8,9,10,11,12,13,14,15,16,17,18,19,20,21,22,23,24,25,26,27,28] [29,30] (by kernel_rfl) (fun _ _ _ h=>h) ?_;intro ya J;cases q with
 |nil=>
  simp only[List.length_nil,Nat.sub_zero,Nat.add_zero]at hO ao an am;refine Z3 ?_
  repeat' first|refine Z1 ?_|refine Z8 fun ya J=>?_|refine Z4 ?_;clear J ya|refine Z2 ?_ ?_<;>intro h ah<;>try exact Xp|refine Z5 ?_;refine Xi (Pg _ _) ?_;rintro _ _ ⟨rfl,rfl⟩|refine Z3 ?_|exact Zt|apply J.out;clear J ya
  all_goals have aa:=Kc hD.out (.inr (.inl rfl))
  ·
   have ab:ds.length=0:=by simp at h;omega
   have hp:=Za aa ab;have ae:=hD.out.2.1;rw[List.eq_nil_of_length_eq_zero ab,List.nil_append]at ae;refine⟨_,rfl,0,N,id,by rw[hp];rfl,Rs.ofX hK,?_,List.prefix_refl _,by rw[hp];trivial⟩;rw[hp];exact ad.out.stepX hK (by rw[af];exact ae ▸ HO.out) hs (Nat.le_refl _)
  ·
   have ab:ds.length≠0:=by simp at h;omega
   have hp:=Qh aa ab;have ac:=ad.out.stepX hK (by rw[af];exact HO.out) hq (by first|omega|(simp only[List.length_cons,List.length_nil];omega));have ap:=ad.out.len;have ak:Agt _:=ac;have HD:Agt _:=hD;have HP:Agt _:=hp;have HK:Agt _:=hK;clear ac hp hK aa;refine Aw Ag (fun _=>True) [10] [0,1,2,3,4,5,6,7,8,9] [10] (by kernel_rfl) (fun _ _ _ h=>h) ?_;intro ya J;refine Z3 ?_
   repeat' first|refine Z1 ?_|refine Z8 fun ya J=>?_|refine Z4 ?_;clear J ya|(refine Z5 ?_;refine Xi (Uf ds ht ak.out (by first|omega|(simp only[List.length_cons,List.length_nil];omega)) (by refine Qd hs HD.out.2.1 ?_ ?_<;>first|omega|(simp only[List.length_cons,List.length_nil,Nat.add_zero];omega))) ?_;rintro _ _ ⟨id',rfl,ai,aj⟩)|refine Z3 ?_|exact Zt|apply J.out;clear J ya
   refine⟨_,rfl,_,pN N ds,id',by rw[HP.out];rfl,(Rs.ofX HK.out).trans ai,?_,bR _ _,?_⟩
   ·rw[HP.out];exact aj
   ·rw[HP.out];exact⟨bS _ _,by rw[bU]⟩
 |cons b r=>
  simp only[List.length_cons,List.head?_cons]at hO ao an am;have av:=Qc hq;refine Z3 ?_
  repeat' first|refine Z1 ?_|refine Z8 fun ya J=>?_|refine Z4 ?_;clear J ya|refine Z2 ?_ ?_<;>intro h ah<;>try exact Xp|refine Z5 ?_;refine Xi (Pg _ _) ?_;rintro _ _ ⟨rfl,rfl⟩|refine Z3 ?_|exact Zt|apply J.out;clear J ya
  ·have ax:ds.length<6:=by omega
   have au:Bn b.toNat=true:=by assumption
   refine⟨6-(ds++[b]).length,by simp;omega,r,ds++[b],rfl,hK.put _,?_,av,by simp;omega,fM hD.out ax au⟩;unfold M8 Y6;rw[show ((t.length-(r.length+1):Nat):Int)+1=((t.length-r.length:Nat):Int)by omega]
  ·have aa:=Kc hD.out (.inr (.inr ⟨b,r,rfl,by assumption⟩));have ab:ds.length=0:=by simp at h;omega
   have hp:=Za aa ab;have ae:=hD.out.2.1;rw[List.eq_nil_of_length_eq_zero ab,List.nil_append]at ae;refine⟨_,rfl,0,N,id,by rw[hp];rfl,Rs.ofX hK,?_,List.prefix_refl _,by rw[hp];trivial⟩;rw[hp];exact ad.out.stepX hK (by rw[af];exact ae ▸ HO.out) hs (Nat.le_refl _)
  ·have aa:=Kc hD.out (.inr (.inr ⟨b,r,rfl,by assumption⟩));have ab:ds.length≠0:=by simp at h;omega
   have hp:=Qh aa ab;have ac:=ad.out.stepX hK (by rw[af];exact HO.out) hq (by first|omega|(simp only[List.length_cons,List.length_nil];omega));have ap:=ad.out.len;have ak:Agt _:=ac;have HD:Agt _:=hD;have HP:Agt _:=hp;have HK:Agt _:=hK;clear ac hp hK aa;refine Aw Ag (fun _=>True) [10] [0,1,2,3,4,5,6,7,8,9] [10] (by kernel_rfl) (fun _ _ _ h=>h) ?_;intro ya J;refine Z3 ?_
   repeat' first|refine Z1 ?_|refine Z8 fun ya J=>?_|refine Z4 ?_;clear J ya|(refine Z5 ?_;refine Xi (Uf ds ht ak.out (by first|omega|(simp only[List.length_cons,List.length_nil];omega)) (by refine Qd hs HD.out.2.1 ?_ ?_<;>first|omega|(simp only[List.length_cons,List.length_nil,Nat.add_zero];omega))) ?_;rintro _ _ ⟨id',rfl,ai,aj⟩)|refine Z3 ?_|exact Zt|apply J.out;clear J ya
   refine⟨_,rfl,_,pN N ds,id',by rw[HP.out];rfl,(Rs.ofX HK.out).trans ai,?_,bR _ _,?_⟩
   ·rw[HP.out];exact aj
   ·rw[HP.out];exact⟨bS _ _,by rw[bU]⟩
  ·exfalso;simp at h;omega
  ·have aa:=Kc hD.out (.inl (by omega));have ab:ds.length≠0:=by simp at h;omega
   have hp:=Qh aa ab;have ac:=ad.out.stepX hK (by rw[af];exact HO.out) hq (by first|omega|(simp only[List.length_cons,List.length_nil];omega));have ap:=ad.out.len;have ak:Agt _:=ac;have HD:Agt _:=hD;have HP:Agt _:=hp;have HK:Agt _:=hK;clear ac hp hK aa;refine Aw Ag (fun _=>True) [10] [0,1,2,3,4,5,6,7,8,9] [10] (by kernel_rfl) (fun _ _ _ h=>h) ?_;intro ya J;refine Z3 ?_
   repeat' first|refine Z1 ?_|refine Z8 fun ya J=>?_|refine Z4 ?_;clear J ya|(refine Z5 ?_;refine Xi (Uf ds ht ak.out (by first|omega|(simp only[List.length_cons,List.length_nil];omega)) (by refine Qd hs HD.out.2.1 ?_ ?_<;>first|omega|(simp only[List.length_cons,List.length_nil,Nat.add_zero];omega))) ?_;rintro _ _ ⟨id',rfl,ai,aj⟩)|refine Z3 ?_|exact Zt|apply J.out;clear J ya
   refine⟨_,rfl,_,pN N ds,id',by rw[HP.out];rfl,(Rs.ofX HK.out).trans ai,?_,bR _ _,?_⟩
   ·rw[HP.out];exact aj
   ·rw[HP.out];exact⟨bS _ _,by rw[bU]⟩
variable {Bd:Nat}
theorem RS.new {t:Tx}{o:Nat}{N:List Tx}{id:Nat}{s:Tx}{σ:St}(h:RS Bd t o N id s σ)(cs:List AV):RS Bd t o N id s (σ.new cs):=
 ⟨by rw[Ah h.lt];exact h.obj,by have:=h.lt;rw[Aa];omega,h.own,h.suf,h.len⟩
theorem RS.put {t:Tx}{o:Nat}{N:List Tx}{id:Nat}{s:Tx}{σ:St}(h:RS Bd t o N id s σ){p:Nat}(hp:o<p)(cs:List AV):RS Bd t o N id s (σ.put p cs):=
 ⟨by rw[Ak hp];exact h.obj,h.lt,h.own,h.suf,h.len⟩
theorem RS.lay {t:Tx}{o:Nat}{N:List Tx}{id:Nat}{s:Tx}{σ:St}(h:RS Bd t o N id s σ)(n:Nat):RS Bd t o N id s (σ.lay n):=by
 refine⟨h.obj,h.lt,?_,h.suf,h.len⟩;rcases h.own with e|⟨k,h1,h2,h3,h4⟩
 ·exact .inl e
 ·exact .inr ⟨k,h1,by rw[Jv];omega,by rw[R5 h2];exact h3,h4⟩
theorem Zr {p:Prop}(h:p:=by repeat (first|(with_reducible assumption)|(with_reducible apply RS.put;rotate_left;(first|omega|(simp only[Aa,Ac,Ax,Ho]at*;omega)))|(with_reducible apply RS.new)|(with_reducible apply RS.lay)|assumption)):p:=h
theorem Rs.new {o:Nat}{a b:St}{i j:Nat}(h:Rs o a i b j)(cs:List AV):Rs o a i (b.new cs) j:=⟨h.keep.new cs,h.nid⟩
theorem Rs.lay {o:Nat}{a b:St}{i j:Nat}(h:Rs o a i b j)(n:Nat):Rs o a i (b.lay n) j:=⟨h.keep.lay n,h.nid⟩
theorem KeepR.putN {o id p:Nat}{σ σ':St}(h:KeepR o id σ σ')(hp:σ.nobj<=p)(cs:List AV):KeepR o id σ (σ'.put p cs):=
 ⟨h.nobj,fun q hq aa=>by simp[St.put];rw[if_neg (by omega)];exact h.obj q hq aa,fun q hq aa=>by simp[St.put];rw[if_neg (by omega)];exact h.ver q hq aa,h.ntop,h.top⟩
theorem Rs.put {o p:Nat}{a b:St}{i j:Nat}(h:Rs o a i b j)(hp:a.nobj<=p)(cs:List AV):Rs o a i (b.put p cs) j:=⟨h.keep.putN hp cs,h.nid⟩
theorem Rs.transX {o:Nat}{a b c:St}{i j:Nat}(h:Rs o a i b j)(k:KeepX o b c):Rs o a i c j:=h.trans (Rs.ofX k)
theorem Zu {p:Prop}(h:p:=by repeat (first|exact Rs.refl _ _ _|(with_reducible assumption)|(with_reducible apply Rs.put;rotate_left;(first|omega|(simp only[Aa,Ac,Ax,Ho]at*;omega)))|(with_reducible apply Rs.new)|(with_reducible apply Rs.lay)|(refine Rs.trans ?_ (by with_reducible assumption))|(refine Rs.transX ?_ (by with_reducible assumption)))):p:=h
theorem KeepR.x {o:Nat}{a b:St}(h:KeepR o 0 a b):KeepX o a b:=⟨h.nobj,h.obj,h.ver,h.ntop,fun k hk=>h.top k hk (by omega)⟩
theorem Own.keepX {o:Nat}{σ0 σ σ':St}{id n:Nat}(h:Own σ0 σ id n)(k:KeepX o σ σ'):Own σ0 σ' id n:=by
 rcases h with h|⟨j,h1,h2,h3,h4,h5⟩
 ·exact .inl h
 ·exact .inr ⟨j,h1,h2,Nat.lt_of_lt_of_le h3 k.ntop,(k.top j h3).trans h4,h5⟩
theorem Own.made' {σ0 b:St}(h:σ0.ntop<=b.ntop){n:Nat}(hn:0<n):Own σ0 (b.lay n) (b.ntop+2) n:=.inr ⟨b.ntop,rfl,h,by simp[St.lay],by simp[St.lay],hn⟩
theorem RS.app {t:Tx}{o:Nat}{N:List Tx}{id ids:Nat}{r:Tx}{X Y:St}(h:RS Bd t o N id r X)(ab:Y.obj=X.obj)(aa:Y.nobj=X.nobj)(ac:X.ntop<Y.ntop)(etop:∀k,k<X.ntop->k+2≠ids->Y.top k=X.top k)(ad:id=1\/id≠ids):RS Bd t o N id r Y:=by
 refine⟨by rw[ab];exact h.obj,by rw[aa];exact h.lt,?_,h.suf,h.len⟩;rcases h.own with e|⟨k,h1,h2,h3,h4⟩
 ·exact .inl e
 ·exact .inr ⟨k,h1,by omega,(etop k h2 (by omega)).trans h3,h4⟩
theorem OwnN.apart {σ X:St}{id ids n m:Nat}(h:OwnN σ id n)(g:Own σ X ids m):id=1\/id≠ids:=by
 rcases h with⟨rfl,-⟩|⟨k,h1,h2,-⟩
 ·exact .inl rfl
 ·rcases g with⟨rfl,-⟩|⟨j,g1,g2,-⟩<;>omega
theorem Jt {c:Int}{q:Tx}(h:(Az c q).ok=false):Az c q= .bad q:=by
 cases q with
 |nil=>rfl
 |cons b r=>
  unfold Az at h⊢;dsimp only at h⊢;split at h
  ·cases h
  ·rename_i hb;rw[if_neg hb]
abbrev D1 (s:Tx):Rd (List Tx):=Rn Cp 2 s
theorem fU {t:Tx}{o:Nat}{N:List Tx}{id:Nat}{s:Tx}{σ:St}(ht:t.length<=1000)(hR:RS Bd t o N id s σ):
  ACalls Tryz.prog 167 [ptr o 0] σ fun x σ'=>∃n ids c,x=tp [sl ids n c,sc (.bool (D1 s).ok)]/\KeepX o σ σ'/\RS Bd t o N id (D1 s).rest σ'/\Rd.Val (D1 s) fun ts=>n=ts.length/\c=A0 ts:=by
 have hn:=hR.lt;refine Z9 37 [.tmp 2,.tmp 3] Tryz.func167 ?_
 repeat' first|refine Z1 ?_|refine Z8 fun ya J=>?_|refine Z4 ?_;clear J ya|refine Z2 ?_ ?_<;>intro h ad<;>try exact Xp|refine Z5 ?_;refine Xi (T6 ht hR) ?_;rintro _ _ ⟨v,k,rfl,am,af,ae⟩;(have ac:=am.nobj)|refine Z3 ?_|exact Zt|apply J.out;clear J ya
 ·rename_i σ1;obtain⟨e,he⟩:=Rd.ok_false h;have hp:=sepI.none (n:=2) he;rw[he]at af;refine⟨_,rfl,0,1,[],by rw[D1,hp];rfl,Zs,?_,by rw[D1,hp];trivial⟩;rw[D1,hp];exact Zr
 ·rename_i σ1;obtain⟨w,q,he⟩:=Rd.ok_true h;have hp:=sepI.first (n:=2) he;rw[he]at af ae;have ae:Ap w=(v,k):=ae;have af:RS Bd t o N id q σ1:=af;have hc:[sc (.bool v),sc (.int .i64 k)]=A0 [w]:=by simp[A0,Qy,ae]
  rw[hc]
  refine Ad (fun m s' σ'=>∃(ts:List Tx) (q:Tx) (ids:Nat),m=3-ts.length/\s' 0=ptr o 0/\s' 6=sl ids ts.length (A0 ts)/\KeepX o σ σ'/\RS Bd t o N id q σ'/\Own σ σ' ids ts.length/\ts.length<=3/\Agt (sepI Cp 2 s ts q)) 2
   ⟨[w],q,_,rfl,rfl,rfl,Zs,Zr,?_,by simp,hp⟩ ?_
  ·exact Own.made' (b:=(σ1.new _).put _ _) am.ntop (by decide)
  clear am af ae ac hc hp he h;rintro m s' σ' ⟨ts,q,ids,rfl,h0,h6,hK,hR2,hO,a6,hS⟩;have aw:=Es ts;have a4:=hK.nobj;by_cases a5:ts.length<3
  ·repeat' first|refine Z1 ?_|refine Z8 fun ya J=>?_|refine Z4 ?_;clear J ya|refine Z2 ?_ ?_<;>intro h ad<;>try exact Xp|(refine Z5 ?_;first|(refine Xi (I6 ht (by assumption)) ?_;rintro _ _ ⟨rfl,ak,ao⟩;(have ac:=ak.nobj))|(refine Xi (T6 ht (by assumption)) ?_;rintro _ _ ⟨v,k,rfl,au,ab,aa⟩;(have av:=au.nobj)))|refine Z3 ?_|exact Zt|apply J.out;clear J ya
   ·rename_i σ2 aj _ σ3;obtain⟨u,r,hb⟩:=Rd.ok_true aj;rw[hb]at h ab;obtain⟨e,he⟩:=Rd.ok_false h;rw[show (Rd.got u r).rest=r from rfl]at he ab;have hp:=hS.out.fail (by omega) hb he;rw[he]at ab;refine⟨_,rfl,0,1,[],by rw[D1,hp];rfl,Zs,?_,by rw[D1,hp];trivial⟩;rw[D1,hp];exact Zr
   ·rename_i σ2 aj _ σ3;obtain⟨u,r,hb⟩:=Rd.ok_true aj;rw[hb]at h ab aa;obtain⟨x,r2,he⟩:=Rd.ok_true h;rw[show (Rd.got u r).rest=r from rfl]at he ab aa;have hp:=hS.out.next (by omega) hb he;rw[he]at ab aa;have aa:Ap x=(v,k):=aa;have az:KeepX o σ ((σ3.new [sc (.bool false),sc (.int .i64 0)]).put σ3.nobj [sc (.bool v),sc (.int .i64 k)]):=Zs;have ap:Own σ ((σ3.new [sc (.bool false),sc (.int .i64 0)]).put σ3.nobj [sc (.bool v),sc (.int .i64 k)]) ids ts.length:=Own.put (Own.new (Own.keepX (Own.keepX hO ak) au) _) _ _;have ax:RS Bd t o N id r2 ((σ3.new [sc (.bool false),sc (.int .i64 0)]).put σ3.nobj [sc (.bool v),sc (.int .i64 k)]):=Zr;refine Qt (o:=o) (idn:=0) (σ0:=σ) (by first|exact Hd) (az.kr 0) ap (by decide) (by rfl) aw (by rfl) (by rfl) (by decide) (by omega) (by omega) ?_;intro idn σn ay a0 an ai a3 ah etop hid;refine Z3 ?_
    refine zz ?_
    refine⟨3-(ts++[x]).length,by simp;omega,ts++[x],r2,idn,rfl,?_,a0.x,?_,by simpa using ay,by simp;omega,hp⟩
    ·rw[eX,Qy,aa];simp
    ·exact ax.app an ai ah etop (hR.own.apart ap)
   ·have hp:=hS.out.stop h;rename_i σ2;rw[Jt h]at ao;refine⟨_,rfl,_,ids,_,by rw[D1,hp];rfl,Zs,?_,by rw[D1,hp];exact⟨rfl,rfl⟩⟩;rw[D1,hp];exact Zr
  ·repeat' first|refine Z1 ?_|refine Z8 fun ya J=>?_|refine Z4 ?_;clear J ya|refine Z2 ?_ ?_<;>intro h ad<;>try exact Xp|refine Z5 ?_;refine Xi (I6 ht (by assumption)) ?_;rintro _ _ ⟨rfl,ak,ao⟩|refine Z3 ?_|exact Zt|apply J.out;clear J ya
   have hp:=hS.out.full (by omega)
   first
   |exact⟨_,rfl,_,ids,_,by rw[D1,hp];rfl,hK,by rw[D1,hp];exact hR2,by rw[D1,hp];exact⟨rfl,rfl⟩⟩
   |exact⟨_,rfl,_,ids,_,by rw[D1,hp];rfl,by rw[D1,hp];exact hR2,by rw[D1,hp];exact⟨rfl,rfl⟩⟩
end Go.Proofs.YtmoeoppbmhfbpaaGreatDoorD
