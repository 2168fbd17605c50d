import Derived.Test.YtmoeoppbmhfbpabGreatDoorIGram
set_option maxHeartbeats 16000000
set_option maxRecDepth 100000
set_option linter.all false
open List renaming length->Z
namespace Go.Proofs.YtmoeoppbmhfbpabGreatDoorI
open Go.Abs
variable {Bd:Nat}
namespace Rd
def ok {α:Type}:Rd α->Bool
 |.bad _=>false
 |.got _ _=>true
def rest {α:Type}:Rd α->Tx
 |.bad e=>e
 |.got _ r=>r
def Val {α:Type}:Rd α->(α->Prop)->Prop
 |.bad _,_=>True
 |.got a _,P=>P a
theorem ok_true {α:Type}{x:Rd α}(h:x.ok=true):∃a r,x= .got a r:=by
 cases x with
 |bad e=>cases h
 |got a r=>exact⟨a,r,rfl⟩
theorem ok_false {α:Type}{x:Rd α}(h:x.ok=false):∃e,x= .bad e:=by
 cases x with
 |bad e=>exact⟨e,rfl⟩
 |got a r=>cases h
theorem G6 {α β γ:Type}(x:Rd α)(f)(g:β->Tx->Rd γ):(x.bnd f).bnd g=x.bnd fun a r=>(f a r).bnd g:=by cases x<;>rfl
theorem Val.mono {α:Type}{x:Rd α}{P Q}(h:Val x P)(k:∀a,P a->Q a):Val x Q:=by
 cases x with
 |bad e=>trivial
 |got a r=>exact k a h
end Rd
def Uk {α:Type}(f:Tx->Rd α)(n:Nat)(s:Tx):Rd (List α):=(f s).bnd fun x r=>(Ef f n r).bnd fun xs r=>.got (x::xs) r
def DC {α:Type}(f:Tx->Rd α)(n:Nat)(s:Tx)(xs:List α)(q:Tx):Prop:=
 Z xs<=n+1/\0<Z xs/\Uk f n s=(Ef f (n+1-Z xs) q).bnd fun ys r=>.got (xs++ys) r
theorem DC.first {α:Type}{f:Tx->Rd α}{n s r x}(h:f s= .got x r):DC f n s [x] r:=by
 refine⟨by simp,by simp,?_⟩;unfold Uk;rw[h];simp only[Rd.bnd,List.length_singleton,Nat.add_sub_cancel,List.singleton_append]
theorem DC.none {α:Type}{f:Tx->Rd α}{n s e}(h:f s= .bad e):Uk f n s= .bad e:=by
 unfold Uk;rw[h];rfl
theorem DC.full {α:Type}{f:Tx->Rd α}{n s q xs}(h:DC f n s xs q)(hl:n+1<=Z xs):Uk f n s= .got xs q:=by
 rw[h.2.2,show n+1-Z xs=0 by omega];simp[Ef,Rd.bnd]
theorem DC.stop {α:Type}{f:Tx->Rd α}{n s q xs}(h:DC f n s xs q)(hb:(A4 44 q).ok=false):Uk f n s= .got xs q:=by
 rw[h.2.2];cases hk:n+1-Z xs with
 |zero=>simp[Ef,Rd.bnd]
 |succ k=>
  cases q with
  |nil=>simp[Ef,Rd.bnd]
  |cons b r=>
   unfold A4 at hb;dsimp only at hb;have aa:((b.toNat:Int)==44)=false:=by
    by_cases hc:((b.toNat:Int)==44)=true
    ·rw[if_pos hc]at hb;cases hb
    ·simpa using hc
   unfold Ef;rw[if_neg (by rw[aa];simp)];simp[Rd.bnd]
theorem DC.fail {α:Type}{f:Tx->Rd α}{n s q r e xs u}(h:DC f n s xs q)(hl:Z xs<n+1)(hb:A4 44 q= .got u r)(hf:f r= .bad e):Uk f n s= .bad e:=by
 rw[h.2.2];obtain⟨k,hk⟩:∃k,n+1-Z xs=k+1:=⟨n-Z xs,by omega⟩;rw[hk];cases q with
 |nil=>cases hb
 |cons b q=>
  unfold A4 at hb;dsimp only at hb;by_cases hc:((b.toNat:Int)==44)=true
  ·rw[if_pos hc]at hb;cases hb;rw[Ef,if_pos hc,hf];rfl
  ·rw[if_neg hc]at hb;cases hb
theorem DC.next {α:Type}{f:Tx->Rd α}{n s q r r2 xs u x}(h:DC f n s xs q)(hl:Z xs<n+1)(hb:A4 44 q= .got u r)(hf:f r= .got x r2):DC f n s (xs++[x]) r2:=by
 refine⟨by simp;omega,by simp,?_⟩;rw[h.2.2];obtain⟨k,hk⟩:∃k,n+1-Z xs=k+1:=⟨n-Z xs,by omega⟩;rw[hk,show n+1-Z (xs++[x])=k by simp;omega];cases q with
 |nil=>cases hb
 |cons b q=>
  unfold A4 at hb;dsimp only at hb;by_cases hc:((b.toNat:Int)==44)=true
  ·rw[if_pos hc]at hb;cases hb;rw[Ef,if_pos hc,hf];simp only[Rd.bnd];cases Ef f k r2<;>simp[Rd.bnd]
  ·rw[if_neg hc]at hb;cases hb
structure BA (o id:Nat)(σ σ':St):Prop where
 B:σ.B<=σ'.B
 C:∀p,p<σ.B->p≠o->σ'.C p=σ.C p
 ver:∀p,p<σ.B->p≠o->σ'.ver p=σ.ver p
 D:σ.D<=σ'.D
 top:∀k,k<σ.D->k+2≠id->σ'.top k=σ.top k
theorem BA.refl (o id σ):BA o id σ σ:=⟨Nat.le_refl _,fun _ _ _=>rfl,fun _ _ _=>rfl,Nat.le_refl _,fun _ _ _=>rfl⟩
theorem AP.kr {o σ σ'}(h:AP o σ σ')(id):BA o id σ σ':=⟨h.B,h.C,h.ver,h.D,fun k hk _=>h.top k hk⟩
theorem AE.kr {σ σ'}(h:AE σ σ')(o id):BA o id σ σ':=⟨h.B,fun p hp _=>h.C p hp,fun p hp _=>h.ver p hp,h.D,fun k hk _=>h.top k hk⟩
theorem BA.trans {o id id' a b c}(h:BA o id a b)(hi:id'=id\/a.D+2<=id')(k:BA o id' b c):BA o id a c:=
 ⟨Nat.le_trans h.B k.B,fun p hp aa=>(k.C p (Nat.lt_of_lt_of_le hp h.B) aa).trans (h.C p hp aa),fun p hp aa=>(k.ver p (Nat.lt_of_lt_of_le hp h.B) aa).trans (h.ver p hp aa),
  Nat.le_trans h.D k.D,fun j hj aa=>(k.top j (Nat.lt_of_lt_of_le hj h.D) (by omega)).trans (h.top j hj aa)⟩
theorem BA.put {o id σ σ'}(h:BA o id σ σ')(cs):BA o id σ (σ'.put o cs):=
 ⟨h.B,fun p hp aa=>by simp[St.put,aa];exact h.C p hp aa,fun p hp aa=>by simp[St.put,aa];exact h.ver p hp aa,h.D,h.top⟩
theorem BA.lay {o id a b}(h:BA o id a b)(n):BA o id a (b.lay n):=by
 have:=h.D;exact⟨h.B,h.C,h.ver,by simp[St.lay];omega,fun k hk aa=>by simp[St.lay];rw[if_neg (by omega)];exact h.top k hk aa⟩
theorem BA.new {o id a b}(h:BA o id a b)(cs):BA o id a (b.new cs):=by
 have:=h.B;exact⟨by simp[St.new];omega,fun p hp aa=>by simp[St.new];rw[if_neg (by omega)];exact h.C p hp aa,h.ver,h.D,h.top⟩
theorem BA.raise {o id a b}(h:BA o id a b){k}(hk:a.D<=k\/k+2=id)(n):BA o id a (b.raise k n):=
 ⟨h.B,h.C,h.ver,h.D,fun j hj aa=>by simp[St.raise];rw[if_neg (by omega)];exact h.top j hj aa⟩
theorem BA.keep {o id a b c}(h:AE a b)(k:BA o id b c)(ho:a.B<=o)(hi:id<2\/a.D+2<=id):AE a c:=
 ⟨Nat.le_trans h.B k.B,fun p hp=>(k.C p (Nat.lt_of_lt_of_le hp h.B) (by omega)).trans (h.C p hp),fun p hp=>(k.ver p (Nat.lt_of_lt_of_le hp h.B) (by omega)).trans (h.ver p hp),
  Nat.le_trans h.D k.D,fun j hj=>(k.top j (Nat.lt_of_lt_of_le hj h.D) (by omega)).trans (h.top j hj)⟩
def DO (σ:St)(id n:Nat):Prop:=(id=1/\n=0)\/∃k,id=k+2/\k<σ.D/\σ.top k=n/\0<n
theorem DO.keepX {o σ σ' id n}(h:DO σ id n)(k:AP o σ σ'):DO σ' id n:=by
 rcases h with h|⟨j,h1,h3,h4,h5⟩
 ·exact .inl h
 ·exact .inr ⟨j,h1,Nat.lt_of_lt_of_le h3 k.D,(k.top j h3).trans h4,h5⟩
theorem Own.keepR {o idn σ0 σ σ' id n}(h:Own σ0 σ id n)(k:BA o idn σ σ')(aa:id=1\/id≠idn):Own σ0 σ' id n:=by
 rcases h with h|⟨j,h1,h2,h3,h4,h5⟩
 ·exact .inl h
 ·exact .inr ⟨j,h1,h2,Nat.lt_of_lt_of_le h3 k.D,(k.top j h3 (by omega)).trans h4,h5⟩
theorem DO.keepR {o idn σ σ' id n}(h:DO σ id n)(k:BA o idn σ σ')(aa:id=1\/id≠idn):DO σ' id n:=by
 rcases h with h|⟨j,h1,h3,h4,h5⟩
 ·exact .inl h
 ·exact .inr ⟨j,h1,Nat.lt_of_lt_of_le h3 k.D,(k.top j h3 (by omega)).trans h4,h5⟩
theorem U0 {σ:St}{n k}(h:k<σ.D):(σ.lay n).top k=σ.top k:=by simp[St.lay];intro e;omega
theorem xY {σ:St}{n k j}(h:j≠k):(σ.raise k n).top j=σ.top j:=by simp[St.raise,h]
theorem Ti {P t z b zc σ0 σ o idn id id2 n m m' xs ys K}(ht:O5 P t=some (z,b,zc))(hK:BA o idn σ0 σ)(hO:Own σ0 σ id n)
  (hz:0<z) (hzc:Z zc=z) (hx:Z xs=n*z) (hy:Z ys=m*z) (hf:ys.all flat=true) (hm:0<m) (hb:(n+m)*b<=140737488355328) (hl:n+m<=1099511627776)
  (h:∀id' σ',Own σ0 σ' id' (n+m)->BA o idn σ0 σ'->σ'.C=σ.C->σ'.B=σ.B->σ'.ver=σ.ver->σ.D<σ'.D->(∀k,k<σ.D->k+2≠id->σ'.top k=σ.top k)->(id'=id\/σ.D+2<=id')->K (sl id' (n+m) (xs++ys)) σ'):Iv P t t (sl id n xs) (sl id2 m ys) (σ.lay m') K:=by
 unfold Iv iE;left;simp only[ht];rw[if_pos ⟨trivial,hz,hzc,hx,hy,hf,hm,hb,hl⟩];rcases hO with⟨rfl,rfl⟩|⟨k,rfl,h2,h3,h4,h5⟩
 ·have aa:xs=[]:=List.eq_nil_of_length_eq_zero (by simpa using hx);subst aa;have ac:=hK.D
  have:=h ((σ.lay m').D+2) ((σ.lay m').lay m) (by rw[Nat.zero_add];exact .inr ⟨(σ.lay m').D,rfl,by simp[St.lay];omega,by simp[St.lay],by simp[St.lay],hm⟩) ((hK.lay m').lay m) rfl rfl rfl (by simp[St.lay];omega)
   (fun j hj _=>by rw[U0 (by rw[K4];omega),U0 hj]) (by rw[K4];omega)
  simpa using this
 ·have e1:(σ.lay m').top k=n:=by simp[St.lay];rw[if_neg (by omega)];exact h4
  simp only;rw[if_pos ⟨e1,h5⟩]
  exact h (k+2) _ (.inr ⟨k,rfl,h2,by simp[St.raise,St.lay];omega,by simp[St.raise],by omega⟩) ((hK.lay m').raise (.inl h2) _) rfl rfl rfl (by simp[St.raise,St.lay])
   (fun j hj ab=>by rw[xY (by omega),U0 hj]) (.inl rfl)
theorem tL {P t z b zc}{σ0 σ:St}{o id id2 n m m' xs ys K}(ht:O5 P t=some (z,b,zc))(hO:DO σ id n)
  (hz:0<z) (hzc:Z zc=z) (hx:Z xs=n*z) (hy:Z ys=m*z) (hf:ys.all flat=true) (hm:0<m) (hb:(n+m)*b<=140737488355328) (hl:n+m<=1099511627776)
  (h:∀id' σ',DO σ' id' (n+m)->BA o id σ σ'->σ'.C=σ.C->σ'.B=σ.B->σ'.ver=σ.ver->(id'=id\/σ.D+2<=id')->K (sl id' (n+m) (xs++ys)) σ'):Iv P t t (sl id n xs) (sl id2 m ys) (σ.lay m') K:=by
 unfold Iv iE;left;simp only[ht];rw[if_pos ⟨trivial,hz,hzc,hx,hy,hf,hm,hb,hl⟩];have hR:=BA.refl o id σ;rcases hO with⟨rfl,rfl⟩|⟨k,rfl,h3,h4,h5⟩
 ·have aa:xs=[]:=List.eq_nil_of_length_eq_zero (by simpa using hx);subst aa;have:=h ((σ.lay m').D+2) ((σ.lay m').lay m) (by rw[Nat.zero_add];exact .inr ⟨(σ.lay m').D,rfl,by simp[St.lay],by simp[St.lay],hm⟩) ((hR.lay m').lay m) rfl rfl rfl (by rw[K4];omega);simpa using this
 ·have e1:(σ.lay m').top k=n:=by simp[St.lay];rw[if_neg (by omega)];exact h4
  simp only;rw[if_pos ⟨e1,h5⟩];exact h (k+2) _ (.inr ⟨k,rfl,by simp[St.raise,St.lay];omega,by simp[St.raise],by omega⟩) ((hR.lay m').raise (.inr rfl) _) rfl rfl rfl (.inl rfl)
structure RS (Bd:Nat)(t:Tx)(o:Nat)(N:List Tx)(id:Nat)(s:Tx)(σ:St):Prop where
 C:σ.C o=Pb t s (sl id (Z N) (N.map str))
 lt:o<σ.B
 own:DO σ id (Z N)
 suf:s<:+t
 len:Z N+Z s<=Bd+Z t/\Bd<=1000
structure Rs (o:Nat)(σ:St)(id:Nat)(σ':St)(id':Nat):Prop where
 keep:BA o id σ σ'
 nid:id'=id\/σ.D+2<=id'
theorem Rs.refl (o σ id):Rs o σ id σ id:=⟨BA.refl _ _ _,.inl rfl⟩
theorem Rs.trans {o a b c i j k}(h:Rs o a i b j)(g:Rs o b j c k):Rs o a i c k:=
 ⟨h.keep.trans h.nid g.keep,by have:=h.keep.D;rcases h.nid with h1|h1<;>rcases g.nid with h2|h2<;>omega⟩
theorem Rs.ofX {o a b i}(h:AP o a b):Rs o a i b i:=⟨h.kr i,.inl rfl⟩
theorem RS.stepX {t o N id s r σ σ'}(h:RS Bd t o N id s σ)(k:AP o σ σ')(ho:σ'.C o=Pb t r (sl id (Z N) (N.map str)))(hr:r<:+t)(hl:Z r<=Z s):RS Bd t o N id r σ':=
 ⟨ho,Nat.lt_of_lt_of_le h.lt k.B,h.own.keepX k,hr,by have:=h.len;omega⟩
theorem rE (c s):(A4 c s).rest<:+s:=by
 cases s with
 |nil=>exact List.suffix_refl _
 |cons b r=>
  unfold A4;dsimp only;split
  ·exact List.suffix_cons b r
  ·exact List.suffix_refl _
theorem Kf {t o N id s c σ}(ht:Z t<=1000)(h:RS Bd t o N id s σ):
  AF Tryz.prog 132 [ptr o 0,sc (.int .u8 c)] σ fun x σ'=>x=sc (.bool (A4 c s).ok)/\AP o σ σ'/\RS Bd t o N id (A4 c s).rest σ':=by
 refine AF.mono (Sm t s o _ c ht h.suf σ h.C h.lt) ?_;rintro x σ' ⟨hK,hm⟩;have hr:=rE c s;have hl:=hr.length_le;have hs:=hr.trans h.suf;cases hp:A4 c s with
 |bad e=>
  rw[hp]at hm hr hl hs;obtain⟨rfl,hO,rfl⟩:=hm;exact⟨rfl,hK,h.stepX hK hO hs hl⟩
 |got u r=>
  rw[hp]at hm hr hl hs;obtain⟨rfl,hO,-⟩:=hm;exact⟨rfl,hK,h.stepX hK hO hs hl⟩
variable {Bd:Nat}
theorem AP.new {o σ σ'}(h:AP o σ σ')(cs):AP o σ (σ'.new cs):=by
 have:=h.B;exact⟨by simp[St.new];omega,fun p hp aa=>by simp[St.new];rw[if_neg (by omega)];exact h.C p hp aa,h.ver,h.D,h.top⟩
theorem AP.putN {o p σ σ'}(h:AP o σ σ')(hp:σ.B<=p)(cs):AP o σ (σ'.put p cs):=
 ⟨h.B,fun q hq aa=>by simp[St.put];rw[if_neg (by omega)];exact h.C q hq aa,fun q hq aa=>by simp[St.put];rw[if_neg (by omega)];exact h.ver q hq aa,h.D,h.top⟩
theorem AP.lay {o a b}(h:AP o a b)(n):AP o a (b.lay n):=by
 have:=h.D;exact⟨h.B,h.C,h.ver,by simp[St.lay];omega,fun k hk=>by simp[St.lay];rw[if_neg (by omega)];exact h.top k hk⟩
theorem Zs {p:Prop}(h:p:=by repeat (first|exact AP.refl _ _|(with_reducible assumption)|(with_reducible apply AP.putN;rotate_left;(first|omega|(simp only[Aa,Ab,Av,H6]at*;omega)))|(with_reducible apply AP.new)|(with_reducible apply AP.lay)|(with_reducible refine AP.trans ?_ (by assumption)))):p:=h
def Ap:Tx->Bool×Int
 |[]=>(false,0)
 |b::r=>if Bw b.toNat=true then (true,(b.toNat:Int)-65)else (false,I7 (b::r))
theorem E3 {b r}(h:Bw b.toNat=true):Ap (b::r)=(true,(b.toNat:Int)-65):=by unfold Ap;dsimp only;rw[if_pos h]
theorem Nr {b r}(h:Bw b.toNat=false):Ap (b::r)=(false,I7 (b::r)):=by unfold Ap;dsimp only;rw[if_neg (by rw[h];simp)]
def Tt (x:Tx):List AV:=[sc (.bool (Ap x).1),ic (Ap x).2]
def A2 (ts:List Tx):List AV:=ts.flatMap Tt
theorem Fp (ts):Z (A2 ts)=Z ts*2:=by
 induction ts with
 |nil=>rfl
 |cons a l ih=>unfold A2 at*;rw[List.flatMap_cons,List.length_append,ih];simp[Tt];omega
theorem kJ (ts x):A2 (ts++[x])=A2 ts++Tt x:=by simp[A2]
theorem mD (p n s):(Aw p n s).2<:+s:=⟨(Aw p n s).1,(Ew p n s).1.symm⟩
theorem W8 (s):(Cu s).rest<:+s:=by
 cases s with
 |nil=>exact List.suffix_refl _
 |cons b r=>
  unfold Cu;dsimp only;split
  ·exact List.suffix_cons b r
  split
  ·exact List.suffix_cons b r
  split
  ·exact (mD A8 2 r).trans (List.suffix_cons b r)
  ·exact List.suffix_refl _
theorem Zw (t r b o nm)(ht:Z t<=1000)(hs:(b::r)<:+t)(σ)(ho:σ.C o=Pb t (b::r) nm)(hn:o<σ.B)(ad:((b.toNat:Int)==48)=true):
  AF Tryz.prog 250 [ptr o 0] σ fun x σ'=>AP o σ σ'/\σ'.C o=Pb t r nm/\x=ic 0:=by
 have hp:A4 48 (b::r)= .got () r:=by unfold A4;dsimp only;rw[if_pos ad]
 have hT:=Sm t (b::r) o nm 48 ht hs σ ho hn;rw[hp]at hT;refine Z9 57 [.tmp 2] Tryz.func250 ?_
 refine qb ?_;intro yd yb;refine Xi (hT) ?_;rintro _ _ ⟨aa,rfl,ab,-⟩;refine pz ?_
 first|exact⟨_,rfl,aa,ab,rfl⟩|exact⟨_,rfl,aa,ab⟩|exact⟨_,rfl,aa,rfl⟩|exact⟨_,rfl,rfl⟩
theorem Wx {t o N id s σ}(ht:Z t<=1000)(hR:RS Bd t o N id s σ):
  AF Tryz.prog 216 [ptr o 0] σ fun x σ'=>∃v k,x=tp [ag [sc (.bool v),ic k],sc (.bool (Cu s).ok)]/\AP o σ σ'/\RS Bd t o N id (Cu s).rest σ'/\Rd.Val (Cu s) fun w=>Ap w=(v,k):=by
 have ah:AD (RS Bd t o N id s σ):=hR;obtain⟨ho,hn,-,hs,-⟩:=hR;have au:=Jl hs;have av:=Q2 hs;have ac:AD (Z (Cu s).rest<=Z s):=(W8 s).length_le;have hrs:AD ((Cu s).rest<:+t):=(W8 s).trans hs;generalize ad:sl id (Z N) (N.map str)=nm at ho;have ad:AD (sl id (Z N) (N.map str)=nm):=ad;have ax:AD (σ.C o=Pb t s nm):=ho;unfold Pb cU at ho;refine Z9 46 [.cell 2 151,.tmp 3] Tryz.func216 ?_
 refine zz ?_
 refine Ay Ag (fun _=>True) [9] [0,1,2,3,4,5,6,7,8] [9] (by kernel_rfl) (fun _ _ _ h=>h) ?_;intro yd yb;cases s with
 |nil=>
  simp only[List.length_nil,Nat.sub_zero]at ho av au;refine Z3 ?_
  refine pz ?_
  have hK:AP o σ ((σ.new [sc (.bool false),ic 0]).put σ.B [sc (.bool false),ic 0]):=((AP.refl _ _).new _).putN (Nat.le_refl _) _;refine⟨_,rfl,false,0,rfl,hK,ah.o.stepX hK ?_ hrs.o ac.o,trivial⟩;rw[ad.o,Aj hn,Ah hn];exact ax.o
 |cons b r=>
  simp only[List.length_cons,List.head?_cons]at ho av au;refine Z3 ?_
  refine pz ?_
  refine Ay Ag (fun _=>True) [9] [0,1,2,3,4,5,6,7,8] [9] (by kernel_rfl) (fun _ _ _ h=>h) ?_;intro yd yb;refine Z3 ?_;have az:A8 b.toNat=true->48<=(b.toNat:Int)/\(b.toNat:Int)<=57:=fun h=>by simp[A8]at h;omega
  have an:Bw b.toNat=true->65<=(b.toNat:Int)/\(b.toNat:Int)<=90:=fun h=>by simp[Bw]at h;omega
  have am:AD ((σ.new [sc (.bool false),ic 0]).C o=Pb t (b::r) nm):=by rw[AD,Ah hn];exact ax.o
  have ay:o<(σ.new [sc (.bool false),ic 0]).B:=by rw[Aa];omega
  have aj:AD (AP o σ (σ.new [sc (.bool false),ic 0])):=(AP.refl _ _).new _;by_cases ab:((b.toNat:Int)==48)=true
  ·have hl:Bw b.toNat=false:=by
    cases hl:Bw b.toNat with
    |false=>rfl
    |true=>have:=an hl;simp at ab;omega
   have hd:A8 b.toNat=true:=by simp at ab;simp[A8];omega
   have hp:Cu (b::r)= .got [b] r:=by
    unfold Cu;dsimp only;rw[if_neg (by rw[hl];simp),if_pos ab]
   rw[hp]at ac hrs;have hE:AD (Ap [b]=(false,0)):=by
    rw[AD,Nr hl];simp at ab;simp[I7];omega
   (repeat (refine qb ?_;intro yd yb;(first|(refine Xi (He _ _) ?_;rintro _ _ ⟨rfl,rfl⟩)|(refine Xi (Hd _ _) ?_;rintro _ _ ⟨rfl,rfl⟩)|(refine Xi (Zw t r b o nm ht hs _ am.o ay ab) ?_;rintro _ _ ⟨ae,ai,rfl⟩;(have ak:=ae.C σ.B (by rw[Aa];omega) (by omega);rw[Ao]at ak;have ap:AD _:=ae;have ao:AD _:=ai;clear ae ai)))));refine pz ?_
   rename_i σ1;have hK:AP o σ (σ1.put σ.B [sc (.bool false),ic 0]):=(aj.o.trans ap.o).putN (Nat.le_refl _) _;refine⟨_,rfl,false,0,rfl,hK,ah.o.stepX hK ?_ hrs.o ac.o,hE.o⟩;rw[ad.o,Aj hn];exact ao.o
  ·have ab:((b.toNat:Int)==48)=false:=by simpa using ab
   by_cases hl:Bw b.toNat=true
   ·have hp:Cu (b::r)= .got [b] r:=by
     unfold Cu;dsimp only;rw[if_pos hl]
    rw[hp]at ac hrs;have hE:AD (Ap [b]=(true,(b.toNat:Int)-65)):=by
     exact E3 hl
    have an:=an hl;have hw:IntKind.i64.wrap (IntKind.u8.wrap ((b.toNat:Int)-65))=(b.toNat:Int)-65:=by
     rw[Abs.u8w (by omega) (by omega),Abs.i64w (by omega) (by omega)]
    refine qb ?_;intro yd yb;refine Xi (He _ _) ?_;rintro _ _ ⟨rfl,rfl⟩;refine pz ?_
    have hK:AP o σ (((σ.new [sc (.bool false),ic 0]).put o [str t,ic ((Z t-(Z r+1):Nat)+1),nm]).put σ.B [sc (.bool true),ic ((b.toNat:Int)-65)]):=(aj.o.put _).putN (Nat.le_refl _) _;refine⟨_,rfl,true,_,rfl,hK,ah.o.stepX hK ?_ hrs.o ac.o,hE.o⟩;rw[ad.o,Aj hn,Ak];unfold Pb cU;rw[show ((Z t-(Z r+1):Nat):Int)+1=((Z t-Z r:Nat):Int)by omega];rfl
   ·have hl:Bw b.toNat=false:=by simpa using hl
    by_cases hd:A8 b.toNat=true
    ·have hN:=Uh t (b::r) o nm ht hs _ am.o ay (fun b' r' e=>by cases e;exact ab);have hw:Aw A8 3 (b::r)=(b::(Aw A8 2 r).1,(Aw A8 2 r).2):=by rw[Aw,if_pos hd]
     rw[hw]at hN;have hN:AD _:=hN;have af:G3 b.toNat=true:=by
      rcases CE.1 hd with h|h
      ·exact h
      ·rw[ab]at h;cases h
     have hp:Cu (b::r)= .got (b::(Aw A8 2 r).1) (Aw A8 2 r).2:=by
      unfold Cu;dsimp only;rw[if_neg (by rw[hl];simp),if_neg (by rw[ab];simp),if_pos af]
     rw[hp]at ac hrs;have hE:AD (Ap (b::(Aw A8 2 r).1)=(false,I7 (b::(Aw A8 2 r).1))):=by
      exact Nr hl
     clear hw
     (repeat (refine qb ?_;intro yd yb;(first|(refine Xi (He _ _) ?_;rintro _ _ ⟨rfl,rfl⟩)|(refine Xi (Hd _ _) ?_;rintro _ _ ⟨rfl,rfl⟩)|(refine Xi (hN.o) ?_;rintro _ _ ⟨ae,q,ai,hq,aw,rfl⟩;(have ak:=ae.C σ.B (by rw[Aa];omega) (by omega);rw[Ao]at ak;have ap:AD _:=ae;have ao:AD _:=ai;have HQ:AD _:=aw;clear ae ai aw)))));refine pz ?_
     rename_i σ1;have hK:AP o σ (σ1.put σ.B [sc (.bool false),ic (I7 (b::(Aw A8 2 r).1))]):=(aj.o.trans ap.o).putN (Nat.le_refl _) _;refine⟨_,rfl,false,_,rfl,hK,ah.o.stepX hK ?_ hrs.o ac.o,hE.o⟩;rw[ad.o,Aj hn,show (Rd.got (b::(Aw A8 2 r).1) (Aw A8 2 r).2).rest=q from HQ.o.symm];exact ao.o
    ·have hd:A8 b.toNat=false:=by simpa using hd
     have af:G3 b.toNat=false:=by
      cases af:G3 b.toNat with
      |false=>rfl
      |true=>rw[CE.2 (.inl af)]at hd;cases hd
     have hp:Cu (b::r)= .bad (b::r):=by
      unfold Cu;dsimp only;rw[if_neg (by rw[hl];simp),if_neg (by rw[ab];simp),if_neg (by rw[af];simp)]
     rw[hp]at ac hrs
     (repeat (refine qb ?_;intro yd yb;(first|(refine Xi (He _ _) ?_;rintro _ _ ⟨rfl,rfl⟩)|(refine Xi (Hd _ _) ?_;rintro _ _ ⟨rfl,rfl⟩))));refine pz ?_
     have hK:AP o σ ((σ.new [sc (.bool false),ic 0]).put σ.B [sc (.bool false),ic 0]):=aj.o.putN (Nat.le_refl _) _;refine⟨_,rfl,false,0,rfl,hK,ah.o.stepX hK ?_ hrs.o ac.o,trivial⟩;rw[ad.o,Aj hn];exact am.o
variable {Bd:Nat}
def wF (N:List Tx)(n:Tx):List Tx:=if n∈N then N else N++[n]
theorem gG (N n):n∈wF N n:=by unfold wF;split<;>simp_all
theorem gE (N n):N<+:wF N n:=by
 unfold wF;split
 ·exact List.prefix_refl _
 ·exact List.prefix_append _ _
theorem gJ {N N':List Tx}{n}(h:N<+:N')(hm:n∈N):N'.idxOf n=N.idxOf n:=by
 obtain⟨r,rfl⟩:=h;rw[List.idxOf_append,if_pos hm]
theorem gH (N n):(wF N n).idxOf n=N.idxOf n:=by
 unfold wF;split
 ·rfl
 ·rename_i h;rw[List.idxOf_append,if_neg h,List.idxOf_eq_length h];simp
theorem Om:∀{N:List Tx} {i:Nat} {n:Tx},(∀a,a<i->N[a]?≠some n)->N[i]?=some n->N.idxOf n=i
 |[],i,n,h,hi=>by simp at hi
 |x::N,0,n,h,hi=>by simp at hi;subst hi;simp
 |x::N,i+1,n,h,hi=>by
  have h0:=h 0 (by omega);have ih:=Om (N:=N) (i:=i) (n:=n) (fun a ha=>by have:=h (a+1) (by omega);simpa using this) (by simpa using hi);have hx:(x==n)=false:=by
   simp at h0;simpa using h0
  rw[List.idxOf_cons,hx,ih];rfl
theorem P6 {N:List Tx}{n}(h:∀a,a<Z N->N[a]?≠some n):n∉N:=fun hm=>by
 obtain⟨i,hi,he⟩:=List.getElem_of_mem hm;exact h i hi (by rw[List.getElem?_eq_getElem hi,he])
theorem VU {t o N id s σ}(n)(ht:Z t<=1000)(hR:RS Bd t o N id s σ)(hl:Z N+1+Z s<=Bd+Z t):
  AF Tryz.prog 215 [ptr o 0,str n] σ fun x σ'=>∃id',x=ic (N.idxOf n:Nat)/\Rs o σ id σ' id'/\RS Bd t o (wF N n) id' s σ':=by
 have ao:AD (RS Bd t o N id s σ):=hR;obtain⟨ho,hn,aa,hs,hlen⟩:=hR;have af:AD (DO σ id (Z N)):=aa;clear aa;have aw:=Jl hs;unfold Pb cU at ho;refine Z9 38 [.tmp 4] Tryz.func215 ?_
 refine zz ?_
 refine Ae (fun m s' σ'=>∃i:Nat,m=Z N-i/\i<=Z N/\s' 0=ptr o 0/\s' 1=str n/\s' 10=sl id (Z N) (N.map str)/\s' 11=ic (Z N)/\s' 12=ic i/\σ'=σ/\AD (∀a,a<i->N[a]?≠some n)) (Z N)
  ⟨0,by omega,by omega,rfl,rfl,rfl,rfl,rfl,rfl,fun a ha=>by omega⟩ ?_
 rintro m s' σ' ⟨i,rfl,hi,h0,h1,a0,az,ay,hσ,ab⟩;subst hσ;by_cases ai:i<Z N
 ·have ak:=A7 ai;have HX:AD (N[i]?=some N[i]):=List.getElem?_eq_getElem ai;generalize N[i]=w at ak HX
  refine qe ?_ ?_<;>intro h ad
  ·have hw:w=n:=by simpa using h
   subst hw;have ac:w∈N:=List.mem_of_getElem? HX.o;refine⟨_,rfl,id,by rw[Om ab.o HX.o],Rs.refl _ _ _,?_⟩;rw[wF,if_pos ac];exact ao.o
  ·have hw:w≠n:=by simpa using h
   refine⟨Z N-(i+1),by omega,i+1,rfl,by omega,by simp,?_⟩;intro a ha;by_cases an:a=i
   ·subst an;rw[HX.o];simpa using hw
   ·exact ab.o a (by omega)
 ·have hil:i=Z N:=by omega
  subst hil;have ah:=P6 ab.o
  refine qm ?_;intro yd yb
  refine tL (σ0:=σ') (o:=o) (by first|exact Sj) af.o (by decide) (by rfl) (by simp) (by rfl) (by rfl) (by decide) (by omega) (by omega) ?_;intro id' σ1 ap au ae aj av hid;have am:o<σ1.B:=by omega
  have ax:σ1.C o=[str t,ic (Z t-Z s:Nat),sl id (Z N) (N.map str)]:=by rw[ae];exact ho
  refine Z3 ?_
  refine zz ?_
  have hI:wF N n=N++[n]:=by rw[wF,if_neg ah]
  have hx:N.idxOf n=Z N:=List.idxOf_eq_length ah;refine⟨_,rfl,id',by rw[hx,show ((Z N+1:Nat):Int)-1=Z N by omega],⟨au.put _,hid⟩,?_⟩;rw[hI];refine⟨?_,am,?_,hs,by simp;omega⟩
  ·rw[Ak];simp[Pb,cU]
  ·rcases ap with h|⟨j,q1,q2,q3,q4⟩
   ·exact .inl ⟨h.1,by have:=h.2;omega⟩
   ·exact .inr ⟨j,q1,q2,by rw[Od,q3];simp,by simp⟩
theorem W4 {t o N id s σ}(ds){n}(ht:Z t<=1000)(hR:RS Bd t o N id s σ)(hl:Z N+1+Z s<=Bd+Z t)(he:n=ds):
  AF Tryz.prog 215 [ptr o 0,str n] σ fun x σ'=>∃id',x=ic (N.idxOf ds:Nat)/\Rs o σ id σ' id'/\RS Bd t o (wF N ds) id' s σ':=by
 subst he;exact VU n ht hR hl
variable {Bd:Nat}
def smalls (s ds q:Tx):Prop:=Z ds<=6/\s=ds++q/\Aw B6 6 s=(ds++(Aw B6 (6-Z ds) q).1,(Aw B6 (6-Z ds) q).2)
theorem qH (s):smalls s [] s:=⟨by simp,by simp,by simp⟩
theorem lC {s ds q b}(h:smalls s ds (b::q))(hl:Z ds<6)(hb:B6 b.toNat=true):smalls s (ds++[b]) q:=by
 obtain⟨h1,h2,h3⟩:=h;have e:6-Z ds=(6-Z (ds++[b]))+1:=by simp;omega
 rw[e,Aw,if_pos hb]at h3;exact⟨by simp;omega,by rw[h2];simp,by rw[h3];simp⟩
theorem Li {s ds q}(h:smalls s ds q)(he:Z ds=6\/q=[]\/∃b r,q=b::r/\B6 b.toNat=false):Aw B6 6 s=(ds,q):=by
 obtain⟨h1,-,h2⟩:=h;rw[h2];rcases he with he|rfl|⟨b,r,rfl,hb⟩
 ·rw[he];simp[Aw]
 ·cases hn:6-Z ds<;>simp[Aw]
 ·cases hn:6-Z ds<;>simp[Aw,hb]
theorem xP {t s:Tx}(h:s<:+t):t.drop (Z t-Z s)=s:=by
 obtain⟨p,rfl⟩:=h;simp
theorem j4 {t s ds q:Tx}(h:s<:+t)(e:s=ds++q){k}(hk:k=Z ds):(t.drop (Z t-Z s)).take k=ds:=by
 rw[xP h,e,hk];simp
theorem Sp {t s ds q:Tx}(h:s<:+t)(e:s=ds++q){j k}(hj:j=Z t-Z s)(hk:k=Z ds):(t.drop j).take k=ds:=by
 subst hj;exact j4 h e hk
theorem dB {s ds q}(h:Aw B6 6 s=(ds,q))(h0:Z ds=0):Ff s= .bad s:=by
 have:ds=[]:=List.eq_nil_of_length_eq_zero h0;unfold Ff;rw[h,if_pos this]
theorem Sv {s ds q}(h:Aw B6 6 s=(ds,q))(h0:Z ds≠0):Ff s= .got ds q:=by
 unfold Ff;rw[h,if_neg (by intro e;simp at e;simp[e]at h0)]
theorem L9 {t o N id s σ}(ht:Z t<=1000)(hR:RS Bd t o N id s σ):
  AF Tryz.prog 183 [ptr o 0] σ fun x σ'=>∃k N' id',x=tp [ic k,sc (.bool (Ff s).ok)]/\Rs o σ id σ' id'/\RS Bd t o N' id' (Ff s).rest σ'/\N<+:N'/\Rd.Val (Ff s) fun n=>n∈N'/\k=(N'.idxOf n:Nat):=by
 have ad:AD (RS Bd t o N id s σ):=hR;obtain⟨ho,hn,-,hs,-⟩:=hR;have ay:=Jl hs;generalize af:sl id (Z N) (N.map str)=nm at ho;have aw:AD (σ.C o=Pb t s nm):=ho;unfold Pb cU at ho;refine Z9 67 [.tmp 2,.tmp 3] Tryz.func183 ?_
 refine zz ?_
 refine Ae (fun m s' σ'=>∃(q ds:Tx),m=6-Z ds/\s' 0=ptr o 0/\s' 4=ic (Z t-Z s:Nat)/\AP o σ σ'/\σ'.C o=Pb t q nm/\o<σ'.B/\q<:+t/\Z s=Z ds+Z q/\AD (smalls s ds q)) 6
  ⟨s,[],rfl,rfl,rfl,AP.refl _ _,aw.o,hn,hs,by simp,qH s⟩ ?_
 rintro m s' σ' ⟨q,ds,rfl,h0,h4,hK,hO,az,hq,am,hD⟩;clear ho;have an:=Jl hq;have ao:=Q2 hq;have a0:=hD.o.1;have HO:AD (σ'.C o=Pb t q nm):=hO;unfold Pb cU at hO
 refine pz ?_
 refine Ay Ag (fun _=>True) [30] [0,1,2,3,4,5,6,7,8,9,10,11,12,13,14,15,16,17,18,19,20,21,22,23,24,25,26,27,28] [29,30] (by kernel_rfl) (fun _ _ _ h=>h) ?_;intro yd yb;cases q with
 |nil=>
  simp only[List.length_nil,Nat.sub_zero,Nat.add_zero]at hO ao an am;refine Z3 ?_
  refine qe ?_ ?_<;>intro h ah
  all_goals have aa:=Li hD.o (.inr (.inl rfl))
  ·
   have ab:Z ds=0:=by simp at h;omega
   have hp:=dB aa ab;have ae:=hD.o.2.1;rw[List.eq_nil_of_length_eq_zero ab,List.nil_append]at ae;refine⟨_,rfl,0,N,id,by rw[hp];rfl,Rs.ofX hK,?_,List.prefix_refl _,by rw[hp];trivial⟩;rw[hp];exact ad.o.stepX hK (by rw[af];exact ae ▸ HO.o) hs (Nat.le_refl _)
  ·
   have ab:Z ds≠0:=by simp at h;omega
   have hp:=Sv aa ab;have ac:=ad.o.stepX hK (by rw[af];exact HO.o) hq (by first|omega|(simp only[List.length_cons,List.length_nil];omega));have ap:=ad.o.len;have ak:AD _:=ac;have HD:AD _:=hD;have HP:AD _:=hp;have HK:AD _:=hK;clear ac hp hK aa;refine Ay Ag (fun _=>True) [10] [0,1,2,3,4,5,6,7,8,9] [10] (by kernel_rfl) (fun _ _ _ h=>h) ?_;intro yd yb;refine Z3 ?_
   refine qb ?_;intro yd yb;refine Xi (W4 ds ht ak.o (by first|omega|(simp only[List.length_cons,List.length_nil];omega)) (by refine Sp hs HD.o.2.1 ?_ ?_<;>first|omega|(simp only[List.length_cons,List.length_nil,Nat.add_zero];omega))) ?_;rintro _ _ ⟨id',rfl,ai,aj⟩;refine pz ?_
   refine⟨_,rfl,_,wF N ds,id',by rw[HP.o];rfl,(Rs.ofX HK.o).trans ai,?_,gE _ _,?_⟩
   ·rw[HP.o];exact aj
   ·rw[HP.o];exact⟨gG _ _,by rw[gH]⟩
 |cons b r=>
  simp only[List.length_cons,List.head?_cons]at hO ao an am;have av:=Sn hq;refine Z3 ?_
  repeat' first|refine Z1 ?_|refine Z8 fun yd yb=>?_|refine Z4 ?_;clear yb yd|refine Z2 ?_ ?_<;>intro h ah<;>try exact Xp|refine Z5 ?_;refine Xi (Rm _ _) ?_;rintro _ _ ⟨rfl,rfl⟩|refine Z3 ?_|exact Zt|apply yb.o;clear yb yd
  ·have ax:Z ds<6:=by omega
   have au:B6 b.toNat=true:=by assumption
   refine⟨6-Z (ds++[b]),by simp;omega,r,ds++[b],rfl,hK.put _,?_,av,by simp;omega,lC hD.o ax au⟩;unfold Pb cU;rw[show ((Z t-(Z r+1):Nat):Int)+1=((Z t-Z r:Nat):Int)by omega]
  ·have aa:=Li hD.o (.inr (.inr ⟨b,r,rfl,by assumption⟩));have ab:Z ds=0:=by simp at h;omega
   have hp:=dB aa ab;have ae:=hD.o.2.1;rw[List.eq_nil_of_length_eq_zero ab,List.nil_append]at ae;refine⟨_,rfl,0,N,id,by rw[hp];rfl,Rs.ofX hK,?_,List.prefix_refl _,by rw[hp];trivial⟩;rw[hp];exact ad.o.stepX hK (by rw[af];exact ae ▸ HO.o) hs (Nat.le_refl _)
  ·have aa:=Li hD.o (.inr (.inr ⟨b,r,rfl,by assumption⟩));have ab:Z ds≠0:=by simp at h;omega
   have hp:=Sv aa ab;have ac:=ad.o.stepX hK (by rw[af];exact HO.o) hq (by first|omega|(simp only[List.length_cons,List.length_nil];omega));have ap:=ad.o.len;have ak:AD _:=ac;have HD:AD _:=hD;have HP:AD _:=hp;have HK:AD _:=hK;clear ac hp hK aa;refine Ay Ag (fun _=>True) [10] [0,1,2,3,4,5,6,7,8,9] [10] (by kernel_rfl) (fun _ _ _ h=>h) ?_;intro yd yb;refine Z3 ?_
   refine qb ?_;intro yd yb;refine Xi (W4 ds ht ak.o (by first|omega|(simp only[List.length_cons,List.length_nil];omega)) (by refine Sp hs HD.o.2.1 ?_ ?_<;>first|omega|(simp only[List.length_cons,List.length_nil,Nat.add_zero];omega))) ?_;rintro _ _ ⟨id',rfl,ai,aj⟩;refine pz ?_
   refine⟨_,rfl,_,wF N ds,id',by rw[HP.o];rfl,(Rs.ofX HK.o).trans ai,?_,gE _ _,?_⟩
   ·rw[HP.o];exact aj
   ·rw[HP.o];exact⟨gG _ _,by rw[gH]⟩
  ·exfalso;simp at h;omega
  ·have aa:=Li hD.o (.inl (by omega));have ab:Z ds≠0:=by simp at h;omega
   have hp:=Sv aa ab;have ac:=ad.o.stepX hK (by rw[af];exact HO.o) hq (by first|omega|(simp only[List.length_cons,List.length_nil];omega));have ap:=ad.o.len;have ak:AD _:=ac;have HD:AD _:=hD;have HP:AD _:=hp;have HK:AD _:=hK;clear ac hp hK aa;refine Ay Ag (fun _=>True) [10] [0,1,2,3,4,5,6,7,8,9] [10] (by kernel_rfl) (fun _ _ _ h=>h) ?_;intro yd yb;refine Z3 ?_
   refine qb ?_;intro yd yb;refine Xi (W4 ds ht ak.o (by first|omega|(simp only[List.length_cons,List.length_nil];omega)) (by refine Sp hs HD.o.2.1 ?_ ?_<;>first|omega|(simp only[List.length_cons,List.length_nil,Nat.add_zero];omega))) ?_;rintro _ _ ⟨id',rfl,ai,aj⟩;refine pz ?_
   refine⟨_,rfl,_,wF N ds,id',by rw[HP.o];rfl,(Rs.ofX HK.o).trans ai,?_,gE _ _,?_⟩
   ·rw[HP.o];exact aj
   ·rw[HP.o];exact⟨gG _ _,by rw[gH]⟩
variable {Bd:Nat}
theorem RS.new {t o N id s σ}(h:RS Bd t o N id s σ)(cs):RS Bd t o N id s (σ.new cs):=
 ⟨by rw[Ah h.lt];exact h.C,by have:=h.lt;rw[Aa];omega,h.own,h.suf,h.len⟩
theorem RS.put {t o N id s σ}(h:RS Bd t o N id s σ){p}(hp:o<p)(cs):RS Bd t o N id s (σ.put p cs):=
 ⟨by rw[Aj hp];exact h.C,h.lt,h.own,h.suf,h.len⟩
theorem RS.lay {t o N id s σ}(h:RS Bd t o N id s σ)(n):RS Bd t o N id s (σ.lay n):=by
 refine⟨h.C,h.lt,?_,h.suf,h.len⟩;rcases h.own with e|⟨k,h1,h2,h3,h4⟩
 ·exact .inl e
 ·exact .inr ⟨k,h1,by rw[K4];omega,by rw[U0 h2];exact h3,h4⟩
theorem Zr {p:Prop}(h:p:=by repeat (first|(with_reducible assumption)|(with_reducible apply RS.put;rotate_left;(first|omega|(simp only[Aa,Ab,Av,H6]at*;omega)))|(with_reducible apply RS.new)|(with_reducible apply RS.lay)|assumption)):p:=h
theorem Rs.new {o a b i j}(h:Rs o a i b j)(cs):Rs o a i (b.new cs) j:=⟨h.keep.new cs,h.nid⟩
theorem Rs.lay {o a b i j}(h:Rs o a i b j)(n):Rs o a i (b.lay n) j:=⟨h.keep.lay n,h.nid⟩
theorem BA.putN {o id p σ σ'}(h:BA o id σ σ')(hp:σ.B<=p)(cs):BA o id σ (σ'.put p cs):=
 ⟨h.B,fun q hq aa=>by simp[St.put];rw[if_neg (by omega)];exact h.C q hq aa,fun q hq aa=>by simp[St.put];rw[if_neg (by omega)];exact h.ver q hq aa,h.D,h.top⟩
theorem Rs.put {o p a b i j}(h:Rs o a i b j)(hp:a.B<=p)(cs):Rs o a i (b.put p cs) j:=⟨h.keep.putN hp cs,h.nid⟩
theorem Rs.transX {o a b c i j}(h:Rs o a i b j)(k:AP o b c):Rs o a i c j:=h.trans (Rs.ofX k)
theorem Zu {p:Prop}(h:p:=by repeat (first|exact Rs.refl _ _ _|(with_reducible assumption)|(with_reducible apply Rs.put;rotate_left;(first|omega|(simp only[Aa,Ab,Av,H6]at*;omega)))|(with_reducible apply Rs.new)|(with_reducible apply Rs.lay)|(refine Rs.trans ?_ (by with_reducible assumption))|(refine Rs.transX ?_ (by with_reducible assumption)))):p:=h
theorem BA.x {o a b}(h:BA o 0 a b):AP o a b:=⟨h.B,h.C,h.ver,h.D,fun k hk=>h.top k hk (by omega)⟩
theorem Own.keepX {o σ0 σ σ' id n}(h:Own σ0 σ id n)(k:AP o σ σ'):Own σ0 σ' id n:=by
 rcases h with h|⟨j,h1,h2,h3,h4,h5⟩
 ·exact .inl h
 ·exact .inr ⟨j,h1,h2,Nat.lt_of_lt_of_le h3 k.D,(k.top j h3).trans h4,h5⟩
theorem Own.made' {σ0 b:St}(h:σ0.D<=b.D){n}(hn:0<n):Own σ0 (b.lay n) (b.D+2) n:=.inr ⟨b.D,rfl,h,by simp[St.lay],by simp[St.lay],hn⟩
theorem RS.app {t o N id ids r X Y}(h:RS Bd t o N id r X)(ab:Y.C=X.C)(aa:Y.B=X.B)(ac:X.D<Y.D)(etop:∀k,k<X.D->k+2≠ids->Y.top k=X.top k)(ad:id=1\/id≠ids):RS Bd t o N id r Y:=by
 refine⟨by rw[ab];exact h.C,by rw[aa];exact h.lt,?_,h.suf,h.len⟩;rcases h.own with e|⟨k,h1,h2,h3,h4⟩
 ·exact .inl e
 ·exact .inr ⟨k,h1,by omega,(etop k h2 (by omega)).trans h3,h4⟩
theorem DO.apart {σ X id ids n m}(h:DO σ id n)(g:Own σ X ids m):id=1\/id≠ids:=by
 rcases h with⟨rfl,-⟩|⟨k,h1,h2,-⟩
 ·exact .inl rfl
 ·rcases g with⟨rfl,-⟩|⟨j,g1,g2,-⟩<;>omega
theorem K1 {c q}(h:(A4 c q).ok=false):A4 c q= .bad q:=by
 cases q with
 |nil=>rfl
 |cons b r=>
  unfold A4 at h⊢;dsimp only at h⊢;split at h
  ·cases h
  ·rename_i hb;rw[if_neg hb]
abbrev Ep (s:Tx):Rd (List Tx):=Uk Cu 2 s
theorem lK {t o N id s σ}(ht:Z t<=1000)(hR:RS Bd t o N id s σ):
  AF Tryz.prog 184 [ptr o 0] σ fun x σ'=>∃n ids c,x=tp [sl ids n c,sc (.bool (Ep s).ok)]/\AP o σ σ'/\RS Bd t o N id (Ep s).rest σ'/\Rd.Val (Ep s) fun ts=>n=Z ts/\c=A2 ts:=by
 have hn:=hR.lt;refine Z9 37 [.tmp 2,.tmp 3] Tryz.func184 ?_
 refine qb ?_;intro yd yb;refine Xi (Wx ht hR) ?_;rintro _ _ ⟨v,k,rfl,am,af,ae⟩;(have ac:=am.B);refine qe ?_ ?_<;>intro h ad
 ·rename_i σ1;obtain⟨e,he⟩:=Rd.ok_false h;have hp:=DC.none (n:=2) he;rw[he]at af;refine⟨_,rfl,0,1,[],by rw[Ep,hp];rfl,Zs,?_,by rw[Ep,hp];trivial⟩;rw[Ep,hp];exact Zr
 ·rename_i σ1;obtain⟨w,q,he⟩:=Rd.ok_true h;have hp:=DC.first (n:=2) he;rw[he]at af ae;have ae:Ap w=(v,k):=ae;have af:RS Bd t o N id q σ1:=af;have hc:[sc (.bool v),ic k]=A2 [w]:=by simp[A2,Tt,ae]
  rw[hc]
  refine Ae (fun m s' σ'=>∃(ts:List Tx) (q:Tx) (ids:Nat),m=3-Z ts/\s' 0=ptr o 0/\s' 6=sl ids (Z ts) (A2 ts)/\AP o σ σ'/\RS Bd t o N id q σ'/\Own σ σ' ids (Z ts)/\Z ts<=3/\AD (DC Cu 2 s ts q)) 2
   ⟨[w],q,_,rfl,rfl,rfl,Zs,Zr,?_,by simp,hp⟩ ?_
  ·exact Own.made' (b:=(σ1.new _).put _ _) am.D (by decide)
  clear am af ae ac hc hp he h;rintro m s' σ' ⟨ts,q,ids,rfl,h0,h6,hK,hR2,hO,a6,hS⟩;have aw:=Fp ts;have a4:=hK.B;by_cases a5:Z ts<3
  ·repeat' first|refine Z1 ?_|refine Z8 fun yd yb=>?_|refine Z4 ?_;clear yb yd|refine Z2 ?_ ?_<;>intro h ad<;>try exact Xp|(refine Z5 ?_;first|(refine Xi (Kf ht (by assumption)) ?_;rintro _ _ ⟨rfl,ak,ao⟩;(have ac:=ak.B))|(refine Xi (Wx ht (by assumption)) ?_;rintro _ _ ⟨v,k,rfl,au,ab,aa⟩;(have av:=au.B)))|refine Z3 ?_|exact Zt|apply yb.o;clear yb yd
   ·rename_i σ2 aj _ σ3;obtain⟨u,r,hb⟩:=Rd.ok_true aj;rw[hb]at h ab;obtain⟨e,he⟩:=Rd.ok_false h;rw[show (Rd.got u r).rest=r from rfl]at he ab;have hp:=hS.o.fail (by omega) hb he;rw[he]at ab;refine⟨_,rfl,0,1,[],by rw[Ep,hp];rfl,Zs,?_,by rw[Ep,hp];trivial⟩;rw[Ep,hp];exact Zr
   ·rename_i σ2 aj _ σ3;obtain⟨u,r,hb⟩:=Rd.ok_true aj;rw[hb]at h ab aa;obtain⟨x,r2,he⟩:=Rd.ok_true h;rw[show (Rd.got u r).rest=r from rfl]at he ab aa;have hp:=hS.o.next (by omega) hb he;rw[he]at ab aa;have aa:Ap x=(v,k):=aa;have az:AP o σ ((σ3.new [sc (.bool false),ic 0]).put σ3.B [sc (.bool v),ic k]):=Zs;have ap:Own σ ((σ3.new [sc (.bool false),ic 0]).put σ3.B [sc (.bool v),ic k]) ids (Z ts):=Own.put (Own.new (Own.keepX (Own.keepX hO ak) au) _) _ _;have ax:RS Bd t o N id r2 ((σ3.new [sc (.bool false),ic 0]).put σ3.B [sc (.bool v),ic k]):=Zr;refine Ti (o:=o) (idn:=0) (σ0:=σ) (by first|exact E0) (az.kr 0) ap (by decide) (by rfl) aw (by rfl) (by rfl) (by decide) (by omega) (by omega) ?_;intro idn σn ay a0 an ai a3 ah etop hid;refine Z3 ?_
    refine zz ?_
    refine⟨3-Z (ts++[x]),by simp;omega,ts++[x],r2,idn,rfl,?_,a0.x,?_,by simpa using ay,by simp;omega,hp⟩
    ·rw[kJ,Tt,aa];simp
    ·exact ax.app an ai ah etop (hR.own.apart ap)
   ·have hp:=hS.o.stop h;rename_i σ2;rw[K1 h]at ao;refine⟨_,rfl,_,ids,_,by rw[Ep,hp];rfl,Zs,?_,by rw[Ep,hp];exact⟨rfl,rfl⟩⟩;rw[Ep,hp];exact Zr
  ·refine pz ?_
   have hp:=hS.o.full (by omega)
   first
   |exact⟨_,rfl,_,ids,_,by rw[Ep,hp];rfl,hK,by rw[Ep,hp];exact hR2,by rw[Ep,hp];exact⟨rfl,rfl⟩⟩
   |exact⟨_,rfl,_,ids,_,by rw[Ep,hp];rfl,by rw[Ep,hp];exact hR2,by rw[Ep,hp];exact⟨rfl,rfl⟩⟩
end Go.Proofs.YtmoeoppbmhfbpabGreatDoorI
