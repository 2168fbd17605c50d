import Derived.Test.YtmoeoppbmhfbpabGreatDoorIProgC
import Derived.Test.YtmoeoppbmhfbpabGreatDoorIGram
set_option maxHeartbeats 16000000
set_option maxRecDepth 100000
set_option linter.all false
open List renaming length->Z
namespace Go.Proofs.YtmoeoppbmhfbpabGreatDoorI
open Go.Abs
variable {Bd:Nat}
structure PA (N:List Tx)(a:AC)(k:Int)(n:Nat)(c:List AV):Prop where
 mem:a.B∈N
 idx:k=(N.idxOf a.B:Nat)
 len:n=Z a.A
 cells:c=A2 a.A
theorem yG (nt s):Du nt s=(Ff s).bnd fun p r=>(A4 40 r).bnd fun _ r=>(Ep r).bnd fun ts r=>(A4 41 r).bnd fun _ r=>.got {nt:=nt,B:=p,A:=ts} r:=by
 unfold Du X4 Ep Uk;cases Ff s with
 |bad e=>rfl
 |got p r=>
  simp only[Rd.bnd];cases A4 40 r with
  |bad e=>rfl
  |got u r=>
   simp only[Rd.bnd];cases Cu r with
   |bad e=>rfl
   |got w r=>
    simp only[Rd.bnd];cases Ef Cu 2 r<;>rfl
theorem Wy (nt){t o N id s y}(ht:Z t<=1000)(hR:RS Bd t o N id s y):
  AF Tryz.prog 130 [ptr o 0] y fun x y'=>∃k n ids c N' id',x=tp [ag [ic k,sl ids n c],sc (.bool (Du nt s).ok)]/\Rs o y id y' id'/\RS Bd t o N' id' (Du nt s).rest y'/\N<+:N'/\Rd.Val (Du nt s) fun a=>PA N' a k n c:=by
 have hn:=hR.lt;rw[yG];refine Z9 34 [.cell 2 122,.tmp 3] Tryz.func130 ?_
 repeat' first|refine Z1 ?_|refine Z8 fun yd yb=>?_|refine Z4 ?_;clear yb yd|refine Z2 ?_ ?_<;>intro h aw<;>try exact Xp|(refine Z5 ?_;first|(refine Xi (L9 ht (Zr)) ?_;rintro _ _ ⟨k,N',id',rfl,am,aj,ae,ak⟩;(have ai:=am.keep.B;(try simp only[Aa,Ab,Av]at ai);have av:=am.keep.C))|(refine Xi (Kf ht (by assumption)) ?_;rintro _ _ ⟨rfl,an,aa⟩;(have ah:=an.B;(try simp only[Aa,Ab,Av]at ah);have au:=an.C))|(refine Xi (lK ht (by assumption)) ?_;rintro _ _ ⟨n,ids,c,rfl,ao,ab,ad⟩;(have af:=ao.B;(try simp only[Aa,Ab,Av]at af);have ap:=ao.C)))|refine Z3 ?_|exact Zt|apply yb.o;clear yb yd
 ·obtain⟨e,he⟩:=Rd.ok_false h;rw[he]at aj⊢;simp only[Rd.rest]at aj;exact⟨_,rfl,0,0,1,[],N',id',rfl,Zu,by show RS Bd t o N' id' e _;exact Zr,ae,trivial⟩
 ·obtain⟨p,r,he⟩:=Rd.ok_true (show (Ff s).ok=true by assumption);rw[he]at aj aa h⊢;rw[show (Rd.got p r).rest=r from rfl]at h aa;obtain⟨e,hb⟩:=Rd.ok_false h;rw[hb]at aa;simp only[Rd.rest]at aa;simp only[Rd.bnd,hb];exact⟨_,rfl,0,0,1,[],N',id',rfl,Zu,by show RS Bd t o N' id' e _;exact Zr,ae,trivial⟩
 ·obtain⟨p,r,he⟩:=Rd.ok_true (show (Ff s).ok=true by assumption);have ac:(A4 40 (Ff s).rest).ok=true:=by assumption
  rw[he]at ac ab h⊢;rw[show (Rd.got p r).rest=r from rfl]at ac h ab;obtain⟨u,r2,hb⟩:=Rd.ok_true ac;rw[hb]at h ab;rw[show (Rd.got u r2).rest=r2 from rfl]at h ab;obtain⟨e,hc⟩:=Rd.ok_false h;rw[hc]at ab;simp only[Rd.rest]at ab;simp only[Rd.bnd,hb,hc];exact⟨_,rfl,0,0,1,[],N',id',rfl,Zu,by show RS Bd t o N' id' e _;exact Zr,ae,trivial⟩
 ·obtain⟨p,r,he⟩:=Rd.ok_true (show (Ff s).ok=true by assumption);have ac:(A4 40 (Ff s).rest).ok=true:=by assumption
  rw[he]at ac ab h aa ad ak⊢;rw[show (Rd.got p r).rest=r from rfl]at ac h ab aa ad;obtain⟨u,r2,hb⟩:=Rd.ok_true ac;rw[hb]at h ab aa ad;rw[show (Rd.got u r2).rest=r2 from rfl]at h ab aa ad;obtain⟨ts,r3,hc⟩:=Rd.ok_true h;rw[hc]at ab aa ad;rw[show (Rd.got ts r3).rest=r3 from rfl]at ab aa;obtain⟨v1,v2⟩:p∈N'/\k=(N'.idxOf p:Nat):=ak;obtain⟨v3,v4⟩:n=Z ts/\c=A2 ts:=ad;simp only[Rd.bnd,hb,hc];cases hd:A4 41 r3 with
  |bad e=>
   rw[hd]at aa;simp only[Rd.rest]at aa;exact⟨_,rfl,k,n,ids,c,N',id',by simp only[Rd.rest,hb,hc,hd,Rd.ok,Rd.bnd],Zu,by show RS Bd t o N' id' e _;exact Zr,ae,trivial⟩
  |got u2 r4=>
   rw[hd]at aa;simp only[Rd.rest]at aa;exact⟨_,rfl,k,n,ids,c,N',id',by simp only[Rd.rest,hb,hc,hd,Rd.ok,Rd.bnd],Zu,by show RS Bd t o N' id' r4 _;exact Zr,ae,⟨v1,v2,v3,v4⟩⟩
theorem vW (s):Kx s=Du (A4 33 s).ok (A4 33 s).rest:=by
 cases s with
 |nil=>rfl
 |cons b r=>
  unfold Kx A4;dsimp only;split<;>rfl
theorem O9 {t o N id s y}(ht:Z t<=1000)(hR:RS Bd t o N id s y):
  AF Tryz.prog 242 [ptr o 0] y fun x y'=>∃b k n ids c N' id',x=tp [ag [sc (.bool b),ic k,sl ids n c],sc (.bool (Kx s).ok)]/\Rs o y id y' id'/\RS Bd t o N' id' (Kx s).rest y'/\N<+:N'/\Rd.Val (Kx s) fun a=>b=a.nt/\PA N' a k n c:=by
 have hn:=hR.lt;rw[vW];refine Z9 18 [.cell 2 198,.tmp 3] Tryz.func242 ?_
 (repeat (refine qb ?_;intro yd yb;(first|(refine Xi (Kf ht (Zr)) ?_;rintro _ _ ⟨rfl,ae,ak⟩;(have aa:=ae.B;(try simp only[Aa,Ab,Av]at aa);have af:=ae.C))|(refine Xi (Wy (A4 33 s).ok ht (by assumption)) ?_;rintro _ _ ⟨k,n,ids,c,N',id',rfl,ad,am,aj,ac⟩;(have ab:=ad.keep.B;(try simp only[Aa,Ab,Av]at ab);have ah:=ad.keep.C)))));refine pz ?_
 refine⟨_,rfl,(A4 33 s).ok,k,n,ids,c,N',id',rfl,Zu,Zr,aj,?_⟩;cases hp:Du (A4 33 s).ok (A4 33 s).rest with
 |bad e=>trivial
 |got a r=>
  rw[hp]at ac;exact⟨(Hu hp).2.2.symm,ac⟩
def PL (N:List Tx)(a:AC)(c:List AV):Prop:=a.B∈N/\∃ids,c=[sc (.bool a.nt),ic (N.idxOf a.B:Nat),sl ids (Z a.A) (A2 a.A)]
theorem Es {N}(a c)(h:PL N a c):Z c=3:=by obtain⟨-,ids,rfl⟩:=h;rfl
theorem PL.mono {N N'}(hN:N<+:N')(a c)(h:PL N a c):PL N' a c:=by
 obtain⟨hm,ids,rfl⟩:=h;exact⟨hN.subset hm,ids,by rw[gJ hN hm]⟩
theorem PL.of {N a b k n ids c}(hb:b=a.nt)(h:PA N a k n c):PL N a [sc (.bool b),ic k,sl ids n c]:=by
 obtain⟨h1,rfl,rfl,rfl⟩:=h;subst hb;exact⟨h1,ids,rfl⟩
def PI (N:List Tx)(x:AB)(c:List AV):Prop:=x.h.B∈N/\∃ih id b,EL (PL N) x.A b/\c=[sc (.bool x.o),ic (N.idxOf x.h.B:Nat),sl ih (Z x.h.A) (A2 x.h.A),sl id (Z x.A) b]
theorem E7 {N}(x c)(h:PI N x c):Z c=4:=by obtain⟨-,ih,id,b,-,rfl⟩:=h;rfl
theorem PI.mono {N N'}(hN:N<+:N')(x c)(h:PI N x c):PI N' x c:=by
 obtain⟨hm,ih,id,b,hb,rfl⟩:=h;exact⟨hN.subset hm,ih,id,b,hb.mono (PL.mono hN),by rw[gJ hN hm]⟩
variable {Bd:Nat}
def Jn (s:Tx):Rd Unit:=(A4 58 s).bnd fun _ r=>A4 45 r
theorem kU {t o N id s y}(ht:Z t<=1000)(hR:RS Bd t o N id s y):
  AF Tryz.prog 204 [ptr o 0] y fun x y'=>x=sc (.bool (Jn s).ok)/\AP o y y'/\RS Bd t o N id (Jn s).rest y':=by
 unfold Jn;refine Z9 8 [.tmp 2] Tryz.func204 ?_
 repeat' first|refine Z1 ?_|refine Z8 fun yd yb=>?_|refine Z4 ?_;clear yb yd|refine Z2 ?_ ?_<;>intro h ac<;>try exact Xp|refine Z5 ?_;refine Xi (Kf ht (by assumption)) ?_;rintro _ _ ⟨rfl,ab,aa⟩|refine Z3 ?_|exact Zt|apply yb.o;clear yb yd
 ·obtain⟨e,he⟩:=Rd.ok_false h;rw[he]at aa⊢
  first|exact⟨_,rfl,rfl,ab,aa⟩|exact⟨_,rfl,rfl,aa⟩|exact⟨_,rfl,ab,aa⟩
 ·obtain⟨u,r,he⟩:=Rd.ok_true h;rw[he]at aa⊢
  first|exact⟨_,rfl,rfl,Zs,aa⟩|exact⟨_,rfl,rfl,aa⟩|exact⟨_,rfl,Zs,aa⟩
theorem tJ {σ0 y2 id1 id2 ids n}(h:id1=1\/id1≠ids)(hO:Own σ0 y2 ids n)(hn:0<n)(hs:id2=id1\/y2.D+2<=id2):id2=1\/id2≠ids:=by
 rcases hO with⟨-,rfl⟩|⟨k,h1,h2,h3,h4,h5⟩<;>omega
theorem Za {σ0 y2 id1 ids n}(h:id1=1\/id1≠ids)(hO:Own σ0 y2 ids n):ids=1\/ids≠id1:=by
 rcases hO with⟨h1,rfl⟩|⟨k,h1,h2,h3,h4,h5⟩<;>omega
theorem DO.fresh {y id n}(h:DO y id n):id=1\/id≠y.D+2:=by
 rcases h with⟨rfl,-⟩|⟨k,h1,h2,-⟩<;>omega
theorem eL {X id3 ids idn n}(h:DO X id3 n)(aa:id3=1\/id3≠ids)(hid:idn=ids\/X.D+2<=idn):id3=1\/id3≠idn:=by
 rcases h with⟨rfl,-⟩|⟨k,h1,h2,-⟩<;>omega
abbrev Ex (s:Tx):Rd (List AC):=Uk Kx 4 s
theorem qT {t o N id s y}(ht:Z t<=1000)(hR:RS Bd t o N id s y):
  AF Tryz.prog 205 [ptr o 0] y fun x y'=>∃n ids c N' id',x=tp [sl ids n c,sc (.bool (Ex s).ok)]/\Rs o y id y' id'/\RS Bd t o N' id' (Ex s).rest y'/\N<+:N'/\Rd.Val (Ex s) fun ls=>n=Z ls/\EL (PL N') ls c:=by
 have hn:=hR.lt;refine Z9 37 [.tmp 2,.tmp 3] Tryz.func205 ?_
 refine qb ?_;intro yd yb;refine Xi (O9 ht hR) ?_;rintro _ _ ⟨b,k,n,ia,c,N1,id1,rfl,ao,ab,av,a4⟩;(have ac:=ao.keep.B);refine qe ?_ ?_<;>intro h ad
 ·rename_i y1;obtain⟨e,he⟩:=Rd.ok_false h;have hp:=DC.none (n:=4) he;rw[he]at ab;simp only[Rd.rest]at ab;refine⟨_,rfl,0,1,[],N1,id1,by rw[Ex,hp];rfl,Zu,?_,av,by rw[Ex,hp];trivial⟩;rw[Ex,hp];show RS Bd t o N1 id1 e _;exact Zr
 ·rename_i y1;obtain⟨w,q,he⟩:=Rd.ok_true h;have hp:=DC.first (n:=4) he;rw[he]at ab a4;obtain⟨hb,hA⟩:b=w.nt/\PA N1 w k n c:=a4;have ab:RS Bd t o N1 id1 q y1:=ab;have hC:PL N1 w [sc (.bool b),ic k,sl ia n c]:=PL.of hb hA;have ak:Z [sc (.bool b),ic k,sl ia n c]=3:=rfl;generalize az:[sc (.bool b),ic k,sl ia n c]=cw at hC ak
  refine Ae (fun m s' y'=>∃(ls:List AC) (q:Tx) (ids:Nat) (d:List AV) (N2:List Tx) (id2:Nat),m=5-Z ls/\s' 0=ptr o 0/\s' 6=sl ids (Z ls) d/\Rs o y id y' id2/\RS Bd t o N2 id2 q y'/\Own y y' ids (Z ls)/\AD (id2=1\/id2≠ids)/\N<+:N2/\0<Z ls/\Z ls<=5/\Z d=Z ls*3/\AD (EL (PL N2) ls d)/\AD (DC Kx 4 s ls q)) 4
   ⟨[w],q,_,cw,N1,id1,rfl,rfl,by rw[<-az];rfl,Zu,Zr,Own.made' (b:=(y1.new _).put _ _) ao.keep.D (by decide),ab.own.fresh,av,by simp,by simp,by simpa using ak,EL.single hC,hp⟩ ?_
  clear ao ab ac hp he h hC az ak hA hb av;rintro m s' y' ⟨ls,q,ids,d,N2,id2,rfl,h0,h6,hS,hR2,hO,a3,af,a8,bh,a9,hE,hI⟩;have bf:=hS.keep.B;by_cases bg:Z ls<5
  ·repeat' first|refine Z1 ?_|refine Z8 fun yd yb=>?_|refine Z4 ?_;clear yb yd|refine Z2 ?_ ?_<;>intro h ad<;>try exact Xp|(refine Z5 ?_;first|(refine Xi (Kf ht (by assumption)) ?_;rintro _ _ ⟨rfl,ax,ap⟩;(have ac:=ax.B))|(refine Xi (O9 ht (by assumption)) ?_;rintro _ _ ⟨b,k,n,ia,c,N3,id3,rfl,an,aa,au,aj⟩;(have a7:=an.keep.B)))|refine Z3 ?_|exact Zt|apply yb.o;clear yb yd
   ·rename_i y2 am _ y3;obtain⟨u,r,hb⟩:=Rd.ok_true am;rw[hb]at h aa;obtain⟨e,he⟩:=Rd.ok_false h;rw[show (Rd.got u r).rest=r from rfl]at he aa;have hp:=hI.o.fail AA hb he;rw[he]at aa;simp only[Rd.rest]at aa;refine⟨_,rfl,0,1,[],N3,id3,by rw[Ex,hp];rfl,Zu,?_,af.trans au,by rw[Ex,hp];trivial⟩;rw[Ex,hp];show RS Bd t o N3 id3 e _;exact Zr
   ·rename_i y2 am _ y3;obtain⟨u,r,hb⟩:=Rd.ok_true am;rw[hb]at h aa aj;obtain⟨x,r2,he⟩:=Rd.ok_true h;rw[show (Rd.got u r).rest=r from rfl]at he aa aj;have hp:=hI.o.next AA hb he;rw[he]at aa aj;obtain⟨a0,hA⟩:b=x.nt/\PA N3 x k n c:=aj;have aa:RS Bd t o N3 id3 r2 y3:=aa;have hC:PL N3 x [sc (.bool b),ic k,sl ia n c]:=PL.of a0 hA;have a5:Rs o y id ((y3.new [sc (.bool false),ic 0,nilS]).put y3.B [sc (.bool b),ic k,sl ia n c]) id3:=Zu;have aw:=Own.keepX hO ax;have bc:=Own.keepR aw an.keep (Za a3.o aw);have ba:Own y ((y3.new [sc (.bool false),ic 0,nilS]).put y3.B [sc (.bool b),ic k,sl ia n c]) ids (Z ls):=Own.put (Own.new bc _) _ _;have a6:RS Bd t o N3 id3 r2 ((y3.new [sc (.bool false),ic 0,nilS]).put y3.B [sc (.bool b),ic k,sl ia n c]):=Zr;have ae:id3=1\/id3≠ids:=tJ a3.o aw a8 an.nid;refine Ti (o:=o) (idn:=id) (σ0:=y) (by first|exact Fe) a5.keep ba (by decide) (by rfl) a9 (by rfl) (by rfl) (by decide) AA AA ?_;intro idn yn bb bd ay ai be ah etop hid;refine Z3 ?_
    refine zz ?_
    refine⟨5-Z (ls++[x]),by simp;omega,ls++[x],r2,idn,d++[sc (.bool b),ic k,sl ia n c],N3,id3,rfl,by simp[a0],⟨bd,a5.nid⟩,a6.app ay ai ah etop ae,by simpa using bb,eL a6.own ae hid,af.trans au,by simp,by simp;omega,by simp;omega,EL.append (hE.o.mono (PL.mono au)) (EL.single hC),hp⟩
   ·have hp:=hI.o.stop h;rename_i y2;rw[K1 h]at ap;simp only[Rd.rest]at ap;refine⟨_,rfl,_,ids,_,N2,id2,by rw[Ex,hp];rfl,Zu,?_,af,by rw[Ex,hp];exact⟨rfl,hE.o⟩⟩;rw[Ex,hp];show RS Bd t o N2 id2 q _;exact Zr
  ·refine pz ?_
   have hp:=hI.o.full AA
   first
   |exact⟨_,rfl,_,ids,d,N2,id2,by rw[Ex,hp];rfl,hS,by rw[Ex,hp];exact hR2,af,by rw[Ex,hp];exact⟨rfl,hE.o⟩⟩
   |exact⟨_,rfl,_,ids,d,N2,id2,by rw[Ex,hp];rfl,by rw[Ex,hp];exact hR2,af,by rw[Ex,hp];exact⟨rfl,hE.o⟩⟩
variable {Bd:Nat}
def eQ (Bd:Nat)(t:Tx)(o:Nat)(N:List Tx)(id:Nat)(y:St)(p:Rd AB)(x:AV)(y':St):Prop:=
 ∃b k ih n c ib m d N' id',x=tp [ag [sc (.bool b),ic k,sl ih n c,sl ib m d],sc (.bool p.ok)]/\Rs o y id y' id'/\RS Bd t o N' id' p.rest y'/\N<+:N'/\Rd.Val p fun it=>PI N' it [sc (.bool b),ic k,sl ih n c,sl ib m d]
theorem fM {t o N id s y}(ht:Z t<=1000)(hR:RS Bd t o N id s y):
  AF Tryz.prog 173 [ptr o 0] y (eQ Bd t o N id y (fT s)):=by
 have hn:=hR.lt;unfold fT eQ;refine Z9 20 [.cell 2 125,.tmp 3] Tryz.func173 ?_
 repeat' first|refine Z1 ?_|refine Z8 fun yd yb=>?_|refine Z4 ?_;clear yb yd|refine Z2 ?_ ?_<;>intro h am<;>try exact Xp|(refine Z5 ?_;first|(refine Xi (L9 ht (Zr)) ?_;rintro _ _ ⟨k,N',id',rfl,af,ah,ad,ae⟩;(have ac:=af.keep.B;(try simp only[Aa,Ab,Av]at ac);have ak:=af.keep.C))|(refine Xi (Kf ht (by assumption)) ?_;rintro _ _ ⟨rfl,ai,aa⟩;(have ab:=ai.B;(try simp only[Aa,Ab,Av]at ab);have aj:=ai.C)))|refine Z3 ?_|exact Zt|apply yb.o;clear yb yd
 ·obtain⟨e,he⟩:=Rd.ok_false h;rw[he]at ah⊢;simp only[Rd.rest]at ah;exact⟨_,rfl,false,0,1,0,[],1,0,[],N',id',rfl,Zu,by show RS Bd t o N' id' e _;exact Zr,ad,trivial⟩
 ·obtain⟨p,r,he⟩:=Rd.ok_true h;rw[he]at aa ae⊢;rw[show (Rd.got p r).rest=r from rfl]at aa⊢;obtain⟨v1,v2⟩:p∈N'/\k=(N'.idxOf p:Nat):=ae;simp only[Rd.bnd];cases hd:A4 46 r with
  |bad e=>
   rw[hd]at aa;simp only[Rd.rest]at aa;exact⟨_,rfl,true,k,1,0,[],1,0,[],N',id',rfl,Zu,by show RS Bd t o N' id' e _;exact Zr,ad,trivial⟩
  |got u2 r4=>
   rw[hd]at aa;simp only[Rd.rest]at aa;exact⟨_,rfl,true,k,1,0,[],1,0,[],N',id',rfl,Zu,by show RS Bd t o N' id' r4 _;exact Zr,ad,⟨v1,1,1,[],rfl,by rw[v2];rfl⟩⟩
theorem mG (h r):Pf h r=if (A4 46 r).ok=true then .got {o:=false,h:=h,A:=[]} (A4 46 r).rest
  else (Jn r).bnd fun _ r=>(Ex r).bnd fun ls r=>(A4 46 r).bnd fun _ r=>.got {o:=false,h:=h,A:=ls} r:=by
 cases r with
 |nil=>rfl
 |cons b r=>
  have hx:Pf h (b::r)=if ((b.toNat:Int)==46)=true then .got {o:=false,h:=h,A:=[]} r else
   (A4 58 (b::r)).bnd fun _ r=>(A4 45 r).bnd fun _ r=>T0 h r:=rfl
  rw[hx];by_cases hb:((b.toNat:Int)==46)=true
  ·have hp:A4 46 (b::r)= .got () r:=by unfold A4;dsimp only;rw[if_pos hb]
   rw[if_pos hb,hp];rfl
  ·have hp:A4 46 (b::r)= .bad (b::r):=by unfold A4;dsimp only;rw[if_neg hb]
   rw[if_neg hb,hp,if_neg (by simp[Rd.ok])];unfold Jn T0 Ex Uk;rw[G6];congr 1;funext u r1;congr 1;funext u r2;rw[G6];congr 1;funext l r3;rw[G6];rfl
theorem qR {t o N id s y}(ht:Z t<=1000)(hR:RS Bd t o N id s y):
  AF Tryz.prog 174 [ptr o 0] y (eQ Bd t o N id y (Pg s)):=by
 have hn:=hR.lt;unfold Pg eQ;simp only[mG];refine Z9 38 [.cell 2 125,.tmp 3] Tryz.func174 ?_
 repeat' first|refine Z1 ?_|refine Z8 fun yd yb=>?_|refine Z4 ?_;clear yb yd|refine Z2 ?_ ?_<;>intro h a4<;>try exact Xp|(refine Z5 ?_;first|(refine Xi (Wy false ht (Zr)) ?_;rintro _ _ ⟨k,n,ids,c,N',id',rfl,au,av,ah,aj⟩;(have ao:=au.keep.B;(try simp only[Aa,Ab,Av]at ao);have a3:=au.keep.C))|(refine Xi (Kf ht (Zr)) ?_;rintro _ _ ⟨rfl,aw,ab⟩;(have an:=aw.B;(try simp only[Aa,Ab,Av]at an);have a0:=aw.C))|(refine Xi (kU ht (by assumption)) ?_;rintro _ _ ⟨rfl,ax,af⟩;(have am:=ax.B;(try simp only[Aa,Ab,Av]at am);have az:=ax.C))|(refine Xi (qT ht (by assumption)) ?_;rintro _ _ ⟨m,ib,d,N2,id2,rfl,ap,ac,ai,ae⟩;(have ak:=ap.keep.B;(try simp only[Aa,Ab,Av]at ak);have ay:=ap.keep.C)))|refine Z3 ?_|exact Zt|apply yb.o;clear yb yd
 ·obtain⟨e,he⟩:=Rd.ok_false h;rw[he]at av⊢;simp only[Rd.rest]at av;exact⟨_,rfl,false,0,1,0,[],1,0,[],N',id',rfl,Zu,by show RS Bd t o N' id' e _;exact Zr,ah,trivial⟩
 ·obtain⟨a,r,he⟩:=Rd.ok_true (show (Du false s).ok=true by assumption);rw[he]at h ab aj⊢;have h:(A4 46 r).ok=true:=h;have ab:RS Bd t o N' id' (A4 46 r).rest _:=ab;obtain⟨v1,v2,v3,v4⟩:PA N' a k n c:=aj;simp only[Rd.bnd,h,if_true];exact⟨_,rfl,false,k,ids,n,c,1,0,[],N',id',rfl,Zu,by show RS Bd t o N' id' (A4 46 r).rest _;exact Zr,ah,⟨v1,ids,1,[],rfl,by rw[v2,v3,v4];rfl⟩⟩
 ·obtain⟨a,r,he⟩:=Rd.ok_true (show (Du false s).ok=true by assumption);have aa:(A4 46 (Du false s).rest).ok=false:=by assumption
  rw[he]at h aa af⊢;have aa:(A4 46 r).ok=false:=aa;rw[show (Rd.got a r).rest=r from rfl,K1 aa]at h af;obtain⟨e,hA⟩:=Rd.ok_false (show (Jn r).ok=false from h);have af:RS Bd t o N' id' (Jn r).rest _:=af;rw[hA]at af;simp only[Rd.rest]at af;simp only[Rd.bnd,aa,hA,ER,if_false];exact⟨_,rfl,false,0,1,0,[],1,0,[],N',id',rfl,Zu,by show RS Bd t o N' id' e _;exact Zr,ah,trivial⟩
 ·obtain⟨a,r,he⟩:=Rd.ok_true (show (Du false s).ok=true by assumption);have aa:(A4 46 (Du false s).rest).ok=false:=by assumption
  have ad:(Jn (A4 46 (Du false s).rest).rest).ok=true:=by assumption
  rw[he]at h aa ad ac⊢;have aa:(A4 46 r).ok=false:=aa;rw[show (Rd.got a r).rest=r from rfl,K1 aa]at h ad ac;obtain⟨u,r2,hA⟩:=Rd.ok_true (show (Jn r).ok=true from ad);rw[show (Rd.bad r:Rd Unit).rest=r from rfl,hA]at h ac;obtain⟨e,hL⟩:=Rd.ok_false (show (Ex r2).ok=false from h);have ac:RS Bd t o N2 id2 (Ex r2).rest _:=ac;rw[hL]at ac;simp only[Rd.rest]at ac;simp only[Rd.bnd,aa,hA,hL,ER,if_false];exact⟨_,rfl,false,0,1,0,[],1,0,[],N2,id2,rfl,Zu,by show RS Bd t o N2 id2 e _;exact Zr,ah.trans ai,trivial⟩
 ·obtain⟨a,r,he⟩:=Rd.ok_true (show (Du false s).ok=true by assumption);have aa:(A4 46 (Du false s).rest).ok=false:=by assumption
  have ad:(Jn (A4 46 (Du false s).rest).rest).ok=true:=by assumption
  rw[he]at h aa ad ac aj ae ab⊢;have aa:(A4 46 r).ok=false:=aa;rw[show (Rd.got a r).rest=r from rfl,K1 aa]at h ad ac ae ab;obtain⟨u,r2,hA⟩:=Rd.ok_true (show (Jn r).ok=true from ad);rw[show (Rd.bad r:Rd Unit).rest=r from rfl,hA]at h ac ae ab;obtain⟨ls,r3,hL⟩:=Rd.ok_true (show (Ex r2).ok=true from h);have ac:RS Bd t o N2 id2 (Ex r2).rest _:=ac;have ab:RS Bd t o N2 id2 (A4 46 (Ex r2).rest).rest _:=ab;rw[show (Rd.got u r2).rest=r2 from rfl]at ae;rw[hL]at ac ab ae;obtain⟨v1,v2,v3,v4⟩:PA N' a k n c:=aj;obtain⟨w1,w2⟩:m=Z ls/\EL (PL N2) ls d:=ae;have ab:RS Bd t o N2 id2 (A4 46 r3).rest _:=ab;simp only[Rd.bnd,Rd.rest,K1 aa,aa,hA,hL,ER,if_false];cases hd:A4 46 r3 with
  |bad e=>
   rw[hd]at ab;simp only[Rd.rest]at ab;exact⟨_,rfl,false,k,ids,n,c,ib,m,d,N2,id2,rfl,Zu,by show RS Bd t o N2 id2 e _;exact Zr,ah.trans ai,trivial⟩
  |got u2 r4=>
   rw[hd]at ab;simp only[Rd.rest]at ab;exact⟨_,rfl,false,k,ids,n,c,ib,m,d,N2,id2,rfl,Zu,by show RS Bd t o N2 id2 r4 _;exact Zr,ah.trans ai,⟨ai.subset v1,ids,ib,d,w2,by rw[v2,v3,v4,w1,gJ ai v1]⟩⟩
theorem mK (s):Gb s=if (A4 63 s).ok=true then fT (A4 63 s).rest else Pg (A4 63 s).rest:=by
 cases s with
 |nil=>rfl
 |cons b r=>
  unfold Gb A4;dsimp only;split<;>simp[Rd.ok,Rd.rest]
theorem qS {t o N id s y}(ht:Z t<=1000)(hR:RS Bd t o N id s y):
  AF Tryz.prog 120 [ptr o 0] y (eQ Bd t o N id y (Gb s)):=by
 have hn:=hR.lt;rw[mK];unfold eQ;refine Z9 14 [.cell 2 125,.tmp 3] Tryz.func120 ?_
 repeat' first|refine Z1 ?_|refine Z8 fun yd yb=>?_|refine Z4 ?_;clear yb yd|refine Z2 ?_ ?_<;>intro h aj<;>try exact Xp|(refine Z5 ?_;first|(refine Xi (Kf ht (Zr)) ?_;rintro _ _ ⟨rfl,ah,am⟩;(have ad:=ah.B;(try simp only[Aa,Ab,Av]at ad);have ai:=ah.C))|(refine Xi (fM ht (by assumption)) ?_;rintro _ _ ⟨b,k,ih,n,c,ib,m,d,N',id',rfl,ab,ak,af,ae⟩;(have aa:=ab.keep.B;(try simp only[Aa,Ab,Av]at aa);have ac:=ab.keep.C))|(refine Xi (qR ht (by assumption)) ?_;rintro _ _ ⟨b,k,ih,n,c,ib,m,d,N',id',rfl,ab,ak,af,ae⟩;(have aa:=ab.keep.B;(try simp only[Aa,Ab,Av]at aa);have ac:=ab.keep.C)))|refine Z3 ?_|exact Zt|apply yb.o;clear yb yd
 all_goals exact⟨_,rfl,b,k,ih,n,c,ib,m,d,N',id',rfl,Zu,Zr,af,ae⟩
variable {Bd:Nat}
def IF (s:Tx)(xs:List AB)(q:Tx):Prop:=Z xs<=16/\Bv 16 s=(Bv (16-Z xs) q).bnd fun ys r=>.got (xs++ys) r
theorem IF.start (s):IF s [] s:=by
 refine⟨by simp,?_⟩;simp only[CP,QE,FM];cases Bv 16 s<;>rfl
theorem Xz (n):Bv n []= .got [] []:=by cases n<;>rfl
theorem Tz (b r):Bv 0 (b::r)= .bad (b::r):=rfl
theorem Nj (n b r):Bv (n+1) (b::r)=(Gb (b::r)).bnd fun x r=>(Bv n r).bnd fun xs r=>.got (x::xs) r:=rfl
theorem IF.done {s xs}(h:IF s xs []):Bv 16 s= .got xs []:=by
 rw[h.2,Xz];simp[Rd.bnd]
theorem IF.full {s xs b r}(h:IF s xs (b::r))(hl:Z xs=16):Bv 16 s= .bad (b::r):=by
 rw[h.2,hl,Tz];rfl
theorem IF.fail {s xs b r e}(h:IF s xs (b::r))(hl:Z xs<16)(he:Gb (b::r)= .bad e):Bv 16 s= .bad e:=by
 obtain⟨k,hk⟩:∃k,16-Z xs=k+1:=⟨15-Z xs,AA⟩;rw[h.2,hk,Nj,he];rfl
theorem IF.next {s xs b r r2 x}(h:IF s xs (b::r))(hl:Z xs<16)(he:Gb (b::r)= .got x r2):IF s (xs++[x]) r2:=by
 obtain⟨k,hk⟩:∃k,16-Z xs=k+1:=⟨15-Z xs,AA⟩;refine⟨by simp;omega,?_⟩;rw[h.2,hk,Nj,he,show 16-Z (xs++[x])=k by simp;omega];simp only[Rd.bnd];cases Bv k r2<;>simp
theorem oT {σ0 y2 id1 id2 ids n}(h:id1=1\/id1≠ids)(hO:Own σ0 y2 ids n)(hs:id2=id1\/y2.D+2<=id2):id2=1\/id2≠ids:=by
 rcases hO with⟨h1,-⟩|⟨k,h1,h2,h3,h4,h5⟩<;>omega
theorem lL {t o N id s y}(ht:Z t<=1000)(hR:RS Bd t o N id s y):
  AF Tryz.prog 70 [ptr o 0] y fun x y'=>∃n ids c N' id',x=tp [sl ids n c,sc (.bool (Bv 16 s).ok)]/\Rs o y id y' id'/\RS Bd t o N' id' (Bv 16 s).rest y'/\N<+:N'/\Rd.Val (Bv 16 s) fun xs=>n=Z xs/\EL (PI N') xs c:=by
 have hn:=hR.lt;have az:DO y id (Z N):=hR.own;refine Z9 33 [.tmp 2,.tmp 3] Tryz.func70 ?_
 refine zz ?_
 refine Ae (fun m s' y'=>∃(xs:List AB) (q:Tx) (ids:Nat) (d:List AV) (N2:List Tx) (id2:Nat),m=16-Z xs/\s' 0=ptr o 0/\s' 4=sl ids (Z xs) d/\Rs o y id y' id2/\RS Bd t o N2 id2 q y'/\Own y y' ids (Z xs)/\AD (id2=1\/id2≠ids)/\N<+:N2/\Z xs<=16/\Z d=Z xs*4/\AD (EL (PI N2) xs d)/\AD (IF s xs q)) 16
  ⟨[],s,1,[],N,id,rfl,rfl,rfl,Rs.refl _ _ _,hR,Own.nil _ _,by rcases az with⟨e,-⟩|⟨k,e,-⟩;exact .inl e;exact .inr AA,List.prefix_refl _,by simp,by simp,rfl,IF.start s⟩ ?_
 rintro m s' y' ⟨xs,q,ids,d,N2,id2,rfl,h0,h4,hS,hR2,hO,ao,aa,ax,ay,hE,hI⟩;have a8:=hS.keep.B;have a9:=hR2.lt;have ah:=hR2.C;have am:=Jl hR2.suf;unfold Pb cU at ah
 refine zz ?_
 refine Ay Ag (fun _=>True) [9] [0,1,2,3,4,5,6,7,8] [9] AH (fun _ _ _ h=>h) ?_;intro yd yb;cases q with
 |nil=>
  simp only[CP,QE]at ah am;refine Z3 ?_
  refine pz ?_
  have hp:=hI.o.done
  first
  |exact⟨_,rfl,_,ids,d,N2,id2,by rw[hp];rfl,hS,by rw[hp];exact hR2,aa,by rw[hp];exact⟨rfl,hE.o⟩⟩
  |exact⟨_,rfl,_,ids,d,N2,id2,by rw[hp];rfl,by rw[hp];exact hR2,aa,by rw[hp];exact⟨rfl,hE.o⟩⟩
 |cons b0 r0=>
  simp only[BQ]at ah am;refine Z3 ?_;by_cases an:Z xs<16
  ·repeat' first|refine Z1 ?_|refine Z8 fun yd yb=>?_|refine Z4 ?_;clear yb yd|refine Z2 ?_ ?_<;>intro h ab<;>try exact Xp|refine Z5 ?_;refine Xi (qS ht (by assumption)) ?_;rintro _ _ ⟨b,k,ih,n,c,ib,m,e,N3,id3,rfl,ai,ad,aj,ap⟩;(have aw:=ai.keep.B)|refine Z3 ?_|exact Zt|apply yb.o;clear yb yd
   ·exfalso;simp at h;omega
   ·rename_i y3;obtain⟨e2,he⟩:=Rd.ok_false h;have hp:=hI.o.fail an he;rw[he]at ad;simp only[Rd.rest]at ad;refine⟨_,rfl,0,1,[],N3,id3,by rw[hp];rfl,Zu,?_,aa.trans aj,by rw[hp];trivial⟩;rw[hp];show RS Bd t o N3 id3 e2 _;exact Zr
   ·rename_i y3;obtain⟨x,r2,he⟩:=Rd.ok_true h;have hp:=hI.o.next an he;rw[he]at ad ap;have hC:PI N3 x [sc (.bool b),ic k,sl ih n c,sl ib m e]:=ap;have ad:RS Bd t o N3 id3 r2 y3:=ad;have au:Rs o y id ((y3.new [sc (.bool false),ic 0,nilS,nilS]).put y3.B [sc (.bool b),ic k,sl ih n c,sl ib m e]) id3:=Zu;have a4:=Own.keepR hO ai.keep (Za ao.o hO);have a0:Own y ((y3.new [sc (.bool false),ic 0,nilS,nilS]).put y3.B [sc (.bool b),ic k,sl ih n c,sl ib m e]) ids (Z xs):=Own.put (Own.new a4 _) _ _;have av:RS Bd t o N3 id3 r2 ((y3.new [sc (.bool false),ic 0,nilS,nilS]).put y3.B [sc (.bool b),ic k,sl ih n c,sl ib m e]):=Zr;have ac:id3=1\/id3≠ids:=oT ao.o hO ai.nid;refine Ti (o:=o) (idn:=id) (σ0:=y) (by first|exact Mu) au.keep a0 (by decide) (by rfl) ay (by rfl) (by rfl) (by decide) AA AA ?_;intro idn yn a3 a5 ak af a7 ae etop hid;refine Z3 ?_
    refine zz ?_
    refine⟨16-Z (xs++[x]),by simp;omega,xs++[x],r2,idn,d++[sc (.bool b),ic k,sl ih n c,sl ib m e],N3,id3,rfl,by simp,⟨a5,au.nid⟩,av.app ak af ae etop ac,by simpa using a3,eL av.own ac hid,aa.trans aj,by simp;omega,by simp;omega,EL.append (hE.o.mono (PI.mono aj)) (EL.single hC),hp⟩
  ·have a6:Z xs=16:=AA;have hp:=hI.o.full a6;have HP:AD _:=hp;clear hp
   refine pz ?_
   first
   |exact⟨_,rfl,0,1,[],N2,id2,by rw[HP.o];rfl,hS,by rw[HP.o];exact hR2,aa,by rw[HP.o];trivial⟩
   |exact⟨_,rfl,0,1,[],N2,id2,by rw[HP.o];rfl,by rw[HP.o];exact hR2,aa,by rw[HP.o];trivial⟩
def PC (N:List Tx)(a:AC)(c:List AV):Prop:=a.B∈N/\∃ids,c=[ic (N.idxOf a.B:Nat),sl ids (Z a.A) (A2 a.A)]
theorem iI {N}(a c)(h:PC N a c):Z c=2:=by obtain⟨-,ids,rfl⟩:=h;rfl
theorem Pn {N l cs i a}(h:EL (PL N) l cs)(hi:l[i]?=some a):a.B∈N/\∃ia r,cs.drop (i*3)=sc (.bool a.nt)::ic (N.idxOf a.B:Nat)::sl ia (Z a.A) (A2 a.A)::r:=by
 obtain⟨c,r,⟨hm,ia,rfl⟩,e⟩:=EL.get Es h hi;exact⟨hm,ia,r,e⟩
theorem QB {N l cs i a}(h:EL (PC N) l cs)(hi:l[i]?=some a):a.B∈N/\∃ia r,cs.drop (i*2)=ic (N.idxOf a.B:Nat)::sl ia (Z a.A) (A2 a.A)::r:=by
 obtain⟨c,r,⟨hm,ia,rfl⟩,e⟩:=EL.get iI h hi;exact⟨hm,ia,r,e⟩
theorem Io {N l cs i x}(h:EL (PI N) l cs)(hi:l[i]?=some x):x.h.B∈N/\∃ih id b r,EL (PL N) x.A b/\cs.drop (i*4)=sc (.bool x.o)::ic (N.idxOf x.h.B:Nat)::sl ih (Z x.h.A) (A2 x.h.A)::sl id (Z x.A) b::r:=by
 obtain⟨c,r,⟨hm,ih,id,b,hb,rfl⟩,e⟩:=EL.get E7 h hi;exact⟨hm,ih,id,b,r,hb,e⟩
theorem ZK {N l cs}(h:EL (PC N) l cs):∀c∈cs,Plain c:=by
 induction l generalizing cs with
 |nil=>have h:cs=[]:=h;subst h;simp
 |cons a l ih=>
  obtain⟨c1,c2,⟨-,ids,rfl⟩,h2,rfl⟩:=h;intro c hc;rcases AW.1 hc with hc|hc
  ·simp only[BB,EN,DY]at hc;rcases hc with rfl|rfl
   ·exact .inl ⟨_,rfl⟩
   ·refine .inr ⟨_,_,_,rfl,fun x hx=>?_⟩;simp only[A2,DR,Tt,BB,EN,DY]at hx;obtain⟨w,-,rfl|rfl⟩:=hx<;>exact⟨_,rfl⟩
  ·exact ih h2 c hc
theorem vM {xs ys:List AV}{n u v a b}(hn:Z xs=n):((xs++u::v::ys).set n a).set (n+1) b=xs++a::b::ys:=by
 subst hn;rw[List.set_append_right _ _ (AR _),KB,List.set_cons_zero,List.set_append_right _ _ AA,Nat.add_sub_cancel_left,List.set_cons_succ,List.set_cons_zero]
theorem Uy {m}(h:0<m)(u v:AV):(List.replicate m [u,v]).flatten=u::v::(List.replicate (m-1) [u,v]).flatten:=by
 obtain⟨k,rfl⟩:∃k,m=k+1:=⟨m-1,AA⟩;rw[OJ];rfl
theorem yC (N x c)(hc:PI N x c)(ad:x.o=false)(hn:Z x.A<=1000)(y):AF Tryz.prog 133 [ag c] y fun r y'=>∃(o n:Nat) (cs:List AV),r=fx o 0 n/\y.B<=o/\y'.C o=cs/\AE y y'/\(∀c∈cs,Plain c)/\(n=Z (Af x)/\EL (PC N) (Af x) cs):=by
 obtain⟨hm,ih,id,b,hb,rfl⟩:=hc;have ao:=EL.length Es hb;refine Z9 33 [.tmp 2] Tryz.func133 ?_
 refine pz ?_
 have ae:AE y (y.new [sc (.bool false),ic (N.idxOf x.h.B:Nat),sl ih (Z x.h.A) (A2 x.h.A),sl id (Z x.A) b]):=(AE.refl _).new _;have ac:((Z x.A:Int)+1).toNat=Z x.A+1:=AA
 refine Ae (fun m s y'=>∃(k:Nat) (cur:List AV),m=Z x.A-k/\k<=Z x.A/\s 3=fx (y.B+1) 0 (Z x.A+1)/\s 18=sl id (Z x.A) b/\s 19=ic (Z x.A)/\s 20=ic k/\AE y y'/\y.B+1<y'.B/\y'.C (y.B+1)=cur/\Z cur=(Z x.A+1)*2/\AD (∃xs,cur=xs++(List.replicate (Z x.A-k) [ic 0,nilS]).flatten/\Z xs=(1+k)*2/\EL (PC N) (x.h::x.A.take k) xs)) (Z x.A)
  ⟨0,_,AA,AA,by simp[upd,ac],AG,AG,rfl,(ae.new _).put AA _,BM,Ak,by simp[ac],[ic (N.idxOf x.h.B:Nat),sl ih (Z x.h.A) (A2 x.h.A)],?_,by simp,EL.single ⟨hm,ih,rfl⟩⟩ ?_
 ·rw[ac,Uy AA];rfl
 clear ae;rintro m s y' ⟨k,cur,rfl,hk,h3,aw,av,au,hK,an,af,aj,hE⟩;have ak:=hK.B;by_cases ah:k<Z x.A
 ·have aa:=AJ ah;obtain⟨ha,ia,r,hd⟩:=Pn hb aa;generalize x.A[k]=a at hd aa ha;have HG:AD (x.A[k]?=some a):=aa;clear aa;have am:((k:Int)+1).toNat=k+1:=AA
  refine pz ?_
  have HN:AD (∃xs,(cur.set ((k+1)*2) (ic (N.idxOf a.B:Nat))).set ((k+1)*2+1) (sl ia (Z a.A) (A2 a.A))=xs++(List.replicate (Z x.A-(k+1)) [ic 0,nilS]).flatten/\Z xs=(1+(k+1))*2/\EL (PC N) (x.h::x.A.take (k+1)) xs):=by
   obtain⟨xs,e1,e2,e3⟩:=hE.o;refine⟨xs++[ic (N.idxOf a.B:Nat),sl ia (Z a.A) (A2 a.A)],?_,by simp[e2];omega,?_⟩
   ·rw[e1,Uy AA,vM (by rw[e2];omega)];simp[Nat.sub_sub]
   ·rw[AU,HG.o];exact EL.append e3 (EL.single ⟨ha,ia,rfl⟩)
  refine⟨Z x.A-(k+1),AA,k+1,(cur.set ((k+1)*2) (ic (N.idxOf a.B:Nat))).set ((k+1)*2+1) (sl ia (Z a.A) (A2 a.A)),?_⟩
  ((repeat' refine Zi ?_ ?_)<;>first|exact Xq|exact (((hK.new _).put hK.B _).put AA _)|exact Ak|exact HN|exact (by simp[aj])|exact Xs)
 ·have ai:k=Z x.A:=AA;subst ai;obtain⟨xs,e1,e2,e3⟩:=hE.o;rw[KB,List.replicate_zero,List.flatten_nil,FA]at e1;rw[AS]at e3;subst e1;have ap:Af x=x.h::x.A:=by simp[Af,ad]
  refine pz ?_
  exact⟨_,rfl,y.B+1,_,cur,rfl,AA,af,ZK e3,rfl,e3⟩
theorem rB (N x c)(hc:PI N x c)(aa:x.o=true)(y):AF Tryz.prog 133 [ag c] y fun r y'=>r=nilS/\AE y y':=by
 obtain⟨hm,ih,id,b,hb,rfl⟩:=hc;refine Z9 33 [.tmp 2] Tryz.func133 ?_
 refine pz ?_
 first
 |exact⟨_,rfl,rfl,Xs⟩
 |exact⟨rfl,Xs⟩
theorem Ni (N x c)(hc:PI N x c)(ho:x.o=true->x.A=[])(hn:Z x.A<=1000)(y):AF Tryz.prog 133 [ag c] y fun r y'=>∃id cs,r=sl id (Z (Af x)) cs/\EL (PC N) (Af x) cs/\AE y y':=by
 by_cases aa:x.o=true
 ·refine (rB N x c hc aa y).mono fun r y' h=>?_;obtain⟨rfl,h⟩:=h;exact⟨1,[],by simp[Af,aa,ho aa],by simp[Af,aa,ho aa,EL],h⟩
 ·have aa:x.o=false:=by simpa using aa
  refine (AF.freeze (yC N x c hc aa hn y)).mono fun r y' h=>?_;obtain⟨n,cs,rfl,⟨rfl,h1⟩,h2⟩:=h;exact⟨0,cs,rfl,h1,h2⟩
theorem Gu {ts k w}(h:ts[k]?=some w):∃r,(A2 ts).drop (k*2)=sc (.bool (Ap w).1)::ic (Ap w).2::r:=by
 have hE:∀ts:List Tx,EL (fun w c=>c=Tt w) ts (A2 ts):=by
  intro ts;induction ts with
  |nil=>rfl
  |cons a l ih=>exact⟨Tt a,A2 l,rfl,ih,by simp[A2]⟩
 obtain⟨c,r,rfl,e⟩:=EL.get (z:=2) (fun a c h=>by rw[h];rfl) (hE ts) h;exact⟨r,e⟩
theorem Lr {p:Nat->Bool}{i}(h:∀j,j<i->p j=false)(hi:p i=false):∀j,j<i+1->p j=false:=fun j hj=>by
 by_cases e:j=i
 ·rw[e];exact hi
 ·exact h j AA
def Qf (v:Int)(w:Tx):Bool:=(Ap w).1&&(Ap w).2==v
def nM (a:AC)(v:Int)(i:Nat):Bool:=match a.A[i]? with|some w=>Qf v w|none=>false
theorem lW (k ids a v)(hn:Z a.A<=1000)(y):AF Tryz.prog 217 [ag [ic k,sl ids (Z a.A) (A2 a.A)],ic v] y fun r y'=>r=ic (Bf (nM a v) (Z a.A))/\AE y y':=by
 have aj:=Fp a.A;refine Z9 25 [.tmp 4] Tryz.func217 ?_
 refine zz ?_
 refine Ae (fun m s y'=>∃i:Nat,m=Z a.A-i/\i<=Z a.A/\s 1=ic v/\s 8=sl ids (Z a.A) (A2 a.A)/\s 9=ic (Z a.A)/\s 10=ic i/\AE y y'/\AD (∀j,j<i->nM a v j=false)) (Z a.A)
  ⟨0,AA,AA,rfl,rfl,rfl,rfl,Xs,fun j hj=>AA⟩ ?_
 rintro m s y' ⟨i,rfl,hi,h1,h8,h9,ak,hK,ab⟩;by_cases ae:i<Z a.A
 ·have aa:=AJ ae;obtain⟨r,hd⟩:=Gu aa;generalize a.A[i]=w at hd aa;have hv:AD (nM a v i=Qf v w):=by rw[AD,nM,aa]
  clear aa;have ai:=hK.B;generalize ah:(Ap w).1=w1 at hd;generalize af:(Ap w).2=w2 at hd;have ad:AD (Qf v w=(w1&&w2==v)):=by rw[AD,Qf,ah,af]
  clear ah af
  repeat' first|refine Z1 ?_|refine Z8 fun yd yb=>?_|refine Z4 ?_;clear yb yd|refine Z2 ?_ ?_<;>intro h ac<;>try exact Xp|refine Z3 ?_|exact Zt|apply yb.o;clear yb yd
  ·exact⟨_,rfl,by rw[Gx ae (by rw[hv.o,ad.o];simp[*]) ab.o],Xs⟩
  all_goals exact⟨Z a.A-(i+1),AA,i+1,rfl,AA,by simp,Xs,Lr ab.o (by rw[hv.o,ad.o];simp[*])⟩
 ·have hil:i=Z a.A:=AA;subst hil
  refine pz ?_
  first|exact⟨_,rfl,by rw[Ch ab.o],hK⟩|exact⟨_,rfl,by rw[Ch ab.o]⟩
theorem sI {α:Type}(l:List α)(q p)(hp:∀i,p i=match l[i]? with|some w=>q w|none=>false):(decide (Bf p (Z l)≠ -1))=l.any q:=by
 by_cases h:l.any q=true
 ·rw[h];rw[CW]at h;obtain⟨w,hw,hq⟩:=h;obtain⟨i,hi,he⟩:=List.getElem_of_mem hw;by_cases hN:Bf p (Z l)= -1
  ·exfalso;unfold Bf at hN;split at hN
   ·omega
   ·rename_i hf;rw[IX]at hf;have:=hf i (by simpa using hi);rw[hp,AJ hi,he]at this;simp[hq]at this
  ·simpa using hN
 ·have h:l.any q=false:=by simpa using h
  rw[h,Ch (fun i hi=>by
   rw[hp,AJ hi];rw[EB]at h
   simpa using h l[i] (AT hi))]
  simp
theorem yB (k ids)(a:AC)(v)(hn:Z a.A<=1000)(y):AF Tryz.prog 232 [ag [ic k,sl ids (Z a.A) (A2 a.A)],ic v] y fun r y'=>r=sc (.bool (a.A.any (Qf v)))/\AE y y':=by
 have hF:=sI a.A (Qf v) (nM a v) (fun i=>by unfold nM;cases a.A[i]?<;>rfl);refine Z9 9 [.tmp 4] Tryz.func232 ?_
 refine qb ?_;intro yd yb;refine Xi (lW _ _ a v hn _) ?_;rintro _ _ ⟨rfl,aa⟩;refine pz ?_
 refine⟨_,rfl,?_,Xs⟩;rw[<-hF,show (Bf (nM a v) (Z a.A) != -1)=decide (Bf (nM a v) (Z a.A)≠ -1)from by rw[KL];simp]
def Gi (x:AB)(v:Int):Bool:=x.A.any fun a=>!a.nt&&a.A.any (Qf v)
theorem lZ (N x c v)(hc:PI N x c)(hx:x.fits)(y):AF Tryz.prog 192 [ag c,ic v] y fun r y'=>r=sc (.bool (Gi x v))/\AE y y':=by
 obtain⟨hm,ih,id,b,hb,rfl⟩:=hc;have ak:=EL.length Es hb;obtain⟨aj,ai,af⟩:=hx;refine Z9 24 [.tmp 4] Tryz.func192 ?_
 refine zz ?_
 refine Ae (fun m s y'=>∃i:Nat,m=Z x.A-i/\i<=Z x.A/\s 1=ic v/\s 8=sl id (Z x.A) b/\s 9=ic (Z x.A)/\s 10=ic i/\AE y y'/\AD ((x.A.take i).any (fun a=>!a.nt&&a.A.any (Qf v))=false)) (Z x.A)
  ⟨0,AA,AA,rfl,rfl,rfl,rfl,Xs,by simp[AD]⟩ ?_
 rintro m s y' ⟨i,rfl,hi,h1,h8,h9,an,hK,ab⟩;by_cases ae:i<Z x.A
 ·have aa:=AJ ae;have ad:=af x.A[i] (AT ae);obtain⟨ha,ia,r,hd⟩:=Pn hb aa;generalize x.A[i]=a at hd aa ha ad;have HG:AD (x.A[i]?=some a):=aa;clear aa;have ah:=hK.B
  repeat' first|refine Z1 ?_|refine Z8 fun yd yb=>?_|refine Z4 ?_;clear yb yd|refine Z2 ?_ ?_<;>intro h ac<;>try exact Xp|refine Z5 ?_;refine Xi (yB _ _ a v ad _) ?_;rintro _ _ ⟨rfl,am⟩|refine Z3 ?_|exact Zt|apply yb.o;clear yb yd
  ·exact⟨_,rfl,by rw[Gi,Ek _ HG.o (by simp[*])],Xs⟩
  all_goals
   refine⟨Z x.A-(i+1),AA,i+1,rfl,AA,by simp,Xs,?_⟩;rw[AD,any_take_succ _ HG.o,ab.o];simp[*]
 ·have hil:i=Z x.A:=AA;subst hil;rw[AS]at ab
  refine pz ?_
  first|exact⟨_,rfl,by rw[Gi,ab.o],hK⟩|exact⟨_,rfl,by rw[Gi,ab.o]⟩
def Gg (x:AB):Bool:=!(Af x).any fun a=>a.A.any fun w=>(Ap w).1&&!Gi x (Ap w).2
theorem W2 (N x c)(hc:PI N x c)(ho:x.o=true->x.A=[])(hx:x.fits)(y):AF Tryz.prog 146 [ag c] y fun r y'=>r=sc (.bool (Gg x))/\AE y y':=by
 have hA:=Ni N x c hc ho (by have:=hx.1;omega);have hB:=fun v=>lZ N x c v hc hx;obtain⟨hm,ih,id,b,hb,rfl⟩:=hc;have a4:=EL.length Es hb;have a5:=hx.atoms;have az:∀a∈Af x,Z a.A<=1000:=by
  intro a ha;unfold Af at ha;rcases AW.1 ha with h|h
  ·split at h
   ·cases h
   ·simp at h;subst h;exact hx.2.1
  ·exact hx.2.2 a h
 refine Z9 32 [.tmp 2] Tryz.func146 ?_
 refine qb ?_;intro yd yb;refine Xi (hA _) ?_;rintro _ _ ⟨ida,cs,rfl,hE,af⟩;(have ad:=af.C;have ah:=af.B;(try simp only[Aa,Ab,Av]at ah));refine pz ?_
 rename_i y1;have a3:=EL.length iI hE;have ap:y1.C y.B=[sc (.bool x.o),ic (N.idxOf x.h.B:Nat),sl ih (Z x.h.A) (A2 x.h.A),sl id (Z x.A) b]:=by rw[ad _ (by rw[Aa];omega),Ao]
 have af:AE (y.new [sc (.bool x.o),ic (N.idxOf x.h.B:Nat),sl ih (Z x.h.A) (A2 x.h.A),sl id (Z x.A) b]) y1:=af
 refine Ae (fun m s y'=>∃i:Nat,m=Z (Af x)-i/\i<=Z (Af x)/\s 1=ptr y.B 0/\s 8=sl ida (Z (Af x)) cs/\s 9=ic (Z (Af x))/\s 10=ic i/\AE y1 y'/\AD (((Af x).take i).any (fun a=>a.A.any fun w=>(Ap w).1&&!Gi x (Ap w).2)=false)) (Z (Af x))
  ⟨0,AA,AA,rfl,rfl,rfl,rfl,AE.refl _,by simp[AD]⟩ ?_
 rintro m s y' ⟨i,rfl,hi,h1,h8,h9,am,hK,ai⟩;have an:=hK.B;have ae:y'.C y.B=[sc (.bool x.o),ic (N.idxOf x.h.B:Nat),sl ih (Z x.h.A) (A2 x.h.A),sl id (Z x.A) b]:=by rw[hK.C _ AA,ap]
 have a6:AE y y1:=((AE.refl y).new _).trans af;clear ad;by_cases au:i<Z (Af x)
 ·have aa:=AJ au;have ax:=az (Af x)[i] (AT au);obtain⟨ha,ia,r,hd⟩:=QB hE aa;generalize (Af x)[i]=a at hd aa ha ax;have HG:AD ((Af x)[i]?=some a):=aa;clear aa;have a0:=Fp a.A
  refine pz ?_
  refine Ae (fun m s y'=>∃j:Nat,m=Z a.A-j/\j<=Z a.A/\s 1=ptr y.B 0/\s 8=sl ida (Z (Af x)) cs/\s 9=ic (Z (Af x))/\s 10=ic i/\s 15=sl ia (Z a.A) (A2 a.A)/\s 16=ic (Z a.A)/\s 17=ic j/\AE y1 y'/\AD ((a.A.take j).any (fun w=>(Ap w).1&&!Gi x (Ap w).2)=false)) (Z a.A)
   ⟨0,AA,AA,by simp[upd,h1],by simp[upd,h8],by simp[upd,h9],by simp[upd,am],rfl,rfl,rfl,(hK.new _).put hK.B _,by simp[AD]⟩ ?_
  clear ae hK an h1 h8 h9 am;rintro m s y' ⟨j,rfl,hj,h1,h8,h9,am,ba,a9,a8,hK,ab⟩;have an:=hK.B;have ae:y'.C y.B=[sc (.bool x.o),ic (N.idxOf x.h.B:Nat),sl ih (Z x.h.A) (A2 x.h.A),sl id (Z x.A) b]:=by rw[hK.C _ AA,ap]
  by_cases aj:j<Z a.A
  ·have aa:=AJ aj;obtain⟨r2,ak⟩:=Gu aa;generalize a.A[j]=w at ak aa;have HW:AD (a.A[j]?=some w):=aa;clear aa;generalize aw:(Ap w).1=w1 at ak;generalize av:(Ap w).2=w2 at ak;have ao:AD (((Ap w).1&&!Gi x (Ap w).2)=(w1&&!Gi x w2)):=by rw[AD,aw,av]
   clear aw av
   repeat' first|refine Z1 ?_|refine Z8 fun yd yb=>?_|refine Z4 ?_;clear yb yd|refine Z2 ?_ ?_<;>intro h ac<;>try exact Xp|refine Z5 ?_;refine Xi (hB _ _) ?_;rintro _ _ ⟨rfl,a7⟩|refine Z3 ?_|exact Zt|apply yb.o;clear yb yd
   ·exact⟨_,rfl,by rw[Gg,Ek _ HG.o (Ek _ HW.o (by rw[ao.o];simp[*]))];rfl,Xs⟩
   all_goals
    refine⟨Z a.A-(j+1),AA,j+1,rfl,AA,by simp,Xs,?_⟩;rw[AD,any_take_succ _ HW.o,ab.o,ao.o];simp[*]
  ·have ay:j=Z a.A:=AA;subst ay;rw[AS]at ab
   refine pz ?_
   refine⟨Z (Af x)-(i+1),AA,i+1,rfl,AA,by simp,?_⟩;rw[AD,any_take_succ _ HG.o,ai.o,ab.o];rfl
 ·have hil:i=Z (Af x):=AA;subst hil;rw[AS]at ai
  refine pz ?_
  exact⟨_,rfl,by rw[Gg,ai.o];rfl,Xs⟩
end Go.Proofs.YtmoeoppbmhfbpabGreatDoorI
