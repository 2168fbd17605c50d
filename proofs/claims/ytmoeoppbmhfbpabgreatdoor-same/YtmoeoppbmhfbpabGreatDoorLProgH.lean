import Derived.Test.YtmoeoppbmhfbpabGreatDoorLProgA
import Derived.Test.YtmoeoppbmhfbpabGreatDoorLRefA
set_option maxHeartbeats 16000000
set_option maxRecDepth 100000
set_option linter.all false
namespace Go.Proofs.YtmoeoppbmhfbpabGreatDoorL
open Go.Abs
variable {Bd:Nat}
structure PA (N:List Tx)(a:RAtom)(k:Int)(n:Nat)(c:List AV):Prop where
 mem:a.pred∈N
 idx:k=(N.idxOf a.pred:Nat)
 len:n=a.terms.length
 cells:c=Au a.terms
theorem sH (nt:Bool)(s:Tx):C9 nt s=(El s).bnd fun p r=>(Ay 40 r).bnd fun _ r=>(D3 r).bnd fun ts r=>(Ay 41 r).bnd fun _ r=>.got {nt:=nt,pred:=p,terms:=ts} r:=by
 unfold C9 U7 D3 Sc;cases El s with
 |bad e=>rfl
 |got p r=>
  simp only[Rd.bnd];cases Ay 40 r with
  |bad e=>rfl
  |got u r=>
   simp only[Rd.bnd];cases Ci r with
   |bad e=>rfl
   |got w r=>
    simp only[Rd.bnd];cases Du Ci 2 r<;>rfl
theorem Ny (nt:Bool){t:Tx}{o:Nat}{N:List Tx}{id:Nat}{s:Tx}{y:St}(ht:t.length<=1000)(hR:RS Bd t o N id s y):
  ACalls Tryz.prog 130 [ptr o 0] y fun x y'=>∃k n ids c N' id',x=tp [ag [sc (.int .i64 k),sl ids n c],sc (.bool (C9 nt s).ok)]/\Rs o y id y' id'/\RS Bd t o N' id' (C9 nt s).rest y'/\N<+:N'/\Rd.Val (C9 nt s) fun a=>PA N' a k n c:=by
 have hn:=hR.lt;rw[sH];refine Z9 34 [.cell 2 122,.tmp 3] Tryz.func130 ?_
 repeat' (first|refine Z1 ?_|(refine Z8 ?_;intro yb ya)|(refine Z4 ?_;clear ya yb)|(refine Z2 ?_ ?_<;>intro h aw<;>try exact Xp)|(refine Z5 ?_;first|(refine Xi (K8 ht (Zr)) ?_;rintro _ _ ⟨k,N',id',rfl,am,aj,ae,ak⟩;(have ai:=am.keep.nobj;(try simp only[Aa,Ab,Aw]at ai);have av:=am.keep.obj))|(refine Xi (Ir ht (by assumption)) ?_;rintro _ _ ⟨rfl,an,aa⟩;(have ah:=an.nobj;(try simp only[Aa,Ab,Aw]at ah);have au:=an.obj))|(refine Xi (fP ht (by assumption)) ?_;rintro _ _ ⟨n,ids,c,rfl,ao,ab,ad⟩;(have af:=ao.nobj;(try simp only[Aa,Ab,Aw]at af);have ap:=ao.obj)))|refine Z3 ?_|exact Zt|(apply ya.out;clear ya yb))
 ·obtain⟨e,he⟩:=Rd.ok_false h;rw[he]at aj⊢;simp only[Rd.rest]at aj;exact⟨_,rfl,0,0,1,[],N',id',rfl,Zu,by show RS Bd t o N' id' e _;exact Zr,ae,trivial⟩
 ·obtain⟨p,r,he⟩:=Rd.ok_true (show (El s).ok=true by assumption);rw[he]at aj aa h⊢;rw[show (Rd.got p r).rest=r from rfl]at h aa;obtain⟨e,hb⟩:=Rd.ok_false h;rw[hb]at aa;simp only[Rd.rest]at aa;simp only[Rd.bnd,hb];exact⟨_,rfl,0,0,1,[],N',id',rfl,Zu,by show RS Bd t o N' id' e _;exact Zr,ae,trivial⟩
 ·obtain⟨p,r,he⟩:=Rd.ok_true (show (El s).ok=true by assumption);have ac:(Ay 40 (El s).rest).ok=true:=by assumption
  rw[he]at ac ab h⊢;rw[show (Rd.got p r).rest=r from rfl]at ac h ab;obtain⟨u,r2,hb⟩:=Rd.ok_true ac;rw[hb]at h ab;rw[show (Rd.got u r2).rest=r2 from rfl]at h ab;obtain⟨e,hc⟩:=Rd.ok_false h;rw[hc]at ab;simp only[Rd.rest]at ab;simp only[Rd.bnd,hb,hc];exact⟨_,rfl,0,0,1,[],N',id',rfl,Zu,by show RS Bd t o N' id' e _;exact Zr,ae,trivial⟩
 ·obtain⟨p,r,he⟩:=Rd.ok_true (show (El s).ok=true by assumption);have ac:(Ay 40 (El s).rest).ok=true:=by assumption
  rw[he]at ac ab h aa ad ak⊢;rw[show (Rd.got p r).rest=r from rfl]at ac h ab aa ad;obtain⟨u,r2,hb⟩:=Rd.ok_true ac;rw[hb]at h ab aa ad;rw[show (Rd.got u r2).rest=r2 from rfl]at h ab aa ad;obtain⟨ts,r3,hc⟩:=Rd.ok_true h;rw[hc]at ab aa ad;rw[show (Rd.got ts r3).rest=r3 from rfl]at ab aa;obtain⟨v1,v2⟩:p∈N'/\k=(N'.idxOf p:Nat):=ak;obtain⟨v3,v4⟩:n=ts.length/\c=Au ts:=ad;simp only[Rd.bnd,hb,hc];cases hd:Ay 41 r3 with
  |bad e=>
   rw[hd]at aa;simp only[Rd.rest]at aa;exact⟨_,rfl,k,n,ids,c,N',id',by simp only[Rd.rest,hb,hc,hd,Rd.ok,Rd.bnd],Zu,by show RS Bd t o N' id' e _;exact Zr,ae,trivial⟩
  |got u2 r4=>
   rw[hd]at aa;simp only[Rd.rest]at aa;exact⟨_,rfl,k,n,ids,c,N',id',by simp only[Rd.rest,hb,hc,hd,Rd.ok,Rd.bnd],Zu,by show RS Bd t o N' id' r4 _;exact Zr,ae,⟨v1,v2,v3,v4⟩⟩
theorem pX (s:Tx):J3 s=C9 (Ay 33 s).ok (Ay 33 s).rest:=by
 cases s with
 |nil=>rfl
 |cons b r=>
  unfold J3 Ay;dsimp only;split<;>rfl
theorem No {t:Tx}{o:Nat}{N:List Tx}{id:Nat}{s:Tx}{y:St}(ht:t.length<=1000)(hR:RS Bd t o N id s y):
  ACalls Tryz.prog 242 [ptr o 0] y fun x y'=>∃b k n ids c N' id',x=tp [ag [sc (.bool b),sc (.int .i64 k),sl ids n c],sc (.bool (J3 s).ok)]/\Rs o y id y' id'/\RS Bd t o N' id' (J3 s).rest y'/\N<+:N'/\Rd.Val (J3 s) fun a=>b=a.nt/\PA N' a k n c:=by
 have hn:=hR.lt;rw[pX];refine Z9 18 [.cell 2 198,.tmp 3] Tryz.func242 ?_
 repeat' (first|refine Z1 ?_|(refine Z8 ?_;intro yb ya)|(refine Z4 ?_;clear ya yb)|(refine Z2 ?_ ?_<;>intro h ai<;>try exact Xp)|(refine Z5 ?_;first|(refine Xi (Ir ht (Zr)) ?_;rintro _ _ ⟨rfl,ae,ak⟩;(have aa:=ae.nobj;(try simp only[Aa,Ab,Aw]at aa);have af:=ae.obj))|(refine Xi (Ny (Ay 33 s).ok ht (by assumption)) ?_;rintro _ _ ⟨k,n,ids,c,N',id',rfl,ad,am,aj,ac⟩;(have ab:=ad.keep.nobj;(try simp only[Aa,Ab,Aw]at ab);have ah:=ad.keep.obj)))|refine Z3 ?_|exact Zt|(apply ya.out;clear ya yb))
 refine⟨_,rfl,(Ay 33 s).ok,k,n,ids,c,N',id',rfl,Zu,Zr,aj,?_⟩;cases hp:C9 (Ay 33 s).ok (Ay 33 s).rest with
 |bad e=>trivial
 |got a r=>
  rw[hp]at ac;exact⟨(Fz hp).2.2.symm,ac⟩
def PL (N:List Tx)(a:RAtom)(c:List AV):Prop:=a.pred∈N/\∃ids,c=[sc (.bool a.nt),sc (.int .i64 (N.idxOf a.pred:Nat)),sl ids a.terms.length (Au a.terms)]
theorem Ds {N:List Tx}(a:RAtom)(c:List AV)(h:PL N a c):c.length=3:=by obtain⟨-,ids,rfl⟩:=h;rfl
theorem PL.mono {N N':List Tx}(hN:N<+:N')(a:RAtom)(c:List AV)(h:PL N a c):PL N' a c:=by
 obtain⟨hm,ids,rfl⟩:=h;exact⟨hN.subset hm,ids,by rw[Kt hN hm]⟩
theorem PL.of {N:List Tx}{a:RAtom}{b:Bool}{k:Int}{n:Nat}{ids:Nat}{c:List AV}(hb:b=a.nt)(h:PA N a k n c):PL N a [sc (.bool b),sc (.int .i64 k),sl ids n c]:=by
 obtain⟨h1,rfl,rfl,rfl⟩:=h;subst hb;exact⟨h1,ids,rfl⟩
def PI (N:List Tx)(x:RItem)(c:List AV):Prop:=x.head.pred∈N/\∃ih id b,EL (PL N) x.body b/\c=[sc (.bool x.out),sc (.int .i64 (N.idxOf x.head.pred:Nat)),sl ih x.head.terms.length (Au x.head.terms),sl id x.body.length b]
theorem Dd {N:List Tx}(x:RItem)(c:List AV)(h:PI N x c):c.length=4:=by obtain⟨-,ih,id,b,-,rfl⟩:=h;rfl
theorem PI.mono {N N':List Tx}(hN:N<+:N')(x:RItem)(c:List AV)(h:PI N x c):PI N' x c:=by
 obtain⟨hm,ih,id,b,hb,rfl⟩:=h;exact⟨hN.subset hm,ih,id,b,hb.mono (PL.mono hN),by rw[Kt hN hm]⟩
variable {Bd:Nat}
def Iw (s:Tx):Rd Unit:=(Ay 58 s).bnd fun _ r=>Ay 45 r
theorem eY {t:Tx}{o:Nat}{N:List Tx}{id:Nat}{s:Tx}{y:St}(ht:t.length<=1000)(hR:RS Bd t o N id s y):
  ACalls Tryz.prog 204 [ptr o 0] y fun x y'=>x=sc (.bool (Iw s).ok)/\KeepX o y y'/\RS Bd t o N id (Iw s).rest y':=by
 unfold Iw;refine Z9 8 [.tmp 2] Tryz.func204 ?_
 repeat' (first|refine Z1 ?_|(refine Z8 ?_;intro yb ya)|(refine Z4 ?_;clear ya yb)|(refine Z2 ?_ ?_<;>intro h ac<;>try exact Xp)|(refine Z5 ?_;refine Xi (Ir ht (by assumption)) ?_;rintro _ _ ⟨rfl,ab,aa⟩)|refine Z3 ?_|exact Zt|(apply ya.out;clear ya yb))
 ·obtain⟨e,he⟩:=Rd.ok_false h;rw[he]at aa⊢
  first|exact⟨_,rfl,rfl,ab,aa⟩|exact⟨_,rfl,rfl,aa⟩|exact⟨_,rfl,ab,aa⟩
 ·obtain⟨u,r,he⟩:=Rd.ok_true h;rw[he]at aa⊢
  first|exact⟨_,rfl,rfl,Zs,aa⟩|exact⟨_,rfl,rfl,aa⟩|exact⟨_,rfl,Zs,aa⟩
theorem nW {σ0 y2:St}{id1 id2 ids n:Nat}(h:id1=1\/id1≠ids)(hO:Own σ0 y2 ids n)(hn:0<n)(hs:id2=id1\/y2.ntop+2<=id2):id2=1\/id2≠ids:=by
 rcases hO with⟨-,rfl⟩|⟨k,h1,h2,h3,h4,h5⟩<;>omega
theorem Oo {σ0 y2:St}{id1 ids n:Nat}(h:id1=1\/id1≠ids)(hO:Own σ0 y2 ids n):ids=1\/ids≠id1:=by
 rcases hO with⟨h1,rfl⟩|⟨k,h1,h2,h3,h4,h5⟩<;>omega
theorem OwnN.fresh {y:St}{id n:Nat}(h:OwnN y id n):id=1\/id≠y.ntop+2:=by
 rcases h with⟨rfl,-⟩|⟨k,h1,h2,-⟩<;>omega
theorem Ra {X:St}{id3 ids idn n:Nat}(h:OwnN X id3 n)(aa:id3=1\/id3≠ids)(hid:idn=ids\/X.ntop+2<=idn):id3=1\/id3≠idn:=by
 rcases h with⟨rfl,-⟩|⟨k,h1,h2,-⟩<;>omega
abbrev D8 (s:Tx):Rd (List RAtom):=Sc J3 4 s
theorem lQ {t:Tx}{o:Nat}{N:List Tx}{id:Nat}{s:Tx}{y:St}(ht:t.length<=1000)(hR:RS Bd t o N id s y):
  ACalls Tryz.prog 205 [ptr o 0] y fun x y'=>∃n ids c N' id',x=tp [sl ids n c,sc (.bool (D8 s).ok)]/\Rs o y id y' id'/\RS Bd t o N' id' (D8 s).rest y'/\N<+:N'/\Rd.Val (D8 s) fun ls=>n=ls.length/\EL (PL N') ls c:=by
 have hn:=hR.lt;refine Z9 37 [.tmp 2,.tmp 3] Tryz.func205 ?_
 repeat' (first|refine Z1 ?_|(refine Z8 ?_;intro yb ya)|(refine Z4 ?_;clear ya yb)|(refine Z2 ?_ ?_<;>intro h ad<;>try exact Xp)|(refine Z5 ?_;refine Xi (No ht hR) ?_;rintro _ _ ⟨b,k,n,ia,c,N1,id1,rfl,ao,ab,av,a4⟩;(have ac:=ao.keep.nobj))|refine Z3 ?_|exact Zt|(apply ya.out;clear ya yb))
 ·rename_i y1;obtain⟨e,he⟩:=Rd.ok_false h;have hp:=sepI.none (n:=4) he;rw[he]at ab;simp only[Rd.rest]at ab;refine⟨_,rfl,0,1,[],N1,id1,by rw[D8,hp];rfl,Zu,?_,av,by rw[D8,hp];trivial⟩;rw[D8,hp];show RS Bd t o N1 id1 e _;exact Zr
 ·rename_i y1;obtain⟨w,q,he⟩:=Rd.ok_true h;have hp:=sepI.first (n:=4) he;rw[he]at ab a4;obtain⟨hb,hA⟩:b=w.nt/\PA N1 w k n c:=a4;have ab:RS Bd t o N1 id1 q y1:=ab;have hC:PL N1 w [sc (.bool b),sc (.int .i64 k),sl ia n c]:=PL.of hb hA;have ak:[sc (.bool b),sc (.int .i64 k),sl ia n c].length=3:=rfl;generalize az:[sc (.bool b),sc (.int .i64 k),sl ia n c]=cw at hC ak
  refine Af (fun m s' y'=>∃(ls:List RAtom) (q:Tx) (ids:Nat) (d:List AV) (N2:List Tx) (id2:Nat),m=5-ls.length/\s' 0=ptr o 0/\s' 6=sl ids ls.length d/\Rs o y id y' id2/\RS Bd t o N2 id2 q y'/\Own y y' ids ls.length/\Akc (id2=1\/id2≠ids)/\N<+:N2/\0<ls.length/\ls.length<=5/\d.length=ls.length*3/\Akc (EL (PL N2) ls d)/\Akc (sepI J3 4 s ls q)) 4
   ⟨[w],q,_,cw,N1,id1,rfl,rfl,by rw[<-az];rfl,Zu,Zr,Own.made' (b:=(y1.new _).put _ _) ao.keep.ntop (by decide),ab.own.fresh,av,by simp,by simp,by simpa using ak,EL.single hC,hp⟩ ?_
  clear ao ab ac hp he h hC az ak hA hb av;rintro m s' y' ⟨ls,q,ids,d,N2,id2,rfl,h0,h6,hS,hR2,hO,a3,af,a8,bh,a9,hE,hI⟩;have bf:=hS.keep.nobj;by_cases bg:ls.length<5
  ·repeat' (first|refine Z1 ?_|(refine Z8 ?_;intro yb ya)|(refine Z4 ?_;clear ya yb)|(refine Z2 ?_ ?_<;>intro h ad<;>try exact Xp)|(refine Z5 ?_;first|(refine Xi (Ir ht (by assumption)) ?_;rintro _ _ ⟨rfl,ax,ap⟩;(have ac:=ax.nobj))|(refine Xi (No ht (by assumption)) ?_;rintro _ _ ⟨b,k,n,ia,c,N3,id3,rfl,an,aa,au,aj⟩;(have a7:=an.keep.nobj)))|refine Z3 ?_|exact Zt|(apply ya.out;clear ya yb))
   ·rename_i y2 am _ y3;obtain⟨u,r,hb⟩:=Rd.ok_true am;rw[hb]at h aa;obtain⟨e,he⟩:=Rd.ok_false h;rw[show (Rd.got u r).rest=r from rfl]at he aa;have hp:=hI.out.fail Aj6 hb he;rw[he]at aa;simp only[Rd.rest]at aa;refine⟨_,rfl,0,1,[],N3,id3,by rw[D8,hp];rfl,Zu,?_,af.trans au,by rw[D8,hp];trivial⟩;rw[D8,hp];show RS Bd t o N3 id3 e _;exact Zr
   ·rename_i y2 am _ y3;obtain⟨u,r,hb⟩:=Rd.ok_true am;rw[hb]at h aa aj;obtain⟨x,r2,he⟩:=Rd.ok_true h;rw[show (Rd.got u r).rest=r from rfl]at he aa aj;have hp:=hI.out.next Aj6 hb he;rw[he]at aa aj;obtain⟨a0,hA⟩:b=x.nt/\PA N3 x k n c:=aj;have aa:RS Bd t o N3 id3 r2 y3:=aa;have hC:PL N3 x [sc (.bool b),sc (.int .i64 k),sl ia n c]:=PL.of a0 hA;have a5:Rs o y id ((y3.new [sc (.bool false),sc (.int .i64 0),nilS]).put y3.nobj [sc (.bool b),sc (.int .i64 k),sl ia n c]) id3:=Zu;have aw:=Own.keepX hO ax;have bc:=Own.keepR aw an.keep (Oo a3.out aw);have ba:Own y ((y3.new [sc (.bool false),sc (.int .i64 0),nilS]).put y3.nobj [sc (.bool b),sc (.int .i64 k),sl ia n c]) ids ls.length:=Own.put (Own.new bc _) _ _;have a6:RS Bd t o N3 id3 r2 ((y3.new [sc (.bool false),sc (.int .i64 0),nilS]).put y3.nobj [sc (.bool b),sc (.int .i64 k),sl ia n c]):=Zr;have ae:id3=1\/id3≠ids:=nW a3.out aw a8 an.nid;refine Nf (o:=o) (idn:=id) (σ0:=y) (by first|exact Ek) a5.keep ba (by decide) (by rfl) a9 (by rfl) (by rfl) (by decide) Aj6 Aj6 ?_;intro idn yn bb bd ay ai be ah etop hid;refine Z3 ?_
    repeat' (first|refine Z1 ?_|(refine Z4 ?_;clear ya yb)|refine Z3 ?_|exact Zt|(apply ya.out;clear ya yb))
    refine⟨5-(ls++[x]).length,by simp;omega,ls++[x],r2,idn,d++[sc (.bool b),sc (.int .i64 k),sl ia n c],N3,id3,rfl,by simp[a0],⟨bd,a5.nid⟩,a6.app ay ai ah etop ae,by simpa using bb,Ra a6.own ae hid,af.trans au,by simp,by simp;omega,by simp;omega,EL.append (hE.out.mono (PL.mono au)) (EL.single hC),hp⟩
   ·have hp:=hI.out.stop h;rename_i y2;rw[J6 h]at ap;simp only[Rd.rest]at ap;refine⟨_,rfl,_,ids,_,N2,id2,by rw[D8,hp];rfl,Zu,?_,af,by rw[D8,hp];exact⟨rfl,hE.out⟩⟩;rw[D8,hp];show RS Bd t o N2 id2 q _;exact Zr
  ·repeat' (first|refine Z1 ?_|(refine Z8 ?_;intro yb ya)|(refine Z4 ?_;clear ya yb)|(refine Z2 ?_ ?_<;>intro h ad<;>try exact Xp)|(refine Z5 ?_;refine Xi (Ir ht (by assumption)) ?_;rintro _ _ ⟨rfl,ax,ap⟩)|refine Z3 ?_|exact Zt|(apply ya.out;clear ya yb))
   have hp:=hI.out.full Aj6
   first
   |exact⟨_,rfl,_,ids,d,N2,id2,by rw[D8,hp];rfl,hS,by rw[D8,hp];exact hR2,af,by rw[D8,hp];exact⟨rfl,hE.out⟩⟩
   |exact⟨_,rfl,_,ids,d,N2,id2,by rw[D8,hp];rfl,by rw[D8,hp];exact hR2,af,by rw[D8,hp];exact⟨rfl,hE.out⟩⟩
variable {Bd:Nat}
def aV (Bd:Nat)(t:Tx)(o:Nat)(N:List Tx)(id:Nat)(y:St)(p:Rd RItem)(x:AV)(y':St):Prop:=
 ∃b k ih n c ib m d N' id',x=tp [ag [sc (.bool b),sc (.int .i64 k),sl ih n c,sl ib m d],sc (.bool p.ok)]/\Rs o y id y' id'/\RS Bd t o N' id' p.rest y'/\N<+:N'/\Rd.Val p fun it=>PI N' it [sc (.bool b),sc (.int .i64 k),sl ih n c,sl ib m d]
theorem bL {t:Tx}{o:Nat}{N:List Tx}{id:Nat}{s:Tx}{y:St}(ht:t.length<=1000)(hR:RS Bd t o N id s y):
  ACalls Tryz.prog 173 [ptr o 0] y (aV Bd t o N id y (bQ s)):=by
 have hn:=hR.lt;unfold bQ aV;refine Z9 20 [.cell 2 125,.tmp 3] Tryz.func173 ?_
 repeat' (first|refine Z1 ?_|(refine Z8 ?_;intro yb ya)|(refine Z4 ?_;clear ya yb)|(refine Z2 ?_ ?_<;>intro h am<;>try exact Xp)|(refine Z5 ?_;first|(refine Xi (K8 ht (Zr)) ?_;rintro _ _ ⟨k,N',id',rfl,af,ah,ad,ae⟩;(have ac:=af.keep.nobj;(try simp only[Aa,Ab,Aw]at ac);have ak:=af.keep.obj))|(refine Xi (Ir ht (by assumption)) ?_;rintro _ _ ⟨rfl,ai,aa⟩;(have ab:=ai.nobj;(try simp only[Aa,Ab,Aw]at ab);have aj:=ai.obj)))|refine Z3 ?_|exact Zt|(apply ya.out;clear ya yb))
 ·obtain⟨e,he⟩:=Rd.ok_false h;rw[he]at ah⊢;simp only[Rd.rest]at ah;exact⟨_,rfl,false,0,1,0,[],1,0,[],N',id',rfl,Zu,by show RS Bd t o N' id' e _;exact Zr,ad,trivial⟩
 ·obtain⟨p,r,he⟩:=Rd.ok_true h;rw[he]at aa ae⊢;rw[show (Rd.got p r).rest=r from rfl]at aa⊢;obtain⟨v1,v2⟩:p∈N'/\k=(N'.idxOf p:Nat):=ae;simp only[Rd.bnd];cases hd:Ay 46 r with
  |bad e=>
   rw[hd]at aa;simp only[Rd.rest]at aa;exact⟨_,rfl,true,k,1,0,[],1,0,[],N',id',rfl,Zu,by show RS Bd t o N' id' e _;exact Zr,ad,trivial⟩
  |got u2 r4=>
   rw[hd]at aa;simp only[Rd.rest]at aa;exact⟨_,rfl,true,k,1,0,[],1,0,[],N',id',rfl,Zu,by show RS Bd t o N' id' r4 _;exact Zr,ad,⟨v1,1,1,[],rfl,by rw[v2];rfl⟩⟩
theorem gM (h:RAtom)(r:Tx):Nq h r=if (Ay 46 r).ok=true then .got {out:=false,head:=h,body:=[]} (Ay 46 r).rest
  else (Iw r).bnd fun _ r=>(D8 r).bnd fun ls r=>(Ay 46 r).bnd fun _ r=>.got {out:=false,head:=h,body:=ls} r:=by
 cases r with
 |nil=>rfl
 |cons b r=>
  have hx:Nq h (b::r)=if ((b.toNat:Int)==46)=true then .got {out:=false,head:=h,body:=[]} r else
   (Ay 58 (b::r)).bnd fun _ r=>(Ay 45 r).bnd fun _ r=>Ro h r:=rfl
  rw[hx];by_cases hb:((b.toNat:Int)==46)=true
  ·have hp:Ay 46 (b::r)= .got () r:=by unfold Ay;dsimp only;rw[if_pos hb]
   rw[if_pos hb,hp];rfl
  ·have hp:Ay 46 (b::r)= .bad (b::r):=by unfold Ay;dsimp only;rw[if_neg hb]
   rw[if_neg hb,hp,if_neg (by simp[Rd.ok])];unfold Iw Ro D8 Sc;rw[Gb];congr 1;funext u r1;congr 1;funext u r2;rw[Gb];congr 1;funext l r3;rw[Gb];rfl
theorem lO {t:Tx}{o:Nat}{N:List Tx}{id:Nat}{s:Tx}{y:St}(ht:t.length<=1000)(hR:RS Bd t o N id s y):
  ACalls Tryz.prog 174 [ptr o 0] y (aV Bd t o N id y (Nr s)):=by
 have hn:=hR.lt;unfold Nr aV;simp only[gM];refine Z9 38 [.cell 2 125,.tmp 3] Tryz.func174 ?_
 repeat' (first|refine Z1 ?_|(refine Z8 ?_;intro yb ya)|(refine Z4 ?_;clear ya yb)|(refine Z2 ?_ ?_<;>intro h a4<;>try exact Xp)|(refine Z5 ?_;first|(refine Xi (Ny false ht (Zr)) ?_;rintro _ _ ⟨k,n,ids,c,N',id',rfl,au,av,ah,aj⟩;(have ao:=au.keep.nobj;(try simp only[Aa,Ab,Aw]at ao);have a3:=au.keep.obj))|(refine Xi (Ir ht (Zr)) ?_;rintro _ _ ⟨rfl,aw,ab⟩;(have an:=aw.nobj;(try simp only[Aa,Ab,Aw]at an);have a0:=aw.obj))|(refine Xi (eY ht (by assumption)) ?_;rintro _ _ ⟨rfl,ax,af⟩;(have am:=ax.nobj;(try simp only[Aa,Ab,Aw]at am);have az:=ax.obj))|(refine Xi (lQ ht (by assumption)) ?_;rintro _ _ ⟨m,ib,d,N2,id2,rfl,ap,ac,ai,ae⟩;(have ak:=ap.keep.nobj;(try simp only[Aa,Ab,Aw]at ak);have ay:=ap.keep.obj)))|refine Z3 ?_|exact Zt|(apply ya.out;clear ya yb))
 ·obtain⟨e,he⟩:=Rd.ok_false h;rw[he]at av⊢;simp only[Rd.rest]at av;exact⟨_,rfl,false,0,1,0,[],1,0,[],N',id',rfl,Zu,by show RS Bd t o N' id' e _;exact Zr,ah,trivial⟩
 ·obtain⟨a,r,he⟩:=Rd.ok_true (show (C9 false s).ok=true by assumption);rw[he]at h ab aj⊢;have h:(Ay 46 r).ok=true:=h;have ab:RS Bd t o N' id' (Ay 46 r).rest _:=ab;obtain⟨v1,v2,v3,v4⟩:PA N' a k n c:=aj;simp only[Rd.bnd,h,if_true];exact⟨_,rfl,false,k,ids,n,c,1,0,[],N',id',rfl,Zu,by show RS Bd t o N' id' (Ay 46 r).rest _;exact Zr,ah,⟨v1,ids,1,[],rfl,by rw[v2,v3,v4];rfl⟩⟩
 ·obtain⟨a,r,he⟩:=Rd.ok_true (show (C9 false s).ok=true by assumption);have aa:(Ay 46 (C9 false s).rest).ok=false:=by assumption
  rw[he]at h aa af⊢;have aa:(Ay 46 r).ok=false:=aa;rw[show (Rd.got a r).rest=r from rfl,J6 aa]at h af;obtain⟨e,hA⟩:=Rd.ok_false (show (Iw r).ok=false from h);have af:RS Bd t o N' id' (Iw r).rest _:=af;rw[hA]at af;simp only[Rd.rest]at af;simp only[Rd.bnd,aa,hA,Ahv,if_false];exact⟨_,rfl,false,0,1,0,[],1,0,[],N',id',rfl,Zu,by show RS Bd t o N' id' e _;exact Zr,ah,trivial⟩
 ·obtain⟨a,r,he⟩:=Rd.ok_true (show (C9 false s).ok=true by assumption);have aa:(Ay 46 (C9 false s).rest).ok=false:=by assumption
  have ad:(Iw (Ay 46 (C9 false s).rest).rest).ok=true:=by assumption
  rw[he]at h aa ad ac⊢;have aa:(Ay 46 r).ok=false:=aa;rw[show (Rd.got a r).rest=r from rfl,J6 aa]at h ad ac;obtain⟨u,r2,hA⟩:=Rd.ok_true (show (Iw r).ok=true from ad);rw[show (Rd.bad r:Rd Unit).rest=r from rfl,hA]at h ac;obtain⟨e,hL⟩:=Rd.ok_false (show (D8 r2).ok=false from h);have ac:RS Bd t o N2 id2 (D8 r2).rest _:=ac;rw[hL]at ac;simp only[Rd.rest]at ac;simp only[Rd.bnd,aa,hA,hL,Ahv,if_false];exact⟨_,rfl,false,0,1,0,[],1,0,[],N2,id2,rfl,Zu,by show RS Bd t o N2 id2 e _;exact Zr,ah.trans ai,trivial⟩
 ·obtain⟨a,r,he⟩:=Rd.ok_true (show (C9 false s).ok=true by assumption);have aa:(Ay 46 (C9 false s).rest).ok=false:=by assumption
  have ad:(Iw (Ay 46 (C9 false s).rest).rest).ok=true:=by assumption
  rw[he]at h aa ad ac aj ae ab⊢;have aa:(Ay 46 r).ok=false:=aa;rw[show (Rd.got a r).rest=r from rfl,J6 aa]at h ad ac ae ab;obtain⟨u,r2,hA⟩:=Rd.ok_true (show (Iw r).ok=true from ad);rw[show (Rd.bad r:Rd Unit).rest=r from rfl,hA]at h ac ae ab;obtain⟨ls,r3,hL⟩:=Rd.ok_true (show (D8 r2).ok=true from h);have ac:RS Bd t o N2 id2 (D8 r2).rest _:=ac;have ab:RS Bd t o N2 id2 (Ay 46 (D8 r2).rest).rest _:=ab;rw[show (Rd.got u r2).rest=r2 from rfl]at ae;rw[hL]at ac ab ae;obtain⟨v1,v2,v3,v4⟩:PA N' a k n c:=aj;obtain⟨w1,w2⟩:m=ls.length/\EL (PL N2) ls d:=ae;have ab:RS Bd t o N2 id2 (Ay 46 r3).rest _:=ab;simp only[Rd.bnd,Rd.rest,J6 aa,aa,hA,hL,Ahv,if_false];cases hd:Ay 46 r3 with
  |bad e=>
   rw[hd]at ab;simp only[Rd.rest]at ab;exact⟨_,rfl,false,k,ids,n,c,ib,m,d,N2,id2,rfl,Zu,by show RS Bd t o N2 id2 e _;exact Zr,ah.trans ai,trivial⟩
  |got u2 r4=>
   rw[hd]at ab;simp only[Rd.rest]at ab;exact⟨_,rfl,false,k,ids,n,c,ib,m,d,N2,id2,rfl,Zu,by show RS Bd t o N2 id2 r4 _;exact Zr,ah.trans ai,⟨ai.subset v1,ids,ib,d,w2,by rw[v2,v3,v4,w1,Kt ai v1]⟩⟩
theorem gQ (s:Tx):Fe s=if (Ay 63 s).ok=true then bQ (Ay 63 s).rest else Nr (Ay 63 s).rest:=by
 cases s with
 |nil=>rfl
 |cons b r=>
  unfold Fe Ay;dsimp only;split<;>simp[Rd.ok,Rd.rest]
theorem lP {t:Tx}{o:Nat}{N:List Tx}{id:Nat}{s:Tx}{y:St}(ht:t.length<=1000)(hR:RS Bd t o N id s y):
  ACalls Tryz.prog 120 [ptr o 0] y (aV Bd t o N id y (Fe s)):=by
 have hn:=hR.lt;rw[gQ];unfold aV;refine Z9 14 [.cell 2 125,.tmp 3] Tryz.func120 ?_
 repeat' (first|refine Z1 ?_|(refine Z8 ?_;intro yb ya)|(refine Z4 ?_;clear ya yb)|(refine Z2 ?_ ?_<;>intro h aj<;>try exact Xp)|(refine Z5 ?_;first|(refine Xi (Ir ht (Zr)) ?_;rintro _ _ ⟨rfl,ah,am⟩;(have ad:=ah.nobj;(try simp only[Aa,Ab,Aw]at ad);have ai:=ah.obj))|(refine Xi (bL ht (by assumption)) ?_;rintro _ _ ⟨b,k,ih,n,c,ib,m,d,N',id',rfl,ab,ak,af,ae⟩;(have aa:=ab.keep.nobj;(try simp only[Aa,Ab,Aw]at aa);have ac:=ab.keep.obj))|(refine Xi (lO ht (by assumption)) ?_;rintro _ _ ⟨b,k,ih,n,c,ib,m,d,N',id',rfl,ab,ak,af,ae⟩;(have aa:=ab.keep.nobj;(try simp only[Aa,Ab,Aw]at aa);have ac:=ab.keep.obj)))|refine Z3 ?_|exact Zt|(apply ya.out;clear ya yb))
 all_goals exact⟨_,rfl,b,k,ih,n,c,ib,m,d,N',id',rfl,Zu,Zr,af,ae⟩
variable {Bd:Nat}
def itI (s:Tx)(xs:List RItem)(q:Tx):Prop:=xs.length<=16/\Bq 16 s=(Bq (16-xs.length) q).bnd fun ys r=>.got (xs++ys) r
theorem itI.start (s:Tx):itI s [] s:=by
 refine⟨by simp,?_⟩;simp only[Ahx,Aih,Ah6];cases Bq 16 s<;>rfl
theorem U3 (n:Nat):Bq n []= .got [] []:=by cases n<;>rfl
theorem Rn (b:UInt8)(r:Tx):Bq 0 (b::r)= .bad (b::r):=rfl
theorem L1 (n:Nat)(b:UInt8)(r:Tx):Bq (n+1) (b::r)=(Fe (b::r)).bnd fun x r=>(Bq n r).bnd fun xs r=>.got (x::xs) r:=rfl
theorem itI.done {s:Tx}{xs:List RItem}(h:itI s xs []):Bq 16 s= .got xs []:=by
 rw[h.2,U3];simp[Rd.bnd]
theorem itI.full {s:Tx}{xs:List RItem}{b:UInt8}{r:Tx}(h:itI s xs (b::r))(hl:xs.length=16):Bq 16 s= .bad (b::r):=by
 rw[h.2,hl,Rn];rfl
theorem itI.fail {s:Tx}{xs:List RItem}{b:UInt8}{r e:Tx}(h:itI s xs (b::r))(hl:xs.length<16)(he:Fe (b::r)= .bad e):Bq 16 s= .bad e:=by
 obtain⟨k,hk⟩:∃k,16-xs.length=k+1:=⟨15-xs.length,Aj6⟩;rw[h.2,hk,L1,he];rfl
theorem itI.next {s:Tx}{xs:List RItem}{b:UInt8}{r r2:Tx}{x:RItem}(h:itI s xs (b::r))(hl:xs.length<16)(he:Fe (b::r)= .got x r2):itI s (xs++[x]) r2:=by
 obtain⟨k,hk⟩:∃k,16-xs.length=k+1:=⟨15-xs.length,Aj6⟩;refine⟨by simp;omega,?_⟩;rw[h.2,hk,L1,he,show 16-(xs++[x]).length=k by simp;omega];simp only[Rd.bnd];cases Bq k r2<;>simp
theorem R1 {σ0 y2:St}{id1 id2 ids n:Nat}(h:id1=1\/id1≠ids)(hO:Own σ0 y2 ids n)(hs:id2=id1\/y2.ntop+2<=id2):id2=1\/id2≠ids:=by
 rcases hO with⟨h1,-⟩|⟨k,h1,h2,h3,h4,h5⟩<;>omega
theorem fQ {t:Tx}{o:Nat}{N:List Tx}{id:Nat}{s:Tx}{y:St}(ht:t.length<=1000)(hR:RS Bd t o N id s y):
  ACalls Tryz.prog 70 [ptr o 0] y fun x y'=>∃n ids c N' id',x=tp [sl ids n c,sc (.bool (Bq 16 s).ok)]/\Rs o y id y' id'/\RS Bd t o N' id' (Bq 16 s).rest y'/\N<+:N'/\Rd.Val (Bq 16 s) fun xs=>n=xs.length/\EL (PI N') xs c:=by
 have hn:=hR.lt;have az:OwnN y id N.length:=hR.own;refine Z9 33 [.tmp 2,.tmp 3] Tryz.func70 ?_
 repeat' (first|refine Z1 ?_|(refine Z8 ?_;intro yb ya)|(refine Z4 ?_;clear ya yb)|refine Z3 ?_|exact Zt|(apply ya.out;clear ya yb))
 refine Af (fun m s' y'=>∃(xs:List RItem) (q:Tx) (ids:Nat) (d:List AV) (N2:List Tx) (id2:Nat),m=16-xs.length/\s' 0=ptr o 0/\s' 4=sl ids xs.length d/\Rs o y id y' id2/\RS Bd t o N2 id2 q y'/\Own y y' ids xs.length/\Akc (id2=1\/id2≠ids)/\N<+:N2/\xs.length<=16/\d.length=xs.length*4/\Akc (EL (PI N2) xs d)/\Akc (itI s xs q)) 16
  ⟨[],s,1,[],N,id,rfl,rfl,rfl,Rs.refl _ _ _,hR,Own.nil _ _,by rcases az with⟨e,-⟩|⟨k,e,-⟩;exact .inl e;exact .inr Aj6,List.prefix_refl _,by simp,by simp,rfl,itI.start s⟩ ?_
 rintro m s' y' ⟨xs,q,ids,d,N2,id2,rfl,h0,h4,hS,hR2,hO,ao,aa,ax,ay,hE,hI⟩;have a8:=hS.keep.nobj;have a9:=hR2.lt;have ah:=hR2.obj;have am:=Hm hR2.suf;unfold Le R9 at ah
 repeat' (first|refine Z1 ?_|refine Z3 ?_|exact Zt|(apply ya.out;clear ya yb))
 refine A8 Ai (fun _=>True) [9] [0,1,2,3,4,5,6,7,8] [9] Aj9 (fun _ _ _ h=>h) ?_;intro yb ya;cases q with
 |nil=>
  simp only[Ahx,Aih]at ah am;refine Z3 ?_
  repeat' (first|refine Z1 ?_|(refine Z8 ?_;intro yb ya)|(refine Z4 ?_;clear ya yb)|(refine Z2 ?_ ?_<;>intro h ab<;>try exact Xp)|refine Z3 ?_|exact Zt|(apply ya.out;clear ya yb))
  have hp:=hI.out.done
  first
  |exact⟨_,rfl,_,ids,d,N2,id2,by rw[hp];rfl,hS,by rw[hp];exact hR2,aa,by rw[hp];exact⟨rfl,hE.out⟩⟩
  |exact⟨_,rfl,_,ids,d,N2,id2,by rw[hp];rfl,by rw[hp];exact hR2,aa,by rw[hp];exact⟨rfl,hE.out⟩⟩
 |cons b0 r0=>
  simp only[Ahy]at ah am;refine Z3 ?_;by_cases an:xs.length<16
  ·repeat' (first|refine Z1 ?_|(refine Z8 ?_;intro yb ya)|(refine Z4 ?_;clear ya yb)|(refine Z2 ?_ ?_<;>intro h ab<;>try exact Xp)|(refine Z5 ?_;refine Xi (lP ht (by assumption)) ?_;rintro _ _ ⟨b,k,ih,n,c,ib,m,e,N3,id3,rfl,ai,ad,aj,ap⟩;(have aw:=ai.keep.nobj))|refine Z3 ?_|exact Zt|(apply ya.out;clear ya yb))
   ·exfalso;simp at h;omega
   ·rename_i y3;obtain⟨e2,he⟩:=Rd.ok_false h;have hp:=hI.out.fail an he;rw[he]at ad;simp only[Rd.rest]at ad;refine⟨_,rfl,0,1,[],N3,id3,by rw[hp];rfl,Zu,?_,aa.trans aj,by rw[hp];trivial⟩;rw[hp];show RS Bd t o N3 id3 e2 _;exact Zr
   ·rename_i y3;obtain⟨x,r2,he⟩:=Rd.ok_true h;have hp:=hI.out.next an he;rw[he]at ad ap;have hC:PI N3 x [sc (.bool b),sc (.int .i64 k),sl ih n c,sl ib m e]:=ap;have ad:RS Bd t o N3 id3 r2 y3:=ad;have au:Rs o y id ((y3.new [sc (.bool false),sc (.int .i64 0),nilS,nilS]).put y3.nobj [sc (.bool b),sc (.int .i64 k),sl ih n c,sl ib m e]) id3:=Zu;have a4:=Own.keepR hO ai.keep (Oo ao.out hO);have a0:Own y ((y3.new [sc (.bool false),sc (.int .i64 0),nilS,nilS]).put y3.nobj [sc (.bool b),sc (.int .i64 k),sl ih n c,sl ib m e]) ids xs.length:=Own.put (Own.new a4 _) _ _;have av:RS Bd t o N3 id3 r2 ((y3.new [sc (.bool false),sc (.int .i64 0),nilS,nilS]).put y3.nobj [sc (.bool b),sc (.int .i64 k),sl ih n c,sl ib m e]):=Zr;have ac:id3=1\/id3≠ids:=R1 ao.out hO ai.nid;refine Nf (o:=o) (idn:=id) (σ0:=y) (by first|exact Ki) au.keep a0 (by decide) (by rfl) ay (by rfl) (by rfl) (by decide) Aj6 Aj6 ?_;intro idn yn a3 a5 ak af a7 ae etop hid;refine Z3 ?_
    repeat' (first|refine Z1 ?_|(refine Z4 ?_;clear ya yb)|refine Z3 ?_|exact Zt|(apply ya.out;clear ya yb))
    refine⟨16-(xs++[x]).length,by simp;omega,xs++[x],r2,idn,d++[sc (.bool b),sc (.int .i64 k),sl ih n c,sl ib m e],N3,id3,rfl,by simp,⟨a5,au.nid⟩,av.app ak af ae etop ac,by simpa using a3,Ra av.own ac hid,aa.trans aj,by simp;omega,by simp;omega,EL.append (hE.out.mono (PI.mono aj)) (EL.single hC),hp⟩
  ·have a6:xs.length=16:=Aj6;have hp:=hI.out.full a6;have HP:Akc _:=hp;clear hp
   repeat' (first|refine Z1 ?_|(refine Z8 ?_;intro yb ya)|(refine Z4 ?_;clear ya yb)|(refine Z2 ?_ ?_<;>intro h ab<;>try exact Xp)|refine Z3 ?_|exact Zt|(apply ya.out;clear ya yb))
   first
   |exact⟨_,rfl,0,1,[],N2,id2,by rw[HP.out];rfl,hS,by rw[HP.out];exact hR2,aa,by rw[HP.out];trivial⟩
   |exact⟨_,rfl,0,1,[],N2,id2,by rw[HP.out];rfl,by rw[HP.out];exact hR2,aa,by rw[HP.out];trivial⟩
def PC (N:List Tx)(a:RAtom)(c:List AV):Prop:=a.pred∈N/\∃ids,c=[sc (.int .i64 (N.idxOf a.pred:Nat)),sl ids a.terms.length (Au a.terms)]
theorem Wo {N:List Tx}(a:RAtom)(c:List AV)(h:PC N a c):c.length=2:=by obtain⟨-,ids,rfl⟩:=h;rfl
theorem Ml {N:List Tx}{l:List RAtom}{cs:List AV}{i:Nat}{a:RAtom}(h:EL (PL N) l cs)(hi:l[i]?=some a):a.pred∈N/\∃ia r,cs.drop (i*3)=sc (.bool a.nt)::sc (.int .i64 (N.idxOf a.pred:Nat))::sl ia a.terms.length (Au a.terms)::r:=by
 obtain⟨c,r,⟨hm,ia,rfl⟩,e⟩:=EL.get Ds h hi;exact⟨hm,ia,r,e⟩
theorem qX {N:List Tx}{l:List RAtom}{cs:List AV}{i:Nat}{a:RAtom}(h:EL (PC N) l cs)(hi:l[i]?=some a):a.pred∈N/\∃ia r,cs.drop (i*2)=sc (.int .i64 (N.idxOf a.pred:Nat))::sl ia a.terms.length (Au a.terms)::r:=by
 obtain⟨c,r,⟨hm,ia,rfl⟩,e⟩:=EL.get Wo h hi;exact⟨hm,ia,r,e⟩
theorem Em {N:List Tx}{l:List RItem}{cs:List AV}{i:Nat}{x:RItem}(h:EL (PI N) l cs)(hi:l[i]?=some x):x.head.pred∈N/\∃ih id b r,EL (PL N) x.body b/\cs.drop (i*4)=sc (.bool x.out)::sc (.int .i64 (N.idxOf x.head.pred:Nat))::sl ih x.head.terms.length (Au x.head.terms)::sl id x.body.length b::r:=by
 obtain⟨c,r,⟨hm,ih,id,b,hb,rfl⟩,e⟩:=EL.get Dd h hi;exact⟨hm,ih,id,b,r,hb,e⟩
theorem Aap {N:List Tx}{l:List RAtom}{cs:List AV}(h:EL (PC N) l cs):∀c∈cs,Plain c:=by
 induction l generalizing cs with
 |nil=>have h:cs=[]:=h;subst h;simp
 |cons a l ih=>
  obtain⟨c1,c2,⟨-,ids,rfl⟩,h2,rfl⟩:=h;intro c hc;rcases Ah8.1 hc with hc|hc
  ·simp only[Ah2,Ail,Aj5]at hc;rcases hc with rfl|rfl
   ·exact .inl ⟨_,rfl⟩
   ·refine .inr ⟨_,_,_,rfl,fun x hx=>?_⟩;simp only[Au,Ah7,Ri,Ah2,Ail,Aj5]at hx;obtain⟨w,-,rfl|rfl⟩:=hx<;>exact⟨_,rfl⟩
  ·exact ih h2 c hc
theorem pR {xs ys:List AV}{n:Nat}{u v a b:AV}(hn:xs.length=n):((xs++u::v::ys).set n a).set (n+1) b=xs++a::b::ys:=by
 subst hn;rw[List.set_append_right _ _ (Agn _),Aig,List.set_cons_zero,List.set_append_right _ _ Aj6,Nat.add_sub_cancel_left,List.set_cons_succ,List.set_cons_zero]
theorem Sy {m:Nat}(h:0<m)(u v:AV):(List.replicate m [u,v]).flatten=u::v::(List.replicate (m-1) [u,v]).flatten:=by
 obtain⟨k,rfl⟩:∃k,m=k+1:=⟨m-1,Aj6⟩;rw[List.replicate_succ];rfl
theorem sC (N:List Tx)(x:RItem)(c:List AV)(hc:PI N x c)(hout:x.out=false)(hn:x.body.length<=1000)(y:St):ACalls Tryz.prog 133 [ag c] y fun r y'=>∃(o n:Nat) (cs:List AV),r=fx o 0 n/\y.nobj<=o/\y'.obj o=cs/\Keep y y'/\(∀c∈cs,Plain c)/\(n=(Ae x).length/\EL (PC N) (Ae x) cs):=by
 obtain⟨hm,ih,id,b,hb,rfl⟩:=hc;have an:=EL.length Ds hb;refine Z9 33 [.tmp 2] Tryz.func133 ?_
 repeat' (first|refine Z1 ?_|(refine Z8 ?_;intro yb ya)|(refine Z4 ?_;clear ya yb)|(refine Z2 ?_ ?_<;>intro h ab<;>try exact Xp)|refine Z3 ?_|exact Zt|(apply ya.out;clear ya yb))
 have ad:Keep y (y.new [sc (.bool false),sc (.int .i64 (N.idxOf x.head.pred:Nat)),sl ih x.head.terms.length (Au x.head.terms),sl id x.body.length b]):=(Keep.refl _).new _;have ac:((x.body.length:Int)+1).toNat=x.body.length+1:=Aj6
 refine Af (fun m s y'=>∃(k:Nat) (cur:List AV),m=x.body.length-k/\k<=x.body.length/\s 3=fx (y.nobj+1) 0 (x.body.length+1)/\s 18=sl id x.body.length b/\s 19=sc (.int .i64 x.body.length)/\s 20=sc (.int .i64 k)/\Keep y y'/\y.nobj+1<y'.nobj/\y'.obj (y.nobj+1)=cur/\cur.length=(x.body.length+1)*2/\Akc (∃xs,cur=xs++(List.replicate (x.body.length-k) [sc (.int .i64 0),nilS]).flatten/\xs.length=(1+k)*2/\EL (PC N) (x.head::x.body.take k) xs)) x.body.length
  ⟨0,_,Aj6,Aj6,by simp[upd,ac],Aj8,Aj8,rfl,(ad.new _).put Aj6 _,Akb,Aj,by simp[ac],[sc (.int .i64 (N.idxOf x.head.pred:Nat)),sl ih x.head.terms.length (Au x.head.terms)],?_,by simp,EL.single ⟨hm,ih,rfl⟩⟩ ?_
 ·rw[ac,Sy Aj6];rfl
 clear ad;rintro m s y' ⟨k,cur,rfl,hk,h3,av,au,ap,hK,am,ae,ai,hE⟩;have aj:=hK.nobj;by_cases af:k<x.body.length
 ·have aa:=Agz af;obtain⟨ha,ia,r,hd⟩:=Ml hb aa;generalize x.body[k]=a at hd aa ha;have HG:Akc (x.body[k]?=some a):=aa;clear aa;have ak:((k:Int)+1).toNat=k+1:=Aj6
  repeat' (first|refine Z1 ?_|(refine Z8 ?_;intro yb ya)|(refine Z4 ?_;clear ya yb)|(refine Z2 ?_ ?_<;>intro h ab<;>try exact Xp)|refine Z3 ?_|exact Zt|(apply ya.out;clear ya yb))
  have HN:Akc (∃xs,(cur.set ((k+1)*2) (sc (.int .i64 (N.idxOf a.pred:Nat)))).set ((k+1)*2+1) (sl ia a.terms.length (Au a.terms))=xs++(List.replicate (x.body.length-(k+1)) [sc (.int .i64 0),nilS]).flatten/\xs.length=(1+(k+1))*2/\EL (PC N) (x.head::x.body.take (k+1)) xs):=by
   obtain⟨xs,e1,e2,e3⟩:=hE.out;refine⟨xs++[sc (.int .i64 (N.idxOf a.pred:Nat)),sl ia a.terms.length (Au a.terms)],?_,by simp[e2];omega,?_⟩
   ·rw[e1,Sy Aj6,pR (by rw[e2];omega)];simp[Nat.sub_sub]
   ·rw[Ahd,HG.out];exact EL.append e3 (EL.single ⟨ha,ia,rfl⟩)
  refine⟨x.body.length-(k+1),Aj6,k+1,(cur.set ((k+1)*2) (sc (.int .i64 (N.idxOf a.pred:Nat)))).set ((k+1)*2+1) (sl ia a.terms.length (Au a.terms)),?_⟩
  ((repeat' refine Zi ?_ ?_)<;>first|exact Xq|exact (((hK.new _).put hK.nobj _).put Aj6 _)|exact Aj|exact HN|exact (by simp[ai])|exact Xs)
 ·have ah:k=x.body.length:=Aj6;subst ah;obtain⟨xs,e1,e2,e3⟩:=hE.out;rw[Aig,List.replicate_zero,List.flatten_nil,Ahh]at e1;rw[Ag7]at e3;subst e1;have ao:Ae x=x.head::x.body:=by simp[Ae,hout]
  repeat' (first|refine Z1 ?_|(refine Z8 ?_;intro yb ya)|(refine Z4 ?_;clear ya yb)|(refine Z2 ?_ ?_<;>intro h ab<;>try exact Xp)|refine Z3 ?_|exact Zt|(apply ya.out;clear ya yb))
  exact⟨_,rfl,y.nobj+1,_,cur,rfl,Aj6,ae,Aap e3,rfl,e3⟩
theorem mC (N:List Tx)(x:RItem)(c:List AV)(hc:PI N x c)(hout:x.out=true)(y:St):ACalls Tryz.prog 133 [ag c] y fun r y'=>r=nilS/\Keep y y':=by
 obtain⟨hm,ih,id,b,hb,rfl⟩:=hc;refine Z9 33 [.tmp 2] Tryz.func133 ?_
 repeat' (first|refine Z1 ?_|(refine Z8 ?_;intro yb ya)|(refine Z4 ?_;clear ya yb)|(refine Z2 ?_ ?_<;>intro h aa<;>try exact Xp)|refine Z3 ?_|exact Zt|(apply ya.out;clear ya yb))
 first
 |exact⟨_,rfl,rfl,Xs⟩
 |exact⟨rfl,Xs⟩
theorem Jf (N:List Tx)(x:RItem)(c:List AV)(hc:PI N x c)(ho:x.out=true->x.body=[])(hn:x.body.length<=1000)(y:St):ACalls Tryz.prog 133 [ag c] y fun r y'=>∃id cs,r=sl id (Ae x).length cs/\EL (PC N) (Ae x) cs/\Keep y y':=by
 by_cases hout:x.out=true
 ·refine (mC N x c hc hout y).mono fun r y' h=>?_;obtain⟨rfl,h⟩:=h;exact⟨1,[],by simp[Ae,hout,ho hout],by simp[Ae,hout,ho hout,EL],h⟩
 ·have hout:x.out=false:=by simpa using hout
  refine (ACalls.freeze (sC N x c hc hout hn y)).mono fun r y' h=>?_;obtain⟨n,cs,rfl,⟨rfl,h1⟩,h2⟩:=h;exact⟨0,cs,rfl,h1,h2⟩
theorem Fy {ts:List Tx}{k:Nat}{w:Tx}(h:ts[k]?=some w):∃r,(Au ts).drop (k*2)=sc (.bool (Ak w).1)::sc (.int .i64 (Ak w).2)::r:=by
 have hE:∀ts:List Tx,EL (fun w c=>c=Ri w) ts (Au ts):=by
  intro ts;induction ts with
  |nil=>rfl
  |cons a l ih=>exact⟨Ri a,Au l,rfl,ih,by simp[Au]⟩
 obtain⟨c,r,rfl,e⟩:=EL.get (z:=2) (fun a c h=>by rw[h];rfl) (hE ts) h;exact⟨r,e⟩
theorem My {p:Nat->Bool}{i:Nat}(h:∀j,j<i->p j=false)(hi:p i=false):∀j,j<i+1->p j=false:=fun j hj=>by
 by_cases e:j=i
 ·rw[e];exact hi
 ·exact h j Aj6
def Oi (v:Int)(w:Tx):Bool:=(Ak w).1&&(Ak w).2==v
def iV (a:RAtom)(v:Int)(i:Nat):Bool:=match a.terms[i]? with|some w=>Oi v w|none=>false
theorem gB (k:Int)(ids:Nat)(a:RAtom)(v:Int)(hn:a.terms.length<=1000)(y:St):ACalls Tryz.prog 217 [ag [sc (.int .i64 k),sl ids a.terms.length (Au a.terms)],sc (.int .i64 v)] y fun r y'=>r=sc (.int .i64 (Bh (iV a v) a.terms.length))/\Keep y y':=by
 have aj:=Et a.terms;refine Z9 25 [.tmp 4] Tryz.func217 ?_
 repeat' (first|refine Z1 ?_|(refine Z8 ?_;intro yb ya)|(refine Z4 ?_;clear ya yb)|refine Z3 ?_|exact Zt|(apply ya.out;clear ya yb))
 refine Af (fun m s y'=>∃i:Nat,m=a.terms.length-i/\i<=a.terms.length/\s 1=sc (.int .i64 v)/\s 8=sl ids a.terms.length (Au a.terms)/\s 9=sc (.int .i64 a.terms.length)/\s 10=sc (.int .i64 i)/\Keep y y'/\Akc (∀j,j<i->iV a v j=false)) a.terms.length
  ⟨0,Aj6,Aj6,rfl,rfl,rfl,rfl,Xs,fun j hj=>Aj6⟩ ?_
 rintro m s y' ⟨i,rfl,hi,h1,h8,h9,ak,hK,ab⟩;by_cases ae:i<a.terms.length
 ·have aa:=Agz ae;obtain⟨r,hd⟩:=Fy aa;generalize a.terms[i]=w at hd aa;have hv:Akc (iV a v i=Oi v w):=by rw[Akc,iV,aa]
  clear aa;have ai:=hK.nobj;generalize ah:(Ak w).1=w1 at hd;generalize af:(Ak w).2=w2 at hd;have ad:Akc (Oi v w=(w1&&w2==v)):=by rw[Akc,Oi,ah,af]
  clear ah af
  repeat' (first|refine Z1 ?_|(refine Z8 ?_;intro yb ya)|(refine Z4 ?_;clear ya yb)|(refine Z2 ?_ ?_<;>intro h ac<;>try exact Xp)|refine Z3 ?_|exact Zt|(apply ya.out;clear ya yb))
  ·exact⟨_,rfl,by rw[Kw ae (by rw[hv.out,ad.out];simp[*]) ab.out],Xs⟩
  all_goals exact⟨a.terms.length-(i+1),Aj6,i+1,rfl,Aj6,by simp,Xs,My ab.out (by rw[hv.out,ad.out];simp[*])⟩
 ·have hil:i=a.terms.length:=Aj6;subst hil
  repeat' (first|refine Z1 ?_|(refine Z8 ?_;intro yb ya)|(refine Z4 ?_;clear ya yb)|(refine Z2 ?_ ?_<;>intro h ac<;>try exact Xp)|refine Z3 ?_|exact Zt|(apply ya.out;clear ya yb))
  first|exact⟨_,rfl,by rw[Cu ab.out],hK⟩|exact⟨_,rfl,by rw[Cu ab.out]⟩
theorem mX {α:Type}(l:List α)(q:α->Bool)(p:Nat->Bool)(hp:∀i,p i=match l[i]? with|some w=>q w|none=>false):(decide (Bh p l.length≠ -1))=l.any q:=by
 by_cases h:l.any q=true
 ·rw[h];rw[Ahz]at h;obtain⟨w,hw,hq⟩:=h;obtain⟨i,hi,he⟩:=List.getElem_of_mem hw;by_cases hN:Bh p l.length= -1
  ·exfalso;unfold Bh at hN;split at hN
   ·omega
   ·rename_i hf;rw[Ah1]at hf;have:=hf i (by simpa using hi);rw[hp,Agz hi,he]at this;simp[hq]at this
  ·simpa using hN
 ·have h:l.any q=false:=by simpa using h
  rw[h,Cu (fun i hi=>by
   rw[hp,Agz hi];rw[Aim]at h
   simpa using h l[i] (Ain hi))]
  simp
theorem sA (k:Int)(ids:Nat)(a:RAtom)(v:Int)(hn:a.terms.length<=1000)(y:St):ACalls Tryz.prog 232 [ag [sc (.int .i64 k),sl ids a.terms.length (Au a.terms)],sc (.int .i64 v)] y fun r y'=>r=sc (.bool (a.terms.any (Oi v)))/\Keep y y':=by
 have hF:=mX a.terms (Oi v) (iV a v) (fun i=>by unfold iV;cases a.terms[i]?<;>rfl);refine Z9 9 [.tmp 4] Tryz.func232 ?_
 repeat' (first|refine Z1 ?_|(refine Z8 ?_;intro yb ya)|(refine Z4 ?_;clear ya yb)|(refine Z5 ?_;refine Xi (gB _ _ a v hn _) ?_;rintro _ _ ⟨rfl,aa⟩)|refine Z3 ?_|exact Zt|(apply ya.out;clear ya yb))
 refine⟨_,rfl,?_,Xs⟩;rw[<-hF,show (Bh (iV a v) a.terms.length != -1)=decide (Bh (iV a v) a.terms.length≠ -1)from by rw[Aio];simp]
def Fh (x:RItem)(v:Int):Bool:=x.body.any fun a=>!a.nt&&a.terms.any (Oi v)
theorem gH (N:List Tx)(x:RItem)(c:List AV)(v:Int)(hc:PI N x c)(hx:x.fits)(y:St):ACalls Tryz.prog 192 [ag c,sc (.int .i64 v)] y fun r y'=>r=sc (.bool (Fh x v))/\Keep y y':=by
 obtain⟨hm,ih,id,b,hb,rfl⟩:=hc;have ak:=EL.length Ds hb;obtain⟨aj,ai,af⟩:=hx;refine Z9 24 [.tmp 4] Tryz.func192 ?_
 repeat' (first|refine Z1 ?_|(refine Z8 ?_;intro yb ya)|(refine Z4 ?_;clear ya yb)|refine Z3 ?_|exact Zt|(apply ya.out;clear ya yb))
 refine Af (fun m s y'=>∃i:Nat,m=x.body.length-i/\i<=x.body.length/\s 1=sc (.int .i64 v)/\s 8=sl id x.body.length b/\s 9=sc (.int .i64 x.body.length)/\s 10=sc (.int .i64 i)/\Keep y y'/\Akc ((x.body.take i).any (fun a=>!a.nt&&a.terms.any (Oi v))=false)) x.body.length
  ⟨0,Aj6,Aj6,rfl,rfl,rfl,rfl,Xs,by simp[Akc]⟩ ?_
 rintro m s y' ⟨i,rfl,hi,h1,h8,h9,an,hK,ab⟩;by_cases ae:i<x.body.length
 ·have aa:=Agz ae;have ad:=af x.body[i] (Ain ae);obtain⟨ha,ia,r,hd⟩:=Ml hb aa;generalize x.body[i]=a at hd aa ha ad;have HG:Akc (x.body[i]?=some a):=aa;clear aa;have ah:=hK.nobj
  repeat' (first|refine Z1 ?_|(refine Z8 ?_;intro yb ya)|(refine Z4 ?_;clear ya yb)|(refine Z2 ?_ ?_<;>intro h ac<;>try exact Xp)|(refine Z5 ?_;refine Xi (sA _ _ a v ad _) ?_;rintro _ _ ⟨rfl,am⟩)|refine Z3 ?_|exact Zt|(apply ya.out;clear ya yb))
  ·exact⟨_,rfl,by rw[Fh,S7 _ HG.out (by simp[*])],Xs⟩
  all_goals
   refine⟨x.body.length-(i+1),Aj6,i+1,rfl,Aj6,by simp,Xs,?_⟩;rw[Akc,any_take_succ _ HG.out,ab.out];simp[*]
 ·have hil:i=x.body.length:=Aj6;subst hil;rw[Ag7]at ab
  repeat' (first|refine Z1 ?_|(refine Z8 ?_;intro yb ya)|(refine Z4 ?_;clear ya yb)|(refine Z2 ?_ ?_<;>intro h ac<;>try exact Xp)|refine Z3 ?_|exact Zt|(apply ya.out;clear ya yb))
  first|exact⟨_,rfl,by rw[Fh,ab.out],hK⟩|exact⟨_,rfl,by rw[Fh,ab.out]⟩
def Eb (x:RItem):Bool:=!(Ae x).any fun a=>a.terms.any fun w=>(Ak w).1&&!Fh x (Ak w).2
theorem Uv (N:List Tx)(x:RItem)(c:List AV)(hc:PI N x c)(ho:x.out=true->x.body=[])(hx:x.fits)(y:St):ACalls Tryz.prog 146 [ag c] y fun r y'=>r=sc (.bool (Eb x))/\Keep y y':=by
 have hA:=Jf N x c hc ho (by have:=hx.1;omega);have hB:=fun v=>gH N x c v hc hx;obtain⟨hm,ih,id,b,hb,rfl⟩:=hc;have a4:=EL.length Ds hb;have a5:=hx.atoms;have az:∀a∈Ae x,a.terms.length<=1000:=by
  intro a ha;unfold Ae at ha;rcases Ah8.1 ha with h|h
  ·split at h
   ·cases h
   ·simp at h;subst h;exact hx.2.1
  ·exact hx.2.2 a h
 refine Z9 32 [.tmp 2] Tryz.func146 ?_
 repeat' (first|refine Z1 ?_|(refine Z8 ?_;intro yb ya)|(refine Z4 ?_;clear ya yb)|(refine Z5 ?_;refine Xi (hA _) ?_;rintro _ _ ⟨ida,cs,rfl,hE,af⟩;(have ad:=af.obj;have ah:=af.nobj;(try simp only[Aa,Ab,Aw]at ah)))|refine Z3 ?_|exact Zt|(apply ya.out;clear ya yb))
 rename_i y1;have a3:=EL.length Wo hE;have ap:y1.obj y.nobj=[sc (.bool x.out),sc (.int .i64 (N.idxOf x.head.pred:Nat)),sl ih x.head.terms.length (Au x.head.terms),sl id x.body.length b]:=by rw[ad _ (by rw[Aa];omega),Ao]
 have af:Keep (y.new [sc (.bool x.out),sc (.int .i64 (N.idxOf x.head.pred:Nat)),sl ih x.head.terms.length (Au x.head.terms),sl id x.body.length b]) y1:=af
 refine Af (fun m s y'=>∃i:Nat,m=(Ae x).length-i/\i<=(Ae x).length/\s 1=ptr y.nobj 0/\s 8=sl ida (Ae x).length cs/\s 9=sc (.int .i64 (Ae x).length)/\s 10=sc (.int .i64 i)/\Keep y1 y'/\Akc (((Ae x).take i).any (fun a=>a.terms.any fun w=>(Ak w).1&&!Fh x (Ak w).2)=false)) (Ae x).length
  ⟨0,Aj6,Aj6,rfl,rfl,rfl,rfl,Keep.refl _,by simp[Akc]⟩ ?_
 rintro m s y' ⟨i,rfl,hi,h1,h8,h9,am,hK,ai⟩;have an:=hK.nobj;have ae:y'.obj y.nobj=[sc (.bool x.out),sc (.int .i64 (N.idxOf x.head.pred:Nat)),sl ih x.head.terms.length (Au x.head.terms),sl id x.body.length b]:=by rw[hK.obj _ Aj6,ap]
 have a6:Keep y y1:=((Keep.refl y).new _).trans af;clear ad;by_cases au:i<(Ae x).length
 ·have aa:=Agz au;have ax:=az (Ae x)[i] (Ain au);obtain⟨ha,ia,r,hd⟩:=qX hE aa;generalize (Ae x)[i]=a at hd aa ha ax;have HG:Akc ((Ae x)[i]?=some a):=aa;clear aa;have a0:=Et a.terms
  repeat' (first|refine Z1 ?_|(refine Z8 ?_;intro yb ya)|(refine Z4 ?_;clear ya yb)|(refine Z2 ?_ ?_<;>intro h ac<;>try exact Xp)|refine Z3 ?_|exact Zt|(apply ya.out;clear ya yb))
  refine Af (fun m s y'=>∃j:Nat,m=a.terms.length-j/\j<=a.terms.length/\s 1=ptr y.nobj 0/\s 8=sl ida (Ae x).length cs/\s 9=sc (.int .i64 (Ae x).length)/\s 10=sc (.int .i64 i)/\s 15=sl ia a.terms.length (Au a.terms)/\s 16=sc (.int .i64 a.terms.length)/\s 17=sc (.int .i64 j)/\Keep y1 y'/\Akc ((a.terms.take j).any (fun w=>(Ak w).1&&!Fh x (Ak w).2)=false)) a.terms.length
   ⟨0,Aj6,Aj6,by simp[upd,h1],by simp[upd,h8],by simp[upd,h9],by simp[upd,am],rfl,rfl,rfl,(hK.new _).put hK.nobj _,by simp[Akc]⟩ ?_
  clear ae hK an h1 h8 h9 am;rintro m s y' ⟨j,rfl,hj,h1,h8,h9,am,ba,a9,a8,hK,ab⟩;have an:=hK.nobj;have ae:y'.obj y.nobj=[sc (.bool x.out),sc (.int .i64 (N.idxOf x.head.pred:Nat)),sl ih x.head.terms.length (Au x.head.terms),sl id x.body.length b]:=by rw[hK.obj _ Aj6,ap]
  by_cases aj:j<a.terms.length
  ·have aa:=Agz aj;obtain⟨r2,ak⟩:=Fy aa;generalize a.terms[j]=w at ak aa;have HW:Akc (a.terms[j]?=some w):=aa;clear aa;generalize aw:(Ak w).1=w1 at ak;generalize av:(Ak w).2=w2 at ak;have ao:Akc (((Ak w).1&&!Fh x (Ak w).2)=(w1&&!Fh x w2)):=by rw[Akc,aw,av]
   clear aw av
   repeat' (first|refine Z1 ?_|(refine Z8 ?_;intro yb ya)|(refine Z4 ?_;clear ya yb)|(refine Z2 ?_ ?_<;>intro h ac<;>try exact Xp)|(refine Z5 ?_;refine Xi (hB _ _) ?_;rintro _ _ ⟨rfl,a7⟩)|refine Z3 ?_|exact Zt|(apply ya.out;clear ya yb))
   ·exact⟨_,rfl,by rw[Eb,S7 _ HG.out (S7 _ HW.out (by rw[ao.out];simp[*]))];rfl,Xs⟩
   all_goals
    refine⟨a.terms.length-(j+1),Aj6,j+1,rfl,Aj6,by simp,Xs,?_⟩;rw[Akc,any_take_succ _ HW.out,ab.out,ao.out];simp[*]
  ·have ay:j=a.terms.length:=Aj6;subst ay;rw[Ag7]at ab
   repeat' (first|refine Z1 ?_|(refine Z8 ?_;intro yb ya)|(refine Z4 ?_;clear ya yb)|(refine Z2 ?_ ?_<;>intro h ac<;>try exact Xp)|refine Z3 ?_|exact Zt|(apply ya.out;clear ya yb))
   refine⟨(Ae x).length-(i+1),Aj6,i+1,rfl,Aj6,by simp,?_⟩;rw[Akc,any_take_succ _ HG.out,ai.out,ab.out];rfl
 ·have hil:i=(Ae x).length:=Aj6;subst hil;rw[Ag7]at ai
  repeat' (first|refine Z1 ?_|(refine Z8 ?_;intro yb ya)|(refine Z4 ?_;clear ya yb)|(refine Z2 ?_ ?_<;>intro h ac<;>try exact Xp)|refine Z3 ?_|exact Zt|(apply ya.out;clear ya yb))
  exact⟨_,rfl,by rw[Eb,ai.out];rfl,Xs⟩
end Go.Proofs.YtmoeoppbmhfbpabGreatDoorL
