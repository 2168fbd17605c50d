import Derived.Test.YtmoeoppbmhfbpaaGreatDoorDProgC
import Derived.Test.YtmoeoppbmhfbpaaGreatDoorDGram
set_option maxHeartbeats 16000000
set_option maxRecDepth 100000
set_option linter.all false
namespace Go.Proofs.YtmoeoppbmhfbpaaGreatDoorD
open Go.Abs
variable {Bd:Nat}
structure PA (N:List Tx)(a:RAtom)(k:Int)(n:Nat)(c:List AV):Prop where
 mem:a.pred∈N
 idx:k=(N.idxOf a.pred:Nat)
 len:n=a.terms.length
 cells:c=A0 a.terms
theorem rP (nt:Bool)(s:Tx):Ds nt s=(Ej s).bnd fun p r=>(Az 40 r).bnd fun _ r=>(D1 r).bnd fun ts r=>(Az 41 r).bnd fun _ r=>.got {nt:=nt,pred:=p,terms:=ts} r:=by
 unfold Ds Ur D1 Rn;cases Ej s with
 |bad e=>rfl
 |got p r=>
  simp only[Rd.bnd];cases Az 40 r with
  |bad e=>rfl
  |got u r=>
   simp only[Rd.bnd];cases Cp r with
   |bad e=>rfl
   |got w r=>
    simp only[Rd.bnd];cases Dr Cp 2 r<;>rfl
theorem T7 (nt:Bool){t:Tx}{o:Nat}{N:List Tx}{id:Nat}{s:Tx}{y:St}(ht:t.length<=1000)(hR:RS Bd t o N id s y):
  ACalls Tryz.prog 124 [ptr o 0] y fun x y'=>∃k n ids c N' id',x=tp [ag [sc (.int .i64 k),sl ids n c],sc (.bool (Ds nt s).ok)]/\Rs o y id y' id'/\RS Bd t o N' id' (Ds nt s).rest y'/\N<+:N'/\Rd.Val (Ds nt s) fun a=>PA N' a k n c:=by
 have hn:=hR.lt;rw[rP];refine Z9 34 [.cell 2 94,.tmp 3] Tryz.func124 ?_
 repeat' first|refine Z1 ?_|refine Z8 fun ya J=>?_|refine Z4 ?_;clear J ya|refine Z2 ?_ ?_<;>intro h aw<;>try exact Xp|(refine Z5 ?_;first|(refine Xi (Kv ht (Zr)) ?_;rintro _ _ ⟨k,N',id',rfl,am,aj,ae,ak⟩;(have ai:=am.keep.nobj;(try simp only[Aa,Ac,Ax]at ai);have av:=am.keep.obj))|(refine Xi (I6 ht (by assumption)) ?_;rintro _ _ ⟨rfl,an,aa⟩;(have ah:=an.nobj;(try simp only[Aa,Ac,Ax]at ah);have au:=an.obj))|(refine Xi (fU ht (by assumption)) ?_;rintro _ _ ⟨n,ids,c,rfl,ao,ab,ad⟩;(have af:=ao.nobj;(try simp only[Aa,Ac,Ax]at af);have ap:=ao.obj)))|refine Z3 ?_|exact Zt|apply J.out;clear J ya
 ·obtain⟨e,he⟩:=Rd.ok_false h;rw[he]at aj⊢;simp only[Rd.rest]at aj;exact⟨_,rfl,0,0,1,[],N',id',rfl,Zu,by show RS Bd t o N' id' e _;exact Zr,ae,trivial⟩
 ·obtain⟨p,r,he⟩:=Rd.ok_true (show (Ej s).ok=true by assumption);rw[he]at aj aa h⊢;rw[show (Rd.got p r).rest=r from rfl]at h aa;obtain⟨e,hb⟩:=Rd.ok_false h;rw[hb]at aa;simp only[Rd.rest]at aa;simp only[Rd.bnd,hb];exact⟨_,rfl,0,0,1,[],N',id',rfl,Zu,by show RS Bd t o N' id' e _;exact Zr,ae,trivial⟩
 ·obtain⟨p,r,he⟩:=Rd.ok_true (show (Ej s).ok=true by assumption);have ac:(Az 40 (Ej s).rest).ok=true:=by assumption
  rw[he]at ac ab h⊢;rw[show (Rd.got p r).rest=r from rfl]at ac h ab;obtain⟨u,r2,hb⟩:=Rd.ok_true ac;rw[hb]at h ab;rw[show (Rd.got u r2).rest=r2 from rfl]at h ab;obtain⟨e,hc⟩:=Rd.ok_false h;rw[hc]at ab;simp only[Rd.rest]at ab;simp only[Rd.bnd,hb,hc];exact⟨_,rfl,0,0,1,[],N',id',rfl,Zu,by show RS Bd t o N' id' e _;exact Zr,ae,trivial⟩
 ·obtain⟨p,r,he⟩:=Rd.ok_true (show (Ej s).ok=true by assumption);have ac:(Az 40 (Ej s).rest).ok=true:=by assumption
  rw[he]at ac ab h aa ad ak⊢;rw[show (Rd.got p r).rest=r from rfl]at ac h ab aa ad;obtain⟨u,r2,hb⟩:=Rd.ok_true ac;rw[hb]at h ab aa ad;rw[show (Rd.got u r2).rest=r2 from rfl]at h ab aa ad;obtain⟨ts,r3,hc⟩:=Rd.ok_true h;rw[hc]at ab aa ad;rw[show (Rd.got ts r3).rest=r3 from rfl]at ab aa;obtain⟨v1,v2⟩:p∈N'/\k=(N'.idxOf p:Nat):=ak;obtain⟨v3,v4⟩:n=ts.length/\c=A0 ts:=ad;simp only[Rd.bnd,hb,hc];cases hd:Az 41 r3 with
  |bad e=>
   rw[hd]at aa;simp only[Rd.rest]at aa;exact⟨_,rfl,k,n,ids,c,N',id',by simp only[Rd.rest,hb,hc,hd,Rd.ok,Rd.bnd],Zu,by show RS Bd t o N' id' e _;exact Zr,ae,trivial⟩
  |got u2 r4=>
   rw[hd]at aa;simp only[Rd.rest]at aa;exact⟨_,rfl,k,n,ids,c,N',id',by simp only[Rd.rest,hb,hc,hd,Rd.ok,Rd.bnd],Zu,by show RS Bd t o N' id' r4 _;exact Zr,ae,⟨v1,v2,v3,v4⟩⟩
theorem pF (s:Tx):Jr s=Ds (Az 33 s).ok (Az 33 s).rest:=by
 cases s with
 |nil=>rfl
 |cons b r=>
  unfold Jr Az;dsimp only;split<;>rfl
theorem M6 {t:Tx}{o:Nat}{N:List Tx}{id:Nat}{s:Tx}{y:St}(ht:t.length<=1000)(hR:RS Bd t o N id s y):
  ACalls Tryz.prog 242 [ptr o 0] y fun x y'=>∃b k n ids c N' id',x=tp [ag [sc (.bool b),sc (.int .i64 k),sl ids n c],sc (.bool (Jr s).ok)]/\Rs o y id y' id'/\RS Bd t o N' id' (Jr s).rest y'/\N<+:N'/\Rd.Val (Jr s) fun a=>b=a.nt/\PA N' a k n c:=by
 have hn:=hR.lt;rw[pF];refine Z9 18 [.cell 2 164,.tmp 3] Tryz.func242 ?_
 repeat' first|refine Z1 ?_|refine Z8 fun ya J=>?_|refine Z4 ?_;clear J ya|refine Z2 ?_ ?_<;>intro h ai<;>try exact Xp|(refine Z5 ?_;first|(refine Xi (I6 ht (Zr)) ?_;rintro _ _ ⟨rfl,ae,ak⟩;(have aa:=ae.nobj;(try simp only[Aa,Ac,Ax]at aa);have af:=ae.obj))|(refine Xi (T7 (Az 33 s).ok ht (by assumption)) ?_;rintro _ _ ⟨k,n,ids,c,N',id',rfl,ad,am,aj,ac⟩;(have ab:=ad.keep.nobj;(try simp only[Aa,Ac,Ax]at ab);have ah:=ad.keep.obj)))|refine Z3 ?_|exact Zt|apply J.out;clear J ya
 refine⟨_,rfl,(Az 33 s).ok,k,n,ids,c,N',id',rfl,Zu,Zr,aj,?_⟩;cases hp:Ds (Az 33 s).ok (Az 33 s).rest with
 |bad e=>trivial
 |got a r=>
  rw[hp]at ac;exact⟨(H4 hp).2.2.symm,ac⟩
def PL (N:List Tx)(a:RAtom)(c:List AV):Prop:=a.pred∈N/\∃ids,c=[sc (.bool a.nt),sc (.int .i64 (N.idxOf a.pred:Nat)),sl ids a.terms.length (A0 a.terms)]
theorem Fe {N:List Tx}(a:RAtom)(c:List AV)(h:PL N a c):c.length=3:=by obtain⟨-,ids,rfl⟩:=h;rfl
theorem PL.mono {N N':List Tx}(hN:N<+:N')(a:RAtom)(c:List AV)(h:PL N a c):PL N' a c:=by
 obtain⟨hm,ids,rfl⟩:=h;exact⟨hN.subset hm,ids,by rw[bY hN hm]⟩
theorem PL.of {N:List Tx}{a:RAtom}{b:Bool}{k:Int}{n:Nat}{ids:Nat}{c:List AV}(hb:b=a.nt)(h:PA N a k n c):PL N a [sc (.bool b),sc (.int .i64 k),sl ids n c]:=by
 obtain⟨h1,rfl,rfl,rfl⟩:=h;subst hb;exact⟨h1,ids,rfl⟩
def PI (N:List Tx)(x:RItem)(c:List AV):Prop:=x.head.pred∈N/\∃ih id b,EL (PL N) x.body b/\c=[sc (.bool x.out),sc (.int .i64 (N.idxOf x.head.pred:Nat)),sl ih x.head.terms.length (A0 x.head.terms),sl id x.body.length b]
theorem Gg {N:List Tx}(x:RItem)(c:List AV)(h:PI N x c):c.length=4:=by obtain⟨-,ih,id,b,-,rfl⟩:=h;rfl
theorem PI.mono {N N':List Tx}(hN:N<+:N')(x:RItem)(c:List AV)(h:PI N x c):PI N' x c:=by
 obtain⟨hm,ih,id,b,hb,rfl⟩:=h;exact⟨hN.subset hm,ih,id,b,hb.mono (PL.mono hN),by rw[bY hN hm]⟩
variable {Bd:Nat}
def H5 (s:Tx):Rd Unit:=(Az 58 s).bnd fun _ r=>Az 45 r
theorem fG {t:Tx}{o:Nat}{N:List Tx}{id:Nat}{s:Tx}{y:St}(ht:t.length<=1000)(hR:RS Bd t o N id s y):
  ACalls Tryz.prog 204 [ptr o 0] y fun x y'=>x=sc (.bool (H5 s).ok)/\KeepX o y y'/\RS Bd t o N id (H5 s).rest y':=by
 unfold H5;refine Z9 8 [.tmp 2] Tryz.func204 ?_
 repeat' first|refine Z1 ?_|refine Z8 fun ya J=>?_|refine Z4 ?_;clear J ya|refine Z2 ?_ ?_<;>intro h ac<;>try exact Xp|refine Z5 ?_;refine Xi (I6 ht (by assumption)) ?_;rintro _ _ ⟨rfl,ab,aa⟩|refine Z3 ?_|exact Zt|apply J.out;clear J ya
 ·obtain⟨e,he⟩:=Rd.ok_false h;rw[he]at aa⊢
  first|exact⟨_,rfl,rfl,ab,aa⟩|exact⟨_,rfl,rfl,aa⟩|exact⟨_,rfl,ab,aa⟩
 ·obtain⟨u,r,he⟩:=Rd.ok_true h;rw[he]at aa⊢
  first|exact⟨_,rfl,rfl,Zs,aa⟩|exact⟨_,rfl,rfl,aa⟩|exact⟨_,rfl,Zs,aa⟩
theorem nB {σ0 y2:St}{id1 id2 ids n:Nat}(h:id1=1\/id1≠ids)(hO:Own σ0 y2 ids n)(hn:0<n)(hs:id2=id1\/y2.ntop+2<=id2):id2=1\/id2≠ids:=by
 rcases hO with⟨-,rfl⟩|⟨k,h1,h2,h3,h4,h5⟩<;>omega
theorem V2 {σ0 y2:St}{id1 ids n:Nat}(h:id1=1\/id1≠ids)(hO:Own σ0 y2 ids n):ids=1\/ids≠id1:=by
 rcases hO with⟨h1,rfl⟩|⟨k,h1,h2,h3,h4,h5⟩<;>omega
theorem OwnN.fresh {y:St}{id n:Nat}(h:OwnN y id n):id=1\/id≠y.ntop+2:=by
 rcases h with⟨rfl,-⟩|⟨k,h1,h2,-⟩<;>omega
theorem aN {X:St}{id3 ids idn n:Nat}(h:OwnN X id3 n)(hap:id3=1\/id3≠ids)(hid:idn=ids\/X.ntop+2<=idn):id3=1\/id3≠idn:=by
 rcases h with⟨rfl,-⟩|⟨k,h1,h2,-⟩<;>omega
abbrev D5 (s:Tx):Rd (List RAtom):=Rn Jr 4 s
theorem lH {t:Tx}{o:Nat}{N:List Tx}{id:Nat}{s:Tx}{y:St}(ht:t.length<=1000)(hR:RS Bd t o N id s y):
  ACalls Tryz.prog 205 [ptr o 0] y fun x y'=>∃n ids c N' id',x=tp [sl ids n c,sc (.bool (D5 s).ok)]/\Rs o y id y' id'/\RS Bd t o N' id' (D5 s).rest y'/\N<+:N'/\Rd.Val (D5 s) fun ls=>n=ls.length/\EL (PL N') ls c:=by
 have hn:=hR.lt;refine Z9 37 [.tmp 2,.tmp 3] Tryz.func205 ?_
 repeat' first|refine Z1 ?_|refine Z8 fun ya J=>?_|refine Z4 ?_;clear J ya|refine Z2 ?_ ?_<;>intro h ad<;>try exact Xp|refine Z5 ?_;refine Xi (M6 ht hR) ?_;rintro _ _ ⟨b,k,n,ia,c,N1,id1,rfl,ao,ab,av,a3⟩;(have ac:=ao.keep.nobj)|refine Z3 ?_|exact Zt|apply J.out;clear J ya
 ·rename_i y1;obtain⟨e,he⟩:=Rd.ok_false h;have hp:=sepI.none (n:=4) he;rw[he]at ab;simp only[Rd.rest]at ab;refine⟨_,rfl,0,1,[],N1,id1,by rw[D5,hp];rfl,Zu,?_,av,by rw[D5,hp];trivial⟩;rw[D5,hp];show RS Bd t o N1 id1 e _;exact Zr
 ·rename_i y1;obtain⟨w,q,he⟩:=Rd.ok_true h;have hp:=sepI.first (n:=4) he;rw[he]at ab a3;obtain⟨hb,hA⟩:b=w.nt/\PA N1 w k n c:=a3;have ab:RS Bd t o N1 id1 q y1:=ab;have hC:PL N1 w [sc (.bool b),sc (.int .i64 k),sl ia n c]:=PL.of hb hA;have ak:[sc (.bool b),sc (.int .i64 k),sl ia n c].length=3:=rfl;generalize az:[sc (.bool b),sc (.int .i64 k),sl ia n c]=cw at hC ak
  refine Ad (fun m s' y'=>∃(ls:List RAtom) (q:Tx) (ids:Nat) (d:List AV) (N2:List Tx) (id2:Nat),m=5-ls.length/\s' 0=ptr o 0/\s' 6=sl ids ls.length d/\Rs o y id y' id2/\RS Bd t o N2 id2 q y'/\Own y y' ids ls.length/\Agt (id2=1\/id2≠ids)/\N<+:N2/\0<ls.length/\ls.length<=5/\d.length=ls.length*3/\Agt (EL (PL N2) ls d)/\Agt (sepI Jr 4 s ls q)) 4
   ⟨[w],q,_,cw,N1,id1,rfl,rfl,by rw[<-az];rfl,Zu,Zr,Own.made' (b:=(y1.new _).put _ _) ao.keep.ntop (by decide),ab.own.fresh,av,by simp,by simp,by simpa using ak,EL.single hC,hp⟩ ?_
  clear ao ab ac hp he h hC az ak hA hb av;rintro m s' y' ⟨ls,q,ids,d,N2,id2,rfl,h0,h6,hS,hR2,hO,hap,af,a7,bg,a8,hE,hI⟩;have be:=hS.keep.nobj;by_cases bf:ls.length<5
  ·repeat' first|refine Z1 ?_|refine Z8 fun ya J=>?_|refine Z4 ?_;clear J ya|refine Z2 ?_ ?_<;>intro h ad<;>try exact Xp|(refine Z5 ?_;first|(refine Xi (I6 ht (by assumption)) ?_;rintro _ _ ⟨rfl,ax,ap⟩;(have ac:=ax.nobj))|(refine Xi (M6 ht (by assumption)) ?_;rintro _ _ ⟨b,k,n,ia,c,N3,id3,rfl,an,aa,au,aj⟩;(have a6:=an.keep.nobj)))|refine Z3 ?_|exact Zt|apply J.out;clear J ya
   ·rename_i y2 am _ y3;obtain⟨u,r,hb⟩:=Rd.ok_true am;rw[hb]at h aa;obtain⟨e,he⟩:=Rd.ok_false h;rw[show (Rd.got u r).rest=r from rfl]at he aa;have hp:=hI.out.fail Agm hb he;rw[he]at aa;simp only[Rd.rest]at aa;refine⟨_,rfl,0,1,[],N3,id3,by rw[D5,hp];rfl,Zu,?_,af.trans au,by rw[D5,hp];trivial⟩;rw[D5,hp];show RS Bd t o N3 id3 e _;exact Zr
   ·rename_i y2 am _ y3;obtain⟨u,r,hb⟩:=Rd.ok_true am;rw[hb]at h aa aj;obtain⟨x,r2,he⟩:=Rd.ok_true h;rw[show (Rd.got u r).rest=r from rfl]at he aa aj;have hp:=hI.out.next Agm hb he;rw[he]at aa aj;obtain⟨a0,hA⟩:b=x.nt/\PA N3 x k n c:=aj;have aa:RS Bd t o N3 id3 r2 y3:=aa;have hC:PL N3 x [sc (.bool b),sc (.int .i64 k),sl ia n c]:=PL.of a0 hA;have a4:Rs o y id ((y3.new [sc (.bool false),sc (.int .i64 0),nilS]).put y3.nobj [sc (.bool b),sc (.int .i64 k),sl ia n c]) id3:=Zu;have aw:=Own.keepX hO ax;have bb:=Own.keepR aw an.keep (V2 hap.out aw);have a9:Own y ((y3.new [sc (.bool false),sc (.int .i64 0),nilS]).put y3.nobj [sc (.bool b),sc (.int .i64 k),sl ia n c]) ids ls.length:=Own.put (Own.new bb _) _ _;have a5:RS Bd t o N3 id3 r2 ((y3.new [sc (.bool false),sc (.int .i64 0),nilS]).put y3.nobj [sc (.bool b),sc (.int .i64 k),sl ia n c]):=Zr;have ae:id3=1\/id3≠ids:=nB hap.out aw a7 an.nid;refine Qt (o:=o) (idn:=id) (σ0:=y) (by first|exact J9) a4.keep a9 (by decide) (by rfl) a8 (by rfl) (by rfl) (by decide) Agm Agm ?_;intro idn yn ba bc ay ai bd ah etop hid;refine Z3 ?_
    refine zz ?_
    refine⟨5-(ls++[x]).length,by simp;omega,ls++[x],r2,idn,d++[sc (.bool b),sc (.int .i64 k),sl ia n c],N3,id3,rfl,by simp[a0],⟨bc,a4.nid⟩,a5.app ay ai ah etop ae,by simpa using ba,aN a5.own ae hid,af.trans au,by simp,by simp;omega,by simp;omega,EL.append (hE.out.mono (PL.mono au)) (EL.single hC),hp⟩
   ·have hp:=hI.out.stop h;rename_i y2;rw[Jt h]at ap;simp only[Rd.rest]at ap;refine⟨_,rfl,_,ids,_,N2,id2,by rw[D5,hp];rfl,Zu,?_,af,by rw[D5,hp];exact⟨rfl,hE.out⟩⟩;rw[D5,hp];show RS Bd t o N2 id2 q _;exact Zr
  ·repeat' first|refine Z1 ?_|refine Z8 fun ya J=>?_|refine Z4 ?_;clear J ya|refine Z2 ?_ ?_<;>intro h ad<;>try exact Xp|refine Z5 ?_;refine Xi (I6 ht (by assumption)) ?_;rintro _ _ ⟨rfl,ax,ap⟩|refine Z3 ?_|exact Zt|apply J.out;clear J ya
   have hp:=hI.out.full Agm
   first
   |exact⟨_,rfl,_,ids,d,N2,id2,by rw[D5,hp];rfl,hS,by rw[D5,hp];exact hR2,af,by rw[D5,hp];exact⟨rfl,hE.out⟩⟩
   |exact⟨_,rfl,_,ids,d,N2,id2,by rw[D5,hp];rfl,by rw[D5,hp];exact hR2,af,by rw[D5,hp];exact⟨rfl,hE.out⟩⟩
variable {Bd:Nat}
def aR (Bd:Nat)(t:Tx)(o:Nat)(N:List Tx)(id:Nat)(y:St)(p:Rd RItem)(x:AV)(y':St):Prop:=
 ∃b k ih n c ib m d N' id',x=tp [ag [sc (.bool b),sc (.int .i64 k),sl ih n c,sl ib m d],sc (.bool p.ok)]/\Rs o y id y' id'/\RS Bd t o N' id' p.rest y'/\N<+:N'/\Rd.Val p fun it=>PI N' it [sc (.bool b),sc (.int .i64 k),sl ih n c,sl ib m d]
theorem bE {t:Tx}{o:Nat}{N:List Tx}{id:Nat}{s:Tx}{y:St}(ht:t.length<=1000)(hR:RS Bd t o N id s y):
  ACalls Tryz.prog 163 [ptr o 0] y (aR Bd t o N id y (bJ s)):=by
 have hn:=hR.lt;unfold bJ aR;refine Z9 20 [.cell 2 97,.tmp 3] Tryz.func163 ?_
 repeat' first|refine Z1 ?_|refine Z8 fun ya J=>?_|refine Z4 ?_;clear J ya|refine Z2 ?_ ?_<;>intro h am<;>try exact Xp|(refine Z5 ?_;first|(refine Xi (Kv ht (Zr)) ?_;rintro _ _ ⟨k,N',id',rfl,af,ah,ad,ae⟩;(have ac:=af.keep.nobj;(try simp only[Aa,Ac,Ax]at ac);have ak:=af.keep.obj))|(refine Xi (I6 ht (by assumption)) ?_;rintro _ _ ⟨rfl,ai,aa⟩;(have ab:=ai.nobj;(try simp only[Aa,Ac,Ax]at ab);have aj:=ai.obj)))|refine Z3 ?_|exact Zt|apply J.out;clear J ya
 ·obtain⟨e,he⟩:=Rd.ok_false h;rw[he]at ah⊢;simp only[Rd.rest]at ah;exact⟨_,rfl,false,0,1,0,[],1,0,[],N',id',rfl,Zu,by show RS Bd t o N' id' e _;exact Zr,ad,trivial⟩
 ·obtain⟨p,r,he⟩:=Rd.ok_true h;rw[he]at aa ae⊢;rw[show (Rd.got p r).rest=r from rfl]at aa⊢;obtain⟨v1,v2⟩:p∈N'/\k=(N'.idxOf p:Nat):=ae;simp only[Rd.bnd];cases hd:Az 46 r with
  |bad e=>
   rw[hd]at aa;simp only[Rd.rest]at aa;exact⟨_,rfl,true,k,1,0,[],1,0,[],N',id',rfl,Zu,by show RS Bd t o N' id' e _;exact Zr,ad,trivial⟩
  |got u2 r4=>
   rw[hd]at aa;simp only[Rd.rest]at aa;exact⟨_,rfl,true,k,1,0,[],1,0,[],N',id',rfl,Zu,by show RS Bd t o N' id' r4 _;exact Zr,ad,⟨v1,1,1,[],rfl,by rw[v2];rfl⟩⟩
theorem gS (h:RAtom)(r:Tx):Nb h r=if (Az 46 r).ok=true then .got {out:=false,head:=h,body:=[]} (Az 46 r).rest
  else (H5 r).bnd fun _ r=>(D5 r).bnd fun ls r=>(Az 46 r).bnd fun _ r=>.got {out:=false,head:=h,body:=ls} r:=by
 cases r with
 |nil=>rfl
 |cons b r=>
  have hx:Nb h (b::r)=if ((b.toNat:Int)==46)=true then .got {out:=false,head:=h,body:=[]} r else
   (Az 58 (b::r)).bnd fun _ r=>(Az 45 r).bnd fun _ r=>Q5 h r:=rfl
  rw[hx];by_cases hb:((b.toNat:Int)==46)=true
  ·have hp:Az 46 (b::r)= .got () r:=by unfold Az;dsimp only;rw[if_pos hb]
   rw[if_pos hb,hp];rfl
  ·have hp:Az 46 (b::r)= .bad (b::r):=by unfold Az;dsimp only;rw[if_neg hb]
   rw[if_neg hb,hp,if_neg (by simp[Rd.ok])];unfold H5 Q5 D5 Rn;rw[F0];congr 1;funext u r1;congr 1;funext u r2;rw[F0];congr 1;funext l r3;rw[F0];rfl
theorem lF {t:Tx}{o:Nat}{N:List Tx}{id:Nat}{s:Tx}{y:St}(ht:t.length<=1000)(hR:RS Bd t o N id s y):
  ACalls Tryz.prog 164 [ptr o 0] y (aR Bd t o N id y (Nc s)):=by
 have hn:=hR.lt;unfold Nc aR;simp only[gS];refine Z9 38 [.cell 2 97,.tmp 3] Tryz.func164 ?_
 repeat' first|refine Z1 ?_|refine Z8 fun ya J=>?_|refine Z4 ?_;clear J ya|refine Z2 ?_ ?_<;>intro h a4<;>try exact Xp|(refine Z5 ?_;first|(refine Xi (T7 false ht (Zr)) ?_;rintro _ _ ⟨k,n,ids,c,N',id',rfl,au,av,ah,aj⟩;(have ao:=au.keep.nobj;(try simp only[Aa,Ac,Ax]at ao);have a3:=au.keep.obj))|(refine Xi (I6 ht (Zr)) ?_;rintro _ _ ⟨rfl,aw,ab⟩;(have an:=aw.nobj;(try simp only[Aa,Ac,Ax]at an);have a0:=aw.obj))|(refine Xi (fG ht (by assumption)) ?_;rintro _ _ ⟨rfl,ax,af⟩;(have am:=ax.nobj;(try simp only[Aa,Ac,Ax]at am);have az:=ax.obj))|(refine Xi (lH ht (by assumption)) ?_;rintro _ _ ⟨m,ib,d,N2,id2,rfl,ap,ac,ai,ae⟩;(have ak:=ap.keep.nobj;(try simp only[Aa,Ac,Ax]at ak);have ay:=ap.keep.obj)))|refine Z3 ?_|exact Zt|apply J.out;clear J ya
 ·obtain⟨e,he⟩:=Rd.ok_false h;rw[he]at av⊢;simp only[Rd.rest]at av;exact⟨_,rfl,false,0,1,0,[],1,0,[],N',id',rfl,Zu,by show RS Bd t o N' id' e _;exact Zr,ah,trivial⟩
 ·obtain⟨a,r,he⟩:=Rd.ok_true (show (Ds false s).ok=true by assumption);rw[he]at h ab aj⊢;have h:(Az 46 r).ok=true:=h;have ab:RS Bd t o N' id' (Az 46 r).rest _:=ab;obtain⟨v1,v2,v3,v4⟩:PA N' a k n c:=aj;simp only[Rd.bnd,h,if_true];exact⟨_,rfl,false,k,ids,n,c,1,0,[],N',id',rfl,Zu,by show RS Bd t o N' id' (Az 46 r).rest _;exact Zr,ah,⟨v1,ids,1,[],rfl,by rw[v2,v3,v4];rfl⟩⟩
 ·obtain⟨a,r,he⟩:=Rd.ok_true (show (Ds false s).ok=true by assumption);have aa:(Az 46 (Ds false s).rest).ok=false:=by assumption
  rw[he]at h aa af⊢;have aa:(Az 46 r).ok=false:=aa;rw[show (Rd.got a r).rest=r from rfl,Jt aa]at h af;obtain⟨e,hA⟩:=Rd.ok_false (show (H5 r).ok=false from h);have af:RS Bd t o N' id' (H5 r).rest _:=af;rw[hA]at af;simp only[Rd.rest]at af;simp only[Rd.bnd,aa,hA,Aei,if_false];exact⟨_,rfl,false,0,1,0,[],1,0,[],N',id',rfl,Zu,by show RS Bd t o N' id' e _;exact Zr,ah,trivial⟩
 ·obtain⟨a,r,he⟩:=Rd.ok_true (show (Ds false s).ok=true by assumption);have aa:(Az 46 (Ds false s).rest).ok=false:=by assumption
  have ad:(H5 (Az 46 (Ds false s).rest).rest).ok=true:=by assumption
  rw[he]at h aa ad ac⊢;have aa:(Az 46 r).ok=false:=aa;rw[show (Rd.got a r).rest=r from rfl,Jt aa]at h ad ac;obtain⟨u,r2,hA⟩:=Rd.ok_true (show (H5 r).ok=true from ad);rw[show (Rd.bad r:Rd Unit).rest=r from rfl,hA]at h ac;obtain⟨e,hL⟩:=Rd.ok_false (show (D5 r2).ok=false from h);have ac:RS Bd t o N2 id2 (D5 r2).rest _:=ac;rw[hL]at ac;simp only[Rd.rest]at ac;simp only[Rd.bnd,aa,hA,hL,Aei,if_false];exact⟨_,rfl,false,0,1,0,[],1,0,[],N2,id2,rfl,Zu,by show RS Bd t o N2 id2 e _;exact Zr,ah.trans ai,trivial⟩
 ·obtain⟨a,r,he⟩:=Rd.ok_true (show (Ds false s).ok=true by assumption);have aa:(Az 46 (Ds false s).rest).ok=false:=by assumption
  have ad:(H5 (Az 46 (Ds false s).rest).rest).ok=true:=by assumption
  rw[he]at h aa ad ac aj ae ab⊢;have aa:(Az 46 r).ok=false:=aa;rw[show (Rd.got a r).rest=r from rfl,Jt aa]at h ad ac ae ab;obtain⟨u,r2,hA⟩:=Rd.ok_true (show (H5 r).ok=true from ad);rw[show (Rd.bad r:Rd Unit).rest=r from rfl,hA]at h ac ae ab;obtain⟨ls,r3,hL⟩:=Rd.ok_true (show (D5 r2).ok=true from h);have ac:RS Bd t o N2 id2 (D5 r2).rest _:=ac;have ab:RS Bd t o N2 id2 (Az 46 (D5 r2).rest).rest _:=ab;rw[show (Rd.got u r2).rest=r2 from rfl]at ae;rw[hL]at ac ab ae;obtain⟨v1,v2,v3,v4⟩:PA N' a k n c:=aj;obtain⟨w1,w2⟩:m=ls.length/\EL (PL N2) ls d:=ae;have ab:RS Bd t o N2 id2 (Az 46 r3).rest _:=ab;simp only[Rd.bnd,Rd.rest,Jt aa,aa,hA,hL,Aei,if_false];cases hd:Az 46 r3 with
  |bad e=>
   rw[hd]at ab;simp only[Rd.rest]at ab;exact⟨_,rfl,false,k,ids,n,c,ib,m,d,N2,id2,rfl,Zu,by show RS Bd t o N2 id2 e _;exact Zr,ah.trans ai,trivial⟩
  |got u2 r4=>
   rw[hd]at ab;simp only[Rd.rest]at ab;exact⟨_,rfl,false,k,ids,n,c,ib,m,d,N2,id2,rfl,Zu,by show RS Bd t o N2 id2 r4 _;exact Zr,ah.trans ai,⟨ai.subset v1,ids,ib,d,w2,by rw[v2,v3,v4,w1,bY ai v1]⟩⟩
theorem gW (s:Tx):E9 s=if (Az 63 s).ok=true then bJ (Az 63 s).rest else Nc (Az 63 s).rest:=by
 cases s with
 |nil=>rfl
 |cons b r=>
  unfold E9 Az;dsimp only;split<;>simp[Rd.ok,Rd.rest]
theorem lG {t:Tx}{o:Nat}{N:List Tx}{id:Nat}{s:Tx}{y:St}(ht:t.length<=1000)(hR:RS Bd t o N id s y):
  ACalls Tryz.prog 120 [ptr o 0] y (aR Bd t o N id y (E9 s)):=by
 have hn:=hR.lt;rw[gW];unfold aR;refine Z9 14 [.cell 2 97,.tmp 3] Tryz.func120 ?_
 repeat' first|refine Z1 ?_|refine Z8 fun ya J=>?_|refine Z4 ?_;clear J ya|refine Z2 ?_ ?_<;>intro h aj<;>try exact Xp|(refine Z5 ?_;first|(refine Xi (I6 ht (Zr)) ?_;rintro _ _ ⟨rfl,ah,am⟩;(have ad:=ah.nobj;(try simp only[Aa,Ac,Ax]at ad);have ai:=ah.obj))|(refine Xi (bE ht (by assumption)) ?_;rintro _ _ ⟨b,k,ih,n,c,ib,m,d,N',id',rfl,ab,ak,af,ae⟩;(have aa:=ab.keep.nobj;(try simp only[Aa,Ac,Ax]at aa);have ac:=ab.keep.obj))|(refine Xi (lF ht (by assumption)) ?_;rintro _ _ ⟨b,k,ih,n,c,ib,m,d,N',id',rfl,ab,ak,af,ae⟩;(have aa:=ab.keep.nobj;(try simp only[Aa,Ac,Ax]at aa);have ac:=ab.keep.obj)))|refine Z3 ?_|exact Zt|apply J.out;clear J ya
 all_goals exact⟨_,rfl,b,k,ih,n,c,ib,m,d,N',id',rfl,Zu,Zr,af,ae⟩
variable {Bd:Nat}
def itI (s:Tx)(xs:List RItem)(q:Tx):Prop:=xs.length<=16/\Bv 16 s=(Bv (16-xs.length) q).bnd fun ys r=>.got (xs++ys) r
theorem itI.start (s:Tx):itI s [] s:=by
 refine⟨by simp,?_⟩;simp only[Ael,Afe,Ae8];cases Bv 16 s<;>rfl
theorem Uo (n:Nat):Bv n []= .got [] []:=by cases n<;>rfl
theorem Q4 (b:UInt8)(r:Tx):Bv 0 (b::r)= .bad (b::r):=rfl
theorem Ln (n:Nat)(b:UInt8)(r:Tx):Bv (n+1) (b::r)=(E9 (b::r)).bnd fun x r=>(Bv n r).bnd fun xs r=>.got (x::xs) r:=rfl
theorem itI.done {s:Tx}{xs:List RItem}(h:itI s xs []):Bv 16 s= .got xs []:=by
 rw[h.2,Uo];simp[Rd.bnd]
theorem itI.full {s:Tx}{xs:List RItem}{b:UInt8}{r:Tx}(h:itI s xs (b::r))(hl:xs.length=16):Bv 16 s= .bad (b::r):=by
 rw[h.2,hl,Q4];rfl
theorem itI.fail {s:Tx}{xs:List RItem}{b:UInt8}{r e:Tx}(h:itI s xs (b::r))(hl:xs.length<16)(he:E9 (b::r)= .bad e):Bv 16 s= .bad e:=by
 obtain⟨k,hk⟩:∃k,16-xs.length=k+1:=⟨15-xs.length,Agm⟩;rw[h.2,hk,Ln,he];rfl
theorem itI.next {s:Tx}{xs:List RItem}{b:UInt8}{r r2:Tx}{x:RItem}(h:itI s xs (b::r))(hl:xs.length<16)(he:E9 (b::r)= .got x r2):itI s (xs++[x]) r2:=by
 obtain⟨k,hk⟩:∃k,16-xs.length=k+1:=⟨15-xs.length,Agm⟩;refine⟨by simp;omega,?_⟩;rw[h.2,hk,Ln,he,show 16-(xs++[x]).length=k by simp;omega];simp only[Rd.bnd];cases Bv k r2<;>simp
theorem jS {σ0 y2:St}{id1 id2 ids n:Nat}(h:id1=1\/id1≠ids)(hO:Own σ0 y2 ids n)(hs:id2=id1\/y2.ntop+2<=id2):id2=1\/id2≠ids:=by
 rcases hO with⟨h1,-⟩|⟨k,h1,h2,h3,h4,h5⟩<;>omega
theorem fV {t:Tx}{o:Nat}{N:List Tx}{id:Nat}{s:Tx}{y:St}(ht:t.length<=1000)(hR:RS Bd t o N id s y):
  ACalls Tryz.prog 70 [ptr o 0] y fun x y'=>∃n ids c N' id',x=tp [sl ids n c,sc (.bool (Bv 16 s).ok)]/\Rs o y id y' id'/\RS Bd t o N' id' (Bv 16 s).rest y'/\N<+:N'/\Rd.Val (Bv 16 s) fun xs=>n=xs.length/\EL (PI N') xs c:=by
 have hn:=hR.lt;have ay:OwnN y id N.length:=hR.own;refine Z9 33 [.tmp 2,.tmp 3] Tryz.func70 ?_
 refine zz ?_
 refine Ad (fun m s' y'=>∃(xs:List RItem) (q:Tx) (ids:Nat) (d:List AV) (N2:List Tx) (id2:Nat),m=16-xs.length/\s' 0=ptr o 0/\s' 4=sl ids xs.length d/\Rs o y id y' id2/\RS Bd t o N2 id2 q y'/\Own y y' ids xs.length/\Agt (id2=1\/id2≠ids)/\N<+:N2/\xs.length<=16/\d.length=xs.length*4/\Agt (EL (PI N2) xs d)/\Agt (itI s xs q)) 16
  ⟨[],s,1,[],N,id,rfl,rfl,rfl,Rs.refl _ _ _,hR,Own.nil _ _,by rcases ay with⟨e,-⟩|⟨k,e,-⟩;exact .inl e;exact .inr Agm,List.prefix_refl _,by simp,by simp,rfl,itI.start s⟩ ?_
 rintro m s' y' ⟨xs,q,ids,d,N2,id2,rfl,h0,h4,hS,hR2,hO,hap,aa,aw,ax,hE,hI⟩;have a7:=hS.keep.nobj;have a8:=hR2.lt;have ah:=hR2.obj;have am:=H3 hR2.suf;unfold M8 Y6 at ah
 refine zz ?_
 refine Aw Ag (fun _=>True) [9] [0,1,2,3,4,5,6,7,8] [9] Agp (fun _ _ _ h=>h) ?_;intro ya J;cases q with
 |nil=>
  simp only[Ael,Afe]at ah am;refine Z3 ?_
  repeat' first|refine Z1 ?_|refine Z8 fun ya J=>?_|refine Z4 ?_;clear J ya|refine Z2 ?_ ?_<;>intro h ab<;>try exact Xp|refine Z3 ?_|exact Zt|apply J.out;clear J ya
  have hp:=hI.out.done
  first
  |exact⟨_,rfl,_,ids,d,N2,id2,by rw[hp];rfl,hS,by rw[hp];exact hR2,aa,by rw[hp];exact⟨rfl,hE.out⟩⟩
  |exact⟨_,rfl,_,ids,d,N2,id2,by rw[hp];rfl,by rw[hp];exact hR2,aa,by rw[hp];exact⟨rfl,hE.out⟩⟩
 |cons b0 r0=>
  simp only[Aem]at ah am;refine Z3 ?_;by_cases an:xs.length<16
  ·repeat' first|refine Z1 ?_|refine Z8 fun ya J=>?_|refine Z4 ?_;clear J ya|refine Z2 ?_ ?_<;>intro h ab<;>try exact Xp|refine Z5 ?_;refine Xi (lG ht (by assumption)) ?_;rintro _ _ ⟨b,k,ih,n,c,ib,m,e,N3,id3,rfl,ai,ad,aj,ao⟩;(have av:=ai.keep.nobj)|refine Z3 ?_|exact Zt|apply J.out;clear J ya
   ·exfalso;simp at h;omega
   ·rename_i y3;obtain⟨e2,he⟩:=Rd.ok_false h;have hp:=hI.out.fail an he;rw[he]at ad;simp only[Rd.rest]at ad;refine⟨_,rfl,0,1,[],N3,id3,by rw[hp];rfl,Zu,?_,aa.trans aj,by rw[hp];trivial⟩;rw[hp];show RS Bd t o N3 id3 e2 _;exact Zr
   ·rename_i y3;obtain⟨x,r2,he⟩:=Rd.ok_true h;have hp:=hI.out.next an he;rw[he]at ad ao;have hC:PI N3 x [sc (.bool b),sc (.int .i64 k),sl ih n c,sl ib m e]:=ao;have ad:RS Bd t o N3 id3 r2 y3:=ad;have ap:Rs o y id ((y3.new [sc (.bool false),sc (.int .i64 0),nilS,nilS]).put y3.nobj [sc (.bool b),sc (.int .i64 k),sl ih n c,sl ib m e]) id3:=Zu;have a3:=Own.keepR hO ai.keep (V2 hap.out hO);have az:Own y ((y3.new [sc (.bool false),sc (.int .i64 0),nilS,nilS]).put y3.nobj [sc (.bool b),sc (.int .i64 k),sl ih n c,sl ib m e]) ids xs.length:=Own.put (Own.new a3 _) _ _;have au:RS Bd t o N3 id3 r2 ((y3.new [sc (.bool false),sc (.int .i64 0),nilS,nilS]).put y3.nobj [sc (.bool b),sc (.int .i64 k),sl ih n c,sl ib m e]):=Zr;have ac:id3=1\/id3≠ids:=jS hap.out hO ai.nid;refine Qt (o:=o) (idn:=id) (σ0:=y) (by first|exact La) ap.keep az (by decide) (by rfl) ax (by rfl) (by rfl) (by decide) Agm Agm ?_;intro idn yn a0 a4 ak af a6 ae etop hid;refine Z3 ?_
    refine zz ?_
    refine⟨16-(xs++[x]).length,by simp;omega,xs++[x],r2,idn,d++[sc (.bool b),sc (.int .i64 k),sl ih n c,sl ib m e],N3,id3,rfl,by simp,⟨a4,ap.nid⟩,au.app ak af ae etop ac,by simpa using a0,aN au.own ac hid,aa.trans aj,by simp;omega,by simp;omega,EL.append (hE.out.mono (PI.mono aj)) (EL.single hC),hp⟩
  ·have a5:xs.length=16:=Agm;have hp:=hI.out.full a5;have HP:Agt _:=hp;clear hp
   repeat' first|refine Z1 ?_|refine Z8 fun ya J=>?_|refine Z4 ?_;clear J ya|refine Z2 ?_ ?_<;>intro h ab<;>try exact Xp|refine Z3 ?_|exact Zt|apply J.out;clear J ya
   first
   |exact⟨_,rfl,0,1,[],N2,id2,by rw[HP.out];rfl,hS,by rw[HP.out];exact hR2,aa,by rw[HP.out];trivial⟩
   |exact⟨_,rfl,0,1,[],N2,id2,by rw[HP.out];rfl,by rw[HP.out];exact hR2,aa,by rw[HP.out];trivial⟩
def PC (N:List Tx)(a:RAtom)(c:List AV):Prop:=a.pred∈N/\∃ids,c=[sc (.int .i64 (N.idxOf a.pred:Nat)),sl ids a.terms.length (A0 a.terms)]
theorem cV {N:List Tx}(a:RAtom)(c:List AV)(h:PC N a c):c.length=2:=by obtain⟨-,ids,rfl⟩:=h;rfl
theorem Wb {N:List Tx}{l:List RAtom}{cs:List AV}{i:Nat}{a:RAtom}(h:EL (PL N) l cs)(hi:l[i]?=some a):a.pred∈N/\∃ia r,cs.drop (i*3)=sc (.bool a.nt)::sc (.int .i64 (N.idxOf a.pred:Nat))::sl ia a.terms.length (A0 a.terms)::r:=by
 obtain⟨c,r,⟨hm,ia,rfl⟩,e⟩:=EL.get Fe h hi;exact⟨hm,ia,r,e⟩
theorem yH {N:List Tx}{l:List RAtom}{cs:List AV}{i:Nat}{a:RAtom}(h:EL (PC N) l cs)(hi:l[i]?=some a):a.pred∈N/\∃ia r,cs.drop (i*2)=sc (.int .i64 (N.idxOf a.pred:Nat))::sl ia a.terms.length (A0 a.terms)::r:=by
 obtain⟨c,r,⟨hm,ia,rfl⟩,e⟩:=EL.get cV h hi;exact⟨hm,ia,r,e⟩
theorem J6 {N:List Tx}{l:List RItem}{cs:List AV}{i:Nat}{x:RItem}(h:EL (PI N) l cs)(hi:l[i]?=some x):x.head.pred∈N/\∃ih id b r,EL (PL N) x.body b/\cs.drop (i*4)=sc (.bool x.out)::sc (.int .i64 (N.idxOf x.head.pred:Nat))::sl ih x.head.terms.length (A0 x.head.terms)::sl id x.body.length b::r:=by
 obtain⟨c,r,⟨hm,ih,id,b,hb,rfl⟩,e⟩:=EL.get Gg h hi;exact⟨hm,ih,id,b,r,hb,e⟩
theorem xY {N:List Tx}{l:List RAtom}{cs:List AV}(h:EL (PC N) l cs):∀c∈cs,Plain c:=by
 induction l generalizing cs with
 |nil=>have h:cs=[]:=h;subst h;simp
 |cons a l ih=>
  obtain⟨c1,c2,⟨-,ids,rfl⟩,h2,rfl⟩:=h;intro c hc;rcases Aet.1 hc with hc|hc
  ·simp only[Ae2,Afg,Agj]at hc;rcases hc with rfl|rfl
   ·exact .inl ⟨_,rfl⟩
   ·refine .inr ⟨_,_,_,rfl,fun x hx=>?_⟩;simp only[A0,Ae9,Qy,Ae2,Afg,Agj]at hx;obtain⟨w,-,rfl|rfl⟩:=hx<;>exact⟨_,rfl⟩
  ·exact ih h2 c hc
theorem yZ {xs ys:List AV}{n:Nat}{u v a b:AV}(hn:xs.length=n):((xs++u::v::ys).set n a).set (n+1) b=xs++a::b::ys:=by
 subst hn;rw[List.set_append_right _ _ (Adc _),Afd,List.set_cons_zero,List.set_append_right _ _ Agm,Nat.add_sub_cancel_left,List.set_cons_succ,List.set_cons_zero]
theorem oY {m:Nat}(h:0<m)(u v:AV):(List.replicate m [u,v]).flatten=u::v::(List.replicate (m-1) [u,v]).flatten:=by
 obtain⟨k,rfl⟩:∃k,m=k+1:=⟨m-1,Agm⟩;rw[List.replicate_succ];rfl
theorem rJ (N:List Tx)(x:RItem)(c:List AV)(hc:PI N x c)(ad:x.out=false)(hn:x.body.length<=1000)(y:St):ACalls Tryz.prog 112 [ag c] y fun r y'=>∃(o n:Nat) (cs:List AV),r=fx o 0 n/\y.nobj<=o/\y'.obj o=cs/\Keep y y'/\(∀c∈cs,Plain c)/\(n=(Ae x).length/\EL (PC N) (Ae x) cs):=by
 obtain⟨hm,ih,id,b,hb,rfl⟩:=hc;have ao:=EL.length Fe hb;refine Z9 33 [.tmp 2] Tryz.func112 ?_
 repeat' first|refine Z1 ?_|refine Z8 fun ya J=>?_|refine Z4 ?_;clear J ya|refine Z2 ?_ ?_<;>intro h ab<;>try exact Xp|refine Z3 ?_|exact Zt|apply J.out;clear J ya
 have ae:Keep y (y.new [sc (.bool false),sc (.int .i64 (N.idxOf x.head.pred:Nat)),sl ih x.head.terms.length (A0 x.head.terms),sl id x.body.length b]):=(Keep.refl _).new _;have ac:((x.body.length:Int)+1).toNat=x.body.length+1:=Agm
 refine Ad (fun m s y'=>∃(k:Nat) (cur:List AV),m=x.body.length-k/\k<=x.body.length/\s 3=fx (y.nobj+1) 0 (x.body.length+1)/\s 18=sl id x.body.length b/\s 19=sc (.int .i64 x.body.length)/\s 20=sc (.int .i64 k)/\Keep y y'/\y.nobj+1<y'.nobj/\y'.obj (y.nobj+1)=cur/\cur.length=(x.body.length+1)*2/\Agt (∃xs,cur=xs++(List.replicate (x.body.length-k) [sc (.int .i64 0),nilS]).flatten/\xs.length=(1+k)*2/\EL (PC N) (x.head::x.body.take k) xs)) x.body.length
  ⟨0,_,Agm,Agm,by simp[upd,ac],Ago,Ago,rfl,(ae.new _).put Agm _,Ags,Aj,by simp[ac],[sc (.int .i64 (N.idxOf x.head.pred:Nat)),sl ih x.head.terms.length (A0 x.head.terms)],?_,by simp,EL.single ⟨hm,ih,rfl⟩⟩ ?_
 ·rw[ac,oY Agm];rfl
 clear ae;rintro m s y' ⟨k,cur,rfl,hk,h3,aw,av,au,hK,an,af,aj,hE⟩;have ak:=hK.nobj;by_cases ah:k<x.body.length
 ·have aa:=Adn ah;obtain⟨ha,ia,r,hd⟩:=Wb hb aa;generalize x.body[k]=a at hd aa ha;have HG:Agt (x.body[k]?=some a):=aa;clear aa;have am:((k:Int)+1).toNat=k+1:=Agm
  repeat' first|refine Z1 ?_|refine Z8 fun ya J=>?_|refine Z4 ?_;clear J ya|refine Z2 ?_ ?_<;>intro h ab<;>try exact Xp|refine Z3 ?_|exact Zt|apply J.out;clear J ya
  have HN:Agt (∃xs,(cur.set ((k+1)*2) (sc (.int .i64 (N.idxOf a.pred:Nat)))).set ((k+1)*2+1) (sl ia a.terms.length (A0 a.terms))=xs++(List.replicate (x.body.length-(k+1)) [sc (.int .i64 0),nilS]).flatten/\xs.length=(1+(k+1))*2/\EL (PC N) (x.head::x.body.take (k+1)) xs):=by
   obtain⟨xs,e1,e2,e3⟩:=hE.out;refine⟨xs++[sc (.int .i64 (N.idxOf a.pred:Nat)),sl ia a.terms.length (A0 a.terms)],?_,by simp[e2];omega,?_⟩
   ·rw[e1,oY Agm,yZ (by rw[e2];omega)];simp[Nat.sub_sub]
   ·rw[Ad0,HG.out];exact EL.append e3 (EL.single ⟨ha,ia,rfl⟩)
  refine⟨x.body.length-(k+1),Agm,k+1,(cur.set ((k+1)*2) (sc (.int .i64 (N.idxOf a.pred:Nat)))).set ((k+1)*2+1) (sl ia a.terms.length (A0 a.terms)),?_⟩
  ((repeat' refine Zi ?_ ?_)<;>first|exact Xq|exact (((hK.new _).put hK.nobj _).put Agm _)|exact Aj|exact HN|exact (by simp[aj])|exact Xs)
 ·have ai:k=x.body.length:=Agm;subst ai;obtain⟨xs,e1,e2,e3⟩:=hE.out;rw[Afd,List.replicate_zero,List.flatten_nil,Ad4]at e1;rw[Adu]at e3;subst e1;have ap:Ae x=x.head::x.body:=by simp[Ae,ad]
  repeat' first|refine Z1 ?_|refine Z8 fun ya J=>?_|refine Z4 ?_;clear J ya|refine Z2 ?_ ?_<;>intro h ab<;>try exact Xp|refine Z3 ?_|exact Zt|apply J.out;clear J ya
  exact⟨_,rfl,y.nobj+1,_,cur,rfl,Agm,af,xY e3,rfl,e3⟩
theorem lN (N:List Tx)(x:RItem)(c:List AV)(hc:PI N x c)(aa:x.out=true)(y:St):ACalls Tryz.prog 112 [ag c] y fun r y'=>r=nilS/\Keep y y':=by
 obtain⟨hm,ih,id,b,hb,rfl⟩:=hc;refine Z9 33 [.tmp 2] Tryz.func112 ?_
 repeat' first|refine Z1 ?_|refine Z8 fun ya J=>?_|refine Z4 ?_;clear J ya|refine Z2 ?_ ?_<;>intro h ab<;>try exact Xp|refine Z3 ?_|exact Zt|apply J.out;clear J ya
 first
 |exact⟨_,rfl,rfl,Xs⟩
 |exact⟨rfl,Xs⟩
theorem Lm (N:List Tx)(x:RItem)(c:List AV)(hc:PI N x c)(ho:x.out=true->x.body=[])(hn:x.body.length<=1000)(y:St):ACalls Tryz.prog 112 [ag c] y fun r y'=>∃id cs,r=sl id (Ae x).length cs/\EL (PC N) (Ae x) cs/\Keep y y':=by
 by_cases aa:x.out=true
 ·refine (lN N x c hc aa y).mono fun r y' h=>?_;obtain⟨rfl,h⟩:=h;exact⟨1,[],by simp[Ae,aa,ho aa],by simp[Ae,aa,ho aa,EL],h⟩
 ·have aa:x.out=false:=by simpa using aa
  refine (ACalls.freeze (rJ N x c hc aa hn y)).mono fun r y' h=>?_;obtain⟨n,cs,rfl,⟨rfl,h1⟩,h2⟩:=h;exact⟨0,cs,rfl,h1,h2⟩
theorem Fo {ts:List Tx}{k:Nat}{w:Tx}(h:ts[k]?=some w):∃r,(A0 ts).drop (k*2)=sc (.bool (Ap w).1)::sc (.int .i64 (Ap w).2)::r:=by
 have hE:∀ts:List Tx,EL (fun w c=>c=Qy w) ts (A0 ts):=by
  intro ts;induction ts with
  |nil=>rfl
  |cons a l ih=>exact⟨Qy a,A0 l,rfl,ih,by simp[A0]⟩
 obtain⟨c,r,rfl,e⟩:=EL.get (z:=2) (fun a c h=>by rw[h];rfl) (hE ts) h;exact⟨r,e⟩
theorem Mh {p:Nat->Bool}{i:Nat}(h:∀j,j<i->p j=false)(hi:p i=false):∀j,j<i+1->p j=false:=fun j hj=>by
 by_cases e:j=i
 ·rw[e];exact hi
 ·exact h j Agm
def Oc (v:Int)(w:Tx):Bool:=(Ap w).1&&(Ap w).2==v
def iS (a:RAtom)(v:Int)(i:Nat):Bool:=match a.terms[i]? with|some w=>Oc v w|none=>false
theorem gC (k:Int)(ids:Nat)(a:RAtom)(v:Int)(hn:a.terms.length<=1000)(y:St):ACalls Tryz.prog 210 [ag [sc (.int .i64 k),sl ids a.terms.length (A0 a.terms)],sc (.int .i64 v)] y fun r y'=>r=sc (.int .i64 (Ba (iS a v) a.terms.length))/\Keep y y':=by
 have ak:=Es a.terms;refine Z9 25 [.tmp 4] Tryz.func210 ?_
 refine zz ?_
 refine Ad (fun m s y'=>∃i:Nat,m=a.terms.length-i/\i<=a.terms.length/\s 1=sc (.int .i64 v)/\s 8=sl ids a.terms.length (A0 a.terms)/\s 9=sc (.int .i64 a.terms.length)/\s 10=sc (.int .i64 i)/\Keep y y'/\Agt (∀j,j<i->iS a v j=false)) a.terms.length
  ⟨0,Agm,Agm,rfl,rfl,rfl,rfl,Xs,fun j hj=>Agm⟩ ?_
 rintro m s y' ⟨i,rfl,hi,h1,h8,h9,am,hK,ab⟩;by_cases ae:i<a.terms.length
 ·have aa:=Adn ae;obtain⟨r,hd⟩:=Fo aa;generalize a.terms[i]=w at hd aa;have hv:Agt (iS a v i=Oc v w):=by rw[Agt,iS,aa]
  clear aa;have aj:=hK.nobj;generalize ah:(Ap w).1=w1 at hd;generalize af:(Ap w).2=w2 at hd;have ad:Agt (Oc v w=(w1&&w2==v)):=by rw[Agt,Oc,ah,af]
  clear ah af
  repeat' first|refine Z1 ?_|refine Z8 fun ya J=>?_|refine Z4 ?_;clear J ya|refine Z2 ?_ ?_<;>intro h ac<;>try exact Xp|refine Z3 ?_|exact Zt|apply J.out;clear J ya
  ·exact⟨_,rfl,by rw[Ft ae (by rw[hv.out,ad.out];simp[*]) ab.out],Xs⟩
  all_goals exact⟨a.terms.length-(i+1),Agm,i+1,rfl,Agm,by simp,Xs,Mh ab.out (by rw[hv.out,ad.out];simp[*])⟩
 ·have ai:i=a.terms.length:=Agm;subst ai
  repeat' first|refine Z1 ?_|refine Z8 fun ya J=>?_|refine Z4 ?_;clear J ya|refine Z2 ?_ ?_<;>intro h ac<;>try exact Xp|refine Z3 ?_|exact Zt|apply J.out;clear J ya
  first|exact⟨_,rfl,by rw[B7 ab.out],hK⟩|exact⟨_,rfl,by rw[B7 ab.out]⟩
theorem mG {α:Type}(l:List α)(q:α->Bool)(p:Nat->Bool)(hp:∀i,p i=match l[i]? with|some w=>q w|none=>false):(decide (Ba p l.length≠ -1))=l.any q:=by
 by_cases h:l.any q=true
 ·rw[h];rw[Aer]at h;obtain⟨w,hw,hq⟩:=h;obtain⟨i,hi,he⟩:=List.getElem_of_mem hw;by_cases hN:Ba p l.length= -1
  ·exfalso;unfold Ba at hN;split at hN
   ·omega
   ·rename_i hf;rw[Aex]at hf;have:=hf i (by simpa using hi);rw[hp,Adn hi,he]at this;simp[hq]at this
  ·simpa using hN
 ·have h:l.any q=false:=by simpa using h
  rw[h,B7 (fun i hi=>by
   rw[hp,Adn hi];rw[Aev]at h
   simpa using h l[i] (Aes hi))]
  simp
theorem rI (k:Int)(ids:Nat)(a:RAtom)(v:Int)(hn:a.terms.length<=1000)(y:St):ACalls Tryz.prog 199 [ag [sc (.int .i64 k),sl ids a.terms.length (A0 a.terms)],sc (.int .i64 v)] y fun r y'=>r=sc (.bool (a.terms.any (Oc v)))/\Keep y y':=by
 have hF:=mG a.terms (Oc v) (iS a v) (fun i=>by unfold iS;cases a.terms[i]?<;>rfl);refine Z9 9 [.tmp 4] Tryz.func199 ?_
 repeat' first|refine Z1 ?_|refine Z8 fun ya J=>?_|refine Z4 ?_;clear J ya|refine Z5 ?_;refine Xi (gC _ _ a v hn _) ?_;rintro _ _ ⟨rfl,aa⟩|refine Z3 ?_|exact Zt|apply J.out;clear J ya
 refine⟨_,rfl,?_,Xs⟩;rw[<-hF,show (Ba (iS a v) a.terms.length != -1)=decide (Ba (iS a v) a.terms.length≠ -1)from by rw[Afh];simp]
def Fc (x:RItem)(v:Int):Bool:=x.body.any fun a=>!a.nt&&a.terms.any (Oc v)
theorem gI (N:List Tx)(x:RItem)(c:List AV)(v:Int)(hc:PI N x c)(hx:x.fits)(y:St):ACalls Tryz.prog 161 [ag c,sc (.int .i64 v)] y fun r y'=>r=sc (.bool (Fc x v))/\Keep y y':=by
 obtain⟨hm,ih,id,b,hb,rfl⟩:=hc;have am:=EL.length Fe hb;obtain⟨ak,aj,af⟩:=hx;refine Z9 24 [.tmp 4] Tryz.func161 ?_
 refine zz ?_
 refine Ad (fun m s y'=>∃i:Nat,m=x.body.length-i/\i<=x.body.length/\s 1=sc (.int .i64 v)/\s 8=sl id x.body.length b/\s 9=sc (.int .i64 x.body.length)/\s 10=sc (.int .i64 i)/\Keep y y'/\Agt ((x.body.take i).any (fun a=>!a.nt&&a.terms.any (Oc v))=false)) x.body.length
  ⟨0,Agm,Agm,rfl,rfl,rfl,rfl,Xs,by simp[Agt]⟩ ?_
 rintro m s y' ⟨i,rfl,hi,h1,h8,h9,ao,hK,ab⟩;by_cases ae:i<x.body.length
 ·have aa:=Adn ae;have ad:=af x.body[i] (Aes ae);obtain⟨ha,ia,r,hd⟩:=Wb hb aa;generalize x.body[i]=a at hd aa ha ad;have HG:Agt (x.body[i]?=some a):=aa;clear aa;have ai:=hK.nobj
  repeat' first|refine Z1 ?_|refine Z8 fun ya J=>?_|refine Z4 ?_;clear J ya|refine Z2 ?_ ?_<;>intro h ac<;>try exact Xp|refine Z5 ?_;refine Xi (rI _ _ a v ad _) ?_;rintro _ _ ⟨rfl,an⟩|refine Z3 ?_|exact Zt|apply J.out;clear J ya
  ·exact⟨_,rfl,by rw[Fc,Dk _ HG.out (by simp[*])],Xs⟩
  all_goals
   refine⟨x.body.length-(i+1),Agm,i+1,rfl,Agm,by simp,Xs,?_⟩;rw[Agt,any_take_succ _ HG.out,ab.out];simp[*]
 ·have ah:i=x.body.length:=Agm;subst ah;rw[Adu]at ab
  repeat' first|refine Z1 ?_|refine Z8 fun ya J=>?_|refine Z4 ?_;clear J ya|refine Z2 ?_ ?_<;>intro h ac<;>try exact Xp|refine Z3 ?_|exact Zt|apply J.out;clear J ya
  first|exact⟨_,rfl,by rw[Fc,ab.out],hK⟩|exact⟨_,rfl,by rw[Fc,ab.out]⟩
def Et (x:RItem):Bool:=!(Ae x).any fun a=>a.terms.any fun w=>(Ap w).1&&!Fc x (Ap w).2
theorem Uc (N:List Tx)(x:RItem)(c:List AV)(hc:PI N x c)(ho:x.out=true->x.body=[])(hx:x.fits)(y:St):ACalls Tryz.prog 107 [ag c] y fun r y'=>r=sc (.bool (Et x))/\Keep y y':=by
 have hA:=Lm N x c hc ho (by have:=hx.1;omega);have hB:=fun v=>gI N x c v hc hx;obtain⟨hm,ih,id,b,hb,rfl⟩:=hc;have a5:=EL.length Fe hb;have a6:=hx.atoms;have a0:∀a∈Ae x,a.terms.length<=1000:=by
  intro a ha;unfold Ae at ha;rcases Aet.1 ha with h|h
  ·split at h
   ·cases h
   ·simp at h;subst h;exact hx.2.1
  ·exact hx.2.2 a h
 refine Z9 32 [.tmp 2] Tryz.func107 ?_
 repeat' first|refine Z1 ?_|refine Z8 fun ya J=>?_|refine Z4 ?_;clear J ya|refine Z5 ?_;refine Xi (hA _) ?_;rintro _ _ ⟨ida,cs,rfl,hE,af⟩;(have ad:=af.obj;have ah:=af.nobj;(try simp only[Aa,Ac,Ax]at ah))|refine Z3 ?_|exact Zt|apply J.out;clear J ya
 rename_i y1;have a4:=EL.length cV hE;have ap:y1.obj y.nobj=[sc (.bool x.out),sc (.int .i64 (N.idxOf x.head.pred:Nat)),sl ih x.head.terms.length (A0 x.head.terms),sl id x.body.length b]:=by rw[ad _ (by rw[Aa];omega),Al]
 have af:Keep (y.new [sc (.bool x.out),sc (.int .i64 (N.idxOf x.head.pred:Nat)),sl ih x.head.terms.length (A0 x.head.terms),sl id x.body.length b]) y1:=af
 refine Ad (fun m s y'=>∃i:Nat,m=(Ae x).length-i/\i<=(Ae x).length/\s 1=ptr y.nobj 0/\s 8=sl ida (Ae x).length cs/\s 9=sc (.int .i64 (Ae x).length)/\s 10=sc (.int .i64 i)/\Keep y1 y'/\Agt (((Ae x).take i).any (fun a=>a.terms.any fun w=>(Ap w).1&&!Fc x (Ap w).2)=false)) (Ae x).length
  ⟨0,Agm,Agm,rfl,rfl,rfl,rfl,Keep.refl _,by simp[Agt]⟩ ?_
 rintro m s y' ⟨i,rfl,hi,h1,h8,h9,am,hK,ai⟩;have an:=hK.nobj;have ae:y'.obj y.nobj=[sc (.bool x.out),sc (.int .i64 (N.idxOf x.head.pred:Nat)),sl ih x.head.terms.length (A0 x.head.terms),sl id x.body.length b]:=by rw[hK.obj _ Agm,ap]
 have a7:Keep y y1:=((Keep.refl y).new _).trans af;clear ad;by_cases au:i<(Ae x).length
 ·have aa:=Adn au;have ax:=a0 (Ae x)[i] (Aes au);obtain⟨ha,ia,r,hd⟩:=yH hE aa;generalize (Ae x)[i]=a at hd aa ha ax;have HG:Agt ((Ae x)[i]?=some a):=aa;clear aa;have a3:=Es a.terms
  repeat' first|refine Z1 ?_|refine Z8 fun ya J=>?_|refine Z4 ?_;clear J ya|refine Z2 ?_ ?_<;>intro h ac<;>try exact Xp|refine Z3 ?_|exact Zt|apply J.out;clear J ya
  refine Ad (fun m s y'=>∃j:Nat,m=a.terms.length-j/\j<=a.terms.length/\s 1=ptr y.nobj 0/\s 8=sl ida (Ae x).length cs/\s 9=sc (.int .i64 (Ae x).length)/\s 10=sc (.int .i64 i)/\s 15=sl ia a.terms.length (A0 a.terms)/\s 16=sc (.int .i64 a.terms.length)/\s 17=sc (.int .i64 j)/\Keep y1 y'/\Agt ((a.terms.take j).any (fun w=>(Ap w).1&&!Fc x (Ap w).2)=false)) a.terms.length
   ⟨0,Agm,Agm,by simp[upd,h1],by simp[upd,h8],by simp[upd,h9],by simp[upd,am],rfl,rfl,rfl,(hK.new _).put hK.nobj _,by simp[Agt]⟩ ?_
  clear ae hK an h1 h8 h9 am;rintro m s y' ⟨j,rfl,hj,h1,h8,h9,am,bb,ba,a9,hK,ab⟩;have an:=hK.nobj;have ae:y'.obj y.nobj=[sc (.bool x.out),sc (.int .i64 (N.idxOf x.head.pred:Nat)),sl ih x.head.terms.length (A0 x.head.terms),sl id x.body.length b]:=by rw[hK.obj _ Agm,ap]
  by_cases aj:j<a.terms.length
  ·have aa:=Adn aj;obtain⟨r2,ak⟩:=Fo aa;generalize a.terms[j]=w at ak aa;have HW:Agt (a.terms[j]?=some w):=aa;clear aa;generalize aw:(Ap w).1=w1 at ak;generalize av:(Ap w).2=w2 at ak;have ao:Agt (((Ap w).1&&!Fc x (Ap w).2)=(w1&&!Fc x w2)):=by rw[Agt,aw,av]
   clear aw av
   repeat' first|refine Z1 ?_|refine Z8 fun ya J=>?_|refine Z4 ?_;clear J ya|refine Z2 ?_ ?_<;>intro h ac<;>try exact Xp|refine Z5 ?_;refine Xi (hB _ _) ?_;rintro _ _ ⟨rfl,a8⟩|refine Z3 ?_|exact Zt|apply J.out;clear J ya
   ·exact⟨_,rfl,by rw[Et,Dk _ HG.out (Dk _ HW.out (by rw[ao.out];simp[*]))];rfl,Xs⟩
   all_goals
    refine⟨a.terms.length-(j+1),Agm,j+1,rfl,Agm,by simp,Xs,?_⟩;rw[Agt,any_take_succ _ HW.out,ab.out,ao.out];simp[*]
  ·have ay:j=a.terms.length:=Agm;subst ay;rw[Adu]at ab
   repeat' first|refine Z1 ?_|refine Z8 fun ya J=>?_|refine Z4 ?_;clear J ya|refine Z2 ?_ ?_<;>intro h ac<;>try exact Xp|refine Z3 ?_|exact Zt|apply J.out;clear J ya
   refine⟨(Ae x).length-(i+1),Agm,i+1,rfl,Agm,by simp,?_⟩;rw[Agt,any_take_succ _ HG.out,ai.out,ab.out];rfl
 ·have az:i=(Ae x).length:=Agm;subst az;rw[Adu]at ai
  repeat' first|refine Z1 ?_|refine Z8 fun ya J=>?_|refine Z4 ?_;clear J ya|refine Z2 ?_ ?_<;>intro h ac<;>try exact Xp|refine Z3 ?_|exact Zt|apply J.out;clear J ya
  exact⟨_,rfl,by rw[Et,ai.out];rfl,Xs⟩
end Go.Proofs.YtmoeoppbmhfbpaaGreatDoorD
