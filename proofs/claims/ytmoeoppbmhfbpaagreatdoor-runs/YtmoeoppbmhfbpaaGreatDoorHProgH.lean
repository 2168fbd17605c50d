import Derived.Test.YtmoeoppbmhfbpaaGreatDoorHProgD
set_option maxHeartbeats 16000000
set_option maxRecDepth 100000
set_option linter.all false
namespace Go.Proofs.YtmoeoppbmhfbpaaGreatDoorH
open Go.Abs
variable {Bd:Nat}
structure PA (N:List Tx)(a:RAtom)(k:Int)(n:Nat)(c:List AV):Prop where
 mem:a.pred∈N
 idx:k=(N.idxOf a.pred:Nat)
 len:n=a.terms.length
 cells:c=A8 a.terms
theorem nS (nt:Bool)(s:Tx):C2 nt s=(Ea s).bnd fun p r=>(Aw 40 r).bnd fun _ r=>(Dz r).bnd fun ts r=>(Aw 41 r).bnd fun _ r=>.got {nt:=nt,pred:=p,terms:=ts} r:=by
 unfold C2 S4 Dz Qn;cases Ea s with
 |bad e=>rfl
 |got p r=>
  simp only[Rd.bnd];cases Aw 40 r with
  |bad e=>rfl
  |got u r=>
   simp only[Rd.bnd];cases Ce r with
   |bad e=>rfl
   |got w r=>
    simp only[Rd.bnd];cases Dl Ce 2 r<;>rfl
theorem Mf (nt:Bool){t:Tx}{o:Nat}{N:List Tx}{id:Nat}{s:Tx}{y:St}(ht:t.length<=1000)(hR:RS Bd t o N id s y):
  ACalls Tryz.prog 124 [ptr o 0] y fun x y'=>∃k n ids c N' id',x=tp [ag [sc (.int .i64 k),sl ids n c],sc (.bool (C2 nt s).ok)]/\Rs o y id y' id'/\RS Bd t o N' id' (C2 nt s).rest y'/\N<+:N'/\Rd.Val (C2 nt s) fun a=>PA N' a k n c:=by
 have hn:=hR.lt;rw[nS];refine Z9 34 [.cell 2 94,.tmp 3] Tryz.func124 ?_
 repeat' (first|refine Z1 ?_|(refine Z8 ?_;intro ya J)|(refine Z4 ?_;clear J ya)|(refine Z2 ?_ ?_<;>intro h aw<;>try exact Xp)|(refine Z5 ?_;first|(refine Xi (J9 ht (Zr)) ?_;rintro _ _ ⟨k,N',id',rfl,am,aj,ae,ak⟩;(have ai:=am.keep.nobj;(try simp only[Aa,Ac,Av]at ai);have av:=am.keep.obj))|(refine Xi (Hr ht (by assumption)) ?_;rintro _ _ ⟨rfl,an,aa⟩;(have ah:=an.nobj;(try simp only[Aa,Ac,Av]at ah);have au:=an.obj))|(refine Xi (cM ht (by assumption)) ?_;rintro _ _ ⟨n,ids,c,rfl,ao,ab,ad⟩;(have af:=ao.nobj;(try simp only[Aa,Ac,Av]at af);have ap:=ao.obj)))|refine Z3 ?_|exact Zt|(apply J.out;clear J ya))
 ·obtain⟨e,he⟩:=Rd.ok_false h;rw[he]at aj⊢;simp only[Rd.rest]at aj;exact⟨_,rfl,0,0,1,[],N',id',rfl,Zu,by show RS Bd t o N' id' e _;exact Zr,ae,trivial⟩
 ·obtain⟨p,r,he⟩:=Rd.ok_true (show (Ea s).ok=true by assumption);rw[he]at aj aa h⊢;rw[show (Rd.got p r).rest=r from rfl]at h aa;obtain⟨e,hb⟩:=Rd.ok_false h;rw[hb]at aa;simp only[Rd.rest]at aa;simp only[Rd.bnd,hb];exact⟨_,rfl,0,0,1,[],N',id',rfl,Zu,by show RS Bd t o N' id' e _;exact Zr,ae,trivial⟩
 ·obtain⟨p,r,he⟩:=Rd.ok_true (show (Ea s).ok=true by assumption);have ac:(Aw 40 (Ea s).rest).ok=true:=by assumption
  rw[he]at ac ab h⊢;rw[show (Rd.got p r).rest=r from rfl]at ac h ab;obtain⟨u,r2,hb⟩:=Rd.ok_true ac;rw[hb]at h ab;rw[show (Rd.got u r2).rest=r2 from rfl]at h ab;obtain⟨e,hc⟩:=Rd.ok_false h;rw[hc]at ab;simp only[Rd.rest]at ab;simp only[Rd.bnd,hb,hc];exact⟨_,rfl,0,0,1,[],N',id',rfl,Zu,by show RS Bd t o N' id' e _;exact Zr,ae,trivial⟩
 ·obtain⟨p,r,he⟩:=Rd.ok_true (show (Ea s).ok=true by assumption);have ac:(Aw 40 (Ea s).rest).ok=true:=by assumption
  rw[he]at ac ab h aa ad ak⊢;rw[show (Rd.got p r).rest=r from rfl]at ac h ab aa ad;obtain⟨u,r2,hb⟩:=Rd.ok_true ac;rw[hb]at h ab aa ad;rw[show (Rd.got u r2).rest=r2 from rfl]at h ab aa ad;obtain⟨ts,r3,hc⟩:=Rd.ok_true h;rw[hc]at ab aa ad;rw[show (Rd.got ts r3).rest=r3 from rfl]at ab aa;obtain⟨v1,v2⟩:p∈N'/\k=(N'.idxOf p:Nat):=ak;obtain⟨v3,v4⟩:n=ts.length/\c=A8 ts:=ad;simp only[Rd.bnd,hb,hc];cases hd:Aw 41 r3 with
  |bad e=>
   rw[hd]at aa;simp only[Rd.rest]at aa;exact⟨_,rfl,k,n,ids,c,N',id',by simp only[Rd.rest,hb,hc,hd,Rd.ok,Rd.bnd],Zu,by show RS Bd t o N' id' e _;exact Zr,ae,trivial⟩
  |got u2 r4=>
   rw[hd]at aa;simp only[Rd.rest]at aa;exact⟨_,rfl,k,n,ids,c,N',id',by simp only[Rd.rest,hb,hc,hd,Rd.ok,Rd.bnd],Zu,by show RS Bd t o N' id' r4 _;exact Zr,ae,⟨v1,v2,v3,v4⟩⟩
theorem lI (s:Tx):I8 s=C2 (Aw 33 s).ok (Aw 33 s).rest:=by
 cases s with
 |nil=>rfl
 |cons b r=>
  unfold I8 Aw;dsimp only;split<;>rfl
theorem L2 {t:Tx}{o:Nat}{N:List Tx}{id:Nat}{s:Tx}{y:St}(ht:t.length<=1000)(hR:RS Bd t o N id s y):
  ACalls Tryz.prog 242 [ptr o 0] y fun x y'=>∃b k n ids c N' id',x=tp [ag [sc (.bool b),sc (.int .i64 k),sl ids n c],sc (.bool (I8 s).ok)]/\Rs o y id y' id'/\RS Bd t o N' id' (I8 s).rest y'/\N<+:N'/\Rd.Val (I8 s) fun a=>b=a.nt/\PA N' a k n c:=by
 have hn:=hR.lt;rw[lI];refine Z9 18 [.cell 2 164,.tmp 3] Tryz.func242 ?_
 repeat' (first|refine Z1 ?_|(refine Z8 ?_;intro ya J)|(refine Z4 ?_;clear J ya)|(refine Z2 ?_ ?_<;>intro h ai<;>try exact Xp)|(refine Z5 ?_;first|(refine Xi (Hr ht (Zr)) ?_;rintro _ _ ⟨rfl,ae,ak⟩;(have aa:=ae.nobj;(try simp only[Aa,Ac,Av]at aa);have af:=ae.obj))|(refine Xi (Mf (Aw 33 s).ok ht (by assumption)) ?_;rintro _ _ ⟨k,n,ids,c,N',id',rfl,ad,am,aj,ac⟩;(have ab:=ad.keep.nobj;(try simp only[Aa,Ac,Av]at ab);have ah:=ad.keep.obj)))|refine Z3 ?_|exact Zt|(apply J.out;clear J ya))
 refine⟨_,rfl,(Aw 33 s).ok,k,n,ids,c,N',id',rfl,Zu,Zr,aj,?_⟩;cases hp:C2 (Aw 33 s).ok (Aw 33 s).rest with
 |bad e=>trivial
 |got a r=>
  rw[hp]at ac;exact⟨(Fh hp).2.2.symm,ac⟩
def PL (N:List Tx)(a:RAtom)(c:List AV):Prop:=a.pred∈N/\∃ids,c=[sc (.bool a.nt),sc (.int .i64 (N.idxOf a.pred:Nat)),sl ids a.terms.length (A8 a.terms)]
theorem K8 {N:List Tx}(a:RAtom)(c:List AV)(h:PL N a c):c.length=3:=by obtain⟨-,ids,rfl⟩:=h;rfl
theorem PL.mono {N N':List Tx}(hN:N<+:N')(a:RAtom)(c:List AV)(h:PL N a c):PL N' a c:=by
 obtain⟨hm,ids,rfl⟩:=h;exact⟨hN.subset hm,ids,by rw[Jv hN hm]⟩
theorem PL.of {N:List Tx}{a:RAtom}{b:Bool}{k:Int}{n:Nat}{ids:Nat}{c:List AV}(hb:b=a.nt)(h:PA N a k n c):PL N a [sc (.bool b),sc (.int .i64 k),sl ids n c]:=by
 obtain⟨h1,rfl,rfl,rfl⟩:=h;subst hb;exact⟨h1,ids,rfl⟩
def PI (N:List Tx)(x:RItem)(c:List AV):Prop:=x.head.pred∈N/\∃ih id b,EL (PL N) x.body b/\c=[sc (.bool x.out),sc (.int .i64 (N.idxOf x.head.pred:Nat)),sl ih x.head.terms.length (A8 x.head.terms),sl id x.body.length b]
theorem Iy {N:List Tx}(x:RItem)(c:List AV)(h:PI N x c):c.length=4:=by obtain⟨-,ih,id,b,-,rfl⟩:=h;rfl
theorem PI.mono {N N':List Tx}(hN:N<+:N')(x:RItem)(c:List AV)(h:PI N x c):PI N' x c:=by
 obtain⟨hm,ih,id,b,hb,rfl⟩:=h;exact⟨hN.subset hm,ih,id,b,hb.mono (PL.mono hN),by rw[Jv hN hm]⟩
variable {Bd:Nat}
def Ht (s:Tx):Rd Unit:=(Aw 58 s).bnd fun _ r=>Aw 45 r
theorem bQ {t:Tx}{o:Nat}{N:List Tx}{id:Nat}{s:Tx}{y:St}(ht:t.length<=1000)(hR:RS Bd t o N id s y):
  ACalls Tryz.prog 204 [ptr o 0] y fun x y'=>x=sc (.bool (Ht s).ok)/\KeepX o y y'/\RS Bd t o N id (Ht s).rest y':=by
 unfold Ht;refine Z9 8 [.tmp 2] Tryz.func204 ?_
 repeat' (first|refine Z1 ?_|(refine Z8 ?_;intro ya J)|(refine Z4 ?_;clear J ya)|(refine Z2 ?_ ?_<;>intro h ac<;>try exact Xp)|(refine Z5 ?_;refine Xi (Hr ht (by assumption)) ?_;rintro _ _ ⟨rfl,ab,aa⟩)|refine Z3 ?_|exact Zt|(apply J.out;clear J ya))
 ·obtain⟨e,he⟩:=Rd.ok_false h;rw[he]at aa⊢
  first|exact⟨_,rfl,rfl,ab,aa⟩|exact⟨_,rfl,rfl,aa⟩|exact⟨_,rfl,ab,aa⟩
 ·obtain⟨u,r,he⟩:=Rd.ok_true h;rw[he]at aa⊢
  first|exact⟨_,rfl,rfl,Zs,aa⟩|exact⟨_,rfl,rfl,aa⟩|exact⟨_,rfl,Zs,aa⟩
theorem jL {σ0 y2:St}{id1 id2 ids n:Nat}(h:id1=1\/id1≠ids)(hO:Own σ0 y2 ids n)(hn:0<n)(hs:id2=id1\/y2.ntop+2<=id2):id2=1\/id2≠ids:=by
 rcases hO with⟨-,rfl⟩|⟨k,h1,h2,h3,h4,h5⟩<;>omega
theorem M5 {σ0 y2:St}{id1 ids n:Nat}(h:id1=1\/id1≠ids)(hO:Own σ0 y2 ids n):ids=1\/ids≠id1:=by
 rcases hO with⟨h1,rfl⟩|⟨k,h1,h2,h3,h4,h5⟩<;>omega
theorem OwnN.fresh {y:St}{id n:Nat}(h:OwnN y id n):id=1\/id≠y.ntop+2:=by
 rcases h with⟨rfl,-⟩|⟨k,h1,h2,-⟩<;>omega
theorem Pu {X:St}{id3 ids idn n:Nat}(h:OwnN X id3 n)(aa:id3=1\/id3≠ids)(hid:idn=ids\/X.ntop+2<=idn):id3=1\/id3≠idn:=by
 rcases h with⟨rfl,-⟩|⟨k,h1,h2,-⟩<;>omega
abbrev D4 (s:Tx):Rd (List RAtom):=Qn I8 4 s
theorem gP {t:Tx}{o:Nat}{N:List Tx}{id:Nat}{s:Tx}{y:St}(ht:t.length<=1000)(hR:RS Bd t o N id s y):
  ACalls Tryz.prog 205 [ptr o 0] y fun x y'=>∃n ids c N' id',x=tp [sl ids n c,sc (.bool (D4 s).ok)]/\Rs o y id y' id'/\RS Bd t o N' id' (D4 s).rest y'/\N<+:N'/\Rd.Val (D4 s) fun ls=>n=ls.length/\EL (PL N') ls c:=by
 have hn:=hR.lt;refine Z9 37 [.tmp 2,.tmp 3] Tryz.func205 ?_
 repeat' (first|refine Z1 ?_|(refine Z8 ?_;intro ya J)|(refine Z4 ?_;clear J ya)|(refine Z2 ?_ ?_<;>intro h af<;>try exact Xp)|(refine Z6 ?_;intro idn yn am an ac ab ae aa)|(refine Z5 ?_;refine Xi (L2 ht hR) ?_;rintro _ _ ⟨b,k,n,ia,c,N1,id1,rfl,aw,ah,az,a7⟩;(have ai:=aw.keep.nobj))|refine Z3 ?_|exact Zt|(apply J.out;clear J ya))
 ·rename_i y1;obtain⟨e,he⟩:=Rd.ok_false h;have hp:=sepI.none (n:=4) he;rw[he]at ah;simp only[Rd.rest]at ah;refine⟨_,rfl,0,1,[],N1,id1,by rw[D4,hp];rfl,Zu,?_,az,by rw[D4,hp];trivial⟩;rw[D4,hp];show RS Bd t o N1 id1 e _;exact Zr
 ·rename_i y1;obtain⟨w,q,he⟩:=Rd.ok_true h;have hp:=sepI.first (n:=4) he;rw[he]at ah a7;obtain⟨hb,hA⟩:b=w.nt/\PA N1 w k n c:=a7;have ah:RS Bd t o N1 id1 q y1:=ah;have hC:PL N1 w [sc (.bool b),sc (.int .i64 k),sl ia n c]:=PL.of hb hA;have ap:[sc (.bool b),sc (.int .i64 k),sl ia n c].length=3:=rfl;generalize a4:[sc (.bool b),sc (.int .i64 k),sl ia n c]=cw at hC ap
  refine Ab (fun m s' y'=>∃(ls:List RAtom) (q:Tx) (ids:Nat) (d:List AV) (N2:List Tx) (id2:Nat),m=5-ls.length/\s' 0=ptr o 0/\s' 6=sl ids ls.length d/\Rs o y id y' id2/\RS Bd t o N2 id2 q y'/\Own y y' ids ls.length/\Ad8 (id2=1\/id2≠ids)/\N<+:N2/\0<ls.length/\ls.length<=5/\d.length=ls.length*3/\Ad8 (EL (PL N2) ls d)/\Ad8 (sepI I8 4 s ls q)) 4
   ⟨[w],q,_,cw,N1,id1,rfl,rfl,by rw[<-a4];rfl,Zu,Zr,Own.made' (b:=(y1.new _).put _ _) aw.keep.ntop (by decide),ah.own.fresh,az,by simp,by simp,by simpa using ap,EL.single hC,hp⟩ ?_
  clear aw ah ai hp he h hC a4 ap hA hb az;rintro m s' y' ⟨ls,q,ids,d,N2,id2,rfl,h0,h6,hS,hR2,hO,a6,ak,bb,bh,bc,hE,hI⟩;have bf:=hS.keep.nobj;by_cases bg:ls.length<5
  ·repeat' (first|refine Z1 ?_|(refine Z8 ?_;intro ya J)|(refine Z4 ?_;clear J ya)|(refine Z2 ?_ ?_<;>intro h af<;>try exact Xp)|(refine Z6 ?_;intro idn yn am an ac ab ae aa)|(refine Z5 ?_;first|(refine Xi (Hr ht (by assumption)) ?_;rintro _ _ ⟨rfl,a3,ax⟩;(have ai:=a3.nobj))|(refine Xi (L2 ht (by assumption)) ?_;rintro _ _ ⟨b,k,n,ia,c,N3,id3,rfl,av,ad,ay,ao⟩;(have ba:=av.keep.nobj)))|refine Z3 ?_|exact Zt|(apply J.out;clear J ya))
   ·rename_i y2 au _ y3;obtain⟨u,r,hb⟩:=Rd.ok_true au;rw[hb]at h ad;obtain⟨e,he⟩:=Rd.ok_false h;rw[show (Rd.got u r).rest=r from rfl]at he ad;have hp:=hI.out.fail Ad2 hb he;rw[he]at ad;simp only[Rd.rest]at ad;refine⟨_,rfl,0,1,[],N3,id3,by rw[D4,hp];rfl,Zu,?_,ak.trans ay,by rw[D4,hp];trivial⟩;rw[D4,hp];show RS Bd t o N3 id3 e _;exact Zr
   ·rename_i y2 au _ y3;obtain⟨u,r,hb⟩:=Rd.ok_true au;rw[hb]at h ad ao;obtain⟨x,r2,he⟩:=Rd.ok_true h;rw[show (Rd.got u r).rest=r from rfl]at he ad ao;have hp:=hI.out.next Ad2 hb he;rw[he]at ad ao;obtain⟨a5,hA⟩:b=x.nt/\PA N3 x k n c:=ao;have ad:RS Bd t o N3 id3 r2 y3:=ad;have hC:PL N3 x [sc (.bool b),sc (.int .i64 k),sl ia n c]:=PL.of a5 hA;have a8:Rs o y id ((y3.new [sc (.bool false),sc (.int .i64 0),nilS]).put y3.nobj [sc (.bool b),sc (.int .i64 k),sl ia n c]) id3:=Zu;have a0:=Own.keepX hO a3;have be:=Own.keepR a0 av.keep (M5 a6.out a0);have bd:Own y ((y3.new [sc (.bool false),sc (.int .i64 0),nilS]).put y3.nobj [sc (.bool b),sc (.int .i64 k),sl ia n c]) ids ls.length:=Own.put (Own.new be _) _ _;have a9:RS Bd t o N3 id3 r2 ((y3.new [sc (.bool false),sc (.int .i64 0),nilS]).put y3.nobj [sc (.bool b),sc (.int .i64 k),sl ia n c]):=Zr;have aj:id3=1\/id3≠ids:=jL a6.out a0 bb av.nid;refine Lw (o:=o) (idn:=id) (σ0:=y) (by first|exact Sa) a8.keep bd (by decide) (by rfl) bc (by rfl) (by rfl) (by decide) Ad2 Ad2 ?_;intro idn yn am an ac ab ae aa etop hid;refine Z3 ?_
    repeat' (first|refine Z1 ?_|(refine Z8 ?_;intro ya J)|(refine Z4 ?_;clear J ya)|(refine Z2 ?_ ?_<;>intro h af<;>try exact Xp)|(refine Z6 ?_;intro idn yn am an ac ab ae aa)|refine Z3 ?_|exact Zt|(apply J.out;clear J ya))
    refine⟨5-(ls++[x]).length,by simp;omega,ls++[x],r2,idn,d++[sc (.bool b),sc (.int .i64 k),sl ia n c],N3,id3,rfl,by simp[a5],⟨an,a8.nid⟩,a9.app ac ab aa etop aj,by simpa using am,Pu a9.own aj hid,ak.trans ay,by simp,by simp;omega,by simp;omega,EL.append (hE.out.mono (PL.mono ay)) (EL.single hC),hp⟩
   ·have hp:=hI.out.stop h;rename_i y2;rw[Ja h]at ax;simp only[Rd.rest]at ax;refine⟨_,rfl,_,ids,_,N2,id2,by rw[D4,hp];rfl,Zu,?_,ak,by rw[D4,hp];exact⟨rfl,hE.out⟩⟩;rw[D4,hp];show RS Bd t o N2 id2 q _;exact Zr
  ·repeat' (first|refine Z1 ?_|(refine Z8 ?_;intro ya J)|(refine Z4 ?_;clear J ya)|(refine Z2 ?_ ?_<;>intro h af<;>try exact Xp)|(refine Z6 ?_;intro idn yn am an ac ab ae aa)|(refine Z5 ?_;refine Xi (Hr ht (by assumption)) ?_;rintro _ _ ⟨rfl,a3,ax⟩)|refine Z3 ?_|exact Zt|(apply J.out;clear J ya))
   have hp:=hI.out.full Ad2
   first
   |exact⟨_,rfl,_,ids,d,N2,id2,by rw[D4,hp];rfl,hS,by rw[D4,hp];exact hR2,ak,by rw[D4,hp];exact⟨rfl,hE.out⟩⟩
   |exact⟨_,rfl,_,ids,d,N2,id2,by rw[D4,hp];rfl,by rw[D4,hp];exact hR2,ak,by rw[D4,hp];exact⟨rfl,hE.out⟩⟩
variable {Bd:Nat}
def X9 (Bd:Nat)(t:Tx)(o:Nat)(N:List Tx)(id:Nat)(y:St)(p:Rd RItem)(x:AV)(y':St):Prop:=
 ∃b k ih n c ib m d N' id',x=tp [ag [sc (.bool b),sc (.int .i64 k),sl ih n c,sl ib m d],sc (.bool p.ok)]/\Rs o y id y' id'/\RS Bd t o N' id' p.rest y'/\N<+:N'/\Rd.Val p fun it=>PI N' it [sc (.bool b),sc (.int .i64 k),sl ih n c,sl ib m d]
theorem Yn {t:Tx}{o:Nat}{N:List Tx}{id:Nat}{s:Tx}{y:St}(ht:t.length<=1000)(hR:RS Bd t o N id s y):
  ACalls Tryz.prog 163 [ptr o 0] y (X9 Bd t o N id y (Yt s)):=by
 have hn:=hR.lt;unfold Yt X9;refine Z9 20 [.cell 2 97,.tmp 3] Tryz.func163 ?_
 repeat' (first|refine Z1 ?_|(refine Z8 ?_;intro ya J)|(refine Z4 ?_;clear J ya)|(refine Z2 ?_ ?_<;>intro h am<;>try exact Xp)|(refine Z5 ?_;first|(refine Xi (J9 ht (Zr)) ?_;rintro _ _ ⟨k,N',id',rfl,af,ah,ad,ae⟩;(have ac:=af.keep.nobj;(try simp only[Aa,Ac,Av]at ac);have ak:=af.keep.obj))|(refine Xi (Hr ht (by assumption)) ?_;rintro _ _ ⟨rfl,ai,aa⟩;(have ab:=ai.nobj;(try simp only[Aa,Ac,Av]at ab);have aj:=ai.obj)))|refine Z3 ?_|exact Zt|(apply J.out;clear J ya))
 ·obtain⟨e,he⟩:=Rd.ok_false h;rw[he]at ah⊢;simp only[Rd.rest]at ah;exact⟨_,rfl,false,0,1,0,[],1,0,[],N',id',rfl,Zu,by show RS Bd t o N' id' e _;exact Zr,ad,trivial⟩
 ·obtain⟨p,r,he⟩:=Rd.ok_true h;rw[he]at aa ae⊢;rw[show (Rd.got p r).rest=r from rfl]at aa⊢;obtain⟨v1,v2⟩:p∈N'/\k=(N'.idxOf p:Nat):=ae;simp only[Rd.bnd];cases hd:Aw 46 r with
  |bad e=>
   rw[hd]at aa;simp only[Rd.rest]at aa;exact⟨_,rfl,true,k,1,0,[],1,0,[],N',id',rfl,Zu,by show RS Bd t o N' id' e _;exact Zr,ad,trivial⟩
  |got u2 r4=>
   rw[hd]at aa;simp only[Rd.rest]at aa;exact⟨_,rfl,true,k,1,0,[],1,0,[],N',id',rfl,Zu,by show RS Bd t o N' id' r4 _;exact Zr,ad,⟨v1,1,1,[],rfl,by rw[v2];rfl⟩⟩
theorem dD (h:RAtom)(r:Tx):L4 h r=if (Aw 46 r).ok=true then .got {out:=false,head:=h,body:=[]} (Aw 46 r).rest
  else (Ht r).bnd fun _ r=>(D4 r).bnd fun ls r=>(Aw 46 r).bnd fun _ r=>.got {out:=false,head:=h,body:=ls} r:=by
 cases r with
 |nil=>rfl
 |cons b r=>
  have hx:L4 h (b::r)=if ((b.toNat:Int)==46)=true then .got {out:=false,head:=h,body:=[]} r else
   (Aw 58 (b::r)).bnd fun _ r=>(Aw 45 r).bnd fun _ r=>P6 h r:=rfl
  rw[hx];by_cases hb:((b.toNat:Int)==46)=true
  ·have hp:Aw 46 (b::r)= .got () r:=by unfold Aw;dsimp only;rw[if_pos hb]
   rw[if_pos hb,hp];rfl
  ·have hp:Aw 46 (b::r)= .bad (b::r):=by unfold Aw;dsimp only;rw[if_neg hb]
   rw[if_neg hb,hp,if_neg (by simp[Rd.ok])];unfold Ht P6 D4 Qn;rw[Fs];congr 1;funext u r1;congr 1;funext u r2;rw[Fs];congr 1;funext l r3;rw[Fs];rfl
theorem gN {t:Tx}{o:Nat}{N:List Tx}{id:Nat}{s:Tx}{y:St}(ht:t.length<=1000)(hR:RS Bd t o N id s y):
  ACalls Tryz.prog 164 [ptr o 0] y (X9 Bd t o N id y (L5 s)):=by
 have hn:=hR.lt;unfold L5 X9;simp only[dD];refine Z9 38 [.cell 2 97,.tmp 3] Tryz.func164 ?_
 repeat' (first|refine Z1 ?_|(refine Z8 ?_;intro ya J)|(refine Z4 ?_;clear J ya)|(refine Z2 ?_ ?_<;>intro h a4<;>try exact Xp)|(refine Z5 ?_;first|(refine Xi (Mf false ht (Zr)) ?_;rintro _ _ ⟨k,n,ids,c,N',id',rfl,au,av,ah,aj⟩;(have ao:=au.keep.nobj;(try simp only[Aa,Ac,Av]at ao);have a3:=au.keep.obj))|(refine Xi (Hr ht (Zr)) ?_;rintro _ _ ⟨rfl,aw,ab⟩;(have an:=aw.nobj;(try simp only[Aa,Ac,Av]at an);have a0:=aw.obj))|(refine Xi (bQ ht (by assumption)) ?_;rintro _ _ ⟨rfl,ax,af⟩;(have am:=ax.nobj;(try simp only[Aa,Ac,Av]at am);have az:=ax.obj))|(refine Xi (gP ht (by assumption)) ?_;rintro _ _ ⟨m,ib,d,N2,id2,rfl,ap,ac,ai,ae⟩;(have ak:=ap.keep.nobj;(try simp only[Aa,Ac,Av]at ak);have ay:=ap.keep.obj)))|refine Z3 ?_|exact Zt|(apply J.out;clear J ya))
 ·obtain⟨e,he⟩:=Rd.ok_false h;rw[he]at av⊢;simp only[Rd.rest]at av;exact⟨_,rfl,false,0,1,0,[],1,0,[],N',id',rfl,Zu,by show RS Bd t o N' id' e _;exact Zr,ah,trivial⟩
 ·obtain⟨a,r,he⟩:=Rd.ok_true (show (C2 false s).ok=true by assumption);rw[he]at h ab aj⊢;have h:(Aw 46 r).ok=true:=h;have ab:RS Bd t o N' id' (Aw 46 r).rest _:=ab;obtain⟨v1,v2,v3,v4⟩:PA N' a k n c:=aj;simp only[Rd.bnd,h,if_true];exact⟨_,rfl,false,k,ids,n,c,1,0,[],N',id',rfl,Zu,by show RS Bd t o N' id' (Aw 46 r).rest _;exact Zr,ah,⟨v1,ids,1,[],rfl,by rw[v2,v3,v4];rfl⟩⟩
 ·obtain⟨a,r,he⟩:=Rd.ok_true (show (C2 false s).ok=true by assumption);have aa:(Aw 46 (C2 false s).rest).ok=false:=by assumption
  rw[he]at h aa af⊢;have aa:(Aw 46 r).ok=false:=aa;rw[show (Rd.got a r).rest=r from rfl,Ja aa]at h af;obtain⟨e,hA⟩:=Rd.ok_false (show (Ht r).ok=false from h);have af:RS Bd t o N' id' (Ht r).rest _:=af;rw[hA]at af;simp only[Rd.rest]at af;simp only[Rd.bnd,aa,hA,Abq,if_false];exact⟨_,rfl,false,0,1,0,[],1,0,[],N',id',rfl,Zu,by show RS Bd t o N' id' e _;exact Zr,ah,trivial⟩
 ·obtain⟨a,r,he⟩:=Rd.ok_true (show (C2 false s).ok=true by assumption);have aa:(Aw 46 (C2 false s).rest).ok=false:=by assumption
  have ad:(Ht (Aw 46 (C2 false s).rest).rest).ok=true:=by assumption
  rw[he]at h aa ad ac⊢;have aa:(Aw 46 r).ok=false:=aa;rw[show (Rd.got a r).rest=r from rfl,Ja aa]at h ad ac;obtain⟨u,r2,hA⟩:=Rd.ok_true (show (Ht r).ok=true from ad);rw[show (Rd.bad r:Rd Unit).rest=r from rfl,hA]at h ac;obtain⟨e,hL⟩:=Rd.ok_false (show (D4 r2).ok=false from h);have ac:RS Bd t o N2 id2 (D4 r2).rest _:=ac;rw[hL]at ac;simp only[Rd.rest]at ac;simp only[Rd.bnd,aa,hA,hL,Abq,if_false];exact⟨_,rfl,false,0,1,0,[],1,0,[],N2,id2,rfl,Zu,by show RS Bd t o N2 id2 e _;exact Zr,ah.trans ai,trivial⟩
 ·obtain⟨a,r,he⟩:=Rd.ok_true (show (C2 false s).ok=true by assumption);have aa:(Aw 46 (C2 false s).rest).ok=false:=by assumption
  have ad:(Ht (Aw 46 (C2 false s).rest).rest).ok=true:=by assumption
  rw[he]at h aa ad ac aj ae ab⊢;have aa:(Aw 46 r).ok=false:=aa;rw[show (Rd.got a r).rest=r from rfl,Ja aa]at h ad ac ae ab;obtain⟨u,r2,hA⟩:=Rd.ok_true (show (Ht r).ok=true from ad);rw[show (Rd.bad r:Rd Unit).rest=r from rfl,hA]at h ac ae ab;obtain⟨ls,r3,hL⟩:=Rd.ok_true (show (D4 r2).ok=true from h);have ac:RS Bd t o N2 id2 (D4 r2).rest _:=ac;have ab:RS Bd t o N2 id2 (Aw 46 (D4 r2).rest).rest _:=ab;rw[show (Rd.got u r2).rest=r2 from rfl]at ae;rw[hL]at ac ab ae;obtain⟨v1,v2,v3,v4⟩:PA N' a k n c:=aj;obtain⟨w1,w2⟩:m=ls.length/\EL (PL N2) ls d:=ae;have ab:RS Bd t o N2 id2 (Aw 46 r3).rest _:=ab;simp only[Rd.bnd,Rd.rest,Ja aa,aa,hA,hL,Abq,if_false];cases hd:Aw 46 r3 with
  |bad e=>
   rw[hd]at ab;simp only[Rd.rest]at ab;exact⟨_,rfl,false,k,ids,n,c,ib,m,d,N2,id2,rfl,Zu,by show RS Bd t o N2 id2 e _;exact Zr,ah.trans ai,trivial⟩
  |got u2 r4=>
   rw[hd]at ab;simp only[Rd.rest]at ab;exact⟨_,rfl,false,k,ids,n,c,ib,m,d,N2,id2,rfl,Zu,by show RS Bd t o N2 id2 r4 _;exact Zr,ah.trans ai,⟨ai.subset v1,ids,ib,d,w2,by rw[v2,v3,v4,w1,Jv ai v1]⟩⟩
theorem dH (s:Tx):Ey s=if (Aw 63 s).ok=true then Yt (Aw 63 s).rest else L5 (Aw 63 s).rest:=by
 cases s with
 |nil=>rfl
 |cons b r=>
  unfold Ey Aw;dsimp only;split<;>simp[Rd.ok,Rd.rest]
theorem gO {t:Tx}{o:Nat}{N:List Tx}{id:Nat}{s:Tx}{y:St}(ht:t.length<=1000)(hR:RS Bd t o N id s y):
  ACalls Tryz.prog 120 [ptr o 0] y (X9 Bd t o N id y (Ey s)):=by
 have hn:=hR.lt;rw[dH];unfold X9;refine Z9 14 [.cell 2 97,.tmp 3] Tryz.func120 ?_
 repeat' (first|refine Z1 ?_|(refine Z8 ?_;intro ya J)|(refine Z4 ?_;clear J ya)|(refine Z2 ?_ ?_<;>intro h aj<;>try exact Xp)|(refine Z5 ?_;first|(refine Xi (Hr ht (Zr)) ?_;rintro _ _ ⟨rfl,ah,am⟩;(have ad:=ah.nobj;(try simp only[Aa,Ac,Av]at ad);have ai:=ah.obj))|(refine Xi (Yn ht (by assumption)) ?_;rintro _ _ ⟨b,k,ih,n,c,ib,m,d,N',id',rfl,ab,ak,af,ae⟩;(have aa:=ab.keep.nobj;(try simp only[Aa,Ac,Av]at aa);have ac:=ab.keep.obj))|(refine Xi (gN ht (by assumption)) ?_;rintro _ _ ⟨b,k,ih,n,c,ib,m,d,N',id',rfl,ab,ak,af,ae⟩;(have aa:=ab.keep.nobj;(try simp only[Aa,Ac,Av]at aa);have ac:=ab.keep.obj)))|refine Z3 ?_|exact Zt|(apply J.out;clear J ya))
 all_goals exact⟨_,rfl,b,k,ih,n,c,ib,m,d,N',id',rfl,Zu,Zr,af,ae⟩
variable {Bd:Nat}
def itI (s:Tx)(xs:List RItem)(q:Tx):Prop:=xs.length<=16/\Bf 16 s=(Bf (16-xs.length) q).bnd fun ys r=>.got (xs++ys) r
theorem itI.start (s:Tx):itI s [] s:=by
 refine⟨by simp,?_⟩;simp only[Abu,Acr,Ack];cases Bf 16 s<;>rfl
theorem Sz (n:Nat):Bf n []= .got [] []:=by cases n<;>rfl
theorem P5 (b:UInt8)(r:Tx):Bf 0 (b::r)= .bad (b::r):=rfl
theorem Ku (n:Nat)(b:UInt8)(r:Tx):Bf (n+1) (b::r)=(Ey (b::r)).bnd fun x r=>(Bf n r).bnd fun xs r=>.got (x::xs) r:=rfl
theorem itI.done {s:Tx}{xs:List RItem}(h:itI s xs []):Bf 16 s= .got xs []:=by
 rw[h.2,Sz];simp[Rd.bnd]
theorem itI.full {s:Tx}{xs:List RItem}{b:UInt8}{r:Tx}(h:itI s xs (b::r))(hl:xs.length=16):Bf 16 s= .bad (b::r):=by
 rw[h.2,hl,P5];rfl
theorem itI.fail {s:Tx}{xs:List RItem}{b:UInt8}{r e:Tx}(h:itI s xs (b::r))(hl:xs.length<16)(he:Ey (b::r)= .bad e):Bf 16 s= .bad e:=by
 obtain⟨k,hk⟩:∃k,16-xs.length=k+1:=⟨15-xs.length,Ad2⟩;rw[h.2,hk,Ku,he];rfl
theorem itI.next {s:Tx}{xs:List RItem}{b:UInt8}{r r2:Tx}{x:RItem}(h:itI s xs (b::r))(hl:xs.length<16)(he:Ey (b::r)= .got x r2):itI s (xs++[x]) r2:=by
 obtain⟨k,hk⟩:∃k,16-xs.length=k+1:=⟨15-xs.length,Ad2⟩;refine⟨by simp;omega,?_⟩;rw[h.2,hk,Ku,he,show 16-(xs++[x]).length=k by simp;omega];simp only[Rd.bnd];cases Bf k r2<;>simp
theorem Qh {σ0 y2:St}{id1 id2 ids n:Nat}(h:id1=1\/id1≠ids)(hO:Own σ0 y2 ids n)(hs:id2=id1\/y2.ntop+2<=id2):id2=1\/id2≠ids:=by
 rcases hO with⟨h1,-⟩|⟨k,h1,h2,h3,h4,h5⟩<;>omega
theorem cN {t:Tx}{o:Nat}{N:List Tx}{id:Nat}{s:Tx}{y:St}(ht:t.length<=1000)(hR:RS Bd t o N id s y):
  ACalls Tryz.prog 70 [ptr o 0] y fun x y'=>∃n ids c N' id',x=tp [sl ids n c,sc (.bool (Bf 16 s).ok)]/\Rs o y id y' id'/\RS Bd t o N' id' (Bf 16 s).rest y'/\N<+:N'/\Rd.Val (Bf 16 s) fun xs=>n=xs.length/\EL (PI N') xs c:=by
 have hn:=hR.lt;have a4:OwnN y id N.length:=hR.own;refine Z9 33 [.tmp 2,.tmp 3] Tryz.func70 ?_
 repeat' (first|refine Z1 ?_|(refine Z8 ?_;intro ya J)|(refine Z4 ?_;clear J ya)|(refine Z2 ?_ ?_<;>intro h ae<;>try exact Xp)|(refine Z6 ?_;intro idn yn af ah ac ab ad aa)|refine Z3 ?_|exact Zt|(apply J.out;clear J ya))
 refine Ab (fun m s' y'=>∃(xs:List RItem) (q:Tx) (ids:Nat) (d:List AV) (N2:List Tx) (id2:Nat),m=16-xs.length/\s' 0=ptr o 0/\s' 4=sl ids xs.length d/\Rs o y id y' id2/\RS Bd t o N2 id2 q y'/\Own y y' ids xs.length/\Ad8 (id2=1\/id2≠ids)/\N<+:N2/\xs.length<=16/\d.length=xs.length*4/\Ad8 (EL (PI N2) xs d)/\Ad8 (itI s xs q)) 16
  ⟨[],s,1,[],N,id,rfl,rfl,rfl,Rs.refl _ _ _,hR,Own.nil _ _,by rcases a4 with⟨e,-⟩|⟨k,e,-⟩;exact .inl e;exact .inr Ad2,List.prefix_refl _,by simp,by simp,rfl,itI.start s⟩ ?_
 rintro m s' y' ⟨xs,q,ids,d,N2,id2,rfl,h0,h4,hS,hR2,hO,av,ai,a0,a3,hE,hI⟩;have a8:=hS.keep.nobj;have a9:=hR2.lt;have am:=hR2.obj;have ap:=Gm hR2.suf;unfold Kc Qm at am
 repeat' (first|refine Z1 ?_|(refine Z8 ?_;intro ya J)|(refine Z4 ?_;clear J ya)|(refine Z2 ?_ ?_<;>intro h ae<;>try exact Xp)|(refine Z6 ?_;intro idn yn af ah ac ab ad aa)|refine Z3 ?_|exact Zt|(apply J.out;clear J ya))
 refine Aq Ad (fun _=>True) [9] [0,1,2,3,4,5,6,7,8] [9] Ad5 (fun _ _ _ h=>h) ?_;intro ya J;cases q with
 |nil=>
  simp only[Abu,Acr]at am ap;refine Z3 ?_
  repeat' (first|refine Z1 ?_|(refine Z8 ?_;intro ya J)|(refine Z4 ?_;clear J ya)|(refine Z2 ?_ ?_<;>intro h ae<;>try exact Xp)|(refine Z6 ?_;intro idn yn af ah ac ab ad aa)|refine Z3 ?_|exact Zt|(apply J.out;clear J ya))
  have hp:=hI.out.done
  first
  |exact⟨_,rfl,_,ids,d,N2,id2,by rw[hp];rfl,hS,by rw[hp];exact hR2,ai,by rw[hp];exact⟨rfl,hE.out⟩⟩
  |exact⟨_,rfl,_,ids,d,N2,id2,by rw[hp];rfl,by rw[hp];exact hR2,ai,by rw[hp];exact⟨rfl,hE.out⟩⟩
 |cons b0 r0=>
  simp only[Abv]at am ap;refine Z3 ?_;by_cases au:xs.length<16
  ·repeat' (first|refine Z1 ?_|(refine Z8 ?_;intro ya J)|(refine Z4 ?_;clear J ya)|(refine Z2 ?_ ?_<;>intro h ae<;>try exact Xp)|(refine Z6 ?_;intro idn yn af ah ac ab ad aa)|(refine Z5 ?_;refine Xi (gO ht (by assumption)) ?_;rintro _ _ ⟨b,k,ih,n,c,ib,m,e,N3,id3,rfl,an,ak,ao,aw⟩;(have az:=an.keep.nobj))|refine Z3 ?_|exact Zt|(apply J.out;clear J ya))
   ·exfalso;simp at h;omega
   ·rename_i y3;obtain⟨e2,he⟩:=Rd.ok_false h;have hp:=hI.out.fail au he;rw[he]at ak;simp only[Rd.rest]at ak;refine⟨_,rfl,0,1,[],N3,id3,by rw[hp];rfl,Zu,?_,ai.trans ao,by rw[hp];trivial⟩;rw[hp];show RS Bd t o N3 id3 e2 _;exact Zr
   ·rename_i y3;obtain⟨x,r2,he⟩:=Rd.ok_true h;have hp:=hI.out.next au he;rw[he]at ak aw;have hC:PI N3 x [sc (.bool b),sc (.int .i64 k),sl ih n c,sl ib m e]:=aw;have ak:RS Bd t o N3 id3 r2 y3:=ak;have ax:Rs o y id ((y3.new [sc (.bool false),sc (.int .i64 0),nilS,nilS]).put y3.nobj [sc (.bool b),sc (.int .i64 k),sl ih n c,sl ib m e]) id3:=Zu;have a6:=Own.keepR hO an.keep (M5 av.out hO);have a5:Own y ((y3.new [sc (.bool false),sc (.int .i64 0),nilS,nilS]).put y3.nobj [sc (.bool b),sc (.int .i64 k),sl ih n c,sl ib m e]) ids xs.length:=Own.put (Own.new a6 _) _ _;have ay:RS Bd t o N3 id3 r2 ((y3.new [sc (.bool false),sc (.int .i64 0),nilS,nilS]).put y3.nobj [sc (.bool b),sc (.int .i64 k),sl ih n c,sl ib m e]):=Zr;have aj:id3=1\/id3≠ids:=Qh av.out hO an.nid;refine Lw (o:=o) (idn:=id) (σ0:=y) (by first|exact Oy) ax.keep a5 (by decide) (by rfl) a3 (by rfl) (by rfl) (by decide) Ad2 Ad2 ?_;intro idn yn af ah ac ab ad aa etop hid;refine Z3 ?_
    repeat' (first|refine Z1 ?_|(refine Z8 ?_;intro ya J)|(refine Z4 ?_;clear J ya)|(refine Z2 ?_ ?_<;>intro h ae<;>try exact Xp)|(refine Z6 ?_;intro idn yn af ah ac ab ad aa)|refine Z3 ?_|exact Zt|(apply J.out;clear J ya))
    refine⟨16-(xs++[x]).length,by simp;omega,xs++[x],r2,idn,d++[sc (.bool b),sc (.int .i64 k),sl ih n c,sl ib m e],N3,id3,rfl,by simp,⟨ah,ax.nid⟩,ay.app ac ab aa etop aj,by simpa using af,Pu ay.own aj hid,ai.trans ao,by simp;omega,by simp;omega,EL.append (hE.out.mono (PI.mono ao)) (EL.single hC),hp⟩
  ·have a7:xs.length=16:=Ad2;have hp:=hI.out.full a7;have HP:Ad8 _:=hp;clear hp
   repeat' (first|refine Z1 ?_|(refine Z8 ?_;intro ya J)|(refine Z4 ?_;clear J ya)|(refine Z2 ?_ ?_<;>intro h ae<;>try exact Xp)|(refine Z6 ?_;intro idn yn af ah ac ab ad aa)|refine Z3 ?_|exact Zt|(apply J.out;clear J ya))
   first
   |exact⟨_,rfl,0,1,[],N2,id2,by rw[HP.out];rfl,hS,by rw[HP.out];exact hR2,ai,by rw[HP.out];trivial⟩
   |exact⟨_,rfl,0,1,[],N2,id2,by rw[HP.out];rfl,by rw[HP.out];exact hR2,ai,by rw[HP.out];trivial⟩
end Go.Proofs.YtmoeoppbmhfbpaaGreatDoorH
