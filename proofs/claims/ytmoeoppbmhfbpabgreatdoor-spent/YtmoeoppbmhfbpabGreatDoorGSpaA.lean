import Derived.Test.YtmoeoppbmhfbpabGreatDoorGProgK
import Derived.Test.YtmoeoppbmhfbpabGreatDoorGRefA
set_option maxHeartbeats 16000000
set_option maxRecDepth 100000
set_option linter.all false
namespace Go.Proofs.YtmoeoppbmhfbpabGreatDoorG
open Go.Abs
abbrev Sw:=(Nat->Bool)×(Nat->Bool×Int)
def Kd:Sw:=(fun _=>false,fun _=>(false,0))
def cE (s:Sw)(n:Nat):AV:=if n<26 then sc (.bool (s.1 n))else if n % 2=0 then sc (.bool (s.2 ((n-26) / 2)).1)else sc (.int .i64 (s.2 ((n-26) / 2)).2)
def Db (s:Sw):List AV:=(List.range 78).map (cE s)
theorem Cr (s:Sw):(Db s).length=78:=by simp[Db]
theorem Oe:swZ.map cst1=Db Kd:=rfl
theorem sB {s:Sw}{i:Nat}(h:i<26):(Db s)[i]?=some (sc (.bool (s.1 i))):=by
 simp[Db,cE,h,show i<78 by omega]
theorem sA {s:Sw}{i:Nat}(h:i<26)(v:Bool):(Db s).set i (sc (.bool v))=Db (fun j=>if j=i then v else s.1 j,s.2):=by
 apply Ad8;intro n;rw[List.getElem?_set];by_cases hn:n<78
 ·by_cases he:i=n
  ·subst he;simp[Db,cE,h,hn]
  ·have:n≠i:=fun e=>he e.symm;simp[Db,cE,hn,he,this]
 ·have:i≠n:=Agm;simp[Db,hn,this]
theorem S5 {s:Sw}{n:Nat}(h:n<78):(Db s)[n]?=some (cE s n):=by simp[Db,h]
theorem cF (s:Sw){i:Nat}(h:i<26):∃r,(Db s).drop (26+i*2)=sc (.bool (s.2 i).1)::sc (.int .i64 (s.2 i).2)::r:=by
 have e1:cE s (26+i*2)=sc (.bool (s.2 i).1):=by
  unfold cE;rw[if_neg Agm,if_pos Agm,show (26+i*2-26) / 2=i by omega]
 have e2:cE s (26+i*2+1)=sc (.int .i64 (s.2 i).2):=by
  unfold cE;rw[if_neg Agm,if_neg Agm,show (26+i*2+1-26) / 2=i by omega]
 refine⟨(Db s).drop (26+i*2+1+1),?_⟩;have l1:26+i*2<(Db s).length:=by rw[Cr];omega
 have l2:26+i*2+1<(Db s).length:=by rw[Cr];omega
 rw[Aep l1,Aep l2];have g1:=List.getElem?_eq_getElem l1;have g2:=List.getElem?_eq_getElem l2;rw[S5 Agm,e1]at g1;rw[S5 Agm,e2]at g2;rw[<-Afh g1,<-Afh g2]
theorem rZ (s:Sw){i:Nat}(h:i<26)(b:Bool)(v:Int):lsp (Db s) (26+i*2) [sc (.bool b),sc (.int .i64 v)]=Db (s.1,fun j=>if j=i then (b,v)else s.2 j):=by
 rw[Gg _ _ _ (by rw[Cr];simp;omega)];apply Ad8;intro n;have hl:=Cr s;by_cases hn:n<78
 ·rw[S5 hn];by_cases c1:n<26+i*2
  ·rw[Aeg,List.getElem?_append_left (by rw[Aef];omega),List.getElem?_take,if_pos c1,S5 hn];congr 1;unfold cE;by_cases c:n<26
   ·rw[if_pos c,if_pos c]
   ·have:(n-26) / 2≠i:=Agm;simp[c,this]
  ·by_cases c2:n<26+i*2+2
   ·rw[Aeg,List.getElem?_append_right (by rw[Aef];omega),Aef,Aej Agm];rcases (show n=26+i*2\/n=26+i*2+1 by omega)with e|e
    ·subst e;simp only[Ae2,Aes,List.getElem?_cons_zero];unfold cE;rw[if_neg Agm,if_pos Agm,show (26+i*2-26) / 2=i by omega];simp
    ·subst e;rw[show 26+i*2+1-(26+i*2)=1 by omega];simp only[Aes,List.getElem?_cons_succ,List.getElem?_cons_zero];unfold cE;rw[if_neg Agm,if_neg Agm,show (26+i*2+1-26) / 2=i by omega];simp
   ·rw[List.getElem?_append_right (by simp[Aef];omega)];simp only[Aee,Aef,Aen,Aem];rw[List.getElem?_drop,Aej Agm,show 26+i*2+2+(n-(26+i*2+(0+1+1)))=n by omega,S5 hn];congr 1;unfold cE;have:(n-26) / 2≠i:=Agm;have c:¬n<26:=Agm;simp[c,this]
 ·rw[List.getElem?_eq_none (by simp[Aef,Cr];omega),List.getElem?_eq_none (by rw[Cr];omega)]
theorem rY (s:Sw){i:Nat}(h:i<26)(b:Bool)(v:Int):((Db s).set (26+i*2) (sc (.bool b))).set (26+i*2+1) (sc (.int .i64 v))=Db (s.1,fun j=>if j=i then (b,v)else s.2 j):=rZ s h b v
def F8 (s:Sw)(e b:Bool×Int):Option Sw:=
 if e.1=true then
  (if s.1 e.2.toNat=true then (if s.2 e.2.toNat=b then some s else none)
   else some (fun j=>if j=e.2.toNat then true else s.1 j,fun j=>if j=e.2.toNat then b else s.2 j))
 else if e=b then some s else none
def Cf:Sw->List (Bool×Int)->List (Bool×Int)->Option Sw
 |s,[],_=>some s
 |_,_::_,[]=>none
 |s,e::es,b::bs=>(F8 s e b).bind fun s'=>Cf s' es bs
def N7:Option Sw->AV
 |some s=>tp [ag (Db s),sc (.bool true)]
 |none=>tp [ag (Db Kd),sc (.bool false)]
def varOk (t:Tx):Prop:=(Am t).1=true->∃k:Nat,k<26/\(Am t).2=(k:Int)
theorem gH {s:Sw}{ts us:List Tx}{k:Nat}{t u:Tx}(ht:ts[k]?=some t)(hu:us[k]?=some u):Cf s ((ts.drop k).map Am) ((us.drop k).map Am)=(F8 s (Am t) (Am u)).bind fun s'=>Cf s' ((ts.drop (k+1)).map Am) ((us.drop (k+1)).map Am):=by
 have h1:=(List.getElem?_eq_some_iff.1 ht);have h2:=(List.getElem?_eq_some_iff.1 hu);obtain⟨l1,e1⟩:=h1;obtain⟨l2,e2⟩:=h2;rw[Aep l1,Aep l2,e1,e2];rfl
theorem Vw (s:Sw)(p q:Int)(ts us:List Tx)(i1 i2:Nat)(hl:p=q->ts.length=us.length)(hn:ts.length<=1000)(hv:∀t∈ts,varOk t)(A:St):
  ACalls Tryz.prog 147 [ag (Db s),ag [sc (.int .i64 p),sl i1 ts.length (Ay ts)],ag [sc (.int .i64 q),sl i2 us.length (Ay us)]] A fun r A'=>r=N7 (if p=q then Cf s (ts.map Am) (us.map Am)else none)/\Keep A A':=by
 have a6:=Ek ts;have a5:=Ek us;have a9:=Cr;have a8:=Oe;have a7:∀s,List.take 78 (Db s)=Db s:=fun s=>Aex (by rw[Cr];exact Adn _);have bd:∀s s',lsp (Db s) 0 (Db s')=Db s':=fun s s'=>L4 (by rw[Cr,Cr]);have be:∀s,(Db s).all flat=true:=fun s=>by
  rw[Ads];intro x hx;obtain⟨n,-,rfl⟩:=Aey.1 hx;unfold cE;split
  ·rfl
  ·split<;>rfl
 by_cases ae:p=q
 ·have am:Agt (ts.length=us.length):=hl ae;have hb:(p !=q)=false:=by simp[ae]
  rw[if_pos ae];clear hl ae;refine Z9 62 [.cell 6 154,.tmp 7] Tryz.func147 ?_
  repeat' (first|refine Z1 ?_|(refine Z8 ?_;intro κ hκ)|(refine Z4 ?_;clear hκ κ)|(refine Z2 ?_ ?_<;>intro h ab<;>try exact Xp)|refine Z3 ?_|exact⟨⟩|(apply hκ.out;clear hκ κ))
  refine Ag (fun m s0 A'=>∃(k:Nat) (s':Sw),m=ts.length-k/\k<=ts.length/\s0 3=ptr A.nobj 0/\s0 5=ptr (A.nobj+2) 0/\s0 6=ptr (A.nobj+3) 0/\s0 18=sl i1 ts.length (Ay ts)/\s0 19=sc (.int .i64 ts.length)/\s0 20=sc (.int .i64 k)/\Keep A A'/\A.nobj+3<A'.nobj/\A'.obj A.nobj=Db s'/\A'.obj (A.nobj+2)=[sc (.int .i64 q),sl i2 us.length (Ay us)]/\A'.obj (A.nobj+3)=Db Kd/\Agt (Cf s (ts.map Am) (us.map Am)=Cf s' ((ts.drop k).map Am) ((us.drop k).map Am))) ts.length
   ⟨0,s,Agm,Agm,Ago,Ago,Ago,Ago,Ago,rfl,Xs,Agq,?_,?_,?_,by simp[Agt]⟩ ?_
  ·rw[Af Agq,Af Agq,Af Agq,Ap]
  ·rw[Af Agq,Bs Agq Agq]
  ·rw[Bs Agq Agq]
  rintro m s0 A' ⟨k,s',rfl,hk,h3,h5,h6,bh,bg,bf,hK,hno,a3,a0,az,hW⟩;have a4:=hK.nobj;by_cases an:k<ts.length
  ·have av:k<us.length:=by have:=am.out;omega
   have g1:=List.getElem?_eq_getElem an;have g2:=List.getElem?_eq_getElem av;have ah:=hv ts[k] (Afa an);obtain⟨r1,au⟩:=Fj g1;obtain⟨r2,ap⟩:=Fj g2;have ac:Agt (Cf s (ts.map Am) (us.map Am)=(F8 s' (Am ts[k]) (Am us[k])).bind fun s'=>Cf s' ((ts.drop (k+1)).map Am) ((us.drop (k+1)).map Am)):=by rw[Agt,hW.out,gH g1 g2]
   unfold varOk at ah;clear g1 g2 hW;generalize Am ts[k]=e at au ac ah;generalize Am us[k]=b at ap ac;obtain⟨e1,e2⟩:=e;obtain⟨b1,b2⟩:=b;dsimp only at au ap ah;cases e1 with
   |true=>
    obtain⟨kk,aj,rfl⟩:=ah rfl;have ao:=sB (s:=s') aj;obtain⟨r3,ak⟩:=cF s' aj;cases ad:s'.1 kk with
    |true=>
     rw[ad]at ao;by_cases aa:s'.2 kk=(b1,b2)
     ·have ai:Agt (Cf s (ts.map Am) (us.map Am)=Cf s' ((ts.drop (k+1)).map Am) ((us.drop (k+1)).map Am)):=by
       rw[Agt,ac.out];unfold F8;simp[ad,aa]
      rw[aa]at ak;dsimp only at ak;clear ac ad aa
      repeat' (first|refine Z1 ?_|(refine Z8 ?_;intro κ hκ)|(refine Z4 ?_;clear hκ κ)|(refine Z2 ?_ ?_<;>intro h ab<;>try exact Xp)|refine Z3 ?_|exact⟨⟩|(apply hκ.out;clear hκ κ))
      exact⟨ts.length-(k+1),Agm,k+1,s',rfl,Agm,by simp,((((hK.new _).put hK.nobj _).new _).put Agm _).put hK.nobj _,Agm,rfl,ai⟩
     ·have af:Agt (Cf s (ts.map Am) (us.map Am)=none):=by
       rw[Agt,ac.out];unfold F8;simp[ad,aa]
      clear ac ad;generalize s'.2 kk=g at ak aa;obtain⟨c1,c2⟩:=g;have ay:(c1==b1&&c2==b2)=false:=by
       cases hq:(c1==b1&&c2==b2)with
       |false=>rfl
       |true=>simp at hq;exact absurd (by rw[hq.1,hq.2]) aa
      dsimp only at ak;clear aa
      repeat' (first|refine Z1 ?_|(refine Z8 ?_;intro κ hκ)|(refine Z4 ?_;clear hκ κ)|(refine Z2 ?_ ?_<;>intro h ab<;>try exact Xp)|refine Z3 ?_|exact⟨⟩|(apply hκ.out;clear hκ κ))
      exact⟨_,rfl,by rw[af.out];rfl,(((((hK.new _).put hK.nobj _).new _).put Agm _).put hK.nobj _).put Agm _⟩
    |false=>
     rw[ad]at ao;have bb:=sA (s:=s') aj true;have ba:=fun s'=>rY s' aj b1 b2;have ai:Agt (Cf s (ts.map Am) (us.map Am)=Cf (fun j=>if j=kk then true else s'.1 j,fun j=>if j=kk then (b1,b2)else s'.2 j) ((ts.drop (k+1)).map Am) ((us.drop (k+1)).map Am)):=by
      rw[Agt,ac.out];unfold F8;simp[ad]
     obtain⟨r4,ax⟩:=cF (fun j=>if j=kk then true else s'.1 j,fun j=>if j=kk then (b1,b2)else s'.2 j) aj;simp only[if_true]at ax;clear ac ad
     repeat' (first|refine Z1 ?_|(refine Z8 ?_;intro κ hκ)|(refine Z4 ?_;clear hκ κ)|(refine Z2 ?_ ?_<;>intro h ab<;>try exact Xp)|refine Z3 ?_|exact⟨⟩|(apply hκ.out;clear hκ κ))
     exact⟨ts.length-(k+1),Agm,k+1,(fun j=>if j=kk then true else s'.1 j,fun j=>if j=kk then (b1,b2)else s'.2 j),rfl,Agm,by simp,((((((hK.new _).put hK.nobj _).new _).put Agm _).put (Adn _) _).put (Adn _) _).put hK.nobj _,Agm,rfl,ai⟩
   |false=>
    by_cases aa:(false,e2)=(b1,b2)
    ·have ai:Agt (Cf s (ts.map Am) (us.map Am)=Cf s' ((ts.drop (k+1)).map Am) ((us.drop (k+1)).map Am)):=by
      rw[Agt,ac.out];unfold F8;simp[aa]
     cases aa;clear ac ah
     repeat' (first|refine Z1 ?_|(refine Z8 ?_;intro κ hκ)|(refine Z4 ?_;clear hκ κ)|(refine Z2 ?_ ?_<;>intro h ab<;>try exact Xp)|refine Z3 ?_|exact⟨⟩|(apply hκ.out;clear hκ κ))
     exact⟨ts.length-(k+1),Agm,k+1,s',rfl,Agm,by simp,(((hK.new _).put hK.nobj _).new _).put Agm _,Agm,rfl,ai⟩
    ·have af:Agt (Cf s (ts.map Am) (us.map Am)=none):=by
      rw[Agt,ac.out];unfold F8;simp[aa]
     have ay:(false==b1&&e2==b2)=false:=by
      cases hq:(false==b1&&e2==b2)with
      |false=>rfl
      |true=>simp at hq;exact absurd (by rw[<-hq.1,hq.2]) aa
     clear ac ah aa
     repeat' (first|refine Z1 ?_|(refine Z8 ?_;intro κ hκ)|(refine Z4 ?_;clear hκ κ)|(refine Z2 ?_ ?_<;>intro h ab<;>try exact Xp)|refine Z3 ?_|exact⟨⟩|(apply hκ.out;clear hκ κ))
     exact⟨_,rfl,by rw[af.out];rfl,((((hK.new _).put hK.nobj _).new _).put Agm _).put Agm _⟩
  ·have aw:k=ts.length:=Agm;subst aw;have hR:Cf s (ts.map Am) (us.map Am)=some s':=by rw[hW.out,List.drop_length];simp[Cf]
   repeat' (first|refine Z1 ?_|(refine Z8 ?_;intro κ hκ)|(refine Z4 ?_;clear hκ κ)|(refine Z2 ?_ ?_<;>intro h ab<;>try exact Xp)|refine Z3 ?_|exact⟨⟩|(apply hκ.out;clear hκ κ))
   exact⟨_,rfl,rfl,hK.put Agm _⟩
 ·have hb:(p !=q)=true:=by simpa using ae
  rw[if_neg ae];clear hl ae;refine Z9 62 [.cell 6 154,.tmp 7] Tryz.func147 ?_
  repeat' (first|refine Z1 ?_|(refine Z8 ?_;intro κ hκ)|(refine Z4 ?_;clear hκ κ)|(refine Z2 ?_ ?_<;>intro h ab<;>try exact Xp)|refine Z3 ?_|exact⟨⟩|(apply hκ.out;clear hκ κ))
  exact⟨_,rfl,rfl,((((((Keep.refl _).new _).new _).new _).new _).put Agm _)⟩
structure Lt where
 nt:Bool
 pr:Nat
 es:List (Bool×Int)
def Fp (left:List Lt):List Lt->Sw->Option Sw
 |[],s=>some s
 |x::xs,s=>left.findSome? fun b=>if b.nt=x.nt/\x.pr=b.pr then (Cf s x.es b.es).bind (Fp left xs)else none
def Fv (e:Tx->Bool×Int)(N:List Tx)(a:RAtom):Lt:=⟨a.nt,N.idxOf a.pred,a.terms.map e⟩
def kF (θ:Tx->Tx)(t:Tx):Tx:=if Ad t=true then θ t else t
def mP (θ:Tx->Tx)(a b:RAtom):Prop:=a.nt=b.nt/\a.pred=b.pred/\a.terms.map (kF θ)=b.terms
def Vd (x:RItem)(k:Nat):Prop:=∃θ:Tx->Tx,(∀t∈x.head.terms,Ad t=true->θ t=t)/\∀a∈x.body,∃b∈x.body.eraseIdx k,mP θ a b
structure Tell (e:Tx->Bool×Int)(U:Tx->Prop):Prop where
 var:∀t,U t->(e t).1=Ad t
 inj:∀t u,U t->U u->e t=e u->t=u
 pos:∀t,U t->Ad t=true->0<=(e t).2
def Vg (e:Tx->Bool×Int)(t:Tx):Nat:=(e t).2.toNat
theorem Tell.same {e:Tx->Bool×Int}{U:Tx->Prop}(T:Tell e U){t u:Tx}(ht:U t)(hu:U u)(vt:Ad t=true)(vu:Ad u=true)(h:Vg e t=Vg e u):t=u:=by
 apply T.inj t u ht hu;have h1:=T.var t ht;have h2:=T.var u hu;have h3:=T.pos t ht vt;have h4:=T.pos u hu vu;unfold Vg at h;apply Afi
 ·rw[h1,h2,vt,vu]
 ·omega
def Agr (e:Tx->Bool×Int)(U:Tx->Prop)(s:Sw)(θ:Tx->Tx):Prop:=∀t,U t->Ad t=true->s.1 (Vg e t)=true->s.2 (Vg e t)=e (θ t)
def Grow (s s':Sw):Prop:=∀k,s.1 k=true->s'.1 k=true/\s'.2 k=s.2 k
theorem Grow.refl (s:Sw):Grow s s:=fun k h=>⟨h,rfl⟩
theorem Grow.trans {a b c:Sw}(h:Grow a b)(g:Grow b c):Grow a c:=fun k hk=>by
 obtain⟨h1,h2⟩:=h k hk;obtain⟨g1,g2⟩:=g k h1;exact⟨g1,g2.trans h2⟩
def Bec (e:Tx->Bool×Int)(s:Sw)(t u:Tx):Prop:=if Ad t=true then s.1 (Vg e t)=true/\s.2 (Vg e t)=e u else e t=e u
theorem Bec.grow {e:Tx->Bool×Int}{s s':Sw}{t u:Tx}(h:Bec e s t u)(g:Grow s s'):Bec e s' t u:=by
 unfold Bec at*
 split
 ·rename_i hv;rw[if_pos hv]at h;obtain⟨g1,g2⟩:=g _ h.1;exact⟨g1,g2.trans h.2⟩
 ·rename_i hv;rw[if_neg hv]at h;exact h
section
variable {e:Tx->Bool×Int} {U:Tx->Prop} (T:Tell e U)
include T
theorem Wz {s:Sw}{θ:Tx->Tx}{t u:Tx}(ha:Agr e U s θ)(ht:U t)(hu:kF θ t=u):∃s',F8 s (e t) (e u)=some s'/\Agr e U s' θ:=by
 unfold kF at hu;unfold F8;rw[T.var t ht];split at hu
 ·rename_i hv;subst hu;rw[if_pos hv];by_cases hs:s.1 (e t).2.toNat=true
  ·rw[if_pos hs,if_pos (show s.2 (e t).2.toNat=e (θ t)from ha t ht hv hs)];exact⟨s,rfl,ha⟩
  ·rw[if_neg hs];refine⟨_,rfl,fun t' ab aa h'=>?_⟩;by_cases he:Vg e t'=(e t).2.toNat
   ·have:=T.same ab ht aa hv he;subst this;simp[Vg]
   ·dsimp only at h'⊢;rw[if_neg he]at h'⊢;exact ha t' ab aa h'
 ·rename_i hv;subst hu;rw[if_neg hv,if_pos rfl];exact⟨s,rfl,ha⟩
theorem Vy:∀(ts us:List Tx) (s:Sw) (θ:Tx->Tx),Agr e U s θ->(∀t∈ts,U t)->ts.map (kF θ)=us->∃s',Cf s (ts.map e) (us.map e)=some s'/\Agr e U s' θ
 |[],us,s,θ,ha,_,_=>⟨s,by simp[Cf],ha⟩
 |t::ts,us,s,θ,ha,hU,hu=>by
  subst hu;obtain⟨s1,h1,h2⟩:=Wz T (u:=kF θ t) ha (hU t (by simp)) rfl;obtain⟨s2,h3,h4⟩:=Vy ts _ s1 θ h2 (fun t' h=>hU t' (by simp[h])) rfl;refine⟨s2,?_,h4⟩;simp only[Ad9,Cf,h1,Aei];exact h3
theorem sG {s s':Sw}{t u:Tx}(ht:U t)(h:F8 s (e t) (e u)=some s'):Grow s s'/\Bec e s' t u:=by
 unfold F8 at h;rw[T.var t ht]at h;unfold Bec;split at h
 ·rename_i hv;rw[if_pos hv];split at h
  ·rename_i hs;split at h
   ·rename_i hb;cases h;exact⟨Grow.refl _,hs,hb⟩
   ·cases h
  ·rename_i hs;cases h;refine⟨fun k hk=>?_,by simp[Vg],by simp[Vg]⟩;have:k≠(e t).2.toNat:=fun e=>hs (e ▸ hk);simp[this,hk]
 ·rename_i hv;rw[if_neg hv];split at h
  ·rename_i hb;cases h;exact⟨Grow.refl _,hb⟩
  ·cases h
theorem R5:∀(ts us:List Tx) (s s':Sw),(∀t∈ts,U t)->Cf s (ts.map e) (us.map e)=some s'->Grow s s'/\∀(i:Nat) (t u:Tx),ts[i]?=some t->us[i]?=some u->Bec e s' t u
 |[],us,s,s',_,h=>by
  simp only[Aea,Cf]at h;cases h;exact⟨Grow.refl _,fun i t u ht=>by simp at ht⟩
 |t::ts,[],s,s',_,h=>by simp[Cf]at h
 |t::ts,u::us,s,s',hU,h=>by
  simp only[Ad9,Cf]at h;cases h1:F8 s (e t) (e u)with
  |none=>rw[h1]at h;cases h
  |some s1=>
   rw[h1]at h;simp only[Aei]at h;obtain⟨g1,b1⟩:=sG T (hU t (by simp)) h1;obtain⟨g2,b2⟩:=R5 ts us s1 s' (fun t' h=>hU t' (by simp[h])) h;refine⟨g1.trans g2,fun i t' u' ht hu=>?_⟩;cases i with
   |zero=>simp at ht hu;subst ht;subst hu;exact b1.grow g2
   |succ i=>simp at ht hu;exact b2 i t' u' ht hu
theorem X0 (N:List Tx)(left:List RAtom)(θ:Tx->Tx):∀(lits:List RAtom) (s:Sw),Agr e U s θ->(∀a∈lits,∀t∈a.terms,U t)->(∀a∈lits,∃b∈left,mP θ a b)->∃s',Fp (left.map (Fv e N)) (lits.map (Fv e N)) s=some s'
 |[],s,_,_,_=>⟨s,by simp[Fp]⟩
 |a::lits,s,ha,hU,hl=>by
  obtain⟨b,hb,h1,h2,h3⟩:=hl a (by simp);obtain⟨s1,w1,a1⟩:=Vy T a.terms b.terms s θ ha (hU a (by simp)) h3;obtain⟨s2,o2⟩:=X0 N left θ lits s1 a1 (fun a' h=>hU a' (by simp[h])) (fun a' h=>hl a' (by simp[h]));simp only[Ad9,Fp];have aa:(left.map (Fv e N)).findSome? (fun b=>if b.nt=(Fv e N a).nt/\(Fv e N a).pr=b.pr then (Cf s (Fv e N a).es b.es).bind (Fp (left.map (Fv e N)) (lits.map (Fv e N)))else none)≠none:=by
   intro hn;rw[List.findSome?_eq_none_iff]at hn;have:=hn (Fv e N b) (Aey.2 ⟨b,hb,rfl⟩);rw[if_pos ⟨h1.symm,by simp[Fv,h2]⟩]at this;have w1':Cf s (Fv e N a).es (Fv e N b).es=some s1:=w1;rw[w1',Aei,o2]at this;cases this
  exact Option.ne_none_iff_exists'.1 aa
theorem dV (N:List Tx)(left:List RAtom):∀(lits:List RAtom) (s s':Sw),(∀a∈lits,a.pred∈N/\∀t∈a.terms,U t)->(∀b∈left,b.pred∈N)->Fp (left.map (Fv e N)) (lits.map (Fv e N)) s=some s'->Grow s s'/\∀a∈lits,∃b∈left,a.nt=b.nt/\a.pred=b.pred/\∀(i:Nat) (t u:Tx),a.terms[i]?=some t->b.terms[i]?=some u->Bec e s' t u
 |[],s,s',_,_,h=>by
  simp only[Aea,Fp]at h;cases h;exact⟨Grow.refl _,fun a h=>by cases h⟩
 |a::lits,s,s',hU,hN,h=>by
  simp only[Ad9,Fp]at h;rw[List.findSome?_eq_some_iff]at h;obtain⟨l1,c,l2,hl,hc,-⟩:=h;have ac:c∈left.map (Fv e N):=by rw[hl];simp
  obtain⟨b,hb,rfl⟩:=Aey.1 ac;split at hc
  ·rename_i aa;cases hw:Cf s (Fv e N a).es (Fv e N b).es with
   |none=>rw[hw]at hc;cases hc
   |some s1=>
    rw[hw]at hc;simp only[Aei]at hc;obtain⟨g1,b1⟩:=R5 T a.terms b.terms s s1 (hU a (by simp)).2 hw;obtain⟨g2,b2⟩:=dV N left lits s1 s' (fun a' h=>hU a' (by simp[h])) hN hc;refine⟨g1.trans g2,fun a' ab=>?_⟩;rcases Aeq.1 ab with rfl|ab
    ·exact⟨b,hb,aa.1.symm,Ef (hU _ (by simp)).1 (hN b hb) aa.2,fun i t u ht hu=>(b1 i t u ht hu).grow g2⟩
    ·exact b2 a' ab
  ·cases hc
end
theorem Vx {e:Tx->Bool×Int}{U:Tx->Prop}(T:Tell e U)(ts:List Tx)(hU:∀t∈ts,U t):∃s,Cf Kd (ts.map e) (ts.map e)=some s/\(∀θ:Tx->Tx,(∀t∈ts,Ad t=true->θ t=t)->∀t,U t->Ad t=true->s.1 (Vg e t)=true->t∈ts)/\∀t∈ts,Bec e s t t:=by
 have key:∀(us:List Tx) (s:Sw),(∀t∈us,U t)->(∀t,U t->Ad t=true->s.1 (Vg e t)=true->s.2 (Vg e t)=e t)->∃s',Cf s (us.map e) (us.map e)=some s'/\(∀t,U t->Ad t=true->s'.1 (Vg e t)=true->s'.2 (Vg e t)=e t/\(t∈us\/s.1 (Vg e t)=true)):=by
  intro us;induction us with
  |nil=>exact fun s _ ha=>⟨s,by simp[Cf],fun t ht hv h=>⟨ha t ht hv h,.inr h⟩⟩
  |cons u us ih=>
   intro s hU ha;obtain⟨s1,h1,h2⟩:=Wz T (θ:=fun t=>t) (t:=u) (u:=u) ha (hU u (by simp)) (by unfold kF;split<;>rfl);obtain⟨s2,h3,h4⟩:=ih s1 (fun t h=>hU t (by simp[h])) h2;refine⟨s2,by simp only[Ad9,Cf,h1,Aei];exact h3,fun t ht hv h=>?_⟩;obtain⟨q1,q2⟩:=h4 t ht hv h;refine⟨q1,?_⟩;rcases q2 with q2|q2
   ·exact .inl (by simp[q2])
   ·unfold F8 at h1;rw[T.var u (hU u (by simp))]at h1;split at h1
    ·rename_i aa;split at h1
     ·split at h1
      ·cases h1;exact .inr q2
      ·cases h1
     ·cases h1;dsimp only at q2;by_cases he:Vg e t=(e u).2.toNat
      ·have:=T.same ht (hU u (by simp)) hv aa he;exact .inl (by simp[this])
      ·rw[if_neg he]at q2;exact .inr q2
    ·split at h1
     ·cases h1;exact .inr q2
     ·cases h1
 obtain⟨s,h1,h2⟩:=key ts Kd hU (fun t _ _ h=>by simp[Kd]at h);obtain⟨-,b1⟩:=R5 T ts ts Kd s hU h1;refine⟨s,h1,fun θ _ t ht hv h=>?_,fun t ht=>?_⟩
 ·rcases (h2 t ht hv h).2 with q|q
  ·exact q
  ·simp[Kd]at q
 ·obtain⟨i,hi⟩:=List.getElem?_of_mem ht;exact b1 i t t hi hi
theorem M8 {e:Tx->Bool×Int}{U:Tx->Prop}(T:Tell e U)(N:List Tx)(x:RItem)(k:Nat)(hN:∀a∈x.body,a.pred∈N)(af:∀t∈x.head.terms,U t)(ac:∀a∈x.body,∀t∈a.terms,U t)
  (ad:∀a∈x.body,∀b∈x.body,a.pred=b.pred->a.terms.length=b.terms.length) (ab:∀t,U t->∀u,U u->e t=e u->t=u):
  ∃s0,Cf Kd (x.head.terms.map e) (x.head.terms.map e)=some s0/\((∃s',Fp ((x.body.eraseIdx k).map (Fv e N)) (x.body.map (Fv e N)) s0=some s')↔Vd x k):=by
 obtain⟨s0,h0,h1,h2⟩:=Vx T x.head.terms af;refine⟨s0,h0,?_,?_⟩
 ·rintro⟨s',ak⟩;have aa:∀b∈x.body.eraseIdx k,b∈x.body:=fun b hb=>Afj hb;obtain⟨g,ae⟩:=dV T N (x.body.eraseIdx k) x.body s0 s' (fun a ha=>⟨hN a ha,ac a ha⟩) (fun b hb=>hN b (aa b hb)) ak;have hex:∀t:Tx,∃u:Tx,(U t/\Ad t=true/\∃u',U u'/\s'.2 (Vg e t)=e u')->(U u/\s'.2 (Vg e t)=e u):=fun t=>by
   by_cases h:U t/\Ad t=true/\∃u',U u'/\s'.2 (Vg e t)=e u'
   ·obtain⟨u,hu⟩:=h.2.2;exact⟨u,fun _=>hu⟩
   ·exact⟨t,fun h'=>absurd h' h⟩
  let θ:Tx->Tx:=fun t=>Classical.choose (hex t);have hθ:∀t u,U t->Ad t=true->U u->s'.2 (Vg e t)=e u->θ t=u:=fun t u ht hv hu h=>by
   obtain⟨q1,q2⟩:=Classical.choose_spec (hex t) ⟨ht,hv,u,hu,h⟩;exact ab _ q1 _ hu (q2.symm.trans h)
  refine⟨θ,fun t ht hv=>?_,fun a ha=>?_⟩
  ·have:=(h2 t ht).grow g;unfold Bec at this;rw[if_pos hv]at this;exact hθ t t (af t ht) hv (af t ht) this.2
  ·obtain⟨b,hb,c1,c2,c3⟩:=ae a ha;have aj:=aa b hb;refine⟨b,hb,c1,c2,?_⟩;have hl:=ad a ha b aj c2;apply Ad8;intro i;rw[List.getElem?_map];by_cases hi:i<a.terms.length
   ·have e1:=List.getElem?_eq_getElem hi;have e2:=List.getElem?_eq_getElem (show i<b.terms.length by omega);have ai:=ac a ha _ (Afa hi);have ah:=ac b aj _ (Afa (show i<b.terms.length by omega));have:=c3 i _ _ e1 e2;rw[e1,e2];simp only[Afk];congr 1;unfold Bec at this;unfold kF;split
    ·rename_i hv;rw[if_pos hv]at this;exact hθ _ _ ai hv ah this.2
    ·rename_i hv;rw[if_neg hv]at this;exact ab _ ai _ ah this
   ·rw[List.getElem?_eq_none Agm,List.getElem?_eq_none Agm];rfl
 ·rintro⟨θ,t1,t2⟩;refine X0 T N (x.body.eraseIdx k) θ x.body s0 (fun t ht hv h=>?_) ac t2;have hm:=h1 θ t1 t ht hv h;have:=h2 t hm;unfold Bec at this;rw[if_pos hv]at this;rw[this.2,t1 t hm hv]
end Go.Proofs.YtmoeoppbmhfbpabGreatDoorG
