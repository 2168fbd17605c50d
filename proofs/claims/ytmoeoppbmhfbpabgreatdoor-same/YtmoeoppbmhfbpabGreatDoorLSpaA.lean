import Derived.Test.YtmoeoppbmhfbpabGreatDoorLProgL
import Derived.Test.YtmoeoppbmhfbpabGreatDoorLRefA
import Derived.Test.YtmoeoppbmhfbpabGreatDoorLAbsWp
import Derived.Test.YtmoeoppbmhfbpabGreatDoorLShelf
set_option maxHeartbeats 32000000
set_option maxRecDepth 100000
set_option linter.all false
namespace Go.Proofs.YtmoeoppbmhfbpabGreatDoorL
open Go.Abs
abbrev Sw:=(Nat->Bool)×(Nat->Bool×Int)
def K6:Sw:=(fun _=>false,fun _=>(false,0))
def eU (s:Sw)(n:Nat):AV:=if n<26 then sc (.bool (s.1 n))else if n % 2=0 then sc (.bool (s.2 ((n-26) / 2)).1)else sc (.int .i64 (s.2 ((n-26) / 2)).2)
def Dn (s:Sw):List AV:=(List.range 78).map (eU s)
theorem Cx (s:Sw):(Dn s).length=78:=by simp[Dn]
theorem Pb:swZ.map cst1=Dn K6:=rfl
theorem vT {s:Sw}{i:Nat}(h:i<26):(Dn s)[i]?=some (sc (.bool (s.1 i))):=by
 simp[Dn,eU,h,show i<78 by omega]
theorem vS {s:Sw}{i:Nat}(h:i<26)(v:Bool):(Dn s).set i (sc (.bool v))=Dn (fun j=>if j=i then v else s.1 j,s.2):=by
 apply Ag4;intro n;rw[List.getElem?_set];by_cases hn:n<78
 ·by_cases he:i=n
  ·subst he;simp[Dn,eU,h,hn]
  ·have:n≠i:=fun e=>he e.symm;simp[Dn,eU,hn,he,this]
 ·have:i≠n:=Ajm;simp[Dn,hn,this]
theorem Ui {s:Sw}{n:Nat}(h:n<78):(Dn s)[n]?=some (eU s n):=by simp[Dn,h]
theorem eV (s:Sw){i:Nat}(h:i<26):∃r,(Dn s).drop (26+i*2)=sc (.bool (s.2 i).1)::sc (.int .i64 (s.2 i).2)::r:=by
 have e1:eU s (26+i*2)=sc (.bool (s.2 i).1):=by
  unfold eU;rw[if_neg Ajm,if_pos Ajm,show (26+i*2-26) / 2=i by omega]
 have e2:eU s (26+i*2+1)=sc (.int .i64 (s.2 i).2):=by
  unfold eU;rw[if_neg Ajm,if_neg Ajm,show (26+i*2+1-26) / 2=i by omega]
 refine⟨(Dn s).drop (26+i*2+1+1),?_⟩;have l1:26+i*2<(Dn s).length:=by rw[Cx];omega
 have l2:26+i*2+1<(Dn s).length:=by rw[Cx];omega
 rw[Ahl l1,Ahl l2];have g1:=List.getElem?_eq_getElem l1;have g2:=List.getElem?_eq_getElem l2;rw[Ui Ajm,e1]at g1;rw[Ui Ajm,e2]at g2;rw[<-Aiq g1,<-Aiq g2]
theorem vR (s:Sw){i:Nat}(h:i<26)(b:Bool)(v:Int):lsp (Dn s) (26+i*2) [sc (.bool b),sc (.int .i64 v)]=Dn (s.1,fun j=>if j=i then (b,v)else s.2 j):=by
 rw[Gl _ _ _ (by rw[Cx];simp;omega)];apply Ag4;intro n;have hl:=Cx s;by_cases hn:n<78
 ·rw[Ui hn];by_cases c1:n<26+i*2
  ·rw[Ahc,List.getElem?_append_left (by rw[Ahb];omega),List.getElem?_take,if_pos c1,Ui hn];congr 1;unfold eU;by_cases c:n<26
   ·rw[if_pos c,if_pos c]
   ·have:(n-26) / 2≠i:=Ajm;simp[c,this]
  ·by_cases c2:n<26+i*2+2
   ·rw[Ahc,List.getElem?_append_right (by rw[Ahb];omega),Ahb,Ahf Ajm];rcases (show n=26+i*2\/n=26+i*2+1 by omega)with e|e
    ·subst e;simp only[Ahz,Aho,List.getElem?_cons_zero];unfold eU;rw[if_neg Ajm,if_pos Ajm,show (26+i*2-26) / 2=i by omega];simp
    ·subst e;rw[show 26+i*2+1-(26+i*2)=1 by omega];simp only[Aho,List.getElem?_cons_succ,List.getElem?_cons_zero];unfold eU;rw[if_neg Ajm,if_neg Ajm,show (26+i*2+1-26) / 2=i by omega];simp
   ·rw[List.getElem?_append_right (by simp[Ahb];omega)];simp only[Aha,Ahb,Ahj,Ahi];rw[List.getElem?_drop,Ahf Ajm,show 26+i*2+2+(n-(26+i*2+(0+1+1)))=n by omega,Ui hn];congr 1;unfold eU;have:(n-26) / 2≠i:=Ajm;have c:¬n<26:=Ajm;simp[c,this]
 ·rw[List.getElem?_eq_none (by simp[Ahb,Cx];omega),List.getElem?_eq_none (by rw[Cx];omega)]
theorem vQ (s:Sw){i:Nat}(h:i<26)(b:Bool)(v:Int):((Dn s).set (26+i*2) (sc (.bool b))).set (26+i*2+1) (sc (.int .i64 v))=Dn (s.1,fun j=>if j=i then (b,v)else s.2 j):=vR s h b v
def Gw (s:Sw)(e b:Bool×Int):Option Sw:=
 if e.1=true then
  (if s.1 e.2.toNat=true then (if s.2 e.2.toNat=b then some s else none)
   else some (fun j=>if j=e.2.toNat then true else s.1 j,fun j=>if j=e.2.toNat then b else s.2 j))
 else if e=b then some s else none
def Ch:Sw->List (Bool×Int)->List (Bool×Int)->Option Sw
 |s,[],_=>some s
 |_,_::_,[]=>none
 |s,e::es,b::bs=>(Gw s e b).bind fun s'=>Ch s' es bs
def O3:Option Sw->AV
 |some s=>tp [ag (Dn s),sc (.bool true)]
 |none=>tp [ag (Dn K6),sc (.bool false)]
def varOk (t:Tx):Prop:=(Al t).1=true->∃k:Nat,k<26/\(Al t).2=(k:Int)
theorem kJ {s:Sw}{ts us:List Tx}{k:Nat}{t u:Tx}(ht:ts[k]?=some t)(hu:us[k]?=some u):Ch s ((ts.drop k).map Al) ((us.drop k).map Al)=(Gw s (Al t) (Al u)).bind fun s'=>Ch s' ((ts.drop (k+1)).map Al) ((us.drop (k+1)).map Al):=by
 have h1:=(List.getElem?_eq_some_iff.1 ht);have h2:=(List.getElem?_eq_some_iff.1 hu);obtain⟨l1,e1⟩:=h1;obtain⟨l2,e2⟩:=h2;rw[Ahl l1,Ahl l2,e1,e2];rfl
theorem X5 (s:Sw)(p q:Int)(ts us:List Tx)(i1 i2:Nat)(hl:p=q->ts.length=us.length)(hn:ts.length<=1000)(hv:∀t∈ts,varOk t)(σ:St):
  ACalls Tryz.prog 147 [ag (Dn s),ag [sc (.int .i64 p),sl i1 ts.length (Aw ts)],ag [sc (.int .i64 q),sl i2 us.length (Aw us)]] σ fun r σ'=>r=O3 (if p=q then Ch s (ts.map Al) (us.map Al)else none)/\Keep σ σ':=by
 have a6:=Eu ts;have a5:=Eu us;have a9:=Cx;have a8:=Pb;have a7:∀s,List.take 78 (Dn s)=Dn s:=fun s=>Ahu (by rw[Cx];exact Agi _);have bd:∀s s',lsp (Dn s) 0 (Dn s')=Dn s':=fun s s'=>Mz (by rw[Cx,Cx]);have be:∀s,(Dn s).all flat=true:=fun s=>by
  rw[Ago];intro x hx;obtain⟨n,-,rfl⟩:=Ahv.1 hx;unfold eU;split
  ·rfl
  ·split<;>rfl
 by_cases ae:p=q
 ·have am:Ajs (ts.length=us.length):=hl ae;have hb:(p !=q)=false:=by simp[ae]
  rw[if_pos ae];clear hl ae;refine Z9 62 [.cell 6 154,.tmp 7] Tryz.func147 ?_
  repeat' (first|refine Z1 ?_|(refine Z8 ?_;intro κ hκ)|(refine Z4 ?_;clear hκ κ)|(refine Z2 ?_ ?_<;>intro h ab<;>try exact Xp)|refine Z3 ?_|exact⟨⟩|(apply hκ.out;clear hκ κ))
  refine Af (fun m s0 σ'=>∃(k:Nat) (s':Sw),m=ts.length-k/\k<=ts.length/\s0 3=ptr σ.nobj 0/\s0 5=ptr (σ.nobj+2) 0/\s0 6=ptr (σ.nobj+3) 0/\s0 18=sl i1 ts.length (Aw ts)/\s0 19=sc (.int .i64 ts.length)/\s0 20=sc (.int .i64 k)/\Keep σ σ'/\σ.nobj+3<σ'.nobj/\σ'.obj σ.nobj=Dn s'/\σ'.obj (σ.nobj+2)=[sc (.int .i64 q),sl i2 us.length (Aw us)]/\σ'.obj (σ.nobj+3)=Dn K6/\Ajs (Ch s (ts.map Al) (us.map Al)=Ch s' ((ts.drop k).map Al) ((us.drop k).map Al))) ts.length
   ⟨0,s,Ajm,Ajm,Ajo,Ajo,Ajo,Ajo,Ajo,rfl,Xs,Ajq,?_,?_,?_,by simp[Ajs]⟩ ?_
  ·rw[Ag Ajq,Ag Ajq,Ag Ajq,Ap]
  ·rw[Ag Ajq,Bt Ajq Ajq]
  ·rw[Bt Ajq Ajq]
  rintro m s0 σ' ⟨k,s',rfl,hk,h3,h5,h6,bh,bg,bf,hK,bc,a3,a0,az,hW⟩;have a4:=hK.nobj;by_cases an:k<ts.length
  ·have av:k<us.length:=by have:=am.out;omega
   have g1:=List.getElem?_eq_getElem an;have g2:=List.getElem?_eq_getElem av;have ah:=hv ts[k] (Ah6 an);obtain⟨r1,au⟩:=Fz g1;obtain⟨r2,ap⟩:=Fz g2;have ac:Ajs (Ch s (ts.map Al) (us.map Al)=(Gw s' (Al ts[k]) (Al us[k])).bind fun s'=>Ch s' ((ts.drop (k+1)).map Al) ((us.drop (k+1)).map Al)):=by rw[Ajs,hW.out,kJ g1 g2]
   unfold varOk at ah;clear g1 g2 hW;generalize Al ts[k]=e at au ac ah;generalize Al us[k]=b at ap ac;obtain⟨e1,e2⟩:=e;obtain⟨b1,b2⟩:=b;dsimp only at au ap ah;cases e1 with
   |true=>
    obtain⟨kk,aj,rfl⟩:=ah rfl;have ao:=vT (s:=s') aj;obtain⟨r3,ak⟩:=eV s' aj;cases ad:s'.1 kk with
    |true=>
     rw[ad]at ao;by_cases aa:s'.2 kk=(b1,b2)
     ·have ai:Ajs (Ch s (ts.map Al) (us.map Al)=Ch s' ((ts.drop (k+1)).map Al) ((us.drop (k+1)).map Al)):=by
       rw[Ajs,ac.out];unfold Gw;simp[ad,aa]
      rw[aa]at ak;dsimp only at ak;clear ac ad aa
      repeat' (first|refine Z1 ?_|(refine Z8 ?_;intro κ hκ)|(refine Z4 ?_;clear hκ κ)|(refine Z2 ?_ ?_<;>intro h ab<;>try exact Xp)|refine Z3 ?_|exact⟨⟩|(apply hκ.out;clear hκ κ))
      exact⟨ts.length-(k+1),Ajm,k+1,s',rfl,Ajm,by simp,((((hK.new _).put hK.nobj _).new _).put Ajm _).put hK.nobj _,Ajm,rfl,ai⟩
     ·have af:Ajs (Ch s (ts.map Al) (us.map Al)=none):=by
       rw[Ajs,ac.out];unfold Gw;simp[ad,aa]
      clear ac ad;generalize s'.2 kk=g at ak aa;obtain⟨c1,c2⟩:=g;have ay:(c1==b1&&c2==b2)=false:=by
       cases hq:(c1==b1&&c2==b2)with
       |false=>rfl
       |true=>simp at hq;exact absurd (by rw[hq.1,hq.2]) aa
      dsimp only at ak;clear aa
      repeat' (first|refine Z1 ?_|(refine Z8 ?_;intro κ hκ)|(refine Z4 ?_;clear hκ κ)|(refine Z2 ?_ ?_<;>intro h ab<;>try exact Xp)|refine Z3 ?_|exact⟨⟩|(apply hκ.out;clear hκ κ))
      exact⟨_,rfl,by rw[af.out];rfl,(((((hK.new _).put hK.nobj _).new _).put Ajm _).put hK.nobj _).put Ajm _⟩
    |false=>
     rw[ad]at ao;have bb:=vS (s:=s') aj true;have ba:=fun s'=>vQ s' aj b1 b2;have ai:Ajs (Ch s (ts.map Al) (us.map Al)=Ch (fun j=>if j=kk then true else s'.1 j,fun j=>if j=kk then (b1,b2)else s'.2 j) ((ts.drop (k+1)).map Al) ((us.drop (k+1)).map Al)):=by
      rw[Ajs,ac.out];unfold Gw;simp[ad]
     obtain⟨r4,ax⟩:=eV (fun j=>if j=kk then true else s'.1 j,fun j=>if j=kk then (b1,b2)else s'.2 j) aj;simp only[if_true]at ax;clear ac ad
     repeat' (first|refine Z1 ?_|(refine Z8 ?_;intro κ hκ)|(refine Z4 ?_;clear hκ κ)|(refine Z2 ?_ ?_<;>intro h ab<;>try exact Xp)|refine Z3 ?_|exact⟨⟩|(apply hκ.out;clear hκ κ))
     exact⟨ts.length-(k+1),Ajm,k+1,(fun j=>if j=kk then true else s'.1 j,fun j=>if j=kk then (b1,b2)else s'.2 j),rfl,Ajm,by simp,((((((hK.new _).put hK.nobj _).new _).put Ajm _).put (Agi _) _).put (Agi _) _).put hK.nobj _,Ajm,rfl,ai⟩
   |false=>
    by_cases aa:(false,e2)=(b1,b2)
    ·have ai:Ajs (Ch s (ts.map Al) (us.map Al)=Ch s' ((ts.drop (k+1)).map Al) ((us.drop (k+1)).map Al)):=by
      rw[Ajs,ac.out];unfold Gw;simp[aa]
     cases aa;clear ac ah
     repeat' (first|refine Z1 ?_|(refine Z8 ?_;intro κ hκ)|(refine Z4 ?_;clear hκ κ)|(refine Z2 ?_ ?_<;>intro h ab<;>try exact Xp)|refine Z3 ?_|exact⟨⟩|(apply hκ.out;clear hκ κ))
     exact⟨ts.length-(k+1),Ajm,k+1,s',rfl,Ajm,by simp,(((hK.new _).put hK.nobj _).new _).put Ajm _,Ajm,rfl,ai⟩
    ·have af:Ajs (Ch s (ts.map Al) (us.map Al)=none):=by
      rw[Ajs,ac.out];unfold Gw;simp[aa]
     have ay:(false==b1&&e2==b2)=false:=by
      cases hq:(false==b1&&e2==b2)with
      |false=>rfl
      |true=>simp at hq;exact absurd (by rw[<-hq.1,hq.2]) aa
     clear ac ah aa
     repeat' (first|refine Z1 ?_|(refine Z8 ?_;intro κ hκ)|(refine Z4 ?_;clear hκ κ)|(refine Z2 ?_ ?_<;>intro h ab<;>try exact Xp)|refine Z3 ?_|exact⟨⟩|(apply hκ.out;clear hκ κ))
     exact⟨_,rfl,by rw[af.out];rfl,((((hK.new _).put hK.nobj _).new _).put Ajm _).put Ajm _⟩
  ·have aw:k=ts.length:=Ajm;subst aw;have hR:Ch s (ts.map Al) (us.map Al)=some s':=by rw[hW.out,List.drop_length];simp[Ch]
   repeat' (first|refine Z1 ?_|(refine Z8 ?_;intro κ hκ)|(refine Z4 ?_;clear hκ κ)|(refine Z2 ?_ ?_<;>intro h ab<;>try exact Xp)|refine Z3 ?_|exact⟨⟩|(apply hκ.out;clear hκ κ))
   exact⟨_,rfl,rfl,hK.put Ajm _⟩
 ·have hb:(p !=q)=true:=by simpa using ae
  rw[if_neg ae];clear hl ae;refine Z9 62 [.cell 6 154,.tmp 7] Tryz.func147 ?_
  repeat' (first|refine Z1 ?_|(refine Z8 ?_;intro κ hκ)|(refine Z4 ?_;clear hκ κ)|(refine Z2 ?_ ?_<;>intro h ab<;>try exact Xp)|refine Z3 ?_|exact⟨⟩|(apply hκ.out;clear hκ κ))
  exact⟨_,rfl,rfl,((((((Keep.refl _).new _).new _).new _).new _).put Ajm _)⟩
structure Lt where
 nt:Bool
 pr:Nat
 es:List (Bool×Int)
def F8 (left:List Lt):List Lt->Sw->Option Sw
 |[],s=>some s
 |x::xs,s=>left.findSome? fun b=>if b.nt=x.nt/\x.pr=b.pr then (Ch s x.es b.es).bind (F8 left xs)else none
def Gf (e:Tx->Bool×Int)(N:List Tx)(a:RAtom):Lt:=⟨a.nt,N.idxOf a.pred,a.terms.map e⟩
def jR (θ:Tx->Tx)(t:Tx):Tx:=if Ad t=true then θ t else t
def bP (θ:Tx->Tx)(a b:RAtom):Prop:=a.nt=b.nt/\a.pred=b.pred/\a.terms.map (jR θ)=b.terms
def Rb (x:RItem)(k:Nat):Prop:=∃θ:Tx->Tx,(∀t∈x.head.terms,Ad t=true->θ t=t)/\∀a∈x.body,∃b∈x.body.eraseIdx k,bP θ a b
structure Tell (e:Tx->Bool×Int)(U:Tx->Prop):Prop where
 var:∀t,U t->(e t).1=Ad t
 inj:∀t u,U t->U u->e t=e u->t=u
 pos:∀t,U t->Ad t=true->0<=(e t).2
def Wq (e:Tx->Bool×Int)(t:Tx):Nat:=(e t).2.toNat
theorem Tell.same {e:Tx->Bool×Int}{U:Tx->Prop}(T:Tell e U){t u:Tx}(ht:U t)(hu:U u)(vt:Ad t=true)(vu:Ad u=true)(h:Wq e t=Wq e u):t=u:=by
 apply T.inj t u ht hu;have h1:=T.var t ht;have h2:=T.var u hu;have h3:=T.pos t ht vt;have h4:=T.pos u hu vu;unfold Wq at h;apply Prod.ext
 ·rw[h1,h2,vt,vu]
 ·omega
def Agr (e:Tx->Bool×Int)(U:Tx->Prop)(s:Sw)(θ:Tx->Tx):Prop:=∀t,U t->Ad t=true->s.1 (Wq e t)=true->s.2 (Wq e t)=e (θ t)
def Grow (s s':Sw):Prop:=∀k,s.1 k=true->s'.1 k=true/\s'.2 k=s.2 k
theorem Grow.refl (s:Sw):Grow s s:=fun k h=>⟨h,rfl⟩
theorem Grow.trans {a b c:Sw}(h:Grow a b)(g:Grow b c):Grow a c:=fun k hk=>by
 obtain⟨h1,h2⟩:=h k hk;obtain⟨g1,g2⟩:=g k h1;exact⟨g1,g2.trans h2⟩
def Bec (e:Tx->Bool×Int)(s:Sw)(t u:Tx):Prop:=if Ad t=true then s.1 (Wq e t)=true/\s.2 (Wq e t)=e u else e t=e u
theorem Bec.grow {e:Tx->Bool×Int}{s s':Sw}{t u:Tx}(h:Bec e s t u)(g:Grow s s'):Bec e s' t u:=by
 unfold Bec at*
 split
 ·rename_i hv;rw[if_pos hv]at h;obtain⟨g1,g2⟩:=g _ h.1;exact⟨g1,g2.trans h.2⟩
 ·rename_i hv;rw[if_neg hv]at h;exact h
section
variable {e:Tx->Bool×Int} {U:Tx->Prop} (T:Tell e U)
include T
theorem Y8 {s:Sw}{θ:Tx->Tx}{t u:Tx}(ha:Agr e U s θ)(ht:U t)(hu:jR θ t=u):∃s',Gw s (e t) (e u)=some s'/\Agr e U s' θ:=by
 unfold jR at hu;unfold Gw;rw[T.var t ht];split at hu
 ·rename_i hv;subst hu;rw[if_pos hv];by_cases hs:s.1 (e t).2.toNat=true
  ·rw[if_pos hs,if_pos (show s.2 (e t).2.toNat=e (θ t)from ha t ht hv hs)];exact⟨s,rfl,ha⟩
  ·rw[if_neg hs];refine⟨_,rfl,fun t' ab aa h'=>?_⟩;by_cases he:Wq e t'=(e t).2.toNat
   ·have:=T.same ab ht aa hv he;subst this;simp[Wq]
   ·dsimp only at h'⊢;rw[if_neg he]at h'⊢;exact ha t' ab aa h'
 ·rename_i hv;subst hu;rw[if_neg hv,if_pos rfl];exact⟨s,rfl,ha⟩
theorem X7:∀(ts us:List Tx) (s:Sw) (θ:Tx->Tx),Agr e U s θ->(∀t∈ts,U t)->ts.map (jR θ)=us->∃s',Ch s (ts.map e) (us.map e)=some s'/\Agr e U s' θ
 |[],us,s,θ,ha,_,_=>⟨s,by simp[Ch],ha⟩
 |t::ts,us,s,θ,ha,hU,hu=>by
  subst hu;obtain⟨s1,h1,h2⟩:=Y8 T (u:=jR θ t) ha (hU t (by simp)) rfl;obtain⟨s2,h3,h4⟩:=X7 ts _ s1 θ h2 (fun t' h=>hU t' (by simp[h])) rfl;refine⟨s2,?_,h4⟩;simp only[Ag5,Ch,h1,Ahe];exact h3
theorem vZ {s s':Sw}{t u:Tx}(ht:U t)(h:Gw s (e t) (e u)=some s'):Grow s s'/\Bec e s' t u:=by
 unfold Gw at h;rw[T.var t ht]at h;unfold Bec;split at h
 ·rename_i hv;rw[if_pos hv];split at h
  ·rename_i hs;split at h
   ·rename_i hb;cases h;exact⟨Grow.refl _,hs,hb⟩
   ·cases h
  ·rename_i hs;cases h;refine⟨fun k hk=>?_,by simp[Wq],by simp[Wq]⟩;have:k≠(e t).2.toNat:=fun e=>hs (e ▸ hk);simp[this,hk]
 ·rename_i hv;rw[if_neg hv];split at h
  ·rename_i hb;cases h;exact⟨Grow.refl _,hb⟩
  ·cases h
theorem Tf:∀(ts us:List Tx) (s s':Sw),(∀t∈ts,U t)->Ch s (ts.map e) (us.map e)=some s'->Grow s s'/\∀(i:Nat) (t u:Tx),ts[i]?=some t->us[i]?=some u->Bec e s' t u
 |[],us,s,s',_,h=>by
  simp only[Ag6,Ch]at h;cases h;exact⟨Grow.refl _,fun i t u ht=>by simp at ht⟩
 |t::ts,[],s,s',_,h=>by simp[Ch]at h
 |t::ts,u::us,s,s',hU,h=>by
  simp only[Ag5,Ch]at h;cases h1:Gw s (e t) (e u)with
  |none=>rw[h1]at h;cases h
  |some s1=>
   rw[h1]at h;simp only[Ahe]at h;obtain⟨g1,b1⟩:=vZ T (hU t (by simp)) h1;obtain⟨g2,b2⟩:=Tf ts us s1 s' (fun t' h=>hU t' (by simp[h])) h;refine⟨g1.trans g2,fun i t' u' ht hu=>?_⟩;cases i with
   |zero=>simp at ht hu;subst ht;subst hu;exact b1.grow g2
   |succ i=>simp at ht hu;exact b2 i t' u' ht hu
theorem Zo (N:List Tx)(left:List RAtom)(θ:Tx->Tx):∀(lits:List RAtom) (s:Sw),Agr e U s θ->(∀a∈lits,∀t∈a.terms,U t)->(∀a∈lits,∃b∈left,bP θ a b)->∃s',F8 (left.map (Gf e N)) (lits.map (Gf e N)) s=some s'
 |[],s,_,_,_=>⟨s,by simp[F8]⟩
 |a::lits,s,ha,hU,hl=>by
  obtain⟨b,hb,h1,h2,h3⟩:=hl a (by simp);obtain⟨s1,w1,a1⟩:=X7 T a.terms b.terms s θ ha (hU a (by simp)) h3;obtain⟨s2,o2⟩:=Zo N left θ lits s1 a1 (fun a' h=>hU a' (by simp[h])) (fun a' h=>hl a' (by simp[h]));simp only[Ag5,F8];have aa:(left.map (Gf e N)).findSome? (fun b=>if b.nt=(Gf e N a).nt/\(Gf e N a).pr=b.pr then (Ch s (Gf e N a).es b.es).bind (F8 (left.map (Gf e N)) (lits.map (Gf e N)))else none)≠none:=by
   intro hn;rw[List.findSome?_eq_none_iff]at hn;have:=hn (Gf e N b) (Ahv.2 ⟨b,hb,rfl⟩);rw[if_pos ⟨h1.symm,by simp[Gf,h2]⟩]at this;have w1':Ch s (Gf e N a).es (Gf e N b).es=some s1:=w1;rw[w1',Ahe,o2]at this;cases this
  exact Option.ne_none_iff_exists'.1 aa
theorem gP (N:List Tx)(left:List RAtom):∀(lits:List RAtom) (s s':Sw),(∀a∈lits,a.pred∈N/\∀t∈a.terms,U t)->(∀b∈left,b.pred∈N)->F8 (left.map (Gf e N)) (lits.map (Gf e N)) s=some s'->Grow s s'/\∀a∈lits,∃b∈left,a.nt=b.nt/\a.pred=b.pred/\∀(i:Nat) (t u:Tx),a.terms[i]?=some t->b.terms[i]?=some u->Bec e s' t u
 |[],s,s',_,_,h=>by
  simp only[Ag6,F8]at h;cases h;exact⟨Grow.refl _,fun a h=>by cases h⟩
 |a::lits,s,s',hU,hN,h=>by
  simp only[Ag5,F8]at h;rw[List.findSome?_eq_some_iff]at h;obtain⟨l1,c,l2,hl,hc,-⟩:=h;have ac:c∈left.map (Gf e N):=by rw[hl];simp
  obtain⟨b,hb,rfl⟩:=Ahv.1 ac;split at hc
  ·rename_i aa;cases hw:Ch s (Gf e N a).es (Gf e N b).es with
   |none=>rw[hw]at hc;cases hc
   |some s1=>
    rw[hw]at hc;simp only[Ahe]at hc;obtain⟨g1,b1⟩:=Tf T a.terms b.terms s s1 (hU a (by simp)).2 hw;obtain⟨g2,b2⟩:=gP N left lits s1 s' (fun a' h=>hU a' (by simp[h])) hN hc;refine⟨g1.trans g2,fun a' ab=>?_⟩;rcases Ahm.1 ab with rfl|ab
    ·exact⟨b,hb,aa.1.symm,C2 (hU _ (by simp)).1 (hN b hb) aa.2,fun i t u ht hu=>(b1 i t u ht hu).grow g2⟩
    ·exact b2 a' ab
  ·cases hc
end
theorem X6 {e:Tx->Bool×Int}{U:Tx->Prop}(T:Tell e U)(ts:List Tx)(hU:∀t∈ts,U t):∃s,Ch K6 (ts.map e) (ts.map e)=some s/\(∀θ:Tx->Tx,(∀t∈ts,Ad t=true->θ t=t)->∀t,U t->Ad t=true->s.1 (Wq e t)=true->t∈ts)/\∀t∈ts,Bec e s t t:=by
 have key:∀(us:List Tx) (s:Sw),(∀t∈us,U t)->(∀t,U t->Ad t=true->s.1 (Wq e t)=true->s.2 (Wq e t)=e t)->∃s',Ch s (us.map e) (us.map e)=some s'/\(∀t,U t->Ad t=true->s'.1 (Wq e t)=true->s'.2 (Wq e t)=e t/\(t∈us\/s.1 (Wq e t)=true)):=by
  intro us;induction us with
  |nil=>exact fun s _ ha=>⟨s,by simp[Ch],fun t ht hv h=>⟨ha t ht hv h,.inr h⟩⟩
  |cons u us ih=>
   intro s hU ha;obtain⟨s1,h1,h2⟩:=Y8 T (θ:=fun t=>t) (t:=u) (u:=u) ha (hU u (by simp)) (by unfold jR;split<;>rfl);obtain⟨s2,h3,h4⟩:=ih s1 (fun t h=>hU t (by simp[h])) h2;refine⟨s2,by simp only[Ag5,Ch,h1,Ahe];exact h3,fun t ht hv h=>?_⟩;obtain⟨q1,q2⟩:=h4 t ht hv h;refine⟨q1,?_⟩;rcases q2 with q2|q2
   ·exact .inl (by simp[q2])
   ·unfold Gw at h1;rw[T.var u (hU u (by simp))]at h1;split at h1
    ·rename_i aa;split at h1
     ·split at h1
      ·cases h1;exact .inr q2
      ·cases h1
     ·cases h1;dsimp only at q2;by_cases he:Wq e t=(e u).2.toNat
      ·have:=T.same ht (hU u (by simp)) hv aa he;exact .inl (by simp[this])
      ·rw[if_neg he]at q2;exact .inr q2
    ·split at h1
     ·cases h1;exact .inr q2
     ·cases h1
 obtain⟨s,h1,h2⟩:=key ts K6 hU (fun t _ _ h=>by simp[K6]at h);obtain⟨-,b1⟩:=Tf T ts ts K6 s hU h1;refine⟨s,h1,fun θ _ t ht hv h=>?_,fun t ht=>?_⟩
 ·rcases (h2 t ht hv h).2 with q|q
  ·exact q
  ·simp[K6]at q
 ·obtain⟨i,hi⟩:=List.getElem?_of_mem ht;exact b1 i t t hi hi
theorem Nx {e:Tx->Bool×Int}{U:Tx->Prop}(T:Tell e U)(N:List Tx)(x:RItem)(k:Nat)(hN:∀a∈x.body,a.pred∈N)(af:∀t∈x.head.terms,U t)(ac:∀a∈x.body,∀t∈a.terms,U t)
  (ad:∀a∈x.body,∀b∈x.body,a.pred=b.pred->a.terms.length=b.terms.length) (ab:∀t,U t->∀u,U u->e t=e u->t=u):
  ∃s0,Ch K6 (x.head.terms.map e) (x.head.terms.map e)=some s0/\((∃s',F8 ((x.body.eraseIdx k).map (Gf e N)) (x.body.map (Gf e N)) s0=some s')↔Rb x k):=by
 obtain⟨s0,h0,h1,h2⟩:=X6 T x.head.terms af;refine⟨s0,h0,?_,?_⟩
 ·rintro⟨s',ak⟩;have aa:∀b∈x.body.eraseIdx k,b∈x.body:=fun b hb=>Air hb;obtain⟨g,ae⟩:=gP T N (x.body.eraseIdx k) x.body s0 s' (fun a ha=>⟨hN a ha,ac a ha⟩) (fun b hb=>hN b (aa b hb)) ak;have hex:∀t:Tx,∃u:Tx,(U t/\Ad t=true/\∃u',U u'/\s'.2 (Wq e t)=e u')->(U u/\s'.2 (Wq e t)=e u):=fun t=>by
   by_cases h:U t/\Ad t=true/\∃u',U u'/\s'.2 (Wq e t)=e u'
   ·obtain⟨u,hu⟩:=h.2.2;exact⟨u,fun _=>hu⟩
   ·exact⟨t,fun h'=>absurd h' h⟩
  let θ:Tx->Tx:=fun t=>Classical.choose (hex t);have hθ:∀t u,U t->Ad t=true->U u->s'.2 (Wq e t)=e u->θ t=u:=fun t u ht hv hu h=>by
   obtain⟨q1,q2⟩:=Classical.choose_spec (hex t) ⟨ht,hv,u,hu,h⟩;exact ab _ q1 _ hu (q2.symm.trans h)
  refine⟨θ,fun t ht hv=>?_,fun a ha=>?_⟩
  ·have:=(h2 t ht).grow g;unfold Bec at this;rw[if_pos hv]at this;exact hθ t t (af t ht) hv (af t ht) this.2
  ·obtain⟨b,hb,c1,c2,c3⟩:=ae a ha;have aj:=aa b hb;refine⟨b,hb,c1,c2,?_⟩;have hl:=ad a ha b aj c2;apply Ag4;intro i;rw[List.getElem?_map];by_cases hi:i<a.terms.length
   ·have e1:=List.getElem?_eq_getElem hi;have e2:=List.getElem?_eq_getElem (show i<b.terms.length by omega);have ai:=ac a ha _ (Ah6 hi);have ah:=ac b aj _ (Ah6 (show i<b.terms.length by omega));have:=c3 i _ _ e1 e2;rw[e1,e2];simp only[Ais];congr 1;unfold Bec at this;unfold jR;split
    ·rename_i hv;rw[if_pos hv]at this;exact hθ _ _ ai hv ah this.2
    ·rename_i hv;rw[if_neg hv]at this;exact ab _ ai _ ah this
   ·rw[List.getElem?_eq_none Ajm,List.getElem?_eq_none Ajm];rfl
 ·rintro⟨θ,t1,t2⟩;refine Zo T N (x.body.eraseIdx k) θ x.body s0 (fun t ht hv h=>?_) ac t2;have hm:=h1 θ t1 t ht hv h;have:=h2 t hm;unfold Bec at this;rw[if_pos hv]at this;rw[this.2,t1 t hm hv]
def G6 (x:RItem)(k:Nat):RItem:={out:=false,head:=x.head,body:=x.body.eraseIdx k}
def Wt (ls:List RAtom)(k n:Nat):List RAtom:=(ls.take n).eraseIdx k
theorem Aat {ls:List RAtom}{k n:Nat}{a:RAtom}(h:ls[n]?=some a)(hk:n≠k):Wt ls k (n+1)=Wt ls k n++[a]:=by
 have hn:=(List.getElem?_eq_some_iff.1 h).1;have hl:(ls.take n).length=n:=by rw[Ahb];omega
 unfold Wt;rw[Agz,h,Aia];by_cases aa:k<n
 ·rw[List.eraseIdx_append_of_lt_length Ajm]
 ·rw[Ait (by rw[Aha,hl];simp;omega),Ait Ajm]
theorem uI {ls:List RAtom}{k:Nat}{a:RAtom}(h:ls[k]?=some a):Wt ls k (k+1)=Wt ls k k:=by
 have hn:=(List.getElem?_eq_some_iff.1 h).1;have hl:(ls.take k).length=k:=by rw[Ahb];omega
 unfold Wt;have e:(ls.take k).eraseIdx k=ls.take k:=Ait Ajm;rw[e,Agz,h,Aia,List.eraseIdx_append_of_length_le Ajm,hl,Ahz];simp
theorem Aar (ls:List RAtom)(k n:Nat):(Wt ls k n).length<=n:=by
 unfold Wt;have h1:=Aiu (ls.take n) k;rw[Ahb]at h1;omega
theorem Aas (ls:List RAtom)(k:Nat):Wt ls k ls.length=ls.eraseIdx k:=by unfold Wt;rw[Agw]
theorem Np (N:List Tx)(x:RItem)(c:List AV)(k:Nat)(hc:PI N x c)(hn:x.body.length<=1000)(σ:St):ACalls Tryz.prog 145 [ag c,sc (.int .i64 k)] σ fun r σ'=>∃c',r=ag c'/\PI N (G6 x k) c'/\Keep σ σ':=by
 obtain⟨hm,ih,id,b,hb,rfl⟩:=hc;have a5:=EL.length Dt hb;refine Z9 30 [.cell 4 125] Tryz.func145 ?_
 repeat' (first|refine Z1 ?_|(refine Z8 ?_;intro κ hκ)|(refine Z4 ?_;clear hκ κ)|(refine Z2 ?_ ?_<;>intro h af<;>try exact Xp)|(refine Z6 ?_;intro idn σn aj ak ad aa ac ab)|refine Z3 ?_|exact⟨⟩|(apply hκ.out;clear hκ κ))
 refine Af (fun m s σ'=>∃(n i3:Nat) (xs:List AV),m=x.body.length-n/\n<=x.body.length/\s 1=sc (.int .i64 k)/\s 4=ptr (σ.nobj+1) 0/\s 5=ptr (σ.nobj+2) 0/\s 12=sl id x.body.length b/\s 13=sc (.int .i64 x.body.length)/\s 14=sc (.int .i64 n)/\Keep σ σ'/\σ.nobj+2<σ'.nobj/\σ'.obj (σ.nobj+1)=[sc (.bool false),sc (.int .i64 0),nilS,nilS]/\σ'.obj (σ.nobj+2)=[sc (.bool false),sc (.int .i64 (N.idxOf x.head.pred:Nat)),sl ih x.head.terms.length (Aw x.head.terms),sl i3 (Wt x.body k n).length xs]/\Own σ σ' i3 (Wt x.body k n).length/\xs.length=(Wt x.body k n).length*3/\Ajs (EL (PL N) (Wt x.body k n) xs)) x.body.length
  ⟨0,1,[],Ajm,Ajm,by simp[upd,initS],Ajo,Ajo,Ajo,Ajo,rfl,Xs,Ajr,?_,?_,Own.nil _ _,by simp[Wt],by simp[Ajs,Wt,EL]⟩ ?_
 ·rw[Ai Ajm,Ag Ajq,Bt Ajq Ajq]
 ·rw[show σ.nobj+2=σ.nobj+1+1 by omega,Ak];simp[Wt]
 rintro m s σ' ⟨n,i3,xs,rfl,a4,h1,h4,h5,a8,a7,a6,hK,a3,az,ao,hO,am,hX⟩;have a0:=hK.nobj;have av:=Aar x.body k n;by_cases ay:n<x.body.length
 ·have ae:=List.getElem?_eq_getElem ay;obtain⟨ha,ia,r,hd⟩:=Ml hb ae;generalize x.body[n]=a at hd ae ha;have HG:Ajs (x.body[n]?=some a):=ae;clear ae;generalize ap:Wt x.body k n=wl at ao hO am hX av;have au:Ajs _:=ap;clear ap;by_cases ai:n=k
  ·have ax:((n:Int) !=(k:Int))=false:=by simp[ai]
   have ah:Ajs (Wt x.body k (n+1)=wl):=by
    rw[Ajs,<-au.out,ai];exact uI (by rw[<-ai];exact HG.out)
   clear ai
   repeat' (first|refine Z1 ?_|(refine Z8 ?_;intro κ hκ)|(refine Z4 ?_;clear hκ κ)|(refine Z2 ?_ ?_<;>intro h af<;>try exact Xp)|(refine Z6 ?_;intro idn σn aj ak ad aa ac ab)|refine Z3 ?_|exact⟨⟩|(apply hκ.out;clear hκ κ))
   exact⟨x.body.length-(n+1),Ajm,n+1,i3,xs,rfl,Ajm,by simp,(hK.new _).put hK.nobj _,Ajm,by rw[ah.out],by rw[ah.out];exact Own.put (Own.new hO _) _ _,by rw[ah.out];exact am,by rw[Ajs,ah.out];exact hX.out⟩
  ·have ax:((n:Int) !=(k:Int))=true:=by simp;omega
   have ah:Ajs (Wt x.body k (n+1)=wl++[a]):=by
    rw[Ajs,<-au.out];exact Aat HG.out ai
   clear ai
   repeat' (first|refine Z1 ?_|(refine Z8 ?_;intro κ hκ)|(refine Z4 ?_;clear hκ κ)|(refine Z2 ?_ ?_<;>intro h af<;>try exact Xp)|(refine Z6 ?_;intro idn σn aj ak ad aa ac ab)|refine Z3 ?_|exact⟨⟩|(apply hκ.out;clear hκ κ))
   refine Bh (by first|exact El) ((hK.new _).put hK.nobj _) (Own.put (Own.new hO _) _ _) (by decide) (by rfl) am (by rfl) (by rfl) (by decide) Ajm Ajm ?_;intro idn σn aj ak ad aa ac ab;simp only[Ab,Aa]at aa;have an:Ajs ((Wt x.body k (n+1)).length=wl.length+1):=by rw[Ajs,ah.out];simp
   refine Z3 ?_
   repeat' (first|refine Z1 ?_|(refine Z8 ?_;intro κ hκ)|(refine Z4 ?_;clear hκ κ)|(refine Z2 ?_ ?_<;>intro h af<;>try exact Xp)|(refine Z6 ?_;intro idn σn aj ak ad aa ac ab)|refine Z3 ?_|exact⟨⟩|(apply hκ.out;clear hκ κ))
   refine⟨x.body.length-(n+1),Ajm,n+1,idn,xs++[sc (.bool a.nt),sc (.int .i64 (N.idxOf a.pred:Nat)),sl ia a.terms.length (Aw a.terms)],rfl,Ajm,by simp,ak.put Ajm _,Ajm,by rw[an.out],by rw[an.out];exact Own.put aj _ _,by rw[an.out];simp;omega,?_⟩;rw[Ajs,ah.out];exact EL.append hX.out (EL.single ⟨ha,ia,rfl⟩)
 ·have aw:n=x.body.length:=Ajm;subst aw;rw[Aas]at ao hX
  repeat' (first|refine Z1 ?_|(refine Z8 ?_;intro κ hκ)|(refine Z4 ?_;clear hκ κ)|(refine Z2 ?_ ?_<;>intro h af<;>try exact Xp)|(refine Z6 ?_;intro idn σn aj ak ad aa ac ab)|refine Z3 ?_|exact⟨⟩|(apply hκ.out;clear hκ κ))
  exact⟨_,rfl,_,rfl,⟨hm,ih,i3,xs,hX.out,rfl⟩,hK.put Ajm _⟩
theorem X8 (o:Option Sw):∃s b,O3 o=tp [ag (Dn s),sc (.bool b)]/\(b=false->o=none)/\(b=true->∃s',o=some s'):=by
 cases o with
 |none=>exact⟨K6,false,rfl,fun _=>rfl,fun h=>by cases h⟩
 |some s=>exact⟨s,true,rfl,(fun h=>by cases h),fun _=>⟨s,rfl⟩⟩
def fB (L:List Lt)(rest:List Lt)(s:Sw)(x b:Lt):Option Sw:=if b.nt=x.nt/\x.pr=b.pr then (Ch s x.es b.es).bind (F8 L rest)else none
theorem yQ {α β:Type}{f:α->Option β}{l:List α}{i:Nat}{b:α}{r:β}(h0:∀j,j<i->∀c,l[j]?=some c->f c=none)(hb:l[i]?=some b)(hf:f b=some r):l.findSome? f=some r:=by
 rw[List.findSome?_eq_some_iff];obtain⟨hi,rfl⟩:=List.getElem?_eq_some_iff.1 hb;refine⟨l.take i,l[i],l.drop (i+1),by rw[<-Ahl hi,Aiv],hf,fun c hc=>?_⟩;obtain⟨j,hj⟩:=List.getElem?_of_mem hc;rw[List.getElem?_take]at hj;split at hj
 ·rename_i aa;exact h0 j aa c hj
 ·cases hj
theorem tA {α β:Type}{f:α->Option β}{l:List α}(h0:∀j,j<l.length->∀c,l[j]?=some c->f c=none):l.findSome? f=none:=by
 rw[List.findSome?_eq_none_iff];intro c hc;obtain⟨j,hj⟩:=List.getElem?_of_mem hc;exact h0 j (List.getElem?_eq_some_iff.1 hj).1 c hj
def OkA (left:List RAtom)(a:RAtom):Prop:=a.terms.length<=1000/\(∀t∈a.terms,varOk t)/\∀b∈left,a.pred=b.pred->a.terms.length=b.terms.length
theorem sJ (N:List Tx)(left:List RAtom)(cl:List AV)(idl:Nat)(hL:EL (PL N) left cl)(hll:left.length<=1000):∀(lits:List RAtom) (cs:List AV) (ids:Nat) (s:Sw) (σ:St),EL (PL N) lits cs->lits.length<=1000->(∀a∈lits,OkA left a)->
  ACalls Tryz.prog 148 [ag (Dn s),sl ids lits.length cs,sl idl left.length cl] σ fun r σ'=>r=O3 (F8 (left.map (Gf Al N)) (lits.map (Gf Al N)) s)/\Keep σ σ':=by
 have b7:=Cx;have b6:=Pb;have b5:∀s,List.take 78 (Dn s)=Dn s:=fun s=>Ahu (by rw[Cx];exact Agi _);have cb:∀s s',lsp (Dn s) 0 (Dn s')=Dn s':=fun s s'=>Mz (by rw[Cx,Cx]);have cd:∀s,(Dn s).all flat=true:=fun s=>by
  rw[Ago];intro x hx;obtain⟨n,-,rfl⟩:=Ahv.1 hx;unfold eU;split
  ·rfl
  ·split<;>rfl
 have bu:=EL.length Dt hL;intro lits;induction lits with
 |nil=>
  intro cs ids s σ hE _ _;have br:cs=[]:=hE;subst br;have hR:O3 (F8 (left.map (Gf Al N)) (([]:List RAtom).map (Gf Al N)) s)=tp [ag (Dn s),sc (.bool true)]:=rfl;rw[hR];clear hR;refine Z9 55 [.cell 6 154,.tmp 7] Tryz.func148 ?_
  repeat' (first|refine Z1 ?_|(refine Z8 ?_;intro κ hκ)|(refine Z4 ?_;clear hκ κ)|(refine Z2 ?_ ?_<;>intro h aa<;>try exact Xp)|refine Z3 ?_|exact⟨⟩|(apply hκ.out;clear hκ κ))
  exact⟨_,rfl,rfl,Xs⟩
 |cons a lits ih=>
  intro cs ids s σ hE hn a4;have a6:=EL.length Dt hE;obtain⟨c0,d,⟨bz,ia,rfl⟩,hd,rfl⟩:=hE;have ce:=EL.length Dt hd;obtain⟨bw,bv,b0⟩:=a4 a (by simp);have ak:∀a∈lits,OkA left a:=fun a' h=>a4 a' (by simp[h]);have bp:lits.length<=1000:=by simp at hn;omega
  have ih:=fun s σ=>ih d 0 s σ hd bp ak;clear a4 ak hn;have hR:Ajs (F8 (left.map (Gf Al N)) ((a::lits).map (Gf Al N)) s=(left.map (Gf Al N)).findSome? (fB (left.map (Gf Al N)) (lits.map (Gf Al N)) s (Gf Al N a))):=rfl;rw[hR.out];generalize bh:fB (left.map (Gf Al N)) (lits.map (Gf Al N)) s (Gf Al N a)=fb;have bl:Ajs _:=bh;clear bh hR;simp only[Ahj,Aho,Ahq]at a6⊢;refine Z9 55 [.cell 6 154,.tmp 7] Tryz.func148 ?_
  repeat' (first|refine Z1 ?_|(refine Z8 ?_;intro κ hκ)|(refine Z4 ?_;clear hκ κ)|(refine Z2 ?_ ?_<;>intro h aa<;>try exact Xp)|refine Z3 ?_|exact⟨⟩|(apply hκ.out;clear hκ κ))
  refine Af (fun m s0 σ'=>∃i:Nat,m=left.length-i/\i<=left.length/\s0 1=sl ids (lits.length+1) (sc (.bool a.nt)::sc (.int .i64 (N.idxOf a.pred:Nat))::sl ia a.terms.length (Aw a.terms)::d)/\s0 2=sl idl left.length cl/\s0 3=ptr σ.nobj 0/\s0 6=ptr (σ.nobj+1) 0/\s0 8=ptr (σ.nobj+2) 0/\s0 21=sl idl left.length cl/\s0 22=sc (.int .i64 left.length)/\s0 23=sc (.int .i64 i)/\Keep σ σ'/\σ.nobj+2<σ'.nobj/\σ'.obj σ.nobj=Dn s/\σ'.obj (σ.nobj+1)=Dn K6/\σ'.obj (σ.nobj+2)=[sc (.bool a.nt),sc (.int .i64 (N.idxOf a.pred:Nat)),sl ia a.terms.length (Aw a.terms)]/\Ajs (∀j,j<i->∀c,(left.map (Gf Al N))[j]?=some c->fb c=none)) left.length
   ⟨0,Ajm,Ajm,by simp[upd,initS],by simp[upd,initS],Ajo,Ajo,Ajo,Ajo,Ajo,rfl,Xs,by simp only[Aa,Ab];omega,?_,?_,?_,fun j hj=>Ajm⟩ ?_
  ·rw[Ai Ajm,Ag Ajq,Ag Ajq,Ap]
  ·rw[Ai Ajm,Ag Ajq,Bt Ajq Ajq]
  ·rw[show σ.nobj+2=σ.nobj+1+1 by omega,Ak]
  rintro m s0 σ' ⟨i,rfl,hi,h1,h2,h3,h6,h8,av,au,ap,hK,ca,ay,ax,aw,a8⟩;have b3:=hK.nobj;by_cases bf:i<left.length
  ·have ae:=List.getElem?_eq_getElem bf;have a7:=Ah6 bf;have bg:=b0 left[i] a7;obtain⟨hb,ib,r,bq⟩:=Ml hL ae;have a9:(left.map (Gf Al N))[i]?=some (Gf Al N left[i]):=by rw[List.getElem?_map,ae];rfl
   generalize left[i]=b at bq ae hb bg a9 a7;have bi:Ajs _:=a9;clear ae a9 a7;have ac:Ajs (fb (Gf Al N b)=none->∀j,j<i+1->∀c,(left.map (Gf Al N))[j]?=some c->fb c=none):=fun h j hj c hc=>by
    by_cases e:j=i
    ·subst e;rw[bi.out]at hc;cases hc;exact h
    ·exact a8.out j Ajm c hc
   have bn:N.idxOf a.pred=N.idxOf b.pred->a.terms.length=b.terms.length:=fun h=>bg (C2 bz hb h);by_cases hnt:b.nt=a.nt
   ·have bo:(b.nt==a.nt)=true:=by simp[hnt]
    have ai:=fun σ=>X5 s (N.idxOf a.pred:Nat) (N.idxOf b.pred:Nat) a.terms b.terms ia ib (fun h=>bn Ajm) bw bv σ;have am:Ajs (fb (Gf Al N b)=(if ((N.idxOf a.pred:Nat):Int)=((N.idxOf b.pred:Nat):Int)then Ch s (a.terms.map Al) (b.terms.map Al)else none).bind (F8 (left.map (Gf Al N)) (lits.map (Gf Al N)))):=by
     rw[Ajs,<-bl.out];unfold fB Gf;dsimp only;by_cases hp:N.idxOf a.pred=N.idxOf b.pred
     ·rw[if_pos ⟨hnt,hp⟩,if_pos Ajm]
     ·rw[if_neg (fun h=>hp h.2),if_neg Ajm];rfl
    generalize (if ((N.idxOf a.pred:Nat):Int)=((N.idxOf b.pred:Nat):Int)then Ch s (a.terms.map Al) (b.terms.map Al)else none)=ow at ai am;cases ow with
    |none=>
     simp only[O3]at ai;have a5:Ajs (fb (Gf Al N b)=none):=am
     repeat' (first|refine Z1 ?_|(refine Z8 ?_;intro κ hκ)|(refine Z4 ?_;clear hκ κ)|(refine Z2 ?_ ?_<;>intro h aa<;>try exact Xp)|(refine Z5 ?_;refine Xi (ai _) ?_;rintro _ _ ⟨rfl,af⟩;(have ab:=af.obj;have ah:=af.nobj;simp only[Aa,Ab]at ah))|refine Z3 ?_|exact⟨⟩|(apply hκ.out;clear hκ κ))
     exact⟨left.length-(i+1),Ajm,i+1,rfl,Ajm,by simp,(((((hK.new _).put hK.nobj _).trans af).new _).put Ajm _),Ajm,ac.out a5.out⟩
    |some s1=>
     simp only[O3]at ai;have ao:=ih s1;obtain⟨sr,okr,a0,bd,bc⟩:=X8 (F8 (left.map (Gf Al N)) (lits.map (Gf Al N)) s1);rw[a0]at ao;have HW:Ajs (O3 (fb (Gf Al N b))=tp [ag (Dn sr),sc (.bool okr)]/\(okr=false->fb (Gf Al N b)=none)/\(okr=true->∃s',fb (Gf Al N b)=some s')):=by
      rw[Ajs,am.out];exact⟨a0,bd,bc⟩
     clear a0 bd bc am
     repeat' (first|refine Z1 ?_|(refine Z8 ?_;intro κ hκ)|(refine Z4 ?_;clear hκ κ)|(refine Z2 ?_ ?_<;>intro h aa<;>try exact Xp)|(refine Z5 ?_;refine Xi (ai _) ?_;rintro _ _ ⟨rfl,af⟩;(have ab:=af.obj;have ah:=af.nobj;simp only[Aa,Ab]at ah))|refine Z3 ?_|exact⟨⟩|(apply hκ.out;clear hκ κ))
     rename_i σ2;have ba:Keep σ ((σ2.new (Dn K6)).put σ2.nobj (Dn s1)):=((((hK.new _).put hK.nobj _).trans af).new _).put Ajm _;have tno:((σ2.new (Dn K6)).put σ2.nobj (Dn s1)).nobj=σ2.nobj+1:=rfl;have tob:((σ2.new (Dn K6)).put σ2.nobj (Dn s1)).obj σ2.nobj=Dn s1:=Ak;have tob0:((σ2.new (Dn K6)).put σ2.nobj (Dn s1)).obj σ.nobj=Dn s:=by rw[Ai Ajm,Ag Ajm,ab _ Ajr,Ai Ajm,Ag Ajm,ay]
     have tob1:((σ2.new (Dn K6)).put σ2.nobj (Dn s1)).obj (σ.nobj+1)=Dn K6:=by rw[Ai Ajm,Ag Ajm,ab _ Ajr,Ai Ajm,Ag Ajm,ax]
     have tob2:((σ2.new (Dn K6)).put σ2.nobj (Dn s1)).obj (σ.nobj+2)=[sc (.bool a.nt),sc (.int .i64 (N.idxOf a.pred:Nat)),sl ia a.terms.length (Aw a.terms)]:=by rw[Ai Ajm,Ag Ajm,ab _ Ajr,Ai Ajm,Ag Ajm,aw]
     generalize (σ2.new (Dn K6)).put σ2.nobj (Dn s1)=τ at ba tno tob tob0 tob1 tob2;clear af ab ai ay ax aw hK;refine Bu (Q:=fun e s' σ'=>e= .normal/\∃o:Nat,s' 1=sl ids (lits.length+1) (sc (.bool a.nt)::sc (.int .i64 (N.idxOf a.pred:Nat))::sl ia a.terms.length (Aw a.terms)::d)/\s' 2=sl idl left.length cl/\s' 3=ptr σ.nobj 0/\s' 6=ptr (σ.nobj+1) 0/\s' 8=ptr (σ.nobj+2) 0/\s' 21=sl idl left.length cl/\s' 22=sc (.int .i64 left.length)/\s' 23=sc (.int .i64 i)/\s' 12=sc (.bool okr)/\s' 13=ptr o 0/\τ.nobj<=o/\o<σ'.nobj/\σ'.obj o=Dn sr/\Keep τ σ') ?_ ?_
     ·refine A2 Aj (fun _=>True) [10] [0,1,2,3] 7 #[true,true,true,true,false,false,false,false,false,false,false] Ajp (fun _ _ _ h=>by cases h.1) ?_;intro κ hκ;refine Z3 ?_;refine hκ.out _ ?_;clear hκ κ;refine Eg (rs:=[4,8]) Ajp (by simp) ?_;intro j hj;simp only[Ahm,Ah4,Ajl]at hj;rcases hj with rfl|rfl
      ·refine Ar ?_;intro κ hκ;refine Z3 ?_;refine ACalls.mono (ao _) ?_;rintro _ σ5 ⟨rfl,KK⟩;have aj:=KK.nobj;refine Z3 ?_;refine hκ.out _ _ ⟨Aq KK,?_⟩;clear hκ κ;refine Ie (i:=5) _ (tp [ag (Dn sr),sc (.bool okr)]) rfl rfl rfl rfl rfl Ajp Ajp (fun _ _ _ h=>by cases h.1) (fun o ho _=>KK.ver o ho) ?_;refine Ie (i:=6) _ (ag (Dn sr)) rfl rfl rfl rfl rfl Ajp Ajp (fun _ _ _ h=>by cases h.1) (fun o ho _=>KK.ver o ho) ?_;refine Ie (i:=7) _ (sc (.bool okr)) rfl rfl rfl rfl rfl Ajp Ajp (fun _ _ _ h=>by cases h.1) (fun o ho _=>KK.ver o ho) ?_;refine Ao (i:=8) Ajp ?_;refine Ar ?_;intro κ hκ;refine Z3 ?_;refine hκ.out _ _ ⟨Aq (KK.new _),?_⟩;clear hκ κ;refine Ao (i:=9) Ajp ?_;refine Ar ?_;intro κ hκ;refine Z3 ?_;refine hκ.out _ _ ⟨Aq ((KK.new _).put Ajm _),?_⟩;clear hκ κ;refine Ao (i:=10) Ajp ?_;refine Ar ?_;intro κ hκ;refine Z3 ?_;refine hκ.out _ _ ⟨Bs rfl,?_⟩;clear hκ κ;refine A3 Ajp ⟨rfl,σ5.nobj,by simp[upd,aput,h1],by simp[upd,aput,h2],by simp[upd,aput,h3],by simp[upd,aput,h6],by simp[upd,aput,h8],by simp[upd,aput,av],by simp[upd,aput,au],by simp[upd,aput,ap],by simp[upd,aput],by simp[upd,aput],Ajm,Ajr,Ak,(KK.new _).put Ajm _⟩
      ·refine Ar ?_;intro κ hκ;refine Z3 ?_;refine hκ.out _ _ ⟨Aq ((Keep.refl _).new _),?_⟩;clear hκ κ;refine Ao (i:=4) Ajp ?_;refine Ar ?_;intro κ hκ;refine Z3 ?_;refine ACalls.mono (ao _) ?_;rintro _ σ5 ⟨rfl,bb⟩;have az:=bb.obj;have aj:=bb.nobj;simp only[Aa]at aj;have b2:σ5.obj τ.nobj=Dn K6:=by rw[az _ (by rw[Aa];omega),Ap]
       have KK:=((Keep.refl τ).new (Dn K6)).trans bb;refine Z3 ?_;refine hκ.out _ _ ⟨Aq KK,?_⟩;clear hκ κ;refine Ie (i:=5) _ (tp [ag (Dn sr),sc (.bool okr)]) rfl rfl rfl rfl rfl Ajp Ajp (fun _ _ _ h=>by cases h.1) (fun o ho _=>KK.ver o ho) ?_;refine Ie (i:=6) _ (ag (Dn sr)) rfl rfl rfl rfl rfl Ajp Ajp (fun _ _ _ h=>by cases h.1) (fun o ho _=>KK.ver o ho) ?_;refine Ie (i:=7) _ (sc (.bool okr)) rfl rfl rfl rfl rfl Ajp Ajp (fun _ _ _ h=>by cases h.1) (fun o ho _=>KK.ver o ho) ?_;refine Ao (i:=9) Ajp ?_;refine Ar ?_;intro κ hκ;refine Z3 ?_;refine hκ.out _ _ ⟨Aq (KK.put Ajm _),?_⟩;clear hκ κ;refine Ao (i:=10) Ajp ?_;refine Ar ?_;intro κ hκ;refine Z3 ?_;refine hκ.out _ _ ⟨Bs rfl,?_⟩;clear hκ κ;refine A3 Ajp ⟨rfl,σ2.nobj+1,by simp[upd,aput,h1],by simp[upd,aput,h2],by simp[upd,aput,h3],by simp[upd,aput,h6],by simp[upd,aput,h8],by simp[upd,aput,av],by simp[upd,aput,au],by simp[upd,aput,ap],by simp[upd,aput],by simp[upd,aput],Ajm,by simp only[Ab];omega,Ak,KK.put Ajm _⟩
     ·clear h1 h2 h3 h6 h8 av au ap;rintro e s' σ6 ⟨rfl,o,h1,h2,h3,h6,h8,av,au,ap,cg,cf,b4,b8,b9,an⟩;have ad:=an.obj;have bm:=an.nobj;have b1:=ba.trans an;have ay:σ6.obj σ.nobj=Dn s:=by rw[ad _ Ajm,tob0]
      have ax:σ6.obj (σ.nobj+1)=Dn K6:=by rw[ad _ Ajm,tob1]
      have aw:σ6.obj (σ.nobj+2)=[sc (.bool a.nt),sc (.int .i64 (N.idxOf a.pred:Nat)),sl ia a.terms.length (Aw a.terms)]:=by rw[ad _ Ajm,tob2]
      clear ad tob tob0 tob1 tob2 an ba ao ih;cases okr with
      |true=>
       repeat' (first|refine Z1 ?_|(refine Z8 ?_;intro κ hκ)|(refine Z4 ?_;clear hκ κ)|(refine Z2 ?_ ?_<;>intro h aa<;>try exact Xp)|refine Z3 ?_|exact⟨⟩|(apply hκ.out;clear hκ κ))
       obtain⟨s2,be⟩:=HW.out.2.2 rfl;refine⟨_,rfl,?_,b1.put Ajm _⟩;rw[yQ a8.out bi.out be,<-be,HW.out.1]
      |false=>
       repeat' (first|refine Z1 ?_|(refine Z8 ?_;intro κ hκ)|(refine Z4 ?_;clear hκ κ)|(refine Z2 ?_ ?_<;>intro h aa<;>try exact Xp)|refine Z3 ?_|exact⟨⟩|(apply hκ.out;clear hκ κ))
       exact⟨left.length-(i+1),Ajm,i+1,rfl,Ajm,by simp,Ajm,ac.out (HW.out.2.1 rfl)⟩
   ·have bo:(b.nt==a.nt)=false:=by simpa using hnt
    have a5:Ajs (fb (Gf Al N b)=none):=by
     rw[Ajs,<-bl.out];unfold fB Gf;exact if_neg (fun h=>hnt h.1)
    clear hnt
    repeat' (first|refine Z1 ?_|(refine Z8 ?_;intro κ hκ)|(refine Z4 ?_;clear hκ κ)|(refine Z2 ?_ ?_<;>intro h aa<;>try exact Xp)|refine Z3 ?_|exact⟨⟩|(apply hκ.out;clear hκ κ))
    exact⟨left.length-(i+1),Ajm,i+1,rfl,Ajm,by simp,(hK.new _).put hK.nobj _,Ajm,ac.out a5.out⟩
  ·have hil:i=left.length:=Ajm;subst hil;have a3:Ajs ((left.map (Gf Al N)).findSome? fb=none):=tA (by rw[Aij];exact a8.out)
   repeat' (first|refine Z1 ?_|(refine Z8 ?_;intro κ hκ)|(refine Z4 ?_;clear hκ κ)|(refine Z2 ?_ ?_<;>intro h aa<;>try exact Xp)|refine Z3 ?_|exact⟨⟩|(apply hκ.out;clear hκ κ))
   exact⟨_,rfl,by rw[a3.out];rfl,hK.put Ajm _⟩
def Ia (e:Bool×Int):Tx:=if e.1=true then [UInt8.ofNat (IntKind.u8.wrap (65+e.2)).toNat]else Lib.itoa e.2
def okE (e:Bool×Int):Prop:=0<=e.2/\(e.1=true->e.2<26)/\e.2<=999/\(Ia e).length<=1000
theorem dR (e:Bool×Int)(h:okE e)(σ:St):ACalls Tryz.prog 149 [ag [sc (.bool e.1),sc (.int .i64 e.2)]] σ fun r σ'=>r=str (Ia e)/\Keep σ σ':=by
 have ab:∀z:UInt8,({data:=#[z]}:ByteArray)=bs [z]:=fun _=>rfl;obtain⟨b,v⟩:=e;obtain⟨h0,h1,h2,-⟩:=h;dsimp only at h0 h1 h2⊢;cases b with
 |true=>
  have h1:=h1 rfl;have hL:Ajs (Ia (true,v)=[UInt8.ofNat (IntKind.u8.wrap (65+v)).toNat]):=rfl;refine Z9 14 [.tmp 2] Tryz.func149 ?_
  repeat' (first|refine Z1 ?_|(refine Z8 ?_;intro κ hκ)|(refine Z4 ?_;clear hκ κ)|(refine Z2 ?_ ?_<;>intro h aa<;>try exact Xp)|refine Z7 ?_|exact⟨⟩|(apply hκ.out;clear hκ κ))
  exact⟨_,rfl,by rw[hL.out],Xs⟩
 |false=>
  have hI:=fun σ=>Q0 v h0 Ajm σ;have hL:Ajs (Ia (false,v)=Lib.itoa v):=rfl;generalize Lib.itoa v=w at hI hL;refine Z9 14 [.tmp 2] Tryz.func149 ?_
  repeat' (first|refine Z1 ?_|(refine Z8 ?_;intro κ hκ)|(refine Z4 ?_;clear hκ κ)|(refine Z2 ?_ ?_<;>intro h aa<;>try exact Xp)|(refine Z5 ?_;refine Xi (hI _) ?_;rintro _ _ ⟨rfl,rfl⟩)|refine Z7 ?_|exact⟨⟩|(apply hκ.out;clear hκ κ))
  exact⟨_,rfl,by rw[hL.out],Xs⟩
theorem Tq (ts:List Tx)(t:Tx):Bl (ts++[t])=Bl ts++((if ts=[]then []else [44])++t):=by
 cases ts with
 |nil=>simp[Bl,B6]
 |cons u ts=>simp[Bl,B6]
def Is (N:List Tx)(y:RItem)(k:Nat)(s0:Sw):Option Sw:=if Ec (G6 y k)=true then F8 ((y.body.eraseIdx k).map (Gf Al N)) (y.body.map (Gf Al N)) s0 else none
theorem Te {y:RItem}{k:Nat}(h:y.fits):(G6 y k).fits:=
 ⟨Agj (Aiu _ _) h.1,h.2.1,fun a ha=>h.2.2 a (Air ha)⟩
theorem fU (N:List Tx)(y:RItem)(c:List AV)(k:Nat)(s0:Sw)(hc:PI N y c)(hf:y.fits)(a5:Ch K6 (y.head.terms.map Al) (y.head.terms.map Al)=some s0)(hv:∀t∈y.head.terms,varOk t)(a6:∀a∈y.body,OkA (y.body.eraseIdx k) a)(σ:St):
  ACalls Tryz.prog 94 [ag c,sc (.int .i64 k)] σ fun r σ'=>r=O3 (Is N y k s0)/\Keep σ σ':=by
 have bb:=Cx;have ba:=Pb;have a9:∀s,List.take 78 (Dn s)=Dn s:=fun s=>Ahu (by rw[Cx];exact Agi _);have bc:∀s s',lsp (Dn s) 0 (Dn s')=Dn s':=fun s s'=>Mz (by rw[Cx,Cx]);have bd:∀s,(Dn s).all flat=true:=fun s=>by
  rw[Ago];intro x hx;obtain⟨n,-,rfl⟩:=Ahv.1 hx;unfold eU;split
  ·rfl
  ·split<;>rfl
 have ax:=fun σ=>Np N y c k hc hf.1 σ;have aj:=fun c' a8 σ=>Uv N (G6 y k) c' a8 (fun h=>by cases h) (Te hf) σ;have av:=hf.1;obtain⟨hm,ih,id,b,hb,rfl⟩:=hc;have ai:=fun i1 i2 σ=>X5 K6 (N.idxOf y.head.pred:Nat) (N.idxOf y.head.pred:Nat) y.head.terms y.head.terms i1 i2 (fun _=>rfl) hf.2.1 hv σ;rw[if_pos rfl,a5]at ai;simp only[O3]at ai;have au:=fun cl idl hL ids σ=>sJ N (y.body.eraseIdx k) cl idl hL (Agj (Aiu _ _) av) y.body b ids s0 σ hb av a6;obtain⟨sr,okr,af,-,-⟩:=X8 (F8 ((y.body.eraseIdx k).map (Gf Al N)) (y.body.map (Gf Al N)) s0);rw[af]at au;cases ah:Ec (G6 y k)with
 |false=>
  have HR:Ajs (O3 (Is N y k s0)=tp [ag (Dn K6),sc (.bool false)]):=by rw[Ajs,Is,if_neg (by rw[ah];simp)];rfl
  rw[ah]at aj;clear au ai af;refine Z9 33 [.cell 4 154,.tmp 5] Tryz.func94 ?_
  repeat' (first|refine Z1 ?_|(refine Z8 ?_;intro κ hκ)|(refine Z4 ?_;clear hκ κ)|(refine Z2 ?_ ?_<;>intro h ao<;>try exact Xp)|(refine Z5 ?_;first|(refine Xi (ax _) ?_;rintro _ _ ⟨c2,rfl,ac,ae⟩;(have am:=ae.obj;have ab:=ae.nobj;simp only[Aa]at ab;have ap:=aj c2 ac;obtain⟨a7,ih2,id2,b2,aw,rfl⟩:=ac))|(refine Xi (ap _) ?_;rintro _ _ ⟨rfl,ad⟩;(have ak:=ad.obj;have aa:=ad.nobj;simp only[Aa,Ab]at aa)))|refine Z7 ?_|exact⟨⟩|(apply hκ.out;clear hκ κ))
  exact⟨_,rfl,by rw[HR.out],Xs⟩
 |true=>
  have HR:Ajs (O3 (Is N y k s0)=tp [ag (Dn sr),sc (.bool okr)]):=by rw[Ajs,Is,if_pos ah];exact af
  rw[ah]at aj;clear af;refine Z9 33 [.cell 4 154,.tmp 5] Tryz.func94 ?_
  repeat' (first|refine Z1 ?_|(refine Z8 ?_;intro κ hκ)|(refine Z4 ?_;clear hκ κ)|(refine Z2 ?_ ?_<;>intro h ao<;>try exact Xp)|(refine Z5 ?_;first|(refine Xi (ax _) ?_;rintro _ _ ⟨c2,rfl,ac,ae⟩;(have am:=ae.obj;have ab:=ae.nobj;simp only[Aa]at ab;have ap:=aj c2 ac;obtain⟨a7,ih2,id2,b2,aw,rfl⟩:=ac))|(refine Xi (ap _) ?_;rintro _ _ ⟨rfl,ad⟩;(have ak:=ad.obj;have aa:=ad.nobj;simp only[Aa,Ab]at aa))|(refine Xi (ai _ _ _) ?_;rintro _ _ ⟨rfl,az⟩;(have a3:=az.obj;have a4:=az.nobj))|(refine Xi (au _ _ aw _ _) ?_;rintro _ _ ⟨rfl,ay⟩;(have a0:=ay.obj;have an:=ay.nobj;simp only[Aa,Ab]at an)))|refine Z7 ?_|exact⟨⟩|(apply hκ.out;clear hκ κ))
  exact⟨_,rfl,by rw[HR.out],Xs⟩
end Go.Proofs.YtmoeoppbmhfbpabGreatDoorL
