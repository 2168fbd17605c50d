import Derived.Test.YtmoeoppbmhfbpaaGreatDoorDProgH
import Derived.Test.YtmoeoppbmhfbpaaGreatDoorDRefA
import Derived.Test.YtmoeoppbmhfbpaaGreatDoorDProgM
import Derived.Test.YtmoeoppbmhfbpaaGreatDoorDAbsWp
import Derived.Test.YtmoeoppbmhfbpaaGreatDoorDPrtF
set_option maxHeartbeats 32000000
set_option maxRecDepth 100000
set_option linter.all false
namespace Go.Proofs.YtmoeoppbmhfbpaaGreatDoorD
open Go.Abs
abbrev Sw:=(Nat->Bool)×(Nat->Bool×Int)
def Lb:Sw:=(fun _=>false,fun _=>(false,0))
def fH (s:Sw)(n:Nat):AV:=if n<26 then sc (.bool (s.1 n))else if n % 2=0 then sc (.bool (s.2 ((n-26) / 2)).1)else sc (.int .i64 (s.2 ((n-26) / 2)).2)
def Dl (s:Sw):List AV:=(List.range 78).map (fH s)
theorem C3 (s:Sw):(Dl s).length=78:=by simp[Dl]
theorem O4:swZ.map cst1=Dl Lb:=rfl
theorem uT {s:Sw}{i:Nat}(h:i<26):(Dl s)[i]?=some (sc (.bool (s.1 i))):=by
 simp[Dl,fH,h,show i<78 by omega]
theorem uS {s:Sw}{i:Nat}(h:i<26)(v:Bool):(Dl s).set i (sc (.bool v))=Dl (fun j=>if j=i then v else s.1 j,s.2):=by
 apply Ad5;intro n;rw[Adv];by_cases hn:n<78
 ·by_cases he:i=n
  ·subst he;simp[Dl,fH,h,hn]
  ·have:n≠i:=fun e=>he e.symm;simp[Dl,fH,hn,he,this]
 ·have:i≠n:=Agm;simp[Dl,hn,this]
theorem Tz {s:Sw}{n:Nat}(h:n<78):(Dl s)[n]?=some (fH s n):=by simp[Dl,h]
theorem fI (s:Sw){i:Nat}(h:i<26):∃r,(Dl s).drop (26+i*2)=sc (.bool (s.2 i).1)::sc (.int .i64 (s.2 i).2)::r:=by
 have e1:fH s (26+i*2)=sc (.bool (s.2 i).1):=by
  unfold fH;rw[if_neg Agm,if_pos Agm,show (26+i*2-26) / 2=i by omega]
 have e2:fH s (26+i*2+1)=sc (.int .i64 (s.2 i).2):=by
  unfold fH;rw[if_neg Agm,if_neg Agm,show (26+i*2+1-26) / 2=i by omega]
 refine⟨(Dl s).drop (26+i*2+1+1),?_⟩;have l1:26+i*2<(Dl s).length:=by rw[C3];omega
 have l2:26+i*2+1<(Dl s).length:=by rw[C3];omega
 rw[Aeo l1,Aeo l2];have g1:=Adn l1;have g2:=Adn l2;rw[Tz Agm,e1]at g1;rw[Tz Agm,e2]at g2;rw[<-Afm g1,<-Afm g2]
theorem uR (s:Sw){i:Nat}(h:i<26)(b:Bool)(v:Int):lsp (Dl s) (26+i*2) [sc (.bool b),sc (.int .i64 v)]=Dl (s.1,fun j=>if j=i then (b,v)else s.2 j):=by
 rw[H8 _ _ _ (by rw[C3];simp;omega)];apply Ad5;intro n;have hl:=C3 s;by_cases hn:n<78
 ·rw[Tz hn];by_cases c1:n<26+i*2
  ·rw[Aed,List.getElem?_append_left (by rw[Aec];omega),Adk,if_pos c1,Tz hn];congr 1;unfold fH;by_cases c:n<26
   ·rw[if_pos c,if_pos c]
   ·have:(n-26) / 2≠i:=Agm;simp[c,this]
  ·by_cases c2:n<26+i*2+2
   ·rw[Aed,Aee (by rw[Aec];omega),Aec,Aeh Agm];rcases (show n=26+i*2\/n=26+i*2+1 by omega)with e|e
    ·subst e;simp only[Afd,Ae6,List.getElem?_cons_zero];unfold fH;rw[if_neg Agm,if_pos Agm,show (26+i*2-26) / 2=i by omega];simp
    ·subst e;rw[show 26+i*2+1-(26+i*2)=1 by omega];simp only[Ae6,List.getElem?_cons_succ,List.getElem?_cons_zero];unfold fH;rw[if_neg Agm,if_neg Agm,show (26+i*2+1-26) / 2=i by omega];simp
   ·rw[Aee (by simp[Aec];omega)];simp only[Aeb,Aec,Aem,Ael];rw[Adl,Aeh Agm,show 26+i*2+2+(n-(26+i*2+(0+1+1)))=n by omega,Tz hn];congr 1;unfold fH;have:(n-26) / 2≠i:=Agm;have c:¬n<26:=Agm;simp[c,this]
 ·rw[Ady (by simp[Aec,C3];omega),Ady (by rw[C3];omega)]
theorem uQ (s:Sw){i:Nat}(h:i<26)(b:Bool)(v:Int):((Dl s).set (26+i*2) (sc (.bool b))).set (26+i*2+1) (sc (.int .i64 v))=Dl (s.1,fun j=>if j=i then (b,v)else s.2 j):=uR s h b v
def Iq (s:Sw)(e b:Bool×Int):Option Sw:=
 if e.1=true then
  (if s.1 e.2.toNat=true then (if s.2 e.2.toNat=b then some s else none)
   else some (fun j=>if j=e.2.toNat then true else s.1 j,fun j=>if j=e.2.toNat then b else s.2 j))
 else if e=b then some s else none
def Cx:Sw->List (Bool×Int)->List (Bool×Int)->Option Sw
 |s,[],_=>some s
 |_,_::_,[]=>none
 |s,e::es,b::bs=>(Iq s e b).bind fun s'=>Cx s' es bs
def Ov:Option Sw->AV
 |some s=>tp [ag (Dl s),sc (.bool true)]
 |none=>tp [ag (Dl Lb),sc (.bool false)]
def varOk (t:Tx):Prop:=(Ap t).1=true->∃k:Nat,k<26/\(Ap t).2=(k:Int)
theorem kD {s:Sw}{ts us:List Tx}{k:Nat}{t u:Tx}(ht:ts[k]?=some t)(hu:us[k]?=some u):Cx s ((ts.drop k).map Ap) ((us.drop k).map Ap)=(Iq s (Ap t) (Ap u)).bind fun s'=>Cx s' ((ts.drop (k+1)).map Ap) ((us.drop (k+1)).map Ap):=by
 have h1:=(Adm.1 ht);have h2:=(Adm.1 hu);obtain⟨l1,e1⟩:=h1;obtain⟨l2,e2⟩:=h2;rw[Aeo l1,Aeo l2,e1,e2];rfl
theorem Ww (s:Sw)(p q:Int)(ts us:List Tx)(i1 i2:Nat)(hl:p=q->ts.length=us.length)(hn:ts.length<=1000)(hv:∀t∈ts,varOk t)(σ:St):
  ACalls Tryz.prog 108 [ag (Dl s),ag [sc (.int .i64 p),sl i1 ts.length (A0 ts)],ag [sc (.int .i64 q),sl i2 us.length (A0 us)]] σ fun r σ'=>r=Ov (if p=q then Cx s (ts.map Ap) (us.map Ap)else none)/\Keep σ σ':=by
 have a6:=Es ts;have a5:=Es us;have a9:=C3;have a8:=O4;have a7:∀s,List.take 78 (Dl s)=Dl s:=fun s=>Aeq (by rw[C3];exact Adc _);have bd:∀s s',lsp (Dl s) 0 (Dl s')=Dl s':=fun s s'=>Hu (by rw[C3,C3]);have be:∀s,(Dl s).all flat=true:=fun s=>by
  rw[Ado];intro x hx;obtain⟨n,-,rfl⟩:=Ae4.1 hx;unfold fH;split
  ·rfl
  ·split<;>rfl
 by_cases ae:p=q
 ·have am:Agt (ts.length=us.length):=hl ae;have hb:(p !=q)=false:=by simp[ae]
  rw[if_pos ae];clear hl ae;refine Z9 62 [.cell 6 104,.tmp 7] Tryz.func108 ?_
  repeat' first|refine Z1 ?_|refine Z8 fun ya J=>?_|refine Z4 ?_;clear J ya|refine Z2 ?_ ?_<;>intro h ab<;>try exact Xp|refine Z3 ?_|exact Zt|apply J.out;clear J ya
  refine Ad (fun m s0 σ'=>∃(k:Nat) (s':Sw),m=ts.length-k/\k<=ts.length/\s0 3=ptr σ.nobj 0/\s0 5=ptr (σ.nobj+2) 0/\s0 6=ptr (σ.nobj+3) 0/\s0 18=sl i1 ts.length (A0 ts)/\s0 19=sc (.int .i64 ts.length)/\s0 20=sc (.int .i64 k)/\Keep σ σ'/\σ.nobj+3<σ'.nobj/\σ'.obj σ.nobj=Dl s'/\σ'.obj (σ.nobj+2)=[sc (.int .i64 q),sl i2 us.length (A0 us)]/\σ'.obj (σ.nobj+3)=Dl Lb/\Agt (Cx s (ts.map Ap) (us.map Ap)=Cx s' ((ts.drop k).map Ap) ((us.drop k).map Ap))) ts.length
   ⟨0,s,Agm,Agm,Ago,Ago,Ago,Ago,Ago,rfl,Xs,Agq,?_,?_,?_,by simp[Agt]⟩ ?_
  ·rw[Ah Agq,Ah Agq,Ah Agq,Al]
  ·rw[Ah Agq,Ca Agq Agq]
  ·rw[Ca Agq Agq]
  rintro m s0 σ' ⟨k,s',rfl,hk,h3,h5,h6,bh,bg,bf,hK,bc,a3,a0,az,hW⟩;have a4:=hK.nobj;by_cases an:k<ts.length
  ·have av:k<us.length:=by have:=am.out;omega
   have g1:=Adn an;have g2:=Adn av;have ah:=hv ts[k] (Aes an);obtain⟨r1,au⟩:=Fo g1;obtain⟨r2,ap⟩:=Fo g2;have ac:Agt (Cx s (ts.map Ap) (us.map Ap)=(Iq s' (Ap ts[k]) (Ap us[k])).bind fun s'=>Cx s' ((ts.drop (k+1)).map Ap) ((us.drop (k+1)).map Ap)):=by rw[Agt,hW.out,kD g1 g2]
   unfold varOk at ah;clear g1 g2 hW;generalize Ap ts[k]=e at au ac ah;generalize Ap us[k]=b at ap ac;obtain⟨e1,e2⟩:=e;obtain⟨b1,b2⟩:=b;dsimp only at au ap ah;cases e1 with
   |true=>
    obtain⟨kk,aj,rfl⟩:=ah rfl;have ao:=uT (s:=s') aj;obtain⟨r3,ak⟩:=fI s' aj;cases ad:s'.1 kk with
    |true=>
     rw[ad]at ao;by_cases aa:s'.2 kk=(b1,b2)
     ·have ai:Agt (Cx s (ts.map Ap) (us.map Ap)=Cx s' ((ts.drop (k+1)).map Ap) ((us.drop (k+1)).map Ap)):=by
       rw[Agt,ac.out];unfold Iq;simp[ad,aa]
      rw[aa]at ak;dsimp only at ak;clear ac ad aa
      repeat' first|refine Z1 ?_|refine Z8 fun ya J=>?_|refine Z4 ?_;clear J ya|refine Z2 ?_ ?_<;>intro h ab<;>try exact Xp|refine Z3 ?_|exact Zt|apply J.out;clear J ya
      exact⟨ts.length-(k+1),Agm,k+1,s',rfl,Agm,by simp,((((hK.new _).put hK.nobj _).new _).put Agm _).put hK.nobj _,Agm,rfl,ai⟩
     ·have af:Agt (Cx s (ts.map Ap) (us.map Ap)=none):=by
       rw[Agt,ac.out];unfold Iq;simp[ad,aa]
      clear ac ad;generalize s'.2 kk=g at ak aa;obtain⟨c1,c2⟩:=g;have ay:(c1==b1&&c2==b2)=false:=by
       cases hq:(c1==b1&&c2==b2)with
       |false=>rfl
       |true=>simp at hq;exact absurd (by rw[hq.1,hq.2]) aa
      dsimp only at ak;clear aa
      repeat' first|refine Z1 ?_|refine Z8 fun ya J=>?_|refine Z4 ?_;clear J ya|refine Z2 ?_ ?_<;>intro h ab<;>try exact Xp|refine Z3 ?_|exact Zt|apply J.out;clear J ya
      exact⟨_,rfl,by rw[af.out];rfl,(((((hK.new _).put hK.nobj _).new _).put Agm _).put hK.nobj _).put Agm _⟩
    |false=>
     rw[ad]at ao;have bb:=uS (s:=s') aj true;have ba:=fun s'=>uQ s' aj b1 b2;have ai:Agt (Cx s (ts.map Ap) (us.map Ap)=Cx (fun j=>if j=kk then true else s'.1 j,fun j=>if j=kk then (b1,b2)else s'.2 j) ((ts.drop (k+1)).map Ap) ((us.drop (k+1)).map Ap)):=by
      rw[Agt,ac.out];unfold Iq;simp[ad]
     obtain⟨r4,ax⟩:=fI (fun j=>if j=kk then true else s'.1 j,fun j=>if j=kk then (b1,b2)else s'.2 j) aj;simp only[if_true]at ax;clear ac ad
     repeat' first|refine Z1 ?_|refine Z8 fun ya J=>?_|refine Z4 ?_;clear J ya|refine Z2 ?_ ?_<;>intro h ab<;>try exact Xp|refine Z3 ?_|exact Zt|apply J.out;clear J ya
     exact⟨ts.length-(k+1),Agm,k+1,(fun j=>if j=kk then true else s'.1 j,fun j=>if j=kk then (b1,b2)else s'.2 j),rfl,Agm,by simp,((((((hK.new _).put hK.nobj _).new _).put Agm _).put (Adc _) _).put (Adc _) _).put hK.nobj _,Agm,rfl,ai⟩
   |false=>
    by_cases aa:(false,e2)=(b1,b2)
    ·have ai:Agt (Cx s (ts.map Ap) (us.map Ap)=Cx s' ((ts.drop (k+1)).map Ap) ((us.drop (k+1)).map Ap)):=by
      rw[Agt,ac.out];unfold Iq;simp[aa]
     cases aa;clear ac ah
     repeat' first|refine Z1 ?_|refine Z8 fun ya J=>?_|refine Z4 ?_;clear J ya|refine Z2 ?_ ?_<;>intro h ab<;>try exact Xp|refine Z3 ?_|exact Zt|apply J.out;clear J ya
     exact⟨ts.length-(k+1),Agm,k+1,s',rfl,Agm,by simp,(((hK.new _).put hK.nobj _).new _).put Agm _,Agm,rfl,ai⟩
    ·have af:Agt (Cx s (ts.map Ap) (us.map Ap)=none):=by
      rw[Agt,ac.out];unfold Iq;simp[aa]
     have ay:(false==b1&&e2==b2)=false:=by
      cases hq:(false==b1&&e2==b2)with
      |false=>rfl
      |true=>simp at hq;exact absurd (by rw[<-hq.1,hq.2]) aa
     clear ac ah aa
     repeat' first|refine Z1 ?_|refine Z8 fun ya J=>?_|refine Z4 ?_;clear J ya|refine Z2 ?_ ?_<;>intro h ab<;>try exact Xp|refine Z3 ?_|exact Zt|apply J.out;clear J ya
     exact⟨_,rfl,by rw[af.out];rfl,((((hK.new _).put hK.nobj _).new _).put Agm _).put Agm _⟩
  ·have aw:k=ts.length:=Agm;subst aw;have hR:Cx s (ts.map Ap) (us.map Ap)=some s':=by rw[hW.out,Aep];simp[Cx]
   repeat' first|refine Z1 ?_|refine Z8 fun ya J=>?_|refine Z4 ?_;clear J ya|refine Z2 ?_ ?_<;>intro h ab<;>try exact Xp|refine Z3 ?_|exact Zt|apply J.out;clear J ya
   exact⟨_,rfl,rfl,hK.put Agm _⟩
 ·have hb:(p !=q)=true:=by simpa using ae
  rw[if_neg ae];clear hl ae;refine Z9 62 [.cell 6 104,.tmp 7] Tryz.func108 ?_
  repeat' first|refine Z1 ?_|refine Z8 fun ya J=>?_|refine Z4 ?_;clear J ya|refine Z2 ?_ ?_<;>intro h ab<;>try exact Xp|refine Z3 ?_|exact Zt|apply J.out;clear J ya
  exact⟨_,rfl,rfl,((((((Keep.refl _).new _).new _).new _).new _).put Agm _)⟩
structure Lt where
 nt:Bool
 pr:Nat
 es:List (Bool×Int)
def Gk (left:List Lt):List Lt->Sw->Option Sw
 |[],s=>some s
 |x::xs,s=>left.findSome? fun b=>if b.nt=x.nt/\x.pr=b.pr then (Cx s x.es b.es).bind (Gk left xs)else none
def F8 (e:Tx->Bool×Int)(N:List Tx)(a:RAtom):Lt:=⟨a.nt,N.idxOf a.pred,a.terms.map e⟩
def Rv (θ:Tx->Tx)(t:Tx):Tx:=if Ab t=true then θ t else t
def bP (θ:Tx->Tx)(a b:RAtom):Prop:=a.nt=b.nt/\a.pred=b.pred/\a.terms.map (Rv θ)=b.terms
def Ge (x:RItem)(k:Nat):Prop:=∃θ:Tx->Tx,(∀t∈x.head.terms,Ab t=true->θ t=t)/\∀a∈x.body,∃b∈x.body.eraseIdx k,bP θ a b
structure Tell (e:Tx->Bool×Int)(U:Tx->Prop):Prop where
 var:∀t,U t->(e t).1=Ab t
 inj:∀t u,U t->U u->e t=e u->t=u
 pos:∀t,U t->Ab t=true->0<=(e t).2
def Wd (e:Tx->Bool×Int)(t:Tx):Nat:=(e t).2.toNat
theorem Tell.same {e:Tx->Bool×Int}{U:Tx->Prop}(T:Tell e U){t u:Tx}(ht:U t)(hu:U u)(vt:Ab t=true)(vu:Ab u=true)(h:Wd e t=Wd e u):t=u:=by
 apply T.inj t u ht hu;have h1:=T.var t ht;have h2:=T.var u hu;have h3:=T.pos t ht vt;have h4:=T.pos u hu vu;unfold Wd at h;apply Prod.ext
 ·rw[h1,h2,vt,vu]
 ·omega
def Agr (e:Tx->Bool×Int)(U:Tx->Prop)(s:Sw)(θ:Tx->Tx):Prop:=∀t,U t->Ab t=true->s.1 (Wd e t)=true->s.2 (Wd e t)=e (θ t)
def Grow (s s':Sw):Prop:=∀k,s.1 k=true->s'.1 k=true/\s'.2 k=s.2 k
theorem Grow.refl (s:Sw):Grow s s:=fun k h=>⟨h,rfl⟩
theorem Grow.trans {a b c:Sw}(h:Grow a b)(g:Grow b c):Grow a c:=fun k hk=>by
 obtain⟨h1,h2⟩:=h k hk;obtain⟨g1,g2⟩:=g k h1;exact⟨g1,g2.trans h2⟩
def Bec (e:Tx->Bool×Int)(s:Sw)(t u:Tx):Prop:=if Ab t=true then s.1 (Wd e t)=true/\s.2 (Wd e t)=e u else e t=e u
theorem Bec.grow {e:Tx->Bool×Int}{s s':Sw}{t u:Tx}(h:Bec e s t u)(g:Grow s s'):Bec e s' t u:=by
 unfold Bec at*
 split
 ·rename_i hv;rw[if_pos hv]at h;obtain⟨g1,g2⟩:=g _ h.1;exact⟨g1,g2.trans h.2⟩
 ·rename_i hv;rw[if_neg hv]at h;exact h
section
variable {e:Tx->Bool×Int} {U:Tx->Prop} (T:Tell e U)
include T
theorem Yw {s:Sw}{θ:Tx->Tx}{t u:Tx}(ha:Agr e U s θ)(ht:U t)(hu:Rv θ t=u):∃s',Iq s (e t) (e u)=some s'/\Agr e U s' θ:=by
 unfold Rv at hu;unfold Iq;rw[T.var t ht];split at hu
 ·rename_i hv;subst hu;rw[if_pos hv];by_cases hs:s.1 (e t).2.toNat=true
  ·rw[if_pos hs,if_pos (show s.2 (e t).2.toNat=e (θ t)from ha t ht hv hs)];exact⟨s,rfl,ha⟩
  ·rw[if_neg hs];refine⟨_,rfl,fun t' ab aa h'=>?_⟩;by_cases he:Wd e t'=(e t).2.toNat
   ·have:=T.same ab ht aa hv he;subst this;simp[Wd]
   ·dsimp only at h'⊢;rw[if_neg he]at h'⊢;exact ha t' ab aa h'
 ·rename_i hv;subst hu;rw[if_neg hv,if_pos rfl];exact⟨s,rfl,ha⟩
theorem Wy:∀(ts us:List Tx) (s:Sw) (θ:Tx->Tx),Agr e U s θ->(∀t∈ts,U t)->ts.map (Rv θ)=us->∃s',Cx s (ts.map e) (us.map e)=some s'/\Agr e U s' θ
 |[],us,s,θ,ha,_,_=>⟨s,by simp[Cx],ha⟩
 |t::ts,us,s,θ,ha,hU,hu=>by
  subst hu;obtain⟨s1,h1,h2⟩:=Yw T (u:=Rv θ t) ha (hU t (by simp)) rfl;obtain⟨s2,h3,h4⟩:=Wy ts _ s1 θ h2 (fun t' h=>hU t' (by simp[h])) rfl;refine⟨s2,?_,h4⟩;simp only[Ad7,Cx,h1,Aeg];exact h3
theorem uW {s s':Sw}{t u:Tx}(ht:U t)(h:Iq s (e t) (e u)=some s'):Grow s s'/\Bec e s' t u:=by
 unfold Iq at h;rw[T.var t ht]at h;unfold Bec;split at h
 ·rename_i hv;rw[if_pos hv];split at h
  ·rename_i hs;split at h
   ·rename_i hb;cases h;exact⟨Grow.refl _,hs,hb⟩
   ·cases h
  ·rename_i hs;cases h;refine⟨fun k hk=>?_,by simp[Wd],by simp[Wd]⟩;have:k≠(e t).2.toNat:=fun e=>hs (e ▸ hk);simp[this,hk]
 ·rename_i hv;rw[if_neg hv];split at h
  ·rename_i hb;cases h;exact⟨Grow.refl _,hb⟩
  ·cases h
theorem Sj:∀(ts us:List Tx) (s s':Sw),(∀t∈ts,U t)->Cx s (ts.map e) (us.map e)=some s'->Grow s s'/\∀(i:Nat) (t u:Tx),ts[i]?=some t->us[i]?=some u->Bec e s' t u
 |[],us,s,s',_,h=>by
  simp only[Ad8,Cx]at h;cases h;exact⟨Grow.refl _,fun i t u ht=>by simp at ht⟩
 |t::ts,[],s,s',_,h=>by simp[Cx]at h
 |t::ts,u::us,s,s',hU,h=>by
  simp only[Ad7,Cx]at h;cases h1:Iq s (e t) (e u)with
  |none=>rw[h1]at h;cases h
  |some s1=>
   rw[h1]at h;simp only[Aeg]at h;obtain⟨g1,b1⟩:=uW T (hU t (by simp)) h1;obtain⟨g2,b2⟩:=Sj ts us s1 s' (fun t' h=>hU t' (by simp[h])) h;refine⟨g1.trans g2,fun i t' u' ht hu=>?_⟩;cases i with
   |zero=>simp at ht hu;subst ht;subst hu;exact b1.grow g2
   |succ i=>simp at ht hu;exact b2 i t' u' ht hu
theorem Zg (N:List Tx)(left:List RAtom)(θ:Tx->Tx):∀(lits:List RAtom) (s:Sw),Agr e U s θ->(∀a∈lits,∀t∈a.terms,U t)->(∀a∈lits,∃b∈left,bP θ a b)->∃s',Gk (left.map (F8 e N)) (lits.map (F8 e N)) s=some s'
 |[],s,_,_,_=>⟨s,by simp[Gk]⟩
 |a::lits,s,ha,hU,hl=>by
  obtain⟨b,hb,h1,h2,h3⟩:=hl a (by simp);obtain⟨s1,w1,a1⟩:=Wy T a.terms b.terms s θ ha (hU a (by simp)) h3;obtain⟨s2,o2⟩:=Zg N left θ lits s1 a1 (fun a' h=>hU a' (by simp[h])) (fun a' h=>hl a' (by simp[h]));simp only[Ad7,Gk];have aa:(left.map (F8 e N)).findSome? (fun b=>if b.nt=(F8 e N a).nt/\(F8 e N a).pr=b.pr then (Cx s (F8 e N a).es b.es).bind (Gk (left.map (F8 e N)) (lits.map (F8 e N)))else none)≠none:=by
   intro hn;rw[List.findSome?_eq_none_iff]at hn;have:=hn (F8 e N b) (Ae4.2 ⟨b,hb,rfl⟩);rw[if_pos ⟨h1.symm,by simp[F8,h2]⟩]at this;have w1':Cx s (F8 e N a).es (F8 e N b).es=some s1:=w1;rw[w1',Aeg,o2]at this;cases this
  exact Option.ne_none_iff_exists'.1 aa
theorem iA (N:List Tx)(left:List RAtom):∀(lits:List RAtom) (s s':Sw),(∀a∈lits,a.pred∈N/\∀t∈a.terms,U t)->(∀b∈left,b.pred∈N)->Gk (left.map (F8 e N)) (lits.map (F8 e N)) s=some s'->Grow s s'/\∀a∈lits,∃b∈left,a.nt=b.nt/\a.pred=b.pred/\∀(i:Nat) (t u:Tx),a.terms[i]?=some t->b.terms[i]?=some u->Bec e s' t u
 |[],s,s',_,_,h=>by
  simp only[Ad8,Gk]at h;cases h;exact⟨Grow.refl _,fun a h=>by cases h⟩
 |a::lits,s,s',hU,hN,h=>by
  simp only[Ad7,Gk]at h;rw[List.findSome?_eq_some_iff]at h;obtain⟨l1,c,l2,hl,hc,-⟩:=h;have ac:c∈left.map (F8 e N):=by rw[hl];simp
  obtain⟨b,hb,rfl⟩:=Ae4.1 ac;split at hc
  ·rename_i aa;cases hw:Cx s (F8 e N a).es (F8 e N b).es with
   |none=>rw[hw]at hc;cases hc
   |some s1=>
    rw[hw]at hc;simp only[Aeg]at hc;obtain⟨g1,b1⟩:=Sj T a.terms b.terms s s1 (hU a (by simp)).2 hw;obtain⟨g2,b2⟩:=iA N left lits s1 s' (fun a' h=>hU a' (by simp[h])) hN hc;refine⟨g1.trans g2,fun a' ab=>?_⟩;rcases Ae2.1 ab with rfl|ab
    ·exact⟨b,hb,aa.1.symm,El (hU _ (by simp)).1 (hN b hb) aa.2,fun i t u ht hu=>(b1 i t u ht hu).grow g2⟩
    ·exact b2 a' ab
  ·cases hc
end
theorem Wx {e:Tx->Bool×Int}{U:Tx->Prop}(T:Tell e U)(ts:List Tx)(hU:∀t∈ts,U t):∃s,Cx Lb (ts.map e) (ts.map e)=some s/\(∀θ:Tx->Tx,(∀t∈ts,Ab t=true->θ t=t)->∀t,U t->Ab t=true->s.1 (Wd e t)=true->t∈ts)/\∀t∈ts,Bec e s t t:=by
 have key:∀(us:List Tx) (s:Sw),(∀t∈us,U t)->(∀t,U t->Ab t=true->s.1 (Wd e t)=true->s.2 (Wd e t)=e t)->∃s',Cx s (us.map e) (us.map e)=some s'/\(∀t,U t->Ab t=true->s'.1 (Wd e t)=true->s'.2 (Wd e t)=e t/\(t∈us\/s.1 (Wd e t)=true)):=by
  intro us;induction us with
  |nil=>exact fun s _ ha=>⟨s,by simp[Cx],fun t ht hv h=>⟨ha t ht hv h,.inr h⟩⟩
  |cons u us ih=>
   intro s hU ha;obtain⟨s1,h1,h2⟩:=Yw T (θ:=fun t=>t) (t:=u) (u:=u) ha (hU u (by simp)) (by unfold Rv;split<;>rfl);obtain⟨s2,h3,h4⟩:=ih s1 (fun t h=>hU t (by simp[h])) h2;refine⟨s2,by simp only[Ad7,Cx,h1,Aeg];exact h3,fun t ht hv h=>?_⟩;obtain⟨q1,q2⟩:=h4 t ht hv h;refine⟨q1,?_⟩;rcases q2 with q2|q2
   ·exact .inl (by simp[q2])
   ·unfold Iq at h1;rw[T.var u (hU u (by simp))]at h1;split at h1
    ·rename_i aa;split at h1
     ·split at h1
      ·cases h1;exact .inr q2
      ·cases h1
     ·cases h1;dsimp only at q2;by_cases he:Wd e t=(e u).2.toNat
      ·have:=T.same ht (hU u (by simp)) hv aa he;exact .inl (by simp[this])
      ·rw[if_neg he]at q2;exact .inr q2
    ·split at h1
     ·cases h1;exact .inr q2
     ·cases h1
 obtain⟨s,h1,h2⟩:=key ts Lb hU (fun t _ _ h=>by simp[Lb]at h);obtain⟨-,b1⟩:=Sj T ts ts Lb s hU h1;refine⟨s,h1,fun θ _ t ht hv h=>?_,fun t ht=>?_⟩
 ·rcases (h2 t ht hv h).2 with q|q
  ·exact q
  ·simp[Lb]at q
 ·obtain⟨i,hi⟩:=Afc ht;exact b1 i t t hi hi
theorem Nq {e:Tx->Bool×Int}{U:Tx->Prop}(T:Tell e U)(N:List Tx)(x:RItem)(k:Nat)(hN:∀a∈x.body,a.pred∈N)(af:∀t∈x.head.terms,U t)(ac:∀a∈x.body,∀t∈a.terms,U t)
  (ad:∀a∈x.body,∀b∈x.body,a.pred=b.pred->a.terms.length=b.terms.length) (ab:∀t,U t->∀u,U u->e t=e u->t=u):
  ∃s0,Cx Lb (x.head.terms.map e) (x.head.terms.map e)=some s0/\((∃s',Gk ((x.body.eraseIdx k).map (F8 e N)) (x.body.map (F8 e N)) s0=some s')↔Ge x k):=by
 obtain⟨s0,h0,h1,h2⟩:=Wx T x.head.terms af;refine⟨s0,h0,?_,?_⟩
 ·rintro⟨s',ak⟩;have aa:∀b∈x.body.eraseIdx k,b∈x.body:=fun b hb=>Afn hb;obtain⟨g,ae⟩:=iA T N (x.body.eraseIdx k) x.body s0 s' (fun a ha=>⟨hN a ha,ac a ha⟩) (fun b hb=>hN b (aa b hb)) ak;have hex:∀t:Tx,∃u:Tx,(U t/\Ab t=true/\∃u',U u'/\s'.2 (Wd e t)=e u')->(U u/\s'.2 (Wd e t)=e u):=fun t=>by
   by_cases h:U t/\Ab t=true/\∃u',U u'/\s'.2 (Wd e t)=e u'
   ·obtain⟨u,hu⟩:=h.2.2;exact⟨u,fun _=>hu⟩
   ·exact⟨t,fun h'=>absurd h' h⟩
  let θ:Tx->Tx:=fun t=>Classical.choose (hex t);have hθ:∀t u,U t->Ab t=true->U u->s'.2 (Wd e t)=e u->θ t=u:=fun t u ht hv hu h=>by
   obtain⟨q1,q2⟩:=Classical.choose_spec (hex t) ⟨ht,hv,u,hu,h⟩;exact ab _ q1 _ hu (q2.symm.trans h)
  refine⟨θ,fun t ht hv=>?_,fun a ha=>?_⟩
  ·have:=(h2 t ht).grow g;unfold Bec at this;rw[if_pos hv]at this;exact hθ t t (af t ht) hv (af t ht) this.2
  ·obtain⟨b,hb,c1,c2,c3⟩:=ae a ha;have aj:=aa b hb;refine⟨b,hb,c1,c2,?_⟩;have hl:=ad a ha b aj c2;apply Ad5;intro i;rw[Adx];by_cases hi:i<a.terms.length
   ·have e1:=Adn hi;have e2:=Adn (show i<b.terms.length by omega);have ai:=ac a ha _ (Aes hi);have ah:=ac b aj _ (Aes (show i<b.terms.length by omega));have:=c3 i _ _ e1 e2;rw[e1,e2];simp only[Aeu];congr 1;unfold Bec at this;unfold Rv;split
    ·rename_i hv;rw[if_pos hv]at this;exact hθ _ _ ai hv ah this.2
    ·rename_i hv;rw[if_neg hv]at this;exact ab _ ai _ ah this
   ·rw[Ady Agm,Ady Agm];rfl
 ·rintro⟨θ,t1,t2⟩;refine Zg T N (x.body.eraseIdx k) θ x.body s0 (fun t ht hv h=>?_) ac t2;have hm:=h1 θ t1 t ht hv h;have:=h2 t hm;unfold Bec at this;rw[if_pos hv]at this;rw[this.2,t1 t hm hv]
def C1:List (Tx×Tx)->List Tx->List Tx->Option (List (Tx×Tx))
 |l,t::ts,u::us=>if Ab t=true then C1 (l++[(t,u)]) ts us else if t=u then C1 l ts us else none
 |l,_,_=>some l
def C2 (l:List (Tx×Tx))(a b:RAtom):Option (List (Tx×Tx)):=if a.nt=b.nt/\a.pred=b.pred/\a.terms.length=b.terms.length then C1 l a.terms b.terms else none
def Agree (l:List (Tx×Tx)):Prop:=∀p∈l,∀q∈l,p.1=q.1->p.2=q.2
def cP (k m way:Nat):Nat:=if k<=way % m then way % m+1 else way % m
def gather (x:RItem)(k:Nat):List RAtom->Nat->List (Tx×Tx)->Option (List (Tx×Tx))
 |[],_,l=>some l
 |a::als,way,l=>match x.body[cP k (x.body.length-1) way]? with
  |some b=>(C2 l a b).bind fun l'=>gather x k als (way / (x.body.length-1)) l'
  |none=>none
theorem Kg:∀(ts us:List Tx) (l l':List (Tx×Tx)),ts.length=us.length->C1 l ts us=some l'->(∀p∈l,p∈l')/\∀(i:Nat) (t u:Tx),ts[i]?=some t->us[i]?=some u->(if Ab t=true then (t,u)∈l' else t=u)
 |[],us,l,l',_,h=>by
  simp only[C1]at h;cases h;exact⟨fun p h=>h,fun i t u ht=>by simp at ht⟩
 |t::ts,[],l,l',hl,h=>by simp at hl
 |t::ts,u::us,l,l',hl,h=>by
  simp only[C1]at h;have aa:ts.length=us.length:=by simpa using hl
  split at h
  ·rename_i hv;obtain⟨h1,h2⟩:=Kg ts us _ l' aa h;refine⟨fun p hp=>h1 p (by simp[hp]),fun i t' u' ht hu=>?_⟩;cases i with
   |zero=>simp at ht hu;subst ht;subst hu;rw[if_pos hv];exact h1 _ (by simp)
   |succ i=>simp at ht hu;exact h2 i t' u' ht hu
  ·rename_i hv;split at h
   ·rename_i he;obtain⟨h1,h2⟩:=Kg ts us _ l' aa h;refine⟨h1,fun i t' u' ht hu=>?_⟩;cases i with
    |zero=>simp at ht hu;subst ht;subst hu;rw[if_neg hv];exact he
    |succ i=>simp at ht hu;exact h2 i t' u' ht hu
   ·cases h
theorem Iv (θ:Tx->Tx):∀(ts:List Tx) (l:List (Tx×Tx)),(∀p∈l,p.2=θ p.1)->∃l',C1 l ts (ts.map (Rv θ))=some l'/\∀p∈l',p.2=θ p.1
 |[],l,hl=>⟨l,by simp[C1],hl⟩
 |t::ts,l,hl=>by
  simp only[Ad7,C1];unfold Rv;by_cases hv:Ab t=true
  ·rw[if_pos hv,if_pos hv];exact Iv θ ts _ fun p hp=>by
    rcases Aet.1 hp with hp|hp
    ·exact hl p hp
    ·simp at hp;subst hp;rfl
  ·rw[if_neg hv,if_neg hv,if_pos rfl];exact Iv θ ts l hl
theorem jN {x:RItem}{k way:Nat}(hk:k<x.body.length)(hm:0<x.body.length-1):x.body[cP k (x.body.length-1) way]?=(x.body.eraseIdx k)[way % (x.body.length-1)]?:=by
 rw[List.getElem?_eraseIdx];unfold cP;by_cases h:k<=way % (x.body.length-1)
 ·rw[if_pos h,if_neg Agm]
 ·rw[if_neg h,if_pos Agm]
theorem U5 {x:RItem}{k:Nat}(hk:k<x.body.length)(hm:0<x.body.length-1):∀(als:List RAtom) (way:Nat) (l l':List (Tx×Tx)),gather x k als way l=some l'->(∀p∈l,p∈l')/\∀a∈als,∃b∈x.body.eraseIdx k,a.nt=b.nt/\a.pred=b.pred/\a.terms.length=b.terms.length/\∀(i:Nat) (t u:Tx),a.terms[i]?=some t->b.terms[i]?=some u->(if Ab t=true then (t,u)∈l' else t=u)
 |[],way,l,l',h=>by
  simp only[gather]at h;cases h;exact⟨fun p h=>h,fun a h=>by cases h⟩
 |a::als,way,l,l',h=>by
  simp only[gather]at h;rw[jN hk hm]at h;split at h
  ·rename_i b hb;cases hp:C2 l a b with
   |none=>rw[hp]at h;cases h
   |some l1=>
    rw[hp]at h;simp only[Aeg]at h;unfold C2 at hp;split at hp
    ·rename_i hc;obtain⟨p1,p2⟩:=Kg a.terms b.terms l l1 hc.2.2 hp;obtain⟨g1,g2⟩:=U5 hk hm als _ l1 l' h;refine⟨fun p hp=>g1 p (p1 p hp),fun a' aa=>?_⟩;rcases Ae2.1 aa with rfl|aa
     ·refine⟨b,Adp hb,hc.1,hc.2.1,hc.2.2,fun i t u ht hu=>?_⟩;have:=p2 i t u ht hu;split at this
      ·rename_i hv;rw[if_pos hv];exact g1 _ this
      ·rename_i hv;rw[if_neg hv];exact this
     ·exact g2 a' aa
    ·cases hp
  ·cases h
theorem Q9 {x:RItem}{k:Nat}(hk:k<x.body.length)(hm:0<x.body.length-1)(θ:Tx->Tx):∀(als:List RAtom) (l:List (Tx×Tx)),(∀p∈l,p.2=θ p.1)->(∀a∈als,∃b∈x.body.eraseIdx k,bP θ a b)->∃way,way<(x.body.length-1)^als.length/\∃l',gather x k als way l=some l'/\∀p∈l',p.2=θ p.1
 |[],l,hl,_=>⟨0,by simp,l,by simp[gather],hl⟩
 |a::als,l,hl,h=>by
  obtain⟨b,hb,c1,c2,c3⟩:=h a (by simp);obtain⟨l1,p1,p2⟩:=Iv θ a.terms l hl;obtain⟨way,w1,l2,g1,g2⟩:=Q9 hk hm θ als l1 p2 fun a' h'=>h a' (by simp[h']);obtain⟨c,hc⟩:=Afc hb;have ac:c<x.body.length-1:=by
   have:=(Adm.1 hc).1;rw[List.length_eraseIdx_of_lt hk]at this;exact this
  have aa:(c+(x.body.length-1)*way) % (x.body.length-1)=c:=by rw[Nat.add_mul_mod_self_left,Nat.mod_eq_of_lt ac]
  have ab:(c+(x.body.length-1)*way) / (x.body.length-1)=way:=by rw[Nat.add_mul_div_left _ _ hm,Nat.div_eq_of_lt ac,Aea]
  refine⟨c+(x.body.length-1)*way,?_,l2,?_,g2⟩
  ·rw[Aem,Nat.pow_succ,Nat.mul_comm ((x.body.length-1)^als.length)];have h1:(x.body.length-1)*way+(x.body.length-1)<=(x.body.length-1)*(x.body.length-1)^als.length:=by
    rw[<-Nat.mul_succ];exact Nat.mul_le_mul_left _ w1
   omega
  ·simp only[gather];rw[jN hk hm,aa,hc,ab];simp only;have:C2 l a b=some l1:=by
    unfold C2;rw[if_pos ⟨c1,c2,by rw[<-c3,Ae3]⟩,<-c3];exact p1
   rw[this,Aeg];exact g1
def V7 (x:RItem)(k way:Nat):Prop:=∃l0 l,C2 [] x.head x.head=some l0/\gather x k x.body way l0=some l/\Agree l
theorem Uj {a:RAtom}:∃l,C2 [] a a=some l/\∀p∈l,p.2=p.1:=by
 obtain⟨l,h1,h2⟩:=Iv (fun t=>t) a.terms [] (by simp);have:a.terms.map (Rv fun t=>t)=a.terms:=by
  conv=>rhs;rw[<-List.map_id a.terms]
  apply Afa;intro t _;unfold Rv;split<;>rfl
 rw[this]at h1;exact⟨l,by unfold C2;rw[if_pos ⟨rfl,rfl,rfl⟩];exact h1,h2⟩
theorem qX {x:RItem}{k:Nat}(hk:k<x.body.length):(0<x.body.length-1/\∃way,way<(x.body.length-1)^x.body.length/\V7 x k way)↔Ge x k:=by
 constructor
 ·rintro⟨hm,way,-,l0,l,h0,hg,hA⟩;obtain⟨g1,g2⟩:=U5 hk hm x.body way l0 l hg;have hex:∀t:Tx,∃u:Tx,(∃u',(t,u')∈l)->(t,u)∈l:=fun t=>by
   by_cases h:∃u',(t,u')∈l
   ·obtain⟨u,hu⟩:=h;exact⟨u,fun _=>hu⟩
   ·exact⟨t,fun h'=>absurd h' h⟩
  let θ:Tx->Tx:=fun t=>Classical.choose (hex t);have hθ:∀t u,(t,u)∈l->θ t=u:=fun t u h=>hA _ (Classical.choose_spec (hex t) ⟨u,h⟩) _ h rfl;refine⟨θ,fun t ht hv=>?_,fun a ha=>?_⟩
  ·unfold C2 at h0;rw[if_pos ⟨rfl,rfl,rfl⟩]at h0;obtain⟨i,hi⟩:=Afc ht;have:=(Kg _ _ _ _ rfl h0).2 i t t hi hi;rw[if_pos hv]at this;exact hθ t t (g1 _ this)
  ·obtain⟨b,hb,c1,c2,c3,c4⟩:=g2 a ha;refine⟨b,hb,c1,c2,?_⟩;apply Ad5;intro i;rw[Adx];by_cases hi:i<a.terms.length
   ·have e1:=Adn hi;have e2:=Adn (show i<b.terms.length by omega);have:=c4 i _ _ e1 e2;rw[e1,e2];simp only[Aeu];congr 1;unfold Rv;split
    ·rename_i hv;rw[if_pos hv]at this;exact hθ _ _ this
    ·rename_i hv;rw[if_neg hv]at this;exact this
   ·rw[Ady Agm,Ady Agm];rfl
 ·rintro⟨θ,t1,t2⟩;have hm:0<x.body.length-1:=by
   obtain⟨b,hb,-⟩:=t2 x.body[k] (Aes hk);have:=List.length_pos_of_mem hb;rw[List.length_eraseIdx_of_lt hk]at this;exact this
  obtain⟨l0,h0,ab⟩:=Uj (a:=x.head);have aa:∀p∈l0,p.2=θ p.1:=by
   intro p hp;rw[ab p hp];have:p.1∈x.head.terms/\Ab p.1=true:=by
    have key:∀(ts us:List Tx) (l l':List (Tx×Tx)),C1 l ts us=some l'->∀p∈l',p∈l\/(p.1∈ts/\Ab p.1=true):=by
     intro ts;induction ts with
     |nil=>intro us l l' h p hp;simp only[C1]at h;cases h;exact .inl hp
     |cons t ts ih=>
      intro us l l' h p hp;cases us with
      |nil=>simp only[C1]at h;cases h;exact .inl hp
      |cons u us=>
       simp only[C1]at h;split at h
       ·rename_i hv;rcases ih us _ l' h p hp with q|q
        ·rcases Aet.1 q with q|q
         ·exact .inl q
         ·simp at q;subst q;exact .inr ⟨by simp,hv⟩
        ·exact .inr ⟨by simp[q.1],q.2⟩
       ·split at h
        ·rcases ih us _ l' h p hp with q|q
         ·exact .inl q
         ·exact .inr ⟨by simp[q.1],q.2⟩
        ·cases h
    unfold C2 at h0;rw[if_pos ⟨rfl,rfl,rfl⟩]at h0;rcases key _ _ _ _ h0 p hp with q|q
    ·cases q
    ·exact q
   exact (t1 p.1 this.1 this.2).symm
  obtain⟨way,w1,l,g1,g2⟩:=Q9 hk hm θ x.body l0 aa t2;exact⟨hm,way,w1,l0,l,h0,g1,fun p hp q hq h=>by rw[g2 p hp,g2 q hq,h]⟩
def Cw (x:RItem)(k:Nat):RItem:={out:=false,head:=x.head,body:=x.body.eraseIdx k}
def M4 (ls:List RAtom)(k n:Nat):List RAtom:=(ls.take n).eraseIdx k
theorem nM {ls:List RAtom}{k n:Nat}{a:RAtom}(h:ls[n]?=some a)(hk:n≠k):M4 ls k (n+1)=M4 ls k n++[a]:=by
 have hn:=(Adm.1 h).1;have hl:(ls.take n).length=n:=by rw[Aec];omega
 unfold M4;rw[Ad0,h,Aez];by_cases aa:k<n
 ·rw[List.eraseIdx_append_of_lt_length Agm]
 ·rw[Afo (by rw[Aeb,hl];simp;omega),Afo Agm]
theorem dC {ls:List RAtom}{k:Nat}{a:RAtom}(h:ls[k]?=some a):M4 ls k (k+1)=M4 ls k k:=by
 have hn:=(Adm.1 h).1;have hl:(ls.take k).length=k:=by rw[Aec];omega
 unfold M4;have e:(ls.take k).eraseIdx k=ls.take k:=Afo Agm;rw[e,Ad0,h,Aez,List.eraseIdx_append_of_length_le Agm,hl,Afd];simp
theorem nK (ls:List RAtom)(k n:Nat):(M4 ls k n).length<=n:=by
 unfold M4;have h1:=Afp (ls.take n) k;rw[Aec]at h1;omega
theorem nL (ls:List RAtom)(k:Nat):M4 ls k ls.length=ls.eraseIdx k:=by unfold M4;rw[Adu]
theorem M9 (N:List Tx)(x:RItem)(c:List AV)(k:Nat)(hc:PI N x c)(hn:x.body.length<=1000)(σ:St):ACalls Tryz.prog 106 [ag c,sc (.int .i64 k)] σ fun r σ'=>∃c',r=ag c'/\PI N (Cw x k) c'/\Keep σ σ':=by
 obtain⟨hm,ih,id,b,hb,rfl⟩:=hc;have a5:=EL.length Fe hb;refine Z9 30 [.cell 4 97] Tryz.func106 ?_
 repeat' first|refine Z1 ?_|refine Z8 fun ya J=>?_|refine Z4 ?_;clear J ya|refine Z2 ?_ ?_<;>intro h ab<;>try exact Xp|refine Z3 ?_|exact Zt|apply J.out;clear J ya
 refine Ad (fun m s σ'=>∃(n i3:Nat) (xs:List AV),m=x.body.length-n/\n<=x.body.length/\s 1=sc (.int .i64 k)/\s 4=ptr (σ.nobj+1) 0/\s 5=ptr (σ.nobj+2) 0/\s 12=sl id x.body.length b/\s 13=sc (.int .i64 x.body.length)/\s 14=sc (.int .i64 n)/\Keep σ σ'/\σ.nobj+2<σ'.nobj/\σ'.obj (σ.nobj+1)=[sc (.bool false),sc (.int .i64 0),nilS,nilS]/\σ'.obj (σ.nobj+2)=[sc (.bool false),sc (.int .i64 (N.idxOf x.head.pred:Nat)),sl ih x.head.terms.length (A0 x.head.terms),sl i3 (M4 x.body k n).length xs]/\Own σ σ' i3 (M4 x.body k n).length/\xs.length=(M4 x.body k n).length*3/\Agt (EL (PL N) (M4 x.body k n) xs)) x.body.length
  ⟨0,1,[],Agm,Agm,by simp[upd,initS],Ago,Ago,Ago,Ago,rfl,Xs,Ags,?_,?_,Own.nil _ _,by simp[M4],by simp[Agt,M4,EL]⟩ ?_
 ·rw[Ak Agm,Ah Agq,Ca Agq Agq]
 ·rw[show σ.nobj+2=σ.nobj+1+1 by omega,Aj];simp[M4]
 rintro m s σ' ⟨n,i3,xs,rfl,a4,h1,h4,h5,a8,a7,a6,hK,a3,az,ai,hO,af,hX⟩;have a0:=hK.nobj;have an:=nK x.body k n;by_cases au:n<x.body.length
 ·have aa:=Adn au;obtain⟨ha,ia,r,hd⟩:=Wb hb aa;generalize x.body[n]=a at hd aa ha;have HG:Agt (x.body[n]?=some a):=aa;clear aa;generalize aj:M4 x.body k n=wl at ai hO af hX an;have am:Agt _:=aj;clear aj;by_cases ad:n=k
  ·have ap:((n:Int) !=(k:Int))=false:=by simp[ad]
   have ac:Agt (M4 x.body k (n+1)=wl):=by
    rw[Agt,<-am.out,ad];exact dC (by rw[<-ad];exact HG.out)
   clear ad
   repeat' first|refine Z1 ?_|refine Z8 fun ya J=>?_|refine Z4 ?_;clear J ya|refine Z2 ?_ ?_<;>intro h ab<;>try exact Xp|refine Z3 ?_|exact Zt|apply J.out;clear J ya
   exact⟨x.body.length-(n+1),Agm,n+1,i3,xs,rfl,Agm,by simp,(hK.new _).put hK.nobj _,Agm,by rw[ac.out],by rw[ac.out];exact Own.put (Own.new hO _) _ _,by rw[ac.out];exact af,by rw[Agt,ac.out];exact hX.out⟩
  ·have ap:((n:Int) !=(k:Int))=true:=by simp;omega
   have ac:Agt (M4 x.body k (n+1)=wl++[a]):=by
    rw[Agt,<-am.out];exact nM HG.out ad
   clear ad
   repeat' first|refine Z1 ?_|refine Z8 fun ya J=>?_|refine Z4 ?_;clear J ya|refine Z2 ?_ ?_<;>intro h ab<;>try exact Xp|refine Z3 ?_|exact Zt|apply J.out;clear J ya
   refine Bz (by first|exact J9) ((hK.new _).put hK.nobj _) (Own.put (Own.new hO _) _ _) (by decide) (by rfl) af (by rfl) (by rfl) (by decide) Agm Agm ?_;intro idn σn av aw ay ae ax ak;simp only[Ac,Aa]at ae;have ah:Agt ((M4 x.body k (n+1)).length=wl.length+1):=by rw[Agt,ac.out];simp
   refine Z3 ?_
   repeat' first|refine Z1 ?_|refine Z8 fun ya J=>?_|refine Z4 ?_;clear J ya|refine Z2 ?_ ?_<;>intro h ab<;>try exact Xp|refine Z3 ?_|exact Zt|apply J.out;clear J ya
   refine⟨x.body.length-(n+1),Agm,n+1,idn,xs++[sc (.bool a.nt),sc (.int .i64 (N.idxOf a.pred:Nat)),sl ia a.terms.length (A0 a.terms)],rfl,Agm,by simp,aw.put Agm _,Agm,by rw[ah.out],by rw[ah.out];exact Own.put av _ _,by rw[ah.out];simp;omega,?_⟩;rw[Agt,ac.out];exact EL.append hX.out (EL.single ⟨ha,ia,rfl⟩)
 ·have ao:n=x.body.length:=Agm;subst ao;rw[nL]at ai hX
  repeat' first|refine Z1 ?_|refine Z8 fun ya J=>?_|refine Z4 ?_;clear J ya|refine Z2 ?_ ?_<;>intro h ab<;>try exact Xp|refine Z3 ?_|exact Zt|apply J.out;clear J ya
  exact⟨_,rfl,_,rfl,⟨hm,ih,i3,xs,hX.out,rfl⟩,hK.put Agm _⟩
theorem Wz (o:Option Sw):∃s b,Ov o=tp [ag (Dl s),sc (.bool b)]/\(b=false->o=none)/\(b=true->∃s',o=some s'):=by
 cases o with
 |none=>exact⟨Lb,false,rfl,fun _=>rfl,fun h=>by cases h⟩
 |some s=>exact⟨s,true,rfl,(fun h=>by cases h),fun _=>⟨s,rfl⟩⟩
def fB (L:List Lt)(rest:List Lt)(s:Sw)(x b:Lt):Option Sw:=if b.nt=x.nt/\x.pr=b.pr then (Cx s x.es b.es).bind (Gk L rest)else none
theorem wR {α β:Type}{f:α->Option β}{l:List α}{i:Nat}{b:α}{r:β}(h0:∀j,j<i->∀c,l[j]?=some c->f c=none)(hb:l[i]?=some b)(hf:f b=some r):l.findSome? f=some r:=by
 rw[List.findSome?_eq_some_iff];obtain⟨hi,rfl⟩:=Adm.1 hb;refine⟨l.take i,l[i],l.drop (i+1),by rw[<-Aeo hi,Afq],hf,fun c hc=>?_⟩;obtain⟨j,hj⟩:=Afc hc;rw[Adk]at hj;split at hj
 ·rename_i aa;exact h0 j aa c hj
 ·cases hj
theorem sH {α β:Type}{f:α->Option β}{l:List α}(h0:∀j,j<l.length->∀c,l[j]?=some c->f c=none):l.findSome? f=none:=by
 rw[List.findSome?_eq_none_iff];intro c hc;obtain⟨j,hj⟩:=Afc hc;exact h0 j (Adm.1 hj).1 c hj
def OkA (left:List RAtom)(a:RAtom):Prop:=a.terms.length<=1000/\(∀t∈a.terms,varOk t)/\∀b∈left,a.pred=b.pred->a.terms.length=b.terms.length
theorem rQ (N:List Tx)(left:List RAtom)(cl:List AV)(idl:Nat)(hL:EL (PL N) left cl)(ce:left.length<=1000):∀(lits:List RAtom) (cs:List AV) (ids:Nat) (s:Sw) (σ:St),EL (PL N) lits cs->lits.length<=1000->(∀a∈lits,OkA left a)->
  ACalls Tryz.prog 109 [ag (Dl s),sl ids lits.length cs,sl idl left.length cl] σ fun r σ'=>r=Ov (Gk (left.map (F8 Ap N)) (lits.map (F8 Ap N)) s)/\Keep σ σ':=by
 have b9:=C3;have b8:=O4;have b7:∀s,List.take 78 (Dl s)=Dl s:=fun s=>Aeq (by rw[C3];exact Adc _);have cd:∀s s',lsp (Dl s) 0 (Dl s')=Dl s':=fun s s'=>Hu (by rw[C3,C3]);have cf:∀s,(Dl s).all flat=true:=fun s=>by
  rw[Ado];intro x hx;obtain⟨n,-,rfl⟩:=Ae4.1 hx;unfold fH;split
  ·rfl
  ·split<;>rfl
 have bw:=EL.length Fe hL;intro lits;induction lits with
 |nil=>
  intro cs ids s σ hE _ _;have bv:cs=[]:=hE;subst bv;have hR:Ov (Gk (left.map (F8 Ap N)) (([]:List RAtom).map (F8 Ap N)) s)=tp [ag (Dl s),sc (.bool true)]:=rfl;rw[hR];clear hR;refine Z9 55 [.cell 6 104,.tmp 7] Tryz.func109 ?_
  repeat' first|refine Z1 ?_|refine Z8 fun ya J=>?_|refine Z4 ?_;clear J ya|refine Z2 ?_ ?_<;>intro h aa<;>try exact Xp|refine Z3 ?_|exact Zt|apply J.out;clear J ya
  exact⟨_,rfl,rfl,Xs⟩
 |cons a lits ih=>
  intro cs ids s σ hE hn a4;have a6:=EL.length Fe hE;obtain⟨c0,d,⟨b1,ia,rfl⟩,hd,rfl⟩:=hE;have cg:=EL.length Fe hd;obtain⟨b0,bz,b2⟩:=a4 a (by simp);have ak:∀a∈lits,OkA left a:=fun a' h=>a4 a' (by simp[h]);have bq:lits.length<=1000:=by simp at hn;omega
  have ih:=fun s σ=>ih d 0 s σ hd bq ak;clear a4 ak hn;have hR:Agt (Gk (left.map (F8 Ap N)) ((a::lits).map (F8 Ap N)) s=(left.map (F8 Ap N)).findSome? (fB (left.map (F8 Ap N)) (lits.map (F8 Ap N)) s (F8 Ap N a))):=rfl;rw[hR.out];generalize bh:fB (left.map (F8 Ap N)) (lits.map (F8 Ap N)) s (F8 Ap N a)=fb;have bm:Agt _:=bh;clear bh hR;simp only[Aem,Ae6,Ae8]at a6⊢;refine Z9 55 [.cell 6 104,.tmp 7] Tryz.func109 ?_
  repeat' first|refine Z1 ?_|refine Z8 fun ya J=>?_|refine Z4 ?_;clear J ya|refine Z2 ?_ ?_<;>intro h aa<;>try exact Xp|refine Z3 ?_|exact Zt|apply J.out;clear J ya
  refine Ad (fun m s0 σ'=>∃i:Nat,m=left.length-i/\i<=left.length/\s0 1=sl ids (lits.length+1) (sc (.bool a.nt)::sc (.int .i64 (N.idxOf a.pred:Nat))::sl ia a.terms.length (A0 a.terms)::d)/\s0 2=sl idl left.length cl/\s0 3=ptr σ.nobj 0/\s0 6=ptr (σ.nobj+1) 0/\s0 8=ptr (σ.nobj+2) 0/\s0 21=sl idl left.length cl/\s0 22=sc (.int .i64 left.length)/\s0 23=sc (.int .i64 i)/\Keep σ σ'/\σ.nobj+2<σ'.nobj/\σ'.obj σ.nobj=Dl s/\σ'.obj (σ.nobj+1)=Dl Lb/\σ'.obj (σ.nobj+2)=[sc (.bool a.nt),sc (.int .i64 (N.idxOf a.pred:Nat)),sl ia a.terms.length (A0 a.terms)]/\Agt (∀j,j<i->∀c,(left.map (F8 Ap N))[j]?=some c->fb c=none)) left.length
   ⟨0,Agm,Agm,by simp[upd,initS],by simp[upd,initS],Ago,Ago,Ago,Ago,Ago,rfl,Xs,by simp only[Aa,Ac];omega,?_,?_,?_,fun j hj=>Agm⟩ ?_
  ·rw[Ak Agm,Ah Agq,Ah Agq,Al]
  ·rw[Ak Agm,Ah Agq,Ca Agq Agq]
  ·rw[show σ.nobj+2=σ.nobj+1+1 by omega,Aj]
  rintro m s0 σ' ⟨i,rfl,hi,h1,h2,h3,h6,h8,av,au,ap,hK,cc,ay,ax,aw,a8⟩;have b5:=hK.nobj;by_cases bf:i<left.length
  ·have ae:=Adn bf;have a7:=Aes bf;have bg:=b2 left[i] a7;obtain⟨hb,ib,r,bu⟩:=Wb hL ae;have a9:(left.map (F8 Ap N))[i]?=some (F8 Ap N left[i]):=by rw[Adx,ae];rfl
   generalize left[i]=b at bu ae hb bg a9 a7;have bi:Agt _:=a9;clear ae a9 a7;have ac:Agt (fb (F8 Ap N b)=none->∀j,j<i+1->∀c,(left.map (F8 Ap N))[j]?=some c->fb c=none):=fun h j hj c hc=>by
    by_cases e:j=i
    ·subst e;rw[bi.out]at hc;cases hc;exact h
    ·exact a8.out j Agm c hc
   have bo:N.idxOf a.pred=N.idxOf b.pred->a.terms.length=b.terms.length:=fun h=>bg (El b1 hb h);by_cases hnt:b.nt=a.nt
   ·have bp:(b.nt==a.nt)=true:=by simp[hnt]
    have ai:=fun σ=>Ww s (N.idxOf a.pred:Nat) (N.idxOf b.pred:Nat) a.terms b.terms ia ib (fun h=>bo Agm) b0 bz σ;have am:Agt (fb (F8 Ap N b)=(if ((N.idxOf a.pred:Nat):Int)=((N.idxOf b.pred:Nat):Int)then Cx s (a.terms.map Ap) (b.terms.map Ap)else none).bind (Gk (left.map (F8 Ap N)) (lits.map (F8 Ap N)))):=by
     rw[Agt,<-bm.out];unfold fB F8;dsimp only;by_cases hp:N.idxOf a.pred=N.idxOf b.pred
     ·rw[if_pos ⟨hnt,hp⟩,if_pos Agm]
     ·rw[if_neg (fun h=>hp h.2),if_neg Agm];rfl
    generalize (if ((N.idxOf a.pred:Nat):Int)=((N.idxOf b.pred:Nat):Int)then Cx s (a.terms.map Ap) (b.terms.map Ap)else none)=ow at ai am;cases ow with
    |none=>
     simp only[Ov]at ai;have a5:Agt (fb (F8 Ap N b)=none):=am
     repeat' first|refine Z1 ?_|refine Z8 fun ya J=>?_|refine Z4 ?_;clear J ya|refine Z2 ?_ ?_<;>intro h aa<;>try exact Xp|refine Z5 ?_;refine Xi (ai _) ?_;rintro _ _ ⟨rfl,af⟩;(have ab:=af.obj;have ah:=af.nobj;simp only[Aa,Ac]at ah)|refine Z3 ?_|exact Zt|apply J.out;clear J ya
     exact⟨left.length-(i+1),Agm,i+1,rfl,Agm,by simp,(((((hK.new _).put hK.nobj _).trans af).new _).put Agm _),Agm,ac.out a5.out⟩
    |some s1=>
     simp only[Ov]at ai;have ao:=ih s1;obtain⟨sr,okr,a0,bd,bc⟩:=Wz (Gk (left.map (F8 Ap N)) (lits.map (F8 Ap N)) s1);rw[a0]at ao;have HW:Agt (Ov (fb (F8 Ap N b))=tp [ag (Dl sr),sc (.bool okr)]/\(okr=false->fb (F8 Ap N b)=none)/\(okr=true->∃s',fb (F8 Ap N b)=some s')):=by
      rw[Agt,am.out];exact⟨a0,bd,bc⟩
     clear a0 bd bc am
     repeat' first|refine Z1 ?_|refine Z8 fun ya J=>?_|refine Z4 ?_;clear J ya|refine Z2 ?_ ?_<;>intro h aa<;>try exact Xp|refine Z5 ?_;refine Xi (ai _) ?_;rintro _ _ ⟨rfl,af⟩;(have ab:=af.obj;have ah:=af.nobj;simp only[Aa,Ac]at ah)|refine Z3 ?_|exact Zt|apply J.out;clear J ya
     rename_i σ2;have ba:Keep σ ((σ2.new (Dl Lb)).put σ2.nobj (Dl s1)):=((((hK.new _).put hK.nobj _).trans af).new _).put Agm _;have tno:((σ2.new (Dl Lb)).put σ2.nobj (Dl s1)).nobj=σ2.nobj+1:=rfl;have tob:((σ2.new (Dl Lb)).put σ2.nobj (Dl s1)).obj σ2.nobj=Dl s1:=Aj;have tob0:((σ2.new (Dl Lb)).put σ2.nobj (Dl s1)).obj σ.nobj=Dl s:=by rw[Ak Agm,Ah Agm,ab _ Ags,Ak Agm,Ah Agm,ay]
     have tob1:((σ2.new (Dl Lb)).put σ2.nobj (Dl s1)).obj (σ.nobj+1)=Dl Lb:=by rw[Ak Agm,Ah Agm,ab _ Ags,Ak Agm,Ah Agm,ax]
     have tob2:((σ2.new (Dl Lb)).put σ2.nobj (Dl s1)).obj (σ.nobj+2)=[sc (.bool a.nt),sc (.int .i64 (N.idxOf a.pred:Nat)),sl ia a.terms.length (A0 a.terms)]:=by rw[Ak Agm,Ah Agm,ab _ Ags,Ak Agm,Ah Agm,aw]
     generalize (σ2.new (Dl Lb)).put σ2.nobj (Dl s1)=τ at ba tno tob tob0 tob1 tob2;clear af ab ai ay ax aw hK;refine Bl (Q:=fun e s' σ'=>e= .normal/\∃o:Nat,s' 1=sl ids (lits.length+1) (sc (.bool a.nt)::sc (.int .i64 (N.idxOf a.pred:Nat))::sl ia a.terms.length (A0 a.terms)::d)/\s' 2=sl idl left.length cl/\s' 3=ptr σ.nobj 0/\s' 6=ptr (σ.nobj+1) 0/\s' 8=ptr (σ.nobj+2) 0/\s' 21=sl idl left.length cl/\s' 22=sc (.int .i64 left.length)/\s' 23=sc (.int .i64 i)/\s' 12=sc (.bool okr)/\s' 13=ptr o 0/\τ.nobj<=o/\o<σ'.nobj/\σ'.obj o=Dl sr/\Keep τ σ') ?_ ?_
     ·refine Ay Ag (fun _=>True) [10] [0,1,2,3] 7 #[true,true,true,true,false,false,false,false,false,false,false] Agp (fun _ _ _ h=>by cases h.1) ?_;intro ya J;refine Z3 ?_;refine J.out _ ?_;clear J ya;refine Gz (rs:=[4,8]) Agp (by simp) ?_;intro j hj;simp only[Ae2,Afg,Agj]at hj;rcases hj with rfl|rfl
      ·refine Am ?_;intro ya J;refine Z3 ?_;refine ACalls.mono (ao _) ?_;rintro _ σ5 ⟨rfl,KK⟩;have aj:=KK.nobj;refine Z3 ?_;refine J.out _ _ ⟨Ao KK,?_⟩;clear J ya;refine B8 (i:=5) _ (tp [ag (Dl sr),sc (.bool okr)]) rfl rfl rfl rfl rfl Agp Agp (fun _ _ _ h=>by cases h.1) (fun o ho _=>KK.ver o ho) ?_;refine B8 (i:=6) _ (ag (Dl sr)) rfl rfl rfl rfl rfl Agp Agp (fun _ _ _ h=>by cases h.1) (fun o ho _=>KK.ver o ho) ?_;refine B8 (i:=7) _ (sc (.bool okr)) rfl rfl rfl rfl rfl Agp Agp (fun _ _ _ h=>by cases h.1) (fun o ho _=>KK.ver o ho) ?_;refine Ai (i:=8) Agp ?_;refine Am ?_;intro ya J;refine Z3 ?_;refine J.out _ _ ⟨Ao (KK.new _),?_⟩;clear J ya;refine Ai (i:=9) Agp ?_;refine Am ?_;intro ya J;refine Z3 ?_;refine J.out _ _ ⟨Ao ((KK.new _).put Agm _),?_⟩;clear J ya;refine Ai (i:=10) Agp ?_;refine Am ?_;intro ya J;refine Z3 ?_;refine J.out _ _ ⟨Bf rfl,?_⟩;clear J ya;refine Bb Agp ⟨rfl,σ5.nobj,by simp[upd,aput,h1],by simp[upd,aput,h2],by simp[upd,aput,h3],by simp[upd,aput,h6],by simp[upd,aput,h8],by simp[upd,aput,av],by simp[upd,aput,au],by simp[upd,aput,ap],by simp[upd,aput],by simp[upd,aput],Agm,Ags,Aj,(KK.new _).put Agm _⟩
      ·refine Am ?_;intro ya J;refine Z3 ?_;refine J.out _ _ ⟨Ao ((Keep.refl _).new _),?_⟩;clear J ya;refine Ai (i:=4) Agp ?_;refine Am ?_;intro ya J;refine Z3 ?_;refine ACalls.mono (ao _) ?_;rintro _ σ5 ⟨rfl,bb⟩;have az:=bb.obj;have aj:=bb.nobj;simp only[Aa]at aj;have b4:σ5.obj τ.nobj=Dl Lb:=by rw[az _ (by rw[Aa];omega),Al]
       have KK:=((Keep.refl τ).new (Dl Lb)).trans bb;refine Z3 ?_;refine J.out _ _ ⟨Ao KK,?_⟩;clear J ya;refine B8 (i:=5) _ (tp [ag (Dl sr),sc (.bool okr)]) rfl rfl rfl rfl rfl Agp Agp (fun _ _ _ h=>by cases h.1) (fun o ho _=>KK.ver o ho) ?_;refine B8 (i:=6) _ (ag (Dl sr)) rfl rfl rfl rfl rfl Agp Agp (fun _ _ _ h=>by cases h.1) (fun o ho _=>KK.ver o ho) ?_;refine B8 (i:=7) _ (sc (.bool okr)) rfl rfl rfl rfl rfl Agp Agp (fun _ _ _ h=>by cases h.1) (fun o ho _=>KK.ver o ho) ?_;refine Ai (i:=9) Agp ?_;refine Am ?_;intro ya J;refine Z3 ?_;refine J.out _ _ ⟨Ao (KK.put Agm _),?_⟩;clear J ya;refine Ai (i:=10) Agp ?_;refine Am ?_;intro ya J;refine Z3 ?_;refine J.out _ _ ⟨Bf rfl,?_⟩;clear J ya;refine Bb Agp ⟨rfl,σ2.nobj+1,by simp[upd,aput,h1],by simp[upd,aput,h2],by simp[upd,aput,h3],by simp[upd,aput,h6],by simp[upd,aput,h8],by simp[upd,aput,av],by simp[upd,aput,au],by simp[upd,aput,ap],by simp[upd,aput],by simp[upd,aput],Agm,by simp only[Ac];omega,Aj,KK.put Agm _⟩
     ·clear h1 h2 h3 h6 h8 av au ap;rintro e s' σ6 ⟨rfl,o,h1,h2,h3,h6,h8,av,au,ap,ci,ch,b6,ca,cb,an⟩;have ad:=an.obj;have bn:=an.nobj;have b3:=ba.trans an;have ay:σ6.obj σ.nobj=Dl s:=by rw[ad _ Agm,tob0]
      have ax:σ6.obj (σ.nobj+1)=Dl Lb:=by rw[ad _ Agm,tob1]
      have aw:σ6.obj (σ.nobj+2)=[sc (.bool a.nt),sc (.int .i64 (N.idxOf a.pred:Nat)),sl ia a.terms.length (A0 a.terms)]:=by rw[ad _ Agm,tob2]
      clear ad tob tob0 tob1 tob2 an ba ao ih;cases okr with
      |true=>
       repeat' first|refine Z1 ?_|refine Z8 fun ya J=>?_|refine Z4 ?_;clear J ya|refine Z2 ?_ ?_<;>intro h aa<;>try exact Xp|refine Z3 ?_|exact Zt|apply J.out;clear J ya
       obtain⟨s2,be⟩:=HW.out.2.2 rfl;refine⟨_,rfl,?_,b3.put Agm _⟩;rw[wR a8.out bi.out be,<-be,HW.out.1]
      |false=>
       repeat' first|refine Z1 ?_|refine Z8 fun ya J=>?_|refine Z4 ?_;clear J ya|refine Z2 ?_ ?_<;>intro h aa<;>try exact Xp|refine Z3 ?_|exact Zt|apply J.out;clear J ya
       exact⟨left.length-(i+1),Agm,i+1,rfl,Agm,by simp,Agm,ac.out (HW.out.2.1 rfl)⟩
   ·have bp:(b.nt==a.nt)=false:=by simpa using hnt
    have a5:Agt (fb (F8 Ap N b)=none):=by
     rw[Agt,<-bm.out];unfold fB F8;exact if_neg (fun h=>hnt h.1)
    clear hnt
    repeat' first|refine Z1 ?_|refine Z8 fun ya J=>?_|refine Z4 ?_;clear J ya|refine Z2 ?_ ?_<;>intro h aa<;>try exact Xp|refine Z3 ?_|exact Zt|apply J.out;clear J ya
    exact⟨left.length-(i+1),Agm,i+1,rfl,Agm,by simp,(hK.new _).put hK.nobj _,Agm,ac.out a5.out⟩
  ·have br:i=left.length:=Agm;subst br;have a3:Agt ((left.map (F8 Ap N)).findSome? fb=none):=sH (by rw[Ae3];exact a8.out)
   repeat' first|refine Z1 ?_|refine Z8 fun ya J=>?_|refine Z4 ?_;clear J ya|refine Z2 ?_ ?_<;>intro h aa<;>try exact Xp|refine Z3 ?_|exact Zt|apply J.out;clear J ya
   exact⟨_,rfl,by rw[a3.out];rfl,hK.put Agm _⟩
def jC (e:Bool×Int):Tx:=if e.1=true then [UInt8.ofNat (IntKind.u8.wrap (65+e.2)).toNat]else Lib.itoa e.2
def okE (e:Bool×Int):Prop:=0<=e.2/\(e.1=true->e.2<26)/\e.2<=999/\(jC e).length<=1000
theorem dY (e:Bool×Int)(h:okE e)(σ:St):ACalls Tryz.prog 110 [ag [sc (.bool e.1),sc (.int .i64 e.2)]] σ fun r σ'=>r=str (jC e)/\Keep σ σ':=by
 have ab:∀z:UInt8,({data:=#[z]}:ByteArray)=bs [z]:=fun _=>rfl;obtain⟨b,v⟩:=e;obtain⟨h0,h1,h2,-⟩:=h;dsimp only at h0 h1 h2⊢;cases b with
 |true=>
  have h1:=h1 rfl;have hL:Agt (jC (true,v)=[UInt8.ofNat (IntKind.u8.wrap (65+v)).toNat]):=rfl;refine Z9 14 [.tmp 2] Tryz.func110 ?_
  repeat' first|refine Z1 ?_|refine Z8 fun ya J=>?_|refine Z4 ?_;clear J ya|refine Z2 ?_ ?_<;>intro h aa<;>try exact Xp|refine Z7 ?_|exact Zt|apply J.out;clear J ya
  exact⟨_,rfl,by rw[hL.out],Xs⟩
 |false=>
  have hI:=fun σ=>Zo v h0 Agm σ;have hL:Agt (jC (false,v)=Lib.itoa v):=rfl;generalize Lib.itoa v=w at hI hL;refine Z9 14 [.tmp 2] Tryz.func110 ?_
  repeat' first|refine Z1 ?_|refine Z8 fun ya J=>?_|refine Z4 ?_;clear J ya|refine Z2 ?_ ?_<;>intro h aa<;>try exact Xp|refine Z5 ?_;refine Xi (hI _) ?_;rintro _ _ ⟨rfl,rfl⟩|refine Z7 ?_|exact Zt|apply J.out;clear J ya
  exact⟨_,rfl,by rw[hL.out],Xs⟩
theorem Ss (ts:List Tx)(t:Tx):Bj (ts++[t])=Bj ts++((if ts=[]then []else [44])++t):=by
 cases ts with
 |nil=>simp[Bj,Cd]
 |cons u ts=>simp[Bj,Cd]
def Lc (N:List Tx)(y:RItem)(k:Nat)(s0:Sw):Option Sw:=if Et (Cw y k)=true then Gk ((y.body.eraseIdx k).map (F8 Ap N)) (y.body.map (F8 Ap N)) s0 else none
theorem K7 {y:RItem}{k:Nat}(h:y.fits):(Cw y k).fits:=
 ⟨Ade (Afp _ _) h.1,h.2.1,fun a ha=>h.2.2 a (Afn ha)⟩
theorem gB (N:List Tx)(y:RItem)(c:List AV)(k:Nat)(s0:Sw)(hc:PI N y c)(hf:y.fits)(a5:Cx Lb (y.head.terms.map Ap) (y.head.terms.map Ap)=some s0)(hv:∀t∈y.head.terms,varOk t)(a6:∀a∈y.body,OkA (y.body.eraseIdx k) a)(σ:St):
  ACalls Tryz.prog 64 [ag c,sc (.int .i64 k)] σ fun r σ'=>r=Ov (Lc N y k s0)/\Keep σ σ':=by
 have bb:=C3;have ba:=O4;have a9:∀s,List.take 78 (Dl s)=Dl s:=fun s=>Aeq (by rw[C3];exact Adc _);have bc:∀s s',lsp (Dl s) 0 (Dl s')=Dl s':=fun s s'=>Hu (by rw[C3,C3]);have bd:∀s,(Dl s).all flat=true:=fun s=>by
  rw[Ado];intro x hx;obtain⟨n,-,rfl⟩:=Ae4.1 hx;unfold fH;split
  ·rfl
  ·split<;>rfl
 have ax:=fun σ=>M9 N y c k hc hf.1 σ;have aj:=fun c' a8 σ=>Uc N (Cw y k) c' a8 (fun h=>by cases h) (K7 hf) σ;have av:=hf.1;obtain⟨hm,ih,id,b,hb,rfl⟩:=hc;have ai:=fun i1 i2 σ=>Ww Lb (N.idxOf y.head.pred:Nat) (N.idxOf y.head.pred:Nat) y.head.terms y.head.terms i1 i2 (fun _=>rfl) hf.2.1 hv σ;rw[if_pos rfl,a5]at ai;simp only[Ov]at ai;have au:=fun cl idl hL ids σ=>rQ N (y.body.eraseIdx k) cl idl hL (Ade (Afp _ _) av) y.body b ids s0 σ hb av a6;obtain⟨sr,okr,af,-,-⟩:=Wz (Gk ((y.body.eraseIdx k).map (F8 Ap N)) (y.body.map (F8 Ap N)) s0);rw[af]at au;cases ah:Et (Cw y k)with
 |false=>
  have HR:Agt (Ov (Lc N y k s0)=tp [ag (Dl Lb),sc (.bool false)]):=by rw[Agt,Lc,if_neg (by rw[ah];simp)];rfl
  rw[ah]at aj;clear au ai af;refine Z9 33 [.cell 4 104,.tmp 5] Tryz.func64 ?_
  repeat' first|refine Z1 ?_|refine Z8 fun ya J=>?_|refine Z4 ?_;clear J ya|refine Z2 ?_ ?_<;>intro h ao<;>try exact Xp|(refine Z5 ?_;first|(refine Xi (ax _) ?_;rintro _ _ ⟨c2,rfl,ac,ae⟩;(have am:=ae.obj;have ab:=ae.nobj;simp only[Aa]at ab;have ap:=aj c2 ac;obtain⟨a7,ih2,id2,b2,aw,rfl⟩:=ac))|(refine Xi (ap _) ?_;rintro _ _ ⟨rfl,ad⟩;(have ak:=ad.obj;have aa:=ad.nobj;simp only[Aa,Ac]at aa)))|refine Z7 ?_|exact Zt|apply J.out;clear J ya
  exact⟨_,rfl,by rw[HR.out],Xs⟩
 |true=>
  have HR:Agt (Ov (Lc N y k s0)=tp [ag (Dl sr),sc (.bool okr)]):=by rw[Agt,Lc,if_pos ah];exact af
  rw[ah]at aj;clear af;refine Z9 33 [.cell 4 104,.tmp 5] Tryz.func64 ?_
  repeat' first|refine Z1 ?_|refine Z8 fun ya J=>?_|refine Z4 ?_;clear J ya|refine Z2 ?_ ?_<;>intro h ao<;>try exact Xp|(refine Z5 ?_;first|(refine Xi (ax _) ?_;rintro _ _ ⟨c2,rfl,ac,ae⟩;(have am:=ae.obj;have ab:=ae.nobj;simp only[Aa]at ab;have ap:=aj c2 ac;obtain⟨a7,ih2,id2,b2,aw,rfl⟩:=ac))|(refine Xi (ap _) ?_;rintro _ _ ⟨rfl,ad⟩;(have ak:=ad.obj;have aa:=ad.nobj;simp only[Aa,Ac]at aa))|(refine Xi (ai _ _ _) ?_;rintro _ _ ⟨rfl,az⟩;(have a3:=az.obj;have a4:=az.nobj))|(refine Xi (au _ _ aw _ _) ?_;rintro _ _ ⟨rfl,ay⟩;(have a0:=ay.obj;have an:=ay.nobj;simp only[Aa,Ac]at an)))|refine Z7 ?_|exact Zt|apply J.out;clear J ya
  exact⟨_,rfl,by rw[HR.out],Xs⟩
end Go.Proofs.YtmoeoppbmhfbpaaGreatDoorD
