import Derived.Test.YtmoeoppbmhfbpabGreatDoorLProgH
import Derived.Test.YtmoeoppbmhfbpabGreatDoorLRefA
import Derived.Test.YtmoeoppbmhfbpabGreatDoorLProgM
import Derived.Test.YtmoeoppbmhfbpabGreatDoorLAbsWp
import Derived.Test.YtmoeoppbmhfbpabGreatDoorLShelf
set_option maxHeartbeats 32000000
set_option maxRecDepth 100000
set_option linter.all false
namespace Go.Proofs.YtmoeoppbmhfbpabGreatDoorL
open Go.Abs
abbrev Sw:=(Nat->Bool)×(Nat->Bool×Int)
def K6:Sw:=(fun _=>false,fun _=>(false,0))
def eZ (s:Sw)(n:Nat):AV:=if n<26 then sc (.bool (s.1 n))else if n % 2=0 then sc (.bool (s.2 ((n-26) / 2)).1)else sc (.int .i64 (s.2 ((n-26) / 2)).2)
def Dm (s:Sw):List AV:=(List.range 78).map (eZ s)
theorem Cw (s:Sw):(Dm s).length=78:=by simp[Dm]
theorem Pb:swZ.map cst1=Dm K6:=rfl
theorem vY {s:Sw}{i:Nat}(h:i<26):(Dm s)[i]?=some (sc (.bool (s.1 i))):=by
 simp[Dm,eZ,h,show i<78 by omega]
theorem vX {s:Sw}{i:Nat}(h:i<26)(v:Bool):(Dm s).set i (sc (.bool v))=Dm (fun j=>if j=i then v else s.1 j,s.2):=by
 apply Ahi;intro n;rw[Ag8];by_cases hn:n<78
 ·by_cases he:i=n
  ·subst he;simp[Dm,eZ,h,hn]
  ·have:n≠i:=fun e=>he e.symm;simp[Dm,eZ,hn,he,this]
 ·have:i≠n:=Aj6;simp[Dm,hn,this]
theorem Ui {s:Sw}{n:Nat}(h:n<78):(Dm s)[n]?=some (eZ s n):=by simp[Dm,h]
theorem fA (s:Sw){i:Nat}(h:i<26):∃r,(Dm s).drop (26+i*2)=sc (.bool (s.2 i).1)::sc (.int .i64 (s.2 i).2)::r:=by
 have e1:eZ s (26+i*2)=sc (.bool (s.2 i).1):=by
  unfold eZ;rw[if_neg Aj6,if_pos Aj6,show (26+i*2-26) / 2=i by omega]
 have e2:eZ s (26+i*2+1)=sc (.int .i64 (s.2 i).2):=by
  unfold eZ;rw[if_neg Aj6,if_neg Aj6,show (26+i*2+1-26) / 2=i by omega]
 refine⟨(Dm s).drop (26+i*2+1+1),?_⟩;have l1:26+i*2<(Dm s).length:=by rw[Cw];omega
 have l2:26+i*2+1<(Dm s).length:=by rw[Cw];omega
 rw[Ah0 l1,Ah0 l2];have g1:=Agz l1;have g2:=Agz l2;rw[Ui Aj6,e1]at g1;rw[Ui Aj6,e2]at g2;rw[<-Ai8 g1,<-Ai8 g2]
theorem vW (s:Sw){i:Nat}(h:i<26)(b:Bool)(v:Int):lsp (Dm s) (26+i*2) [sc (.bool b),sc (.int .i64 v)]=Dm (s.1,fun j=>if j=i then (b,v)else s.2 j):=by
 rw[Gk _ _ _ (by rw[Cw];simp;omega)];apply Ahi;intro n;have hl:=Cw s;by_cases hn:n<78
 ·rw[Ui hn];by_cases c1:n<26+i*2
  ·rw[Ahq,List.getElem?_append_left (by rw[Ahp];omega),Agw,if_pos c1,Ui hn];congr 1;unfold eZ;by_cases c:n<26
   ·rw[if_pos c,if_pos c]
   ·have:(n-26) / 2≠i:=Aj6;simp[c,this]
  ·by_cases c2:n<26+i*2+2
   ·rw[Ahq,Ahr (by rw[Ahp];omega),Ahp,Ahu Aj6];rcases (show n=26+i*2\/n=26+i*2+1 by omega)with e|e
    ·subst e;simp only[Aig,Ah4,Ai9];unfold eZ;rw[if_neg Aj6,if_pos Aj6,show (26+i*2-26) / 2=i by omega];simp
    ·subst e;rw[show 26+i*2+1-(26+i*2)=1 by omega];simp only[Ah4,List.getElem?_cons_succ,Ai9];unfold eZ;rw[if_neg Aj6,if_neg Aj6,show (26+i*2+1-26) / 2=i by omega];simp
   ·rw[Ahr (by simp[Ahp];omega)];simp only[Aho,Ahp,Ahy,Ahx];rw[Agx,Ahu Aj6,show 26+i*2+2+(n-(26+i*2+(0+1+1)))=n by omega,Ui hn];congr 1;unfold eZ;have:(n-26) / 2≠i:=Aj6;have c:¬n<26:=Aj6;simp[c,this]
 ·rw[Ahb (by simp[Ahp,Cw];omega),Ahb (by rw[Cw];omega)]
theorem vV (s:Sw){i:Nat}(h:i<26)(b:Bool)(v:Int):((Dm s).set (26+i*2) (sc (.bool b))).set (26+i*2+1) (sc (.int .i64 v))=Dm (s.1,fun j=>if j=i then (b,v)else s.2 j):=vW s h b v
def Gw (s:Sw)(e b:Bool×Int):Option Sw:=
 if e.1=true then
  (if s.1 e.2.toNat=true then (if s.2 e.2.toNat=b then some s else none)
   else some (fun j=>if j=e.2.toNat then true else s.1 j,fun j=>if j=e.2.toNat then b else s.2 j))
 else if e=b then some s else none
def Cg:Sw->List (Bool×Int)->List (Bool×Int)->Option Sw
 |s,[],_=>some s
 |_,_::_,[]=>none
 |s,e::es,b::bs=>(Gw s e b).bind fun s'=>Cg s' es bs
def O3:Option Sw->AV
 |some s=>tp [ag (Dm s),sc (.bool true)]
 |none=>tp [ag (Dm K6),sc (.bool false)]
def varOk (t:Tx):Prop:=(Ak t).1=true->∃k:Nat,k<26/\(Ak t).2=(k:Int)
theorem kO {s:Sw}{ts us:List Tx}{k:Nat}{t u:Tx}(ht:ts[k]?=some t)(hu:us[k]?=some u):Cg s ((ts.drop k).map Ak) ((us.drop k).map Ak)=(Gw s (Ak t) (Ak u)).bind fun s'=>Cg s' ((ts.drop (k+1)).map Ak) ((us.drop (k+1)).map Ak):=by
 have h1:=(Agy.1 ht);have h2:=(Agy.1 hu);obtain⟨l1,e1⟩:=h1;obtain⟨l2,e2⟩:=h2;rw[Ah0 l1,Ah0 l2,e1,e2];rfl
theorem X5 (s:Sw)(p q:Int)(ts us:List Tx)(i1 i2:Nat)(hl:p=q->ts.length=us.length)(hn:ts.length<=1000)(hv:∀t∈ts,varOk t)(σ:St):
  ACalls Tryz.prog 147 [ag (Dm s),ag [sc (.int .i64 p),sl i1 ts.length (Au ts)],ag [sc (.int .i64 q),sl i2 us.length (Au us)]] σ fun r σ'=>r=O3 (if p=q then Cg s (ts.map Ak) (us.map Ak)else none)/\Keep σ σ':=by
 have a6:=Et ts;have a5:=Et us;have a9:=Cw;have a8:=Pb;have a7:∀s,List.take 78 (Dm s)=Dm s:=fun s=>Aia (by rw[Cw];exact Agn _);have bd:∀s s',lsp (Dm s) 0 (Dm s')=Dm s':=fun s s'=>Mz (by rw[Cw,Cw]);have be:∀s,(Dm s).all flat=true:=fun s=>by
  rw[Ag0];intro x hx;obtain⟨n,-,rfl⟩:=Aib.1 hx;unfold eZ;split
  ·rfl
  ·split<;>rfl
 by_cases ae:p=q
 ·have am:Akc (ts.length=us.length):=hl ae;have hb:(p !=q)=false:=by simp[ae]
  rw[if_pos ae];clear hl ae;refine Z9 62 [.cell 6 154,.tmp 7] Tryz.func147 ?_
  repeat' (first|refine Z1 ?_|(refine Z8 ?_;intro yb ya)|(refine Z4 ?_;clear ya yb)|(refine Z2 ?_ ?_<;>intro h ab<;>try exact Xp)|refine Z3 ?_|exact Zt|(apply ya.out;clear ya yb))
  refine Af (fun m s0 σ'=>∃(k:Nat) (s':Sw),m=ts.length-k/\k<=ts.length/\s0 3=ptr σ.nobj 0/\s0 5=ptr (σ.nobj+2) 0/\s0 6=ptr (σ.nobj+3) 0/\s0 18=sl i1 ts.length (Au ts)/\s0 19=sc (.int .i64 ts.length)/\s0 20=sc (.int .i64 k)/\Keep σ σ'/\σ.nobj+3<σ'.nobj/\σ'.obj σ.nobj=Dm s'/\σ'.obj (σ.nobj+2)=[sc (.int .i64 q),sl i2 us.length (Au us)]/\σ'.obj (σ.nobj+3)=Dm K6/\Akc (Cg s (ts.map Ak) (us.map Ak)=Cg s' ((ts.drop k).map Ak) ((us.drop k).map Ak))) ts.length
   ⟨0,s,Aj6,Aj6,Aj8,Aj8,Aj8,Aj8,Aj8,rfl,Xs,Aka,?_,?_,?_,by simp[Akc]⟩ ?_
  ·rw[Ag Aka,Ag Aka,Ag Aka,Ao]
  ·rw[Ag Aka,Bs Aka Aka]
  ·rw[Bs Aka Aka]
  rintro m s0 σ' ⟨k,s',rfl,hk,h3,h5,h6,bh,bg,bf,hK,bc,a3,a0,az,hW⟩;have a4:=hK.nobj;by_cases an:k<ts.length
  ·have av:k<us.length:=by have:=am.out;omega
   have g1:=Agz an;have g2:=Agz av;have ah:=hv ts[k] (Ain an);obtain⟨r1,au⟩:=Fy g1;obtain⟨r2,ap⟩:=Fy g2;have ac:Akc (Cg s (ts.map Ak) (us.map Ak)=(Gw s' (Ak ts[k]) (Ak us[k])).bind fun s'=>Cg s' ((ts.drop (k+1)).map Ak) ((us.drop (k+1)).map Ak)):=by rw[Akc,hW.out,kO g1 g2]
   unfold varOk at ah;clear g1 g2 hW;generalize Ak ts[k]=e at au ac ah;generalize Ak us[k]=b at ap ac;obtain⟨e1,e2⟩:=e;obtain⟨b1,b2⟩:=b;dsimp only at au ap ah;cases e1 with
   |true=>
    obtain⟨kk,aj,rfl⟩:=ah rfl;have ao:=vY (s:=s') aj;obtain⟨r3,ak⟩:=fA s' aj;cases ad:s'.1 kk with
    |true=>
     rw[ad]at ao;by_cases aa:s'.2 kk=(b1,b2)
     ·have ai:Akc (Cg s (ts.map Ak) (us.map Ak)=Cg s' ((ts.drop (k+1)).map Ak) ((us.drop (k+1)).map Ak)):=by
       rw[Akc,ac.out];unfold Gw;simp[ad,aa]
      rw[aa]at ak;dsimp only at ak;clear ac ad aa
      repeat' (first|refine Z1 ?_|(refine Z8 ?_;intro yb ya)|(refine Z4 ?_;clear ya yb)|(refine Z2 ?_ ?_<;>intro h ab<;>try exact Xp)|refine Z3 ?_|exact Zt|(apply ya.out;clear ya yb))
      exact⟨ts.length-(k+1),Aj6,k+1,s',rfl,Aj6,by simp,((((hK.new _).put hK.nobj _).new _).put Aj6 _).put hK.nobj _,Aj6,rfl,ai⟩
     ·have af:Akc (Cg s (ts.map Ak) (us.map Ak)=none):=by
       rw[Akc,ac.out];unfold Gw;simp[ad,aa]
      clear ac ad;generalize s'.2 kk=g at ak aa;obtain⟨c1,c2⟩:=g;have ay:(c1==b1&&c2==b2)=false:=by
       cases hq:(c1==b1&&c2==b2)with
       |false=>rfl
       |true=>simp at hq;exact absurd (by rw[hq.1,hq.2]) aa
      dsimp only at ak;clear aa
      repeat' (first|refine Z1 ?_|(refine Z8 ?_;intro yb ya)|(refine Z4 ?_;clear ya yb)|(refine Z2 ?_ ?_<;>intro h ab<;>try exact Xp)|refine Z3 ?_|exact Zt|(apply ya.out;clear ya yb))
      exact⟨_,rfl,by rw[af.out];rfl,(((((hK.new _).put hK.nobj _).new _).put Aj6 _).put hK.nobj _).put Aj6 _⟩
    |false=>
     rw[ad]at ao;have bb:=vX (s:=s') aj true;have ba:=fun s'=>vV s' aj b1 b2;have ai:Akc (Cg s (ts.map Ak) (us.map Ak)=Cg (fun j=>if j=kk then true else s'.1 j,fun j=>if j=kk then (b1,b2)else s'.2 j) ((ts.drop (k+1)).map Ak) ((us.drop (k+1)).map Ak)):=by
      rw[Akc,ac.out];unfold Gw;simp[ad]
     obtain⟨r4,ax⟩:=fA (fun j=>if j=kk then true else s'.1 j,fun j=>if j=kk then (b1,b2)else s'.2 j) aj;simp only[if_true]at ax;clear ac ad
     repeat' (first|refine Z1 ?_|(refine Z8 ?_;intro yb ya)|(refine Z4 ?_;clear ya yb)|(refine Z2 ?_ ?_<;>intro h ab<;>try exact Xp)|refine Z3 ?_|exact Zt|(apply ya.out;clear ya yb))
     exact⟨ts.length-(k+1),Aj6,k+1,(fun j=>if j=kk then true else s'.1 j,fun j=>if j=kk then (b1,b2)else s'.2 j),rfl,Aj6,by simp,((((((hK.new _).put hK.nobj _).new _).put Aj6 _).put (Agn _) _).put (Agn _) _).put hK.nobj _,Aj6,rfl,ai⟩
   |false=>
    by_cases aa:(false,e2)=(b1,b2)
    ·have ai:Akc (Cg s (ts.map Ak) (us.map Ak)=Cg s' ((ts.drop (k+1)).map Ak) ((us.drop (k+1)).map Ak)):=by
      rw[Akc,ac.out];unfold Gw;simp[aa]
     cases aa;clear ac ah
     repeat' (first|refine Z1 ?_|(refine Z8 ?_;intro yb ya)|(refine Z4 ?_;clear ya yb)|(refine Z2 ?_ ?_<;>intro h ab<;>try exact Xp)|refine Z3 ?_|exact Zt|(apply ya.out;clear ya yb))
     exact⟨ts.length-(k+1),Aj6,k+1,s',rfl,Aj6,by simp,(((hK.new _).put hK.nobj _).new _).put Aj6 _,Aj6,rfl,ai⟩
    ·have af:Akc (Cg s (ts.map Ak) (us.map Ak)=none):=by
      rw[Akc,ac.out];unfold Gw;simp[aa]
     have ay:(false==b1&&e2==b2)=false:=by
      cases hq:(false==b1&&e2==b2)with
      |false=>rfl
      |true=>simp at hq;exact absurd (by rw[<-hq.1,hq.2]) aa
     clear ac ah aa
     repeat' (first|refine Z1 ?_|(refine Z8 ?_;intro yb ya)|(refine Z4 ?_;clear ya yb)|(refine Z2 ?_ ?_<;>intro h ab<;>try exact Xp)|refine Z3 ?_|exact Zt|(apply ya.out;clear ya yb))
     exact⟨_,rfl,by rw[af.out];rfl,((((hK.new _).put hK.nobj _).new _).put Aj6 _).put Aj6 _⟩
  ·have aw:k=ts.length:=Aj6;subst aw;have hR:Cg s (ts.map Ak) (us.map Ak)=some s':=by rw[hW.out,List.drop_length];simp[Cg]
   repeat' (first|refine Z1 ?_|(refine Z8 ?_;intro yb ya)|(refine Z4 ?_;clear ya yb)|(refine Z2 ?_ ?_<;>intro h ab<;>try exact Xp)|refine Z3 ?_|exact Zt|(apply ya.out;clear ya yb))
   exact⟨_,rfl,rfl,hK.put Aj6 _⟩
 ·have hb:(p !=q)=true:=by simpa using ae
  rw[if_neg ae];clear hl ae;refine Z9 62 [.cell 6 154,.tmp 7] Tryz.func147 ?_
  repeat' (first|refine Z1 ?_|(refine Z8 ?_;intro yb ya)|(refine Z4 ?_;clear ya yb)|(refine Z2 ?_ ?_<;>intro h ab<;>try exact Xp)|refine Z3 ?_|exact Zt|(apply ya.out;clear ya yb))
  exact⟨_,rfl,rfl,((((((Keep.refl _).new _).new _).new _).new _).put Aj6 _)⟩
structure Lt where
 nt:Bool
 pr:Nat
 es:List (Bool×Int)
def F7 (left:List Lt):List Lt->Sw->Option Sw
 |[],s=>some s
 |x::xs,s=>left.findSome? fun b=>if b.nt=x.nt/\x.pr=b.pr then (Cg s x.es b.es).bind (F7 left xs)else none
def Ge (e:Tx->Bool×Int)(N:List Tx)(a:RAtom):Lt:=⟨a.nt,N.idxOf a.pred,a.terms.map e⟩
def jW (θ:Tx->Tx)(t:Tx):Tx:=if Ad t=true then θ t else t
def bV (θ:Tx->Tx)(a b:RAtom):Prop:=a.nt=b.nt/\a.pred=b.pred/\a.terms.map (jW θ)=b.terms
def Rb (x:RItem)(k:Nat):Prop:=∃θ:Tx->Tx,(∀t∈x.head.terms,Ad t=true->θ t=t)/\∀a∈x.body,∃b∈x.body.eraseIdx k,bV θ a b
structure Tell (e:Tx->Bool×Int)(U:Tx->Prop):Prop where
 var:∀t,U t->(e t).1=Ad t
 inj:∀t u,U t->U u->e t=e u->t=u
 pos:∀t,U t->Ad t=true->0<=(e t).2
def Wq (e:Tx->Bool×Int)(t:Tx):Nat:=(e t).2.toNat
theorem Tell.same {e:Tx->Bool×Int}{U:Tx->Prop}(T:Tell e U){t u:Tx}(ht:U t)(hu:U u)(vt:Ad t=true)(vu:Ad u=true)(h:Wq e t=Wq e u):t=u:=by
 apply T.inj t u ht hu;have h1:=T.var t ht;have h2:=T.var u hu;have h3:=T.pos t ht vt;have h4:=T.pos u hu vu;unfold Wq at h;apply Prod.ext
 ·rw[h1,h2,vt,vu]
 ·omega
def Agr (e:Tx->Bool×Int)(U:Tx->Prop)(s:Sw)(θ:Tx->Tx):Prop:=∀t,U t->Ad t=true->s.1 (Wq e t)=true->s.2 (Wq e t)=e (θ t)
def Grow (s s':Sw):Prop:=∀k,s.1 k=true->s'.1 k=true/\s'.2 k=s.2 k
theorem Grow.refl (s:Sw):Grow s s:=fun k h=>⟨h,rfl⟩
theorem Grow.trans {a b c:Sw}(h:Grow a b)(g:Grow b c):Grow a c:=fun k hk=>by
 obtain⟨h1,h2⟩:=h k hk;obtain⟨g1,g2⟩:=g k h1;exact⟨g1,g2.trans h2⟩
def Bec (e:Tx->Bool×Int)(s:Sw)(t u:Tx):Prop:=if Ad t=true then s.1 (Wq e t)=true/\s.2 (Wq e t)=e u else e t=e u
theorem Bec.grow {e:Tx->Bool×Int}{s s':Sw}{t u:Tx}(h:Bec e s t u)(g:Grow s s'):Bec e s' t u:=by
 unfold Bec at*
 split
 ·rename_i hv;rw[if_pos hv]at h;obtain⟨g1,g2⟩:=g _ h.1;exact⟨g1,g2.trans h.2⟩
 ·rename_i hv;rw[if_neg hv]at h;exact h
section
variable {e:Tx->Bool×Int} {U:Tx->Prop} (T:Tell e U)
include T
theorem Y8 {s:Sw}{θ:Tx->Tx}{t u:Tx}(ha:Agr e U s θ)(ht:U t)(hu:jW θ t=u):∃s',Gw s (e t) (e u)=some s'/\Agr e U s' θ:=by
 unfold jW at hu;unfold Gw;rw[T.var t ht];split at hu
 ·rename_i hv;subst hu;rw[if_pos hv];by_cases hs:s.1 (e t).2.toNat=true
  ·rw[if_pos hs,if_pos (show s.2 (e t).2.toNat=e (θ t)from ha t ht hv hs)];exact⟨s,rfl,ha⟩
  ·rw[if_neg hs];refine⟨_,rfl,fun t' ab aa h'=>?_⟩;by_cases he:Wq e t'=(e t).2.toNat
   ·have:=T.same ab ht aa hv he;subst this;simp[Wq]
   ·dsimp only at h'⊢;rw[if_neg he]at h'⊢;exact ha t' ab aa h'
 ·rename_i hv;subst hu;rw[if_neg hv,if_pos rfl];exact⟨s,rfl,ha⟩
theorem X7:∀(ts us:List Tx) (s:Sw) (θ:Tx->Tx),Agr e U s θ->(∀t∈ts,U t)->ts.map (jW θ)=us->∃s',Cg s (ts.map e) (us.map e)=some s'/\Agr e U s' θ
 |[],us,s,θ,ha,_,_=>⟨s,by simp[Cg],ha⟩
 |t::ts,us,s,θ,ha,hU,hu=>by
  subst hu;obtain⟨s1,h1,h2⟩:=Y8 T (u:=jW θ t) ha (hU t (by simp)) rfl;obtain⟨s2,h3,h4⟩:=X7 ts _ s1 θ h2 (fun t' h=>hU t' (by simp[h])) rfl;refine⟨s2,?_,h4⟩;simp only[Ahj,Cg,h1,Aht];exact h3
theorem wE {s s':Sw}{t u:Tx}(ht:U t)(h:Gw s (e t) (e u)=some s'):Grow s s'/\Bec e s' t u:=by
 unfold Gw at h;rw[T.var t ht]at h;unfold Bec;split at h
 ·rename_i hv;rw[if_pos hv];split at h
  ·rename_i hs;split at h
   ·rename_i hb;cases h;exact⟨Grow.refl _,hs,hb⟩
   ·cases h
  ·rename_i hs;cases h;refine⟨fun k hk=>?_,by simp[Wq],by simp[Wq]⟩;have:k≠(e t).2.toNat:=fun e=>hs (e ▸ hk);simp[this,hk]
 ·rename_i hv;rw[if_neg hv];split at h
  ·rename_i hb;cases h;exact⟨Grow.refl _,hb⟩
  ·cases h
theorem Tf:∀(ts us:List Tx) (s s':Sw),(∀t∈ts,U t)->Cg s (ts.map e) (us.map e)=some s'->Grow s s'/\∀(i:Nat) (t u:Tx),ts[i]?=some t->us[i]?=some u->Bec e s' t u
 |[],us,s,s',_,h=>by
  simp only[Ahk,Cg]at h;cases h;exact⟨Grow.refl _,fun i t u ht=>by simp at ht⟩
 |t::ts,[],s,s',_,h=>by simp[Cg]at h
 |t::ts,u::us,s,s',hU,h=>by
  simp only[Ahj,Cg]at h;cases h1:Gw s (e t) (e u)with
  |none=>rw[h1]at h;cases h
  |some s1=>
   rw[h1]at h;simp only[Aht]at h;obtain⟨g1,b1⟩:=wE T (hU t (by simp)) h1;obtain⟨g2,b2⟩:=Tf ts us s1 s' (fun t' h=>hU t' (by simp[h])) h;refine⟨g1.trans g2,fun i t' u' ht hu=>?_⟩;cases i with
   |zero=>simp at ht hu;subst ht;subst hu;exact b1.grow g2
   |succ i=>simp at ht hu;exact b2 i t' u' ht hu
theorem Zp (N:List Tx)(left:List RAtom)(θ:Tx->Tx):∀(lits:List RAtom) (s:Sw),Agr e U s θ->(∀a∈lits,∀t∈a.terms,U t)->(∀a∈lits,∃b∈left,bV θ a b)->∃s',F7 (left.map (Ge e N)) (lits.map (Ge e N)) s=some s'
 |[],s,_,_,_=>⟨s,by simp[F7]⟩
 |a::lits,s,ha,hU,hl=>by
  obtain⟨b,hb,h1,h2,h3⟩:=hl a (by simp);obtain⟨s1,w1,a1⟩:=X7 T a.terms b.terms s θ ha (hU a (by simp)) h3;obtain⟨s2,o2⟩:=Zp N left θ lits s1 a1 (fun a' h=>hU a' (by simp[h])) (fun a' h=>hl a' (by simp[h]));simp only[Ahj,F7];have aa:(left.map (Ge e N)).findSome? (fun b=>if b.nt=(Ge e N a).nt/\(Ge e N a).pr=b.pr then (Cg s (Ge e N a).es b.es).bind (F7 (left.map (Ge e N)) (lits.map (Ge e N)))else none)≠none:=by
   intro hn;rw[List.findSome?_eq_none_iff]at hn;have:=hn (Ge e N b) (Aib.2 ⟨b,hb,rfl⟩);rw[if_pos ⟨h1.symm,by simp[Ge,h2]⟩]at this;have w1':Cg s (Ge e N a).es (Ge e N b).es=some s1:=w1;rw[w1',Aht,o2]at this;cases this
  exact Option.ne_none_iff_exists'.1 aa
theorem gU (N:List Tx)(left:List RAtom):∀(lits:List RAtom) (s s':Sw),(∀a∈lits,a.pred∈N/\∀t∈a.terms,U t)->(∀b∈left,b.pred∈N)->F7 (left.map (Ge e N)) (lits.map (Ge e N)) s=some s'->Grow s s'/\∀a∈lits,∃b∈left,a.nt=b.nt/\a.pred=b.pred/\∀(i:Nat) (t u:Tx),a.terms[i]?=some t->b.terms[i]?=some u->Bec e s' t u
 |[],s,s',_,_,h=>by
  simp only[Ahk,F7]at h;cases h;exact⟨Grow.refl _,fun a h=>by cases h⟩
 |a::lits,s,s',hU,hN,h=>by
  simp only[Ahj,F7]at h;rw[List.findSome?_eq_some_iff]at h;obtain⟨l1,c,l2,hl,hc,-⟩:=h;have ac:c∈left.map (Ge e N):=by rw[hl];simp
  obtain⟨b,hb,rfl⟩:=Aib.1 ac;split at hc
  ·rename_i aa;cases hw:Cg s (Ge e N a).es (Ge e N b).es with
   |none=>rw[hw]at hc;cases hc
   |some s1=>
    rw[hw]at hc;simp only[Aht]at hc;obtain⟨g1,b1⟩:=Tf T a.terms b.terms s s1 (hU a (by simp)).2 hw;obtain⟨g2,b2⟩:=gU N left lits s1 s' (fun a' h=>hU a' (by simp[h])) hN hc;refine⟨g1.trans g2,fun a' ab=>?_⟩;rcases Ah2.1 ab with rfl|ab
    ·exact⟨b,hb,aa.1.symm,C1 (hU _ (by simp)).1 (hN b hb) aa.2,fun i t u ht hu=>(b1 i t u ht hu).grow g2⟩
    ·exact b2 a' ab
  ·cases hc
end
theorem X6 {e:Tx->Bool×Int}{U:Tx->Prop}(T:Tell e U)(ts:List Tx)(hU:∀t∈ts,U t):∃s,Cg K6 (ts.map e) (ts.map e)=some s/\(∀θ:Tx->Tx,(∀t∈ts,Ad t=true->θ t=t)->∀t,U t->Ad t=true->s.1 (Wq e t)=true->t∈ts)/\∀t∈ts,Bec e s t t:=by
 have key:∀(us:List Tx) (s:Sw),(∀t∈us,U t)->(∀t,U t->Ad t=true->s.1 (Wq e t)=true->s.2 (Wq e t)=e t)->∃s',Cg s (us.map e) (us.map e)=some s'/\(∀t,U t->Ad t=true->s'.1 (Wq e t)=true->s'.2 (Wq e t)=e t/\(t∈us\/s.1 (Wq e t)=true)):=by
  intro us;induction us with
  |nil=>exact fun s _ ha=>⟨s,by simp[Cg],fun t ht hv h=>⟨ha t ht hv h,.inr h⟩⟩
  |cons u us ih=>
   intro s hU ha;obtain⟨s1,h1,h2⟩:=Y8 T (θ:=fun t=>t) (t:=u) (u:=u) ha (hU u (by simp)) (by unfold jW;split<;>rfl);obtain⟨s2,h3,h4⟩:=ih s1 (fun t h=>hU t (by simp[h])) h2;refine⟨s2,by simp only[Ahj,Cg,h1,Aht];exact h3,fun t ht hv h=>?_⟩;obtain⟨q1,q2⟩:=h4 t ht hv h;refine⟨q1,?_⟩;rcases q2 with q2|q2
   ·exact .inl (by simp[q2])
   ·unfold Gw at h1;rw[T.var u (hU u (by simp))]at h1;split at h1
    ·rename_i aa;split at h1
     ·split at h1
      ·cases h1;exact .inr q2
      ·cases h1
     ·cases h1;dsimp only at q2;by_cases he:Wq e t=(e u).2.toNat
      ·have:=T.same ht (hU u (by simp)) hv aa he;exact .inl (by simp[this])
      ·rw[if_neg he]at q2;exact .inr q2
    ·split at h1
     ·cases h1;exact .inr q2
     ·cases h1
 obtain⟨s,h1,h2⟩:=key ts K6 hU (fun t _ _ h=>by simp[K6]at h);obtain⟨-,b1⟩:=Tf T ts ts K6 s hU h1;refine⟨s,h1,fun θ _ t ht hv h=>?_,fun t ht=>?_⟩
 ·rcases (h2 t ht hv h).2 with q|q
  ·exact q
  ·simp[K6]at q
 ·obtain⟨i,hi⟩:=Aif ht;exact b1 i t t hi hi
theorem Nx {e:Tx->Bool×Int}{U:Tx->Prop}(T:Tell e U)(N:List Tx)(x:RItem)(k:Nat)(hN:∀a∈x.body,a.pred∈N)(af:∀t∈x.head.terms,U t)(ac:∀a∈x.body,∀t∈a.terms,U t)
  (ad:∀a∈x.body,∀b∈x.body,a.pred=b.pred->a.terms.length=b.terms.length) (ab:∀t,U t->∀u,U u->e t=e u->t=u):
  ∃s0,Cg K6 (x.head.terms.map e) (x.head.terms.map e)=some s0/\((∃s',F7 ((x.body.eraseIdx k).map (Ge e N)) (x.body.map (Ge e N)) s0=some s')↔Rb x k):=by
 obtain⟨s0,h0,h1,h2⟩:=X6 T x.head.terms af;refine⟨s0,h0,?_,?_⟩
 ·rintro⟨s',ak⟩;have aa:∀b∈x.body.eraseIdx k,b∈x.body:=fun b hb=>Aja hb;obtain⟨g,ae⟩:=gU T N (x.body.eraseIdx k) x.body s0 s' (fun a ha=>⟨hN a ha,ac a ha⟩) (fun b hb=>hN b (aa b hb)) ak;have hex:∀t:Tx,∃u:Tx,(U t/\Ad t=true/\∃u',U u'/\s'.2 (Wq e t)=e u')->(U u/\s'.2 (Wq e t)=e u):=fun t=>by
   by_cases h:U t/\Ad t=true/\∃u',U u'/\s'.2 (Wq e t)=e u'
   ·obtain⟨u,hu⟩:=h.2.2;exact⟨u,fun _=>hu⟩
   ·exact⟨t,fun h'=>absurd h' h⟩
  let θ:Tx->Tx:=fun t=>Classical.choose (hex t);have hθ:∀t u,U t->Ad t=true->U u->s'.2 (Wq e t)=e u->θ t=u:=fun t u ht hv hu h=>by
   obtain⟨q1,q2⟩:=Classical.choose_spec (hex t) ⟨ht,hv,u,hu,h⟩;exact ab _ q1 _ hu (q2.symm.trans h)
  refine⟨θ,fun t ht hv=>?_,fun a ha=>?_⟩
  ·have:=(h2 t ht).grow g;unfold Bec at this;rw[if_pos hv]at this;exact hθ t t (af t ht) hv (af t ht) this.2
  ·obtain⟨b,hb,c1,c2,c3⟩:=ae a ha;have aj:=aa b hb;refine⟨b,hb,c1,c2,?_⟩;have hl:=ad a ha b aj c2;apply Ahi;intro i;rw[Aha];by_cases hi:i<a.terms.length
   ·have e1:=Agz hi;have e2:=Agz (show i<b.terms.length by omega);have ai:=ac a ha _ (Ain hi);have ah:=ac b aj _ (Ain (show i<b.terms.length by omega));have:=c3 i _ _ e1 e2;rw[e1,e2];simp only[Ajb];congr 1;unfold Bec at this;unfold jW;split
    ·rename_i hv;rw[if_pos hv]at this;exact hθ _ _ ai hv ah this.2
    ·rename_i hv;rw[if_neg hv]at this;exact ab _ ai _ ah this
   ·rw[Ahb Aj6,Ahb Aj6];rfl
 ·rintro⟨θ,t1,t2⟩;refine Zp T N (x.body.eraseIdx k) θ x.body s0 (fun t ht hv h=>?_) ac t2;have hm:=h1 θ t1 t ht hv h;have:=h2 t hm;unfold Bec at this;rw[if_pos hv]at this;rw[this.2,t1 t hm hv]
def G6 (x:RItem)(k:Nat):RItem:={out:=false,head:=x.head,body:=x.body.eraseIdx k}
def Wt (ls:List RAtom)(k n:Nat):List RAtom:=(ls.take n).eraseIdx k
theorem Aay {ls:List RAtom}{k n:Nat}{a:RAtom}(h:ls[n]?=some a)(hk:n≠k):Wt ls k (n+1)=Wt ls k n++[a]:=by
 have hn:=(Agy.1 h).1;have hl:(ls.take n).length=n:=by rw[Ahp];omega
 unfold Wt;rw[Ahd,h,Ais];by_cases aa:k<n
 ·rw[List.eraseIdx_append_of_lt_length Aj6]
 ·rw[Ajc (by rw[Aho,hl];simp;omega),Ajc Aj6]
theorem uO {ls:List RAtom}{k:Nat}{a:RAtom}(h:ls[k]?=some a):Wt ls k (k+1)=Wt ls k k:=by
 have hn:=(Agy.1 h).1;have hl:(ls.take k).length=k:=by rw[Ahp];omega
 unfold Wt;have e:(ls.take k).eraseIdx k=ls.take k:=Ajc Aj6;rw[e,Ahd,h,Ais,List.eraseIdx_append_of_length_le Aj6,hl,Aig];simp
theorem Aaw (ls:List RAtom)(k n:Nat):(Wt ls k n).length<=n:=by
 unfold Wt;have h1:=Ajd (ls.take n) k;rw[Ahp]at h1;omega
theorem Aax (ls:List RAtom)(k:Nat):Wt ls k ls.length=ls.eraseIdx k:=by unfold Wt;rw[Ag7]
theorem Np (N:List Tx)(x:RItem)(c:List AV)(k:Nat)(hc:PI N x c)(hn:x.body.length<=1000)(σ:St):ACalls Tryz.prog 145 [ag c,sc (.int .i64 k)] σ fun r σ'=>∃c',r=ag c'/\PI N (G6 x k) c'/\Keep σ σ':=by
 obtain⟨hm,ih,id,b,hb,rfl⟩:=hc;have a5:=EL.length Ds hb;refine Z9 30 [.cell 4 125] Tryz.func145 ?_
 repeat' (first|refine Z1 ?_|(refine Z8 ?_;intro yb ya)|(refine Z4 ?_;clear ya yb)|(refine Z2 ?_ ?_<;>intro h ab<;>try exact Xp)|refine Z3 ?_|exact Zt|(apply ya.out;clear ya yb))
 refine Af (fun m s σ'=>∃(n i3:Nat) (xs:List AV),m=x.body.length-n/\n<=x.body.length/\s 1=sc (.int .i64 k)/\s 4=ptr (σ.nobj+1) 0/\s 5=ptr (σ.nobj+2) 0/\s 12=sl id x.body.length b/\s 13=sc (.int .i64 x.body.length)/\s 14=sc (.int .i64 n)/\Keep σ σ'/\σ.nobj+2<σ'.nobj/\σ'.obj (σ.nobj+1)=[sc (.bool false),sc (.int .i64 0),nilS,nilS]/\σ'.obj (σ.nobj+2)=[sc (.bool false),sc (.int .i64 (N.idxOf x.head.pred:Nat)),sl ih x.head.terms.length (Au x.head.terms),sl i3 (Wt x.body k n).length xs]/\Own σ σ' i3 (Wt x.body k n).length/\xs.length=(Wt x.body k n).length*3/\Akc (EL (PL N) (Wt x.body k n) xs)) x.body.length
  ⟨0,1,[],Aj6,Aj6,by simp[upd,initS],Aj8,Aj8,Aj8,Aj8,rfl,Xs,Akb,?_,?_,Own.nil _ _,by simp[Wt],by simp[Akc,Wt,EL]⟩ ?_
 ·rw[Ah Aj6,Ag Aka,Bs Aka Aka]
 ·rw[show σ.nobj+2=σ.nobj+1+1 by omega,Aj];simp[Wt]
 rintro m s σ' ⟨n,i3,xs,rfl,a4,h1,h4,h5,a8,a7,a6,hK,a3,az,ai,hO,af,hX⟩;have a0:=hK.nobj;have an:=Aaw x.body k n;by_cases au:n<x.body.length
 ·have aa:=Agz au;obtain⟨ha,ia,r,hd⟩:=Ml hb aa;generalize x.body[n]=a at hd aa ha;have HG:Akc (x.body[n]?=some a):=aa;clear aa;generalize aj:Wt x.body k n=wl at ai hO af hX an;have am:Akc _:=aj;clear aj;by_cases ad:n=k
  ·have ap:((n:Int) !=(k:Int))=false:=by simp[ad]
   have ac:Akc (Wt x.body k (n+1)=wl):=by
    rw[Akc,<-am.out,ad];exact uO (by rw[<-ad];exact HG.out)
   clear ad
   repeat' (first|refine Z1 ?_|(refine Z8 ?_;intro yb ya)|(refine Z4 ?_;clear ya yb)|(refine Z2 ?_ ?_<;>intro h ab<;>try exact Xp)|refine Z3 ?_|exact Zt|(apply ya.out;clear ya yb))
   exact⟨x.body.length-(n+1),Aj6,n+1,i3,xs,rfl,Aj6,by simp,(hK.new _).put hK.nobj _,Aj6,by rw[ac.out],by rw[ac.out];exact Own.put (Own.new hO _) _ _,by rw[ac.out];exact af,by rw[Akc,ac.out];exact hX.out⟩
  ·have ap:((n:Int) !=(k:Int))=true:=by simp;omega
   have ac:Akc (Wt x.body k (n+1)=wl++[a]):=by
    rw[Akc,<-am.out];exact Aay HG.out ad
   clear ad
   repeat' (first|refine Z1 ?_|(refine Z8 ?_;intro yb ya)|(refine Z4 ?_;clear ya yb)|(refine Z2 ?_ ?_<;>intro h ab<;>try exact Xp)|refine Z3 ?_|exact Zt|(apply ya.out;clear ya yb))
   refine Bg (by first|exact Ek) ((hK.new _).put hK.nobj _) (Own.put (Own.new hO _) _ _) (by decide) (by rfl) af (by rfl) (by rfl) (by decide) Aj6 Aj6 ?_;intro idn σn av aw ay ae ax ak;simp only[Ab,Aa]at ae;have ah:Akc ((Wt x.body k (n+1)).length=wl.length+1):=by rw[Akc,ac.out];simp
   refine Z3 ?_
   repeat' (first|refine Z1 ?_|(refine Z8 ?_;intro yb ya)|(refine Z4 ?_;clear ya yb)|(refine Z2 ?_ ?_<;>intro h ab<;>try exact Xp)|refine Z3 ?_|exact Zt|(apply ya.out;clear ya yb))
   refine⟨x.body.length-(n+1),Aj6,n+1,idn,xs++[sc (.bool a.nt),sc (.int .i64 (N.idxOf a.pred:Nat)),sl ia a.terms.length (Au a.terms)],rfl,Aj6,by simp,aw.put Aj6 _,Aj6,by rw[ah.out],by rw[ah.out];exact Own.put av _ _,by rw[ah.out];simp;omega,?_⟩;rw[Akc,ac.out];exact EL.append hX.out (EL.single ⟨ha,ia,rfl⟩)
 ·have ao:n=x.body.length:=Aj6;subst ao;rw[Aax]at ai hX
  repeat' (first|refine Z1 ?_|(refine Z8 ?_;intro yb ya)|(refine Z4 ?_;clear ya yb)|(refine Z2 ?_ ?_<;>intro h ab<;>try exact Xp)|refine Z3 ?_|exact Zt|(apply ya.out;clear ya yb))
  exact⟨_,rfl,_,rfl,⟨hm,ih,i3,xs,hX.out,rfl⟩,hK.put Aj6 _⟩
theorem X8 (o:Option Sw):∃s b,O3 o=tp [ag (Dm s),sc (.bool b)]/\(b=false->o=none)/\(b=true->∃s',o=some s'):=by
 cases o with
 |none=>exact⟨K6,false,rfl,fun _=>rfl,fun h=>by cases h⟩
 |some s=>exact⟨s,true,rfl,(fun h=>by cases h),fun _=>⟨s,rfl⟩⟩
def fB (L:List Lt)(rest:List Lt)(s:Sw)(x b:Lt):Option Sw:=if b.nt=x.nt/\x.pr=b.pr then (Cg s x.es b.es).bind (F7 L rest)else none
theorem yV {α β:Type}{f:α->Option β}{l:List α}{i:Nat}{b:α}{r:β}(h0:∀j,j<i->∀c,l[j]?=some c->f c=none)(hb:l[i]?=some b)(hf:f b=some r):l.findSome? f=some r:=by
 rw[List.findSome?_eq_some_iff];obtain⟨hi,rfl⟩:=Agy.1 hb;refine⟨l.take i,l[i],l.drop (i+1),by rw[<-Ah0 hi,Aje],hf,fun c hc=>?_⟩;obtain⟨j,hj⟩:=Aif hc;rw[Agw]at hj;split at hj
 ·rename_i aa;exact h0 j aa c hj
 ·cases hj
theorem tG {α β:Type}{f:α->Option β}{l:List α}(h0:∀j,j<l.length->∀c,l[j]?=some c->f c=none):l.findSome? f=none:=by
 rw[List.findSome?_eq_none_iff];intro c hc;obtain⟨j,hj⟩:=Aif hc;exact h0 j (Agy.1 hj).1 c hj
def OkA (left:List RAtom)(a:RAtom):Prop:=a.terms.length<=1000/\(∀t∈a.terms,varOk t)/\∀b∈left,a.pred=b.pred->a.terms.length=b.terms.length
theorem sO (N:List Tx)(left:List RAtom)(cl:List AV)(idl:Nat)(hL:EL (PL N) left cl)(hll:left.length<=1000):∀(lits:List RAtom) (cs:List AV) (ids:Nat) (s:Sw) (σ:St),EL (PL N) lits cs->lits.length<=1000->(∀a∈lits,OkA left a)->
  ACalls Tryz.prog 148 [ag (Dm s),sl ids lits.length cs,sl idl left.length cl] σ fun r σ'=>r=O3 (F7 (left.map (Ge Ak N)) (lits.map (Ge Ak N)) s)/\Keep σ σ':=by
 have b7:=Cw;have b6:=Pb;have b5:∀s,List.take 78 (Dm s)=Dm s:=fun s=>Aia (by rw[Cw];exact Agn _);have cb:∀s s',lsp (Dm s) 0 (Dm s')=Dm s':=fun s s'=>Mz (by rw[Cw,Cw]);have cc:∀s,(Dm s).all flat=true:=fun s=>by
  rw[Ag0];intro x hx;obtain⟨n,-,rfl⟩:=Aib.1 hx;unfold eZ;split
  ·rfl
  ·split<;>rfl
 have bu:=EL.length Ds hL;intro lits;induction lits with
 |nil=>
  intro cs ids s σ hE _ _;have br:cs=[]:=hE;subst br;have hR:O3 (F7 (left.map (Ge Ak N)) (([]:List RAtom).map (Ge Ak N)) s)=tp [ag (Dm s),sc (.bool true)]:=rfl;rw[hR];clear hR;refine Z9 55 [.cell 6 154,.tmp 7] Tryz.func148 ?_
  repeat' (first|refine Z1 ?_|(refine Z8 ?_;intro yb ya)|(refine Z4 ?_;clear ya yb)|(refine Z2 ?_ ?_<;>intro h aa<;>try exact Xp)|refine Z3 ?_|exact Zt|(apply ya.out;clear ya yb))
  exact⟨_,rfl,rfl,Xs⟩
 |cons a lits ih=>
  intro cs ids s σ hE hn a4;have a6:=EL.length Ds hE;obtain⟨c0,d,⟨bz,ia,rfl⟩,hd,rfl⟩:=hE;have cd:=EL.length Ds hd;obtain⟨bw,bv,b0⟩:=a4 a (by simp);have ak:∀a∈lits,OkA left a:=fun a' h=>a4 a' (by simp[h]);have bp:lits.length<=1000:=by simp at hn;omega
  have ih:=fun s σ=>ih d 0 s σ hd bp ak;clear a4 ak hn;have hR:Akc (F7 (left.map (Ge Ak N)) ((a::lits).map (Ge Ak N)) s=(left.map (Ge Ak N)).findSome? (fB (left.map (Ge Ak N)) (lits.map (Ge Ak N)) s (Ge Ak N a))):=rfl;rw[hR.out];generalize bh:fB (left.map (Ge Ak N)) (lits.map (Ge Ak N)) s (Ge Ak N a)=fb;have bl:Akc _:=bh;clear bh hR;simp only[Ahy,Ah4,Ah6]at a6⊢;refine Z9 55 [.cell 6 154,.tmp 7] Tryz.func148 ?_
  repeat' (first|refine Z1 ?_|(refine Z8 ?_;intro yb ya)|(refine Z4 ?_;clear ya yb)|(refine Z2 ?_ ?_<;>intro h aa<;>try exact Xp)|refine Z3 ?_|exact Zt|(apply ya.out;clear ya yb))
  refine Af (fun m s0 σ'=>∃i:Nat,m=left.length-i/\i<=left.length/\s0 1=sl ids (lits.length+1) (sc (.bool a.nt)::sc (.int .i64 (N.idxOf a.pred:Nat))::sl ia a.terms.length (Au a.terms)::d)/\s0 2=sl idl left.length cl/\s0 3=ptr σ.nobj 0/\s0 6=ptr (σ.nobj+1) 0/\s0 8=ptr (σ.nobj+2) 0/\s0 21=sl idl left.length cl/\s0 22=sc (.int .i64 left.length)/\s0 23=sc (.int .i64 i)/\Keep σ σ'/\σ.nobj+2<σ'.nobj/\σ'.obj σ.nobj=Dm s/\σ'.obj (σ.nobj+1)=Dm K6/\σ'.obj (σ.nobj+2)=[sc (.bool a.nt),sc (.int .i64 (N.idxOf a.pred:Nat)),sl ia a.terms.length (Au a.terms)]/\Akc (∀j,j<i->∀c,(left.map (Ge Ak N))[j]?=some c->fb c=none)) left.length
   ⟨0,Aj6,Aj6,by simp[upd,initS],by simp[upd,initS],Aj8,Aj8,Aj8,Aj8,Aj8,rfl,Xs,by simp only[Aa,Ab];omega,?_,?_,?_,fun j hj=>Aj6⟩ ?_
  ·rw[Ah Aj6,Ag Aka,Ag Aka,Ao]
  ·rw[Ah Aj6,Ag Aka,Bs Aka Aka]
  ·rw[show σ.nobj+2=σ.nobj+1+1 by omega,Aj]
  rintro m s0 σ' ⟨i,rfl,hi,h1,h2,h3,h6,h8,av,au,ap,hK,ca,ay,ax,aw,a8⟩;have b3:=hK.nobj;by_cases bf:i<left.length
  ·have ae:=Agz bf;have a7:=Ain bf;have bg:=b0 left[i] a7;obtain⟨hb,ib,r,bq⟩:=Ml hL ae;have a9:(left.map (Ge Ak N))[i]?=some (Ge Ak N left[i]):=by rw[Aha,ae];rfl
   generalize left[i]=b at bq ae hb bg a9 a7;have bi:Akc _:=a9;clear ae a9 a7;have ac:Akc (fb (Ge Ak N b)=none->∀j,j<i+1->∀c,(left.map (Ge Ak N))[j]?=some c->fb c=none):=fun h j hj c hc=>by
    by_cases e:j=i
    ·subst e;rw[bi.out]at hc;cases hc;exact h
    ·exact a8.out j Aj6 c hc
   have bn:N.idxOf a.pred=N.idxOf b.pred->a.terms.length=b.terms.length:=fun h=>bg (C1 bz hb h);by_cases hnt:b.nt=a.nt
   ·have bo:(b.nt==a.nt)=true:=by simp[hnt]
    have ai:=fun σ=>X5 s (N.idxOf a.pred:Nat) (N.idxOf b.pred:Nat) a.terms b.terms ia ib (fun h=>bn Aj6) bw bv σ;have am:Akc (fb (Ge Ak N b)=(if ((N.idxOf a.pred:Nat):Int)=((N.idxOf b.pred:Nat):Int)then Cg s (a.terms.map Ak) (b.terms.map Ak)else none).bind (F7 (left.map (Ge Ak N)) (lits.map (Ge Ak N)))):=by
     rw[Akc,<-bl.out];unfold fB Ge;dsimp only;by_cases hp:N.idxOf a.pred=N.idxOf b.pred
     ·rw[if_pos ⟨hnt,hp⟩,if_pos Aj6]
     ·rw[if_neg (fun h=>hp h.2),if_neg Aj6];rfl
    generalize (if ((N.idxOf a.pred:Nat):Int)=((N.idxOf b.pred:Nat):Int)then Cg s (a.terms.map Ak) (b.terms.map Ak)else none)=ow at ai am;cases ow with
    |none=>
     simp only[O3]at ai;have a5:Akc (fb (Ge Ak N b)=none):=am
     repeat' (first|refine Z1 ?_|(refine Z8 ?_;intro yb ya)|(refine Z4 ?_;clear ya yb)|(refine Z2 ?_ ?_<;>intro h aa<;>try exact Xp)|(refine Z5 ?_;refine Xi (ai _) ?_;rintro _ _ ⟨rfl,af⟩;(have ab:=af.obj;have ah:=af.nobj;simp only[Aa,Ab]at ah))|refine Z3 ?_|exact Zt|(apply ya.out;clear ya yb))
     exact⟨left.length-(i+1),Aj6,i+1,rfl,Aj6,by simp,(((((hK.new _).put hK.nobj _).trans af).new _).put Aj6 _),Aj6,ac.out a5.out⟩
    |some s1=>
     simp only[O3]at ai;have ao:=ih s1;obtain⟨sr,okr,a0,bd,bc⟩:=X8 (F7 (left.map (Ge Ak N)) (lits.map (Ge Ak N)) s1);rw[a0]at ao;have HW:Akc (O3 (fb (Ge Ak N b))=tp [ag (Dm sr),sc (.bool okr)]/\(okr=false->fb (Ge Ak N b)=none)/\(okr=true->∃s',fb (Ge Ak N b)=some s')):=by
      rw[Akc,am.out];exact⟨a0,bd,bc⟩
     clear a0 bd bc am
     repeat' (first|refine Z1 ?_|(refine Z8 ?_;intro yb ya)|(refine Z4 ?_;clear ya yb)|(refine Z2 ?_ ?_<;>intro h aa<;>try exact Xp)|(refine Z5 ?_;refine Xi (ai _) ?_;rintro _ _ ⟨rfl,af⟩;(have ab:=af.obj;have ah:=af.nobj;simp only[Aa,Ab]at ah))|refine Z3 ?_|exact Zt|(apply ya.out;clear ya yb))
     rename_i σ2;have ba:Keep σ ((σ2.new (Dm K6)).put σ2.nobj (Dm s1)):=((((hK.new _).put hK.nobj _).trans af).new _).put Aj6 _;have tno:((σ2.new (Dm K6)).put σ2.nobj (Dm s1)).nobj=σ2.nobj+1:=rfl;have tob:((σ2.new (Dm K6)).put σ2.nobj (Dm s1)).obj σ2.nobj=Dm s1:=Aj;have tob0:((σ2.new (Dm K6)).put σ2.nobj (Dm s1)).obj σ.nobj=Dm s:=by rw[Ah Aj6,Ag Aj6,ab _ Akb,Ah Aj6,Ag Aj6,ay]
     have tob1:((σ2.new (Dm K6)).put σ2.nobj (Dm s1)).obj (σ.nobj+1)=Dm K6:=by rw[Ah Aj6,Ag Aj6,ab _ Akb,Ah Aj6,Ag Aj6,ax]
     have tob2:((σ2.new (Dm K6)).put σ2.nobj (Dm s1)).obj (σ.nobj+2)=[sc (.bool a.nt),sc (.int .i64 (N.idxOf a.pred:Nat)),sl ia a.terms.length (Au a.terms)]:=by rw[Ah Aj6,Ag Aj6,ab _ Akb,Ah Aj6,Ag Aj6,aw]
     generalize (σ2.new (Dm K6)).put σ2.nobj (Dm s1)=τ at ba tno tob tob0 tob1 tob2;clear af ab ai ay ax aw hK;refine Bt (Q:=fun e s' σ'=>e= .normal/\∃o:Nat,s' 1=sl ids (lits.length+1) (sc (.bool a.nt)::sc (.int .i64 (N.idxOf a.pred:Nat))::sl ia a.terms.length (Au a.terms)::d)/\s' 2=sl idl left.length cl/\s' 3=ptr σ.nobj 0/\s' 6=ptr (σ.nobj+1) 0/\s' 8=ptr (σ.nobj+2) 0/\s' 21=sl idl left.length cl/\s' 22=sc (.int .i64 left.length)/\s' 23=sc (.int .i64 i)/\s' 12=sc (.bool okr)/\s' 13=ptr o 0/\τ.nobj<=o/\o<σ'.nobj/\σ'.obj o=Dm sr/\Keep τ σ') ?_ ?_
     ·refine A1 Ai (fun _=>True) [10] [0,1,2,3] 7 #[true,true,true,true,false,false,false,false,false,false,false] Aj9 (fun _ _ _ h=>by cases h.1) ?_;intro yb ya;refine Z3 ?_;refine ya.out _ ?_;clear ya yb;refine Ef (rs:=[4,8]) Aj9 (by simp) ?_;intro j hj;simp only[Ah2,Ail,Aj5]at hj;rcases hj with rfl|rfl
      ·refine Aq ?_;intro yb ya;refine Z3 ?_;refine ACalls.mono (ao _) ?_;rintro _ σ5 ⟨rfl,KK⟩;have aj:=KK.nobj;refine Z3 ?_;refine ya.out _ _ ⟨Ap KK,?_⟩;clear ya yb;refine Ie (i:=5) _ (tp [ag (Dm sr),sc (.bool okr)]) rfl rfl rfl rfl rfl Aj9 Aj9 (fun _ _ _ h=>by cases h.1) (fun o ho _=>KK.ver o ho) ?_;refine Ie (i:=6) _ (ag (Dm sr)) rfl rfl rfl rfl rfl Aj9 Aj9 (fun _ _ _ h=>by cases h.1) (fun o ho _=>KK.ver o ho) ?_;refine Ie (i:=7) _ (sc (.bool okr)) rfl rfl rfl rfl rfl Aj9 Aj9 (fun _ _ _ h=>by cases h.1) (fun o ho _=>KK.ver o ho) ?_;refine Am (i:=8) Aj9 ?_;refine Aq ?_;intro yb ya;refine Z3 ?_;refine ya.out _ _ ⟨Ap (KK.new _),?_⟩;clear ya yb;refine Am (i:=9) Aj9 ?_;refine Aq ?_;intro yb ya;refine Z3 ?_;refine ya.out _ _ ⟨Ap ((KK.new _).put Aj6 _),?_⟩;clear ya yb;refine Am (i:=10) Aj9 ?_;refine Aq ?_;intro yb ya;refine Z3 ?_;refine ya.out _ _ ⟨Br rfl,?_⟩;clear ya yb;refine A2 Aj9 ⟨rfl,σ5.nobj,by simp[upd,aput,h1],by simp[upd,aput,h2],by simp[upd,aput,h3],by simp[upd,aput,h6],by simp[upd,aput,h8],by simp[upd,aput,av],by simp[upd,aput,au],by simp[upd,aput,ap],by simp[upd,aput],by simp[upd,aput],Aj6,Akb,Aj,(KK.new _).put Aj6 _⟩
      ·refine Aq ?_;intro yb ya;refine Z3 ?_;refine ya.out _ _ ⟨Ap ((Keep.refl _).new _),?_⟩;clear ya yb;refine Am (i:=4) Aj9 ?_;refine Aq ?_;intro yb ya;refine Z3 ?_;refine ACalls.mono (ao _) ?_;rintro _ σ5 ⟨rfl,bb⟩;have az:=bb.obj;have aj:=bb.nobj;simp only[Aa]at aj;have b2:σ5.obj τ.nobj=Dm K6:=by rw[az _ (by rw[Aa];omega),Ao]
       have KK:=((Keep.refl τ).new (Dm K6)).trans bb;refine Z3 ?_;refine ya.out _ _ ⟨Ap KK,?_⟩;clear ya yb;refine Ie (i:=5) _ (tp [ag (Dm sr),sc (.bool okr)]) rfl rfl rfl rfl rfl Aj9 Aj9 (fun _ _ _ h=>by cases h.1) (fun o ho _=>KK.ver o ho) ?_;refine Ie (i:=6) _ (ag (Dm sr)) rfl rfl rfl rfl rfl Aj9 Aj9 (fun _ _ _ h=>by cases h.1) (fun o ho _=>KK.ver o ho) ?_;refine Ie (i:=7) _ (sc (.bool okr)) rfl rfl rfl rfl rfl Aj9 Aj9 (fun _ _ _ h=>by cases h.1) (fun o ho _=>KK.ver o ho) ?_;refine Am (i:=9) Aj9 ?_;refine Aq ?_;intro yb ya;refine Z3 ?_;refine ya.out _ _ ⟨Ap (KK.put Aj6 _),?_⟩;clear ya yb;refine Am (i:=10) Aj9 ?_;refine Aq ?_;intro yb ya;refine Z3 ?_;refine ya.out _ _ ⟨Br rfl,?_⟩;clear ya yb;refine A2 Aj9 ⟨rfl,σ2.nobj+1,by simp[upd,aput,h1],by simp[upd,aput,h2],by simp[upd,aput,h3],by simp[upd,aput,h6],by simp[upd,aput,h8],by simp[upd,aput,av],by simp[upd,aput,au],by simp[upd,aput,ap],by simp[upd,aput],by simp[upd,aput],Aj6,by simp only[Ab];omega,Aj,KK.put Aj6 _⟩
     ·clear h1 h2 h3 h6 h8 av au ap;rintro e s' σ6 ⟨rfl,o,h1,h2,h3,h6,h8,av,au,ap,cf,ce,b4,b8,b9,an⟩;have ad:=an.obj;have bm:=an.nobj;have b1:=ba.trans an;have ay:σ6.obj σ.nobj=Dm s:=by rw[ad _ Aj6,tob0]
      have ax:σ6.obj (σ.nobj+1)=Dm K6:=by rw[ad _ Aj6,tob1]
      have aw:σ6.obj (σ.nobj+2)=[sc (.bool a.nt),sc (.int .i64 (N.idxOf a.pred:Nat)),sl ia a.terms.length (Au a.terms)]:=by rw[ad _ Aj6,tob2]
      clear ad tob tob0 tob1 tob2 an ba ao ih;cases okr with
      |true=>
       repeat' (first|refine Z1 ?_|(refine Z8 ?_;intro yb ya)|(refine Z4 ?_;clear ya yb)|(refine Z2 ?_ ?_<;>intro h aa<;>try exact Xp)|refine Z3 ?_|exact Zt|(apply ya.out;clear ya yb))
       obtain⟨s2,be⟩:=HW.out.2.2 rfl;refine⟨_,rfl,?_,b1.put Aj6 _⟩;rw[yV a8.out bi.out be,<-be,HW.out.1]
      |false=>
       repeat' (first|refine Z1 ?_|(refine Z8 ?_;intro yb ya)|(refine Z4 ?_;clear ya yb)|(refine Z2 ?_ ?_<;>intro h aa<;>try exact Xp)|refine Z3 ?_|exact Zt|(apply ya.out;clear ya yb))
       exact⟨left.length-(i+1),Aj6,i+1,rfl,Aj6,by simp,Aj6,ac.out (HW.out.2.1 rfl)⟩
   ·have bo:(b.nt==a.nt)=false:=by simpa using hnt
    have a5:Akc (fb (Ge Ak N b)=none):=by
     rw[Akc,<-bl.out];unfold fB Ge;exact if_neg (fun h=>hnt h.1)
    clear hnt
    repeat' (first|refine Z1 ?_|(refine Z8 ?_;intro yb ya)|(refine Z4 ?_;clear ya yb)|(refine Z2 ?_ ?_<;>intro h aa<;>try exact Xp)|refine Z3 ?_|exact Zt|(apply ya.out;clear ya yb))
    exact⟨left.length-(i+1),Aj6,i+1,rfl,Aj6,by simp,(hK.new _).put hK.nobj _,Aj6,ac.out a5.out⟩
  ·have hil:i=left.length:=Aj6;subst hil;have a3:Akc ((left.map (Ge Ak N)).findSome? fb=none):=tG (by rw[Ai1];exact a8.out)
   repeat' (first|refine Z1 ?_|(refine Z8 ?_;intro yb ya)|(refine Z4 ?_;clear ya yb)|(refine Z2 ?_ ?_<;>intro h aa<;>try exact Xp)|refine Z3 ?_|exact Zt|(apply ya.out;clear ya yb))
   exact⟨_,rfl,by rw[a3.out];rfl,hK.put Aj6 _⟩
def Ia (e:Bool×Int):Tx:=if e.1=true then [UInt8.ofNat (IntKind.u8.wrap (65+e.2)).toNat]else Lib.itoa e.2
def okE (e:Bool×Int):Prop:=0<=e.2/\(e.1=true->e.2<26)/\e.2<=999/\(Ia e).length<=1000
theorem dX (e:Bool×Int)(h:okE e)(σ:St):ACalls Tryz.prog 149 [ag [sc (.bool e.1),sc (.int .i64 e.2)]] σ fun r σ'=>r=str (Ia e)/\Keep σ σ':=by
 have ab:∀z:UInt8,({data:=#[z]}:ByteArray)=bs [z]:=fun _=>rfl;obtain⟨b,v⟩:=e;obtain⟨h0,h1,h2,-⟩:=h;dsimp only at h0 h1 h2⊢;cases b with
 |true=>
  have h1:=h1 rfl;have hL:Akc (Ia (true,v)=[UInt8.ofNat (IntKind.u8.wrap (65+v)).toNat]):=rfl;refine Z9 14 [.tmp 2] Tryz.func149 ?_
  repeat' (first|refine Z1 ?_|(refine Z8 ?_;intro yb ya)|(refine Z4 ?_;clear ya yb)|(refine Z2 ?_ ?_<;>intro h aa<;>try exact Xp)|refine Z7 ?_|exact Zt|(apply ya.out;clear ya yb))
  exact⟨_,rfl,by rw[hL.out],Xs⟩
 |false=>
  have hI:=fun σ=>Q0 v h0 Aj6 σ;have hL:Akc (Ia (false,v)=Lib.itoa v):=rfl;generalize Lib.itoa v=w at hI hL;refine Z9 14 [.tmp 2] Tryz.func149 ?_
  repeat' (first|refine Z1 ?_|(refine Z8 ?_;intro yb ya)|(refine Z4 ?_;clear ya yb)|(refine Z2 ?_ ?_<;>intro h aa<;>try exact Xp)|(refine Z5 ?_;refine Xi (hI _) ?_;rintro _ _ ⟨rfl,rfl⟩)|refine Z7 ?_|exact Zt|(apply ya.out;clear ya yb))
  exact⟨_,rfl,by rw[hL.out],Xs⟩
theorem Tq (ts:List Tx)(t:Tx):Bj (ts++[t])=Bj ts++((if ts=[]then []else [44])++t):=by
 cases ts with
 |nil=>simp[Bj,Bz]
 |cons u ts=>simp[Bj,Bz]
def Is (N:List Tx)(y:RItem)(k:Nat)(s0:Sw):Option Sw:=if Eb (G6 y k)=true then F7 ((y.body.eraseIdx k).map (Ge Ak N)) (y.body.map (Ge Ak N)) s0 else none
theorem Te {y:RItem}{k:Nat}(h:y.fits):(G6 y k).fits:=
 ⟨Ago (Ajd _ _) h.1,h.2.1,fun a ha=>h.2.2 a (Aja ha)⟩
theorem fZ (N:List Tx)(y:RItem)(c:List AV)(k:Nat)(s0:Sw)(hc:PI N y c)(hf:y.fits)(a5:Cg K6 (y.head.terms.map Ak) (y.head.terms.map Ak)=some s0)(hv:∀t∈y.head.terms,varOk t)(a6:∀a∈y.body,OkA (y.body.eraseIdx k) a)(σ:St):
  ACalls Tryz.prog 94 [ag c,sc (.int .i64 k)] σ fun r σ'=>r=O3 (Is N y k s0)/\Keep σ σ':=by
 have bb:=Cw;have ba:=Pb;have a9:∀s,List.take 78 (Dm s)=Dm s:=fun s=>Aia (by rw[Cw];exact Agn _);have bc:∀s s',lsp (Dm s) 0 (Dm s')=Dm s':=fun s s'=>Mz (by rw[Cw,Cw]);have bd:∀s,(Dm s).all flat=true:=fun s=>by
  rw[Ag0];intro x hx;obtain⟨n,-,rfl⟩:=Aib.1 hx;unfold eZ;split
  ·rfl
  ·split<;>rfl
 have ax:=fun σ=>Np N y c k hc hf.1 σ;have aj:=fun c' a8 σ=>Uv N (G6 y k) c' a8 (fun h=>by cases h) (Te hf) σ;have av:=hf.1;obtain⟨hm,ih,id,b,hb,rfl⟩:=hc;have ai:=fun i1 i2 σ=>X5 K6 (N.idxOf y.head.pred:Nat) (N.idxOf y.head.pred:Nat) y.head.terms y.head.terms i1 i2 (fun _=>rfl) hf.2.1 hv σ;rw[if_pos rfl,a5]at ai;simp only[O3]at ai;have au:=fun cl idl hL ids σ=>sO N (y.body.eraseIdx k) cl idl hL (Ago (Ajd _ _) av) y.body b ids s0 σ hb av a6;obtain⟨sr,okr,af,-,-⟩:=X8 (F7 ((y.body.eraseIdx k).map (Ge Ak N)) (y.body.map (Ge Ak N)) s0);rw[af]at au;cases ah:Eb (G6 y k)with
 |false=>
  have HR:Akc (O3 (Is N y k s0)=tp [ag (Dm K6),sc (.bool false)]):=by rw[Akc,Is,if_neg (by rw[ah];simp)];rfl
  rw[ah]at aj;clear au ai af;refine Z9 33 [.cell 4 154,.tmp 5] Tryz.func94 ?_
  repeat' (first|refine Z1 ?_|(refine Z8 ?_;intro yb ya)|(refine Z4 ?_;clear ya yb)|(refine Z2 ?_ ?_<;>intro h ao<;>try exact Xp)|(refine Z5 ?_;first|(refine Xi (ax _) ?_;rintro _ _ ⟨c2,rfl,ac,ae⟩;(have am:=ae.obj;have ab:=ae.nobj;simp only[Aa]at ab;have ap:=aj c2 ac;obtain⟨a7,ih2,id2,b2,aw,rfl⟩:=ac))|(refine Xi (ap _) ?_;rintro _ _ ⟨rfl,ad⟩;(have ak:=ad.obj;have aa:=ad.nobj;simp only[Aa,Ab]at aa)))|refine Z7 ?_|exact Zt|(apply ya.out;clear ya yb))
  exact⟨_,rfl,by rw[HR.out],Xs⟩
 |true=>
  have HR:Akc (O3 (Is N y k s0)=tp [ag (Dm sr),sc (.bool okr)]):=by rw[Akc,Is,if_pos ah];exact af
  rw[ah]at aj;clear af;refine Z9 33 [.cell 4 154,.tmp 5] Tryz.func94 ?_
  repeat' (first|refine Z1 ?_|(refine Z8 ?_;intro yb ya)|(refine Z4 ?_;clear ya yb)|(refine Z2 ?_ ?_<;>intro h ao<;>try exact Xp)|(refine Z5 ?_;first|(refine Xi (ax _) ?_;rintro _ _ ⟨c2,rfl,ac,ae⟩;(have am:=ae.obj;have ab:=ae.nobj;simp only[Aa]at ab;have ap:=aj c2 ac;obtain⟨a7,ih2,id2,b2,aw,rfl⟩:=ac))|(refine Xi (ap _) ?_;rintro _ _ ⟨rfl,ad⟩;(have ak:=ad.obj;have aa:=ad.nobj;simp only[Aa,Ab]at aa))|(refine Xi (ai _ _ _) ?_;rintro _ _ ⟨rfl,az⟩;(have a3:=az.obj;have a4:=az.nobj))|(refine Xi (au _ _ aw _ _) ?_;rintro _ _ ⟨rfl,ay⟩;(have a0:=ay.obj;have an:=ay.nobj;simp only[Aa,Ab]at an)))|refine Z7 ?_|exact Zt|(apply ya.out;clear ya yb))
  exact⟨_,rfl,by rw[HR.out],Xs⟩
theorem Bo (t:Tx):(Ak t).1=Ad t:=by
 cases t with
 |nil=>rfl
 |cons b r=>
  unfold Ak Ad;dsimp only;split
  ·rename_i h;rw[h]
  ·rename_i h;simp at h;rw[h]
def UT (t:Tx):Prop:=DT t/\Nt t/\t.length<=1000/\(Ad t=true->∃k:Nat,k<26/\t=[Jp k])
theorem UT.enc {t:Tx}(h:UT t)(hv:Ad t=true):∃k:Nat,k<26/\t=[Jp k]/\Ak t=(true,(k:Int)):=by
 obtain⟨k,hk,rfl⟩:=h.2.2.2 hv;refine⟨k,hk,rfl,?_⟩;rw[Dz (Eh Aj6 Aj6),E8 Aj6 Aj6];congr 1;omega
theorem tellU:Tell Ak UT where
 var:=fun t _=>Bo t
 inj:=fun t u ht hu h=>by
  have hv:Ad t=Ad u:=by rw[<-Bo,<-Bo,h]
  cases hb:Ad t with
  |true=>
   obtain⟨k,hk,rfl,e1⟩:=ht.enc hb;obtain⟨j,hj,rfl,e2⟩:=hu.enc (by rw[<-hv];exact hb);rw[e1,e2]at h;have:(k:Int)=j:=congrArg (·.2) h;rw[this]
  |false=>
   rcases ht.1 with h1|⟨-,h1,-⟩
   ·rw[hb]at h1;cases h1
   rcases hu.1 with h2|⟨-,h2,-⟩
   ·rw[<-hv,hb]at h2;cases h2
   rw[<-h1,<-h2,h]
 pos:=fun t ht hv=>by
  obtain⟨k,-,-,e⟩:=ht.enc hv;rw[e];exact Aiu _
theorem UT.varOk {t:Tx}(h:UT t):varOk t:=fun hv=>by
 rw[Bo]at hv;obtain⟨k,hk,-,e⟩:=h.enc hv;exact⟨k,hk,by rw[e]⟩
theorem UT.dec {t:Tx}(h:UT t):Ia (Ak t)=t/\okE (Ak t):=by
 have hd:Ia (Ak t)=t:=by
  cases hv:Ad t with
  |true=>
   obtain⟨k,hk,rfl,e⟩:=h.enc hv;rw[e];unfold Ia;rw[if_pos rfl,Oe Aj6 Aj6]
  |false=>
   rcases h.1 with h1|⟨-,h1,-⟩
   ·rw[hv]at h1;cases h1
   ·unfold Ia;rw[if_neg (by rw[Bo,hv];simp),h1]
 refine⟨hd,?_,?_,?_,by rw[hd];exact h.2.2.1⟩
 ·cases hv:Ad t with
  |true=>obtain⟨k,hk,-,e⟩:=h.enc hv;rw[e];exact Aiu _
  |false=>
   rcases h.1 with h1|h1
   ·rw[hv]at h1;cases h1
   ·exact h1.2.2.1
 ·intro hb;rw[Bo]at hb;obtain⟨k,hk,-,e⟩:=h.enc hb;rw[e];show (k:Int)<26;omega
 ·cases hv:Ad t with
  |true=>obtain⟨k,hk,-,e⟩:=h.enc hv;rw[e];show (k:Int)<=999;omega
  |false=>
   rcases h.1 with h1|h1
   ·rw[hv]at h1;cases h1
   ·exact h1.2.2.2
structure InO (y:RItem):Prop where
 ut:∀a∈Ae y,∀t∈a.terms,UT t
 out:y.out=false
 ord:A4 y=(List.range (A4 y).length).map fun i=>[Jp (i:Nat)]
 len:(A4 y).length<=26
section
variable {N:List Tx} {y:RItem} {k:Nat} {s0 s:Sw}
end
theorem J8 {acc:List Tx}{t u:Tx}(h:∀v∈acc,Ad v=true)(hu:u∈F0 acc t):Ad u=true/\(u∈acc\/u=t):=by
 unfold F0 at hu;split at hu
 ·rename_i hc;rcases Ah8.1 hu with q|q
  ·exact⟨h u q,.inl q⟩
  ·simp at q;subst q;exact⟨hc.1,.inr rfl⟩
 ·exact⟨h u hu,.inl hu⟩
theorem Mv:∀(ts acc:List Tx),(∀v∈acc,Ad v=true)->acc.Nodup->(∀v∈Hn acc ts,Ad v=true/\(v∈acc\/v∈ts))/\(Hn acc ts).Nodup
 |[],acc,h,hn=>⟨fun v hv=>⟨h v hv,.inl hv⟩,hn⟩
 |t::ts,acc,h,hn=>by
  have aa:(F0 acc t).Nodup:=by
   unfold F0;split
   ·rename_i hc;rw[Ajf];refine⟨hn,by simp,fun a ha b hb=>?_⟩;simp at hb;subst hb;exact fun e=>hc.2 (e ▸ ha)
   ·exact hn
  obtain⟨h1,h2⟩:=Mv ts (F0 acc t) (fun v hv=>(J8 h hv).1) aa;refine⟨fun v hv=>?_,h2⟩;obtain⟨q1,q2⟩:=h1 v hv;refine⟨q1,?_⟩;rcases q2 with q2|q2
  ·rcases (J8 h q2).2 with q|q
   ·exact .inl q
   ·exact .inr (by simp[q])
  ·exact .inr (by simp[q2])
theorem gT (w:Tx->Tx):∀(ts acc:List Tx),(∀v∈acc,Ad v=true)->(∀t∈ts,Ad (w t)=Ad t)->(∀t u,(t∈acc\/t∈ts)->(u∈acc\/u∈ts)->Ad t=true->Ad u=true->w t=w u->t=u)->Hn (acc.map w) (ts.map w)=(Hn acc ts).map w
 |[],acc,_,_,_=>rfl
 |t::ts,acc,ha,hv,hi=>by
  show Hn (F0 (acc.map w) (w t)) (ts.map w)=(Hn (F0 acc t) ts).map w;have e:F0 (acc.map w) (w t)=(F0 acc t).map w:=by
   unfold F0;rw[hv t (by simp)];by_cases hc:Ad t=true/\t∉acc
   ·have aa:w t∉acc.map w:=fun hm=>by
     obtain⟨u,hu,e⟩:=Aib.1 hm;have:=hi u t (.inl hu) (.inr (by simp)) (ha u hu) hc.1 e;exact hc.2 (this ▸ hu)
    rw[if_pos hc,if_pos ⟨hc.1,aa⟩,Ahf,Ahj,Ahk]
   ·rw[if_neg hc,if_neg (fun h=>hc ⟨h.1,fun hm=>h.2 (Aib.2 ⟨t,hm,rfl⟩)⟩)]
  rw[e];refine gT w ts (F0 acc t) (fun v h=>(J8 ha h).1) (fun t' h=>hv t' (by simp[h])) (fun a b h1 h2=>hi a b ?_ ?_)
  ·rcases h1 with h1|h1
   ·rcases (J8 ha h1).2 with q|q
    ·exact .inl q
    ·exact .inr (by simp[q])
   ·exact .inr (by simp[h1])
  ·rcases h2 with h2|h2
   ·rcases (J8 ha h2).2 with q|q
    ·exact .inl q
    ·exact .inr (by simp[q])
   ·exact .inr (by simp[h2])
theorem M6 {α β:Type}(f:α->β):∀(l:List α) (k:Nat),(l.map f).eraseIdx k=(l.eraseIdx k).map f
 |[],k=>rfl
 |a::l,0=>rfl
 |a::l,k+1=>by simp[M6 f l k]
structure XR (x:RItem):Prop where
 dt:∀a∈Ae x,∀t∈a.terms,DT t/\Nt t/\t.length<=1000
 out:x.out=false
 few:(A4 x).length<=26
section
variable {x:RItem} (hx:XR x)
include hx
theorem XR.mem {a:RAtom}(ha:a∈Ae x){t:Tx}(ht:t∈a.terms)(hv:Ad t=true):t∈A4 x:=Pp _ _ _ (.inr ⟨Ah7.2 ⟨a,ha,ht⟩,hv⟩)
theorem XR.which {t:Tx}(h:t∈A4 x):Bw (A4 x) t=((A4 x).idxOf t:Nat)/\(A4 x).idxOf t<(A4 x).length:=⟨by unfold Bw;rw[if_pos h],Air h⟩
theorem XR.rng {a:RAtom}(ha:a∈Ae x){t:Tx}(ht:t∈a.terms)(hv:Ad t=true):0<=Bw (A4 x) t/\Bw (A4 x) t<26:=by
 obtain⟨e1,e2⟩:=hx.which (hx.mem ha ht hv);have:=hx.few;rw[e1];omega
theorem XR.inj {a b:RAtom}(ha:a∈Ae x)(hb:b∈Ae x){t u:Tx}(ht:t∈a.terms)(hu:u∈b.terms)(h:Gt (A4 x) t=Gt (A4 x) u):t=u:=by
 have v1:=Jn (l:=A4 x) (fun hv=>hx.rng ha ht hv);have v2:=Jn (l:=A4 x) (fun hv=>hx.rng hb hu hv);have ab:Ad t=Ad u:=by rw[<-v1,<-v2,h]
 cases hv:Ad t with
 |true=>
  have aa:Ad u=true:=by rw[<-ab];exact hv
  have r1:=hx.rng ha ht hv;have r2:=hx.rng hb hu aa;unfold Gt at h;rw[if_pos hv,if_pos aa]at h;have h3:Jp (Bw (A4 x) t)=Jp (Bw (A4 x) u):=by simpa using h
  have h4:((Jp (Bw (A4 x) t)).toNat:Int)=(Jp (Bw (A4 x) u)).toNat:=by rw[h3]
  rw[E8 r1.1 r1.2,E8 r2.1 r2.2]at h4;have m1:=hx.mem ha ht hv;have m2:=hx.mem hb hu aa;have e1:=(hx.which m1).1;have e2:=(hx.which m2).1;exact C1 m1 m2 Aj6
 |false=>
  have aa:Ad u=false:=by rw[<-ab];exact hv
  unfold Gt at h;rwa[if_neg (by rw[hv];simp),if_neg (by rw[aa];simp)]at h
theorem XR.ut {a:RAtom}(ha:a∈Ae x){t:Tx}(ht:t∈a.terms):UT (Gt (A4 x) t):=by
 obtain⟨d1,d2,d3⟩:=hx.dt a ha t ht;cases hv:Ad t with
 |true=>
  obtain⟨r1,r2⟩:=hx.rng ha ht hv;have e:Gt (A4 x) t=[Jp ((Bw (A4 x) t).toNat:Nat)]:=by
   unfold Gt;rw[if_pos hv,Int.toNat_of_nonneg r1]
  rw[e];exact⟨.inl (Eh Aj6 Aj6),⟨by simp,fun b hb=>by simp at hb;subst hb;exact .inl (Eh Aj6 Aj6)⟩,by simp,fun _=>⟨_,Aj6,rfl⟩⟩
 |false=>
  have e:Gt (A4 x) t=t:=by unfold Gt;rw[if_neg (by rw[hv];simp)]
  rw[e];exact⟨d1,d2,d3,fun h=>by rw[hv]at h;cases h⟩
theorem XR.atoms:Ae (ren x)=(Ae x).map (Cs (A4 x)):=by
 unfold Ae ren;simp[hx.out]
theorem XR.ord:A4 (ren x)=(A4 x).map (Gt (A4 x)):=by
 have h1:(Ae (ren x)).flatMap (·.terms)=((Ae x).flatMap (·.terms)).map (Gt (A4 x)):=by
  rw[hx.atoms,List.flatMap_map,List.map_flatMap];rfl
 have mem:∀t,t∈(Ae x).flatMap (·.terms)->∃a∈Ae x,t∈a.terms:=fun t ht=>by
  obtain⟨a,ha,hm⟩:=Ah7.1 ht;exact⟨a,ha,hm⟩
 have:=gT (Gt (A4 x)) ((Ae x).flatMap (·.terms)) [] (by simp) (fun t ht=>by
  obtain⟨a,ha,hm⟩:=mem t ht;exact Jn (fun hv=>hx.rng ha hm hv)) (fun t u h1 h2 _ _ h=>by
  rcases h1 with h1|h1
  ·cases h1
  rcases h2 with h2|h2
  ·cases h2
  obtain⟨a,ha,hm⟩:=mem t h1;obtain⟨b,hb,hn⟩:=mem u h2
  exact hx.inj ha hb hm hn h)
 show Hn [] ((Ae (ren x)).flatMap (·.terms))=_;rw[h1];exact this
theorem XR.inO:InO (ren x) where
 ut:=fun a ha t ht=>by
  rw[hx.atoms]at ha;obtain⟨a',ac,rfl⟩:=Aib.1 ha;simp only[Cs,Aib]at ht;obtain⟨t',ab,rfl⟩:=ht;exact hx.ut ac ab
 out:=hx.out
 ord:=by
  rw[hx.ord,Ai1];have aa:=(Mv ((Ae x).flatMap (·.terms)) [] (by simp) Ai0);apply Ahi;intro i;rw[Aha,Aha];by_cases hi:i<(A4 x).length
  ·rw[Agz hi,List.getElem?_range hi];simp only[Ajb];congr 1;have hm:=Ain hi;have hv:=(aa.1 _ hm).1;unfold Gt;rw[if_pos hv];have:(A4 x).idxOf (A4 x)[i]=i:=List.Nodup.idxOf_getElem aa.2 i hi;rw[(hx.which hm).1,this]
  ·rw[Ahb Aj6,Ahb (by simpa using hi)];rfl
 len:=by rw[hx.ord,Ai1];exact hx.few
theorem XR.tell:Tell (fun t=>Ak (Gt (A4 x) t)) (fun t=>∃a∈Ae x,t∈a.terms) where
 var:=fun t ⟨a,ha,ht⟩=>by rw[Bo];exact Jn (fun hv=>hx.rng ha ht hv)
 inj:=fun t u ⟨a,ha,ht⟩ ⟨b,hb,hu⟩ h=>hx.inj ha hb ht hu (tellU.inj _ _ (hx.ut ha ht) (hx.ut hb hu) h)
 pos:=fun t ⟨a,ha,ht⟩ hv=>tellU.pos _ (hx.ut ha ht) (by rw[Jn (fun hv=>hx.rng ha ht hv)];exact hv)
theorem XR.search {N:List Tx}{k:Nat}(hN:∀a∈x.body,a.pred∈N)(aa:∀a∈x.body,∀b∈x.body,a.pred=b.pred->a.terms.length=b.terms.length):
  ∃s0,Cg K6 ((ren x).head.terms.map Ak) ((ren x).head.terms.map Ak)=some s0/\((∃s',F7 (((ren x).body.eraseIdx k).map (Ge Ak N)) ((ren x).body.map (Ge Ak N)) s0=some s')↔Rb x k):=by
 obtain⟨s0,h0,h1⟩:=Nx hx.tell N x k hN (fun t ht=>⟨x.head,Ar (.inl ⟨hx.out,rfl⟩),ht⟩) (fun a ha t ht=>⟨a,Ar (.inr ha),ht⟩) aa (fun t ht u hu h=>hx.tell.inj t u ht hu h);have e1:(ren x).head.terms.map Ak=x.head.terms.map fun t=>Ak (Gt (A4 x) t):=by simp[ren,Cs]
 have e2:∀ls:List RAtom,(ls.map (Cs (A4 x))).map (Ge Ak N)=ls.map (Ge (fun t=>Ak (Gt (A4 x) t)) N):=fun ls=>by
  rw[Ahg];apply Aid;intro a _;simp[Ge,Cs]
 have e3:(ren x).body.eraseIdx k=(x.body.eraseIdx k).map (Cs (A4 x)):=by simp[ren,M6]
 refine⟨s0,by rw[e1];exact h0,?_⟩;rw[e3,show (ren x).body=x.body.map (Cs (A4 x))from rfl,e2,e2];exact h1
theorem XR.safe (k:Nat):Eb (G6 (ren x) k)=F6 (G6 x k):=by
 unfold Eb F6;congr 1;have eb:(G6 (ren x) k).body=(x.body.eraseIdx k).map (Cs (A4 x)):=by simp[G6,ren,M6]
 have ea:Ae (G6 (ren x) k)=(Ae (G6 x k)).map (Cs (A4 x)):=by simp[Ae,G6,ren,M6]
 have aa:∀b∈x.body.eraseIdx k,b∈Ae x:=fun b hb=>Ar (.inr (Aja hb));rw[ea,List.any_map];apply Ed;intro a ha;have ab:a∈Ae x:=by
  simp[Ae,G6]at ha;rcases ha with rfl|ha
  ·exact Ar (.inl ⟨hx.out,rfl⟩)
  ·exact aa a ha
 unfold zR tU;simp only[Function.comp,Cs,List.any_map];apply Ed;intro t ht;simp only[Function.comp];rw[Bo,Jn (fun hv=>hx.rng ab ht hv)];cases hv:Ad t with
 |false=>rfl
 |true=>
  congr 2;unfold Fh Me;rw[eb,List.any_map];show _=(x.body.eraseIdx k).any _;apply Ed;intro b hb;have ac:=aa b hb;simp only[Function.comp,Cs,List.any_map];have hk:∀u∈b.terms,Oi (Ak (Gt (A4 x) t)).2 (Gt (A4 x) u)=(u==t):=fun u hu=>by
   unfold Oi;rw[Aio];simp only[Ag3,Aj4];constructor
   ·rintro⟨h1,h2⟩;exact hx.inj ac ab hu ht (tellU.inj _ _ (hx.ut ac hu) (hx.ut ab ht) (Prod.ext (by rw[h1,Bo,Jn (fun hv=>hx.rng ab ht hv),hv]) h2))
   ·rintro rfl;exact⟨by rw[Bo,Jn (fun hv=>hx.rng ab ht hv),hv],rfl⟩
  rw[Ed (p:=Oi (Ak (Gt (A4 x) t)).2∘Gt (A4 x)) (q:=fun u=>u==t) hk];cases b.nt<;>simp
end
end Go.Proofs.YtmoeoppbmhfbpabGreatDoorL
