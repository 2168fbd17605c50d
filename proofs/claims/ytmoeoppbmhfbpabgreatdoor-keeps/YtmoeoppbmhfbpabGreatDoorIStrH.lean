import Derived.Test.YtmoeoppbmhfbpabGreatDoorIPrtF
import Derived.Test.YtmoeoppbmhfbpabGreatDoorILawA
import Derived.Test.YtmoeoppbmhfbpabGreatDoorIProgH
import Derived.Test.YtmoeoppbmhfbpabGreatDoorIRefA
import Derived.Test.YtmoeoppbmhfbpabGreatDoorIProgM
import Derived.Test.YtmoeoppbmhfbpabGreatDoorIAbsWp
set_option maxHeartbeats 32000000
set_option maxRecDepth 100000
set_option linter.all false
open List renaming length->Z
namespace Go.Proofs.YtmoeoppbmhfbpabGreatDoorI
open Go.Abs
theorem gw (i):(Cv 16 (fun a=>decide (a<i))).set i (sc (.bool true))=Cv 16 (fun a=>decide (a<i+1)):=by
 rw[Ny];congr 1;funext a;by_cases e:a=i
 ·subst e;simp
 ·rw[if_neg e];simp;omega
theorem kX {l p k}(hk:k<16)(h1:D1 (Z0 l (k+1)) l p=false)(h2:∀j,j<k->D1 (Z0 l (j+1)) l p=true):Bp l p=k:=by
 unfold Bp;have:(List.range 16).find? (fun k=>!D1 (Z0 l (k+1)) l p)=some k:=by
  rw[List.find?_range_eq_some];exact⟨by rw[h1];rfl,by simpa using hk,fun j hj=>by rw[h2 j hj];rfl⟩
 rw[this]
theorem fC {l p}(h2:∀j,j<16->D1 (Z0 l (j+1)) l p=true):Bp l p=16:=by
 unfold Bp;have:(List.range 16).find? (fun k=>!D1 (Z0 l (k+1)) l p)=none:=by
  rw[IX];intro j hj;rw[h2 j (by simpa using hj)];simp
 rw[this]
theorem Zp (l cs idl p)(hE:EL AN l cs)(hl:Z l<=16)(hf:∀x∈l,x.fits)(σ):AF Tryz.prog 117 [sl idl (Z l) cs,str p] σ fun r σ'=>r=ic (Bp l p:Nat)/\AE σ σ':=by
 have bc:=EL.length Cj hE;have a3:=Fa;have a4:=fun g=>Cx 16 g;have a5:∀M,List.take 256 (Ej M)=Ej M:=fun M=>FW (by rw[Fa];exact AR _);have a7:∀M,lsp (Lb 256 (.bool false)) 0 (Ej M)=Ej M:=fun M=>F3 (by rw[Fa];simp[Lb]);have bd:Z (Lb 256 (.bool false))=256:=by simp[Lb]
 have ba:∀M,(Ej M).all flat=true:=fun M=>by simp[Ej,flat,Value.oneCell']
 have a6:∀g,List.take 16 (Cv 16 g)=Cv 16 g:=fun g=>FW (by rw[Cx];exact AR _);have a9:∀g h,lsp (Cv 16 g) 0 (Cv 16 h)=Cv 16 h:=fun g h=>F3 (by rw[Cx,Cx]);have bb:∀g,(Cv 16 g).all flat=true:=fun g=>by simp[Cv,flat,Value.oneCell']
 refine Z9 35 [.tmp 4] Tryz.func117 ?_
 refine qb ?_;intro yd yb;refine Xi (iS l cs idl hE hl hf _) ?_;rintro _ _ ⟨rfl,ae⟩;(have knw:=ae.B);refine pz ?_
 rename_i σ1
 refine Ae (fun m s σ'=>∃i:Nat,m=Z l-i/\i<=Z l/\s 0=sl idl (Z l) cs/\s 1=str p/\s 5=ptr σ1.B 0/\s 6=ptr (σ1.B+1) 0/\s 7=ic i/\AE σ σ'/\σ1.B+1<σ'.B/\σ'.C σ1.B=Ej (I0 l)/\σ'.C (σ1.B+1)=Cv 16 (fun a=>decide (a<i))) (Z l)
  ⟨0,AA,AA,by simp[upd,AM],by simp[upd,AM],AG,AG,rfl,?_,BM,?_,?_⟩ ?_
 ·exact ((ae.new _).put ae.B _).new _
 ·rw[Ah BM,Ak]
 ·rw[Bg BM BM];rw[show (fun a=>decide (a<0))=(fun _=>false)by funext a;simp];exact K9 16
 rintro m s σ' ⟨i,rfl,hi,h0,h1,h5,h6,h7,hK,ak,ai,ad⟩;by_cases a8:i<Z l
 ·have ax:=gw i
  refine pz ?_
  exact⟨Z l-(i+1),AA,i+1,rfl,AA,by simp,hK.put AA _,rfl⟩
 ·have hil:i=Z l:=AA;subst hil;rw[show (fun a=>decide (a<Z l))=Z0 l 0 from rfl]at ad
  refine pz ?_
  refine Ae (fun m s σ'=>∃k:Nat,m=16-k/\k<=16/\s 0=sl idl (Z l) cs/\s 1=str p/\s 5=ptr σ1.B 0/\s 6=ptr (σ1.B+1) 0/\s 8=ic k/\AE σ σ'/\σ1.B+1<σ'.B/\σ'.C σ1.B=Ej (I0 l)/\σ'.C (σ1.B+1)=Cv 16 (Z0 l k)/\AD (∀j,j<k->D1 (Z0 l (j+1)) l p=true)) 16
   ⟨0,AA,AA,by simp[upd,h0],by simp[upd,h1],by simp[upd,h5],by simp[upd,h6],rfl,hK,ak,ai,ad,fun j hj=>AA⟩ ?_
  clear h0 h1 h5 h6 h7 hK ak ai ad;rintro m s σ' ⟨k,rfl,hk,h0,h1,h5,h6,h8,hK,ak,ai,ad,aa⟩;by_cases am:k<16
  ·have az:∀σ,AF Tryz.prog 171 [sl idl (Z l) cs,ag (Ej (I0 l)),ag (Cv 16 (Z0 l k)),sc (.bool ((k:Int)==0))] σ fun r σ'=>r=ag (Cv 16 (Z0 l (k+1)))/\AE σ σ':=fun σ=>by
    have e:((k:Int)==0)=(k==0):=by rw[KL];simp only[EH];omega
    rw[e];exact nN l cs idl (Z0 l k) (k==0) hE hl hf σ
   have ao:=fun σ=>Ye l cs idl (Z0 l (k+1)) p hE hl σ;have ap:AD (D1 (Z0 l (k+1)) l p=false->Bp l p=k):=fun h=>kX am h aa.o;generalize an:D1 (Z0 l (k+1)) l p=ho at ao ap;have a0:AD _:=an;clear an;have knz:=ae.B
   (repeat (refine qb ?_;intro yd yb;(first|(refine Xi (az _) ?_;rintro _ _ ⟨rfl,ah⟩;(have av:=ah.C;have aw:=ah.B))|(refine Xi (ao _) ?_;rintro _ _ ⟨rfl,af⟩;(have au:=af.C;have aj:=af.B;(try simp only[Aa,Ab,Av]at aj))))));refine qe ?_ ?_<;>intro h ab
   ·have hs:=ap.o (by assumption);exact⟨_,rfl,by rw[hs],((hK.trans ah).put AA _).trans af⟩
   ·refine⟨16-(k+1),AA,k+1,rfl,AA,by simp,((hK.trans ah).put AA _).trans af,AA,rfl,fun j hj=>?_⟩;by_cases e:j=k
    ·subst e;rw[a0.o];assumption
    ·exact aa.o j AA
  ·have ay:k=16:=AA;subst ay;have ac:=fC aa.o
   refine pz ?_
   first
   |exact⟨_,rfl,by rw[ac];rfl,hK⟩
   |exact⟨_,rfl,by rw[ac];rfl⟩
   |exact⟨_,rfl,rfl⟩
theorem sH {p n}(h:¬0<=Bf p n):∀i,i<n->p i=false:=by
 intro i hi;unfold Bf at h;split at h
 ·rename_i j hj;exact absurd (KG j) h
 ·rename_i hn;rw[IX]at hn;simpa using hn i (by simpa using hi)
abbrev Sw:=(Nat->Bool)×(Nat->Bool×Int)
def Mv:Sw:=(fun _=>false,fun _=>(false,0))
def kV (s:Sw)(n:Nat):AV:=if n<26 then sc (.bool (s.1 n))else if n % 2=0 then sc (.bool (s.2 ((n-26) / 2)).1)else ic (s.2 ((n-26) / 2)).2
def D7 (s:Sw):List AV:=(List.range 78).map (kV s)
theorem Dc (s):Z (D7 s)=78:=by simp[D7]
theorem Q1:QJ.map cst1=D7 Mv:=rfl
theorem WJ {s i}(h:i<26):(D7 s)[i]?=some (sc (.bool (s.1 i))):=by
 simp[D7,kV,h,show i<78 by omega]
theorem XG {s i}(h:i<26)(v):(D7 s).set i (sc (.bool v))=D7 (fun j=>if j=i then v else s.1 j,s.2):=by
 apply FS;intro n;rw[GK];by_cases hn:n<78
 ·by_cases he:i=n
  ·subst he;simp[D7,kV,h,hn]
  ·have:n≠i:=fun e=>he e.symm;simp[D7,kV,hn,he,this]
 ·have:i≠n:=AA;simp[D7,hn,this]
theorem Wo {s n}(h:n<78):(D7 s)[n]?=some (kV s n):=by simp[D7,h]
theorem kW (s){i}(h:i<26):∃r,(D7 s).drop (26+i*2)=sc (.bool (s.2 i).1)::ic (s.2 i).2::r:=by
 have e1:kV s (26+i*2)=sc (.bool (s.2 i).1):=by
  unfold kV;rw[if_neg AA,if_pos AA,show (26+i*2-26) / 2=i by omega]
 have e2:kV s (26+i*2+1)=ic (s.2 i).2:=by
  unfold kV;rw[if_neg AA,if_neg AA,show (26+i*2+1-26) / 2=i by omega]
 refine⟨(D7 s).drop (26+i*2+1+1),?_⟩;have l1:26+i*2<Z (D7 s):=by rw[Dc];omega
 have l2:26+i*2+1<Z (D7 s):=by rw[Dc];omega
 rw[FJ l1,FJ l2];have g1:=AJ l1;have g2:=AJ l2;rw[Wo AA,e1]at g1;rw[Wo AA,e2]at g2;rw[<-IA g1,<-IA g2]
theorem ZT (s){i}(h:i<26)(b v):lsp (D7 s) (26+i*2) [sc (.bool b),ic v]=D7 (s.1,fun j=>if j=i then (b,v)else s.2 j):=by
 rw[Hc _ _ _ (by rw[Dc];simp;omega)];apply FS;intro n;have hl:=Dc s;by_cases hn:n<78
 ·rw[Wo hn];by_cases c1:n<26+i*2
  ·rw[CX,OY (by rw[CV];omega),II,if_pos c1,Wo hn];congr 1;unfold kV;by_cases c:n<26
   ·rw[if_pos c,if_pos c]
   ·have:(n-26) / 2≠i:=AA;simp[c,this]
  ·by_cases c2:n<26+i*2+2
   ·rw[CX,KU (by rw[CV];omega),CV,EZ AA];rcases (show n=26+i*2\/n=26+i*2+1 by omega)with e|e
    ·subst e;simp only[KB,FC,List.getElem?_cons_zero];unfold kV;rw[if_neg AA,if_pos AA,show (26+i*2-26) / 2=i by omega];simp
    ·subst e;rw[show 26+i*2+1-(26+i*2)=1 by omega];simp only[FC,List.getElem?_cons_succ,List.getElem?_cons_zero];unfold kV;rw[if_neg AA,if_neg AA,show (26+i*2+1-26) / 2=i by omega];simp
   ·rw[KU (by simp[CV];omega)];simp only[AX,CV,BQ,CP];rw[JD,EZ AA,show 26+i*2+2+(n-(26+i*2+(0+1+1)))=n by omega,Wo hn];congr 1;unfold kV;have:(n-26) / 2≠i:=AA;have c:¬n<26:=AA;simp[c,this]
 ·rw[FK (by simp[CV,Dc];omega),FK (by rw[Dc];omega)]
theorem gz (s){i}(h:i<26)(b v):((D7 s).set (26+i*2) (sc (.bool b))).set (26+i*2+1) (ic v)=D7 (s.1,fun j=>if j=i then (b,v)else s.2 j):=ZT s h b v
def J3 (s:Sw)(e b:Bool×Int):Option Sw:=
 if e.1=true then
  (if s.1 e.2.toNat=true then (if s.2 e.2.toNat=b then some s else none)
   else some (fun j=>if j=e.2.toNat then true else s.1 j,fun j=>if j=e.2.toNat then b else s.2 j))
 else if e=b then some s else none
def C3:Sw->List (Bool×Int)->List (Bool×Int)->Option Sw
 |s,[],_=>some s
 |_,_::_,[]=>none
 |s,e::es,b::bs=>(J3 s e b).bind fun s'=>C3 s' es bs
def Qw:Option Sw->AV
 |some s=>tp [ag (D7 s),sc (.bool true)]
 |none=>tp [ag (D7 Mv),sc (.bool false)]
def varOk (t:Tx):Prop:=(Ap t).1=true->∃k:Nat,k<26/\(Ap t).2=(k:Int)
theorem pP {s}{ts us:List Tx}{k t u}(ht:ts[k]?=some t)(hu:us[k]?=some u):C3 s ((ts.drop k).map Ap) ((us.drop k).map Ap)=(J3 s (Ap t) (Ap u)).bind fun s'=>C3 s' ((ts.drop (k+1)).map Ap) ((us.drop (k+1)).map Ap):=by
 have h1:=(BG.1 ht);have h2:=(BG.1 hu);obtain⟨l1,e1⟩:=h1;obtain⟨l2,e2⟩:=h2;rw[FJ l1,FJ l2,e1,e2];rfl
theorem aI (s p q ts us i1 i2)(hl:p=q->Z ts=Z us)(hn:Z ts<=1000)(hv:∀t∈ts,varOk t)(σ):
  AF Tryz.prog 147 [ag (D7 s),ag [ic p,sl i1 (Z ts) (A2 ts)],ag [ic q,sl i2 (Z us) (A2 us)]] σ fun r σ'=>r=Qw (if p=q then C3 s (ts.map Ap) (us.map Ap)else none)/\AE σ σ':=by
 have a6:=Fp ts;have a5:=Fp us;have a9:=Dc;have a8:=Q1;have a7:∀s,List.take 78 (D7 s)=D7 s:=fun s=>FW (by rw[Dc];exact AR _);have bd:∀s s',lsp (D7 s) 0 (D7 s')=D7 s':=fun s s'=>F3 (by rw[Dc,Dc]);have be:∀s,(D7 s).all flat=true:=fun s=>by
  rw[EK];intro x hx;obtain⟨n,-,rfl⟩:=AO.1 hx;unfold kV;split
  ·rfl
  ·split<;>rfl
 by_cases ae:p=q
 ·have am:AD (Z ts=Z us):=hl ae;have hb:(p !=q)=false:=by simp[ae]
  rw[if_pos ae];clear hl ae;refine Z9 62 [.cell 6 154,.tmp 7] Tryz.func147 ?_
  refine pz ?_
  refine Ae (fun m s0 σ'=>∃(k:Nat) (s':Sw),m=Z ts-k/\k<=Z ts/\s0 3=ptr σ.B 0/\s0 5=ptr (σ.B+2) 0/\s0 6=ptr (σ.B+3) 0/\s0 18=sl i1 (Z ts) (A2 ts)/\s0 19=ic (Z ts)/\s0 20=ic k/\AE σ σ'/\σ.B+3<σ'.B/\σ'.C σ.B=D7 s'/\σ'.C (σ.B+2)=[ic q,sl i2 (Z us) (A2 us)]/\σ'.C (σ.B+3)=D7 Mv/\AD (C3 s (ts.map Ap) (us.map Ap)=C3 s' ((ts.drop k).map Ap) ((us.drop k).map Ap))) (Z ts)
   ⟨0,s,AA,AA,AG,AG,AG,AG,AG,rfl,Xs,AK,?_,?_,?_,by simp[AD]⟩ ?_
  ·rw[Ah AK,Ah AK,Ah AK,Ao]
  ·rw[Ah AK,Bg AK AK]
  ·rw[Bg AK AK]
  rintro m s0 σ' ⟨k,s',rfl,hk,h3,h5,h6,bh,bg,bf,hK,bc,a3,a0,az,hW⟩;have a4:=hK.B;by_cases an:k<Z ts
  ·have av:k<Z us:=by have:=am.o;omega
   have g1:=AJ an;have g2:=AJ av;have ah:=hv ts[k] (AT an);obtain⟨r1,au⟩:=Gu g1;obtain⟨r2,ap⟩:=Gu g2;have ac:AD (C3 s (ts.map Ap) (us.map Ap)=(J3 s' (Ap ts[k]) (Ap us[k])).bind fun s'=>C3 s' ((ts.drop (k+1)).map Ap) ((us.drop (k+1)).map Ap)):=by rw[AD,hW.o,pP g1 g2]
   unfold varOk at ah;clear g1 g2 hW;generalize Ap ts[k]=e at au ac ah;generalize Ap us[k]=b at ap ac;obtain⟨e1,e2⟩:=e;obtain⟨b1,b2⟩:=b;dsimp only at au ap ah;cases e1 with
   |true=>
    obtain⟨kk,aj,rfl⟩:=ah rfl;have ao:=WJ (s:=s') aj;obtain⟨r3,ak⟩:=kW s' aj;cases ad:s'.1 kk with
    |true=>
     rw[ad]at ao;by_cases aa:s'.2 kk=(b1,b2)
     ·have ai:AD (C3 s (ts.map Ap) (us.map Ap)=C3 s' ((ts.drop (k+1)).map Ap) ((us.drop (k+1)).map Ap)):=by
       rw[AD,ac.o];unfold J3;simp[ad,aa]
      rw[aa]at ak;dsimp only at ak;clear ac ad aa
      refine pz ?_
      exact⟨Z ts-(k+1),AA,k+1,s',rfl,AA,by simp,((((hK.new _).put hK.B _).new _).put AA _).put hK.B _,AA,rfl,ai⟩
     ·have af:AD (C3 s (ts.map Ap) (us.map Ap)=none):=by
       rw[AD,ac.o];unfold J3;simp[ad,aa]
      clear ac ad;generalize s'.2 kk=g at ak aa;obtain⟨c1,c2⟩:=g;have ay:(c1==b1&&c2==b2)=false:=by
       cases hq:(c1==b1&&c2==b2)with
       |false=>rfl
       |true=>simp at hq;exact absurd (by rw[hq.1,hq.2]) aa
      dsimp only at ak;clear aa
      refine pz ?_
      exact⟨_,rfl,by rw[af.o];rfl,(((((hK.new _).put hK.B _).new _).put AA _).put hK.B _).put AA _⟩
    |false=>
     rw[ad]at ao;have bb:=XG (s:=s') aj true;have ba:=fun s'=>gz s' aj b1 b2;have ai:AD (C3 s (ts.map Ap) (us.map Ap)=C3 (fun j=>if j=kk then true else s'.1 j,fun j=>if j=kk then (b1,b2)else s'.2 j) ((ts.drop (k+1)).map Ap) ((us.drop (k+1)).map Ap)):=by
      rw[AD,ac.o];unfold J3;simp[ad]
     obtain⟨r4,ax⟩:=kW (fun j=>if j=kk then true else s'.1 j,fun j=>if j=kk then (b1,b2)else s'.2 j) aj;simp only[if_true]at ax;clear ac ad
     refine pz ?_
     exact⟨Z ts-(k+1),AA,k+1,(fun j=>if j=kk then true else s'.1 j,fun j=>if j=kk then (b1,b2)else s'.2 j),rfl,AA,by simp,((((((hK.new _).put hK.B _).new _).put AA _).put (AR _) _).put (AR _) _).put hK.B _,AA,rfl,ai⟩
   |false=>
    by_cases aa:(false,e2)=(b1,b2)
    ·have ai:AD (C3 s (ts.map Ap) (us.map Ap)=C3 s' ((ts.drop (k+1)).map Ap) ((us.drop (k+1)).map Ap)):=by
      rw[AD,ac.o];unfold J3;simp[aa]
     cases aa;clear ac ah
     refine pz ?_
     exact⟨Z ts-(k+1),AA,k+1,s',rfl,AA,by simp,(((hK.new _).put hK.B _).new _).put AA _,AA,rfl,ai⟩
    ·have af:AD (C3 s (ts.map Ap) (us.map Ap)=none):=by
      rw[AD,ac.o];unfold J3;simp[aa]
     have ay:(false==b1&&e2==b2)=false:=by
      cases hq:(false==b1&&e2==b2)with
      |false=>rfl
      |true=>simp at hq;exact absurd (by rw[<-hq.1,hq.2]) aa
     clear ac ah aa
     refine pz ?_
     exact⟨_,rfl,by rw[af.o];rfl,((((hK.new _).put hK.B _).new _).put AA _).put AA _⟩
  ·have aw:k=Z ts:=AA;subst aw;have hR:C3 s (ts.map Ap) (us.map Ap)=some s':=by rw[hW.o,JZ];simp[C3]
   refine pz ?_
   exact⟨_,rfl,rfl,hK.put AA _⟩
 ·have hb:(p !=q)=true:=by simpa using ae
  rw[if_neg ae];clear hl ae;refine Z9 62 [.cell 6 154,.tmp 7] Tryz.func147 ?_
  refine pz ?_
  exact⟨_,rfl,rfl,((((((AE.refl _).new _).new _).new _).new _).put AA _)⟩
structure Lt where
 nt:Bool
 pr:Nat
 es:List (Bool×Int)
def Hn (left:List Lt):List Lt->Sw->Option Sw
 |[],s=>some s
 |x::xs,s=>left.findSome? fun b=>if b.nt=x.nt/\x.pr=b.pr then (C3 s x.es b.es).bind (Hn left xs)else none
def Hb (e:Tx->Bool×Int)(N:List Tx)(a:AC):Lt:=⟨a.nt,N.idxOf a.B,a.A.map e⟩
def oS (θ:Tx->Tx)(t:Tx):Tx:=if Ac t=true then θ t else t
def gB (θ:Tx->Tx)(a b:AC):Prop:=a.nt=b.nt/\a.B=b.B/\a.A.map (oS θ)=b.A
def Tk (x:AB)(k:Nat):Prop:=∃θ:Tx->Tx,(∀t∈x.h.A,Ac t=true->θ t=t)/\∀a∈x.A,∃b∈x.A.eraseIdx k,gB θ a b
structure GP (e:Tx->Bool×Int)(U:Tx->Prop):Prop where
 var:∀t,U t->(e t).1=Ac t
 inj:∀t u,U t->U u->e t=e u->t=u
 pos:∀t,U t->Ac t=true->0<=(e t).2
def Zj (e:Tx->Bool×Int)(t:Tx):Nat:=(e t).2.toNat
theorem GP.same {e U}(T:GP e U){t u}(ht:U t)(hu:U u)(vt:Ac t=true)(vu:Ac u=true)(h:Zj e t=Zj e u):t=u:=by
 apply T.inj t u ht hu;have h1:=T.var t ht;have h2:=T.var u hu;have h3:=T.pos t ht vt;have h4:=T.pos u hu vu;unfold Zj at h;apply GW
 ·rw[h1,h2,vt,vu]
 ·omega
def PF (e:Tx->Bool×Int)(U:Tx->Prop)(s:Sw)(θ:Tx->Tx):Prop:=∀t,U t->Ac t=true->s.1 (Zj e t)=true->s.2 (Zj e t)=e (θ t)
def EF (s s':Sw):Prop:=∀k,s.1 k=true->s'.1 k=true/\s'.2 k=s.2 k
theorem EF.refl (s):EF s s:=fun k h=>⟨h,rfl⟩
theorem EF.trans {a b c}(h:EF a b)(g:EF b c):EF a c:=fun k hk=>by
 obtain⟨h1,h2⟩:=h k hk;obtain⟨g1,g2⟩:=g k h1;exact⟨g1,g2.trans h2⟩
def IR (e:Tx->Bool×Int)(s:Sw)(t u:Tx):Prop:=if Ac t=true then s.1 (Zj e t)=true/\s.2 (Zj e t)=e u else e t=e u
theorem IR.grow {e s s' t u}(h:IR e s t u)(g:EF s s'):IR e s' t u:=by
 unfold IR at*
 split
 ·rename_i hv;rw[if_pos hv]at h;obtain⟨g1,g2⟩:=g _ h.1;exact⟨g1,g2.trans h.2⟩
 ·rename_i hv;rw[if_neg hv]at h;exact h
section
variable {e:Tx->Bool×Int} {U:Tx->Prop} (T:GP e U)
include T
theorem cM {s θ t u}(ha:PF e U s θ)(ht:U t)(hu:oS θ t=u):∃s',J3 s (e t) (e u)=some s'/\PF e U s' θ:=by
 unfold oS at hu;unfold J3;rw[T.var t ht];split at hu
 ·rename_i hv;subst hu;rw[if_pos hv];by_cases hs:s.1 (e t).2.toNat=true
  ·rw[if_pos hs,if_pos (show s.2 (e t).2.toNat=e (θ t)from ha t ht hv hs)];exact⟨s,rfl,ha⟩
  ·rw[if_neg hs];refine⟨_,rfl,fun t' ab aa h'=>?_⟩;by_cases he:Zj e t'=(e t).2.toNat
   ·have:=T.same ab ht aa hv he;subst this;simp[Zj]
   ·dsimp only at h'⊢;rw[if_neg he]at h'⊢;exact ha t' ab aa h'
 ·rename_i hv;subst hu;rw[if_neg hv,if_pos rfl];exact⟨s,rfl,ha⟩
theorem aK:∀(ts us:List Tx) (s:Sw) (θ:Tx->Tx),PF e U s θ->(∀t∈ts,U t)->ts.map (oS θ)=us->∃s',C3 s (ts.map e) (us.map e)=some s'/\PF e U s' θ
 |[],us,s,θ,ha,_,_=>⟨s,by simp[C3],ha⟩
 |t::ts,us,s,θ,ha,hU,hu=>by
  subst hu;obtain⟨s1,h1,h2⟩:=cM T (u:=oS θ t) ha (hU t (by simp)) rfl;obtain⟨s2,h3,h4⟩:=aK ts _ s1 θ h2 (fun t' h=>hU t' (by simp[h])) rfl;refine⟨s2,?_,h4⟩;simp only[CU,C3,h1,IQ];exact h3
theorem ZQ {s s' t u}(ht:U t)(h:J3 s (e t) (e u)=some s'):EF s s'/\IR e s' t u:=by
 unfold J3 at h;rw[T.var t ht]at h;unfold IR;split at h
 ·rename_i hv;rw[if_pos hv];split at h
  ·rename_i hs;split at h
   ·rename_i hb;cases h;exact⟨EF.refl _,hs,hb⟩
   ·cases h
  ·rename_i hs;cases h;refine⟨fun k hk=>?_,by simp[Zj],by simp[Zj]⟩;have:k≠(e t).2.toNat:=fun e=>hs (e ▸ hk);simp[this,hk]
 ·rename_i hv;rw[if_neg hv];split at h
  ·rename_i hb;cases h;exact⟨EF.refl _,hb⟩
  ·cases h
theorem U9:∀(ts us:List Tx) (s s':Sw),(∀t∈ts,U t)->C3 s (ts.map e) (us.map e)=some s'->EF s s'/\∀(i:Nat) (t u:Tx),ts[i]?=some t->us[i]?=some u->IR e s' t u
 |[],us,s,s',_,h=>by
  simp only[KO,C3]at h;cases h;exact⟨EF.refl _,fun i t u ht=>by simp at ht⟩
 |t::ts,[],s,s',_,h=>by simp[C3]at h
 |t::ts,u::us,s,s',hU,h=>by
  simp only[CU,C3]at h;cases h1:J3 s (e t) (e u)with
  |none=>rw[h1]at h;cases h
  |some s1=>
   rw[h1]at h;simp only[IQ]at h;obtain⟨g1,b1⟩:=ZQ T (hU t (by simp)) h1;obtain⟨g2,b2⟩:=U9 ts us s1 s' (fun t' h=>hU t' (by simp[h])) h;refine⟨g1.trans g2,fun i t' u' ht hu=>?_⟩;cases i with
   |zero=>simp at ht hu;subst ht;subst hu;exact b1.grow g2
   |succ i=>simp at ht hu;exact b2 i t' u' ht hu
theorem dF (N)(left:List AC)(θ):∀(lits:List AC) (s:Sw),PF e U s θ->(∀a∈lits,∀t∈a.A,U t)->(∀a∈lits,∃b∈left,gB θ a b)->∃s',Hn (left.map (Hb e N)) (lits.map (Hb e N)) s=some s'
 |[],s,_,_,_=>⟨s,by simp[Hn]⟩
 |a::lits,s,ha,hU,hl=>by
  obtain⟨b,hb,h1,h2,h3⟩:=hl a (by simp);obtain⟨s1,w1,a1⟩:=aK T a.A b.A s θ ha (hU a (by simp)) h3;obtain⟨s2,o2⟩:=dF N left θ lits s1 a1 (fun a' h=>hU a' (by simp[h])) (fun a' h=>hl a' (by simp[h]));simp only[CU,Hn];have aa:(left.map (Hb e N)).findSome? (fun b=>if b.nt=(Hb e N a).nt/\(Hb e N a).pr=b.pr then (C3 s (Hb e N a).es b.es).bind (Hn (left.map (Hb e N)) (lits.map (Hb e N)))else none)≠none:=by
   intro hn;rw[List.findSome?_eq_none_iff]at hn;have:=hn (Hb e N b) (AO.2 ⟨b,hb,rfl⟩);rw[if_pos ⟨h1.symm,by simp[Hb,h2]⟩]at this;have w1':C3 s (Hb e N a).es (Hb e N b).es=some s1:=w1;rw[w1',IQ,o2]at this;cases this
  exact Option.ne_none_iff_exists'.1 aa
theorem mO (N)(left:List AC):∀(lits:List AC) (s s':Sw),(∀a∈lits,a.B∈N/\∀t∈a.A,U t)->(∀b∈left,b.B∈N)->Hn (left.map (Hb e N)) (lits.map (Hb e N)) s=some s'->EF s s'/\∀a∈lits,∃b∈left,a.nt=b.nt/\a.B=b.B/\∀(i:Nat) (t u:Tx),a.A[i]?=some t->b.A[i]?=some u->IR e s' t u
 |[],s,s',_,_,h=>by
  simp only[KO,Hn]at h;cases h;exact⟨EF.refl _,fun a h=>by cases h⟩
 |a::lits,s,s',hU,hN,h=>by
  simp only[CU,Hn]at h;rw[List.findSome?_eq_some_iff]at h;obtain⟨l1,c,l2,hl,hc,-⟩:=h;have ac:c∈left.map (Hb e N):=by rw[hl];simp
  obtain⟨b,hb,rfl⟩:=AO.1 ac;split at hc
  ·rename_i aa;cases hw:C3 s (Hb e N a).es (Hb e N b).es with
   |none=>rw[hw]at hc;cases hc
   |some s1=>
    rw[hw]at hc;simp only[IQ]at hc;obtain⟨g1,b1⟩:=U9 T a.A b.A s s1 (hU a (by simp)).2 hw;obtain⟨g2,b2⟩:=mO N left lits s1 s' (fun a' h=>hU a' (by simp[h])) hN hc;refine⟨g1.trans g2,fun a' ab=>?_⟩;rcases BB.1 ab with rfl|ab
    ·exact⟨b,hb,aa.1.symm,Eh (hU _ (by simp)).1 (hN b hb) aa.2,fun i t u ht hu=>(b1 i t u ht hu).grow g2⟩
    ·exact b2 a' ab
  ·cases hc
end
theorem aJ {e U}(T:GP e U)(ts:List Tx)(hU:∀t∈ts,U t):∃s,C3 Mv (ts.map e) (ts.map e)=some s/\(∀θ:Tx->Tx,(∀t∈ts,Ac t=true->θ t=t)->∀t,U t->Ac t=true->s.1 (Zj e t)=true->t∈ts)/\∀t∈ts,IR e s t t:=by
 have key:∀(us:List Tx) (s:Sw),(∀t∈us,U t)->(∀t,U t->Ac t=true->s.1 (Zj e t)=true->s.2 (Zj e t)=e t)->∃s',C3 s (us.map e) (us.map e)=some s'/\(∀t,U t->Ac t=true->s'.1 (Zj e t)=true->s'.2 (Zj e t)=e t/\(t∈us\/s.1 (Zj e t)=true)):=by
  intro us;induction us with
  |nil=>exact fun s _ ha=>⟨s,by simp[C3],fun t ht hv h=>⟨ha t ht hv h,.inr h⟩⟩
  |cons u us ih=>
   intro s hU ha;obtain⟨s1,h1,h2⟩:=cM T (θ:=fun t=>t) (t:=u) (u:=u) ha (hU u (by simp)) (by unfold oS;split<;>rfl);obtain⟨s2,h3,h4⟩:=ih s1 (fun t h=>hU t (by simp[h])) h2;refine⟨s2,by simp only[CU,C3,h1,IQ];exact h3,fun t ht hv h=>?_⟩;obtain⟨q1,q2⟩:=h4 t ht hv h;refine⟨q1,?_⟩;rcases q2 with q2|q2
   ·exact .inl (by simp[q2])
   ·unfold J3 at h1;rw[T.var u (hU u (by simp))]at h1;split at h1
    ·rename_i aa;split at h1
     ·split at h1
      ·cases h1;exact .inr q2
      ·cases h1
     ·cases h1;dsimp only at q2;by_cases he:Zj e t=(e u).2.toNat
      ·have:=T.same ht (hU u (by simp)) hv aa he;exact .inl (by simp[this])
      ·rw[if_neg he]at q2;exact .inr q2
    ·split at h1
     ·cases h1;exact .inr q2
     ·cases h1
 obtain⟨s,h1,h2⟩:=key ts Mv hU (fun t _ _ h=>by simp[Mv]at h);obtain⟨-,b1⟩:=U9 T ts ts Mv s hU h1;refine⟨s,h1,fun θ _ t ht hv h=>?_,fun t ht=>?_⟩
 ·rcases (h2 t ht hv h).2 with q|q
  ·exact q
  ·simp[Mv]at q
 ·obtain⟨i,hi⟩:=CO ht;exact b1 i t t hi hi
theorem Pr {e U}(T:GP e U)(N x k)(hN:∀a∈x.A,a.B∈N)(ae:∀t∈x.h.A,U t)(ac:∀a∈x.A,∀t∈a.A,U t)
  (hlen:∀a∈x.A,∀b∈x.A,a.B=b.B->Z a.A=Z b.A) (ab:∀t,U t->∀u,U u->e t=e u->t=u):
  ∃s0,C3 Mv (x.h.A.map e) (x.h.A.map e)=some s0/\((∃s',Hn ((x.A.eraseIdx k).map (Hb e N)) (x.A.map (Hb e N)) s0=some s')↔Tk x k):=by
 obtain⟨s0,h0,h1,h2⟩:=aJ T x.h.A ae;refine⟨s0,h0,?_,?_⟩
 ·rintro⟨s',aj⟩;have aa:∀b∈x.A.eraseIdx k,b∈x.A:=fun b hb=>FY hb;obtain⟨g,ad⟩:=mO T N (x.A.eraseIdx k) x.A s0 s' (fun a ha=>⟨hN a ha,ac a ha⟩) (fun b hb=>hN b (aa b hb)) aj;have hex:∀t:Tx,∃u:Tx,(U t/\Ac t=true/\∃u',U u'/\s'.2 (Zj e t)=e u')->(U u/\s'.2 (Zj e t)=e u):=fun t=>by
   by_cases h:U t/\Ac t=true/\∃u',U u'/\s'.2 (Zj e t)=e u'
   ·obtain⟨u,hu⟩:=h.2.2;exact⟨u,fun _=>hu⟩
   ·exact⟨t,fun h'=>absurd h' h⟩
  let θ:Tx->Tx:=fun t=>Classical.choose (hex t);have hθ:∀t u,U t->Ac t=true->U u->s'.2 (Zj e t)=e u->θ t=u:=fun t u ht hv hu h=>by
   obtain⟨q1,q2⟩:=Classical.choose_spec (hex t) ⟨ht,hv,u,hu,h⟩;exact ab _ q1 _ hu (q2.symm.trans h)
  refine⟨θ,fun t ht hv=>?_,fun a ha=>?_⟩
  ·have:=(h2 t ht).grow g;unfold IR at this;rw[if_pos hv]at this;exact hθ t t (ae t ht) hv (ae t ht) this.2
  ·obtain⟨b,hb,c1,c2,c3⟩:=ad a ha;have ai:=aa b hb;refine⟨b,hb,c1,c2,?_⟩;have hl:=hlen a ha b ai c2;apply FS;intro i;rw[EY];by_cases hi:i<Z a.A
   ·have e1:=AJ hi;have e2:=AJ (show i<Z b.A by omega);have ah:=ac a ha _ (AT hi);have af:=ac b ai _ (AT (show i<Z b.A by omega));have:=c3 i _ _ e1 e2;rw[e1,e2];simp only[GZ];congr 1;unfold IR at this;unfold oS;split
    ·rename_i hv;rw[if_pos hv]at this;exact hθ _ _ ah hv af this.2
    ·rename_i hv;rw[if_neg hv]at this;exact ab _ ah _ af this
   ·rw[FK AA,FK AA];rfl
 ·rintro⟨θ,t1,t2⟩;refine dF T N (x.A.eraseIdx k) θ x.A s0 (fun t ht hv h=>?_) ac t2;have hm:=h1 θ t1 t ht hv h;have:=h2 t hm;unfold IR at this;rw[if_pos hv]at this;rw[this.2,t1 t hm hv]
def F7 (x:AB)(k:Nat):AB:={o:=false,h:=x.h,A:=x.A.eraseIdx k}
def O8 (ls:List AC)(k n:Nat):List AC:=(ls.take n).eraseIdx k
theorem tW {ls k n a}(h:ls[n]?=some a)(hk:n≠k):O8 ls k (n+1)=O8 ls k n++[a]:=by
 have hn:=(BG.1 h).1;have hl:Z (ls.take n)=n:=by rw[CV];omega
 unfold O8;rw[AU,h,BJ];by_cases aa:k<n
 ·rw[List.eraseIdx_append_of_lt_length AA]
 ·rw[ME (by rw[AX,hl];simp;omega),ME AA]
theorem iP {ls k a}(h:ls[k]?=some a):O8 ls k (k+1)=O8 ls k k:=by
 have hn:=(BG.1 h).1;have hl:Z (ls.take k)=k:=by rw[CV];omega
 unfold O8;have e:(ls.take k).eraseIdx k=ls.take k:=ME AA;rw[e,AU,h,BJ,List.eraseIdx_append_of_length_le AA,hl,KB];simp
theorem tU (ls k n):Z (O8 ls k n)<=n:=by
 unfold O8;have h1:=ML (ls.take n) k;rw[CV]at h1;omega
theorem tV (ls k):O8 ls k (Z ls)=ls.eraseIdx k:=by unfold O8;rw[AS]
theorem Pd (N x c)(k:Nat)(hc:PI N x c)(hn:Z x.A<=1000)(σ):AF Tryz.prog 145 [ag c,ic k] σ fun r σ'=>∃c',r=ag c'/\PI N (F7 x k) c'/\AE σ σ':=by
 obtain⟨hm,ih,id,b,hb,rfl⟩:=hc;have a5:=EL.length Es hb;refine Z9 30 [.cell 4 125] Tryz.func145 ?_
 refine pz ?_
 refine Ae (fun m s σ'=>∃(n i3:Nat) (xs:List AV),m=Z x.A-n/\n<=Z x.A/\s 1=ic k/\s 4=ptr (σ.B+1) 0/\s 5=ptr (σ.B+2) 0/\s 12=sl id (Z x.A) b/\s 13=ic (Z x.A)/\s 14=ic n/\AE σ σ'/\σ.B+2<σ'.B/\σ'.C (σ.B+1)=[sc (.bool false),ic 0,nilS,nilS]/\σ'.C (σ.B+2)=[sc (.bool false),ic (N.idxOf x.h.B:Nat),sl ih (Z x.h.A) (A2 x.h.A),sl i3 (Z (O8 x.A k n)) xs]/\Own σ σ' i3 (Z (O8 x.A k n))/\Z xs=Z (O8 x.A k n)*3/\AD (EL (PL N) (O8 x.A k n) xs)) (Z x.A)
  ⟨0,1,[],AA,AA,by simp[upd,AM],AG,AG,AG,AG,rfl,Xs,BM,?_,?_,Own.nil _ _,by simp[O8],by simp[AD,O8,EL]⟩ ?_
 ·rw[Aj AA,Ah AK,Bg AK AK]
 ·rw[show σ.B+2=σ.B+1+1 by omega,Ak];simp[O8]
 rintro m s σ' ⟨n,i3,xs,rfl,a4,h1,h4,h5,a8,a7,a6,hK,a3,az,ai,hO,af,hX⟩;have a0:=hK.B;have an:=tU x.A k n;by_cases au:n<Z x.A
 ·have aa:=AJ au;obtain⟨ha,ia,r,hd⟩:=Pn hb aa;generalize x.A[n]=a at hd aa ha;have HG:AD (x.A[n]?=some a):=aa;clear aa;generalize aj:O8 x.A k n=wl at ai hO af hX an;have am:AD _:=aj;clear aj;by_cases ad:n=k
  ·have ap:((n:Int) !=(k:Int))=false:=by simp[ad]
   have ac:AD (O8 x.A k (n+1)=wl):=by
    rw[AD,<-am.o,ad];exact iP (by rw[<-ad];exact HG.o)
   clear ad
   refine pz ?_
   exact⟨Z x.A-(n+1),AA,n+1,i3,xs,rfl,AA,by simp,(hK.new _).put hK.B _,AA,by rw[ac.o],by rw[ac.o];exact Own.put (Own.new hO _) _ _,by rw[ac.o];exact af,by rw[AD,ac.o];exact hX.o⟩
  ·have ap:((n:Int) !=(k:Int))=true:=by simp;omega
   have ac:AD (O8 x.A k (n+1)=wl++[a]):=by
    rw[AD,<-am.o];exact tW HG.o ad
   clear ad
   refine qm ?_;intro yd yb
   refine Bn (by first|exact Fe) ((hK.new _).put hK.B _) (Own.put (Own.new hO _) _ _) (by decide) (by rfl) af (by rfl) (by rfl) (by decide) AA AA ?_;intro idn σn av aw ay ae ax ak;simp only[Ab,Aa]at ae;have ah:AD (Z (O8 x.A k (n+1))=Z wl+1):=by rw[AD,ac.o];simp
   refine Z3 ?_
   refine pz ?_
   refine⟨Z x.A-(n+1),AA,n+1,idn,xs++[sc (.bool a.nt),ic (N.idxOf a.B:Nat),sl ia (Z a.A) (A2 a.A)],rfl,AA,by simp,aw.put AA _,AA,by rw[ah.o],by rw[ah.o];exact Own.put av _ _,by rw[ah.o];simp;omega,?_⟩;rw[AD,ac.o];exact EL.append hX.o (EL.single ⟨ha,ia,rfl⟩)
 ·have ao:n=Z x.A:=AA;subst ao;rw[tV]at ai hX
  refine pz ?_
  exact⟨_,rfl,_,rfl,⟨hm,ih,i3,xs,hX.o,rfl⟩,hK.put AA _⟩
theorem aL (o):∃s b,Qw o=tp [ag (D7 s),sc (.bool b)]/\(b=false->o=none)/\(b=true->∃s',o=some s'):=by
 cases o with
 |none=>exact⟨Mv,false,rfl,fun _=>rfl,fun h=>by cases h⟩
 |some s=>exact⟨s,true,rfl,(fun h=>by cases h),fun _=>⟨s,rfl⟩⟩
def fB (L:List Lt)(rest:List Lt)(s:Sw)(x b:Lt):Option Sw:=if b.nt=x.nt/\x.pr=b.pr then (C3 s x.es b.es).bind (Hn L rest)else none
theorem pm {α β:Type}{f}{l:List α}{i:Nat}{b}{r:β}(h0:∀j,j<i->∀c,l[j]?=some c->f c=none)(hb:l[i]?=some b)(hf:f b=some r):l.findSome? f=some r:=by
 rw[List.findSome?_eq_some_iff];obtain⟨hi,rfl⟩:=BG.1 hb;refine⟨l.take i,l[i],l.drop (i+1),by rw[<-FJ hi,KJ],hf,fun c hc=>?_⟩;obtain⟨j,hj⟩:=CO hc;rw[II]at hj;split at hj
 ·rename_i aa;exact h0 j aa c hj
 ·cases hj
theorem zJ {α β:Type}{f:α->Option β}{l}(h0:∀j,j<Z l->∀c,l[j]?=some c->f c=none):l.findSome? f=none:=by
 rw[List.findSome?_eq_none_iff];intro c hc;obtain⟨j,hj⟩:=CO hc;exact h0 j (BG.1 hj).1 c hj
def QD (left:List AC)(a:AC):Prop:=Z a.A<=1000/\(∀t∈a.A,varOk t)/\∀b∈left,a.B=b.B->Z a.A=Z b.A
theorem yM (N left cl idl)(hL:EL (PL N) left cl)(cc:Z left<=1000):∀(lits:List AC) (cs:List AV) (ids:Nat) (s:Sw) (σ:St),EL (PL N) lits cs->Z lits<=1000->(∀a∈lits,QD left a)->
  AF Tryz.prog 148 [ag (D7 s),sl ids (Z lits) cs,sl idl (Z left) cl] σ fun r σ'=>r=Qw (Hn (left.map (Hb Ap N)) (lits.map (Hb Ap N)) s)/\AE σ σ':=by
 have b7:=Dc;have b6:=Q1;have b5:∀s,List.take 78 (D7 s)=D7 s:=fun s=>FW (by rw[Dc];exact AR _);have cb:∀s s',lsp (D7 s) 0 (D7 s')=D7 s':=fun s s'=>F3 (by rw[Dc,Dc]);have cd:∀s,(D7 s).all flat=true:=fun s=>by
  rw[EK];intro x hx;obtain⟨n,-,rfl⟩:=AO.1 hx;unfold kV;split
  ·rfl
  ·split<;>rfl
 have bu:=EL.length Es hL;intro lits;induction lits with
 |nil=>
  intro cs ids s σ hE _ _;have br:cs=[]:=hE;subst br;have hR:Qw (Hn (left.map (Hb Ap N)) (([]:List AC).map (Hb Ap N)) s)=tp [ag (D7 s),sc (.bool true)]:=rfl;rw[hR];clear hR;refine Z9 55 [.cell 6 154,.tmp 7] Tryz.func148 ?_
  refine pz ?_
  exact⟨_,rfl,rfl,Xs⟩
 |cons a lits ih=>
  intro cs ids s σ hE hn a4;have a6:=EL.length Es hE;obtain⟨c0,d,⟨bz,ia,rfl⟩,hd,rfl⟩:=hE;have ce:=EL.length Es hd;obtain⟨bw,bv,b0⟩:=a4 a (by simp);have ak:∀a∈lits,QD left a:=fun a' h=>a4 a' (by simp[h]);have bp:Z lits<=1000:=by simp at hn;omega
  have ih:=fun s σ=>ih d 0 s σ hd bp ak;clear a4 ak hn;have hR:AD (Hn (left.map (Hb Ap N)) ((a::lits).map (Hb Ap N)) s=(left.map (Hb Ap N)).findSome? (fB (left.map (Hb Ap N)) (lits.map (Hb Ap N)) s (Hb Ap N a))):=rfl;rw[hR.o];generalize bh:fB (left.map (Hb Ap N)) (lits.map (Hb Ap N)) s (Hb Ap N a)=fb;have bl:AD _:=bh;clear bh hR;simp only[BQ,FC,FM]at a6⊢;refine Z9 55 [.cell 6 154,.tmp 7] Tryz.func148 ?_
  refine pz ?_
  refine Ae (fun m s0 σ'=>∃i:Nat,m=Z left-i/\i<=Z left/\s0 1=sl ids (Z lits+1) (sc (.bool a.nt)::ic (N.idxOf a.B:Nat)::sl ia (Z a.A) (A2 a.A)::d)/\s0 2=sl idl (Z left) cl/\s0 3=ptr σ.B 0/\s0 6=ptr (σ.B+1) 0/\s0 8=ptr (σ.B+2) 0/\s0 21=sl idl (Z left) cl/\s0 22=ic (Z left)/\s0 23=ic i/\AE σ σ'/\σ.B+2<σ'.B/\σ'.C σ.B=D7 s/\σ'.C (σ.B+1)=D7 Mv/\σ'.C (σ.B+2)=[sc (.bool a.nt),ic (N.idxOf a.B:Nat),sl ia (Z a.A) (A2 a.A)]/\AD (∀j,j<i->∀c,(left.map (Hb Ap N))[j]?=some c->fb c=none)) (Z left)
   ⟨0,AA,AA,by simp[upd,AM],by simp[upd,AM],AG,AG,AG,AG,AG,rfl,Xs,by simp only[Aa,Ab];omega,?_,?_,?_,fun j hj=>AA⟩ ?_
  ·rw[Aj AA,Ah AK,Ah AK,Ao]
  ·rw[Aj AA,Ah AK,Bg AK AK]
  ·rw[show σ.B+2=σ.B+1+1 by omega,Ak]
  rintro m s0 σ' ⟨i,rfl,hi,h1,h2,h3,h6,h8,av,au,ap,hK,ca,ay,ax,aw,a8⟩;have b3:=hK.B;by_cases bf:i<Z left
  ·have ae:=AJ bf;have a7:=AT bf;have bg:=b0 left[i] a7;obtain⟨hb,ib,r,bq⟩:=Pn hL ae;have a9:(left.map (Hb Ap N))[i]?=some (Hb Ap N left[i]):=by rw[EY,ae];rfl
   generalize left[i]=b at bq ae hb bg a9 a7;have bi:AD _:=a9;clear ae a9 a7;have ac:AD (fb (Hb Ap N b)=none->∀j,j<i+1->∀c,(left.map (Hb Ap N))[j]?=some c->fb c=none):=fun h j hj c hc=>by
    by_cases e:j=i
    ·subst e;rw[bi.o]at hc;cases hc;exact h
    ·exact a8.o j AA c hc
   have bn:N.idxOf a.B=N.idxOf b.B->Z a.A=Z b.A:=fun h=>bg (Eh bz hb h);by_cases hnt:b.nt=a.nt
   ·have bo:(b.nt==a.nt)=true:=by simp[hnt]
    have ai:=fun σ=>aI s (N.idxOf a.B:Nat) (N.idxOf b.B:Nat) a.A b.A ia ib (fun h=>bn AA) bw bv σ;have am:AD (fb (Hb Ap N b)=(if ((N.idxOf a.B:Nat):Int)=((N.idxOf b.B:Nat):Int)then C3 s (a.A.map Ap) (b.A.map Ap)else none).bind (Hn (left.map (Hb Ap N)) (lits.map (Hb Ap N)))):=by
     rw[AD,<-bl.o];unfold fB Hb;dsimp only;by_cases hp:N.idxOf a.B=N.idxOf b.B
     ·rw[if_pos ⟨hnt,hp⟩,if_pos AA]
     ·rw[if_neg (fun h=>hp h.2),if_neg AA];rfl
    generalize (if ((N.idxOf a.B:Nat):Int)=((N.idxOf b.B:Nat):Int)then C3 s (a.A.map Ap) (b.A.map Ap)else none)=ow at ai am;cases ow with
    |none=>
     simp only[Qw]at ai;have a5:AD (fb (Hb Ap N b)=none):=am
     refine qb ?_;intro yd yb;refine Xi (ai _) ?_;rintro _ _ ⟨rfl,af⟩;(have ab:=af.C;have ah:=af.B;simp only[Aa,Ab]at ah);refine pz ?_
     exact⟨Z left-(i+1),AA,i+1,rfl,AA,by simp,(((((hK.new _).put hK.B _).trans af).new _).put AA _),AA,ac.o a5.o⟩
    |some s1=>
     simp only[Qw]at ai;have ao:=ih s1;obtain⟨sr,okr,a0,bd,bc⟩:=aL (Hn (left.map (Hb Ap N)) (lits.map (Hb Ap N)) s1);rw[a0]at ao;have HW:AD (Qw (fb (Hb Ap N b))=tp [ag (D7 sr),sc (.bool okr)]/\(okr=false->fb (Hb Ap N b)=none)/\(okr=true->∃s',fb (Hb Ap N b)=some s')):=by
      rw[AD,am.o];exact⟨a0,bd,bc⟩
     clear a0 bd bc am
     refine qb ?_;intro yd yb;refine Xi (ai _) ?_;rintro _ _ ⟨rfl,af⟩;(have ab:=af.C;have ah:=af.B;simp only[Aa,Ab]at ah);refine pz ?_
     rename_i σ2;have ba:AE σ ((σ2.new (D7 Mv)).put σ2.B (D7 s1)):=((((hK.new _).put hK.B _).trans af).new _).put AA _;have tno:((σ2.new (D7 Mv)).put σ2.B (D7 s1)).B=σ2.B+1:=rfl;have tob:((σ2.new (D7 Mv)).put σ2.B (D7 s1)).C σ2.B=D7 s1:=Ak;have tob0:((σ2.new (D7 Mv)).put σ2.B (D7 s1)).C σ.B=D7 s:=by rw[Aj AA,Ah AA,ab _ BM,Aj AA,Ah AA,ay]
     have tob1:((σ2.new (D7 Mv)).put σ2.B (D7 s1)).C (σ.B+1)=D7 Mv:=by rw[Aj AA,Ah AA,ab _ BM,Aj AA,Ah AA,ax]
     have tob2:((σ2.new (D7 Mv)).put σ2.B (D7 s1)).C (σ.B+2)=[sc (.bool a.nt),ic (N.idxOf a.B:Nat),sl ia (Z a.A) (A2 a.A)]:=by rw[Aj AA,Ah AA,ab _ BM,Aj AA,Ah AA,aw]
     generalize (σ2.new (D7 Mv)).put σ2.B (D7 s1)=τ at ba tno tob tob0 tob1 tob2;clear af ab ai ay ax aw hK;refine Az (Q:=fun e s' σ'=>e= .normal/\∃o:Nat,s' 1=sl ids (Z lits+1) (sc (.bool a.nt)::ic (N.idxOf a.B:Nat)::sl ia (Z a.A) (A2 a.A)::d)/\s' 2=sl idl (Z left) cl/\s' 3=ptr σ.B 0/\s' 6=ptr (σ.B+1) 0/\s' 8=ptr (σ.B+2) 0/\s' 21=sl idl (Z left) cl/\s' 22=ic (Z left)/\s' 23=ic i/\s' 12=sc (.bool okr)/\s' 13=ptr o 0/\τ.B<=o/\o<σ'.B/\σ'.C o=D7 sr/\AE τ σ') ?_ ?_
     ·refine Aq Ag (fun _=>True) [10] [0,1,2,3] 7 #[true,true,true,true,false,false,false,false,false,false,false] AH (fun _ _ _ h=>by cases h.1) ?_;intro yd yb;refine Z3 ?_;refine yb.o _ ?_;clear yb yd;refine Eo (rs:=[4,8]) AH (by simp) ?_;intro j hj;simp only[BB,EN,DY]at hj;rcases hj with rfl|rfl
      ·refine Am ?_;intro yd yb;refine Z3 ?_;refine AF.mono (ao _) ?_;rintro _ σ5 ⟨rfl,KK⟩;have aj:=KK.B;refine Z3 ?_;refine yb.o _ _ ⟨Al KK,?_⟩;clear yb yd;refine Ed (i:=5) _ (tp [ag (D7 sr),sc (.bool okr)]) rfl rfl rfl rfl rfl AH AH (fun _ _ _ h=>by cases h.1) (fun o ho _=>KK.ver o ho) ?_;refine Ed (i:=6) _ (ag (D7 sr)) rfl rfl rfl rfl rfl AH AH (fun _ _ _ h=>by cases h.1) (fun o ho _=>KK.ver o ho) ?_;refine Ed (i:=7) _ (sc (.bool okr)) rfl rfl rfl rfl rfl AH AH (fun _ _ _ h=>by cases h.1) (fun o ho _=>KK.ver o ho) ?_;refine Ai (i:=8) AH ?_;refine Am ?_;intro yd yb;refine Z3 ?_;refine yb.o _ _ ⟨Al (KK.new _),?_⟩;clear yb yd;refine Ai (i:=9) AH ?_;refine Am ?_;intro yd yb;refine Z3 ?_;refine yb.o _ _ ⟨Al ((KK.new _).put AA _),?_⟩;clear yb yd;refine Ai (i:=10) AH ?_;refine Am ?_;intro yd yb;refine Z3 ?_;refine yb.o _ _ ⟨A5 rfl,?_⟩;clear yb yd;refine Ax AH ⟨rfl,σ5.B,by simp[upd,BI,h1],by simp[upd,BI,h2],by simp[upd,BI,h3],by simp[upd,BI,h6],by simp[upd,BI,h8],by simp[upd,BI,av],by simp[upd,BI,au],by simp[upd,BI,ap],by simp[upd,BI],by simp[upd,BI],AA,BM,Ak,(KK.new _).put AA _⟩
      ·refine Am ?_;intro yd yb;refine Z3 ?_;refine yb.o _ _ ⟨Al ((AE.refl _).new _),?_⟩;clear yb yd;refine Ai (i:=4) AH ?_;refine Am ?_;intro yd yb;refine Z3 ?_;refine AF.mono (ao _) ?_;rintro _ σ5 ⟨rfl,bb⟩;have az:=bb.C;have aj:=bb.B;simp only[Aa]at aj;have b2:σ5.C τ.B=D7 Mv:=by rw[az _ (by rw[Aa];omega),Ao]
       have KK:=((AE.refl τ).new (D7 Mv)).trans bb;refine Z3 ?_;refine yb.o _ _ ⟨Al KK,?_⟩;clear yb yd;refine Ed (i:=5) _ (tp [ag (D7 sr),sc (.bool okr)]) rfl rfl rfl rfl rfl AH AH (fun _ _ _ h=>by cases h.1) (fun o ho _=>KK.ver o ho) ?_;refine Ed (i:=6) _ (ag (D7 sr)) rfl rfl rfl rfl rfl AH AH (fun _ _ _ h=>by cases h.1) (fun o ho _=>KK.ver o ho) ?_;refine Ed (i:=7) _ (sc (.bool okr)) rfl rfl rfl rfl rfl AH AH (fun _ _ _ h=>by cases h.1) (fun o ho _=>KK.ver o ho) ?_;refine Ai (i:=9) AH ?_;refine Am ?_;intro yd yb;refine Z3 ?_;refine yb.o _ _ ⟨Al (KK.put AA _),?_⟩;clear yb yd;refine Ai (i:=10) AH ?_;refine Am ?_;intro yd yb;refine Z3 ?_;refine yb.o _ _ ⟨A5 rfl,?_⟩;clear yb yd;refine Ax AH ⟨rfl,σ2.B+1,by simp[upd,BI,h1],by simp[upd,BI,h2],by simp[upd,BI,h3],by simp[upd,BI,h6],by simp[upd,BI,h8],by simp[upd,BI,av],by simp[upd,BI,au],by simp[upd,BI,ap],by simp[upd,BI],by simp[upd,BI],AA,by simp only[Ab];omega,Ak,KK.put AA _⟩
     ·clear h1 h2 h3 h6 h8 av au ap;rintro e s' σ6 ⟨rfl,o,h1,h2,h3,h6,h8,av,au,ap,cg,cf,b4,b8,b9,an⟩;have ad:=an.C;have bm:=an.B;have b1:=ba.trans an;have ay:σ6.C σ.B=D7 s:=by rw[ad _ AA,tob0]
      have ax:σ6.C (σ.B+1)=D7 Mv:=by rw[ad _ AA,tob1]
      have aw:σ6.C (σ.B+2)=[sc (.bool a.nt),ic (N.idxOf a.B:Nat),sl ia (Z a.A) (A2 a.A)]:=by rw[ad _ AA,tob2]
      clear ad tob tob0 tob1 tob2 an ba ao ih;cases okr with
      |true=>
       refine pz ?_
       obtain⟨s2,be⟩:=HW.o.2.2 rfl;refine⟨_,rfl,?_,b1.put AA _⟩;rw[pm a8.o bi.o be,<-be,HW.o.1]
      |false=>
       refine pz ?_
       exact⟨Z left-(i+1),AA,i+1,rfl,AA,by simp,AA,ac.o (HW.o.2.1 rfl)⟩
   ·have bo:(b.nt==a.nt)=false:=by simpa using hnt
    have a5:AD (fb (Hb Ap N b)=none):=by
     rw[AD,<-bl.o];unfold fB Hb;exact if_neg (fun h=>hnt h.1)
    clear hnt
    refine pz ?_
    exact⟨Z left-(i+1),AA,i+1,rfl,AA,by simp,(hK.new _).put hK.B _,AA,ac.o a5.o⟩
  ·have hil:i=Z left:=AA;subst hil;have a3:AD ((left.map (Hb Ap N)).findSome? fb=none):=zJ (by rw[BP];exact a8.o)
   refine pz ?_
   exact⟨_,rfl,by rw[a3.o];rfl,hK.put AA _⟩
def Hl (e:Bool×Int):Tx:=if e.1=true then [UInt8.ofNat (IntKind.u8.wrap (65+e.2)).toNat]else Lib.itoa e.2
def RR (e:Bool×Int):Prop:=0<=e.2/\(e.1=true->e.2<26)/\e.2<=999/\Z (Hl e)<=1000
theorem jJ (e)(h:RR e)(σ):AF Tryz.prog 149 [ag [sc (.bool e.1),ic e.2]] σ fun r σ'=>r=str (Hl e)/\AE σ σ':=by
 have ab:∀z:UInt8,({data:=#[z]}:ByteArray)=bs [z]:=fun _=>rfl;obtain⟨b,v⟩:=e;obtain⟨h0,h1,h2,-⟩:=h;dsimp only at h0 h1 h2⊢;cases b with
 |true=>
  have h1:=h1 rfl;have hL:AD (Hl (true,v)=[UInt8.ofNat (IntKind.u8.wrap (65+v)).toNat]):=rfl;refine Z9 14 [.tmp 2] Tryz.func149 ?_
  refine p6 ?_
  exact⟨_,rfl,by rw[hL.o],Xs⟩
 |false=>
  have hI:=fun σ=>dN v h0 AA σ;have hL:AD (Hl (false,v)=Lib.itoa v):=rfl;generalize Lib.itoa v=w at hI hL;refine Z9 14 [.tmp 2] Tryz.func149 ?_
  repeat' first|refine Z1 ?_|refine Z8 fun yd yb=>?_|refine Z4 ?_;clear yb yd|refine Z2 ?_ ?_<;>intro h aa<;>try exact Xp|refine Z5 ?_;refine Xi (hI _) ?_;rintro _ _ ⟨rfl,rfl⟩|refine Z7 ?_|exact Zt|apply yb.o;clear yb yd
  exact⟨_,rfl,by rw[hL.o],Xs⟩
theorem Vi (ts t):Bu (ts++[t])=Bu ts++((if ts=[]then []else [44])++t):=by
 cases ts with
 |nil=>simp[Bu,Cg]
 |cons u ts=>simp[Bu,Cg]
def My (N:List Tx)(y:AB)(k:Nat)(s0:Sw):Option Sw:=if Gg (F7 y k)=true then Hn ((y.A.eraseIdx k).map (Hb Ap N)) (y.A.map (Hb Ap N)) s0 else none
theorem U8 {y k}(h:y.fits):(F7 y k).fits:=
 ⟨BO (ML _ _) h.1,h.2.1,fun a ha=>h.2.2 a (FY ha)⟩
theorem lT (N y c k s0)(hc:PI N y c)(hf:y.fits)(a5:C3 Mv (y.h.A.map Ap) (y.h.A.map Ap)=some s0)(hv:∀t∈y.h.A,varOk t)(a6:∀a∈y.A,QD (y.A.eraseIdx k) a)(σ):
  AF Tryz.prog 94 [ag c,ic k] σ fun r σ'=>r=Qw (My N y k s0)/\AE σ σ':=by
 have bb:=Dc;have ba:=Q1;have a9:∀s,List.take 78 (D7 s)=D7 s:=fun s=>FW (by rw[Dc];exact AR _);have bc:∀s s',lsp (D7 s) 0 (D7 s')=D7 s':=fun s s'=>F3 (by rw[Dc,Dc]);have bd:∀s,(D7 s).all flat=true:=fun s=>by
  rw[EK];intro x hx;obtain⟨n,-,rfl⟩:=AO.1 hx;unfold kV;split
  ·rfl
  ·split<;>rfl
 have ax:=fun σ=>Pd N y c k hc hf.1 σ;have aj:=fun c' a8 σ=>W2 N (F7 y k) c' a8 (fun h=>by cases h) (U8 hf) σ;have av:=hf.1;obtain⟨hm,ih,id,b,hb,rfl⟩:=hc;have ai:=fun i1 i2 σ=>aI Mv (N.idxOf y.h.B:Nat) (N.idxOf y.h.B:Nat) y.h.A y.h.A i1 i2 (fun _=>rfl) hf.2.1 hv σ;rw[if_pos rfl,a5]at ai;simp only[Qw]at ai;have au:=fun cl idl hL ids σ=>yM N (y.A.eraseIdx k) cl idl hL (BO (ML _ _) av) y.A b ids s0 σ hb av a6;obtain⟨sr,okr,af,-,-⟩:=aL (Hn ((y.A.eraseIdx k).map (Hb Ap N)) (y.A.map (Hb Ap N)) s0);rw[af]at au;cases ah:Gg (F7 y k)with
 |false=>
  have HR:AD (Qw (My N y k s0)=tp [ag (D7 Mv),sc (.bool false)]):=by rw[AD,My,if_neg (by rw[ah];simp)];rfl
  rw[ah]at aj;clear au ai af;refine Z9 33 [.cell 4 154,.tmp 5] Tryz.func94 ?_
  repeat' first|refine Z1 ?_|refine Z8 fun yd yb=>?_|refine Z4 ?_;clear yb yd|refine Z2 ?_ ?_<;>intro h ao<;>try exact Xp|(refine Z5 ?_;first|(refine Xi (ax _) ?_;rintro _ _ ⟨c2,rfl,ac,ae⟩;(have am:=ae.C;have ab:=ae.B;simp only[Aa]at ab;have ap:=aj c2 ac;obtain⟨a7,ih2,id2,b2,aw,rfl⟩:=ac))|(refine Xi (ap _) ?_;rintro _ _ ⟨rfl,ad⟩;(have ak:=ad.C;have aa:=ad.B;simp only[Aa,Ab]at aa)))|refine Z7 ?_|exact Zt|apply yb.o;clear yb yd
  exact⟨_,rfl,by rw[HR.o],Xs⟩
 |true=>
  have HR:AD (Qw (My N y k s0)=tp [ag (D7 sr),sc (.bool okr)]):=by rw[AD,My,if_pos ah];exact af
  rw[ah]at aj;clear af;refine Z9 33 [.cell 4 154,.tmp 5] Tryz.func94 ?_
  repeat' first|refine Z1 ?_|refine Z8 fun yd yb=>?_|refine Z4 ?_;clear yb yd|refine Z2 ?_ ?_<;>intro h ao<;>try exact Xp|(refine Z5 ?_;first|(refine Xi (ax _) ?_;rintro _ _ ⟨c2,rfl,ac,ae⟩;(have am:=ae.C;have ab:=ae.B;simp only[Aa]at ab;have ap:=aj c2 ac;obtain⟨a7,ih2,id2,b2,aw,rfl⟩:=ac))|(refine Xi (ap _) ?_;rintro _ _ ⟨rfl,ad⟩;(have ak:=ad.C;have aa:=ad.B;simp only[Aa,Ab]at aa))|(refine Xi (ai _ _ _) ?_;rintro _ _ ⟨rfl,az⟩;(have a3:=az.C;have a4:=az.B))|(refine Xi (au _ _ aw _ _) ?_;rintro _ _ ⟨rfl,ay⟩;(have a0:=ay.C;have an:=ay.B;simp only[Aa,Ab]at an)))|refine Z7 ?_|exact Zt|apply yb.o;clear yb yd
  exact⟨_,rfl,by rw[HR.o],Xs⟩
end Go.Proofs.YtmoeoppbmhfbpabGreatDoorI
