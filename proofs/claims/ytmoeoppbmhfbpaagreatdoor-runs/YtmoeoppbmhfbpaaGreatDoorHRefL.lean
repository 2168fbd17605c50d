import Derived.Test.YtmoeoppbmhfbpaaGreatDoorHRefA
import Derived.Test.YtmoeoppbmhfbpaaGreatDoorHRefG
set_option maxHeartbeats 16000000
set_option maxRecDepth 100000
set_option linter.all false
namespace Go.Proofs.YtmoeoppbmhfbpaaGreatDoorH
open Go.Abs
def Mh:List UInt8->Bool
 |[]=>false
 |b::_=>(b.toNat:Int)==63
def gZ (t:List UInt8):RItem:={out:=true,head:={nt:=false,pred:=(t.drop 1).take (t.length-1),terms:=[]},body:=[]}
def P2 (t:List UInt8):RItem:=
 {out:=false,head:=De ((t.drop 0).take (Bt t 58-0)),body:=if Bt t 58<t.length then (E9 ((t.drop (Bt t 58+2)).take (t.length-(Bt t 58+2))) 44).map De else []}
def G6 (t:List UInt8):RItem:=if Mh t then gZ t else P2 t
def Fi (s:List UInt8):List RItem:=(E9 s 46).map G6
def lF (t:List UInt8):Prop:=t.length<=1000/\t≠[]/\(Mh t=false->Bt t 58<t.length->Bt t 58+2<=t.length)
theorem Gg {α β:Type}{l:List α}{k:Nat}{a:α}(f:α->β)(h:l[k]?=some a):(l.take (k+1)).map f=(l.take k).map f++[f a]:=by
 rw[Aa8,h];simp
theorem J3 (c:Int):∀(s:List UInt8) (d:Bool) (cur:List UInt8),∀t∈Bn c s d cur,t.length<=cur.length+s.length
 |[],d,cur=>by
  unfold Bn;split
  ·intro t ht;cases ht
  ·intro t ht;simp at ht;subst ht;simp
 |b::r,d,cur=>by
  unfold Bn
  all_goals
   simp only[];generalize (if ((b.toNat:Int)==41)=true then false else _)=d2;split
   ·intro t ht;rcases Acd.1 ht with rfl|ht
    ·simp
    ·have:=J3 c r d2 [] t ht;simp at this⊢;omega
   ·intro t ht;have:=J3 c r d2 (cur++[b]) t ht;simp at this⊢;omega
theorem J1 {s:List UInt8}{c:Int}{t:List UInt8}(h:t∈E9 s c):t.length<=s.length:=by
 have:=J3 c s false [] t h;simpa using this
theorem J2 {s:List UInt8}{c:Int}:(E9 s c).length<=s.length+1:=Iu c s false []
theorem Mt (s:List UInt8)(hs:s.length<=1000)(hc:(E9 s 46).length<=1000)(hp:∀t∈E9 s 46,lF t)(z:St):ACalls Tryz.prog 88 [str s] z fun r z'=>∃id cs,r=sl id (Fi s).length cs/\EL EItem (Fi s) cs/\Keep z z':=by
 refine Z9 70 [.tmp 2] Tryz.func88 ?_
 repeat' (first|refine Z1 ?_|(refine Z8 ?_;intro ya J)|(refine Z4 ?_;clear J ya)|(refine Z2 ?_ ?_<;>intro h ae<;>try exact Xp)|(refine Z6 ?_;intro idn zn af ah ad ab ac aa)|(refine Z5 ?_;refine Xi (K3 s _ Ad2 _) ?_;rintro _ _ ⟨idt,rfl,az⟩)|refine Z3 ?_|exact Zt|(apply J.out;clear J ya))
 rename_i z1;unfold Fi;generalize E9 s 46=ts at hc hp
 refine Ab (fun m s z'=>∃(i ids:Nat) (ss:List AV),m=ts.length-i/\i<=ts.length/\s 3=sl ids i ss/\s 4=sl idt ts.length (ts.map str)/\s 5=sc (.int .i64 i)/\Keep z z'/\Own z z' ids i/\EL EItem ((ts.take i).map G6) ss) ts.length
  ⟨0,1,[],Ad2,Ad2,rfl,rfl,rfl,az,Own.nil _ _,rfl⟩ ?_
 rintro m s z' ⟨i,ids,ss,rfl,hi,h3,h4,h5,hK,hO,hS⟩;clear az;have au:=EL.length Cb hS;simp only[Ace,Abk,Abp hi]at au;have HS:Ad8 (EL EItem ((ts.take i).map G6) ss):=hS;clear hS;by_cases aw:i<ts.length
 ·have a3:=Bc aw;obtain⟨p1,p2,p3⟩:=hp ts[i] (Ab1 aw);have HX:Ad8 (ts[i]?=some ts[i]):=Aav aw;generalize ts[i]=t at a3 p1 p2 p3 HX;have bc:=Oc t 58;cases t with
  |nil=>exact absurd rfl p2
  |cons b r=>
   have a4:(b::r)[0]?=some b:=rfl;simp only[Abv]at p1 p3 bc;by_cases am:((b.toNat:Int)==63)=true
   ·repeat' (first|refine Z1 ?_|(refine Z8 ?_;intro ya J)|(refine Z4 ?_;clear J ya)|(refine Z2 ?_ ?_<;>intro h ae<;>try exact Xp)|(refine Z6 ?_;intro idn zn af ah ad ab ac aa)|refine Z3 ?_|exact Zt|(apply J.out;clear J ya))
    refine⟨ts.length-(i+1),Ad2,i+1,idn,_,rfl,Ad2,rfl,by simp,af,?_⟩;rw[Gg G6 HX.out];refine HS.out.append (EL.single ?_);have hi:G6 (b::r)=gZ (b::r):=by unfold G6;rw[if_pos (by exact am)]
    rw[hi];exact⟨_,1,[],⟨1,rfl⟩,rfl,by simp[gZ]⟩
   ·have am:((b.toNat:Int)==63)=false:=by simpa using am
    have HI:Ad8 (G6 (b::r)=P2 (b::r)):=by unfold Ad8 G6;rw[if_neg (by simp[Mh];simpa using am)]
    have p4:=p3 am;clear p3;by_cases ax:Bt (b::r) 58<r.length+1
    ·have p5:=p4 ax;clear p4
     repeat' (first|refine Z1 ?_|(refine Z8 ?_;intro ya J)|(refine Z4 ?_;clear J ya)|(refine Z2 ?_ ?_<;>intro h ae<;>try exact Xp)|(refine Z6 ?_;intro idn zn af ah ad ab ac aa)|(refine Z5 ?_;first|(refine Xi (Lo _ _ (by first|omega|(simp;omega)) _) ?_;rintro _ _ ⟨rfl,rfl⟩)|(refine Xi (Ps _ (by first|omega|(simp;omega)) _) ?_;rintro _ _ ⟨_,rfl,⟨ia,rfl⟩,ai⟩;(have ka:=ai.nobj))|(refine Xi (K3 _ _ (by first|omega|(simp;omega)) _) ?_;rintro _ _ ⟨idc,rfl,ao⟩;(have ko:=ao.obj _ (by rw[Ac,Aa];exact Nat.lt_succ_self _);rw[Ak]at ko;have kc:=ao.nobj;simp only[Ac,Aa]at kc)))|refine Z3 ?_|exact Zt|(apply J.out;clear J ya))
     rename_i z2 za zc;rw[show ((Bt (b::r) 58:Nat)+2:Int).toNat=Bt (b::r) 58+2 by omega];have ay:=@J2 (List.take (r.length+1-(Bt (b::r) 58+2)) (List.drop (Bt (b::r) 58+2) (b::r))) 44;have av:=fun t=>@J1 (List.take (r.length+1-(Bt (b::r) 58+2)) (List.drop (Bt (b::r) 58+2) (b::r))) 44 t;have a7:(List.take (r.length+1-(Bt (b::r) 58+2)) (List.drop (Bt (b::r) 58+2) (b::r))).length<=1000:=by simp;omega
     have HR:Ad8 (P2 (b::r)={out:=false,head:=De (List.take (Bt (b::r) 58) (b::r)),body:=(E9 (List.take (r.length+1-(Bt (b::r) 58+2)) (List.drop (Bt (b::r) 58+2) (b::r))) 44).map De}):=by
      unfold Ad8 P2;rw[if_pos (by simpa using ax)];simp
     generalize E9 (List.take (r.length+1-(Bt (b::r) 58+2)) (List.drop (Bt (b::r) 58+2) (b::r))) 44=ms at ay av HR;generalize (List.take (r.length+1-(Bt (b::r) 58+2)) (List.drop (Bt (b::r) 58+2) (b::r))).length=lq at ay av a7;generalize De (List.take (Bt (b::r) 58) (b::r))=hd at ko HR ao;have ap:Keep za zc:=(((Keep.refl za).new _).put (Aak _) _).trans ao;have bi:Keep z za:=hK.trans ai;have bf:Own z za ids i:=hO.keep ai
     refine Ab (fun m s z'=>∃(k idb:Nat) (bb:List AV),m=ms.length-k/\k<=ms.length/\s 3=sl ids i ss/\s 4=sl idt ts.length (ts.map str)/\s 5=sc (.int .i64 i)/\s 8=ptr za.nobj 0/\s 9=sl idc ms.length (ms.map str)/\s 10=sc (.int .i64 k)/\Keep za z'/\Own za z' idb k/\z'.obj za.nobj=[sc (.bool false),sc (.bool hd.nt),str hd.pred,sl ia hd.terms.length (hd.terms.map str),sl idb k bb]/\za.nobj<z'.nobj/\Ad8 (EL Be ((ms.take k).map De) bb)) ms.length
      ⟨0,1,[],Ad2,Ad2,by simp[upd,h3],by simp[upd,h4],by simp[upd,h5],Ad4,Ad4,rfl,ap,Own.nil _ _,ko,Ad2,rfl⟩ ?_
     clear ap ao ko kc h3 h4 h5 hK ai hO ka;rintro m s z' ⟨k,idb,bb,rfl,hk,h3,h4,h5,h8,h9,bk,hK,hO,ho,hn,hB⟩;have an:=EL.length Ba hB.out;simp only[Ace,Abk,Abp hk]at an;by_cases aj:k<ms.length
     ·have a5:=Bc aj;have a6:=av ms[k] (Ab1 aj);have HM:Ad8 (ms[k]?=some ms[k]):=Aav aj;generalize ms[k]=t at a5 a6 HM
      repeat' (first|refine Z1 ?_|(refine Z8 ?_;intro ya J)|(refine Z4 ?_;clear J ya)|(refine Z2 ?_ ?_<;>intro h ae<;>try exact Xp)|(refine Z6 ?_;intro idn zn af ah ad ab ac aa)|refine Z3 ?_|exact Zt|(apply J.out;clear J ya))
      refine Aq Ad (fun _=>True) [10] [0,1,2,3,4,5] [6,7,8,9,10] Ad5 (fun _ _ _ h=>h) ?_;intro ya J;refine Z3 ?_
      repeat' (first|refine Z1 ?_|(refine Z8 ?_;intro ya J)|(refine Z4 ?_;clear J ya)|(refine Z2 ?_ ?_<;>intro h ae<;>try exact Xp)|(refine Z6 ?_;intro idn zn af ah ad ab ac aa)|(refine Z5 ?_;refine Xi (Ps _ Ad2 _) ?_;rintro _ _ ⟨_,rfl,⟨it,rfl⟩,ak⟩;(have kt:=ak.obj _ hn;rw[ho]at kt;have ktn:=ak.nobj;have bh:=hK.trans ak;have be:=hO.keep ak))|refine Z3 ?_|exact Zt|(apply J.out;clear J ya))
      refine And.intro (Ap (ak.lay 1)) ?_;refine C4 (by first|exact G8|exact Nj) bh be (by decide) (by rfl) an (by rfl) (by rfl) (by decide) Ad2 Ad2 ?_;intro idn zn af ah ad ab ac aa;have a9:∀q,Kept (fun j=>![10].contains j) (fun x=>True) z' q zn:=fun q _ o ho _=>by rw[ac];exact ak.ver o ho
      have bj:zn.obj za.nobj=[sc (.bool false),sc (.bool hd.nt),str hd.pred,sl ia hd.terms.length (hd.terms.map str),sl idb k bb]:=by rw[ad];exact kt
      refine Z3 ?_
      repeat' (first|(refine And.intro (a9 _) ?_)|(refine And.intro (Bz rfl) ?_))
      repeat' (first|refine Z1 ?_|(refine Z8 ?_;intro ya J)|(refine Z4 ?_;clear J ya)|(refine Z2 ?_ ?_<;>intro h ae<;>try exact Xp)|(refine Z6 ?_;intro idn zn af ah ad ab ac aa)|refine Z3 ?_|exact Zt|(apply J.out;clear J ya))
      have a0:EL Be ((ms.take (k+1)).map De) (bb++[sc (Value.bool (De t).nt),str (De t).pred,sl it (De t).terms.length (List.map str (De t).terms)]):=by
       rw[Gg De HM.out];exact hB.out.append (EL.single ⟨_,rfl⟩)
      first
      |exact⟨ms.length-(k+1),Ad2,k+1,idn,_,rfl,Ad2,by simp,ah.put (Aak _) _,af,rfl,a0⟩
      |exact⟨ms.length-(k+1),Ad2,k+1,idn,_,rfl,Ad2,by simp,ah.put (Aak _) _,af,rfl,Ad2,a0⟩
     ·have a8:k=ms.length:=Ad2;subst a8;rw[Aa3]at hB;have bg:=bi.trans hK;have bd:=bf.keep hK;clear hK hO
      repeat' (first|refine Z1 ?_|(refine Z8 ?_;intro ya J)|(refine Z4 ?_;clear J ya)|(refine Z2 ?_ ?_<;>intro h ae<;>try exact Xp)|(refine Z6 ?_;intro idn zn af ah ad ab ac aa)|refine Z3 ?_|exact Zt|(apply J.out;clear J ya))
      refine⟨ts.length-(i+1),Ad2,i+1,idn,_,rfl,Ad2,rfl,by simp,af,?_⟩;rw[Gg G6 HX.out];refine HS.out.append (EL.single ?_);rw[HI.out,HR.out];exact⟨_,idb,bb,⟨ia,rfl⟩,hB.out,by simp⟩
    ·clear p4
     repeat' (first|refine Z1 ?_|(refine Z8 ?_;intro ya J)|(refine Z4 ?_;clear J ya)|(refine Z2 ?_ ?_<;>intro h ae<;>try exact Xp)|(refine Z6 ?_;intro idn zn af ah ad ab ac aa)|(refine Z5 ?_;first|(refine Xi (Lo _ _ (by first|omega|(simp;omega)) _) ?_;rintro _ _ ⟨rfl,rfl⟩)|(refine Xi (Ps _ (by first|omega|(simp;omega)) _) ?_;rintro _ _ ⟨_,rfl,⟨ia,rfl⟩,ai⟩;(have ka:=ai.nobj)))|refine Z3 ?_|exact Zt|(apply J.out;clear J ya))
     rename_i z2 za;have bg:=((hK.trans ai).new [sc (Value.bool false),sc (Value.bool false),sc (Value.string (bs [])),nilS,nilS]).put (hK.trans ai).nobj [sc (Value.bool false),sc (Value.bool (De (List.take (Bt (b::r) 58) (b::r))).nt),str (De (List.take (Bt (b::r) 58) (b::r))).pred,sl ia (De (List.take (Bt (b::r) 58) (b::r))).terms.length (List.map str (De (List.take (Bt (b::r) 58) (b::r))).terms),nilS];have bd:=hO.keep ((ai.new [sc (Value.bool false),sc (Value.bool false),sc (Value.string (bs [])),nilS,nilS]).put ai.nobj [sc (Value.bool false),sc (Value.bool (De (List.take (Bt (b::r) 58) (b::r))).nt),str (De (List.take (Bt (b::r) 58) (b::r))).pred,sl ia (De (List.take (Bt (b::r) 58) (b::r))).terms.length (List.map str (De (List.take (Bt (b::r) 58) (b::r))).terms),nilS])
     repeat' (first|refine Z1 ?_|(refine Z8 ?_;intro ya J)|(refine Z4 ?_;clear J ya)|(refine Z2 ?_ ?_<;>intro h ae<;>try exact Xp)|(refine Z6 ?_;intro idn zn af ah ad ab ac aa)|refine Z3 ?_|exact Zt|(apply J.out;clear J ya))
     refine⟨ts.length-(i+1),Ad2,i+1,idn,_,rfl,Ad2,rfl,by simp,af,?_⟩;rw[Gg G6 HX.out];refine HS.out.append (EL.single ?_);rw[HI.out];unfold P2;rw[if_neg (by simpa using ax)];exact⟨_,1,[],⟨ia,rfl⟩,rfl,by simp⟩
 ·have ba:i=ts.length:=Ad2;subst ba
  repeat' (first|refine Z1 ?_|(refine Z8 ?_;intro ya J)|(refine Z4 ?_;clear J ya)|(refine Z2 ?_ ?_<;>intro h ae<;>try exact Xp)|(refine Z6 ?_;intro idn zn af ah ad ab ac aa)|refine Z3 ?_|exact Zt|(apply J.out;clear J ya))
  have hS:=HS.out;rw[Aa3]at hS
  first
  |exact⟨_,rfl,ids,ss,by simp,hS,hK⟩
  |exact⟨_,rfl,ids,ss,by simp,hS⟩
theorem eV (nt:Bool)(s:List UInt8):(L8 nt s).terms.length<=s.length:=by
 unfold L8;simp only;split
 ·rename_i h;refine Aal J2 ?_;simp;omega
 ·simp
theorem Qg (s:List UInt8):(De s).terms.length<=s.length:=by
 unfold De;refine Aal (eV _ _) ?_;unfold Hp;split
 ·simp
 ·exact Aak _
theorem iG {t:List UInt8}(h:t.length<=1000):(G6 t).fits:=by
 unfold G6;split
 ·exact⟨by simp[gZ],by simp[gZ],by simp[gZ]⟩
 ·unfold P2;refine⟨?_,?_,?_⟩
  ·simp only;split
   ·rw[Ace];refine Aal J2 ?_;simp;omega
   ·simp
  ·simp only;refine Aal (Qg _) ?_;simp;omega
  ·simp only;split
   ·intro a ha;rw[Acf]at ha;obtain⟨u,hu,rfl⟩:=ha;refine Aal (Qg _) ?_;refine Aal (J1 hu) ?_;simp;omega
   ·simp
def eF (s:List UInt8):Prop:=(E9 s 46).length<=16/\∀t∈E9 s 46,lF t
def A3 (s:List UInt8):Int×Int:=
 if 600<s.length then (1,0)else if 0<=Ej s then (2,Ej s)else Ds (Fi s)
theorem Ur (s:List UInt8)(hg:s.length<=600->¬0<=Ej s->eF s)(ac: -1<=Ej s/\Ej s<=s.length)(z:St):ACalls Tryz.prog 82 [str s] z fun r z'=>r=two (A3 s)/\Keep z z':=by
 obtain⟨q1,q2⟩:=ac;refine Z9 18 [.tmp 2,.tmp 3] Tryz.func82 ?_;by_cases hL:600<s.length
 ·have hr:A3 s=(1,0):=by unfold A3;rw[if_pos hL]
  repeat' (first|refine Z1 ?_|(refine Z8 ?_;intro ya J)|(refine Z4 ?_;clear J ya)|(refine Z2 ?_ ?_<;>intro h aa<;>try exact Xp)|refine Z3 ?_|exact Zt|(apply J.out;clear J ya))
  exact⟨_,rfl,rfl,Keep.refl _⟩
 ·have hg:=hg Ad2;by_cases hP:0<=Ej s
  ·have hr:A3 s=(2,Ej s):=by unfold A3;rw[if_neg hL,if_pos hP]
   repeat' (first|refine Z1 ?_|(refine Z8 ?_;intro ya J)|(refine Z4 ?_;clear J ya)|(refine Z2 ?_ ?_<;>intro h aa<;>try exact Xp)|(refine Z5 ?_;refine Xi (Ml s Ad2 _) ?_;rintro _ _ ⟨rfl,ab⟩)|refine Z3 ?_|exact Zt|(apply J.out;clear J ya))
   first
   |exact⟨_,rfl,rfl,ab⟩
   |exact⟨_,rfl,rfl⟩
  ·have hr:A3 s=Ds (Fi s):=by unfold A3;rw[if_neg hL,if_neg hP]
   obtain⟨g1,g2⟩:=hg hP;have ad:(Fi s).length<=16:=by unfold Fi;simpa using g1
   have ae:∀x∈Fi s,x.fits:=by
    intro x hx;unfold Fi at hx;rw[Acf]at hx;obtain⟨t,ht,rfl⟩:=hx;exact iG (g2 t ht).1
   repeat' (first|refine Z1 ?_|(refine Z8 ?_;intro ya J)|(refine Z4 ?_;clear J ya)|(refine Z2 ?_ ?_<;>intro h aa<;>try exact Xp)|(refine Z5 ?_;first|(refine Xi (Ml s Ad2 _) ?_;rintro _ _ ⟨rfl,ab⟩)|(refine Xi (Mt s Ad2 Ad2 g2 _) ?_;rintro _ _ ⟨idi,ci,rfl,ai,ah⟩)|(refine Xi (fN _ _ _ ai ad ae _) ?_;rintro _ _ ⟨rfl,af⟩))|refine Z3 ?_|exact Zt|(apply J.out;clear J ya))
   exact⟨_,rfl,rfl,(ab.trans ah).trans af⟩
abbrev Tx:=List UInt8
inductive Rd (α:Type) where
 |bad (e:Tx)
 |got (x:α) (r:Tx)
def Rd.bnd {α β:Type}:Rd α->(α->Tx->Rd β)->Rd β
 |.bad e,_=>.bad e
 |.got x r,f=>f x r
def Az (c:Int):Bool:=decide (48<=c)&&decide (c<=57)
def Aw (c:Int):Tx->Rd Unit
 |[]=>.bad []
 |b::r=>if ((b.toNat:Int)==c)=true then .got () r else .bad (b::r)
def Ar (p:Int->Bool):Nat->Tx->Tx×Tx
 |0,s=>([],s)
 |_+1,[]=>([],[])
 |n+1,b::r=>if p b.toNat=true then (b::(Ar p n r).1,(Ar p n r).2)else ([],b::r)
def Ea (s:Tx):Rd Tx:=if (Ar Bl 6 s).1=[]then .bad s else .got (Ar Bl 6 s).1 (Ar Bl 6 s).2
def Ce:Tx->Rd Tx
 |[]=>.bad []
 |b::r=>if B6 b.toNat=true then .got [b] r else if ((b.toNat:Int)==48)=true then .got [b] r
  else if Fx b.toNat=true then .got (b::(Ar Az 2 r).1) (Ar Az 2 r).2 else .bad (b::r)
def Dl {α:Type}(f:Tx->Rd α):Nat->Tx->Rd (List α)
 |0,s=>.got [] s
 |_+1,[]=>.got [] []
 |n+1,b::r=>if ((b.toNat:Int)==44)=true then
  (f r).bnd fun x r1=>(Dl f n r1).bnd fun xs r2=>.got (x::xs) r2
  else .got [] (b::r)
def S4 (nt:Bool)(p:Tx)(s:Tx):Rd RAtom:=
 (Ce s).bnd fun t r=>(Dl Ce 2 r).bnd fun ts r=>(Aw 41 r).bnd fun _ r=>.got {nt:=nt,pred:=p,terms:=t::ts} r
def C2 (nt:Bool)(s:Tx):Rd RAtom:=
 (Ea s).bnd fun p r=>(Aw 40 r).bnd fun _ r=>S4 nt p r
def I8:Tx->Rd RAtom
 |[]=>.bad []
 |b::r=>if ((b.toNat:Int)==33)=true then C2 true r else C2 false (b::r)
def P6 (h:RAtom)(s:Tx):Rd RItem:=
 (I8 s).bnd fun l r=>(Dl I8 4 r).bnd fun ls r=>(Aw 46 r).bnd fun _ r=>.got {out:=false,head:=h,body:=l::ls} r
def L4 (h:RAtom):Tx->Rd RItem
 |[]=>.bad []
 |b::r=>if ((b.toNat:Int)==46)=true then .got {out:=false,head:=h,body:=[]} r else
  (Aw 58 (b::r)).bnd fun _ r=>(Aw 45 r).bnd fun _ r=>P6 h r
def L5 (s:Tx):Rd RItem:=(C2 false s).bnd fun h r=>L4 h r
def Yt (s:Tx):Rd RItem:=
 (Ea s).bnd fun p r=>(Aw 46 r).bnd fun _ r=>.got {out:=true,head:={nt:=false,pred:=p,terms:=[]},body:=[]} r
def Ey:Tx->Rd RItem
 |[]=>.bad []
 |b::r=>if ((b.toNat:Int)==63)=true then Yt r else L5 (b::r)
def Bf:Nat->Tx->Rd (List RItem)
 |_,[]=>.got [] []
 |0,s=>.bad s
 |n+1,s=>(Ey s).bnd fun x r=>(Bf n r).bnd fun xs r=>.got (x::xs) r
def stop:Scan->Tx->Option Tx
 |X,[]=>if X.st !=0 then some []else none
 |X,c::r=>if (A2 X c).2=true then stop (A2 X c).1 r else some (c::r)
theorem nC:∀(s:Tx) (X:Scan) (i:Nat),
  (match (Km X s i).2 with|some j=>(j:Int)|none=>if (Km X s i).1.st !=0 then ((i+s.length:Nat):Int)else -1)=match stop X s with|some r=>((i+s.length-r.length:Nat):Int)|none=> -1:=by
 intro s;induction s with
 |nil=>intro X i;simp only[Km,stop];split<;>simp_all
 |cons c r ih=>
  intro X i;unfold Km stop;by_cases h:(A2 X c).2=true
  ·simp only[h,if_true];have:=ih (A2 X c).1 (i+1);rw[show i+(c::r).length=i+1+r.length by simp;omega];exact this
  ·simp only[h];simp
theorem cV (s:Tx):Ej s=match stop Ia s with|some r=>((s.length-r.length:Nat):Int)|none=> -1:=by
 have:=nC s Ia 0;unfold Ej;rw[Abi]at this;rw[<-this];rfl
def Via {α:Type}(P:Scan->Prop)(res:Rd α)(o:Option Tx):Prop:=
 match res with
 |.bad e=>o=some e
 |.got _ r=>∃X',P X'/\o=stop X' r
theorem Via.bind {α β:Type}{P Q:Scan->Prop}{res:Rd α}{o:Option Tx}{f:α->Tx->Rd β}(h:Via P res o)(k:∀x r X',P X'->Via Q (f x r) (stop X' r)):Via Q (res.bnd f) o:=by
 cases res with
 |bad e=>exact h
 |got x r=>
  obtain⟨X',hP,rfl⟩:=h;exact k x r X' hP
theorem Via.ret {α:Type}{P:Scan->Prop}{x:α}{r:Tx}{X:Scan}(h:P X):Via P (.got x r) (stop X r):=⟨X,h,rfl⟩
theorem Via.err {α:Type}{P:Scan->Prop}{e:Tx}{o:Option Tx}(h:o=some e):Via (α:=α) P (.bad e) o:=h
theorem Cp {X:Scan}{c:UInt8}{r:Tx}(h:(A2 X c).2=true):stop X (c::r)=stop (A2 X c).1 r:=by
 rw[stop,if_pos h]
theorem Fe {X:Scan}{c:UInt8}{r:Tx}(h:(A2 X c).2=false):stop X (c::r)=some (c::r):=by
 rw[stop,if_neg (by simp[h])]
theorem C0 {X:Scan}(h:X.st≠0):stop X []=some []:=by
 rw[stop,if_pos (by simpa using h)]
def qR (X X':Scan):Prop:=X'.items=X.items/\X'.lits=X.lits/\X'.head=X.head
theorem pJ:∀(n:Nat) (s:Tx) (X:Scan),X.st=5->X.letters=6-(n:Int)->n<=6->
  Via (fun X'=>X'.st=6/\X'.terms=0/\qR X X') (Aw 40 (Ar Bl n s).2) (stop X s):=by
 intro n;induction n with
 |zero=>
  intro s X h5 hl hn;cases s with
  |nil=>exact Via.err (C0 Ad2)
  |cons b r=>
   unfold Ar Aw;simp only;by_cases hb:((b.toNat:Int)==40)=true
   ·rw[if_pos hb];have e:A2 X b=({X with terms:=0,st:=6},true):=by
     simp[A2,Di,h5,hl,hb]
    rw[Cp (by rw[e]),e];exact Via.ret ⟨rfl,rfl,rfl,rfl,rfl⟩
   ·rw[if_neg hb];refine Via.err (Fe ?_);simp[A2,Di,h5,hl,hb]
 |succ n ih=>
  intro s X h5 hl hn;cases s with
  |nil=>exact Via.err (C0 Ad2)
  |cons b r=>
   unfold Ar;by_cases hs:Bl b.toNat=true
   ·rw[if_pos hs];have e:A2 X b=({X with letters:=X.letters+1},true):=by
     simp[A2,Di,h5,hs];omega
    rw[Cp (by rw[e]),e];exact ih r {X with letters:=X.letters+1} h5 (by simp;omega) Ad2
   ·rw[if_neg hs];unfold Aw;simp only;by_cases hb:((b.toNat:Int)==40)=true
    ·rw[if_pos hb];have e:A2 X b=({X with terms:=0,st:=6},true):=by
      simp[A2,Di,h5,hs,hb]
     rw[Cp (by rw[e]),e];exact Via.ret ⟨rfl,rfl,rfl,rfl,rfl⟩
    ·rw[if_neg hb];refine Via.err (Fe ?_);simp[A2,Di,h5,hs,hb]
theorem Fs {α β γ:Type}(a:Rd α)(f:α->Tx->Rd β)(g:β->Tx->Rd γ):(a.bnd f).bnd g=a.bnd fun x r=>(f x r).bnd g:=by cases a<;>rfl
theorem digit_iff {c:Int}:Az c=true↔(Fx c=true\/(c==48)=true):=by
 simp[Az,Fx];omega
theorem Kx {c:Int}(h:B6 c=true):Fx c=false:=by
 simp[B6,Fx]at*;omega
theorem Kj {X:Scan}{s:Tx}(h7:X.st=7)(h:∀b r,s=b::r->Az b.toNat=true->¬X.digits<3):stop X s=stop {X with st:=8} s:=by
 cases s with
 |nil=>rw[C0 Ad2,C0 (by simp)]
 |cons b r=>
  have hd:=h b r rfl;have hq:¬((X.st==7)=true/\decide (X.digits<3)=true/\(Fx b.toNat=true\/((b.toNat:Int)==48)=true)):=by
   rintro⟨-,q1,q2⟩;exact hd (digit_iff.2 q2) (by simpa using q1)
  have e1:A2 X b=if ((b.toNat:Int)==41)=true then ({X with lits:=if (!X.head)=true then X.lits+1 else X.lits,st:=9},true)else if ((b.toNat:Int)==44)=true/\decide (X.terms<3)=true then ({X with st:=6},true)else (X,false):=by
   unfold A2 Di;rw[if_pos (by simp[h7]),if_neg (by simp[h7]),if_neg (by simp[h7]),if_neg hq]
  have e2:A2 {X with st:=8} b=if ((b.toNat:Int)==41)=true then ({X with lits:=if (!X.head)=true then X.lits+1 else X.lits,st:=9},true)else if ((b.toNat:Int)==44)=true/\decide (X.terms<3)=true then ({X with st:=6},true)else ({X with st:=8},false):=by
   unfold A2 Di;rw[if_pos (by simp),if_neg (by simp),if_neg (by simp),if_neg (by simp)]
  unfold stop;rw[e1,e2];by_cases h1:((b.toNat:Int)==41)=true
  ·rw[if_pos h1,if_pos h1]
  ·rw[if_neg h1,if_neg h1];by_cases h2:((b.toNat:Int)==44)=true/\decide (X.terms<3)=true
   ·rw[if_pos h2,if_pos h2]
   ·rw[if_neg h2,if_neg h2];rfl
theorem fR:∀(n:Nat) (s:Tx) (X:Scan),X.st=7->X.digits=3-(n:Int)->∃X',X'.st=8/\X'.terms=X.terms/\qR X X'/\stop X s=stop X' (Ar Az n s).2:=by
 intro n;induction n with
 |zero=>
  intro s X h7 hd;exact⟨{X with st:=8},rfl,rfl,⟨rfl,rfl,rfl⟩,Kj h7 (fun _ _ _ _=>Ad2)⟩
 |succ n ih=>
  intro s X h7 hd;cases s with
  |nil=>exact⟨{X with st:=8},rfl,rfl,⟨rfl,rfl,rfl⟩,Kj h7 (fun _ _ h _=>by cases h)⟩
  |cons b r=>
   unfold Ar;by_cases hb:Az b.toNat=true
   ·rw[if_pos hb];have e:A2 X b=({X with digits:=X.digits+1},true):=by
     have:=digit_iff.1 hb;unfold A2 Di;rw[if_pos (by simp[h7]),if_neg (by simp[h7]),if_neg (by simp[h7]),if_pos ⟨by simp[h7],by simp;omega,this⟩]
    rw[Cp (by rw[e]),e];obtain⟨X',h1,h2,h3,h4⟩:=ih r {X with digits:=X.digits+1} h7 (by simp;omega);exact⟨X',h1,h2,h3,h4⟩
   ·rw[if_neg hb];exact⟨{X with st:=8},rfl,rfl,⟨rfl,rfl,rfl⟩,Kj h7 (fun c q h hc=>by cases h;exact absurd hc hb)⟩
theorem aA (s:Tx)(X:Scan)(h6:X.st=6):Via (fun X'=>X'.st=8/\X'.terms=X.terms+1/\qR X X') (Ce s) (stop X s):=by
 cases s with
 |nil=>exact Via.err (C0 Ad2)
 |cons b r=>
  unfold Ce;by_cases hl:B6 b.toNat=true
  ·simp only[hl,if_true];have e:A2 X b=({X with terms:=X.terms+1,digits:=1,st:=8},true):=by
    simp[A2,Di,h6,hl,Kx hl]
   rw[Cp (by rw[e]),e];exact Via.ret ⟨rfl,rfl,rfl,rfl,rfl⟩
  ·simp only[hl];by_cases hz:((b.toNat:Int)==48)=true
   ·have hn:Fx b.toNat=false:=by simp[Fx]at*;omega
    simp only[hz,if_true];have e:A2 X b=({X with terms:=X.terms+1,digits:=1,st:=8},true):=by
     simp[A2,Di,h6,hl,hz,hn]
    rw[Cp (by rw[e]),e];exact Via.ret ⟨rfl,rfl,rfl,rfl,rfl⟩
   ·simp only[hz];by_cases hn:Fx b.toNat=true
    ·simp only[hn,if_true];have e:A2 X b=({X with terms:=X.terms+1,digits:=1,st:=7},true):=by
      simp[A2,Di,h6,hn]
     rw[Cp (by rw[e]),e];obtain⟨X',h1,h2,h3,h4⟩:=fR 2 r {X with terms:=X.terms+1,digits:=1,st:=7} rfl (by simp);exact⟨X',⟨h1,h2,h3⟩,h4⟩
    ·simp only[hn];refine Via.err (Fe ?_);simp[A2,Di,h6,hl,hz,hn]
def wS (it li:Int)(hd:Bool)(X:Scan):Prop:=X.st=9/\X.items=it/\X.head=hd/\X.lits=if hd=true then li else li+1
theorem U3 {β:Type}(s:Tx)(X:Scan)(k:β)(h8:X.st=8)(h:∀b r,s=b::r->((b.toNat:Int)==44)=true->¬X.terms<3):
  Via (wS X.items X.lits X.head) ((Aw 41 s).bnd fun _ r=>.got k r) (stop X s):=by
 cases s with
 |nil=>exact Via.err (C0 Ad2)
 |cons b r=>
  unfold Aw;have hh:=h b r rfl;by_cases hb:((b.toNat:Int)==41)=true
  ·simp only[hb,if_true];have e:A2 X b=({X with lits:=if (!X.head)=true then X.lits+1 else X.lits,st:=9},true):=by
    simp[A2,Di,h8,hb]
   rw[Cp (by rw[e]),e];refine Via.ret ⟨rfl,rfl,rfl,?_⟩;cases X.head<;>simp
  ·simp only[hb];refine Via.err (Fe ?_);simp[A2,Di,h8,hb];rw[if_neg];rintro⟨h1,h2⟩;have:=hh (by simpa using h1);omega
theorem pN {β:Type}:∀(n:Nat) (s:Tx) (X:Scan) (k:List Tx->β),X.st=8->X.terms=3-(n:Int)->
  Via (wS X.items X.lits X.head) ((Dl Ce n s).bnd fun ts r=>(Aw 41 r).bnd fun _ r=>.got (k ts) r) (stop X s):=by
 intro n;induction n with
 |zero=>
  intro s X k h8 ht;exact U3 s X (k []) h8 (fun _ _ _ _=>Ad2)
 |succ n ih=>
  intro s X k h8 ht;cases s with
  |nil=>exact Via.err (C0 Ad2)
  |cons b r=>
   unfold Dl;by_cases hb:((b.toNat:Int)==44)=true
   ·simp only[hb,if_true];have e:A2 X b=({X with st:=6},true):=by
     have:¬((b.toNat:Int)==41)=true:=by simp at*;omega
     simp[A2,Di,h8,hb,this];omega
    rw[Cp (by rw[e]),e,Fs];refine Via.bind (aA r {X with st:=6} rfl) ?_;rintro x r1 X' ⟨h1,h2,h3,h4,h5⟩;rw[Fs];have:=ih r1 X' (fun ts=>k (x::ts)) h1 (by simp at h2;omega);rw[h3,h4,h5]at this;exact this
   ·simp only[hb];exact U3 (b::r) X (k []) h8 (fun c q h hc=>by cases h;exact absurd hc hb)
theorem Q6 (nt:Bool)(b:UInt8)(r:Tx)(X:Scan)(it li:Int)(hd:Bool)(hs:Bl b.toNat=true->∃X1,A2 X b=(X1,true)/\X1.st=5/\X1.letters=1/\X1.items=it/\X1.lits=li/\X1.head=hd)
  (hn:Bl b.toNat=false->(A2 X b).2=false):Via (wS it li hd) (C2 nt (b::r)) (stop X (b::r)):=by
 unfold C2 Ea;by_cases hb:Bl b.toNat=true
 ·obtain⟨X1,e,h1,h2,h3,h4,h5⟩:=hs hb;rw[Cp (by rw[e]),e];have e6:Ar Bl 6 (b::r)=(b::(Ar Bl 5 r).1,(Ar Bl 5 r).2):=by rw[Ar,if_pos hb]
  rw[e6];simp only[reduceCtorEq,if_false,Rd.bnd];refine Via.bind (pJ 5 r X1 h1 Ad2 Ad2) ?_;rintro _ r1 X' ⟨g1,g2,g3,g4,g5⟩;unfold S4;refine Via.bind (aA r1 X' g1) ?_;rintro t r2 X2 ⟨q1,q2,q3,q4,q5⟩;have:=pN 2 r2 X2 (fun ts=>({nt:=nt,pred:=b::(Ar Bl 5 r).1,terms:=t::ts}:RAtom)) q1 Ad2;rw[q3,g3,h3,q4,g4,h4,q5,g5,h5]at this;exact this
 ·have aa:Bl b.toNat=false:=by simpa using hb
  have e6:Ar Bl 6 (b::r)=([],b::r):=by rw[Ar,if_neg hb]
  rw[e6];simp only[if_true,Rd.bnd];exact Via.err (Fe (hn aa))
theorem jT (s:Tx)(X:Scan)(h3:X.st=3):Via (wS X.items X.lits X.head) (I8 s) (stop X s):=by
 cases s with
 |nil=>exact Via.err (C0 Ad2)
 |cons b r=>
  unfold I8;by_cases hb:((b.toNat:Int)==33)=true
  ·simp only[hb,if_true];have e:A2 X b=({X with letters:=1,st:=4},true):=by simp[A2,Ch,h3,hb]
   rw[Cp (by rw[e]),e];cases r with
   |nil=>
    refine Via.err (C0 (by simp))
   |cons c q=>
    refine Q6 true c q _ _ _ _ (fun hs=>⟨{X with letters:=1,st:=5},?_,rfl,rfl,rfl,rfl,rfl⟩) (fun hs=>?_)
    ·simp[A2,Ch,hs]
    ·simp[A2,Ch,hs]
  ·simp only[hb];refine Q6 false b r _ _ _ _ (fun hs=>⟨{X with letters:=1,st:=5},?_,rfl,rfl,rfl,rfl,rfl⟩) (fun hs=>?_)
   ·simp[A2,Ch,h3,hb,hs]
   ·simp[A2,Ch,h3,hb,hs]
def Next (it:Int)(X:Scan):Prop:=X.st=0/\X.items=it+1
theorem jU {β:Type}(s:Tx)(X:Scan)(k:β)(h9:X.st=9)(hh:X.head=false)(h:∀b r,s=b::r->((b.toNat:Int)==44)=true->¬X.lits<5):
  Via (Next X.items) ((Aw 46 s).bnd fun _ r=>.got k r) (stop X s):=by
 cases s with
 |nil=>exact Via.err (C0 Ad2)
 |cons b r=>
  unfold Aw;have hq:=h b r rfl;by_cases hb:((b.toNat:Int)==46)=true
  ·simp only[hb,if_true];have e:A2 X b=({X with items:=X.items+1,st:=0},true):=by simp[A2,Ch,h9,hb]
   rw[Cp (by rw[e]),e];exact Via.ret ⟨rfl,rfl⟩
  ·simp only[hb];refine Via.err (Fe ?_);simp[A2,Ch,h9,hb,hh];rw[if_neg];rintro⟨h1,h2⟩;have:=hq (by simpa using h1);omega
theorem pK {β:Type}:∀(n:Nat) (s:Tx) (X:Scan) (k:List RAtom->β),X.st=9->X.head=false->X.lits=5-(n:Int)->
  Via (Next X.items) ((Dl I8 n s).bnd fun ts r=>(Aw 46 r).bnd fun _ r=>.got (k ts) r) (stop X s):=by
 intro n;induction n with
 |zero=>
  intro s X k h9 hh ht;exact jU s X (k []) h9 hh (fun _ _ _ _=>Ad2)
 |succ n ih=>
  intro s X k h9 hh ht;cases s with
  |nil=>exact Via.err (C0 Ad2)
  |cons b r=>
   unfold Dl;by_cases hb:((b.toNat:Int)==44)=true
   ·simp only[hb,if_true];have e:A2 X b=({X with st:=3},true):=by
     have h1:¬((b.toNat:Int)==46)=true:=by simp at*;omega
     simp[A2,Ch,h9,hb,h1,hh];omega
    rw[Cp (by rw[e]),e,Fs];refine Via.bind (jT r {X with st:=3} rfl) ?_;rintro x r1 X' ⟨h1,h2,h3,h4⟩;rw[Fs];have:=ih r1 X' (fun ts=>k (x::ts)) h1 (by rw[h3];exact hh) (by simp[hh]at h4;omega);rw[h2]at this;exact this
   ·simp only[hb];exact jU (b::r) X (k []) h9 hh (fun c q h hc=>by cases h;exact absurd hc hb)
theorem pM (h:RAtom)(s:Tx)(X:Scan)(h3:X.st=3)(hh:X.head=false)(hl:X.lits=0):Via (Next X.items) (P6 h s) (stop X s):=by
 unfold P6;refine Via.bind (jT s X h3) ?_;rintro x r X' ⟨h1,h2,h4,h5⟩;have:=pK 4 r X' (fun ls=>({out:=false,head:=h,body:=x::ls}:RItem)) h1 (by rw[h4];exact hh) (by simp[hh,hl]at h5;omega);rw[h2]at this;exact this
theorem pI (h:RAtom)(s:Tx)(X:Scan)(h9:X.st=9)(hh:X.head=true)(hl:X.lits=0):Via (Next X.items) (L4 h s) (stop X s):=by
 cases s with
 |nil=>exact Via.err (C0 Ad2)
 |cons b r=>
  unfold L4;by_cases hb:((b.toNat:Int)==46)=true
  ·simp only[hb,if_true];have e:A2 X b=({X with items:=X.items+1,st:=0},true):=by simp[A2,Ch,h9,hb]
   rw[Cp (by rw[e]),e];exact Via.ret ⟨rfl,rfl⟩
  ·simp only[hb];unfold Aw;by_cases hc:((b.toNat:Int)==58)=true
   ·simp only[hc,if_true];have e:A2 X b=({X with st:=10},true):=by simp[A2,Ch,h9,hb,hc,hh]
    rw[Cp (by rw[e]),e];cases r with
    |nil=>exact Via.err (C0 (by simp))
    |cons c q=>
     by_cases hd:((c.toNat:Int)==45)=true
     ·simp only[hd,if_true,Rd.bnd];have e:A2 {X with st:=10} c=({X with head:=false,st:=3},true):=by simp[A2,Ch,hd]
      simp only[Abq,if_false];rw[Cp (by rw[e]),e];exact pM h q {X with head:=false,st:=3} rfl rfl hl
     ·simp only[hd,Rd.bnd];refine Via.err (Fe ?_);simp[A2,Ch,hd]
   ·simp only[hc];refine Via.err (Fe ?_);simp[A2,Ch,h9,hb,hc,hh]
theorem mL:∀(n:Nat) (s:Tx) (X:Scan) (k:Tx->RItem),X.st=2->X.letters=6-(n:Int)->
  Via (Next X.items) ((Aw 46 (Ar Bl n s).2).bnd fun _ r=>.got (k (Ar Bl n s).1) r) (stop X s):=by
 intro n;induction n with
 |zero=>
  intro s X k h2 hl;cases s with
  |nil=>exact Via.err (C0 Ad2)
  |cons b r=>
   unfold Ar Aw;by_cases hb:((b.toNat:Int)==46)=true
   ·simp only[hb,if_true];have e:A2 X b=({X with items:=X.items+1,st:=0},true):=by simp[A2,Ch,h2,hl,hb]
    rw[Cp (by rw[e]),e];exact Via.ret ⟨rfl,rfl⟩
   ·simp only[hb];refine Via.err (Fe ?_);simp[A2,Ch,h2,hl,hb]
 |succ n ih=>
  intro s X k h2 hl;cases s with
  |nil=>exact Via.err (C0 Ad2)
  |cons b r=>
   unfold Ar;by_cases hs:Bl b.toNat=true
   ·simp only[hs,if_true];have e:A2 X b=({X with letters:=X.letters+1,st:=2},true):=by
     simp[A2,Ch,h2,hs];omega
    rw[Cp (by rw[e]),e];exact ih r {X with letters:=X.letters+1,st:=2} (fun x=>k (b::x)) rfl (by simp;omega)
   ·simp only[hs];unfold Aw;by_cases hb:((b.toNat:Int)==46)=true
    ·simp only[Abq,if_false,hb,if_true];have e:A2 X b=({X with items:=X.items+1,st:=0},true):=by simp[A2,Ch,h2,hs,hb]
     rw[Cp (by rw[e]),e];exact Via.ret ⟨rfl,rfl⟩
    ·simp only[Abq,if_false,hb];refine Via.err (Fe ?_);simp[A2,Ch,h2,hs,hb]
theorem pL (b:UInt8)(r:Tx)(X:Scan)(h0:X.st=0)(hi:X.items≠16):Via (Next X.items) (Ey (b::r)) (stop X (b::r)):=by
 unfold Ey;by_cases hb:((b.toNat:Int)==63)=true
 ·simp only[hb,if_true];have e:A2 X b=({X with head:=true,letters:=0,lits:=0,st:=1},true):=by simp[A2,Ch,h0,hi,hb]
  rw[Cp (by rw[e]),e];unfold Yt Ea;cases r with
  |nil=>exact Via.err (C0 (by simp))
  |cons c q=>
   by_cases hs:Bl c.toNat=true
   ·have e6:Ar Bl 6 (c::q)=(c::(Ar Bl 5 q).1,(Ar Bl 5 q).2):=by rw[Ar,if_pos hs]
    rw[e6];simp only[reduceCtorEq,if_false,Rd.bnd];have e:A2 {X with head:=true,letters:=0,lits:=0,st:=1} c=({X with head:=true,letters:=1,lits:=0,st:=2},true):=by simp[A2,Ch,hs]
    rw[Cp (by rw[e]),e];exact mL 5 q {X with head:=true,letters:=1,lits:=0,st:=2} (fun x=>{out:=true,head:={nt:=false,pred:=c::x,terms:=[]},body:=[]}) rfl (by simp)
   ·have e6:Ar Bl 6 (c::q)=([],c::q):=by rw[Ar,if_neg hs]
    rw[e6];simp only[if_true,Rd.bnd];refine Via.err (Fe ?_);simp[A2,Ch,hs]
 ·simp only[hb];unfold L5;refine Via.bind (Q6 false b r X X.items 0 true (fun hs=>⟨{X with head:=true,letters:=1,lits:=0,st:=5},?_,rfl,rfl,rfl,rfl,rfl⟩) (fun hs=>?_)) ?_
  ·simp[A2,Ch,h0,hi,hb,hs]
  ·simp[A2,Ch,h0,hi,hb,hs]
  ·rintro x r X' ⟨h1,h2,h3,h4⟩;have:=pI x r X' h1 h3 (by simpa using h4);rw[h2]at this;exact this
theorem mM:∀(n:Nat) (s:Tx) (X:Scan),X.st=0->X.items=16-(n:Int)->stop X s=match Bf n s with|.bad e=>some e|.got _ _=>none:=by
 intro n;induction n with
 |zero=>
  intro s X h0 hi;cases s with
  |nil=>simp[stop,Bf,h0]
  |cons b r=>
   simp only[Bf];refine Fe ?_;simp[A2,Ch,h0,hi]
 |succ n ih=>
  intro s X h0 hi;cases s with
  |nil=>simp[stop,Bf,h0]
  |cons b r=>
   have hv:=pL b r X h0 Ad2;unfold Bf;cases hp:Ey (b::r)with
   |bad e=>rw[hp]at hv;exact hv
   |got x q=>
    rw[hp]at hv;obtain⟨X',⟨h1,h2⟩,h3⟩:=hv;rw[h3,ih q X' h1 Ad2];simp only[Rd.bnd];cases Bf n q<;>rfl
theorem Fw (s:Tx):Ej s=match Bf 16 s with|.bad e=>((s.length-e.length:Nat):Int)|.got _ _=> -1:=by
 rw[cV,mM 16 s Ia rfl rfl];cases Bf 16 s<;>rfl
theorem J4 {b:UInt8}(c:UInt8)(h:((b.toNat:Int)==(c.toNat:Int))=true):b=c:=by
 have:b.toNat=c.toNat:=by simp at h;omega
 exact Acg.1 this
def Uh (p:Tx):Prop:=p≠[]/\∀b∈p,Bl b.toNat=true
def Qi (t:Tx):Prop:=t≠[]/\∀b∈t,B6 b.toNat=true\/Az b.toNat=true
def Fb (a:RAtom):Prop:=Uh a.pred/\a.terms≠[]/\a.terms.length<=3/\∀t∈a.terms,Qi t
def Jk (x:RItem):Prop:=Uh x.head.pred/\(x.out=true->x.head.nt=false/\x.head.terms=[]/\x.body=[])/\(x.out=false->Fb x.head/\x.head.nt=false/\x.body.length<=5/\∀a∈x.body,Fb a)
def Cr (ts:List Tx):Tx:=ts.flatMap fun t=>44::t
def Cv:List Tx->Tx
 |[]=>[]
 |t::ts=>t++Cr ts
def A4 (a:RAtom):Tx:=a.pred++40::(Cv a.terms++[41])
def Dg (a:RAtom):Tx:=(if a.nt=true then [33]else [])++A4 a
def D7 (x:RItem):Tx:=A4 x.head++(if x.body=[]then []else 58::45::Cv (x.body.map Dg))
def Co (x:RItem):Tx:=if x.out=true then 63::x.head.pred else D7 x
theorem Ax {α β:Type}{a:Rd α}{f:α->Tx->Rd β}{y:β}{r:Tx}(h:a.bnd f= .got y r):∃x q,a= .got x q/\f x q= .got y r:=by
 cases a with
 |bad e=>cases h
 |got x q=>exact⟨x,q,rfl,h⟩
theorem Hj {c:UInt8}{s r:Tx}{x:Unit}(h:Aw c.toNat s= .got x r):s=c::r:=by
 cases s with
 |nil=>cases h
 |cons b q=>
  unfold Aw at h;dsimp only at h;split at h
  ·rename_i hb;cases h;rw[J4 c hb]
  ·cases h
theorem D3 (p:Int->Bool):∀(n:Nat) (s:Tx),s=(Ar p n s).1++(Ar p n s).2/\(∀b∈(Ar p n s).1,p b.toNat=true)
 |0,s=>by simp[Ar]
 |n+1,[]=>by simp[Ar]
 |n+1,b::r=>by
  unfold Ar;split
  ·rename_i h;obtain⟨h1,h2⟩:=D3 p n r;refine⟨by simp;exact h1,?_⟩;intro c hc;rcases Acd.1 hc with rfl|hc
   ·exact h
   ·exact h2 c hc
  ·simp
theorem Mn {s r p:Tx}(h:Ea s= .got p r):s=p++r/\Uh p:=by
 unfold Ea at h;split at h
 ·cases h
 ·rename_i aa;cases h;exact⟨(D3 Bl 6 s).1,aa,(D3 Bl 6 s).2⟩
theorem Su {s r t:Tx}(h:Ce s= .got t r):s=t++r/\Qi t:=by
 cases s with
 |nil=>cases h
 |cons b q=>
  unfold Ce at h;dsimp only at h;split at h
  ·rename_i hl;cases h;exact⟨rfl,by simp,by simp[hl]⟩
  ·split at h
   ·rename_i hz;cases h;refine⟨rfl,by simp,?_⟩;intro c hc;simp at hc;subst hc;right;simp[Az]at*
    omega
   ·split at h
    ·rename_i hn;cases h;obtain⟨h1,h2⟩:=D3 Az 2 q;refine⟨by simp;exact h1,by simp,?_⟩;intro c hc;rcases Acd.1 hc with rfl|hc
     ·right;exact digit_iff.2 (.inl hn)
     ·right;exact h2 c hc
    ·cases h
theorem Sx {α:Type}{W:α->Prop}{u:α->Tx}{f:Tx->Rd α}(hf:∀s x r,f s= .got x r->s=u x++r/\W x):∀(n:Nat) (s:Tx) (xs:List α) (r:Tx),Dl f n s= .got xs r->
  s=Cr (xs.map u)++r/\xs.length<=n/\∀x∈xs,W x:=by
 intro n;induction n with
 |zero=>intro s xs r h;cases h;simp[Cr]
 |succ n ih=>
  intro s xs r h;cases s with
  |nil=>cases h;simp[Cr]
  |cons b q=>
   unfold Dl at h;split at h
   ·rename_i hb;obtain⟨x,q1,h1,h2⟩:=Ax h;obtain⟨ys,q2,h3,h4⟩:=Ax h2;cases h4;obtain⟨g1,g2⟩:=hf _ _ _ h1;obtain⟨g3,g4,g5⟩:=ih _ _ _ h3;refine⟨?_,by simp;omega,?_⟩
    ·rw[J4 44 hb,g1,g3];simp[Cr]
    ·intro y hy;rcases Acd.1 hy with rfl|hy
     ·exact g2
     ·exact g5 y hy
   ·cases h;simp[Cr]
theorem Fh {nt:Bool}{s r:Tx}{a:RAtom}(h:C2 nt s= .got a r):s=A4 a++r/\Fb a/\a.nt=nt:=by
 unfold C2 S4 at h;obtain⟨p,q1,h1,h⟩:=Ax h;obtain⟨_,q2,h2,h⟩:=Ax h;obtain⟨t,q3,h3,h⟩:=Ax h;obtain⟨ts,q4,h4,h⟩:=Ax h;obtain⟨_,q5,h5,h⟩:=Ax h;cases h;obtain⟨a1,a2⟩:=Mn h1;have a3:=Hj (c:=40) h2;obtain⟨a4,a5⟩:=Su h3;obtain⟨a6,a7,a8⟩:=Sx (u:=id) (fun s x r h=>Su h) _ _ _ _ h4;have a9:=Hj (c:=41) h5;refine⟨?_,⟨a2,by simp,by simp;omega,?_⟩,rfl⟩
 ·rw[a1,a3,a4,a6,a9];simp[A4,Cv]
 ·intro y hy;rcases Acd.1 hy with rfl|hy
  ·exact a5
  ·exact a8 y hy
theorem Wp {s r:Tx}{a:RAtom}(h:I8 s= .got a r):s=Dg a++r/\Fb a:=by
 cases s with
 |nil=>cases h
 |cons b q=>
  unfold I8 at h;dsimp only at h;split at h
  ·rename_i hb;obtain⟨h1,h2,h3⟩:=Fh h;exact⟨by rw[J4 33 hb,h1];simp[Dg,h3],h2⟩
  ·obtain⟨h1,h2,h3⟩:=Fh h;exact⟨by rw[h1];simp[Dg,h3],h2⟩
theorem S0 {s r:Tx}{x:RItem}(h:Ey s= .got x r):s=Co x++46::r/\Jk x:=by
 cases s with
 |nil=>cases h
 |cons b q=>
  unfold Ey at h;dsimp only at h;split at h
  ·rename_i hb;unfold Yt at h;obtain⟨p,q1,h1,h⟩:=Ax h;obtain⟨_,q2,h2,h⟩:=Ax h;cases h;obtain⟨a1,a2⟩:=Mn h1;have a3:=Hj (c:=46) h2;exact⟨by rw[J4 63 hb,a1,a3];simp[Co],a2,by simp,by simp⟩
  ·unfold L5 at h;obtain⟨hd,q1,h1,h⟩:=Ax h;obtain⟨a1,a2,a3⟩:=Fh h1;cases q1 with
   |nil=>cases h
   |cons c q2=>
    unfold L4 at h;dsimp only at h;split at h
    ·rename_i hc;cases h;exact⟨by rw[a1,J4 46 hc];simp[Co,D7],a2.1,by simp,fun _=>⟨a2,a3,by simp,by simp⟩⟩
    ·unfold P6 at h;obtain⟨_,q3,h2,h⟩:=Ax h;obtain⟨_,q4,h3,h⟩:=Ax h;obtain⟨l,q5,h4,h⟩:=Ax h;obtain⟨ls,q6,h5,h⟩:=Ax h;obtain⟨_,q7,h6,h⟩:=Ax h;cases h;have b1:=Hj (c:=58) h2;have b2:=Hj (c:=45) h3;obtain⟨b3,b4⟩:=Wp h4;obtain⟨b5,b6,b7⟩:=Sx (fun s x r h=>Wp h) _ _ _ _ h5;have b8:=Hj (c:=46) h6;refine⟨by rw[a1,b1,b2,b3,b5,b8];simp[Co,D7,Cv],a2.1,by simp,fun _=>⟨a2,a3,by simp;omega,?_⟩⟩;intro y hy;rcases Acd.1 hy with rfl|hy
     ·exact b4
     ·exact b7 y hy
def Da (l:List RItem):Tx:=l.flatMap fun x=>Co x++[46]
theorem El:∀(n:Nat) (s:Tx) (l:List RItem) (r:Tx),Bf n s= .got l r->s=Da l/\r=[]/\l.length<=n/\∀x∈l,Jk x:=by
 intro n;induction n with
 |zero=>
  intro s l r h;cases s with
  |nil=>cases h;simp[Da]
  |cons b q=>cases h
 |succ n ih=>
  intro s l r h;cases s with
  |nil=>cases h;simp[Da]
  |cons b q=>
   unfold Bf at h;obtain⟨x,q1,h1,h⟩:=Ax h;obtain⟨xs,q2,h2,h⟩:=Ax h;cases h;obtain⟨a1,a2⟩:=S0 h1;obtain⟨b1,b2,b3,b4⟩:=ih _ _ _ h2;refine⟨by rw[a1,b1];simp[Da],b2,by simp;omega,?_⟩;intro y hy;rcases Acd.1 hy with rfl|hy
   ·exact a2
   ·exact b4 y hy
end Go.Proofs.YtmoeoppbmhfbpaaGreatDoorH
