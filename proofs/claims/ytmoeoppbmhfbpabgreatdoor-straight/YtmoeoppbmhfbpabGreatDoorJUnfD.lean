import Derived.Test.YtmoeoppbmhfbpabGreatDoorJUnfB
import Derived.Test.YtmoeoppbmhfbpabGreatDoorJFolD
import Derived.Test.YtmoeoppbmhfbpabGreatDoorJFolB
set_option maxHeartbeats 32000000
set_option maxRecDepth 100000
set_option linter.all false
namespace Go.Proofs.YtmoeoppbmhfbpabGreatDoorJ
open Go.Abs
def kH (l:List Int)(a:C6):C6:=⟨a.p,a.ts.map (I0 l)⟩
def xE (l:List Int)(x:Lit):Lit:=⟨x.neg,kH l x.a⟩
def D5 (r:Dq):Dq:=⟨kH (Fa r) r.head,r.body.map (xE (Fa r))⟩
theorem Uz {r:Dq}(hr:zG r):(Fa r).length<=1000:=by
 have h1:=Ec (l:=Gt r) fun a ha=>by
  rcases Aci.1 ha with rfl|ha
  ·exact hr.h3
  ·obtain⟨l,hl,rfl⟩:=Acs.1 ha;exact hr.b3 l hl
 have h2:=hr.bl;have h3:(Gt r).length=r.body.length+1:=by simp[Gt]
 unfold Fa;omega
theorem mY (r:Dq)(c:List AV)(hc:O9 false r c)(hr:zG r)(z:St):
  ACalls Tryz.prog 93 [ag c] z fun x z'=>(∃c',x=ag c'/\O9 false (D5 r) c')/\Keep z z':=by
 have a5:=fun z=>J1 r c hc hr z;have bc:=Uz hr;have bi:=hr.bl;obtain⟨ih,id,b,rfl,hb⟩:=hc;have bh:=EL.length Hh hb;unfold D5;generalize Fa r=lo at a5 bc;have a6:=fun ido z=>Le lo ido r.head.p ih r.head.ts Ad6 (by have:=hr.h3;omega) z;have a7:=fun ido (a:Lit) ia (ha:a∈r.body) z=>Le lo ido a.a.p ia a.a.ts Ad6 (by have:=hr.b3 a ha;omega) z;refine Z9 39 [.cell 2 125] Tryz.func93 ?_
 repeat' (first|refine Z1 ?_|(refine Z8 ?_;intro κ hκ)|(refine Z4 ?_;clear hκ κ)|(refine Z2 ?_ ?_<;>intro h ai<;>try exact Xp)|(refine Z6 ?_;intro idn zn ak am af aa ae ab)|(refine Z5 ?_;refine Xi (a5 _) ?_;rintro _ _ ⟨⟨ido,rfl⟩,a0⟩;(have aj:=a0.obj;have ao:=a0.nobj;simp only[Aa]at ao))|refine Z3 ?_|exact⟨⟩|(apply hκ.out;clear hκ κ))
 rename_i z1;have au:z1.obj z.nobj=[sc (.bool false),ic r.head.p,sl ih r.head.ts.length (Ac r.head.ts),sl id r.body.length b]:=by
  rw[aj _ Aea,Ae Aea,Ao]
 have ap:z1.obj (z.nobj+1)=[sc (.bool false),ic 0,nilS,nilS]:=by
  rw[aj _ Aea,Bu (by rw[Aa];omega) (by rw[Aa];omega)]
 have aw:Keep z z1:=Xs;clear aj a0;refine Bq (Q:=fun e s z'=>e= .normal/\∃o i2:Nat,s 1=ptr z.nobj 0/\s 2=ptr (z.nobj+1) 0/\s 3=sl ido lo.length (icells lo)/\s 4=ptr o 0/\z.nobj+1<o/\o<z'.nobj/\z'.obj z.nobj=[sc (.bool false),ic r.head.p,sl ih r.head.ts.length (Ac r.head.ts),sl id r.body.length b]/\z'.obj (z.nobj+1)=[sc (.bool false),ic 0,nilS,nilS]/\z'.obj o=[sc (.bool false),ic r.head.p,sl i2 r.head.ts.length (Ac (r.head.ts.map (I0 lo))),nilS]/\Keep z z') ?_ ?_
 ·refine A3 Ah (fun _=>True) [8] [0,1,2,3,4] 4 #[true,true,true,true,true,false,false,false,false] Ad9 (fun _ _ _ h=>by cases h.1) ?_;intro κ hκ;refine Z3 ?_;refine hκ.out _ ?_;clear hκ κ;have a8:=fun z=>a6 ido z;refine Dz (rs:=[5,7]) Ad9 (by simp) ?_;intro i hi;simp only[Aci,Ac0,Ad5]at hi;rcases hi with rfl|rfl
  ·refine Ar ?_;intro κ hκ;refine Z3 ?_;refine ACalls.mono (a8 _) ?_;rintro _ z2 ⟨⟨i2,rfl⟩,ad⟩;have ac:=ad.obj;have an:=ad.nobj;refine Z3 ?_;refine hκ.out _ _ ⟨Aq ad,?_⟩;clear hκ κ;refine Dz (rs:=[6,7]) Ad9 (by simp) ?_;intro i hi;simp only[Aci,Ac0,Ad5]at hi;rcases hi with rfl|rfl
   ·refine Ar ?_;intro κ hκ;refine Z3 ?_;refine hκ.out _ _ ⟨Aq ad,?_⟩;clear hκ κ;refine Am (i:=7) Ad9 ?_;refine Ar ?_;intro κ hκ;refine Z3 ?_;refine hκ.out _ _ ⟨Aq (ad.new _),?_⟩;clear hκ κ;refine Am (i:=8) Ad9 ?_;refine Ar ?_;intro κ hκ;refine Z3 ?_;refine hκ.out _ _ ⟨Bt rfl,?_⟩;clear hκ κ;refine A7 Ad9 ⟨rfl,z2.nobj,i2,Ad8,Ad8,Ad8,Ad8,Ad6,Aeb,?_,?_,Ak,?_⟩
    ·rw[Aj Ad6,Ae Ad6,ac _ Ad6,au]
    ·rw[Aj Ad6,Ae Ad6,ac _ Ad6,ap]
    ·exact ((aw.trans ad).new _).put Ad6 _
   ·refine Ar ?_;intro κ hκ;refine Z3 ?_;refine hκ.out _ _ ⟨Aq (ad.new _),?_⟩;clear hκ κ;refine Am (i:=6) Ad9 ?_;refine Ar ?_;intro κ hκ;refine Z3 ?_;refine hκ.out _ _ ⟨Aq (ad.new _),?_⟩;clear hκ κ;refine Am (i:=8) Ad9 ?_;refine Ar ?_;intro κ hκ;refine Z3 ?_;refine hκ.out _ _ ⟨Bt rfl,?_⟩;clear hκ κ;refine A7 Ad9 ⟨rfl,z2.nobj,i2,Ad8,Ad8,Ad8,Ad8,Ad6,Aeb,?_,?_,Ak,?_⟩
    ·rw[Aj Ad6,Ae Ad6,ac _ Ad6,au]
    ·rw[Aj Ad6,Ae Ad6,ac _ Ad6,ap]
    ·exact ((aw.trans ad).new _).put Ad6 _
  ·refine Ar ?_;intro κ hκ;refine Z3 ?_;refine hκ.out _ _ ⟨Aq ((Keep.refl _).new _),?_⟩;clear hκ κ;refine Am (i:=5) Ad9 ?_;refine Ar ?_;intro κ hκ;refine Z3 ?_;refine ACalls.mono (a8 _) ?_;rintro _ z2 ⟨⟨i2,rfl⟩,ad⟩;have ac:=ad.obj;have an:=ad.nobj;simp only[Aa]at an;refine Z3 ?_;refine hκ.out _ _ ⟨Aq (((Keep.refl _).new _).trans ad),?_⟩;clear hκ κ;refine Am (i:=6) Ad9 ?_;refine Ar ?_;intro κ hκ;refine Z3 ?_;refine hκ.out _ _ ⟨Aq (((Keep.refl _).new _).trans ad),?_⟩;clear hκ κ;refine Am (i:=8) Ad9 ?_;refine Ar ?_;intro κ hκ;refine Z3 ?_;refine hκ.out _ _ ⟨Bt rfl,?_⟩;clear hκ κ;refine A7 Ad9 ⟨rfl,z1.nobj,i2,Ad8,Ad8,Ad8,Ad8,Ad6,Aeb,?_,?_,Ak,?_⟩
   ·rw[Aj Ad6,ac _ (by rw[Aa];omega),Ae Ad6,au]
   ·rw[Aj Ad6,ac _ (by rw[Aa];omega),Ae Ad6,ap]
   ·exact ((aw.new _).trans ad).put Ad6 _
 ·rintro e s z2 ⟨rfl,o,i2,h1,h2,h3,h4,bg,az,a9,ax,ob,hK⟩;have a3:=hK.nobj;clear aw au ap ao a6
  repeat' (first|refine Z1 ?_|(refine Z8 ?_;intro κ hκ)|(refine Z4 ?_;clear hκ κ)|(refine Z2 ?_ ?_<;>intro h ai<;>try exact Xp)|(refine Z6 ?_;intro idn zn ak am af aa ae ab)|refine Z3 ?_|exact⟨⟩|(apply hκ.out;clear hκ κ))
  refine Ad (fun m s z'=>∃(k i3:Nat) (xs:List AV),m=r.body.length-k/\k<=r.body.length/\s 2=ptr (z.nobj+1) 0/\s 3=sl ido lo.length (icells lo)/\s 4=ptr o 0/\s 18=sl id r.body.length b/\s 19=ic r.body.length/\s 20=ic k/\Keep z z'/\o<z'.nobj/\z'.obj (z.nobj+1)=[sc (.bool false),ic 0,nilS,nilS]/\z'.obj o=[sc (.bool false),ic r.head.p,sl i2 r.head.ts.length (Ac (r.head.ts.map (I0 lo))),sl i3 k xs]/\Own z z' i3 k/\xs.length=k*3/\Aec (EL Pz ((r.body.take k).map (xE lo)) xs)) r.body.length
   ⟨0,1,[],Ad6,Ad6,by simp[upd,h2],by simp[upd,h3],by simp[upd,h4],Ad8,Ad8,rfl,hK,az,ax,ob,Own.nil _ _,by simp,rfl⟩ ?_
  clear h1 h2 h3 h4 a9 ax ob hK az a3;rintro m s z' ⟨k,i3,xs,rfl,hk,h2,h3,h4,bo,bn,bm,hK,az,ax,ob,hO,bb,hX⟩;have a3:=hK.nobj;by_cases a4:k<r.body.length
  ·have ah:=List.getElem?_eq_getElem a4;obtain⟨ia,rr,hd⟩:=Io hb ah;have hR:=fun z=>a7 ido r.body[k] ia (Ac2 a4) z;generalize r.body[k]=a at hd ah hR;have HX:Aec (∀i4,EL Pz ((r.body.take (k+1)).map (xE lo)) (xs++[sc (.bool a.neg),ic a.a.p,sl i4 a.a.ts.length (Ac (a.a.ts.map (I0 lo)))])):=fun i4=>by
    rw[Abv,ah,Ac5,Abx];exact EL.append hX.out (EL.single ⟨i4,by simp[xE,kH]⟩)
   clear ah hX a7
   repeat' (first|refine Z1 ?_|(refine Z8 ?_;intro κ hκ)|(refine Z4 ?_;clear hκ κ)|(refine Z2 ?_ ?_<;>intro h ai<;>try exact Xp)|(refine Z6 ?_;intro idn zn ak am af aa ae ab)|(refine Z5 ?_;refine Xi (hR _) ?_;rintro _ _ ⟨⟨i4,rfl⟩,av⟩;(have ba:=av.obj;have ay:=av.nobj;simp only[Aa,Ab]at ay))|refine Z3 ?_|exact⟨⟩|(apply hκ.out;clear hκ κ))
   rename_i z4;have bf:=((hK.new [sc (.bool false),ic 0,nilS]).put hK.nobj _).trans av;have be:=Own.keep (Own.put (Own.new hO [sc (.bool false),ic 0,nilS]) z'.nobj [sc (.bool a.neg),ic a.a.p,sl ia a.a.ts.length (Ac a.a.ts)]) av;refine Bn (by first|exact Fp) ((bf.new _).put Ad6 _) (Own.put (Own.new be _) _ _) (by decide) (by rfl) bb (by rfl) (by rfl) (by decide) Ad6 Ad6 ?_;intro idn zn ak am af aa ae ab;simp only[Ab,Aa]at aa;refine Z3 ?_
   repeat' (first|refine Z1 ?_|(refine Z8 ?_;intro κ hκ)|(refine Z4 ?_;clear hκ κ)|(refine Z2 ?_ ?_<;>intro h ai<;>try exact Xp)|(refine Z6 ?_;intro idn zn ak am af aa ae ab)|refine Z3 ?_|exact⟨⟩|(apply hκ.out;clear hκ κ))
   refine⟨r.body.length-(k+1),Ad6,k+1,idn,xs++[sc (.bool a.neg),ic a.a.p,sl i4 a.a.ts.length (Ac (a.a.ts.map (I0 lo)))],?_⟩
   ((repeat' with_reducible refine And.intro ?_ ?_)<;>first|exact Xq|exact (am.put Ad6 _)|exact (Own.put ak _ _)|exact (HX.out i4)|exact Xs)
  ·have bd:k=r.body.length:=Ad6;subst bd;rw[Abt]at hX
   repeat' (first|refine Z1 ?_|(refine Z8 ?_;intro κ hκ)|(refine Z4 ?_;clear hκ κ)|(refine Z2 ?_ ?_<;>intro h ai<;>try exact Xp)|(refine Z6 ?_;intro idn zn ak am af aa ae ab)|refine Z3 ?_|exact⟨⟩|(apply hκ.out;clear hκ κ))
   exact⟨_,rfl,⟨_,rfl,i2,i3,xs,by simp[kH],hX.out⟩,hK.put Ad6 _⟩
theorem gL (r:Dq)(o:Bool)(c:List AV)(n:Nat)(L:List Lit)(i2:Nat)(b2:List AV)(hc:O9 o r c)(bi:r.body.length<=100)(hL:EL Pz L b2)(hl:L.length<=100)(z:St):
  ACalls Tryz.prog 211 [ag c,ic n,sl i2 L.length b2] z fun x z'=>(∃c',x=ag c'/\O9 false ⟨r.head,Du n L r.body⟩ c')/\Keep z z':=by
 obtain⟨ih,id,b,rfl,hb⟩:=hc;have bg:=EL.length Hh hb;have bh:=EL.length Hh hL;refine Z9 47 [.cell 6 125] Tryz.func211 ?_
 repeat' (first|refine Z1 ?_|(refine Z8 ?_;intro κ hκ)|(refine Z4 ?_;clear hκ κ)|(refine Z2 ?_ ?_<;>intro h ae<;>try exact Xp)|(refine Z6 ?_;intro idn zn ah ai ad aa ac ab)|refine Z3 ?_|exact⟨⟩|(apply hκ.out;clear hκ κ))
 refine Ad (fun m s z'=>∃(k i3:Nat) (R:List Lit) (xs:List AV),m=r.body.length-k/\k<=r.body.length/\s 1=ic n/\s 2=sl i2 L.length b2/\s 6=ptr (z.nobj+1) 0/\s 7=ptr (z.nobj+2) 0/\s 16=sl id r.body.length b/\s 17=ic r.body.length/\s 18=ic k/\Keep z z'/\z.nobj+2<z'.nobj/\z'.obj (z.nobj+1)=[sc (.bool false),ic 0,nilS,nilS]/\z'.obj (z.nobj+2)=[sc (.bool false),ic r.head.p,sl ih r.head.ts.length (Ac r.head.ts),sl i3 R.length xs]/\Own z z' i3 R.length/\xs.length=R.length*3/\R.length<=k*(L.length+1)/\Aec (R=Du n L (r.body.take k)/\EL Pz R xs)) r.body.length
  ⟨0,1,[],[],Ad6,Ad6,by simp[upd,initS],by simp[upd,initS],Ad8,Ad8,Ad8,Ad8,rfl,?_,?_,?_,?_,Own.nil _ _,by simp,by simp,⟨by simp[Du],rfl⟩⟩ ?_
 ·exact ((((Keep.refl z).new _).new _).new _).put Ad6 _
 ·simp only[Ab,Aa];omega
 ·rw[Aj Ad6,Ae Aea,Bu (by rw[Aa];omega) (by rw[Aa];omega)]
 ·rw[show z.nobj+2=z.nobj+1+1 by omega,Ak];rfl
 rintro m s z' ⟨k,i3,R,xs,rfl,hk,h1,h2,h6,h7,a4,a3,a0,hK,az,av,ao,hO,ap,be,hA⟩;have ay:=hK.nobj;by_cases ba:k<r.body.length
 ·have af:=List.getElem?_eq_getElem ba;obtain⟨ia,rr,hd⟩:=Io hb af;generalize r.body[k]=a at hd af;have bl:R.length<=10100:=Abg be (Abg (Adv (by omega:k<=100) (by omega:L.length+1<=101)) (by decide));have ak:=Mx (n:=n) (o:=L) r.body (k+1);have aj:=Rz (n:=n) (o:=L) af;rw[<-hA.out.1]at aj;by_cases am:k=n
  ·rw[if_pos am]at aj;have a9:((k:Int) !=(n:Int))=false:=by simp[am]
   have a5:Aec _:=aj;have a6:Aec (EL Pz R xs):=hA.out.2;rw[aj,Ab6]at ak;clear aj af hA am
   repeat' (first|refine Z1 ?_|(refine Z8 ?_;intro κ hκ)|(refine Z4 ?_;clear hκ κ)|(refine Z2 ?_ ?_<;>intro h ae<;>try exact Xp)|(refine Z6 ?_;intro idn zn ah ai ad aa ac ab)|refine Z3 ?_|exact⟨⟩|(apply hκ.out;clear hκ κ))
   refine Ad (fun m s z2=>∃(j i3:Nat) (ys:List AV),m=L.length-j/\j<=L.length/\s 1=ic n/\s 2=sl i2 L.length b2/\s 6=ptr (z.nobj+1) 0/\s 7=ptr (z.nobj+2) 0/\s 16=sl id r.body.length b/\s 17=ic r.body.length/\s 18=ic k/\s 32=sl i2 L.length b2/\s 33=ic L.length/\s 34=ic j/\Keep z z2/\z.nobj+2<z2.nobj/\z2.obj (z.nobj+1)=[sc (.bool false),ic 0,nilS,nilS]/\z2.obj (z.nobj+2)=[sc (.bool false),ic r.head.p,sl ih r.head.ts.length (Ac r.head.ts),sl i3 (R.length+j) ys]/\Own z z2 i3 (R.length+j)/\ys.length=(R.length+j)*3/\Aec (EL Pz (R++L.take j) ys)) L.length
    ⟨0,i3,xs,Ad6,Ad6,Ad7,Ad7,Ad7,Ad7,Ad7,Ad7,Ad7,Ad7,Ad7,Ad8,Xs,Aeb,by rw[Aj Ad6,Ae Ad6,av],by rw[Aj Ad6,Ae Ad6,ao];rfl,(by simpa using Own.put (Own.new hO _) _ _),by simpa using ap,by simpa using a6⟩ ?_
   clear h1 h2 h6 h7 a4 a3 a0 hK hO ay ap a6 av ao az;rintro m s z2 ⟨j,i3,ys,rfl,hj,h1,h2,h6,h7,a4,a3,a0,bp,bo,bn,hK,az,av,ao,hO,aw,an⟩;have ay:=hK.nobj;by_cases ax:j<L.length
   ·have au:=List.getElem?_eq_getElem ax;obtain⟨ja,rj,bd⟩:=Io hL au;generalize L[j]=y at bd au;have bf:Aec (EL Pz (R++L.take (j+1)) (ys++[sc (.bool y.neg),ic y.a.p,sl ja y.a.ts.length (Ac y.a.ts)])):=by
     rw[Aec,Abv,au,Ac5,<-Ab8];exact EL.append an.out (EL.single ⟨ja,rfl⟩)
    clear au an
    repeat' (first|refine Z1 ?_|(refine Z8 ?_;intro κ hκ)|(refine Z4 ?_;clear hκ κ)|(refine Z2 ?_ ?_<;>intro h ae<;>try exact Xp)|(refine Z6 ?_;intro idn zn ah ai ad aa ac ab)|refine Z3 ?_|exact⟨⟩|(apply hκ.out;clear hκ κ))
    refine Bn (by first|exact Fp) ((hK.new _).put hK.nobj _) (Own.put (Own.new hO _) _ _) (by decide) (by rfl) (aw) (by rfl) (by rfl) (by decide) Ad6 Ad6 ?_;intro idn zn ah ai ad aa ac ab;simp only[Ab,Aa]at aa;refine Z3 ?_
    repeat' (first|refine Z1 ?_|(refine Z8 ?_;intro κ hκ)|(refine Z4 ?_;clear hκ κ)|(refine Z2 ?_ ?_<;>intro h ae<;>try exact Xp)|(refine Z6 ?_;intro idn zn ah ai ad aa ac ab)|refine Z3 ?_|exact⟨⟩|(apply hκ.out;clear hκ κ))
    refine⟨L.length-(j+1),Ad6,j+1,idn,ys++[sc (.bool y.neg),ic y.a.p,sl ja y.a.ts.length (Ac y.a.ts)],?_⟩
    ((repeat' with_reducible refine And.intro ?_ ?_)<;>first|exact Xq|exact (bf)|exact (ai.put Ad6 _)|exact (Own.put ah _ _)|exact ((by simp[aw];omega))|exact Xs)
   ·have bc:j=L.length:=Ad6;subst bc;rw[Abt]at an;have HA:Aec (R++L=Du n L (r.body.take (k+1))/\EL Pz (R++L) ys):=⟨a5.out.symm,an.out⟩;clear an a5;have a7:ys.length=(R++L).length*3:=by rw[aw,Ab6]
    have bm:Own z z2 i3 (R++L).length:=by rw[Ab6];exact hO
    rw[<-Ab6]at ao;have a8:(R++L).length<=(k+1)*(L.length+1):=by rw[Ab6];exact ak
    repeat' (first|refine Z1 ?_|(refine Z8 ?_;intro κ hκ)|(refine Z4 ?_;clear hκ κ)|(refine Z2 ?_ ?_<;>intro h ae<;>try exact Xp)|(refine Z6 ?_;intro idn zn ah ai ad aa ac ab)|refine Z3 ?_|exact⟨⟩|(apply hκ.out;clear hκ κ))
    refine⟨r.body.length-(k+1),Ad6,k+1,i3,R++L,ys,?_⟩
    ((repeat' with_reducible refine And.intro ?_ ?_)<;>first|exact Xq|exact (HA)|exact Xs)
  ·rw[if_neg am]at aj;have a9:((k:Int) !=(n:Int))=true:=by simpa using (by omega:¬(k:Int)=n)
   have HA:Aec (R++[a]=Du n L (r.body.take (k+1))/\EL Pz (R++[a]) (xs++[sc (.bool a.neg),ic a.a.p,sl ia a.a.ts.length (Ac a.a.ts)])):=⟨aj.symm,EL.append hA.out.2 (EL.single ⟨ia,rfl⟩)⟩;rw[aj]at ak;clear aj af hA am
   repeat' (first|refine Z1 ?_|(refine Z8 ?_;intro κ hκ)|(refine Z4 ?_;clear hκ κ)|(refine Z2 ?_ ?_<;>intro h ae<;>try exact Xp)|(refine Z6 ?_;intro idn zn ah ai ad aa ac ab)|refine Z3 ?_|exact⟨⟩|(apply hκ.out;clear hκ κ))
   refine Bn (by first|exact Fp) ((hK.new _).put hK.nobj _) (Own.put (Own.new hO _) _ _) (by decide) (by rfl) (ap) (by rfl) (by rfl) (by decide) Ad6 Ad6 ?_;intro idn zn ah ai ad aa ac ab;simp only[Ab,Aa]at aa;refine Z3 ?_
   repeat' (first|refine Z1 ?_|(refine Z8 ?_;intro κ hκ)|(refine Z4 ?_;clear hκ κ)|(refine Z2 ?_ ?_<;>intro h ae<;>try exact Xp)|(refine Z6 ?_;intro idn zn ah ai ad aa ac ab)|refine Z3 ?_|exact⟨⟩|(apply hκ.out;clear hκ κ))
   refine⟨r.body.length-(k+1),Ad6,k+1,idn,R++[a],xs++[sc (.bool a.neg),ic a.a.p,sl ia a.a.ts.length (Ac a.a.ts)],?_⟩
   ((repeat' with_reducible refine And.intro ?_ ?_)<;>first|exact Xq|exact (HA)|exact (ai.put Ad6 _)|exact ((by simpa using Own.put ah _ _))|exact ((by simp[ap];omega))|exact ((by simpa using Ak))|exact Xs)
 ·have bb:k=r.body.length:=Ad6;subst bb;obtain⟨e1,e2⟩:=hA.out;rw[Abt]at e1;have HE:Aec (∀c,c=[sc (.bool false),ic r.head.p,sl ih r.head.ts.length (Ac r.head.ts),sl i3 R.length xs]->O9 false ⟨r.head,Du n L r.body⟩ c):=fun c hc=>by
   rw[<-e1];exact⟨ih,i3,xs,hc,e2⟩
  clear hA e1 e2
  repeat' (first|refine Z1 ?_|(refine Z8 ?_;intro κ hκ)|(refine Z4 ?_;clear hκ κ)|(refine Z2 ?_ ?_<;>intro h ae<;>try exact Xp)|(refine Z6 ?_;intro idn zn ah ai ad aa ac ab)|refine Z3 ?_|exact⟨⟩|(apply hκ.out;clear hκ κ))
  exact⟨_,rfl,⟨_,rfl,HE.out _ rfl⟩,hK.put Ad6 _⟩
def OT (t:Tm):Prop:=∃w,UT w/\Az w=t
theorem OT.dec {t:Tm}(h:OT t):UT (O1 t)/\Az (O1 t)=t:=by
 obtain⟨w,hu,rfl⟩:=h;rw[hu.dec.1];exact⟨hu,rfl⟩
theorem eP {k:Nat}(hk:k<26):UT [Qc k]/\Az [Qc k]=(true,(k:Int)):=by
 have h1:=Jb (k:=(k:Int)) Ad6 Ad6;have hv:Al [Qc k]=true:=h1;refine⟨⟨.inl hv,⟨by simp,fun b hb=>?_⟩,by simp,fun _=>⟨k,hk,rfl⟩⟩,?_⟩
 ·simp at hb;subst hb;exact .inl h1
 ·rw[D7 h1,Ja Ad6 Ad6];congr 1;omega
theorem yO {k:Nat}(hk:k<26):OT (true,(k:Int)):=⟨_,(eP hk).1,(eP hk).2⟩
def xP (t:Tm):Prop:=zE t/\(t.1=false->OT t)
theorem OT.w {t:Tm}(h:OT t):xP t:=by
 refine⟨fun hv=>?_,fun _=>h⟩;obtain⟨w,hu,rfl⟩:=h;rw[E6]at hv;obtain⟨k,hk,-,e⟩:=hu.enc hv;exact⟨k,Ad6,by rw[e]⟩
structure PtW (P:List Tm):Prop where
 len:P.length=52
 w:∀t∈P,xP t
theorem PtW.of {P:List Tm}(h:PtW P){t:Tm}(ht:xP t):xP (P8 P t):=by
 unfold P8;split
 ·rename_i hv;cases e:P[t.2.toNat]? with
  |none=>exact ht
  |some u=>exact h.w u (Abm e)
 ·exact ht
theorem PtW.wi {P:List Tm}(h:PtW P){v t:Tm}(ht:xP t):PtW (V3 P v t):=
 ⟨by rw[X8];exact h.len,fun u hu=>by
  obtain⟨x,hx,rfl⟩:=Acs.1 hu;split
  ·exact ht
  ·exact h.w x hx⟩
theorem ot_zero:OT (false,0):=⟨[48],⟨.inr ⟨rfl,(by show Lib.itoa 0=[48];simp[Lib.itoa,Lib.decDigits]),by decide,by decide⟩,⟨by simp,by decide⟩,by simp,fun h=>by cases h⟩,rfl⟩
theorem sQ:PtW aprt:=⟨dZ,fun t ht=>by
 obtain⟨i,hi,rfl⟩:=Acs.1 ht;split
 ·exact⟨fun _=>⟨26+i,Ad6,by simp⟩,fun h=>by cases h⟩
 ·exact ot_zero.w⟩
theorem qO:PtW pidn:=⟨bH,fun t ht=>by
 obtain⟨i,hi,rfl⟩:=Acs.1 ht
 exact⟨fun _=>⟨i,by simpa using hi,rfl⟩,fun h=>by cases h⟩⟩
theorem gD:∀{ts us P P':List Tm},PtW P->(∀t∈ts,xP t)->(∀t∈us,xP t)->Em P ts us=some P'->PtW P'
 |[],_,P,P',h,_,_,e=>by cases e;exact h
 |_::_,[],_,_,_,_,_,e=>by cases e
 |t::ts,u::us,P,P',h,h1,h2,e=>by
  unfold Em at e;obtain⟨Q,hQ,e⟩:=Option.bind_eq_some_iff.1 e;refine gD ?_ (fun x hx=>h1 x (by simp[hx])) (fun x hx=>h2 x (by simp[hx])) e;unfold cB at hQ;have ht:=h.of (h1 t (by simp));have hu:=h.of (h2 u (by simp));split at hQ
  ·cases hQ;exact h
  ·split at hQ
   ·cases hQ;exact h.wi ht
   ·split at hQ
    ·cases hQ;exact h.wi hu
    ·cases hQ
def xQ (q:Tx):Prop:=J3 q/\q.length<=1000
structure AtW (N:List Tx)(ar:Tx->Nat)(a:C6):Prop where
 nm:∃q∈N,a.p=(N.idxOf q:Nat)/\xQ q/\a.ts.length=ar q
 pos:0<a.ts.length
 le3:a.ts.length<=3
 w:∀t∈a.ts,xP t
structure RuW (N:List Tx)(ar:Tx->Nat)(r:Dq):Prop where
 hd:AtW N ar r.head
 bd:∀l∈r.body,AtW N ar l.a
 bl:r.body.length<=100
theorem RuW.r52 {N:List Tx}{ar:Tx->Nat}{r:Dq}(h:RuW N ar r):zG r:=⟨h.hd.le3,fun l hl=>(h.bd l hl).le3,h.bl,fun t ht=>(h.hd.w t ht).1,fun l hl t ht=>((h.bd l hl).w t ht).1⟩
theorem AtW.pin {N:List Tx}{ar:Tx->Nat}{a:C6}(h:AtW N ar a){P:List Tm}(hP:PtW P):AtW N ar (Ya P a):=by
 obtain⟨q,h1,h2,h3,h4⟩:=h.nm
 exact⟨⟨q,h1,h2,h3,by simp[Ya,h4]⟩,by simpa[Ya]using h.pos,by simpa[Ya]using h.le3,fun t ht=>by
  obtain⟨u,hu,rfl⟩:=Acs.1 ht
  exact hP.of (h.w u hu)⟩
theorem RuW.pin {N:List Tx}{ar:Tx->Nat}{r:Dq}(h:RuW N ar r){P:List Tm}(hP:PtW P):RuW N ar (Gw P r):=
 ⟨h.hd.pin hP,fun l hl=>by
  obtain⟨k,hk,rfl⟩:=Acs.1 hl
  exact (h.bd k hk).pin hP,by simpa[Gw]using h.bl⟩
theorem RuW.join {N:List Tx}{ar:Tx->Nat}{r s:Dq}(h:RuW N ar r)(g:RuW N ar s)(n:Nat)(h5:r.body.length<=5)(g5:s.body.length<=5):RuW N ar ⟨r.head,Du n s.body r.body⟩:=
 ⟨h.hd,fun l hl=>by
  rcases X6 hl with hl|hl
  ·exact h.bd l hl
  ·exact g.bd l hl,by
  have h1:=Mx (n:=n) (o:=s.body) r.body r.body.length;rw[Abt]at h1;have h2:r.body.length*(s.body.length+1)<=5*6:=Adv h5 Ad6;show (Du n s.body r.body).length<=100
  omega⟩
theorem iO {N:List Tx}{ar:Tx->Nat}{x:RItem}(hr:RuI N ar x)(hm:xS N x)(ho:x.out=false)(hw:Dh x):RuW N ar (A6 N x):=by
 obtain⟨w1,w2,w3,w4⟩:=hw.2.2 ho;have key:∀a∈Af x,AtI N ar a->Ea a->AtW N ar (Cm N a):=fun a ha hA hW=>
  ⟨⟨a.pred,hA.mem,rfl,⟨hW.1,(hm.at_ a ha).2.1⟩,by simp[Cm,hA.len]⟩,by simpa[Cm,List.length_pos_iff]using hW.2.1,by simpa[Cm]using hA.le3,fun t ht=>by
   obtain⟨w,hw,rfl⟩:=Acs.1 ht
   exact OT.w ⟨w,(hm.at_ a ha).2.2 w hw,rfl⟩⟩
 refine⟨key _ (Bv (.inl ⟨ho,rfl⟩)) hr.head w1,fun l hl=>?_,by simp[A6];omega⟩;obtain⟨a,ha,rfl⟩:=Acs.1 hl;exact key a (Bv (.inr ha)) (hr.body a ha) (w4 a ha)
def eR (N:List Tx)(x:RItem)(k:Nat)(y:RItem):Option Dq:=
 (x.body[k]?).bind fun a=>(Em pidn (a.terms.map Az) (Gw aprt (A6 N y)).head.ts).map fun P=>D5 (Gw P ⟨(A6 N x).head,Du k (Gw aprt (A6 N y)).body (A6 N x).body⟩)
def Ks (q:Tx)(y:RItem):Bool:=!y.out&&decide (y.head.pred=q)
def J5 (N:List Tx)(l:List RItem)(x:RItem)(k:Nat)(q:Tx):List Dq:=(l.filter (Ks q)).filterMap (eR N x k)
structure AtO (N:List Tx)(ar:Tx->Nat)(a:C6):Prop where
 nm:∃q∈N,a.p=(N.idxOf q:Nat)/\xQ q/\a.ts.length=ar q
 pos:0<a.ts.length
 le3:a.ts.length<=3
 ot:∀t∈a.ts,OT t
structure RuO (N:List Tx)(ar:Tx->Nat)(r:Dq):Prop where
 hd:AtO N ar r.head
 bd:∀l∈r.body,AtO N ar l.a
def Mb (N:List Tx)(b:Bool)(a:C6):Ai:=⟨b,(N[a.p.toNat]?).getD [],a.ts.map O1⟩
def C3 (N:List Tx)(r:Dq):RItem:=⟨false,Mb N false r.head,r.body.map fun l=>Mb N l.neg l.a⟩
theorem AtO.at {N:List Tx}{ar:Tx->Nat}{a:C6}(h:AtO N ar a)(b:Bool):(Mb N b a).pred∈N/\xQ (Mb N b a).pred/\(Mb N b a).terms.length=ar (Mb N b a).pred/\Cm N (Mb N b a)=a/\∀t∈(Mb N b a).terms,UT t:=by
 obtain⟨q,h1,h2,h3,h4⟩:=h.nm;have e:(Mb N b a).pred=q:=by
  show (N[a.p.toNat]?).getD []=q;rw[h2,Adu,List.getElem?_eq_getElem (Ac4 h1),Ac3];rfl
 rw[e];refine⟨h1,h3,by simp[Mb,h4],?_,fun t ht=>?_⟩
 ·unfold Cm;rw[e,<-h2];show (⟨a.p,(a.ts.map O1).map Az⟩:C6)=a;have:(a.ts.map O1).map Az=a.ts:=by
   rw[Aby]
   conv=>rhs;rw[<-List.map_id a.ts]
   exact Acu fun t ht=>(h.ot t ht).dec.2
  rw[this]
 ·obtain⟨u,hu,rfl⟩:=Acs.1 ht;exact (h.ot u hu).dec.1
theorem RuO.rul {N:List Tx}{ar:Tx->Nat}{r:Dq}(h:RuO N ar r):A6 N (C3 N r)=r:=by
 obtain⟨hd,bd⟩:=r;unfold A6 C3;simp only[(h.hd.at false).2.2.2.1,Aby];congr 1
 conv=>rhs;rw[<-List.map_id bd]
 refine Acu fun l hl=>?_;show (⟨(Mb N l.neg l.a).nt,Cm N (Mb N l.neg l.a)⟩:Lit)=l;rw[((h.bd l hl).at l.neg).2.2.2.1];rfl
theorem eI {N:List Tx}:∀{l:List Ai} {b:List AV},(∀a∈l,a.pred∈N)->EL Pz (l.map (Hd N)) b->EL (PL N) l b
 |[],_,_,h=>h
 |a::l,_,g,⟨c,d,⟨id,e⟩,h2,e2⟩=>⟨c,d,⟨g a (by simp),id,by rw[e];simp[Hd,Cm,E7]⟩,eI (fun b hb=>g b (by simp[hb])) h2,e2⟩
theorem tC {N:List Tx}{x:RItem}{c:List AV}(h:PI N x c):O9 x.out (A6 N x) c:=by
 obtain⟨hm,ih,id,b,hb,rfl⟩:=h;exact⟨ih,id,b,by simp[A6,Cm,E7],iV hb⟩
theorem eG {N:List Tx}{x:RItem}{c:List AV}(h1:x.head.pred∈N)(h2:∀a∈x.body,a.pred∈N)(h:O9 x.out (A6 N x) c):PI N x c:=by
 obtain⟨ih,id,b,rfl,hb⟩:=h;exact⟨h1,ih,id,b,eI h2 hb,by simp[A6,Cm,E7]⟩
theorem RuO.pi {N:List Tx}{ar:Tx->Nat}{r:Dq}(h:RuO N ar r){c:List AV}(hc:O9 false r c):PI N (C3 N r) c:=by
 refine eG (h.hd.at false).1 (fun a ha=>?_) (by rw[h.rul];exact hc);obtain⟨l,hl,rfl⟩:=Acs.1 ha;exact ((h.bd l hl).at l.neg).1
theorem RuO.atoms {N:List Tx}{ar:Tx->Nat}{r:Dq}(h:RuO N ar r){a:Ai}(ha:a∈Af (C3 N r)):∃m b,a=Mb N b m/\AtO N ar m:=by
 have aa:a=Mb N false r.head\/a∈r.body.map fun l=>Mb N l.neg l.a:=by simpa[Af,C3]using ha
 rcases aa with rfl|aa
 ·exact⟨_,_,rfl,h.hd⟩
 ·obtain⟨l,hl,rfl⟩:=Acs.1 aa;exact⟨_,_,rfl,h.bd l hl⟩
theorem RuO.msr {N:List Tx}{ar:Tx->Nat}{r:Dq}(h:RuO N ar r)(hb:r.body.length<=1000):xS N (C3 N r):=
 ⟨(fun e=>by cases e),by simpa[C3]using hb,(h.hd.at false).1,(h.hd.at false).2.1.2,fun a ha=>by
  obtain⟨m,b,rfl,hm⟩:=h.atoms ha
  exact⟨by simpa[Mb]using hm.le3,(hm.at b).2.1.2,(hm.at b).2.2.2.2⟩⟩
theorem AtW.ren {N:List Tx}{ar:Tx->Nat}{a:C6}(h:AtW N ar a){vs:List Int}(hv:∀v,(true,v)∈a.ts->v∈vs)(hl:vs.length<=26):AtO N ar (kH vs a):=by
 obtain⟨q,h1,h2,h3,h4⟩:=h.nm;refine⟨⟨q,h1,h2,h3,by simp[kH,h4]⟩,by simpa[kH]using h.pos,by simpa[kH]using h.le3,fun t ht=>?_⟩;obtain⟨⟨b,v⟩,hu,rfl⟩:=Acs.1 ht;cases b with
 |true=>
  have hm:=hv v hu;have hi:=Ac4 hm;have e:I0 vs (true,v)=(true,((vs.idxOf v:Nat):Int)):=by simp[I0,mN,hm]
  rw[e];exact yO Ad6
 |false=>exact (h.w _ hu).2 rfl
theorem RuW.ord {N:List Tx}{ar:Tx->Nat}{r:Dq}(h:RuW N ar r)(h5:r.body.length<=5):RuO N ar (D5 r):=by
 have hl:(Fa r).length<=26:=by
  have h1:=Ec (l:=Gt r) fun a ha=>by
   rcases Aci.1 ha with rfl|ha
   ·exact h.hd.le3
   ·obtain⟨l,hl,rfl⟩:=Acs.1 ha;exact (h.bd l hl).le3
  have h3:(Gt r).length=r.body.length+1:=by simp[Gt]
  unfold Fa;omega
 refine⟨h.hd.ren (fun v hv=>(Cr _ _).2 ⟨r.head,by simp[Gt],hv⟩) hl,fun l hm=>?_⟩;obtain⟨k,hk,rfl⟩:=Acs.1 hm;exact (h.bd k hk).ren (fun v hv=>(Cr _ _).2 ⟨k.a,by simp only[Gt,Aci,Acs];exact .inr ⟨k,hk,rfl⟩,hv⟩) hl
end Go.Proofs.YtmoeoppbmhfbpabGreatDoorJ
