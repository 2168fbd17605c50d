import Derived.Test.YtmoeoppbmhfbpabGreatDoorGUnfB
import Derived.Test.YtmoeoppbmhfbpabGreatDoorGAgrB
import Derived.Test.YtmoeoppbmhfbpabGreatDoorGImpB
set_option maxHeartbeats 32000000
set_option maxRecDepth 100000
set_option linter.all false
namespace Go.Proofs.YtmoeoppbmhfbpabGreatDoorG
open Go.Abs
def cT (l:List Int)(a:C4):C4:=⟨a.p,a.ts.map (Ge l)⟩
def xY (l:List Int)(x:Lit):Lit:=⟨x.neg,cT l x.a⟩
def Eg (r:D8):D8:=⟨cT (Eh r) r.head,r.body.map (xY (Eh r))⟩
theorem V1 {r:D8}(hr:R52 r):(Eh r).length<=1000:=by
 have h1:=Es (l:=Gc r) fun a ha=>by
  rcases Aeq.1 ha with rfl|ha
  ·exact hr.h3
  ·obtain⟨l,hl,rfl⟩:=Aey.1 ha;exact hr.b3 l hl
 have h2:=hr.bl;have h3:(Gc r).length=r.body.length+1:=by simp[Gc]
 unfold Eh;omega
theorem oW (r:D8)(c:List AV)(hc:Qd false r c)(hr:R52 r)(z:St):
  ACalls Tryz.prog 93 [ag c] z fun x z'=>(∃c',x=ag c'/\Qd false (Eg r) c')/\Keep z z':=by
 have a5:=fun z=>Kh r c hc hr z;have bd:=V1 hr;have bm:=hr.bl;obtain⟨ih,id,b,rfl,hb⟩:=hc;have bi:=EL.length F6 hb;unfold Eg;generalize Eh r=lo at a5 bd;have a6:=fun ido z=>L8 lo ido r.head.p ih r.head.ts Agm (by have:=hr.h3;omega) z;have a7:=fun ido (a:Lit) ia (ha:a∈r.body) z=>L8 lo ido a.a.p ia a.a.ts Agm (by have:=hr.b3 a ha;omega) z;refine Z9 39 [.cell 2 125] Tryz.func93 ?_
 repeat' (first|refine Z1 ?_|(refine Z8 ?_;intro κ hκ)|(refine Z4 ?_;clear hκ κ)|(refine Z2 ?_ ?_<;>intro h ai<;>try exact Xp)|(refine Z6 ?_;intro idn zn ak am af aa ae ab)|(refine Z5 ?_;refine Xi (a5 _) ?_;rintro _ _ ⟨⟨ido,rfl⟩,a0⟩;(have aj:=a0.obj;have ao:=a0.nobj;simp only[Aa]at ao))|refine Z3 ?_|exact⟨⟩|(apply hκ.out;clear hκ κ))
 rename_i z1;have au:z1.obj z.nobj=[sc (.bool false),ic r.head.p,sl ih r.head.ts.length (Ac r.head.ts),sl id r.body.length b]:=by
  rw[aj _ Agq,Af Agq,Ap]
 have ap:z1.obj (z.nobj+1)=[sc (.bool false),ic 0,nilS,nilS]:=by
  rw[aj _ Agq,Bs (by rw[Aa];omega) (by rw[Aa];omega)]
 have aw:Keep z z1:=Xs;clear aj a0;refine B6 (Q:=fun e s z'=>e= .normal/\∃o i2:Nat,s 1=ptr z.nobj 0/\s 2=ptr (z.nobj+1) 0/\s 3=sl ido lo.length (As lo)/\s 4=ptr o 0/\z.nobj+1<o/\o<z'.nobj/\z'.obj z.nobj=[sc (.bool false),ic r.head.p,sl ih r.head.ts.length (Ac r.head.ts),sl id r.body.length b]/\z'.obj (z.nobj+1)=[sc (.bool false),ic 0,nilS,nilS]/\z'.obj o=[sc (.bool false),ic r.head.p,sl i2 r.head.ts.length (Ac (r.head.ts.map (Ge lo))),nilS]/\Keep z z') ?_ ?_
 ·refine Bh Al (fun _=>True) [8] [0,1,2,3,4] 4 #[true,true,true,true,true,false,false,false,false] Agp (fun _ _ _ h=>by cases h.1) ?_;intro κ hκ;refine Z3 ?_;refine hκ.out _ ?_;clear hκ κ;have a8:=fun z=>a6 ido z;refine D4 (rs:=[5,7]) Agp (by simp) ?_;intro i hi;simp only[Aeq,Ae8,Agk]at hi;rcases hi with rfl|rfl
  ·refine Ar ?_;intro κ hκ;refine Z3 ?_;refine ACalls.mono (a8 _) ?_;rintro _ z2 ⟨⟨i2,rfl⟩,ad⟩;have ac:=ad.obj;have an:=ad.nobj;refine Z3 ?_;refine hκ.out _ _ ⟨Aq ad,?_⟩;clear hκ κ;refine D4 (rs:=[6,7]) Agp (by simp) ?_;intro i hi;simp only[Aeq,Ae8,Agk]at hi;rcases hi with rfl|rfl
   ·refine Ar ?_;intro κ hκ;refine Z3 ?_;refine hκ.out _ _ ⟨Aq ad,?_⟩;clear hκ κ;refine Ao (i:=7) Agp ?_;refine Ar ?_;intro κ hκ;refine Z3 ?_;refine hκ.out _ _ ⟨Aq (ad.new _),?_⟩;clear hκ κ;refine Ao (i:=8) Agp ?_;refine Ar ?_;intro κ hκ;refine Z3 ?_;refine hκ.out _ _ ⟨Bq rfl,?_⟩;clear hκ κ;refine A6 Agp ⟨rfl,z2.nobj,i2,Ago,Ago,Ago,Ago,Agm,Ags,?_,?_,Aj,?_⟩
    ·rw[Ai Agm,Af Agm,ac _ Agm,au]
    ·rw[Ai Agm,Af Agm,ac _ Agm,ap]
    ·exact ((aw.trans ad).new _).put Agm _
   ·refine Ar ?_;intro κ hκ;refine Z3 ?_;refine hκ.out _ _ ⟨Aq (ad.new _),?_⟩;clear hκ κ;refine Ao (i:=6) Agp ?_;refine Ar ?_;intro κ hκ;refine Z3 ?_;refine hκ.out _ _ ⟨Aq (ad.new _),?_⟩;clear hκ κ;refine Ao (i:=8) Agp ?_;refine Ar ?_;intro κ hκ;refine Z3 ?_;refine hκ.out _ _ ⟨Bq rfl,?_⟩;clear hκ κ;refine A6 Agp ⟨rfl,z2.nobj,i2,Ago,Ago,Ago,Ago,Agm,Ags,?_,?_,Aj,?_⟩
    ·rw[Ai Agm,Af Agm,ac _ Agm,au]
    ·rw[Ai Agm,Af Agm,ac _ Agm,ap]
    ·exact ((aw.trans ad).new _).put Agm _
  ·refine Ar ?_;intro κ hκ;refine Z3 ?_;refine hκ.out _ _ ⟨Aq ((Keep.refl _).new _),?_⟩;clear hκ κ;refine Ao (i:=5) Agp ?_;refine Ar ?_;intro κ hκ;refine Z3 ?_;refine ACalls.mono (a8 _) ?_;rintro _ z2 ⟨⟨i2,rfl⟩,ad⟩;have ac:=ad.obj;have an:=ad.nobj;simp only[Aa]at an;refine Z3 ?_;refine hκ.out _ _ ⟨Aq (((Keep.refl _).new _).trans ad),?_⟩;clear hκ κ;refine Ao (i:=6) Agp ?_;refine Ar ?_;intro κ hκ;refine Z3 ?_;refine hκ.out _ _ ⟨Aq (((Keep.refl _).new _).trans ad),?_⟩;clear hκ κ;refine Ao (i:=8) Agp ?_;refine Ar ?_;intro κ hκ;refine Z3 ?_;refine hκ.out _ _ ⟨Bq rfl,?_⟩;clear hκ κ;refine A6 Agp ⟨rfl,z1.nobj,i2,Ago,Ago,Ago,Ago,Agm,Ags,?_,?_,Aj,?_⟩
   ·rw[Ai Agm,ac _ (by rw[Aa];omega),Af Agm,au]
   ·rw[Ai Agm,ac _ (by rw[Aa];omega),Af Agm,ap]
   ·exact ((aw.new _).trans ad).put Agm _
 ·rintro e s z2 ⟨rfl,o,i2,h1,h2,h3,h4,bh,az,a9,ax,ob,hK⟩;have a3:=hK.nobj;clear aw au ap ao a6
  repeat' (first|refine Z1 ?_|(refine Z8 ?_;intro κ hκ)|(refine Z4 ?_;clear hκ κ)|(refine Z2 ?_ ?_<;>intro h ai<;>try exact Xp)|(refine Z6 ?_;intro idn zn ak am af aa ae ab)|refine Z3 ?_|exact⟨⟩|(apply hκ.out;clear hκ κ))
  refine Ag (fun m s z'=>∃(k i3:Nat) (xs:List AV),m=r.body.length-k/\k<=r.body.length/\s 2=ptr (z.nobj+1) 0/\s 3=sl ido lo.length (As lo)/\s 4=ptr o 0/\s 18=sl id r.body.length b/\s 19=ic r.body.length/\s 20=ic k/\Keep z z'/\o<z'.nobj/\z'.obj (z.nobj+1)=[sc (.bool false),ic 0,nilS,nilS]/\z'.obj o=[sc (.bool false),ic r.head.p,sl i2 r.head.ts.length (Ac (r.head.ts.map (Ge lo))),sl i3 k xs]/\Own z z' i3 k/\xs.length=k*3/\Agt (EL Pi ((r.body.take k).map (xY lo)) xs)) r.body.length
   ⟨0,1,[],Agm,Agm,by simp[upd,h2],by simp[upd,h3],by simp[upd,h4],Ago,Ago,rfl,hK,az,ax,ob,Own.nil _ _,by simp,rfl⟩ ?_
  clear h1 h2 h3 h4 a9 ax ob hK az a3;rintro m s z' ⟨k,i3,xs,rfl,hk,h2,h3,h4,bp,bo,bn,hK,az,ax,ob,hO,bb,hX⟩;have a3:=hK.nobj;by_cases a4:k<r.body.length
  ·have ah:=List.getElem?_eq_getElem a4;obtain⟨ia,rr,hd⟩:=Gx hb ah;have hR:=fun z=>a7 ido r.body[k] ia (Afa a4) z;generalize r.body[k]=a at hd ah hR;have HX:Agt (∀i4,EL Pi ((r.body.take (k+1)).map (xY lo)) (xs++[sc (.bool a.neg),ic a.a.p,sl i4 a.a.ts.length (Ac (a.a.ts.map (Ge lo)))])):=fun i4=>by
    rw[Ad3,ah,Afe,Ad5];exact EL.append hX.out (EL.single ⟨i4,by simp[xY,cT]⟩)
   clear ah hX a7
   repeat' (first|refine Z1 ?_|(refine Z8 ?_;intro κ hκ)|(refine Z4 ?_;clear hκ κ)|(refine Z2 ?_ ?_<;>intro h ai<;>try exact Xp)|(refine Z6 ?_;intro idn zn ak am af aa ae ab)|(refine Z5 ?_;refine Xi (hR _) ?_;rintro _ _ ⟨⟨i4,rfl⟩,av⟩;(have ba:=av.obj;have ay:=av.nobj;simp only[Aa,Ab]at ay))|refine Z3 ?_|exact⟨⟩|(apply hκ.out;clear hκ κ))
   rename_i z4;have bg:=((hK.new [sc (.bool false),ic 0,nilS]).put hK.nobj _).trans av;have bf:=Own.keep (Own.put (Own.new hO [sc (.bool false),ic 0,nilS]) z'.nobj [sc (.bool a.neg),ic a.a.p,sl ia a.a.ts.length (Ac a.a.ts)]) av;refine Bm (by first|exact Ed) ((bg.new _).put Agm _) (Own.put (Own.new bf _) _ _) (by decide) (by rfl) bb (by rfl) (by rfl) (by decide) Agm Agm ?_;intro idn zn ak am af aa ae ab;simp only[Ab,Aa]at aa;refine Z3 ?_
   repeat' (first|refine Z1 ?_|(refine Z8 ?_;intro κ hκ)|(refine Z4 ?_;clear hκ κ)|(refine Z2 ?_ ?_<;>intro h ai<;>try exact Xp)|(refine Z6 ?_;intro idn zn ak am af aa ae ab)|refine Z3 ?_|exact⟨⟩|(apply hκ.out;clear hκ κ))
   refine⟨r.body.length-(k+1),Agm,k+1,idn,xs++[sc (.bool a.neg),ic a.a.p,sl i4 a.a.ts.length (Ac (a.a.ts.map (Ge lo)))],?_⟩
   ((repeat' with_reducible refine And.intro ?_ ?_)<;>first|exact Xq|exact (am.put Agm _)|exact (Own.put ak _ _)|exact (HX.out i4)|exact Xs)
  ·have be:k=r.body.length:=Agm;subst be;rw[Adz]at hX
   repeat' (first|refine Z1 ?_|(refine Z8 ?_;intro κ hκ)|(refine Z4 ?_;clear hκ κ)|(refine Z2 ?_ ?_<;>intro h ai<;>try exact Xp)|(refine Z6 ?_;intro idn zn ak am af aa ae ab)|refine Z3 ?_|exact⟨⟩|(apply hκ.out;clear hκ κ))
   exact⟨_,rfl,⟨_,rfl,i2,i3,xs,by simp[cT],hX.out⟩,hK.put Agm _⟩
theorem jD (r:D8)(o:Bool)(c:List AV)(n:Nat)(L:List Lit)(i2:Nat)(b2:List AV)(hc:Qd o r c)(bi:r.body.length<=100)(hL:EL Pi L b2)(hl:L.length<=100)(z:St):
  ACalls Tryz.prog 211 [ag c,ic n,sl i2 L.length b2] z fun x z'=>(∃c',x=ag c'/\Qd false ⟨r.head,rpl n L r.body⟩ c')/\Keep z z':=by
 obtain⟨ih,id,b,rfl,hb⟩:=hc;have bg:=EL.length F6 hb;have bh:=EL.length F6 hL;refine Z9 47 [.cell 6 125] Tryz.func211 ?_
 repeat' (first|refine Z1 ?_|(refine Z8 ?_;intro κ hκ)|(refine Z4 ?_;clear hκ κ)|(refine Z2 ?_ ?_<;>intro h ae<;>try exact Xp)|(refine Z6 ?_;intro idn zn ah ai ad aa ac ab)|refine Z3 ?_|exact⟨⟩|(apply hκ.out;clear hκ κ))
 refine Ag (fun m s z'=>∃(k i3:Nat) (R:List Lit) (xs:List AV),m=r.body.length-k/\k<=r.body.length/\s 1=ic n/\s 2=sl i2 L.length b2/\s 6=ptr (z.nobj+1) 0/\s 7=ptr (z.nobj+2) 0/\s 16=sl id r.body.length b/\s 17=ic r.body.length/\s 18=ic k/\Keep z z'/\z.nobj+2<z'.nobj/\z'.obj (z.nobj+1)=[sc (.bool false),ic 0,nilS,nilS]/\z'.obj (z.nobj+2)=[sc (.bool false),ic r.head.p,sl ih r.head.ts.length (Ac r.head.ts),sl i3 R.length xs]/\Own z z' i3 R.length/\xs.length=R.length*3/\R.length<=k*(L.length+1)/\Agt (R=rpl n L (r.body.take k)/\EL Pi R xs)) r.body.length
  ⟨0,1,[],[],Agm,Agm,by simp[upd,initS],by simp[upd,initS],Ago,Ago,Ago,Ago,rfl,?_,?_,?_,?_,Own.nil _ _,by simp,by simp,⟨by simp[rpl],rfl⟩⟩ ?_
 ·exact ((((Keep.refl z).new _).new _).new _).put Agm _
 ·simp only[Ab,Aa];omega
 ·rw[Ai Agm,Af Agq,Bs (by rw[Aa];omega) (by rw[Aa];omega)]
 ·rw[show z.nobj+2=z.nobj+1+1 by omega,Aj];rfl
 rintro m s z' ⟨k,i3,R,xs,rfl,hk,h1,h2,h6,h7,a3,a0,az,hK,hno,av,ao,hO,ap,be,hA⟩;have ay:=hK.nobj;by_cases a9:k<r.body.length
 ·have af:=List.getElem?_eq_getElem a9;obtain⟨ia,rr,hd⟩:=Gx hb af;generalize r.body[k]=a at hd af;have bm:R.length<=10100:=Ado be (Ado (Nat.mul_le_mul (by omega:k<=100) (by omega:L.length+1<=101)) (by decide));have ak:=Oi (n:=n) (o:=L) r.body (k+1);have aj:=Ta (n:=n) (o:=L) af;rw[<-hA.out.1]at aj;by_cases am:k=n
  ·rw[if_pos am]at aj;have a8:((k:Int) !=(n:Int))=false:=by simp[am]
   have a4:Agt _:=aj;have a5:Agt (EL Pi R xs):=hA.out.2;rw[aj,Aee]at ak;clear aj af hA am
   repeat' (first|refine Z1 ?_|(refine Z8 ?_;intro κ hκ)|(refine Z4 ?_;clear hκ κ)|(refine Z2 ?_ ?_<;>intro h ae<;>try exact Xp)|(refine Z6 ?_;intro idn zn ah ai ad aa ac ab)|refine Z3 ?_|exact⟨⟩|(apply hκ.out;clear hκ κ))
   refine Ag (fun m s z2=>∃(j i3:Nat) (ys:List AV),m=L.length-j/\j<=L.length/\s 1=ic n/\s 2=sl i2 L.length b2/\s 6=ptr (z.nobj+1) 0/\s 7=ptr (z.nobj+2) 0/\s 16=sl id r.body.length b/\s 17=ic r.body.length/\s 18=ic k/\s 32=sl i2 L.length b2/\s 33=ic L.length/\s 34=ic j/\Keep z z2/\z.nobj+2<z2.nobj/\z2.obj (z.nobj+1)=[sc (.bool false),ic 0,nilS,nilS]/\z2.obj (z.nobj+2)=[sc (.bool false),ic r.head.p,sl ih r.head.ts.length (Ac r.head.ts),sl i3 (R.length+j) ys]/\Own z z2 i3 (R.length+j)/\ys.length=(R.length+j)*3/\Agt (EL Pi (R++L.take j) ys)) L.length
    ⟨0,i3,xs,Agm,Agm,Agn,Agn,Agn,Agn,Agn,Agn,Agn,Agn,Agn,Ago,Xs,Ags,by rw[Ai Agm,Af Agm,av],by rw[Ai Agm,Af Agm,ao];rfl,(by simpa using Own.put (Own.new hO _) _ _),by simpa using ap,by simpa using a5⟩ ?_
   clear h1 h2 h6 h7 a3 a0 az hK hO ay ap a5 av ao hno;rintro m s z2 ⟨j,i3,ys,rfl,hj,h1,h2,h6,h7,a3,a0,az,bq,bp,bo,hK,hno,av,ao,hO,aw,an⟩;have ay:=hK.nobj;by_cases ax:j<L.length
   ·have au:=List.getElem?_eq_getElem ax;obtain⟨ja,rj,bd⟩:=Gx hL au;generalize L[j]=y at bd au;have bf:Agt (EL Pi (R++L.take (j+1)) (ys++[sc (.bool y.neg),ic y.a.p,sl ja y.a.ts.length (Ac y.a.ts)])):=by
     rw[Agt,Ad3,au,Afe,<-Aeg];exact EL.append an.out (EL.single ⟨ja,rfl⟩)
    clear au an
    repeat' (first|refine Z1 ?_|(refine Z8 ?_;intro κ hκ)|(refine Z4 ?_;clear hκ κ)|(refine Z2 ?_ ?_<;>intro h ae<;>try exact Xp)|(refine Z6 ?_;intro idn zn ah ai ad aa ac ab)|refine Z3 ?_|exact⟨⟩|(apply hκ.out;clear hκ κ))
    refine Bm (by first|exact Ed) ((hK.new _).put hK.nobj _) (Own.put (Own.new hO _) _ _) (by decide) (by rfl) (aw) (by rfl) (by rfl) (by decide) Agm Agm ?_;intro idn zn ah ai ad aa ac ab;simp only[Ab,Aa]at aa;refine Z3 ?_
    repeat' (first|refine Z1 ?_|(refine Z8 ?_;intro κ hκ)|(refine Z4 ?_;clear hκ κ)|(refine Z2 ?_ ?_<;>intro h ae<;>try exact Xp)|(refine Z6 ?_;intro idn zn ah ai ad aa ac ab)|refine Z3 ?_|exact⟨⟩|(apply hκ.out;clear hκ κ))
    refine⟨L.length-(j+1),Agm,j+1,idn,ys++[sc (.bool y.neg),ic y.a.p,sl ja y.a.ts.length (Ac y.a.ts)],?_⟩
    ((repeat' with_reducible refine And.intro ?_ ?_)<;>first|exact Xq|exact (bf)|exact (ai.put Agm _)|exact (Own.put ah _ _)|exact ((by simp[aw];omega))|exact Xs)
   ·have bb:j=L.length:=Agm;subst bb;rw[Adz]at an;have HA:Agt (R++L=rpl n L (r.body.take (k+1))/\EL Pi (R++L) ys):=⟨a4.out.symm,an.out⟩;clear an a4;have a6:ys.length=(R++L).length*3:=by rw[aw,Aee]
    have bn:Own z z2 i3 (R++L).length:=by rw[Aee];exact hO
    rw[<-Aee]at ao;have a7:(R++L).length<=(k+1)*(L.length+1):=by rw[Aee];exact ak
    repeat' (first|refine Z1 ?_|(refine Z8 ?_;intro κ hκ)|(refine Z4 ?_;clear hκ κ)|(refine Z2 ?_ ?_<;>intro h ae<;>try exact Xp)|(refine Z6 ?_;intro idn zn ah ai ad aa ac ab)|refine Z3 ?_|exact⟨⟩|(apply hκ.out;clear hκ κ))
    refine⟨r.body.length-(k+1),Agm,k+1,i3,R++L,ys,?_⟩
    ((repeat' with_reducible refine And.intro ?_ ?_)<;>first|exact Xq|exact (HA)|exact Xs)
  ·rw[if_neg am]at aj;have a8:((k:Int) !=(n:Int))=true:=by simpa using (by omega:¬(k:Int)=n)
   have HA:Agt (R++[a]=rpl n L (r.body.take (k+1))/\EL Pi (R++[a]) (xs++[sc (.bool a.neg),ic a.a.p,sl ia a.a.ts.length (Ac a.a.ts)])):=⟨aj.symm,EL.append hA.out.2 (EL.single ⟨ia,rfl⟩)⟩;rw[aj]at ak;clear aj af hA am
   repeat' (first|refine Z1 ?_|(refine Z8 ?_;intro κ hκ)|(refine Z4 ?_;clear hκ κ)|(refine Z2 ?_ ?_<;>intro h ae<;>try exact Xp)|(refine Z6 ?_;intro idn zn ah ai ad aa ac ab)|refine Z3 ?_|exact⟨⟩|(apply hκ.out;clear hκ κ))
   refine Bm (by first|exact Ed) ((hK.new _).put hK.nobj _) (Own.put (Own.new hO _) _ _) (by decide) (by rfl) (ap) (by rfl) (by rfl) (by decide) Agm Agm ?_;intro idn zn ah ai ad aa ac ab;simp only[Ab,Aa]at aa;refine Z3 ?_
   repeat' (first|refine Z1 ?_|(refine Z8 ?_;intro κ hκ)|(refine Z4 ?_;clear hκ κ)|(refine Z2 ?_ ?_<;>intro h ae<;>try exact Xp)|(refine Z6 ?_;intro idn zn ah ai ad aa ac ab)|refine Z3 ?_|exact⟨⟩|(apply hκ.out;clear hκ κ))
   refine⟨r.body.length-(k+1),Agm,k+1,idn,R++[a],xs++[sc (.bool a.neg),ic a.a.p,sl ia a.a.ts.length (Ac a.a.ts)],?_⟩
   ((repeat' with_reducible refine And.intro ?_ ?_)<;>first|exact Xq|exact (HA)|exact (ai.put Agm _)|exact ((by simpa using Own.put ah _ _))|exact ((by simp[ap];omega))|exact ((by simpa using Aj))|exact Xs)
 ·have ba:k=r.body.length:=Agm;subst ba;obtain⟨e1,e2⟩:=hA.out;rw[Adz]at e1;have HE:Agt (∀c,c=[sc (.bool false),ic r.head.p,sl ih r.head.ts.length (Ac r.head.ts),sl i3 R.length xs]->Qd false ⟨r.head,rpl n L r.body⟩ c):=fun c hc=>by
   rw[<-e1];exact⟨ih,i3,xs,hc,e2⟩
  clear hA e1 e2
  repeat' (first|refine Z1 ?_|(refine Z8 ?_;intro κ hκ)|(refine Z4 ?_;clear hκ κ)|(refine Z2 ?_ ?_<;>intro h ae<;>try exact Xp)|(refine Z6 ?_;intro idn zn ah ai ad aa ac ab)|refine Z3 ?_|exact⟨⟩|(apply hκ.out;clear hκ κ))
  exact⟨_,rfl,⟨_,rfl,HE.out _ rfl⟩,hK.put Agm _⟩
def OT (t:Tm):Prop:=∃w,UT w/\Am w=t
theorem OT.dec {t:Tm}(h:OT t):UT (Lk t)/\Am (Lk t)=t:=by
 obtain⟨w,hu,rfl⟩:=h;rw[hu.dec.1];exact⟨hu,rfl⟩
theorem gL {k:Nat}(hk:k<26):UT [Co k]/\Am [Co k]=(true,(k:Int)):=by
 have h1:=C7 (k:=(k:Int)) Agm Agm;have hv:Ad [Co k]=true:=h1;refine⟨⟨.inl hv,⟨by simp,fun b hb=>?_⟩,by simp,fun _=>⟨k,hk,rfl⟩⟩,?_⟩
 ·simp at hb;subst hb;exact .inl h1
 ·rw[Dy h1,C6 Agm Agm];congr 1;omega
theorem Abl {k:Nat}(hk:k<26):OT (true,(k:Int)):=⟨_,(gL hk).1,(gL hk).2⟩
def W52 (t:Tm):Prop:=qP t/\(t.1=false->OT t)
theorem OT.w {t:Tm}(h:OT t):W52 t:=by
 refine⟨fun hv=>?_,fun _=>h⟩;obtain⟨w,hu,rfl⟩:=h;rw[Bw]at hv;obtain⟨k,hk,-,e⟩:=hu.enc hv;exact⟨k,Agm,by rw[e]⟩
structure PtW (P:List Tm):Prop where
 len:P.length=52
 w:∀t∈P,W52 t
theorem PtW.of {P:List Tm}(h:PtW P){t:Tm}(ht:W52 t):W52 (F9 P t):=by
 unfold F9;split
 ·rename_i hv;cases e:P[t.2.toNat]? with
  |none=>exact ht
  |some u=>exact h.w u (Adt e)
 ·exact ht
theorem PtW.wi {P:List Tm}(h:PtW P){v t:Tm}(ht:W52 t):PtW (Rk P v t):=
 ⟨by rw[Ol];exact h.len,fun u hu=>by
  obtain⟨x,hx,rfl⟩:=Aey.1 hu;split
  ·exact ht
  ·exact h.w x hx⟩
theorem ot_zero:OT (false,0):=⟨[48],⟨.inr ⟨rfl,(by show Lib.itoa 0=[48];simp[Lib.itoa,Lib.decDigits]),by decide,by decide⟩,⟨by simp,by decide⟩,by simp,fun h=>by cases h⟩,rfl⟩
theorem vZ:PtW aprt:=⟨fS,fun t ht=>by
 obtain⟨i,hi,rfl⟩:=Aey.1 ht;split
 ·exact⟨fun _=>⟨26+i,Agm,by simp⟩,fun h=>by cases h⟩
 ·exact ot_zero.w⟩
theorem sW:PtW pidn:=⟨Oo,fun t ht=>by
 obtain⟨i,hi,rfl⟩:=Aey.1 ht
 exact⟨fun _=>⟨i,by simpa using hi,rfl⟩,fun h=>by cases h⟩⟩
theorem iX:∀{ts us P P':List Tm},PtW P->(∀t∈ts,W52 t)->(∀t∈us,W52 t)->Di P ts us=some P'->PtW P'
 |[],_,P,P',h,_,_,e=>by cases e;exact h
 |_::_,[],_,_,_,_,_,e=>by cases e
 |t::ts,u::us,P,P',h,h1,h2,e=>by
  unfold Di at e;obtain⟨Q,hQ,e⟩:=Option.bind_eq_some_iff.1 e;refine iX ?_ (fun x hx=>h1 x (by simp[hx])) (fun x hx=>h2 x (by simp[hx])) e;unfold Ms at hQ;have ht:=h.of (h1 t (by simp));have hu:=h.of (h2 u (by simp));split at hQ
  ·cases hQ;exact h
  ·split at hQ
   ·cases hQ;exact h.wi ht
   ·split at hQ
    ·cases hQ;exact h.wi hu
    ·cases hQ
def QNm (q:Tx):Prop:=G6 q/\q.length<=1000
structure AtW (N:List Tx)(ar:Tx->Nat)(a:C4):Prop where
 nm:∃q∈N,a.p=(N.idxOf q:Nat)/\QNm q/\a.ts.length=ar q
 pos:0<a.ts.length
 le3:a.ts.length<=3
 w:∀t∈a.ts,W52 t
structure RuW (N:List Tx)(ar:Tx->Nat)(r:D8):Prop where
 hd:AtW N ar r.head
 bd:∀l∈r.body,AtW N ar l.a
 bl:r.body.length<=100
theorem RuW.r52 {N:List Tx}{ar:Tx->Nat}{r:D8}(h:RuW N ar r):R52 r:=⟨h.hd.le3,fun l hl=>(h.bd l hl).le3,h.bl,fun t ht=>(h.hd.w t ht).1,fun l hl t ht=>((h.bd l hl).w t ht).1⟩
theorem AtW.pin {N:List Tx}{ar:Tx->Nat}{a:C4}(h:AtW N ar a){P:List Tm}(hP:PtW P):AtW N ar (Nc P a):=by
 obtain⟨q,h1,h2,h3,h4⟩:=h.nm
 exact⟨⟨q,h1,h2,h3,by simp[Nc,h4]⟩,by simpa[Nc]using h.pos,by simpa[Nc]using h.le3,fun t ht=>by
  obtain⟨u,hu,rfl⟩:=Aey.1 ht
  exact hP.of (h.w u hu)⟩
theorem RuW.pin {N:List Tx}{ar:Tx->Nat}{r:D8}(h:RuW N ar r){P:List Tm}(hP:PtW P):RuW N ar (El P r):=
 ⟨h.hd.pin hP,fun l hl=>by
  obtain⟨k,hk,rfl⟩:=Aey.1 hl
  exact (h.bd k hk).pin hP,by simpa[El]using h.bl⟩
theorem RuW.join {N:List Tx}{ar:Tx->Nat}{r s:D8}(h:RuW N ar r)(g:RuW N ar s)(n:Nat)(h5:r.body.length<=5)(g5:s.body.length<=5):RuW N ar ⟨r.head,rpl n s.body r.body⟩:=
 ⟨h.hd,fun l hl=>by
  rcases Dm hl with hl|hl
  ·exact h.bd l hl
  ·exact g.bd l hl,by
  have h1:=Oi (n:=n) (o:=s.body) r.body r.body.length;rw[Adz]at h1;have h2:r.body.length*(s.body.length+1)<=5*6:=Nat.mul_le_mul h5 Agm;show (rpl n s.body r.body).length<=100
  omega⟩
theorem kD {N:List Tx}{ar:Tx->Nat}{x:RItem}(hr:RuI N ar x)(hm:Msr N x)(ho:x.out=false)(hw:Bv x):RuW N ar (Bt N x):=by
 obtain⟨w1,w2,w3,w4⟩:=hw.2.2 ho;have key:∀a∈Ae x,AtI N ar a->Da a->AtW N ar (Dr N a):=fun a ha hA hW=>
  ⟨⟨a.pred,hA.mem,rfl,⟨hW.1,(hm.at_ a ha).2.1⟩,by simp[Dr,hA.len]⟩,by simpa[Dr,List.length_pos_iff]using hW.2.1,by simpa[Dr]using hA.le3,fun t ht=>by
   obtain⟨w,hw,rfl⟩:=Aey.1 ht
   exact OT.w ⟨w,(hm.at_ a ha).2.2 w hw,rfl⟩⟩
 refine⟨key _ (Ak (.inl ⟨ho,rfl⟩)) hr.head w1,fun l hl=>?_,by simp[Bt];omega⟩;obtain⟨a,ha,rfl⟩:=Aey.1 hl;exact key a (Ak (.inr ha)) (hr.body a ha) (w4 a ha)
def Mh (N:List Tx)(x:RItem)(k:Nat)(y:RItem):Option D8:=
 (x.body[k]?).bind fun a=>(Di pidn (a.terms.map Am) (El aprt (Bt N y)).head.ts).map fun P=>Eg (El P ⟨(Bt N x).head,rpl k (El aprt (Bt N y)).body (Bt N x).body⟩)
def Jl (q:Tx)(y:RItem):Bool:=!y.out&&decide (y.head.pred=q)
def Js (N:List Tx)(l:List RItem)(x:RItem)(k:Nat)(q:Tx):List D8:=(l.filter (Jl q)).filterMap (Mh N x k)
structure AtO (N:List Tx)(ar:Tx->Nat)(a:C4):Prop where
 nm:∃q∈N,a.p=(N.idxOf q:Nat)/\QNm q/\a.ts.length=ar q
 pos:0<a.ts.length
 le3:a.ts.length<=3
 ot:∀t∈a.ts,OT t
structure RuO (N:List Tx)(ar:Tx->Nat)(r:D8):Prop where
 hd:AtO N ar r.head
 bd:∀l∈r.body,AtO N ar l.a
def Lp (N:List Tx)(b:Bool)(a:C4):RAtom:=⟨b,(N[a.p.toNat]?).getD [],a.ts.map Lk⟩
def Ck (N:List Tx)(r:D8):RItem:=⟨false,Lp N false r.head,r.body.map fun l=>Lp N l.neg l.a⟩
theorem AtO.at {N:List Tx}{ar:Tx->Nat}{a:C4}(h:AtO N ar a)(b:Bool):(Lp N b a).pred∈N/\QNm (Lp N b a).pred/\(Lp N b a).terms.length=ar (Lp N b a).pred/\Dr N (Lp N b a)=a/\∀t∈(Lp N b a).terms,UT t:=by
 obtain⟨q,h1,h2,h3,h4⟩:=h.nm;have e:(Lp N b a).pred=q:=by
  show (N[a.p.toNat]?).getD []=q;rw[h2,Afz,List.getElem?_eq_getElem (Afd h1),Afc];rfl
 rw[e];refine⟨h1,h3,by simp[Lp,h4],?_,fun t ht=>?_⟩
 ·unfold Dr;rw[e,<-h2];show (⟨a.p,(a.ts.map Lk).map Am⟩:C4)=a;have:(a.ts.map Lk).map Am=a.ts:=by
   rw[Ad6]
   conv=>rhs;rw[<-Aez a.ts]
   exact Ae0 fun t ht=>(h.ot t ht).dec.2
  rw[this]
 ·obtain⟨u,hu,rfl⟩:=Aey.1 ht;exact (h.ot u hu).dec.1
theorem RuO.rul {N:List Tx}{ar:Tx->Nat}{r:D8}(h:RuO N ar r):Bt N (Ck N r)=r:=by
 obtain⟨hd,bd⟩:=r;unfold Bt Ck;simp only[(h.hd.at false).2.2.2.1,Ad6];congr 1
 conv=>rhs;rw[<-Aez bd]
 refine Ae0 fun l hl=>?_;show (⟨(Lp N l.neg l.a).nt,Dr N (Lp N l.neg l.a)⟩:Lit)=l;rw[((h.bd l hl).at l.neg).2.2.2.1];rfl
theorem gC {N:List Tx}:∀{l:List RAtom} {b:List AV},(∀a∈l,a.pred∈N)->EL Pi (l.map (Eo N)) b->EL (PL N) l b
 |[],_,_,h=>h
 |a::l,_,g,⟨c,d,⟨id,e⟩,h2,e2⟩=>⟨c,d,⟨g a (by simp),id,by rw[e];simp[Eo,Dr,H7]⟩,gC (fun b hb=>g b (by simp[hb])) h2,e2⟩
theorem wK {N:List Tx}{x:RItem}{c:List AV}(h:PI N x c):Qd x.out (Bt N x) c:=by
 obtain⟨hm,ih,id,b,hb,rfl⟩:=h;exact⟨ih,id,b,by simp[Bt,Dr,H7],kJ hb⟩
theorem gA {N:List Tx}{x:RItem}{c:List AV}(h1:x.head.pred∈N)(h2:∀a∈x.body,a.pred∈N)(h:Qd x.out (Bt N x) c):PI N x c:=by
 obtain⟨ih,id,b,rfl,hb⟩:=h;exact⟨h1,ih,id,b,gC h2 hb,by simp[Bt,Dr,H7]⟩
theorem RuO.pi {N:List Tx}{ar:Tx->Nat}{r:D8}(h:RuO N ar r){c:List AV}(hc:Qd false r c):PI N (Ck N r) c:=by
 refine gA (h.hd.at false).1 (fun a ha=>?_) (by rw[h.rul];exact hc);obtain⟨l,hl,rfl⟩:=Aey.1 ha;exact ((h.bd l hl).at l.neg).1
theorem RuO.atoms {N:List Tx}{ar:Tx->Nat}{r:D8}(h:RuO N ar r){a:RAtom}(ha:a∈Ae (Ck N r)):∃m b,a=Lp N b m/\AtO N ar m:=by
 have aa:a=Lp N false r.head\/a∈r.body.map fun l=>Lp N l.neg l.a:=by simpa[Ae,Ck]using ha
 rcases aa with rfl|aa
 ·exact⟨_,_,rfl,h.hd⟩
 ·obtain⟨l,hl,rfl⟩:=Aey.1 aa;exact⟨_,_,rfl,h.bd l hl⟩
theorem RuO.msr {N:List Tx}{ar:Tx->Nat}{r:D8}(h:RuO N ar r)(hb:r.body.length<=1000):Msr N (Ck N r):=
 ⟨(fun e=>by cases e),by simpa[Ck]using hb,(h.hd.at false).1,(h.hd.at false).2.1.2,fun a ha=>by
  obtain⟨m,b,rfl,hm⟩:=h.atoms ha
  exact⟨by simpa[Lp]using hm.le3,(hm.at b).2.1.2,(hm.at b).2.2.2.2⟩⟩
theorem AtW.ren {N:List Tx}{ar:Tx->Nat}{a:C4}(h:AtW N ar a){vs:List Int}(hv:∀v,(true,v)∈a.ts->v∈vs)(hl:vs.length<=26):AtO N ar (cT vs a):=by
 obtain⟨q,h1,h2,h3,h4⟩:=h.nm;refine⟨⟨q,h1,h2,h3,by simp[cT,h4]⟩,by simpa[cT]using h.pos,by simpa[cT]using h.le3,fun t ht=>?_⟩;obtain⟨⟨b,v⟩,hu,rfl⟩:=Aey.1 ht;cases b with
 |true=>
  have hm:=hv v hu;have hi:=Afd hm;have e:Ge vs (true,v)=(true,((vs.idxOf v:Nat):Int)):=by simp[Ge,iN,hm]
  rw[e];exact Abl Agm
 |false=>exact (h.w _ hu).2 rfl
theorem RuW.ord {N:List Tx}{ar:Tx->Nat}{r:D8}(h:RuW N ar r)(h5:r.body.length<=5):RuO N ar (Eg r):=by
 have hl:(Eh r).length<=26:=by
  have h1:=Es (l:=Gc r) fun a ha=>by
   rcases Aeq.1 ha with rfl|ha
   ·exact h.hd.le3
   ·obtain⟨l,hl,rfl⟩:=Aey.1 ha;exact (h.bd l hl).le3
  have h3:(Gc r).length=r.body.length+1:=by simp[Gc]
  unfold Eh;omega
 refine⟨h.hd.ren (fun v hv=>(Cy _ _).2 ⟨r.head,by simp[Gc],hv⟩) hl,fun l hm=>?_⟩;obtain⟨k,hk,rfl⟩:=Aey.1 hm;exact (h.bd k hk).ren (fun v hv=>(Cy _ _).2 ⟨k.a,by simp only[Gc,Aeq,Aey];exact .inr ⟨k,hk,rfl⟩,hv⟩) hl
end Go.Proofs.YtmoeoppbmhfbpabGreatDoorG
