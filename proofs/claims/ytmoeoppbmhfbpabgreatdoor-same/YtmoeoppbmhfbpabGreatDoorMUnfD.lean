import Derived.Test.YtmoeoppbmhfbpabGreatDoorMMixA
import Derived.Test.YtmoeoppbmhfbpabGreatDoorMImpD
import Derived.Test.YtmoeoppbmhfbpabGreatDoorMFolB
import Derived.Test.YtmoeoppbmhfbpabGreatDoorLPrtH
import Derived.Test.YtmoeoppbmhfbpabGreatDoorMOptH
set_option maxHeartbeats 64000000
set_option maxRecDepth 100000
set_option linter.all false
namespace Go.Proofs.YtmoeoppbmhfbpabGreatDoorL
open Go.Abs
def fS (l:List Int)(a:De):De:=⟨a.p,a.ts.map (Fj l)⟩
def reL (l:List Int)(x:Lit):Lit:=⟨x.neg,fS l x.a⟩
def Eo (r:Dx):Dx:=⟨fS (Ep r) r.head,r.body.map (reL (Ep r))⟩
theorem Ya {r:Dx}(hr:R52 r):(Ep r).length<=1000:=by
 have h1:=E4 (l:=G5 r) fun a ha=>by
  rcases Ah2.1 ha with rfl|ha
  ·exact hr.h3
  ·obtain⟨l,hl,rfl⟩:=Aib.1 ha;exact hr.b3 l hl
 have h2:=hr.bl;have h3:(G5 r).length=r.body.length+1:=by simp[G5]
 unfold Ep;omega
theorem sM (r:Dx)(c:List AV)(hc:Re false r c)(hr:R52 r)(z:St):
  ACalls Tryz.prog 93 [ag c] z fun x z'=>(∃c',x=ag c'/\Re false (Eo r) c')/\Keep z z':=by
 have ay:=fun z=>K9 r c hc hr z;have a7:=Ya hr;have bh:=hr.bl;obtain⟨ih,id,b,rfl,hb⟩:=hc;have bg:=EL.length Gs hb;unfold Eo;generalize Ep r=lo at ay a7;have az:=fun ido z=>M5 lo ido r.head.p ih r.head.ts Aj6 (by have:=hr.h3;omega) z;have a0:=fun ido (a:Lit) ia (ha:a∈r.body) z=>M5 lo ido a.a.p ia a.a.ts Aj6 (by have:=hr.b3 a ha;omega) z;refine Z9 39 [.cell 2 125] Tryz.func93 ?_
 repeat' (first|refine Z1 ?_|(refine Z8 ?_;intro yb ya)|(refine Z4 ?_;clear ya yb)|(refine Z5 ?_;refine Xi (ay _) ?_;rintro _ _ ⟨⟨ido,rfl⟩,av⟩;(have ad:=av.obj;have af:=av.nobj;simp only[Aa]at af))|refine Z3 ?_|exact Zt|(apply ya.out;clear ya yb))
 rename_i z1;have aj:z1.obj z.nobj=[sc (.bool false),ic r.head.p,sl ih r.head.ts.length (Ac r.head.ts),sl id r.body.length b]:=by
  rw[ad _ Aka,Ag Aka,Ao]
 have ai:z1.obj (z.nobj+1)=[sc (.bool false),ic 0,nilS,nilS]:=by
  rw[ad _ Aka,Bs (by rw[Aa];omega) (by rw[Aa];omega)]
 have am:Keep z z1:=Xs;clear ad av;refine Bt (Q:=fun e s z'=>e= .normal/\∃o i2:Nat,s 1=ptr z.nobj 0/\s 2=ptr (z.nobj+1) 0/\s 3=sl ido lo.length (Al lo)/\s 4=ptr o 0/\z.nobj+1<o/\o<z'.nobj/\z'.obj z.nobj=[sc (.bool false),ic r.head.p,sl ih r.head.ts.length (Ac r.head.ts),sl id r.body.length b]/\z'.obj (z.nobj+1)=[sc (.bool false),ic 0,nilS,nilS]/\z'.obj o=[sc (.bool false),ic r.head.p,sl i2 r.head.ts.length (Ac (r.head.ts.map (Fj lo))),nilS]/\Keep z z') ?_ ?_
 ·refine A1 Ai (fun _=>True) [8] [0,1,2,3,4] 4 #[true,true,true,true,true,false,false,false,false] Aj9 (fun _ _ _ h=>by cases h.1) ?_;intro yb ya;refine Z3 ?_;refine ya.out _ ?_;clear ya yb;have hR2:=fun z=>az ido z;refine Ef (rs:=[5,7]) Aj9 (by simp) ?_;intro i hi;simp only[Ah2,Ail,Aj5]at hi;rcases hi with rfl|rfl
  ·refine Aq ?_;intro yb ya;refine Z3 ?_;refine ACalls.mono (hR2 _) ?_;rintro _ z2 ⟨⟨i2,rfl⟩,ab⟩;have aa:=ab.obj;have ae:=ab.nobj;refine Z3 ?_;refine ya.out _ _ ⟨Ap ab,?_⟩;clear ya yb;refine Ef (rs:=[6,7]) Aj9 (by simp) ?_;intro i hi;simp only[Ah2,Ail,Aj5]at hi;rcases hi with rfl|rfl
   ·refine Aq ?_;intro yb ya;refine Z3 ?_;refine ya.out _ _ ⟨Ap ab,?_⟩;clear ya yb;refine Am (i:=7) Aj9 ?_;refine Aq ?_;intro yb ya;refine Z3 ?_;refine ya.out _ _ ⟨Ap (ab.new _),?_⟩;clear ya yb;refine Am (i:=8) Aj9 ?_;refine Aq ?_;intro yb ya;refine Z3 ?_;refine ya.out _ _ ⟨Br rfl,?_⟩;clear ya yb;refine A2 Aj9 ⟨rfl,z2.nobj,i2,Aj8,Aj8,Aj8,Aj8,Aj6,Akb,?_,?_,Aj,?_⟩
    ·rw[Ah Aj6,Ag Aj6,aa _ Aj6,aj]
    ·rw[Ah Aj6,Ag Aj6,aa _ Aj6,ai]
    ·exact ((am.trans ab).new _).put Aj6 _
   ·refine Aq ?_;intro yb ya;refine Z3 ?_;refine ya.out _ _ ⟨Ap (ab.new _),?_⟩;clear ya yb;refine Am (i:=6) Aj9 ?_;refine Aq ?_;intro yb ya;refine Z3 ?_;refine ya.out _ _ ⟨Ap (ab.new _),?_⟩;clear ya yb;refine Am (i:=8) Aj9 ?_;refine Aq ?_;intro yb ya;refine Z3 ?_;refine ya.out _ _ ⟨Br rfl,?_⟩;clear ya yb;refine A2 Aj9 ⟨rfl,z2.nobj,i2,Aj8,Aj8,Aj8,Aj8,Aj6,Akb,?_,?_,Aj,?_⟩
    ·rw[Ah Aj6,Ag Aj6,aa _ Aj6,aj]
    ·rw[Ah Aj6,Ag Aj6,aa _ Aj6,ai]
    ·exact ((am.trans ab).new _).put Aj6 _
  ·refine Aq ?_;intro yb ya;refine Z3 ?_;refine ya.out _ _ ⟨Ap ((Keep.refl _).new _),?_⟩;clear ya yb;refine Am (i:=5) Aj9 ?_;refine Aq ?_;intro yb ya;refine Z3 ?_;refine ACalls.mono (hR2 _) ?_;rintro _ z2 ⟨⟨i2,rfl⟩,ab⟩;have aa:=ab.obj;have ae:=ab.nobj;simp only[Aa]at ae;refine Z3 ?_;refine ya.out _ _ ⟨Ap (((Keep.refl _).new _).trans ab),?_⟩;clear ya yb;refine Am (i:=6) Aj9 ?_;refine Aq ?_;intro yb ya;refine Z3 ?_;refine ya.out _ _ ⟨Ap (((Keep.refl _).new _).trans ab),?_⟩;clear ya yb;refine Am (i:=8) Aj9 ?_;refine Aq ?_;intro yb ya;refine Z3 ?_;refine ya.out _ _ ⟨Br rfl,?_⟩;clear ya yb;refine A2 Aj9 ⟨rfl,z1.nobj,i2,Aj8,Aj8,Aj8,Aj8,Aj6,Akb,?_,?_,Aj,?_⟩
   ·rw[Ah Aj6,aa _ (by rw[Aa];omega),Ag Aj6,aj]
   ·rw[Ah Aj6,aa _ (by rw[Aa];omega),Ag Aj6,ai]
   ·exact ((am.new _).trans ab).put Aj6 _
 ·rintro e s z2 ⟨rfl,o,i2,h1,h2,h3,h4,bf,ap,a4,an,ob,hK⟩;have aw:=hK.nobj;clear am aj ai af az
  repeat' (first|refine Z1 ?_|(refine Z8 ?_;intro yb ya)|(refine Z4 ?_;clear ya yb)|refine Z3 ?_|exact Zt|(apply ya.out;clear ya yb))
  refine Af (fun m s z'=>∃(k i3:Nat) (xs:List AV),m=r.body.length-k/\k<=r.body.length/\s 2=ptr (z.nobj+1) 0/\s 3=sl ido lo.length (Al lo)/\s 4=ptr o 0/\s 18=sl id r.body.length b/\s 19=ic r.body.length/\s 20=ic k/\Keep z z'/\o<z'.nobj/\z'.obj (z.nobj+1)=[sc (.bool false),ic 0,nilS,nilS]/\z'.obj o=[sc (.bool false),ic r.head.p,sl i2 r.head.ts.length (Ac (r.head.ts.map (Fj lo))),sl i3 k xs]/\Own z z' i3 k/\xs.length=k*3/\Akc (EL Qf ((r.body.take k).map (reL lo)) xs)) r.body.length
   ⟨0,1,[],Aj6,Aj6,by simp[upd,h2],by simp[upd,h3],by simp[upd,h4],Aj8,Aj8,rfl,hK,ap,an,ob,Own.nil _ _,by simp,rfl⟩ ?_
  clear h1 h2 h3 h4 a4 an ob hK ap aw;rintro m s z' ⟨k,i3,xs,rfl,hk,h2,h3,h4,bn,bm,bi,hK,ap,an,ob,hO,a6,hX⟩;have aw:=hK.nobj;by_cases ax:k<r.body.length
  ·have ac:=Agz ax;obtain⟨ia,rr,hd⟩:=Hl hb ac;have hR:=fun z=>a0 ido r.body[k] ia (Ain ax) z;generalize r.body[k]=a at hd ac hR;have HX:Akc (∀i4,EL Qf ((r.body.take (k+1)).map (reL lo)) (xs++[sc (.bool a.neg),ic a.a.p,sl i4 a.a.ts.length (Ac (a.a.ts.map (Fj lo)))])):=fun i4=>by
    rw[Ahd,ac,Ais,Ahf];exact EL.append hX.out (EL.single ⟨i4,by simp[reL,fS]⟩)
   clear ac hX a0
   repeat' (first|refine Z1 ?_|(refine Z8 ?_;intro yb ya)|(refine Z4 ?_;clear ya yb)|(refine Z2 ?_ ?_<;>intro h au<;>try exact Xp)|(refine Z5 ?_;refine Xi (hR _) ?_;rintro _ _ ⟨⟨i4,rfl⟩,ak⟩;(have a5:=ak.obj;have ao:=ak.nobj;simp only[Aa,Ab]at ao))|refine Z3 ?_|exact Zt)
   rename_i z4;have bb:=((hK.new [sc (.bool false),ic 0,nilS]).put hK.nobj _).trans ak;have a9:=Own.keep (Own.put (Own.new hO [sc (.bool false),ic 0,nilS]) z'.nobj [sc (.bool a.neg),ic a.a.p,sl ia a.a.ts.length (Ac a.a.ts)]) ak;refine Bg (by first|exact Ek) ((bb.new _).put Aj6 _) (Own.put (Own.new a9 _) _ _) (by decide) (by rfl) a6 (by rfl) (by rfl) (by decide) Aj6 Aj6 ?_;intro idn zn ba bc be ah bd a3;simp only[Ab,Aa]at ah;refine Z3 ?_
   repeat' (first|refine Z1 ?_|(refine Z8 ?_;intro yb ya)|(refine Z4 ?_;clear ya yb)|refine Z3 ?_|exact Zt|(apply ya.out;clear ya yb))
   refine⟨r.body.length-(k+1),Aj6,k+1,idn,xs++[sc (.bool a.neg),ic a.a.p,sl i4 a.a.ts.length (Ac (a.a.ts.map (Fj lo)))],?_⟩
   ((repeat' refine Zi ?_ ?_)<;>first|exact Xq|exact (bc.put Aj6 _)|exact (Own.put ba _ _)|exact (HX.out i4)|exact Xs)
  ·have a8:k=r.body.length:=Aj6;subst a8;rw[Ag7]at hX
   repeat' (first|refine Z1 ?_|(refine Z8 ?_;intro yb ya)|(refine Z4 ?_;clear ya yb)|(refine Z2 ?_ ?_<;>intro h au<;>try exact Xp)|refine Z3 ?_|exact Zt|(apply ya.out;clear ya yb))
   exact⟨_,rfl,⟨_,rfl,i2,i3,xs,by simp[fS],hX.out⟩,hK.put Aj6 _⟩
theorem mN (r:Dx)(o:Bool)(c:List AV)(n:Nat)(L:List Lit)(i2:Nat)(b2:List AV)(hc:Re o r c)(bi:r.body.length<=100)(hL:EL Qf L b2)(hl:L.length<=100)(z:St):
  ACalls Tryz.prog 211 [ag c,ic n,sl i2 L.length b2] z fun x z'=>(∃c',x=ag c'/\Re false ⟨r.head,Co n L r.body⟩ c')/\Keep z z':=by
 obtain⟨ih,id,b,rfl,hb⟩:=hc;have bg:=EL.length Gs hb;have bh:=EL.length Gs hL;refine Z9 47 [.cell 6 125] Tryz.func211 ?_
 repeat' (first|refine Z1 ?_|(refine Z8 ?_;intro yb ya)|(refine Z4 ?_;clear ya yb)|refine Z3 ?_|exact Zt|(apply ya.out;clear ya yb))
 refine Af (fun m s z'=>∃(k i3:Nat) (R:List Lit) (xs:List AV),m=r.body.length-k/\k<=r.body.length/\s 1=ic n/\s 2=sl i2 L.length b2/\s 6=ptr (z.nobj+1) 0/\s 7=ptr (z.nobj+2) 0/\s 16=sl id r.body.length b/\s 17=ic r.body.length/\s 18=ic k/\Keep z z'/\z.nobj+2<z'.nobj/\z'.obj (z.nobj+1)=[sc (.bool false),ic 0,nilS,nilS]/\z'.obj (z.nobj+2)=[sc (.bool false),ic r.head.p,sl ih r.head.ts.length (Ac r.head.ts),sl i3 R.length xs]/\Own z z' i3 R.length/\xs.length=R.length*3/\R.length<=k*(L.length+1)/\Akc (R=Co n L (r.body.take k)/\EL Qf R xs)) r.body.length
  ⟨0,1,[],[],Aj6,Aj6,by simp[upd,initS],by simp[upd,initS],Aj8,Aj8,Aj8,Aj8,rfl,?_,?_,?_,?_,Own.nil _ _,by simp,by simp,⟨by simp[Co],rfl⟩⟩ ?_
 ·exact ((((Keep.refl z).new _).new _).new _).put Aj6 _
 ·simp only[Ab,Aa];omega
 ·rw[Ah Aj6,Ag Aka,Bs (by rw[Aa];omega) (by rw[Aa];omega)]
 ·rw[show z.nobj+2=z.nobj+1+1 by omega,Aj];rfl
 rintro m s z' ⟨k,i3,R,xs,rfl,hk,h1,h2,h6,h7,a4,a3,a0,hK,az,an,aj,hO,ak,be,hA⟩;have ay:=hK.nobj;by_cases ba:k<r.body.length
 ·have aa:=Agz ba;obtain⟨ia,rr,hd⟩:=Hl hb aa;generalize r.body[k]=a at hd aa;have bl:R.length<=10100:=Ago be (Ago (Nat.mul_le_mul (by omega:k<=100) (by omega:L.length+1<=101)) (by decide));have ae:=Pg (n:=n) (o:=L) r.body (k+1);have ac:=Up (n:=n) (o:=L) aa;rw[<-hA.out.1]at ac;by_cases af:k=n
  ·rw[if_pos af]at ac;have a9:((k:Int) !=(n:Int))=false:=by simp[af]
   have a5:Akc _:=ac;have a6:Akc (EL Qf R xs):=hA.out.2;rw[ac,Aho]at ae;clear ac aa hA af
   repeat' (first|refine Z1 ?_|(refine Z8 ?_;intro yb ya)|(refine Z4 ?_;clear ya yb)|(refine Z2 ?_ ?_<;>intro h ad<;>try exact Xp)|refine Z3 ?_|exact Zt|(apply ya.out;clear ya yb))
   refine Af (fun m s z2=>∃(j i3:Nat) (ys:List AV),m=L.length-j/\j<=L.length/\s 1=ic n/\s 2=sl i2 L.length b2/\s 6=ptr (z.nobj+1) 0/\s 7=ptr (z.nobj+2) 0/\s 16=sl id r.body.length b/\s 17=ic r.body.length/\s 18=ic k/\s 32=sl i2 L.length b2/\s 33=ic L.length/\s 34=ic j/\Keep z z2/\z.nobj+2<z2.nobj/\z2.obj (z.nobj+1)=[sc (.bool false),ic 0,nilS,nilS]/\z2.obj (z.nobj+2)=[sc (.bool false),ic r.head.p,sl ih r.head.ts.length (Ac r.head.ts),sl i3 (R.length+j) ys]/\Own z z2 i3 (R.length+j)/\ys.length=(R.length+j)*3/\Akc (EL Qf (R++L.take j) ys)) L.length
    ⟨0,i3,xs,Aj6,Aj6,Aj7,Aj7,Aj7,Aj7,Aj7,Aj7,Aj7,Aj7,Aj7,Aj8,Xs,Akb,by rw[Ah Aj6,Ag Aj6,an],by rw[Ah Aj6,Ag Aj6,aj];rfl,(by simpa using Own.put (Own.new hO _) _ _),by simpa using ak,by simpa using a6⟩ ?_
   clear h1 h2 h6 h7 a4 a3 a0 hK hO ay ak a6 an aj az;rintro m s z2 ⟨j,i3,ys,rfl,hj,h1,h2,h6,h7,a4,a3,a0,bp,bo,bn,hK,az,an,aj,hO,ao,ah⟩;have ay:=hK.nobj;by_cases ap:j<L.length
   ·have am:=Agz ap;obtain⟨ja,rj,bd⟩:=Hl hL am;generalize L[j]=y at bd am;have bf:Akc (EL Qf (R++L.take (j+1)) (ys++[sc (.bool y.neg),ic y.a.p,sl ja y.a.ts.length (Ac y.a.ts)])):=by
     rw[Akc,Ahd,am,Ais,<-Ahq];exact EL.append ah.out (EL.single ⟨ja,rfl⟩)
    clear am ah
    repeat' (first|refine Z1 ?_|(refine Z8 ?_;intro yb ya)|(refine Z4 ?_;clear ya yb)|(refine Z2 ?_ ?_<;>intro h ad<;>try exact Xp)|refine Z3 ?_|exact Zt)
    refine Bg (by first|exact Ek) ((hK.new _).put hK.nobj _) (Own.put (Own.new hO _) _ _) (by decide) (by rfl) (ao) (by rfl) (by rfl) (by decide) Aj6 Aj6 ?_;intro idn zn au av ax ab aw ai;simp only[Ab,Aa]at ab;refine Z3 ?_
    repeat' (first|refine Z1 ?_|(refine Z8 ?_;intro yb ya)|(refine Z4 ?_;clear ya yb)|refine Z3 ?_|exact Zt|(apply ya.out;clear ya yb))
    refine⟨L.length-(j+1),Aj6,j+1,idn,ys++[sc (.bool y.neg),ic y.a.p,sl ja y.a.ts.length (Ac y.a.ts)],?_⟩
    ((repeat' refine Zi ?_ ?_)<;>first|exact Xq|exact bf|exact (av.put Aj6 _)|exact (Own.put au _ _)|exact ((by simp[ao];omega))|exact Xs)
   ·have bc:j=L.length:=Aj6;subst bc;rw[Ag7]at ah;have HA:Akc (R++L=Co n L (r.body.take (k+1))/\EL Qf (R++L) ys):=⟨a5.out.symm,ah.out⟩;clear ah a5;have a7:ys.length=(R++L).length*3:=by rw[ao,Aho]
    have bm:Own z z2 i3 (R++L).length:=by rw[Aho];exact hO
    rw[<-Aho]at aj;have a8:(R++L).length<=(k+1)*(L.length+1):=by rw[Aho];exact ae
    repeat' (first|refine Z1 ?_|(refine Z8 ?_;intro yb ya)|(refine Z4 ?_;clear ya yb)|(refine Z2 ?_ ?_<;>intro h ad<;>try exact Xp)|refine Z3 ?_|exact Zt|(apply ya.out;clear ya yb))
    refine⟨r.body.length-(k+1),Aj6,k+1,i3,R++L,ys,?_⟩
    ((repeat' refine Zi ?_ ?_)<;>first|exact Xq|exact HA|exact Xs)
  ·rw[if_neg af]at ac;have a9:((k:Int) !=(n:Int))=true:=by simpa using (by omega:¬(k:Int)=n)
   have HA:Akc (R++[a]=Co n L (r.body.take (k+1))/\EL Qf (R++[a]) (xs++[sc (.bool a.neg),ic a.a.p,sl ia a.a.ts.length (Ac a.a.ts)])):=⟨ac.symm,EL.append hA.out.2 (EL.single ⟨ia,rfl⟩)⟩;rw[ac]at ae;clear ac aa hA af
   repeat' (first|refine Z1 ?_|(refine Z8 ?_;intro yb ya)|(refine Z4 ?_;clear ya yb)|(refine Z2 ?_ ?_<;>intro h ad<;>try exact Xp)|refine Z3 ?_|exact Zt)
   refine Bg (by first|exact Ek) ((hK.new _).put hK.nobj _) (Own.put (Own.new hO _) _ _) (by decide) (by rfl) (ak) (by rfl) (by rfl) (by decide) Aj6 Aj6 ?_;intro idn zn au av ax ab aw ai;simp only[Ab,Aa]at ab;refine Z3 ?_
   repeat' (first|refine Z1 ?_|(refine Z8 ?_;intro yb ya)|(refine Z4 ?_;clear ya yb)|refine Z3 ?_|exact Zt|(apply ya.out;clear ya yb))
   refine⟨r.body.length-(k+1),Aj6,k+1,idn,R++[a],xs++[sc (.bool a.neg),ic a.a.p,sl ia a.a.ts.length (Ac a.a.ts)],?_⟩
   ((repeat' refine Zi ?_ ?_)<;>first|exact Xq|exact HA|exact (av.put Aj6 _)|exact ((by simpa using Own.put au _ _))|exact ((by simp[ak];omega))|exact ((by simpa using Aj))|exact Xs)
 ·have bb:k=r.body.length:=Aj6;subst bb;obtain⟨e1,e2⟩:=hA.out;rw[Ag7]at e1;have HE:Akc (∀c,c=[sc (.bool false),ic r.head.p,sl ih r.head.ts.length (Ac r.head.ts),sl i3 R.length xs]->Re false ⟨r.head,Co n L r.body⟩ c):=fun c hc=>by
   rw[<-e1];exact⟨ih,i3,xs,hc,e2⟩
  clear hA e1 e2
  repeat' (first|refine Z1 ?_|(refine Z8 ?_;intro yb ya)|(refine Z4 ?_;clear ya yb)|(refine Z2 ?_ ?_<;>intro h ad<;>try exact Xp)|refine Z3 ?_|exact Zt|(apply ya.out;clear ya yb))
  exact⟨_,rfl,⟨_,rfl,HE.out _ rfl⟩,hK.put Aj6 _⟩
def OT (t:Tm):Prop:=∃w,UT w/\Ak w=t
theorem OT.dec {t:Tm}(h:OT t):UT (Ia t)/\Ak (Ia t)=t:=by
 obtain⟨w,hu,rfl⟩:=h;rw[hu.dec.1];exact⟨hu,rfl⟩
theorem kS {k:Nat}(hk:k<26):UT [Jp k]/\Ak [Jp k]=(true,(k:Int)):=by
 have h1:=Eh (k:=(k:Int)) Aj6 Aj6;have hv:Ad [Jp k]=true:=h1;refine⟨⟨.inl hv,⟨by simp,fun b hb=>?_⟩,by simp,fun _=>⟨k,hk,rfl⟩⟩,?_⟩
 ·simp at hb;subst hb;exact .inl h1
 ·rw[Dz h1,E8 Aj6 Aj6];congr 1;omega
theorem xQ {k:Nat}(hk:k<26):OT (true,(k:Int)):=⟨_,(kS hk).1,(kS hk).2⟩
def W52 (t:Tm):Prop:=Wm t/\(t.1=false->OT t)
theorem OT.w {t:Tm}(h:OT t):W52 t:=by
 refine⟨fun hv=>?_,fun _=>h⟩;obtain⟨w,hu,rfl⟩:=h;rw[Bo]at hv;obtain⟨k,hk,-,e⟩:=hu.enc hv;exact⟨k,Aj6,by rw[e]⟩
structure PtW (P:List Tm):Prop where
 len:P.length=52
 w:∀t∈P,W52 t
theorem PtW.of {P:List Tm}(h:PtW P){t:Tm}(ht:W52 t):W52 (D6 P t):=by
 unfold D6;split
 ·rename_i hv;cases e:P[t.2.toNat]? with
  |none=>exact ht
  |some u=>exact h.w u (Ag1 e)
 ·exact ht
theorem PtW.wi {P:List Tm}(h:PtW P){v t:Tm}(ht:W52 t):PtW (Sa P v t):=
 ⟨by rw[Ko];exact h.len,fun u hu=>by
  obtain⟨x,hx,rfl⟩:=Aib.1 hu;split
  ·exact ht
  ·exact h.w x hx⟩
theorem ot_zero:OT (false,0):=⟨[48],⟨.inr ⟨rfl,(by show Lib.itoa 0=[48];simp[Lib.itoa,Lib.decDigits]),by decide,by decide⟩,⟨by simp,by decide⟩,by simp,fun h=>by cases h⟩,rfl⟩
theorem Aab:PtW aprt:=⟨jV,fun t ht=>by
 obtain⟨i,hi,rfl⟩:=Aib.1 ht;split
 ·exact⟨fun _=>⟨26+i,Aj6,by simp⟩,fun h=>by cases h⟩
 ·exact ot_zero.w⟩
theorem mA:PtW pidn:=⟨Pl,fun t ht=>by
 obtain⟨i,hi,rfl⟩:=Aib.1 ht
 exact⟨fun _=>⟨i,by simpa using hi,rfl⟩,fun h=>by cases h⟩⟩
theorem bU:∀{ts us P P':List Tm},PtW P->(∀t∈ts,W52 t)->(∀t∈us,W52 t)->Dk P ts us=some P'->PtW P'
 |[],_,P,P',h,_,_,e=>by cases e;exact h
 |_::_,[],_,_,_,_,_,e=>by cases e
 |t::ts,u::us,P,P',h,h1,h2,e=>by
  unfold Dk at e;obtain⟨Q,hQ,e⟩:=Option.bind_eq_some_iff.1 e;refine bU ?_ (fun x hx=>h1 x (by simp[hx])) (fun x hx=>h2 x (by simp[hx])) e;unfold Pq at hQ;have ht:=h.of (h1 t (by simp));have hu:=h.of (h2 u (by simp));split at hQ
  ·cases hQ;exact h
  ·split at hQ
   ·cases hQ;exact h.wi ht
   ·split at hQ
    ·cases hQ;exact h.wi hu
    ·cases hQ
def QNm (q:Tx):Prop:=Ke q/\q.length<=1000
structure AtW (N:List Tx)(ar:Tx->Nat)(a:De):Prop where
 nm:∃q∈N,a.p=(N.idxOf q:Nat)/\QNm q/\a.ts.length=ar q
 pos:0<a.ts.length
 le3:a.ts.length<=3
 w:∀t∈a.ts,W52 t
structure RuW (N:List Tx)(ar:Tx->Nat)(r:Dx):Prop where
 hd:AtW N ar r.head
 bd:∀l∈r.body,AtW N ar l.a
 bl:r.body.length<=100
theorem RuW.r52 {N:List Tx}{ar:Tx->Nat}{r:Dx}(h:RuW N ar r):R52 r:=⟨h.hd.le3,fun l hl=>(h.bd l hl).le3,h.bl,fun t ht=>(h.hd.w t ht).1,fun l hl t ht=>((h.bd l hl).w t ht).1⟩
theorem AtW.pin {N:List Tx}{ar:Tx->Nat}{a:De}(h:AtW N ar a){P:List Tm}(hP:PtW P):AtW N ar (N6 P a):=by
 obtain⟨q,h1,h2,h3,h4⟩:=h.nm
 exact⟨⟨q,h1,h2,h3,by simp[N6,h4]⟩,by simpa[N6]using h.pos,by simpa[N6]using h.le3,fun t ht=>by
  obtain⟨u,hu,rfl⟩:=Aib.1 ht
  exact hP.of (h.w u hu)⟩
theorem RuW.pin {N:List Tx}{ar:Tx->Nat}{r:Dx}(h:RuW N ar r){P:List Tm}(hP:PtW P):RuW N ar (Ew P r):=
 ⟨h.hd.pin hP,fun l hl=>by
  obtain⟨k,hk,rfl⟩:=Aib.1 hl
  exact (h.bd k hk).pin hP,by simpa[Ew]using h.bl⟩
theorem RuW.join {N:List Tx}{ar:Tx->Nat}{r s:Dx}(h:RuW N ar r)(g:RuW N ar s)(n:Nat)(h5:r.body.length<=5)(g5:s.body.length<=5):RuW N ar ⟨r.head,Co n s.body r.body⟩:=
 ⟨h.hd,fun l hl=>by
  rcases Dt hl with hl|hl
  ·exact h.bd l hl
  ·exact g.bd l hl,by
  have h1:=Pg (n:=n) (o:=s.body) r.body r.body.length;rw[Ag7]at h1;have h2:r.body.length*(s.body.length+1)<=5*6:=Nat.mul_le_mul h5 Aj6;show (Co n s.body r.body).length<=100
  omega⟩
theorem nT {N:List Tx}{ar:Tx->Nat}{x:RItem}(hr:RuI N ar x)(hm:Msr N x)(ho:x.out=false)(hw:Ck x):RuW N ar (A3 N x):=by
 obtain⟨w1,w2,w3,w4⟩:=hw.2.2 ho;have key:∀a∈Ae x,AtI N ar a->D1 a->AtW N ar (B9 N a):=fun a ha hA hW=>
  ⟨⟨a.pred,hA.mem,rfl,⟨hW.1,(hm.at_ a ha).2.1⟩,by simp[B9,hA.len]⟩,by simpa[B9,Aiw]using hW.2.1,by simpa[B9]using hA.le3,fun t ht=>by
   obtain⟨w,hw,rfl⟩:=Aib.1 ht
   exact OT.w ⟨w,(hm.at_ a ha).2.2 w hw,rfl⟩⟩
 refine⟨key _ (Ar (.inl ⟨ho,rfl⟩)) hr.head w1,fun l hl=>?_,by simp[A3];omega⟩;obtain⟨a,ha,rfl⟩:=Aib.1 hl;exact key a (Ar (.inr ha)) (hr.body a ha) (w4 a ha)
def Wv (N:List Tx)(x:RItem)(k:Nat)(y:RItem):Option Dx:=
 (x.body[k]?).bind fun a=>(Dk pidn (a.terms.map Ak) (Ew aprt (A3 N y)).head.ts).map fun P=>Eo (Ew P ⟨(A3 N x).head,Co k (Ew aprt (A3 N y)).body (A3 N x).body⟩)
def Lg (q:Tx)(y:RItem):Bool:=!y.out&&decide (y.head.pred=q)
def Ld (N:List Tx)(l:List RItem)(x:RItem)(k:Nat)(q:Tx):List Dx:=(l.filter (Lg q)).filterMap (Wv N x k)
structure AtO (N:List Tx)(ar:Tx->Nat)(a:De):Prop where
 nm:∃q∈N,a.p=(N.idxOf q:Nat)/\QNm q/\a.ts.length=ar q
 pos:0<a.ts.length
 le3:a.ts.length<=3
 ot:∀t∈a.ts,OT t
structure RuO (N:List Tx)(ar:Tx->Nat)(r:Dx):Prop where
 hd:AtO N ar r.head
 bd:∀l∈r.body,AtO N ar l.a
def Mh (N:List Tx)(b:Bool)(a:De):RAtom:=⟨b,(N[a.p.toNat]?).getD [],a.ts.map Ia⟩
def Cx (N:List Tx)(r:Dx):RItem:=⟨false,Mh N false r.head,r.body.map fun l=>Mh N l.neg l.a⟩
theorem AtO.at {N:List Tx}{ar:Tx->Nat}{a:De}(h:AtO N ar a)(b:Bool):(Mh N b a).pred∈N/\QNm (Mh N b a).pred/\(Mh N b a).terms.length=ar (Mh N b a).pred/\B9 N (Mh N b a)=a/\∀t∈(Mh N b a).terms,UT t:=by
 obtain⟨q,h1,h2,h3,h4⟩:=h.nm;have e:(Mh N b a).pred=q:=by
  show (N[a.p.toNat]?).getD []=q;rw[h2,Ajn,Agz (Air h1),Aiq];rfl
 rw[e];refine⟨h1,h3,by simp[Mh,h4],?_,fun t ht=>?_⟩
 ·unfold B9;rw[e,<-h2];show (⟨a.p,(a.ts.map Ia).map Ak⟩:De)=a;have:(a.ts.map Ia).map Ak=a.ts:=by
   rw[Ahg]
   conv=>rhs;rw[<-Aic a.ts]
   exact Aid fun t ht=>(h.ot t ht).dec.2
  rw[this]
 ·obtain⟨u,hu,rfl⟩:=Aib.1 ht;exact (h.ot u hu).dec.1
theorem RuO.rul {N:List Tx}{ar:Tx->Nat}{r:Dx}(h:RuO N ar r):A3 N (Cx N r)=r:=by
 obtain⟨hd,bd⟩:=r;unfold A3 Cx;simp only[(h.hd.at false).2.2.2.1,Ahg];congr 1
 conv=>rhs;rw[<-Aic bd]
 refine Aid fun l hl=>?_;show (⟨(Mh N l.neg l.a).nt,B9 N (Mh N l.neg l.a)⟩:Lit)=l;rw[((h.bd l hl).at l.neg).2.2.2.1];rfl
theorem kK {N:List Tx}:∀{l:List RAtom} {b:List AV},(∀a∈l,a.pred∈N)->EL Qf (l.map (Dp N)) b->EL (PL N) l b
 |[],_,_,h=>h
 |a::l,_,g,⟨c,d,⟨id,e⟩,h2,e2⟩=>⟨c,d,⟨g a (by simp),id,by rw[e];simp[Dp,B9,F2]⟩,kK (fun b hb=>g b (by simp[hb])) h2,e2⟩
theorem Aao {N:List Tx}{x:RItem}{c:List AV}(h:PI N x c):Re x.out (A3 N x) c:=by
 obtain⟨hm,ih,id,b,hb,rfl⟩:=h;exact⟨ih,id,b,by simp[A3,B9,F2],oC hb⟩
theorem kF {N:List Tx}{x:RItem}{c:List AV}(h1:x.head.pred∈N)(h2:∀a∈x.body,a.pred∈N)(h:Re x.out (A3 N x) c):PI N x c:=by
 obtain⟨ih,id,b,rfl,hb⟩:=h;exact⟨h1,ih,id,b,kK h2 hb,by simp[A3,B9,F2]⟩
theorem RuO.pi {N:List Tx}{ar:Tx->Nat}{r:Dx}(h:RuO N ar r){c:List AV}(hc:Re false r c):PI N (Cx N r) c:=by
 refine kF (h.hd.at false).1 (fun a ha=>?_) (by rw[h.rul];exact hc);obtain⟨l,hl,rfl⟩:=Aib.1 ha;exact ((h.bd l hl).at l.neg).1
theorem RuO.atoms {N:List Tx}{ar:Tx->Nat}{r:Dx}(h:RuO N ar r){a:RAtom}(ha:a∈Ae (Cx N r)):∃m b,a=Mh N b m/\AtO N ar m:=by
 have aa:a=Mh N false r.head\/a∈r.body.map fun l=>Mh N l.neg l.a:=by simpa[Ae,Cx]using ha
 rcases aa with rfl|aa
 ·exact⟨_,_,rfl,h.hd⟩
 ·obtain⟨l,hl,rfl⟩:=Aib.1 aa;exact⟨_,_,rfl,h.bd l hl⟩
theorem RuO.msr {N:List Tx}{ar:Tx->Nat}{r:Dx}(h:RuO N ar r)(hb:r.body.length<=1000):Msr N (Cx N r):=
 ⟨(fun e=>by cases e),by simpa[Cx]using hb,(h.hd.at false).1,(h.hd.at false).2.1.2,fun a ha=>by
  obtain⟨m,b,rfl,hm⟩:=h.atoms ha
  exact⟨by simpa[Mh]using hm.le3,(hm.at b).2.1.2,(hm.at b).2.2.2.2⟩⟩
theorem AtW.ren {N:List Tx}{ar:Tx->Nat}{a:De}(h:AtW N ar a){vs:List Int}(hv:∀v,(true,v)∈a.ts->v∈vs)(hl:vs.length<=26):AtO N ar (fS vs a):=by
 obtain⟨q,h1,h2,h3,h4⟩:=h.nm;refine⟨⟨q,h1,h2,h3,by simp[fS,h4]⟩,by simpa[fS]using h.pos,by simpa[fS]using h.le3,fun t ht=>?_⟩;obtain⟨⟨b,v⟩,hu,rfl⟩:=Aib.1 ht;cases b with
 |true=>
  have hm:=hv v hu;have hi:=Air hm;have e:Fj vs (true,v)=(true,((vs.idxOf v:Nat):Int)):=by simp[Fj,lX,hm]
  rw[e];exact xQ Aj6
 |false=>exact (h.w _ hu).2 rfl
theorem RuW.ord {N:List Tx}{ar:Tx->Nat}{r:Dx}(h:RuW N ar r)(h5:r.body.length<=5):RuO N ar (Eo r):=by
 have hl:(Ep r).length<=26:=by
  have h1:=E4 (l:=G5 r) fun a ha=>by
   rcases Ah2.1 ha with rfl|ha
   ·exact h.hd.le3
   ·obtain⟨l,hl,rfl⟩:=Aib.1 ha;exact (h.bd l hl).le3
  have h3:(G5 r).length=r.body.length+1:=by simp[G5]
  unfold Ep;omega
 refine⟨h.hd.ren (fun v hv=>(C3 _ _).2 ⟨r.head,by simp[G5],hv⟩) hl,fun l hm=>?_⟩;obtain⟨k,hk,rfl⟩:=Aib.1 hm;exact (h.bd k hk).ren (fun v hv=>(C3 _ _).2 ⟨k.a,by simp only[G5,Ah2,Aib];exact .inr ⟨k,hk,rfl⟩,hv⟩) hl
theorem qH {N:List Tx}{p q:Tx}(hp:p∈N)(hq:q∈N):(((N.idxOf p:Nat):Int) !=((N.idxOf q:Nat):Int))=!decide (p=q):=by
 by_cases h:p=q
 ·subst h;simp
 ·have:N.idxOf p≠N.idxOf q:=fun e=>h (by
   have h1:=Aiq (Air hp);have h2:=Aiq (Air hq)
   rw[<-h1,<-h2];congr 1)
  simp[h];omega
theorem rG {N:List Tx}{l:List RItem}{x:RItem}{k:Nat}{q:Tx}{i:Nat}{y:RItem}(h:l[i]?=some y):Ld N (l.take (i+1)) x k q=Ld N (l.take i) x k q++(if Lg q y=true then (Wv N x k y).toList else []):=by
 unfold Ld;rw[Ahd,h,Ais,Ajk,List.filterMap_append];congr 1;by_cases hq:Lg q y=true
 ·rw[if_pos hq,Ai5,if_pos hq];cases e:Wv N x k y<;>simp[e]
 ·rw[if_neg hq,Ai5,if_neg hq];rfl
theorem R5 (N:List Tx)(ar:Tx->Nat)(l:List RItem)(cs:List AV)(idn idi:Nat)(hR:RtL N ar l)(hE:EL (PI N) l cs)(x:RItem)(c:List AV)(k:Nat)(a:RAtom)(hx:x∈l)(be:x.out=false)(hc:PI N x c)(ha:x.body[k]?=some a)(z:St):
  ACalls Tryz.prog 179 [Bn N idn l idi cs,ag c,sc (.int .i64 k)] z fun r z'=>(∃id c',r=sl id (Ld N l x k a.pred).length c'/\EL (Re false) (Ld N l x k a.pred) c')/\Keep z z':=by
 have cr:=hR.gl.len;have dw:=EL.length Dd hE;have bz:=Ag1 ha;have hW:=fun y hy ho=>nT (hR.ru y hy ho) (hR.gl.msr y hy) ho (hR.wit y hy);have bi:=hW x hx be;have dp:=hR.b5 x hx;have cx:=((hR.ru x hx be).body a bz).mem;have a7:=((hR.ru x hx be).body a bz).len;have bw:=Aao hc;rw[be]at bw;have bq:(A3 N x).body[k]?=some (Dp N a):=by simp[A3,ha]
 have b9:=bi.bd _ (Ag1 bq);have b2:=bw;obtain⟨ih,ib,bc,rfl,hb⟩:=bw;obtain⟨ia,ra,cu⟩:=Hl hb bq;have cw:=EL.length Gs hb;have cf:(A3 N x).body.length=x.body.length:=by simp[A3]
 have dt:k<x.body.length:=(Agy.1 ha).1;have HU:Akc (∀y,Wv N x k y=(Dk pidn (Dp N a).a.ts (Ew aprt (A3 N y)).head.ts).map fun P=>Eo (Ew P ⟨(A3 N x).head,Co k (Ew aprt (A3 N y)).body (A3 N x).body⟩)):=fun y=>by
  unfold Wv;rw[ha];rfl
 have av:(Dp N a).a.p=((N.idxOf a.pred:Nat):Int):=rfl;have b8:(Dp N a).a.ts.length=ar a.pred:=by simp[Dp,B9,a7]
 generalize A3 N x=X at bi b2 bq hb cw cf HU;generalize (Dp N a).a=A at cu b9 HU av b8;have c5:X.body.length<=5:=Aj6;have du:k<X.body.length:=Aj6;have dj:Akc _:=av;have dk:Akc _:=b8;have dd:Akc (Re false X [sc (.bool false),ic X.head.p,sl ih X.head.ts.length (Ac X.head.ts),sl ib X.body.length bc]):=b2;have HR:Akc (RtL N ar l):=hR;have HW:Akc (∀y∈l,y.out=false->RuW N ar (A3 N y)):=hW;have dc:Akc (RuW N ar X):=bi;have cb:Akc (AtW N ar A):=b9;clear b2 hR hW bi b9 ha bz bq hc cf av b8 a7;refine Z9 65 [.tmp 6] Tryz.func179 ?_
 repeat' (first|refine Z1 ?_|(refine Z8 ?_;intro yb ya)|(refine Z4 ?_;clear ya yb)|refine Z3 ?_|exact Zt|(apply ya.out;clear ya yb))
 refine Af (fun m s z'=>∃(i id:Nat) (R:List Dx) (c:List AV),m=l.length-i/\i<=l.length/\s 2=ic k/\s 4=ptr (z.nobj+1) 0/\s 7=sl id R.length c/\s 8=ptr (z.nobj+2) 0/\s 24=sl idi l.length cs/\s 25=ic l.length/\s 26=ic i/\Keep z z'/\z.nobj+2<z'.nobj/\z'.obj (z.nobj+1)=[sc (.bool false),ic X.head.p,sl ih X.head.ts.length (Ac X.head.ts),sl ib X.body.length bc]/\z'.obj (z.nobj+2)=[ic A.p,sl ia A.ts.length (Ac A.ts)]/\Own z z' id R.length/\c.length=R.length*4/\R.length<=i/\Akc (R=Ld N (l.take i) x k a.pred/\EL (Re false) R c)) l.length
  ⟨0,1,[],[],Aj6,Aj6,by simp[upd,initS],Aj8,Aj8,Aj8,Aj8,Aj8,rfl,?_,?_,?_,?_,Own.nil _ _,by simp,by simp,⟨by simp[Ld],rfl⟩⟩ ?_
 ·exact ((((Keep.refl z).new _).new _).new _).put Aj6 _
 ·simp only[Ab,Aa];omega
 ·rw[Ah Aj6,Ag Aka,Bs (by rw[Aa];omega) (by rw[Aa];omega)]
 ·rw[show z.nobj+2=z.nobj+1+1 by omega,Aj]
 rintro m s z' ⟨i,id,R,c,rfl,hi,h2,h4,h7,h8,d2,d1,d0,hK,dq,dm,dl,hO,cv,dx,hA⟩;have dn:=hK.nobj;by_cases cd:i<l.length
 ·have ab:=Agz cd;have a5:=Ain cd;have cc:=((HR.out).gl.msr l[i] a5).mem;have az:=fun (ho:l[i].out=false)=>HW.out l[i] a5 ho;have cn:=HR.out.b5 l[i] a5;have aa:=fun (ho:l[i].out=false)=>(HR.out.ru l[i] a5 ho).head.len;obtain⟨cy,ry,ax,hd⟩:=EL.get Dd hE ab;have ax:=Aao ax;have HS:=rG (N:=N) (x:=x) (k:=k) (q:=a.pred) ab;have ao:=qH cc cx;have bg:(A3 N l[i]).head.p=((N.idxOf l[i].head.pred:Nat):Int):=rfl;have b0:(A3 N l[i]).body.length=l[i].body.length:=by simp[A3]
  have bh:(A3 N l[i]).head.ts.length=l[i].head.terms.length:=by simp[A3,B9]
  have ae:=HU.out l[i];generalize l[i]=y at ab a5 cc az cn aa ax hd HS ao bg b0 bh ae;generalize A3 N y=Y at az ax bg b0 bh ae;have cz:Y.body.length<=5:=Aj6;have db:Akc _:=bh;clear b0 bh;have a8:=ax;obtain⟨jh,jb,jc,rfl,ct⟩:=ax;simp only[Ah4,Ah6]at hd;rw[<-bg,<-dj.out]at ao;clear bg;cases aw:y.out with
  |true=>
   have HN:Akc (R=Ld N (l.take (i+1)) x k a.pred/\EL (Re false) R c):=by
    rw[HS];simp[Lg,aw];exact hA.out
   rw[aw]at hd;clear HS hA ab a8 az aa ao ae
   repeat' (first|refine Z1 ?_|(refine Z8 ?_;intro yb ya)|(refine Z4 ?_;clear ya yb)|(refine Z2 ?_ ?_<;>intro h ai<;>try exact Xp)|refine Z3 ?_|exact Zt|(apply ya.out;clear ya yb))
   refine⟨l.length-(i+1),Aj6,i+1,id,R,c,?_⟩
   ((repeat' refine Zi ?_ ?_)<;>first|exact Xq|exact HN|exact Xs)
  |false=>
   rw[aw]at hd a8;by_cases a6:y.head.pred=a.pred
   ·have cq:(Y.head.p !=A.p)=false:=by rw[ao];simp[a6]
    have b1:=az aw;have ay:=b1.pin Aab;have av:=fun z=>apart_spec Y b1.r52 false _ a8 z;have bf:A.ts.length=(Ew aprt Y).head.ts.length:=by
     rw[dk.out,<-a6,<-aa aw,<-db.out];simp[Ew,N6]
    have ap:=fun jh z=>sU A (Ew aprt Y).head ia jh bf (by have:=cb.out.le3;omega) (fun t ht=>(cb.out.w t ht).1) (fun t ht=>(ay.hd.w t ht).1) z;have ce:(Ew aprt Y).body.length<=5:=by simp[Ew];omega
    have bl:∀P,Dk pidn A.ts (Ew aprt Y).head.ts=some P->PtW P:=fun P e=>bU mA cb.out.w ay.hd.w e;have bb:=dc.out.join ay k c5 ce;generalize Ew aprt Y=Z at ay av bf ap ce bl bb ae;have b6:=fun jb jc (h:EL Qf Z.body jc) z=>mN X false _ k Z.body jb jc dd.out Aj6 h Aj6 z;have dv:=Ga;have hz:=Mr;have ds:=S1;have d3:Akc _:=bf;clear a8 az aa ao b1 bf ct;cases hm:Dk pidn A.ts Z.head.ts with
    |none=>
     rw[hm]at ae ap;have HN:Akc (R=Ld N (l.take (i+1)) x k a.pred/\EL (Re false) R c):=by
      rw[HS,ae];simp;exact hA.out
     have co:=Hj (P:=pt0) (by simp[pt0]);have cp:=N4 (P:=pt0) (Q:=pt0) (by simp[pt0]) (by simp[pt0]);unfold Aen at ap;clear HS ae hA ab hm bl b6 bb ay
     repeat' (first|refine Z1 ?_|(refine Z8 ?_;intro yb ya)|(refine Z4 ?_;clear ya yb)|(refine Z2 ?_ ?_<;>intro h ai<;>try exact Xp)|(refine Z5 ?_;first|(refine Xi (av _) ?_;rintro _ _ ⟨⟨_,rfl,au⟩,ak⟩;(have ad:=((hK.new _).put hK.nobj _).trans ak;have b4:=Own.keep (Own.put (Own.new hO _) _ _) ak;have an:=ak.nobj;have ah:=ak.obj;(try simp only[Aa,Ab]at an ah);obtain⟨zh,zb,zc,rfl,au⟩:=au;clear au))|(refine Xi (ap _ _) ?_;rintro _ _ ⟨rfl,aj⟩;(have ac:=((ad.new _).put ad.nobj _).trans aj;have b3:=Own.keep (Own.put (Own.new b4 _) _ _) aj;have am:=aj.nobj;have af:=aj.obj;(try simp only[Aa,Ab]at am af))))|refine Z3 ?_|exact Zt|(apply ya.out;clear ya yb))
     refine⟨l.length-(i+1),Aj6,i+1,id,R,c,?_⟩
     ((repeat' refine Zi ?_ ?_)<;>first|exact Xq|exact HN|exact (Own.put (Own.new b3 _) _ _)|exact ((ac.new _).put ac.nobj _)|exact Xs)
    |some P=>
     rw[hm]at ae ap;have hP:=bl P hm;have cg:=bb.pin hP;have b7:=fun c (h:Re false ⟨X.head,Co k Z.body X.body⟩ c) z=>Zh P hP.len _ bb.r52 false c h z;have bm:=fun c (h:Re false (Ew P ⟨X.head,Co k Z.body X.body⟩) c) z=>sM _ c h cg.r52 z;have HN:Akc (∀d,Re false (Eo (Ew P ⟨X.head,Co k Z.body X.body⟩)) d->R++[Eo (Ew P ⟨X.head,Co k Z.body X.body⟩)]=Ld N (l.take (i+1)) x k a.pred/\EL (Re false) (R++[Eo (Ew P ⟨X.head,Co k Z.body X.body⟩)]) (c++d)):=fun d hd=>by
      refine⟨?_,EL.append hA.out.2 (EL.single hd)⟩;rw[HS,ae];simp[Lg,aw,a6];exact hA.out.1
     have co:=Hj hP.len;have cp:=N4 (P:=pt0) (by simp[pt0]) hP.len;have dr:=Gj hP.len;unfold Aen at ap;clear HS ae hA ab hm bl cg bb ay hP;generalize (⟨X.head,Co k Z.body X.body⟩:Dx)=J at b6 b7 bm HN;generalize Ew P J=K at b7 bm HN;generalize Eo K=O at bm HN
     repeat' (first|refine Z1 ?_|(refine Z8 ?_;intro yb ya)|(refine Z4 ?_;clear ya yb)|(refine Z2 ?_ ?_<;>intro h ai<;>try exact Xp)|(refine Z6 ?_;intro idn zn c6 dz ca cm da ck)|(refine Z5 ?_;first|(refine Xi (av _) ?_;rintro _ _ ⟨⟨_,rfl,au⟩,ak⟩;(have ad:=((hK.new _).put hK.nobj _).trans ak;have b4:=Own.keep (Own.put (Own.new hO _) _ _) ak;have an:=ak.nobj;have ah:=ak.obj;(try simp only[Aa,Ab]at an ah);obtain⟨zh,zb,zc,rfl,au⟩:=au))|(refine Xi (ap _ _) ?_;rintro _ _ ⟨rfl,aj⟩;(have ac:=((ad.new _).put ad.nobj _).trans aj;have b3:=Own.keep (Own.put (Own.new b4 _) _ _) aj;have am:=aj.nobj;have af:=aj.obj;(try simp only[Aa,Ab]at am af)))|(refine Xi (b6 _ _ au _) ?_;rintro _ _ ⟨⟨_,rfl,cj⟩,bp⟩;(have ba:=((ac.new _).put ac.nobj _).trans bp;have c8:=Own.keep (Own.put (Own.new b3 _) _ _) bp;have bv:=bp.nobj;have a4:=bp.obj;(try simp only[Aa,Ab]at bv a4);have di:Akc _:=cj;obtain⟨jh3,jb3,jc3,rfl,-⟩:=cj))|(refine Xi (b7 _ di.out _) ?_;rintro _ _ ⟨⟨_,rfl,ci⟩,bo⟩;(have a9:=((ba.new _).put ba.nobj _).trans bo;have c7:=Own.keep (Own.put (Own.new c8 _) _ _) bo;have bu:=bo.nobj;have a3:=bo.obj;(try simp only[Aa,Ab]at bu a3);have dh:Akc _:=ci;obtain⟨jh4,jb4,jc4,rfl,-⟩:=ci))|(refine Xi (bm _ dh.out _) ?_;rintro _ _ ⟨⟨_,rfl,ch⟩,bn⟩;(have c9:=((a9.new _).put a9.nobj _).trans bn;have dy:=Own.keep (Own.put (Own.new c7 _) _ _) bn;have br:=bn.nobj;have a0:=bn.obj;(try simp only[Aa,Ab]at br a0);have df:Akc _:=HN.out _ ch;obtain⟨jh5,jb5,jc5,rfl,-⟩:=ch)))|refine Z3 ?_|exact Zt|(apply ya.out;clear ya yb))
     have de:Akc _:=df.out;refine⟨l.length-(i+1),Aj6,i+1,idn,R++[O],c++[sc (.bool false),ic O.head.p,sl jh5 O.head.ts.length (Ac O.head.ts),sl jb5 O.body.length jc5],?_⟩
     ((repeat' refine Zi ?_ ?_)<;>first|exact Xq|exact (by simpa using c6)|exact de|exact ((by simp[cv];omega))|exact (by rw[ca,a0 _ Aj6,Ah Aj6,Ag Aj6,a3 _ Aj6,Ah Aj6,Ag Aj6,a4 _ Aj6,Ah Aj6,Ag Aj6,af _ Aj6,Ah Aj6,Ag Aj6,ah _ Aj6,Ah Aj6,Ag Aj6];assumption)|exact Xs)
   ·have cq:(Y.head.p !=A.p)=true:=by rw[ao];simp[a6]
    have HN:Akc (R=Ld N (l.take (i+1)) x k a.pred/\EL (Re false) R c):=by
     rw[HS];simp[Lg,a6];exact hA.out
    clear HS hA ab a8 az aa ao ae
    repeat' (first|refine Z1 ?_|(refine Z8 ?_;intro yb ya)|(refine Z4 ?_;clear ya yb)|(refine Z2 ?_ ?_<;>intro h ai<;>try exact Xp)|refine Z3 ?_|exact Zt|(apply ya.out;clear ya yb))
    refine⟨l.length-(i+1),Aj6,i+1,id,R,c,?_⟩
    ((repeat' refine Zi ?_ ?_)<;>first|exact Xq|exact HN|exact Xs)
 ·have hil:i=l.length:=Aj6;subst hil;obtain⟨e1,e2⟩:=hA.out;rw[Ag7]at e1;have HF:Akc (∀r,r=sl id R.length c->∃id c',r=sl id (Ld N l x k a.pred).length c'/\EL (Re false) (Ld N l x k a.pred) c'):=fun r hr=>by
   rw[<-e1];exact⟨id,c,hr,e2⟩
  clear hA e1 e2
  repeat' (first|refine Z1 ?_|(refine Z8 ?_;intro yb ya)|(refine Z4 ?_;clear ya yb)|(refine Z2 ?_ ?_<;>intro h ai<;>try exact Xp)|refine Z3 ?_|exact Zt|(apply ya.out;clear ya yb))
  first|exact⟨_,rfl,HF.out _ rfl,hK⟩|exact⟨_,rfl,HF.out _ rfl⟩
theorem Ad0 {α β:Type}{E:α->List AV->Prop}{E':β->List AV->Prop}{f:α->β}:∀{l:List α} {cs:List AV},EL E l cs->(∀a∈l,∀c,E a c->E' (f a) c)->EL E' (l.map f) cs
 |[],_,h,_=>h
 |a::l,_,⟨c,d,h1,h2,e⟩,g=>⟨c,d,g a (by simp) c h1,Ad0 h2 (fun b hb=>g b (by simp[hb])),e⟩
def uL (N:List Tx)(l:List RItem)(x:RItem)(k:Nat)(q:Tx):List RItem:=(Ld N l x k q).map (Cx N)
theorem vB {N:List Tx}{ar:Tx->Nat}{l:List RItem}(hR:RtL N ar l){x:RItem}(hx:x∈l)(ad:x.out=false){k:Nat}{a:RAtom}(ha:x.body[k]?=some a){r:Dx}(h:r∈Ld N l x k a.pred):∃s,RuW N ar s/\r=Eo s:=by
 have hW:=fun y hy ho=>nT (hR.ru y hy ho) (hR.gl.msr y hy) ho (hR.wit y hy);obtain⟨y,hy,e⟩:=List.mem_filterMap.1 h;obtain⟨ab,aa⟩:=Ai7.1 hy;simp only[Lg,Ag3,Ajo,Aj3]at aa;unfold Wv at e;rw[ha]at e;obtain⟨P,hP,rfl⟩:=Aj0.1 e;have hX:=hW x hx ad;have hZ:=(hW y ab aa.1).pin Aab;have ae:(A3 N x).body.length<=5:=by simp[A3];exact hR.b5 x hx
 have ac:(Ew aprt (A3 N y)).body.length<=5:=by simp[Ew,A3];exact hR.b5 y ab
 have hA:=hX.bd (Dp N a) (by simp only[A3,Aib];exact⟨a,Ag1 ha,rfl⟩);exact⟨_,(hX.join hZ k ae ac).pin (bU mA hA.w hZ.hd.w hP),rfl⟩
theorem Ad8 {N:List Tx}{ar:Tx->Nat}{l:List RItem}(hR:RtL N ar l){x:RItem}(hx:x∈l)(ab:x.out=false){k:Nat}{a:RAtom}(ha:x.body[k]?=some a){y:RItem}(h:y∈uL N l x k a.pred)(h5:y.body.length<=5):∃r,y=Cx N r/\RuO N ar r/\r.body.length<=5:=by
 obtain⟨r,hr,rfl⟩:=Aib.1 h;obtain⟨s,hs,rfl⟩:=vB hR hx ab ha hr;have aa:s.body.length<=5:=by simpa[Cx,Eo]using h5
 exact⟨_,rfl,hs.ord aa,by simpa[Eo]using aa⟩
theorem Afn {N:List Tx}{ar:Tx->Nat}{l:List RItem}(hR:RtL N ar l){x:RItem}(hx:x∈l)(aa:x.out=false){k:Nat}{a:RAtom}(ha:x.body[k]?=some a){c:List AV}(h:EL (Re false) (Ld N l x k a.pred) c):EL (PJ N) (uL N l x k a.pred) c:=by
 refine Ad0 h fun r hr c hc=>?_;obtain⟨s,hs,rfl⟩:=vB hR hx aa ha hr;have hl:(Cx N (Eo s)).body.length=s.body.length:=by simp[Cx,Eo]
 have hb:=hs.bl;by_cases h5:s.body.length<=5
 ·have hO:=hs.ord h5;exact .inl ⟨hO.pi hc,hO.msr (by simp[Eo];omega)⟩
 ·obtain⟨ih,ib,bc,rfl,-⟩:=hc;exact .inr ⟨by rw[hl];omega,by rw[hl];omega,false,(Eo s).head.p,ih,(Eo s).head.ts.length,Ac (Eo s).head.ts,ib,bc,by rw[hl];simp[Eo]⟩
theorem Qz {l:List RItem}(h:H8 l=true):l.length<=16/\∀x∈l,x.body.length<=5:=by
 unfold H8 at h;simp only[Ag3,Aj3,Ag0]at h;exact⟨h.1,h.2.1⟩
theorem PJ.pi {N:List Tx}{x:RItem}{c:List AV}(h:PJ N x c)(h5:x.body.length<=5):PI N x c/\Msr N x:=h.resolve_right fun h=>by have:=h.1;omega
theorem RuO.fits {N:List Tx}{ar:Tx->Nat}{r:Dx}(h:RuO N ar r)(h5:r.body.length<=5):(Cx N r).fits:=by
 refine⟨by simp[Cx];omega,by have:=h.hd.le3;simp[Cx,Mh];omega,fun a ha=>?_⟩;obtain⟨l,hl,rfl⟩:=Aib.1 ha;have:=(h.bd l hl).le3;simp[Mh];omega
def GdI (N:List Tx)(ar:Tx->Nat)(o:List RItem):Prop:=∀y∈o,y.body.length<=5->∃r,y=Cx N r/\RuO N ar r/\r.body.length<=5
theorem Adk {N:List Tx}{ar:Tx->Nat}{l:List RItem}(hR:RtL N ar l){x:RItem}(hx:x∈l)(aa:x.out=false){k:Nat}{a:RAtom}(ha:x.body[k]?=some a):GdI N ar (uL N l x k a.pred):=fun y hy h5=>Ad8 hR hx aa ha hy h5
theorem Ad9 (N:List Tx)(l:List RItem)(x:RItem)(k:Nat)(q:Tx):(uL N l x k q).length<=l.length:=by
 unfold uL Ld;rw[Ai1];exact Ago (List.length_filterMap_le _ _) (Ai6 _ _)
theorem Adp {N:List Tx}{ar:Tx->Nat}{l o:List RItem}(hR:RtL N ar l)(hU:GdI N ar o)(i:Nat)(aa:H8 (Co i o l)=true):GL N (Co i o l):=by
 obtain⟨ab,h5⟩:=Qz aa;have hm:∀y∈Co i o l,y∈l\/∃r,y=Cx N r/\RuO N ar r/\r.body.length<=5:=fun y hy=>by
  rcases Dt hy with h|h
  ·exact .inl h
  ·exact .inr (hU y h (h5 y hy))
 refine⟨ab,hR.gl.nm,fun y hy=>?_,fun y hy=>?_,fun y hy=>?_,fun y hy=>?_,fun y hy=>?_⟩
 ·rcases hm y hy with h|⟨r,rfl,hr,hb⟩
  ·exact hR.gl.msr y h
  ·exact hr.msr Aj6
 ·rcases hm y hy with h|⟨r,rfl,hr,hb⟩
  ·exact hR.gl.fits y h
  ·exact hr.fits hb
 ·rcases hm y hy with h|⟨r,rfl,hr,hb⟩
  ·exact hR.gl.pos y h
  ·intro a ha;obtain⟨m,b,rfl,hm⟩:=hr.atoms ha;simpa[Mh]using hm.pos
 ·rcases hm y hy with h|⟨r,rfl,hr,hb⟩
  ·exact hR.gl.va y h
  ·intro a ha w hw;obtain⟨m,b,rfl,hm⟩:=hr.atoms ha;exact Yb ((hm.at b).2.2.2.2 w hw)
 ·rcases hm y hy with h|⟨r,rfl,hr,hb⟩
  ·exact hR.gl.ar y h
  ·intro a ha b hb e;obtain⟨m,c,rfl,hm⟩:=hr.atoms (Ar (.inr ha));obtain⟨n,d,rfl,hn⟩:=hr.atoms (Ar (.inr hb));rw[(hm.at c).2.2.1,(hn.at d).2.2.1,e]
theorem Adq {N:List Tx}{ar:Tx->Nat}{l o:List RItem}(hR:RtL N ar l)(hU:GdI N ar o)(ho:o.length<=16)(i:Nat){c:List AV}(h:EL (PJ N) (Co i o l) c):BkJ N (Co i o l) c:=by
 have hl:=hR.gl.len;refine⟨h,?_,fun aa=>(Adp hR hU i aa).bkm (Ow h fun y hy c hc=>(hc.pi ((Qz aa).2 y hy)).1)⟩;have h1:=Pg (n:=i) (o:=o) l l.length;rw[Ag7]at h1;have h3:l.length*(o.length+1)<=16*17:=Nat.mul_le_mul hl Aj6;omega
theorem S9 {l:List RItem}(h:(Cd l).1=0){x:RItem}(hx:x∈l):F6 x=true:=by
 unfold Cd at h;split at h
 ·cases h
 ·split at h
  ·cases h
  ·rename_i h2;obtain⟨i,hi,e⟩:=List.getElem_of_mem hx;have:=mW h2 i hi;unfold D9 at this;rw[Agz hi,e]at this;simpa using this
theorem RuO.wit {N:List Tx}{ar:Tx->Nat}{r:Dx}(h:RuO N ar r)(h5:r.body.length<=5):Ck (Cx N r):=by
 have key:∀m b,AtO N ar m->D1 (Mh N b m):=fun m b hm=>⟨(hm.at b).2.1.1,by
  have:=hm.pos;intro e;have:=congrArg List.length e;simp[Mh]at this
  simp[this]at*,by simpa[Mh]using hm.le3,fun t ht=>((hm.at b).2.2.2.2 t ht).2.1⟩
 refine⟨(h.hd.at false).2.1.1,(fun e=>by cases e),fun _=>⟨key _ _ h.hd,rfl,by simpa[Cx]using h5,fun a ha=>?_⟩⟩;obtain⟨l,hl,rfl⟩:=Aib.1 ha;exact key _ _ (h.bd l hl)
theorem RuO.wi {N:List Tx}{ar:Tx->Nat}{r:Dx}(h:RuO N ar r)(h5:r.body.length<=5):WI N (Cx N r):=by
 have hw:=h.wit h5;have ac:∀m b,AtO N ar m->short (Mh N b m):=fun m b hm=>⟨(hm.at b).2.1.2,by have:=hm.le3;simp[Mh];omega,fun t ht=>((hm.at b).2.2.2.2 t ht).2.2.1⟩;have ab:∀m b,AtO N ar m->VA (Mh N b m):=fun m b hm t ht=>Yb ((hm.at b).2.2.2.2 t ht);have ad:∀a∈Ae (Cx N r),WA N (A4 (Cx N r)) a:=fun a ha=>by
  obtain⟨m,b,rfl,hm⟩:=h.atoms ha;exact⟨(hm.at b).1,by simpa[Mh]using hm.pos,(ac m b hm).2.1,(hm.at b).2.1.2,fun w aa=>⟨((hm.at b).2.2.2.2 w aa).1,((hm.at b).2.2.2.2 w aa).2.2.1,fun hv=>Mu hw ha aa hv⟩⟩
 refine⟨h.fits h5,⟨ac _ _ h.hd,fun a ha=>?_⟩,fun a ha=>?_,ab _ _ h.hd,fun a ha=>?_,(h.hd.at false).1,by simpa[Cx]using h5,(fun e=>by cases e),fun _=>⟨rfl,ad _ (Ar (.inl ⟨rfl,rfl⟩))⟩,fun a ha=>ad a (Ar (.inr ha))⟩
 ·obtain⟨l,hl,rfl⟩:=Aib.1 ha;exact ac _ _ (h.bd l hl)
 ·obtain⟨m,b,rfl,hm⟩:=h.atoms ha;exact ab _ _ hm
 ·obtain⟨l,hl,rfl⟩:=Aib.1 ha;exact ab _ _ (h.bd l hl)
theorem RuO.ru {N:List Tx}{ar:Tx->Nat}{r:Dx}(h:RuO N ar r)(hs:F6 (Cx N r)=true):RuI N ar (Cx N r):=by
 have ab:∀m b,AtO N ar m->AtI N ar (Mh N b m):=fun m b hm=>⟨(hm.at b).1,(hm.at b).2.2.1,by simpa[Mh]using hm.le3⟩;have aa:∀m b,AtO N ar m->∀t∈(Mh N b m).terms,VT t/\DT t:=fun m b hm t ht=>⟨Yb ((hm.at b).2.2.2.2 t ht),((hm.at b).2.2.2.2 t ht).1⟩;have ac:∀a∈Ae (Cx N r),VA a:=fun a ha t ht=>by
  obtain⟨m,b,rfl,hm⟩:=h.atoms ha;exact (aa m b hm t ht).1
 refine⟨ab _ _ h.hd,rfl,fun a ha=>?_,aa _ _ h.hd,fun a ha=>?_,fun v hm hv=>?_⟩
 ·obtain⟨l,hl,rfl⟩:=Aib.1 ha;exact ab _ _ (h.bd l hl)
 ·obtain⟨l,hl,rfl⟩:=Aib.1 ha;exact aa _ _ (h.bd l hl)
 ·obtain⟨b,hb,-,ad⟩:=Um (by rw[Sv ac];exact hs) (fun a ha=>by
   obtain⟨m,b,rfl,hm⟩:=h.atoms ha
   exact (hm.at b).2.2.2.2) (a:=(Cx N r).head) (Ar (.inl ⟨rfl,rfl⟩)) hm hv
  exact⟨b,hb,ad⟩
theorem Ado {N:List Tx}{ar:Tx->Nat}{l o:List RItem}(hR:RtL N ar l)(hU:GdI N ar o)(i:Nat)(hb:Cy N l (Co i o l)=true):RtL N ar (Co i o l):=by
 unfold Cy at hb;simp only[Ag3,Aj4]at hb;obtain⟨aa,-,hw⟩:=hb;have h5:=(Qz aa).2;have hm:∀y∈Co i o l,y∈l\/∃r,y=Cx N r/\RuO N ar r/\r.body.length<=5:=fun y hy=>by
  rcases Dt hy with h|h
  ·exact .inl h
  ·exact .inr (hU y h (h5 y hy))
 refine⟨Adp hR hU i aa,h5,fun y hy ho=>?_,fun y hy=>?_,fun y hy=>?_⟩
 ·rcases hm y hy with h|⟨r,rfl,hr,hb⟩
  ·exact hR.ru y h ho
  ·exact hr.ru (S9 hw hy)
 ·rcases hm y hy with h|⟨r,rfl,hr,hb⟩
  ·exact hR.wi y h
  ·exact hr.wi hb
 ·rcases hm y hy with h|⟨r,rfl,hr,hb⟩
  ·exact hR.wit y h
  ·exact hr.wit hb
def Wr (N:List Tx)(U:Nat->Nat->Bool)(l:List RItem)(i k:Nat):Bool:=match l[i]? with
 |some x=>(match x.body[k]? with
  |some a=>!a.nt&&(!U (N.idxOf a.pred) (N.idxOf a.pred)&&(Cf N l (N.idxOf a.pred)&&Cy N l (Co i (uL N l x k a.pred) l)))
  |none=>false)
 |none=>false
def sP (N:List Tx)(U:Nat->Nat->Bool)(l:List RItem)(n:Nat):Prop:=∀i y,i<n->l[i]?=some y->∀k,k<y.body.length->Wr N U l i k=false
def chU (N:List Tx)(l:List RItem)(idn:Nat)(x:AV)(b:Bool):Prop:=∃M,Dq N l M/\
 ((b=false/\sP N (F8 N.length M N.length) l l.length)\/(b=true/\∃i k y a,l[i]?=some y/\y.out=false/\y.body[k]?=some a/\Wr N (F8 N.length M N.length) l i k=true/\sP N (F8 N.length M N.length) l i/\(∀k',k'<k->Wr N (F8 N.length M N.length) l i k'=false)/\∃id c',x=Bn N idn (Co i (uL N l y k a.pred) l) id c'/\EL (PI N) (Co i (uL N l y k a.pred) l) c'))
theorem Aam {N:List Tx}(x:RItem)(c:List AV)(h:PJ N x c):Itm c:=by
 rcases h with⟨h,-⟩|⟨-,-,o,p,ih,n1,tc,ib,b,rfl⟩
 ·exact kG h
 ·exact⟨_,_,_,_,_,_,_,_,rfl⟩
theorem O1 (N:List Tx)(ar:Tx->Nat)(l:List RItem)(cs:List AV)(idn idi:Nat)(hR:RtL N ar l)(hE:EL (PI N) l cs)(z:St):
  ACalls Tryz.prog 127 [Bn N idn l idi cs] z fun r z'=>(∃x b,r=tp [x,sc (.bool b)]/\chU N l idn x b/\kC x)/\Keep z z':=by
 have hG:=hR.gl;have cv:=EL.length Dd hE;have bb:=hG.len;have hN:=hG.nm;have b5:=fun z=>N0 N l cs idn idi ((hG.bkm hE).bk bb) z;have cj:Akc (EL (PJ N) l cs):=Ow hE fun x hx c hc=>.inl ⟨hc,hG.msr x hx⟩;have HB:Akc (BkM N l cs):=hG.bkm hE;have HR:Akc (RtL N ar l):=hR;clear hG hR;refine Z9 71 [.cell 2 62,.tmp 3] Tryz.func127 ?_
 repeat' (first|refine Z1 ?_|(refine Z8 ?_;intro yb ya)|(refine Z4 ?_;clear ya yb)|(refine Z5 ?_;refine Xi (b5 _) ?_;rintro _ _ ⟨idu,B,M0,rfl,bf,ch,cy,br,b9⟩;(have bn:=bf.nobj;have ai:=bf.obj;(try simp only[Aa,Ab]at bn ai ch)))|refine Z3 ?_|exact Zt|(apply ya.out;clear ya yb))
 rename_i z1;have obk:z1.obj z.nobj=[sl idn N.length (N.map str),sl idi l.length cs]:=by rw[ai _ Aj6,Ag Aka,Ao]
 have obr:z1.obj (z.nobj+1)=[nilS,nilS]:=by rw[ai _ Aj6];first|exact Ao|simp[Ao]
 have cd:Akc (Dq N l M0):=b9;generalize b7:F8 N.length M0 N.length=U at br;have HU:Akc _:=b7;have b8:Keep z z1:=(((Keep.refl z).new _).new _).trans bf;clear b9 b7 bf ai b5
 refine Af (fun m s z'=>∃(i:Nat),m=l.length-i/\i<=l.length/\s 1=ptr z.nobj 0/\s 2=ptr (z.nobj+1) 0/\s 4=sl idu N.length (Fc B N.length N.length)/\s 17=sl idi l.length cs/\s 18=sc (.int .i64 l.length)/\s 19=sc (.int .i64 i)/\Keep z z'/\z1.nobj<=z'.nobj/\z'.obj z.nobj=[sl idn N.length (N.map str),sl idi l.length cs]/\z'.obj (z.nobj+1)=[nilS,nilS]/\Akc (Mat B N.length U z')/\Akc (sP N U l i)) l.length
  ⟨0,Aj6,Aj6,Aj8,Aj8,Aj8,Aj8,Aj8,rfl,b8,Aj6,obk,obr,br,fun i y h=>Aj6⟩ ?_
 clear b8 obk obr br;rintro m s z' ⟨i,rfl,hi,h1,h2,h4,cc,cb,ca,hK,cr,bi,bh,hM,hA⟩;have cm:=hK.nobj;by_cases b1:i<l.length
 ·have am:=Agz b1;have a5:=Ain b1;have b3:=HR.out.gl.fits l[i] a5;have bz:=HR.out.gl.msr l[i] a5;obtain⟨b0,ih,idb,b,r,be,hd⟩:=Em hE am;generalize l[i]=x at hd am b0 be a5 b3 bz;have cx:=b3.1;have cw:=EL.length Ds be;have HG:Akc (l[i]?=some x):=am;clear am
  repeat' (first|refine Z1 ?_|(refine Z8 ?_;intro yb ya)|(refine Z4 ?_;clear ya yb)|(refine Z2 ?_ ?_<;>intro h aa<;>try exact Xp)|refine Z3 ?_|exact Zt|(apply ya.out;clear ya yb))
  refine Af (fun m s z2=>∃(k:Nat),m=x.body.length-k/\k<=x.body.length/\s 1=ptr z.nobj 0/\s 2=ptr (z.nobj+1) 0/\s 4=sl idu N.length (Fc B N.length N.length)/\s 5=sc (.int .i64 i)/\s 6=ptr z'.nobj 0/\s 17=sl idi l.length cs/\s 18=sc (.int .i64 l.length)/\s 19=sc (.int .i64 i)/\s 25=sl idb x.body.length b/\s 26=sc (.int .i64 x.body.length)/\s 27=sc (.int .i64 k)/\Keep z z2/\z'.nobj<z2.nobj/\z2.obj z.nobj=[sl idn N.length (N.map str),sl idi l.length cs]/\z2.obj (z.nobj+1)=[nilS,nilS]/\z2.obj z'.nobj=[sc (.bool x.out),sc (.int .i64 (N.idxOf x.head.pred:Nat)),sl ih x.head.terms.length (Au x.head.terms),sl idb x.body.length b]/\Akc (Mat B N.length U z2)/\Akc (∀k',k'<k->Wr N U l i k'=false)) x.body.length
   ⟨0,Aj6,Aj6,Aj7,Aj7,Aj7,Aj7,Aj7,Aj7,Aj7,Aj7,Aj8,Aj8,Aj8,Xs,Akb,by rw[Ah Aj6,Ag Aj6,bi],by rw[Ah Aj6,Ag Aj6,bh],by rw[Aj],Mat.put (Mat.new hM.out Aj6 _) Aj6 _,fun k' h=>Aj6⟩ ?_
  clear h1 h2 h4 cc cb ca hK bi bh hM;rintro m s z2 ⟨k,rfl,hk,h1,h2,h4,h5,h6,cc,cb,ca,c7,c5,cz,hK,cg,bi,bh,ce,hM,bc⟩;have cf:=hK.nobj;by_cases a0:k<x.body.length
  ·have aj:x.out=false:=by
    cases h:x.out with
    |false=>rfl
    |true=>rw[bz.out h]at a0;cases a0
   have ao:=Agz a0;obtain⟨b4,ia,ra,bd⟩:=Ml be ao;generalize x.body[k]=a at ao b4 bd;have ab:Wr N U l i k=(!a.nt&&(!U (N.idxOf a.pred) (N.idxOf a.pred)&&(Cf N l (N.idxOf a.pred)&&Cy N l (Co i (uL N l x k a.pred) l)))):=by unfold Wr;rw[HG.out];dsimp only;rw[ao]
   have an:Akc (Wr N U l i k=false->∀k',k'<k+1->Wr N U l i k'=false):=fun hf k' b2=>by
    rcases Agq k' k with h|h
    ·exact bc.out k' h
    ·rw[show k'=k by omega,hf]
   have hp:=Air b4;have av:=fun z=>L0 N l cs idn idi (N.idxOf a.pred) hE Aj6 z
   have ap:=fun c (hc:PI N x c) z=>(R5 N ar l cs idn idi HR.out hE x c k a a5 aj hc ao z).mono (R':=fun r z'=>(∃id c',r=sl id (uL N l x k a.pred).length c'/\EL (PJ N) (uL N l x k a.pred) c')/\Keep z z') (fun r z' h=>by
    obtain⟨⟨id,c',rfl,h1⟩,h2⟩:=h
    exact⟨⟨id,c',by simp[uL],Afn HR.out a5 aj ao h1⟩,h2⟩)
   have au:(uL N l x k a.pred).length<=16:=Ago (Ad9 _ _ _ _ _) bb;have b6:(uL N l x k a.pred).length<=1000:=Aj6;have a3:=fun co ido (h:EL (PJ N) (uL N l x k a.pred) co) z=>Ly (E:=PJ N) Aam N l (uL N l x k a.pred) cs co idn idi ido i cj.out h Aj6 b6 z;have af:=fun c' id' (h:EL (PJ N) (Co i (uL N l x k a.pred) l) c') z=>Hu N l (Co i (uL N l x k a.pred) l) cs c' idn idi id' HB.out (Adq HR.out (Adk HR.out a5 aj ao) au i h) z;have ah:Akc (∀c',Cy N l (Co i (uL N l x k a.pred) l)=true->EL (PJ N) (Co i (uL N l x k a.pred) l) c'->EL (PI N) (Co i (uL N l x k a.pred) l) c'):=fun c' hb h=>by
    unfold Cy at hb;simp only[Ag3]at hb;exact Ow h fun y hy c hc=>(hc.pi ((Qz hb.1).2 y hy)).1
   have HC:Akc (∀id c' x',Wr N U l i k=true->x'=Bn N idn (Co i (uL N l x k a.pred) l) id c'->EL (PI N) (Co i (uL N l x k a.pred) l) c'->chU N l idn x' true):=fun id c' x' ho bo bp=>⟨M0,cd.out,by
    rw[HU.out]
    exact .inr ⟨rfl,i,k,x,a,HG.out,aj,ao,ho,hA.out,bc.out,id,c',bo,bp⟩⟩
   have bq:=PI.of (ih:=ih) (id:=idb) b0 be;rw[aj]at ce bq;have ci:Akc _:=bq;clear bq ao bc;cases hnt:a.nt with
   |true=>
    have a4:Akc (∀k',k'<k+1->Wr N U l i k'=false):=an.out (by rw[ab,hnt];rfl);rw[hnt]at bd;clear ab an av ap a3 af ah HC
    repeat' (first|refine Z1 ?_|(refine Z8 ?_;intro yb ya)|(refine Z4 ?_;clear ya yb)|(refine Z2 ?_ ?_<;>intro h aa<;>try exact Xp)|refine Z3 ?_|exact Zt|(apply ya.out;clear ya yb))
    refine⟨x.body.length-(k+1),Aj6,k+1,?_⟩
    ((repeat' refine Zi ?_ ?_)<;>first|exact Xq|exact a4|exact (by rw[aj];assumption)|exact (Mat.put (Mat.new hM.out Aj6 _) Aj6 _)|exact Xs)
   |false=>
    rw[hnt]at bd ab;generalize N.idxOf a.pred=p at bd hp ab av;have cq:=Ij (B:=B) (n:=N.length) (k:=N.length) hp;have cp:=Ii B N.length N.length;have ct:=hM.out _ hp;have cn:=Eg N.length (U p);have bw:=Gp (U p) hp;have ak:∀cs',(z2.new cs').obj (B+p)=z2.obj (B+p):=fun cs'=>Ag Aj6;cases hu:U p p with
    |true=>
     have a4:Akc (∀k',k'<k+1->Wr N U l i k'=false):=an.out (by rw[ab,hu];rfl);rw[hu]at bw;clear ab an av ap a3 af ah HC ak hu
     repeat' (first|refine Z1 ?_|(refine Z8 ?_;intro yb ya)|(refine Z4 ?_;clear ya yb)|(refine Z2 ?_ ?_<;>intro h aa<;>try exact Xp)|refine Z3 ?_|exact Zt|(apply ya.out;clear ya yb))
     refine⟨x.body.length-(k+1),Aj6,k+1,?_⟩
     ((repeat' refine Zi ?_ ?_)<;>first|exact Xq|exact a4|exact (by rw[aj];assumption)|exact (Mat.put (Mat.new hM.out Aj6 _) Aj6 _)|exact Xs)
    |false=>
     rw[hu]at bw ab;cases a6:Cf N l p with
     |false=>
      have a4:Akc (∀k',k'<k+1->Wr N U l i k'=false):=an.out (by rw[ab,a6];rfl);rw[a6]at av;clear ab an ap a3 af ah HC ak hu a6
      repeat' (first|refine Z1 ?_|(refine Z8 ?_;intro yb ya)|(refine Z4 ?_;clear ya yb)|(refine Z2 ?_ ?_<;>intro h aa<;>try exact Xp)|(refine Z5 ?_;refine Xi (av _) ?_;rintro _ _ ⟨rfl,ae⟩;(have ad:=ae.nobj;have ac:=ae.obj;(try simp only[Ab,Aa]at ad ac)))|refine Z3 ?_|exact Zt|(apply ya.out;clear ya yb))
      refine⟨x.body.length-(k+1),Aj6,k+1,?_⟩
      ((repeat' refine Zi ?_ ?_)<;>first|exact Xq|exact a4|exact (by rw[aj];assumption)|exact (Mat.keep (Mat.put (Mat.new hM.out Aj6 _) Aj6 _) ae Akb)|exact Xs)
     |true=>
      rw[a6]at av ab;simp only[Bool.not_false,Aie]at ab;rw[<-ab]at af ah;clear au;generalize uL N l x k a.pred=V at ap a3 af ah HC b6;generalize Co i V l=W at a3 af ah HC;have ap:=fun z=>ap _ ci.out z;cases a7:Wr N U l i k with
      |true=>
       rw[a7]at af ah;have ck:Akc (∀id c' x',x'=Bn N idn W id c'->EL (PJ N) W c'->chU N l idn x' true):=fun id c' x' bo bp=>HC.out id c' x' a7 bo (ah.out c' rfl bp);clear ab an ah HC ak hu a6 a7 hA
       repeat' (first|refine Z1 ?_|(refine Z8 ?_;intro yb ya)|(refine Z4 ?_;clear ya yb)|(refine Z2 ?_ ?_<;>intro h aa<;>try exact Xp)|(refine Z5 ?_;first|(refine Xi (av _) ?_;rintro _ _ ⟨rfl,ae⟩;(have ad:=ae.nobj;have ac:=ae.obj;(try simp only[Ab,Aa]at ad ac)))|(refine Xi (ap _) ?_;rintro _ _ ⟨⟨id4,c4,rfl,bu⟩,ba⟩;(have az:=ba.nobj;have ax:=ba.obj;(try simp only[Ab,Aa]at az ax)))|(refine Xi (a3 _ _ bu _) ?_;rintro _ _ ⟨⟨id6,c6,rfl,bg⟩,a9⟩;(have ay:=a9.nobj;have aw:=a9.obj;(try simp only[Ab,Aa,Aw]at ay aw)))|(refine Xi (af c6 id6 bg _) ?_;rintro _ _ ⟨⟨x7,rfl,bv,⟨id71,n71,c71,id72,n72,c72,rfl⟩⟩,a8⟩;(have bm:=a8.nobj;have bl:=a8.obj)))|refine Z3 ?_|exact Zt|(apply ya.out;clear ya yb))
       exact⟨_,rfl,⟨_,true,rfl,ck.out _ _ _ (bv rfl) bg,_,_,_,_,_,_,rfl⟩,Xs⟩
      |false=>
       rw[a7]at af;have a4:Akc (∀k',k'<k+1->Wr N U l i k'=false):=an.out a7;clear ab an ah HC ak hu a6 a7
       repeat' (first|refine Z1 ?_|(refine Z8 ?_;intro yb ya)|(refine Z4 ?_;clear ya yb)|(refine Z2 ?_ ?_<;>intro h aa<;>try exact Xp)|(refine Z5 ?_;first|(refine Xi (av _) ?_;rintro _ _ ⟨rfl,ae⟩;(have ad:=ae.nobj;have ac:=ae.obj;(try simp only[Ab,Aa]at ad ac)))|(refine Xi (ap _) ?_;rintro _ _ ⟨⟨id4,c4,rfl,bu⟩,ba⟩;(have az:=ba.nobj;have ax:=ba.obj;(try simp only[Ab,Aa]at az ax)))|(refine Xi (a3 _ _ bu _) ?_;rintro _ _ ⟨⟨id6,c6,rfl,bg⟩,a9⟩;(have ay:=a9.nobj;have aw:=a9.obj;(try simp only[Ab,Aa,Aw]at ay aw)))|(refine Xi (af c6 id6 bg _) ?_;rintro _ _ ⟨⟨x7,rfl,bv,⟨id71,n71,c71,id72,n72,c72,rfl⟩⟩,a8⟩;(have bm:=a8.nobj;have bl:=a8.obj)))|refine Z3 ?_|exact Zt|(apply ya.out;clear ya yb))
       refine⟨x.body.length-(k+1),Aj6,k+1,?_⟩
       ((repeat' refine Zi ?_ ?_)<;>first|exact Xq|exact a4|exact (by rw[aj];assumption)|exact (Mat.put (Mat.new (Mat.keep (Mat.put (Mat.new hM.out Aj6 _) Aj6 _) (((ae.trans ba).trans a9).trans a8) Akb) Aj6 _) Aj6 _)|exact Xs)
  ·have cu:k=x.body.length:=Aj6;have HA:Akc (sP N U l (i+1)):=fun j y hj hy k' b2=>by
    rcases Agq j i with h|h
    ·exact hA.out j y h hy k' b2
    ·have:j=i:=Aj6;subst this;rw[HG.out]at hy;cases hy;exact bc.out k' Aj6
   clear bc HG hA
   repeat' (first|refine Z1 ?_|(refine Z8 ?_;intro yb ya)|(refine Z4 ?_;clear ya yb)|(refine Z2 ?_ ?_<;>intro h aa<;>try exact Xp)|refine Z3 ?_|exact Zt|(apply ya.out;clear ya yb))
   refine⟨l.length-(i+1),Aj6,i+1,?_⟩
   ((repeat' refine Zi ?_ ?_)<;>first|exact Xq|exact HA|exact Xs)
 ·have hil:i=l.length:=Aj6;subst hil;have HC:Akc (∀x,chU N l idn x false):=fun x=>⟨M0,cd.out,by rw[HU.out];exact .inl ⟨rfl,hA.out⟩⟩;clear hA
  repeat' (first|refine Z1 ?_|(refine Z8 ?_;intro yb ya)|(refine Z4 ?_;clear ya yb)|(refine Z2 ?_ ?_<;>intro h aa<;>try exact Xp)|refine Z3 ?_|exact Zt|(apply ya.out;clear ya yb))
  exact⟨_,rfl,⟨_,false,rfl,HC.out _,_,_,_,_,_,_,rfl⟩,Xs⟩
end Go.Proofs.YtmoeoppbmhfbpabGreatDoorL
