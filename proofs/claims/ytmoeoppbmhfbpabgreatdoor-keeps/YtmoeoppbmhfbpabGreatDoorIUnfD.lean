import Derived.Test.YtmoeoppbmhfbpabGreatDoorIPckA
import Derived.Test.YtmoeoppbmhfbpabGreatDoorIImpD
import Derived.Test.YtmoeoppbmhfbpabGreatDoorIFolA
import Derived.Test.YtmoeoppbmhfbpabGreatDoorIStrH
import Derived.Test.YtmoeoppbmhfbpabGreatDoorIOptC
set_option maxHeartbeats 64000000
set_option maxRecDepth 100000
set_option linter.all false
open List renaming length->Z
namespace Go.Proofs.YtmoeoppbmhfbpabGreatDoorI
open Go.Abs
def lM (l:List Int)(a:Dv):Dv:=⟨a.p,a.ts.map (Gl l)⟩
def JX (l:List Int)(x:Lit):Lit:=⟨x.neg,lM l x.a⟩
def Fg (r:Eu):Eu:=⟨lM (Fi r) r.h,r.A.map (JX (Fi r))⟩
theorem aN {r}(hr:MI r):Z (Fi r)<=1000:=by
 have h1:=Fz (l:=Ho r) fun a ha=>by
  rcases BB.1 ha with rfl|ha
  ·exact hr.h3
  ·obtain⟨l,hl,rfl⟩:=AO.1 ha;exact hr.b3 l hl
 have h2:=hr.bl;have h3:Z (Ho r)=Z r.A+1:=by simp[Ho]
 unfold Fi;omega
theorem yK (r c)(hc:Tq false r c)(hr:MI r)(z):
  AF Tryz.prog 93 [ag c] z fun x z'=>(∃c',x=ag c'/\Tq false (Fg r) c')/\AE z z':=by
 have ay:=fun z=>Mb r c hc hr z;have a7:=aN hr;have bh:=hr.bl;obtain⟨ih,id,b,rfl,hb⟩:=hc;have bg:=EL.length Hj hb;unfold Fg;generalize Fi r=lo at ay a7;have az:=fun ido z=>Oq lo ido r.h.p ih r.h.ts AA (by have:=hr.h3;omega) z;have a0:=fun ido (a:Lit) ia (ha:a∈r.A) z=>Oq lo ido a.a.p ia a.a.ts AA (by have:=hr.b3 a ha;omega) z;refine Z9 39 [.cell 2 125] Tryz.func93 ?_
 refine qb ?_;intro yd yb;refine Xi (ay _) ?_;rintro _ _ ⟨⟨ido,rfl⟩,av⟩;(have ad:=av.C;have af:=av.B;simp only[Aa]at af);refine pz ?_
 rename_i z1;have aj:z1.C z.B=[sc (.bool false),ic r.h.p,sl ih (Z r.h.ts) (Ad r.h.ts),sl id (Z r.A) b]:=by
  rw[ad _ AK,Ah AK,Ao]
 have ai:z1.C (z.B+1)=[sc (.bool false),ic 0,nilS,nilS]:=by
  rw[ad _ AK,Bg (by rw[Aa];omega) (by rw[Aa];omega)]
 have am:AE z z1:=Xs;clear ad av;refine Az (Q:=fun e s z'=>e= .normal/\∃o i2:Nat,s 1=ptr z.B 0/\s 2=ptr (z.B+1) 0/\s 3=sl ido (Z lo) (As lo)/\s 4=ptr o 0/\z.B+1<o/\o<z'.B/\z'.C z.B=[sc (.bool false),ic r.h.p,sl ih (Z r.h.ts) (Ad r.h.ts),sl id (Z r.A) b]/\z'.C (z.B+1)=[sc (.bool false),ic 0,nilS,nilS]/\z'.C o=[sc (.bool false),ic r.h.p,sl i2 (Z r.h.ts) (Ad (r.h.ts.map (Gl lo))),nilS]/\AE z z') ?_ ?_
 ·refine Aq Ag (fun _=>True) [8] [0,1,2,3,4] 4 #[true,true,true,true,true,false,false,false,false] AH (fun _ _ _ h=>by cases h.1) ?_;intro yd yb;refine Z3 ?_;refine yb.o _ ?_;clear yb yd;have hR2:=fun z=>az ido z;refine Eo (rs:=[5,7]) AH (by simp) ?_;intro i hi;simp only[BB,EN,DY]at hi;rcases hi with rfl|rfl
  ·refine Am ?_;intro yd yb;refine Z3 ?_;refine AF.mono (hR2 _) ?_;rintro _ z2 ⟨⟨i2,rfl⟩,ab⟩;have aa:=ab.C;have ae:=ab.B;refine Z3 ?_;refine yb.o _ _ ⟨Al ab,?_⟩;clear yb yd;refine Eo (rs:=[6,7]) AH (by simp) ?_;intro i hi;simp only[BB,EN,DY]at hi;rcases hi with rfl|rfl
   ·refine Am ?_;intro yd yb;refine Z3 ?_;refine yb.o _ _ ⟨Al ab,?_⟩;clear yb yd;refine Ai (i:=7) AH ?_;refine Am ?_;intro yd yb;refine Z3 ?_;refine yb.o _ _ ⟨Al (ab.new _),?_⟩;clear yb yd;refine Ai (i:=8) AH ?_;refine Am ?_;intro yd yb;refine Z3 ?_;refine yb.o _ _ ⟨A5 rfl,?_⟩;clear yb yd;refine Ax AH ⟨rfl,z2.B,i2,AG,AG,AG,AG,AA,BM,?_,?_,Ak,?_⟩
    ·rw[Aj AA,Ah AA,aa _ AA,aj]
    ·rw[Aj AA,Ah AA,aa _ AA,ai]
    ·exact ((am.trans ab).new _).put AA _
   ·refine Am ?_;intro yd yb;refine Z3 ?_;refine yb.o _ _ ⟨Al (ab.new _),?_⟩;clear yb yd;refine Ai (i:=6) AH ?_;refine Am ?_;intro yd yb;refine Z3 ?_;refine yb.o _ _ ⟨Al (ab.new _),?_⟩;clear yb yd;refine Ai (i:=8) AH ?_;refine Am ?_;intro yd yb;refine Z3 ?_;refine yb.o _ _ ⟨A5 rfl,?_⟩;clear yb yd;refine Ax AH ⟨rfl,z2.B,i2,AG,AG,AG,AG,AA,BM,?_,?_,Ak,?_⟩
    ·rw[Aj AA,Ah AA,aa _ AA,aj]
    ·rw[Aj AA,Ah AA,aa _ AA,ai]
    ·exact ((am.trans ab).new _).put AA _
  ·refine Am ?_;intro yd yb;refine Z3 ?_;refine yb.o _ _ ⟨Al ((AE.refl _).new _),?_⟩;clear yb yd;refine Ai (i:=5) AH ?_;refine Am ?_;intro yd yb;refine Z3 ?_;refine AF.mono (hR2 _) ?_;rintro _ z2 ⟨⟨i2,rfl⟩,ab⟩;have aa:=ab.C;have ae:=ab.B;simp only[Aa]at ae;refine Z3 ?_;refine yb.o _ _ ⟨Al (((AE.refl _).new _).trans ab),?_⟩;clear yb yd;refine Ai (i:=6) AH ?_;refine Am ?_;intro yd yb;refine Z3 ?_;refine yb.o _ _ ⟨Al (((AE.refl _).new _).trans ab),?_⟩;clear yb yd;refine Ai (i:=8) AH ?_;refine Am ?_;intro yd yb;refine Z3 ?_;refine yb.o _ _ ⟨A5 rfl,?_⟩;clear yb yd;refine Ax AH ⟨rfl,z1.B,i2,AG,AG,AG,AG,AA,BM,?_,?_,Ak,?_⟩
   ·rw[Aj AA,aa _ (by rw[Aa];omega),Ah AA,aj]
   ·rw[Aj AA,aa _ (by rw[Aa];omega),Ah AA,ai]
   ·exact ((am.new _).trans ab).put AA _
 ·rintro e s z2 ⟨rfl,o,i2,h1,h2,h3,h4,bf,ap,a4,an,ob,hK⟩;have aw:=hK.B;clear am aj ai af az
  refine zz ?_
  refine Ae (fun m s z'=>∃(k i3:Nat) (xs:List AV),m=Z r.A-k/\k<=Z r.A/\s 2=ptr (z.B+1) 0/\s 3=sl ido (Z lo) (As lo)/\s 4=ptr o 0/\s 18=sl id (Z r.A) b/\s 19=ic (Z r.A)/\s 20=ic k/\AE z z'/\o<z'.B/\z'.C (z.B+1)=[sc (.bool false),ic 0,nilS,nilS]/\z'.C o=[sc (.bool false),ic r.h.p,sl i2 (Z r.h.ts) (Ad (r.h.ts.map (Gl lo))),sl i3 k xs]/\Own z z' i3 k/\Z xs=k*3/\AD (EL Sb ((r.A.take k).map (JX lo)) xs)) (Z r.A)
   ⟨0,1,[],AA,AA,by simp[upd,h2],by simp[upd,h3],by simp[upd,h4],AG,AG,rfl,hK,ap,an,ob,Own.nil _ _,by simp,rfl⟩ ?_
  clear h1 h2 h3 h4 a4 an ob hK ap aw;rintro m s z' ⟨k,i3,xs,rfl,hk,h2,h3,h4,bn,bm,bi,hK,ap,an,ob,hO,a6,hX⟩;have aw:=hK.B;by_cases ax:k<Z r.A
  ·have ac:=AJ ax;obtain⟨ia,rr,hd⟩:=H8 hb ac;have hR:=fun z=>a0 ido r.A[k] ia (AT ax) z;generalize r.A[k]=a at hd ac hR;have HX:AD (∀i4,EL Sb ((r.A.take (k+1)).map (JX lo)) (xs++[sc (.bool a.neg),ic a.a.p,sl i4 (Z a.a.ts) (Ad (a.a.ts.map (Gl lo)))])):=fun i4=>by
    rw[AU,ac,BJ,FO];exact EL.append hX.o (EL.single ⟨i4,by simp[JX,lM]⟩)
   clear ac hX a0
   refine qb ?_;intro yd yb;refine Xi (hR _) ?_;rintro _ _ ⟨⟨i4,rfl⟩,ak⟩;(have a5:=ak.C;have ao:=ak.B;simp only[Aa,Ab]at ao);refine qm ?_;intro yd yb
   rename_i z4;have bb:=((hK.new [sc (.bool false),ic 0,nilS]).put hK.B _).trans ak;have a9:=Own.keep (Own.put (Own.new hO [sc (.bool false),ic 0,nilS]) z'.B [sc (.bool a.neg),ic a.a.p,sl ia (Z a.a.ts) (Ad a.a.ts)]) ak;refine Bn (by first|exact Fe) ((bb.new _).put AA _) (Own.put (Own.new a9 _) _ _) (by decide) (by rfl) a6 (by rfl) (by rfl) (by decide) AA AA ?_;intro idn zn ba bc be ah bd a3;simp only[Ab,Aa]at ah;refine Z3 ?_
   refine zz ?_
   refine⟨Z r.A-(k+1),AA,k+1,idn,xs++[sc (.bool a.neg),ic a.a.p,sl i4 (Z a.a.ts) (Ad (a.a.ts.map (Gl lo)))],?_⟩
   ((repeat' refine Zi ?_ ?_)<;>first|exact Xq|exact (bc.put AA _)|exact (Own.put ba _ _)|exact (HX.o i4)|exact Xs)
  ·have a8:k=Z r.A:=AA;subst a8;rw[AS]at hX
   refine pz ?_
   exact⟨_,rfl,⟨_,rfl,i2,i3,xs,by simp[lM],hX.o⟩,hK.put AA _⟩
theorem rU (r o c)(n:Nat)(L i2 b2)(hc:Tq o r c)(bi:Z r.A<=100)(hL:EL Sb L b2)(hl:Z L<=100)(z):
  AF Tryz.prog 211 [ag c,ic n,sl i2 (Z L) b2] z fun x z'=>(∃c',x=ag c'/\Tq false ⟨r.h,C7 n L r.A⟩ c')/\AE z z':=by
 obtain⟨ih,id,b,rfl,hb⟩:=hc;have bg:=EL.length Hj hb;have bh:=EL.length Hj hL;refine Z9 47 [.cell 6 125] Tryz.func211 ?_
 refine zz ?_
 refine Ae (fun m s z'=>∃(k i3:Nat) (R:List Lit) (xs:List AV),m=Z r.A-k/\k<=Z r.A/\s 1=ic n/\s 2=sl i2 (Z L) b2/\s 6=ptr (z.B+1) 0/\s 7=ptr (z.B+2) 0/\s 16=sl id (Z r.A) b/\s 17=ic (Z r.A)/\s 18=ic k/\AE z z'/\z.B+2<z'.B/\z'.C (z.B+1)=[sc (.bool false),ic 0,nilS,nilS]/\z'.C (z.B+2)=[sc (.bool false),ic r.h.p,sl ih (Z r.h.ts) (Ad r.h.ts),sl i3 (Z R) xs]/\Own z z' i3 (Z R)/\Z xs=Z R*3/\Z R<=k*(Z L+1)/\AD (R=C7 n L (r.A.take k)/\EL Sb R xs)) (Z r.A)
  ⟨0,1,[],[],AA,AA,by simp[upd,AM],by simp[upd,AM],AG,AG,AG,AG,rfl,?_,?_,?_,?_,Own.nil _ _,by simp,by simp,⟨by simp[C7],rfl⟩⟩ ?_
 ·exact ((((AE.refl z).new _).new _).new _).put AA _
 ·simp only[Ab,Aa];omega
 ·rw[Aj AA,Ah AK,Bg (by rw[Aa];omega) (by rw[Aa];omega)]
 ·rw[show z.B+2=z.B+1+1 by omega,Ak];rfl
 rintro m s z' ⟨k,i3,R,xs,rfl,hk,h1,h2,h6,h7,a4,a3,a0,hK,az,an,aj,hO,ak,be,hA⟩;have ay:=hK.B;by_cases ba:k<Z r.A
 ·have aa:=AJ ba;obtain⟨ia,rr,hd⟩:=H8 hb aa;generalize r.A[k]=a at hd aa;have bl:Z R<=10100:=BO be (BO (MJ (by omega:k<=100) (by omega:Z L+1<=101)) (by decide));have ae:=Q6 (n:=n) (o:=L) r.A (k+1);have ac:=Ww (n:=n) (o:=L) aa;rw[<-hA.o.1]at ac;by_cases af:k=n
  ·rw[if_pos af]at ac;have a9:((k:Int) !=(n:Int))=false:=by simp[af]
   have a5:AD _:=ac;have a6:AD (EL Sb R xs):=hA.o.2;rw[ac,AX]at ae;clear ac aa hA af
   refine pz ?_
   refine Ae (fun m s z2=>∃(j i3:Nat) (ys:List AV),m=Z L-j/\j<=Z L/\s 1=ic n/\s 2=sl i2 (Z L) b2/\s 6=ptr (z.B+1) 0/\s 7=ptr (z.B+2) 0/\s 16=sl id (Z r.A) b/\s 17=ic (Z r.A)/\s 18=ic k/\s 32=sl i2 (Z L) b2/\s 33=ic (Z L)/\s 34=ic j/\AE z z2/\z.B+2<z2.B/\z2.C (z.B+1)=[sc (.bool false),ic 0,nilS,nilS]/\z2.C (z.B+2)=[sc (.bool false),ic r.h.p,sl ih (Z r.h.ts) (Ad r.h.ts),sl i3 (Z R+j) ys]/\Own z z2 i3 (Z R+j)/\Z ys=(Z R+j)*3/\AD (EL Sb (R++L.take j) ys)) (Z L)
    ⟨0,i3,xs,AA,AA,AI,AI,AI,AI,AI,AI,AI,AI,AI,AG,Xs,BM,by rw[Aj AA,Ah AA,an],by rw[Aj AA,Ah AA,aj];rfl,(by simpa using Own.put (Own.new hO _) _ _),by simpa using ak,by simpa using a6⟩ ?_
   clear h1 h2 h6 h7 a4 a3 a0 hK hO ay ak a6 an aj az;rintro m s z2 ⟨j,i3,ys,rfl,hj,h1,h2,h6,h7,a4,a3,a0,bp,bo,bn,hK,az,an,aj,hO,ao,ah⟩;have ay:=hK.B;by_cases ap:j<Z L
   ·have am:=AJ ap;obtain⟨ja,rj,bd⟩:=H8 hL am;generalize L[j]=y at bd am;have bf:AD (EL Sb (R++L.take (j+1)) (ys++[sc (.bool y.neg),ic y.a.p,sl ja (Z y.a.ts) (Ad y.a.ts)])):=by
     rw[AD,AU,am,BJ,<-CX];exact EL.append ah.o (EL.single ⟨ja,rfl⟩)
    clear am ah
    refine qm ?_;intro yd yb
    refine Bn (by first|exact Fe) ((hK.new _).put hK.B _) (Own.put (Own.new hO _) _ _) (by decide) (by rfl) (ao) (by rfl) (by rfl) (by decide) AA AA ?_;intro idn zn au av ax ab aw ai;simp only[Ab,Aa]at ab;refine Z3 ?_
    refine zz ?_
    refine⟨Z L-(j+1),AA,j+1,idn,ys++[sc (.bool y.neg),ic y.a.p,sl ja (Z y.a.ts) (Ad y.a.ts)],?_⟩
    ((repeat' refine Zi ?_ ?_)<;>first|exact Xq|exact bf|exact (av.put AA _)|exact (Own.put au _ _)|exact ((by simp[ao];omega))|exact Xs)
   ·have bc:j=Z L:=AA;subst bc;rw[AS]at ah;have HA:AD (R++L=C7 n L (r.A.take (k+1))/\EL Sb (R++L) ys):=⟨a5.o.symm,ah.o⟩;clear ah a5;have a7:Z ys=Z (R++L)*3:=by rw[ao,AX]
    have bm:Own z z2 i3 (Z (R++L)):=by rw[AX];exact hO
    rw[<-AX]at aj;have a8:Z (R++L)<=(k+1)*(Z L+1):=by rw[AX];exact ae
    refine pz ?_
    refine⟨Z r.A-(k+1),AA,k+1,i3,R++L,ys,?_⟩
    exact qh HA
  ·rw[if_neg af]at ac;have a9:((k:Int) !=(n:Int))=true:=by simpa using (by omega:¬(k:Int)=n)
   have HA:AD (R++[a]=C7 n L (r.A.take (k+1))/\EL Sb (R++[a]) (xs++[sc (.bool a.neg),ic a.a.p,sl ia (Z a.a.ts) (Ad a.a.ts)])):=⟨ac.symm,EL.append hA.o.2 (EL.single ⟨ia,rfl⟩)⟩;rw[ac]at ae;clear ac aa hA af
   refine qm ?_;intro yd yb
   refine Bn (by first|exact Fe) ((hK.new _).put hK.B _) (Own.put (Own.new hO _) _ _) (by decide) (by rfl) (ak) (by rfl) (by rfl) (by decide) AA AA ?_;intro idn zn au av ax ab aw ai;simp only[Ab,Aa]at ab;refine Z3 ?_
   refine zz ?_
   refine⟨Z r.A-(k+1),AA,k+1,idn,R++[a],xs++[sc (.bool a.neg),ic a.a.p,sl ia (Z a.a.ts) (Ad a.a.ts)],?_⟩
   ((repeat' refine Zi ?_ ?_)<;>first|exact Xq|exact HA|exact (av.put AA _)|exact ((by simpa using Own.put au _ _))|exact ((by simp[ak];omega))|exact ((by simpa using Ak))|exact Xs)
 ·have bb:k=Z r.A:=AA;subst bb;obtain⟨e1,e2⟩:=hA.o;rw[AS]at e1;have HE:AD (∀c,c=[sc (.bool false),ic r.h.p,sl ih (Z r.h.ts) (Ad r.h.ts),sl i3 (Z R) xs]->Tq false ⟨r.h,C7 n L r.A⟩ c):=fun c hc=>by
   rw[<-e1];exact⟨ih,i3,xs,hc,e2⟩
  clear hA e1 e2
  refine pz ?_
  exact⟨_,rfl,⟨_,rfl,HE.o _ rfl⟩,hK.put AA _⟩
def OT (t:Tm):Prop:=∃w,UT w/\Ap w=t
theorem OT.dec {t}(h:OT t):UT (Hl t)/\Ap (Hl t)=t:=by
 obtain⟨w,hu,rfl⟩:=h;rw[hu.dec.1];exact⟨hu,rfl⟩
theorem pV {k:Nat}(hk:k<26):UT [Iq k]/\Ap [Iq k]=(true,(k:Int)):=by
 have h1:=Fb (k:=(k:Int)) AA AA;have hv:Ac [Iq k]=true:=h1;refine⟨⟨.inl hv,⟨by simp,fun b hb=>?_⟩,by simp,fun _=>⟨k,hk,rfl⟩⟩,?_⟩
 ·simp at hb;subst hb;exact .inl h1
 ·rw[E3 h1,F4 AA AA];congr 1;omega
theorem SU {k:Nat}(hk:k<26):OT (true,(k:Int)):=⟨_,(pV hk).1,(pV hk).2⟩
def JH (t:Tm):Prop:=Zd t/\(t.1=false->OT t)
theorem OT.w {t}(h:OT t):JH t:=by
 refine⟨fun hv=>?_,fun _=>h⟩;obtain⟨w,hu,rfl⟩:=h;rw[Bs]at hv;obtain⟨k,hk,-,e⟩:=hu.enc hv;exact⟨k,AA,by rw[e]⟩
structure IP (P:List Tm):Prop where
 len:Z P=52
 w:∀t∈P,JH t
theorem IP.of {P}(h:IP P){t}(ht:JH t):JH (Et P t):=by
 unfold Et;split
 ·rename_i hv;cases e:P[t.2.toNat]? with
  |none=>exact ht
  |some u=>exact h.w u (BD e)
 ·exact ht
theorem IP.wi {P}(h:IP P){v t}(ht:JH t):IP (Ui P v t):=
 ⟨by rw[Ll];exact h.len,fun u hu=>by
  obtain⟨x,hx,rfl⟩:=AO.1 hu;split
  ·exact ht
  ·exact h.w x hx⟩
theorem JV:OT (false,0):=⟨[48],⟨.inr ⟨rfl,(by show Lib.itoa 0=[48];simp[Lib.itoa,Lib.decDigits]),by decide,by decide⟩,⟨by simp,by decide⟩,by simp,fun h=>by cases h⟩,rfl⟩
theorem TZ:IP BW:=⟨oR,fun t ht=>by
 obtain⟨i,hi,rfl⟩:=AO.1 ht;split
 ·exact⟨fun _=>⟨26+i,AA,by simp⟩,fun h=>by cases h⟩
 ·exact JV.w⟩
theorem rA:IP CI:=⟨Q9,fun t ht=>by
 obtain⟨i,hi,rfl⟩:=AO.1 ht
 exact⟨fun _=>⟨i,by simpa using hi,rfl⟩,fun h=>by cases h⟩⟩
theorem fY:∀{ts us P P':List Tm},IP P->(∀t∈ts,JH t)->(∀t∈us,JH t)->Dy P ts us=some P'->IP P'
 |[],_,P,P',h,_,_,e=>by cases e;exact h
 |_::_,[],_,_,_,_,_,e=>by cases e
 |t::ts,u::us,P,P',h,h1,h2,e=>by
  unfold Dy at e;obtain⟨Q,hQ,e⟩:=Option.bind_eq_some_iff.1 e;refine fY ?_ (fun x hx=>h1 x (by simp[hx])) (fun x hx=>h2 x (by simp[hx])) e;unfold Rh at hQ;have ht:=h.of (h1 t (by simp));have hu:=h.of (h2 u (by simp));split at hQ
  ·cases hQ;exact h
  ·split at hQ
   ·cases hQ;exact h.wi ht
   ·split at hQ
    ·cases hQ;exact h.wi hu
    ·cases hQ
def LI (q:Tx):Prop:=Lc q/\Z q<=1000
structure JR (N:List Tx)(ar:Tx->Nat)(a:Dv):Prop where
 nm:∃q∈N,a.p=(N.idxOf q:Nat)/\LI q/\Z a.ts=ar q
 pos:0<Z a.ts
 le3:Z a.ts<=3
 w:∀t∈a.ts,JH t
structure GR (N:List Tx)(ar:Tx->Nat)(r:Eu):Prop where
 hd:JR N ar r.h
 bd:∀l∈r.A,JR N ar l.a
 bl:Z r.A<=100
theorem GR.r52 {N ar r}(h:GR N ar r):MI r:=⟨h.hd.le3,fun l hl=>(h.bd l hl).le3,h.bl,fun t ht=>(h.hd.w t ht).1,fun l hl t ht=>((h.bd l hl).w t ht).1⟩
theorem JR.pin {N ar a}(h:JR N ar a){P}(hP:IP P):JR N ar (P0 P a):=by
 obtain⟨q,h1,h2,h3,h4⟩:=h.nm
 exact⟨⟨q,h1,h2,h3,by simp[P0,h4]⟩,by simpa[P0]using h.pos,by simpa[P0]using h.le3,fun t ht=>by
  obtain⟨u,hu,rfl⟩:=AO.1 ht
  exact hP.of (h.w u hu)⟩
theorem GR.pin {N ar r}(h:GR N ar r){P}(hP:IP P):GR N ar (Fs P r):=
 ⟨h.hd.pin hP,fun l hl=>by
  obtain⟨k,hk,rfl⟩:=AO.1 hl
  exact (h.bd k hk).pin hP,by simpa[Fs]using h.bl⟩
theorem GR.join {N ar r s}(h:GR N ar r)(g:GR N ar s)(n)(h5:Z r.A<=5)(g5:Z s.A<=5):GR N ar ⟨r.h,C7 n s.A r.A⟩:=
 ⟨h.hd,fun l hl=>by
  rcases Ee hl with hl|hl
  ·exact h.bd l hl
  ·exact g.bd l hl,by
  have h1:=Q6 (n:=n) (o:=s.A) r.A (Z r.A);rw[AS]at h1;have h2:Z r.A*(Z s.A+1)<=5*6:=MJ h5 AA;show Z (C7 n s.A r.A)<=100
  omega⟩
theorem tH {N ar x}(hr:KY N ar x)(hm:KT N x)(ho:x.o=false)(hw:De x):GR N ar (Cd N x):=by
 obtain⟨w1,w2,w3,w4⟩:=hw.2.2 ho;have key:∀a∈Af x,MK N ar a->D3 a->JR N ar (C9 N a):=fun a ha hA hW=>
  ⟨⟨a.B,hA.mem,rfl,⟨hW.1,(hm.at_ a ha).2.1⟩,by simp[C9,hA.len]⟩,by simpa[C9,JQ]using hW.2.1,by simpa[C9]using hA.le3,fun t ht=>by
   obtain⟨w,hw,rfl⟩:=AO.1 ht
   exact OT.w ⟨w,(hm.at_ a ha).2.2 w hw,rfl⟩⟩
 refine⟨key _ (Ar (.inl ⟨ho,rfl⟩)) hr.h w1,fun l hl=>?_,by simp[Cd];omega⟩;obtain⟨a,ha,rfl⟩:=AO.1 hl;exact key a (Ar (.inr ha)) (hr.A a ha) (w4 a ha)
def Zm (N:List Tx)(x:AB)(k:Nat)(y:AB):Option Eu:=
 (x.A[k]?).bind fun a=>(Dy CI (a.A.map Ap) (Fs BW (Cd N y)).h.ts).map fun P=>Fg (Fs P ⟨(Cd N x).h,C7 k (Fs BW (Cd N y)).A (Cd N x).A⟩)
def Mi (q:Tx)(y:AB):Bool:=!y.o&&decide (y.h.B=q)
def Mt (N:List Tx)(l:List AB)(x:AB)(k:Nat)(q:Tx):List Eu:=(l.filter (Mi q)).filterMap (Zm N x k)
structure IN (N:List Tx)(ar:Tx->Nat)(a:Dv):Prop where
 nm:∃q∈N,a.p=(N.idxOf q:Nat)/\LI q/\Z a.ts=ar q
 pos:0<Z a.ts
 le3:Z a.ts<=3
 ot:∀t∈a.ts,OT t
structure FI (N:List Tx)(ar:Tx->Nat)(r:Eu):Prop where
 hd:IN N ar r.h
 bd:∀l∈r.A,IN N ar l.a
def N4 (N:List Tx)(b:Bool)(a:Dv):AC:=⟨b,(N[a.p.toNat]?).getD [],a.ts.map Hl⟩
def Dh (N:List Tx)(r:Eu):AB:=⟨false,N4 N false r.h,r.A.map fun l=>N4 N l.neg l.a⟩
theorem IN.at {N ar a}(h:IN N ar a)(b):(N4 N b a).B∈N/\LI (N4 N b a).B/\Z (N4 N b a).A=ar (N4 N b a).B/\C9 N (N4 N b a)=a/\∀t∈(N4 N b a).A,UT t:=by
 obtain⟨q,h1,h2,h3,h4⟩:=h.nm;have e:(N4 N b a).B=q:=by
  show (N[a.p.toNat]?).getD []=q;rw[h2,DU,AJ (CY h1),FT];rfl
 rw[e];refine⟨h1,h3,by simp[N4,h4],?_,fun t ht=>?_⟩
 ·unfold C9;rw[e,<-h2];show (⟨a.p,(a.ts.map Hl).map Ap⟩:Dv)=a;have:(a.ts.map Hl).map Ap=a.ts:=by
   rw[BS]
   conv=>rhs;rw[<-IY a.ts]
   exact CK fun t ht=>(h.ot t ht).dec.2
  rw[this]
 ·obtain⟨u,hu,rfl⟩:=AO.1 ht;exact (h.ot u hu).dec.1
theorem FI.rul {N ar r}(h:FI N ar r):Cd N (Dh N r)=r:=by
 obtain⟨hd,bd⟩:=r;unfold Cd Dh;simp only[(h.hd.at false).2.2.2.1,BS];congr 1
 conv=>rhs;rw[<-IY bd]
 refine CK fun l hl=>?_;show (⟨(N4 N l.neg l.a).nt,C9 N (N4 N l.neg l.a)⟩:Lit)=l;rw[((h.bd l hl).at l.neg).2.2.2.1];rfl
theorem pI {N}:∀{l:List AC} {b:List AV},(∀a∈l,a.B∈N)->EL Sb (l.map (E9 N)) b->EL (PL N) l b
 |[],_,_,h=>h
 |a::l,_,g,⟨c,d,⟨id,e⟩,h2,e2⟩=>⟨c,d,⟨g a (by simp),id,by rw[e];simp[E9,C9,Jw]⟩,pI (fun b hb=>g b (by simp[hb])) h2,e2⟩
theorem QO {N x c}(h:PI N x c):Tq x.o (Cd N x) c:=by
 obtain⟨hm,ih,id,b,hb,rfl⟩:=h;exact⟨ih,id,b,by simp[Cd,C9,Jw],tP hb⟩
theorem pC {N x c}(h1:x.h.B∈N)(h2:∀a∈x.A,a.B∈N)(h:Tq x.o (Cd N x) c):PI N x c:=by
 obtain⟨ih,id,b,rfl,hb⟩:=h;exact⟨h1,ih,id,b,pI h2 hb,by simp[Cd,C9,Jw]⟩
theorem FI.pi {N ar r}(h:FI N ar r){c}(hc:Tq false r c):PI N (Dh N r) c:=by
 refine pC (h.hd.at false).1 (fun a ha=>?_) (by rw[h.rul];exact hc);obtain⟨l,hl,rfl⟩:=AO.1 ha;exact ((h.bd l hl).at l.neg).1
theorem FI.atoms {N ar r}(h:FI N ar r){a}(ha:a∈Af (Dh N r)):∃m b,a=N4 N b m/\IN N ar m:=by
 have aa:a=N4 N false r.h\/a∈r.A.map fun l=>N4 N l.neg l.a:=by simpa[Af,Dh]using ha
 rcases aa with rfl|aa
 ·exact⟨_,_,rfl,h.hd⟩
 ·obtain⟨l,hl,rfl⟩:=AO.1 aa;exact⟨_,_,rfl,h.bd l hl⟩
theorem FI.msr {N ar r}(h:FI N ar r)(hb:Z r.A<=1000):KT N (Dh N r):=
 ⟨(fun e=>by cases e),by simpa[Dh]using hb,(h.hd.at false).1,(h.hd.at false).2.1.2,fun a ha=>by
  obtain⟨m,b,rfl,hm⟩:=h.atoms ha
  exact⟨by simpa[N4]using hm.le3,(hm.at b).2.1.2,(hm.at b).2.2.2.2⟩⟩
theorem JR.ren {N ar a}(h:JR N ar a){vs}(hv:∀v,(true,v)∈a.ts->v∈vs)(hl:Z vs<=26):IN N ar (lM vs a):=by
 obtain⟨q,h1,h2,h3,h4⟩:=h.nm;refine⟨⟨q,h1,h2,h3,by simp[lM,h4]⟩,by simpa[lM]using h.pos,by simpa[lM]using h.le3,fun t ht=>?_⟩;obtain⟨⟨b,v⟩,hu,rfl⟩:=AO.1 ht;cases b with
 |true=>
  have hm:=hv v hu;have hi:=CY hm;have e:Gl vs (true,v)=(true,((vs.idxOf v:Nat):Int)):=by simp[Gl,qY,hm]
  rw[e];exact SU AA
 |false=>exact (h.w _ hu).2 rfl
theorem GR.ord {N ar r}(h:GR N ar r)(h5:Z r.A<=5):FI N ar (Fg r):=by
 have hl:Z (Fi r)<=26:=by
  have h1:=Fz (l:=Ho r) fun a ha=>by
   rcases BB.1 ha with rfl|ha
   ·exact h.hd.le3
   ·obtain⟨l,hl,rfl⟩:=AO.1 ha;exact (h.bd l hl).le3
  have h3:Z (Ho r)=Z r.A+1:=by simp[Ho]
  unfold Fi;omega
 refine⟨h.hd.ren (fun v hv=>(Dk _ _).2 ⟨r.h,by simp[Ho],hv⟩) hl,fun l hm=>?_⟩;obtain⟨k,hk,rfl⟩:=AO.1 hm;exact (h.bd k hk).ren (fun v hv=>(Dk _ _).2 ⟨k.a,by simp only[Ho,BB,AO];exact .inr ⟨k,hk,rfl⟩,hv⟩) hl
theorem wI {N:List Tx}{p q}(hp:p∈N)(hq:q∈N):(((N.idxOf p:Nat):Int) !=((N.idxOf q:Nat):Int))=!decide (p=q):=by
 by_cases h:p=q
 ·subst h;simp
 ·have:N.idxOf p≠N.idxOf q:=fun e=>h (by
   have h1:=FT (CY hp);have h2:=FT (CY hq)
   rw[<-h1,<-h2];congr 1)
  simp[h];omega
theorem xI {N}{l:List AB}{x k q i y}(h:l[i]?=some y):Mt N (l.take (i+1)) x k q=Mt N (l.take i) x k q++(if Mi q y=true then (Zm N x k y).toList else []):=by
 unfold Mt;rw[AU,h,BJ,IZ,List.filterMap_append];congr 1;by_cases hq:Mi q y=true
 ·rw[if_pos hq,KP,if_pos hq];cases e:Zm N x k y<;>simp[e]
 ·rw[if_neg hq,KP,if_neg hq];rfl
theorem Uf (N ar l cs idn idi)(hR:BH N ar l)(hE:EL (PI N) l cs)(x c)(k:Nat)(a)(hx:x∈l)(be:x.o=false)(hc:PI N x c)(ha:x.A[k]?=some a)(z):
  AF Tryz.prog 179 [Cl N idn l idi cs,ag c,ic k] z fun r z'=>(∃id c',r=sl id (Z (Mt N l x k a.B)) c'/\EL (Tq false) (Mt N l x k a.B) c')/\AE z z':=by
 have cr:=hR.gl.len;have dw:=EL.length E7 hE;have bz:=BD ha;have hW:=fun y hy ho=>tH (hR.ru y hy ho) (hR.gl.msr y hy) ho (hR.wit y hy);have bi:=hW x hx be;have dp:=hR.b5 x hx;have cx:=((hR.ru x hx be).A a bz).mem;have a7:=((hR.ru x hx be).A a bz).len;have bw:=QO hc;rw[be]at bw;have bq:(Cd N x).A[k]?=some (E9 N a):=by simp[Cd,ha]
 have b9:=bi.bd _ (BD bq);have b2:=bw;obtain⟨ih,ib,bc,rfl,hb⟩:=bw;obtain⟨ia,ra,cu⟩:=H8 hb bq;have cw:=EL.length Hj hb;have cf:Z (Cd N x).A=Z x.A:=by simp[Cd]
 have dt:k<Z x.A:=(BG.1 ha).1;have HU:AD (∀y,Zm N x k y=(Dy CI (E9 N a).a.ts (Fs BW (Cd N y)).h.ts).map fun P=>Fg (Fs P ⟨(Cd N x).h,C7 k (Fs BW (Cd N y)).A (Cd N x).A⟩)):=fun y=>by
  unfold Zm;rw[ha];rfl
 have av:(E9 N a).a.p=((N.idxOf a.B:Nat):Int):=rfl;have b8:Z (E9 N a).a.ts=ar a.B:=by simp[E9,C9,a7]
 generalize Cd N x=X at bi b2 bq hb cw cf HU;generalize (E9 N a).a=A at cu b9 HU av b8;have c5:Z X.A<=5:=AA;have du:k<Z X.A:=AA;have dj:AD _:=av;have dk:AD _:=b8;have dd:AD (Tq false X [sc (.bool false),ic X.h.p,sl ih (Z X.h.ts) (Ad X.h.ts),sl ib (Z X.A) bc]):=b2;have HR:AD (BH N ar l):=hR;have HW:AD (∀y∈l,y.o=false->GR N ar (Cd N y)):=hW;have dc:AD (GR N ar X):=bi;have cb:AD (JR N ar A):=b9;clear b2 hR hW bi b9 ha bz bq hc cf av b8 a7;refine Z9 65 [.tmp 6] Tryz.func179 ?_
 refine zz ?_
 refine Ae (fun m s z'=>∃(i id:Nat) (R:List Eu) (c:List AV),m=Z l-i/\i<=Z l/\s 2=ic k/\s 4=ptr (z.B+1) 0/\s 7=sl id (Z R) c/\s 8=ptr (z.B+2) 0/\s 24=sl idi (Z l) cs/\s 25=ic (Z l)/\s 26=ic i/\AE z z'/\z.B+2<z'.B/\z'.C (z.B+1)=[sc (.bool false),ic X.h.p,sl ih (Z X.h.ts) (Ad X.h.ts),sl ib (Z X.A) bc]/\z'.C (z.B+2)=[ic A.p,sl ia (Z A.ts) (Ad A.ts)]/\Own z z' id (Z R)/\Z c=Z R*4/\Z R<=i/\AD (R=Mt N (l.take i) x k a.B/\EL (Tq false) R c)) (Z l)
  ⟨0,1,[],[],AA,AA,by simp[upd,AM],AG,AG,AG,AG,AG,rfl,?_,?_,?_,?_,Own.nil _ _,by simp,by simp,⟨by simp[Mt],rfl⟩⟩ ?_
 ·exact ((((AE.refl z).new _).new _).new _).put AA _
 ·simp only[Ab,Aa];omega
 ·rw[Aj AA,Ah AK,Bg (by rw[Aa];omega) (by rw[Aa];omega)]
 ·rw[show z.B+2=z.B+1+1 by omega,Ak]
 rintro m s z' ⟨i,id,R,c,rfl,hi,h2,h4,h7,h8,d2,d1,d0,hK,dq,dm,dl,hO,cv,dx,hA⟩;have dn:=hK.B;by_cases cd:i<Z l
 ·have ab:=AJ cd;have a5:=AT cd;have cc:=((HR.o).gl.msr l[i] a5).mem;have az:=fun (ho:l[i].o=false)=>HW.o l[i] a5 ho;have cn:=HR.o.b5 l[i] a5;have aa:=fun (ho:l[i].o=false)=>(HR.o.ru l[i] a5 ho).h.len;obtain⟨cy,ry,ax,hd⟩:=EL.get E7 hE ab;have ax:=QO ax;have HS:=xI (N:=N) (x:=x) (k:=k) (q:=a.B) ab;have ao:=wI cc cx;have bg:(Cd N l[i]).h.p=((N.idxOf l[i].h.B:Nat):Int):=rfl;have b0:Z (Cd N l[i]).A=Z l[i].A:=by simp[Cd]
  have bh:Z (Cd N l[i]).h.ts=Z l[i].h.A:=by simp[Cd,C9]
  have ae:=HU.o l[i];generalize l[i]=y at ab a5 cc az cn aa ax hd HS ao bg b0 bh ae;generalize Cd N y=Y at az ax bg b0 bh ae;have cz:Z Y.A<=5:=AA;have db:AD _:=bh;clear b0 bh;have a8:=ax;obtain⟨jh,jb,jc,rfl,ct⟩:=ax;simp only[FC,FM]at hd;rw[<-bg,<-dj.o]at ao;clear bg;cases aw:y.o with
  |true=>
   have HN:AD (R=Mt N (l.take (i+1)) x k a.B/\EL (Tq false) R c):=by
    rw[HS];simp[Mi,aw];exact hA.o
   rw[aw]at hd;clear HS hA ab a8 az aa ao ae
   refine pz ?_
   refine⟨Z l-(i+1),AA,i+1,id,R,c,?_⟩
   exact qh HN
  |false=>
   rw[aw]at hd a8;by_cases a6:y.h.B=a.B
   ·have cq:(Y.h.p !=A.p)=false:=by rw[ao];simp[a6]
    have b1:=az aw;have ay:=b1.pin TZ;have av:=fun z=>apart_spec Y b1.r52 false _ a8 z;have bf:Z A.ts=Z (Fs BW Y).h.ts:=by
     rw[dk.o,<-a6,<-aa aw,<-db.o];simp[Fs,P0]
    have ap:=fun jh z=>yT A (Fs BW Y).h ia jh bf (by have:=cb.o.le3;omega) (fun t ht=>(cb.o.w t ht).1) (fun t ht=>(ay.hd.w t ht).1) z;have ce:Z (Fs BW Y).A<=5:=by simp[Fs];omega
    have bl:∀P,Dy CI A.ts (Fs BW Y).h.ts=some P->IP P:=fun P e=>fY rA cb.o.w ay.hd.w e;have bb:=dc.o.join ay k c5 ce;generalize Fs BW Y=z7 at ay av bf ap ce bl bb ae;have b6:=fun jb jc (h:EL Sb z7.A jc) z=>rU X false _ k z7.A jb jc dd.o AA h AA z;have dv:=G5;have hz:=Og;have ds:=Uz;have d3:AD _:=bf;clear a8 az aa ao b1 bf ct;cases hm:Dy CI A.ts z7.h.ts with
    |none=>
     rw[hm]at ae ap;have HN:AD (R=Mt N (l.take (i+1)) x k a.B/\EL (Tq false) R c):=by
      rw[HS,ae];simp;exact hA.o
     have co:=H4 (P:=DD) (by simp[DD]);have cp:=Pw (P:=DD) (Q:=DD) (by simp[DD]) (by simp[DD]);unfold QF at ap;clear HS ae hA ab hm bl b6 bb ay
     (repeat (refine qb ?_;intro yd yb;(first|(refine Xi (av _) ?_;rintro _ _ ⟨⟨_,rfl,au⟩,ak⟩;(have ad:=((hK.new _).put hK.B _).trans ak;have b4:=Own.keep (Own.put (Own.new hO _) _ _) ak;have an:=ak.B;have ah:=ak.C;(try simp only[Aa,Ab]at an ah);obtain⟨zh,zb,zc,rfl,au⟩:=au;clear au))|(refine Xi (ap _ _) ?_;rintro _ _ ⟨rfl,aj⟩;(have ac:=((ad.new _).put ad.B _).trans aj;have b3:=Own.keep (Own.put (Own.new b4 _) _ _) aj;have am:=aj.B;have af:=aj.C;(try simp only[Aa,Ab]at am af))))));refine pz ?_
     refine⟨Z l-(i+1),AA,i+1,id,R,c,?_⟩
     ((repeat' refine Zi ?_ ?_)<;>first|exact Xq|exact HN|exact (Own.put (Own.new b3 _) _ _)|exact ((ac.new _).put ac.B _)|exact Xs)
    |some P=>
     rw[hm]at ae ap;have hP:=bl P hm;have cg:=bb.pin hP;have b7:=fun c (h:Tq false ⟨X.h,C7 k z7.A X.A⟩ c) z=>cY P hP.len _ bb.r52 false c h z;have bm:=fun c (h:Tq false (Fs P ⟨X.h,C7 k z7.A X.A⟩) c) z=>yK _ c h cg.r52 z;have HN:AD (∀d,Tq false (Fg (Fs P ⟨X.h,C7 k z7.A X.A⟩)) d->R++[Fg (Fs P ⟨X.h,C7 k z7.A X.A⟩)]=Mt N (l.take (i+1)) x k a.B/\EL (Tq false) (R++[Fg (Fs P ⟨X.h,C7 k z7.A X.A⟩)]) (c++d)):=fun d hd=>by
      refine⟨?_,EL.append hA.o.2 (EL.single hd)⟩;rw[HS,ae];simp[Mi,aw,a6];exact hA.o.1
     have co:=H4 hP.len;have cp:=Pw (P:=DD) (by simp[DD]) hP.len;have dr:=Ha hP.len;unfold QF at ap;clear HS ae hA ab hm bl cg bb ay hP;generalize (⟨X.h,C7 k z7.A X.A⟩:Eu)=J at b6 b7 bm HN;generalize Fs P J=K at b7 bm HN;generalize Fg K=O at bm HN
     repeat' first|refine Z1 ?_|refine Z8 fun yd yb=>?_|refine Z4 ?_;clear yb yd|refine Z2 ?_ ?_<;>intro h ai<;>try exact Xp|refine Z6 ?_;intro idn zn c6 dz ca cm da ck|(refine Z5 ?_;first|(refine Xi (av _) ?_;rintro _ _ ⟨⟨_,rfl,au⟩,ak⟩;(have ad:=((hK.new _).put hK.B _).trans ak;have b4:=Own.keep (Own.put (Own.new hO _) _ _) ak;have an:=ak.B;have ah:=ak.C;(try simp only[Aa,Ab]at an ah);obtain⟨zh,zb,zc,rfl,au⟩:=au))|(refine Xi (ap _ _) ?_;rintro _ _ ⟨rfl,aj⟩;(have ac:=((ad.new _).put ad.B _).trans aj;have b3:=Own.keep (Own.put (Own.new b4 _) _ _) aj;have am:=aj.B;have af:=aj.C;(try simp only[Aa,Ab]at am af)))|(refine Xi (b6 _ _ au _) ?_;rintro _ _ ⟨⟨_,rfl,cj⟩,bp⟩;(have ba:=((ac.new _).put ac.B _).trans bp;have c8:=Own.keep (Own.put (Own.new b3 _) _ _) bp;have bv:=bp.B;have a4:=bp.C;(try simp only[Aa,Ab]at bv a4);have di:AD _:=cj;obtain⟨jh3,jb3,jc3,rfl,-⟩:=cj))|(refine Xi (b7 _ di.o _) ?_;rintro _ _ ⟨⟨_,rfl,ci⟩,bo⟩;(have a9:=((ba.new _).put ba.B _).trans bo;have c7:=Own.keep (Own.put (Own.new c8 _) _ _) bo;have bu:=bo.B;have a3:=bo.C;(try simp only[Aa,Ab]at bu a3);have dh:AD _:=ci;obtain⟨jh4,jb4,jc4,rfl,-⟩:=ci))|(refine Xi (bm _ dh.o _) ?_;rintro _ _ ⟨⟨_,rfl,ch⟩,bn⟩;(have c9:=((a9.new _).put a9.B _).trans bn;have dy:=Own.keep (Own.put (Own.new c7 _) _ _) bn;have br:=bn.B;have a0:=bn.C;(try simp only[Aa,Ab]at br a0);have df:AD _:=HN.o _ ch;obtain⟨jh5,jb5,jc5,rfl,-⟩:=ch)))|refine Z3 ?_|exact Zt|apply yb.o;clear yb yd
     have de:AD _:=df.o;refine⟨Z l-(i+1),AA,i+1,idn,R++[O],c++[sc (.bool false),ic O.h.p,sl jh5 (Z O.h.ts) (Ad O.h.ts),sl jb5 (Z O.A) jc5],?_⟩
     ((repeat' refine Zi ?_ ?_)<;>first|exact Xq|exact (by simpa using c6)|exact de|exact ((by simp[cv];omega))|exact (by rw[ca,a0 _ AA,Aj AA,Ah AA,a3 _ AA,Aj AA,Ah AA,a4 _ AA,Aj AA,Ah AA,af _ AA,Aj AA,Ah AA,ah _ AA,Aj AA,Ah AA];assumption)|exact Xs)
   ·have cq:(Y.h.p !=A.p)=true:=by rw[ao];simp[a6]
    have HN:AD (R=Mt N (l.take (i+1)) x k a.B/\EL (Tq false) R c):=by
     rw[HS];simp[Mi,a6];exact hA.o
    clear HS hA ab a8 az aa ao ae
    refine pz ?_
    refine⟨Z l-(i+1),AA,i+1,id,R,c,?_⟩
    exact qh HN
 ·have hil:i=Z l:=AA;subst hil;obtain⟨e1,e2⟩:=hA.o;rw[AS]at e1;have HF:AD (∀r,r=sl id (Z R) c->∃id c',r=sl id (Z (Mt N l x k a.B)) c'/\EL (Tq false) (Mt N l x k a.B) c'):=fun r hr=>by
   rw[<-e1];exact⟨id,c,hr,e2⟩
  clear hA e1 e2
  refine pz ?_
  first|exact⟨_,rfl,HF.o _ rfl,hK⟩|exact⟨_,rfl,HF.o _ rfl⟩
theorem RD {α β:Type}{E}{E':β->List AV->Prop}{f}:∀{l:List α} {cs:List AV},EL E l cs->(∀a∈l,∀c,E a c->E' (f a) c)->EL E' (l.map f) cs
 |[],_,h,_=>h
 |a::l,_,⟨c,d,h1,h2,e⟩,g=>⟨c,d,g a (by simp) c h1,RD h2 (fun b hb=>g b (by simp[hb])),e⟩
def uL (N:List Tx)(l:List AB)(x:AB)(k:Nat)(q:Tx):List AB:=(Mt N l x k q).map (Dh N)
theorem TX {N ar l}(hR:BH N ar l){x}(hx:x∈l)(ad:x.o=false){k a}(ha:x.A[k]?=some a){r}(h:r∈Mt N l x k a.B):∃s,GR N ar s/\r=Fg s:=by
 have hW:=fun y hy ho=>tH (hR.ru y hy ho) (hR.gl.msr y hy) ho (hR.wit y hy);obtain⟨y,hy,e⟩:=List.mem_filterMap.1 h;obtain⟨ab,aa⟩:=BV.1 hy;simp only[Mi,BX,GH,DF]at aa;unfold Zm at e;rw[ha]at e;obtain⟨P,hP,rfl⟩:=OQ.1 e;have hX:=hW x hx ad;have hZ:=(hW y ab aa.1).pin TZ;have ae:Z (Cd N x).A<=5:=by simp[Cd];exact hR.b5 x hx
 have ac:Z (Fs BW (Cd N y)).A<=5:=by simp[Fs,Cd];exact hR.b5 y ab
 have hA:=hX.bd (E9 N a) (by simp only[Cd,AO];exact⟨a,BD ha,rfl⟩);exact⟨_,(hX.join hZ k ae ac).pin (fY rA hA.w hZ.hd.w hP),rfl⟩
theorem YM {N ar l}(hR:BH N ar l){x}(hx:x∈l)(ab:x.o=false){k a}(ha:x.A[k]?=some a){y}(h:y∈uL N l x k a.B)(h5:Z y.A<=5):∃r,y=Dh N r/\FI N ar r/\Z r.A<=5:=by
 obtain⟨r,hr,rfl⟩:=AO.1 h;obtain⟨s,hs,rfl⟩:=TX hR hx ab ha hr;have aa:Z s.A<=5:=by simpa[Dh,Fg]using h5
 exact⟨_,rfl,hs.ord aa,by simpa[Fg]using aa⟩
theorem mq {N ar l}(hR:BH N ar l){x}(hx:x∈l)(aa:x.o=false){k a}(ha:x.A[k]?=some a){c}(h:EL (Tq false) (Mt N l x k a.B) c):EL (PJ N) (uL N l x k a.B) c:=by
 refine RD h fun r hr c hc=>?_;obtain⟨s,hs,rfl⟩:=TX hR hx aa ha hr;have hl:Z (Dh N (Fg s)).A=Z s.A:=by simp[Dh,Fg]
 have hb:=hs.bl;by_cases h5:Z s.A<=5
 ·have hO:=hs.ord h5;exact .inl ⟨hO.pi hc,hO.msr (by simp[Fg];omega)⟩
 ·obtain⟨ih,ib,bc,rfl,-⟩:=hc;exact .inr ⟨by rw[hl];omega,by rw[hl];omega,false,(Fg s).h.p,ih,Z (Fg s).h.ts,Ad (Fg s).h.ts,ib,bc,by rw[hl];simp[Fg]⟩
theorem S3 {l}(h:Ls l=true):Z l<=16/\∀x∈l,Z x.A<=5:=by
 unfold Ls at h;simp only[BX,DF,EK]at h;exact⟨h.1,h.2.1⟩
theorem PJ.pi {N x c}(h:PJ N x c)(h5:Z x.A<=5):PI N x c/\KT N x:=h.resolve_right fun h=>by have:=h.1;omega
theorem FI.fits {N ar r}(h:FI N ar r)(h5:Z r.A<=5):(Dh N r).fits:=by
 refine⟨by simp[Dh];omega,by have:=h.hd.le3;simp[Dh,N4];omega,fun a ha=>?_⟩;obtain⟨l,hl,rfl⟩:=AO.1 ha;have:=(h.bd l hl).le3;simp[N4];omega
def OG (N:List Tx)(ar:Tx->Nat)(o:List AB):Prop:=∀y∈o,Z y.A<=5->∃r,y=Dh N r/\FI N ar r/\Z r.A<=5
theorem UI {N ar l}(hR:BH N ar l){x}(hx:x∈l)(aa:x.o=false){k a}(ha:x.A[k]?=some a):OG N ar (uL N l x k a.B):=fun y hy h5=>YM hR hx aa ha hy h5
theorem mg (N l x k q):Z (uL N l x k q)<=Z l:=by
 unfold uL Mt;rw[BP];exact BO (List.length_filterMap_le _ _) (KE _ _)
theorem TJ {N ar l o}(hR:BH N ar l)(hU:OG N ar o)(i)(aa:Ls (C7 i o l)=true):GL N (C7 i o l):=by
 obtain⟨ab,h5⟩:=S3 aa;have hm:∀y∈C7 i o l,y∈l\/∃r,y=Dh N r/\FI N ar r/\Z r.A<=5:=fun y hy=>by
  rcases Ee hy with h|h
  ·exact .inl h
  ·exact .inr (hU y h (h5 y hy))
 refine⟨ab,hR.gl.nm,fun y hy=>?_,fun y hy=>?_,fun y hy=>?_,fun y hy=>?_,fun y hy=>?_⟩
 ·rcases hm y hy with h|⟨r,rfl,hr,hb⟩
  ·exact hR.gl.msr y h
  ·exact hr.msr AA
 ·rcases hm y hy with h|⟨r,rfl,hr,hb⟩
  ·exact hR.gl.fits y h
  ·exact hr.fits hb
 ·rcases hm y hy with h|⟨r,rfl,hr,hb⟩
  ·exact hR.gl.pos y h
  ·intro a ha;obtain⟨m,b,rfl,hm⟩:=hr.atoms ha;simpa[N4]using hm.pos
 ·rcases hm y hy with h|⟨r,rfl,hr,hb⟩
  ·exact hR.gl.va y h
  ·intro a ha w hw;obtain⟨m,b,rfl,hm⟩:=hr.atoms ha;exact aO ((hm.at b).2.2.2.2 w hw)
 ·rcases hm y hy with h|⟨r,rfl,hr,hb⟩
  ·exact hR.gl.ar y h
  ·intro a ha b hb e;obtain⟨m,c,rfl,hm⟩:=hr.atoms (Ar (.inr ha));obtain⟨n,d,rfl,hn⟩:=hr.atoms (Ar (.inr hb));rw[(hm.at c).2.2.1,(hn.at d).2.2.1,e]
theorem SZ {N ar l o}(hR:BH N ar l)(hU:OG N ar o)(ho:Z o<=16)(i){c}(h:EL (PJ N) (C7 i o l) c):QW N (C7 i o l) c:=by
 have hl:=hR.gl.len;refine⟨h,?_,fun aa=>(TJ hR hU i aa).bkm (Qq h fun y hy c hc=>(hc.pi ((S3 aa).2 y hy)).1)⟩;have h1:=Q6 (n:=i) (o:=o) l (Z l);rw[AS]at h1;have h3:Z l*(Z o+1)<=16*17:=MJ hl AA;omega
theorem U5 {l}(h:(Cn l).1=0){x}(hx:x∈l):Dx x=true:=by
 unfold Cn at h;split at h
 ·cases h
 ·split at h
  ·cases h
  ·rename_i h2;obtain⟨i,hi,e⟩:=List.getElem_of_mem hx;have:=sH h2 i hi;unfold Df at this;rw[AJ hi,e]at this;simpa using this
theorem FI.wit {N ar r}(h:FI N ar r)(h5:Z r.A<=5):De (Dh N r):=by
 have key:∀m b,IN N ar m->D3 (N4 N b m):=fun m b hm=>⟨(hm.at b).2.1.1,by
  have:=hm.pos;intro e;have:=congrArg List.length e;simp[N4]at this
  simp[this]at*,by simpa[N4]using hm.le3,fun t ht=>((hm.at b).2.2.2.2 t ht).2.1⟩
 refine⟨(h.hd.at false).2.1.1,(fun e=>by cases e),fun _=>⟨key _ _ h.hd,rfl,by simpa[Dh]using h5,fun a ha=>?_⟩⟩;obtain⟨l,hl,rfl⟩:=AO.1 ha;exact key _ _ (h.bd l hl)
theorem FI.wi {N ar r}(h:FI N ar r)(h5:Z r.A<=5):WI N (Dh N r):=by
 have hw:=h.wit h5;have ac:∀m b,IN N ar m->short (N4 N b m):=fun m b hm=>⟨(hm.at b).2.1.2,by have:=hm.le3;simp[N4];omega,fun t ht=>((hm.at b).2.2.2.2 t ht).2.2.1⟩;have ab:∀m b,IN N ar m->VA (N4 N b m):=fun m b hm t ht=>aO ((hm.at b).2.2.2.2 t ht);have ad:∀a∈Af (Dh N r),WA N (Ba (Dh N r)) a:=fun a ha=>by
  obtain⟨m,b,rfl,hm⟩:=h.atoms ha;exact⟨(hm.at b).1,by simpa[N4]using hm.pos,(ac m b hm).2.1,(hm.at b).2.1.2,fun w aa=>⟨((hm.at b).2.2.2.2 w aa).1,((hm.at b).2.2.2.2 w aa).2.2.1,fun hv=>Oi hw ha aa hv⟩⟩
 refine⟨h.fits h5,⟨ac _ _ h.hd,fun a ha=>?_⟩,fun a ha=>?_,ab _ _ h.hd,fun a ha=>?_,(h.hd.at false).1,by simpa[Dh]using h5,(fun e=>by cases e),fun _=>⟨rfl,ad _ (Ar (.inl ⟨rfl,rfl⟩))⟩,fun a ha=>ad a (Ar (.inr ha))⟩
 ·obtain⟨l,hl,rfl⟩:=AO.1 ha;exact ac _ _ (h.bd l hl)
 ·obtain⟨m,b,rfl,hm⟩:=h.atoms ha;exact ab _ _ hm
 ·obtain⟨l,hl,rfl⟩:=AO.1 ha;exact ab _ _ (h.bd l hl)
theorem FI.ru {N ar r}(h:FI N ar r)(hs:Dx (Dh N r)=true):KY N ar (Dh N r):=by
 have ab:∀m b,IN N ar m->MK N ar (N4 N b m):=fun m b hm=>⟨(hm.at b).1,(hm.at b).2.2.1,by simpa[N4]using hm.le3⟩;have aa:∀m b,IN N ar m->∀t∈(N4 N b m).A,VT t/\DT t:=fun m b hm t ht=>⟨aO ((hm.at b).2.2.2.2 t ht),((hm.at b).2.2.2.2 t ht).1⟩;have ac:∀a∈Af (Dh N r),VA a:=fun a ha t ht=>by
  obtain⟨m,b,rfl,hm⟩:=h.atoms ha;exact (aa m b hm t ht).1
 refine⟨ab _ _ h.hd,rfl,fun a ha=>?_,aa _ _ h.hd,fun a ha=>?_,fun v hm hv=>?_⟩
 ·obtain⟨l,hl,rfl⟩:=AO.1 ha;exact ab _ _ (h.bd l hl)
 ·obtain⟨l,hl,rfl⟩:=AO.1 ha;exact aa _ _ (h.bd l hl)
 ·obtain⟨b,hb,-,ad⟩:=Wu (by rw[Uw ac];exact hs) (fun a ha=>by
   obtain⟨m,b,rfl,hm⟩:=h.atoms ha
   exact (hm.at b).2.2.2.2) (a:=(Dh N r).h) (Ar (.inl ⟨rfl,rfl⟩)) hm hv
  exact⟨b,hb,ad⟩
theorem TK {N ar l o}(hR:BH N ar l)(hU:OG N ar o)(i)(hb:E4 N l (C7 i o l)=true):BH N ar (C7 i o l):=by
 unfold E4 at hb;simp only[BX,EH]at hb;obtain⟨aa,-,hw⟩:=hb;have h5:=(S3 aa).2;have hm:∀y∈C7 i o l,y∈l\/∃r,y=Dh N r/\FI N ar r/\Z r.A<=5:=fun y hy=>by
  rcases Ee hy with h|h
  ·exact .inl h
  ·exact .inr (hU y h (h5 y hy))
 refine⟨TJ hR hU i aa,h5,fun y hy ho=>?_,fun y hy=>?_,fun y hy=>?_⟩
 ·rcases hm y hy with h|⟨r,rfl,hr,hb⟩
  ·exact hR.ru y h ho
  ·exact hr.ru (U5 hw hy)
 ·rcases hm y hy with h|⟨r,rfl,hr,hb⟩
  ·exact hR.wi y h
  ·exact hr.wi hb
 ·rcases hm y hy with h|⟨r,rfl,hr,hb⟩
  ·exact hR.wit y h
  ·exact hr.wit hb
def dG (N:List Tx)(U:Nat->Nat->Bool)(l:List AB)(i k:Nat):Bool:=match l[i]? with
 |some x=>(match x.A[k]? with
  |some a=>!a.nt&&(!U (N.idxOf a.B) (N.idxOf a.B)&&(D8 N l (N.idxOf a.B)&&E4 N l (C7 i (uL N l x k a.B) l)))
  |none=>false)
 |none=>false
def yN (N:List Tx)(U:Nat->Nat->Bool)(l:List AB)(n:Nat):Prop:=∀i y,i<n->l[i]?=some y->∀k,k<Z y.A->dG N U l i k=false
def LQ (N:List Tx)(l:List AB)(idn:Nat)(x:AV)(b:Bool):Prop:=∃M,Em N l M/\
 ((b=false/\yN N (Hw (Z N) M (Z N)) l (Z l))\/(b=true/\∃i k y a,l[i]?=some y/\y.o=false/\y.A[k]?=some a/\dG N (Hw (Z N) M (Z N)) l i k=true/\yN N (Hw (Z N) M (Z N)) l i/\(∀k',k'<k->dG N (Hw (Z N) M (Z N)) l i k'=false)/\∃id c',x=Cl N idn (C7 i (uL N l y k a.B) l) id c'/\EL (PI N) (C7 i (uL N l y k a.B) l) c'))
theorem TF {N}(x c)(h:PJ N x c):QU c:=by
 rcases h with⟨h,-⟩|⟨-,-,o,p,ih,n1,tc,ib,b,rfl⟩
 ·exact pD h
 ·exact⟨_,_,_,_,_,_,_,_,rfl⟩
theorem Qu (N ar l cs idn idi)(hR:BH N ar l)(hE:EL (PI N) l cs)(z):
  AF Tryz.prog 127 [Cl N idn l idi cs] z fun r z'=>(∃x b,r=tp [x,sc (.bool b)]/\LQ N l idn x b/\oY x)/\AE z z':=by
 have hG:=hR.gl;have cv:=EL.length E7 hE;have bb:=hG.len;have hN:=hG.nm;have b5:=fun z=>Pv N l cs idn idi ((hG.bkm hE).bk bb) z;have cj:AD (EL (PJ N) l cs):=Qq hE fun x hx c hc=>.inl ⟨hc,hG.msr x hx⟩;have HB:AD (JW N l cs):=hG.bkm hE;have HR:AD (BH N ar l):=hR;clear hG hR;refine Z9 71 [.cell 2 62,.tmp 3] Tryz.func127 ?_
 refine qb ?_;intro yd yb;refine Xi (b5 _) ?_;rintro _ _ ⟨idu,B,M0,rfl,bf,ch,cy,br,b9⟩;(have bn:=bf.B;have ai:=bf.C;(try simp only[Aa,Ab]at bn ai ch));refine pz ?_
 rename_i z1;have obk:z1.C z.B=[sl idn (Z N) (N.map str),sl idi (Z l) cs]:=by rw[ai _ AA,Ah AK,Ao]
 have obr:z1.C (z.B+1)=[nilS,nilS]:=by rw[ai _ AA];first|exact Ao|simp[Ao]
 have cd:AD (Em N l M0):=b9;generalize b7:Hw (Z N) M0 (Z N)=U at br;have HU:AD _:=b7;have b8:AE z z1:=(((AE.refl z).new _).new _).trans bf;clear b9 b7 bf ai b5
 refine Ae (fun m s z'=>∃(i:Nat),m=Z l-i/\i<=Z l/\s 1=ptr z.B 0/\s 2=ptr (z.B+1) 0/\s 4=sl idu (Z N) (Ga B (Z N) (Z N))/\s 17=sl idi (Z l) cs/\s 18=ic (Z l)/\s 19=ic i/\AE z z'/\z1.B<=z'.B/\z'.C z.B=[sl idn (Z N) (N.map str),sl idi (Z l) cs]/\z'.C (z.B+1)=[nilS,nilS]/\AD (CB B (Z N) U z')/\AD (yN N U l i)) (Z l)
  ⟨0,AA,AA,AG,AG,AG,AG,AG,rfl,b8,AA,obk,obr,br,fun i y h=>AA⟩ ?_
 clear b8 obk obr br;rintro m s z' ⟨i,rfl,hi,h1,h2,h4,cc,cb,ca,hK,cr,bi,bh,hM,hA⟩;have cm:=hK.B;by_cases b1:i<Z l
 ·have am:=AJ b1;have a5:=AT b1;have b3:=HR.o.gl.fits l[i] a5;have bz:=HR.o.gl.msr l[i] a5;obtain⟨b0,ih,idb,b,r,be,hd⟩:=Io hE am;generalize l[i]=x at hd am b0 be a5 b3 bz;have cx:=b3.1;have cw:=EL.length Es be;have HG:AD (l[i]?=some x):=am;clear am
  refine pz ?_
  refine Ae (fun m s z2=>∃(k:Nat),m=Z x.A-k/\k<=Z x.A/\s 1=ptr z.B 0/\s 2=ptr (z.B+1) 0/\s 4=sl idu (Z N) (Ga B (Z N) (Z N))/\s 5=ic i/\s 6=ptr z'.B 0/\s 17=sl idi (Z l) cs/\s 18=ic (Z l)/\s 19=ic i/\s 25=sl idb (Z x.A) b/\s 26=ic (Z x.A)/\s 27=ic k/\AE z z2/\z'.B<z2.B/\z2.C z.B=[sl idn (Z N) (N.map str),sl idi (Z l) cs]/\z2.C (z.B+1)=[nilS,nilS]/\z2.C z'.B=[sc (.bool x.o),ic (N.idxOf x.h.B:Nat),sl ih (Z x.h.A) (A2 x.h.A),sl idb (Z x.A) b]/\AD (CB B (Z N) U z2)/\AD (∀k',k'<k->dG N U l i k'=false)) (Z x.A)
   ⟨0,AA,AA,AI,AI,AI,AI,AI,AI,AI,AI,AG,AG,AG,Xs,BM,by rw[Aj AA,Ah AA,bi],by rw[Aj AA,Ah AA,bh],by rw[Ak],CB.put (CB.new hM.o AA _) AA _,fun k' h=>AA⟩ ?_
  clear h1 h2 h4 cc cb ca hK bi bh hM;rintro m s z2 ⟨k,rfl,hk,h1,h2,h4,h5,h6,cc,cb,ca,c7,c5,cz,hK,cg,bi,bh,ce,hM,bc⟩;have cf:=hK.B;by_cases a0:k<Z x.A
  ·have aj:x.o=false:=by
    cases h:x.o with
    |false=>rfl
    |true=>rw[bz.o h]at a0;cases a0
   have ao:=AJ a0;obtain⟨b4,ia,ra,bd⟩:=Pn be ao;generalize x.A[k]=a at ao b4 bd;have ab:dG N U l i k=(!a.nt&&(!U (N.idxOf a.B) (N.idxOf a.B)&&(D8 N l (N.idxOf a.B)&&E4 N l (C7 i (uL N l x k a.B) l)))):=by unfold dG;rw[HG.o];dsimp only;rw[ao]
   have an:AD (dG N U l i k=false->∀k',k'<k+1->dG N U l i k'=false):=fun hf k' b2=>by
    rcases FQ k' k with h|h
    ·exact bc.o k' h
    ·rw[show k'=k by omega,hf]
   have hp:=CY b4;have av:=fun z=>Nh N l cs idn idi (N.idxOf a.B) hE AA z
   have ap:=fun c (hc:PI N x c) z=>(Uf N ar l cs idn idi HR.o hE x c k a a5 aj hc ao z).mono (R':=fun r z'=>(∃id c',r=sl id (Z (uL N l x k a.B)) c'/\EL (PJ N) (uL N l x k a.B) c')/\AE z z') (fun r z' h=>by
    obtain⟨⟨id,c',rfl,h1⟩,h2⟩:=h
    exact⟨⟨id,c',by simp[uL],mq HR.o a5 aj ao h1⟩,h2⟩)
   have au:Z (uL N l x k a.B)<=16:=BO (mg _ _ _ _ _) bb;have b6:Z (uL N l x k a.B)<=1000:=AA;have a3:=fun co ido (h:EL (PJ N) (uL N l x k a.B) co) z=>Nb (E:=PJ N) TF N l (uL N l x k a.B) cs co idn idi ido i cj.o h AA b6 z;have af:=fun c' id' (h:EL (PJ N) (C7 i (uL N l x k a.B) l) c') z=>Ik N l (C7 i (uL N l x k a.B) l) cs c' idn idi id' HB.o (SZ HR.o (UI HR.o a5 aj ao) au i h) z;have ah:AD (∀c',E4 N l (C7 i (uL N l x k a.B) l)=true->EL (PJ N) (C7 i (uL N l x k a.B) l) c'->EL (PI N) (C7 i (uL N l x k a.B) l) c'):=fun c' hb h=>by
    unfold E4 at hb;simp only[BX]at hb;exact Qq h fun y hy c hc=>(hc.pi ((S3 hb.1).2 y hy)).1
   have HC:AD (∀id c' x',dG N U l i k=true->x'=Cl N idn (C7 i (uL N l x k a.B) l) id c'->EL (PI N) (C7 i (uL N l x k a.B) l) c'->LQ N l idn x' true):=fun id c' x' ho bo bp=>⟨M0,cd.o,by
    rw[HU.o]
    exact .inr ⟨rfl,i,k,x,a,HG.o,aj,ao,ho,hA.o,bc.o,id,c',bo,bp⟩⟩
   have bq:=PI.of (ih:=ih) (id:=idb) b0 be;rw[aj]at ce bq;have ci:AD _:=bq;clear bq ao bc;cases hnt:a.nt with
   |true=>
    have a4:AD (∀k',k'<k+1->dG N U l i k'=false):=an.o (by rw[ab,hnt];rfl);rw[hnt]at bd;clear ab an av ap a3 af ah HC
    refine pz ?_
    refine⟨Z x.A-(k+1),AA,k+1,?_⟩
    ((repeat' refine Zi ?_ ?_)<;>first|exact Xq|exact a4|exact (by rw[aj];assumption)|exact (CB.put (CB.new hM.o AA _) AA _)|exact Xs)
   |false=>
    rw[hnt]at bd ab;generalize N.idxOf a.B=p at bd hp ab av;have cq:=Jd (B:=B) (n:=Z N) (k:=Z N) hp;have cp:=Jc B (Z N) (Z N);have ct:=hM.o _ hp;have cn:=Cx (Z N) (U p);have bw:=Fy (U p) hp;have ak:∀cs',(z2.new cs').C (B+p)=z2.C (B+p):=fun cs'=>Ah AA;cases hu:U p p with
    |true=>
     have a4:AD (∀k',k'<k+1->dG N U l i k'=false):=an.o (by rw[ab,hu];rfl);rw[hu]at bw;clear ab an av ap a3 af ah HC ak hu
     refine pz ?_
     refine⟨Z x.A-(k+1),AA,k+1,?_⟩
     ((repeat' refine Zi ?_ ?_)<;>first|exact Xq|exact a4|exact (by rw[aj];assumption)|exact (CB.put (CB.new hM.o AA _) AA _)|exact Xs)
    |false=>
     rw[hu]at bw ab;cases a6:D8 N l p with
     |false=>
      have a4:AD (∀k',k'<k+1->dG N U l i k'=false):=an.o (by rw[ab,a6];rfl);rw[a6]at av;clear ab an ap a3 af ah HC ak hu a6
      refine qb ?_;intro yd yb;refine Xi (av _) ?_;rintro _ _ ⟨rfl,ae⟩;(have ad:=ae.B;have ac:=ae.C;(try simp only[Ab,Aa]at ad ac));refine pz ?_
      refine⟨Z x.A-(k+1),AA,k+1,?_⟩
      ((repeat' refine Zi ?_ ?_)<;>first|exact Xq|exact a4|exact (by rw[aj];assumption)|exact (CB.keep (CB.put (CB.new hM.o AA _) AA _) ae BM)|exact Xs)
     |true=>
      rw[a6]at av ab;simp only[JU,ID]at ab;rw[<-ab]at af ah;clear au;generalize uL N l x k a.B=V at ap a3 af ah HC b6;generalize C7 i V l=W at a3 af ah HC;have ap:=fun z=>ap _ ci.o z;cases a7:dG N U l i k with
      |true=>
       rw[a7]at af ah;have ck:AD (∀id c' x',x'=Cl N idn W id c'->EL (PJ N) W c'->LQ N l idn x' true):=fun id c' x' bo bp=>HC.o id c' x' a7 bo (ah.o c' rfl bp);clear ab an ah HC ak hu a6 a7 hA
       (repeat (refine qb ?_;intro yd yb;(first|(refine Xi (av _) ?_;rintro _ _ ⟨rfl,ae⟩;(have ad:=ae.B;have ac:=ae.C;(try simp only[Ab,Aa]at ad ac)))|(refine Xi (ap _) ?_;rintro _ _ ⟨⟨id4,c4,rfl,bu⟩,ba⟩;(have az:=ba.B;have ax:=ba.C;(try simp only[Ab,Aa]at az ax)))|(refine Xi (a3 _ _ bu _) ?_;rintro _ _ ⟨⟨id6,c6,rfl,bg⟩,a9⟩;(have ay:=a9.B;have aw:=a9.C;(try simp only[Ab,Aa,Av]at ay aw)))|(refine Xi (af c6 id6 bg _) ?_;rintro _ _ ⟨⟨x7,rfl,bv,⟨id71,n71,c71,id72,n72,c72,rfl⟩⟩,a8⟩;(have bm:=a8.B;have bl:=a8.C)))));refine pz ?_
       exact⟨_,rfl,⟨_,true,rfl,ck.o _ _ _ (bv rfl) bg,_,_,_,_,_,_,rfl⟩,Xs⟩
      |false=>
       rw[a7]at af;have a4:AD (∀k',k'<k+1->dG N U l i k'=false):=an.o a7;clear ab an ah HC ak hu a6 a7
       (repeat (refine qb ?_;intro yd yb;(first|(refine Xi (av _) ?_;rintro _ _ ⟨rfl,ae⟩;(have ad:=ae.B;have ac:=ae.C;(try simp only[Ab,Aa]at ad ac)))|(refine Xi (ap _) ?_;rintro _ _ ⟨⟨id4,c4,rfl,bu⟩,ba⟩;(have az:=ba.B;have ax:=ba.C;(try simp only[Ab,Aa]at az ax)))|(refine Xi (a3 _ _ bu _) ?_;rintro _ _ ⟨⟨id6,c6,rfl,bg⟩,a9⟩;(have ay:=a9.B;have aw:=a9.C;(try simp only[Ab,Aa,Av]at ay aw)))|(refine Xi (af c6 id6 bg _) ?_;rintro _ _ ⟨⟨x7,rfl,bv,⟨id71,n71,c71,id72,n72,c72,rfl⟩⟩,a8⟩;(have bm:=a8.B;have bl:=a8.C)))));refine pz ?_
       refine⟨Z x.A-(k+1),AA,k+1,?_⟩
       ((repeat' refine Zi ?_ ?_)<;>first|exact Xq|exact a4|exact (by rw[aj];assumption)|exact (CB.put (CB.new (CB.keep (CB.put (CB.new hM.o AA _) AA _) (((ae.trans ba).trans a9).trans a8) BM) AA _) AA _)|exact Xs)
  ·have cu:k=Z x.A:=AA;have HA:AD (yN N U l (i+1)):=fun j y hj hy k' b2=>by
    rcases FQ j i with h|h
    ·exact hA.o j y h hy k' b2
    ·have:j=i:=AA;subst this;rw[HG.o]at hy;cases hy;exact bc.o k' AA
   clear bc HG hA
   refine pz ?_
   refine⟨Z l-(i+1),AA,i+1,?_⟩
   exact qh HA
 ·have hil:i=Z l:=AA;subst hil;have HC:AD (∀x,LQ N l idn x false):=fun x=>⟨M0,cd.o,by rw[HU.o];exact .inl ⟨rfl,hA.o⟩⟩;clear hA
  refine pz ?_
  exact⟨_,rfl,⟨_,false,rfl,HC.o _,_,_,_,_,_,_,rfl⟩,Xs⟩
end Go.Proofs.YtmoeoppbmhfbpabGreatDoorI
