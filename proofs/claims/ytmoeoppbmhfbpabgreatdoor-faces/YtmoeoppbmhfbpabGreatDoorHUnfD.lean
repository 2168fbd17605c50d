import Derived.Test.YtmoeoppbmhfbpabGreatDoorHUnfB
import Derived.Test.YtmoeoppbmhfbpabGreatDoorHAgrB
import Derived.Test.YtmoeoppbmhfbpabGreatDoorHImpB
set_option linter.all false
namespace Go.Proofs.YtmoeoppbmhfbpabGreatDoorH
set_option maxHeartbeats 32000000
open Go.Abs
set_option maxRecDepth 100000
def fP (l:List Int)(a:C3):C3:=⟨a.p,a.ts.map (Ir l)⟩
def xM (l:List Int)(x:Lit):Lit:=⟨x.neg,fP l x.a⟩
def Ec (r:D2):D2:=⟨fP (Ev r) r.head,r.body.map (xM (Ev r))⟩
theorem U3 {r:D2}(hr:zS r):(Ev r).length<=1000:=by
 have h1:=Eh (l:=Gk r) fun a ha=>by
  rcases Ace.1 ha with rfl|ha
  ·exact hr.h3
  ·obtain⟨l,hl,rfl⟩:=Acm.1 ha;exact hr.b3 l hl
 have h2:=hr.bl;have h3:(Gk r).length=r.body.length+1:=by simp[Gk]
 unfold Ev;omega
theorem mX (r:D2)(c:List AV)(hc:Pj false r c)(hr:zS r)(z:St):
  ACalls Tryz.prog 93 [ag c] z fun x z'=>(∃c',x=ag c'/\Pj false (Ec r) c')/\Keep z z':=by
 have a4:=fun z=>Ju r c hc hr z;have bb:=U3 hr;have bh:=hr.bl;obtain⟨ih,id,b,rfl,hb⟩:=hc;have bg:=EL.length Fv hb;unfold Ec;generalize Ev r=lo at a4 bb;have a5:=fun ido z=>Lg lo ido r.head.p ih r.head.ts Ad2 (by have:=hr.h3;omega) z;have a6:=fun ido (a:Lit) ia (ha:a∈r.body) z=>Lg lo ido a.a.p ia a.a.ts Ad2 (by have:=hr.b3 a ha;omega) z;refine Z9 39 [.cell 2 125] Tryz.func93 ?_
 repeat' (first|refine Z1 ?_|(refine Z8 ?_;intro κ hκ)|(refine Z4 ?_;clear hκ κ)|(refine Z2 ?_ ?_<;>intro h ai<;>try exact Xp)|(refine Z6 ?_;intro idn zn ak am af aa ae ab)|(refine Z5 ?_;refine Xi (a4 _) ?_;rintro _ _ ⟨⟨ido,rfl⟩,az⟩;(have aj:=az.obj;have ao:=az.nobj;simp only[Aa]at ao))|refine Z3 ?_|exact⟨⟩|(apply hκ.out;clear hκ κ))
 rename_i z1;have ar:z1.obj z.nobj=[sc (.bool false),ic r.head.p,sl ih r.head.ts.length (Ac r.head.ts),sl id r.body.length b]:=by
  rw[aj _ Ad6,Ae Ad6,Am]
 have ap:z1.obj (z.nobj+1)=[sc (.bool false),ic 0,nilS,nilS]:=by
  rw[aj _ Ad6,Bp (by rw[Aa];omega) (by rw[Aa];omega)]
 have av:Keep z z1:=Xs;clear aj az;refine Br (Q:=fun e s z'=>e= .normal/\∃o i2:Nat,s 1=ptr z.nobj 0/\s 2=ptr (z.nobj+1) 0/\s 3=sl ido lo.length (Ar lo)/\s 4=ptr o 0/\z.nobj+1<o/\o<z'.nobj/\z'.obj z.nobj=[sc (.bool false),ic r.head.p,sl ih r.head.ts.length (Ac r.head.ts),sl id r.body.length b]/\z'.obj (z.nobj+1)=[sc (.bool false),ic 0,nilS,nilS]/\z'.obj o=[sc (.bool false),ic r.head.p,sl i2 r.head.ts.length (Ac (r.head.ts.map (Ir lo))),nilS]/\Keep z z') ?_ ?_
 ·refine A4 Ak (fun _=>True) [8] [0,1,2,3,4] 4 #[true,true,true,true,true,false,false,false,false] Ad5 (fun _ _ _ h=>by cases h.1) ?_;intro κ hκ;refine Z3 ?_;refine hκ.out _ ?_;clear hκ κ;have a7:=fun z=>a5 ido z;refine Dy (rs:=[5,7]) Ad5 (by simp) ?_;intro i hi;simp only[Ace,Acx,Adz]at hi;rcases hi with rfl|rfl
  ·refine Aq ?_;intro κ hκ;refine Z3 ?_;refine ACalls.mono (a7 _) ?_;rintro _ z2 ⟨⟨i2,rfl⟩,ad⟩;have ac:=ad.obj;have an:=ad.nobj;refine Z3 ?_;refine hκ.out _ _ ⟨Ao ad,?_⟩;clear hκ κ;refine Dy (rs:=[6,7]) Ad5 (by simp) ?_;intro i hi;simp only[Ace,Acx,Adz]at hi;rcases hi with rfl|rfl
   ·refine Aq ?_;intro κ hκ;refine Z3 ?_;refine hκ.out _ _ ⟨Ao ad,?_⟩;clear hκ κ;refine Al (i:=7) Ad5 ?_;refine Aq ?_;intro κ hκ;refine Z3 ?_;refine hκ.out _ _ ⟨Ao (ad.new _),?_⟩;clear hκ κ;refine Al (i:=8) Ad5 ?_;refine Aq ?_;intro κ hκ;refine Z3 ?_;refine hκ.out _ _ ⟨Bo rfl,?_⟩;clear hκ κ;refine A7 Ad5 ⟨rfl,z2.nobj,i2,Ad4,Ad4,Ad4,Ad4,Ad2,Ad7,?_,?_,Aj,?_⟩
    ·rw[Ai Ad2,Ae Ad2,ac _ Ad2,ar]
    ·rw[Ai Ad2,Ae Ad2,ac _ Ad2,ap]
    ·exact ((av.trans ad).new _).put Ad2 _
   ·refine Aq ?_;intro κ hκ;refine Z3 ?_;refine hκ.out _ _ ⟨Ao (ad.new _),?_⟩;clear hκ κ;refine Al (i:=6) Ad5 ?_;refine Aq ?_;intro κ hκ;refine Z3 ?_;refine hκ.out _ _ ⟨Ao (ad.new _),?_⟩;clear hκ κ;refine Al (i:=8) Ad5 ?_;refine Aq ?_;intro κ hκ;refine Z3 ?_;refine hκ.out _ _ ⟨Bo rfl,?_⟩;clear hκ κ;refine A7 Ad5 ⟨rfl,z2.nobj,i2,Ad4,Ad4,Ad4,Ad4,Ad2,Ad7,?_,?_,Aj,?_⟩
    ·rw[Ai Ad2,Ae Ad2,ac _ Ad2,ar]
    ·rw[Ai Ad2,Ae Ad2,ac _ Ad2,ap]
    ·exact ((av.trans ad).new _).put Ad2 _
  ·refine Aq ?_;intro κ hκ;refine Z3 ?_;refine hκ.out _ _ ⟨Ao ((Keep.refl _).new _),?_⟩;clear hκ κ;refine Al (i:=5) Ad5 ?_;refine Aq ?_;intro κ hκ;refine Z3 ?_;refine ACalls.mono (a7 _) ?_;rintro _ z2 ⟨⟨i2,rfl⟩,ad⟩;have ac:=ad.obj;have an:=ad.nobj;simp only[Aa]at an;refine Z3 ?_;refine hκ.out _ _ ⟨Ao (((Keep.refl _).new _).trans ad),?_⟩;clear hκ κ;refine Al (i:=6) Ad5 ?_;refine Aq ?_;intro κ hκ;refine Z3 ?_;refine hκ.out _ _ ⟨Ao (((Keep.refl _).new _).trans ad),?_⟩;clear hκ κ;refine Al (i:=8) Ad5 ?_;refine Aq ?_;intro κ hκ;refine Z3 ?_;refine hκ.out _ _ ⟨Bo rfl,?_⟩;clear hκ κ;refine A7 Ad5 ⟨rfl,z1.nobj,i2,Ad4,Ad4,Ad4,Ad4,Ad2,Ad7,?_,?_,Aj,?_⟩
   ·rw[Ai Ad2,ac _ (by rw[Aa];omega),Ae Ad2,ar]
   ·rw[Ai Ad2,ac _ (by rw[Aa];omega),Ae Ad2,ap]
   ·exact ((av.new _).trans ad).put Ad2 _
 ·rintro e s z2 ⟨rfl,o,i2,h1,h2,h3,h4,bf,ay,a8,aw,ob,hK⟩;have a0:=hK.nobj;clear av ar ap ao a5
  repeat' (first|refine Z1 ?_|(refine Z8 ?_;intro κ hκ)|(refine Z4 ?_;clear hκ κ)|(refine Z2 ?_ ?_<;>intro h ai<;>try exact Xp)|(refine Z6 ?_;intro idn zn ak am af aa ae ab)|refine Z3 ?_|exact⟨⟩|(apply hκ.out;clear hκ κ))
  refine Ad (fun m s z'=>∃(k i3:Nat) (xs:List AV),m=r.body.length-k/\k<=r.body.length/\s 2=ptr (z.nobj+1) 0/\s 3=sl ido lo.length (Ar lo)/\s 4=ptr o 0/\s 18=sl id r.body.length b/\s 19=ic r.body.length/\s 20=ic k/\Keep z z'/\o<z'.nobj/\z'.obj (z.nobj+1)=[sc (.bool false),ic 0,nilS,nilS]/\z'.obj o=[sc (.bool false),ic r.head.p,sl i2 r.head.ts.length (Ac (r.head.ts.map (Ir lo))),sl i3 k xs]/\Own z z' i3 k/\xs.length=k*3/\Ad8 (EL Od ((r.body.take k).map (xM lo)) xs)) r.body.length
   ⟨0,1,[],Ad2,Ad2,by simp[upd,h2],by simp[upd,h3],by simp[upd,h4],Ad4,Ad4,rfl,hK,ay,aw,ob,Own.nil _ _,by simp,rfl⟩ ?_
  clear h1 h2 h3 h4 a8 aw ob hK ay a0;rintro m s z' ⟨k,i3,xs,rfl,hk,h2,h3,h4,bn,bm,bi,hK,ay,aw,ob,hO,ba,hX⟩;have a0:=hK.nobj;by_cases a3:k<r.body.length
  ·have ah:=List.getElem?_eq_getElem a3;obtain⟨ia,rr,hd⟩:=Gf hb ah;have hR:=fun z=>a6 ido r.body[k] ia (Acz a3) z;generalize r.body[k]=a at hd ah hR;have HX:Ad8 (∀i4,EL Od ((r.body.take (k+1)).map (xM lo)) (xs++[sc (.bool a.neg),ic a.a.p,sl i4 a.a.ts.length (Ac (a.a.ts.map (Ir lo)))])):=fun i4=>by
    rw[Abq,ah,Ac2,Abt];exact EL.append hX.out (EL.single ⟨i4,by simp[xM,fP]⟩)
   clear ah hX a6
   repeat' (first|refine Z1 ?_|(refine Z8 ?_;intro κ hκ)|(refine Z4 ?_;clear hκ κ)|(refine Z2 ?_ ?_<;>intro h ai<;>try exact Xp)|(refine Z6 ?_;intro idn zn ak am af aa ae ab)|(refine Z5 ?_;refine Xi (hR _) ?_;rintro _ _ ⟨⟨i4,rfl⟩,au⟩;(have a9:=au.obj;have ax:=au.nobj;simp only[Aa,Ab]at ax))|refine Z3 ?_|exact⟨⟩|(apply hκ.out;clear hκ κ))
   rename_i z4;have be:=((hK.new [sc (.bool false),ic 0,nilS]).put hK.nobj _).trans au;have bd:=Own.keep (Own.put (Own.new hO [sc (.bool false),ic 0,nilS]) z'.nobj [sc (.bool a.neg),ic a.a.p,sl ia a.a.ts.length (Ac a.a.ts)]) au;refine Bj (by first|exact D5) ((be.new _).put Ad2 _) (Own.put (Own.new bd _) _ _) (by decide) (by rfl) ba (by rfl) (by rfl) (by decide) Ad2 Ad2 ?_;intro idn zn ak am af aa ae ab;simp only[Ab,Aa]at aa;refine Z3 ?_
   repeat' (first|refine Z1 ?_|(refine Z8 ?_;intro κ hκ)|(refine Z4 ?_;clear hκ κ)|(refine Z2 ?_ ?_<;>intro h ai<;>try exact Xp)|(refine Z6 ?_;intro idn zn ak am af aa ae ab)|refine Z3 ?_|exact⟨⟩|(apply hκ.out;clear hκ κ))
   refine⟨r.body.length-(k+1),Ad2,k+1,idn,xs++[sc (.bool a.neg),ic a.a.p,sl i4 a.a.ts.length (Ac (a.a.ts.map (Ir lo)))],?_⟩
   ((repeat' with_reducible refine And.intro ?_ ?_)<;>first|exact Xq|exact (am.put Ad2 _)|exact (Own.put ak _ _)|exact (HX.out i4)|exact Xs)
  ·have bc:k=r.body.length:=Ad2;subst bc;rw[Abn]at hX
   repeat' (first|refine Z1 ?_|(refine Z8 ?_;intro κ hκ)|(refine Z4 ?_;clear hκ κ)|(refine Z2 ?_ ?_<;>intro h ai<;>try exact Xp)|(refine Z6 ?_;intro idn zn ak am af aa ae ab)|refine Z3 ?_|exact⟨⟩|(apply hκ.out;clear hκ κ))
   exact⟨_,rfl,⟨_,rfl,i2,i3,xs,by simp[fP],hX.out⟩,hK.put Ad2 _⟩
theorem gK (r:D2)(o:Bool)(c:List AV)(n:Nat)(L:List Lit)(i2:Nat)(b2:List AV)(hc:Pj o r c)(bh:r.body.length<=100)(hL:EL Od L b2)(hl:L.length<=100)(z:St):
  ACalls Tryz.prog 211 [ag c,ic n,sl i2 L.length b2] z fun x z'=>(∃c',x=ag c'/\Pj false ⟨r.head,Ct n L r.body⟩ c')/\Keep z z':=by
 obtain⟨ih,id,b,rfl,hb⟩:=hc;have bf:=EL.length Fv hb;have bg:=EL.length Fv hL;refine Z9 47 [.cell 6 125] Tryz.func211 ?_
 repeat' (first|refine Z1 ?_|(refine Z8 ?_;intro κ hκ)|(refine Z4 ?_;clear hκ κ)|(refine Z2 ?_ ?_<;>intro h ae<;>try exact Xp)|(refine Z6 ?_;intro idn zn ah ai ad aa ac ab)|refine Z3 ?_|exact⟨⟩|(apply hκ.out;clear hκ κ))
 refine Ad (fun m s z'=>∃(k i3:Nat) (R:List Lit) (xs:List AV),m=r.body.length-k/\k<=r.body.length/\s 1=ic n/\s 2=sl i2 L.length b2/\s 6=ptr (z.nobj+1) 0/\s 7=ptr (z.nobj+2) 0/\s 16=sl id r.body.length b/\s 17=ic r.body.length/\s 18=ic k/\Keep z z'/\z.nobj+2<z'.nobj/\z'.obj (z.nobj+1)=[sc (.bool false),ic 0,nilS,nilS]/\z'.obj (z.nobj+2)=[sc (.bool false),ic r.head.p,sl ih r.head.ts.length (Ac r.head.ts),sl i3 R.length xs]/\Own z z' i3 R.length/\xs.length=R.length*3/\R.length<=k*(L.length+1)/\Ad8 (R=Ct n L (r.body.take k)/\EL Od R xs)) r.body.length
  ⟨0,1,[],[],Ad2,Ad2,by simp[upd,initS],by simp[upd,initS],Ad4,Ad4,Ad4,Ad4,rfl,?_,?_,?_,?_,Own.nil _ _,by simp,by simp,⟨by simp[Ct],rfl⟩⟩ ?_
 ·exact ((((Keep.refl z).new _).new _).new _).put Ad2 _
 ·simp only[Ab,Aa];omega
 ·rw[Ai Ad2,Ae Ad6,Bp (by rw[Aa];omega) (by rw[Aa];omega)]
 ·rw[show z.nobj+2=z.nobj+1+1 by omega,Aj];rfl
 rintro m s z' ⟨k,i3,R,xs,rfl,hk,h1,h2,h6,h7,a3,a0,az,hK,ay,au,ao,hO,ap,bd,hA⟩;have ax:=hK.nobj;by_cases a9:k<r.body.length
 ·have af:=List.getElem?_eq_getElem a9;obtain⟨ia,rr,hd⟩:=Gf hb af;generalize r.body[k]=a at hd af;have bi:R.length<=10100:=Abc bd (Abc (Nat.mul_le_mul (by omega:k<=100) (by omega:L.length+1<=101)) (by decide));have ak:=Ni (n:=n) (o:=L) r.body (k+1);have aj:=R5 (n:=n) (o:=L) af;rw[<-hA.out.1]at aj;by_cases am:k=n
  ·rw[if_pos am]at aj;have a8:((k:Int) !=(n:Int))=false:=by simp[am]
   have a4:Ad8 _:=aj;have a5:Ad8 (EL Od R xs):=hA.out.2;rw[aj,Ab2]at ak;clear aj af hA am
   repeat' (first|refine Z1 ?_|(refine Z8 ?_;intro κ hκ)|(refine Z4 ?_;clear hκ κ)|(refine Z2 ?_ ?_<;>intro h ae<;>try exact Xp)|(refine Z6 ?_;intro idn zn ah ai ad aa ac ab)|refine Z3 ?_|exact⟨⟩|(apply hκ.out;clear hκ κ))
   refine Ad (fun m s z2=>∃(j i3:Nat) (ys:List AV),m=L.length-j/\j<=L.length/\s 1=ic n/\s 2=sl i2 L.length b2/\s 6=ptr (z.nobj+1) 0/\s 7=ptr (z.nobj+2) 0/\s 16=sl id r.body.length b/\s 17=ic r.body.length/\s 18=ic k/\s 32=sl i2 L.length b2/\s 33=ic L.length/\s 34=ic j/\Keep z z2/\z.nobj+2<z2.nobj/\z2.obj (z.nobj+1)=[sc (.bool false),ic 0,nilS,nilS]/\z2.obj (z.nobj+2)=[sc (.bool false),ic r.head.p,sl ih r.head.ts.length (Ac r.head.ts),sl i3 (R.length+j) ys]/\Own z z2 i3 (R.length+j)/\ys.length=(R.length+j)*3/\Ad8 (EL Od (R++L.take j) ys)) L.length
    ⟨0,i3,xs,Ad2,Ad2,Ad3,Ad3,Ad3,Ad3,Ad3,Ad3,Ad3,Ad3,Ad3,Ad4,Xs,Ad7,by rw[Ai Ad2,Ae Ad2,au],by rw[Ai Ad2,Ae Ad2,ao];rfl,(by simpa using Own.put (Own.new hO _) _ _),by simpa using ap,by simpa using a5⟩ ?_
   clear h1 h2 h6 h7 a3 a0 az hK hO ax ap a5 au ao ay;rintro m s z2 ⟨j,i3,ys,rfl,hj,h1,h2,h6,h7,a3,a0,az,bo,bn,bm,hK,ay,au,ao,hO,av,an⟩;have ax:=hK.nobj;by_cases aw:j<L.length
   ·have ar:=List.getElem?_eq_getElem aw;obtain⟨ja,rj,bc⟩:=Gf hL ar;generalize L[j]=y at bc ar;have be:Ad8 (EL Od (R++L.take (j+1)) (ys++[sc (.bool y.neg),ic y.a.p,sl ja y.a.ts.length (Ac y.a.ts)])):=by
     rw[Ad8,Abq,ar,Ac2,<-Ab4];exact EL.append an.out (EL.single ⟨ja,rfl⟩)
    clear ar an
    repeat' (first|refine Z1 ?_|(refine Z8 ?_;intro κ hκ)|(refine Z4 ?_;clear hκ κ)|(refine Z2 ?_ ?_<;>intro h ae<;>try exact Xp)|(refine Z6 ?_;intro idn zn ah ai ad aa ac ab)|refine Z3 ?_|exact⟨⟩|(apply hκ.out;clear hκ κ))
    refine Bj (by first|exact D5) ((hK.new _).put hK.nobj _) (Own.put (Own.new hO _) _ _) (by decide) (by rfl) (av) (by rfl) (by rfl) (by decide) Ad2 Ad2 ?_;intro idn zn ah ai ad aa ac ab;simp only[Ab,Aa]at aa;refine Z3 ?_
    repeat' (first|refine Z1 ?_|(refine Z8 ?_;intro κ hκ)|(refine Z4 ?_;clear hκ κ)|(refine Z2 ?_ ?_<;>intro h ae<;>try exact Xp)|(refine Z6 ?_;intro idn zn ah ai ad aa ac ab)|refine Z3 ?_|exact⟨⟩|(apply hκ.out;clear hκ κ))
    refine⟨L.length-(j+1),Ad2,j+1,idn,ys++[sc (.bool y.neg),ic y.a.p,sl ja y.a.ts.length (Ac y.a.ts)],?_⟩
    ((repeat' with_reducible refine And.intro ?_ ?_)<;>first|exact Xq|exact (be)|exact (ai.put Ad2 _)|exact (Own.put ah _ _)|exact ((by simp[av];omega))|exact Xs)
   ·have bb:j=L.length:=Ad2;subst bb;rw[Abn]at an;have HA:Ad8 (R++L=Ct n L (r.body.take (k+1))/\EL Od (R++L) ys):=⟨a4.out.symm,an.out⟩;clear an a4;have a6:ys.length=(R++L).length*3:=by rw[av,Ab2]
    have bl:Own z z2 i3 (R++L).length:=by rw[Ab2];exact hO
    rw[<-Ab2]at ao;have a7:(R++L).length<=(k+1)*(L.length+1):=by rw[Ab2];exact ak
    repeat' (first|refine Z1 ?_|(refine Z8 ?_;intro κ hκ)|(refine Z4 ?_;clear hκ κ)|(refine Z2 ?_ ?_<;>intro h ae<;>try exact Xp)|(refine Z6 ?_;intro idn zn ah ai ad aa ac ab)|refine Z3 ?_|exact⟨⟩|(apply hκ.out;clear hκ κ))
    refine⟨r.body.length-(k+1),Ad2,k+1,i3,R++L,ys,?_⟩
    ((repeat' with_reducible refine And.intro ?_ ?_)<;>first|exact Xq|exact (HA)|exact Xs)
  ·rw[if_neg am]at aj;have a8:((k:Int) !=(n:Int))=true:=by simpa using (by omega:¬(k:Int)=n)
   have HA:Ad8 (R++[a]=Ct n L (r.body.take (k+1))/\EL Od (R++[a]) (xs++[sc (.bool a.neg),ic a.a.p,sl ia a.a.ts.length (Ac a.a.ts)])):=⟨aj.symm,EL.append hA.out.2 (EL.single ⟨ia,rfl⟩)⟩;rw[aj]at ak;clear aj af hA am
   repeat' (first|refine Z1 ?_|(refine Z8 ?_;intro κ hκ)|(refine Z4 ?_;clear hκ κ)|(refine Z2 ?_ ?_<;>intro h ae<;>try exact Xp)|(refine Z6 ?_;intro idn zn ah ai ad aa ac ab)|refine Z3 ?_|exact⟨⟩|(apply hκ.out;clear hκ κ))
   refine Bj (by first|exact D5) ((hK.new _).put hK.nobj _) (Own.put (Own.new hO _) _ _) (by decide) (by rfl) (ap) (by rfl) (by rfl) (by decide) Ad2 Ad2 ?_;intro idn zn ah ai ad aa ac ab;simp only[Ab,Aa]at aa;refine Z3 ?_
   repeat' (first|refine Z1 ?_|(refine Z8 ?_;intro κ hκ)|(refine Z4 ?_;clear hκ κ)|(refine Z2 ?_ ?_<;>intro h ae<;>try exact Xp)|(refine Z6 ?_;intro idn zn ah ai ad aa ac ab)|refine Z3 ?_|exact⟨⟩|(apply hκ.out;clear hκ κ))
   refine⟨r.body.length-(k+1),Ad2,k+1,idn,R++[a],xs++[sc (.bool a.neg),ic a.a.p,sl ia a.a.ts.length (Ac a.a.ts)],?_⟩
   ((repeat' with_reducible refine And.intro ?_ ?_)<;>first|exact Xq|exact (HA)|exact (ai.put Ad2 _)|exact ((by simpa using Own.put ah _ _))|exact ((by simp[ap];omega))|exact ((by simpa using Aj))|exact Xs)
 ·have ba:k=r.body.length:=Ad2;subst ba;obtain⟨e1,e2⟩:=hA.out;rw[Abn]at e1;have HE:Ad8 (∀c,c=[sc (.bool false),ic r.head.p,sl ih r.head.ts.length (Ac r.head.ts),sl i3 R.length xs]->Pj false ⟨r.head,Ct n L r.body⟩ c):=fun c hc=>by
   rw[<-e1];exact⟨ih,i3,xs,hc,e2⟩
  clear hA e1 e2
  repeat' (first|refine Z1 ?_|(refine Z8 ?_;intro κ hκ)|(refine Z4 ?_;clear hκ κ)|(refine Z2 ?_ ?_<;>intro h ae<;>try exact Xp)|(refine Z6 ?_;intro idn zn ah ai ad aa ac ab)|refine Z3 ?_|exact⟨⟩|(apply hκ.out;clear hκ κ))
  exact⟨_,rfl,⟨_,rfl,HE.out _ rfl⟩,hK.put Ad2 _⟩
def OT (t:Tm):Prop:=∃w,UT w/\Ap w=t
theorem OT.dec {t:Tm}(h:OT t):UT (Pd t)/\Ap (Pd t)=t:=by
 obtain⟨w,hu,rfl⟩:=h;rw[hu.dec.1];exact⟨hu,rfl⟩
theorem eS {k:Nat}(hk:k<26):UT [Cl k]/\Ap [Cl k]=(true,(k:Int)):=by
 have h1:=C5 (k:=(k:Int)) Ad2 Ad2;have hv:Af [Cl k]=true:=h1;refine⟨⟨.inl hv,⟨by simp,fun b hb=>?_⟩,by simp,fun _=>⟨k,hk,rfl⟩⟩,?_⟩
 ·simp at hb;subst hb;exact .inl h1
 ·rw[Ef h1,Dk Ad2 Ad2];congr 1;omega
theorem yV {k:Nat}(hk:k<26):OT (true,(k:Int)):=⟨_,(eS hk).1,(eS hk).2⟩
def xU (t:Tm):Prop:=zQ t/\(t.1=false->OT t)
theorem OT.w {t:Tm}(h:OT t):xU t:=by
 refine⟨fun hv=>?_,fun _=>h⟩;obtain⟨w,hu,rfl⟩:=h;rw[Cy]at hv;obtain⟨k,hk,-,e⟩:=hu.enc hv;exact⟨k,Ad2,by rw[e]⟩
structure PtW (P:List Tm):Prop where
 len:P.length=52
 w:∀t∈P,xU t
theorem PtW.of {P:List Tm}(h:PtW P){t:Tm}(ht:xU t):xU (P8 P t):=by
 unfold P8;split
 ·rename_i hv;cases e:P[t.2.toNat]? with
  |none=>exact ht
  |some u=>exact h.w u (Abh e)
 ·exact ht
theorem PtW.wi {P:List Tm}(h:PtW P){v t:Tm}(ht:xU t):PtW (V5 P v t):=
 ⟨by rw[X3];exact h.len,fun u hu=>by
  obtain⟨x,hx,rfl⟩:=Acm.1 hu;split
  ·exact ht
  ·exact h.w x hx⟩
theorem ot_zero:OT (false,0):=⟨[48],⟨.inr ⟨rfl,(by show Lib.itoa 0=[48];simp[Lib.itoa,Lib.decDigits]),by decide,by decide⟩,⟨by simp,by decide⟩,by simp,fun h=>by cases h⟩,rfl⟩
theorem tG:PtW aprt:=⟨dY,fun t ht=>by
 obtain⟨i,hi,rfl⟩:=Acm.1 ht;split
 ·exact⟨fun _=>⟨26+i,Ad2,by simp⟩,fun h=>by cases h⟩
 ·exact ot_zero.w⟩
theorem qP:PtW pidn:=⟨bM,fun t ht=>by
 obtain⟨i,hi,rfl⟩:=Acm.1 ht
 exact⟨fun _=>⟨i,by simpa using hi,rfl⟩,fun h=>by cases h⟩⟩
theorem gC:∀{ts us P P':List Tm},PtW P->(∀t∈ts,xU t)->(∀t∈us,xU t)->Ep P ts us=some P'->PtW P'
 |[],_,P,P',h,_,_,e=>by cases e;exact h
 |_::_,[],_,_,_,_,_,e=>by cases e
 |t::ts,u::us,P,P',h,h1,h2,e=>by
  unfold Ep at e;obtain⟨Q,hQ,e⟩:=Option.bind_eq_some_iff.1 e;refine gC ?_ (fun x hx=>h1 x (by simp[hx])) (fun x hx=>h2 x (by simp[hx])) e;unfold cI at hQ;have ht:=h.of (h1 t (by simp));have hu:=h.of (h2 u (by simp));split at hQ
  ·cases hQ;exact h
  ·split at hQ
   ·cases hQ;exact h.wi ht
   ·split at hQ
    ·cases hQ;exact h.wi hu
    ·cases hQ
def xV (q:Tx):Prop:=Gm q/\q.length<=1000
structure AtW (N:List Tx)(ar:Tx->Nat)(a:C3):Prop where
 nm:∃q∈N,a.p=(N.idxOf q:Nat)/\xV q/\a.ts.length=ar q
 pos:0<a.ts.length
 le3:a.ts.length<=3
 w:∀t∈a.ts,xU t
structure RuW (N:List Tx)(ar:Tx->Nat)(r:D2):Prop where
 hd:AtW N ar r.head
 bd:∀l∈r.body,AtW N ar l.a
 bl:r.body.length<=100
theorem RuW.r52 {N:List Tx}{ar:Tx->Nat}{r:D2}(h:RuW N ar r):zS r:=⟨h.hd.le3,fun l hl=>(h.bd l hl).le3,h.bl,fun t ht=>(h.hd.w t ht).1,fun l hl t ht=>((h.bd l hl).w t ht).1⟩
theorem AtW.pin {N:List Tx}{ar:Tx->Nat}{a:C3}(h:AtW N ar a){P:List Tm}(hP:PtW P):AtW N ar (Un P a):=by
 obtain⟨q,h1,h2,h3,h4⟩:=h.nm
 exact⟨⟨q,h1,h2,h3,by simp[Un,h4]⟩,by simpa[Un]using h.pos,by simpa[Un]using h.le3,fun t ht=>by
  obtain⟨u,hu,rfl⟩:=Acm.1 ht
  exact hP.of (h.w u hu)⟩
theorem RuW.pin {N:List Tx}{ar:Tx->Nat}{r:D2}(h:RuW N ar r){P:List Tm}(hP:PtW P):RuW N ar (F2 P r):=
 ⟨h.hd.pin hP,fun l hl=>by
  obtain⟨k,hk,rfl⟩:=Acm.1 hl
  exact (h.bd k hk).pin hP,by simpa[F2]using h.bl⟩
theorem RuW.join {N:List Tx}{ar:Tx->Nat}{r s:D2}(h:RuW N ar r)(g:RuW N ar s)(n:Nat)(h5:r.body.length<=5)(g5:s.body.length<=5):RuW N ar ⟨r.head,Ct n s.body r.body⟩:=
 ⟨h.hd,fun l hl=>by
  rcases E4 hl with hl|hl
  ·exact h.bd l hl
  ·exact g.bd l hl,by
  have h1:=Ni (n:=n) (o:=s.body) r.body r.body.length;rw[Abn]at h1;have h2:r.body.length*(s.body.length+1)<=5*6:=Nat.mul_le_mul h5 Ad2;show (Ct n s.body r.body).length<=100
  omega⟩
theorem iH {N:List Tx}{ar:Tx->Nat}{x:RItem}(hr:RuI N ar x)(hm:xW N x)(ho:x.out=false)(hw:Bv x):RuW N ar (Bz N x):=by
 obtain⟨w1,w2,w3,w4⟩:=hw.2.2 ho;have key:∀a∈Ag x,AtI N ar a->C9 a->AtW N ar (Ez N a):=fun a ha hA hW=>
  ⟨⟨a.pred,hA.mem,rfl,⟨hW.1,(hm.at_ a ha).2.1⟩,by simp[Ez,hA.len]⟩,by simpa[Ez,List.length_pos_iff]using hW.2.1,by simpa[Ez]using hA.le3,fun t ht=>by
   obtain⟨w,hw,rfl⟩:=Acm.1 ht
   exact OT.w ⟨w,(hm.at_ a ha).2.2 w hw,rfl⟩⟩
 refine⟨key _ (Ay (.inl ⟨ho,rfl⟩)) hr.head w1,fun l hl=>?_,by simp[Bz];omega⟩;obtain⟨a,ha,rfl⟩:=Acm.1 hl;exact key a (Ay (.inr ha)) (hr.body a ha) (w4 a ha)
def eU (N:List Tx)(x:RItem)(k:Nat)(y:RItem):Option D2:=
 (x.body[k]?).bind fun a=>(Ep pidn (a.terms.map Ap) (F2 aprt (Bz N y)).head.ts).map fun P=>Ec (F2 P ⟨(Bz N x).head,Ct k (F2 aprt (Bz N y)).body (Bz N x).body⟩)
def O3 (q:Tx)(y:RItem):Bool:=!y.out&&decide (y.head.pred=q)
def Jy (N:List Tx)(l:List RItem)(x:RItem)(k:Nat)(q:Tx):List D2:=(l.filter (O3 q)).filterMap (eU N x k)
structure AtO (N:List Tx)(ar:Tx->Nat)(a:C3):Prop where
 nm:∃q∈N,a.p=(N.idxOf q:Nat)/\xV q/\a.ts.length=ar q
 pos:0<a.ts.length
 le3:a.ts.length<=3
 ot:∀t∈a.ts,OT t
structure RuO (N:List Tx)(ar:Tx->Nat)(r:D2):Prop where
 hd:AtO N ar r.head
 bd:∀l∈r.body,AtO N ar l.a
def Lr (N:List Tx)(b:Bool)(a:C3):RAtom:=⟨b,(N[a.p.toNat]?).getD [],a.ts.map Pd⟩
def C2 (N:List Tx)(r:D2):RItem:=⟨false,Lr N false r.head,r.body.map fun l=>Lr N l.neg l.a⟩
theorem AtO.at {N:List Tx}{ar:Tx->Nat}{a:C3}(h:AtO N ar a)(b:Bool):(Lr N b a).pred∈N/\xV (Lr N b a).pred/\(Lr N b a).terms.length=ar (Lr N b a).pred/\Ez N (Lr N b a)=a/\∀t∈(Lr N b a).terms,UT t:=by
 obtain⟨q,h1,h2,h3,h4⟩:=h.nm;have e:(Lr N b a).pred=q:=by
  show (N[a.p.toNat]?).getD []=q;rw[h2,Adk,List.getElem?_eq_getElem (Ac1 h1),Ac0];rfl
 rw[e];refine⟨h1,h3,by simp[Lr,h4],?_,fun t ht=>?_⟩
 ·unfold Ez;rw[e,<-h2];show (⟨a.p,(a.ts.map Pd).map Ap⟩:C3)=a;have:(a.ts.map Pd).map Ap=a.ts:=by
   rw[Abu]
   conv=>rhs;rw[<-Acn a.ts]
   exact Aco fun t ht=>(h.ot t ht).dec.2
  rw[this]
 ·obtain⟨u,hu,rfl⟩:=Acm.1 ht;exact (h.ot u hu).dec.1
theorem RuO.rul {N:List Tx}{ar:Tx->Nat}{r:D2}(h:RuO N ar r):Bz N (C2 N r)=r:=by
 obtain⟨hd,bd⟩:=r;unfold Bz C2;simp only[(h.hd.at false).2.2.2.1,Abu];congr 1
 conv=>rhs;rw[<-Acn bd]
 refine Aco fun l hl=>?_;show (⟨(Lr N l.neg l.a).nt,Ez N (Lr N l.neg l.a)⟩:Lit)=l;rw[((h.bd l hl).at l.neg).2.2.2.1];rfl
theorem eI {N:List Tx}:∀{l:List RAtom} {b:List AV},(∀a∈l,a.pred∈N)->EL Od (l.map (Fh N)) b->EL (PL N) l b
 |[],_,_,h=>h
 |a::l,_,g,⟨c,d,⟨id,e⟩,h2,e2⟩=>⟨c,d,⟨g a (by simp),id,by rw[e];simp[Fh,Ez,Hr]⟩,eI (fun b hb=>g b (by simp[hb])) h2,e2⟩
theorem tQ {N:List Tx}{x:RItem}{c:List AV}(h:PI N x c):Pj x.out (Bz N x) c:=by
 obtain⟨hm,ih,id,b,hb,rfl⟩:=h;exact⟨ih,id,b,by simp[Bz,Ez,Hr],iN hb⟩
theorem eG {N:List Tx}{x:RItem}{c:List AV}(h1:x.head.pred∈N)(h2:∀a∈x.body,a.pred∈N)(h:Pj x.out (Bz N x) c):PI N x c:=by
 obtain⟨ih,id,b,rfl,hb⟩:=h;exact⟨h1,ih,id,b,eI h2 hb,by simp[Bz,Ez,Hr]⟩
theorem RuO.pi {N:List Tx}{ar:Tx->Nat}{r:D2}(h:RuO N ar r){c:List AV}(hc:Pj false r c):PI N (C2 N r) c:=by
 refine eG (h.hd.at false).1 (fun a ha=>?_) (by rw[h.rul];exact hc);obtain⟨l,hl,rfl⟩:=Acm.1 ha;exact ((h.bd l hl).at l.neg).1
theorem RuO.atoms {N:List Tx}{ar:Tx->Nat}{r:D2}(h:RuO N ar r){a:RAtom}(ha:a∈Ag (C2 N r)):∃m b,a=Lr N b m/\AtO N ar m:=by
 have aa:a=Lr N false r.head\/a∈r.body.map fun l=>Lr N l.neg l.a:=by simpa[Ag,C2]using ha
 rcases aa with rfl|aa
 ·exact⟨_,_,rfl,h.hd⟩
 ·obtain⟨l,hl,rfl⟩:=Acm.1 aa;exact⟨_,_,rfl,h.bd l hl⟩
theorem RuO.msr {N:List Tx}{ar:Tx->Nat}{r:D2}(h:RuO N ar r)(hb:r.body.length<=1000):xW N (C2 N r):=
 ⟨(fun e=>by cases e),by simpa[C2]using hb,(h.hd.at false).1,(h.hd.at false).2.1.2,fun a ha=>by
  obtain⟨m,b,rfl,hm⟩:=h.atoms ha
  exact⟨by simpa[Lr]using hm.le3,(hm.at b).2.1.2,(hm.at b).2.2.2.2⟩⟩
theorem AtW.ren {N:List Tx}{ar:Tx->Nat}{a:C3}(h:AtW N ar a){vs:List Int}(hv:∀v,(true,v)∈a.ts->v∈vs)(hl:vs.length<=26):AtO N ar (fP vs a):=by
 obtain⟨q,h1,h2,h3,h4⟩:=h.nm;refine⟨⟨q,h1,h2,h3,by simp[fP,h4]⟩,by simpa[fP]using h.pos,by simpa[fP]using h.le3,fun t ht=>?_⟩;obtain⟨⟨b,v⟩,hu,rfl⟩:=Acm.1 ht;cases b with
 |true=>
  have hm:=hv v hu;have hi:=Ac1 hm;have e:Ir vs (true,v)=(true,((vs.idxOf v:Nat):Int)):=by simp[Ir,mK,hm]
  rw[e];exact yV Ad2
 |false=>exact (h.w _ hu).2 rfl
theorem RuW.ord {N:List Tx}{ar:Tx->Nat}{r:D2}(h:RuW N ar r)(h5:r.body.length<=5):RuO N ar (Ec r):=by
 have hl:(Ev r).length<=26:=by
  have h1:=Eh (l:=Gk r) fun a ha=>by
   rcases Ace.1 ha with rfl|ha
   ·exact h.hd.le3
   ·obtain⟨l,hl,rfl⟩:=Acm.1 ha;exact (h.bd l hl).le3
  have h3:(Gk r).length=r.body.length+1:=by simp[Gk]
  unfold Ev;omega
 refine⟨h.hd.ren (fun v hv=>(Cv _ _).2 ⟨r.head,by simp[Gk],hv⟩) hl,fun l hm=>?_⟩;obtain⟨k,hk,rfl⟩:=Acm.1 hm;exact (h.bd k hk).ren (fun v hv=>(Cv _ _).2 ⟨k.a,by simp only[Gk,Ace,Acm];exact .inr ⟨k,hk,rfl⟩,hv⟩) hl
end Go.Proofs.YtmoeoppbmhfbpabGreatDoorH
