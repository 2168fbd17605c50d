import Derived.Test.YtmoeoppbmhfbpabGreatDoorHEngF
set_option linter.all false
namespace Go.Proofs.YtmoeoppbmhfbpabGreatDoorH
set_option maxHeartbeats 16000000
open Go.Abs
set_option maxRecDepth 100000
def Ey (v n:Int)(a:C3):C3:=⟨a.p,Bh v n a.ts⟩
def Cu (v n:Int)(q:Qry):Qry:=⟨Ey v n q.head,q.parts.map (Gz v n),q.nots.map (Ey v n)⟩
theorem tT {p:Part}{c:List AV}(h:Ky p c):∃x y z,c=[x,y,z]/\flat x=true/\flat y=true/\flat z=true:=by
 obtain⟨id,idt,rfl⟩:=h;exact⟨_,_,_,rfl,rfl,rfl,rfl⟩
theorem Tb (q:Qry)(c:List AV)(v n:Int)(hc:EQ q c)(hq:Ms q)(b:St):ACalls Tryz.prog 190 [ag c,ic v,ic n] b fun r b'=>(∃c',r=ag c'/\EQ (Cu v n q) c')/\Keep b b':=by
 obtain⟨ih,ip,inn,pc,nc,rfl,hP,hN⟩:=hc;have hpl:=EL.length Dx hP;have b2:=EL.length G4 hN;have hl:=hq.pl;have b3:=hq.nl;have hh:=hq.hd;have bh:q.head.ts.length<=1000:=Ad2;have bo:=fun b=>Lh q.head.p ih q.head.ts v n bh b;refine Z9 53 [.cell 6 191] Tryz.func190 ?_
 repeat' (first|refine Z1 ?_|(refine Z8 ?_;intro κ hκ)|(refine Z4 ?_;clear hκ κ)|(refine Z2 ?_ ?_<;>intro h ah<;>try exact Xp)|(refine Z6 ?_;intro idn bn aj ak ad ab ac aa)|(refine Z5 ?_;refine Xi (bo _) ?_;rintro _ _ ⟨⟨idh,rfl⟩,az⟩;(have a0:=az.nobj;have ao:=az.obj;have br:=(((Keep.refl b).new _).new _).trans az;simp only[Aa]at a0 ao))|refine Z3 ?_|exact⟨⟩|(apply hκ.out;clear hκ κ))
 rename_i b1;have o0:b1.obj b.nobj=[ic q.head.p,sl ih q.head.ts.length (Ac q.head.ts),sl ip q.parts.length pc,sl inn q.nots.length nc]:=by rw[ao _ Ad2,Ae Ad6,Am]
 have o1:b1.obj (b.nobj+1)=[ic 0,nilS,nilS,nilS]:=by rw[ao _ Ad2,Bp Ad6 Ad6]
 clear ao az
 refine Ad (fun m s b'=>∃(i i3:Nat) (xs:List AV),m=q.parts.length-i/\i<=q.parts.length/\s 1=ic v/\s 2=ic n/\s 3=ptr b.nobj 0/\s 6=ptr (b.nobj+1) 0/\s 7=ptr b1.nobj 0/\s 19=sl ip q.parts.length pc/\s 20=ic q.parts.length/\s 21=ic i/\Keep b b'/\b1.nobj<b'.nobj/\b'.obj b.nobj=[ic q.head.p,sl ih q.head.ts.length (Ac q.head.ts),sl ip q.parts.length pc,sl inn q.nots.length nc]/\b'.obj (b.nobj+1)=[ic 0,nilS,nilS,nilS]/\b'.obj b1.nobj=[ic q.head.p,sl idh (Bh v n q.head.ts).length (Ac (Bh v n q.head.ts)),sl i3 i xs,nilS]/\Own b b' i3 i/\xs.length=i*3/\Ad8 (EL Ky ((q.parts.take i).map (Gz v n)) xs)) q.parts.length
  ⟨0,1,[],Ad2,Ad2,by simp[upd,initS],by simp[upd,initS],Ad4,Ad4,Ad4,Ad4,Ad4,rfl,Xs,Ad7,?_,?_,?_,Own.nil _ _,by simp,by simp[Ad8,EL]⟩ ?_
 ·rw[Ai Ad2,Ae Ad2,o0]
 ·rw[Ai Ad2,Ae Ad2,o1]
 ·rw[Aj]
 clear o0 o1 br;rintro m s b' ⟨i,i3,xs,rfl,hi,h1,h2,h3,h6,h7,bf,be,bd,hK,ap,ax,an,am,hO,a6,hX⟩;have ba:=hK.nobj;by_cases ar:i<q.parts.length
 ·have ae:=List.getElem?_eq_getElem ar;obtain⟨id,idt,r,hd⟩:=Ek hP ae;have ay:=hq.pa _ (Acz ar);have bc:=hq.pt _ (Acz ar);have bb:=hq.p3 _ (Acz ar);generalize q.parts[i]=w at hd ae ay bc bb;have HG:Ad8 ((q.parts.take (i+1)).map (Gz v n)=(q.parts.take i).map (Gz v n)++[Gz v n w]):=by
   rw[Ad8,Abq,ae];simp
  clear ae;have a7:=fun b=>gR w id idt v n ay bc bb b;have b0:Ad8 _:=hX;have a5:Ad8 _:=a6
  repeat' (first|refine Z1 ?_|(refine Z8 ?_;intro κ hκ)|(refine Z4 ?_;clear hκ κ)|(refine Z2 ?_ ?_<;>intro h ah<;>try exact Xp)|(refine Z6 ?_;intro idn bn aj ak ad ab ac aa)|refine Z3 ?_|exact⟨⟩|(apply hκ.out;clear hκ κ))
  have aw:Keep b ((b'.new [ic 0,nilS,nilS]).put b'.nobj [ic w.a.p,sl id w.a.ts.length (Ac w.a.ts),sl idt w.tups.length (D9 w.tups)]):=(hK.new _).put hK.nobj _;have kv:∀p,p<b'.nobj->((b'.new [ic 0,nilS,nilS]).put b'.nobj [ic w.a.p,sl id w.a.ts.length (Ac w.a.ts),sl idt w.tups.length (D9 w.tups)]).obj p=b'.obj p:=fun p hp=>by rw[Ai Ad2,Ae Ad2]
  refine Br (Q:=fun e s' b''=>e= .normal/\s' 1=ic v/\s' 2=ic n/\s' 3=ptr b.nobj 0/\s' 6=ptr (b.nobj+1) 0/\s' 7=ptr b1.nobj 0/\s' 19=sl ip q.parts.length pc/\s' 20=ic q.parts.length/\s' 21=ic i/\Keep b b''/\b1.nobj<b''.nobj/\b''.obj b.nobj=[ic q.head.p,sl ih q.head.ts.length (Ac q.head.ts),sl ip q.parts.length pc,sl inn q.nots.length nc]/\b''.obj (b.nobj+1)=[ic 0,nilS,nilS,nilS]/\∃idn c',b''.obj b1.nobj=[ic q.head.p,sl idh (Bh v n q.head.ts).length (Ac (Bh v n q.head.ts)),sl idn (i+1) (xs++c'),nilS]/\Own b b'' idn (i+1)/\Ky (Gz v n w) c') ?_ ?_
  ·refine A4 Ak (fun _=>True) [9] [0,1,2,3,4] 5 #[true,true,true,true,true,false,false,false,false,false] Ad5 (fun _ _ _ h=>by cases h.1) ?_;intro κ hκ;refine Z3 ?_;refine hκ.out _ ?_;clear hκ κ;refine Al (i:=5) Ad5 ?_;refine Aq ?_;intro κ hκ;refine Z3 ?_;refine ACalls.mono (a7 _) ?_;rintro _ b5 ⟨⟨c',rfl,av⟩,af⟩;refine Z3 ?_;refine hκ.out _ _ ⟨Ao af,?_⟩;clear hκ κ;obtain⟨x,y,z,rfl,fx1,fx2,fx3⟩:=tT av;have au:=af.nobj;have ai:=af.obj;simp only[Ab,Aa]at au ai;have a9:=aw.trans af;have a8:=Own.keep (Own.put (Own.new hO [ic 0,nilS,nilS]) b'.nobj [ic w.a.p,sl id w.a.ts.length (Ac w.a.ts),sl idt w.tups.length (D9 w.tups)]) af;refine Al (i:=6) Ad5 ?_;refine Aq ?_;intro κ hκ;refine Z3 ?_;refine hκ.out _ _ ⟨Ao (af.lay 1),?_⟩;clear hκ κ;refine Al (i:=7) Ad5 ?_;refine Aq ?_;intro κ hκ;refine Z3 ?_;refine Bj (by first|exact Er|exact Dh) a9 a8 (by decide) (by rfl) a6 (by rfl) (by simp[fx1,fx2,fx3]) (by decide) Ad2 Ad2 ?_;intro idn bn aj ak ad ab ac aa;refine Z3 ?_;refine hκ.out _ _ ⟨fun _ o ho _=>by rw[ac];exact af.ver o ho,?_⟩;clear hκ κ;refine Al (i:=8) Ad5 ?_;refine Aq ?_;intro κ hκ;refine Z3 ?_;refine hκ.out _ _ ⟨fun _ o ho _=>by rw[ac];exact af.ver o ho,?_⟩;clear hκ κ;have en:∀p,p<b'.nobj->bn.obj p=b'.obj p:=fun p hp=>by rw[ad,ai _ Ad2,kv _ hp]
   have en1:bn.obj b1.nobj=[ic q.head.p,sl idh (Bh v n q.head.ts).length (Ac (Bh v n q.head.ts)),sl i3 i xs,nilS]:=by rw[en _ ap,am]
   refine Al (i:=9) Ad5 ?_;refine Aq ?_;intro κ hκ;refine Z3 ?_;refine hκ.out _ _ ⟨Bo rfl,?_⟩;clear hκ κ;refine A7 Ad5 ⟨rfl,?_⟩;simp only[upd,↓reduceIte,Nat.reduceEqDiff,h1,h2,h3,h6,h7,bf,be,bd,true_and];refine⟨ak.put Ad2 _,by simp only[Ab];omega,?_,?_,idn,[x,y,z],?_,Own.put aj _ _,av⟩
   ·rw[Ai Ad2,en _ Ad2,ax]
   ·rw[Ai Ad2,en _ Ad2,an]
   ·rw[Aj]
  ·clear kv aw hX hO a6 ax an am ap;rintro e s' b'' ⟨rfl,g1,g2,g3,g6,g7,g19,g20,g21,hK,ap,ax,an,idn,c',am,hO,av⟩;have HX:Ad8 (EL Ky ((q.parts.take (i+1)).map (Gz v n)) (xs++c')):=by rw[Ad8,HG.out];exact EL.append b0.out (EL.single av)
   have bm:=Dx _ _ av
   repeat' (first|refine Z1 ?_|(refine Z8 ?_;intro κ hκ)|(refine Z4 ?_;clear hκ κ)|(refine Z2 ?_ ?_<;>intro h ah<;>try exact Xp)|(refine Z6 ?_;intro idn bn aj ak ad ab ac aa)|refine Z3 ?_|exact⟨⟩|(apply hκ.out;clear hκ κ))
   refine⟨q.parts.length-(i+1),Ad2,i+1,idn,xs++c',?_⟩
   ((repeat' with_reducible refine And.intro ?_ ?_)<;>first|exact Xq|exact (HX)|exact (by rw[Ab2,bm,a5.out];omega)|exact Xs)
 ·have bl:i=q.parts.length:=Ad2;subst bl;rw[Abn]at hX;generalize hM:q.parts.length=M at*
  have HM:Ad8 _:=hM;clear hM ar hi
  repeat' (first|refine Z1 ?_|(refine Z8 ?_;intro κ hκ)|(refine Z4 ?_;clear hκ κ)|(refine Z2 ?_ ?_<;>intro h ah<;>try exact Xp)|(refine Z6 ?_;intro idn bn aj ak ad ab ac aa)|refine Z3 ?_|exact⟨⟩|(apply hκ.out;clear hκ κ))
  refine Ad (fun m s b'=>∃(j i4:Nat) (ys:List AV),m=q.nots.length-j/\j<=q.nots.length/\s 1=ic v/\s 2=ic n/\s 6=ptr (b.nobj+1) 0/\s 7=ptr b1.nobj 0/\s 36=sl inn q.nots.length nc/\s 37=ic q.nots.length/\s 38=ic j/\Keep b b'/\b1.nobj<b'.nobj/\b'.obj (b.nobj+1)=[ic 0,nilS,nilS,nilS]/\b'.obj b1.nobj=[ic q.head.p,sl idh (Bh v n q.head.ts).length (Ac (Bh v n q.head.ts)),sl i3 M xs,sl i4 j ys]/\Own b b' i4 j/\ys.length=j*2/\Ad8 (EL Lk ((q.nots.take j).map (Ey v n)) ys)) q.nots.length
   ⟨0,1,[],Ad2,Ad2,Ad3,Ad3,Ad3,Ad3,Ad3,Ad3,Ad4,hK,ap,an,by rw[am],Own.nil _ _,by simp,by simp[Ad8,EL]⟩ ?_
  clear h1 h2 h3 h6 h7 bf be bd hK ap ax an am hO ba;rintro m s b' ⟨j,i4,ys,rfl,hj,h1,h2,h6,h7,bw,bv,bu,hK,ap,an,am,hO,a4,hY⟩;have ba:=hK.nobj;by_cases ar:j<q.nots.length
  ·have ae:=List.getElem?_eq_getElem ar;obtain⟨id,r,hd⟩:=Ib hN ae;have ay:=hq.na _ (Acz ar);generalize q.nots[j]=w at hd ae ay;have HG:Ad8 ((q.nots.take (j+1)).map (Ey v n)=(q.nots.take j).map (Ey v n)++[Ey v n w]):=by
    rw[Ad8,Abq,ae];simp
   clear ae;have bg:w.ts.length<=1000:=Ad2;have a7:=fun b=>Lh w.p id w.ts v n bg b;have bz:Ad8 _:=hY;have a3:Ad8 _:=a4
   repeat' (first|refine Z1 ?_|(refine Z8 ?_;intro κ hκ)|(refine Z4 ?_;clear hκ κ)|(refine Z2 ?_ ?_<;>intro h ah<;>try exact Xp)|(refine Z6 ?_;intro idn bn aj ak ad ab ac aa)|refine Z3 ?_|exact⟨⟩|(apply hκ.out;clear hκ κ))
   have aw:Keep b ((b'.new [ic 0,nilS]).put b'.nobj [ic w.p,sl id w.ts.length (Ac w.ts)]):=(hK.new _).put hK.nobj _;have kv:∀p,p<b'.nobj->((b'.new [ic 0,nilS]).put b'.nobj [ic w.p,sl id w.ts.length (Ac w.ts)]).obj p=b'.obj p:=fun p hp=>by rw[Ai Ad2,Ae Ad2]
   refine Br (Q:=fun e s' b''=>e= .normal/\s' 1=ic v/\s' 2=ic n/\s' 6=ptr (b.nobj+1) 0/\s' 7=ptr b1.nobj 0/\s' 36=sl inn q.nots.length nc/\s' 37=ic q.nots.length/\s' 38=ic j/\Keep b b''/\b1.nobj<b''.nobj/\b''.obj (b.nobj+1)=[ic 0,nilS,nilS,nilS]/\∃idn id',b''.obj b1.nobj=[ic q.head.p,sl idh (Bh v n q.head.ts).length (Ac (Bh v n q.head.ts)),sl i3 M xs,sl idn (j+1) (ys++[ic w.p,sl id' (Bh v n w.ts).length (Ac (Bh v n w.ts))])]/\Own b b'' idn (j+1)) ?_ ?_
   ·refine A4 Ak (fun _=>True) [9] [0,1,2,3,4] 5 #[true,true,true,true,true,false,false,false,false,false] Ad5 (fun _ _ _ h=>by cases h.1) ?_;intro κ hκ;refine Z3 ?_;refine hκ.out _ ?_;clear hκ κ;refine Al (i:=5) Ad5 ?_;refine Aq ?_;intro κ hκ;refine Z3 ?_;refine ACalls.mono (a7 _) ?_;rintro _ b5 ⟨⟨id',rfl⟩,af⟩;refine Z3 ?_;refine hκ.out _ _ ⟨Ao af,?_⟩;clear hκ κ;have au:=af.nobj;have ai:=af.obj;simp only[Ab,Aa]at au ai;have a9:=aw.trans af;have a8:=Own.keep (Own.put (Own.new hO [ic 0,nilS]) b'.nobj [ic w.p,sl id w.ts.length (Ac w.ts)]) af;refine Al (i:=6) Ad5 ?_;refine Aq ?_;intro κ hκ;refine Z3 ?_;refine hκ.out _ _ ⟨Ao (af.lay 1),?_⟩;clear hκ κ;refine Al (i:=7) Ad5 ?_;refine Aq ?_;intro κ hκ;refine Z3 ?_;refine Bj (by first|exact Er|exact Dh) a9 a8 (by decide) (by rfl) a4 (by rfl) (by rfl) (by decide) Ad2 Ad2 ?_;intro idn bn aj ak ad ab ac aa;refine Z3 ?_;refine hκ.out _ _ ⟨fun _ o ho _=>by rw[ac];exact af.ver o ho,?_⟩;clear hκ κ;refine Al (i:=8) Ad5 ?_;refine Aq ?_;intro κ hκ;refine Z3 ?_;refine hκ.out _ _ ⟨fun _ o ho _=>by rw[ac];exact af.ver o ho,?_⟩;clear hκ κ;have en:∀p,p<b'.nobj->bn.obj p=b'.obj p:=fun p hp=>by rw[ad,ai _ Ad2,kv _ hp]
    have en1:bn.obj b1.nobj=[ic q.head.p,sl idh (Bh v n q.head.ts).length (Ac (Bh v n q.head.ts)),sl i3 M xs,sl i4 j ys]:=by rw[en _ ap,am]
    refine Al (i:=9) Ad5 ?_;refine Aq ?_;intro κ hκ;refine Z3 ?_;refine hκ.out _ _ ⟨Bo rfl,?_⟩;clear hκ κ;refine A7 Ad5 ⟨rfl,?_⟩;simp only[upd,↓reduceIte,Nat.reduceEqDiff,h1,h2,h6,h7,bw,bv,bu,true_and];refine⟨ak.put Ad2 _,by simp only[Ab];omega,?_,idn,id',?_,Own.put aj _ _⟩
    ·rw[Ai Ad2,en _ Ad2,an]
    ·rw[Aj]
   ·clear kv aw hY hO a4 an am ap;rintro e s' b'' ⟨rfl,g1,g2,g6,g7,g36,g37,g38,hK,ap,an,idn,id',am,hO⟩;have HX:Ad8 (EL Lk ((q.nots.take (j+1)).map (Ey v n)) (ys++[ic w.p,sl id' (Bh v n w.ts).length (Ac (Bh v n w.ts))])):=by rw[Ad8,HG.out];exact EL.append bz.out (EL.single ⟨id',rfl⟩)
    repeat' (first|refine Z1 ?_|(refine Z8 ?_;intro κ hκ)|(refine Z4 ?_;clear hκ κ)|(refine Z2 ?_ ?_<;>intro h ah<;>try exact Xp)|(refine Z6 ?_;intro idn bn aj ak ad ab ac aa)|refine Z3 ?_|exact⟨⟩|(apply hκ.out;clear hκ κ))
    refine⟨q.nots.length-(j+1),Ad2,j+1,idn,ys++[ic w.p,sl id' (Bh v n w.ts).length (Ac (Bh v n w.ts))],?_⟩
    ((repeat' with_reducible refine And.intro ?_ ?_)<;>first|exact Xq|exact (HX)|exact (by rw[Ab2,a3.out];simp;omega)|exact Xs)
  ·have bi:j=q.nots.length:=Ad2;subst bi;rw[Abn]at hY;have bq:(q.parts.map (Gz v n)).length=M:=by rw[Ac9];exact HM.out
   have bp:(q.nots.map (Ey v n)).length=q.nots.length:=by rw[Ac9]
   repeat' (first|refine Z1 ?_|(refine Z8 ?_;intro κ hκ)|(refine Z4 ?_;clear hκ κ)|(refine Z2 ?_ ?_<;>intro h ah<;>try exact Xp)|(refine Z6 ?_;intro idn bn aj ak ad ab ac aa)|refine Z3 ?_|exact⟨⟩|(apply hκ.out;clear hκ κ))
   exact⟨_,rfl,⟨_,rfl,idh,i3,i4,xs,ys,by simp only[Cu,Ey];rw[bq,bp],hX.out,hY.out⟩,hK.put Ad2 _⟩
end Go.Proofs.YtmoeoppbmhfbpabGreatDoorH
