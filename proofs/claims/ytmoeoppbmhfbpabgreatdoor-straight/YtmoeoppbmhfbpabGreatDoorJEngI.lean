import Derived.Test.YtmoeoppbmhfbpabGreatDoorJEngF
set_option maxHeartbeats 16000000
set_option maxRecDepth 100000
set_option linter.all false
namespace Go.Proofs.YtmoeoppbmhfbpabGreatDoorJ
open Go.Abs
def Ew (v n:Int)(a:C6):C6:=⟨a.p,Ba v n a.ts⟩
def Cq (v n:Int)(q:Qry):Qry:=⟨Ew v n q.head,q.parts.map (Ha v n),q.nots.map (Ew v n)⟩
theorem tJ {p:Part}{c:List AV}(h:K3 p c):∃x y z,c=[x,y,z]/\flat x=true/\flat y=true/\flat z=true:=by
 obtain⟨id,idt,rfl⟩:=h;exact⟨_,_,_,rfl,rfl,rfl,rfl⟩
theorem S9 (q:Qry)(c:List AV)(v n:Int)(hc:EQ q c)(hq:Me q)(b:St):ACalls Tryz.prog 190 [ag c,ic v,ic n] b fun r b'=>(∃c',r=ag c'/\EQ (Cq v n q) c')/\Keep b b':=by
 obtain⟨ih,ip,inn,pc,nc,rfl,hP,hN⟩:=hc;have hpl:=EL.length Dt hP;have b3:=EL.length Hi hN;have hl:=hq.pl;have b4:=hq.nl;have hh:=hq.hd;have bi:q.head.ts.length<=1000:=Ad6;have bp:=fun b=>Lf q.head.p ih q.head.ts v n bi b;refine Z9 53 [.cell 6 191] Tryz.func190 ?_
 repeat' (first|refine Z1 ?_|(refine Z8 ?_;intro κ hκ)|(refine Z4 ?_;clear hκ κ)|(refine Z2 ?_ ?_<;>intro h ah<;>try exact Xp)|(refine Z6 ?_;intro idn bn aj ak ad ab ac aa)|(refine Z5 ?_;refine Xi (bp _) ?_;rintro _ _ ⟨⟨idh,rfl⟩,a0⟩;(have a3:=a0.nobj;have ao:=a0.obj;have bu:=(((Keep.refl b).new _).new _).trans a0;simp only[Aa]at a3 ao))|refine Z3 ?_|exact⟨⟩|(apply hκ.out;clear hκ κ))
 rename_i b1;have o0:b1.obj b.nobj=[ic q.head.p,sl ih q.head.ts.length (Ac q.head.ts),sl ip q.parts.length pc,sl inn q.nots.length nc]:=by rw[ao _ Ad6,Ae Aea,Ao]
 have o1:b1.obj (b.nobj+1)=[ic 0,nilS,nilS,nilS]:=by rw[ao _ Ad6,Bu Aea Aea]
 clear ao a0
 refine Ad (fun m s b'=>∃(i i3:Nat) (xs:List AV),m=q.parts.length-i/\i<=q.parts.length/\s 1=ic v/\s 2=ic n/\s 3=ptr b.nobj 0/\s 6=ptr (b.nobj+1) 0/\s 7=ptr b1.nobj 0/\s 19=sl ip q.parts.length pc/\s 20=ic q.parts.length/\s 21=ic i/\Keep b b'/\b1.nobj<b'.nobj/\b'.obj b.nobj=[ic q.head.p,sl ih q.head.ts.length (Ac q.head.ts),sl ip q.parts.length pc,sl inn q.nots.length nc]/\b'.obj (b.nobj+1)=[ic 0,nilS,nilS,nilS]/\b'.obj b1.nobj=[ic q.head.p,sl idh (Ba v n q.head.ts).length (Ac (Ba v n q.head.ts)),sl i3 i xs,nilS]/\Own b b' i3 i/\xs.length=i*3/\Aec (EL K3 ((q.parts.take i).map (Ha v n)) xs)) q.parts.length
  ⟨0,1,[],Ad6,Ad6,by simp[upd,initS],by simp[upd,initS],Ad8,Ad8,Ad8,Ad8,Ad8,rfl,Xs,Aeb,?_,?_,?_,Own.nil _ _,by simp,by simp[Aec,EL]⟩ ?_
 ·rw[Aj Ad6,Ae Ad6,o0]
 ·rw[Aj Ad6,Ae Ad6,o1]
 ·rw[Ak]
 clear o0 o1 bu;rintro m s b' ⟨i,i3,xs,rfl,hi,h1,h2,h3,h6,h7,bg,bf,be,hK,ap,ay,an,am,hO,a7,hX⟩;have bb:=hK.nobj;by_cases au:i<q.parts.length
 ·have ae:=List.getElem?_eq_getElem au;obtain⟨id,idt,r,hd⟩:=Eh hP ae;have az:=hq.pa _ (Ac2 au);have bd:=hq.pt _ (Ac2 au);have bc:=hq.p3 _ (Ac2 au);generalize q.parts[i]=w at hd ae az bd bc;have HG:Aec ((q.parts.take (i+1)).map (Ha v n)=(q.parts.take i).map (Ha v n)++[Ha v n w]):=by
   rw[Aec,Abv,ae];simp
  clear ae;have a8:=fun b=>gU w id idt v n az bd bc b;have b2:Aec _:=hX;have a6:Aec _:=a7
  repeat' (first|refine Z1 ?_|(refine Z8 ?_;intro κ hκ)|(refine Z4 ?_;clear hκ κ)|(refine Z2 ?_ ?_<;>intro h ah<;>try exact Xp)|(refine Z6 ?_;intro idn bn aj ak ad ab ac aa)|refine Z3 ?_|exact⟨⟩|(apply hκ.out;clear hκ κ))
  have ax:Keep b ((b'.new [ic 0,nilS,nilS]).put b'.nobj [ic w.a.p,sl id w.a.ts.length (Ac w.a.ts),sl idt w.tups.length (Cx w.tups)]):=(hK.new _).put hK.nobj _;have kv:∀p,p<b'.nobj->((b'.new [ic 0,nilS,nilS]).put b'.nobj [ic w.a.p,sl id w.a.ts.length (Ac w.a.ts),sl idt w.tups.length (Cx w.tups)]).obj p=b'.obj p:=fun p hp=>by rw[Aj Ad6,Ae Ad6]
  refine Bq (Q:=fun e s' b''=>e= .normal/\s' 1=ic v/\s' 2=ic n/\s' 3=ptr b.nobj 0/\s' 6=ptr (b.nobj+1) 0/\s' 7=ptr b1.nobj 0/\s' 19=sl ip q.parts.length pc/\s' 20=ic q.parts.length/\s' 21=ic i/\Keep b b''/\b1.nobj<b''.nobj/\b''.obj b.nobj=[ic q.head.p,sl ih q.head.ts.length (Ac q.head.ts),sl ip q.parts.length pc,sl inn q.nots.length nc]/\b''.obj (b.nobj+1)=[ic 0,nilS,nilS,nilS]/\∃idn c',b''.obj b1.nobj=[ic q.head.p,sl idh (Ba v n q.head.ts).length (Ac (Ba v n q.head.ts)),sl idn (i+1) (xs++c'),nilS]/\Own b b'' idn (i+1)/\K3 (Ha v n w) c') ?_ ?_
  ·refine A3 Ah (fun _=>True) [9] [0,1,2,3,4] 5 #[true,true,true,true,true,false,false,false,false,false] Ad9 (fun _ _ _ h=>by cases h.1) ?_;intro κ hκ;refine Z3 ?_;refine hκ.out _ ?_;clear hκ κ;refine Am (i:=5) Ad9 ?_;refine Ar ?_;intro κ hκ;refine Z3 ?_;refine ACalls.mono (a8 _) ?_;rintro _ b5 ⟨⟨c',rfl,aw⟩,af⟩;refine Z3 ?_;refine hκ.out _ _ ⟨Aq af,?_⟩;clear hκ κ;obtain⟨x,y,z,rfl,fx1,fx2,fx3⟩:=tJ aw;have av:=af.nobj;have ai:=af.obj;simp only[Ab,Aa]at av ai;have ba:=ax.trans af;have a9:=Own.keep (Own.put (Own.new hO [ic 0,nilS,nilS]) b'.nobj [ic w.a.p,sl id w.a.ts.length (Ac w.a.ts),sl idt w.tups.length (Cx w.tups)]) af;refine Am (i:=6) Ad9 ?_;refine Ar ?_;intro κ hκ;refine Z3 ?_;refine hκ.out _ _ ⟨Aq (af.lay 1),?_⟩;clear hκ κ;refine Am (i:=7) Ad9 ?_;refine Ar ?_;intro κ hκ;refine Z3 ?_;refine Bn (by first|exact D1|exact Di) ba a9 (by decide) (by rfl) a7 (by rfl) (by simp[fx1,fx2,fx3]) (by decide) Ad6 Ad6 ?_;intro idn bn aj ak ad ab ac aa;refine Z3 ?_;refine hκ.out _ _ ⟨fun _ o ho _=>by rw[ac];exact af.ver o ho,?_⟩;clear hκ κ;refine Am (i:=8) Ad9 ?_;refine Ar ?_;intro κ hκ;refine Z3 ?_;refine hκ.out _ _ ⟨fun _ o ho _=>by rw[ac];exact af.ver o ho,?_⟩;clear hκ κ;have en:∀p,p<b'.nobj->bn.obj p=b'.obj p:=fun p hp=>by rw[ad,ai _ Ad6,kv _ hp]
   have en1:bn.obj b1.nobj=[ic q.head.p,sl idh (Ba v n q.head.ts).length (Ac (Ba v n q.head.ts)),sl i3 i xs,nilS]:=by rw[en _ ap,am]
   refine Am (i:=9) Ad9 ?_;refine Ar ?_;intro κ hκ;refine Z3 ?_;refine hκ.out _ _ ⟨Bt rfl,?_⟩;clear hκ κ;refine A7 Ad9 ⟨rfl,?_⟩;simp only[upd,↓reduceIte,Nat.reduceEqDiff,h1,h2,h3,h6,h7,bg,bf,be,true_and];refine⟨ak.put Ad6 _,by simp only[Ab];omega,?_,?_,idn,[x,y,z],?_,Own.put aj _ _,aw⟩
   ·rw[Aj Ad6,en _ Ad6,ay]
   ·rw[Aj Ad6,en _ Ad6,an]
   ·rw[Ak]
  ·clear kv ax hX hO a7 ay an am ap;rintro e s' b'' ⟨rfl,g1,g2,g3,g6,g7,g19,g20,g21,hK,ap,ay,an,idn,c',am,hO,aw⟩;have HX:Aec (EL K3 ((q.parts.take (i+1)).map (Ha v n)) (xs++c')):=by rw[Aec,HG.out];exact EL.append b2.out (EL.single aw)
   have bo:=Dt _ _ aw
   repeat' (first|refine Z1 ?_|(refine Z8 ?_;intro κ hκ)|(refine Z4 ?_;clear hκ κ)|(refine Z2 ?_ ?_<;>intro h ah<;>try exact Xp)|(refine Z6 ?_;intro idn bn aj ak ad ab ac aa)|refine Z3 ?_|exact⟨⟩|(apply hκ.out;clear hκ κ))
   refine⟨q.parts.length-(i+1),Ad6,i+1,idn,xs++c',?_⟩
   ((repeat' with_reducible refine And.intro ?_ ?_)<;>first|exact Xq|exact (HX)|exact (by rw[Ab6,bo,a6.out];omega)|exact Xs)
 ·have bm:i=q.parts.length:=Ad6;subst bm;rw[Abt]at hX;generalize hM:q.parts.length=M at*
  have HM:Aec _:=hM;clear hM au hi
  repeat' (first|refine Z1 ?_|(refine Z8 ?_;intro κ hκ)|(refine Z4 ?_;clear hκ κ)|(refine Z2 ?_ ?_<;>intro h ah<;>try exact Xp)|(refine Z6 ?_;intro idn bn aj ak ad ab ac aa)|refine Z3 ?_|exact⟨⟩|(apply hκ.out;clear hκ κ))
  refine Ad (fun m s b'=>∃(j i4:Nat) (ys:List AV),m=q.nots.length-j/\j<=q.nots.length/\s 1=ic v/\s 2=ic n/\s 6=ptr (b.nobj+1) 0/\s 7=ptr b1.nobj 0/\s 36=sl inn q.nots.length nc/\s 37=ic q.nots.length/\s 38=ic j/\Keep b b'/\b1.nobj<b'.nobj/\b'.obj (b.nobj+1)=[ic 0,nilS,nilS,nilS]/\b'.obj b1.nobj=[ic q.head.p,sl idh (Ba v n q.head.ts).length (Ac (Ba v n q.head.ts)),sl i3 M xs,sl i4 j ys]/\Own b b' i4 j/\ys.length=j*2/\Aec (EL Mg ((q.nots.take j).map (Ew v n)) ys)) q.nots.length
   ⟨0,1,[],Ad6,Ad6,Ad7,Ad7,Ad7,Ad7,Ad7,Ad7,Ad8,hK,ap,an,by rw[am],Own.nil _ _,by simp,by simp[Aec,EL]⟩ ?_
  clear h1 h2 h3 h6 h7 bg bf be hK ap ay an am hO bb;rintro m s b' ⟨j,i4,ys,rfl,hj,h1,h2,h6,h7,bz,bw,bv,hK,ap,an,am,hO,a5,hY⟩;have bb:=hK.nobj;by_cases au:j<q.nots.length
  ·have ae:=List.getElem?_eq_getElem au;obtain⟨id,r,hd⟩:=Ip hN ae;have az:=hq.na _ (Ac2 au);generalize q.nots[j]=w at hd ae az;have HG:Aec ((q.nots.take (j+1)).map (Ew v n)=(q.nots.take j).map (Ew v n)++[Ew v n w]):=by
    rw[Aec,Abv,ae];simp
   clear ae;have bh:w.ts.length<=1000:=Ad6;have a8:=fun b=>Lf w.p id w.ts v n bh b;have b0:Aec _:=hY;have a4:Aec _:=a5
   repeat' (first|refine Z1 ?_|(refine Z8 ?_;intro κ hκ)|(refine Z4 ?_;clear hκ κ)|(refine Z2 ?_ ?_<;>intro h ah<;>try exact Xp)|(refine Z6 ?_;intro idn bn aj ak ad ab ac aa)|refine Z3 ?_|exact⟨⟩|(apply hκ.out;clear hκ κ))
   have ax:Keep b ((b'.new [ic 0,nilS]).put b'.nobj [ic w.p,sl id w.ts.length (Ac w.ts)]):=(hK.new _).put hK.nobj _;have kv:∀p,p<b'.nobj->((b'.new [ic 0,nilS]).put b'.nobj [ic w.p,sl id w.ts.length (Ac w.ts)]).obj p=b'.obj p:=fun p hp=>by rw[Aj Ad6,Ae Ad6]
   refine Bq (Q:=fun e s' b''=>e= .normal/\s' 1=ic v/\s' 2=ic n/\s' 6=ptr (b.nobj+1) 0/\s' 7=ptr b1.nobj 0/\s' 36=sl inn q.nots.length nc/\s' 37=ic q.nots.length/\s' 38=ic j/\Keep b b''/\b1.nobj<b''.nobj/\b''.obj (b.nobj+1)=[ic 0,nilS,nilS,nilS]/\∃idn id',b''.obj b1.nobj=[ic q.head.p,sl idh (Ba v n q.head.ts).length (Ac (Ba v n q.head.ts)),sl i3 M xs,sl idn (j+1) (ys++[ic w.p,sl id' (Ba v n w.ts).length (Ac (Ba v n w.ts))])]/\Own b b'' idn (j+1)) ?_ ?_
   ·refine A3 Ah (fun _=>True) [9] [0,1,2,3,4] 5 #[true,true,true,true,true,false,false,false,false,false] Ad9 (fun _ _ _ h=>by cases h.1) ?_;intro κ hκ;refine Z3 ?_;refine hκ.out _ ?_;clear hκ κ;refine Am (i:=5) Ad9 ?_;refine Ar ?_;intro κ hκ;refine Z3 ?_;refine ACalls.mono (a8 _) ?_;rintro _ b5 ⟨⟨id',rfl⟩,af⟩;refine Z3 ?_;refine hκ.out _ _ ⟨Aq af,?_⟩;clear hκ κ;have av:=af.nobj;have ai:=af.obj;simp only[Ab,Aa]at av ai;have ba:=ax.trans af;have a9:=Own.keep (Own.put (Own.new hO [ic 0,nilS]) b'.nobj [ic w.p,sl id w.ts.length (Ac w.ts)]) af;refine Am (i:=6) Ad9 ?_;refine Ar ?_;intro κ hκ;refine Z3 ?_;refine hκ.out _ _ ⟨Aq (af.lay 1),?_⟩;clear hκ κ;refine Am (i:=7) Ad9 ?_;refine Ar ?_;intro κ hκ;refine Z3 ?_;refine Bn (by first|exact D1|exact Di) ba a9 (by decide) (by rfl) a5 (by rfl) (by rfl) (by decide) Ad6 Ad6 ?_;intro idn bn aj ak ad ab ac aa;refine Z3 ?_;refine hκ.out _ _ ⟨fun _ o ho _=>by rw[ac];exact af.ver o ho,?_⟩;clear hκ κ;refine Am (i:=8) Ad9 ?_;refine Ar ?_;intro κ hκ;refine Z3 ?_;refine hκ.out _ _ ⟨fun _ o ho _=>by rw[ac];exact af.ver o ho,?_⟩;clear hκ κ;have en:∀p,p<b'.nobj->bn.obj p=b'.obj p:=fun p hp=>by rw[ad,ai _ Ad6,kv _ hp]
    have en1:bn.obj b1.nobj=[ic q.head.p,sl idh (Ba v n q.head.ts).length (Ac (Ba v n q.head.ts)),sl i3 M xs,sl i4 j ys]:=by rw[en _ ap,am]
    refine Am (i:=9) Ad9 ?_;refine Ar ?_;intro κ hκ;refine Z3 ?_;refine hκ.out _ _ ⟨Bt rfl,?_⟩;clear hκ κ;refine A7 Ad9 ⟨rfl,?_⟩;simp only[upd,↓reduceIte,Nat.reduceEqDiff,h1,h2,h6,h7,bz,bw,bv,true_and];refine⟨ak.put Ad6 _,by simp only[Ab];omega,?_,idn,id',?_,Own.put aj _ _⟩
    ·rw[Aj Ad6,en _ Ad6,an]
    ·rw[Ak]
   ·clear kv ax hY hO a5 an am ap;rintro e s' b'' ⟨rfl,g1,g2,g6,g7,g36,g37,g38,hK,ap,an,idn,id',am,hO⟩;have HX:Aec (EL Mg ((q.nots.take (j+1)).map (Ew v n)) (ys++[ic w.p,sl id' (Ba v n w.ts).length (Ac (Ba v n w.ts))])):=by rw[Aec,HG.out];exact EL.append b0.out (EL.single ⟨id',rfl⟩)
    repeat' (first|refine Z1 ?_|(refine Z8 ?_;intro κ hκ)|(refine Z4 ?_;clear hκ κ)|(refine Z2 ?_ ?_<;>intro h ah<;>try exact Xp)|(refine Z6 ?_;intro idn bn aj ak ad ab ac aa)|refine Z3 ?_|exact⟨⟩|(apply hκ.out;clear hκ κ))
    refine⟨q.nots.length-(j+1),Ad6,j+1,idn,ys++[ic w.p,sl id' (Ba v n w.ts).length (Ac (Ba v n w.ts))],?_⟩
    ((repeat' with_reducible refine And.intro ?_ ?_)<;>first|exact Xq|exact (HX)|exact (by rw[Ab6,a4.out];simp;omega)|exact Xs)
  ·have bl:j=q.nots.length:=Ad6;subst bl;rw[Abt]at hY;have br:(q.parts.map (Ha v n)).length=M:=by rw[Adc];exact HM.out
   have bq:(q.nots.map (Ew v n)).length=q.nots.length:=by rw[Adc]
   repeat' (first|refine Z1 ?_|(refine Z8 ?_;intro κ hκ)|(refine Z4 ?_;clear hκ κ)|(refine Z2 ?_ ?_<;>intro h ah<;>try exact Xp)|(refine Z6 ?_;intro idn bn aj ak ad ab ac aa)|refine Z3 ?_|exact⟨⟩|(apply hκ.out;clear hκ κ))
   exact⟨_,rfl,⟨_,rfl,idh,i3,i4,xs,ys,by simp only[Cq,Ew];rw[br,bq],hX.out,hY.out⟩,hK.put Ad6 _⟩
end Go.Proofs.YtmoeoppbmhfbpabGreatDoorJ
