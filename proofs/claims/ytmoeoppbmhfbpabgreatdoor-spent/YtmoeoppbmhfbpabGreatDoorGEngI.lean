import Derived.Test.YtmoeoppbmhfbpabGreatDoorGEngF
set_option maxHeartbeats 16000000
set_option maxRecDepth 100000
set_option linter.all false
namespace Go.Proofs.YtmoeoppbmhfbpabGreatDoorG
open Go.Abs
def Fg (v n:Int)(a:C4):C4:=⟨a.p,Bl v n a.ts⟩
def Cw (v n:Int)(q:Qry):Qry:=⟨Fg v n q.head,q.parts.map (Hi v n),q.nots.map (Fg v n)⟩
theorem wN {p:Part}{c:List AV}(h:Lr p c):∃x y z,c=[x,y,z]/\flat x=true/\flat y=true/\flat z=true:=by
 obtain⟨id,idt,rfl⟩:=h;exact⟨_,_,_,rfl,rfl,rfl,rfl⟩
theorem Ug (q:Qry)(c:List AV)(v n:Int)(hc:EQ q c)(hq:Nx q)(b:St):ACalls Tryz.prog 190 [ag c,ic v,ic n] b fun r b'=>(∃c',r=ag c'/\EQ (Cw v n q) c')/\Keep b b':=by
 obtain⟨ih,ip,inn,pc,nc,rfl,hP,hN⟩:=hc;have hpl:=EL.length D3 hP;have b4:=EL.length Hk hN;have hl:=hq.pl;have b6:=hq.nl;have hh:=hq.hd;have bi:q.head.ts.length<=1000:=Agm;have bq:=fun b=>L9 q.head.p ih q.head.ts v n bi b;refine Z9 53 [.cell 6 191] Tryz.func190 ?_
 repeat' (first|refine Z1 ?_|(refine Z8 ?_;intro κ hκ)|(refine Z4 ?_;clear hκ κ)|(refine Z2 ?_ ?_<;>intro h ah<;>try exact Xp)|(refine Z6 ?_;intro idn bn aj ak ad ab ac aa)|(refine Z5 ?_;refine Xi (bq _) ?_;rintro _ _ ⟨⟨idh,rfl⟩,az⟩;(have a0:=az.nobj;have ao:=az.obj;have bv:=(((Keep.refl b).new _).new _).trans az;simp only[Aa]at a0 ao))|refine Z3 ?_|exact⟨⟩|(apply hκ.out;clear hκ κ))
 rename_i b1;have o0:b1.obj b.nobj=[ic q.head.p,sl ih q.head.ts.length (Ac q.head.ts),sl ip q.parts.length pc,sl inn q.nots.length nc]:=by rw[ao _ Agm,Af Agq,Ap]
 have o1:b1.obj (b.nobj+1)=[ic 0,nilS,nilS,nilS]:=by rw[ao _ Agm,Bs Agq Agq]
 clear ao az
 refine Ag (fun m s b'=>∃(i i3:Nat) (xs:List AV),m=q.parts.length-i/\i<=q.parts.length/\s 1=ic v/\s 2=ic n/\s 3=ptr b.nobj 0/\s 6=ptr (b.nobj+1) 0/\s 7=ptr b1.nobj 0/\s 19=sl ip q.parts.length pc/\s 20=ic q.parts.length/\s 21=ic i/\Keep b b'/\b1.nobj<b'.nobj/\b'.obj b.nobj=[ic q.head.p,sl ih q.head.ts.length (Ac q.head.ts),sl ip q.parts.length pc,sl inn q.nots.length nc]/\b'.obj (b.nobj+1)=[ic 0,nilS,nilS,nilS]/\b'.obj b1.nobj=[ic q.head.p,sl idh (Bl v n q.head.ts).length (Ac (Bl v n q.head.ts)),sl i3 i xs,nilS]/\Own b b' i3 i/\xs.length=i*3/\Agt (EL Lr ((q.parts.take i).map (Hi v n)) xs)) q.parts.length
  ⟨0,1,[],Agm,Agm,by simp[upd,initS],by simp[upd,initS],Ago,Ago,Ago,Ago,Ago,rfl,Xs,Ags,?_,?_,?_,Own.nil _ _,by simp,by simp[Agt,EL]⟩ ?_
 ·rw[Ai Agm,Af Agm,o0]
 ·rw[Ai Agm,Af Agm,o1]
 ·rw[Aj]
 clear o0 o1 bv;rintro m s b' ⟨i,i3,xs,rfl,hi,h1,h2,h3,h6,h7,bg,bf,be,hK,hno,ax,an,am,hO,a6,hX⟩;have ba:=hK.nobj;by_cases ap:i<q.parts.length
 ·have ae:=List.getElem?_eq_getElem ap;obtain⟨id,idt,r,hd⟩:=Ew hP ae;have ay:=hq.pa _ (Afa ap);have bd:=hq.pt _ (Afa ap);have bb:=hq.p3 _ (Afa ap);generalize q.parts[i]=w at hd ae ay bd bb;have HG:Agt ((q.parts.take (i+1)).map (Hi v n)=(q.parts.take i).map (Hi v n)++[Hi v n w]):=by
   rw[Agt,Ad3,ae];simp
  clear ae;have a7:=fun b=>jM w id idt v n ay bd bb b;have b3:Agt _:=hX;have a5:Agt _:=a6
  repeat' (first|refine Z1 ?_|(refine Z8 ?_;intro κ hκ)|(refine Z4 ?_;clear hκ κ)|(refine Z2 ?_ ?_<;>intro h ah<;>try exact Xp)|(refine Z6 ?_;intro idn bn aj ak ad ab ac aa)|refine Z3 ?_|exact⟨⟩|(apply hκ.out;clear hκ κ))
  have aw:Keep b ((b'.new [ic 0,nilS,nilS]).put b'.nobj [ic w.a.p,sl id w.a.ts.length (Ac w.a.ts),sl idt w.tups.length (Ej w.tups)]):=(hK.new _).put hK.nobj _;have kv:∀p,p<b'.nobj->((b'.new [ic 0,nilS,nilS]).put b'.nobj [ic w.a.p,sl id w.a.ts.length (Ac w.a.ts),sl idt w.tups.length (Ej w.tups)]).obj p=b'.obj p:=fun p hp=>by rw[Ai Agm,Af Agm]
  refine B6 (Q:=fun e s' b''=>e= .normal/\s' 1=ic v/\s' 2=ic n/\s' 3=ptr b.nobj 0/\s' 6=ptr (b.nobj+1) 0/\s' 7=ptr b1.nobj 0/\s' 19=sl ip q.parts.length pc/\s' 20=ic q.parts.length/\s' 21=ic i/\Keep b b''/\b1.nobj<b''.nobj/\b''.obj b.nobj=[ic q.head.p,sl ih q.head.ts.length (Ac q.head.ts),sl ip q.parts.length pc,sl inn q.nots.length nc]/\b''.obj (b.nobj+1)=[ic 0,nilS,nilS,nilS]/\∃idn c',b''.obj b1.nobj=[ic q.head.p,sl idh (Bl v n q.head.ts).length (Ac (Bl v n q.head.ts)),sl idn (i+1) (xs++c'),nilS]/\Own b b'' idn (i+1)/\Lr (Hi v n w) c') ?_ ?_
  ·refine Bh Al (fun _=>True) [9] [0,1,2,3,4] 5 #[true,true,true,true,true,false,false,false,false,false] Agp (fun _ _ _ h=>by cases h.1) ?_;intro κ hκ;refine Z3 ?_;refine hκ.out _ ?_;clear hκ κ;refine Ao (i:=5) Agp ?_;refine Ar ?_;intro κ hκ;refine Z3 ?_;refine ACalls.mono (a7 _) ?_;rintro _ b5 ⟨⟨c',rfl,av⟩,af⟩;refine Z3 ?_;refine hκ.out _ _ ⟨Aq af,?_⟩;clear hκ κ;obtain⟨x,y,z,rfl,fx1,fx2,fx3⟩:=wN av;have au:=af.nobj;have ai:=af.obj;simp only[Ab,Aa]at au ai;have a9:=aw.trans af;have a8:=Own.keep (Own.put (Own.new hO [ic 0,nilS,nilS]) b'.nobj [ic w.a.p,sl id w.a.ts.length (Ac w.a.ts),sl idt w.tups.length (Ej w.tups)]) af;refine Ao (i:=6) Agp ?_;refine Ar ?_;intro κ hκ;refine Z3 ?_;refine hκ.out _ _ ⟨Aq (af.lay 1),?_⟩;clear hκ κ;refine Ao (i:=7) Agp ?_;refine Ar ?_;intro κ hκ;refine Z3 ?_;refine Bm (by first|exact E5|exact Dl) a9 a8 (by decide) (by rfl) a6 (by rfl) (by simp[fx1,fx2,fx3]) (by decide) Agm Agm ?_;intro idn bn aj ak ad ab ac aa;refine Z3 ?_;refine hκ.out _ _ ⟨fun _ o ho _=>by rw[ac];exact af.ver o ho,?_⟩;clear hκ κ;refine Ao (i:=8) Agp ?_;refine Ar ?_;intro κ hκ;refine Z3 ?_;refine hκ.out _ _ ⟨fun _ o ho _=>by rw[ac];exact af.ver o ho,?_⟩;clear hκ κ;have en:∀p,p<b'.nobj->bn.obj p=b'.obj p:=fun p hp=>by rw[ad,ai _ Agm,kv _ hp]
   have en1:bn.obj b1.nobj=[ic q.head.p,sl idh (Bl v n q.head.ts).length (Ac (Bl v n q.head.ts)),sl i3 i xs,nilS]:=by rw[en _ hno,am]
   refine Ao (i:=9) Agp ?_;refine Ar ?_;intro κ hκ;refine Z3 ?_;refine hκ.out _ _ ⟨Bq rfl,?_⟩;clear hκ κ;refine A6 Agp ⟨rfl,?_⟩;simp only[upd,↓reduceIte,Nat.reduceEqDiff,h1,h2,h3,h6,h7,bg,bf,be,Agl];refine⟨ak.put Agm _,by simp only[Ab];omega,?_,?_,idn,[x,y,z],?_,Own.put aj _ _,av⟩
   ·rw[Ai Agm,en _ Agm,ax]
   ·rw[Ai Agm,en _ Agm,an]
   ·rw[Aj]
  ·clear kv aw hX hO a6 ax an am hno;rintro e s' b'' ⟨rfl,g1,g2,g3,g6,g7,g19,g20,g21,hK,hno,ax,an,idn,c',am,hO,av⟩;have HX:Agt (EL Lr ((q.parts.take (i+1)).map (Hi v n)) (xs++c')):=by rw[Agt,HG.out];exact EL.append b3.out (EL.single av)
   have bp:=D3 _ _ av
   repeat' (first|refine Z1 ?_|(refine Z8 ?_;intro κ hκ)|(refine Z4 ?_;clear hκ κ)|(refine Z2 ?_ ?_<;>intro h ah<;>try exact Xp)|(refine Z6 ?_;intro idn bn aj ak ad ab ac aa)|refine Z3 ?_|exact⟨⟩|(apply hκ.out;clear hκ κ))
   refine⟨q.parts.length-(i+1),Agm,i+1,idn,xs++c',?_⟩
   ((repeat' with_reducible refine And.intro ?_ ?_)<;>first|exact Xq|exact (HX)|exact (by rw[Aee,bp,a5.out];omega)|exact Xs)
 ·have bo:i=q.parts.length:=Agm;subst bo;rw[Adz]at hX;generalize hM:q.parts.length=M at*
  have HM:Agt _:=hM;clear hM ap hi
  repeat' (first|refine Z1 ?_|(refine Z8 ?_;intro κ hκ)|(refine Z4 ?_;clear hκ κ)|(refine Z2 ?_ ?_<;>intro h ah<;>try exact Xp)|(refine Z6 ?_;intro idn bn aj ak ad ab ac aa)|refine Z3 ?_|exact⟨⟩|(apply hκ.out;clear hκ κ))
  refine Ag (fun m s b'=>∃(j i4:Nat) (ys:List AV),m=q.nots.length-j/\j<=q.nots.length/\s 1=ic v/\s 2=ic n/\s 6=ptr (b.nobj+1) 0/\s 7=ptr b1.nobj 0/\s 36=sl inn q.nots.length nc/\s 37=ic q.nots.length/\s 38=ic j/\Keep b b'/\b1.nobj<b'.nobj/\b'.obj (b.nobj+1)=[ic 0,nilS,nilS,nilS]/\b'.obj b1.nobj=[ic q.head.p,sl idh (Bl v n q.head.ts).length (Ac (Bl v n q.head.ts)),sl i3 M xs,sl i4 j ys]/\Own b b' i4 j/\ys.length=j*2/\Agt (EL Me ((q.nots.take j).map (Fg v n)) ys)) q.nots.length
   ⟨0,1,[],Agm,Agm,Agn,Agn,Agn,Agn,Agn,Agn,Ago,hK,hno,an,by rw[am],Own.nil _ _,by simp,by simp[Agt,EL]⟩ ?_
  clear h1 h2 h3 h6 h7 bg bf be hK hno ax an am hO ba;rintro m s b' ⟨j,i4,ys,rfl,hj,h1,h2,h6,h7,b0,bz,bw,hK,hno,an,am,hO,a4,hY⟩;have ba:=hK.nobj;by_cases ap:j<q.nots.length
  ·have ae:=List.getElem?_eq_getElem ap;obtain⟨id,r,hd⟩:=It hN ae;have ay:=hq.na _ (Afa ap);generalize q.nots[j]=w at hd ae ay;have HG:Agt ((q.nots.take (j+1)).map (Fg v n)=(q.nots.take j).map (Fg v n)++[Fg v n w]):=by
    rw[Agt,Ad3,ae];simp
   clear ae;have bh:w.ts.length<=1000:=Agm;have a7:=fun b=>L9 w.p id w.ts v n bh b;have b2:Agt _:=hY;have a3:Agt _:=a4
   repeat' (first|refine Z1 ?_|(refine Z8 ?_;intro κ hκ)|(refine Z4 ?_;clear hκ κ)|(refine Z2 ?_ ?_<;>intro h ah<;>try exact Xp)|(refine Z6 ?_;intro idn bn aj ak ad ab ac aa)|refine Z3 ?_|exact⟨⟩|(apply hκ.out;clear hκ κ))
   have aw:Keep b ((b'.new [ic 0,nilS]).put b'.nobj [ic w.p,sl id w.ts.length (Ac w.ts)]):=(hK.new _).put hK.nobj _;have kv:∀p,p<b'.nobj->((b'.new [ic 0,nilS]).put b'.nobj [ic w.p,sl id w.ts.length (Ac w.ts)]).obj p=b'.obj p:=fun p hp=>by rw[Ai Agm,Af Agm]
   refine B6 (Q:=fun e s' b''=>e= .normal/\s' 1=ic v/\s' 2=ic n/\s' 6=ptr (b.nobj+1) 0/\s' 7=ptr b1.nobj 0/\s' 36=sl inn q.nots.length nc/\s' 37=ic q.nots.length/\s' 38=ic j/\Keep b b''/\b1.nobj<b''.nobj/\b''.obj (b.nobj+1)=[ic 0,nilS,nilS,nilS]/\∃idn id',b''.obj b1.nobj=[ic q.head.p,sl idh (Bl v n q.head.ts).length (Ac (Bl v n q.head.ts)),sl i3 M xs,sl idn (j+1) (ys++[ic w.p,sl id' (Bl v n w.ts).length (Ac (Bl v n w.ts))])]/\Own b b'' idn (j+1)) ?_ ?_
   ·refine Bh Al (fun _=>True) [9] [0,1,2,3,4] 5 #[true,true,true,true,true,false,false,false,false,false] Agp (fun _ _ _ h=>by cases h.1) ?_;intro κ hκ;refine Z3 ?_;refine hκ.out _ ?_;clear hκ κ;refine Ao (i:=5) Agp ?_;refine Ar ?_;intro κ hκ;refine Z3 ?_;refine ACalls.mono (a7 _) ?_;rintro _ b5 ⟨⟨id',rfl⟩,af⟩;refine Z3 ?_;refine hκ.out _ _ ⟨Aq af,?_⟩;clear hκ κ;have au:=af.nobj;have ai:=af.obj;simp only[Ab,Aa]at au ai;have a9:=aw.trans af;have a8:=Own.keep (Own.put (Own.new hO [ic 0,nilS]) b'.nobj [ic w.p,sl id w.ts.length (Ac w.ts)]) af;refine Ao (i:=6) Agp ?_;refine Ar ?_;intro κ hκ;refine Z3 ?_;refine hκ.out _ _ ⟨Aq (af.lay 1),?_⟩;clear hκ κ;refine Ao (i:=7) Agp ?_;refine Ar ?_;intro κ hκ;refine Z3 ?_;refine Bm (by first|exact E5|exact Dl) a9 a8 (by decide) (by rfl) a4 (by rfl) (by rfl) (by decide) Agm Agm ?_;intro idn bn aj ak ad ab ac aa;refine Z3 ?_;refine hκ.out _ _ ⟨fun _ o ho _=>by rw[ac];exact af.ver o ho,?_⟩;clear hκ κ;refine Ao (i:=8) Agp ?_;refine Ar ?_;intro κ hκ;refine Z3 ?_;refine hκ.out _ _ ⟨fun _ o ho _=>by rw[ac];exact af.ver o ho,?_⟩;clear hκ κ;have en:∀p,p<b'.nobj->bn.obj p=b'.obj p:=fun p hp=>by rw[ad,ai _ Agm,kv _ hp]
    have en1:bn.obj b1.nobj=[ic q.head.p,sl idh (Bl v n q.head.ts).length (Ac (Bl v n q.head.ts)),sl i3 M xs,sl i4 j ys]:=by rw[en _ hno,am]
    refine Ao (i:=9) Agp ?_;refine Ar ?_;intro κ hκ;refine Z3 ?_;refine hκ.out _ _ ⟨Bq rfl,?_⟩;clear hκ κ;refine A6 Agp ⟨rfl,?_⟩;simp only[upd,↓reduceIte,Nat.reduceEqDiff,h1,h2,h6,h7,b0,bz,bw,Agl];refine⟨ak.put Agm _,by simp only[Ab];omega,?_,idn,id',?_,Own.put aj _ _⟩
    ·rw[Ai Agm,en _ Agm,an]
    ·rw[Aj]
   ·clear kv aw hY hO a4 an am hno;rintro e s' b'' ⟨rfl,g1,g2,g6,g7,g36,g37,g38,hK,hno,an,idn,id',am,hO⟩;have HX:Agt (EL Me ((q.nots.take (j+1)).map (Fg v n)) (ys++[ic w.p,sl id' (Bl v n w.ts).length (Ac (Bl v n w.ts))])):=by rw[Agt,HG.out];exact EL.append b2.out (EL.single ⟨id',rfl⟩)
    repeat' (first|refine Z1 ?_|(refine Z8 ?_;intro κ hκ)|(refine Z4 ?_;clear hκ κ)|(refine Z2 ?_ ?_<;>intro h ah<;>try exact Xp)|(refine Z6 ?_;intro idn bn aj ak ad ab ac aa)|refine Z3 ?_|exact⟨⟩|(apply hκ.out;clear hκ κ))
    refine⟨q.nots.length-(j+1),Agm,j+1,idn,ys++[ic w.p,sl id' (Bl v n w.ts).length (Ac (Bl v n w.ts))],?_⟩
    ((repeat' with_reducible refine And.intro ?_ ?_)<;>first|exact Xq|exact (HX)|exact (by rw[Aee,a3.out];simp;omega)|exact Xs)
  ·have bm:j=q.nots.length:=Agm;subst bm;rw[Adz]at hY;have bu:(q.parts.map (Hi v n)).length=M:=by rw[Afo];exact HM.out
   have br:(q.nots.map (Fg v n)).length=q.nots.length:=by rw[Afo]
   repeat' (first|refine Z1 ?_|(refine Z8 ?_;intro κ hκ)|(refine Z4 ?_;clear hκ κ)|(refine Z2 ?_ ?_<;>intro h ah<;>try exact Xp)|(refine Z6 ?_;intro idn bn aj ak ad ab ac aa)|refine Z3 ?_|exact⟨⟩|(apply hκ.out;clear hκ κ))
   exact⟨_,rfl,⟨_,rfl,idh,i3,i4,xs,ys,by simp only[Cw,Fg];rw[bu,br],hX.out,hY.out⟩,hK.put Agm _⟩
end Go.Proofs.YtmoeoppbmhfbpabGreatDoorG
