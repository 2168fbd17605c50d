import Derived.Test.YtmoeoppbmhfbpaaGreatDoorHEngD
set_option maxHeartbeats 16000000
set_option maxRecDepth 100000
set_option linter.all false
namespace Go.Proofs.YtmoeoppbmhfbpaaGreatDoorH
open Go.Abs
def E6 (v n:Int)(a:Ee):Ee:=⟨a.p,Bg v n a.ts⟩
def Cu (v n:Int)(q:Qry):Qry:=⟨E6 v n q.head,q.parts.map (Ha v n),q.nots.map (E6 v n)⟩
theorem tK {p:Part}{c:List AV}(h:La p c):∃x y z,c=[x,y,z]/\flat x=true/\flat y=true/\flat z=true:=by
 obtain⟨id,idt,rfl⟩:=h;exact⟨_,_,_,rfl,rfl,rfl,rfl⟩
theorem Tn (q:Qry)(c:List AV)(v n:Int)(hc:EQ q c)(hq:M9 q)(b:St):ACalls Tryz.prog 173 [ag c,ic v,ic n] b fun r b'=>(∃c',r=ag c'/\EQ (Cu v n q) c')/\Keep b b':=by
 obtain⟨ih,ip,inn,pc,nc,rfl,hP,hN⟩:=hc;have b0:=EL.length D6 hP;have b2:=EL.length Hg hN;have hl:=hq.pl;have b3:=hq.nl;have hh:=hq.hd;have bi:q.head.ts.length<=1000:=Ad2;have bm:=fun b=>Lp q.head.p ih q.head.ts v n bi b;refine Z9 53 [.cell 6 182] Tryz.func173 ?_
 repeat' (first|refine Z1 ?_|(refine Z8 ?_;intro ya J)|(refine Z4 ?_;clear J ya)|(refine Z2 ?_ ?_<;>intro h ah<;>try exact Xp)|(refine Z6 ?_;intro idn bn aj ak ad ab ac aa)|(refine Z5 ?_;refine Xi (bm _) ?_;rintro _ _ ⟨⟨idh,rfl⟩,a0⟩;(have a3:=a0.nobj;have ao:=a0.obj;have bq:=(((Keep.refl b).new _).new _).trans a0;simp only[Aa]at a3 ao))|refine Z3 ?_|exact Zt|(apply J.out;clear J ya))
 rename_i b1;have o0:b1.obj b.nobj=[ic q.head.p,sl ih q.head.ts.length (Ae q.head.ts),sl ip q.parts.length pc,sl inn q.nots.length nc]:=by rw[ao _ Ad2,Ai Ad6,Am]
 have o1:b1.obj (b.nobj+1)=[ic 0,nilS,nilS,nilS]:=by rw[ao _ Ad2,Cd Ad6 Ad6]
 clear ao a0
 refine Ab (fun m s b'=>∃(i i3:Nat) (xs:List AV),m=q.parts.length-i/\i<=q.parts.length/\s 1=ic v/\s 2=ic n/\s 3=ptr b.nobj 0/\s 6=ptr (b.nobj+1) 0/\s 7=ptr b1.nobj 0/\s 19=sl ip q.parts.length pc/\s 20=ic q.parts.length/\s 21=ic i/\Keep b b'/\b1.nobj<b'.nobj/\b'.obj b.nobj=[ic q.head.p,sl ih q.head.ts.length (Ae q.head.ts),sl ip q.parts.length pc,sl inn q.nots.length nc]/\b'.obj (b.nobj+1)=[ic 0,nilS,nilS,nilS]/\b'.obj b1.nobj=[ic q.head.p,sl idh (Bg v n q.head.ts).length (Ae (Bg v n q.head.ts)),sl i3 i xs,nilS]/\Own b b' i3 i/\xs.length=i*3/\Ad8 (EL La ((q.parts.take i).map (Ha v n)) xs)) q.parts.length
  ⟨0,1,[],Ad2,Ad2,by simp[upd,initS],by simp[upd,initS],Ad4,Ad4,Ad4,Ad4,Ad4,rfl,Xs,Ad7,?_,?_,?_,Own.nil _ _,by simp,by simp[Ad8,EL]⟩ ?_
 ·rw[Al Ad2,Ai Ad2,o0]
 ·rw[Al Ad2,Ai Ad2,o1]
 ·rw[Ak]
 clear o0 o1 bq;rintro m s b' ⟨i,i3,xs,rfl,hi,h1,h2,h3,h6,h7,bg,bf,be,hK,ap,ay,an,am,hO,a7,hX⟩;have bb:=hK.nobj;by_cases au:i<q.parts.length
 ·have ae:=Aav au;obtain⟨id,idt,r,hd⟩:=Eu hP ae;have az:=hq.pa _ (Ab1 au);have bd:=hq.pt _ (Ab1 au);have bc:=hq.p3 _ (Ab1 au);generalize q.parts[i]=w at hd ae az bd bc;have HG:Ad8 ((q.parts.take (i+1)).map (Ha v n)=(q.parts.take i).map (Ha v n)++[Ha v n w]):=by
   rw[Ad8,Aa8,ae];simp
  clear ae;have a8:=fun b=>iU w id idt v n az bd bc b;have bz:Ad8 _:=hX;have a6:Ad8 _:=a7
  repeat' (first|refine Z1 ?_|(refine Z8 ?_;intro ya J)|(refine Z4 ?_;clear J ya)|(refine Z2 ?_ ?_<;>intro h ah<;>try exact Xp)|(refine Z6 ?_;intro idn bn aj ak ad ab ac aa)|refine Z3 ?_|exact Zt|(apply J.out;clear J ya))
  have ax:Keep b ((b'.new [ic 0,nilS,nilS]).put b'.nobj [ic w.a.p,sl id w.a.ts.length (Ae w.a.ts),sl idt w.tups.length (C7 w.tups)]):=(hK.new _).put hK.nobj _;have kv:∀p,p<b'.nobj->((b'.new [ic 0,nilS,nilS]).put b'.nobj [ic w.a.p,sl id w.a.ts.length (Ae w.a.ts),sl idt w.tups.length (C7 w.tups)]).obj p=b'.obj p:=fun p hp=>by rw[Al Ad2,Ai Ad2]
  refine A6 (Q:=fun e s' b''=>e= .normal/\s' 1=ic v/\s' 2=ic n/\s' 3=ptr b.nobj 0/\s' 6=ptr (b.nobj+1) 0/\s' 7=ptr b1.nobj 0/\s' 19=sl ip q.parts.length pc/\s' 20=ic q.parts.length/\s' 21=ic i/\Keep b b''/\b1.nobj<b''.nobj/\b''.obj b.nobj=[ic q.head.p,sl ih q.head.ts.length (Ae q.head.ts),sl ip q.parts.length pc,sl inn q.nots.length nc]/\b''.obj (b.nobj+1)=[ic 0,nilS,nilS,nilS]/\∃idn c',b''.obj b1.nobj=[ic q.head.p,sl idh (Bg v n q.head.ts).length (Ae (Bg v n q.head.ts)),sl idn (i+1) (xs++c'),nilS]/\Own b b'' idn (i+1)/\La (Ha v n w) c') ?_ ?_
  ·refine As Ad (fun _=>True) [9] [0,1,2,3,4] 5 #[true,true,true,true,true,false,false,false,false,false] Ad5 (fun _ _ _ h=>by cases h.1) ?_;intro ya J;refine Z3 ?_;refine J.out _ ?_;clear J ya;refine Ah (i:=5) Ad5 ?_;refine Ao ?_;intro ya J;refine Z3 ?_;refine ACalls.mono (a8 _) ?_;rintro _ b5 ⟨⟨c',rfl,aw⟩,af⟩;refine Z3 ?_;refine J.out _ _ ⟨Ap af,?_⟩;clear J ya;obtain⟨x,y,z,rfl,fx1,fx2,fx3⟩:=tK aw;have av:=af.nobj;have ai:=af.obj;simp only[Ac,Aa]at av ai;have ba:=ax.trans af;have a9:=Own.keep (Own.put (Own.new hO [ic 0,nilS,nilS]) b'.nobj [ic w.a.p,sl id w.a.ts.length (Ae w.a.ts),sl idt w.tups.length (C7 w.tups)]) af;refine Ah (i:=6) Ad5 ?_;refine Ao ?_;intro ya J;refine Z3 ?_;refine J.out _ _ ⟨Ap (af.lay 1),?_⟩;clear J ya;refine Ah (i:=7) Ad5 ?_;refine Ao ?_;intro ya J;refine Z3 ?_;refine C4 (by first|exact Ef|exact Dx) ba a9 (by decide) (by rfl) a7 (by rfl) (by simp[fx1,fx2,fx3]) (by decide) Ad2 Ad2 ?_;intro idn bn aj ak ad ab ac aa;refine Z3 ?_;refine J.out _ _ ⟨fun _ o ho _=>by rw[ac];exact af.ver o ho,?_⟩;clear J ya;refine Ah (i:=8) Ad5 ?_;refine Ao ?_;intro ya J;refine Z3 ?_;refine J.out _ _ ⟨fun _ o ho _=>by rw[ac];exact af.ver o ho,?_⟩;clear J ya;have en:∀p,p<b'.nobj->bn.obj p=b'.obj p:=fun p hp=>by rw[ad,ai _ Ad2,kv _ hp]
   have en1:bn.obj b1.nobj=[ic q.head.p,sl idh (Bg v n q.head.ts).length (Ae (Bg v n q.head.ts)),sl i3 i xs,nilS]:=by rw[en _ ap,am]
   refine Ah (i:=9) Ad5 ?_;refine Ao ?_;intro ya J;refine Z3 ?_;refine J.out _ _ ⟨Bz rfl,?_⟩;clear J ya;refine B7 Ad5 ⟨rfl,?_⟩;simp only[upd,↓reduceIte,Nat.reduceEqDiff,h1,h2,h3,h6,h7,bg,bf,be,Ad0];refine⟨ak.put Ad2 _,by simp only[Ac];omega,?_,?_,idn,[x,y,z],?_,Own.put aj _ _,aw⟩
   ·rw[Al Ad2,en _ Ad2,ay]
   ·rw[Al Ad2,en _ Ad2,an]
   ·rw[Ak]
  ·clear kv ax hX hO a7 ay an am ap;rintro e s' b'' ⟨rfl,g1,g2,g3,g6,g7,g19,g20,g21,hK,ap,ay,an,idn,c',am,hO,aw⟩;have HX:Ad8 (EL La ((q.parts.take (i+1)).map (Ha v n)) (xs++c')):=by rw[Ad8,HG.out];exact EL.append bz.out (EL.single aw)
   have bl:=D6 _ _ aw
   repeat' (first|refine Z1 ?_|(refine Z8 ?_;intro ya J)|(refine Z4 ?_;clear J ya)|(refine Z2 ?_ ?_<;>intro h ah<;>try exact Xp)|(refine Z6 ?_;intro idn bn aj ak ad ab ac aa)|refine Z3 ?_|exact Zt|(apply J.out;clear J ya))
   refine⟨q.parts.length-(i+1),Ad2,i+1,idn,xs++c',?_⟩
   ((repeat' refine Zi ?_ ?_)<;>first|exact Xq|exact HX|exact (by rw[Abj,bl,a6.out];omega)|exact Xs)
 ·have bk:i=q.parts.length:=Ad2;subst bk;rw[Aa3]at hX;generalize hM:q.parts.length=M at*
  have HM:Ad8 _:=hM;clear hM au hi
  repeat' (first|refine Z1 ?_|(refine Z8 ?_;intro ya J)|(refine Z4 ?_;clear J ya)|(refine Z2 ?_ ?_<;>intro h ah<;>try exact Xp)|(refine Z6 ?_;intro idn bn aj ak ad ab ac aa)|refine Z3 ?_|exact Zt|(apply J.out;clear J ya))
  refine Ab (fun m s b'=>∃(j i4:Nat) (ys:List AV),m=q.nots.length-j/\j<=q.nots.length/\s 1=ic v/\s 2=ic n/\s 6=ptr (b.nobj+1) 0/\s 7=ptr b1.nobj 0/\s 36=sl inn q.nots.length nc/\s 37=ic q.nots.length/\s 38=ic j/\Keep b b'/\b1.nobj<b'.nobj/\b'.obj (b.nobj+1)=[ic 0,nilS,nilS,nilS]/\b'.obj b1.nobj=[ic q.head.p,sl idh (Bg v n q.head.ts).length (Ae (Bg v n q.head.ts)),sl i3 M xs,sl i4 j ys]/\Own b b' i4 j/\ys.length=j*2/\Ad8 (EL Ot ((q.nots.take j).map (E6 v n)) ys)) q.nots.length
   ⟨0,1,[],Ad2,Ad2,Ad3,Ad3,Ad3,Ad3,Ad3,Ad3,Ad4,hK,ap,an,by rw[am],Own.nil _ _,by simp,by simp[Ad8,EL]⟩ ?_
  clear h1 h2 h3 h6 h7 bg bf be hK ap ay an am hO bb;rintro m s b' ⟨j,i4,ys,rfl,hj,h1,h2,h6,h7,bv,bu,br,hK,ap,an,am,hO,a5,hY⟩;have bb:=hK.nobj;by_cases au:j<q.nots.length
  ·have ae:=Aav au;obtain⟨id,r,hd⟩:=Il hN ae;have az:=hq.na _ (Ab1 au);generalize q.nots[j]=w at hd ae az;have HG:Ad8 ((q.nots.take (j+1)).map (E6 v n)=(q.nots.take j).map (E6 v n)++[E6 v n w]):=by
    rw[Ad8,Aa8,ae];simp
   clear ae;have bh:w.ts.length<=1000:=Ad2;have a8:=fun b=>Lp w.p id w.ts v n bh b;have bw:Ad8 _:=hY;have a4:Ad8 _:=a5
   repeat' (first|refine Z1 ?_|(refine Z8 ?_;intro ya J)|(refine Z4 ?_;clear J ya)|(refine Z2 ?_ ?_<;>intro h ah<;>try exact Xp)|(refine Z6 ?_;intro idn bn aj ak ad ab ac aa)|refine Z3 ?_|exact Zt|(apply J.out;clear J ya))
   have ax:Keep b ((b'.new [ic 0,nilS]).put b'.nobj [ic w.p,sl id w.ts.length (Ae w.ts)]):=(hK.new _).put hK.nobj _;have kv:∀p,p<b'.nobj->((b'.new [ic 0,nilS]).put b'.nobj [ic w.p,sl id w.ts.length (Ae w.ts)]).obj p=b'.obj p:=fun p hp=>by rw[Al Ad2,Ai Ad2]
   refine A6 (Q:=fun e s' b''=>e= .normal/\s' 1=ic v/\s' 2=ic n/\s' 6=ptr (b.nobj+1) 0/\s' 7=ptr b1.nobj 0/\s' 36=sl inn q.nots.length nc/\s' 37=ic q.nots.length/\s' 38=ic j/\Keep b b''/\b1.nobj<b''.nobj/\b''.obj (b.nobj+1)=[ic 0,nilS,nilS,nilS]/\∃idn id',b''.obj b1.nobj=[ic q.head.p,sl idh (Bg v n q.head.ts).length (Ae (Bg v n q.head.ts)),sl i3 M xs,sl idn (j+1) (ys++[ic w.p,sl id' (Bg v n w.ts).length (Ae (Bg v n w.ts))])]/\Own b b'' idn (j+1)) ?_ ?_
   ·refine As Ad (fun _=>True) [9] [0,1,2,3,4] 5 #[true,true,true,true,true,false,false,false,false,false] Ad5 (fun _ _ _ h=>by cases h.1) ?_;intro ya J;refine Z3 ?_;refine J.out _ ?_;clear J ya;refine Ah (i:=5) Ad5 ?_;refine Ao ?_;intro ya J;refine Z3 ?_;refine ACalls.mono (a8 _) ?_;rintro _ b5 ⟨⟨id',rfl⟩,af⟩;refine Z3 ?_;refine J.out _ _ ⟨Ap af,?_⟩;clear J ya;have av:=af.nobj;have ai:=af.obj;simp only[Ac,Aa]at av ai;have ba:=ax.trans af;have a9:=Own.keep (Own.put (Own.new hO [ic 0,nilS]) b'.nobj [ic w.p,sl id w.ts.length (Ae w.ts)]) af;refine Ah (i:=6) Ad5 ?_;refine Ao ?_;intro ya J;refine Z3 ?_;refine J.out _ _ ⟨Ap (af.lay 1),?_⟩;clear J ya;refine Ah (i:=7) Ad5 ?_;refine Ao ?_;intro ya J;refine Z3 ?_;refine C4 (by first|exact Ef|exact Dx) ba a9 (by decide) (by rfl) a5 (by rfl) (by rfl) (by decide) Ad2 Ad2 ?_;intro idn bn aj ak ad ab ac aa;refine Z3 ?_;refine J.out _ _ ⟨fun _ o ho _=>by rw[ac];exact af.ver o ho,?_⟩;clear J ya;refine Ah (i:=8) Ad5 ?_;refine Ao ?_;intro ya J;refine Z3 ?_;refine J.out _ _ ⟨fun _ o ho _=>by rw[ac];exact af.ver o ho,?_⟩;clear J ya;have en:∀p,p<b'.nobj->bn.obj p=b'.obj p:=fun p hp=>by rw[ad,ai _ Ad2,kv _ hp]
    have en1:bn.obj b1.nobj=[ic q.head.p,sl idh (Bg v n q.head.ts).length (Ae (Bg v n q.head.ts)),sl i3 M xs,sl i4 j ys]:=by rw[en _ ap,am]
    refine Ah (i:=9) Ad5 ?_;refine Ao ?_;intro ya J;refine Z3 ?_;refine J.out _ _ ⟨Bz rfl,?_⟩;clear J ya;refine B7 Ad5 ⟨rfl,?_⟩;simp only[upd,↓reduceIte,Nat.reduceEqDiff,h1,h2,h6,h7,bv,bu,br,Ad0];refine⟨ak.put Ad2 _,by simp only[Ac];omega,?_,idn,id',?_,Own.put aj _ _⟩
    ·rw[Al Ad2,en _ Ad2,an]
    ·rw[Ak]
   ·clear kv ax hY hO a5 an am ap;rintro e s' b'' ⟨rfl,g1,g2,g6,g7,g36,g37,g38,hK,ap,an,idn,id',am,hO⟩;have HX:Ad8 (EL Ot ((q.nots.take (j+1)).map (E6 v n)) (ys++[ic w.p,sl id' (Bg v n w.ts).length (Ae (Bg v n w.ts))])):=by rw[Ad8,HG.out];exact EL.append bw.out (EL.single ⟨id',rfl⟩)
    repeat' (first|refine Z1 ?_|(refine Z8 ?_;intro ya J)|(refine Z4 ?_;clear J ya)|(refine Z2 ?_ ?_<;>intro h ah<;>try exact Xp)|(refine Z6 ?_;intro idn bn aj ak ad ab ac aa)|refine Z3 ?_|exact Zt|(apply J.out;clear J ya))
    refine⟨q.nots.length-(j+1),Ad2,j+1,idn,ys++[ic w.p,sl id' (Bg v n w.ts).length (Ae (Bg v n w.ts))],?_⟩
    ((repeat' refine Zi ?_ ?_)<;>first|exact Xq|exact HX|exact (by rw[Abj,a4.out];simp;omega)|exact Xs)
  ·have bj:j=q.nots.length:=Ad2;subst bj;rw[Aa3]at hY;have bp:(q.parts.map (Ha v n)).length=M:=by rw[Ace];exact HM.out
   have bo:(q.nots.map (E6 v n)).length=q.nots.length:=by rw[Ace]
   repeat' (first|refine Z1 ?_|(refine Z8 ?_;intro ya J)|(refine Z4 ?_;clear J ya)|(refine Z2 ?_ ?_<;>intro h ah<;>try exact Xp)|(refine Z6 ?_;intro idn bn aj ak ad ab ac aa)|refine Z3 ?_|exact Zt|(apply J.out;clear J ya))
   exact⟨_,rfl,⟨_,rfl,idh,i3,i4,xs,ys,by simp only[Cu,E6];rw[bp,bo],hX.out,hY.out⟩,hK.put Ad2 _⟩
end Go.Proofs.YtmoeoppbmhfbpaaGreatDoorH
