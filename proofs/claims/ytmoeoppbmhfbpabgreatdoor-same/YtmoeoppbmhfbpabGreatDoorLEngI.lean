import Derived.Test.YtmoeoppbmhfbpabGreatDoorLEngD
set_option maxHeartbeats 32000000
set_option maxRecDepth 100000
set_option linter.all false
namespace Go.Proofs.YtmoeoppbmhfbpabGreatDoorL
open Go.Abs
def Fs (v n:Int)(a:Df):Df:=⟨a.p,Bg v n a.ts⟩
def C3 (v n:Int)(q:Qry):Qry:=⟨Fs v n q.head,q.parts.map (H5 v n),q.nots.map (Fs v n)⟩
theorem Aam {p:Part}{c:List AV}(h:Mk p c):∃x y z,c=[x,y,z]/\flat x=true/\flat y=true/\flat z=true:=by
 obtain⟨id,idt,rfl⟩:=h;exact⟨_,_,_,rfl,rfl,rfl,rfl⟩
theorem Vr (q:Qry)(c:List AV)(v n:Int)(hc:EQ q c)(hq:Ou q)(d:St):ACalls Tryz.prog 190 [ag c,ic v,ic n] d fun r d'=>(∃c',r=ag c'/\EQ (C3 v n q) c')/\Keep d d':=by
 obtain⟨ih,ip,inn,pc,nc,rfl,hP,hN⟩:=hc;have hpl:=EL.length Ef hP;have b0:=EL.length Ic hN;have hl:=hq.pl;have b1:=hq.nl;have hh:=hq.hd;have bi:q.head.ts.length<=1000:=Ajm;have bn:=fun d=>M8 q.head.p ih q.head.ts v n bi d;refine Z9 53 [.cell 6 191] Tryz.func190 ?_
 repeat' (first|refine Z1 ?_|(refine Z8 ?_;intro κ hκ)|(refine Z4 ?_;clear hκ κ)|(refine Z2 ?_ ?_<;>intro h ah<;>try exact Xp)|(refine Z6 ?_;intro idn dn aj ak ad ab ac aa)|(refine Z5 ?_;refine Xi (bn _) ?_;rintro _ _ ⟨⟨idh,rfl⟩,a0⟩;(have a3:=a0.nobj;have ao:=a0.obj;have bq:=(((Keep.refl d).new _).new _).trans a0;simp only[Aa]at a3 ao))|refine Z3 ?_|exact⟨⟩|(apply hκ.out;clear hκ κ))
 rename_i d1;have o0:d1.obj d.nobj=[ic q.head.p,sl ih q.head.ts.length (Ac q.head.ts),sl ip q.parts.length pc,sl inn q.nots.length nc]:=by rw[ao _ Ajm,Ag Ajq,Ap]
 have o1:d1.obj (d.nobj+1)=[ic 0,nilS,nilS,nilS]:=by rw[ao _ Ajm,Bt Ajq Ajq]
 clear ao a0
 refine Af (fun m s d'=>∃(i i3:Nat) (xs:List AV),m=q.parts.length-i/\i<=q.parts.length/\s 1=ic v/\s 2=ic n/\s 3=ptr d.nobj 0/\s 6=ptr (d.nobj+1) 0/\s 7=ptr d1.nobj 0/\s 19=sl ip q.parts.length pc/\s 20=ic q.parts.length/\s 21=ic i/\Keep d d'/\d1.nobj<d'.nobj/\d'.obj d.nobj=[ic q.head.p,sl ih q.head.ts.length (Ac q.head.ts),sl ip q.parts.length pc,sl inn q.nots.length nc]/\d'.obj (d.nobj+1)=[ic 0,nilS,nilS,nilS]/\d'.obj d1.nobj=[ic q.head.p,sl idh (Bg v n q.head.ts).length (Ac (Bg v n q.head.ts)),sl i3 i xs,nilS]/\Own d d' i3 i/\xs.length=i*3/\Ajs (EL Mk ((q.parts.take i).map (H5 v n)) xs)) q.parts.length
  ⟨0,1,[],Ajm,Ajm,by simp[upd,initS],by simp[upd,initS],Ajo,Ajo,Ajo,Ajo,Ajo,rfl,Xs,Ajr,?_,?_,?_,Own.nil _ _,by simp,by simp[Ajs,EL]⟩ ?_
 ·rw[Ai Ajm,Ag Ajm,o0]
 ·rw[Ai Ajm,Ag Ajm,o1]
 ·rw[Ak]
 clear o0 o1 bq;rintro m s d' ⟨i,i3,xs,rfl,hi,h1,h2,h3,h6,h7,bg,bf,be,hK,ap,ay,an,am,hO,a7,hX⟩;have bb:=hK.nobj;by_cases au:i<q.parts.length
 ·have ae:=List.getElem?_eq_getElem au;obtain⟨id,idt,r,hd⟩:=Fa hP ae;have az:=hq.pa _ (Ah6 au);have bd:=hq.pt _ (Ah6 au);have bc:=hq.p3 _ (Ah6 au);generalize q.parts[i]=w at hd ae az bd bc;have HG:Ajs ((q.parts.take (i+1)).map (H5 v n)=(q.parts.take i).map (H5 v n)++[H5 v n w]):=by
   rw[Ajs,Agz,ae];simp
  clear ae;have a8:=fun d=>mU w id idt v n az bd bc d;have bz:Ajs _:=hX;have a6:Ajs _:=a7
  repeat' (first|refine Z1 ?_|(refine Z8 ?_;intro κ hκ)|(refine Z4 ?_;clear hκ κ)|(refine Z2 ?_ ?_<;>intro h ah<;>try exact Xp)|(refine Z6 ?_;intro idn dn aj ak ad ab ac aa)|refine Z3 ?_|exact⟨⟩|(apply hκ.out;clear hκ κ))
  have ax:Keep d ((d'.new [ic 0,nilS,nilS]).put d'.nobj [ic w.a.p,sl id w.a.ts.length (Ac w.a.ts),sl idt w.tups.length (Dd w.tups)]):=(hK.new _).put hK.nobj _;have kv:∀p,p<d'.nobj->((d'.new [ic 0,nilS,nilS]).put d'.nobj [ic w.a.p,sl id w.a.ts.length (Ac w.a.ts),sl idt w.tups.length (Dd w.tups)]).obj p=d'.obj p:=fun p hp=>by rw[Ai Ajm,Ag Ajm]
  refine Bu (Q:=fun e s' d''=>e= .normal/\s' 1=ic v/\s' 2=ic n/\s' 3=ptr d.nobj 0/\s' 6=ptr (d.nobj+1) 0/\s' 7=ptr d1.nobj 0/\s' 19=sl ip q.parts.length pc/\s' 20=ic q.parts.length/\s' 21=ic i/\Keep d d''/\d1.nobj<d''.nobj/\d''.obj d.nobj=[ic q.head.p,sl ih q.head.ts.length (Ac q.head.ts),sl ip q.parts.length pc,sl inn q.nots.length nc]/\d''.obj (d.nobj+1)=[ic 0,nilS,nilS,nilS]/\∃idn c',d''.obj d1.nobj=[ic q.head.p,sl idh (Bg v n q.head.ts).length (Ac (Bg v n q.head.ts)),sl idn (i+1) (xs++c'),nilS]/\Own d d'' idn (i+1)/\Mk (H5 v n w) c') ?_ ?_
  ·refine A2 Aj (fun _=>True) [9] [0,1,2,3,4] 5 #[true,true,true,true,true,false,false,false,false,false] Ajp (fun _ _ _ h=>by cases h.1) ?_;intro κ hκ;refine Z3 ?_;refine hκ.out _ ?_;clear hκ κ;refine Ao (i:=5) Ajp ?_;refine Ar ?_;intro κ hκ;refine Z3 ?_;refine ACalls.mono (a8 _) ?_;rintro _ d5 ⟨⟨c',rfl,aw⟩,af⟩;refine Z3 ?_;refine hκ.out _ _ ⟨Aq af,?_⟩;clear hκ κ;obtain⟨x,y,z,rfl,fx1,fx2,fx3⟩:=Aam aw;have av:=af.nobj;have ai:=af.obj;simp only[Ab,Aa]at av ai;have ba:=ax.trans af;have a9:=Own.keep (Own.put (Own.new hO [ic 0,nilS,nilS]) d'.nobj [ic w.a.p,sl id w.a.ts.length (Ac w.a.ts),sl idt w.tups.length (Dd w.tups)]) af;refine Ao (i:=6) Ajp ?_;refine Ar ?_;intro κ hκ;refine Z3 ?_;refine hκ.out _ _ ⟨Aq (af.lay 1),?_⟩;clear hκ κ;refine Ao (i:=7) Ajp ?_;refine Ar ?_;intro κ hκ;refine Z3 ?_;refine Bh (by first|exact Es|exact D3) ba a9 (by decide) (by rfl) a7 (by rfl) (by simp[fx1,fx2,fx3]) (by decide) Ajm Ajm ?_;intro idn dn aj ak ad ab ac aa;refine Z3 ?_;refine hκ.out _ _ ⟨fun _ o ho _=>by rw[ac];exact af.ver o ho,?_⟩;clear hκ κ;refine Ao (i:=8) Ajp ?_;refine Ar ?_;intro κ hκ;refine Z3 ?_;refine hκ.out _ _ ⟨fun _ o ho _=>by rw[ac];exact af.ver o ho,?_⟩;clear hκ κ;have en:∀p,p<d'.nobj->dn.obj p=d'.obj p:=fun p hp=>by rw[ad,ai _ Ajm,kv _ hp]
   have en1:dn.obj d1.nobj=[ic q.head.p,sl idh (Bg v n q.head.ts).length (Ac (Bg v n q.head.ts)),sl i3 i xs,nilS]:=by rw[en _ ap,am]
   refine Ao (i:=9) Ajp ?_;refine Ar ?_;intro κ hκ;refine Z3 ?_;refine hκ.out _ _ ⟨Bs rfl,?_⟩;clear hκ κ;refine A3 Ajp ⟨rfl,?_⟩;simp only[upd,↓reduceIte,Nat.reduceEqDiff,h1,h2,h3,h6,h7,bg,bf,be,true_and];refine⟨ak.put Ajm _,by simp only[Ab];omega,?_,?_,idn,[x,y,z],?_,Own.put aj _ _,aw⟩
   ·rw[Ai Ajm,en _ Ajm,ay]
   ·rw[Ai Ajm,en _ Ajm,an]
   ·rw[Ak]
  ·clear kv ax hX hO a7 ay an am ap;rintro e s' d'' ⟨rfl,g1,g2,g3,g6,g7,g19,g20,g21,hK,ap,ay,an,idn,c',am,hO,aw⟩;have HX:Ajs (EL Mk ((q.parts.take (i+1)).map (H5 v n)) (xs++c')):=by rw[Ajs,HG.out];exact EL.append bz.out (EL.single aw)
   have bm:=Ef _ _ aw
   repeat' (first|refine Z1 ?_|(refine Z8 ?_;intro κ hκ)|(refine Z4 ?_;clear hκ κ)|(refine Z2 ?_ ?_<;>intro h ah<;>try exact Xp)|(refine Z6 ?_;intro idn dn aj ak ad ab ac aa)|refine Z3 ?_|exact⟨⟩|(apply hκ.out;clear hκ κ))
   refine⟨q.parts.length-(i+1),Ajm,i+1,idn,xs++c',?_⟩
   ((repeat' with_reducible refine And.intro ?_ ?_)<;>first|exact Xq|exact (HX)|exact (by rw[Aha,bm,a6.out];omega)|exact Xs)
 ·have hil:i=q.parts.length:=Ajm;subst hil;rw[Agw]at hX;generalize hM:q.parts.length=M at*
  have HM:Ajs _:=hM;clear hM au hi
  repeat' (first|refine Z1 ?_|(refine Z8 ?_;intro κ hκ)|(refine Z4 ?_;clear hκ κ)|(refine Z2 ?_ ?_<;>intro h ah<;>try exact Xp)|(refine Z6 ?_;intro idn dn aj ak ad ab ac aa)|refine Z3 ?_|exact⟨⟩|(apply hκ.out;clear hκ κ))
  refine Af (fun m s d'=>∃(j i4:Nat) (ys:List AV),m=q.nots.length-j/\j<=q.nots.length/\s 1=ic v/\s 2=ic n/\s 6=ptr (d.nobj+1) 0/\s 7=ptr d1.nobj 0/\s 36=sl inn q.nots.length nc/\s 37=ic q.nots.length/\s 38=ic j/\Keep d d'/\d1.nobj<d'.nobj/\d'.obj (d.nobj+1)=[ic 0,nilS,nilS,nilS]/\d'.obj d1.nobj=[ic q.head.p,sl idh (Bg v n q.head.ts).length (Ac (Bg v n q.head.ts)),sl i3 M xs,sl i4 j ys]/\Own d d' i4 j/\ys.length=j*2/\Ajs (EL Mm ((q.nots.take j).map (Fs v n)) ys)) q.nots.length
   ⟨0,1,[],Ajm,Ajm,Ajn,Ajn,Ajn,Ajn,Ajn,Ajn,Ajo,hK,ap,an,by rw[am],Own.nil _ _,by simp,by simp[Ajs,EL]⟩ ?_
  clear h1 h2 h3 h6 h7 bg bf be hK ap ay an am hO bb;rintro m s d' ⟨j,i4,ys,rfl,hj,h1,h2,h6,h7,bv,bu,br,hK,ap,an,am,hO,a5,hY⟩;have bb:=hK.nobj;by_cases au:j<q.nots.length
  ·have ae:=List.getElem?_eq_getElem au;obtain⟨id,r,hd⟩:=Jl hN ae;have az:=hq.na _ (Ah6 au);generalize q.nots[j]=w at hd ae az;have HG:Ajs ((q.nots.take (j+1)).map (Fs v n)=(q.nots.take j).map (Fs v n)++[Fs v n w]):=by
    rw[Ajs,Agz,ae];simp
   clear ae;have bh:w.ts.length<=1000:=Ajm;have a8:=fun d=>M8 w.p id w.ts v n bh d;have bw:Ajs _:=hY;have a4:Ajs _:=a5
   repeat' (first|refine Z1 ?_|(refine Z8 ?_;intro κ hκ)|(refine Z4 ?_;clear hκ κ)|(refine Z2 ?_ ?_<;>intro h ah<;>try exact Xp)|(refine Z6 ?_;intro idn dn aj ak ad ab ac aa)|refine Z3 ?_|exact⟨⟩|(apply hκ.out;clear hκ κ))
   have ax:Keep d ((d'.new [ic 0,nilS]).put d'.nobj [ic w.p,sl id w.ts.length (Ac w.ts)]):=(hK.new _).put hK.nobj _;have kv:∀p,p<d'.nobj->((d'.new [ic 0,nilS]).put d'.nobj [ic w.p,sl id w.ts.length (Ac w.ts)]).obj p=d'.obj p:=fun p hp=>by rw[Ai Ajm,Ag Ajm]
   refine Bu (Q:=fun e s' d''=>e= .normal/\s' 1=ic v/\s' 2=ic n/\s' 6=ptr (d.nobj+1) 0/\s' 7=ptr d1.nobj 0/\s' 36=sl inn q.nots.length nc/\s' 37=ic q.nots.length/\s' 38=ic j/\Keep d d''/\d1.nobj<d''.nobj/\d''.obj (d.nobj+1)=[ic 0,nilS,nilS,nilS]/\∃idn id',d''.obj d1.nobj=[ic q.head.p,sl idh (Bg v n q.head.ts).length (Ac (Bg v n q.head.ts)),sl i3 M xs,sl idn (j+1) (ys++[ic w.p,sl id' (Bg v n w.ts).length (Ac (Bg v n w.ts))])]/\Own d d'' idn (j+1)) ?_ ?_
   ·refine A2 Aj (fun _=>True) [9] [0,1,2,3,4] 5 #[true,true,true,true,true,false,false,false,false,false] Ajp (fun _ _ _ h=>by cases h.1) ?_;intro κ hκ;refine Z3 ?_;refine hκ.out _ ?_;clear hκ κ;refine Ao (i:=5) Ajp ?_;refine Ar ?_;intro κ hκ;refine Z3 ?_;refine ACalls.mono (a8 _) ?_;rintro _ d5 ⟨⟨id',rfl⟩,af⟩;refine Z3 ?_;refine hκ.out _ _ ⟨Aq af,?_⟩;clear hκ κ;have av:=af.nobj;have ai:=af.obj;simp only[Ab,Aa]at av ai;have ba:=ax.trans af;have a9:=Own.keep (Own.put (Own.new hO [ic 0,nilS]) d'.nobj [ic w.p,sl id w.ts.length (Ac w.ts)]) af;refine Ao (i:=6) Ajp ?_;refine Ar ?_;intro κ hκ;refine Z3 ?_;refine hκ.out _ _ ⟨Aq (af.lay 1),?_⟩;clear hκ κ;refine Ao (i:=7) Ajp ?_;refine Ar ?_;intro κ hκ;refine Z3 ?_;refine Bh (by first|exact Es|exact D3) ba a9 (by decide) (by rfl) a5 (by rfl) (by rfl) (by decide) Ajm Ajm ?_;intro idn dn aj ak ad ab ac aa;refine Z3 ?_;refine hκ.out _ _ ⟨fun _ o ho _=>by rw[ac];exact af.ver o ho,?_⟩;clear hκ κ;refine Ao (i:=8) Ajp ?_;refine Ar ?_;intro κ hκ;refine Z3 ?_;refine hκ.out _ _ ⟨fun _ o ho _=>by rw[ac];exact af.ver o ho,?_⟩;clear hκ κ;have en:∀p,p<d'.nobj->dn.obj p=d'.obj p:=fun p hp=>by rw[ad,ai _ Ajm,kv _ hp]
    have en1:dn.obj d1.nobj=[ic q.head.p,sl idh (Bg v n q.head.ts).length (Ac (Bg v n q.head.ts)),sl i3 M xs,sl i4 j ys]:=by rw[en _ ap,am]
    refine Ao (i:=9) Ajp ?_;refine Ar ?_;intro κ hκ;refine Z3 ?_;refine hκ.out _ _ ⟨Bs rfl,?_⟩;clear hκ κ;refine A3 Ajp ⟨rfl,?_⟩;simp only[upd,↓reduceIte,Nat.reduceEqDiff,h1,h2,h6,h7,bv,bu,br,true_and];refine⟨ak.put Ajm _,by simp only[Ab];omega,?_,idn,id',?_,Own.put aj _ _⟩
    ·rw[Ai Ajm,en _ Ajm,an]
    ·rw[Ak]
   ·clear kv ax hY hO a5 an am ap;rintro e s' d'' ⟨rfl,g1,g2,g6,g7,g36,g37,g38,hK,ap,an,idn,id',am,hO⟩;have HX:Ajs (EL Mm ((q.nots.take (j+1)).map (Fs v n)) (ys++[ic w.p,sl id' (Bg v n w.ts).length (Ac (Bg v n w.ts))])):=by rw[Ajs,HG.out];exact EL.append bw.out (EL.single ⟨id',rfl⟩)
    repeat' (first|refine Z1 ?_|(refine Z8 ?_;intro κ hκ)|(refine Z4 ?_;clear hκ κ)|(refine Z2 ?_ ?_<;>intro h ah<;>try exact Xp)|(refine Z6 ?_;intro idn dn aj ak ad ab ac aa)|refine Z3 ?_|exact⟨⟩|(apply hκ.out;clear hκ κ))
    refine⟨q.nots.length-(j+1),Ajm,j+1,idn,ys++[ic w.p,sl id' (Bg v n w.ts).length (Ac (Bg v n w.ts))],?_⟩
    ((repeat' with_reducible refine And.intro ?_ ?_)<;>first|exact Xq|exact (HX)|exact (by rw[Aha,a4.out];simp;omega)|exact Xs)
  ·have bl:j=q.nots.length:=Ajm;subst bl;rw[Agw]at hY;have bp:(q.parts.map (H5 v n)).length=M:=by rw[Aij];exact HM.out
   have bo:(q.nots.map (Fs v n)).length=q.nots.length:=by rw[Aij]
   repeat' (first|refine Z1 ?_|(refine Z8 ?_;intro κ hκ)|(refine Z4 ?_;clear hκ κ)|(refine Z2 ?_ ?_<;>intro h ah<;>try exact Xp)|(refine Z6 ?_;intro idn dn aj ak ad ab ac aa)|refine Z3 ?_|exact⟨⟩|(apply hκ.out;clear hκ κ))
   exact⟨_,rfl,⟨_,rfl,idh,i3,i4,xs,ys,by simp only[C3,Fs];rw[bp,bo],hX.out,hY.out⟩,hK.put Ajm _⟩
def Num (ar:Nat)(t:Bc):Prop:=∀i,i<ar->∃k:Nat,t[i]?=some (k:Int)/\k<1026
def QN (q:Qry):Prop:=∀p∈q.parts,∀t∈p.tups,Num p.a.ts.length t
def Gq (f:Nat->Bool):List AV:=(List.range 1026).map fun i=>sc (.bool (f i))
theorem jD:tV 1026 (.bool false)=Gq fun _=>false:=by
 unfold tV Gq;rw[List.map_const'];simp[cst1]
theorem nK (f:Nat->Bool):(Gq f).length=1026:=by simp[Gq]
theorem nL (f:Nat->Bool){k:Nat}(h:k<1026):(Gq f)[k]?=some (sc (.bool (f k))):=by simp[Gq,h]
theorem nJ (f:Nat->Bool){k:Nat}(h:k<1026)(b:Bool):(Gq f).set k (sc (.bool b))=Gq fun j=>if j=k then b else f j:=by
 apply Ag4;intro n;rw[List.getElem?_set];by_cases hn:n<1026
 ·by_cases he:k=n
  ·subst he;simp[Gq,hn]
  ·have:n≠k:=fun e=>he e.symm;simp[Gq,hn,he,this]
 ·have:k≠n:=Ajm;simp[Gq,hn,this]
def qZ (pl:Int)(acc:List Int)(t:Bc):List Int:=if H4 t pl∈acc then acc else acc++[H4 t pl]
def Wu (tups:List Bc)(pl:Int):List Int:=tups.foldl (qZ pl) []
def Lb (q:Qry)(v:Int):List Int:=match q.parts.find? (fun p=>A8 p.a.ts v)with
 |some p=>Wu p.tups (Iz p.a.ts v)
 |none=>[]
theorem sZ {α:Type}{f:α->Bool}{l:List α}{i:Nat}{x:α}(hn:∀y∈l.take i,f y=false)(hi:l[i]?=some x)(hx:f x=true):l.find? f=some x:=by
 have aa:=(List.getElem?_eq_some_iff.1 hi);obtain⟨h1,h2⟩:=aa
 conv=>lhs;rw[<-Aiv i l]
 rw[List.find?_append,List.find?_eq_none.2 (fun y hy=>by rw[hn y hy];simp),Ahl h1,h2];simp[hx]
theorem Ky (q:Qry)(c:List AV)(v:Int)(hc:EQ q c)(hq:Ou q)(hN:QN q)(d:St):ACalls Tryz.prog 189 [ag c,ic v] d fun r d'=>(∃id,r=sl id (Lb q v).length (Am (Lb q v)))/\Keep d d':=by
 obtain⟨ih,ip,inn,pc,nc,rfl,hP,-⟩:=hc;have hpl:=EL.length Ef hP;have hl:=hq.pl;have hz:=jD;refine Z9 53 [.tmp 4] Tryz.func189 ?_
 repeat' (first|refine Z1 ?_|(refine Z8 ?_;intro κ hκ)|(refine Z4 ?_;clear hκ κ)|(refine Z2 ?_ ?_<;>intro h af<;>try exact Xp)|(refine Z6 ?_;intro idn dn ai aj ae aa ad ab)|refine Z3 ?_|exact⟨⟩|(apply hκ.out;clear hκ κ))
 refine Af (fun m s d'=>∃i:Nat,m=q.parts.length-i/\i<=q.parts.length/\s 1=ic v/\s 5=nilS/\s 6=ptr (d.nobj+1) 0/\s 14=sl ip q.parts.length pc/\s 15=ic q.parts.length/\s 16=ic i/\Keep d d'/\d.nobj+1<d'.nobj/\d'.obj (d.nobj+1)=Gq (fun _=>false)/\Ajs (∀p∈q.parts.take i,A8 p.a.ts v=false)) q.parts.length
  ⟨0,Ajm,Ajm,by simp[upd,initS],Ajo,Ajo,Ajo,Ajo,rfl,Xs,Ajq,?_,by simp[Ajs]⟩ ?_
 ·rw[Bt Ajq Ajq]
 rintro m s d' ⟨i,rfl,hi,h1,h5,h6,bi,bh,bg,hK,a6,aw,hA⟩;have a5:=hK.nobj;by_cases ap:i<q.parts.length
 ·have ac:=List.getElem?_eq_getElem ap;obtain⟨id,idt,r,hd⟩:=Fa hP ac;have bf:=hq.pa _ (Ah6 ap);have be:=hq.pt _ (Ah6 ap);have a0:=hq.p3 _ (Ah6 ap);have a7:=hN _ (Ah6 ap);generalize q.parts[i]=w at hd ac bf be a0 a7;have bb:w.a.ts.length<=1000:=Ajm;have av:=fun d=>Ga w.a.p id w.a.ts v bb d;have a4:Keep d ((d'.new [ic 0,nilS,nilS]).put d'.nobj [ic w.a.p,sl id w.a.ts.length (Ac w.a.ts),sl idt w.tups.length (Dd w.tups)]):=(hK.new _).put hK.nobj _;cases hv:A8 w.a.ts v with
  |false=>
   have hp:Iz w.a.ts v= -1:=J1 (by simpa[A8]using hv);have HS:Ajs (∀p∈q.parts.take (i+1),A8 p.a.ts v=false):=by
    rw[Ajs,Agz,ac,Aia];intro p hp;rcases Ahs.1 hp with hp|hp
    ·exact hA.out p hp
    ·simp at hp;subst hp;exact hv
   rw[hp]at av;clear hp ac hA
   repeat' (first|refine Z1 ?_|(refine Z8 ?_;intro κ hκ)|(refine Z4 ?_;clear hκ κ)|(refine Z2 ?_ ?_<;>intro h af<;>try exact Xp)|(refine Z6 ?_;intro idn dn ai aj ae aa ad ab)|(refine Z5 ?_;refine Xi (av _) ?_;rintro _ _ ⟨rfl,ak⟩;(have am:=ak.nobj;have ah:=ak.obj;have a3:=a4.trans ak;simp only[Ab,Aa]at am ah))|refine Z3 ?_|exact⟨⟩|(apply hκ.out;clear hκ κ))
   refine⟨q.parts.length-(i+1),Ajm,i+1,?_⟩
   ((repeat' with_reducible refine And.intro ?_ ?_)<;>first|exact Xq|exact (HS)|exact Xs)
  |true=>
   obtain⟨pl,ax,ay⟩:=J2 hv;have HR:Ajs (Lb q v=Wu w.tups pl):=by rw[Ajs,Lb,sZ hA.out ac hv];simp only[ay]
   rw[ay]at av;clear ay ac hA;have a9:pl<3:=Ajm;have ba:((pl:Int)== -1)=false:=by simp
   have bm:=E7 a0
   repeat' (first|refine Z1 ?_|(refine Z8 ?_;intro κ hκ)|(refine Z4 ?_;clear hκ κ)|(refine Z2 ?_ ?_<;>intro h af<;>try exact Xp)|(refine Z6 ?_;intro idn dn ai aj ae aa ad ab)|(refine Z5 ?_;refine Xi (av _) ?_;rintro _ _ ⟨rfl,ak⟩;(have am:=ak.nobj;have ah:=ak.obj;have a3:=a4.trans ak;simp only[Ab,Aa]at am ah))|refine Z3 ?_|exact⟨⟩|(apply hκ.out;clear hκ κ))
   rename_i d1;have o1:d1.obj (d.nobj+1)=Gq (fun _=>false):=by rw[ah _ Ajm,Ai Ajm,Ag Ajm,aw]
   clear ah ak
   refine Af (fun m s d''=>∃(j i3:Nat) (vs:List Int) (f:Nat->Bool),m=w.tups.length-j/\j<=w.tups.length/\s 5=sl i3 vs.length (Am vs)/\s 6=ptr (d.nobj+1) 0/\s 9=ic pl/\s 27=sl idt w.tups.length (Dd w.tups)/\s 28=ic w.tups.length/\s 29=ic j/\Keep d d''/\d.nobj+1<d''.nobj/\d''.obj (d.nobj+1)=Gq f/\Own d d'' i3 vs.length/\vs.length<=j/\Ajs (vs=Wu (w.tups.take j) pl/\∀k:Nat,f k=true↔(k:Int)∈vs)) w.tups.length
    ⟨0,1,[],fun _=>false,Ajm,Ajm,by simp[upd, *,Am],Ajn,Ajo,Ajo,Ajo,rfl,a3,Ajm,o1,Own.nil _ _,by simp,by simp[Wu],by simp⟩ ?_
   clear o1 h1 h5 h6 bi bh bg hK a6 aw a5 a3 a4;rintro m s d'' ⟨j,i3,vs,f,rfl,hj,h5,h6,h9,bq,bp,bo,hK,a6,aw,hO,bl,hX⟩;have a5:=hK.nobj;have hil:=Bn vs;by_cases ao:j<w.tups.length
   ·have ac:=List.getElem?_eq_getElem ao;obtain⟨an,r2,bd⟩:=Gj a0 ac;obtain⟨x,au,hx⟩:=a7 _ (Ah6 ao) pl ax;generalize w.tups[j]=t at bd ac an au;have bn:=Jr au;have HS:Ajs (Wu (w.tups.take (j+1)) pl=if (x:Int)∈vs then vs else vs++[(x:Int)]):=by
     have a8:H4 t pl=(x:Int):=by simp[H4,au]
     rw[Ajs,Agz,ac,Aia,Wu,Aif,hX.out.1];simp only[Agv,List.foldl_nil,qZ,a8];rfl
    clear ac au;have f1:=Ds an;have f2:=H9 an;have f3:=D5 an;have f4:=Hz an;have f5:=Co t;have f6:=Pw an;have g1:=nL f hx;have g2:=nJ f hx true;have g3:=nK f;by_cases hm:(x:Int)∈vs
    ·have az:f x=true:=(hX.out.2 x).2 hm;have HX:Ajs (vs=Wu (w.tups.take (j+1)) pl/\∀k:Nat,f k=true↔(k:Int)∈vs):=⟨by rw[HS.out,if_pos hm],hX.out.2⟩;rw[az]at g1;clear hX HS hm g2
     repeat' (first|refine Z1 ?_|(refine Z8 ?_;intro κ hκ)|(refine Z4 ?_;clear hκ κ)|(refine Z2 ?_ ?_<;>intro h af<;>try exact Xp)|(refine Z6 ?_;intro idn dn ai aj ae aa ad ab)|refine Z3 ?_|exact⟨⟩|(apply hκ.out;clear hκ κ))
     refine⟨w.tups.length-(j+1),Ajm,j+1,i3,vs,f,?_⟩
     ((repeat' with_reducible refine And.intro ?_ ?_)<;>first|exact Xq|exact (Own.put (Own.new hO _) _ _)|exact (HX)|exact Xs)
    ·have az:f x=false:=by
      cases h:f x with
      |false=>rfl
      |true=>exact absurd ((hX.out.2 x).1 h) hm
     have HX:Ajs (vs++[(x:Int)]=Wu (w.tups.take (j+1)) pl/\∀k:Nat,(if k=x then true else f k)=true↔(k:Int)∈vs++[(x:Int)]):=by
      refine⟨by rw[HS.out,if_neg hm],fun k=>?_⟩;have h2:=hX.out.2 k;by_cases e:k=x
      ·subst e;simp
      ·rw[if_neg e,h2];have:¬(k:Int)=(x:Int):=Ajm;simp[this]
     rw[az]at g1;clear hX HS hm
     repeat' (first|refine Z1 ?_|(refine Z8 ?_;intro κ hκ)|(refine Z4 ?_;clear hκ κ)|(refine Z2 ?_ ?_<;>intro h af<;>try exact Xp)|(refine Z6 ?_;intro idn dn ai aj ae aa ad ab)|refine Z3 ?_|exact⟨⟩|(apply hκ.out;clear hκ κ))
     refine Bh (by first|exact Qm) (((hK.new _).put hK.nobj _).put Ajm _) (Own.put (Own.put (Own.new hO _) _ _) _ _) (by decide) (by rfl) (by rw[hil,Nat.mul_one]) (by rfl) (by rfl) (by decide) Ajm Ajm ?_;intro idn dn ai aj ae aa ad ab;simp only[Ab,Aa]at aa;refine Z3 ?_
     repeat' (first|refine Z1 ?_|(refine Z8 ?_;intro κ hκ)|(refine Z4 ?_;clear hκ κ)|(refine Z2 ?_ ?_<;>intro h af<;>try exact Xp)|(refine Z6 ?_;intro idn dn ai aj ae aa ad ab)|refine Z3 ?_|exact⟨⟩|(apply hκ.out;clear hκ κ))
     refine⟨w.tups.length-(j+1),Ajm,j+1,idn,vs++[(x:Int)],fun k=>if k=x then true else f k,?_⟩
     ((repeat' with_reducible refine And.intro ?_ ?_)<;>first|exact Xq|exact (by simpa using ai)|exact (HX)|exact (by simp[Am])|exact Xs)
   ·have bc:j=w.tups.length:=Ajm;subst bc;obtain⟨x1,-⟩:=hX.out;rw[Agw]at x1;rw[<-x1]at HR;have HR:=HR.out
    repeat' (first|refine Z1 ?_|(refine Z8 ?_;intro κ hκ)|(refine Z4 ?_;clear hκ κ)|(refine Z2 ?_ ?_<;>intro h af<;>try exact Xp)|(refine Z6 ?_;intro idn dn ai aj ae aa ad ab)|refine Z3 ?_|exact⟨⟩|(apply hκ.out;clear hκ κ))
    first|exact⟨_,rfl,⟨i3,rfl⟩,hK⟩|exact⟨_,rfl,⟨i3,by rw[HR]⟩,hK⟩|exact⟨_,rfl,⟨i3,rfl⟩⟩|exact⟨_,rfl,i3,rfl⟩
 ·have hil:i=q.parts.length:=Ajm;subst hil;rw[Agw]at hA;have HR:Lb q v=[]:=by
   unfold Lb;rw[List.find?_eq_none.2 (fun p hp=>by rw[hA.out p hp];simp)]
  repeat' (first|refine Z1 ?_|(refine Z8 ?_;intro κ hκ)|(refine Z4 ?_;clear hκ κ)|(refine Z2 ?_ ?_<;>intro h af<;>try exact Xp)|(refine Z6 ?_;intro idn dn ai aj ae aa ad ab)|refine Z3 ?_|exact⟨⟩|(apply hκ.out;clear hκ κ))
  first|exact⟨_,rfl,⟨1,rfl⟩,hK⟩|exact⟨_,rfl,⟨1,by rw[HR];rfl⟩,hK⟩|exact⟨_,rfl,1,rfl⟩|exact⟨_,rfl,1,by rw[HR];rfl⟩
theorem Hv {P:Program}{t:TypeId}{z b:Nat}{zc:List Value}{σ0 d:St}{id id2 n m m':Nat}{xs ys:List AV}{K:AV->St->Prop}(ht:Nm P t=some (z,b,zc))(hK:Keep σ0 d)(hO:Own σ0 d id n)
  (hz:0<z) (hzc:zc.length=z) (hx:xs.length=n*z) (hy:ys.length=m*z) (hf:ys.all flat=true) (hm:0<m) (hb:(n+m)*b<=140737488355328) (hl:n+m<=1099511627776)
  (h:∀id' d',Own σ0 d' id' (n+m)->Keep σ0 d'->d'.obj=d.obj->d'.nobj=d.nobj->d'.ver=d.ver->d.ntop<d'.ntop->(∀i k,Own σ0 d i k->(id=1\/id≠i)->Own σ0 d' i k/\(id'=1\/id'≠i))->K (sl id' (n+m) (xs++ys)) d'):Ib P t t (sl id n xs) (sl id2 m ys) (d.lay m') K:=by
 unfold Ib cU;left;simp only[ht];rw[if_pos ⟨trivial,hz,hzc,hx,hy,hf,hm,hb,hl⟩];rcases hO with⟨rfl,rfl⟩|⟨k,rfl,h2,h3,h4,h5⟩
 ·have ab:xs=[]:=Agu (by simpa using hx);subst ab
  have:=h ((d.lay m').ntop+2) ((d.lay m').lay m) (by rw[Ag9];exact Own.made (hK.lay m') hm) ((hK.lay m').lay m) rfl rfl rfl (by simp[St.lay];omega) (fun i k ho _=>by
   refine⟨ho.keep (((Keep.refl _).lay _).lay _),?_⟩;right;rcases ho with⟨rfl,-⟩|⟨j,rfl,-,hj,-⟩
   ·simp[St.lay]
   ·simp[St.lay];omega)
  simpa using this
 ·have e1:(d.lay m').top k=n:=by simp[St.lay];rw[if_neg Ajm];exact h4
  simp only;rw[if_pos ⟨e1,h5⟩]
  exact h (k+2) _ (.inr ⟨k,rfl,h2,by simp[St.raise,St.lay];omega,by simp[St.raise],Ajm⟩) ((hK.lay m').raise h2 _) rfl rfl rfl (by simp[St.raise,St.lay]) (fun i j ho aa=>by
   have aa:k+2≠i:=by rcases aa with h|h<;>omega
   refine⟨?_,.inr aa⟩;rcases ho with ho|⟨j',rfl,g1,g2,g3,g4⟩
   ·exact .inl ho
   ·exact .inr ⟨j',rfl,g1,by simp[St.raise,St.lay];omega,by simp[St.raise,St.lay];rw[if_neg Ajm,if_neg Ajm];exact g3,g4⟩)
def Ez (f:Nat->Nat):List AV:=(List.range 1026).map fun i=>ic (f i:Nat)
theorem gT:tV 1026 (.int .i64 0)=Ez fun _=>0:=by
 unfold tV Ez;rw[List.map_const'];simp[cst1]
theorem Ve (f:Nat->Nat):(Ez f).length=1026:=by simp[Ez]
theorem Vf (f:Nat->Nat){k:Nat}(h:k<1026):(Ez f)[k]?=some (ic (f k:Nat)):=by simp[Ez,h]
theorem mC (f:Nat->Nat){k:Nat}(h:k<1026)(b:Nat):(Ez f).set k (ic (b:Nat))=Ez fun j=>if j=k then b else f j:=by
 apply Ag4;intro n;rw[List.getElem?_set];by_cases hn:n<1026
 ·by_cases he:k=n
  ·subst he;simp[Ez,hn]
  ·have:n≠k:=fun e=>he e.symm;simp[Ez,hn,he,this]
 ·have:k≠n:=Ajm;simp[Ez,hn,this]
def occ (v:Int)(n:Int)(p:Part):Bool:=p.tups.any fun t=>H4 t (Iz p.a.ts v)==n
def Dx (l:List Part)(v n:Int):Bool:=l.all fun p=>!A8 p.a.ts v||occ v n p
def Ge (l:List Part)(v:Int)(p:Part):Part:=if A8 p.a.ts v=true then⟨p.a,p.tups.filter fun t=>Dx l v (H4 t (Iz p.a.ts v))⟩else p
def Fo (q:Qry)(v:Int):Qry:={q with parts:=q.parts.map (Ge q.parts v)}
def gF (f:Nat->Nat)(a:Nat)(pl:Int)(l:List Bc)(k:Nat):Nat:=if f k=a/\l.any (fun t=>H4 t pl==(k:Int))=true then a+1 else f k
theorem Acf {f:Nat->Nat}{a:Nat}{pl:Int}{l:List Bc}{t:Bc}{x:Nat}(ht:H4 t pl=(x:Int)):gF f a pl (l++[t])=fun k=>if k=x/\gF f a pl l x=a then a+1 else gF f a pl l k:=by
 funext k;have aa:(l++[t]).any (fun t=>H4 t pl==(k:Int))=(l.any (fun t=>H4 t pl==(k:Int))||decide (k=x)):=by
  rw[Aiz];simp only[List.any_cons,List.any_nil,Bool.or_false,ht];congr 1;by_cases e:k=x
  ·subst e;simp
  ·have:¬(x:Int)=(k:Int):=Ajm;simp[e,this]
 unfold gF;rw[aa];by_cases e:k=x
 ·subst e;by_cases h1:f k=a
  ·cases h2:l.any (fun t=>H4 t pl==(k:Int))<;>simp[h1]
  ·simp[h1]
 ·simp[e]
theorem Aeq (f:Nat->Nat)(a:Nat)(pl:Int):gF f a pl []=f:=by funext k;simp[gF]
theorem iX (q:Qry)(c:List AV)(v:Int)(hc:EQ q c)(hq:Ou q)(hN:QN q)(d:St):ACalls Tryz.prog 255 [ag c,ic v] d fun r d'=>(∃c',r=ag c'/\EQ (Fo q v) c')/\Keep d d':=by
 obtain⟨ih,ip,inn,pc,nc,rfl,hP,ce⟩:=hc;have hpl:=EL.length Ef hP;have hl:=hq.pl;have hz:=gT;refine Z9 113 [.cell 4 191] Tryz.func255 ?_
 repeat' (first|refine Z1 ?_|(refine Z8 ?_;intro κ hκ)|(refine Z4 ?_;clear hκ κ)|(refine Z2 ?_ ?_<;>intro h ah<;>try exact Xp)|(refine Z6 ?_;intro idn dn aj ak ae aa af ab)|refine Z3 ?_|exact⟨⟩|(apply hκ.out;clear hκ κ))
 refine Af (fun m s d'=>∃(i a:Nat) (f:Nat->Nat),m=q.parts.length-i/\i<=q.parts.length/\s 1=ic v/\s 2=ptr d.nobj 0/\s 4=ptr (d.nobj+1) 0/\s 5=ptr (d.nobj+2) 0/\s 6=ic a/\s 20=sl ip q.parts.length pc/\s 21=ic q.parts.length/\s 22=ic i/\Keep d d'/\d.nobj+2<d'.nobj/\d'.obj d.nobj=[ic q.head.p,sl ih q.head.ts.length (Ac q.head.ts),sl ip q.parts.length pc,sl inn q.nots.length nc]/\d'.obj (d.nobj+1)=[ic 0,nilS,nilS,nilS]/\d'.obj (d.nobj+2)=Ez f/\a<=i/\(∀k,f k<=a)/\Ajs (∀k,f k=a↔Dx (q.parts.take i) v (k:Int)=true)) q.parts.length
  ⟨0,0,fun _=>0,Ajm,Ajm,by simp[upd,initS],Ajo,Ajo,Ajo,Ajo,Ajo,Ajo,rfl,Xs,Ajq,?_,?_,?_,Ajm,by simp,by simp[Ajs,Dx]⟩ ?_
 ·rw[Ag Ajq,Ag Ajq,Ap]
 ·rw[Ag Ajq,Bt Ajq Ajq]
 ·rw[Bt Ajq Ajq]
 rintro m s d' ⟨i,a,f,rfl,hi,h1,h2,h4,h5,h6,bv,bu,br,hK,a4,a9,av,au,co,ba,hA⟩;have bw:=hK.nobj;by_cases an:i<q.parts.length
 ·have ac:=List.getElem?_eq_getElem an;obtain⟨id,idt,r,hd⟩:=Fa hP ac;have bn:=hq.pa _ (Ah6 an);have bm:=hq.pt _ (Ah6 an);have a5:=hq.p3 _ (Ah6 an);have a8:=hN _ (Ah6 an);generalize q.parts[i]=w at hd ac bn bm a5 a8;have bh:w.a.ts.length<=1000:=Ajm;have ax:=fun d=>Ga w.a.p id w.a.ts v bh d;have a7:Keep d ((d'.new [ic 0,nilS,nilS]).put d'.nobj [ic w.a.p,sl id w.a.ts.length (Ac w.a.ts),sl idt w.tups.length (Dd w.tups)]):=(hK.new _).put hK.nobj _;have bb:Ajs (∀n,Dx (q.parts.take (i+1)) v n=(Dx (q.parts.take i) v n&&(!A8 w.a.ts v||occ v n w))):=by
   intro n;rw[Agz,ac,Aia,Dx,List.all_append];simp[Dx]
  clear ac;cases hv:A8 w.a.ts v with
  |false=>
   have hp:Iz w.a.ts v= -1:=J1 (by simpa[A8]using hv);have HS:Ajs (∀k,f k=a↔Dx (q.parts.take (i+1)) v (k:Int)=true):=by
    intro k;rw[bb.out,hv,hA.out k];simp
   rw[hp]at ax;clear hp hA bb
   repeat' (first|refine Z1 ?_|(refine Z8 ?_;intro κ hκ)|(refine Z4 ?_;clear hκ κ)|(refine Z2 ?_ ?_<;>intro h ah<;>try exact Xp)|(refine Z6 ?_;intro idn dn aj ak ae aa af ab)|(refine Z5 ?_;refine Xi (ax _) ?_;rintro _ _ ⟨rfl,ai⟩;(have ao:=ai.nobj;have ad:=ai.obj;have a6:=a7.trans ai;simp only[Ab,Aa]at ao ad))|refine Z3 ?_|exact⟨⟩|(apply hκ.out;clear hκ κ))
   refine⟨q.parts.length-(i+1),Ajm,i+1,a,f,?_⟩
   ((repeat' with_reducible refine And.intro ?_ ?_)<;>first|exact Xq|exact (HS)|exact Xs)
  |true=>
   obtain⟨pl,a0,a3⟩:=J2 hv;have HS:Ajs (∀k,gF f a pl w.tups k=a+1↔Dx (q.parts.take (i+1)) v (k:Int)=true):=by
    intro k;have h1:=hA.out k;have h2:=ba k;rw[bb.out,hv,Ags,<-h1];simp only[Ahh,Bool.false_or,occ,a3];unfold gF;by_cases hc:f k=a/\w.tups.any (fun t=>H4 t pl==(k:Int))=true
    ·rw[if_pos hc];exact⟨fun _=>hc,fun _=>rfl⟩
    ·rw[if_neg hc];exact⟨fun h=>Ajm,fun h=>absurd h hc⟩
   have ch:Ajs (∀k,gF f a pl w.tups k<=a+1):=by
    intro k;have h2:=ba k;unfold gF;split<;>omega
   rw[a3]at ax;clear a3 hA bb;have be:pl<3:=Ajm;have bg:((pl:Int)== -1)=false:=by simp
   have b6:=E7 a5
   repeat' (first|refine Z1 ?_|(refine Z8 ?_;intro κ hκ)|(refine Z4 ?_;clear hκ κ)|(refine Z2 ?_ ?_<;>intro h ah<;>try exact Xp)|(refine Z6 ?_;intro idn dn aj ak ae aa af ab)|(refine Z5 ?_;refine Xi (ax _) ?_;rintro _ _ ⟨rfl,ai⟩;(have ao:=ai.nobj;have ad:=ai.obj;have a6:=a7.trans ai;simp only[Ab,Aa]at ao ad))|refine Z3 ?_|exact⟨⟩|(apply hκ.out;clear hκ κ))
   rename_i d1;have p0:d1.obj d.nobj=[ic q.head.p,sl ih q.head.ts.length (Ac q.head.ts),sl ip q.parts.length pc,sl inn q.nots.length nc]:=by rw[ad _ Ajm,Ai Ajm,Ag Ajm,a9]
   have p1:d1.obj (d.nobj+1)=[ic 0,nilS,nilS,nilS]:=by rw[ad _ Ajm,Ai Ajm,Ag Ajm,av]
   have p2:d1.obj (d.nobj+2)=Ez f:=by rw[ad _ Ajm,Ai Ajm,Ag Ajm,au]
   clear ad ai
   refine Af (fun m s d''=>∃(j:Nat) (g:Nat->Nat),m=w.tups.length-j/\j<=w.tups.length/\s 1=ic v/\s 2=ptr d.nobj 0/\s 4=ptr (d.nobj+1) 0/\s 5=ptr (d.nobj+2) 0/\s 6=ic a/\s 9=ic pl/\s 20=sl ip q.parts.length pc/\s 21=ic q.parts.length/\s 22=ic i/\s 33=sl idt w.tups.length (Dd w.tups)/\s 34=ic w.tups.length/\s 35=ic j/\Keep d d''/\d.nobj+2<d''.nobj/\d''.obj d.nobj=[ic q.head.p,sl ih q.head.ts.length (Ac q.head.ts),sl ip q.parts.length pc,sl inn q.nots.length nc]/\d''.obj (d.nobj+1)=[ic 0,nilS,nilS,nilS]/\d''.obj (d.nobj+2)=Ez g/\(∀k,g k<=a+1)/\Ajs (g=gF f a pl (w.tups.take j))) w.tups.length
    ⟨0,f,Ajm,Ajm,Ajn,Ajn,Ajn,Ajn,Ajn,Ajo,Ajn,Ajn,Ajn,Ajo,Ajo,rfl,a6,Ajm,p0,p1,p2,fun k=>by have:=ba k;omega,by simp[Ajs,Aeq]⟩ ?_
   clear p0 p1 p2 h1 h2 h4 h5 h6 bv bu br hK a4 a9 av au bw a6 a7;rintro m s d'' ⟨j,g,rfl,hj,h1,h2,h4,h5,h6,h9,bv,bu,br,cv,cu,ct,hK,a4,a9,av,au,cb,hX⟩;have bw:=hK.nobj;by_cases ap:j<w.tups.length
   ·have ac:=List.getElem?_eq_getElem ap;obtain⟨am,r2,bl⟩:=Gj a5 ac;obtain⟨x,aw,hx⟩:=a8 _ (Ah6 ap) pl a0;generalize w.tups[j]=t at bl ac am aw;have ca:=Jr aw;have HG:Ajs (gF f a pl (w.tups.take (j+1))=fun k=>if k=x/\g x=a then a+1 else g k):=by
     have bd:H4 t pl=(x:Int):=by simp[H4,aw]
     rw[Ajs,Agz,ac,Aia,Acf bd,hX.out]
    clear ac aw hX;have f1:=Ds am;have f2:=H9 am;have f3:=D5 am;have f4:=Hz am;have f5:=Co t;have f6:=Pw am;have g1:=Vf g hx;have g2:=mC g hx (a+1);have g3:=Ve g;by_cases hm:g x=a
    ·have HX:Ajs ((fun k=>if k=x then a+1 else g k)=gF f a pl (w.tups.take (j+1))):=by
      rw[Ajs,HG.out];funext k;simp[hm]
     have hb:((g x:Int)==(a:Int))=true:=by simp[hm]
     rw[hm]at g1;have ay:((a+1:Nat):Int)=(a:Int)+1:=Ajm;rw[ay]at g2;clear ay HG
     repeat' (first|refine Z1 ?_|(refine Z8 ?_;intro κ hκ)|(refine Z4 ?_;clear hκ κ)|(refine Z2 ?_ ?_<;>intro h ah<;>try exact Xp)|(refine Z6 ?_;intro idn dn aj ak ae aa af ab)|refine Z3 ?_|exact⟨⟩|(apply hκ.out;clear hκ κ))
     refine⟨w.tups.length-(j+1),Ajm,j+1,fun k=>if k=x then a+1 else g k,?_⟩
     ((repeat' with_reducible refine And.intro ?_ ?_)<;>first|exact Xq|exact (HX)|exact (fun k=>by have:=cb k;dsimp only;split<;>omega)|exact Xs)
    ·have HX:Ajs (g=gF f a pl (w.tups.take (j+1))):=by
      rw[Ajs,HG.out];funext k;simp[hm]
     have hb:((g x:Int)==(a:Int))=false:=by simp;omega
     clear HG hm g2
     repeat' (first|refine Z1 ?_|(refine Z8 ?_;intro κ hκ)|(refine Z4 ?_;clear hκ κ)|(refine Z2 ?_ ?_<;>intro h ah<;>try exact Xp)|(refine Z6 ?_;intro idn dn aj ak ae aa af ab)|refine Z3 ?_|exact⟨⟩|(apply hκ.out;clear hκ κ))
     refine⟨w.tups.length-(j+1),Ajm,j+1,g,?_⟩
     ((repeat' with_reducible refine And.intro ?_ ?_)<;>first|exact Xq|exact (HX)|exact Xs)
   ·have bi:j=w.tups.length:=Ajm;subst bi;have hX:=hX.out;rw[Agw]at hX;subst hX
    repeat' (first|refine Z1 ?_|(refine Z8 ?_;intro κ hκ)|(refine Z4 ?_;clear hκ κ)|(refine Z2 ?_ ?_<;>intro h ah<;>try exact Xp)|(refine Z6 ?_;intro idn dn aj ak ae aa af ab)|refine Z3 ?_|exact⟨⟩|(apply hκ.out;clear hκ κ))
    refine⟨q.parts.length-(i+1),Ajm,i+1,a+1,gF f a pl w.tups,?_⟩
    ((repeat' with_reducible refine And.intro ?_ ?_)<;>first|exact Xq|exact (HS)|exact (ch.out)|exact Xs)
 ·have hil:i=q.parts.length:=Ajm;subst hil;rw[Agw]at hA;clear hi
  repeat' (first|refine Z1 ?_|(refine Z8 ?_;intro κ hκ)|(refine Z4 ?_;clear hκ κ)|(refine Z2 ?_ ?_<;>intro h ah<;>try exact Xp)|(refine Z6 ?_;intro idn dn aj ak ae aa af ab)|refine Z3 ?_|exact⟨⟩|(apply hκ.out;clear hκ κ))
  refine Af (fun m s d2=>∃(k i3:Nat) (xs:List AV),m=q.parts.length-k/\k<=q.parts.length/\s 1=ic v/\s 4=ptr (d.nobj+1) 0/\s 5=ptr (d.nobj+2) 0/\s 6=ic a/\s 12=ptr d'.nobj 0/\s 63=sl ip q.parts.length pc/\s 64=ic q.parts.length/\s 65=ic k/\Keep d d2/\d'.nobj<d2.nobj/\d2.obj (d.nobj+1)=[ic 0,nilS,nilS,nilS]/\d2.obj (d.nobj+2)=Ez f/\d2.obj d'.nobj=[ic q.head.p,sl ih q.head.ts.length (Ac q.head.ts),sl i3 k xs,sl inn q.nots.length nc]/\Own d d2 i3 k/\xs.length=k*3/\Ajs (EL Mk ((q.parts.take k).map (Ge q.parts v)) xs)) q.parts.length
   ⟨0,1,[],Ajm,Ajm,Ajn,Ajn,Ajn,Ajn,Ajo,Ajo,Ajo,rfl,(hK.new _).put hK.nobj _,Ajr,?_,?_,?_,Own.nil _ _,by simp,by simp[Ajs,EL]⟩ ?_
  ·rw[Ai Ajm,Ag Ajm,av]
  ·rw[Ai Ajm,Ag Ajm,au]
  ·rw[Ak]
  have cg:=a4;clear h1 h2 h4 h5 h6 bv bu br an a9 av au a4 hK;generalize bq:d'.nobj=o12 at*
  clear bq;rintro m s d2 ⟨k,i3,xs,rfl,hk,h1,h4,h5,h6,b3,b2,b1,b0,hK,a4,av,au,bc,hO,ck,hX⟩;have ao:=hK.nobj;by_cases an:k<q.parts.length
  ·have ac:=List.getElem?_eq_getElem an;obtain⟨id,idt,r,hd⟩:=Fa hP ac;have bn:=hq.pa _ (Ah6 an);have bm:=hq.pt _ (Ah6 an);have a5:=hq.p3 _ (Ah6 an);have a8:=hN _ (Ah6 an);generalize q.parts[k]=w at hd ac bn bm a5 a8;have bh:w.a.ts.length<=1000:=Ajm;have ax:=fun d=>Ga w.a.p id w.a.ts v bh d;have a7:Keep d ((d2.new [ic 0,nilS,nilS]).put d2.nobj [ic w.a.p,sl id w.a.ts.length (Ac w.a.ts),sl idt w.tups.length (Dd w.tups)]):=(hK.new _).put hK.nobj _;have HM:Ajs ((q.parts.take (k+1)).map (Ge q.parts v)=(q.parts.take k).map (Ge q.parts v)++[Ge q.parts v w]):=by
    rw[Ajs,Agz,ac];simp
   clear ac;cases hv:A8 w.a.ts v with
   |false=>
    have hp:Iz w.a.ts v= -1:=J1 (by simpa[A8]using hv);have HX:Ajs (EL Mk ((q.parts.take (k+1)).map (Ge q.parts v)) (xs++[ic w.a.p,sl id w.a.ts.length (Ac w.a.ts),sl idt w.tups.length (Dd w.tups)])):=by
     rw[Ajs,HM.out];refine EL.append hX.out (EL.single ?_);rw[Ge,if_neg (by rw[hv];simp)];exact⟨id,idt,rfl⟩
    rw[hp]at ax;clear hp HM hX
    repeat' (first|refine Z1 ?_|(refine Z8 ?_;intro κ hκ)|(refine Z4 ?_;clear hκ κ)|(refine Z2 ?_ ?_<;>intro h ah<;>try exact Xp)|(refine Z6 ?_;intro idn dn aj ak ae aa af ab)|(refine Z5 ?_;refine Xi (ax _) ?_;rintro _ _ ⟨rfl,ai⟩;(have az:=ai.nobj;have ad:=ai.obj;have a6:=a7.trans ai;have bo:=Own.keep (Own.put (Own.new hO _) _ _) ai;simp only[Ab,Aa]at az ad))|refine Z3 ?_|exact⟨⟩|(apply hκ.out;clear hκ κ))
    refine⟨q.parts.length-(k+1),Ajm,k+1,idn,xs++[ic w.a.p,sl id w.a.ts.length (Ac w.a.ts),sl idt w.tups.length (Dd w.tups)],?_⟩
    ((repeat' with_reducible refine And.intro ?_ ?_)<;>first|exact Xq|exact (ak.put Ajm _)|exact (Own.put aj _ _)|exact (HX)|exact Xs)
   |true=>
    obtain⟨pl,a0,a3⟩:=J2 hv;have ci:Ajs (Ge q.parts v w=⟨w.a,w.tups.filter fun t=>Dx q.parts v (H4 t pl)⟩):=by rw[Ajs,Ge,if_pos hv,a3]
    rw[a3]at ax;clear a3;have be:pl<3:=Ajm;have bg:((pl:Int)== -1)=false:=by simp
    have b6:=E7 a5;have cd:Ajs _:=hX
    repeat' (first|refine Z1 ?_|(refine Z8 ?_;intro κ hκ)|(refine Z4 ?_;clear hκ κ)|(refine Z2 ?_ ?_<;>intro h ah<;>try exact Xp)|(refine Z6 ?_;intro idn dn aj ak ae aa af ab)|(refine Z5 ?_;refine Xi (ax _) ?_;rintro _ _ ⟨rfl,ai⟩;(have az:=ai.nobj;have ad:=ai.obj;have a6:=a7.trans ai;have bo:=Own.keep (Own.put (Own.new hO _) _ _) ai;simp only[Ab,Aa]at az ad))|refine Z3 ?_|exact⟨⟩|(apply hκ.out;clear hκ κ))
    rename_i d3;have p1:d3.obj (d.nobj+1)=[ic 0,nilS,nilS,nilS]:=by rw[ad _ Ajm,Ai Ajm,Ag Ajm,av]
    have p2:d3.obj (d.nobj+2)=Ez f:=by rw[ad _ Ajm,Ai Ajm,Ag Ajm,au]
    have p3:d3.obj o12=[ic q.head.p,sl ih q.head.ts.length (Ac q.head.ts),sl i3 k xs,sl inn q.nots.length nc]:=by rw[ad _ Ajm,Ai Ajm,Ag Ajm,bc]
    clear ad ai
    refine Af (fun m s d4=>∃(j i5:Nat) (o:List Bc) (ys:List AV),m=w.tups.length-j/\j<=w.tups.length/\s 1=ic v/\s 4=ptr (d.nobj+1) 0/\s 5=ptr (d.nobj+2) 0/\s 6=ic a/\s 12=ptr o12 0/\s 15=ic pl/\s 16=ptr d3.nobj 0/\s 63=sl ip q.parts.length pc/\s 64=ic q.parts.length/\s 65=ic k/\s 85=sl idt w.tups.length (Dd w.tups)/\s 86=ic w.tups.length/\s 87=ic j/\Keep d d4/\d3.nobj<d4.nobj/\d4.obj (d.nobj+1)=[ic 0,nilS,nilS,nilS]/\d4.obj (d.nobj+2)=Ez f/\d4.obj o12=[ic q.head.p,sl ih q.head.ts.length (Ac q.head.ts),sl i3 k xs,sl inn q.nots.length nc]/\d4.obj d3.nobj=[ic w.a.p,sl id w.a.ts.length (Ac w.a.ts),sl i5 o.length ys]/\Own d d4 i3 k/\Own d d4 i5 o.length/\(i5=1\/i5≠i3)/\o.length<=j/\ys.length=o.length*3/\Ajs (ys=Dd o/\o=(w.tups.take j).filter fun t=>Dx q.parts v (H4 t pl))) w.tups.length
     ⟨0,1,[],[],Ajm,Ajm,Ajn,Ajn,Ajn,Ajn,Ajn,Ajo,Ajo,Ajn,Ajn,Ajn,Ajo,Ajo,rfl,(a6.new _).put Ajm _,Ajr,?_,?_,?_,?_,Own.put (Own.new bo _) _ _,Own.nil _ _,.inl rfl,by simp,by simp,⟨rfl,by simp⟩⟩ ?_
    ·rw[Ai Ajm,Ag Ajm,p1]
    ·rw[Ai Ajm,Ag Ajm,p2]
    ·rw[Ai Ajm,Ag Ajm,p3]
    ·rw[Ak];simp
    have cy:o12<d3.nobj:=Ajm;clear p1 p2 p3 h1 h4 h5 h6 b3 b2 b1 b0 hK a4 av au bc hO bo a6 a7 hX ao;rintro m s d4 ⟨j,i5,o,ys,rfl,hj,h1,h4,h5,h6,b3,cx,cw,b2,b1,b0,cr,cq,cp,hK,a4,av,au,bc,cj,bz,hO,b8,cm,b5,hX⟩;have b4:=hK.nobj;by_cases ap:j<w.tups.length
    ·have ac:=List.getElem?_eq_getElem ap;obtain⟨am,r2,bl⟩:=Gj a5 ac;obtain⟨x,aw,hx⟩:=a8 _ (Ah6 ap) pl a0;generalize w.tups[j]=t at bl ac am aw;have ca:=Jr aw;have HF:Ajs ((w.tups.take (j+1)).filter (fun t=>Dx q.parts v (H4 t pl))=(w.tups.take j).filter (fun t=>Dx q.parts v (H4 t pl))++if f x=a then [t]else []):=by
      have bd:H4 t pl=(x:Int):=by simp[H4,aw]
      rw[Ajs,Agz,ac,Aia,Dw,bd];congr 1;have h1:=hA.out x;by_cases e:f x=a
      ·rw[if_pos e,if_pos (h1.1 e)]
      ·rw[if_neg e,if_neg (fun h=>e (h1.2 h))]
     clear ac aw;have f1:=Ds am;have f2:=H9 am;have f3:=D5 am;have f4:=Hz am;have f5:=Co t;have f6:=Pw am;have g1:=Vf f hx;have g3:=Ve f;have cn:=ba x;by_cases hm:f x=a
     ·have HX:Ajs (ys++Am t=Dd (o++[t])/\o++[t]=(w.tups.take (j+1)).filter fun t=>Dx q.parts v (H4 t pl)):=by
       obtain⟨x1,x2⟩:=hX.out;exact⟨by rw[x1,Lp],by rw[HF.out,if_pos hm,x2]⟩
      have hb:((f x:Int)==(a:Int))=true:=by simp[hm]
      clear hX HF hm
      repeat' (first|refine Z1 ?_|(refine Z8 ?_;intro κ hκ)|(refine Z4 ?_;clear hκ κ)|(refine Z2 ?_ ?_<;>intro h ah<;>try exact Xp)|(refine Z6 ?_;intro idn dn aj ak ae aa af ab)|refine Z3 ?_|exact⟨⟩|(apply hκ.out;clear hκ κ))
      refine Hv (by first|exact Fx|exact D3) ((hK.new _).put hK.nobj _) (Own.put (Own.new hO _) _ _) (by decide) (by rfl) b5 (by rw[f1]) f5 (by decide) Ajm Ajm ?_;intro idn dn aj ak ae aa af ab bf;obtain⟨bp,b7⟩:=bf i3 k (Own.put (Own.new bz _) _ _) b8;simp only[Ab,Aa]at aa;have eob:∀p,p<d4.nobj->dn.obj p=d4.obj p:=fun p hp=>by rw[ae,Ai Ajm,Ag Ajm]
      refine Z3 ?_
      repeat' (first|refine Z1 ?_|(refine Z8 ?_;intro κ hκ)|(refine Z4 ?_;clear hκ κ)|(refine Z2 ?_ ?_<;>intro h ah<;>try exact Xp)|(refine Z6 ?_;intro idn dn aj ak ae aa af ab)|refine Z3 ?_|exact⟨⟩|(apply hκ.out;clear hκ κ))
      refine⟨w.tups.length-(j+1),Ajm,j+1,idn,o++[t],ys++Am t,?_⟩
      ((repeat' with_reducible refine And.intro ?_ ?_)<;>first|exact Xq|exact (ak.put Ajm _)|exact (by simpa using Own.put aj _ _)|exact (Own.put bp _ _)|exact (HX)|exact Xs)
     ·have HX:Ajs (ys=Dd o/\o=(w.tups.take (j+1)).filter fun t=>Dx q.parts v (H4 t pl)):=by
       obtain⟨x1,x2⟩:=hX.out;exact⟨x1,by rw[HF.out,if_neg hm,x2,Ag3]⟩
      have hb:((f x:Int)==(a:Int))=false:=by simp;omega
      clear hX HF hm
      repeat' (first|refine Z1 ?_|(refine Z8 ?_;intro κ hκ)|(refine Z4 ?_;clear hκ κ)|(refine Z2 ?_ ?_<;>intro h ah<;>try exact Xp)|(refine Z6 ?_;intro idn dn aj ak ae aa af ab)|refine Z3 ?_|exact⟨⟩|(apply hκ.out;clear hκ κ))
      refine⟨w.tups.length-(j+1),Ajm,j+1,i5,o,ys,?_⟩
      ((repeat' with_reducible refine And.intro ?_ ?_)<;>first|exact Xq|exact (Own.put (Own.new hO _) _ _)|exact (Own.put (Own.new bz _) _ _)|exact (HX)|exact Xs)
    ·have bi:j=w.tups.length:=Ajm;subst bi;obtain⟨x1,x2⟩:=hX.out;rw[Agw]at x2;have HX:Ajs (EL Mk ((q.parts.take (k+1)).map (Ge q.parts v)) (xs++[ic w.a.p,sl id w.a.ts.length (Ac w.a.ts),sl i5 o.length ys])):=by
      rw[Ajs,HM.out];refine EL.append cd.out (EL.single ?_);rw[ci.out,<-x2];exact⟨id,i5,by rw[x1]⟩
     clear hX x1 x2
     repeat' (first|refine Z1 ?_|(refine Z8 ?_;intro κ hκ)|(refine Z4 ?_;clear hκ κ)|(refine Z2 ?_ ?_<;>intro h ah<;>try exact Xp)|(refine Z6 ?_;intro idn dn aj ak ae aa af ab)|refine Z3 ?_|exact⟨⟩|(apply hκ.out;clear hκ κ))
     refine⟨q.parts.length-(k+1),Ajm,k+1,idn,xs++[ic w.a.p,sl id w.a.ts.length (Ac w.a.ts),sl i5 o.length ys],?_⟩
     ((repeat' with_reducible refine And.intro ?_ ?_)<;>first|exact Xq|exact (ak.put Ajm _)|exact (Own.put aj _ _)|exact (HX)|exact Xs)
  ·have b9:k=q.parts.length:=Ajm;subst b9;rw[Agw]at hX;have cf:(q.parts.map (Ge q.parts v)).length=q.parts.length:=by rw[Aij]
   repeat' (first|refine Z1 ?_|(refine Z8 ?_;intro κ hκ)|(refine Z4 ?_;clear hκ κ)|(refine Z2 ?_ ?_<;>intro h ah<;>try exact Xp)|(refine Z6 ?_;intro idn dn aj ak ae aa af ab)|refine Z3 ?_|exact⟨⟩|(apply hκ.out;clear hκ κ))
   exact⟨_,rfl,⟨_,rfl,ih,i3,inn,xs,nc,by simp only[Fo];rw[cf],hX.out,ce⟩,hK.put Ajm _⟩
end Go.Proofs.YtmoeoppbmhfbpabGreatDoorL
