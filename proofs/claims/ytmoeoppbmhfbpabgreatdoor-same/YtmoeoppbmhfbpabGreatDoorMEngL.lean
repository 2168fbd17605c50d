import Derived.Test.YtmoeoppbmhfbpabGreatDoorMEngJ
set_option maxHeartbeats 32000000
set_option maxRecDepth 100000
set_option linter.all false
namespace Go.Proofs.YtmoeoppbmhfbpabGreatDoorL
open Go.Abs
theorem jC (q:Qry)(c:List AV)(v:Int)(hc:EQ q c)(hq:Ou q)(hN:QN q)(σ:St):ACalls Tryz.prog 255 [ag c,ic v] σ fun r σ'=>(∃c',r=ag c'/\EQ (Fl q v) c')/\Keep σ σ':=by
 obtain⟨ih,ip,inn,pc,nc,rfl,hP,cd⟩:=hc;have hpl:=EL.length Ee hP;have hl:=hq.pl;have hz:=gY;refine Z9 113 [.cell 4 191] Tryz.func255 ?_
 repeat' (first|refine Z1 ?_|(refine Z8 ?_;intro yb ya)|(refine Z4 ?_;clear ya yb)|refine Z3 ?_|exact Zt|(apply ya.out;clear ya yb))
 refine Af (fun m s σ'=>∃(i a:Nat) (f:Nat->Nat),m=q.parts.length-i/\i<=q.parts.length/\s 1=ic v/\s 2=ptr σ.nobj 0/\s 4=ptr (σ.nobj+1) 0/\s 5=ptr (σ.nobj+2) 0/\s 6=ic a/\s 20=sl ip q.parts.length pc/\s 21=ic q.parts.length/\s 22=ic i/\Keep σ σ'/\σ.nobj+2<σ'.nobj/\σ'.obj σ.nobj=[ic q.head.p,sl ih q.head.ts.length (Ac q.head.ts),sl ip q.parts.length pc,sl inn q.nots.length nc]/\σ'.obj (σ.nobj+1)=[ic 0,nilS,nilS,nilS]/\σ'.obj (σ.nobj+2)=Ey f/\a<=i/\(∀k,f k<=a)/\Akc (∀k,f k=a↔Dw (q.parts.take i) v (k:Int)=true)) q.parts.length
  ⟨0,0,fun _=>0,Aj6,Aj6,by simp[upd,initS],Aj8,Aj8,Aj8,Aj8,Aj8,Aj8,rfl,Xs,Aka,?_,?_,?_,Aj6,by simp,by simp[Akc,Dw]⟩ ?_
 ·rw[Ag Aka,Ag Aka,Ao]
 ·rw[Ag Aka,Bs Aka Aka]
 ·rw[Bs Aka Aka]
 rintro m s σ' ⟨i,a,f,rfl,hi,h1,h2,h4,h5,h6,bv,bu,br,hK,ay,a9,am,ak,cn,ba,hA⟩;have bw:=hK.nobj;by_cases af:i<q.parts.length
 ·have aa:=Agz af;obtain⟨id,idt,r,hd⟩:=E9 hP aa;have bn:=hq.pa _ (Ain af);have bm:=hq.pt _ (Ain af);have az:=hq.p3 _ (Ain af);have a5:=hN _ (Ain af);generalize q.parts[i]=w at hd aa bn bm az a5;have bh:w.a.ts.length<=1000:=Aj6;have ao:=fun σ=>F9 w.a.p id w.a.ts v bh σ;have a3:Keep σ ((σ'.new [ic 0,nilS,nilS]).put σ'.nobj [ic w.a.p,sl id w.a.ts.length (Ac w.a.ts),sl idt w.tups.length (Dc w.tups)]):=(hK.new _).put hK.nobj _;have bb:Akc (∀n,Dw (q.parts.take (i+1)) v n=(Dw (q.parts.take i) v n&&(!A7 w.a.ts v||occ v n w))):=by
   intro n;rw[Ahd,aa,Ais,Dw,List.all_append];simp[Dw]
  clear aa;cases hv:A7 w.a.ts v with
  |false=>
   have hp:Iz w.a.ts v= -1:=J1 (by simpa[A7]using hv);have HS:Akc (∀k,f k=a↔Dw (q.parts.take (i+1)) v (k:Int)=true):=by
    intro k;rw[bb.out,hv,hA.out k];simp
   rw[hp]at ao;clear hp hA bb
   repeat' (first|refine Z1 ?_|(refine Z8 ?_;intro yb ya)|(refine Z4 ?_;clear ya yb)|(refine Z2 ?_ ?_<;>intro h ac<;>try exact Xp)|(refine Z5 ?_;refine Xi (ao _) ?_;rintro _ _ ⟨rfl,ad⟩;(have ah:=ad.nobj;have ab:=ad.obj;have a0:=a3.trans ad;simp only[Ab,Aa]at ah ab))|refine Z3 ?_|exact Zt|(apply ya.out;clear ya yb))
   refine⟨q.parts.length-(i+1),Aj6,i+1,a,f,?_⟩
   ((repeat' refine Zi ?_ ?_)<;>first|exact Xq|exact HS|exact Xs)
  |true=>
   obtain⟨pl,aw,ax⟩:=J2 hv;have HS:Akc (∀k,gF f a pl w.tups k=a+1↔Dw (q.parts.take (i+1)) v (k:Int)=true):=by
    intro k;have h1:=hA.out k;have h2:=ba k;rw[bb.out,hv,Ag3,<-h1];simp only[Ahw,Bool.false_or,occ,ax];unfold gF;by_cases hc:f k=a/\w.tups.any (fun t=>H4 t pl==(k:Int))=true
    ·rw[if_pos hc];exact⟨fun _=>hc,fun _=>rfl⟩
    ·rw[if_neg hc];exact⟨fun h=>Aj6,fun h=>absurd h hc⟩
   have cg:Akc (∀k,gF f a pl w.tups k<=a+1):=by
    intro k;have h2:=ba k;unfold gF;split<;>omega
   rw[ax]at ao;clear ax hA bb;have be:pl<3:=Aj6;have bg:((pl:Int)== -1)=false:=by simp
   have b6:=E6 az
   repeat' (first|refine Z1 ?_|(refine Z8 ?_;intro yb ya)|(refine Z4 ?_;clear ya yb)|(refine Z2 ?_ ?_<;>intro h ac<;>try exact Xp)|(refine Z5 ?_;refine Xi (ao _) ?_;rintro _ _ ⟨rfl,ad⟩;(have ah:=ad.nobj;have ab:=ad.obj;have a0:=a3.trans ad;simp only[Ab,Aa]at ah ab))|refine Z3 ?_|exact Zt|(apply ya.out;clear ya yb))
   rename_i σ1;have p0:σ1.obj σ.nobj=[ic q.head.p,sl ih q.head.ts.length (Ac q.head.ts),sl ip q.parts.length pc,sl inn q.nots.length nc]:=by rw[ab _ Aj6,Ah Aj6,Ag Aj6,a9]
   have p1:σ1.obj (σ.nobj+1)=[ic 0,nilS,nilS,nilS]:=by rw[ab _ Aj6,Ah Aj6,Ag Aj6,am]
   have p2:σ1.obj (σ.nobj+2)=Ey f:=by rw[ab _ Aj6,Ah Aj6,Ag Aj6,ak]
   clear ab ad
   refine Af (fun m s σ''=>∃(j:Nat) (g:Nat->Nat),m=w.tups.length-j/\j<=w.tups.length/\s 1=ic v/\s 2=ptr σ.nobj 0/\s 4=ptr (σ.nobj+1) 0/\s 5=ptr (σ.nobj+2) 0/\s 6=ic a/\s 9=ic pl/\s 20=sl ip q.parts.length pc/\s 21=ic q.parts.length/\s 22=ic i/\s 33=sl idt w.tups.length (Dc w.tups)/\s 34=ic w.tups.length/\s 35=ic j/\Keep σ σ''/\σ.nobj+2<σ''.nobj/\σ''.obj σ.nobj=[ic q.head.p,sl ih q.head.ts.length (Ac q.head.ts),sl ip q.parts.length pc,sl inn q.nots.length nc]/\σ''.obj (σ.nobj+1)=[ic 0,nilS,nilS,nilS]/\σ''.obj (σ.nobj+2)=Ey g/\(∀k,g k<=a+1)/\Akc (g=gF f a pl (w.tups.take j))) w.tups.length
    ⟨0,f,Aj6,Aj6,Aj7,Aj7,Aj7,Aj7,Aj7,Aj8,Aj7,Aj7,Aj7,Aj8,Aj8,rfl,a0,Aj6,p0,p1,p2,fun k=>by have:=ba k;omega,by simp[Akc,Aev]⟩ ?_
   clear p0 p1 p2 h1 h2 h4 h5 h6 bv bu br hK ay a9 am ak bw a0 a3;rintro m s σ'' ⟨j,g,rfl,hj,h1,h2,h4,h5,h6,h9,bv,bu,br,cu,ct,cr,hK,ay,a9,am,ak,cb,hX⟩;have bw:=hK.nobj;by_cases ai:j<w.tups.length
   ·have aa:=Agz ai;obtain⟨ae,r2,bl⟩:=Gi az aa;obtain⟨x,an,hx⟩:=a5 _ (Ain ai) pl aw;generalize w.tups[j]=t at bl aa ae an;have ca:=Jr an;have HG:Akc (gF f a pl (w.tups.take (j+1))=fun k=>if k=x/\g x=a then a+1 else g k):=by
     have bd:H4 t pl=(x:Int):=by simp[H4,an]
     rw[Akc,Ahd,aa,Ais,Ack bd,hX.out]
    clear aa an hX;have f1:=Dr ae;have f2:=H9 ae;have f3:=D4 ae;have f4:=Hz ae;have f5:=Cn t;have f6:=Pw ae;have g1:=Vf g hx;have g2:=mH g hx (a+1);have g3:=Ve g;by_cases hm:g x=a
    ·have HX:Akc ((fun k=>if k=x then a+1 else g k)=gF f a pl (w.tups.take (j+1))):=by
      rw[Akc,HG.out];funext k;simp[hm]
     have hb:((g x:Int)==(a:Int))=true:=by simp[hm]
     rw[hm]at g1;have ap:((a+1:Nat):Int)=(a:Int)+1:=Aj6;rw[ap]at g2;clear ap HG
     repeat' (first|refine Z1 ?_|(refine Z8 ?_;intro yb ya)|(refine Z4 ?_;clear ya yb)|(refine Z2 ?_ ?_<;>intro h ac<;>try exact Xp)|refine Z3 ?_|exact Zt|(apply ya.out;clear ya yb))
     refine⟨w.tups.length-(j+1),Aj6,j+1,fun k=>if k=x then a+1 else g k,?_⟩
     ((repeat' refine Zi ?_ ?_)<;>first|exact Xq|exact HX|exact (fun k=>by have:=cb k;dsimp only;split<;>omega)|exact Xs)
    ·have HX:Akc (g=gF f a pl (w.tups.take (j+1))):=by
      rw[Akc,HG.out];funext k;simp[hm]
     have hb:((g x:Int)==(a:Int))=false:=by simp;omega
     clear HG hm g2
     repeat' (first|refine Z1 ?_|(refine Z8 ?_;intro yb ya)|(refine Z4 ?_;clear ya yb)|(refine Z2 ?_ ?_<;>intro h ac<;>try exact Xp)|refine Z3 ?_|exact Zt|(apply ya.out;clear ya yb))
     refine⟨w.tups.length-(j+1),Aj6,j+1,g,?_⟩
     ((repeat' refine Zi ?_ ?_)<;>first|exact Xq|exact HX|exact Xs)
   ·have bi:j=w.tups.length:=Aj6;subst bi;have hX:=hX.out;rw[Ag7]at hX;subst hX
    repeat' (first|refine Z1 ?_|(refine Z8 ?_;intro yb ya)|(refine Z4 ?_;clear ya yb)|(refine Z2 ?_ ?_<;>intro h ac<;>try exact Xp)|refine Z3 ?_|exact Zt|(apply ya.out;clear ya yb))
    refine⟨q.parts.length-(i+1),Aj6,i+1,a+1,gF f a pl w.tups,?_⟩
    ((repeat' refine Zi ?_ ?_)<;>first|exact Xq|exact HS|exact cg.out|exact Xs)
 ·have hil:i=q.parts.length:=Aj6;subst hil;rw[Ag7]at hA;clear hi
  repeat' (first|refine Z1 ?_|(refine Z8 ?_;intro yb ya)|(refine Z4 ?_;clear ya yb)|(refine Z2 ?_ ?_<;>intro h ac<;>try exact Xp)|refine Z3 ?_|exact Zt|(apply ya.out;clear ya yb))
  refine Af (fun m s σ2=>∃(k i3:Nat) (xs:List AV),m=q.parts.length-k/\k<=q.parts.length/\s 1=ic v/\s 4=ptr (σ.nobj+1) 0/\s 5=ptr (σ.nobj+2) 0/\s 6=ic a/\s 12=ptr σ'.nobj 0/\s 63=sl ip q.parts.length pc/\s 64=ic q.parts.length/\s 65=ic k/\Keep σ σ2/\σ'.nobj<σ2.nobj/\σ2.obj (σ.nobj+1)=[ic 0,nilS,nilS,nilS]/\σ2.obj (σ.nobj+2)=Ey f/\σ2.obj σ'.nobj=[ic q.head.p,sl ih q.head.ts.length (Ac q.head.ts),sl i3 k xs,sl inn q.nots.length nc]/\Own σ σ2 i3 k/\xs.length=k*3/\Akc (EL Mk ((q.parts.take k).map (Gd q.parts v)) xs)) q.parts.length
   ⟨0,1,[],Aj6,Aj6,Aj7,Aj7,Aj7,Aj7,Aj8,Aj8,Aj8,rfl,(hK.new _).put hK.nobj _,Akb,?_,?_,?_,Own.nil _ _,by simp,by simp[Akc,EL]⟩ ?_
  ·rw[Ah Aj6,Ag Aj6,am]
  ·rw[Ah Aj6,Ag Aj6,ak]
  ·rw[Aj]
  have cf:=ay;clear h1 h2 h4 h5 h6 bv bu br af a9 am ak ay hK;generalize bq:σ'.nobj=o12 at*
  clear bq;rintro m s σ2 ⟨k,i3,xs,rfl,hk,h1,h4,h5,h6,b3,b2,b1,b0,hK,ay,am,ak,bc,hO,cj,hX⟩;have ah:=hK.nobj;by_cases af:k<q.parts.length
  ·have aa:=Agz af;obtain⟨id,idt,r,hd⟩:=E9 hP aa;have bn:=hq.pa _ (Ain af);have bm:=hq.pt _ (Ain af);have az:=hq.p3 _ (Ain af);have a5:=hN _ (Ain af);generalize q.parts[k]=w at hd aa bn bm az a5;have bh:w.a.ts.length<=1000:=Aj6;have ao:=fun σ=>F9 w.a.p id w.a.ts v bh σ;have a3:Keep σ ((σ2.new [ic 0,nilS,nilS]).put σ2.nobj [ic w.a.p,sl id w.a.ts.length (Ac w.a.ts),sl idt w.tups.length (Dc w.tups)]):=(hK.new _).put hK.nobj _;have HM:Akc ((q.parts.take (k+1)).map (Gd q.parts v)=(q.parts.take k).map (Gd q.parts v)++[Gd q.parts v w]):=by
    rw[Akc,Ahd,aa];simp
   clear aa;cases hv:A7 w.a.ts v with
   |false=>
    have hp:Iz w.a.ts v= -1:=J1 (by simpa[A7]using hv);have HX:Akc (EL Mk ((q.parts.take (k+1)).map (Gd q.parts v)) (xs++[ic w.a.p,sl id w.a.ts.length (Ac w.a.ts),sl idt w.tups.length (Dc w.tups)])):=by
     rw[Akc,HM.out];refine EL.append hX.out (EL.single ?_);rw[Gd,if_neg (by rw[hv];simp)];exact⟨id,idt,rfl⟩
    rw[hp]at ao;clear hp HM hX
    repeat' (first|refine Z1 ?_|(refine Z8 ?_;intro yb ya)|(refine Z4 ?_;clear ya yb)|(refine Z2 ?_ ?_<;>intro h ac<;>try exact Xp)|(refine Z6 ?_;intro idn σn a6 a7 a4 aj a8 au)|(refine Z5 ?_;refine Xi (ao _) ?_;rintro _ _ ⟨rfl,ad⟩;(have av:=ad.nobj;have ab:=ad.obj;have a0:=a3.trans ad;have bo:=Own.keep (Own.put (Own.new hO _) _ _) ad;simp only[Ab,Aa]at av ab))|refine Z3 ?_|exact Zt|(apply ya.out;clear ya yb))
    refine⟨q.parts.length-(k+1),Aj6,k+1,idn,xs++[ic w.a.p,sl id w.a.ts.length (Ac w.a.ts),sl idt w.tups.length (Dc w.tups)],?_⟩
    ((repeat' refine Zi ?_ ?_)<;>first|exact Xq|exact (a7.put Aj6 _)|exact (Own.put a6 _ _)|exact HX|exact Xs)
   |true=>
    obtain⟨pl,aw,ax⟩:=J2 hv;have ch:Akc (Gd q.parts v w=⟨w.a,w.tups.filter fun t=>Dw q.parts v (H4 t pl)⟩):=by rw[Akc,Gd,if_pos hv,ax]
    rw[ax]at ao;clear ax;have be:pl<3:=Aj6;have bg:((pl:Int)== -1)=false:=by simp
    have b6:=E6 az;have cc:Akc _:=hX
    repeat' (first|refine Z1 ?_|(refine Z8 ?_;intro yb ya)|(refine Z4 ?_;clear ya yb)|(refine Z2 ?_ ?_<;>intro h ac<;>try exact Xp)|(refine Z5 ?_;refine Xi (ao _) ?_;rintro _ _ ⟨rfl,ad⟩;(have av:=ad.nobj;have ab:=ad.obj;have a0:=a3.trans ad;have bo:=Own.keep (Own.put (Own.new hO _) _ _) ad;simp only[Ab,Aa]at av ab))|refine Z3 ?_|exact Zt|(apply ya.out;clear ya yb))
    rename_i σ3;have p1:σ3.obj (σ.nobj+1)=[ic 0,nilS,nilS,nilS]:=by rw[ab _ Aj6,Ah Aj6,Ag Aj6,am]
    have p2:σ3.obj (σ.nobj+2)=Ey f:=by rw[ab _ Aj6,Ah Aj6,Ag Aj6,ak]
    have p3:σ3.obj o12=[ic q.head.p,sl ih q.head.ts.length (Ac q.head.ts),sl i3 k xs,sl inn q.nots.length nc]:=by rw[ab _ Aj6,Ah Aj6,Ag Aj6,bc]
    clear ab ad
    refine Af (fun m s σ4=>∃(j i5:Nat) (o:List Bb) (ys:List AV),m=w.tups.length-j/\j<=w.tups.length/\s 1=ic v/\s 4=ptr (σ.nobj+1) 0/\s 5=ptr (σ.nobj+2) 0/\s 6=ic a/\s 12=ptr o12 0/\s 15=ic pl/\s 16=ptr σ3.nobj 0/\s 63=sl ip q.parts.length pc/\s 64=ic q.parts.length/\s 65=ic k/\s 85=sl idt w.tups.length (Dc w.tups)/\s 86=ic w.tups.length/\s 87=ic j/\Keep σ σ4/\σ3.nobj<σ4.nobj/\σ4.obj (σ.nobj+1)=[ic 0,nilS,nilS,nilS]/\σ4.obj (σ.nobj+2)=Ey f/\σ4.obj o12=[ic q.head.p,sl ih q.head.ts.length (Ac q.head.ts),sl i3 k xs,sl inn q.nots.length nc]/\σ4.obj σ3.nobj=[ic w.a.p,sl id w.a.ts.length (Ac w.a.ts),sl i5 o.length ys]/\Own σ σ4 i3 k/\Own σ σ4 i5 o.length/\(i5=1\/i5≠i3)/\o.length<=j/\ys.length=o.length*3/\Akc (ys=Dc o/\o=(w.tups.take j).filter fun t=>Dw q.parts v (H4 t pl))) w.tups.length
     ⟨0,1,[],[],Aj6,Aj6,Aj7,Aj7,Aj7,Aj7,Aj7,Aj8,Aj8,Aj7,Aj7,Aj7,Aj8,Aj8,rfl,(a0.new _).put Aj6 _,Akb,?_,?_,?_,?_,Own.put (Own.new bo _) _ _,Own.nil _ _,.inl rfl,by simp,by simp,⟨rfl,by simp⟩⟩ ?_
    ·rw[Ah Aj6,Ag Aj6,p1]
    ·rw[Ah Aj6,Ag Aj6,p2]
    ·rw[Ah Aj6,Ag Aj6,p3]
    ·rw[Aj];simp
    have cx:o12<σ3.nobj:=Aj6;clear p1 p2 p3 h1 h4 h5 h6 b3 b2 b1 b0 hK ay am ak bc hO bo a0 a3 hX ah;rintro m s σ4 ⟨j,i5,o,ys,rfl,hj,h1,h4,h5,h6,b3,cw,cv,b2,b1,b0,cq,cp,co,hK,ay,am,ak,bc,ci,bz,hO,b8,ck,b5,hX⟩;have b4:=hK.nobj;by_cases ai:j<w.tups.length
    ·have aa:=Agz ai;obtain⟨ae,r2,bl⟩:=Gi az aa;obtain⟨x,an,hx⟩:=a5 _ (Ain ai) pl aw;generalize w.tups[j]=t at bl aa ae an;have ca:=Jr an;have HF:Akc ((w.tups.take (j+1)).filter (fun t=>Dw q.parts v (H4 t pl))=(w.tups.take j).filter (fun t=>Dw q.parts v (H4 t pl))++if f x=a then [t]else []):=by
      have bd:H4 t pl=(x:Int):=by simp[H4,an]
      rw[Akc,Ahd,aa,Ais,Dv,bd];congr 1;have h1:=hA.out x;by_cases e:f x=a
      ·rw[if_pos e,if_pos (h1.1 e)]
      ·rw[if_neg e,if_neg (fun h=>e (h1.2 h))]
     clear aa an;have f1:=Dr ae;have f2:=H9 ae;have f3:=D4 ae;have f4:=Hz ae;have f5:=Cn t;have f6:=Pw ae;have g1:=Vf f hx;have g3:=Ve f;have cm:=ba x;by_cases hm:f x=a
     ·have HX:Akc (ys++Al t=Dc (o++[t])/\o++[t]=(w.tups.take (j+1)).filter fun t=>Dw q.parts v (H4 t pl)):=by
       obtain⟨x1,x2⟩:=hX.out;exact⟨by rw[x1,Lp],by rw[HF.out,if_pos hm,x2]⟩
      have hb:((f x:Int)==(a:Int))=true:=by simp[hm]
      clear hX HF hm
      repeat' (first|refine Z1 ?_|(refine Z8 ?_;intro yb ya)|(refine Z4 ?_;clear ya yb)|(refine Z2 ?_ ?_<;>intro h ac<;>try exact Xp)|refine Z3 ?_|exact Zt)
      refine Hv (by first|exact Fw|exact D2) ((hK.new _).put hK.nobj _) (Own.put (Own.new hO _) _ _) (by decide) (by rfl) b5 (by rw[f1]) f5 (by decide) Aj6 Aj6 ?_;intro idn σn a6 a7 a4 aj a8 au bf;obtain⟨bp,b7⟩:=bf i3 k (Own.put (Own.new bz _) _ _) b8;simp only[Ab,Aa]at aj;have eob:∀p,p<σ4.nobj->σn.obj p=σ4.obj p:=fun p hp=>by rw[a4,Ah Aj6,Ag Aj6]
      refine Z3 ?_
      repeat' (first|refine Z1 ?_|(refine Z8 ?_;intro yb ya)|(refine Z4 ?_;clear ya yb)|refine Z3 ?_|exact Zt|(apply ya.out;clear ya yb))
      refine⟨w.tups.length-(j+1),Aj6,j+1,idn,o++[t],ys++Al t,?_⟩
      ((repeat' refine Zi ?_ ?_)<;>first|exact Xq|exact (a7.put Aj6 _)|exact (by simpa using Own.put a6 _ _)|exact (Own.put bp _ _)|exact HX|exact Xs)
     ·have HX:Akc (ys=Dc o/\o=(w.tups.take (j+1)).filter fun t=>Dw q.parts v (H4 t pl)):=by
       obtain⟨x1,x2⟩:=hX.out;exact⟨x1,by rw[HF.out,if_neg hm,x2,Ahh]⟩
      have hb:((f x:Int)==(a:Int))=false:=by simp;omega
      clear hX HF hm
      repeat' (first|refine Z1 ?_|(refine Z8 ?_;intro yb ya)|(refine Z4 ?_;clear ya yb)|(refine Z2 ?_ ?_<;>intro h ac<;>try exact Xp)|refine Z3 ?_|exact Zt|(apply ya.out;clear ya yb))
      refine⟨w.tups.length-(j+1),Aj6,j+1,i5,o,ys,?_⟩
      ((repeat' refine Zi ?_ ?_)<;>first|exact Xq|exact (Own.put (Own.new hO _) _ _)|exact (Own.put (Own.new bz _) _ _)|exact HX|exact Xs)
    ·have bi:j=w.tups.length:=Aj6;subst bi;obtain⟨x1,x2⟩:=hX.out;rw[Ag7]at x2;have HX:Akc (EL Mk ((q.parts.take (k+1)).map (Gd q.parts v)) (xs++[ic w.a.p,sl id w.a.ts.length (Ac w.a.ts),sl i5 o.length ys])):=by
      rw[Akc,HM.out];refine EL.append cc.out (EL.single ?_);rw[ch.out,<-x2];exact⟨id,i5,by rw[x1]⟩
     clear hX x1 x2
     repeat' (first|refine Z1 ?_|(refine Z8 ?_;intro yb ya)|(refine Z4 ?_;clear ya yb)|(refine Z2 ?_ ?_<;>intro h ac<;>try exact Xp)|(refine Z6 ?_;intro idn σn a6 a7 a4 aj a8 au)|refine Z3 ?_|exact Zt|(apply ya.out;clear ya yb))
     refine⟨q.parts.length-(k+1),Aj6,k+1,idn,xs++[ic w.a.p,sl id w.a.ts.length (Ac w.a.ts),sl i5 o.length ys],?_⟩
     ((repeat' refine Zi ?_ ?_)<;>first|exact Xq|exact (a7.put Aj6 _)|exact (Own.put a6 _ _)|exact HX|exact Xs)
  ·have b9:k=q.parts.length:=Aj6;subst b9;rw[Ag7]at hX;have ce:(q.parts.map (Gd q.parts v)).length=q.parts.length:=by rw[Ai1]
   repeat' (first|refine Z1 ?_|(refine Z8 ?_;intro yb ya)|(refine Z4 ?_;clear ya yb)|(refine Z2 ?_ ?_<;>intro h ac<;>try exact Xp)|refine Z3 ?_|exact Zt|(apply ya.out;clear ya yb))
   exact⟨_,rfl,⟨_,rfl,ih,i3,inn,xs,nc,by simp only[Fl];rw[ce],hX.out,cd⟩,hK.put Aj6 _⟩
end Go.Proofs.YtmoeoppbmhfbpabGreatDoorL
