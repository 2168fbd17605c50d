import Derived.Test.YtmoeoppbmhfbpabGreatDoorMEngJ
set_option maxHeartbeats 32000000
set_option maxRecDepth 100000
set_option linter.all false
namespace Go.Proofs.YtmoeoppbmhfbpabGreatDoorL
open Go.Abs
theorem Ky (q:Qry)(c:List AV)(v:Int)(hc:EQ q c)(hq:Ou q)(hN:QN q)(σ:St):ACalls Tryz.prog 189 [ag c,ic v] σ fun r σ'=>(∃id,r=sl id (Lb q v).length (Al (Lb q v)))/\Keep σ σ':=by
 obtain⟨ih,ip,inn,pc,nc,rfl,hP,-⟩:=hc;have hpl:=EL.length Ee hP;have hl:=hq.pl;have hz:=jI;refine Z9 53 [.tmp 4] Tryz.func189 ?_
 repeat' (first|refine Z1 ?_|(refine Z8 ?_;intro yb ya)|(refine Z4 ?_;clear ya yb)|refine Z3 ?_|exact Zt|(apply ya.out;clear ya yb))
 refine Af (fun m s σ'=>∃i:Nat,m=q.parts.length-i/\i<=q.parts.length/\s 1=ic v/\s 5=nilS/\s 6=ptr (σ.nobj+1) 0/\s 14=sl ip q.parts.length pc/\s 15=ic q.parts.length/\s 16=ic i/\Keep σ σ'/\σ.nobj+1<σ'.nobj/\σ'.obj (σ.nobj+1)=Gq (fun _=>false)/\Akc (∀p∈q.parts.take i,A7 p.a.ts v=false)) q.parts.length
  ⟨0,Aj6,Aj6,by simp[upd,initS],Aj8,Aj8,Aj8,Aj8,rfl,Xs,Aka,?_,by simp[Akc]⟩ ?_
 ·rw[Bs Aka Aka]
 rintro m s σ' ⟨i,rfl,hi,h1,h5,h6,bi,bh,bg,hK,a4,ao,hA⟩;have a3:=hK.nobj;by_cases aj:i<q.parts.length
 ·have aa:=Agz aj;obtain⟨id,idt,r,hd⟩:=E9 hP aa;have be:=hq.pa _ (Ain aj);have bd:=hq.pt _ (Ain aj);have aw:=hq.p3 _ (Ain aj);have a5:=hN _ (Ain aj);generalize q.parts[i]=w at hd aa be bd aw a5;have ba:w.a.ts.length<=1000:=Aj6;have an:=fun σ=>F9 w.a.p id w.a.ts v ba σ;have ay:Keep σ ((σ'.new [ic 0,nilS,nilS]).put σ'.nobj [ic w.a.p,sl id w.a.ts.length (Ac w.a.ts),sl idt w.tups.length (Dc w.tups)]):=(hK.new _).put hK.nobj _;cases hv:A7 w.a.ts v with
  |false=>
   have hp:Iz w.a.ts v= -1:=J1 (by simpa[A7]using hv);have HS:Akc (∀p∈q.parts.take (i+1),A7 p.a.ts v=false):=by
    rw[Akc,Ahd,aa,Ais];intro p hp;rcases Ah8.1 hp with hp|hp
    ·exact hA.out p hp
    ·simp at hp;subst hp;exact hv
   rw[hp]at an;clear hp aa hA
   repeat' (first|refine Z1 ?_|(refine Z8 ?_;intro yb ya)|(refine Z4 ?_;clear ya yb)|(refine Z2 ?_ ?_<;>intro h ab<;>try exact Xp)|(refine Z5 ?_;refine Xi (an _) ?_;rintro _ _ ⟨rfl,ad⟩;(have af:=ad.nobj;have ac:=ad.obj;have ax:=ay.trans ad;simp only[Ab,Aa]at af ac))|refine Z3 ?_|exact Zt|(apply ya.out;clear ya yb))
   refine⟨q.parts.length-(i+1),Aj6,i+1,?_⟩
   ((repeat' refine Zi ?_ ?_)<;>first|exact Xq|exact HS|exact Xs)
  |true=>
   obtain⟨pl,ap,au⟩:=J2 hv;have HR:Akc (Lb q v=Wu w.tups pl):=by rw[Akc,Lb,tF hA.out aa hv];simp only[au]
   rw[au]at an;clear au aa hA;have a8:pl<3:=Aj6;have a9:((pl:Int)== -1)=false:=by simp
   have bm:=E6 aw
   repeat' (first|refine Z1 ?_|(refine Z8 ?_;intro yb ya)|(refine Z4 ?_;clear ya yb)|(refine Z2 ?_ ?_<;>intro h ab<;>try exact Xp)|(refine Z5 ?_;refine Xi (an _) ?_;rintro _ _ ⟨rfl,ad⟩;(have af:=ad.nobj;have ac:=ad.obj;have ax:=ay.trans ad;simp only[Ab,Aa]at af ac))|refine Z3 ?_|exact Zt|(apply ya.out;clear ya yb))
   rename_i σ1;have o1:σ1.obj (σ.nobj+1)=Gq (fun _=>false):=by rw[ac _ Aj6,Ah Aj6,Ag Aj6,ao]
   clear ac ad
   refine Af (fun m s σ''=>∃(j i3:Nat) (vs:List Int) (f:Nat->Bool),m=w.tups.length-j/\j<=w.tups.length/\s 5=sl i3 vs.length (Al vs)/\s 6=ptr (σ.nobj+1) 0/\s 9=ic pl/\s 27=sl idt w.tups.length (Dc w.tups)/\s 28=ic w.tups.length/\s 29=ic j/\Keep σ σ''/\σ.nobj+1<σ''.nobj/\σ''.obj (σ.nobj+1)=Gq f/\Own σ σ'' i3 vs.length/\vs.length<=j/\Akc (vs=Wu (w.tups.take j) pl/\∀k:Nat,f k=true↔(k:Int)∈vs)) w.tups.length
    ⟨0,1,[],fun _=>false,Aj6,Aj6,by simp[upd, *,Al],Aj7,Aj8,Aj8,Aj8,rfl,ax,Aj6,o1,Own.nil _ _,by simp,by simp[Wu],by simp⟩ ?_
   clear o1 h1 h5 h6 bi bh bg hK a4 ao a3 ax ay;rintro m s σ'' ⟨j,i3,vs,f,rfl,hj,h5,h6,h9,bq,bp,bo,hK,a4,ao,hO,bl,hX⟩;have a3:=hK.nobj;have hil:=Bm vs;by_cases ai:j<w.tups.length
   ·have aa:=Agz ai;obtain⟨ah,r2,bc⟩:=Gi aw aa;obtain⟨x,am,hx⟩:=a5 _ (Ain ai) pl ap;generalize w.tups[j]=t at bc aa ah am;have bn:=Jr am;have HS:Akc (Wu (w.tups.take (j+1)) pl=if (x:Int)∈vs then vs else vs++[(x:Int)]):=by
     have a7:H4 t pl=(x:Int):=by simp[H4,am]
     rw[Akc,Ahd,aa,Ais,Wu,Aix,hX.out.1];simp only[Ag6,List.foldl_nil,rE,a7];rfl
    clear aa am;have f1:=Dr ah;have f2:=H9 ah;have f3:=D4 ah;have f4:=Hz ah;have f5:=Cn t;have f6:=Pw ah;have g1:=nQ f hx;have g2:=nO f hx true;have g3:=nP f;by_cases hm:(x:Int)∈vs
    ·have av:f x=true:=(hX.out.2 x).2 hm;have HX:Akc (vs=Wu (w.tups.take (j+1)) pl/\∀k:Nat,f k=true↔(k:Int)∈vs):=⟨by rw[HS.out,if_pos hm],hX.out.2⟩;rw[av]at g1;clear hX HS hm g2
     repeat' (first|refine Z1 ?_|(refine Z8 ?_;intro yb ya)|(refine Z4 ?_;clear ya yb)|(refine Z2 ?_ ?_<;>intro h ab<;>try exact Xp)|refine Z3 ?_|exact Zt|(apply ya.out;clear ya yb))
     refine⟨w.tups.length-(j+1),Aj6,j+1,i3,vs,f,?_⟩
     ((repeat' refine Zi ?_ ?_)<;>first|exact Xq|exact (Own.put (Own.new hO _) _ _)|exact HX|exact Xs)
    ·have av:f x=false:=by
      cases h:f x with
      |false=>rfl
      |true=>exact absurd ((hX.out.2 x).1 h) hm
     have HX:Akc (vs++[(x:Int)]=Wu (w.tups.take (j+1)) pl/\∀k:Nat,(if k=x then true else f k)=true↔(k:Int)∈vs++[(x:Int)]):=by
      refine⟨by rw[HS.out,if_neg hm],fun k=>?_⟩;have h2:=hX.out.2 k;by_cases e:k=x
      ·subst e;simp
      ·rw[if_neg e,h2];have:¬(k:Int)=(x:Int):=Aj6;simp[this]
     rw[av]at g1;clear hX HS hm
     repeat' (first|refine Z1 ?_|(refine Z8 ?_;intro yb ya)|(refine Z4 ?_;clear ya yb)|(refine Z2 ?_ ?_<;>intro h ab<;>try exact Xp)|refine Z3 ?_|exact Zt|(apply ya.out;clear ya yb))
     refine Bg (by first|exact Qm) (((hK.new _).put hK.nobj _).put Aj6 _) (Own.put (Own.put (Own.new hO _) _ _) _ _) (by decide) (by rfl) (by rw[hil,Nat.mul_one]) (by rfl) (by rfl) (by decide) Aj6 Aj6 ?_;intro idn σn a6 bf a0 ae az ak;simp only[Ab,Aa]at ae;refine Z3 ?_
     repeat' (first|refine Z1 ?_|(refine Z8 ?_;intro yb ya)|(refine Z4 ?_;clear ya yb)|(refine Z2 ?_ ?_<;>intro h ab<;>try exact Xp)|refine Z3 ?_|exact Zt|(apply ya.out;clear ya yb))
     refine⟨w.tups.length-(j+1),Aj6,j+1,idn,vs++[(x:Int)],fun k=>if k=x then true else f k,?_⟩
     ((repeat' refine Zi ?_ ?_)<;>first|exact Xq|exact (by simpa using a6)|exact HX|exact (by simp[Al])|exact Xs)
   ·have bb:j=w.tups.length:=Aj6;subst bb;obtain⟨x1,-⟩:=hX.out;rw[Ag7]at x1;rw[<-x1]at HR;have HR:=HR.out
    repeat' (first|refine Z1 ?_|(refine Z8 ?_;intro yb ya)|(refine Z4 ?_;clear ya yb)|(refine Z2 ?_ ?_<;>intro h ab<;>try exact Xp)|refine Z3 ?_|exact Zt|(apply ya.out;clear ya yb))
    first|exact⟨_,rfl,⟨i3,rfl⟩,hK⟩|exact⟨_,rfl,⟨i3,by rw[HR]⟩,hK⟩|exact⟨_,rfl,⟨i3,rfl⟩⟩|exact⟨_,rfl,i3,rfl⟩
 ·have hil:i=q.parts.length:=Aj6;subst hil;rw[Ag7]at hA;have HR:Lb q v=[]:=by
   unfold Lb;rw[Ah1.2 (fun p hp=>by rw[hA.out p hp];simp)]
  repeat' (first|refine Z1 ?_|(refine Z8 ?_;intro yb ya)|(refine Z4 ?_;clear ya yb)|(refine Z2 ?_ ?_<;>intro h ab<;>try exact Xp)|(refine Z6 ?_;intro idn σn a6 bf a0 ae az ak)|refine Z3 ?_|exact Zt|(apply ya.out;clear ya yb))
  first|exact⟨_,rfl,⟨1,rfl⟩,hK⟩|exact⟨_,rfl,⟨1,by rw[HR];rfl⟩,hK⟩|exact⟨_,rfl,1,rfl⟩|exact⟨_,rfl,1,by rw[HR];rfl⟩
theorem cO (q:Qry)(c:List AV)(hc:EQ q c)(hq:Ou q)(hN:QN q)(hV:QV q)(σ:St):ACalls Tryz.prog 222 [ag c] σ fun r σ'=>(∃b,r=ic b/\((b= -1/\∀v∈Cb (atomsQ q),C5 q v=false)\/(b∈Cb (atomsQ q)/\C5 q b=true)))/\Keep σ σ':=by
 have a4:=fun σ=>Jk q c hc hq σ;have af:=fun v σ=>Pz q c v hc hq σ;have aw:=fun v σ=>Ky q c v hc hq hN σ;have az:=fun v=>Tk hN v;have a5:=Mg hq;have bi:=I6 hq;have a3:=fun (cs:List AV) (i:Nat) (hE:EL Mm (atomsQ q) cs) (σ:St)=>Hb (atomsQ q) cs i hE a5 Aj6 σ;have bd:=E4 a5;obtain⟨ih,ip,inn,pc,nc,rfl,-,-⟩:=hc;generalize Cb (atomsQ q)=vs at*
 have be:=Bm vs;refine Z9 31 [.tmp 2] Tryz.func222 ?_
 repeat' (first|refine Z1 ?_|(refine Z8 ?_;intro yb ya)|(refine Z4 ?_;clear ya yb)|(refine Z5 ?_;first|(refine Xi (a4 _) ?_;rintro _ _ ⟨ida,cs,rfl,hE,ao⟩;(have ai:=ao.nobj;have ab:=ao.obj;have hK:=((Keep.refl σ).new _).trans ao;have ak:=a3 cs ida hE;simp only[Aa]at ai ab))|(refine Xi (ak _) ?_;rintro _ _ ⟨⟨idv,rfl⟩,an⟩;(have av:=an.nobj;have ah:=an.obj;have am:=hK.trans an;clear an hK;have hK:=am;clear am)))|refine Z3 ?_|exact Zt|(apply ya.out;clear ya yb))
 rename_i σa σb;have o0:σb.obj σ.nobj=[ic q.head.p,sl ih q.head.ts.length (Ac q.head.ts),sl ip q.parts.length pc,sl inn q.nots.length nc]:=by rw[ah _ Aj6,ab _ Aj6,Ao]
 clear ab ah a4 a3 ak hE ao
 refine Af (fun m s σ'=>∃(j w:Nat) (b:Int),m=vs.length-j/\j<=vs.length/\s 1=ptr σ.nobj 0/\s 3=ic b/\s 4=ic w/\s 10=sl idv vs.length (Al vs)/\s 11=ic vs.length/\s 12=ic j/\Keep σ σ'/\σ.nobj<σ'.nobj/\σ'.obj σ.nobj=[ic q.head.p,sl ih q.head.ts.length (Ac q.head.ts),sl ip q.parts.length pc,sl inn q.nots.length nc]/\w<=1027/\Akc ((b= -1/\w=1027/\∀v∈vs.take j,C5 q v=false)\/(b∈vs/\C5 q b=true))) vs.length
  ⟨0,1027,-1,Aj6,Aj6,Aj8,Aj8,Aj8,Aj8,Aj8,rfl,hK,Aj6,o0,Aj6,.inl ⟨rfl,rfl,by simp⟩⟩ ?_
 clear hK o0 ai av;rintro m s σ' ⟨j,w,b,rfl,hj,h1,h3,h4,bn,bm,bl,hK,bg,bb,hw,hB⟩;have bc:=hK.nobj;by_cases a0:j<vs.length
 ·have aa:=Agz a0;obtain⟨r,hd⟩:=Dl aa;have ac:=Ain a0;generalize vs[j]=v at hd aa ac;have af:=af v;have aw:=aw v;have az:=az v
  have HM:Akc (v∈vs/\∀u∈vs.take (j+1),u∈vs.take j\/u=v):=⟨ac,fun u hu=>by
   rw[Ahd,aa,Ais]at hu;rcases Ah8.1 hu with h|h
   ·exact .inl h
   ·simp at h;exact .inr h⟩
  clear aa ac;cases ae:C5 q v with
  |false=>
   rw[ae]at af;have HB:Akc ((b= -1/\w=1027/\∀v∈vs.take (j+1),C5 q v=false)\/(b∈vs/\C5 q b=true)):=by
    rcases hB.out with⟨h1,h2,h3⟩|h
    ·refine .inl ⟨h1,h2,fun u hu=>?_⟩;rcases HM.out.2 u hu with h|rfl
     ·exact h3 u h
     ·exact ae
    ·exact .inr h
   clear hB HM ae
   repeat' (first|refine Z1 ?_|(refine Z8 ?_;intro yb ya)|(refine Z4 ?_;clear ya yb)|(refine Z2 ?_ ?_<;>intro h aj<;>try exact Xp)|(refine Z5 ?_;refine Xi (af _) ?_;rintro _ _ ⟨rfl,ad⟩;(have au:=ad.nobj;have ap:=ad.obj;have am:=hK.trans ad))|refine Z3 ?_|exact Zt|(apply ya.out;clear ya yb))
   refine⟨vs.length-(j+1),Aj6,j+1,w,b,?_⟩
   ((repeat' refine Zi ?_ ?_)<;>first|exact Xq|exact HB|exact Xs)
  |true=>
   rw[ae]at af;have ba:Akc ((v= -1/\(Lb q v).length=1027/\∀v∈vs.take (j+1),C5 q v=false)\/(v∈vs/\C5 q v=true)):=.inr ⟨HM.out.1,ae⟩;have a9:Akc (¬(Lb q v).length<w->(b= -1/\w=1027/\∀v∈vs.take (j+1),C5 q v=false)\/(b∈vs/\C5 q b=true)):=fun hn=>by
    rcases hB.out with⟨h1,h2,h3⟩|h
    ·omega
    ·exact .inr h
   clear hB HM ae;generalize ay:Lb q v=vq at*
   have bo:Akc _:=ay;clear ay;have bf:=Bm vq
   repeat' (first|refine Z1 ?_|(refine Z8 ?_;intro yb ya)|(refine Z4 ?_;clear ya yb)|(refine Z2 ?_ ?_<;>intro h aj<;>try exact Xp)|(refine Z5 ?_;first|(refine Xi (af _) ?_;rintro _ _ ⟨rfl,ad⟩;(have au:=ad.nobj;have ap:=ad.obj;have am:=hK.trans ad))|(refine Xi (aw _) ?_;rintro _ _ ⟨⟨idq,rfl⟩,ax⟩;(have a7:=ax.nobj;have a6:=ax.obj;have bh:=am.trans ax)))|refine Z3 ?_|exact Zt|(apply ya.out;clear ya yb))
   ·refine⟨vs.length-(j+1),Aj6,j+1,vq.length,v,?_⟩
    ((repeat' refine Zi ?_ ?_)<;>first|exact Xq|exact ba|exact Xs)
   ·refine⟨vs.length-(j+1),Aj6,j+1,w,b,?_⟩
    ((repeat' refine Zi ?_ ?_)<;>first|exact Xq|exact (a9.out Aj6)|exact Xs)
 ·have a8:j=vs.length:=Aj6;subst a8;rw[Ag7]at hB;have HB:Akc ((b= -1/\∀v∈vs,C5 q v=false)\/(b∈vs/\C5 q b=true)):=by
   rcases hB.out with⟨h1,-,h3⟩|h
   ·exact .inl ⟨h1,h3⟩
   ·exact .inr h
  repeat' (first|refine Z1 ?_|(refine Z8 ?_;intro yb ya)|(refine Z4 ?_;clear ya yb)|(refine Z2 ?_ ?_<;>intro h aj<;>try exact Xp)|refine Z3 ?_|exact Zt|(apply ya.out;clear ya yb))
  first|exact⟨_,rfl,⟨b,rfl,HB.out⟩,hK⟩|exact⟨_,rfl,b,rfl,HB.out⟩
end Go.Proofs.YtmoeoppbmhfbpabGreatDoorL
