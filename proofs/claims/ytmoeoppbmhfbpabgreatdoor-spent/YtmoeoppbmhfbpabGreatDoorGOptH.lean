import Derived.Test.YtmoeoppbmhfbpabGreatDoorGOptC
import Derived.Test.YtmoeoppbmhfbpabGreatDoorGTxtB
import Derived.Test.YtmoeoppbmhfbpabGreatDoorGFacts
import Derived.Test.YtmoeoppbmhfbpabGreatDoorGEngU
import Derived.Test.YtmoeoppbmhfbpabGreatDoorGSpaE
set_option maxHeartbeats 32000000
set_option maxRecDepth 100000
set_option linter.all false
namespace Go.Proofs.YtmoeoppbmhfbpabGreatDoorG
open Go.Abs
def Ey (N:List Tx)(U:Nat->Nat->Bool)(l:List RItem)(q:Nat):Bool:=l.any fun x=>x.out&&(decide (N.idxOf x.head.pred=q)||U (N.idxOf x.head.pred) q)
theorem gJ {N:List Tx}{U:Nat->Nat->Bool}{l:List RItem}{i:Nat}{x:RItem}(h:l[i]?=some x)(q:Nat):Ey N U (l.take (i+1)) q=(Ey N U (l.take i) q||(x.out&&(decide (N.idxOf x.head.pred=q)||U (N.idxOf x.head.pred) q))):=by
 unfold Ey;rw[Ad3,h,Afe,Afu];simp
theorem Uu {n:Nat}{f g:Nat->Bool}(h:∀q,q<n->f q=g q):Hc n f=Hc n g:=by
 unfold Hc;exact Ae0 fun q hq=>by rw[h q (by simpa using hq)]
theorem Y4 (N:List Tx)(l:List RItem)(cs:List AV)(idn idi:Nat)(hB:Bk N l cs)(y:St):ACalls Tryz.prog 176 [B9 N idn l idi cs] y fun r y'=>∃o M,r=fx o 0 N.length/\Keep y y'/\y.nobj<=o/\o<y'.nobj/\C8 N l M/\y'.obj o=Hc N.length (Ey N (Ea N.length M N.length) l):=by
 have bg:=EL.length D2 hB.el;have a8:=hB.len;have hN:=hB.nm;have bh:=Yl N.length;refine Z9 49 [.tmp 2] Tryz.func176 ?_
 repeat' (first|refine Z1 ?_|(refine Z8 ?_;intro κ hκ)|(refine Z4 ?_;clear hκ κ)|(refine Z2 ?_ ?_<;>intro h aa<;>try exact Xp)|(refine Z5 ?_;refine Xi (M9 N l cs idn idi hB _) ?_;rintro _ _ ⟨idu,B,M0,rfl,ai,ba,ao,au,az⟩;(rw[Aa]at ba;have ae:=ai.obj;have ak:=ai.nobj;(try simp only[Aa,Ab,Ah]at ak ae)))|refine Z3 ?_|exact⟨⟩|(apply hκ.out;clear hκ κ))
 rename_i y1;have aj:Agt (C8 N l M0):=az;clear az ae;have bd:=Hn B N.length N.length;have bi:Keep y y1:=((Keep.refl y).new _).trans ai;clear ai;generalize hU:Ea N.length M0 N.length=U at au;have HU:Agt _:=hU;clear hU
 refine Ag (fun m s y'=>∃i:Nat,m=l.length-i/\i<=l.length/\s 3=sl idu N.length (E0 B N.length N.length)/\s 4=fx y1.nobj 0 N.length/\s 16=sl idi l.length cs/\s 17=sc (.int .i64 l.length)/\s 18=sc (.int .i64 i)/\Keep y y'/\y1.nobj<y'.nobj/\y'.obj y1.nobj=Hc N.length (Ey N U (l.take i))/\Agt (Mat B N.length U y')) l.length
  ⟨0,Agm,Agm,Ago,Ago,Ago,Ago,rfl,Xs,Agq,by rw[Ap];rfl,Mat.new au ao _⟩ ?_
 clear au;rintro m s y' ⟨i,rfl,hi,h3,h4,a4,a3,a0,hK,hno,ab,hM⟩;have av:=hK.nobj;by_cases a7:i<l.length
 ·have ac:=List.getElem?_eq_getElem a7;obtain⟨hm,ih,id,b,r,hb,hd⟩:=G8 hB.el ac;generalize l[i]=x at hd ac hb hm;have ad:=gJ (N:=N) (U:=U) ac;have an:=Afd hm;cases hxo:x.out with
  |false=>
   rw[hxo]at hd ad;have ah:y'.obj y1.nobj=Hc N.length (Ey N U (l.take (i+1))):=by
    rw[ab];exact Uu fun q _=>by rw[ad q];simp
   clear ad ac ab hxo;generalize N.idxOf x.head.pred=ph at*
   repeat' (first|refine Z1 ?_|(refine Z8 ?_;intro κ hκ)|(refine Z4 ?_;clear hκ κ)|(refine Z2 ?_ ?_<;>intro h aa<;>try exact Xp)|refine Z3 ?_|exact⟨⟩|(apply hκ.out;clear hκ κ))
   refine⟨l.length-(i+1),Agm,i+1,?_⟩
   ((repeat' with_reducible refine And.intro ?_ ?_)<;>first|exact Xq|exact (Mat.put (Mat.new hM.out Agm _) Agm _)|exact (by rw[Ai Agm,Af Agm,ah])|exact Xs)
  |true=>
   rw[hxo]at hd ad;clear ac hxo;generalize N.idxOf x.head.pred=ph at*
   generalize Ey N U (l.take i)=w0 at ab ad;generalize af:Ey N U (l.take (i+1))=w1 at ad;have a5:Agt _:=af;have a6:Agt (∀q,w1 q=(w0 q||(true&&(decide (ph=q)||U ph q)))):=ad;clear ad af;have be:=Ho (B:=B) (n:=N.length) (k:=N.length) an;have ay:=hM.out _ an;have bb:=D7 N.length (U ph);have am:=D7 N.length w0;have aw:=Ut (n:=N.length) (i:=ph) w0 true
   repeat' (first|refine Z1 ?_|(refine Z8 ?_;intro κ hκ)|(refine Z4 ?_;clear hκ κ)|(refine Z2 ?_ ?_<;>intro h aa<;>try exact Xp)|refine Z3 ?_|exact⟨⟩|(apply hκ.out;clear hκ κ))
   refine Ag (fun m s y2=>∃(p:Nat) (g:Nat->Bool),m=N.length-p/\p<=N.length/\s 3=sl idu N.length (E0 B N.length N.length)/\s 4=fx y1.nobj 0 N.length/\s 16=sl idi l.length cs/\s 17=sc (.int .i64 l.length)/\s 18=sc (.int .i64 i)/\s 35=fx (B+ph) 0 N.length/\s 36=sc (.int .i64 N.length)/\s 37=sc (.int .i64 p)/\Keep y y2/\y1.nobj<y2.nobj/\y2.obj y1.nobj=Hc N.length g/\Agt (Mat B N.length U y2)/\Agt (∀q,g q=(w0 q||decide (ph=q)||(decide (q<p)&&U ph q)))) N.length
    ⟨0,fun j=>if j=ph then true else w0 j,Agm,Agm,Agn,Agn,Agn,Agn,Agn,Ago,Ago,Ago,Xs,Ags,by rw[Aj],Mat.put (Mat.put (Mat.new hM.out Agm _) Agm _) Agm _,fun q=>by
     by_cases h:q=ph
     ·simp[h]
     ·simp[h,Ne.symm h]⟩ ?_
   clear h3 h4 a4 a3 a0 hK hno ab hM ay aw am av;rintro m s y2 ⟨p,g,rfl,hp,h3,h4,a4,a3,a0,bo,bn,bm,hK,hno,ab,hM,hg⟩;have av:=hK.nobj;by_cases ap:p<N.length
   ·have ay:=hM.out _ an;have ax:=F3 (U ph) ap;have bf:=D7 N.length g;cases hu:U ph p with
    |true=>
     rw[hu]at ax;have aw:=Ut (n:=N.length) (i:=p) g true;have HG:Agt (∀q,(if q=p then true else g q)=(w0 q||decide (ph=q)||(decide (q<p+1)&&U ph q))):=fun q=>by
      by_cases h:q=p
      ·simp[h,hu]
      ·rw[if_neg h,hg.out q,show decide (q<p+1)=decide (q<p)from by rw[decide_eq_decide];omega]
     clear hg hu
     repeat' (first|refine Z1 ?_|(refine Z8 ?_;intro κ hκ)|(refine Z4 ?_;clear hκ κ)|(refine Z2 ?_ ?_<;>intro h aa<;>try exact Xp)|refine Z3 ?_|exact⟨⟩|(apply hκ.out;clear hκ κ))
     refine⟨N.length-(p+1),Agm,p+1,fun q=>if q=p then true else g q,?_⟩
     ((repeat' with_reducible refine And.intro ?_ ?_)<;>first|exact Xq|exact (HG)|exact (Mat.put hM.out Agm _)|exact (by rw[Aj])|exact Xs)
    |false=>
     rw[hu]at ax;have HG:Agt (∀q,g q=(w0 q||decide (ph=q)||(decide (q<p+1)&&U ph q))):=fun q=>by
      by_cases h:q=p
      ·rw[hg.out q];simp[h,hu]
      ·rw[hg.out q,show decide (q<p+1)=decide (q<p)from by rw[decide_eq_decide];omega]
     clear hg hu
     repeat' (first|refine Z1 ?_|(refine Z8 ?_;intro κ hκ)|(refine Z4 ?_;clear hκ κ)|(refine Z2 ?_ ?_<;>intro h aa<;>try exact Xp)|refine Z3 ?_|exact⟨⟩|(apply hκ.out;clear hκ κ))
     refine⟨N.length-(p+1),Agm,p+1,g,?_⟩
     ((repeat' with_reducible refine And.intro ?_ ?_)<;>first|exact Xq|exact (HG)|exact Xs)
   ·have hpl:p=N.length:=Agm;have ah:y2.obj y1.nobj=Hc N.length (Ey N U (l.take (i+1))):=by
     rw[ab,a5.out];exact Uu fun q hq=>by rw[a6.out q,hg.out q,hpl];simp[hq,Bool.or_assoc]
    clear hg ab a6 a5
    repeat' (first|refine Z1 ?_|(refine Z8 ?_;intro κ hκ)|(refine Z4 ?_;clear hκ κ)|(refine Z2 ?_ ?_<;>intro h aa<;>try exact Xp)|refine Z3 ?_|exact⟨⟩|(apply hκ.out;clear hκ κ))
    refine⟨l.length-(i+1),Agm,i+1,?_⟩
    ((repeat' with_reducible refine And.intro ?_ ?_)<;>first|exact Xq|exact (hM)|exact Xs)
 ·have a9:i=l.length:=Agm;subst a9;rw[Adz]at ab
  repeat' (first|refine Z1 ?_|(refine Z8 ?_;intro κ hκ)|(refine Z4 ?_;clear hκ κ)|(refine Z2 ?_ ?_<;>intro h aa<;>try exact Xp)|refine Z3 ?_|exact⟨⟩|(apply hκ.out;clear hκ κ))
  first|exact⟨_,rfl,_,M0,rfl,hK,Agm,hno,aj.out,by rw[HU.out];exact ab⟩|exact⟨_,rfl,_,M0,rfl,Agm,hno,aj.out,by rw[HU.out];exact ab⟩|exact⟨_,rfl,_,M0,Agm,hno,aj.out,by rw[HU.out];exact ab⟩|(trace_state;exact⟨_,rfl,_,M0,rfl,hK,Agm,hno,aj.out,by rw[HU.out];exact ab⟩)
theorem GL.sub {N:List Tx}{l l':List RItem}(h:GL N l)(hs:∀x∈l',x∈l)(hl:l'.length<=16):GL N l':=
 ⟨hl,h.nm,fun x hx=>h.msr x (hs x hx),fun x hx=>h.fits x (hs x hx),fun x hx=>h.pos x (hs x hx),fun x hx=>h.va x (hs x hx),fun x hx=>h.ar x (hs x hx)⟩
def Fc (N:List Tx)(U:Nat->Nat->Bool)(l:List RItem):List RItem:=l.filter fun x=>Ey N U l (N.idxOf x.head.pred)
def chS (N:List Tx)(l:List RItem)(idn:Nat)(x:AV)(b:Bool):Prop:=∃M,C8 N l M/\
 (((Fc N (Ea N.length M N.length) l).length=l.length/\b=false)\/
  ((Fc N (Ea N.length M N.length) l).length≠l.length/\b=Cj N l (Fc N (Ea N.length M N.length) l)/\(b=true->∃id c',x=B9 N idn (Fc N (Ea N.length M N.length) l) id c'/\EL (PI N) (Fc N (Ea N.length M N.length) l) c')))
theorem pP {α:Type}{f:α->Bool}{l:List α}{i:Nat}{x:α}(h:l[i]?=some x):(l.take (i+1)).filter f=(l.take i).filter f++if f x=true then [x]else []:=by
 rw[Ad3,h,Afe,Afv];cases hf:f x<;>simp[hf]
theorem Kt (N:List Tx)(l:List RItem)(cs:List AV)(idn idi:Nat)(hG:GL N l)(hE:EL (PI N) l cs)(y:St):
  ACalls Tryz.prog 124 [B9 N idn l idi cs] y fun r y'=>(∃x b,r=tp [x,sc (.bool b)]/\chS N l idn x b/\fY x)/\Keep y y':=by
 have br:=EL.length D2 hE;have aw:=hG.len;have hN:=hG.nm;have bp:Bk N l cs:=(hG.bkm hE).bk aw;have a4:=fun y=>Y4 N l cs idn idi bp y;refine Z9 41 [.cell 2 62,.tmp 3] Tryz.func124 ?_
 repeat' (first|refine Z1 ?_|(refine Z8 ?_;intro κ hκ)|(refine Z4 ?_;clear hκ κ)|(refine Z2 ?_ ?_<;>intro h ah<;>try exact Xp)|(refine Z6 ?_;intro idn yn ak an ac aa ad ab)|(refine Z5 ?_;refine Xi (a4 _) ?_;rintro _ _ ⟨ow,M0,rfl,ao,au,bi,a9,aj⟩;(have ap:=ao.nobj;have ai:=ao.obj;(try simp only[Aa,Ab]at ap ai au)))|refine Z3 ?_|exact⟨⟩|(apply hκ.out;clear hκ κ))
 rename_i y1;have obk:y1.obj y.nobj=[sl idn N.length (N.map str),sl idi l.length cs]:=by rw[ai _ Agm,Af Agq,Ap]
 have obr:y1.obj (y.nobj+1)=[nilS,nilS]:=by rw[ai _ Agm];first|exact Ap|simp[Ap]
 have bd:Agt (C8 N l M0):=a9;generalize a5:Ea N.length M0 N.length=U at aj;have HU:Agt _:=a5;have a7:Keep y y1:=(((Keep.refl y).new _).new _).trans ao;clear a9 a5 ao ai a4;generalize ay:Ey N U l=w at aj;have HW:Agt _:=ay;clear ay
 refine Ag (fun m s y'=>∃(i id:Nat) (R:List RItem) (c:List AV),m=l.length-i/\i<=l.length/\s 1=ptr y.nobj 0/\s 2=ptr (y.nobj+1) 0/\s 4=fx ow 0 N.length/\s 5=sl id R.length c/\s 12=sl idi l.length cs/\s 13=sc (.int .i64 l.length)/\s 14=sc (.int .i64 i)/\Keep y y'/\y1.nobj<=y'.nobj/\y'.obj ow=Hc N.length w/\y'.obj y.nobj=[sl idn N.length (N.map str),sl idi l.length cs]/\y'.obj (y.nobj+1)=[nilS,nilS]/\Own y y' id R.length/\c.length=R.length*4/\R.length<=i/\Agt (R=(l.take i).filter (fun x=>w (N.idxOf x.head.pred))/\EL (PI N) R c)) l.length
  ⟨0,1,[],[],Agm,Agm,Ago,Ago,Ago,Ago,Ago,Ago,rfl,a7,Agm,aj,obk,obr,Own.nil _ _,by simp,by simp,⟨by simp,rfl⟩⟩ ?_
 clear a7 aj obk obr;rintro m s y' ⟨i,id,R,c,rfl,hi,h1,h2,h4,h5,b0,bz,bw,hK,hno,obw,obk,obr,hO,a0,bv,hA⟩;have bq:=hK.nobj;have bu:=D7 N.length w;by_cases bm:i<l.length
 ·have af:=List.getElem?_eq_getElem bm;obtain⟨av,ih,idb,b,r,a3,hd⟩:=G8 hE af;generalize l[i]=x at hd af av a3;have bh:=Afd av;have am:=pP (f:=fun x:RItem=>w (N.idxOf x.head.pred)) af;have az:=F3 w bh;cases hw:w (N.idxOf x.head.pred)with
  |true=>
   simp only[hw,if_true]at am;rw[hw]at az;have HA:Agt (R++[x]=(l.take (i+1)).filter (fun x=>w (N.idxOf x.head.pred))/\EL (PI N) (R++[x]) (c++[sc (.bool x.out),sc (.int .i64 (N.idxOf x.head.pred:Nat)),sl ih x.head.terms.length (Ay x.head.terms),sl idb x.body.length b])):=⟨by rw[am,<-hA.out.1],EL.append hA.out.2 (EL.single (PI.of av a3))⟩;clear am af hA hw
   repeat' (first|refine Z1 ?_|(refine Z8 ?_;intro κ hκ)|(refine Z4 ?_;clear hκ κ)|(refine Z2 ?_ ?_<;>intro h ah<;>try exact Xp)|(refine Z6 ?_;intro idn yn ak an ac aa ad ab)|refine Z3 ?_|exact⟨⟩|(apply hκ.out;clear hκ κ))
   refine Bm (by first|exact Kv) ((hK.new _).put hK.nobj _) (Own.put (Own.new hO _) _ _) (by decide) (by rfl) (a0) (by rfl) (by rfl) (by decide) Agm Agm ?_;intro idn' yn ak an ac aa ad ab;simp only[Ab,Aa]at aa;have eob:∀p,p<y'.nobj->yn.obj p=y'.obj p:=fun p hp=>by rw[ac,Ai Agm,Af Agm]
   refine Z3 ?_
   repeat' (first|refine Z1 ?_|(refine Z8 ?_;intro κ hκ)|(refine Z4 ?_;clear hκ κ)|(refine Z2 ?_ ?_<;>intro h ah<;>try exact Xp)|(refine Z6 ?_;intro idn yn ak an ac aa ad ab)|refine Z3 ?_|exact⟨⟩|(apply hκ.out;clear hκ κ))
   refine⟨l.length-(i+1),Agm,i+1,idn',R++[x],c++[sc (.bool x.out),sc (.int .i64 (N.idxOf x.head.pred:Nat)),sl ih x.head.terms.length (Ay x.head.terms),sl idb x.body.length b],?_⟩
   ((repeat' with_reducible refine And.intro ?_ ?_)<;>first|exact Xq|exact (HA)|exact ((by simpa using ak))|exact ((by simp[a0];omega))|exact (by rw[eob _ Agm,obw])|exact (by rw[eob _ Agm,obk])|exact (by rw[eob _ Agm,obr])|exact Xs)
  |false=>
   simp only[hw,Aek,if_false,Ad7]at am;rw[hw]at az;have HA:Agt (R=(l.take (i+1)).filter (fun x=>w (N.idxOf x.head.pred))/\EL (PI N) R c):=⟨by rw[am,<-hA.out.1],hA.out.2⟩;clear am af hA hw
   repeat' (first|refine Z1 ?_|(refine Z8 ?_;intro κ hκ)|(refine Z4 ?_;clear hκ κ)|(refine Z2 ?_ ?_<;>intro h ah<;>try exact Xp)|(refine Z6 ?_;intro idn yn ak an ac aa ad ab)|refine Z3 ?_|exact⟨⟩|(apply hκ.out;clear hκ κ))
   refine⟨l.length-(i+1),Agm,i+1,id,R,c,?_⟩
   ((repeat' with_reducible refine And.intro ?_ ?_)<;>first|exact Xq|exact (HA)|exact (Own.put (Own.new hO _) _ _)|exact (by rw[Ai Agm,Af Agm,obw])|exact (by rw[Ai Agm,Af Agm,obk])|exact (by rw[Ai Agm,Af Agm,obr])|exact Xs)
 ·have bo:i=l.length:=Agm;subst bo;rw[Adz]at hA;have a6:R=Fc N (Ea N.length M0 N.length) l:=by rw[hA.out.1,Fc,HU.out,HW.out]
  have HR:Agt _:=a6;have HE:Agt (EL (PI N) R c):=hA.out.2;have ba:GL N R:=hG.sub (fun x hx=>(Afx.1 (by rw[<-hA.out.1];exact hx)).1) Agm;have ax:=fun y=>G3 N l R cs c idn idi id (hG.bkm hE) (ba.bkm HE.out).bj y;clear hA a6 ba;by_cases ae:R.length=l.length
  ·have bn:((R.length:Int)==(l.length:Int))=true:=by simp[ae]
   have HC:Agt (∀x,chS N l idn x false):=fun x=>⟨M0,bd.out,.inl ⟨by rw[<-HR.out];exact ae,rfl⟩⟩;clear ax ae
   repeat' (first|refine Z1 ?_|(refine Z8 ?_;intro κ hκ)|(refine Z4 ?_;clear hκ κ)|(refine Z2 ?_ ?_<;>intro h ah<;>try exact Xp)|(refine Z6 ?_;intro idn yn ak an ac aa ad ab)|refine Z3 ?_|exact⟨⟩|(apply hκ.out;clear hκ κ))
   exact⟨_,rfl,⟨_,false,rfl,HC.out _,_,_,_,_,_,_,rfl⟩,Xs⟩
  ·have bn:((R.length:Int)==(l.length:Int))=false:=by simpa using (by omega:¬(R.length:Int)=l.length)
   have HC:Agt (∀x,(Cj N l R=true->x=B9 N idn R id c)->chS N l idn x (Cj N l R)):=fun x hx=>⟨M0,bd.out,.inr ⟨by rw[<-HR.out];exact ae,by rw[<-HR.out],fun hb=>⟨id,c,by rw[<-HR.out];exact hx hb,by rw[<-HR.out];exact HE.out⟩⟩⟩;generalize Cj N l R=bb at ax HC;clear ae
   repeat' (first|refine Z1 ?_|(refine Z8 ?_;intro κ hκ)|(refine Z4 ?_;clear hκ κ)|(refine Z2 ?_ ?_<;>intro h ah<;>try exact Xp)|(refine Z6 ?_;intro idn yn ak an ac aa ad ab)|(refine Z5 ?_;refine Xi (ax _) ?_;rintro _ _ ⟨⟨x7,rfl,bg,⟨id71,n71,c71,id72,n72,c72,rfl⟩⟩,a8⟩;(have bf:=a8.nobj;have be:=a8.obj))|refine Z3 ?_|exact⟨⟩|(apply hκ.out;clear hκ κ))
   exact⟨_,rfl,⟨_,bb,rfl,HC.out _ bg,_,_,_,_,_,_,rfl⟩,Xs⟩
def Tz (t:Tx):Bool:=decide (t.head?=some 63)
theorem Zd (t:Tx)(y:St):ACalls Tryz.prog 41 [str t] y fun r y'=>r=sc (.bool (Tz t))/\y'=y:=by
 cases t with
 |nil=>
  have he:(([]:Tx) !=[])=false:=rfl;refine Z9 10 [.tmp 2] Tryz.func41 ?_
  repeat' (first|refine Z1 ?_|(refine Z8 ?_;intro κ hκ)|(refine Z4 ?_;clear hκ κ)|(refine Z2 ?_ ?_<;>intro h aa<;>try exact Xp)|refine Z3 ?_|exact⟨⟩|(apply hκ.out;clear hκ κ))
  exact⟨_,rfl,rfl⟩
 |cons c r=>
  have he:((c::r:Tx) !=[])=true:=rfl;have ab:((c::r:Tx)==[])=false:=rfl;have hg:(c::r:Tx)[0]?=some c:=rfl;have HO:Agt (Tz (c::r)=((c.toNat:Int)==63)):=by
   rw[Agt,show (63:Int)=((63:UInt8).toNat:Int)from rfl,Zy,Tz];simp
  generalize hb:((c.toNat:Int)==63)=b at HO;cases b with
  |true=>
   refine Z9 10 [.tmp 2] Tryz.func41 ?_
   repeat' (first|refine Z1 ?_|(refine Z8 ?_;intro κ hκ)|(refine Z4 ?_;clear hκ κ)|(refine Z2 ?_ ?_<;>intro h aa<;>try exact Xp)|refine Z3 ?_|exact⟨⟩|(apply hκ.out;clear hκ κ))
   first|exact⟨_,rfl,by rw[HO.out]⟩|exact⟨_,rfl,by rw[HO.out],rfl⟩
  |false=>
   refine Z9 10 [.tmp 2] Tryz.func41 ?_
   repeat' (first|refine Z1 ?_|(refine Z8 ?_;intro κ hκ)|(refine Z4 ?_;clear hκ κ)|(refine Z2 ?_ ?_<;>intro h aa<;>try exact Xp)|refine Z3 ?_|exact⟨⟩|(apply hκ.out;clear hκ κ))
   first|exact⟨_,rfl,by rw[HO.out]⟩|exact⟨_,rfl,by rw[HO.out],rfl⟩
def qO (x:List Tx×Tx)(c:UInt8):List Tx×Tx:=if Ba c.toNat=true then (x.1,x.2++[c])else (if x.2=[]then x.1 else x.1++[x.2],[])
def Vl (t:Tx):List Tx:=(t.foldl qO ([],[])).1
theorem oJ {x:List Tx×Tx}{c:UInt8}(h:Ba c.toNat=true):qO x c=(x.1,x.2++[c]):=if_pos h
theorem Ev {x:List Tx×Tx}{c:UInt8}(h:Ba c.toNat=false):qO x c=(if x.2=[]then x.1 else x.1++[x.2],[]):=if_neg (by simp[h])
theorem Y7:∀(t:Tx) (d:List Tx) (u:Tx),(∀b∈t,Ba b.toNat=true)->t.foldl qO (d,u)=(d,u++t)
 |[],d,u,_=>by simp
 |c::t,d,u,h=>by
  rw[Ady,oJ (h c (by simp)),Y7 t _ _ fun b hb=>h b (by simp[hb])];simp
theorem Y6:∀(t:Tx) (d:List Tx),(∀b∈t,Ba b.toNat=false)->t.foldl qO (d,[])=(d,[])
 |[],d,_=>rfl
 |c::t,d,h=>by
  rw[Ady,Ev (h c (by simp)),if_pos rfl,Y6 t _ fun b hb=>h b (by simp[hb])]
theorem gV {t:Tx}(h:Is t){b:UInt8}(hb:b∈t):Ba b.toNat=false:=by
 rcases h.2 b hb with h|h<;>simp only[Ba,A8,Az,Adv,Agi,Bool.and_eq_false_iff,decide_eq_false_iff_not]at h⊢ <;>omega
theorem iM {a:RAtom}(h:Da a)(d:List Tx):(Bb a).foldl qO (d,[])=(d++[a.pred],[]):=by
 have e:Bb a=(if a.nt=true then [33]else [])++(a.pred++(40::(A2 a.terms++[41]))):=by simp[Bb,A4]
 have h1:∀b∈(if a.nt=true then [33]else []:Tx),Ba b.toNat=false:=fun b hb=>by
  split at hb
  ·simp at hb;subst hb;decide
  ·cases hb
 have h2:∀b∈A2 a.terms++[41],Ba b.toNat=false:=fun b hb=>by
  rcases Aew.1 hb with hb|hb
  ·rcases M5 hb with rfl|⟨t,ht,hb⟩
   ·decide
   ·exact gV (h.2.2.2 t ht) hb
  ·simp at hb;subst hb;decide
 rw[e,Afw,Y6 (if a.nt=true then [33]else []) _ h1,Afw,Y7 a.pred _ _ h.1.2,Aeu,Ady,Ev (by decide),if_neg h.1.1,Y6 _ _ h2]
theorem lZ:∀(ls:List RAtom) (d:List Tx),(∀a∈ls,Da a)->(A7 (ls.map Bb)).foldl qO (d,[])=(d++ls.map (·.pred),[])
 |[],d,_=>by simp[A7]
 |a::ls,d,h=>by
  have e:A7 ((a::ls).map Bb)=44::(Bb a++A7 (ls.map Bb)):=by simp[A7]
  rw[e,Ady,Ev (by decide),if_pos rfl,Afw,iM (h a (by simp)),lZ ls _ fun b hb=>h b (by simp[hb])];simp
theorem mA {x:RItem}(h:Bv x)(d:List Tx):(A0 x++[46]).foldl qO (d,[])=(d++(x.head.pred::x.body.map (·.pred)),[]):=by
 cases ho:x.out with
 |true=>
  obtain⟨-,-,h3⟩:=h.2.1 ho;rw[A0,if_pos ho,Aes,Ady,Ev (by decide),if_pos rfl,Afw,Y7 _ _ _ h.1.2,h3];show qO (d,[]++x.head.pred) 46=_;rw[Ev (by decide),if_neg (by simpa using h.1.1)];simp
 |false=>
  obtain⟨h1,h2,h3,h4⟩:=h.2.2 ho;have e0:A4 x.head=Bb x.head:=by simp[Bb,h2]
  rw[A0,if_neg (by simp[ho]),Cv,e0,Aeg,Afw,iM h1];split
  ·rename_i hb;rw[hb];show qO (d++[x.head.pred],[]) 46=_;rw[Ev (by decide),if_pos rfl];simp
  ·rename_i hb;obtain⟨l,ls,e⟩:=Af3 hb;rw[e,Ad9,A2];rw[e]at h4;have e2:(58::45::(Bb l++A7 (ls.map Bb))++[46]:Tx)=58::45::(Bb l++(A7 (ls.map Bb)++[46])):=by simp
   rw[e2,Ady,Ev (by decide),if_pos rfl,Ady,Ev (by decide),if_pos rfl,Afw,iM (h4 l (by simp)),Afw,lZ _ _ fun a ha=>h4 a (by simp[ha])];show qO _ 46=_;rw[Ev (by decide),if_pos rfl];simp
theorem dB {x:RItem}(h:Bv x):Vl (A0 x++[46])=x.head.pred::x.body.map (·.pred):=by
 rw[Vl,mA h];rfl
def hdL (t:Tx):Tx:=(Vl t).head?.getD []
abbrev RnS:=Nat×(Nat->Nat)
def iB (st:RnS)(c:UInt8):RnS:=if A8 c.toNat=true/\st.2 (c.toNat-65)=0 then (st.1+1,fun v=>if v=c.toNat-65 then st.1+1 else st.2 v)else st
def Mt (st:RnS)(c d:UInt8):Prop:=(A8 c.toNat=false->d=c)/\(A8 c.toNat=true->(d.toNat:Int)=64+((iB st c).2 (c.toNat-65):Nat))
def wV (acc:List Tx)(st:RnS):Prop:=st.1=acc.length/\∀v,v<26->st.2 v=if [Co (v:Int)]∈acc then acc.idxOf [Co (v:Int)]+1 else 0
def RnOk (p q:Tx)(acc acc':List Tx):Prop:=p.length=q.length/\∀st,wV acc st->wV acc' (p.foldl iB st)/\∀i c,p[i]?=some c->∃d,q[i]?=some d/\Mt ((p.take i).foldl iB st) c d
theorem RnOk.append {p1 q1 p2 q2:Tx}{a b c:List Tx}(h:RnOk p1 q1 a b)(g:RnOk p2 q2 b c):RnOk (p1++p2) (q1++q2) a c:=by
 refine⟨by simp[h.1,g.1],fun st hs=>?_⟩;obtain⟨h1,h2⟩:=h.2 st hs;obtain⟨g1,g2⟩:=g.2 _ h1;refine⟨by rw[Afw];exact g1,fun i d hd=>?_⟩;by_cases hi:i<p1.length
 ·rw[List.getElem?_append_left hi]at hd;obtain⟨e,he,hm⟩:=h2 i d hd;exact⟨e,by rw[List.getElem?_append_left (by rw[<-h.1];exact hi)];exact he,by rw[List.take_append_of_le_length Agm];exact hm⟩
 ·rw[List.getElem?_append_right Agm]at hd;obtain⟨e,he,hm⟩:=g2 _ d hd;refine⟨e,by rw[List.getElem?_append_right (by rw[<-h.1];omega),<-h.1];exact he,?_⟩;rw[List.take_append,Aex Agm,Afw];exact hm
theorem RnOk.nil (a:List Tx):RnOk [] [] a a:=⟨rfl,fun st hs=>⟨hs,fun i c h=>by simp at h⟩⟩
theorem RnOk.one {c:UInt8}(h:A8 c.toNat=false)(a:List Tx):RnOk [c] [c] a a:=by
 refine⟨rfl,fun st hs=>⟨?_,fun i d hd=>?_⟩⟩
 ·show wV a (iB st c);rw[iB,if_neg (by simp[h])];exact hs
 ·match i,hd with
  |0,hd=>simp at hd;subst hd;exact⟨c,rfl,fun _=>rfl,fun h'=>by rw[h]at h';cases h'⟩
  |i+1,hd=>simp at hd
theorem RnOk.plain:∀{t:Tx},(∀c∈t,A8 c.toNat=false)->∀a,RnOk t t a a
 |[],_,a=>RnOk.nil a
 |c::t,h,a=>RnOk.append (RnOk.one (h c (by simp)) a) (RnOk.plain (fun d hd=>h d (by simp[hd])) a)
theorem lY {acc L:List Tx}(h:acc<+:L){t:Tx}(ht:t∈acc):L.idxOf t=acc.idxOf t:=by
 exact Oy h ht
theorem tQ (acc:List Tx)(t:Tx):acc<+:De acc t:=by
 unfold De;split
 ·exact List.prefix_append _ _
 ·exact Ae6 _
theorem Ji:∀(ts acc:List Tx),acc<+:Dd acc ts
 |[],acc=>Ae6 _
 |t::ts,acc=>(tQ acc t).trans (Ji ts (De acc t))
theorem yP {i j:Nat}(hi:i<26)(hj:j<26)(h:Co (i:Int)=Co (j:Int)):i=j:=by
 have h1:=C6 (k:=(i:Int)) Agm Agm;have h2:=C6 (k:=(j:Int)) Agm Agm;rw[h]at h1;omega
theorem Rp {v:Nat}(hv:v<26):(Co (v:Int)).toNat-65=v:=by have:=C6 (k:=(v:Int)) Agm Agm;omega
theorem Abb {acc:List Tx}{v:Nat}(hv:v<26){st:RnS}(hs:wV acc st)(hm:[Co (v:Int)]∈acc):iB st (Co (v:Int))=st/\st.2 v=acc.idxOf [Co (v:Int)]+1:=by
 have aa:=hs.2 v hv;rw[if_pos hm]at aa;refine⟨?_,aa⟩;unfold iB;rw[if_neg];rintro⟨-,h⟩;rw[Rp hv,aa]at h;cases h
theorem Abc {acc:List Tx}{v:Nat}(hv:v<26){st:RnS}(hs:wV acc st)(hm:[Co (v:Int)]∉acc):wV (acc++[[Co (v:Int)]]) (iB st (Co (v:Int)))/\(iB st (Co (v:Int))).2 v=acc.length+1:=by
 have ac:=hs.2 v hv;rw[if_neg hm]at ac;have e:iB st (Co (v:Int))=(st.1+1,fun w=>if w=v then st.1+1 else st.2 w):=by
  unfold iB;rw[if_pos ⟨C7 Agm Agm,by rw[Rp hv];exact ac⟩,Rp hv]
 rw[e];refine⟨⟨by rw[Aee,hs.1];rfl,fun w hw=>?_⟩,by rw[<-hs.1];exact if_pos rfl⟩;show (if w=v then st.1+1 else st.2 w)=_;by_cases ab:w=v
 ·subst ab;rw[if_pos rfl,if_pos (Af4 _ (Aff.2 rfl)),List.idxOf_append,if_neg hm,hs.1,List.idxOf_cons_self];omega
 ·have ad:[Co (w:Int)]≠[Co (v:Int)]:=fun e=>ab (yP hw hv (List.cons.inj e).1);rw[if_neg ab,hs.2 w hw];by_cases aa:[Co (w:Int)]∈acc
  ·rw[if_pos aa,if_pos (Af5 _ aa),Oy (List.prefix_append _ _) aa]
  ·rw[if_neg aa,if_neg];intro h;rcases Aew.1 h with h|h
   ·exact aa h
   ·exact ad (Aff.1 h)
theorem Abd {L acc:List Tx}{v:Nat}(hv:v<26)(hp:De acc [Co (v:Int)]<+:L){st:RnS}(hs:wV acc st):wV (De acc [Co (v:Int)]) (iB st (Co (v:Int)))/\(iB st (Co (v:Int))).2 v=L.idxOf [Co (v:Int)]+1:=by
 have ab:Ad [Co (v:Int)]=true:=C7 (k:=(v:Int)) Agm Agm;by_cases hm:[Co (v:Int)]∈acc
 ·have aa:De acc [Co (v:Int)]=acc:=if_neg (fun h=>h.2 hm);obtain⟨h1,h2⟩:=Abb hv hs hm;rw[aa]at hp⊢;rw[h1,h2,lY hp hm];exact⟨hs,rfl⟩
 ·have aa:De acc [Co (v:Int)]=acc++[[Co (v:Int)]]:=if_pos ⟨ab,hm⟩;obtain⟨h1,h2⟩:=Abc hv hs hm;rw[aa]at hp⊢;rw[h2,lY hp (Af4 _ (Aff.2 rfl)),List.idxOf_append,if_neg hm,List.idxOf_cons_self];exact⟨h1,Agm⟩
theorem Aba {c d:UInt8}{acc acc':List Tx}(h:∀st,wV acc st->wV acc' (iB st c)/\Mt st c d):RnOk [c] [d] acc acc':=by
 refine⟨rfl,fun st hs=>⟨(h st hs).1,fun i b hb=>?_⟩⟩;cases i with
 |zero=>
  have e:c=b:=by simpa using hb
  subst e;exact⟨d,rfl,(h st hs).2⟩
 |succ i=>simp at hb
theorem RnOk.var {L acc:List Tx}{v:Nat}(hv:v<26)(hp:De acc [Co (v:Int)]<+:L)(hL:L.length<=26):RnOk [Co (v:Int)] (Cx L [Co (v:Int)]) acc (De acc [Co (v:Int)]):=by
 have ae:=C7 (k:=(v:Int)) Agm Agm;have af:Ad [Co (v:Int)]=true:=ae;have ad:[Co (v:Int)]∈De acc [Co (v:Int)]:=T9 (.inr ⟨rfl,af⟩);have ah:=hp.subset ad;have aj:=Afd ah;have ai:Cx L [Co (v:Int)]=[Co ((L.idxOf [Co (v:Int)]:Nat):Int)]:=by
  unfold Cx Br;rw[if_pos af,if_pos ah]
 rw[ai];have ac:=Rp hv;have aa:=fun st hs=>Abd (st:=st) hv hp hs;have ab:=C6 (k:=((L.idxOf [Co (v:Int)]:Nat):Int)) Agm Agm;generalize L.idxOf [Co (v:Int)]=ix at aa ab;generalize Co (ix:Int)=d at ab;generalize De acc [Co (v:Int)]=acc' at aa;generalize Co (v:Int)=c at ac aa ae;refine Aba fun st hs=>?_;obtain⟨k1,k2⟩:=aa st hs;refine⟨k1,fun h=>?_,fun _=>?_⟩
 ·rw[ae]at h;cases h
 ·rw[ac,k2,ab];omega
theorem RnOk.term {L acc:List Tx}{t:Tx}(ht:UT t)(hp:De acc t<+:L)(hL:L.length<=26):RnOk t (Cx L t) acc (De acc t):=by
 cases hv:Ad t with
 |true=>
  obtain⟨k,hk,rfl⟩:=ht.2.2.2 hv;exact RnOk.var hk hp hL
 |false=>
  have e1:Cx L t=t:=if_neg (by simp[hv]);have e2:De acc t=acc:=if_neg (by simp[hv]);rw[e1,e2];exact RnOk.plain (fun c hc=>ht.num hv hc) acc
theorem RnOk.more {L:List Tx}(hL:L.length<=26):∀(ts acc:List Tx),(∀t∈ts,UT t)->Dd acc ts<+:L->RnOk (A7 ts) (A7 (ts.map (Cx L))) acc (Dd acc ts)
 |[],acc,_,_=>RnOk.nil acc
 |t::ts,acc,h,hp=>by
  have e:∀(t:Tx) (ts:List Tx),A7 (t::ts)=[44]++(t++A7 ts):=fun t ts=>by simp[A7]
  rw[Ad9,e,e];exact (RnOk.one (by decide) acc).append ((RnOk.term (h t (by simp)) ((Ji ts _).trans hp) hL).append (RnOk.more hL ts _ (fun u hu=>h u (by simp[hu])) hp))
theorem RnOk.list {L:List Tx}(hL:L.length<=26)(ts acc:List Tx)(h:∀t∈ts,UT t)(hp:Dd acc ts<+:L):RnOk (A2 ts) (A2 (ts.map (Cx L))) acc (Dd acc ts):=by
 cases ts with
 |nil=>exact RnOk.nil acc
 |cons t ts=>
  rw[Ad9,A2,A2];exact (RnOk.term (h t (by simp)) ((Ji ts _).trans hp) hL).append (RnOk.more hL ts _ (fun u hu=>h u (by simp[hu])) hp)
theorem RnOk.lit {L:List Tx}(hL:L.length<=26)(a:RAtom)(acc:List Tx)(hw:G6 a.pred)(h:∀t∈a.terms,UT t)(hp:Dd acc a.terms<+:L):RnOk (Bb a) (Bb (Bg L a)) acc (Dd acc a.terms):=by
 have e:∀a:RAtom,Bb a=((if a.nt=true then [33]else [])++(a.pred++[40]))++(A2 a.terms++[41]):=fun a=>by simp[Bb,A4]
 rw[e a,e (Bg L a)];refine RnOk.append (RnOk.plain (fun c hc=>?_) acc) (RnOk.append (RnOk.list hL _ acc h hp) (RnOk.one (by decide) _));rcases Aew.1 hc with hc|hc
 ·split at hc
  ·simp at hc;subst hc;decide
  ·cases hc
 ·rcases Aew.1 hc with hc|hc
  ·exact Qi (hw.2 c hc)
  ·simp at hc;subst hc;decide
theorem RnOk.lmore {L:List Tx}(hL:L.length<=26):∀(ls:List RAtom) (acc:List Tx),(∀a∈ls,G6 a.pred/\∀t∈a.terms,UT t)->Dd acc (ls.flatMap (·.terms))<+:L->RnOk (A7 (ls.map Bb)) (A7 ((ls.map (Bg L)).map Bb)) acc (Dd acc (ls.flatMap (·.terms)))
 |[],acc,_,_=>RnOk.nil acc
 |a::ls,acc,h,hp=>by
  have e:∀(t:Tx) (ts:List Tx),A7 (t::ts)=[44]++(t++A7 ts):=fun t ts=>by simp[A7]
  rw[Ae5,T2]at hp⊢;simp only[Ad9,e];exact (RnOk.one (by decide) acc).append ((RnOk.lit hL a acc (h a (by simp)).1 (h a (by simp)).2 ((Ji _ _).trans hp)).append (RnOk.lmore hL ls _ (fun b hb=>h b (by simp[hb])) hp))
theorem xU {x:RItem}(hw:Bv x)(hu:∀a∈Ae x,∀t∈a.terms,UT t)(hL:(Au x).length<=26):RnOk (A0 x++[46]) (A0 (ren x)++[46]) [] (Au x):=by
 refine RnOk.append ?_ (RnOk.one (by decide) _);cases ho:x.out with
 |true=>
  obtain⟨-,h2,h3⟩:=hw.2.1 ho;have e1:A0 x=63::x.head.pred:=if_pos ho;have e2:A0 (ren x)=63::x.head.pred:=if_pos ho;have e3:Au x=[]:=by simp[Au,Ae,ho,h3,Dd]
  rw[e1,e2,e3];refine RnOk.plain (fun c hc=>?_) [];rcases Aeq.1 hc with rfl|hc
  ·decide
  ·exact Qi (hw.1.2 c hc)
 |false=>
  obtain⟨h1,h2,h3,h4⟩:=hw.2.2 ho;have hO:Au x=Dd (Dd [] x.head.terms) (x.body.flatMap (·.terms)):=by
   unfold Au;rw[<-T2];simp[Ae,ho]
  have e1:A0 x=Bb x.head++(if x.body=[]then []else 58::45::A2 (x.body.map Bb)):=by
   rw[A0,if_neg (by simp[ho]),Cv];simp[Bb,h2]
  have e2:A0 (ren x)=Bb (Bg (Au x) x.head)++(if x.body=[]then []else 58::45::A2 ((x.body.map (Bg (Au x))).map Bb)):=by
   rw[A0,if_neg (by simp[ren,ho]),Cv];simp[Bb,ren,Bg,h2]
  have ac:Dd [] x.head.terms<+:Au x:=by rw[hO];exact Ji _ _
  have hh:=RnOk.lit hL x.head [] h1.1 (hu x.head (Ak (.inl ⟨ho,rfl⟩))) ac;rw[e1,e2]
  conv=>arg 4;rw[hO]
  refine hh.append ?_;by_cases hb:x.body=[]
  ·rw[if_pos hb,if_pos hb,hb];exact RnOk.nil _
  ·rw[if_neg hb,if_neg hb];obtain⟨a,ls,e⟩:=Af3 hb;have ab:Dd (Dd [] x.head.terms) (x.body.flatMap (·.terms))<+:Au x:=by rw[hO];exact Ae6 _
   rw[e]at ab⊢;rw[Ae5,T2]at ab⊢;have aa:∀b∈a::ls,G6 b.pred/\∀t∈b.terms,UT t:=fun b hb=>by
    rw[<-e]at hb;exact⟨(h4 b hb).1,hu b (Ak (.inr hb))⟩
   have ec:∀t:Tx,(58::45::t:Tx)=[58,45]++t:=fun t=>rfl;rw[Ad9,Ad9,Ad9,A2,A2,ec (Bb a++_),ec (Bb (Bg (Au x) a)++_)];refine (RnOk.plain (fun c hc=>?_) _).append ((RnOk.lit hL a _ (aa a (by simp)).1 (aa a (by simp)).2 ((Ji _ _).trans ab)).append (RnOk.lmore hL ls _ (fun b hb=>aa b (by simp[hb])) ab));simp at hc;rcases hc with rfl|rfl<;>decide
def Aa6:RnS:=(0,fun _=>0)
def RnT (p q:Tx):Prop:=p.length=q.length/\p.length<=100000/\∀i c,p[i]?=some c->∃d,q[i]?=some d/\Mt ((p.take i).foldl iB Aa6) c d
theorem Abe {x:RItem}(hw:Bv x)(hu:∀a∈Ae x,∀t∈a.terms,UT t)(hL:(Au x).length<=26)(hl:(A0 x++[46]).length<=100000):RnT (A0 x++[46]) (A0 (ren x)++[46]):=by
 have h:=xU hw hu hL;exact⟨h.1,hl,(h.2 Aa6 ⟨rfl,fun v hv=>by simp[Aa6]⟩).2⟩
end Go.Proofs.YtmoeoppbmhfbpabGreatDoorG
