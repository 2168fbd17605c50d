import Derived.Test.YtmoeoppbmhfbpabGreatDoorJOptC
import Derived.Test.YtmoeoppbmhfbpabGreatDoorJEngU
import Derived.Test.YtmoeoppbmhfbpabGreatDoorJFacts
import Derived.Test.YtmoeoppbmhfbpabGreatDoorJStrC
import Derived.Test.YtmoeoppbmhfbpabGreatDoorJProgR
import Derived.Test.YtmoeoppbmhfbpabGreatDoorJAbsWp
set_option maxHeartbeats 32000000
set_option maxRecDepth 100000
set_option linter.all false
namespace Go.Proofs.YtmoeoppbmhfbpabGreatDoorJ
open Go.Abs
def G6 (N:List Tx)(U:Nat->Nat->Bool)(l:List RItem)(q:Nat):Bool:=l.any fun x=>x.out&&(decide (N.idxOf x.head.pred=q)||U (N.idxOf x.head.pred) q)
theorem eN {N:List Tx}{U:Nat->Nat->Bool}{l:List RItem}{i:Nat}{x:RItem}(h:l[i]?=some x)(q:Nat):G6 N U (l.take (i+1)) q=(G6 N U (l.take i) q||(x.out&&(decide (N.idxOf x.head.pred=q)||U (N.idxOf x.head.pred) q))):=by
 unfold G6;rw[Abv,h,Ac5,Adn];simp
theorem Tt {n:Nat}{f g:Nat->Bool}(h:∀q,q<n->f q=g q):G5 n f=G5 n g:=by
 unfold G5;exact Acu fun q hq=>by rw[h q (by simpa using hq)]
theorem X9 (N:List Tx)(l:List RItem)(cs:List AV)(idn idi:Nat)(hB:Bk N l cs)(d:St):ACalls Tryz.prog 176 [Bs N idn l idi cs] d fun r d'=>∃o M,r=fx o 0 N.length/\Keep d d'/\d.nobj<=o/\o<d'.nobj/\Dm N l M/\d'.obj o=G5 N.length (G6 N (E5 N.length M N.length) l):=by
 have bh:=EL.length Df hB.el;have ba:=hB.len;have hN:=hB.nm;have bi:=Wu N.length;refine Z9 49 [.tmp 2] Tryz.func176 ?_
 repeat' (first|refine Z1 ?_|(refine Z8 ?_;intro κ hκ)|(refine Z4 ?_;clear hκ κ)|(refine Z2 ?_ ?_<;>intro h aa<;>try exact Xp)|(refine Z5 ?_;refine Xi (Lx N l cs idn idi hB _) ?_;rintro _ _ ⟨idu,B,M0,rfl,ak,bc,au,aw,a3⟩;(rw[Aa]at bc;have af:=ak.obj;have an:=ak.nobj;(try simp only[Aa,Ab,Ag]at an af)))|refine Z3 ?_|exact⟨⟩|(apply hκ.out;clear hκ κ))
 rename_i d1;have am:Aec (Dm N l M0):=a3;clear a3 af;have be:=Hl B N.length N.length;have bl:Keep d d1:=((Keep.refl d).new _).trans ak;clear ak;generalize hU:E5 N.length M0 N.length=U at aw;have HU:Aec _:=hU;clear hU
 refine Ad (fun m s d'=>∃i:Nat,m=l.length-i/\i<=l.length/\s 3=sl idu N.length (Ek B N.length N.length)/\s 4=fx d1.nobj 0 N.length/\s 16=sl idi l.length cs/\s 17=sc (.int .i64 l.length)/\s 18=sc (.int .i64 i)/\Keep d d'/\d1.nobj<d'.nobj/\d'.obj d1.nobj=G5 N.length (G6 N U (l.take i))/\Aec (Mat B N.length U d')) l.length
  ⟨0,Ad6,Ad6,Ad8,Ad8,Ad8,Ad8,rfl,Xs,Aea,by rw[Ao];rfl,Mat.new aw au _⟩ ?_
 clear aw;rintro m s d' ⟨i,rfl,hi,h3,h4,a6,a5,a4,hK,ae,ab,hM⟩;have ax:=hK.nobj;by_cases a9:i<l.length
 ·have ac:=List.getElem?_eq_getElem a9;obtain⟨hm,ih,id,b,r,hb,hd⟩:=Fi hB.el ac;generalize l[i]=x at hd ac hb hm;have ad:=eN (N:=N) (U:=U) ac;have ap:=Ac4 hm;cases aj:x.out with
  |false=>
   rw[aj]at hd ad;have ai:d'.obj d1.nobj=G5 N.length (G6 N U (l.take (i+1))):=by
    rw[ab];exact Tt fun q _=>by rw[ad q];simp
   clear ad ac ab aj;generalize N.idxOf x.head.pred=ph at*
   repeat' (first|refine Z1 ?_|(refine Z8 ?_;intro κ hκ)|(refine Z4 ?_;clear hκ κ)|(refine Z2 ?_ ?_<;>intro h aa<;>try exact Xp)|refine Z3 ?_|exact⟨⟩|(apply hκ.out;clear hκ κ))
   refine⟨l.length-(i+1),Ad6,i+1,?_⟩
   ((repeat' with_reducible refine And.intro ?_ ?_)<;>first|exact Xq|exact (Mat.put (Mat.new hM.out Ad6 _) Ad6 _)|exact (by rw[Aj Ad6,Ae Ad6,ai])|exact Xs)
  |true=>
   rw[aj]at hd ad;clear ac aj;generalize N.idxOf x.head.pred=ph at*
   generalize G6 N U (l.take i)=w0 at ab ad;generalize ah:G6 N U (l.take (i+1))=w1 at ad;have a7:Aec _:=ah;have a8:Aec (∀q,w1 q=(w0 q||(true&&(decide (ph=q)||U ph q)))):=ad;clear ad ah;have bf:=Hm (B:=B) (n:=N.length) (k:=N.length) ap;have a0:=hM.out _ ap;have bd:=Dv N.length (U ph);have ao:=Dv N.length w0;have ay:=Ts (n:=N.length) (i:=ph) w0 true
   repeat' (first|refine Z1 ?_|(refine Z8 ?_;intro κ hκ)|(refine Z4 ?_;clear hκ κ)|(refine Z2 ?_ ?_<;>intro h aa<;>try exact Xp)|refine Z3 ?_|exact⟨⟩|(apply hκ.out;clear hκ κ))
   refine Ad (fun m s d2=>∃(p:Nat) (g:Nat->Bool),m=N.length-p/\p<=N.length/\s 3=sl idu N.length (Ek B N.length N.length)/\s 4=fx d1.nobj 0 N.length/\s 16=sl idi l.length cs/\s 17=sc (.int .i64 l.length)/\s 18=sc (.int .i64 i)/\s 35=fx (B+ph) 0 N.length/\s 36=sc (.int .i64 N.length)/\s 37=sc (.int .i64 p)/\Keep d d2/\d1.nobj<d2.nobj/\d2.obj d1.nobj=G5 N.length g/\Aec (Mat B N.length U d2)/\Aec (∀q,g q=(w0 q||decide (ph=q)||(decide (q<p)&&U ph q)))) N.length
    ⟨0,fun j=>if j=ph then true else w0 j,Ad6,Ad6,Ad7,Ad7,Ad7,Ad7,Ad7,Ad8,Ad8,Ad8,Xs,Aeb,by rw[Ak],Mat.put (Mat.put (Mat.new hM.out Ad6 _) Ad6 _) Ad6 _,fun q=>by
     by_cases h:q=ph
     ·simp[h]
     ·simp[h,Ne.symm h]⟩ ?_
   clear h3 h4 a6 a5 a4 hK ae ab hM a0 ay ao ax;rintro m s d2 ⟨p,g,rfl,hp,h3,h4,a6,a5,a4,bo,bn,bm,hK,ae,ab,hM,hg⟩;have ax:=hK.nobj;by_cases av:p<N.length
   ·have a0:=hM.out _ ap;have az:=F0 (U ph) av;have bg:=Dv N.length g;cases hu:U ph p with
    |true=>
     rw[hu]at az;have ay:=Ts (n:=N.length) (i:=p) g true;have HG:Aec (∀q,(if q=p then true else g q)=(w0 q||decide (ph=q)||(decide (q<p+1)&&U ph q))):=fun q=>by
      by_cases h:q=p
      ·simp[h,hu]
      ·rw[if_neg h,hg.out q,show decide (q<p+1)=decide (q<p)from by rw[decide_eq_decide];omega]
     clear hg hu
     repeat' (first|refine Z1 ?_|(refine Z8 ?_;intro κ hκ)|(refine Z4 ?_;clear hκ κ)|(refine Z2 ?_ ?_<;>intro h aa<;>try exact Xp)|refine Z3 ?_|exact⟨⟩|(apply hκ.out;clear hκ κ))
     refine⟨N.length-(p+1),Ad6,p+1,fun q=>if q=p then true else g q,?_⟩
     ((repeat' with_reducible refine And.intro ?_ ?_)<;>first|exact Xq|exact (HG)|exact (Mat.put hM.out Ad6 _)|exact (by rw[Ak])|exact Xs)
    |false=>
     rw[hu]at az;have HG:Aec (∀q,g q=(w0 q||decide (ph=q)||(decide (q<p+1)&&U ph q))):=fun q=>by
      by_cases h:q=p
      ·rw[hg.out q];simp[h,hu]
      ·rw[hg.out q,show decide (q<p+1)=decide (q<p)from by rw[decide_eq_decide];omega]
     clear hg hu
     repeat' (first|refine Z1 ?_|(refine Z8 ?_;intro κ hκ)|(refine Z4 ?_;clear hκ κ)|(refine Z2 ?_ ?_<;>intro h aa<;>try exact Xp)|refine Z3 ?_|exact⟨⟩|(apply hκ.out;clear hκ κ))
     refine⟨N.length-(p+1),Ad6,p+1,g,?_⟩
     ((repeat' with_reducible refine And.intro ?_ ?_)<;>first|exact Xq|exact (HG)|exact Xs)
   ·have hpl:p=N.length:=Ad6;have ai:d2.obj d1.nobj=G5 N.length (G6 N U (l.take (i+1))):=by
     rw[ab,a7.out];exact Tt fun q hq=>by rw[a8.out q,hg.out q,hpl];simp[hq,Bool.or_assoc]
    clear hg ab a8 a7
    repeat' (first|refine Z1 ?_|(refine Z8 ?_;intro κ hκ)|(refine Z4 ?_;clear hκ κ)|(refine Z2 ?_ ?_<;>intro h aa<;>try exact Xp)|refine Z3 ?_|exact⟨⟩|(apply hκ.out;clear hκ κ))
    refine⟨l.length-(i+1),Ad6,i+1,?_⟩
    ((repeat' with_reducible refine And.intro ?_ ?_)<;>first|exact Xq|exact (hM)|exact Xs)
 ·have bb:i=l.length:=Ad6;subst bb;rw[Abt]at ab
  repeat' (first|refine Z1 ?_|(refine Z8 ?_;intro κ hκ)|(refine Z4 ?_;clear hκ κ)|(refine Z2 ?_ ?_<;>intro h aa<;>try exact Xp)|refine Z3 ?_|exact⟨⟩|(apply hκ.out;clear hκ κ))
  first|exact⟨_,rfl,_,M0,rfl,hK,Ad6,ae,am.out,by rw[HU.out];exact ab⟩|exact⟨_,rfl,_,M0,rfl,Ad6,ae,am.out,by rw[HU.out];exact ab⟩|exact⟨_,rfl,_,M0,Ad6,ae,am.out,by rw[HU.out];exact ab⟩|(trace_state;exact⟨_,rfl,_,M0,rfl,hK,Ad6,ae,am.out,by rw[HU.out];exact ab⟩)
theorem GL.sub {N:List Tx}{l l':List RItem}(h:GL N l)(hs:∀x∈l',x∈l)(hl:l'.length<=16):GL N l':=
 ⟨hl,h.nm,fun x hx=>h.msr x (hs x hx),fun x hx=>h.fits x (hs x hx),fun x hx=>h.pos x (hs x hx),fun x hx=>h.va x (hs x hx),fun x hx=>h.ar x (hs x hx)⟩
def H1 (N:List Tx)(U:Nat->Nat->Bool)(l:List RItem):List RItem:=l.filter fun x=>G6 N U l (N.idxOf x.head.pred)
def chS (N:List Tx)(l:List RItem)(idn:Nat)(x:AV)(b:Bool):Prop:=∃M,Dm N l M/\
 (((H1 N (E5 N.length M N.length) l).length=l.length/\b=false)\/
  ((H1 N (E5 N.length M N.length) l).length≠l.length/\b=Dp N l (H1 N (E5 N.length M N.length) l)/\(b=true->∃id c',x=Bs N idn (H1 N (E5 N.length M N.length) l) id c'/\EL (PI N) (H1 N (E5 N.length M N.length) l) c')))
theorem nO {α:Type}{f:α->Bool}{l:List α}{i:Nat}{x:α}(h:l[i]?=some x):(l.take (i+1)).filter f=(l.take i).filter f++if f x=true then [x]else []:=by
 rw[Abv,h,Ac5,Adp];cases hf:f x<;>simp[hf]
theorem Kc (N:List Tx)(l:List RItem)(cs:List AV)(idn idi:Nat)(hG:GL N l)(hE:EL (PI N) l cs)(d:St):
  ACalls Tryz.prog 124 [Bs N idn l idi cs] d fun r d'=>(∃x b,r=tp [x,sc (.bool b)]/\chS N l idn x b/\sU x)/\Keep d d':=by
 have bq:=EL.length Df hE;have aw:=hG.len;have hN:=hG.nm;have bn:Bk N l cs:=(hG.bkm hE).bk aw;have a4:=fun d=>X9 N l cs idn idi bn d;refine Z9 41 [.cell 2 62,.tmp 3] Tryz.func124 ?_
 repeat' (first|refine Z1 ?_|(refine Z8 ?_;intro κ hκ)|(refine Z4 ?_;clear hκ κ)|(refine Z2 ?_ ?_<;>intro h ah<;>try exact Xp)|(refine Z6 ?_;intro idn dn ak an ac aa ad ab)|(refine Z5 ?_;refine Xi (a4 _) ?_;rintro _ _ ⟨ow,M0,rfl,ao,au,bh,a9,aj⟩;(have ap:=ao.nobj;have ai:=ao.obj;(try simp only[Aa,Ab]at ap ai au)))|refine Z3 ?_|exact⟨⟩|(apply hκ.out;clear hκ κ))
 rename_i d1;have obk:d1.obj d.nobj=[sl idn N.length (N.map str),sl idi l.length cs]:=by rw[ai _ Ad6,Ae Aea,Ao]
 have obr:d1.obj (d.nobj+1)=[nilS,nilS]:=by rw[ai _ Ad6];first|exact Ao|simp[Ao]
 have bc:Aec (Dm N l M0):=a9;generalize a5:E5 N.length M0 N.length=U at aj;have HU:Aec _:=a5;have a7:Keep d d1:=(((Keep.refl d).new _).new _).trans ao;clear a9 a5 ao ai a4;generalize ay:G6 N U l=w at aj;have HW:Aec _:=ay;clear ay
 refine Ad (fun m s d'=>∃(i id:Nat) (R:List RItem) (c:List AV),m=l.length-i/\i<=l.length/\s 1=ptr d.nobj 0/\s 2=ptr (d.nobj+1) 0/\s 4=fx ow 0 N.length/\s 5=sl id R.length c/\s 12=sl idi l.length cs/\s 13=sc (.int .i64 l.length)/\s 14=sc (.int .i64 i)/\Keep d d'/\d1.nobj<=d'.nobj/\d'.obj ow=G5 N.length w/\d'.obj d.nobj=[sl idn N.length (N.map str),sl idi l.length cs]/\d'.obj (d.nobj+1)=[nilS,nilS]/\Own d d' id R.length/\c.length=R.length*4/\R.length<=i/\Aec (R=(l.take i).filter (fun x=>w (N.idxOf x.head.pred))/\EL (PI N) R c)) l.length
  ⟨0,1,[],[],Ad6,Ad6,Ad8,Ad8,Ad8,Ad8,Ad8,Ad8,rfl,a7,Ad6,aj,obk,obr,Own.nil _ _,by simp,by simp,⟨by simp,rfl⟩⟩ ?_
 clear a7 aj obk obr;rintro m s d' ⟨i,id,R,c,rfl,hi,h1,h2,h4,h5,bz,bw,bv,hK,bp,obw,obk,obr,hO,a0,bu,hA⟩;have bo:=hK.nobj;have br:=Dv N.length w;by_cases bi:i<l.length
 ·have af:=List.getElem?_eq_getElem bi;obtain⟨av,ih,idb,b,r,a3,hd⟩:=Fi hE af;generalize l[i]=x at hd af av a3;have bg:=Ac4 av;have am:=nO (f:=fun x:RItem=>w (N.idxOf x.head.pred)) af;have az:=F0 w bg;cases hw:w (N.idxOf x.head.pred)with
  |true=>
   simp only[hw,if_true]at am;rw[hw]at az;have HA:Aec (R++[x]=(l.take (i+1)).filter (fun x=>w (N.idxOf x.head.pred))/\EL (PI N) (R++[x]) (c++[sc (.bool x.out),sc (.int .i64 (N.idxOf x.head.pred:Nat)),sl ih x.head.terms.length (Av x.head.terms),sl idb x.body.length b])):=⟨by rw[am,<-hA.out.1],EL.append hA.out.2 (EL.single (PI.of av a3))⟩;clear am af hA hw
   repeat' (first|refine Z1 ?_|(refine Z8 ?_;intro κ hκ)|(refine Z4 ?_;clear hκ κ)|(refine Z2 ?_ ?_<;>intro h ah<;>try exact Xp)|(refine Z6 ?_;intro idn dn ak an ac aa ad ab)|refine Z3 ?_|exact⟨⟩|(apply hκ.out;clear hκ κ))
   refine Bn (by first|exact Jj) ((hK.new _).put hK.nobj _) (Own.put (Own.new hO _) _ _) (by decide) (by rfl) (a0) (by rfl) (by rfl) (by decide) Ad6 Ad6 ?_;intro idn' dn ak an ac aa ad ab;simp only[Ab,Aa]at aa;have eob:∀p,p<d'.nobj->dn.obj p=d'.obj p:=fun p hp=>by rw[ac,Aj Ad6,Ae Ad6]
   refine Z3 ?_
   repeat' (first|refine Z1 ?_|(refine Z8 ?_;intro κ hκ)|(refine Z4 ?_;clear hκ κ)|(refine Z2 ?_ ?_<;>intro h ah<;>try exact Xp)|(refine Z6 ?_;intro idn dn ak an ac aa ad ab)|refine Z3 ?_|exact⟨⟩|(apply hκ.out;clear hκ κ))
   refine⟨l.length-(i+1),Ad6,i+1,idn',R++[x],c++[sc (.bool x.out),sc (.int .i64 (N.idxOf x.head.pred:Nat)),sl ih x.head.terms.length (Av x.head.terms),sl idb x.body.length b],?_⟩
   ((repeat' with_reducible refine And.intro ?_ ?_)<;>first|exact Xq|exact (HA)|exact ((by simpa using ak))|exact ((by simp[a0];omega))|exact (by rw[eob _ Ad6,obw])|exact (by rw[eob _ Ad6,obk])|exact (by rw[eob _ Ad6,obr])|exact Xs)
  |false=>
   simp only[hw,Acb,if_false,Abz]at am;rw[hw]at az;have HA:Aec (R=(l.take (i+1)).filter (fun x=>w (N.idxOf x.head.pred))/\EL (PI N) R c):=⟨by rw[am,<-hA.out.1],hA.out.2⟩;clear am af hA hw
   repeat' (first|refine Z1 ?_|(refine Z8 ?_;intro κ hκ)|(refine Z4 ?_;clear hκ κ)|(refine Z2 ?_ ?_<;>intro h ah<;>try exact Xp)|(refine Z6 ?_;intro idn dn ak an ac aa ad ab)|refine Z3 ?_|exact⟨⟩|(apply hκ.out;clear hκ κ))
   refine⟨l.length-(i+1),Ad6,i+1,id,R,c,?_⟩
   ((repeat' with_reducible refine And.intro ?_ ?_)<;>first|exact Xq|exact (HA)|exact (Own.put (Own.new hO _) _ _)|exact (by rw[Aj Ad6,Ae Ad6,obw])|exact (by rw[Aj Ad6,Ae Ad6,obk])|exact (by rw[Aj Ad6,Ae Ad6,obr])|exact Xs)
 ·have bm:i=l.length:=Ad6;subst bm;rw[Abt]at hA;have a6:R=H1 N (E5 N.length M0 N.length) l:=by rw[hA.out.1,H1,HU.out,HW.out]
  have HR:Aec _:=a6;have HE:Aec (EL (PI N) R c):=hA.out.2;have ba:GL N R:=hG.sub (fun x hx=>(Adj.1 (by rw[<-hA.out.1];exact hx)).1) Ad6;have ax:=fun d=>K0 N l R cs c idn idi id (hG.bkm hE) (ba.bkm HE.out).bj d;clear hA a6 ba;by_cases ae:R.length=l.length
  ·have bl:((R.length:Int)==(l.length:Int))=true:=by simp[ae]
   have HC:Aec (∀x,chS N l idn x false):=fun x=>⟨M0,bc.out,.inl ⟨by rw[<-HR.out];exact ae,rfl⟩⟩;clear ax ae
   repeat' (first|refine Z1 ?_|(refine Z8 ?_;intro κ hκ)|(refine Z4 ?_;clear hκ κ)|(refine Z2 ?_ ?_<;>intro h ah<;>try exact Xp)|(refine Z6 ?_;intro idn dn ak an ac aa ad ab)|refine Z3 ?_|exact⟨⟩|(apply hκ.out;clear hκ κ))
   exact⟨_,rfl,⟨_,false,rfl,HC.out _,_,_,_,_,_,_,rfl⟩,Xs⟩
  ·have bl:((R.length:Int)==(l.length:Int))=false:=by simpa using (by omega:¬(R.length:Int)=l.length)
   have HC:Aec (∀x,(Dp N l R=true->x=Bs N idn R id c)->chS N l idn x (Dp N l R)):=fun x hx=>⟨M0,bc.out,.inr ⟨by rw[<-HR.out];exact ae,by rw[<-HR.out],fun hb=>⟨id,c,by rw[<-HR.out];exact hx hb,by rw[<-HR.out];exact HE.out⟩⟩⟩;generalize Dp N l R=bb at ax HC;clear ae
   repeat' (first|refine Z1 ?_|(refine Z8 ?_;intro κ hκ)|(refine Z4 ?_;clear hκ κ)|(refine Z2 ?_ ?_<;>intro h ah<;>try exact Xp)|(refine Z6 ?_;intro idn dn ak an ac aa ad ab)|(refine Z5 ?_;refine Xi (ax _) ?_;rintro _ _ ⟨⟨x7,rfl,bf,⟨id71,n71,c71,id72,n72,c72,rfl⟩⟩,a8⟩;(have be:=a8.nobj;have bd:=a8.obj))|refine Z3 ?_|exact⟨⟩|(apply hκ.out;clear hκ κ))
   exact⟨_,rfl,⟨_,bb,rfl,HC.out _ bf,_,_,_,_,_,_,rfl⟩,Xs⟩
def xU (p:Tx):Prop:=J3 p/\p.length<=6
def zN (t:Tx):Prop:=(∃b,t=[b]/\Bl b.toNat=true)\/t=[48]\/∃b r,t=b::r/\Fw b.toNat=true/\(∀c∈r,A0 c.toNat=true)/\r.length<=2
structure tP (a:Ai):Prop where
 nm:xU a.pred
 ne:a.terms≠[]
 few:a.terms.length<=3
 tm:∀t∈a.terms,zN t
structure GIt (x:RItem):Prop where
 nm:xU x.head.pred
 out:x.out=true->x.head.nt=false/\x.head.terms=[]/\x.body=[]
 rule:x.out=false->tP x.head/\x.head.nt=false/\x.body.length<=5/\∀a∈x.body,tP a
theorem Oj (p:Int->Bool):∀(n:Nat) (t r:Tx),(∀b∈t,p b.toNat=true)->t.length<=n->(∀b q,r=b::q->p b.toNat=false)->As p n (t++r)=(t,r)
 |n,[],r,_,_,hr=>by
  cases n with
  |zero=>rfl
  |succ n=>
   cases r with
   |nil=>rfl
   |cons b q=>
    show As p (n+1) (b::q)=_;unfold As;rw[if_neg (by simp[hr b q rfl])]
 |0,b::t,r,_,hl,_=>by simp at hl
 |n+1,b::t,r,ht,hl,hr=>by
  show As p (n+1) (b::(t++r))=_;unfold As;rw[if_pos (ht b (by simp)),Oj p n t r (fun c hc=>ht c (by simp[hc])) (by simpa using hl) hr]
theorem bO {p r:Tx}(h:xU p)(hr:∀b q,r=b::q->Be b.toNat=false):El (p++r)= .got p r:=by
 unfold El;rw[Oj Be 6 p r h.1.2 h.2 hr];rw[if_neg h.1.1]
theorem bL {t r:Tx}(h:zN t)(hr:∀b q,r=b::q->A0 b.toNat=false):Ca (t++r)= .got t r:=by
 rcases h with⟨b,rfl,hb⟩|rfl|⟨b,q,rfl,hb,hq,hl⟩
 ·show Ca (b::r)=_;unfold Ca;dsimp only;rw[if_pos hb]
 ·show Ca (48::r)=_;unfold Ca;dsimp only;rw[if_neg (by decide),if_pos (by decide)]
 ·show Ca (b::(q++r))=_;unfold Ca;dsimp only;rw[if_neg,if_neg,if_pos hb,Oj A0 2 q r hq hl hr]
  ·intro e;simp only[Fw,Abo,Ad3]at hb;simp at e;omega
  ·intro e;rw[Kr e]at hb;cases hb
theorem Da {α β:Type}(x:α)(r:Tx)(f:α->Tx->Rd β):(Rd.got x r).bnd f=f x r:=rfl
theorem I7 {c:UInt8}{r:Tx}:Aw c.toNat (c::r)= .got () r:=by unfold Aw;dsimp only;rw[if_pos (by simp)]
theorem Ls (t:Tx)(ts:List Tx):Br (t::ts)=44::(t++Br ts):=by simp[Br]
theorem Sj {α:Type}{f:Tx->Rd α}{u:α->Tx}{c:UInt8}(hc:c≠44){P:α->Prop}(hf:∀x r,P x->(∀b q,r=b::q->b=44\/b=c)->f (u x++r)= .got x r):∀(n:Nat) (xs:List α) (r:Tx),(∀x∈xs,P x)->xs.length<=n->Dg f n (Br (xs.map u)++c::r)= .got xs (c::r)
 |0,[],r,_,_=>rfl
 |n+1,[],r,_,_=>by
  show Dg f (n+1) (c::r)=_;unfold Dg
  rw[if_neg (by
   intro h
   exact hc (Li 44 h))]
 |0,x::xs,r,_,hl=>by simp at hl
 |n+1,x::xs,r,hP,hl=>by
  rw[Ab1,Ls];show Dg f (n+1) (44::((u x++Br (xs.map u))++c::r))=_;unfold Dg;rw[if_pos (by decide),Ab8,hf x _ (hP x (by simp)) ?_]
  ·rw[Da,Sj hc hf n xs r (fun y hy=>hP y (by simp[hy])) (by simpa using hl)];rfl
  ·intro b q e;cases xs with
   |nil=>simp[Br]at e;exact .inr e.1.symm
   |cons y ys=>rw[Ab1,Ls]at e;simp at e;exact .inl e.1.symm
theorem nd {b:UInt8}(h:b=44\/b=41):A0 b.toNat=false:=by rcases h with rfl|rfl<;>decide
theorem Sp {a:Ai}(h:tP a)(r:Tx):C1 a.nt (Ay a++r)= .got a r:=by
 unfold C1 Ay;rw[Ab8,bO h.nm (fun b q e=>by simp at e;rw[<-e.1];decide)];rw[Da,Ack];rw[show (40:Int)=((40:UInt8).toNat:Int)from rfl,I7];rw[Da];obtain⟨t,ts,e⟩:=List.exists_cons_of_ne_nil h.ne;have ab:=h.tm;have aa:=h.few;rw[e]at ab aa;rw[e,Bf];unfold Wc;have e2:((t++Br ts++[41])++r:Tx)=t++(Br (ts.map id)++41::r):=by simp
 rw[e2,bL (ab t (by simp)) ?_]
 ·rw[Da,Sj (u:=id) (c:=41) (by decide) (P:=zN) (fun x r hx hr=>bL hx fun b q e=>nd (hr b q e)) 2 ts r (fun y hy=>ab y (by simp[hy])) (by simpa using aa)];rw[Da,show (41:Int)=((41:UInt8).toNat:Int)from rfl,I7];rw[Da,<-e]
 ·intro b q eb;cases ts with
  |nil=>simp[Br]at eb;exact nd (.inr eb.1.symm)
  |cons y ys=>rw[Ab1,Ls]at eb;simp at eb;exact nd (.inl eb.1.symm)
theorem kK {a:Ai}(h:tP a)(r:Tx):J7 (B9 a++r)= .got a r:=by
 have hp:=Sp h r;cases hn:a.nt with
 |true=>
  rw[hn]at hp;rw[show B9 a++r=33::(Ay a++r)by simp[B9,hn]];unfold J7;dsimp only;rw[if_pos (by decide)];exact hp
 |false=>
  rw[hn]at hp;rw[show B9 a++r=Ay a++r by simp[B9,hn]];obtain⟨b,q,e,h1,h2⟩:=Jr h.nm.1;have e2:Ay a++r=b::(q++40::(Bf a.terms++[41])++r):=by unfold Ay;rw[e];simp
  rw[e2]at hp⊢;unfold J7;dsimp only;rw[if_neg (by simp;omega)];exact hp
theorem qQ {x:RItem}(h:GIt x)(r:Tx):Fv (Bh x++46::r)= .got x r:=by
 cases ho:x.out with
 |true=>
  obtain⟨h1,h2,h3⟩:=h.out ho;rw[Bh,if_pos ho];show Fv (63::(x.head.pred++46::r))=_;unfold Fv;dsimp only;rw[if_pos (by decide)];unfold bN;rw[bO h.nm (fun b q e=>by simp at e;rw[<-e.1];decide)];rw[Da,show (46:Int)=((46:UInt8).toNat:Int)from rfl,I7];rw[Da];obtain⟨o,⟨n,p,ts⟩,bd⟩:=x;simp only at h1 h2 h3 ho;subst h1;subst h2;subst h3;subst ho;rfl
 |false=>
  obtain⟨h1,h2,h3,h4⟩:=h.rule ho;have hR:Fv (Bh x++46::r)=Nb (Bh x++46::r):=by
   obtain⟨b,q,e,g1,g2⟩:=Jr h.nm.1;have e2:Bh x++46::r=b::(q++40::(Bf x.head.terms++[41])++(if x.body=[]then []else 58::45::Bf (x.body.map B9))++46::r):=by
    unfold Bh C5 Ay;rw[if_neg (by simp[ho]),e];simp
   rw[e2];unfold Fv;dsimp only;rw[if_neg (by simp;omega)]
  rw[hR,Bh,if_neg (by simp[ho]),C5,Ab8];unfold Nb;have hp:=Sp h1 ((if x.body=[]then []else 58::45::Bf (x.body.map B9))++46::r);rw[h2]at hp;rw[hp,Da];by_cases hb:x.body=[]
  ·rw[if_pos hb];show Na x.head (46::r)=_;unfold Na;dsimp only;rw[if_pos (by decide)];rw[<-hb,<-ho]
  ·rw[if_neg hb];obtain⟨l,ls,e⟩:=List.exists_cons_of_ne_nil hb;rw[e]at h3 h4;rw[e,Ab1,Bf];have e2:(58::45::(B9 l++Br (ls.map B9))++46::r:Tx)=58::45::(B9 l++(Br (ls.map B9)++46::r)):=by simp
   rw[e2];unfold Na;dsimp only;rw[if_neg (by decide)];rw[show (58:Int)=((58:UInt8).toNat:Int)from rfl,I7];rw[Da,show (45:Int)=((45:UInt8).toNat:Int)from rfl,I7];rw[Da];unfold Sn;rw[kK (h4 l (by simp)),Da,Sj (u:=B9) (c:=46) (by decide) (P:=tP) (fun y q hy _=>kK hy q) 4 ls r (fun y hy=>h4 y (by simp[hy])) (by simpa using h3)];rw[Da,show (46:Int)=((46:UInt8).toNat:Int)from rfl,I7];rw[Da,<-e,<-ho]
theorem Wa:∀(n:Nat) (l:List RItem),(∀x∈l,GIt x)->l.length<=n->Bj n (Bp l)= .got l []
 |n,[],_,_=>by cases n<;>rfl
 |0,x::l,_,hl=>by simp at hl
 |n+1,x::l,h,hl=>by
  have e:Bp (x::l)=Bh x++46::Bp l:=by simp[Bp]
  have aa:Bh x++46::Bp l≠[]:=by simp
  obtain⟨b,q,e2⟩:=List.exists_cons_of_ne_nil aa;rw[e];have hp:=qQ (h x (by simp)) (Bp l);rw[e2]at hp⊢;show ((Fv (b::q)).bnd fun x r=>(Bj n r).bnd fun xs r=>.got (x::xs) r)=_;rw[hp,Da,Wa n l (fun y hy=>h y (by simp[hy])) (by simpa using hl)];rfl
end Go.Proofs.YtmoeoppbmhfbpabGreatDoorJ
namespace Go.Abs
theorem eD {P:Program}{t:TypeId}{z b:Nat}{zc:List Value}{d:St}{id2 m n:Nat}{x:AV}{xs ys:List AV}{K:AV->St->Prop}(ht:Lp P t=some (z,b,zc))
  (hz:0<z) (hzc:zc.length=z) (hy:ys.length=m*z) (hf:ys.all flat=true) (hm:0<m) (hb:(n+m)*b<=140737488355328) (hl:n+m<=1099511627776)
  (hx:(x=nilS/\n=0/\xs=[])\/∃o cap,x=gx o n cap/\0<n/\n<=cap/\(d.obj o).length=cap*z/\(d.obj o).take (n*z)=xs)
  (hO:∀o cap cs,((∃c0,x=gx o n c0/\n+m<=c0/\cap=c0)->cs.length=cap*z->cs.take ((n+m)*z)=xs++ys->K (gx o (n+m) cap) (d.put o cs)))
  (hN:∀cap cs,cs.length=cap*z->n+m<=cap->cs.take ((n+m)*z)=xs++ys->K (gx d.nobj (n+m) cap) (d.new cs)):Hg P t t x (sl id2 m ys) d K:=by
 right;refine⟨z,b,zc,id2,m,ys,ht,rfl,rfl,hz,hzc,hy,hf,hm,?_⟩;have ab:∀k,(List.replicate k (zc.map cst1)).flatten.length=k*z:=fun k=>by
  induction k with
  |zero=>simp
  |succ k ih=>rw[List.replicate_succ,List.flatten_cons,Ab6,ih,Adc,hzc,Abw,Nat.add_comm]
 rcases hx with⟨rfl,rfl,rfl⟩|⟨o,cap,rfl,af,ah,aa,ac⟩
 ·refine .inl ⟨rfl,by simpa using hb,by simpa using hl,fun cap hc=>?_⟩;have:=hN cap (ys++(List.replicate (cap-m) (zc.map cst1)).flatten) (by rw[Ab6,hy,ab,<-Ab4];congr 1;omega) Ad6 (by rw[Ab5,<-hy,List.take_left];rfl);rw[Ab5]at this;exact this
 ·have ad:xs.length=n*z:=by rw[<-ac,Ab7,aa];exact Aca (Abk _ ah)
  refine .inr ⟨o,n,cap,rfl,hb,hl,aa,af,fun hc=>?_,fun hc cap' ai=>?_⟩
  ·have ae:n*z+ys.length<=(d.obj o).length:=by rw[hy,aa,<-Ab4];exact Abk _ hc
   refine hO o cap _ ⟨cap,rfl,hc,rfl⟩ (by rw[H0];exact aa) ?_;rw[Gb _ _ _ ae,ac];have:(n+m)*z=(xs++ys).length:=by rw[Ab6,ad,hy,Ab4]
   rw[this,List.take_left]
  ·refine hN cap' _ ?_ ai ?_
   ·rw[ac,Ab6,Ab6,ad,hy,ab,<-Ab4,<-Ab4];congr 1;omega
   ·rw[ac];have:(n+m)*z=(xs++ys).length:=by rw[Ab6,ad,hy,Ab4]
    rw[this,List.take_left]
theorem Ty {P:Program}{N:Nat}{c:Code}{Q:Gk}{s:Sl}{d:St}{o p n cap j k:Nat}{ys:List AV}(ho:o<d.nobj)(hp:p<d.nobj)(aj:o≠p)(hy:d.obj p=ys)(hj:ys[j]?=some (gx o n cap))(hk:k<=(d.obj o).length)
  (h:Jg P N c Q s ((d.put o []).put p (ys.set j (sl 0 n ((d.obj o).take k))))):Jg P N c Q s d:=fun G a w R=>by
 obtain⟨G',I',E,ab,aa⟩:=R.inv.freeze ho;have ad:(d.put o []).obj p=ys:=by simp[St.put,aj.symm,hy]
 have am:(d.put o []).obj p≠[]:=fun e=>by rw[ad]at e;rw[e]at hj;simp at hj
 obtain⟨I2,E2⟩:=I'.retell (o:=p) hp am (ys.set j (sl 0 n ((d.obj o).take k))) (fun arr ha=>by
  rw[ad]at ha;refine⟨by rw[Ady];exact ha.1,fun i v x hv hx=>?_⟩;by_cases ae:i=j
  ·subst ae;have an:=(List.getElem?_eq_some_iff.1 hj).1;rw[List.getElem?_set_self an]at hx;cases hx;obtain⟨e1,e2,e3⟩:=VR.of_gx (ha.2 i v _ hv hj);refine VR.fold ⟨some ⟨G'.blk o,0,none⟩,cap,e1,⟨e2,fun h=>by cases h⟩,fun af=>⟨G'.blk o,0,rfl,fun q y hq=>?_⟩,fun k' ap=>Ad6⟩;have ak:d.obj o≠[]:=fun e=>af (by rw[e];simp);obtain⟨⟨cur,ecur,ac,ao⟩,-⟩:=(R.inv.obj o ho).2.2 ak;rw[List.getElem?_take]at hq;split at hq
   case isFalse=>cases hq
   obtain⟨u,ai,ah⟩:=ao.get hq;refine⟨by rw[aa];exact ab _,u,?_,ah.ext E⟩;rw[aa];simp only[World.cell?,ac,Ab5];simpa using ai
  ·rw[List.getElem?_set_ne (Ne.symm ae)]at hx
   exact ha.2 i v x hv hx)
 have R2:Rel N G' s ((d.put o []).put p (ys.set j (sl 0 n ((d.obj o).take k)))) a w:=⟨R.defers,R.size,fun t=>(R.tmps t).ext (E.trans E2),I2⟩;exact wp_mono (h G' a w R2) fun e a' w' hc=>hc.ext (E.trans E2)
theorem Tw {P:Program}{N:Nat}{c:Code}{Q:Gk}{s:Sl}{d:St}{o n cap k t:Nat}(ho:o<d.nobj)(ht:s t=gx o n cap)(hk:k<=(d.obj o).length)
  (h:Jg P N c Q (upd s t (sl 0 n ((d.obj o).take k))) (d.put o [])):Jg P N c Q s d:=fun G a w R=>by
 obtain⟨G',I',E,aa,ai⟩:=R.inv.freeze ho
 have R2:Rel N G' (upd s t (sl 0 n ((d.obj o).take k))) (d.put o []) a w:=⟨R.defers,R.size,fun q=>by
  unfold upd;by_cases hq:q=t
  ·rw[if_pos hq];subst hq;have hv:=R.tmps q;rw[ht]at hv;obtain⟨e1,e2,e3⟩:=VR.of_gx hv;refine VR.fold ⟨some ⟨G.blk o,0,none⟩,cap,e1,⟨e2,fun h=>by cases h⟩,fun ac=>⟨G.blk o,0,rfl,fun q y hq=>?_⟩,fun k' aj=>Ad6⟩;have af:d.obj o≠[]:=fun e=>ac (by rw[e];simp);obtain⟨⟨cur,ecur,ab,ah⟩,-⟩:=(R.inv.obj o ho).2.2 af;rw[List.getElem?_take]at hq;split at hq
   case isFalse=>cases hq
   obtain⟨u,ae,ad⟩:=ah.get hq;refine⟨aa _,u,?_,ad.ext E⟩;simp only[World.cell?,ab,Ab5];simpa using ae
  ·rw[if_neg hq];exact (R.tmps q).ext E,I'⟩
 exact wp_mono (h G' a w R2) fun e a' w' hc=>hc.ext E
end Go.Abs
