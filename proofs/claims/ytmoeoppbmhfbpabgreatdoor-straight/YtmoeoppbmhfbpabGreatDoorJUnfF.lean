import Derived.Test.YtmoeoppbmhfbpabGreatDoorJUnfD
import Derived.Test.YtmoeoppbmhfbpabGreatDoorJStrC
import Derived.Test.YtmoeoppbmhfbpabGreatDoorJOptH
set_option maxHeartbeats 64000000
set_option maxRecDepth 100000
set_option linter.all false
namespace Go.Proofs.YtmoeoppbmhfbpabGreatDoorJ
open Go.Abs
theorem kV {N:List Tx}{p q:Tx}(hp:p∈N)(hq:q∈N):(((N.idxOf p:Nat):Int) !=((N.idxOf q:Nat):Int))=!decide (p=q):=by
 by_cases h:p=q
 ·subst h;simp
 ·have:N.idxOf p≠N.idxOf q:=fun e=>h (by
   have h1:=Ac3 (Ac4 hp);have h2:=Ac3 (Ac4 hq)
   rw[<-h1,<-h2];congr 1)
  simp[h];omega
theorem lX {N:List Tx}{l:List RItem}{x:RItem}{k:Nat}{q:Tx}{i:Nat}{y:RItem}(h:l[i]?=some y):J5 N (l.take (i+1)) x k q=J5 N (l.take i) x k q++(if Ks q y=true then (eR N x k y).toList else []):=by
 unfold J5;rw[Abv,h,Ac5,Adp,List.filterMap_append];congr 1;by_cases hq:Ks q y=true
 ·rw[if_pos hq,Adh,if_pos hq];cases e:eR N x k y<;>simp[e]
 ·rw[if_neg hq,Adh,if_neg hq];rfl
theorem P3 (N:List Tx)(ar:Tx->Nat)(l:List RItem)(cs:List AV)(idn idi:Nat)(hR:RtL N ar l)(hE:EL (PI N) l cs)(x:RItem)(c:List AV)(k:Nat)(a:Ai)(hx:x∈l)(bm:x.out=false)(hc:PI N x c)(ha:x.body[k]?=some a)(u:St):
  ACalls Tryz.prog 179 [Bs N idn l idi cs,ag c,sc (.int .i64 k)] u fun r u'=>(∃id c',r=sl id (J5 N l x k a.pred).length c'/\EL (O9 false) (J5 N l x k a.pred) c')/\Keep u u':=by
 have cx:=hR.gl.len;have d1:=EL.length Df hE;have b6:=Abm ha;have hW:=fun y hy ho=>iO (hR.ru y hy ho) (hR.gl.msr y hy) ho (hR.wit y hy);have bq:=hW x hx bm;have du:=hR.b5 x hx;have c9:=((hR.ru x hx bm).body a b6).mem;have be:=((hR.ru x hx bm).body a b6).len;have b4:=tC hc;rw[bm]at b4;have b0:(A6 N x).body[k]?=some (Hd N a):=by simp[A6,ha]
 have cg:=bq.bd _ (Abm b0);have b9:=b4;obtain⟨ih,ib,bc,rfl,hb⟩:=b4;obtain⟨ia,ra,c6⟩:=Io hb b0;have c8:=EL.length Hh hb;have cn:(A6 N x).body.length=x.body.length:=by simp[A6]
 have dy:k<x.body.length:=(List.getElem?_eq_some_iff.1 ha).1;have HU:Aec (∀y,eR N x k y=(Em pidn (Hd N a).a.ts (Gw aprt (A6 N y)).head.ts).map fun P=>D5 (Gw P ⟨(A6 N x).head,Du k (Gw aprt (A6 N y)).body (A6 N x).body⟩)):=fun y=>by
  unfold eR;rw[ha];rfl
 have az:(Hd N a).a.p=((N.idxOf a.pred:Nat):Int):=rfl;have cf:(Hd N a).a.ts.length=ar a.pred:=by simp[Hd,Cm,be]
 generalize A6 N x=X at bq b9 b0 hb c8 cn HU;generalize (Hd N a).a=A at c6 cg HU az cf;have db:X.body.length<=5:=Ad6;have dz:k<X.body.length:=Ad6;have dn:Aec _:=az;have dp:Aec _:=cf;have di:Aec (O9 false X [sc (.bool false),ic X.head.p,sl ih X.head.ts.length (Ac X.head.ts),sl ib X.body.length bc]):=b9;have HR:Aec (RtL N ar l):=hR;have HW:Aec (∀y∈l,y.out=false->RuW N ar (A6 N y)):=hW;have dh:Aec (RuW N ar X):=bq;have ch:Aec (AtW N ar A):=cg;clear b9 hR hW bq cg ha b6 b0 hc cn az cf be;refine Z9 65 [.tmp 6] Tryz.func179 ?_
 repeat' (first|refine Z1 ?_|(refine Z8 ?_;intro κ hκ)|(refine Z4 ?_;clear hκ κ)|(refine Z2 ?_ ?_<;>intro h af<;>try exact Xp)|(refine Z6 ?_;intro idn un a6 bg ae ac aj ab)|refine Z3 ?_|exact⟨⟩|(apply hκ.out;clear hκ κ))
 refine Ad (fun m s u'=>∃(i id:Nat) (R:List Dq) (c:List AV),m=l.length-i/\i<=l.length/\s 2=ic k/\s 4=ptr (u.nobj+1) 0/\s 7=sl id R.length c/\s 8=ptr (u.nobj+2) 0/\s 24=sl idi l.length cs/\s 25=ic l.length/\s 26=ic i/\Keep u u'/\u.nobj+2<u'.nobj/\u'.obj (u.nobj+1)=[sc (.bool false),ic X.head.p,sl ih X.head.ts.length (Ac X.head.ts),sl ib X.body.length bc]/\u'.obj (u.nobj+2)=[ic A.p,sl ia A.ts.length (Ac A.ts)]/\Own u u' id R.length/\c.length=R.length*4/\R.length<=i/\Aec (R=J5 N (l.take i) x k a.pred/\EL (O9 false) R c)) l.length
  ⟨0,1,[],[],Ad6,Ad6,by simp[upd,initS],Ad8,Ad8,Ad8,Ad8,Ad8,rfl,?_,?_,?_,?_,Own.nil _ _,by simp,by simp,⟨by simp[J5],rfl⟩⟩ ?_
 ·exact ((((Keep.refl u).new _).new _).new _).put Ad6 _
 ·simp only[Ab,Aa];omega
 ·rw[Aj Ad6,Ae Aea,Bu (by rw[Aa];omega) (by rw[Aa];omega)]
 ·rw[show u.nobj+2=u.nobj+1+1 by omega,Ak]
 rintro m s u' ⟨i,id,R,c,rfl,hi,h2,h4,h7,h8,d6,d5,d4,hK,dv,dr,dq,hO,c7,d2,hA⟩;have dt:=hK.nobj;by_cases cj:i<l.length
 ·have ad:=List.getElem?_eq_getElem cj;have ba:=Ac2 cj;have ci:=((HR.out).gl.msr l[i] ba).mem;have a5:=fun (ho:l[i].out=false)=>HW.out l[i] ba ho;have ct:=HR.out.b5 l[i] ba;have aa:=fun (ho:l[i].out=false)=>(HR.out.ru l[i] ba ho).head.len;obtain⟨cy,ry,a3,hd⟩:=EL.get Df hE ad;have a3:=tC a3;have HS:=lX (N:=N) (x:=x) (k:=k) (q:=a.pred) ad;have aw:=kV ci c9;have bo:(A6 N l[i]).head.p=((N.idxOf l[i].head.pred:Nat):Int):=rfl;have b7:(A6 N l[i]).body.length=l[i].body.length:=by simp[A6]
  have bp:(A6 N l[i]).head.ts.length=l[i].head.terms.length:=by simp[A6,Cm]
  have ak:=HU.out l[i];generalize l[i]=y at ad ba ci a5 ct aa a3 hd HS aw bo b7 bp ak;generalize A6 N y=Y at a5 a3 bo b7 bp ak;have da:Y.body.length<=5:=Ad6;have df:Aec _:=bp;clear b7 bp;have bf:=a3;obtain⟨jh,jb,jc,rfl,cz⟩:=a3;simp only[Ack,Acm]at hd;rw[<-bo,<-dn.out]at aw;clear bo;cases a0:y.out with
  |true=>
   have HN:Aec (R=J5 N (l.take (i+1)) x k a.pred/\EL (O9 false) R c):=by
    rw[HS];simp[Ks,a0];exact hA.out
   rw[a0]at hd;clear HS hA ad bf a5 aa aw ak
   repeat' (first|refine Z1 ?_|(refine Z8 ?_;intro κ hκ)|(refine Z4 ?_;clear hκ κ)|(refine Z2 ?_ ?_<;>intro h af<;>try exact Xp)|(refine Z6 ?_;intro idn un a6 bg ae ac aj ab)|refine Z3 ?_|exact⟨⟩|(apply hκ.out;clear hκ κ))
   refine⟨l.length-(i+1),Ad6,i+1,id,R,c,?_⟩
   ((repeat' with_reducible refine And.intro ?_ ?_)<;>first|exact Xq|exact (HN)|exact Xs)
  |false=>
   rw[a0]at hd bf;by_cases bb:y.head.pred=a.pred
   ·have cw:(Y.head.p !=A.p)=false:=by rw[aw];simp[bb]
    have b8:=a5 a0;have a4:=b8.pin sQ;have az:=fun u=>apart_spec Y b8.r52 false _ bf u;have bn:A.ts.length=(Gw aprt Y).head.ts.length:=by
     rw[dp.out,<-bb,<-aa a0,<-df.out];simp[Gw,Ya]
    have ax:=fun jh u=>nC A (Gw aprt Y).head ia jh bn (by have:=ch.out.le3;omega) (fun t ht=>(ch.out.w t ht).1) (fun t ht=>(a4.hd.w t ht).1) u;have cm:(Gw aprt Y).body.length<=5:=by simp[Gw];omega
    have br:∀P,Em pidn A.ts (Gw aprt Y).head.ts=some P->PtW P:=fun P e=>gD qO ch.out.w a4.hd.w e;have bl:=dh.out.join a4 k db cm;generalize Gw aprt Y=Z at a4 az bn ax cm br bl ak;have cd:=fun jb jc (h:EL Pz Z.body jc) u=>gL X false _ k Z.body jb jc di.out Ad6 h Ad6 u;have d0:=Fg;have hz:=K6;have dx:=Qq;have d7:Aec _:=bn;clear bf a5 aa aw b8 bn cz;cases hm:Em pidn A.ts Z.head.ts with
    |none=>
     rw[hm]at ak ax;have HN:Aec (R=J5 N (l.take (i+1)) x k a.pred/\EL (O9 false) R c):=by
      rw[HS,ak];simp;exact hA.out
     have cu:=Gm (P:=pt0) (by simp[pt0]);have cv:=Ly (P:=pt0) (Q:=pt0) (by simp[pt0]) (by simp[pt0]);unfold yT at ax;clear HS ak hA ad hm br cd bl a4
     repeat' (first|refine Z1 ?_|(refine Z8 ?_;intro κ hκ)|(refine Z4 ?_;clear hκ κ)|(refine Z2 ?_ ?_<;>intro h af<;>try exact Xp)|(refine Z6 ?_;intro idn un a6 bg ae ac aj ab)|(refine Z5 ?_;first|(refine Xi (az _) ?_;rintro _ _ ⟨⟨_,rfl,ay⟩,ap⟩;(have ai:=((hK.new _).put hK.nobj _).trans ap;have cb:=Own.keep (Own.put (Own.new hO _) _ _) ap;have av:=ap.nobj;have an:=ap.obj;(try simp only[Aa,Ab]at av an);obtain⟨zh,zb,zc,rfl,ay⟩:=ay;clear ay))|(refine Xi (ax _ _) ?_;rintro _ _ ⟨rfl,ao⟩;(have ah:=((ai.new _).put ai.nobj _).trans ao;have ca:=Own.keep (Own.put (Own.new cb _) _ _) ao;have au:=ao.nobj;have am:=ao.obj;(try simp only[Aa,Ab]at au am))))|refine Z3 ?_|exact⟨⟩|(apply hκ.out;clear hκ κ))
     refine⟨l.length-(i+1),Ad6,i+1,id,R,c,?_⟩
     ((repeat' with_reducible refine And.intro ?_ ?_)<;>first|exact Xq|exact (HN)|exact (Own.put (Own.new ca _) _ _)|exact ((ah.new _).put ah.nobj _)|exact Xs)
    |some P=>
     rw[hm]at ak ax;have hP:=br P hm;have co:=bl.pin hP;have ce:=fun c (h:O9 false ⟨X.head,Du k Z.body X.body⟩ c) u=>V5 P hP.len _ bl.r52 false c h u;have bu:=fun c (h:O9 false (Gw P ⟨X.head,Du k Z.body X.body⟩) c) u=>mY _ c h co.r52 u;have HN:Aec (∀d,O9 false (D5 (Gw P ⟨X.head,Du k Z.body X.body⟩)) d->R++[D5 (Gw P ⟨X.head,Du k Z.body X.body⟩)]=J5 N (l.take (i+1)) x k a.pred/\EL (O9 false) (R++[D5 (Gw P ⟨X.head,Du k Z.body X.body⟩)]) (c++d)):=fun d hd=>by
      refine⟨?_,EL.append hA.out.2 (EL.single hd)⟩;rw[HS,ak];simp[Ks,a0,bb];exact hA.out.1
     have cu:=Gm hP.len;have cv:=Ly (P:=pt0) (by simp[pt0]) hP.len;have dw:=Ft hP.len;unfold yT at ax;clear HS ak hA ad hm br co bl a4 hP;generalize (⟨X.head,Du k Z.body X.body⟩:Dq)=J at cd ce bu HN;generalize Gw P J=K at ce bu HN;generalize D5 K=O at bu HN
     repeat' (first|refine Z1 ?_|(refine Z8 ?_;intro κ hκ)|(refine Z4 ?_;clear hκ κ)|(refine Z2 ?_ ?_<;>intro h af<;>try exact Xp)|(refine Z6 ?_;intro idn un a6 bg ae ac aj ab)|(refine Z5 ?_;first|(refine Xi (az _) ?_;rintro _ _ ⟨⟨_,rfl,ay⟩,ap⟩;(have ai:=((hK.new _).put hK.nobj _).trans ap;have cb:=Own.keep (Own.put (Own.new hO _) _ _) ap;have av:=ap.nobj;have an:=ap.obj;(try simp only[Aa,Ab]at av an);obtain⟨zh,zb,zc,rfl,ay⟩:=ay))|(refine Xi (ax _ _) ?_;rintro _ _ ⟨rfl,ao⟩;(have ah:=((ai.new _).put ai.nobj _).trans ao;have ca:=Own.keep (Own.put (Own.new cb _) _ _) ao;have au:=ao.nobj;have am:=ao.obj;(try simp only[Aa,Ab]at au am)))|(refine Xi (cd _ _ ay _) ?_;rintro _ _ ⟨⟨_,rfl,cr⟩,bz⟩;(have bi:=((ah.new _).put ah.nobj _).trans bz;have dd:=Own.keep (Own.put (Own.new ca _) _ _) bz;have b3:=bz.nobj;have a9:=bz.obj;(try simp only[Aa,Ab]at b3 a9);have dm:Aec _:=cr;obtain⟨jh3,jb3,jc3,rfl,-⟩:=cr))|(refine Xi (ce _ dm.out _) ?_;rintro _ _ ⟨⟨_,rfl,cq⟩,bw⟩;(have bh:=((bi.new _).put bi.nobj _).trans bw;have dc:=Own.keep (Own.put (Own.new dd _) _ _) bw;have b2:=bw.nobj;have a8:=bw.obj;(try simp only[Aa,Ab]at b2 a8);have dl:Aec _:=cq;obtain⟨jh4,jb4,jc4,rfl,-⟩:=cq))|(refine Xi (bu _ dl.out _) ?_;rintro _ _ ⟨⟨_,rfl,cp⟩,bv⟩;(have de:=((bh.new _).put bh.nobj _).trans bv;have d3:=Own.keep (Own.put (Own.new dc _) _ _) bv;have b1:=bv.nobj;have a7:=bv.obj;(try simp only[Aa,Ab]at b1 a7);have dk:Aec _:=HN.out _ cp;obtain⟨jh5,jb5,jc5,rfl,-⟩:=cp)))|refine Z3 ?_|exact⟨⟩|(apply hκ.out;clear hκ κ))
     have dj:Aec _:=dk.out;refine⟨l.length-(i+1),Ad6,i+1,idn,R++[O],c++[sc (.bool false),ic O.head.p,sl jh5 O.head.ts.length (Ac O.head.ts),sl jb5 O.body.length jc5],?_⟩
     ((repeat' with_reducible refine And.intro ?_ ?_)<;>first|exact Xq|exact (by simpa using a6)|exact (dj)|exact ((by simp[c7];omega))|exact (by rw[ae,a7 _ Ad6,Aj Ad6,Ae Ad6,a8 _ Ad6,Aj Ad6,Ae Ad6,a9 _ Ad6,Aj Ad6,Ae Ad6,am _ Ad6,Aj Ad6,Ae Ad6,an _ Ad6,Aj Ad6,Ae Ad6];assumption)|exact Xs)
   ·have cw:(Y.head.p !=A.p)=true:=by rw[aw];simp[bb]
    have HN:Aec (R=J5 N (l.take (i+1)) x k a.pred/\EL (O9 false) R c):=by
     rw[HS];simp[Ks,bb];exact hA.out
    clear HS hA ad bf a5 aa aw ak
    repeat' (first|refine Z1 ?_|(refine Z8 ?_;intro κ hκ)|(refine Z4 ?_;clear hκ κ)|(refine Z2 ?_ ?_<;>intro h af<;>try exact Xp)|(refine Z6 ?_;intro idn un a6 bg ae ac aj ab)|refine Z3 ?_|exact⟨⟩|(apply hκ.out;clear hκ κ))
    refine⟨l.length-(i+1),Ad6,i+1,id,R,c,?_⟩
    ((repeat' with_reducible refine And.intro ?_ ?_)<;>first|exact Xq|exact (HN)|exact Xs)
 ·have c5:i=l.length:=Ad6;subst c5;obtain⟨e1,e2⟩:=hA.out;rw[Abt]at e1;have HF:Aec (∀r,r=sl id R.length c->∃id c',r=sl id (J5 N l x k a.pred).length c'/\EL (O9 false) (J5 N l x k a.pred) c'):=fun r hr=>by
   rw[<-e1];exact⟨id,c,hr,e2⟩
  clear hA e1 e2
  repeat' (first|refine Z1 ?_|(refine Z8 ?_;intro κ hκ)|(refine Z4 ?_;clear hκ κ)|(refine Z2 ?_ ?_<;>intro h af<;>try exact Xp)|(refine Z6 ?_;intro idn un a6 bg ae ac aj ab)|refine Z3 ?_|exact⟨⟩|(apply hκ.out;clear hκ κ))
  first|exact⟨_,rfl,HF.out _ rfl,hK⟩|exact⟨_,rfl,HF.out _ rfl⟩
theorem xV {α β:Type}{E:α->List AV->Prop}{E':β->List AV->Prop}{f:α->β}:∀{l:List α} {cs:List AV},EL E l cs->(∀a∈l,∀c,E a c->E' (f a) c)->EL E' (l.map f) cs
 |[],_,h,_=>h
 |a::l,_,⟨c,d,h1,h2,e⟩,g=>⟨c,d,g a (by simp) c h1,xV h2 (fun b hb=>g b (by simp[hb])),e⟩
def uL (N:List Tx)(l:List RItem)(x:RItem)(k:Nat)(q:Tx):List RItem:=(J5 N l x k q).map (C3 N)
theorem pI {N:List Tx}{ar:Tx->Nat}{l:List RItem}(hR:RtL N ar l){x:RItem}(hx:x∈l)(ad:x.out=false){k:Nat}{a:Ai}(ha:x.body[k]?=some a){r:Dq}(h:r∈J5 N l x k a.pred):∃s,RuW N ar s/\r=D5 s:=by
 have hW:=fun y hy ho=>iO (hR.ru y hy ho) (hR.gl.msr y hy) ho (hR.wit y hy);obtain⟨y,hy,e⟩:=List.mem_filterMap.1 h;obtain⟨ab,aa⟩:=Adj.1 hy;simp only[Ks,Abo,Adw,Ad3]at aa;unfold eR at e;rw[ha]at e;obtain⟨P,hP,rfl⟩:=Option.map_eq_some_iff.1 e;have hX:=hW x hx ad;have hZ:=(hW y ab aa.1).pin sQ;have ae:(A6 N x).body.length<=5:=by simp[A6];exact hR.b5 x hx
 have ac:(Gw aprt (A6 N y)).body.length<=5:=by simp[Gw,A6];exact hR.b5 y ab
 have hA:=hX.bd (Hd N a) (by simp only[A6,Acs];exact⟨a,Abm ha,rfl⟩);exact⟨_,(hX.join hZ k ae ac).pin (gD qO hA.w hZ.hd.w hP),rfl⟩
theorem yA {N:List Tx}{ar:Tx->Nat}{l:List RItem}(hR:RtL N ar l){x:RItem}(hx:x∈l)(ab:x.out=false){k:Nat}{a:Ai}(ha:x.body[k]?=some a){y:RItem}(h:y∈uL N l x k a.pred)(h5:y.body.length<=5):∃r,y=C3 N r/\RuO N ar r/\r.body.length<=5:=by
 obtain⟨r,hr,rfl⟩:=Acs.1 h;obtain⟨s,hs,rfl⟩:=pI hR hx ab ha hr;have aa:s.body.length<=5:=by simpa[C3,D5]using h5
 exact⟨_,rfl,hs.ord aa,by simpa[D5]using aa⟩
theorem zX {N:List Tx}{ar:Tx->Nat}{l:List RItem}(hR:RtL N ar l){x:RItem}(hx:x∈l)(aa:x.out=false){k:Nat}{a:Ai}(ha:x.body[k]?=some a){c:List AV}(h:EL (O9 false) (J5 N l x k a.pred) c):EL (PJ N) (uL N l x k a.pred) c:=by
 refine xV h fun r hr c hc=>?_;obtain⟨s,hs,rfl⟩:=pI hR hx aa ha hr;have hl:(C3 N (D5 s)).body.length=s.body.length:=by simp[C3,D5]
 have hb:=hs.bl;by_cases h5:s.body.length<=5
 ·have hO:=hs.ord h5;exact .inl ⟨hO.pi hc,hO.msr (by simp[D5];omega)⟩
 ·obtain⟨ih,ib,bc,rfl,-⟩:=hc;exact .inr ⟨by rw[hl];omega,by rw[hl];omega,false,(D5 s).head.p,ih,(D5 s).head.ts.length,Ac (D5 s).head.ts,ib,bc,by rw[hl];simp[D5]⟩
theorem S1 {l:List RItem}(h:Jo l=true):l.length<=16/\∀x∈l,x.body.length<=5:=by
 unfold Jo at h;simp only[Abo,Ad3,Abl]at h;exact⟨h.1,h.2.1⟩
theorem PJ.pi {N:List Tx}{x:RItem}{c:List AV}(h:PJ N x c)(h5:x.body.length<=5):PI N x c/\xS N x:=h.resolve_right fun h=>by have:=h.1;omega
theorem RuO.fits {N:List Tx}{ar:Tx->Nat}{r:Dq}(h:RuO N ar r)(h5:r.body.length<=5):(C3 N r).fits:=by
 refine⟨by simp[C3];omega,by have:=h.hd.le3;simp[C3,Mb];omega,fun a ha=>?_⟩;obtain⟨l,hl,rfl⟩:=Acs.1 ha;have:=(h.bd l hl).le3;simp[Mb];omega
def GdI (N:List Tx)(ar:Tx->Nat)(o:List RItem):Prop:=∀y∈o,y.body.length<=5->∃r,y=C3 N r/\RuO N ar r/\r.body.length<=5
theorem wW {N:List Tx}{ar:Tx->Nat}{l:List RItem}(hR:RtL N ar l){x:RItem}(hx:x∈l)(aa:x.out=false){k:Nat}{a:Ai}(ha:x.body[k]?=some a):GdI N ar (uL N l x k a.pred):=fun y hy h5=>yA hR hx aa ha hy h5
theorem yB (N:List Tx)(l:List RItem)(x:RItem)(k:Nat)(q:Tx):(uL N l x k q).length<=l.length:=by
 unfold uL J5;rw[Adc];exact Abg (List.length_filterMap_le _ _) (Adi _ _)
theorem xC {N:List Tx}{ar:Tx->Nat}{l o:List RItem}(hR:RtL N ar l)(hU:GdI N ar o)(i:Nat)(aa:Jo (Du i o l)=true):GL N (Du i o l):=by
 obtain⟨ab,h5⟩:=S1 aa;have hm:∀y∈Du i o l,y∈l\/∃r,y=C3 N r/\RuO N ar r/\r.body.length<=5:=fun y hy=>by
  rcases X6 hy with h|h
  ·exact .inl h
  ·exact .inr (hU y h (h5 y hy))
 refine⟨ab,hR.gl.nm,fun y hy=>?_,fun y hy=>?_,fun y hy=>?_,fun y hy=>?_,fun y hy=>?_⟩
 ·rcases hm y hy with h|⟨r,rfl,hr,hb⟩
  ·exact hR.gl.msr y h
  ·exact hr.msr Ad6
 ·rcases hm y hy with h|⟨r,rfl,hr,hb⟩
  ·exact hR.gl.fits y h
  ·exact hr.fits hb
 ·rcases hm y hy with h|⟨r,rfl,hr,hb⟩
  ·exact hR.gl.pos y h
  ·intro a ha;obtain⟨m,b,rfl,hm⟩:=hr.atoms ha;simpa[Mb]using hm.pos
 ·rcases hm y hy with h|⟨r,rfl,hr,hb⟩
  ·exact hR.gl.va y h
  ·intro a ha w hw;obtain⟨m,b,rfl,hm⟩:=hr.atoms ha;exact pG ((hm.at b).2.2.2.2 w hw)
 ·rcases hm y hy with h|⟨r,rfl,hr,hb⟩
  ·exact hR.gl.ar y h
  ·intro a ha b hb e;obtain⟨m,c,rfl,hm⟩:=hr.atoms (Bv (.inr ha));obtain⟨n,d,rfl,hn⟩:=hr.atoms (Bv (.inr hb));rw[(hm.at c).2.2.1,(hn.at d).2.2.1,e]
theorem xD {N:List Tx}{ar:Tx->Nat}{l o:List RItem}(hR:RtL N ar l)(hU:GdI N ar o)(ho:o.length<=16)(i:Nat){c:List AV}(h:EL (PJ N) (Du i o l) c):BkJ N (Du i o l) c:=by
 have hl:=hR.gl.len;refine⟨h,?_,fun aa=>(xC hR hU i aa).bkm (Mf h fun y hy c hc=>(hc.pi ((S1 aa).2 y hy)).1)⟩;have h1:=Mx (n:=i) (o:=o) l l.length;rw[Abt]at h1;have h3:l.length*(o.length+1)<=16*17:=Adv hl Ad6;omega
theorem eL {l:List RItem}(h:(Ct l).1=0){x:RItem}(hx:x∈l):Iz x=true:=by
 unfold Ct at h;split at h
 ·cases h
 ·split at h
  ·cases h
  ·rename_i h2;obtain⟨i,hi,e⟩:=List.getElem_of_mem hx;have:=gR h2 i hi;unfold Ds at this;rw[List.getElem?_eq_getElem hi,e]at this;simpa using this
theorem RuO.wit {N:List Tx}{ar:Tx->Nat}{r:Dq}(h:RuO N ar r)(h5:r.body.length<=5):Dh (C3 N r):=by
 have key:∀m b,AtO N ar m->Ea (Mb N b m):=fun m b hm=>⟨(hm.at b).2.1.1,by
  have:=hm.pos;intro e;have:=congrArg List.length e;simp[Mb]at this
  simp[this]at*,by simpa[Mb]using hm.le3,fun t ht=>((hm.at b).2.2.2.2 t ht).2.1⟩
 refine⟨(h.hd.at false).2.1.1,(fun e=>by cases e),fun _=>⟨key _ _ h.hd,rfl,by simpa[C3]using h5,fun a ha=>?_⟩⟩;obtain⟨l,hl,rfl⟩:=Acs.1 ha;exact key _ _ (h.bd l hl)
theorem RuO.wi {N:List Tx}{ar:Tx->Nat}{r:Dq}(h:RuO N ar r)(h5:r.body.length<=5):WI N (C3 N r):=by
 have hw:=h.wit h5;have ac:∀m b,AtO N ar m->short (Mb N b m):=fun m b hm=>⟨(hm.at b).2.1.2,by have:=hm.le3;simp[Mb];omega,fun t ht=>((hm.at b).2.2.2.2 t ht).2.2.1⟩;have ab:∀m b,AtO N ar m->VA (Mb N b m):=fun m b hm t ht=>pG ((hm.at b).2.2.2.2 t ht);have ad:∀a∈Af (C3 N r),WA N (Dw (C3 N r)) a:=fun a ha=>by
  obtain⟨m,b,rfl,hm⟩:=h.atoms ha;exact⟨(hm.at b).1,by simpa[Mb]using hm.pos,(ac m b hm).2.1,(hm.at b).2.1.2,fun w aa=>⟨((hm.at b).2.2.2.2 w aa).1,((hm.at b).2.2.2.2 w aa).2.2.1,fun hv=>Oo hw ha aa hv⟩⟩
 refine⟨h.fits h5,⟨ac _ _ h.hd,fun a ha=>?_⟩,fun a ha=>?_,ab _ _ h.hd,fun a ha=>?_,(h.hd.at false).1,by simpa[C3]using h5,(fun e=>by cases e),fun _=>⟨rfl,ad _ (Bv (.inl ⟨rfl,rfl⟩))⟩,fun a ha=>ad a (Bv (.inr ha))⟩
 ·obtain⟨l,hl,rfl⟩:=Acs.1 ha;exact ac _ _ (h.bd l hl)
 ·obtain⟨m,b,rfl,hm⟩:=h.atoms ha;exact ab _ _ hm
 ·obtain⟨l,hl,rfl⟩:=Acs.1 ha;exact ab _ _ (h.bd l hl)
theorem RuO.ru {N:List Tx}{ar:Tx->Nat}{r:Dq}(h:RuO N ar r)(hs:Iz (C3 N r)=true):RuI N ar (C3 N r):=by
 have ab:∀m b,AtO N ar m->AtI N ar (Mb N b m):=fun m b hm=>⟨(hm.at b).1,(hm.at b).2.2.1,by simpa[Mb]using hm.le3⟩;have aa:∀m b,AtO N ar m->∀t∈(Mb N b m).terms,VT t/\DT t:=fun m b hm t ht=>⟨pG ((hm.at b).2.2.2.2 t ht),((hm.at b).2.2.2.2 t ht).1⟩;have ac:∀a∈Af (C3 N r),VA a:=fun a ha t ht=>by
  obtain⟨m,b,rfl,hm⟩:=h.atoms ha;exact (aa m b hm t ht).1
 refine⟨ab _ _ h.hd,rfl,fun a ha=>?_,aa _ _ h.hd,fun a ha=>?_,fun v hm hv=>?_⟩
 ·obtain⟨l,hl,rfl⟩:=Acs.1 ha;exact ab _ _ (h.bd l hl)
 ·obtain⟨l,hl,rfl⟩:=Acs.1 ha;exact aa _ _ (h.bd l hl)
 ·obtain⟨b,hb,-,ad⟩:=fE (by rw[kG ac];exact hs) (fun a ha=>by
   obtain⟨m,b,rfl,hm⟩:=h.atoms ha
   exact (hm.at b).2.2.2.2) (a:=(C3 N r).head) (Bv (.inl ⟨rfl,rfl⟩)) hm hv
  exact⟨b,hb,ad⟩
theorem xB {N:List Tx}{ar:Tx->Nat}{l o:List RItem}(hR:RtL N ar l)(hU:GdI N ar o)(i:Nat)(hb:Dp N l (Du i o l)=true):RtL N ar (Du i o l):=by
 unfold Dp at hb;simp only[Abo,Ad4]at hb;obtain⟨aa,-,hw⟩:=hb;have h5:=(S1 aa).2;have hm:∀y∈Du i o l,y∈l\/∃r,y=C3 N r/\RuO N ar r/\r.body.length<=5:=fun y hy=>by
  rcases X6 hy with h|h
  ·exact .inl h
  ·exact .inr (hU y h (h5 y hy))
 refine⟨xC hR hU i aa,h5,fun y hy ho=>?_,fun y hy=>?_,fun y hy=>?_⟩
 ·rcases hm y hy with h|⟨r,rfl,hr,hb⟩
  ·exact hR.ru y h ho
  ·exact hr.ru (eL hw hy)
 ·rcases hm y hy with h|⟨r,rfl,hr,hb⟩
  ·exact hR.wi y h
  ·exact hr.wi hb
 ·rcases hm y hy with h|⟨r,rfl,hr,hb⟩
  ·exact hR.wit y h
  ·exact hr.wit hb
def Wg (N:List Tx)(U:Nat->Nat->Bool)(l:List RItem)(i k:Nat):Bool:=match l[i]? with
 |some x=>(match x.body[k]? with
  |some a=>!a.nt&&(!U (N.idxOf a.pred) (N.idxOf a.pred)&&(Cb N l (N.idxOf a.pred)&&Dp N l (Du i (uL N l x k a.pred) l)))
  |none=>false)
 |none=>false
def mZ (N:List Tx)(U:Nat->Nat->Bool)(l:List RItem)(n:Nat):Prop:=∀i y,i<n->l[i]?=some y->∀k,k<y.body.length->Wg N U l i k=false
def chU (N:List Tx)(l:List RItem)(idn:Nat)(x:AV)(b:Bool):Prop:=∃M,Dm N l M/\
 ((b=false/\mZ N (E5 N.length M N.length) l l.length)\/(b=true/\∃i k y a,l[i]?=some y/\y.out=false/\y.body[k]?=some a/\Wg N (E5 N.length M N.length) l i k=true/\mZ N (E5 N.length M N.length) l i/\(∀k',k'<k->Wg N (E5 N.length M N.length) l i k'=false)/\∃id c',x=Bs N idn (Du i (uL N l y k a.pred) l) id c'/\EL (PI N) (Du i (uL N l y k a.pred) l) c'))
theorem tA {N:List Tx}(x:RItem)(c:List AV)(h:PJ N x c):Itm c:=by
 rcases h with⟨h,-⟩|⟨-,-,o,p,ih,n1,tc,ib,b,rfl⟩
 ·exact tD h
 ·exact⟨_,_,_,_,_,_,_,_,rfl⟩
theorem Mm (N:List Tx)(ar:Tx->Nat)(l:List RItem)(cs:List AV)(idn idi:Nat)(hR:RtL N ar l)(hE:EL (PI N) l cs)(u:St):
  ACalls Tryz.prog 127 [Bs N idn l idi cs] u fun r u'=>(∃x b,r=tp [x,sc (.bool b)]/\chU N l idn x b/\sU x)/\Keep u u':=by
 have hG:=hR.gl;have cy:=EL.length Df hE;have bb:=hG.len;have hN:=hG.nm;have b5:=fun u=>Lx N l cs idn idi ((hG.bkm hE).bk bb) u;have cn:Aec (EL (PJ N) l cs):=Mf hE fun x hx c hc=>.inl ⟨hc,hG.msr x hx⟩;have HB:Aec (BkM N l cs):=hG.bkm hE;have HR:Aec (RtL N ar l):=hR;clear hG hR;refine Z9 71 [.cell 2 62,.tmp 3] Tryz.func127 ?_
 repeat' (first|refine Z1 ?_|(refine Z8 ?_;intro κ hκ)|(refine Z4 ?_;clear hκ κ)|(refine Z2 ?_ ?_<;>intro h aa<;>try exact Xp)|(refine Z5 ?_;refine Xi (b5 _) ?_;rintro _ _ ⟨idu,B,M0,rfl,bf,cj,c7,br,b9⟩;(have bn:=bf.nobj;have ai:=bf.obj;(try simp only[Aa,Ab]at bn ai cj)))|refine Z3 ?_|exact⟨⟩|(apply hκ.out;clear hκ κ))
 rename_i u1;have obk:u1.obj u.nobj=[sl idn N.length (N.map str),sl idi l.length cs]:=by rw[ai _ Ad6,Ae Aea,Ao]
 have obr:u1.obj (u.nobj+1)=[nilS,nilS]:=by rw[ai _ Ad6];first|exact Ao|simp[Ao]
 have ce:Aec (Dm N l M0):=b9;generalize b7:E5 N.length M0 N.length=U at br;have HU:Aec _:=b7;have b8:Keep u u1:=(((Keep.refl u).new _).new _).trans bf;clear b9 b7 bf ai b5
 refine Ad (fun m s u'=>∃(i:Nat),m=l.length-i/\i<=l.length/\s 1=ptr u.nobj 0/\s 2=ptr (u.nobj+1) 0/\s 4=sl idu N.length (Ek B N.length N.length)/\s 17=sl idi l.length cs/\s 18=sc (.int .i64 l.length)/\s 19=sc (.int .i64 i)/\Keep u u'/\u1.nobj<=u'.nobj/\u'.obj u.nobj=[sl idn N.length (N.map str),sl idi l.length cs]/\u'.obj (u.nobj+1)=[nilS,nilS]/\Aec (Mat B N.length U u')/\Aec (mZ N U l i)) l.length
  ⟨0,Ad6,Ad6,Ad8,Ad8,Ad8,Ad8,Ad8,rfl,b8,Ad6,obk,obr,br,fun i y h=>Ad6⟩ ?_
 clear b8 obk obr br;rintro m s u' ⟨i,rfl,hi,h1,h2,h4,cd,cb,ca,hK,cv,bi,bh,hM,hA⟩;have cq:=hK.nobj;by_cases b1:i<l.length
 ·have am:=List.getElem?_eq_getElem b1;have a5:=Ac2 b1;have b3:=HR.out.gl.fits l[i] a5;have bz:=HR.out.gl.msr l[i] a5;obtain⟨b0,ih,idb,b,r,be,hd⟩:=Fi hE am;generalize l[i]=x at hd am b0 be a5 b3 bz;have c5:=b3.1;have cz:=EL.length Eb be;have HG:Aec (l[i]?=some x):=am;clear am
  repeat' (first|refine Z1 ?_|(refine Z8 ?_;intro κ hκ)|(refine Z4 ?_;clear hκ κ)|(refine Z2 ?_ ?_<;>intro h aa<;>try exact Xp)|refine Z3 ?_|exact⟨⟩|(apply hκ.out;clear hκ κ))
  refine Ad (fun m s u2=>∃(k:Nat),m=x.body.length-k/\k<=x.body.length/\s 1=ptr u.nobj 0/\s 2=ptr (u.nobj+1) 0/\s 4=sl idu N.length (Ek B N.length N.length)/\s 5=sc (.int .i64 i)/\s 6=ptr u'.nobj 0/\s 17=sl idi l.length cs/\s 18=sc (.int .i64 l.length)/\s 19=sc (.int .i64 i)/\s 25=sl idb x.body.length b/\s 26=sc (.int .i64 x.body.length)/\s 27=sc (.int .i64 k)/\Keep u u2/\u'.nobj<u2.nobj/\u2.obj u.nobj=[sl idn N.length (N.map str),sl idi l.length cs]/\u2.obj (u.nobj+1)=[nilS,nilS]/\u2.obj u'.nobj=[sc (.bool x.out),sc (.int .i64 (N.idxOf x.head.pred:Nat)),sl ih x.head.terms.length (Av x.head.terms),sl idb x.body.length b]/\Aec (Mat B N.length U u2)/\Aec (∀k',k'<k->Wg N U l i k'=false)) x.body.length
   ⟨0,Ad6,Ad6,Ad7,Ad7,Ad7,Ad7,Ad7,Ad7,Ad7,Ad7,Ad8,Ad8,Ad8,Xs,Aeb,by rw[Aj Ad6,Ae Ad6,bi],by rw[Aj Ad6,Ae Ad6,bh],by rw[Ak],Mat.put (Mat.new hM.out Ad6 _) Ad6 _,fun k' h=>Ad6⟩ ?_
  clear h1 h2 h4 cd cb ca hK bi bh hM;rintro m s u2 ⟨k,rfl,hk,h1,h2,h4,h5,h6,cd,cb,ca,da,c9,c8,hK,ch,bi,bh,cf,hM,bc⟩;have cg:=hK.nobj;by_cases a0:k<x.body.length
  ·have aj:x.out=false:=by
    cases h:x.out with
    |false=>rfl
    |true=>rw[bz.out h]at a0;cases a0
   have ao:=List.getElem?_eq_getElem a0;obtain⟨b4,ia,ra,bd⟩:=N5 be ao;generalize x.body[k]=a at ao b4 bd;have ab:Wg N U l i k=(!a.nt&&(!U (N.idxOf a.pred) (N.idxOf a.pred)&&(Cb N l (N.idxOf a.pred)&&Dp N l (Du i (uL N l x k a.pred) l)))):=by unfold Wg;rw[HG.out];dsimp only;rw[ao]
   have an:Aec (Wg N U l i k=false->∀k',k'<k+1->Wg N U l i k'=false):=fun hf k' b2=>by
    rcases Abi k' k with h|h
    ·exact bc.out k' h
    ·rw[show k'=k by omega,hf]
   have hp:=Ac4 b4;have av:=fun u=>Km N l cs idn idi (N.idxOf a.pred) hE Ad6 u
   have ap:=fun c (hc:PI N x c) u=>(P3 N ar l cs idn idi HR.out hE x c k a a5 aj hc ao u).mono (R':=fun r u'=>(∃id c',r=sl id (uL N l x k a.pred).length c'/\EL (PJ N) (uL N l x k a.pred) c')/\Keep u u') (fun r u' h=>by
    obtain⟨⟨id,c',rfl,h1⟩,h2⟩:=h
    exact⟨⟨id,c',by simp[uL],zX HR.out a5 aj ao h1⟩,h2⟩)
   have au:(uL N l x k a.pred).length<=16:=Abg (yB _ _ _ _ _) bb;have b6:(uL N l x k a.pred).length<=1000:=Ad6;have a3:=fun co ido (h:EL (PJ N) (uL N l x k a.pred) co) u=>Ph (E:=PJ N) tA N l (uL N l x k a.pred) cs co idn idi ido i cn.out h Ad6 b6 u;have af:=fun c' id' (h:EL (PJ N) (Du i (uL N l x k a.pred) l) c') u=>K0 N l (Du i (uL N l x k a.pred) l) cs c' idn idi id' HB.out (xD HR.out (wW HR.out a5 aj ao) au i h) u;have ah:Aec (∀c',Dp N l (Du i (uL N l x k a.pred) l)=true->EL (PJ N) (Du i (uL N l x k a.pred) l) c'->EL (PI N) (Du i (uL N l x k a.pred) l) c'):=fun c' hb h=>by
    unfold Dp at hb;simp only[Abo]at hb;exact Mf h fun y hy c hc=>(hc.pi ((S1 hb.1).2 y hy)).1
   have HC:Aec (∀id c' x',Wg N U l i k=true->x'=Bs N idn (Du i (uL N l x k a.pred) l) id c'->EL (PI N) (Du i (uL N l x k a.pred) l) c'->chU N l idn x' true):=fun id c' x' ho bo bp=>⟨M0,ce.out,by
    rw[HU.out]
    exact .inr ⟨rfl,i,k,x,a,HG.out,aj,ao,ho,hA.out,bc.out,id,c',bo,bp⟩⟩
   have bq:=PI.of (ih:=ih) (id:=idb) b0 be;rw[aj]at cf bq;have cm:Aec _:=bq;clear bq ao bc;cases hnt:a.nt with
   |true=>
    have a4:Aec (∀k',k'<k+1->Wg N U l i k'=false):=an.out (by rw[ab,hnt];rfl);rw[hnt]at bd;clear ab an av ap a3 af ah HC
    repeat' (first|refine Z1 ?_|(refine Z8 ?_;intro κ hκ)|(refine Z4 ?_;clear hκ κ)|(refine Z2 ?_ ?_<;>intro h aa<;>try exact Xp)|refine Z3 ?_|exact⟨⟩|(apply hκ.out;clear hκ κ))
    refine⟨x.body.length-(k+1),Ad6,k+1,?_⟩
    ((repeat' with_reducible refine And.intro ?_ ?_)<;>first|exact Xq|exact (a4)|exact (by rw[aj];assumption)|exact (Mat.put (Mat.new hM.out Ad6 _) Ad6 _)|exact Xs)
   |false=>
    rw[hnt]at bd ab;generalize N.idxOf a.pred=p at bd hp ab av;have cu:=Hm (B:=B) (n:=N.length) (k:=N.length) hp;have ct:=Hl B N.length N.length;have cw:=hM.out _ hp;have cr:=Dv N.length (U p);have bw:=F0 (U p) hp;have ak:∀cs',(u2.new cs').obj (B+p)=u2.obj (B+p):=fun cs'=>Ae Ad6;cases hu:U p p with
    |true=>
     have a4:Aec (∀k',k'<k+1->Wg N U l i k'=false):=an.out (by rw[ab,hu];rfl);rw[hu]at bw;clear ab an av ap a3 af ah HC ak hu
     repeat' (first|refine Z1 ?_|(refine Z8 ?_;intro κ hκ)|(refine Z4 ?_;clear hκ κ)|(refine Z2 ?_ ?_<;>intro h aa<;>try exact Xp)|refine Z3 ?_|exact⟨⟩|(apply hκ.out;clear hκ κ))
     refine⟨x.body.length-(k+1),Ad6,k+1,?_⟩
     ((repeat' with_reducible refine And.intro ?_ ?_)<;>first|exact Xq|exact (a4)|exact (by rw[aj];assumption)|exact (Mat.put (Mat.new hM.out Ad6 _) Ad6 _)|exact Xs)
    |false=>
     rw[hu]at bw ab;cases a6:Cb N l p with
     |false=>
      have a4:Aec (∀k',k'<k+1->Wg N U l i k'=false):=an.out (by rw[ab,a6];rfl);rw[a6]at av;clear ab an ap a3 af ah HC ak hu a6
      repeat' (first|refine Z1 ?_|(refine Z8 ?_;intro κ hκ)|(refine Z4 ?_;clear hκ κ)|(refine Z2 ?_ ?_<;>intro h aa<;>try exact Xp)|(refine Z5 ?_;refine Xi (av _) ?_;rintro _ _ ⟨rfl,ae⟩;(have ad:=ae.nobj;have ac:=ae.obj;(try simp only[Ab,Aa]at ad ac)))|refine Z3 ?_|exact⟨⟩|(apply hκ.out;clear hκ κ))
      refine⟨x.body.length-(k+1),Ad6,k+1,?_⟩
      ((repeat' with_reducible refine And.intro ?_ ?_)<;>first|exact Xq|exact (a4)|exact (by rw[aj];assumption)|exact (Mat.keep (Mat.put (Mat.new hM.out Ad6 _) Ad6 _) ae Aeb)|exact Xs)
     |true=>
      rw[a6]at av ab;simp only[Bool.not_false,Acv]at ab;rw[<-ab]at af ah;clear au;generalize uL N l x k a.pred=V at ap a3 af ah HC b6;generalize Du i V l=W at a3 af ah HC;have ap:=fun u=>ap _ cm.out u;cases a7:Wg N U l i k with
      |true=>
       rw[a7]at af ah;have cp:Aec (∀id c' x',x'=Bs N idn W id c'->EL (PJ N) W c'->chU N l idn x' true):=fun id c' x' bo bp=>HC.out id c' x' a7 bo (ah.out c' rfl bp);clear ab an ah HC ak hu a6 a7 hA
       repeat' (first|refine Z1 ?_|(refine Z8 ?_;intro κ hκ)|(refine Z4 ?_;clear hκ κ)|(refine Z2 ?_ ?_<;>intro h aa<;>try exact Xp)|(refine Z5 ?_;first|(refine Xi (av _) ?_;rintro _ _ ⟨rfl,ae⟩;(have ad:=ae.nobj;have ac:=ae.obj;(try simp only[Ab,Aa]at ad ac)))|(refine Xi (ap _) ?_;rintro _ _ ⟨⟨id4,c4,rfl,bu⟩,ba⟩;(have az:=ba.nobj;have ax:=ba.obj;(try simp only[Ab,Aa]at az ax)))|(refine Xi (a3 _ _ bu _) ?_;rintro _ _ ⟨⟨id6,c6,rfl,bg⟩,a9⟩;(have ay:=a9.nobj;have aw:=a9.obj;(try simp only[Ab,Aa,Ag]at ay aw)))|(refine Xi (af c6 id6 bg _) ?_;rintro _ _ ⟨⟨x7,rfl,bv,⟨id71,n71,c71,id72,n72,c72,rfl⟩⟩,a8⟩;(have bm:=a8.nobj;have bl:=a8.obj)))|refine Z3 ?_|exact⟨⟩|(apply hκ.out;clear hκ κ))
       exact⟨_,rfl,⟨_,true,rfl,cp.out _ _ _ (bv rfl) bg,_,_,_,_,_,_,rfl⟩,Xs⟩
      |false=>
       rw[a7]at af;have a4:Aec (∀k',k'<k+1->Wg N U l i k'=false):=an.out a7;clear ab an ah HC ak hu a6 a7
       repeat' (first|refine Z1 ?_|(refine Z8 ?_;intro κ hκ)|(refine Z4 ?_;clear hκ κ)|(refine Z2 ?_ ?_<;>intro h aa<;>try exact Xp)|(refine Z5 ?_;first|(refine Xi (av _) ?_;rintro _ _ ⟨rfl,ae⟩;(have ad:=ae.nobj;have ac:=ae.obj;(try simp only[Ab,Aa]at ad ac)))|(refine Xi (ap _) ?_;rintro _ _ ⟨⟨id4,c4,rfl,bu⟩,ba⟩;(have az:=ba.nobj;have ax:=ba.obj;(try simp only[Ab,Aa]at az ax)))|(refine Xi (a3 _ _ bu _) ?_;rintro _ _ ⟨⟨id6,c6,rfl,bg⟩,a9⟩;(have ay:=a9.nobj;have aw:=a9.obj;(try simp only[Ab,Aa,Ag]at ay aw)))|(refine Xi (af c6 id6 bg _) ?_;rintro _ _ ⟨⟨x7,rfl,bv,⟨id71,n71,c71,id72,n72,c72,rfl⟩⟩,a8⟩;(have bm:=a8.nobj;have bl:=a8.obj)))|refine Z3 ?_|exact⟨⟩|(apply hκ.out;clear hκ κ))
       refine⟨x.body.length-(k+1),Ad6,k+1,?_⟩
       ((repeat' with_reducible refine And.intro ?_ ?_)<;>first|exact Xq|exact (a4)|exact (by rw[aj];assumption)|exact (Mat.put (Mat.new (Mat.keep (Mat.put (Mat.new hM.out Ad6 _) Ad6 _) (((ae.trans ba).trans a9).trans a8) Aeb) Ad6 _) Ad6 _)|exact Xs)
  ·have cx:k=x.body.length:=Ad6;have HA:Aec (mZ N U l (i+1)):=fun j y hj hy k' b2=>by
    rcases Abi j i with h|h
    ·exact hA.out j y h hy k' b2
    ·have:j=i:=Ad6;subst this;rw[HG.out]at hy;cases hy;exact bc.out k' Ad6
   clear bc HG hA
   repeat' (first|refine Z1 ?_|(refine Z8 ?_;intro κ hκ)|(refine Z4 ?_;clear hκ κ)|(refine Z2 ?_ ?_<;>intro h aa<;>try exact Xp)|refine Z3 ?_|exact⟨⟩|(apply hκ.out;clear hκ κ))
   refine⟨l.length-(i+1),Ad6,i+1,?_⟩
   ((repeat' with_reducible refine And.intro ?_ ?_)<;>first|exact Xq|exact (HA)|exact Xs)
 ·have ci:i=l.length:=Ad6;subst ci;have HC:Aec (∀x,chU N l idn x false):=fun x=>⟨M0,ce.out,by rw[HU.out];exact .inl ⟨rfl,hA.out⟩⟩;clear hA
  repeat' (first|refine Z1 ?_|(refine Z8 ?_;intro κ hκ)|(refine Z4 ?_;clear hκ κ)|(refine Z2 ?_ ?_<;>intro h aa<;>try exact Xp)|refine Z3 ?_|exact⟨⟩|(apply hκ.out;clear hκ κ))
  exact⟨_,rfl,⟨_,false,rfl,HC.out _,_,_,_,_,_,_,rfl⟩,Xs⟩
end Go.Proofs.YtmoeoppbmhfbpabGreatDoorJ
