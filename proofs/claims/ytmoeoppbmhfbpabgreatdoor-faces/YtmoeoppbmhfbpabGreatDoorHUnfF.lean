import Derived.Test.YtmoeoppbmhfbpabGreatDoorHUnfD
import Derived.Test.YtmoeoppbmhfbpabGreatDoorHPrtH
import Derived.Test.YtmoeoppbmhfbpabGreatDoorHOptE
set_option linter.all false
namespace Go.Proofs.YtmoeoppbmhfbpabGreatDoorH
set_option maxHeartbeats 64000000
open Go.Abs
set_option maxRecDepth 100000
theorem kU {N:List Tx}{p q:Tx}(hp:p∈N)(hq:q∈N):(((N.idxOf p:Nat):Int) !=((N.idxOf q:Nat):Int))=!decide (p=q):=by
 by_cases h:p=q
 ·subst h;simp
 ·have:N.idxOf p≠N.idxOf q:=fun e=>h (by
   have h1:=Ac0 (Ac1 hp);have h2:=Ac0 (Ac1 hq)
   rw[<-h1,<-h2];congr 1)
  simp[h];omega
theorem lS {N:List Tx}{l:List RItem}{x:RItem}{k:Nat}{q:Tx}{i:Nat}{y:RItem}(h:l[i]?=some y):Jy N (l.take (i+1)) x k q=Jy N (l.take i) x k q++(if O3 q y=true then (eU N x k y).toList else []):=by
 unfold Jy;rw[Abq,h,Ac2,Adg,List.filterMap_append];congr 1;by_cases hq:O3 q y=true
 ·rw[if_pos hq,Adu,if_pos hq];cases e:eU N x k y<;>simp[e]
 ·rw[if_neg hq,Adu,if_neg hq];rfl
theorem P4 (N:List Tx)(ar:Tx->Nat)(l:List RItem)(cs:List AV)(idn idi:Nat)(hR:RtL N ar l)(hE:EL (PI N) l cs)(x:RItem)(c:List AV)(k:Nat)(a:RAtom)(hx:x∈l)(bl:x.out=false)(hc:PI N x c)(ha:x.body[k]?=some a)(u:St):
  ACalls Tryz.prog 179 [B7 N idn l idi cs,ag c,sc (.int .i64 k)] u fun r u'=>(∃id c',r=sl id (Jy N l x k a.pred).length c'/\EL (Pj false) (Jy N l x k a.pred) c')/\Keep u u':=by
 have cv:=hR.gl.len;have dz:=EL.length Dw hE;have b4:=Abh ha;have hW:=fun y hy ho=>iH (hR.ru y hy ho) (hR.gl.msr y hy) ho (hR.wit y hy);have bp:=hW x hx bl;have dr:=hR.b5 x hx;have c7:=((hR.ru x hx bl).body a b4).mem;have bb:=((hR.ru x hx bl).body a b4).len;have b3:=tQ hc;rw[bl]at b3;have bz:(Bz N x).body[k]?=some (Fh N a):=by simp[Bz,ha]
 have cf:=bp.bd _ (Abh bz);have b8:=b3;obtain⟨ih,ib,bc,rfl,hb⟩:=b3;obtain⟨ia,ra,cz⟩:=Gf hb bz;have c6:=EL.length Fv hb;have ck:(Bz N x).body.length=x.body.length:=by simp[Bz]
 have dw:k<x.body.length:=(List.getElem?_eq_some_iff.1 ha).1;have HU:Ad8 (∀y,eU N x k y=(Ep pidn (Fh N a).a.ts (F2 aprt (Bz N y)).head.ts).map fun P=>Ec (F2 P ⟨(Bz N x).head,Ct k (F2 aprt (Bz N y)).body (Bz N x).body⟩)):=fun y=>by
  unfold eU;rw[ha];rfl
 have ay:(Fh N a).a.p=((N.idxOf a.pred:Nat):Int):=rfl;have ce:(Fh N a).a.ts.length=ar a.pred:=by simp[Fh,Ez,bb]
 generalize Bz N x=X at bp b8 bz hb c6 ck HU;generalize (Fh N a).a=A at cz cf HU ay ce;have c9:X.body.length<=5:=Ad2;have dx:k<X.body.length:=Ad2;have dl:Ad8 _:=ay;have dm:Ad8 _:=ce;have df:Ad8 (Pj false X [sc (.bool false),ic X.head.p,sl ih X.head.ts.length (Ac X.head.ts),sl ib X.body.length bc]):=b8;have HR:Ad8 (RtL N ar l):=hR;have HW:Ad8 (∀y∈l,y.out=false->RuW N ar (Bz N y)):=hW;have de:Ad8 (RuW N ar X):=bp;have cg:Ad8 (AtW N ar A):=cf;clear b8 hR hW bp cf ha b4 bz hc ck ay ce bb;refine Z9 65 [.tmp 6] Tryz.func179 ?_
 repeat' (first|refine Z1 ?_|(refine Z8 ?_;intro κ hκ)|(refine Z4 ?_;clear hκ κ)|(refine Z2 ?_ ?_<;>intro h af<;>try exact Xp)|(refine Z6 ?_;intro idn un a5 bf ae ac aj ab)|refine Z3 ?_|exact⟨⟩|(apply hκ.out;clear hκ κ))
 refine Ad (fun m s u'=>∃(i id:Nat) (R:List D2) (c:List AV),m=l.length-i/\i<=l.length/\s 2=ic k/\s 4=ptr (u.nobj+1) 0/\s 7=sl id R.length c/\s 8=ptr (u.nobj+2) 0/\s 24=sl idi l.length cs/\s 25=ic l.length/\s 26=ic i/\Keep u u'/\u.nobj+2<u'.nobj/\u'.obj (u.nobj+1)=[sc (.bool false),ic X.head.p,sl ih X.head.ts.length (Ac X.head.ts),sl ib X.body.length bc]/\u'.obj (u.nobj+2)=[ic A.p,sl ia A.ts.length (Ac A.ts)]/\Own u u' id R.length/\c.length=R.length*4/\R.length<=i/\Ad8 (R=Jy N (l.take i) x k a.pred/\EL (Pj false) R c)) l.length
  ⟨0,1,[],[],Ad2,Ad2,by simp[upd,initS],Ad4,Ad4,Ad4,Ad4,Ad4,rfl,?_,?_,?_,?_,Own.nil _ _,by simp,by simp,⟨by simp[Jy],rfl⟩⟩ ?_
 ·exact ((((Keep.refl u).new _).new _).new _).put Ad2 _
 ·simp only[Ab,Aa];omega
 ·rw[Ai Ad2,Ae Ad6,Bp (by rw[Aa];omega) (by rw[Aa];omega)]
 ·rw[show u.nobj+2=u.nobj+1+1 by omega,Aj]
 rintro m s u' ⟨i,id,R,c,rfl,hi,h2,h4,h7,h8,d4,d3,d2,hK,dt,dp,dn,hO,c5,d0,hA⟩;have dq:=hK.nobj;by_cases ci:i<l.length
 ·have ad:=List.getElem?_eq_getElem ci;have a9:=Acz ci;have ch:=((HR.out).gl.msr l[i] a9).mem;have a4:=fun (ho:l[i].out=false)=>HW.out l[i] a9 ho;have cq:=HR.out.b5 l[i] a9;have aa:=fun (ho:l[i].out=false)=>(HR.out.ru l[i] a9 ho).head.len;obtain⟨cy,ry,a0,hd⟩:=EL.get Dw hE ad;have a0:=tQ a0;have HS:=lS (N:=N) (x:=x) (k:=k) (q:=a.pred) ad;have hne:=kU ch c7;have bn:(Bz N l[i]).head.p=((N.idxOf l[i].head.pred:Nat):Int):=rfl;have b6:(Bz N l[i]).body.length=l[i].body.length:=by simp[Bz]
  have bo:(Bz N l[i]).head.ts.length=l[i].head.terms.length:=by simp[Bz,Ez]
  have ak:=HU.out l[i];generalize l[i]=y at ad a9 ch a4 cq aa a0 hd HS hne bn b6 bo ak;generalize Bz N y=Y at a4 a0 bn b6 bo ak;have c8:Y.body.length<=5:=Ad2;have dd:Ad8 _:=bo;clear b6 bo;have be:=a0;obtain⟨jh,jb,jc,rfl,cw⟩:=a0;simp only[Acg,Aci]at hd;rw[<-bn,<-dl.out]at hne;clear bn;cases az:y.out with
  |true=>
   have HN:Ad8 (R=Jy N (l.take (i+1)) x k a.pred/\EL (Pj false) R c):=by
    rw[HS];simp[O3,az];exact hA.out
   rw[az]at hd;clear HS hA ad be a4 aa hne ak
   repeat' (first|refine Z1 ?_|(refine Z8 ?_;intro κ hκ)|(refine Z4 ?_;clear hκ κ)|(refine Z2 ?_ ?_<;>intro h af<;>try exact Xp)|(refine Z6 ?_;intro idn un a5 bf ae ac aj ab)|refine Z3 ?_|exact⟨⟩|(apply hκ.out;clear hκ κ))
   refine⟨l.length-(i+1),Ad2,i+1,id,R,c,?_⟩
   ((repeat' with_reducible refine And.intro ?_ ?_)<;>first|exact Xq|exact (HN)|exact Xs)
  |false=>
   rw[az]at hd be;by_cases ba:y.head.pred=a.pred
   ·have cu:(Y.head.p !=A.p)=false:=by rw[hne];simp[ba]
    have b7:=a4 az;have a3:=b7.pin tG;have ay:=fun u=>apart_spec Y b7.r52 false _ be u;have bm:A.ts.length=(F2 aprt Y).head.ts.length:=by
     rw[dm.out,<-ba,<-aa az,<-dd.out];simp[F2,Un]
    have aw:=fun jh u=>nF A (F2 aprt Y).head ia jh bm (by have:=cg.out.le3;omega) (fun t ht=>(cg.out.w t ht).1) (fun t ht=>(a3.hd.w t ht).1) u;have cj:(F2 aprt Y).body.length<=5:=by simp[F2];omega
    have bq:∀P,Ep pidn A.ts (F2 aprt Y).head.ts=some P->PtW P:=fun P e=>gC qP cg.out.w a3.hd.w e;have bi:=de.out.join a3 k c9 cj;generalize F2 aprt Y=Z at a3 ay bm aw cj bq bi ak;have cb:=fun jb jc (h:EL Od Z.body jc) u=>gK X false _ k Z.body jb jc df.out Ad2 h Ad2 u;have dy:=Fe;have hz:=K5;have dv:=Qn;have d5:Ad8 _:=bm;clear be a4 aa hne b7 bm cw;cases hm:Ep pidn A.ts Z.head.ts with
    |none=>
     rw[hm]at ak aw;have HN:Ad8 (R=Jy N (l.take (i+1)) x k a.pred/\EL (Pj false) R c):=by
      rw[HS,ak];simp;exact hA.out
     have cr:=Gc (P:=pt0) (by simp[pt0]);have ct:=Mc (P:=pt0) (Q:=pt0) (by simp[pt0]) (by simp[pt0]);unfold yX at aw;clear HS ak hA ad hm bq cb bi a3
     repeat' (first|refine Z1 ?_|(refine Z8 ?_;intro κ hκ)|(refine Z4 ?_;clear hκ κ)|(refine Z2 ?_ ?_<;>intro h af<;>try exact Xp)|(refine Z6 ?_;intro idn un a5 bf ae ac aj ab)|(refine Z5 ?_;first|(refine Xi (ay _) ?_;rintro _ _ ⟨⟨_,rfl,ax⟩,ap⟩;(have ai:=((hK.new _).put hK.nobj _).trans ap;have ca:=Own.keep (Own.put (Own.new hO _) _ _) ap;have av:=ap.nobj;have an:=ap.obj;(try simp only[Aa,Ab]at av an);obtain⟨zh,zb,zc,rfl,ax⟩:=ax;clear ax))|(refine Xi (aw _ _) ?_;rintro _ _ ⟨rfl,ao⟩;(have ah:=((ai.new _).put ai.nobj _).trans ao;have b9:=Own.keep (Own.put (Own.new ca _) _ _) ao;have au:=ao.nobj;have am:=ao.obj;(try simp only[Aa,Ab]at au am))))|refine Z3 ?_|exact⟨⟩|(apply hκ.out;clear hκ κ))
     refine⟨l.length-(i+1),Ad2,i+1,id,R,c,?_⟩
     ((repeat' with_reducible refine And.intro ?_ ?_)<;>first|exact Xq|exact (HN)|exact (Own.put (Own.new b9 _) _ _)|exact ((ah.new _).put ah.nobj _)|exact Xs)
    |some P=>
     rw[hm]at ak aw;have hP:=bq P hm;have cm:=bi.pin hP;have cd:=fun c (h:Pj false ⟨X.head,Ct k Z.body X.body⟩ c) u=>V8 P hP.len _ bi.r52 false c h u;have br:=fun c (h:Pj false (F2 P ⟨X.head,Ct k Z.body X.body⟩) c) u=>mX _ c h cm.r52 u;have HN:Ad8 (∀d,Pj false (Ec (F2 P ⟨X.head,Ct k Z.body X.body⟩)) d->R++[Ec (F2 P ⟨X.head,Ct k Z.body X.body⟩)]=Jy N (l.take (i+1)) x k a.pred/\EL (Pj false) (R++[Ec (F2 P ⟨X.head,Ct k Z.body X.body⟩)]) (c++d)):=fun d hd=>by
      refine⟨?_,EL.append hA.out.2 (EL.single hd)⟩;rw[HS,ak];simp[O3,az,ba];exact hA.out.1
     have cr:=Gc hP.len;have ct:=Mc (P:=pt0) (by simp[pt0]) hP.len;have du:=Fo hP.len;unfold yX at aw;clear HS ak hA ad hm bq cm bi a3 hP;generalize (⟨X.head,Ct k Z.body X.body⟩:D2)=J at cb cd br HN;generalize F2 P J=K at cd br HN;generalize Ec K=O at br HN
     repeat' (first|refine Z1 ?_|(refine Z8 ?_;intro κ hκ)|(refine Z4 ?_;clear hκ κ)|(refine Z2 ?_ ?_<;>intro h af<;>try exact Xp)|(refine Z6 ?_;intro idn un a5 bf ae ac aj ab)|(refine Z5 ?_;first|(refine Xi (ay _) ?_;rintro _ _ ⟨⟨_,rfl,ax⟩,ap⟩;(have ai:=((hK.new _).put hK.nobj _).trans ap;have ca:=Own.keep (Own.put (Own.new hO _) _ _) ap;have av:=ap.nobj;have an:=ap.obj;(try simp only[Aa,Ab]at av an);obtain⟨zh,zb,zc,rfl,ax⟩:=ax))|(refine Xi (aw _ _) ?_;rintro _ _ ⟨rfl,ao⟩;(have ah:=((ai.new _).put ai.nobj _).trans ao;have b9:=Own.keep (Own.put (Own.new ca _) _ _) ao;have au:=ao.nobj;have am:=ao.obj;(try simp only[Aa,Ab]at au am)))|(refine Xi (cb _ _ ax _) ?_;rintro _ _ ⟨⟨_,rfl,cp⟩,bw⟩;(have bh:=((ah.new _).put ah.nobj _).trans bw;have db:=Own.keep (Own.put (Own.new b9 _) _ _) bw;have b2:=bw.nobj;have a8:=bw.obj;(try simp only[Aa,Ab]at b2 a8);have dk:Ad8 _:=cp;obtain⟨jh3,jb3,jc3,rfl,-⟩:=cp))|(refine Xi (cd _ dk.out _) ?_;rintro _ _ ⟨⟨_,rfl,co⟩,bv⟩;(have bg:=((bh.new _).put bh.nobj _).trans bv;have da:=Own.keep (Own.put (Own.new db _) _ _) bv;have b1:=bv.nobj;have a7:=bv.obj;(try simp only[Aa,Ab]at b1 a7);have dj:Ad8 _:=co;obtain⟨jh4,jb4,jc4,rfl,-⟩:=co))|(refine Xi (br _ dj.out _) ?_;rintro _ _ ⟨⟨_,rfl,cn⟩,bu⟩;(have dc:=((bg.new _).put bg.nobj _).trans bu;have d1:=Own.keep (Own.put (Own.new da _) _ _) bu;have b0:=bu.nobj;have a6:=bu.obj;(try simp only[Aa,Ab]at b0 a6);have di:Ad8 _:=HN.out _ cn;obtain⟨jh5,jb5,jc5,rfl,-⟩:=cn)))|refine Z3 ?_|exact⟨⟩|(apply hκ.out;clear hκ κ))
     have dh:Ad8 _:=di.out;refine⟨l.length-(i+1),Ad2,i+1,idn,R++[O],c++[sc (.bool false),ic O.head.p,sl jh5 O.head.ts.length (Ac O.head.ts),sl jb5 O.body.length jc5],?_⟩
     ((repeat' with_reducible refine And.intro ?_ ?_)<;>first|exact Xq|exact (by simpa using a5)|exact (dh)|exact ((by simp[c5];omega))|exact (by rw[ae,a6 _ Ad2,Ai Ad2,Ae Ad2,a7 _ Ad2,Ai Ad2,Ae Ad2,a8 _ Ad2,Ai Ad2,Ae Ad2,am _ Ad2,Ai Ad2,Ae Ad2,an _ Ad2,Ai Ad2,Ae Ad2];assumption)|exact Xs)
   ·have cu:(Y.head.p !=A.p)=true:=by rw[hne];simp[ba]
    have HN:Ad8 (R=Jy N (l.take (i+1)) x k a.pred/\EL (Pj false) R c):=by
     rw[HS];simp[O3,ba];exact hA.out
    clear HS hA ad be a4 aa hne ak
    repeat' (first|refine Z1 ?_|(refine Z8 ?_;intro κ hκ)|(refine Z4 ?_;clear hκ κ)|(refine Z2 ?_ ?_<;>intro h af<;>try exact Xp)|(refine Z6 ?_;intro idn un a5 bf ae ac aj ab)|refine Z3 ?_|exact⟨⟩|(apply hκ.out;clear hκ κ))
    refine⟨l.length-(i+1),Ad2,i+1,id,R,c,?_⟩
    ((repeat' with_reducible refine And.intro ?_ ?_)<;>first|exact Xq|exact (HN)|exact Xs)
 ·have cx:i=l.length:=Ad2;subst cx;obtain⟨e1,e2⟩:=hA.out;rw[Abn]at e1;have HF:Ad8 (∀r,r=sl id R.length c->∃id c',r=sl id (Jy N l x k a.pred).length c'/\EL (Pj false) (Jy N l x k a.pred) c'):=fun r hr=>by
   rw[<-e1];exact⟨id,c,hr,e2⟩
  clear hA e1 e2
  repeat' (first|refine Z1 ?_|(refine Z8 ?_;intro κ hκ)|(refine Z4 ?_;clear hκ κ)|(refine Z2 ?_ ?_<;>intro h af<;>try exact Xp)|(refine Z6 ?_;intro idn un a5 bf ae ac aj ab)|refine Z3 ?_|exact⟨⟩|(apply hκ.out;clear hκ κ))
  first|exact⟨_,rfl,HF.out _ rfl,hK⟩|exact⟨_,rfl,HF.out _ rfl⟩
theorem xY {α β:Type}{E:α->List AV->Prop}{E':β->List AV->Prop}{f:α->β}:∀{l:List α} {cs:List AV},EL E l cs->(∀a∈l,∀c,E a c->E' (f a) c)->EL E' (l.map f) cs
 |[],_,h,_=>h
 |a::l,_,⟨c,d,h1,h2,e⟩,g=>⟨c,d,g a (by simp) c h1,xY h2 (fun b hb=>g b (by simp[hb])),e⟩
def uL (N:List Tx)(l:List RItem)(x:RItem)(k:Nat)(q:Tx):List RItem:=(Jy N l x k q).map (C2 N)
theorem pD {N:List Tx}{ar:Tx->Nat}{l:List RItem}(hR:RtL N ar l){x:RItem}(hx:x∈l)(ad:x.out=false){k:Nat}{a:RAtom}(ha:x.body[k]?=some a){r:D2}(h:r∈Jy N l x k a.pred):∃s,RuW N ar s/\r=Ec s:=by
 have hW:=fun y hy ho=>iH (hR.ru y hy ho) (hR.gl.msr y hy) ho (hR.wit y hy);obtain⟨y,hy,e⟩:=List.mem_filterMap.1 h;obtain⟨ab,aa⟩:=Adi.1 hy;simp only[O3,Abj,Adl,Adx]at aa;unfold eU at e;rw[ha]at e;obtain⟨P,hP,rfl⟩:=Option.map_eq_some_iff.1 e;have hX:=hW x hx ad;have hZ:=(hW y ab aa.1).pin tG;have ae:(Bz N x).body.length<=5:=by simp[Bz];exact hR.b5 x hx
 have ac:(F2 aprt (Bz N y)).body.length<=5:=by simp[F2,Bz];exact hR.b5 y ab
 have hA:=hX.bd (Fh N a) (by simp only[Bz,Acm];exact⟨a,Abh ha,rfl⟩);exact⟨_,(hX.join hZ k ae ac).pin (gC qP hA.w hZ.hd.w hP),rfl⟩
theorem yG {N:List Tx}{ar:Tx->Nat}{l:List RItem}(hR:RtL N ar l){x:RItem}(hx:x∈l)(ab:x.out=false){k:Nat}{a:RAtom}(ha:x.body[k]?=some a){y:RItem}(h:y∈uL N l x k a.pred)(h5:y.body.length<=5):∃r,y=C2 N r/\RuO N ar r/\r.body.length<=5:=by
 obtain⟨r,hr,rfl⟩:=Acm.1 h;obtain⟨s,hs,rfl⟩:=pD hR hx ab ha hr;have aa:s.body.length<=5:=by simpa[C2,Ec]using h5
 exact⟨_,rfl,hs.ord aa,by simpa[Ec]using aa⟩
theorem Aak {N:List Tx}{ar:Tx->Nat}{l:List RItem}(hR:RtL N ar l){x:RItem}(hx:x∈l)(aa:x.out=false){k:Nat}{a:RAtom}(ha:x.body[k]?=some a){c:List AV}(h:EL (Pj false) (Jy N l x k a.pred) c):EL (PJ N) (uL N l x k a.pred) c:=by
 refine xY h fun r hr c hc=>?_;obtain⟨s,hs,rfl⟩:=pD hR hx aa ha hr;have hl:(C2 N (Ec s)).body.length=s.body.length:=by simp[C2,Ec]
 have hb:=hs.bl;by_cases h5:s.body.length<=5
 ·have hO:=hs.ord h5;exact .inl ⟨hO.pi hc,hO.msr (by simp[Ec];omega)⟩
 ·obtain⟨ih,ib,bc,rfl,-⟩:=hc;exact .inr ⟨by rw[hl];omega,by rw[hl];omega,false,(Ec s).head.p,ih,(Ec s).head.ts.length,Ac (Ec s).head.ts,ib,bc,by rw[hl];simp[Ec]⟩
theorem S6 {l:List RItem}(h:Gr l=true):l.length<=16/\∀x∈l,x.body.length<=5:=by
 unfold Gr at h;simp only[Abj,Adx,Abg]at h;exact⟨h.1,h.2.1⟩
theorem PJ.pi {N:List Tx}{x:RItem}{c:List AV}(h:PJ N x c)(h5:x.body.length<=5):PI N x c/\xW N x:=h.resolve_right fun h=>by have:=h.1;omega
theorem RuO.fits {N:List Tx}{ar:Tx->Nat}{r:D2}(h:RuO N ar r)(h5:r.body.length<=5):(C2 N r).fits:=by
 refine⟨by simp[C2];omega,by have:=h.hd.le3;simp[C2,Lr];omega,fun a ha=>?_⟩;obtain⟨l,hl,rfl⟩:=Acm.1 ha;have:=(h.bd l hl).le3;simp[Lr];omega
def GdI (N:List Tx)(ar:Tx->Nat)(o:List RItem):Prop:=∀y∈o,y.body.length<=5->∃r,y=C2 N r/\RuO N ar r/\r.body.length<=5
theorem xE {N:List Tx}{ar:Tx->Nat}{l:List RItem}(hR:RtL N ar l){x:RItem}(hx:x∈l)(aa:x.out=false){k:Nat}{a:RAtom}(ha:x.body[k]?=some a):GdI N ar (uL N l x k a.pred):=fun y hy h5=>yG hR hx aa ha hy h5
theorem yH (N:List Tx)(l:List RItem)(x:RItem)(k:Nat)(q:Tx):(uL N l x k q).length<=l.length:=by
 unfold uL Jy;rw[Ac9];exact Abc (List.length_filterMap_le _ _) (Adj _ _)
theorem xK {N:List Tx}{ar:Tx->Nat}{l o:List RItem}(hR:RtL N ar l)(hU:GdI N ar o)(i:Nat)(aa:Gr (Ct i o l)=true):GL N (Ct i o l):=by
 obtain⟨ab,h5⟩:=S6 aa;have hm:∀y∈Ct i o l,y∈l\/∃r,y=C2 N r/\RuO N ar r/\r.body.length<=5:=fun y hy=>by
  rcases E4 hy with h|h
  ·exact .inl h
  ·exact .inr (hU y h (h5 y hy))
 refine⟨ab,hR.gl.nm,fun y hy=>?_,fun y hy=>?_,fun y hy=>?_,fun y hy=>?_,fun y hy=>?_⟩
 ·rcases hm y hy with h|⟨r,rfl,hr,hb⟩
  ·exact hR.gl.msr y h
  ·exact hr.msr Ad2
 ·rcases hm y hy with h|⟨r,rfl,hr,hb⟩
  ·exact hR.gl.fits y h
  ·exact hr.fits hb
 ·rcases hm y hy with h|⟨r,rfl,hr,hb⟩
  ·exact hR.gl.pos y h
  ·intro a ha;obtain⟨m,b,rfl,hm⟩:=hr.atoms ha;simpa[Lr]using hm.pos
 ·rcases hm y hy with h|⟨r,rfl,hr,hb⟩
  ·exact hR.gl.va y h
  ·intro a ha w hw;obtain⟨m,b,rfl,hm⟩:=hr.atoms ha;exact iX ((hm.at b).2.2.2.2 w hw)
 ·rcases hm y hy with h|⟨r,rfl,hr,hb⟩
  ·exact hR.gl.ar y h
  ·intro a ha b hb e;obtain⟨m,c,rfl,hm⟩:=hr.atoms (Ay (.inr ha));obtain⟨n,d,rfl,hn⟩:=hr.atoms (Ay (.inr hb));rw[(hm.at c).2.2.1,(hn.at d).2.2.1,e]
theorem xL {N:List Tx}{ar:Tx->Nat}{l o:List RItem}(hR:RtL N ar l)(hU:GdI N ar o)(ho:o.length<=16)(i:Nat){c:List AV}(h:EL (PJ N) (Ct i o l) c):BkJ N (Ct i o l) c:=by
 have hl:=hR.gl.len;refine⟨h,?_,fun aa=>(xK hR hU i aa).bkm (Mu h fun y hy c hc=>(hc.pi ((S6 aa).2 y hy)).1)⟩;have h1:=Ni (n:=i) (o:=o) l l.length;rw[Abn]at h1;have h3:l.length*(o.length+1)<=16*17:=Nat.mul_le_mul hl Ad2;omega
theorem Qy {l:List RItem}(h:(Ci l).1=0){x:RItem}(hx:x∈l):H7 x=true:=by
 unfold Ci at h;split at h
 ·cases h
 ·split at h
  ·cases h
  ·rename_i h2;obtain⟨i,hi,e⟩:=List.getElem_of_mem hx;have:=gN h2 i hi;unfold D4 at this;rw[List.getElem?_eq_getElem hi,e]at this;simpa using this
theorem RuO.wit {N:List Tx}{ar:Tx->Nat}{r:D2}(h:RuO N ar r)(h5:r.body.length<=5):Bv (C2 N r):=by
 have key:∀m b,AtO N ar m->C9 (Lr N b m):=fun m b hm=>⟨(hm.at b).2.1.1,by
  have:=hm.pos;intro e;have:=congrArg List.length e;simp[Lr]at this
  simp[this]at*,by simpa[Lr]using hm.le3,fun t ht=>((hm.at b).2.2.2.2 t ht).2.1⟩
 refine⟨(h.hd.at false).2.1.1,(fun e=>by cases e),fun _=>⟨key _ _ h.hd,rfl,by simpa[C2]using h5,fun a ha=>?_⟩⟩;obtain⟨l,hl,rfl⟩:=Acm.1 ha;exact key _ _ (h.bd l hl)
theorem RuO.wi {N:List Tx}{ar:Tx->Nat}{r:D2}(h:RuO N ar r)(h5:r.body.length<=5):WI N (C2 N r):=by
 have hw:=h.wit h5;have ac:∀m b,AtO N ar m->short (Lr N b m):=fun m b hm=>⟨(hm.at b).2.1.2,by have:=hm.le3;simp[Lr];omega,fun t ht=>((hm.at b).2.2.2.2 t ht).2.2.1⟩;have ab:∀m b,AtO N ar m->VA (Lr N b m):=fun m b hm t ht=>iX ((hm.at b).2.2.2.2 t ht);have ad:∀a∈Ag (C2 N r),WA N (Ba (C2 N r)) a:=fun a ha=>by
  obtain⟨m,b,rfl,hm⟩:=h.atoms ha;exact⟨(hm.at b).1,by simpa[Lr]using hm.pos,(ac m b hm).2.1,(hm.at b).2.1.2,fun w aa=>⟨((hm.at b).2.2.2.2 w aa).1,((hm.at b).2.2.2.2 w aa).2.2.1,fun hv=>K8 hw ha aa hv⟩⟩
 refine⟨h.fits h5,⟨ac _ _ h.hd,fun a ha=>?_⟩,fun a ha=>?_,ab _ _ h.hd,fun a ha=>?_,(h.hd.at false).1,by simpa[C2]using h5,(fun e=>by cases e),fun _=>⟨rfl,ad _ (Ay (.inl ⟨rfl,rfl⟩))⟩,fun a ha=>ad a (Ay (.inr ha))⟩
 ·obtain⟨l,hl,rfl⟩:=Acm.1 ha;exact ac _ _ (h.bd l hl)
 ·obtain⟨m,b,rfl,hm⟩:=h.atoms ha;exact ab _ _ hm
 ·obtain⟨l,hl,rfl⟩:=Acm.1 ha;exact ab _ _ (h.bd l hl)
theorem RuO.ru {N:List Tx}{ar:Tx->Nat}{r:D2}(h:RuO N ar r)(hs:H7 (C2 N r)=true):RuI N ar (C2 N r):=by
 have ab:∀m b,AtO N ar m->AtI N ar (Lr N b m):=fun m b hm=>⟨(hm.at b).1,(hm.at b).2.2.1,by simpa[Lr]using hm.le3⟩;have aa:∀m b,AtO N ar m->∀t∈(Lr N b m).terms,VT t/\DT t:=fun m b hm t ht=>⟨iX ((hm.at b).2.2.2.2 t ht),((hm.at b).2.2.2.2 t ht).1⟩;have ac:∀a∈Ag (C2 N r),VA a:=fun a ha t ht=>by
  obtain⟨m,b,rfl,hm⟩:=h.atoms ha;exact (aa m b hm t ht).1
 refine⟨ab _ _ h.hd,rfl,fun a ha=>?_,aa _ _ h.hd,fun a ha=>?_,fun v hm hv=>?_⟩
 ·obtain⟨l,hl,rfl⟩:=Acm.1 ha;exact ab _ _ (h.bd l hl)
 ·obtain⟨l,hl,rfl⟩:=Acm.1 ha;exact aa _ _ (h.bd l hl)
 ·obtain⟨b,hb,-,ad⟩:=R4 (by rw[Xy ac];exact hs) (fun a ha=>by
   obtain⟨m,b,rfl,hm⟩:=h.atoms ha
   exact (hm.at b).2.2.2.2) (a:=(C2 N r).head) (Ay (.inl ⟨rfl,rfl⟩)) hm hv
  exact⟨b,hb,ad⟩
theorem xJ {N:List Tx}{ar:Tx->Nat}{l o:List RItem}(hR:RtL N ar l)(hU:GdI N ar o)(i:Nat)(hb:Cr N l (Ct i o l)=true):RtL N ar (Ct i o l):=by
 unfold Cr at hb;simp only[Abj,Ady]at hb;obtain⟨aa,-,hw⟩:=hb;have h5:=(S6 aa).2;have hm:∀y∈Ct i o l,y∈l\/∃r,y=C2 N r/\RuO N ar r/\r.body.length<=5:=fun y hy=>by
  rcases E4 hy with h|h
  ·exact .inl h
  ·exact .inr (hU y h (h5 y hy))
 refine⟨xK hR hU i aa,h5,fun y hy ho=>?_,fun y hy=>?_,fun y hy=>?_⟩
 ·rcases hm y hy with h|⟨r,rfl,hr,hb⟩
  ·exact hR.ru y h ho
  ·exact hr.ru (Qy hw hy)
 ·rcases hm y hy with h|⟨r,rfl,hr,hb⟩
  ·exact hR.wi y h
  ·exact hr.wi hb
 ·rcases hm y hy with h|⟨r,rfl,hr,hb⟩
  ·exact hR.wit y h
  ·exact hr.wit hb
def Wi (N:List Tx)(U:Nat->Nat->Bool)(l:List RItem)(i k:Nat):Bool:=match l[i]? with
 |some x=>(match x.body[k]? with
  |some a=>!a.nt&&(!U (N.idxOf a.pred) (N.idxOf a.pred)&&(Cd N l (N.idxOf a.pred)&&Cr N l (Ct i (uL N l x k a.pred) l)))
  |none=>false)
 |none=>false
def nA (N:List Tx)(U:Nat->Nat->Bool)(l:List RItem)(n:Nat):Prop:=∀i y,i<n->l[i]?=some y->∀k,k<y.body.length->Wi N U l i k=false
def chU (N:List Tx)(l:List RItem)(idn:Nat)(x:AV)(b:Bool):Prop:=∃M,Dl N l M/\
 ((b=false/\nA N (Fb N.length M N.length) l l.length)\/(b=true/\∃i k y a,l[i]?=some y/\y.out=false/\y.body[k]?=some a/\Wi N (Fb N.length M N.length) l i k=true/\nA N (Fb N.length M N.length) l i/\(∀k',k'<k->Wi N (Fb N.length M N.length) l i k'=false)/\∃id c',x=B7 N idn (Ct i (uL N l y k a.pred) l) id c'/\EL (PI N) (Ct i (uL N l y k a.pred) l) c'))
theorem tP {N:List Tx}(x:RItem)(c:List AV)(h:PJ N x c):Itm c:=by
 rcases h with⟨h,-⟩|⟨-,-,o,p,ih,n1,tc,ib,b,rfl⟩
 ·exact eH h
 ·exact⟨_,_,_,_,_,_,_,_,rfl⟩
theorem M4 (N:List Tx)(ar:Tx->Nat)(l:List RItem)(cs:List AV)(idn idi:Nat)(hR:RtL N ar l)(hE:EL (PI N) l cs)(u:St):
  ACalls Tryz.prog 127 [B7 N idn l idi cs] u fun r u'=>(∃x b,r=tp [x,sc (.bool b)]/\chU N l idn x b/\eK x)/\Keep u u':=by
 have hG:=hR.gl;have cx:=EL.length Dw hE;have bb:=hG.len;have hN:=hG.nm;have b5:=fun u=>Mb N l cs idn idi ((hG.bkm hE).bk bb) u;have cm:Ad8 (EL (PJ N) l cs):=Mu hE fun x hx c hc=>.inl ⟨hc,hG.msr x hx⟩;have HB:Ad8 (BkM N l cs):=hG.bkm hE;have HR:Ad8 (RtL N ar l):=hR;clear hG hR;refine Z9 71 [.cell 2 62,.tmp 3] Tryz.func127 ?_
 repeat' (first|refine Z1 ?_|(refine Z8 ?_;intro κ hκ)|(refine Z4 ?_;clear hκ κ)|(refine Z2 ?_ ?_<;>intro h aa<;>try exact Xp)|(refine Z5 ?_;refine Xi (b5 _) ?_;rintro _ _ ⟨idu,B,M0,rfl,bf,cj,c5,br,b9⟩;(have bn:=bf.nobj;have ai:=bf.obj;(try simp only[Aa,Ab]at bn ai cj)))|refine Z3 ?_|exact⟨⟩|(apply hκ.out;clear hκ κ))
 rename_i u1;have obk:u1.obj u.nobj=[sl idn N.length (N.map str),sl idi l.length cs]:=by rw[ai _ Ad2,Ae Ad6,Am]
 have obr:u1.obj (u.nobj+1)=[nilS,nilS]:=by rw[ai _ Ad2];first|exact Am|simp[Am]
 have ce:Ad8 (Dl N l M0):=b9;generalize b7:Fb N.length M0 N.length=U at br;have HU:Ad8 _:=b7;have b8:Keep u u1:=(((Keep.refl u).new _).new _).trans bf;clear b9 b7 bf ai b5
 refine Ad (fun m s u'=>∃(i:Nat),m=l.length-i/\i<=l.length/\s 1=ptr u.nobj 0/\s 2=ptr (u.nobj+1) 0/\s 4=sl idu N.length (En B N.length N.length)/\s 17=sl idi l.length cs/\s 18=sc (.int .i64 l.length)/\s 19=sc (.int .i64 i)/\Keep u u'/\u1.nobj<=u'.nobj/\u'.obj u.nobj=[sl idn N.length (N.map str),sl idi l.length cs]/\u'.obj (u.nobj+1)=[nilS,nilS]/\Ad8 (Mat B N.length U u')/\Ad8 (nA N U l i)) l.length
  ⟨0,Ad2,Ad2,Ad4,Ad4,Ad4,Ad4,Ad4,rfl,b8,Ad2,obk,obr,br,fun i y h=>Ad2⟩ ?_
 clear b8 obk obr br;rintro m s u' ⟨i,rfl,hi,h1,h2,h4,cd,cb,ca,hK,cu,bi,bh,hM,hA⟩;have cp:=hK.nobj;by_cases b1:i<l.length
 ·have am:=List.getElem?_eq_getElem b1;have a5:=Acz b1;have b3:=HR.out.gl.fits l[i] a5;have bz:=HR.out.gl.msr l[i] a5;obtain⟨b0,ih,idb,b,r,be,hd⟩:=Gp hE am;generalize l[i]=x at hd am b0 be a5 b3 bz;have cz:=b3.1;have cy:=EL.length Dm be;have HG:Ad8 (l[i]?=some x):=am;clear am
  repeat' (first|refine Z1 ?_|(refine Z8 ?_;intro κ hκ)|(refine Z4 ?_;clear hκ κ)|(refine Z2 ?_ ?_<;>intro h aa<;>try exact Xp)|refine Z3 ?_|exact⟨⟩|(apply hκ.out;clear hκ κ))
  refine Ad (fun m s u2=>∃(k:Nat),m=x.body.length-k/\k<=x.body.length/\s 1=ptr u.nobj 0/\s 2=ptr (u.nobj+1) 0/\s 4=sl idu N.length (En B N.length N.length)/\s 5=sc (.int .i64 i)/\s 6=ptr u'.nobj 0/\s 17=sl idi l.length cs/\s 18=sc (.int .i64 l.length)/\s 19=sc (.int .i64 i)/\s 25=sl idb x.body.length b/\s 26=sc (.int .i64 x.body.length)/\s 27=sc (.int .i64 k)/\Keep u u2/\u'.nobj<u2.nobj/\u2.obj u.nobj=[sl idn N.length (N.map str),sl idi l.length cs]/\u2.obj (u.nobj+1)=[nilS,nilS]/\u2.obj u'.nobj=[sc (.bool x.out),sc (.int .i64 (N.idxOf x.head.pred:Nat)),sl ih x.head.terms.length (Aw x.head.terms),sl idb x.body.length b]/\Ad8 (Mat B N.length U u2)/\Ad8 (∀k',k'<k->Wi N U l i k'=false)) x.body.length
   ⟨0,Ad2,Ad2,Ad3,Ad3,Ad3,Ad3,Ad3,Ad3,Ad3,Ad3,Ad4,Ad4,Ad4,Xs,Ad7,by rw[Ai Ad2,Ae Ad2,bi],by rw[Ai Ad2,Ae Ad2,bh],by rw[Aj],Mat.put (Mat.new hM.out Ad2 _) Ad2 _,fun k' h=>Ad2⟩ ?_
  clear h1 h2 h4 cd cb ca hK bi bh hM;rintro m s u2 ⟨k,rfl,hk,h1,h2,h4,h5,h6,cd,cb,ca,c9,c8,c7,hK,ch,bi,bh,cf,hM,bc⟩;have cg:=hK.nobj;by_cases a0:k<x.body.length
  ·have aj:x.out=false:=by
    cases h:x.out with
    |false=>rfl
    |true=>rw[bz.out h]at a0;cases a0
   have ao:=List.getElem?_eq_getElem a0;obtain⟨b4,ia,ra,bd⟩:=L4 be ao;generalize x.body[k]=a at ao b4 bd;have ab:Wi N U l i k=(!a.nt&&(!U (N.idxOf a.pred) (N.idxOf a.pred)&&(Cd N l (N.idxOf a.pred)&&Cr N l (Ct i (uL N l x k a.pred) l)))):=by unfold Wi;rw[HG.out];dsimp only;rw[ao]
   have an:Ad8 (Wi N U l i k=false->∀k',k'<k+1->Wi N U l i k'=false):=fun hf k' b2=>by
    rcases Abe k' k with h|h
    ·exact bc.out k' h
    ·rw[show k'=k by omega,hf]
   have hp:=Ac1 b4;have av:=fun u=>Kf N l cs idn idi (N.idxOf a.pred) hE Ad2 u
   have ap:=fun c (hc:PI N x c) u=>(P4 N ar l cs idn idi HR.out hE x c k a a5 aj hc ao u).mono (R':=fun r u'=>(∃id c',r=sl id (uL N l x k a.pred).length c'/\EL (PJ N) (uL N l x k a.pred) c')/\Keep u u') (fun r u' h=>by
    obtain⟨⟨id,c',rfl,h1⟩,h2⟩:=h
    exact⟨⟨id,c',by simp[uL],Aak HR.out a5 aj ao h1⟩,h2⟩)
   have au:(uL N l x k a.pred).length<=16:=Abc (yH _ _ _ _ _) bb;have b6:(uL N l x k a.pred).length<=1000:=Ad2;have a3:=fun co ido (h:EL (PJ N) (uL N l x k a.pred) co) u=>Kd (E:=PJ N) tP N l (uL N l x k a.pred) cs co idn idi ido i cm.out h Ad2 b6 u;have af:=fun c' id' (h:EL (PJ N) (Ct i (uL N l x k a.pred) l) c') u=>Gj N l (Ct i (uL N l x k a.pred) l) cs c' idn idi id' HB.out (xL HR.out (xE HR.out a5 aj ao) au i h) u;have ah:Ad8 (∀c',Cr N l (Ct i (uL N l x k a.pred) l)=true->EL (PJ N) (Ct i (uL N l x k a.pred) l) c'->EL (PI N) (Ct i (uL N l x k a.pred) l) c'):=fun c' hb h=>by
    unfold Cr at hb;simp only[Abj]at hb;exact Mu h fun y hy c hc=>(hc.pi ((S6 hb.1).2 y hy)).1
   have HC:Ad8 (∀id c' x',Wi N U l i k=true->x'=B7 N idn (Ct i (uL N l x k a.pred) l) id c'->EL (PI N) (Ct i (uL N l x k a.pred) l) c'->chU N l idn x' true):=fun id c' x' ho bo bp=>⟨M0,ce.out,by
    rw[HU.out]
    exact .inr ⟨rfl,i,k,x,a,HG.out,aj,ao,ho,hA.out,bc.out,id,c',bo,bp⟩⟩
   have bq:=PI.of (ih:=ih) (id:=idb) b0 be;rw[aj]at cf bq;have ck:Ad8 _:=bq;clear bq ao bc;cases hnt:a.nt with
   |true=>
    have a4:Ad8 (∀k',k'<k+1->Wi N U l i k'=false):=an.out (by rw[ab,hnt];rfl);rw[hnt]at bd;clear ab an av ap a3 af ah HC
    repeat' (first|refine Z1 ?_|(refine Z8 ?_;intro κ hκ)|(refine Z4 ?_;clear hκ κ)|(refine Z2 ?_ ?_<;>intro h aa<;>try exact Xp)|refine Z3 ?_|exact⟨⟩|(apply hκ.out;clear hκ κ))
    refine⟨x.body.length-(k+1),Ad2,k+1,?_⟩
    ((repeat' with_reducible refine And.intro ?_ ?_)<;>first|exact Xq|exact (a4)|exact (by rw[aj];assumption)|exact (Mat.put (Mat.new hM.out Ad2 _) Ad2 _)|exact Xs)
   |false=>
    rw[hnt]at bd ab;generalize N.idxOf a.pred=p at bd hp ab av;have ct:=G8 (B:=B) (n:=N.length) (k:=N.length) hp;have cr:=G7 B N.length N.length;have cv:=hM.out _ hp;have cq:=D1 N.length (U p);have bw:=Ft (U p) hp;have ak:∀cs',(u2.new cs').obj (B+p)=u2.obj (B+p):=fun cs'=>Ae Ad2;cases hu:U p p with
    |true=>
     have a4:Ad8 (∀k',k'<k+1->Wi N U l i k'=false):=an.out (by rw[ab,hu];rfl);rw[hu]at bw;clear ab an av ap a3 af ah HC ak hu
     repeat' (first|refine Z1 ?_|(refine Z8 ?_;intro κ hκ)|(refine Z4 ?_;clear hκ κ)|(refine Z2 ?_ ?_<;>intro h aa<;>try exact Xp)|refine Z3 ?_|exact⟨⟩|(apply hκ.out;clear hκ κ))
     refine⟨x.body.length-(k+1),Ad2,k+1,?_⟩
     ((repeat' with_reducible refine And.intro ?_ ?_)<;>first|exact Xq|exact (a4)|exact (by rw[aj];assumption)|exact (Mat.put (Mat.new hM.out Ad2 _) Ad2 _)|exact Xs)
    |false=>
     rw[hu]at bw ab;cases a6:Cd N l p with
     |false=>
      have a4:Ad8 (∀k',k'<k+1->Wi N U l i k'=false):=an.out (by rw[ab,a6];rfl);rw[a6]at av;clear ab an ap a3 af ah HC ak hu a6
      repeat' (first|refine Z1 ?_|(refine Z8 ?_;intro κ hκ)|(refine Z4 ?_;clear hκ κ)|(refine Z2 ?_ ?_<;>intro h aa<;>try exact Xp)|(refine Z5 ?_;refine Xi (av _) ?_;rintro _ _ ⟨rfl,ae⟩;(have ad:=ae.nobj;have ac:=ae.obj;(try simp only[Ab,Aa]at ad ac)))|refine Z3 ?_|exact⟨⟩|(apply hκ.out;clear hκ κ))
      refine⟨x.body.length-(k+1),Ad2,k+1,?_⟩
      ((repeat' with_reducible refine And.intro ?_ ?_)<;>first|exact Xq|exact (a4)|exact (by rw[aj];assumption)|exact (Mat.keep (Mat.put (Mat.new hM.out Ad2 _) Ad2 _) ae Ad7)|exact Xs)
     |true=>
      rw[a6]at av ab;simp only[Bool.not_false,Acp]at ab;rw[<-ab]at af ah;clear au;generalize uL N l x k a.pred=V at ap a3 af ah HC b6;generalize Ct i V l=W at a3 af ah HC;have ap:=fun u=>ap _ ck.out u;cases a7:Wi N U l i k with
      |true=>
       rw[a7]at af ah;have cn:Ad8 (∀id c' x',x'=B7 N idn W id c'->EL (PJ N) W c'->chU N l idn x' true):=fun id c' x' bo bp=>HC.out id c' x' a7 bo (ah.out c' rfl bp);clear ab an ah HC ak hu a6 a7 hA
       repeat' (first|refine Z1 ?_|(refine Z8 ?_;intro κ hκ)|(refine Z4 ?_;clear hκ κ)|(refine Z2 ?_ ?_<;>intro h aa<;>try exact Xp)|(refine Z5 ?_;first|(refine Xi (av _) ?_;rintro _ _ ⟨rfl,ae⟩;(have ad:=ae.nobj;have ac:=ae.obj;(try simp only[Ab,Aa]at ad ac)))|(refine Xi (ap _) ?_;rintro _ _ ⟨⟨id4,c4,rfl,bu⟩,ba⟩;(have az:=ba.nobj;have ax:=ba.obj;(try simp only[Ab,Aa]at az ax)))|(refine Xi (a3 _ _ bu _) ?_;rintro _ _ ⟨⟨id6,c6,rfl,bg⟩,a9⟩;(have ay:=a9.nobj;have aw:=a9.obj;(try simp only[Ab,Aa,Ah]at ay aw)))|(refine Xi (af c6 id6 bg _) ?_;rintro _ _ ⟨⟨x7,rfl,bv,⟨id71,n71,c71,id72,n72,c72,rfl⟩⟩,a8⟩;(have bm:=a8.nobj;have bl:=a8.obj)))|refine Z3 ?_|exact⟨⟩|(apply hκ.out;clear hκ κ))
       exact⟨_,rfl,⟨_,true,rfl,cn.out _ _ _ (bv rfl) bg,_,_,_,_,_,_,rfl⟩,Xs⟩
      |false=>
       rw[a7]at af;have a4:Ad8 (∀k',k'<k+1->Wi N U l i k'=false):=an.out a7;clear ab an ah HC ak hu a6 a7
       repeat' (first|refine Z1 ?_|(refine Z8 ?_;intro κ hκ)|(refine Z4 ?_;clear hκ κ)|(refine Z2 ?_ ?_<;>intro h aa<;>try exact Xp)|(refine Z5 ?_;first|(refine Xi (av _) ?_;rintro _ _ ⟨rfl,ae⟩;(have ad:=ae.nobj;have ac:=ae.obj;(try simp only[Ab,Aa]at ad ac)))|(refine Xi (ap _) ?_;rintro _ _ ⟨⟨id4,c4,rfl,bu⟩,ba⟩;(have az:=ba.nobj;have ax:=ba.obj;(try simp only[Ab,Aa]at az ax)))|(refine Xi (a3 _ _ bu _) ?_;rintro _ _ ⟨⟨id6,c6,rfl,bg⟩,a9⟩;(have ay:=a9.nobj;have aw:=a9.obj;(try simp only[Ab,Aa,Ah]at ay aw)))|(refine Xi (af c6 id6 bg _) ?_;rintro _ _ ⟨⟨x7,rfl,bv,⟨id71,n71,c71,id72,n72,c72,rfl⟩⟩,a8⟩;(have bm:=a8.nobj;have bl:=a8.obj)))|refine Z3 ?_|exact⟨⟩|(apply hκ.out;clear hκ κ))
       refine⟨x.body.length-(k+1),Ad2,k+1,?_⟩
       ((repeat' with_reducible refine And.intro ?_ ?_)<;>first|exact Xq|exact (a4)|exact (by rw[aj];assumption)|exact (Mat.put (Mat.new (Mat.keep (Mat.put (Mat.new hM.out Ad2 _) Ad2 _) (((ae.trans ba).trans a9).trans a8) Ad7) Ad2 _) Ad2 _)|exact Xs)
  ·have cw:k=x.body.length:=Ad2;have HA:Ad8 (nA N U l (i+1)):=fun j y hj hy k' b2=>by
    rcases Abe j i with h|h
    ·exact hA.out j y h hy k' b2
    ·have:j=i:=Ad2;subst this;rw[HG.out]at hy;cases hy;exact bc.out k' Ad2
   clear bc HG hA
   repeat' (first|refine Z1 ?_|(refine Z8 ?_;intro κ hκ)|(refine Z4 ?_;clear hκ κ)|(refine Z2 ?_ ?_<;>intro h aa<;>try exact Xp)|refine Z3 ?_|exact⟨⟩|(apply hκ.out;clear hκ κ))
   refine⟨l.length-(i+1),Ad2,i+1,?_⟩
   ((repeat' with_reducible refine And.intro ?_ ?_)<;>first|exact Xq|exact (HA)|exact Xs)
 ·have ci:i=l.length:=Ad2;subst ci;have HC:Ad8 (∀x,chU N l idn x false):=fun x=>⟨M0,ce.out,by rw[HU.out];exact .inl ⟨rfl,hA.out⟩⟩;clear hA
  repeat' (first|refine Z1 ?_|(refine Z8 ?_;intro κ hκ)|(refine Z4 ?_;clear hκ κ)|(refine Z2 ?_ ?_<;>intro h aa<;>try exact Xp)|refine Z3 ?_|exact⟨⟩|(apply hκ.out;clear hκ κ))
  exact⟨_,rfl,⟨_,false,rfl,HC.out _,_,_,_,_,_,_,rfl⟩,Xs⟩
end Go.Proofs.YtmoeoppbmhfbpabGreatDoorH
