import Derived.Test.YtmoeoppbmhfbpabGreatDoorGUnfD
import Derived.Test.YtmoeoppbmhfbpabGreatDoorGPrtH
import Derived.Test.YtmoeoppbmhfbpabGreatDoorGOptH
set_option maxHeartbeats 64000000
set_option maxRecDepth 100000
set_option linter.all false
namespace Go.Proofs.YtmoeoppbmhfbpabGreatDoorG
open Go.Abs
theorem mU {N:List Tx}{p q:Tx}(hp:p∈N)(hq:q∈N):(((N.idxOf p:Nat):Int) !=((N.idxOf q:Nat):Int))=!decide (p=q):=by
 by_cases h:p=q
 ·subst h;simp
 ·have:N.idxOf p≠N.idxOf q:=fun e=>h (by
   have h1:=Afc (Afd hp);have h2:=Afc (Afd hq)
   rw[<-h1,<-h2];congr 1)
  simp[h];omega
theorem nS {N:List Tx}{l:List RItem}{x:RItem}{k:Nat}{q:Tx}{i:Nat}{y:RItem}(h:l[i]?=some y):Js N (l.take (i+1)) x k q=Js N (l.take i) x k q++(if Jl q y=true then (Mh N x k y).toList else []):=by
 unfold Js;rw[Ad3,h,Afe,Afv,List.filterMap_append];congr 1;by_cases hq:Jl q y=true
 ·rw[if_pos hq,Agc,if_pos hq];cases e:Mh N x k y<;>simp[e]
 ·rw[if_neg hq,Agc,if_neg hq];rfl
theorem Q0 (N:List Tx)(ar:Tx->Nat)(l:List RItem)(cs:List AV)(idn idi:Nat)(hR:RtL N ar l)(hE:EL (PI N) l cs)(x:RItem)(c:List AV)(k:Nat)(a:RAtom)(hx:x∈l)(hxo:x.out=false)(hc:PI N x c)(ha:x.body[k]?=some a)(u:St):
  ACalls Tryz.prog 179 [B9 N idn l idi cs,ag c,sc (.int .i64 k)] u fun r u'=>(∃id c',r=sl id (Js N l x k a.pred).length c'/\EL (Qd false) (Js N l x k a.pred) c')/\Keep u u':=by
 have cv:=hR.gl.len;have dy:=EL.length D2 hE;have b6:=Adt ha;have hW:=fun y hy ho=>kD (hR.ru y hy ho) (hR.gl.msr y hy) ho (hR.wit y hy);have bq:=hW x hx hxo;have dr:=hR.b5 x hx;have c7:=((hR.ru x hx hxo).body a b6).mem;have be:=((hR.ru x hx hxo).body a b6).len;have b4:=wK hc;rw[hxo]at b4;have b0:(Bt N x).body[k]?=some (Eo N a):=by simp[Bt,ha]
 have cf:=bq.bd _ (Adt b0);have b9:=b4;obtain⟨ih,ib,bc,rfl,hb⟩:=b4;obtain⟨ia,ra,cz⟩:=Gx hb b0;have c6:=EL.length F6 hb;have ck:(Bt N x).body.length=x.body.length:=by simp[Bt]
 have dv:k<x.body.length:=(List.getElem?_eq_some_iff.1 ha).1;have HU:Agt (∀y,Mh N x k y=(Di pidn (Eo N a).a.ts (El aprt (Bt N y)).head.ts).map fun P=>Eg (El P ⟨(Bt N x).head,rpl k (El aprt (Bt N y)).body (Bt N x).body⟩)):=fun y=>by
  unfold Mh;rw[ha];rfl
 have az:(Eo N a).a.p=((N.idxOf a.pred:Nat):Int):=rfl;have ce:(Eo N a).a.ts.length=ar a.pred:=by simp[Eo,Dr,be]
 generalize Bt N x=X at bq b9 b0 hb c6 ck HU;generalize (Eo N a).a=A at cz cf HU az ce;have c9:X.body.length<=5:=Agm;have dw:k<X.body.length:=Agm;have dl:Agt _:=az;have dm:Agt _:=ce;have df:Agt (Qd false X [sc (.bool false),ic X.head.p,sl ih X.head.ts.length (Ac X.head.ts),sl ib X.body.length bc]):=b9;have HR:Agt (RtL N ar l):=hR;have HW:Agt (∀y∈l,y.out=false->RuW N ar (Bt N y)):=hW;have de:Agt (RuW N ar X):=bq;have cg:Agt (AtW N ar A):=cf;clear b9 hR hW bq cf ha b6 b0 hc ck az ce be;refine Z9 65 [.tmp 6] Tryz.func179 ?_
 repeat' (first|refine Z1 ?_|(refine Z8 ?_;intro κ hκ)|(refine Z4 ?_;clear hκ κ)|(refine Z2 ?_ ?_<;>intro h af<;>try exact Xp)|(refine Z6 ?_;intro idn un a6 bg ae ac aj ab)|refine Z3 ?_|exact⟨⟩|(apply hκ.out;clear hκ κ))
 refine Ag (fun m s u'=>∃(i id:Nat) (R:List D8) (c:List AV),m=l.length-i/\i<=l.length/\s 2=ic k/\s 4=ptr (u.nobj+1) 0/\s 7=sl id R.length c/\s 8=ptr (u.nobj+2) 0/\s 24=sl idi l.length cs/\s 25=ic l.length/\s 26=ic i/\Keep u u'/\u.nobj+2<u'.nobj/\u'.obj (u.nobj+1)=[sc (.bool false),ic X.head.p,sl ih X.head.ts.length (Ac X.head.ts),sl ib X.body.length bc]/\u'.obj (u.nobj+2)=[ic A.p,sl ia A.ts.length (Ac A.ts)]/\Own u u' id R.length/\c.length=R.length*4/\R.length<=i/\Agt (R=Js N (l.take i) x k a.pred/\EL (Qd false) R c)) l.length
  ⟨0,1,[],[],Agm,Agm,by simp[upd,initS],Ago,Ago,Ago,Ago,Ago,rfl,?_,?_,?_,?_,Own.nil _ _,by simp,by simp,⟨by simp[Js],rfl⟩⟩ ?_
 ·exact ((((Keep.refl u).new _).new _).new _).put Agm _
 ·simp only[Ab,Aa];omega
 ·rw[Ai Agm,Af Agq,Bs (by rw[Aa];omega) (by rw[Aa];omega)]
 ·rw[show u.nobj+2=u.nobj+1+1 by omega,Aj]
 rintro m s u' ⟨i,id,R,c,rfl,hi,h2,h4,h7,h8,d3,d2,d1,hK,hno,dp,dn,hO,c5,dz,hA⟩;have dq:=hK.nobj;by_cases ci:i<l.length
 ·have ad:=List.getElem?_eq_getElem ci;have ba:=Afa ci;have ch:=((HR.out).gl.msr l[i] ba).mem;have a5:=fun (ho:l[i].out=false)=>HW.out l[i] ba ho;have cq:=HR.out.b5 l[i] ba;have aa:=fun (ho:l[i].out=false)=>(HR.out.ru l[i] ba ho).head.len;obtain⟨cy,ry,a3,hd⟩:=EL.get D2 hE ad;have a3:=wK a3;have HS:=nS (N:=N) (x:=x) (k:=k) (q:=a.pred) ad;have aw:=mU ch c7;have bo:(Bt N l[i]).head.p=((N.idxOf l[i].head.pred:Nat):Int):=rfl;have b7:(Bt N l[i]).body.length=l[i].body.length:=by simp[Bt]
  have bp:(Bt N l[i]).head.ts.length=l[i].head.terms.length:=by simp[Bt,Dr]
  have ak:=HU.out l[i];generalize l[i]=y at ad ba ch a5 cq aa a3 hd HS aw bo b7 bp ak;generalize Bt N y=Y at a5 a3 bo b7 bp ak;have c8:Y.body.length<=5:=Agm;have dd:Agt _:=bp;clear b7 bp;have bf:=a3;obtain⟨jh,jb,jc,rfl,cw⟩:=a3;simp only[Aes,Aeu]at hd;rw[<-bo,<-dl.out]at aw;clear bo;cases a0:y.out with
  |true=>
   have HN:Agt (R=Js N (l.take (i+1)) x k a.pred/\EL (Qd false) R c):=by
    rw[HS];simp[Jl,a0];exact hA.out
   rw[a0]at hd;clear HS hA ad bf a5 aa aw ak
   repeat' (first|refine Z1 ?_|(refine Z8 ?_;intro κ hκ)|(refine Z4 ?_;clear hκ κ)|(refine Z2 ?_ ?_<;>intro h af<;>try exact Xp)|(refine Z6 ?_;intro idn un a6 bg ae ac aj ab)|refine Z3 ?_|exact⟨⟩|(apply hκ.out;clear hκ κ))
   refine⟨l.length-(i+1),Agm,i+1,id,R,c,?_⟩
   ((repeat' with_reducible refine And.intro ?_ ?_)<;>first|exact Xq|exact (HN)|exact Xs)
  |false=>
   rw[a0]at hd bf;by_cases bb:y.head.pred=a.pred
   ·have cu:(Y.head.p !=A.p)=false:=by rw[aw];simp[bb]
    have b8:=a5 a0;have a4:=b8.pin vZ;have az:=fun u=>apart_spec Y b8.r52 false _ bf u;have bn:A.ts.length=(El aprt Y).head.ts.length:=by
     rw[dm.out,<-bb,<-aa a0,<-dd.out];simp[El,Nc]
    have ax:=fun jh u=>pF A (El aprt Y).head ia jh bn (by have:=cg.out.le3;omega) (fun t ht=>(cg.out.w t ht).1) (fun t ht=>(a4.hd.w t ht).1) u;have cj:(El aprt Y).body.length<=5:=by simp[El];omega
    have br:∀P,Di pidn A.ts (El aprt Y).head.ts=some P->PtW P:=fun P e=>iX sW cg.out.w a4.hd.w e;have bm:=de.out.join a4 k c9 cj;generalize El aprt Y=Z at a4 az bn ax cj br bm ak;have cc:=fun jb jc (h:EL Pi Z.body jc) u=>jD X false _ k Z.body jb jc df.out Agm h Agm u;have dx:=Fs;have hz:=Ly;have du:=Rn;have d4:Agt _:=bn;clear bf a5 aa aw b8 bn cw;cases hm:Di pidn A.ts Z.head.ts with
    |none=>
     rw[hm]at ak ax;have HN:Agt (R=Js N (l.take (i+1)) x k a.pred/\EL (Qd false) R c):=by
      rw[HS,ak];simp;exact hA.out
     have cr:=Gt (P:=pt0) (by simp[pt0]);have ct:=Na (P:=pt0) (Q:=pt0) (by simp[pt0]) (by simp[pt0]);unfold Abp at ax;clear HS ak hA ad hm br cc bm a4
     repeat' (first|refine Z1 ?_|(refine Z8 ?_;intro κ hκ)|(refine Z4 ?_;clear hκ κ)|(refine Z2 ?_ ?_<;>intro h af<;>try exact Xp)|(refine Z6 ?_;intro idn un a6 bg ae ac aj ab)|(refine Z5 ?_;first|(refine Xi (az _) ?_;rintro _ _ ⟨⟨_,rfl,ay⟩,ap⟩;(have ai:=((hK.new _).put hK.nobj _).trans ap;have cb:=Own.keep (Own.put (Own.new hO _) _ _) ap;have av:=ap.nobj;have an:=ap.obj;(try simp only[Aa,Ab]at av an);obtain⟨zh,zb,zc,rfl,ay⟩:=ay;clear ay))|(refine Xi (ax _ _) ?_;rintro _ _ ⟨rfl,ao⟩;(have ah:=((ai.new _).put ai.nobj _).trans ao;have ca:=Own.keep (Own.put (Own.new cb _) _ _) ao;have au:=ao.nobj;have am:=ao.obj;(try simp only[Aa,Ab]at au am))))|refine Z3 ?_|exact⟨⟩|(apply hκ.out;clear hκ κ))
     refine⟨l.length-(i+1),Agm,i+1,id,R,c,?_⟩
     ((repeat' with_reducible refine And.intro ?_ ?_)<;>first|exact Xq|exact (HN)|exact (Own.put (Own.new ca _) _ _)|exact ((ah.new _).put ah.nobj _)|exact Xs)
    |some P=>
     rw[hm]at ak ax;have hP:=br P hm;have cm:=bm.pin hP;have cd:=fun c (h:Qd false ⟨X.head,rpl k Z.body X.body⟩ c) u=>W5 P hP.len _ bm.r52 false c h u;have bu:=fun c (h:Qd false (El P ⟨X.head,rpl k Z.body X.body⟩) c) u=>oW _ c h cm.r52 u;have HN:Agt (∀d,Qd false (Eg (El P ⟨X.head,rpl k Z.body X.body⟩)) d->R++[Eg (El P ⟨X.head,rpl k Z.body X.body⟩)]=Js N (l.take (i+1)) x k a.pred/\EL (Qd false) (R++[Eg (El P ⟨X.head,rpl k Z.body X.body⟩)]) (c++d)):=fun d hd=>by
      refine⟨?_,EL.append hA.out.2 (EL.single hd)⟩;rw[HS,ak];simp[Jl,a0,bb];exact hA.out.1
     have cr:=Gt hP.len;have ct:=Na (P:=pt0) (by simp[pt0]) hP.len;have dt:=Fz hP.len;unfold Abp at ax;clear HS ak hA ad hm br cm bm a4 hP;generalize (⟨X.head,rpl k Z.body X.body⟩:D8)=J at cc cd bu HN;generalize El P J=K at cd bu HN;generalize Eg K=O at bu HN
     repeat' (first|refine Z1 ?_|(refine Z8 ?_;intro κ hκ)|(refine Z4 ?_;clear hκ κ)|(refine Z2 ?_ ?_<;>intro h af<;>try exact Xp)|(refine Z6 ?_;intro idn un a6 bg ae ac aj ab)|(refine Z5 ?_;first|(refine Xi (az _) ?_;rintro _ _ ⟨⟨_,rfl,ay⟩,ap⟩;(have ai:=((hK.new _).put hK.nobj _).trans ap;have cb:=Own.keep (Own.put (Own.new hO _) _ _) ap;have av:=ap.nobj;have an:=ap.obj;(try simp only[Aa,Ab]at av an);obtain⟨zh,zb,zc,rfl,ay⟩:=ay))|(refine Xi (ax _ _) ?_;rintro _ _ ⟨rfl,ao⟩;(have ah:=((ai.new _).put ai.nobj _).trans ao;have ca:=Own.keep (Own.put (Own.new cb _) _ _) ao;have au:=ao.nobj;have am:=ao.obj;(try simp only[Aa,Ab]at au am)))|(refine Xi (cc _ _ ay _) ?_;rintro _ _ ⟨⟨_,rfl,cp⟩,bz⟩;(have bi:=((ah.new _).put ah.nobj _).trans bz;have db:=Own.keep (Own.put (Own.new ca _) _ _) bz;have b3:=bz.nobj;have a9:=bz.obj;(try simp only[Aa,Ab]at b3 a9);have dk:Agt _:=cp;obtain⟨jh3,jb3,jc3,rfl,-⟩:=cp))|(refine Xi (cd _ dk.out _) ?_;rintro _ _ ⟨⟨_,rfl,co⟩,bw⟩;(have bh:=((bi.new _).put bi.nobj _).trans bw;have da:=Own.keep (Own.put (Own.new db _) _ _) bw;have b2:=bw.nobj;have a8:=bw.obj;(try simp only[Aa,Ab]at b2 a8);have dj:Agt _:=co;obtain⟨jh4,jb4,jc4,rfl,-⟩:=co))|(refine Xi (bu _ dj.out _) ?_;rintro _ _ ⟨⟨_,rfl,cn⟩,bv⟩;(have dc:=((bh.new _).put bh.nobj _).trans bv;have d0:=Own.keep (Own.put (Own.new da _) _ _) bv;have b1:=bv.nobj;have a7:=bv.obj;(try simp only[Aa,Ab]at b1 a7);have di:Agt _:=HN.out _ cn;obtain⟨jh5,jb5,jc5,rfl,-⟩:=cn)))|refine Z3 ?_|exact⟨⟩|(apply hκ.out;clear hκ κ))
     have dh:Agt _:=di.out;refine⟨l.length-(i+1),Agm,i+1,idn,R++[O],c++[sc (.bool false),ic O.head.p,sl jh5 O.head.ts.length (Ac O.head.ts),sl jb5 O.body.length jc5],?_⟩
     ((repeat' with_reducible refine And.intro ?_ ?_)<;>first|exact Xq|exact (by simpa using a6)|exact (dh)|exact ((by simp[c5];omega))|exact (by rw[ae,a7 _ Agm,Ai Agm,Af Agm,a8 _ Agm,Ai Agm,Af Agm,a9 _ Agm,Ai Agm,Af Agm,am _ Agm,Ai Agm,Af Agm,an _ Agm,Ai Agm,Af Agm];assumption)|exact Xs)
   ·have cu:(Y.head.p !=A.p)=true:=by rw[aw];simp[bb]
    have HN:Agt (R=Js N (l.take (i+1)) x k a.pred/\EL (Qd false) R c):=by
     rw[HS];simp[Jl,bb];exact hA.out
    clear HS hA ad bf a5 aa aw ak
    repeat' (first|refine Z1 ?_|(refine Z8 ?_;intro κ hκ)|(refine Z4 ?_;clear hκ κ)|(refine Z2 ?_ ?_<;>intro h af<;>try exact Xp)|(refine Z6 ?_;intro idn un a6 bg ae ac aj ab)|refine Z3 ?_|exact⟨⟩|(apply hκ.out;clear hκ κ))
    refine⟨l.length-(i+1),Agm,i+1,id,R,c,?_⟩
    ((repeat' with_reducible refine And.intro ?_ ?_)<;>first|exact Xq|exact (HN)|exact Xs)
 ·have cx:i=l.length:=Agm;subst cx;obtain⟨e1,e2⟩:=hA.out;rw[Adz]at e1;have HF:Agt (∀r,r=sl id R.length c->∃id c',r=sl id (Js N l x k a.pred).length c'/\EL (Qd false) (Js N l x k a.pred) c'):=fun r hr=>by
   rw[<-e1];exact⟨id,c,hr,e2⟩
  clear hA e1 e2
  repeat' (first|refine Z1 ?_|(refine Z8 ?_;intro κ hκ)|(refine Z4 ?_;clear hκ κ)|(refine Z2 ?_ ?_<;>intro h af<;>try exact Xp)|(refine Z6 ?_;intro idn un a6 bg ae ac aj ab)|refine Z3 ?_|exact⟨⟩|(apply hκ.out;clear hκ κ))
  first|exact⟨_,rfl,HF.out _ rfl,hK⟩|exact⟨_,rfl,HF.out _ rfl⟩
theorem Aaw {α β:Type}{E:α->List AV->Prop}{E':β->List AV->Prop}{f:α->β}:∀{l:List α} {cs:List AV},EL E l cs->(∀a∈l,∀c,E a c->E' (f a) c)->EL E' (l.map f) cs
 |[],_,h,_=>h
 |a::l,_,⟨c,d,h1,h2,e⟩,g=>⟨c,d,g a (by simp) c h1,Aaw h2 (fun b hb=>g b (by simp[hb])),e⟩
def uL (N:List Tx)(l:List RItem)(x:RItem)(k:Nat)(q:Tx):List RItem:=(Js N l x k q).map (Ck N)
theorem rL {N:List Tx}{ar:Tx->Nat}{l:List RItem}(hR:RtL N ar l){x:RItem}(hx:x∈l)(hxo:x.out=false){k:Nat}{a:RAtom}(ha:x.body[k]?=some a){r:D8}(h:r∈Js N l x k a.pred):∃s,RuW N ar s/\r=Eg s:=by
 have hW:=fun y hy ho=>kD (hR.ru y hy ho) (hR.gl.msr y hy) ho (hR.wit y hy);obtain⟨y,hy,e⟩:=List.mem_filterMap.1 h;obtain⟨ab,aa⟩:=Afx.1 hy;simp only[Jl,Adv,Af0,Agi]at aa;unfold Mh at e;rw[ha]at e;obtain⟨P,hP,rfl⟩:=Agd.1 e;have hX:=hW x hx hxo;have hZ:=(hW y ab aa.1).pin vZ;have ad:(Bt N x).body.length<=5:=by simp[Bt];exact hR.b5 x hx
 have ac:(El aprt (Bt N y)).body.length<=5:=by simp[El,Bt];exact hR.b5 y ab
 have hA:=hX.bd (Eo N a) (by simp only[Bt,Aey];exact⟨a,Adt ha,rfl⟩);exact⟨_,(hX.join hZ k ad ac).pin (iX sW hA.w hZ.hd.w hP),rfl⟩
theorem Aa3 {N:List Tx}{ar:Tx->Nat}{l:List RItem}(hR:RtL N ar l){x:RItem}(hx:x∈l)(hxo:x.out=false){k:Nat}{a:RAtom}(ha:x.body[k]?=some a){y:RItem}(h:y∈uL N l x k a.pred)(h5:y.body.length<=5):∃r,y=Ck N r/\RuO N ar r/\r.body.length<=5:=by
 obtain⟨r,hr,rfl⟩:=Aey.1 h;obtain⟨s,hs,rfl⟩:=rL hR hx hxo ha hr;have aa:s.body.length<=5:=by simpa[Ck,Eg]using h5
 exact⟨_,rfl,hs.ord aa,by simpa[Eg]using aa⟩
theorem Acl {N:List Tx}{ar:Tx->Nat}{l:List RItem}(hR:RtL N ar l){x:RItem}(hx:x∈l)(hxo:x.out=false){k:Nat}{a:RAtom}(ha:x.body[k]?=some a){c:List AV}(h:EL (Qd false) (Js N l x k a.pred) c):EL (PJ N) (uL N l x k a.pred) c:=by
 refine Aaw h fun r hr c hc=>?_;obtain⟨s,hs,rfl⟩:=rL hR hx hxo ha hr;have hl:(Ck N (Eg s)).body.length=s.body.length:=by simp[Ck,Eg]
 have hb:=hs.bl;by_cases h5:s.body.length<=5
 ·have hO:=hs.ord h5;exact .inl ⟨hO.pi hc,hO.msr (by simp[Eg];omega)⟩
 ·obtain⟨ih,ib,bc,rfl,-⟩:=hc;exact .inr ⟨by rw[hl];omega,by rw[hl];omega,false,(Eg s).head.p,ih,(Eg s).head.ts.length,Ac (Eg s).head.ts,ib,bc,by rw[hl];simp[Eg]⟩
theorem Ub {l:List RItem}(h:Gy l=true):l.length<=16/\∀x∈l,x.body.length<=5:=by
 unfold Gy at h;simp only[Adv,Agi,Ads]at h;exact⟨h.1,h.2.1⟩
theorem PJ.pi {N:List Tx}{x:RItem}{c:List AV}(h:PJ N x c)(h5:x.body.length<=5):PI N x c/\Msr N x:=h.resolve_right fun h=>by have:=h.1;omega
theorem RuO.fits {N:List Tx}{ar:Tx->Nat}{r:D8}(h:RuO N ar r)(h5:r.body.length<=5):(Ck N r).fits:=by
 refine⟨by simp[Ck];omega,by have:=h.hd.le3;simp[Ck,Lp];omega,fun a ha=>?_⟩;obtain⟨l,hl,rfl⟩:=Aey.1 ha;have:=(h.bd l hl).le3;simp[Lp];omega
def GdI (N:List Tx)(ar:Tx->Nat)(o:List RItem):Prop:=∀y∈o,y.body.length<=5->∃r,y=Ck N r/\RuO N ar r/\r.body.length<=5
theorem Aae {N:List Tx}{ar:Tx->Nat}{l:List RItem}(hR:RtL N ar l){x:RItem}(hx:x∈l)(hxo:x.out=false){k:Nat}{a:RAtom}(ha:x.body[k]?=some a):GdI N ar (uL N l x k a.pred):=fun y hy h5=>Aa3 hR hx hxo ha hy h5
theorem Aa4 (N:List Tx)(l:List RItem)(x:RItem)(k:Nat)(q:Tx):(uL N l x k q).length<=l.length:=by
 unfold uL Js;rw[Afo];exact Ado (List.length_filterMap_le _ _) (Afy _ _)
theorem Aam {N:List Tx}{ar:Tx->Nat}{l o:List RItem}(hR:RtL N ar l)(hU:GdI N ar o)(i:Nat)(aa:Gy (rpl i o l)=true):GL N (rpl i o l):=by
 obtain⟨ab,h5⟩:=Ub aa;have hm:∀y∈rpl i o l,y∈l\/∃r,y=Ck N r/\RuO N ar r/\r.body.length<=5:=fun y hy=>by
  rcases Dm hy with h|h
  ·exact .inl h
  ·exact .inr (hU y h (h5 y hy))
 refine⟨ab,hR.gl.nm,fun y hy=>?_,fun y hy=>?_,fun y hy=>?_,fun y hy=>?_,fun y hy=>?_⟩
 ·rcases hm y hy with h|⟨r,rfl,hr,hb⟩
  ·exact hR.gl.msr y h
  ·exact hr.msr Agm
 ·rcases hm y hy with h|⟨r,rfl,hr,hb⟩
  ·exact hR.gl.fits y h
  ·exact hr.fits hb
 ·rcases hm y hy with h|⟨r,rfl,hr,hb⟩
  ·exact hR.gl.pos y h
  ·intro a ha;obtain⟨m,b,rfl,hm⟩:=hr.atoms ha;simpa[Lp]using hm.pos
 ·rcases hm y hy with h|⟨r,rfl,hr,hb⟩
  ·exact hR.gl.va y h
  ·intro a ha w hw;obtain⟨m,b,rfl,hm⟩:=hr.atoms ha;exact Qf ((hm.at b).2.2.2.2 w hw)
 ·rcases hm y hy with h|⟨r,rfl,hr,hb⟩
  ·exact hR.gl.ar y h
  ·intro a ha b hb e;obtain⟨m,c,rfl,hm⟩:=hr.atoms (Ak (.inr ha));obtain⟨n,d,rfl,hn⟩:=hr.atoms (Ak (.inr hb));rw[(hm.at c).2.2.1,(hn.at d).2.2.1,e]
theorem Aan {N:List Tx}{ar:Tx->Nat}{l o:List RItem}(hR:RtL N ar l)(hU:GdI N ar o)(ho:o.length<=16)(i:Nat){c:List AV}(h:EL (PJ N) (rpl i o l) c):BkJ N (rpl i o l) c:=by
 have hl:=hR.gl.len;refine⟨h,?_,fun aa=>(Aam hR hU i aa).bkm (Ny h fun y hy c hc=>(hc.pi ((Ub aa).2 y hy)).1)⟩;have h1:=Oi (n:=i) (o:=o) l l.length;rw[Adz]at h1;have h3:l.length*(o.length+1)<=16*17:=Nat.mul_le_mul hl Agm;omega
theorem My {l:List RItem}(h:(Cd l).1=0){x:RItem}(hx:x∈l):Fa x=true:=by
 unfold Cd at h;split at h
 ·cases h
 ·split at h
  ·cases h
  ·rename_i h2;obtain⟨i,hi,e⟩:=List.getElem_of_mem hx;have:=jI h2 i hi;unfold Ec at this;rw[List.getElem?_eq_getElem hi,e]at this;simpa using this
theorem RuO.wit {N:List Tx}{ar:Tx->Nat}{r:D8}(h:RuO N ar r)(h5:r.body.length<=5):Bv (Ck N r):=by
 have key:∀m b,AtO N ar m->Da (Lp N b m):=fun m b hm=>⟨(hm.at b).2.1.1,by
  have:=hm.pos;intro e;have:=congrArg List.length e;simp[Lp]at this
  simp[this]at*,by simpa[Lp]using hm.le3,fun t ht=>((hm.at b).2.2.2.2 t ht).2.1⟩
 refine⟨(h.hd.at false).2.1.1,(fun e=>by cases e),fun _=>⟨key _ _ h.hd,rfl,by simpa[Ck]using h5,fun a ha=>?_⟩⟩;obtain⟨l,hl,rfl⟩:=Aey.1 ha;exact key _ _ (h.bd l hl)
theorem RuO.wi {N:List Tx}{ar:Tx->Nat}{r:D8}(h:RuO N ar r)(h5:r.body.length<=5):WI N (Ck N r):=by
 have hw:=h.wit h5;have ac:∀m b,AtO N ar m->short (Lp N b m):=fun m b hm=>⟨(hm.at b).2.1.2,by have:=hm.le3;simp[Lp];omega,fun t ht=>((hm.at b).2.2.2.2 t ht).2.2.1⟩;have ab:∀m b,AtO N ar m->VA (Lp N b m):=fun m b hm t ht=>Qf ((hm.at b).2.2.2.2 t ht);have ad:∀a∈Ae (Ck N r),WA N (Au (Ck N r)) a:=fun a ha=>by
  obtain⟨m,b,rfl,hm⟩:=h.atoms ha;exact⟨(hm.at b).1,by simpa[Lp]using hm.pos,(ac m b hm).2.1,(hm.at b).2.1.2,fun w aa=>⟨((hm.at b).2.2.2.2 w aa).1,((hm.at b).2.2.2.2 w aa).2.2.1,fun hv=>L1 hw ha aa hv⟩⟩
 refine⟨h.fits h5,⟨ac _ _ h.hd,fun a ha=>?_⟩,fun a ha=>?_,ab _ _ h.hd,fun a ha=>?_,(h.hd.at false).1,by simpa[Ck]using h5,(fun e=>by cases e),fun _=>⟨rfl,ad _ (Ak (.inl ⟨rfl,rfl⟩))⟩,fun a ha=>ad a (Ak (.inr ha))⟩
 ·obtain⟨l,hl,rfl⟩:=Aey.1 ha;exact ac _ _ (h.bd l hl)
 ·obtain⟨m,b,rfl,hm⟩:=h.atoms ha;exact ab _ _ hm
 ·obtain⟨l,hl,rfl⟩:=Aey.1 ha;exact ab _ _ (h.bd l hl)
theorem RuO.ru {N:List Tx}{ar:Tx->Nat}{r:D8}(h:RuO N ar r)(hs:Fa (Ck N r)=true):RuI N ar (Ck N r):=by
 have ab:∀m b,AtO N ar m->AtI N ar (Lp N b m):=fun m b hm=>⟨(hm.at b).1,(hm.at b).2.2.1,by simpa[Lp]using hm.le3⟩;have aa:∀m b,AtO N ar m->∀t∈(Lp N b m).terms,VT t/\DT t:=fun m b hm t ht=>⟨Qf ((hm.at b).2.2.2.2 t ht),((hm.at b).2.2.2.2 t ht).1⟩;have ac:∀a∈Ae (Ck N r),VA a:=fun a ha t ht=>by
  obtain⟨m,b,rfl,hm⟩:=h.atoms ha;exact (aa m b hm t ht).1
 refine⟨ab _ _ h.hd,rfl,fun a ha=>?_,aa _ _ h.hd,fun a ha=>?_,fun v hm hv=>?_⟩
 ·obtain⟨l,hl,rfl⟩:=Aey.1 ha;exact ab _ _ (h.bd l hl)
 ·obtain⟨l,hl,rfl⟩:=Aey.1 ha;exact aa _ _ (h.bd l hl)
 ·obtain⟨b,hb,-,ad⟩:=S9 (by rw[Lv ac];exact hs) (fun a ha=>by
   obtain⟨m,b,rfl,hm⟩:=h.atoms ha
   exact (hm.at b).2.2.2.2) (a:=(Ck N r).head) (Ak (.inl ⟨rfl,rfl⟩)) hm hv
  exact⟨b,hb,ad⟩
theorem Aal {N:List Tx}{ar:Tx->Nat}{l o:List RItem}(hR:RtL N ar l)(hU:GdI N ar o)(i:Nat)(hb:Cj N l (rpl i o l)=true):RtL N ar (rpl i o l):=by
 unfold Cj at hb;simp only[Adv,Agj]at hb;obtain⟨aa,-,hw⟩:=hb;have h5:=(Ub aa).2;have hm:∀y∈rpl i o l,y∈l\/∃r,y=Ck N r/\RuO N ar r/\r.body.length<=5:=fun y hy=>by
  rcases Dm hy with h|h
  ·exact .inl h
  ·exact .inr (hU y h (h5 y hy))
 refine⟨Aam hR hU i aa,h5,fun y hy ho=>?_,fun y hy=>?_,fun y hy=>?_⟩
 ·rcases hm y hy with h|⟨r,rfl,hr,hb⟩
  ·exact hR.ru y h ho
  ·exact hr.ru (My hw hy)
 ·rcases hm y hy with h|⟨r,rfl,hr,hb⟩
  ·exact hR.wi y h
  ·exact hr.wi hb
 ·rcases hm y hy with h|⟨r,rfl,hr,hb⟩
  ·exact hR.wit y h
  ·exact hr.wit hb
def Py (N:List Tx)(U:Nat->Nat->Bool)(l:List RItem)(i k:Nat):Bool:=match l[i]? with
 |some x=>(match x.body[k]? with
  |some a=>!a.nt&&(!U (N.idxOf a.pred) (N.idxOf a.pred)&&(B8 N l (N.idxOf a.pred)&&Cj N l (rpl i (uL N l x k a.pred) l)))
  |none=>false)
 |none=>false
def pA (N:List Tx)(U:Nat->Nat->Bool)(l:List RItem)(n:Nat):Prop:=∀i y,i<n->l[i]?=some y->∀k,k<y.body.length->Py N U l i k=false
def chU (N:List Tx)(l:List RItem)(idn:Nat)(x:AV)(b:Bool):Prop:=∃M,C8 N l M/\
 ((b=false/\pA N (Ea N.length M N.length) l l.length)\/(b=true/\∃i k y a,l[i]?=some y/\y.out=false/\y.body[k]?=some a/\Py N (Ea N.length M N.length) l i k=true/\pA N (Ea N.length M N.length) l i/\(∀k',k'<k->Py N (Ea N.length M N.length) l i k'=false)/\∃id c',x=B9 N idn (rpl i (uL N l y k a.pred) l) id c'/\EL (PI N) (rpl i (uL N l y k a.pred) l) c'))
theorem wJ {N:List Tx}(x:RItem)(c:List AV)(h:PJ N x c):Itm c:=by
 rcases h with⟨h,-⟩|⟨-,-,o,p,ih,n1,tc,ib,b,rfl⟩
 ·exact gB h
 ·exact⟨_,_,_,_,_,_,_,_,rfl⟩
theorem N6 (N:List Tx)(ar:Tx->Nat)(l:List RItem)(cs:List AV)(idn idi:Nat)(hR:RtL N ar l)(hE:EL (PI N) l cs)(u:St):
  ACalls Tryz.prog 127 [B9 N idn l idi cs] u fun r u'=>(∃x b,r=tp [x,sc (.bool b)]/\chU N l idn x b/\fY x)/\Keep u u':=by
 have hG:=hR.gl;have cw:=EL.length D2 hE;have ba:=hG.len;have hN:=hG.nm;have b6:=fun u=>M9 N l cs idn idi ((hG.bkm hE).bk ba) u;have cm:Agt (EL (PJ N) l cs):=Ny hE fun x hx c hc=>.inl ⟨hc,hG.msr x hx⟩;have HB:Agt (BkM N l cs):=hG.bkm hE;have HR:Agt (RtL N ar l):=hR;clear hG hR;refine Z9 71 [.cell 2 62,.tmp 3] Tryz.func127 ?_
 repeat' (first|refine Z1 ?_|(refine Z8 ?_;intro κ hκ)|(refine Z4 ?_;clear hκ κ)|(refine Z2 ?_ ?_<;>intro h aa<;>try exact Xp)|(refine Z5 ?_;refine Xi (b6 _) ?_;rintro _ _ ⟨idu,B,M0,rfl,bf,cj,cz,bu,ca⟩;(have bo:=bf.nobj;have ai:=bf.obj;(try simp only[Aa,Ab]at bo ai cj)))|refine Z3 ?_|exact⟨⟩|(apply hκ.out;clear hκ κ))
 rename_i u1;have obk:u1.obj u.nobj=[sl idn N.length (N.map str),sl idi l.length cs]:=by rw[ai _ Agm,Af Agq,Ap]
 have obr:u1.obj (u.nobj+1)=[nilS,nilS]:=by rw[ai _ Agm];first|exact Ap|simp[Ap]
 have ce:Agt (C8 N l M0):=ca;generalize b8:Ea N.length M0 N.length=U at bu;have HU:Agt _:=b8;have b9:Keep u u1:=(((Keep.refl u).new _).new _).trans bf;clear ca b8 bf ai b6
 refine Ag (fun m s u'=>∃(i:Nat),m=l.length-i/\i<=l.length/\s 1=ptr u.nobj 0/\s 2=ptr (u.nobj+1) 0/\s 4=sl idu N.length (E0 B N.length N.length)/\s 17=sl idi l.length cs/\s 18=sc (.int .i64 l.length)/\s 19=sc (.int .i64 i)/\Keep u u'/\u1.nobj<=u'.nobj/\u'.obj u.nobj=[sl idn N.length (N.map str),sl idi l.length cs]/\u'.obj (u.nobj+1)=[nilS,nilS]/\Agt (Mat B N.length U u')/\Agt (pA N U l i)) l.length
  ⟨0,Agm,Agm,Ago,Ago,Ago,Ago,Ago,rfl,b9,Agm,obk,obr,bu,fun i y h=>Agm⟩ ?_
 clear b9 obk obr bu;rintro m s u' ⟨i,rfl,hi,h1,h2,h4,cd,cc,cb,hK,hno,bi,bh,hM,hA⟩;have cp:=hK.nobj;by_cases b2:i<l.length
 ·have ak:=List.getElem?_eq_getElem b2;have a4:=Afa b2;have b4:=HR.out.gl.fits l[i] a4;have b0:=HR.out.gl.msr l[i] a4;obtain⟨b1,ih,idb,b,r,be,hd⟩:=G8 hE ak;generalize l[i]=x at hd ak b1 be a4 b4 b0;have cy:=b4.1;have cx:=EL.length Dp be;have HG:Agt (l[i]?=some x):=ak;clear ak
  repeat' (first|refine Z1 ?_|(refine Z8 ?_;intro κ hκ)|(refine Z4 ?_;clear hκ κ)|(refine Z2 ?_ ?_<;>intro h aa<;>try exact Xp)|refine Z3 ?_|exact⟨⟩|(apply hκ.out;clear hκ κ))
  refine Ag (fun m s u2=>∃(k:Nat),m=x.body.length-k/\k<=x.body.length/\s 1=ptr u.nobj 0/\s 2=ptr (u.nobj+1) 0/\s 4=sl idu N.length (E0 B N.length N.length)/\s 5=sc (.int .i64 i)/\s 6=ptr u'.nobj 0/\s 17=sl idi l.length cs/\s 18=sc (.int .i64 l.length)/\s 19=sc (.int .i64 i)/\s 25=sl idb x.body.length b/\s 26=sc (.int .i64 x.body.length)/\s 27=sc (.int .i64 k)/\Keep u u2/\u'.nobj<u2.nobj/\u2.obj u.nobj=[sl idn N.length (N.map str),sl idi l.length cs]/\u2.obj (u.nobj+1)=[nilS,nilS]/\u2.obj u'.nobj=[sc (.bool x.out),sc (.int .i64 (N.idxOf x.head.pred:Nat)),sl ih x.head.terms.length (Ay x.head.terms),sl idb x.body.length b]/\Agt (Mat B N.length U u2)/\Agt (∀k',k'<k->Py N U l i k'=false)) x.body.length
   ⟨0,Agm,Agm,Agn,Agn,Agn,Agn,Agn,Agn,Agn,Agn,Ago,Ago,Ago,Xs,Ags,by rw[Ai Agm,Af Agm,bi],by rw[Ai Agm,Af Agm,bh],by rw[Aj],Mat.put (Mat.new hM.out Agm _) Agm _,fun k' h=>Agm⟩ ?_
  clear h1 h2 h4 cd cc cb hK bi bh hM;rintro m s u2 ⟨k,rfl,hk,h1,h2,h4,h5,h6,cd,cc,cb,c8,c7,c5,hK,ch,bi,bh,cf,hM,bb⟩;have cg:=hK.nobj;by_cases az:k<x.body.length
  ·have hxo:x.out=false:=by
    cases h:x.out with
    |false=>rfl
    |true=>rw[b0.out h]at az;cases az
   have an:=List.getElem?_eq_getElem az;obtain⟨b5,ia,ra,bd⟩:=Mx be an;generalize x.body[k]=a at an b5 bd;have ab:Py N U l i k=(!a.nt&&(!U (N.idxOf a.pred) (N.idxOf a.pred)&&(B8 N l (N.idxOf a.pred)&&Cj N l (rpl i (uL N l x k a.pred) l)))):=by unfold Py;rw[HG.out];dsimp only;rw[an]
   have am:Agt (Py N U l i k=false->∀k',k'<k+1->Py N U l i k'=false):=fun hf k' b3=>by
    rcases Adq k' k with h|h
    ·exact bb.out k' h
    ·rw[show k'=k by omega,hf]
   have hp:=Afd b5;have au:=fun u=>K5 N l cs idn idi (N.idxOf a.pred) hE Agm u
   have ao:=fun c (hc:PI N x c) u=>(Q0 N ar l cs idn idi HR.out hE x c k a a4 hxo hc an u).mono (R':=fun r u'=>(∃id c',r=sl id (uL N l x k a.pred).length c'/\EL (PJ N) (uL N l x k a.pred) c')/\Keep u u') (fun r u' h=>by
    obtain⟨⟨id,c',rfl,h1⟩,h2⟩:=h
    exact⟨⟨id,c',by simp[uL],Acl HR.out a4 hxo an h1⟩,h2⟩)
   have ap:(uL N l x k a.pred).length<=16:=Ado (Aa4 _ _ _ _ _) ba;have b7:(uL N l x k a.pred).length<=1000:=Agm;have a0:=fun co ido (h:EL (PJ N) (uL N l x k a.pred) co) u=>K3 (E:=PJ N) wJ N l (uL N l x k a.pred) cs co idn idi ido i cm.out h Agm b7 u;have af:=fun c' id' (h:EL (PJ N) (rpl i (uL N l x k a.pred) l) c') u=>G3 N l (rpl i (uL N l x k a.pred) l) cs c' idn idi id' HB.out (Aan HR.out (Aae HR.out a4 hxo an) ap i h) u;have ah:Agt (∀c',Cj N l (rpl i (uL N l x k a.pred) l)=true->EL (PJ N) (rpl i (uL N l x k a.pred) l) c'->EL (PI N) (rpl i (uL N l x k a.pred) l) c'):=fun c' hb h=>by
    unfold Cj at hb;simp only[Adv]at hb;exact Ny h fun y hy c hc=>(hc.pi ((Ub hb.1).2 y hy)).1
   have HC:Agt (∀id c' x',Py N U l i k=true->x'=B9 N idn (rpl i (uL N l x k a.pred) l) id c'->EL (PI N) (rpl i (uL N l x k a.pred) l) c'->chU N l idn x' true):=fun id c' x' ho bp bq=>⟨M0,ce.out,by
    rw[HU.out]
    exact .inr ⟨rfl,i,k,x,a,HG.out,hxo,an,ho,hA.out,bb.out,id,c',bp,bq⟩⟩
   have br:=PI.of (ih:=ih) (id:=idb) b1 be;rw[hxo]at cf br;have ck:Agt _:=br;clear br an bb;cases hnt:a.nt with
   |true=>
    have a3:Agt (∀k',k'<k+1->Py N U l i k'=false):=am.out (by rw[ab,hnt];rfl);rw[hnt]at bd;clear ab am au ao a0 af ah HC
    repeat' (first|refine Z1 ?_|(refine Z8 ?_;intro κ hκ)|(refine Z4 ?_;clear hκ κ)|(refine Z2 ?_ ?_<;>intro h aa<;>try exact Xp)|refine Z3 ?_|exact⟨⟩|(apply hκ.out;clear hκ κ))
    refine⟨x.body.length-(k+1),Agm,k+1,?_⟩
    ((repeat' with_reducible refine And.intro ?_ ?_)<;>first|exact Xq|exact (a3)|exact (by rw[hxo];assumption)|exact (Mat.put (Mat.new hM.out Agm _) Agm _)|exact Xs)
   |false=>
    rw[hnt]at bd ab;generalize N.idxOf a.pred=p at bd hp ab au;have ct:=Ho (B:=B) (n:=N.length) (k:=N.length) hp;have cr:=Hn B N.length N.length;have cu:=hM.out _ hp;have cq:=D7 N.length (U p);have bz:=F3 (U p) hp;have aj:∀cs',(u2.new cs').obj (B+p)=u2.obj (B+p):=fun cs'=>Af Agm;cases hu:U p p with
    |true=>
     have a3:Agt (∀k',k'<k+1->Py N U l i k'=false):=am.out (by rw[ab,hu];rfl);rw[hu]at bz;clear ab am au ao a0 af ah HC aj hu
     repeat' (first|refine Z1 ?_|(refine Z8 ?_;intro κ hκ)|(refine Z4 ?_;clear hκ κ)|(refine Z2 ?_ ?_<;>intro h aa<;>try exact Xp)|refine Z3 ?_|exact⟨⟩|(apply hκ.out;clear hκ κ))
     refine⟨x.body.length-(k+1),Agm,k+1,?_⟩
     ((repeat' with_reducible refine And.intro ?_ ?_)<;>first|exact Xq|exact (a3)|exact (by rw[hxo];assumption)|exact (Mat.put (Mat.new hM.out Agm _) Agm _)|exact Xs)
    |false=>
     rw[hu]at bz ab;cases a5:B8 N l p with
     |false=>
      have a3:Agt (∀k',k'<k+1->Py N U l i k'=false):=am.out (by rw[ab,a5];rfl);rw[a5]at au;clear ab am ao a0 af ah HC aj hu a5
      repeat' (first|refine Z1 ?_|(refine Z8 ?_;intro κ hκ)|(refine Z4 ?_;clear hκ κ)|(refine Z2 ?_ ?_<;>intro h aa<;>try exact Xp)|(refine Z5 ?_;refine Xi (au _) ?_;rintro _ _ ⟨rfl,ae⟩;(have ad:=ae.nobj;have ac:=ae.obj;(try simp only[Ab,Aa]at ad ac)))|refine Z3 ?_|exact⟨⟩|(apply hκ.out;clear hκ κ))
      refine⟨x.body.length-(k+1),Agm,k+1,?_⟩
      ((repeat' with_reducible refine And.intro ?_ ?_)<;>first|exact Xq|exact (a3)|exact (by rw[hxo];assumption)|exact (Mat.keep (Mat.put (Mat.new hM.out Agm _) Agm _) ae Ags)|exact Xs)
     |true=>
      rw[a5]at au ab;simp only[Bool.not_false,Ae1]at ab;rw[<-ab]at af ah;clear ap;generalize uL N l x k a.pred=V at ao a0 af ah HC b7;generalize rpl i V l=W at a0 af ah HC;have ao:=fun u=>ao _ ck.out u;cases a6:Py N U l i k with
      |true=>
       rw[a6]at af ah;have cn:Agt (∀id c' x',x'=B9 N idn W id c'->EL (PJ N) W c'->chU N l idn x' true):=fun id c' x' bp bq=>HC.out id c' x' a6 bp (ah.out c' rfl bq);clear ab am ah HC aj hu a5 a6 hA
       repeat' (first|refine Z1 ?_|(refine Z8 ?_;intro κ hκ)|(refine Z4 ?_;clear hκ κ)|(refine Z2 ?_ ?_<;>intro h aa<;>try exact Xp)|(refine Z5 ?_;first|(refine Xi (au _) ?_;rintro _ _ ⟨rfl,ae⟩;(have ad:=ae.nobj;have ac:=ae.obj;(try simp only[Ab,Aa]at ad ac)))|(refine Xi (ao _) ?_;rintro _ _ ⟨⟨id4,c4,rfl,bv⟩,a9⟩;(have ay:=a9.nobj;have aw:=a9.obj;(try simp only[Ab,Aa]at ay aw)))|(refine Xi (a0 _ _ bv _) ?_;rintro _ _ ⟨⟨id6,c6,rfl,bg⟩,a8⟩;(have ax:=a8.nobj;have av:=a8.obj;(try simp only[Ab,Aa,Ah]at ax av)))|(refine Xi (af c6 id6 bg _) ?_;rintro _ _ ⟨⟨x7,rfl,bw,⟨id71,n71,c71,id72,n72,c72,rfl⟩⟩,a7⟩;(have bn:=a7.nobj;have bm:=a7.obj)))|refine Z3 ?_|exact⟨⟩|(apply hκ.out;clear hκ κ))
       exact⟨_,rfl,⟨_,true,rfl,cn.out _ _ _ (bw rfl) bg,_,_,_,_,_,_,rfl⟩,Xs⟩
      |false=>
       rw[a6]at af;have a3:Agt (∀k',k'<k+1->Py N U l i k'=false):=am.out a6;clear ab am ah HC aj hu a5 a6
       repeat' (first|refine Z1 ?_|(refine Z8 ?_;intro κ hκ)|(refine Z4 ?_;clear hκ κ)|(refine Z2 ?_ ?_<;>intro h aa<;>try exact Xp)|(refine Z5 ?_;first|(refine Xi (au _) ?_;rintro _ _ ⟨rfl,ae⟩;(have ad:=ae.nobj;have ac:=ae.obj;(try simp only[Ab,Aa]at ad ac)))|(refine Xi (ao _) ?_;rintro _ _ ⟨⟨id4,c4,rfl,bv⟩,a9⟩;(have ay:=a9.nobj;have aw:=a9.obj;(try simp only[Ab,Aa]at ay aw)))|(refine Xi (a0 _ _ bv _) ?_;rintro _ _ ⟨⟨id6,c6,rfl,bg⟩,a8⟩;(have ax:=a8.nobj;have av:=a8.obj;(try simp only[Ab,Aa,Ah]at ax av)))|(refine Xi (af c6 id6 bg _) ?_;rintro _ _ ⟨⟨x7,rfl,bw,⟨id71,n71,c71,id72,n72,c72,rfl⟩⟩,a7⟩;(have bn:=a7.nobj;have bm:=a7.obj)))|refine Z3 ?_|exact⟨⟩|(apply hκ.out;clear hκ κ))
       refine⟨x.body.length-(k+1),Agm,k+1,?_⟩
       ((repeat' with_reducible refine And.intro ?_ ?_)<;>first|exact Xq|exact (a3)|exact (by rw[hxo];assumption)|exact (Mat.put (Mat.new (Mat.keep (Mat.put (Mat.new hM.out Agm _) Agm _) (((ae.trans a9).trans a8).trans a7) Ags) Agm _) Agm _)|exact Xs)
  ·have cv:k=x.body.length:=Agm;have HA:Agt (pA N U l (i+1)):=fun j y hj hy k' b3=>by
    rcases Adq j i with h|h
    ·exact hA.out j y h hy k' b3
    ·have:j=i:=Agm;subst this;rw[HG.out]at hy;cases hy;exact bb.out k' Agm
   clear bb HG hA
   repeat' (first|refine Z1 ?_|(refine Z8 ?_;intro κ hκ)|(refine Z4 ?_;clear hκ κ)|(refine Z2 ?_ ?_<;>intro h aa<;>try exact Xp)|refine Z3 ?_|exact⟨⟩|(apply hκ.out;clear hκ κ))
   refine⟨l.length-(i+1),Agm,i+1,?_⟩
   ((repeat' with_reducible refine And.intro ?_ ?_)<;>first|exact Xq|exact (HA)|exact Xs)
 ·have ci:i=l.length:=Agm;subst ci;have HC:Agt (∀x,chU N l idn x false):=fun x=>⟨M0,ce.out,by rw[HU.out];exact .inl ⟨rfl,hA.out⟩⟩;clear hA
  repeat' (first|refine Z1 ?_|(refine Z8 ?_;intro κ hκ)|(refine Z4 ?_;clear hκ κ)|(refine Z2 ?_ ?_<;>intro h aa<;>try exact Xp)|refine Z3 ?_|exact⟨⟩|(apply hκ.out;clear hκ κ))
  exact⟨_,rfl,⟨_,false,rfl,HC.out _,_,_,_,_,_,_,rfl⟩,Xs⟩
end Go.Proofs.YtmoeoppbmhfbpabGreatDoorG
