import Derived.Test.YtmoeoppbmhfbpabGreatDoorHEngJ
set_option linter.all false
namespace Go.Proofs.YtmoeoppbmhfbpabGreatDoorH
set_option maxHeartbeats 32000000
open Go.Abs
set_option maxRecDepth 100000
inductive NarS (q:Qry):Qry->Prop where
 |refl:NarS q q
 |tail {q':Qry} (v:Int):NarS q q'->NarS q (Ew q' v)
theorem O0 (l:List Part)(v:Int)(p:Part):(Fg l v p).a=p.a:=by unfold Fg;split<;>rfl
theorem Nm (l:List Part)(v:Int)(p:Part):∀t∈(Fg l v p).tups,t∈p.tups:=by
 unfold Fg;split
 ·intro t ht;exact (Adi.1 ht).1
 ·exact fun t ht=>ht
theorem cF (l:List Part)(v:Int)(p:Part):(Fg l v p).tups.length<=p.tups.length:=by
 unfold Fg;split
 ·exact Adj _ _
 ·exact Abb _
theorem rK {q:Qry}{v:Int}(h:Ms q):Ms (Ew q v):=by
 have hm:∀p∈(Ew q v).parts,∃p0∈q.parts,Fg q.parts v p0=p:=fun p hp=>Acm.1 hp;refine⟨h.hd,by simp[Ew];exact h.pl,h.nl,fun p hp=>?_,fun p hp=>?_,fun p hp=>?_,h.na⟩
 ·obtain⟨p0,h0,rfl⟩:=hm p hp;rw[O0];exact h.pa p0 h0
 ·obtain⟨p0,h0,rfl⟩:=hm p hp;exact Abc (cF _ _ _) (h.pt p0 h0)
 ·obtain⟨p0,h0,rfl⟩:=hm p hp;exact fun t ht=>h.p3 p0 h0 t (Nm _ _ _ t ht)
theorem vN {q:Qry}{v:Int}(h:QN q):QN (Ew q v):=fun p hp t ht=>by
 obtain⟨p0,h0,rfl⟩:=Acm.1 hp;rw[O0];exact h p0 h0 t (Nm _ _ _ t ht)
theorem NarS.ok {q q':Qry}(h:NarS q q')(hq:Ms q):Ms q':=by
 induction h with
 |refl=>exact hq
 |tail v _ ih=>exact rK ih
theorem NarS.n {q q':Qry}(h:NarS q q')(hq:QN q):QN q':=by
 induction h with
 |refl=>exact hq
 |tail v _ ih=>exact vN ih
def Oq (q:Qry)(v:Int):Qry:=if 1<C0 (q.parts.map (·.a)) v then Ew q v else q
def eJ (q:Qry)(vs:List Int):Qry:=vs.foldl Oq q
theorem aQ {q:Qry}(h:Ms q):Ck q.parts<=320000:=by
 have h1:=h.pl;have h2:=h.pt;have:∀l:List Part,(∀p∈l,p.tups.length<=5000)->Ck l<=l.length*5000:=by
  intro l;induction l with
  |nil=>intro _;simp[Ck]
  |cons a l ih=>
   intro h;have h3:=h a (by simp);have h4:=ih (fun p hp=>h p (by simp[hp]));simp only[Ck,Abx,List.sum_cons,Aca]at*
   omega
 have h5:=this q.parts h2;omega
theorem nS (q:Qry)(c:List AV)(hc:EQ q c)(hq:Ms q)(hN:QN q)(y:St):ACalls Tryz.prog 220 [ag c] y fun r y'=>(∃c' q' qp,r=ag c'/\EQ q' c'/\NarS q qp/\NarS q q'/\q'=eJ qp (Cb (atomsQ qp))/\Ck qp.parts<=Ck q'.parts)/\Keep y y':=by
 have hS:=fun y=>Ta q c hc hq y;have bc:=aQ hq;have HC:Ad8 (EQ q c):=hc;obtain⟨ih0,ip0,in0,pc0,nc0,rfl,-,-⟩:=hc;refine Z9 32 [.cell 2 191] Tryz.func220 ?_
 repeat' (first|refine Z1 ?_|(refine Z8 ?_;intro κ hκ)|(refine Z4 ?_;clear hκ κ)|(refine Z2 ?_ ?_<;>intro h ae<;>try exact Xp)|(refine Z5 ?_;refine Xi (hS _) ?_;rintro _ _ ⟨rfl,ad⟩;(have ac:=ad.nobj;have aa:=ad.obj;have ab:=(((Keep.refl y).new _).new _).trans ad;simp only[Aa]at ac aa))|refine Z3 ?_|exact⟨⟩|(apply hκ.out;clear hκ κ))
 rename_i y1;have o0:y1.obj y.nobj=[ic q.head.p,sl ih0 q.head.ts.length (Ac q.head.ts),sl ip0 q.parts.length pc0,sl in0 q.nots.length nc0]:=by rw[aa _ Ad2,Ae Ad6,Am]
 have o1:y1.obj (y.nobj+1)=[ic 0,nilS,nilS,nilS]:=by rw[aa _ Ad2,Bp Ad6 Ad6]
 clear aa ad
 refine Ad (fun m s y'=>∃(qk:Qry) (ck:List AV),s 1=ptr y.nobj 0/\s 2=ptr (y.nobj+1) 0/\s 3=ic m/\m<=320001/\Keep y y'/\y.nobj+1<y'.nobj/\y'.obj y.nobj=ck/\y'.obj (y.nobj+1)=[ic 0,nilS,nilS,nilS]/\Ad8 (EQ qk ck/\NarS q qk/\(Ck qk.parts<m\/∃qp,NarS q qp/\qk=eJ qp (Cb (atomsQ qp))/\Ck qp.parts=m))) (Ck q.parts+1)
  ⟨q,_,Ad4,Ad4,Ad4,Ad2,ab,Ad2,o0,o1,HC.out,.refl,.inl Ad2⟩ ?_
 clear o0 o1 ab ac hS bc HC;rintro m s y' ⟨qk,ck,h1,h2,h3,hm,hK,bd,aw,av,hQ⟩;have bw:=hK.nobj;have ah:=hQ.out.2.1.ok hq;have be:=hQ.out.2.1.n hN;have hS:=fun y=>Ta qk ck hQ.out.1 ah y;have bf:=fun y=>H9 qk ck hQ.out.1 ah y;have bc:=aQ ah;obtain⟨ihk,ipk,ink,pck,nck,rfl,-,-⟩:=hQ.out.1;have ba:=Kw ah;have b0:=Hv ah;have a6:=fun (cs:List AV) (i:Nat) (hE:EL Lk (atomsQ qk) cs) (y:St)=>F6 (atomsQ qk) cs i hE ba Ad2 y;have bl:=Eh ba;have b4:Ad8 (Ms qk/\QN qk):=⟨ah,be⟩;by_cases bn:Ck qk.parts<m
 ·generalize bb:Cb (atomsQ qk)=vs at a6 bl;have bu:Ad8 _:=bb;clear bb ba be ah;generalize a3:Ck qk.parts=sz at*
  have bv:Ad8 _:=a3;clear a3
  repeat' (first|refine Z1 ?_|(refine Z8 ?_;intro κ hκ)|(refine Z4 ?_;clear hκ κ)|(refine Z2 ?_ ?_<;>intro h ae<;>try exact Xp)|(refine Z5 ?_;first|(refine Xi (hS _) ?_;rintro _ _ ⟨rfl,ad⟩;(have ac:=ad.nobj;have aa:=ad.obj;have ab:=hK.trans ad;clear hK ad;have hK:=ab;clear ab))|(refine Xi (bf _) ?_;rintro _ _ ⟨ida,cs,rfl,hE,au⟩;(have a0:=au.nobj;have an:=au.obj;have ab:=hK.trans au;clear au hK;have hK:=ab;clear ab;have ao:=a6 cs ida hE))|(refine Xi (ao _) ?_;rintro _ _ ⟨⟨idv,rfl⟩,ar⟩;(have az:=ar.nobj;have am:=ar.obj;have ab:=hK.trans ar;clear ar hK;have hK:=ab;clear ab)))|refine Z3 ?_|exact⟨⟩|(apply hκ.out;clear hκ κ))
  rename_i ya kno2a kob2a yb yc yd;have bz:=Bn vs;have ech:∀p,p<y'.nobj->yd.obj p=y'.obj p:=fun p hp=>by rw[am _ Ad2,an _ Ad2,aa _ Ad2,kob2a _ Ad2]
  refine Ad (fun m' s y2=>∃(j:Nat) (qj:Qry) (cj:List AV),m'=vs.length-j/\j<=vs.length/\s 1=ptr y.nobj 0/\s 2=ptr (y.nobj+1) 0/\s 3=ic sz/\s 17=sl idv vs.length (Ar vs)/\s 18=ic vs.length/\s 19=ic j/\Keep y y2/\y.nobj+1<y2.nobj/\y2.obj y.nobj=cj/\y2.obj (y.nobj+1)=[ic 0,nilS,nilS,nilS]/\Ad8 (EQ qj cj/\NarS q qj/\qj=eJ qk (vs.take j))) vs.length
   ⟨0,qk,_,Ad2,Ad2,Ad3,Ad3,Ad3,Ad4,Ad4,rfl,hK,Ad2,rfl,by rw[ech _ Ad2,av],by rw[ech _ Ad2,aw];exact hQ.out.1,hQ.out.2.1,by simp[eJ]⟩ ?_
  clear ech am an aa kob2a hK aw av h1 h2 h3 bd hS bf a6 ao hE az a0 ac kno2a;rintro m' s y2 ⟨j,qj,cj,rfl,hj,h1,h2,h3,b3,b2,b1,hK,bd,aw,av,hJ⟩;have ac:=hK.nobj;have a4:=hJ.out.2.1.ok hq;have bm:=hJ.out.2.1.n hN;have ak:=fun v y=>Jv qj cj v hJ.out.1 a4 y;have a7:=fun v y=>dG qj cj v hJ.out.1 a4 bm y;have ap:∀v,C0 (qj.parts.map (·.a)) v<=64:=fun v=>by
   have h1:=kV (qj.parts.map (·.a)) v;have h2:=a4.pl;simp at h1;omega
  have bg:Ad8 (EQ qj cj):=hJ.out.1;obtain⟨ihj,ipj,inj,pcj,ncj,rfl,-,-⟩:=hJ.out.1;by_cases a5:j<vs.length
  ·have af:=List.getElem?_eq_getElem a5;obtain⟨r,hd⟩:=C8 af;generalize vs[j]=v at hd af;have HR:Ad8 (eJ qk (vs.take (j+1))=Oq qj v):=by
    rw[Ad8,Abq,af,Ac2,eJ,Adh,hJ.out.2.2];rfl
   clear af;have ak:=ak v;have a7:=a7 v;have ap:=ap v;by_cases aj:1<C0 (qj.parts.map (·.a)) v
   ·have HR:Ad8 (eJ qk (vs.take (j+1))=Ew qj v):=by rw[Ad8,HR.out,Oq,if_pos aj]
    generalize C0 (qj.parts.map (·.a)) v=cn at ak aj ap;have hb:decide ((cn:Int)>1)=true:=by simp;omega
    clear aj
    repeat' (first|refine Z1 ?_|(refine Z8 ?_;intro κ hκ)|(refine Z4 ?_;clear hκ κ)|(refine Z2 ?_ ?_<;>intro h ae<;>try exact Xp)|(refine Z5 ?_;first|(refine Xi (ak _) ?_;rintro _ _ ⟨rfl,ai⟩;(have ay:=ai.nobj;have ax:=ai.obj;have ab:=hK.trans ai))|(refine Xi (a7 _) ?_;rintro _ _ ⟨⟨_,rfl,ih6,ip6,in6,pc6,nc6,rfl,bp,bq⟩,a8⟩;(have bi:=a8.nobj;have bh:=a8.obj;have br:=ab.trans a8)))|refine Z3 ?_|exact⟨⟩|(apply hκ.out;clear hκ κ))
    refine⟨vs.length-(j+1),Ad2,j+1,Ew qj v,[ic (Ew qj v).head.p,sl ih6 (Ew qj v).head.ts.length (Ac (Ew qj v).head.ts),sl ip6 (Ew qj v).parts.length pc6,sl in6 (Ew qj v).nots.length nc6],?_⟩
    ((repeat' with_reducible refine And.intro ?_ ?_)<;>first|exact Xq|exact (br.put Ad2 _)|exact (⟨⟨ih6,ip6,in6,pc6,nc6,rfl,bp,bq⟩,.tail v hJ.out.2.1,HR.out.symm⟩)|exact Xs)
   ·have HR:Ad8 (eJ qk (vs.take (j+1))=qj):=by rw[Ad8,HR.out,Oq,if_neg aj]
    generalize C0 (qj.parts.map (·.a)) v=cn at ak aj ap;have hb:decide ((cn:Int)>1)=false:=by simp;omega
    clear aj
    repeat' (first|refine Z1 ?_|(refine Z8 ?_;intro κ hκ)|(refine Z4 ?_;clear hκ κ)|(refine Z2 ?_ ?_<;>intro h ae<;>try exact Xp)|(refine Z5 ?_;refine Xi (ak _) ?_;rintro _ _ ⟨rfl,ai⟩;(have ay:=ai.nobj;have ax:=ai.obj;have ab:=hK.trans ai))|refine Z3 ?_|exact⟨⟩|(apply hκ.out;clear hκ κ))
    refine⟨vs.length-(j+1),Ad2,j+1,qj,[ic qj.head.p,sl ihj qj.head.ts.length (Ac qj.head.ts),sl ipj qj.parts.length pcj,sl inj qj.nots.length ncj],?_⟩
    ((repeat' with_reducible refine And.intro ?_ ?_)<;>first|exact Xq|exact (⟨bg.out,hJ.out.2.1,HR.out.symm⟩)|exact Xs)
  ·have bo:j=vs.length:=Ad2;subst bo;have a9:=hJ.out.2.2;rw[Abn]at a9
   have HF:Ad8 (EQ qj [ic qj.head.p,sl ihj qj.head.ts.length (Ac qj.head.ts),sl ipj qj.parts.length pcj,sl inj qj.nots.length ncj]/\NarS q qj/\(Ck qj.parts<sz\/∃qp,NarS q qp/\qj=eJ qp (Cb (atomsQ qp))/\Ck qp.parts=sz)):=
    ⟨bg.out,hJ.out.2.1,.inr ⟨qk,hQ.out.2.1,by rw[bu.out];exact a9,bv.out⟩⟩
   clear a9
   repeat' (first|refine Z1 ?_|(refine Z8 ?_;intro κ hκ)|(refine Z4 ?_;clear hκ κ)|(refine Z2 ?_ ?_<;>intro h ae<;>try exact Xp)|refine Z3 ?_|exact⟨⟩|(apply hκ.out;clear hκ κ))
   refine⟨sz,Ad2,qj,[ic qj.head.p,sl ihj qj.head.ts.length (Ac qj.head.ts),sl ipj qj.parts.length pcj,sl inj qj.nots.length ncj],?_⟩
   ((repeat' with_reducible refine And.intro ?_ ?_)<;>first|exact Xq|exact (HF)|exact Xs)
 ·have hR:∃qp,NarS q qp/\qk=eJ qp (Cb (atomsQ qp))/\Ck qp.parts<=Ck qk.parts:=by
   rcases hQ.out.2.2 with h|⟨qp,h1,h2,h3⟩
   ·exact absurd h bn
   ·exact⟨qp,h1,h2,Ad2⟩
  have HR:Ad8 _:=hR;clear hR;generalize a3:Ck qk.parts=sz at*
  repeat' (first|refine Z1 ?_|(refine Z8 ?_;intro κ hκ)|(refine Z4 ?_;clear hκ κ)|(refine Z2 ?_ ?_<;>intro h ae<;>try exact Xp)|(refine Z5 ?_;refine Xi (hS _) ?_;rintro _ _ ⟨rfl,ad⟩;(have ac:=ad.nobj;have aa:=ad.obj;have ab:=hK.trans ad))|refine Z3 ?_|exact⟨⟩|(apply hκ.out;clear hκ κ))
  obtain⟨qp,r1,r2,r3⟩:=HR.out;exact⟨_,rfl,⟨_,qk,qp,rfl,hQ.out.1,r1,hQ.out.2.1,r2,Ad2⟩,ab.put Ad2 _⟩
theorem S1:∀{l m:List Int},l.Nodup->(∀x∈l,x∈m)->l.length<=m.length
 |[],m,_,_=>by simp
 |a::l,m,hn,hs=>by
  have aa:=List.nodup_cons.1 hn;have ha:=hs a (by simp)
  have h1:=S1 (l:=l) (m:=m.erase a) aa.2 (fun x hx=>by
   have hne:x≠a:=fun e=>aa.1 (e ▸ hx)
   exact (List.mem_erase_of_ne hne).2 (hs x (by simp[hx])))
  rw[List.length_erase_of_mem ha]at h1;have:0<m.length:=List.length_pos_of_mem ha;simp only[Aca];omega
theorem Q5:∀(l:List Ca) (pl:Int) (acc:List Int),acc.Nodup->(l.foldl (lQ pl) acc).Nodup
 |[],pl,acc,h=>h
 |t::l,pl,acc,h=>by
  rw[Abm];apply Q5;unfold lQ;split
  ·exact h
  ·rename_i hc;rw[Adb];exact⟨h,by simp,fun a ha b hb=>by simp at hb;subst hb;rintro rfl;exact hc ha⟩
theorem Q6:∀(l:List Ca) (pl:Int) (acc:List Int) (n:Int),n∈l.foldl (lQ pl) acc↔n∈acc\/∃t∈l,Gy t pl=n
 |[],pl,acc,n=>by simp
 |t::l,pl,acc,n=>by
  rw[Abm,Q6];unfold lQ;by_cases hc:Gy t pl∈acc
  ·rw[if_pos hc];constructor
   ·rintro (h|⟨u,hu,e⟩)
    ·exact .inl h
    ·exact .inr ⟨u,by simp[hu],e⟩
   ·rintro (h|⟨u,hu,e⟩)
    ·exact .inl h
    ·rcases Ace.1 hu with rfl|hu
     ·exact .inl (e ▸ hc)
     ·exact .inr ⟨u,hu,e⟩
  ·rw[if_neg hc];constructor
   ·rintro (h|⟨u,hu,e⟩)
    ·rcases Ack.1 h with h|h
     ·exact .inl h
     ·simp at h;exact .inr ⟨t,by simp,h.symm⟩
    ·exact .inr ⟨u,by simp[hu],e⟩
   ·rintro (h|⟨u,hu,e⟩)
    ·exact .inl (Ack.2 (.inl h))
    ·rcases Ace.1 hu with rfl|hu
     ·exact .inl (Ack.2 (.inr (by simp[e])))
     ·exact .inr ⟨u,hu,e⟩
theorem Q7 {q:Qry}(hN:QN q)(v:Int):(Jx q v).length<=1026:=by
 have hr:((List.range 1026).map fun k:Nat=>(k:Int)).length=1026:=by simp
 rw[<-hr];unfold Jx;split
 ·rename_i p hp;have ab:=List.mem_of_find?_eq_some hp;have aa:Bc p.a.ts v=true:=by simpa using List.find?_some hp
  obtain⟨pl,hpl,ac⟩:=Iu aa;rw[ac];apply S1 (Q5 _ _ _ Adc);intro n hn;unfold Ui at hn;rw[Q6]at hn;rcases hn with h|⟨t,ht,e⟩
  ·cases h
  ·obtain⟨x,hx,ad⟩:=hN p ab t ht pl hpl;rw[Acm];exact⟨x,by simpa using ad,by rw[<-e];simp[Gy,hx]⟩
 ·simp
def QV (q:Qry):Prop:=∀a∈atomsQ q,∀v,(true,v)∈a.ts->0<=v
theorem Yo (q:Qry)(c:List AV)(hc:EQ q c)(hq:Ms q)(hN:QN q)(hV:QV q)(y:St):ACalls Tryz.prog 222 [ag c] y fun r y'=>(∃b,r=ic b/\((b= -1/\∀v∈Cb (atomsQ q),Cx q v=false)\/(b∈Cb (atomsQ q)/\Cx q b=true)))/\Keep y y':=by
 have a3:=fun y=>H9 q c hc hq y;have ah:=fun v y=>Nx q c v hc hq y;have av:=fun v y=>Jl q c v hc hq hN y;have ay:=fun v=>Q7 hN v;have a4:=Kw hq;have bh:=Hv hq;have a0:=fun (cs:List AV) (i:Nat) (hE:EL Lk (atomsQ q) cs) (y:St)=>F6 (atomsQ q) cs i hE a4 Ad2 y;have bc:=Eh a4;obtain⟨ih,ip,inn,pc,nc,rfl,-,-⟩:=hc;generalize Cb (atomsQ q)=vs at*
 have bd:=Bn vs;refine Z9 31 [.tmp 2] Tryz.func222 ?_
 repeat' (first|refine Z1 ?_|(refine Z8 ?_;intro κ hκ)|(refine Z4 ?_;clear hκ κ)|(refine Z2 ?_ ?_<;>intro h ad<;>try exact Xp)|(refine Z5 ?_;first|(refine Xi (a3 _) ?_;rintro _ _ ⟨ida,cs,rfl,hE,ao⟩;(have aj:=ao.nobj;have ab:=ao.obj;have hK:=((Keep.refl y).new _).trans ao;have ak:=a0 cs ida hE;simp only[Aa]at aj ab))|(refine Xi (ak _) ?_;rintro _ _ ⟨⟨idv,rfl⟩,an⟩;(have au:=an.nobj;have ai:=an.obj;have am:=hK.trans an;clear an hK;have hK:=am;clear am)))|refine Z3 ?_|exact⟨⟩|(apply hκ.out;clear hκ κ))
 rename_i ya yb;have o0:yb.obj y.nobj=[ic q.head.p,sl ih q.head.ts.length (Ac q.head.ts),sl ip q.parts.length pc,sl inn q.nots.length nc]:=by rw[ai _ Ad2,ab _ Ad2,Am]
 clear ab ai a3 a0 ak hE ao
 refine Ad (fun m s y'=>∃(j w:Nat) (b:Int),m=vs.length-j/\j<=vs.length/\s 1=ptr y.nobj 0/\s 3=ic b/\s 4=ic w/\s 10=sl idv vs.length (Ar vs)/\s 11=ic vs.length/\s 12=ic j/\Keep y y'/\y.nobj<y'.nobj/\y'.obj y.nobj=[ic q.head.p,sl ih q.head.ts.length (Ac q.head.ts),sl ip q.parts.length pc,sl inn q.nots.length nc]/\w<=1027/\Ad8 ((b= -1/\w=1027/\∀v∈vs.take j,Cx q v=false)\/(b∈vs/\Cx q b=true))) vs.length
  ⟨0,1027,-1,Ad2,Ad2,Ad4,Ad4,Ad4,Ad4,Ad4,rfl,hK,Ad2,o0,Ad2,.inl ⟨rfl,rfl,by simp⟩⟩ ?_
 clear hK o0 aj au;rintro m s y' ⟨j,w,b,rfl,hj,h1,h3,h4,bm,bl,bi,hK,bf,ba,hw,hB⟩;have bb:=hK.nobj;by_cases az:j<vs.length
 ·have aa:=List.getElem?_eq_getElem az;obtain⟨r,hd⟩:=C8 aa;have ac:=Acz az;generalize vs[j]=v at hd aa ac;have ah:=ah v;have av:=av v;have ay:=ay v
  have HM:Ad8 (v∈vs/\∀u∈vs.take (j+1),u∈vs.take j\/u=v):=⟨ac,fun u hu=>by
   rw[Abq,aa,Ac2]at hu;rcases Ack.1 hu with h|h
   ·exact .inl h
   ·simp at h;exact .inr h⟩
  clear aa ac;cases af:Cx q v with
  |false=>
   rw[af]at ah;have HB:Ad8 ((b= -1/\w=1027/\∀v∈vs.take (j+1),Cx q v=false)\/(b∈vs/\Cx q b=true)):=by
    rcases hB.out with⟨h1,h2,h3⟩|h
    ·refine .inl ⟨h1,h2,fun u hu=>?_⟩;rcases HM.out.2 u hu with h|rfl
     ·exact h3 u h
     ·exact af
    ·exact .inr h
   clear hB HM af
   repeat' (first|refine Z1 ?_|(refine Z8 ?_;intro κ hκ)|(refine Z4 ?_;clear hκ κ)|(refine Z2 ?_ ?_<;>intro h ad<;>try exact Xp)|(refine Z5 ?_;refine Xi (ah _) ?_;rintro _ _ ⟨rfl,ae⟩;(have ar:=ae.nobj;have ap:=ae.obj;have am:=hK.trans ae))|refine Z3 ?_|exact⟨⟩|(apply hκ.out;clear hκ κ))
   refine⟨vs.length-(j+1),Ad2,j+1,w,b,?_⟩
   ((repeat' with_reducible refine And.intro ?_ ?_)<;>first|exact Xq|exact (HB)|exact Xs)
  |true=>
   rw[af]at ah;have a9:Ad8 ((v= -1/\(Jx q v).length=1027/\∀v∈vs.take (j+1),Cx q v=false)\/(v∈vs/\Cx q v=true)):=.inr ⟨HM.out.1,af⟩;have a8:Ad8 (¬(Jx q v).length<w->(b= -1/\w=1027/\∀v∈vs.take (j+1),Cx q v=false)\/(b∈vs/\Cx q b=true)):=fun hn=>by
    rcases hB.out with⟨h1,h2,h3⟩|h
    ·omega
    ·exact .inr h
   clear hB HM af;generalize ax:Jx q v=vq at*
   have bn:Ad8 _:=ax;clear ax;have be:=Bn vq
   repeat' (first|refine Z1 ?_|(refine Z8 ?_;intro κ hκ)|(refine Z4 ?_;clear hκ κ)|(refine Z2 ?_ ?_<;>intro h ad<;>try exact Xp)|(refine Z5 ?_;first|(refine Xi (ah _) ?_;rintro _ _ ⟨rfl,ae⟩;(have ar:=ae.nobj;have ap:=ae.obj;have am:=hK.trans ae))|(refine Xi (av _) ?_;rintro _ _ ⟨⟨idq,rfl⟩,aw⟩;(have a6:=aw.nobj;have a5:=aw.obj;have bg:=am.trans aw)))|refine Z3 ?_|exact⟨⟩|(apply hκ.out;clear hκ κ))
   ·refine⟨vs.length-(j+1),Ad2,j+1,vq.length,v,?_⟩
    ((repeat' with_reducible refine And.intro ?_ ?_)<;>first|exact Xq|exact (a9)|exact Xs)
   ·refine⟨vs.length-(j+1),Ad2,j+1,w,b,?_⟩
    ((repeat' with_reducible refine And.intro ?_ ?_)<;>first|exact Xq|exact (a8.out Ad2)|exact Xs)
 ·have a7:j=vs.length:=Ad2;subst a7;rw[Abn]at hB;have HB:Ad8 ((b= -1/\∀v∈vs,Cx q v=false)\/(b∈vs/\Cx q b=true)):=by
   rcases hB.out with⟨h1,-,h3⟩|h
   ·exact .inl ⟨h1,h3⟩
   ·exact .inr h
  repeat' (first|refine Z1 ?_|(refine Z8 ?_;intro κ hκ)|(refine Z4 ?_;clear hκ κ)|(refine Z2 ?_ ?_<;>intro h ad<;>try exact Xp)|refine Z3 ?_|exact⟨⟩|(apply hκ.out;clear hκ κ))
  first|exact⟨_,rfl,⟨b,rfl,HB.out⟩,hK⟩|exact⟨_,rfl,b,rfl,HB.out⟩
def El (l:List C3)(small big:List Int):Prop:=∀a∈l,small.any (Bc a.ts)=true->∀v,(true,v)∈a.ts->v∈big
def Grown (init V rs:List Int):Prop:=∃ad:List Int,rs=init++ad/\ad.Nodup/\∀v∈ad,v∈V
theorem Grown.le {init V rs:List Int}(h:Grown init V rs):rs.length<=init.length+V.length:=by
 obtain⟨ad,rfl,h1,h2⟩:=h;have:=S1 h1 h2;simp;omega
theorem Grown.snoc {init V rs:List Int}(h:Grown init V rs){v:Int}(hv:v∈V)(hn:v∉rs):Grown init V (rs++[v]):=by
 obtain⟨ad,rfl,h1,h2⟩:=h;refine⟨ad++[v],by simp,?_,?_⟩
 ·rw[Adb];exact⟨h1,by simp,fun a ha b hb=>by simp at hb;subst hb;rintro rfl;exact hn (Ack.2 (.inr ha))⟩
 ·intro u hu;rcases Ack.1 hu with h|h
  ·exact h2 u h
  ·simp at h;subst h;exact hv
theorem Uw (q:Qry)(c:List AV)(init:List Int)(idi:Nat)(hc:EQ q c)(hq:Ms q)(cf:init.length<=200)(y:St):ACalls Tryz.prog 224 [ag c,sl idi init.length (Ar init)] y fun r y'=>(∃id rs,r=sl id rs.length (Ar rs)/\Grown init (Cb (atomsQ q)) rs/\El (atomsQ q) rs rs)/\Keep y y':=by
 have b6:=fun y=>H9 q c hc hq y;have bh:=Kw hq;have cm:=Hv hq;have cj:=Eh bh;have b4:∀a∈atomsQ q,∀v,(true,v)∈a.ts->v∈Cb (atomsQ q):=fun a ha v hv=>(Cv _ _).2 ⟨a,ha,hv⟩;obtain⟨ih,ip,inn,pc,nc,rfl,-,-⟩:=hc;generalize Cb (atomsQ q)=V at*
 generalize atomsQ q=l at*
 have cg:=Bn init;refine Z9 66 [.tmp 4] Tryz.func224 ?_
 repeat' (first|refine Z1 ?_|(refine Z8 ?_;intro κ hκ)|(refine Z4 ?_;clear hκ κ)|(refine Z2 ?_ ?_<;>intro h ad<;>try exact Xp)|(refine Z6 ?_;intro idn yn ai aj af ab ae aa)|refine Z3 ?_|exact⟨⟩|(apply hκ.out;clear hκ κ))
 refine Ad (fun m s y'=>∃(j i3:Nat) (rs:List Int),m=init.length-j/\j<=init.length/\s 2=ptr y.nobj 0/\s 5=sl i3 rs.length (Ar rs)/\s 14=sl idi init.length (Ar init)/\s 15=ic init.length/\s 16=ic j/\Keep y y'/\y.nobj<y'.nobj/\y'.obj y.nobj=[ic q.head.p,sl ih q.head.ts.length (Ac q.head.ts),sl ip q.parts.length pc,sl inn q.nots.length nc]/\Own y y' i3 rs.length/\rs.length<=j/\Ad8 (rs=init.take j)) init.length
  ⟨0,1,[],Ad2,Ad2,Ad4,by simp[upd,Ar],by simp[upd,initS],Ad4,rfl,Xs,Ad6,by rw[Am],Own.nil _ _,by simp,by simp[Ad8]⟩ ?_
 rintro m s y' ⟨j,i3,rs,rfl,hj,h2,h5,b9,b8,b7,hK,ax,am,hO,bd,hR⟩;have az:=hK.nobj;by_cases a8:j<init.length
 ·have ac:=List.getElem?_eq_getElem a8;obtain⟨r,hd⟩:=C8 ac;generalize init[j]=v at hd ac;have HR:Ad8 (rs++[v]=init.take (j+1)):=by rw[Ad8,Abq,ac,Ac2,hR.out]
  have bw:=Bn rs;clear ac hR
  repeat' (first|refine Z1 ?_|(refine Z8 ?_;intro κ hκ)|(refine Z4 ?_;clear hκ κ)|(refine Z2 ?_ ?_<;>intro h ad<;>try exact Xp)|(refine Z6 ?_;intro idn yn ai aj af ab ae aa)|refine Z3 ?_|exact⟨⟩|(apply hκ.out;clear hκ κ))
  refine⟨init.length-(j+1),Ad2,j+1,idn,rs++[v],?_⟩
  ((repeat' with_reducible refine And.intro ?_ ?_)<;>first|exact Xq|exact (by simpa using ai)|exact (HR)|exact (by simp[Ar])|exact Xs)
 ·have bb:j=init.length:=Ad2;subst bb;rw[Abn]at hR;have hR:=hR.out.symm;subst hR;clear a8 hj
  repeat' (first|refine Z1 ?_|(refine Z8 ?_;intro κ hκ)|(refine Z4 ?_;clear hκ κ)|(refine Z2 ?_ ?_<;>intro h ad<;>try exact Xp)|(refine Z6 ?_;intro idn yn ai aj af ab ae aa)|refine Z3 ?_|exact⟨⟩|(apply hκ.out;clear hκ κ))
  refine Ad (fun m s y'=>∃(B i3:Nat) (Bi:Int) (rs:List Int),m=2*(init.length+V.length-rs.length)+(if Bi<(rs.length:Int)then 1 else 0)/\(Bi=B\/(Bi= -1/\B=0))/\s 2=ptr y.nobj 0/\s 5=sl i3 rs.length (Ar rs)/\s 8=ic Bi/\Keep y y'/\y.nobj<y'.nobj/\y'.obj y.nobj=[ic q.head.p,sl ih q.head.ts.length (Ac q.head.ts),sl ip q.parts.length pc,sl inn q.nots.length nc]/\Own y y' i3 rs.length/\rs.length<=init.length+V.length/\B<=rs.length/\Ad8 (Grown init V rs/\El l (rs.take B) rs)) (2*(init.length+V.length-init.length)+1)
   ⟨0,i3,-1,init,by rw[if_pos Ad2],.inr ⟨rfl,rfl⟩,Ad3,Ad3,Ad4,hK,ax,am,hO,Ad2,Ad2,⟨[],by simp,Adc,by simp⟩,fun a ha h=>by simp at h⟩ ?_
  clear hK ax am hO h2 h5 b9 b8 b7 az;rintro m s y' ⟨B,i3,Bi,rs,rfl,b5,h2,h5,h8,hK,ax,am,hO,bd,ck,hG⟩;have az:=hK.nobj;have bw:=Bn rs;by_cases a8:Bi<(rs.length:Int)
  ·rw[if_pos a8]
   repeat' (first|refine Z1 ?_|(refine Z8 ?_;intro κ hκ)|(refine Z4 ?_;clear hκ κ)|(refine Z2 ?_ ?_<;>intro h ad<;>try exact Xp)|(refine Z6 ?_;intro idn yn ai aj af ab ae aa)|(refine Z5 ?_;refine Xi (b6 _) ?_;rintro _ _ ⟨ida,cs,rfl,hE,a6⟩;(have ba:=a6.nobj;have a0:=a6.obj;have av:=hK.trans a6;have au:=Own.keep hO a6))|refine Z3 ?_|exact⟨⟩|(apply hκ.out;clear hκ κ))
   rename_i ya;have ci:=EL.length G4 hE
   refine Ad (fun m s y2=>∃(k i4:Nat) (ws:List Int),m=l.length-k/\k<=l.length/\s 2=ptr y.nobj 0/\s 5=sl i4 ws.length (Ar ws)/\s 8=ic rs.length/\s 32=sl ida l.length cs/\s 33=ic l.length/\s 34=ic k/\Keep y y2/\y.nobj<y2.nobj/\y2.obj y.nobj=[ic q.head.p,sl ih q.head.ts.length (Ac q.head.ts),sl ip q.parts.length pc,sl inn q.nots.length nc]/\Own y y2 i4 ws.length/\ws.length<=init.length+V.length/\rs.length<=ws.length/\Ad8 (Grown init V ws/\ws.take rs.length=rs/\El (l.take k) rs ws)) l.length
    ⟨0,i3,rs,Ad2,Ad2,Ad3,Ad3,Ad3,Ad4,Ad4,rfl,av,Ad2,by rw[a0 _ Ad2,am],au,bd,Ad2,hG.out.1,by simp,fun a ha=>by simp at ha⟩ ?_
   clear av au a0 hK hO am ax h2 h5 h8 az a6 ba;rintro m s y2 ⟨k,i4,ws,rfl,hk,h2,h5,h8,bm,bl,bi,hK,ax,am,hO,bo,bu,hW⟩;have az:=hK.nobj;have ca:=Bn ws;by_cases ay:k<l.length
   ·have ac:=List.getElem?_eq_getElem ay;obtain⟨ida2,r2,b2⟩:=Ib hE ac;have hb:=bh _ (Acz ay);have bf:=b4 _ (Acz ay);generalize l[k]=a at b2 ac hb bf;have HT:Ad8 (l.take (k+1)=l.take k++[a]):=by rw[Ad8,Abq,ac,Ac2]
    clear ac;have bp:ws.length<=100000:=Ad2;have b3:a.ts.length<=1000:=Ad2;have a7:=fun y=>Jm a.p ida2 a.ts ws i4 b3 bp y;have a3:∀v∈rs,v∈ws:=fun v hv=>by
     have:=hW.out.2.1;rw[<-this]at hv;exact List.mem_of_mem_take hv
    cases ap:ws.any (Bc a.ts)with
    |false=>
     have HW:Ad8 (Grown init V ws/\ws.take rs.length=rs/\El (l.take (k+1)) rs ws):=by
      refine⟨hW.out.1,hW.out.2.1,?_⟩;rw[HT.out];intro b hb h v hv;rcases Ack.1 hb with hb|hb
      ·exact hW.out.2.2 b hb h v hv
      ·simp at hb;subst hb;rw[Acb]at h;obtain⟨u,hu,he⟩:=h;rw[Acy]at ap;exact absurd he (ap u (a3 u hu))
     rw[ap]at a7;clear hW HT a3
     repeat' (first|refine Z1 ?_|(refine Z8 ?_;intro κ hκ)|(refine Z4 ?_;clear hκ κ)|(refine Z2 ?_ ?_<;>intro h ad<;>try exact Xp)|(refine Z6 ?_;intro idn yn ai aj af ab ae aa)|(refine Z5 ?_;refine Xi (a7 _) ?_;rintro _ _ ⟨rfl,ak⟩;(have ao:=ak.nobj;have ah:=ak.obj;have av:=((hK.new _).put hK.nobj _).trans ak;have au:=Own.keep (Own.put (Own.new hO _) _ _) ak;simp only[Ab,Aa]at ao ah))|refine Z3 ?_|exact⟨⟩|(apply hκ.out;clear hκ κ))
     refine⟨l.length-(k+1),Ad2,k+1,i4,ws,?_⟩
     ((repeat' with_reducible refine And.intro ?_ ?_)<;>first|exact Xq|exact (HW)|exact Xs)
    |true=>
     rw[ap]at a7;have ce:=Ce a.ts
     repeat' (first|refine Z1 ?_|(refine Z8 ?_;intro κ hκ)|(refine Z4 ?_;clear hκ κ)|(refine Z2 ?_ ?_<;>intro h ad<;>try exact Xp)|(refine Z6 ?_;intro idn yn ai aj af ab ae aa)|(refine Z5 ?_;refine Xi (a7 _) ?_;rintro _ _ ⟨rfl,ak⟩;(have ao:=ak.nobj;have ah:=ak.obj;have av:=((hK.new _).put hK.nobj _).trans ak;have au:=Own.keep (Own.put (Own.new hO _) _ _) ak;simp only[Ab,Aa]at ao ah))|refine Z3 ?_|exact⟨⟩|(apply hκ.out;clear hκ κ))
     rename_i yb;have bz:yb.obj y2.nobj=[ic a.p,sl ida2 a.ts.length (Ac a.ts)]:=by rw[ah _ Ad2,Aj]
     refine Ad (fun m s y3=>∃(j i5:Nat) (us:List Int),m=a.ts.length-j/\j<=a.ts.length/\s 2=ptr y.nobj 0/\s 5=sl i5 us.length (Ar us)/\s 8=ic rs.length/\s 32=sl ida l.length cs/\s 33=ic l.length/\s 34=ic k/\s 43=sl ida2 a.ts.length (Ac a.ts)/\s 44=ic a.ts.length/\s 45=ic j/\Keep y y3/\y.nobj<y3.nobj/\y3.obj y.nobj=[ic q.head.p,sl ih q.head.ts.length (Ac q.head.ts),sl ip q.parts.length pc,sl inn q.nots.length nc]/\Own y y3 i5 us.length/\us.length<=init.length+V.length/\rs.length<=us.length/\Ad8 (Grown init V us/\us.take rs.length=rs/\(∀v∈ws,v∈us)/\∀v,(true,v)∈a.ts.take j->v∈us)) a.ts.length
      ⟨0,i4,ws,Ad2,Ad2,Ad3,Ad3,Ad3,Ad3,Ad3,Ad3,Ad4,Ad4,rfl,av,Ad2,by rw[ah _ Ad2,Ai Ad2,Ae Ad2,am],au,bo,bu,hW.out.1,hW.out.2.1,fun v hv=>hv,by simp⟩ ?_
     clear av au ah hK hO am ax h2 h5 h8 bm bl bi az ak ao bz a7;rintro m s y3 ⟨j,i5,us,rfl,hj,h2,h5,h8,bm,bl,bi,cp,co,cn,hK,ax,am,hO,cb,bv,hU⟩;have az:=hK.nobj;have cd:=Bn us;by_cases a4:j<a.ts.length
     ·have ac:=List.getElem?_eq_getElem a4;obtain⟨r3,b1⟩:=Cg ac;have bc:=Acz a4;generalize a.ts[j]=w at b1 ac bc;obtain⟨w1,w2⟩:=w;have bn:Ad8 (a.ts.take (j+1)=a.ts.take j++[(w1,w2)]):=by rw[Ad8,Abq,ac,Ac2]
      clear ac;have br:us.length<=100000:=Ad2;have be:=Pp w2 us;have bg:=fun y=>Gd w2 us i5 br y;have HU:Ad8 ((w1=true->w2∈us)->(Grown init V us/\us.take rs.length=rs/\(∀v∈ws,v∈us)/\∀v,(true,v)∈a.ts.take (j+1)->v∈us)):=fun hw=>by
       refine⟨hU.out.1,hU.out.2.1,hU.out.2.2.1,fun v hv=>?_⟩;rw[bn.out]at hv;rcases Ack.1 hv with h|h
       ·exact hU.out.2.2.2 v h
       ·simp at h;obtain⟨h1,h2⟩:=h;subst h2;exact hw h1
      cases w1 with
      |false=>
       repeat' (first|refine Z1 ?_|(refine Z8 ?_;intro κ hκ)|(refine Z4 ?_;clear hκ κ)|(refine Z2 ?_ ?_<;>intro h ad<;>try exact Xp)|(refine Z6 ?_;intro idn yn ai aj af ab ae aa)|refine Z3 ?_|exact⟨⟩|(apply hκ.out;clear hκ κ))
       refine⟨a.ts.length-(j+1),Ad2,j+1,i5,us,?_⟩
       ((repeat' with_reducible refine And.intro ?_ ?_)<;>first|exact Xq|exact (Own.put (Own.new hO _) _ _)|exact (HU.out (fun h=>by cases h))|exact Xs)
      |true=>
       by_cases hm:w2∈us
       ·have a5:decide (w2∉us)=false:=by simp[hm]
        rw[a5]at be;have HU:=HU.out (fun _=>hm);have HU:Ad8 _:=HU;clear a5 hm
        repeat' (first|refine Z1 ?_|(refine Z8 ?_;intro κ hκ)|(refine Z4 ?_;clear hκ κ)|(refine Z2 ?_ ?_<;>intro h ad<;>try exact Xp)|(refine Z6 ?_;intro idn yn ai aj af ab ae aa)|(refine Z5 ?_;refine Xi (bg _) ?_;rintro _ _ ⟨rfl,ar⟩;(have aw:=ar.nobj;have an:=ar.obj;have av:=((hK.new _).put hK.nobj _).trans ar;have au:=Own.keep (Own.put (Own.new hO _) _ _) ar;simp only[Ab,Aa]at aw an))|refine Z3 ?_|exact⟨⟩|(apply hκ.out;clear hκ κ))
        refine⟨a.ts.length-(j+1),Ad2,j+1,i5,us,?_⟩
        ((repeat' with_reducible refine And.intro ?_ ?_)<;>first|exact Xq|exact (HU)|exact Xs)
       ·have a5:decide (w2∉us)=true:=by simp[hm]
        rw[a5]at be;have HU:Ad8 (Grown init V (us++[w2])/\(us++[w2]).take rs.length=rs/\(∀v∈ws,v∈us++[w2])/\∀v,(true,v)∈a.ts.take (j+1)->v∈us++[w2]):=by
         refine⟨hU.out.1.snoc (bf w2 bc) hm,?_,fun v hv=>Ack.2 (.inl (hU.out.2.2.1 v hv)),fun v hv=>?_⟩
         ·rw[List.take_append_of_le_length bv];exact hU.out.2.1
         ·rw[bn.out]at hv;rcases Ack.1 hv with h|h
          ·exact Ack.2 (.inl (hU.out.2.2.2 v h))
          ·simp at h;subst h;simp
        have bq:us.length+1<=init.length+V.length:=by
         have:=HU.out.1.le;simpa using this
        clear a5 hm
        repeat' (first|refine Z1 ?_|(refine Z8 ?_;intro κ hκ)|(refine Z4 ?_;clear hκ κ)|(refine Z2 ?_ ?_<;>intro h ad<;>try exact Xp)|(refine Z6 ?_;intro idn yn ai aj af ab ae aa)|(refine Z5 ?_;refine Xi (bg _) ?_;rintro _ _ ⟨rfl,ar⟩;(have aw:=ar.nobj;have an:=ar.obj;have av:=((hK.new _).put hK.nobj _).trans ar;have au:=Own.keep (Own.put (Own.new hO _) _ _) ar;simp only[Ab,Aa]at aw an;have a9:=an y3.nobj Ad2;rw[Aj]at a9))|refine Z3 ?_|exact⟨⟩|(apply hκ.out;clear hκ κ))
        refine⟨a.ts.length-(j+1),Ad2,j+1,idn,us++[w2],?_⟩
        ((repeat' with_reducible refine And.intro ?_ ?_)<;>first|exact Xq|exact (by simpa using ai)|exact (HU)|exact (by simp[Ar])|exact Xs)
     ·have bb:j=a.ts.length:=Ad2;subst bb;have HW:Ad8 (Grown init V us/\us.take rs.length=rs/\El (l.take (k+1)) rs us):=by
       obtain⟨u1,u2,u3,u4⟩:=hU.out;rw[Abn]at u4;refine⟨u1,u2,?_⟩;rw[HT.out];intro b hb h v hv;rcases Ack.1 hb with hb|hb
       ·exact u3 v (hW.out.2.2 b hb h v hv)
       ·simp at hb;subst hb;exact u4 v hv
      clear hU hW HT
      repeat' (first|refine Z1 ?_|(refine Z8 ?_;intro κ hκ)|(refine Z4 ?_;clear hκ κ)|(refine Z2 ?_ ?_<;>intro h ad<;>try exact Xp)|(refine Z6 ?_;intro idn yn ai aj af ab ae aa)|refine Z3 ?_|exact⟨⟩|(apply hκ.out;clear hκ κ))
      refine⟨l.length-(k+1),Ad2,k+1,i5,us,?_⟩
      ((repeat' with_reducible refine And.intro ?_ ?_)<;>first|exact Xq|exact (HW)|exact Xs)
   ·have b0:k=l.length:=Ad2;subst b0;have HW:Ad8 (Grown init V ws/\El l (ws.take rs.length) ws):=by
     obtain⟨u1,u2,u3⟩:=hW.out;rw[Abn]at u3;exact⟨u1,by rw[u2];exact u3⟩
    clear hW
    repeat' (first|refine Z1 ?_|(refine Z8 ?_;intro κ hκ)|(refine Z4 ?_;clear hκ κ)|(refine Z2 ?_ ?_<;>intro h ad<;>try exact Xp)|(refine Z6 ?_;intro idn yn ai aj af ab ae aa)|refine Z3 ?_|exact⟨⟩|(apply hκ.out;clear hκ κ))
    refine⟨2*(init.length+V.length-ws.length)+(if (rs.length:Int)<(ws.length:Int)then 1 else 0),by split<;>omega,rs.length,i4,rs.length,ws,?_⟩
    ((repeat' with_reducible refine And.intro ?_ ?_)<;>first|exact Xq|exact (HW)|exact (.inl rfl)|exact Xs)
  ·have hF:Grown init V rs/\El l rs rs:=by
    have hB:B=rs.length:=by rcases b5 with h|⟨h1,h2⟩<;>omega
    obtain⟨u1,u2⟩:=hG.out;rw[hB,Abn]at u2;exact⟨u1,u2⟩
   have HF:Ad8 _:=hF;clear hF;have ch:decide ((rs.length:Int)>Bi)=false:=by simp;omega
   repeat' (first|refine Z1 ?_|(refine Z8 ?_;intro κ hκ)|(refine Z4 ?_;clear hκ κ)|(refine Z2 ?_ ?_<;>intro h ad<;>try exact Xp)|(refine Z6 ?_;intro idn yn ai aj af ab ae aa)|refine Z3 ?_|exact⟨⟩|(apply hκ.out;clear hκ κ))
   first|exact⟨_,rfl,⟨i3,rs,rfl,HF.out.1,HF.out.2⟩,hK⟩|exact⟨_,rfl,i3,rs,rfl,HF.out.1,HF.out.2⟩
end Go.Proofs.YtmoeoppbmhfbpabGreatDoorH
