import Derived.Test.YtmoeoppbmhfbpabGreatDoorLEngI
set_option maxHeartbeats 32000000
set_option maxRecDepth 100000
set_option linter.all false
namespace Go.Proofs.YtmoeoppbmhfbpabGreatDoorL
open Go.Abs
inductive NarS (q:Qry):Qry->Prop where
 |refl:NarS q q
 |tail {q':Qry} (v:Int):NarS q q'->NarS q (Fo q' v)
theorem Qy (l:List Part)(v:Int)(p:Part):(Ge l v p).a=p.a:=by unfold Ge;split<;>rfl
theorem Po (l:List Part)(v:Int)(p:Part):∀t∈(Ge l v p).tups,t∈p.tups:=by
 unfold Ge;split
 ·intro t ht;exact (Aip.1 ht).1
 ·exact fun t ht=>ht
theorem gU (l:List Part)(v:Int)(p:Part):(Ge l v p).tups.length<=p.tups.length:=by
 unfold Ge;split
 ·exact Aio _ _
 ·exact Agi _
theorem xS {q:Qry}{v:Int}(h:Ou q):Ou (Fo q v):=by
 have hm:∀p∈(Fo q v).parts,∃p0∈q.parts,Ge q.parts v p0=p:=fun p hp=>Ahv.1 hp;refine⟨h.hd,by simp[Fo];exact h.pl,h.nl,fun p hp=>?_,fun p hp=>?_,fun p hp=>?_,h.na⟩
 ·obtain⟨p0,h0,rfl⟩:=hm p hp;rw[Qy];exact h.pa p0 h0
 ·obtain⟨p0,h0,rfl⟩:=hm p hp;exact Agj (gU _ _ _) (h.pt p0 h0)
 ·obtain⟨p0,h0,rfl⟩:=hm p hp;exact fun t ht=>h.p3 p0 h0 t (Po _ _ _ t ht)
theorem Aby {q:Qry}{v:Int}(h:QN q):QN (Fo q v):=fun p hp t ht=>by
 obtain⟨p0,h0,rfl⟩:=Ahv.1 hp;rw[Qy];exact h p0 h0 t (Po _ _ _ t ht)
theorem NarS.ok {q q':Qry}(h:NarS q q')(hq:Ou q):Ou q':=by
 induction h with
 |refl=>exact hq
 |tail v _ ih=>exact xS ih
theorem NarS.n {q q':Qry}(h:NarS q q')(hq:QN q):QN q':=by
 induction h with
 |refl=>exact hq
 |tail v _ ih=>exact Aby ih
def Qs (q:Qry)(v:Int):Qry:=if 1<C8 (q.parts.map (·.a)) v then Fo q v else q
def kG (q:Qry)(vs:List Int):Qry:=vs.foldl Qs q
theorem fA {q:Qry}(h:Ou q):Cr q.parts<=320000:=by
 have h1:=h.pl;have h2:=h.pt;have:∀l:List Part,(∀p∈l,p.tups.length<=5000)->Cr l<=l.length*5000:=by
  intro l;induction l with
  |nil=>intro _;simp[Cr]
  |cons a l ih=>
   intro h;have h3:=h a (by simp);have h4:=ih (fun p hp=>h p (by simp[hp]));simp only[Cr,Ag5,List.sum_cons,Ahj]at*
   omega
 have h5:=this q.parts h2;omega
theorem tF (q:Qry)(c:List AV)(hc:EQ q c)(hq:Ou q)(hN:QN q)(y:St):ACalls Tryz.prog 220 [ag c] y fun r y'=>(∃c' q' qp,r=ag c'/\EQ q' c'/\NarS q qp/\NarS q q'/\q'=kG qp (Cc (atomsQ qp))/\Cr qp.parts<=Cr q'.parts)/\Keep y y':=by
 have hS:=fun y=>Vq q c hc hq y;have bd:=fA hq;have HC:Ajs (EQ q c):=hc;obtain⟨ih0,ip0,in0,pc0,nc0,rfl,-,-⟩:=hc;refine Z9 32 [.cell 2 191] Tryz.func220 ?_
 repeat' (first|refine Z1 ?_|(refine Z8 ?_;intro κ hκ)|(refine Z4 ?_;clear hκ κ)|(refine Z2 ?_ ?_<;>intro h ae<;>try exact Xp)|(refine Z5 ?_;refine Xi (hS _) ?_;rintro _ _ ⟨rfl,ad⟩;(have ac:=ad.nobj;have aa:=ad.obj;have ab:=(((Keep.refl y).new _).new _).trans ad;simp only[Aa]at ac aa))|refine Z3 ?_|exact⟨⟩|(apply hκ.out;clear hκ κ))
 rename_i y1;have o0:y1.obj y.nobj=[ic q.head.p,sl ih0 q.head.ts.length (Ac q.head.ts),sl ip0 q.parts.length pc0,sl in0 q.nots.length nc0]:=by rw[aa _ Ajm,Ag Ajq,Ap]
 have o1:y1.obj (y.nobj+1)=[ic 0,nilS,nilS,nilS]:=by rw[aa _ Ajm,Bt Ajq Ajq]
 clear aa ad
 refine Af (fun m s y'=>∃(qk:Qry) (ck:List AV),s 1=ptr y.nobj 0/\s 2=ptr (y.nobj+1) 0/\s 3=ic m/\m<=320001/\Keep y y'/\y.nobj+1<y'.nobj/\y'.obj y.nobj=ck/\y'.obj (y.nobj+1)=[ic 0,nilS,nilS,nilS]/\Ajs (EQ qk ck/\NarS q qk/\(Cr qk.parts<m\/∃qp,NarS q qp/\qk=kG qp (Cc (atomsQ qp))/\Cr qp.parts=m))) (Cr q.parts+1)
  ⟨q,_,Ajo,Ajo,Ajo,Ajm,ab,Ajm,o0,o1,HC.out,.refl,.inl Ajm⟩ ?_
 clear o0 o1 ab ac hS bd HC;rintro m s y' ⟨qk,ck,h1,h2,h3,hm,hK,be,ax,aw,hQ⟩;have bz:=hK.nobj;have ah:=hQ.out.2.1.ok hq;have bf:=hQ.out.2.1.n hN;have hS:=fun y=>Vq qk ck hQ.out.1 ah y;have bg:=fun y=>Jk qk ck hQ.out.1 ah y;have bd:=fA ah;obtain⟨ihk,ipk,ink,pck,nck,rfl,-,-⟩:=hQ.out.1;have bb:=Mg ah;have b1:=I6 ah;have a7:=fun (cs:List AV) (i:Nat) (hE:EL Mm (atomsQ qk) cs) (y:St)=>Hb (atomsQ qk) cs i hE bb Ajm y;have bm:=E5 bb;have b5:Ajs (Ou qk/\QN qk):=⟨ah,bf⟩;by_cases bo:Cr qk.parts<m
 ·generalize bc:Cc (atomsQ qk)=vs at a7 bm;have bv:Ajs _:=bc;clear bc bb bf ah;generalize a4:Cr qk.parts=sz at*
  have bw:Ajs _:=a4;clear a4
  repeat' (first|refine Z1 ?_|(refine Z8 ?_;intro κ hκ)|(refine Z4 ?_;clear hκ κ)|(refine Z2 ?_ ?_<;>intro h ae<;>try exact Xp)|(refine Z5 ?_;first|(refine Xi (hS _) ?_;rintro _ _ ⟨rfl,ad⟩;(have ac:=ad.nobj;have aa:=ad.obj;have ab:=hK.trans ad;clear hK ad;have hK:=ab;clear ab))|(refine Xi (bg _) ?_;rintro _ _ ⟨ida,cs,rfl,hE,av⟩;(have a3:=av.nobj;have an:=av.obj;have ab:=hK.trans av;clear av hK;have hK:=ab;clear ab;have ao:=a7 cs ida hE))|(refine Xi (ao _) ?_;rintro _ _ ⟨⟨idv,rfl⟩,au⟩;(have a0:=au.nobj;have am:=au.obj;have ab:=hK.trans au;clear au hK;have hK:=ab;clear ab)))|refine Z3 ?_|exact⟨⟩|(apply hκ.out;clear hκ κ))
  rename_i ya kno2a kob2a yb yc yd;have b0:=Bn vs;have ech:∀p,p<y'.nobj->yd.obj p=y'.obj p:=fun p hp=>by rw[am _ Ajm,an _ Ajm,aa _ Ajm,kob2a _ Ajm]
  refine Af (fun m' s y2=>∃(j:Nat) (qj:Qry) (cj:List AV),m'=vs.length-j/\j<=vs.length/\s 1=ptr y.nobj 0/\s 2=ptr (y.nobj+1) 0/\s 3=ic sz/\s 17=sl idv vs.length (Am vs)/\s 18=ic vs.length/\s 19=ic j/\Keep y y2/\y.nobj+1<y2.nobj/\y2.obj y.nobj=cj/\y2.obj (y.nobj+1)=[ic 0,nilS,nilS,nilS]/\Ajs (EQ qj cj/\NarS q qj/\qj=kG qk (vs.take j))) vs.length
   ⟨0,qk,_,Ajm,Ajm,Ajn,Ajn,Ajn,Ajo,Ajo,rfl,hK,Ajm,rfl,by rw[ech _ Ajm,aw],by rw[ech _ Ajm,ax];exact hQ.out.1,hQ.out.2.1,by simp[kG]⟩ ?_
  clear ech am an aa kob2a hK ax aw h1 h2 h3 be hS bg a7 ao hE a0 a3 ac kno2a;rintro m' s y2 ⟨j,qj,cj,rfl,hj,h1,h2,h3,b4,b3,b2,hK,be,ax,aw,hJ⟩;have ac:=hK.nobj;have a5:=hJ.out.2.1.ok hq;have bn:=hJ.out.2.1.n hN;have ak:=fun v y=>La qj cj v hJ.out.1 a5 y;have a8:=fun v y=>iX qj cj v hJ.out.1 a5 bn y;have ap:∀v,C8 (qj.parts.map (·.a)) v<=64:=fun v=>by
   have h1:=qG (qj.parts.map (·.a)) v;have h2:=a5.pl;simp at h1;omega
  have bh:Ajs (EQ qj cj):=hJ.out.1;obtain⟨ihj,ipj,inj,pcj,ncj,rfl,-,-⟩:=hJ.out.1;by_cases a6:j<vs.length
  ·have af:=List.getElem?_eq_getElem a6;obtain⟨r,hd⟩:=Dm af;generalize vs[j]=v at hd af;have HR:Ajs (kG qk (vs.take (j+1))=Qs qj v):=by
    rw[Ajs,Agz,af,Aia,kG,Aif,hJ.out.2.2];rfl
   clear af;have ak:=ak v;have a8:=a8 v;have ap:=ap v;by_cases aj:1<C8 (qj.parts.map (·.a)) v
   ·have HR:Ajs (kG qk (vs.take (j+1))=Fo qj v):=by rw[Ajs,HR.out,Qs,if_pos aj]
    generalize C8 (qj.parts.map (·.a)) v=cn at ak aj ap;have hb:decide ((cn:Int)>1)=true:=by simp;omega
    clear aj
    repeat' (first|refine Z1 ?_|(refine Z8 ?_;intro κ hκ)|(refine Z4 ?_;clear hκ κ)|(refine Z2 ?_ ?_<;>intro h ae<;>try exact Xp)|(refine Z5 ?_;first|(refine Xi (ak _) ?_;rintro _ _ ⟨rfl,ai⟩;(have az:=ai.nobj;have ay:=ai.obj;have ab:=hK.trans ai))|(refine Xi (a8 _) ?_;rintro _ _ ⟨⟨_,rfl,ih6,ip6,in6,pc6,nc6,rfl,bq,br⟩,a9⟩;(have bl:=a9.nobj;have bi:=a9.obj;have bu:=ab.trans a9)))|refine Z3 ?_|exact⟨⟩|(apply hκ.out;clear hκ κ))
    refine⟨vs.length-(j+1),Ajm,j+1,Fo qj v,[ic (Fo qj v).head.p,sl ih6 (Fo qj v).head.ts.length (Ac (Fo qj v).head.ts),sl ip6 (Fo qj v).parts.length pc6,sl in6 (Fo qj v).nots.length nc6],?_⟩
    ((repeat' with_reducible refine And.intro ?_ ?_)<;>first|exact Xq|exact (bu.put Ajm _)|exact (⟨⟨ih6,ip6,in6,pc6,nc6,rfl,bq,br⟩,.tail v hJ.out.2.1,HR.out.symm⟩)|exact Xs)
   ·have HR:Ajs (kG qk (vs.take (j+1))=qj):=by rw[Ajs,HR.out,Qs,if_neg aj]
    generalize C8 (qj.parts.map (·.a)) v=cn at ak aj ap;have hb:decide ((cn:Int)>1)=false:=by simp;omega
    clear aj
    repeat' (first|refine Z1 ?_|(refine Z8 ?_;intro κ hκ)|(refine Z4 ?_;clear hκ κ)|(refine Z2 ?_ ?_<;>intro h ae<;>try exact Xp)|(refine Z5 ?_;refine Xi (ak _) ?_;rintro _ _ ⟨rfl,ai⟩;(have az:=ai.nobj;have ay:=ai.obj;have ab:=hK.trans ai))|refine Z3 ?_|exact⟨⟩|(apply hκ.out;clear hκ κ))
    refine⟨vs.length-(j+1),Ajm,j+1,qj,[ic qj.head.p,sl ihj qj.head.ts.length (Ac qj.head.ts),sl ipj qj.parts.length pcj,sl inj qj.nots.length ncj],?_⟩
    ((repeat' with_reducible refine And.intro ?_ ?_)<;>first|exact Xq|exact (⟨bh.out,hJ.out.2.1,HR.out.symm⟩)|exact Xs)
  ·have bp:j=vs.length:=Ajm;subst bp;have ba:=hJ.out.2.2;rw[Agw]at ba
   have HF:Ajs (EQ qj [ic qj.head.p,sl ihj qj.head.ts.length (Ac qj.head.ts),sl ipj qj.parts.length pcj,sl inj qj.nots.length ncj]/\NarS q qj/\(Cr qj.parts<sz\/∃qp,NarS q qp/\qj=kG qp (Cc (atomsQ qp))/\Cr qp.parts=sz)):=
    ⟨bh.out,hJ.out.2.1,.inr ⟨qk,hQ.out.2.1,by rw[bv.out];exact ba,bw.out⟩⟩
   clear ba
   repeat' (first|refine Z1 ?_|(refine Z8 ?_;intro κ hκ)|(refine Z4 ?_;clear hκ κ)|(refine Z2 ?_ ?_<;>intro h ae<;>try exact Xp)|refine Z3 ?_|exact⟨⟩|(apply hκ.out;clear hκ κ))
   refine⟨sz,Ajm,qj,[ic qj.head.p,sl ihj qj.head.ts.length (Ac qj.head.ts),sl ipj qj.parts.length pcj,sl inj qj.nots.length ncj],?_⟩
   ((repeat' with_reducible refine And.intro ?_ ?_)<;>first|exact Xq|exact (HF)|exact Xs)
 ·have hR:∃qp,NarS q qp/\qk=kG qp (Cc (atomsQ qp))/\Cr qp.parts<=Cr qk.parts:=by
   rcases hQ.out.2.2 with h|⟨qp,h1,h2,h3⟩
   ·exact absurd h bo
   ·exact⟨qp,h1,h2,Ajm⟩
  have HR:Ajs _:=hR;clear hR;generalize a4:Cr qk.parts=sz at*
  repeat' (first|refine Z1 ?_|(refine Z8 ?_;intro κ hκ)|(refine Z4 ?_;clear hκ κ)|(refine Z2 ?_ ?_<;>intro h ae<;>try exact Xp)|(refine Z5 ?_;refine Xi (hS _) ?_;rintro _ _ ⟨rfl,ad⟩;(have ac:=ad.nobj;have aa:=ad.obj;have ab:=hK.trans ad))|refine Z3 ?_|exact⟨⟩|(apply hκ.out;clear hκ κ))
  obtain⟨qp,r1,r2,r3⟩:=HR.out;exact⟨_,rfl,⟨_,qk,qp,rfl,hQ.out.1,r1,hQ.out.2.1,r2,Ajm⟩,ab.put Ajm _⟩
theorem Vd:∀{l m:List Int},l.Nodup->(∀x∈l,x∈m)->l.length<=m.length
 |[],m,_,_=>by simp
 |a::l,m,hn,hs=>by
  have aa:=Aig.1 hn;have ha:=hs a (by simp)
  have h1:=Vd (l:=l) (m:=m.erase a) aa.2 (fun x hx=>by
   have ab:x≠a:=fun e=>aa.1 (e ▸ hx)
   exact (Aih ab).2 (hs x (by simp[hx])))
  rw[List.length_erase_of_mem ha]at h1;have:0<m.length:=List.length_pos_of_mem ha;simp only[Ahj];omega
theorem Ti:∀(l:List Bc) (pl:Int) (acc:List Int),acc.Nodup->(l.foldl (qZ pl) acc).Nodup
 |[],pl,acc,h=>h
 |t::l,pl,acc,h=>by
  rw[Agv];apply Ti;unfold qZ;split
  ·exact h
  ·rename_i hc;rw[Aiw];exact⟨h,by simp,fun a ha b hb=>by simp at hb;subst hb;rintro rfl;exact hc ha⟩
theorem Tj:∀(l:List Bc) (pl:Int) (acc:List Int) (n:Int),n∈l.foldl (qZ pl) acc↔n∈acc\/∃t∈l,H4 t pl=n
 |[],pl,acc,n=>by simp
 |t::l,pl,acc,n=>by
  rw[Agv,Tj];unfold qZ;by_cases hc:H4 t pl∈acc
  ·rw[if_pos hc];constructor
   ·rintro (h|⟨u,hu,e⟩)
    ·exact .inl h
    ·exact .inr ⟨u,by simp[hu],e⟩
   ·rintro (h|⟨u,hu,e⟩)
    ·exact .inl h
    ·rcases Ahm.1 hu with rfl|hu
     ·exact .inl (e ▸ hc)
     ·exact .inr ⟨u,hu,e⟩
  ·rw[if_neg hc];constructor
   ·rintro (h|⟨u,hu,e⟩)
    ·rcases Ahs.1 h with h|h
     ·exact .inl h
     ·simp at h;exact .inr ⟨t,by simp,h.symm⟩
    ·exact .inr ⟨u,by simp[hu],e⟩
   ·rintro (h|⟨u,hu,e⟩)
    ·exact .inl (Ahs.2 (.inl h))
    ·rcases Ahm.1 hu with rfl|hu
     ·exact .inl (Ahs.2 (.inr (by simp[e])))
     ·exact .inr ⟨u,hu,e⟩
theorem Tk {q:Qry}(hN:QN q)(v:Int):(Lb q v).length<=1026:=by
 have hr:((List.range 1026).map fun k:Nat=>(k:Int)).length=1026:=by simp
 rw[<-hr];unfold Lb;split
 ·rename_i p hp;have ab:=List.mem_of_find?_eq_some hp;have aa:A8 p.a.ts v=true:=by simpa using List.find?_some hp
  obtain⟨pl,hpl,ac⟩:=J2 aa;rw[ac];apply Vd (Ti _ _ _ Aii);intro n hn;unfold Wu at hn;rw[Tj]at hn;rcases hn with h|⟨t,ht,e⟩
  ·cases h
  ·obtain⟨x,hx,ad⟩:=hN p ab t ht pl hpl;rw[Ahv];exact⟨x,by simpa using ad,by rw[<-e];simp[H4,hx]⟩
 ·simp
def QV (q:Qry):Prop:=∀a∈atomsQ q,∀v,(true,v)∈a.ts->0<=v
theorem cJ (q:Qry)(c:List AV)(hc:EQ q c)(hq:Ou q)(hN:QN q)(hV:QV q)(y:St):ACalls Tryz.prog 222 [ag c] y fun r y'=>(∃b,r=ic b/\((b= -1/\∀v∈Cc (atomsQ q),C6 q v=false)\/(b∈Cc (atomsQ q)/\C6 q b=true)))/\Keep y y':=by
 have a4:=fun y=>Jk q c hc hq y;have ah:=fun v y=>Pz q c v hc hq y;have aw:=fun v y=>Ky q c v hc hq hN y;have az:=fun v=>Tk hN v;have a5:=Mg hq;have bi:=I6 hq;have a3:=fun (cs:List AV) (i:Nat) (hE:EL Mm (atomsQ q) cs) (y:St)=>Hb (atomsQ q) cs i hE a5 Ajm y;have bd:=E5 a5;obtain⟨ih,ip,inn,pc,nc,rfl,-,-⟩:=hc;generalize Cc (atomsQ q)=vs at*
 have be:=Bn vs;refine Z9 31 [.tmp 2] Tryz.func222 ?_
 repeat' (first|refine Z1 ?_|(refine Z8 ?_;intro κ hκ)|(refine Z4 ?_;clear hκ κ)|(refine Z2 ?_ ?_<;>intro h ad<;>try exact Xp)|(refine Z5 ?_;first|(refine Xi (a4 _) ?_;rintro _ _ ⟨ida,cs,rfl,hE,ao⟩;(have aj:=ao.nobj;have ab:=ao.obj;have hK:=((Keep.refl y).new _).trans ao;have ak:=a3 cs ida hE;simp only[Aa]at aj ab))|(refine Xi (ak _) ?_;rintro _ _ ⟨⟨idv,rfl⟩,an⟩;(have av:=an.nobj;have ai:=an.obj;have am:=hK.trans an;clear an hK;have hK:=am;clear am)))|refine Z3 ?_|exact⟨⟩|(apply hκ.out;clear hκ κ))
 rename_i ya yb;have o0:yb.obj y.nobj=[ic q.head.p,sl ih q.head.ts.length (Ac q.head.ts),sl ip q.parts.length pc,sl inn q.nots.length nc]:=by rw[ai _ Ajm,ab _ Ajm,Ap]
 clear ab ai a4 a3 ak hE ao
 refine Af (fun m s y'=>∃(j w:Nat) (b:Int),m=vs.length-j/\j<=vs.length/\s 1=ptr y.nobj 0/\s 3=ic b/\s 4=ic w/\s 10=sl idv vs.length (Am vs)/\s 11=ic vs.length/\s 12=ic j/\Keep y y'/\y.nobj<y'.nobj/\y'.obj y.nobj=[ic q.head.p,sl ih q.head.ts.length (Ac q.head.ts),sl ip q.parts.length pc,sl inn q.nots.length nc]/\w<=1027/\Ajs ((b= -1/\w=1027/\∀v∈vs.take j,C6 q v=false)\/(b∈vs/\C6 q b=true))) vs.length
  ⟨0,1027,-1,Ajm,Ajm,Ajo,Ajo,Ajo,Ajo,Ajo,rfl,hK,Ajm,o0,Ajm,.inl ⟨rfl,rfl,by simp⟩⟩ ?_
 clear hK o0 aj av;rintro m s y' ⟨j,w,b,rfl,hj,h1,h3,h4,bn,bm,bl,hK,bg,bb,hw,hB⟩;have bc:=hK.nobj;by_cases a0:j<vs.length
 ·have aa:=List.getElem?_eq_getElem a0;obtain⟨r,hd⟩:=Dm aa;have ac:=Ah6 a0;generalize vs[j]=v at hd aa ac;have ah:=ah v;have aw:=aw v;have az:=az v
  have HM:Ajs (v∈vs/\∀u∈vs.take (j+1),u∈vs.take j\/u=v):=⟨ac,fun u hu=>by
   rw[Agz,aa,Aia]at hu;rcases Ahs.1 hu with h|h
   ·exact .inl h
   ·simp at h;exact .inr h⟩
  clear aa ac;cases af:C6 q v with
  |false=>
   rw[af]at ah;have HB:Ajs ((b= -1/\w=1027/\∀v∈vs.take (j+1),C6 q v=false)\/(b∈vs/\C6 q b=true)):=by
    rcases hB.out with⟨h1,h2,h3⟩|h
    ·refine .inl ⟨h1,h2,fun u hu=>?_⟩;rcases HM.out.2 u hu with h|rfl
     ·exact h3 u h
     ·exact af
    ·exact .inr h
   clear hB HM af
   repeat' (first|refine Z1 ?_|(refine Z8 ?_;intro κ hκ)|(refine Z4 ?_;clear hκ κ)|(refine Z2 ?_ ?_<;>intro h ad<;>try exact Xp)|(refine Z5 ?_;refine Xi (ah _) ?_;rintro _ _ ⟨rfl,ae⟩;(have au:=ae.nobj;have ap:=ae.obj;have am:=hK.trans ae))|refine Z3 ?_|exact⟨⟩|(apply hκ.out;clear hκ κ))
   refine⟨vs.length-(j+1),Ajm,j+1,w,b,?_⟩
   ((repeat' with_reducible refine And.intro ?_ ?_)<;>first|exact Xq|exact (HB)|exact Xs)
  |true=>
   rw[af]at ah;have ba:Ajs ((v= -1/\(Lb q v).length=1027/\∀v∈vs.take (j+1),C6 q v=false)\/(v∈vs/\C6 q v=true)):=.inr ⟨HM.out.1,af⟩;have a9:Ajs (¬(Lb q v).length<w->(b= -1/\w=1027/\∀v∈vs.take (j+1),C6 q v=false)\/(b∈vs/\C6 q b=true)):=fun hn=>by
    rcases hB.out with⟨h1,h2,h3⟩|h
    ·omega
    ·exact .inr h
   clear hB HM af;generalize ay:Lb q v=vq at*
   have bo:Ajs _:=ay;clear ay;have bf:=Bn vq
   repeat' (first|refine Z1 ?_|(refine Z8 ?_;intro κ hκ)|(refine Z4 ?_;clear hκ κ)|(refine Z2 ?_ ?_<;>intro h ad<;>try exact Xp)|(refine Z5 ?_;first|(refine Xi (ah _) ?_;rintro _ _ ⟨rfl,ae⟩;(have au:=ae.nobj;have ap:=ae.obj;have am:=hK.trans ae))|(refine Xi (aw _) ?_;rintro _ _ ⟨⟨idq,rfl⟩,ax⟩;(have a7:=ax.nobj;have a6:=ax.obj;have bh:=am.trans ax)))|refine Z3 ?_|exact⟨⟩|(apply hκ.out;clear hκ κ))
   ·refine⟨vs.length-(j+1),Ajm,j+1,vq.length,v,?_⟩
    ((repeat' with_reducible refine And.intro ?_ ?_)<;>first|exact Xq|exact (ba)|exact Xs)
   ·refine⟨vs.length-(j+1),Ajm,j+1,w,b,?_⟩
    ((repeat' with_reducible refine And.intro ?_ ?_)<;>first|exact Xq|exact (a9.out Ajm)|exact Xs)
 ·have a8:j=vs.length:=Ajm;subst a8;rw[Agw]at hB;have HB:Ajs ((b= -1/\∀v∈vs,C6 q v=false)\/(b∈vs/\C6 q b=true)):=by
   rcases hB.out with⟨h1,-,h3⟩|h
   ·exact .inl ⟨h1,h3⟩
   ·exact .inr h
  repeat' (first|refine Z1 ?_|(refine Z8 ?_;intro κ hκ)|(refine Z4 ?_;clear hκ κ)|(refine Z2 ?_ ?_<;>intro h ad<;>try exact Xp)|refine Z3 ?_|exact⟨⟩|(apply hκ.out;clear hκ κ))
  first|exact⟨_,rfl,⟨b,rfl,HB.out⟩,hK⟩|exact⟨_,rfl,b,rfl,HB.out⟩
def Fb (l:List Df)(small big:List Int):Prop:=∀a∈l,small.any (A8 a.ts)=true->∀v,(true,v)∈a.ts->v∈big
def Grown (init V rs:List Int):Prop:=∃ad:List Int,rs=init++ad/\ad.Nodup/\∀v∈ad,v∈V
theorem Grown.le {init V rs:List Int}(h:Grown init V rs):rs.length<=init.length+V.length:=by
 obtain⟨ad,rfl,h1,h2⟩:=h;have:=Vd h1 h2;simp;omega
theorem Grown.snoc {init V rs:List Int}(h:Grown init V rs){v:Int}(hv:v∈V)(hn:v∉rs):Grown init V (rs++[v]):=by
 obtain⟨ad,rfl,h1,h2⟩:=h;refine⟨ad++[v],by simp,?_,?_⟩
 ·rw[Aiw];exact⟨h1,by simp,fun a ha b hb=>by simp at hb;subst hb;rintro rfl;exact hn (Ahs.2 (.inr ha))⟩
 ·intro u hu;rcases Ahs.1 hu with h|h
  ·exact h2 u h
  ·simp at h;subst h;exact hv
theorem Xy (q:Qry)(c:List AV)(init:List Int)(idi:Nat)(hc:EQ q c)(hq:Ou q)(hil:init.length<=200)(y:St):ACalls Tryz.prog 224 [ag c,sl idi init.length (Am init)] y fun r y'=>(∃id rs,r=sl id rs.length (Am rs)/\Grown init (Cc (atomsQ q)) rs/\Fb (atomsQ q) rs rs)/\Keep y y':=by
 have b7:=fun y=>Jk q c hc hq y;have bi:=Mg hq;have cm:=I6 hq;have cj:=E5 bi;have b5:∀a∈atomsQ q,∀v,(true,v)∈a.ts->v∈Cc (atomsQ q):=fun a ha v hv=>(C4 _ _).2 ⟨a,ha,hv⟩;obtain⟨ih,ip,inn,pc,nc,rfl,-,-⟩:=hc;generalize Cc (atomsQ q)=V at*
 generalize atomsQ q=l at*
 have cg:=Bn init;refine Z9 66 [.tmp 4] Tryz.func224 ?_
 repeat' (first|refine Z1 ?_|(refine Z8 ?_;intro κ hκ)|(refine Z4 ?_;clear hκ κ)|(refine Z2 ?_ ?_<;>intro h ad<;>try exact Xp)|(refine Z6 ?_;intro idn yn ai aj af ab ae aa)|refine Z3 ?_|exact⟨⟩|(apply hκ.out;clear hκ κ))
 refine Af (fun m s y'=>∃(j i3:Nat) (rs:List Int),m=init.length-j/\j<=init.length/\s 2=ptr y.nobj 0/\s 5=sl i3 rs.length (Am rs)/\s 14=sl idi init.length (Am init)/\s 15=ic init.length/\s 16=ic j/\Keep y y'/\y.nobj<y'.nobj/\y'.obj y.nobj=[ic q.head.p,sl ih q.head.ts.length (Ac q.head.ts),sl ip q.parts.length pc,sl inn q.nots.length nc]/\Own y y' i3 rs.length/\rs.length<=j/\Ajs (rs=init.take j)) init.length
  ⟨0,1,[],Ajm,Ajm,Ajo,by simp[upd,Am],by simp[upd,initS],Ajo,rfl,Xs,Ajq,by rw[Ap],Own.nil _ _,by simp,by simp[Ajs]⟩ ?_
 rintro m s y' ⟨j,i3,rs,rfl,hj,h2,h5,ca,b9,b8,hK,ay,am,hO,be,hR⟩;have a0:=hK.nobj;by_cases a9:j<init.length
 ·have ac:=List.getElem?_eq_getElem a9;obtain⟨r,hd⟩:=Dm ac;generalize init[j]=v at hd ac;have HR:Ajs (rs++[v]=init.take (j+1)):=by rw[Ajs,Agz,ac,Aia,hR.out]
  have bz:=Bn rs;clear ac hR
  repeat' (first|refine Z1 ?_|(refine Z8 ?_;intro κ hκ)|(refine Z4 ?_;clear hκ κ)|(refine Z2 ?_ ?_<;>intro h ad<;>try exact Xp)|(refine Z6 ?_;intro idn yn ai aj af ab ae aa)|refine Z3 ?_|exact⟨⟩|(apply hκ.out;clear hκ κ))
  refine⟨init.length-(j+1),Ajm,j+1,idn,rs++[v],?_⟩
  ((repeat' with_reducible refine And.intro ?_ ?_)<;>first|exact Xq|exact (by simpa using ai)|exact (HR)|exact (by simp[Am])|exact Xs)
 ·have bc:j=init.length:=Ajm;subst bc;rw[Agw]at hR;have hR:=hR.out.symm;subst hR;clear a9 hj
  repeat' (first|refine Z1 ?_|(refine Z8 ?_;intro κ hκ)|(refine Z4 ?_;clear hκ κ)|(refine Z2 ?_ ?_<;>intro h ad<;>try exact Xp)|(refine Z6 ?_;intro idn yn ai aj af ab ae aa)|refine Z3 ?_|exact⟨⟩|(apply hκ.out;clear hκ κ))
  refine Af (fun m s y'=>∃(B i3:Nat) (Bi:Int) (rs:List Int),m=2*(init.length+V.length-rs.length)+(if Bi<(rs.length:Int)then 1 else 0)/\(Bi=B\/(Bi= -1/\B=0))/\s 2=ptr y.nobj 0/\s 5=sl i3 rs.length (Am rs)/\s 8=ic Bi/\Keep y y'/\y.nobj<y'.nobj/\y'.obj y.nobj=[ic q.head.p,sl ih q.head.ts.length (Ac q.head.ts),sl ip q.parts.length pc,sl inn q.nots.length nc]/\Own y y' i3 rs.length/\rs.length<=init.length+V.length/\B<=rs.length/\Ajs (Grown init V rs/\Fb l (rs.take B) rs)) (2*(init.length+V.length-init.length)+1)
   ⟨0,i3,-1,init,by rw[if_pos Ajm],.inr ⟨rfl,rfl⟩,Ajn,Ajn,Ajo,hK,ay,am,hO,Ajm,Ajm,⟨[],by simp,Aii,by simp⟩,fun a ha h=>by simp at h⟩ ?_
  clear hK ay am hO h2 h5 ca b9 b8 a0;rintro m s y' ⟨B,i3,Bi,rs,rfl,b6,h2,h5,h8,hK,ay,am,hO,be,ck,hG⟩;have a0:=hK.nobj;have bz:=Bn rs;by_cases a9:Bi<(rs.length:Int)
  ·rw[if_pos a9]
   repeat' (first|refine Z1 ?_|(refine Z8 ?_;intro κ hκ)|(refine Z4 ?_;clear hκ κ)|(refine Z2 ?_ ?_<;>intro h ad<;>try exact Xp)|(refine Z6 ?_;intro idn yn ai aj af ab ae aa)|(refine Z5 ?_;refine Xi (b7 _) ?_;rintro _ _ ⟨ida,cs,rfl,hE,a7⟩;(have bb:=a7.nobj;have a3:=a7.obj;have aw:=hK.trans a7;have av:=Own.keep hO a7))|refine Z3 ?_|exact⟨⟩|(apply hκ.out;clear hκ κ))
   rename_i ya;have ci:=EL.length Ic hE
   refine Af (fun m s y2=>∃(k i4:Nat) (ws:List Int),m=l.length-k/\k<=l.length/\s 2=ptr y.nobj 0/\s 5=sl i4 ws.length (Am ws)/\s 8=ic rs.length/\s 32=sl ida l.length cs/\s 33=ic l.length/\s 34=ic k/\Keep y y2/\y.nobj<y2.nobj/\y2.obj y.nobj=[ic q.head.p,sl ih q.head.ts.length (Ac q.head.ts),sl ip q.parts.length pc,sl inn q.nots.length nc]/\Own y y2 i4 ws.length/\ws.length<=init.length+V.length/\rs.length<=ws.length/\Ajs (Grown init V ws/\ws.take rs.length=rs/\Fb (l.take k) rs ws)) l.length
    ⟨0,i3,rs,Ajm,Ajm,Ajn,Ajn,Ajn,Ajo,Ajo,rfl,aw,Ajm,by rw[a3 _ Ajm,am],av,be,Ajm,hG.out.1,by simp,fun a ha=>by simp at ha⟩ ?_
   clear aw av a3 hK hO am ay h2 h5 h8 a0 a7 bb;rintro m s y2 ⟨k,i4,ws,rfl,hk,h2,h5,h8,bn,bm,bl,hK,ay,am,hO,bp,bv,hW⟩;have a0:=hK.nobj;have cb:=Bn ws;by_cases az:k<l.length
   ·have ac:=List.getElem?_eq_getElem az;obtain⟨ida2,r2,b3⟩:=Jl hE ac;have hb:=bi _ (Ah6 az);have bg:=b5 _ (Ah6 az);generalize l[k]=a at b3 ac hb bg;have HT:Ajs (l.take (k+1)=l.take k++[a]):=by rw[Ajs,Agz,ac,Aia]
    clear ac;have bq:ws.length<=100000:=Ajm;have b4:a.ts.length<=1000:=Ajm;have a8:=fun y=>K1 a.p ida2 a.ts ws i4 b4 bq y;have a4:∀v∈rs,v∈ws:=fun v hv=>by
     have:=hW.out.2.1;rw[<-this]at hv;exact Ai2 hv
    cases ap:ws.any (A8 a.ts)with
    |false=>
     have HW:Ajs (Grown init V ws/\ws.take rs.length=rs/\Fb (l.take (k+1)) rs ws):=by
      refine⟨hW.out.1,hW.out.2.1,?_⟩;rw[HT.out];intro b hb h v hv;rcases Ahs.1 hb with hb|hb
      ·exact hW.out.2.2 b hb h v hv
      ·simp at hb;subst hb;rw[Ahk]at h;obtain⟨u,hu,he⟩:=h;rw[Ah5]at ap;exact absurd he (ap u (a4 u hu))
     rw[ap]at a8;clear hW HT a4
     repeat' (first|refine Z1 ?_|(refine Z8 ?_;intro κ hκ)|(refine Z4 ?_;clear hκ κ)|(refine Z2 ?_ ?_<;>intro h ad<;>try exact Xp)|(refine Z6 ?_;intro idn yn ai aj af ab ae aa)|(refine Z5 ?_;refine Xi (a8 _) ?_;rintro _ _ ⟨rfl,ak⟩;(have ao:=ak.nobj;have ah:=ak.obj;have aw:=((hK.new _).put hK.nobj _).trans ak;have av:=Own.keep (Own.put (Own.new hO _) _ _) ak;simp only[Ab,Aa]at ao ah))|refine Z3 ?_|exact⟨⟩|(apply hκ.out;clear hκ κ))
     refine⟨l.length-(k+1),Ajm,k+1,i4,ws,?_⟩
     ((repeat' with_reducible refine And.intro ?_ ?_)<;>first|exact Xq|exact (HW)|exact Xs)
    |true=>
     rw[ap]at a8;have cf:=Ci a.ts
     repeat' (first|refine Z1 ?_|(refine Z8 ?_;intro κ hκ)|(refine Z4 ?_;clear hκ κ)|(refine Z2 ?_ ?_<;>intro h ad<;>try exact Xp)|(refine Z6 ?_;intro idn yn ai aj af ab ae aa)|(refine Z5 ?_;refine Xi (a8 _) ?_;rintro _ _ ⟨rfl,ak⟩;(have ao:=ak.nobj;have ah:=ak.obj;have aw:=((hK.new _).put hK.nobj _).trans ak;have av:=Own.keep (Own.put (Own.new hO _) _ _) ak;simp only[Ab,Aa]at ao ah))|refine Z3 ?_|exact⟨⟩|(apply hκ.out;clear hκ κ))
     rename_i yb;have b0:yb.obj y2.nobj=[ic a.p,sl ida2 a.ts.length (Ac a.ts)]:=by rw[ah _ Ajm,Ak]
     refine Af (fun m s y3=>∃(j i5:Nat) (us:List Int),m=a.ts.length-j/\j<=a.ts.length/\s 2=ptr y.nobj 0/\s 5=sl i5 us.length (Am us)/\s 8=ic rs.length/\s 32=sl ida l.length cs/\s 33=ic l.length/\s 34=ic k/\s 43=sl ida2 a.ts.length (Ac a.ts)/\s 44=ic a.ts.length/\s 45=ic j/\Keep y y3/\y.nobj<y3.nobj/\y3.obj y.nobj=[ic q.head.p,sl ih q.head.ts.length (Ac q.head.ts),sl ip q.parts.length pc,sl inn q.nots.length nc]/\Own y y3 i5 us.length/\us.length<=init.length+V.length/\rs.length<=us.length/\Ajs (Grown init V us/\us.take rs.length=rs/\(∀v∈ws,v∈us)/\∀v,(true,v)∈a.ts.take j->v∈us)) a.ts.length
      ⟨0,i4,ws,Ajm,Ajm,Ajn,Ajn,Ajn,Ajn,Ajn,Ajn,Ajo,Ajo,rfl,aw,Ajm,by rw[ah _ Ajm,Ai Ajm,Ag Ajm,am],av,bp,bv,hW.out.1,hW.out.2.1,fun v hv=>hv,by simp⟩ ?_
     clear aw av ah hK hO am ay h2 h5 h8 bn bm bl a0 ak ao b0 a8;rintro m s y3 ⟨j,i5,us,rfl,hj,h2,h5,h8,bn,bm,bl,cp,co,cn,hK,ay,am,hO,cd,bw,hU⟩;have a0:=hK.nobj;have ce:=Bn us;by_cases a5:j<a.ts.length
     ·have ac:=List.getElem?_eq_getElem a5;obtain⟨r3,b2⟩:=Cm ac;have bd:=Ah6 a5;generalize a.ts[j]=w at b2 ac bd;obtain⟨w1,w2⟩:=w;have bo:Ajs (a.ts.take (j+1)=a.ts.take j++[(w1,w2)]):=by rw[Ajs,Agz,ac,Aia]
      clear ac;have bu:us.length<=100000:=Ajm;have bf:=Rl w2 us;have bh:=fun y=>Ft w2 us i5 bu y;have HU:Ajs ((w1=true->w2∈us)->(Grown init V us/\us.take rs.length=rs/\(∀v∈ws,v∈us)/\∀v,(true,v)∈a.ts.take (j+1)->v∈us)):=fun hw=>by
       refine⟨hU.out.1,hU.out.2.1,hU.out.2.2.1,fun v hv=>?_⟩;rw[bo.out]at hv;rcases Ahs.1 hv with h|h
       ·exact hU.out.2.2.2 v h
       ·simp at h;obtain⟨h1,h2⟩:=h;subst h2;exact hw h1
      cases w1 with
      |false=>
       repeat' (first|refine Z1 ?_|(refine Z8 ?_;intro κ hκ)|(refine Z4 ?_;clear hκ κ)|(refine Z2 ?_ ?_<;>intro h ad<;>try exact Xp)|(refine Z6 ?_;intro idn yn ai aj af ab ae aa)|refine Z3 ?_|exact⟨⟩|(apply hκ.out;clear hκ κ))
       refine⟨a.ts.length-(j+1),Ajm,j+1,i5,us,?_⟩
       ((repeat' with_reducible refine And.intro ?_ ?_)<;>first|exact Xq|exact (Own.put (Own.new hO _) _ _)|exact (HU.out (fun h=>by cases h))|exact Xs)
      |true=>
       by_cases hm:w2∈us
       ·have a6:decide (w2∉us)=false:=by simp[hm]
        rw[a6]at bf;have HU:=HU.out (fun _=>hm);have HU:Ajs _:=HU;clear a6 hm
        repeat' (first|refine Z1 ?_|(refine Z8 ?_;intro κ hκ)|(refine Z4 ?_;clear hκ κ)|(refine Z2 ?_ ?_<;>intro h ad<;>try exact Xp)|(refine Z6 ?_;intro idn yn ai aj af ab ae aa)|(refine Z5 ?_;refine Xi (bh _) ?_;rintro _ _ ⟨rfl,au⟩;(have ax:=au.nobj;have an:=au.obj;have aw:=((hK.new _).put hK.nobj _).trans au;have av:=Own.keep (Own.put (Own.new hO _) _ _) au;simp only[Ab,Aa]at ax an))|refine Z3 ?_|exact⟨⟩|(apply hκ.out;clear hκ κ))
        refine⟨a.ts.length-(j+1),Ajm,j+1,i5,us,?_⟩
        ((repeat' with_reducible refine And.intro ?_ ?_)<;>first|exact Xq|exact (HU)|exact Xs)
       ·have a6:decide (w2∉us)=true:=by simp[hm]
        rw[a6]at bf;have HU:Ajs (Grown init V (us++[w2])/\(us++[w2]).take rs.length=rs/\(∀v∈ws,v∈us++[w2])/\∀v,(true,v)∈a.ts.take (j+1)->v∈us++[w2]):=by
         refine⟨hU.out.1.snoc (bg w2 bd) hm,?_,fun v hv=>Ahs.2 (.inl (hU.out.2.2.1 v hv)),fun v hv=>?_⟩
         ·rw[List.take_append_of_le_length bw];exact hU.out.2.1
         ·rw[bo.out]at hv;rcases Ahs.1 hv with h|h
          ·exact Ahs.2 (.inl (hU.out.2.2.2 v h))
          ·simp at h;subst h;simp
        have br:us.length+1<=init.length+V.length:=by
         have:=HU.out.1.le;simpa using this
        clear a6 hm
        repeat' (first|refine Z1 ?_|(refine Z8 ?_;intro κ hκ)|(refine Z4 ?_;clear hκ κ)|(refine Z2 ?_ ?_<;>intro h ad<;>try exact Xp)|(refine Z6 ?_;intro idn yn ai aj af ab ae aa)|(refine Z5 ?_;refine Xi (bh _) ?_;rintro _ _ ⟨rfl,au⟩;(have ax:=au.nobj;have an:=au.obj;have aw:=((hK.new _).put hK.nobj _).trans au;have av:=Own.keep (Own.put (Own.new hO _) _ _) au;simp only[Ab,Aa]at ax an;have ba:=an y3.nobj Ajm;rw[Ak]at ba))|refine Z3 ?_|exact⟨⟩|(apply hκ.out;clear hκ κ))
        refine⟨a.ts.length-(j+1),Ajm,j+1,idn,us++[w2],?_⟩
        ((repeat' with_reducible refine And.intro ?_ ?_)<;>first|exact Xq|exact (by simpa using ai)|exact (HU)|exact (by simp[Am])|exact Xs)
     ·have bc:j=a.ts.length:=Ajm;subst bc;have HW:Ajs (Grown init V us/\us.take rs.length=rs/\Fb (l.take (k+1)) rs us):=by
       obtain⟨u1,u2,u3,u4⟩:=hU.out;rw[Agw]at u4;refine⟨u1,u2,?_⟩;rw[HT.out];intro b hb h v hv;rcases Ahs.1 hb with hb|hb
       ·exact u3 v (hW.out.2.2 b hb h v hv)
       ·simp at hb;subst hb;exact u4 v hv
      clear hU hW HT
      repeat' (first|refine Z1 ?_|(refine Z8 ?_;intro κ hκ)|(refine Z4 ?_;clear hκ κ)|(refine Z2 ?_ ?_<;>intro h ad<;>try exact Xp)|(refine Z6 ?_;intro idn yn ai aj af ab ae aa)|refine Z3 ?_|exact⟨⟩|(apply hκ.out;clear hκ κ))
      refine⟨l.length-(k+1),Ajm,k+1,i5,us,?_⟩
      ((repeat' with_reducible refine And.intro ?_ ?_)<;>first|exact Xq|exact (HW)|exact Xs)
   ·have b1:k=l.length:=Ajm;subst b1;have HW:Ajs (Grown init V ws/\Fb l (ws.take rs.length) ws):=by
     obtain⟨u1,u2,u3⟩:=hW.out;rw[Agw]at u3;exact⟨u1,by rw[u2];exact u3⟩
    clear hW
    repeat' (first|refine Z1 ?_|(refine Z8 ?_;intro κ hκ)|(refine Z4 ?_;clear hκ κ)|(refine Z2 ?_ ?_<;>intro h ad<;>try exact Xp)|(refine Z6 ?_;intro idn yn ai aj af ab ae aa)|refine Z3 ?_|exact⟨⟩|(apply hκ.out;clear hκ κ))
    refine⟨2*(init.length+V.length-ws.length)+(if (rs.length:Int)<(ws.length:Int)then 1 else 0),by split<;>omega,rs.length,i4,rs.length,ws,?_⟩
    ((repeat' with_reducible refine And.intro ?_ ?_)<;>first|exact Xq|exact (HW)|exact (.inl rfl)|exact Xs)
  ·have hF:Grown init V rs/\Fb l rs rs:=by
    have hB:B=rs.length:=by rcases b6 with h|⟨h1,h2⟩<;>omega
    obtain⟨u1,u2⟩:=hG.out;rw[hB,Agw]at u2;exact⟨u1,u2⟩
   have HF:Ajs _:=hF;clear hF;have ch:decide ((rs.length:Int)>Bi)=false:=by simp;omega
   repeat' (first|refine Z1 ?_|(refine Z8 ?_;intro κ hκ)|(refine Z4 ?_;clear hκ κ)|(refine Z2 ?_ ?_<;>intro h ad<;>try exact Xp)|(refine Z6 ?_;intro idn yn ai aj af ab ae aa)|refine Z3 ?_|exact⟨⟩|(apply hκ.out;clear hκ κ))
   first|exact⟨_,rfl,⟨i3,rs,rfl,HF.out.1,HF.out.2⟩,hK⟩|exact⟨_,rfl,i3,rs,rfl,HF.out.1,HF.out.2⟩
end Go.Proofs.YtmoeoppbmhfbpabGreatDoorL
