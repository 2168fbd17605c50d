import Derived.Test.YtmoeoppbmhfbpabGreatDoorGEngJ
set_option maxHeartbeats 32000000
set_option maxRecDepth 100000
set_option linter.all false
namespace Go.Proofs.YtmoeoppbmhfbpabGreatDoorG
open Go.Abs
inductive NarS (q:Qry):Qry->Prop where
 |refl:NarS q q
 |tail {q':Qry} (v:Int):NarS q q'->NarS q (Fb q' v)
theorem P0 (l:List Part)(v:Int)(p:Part):(Fu l v p).a=p.a:=by unfold Fu;split<;>rfl
theorem Ou (l:List Part)(v:Int)(p:Part):∀t∈(Fu l v p).tups,t∈p.tups:=by
 unfold Fu;split
 ·intro t ht;exact (Afx.1 ht).1
 ·exact fun t ht=>ht
theorem dZ (l:List Part)(v:Int)(p:Part):(Fu l v p).tups.length<=p.tups.length:=by
 unfold Fu;split
 ·exact Afy _ _
 ·exact Adn _
theorem tU {q:Qry}{v:Int}(h:Nx q):Nx (Fb q v):=by
 have hm:∀p∈(Fb q v).parts,∃p0∈q.parts,Fu q.parts v p0=p:=fun p hp=>Aey.1 hp;refine⟨h.hd,by simp[Fb];exact h.pl,h.nl,fun p hp=>?_,fun p hp=>?_,fun p hp=>?_,h.na⟩
 ·obtain⟨p0,h0,rfl⟩:=hm p hp;rw[P0];exact h.pa p0 h0
 ·obtain⟨p0,h0,rfl⟩:=hm p hp;exact Ado (dZ _ _ _) (h.pt p0 h0)
 ·obtain⟨p0,h0,rfl⟩:=hm p hp;exact fun t ht=>h.p3 p0 h0 t (Ou _ _ _ t ht)
theorem yJ {q:Qry}{v:Int}(h:QN q):QN (Fb q v):=fun p hp t ht=>by
 obtain⟨p0,h0,rfl⟩:=Aey.1 hp;rw[P0];exact h p0 h0 t (Ou _ _ _ t ht)
theorem NarS.ok {q q':Qry}(h:NarS q q')(hq:Nx q):Nx q':=by
 induction h with
 |refl=>exact hq
 |tail v _ ih=>exact tU ih
theorem NarS.n {q q':Qry}(h:NarS q q')(hq:QN q):QN q':=by
 induction h with
 |refl=>exact hq
 |tail v _ ih=>exact yJ ih
def Pt (q:Qry)(v:Int):Qry:=if 1<C1 (q.parts.map (·.a)) v then Fb q v else q
def gD (q:Qry)(vs:List Int):Qry:=vs.foldl Pt q
theorem cL {q:Qry}(h:Nx q):Cn q.parts<=320000:=by
 have h1:=h.pl;have h2:=h.pt;have:∀l:List Part,(∀p∈l,p.tups.length<=5000)->Cn l<=l.length*5000:=by
  intro l;induction l with
  |nil=>intro _;simp[Cn]
  |cons a l ih=>
   intro h;have h3:=h a (by simp);have h4:=ih (fun p hp=>h p (by simp[hp]));simp only[Cn,Ad9,List.sum_cons,Aen]at*
   omega
 have h5:=this q.parts h2;omega
theorem pS (q:Qry)(c:List AV)(hc:EQ q c)(hq:Nx q)(hN:QN q)(y:St):ACalls Tryz.prog 220 [ag c] y fun r y'=>(∃c' q' qp,r=ag c'/\EQ q' c'/\NarS q qp/\NarS q q'/\q'=gD qp (Cb (atomsQ qp))/\Cn qp.parts<=Cn q'.parts)/\Keep y y':=by
 have hS:=fun y=>Uf q c hc hq y;have be:=cL hq;have HC:Agt (EQ q c):=hc;obtain⟨ih0,ip0,in0,pc0,nc0,rfl,-,-⟩:=hc;refine Z9 32 [.cell 2 191] Tryz.func220 ?_
 repeat' (first|refine Z1 ?_|(refine Z8 ?_;intro κ hκ)|(refine Z4 ?_;clear hκ κ)|(refine Z2 ?_ ?_<;>intro h ae<;>try exact Xp)|(refine Z5 ?_;refine Xi (hS _) ?_;rintro _ _ ⟨rfl,ad⟩;(have ac:=ad.nobj;have aa:=ad.obj;have ab:=(((Keep.refl y).new _).new _).trans ad;simp only[Aa]at ac aa))|refine Z3 ?_|exact⟨⟩|(apply hκ.out;clear hκ κ))
 rename_i y1;have o0:y1.obj y.nobj=[ic q.head.p,sl ih0 q.head.ts.length (Ac q.head.ts),sl ip0 q.parts.length pc0,sl in0 q.nots.length nc0]:=by rw[aa _ Agm,Af Agq,Ap]
 have o1:y1.obj (y.nobj+1)=[ic 0,nilS,nilS,nilS]:=by rw[aa _ Agm,Bs Agq Agq]
 clear aa ad
 refine Ag (fun m s y'=>∃(qk:Qry) (ck:List AV),s 1=ptr y.nobj 0/\s 2=ptr (y.nobj+1) 0/\s 3=ic m/\m<=320001/\Keep y y'/\y.nobj+1<y'.nobj/\y'.obj y.nobj=ck/\y'.obj (y.nobj+1)=[ic 0,nilS,nilS,nilS]/\Agt (EQ qk ck/\NarS q qk/\(Cn qk.parts<m\/∃qp,NarS q qp/\qk=gD qp (Cb (atomsQ qp))/\Cn qp.parts=m))) (Cn q.parts+1)
  ⟨q,_,Ago,Ago,Ago,Agm,ab,Agm,o0,o1,HC.out,.refl,.inl Agm⟩ ?_
 clear o0 o1 ab ac hS be HC;rintro m s y' ⟨qk,ck,h1,h2,h3,hm,hK,hno,ax,aw,hQ⟩;have b0:=hK.nobj;have ah:=hQ.out.2.1.ok hq;have bf:=hQ.out.2.1.n hN;have hS:=fun y=>Uf qk ck hQ.out.1 ah y;have bg:=fun y=>Ir qk ck hQ.out.1 ah y;have be:=cL ah;obtain⟨ihk,ipk,ink,pck,nck,rfl,-,-⟩:=hQ.out.1;have bb:=Lo ah;have b2:=Ib ah;have a7:=fun (cs:List AV) (i:Nat) (hE:EL Me (atomsQ qk) cs) (y:St)=>Gj (atomsQ qk) cs i hE bb Agm y;have bn:=Es bb;have b6:Agt (Nx qk/\QN qk):=⟨ah,bf⟩;by_cases bp:Cn qk.parts<m
 ·generalize bd:Cb (atomsQ qk)=vs at a7 bn;have bw:Agt _:=bd;clear bd bb bf ah;generalize a4:Cn qk.parts=sz at*
  have bz:Agt _:=a4;clear a4
  repeat' (first|refine Z1 ?_|(refine Z8 ?_;intro κ hκ)|(refine Z4 ?_;clear hκ κ)|(refine Z2 ?_ ?_<;>intro h ae<;>try exact Xp)|(refine Z5 ?_;first|(refine Xi (hS _) ?_;rintro _ _ ⟨rfl,ad⟩;(have ac:=ad.nobj;have aa:=ad.obj;have ab:=hK.trans ad;clear hK ad;have hK:=ab;clear ab))|(refine Xi (bg _) ?_;rintro _ _ ⟨ida,cs,rfl,hE,av⟩;(have a3:=av.nobj;have an:=av.obj;have ab:=hK.trans av;clear av hK;have hK:=ab;clear ab;have ao:=a7 cs ida hE))|(refine Xi (ao _) ?_;rintro _ _ ⟨⟨idv,rfl⟩,au⟩;(have a0:=au.nobj;have am:=au.obj;have ab:=hK.trans au;clear au hK;have hK:=ab;clear ab)))|refine Z3 ?_|exact⟨⟩|(apply hκ.out;clear hκ κ))
  rename_i ya kno2a kob2a yb yc yd;have b1:=Bp vs;have ech:∀p,p<y'.nobj->yd.obj p=y'.obj p:=fun p hp=>by rw[am _ Agm,an _ Agm,aa _ Agm,kob2a _ Agm]
  refine Ag (fun m' s y2=>∃(j:Nat) (qj:Qry) (cj:List AV),m'=vs.length-j/\j<=vs.length/\s 1=ptr y.nobj 0/\s 2=ptr (y.nobj+1) 0/\s 3=ic sz/\s 17=sl idv vs.length (As vs)/\s 18=ic vs.length/\s 19=ic j/\Keep y y2/\y.nobj+1<y2.nobj/\y2.obj y.nobj=cj/\y2.obj (y.nobj+1)=[ic 0,nilS,nilS,nilS]/\Agt (EQ qj cj/\NarS q qj/\qj=gD qk (vs.take j))) vs.length
   ⟨0,qk,_,Agm,Agm,Agn,Agn,Agn,Ago,Ago,rfl,hK,Agm,rfl,by rw[ech _ Agm,aw],by rw[ech _ Agm,ax];exact hQ.out.1,hQ.out.2.1,by simp[gD]⟩ ?_
  clear ech am an aa kob2a hK ax aw h1 h2 h3 hno hS bg a7 ao hE a0 a3 ac kno2a;rintro m' s y2 ⟨j,qj,cj,rfl,hj,h1,h2,h3,b5,b4,b3,hK,hno,ax,aw,hJ⟩;have ac:=hK.nobj;have a5:=hJ.out.2.1.ok hq;have bo:=hJ.out.2.1.n hN;have ak:=fun v y=>Ki qj cj v hJ.out.1 a5 y;have a8:=fun v y=>eY qj cj v hJ.out.1 a5 bo y;have ap:∀v,C1 (qj.parts.map (·.a)) v<=64:=fun v=>by
   have h1:=mW (qj.parts.map (·.a)) v;have h2:=a5.pl;simp at h1;omega
  have bh:Agt (EQ qj cj):=hJ.out.1;obtain⟨ihj,ipj,inj,pcj,ncj,rfl,-,-⟩:=hJ.out.1;by_cases a6:j<vs.length
  ·have af:=List.getElem?_eq_getElem a6;obtain⟨r,hd⟩:=C9 af;generalize vs[j]=v at hd af;have HR:Agt (gD qk (vs.take (j+1))=Pt qj v):=by
    rw[Agt,Ad3,af,Afe,gD,Afw,hJ.out.2.2];rfl
   clear af;have ak:=ak v;have a8:=a8 v;have ap:=ap v;by_cases aj:1<C1 (qj.parts.map (·.a)) v
   ·have HR:Agt (gD qk (vs.take (j+1))=Fb qj v):=by rw[Agt,HR.out,Pt,if_pos aj]
    generalize C1 (qj.parts.map (·.a)) v=cn at ak aj ap;have hb:decide ((cn:Int)>1)=true:=by simp;omega
    clear aj
    repeat' (first|refine Z1 ?_|(refine Z8 ?_;intro κ hκ)|(refine Z4 ?_;clear hκ κ)|(refine Z2 ?_ ?_<;>intro h ae<;>try exact Xp)|(refine Z5 ?_;first|(refine Xi (ak _) ?_;rintro _ _ ⟨rfl,ai⟩;(have az:=ai.nobj;have ay:=ai.obj;have ab:=hK.trans ai))|(refine Xi (a8 _) ?_;rintro _ _ ⟨⟨_,rfl,ih6,ip6,in6,pc6,nc6,rfl,br,bu⟩,a9⟩;(have bm:=a9.nobj;have bi:=a9.obj;have bv:=ab.trans a9)))|refine Z3 ?_|exact⟨⟩|(apply hκ.out;clear hκ κ))
    refine⟨vs.length-(j+1),Agm,j+1,Fb qj v,[ic (Fb qj v).head.p,sl ih6 (Fb qj v).head.ts.length (Ac (Fb qj v).head.ts),sl ip6 (Fb qj v).parts.length pc6,sl in6 (Fb qj v).nots.length nc6],?_⟩
    ((repeat' with_reducible refine And.intro ?_ ?_)<;>first|exact Xq|exact (bv.put Agm _)|exact (⟨⟨ih6,ip6,in6,pc6,nc6,rfl,br,bu⟩,.tail v hJ.out.2.1,HR.out.symm⟩)|exact Xs)
   ·have HR:Agt (gD qk (vs.take (j+1))=qj):=by rw[Agt,HR.out,Pt,if_neg aj]
    generalize C1 (qj.parts.map (·.a)) v=cn at ak aj ap;have hb:decide ((cn:Int)>1)=false:=by simp;omega
    clear aj
    repeat' (first|refine Z1 ?_|(refine Z8 ?_;intro κ hκ)|(refine Z4 ?_;clear hκ κ)|(refine Z2 ?_ ?_<;>intro h ae<;>try exact Xp)|(refine Z5 ?_;refine Xi (ak _) ?_;rintro _ _ ⟨rfl,ai⟩;(have az:=ai.nobj;have ay:=ai.obj;have ab:=hK.trans ai))|refine Z3 ?_|exact⟨⟩|(apply hκ.out;clear hκ κ))
    refine⟨vs.length-(j+1),Agm,j+1,qj,[ic qj.head.p,sl ihj qj.head.ts.length (Ac qj.head.ts),sl ipj qj.parts.length pcj,sl inj qj.nots.length ncj],?_⟩
    ((repeat' with_reducible refine And.intro ?_ ?_)<;>first|exact Xq|exact (⟨bh.out,hJ.out.2.1,HR.out.symm⟩)|exact Xs)
  ·have bq:j=vs.length:=Agm;subst bq;have ba:=hJ.out.2.2;rw[Adz]at ba
   have HF:Agt (EQ qj [ic qj.head.p,sl ihj qj.head.ts.length (Ac qj.head.ts),sl ipj qj.parts.length pcj,sl inj qj.nots.length ncj]/\NarS q qj/\(Cn qj.parts<sz\/∃qp,NarS q qp/\qj=gD qp (Cb (atomsQ qp))/\Cn qp.parts=sz)):=
    ⟨bh.out,hJ.out.2.1,.inr ⟨qk,hQ.out.2.1,by rw[bw.out];exact ba,bz.out⟩⟩
   clear ba
   repeat' (first|refine Z1 ?_|(refine Z8 ?_;intro κ hκ)|(refine Z4 ?_;clear hκ κ)|(refine Z2 ?_ ?_<;>intro h ae<;>try exact Xp)|refine Z3 ?_|exact⟨⟩|(apply hκ.out;clear hκ κ))
   refine⟨sz,Agm,qj,[ic qj.head.p,sl ihj qj.head.ts.length (Ac qj.head.ts),sl ipj qj.parts.length pcj,sl inj qj.nots.length ncj],?_⟩
   ((repeat' with_reducible refine And.intro ?_ ?_)<;>first|exact Xq|exact (HF)|exact Xs)
 ·have hR:∃qp,NarS q qp/\qk=gD qp (Cb (atomsQ qp))/\Cn qp.parts<=Cn qk.parts:=by
   rcases hQ.out.2.2 with h|⟨qp,h1,h2,h3⟩
   ·exact absurd h bp
   ·exact⟨qp,h1,h2,Agm⟩
  have HR:Agt _:=hR;clear hR;generalize a4:Cn qk.parts=sz at*
  repeat' (first|refine Z1 ?_|(refine Z8 ?_;intro κ hκ)|(refine Z4 ?_;clear hκ κ)|(refine Z2 ?_ ?_<;>intro h ae<;>try exact Xp)|(refine Z5 ?_;refine Xi (hS _) ?_;rintro _ _ ⟨rfl,ad⟩;(have ac:=ad.nobj;have aa:=ad.obj;have ab:=hK.trans ad))|refine Z3 ?_|exact⟨⟩|(apply hκ.out;clear hκ κ))
  obtain⟨qp,r1,r2,r3⟩:=HR.out;exact⟨_,rfl,⟨_,qk,qp,rfl,hQ.out.1,r1,hQ.out.2.1,r2,Agm⟩,ab.put Agm _⟩
theorem T6:∀{l m:List Int},l.Nodup->(∀x∈l,x∈m)->l.length<=m.length
 |[],m,_,_=>by simp
 |a::l,m,hn,hs=>by
  have aa:=List.nodup_cons.1 hn;have ha:=hs a (by simp)
  have h1:=T6 (l:=l) (m:=m.erase a) aa.2 (fun x hx=>by
   have ab:x≠a:=fun e=>aa.1 (e ▸ hx)
   exact (List.mem_erase_of_ne ab).2 (hs x (by simp[hx])))
  rw[List.length_erase_of_mem ha]at h1;have:0<m.length:=List.length_pos_of_mem ha;simp only[Aen];omega
theorem R8:∀(l:List Ca) (pl:Int) (acc:List Int),acc.Nodup->(l.foldl (nQ pl) acc).Nodup
 |[],pl,acc,h=>h
 |t::l,pl,acc,h=>by
  rw[Ady];apply R8;unfold nQ;split
  ·exact h
  ·rename_i hc;rw[Afp];exact⟨h,by simp,fun a ha b hb=>by simp at hb;subst hb;rintro rfl;exact hc ha⟩
theorem R9:∀(l:List Ca) (pl:Int) (acc:List Int) (n:Int),n∈l.foldl (nQ pl) acc↔n∈acc\/∃t∈l,Hh t pl=n
 |[],pl,acc,n=>by simp
 |t::l,pl,acc,n=>by
  rw[Ady,R9];unfold nQ;by_cases hc:Hh t pl∈acc
  ·rw[if_pos hc];constructor
   ·rintro (h|⟨u,hu,e⟩)
    ·exact .inl h
    ·exact .inr ⟨u,by simp[hu],e⟩
   ·rintro (h|⟨u,hu,e⟩)
    ·exact .inl h
    ·rcases Aeq.1 hu with rfl|hu
     ·exact .inl (e ▸ hc)
     ·exact .inr ⟨u,hu,e⟩
  ·rw[if_neg hc];constructor
   ·rintro (h|⟨u,hu,e⟩)
    ·rcases Aew.1 h with h|h
     ·exact .inl h
     ·simp at h;exact .inr ⟨t,by simp,h.symm⟩
    ·exact .inr ⟨u,by simp[hu],e⟩
   ·rintro (h|⟨u,hu,e⟩)
    ·exact .inl (Aew.2 (.inl h))
    ·rcases Aeq.1 hu with rfl|hu
     ·exact .inl (Aew.2 (.inr (by simp[e])))
     ·exact .inr ⟨u,hu,e⟩
theorem Sa {q:Qry}(hN:QN q)(v:Int):(Kl q v).length<=1026:=by
 have hr:((List.range 1026).map fun k:Nat=>(k:Int)).length=1026:=by simp
 rw[<-hr];unfold Kl;split
 ·rename_i p hp;have ab:=List.mem_of_find?_eq_some hp;have aa:Bc p.a.ts v=true:=by simpa using List.find?_some hp
  obtain⟨pl,hpl,ac⟩:=Jd aa;rw[ac];apply T6 (R8 _ _ _ Afr);intro n hn;unfold Vi at hn;rw[R9]at hn;rcases hn with h|⟨t,ht,e⟩
  ·cases h
  ·obtain⟨x,hx,ad⟩:=hN p ab t ht pl hpl;rw[Aey];exact⟨x,by simpa using ad,by rw[<-e];simp[Hh,hx]⟩
 ·simp
def QV (q:Qry):Prop:=∀a∈atomsQ q,∀v,(true,v)∈a.ts->0<=v
theorem Zr (q:Qry)(c:List AV)(hc:EQ q c)(hq:Nx q)(hN:QN q)(hV:QV q)(y:St):ACalls Tryz.prog 222 [ag c] y fun r y'=>(∃b,r=ic b/\((b= -1/\∀v∈Cb (atomsQ q),Cz q v=false)\/(b∈Cb (atomsQ q)/\Cz q b=true)))/\Keep y y':=by
 have a4:=fun y=>Ir q c hc hq y;have ah:=fun v y=>O2 q c v hc hq y;have aw:=fun v y=>J6 q c v hc hq hN y;have az:=fun v=>Sa hN v;have a5:=Lo hq;have bi:=Ib hq;have a3:=fun (cs:List AV) (i:Nat) (hE:EL Me (atomsQ q) cs) (y:St)=>Gj (atomsQ q) cs i hE a5 Agm y;have be:=Es a5;obtain⟨ih,ip,inn,pc,nc,rfl,-,-⟩:=hc;generalize Cb (atomsQ q)=vs at*
 have bf:=Bp vs;refine Z9 31 [.tmp 2] Tryz.func222 ?_
 repeat' (first|refine Z1 ?_|(refine Z8 ?_;intro κ hκ)|(refine Z4 ?_;clear hκ κ)|(refine Z2 ?_ ?_<;>intro h ad<;>try exact Xp)|(refine Z5 ?_;first|(refine Xi (a4 _) ?_;rintro _ _ ⟨ida,cs,rfl,hE,ao⟩;(have aj:=ao.nobj;have ab:=ao.obj;have hK:=((Keep.refl y).new _).trans ao;have ak:=a3 cs ida hE;simp only[Aa]at aj ab))|(refine Xi (ak _) ?_;rintro _ _ ⟨⟨idv,rfl⟩,an⟩;(have av:=an.nobj;have ai:=an.obj;have am:=hK.trans an;clear an hK;have hK:=am;clear am)))|refine Z3 ?_|exact⟨⟩|(apply hκ.out;clear hκ κ))
 rename_i ya yb;have o0:yb.obj y.nobj=[ic q.head.p,sl ih q.head.ts.length (Ac q.head.ts),sl ip q.parts.length pc,sl inn q.nots.length nc]:=by rw[ai _ Agm,ab _ Agm,Ap]
 clear ab ai a4 a3 ak hE ao
 refine Ag (fun m s y'=>∃(j w:Nat) (b:Int),m=vs.length-j/\j<=vs.length/\s 1=ptr y.nobj 0/\s 3=ic b/\s 4=ic w/\s 10=sl idv vs.length (As vs)/\s 11=ic vs.length/\s 12=ic j/\Keep y y'/\y.nobj<y'.nobj/\y'.obj y.nobj=[ic q.head.p,sl ih q.head.ts.length (Ac q.head.ts),sl ip q.parts.length pc,sl inn q.nots.length nc]/\w<=1027/\Agt ((b= -1/\w=1027/\∀v∈vs.take j,Cz q v=false)\/(b∈vs/\Cz q b=true))) vs.length
  ⟨0,1027,-1,Agm,Agm,Ago,Ago,Ago,Ago,Ago,rfl,hK,Agm,o0,Agm,.inl ⟨rfl,rfl,by simp⟩⟩ ?_
 clear hK o0 aj av;rintro m s y' ⟨j,w,b,rfl,hj,h1,h3,h4,bo,bn,bm,hK,hno,bb,hw,hB⟩;have bd:=hK.nobj;by_cases a0:j<vs.length
 ·have aa:=List.getElem?_eq_getElem a0;obtain⟨r,hd⟩:=C9 aa;have ac:=Afa a0;generalize vs[j]=v at hd aa ac;have ah:=ah v;have aw:=aw v;have az:=az v
  have HM:Agt (v∈vs/\∀u∈vs.take (j+1),u∈vs.take j\/u=v):=⟨ac,fun u hu=>by
   rw[Ad3,aa,Afe]at hu;rcases Aew.1 hu with h|h
   ·exact .inl h
   ·simp at h;exact .inr h⟩
  clear aa ac;cases af:Cz q v with
  |false=>
   rw[af]at ah;have HB:Agt ((b= -1/\w=1027/\∀v∈vs.take (j+1),Cz q v=false)\/(b∈vs/\Cz q b=true)):=by
    rcases hB.out with⟨h1,h2,h3⟩|h
    ·refine .inl ⟨h1,h2,fun u hu=>?_⟩;rcases HM.out.2 u hu with h|rfl
     ·exact h3 u h
     ·exact af
    ·exact .inr h
   clear hB HM af
   repeat' (first|refine Z1 ?_|(refine Z8 ?_;intro κ hκ)|(refine Z4 ?_;clear hκ κ)|(refine Z2 ?_ ?_<;>intro h ad<;>try exact Xp)|(refine Z5 ?_;refine Xi (ah _) ?_;rintro _ _ ⟨rfl,ae⟩;(have au:=ae.nobj;have ap:=ae.obj;have am:=hK.trans ae))|refine Z3 ?_|exact⟨⟩|(apply hκ.out;clear hκ κ))
   refine⟨vs.length-(j+1),Agm,j+1,w,b,?_⟩
   ((repeat' with_reducible refine And.intro ?_ ?_)<;>first|exact Xq|exact (HB)|exact Xs)
  |true=>
   rw[af]at ah;have ba:Agt ((v= -1/\(Kl q v).length=1027/\∀v∈vs.take (j+1),Cz q v=false)\/(v∈vs/\Cz q v=true)):=.inr ⟨HM.out.1,af⟩;have a9:Agt (¬(Kl q v).length<w->(b= -1/\w=1027/\∀v∈vs.take (j+1),Cz q v=false)\/(b∈vs/\Cz q b=true)):=fun hn=>by
    rcases hB.out with⟨h1,h2,h3⟩|h
    ·omega
    ·exact .inr h
   clear hB HM af;generalize ay:Kl q v=vq at*
   have bp:Agt _:=ay;clear ay;have bg:=Bp vq
   repeat' (first|refine Z1 ?_|(refine Z8 ?_;intro κ hκ)|(refine Z4 ?_;clear hκ κ)|(refine Z2 ?_ ?_<;>intro h ad<;>try exact Xp)|(refine Z5 ?_;first|(refine Xi (ah _) ?_;rintro _ _ ⟨rfl,ae⟩;(have au:=ae.nobj;have ap:=ae.obj;have am:=hK.trans ae))|(refine Xi (aw _) ?_;rintro _ _ ⟨⟨idq,rfl⟩,ax⟩;(have a7:=ax.nobj;have a6:=ax.obj;have bh:=am.trans ax)))|refine Z3 ?_|exact⟨⟩|(apply hκ.out;clear hκ κ))
   ·refine⟨vs.length-(j+1),Agm,j+1,vq.length,v,?_⟩
    ((repeat' with_reducible refine And.intro ?_ ?_)<;>first|exact Xq|exact (ba)|exact Xs)
   ·refine⟨vs.length-(j+1),Agm,j+1,w,b,?_⟩
    ((repeat' with_reducible refine And.intro ?_ ?_)<;>first|exact Xq|exact (a9.out Agm)|exact Xs)
 ·have a8:j=vs.length:=Agm;subst a8;rw[Adz]at hB;have HB:Agt ((b= -1/\∀v∈vs,Cz q v=false)\/(b∈vs/\Cz q b=true)):=by
   rcases hB.out with⟨h1,-,h3⟩|h
   ·exact .inl ⟨h1,h3⟩
   ·exact .inr h
  repeat' (first|refine Z1 ?_|(refine Z8 ?_;intro κ hκ)|(refine Z4 ?_;clear hκ κ)|(refine Z2 ?_ ?_<;>intro h ad<;>try exact Xp)|refine Z3 ?_|exact⟨⟩|(apply hκ.out;clear hκ κ))
  first|exact⟨_,rfl,⟨b,rfl,HB.out⟩,hK⟩|exact⟨_,rfl,b,rfl,HB.out⟩
def Ex (l:List C4)(small big:List Int):Prop:=∀a∈l,small.any (Bc a.ts)=true->∀v,(true,v)∈a.ts->v∈big
def Grown (init V rs:List Int):Prop:=∃ad:List Int,rs=init++ad/\ad.Nodup/\∀v∈ad,v∈V
theorem Grown.le {init V rs:List Int}(h:Grown init V rs):rs.length<=init.length+V.length:=by
 obtain⟨ad,rfl,h1,h2⟩:=h;have:=T6 h1 h2;simp;omega
theorem Grown.snoc {init V rs:List Int}(h:Grown init V rs){v:Int}(hv:v∈V)(hn:v∉rs):Grown init V (rs++[v]):=by
 obtain⟨ad,rfl,h1,h2⟩:=h;refine⟨ad++[v],by simp,?_,?_⟩
 ·rw[Afp];exact⟨h1,by simp,fun a ha b hb=>by simp at hb;subst hb;rintro rfl;exact hn (Aew.2 (.inr ha))⟩
 ·intro u hu;rcases Aew.1 hu with h|h
  ·exact h2 u h
  ·simp at h;subst h;exact hv
theorem Vs (q:Qry)(c:List AV)(init:List Int)(idi:Nat)(hc:EQ q c)(hq:Nx q)(cg:init.length<=200)(y:St):ACalls Tryz.prog 224 [ag c,sl idi init.length (As init)] y fun r y'=>(∃id rs,r=sl id rs.length (As rs)/\Grown init (Cb (atomsQ q)) rs/\Ex (atomsQ q) rs rs)/\Keep y y':=by
 have b8:=fun y=>Ir q c hc hq y;have bi:=Lo hq;have cn:=Ib hq;have ck:=Es bi;have b6:∀a∈atomsQ q,∀v,(true,v)∈a.ts->v∈Cb (atomsQ q):=fun a ha v hv=>(Cy _ _).2 ⟨a,ha,hv⟩;obtain⟨ih,ip,inn,pc,nc,rfl,-,-⟩:=hc;generalize Cb (atomsQ q)=V at*
 generalize atomsQ q=l at*
 have ch:=Bp init;refine Z9 66 [.tmp 4] Tryz.func224 ?_
 repeat' (first|refine Z1 ?_|(refine Z8 ?_;intro κ hκ)|(refine Z4 ?_;clear hκ κ)|(refine Z2 ?_ ?_<;>intro h ad<;>try exact Xp)|(refine Z6 ?_;intro idn yn ai aj af ab ae aa)|refine Z3 ?_|exact⟨⟩|(apply hκ.out;clear hκ κ))
 refine Ag (fun m s y'=>∃(j i3:Nat) (rs:List Int),m=init.length-j/\j<=init.length/\s 2=ptr y.nobj 0/\s 5=sl i3 rs.length (As rs)/\s 14=sl idi init.length (As init)/\s 15=ic init.length/\s 16=ic j/\Keep y y'/\y.nobj<y'.nobj/\y'.obj y.nobj=[ic q.head.p,sl ih q.head.ts.length (Ac q.head.ts),sl ip q.parts.length pc,sl inn q.nots.length nc]/\Own y y' i3 rs.length/\rs.length<=j/\Agt (rs=init.take j)) init.length
  ⟨0,1,[],Agm,Agm,Ago,by simp[upd,As],by simp[upd,initS],Ago,rfl,Xs,Agq,by rw[Ap],Own.nil _ _,by simp,by simp[Agt]⟩ ?_
 rintro m s y' ⟨j,i3,rs,rfl,hj,h2,h5,cb,ca,b9,hK,hno,am,hO,be,hR⟩;have az:=hK.nobj;by_cases a8:j<init.length
 ·have ac:=List.getElem?_eq_getElem a8;obtain⟨r,hd⟩:=C9 ac;generalize init[j]=v at hd ac;have HR:Agt (rs++[v]=init.take (j+1)):=by rw[Agt,Ad3,ac,Afe,hR.out]
  have b0:=Bp rs;clear ac hR
  repeat' (first|refine Z1 ?_|(refine Z8 ?_;intro κ hκ)|(refine Z4 ?_;clear hκ κ)|(refine Z2 ?_ ?_<;>intro h ad<;>try exact Xp)|(refine Z6 ?_;intro idn yn ai aj af ab ae aa)|refine Z3 ?_|exact⟨⟩|(apply hκ.out;clear hκ κ))
  refine⟨init.length-(j+1),Agm,j+1,idn,rs++[v],?_⟩
  ((repeat' with_reducible refine And.intro ?_ ?_)<;>first|exact Xq|exact (by simpa using ai)|exact (HR)|exact (by simp[As])|exact Xs)
 ·have bb:j=init.length:=Agm;subst bb;rw[Adz]at hR;have hR:=hR.out.symm;subst hR;clear a8 hj
  repeat' (first|refine Z1 ?_|(refine Z8 ?_;intro κ hκ)|(refine Z4 ?_;clear hκ κ)|(refine Z2 ?_ ?_<;>intro h ad<;>try exact Xp)|(refine Z6 ?_;intro idn yn ai aj af ab ae aa)|refine Z3 ?_|exact⟨⟩|(apply hκ.out;clear hκ κ))
  refine Ag (fun m s y'=>∃(B i3:Nat) (Bi:Int) (rs:List Int),m=2*(init.length+V.length-rs.length)+(if Bi<(rs.length:Int)then 1 else 0)/\(Bi=B\/(Bi= -1/\B=0))/\s 2=ptr y.nobj 0/\s 5=sl i3 rs.length (As rs)/\s 8=ic Bi/\Keep y y'/\y.nobj<y'.nobj/\y'.obj y.nobj=[ic q.head.p,sl ih q.head.ts.length (Ac q.head.ts),sl ip q.parts.length pc,sl inn q.nots.length nc]/\Own y y' i3 rs.length/\rs.length<=init.length+V.length/\B<=rs.length/\Agt (Grown init V rs/\Ex l (rs.take B) rs)) (2*(init.length+V.length-init.length)+1)
   ⟨0,i3,-1,init,by rw[if_pos Agm],.inr ⟨rfl,rfl⟩,Agn,Agn,Ago,hK,hno,am,hO,Agm,Agm,⟨[],by simp,Afr,by simp⟩,fun a ha h=>by simp at h⟩ ?_
  clear hK hno am hO h2 h5 cb ca b9 az;rintro m s y' ⟨B,i3,Bi,rs,rfl,b7,h2,h5,h8,hK,hno,am,hO,be,cm,hG⟩;have az:=hK.nobj;have b0:=Bp rs;by_cases a8:Bi<(rs.length:Int)
  ·rw[if_pos a8]
   repeat' (first|refine Z1 ?_|(refine Z8 ?_;intro κ hκ)|(refine Z4 ?_;clear hκ κ)|(refine Z2 ?_ ?_<;>intro h ad<;>try exact Xp)|(refine Z6 ?_;intro idn yn ai aj af ab ae aa)|(refine Z5 ?_;refine Xi (b8 _) ?_;rintro _ _ ⟨ida,cs,rfl,hE,a6⟩;(have ba:=a6.nobj;have a0:=a6.obj;have aw:=hK.trans a6;have av:=Own.keep hO a6))|refine Z3 ?_|exact⟨⟩|(apply hκ.out;clear hκ κ))
   rename_i ya;have cj:=EL.length Hk hE
   refine Ag (fun m s y2=>∃(k i4:Nat) (ws:List Int),m=l.length-k/\k<=l.length/\s 2=ptr y.nobj 0/\s 5=sl i4 ws.length (As ws)/\s 8=ic rs.length/\s 32=sl ida l.length cs/\s 33=ic l.length/\s 34=ic k/\Keep y y2/\y.nobj<y2.nobj/\y2.obj y.nobj=[ic q.head.p,sl ih q.head.ts.length (Ac q.head.ts),sl ip q.parts.length pc,sl inn q.nots.length nc]/\Own y y2 i4 ws.length/\ws.length<=init.length+V.length/\rs.length<=ws.length/\Agt (Grown init V ws/\ws.take rs.length=rs/\Ex (l.take k) rs ws)) l.length
    ⟨0,i3,rs,Agm,Agm,Agn,Agn,Agn,Ago,Ago,rfl,aw,Agm,by rw[a0 _ Agm,am],av,be,Agm,hG.out.1,by simp,fun a ha=>by simp at ha⟩ ?_
   clear aw av a0 hK hO am hno h2 h5 h8 az a6 ba;rintro m s y2 ⟨k,i4,ws,rfl,hk,h2,h5,h8,bo,bn,bm,hK,hno,am,hO,bq,bw,hW⟩;have az:=hK.nobj;have cc:=Bp ws;by_cases ay:k<l.length
   ·have ac:=List.getElem?_eq_getElem ay;obtain⟨ida2,r2,b4⟩:=It hE ac;have hb:=bi _ (Afa ay);have bg:=b6 _ (Afa ay);generalize l[k]=a at b4 ac hb bg;have HT:Agt (l.take (k+1)=l.take k++[a]):=by rw[Agt,Ad3,ac,Afe]
    clear ac;have br:ws.length<=100000:=Agm;have b5:a.ts.length<=1000:=Agm;have a7:=fun y=>J7 a.p ida2 a.ts ws i4 b5 br y;have a3:∀v∈rs,v∈ws:=fun v hv=>by
     have:=hW.out.2.1;rw[<-this]at hv;exact List.mem_of_mem_take hv
    cases ap:ws.any (Bc a.ts)with
    |false=>
     have HW:Agt (Grown init V ws/\ws.take rs.length=rs/\Ex (l.take (k+1)) rs ws):=by
      refine⟨hW.out.1,hW.out.2.1,?_⟩;rw[HT.out];intro b hb h v hv;rcases Aew.1 hb with hb|hb
      ·exact hW.out.2.2 b hb h v hv
      ·simp at hb;subst hb;rw[Aeo]at h;obtain⟨u,hu,he⟩:=h;rw[Ae9]at ap;exact absurd he (ap u (a3 u hu))
     rw[ap]at a7;clear hW HT a3
     repeat' (first|refine Z1 ?_|(refine Z8 ?_;intro κ hκ)|(refine Z4 ?_;clear hκ κ)|(refine Z2 ?_ ?_<;>intro h ad<;>try exact Xp)|(refine Z6 ?_;intro idn yn ai aj af ab ae aa)|(refine Z5 ?_;refine Xi (a7 _) ?_;rintro _ _ ⟨rfl,ak⟩;(have ao:=ak.nobj;have ah:=ak.obj;have aw:=((hK.new _).put hK.nobj _).trans ak;have av:=Own.keep (Own.put (Own.new hO _) _ _) ak;simp only[Ab,Aa]at ao ah))|refine Z3 ?_|exact⟨⟩|(apply hκ.out;clear hκ κ))
     refine⟨l.length-(k+1),Agm,k+1,i4,ws,?_⟩
     ((repeat' with_reducible refine And.intro ?_ ?_)<;>first|exact Xq|exact (HW)|exact Xs)
    |true=>
     rw[ap]at a7;have cf:=Ch a.ts
     repeat' (first|refine Z1 ?_|(refine Z8 ?_;intro κ hκ)|(refine Z4 ?_;clear hκ κ)|(refine Z2 ?_ ?_<;>intro h ad<;>try exact Xp)|(refine Z6 ?_;intro idn yn ai aj af ab ae aa)|(refine Z5 ?_;refine Xi (a7 _) ?_;rintro _ _ ⟨rfl,ak⟩;(have ao:=ak.nobj;have ah:=ak.obj;have aw:=((hK.new _).put hK.nobj _).trans ak;have av:=Own.keep (Own.put (Own.new hO _) _ _) ak;simp only[Ab,Aa]at ao ah))|refine Z3 ?_|exact⟨⟩|(apply hκ.out;clear hκ κ))
     rename_i yb;have b1:yb.obj y2.nobj=[ic a.p,sl ida2 a.ts.length (Ac a.ts)]:=by rw[ah _ Agm,Aj]
     refine Ag (fun m s y3=>∃(j i5:Nat) (us:List Int),m=a.ts.length-j/\j<=a.ts.length/\s 2=ptr y.nobj 0/\s 5=sl i5 us.length (As us)/\s 8=ic rs.length/\s 32=sl ida l.length cs/\s 33=ic l.length/\s 34=ic k/\s 43=sl ida2 a.ts.length (Ac a.ts)/\s 44=ic a.ts.length/\s 45=ic j/\Keep y y3/\y.nobj<y3.nobj/\y3.obj y.nobj=[ic q.head.p,sl ih q.head.ts.length (Ac q.head.ts),sl ip q.parts.length pc,sl inn q.nots.length nc]/\Own y y3 i5 us.length/\us.length<=init.length+V.length/\rs.length<=us.length/\Agt (Grown init V us/\us.take rs.length=rs/\(∀v∈ws,v∈us)/\∀v,(true,v)∈a.ts.take j->v∈us)) a.ts.length
      ⟨0,i4,ws,Agm,Agm,Agn,Agn,Agn,Agn,Agn,Agn,Ago,Ago,rfl,aw,Agm,by rw[ah _ Agm,Ai Agm,Af Agm,am],av,bq,bw,hW.out.1,hW.out.2.1,fun v hv=>hv,by simp⟩ ?_
     clear aw av ah hK hO am hno h2 h5 h8 bo bn bm az ak ao b1 a7;rintro m s y3 ⟨j,i5,us,rfl,hj,h2,h5,h8,bo,bn,bm,cq,cp,co,hK,hno,am,hO,cd,bz,hU⟩;have az:=hK.nobj;have ce:=Bp us;by_cases a4:j<a.ts.length
     ·have ac:=List.getElem?_eq_getElem a4;obtain⟨r3,b3⟩:=Cm ac;have bd:=Afa a4;generalize a.ts[j]=w at b3 ac bd;obtain⟨w1,w2⟩:=w;have bp:Agt (a.ts.take (j+1)=a.ts.take j++[(w1,w2)]):=by rw[Agt,Ad3,ac,Afe]
      clear ac;have bv:us.length<=100000:=Agm;have bf:=Qj w2 us;have bh:=fun y=>Gv w2 us i5 bv y;have HU:Agt ((w1=true->w2∈us)->(Grown init V us/\us.take rs.length=rs/\(∀v∈ws,v∈us)/\∀v,(true,v)∈a.ts.take (j+1)->v∈us)):=fun hw=>by
       refine⟨hU.out.1,hU.out.2.1,hU.out.2.2.1,fun v hv=>?_⟩;rw[bp.out]at hv;rcases Aew.1 hv with h|h
       ·exact hU.out.2.2.2 v h
       ·simp at h;obtain⟨h1,h2⟩:=h;subst h2;exact hw h1
      cases w1 with
      |false=>
       repeat' (first|refine Z1 ?_|(refine Z8 ?_;intro κ hκ)|(refine Z4 ?_;clear hκ κ)|(refine Z2 ?_ ?_<;>intro h ad<;>try exact Xp)|(refine Z6 ?_;intro idn yn ai aj af ab ae aa)|refine Z3 ?_|exact⟨⟩|(apply hκ.out;clear hκ κ))
       refine⟨a.ts.length-(j+1),Agm,j+1,i5,us,?_⟩
       ((repeat' with_reducible refine And.intro ?_ ?_)<;>first|exact Xq|exact (Own.put (Own.new hO _) _ _)|exact (HU.out (fun h=>by cases h))|exact Xs)
      |true=>
       by_cases hm:w2∈us
       ·have a5:decide (w2∉us)=false:=by simp[hm]
        rw[a5]at bf;have HU:=HU.out (fun _=>hm);have HU:Agt _:=HU;clear a5 hm
        repeat' (first|refine Z1 ?_|(refine Z8 ?_;intro κ hκ)|(refine Z4 ?_;clear hκ κ)|(refine Z2 ?_ ?_<;>intro h ad<;>try exact Xp)|(refine Z6 ?_;intro idn yn ai aj af ab ae aa)|(refine Z5 ?_;refine Xi (bh _) ?_;rintro _ _ ⟨rfl,au⟩;(have ax:=au.nobj;have an:=au.obj;have aw:=((hK.new _).put hK.nobj _).trans au;have av:=Own.keep (Own.put (Own.new hO _) _ _) au;simp only[Ab,Aa]at ax an))|refine Z3 ?_|exact⟨⟩|(apply hκ.out;clear hκ κ))
        refine⟨a.ts.length-(j+1),Agm,j+1,i5,us,?_⟩
        ((repeat' with_reducible refine And.intro ?_ ?_)<;>first|exact Xq|exact (HU)|exact Xs)
       ·have a5:decide (w2∉us)=true:=by simp[hm]
        rw[a5]at bf;have HU:Agt (Grown init V (us++[w2])/\(us++[w2]).take rs.length=rs/\(∀v∈ws,v∈us++[w2])/\∀v,(true,v)∈a.ts.take (j+1)->v∈us++[w2]):=by
         refine⟨hU.out.1.snoc (bg w2 bd) hm,?_,fun v hv=>Aew.2 (.inl (hU.out.2.2.1 v hv)),fun v hv=>?_⟩
         ·rw[List.take_append_of_le_length bz];exact hU.out.2.1
         ·rw[bp.out]at hv;rcases Aew.1 hv with h|h
          ·exact Aew.2 (.inl (hU.out.2.2.2 v h))
          ·simp at h;subst h;simp
        have bu:us.length+1<=init.length+V.length:=by
         have:=HU.out.1.le;simpa using this
        clear a5 hm
        repeat' (first|refine Z1 ?_|(refine Z8 ?_;intro κ hκ)|(refine Z4 ?_;clear hκ κ)|(refine Z2 ?_ ?_<;>intro h ad<;>try exact Xp)|(refine Z6 ?_;intro idn yn ai aj af ab ae aa)|(refine Z5 ?_;refine Xi (bh _) ?_;rintro _ _ ⟨rfl,au⟩;(have ax:=au.nobj;have an:=au.obj;have aw:=((hK.new _).put hK.nobj _).trans au;have av:=Own.keep (Own.put (Own.new hO _) _ _) au;simp only[Ab,Aa]at ax an;have a9:=an y3.nobj Agm;rw[Aj]at a9))|refine Z3 ?_|exact⟨⟩|(apply hκ.out;clear hκ κ))
        refine⟨a.ts.length-(j+1),Agm,j+1,idn,us++[w2],?_⟩
        ((repeat' with_reducible refine And.intro ?_ ?_)<;>first|exact Xq|exact (by simpa using ai)|exact (HU)|exact (by simp[As])|exact Xs)
     ·have bb:j=a.ts.length:=Agm;subst bb;have HW:Agt (Grown init V us/\us.take rs.length=rs/\Ex (l.take (k+1)) rs us):=by
       obtain⟨u1,u2,u3,u4⟩:=hU.out;rw[Adz]at u4;refine⟨u1,u2,?_⟩;rw[HT.out];intro b hb h v hv;rcases Aew.1 hb with hb|hb
       ·exact u3 v (hW.out.2.2 b hb h v hv)
       ·simp at hb;subst hb;exact u4 v hv
      clear hU hW HT
      repeat' (first|refine Z1 ?_|(refine Z8 ?_;intro κ hκ)|(refine Z4 ?_;clear hκ κ)|(refine Z2 ?_ ?_<;>intro h ad<;>try exact Xp)|(refine Z6 ?_;intro idn yn ai aj af ab ae aa)|refine Z3 ?_|exact⟨⟩|(apply hκ.out;clear hκ κ))
      refine⟨l.length-(k+1),Agm,k+1,i5,us,?_⟩
      ((repeat' with_reducible refine And.intro ?_ ?_)<;>first|exact Xq|exact (HW)|exact Xs)
   ·have b2:k=l.length:=Agm;subst b2;have HW:Agt (Grown init V ws/\Ex l (ws.take rs.length) ws):=by
     obtain⟨u1,u2,u3⟩:=hW.out;rw[Adz]at u3;exact⟨u1,by rw[u2];exact u3⟩
    clear hW
    repeat' (first|refine Z1 ?_|(refine Z8 ?_;intro κ hκ)|(refine Z4 ?_;clear hκ κ)|(refine Z2 ?_ ?_<;>intro h ad<;>try exact Xp)|(refine Z6 ?_;intro idn yn ai aj af ab ae aa)|refine Z3 ?_|exact⟨⟩|(apply hκ.out;clear hκ κ))
    refine⟨2*(init.length+V.length-ws.length)+(if (rs.length:Int)<(ws.length:Int)then 1 else 0),by split<;>omega,rs.length,i4,rs.length,ws,?_⟩
    ((repeat' with_reducible refine And.intro ?_ ?_)<;>first|exact Xq|exact (HW)|exact (.inl rfl)|exact Xs)
  ·have hF:Grown init V rs/\Ex l rs rs:=by
    have hB:B=rs.length:=by rcases b7 with h|⟨h1,h2⟩<;>omega
    obtain⟨u1,u2⟩:=hG.out;rw[hB,Adz]at u2;exact⟨u1,u2⟩
   have HF:Agt _:=hF;clear hF;have ci:decide ((rs.length:Int)>Bi)=false:=by simp;omega
   repeat' (first|refine Z1 ?_|(refine Z8 ?_;intro κ hκ)|(refine Z4 ?_;clear hκ κ)|(refine Z2 ?_ ?_<;>intro h ad<;>try exact Xp)|(refine Z6 ?_;intro idn yn ai aj af ab ae aa)|refine Z3 ?_|exact⟨⟩|(apply hκ.out;clear hκ κ))
   first|exact⟨_,rfl,⟨i3,rs,rfl,HF.out.1,HF.out.2⟩,hK⟩|exact⟨_,rfl,i3,rs,rfl,HF.out.1,HF.out.2⟩
end Go.Proofs.YtmoeoppbmhfbpabGreatDoorG
