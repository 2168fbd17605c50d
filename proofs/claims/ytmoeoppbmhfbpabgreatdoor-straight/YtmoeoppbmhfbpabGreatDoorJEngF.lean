import Derived.Test.YtmoeoppbmhfbpabGreatDoorJEngD
set_option maxHeartbeats 16000000
set_option maxRecDepth 100000
set_option linter.all false
namespace Go.Proofs.YtmoeoppbmhfbpabGreatDoorJ
open Go.Abs
def Ej (q:Qry):Qry:={q with parts:=q.parts.eraseP fun p=>idleB q p.a}
theorem cY {α:Type}(f:α->Bool)(l:List α)(w:α):(l++[w]).eraseP f=if l.any f=true then l.eraseP f++[w]else if f w=true then l else l++[w]:=by
 by_cases h:l.any f=true
 ·rw[if_pos h];rw[Acg]at h;obtain⟨x,hx,hf⟩:=h;exact List.eraseP_append_left hf _ hx
 ·rw[if_neg h];have h':∀b∈l,¬f b=true:=fun b hb hf=>h (Acg.2 ⟨b,hb,hf⟩);rw[List.eraseP_append_right _ h'];by_cases hw:f w=true
  ·simp[hw]
  ·simp[hw]
theorem nP {α:Type}(f:α->Bool)(l:List α):(l.eraseP f).length<=l.length:=List.length_eraseP_le
theorem Zr {q:Qry}(h:Me q):Me (Ej q):=by
 have hs:∀p∈(Ej q).parts,p∈q.parts:=fun p hp=>List.mem_of_mem_eraseP hp;have hl:(Ej q).parts.length<=q.parts.length:=nP _ _;exact⟨h.hd,Abg hl h.pl,h.nl,fun p hp=>h.pa p (hs p hp),fun p hp=>h.pt p (hs p hp),fun p hp=>h.p3 p (hs p hp),h.na⟩
theorem cX (q:Qry)(c:List AV)(hc:EQ q c)(hq:Me q)(u:St):ACalls Tryz.prog 256 [ag c] u fun r u'=>(∃c',r=ag c'/\EQ (Ej q) c')/\Keep u u':=by
 have au:=hc;obtain⟨ih,ip,inn,pc,nc,rfl,hP,hN⟩:=hc;have hpl:=EL.length Dt hP;have hl:=hq.pl;have ao:=fun (a:C6) (id:Nat) (ha:a.ts.length<=3) u=>gX q _ a id ha au hq u;clear au;refine Z9 35 [.cell 2 191] Tryz.func256 ?_
 repeat' (first|refine Z1 ?_|(refine Z8 ?_;intro κ hκ)|(refine Z4 ?_;clear hκ κ)|(refine Z2 ?_ ?_<;>intro h af<;>try exact Xp)|(refine Z6 ?_;intro idn un ai aj ac aa ad ab)|refine Z3 ?_|exact⟨⟩|(apply hκ.out;clear hκ κ))
 refine Ad (fun m s u'=>∃(k i3:Nat) (d:Bool) (o:List Part) (xs:List AV),m=q.parts.length-k/\k<=q.parts.length/\s 1=ptr u.nobj 0/\s 2=ptr (u.nobj+1) 0/\s 3=ptr (u.nobj+2) 0/\s 4=sc (.bool d)/\s 13=sl ip q.parts.length pc/\s 14=ic q.parts.length/\s 15=ic k/\Keep u u'/\u.nobj+2<u'.nobj/\u'.obj u.nobj=[ic q.head.p,sl ih q.head.ts.length (Ac q.head.ts),sl ip q.parts.length pc,sl inn q.nots.length nc]/\u'.obj (u.nobj+1)=[ic 0,nilS,nilS,nilS]/\u'.obj (u.nobj+2)=[ic q.head.p,sl ih q.head.ts.length (Ac q.head.ts),sl i3 o.length xs,sl inn q.nots.length nc]/\Own u u' i3 o.length/\o.length<=k/\xs.length=o.length*3/\Aec (EL K3 o xs/\d=(q.parts.take k).any (fun p=>idleB q p.a)/\o=(q.parts.take k).eraseP fun p=>idleB q p.a)) q.parts.length
  ⟨0,1,false,[],[],Ad6,Ad6,Ad8,Ad8,Ad8,Ad8,Ad8,Ad8,rfl,Xs,Aeb,?_,?_,?_,Own.nil _ _,by simp,by simp,⟨rfl,by simp,by simp⟩⟩ ?_
 ·rw[Aj Ad6,Ae Aea,Ae Aea,Ao]
 ·rw[Aj Ad6,Ae Aea,Bu Aea Aea]
 ·rw[show u.nobj+2=u.nobj+1+1 by omega,Ak];simp
 rintro m s u' ⟨k,i3,d,o,xs,rfl,hk,h1,h2,h3,h4,a9,a8,a7,hK,a6,a3,a0,az,hO,a5,av,hX⟩;have a4:=hK.nobj;by_cases ap:k<q.parts.length
 ·have ae:=List.getElem?_eq_getElem ap;obtain⟨id,idt,r,hd⟩:=Eh hP ae;have hb:=hq.pa _ (Ac2 ap);generalize q.parts[k]=w at hd ae hb;have HE:Aec ((q.parts.take (k+1)).eraseP (fun p=>idleB q p.a)=if (q.parts.take k).any (fun p=>idleB q p.a)=true then (q.parts.take k).eraseP (fun p=>idleB q p.a)++[w]else if idleB q w.a=true then q.parts.take k else q.parts.take k++[w]):=by
   rw[Aec,Abv,ae,Ac5,cY]
  have HA:Aec ((q.parts.take (k+1)).any (fun p=>idleB q p.a)=((q.parts.take k).any (fun p=>idleB q p.a)||idleB q w.a)):=by
   rw[Aec,Abv,ae,Ac5,Adn];simp
  have HN:Aec ((q.parts.take k).any (fun p=>idleB q p.a)=false->(q.parts.take k).eraseP (fun p=>idleB q p.a)=q.parts.take k):=fun h=>List.eraseP_of_forall_not (fun a ha hf=>by
   rw[Ac1]at h
   exact h a ha hf)
  clear ae;have ao:=ao w.a id hb;cases d with
  |true=>
   have HX:Aec (EL K3 (o++[w]) (xs++[ic w.a.p,sl id w.a.ts.length (Ac w.a.ts),sl idt w.tups.length (Cx w.tups)])/\true=(q.parts.take (k+1)).any (fun p=>idleB q p.a)/\o++[w]=(q.parts.take (k+1)).eraseP fun p=>idleB q p.a):=by
    obtain⟨x1,x2,x3⟩:=hX.out;refine⟨EL.append x1 (EL.single ⟨id,idt,rfl⟩),?_,?_⟩
    ·rw[HA.out,<-x2];rfl
    ·rw[HE.out,if_pos x2.symm,x3]
   clear hX HE HA HN
   repeat' (first|refine Z1 ?_|(refine Z8 ?_;intro κ hκ)|(refine Z4 ?_;clear hκ κ)|(refine Z2 ?_ ?_<;>intro h af<;>try exact Xp)|(refine Z6 ?_;intro idn un ai aj ac aa ad ab)|refine Z3 ?_|exact⟨⟩|(apply hκ.out;clear hκ κ))
   refine Bn (by first|exact Di) ((hK.new _).put hK.nobj _) (Own.put (Own.new hO _) _ _) (by decide) (by rfl) (av) (by rfl) (by rfl) (by decide) Ad6 Ad6 ?_;intro idn un ai aj ac aa ad ab;simp only[Ab,Aa]at aa;have eob:∀p,p<u'.nobj->un.obj p=u'.obj p:=fun p hp=>by rw[ac,Aj Ad6,Ae Ad6]
   refine Z3 ?_
   repeat' (first|refine Z1 ?_|(refine Z8 ?_;intro κ hκ)|(refine Z4 ?_;clear hκ κ)|(refine Z2 ?_ ?_<;>intro h af<;>try exact Xp)|(refine Z6 ?_;intro idn un ai aj ac aa ad ab)|refine Z3 ?_|exact⟨⟩|(apply hκ.out;clear hκ κ))
   refine⟨q.parts.length-(k+1),Ad6,k+1,idn,true,o++[w],xs++[ic w.a.p,sl id w.a.ts.length (Ac w.a.ts),sl idt w.tups.length (Cx w.tups)],?_⟩
   ((repeat' with_reducible refine And.intro ?_ ?_)<;>first|exact Xq|exact (aj.put Ad6 _)|exact (by simpa using Own.put ai _ _)|exact (HX)|exact Xs)
  |false=>
   cases an:idleB q w.a with
   |true=>
    have HX:Aec (EL K3 o xs/\true=(q.parts.take (k+1)).any (fun p=>idleB q p.a)/\o=(q.parts.take (k+1)).eraseP fun p=>idleB q p.a):=by
     obtain⟨x1,x2,x3⟩:=hX.out;refine⟨x1,?_,?_⟩
     ·rw[HA.out,<-x2,an];rfl
     ·rw[HE.out,if_neg (by rw[<-x2];simp),if_pos an,x3,HN.out x2.symm]
    clear hX HE HA HN;rw[an]at ao
    repeat' (first|refine Z1 ?_|(refine Z8 ?_;intro κ hκ)|(refine Z4 ?_;clear hκ κ)|(refine Z2 ?_ ?_<;>intro h af<;>try exact Xp)|(refine Z6 ?_;intro idn un ai aj ac aa ad ab)|(refine Z5 ?_;refine Xi (ao _) ?_;rintro _ _ ⟨rfl,ah⟩;(have am:=ah.nobj;have ak:=ah.obj;have ay:=((hK.new _).put hK.nobj _).trans ah;have ax:=Own.keep (Own.put (Own.new hO _) _ _) ah;simp only[Ab,Aa]at am ak))|refine Z3 ?_|exact⟨⟩|(apply hκ.out;clear hκ κ))
    refine⟨q.parts.length-(k+1),Ad6,k+1,i3,true,o,xs,?_⟩
    ((repeat' with_reducible refine And.intro ?_ ?_)<;>first|exact Xq|exact (HX)|exact Xs)
   |false=>
    have HX:Aec (EL K3 (o++[w]) (xs++[ic w.a.p,sl id w.a.ts.length (Ac w.a.ts),sl idt w.tups.length (Cx w.tups)])/\false=(q.parts.take (k+1)).any (fun p=>idleB q p.a)/\o++[w]=(q.parts.take (k+1)).eraseP fun p=>idleB q p.a):=by
     obtain⟨x1,x2,x3⟩:=hX.out;refine⟨EL.append x1 (EL.single ⟨id,idt,rfl⟩),?_,?_⟩
     ·rw[HA.out,<-x2,an];rfl
     ·rw[HE.out,if_neg (by rw[<-x2];simp),if_neg (by rw[an];simp),x3,HN.out x2.symm]
    clear hX HE HA HN;rw[an]at ao
    repeat' (first|refine Z1 ?_|(refine Z8 ?_;intro κ hκ)|(refine Z4 ?_;clear hκ κ)|(refine Z2 ?_ ?_<;>intro h af<;>try exact Xp)|(refine Z6 ?_;intro idn un ai aj ac aa ad ab)|(refine Z5 ?_;refine Xi (ao _) ?_;rintro _ _ ⟨rfl,ah⟩;(have am:=ah.nobj;have ak:=ah.obj;have ay:=((hK.new _).put hK.nobj _).trans ah;have ax:=Own.keep (Own.put (Own.new hO _) _ _) ah;simp only[Ab,Aa]at am ak))|refine Z3 ?_|exact⟨⟩|(apply hκ.out;clear hκ κ))
    refine⟨q.parts.length-(k+1),Ad6,k+1,idn,false,o++[w],xs++[ic w.a.p,sl id w.a.ts.length (Ac w.a.ts),sl idt w.tups.length (Cx w.tups)],?_⟩
    ((repeat' with_reducible refine And.intro ?_ ?_)<;>first|exact Xq|exact (aj.put Ad6 _)|exact (by simpa using Own.put ai _ _)|exact (HX)|exact Xs)
 ·have aw:k=q.parts.length:=Ad6;subst aw;obtain⟨x1,-,x3⟩:=hX.out;rw[Abt]at x3
  repeat' (first|refine Z1 ?_|(refine Z8 ?_;intro κ hκ)|(refine Z4 ?_;clear hκ κ)|(refine Z2 ?_ ?_<;>intro h af<;>try exact Xp)|(refine Z6 ?_;intro idn un ai aj ac aa ad ab)|refine Z3 ?_|exact⟨⟩|(apply hκ.out;clear hκ κ))
  exact⟨_,rfl,⟨_,rfl,ih,i3,inn,xs,nc,by rw[Ej,<-x3],by rw[Ej,<-x3];exact x1,hN⟩,hK.put Ad6 _⟩
inductive TrimR (q:Qry):Qry->Prop where
 |refl:TrimR q q
 |tail {q':Qry}:TrimR q q'->TrimR q (Ej q')
theorem gT (q:Qry)(c:List AV)(hc:EQ q c)(hq:Me q)(u:St):ACalls Tryz.prog 221 [ag c] u fun r u'=>(∃c' q',r=ag c'/\EQ q' c'/\Me q'/\TrimR q q')/\Keep u u':=by
 obtain⟨ih,ip,inn,pc,nc,rfl,hP,hN⟩:=hc;have hl:=hq.pl;refine Z9 19 [.cell 2 191] Tryz.func221 ?_
 repeat' (first|refine Z1 ?_|(refine Z8 ?_;intro κ hκ)|(refine Z4 ?_;clear hκ κ)|(refine Z2 ?_ ?_<;>intro h aa<;>try exact Xp)|refine Z3 ?_|exact⟨⟩|(apply hκ.out;clear hκ κ))
 refine Ad (fun m s u'=>∃(qk:Qry) (ck:List AV),s 1=ptr u.nobj 0/\s 2=ptr (u.nobj+1) 0/\s 3=ic m/\m<=65/\Keep u u'/\u.nobj+1<u'.nobj/\u'.obj u.nobj=ck/\u'.obj (u.nobj+1)=[ic 0,nilS,nilS,nilS]/\EQ qk ck/\Aec (Me qk/\TrimR q qk)) (q.parts.length+1)
  ⟨q,_,Ad8,Ad8,Ad8,Ad6,Xs,Aea,rfl,?_,⟨ih,ip,inn,pc,nc,?_,hP,hN⟩,hq,.refl⟩ ?_
 ·rw[Bu Aea Aea]
 ·rw[Ae Aea,Ao]
 clear hP hN hl;rintro m s u' ⟨qk,ck,h1,h2,h3,hm,hK,ao,am,ak,hE,hQ⟩;have an:=hK.nobj;have ac:=hE;obtain⟨ih,ip,inn,pc,nc,rfl,hP,hN⟩:=hE;have hT:=fun u=>cX qk _ ac hQ.out.1 u;have aj:Aec _:=ac;clear ac;have hl:=hQ.out.1.pl;by_cases ap:qk.parts.length<m
 ·repeat' (first|refine Z1 ?_|(refine Z8 ?_;intro κ hκ)|(refine Z4 ?_;clear hκ κ)|(refine Z2 ?_ ?_<;>intro h aa<;>try exact Xp)|(refine Z5 ?_;refine Xi (hT _) ?_;rintro _ _ ⟨⟨_,rfl,ih2,ip2,inn2,pc2,nc2,rfl,af,ah⟩,ab⟩;(have ae:=ab.nobj;have ad:=ab.obj;have ai:=hK.trans ab))|refine Z3 ?_|exact⟨⟩|(apply hκ.out;clear hκ κ))
  refine⟨qk.parts.length,Ad6,Ej qk,[ic (Ej qk).head.p,sl ih2 (Ej qk).head.ts.length (Ac (Ej qk).head.ts),sl ip2 (Ej qk).parts.length pc2,sl inn2 (Ej qk).nots.length nc2],?_⟩
  ((repeat' with_reducible refine And.intro ?_ ?_)<;>first|exact Xq|exact (ai.put Ad6 _)|exact (⟨ih2,ip2,inn2,pc2,nc2,rfl,af,ah⟩)|exact (⟨Zr hQ.out.1,.tail hQ.out.2⟩)|exact Xs)
 ·repeat' (first|refine Z1 ?_|(refine Z8 ?_;intro κ hκ)|(refine Z4 ?_;clear hκ κ)|(refine Z2 ?_ ?_<;>intro h aa<;>try exact Xp)|refine Z3 ?_|exact⟨⟩|(apply hκ.out;clear hκ κ))
  exact⟨_,rfl,⟨_,qk,rfl,aj.out,hQ.out.1,hQ.out.2⟩,hK.put Ad6 _⟩
theorem C9 {t:Bc}(h:t.length=3):(icells t).length=3:=by rw[A8,h]
theorem He {t:Bc}(h:t.length=3)(r:List AV):List.take 3 (icells t++r)=icells t:=by rw[List.take_append_of_le_length (by rw[C9 h];exact Abf _),Acr (by rw[C9 h];exact Abf _)]
theorem Dn {t:Bc}(h:t.length=3):List.take 3 (icells t)=icells t:=Acr (by rw[C9 h];exact Abf _)
theorem Gz {t:Bc}(h:t.length=3)(x y z:AV):lsp [x,y,z] 0 (icells t)=icells t:=by
 match t,h with
 |[a,b,c],_=>rfl
theorem No {t:Bc}(h:t.length=3)(r:List AV):3<=(icells t++r).length:=by rw[Ab6,C9 h];omega
theorem Iu {t:Bc}{i:Nat}{x:Int}(h:t[i]?=some x):(icells t)[i]?=some (ic x):=by simp[icells,h]
def Qf (ts:List Tm)(t:Bc)(i:Nat):Bool:=match ts[i]?,t[i]? with
 |some (false,n),some x=>x==n
 |some (true,v),some x=>x==(t[(H3 ts v).toNat]?).getD 0
 |_,_=>false
def J8 (ts:List Tm)(t:Bc):Bool:=(List.range ts.length).all (Qf ts t)
theorem gY (p:Int)(ids:Nat)(ts:List Tm)(t:Bc)(ht:t.length=3)(hn:ts.length<=3)(u:St):ACalls Tryz.prog 185 [ag [ic p,sl ids ts.length (Ac ts)],ag (icells t)] u fun r u'=>r=sc (.bool (J8 ts t))/\Keep u u':=by
 have a3:=Cc ts;have a7:=C9 ht;have a6:=Dn ht;have aw:ts.length<=1000:=Ad6;have aj:∀i,i<ts.length->Qf ts t i=false->J8 ts t=false:=fun i hi h=>by
  unfold J8;rw[Adm];exact⟨i,by simpa using hi,by rw[h];simp⟩
 refine Z9 41 [.tmp 4] Tryz.func185 ?_
 repeat' (first|refine Z1 ?_|(refine Z8 ?_;intro κ hκ)|(refine Z4 ?_;clear hκ κ)|(refine Z2 ?_ ?_<;>intro h aa<;>try exact Xp)|refine Z3 ?_|exact⟨⟩|(apply hκ.out;clear hκ κ))
 refine Ad (fun m s u'=>∃i:Nat,m=ts.length-i/\i<=ts.length/\s 2=ptr u.nobj 0/\s 3=ptr (u.nobj+1) 0/\s 8=sl ids ts.length (Ac ts)/\s 9=ic ts.length/\s 10=ic i/\Keep u u'/\u.nobj+1<u'.nobj/\u'.obj u.nobj=[ic p,sl ids ts.length (Ac ts)]/\u'.obj (u.nobj+1)=icells t/\Aec (∀j,j<i->Qf ts t j=true)) ts.length
  ⟨0,Ad6,Ad6,Ad8,Ad8,Ad8,Ad8,rfl,Xs,Aea,?_,?_,fun j hj=>Ad6⟩ ?_
 ·rw[Ae Aea,Ao]
 ·rw[Bu Aea Aea]
 rintro m s u' ⟨i,rfl,hi,h2,h3,h8,h9,a8,hK,a4,av,ak,hA⟩;have a0:=hK.nobj;by_cases an:i<ts.length
 ·have ac:=List.getElem?_eq_getElem an;obtain⟨r,hd⟩:=Ci ac;have af:t[i]?=some t[i]:=List.getElem?_eq_getElem Ad6;have az:=Iu af;generalize ts[i]=w at hd ac;generalize t[i]=x at af az;obtain⟨w1,w2⟩:=w;have ao:Aec (Qf ts t i=true->∀j,j<i+1->Qf ts t j=true):=fun h j hj=>by
   by_cases e:j=i
   ·subst e;exact h
   ·exact hA.out j Ad6
  have HB:Aec (Qf ts t i=false->J8 ts t=false):=aj i an;cases w1 with
  |false=>
   have HF:Aec (Qf ts t i=(x==w2)):=by rw[Aec,Qf,ac,af]
   clear ac af hA
   repeat' (first|refine Z1 ?_|(refine Z8 ?_;intro κ hκ)|(refine Z4 ?_;clear hκ κ)|(refine Z2 ?_ ?_<;>intro h aa<;>try exact Xp)|refine Z3 ?_|exact⟨⟩|(apply hκ.out;clear hκ κ))
   refine A1 Ah (fun _=>True) [] [0,1,2,3,4,5,6,7,8,9,10] [] Ad9 (fun _ _ _ h=>h) ?_;intro κ hκ
   repeat' (first|refine Z1 ?_|(refine Z8 ?_;intro κ hκ)|(refine Z4 ?_;clear hκ κ)|(refine Z2 ?_ ?_<;>intro h aa<;>try exact Xp)|refine Z3 ?_|exact⟨⟩|(apply hκ.out;clear hκ κ))
   ·exact⟨_,rfl,by rw[HB.out (by rw[HF.out];simp only[bne_iff_ne,ne_eq]at h;simp[h])],(hK.new _).put hK.nobj _⟩
   ·have au:Keep u ((u'.new [sc (.bool false),ic 0]).put u'.nobj [sc (.bool false),ic w2]):=(hK.new _).put hK.nobj _;have kv:∀p,p<u'.nobj->((u'.new [sc (.bool false),ic 0]).put u'.nobj [sc (.bool false),ic w2]).obj p=u'.obj p:=fun p hp=>by rw[Aj Ad6,Ae Ad6]
    refine Bq (Q:=fun e s' u''=>e= .normal/\s' 39=sc (.bool false)/\s' 2=ptr u.nobj 0/\s' 3=ptr (u.nobj+1) 0/\s' 8=sl ids ts.length (Ac ts)/\s' 9=ic ts.length/\s' 10=ic i/\u''=(u'.new [sc (.bool false),ic 0]).put u'.nobj [sc (.bool false),ic w2]) ?_ ?_
    ·refine A3 Ah (fun _=>True) [] [0,1,2,3,4,5,6,7,8] 5 #[true,true,true,true,true,true,true,true,true,false,false,false,false,false] Ad9 (fun _ _ _ h=>by cases h.1) ?_;intro κ hκ;refine Z3 ?_;refine hκ.out _ ?_;clear hκ κ;refine Am (i:=9) Ad9 ?_;refine Ar ?_;intro κ hκ;refine Z3 ?_;refine hκ.out _ _ ⟨kept_refl,?_⟩;clear hκ κ;refine Ed [10,11,12,13] Ad9 Ad9 (fun _ _ _ h=>by cases h.1) (Abf _) (fun o ho _=>rfl) ?_;intro κ hκ;refine Z3 ?_;refine hκ.out _ _ ⟨rfl,?_⟩;simp[upd, *]
    ·rintro e s' u'' ⟨rfl,g39,g2,g3,g8,g9,g10,rfl⟩;refine D9 g39 ?_
     repeat' (first|refine Z1 ?_|(refine Z8 ?_;intro κ hκ)|(refine Z4 ?_;clear hκ κ)|(refine Z2 ?_ ?_<;>intro h aa<;>try exact Xp)|refine Z3 ?_|exact⟨⟩|(apply hκ.out;clear hκ κ))
     refine⟨ts.length-(i+1),Ad6,i+1,?_⟩
     ((repeat' with_reducible refine And.intro ?_ ?_)<;>first|exact Xq|exact (ao.out (by rw[HF.out];simpa using h))|exact Xs)
  |true=>
   obtain⟨pl,hpl,am⟩:∃k:Nat,k<ts.length/\H3 ts w2=(k:Int):=by
    have hm:=Abm ac;exact⟨ts.idxOf (true,w2),Ado.2 hm,if_pos hm⟩
   have ai:t[pl]?=some t[pl]:=List.getElem?_eq_getElem Ad6;have ay:=Iu ai;generalize t[pl]=y at ai ay;have HF:Aec (Qf ts t i=(x==y)):=by rw[Aec,Qf,ac,af];simp[am,ai]
   clear ac af hA ai;have ap:=fun u=>Ff p ids ts w2 aw u;rw[am]at ap
   repeat' (first|refine Z1 ?_|(refine Z8 ?_;intro κ hκ)|(refine Z4 ?_;clear hκ κ)|(refine Z2 ?_ ?_<;>intro h aa<;>try exact Xp)|refine Z3 ?_|exact⟨⟩|(apply hκ.out;clear hκ κ))
   refine A1 Ah (fun _=>True) [] [0,1,2,3,4,5,6,7,8,9,10] [] Ad9 (fun _ _ _ h=>h) ?_;intro κ hκ
   repeat' (first|refine Z1 ?_|(refine Z8 ?_;intro κ hκ)|(refine Z4 ?_;clear hκ κ)|(refine Z2 ?_ ?_<;>intro h aa<;>try exact Xp)|refine Z3 ?_|exact⟨⟩|(apply hκ.out;clear hκ κ))
   have au:Keep u ((u'.new [sc (.bool false),ic 0]).put u'.nobj [sc (.bool true),ic w2]):=(hK.new _).put hK.nobj _;have kv:∀p,p<u'.nobj->((u'.new [sc (.bool false),ic 0]).put u'.nobj [sc (.bool true),ic w2]).obj p=u'.obj p:=fun p hp=>by rw[Aj Ad6,Ae Ad6]
   refine Bq (Q:=fun e s' u''=>e= .normal/\s' 39=sc (.bool (x !=y))/\s' 2=ptr u.nobj 0/\s' 3=ptr (u.nobj+1) 0/\s' 8=sl ids ts.length (Ac ts)/\s' 9=ic ts.length/\s' 10=ic i/\Keep ((u'.new [sc (.bool false),ic 0]).put u'.nobj [sc (.bool true),ic w2]) u'') ?_ ?_
   ·refine A3 Ah (fun _=>True) [] [0,1,2,3,4,5,6,7,8] 5 #[true,true,true,true,true,true,true,true,true,false,false,false,false,false] Ad9 (fun _ _ _ h=>by cases h.1) ?_;intro κ hκ;refine Z3 ?_;refine hκ.out _ ?_;clear hκ κ;refine Am (i:=9) Ad9 ?_;refine Ar ?_;intro κ hκ;refine Z3 ?_;refine ACalls.mono (ap _) ?_;rintro _ u5 ⟨rfl,ad⟩;refine Z3 ?_;refine hκ.out _ _ ⟨Aq ad,?_⟩;clear hκ κ;have ae:=ad.nobj;have ab:=ad.obj;simp only[Ab,Aa]at ae ab;have o5:u5.obj (u.nobj+1)=icells t:=by rw[ab _ Ad6,kv _ Ad6,ak]
    refine Ed [10,11,12,13] Ad9 Ad9 (fun _ _ _ h=>by cases h.1) ad.nobj (fun o ho _=>ad.ver o ho) ?_;intro κ hκ;refine Z3 ?_;refine hκ.out _ _ ⟨rfl,?_⟩;simp[upd, *]
   ·rintro e s' u'' ⟨rfl,g39,g2,g3,g8,g9,g10,ad⟩;have ae:=ad.nobj;have ab:=ad.obj;simp only[Ab,Aa]at ae ab;have a5:=au.trans ad;have o50:u''.obj u.nobj=[ic p,sl ids ts.length (Ac ts)]:=by rw[ab _ Ad6,kv _ Ad6,av]
    have o51:u''.obj (u.nobj+1)=icells t:=by rw[ab _ Ad6,kv _ Ad6,ak]
    clear ab kv;cases ah:x !=y with
    |true=>
     rw[ah]at g39;refine E9 g39 ?_
     repeat' (first|refine Z1 ?_|(refine Z8 ?_;intro κ hκ)|(refine Z4 ?_;clear hκ κ)|(refine Z2 ?_ ?_<;>intro h aa<;>try exact Xp)|refine Z3 ?_|exact⟨⟩|(apply hκ.out;clear hκ κ))
     exact⟨_,rfl,by rw[HB.out (by rw[HF.out];simp only[bne_iff_ne,ne_eq]at ah;simp[ah])]⟩
    |false=>
     rw[ah]at g39;refine D9 g39 ?_
     repeat' (first|refine Z1 ?_|(refine Z8 ?_;intro κ hκ)|(refine Z4 ?_;clear hκ κ)|(refine Z2 ?_ ?_<;>intro h aa<;>try exact Xp)|refine Z3 ?_|exact⟨⟩|(apply hκ.out;clear hκ κ))
     refine⟨ts.length-(i+1),Ad6,i+1,?_⟩
     ((repeat' with_reducible refine And.intro ?_ ?_)<;>first|exact Xq|exact (ao.out (by rw[HF.out];simpa using ah))|exact Xs)
 ·have ax:i=ts.length:=Ad6;subst ax;have hR:J8 ts t=true:=by
   unfold J8;rw[Abl];intro j hj;exact hA.out j (by simpa using hj)
  repeat' (first|refine Z1 ?_|(refine Z8 ?_;intro κ hκ)|(refine Z4 ?_;clear hκ κ)|(refine Z2 ?_ ?_<;>intro h aa<;>try exact Xp)|refine Z3 ?_|exact⟨⟩|(apply hκ.out;clear hκ κ))
  first|exact⟨_,rfl,by rw[hR],hK⟩|exact⟨_,rfl,by rw[hR]⟩|exact⟨_,rfl,hK⟩|exact⟨_,rfl,rfl⟩|exact hK
theorem Fs {l:List Bc}{k:Nat}{t:Bc}(h3:T3 l)(h:l[k]?=some t):t.length=3/\∃r,(Cx l).drop (k*3)=icells t++r:=by
 obtain⟨a,b,c,r,rfl,e⟩:=kA h3 h;exact⟨rfl,r,by rw[e];rfl⟩
def G9 (t:Bc)(k:Int):Int:=(t[k.toNat]?).getD 0
theorem I6 {ts:List Tm}{v:Int}(h:A5 ts v=true):∃k:Nat,k<ts.length/\H3 ts v=(k:Int):=by
 have hm:(true,v)∈ts:=by simpa[A5]using h
 exact⟨ts.idxOf (true,v),Ado.2 hm,if_pos hm⟩
def Ha (v n:Int)(p:Part):Part:=if A5 p.a.ts v=true then⟨⟨p.a.p,Ba v n p.a.ts⟩,p.tups.filter fun t=>G9 t (H3 p.a.ts v)==n⟩else p
theorem Db {α:Type}(f:α->Bool)(l:List α)(x:α):(l++[x]).filter f=l.filter f++if f x=true then [x]else []:=by
 rw[Adp];by_cases h:f x=true<;>simp[h]
theorem gU (p:Part)(id idt:Nat)(v n:Int)(ha:p.a.ts.length<=3)(ht:p.tups.length<=5000)(h3:T3 p.tups)(u:St):ACalls Tryz.prog 227 [ag [ic p.a.p,sl id p.a.ts.length (Ac p.a.ts),sl idt p.tups.length (Cx p.tups)],ic v,ic n] u fun r u'=>(∃c',r=ag c'/\K3 (Ha v n p) c')/\Keep u u':=by
 have bg:=Ef h3;have a0:p.a.ts.length<=1000:=Ad6;have av:=fun u=>Ff p.a.p id p.a.ts v a0 u;have bb:=fun u=>Lf p.a.p id p.a.ts v n a0 u;cases hv:A5 p.a.ts v with
 |false=>
  have hp:H3 p.a.ts v= -1:=I5 (by simpa[A5]using hv);have HR:Aec (Ha v n p=p):=if_neg (by rw[hv];simp);rw[hp]at av;clear hp;refine Z9 44 [.cell 6 239] Tryz.func227 ?_
  repeat' (first|refine Z1 ?_|(refine Z8 ?_;intro κ hκ)|(refine Z4 ?_;clear hκ κ)|(refine Z2 ?_ ?_<;>intro h af<;>try exact Xp)|(refine Z6 ?_;intro idn un ak am ac aa ad ab)|(refine Z5 ?_;refine Xi (av _) ?_;rintro _ _ ⟨rfl,ai⟩;(have aj:=ai.nobj;have ae:=ai.obj;have aw:=(((Keep.refl u).new _).new _).trans ai;simp only[Aa]at aj ae))|refine Z3 ?_|exact⟨⟩|(apply hκ.out;clear hκ κ))
  exact⟨_,rfl,⟨_,rfl,by rw[HR.out];exact⟨id,idt,rfl⟩⟩,aw.put Ad6 _⟩
 |true=>
  obtain⟨pl,hpl,az⟩:=I6 hv;have HR:Aec (Ha v n p=⟨⟨p.a.p,Ba v n p.a.ts⟩,p.tups.filter fun t=>G9 t pl==n⟩):=by rw[Aec,Ha,if_pos hv,az]
  rw[az]at av;clear az;have a6:pl<3:=Ad6;have a7:((pl:Int)== -1)=false:=by simp
  refine Z9 44 [.cell 6 239] Tryz.func227 ?_
  repeat' (first|refine Z1 ?_|(refine Z8 ?_;intro κ hκ)|(refine Z4 ?_;clear hκ κ)|(refine Z2 ?_ ?_<;>intro h af<;>try exact Xp)|(refine Z6 ?_;intro idn un ak am ac aa ad ab)|(refine Z5 ?_;first|(refine Xi (av _) ?_;rintro _ _ ⟨rfl,ai⟩;(have aj:=ai.nobj;have ae:=ai.obj;have aw:=(((Keep.refl u).new _).new _).trans ai;simp only[Aa]at aj ae))|(refine Xi (bb _) ?_;rintro _ _ ⟨⟨idp,rfl⟩,ax⟩;(have a3:=ax.nobj;have ao:=ax.obj;have bc:=aw.trans ax)))|refine Z3 ?_|exact⟨⟩|(apply hκ.out;clear hκ κ))
  rename_i u1 u2;have o1:u2.obj (u.nobj+1)=[ic 0,nilS,nilS]:=by rw[ao _ Ad6,ae _ Ad6,Bu Aea Aea]
  clear ae ao aw ai ax
  refine Ad (fun m s u'=>∃(i i3:Nat) (o:List Bc) (xs:List AV),m=p.tups.length-i/\i<=p.tups.length/\s 2=ic n/\s 6=ptr (u.nobj+1) 0/\s 7=ic pl/\s 8=ptr u2.nobj 0/\s 25=sl idt p.tups.length (Cx p.tups)/\s 26=ic p.tups.length/\s 27=ic i/\Keep u u'/\u2.nobj<u'.nobj/\u'.obj (u.nobj+1)=[ic 0,nilS,nilS]/\u'.obj u2.nobj=[ic p.a.p,sl idp (Ba v n p.a.ts).length (Ac (Ba v n p.a.ts)),sl i3 o.length xs]/\Own u u' i3 o.length/\o.length<=i/\xs.length=o.length*3/\Aec (xs=Cx o/\o=(p.tups.take i).filter fun t=>G9 t pl==n)) p.tups.length
   ⟨0,1,[],[],Ad6,Ad6,by simp[upd,initS],Ad8,Ad8,Ad8,Ad8,Ad8,rfl,Xs,Aeb,?_,?_,Own.nil _ _,by simp,by simp,⟨rfl,by simp⟩⟩ ?_
  ·rw[Aj Ad6,Ae Ad6,o1]
  ·rw[Ak];simp
  clear o1 bc;rintro m s u' ⟨i,i3,o,xs,rfl,hi,h2,h6,h7,h8,bn,bm,bl,hK,bi,be,bd,hO,bh,a4,hX⟩;have bf:=hK.nobj;by_cases a8:i<p.tups.length
  ·have ah:=List.getElem?_eq_getElem a8;obtain⟨an,r,hd⟩:=Fs h3 ah;generalize p.tups[i]=t at hd ah an;have HF:Aec ((p.tups.take (i+1)).filter (fun t=>G9 t pl==n)=(p.tups.take i).filter (fun t=>G9 t pl==n)++if (G9 t pl==n)=true then [t]else []):=by
    rw[Aec,Abv,ah,Ac5,Db]
   have au:t[pl]?=some t[pl]:=List.getElem?_eq_getElem Ad6;have ba:=Iu au;have ap:Aec (G9 t pl=t[pl]):=by simp[Aec,G9,au]
   generalize t[pl]=x at au ba ap;clear ah au;have f1:=C9 an;have f2:=He an;have f3:=Dn an;have f4:=Gz an;have f5:=Ce t;have f6:=No an;by_cases ay:x=n
   ·subst ay;have HX:Aec (xs++icells t=Cx (o++[t])/\o++[t]=(p.tups.take (i+1)).filter fun t=>G9 t pl==x):=by
     obtain⟨x1,x2⟩:=hX.out;refine⟨by rw[x1,Ke],?_⟩;rw[HF.out,if_pos (by rw[ap.out];simp),x2]
    clear hX HF ap
    repeat' (first|refine Z1 ?_|(refine Z8 ?_;intro κ hκ)|(refine Z4 ?_;clear hκ κ)|(refine Z2 ?_ ?_<;>intro h af<;>try exact Xp)|(refine Z6 ?_;intro idn un ak am ac aa ad ab)|refine Z3 ?_|exact⟨⟩|(apply hκ.out;clear hκ κ))
    refine Bn (by first|exact E0) ((hK.new _).put hK.nobj _) (Own.put (Own.new hO _) _ _) (by decide) (by rfl) (a4) (by rw[f1]) (f5) (by decide) Ad6 Ad6 ?_;intro idn un ak am ac aa ad ab;simp only[Ab,Aa]at aa;have eob:∀p,p<u'.nobj->un.obj p=u'.obj p:=fun p hp=>by rw[ac,Aj Ad6,Ae Ad6]
    refine Z3 ?_
    repeat' (first|refine Z1 ?_|(refine Z8 ?_;intro κ hκ)|(refine Z4 ?_;clear hκ κ)|(refine Z2 ?_ ?_<;>intro h af<;>try exact Xp)|(refine Z6 ?_;intro idn un ak am ac aa ad ab)|refine Z3 ?_|exact⟨⟩|(apply hκ.out;clear hκ κ))
    refine⟨p.tups.length-(i+1),Ad6,i+1,idn,o++[t],xs++icells t,?_⟩
    ((repeat' with_reducible refine And.intro ?_ ?_)<;>first|exact Xq|exact (am.put Ad6 _)|exact (by simpa using Own.put ak _ _)|exact (HX)|exact Xs)
   ·have a5:(x==n)=false:=by simpa using ay
    have HX:Aec (xs=Cx o/\o=(p.tups.take (i+1)).filter fun t=>G9 t pl==n):=by
     obtain⟨x1,x2⟩:=hX.out;refine⟨x1,?_⟩;rw[HF.out,if_neg (by rw[ap.out,a5];simp),x2,Abz]
    clear hX HF ap ay
    repeat' (first|refine Z1 ?_|(refine Z8 ?_;intro κ hκ)|(refine Z4 ?_;clear hκ κ)|(refine Z2 ?_ ?_<;>intro h af<;>try exact Xp)|(refine Z6 ?_;intro idn un ak am ac aa ad ab)|refine Z3 ?_|exact⟨⟩|(apply hκ.out;clear hκ κ))
    refine⟨p.tups.length-(i+1),Ad6,i+1,i3,o,xs,?_⟩
    ((repeat' with_reducible refine And.intro ?_ ?_)<;>first|exact Xq|exact (Own.put (Own.new hO _) _ _)|exact (HX)|exact Xs)
  ·have a9:i=p.tups.length:=Ad6;subst a9;obtain⟨x1,x2⟩:=hX.out;rw[Abt]at x2
   repeat' (first|refine Z1 ?_|(refine Z8 ?_;intro κ hκ)|(refine Z4 ?_;clear hκ κ)|(refine Z2 ?_ ?_<;>intro h af<;>try exact Xp)|(refine Z6 ?_;intro idn un ak am ac aa ad ab)|refine Z3 ?_|exact⟨⟩|(apply hκ.out;clear hκ κ))
   exact⟨_,rfl,⟨_,rfl,by rw[HR.out,<-x2];exact⟨idp,i3,by first|rfl|rw[x1]⟩⟩,hK.put Ad6 _⟩
end Go.Proofs.YtmoeoppbmhfbpabGreatDoorJ
