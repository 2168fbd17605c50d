import Derived.Test.YtmoeoppbmhfbpabGreatDoorHEngD
set_option linter.all false
namespace Go.Proofs.YtmoeoppbmhfbpabGreatDoorH
set_option maxHeartbeats 16000000
open Go.Abs
set_option maxRecDepth 100000
def Em (q:Qry):Qry:={q with parts:=q.parts.eraseP fun p=>idleB q p.a}
theorem dC {α:Type}(f:α->Bool)(l:List α)(w:α):(l++[w]).eraseP f=if l.any f=true then l.eraseP f++[w]else if f w=true then l else l++[w]:=by
 by_cases h:l.any f=true
 ·rw[if_pos h];rw[Acb]at h;obtain⟨x,hx,hf⟩:=h;exact List.eraseP_append_left hf _ hx
 ·rw[if_neg h];have h':∀b∈l,¬f b=true:=fun b hb hf=>h (Acb.2 ⟨b,hb,hf⟩);rw[List.eraseP_append_right _ h'];by_cases hw:f w=true
  ·simp[hw]
  ·simp[hw]
theorem nQ {α:Type}(f:α->Bool)(l:List α):(l.eraseP f).length<=l.length:=List.length_eraseP_le
theorem Zv {q:Qry}(h:Ms q):Ms (Em q):=by
 have hs:∀p∈(Em q).parts,p∈q.parts:=fun p hp=>List.mem_of_mem_eraseP hp;have hl:(Em q).parts.length<=q.parts.length:=nQ _ _;exact⟨h.hd,Abc hl h.pl,h.nl,fun p hp=>h.pa p (hs p hp),fun p hp=>h.pt p (hs p hp),fun p hp=>h.p3 p (hs p hp),h.na⟩
theorem dB (q:Qry)(c:List AV)(hc:EQ q c)(hq:Ms q)(u:St):ACalls Tryz.prog 256 [ag c] u fun r u'=>(∃c',r=ag c'/\EQ (Em q) c')/\Keep u u':=by
 have ar:=hc;obtain⟨ih,ip,inn,pc,nc,rfl,hP,hN⟩:=hc;have hpl:=EL.length Dx hP;have hl:=hq.pl;have ao:=fun (a:C3) (id:Nat) (ha:a.ts.length<=3) u=>gU q _ a id ha ar hq u;clear ar;refine Z9 35 [.cell 2 191] Tryz.func256 ?_
 repeat' (first|refine Z1 ?_|(refine Z8 ?_;intro κ hκ)|(refine Z4 ?_;clear hκ κ)|(refine Z2 ?_ ?_<;>intro h af<;>try exact Xp)|(refine Z6 ?_;intro idn un ai aj ac aa ad ab)|refine Z3 ?_|exact⟨⟩|(apply hκ.out;clear hκ κ))
 refine Ad (fun m s u'=>∃(k i3:Nat) (d:Bool) (o:List Part) (xs:List AV),m=q.parts.length-k/\k<=q.parts.length/\s 1=ptr u.nobj 0/\s 2=ptr (u.nobj+1) 0/\s 3=ptr (u.nobj+2) 0/\s 4=sc (.bool d)/\s 13=sl ip q.parts.length pc/\s 14=ic q.parts.length/\s 15=ic k/\Keep u u'/\u.nobj+2<u'.nobj/\u'.obj u.nobj=[ic q.head.p,sl ih q.head.ts.length (Ac q.head.ts),sl ip q.parts.length pc,sl inn q.nots.length nc]/\u'.obj (u.nobj+1)=[ic 0,nilS,nilS,nilS]/\u'.obj (u.nobj+2)=[ic q.head.p,sl ih q.head.ts.length (Ac q.head.ts),sl i3 o.length xs,sl inn q.nots.length nc]/\Own u u' i3 o.length/\o.length<=k/\xs.length=o.length*3/\Ad8 (EL Ky o xs/\d=(q.parts.take k).any (fun p=>idleB q p.a)/\o=(q.parts.take k).eraseP fun p=>idleB q p.a)) q.parts.length
  ⟨0,1,false,[],[],Ad2,Ad2,Ad4,Ad4,Ad4,Ad4,Ad4,Ad4,rfl,Xs,Ad7,?_,?_,?_,Own.nil _ _,by simp,by simp,⟨rfl,by simp,by simp⟩⟩ ?_
 ·rw[Ai Ad2,Ae Ad6,Ae Ad6,Am]
 ·rw[Ai Ad2,Ae Ad6,Bp Ad6 Ad6]
 ·rw[show u.nobj+2=u.nobj+1+1 by omega,Aj];simp
 rintro m s u' ⟨k,i3,d,o,xs,rfl,hk,h1,h2,h3,h4,a8,a7,a6,hK,a5,a0,az,ay,hO,a4,au,hX⟩;have a3:=hK.nobj;by_cases ap:k<q.parts.length
 ·have ae:=List.getElem?_eq_getElem ap;obtain⟨id,idt,r,hd⟩:=Ek hP ae;have hb:=hq.pa _ (Acz ap);generalize q.parts[k]=w at hd ae hb;have HE:Ad8 ((q.parts.take (k+1)).eraseP (fun p=>idleB q p.a)=if (q.parts.take k).any (fun p=>idleB q p.a)=true then (q.parts.take k).eraseP (fun p=>idleB q p.a)++[w]else if idleB q w.a=true then q.parts.take k else q.parts.take k++[w]):=by
   rw[Ad8,Abq,ae,Ac2,dC]
  have HA:Ad8 ((q.parts.take (k+1)).any (fun p=>idleB q p.a)=((q.parts.take k).any (fun p=>idleB q p.a)||idleB q w.a)):=by
   rw[Ad8,Abq,ae,Ac2,Adf];simp
  have HN:Ad8 ((q.parts.take k).any (fun p=>idleB q p.a)=false->(q.parts.take k).eraseP (fun p=>idleB q p.a)=q.parts.take k):=fun h=>List.eraseP_of_forall_not (fun a ha hf=>by
   rw[Acy]at h
   exact h a ha hf)
  clear ae;have ao:=ao w.a id hb;cases d with
  |true=>
   have HX:Ad8 (EL Ky (o++[w]) (xs++[ic w.a.p,sl id w.a.ts.length (Ac w.a.ts),sl idt w.tups.length (D9 w.tups)])/\true=(q.parts.take (k+1)).any (fun p=>idleB q p.a)/\o++[w]=(q.parts.take (k+1)).eraseP fun p=>idleB q p.a):=by
    obtain⟨x1,x2,x3⟩:=hX.out;refine⟨EL.append x1 (EL.single ⟨id,idt,rfl⟩),?_,?_⟩
    ·rw[HA.out,<-x2];rfl
    ·rw[HE.out,if_pos x2.symm,x3]
   clear hX HE HA HN
   repeat' (first|refine Z1 ?_|(refine Z8 ?_;intro κ hκ)|(refine Z4 ?_;clear hκ κ)|(refine Z2 ?_ ?_<;>intro h af<;>try exact Xp)|(refine Z6 ?_;intro idn un ai aj ac aa ad ab)|refine Z3 ?_|exact⟨⟩|(apply hκ.out;clear hκ κ))
   refine Bj (by first|exact Dh) ((hK.new _).put hK.nobj _) (Own.put (Own.new hO _) _ _) (by decide) (by rfl) (au) (by rfl) (by rfl) (by decide) Ad2 Ad2 ?_;intro idn un ai aj ac aa ad ab;simp only[Ab,Aa]at aa;have eob:∀p,p<u'.nobj->un.obj p=u'.obj p:=fun p hp=>by rw[ac,Ai Ad2,Ae Ad2]
   refine Z3 ?_
   repeat' (first|refine Z1 ?_|(refine Z8 ?_;intro κ hκ)|(refine Z4 ?_;clear hκ κ)|(refine Z2 ?_ ?_<;>intro h af<;>try exact Xp)|(refine Z6 ?_;intro idn un ai aj ac aa ad ab)|refine Z3 ?_|exact⟨⟩|(apply hκ.out;clear hκ κ))
   refine⟨q.parts.length-(k+1),Ad2,k+1,idn,true,o++[w],xs++[ic w.a.p,sl id w.a.ts.length (Ac w.a.ts),sl idt w.tups.length (D9 w.tups)],?_⟩
   ((repeat' with_reducible refine And.intro ?_ ?_)<;>first|exact Xq|exact (aj.put Ad2 _)|exact (by simpa using Own.put ai _ _)|exact (HX)|exact Xs)
  |false=>
   cases an:idleB q w.a with
   |true=>
    have HX:Ad8 (EL Ky o xs/\true=(q.parts.take (k+1)).any (fun p=>idleB q p.a)/\o=(q.parts.take (k+1)).eraseP fun p=>idleB q p.a):=by
     obtain⟨x1,x2,x3⟩:=hX.out;refine⟨x1,?_,?_⟩
     ·rw[HA.out,<-x2,an];rfl
     ·rw[HE.out,if_neg (by rw[<-x2];simp),if_pos an,x3,HN.out x2.symm]
    clear hX HE HA HN;rw[an]at ao
    repeat' (first|refine Z1 ?_|(refine Z8 ?_;intro κ hκ)|(refine Z4 ?_;clear hκ κ)|(refine Z2 ?_ ?_<;>intro h af<;>try exact Xp)|(refine Z6 ?_;intro idn un ai aj ac aa ad ab)|(refine Z5 ?_;refine Xi (ao _) ?_;rintro _ _ ⟨rfl,ah⟩;(have am:=ah.nobj;have ak:=ah.obj;have ax:=((hK.new _).put hK.nobj _).trans ah;have aw:=Own.keep (Own.put (Own.new hO _) _ _) ah;simp only[Ab,Aa]at am ak))|refine Z3 ?_|exact⟨⟩|(apply hκ.out;clear hκ κ))
    refine⟨q.parts.length-(k+1),Ad2,k+1,i3,true,o,xs,?_⟩
    ((repeat' with_reducible refine And.intro ?_ ?_)<;>first|exact Xq|exact (HX)|exact Xs)
   |false=>
    have HX:Ad8 (EL Ky (o++[w]) (xs++[ic w.a.p,sl id w.a.ts.length (Ac w.a.ts),sl idt w.tups.length (D9 w.tups)])/\false=(q.parts.take (k+1)).any (fun p=>idleB q p.a)/\o++[w]=(q.parts.take (k+1)).eraseP fun p=>idleB q p.a):=by
     obtain⟨x1,x2,x3⟩:=hX.out;refine⟨EL.append x1 (EL.single ⟨id,idt,rfl⟩),?_,?_⟩
     ·rw[HA.out,<-x2,an];rfl
     ·rw[HE.out,if_neg (by rw[<-x2];simp),if_neg (by rw[an];simp),x3,HN.out x2.symm]
    clear hX HE HA HN;rw[an]at ao
    repeat' (first|refine Z1 ?_|(refine Z8 ?_;intro κ hκ)|(refine Z4 ?_;clear hκ κ)|(refine Z2 ?_ ?_<;>intro h af<;>try exact Xp)|(refine Z6 ?_;intro idn un ai aj ac aa ad ab)|(refine Z5 ?_;refine Xi (ao _) ?_;rintro _ _ ⟨rfl,ah⟩;(have am:=ah.nobj;have ak:=ah.obj;have ax:=((hK.new _).put hK.nobj _).trans ah;have aw:=Own.keep (Own.put (Own.new hO _) _ _) ah;simp only[Ab,Aa]at am ak))|refine Z3 ?_|exact⟨⟩|(apply hκ.out;clear hκ κ))
    refine⟨q.parts.length-(k+1),Ad2,k+1,idn,false,o++[w],xs++[ic w.a.p,sl id w.a.ts.length (Ac w.a.ts),sl idt w.tups.length (D9 w.tups)],?_⟩
    ((repeat' with_reducible refine And.intro ?_ ?_)<;>first|exact Xq|exact (aj.put Ad2 _)|exact (by simpa using Own.put ai _ _)|exact (HX)|exact Xs)
 ·have av:k=q.parts.length:=Ad2;subst av;obtain⟨x1,-,x3⟩:=hX.out;rw[Abn]at x3
  repeat' (first|refine Z1 ?_|(refine Z8 ?_;intro κ hκ)|(refine Z4 ?_;clear hκ κ)|(refine Z2 ?_ ?_<;>intro h af<;>try exact Xp)|(refine Z6 ?_;intro idn un ai aj ac aa ad ab)|refine Z3 ?_|exact⟨⟩|(apply hκ.out;clear hκ κ))
  exact⟨_,rfl,⟨_,rfl,ih,i3,inn,xs,nc,by rw[Em,<-x3],by rw[Em,<-x3];exact x1,hN⟩,hK.put Ad2 _⟩
inductive TrimR (q:Qry):Qry->Prop where
 |refl:TrimR q q
 |tail {q':Qry}:TrimR q q'->TrimR q (Em q')
theorem gQ (q:Qry)(c:List AV)(hc:EQ q c)(hq:Ms q)(u:St):ACalls Tryz.prog 221 [ag c] u fun r u'=>(∃c' q',r=ag c'/\EQ q' c'/\Ms q'/\TrimR q q')/\Keep u u':=by
 obtain⟨ih,ip,inn,pc,nc,rfl,hP,hN⟩:=hc;have hl:=hq.pl;refine Z9 19 [.cell 2 191] Tryz.func221 ?_
 repeat' (first|refine Z1 ?_|(refine Z8 ?_;intro κ hκ)|(refine Z4 ?_;clear hκ κ)|(refine Z2 ?_ ?_<;>intro h aa<;>try exact Xp)|refine Z3 ?_|exact⟨⟩|(apply hκ.out;clear hκ κ))
 refine Ad (fun m s u'=>∃(qk:Qry) (ck:List AV),s 1=ptr u.nobj 0/\s 2=ptr (u.nobj+1) 0/\s 3=ic m/\m<=65/\Keep u u'/\u.nobj+1<u'.nobj/\u'.obj u.nobj=ck/\u'.obj (u.nobj+1)=[ic 0,nilS,nilS,nilS]/\EQ qk ck/\Ad8 (Ms qk/\TrimR q qk)) (q.parts.length+1)
  ⟨q,_,Ad4,Ad4,Ad4,Ad2,Xs,Ad6,rfl,?_,⟨ih,ip,inn,pc,nc,?_,hP,hN⟩,hq,.refl⟩ ?_
 ·rw[Bp Ad6 Ad6]
 ·rw[Ae Ad6,Am]
 clear hP hN hl;rintro m s u' ⟨qk,ck,h1,h2,h3,hm,hK,ao,am,ak,hE,hQ⟩;have an:=hK.nobj;have ac:=hE;obtain⟨ih,ip,inn,pc,nc,rfl,hP,hN⟩:=hE;have hT:=fun u=>dB qk _ ac hQ.out.1 u;have aj:Ad8 _:=ac;clear ac;have hl:=hQ.out.1.pl;by_cases ap:qk.parts.length<m
 ·repeat' (first|refine Z1 ?_|(refine Z8 ?_;intro κ hκ)|(refine Z4 ?_;clear hκ κ)|(refine Z2 ?_ ?_<;>intro h aa<;>try exact Xp)|(refine Z5 ?_;refine Xi (hT _) ?_;rintro _ _ ⟨⟨_,rfl,ih2,ip2,inn2,pc2,nc2,rfl,af,ah⟩,ab⟩;(have ae:=ab.nobj;have ad:=ab.obj;have ai:=hK.trans ab))|refine Z3 ?_|exact⟨⟩|(apply hκ.out;clear hκ κ))
  refine⟨qk.parts.length,Ad2,Em qk,[ic (Em qk).head.p,sl ih2 (Em qk).head.ts.length (Ac (Em qk).head.ts),sl ip2 (Em qk).parts.length pc2,sl inn2 (Em qk).nots.length nc2],?_⟩
  ((repeat' with_reducible refine And.intro ?_ ?_)<;>first|exact Xq|exact (ai.put Ad2 _)|exact (⟨ih2,ip2,inn2,pc2,nc2,rfl,af,ah⟩)|exact (⟨Zv hQ.out.1,.tail hQ.out.2⟩)|exact Xs)
 ·repeat' (first|refine Z1 ?_|(refine Z8 ?_;intro κ hκ)|(refine Z4 ?_;clear hκ κ)|(refine Z2 ?_ ?_<;>intro h aa<;>try exact Xp)|refine Z3 ?_|exact⟨⟩|(apply hκ.out;clear hκ κ))
  exact⟨_,rfl,⟨_,qk,rfl,aj.out,hQ.out.1,hQ.out.2⟩,hK.put Ad2 _⟩
theorem Gs {t:Ca}(h:t.length=3):(Ar t).length=3:=by rw[Bn,h]
theorem Le {t:Ca}(h:t.length=3)(r:List AV):List.take 3 (Ar t++r)=Ar t:=by rw[List.take_append_of_le_length (by rw[Gs h];exact Abb _),Acl (by rw[Gs h];exact Abb _)]
theorem Hn {t:Ca}(h:t.length=3):List.take 3 (Ar t)=Ar t:=Acl (by rw[Gs h];exact Abb _)
theorem Ml {t:Ca}(h:t.length=3)(x y z:AV):lsp [x,y,z] 0 (Ar t)=Ar t:=by
 match t,h with
 |[a,b,c],_=>rfl
theorem Wl {t:Ca}(h:t.length=3)(r:List AV):3<=(Ar t++r).length:=by rw[Ab2,Gs h];omega
theorem Mm {t:Ca}{i:Nat}{x:Int}(h:t[i]?=some x):(Ar t)[i]?=some (ic x):=by simp[Ar,h]
def Qc (ts:List Tm)(t:Ca)(i:Nat):Bool:=match ts[i]?,t[i]? with
 |some (false,n),some x=>x==n
 |some (true,v),some x=>x==(t[(Hp ts v).toNat]?).getD 0
 |_,_=>false
def J0 (ts:List Tm)(t:Ca):Bool:=(List.range ts.length).all (Qc ts t)
theorem gV (p:Int)(ids:Nat)(ts:List Tm)(t:Ca)(ht:t.length=3)(hn:ts.length<=3)(u:St):ACalls Tryz.prog 185 [ag [ic p,sl ids ts.length (Ac ts)],ag (Ar t)] u fun r u'=>r=sc (.bool (J0 ts t))/\Keep u u':=by
 have a0:=Ce ts;have a6:=Gs ht;have a5:=Hn ht;have av:ts.length<=1000:=Ad2;have aj:∀i,i<ts.length->Qc ts t i=false->J0 ts t=false:=fun i hi h=>by
  unfold J0;rw[Ade];exact⟨i,by simpa using hi,by rw[h];simp⟩
 refine Z9 41 [.tmp 4] Tryz.func185 ?_
 repeat' (first|refine Z1 ?_|(refine Z8 ?_;intro κ hκ)|(refine Z4 ?_;clear hκ κ)|(refine Z2 ?_ ?_<;>intro h aa<;>try exact Xp)|refine Z3 ?_|exact⟨⟩|(apply hκ.out;clear hκ κ))
 refine Ad (fun m s u'=>∃i:Nat,m=ts.length-i/\i<=ts.length/\s 2=ptr u.nobj 0/\s 3=ptr (u.nobj+1) 0/\s 8=sl ids ts.length (Ac ts)/\s 9=ic ts.length/\s 10=ic i/\Keep u u'/\u.nobj+1<u'.nobj/\u'.obj u.nobj=[ic p,sl ids ts.length (Ac ts)]/\u'.obj (u.nobj+1)=Ar t/\Ad8 (∀j,j<i->Qc ts t j=true)) ts.length
  ⟨0,Ad2,Ad2,Ad4,Ad4,Ad4,Ad4,rfl,Xs,Ad6,?_,?_,fun j hj=>Ad2⟩ ?_
 ·rw[Ae Ad6,Am]
 ·rw[Bp Ad6 Ad6]
 rintro m s u' ⟨i,rfl,hi,h2,h3,h8,h9,a7,hK,a3,au,ak,hA⟩;have az:=hK.nobj;by_cases an:i<ts.length
 ·have ac:=List.getElem?_eq_getElem an;obtain⟨r,hd⟩:=Cg ac;have af:t[i]?=some t[i]:=List.getElem?_eq_getElem Ad2;have ay:=Mm af;generalize ts[i]=w at hd ac;generalize t[i]=x at af ay;obtain⟨w1,w2⟩:=w;have ao:Ad8 (Qc ts t i=true->∀j,j<i+1->Qc ts t j=true):=fun h j hj=>by
   by_cases e:j=i
   ·subst e;exact h
   ·exact hA.out j Ad2
  have HB:Ad8 (Qc ts t i=false->J0 ts t=false):=aj i an;cases w1 with
  |false=>
   have HF:Ad8 (Qc ts t i=(x==w2)):=by rw[Ad8,Qc,ac,af]
   clear ac af hA
   repeat' (first|refine Z1 ?_|(refine Z8 ?_;intro κ hκ)|(refine Z4 ?_;clear hκ κ)|(refine Z2 ?_ ?_<;>intro h aa<;>try exact Xp)|refine Z3 ?_|exact⟨⟩|(apply hκ.out;clear hκ κ))
   refine Bt Ak (fun _=>True) [] [0,1,2,3,4,5,6,7,8,9,10] [] Ad5 (fun _ _ _ h=>h) ?_;intro κ hκ
   repeat' (first|refine Z1 ?_|(refine Z8 ?_;intro κ hκ)|(refine Z4 ?_;clear hκ κ)|(refine Z2 ?_ ?_<;>intro h aa<;>try exact Xp)|refine Z3 ?_|exact⟨⟩|(apply hκ.out;clear hκ κ))
   ·exact⟨_,rfl,by rw[HB.out (by rw[HF.out];simp only[bne_iff_ne,ne_eq]at h;simp[h])],(hK.new _).put hK.nobj _⟩
   ·have ar:Keep u ((u'.new [sc (.bool false),ic 0]).put u'.nobj [sc (.bool false),ic w2]):=(hK.new _).put hK.nobj _;have kv:∀p,p<u'.nobj->((u'.new [sc (.bool false),ic 0]).put u'.nobj [sc (.bool false),ic w2]).obj p=u'.obj p:=fun p hp=>by rw[Ai Ad2,Ae Ad2]
    refine Br (Q:=fun e s' u''=>e= .normal/\s' 39=sc (.bool false)/\s' 2=ptr u.nobj 0/\s' 3=ptr (u.nobj+1) 0/\s' 8=sl ids ts.length (Ac ts)/\s' 9=ic ts.length/\s' 10=ic i/\u''=(u'.new [sc (.bool false),ic 0]).put u'.nobj [sc (.bool false),ic w2]) ?_ ?_
    ·refine A4 Ak (fun _=>True) [] [0,1,2,3,4,5,6,7,8] 5 #[true,true,true,true,true,true,true,true,true,false,false,false,false,false] Ad5 (fun _ _ _ h=>by cases h.1) ?_;intro κ hκ;refine Z3 ?_;refine hκ.out _ ?_;clear hκ κ;refine Al (i:=9) Ad5 ?_;refine Aq ?_;intro κ hκ;refine Z3 ?_;refine hκ.out _ _ ⟨kept_refl,?_⟩;clear hκ κ;refine Ei [10,11,12,13] Ad5 Ad5 (fun _ _ _ h=>by cases h.1) (Abb _) (fun o ho _=>rfl) ?_;intro κ hκ;refine Z3 ?_;refine hκ.out _ _ ⟨rfl,?_⟩;simp[upd, *]
    ·rintro e s' u'' ⟨rfl,g39,g2,g3,g8,g9,g10,rfl⟩;refine Du g39 ?_
     repeat' (first|refine Z1 ?_|(refine Z8 ?_;intro κ hκ)|(refine Z4 ?_;clear hκ κ)|(refine Z2 ?_ ?_<;>intro h aa<;>try exact Xp)|refine Z3 ?_|exact⟨⟩|(apply hκ.out;clear hκ κ))
     refine⟨ts.length-(i+1),Ad2,i+1,?_⟩
     ((repeat' with_reducible refine And.intro ?_ ?_)<;>first|exact Xq|exact (ao.out (by rw[HF.out];simpa using h))|exact Xs)
  |true=>
   obtain⟨pl,hpl,am⟩:∃k:Nat,k<ts.length/\Hp ts w2=(k:Int):=by
    have hm:=Abh ac;exact⟨ts.idxOf (true,w2),List.idxOf_lt_length_iff.2 hm,if_pos hm⟩
   have ai:t[pl]?=some t[pl]:=List.getElem?_eq_getElem Ad2;have ax:=Mm ai;generalize t[pl]=y at ai ax;have HF:Ad8 (Qc ts t i=(x==y)):=by rw[Ad8,Qc,ac,af];simp[am,ai]
   clear ac af hA ai;have ap:=fun u=>Fc p ids ts w2 av u;rw[am]at ap
   repeat' (first|refine Z1 ?_|(refine Z8 ?_;intro κ hκ)|(refine Z4 ?_;clear hκ κ)|(refine Z2 ?_ ?_<;>intro h aa<;>try exact Xp)|refine Z3 ?_|exact⟨⟩|(apply hκ.out;clear hκ κ))
   refine Bt Ak (fun _=>True) [] [0,1,2,3,4,5,6,7,8,9,10] [] Ad5 (fun _ _ _ h=>h) ?_;intro κ hκ
   repeat' (first|refine Z1 ?_|(refine Z8 ?_;intro κ hκ)|(refine Z4 ?_;clear hκ κ)|(refine Z2 ?_ ?_<;>intro h aa<;>try exact Xp)|refine Z3 ?_|exact⟨⟩|(apply hκ.out;clear hκ κ))
   have ar:Keep u ((u'.new [sc (.bool false),ic 0]).put u'.nobj [sc (.bool true),ic w2]):=(hK.new _).put hK.nobj _;have kv:∀p,p<u'.nobj->((u'.new [sc (.bool false),ic 0]).put u'.nobj [sc (.bool true),ic w2]).obj p=u'.obj p:=fun p hp=>by rw[Ai Ad2,Ae Ad2]
   refine Br (Q:=fun e s' u''=>e= .normal/\s' 39=sc (.bool (x !=y))/\s' 2=ptr u.nobj 0/\s' 3=ptr (u.nobj+1) 0/\s' 8=sl ids ts.length (Ac ts)/\s' 9=ic ts.length/\s' 10=ic i/\Keep ((u'.new [sc (.bool false),ic 0]).put u'.nobj [sc (.bool true),ic w2]) u'') ?_ ?_
   ·refine A4 Ak (fun _=>True) [] [0,1,2,3,4,5,6,7,8] 5 #[true,true,true,true,true,true,true,true,true,false,false,false,false,false] Ad5 (fun _ _ _ h=>by cases h.1) ?_;intro κ hκ;refine Z3 ?_;refine hκ.out _ ?_;clear hκ κ;refine Al (i:=9) Ad5 ?_;refine Aq ?_;intro κ hκ;refine Z3 ?_;refine ACalls.mono (ap _) ?_;rintro _ u5 ⟨rfl,ad⟩;refine Z3 ?_;refine hκ.out _ _ ⟨Ao ad,?_⟩;clear hκ κ;have ae:=ad.nobj;have ab:=ad.obj;simp only[Ab,Aa]at ae ab;have o5:u5.obj (u.nobj+1)=Ar t:=by rw[ab _ Ad2,kv _ Ad2,ak]
    refine Ei [10,11,12,13] Ad5 Ad5 (fun _ _ _ h=>by cases h.1) ad.nobj (fun o ho _=>ad.ver o ho) ?_;intro κ hκ;refine Z3 ?_;refine hκ.out _ _ ⟨rfl,?_⟩;simp[upd, *]
   ·rintro e s' u'' ⟨rfl,g39,g2,g3,g8,g9,g10,ad⟩;have ae:=ad.nobj;have ab:=ad.obj;simp only[Ab,Aa]at ae ab;have a4:=ar.trans ad;have o50:u''.obj u.nobj=[ic p,sl ids ts.length (Ac ts)]:=by rw[ab _ Ad2,kv _ Ad2,au]
    have o51:u''.obj (u.nobj+1)=Ar t:=by rw[ab _ Ad2,kv _ Ad2,ak]
    clear ab kv;cases ah:x !=y with
    |true=>
     rw[ah]at g39;refine F8 g39 ?_
     repeat' (first|refine Z1 ?_|(refine Z8 ?_;intro κ hκ)|(refine Z4 ?_;clear hκ κ)|(refine Z2 ?_ ?_<;>intro h aa<;>try exact Xp)|refine Z3 ?_|exact⟨⟩|(apply hκ.out;clear hκ κ))
     exact⟨_,rfl,by rw[HB.out (by rw[HF.out];simp only[bne_iff_ne,ne_eq]at ah;simp[ah])]⟩
    |false=>
     rw[ah]at g39;refine Du g39 ?_
     repeat' (first|refine Z1 ?_|(refine Z8 ?_;intro κ hκ)|(refine Z4 ?_;clear hκ κ)|(refine Z2 ?_ ?_<;>intro h aa<;>try exact Xp)|refine Z3 ?_|exact⟨⟩|(apply hκ.out;clear hκ κ))
     refine⟨ts.length-(i+1),Ad2,i+1,?_⟩
     ((repeat' with_reducible refine And.intro ?_ ?_)<;>first|exact Xq|exact (ao.out (by rw[HF.out];simpa using ah))|exact Xs)
 ·have aw:i=ts.length:=Ad2;subst aw;have hR:J0 ts t=true:=by
   unfold J0;rw[Abg];intro j hj;exact hA.out j (by simpa using hj)
  repeat' (first|refine Z1 ?_|(refine Z8 ?_;intro κ hκ)|(refine Z4 ?_;clear hκ κ)|(refine Z2 ?_ ?_<;>intro h aa<;>try exact Xp)|refine Z3 ?_|exact⟨⟩|(apply hκ.out;clear hκ κ))
  first|exact⟨_,rfl,by rw[hR],hK⟩|exact⟨_,rfl,by rw[hR]⟩|exact⟨_,rfl,hK⟩|exact⟨_,rfl,rfl⟩|exact hK
theorem Io {l:List Ca}{k:Nat}{t:Ca}(h3:T3 l)(h:l[k]?=some t):t.length=3/\∃r,(D9 l).drop (k*3)=Ar t++r:=by
 obtain⟨a,b,c,r,rfl,e⟩:=jV h3 h;exact⟨rfl,r,by rw[e];rfl⟩
def Gy (t:Ca)(k:Int):Int:=(t[k.toNat]?).getD 0
theorem Iu {ts:List Tm}{v:Int}(h:Bc ts v=true):∃k:Nat,k<ts.length/\Hp ts v=(k:Int):=by
 have hm:(true,v)∈ts:=by simpa[Bc]using h
 exact⟨ts.idxOf (true,v),List.idxOf_lt_length_iff.2 hm,if_pos hm⟩
def Gz (v n:Int)(p:Part):Part:=if Bc p.a.ts v=true then⟨⟨p.a.p,Bh v n p.a.ts⟩,p.tups.filter fun t=>Gy t (Hp p.a.ts v)==n⟩else p
theorem Dr {α:Type}(f:α->Bool)(l:List α)(x:α):(l++[x]).filter f=l.filter f++if f x=true then [x]else []:=by
 rw[Adg];by_cases h:f x=true<;>simp[h]
theorem gR (p:Part)(id idt:Nat)(v n:Int)(ha:p.a.ts.length<=3)(ht:p.tups.length<=5000)(h3:T3 p.tups)(u:St):ACalls Tryz.prog 227 [ag [ic p.a.p,sl id p.a.ts.length (Ac p.a.ts),sl idt p.tups.length (D9 p.tups)],ic v,ic n] u fun r u'=>(∃c',r=ag c'/\Ky (Gz v n p) c')/\Keep u u':=by
 have bf:=H5 h3;have az:p.a.ts.length<=1000:=Ad2;have au:=fun u=>Fc p.a.p id p.a.ts v az u;have ba:=fun u=>Lh p.a.p id p.a.ts v n az u;cases hv:Bc p.a.ts v with
 |false=>
  have hp:Hp p.a.ts v= -1:=It (by simpa[Bc]using hv);have HR:Ad8 (Gz v n p=p):=if_neg (by rw[hv];simp);rw[hp]at au;clear hp;refine Z9 44 [.cell 6 239] Tryz.func227 ?_
  repeat' (first|refine Z1 ?_|(refine Z8 ?_;intro κ hκ)|(refine Z4 ?_;clear hκ κ)|(refine Z2 ?_ ?_<;>intro h af<;>try exact Xp)|(refine Z6 ?_;intro idn un ak am ac aa ad ab)|(refine Z5 ?_;refine Xi (au _) ?_;rintro _ _ ⟨rfl,ai⟩;(have aj:=ai.nobj;have ae:=ai.obj;have av:=(((Keep.refl u).new _).new _).trans ai;simp only[Aa]at aj ae))|refine Z3 ?_|exact⟨⟩|(apply hκ.out;clear hκ κ))
  exact⟨_,rfl,⟨_,rfl,by rw[HR.out];exact⟨id,idt,rfl⟩⟩,av.put Ad2 _⟩
 |true=>
  obtain⟨pl,hpl,ay⟩:=Iu hv;have HR:Ad8 (Gz v n p=⟨⟨p.a.p,Bh v n p.a.ts⟩,p.tups.filter fun t=>Gy t pl==n⟩):=by rw[Ad8,Gz,if_pos hv,ay]
  rw[ay]at au;clear ay;have a5:pl<3:=Ad2;have a6:((pl:Int)== -1)=false:=by simp
  refine Z9 44 [.cell 6 239] Tryz.func227 ?_
  repeat' (first|refine Z1 ?_|(refine Z8 ?_;intro κ hκ)|(refine Z4 ?_;clear hκ κ)|(refine Z2 ?_ ?_<;>intro h af<;>try exact Xp)|(refine Z6 ?_;intro idn un ak am ac aa ad ab)|(refine Z5 ?_;first|(refine Xi (au _) ?_;rintro _ _ ⟨rfl,ai⟩;(have aj:=ai.nobj;have ae:=ai.obj;have av:=(((Keep.refl u).new _).new _).trans ai;simp only[Aa]at aj ae))|(refine Xi (ba _) ?_;rintro _ _ ⟨⟨idp,rfl⟩,aw⟩;(have a0:=aw.nobj;have ao:=aw.obj;have bb:=av.trans aw)))|refine Z3 ?_|exact⟨⟩|(apply hκ.out;clear hκ κ))
  rename_i u1 u2;have o1:u2.obj (u.nobj+1)=[ic 0,nilS,nilS]:=by rw[ao _ Ad2,ae _ Ad2,Bp Ad6 Ad6]
  clear ae ao av ai aw
  refine Ad (fun m s u'=>∃(i i3:Nat) (o:List Ca) (xs:List AV),m=p.tups.length-i/\i<=p.tups.length/\s 2=ic n/\s 6=ptr (u.nobj+1) 0/\s 7=ic pl/\s 8=ptr u2.nobj 0/\s 25=sl idt p.tups.length (D9 p.tups)/\s 26=ic p.tups.length/\s 27=ic i/\Keep u u'/\u2.nobj<u'.nobj/\u'.obj (u.nobj+1)=[ic 0,nilS,nilS]/\u'.obj u2.nobj=[ic p.a.p,sl idp (Bh v n p.a.ts).length (Ac (Bh v n p.a.ts)),sl i3 o.length xs]/\Own u u' i3 o.length/\o.length<=i/\xs.length=o.length*3/\Ad8 (xs=D9 o/\o=(p.tups.take i).filter fun t=>Gy t pl==n)) p.tups.length
   ⟨0,1,[],[],Ad2,Ad2,by simp[upd,initS],Ad4,Ad4,Ad4,Ad4,Ad4,rfl,Xs,Ad7,?_,?_,Own.nil _ _,by simp,by simp,⟨rfl,by simp⟩⟩ ?_
  ·rw[Ai Ad2,Ae Ad2,o1]
  ·rw[Aj];simp
  clear o1 bb;rintro m s u' ⟨i,i3,o,xs,rfl,hi,h2,h6,h7,h8,bm,bl,bi,hK,bh,bd,bc,hO,bg,a3,hX⟩;have be:=hK.nobj;by_cases a7:i<p.tups.length
  ·have ah:=List.getElem?_eq_getElem a7;obtain⟨an,r,hd⟩:=Io h3 ah;generalize p.tups[i]=t at hd ah an;have HF:Ad8 ((p.tups.take (i+1)).filter (fun t=>Gy t pl==n)=(p.tups.take i).filter (fun t=>Gy t pl==n)++if (Gy t pl==n)=true then [t]else []):=by
    rw[Ad8,Abq,ah,Ac2,Dr]
   have ar:t[pl]?=some t[pl]:=List.getElem?_eq_getElem Ad2;have a9:=Mm ar;have ap:Ad8 (Gy t pl=t[pl]):=by simp[Ad8,Gy,ar]
   generalize t[pl]=x at ar a9 ap;clear ah ar;have f1:=Gs an;have f2:=Le an;have f3:=Hn an;have f4:=Ml an;have f5:=Ee t;have f6:=Wl an;by_cases ax:x=n
   ·subst ax;have HX:Ad8 (xs++Ar t=D9 (o++[t])/\o++[t]=(p.tups.take (i+1)).filter fun t=>Gy t pl==x):=by
     obtain⟨x1,x2⟩:=hX.out;refine⟨by rw[x1,Na],?_⟩;rw[HF.out,if_pos (by rw[ap.out];simp),x2]
    clear hX HF ap
    repeat' (first|refine Z1 ?_|(refine Z8 ?_;intro κ hκ)|(refine Z4 ?_;clear hκ κ)|(refine Z2 ?_ ?_<;>intro h af<;>try exact Xp)|(refine Z6 ?_;intro idn un ak am ac aa ad ab)|refine Z3 ?_|exact⟨⟩|(apply hκ.out;clear hκ κ))
    refine Bj (by first|exact Fj) ((hK.new _).put hK.nobj _) (Own.put (Own.new hO _) _ _) (by decide) (by rfl) (a3) (by rw[f1]) (f5) (by decide) Ad2 Ad2 ?_;intro idn un ak am ac aa ad ab;simp only[Ab,Aa]at aa;have eob:∀p,p<u'.nobj->un.obj p=u'.obj p:=fun p hp=>by rw[ac,Ai Ad2,Ae Ad2]
    refine Z3 ?_
    repeat' (first|refine Z1 ?_|(refine Z8 ?_;intro κ hκ)|(refine Z4 ?_;clear hκ κ)|(refine Z2 ?_ ?_<;>intro h af<;>try exact Xp)|(refine Z6 ?_;intro idn un ak am ac aa ad ab)|refine Z3 ?_|exact⟨⟩|(apply hκ.out;clear hκ κ))
    refine⟨p.tups.length-(i+1),Ad2,i+1,idn,o++[t],xs++Ar t,?_⟩
    ((repeat' with_reducible refine And.intro ?_ ?_)<;>first|exact Xq|exact (am.put Ad2 _)|exact (by simpa using Own.put ak _ _)|exact (HX)|exact Xs)
   ·have a4:(x==n)=false:=by simpa using ax
    have HX:Ad8 (xs=D9 o/\o=(p.tups.take (i+1)).filter fun t=>Gy t pl==n):=by
     obtain⟨x1,x2⟩:=hX.out;refine⟨x1,?_⟩;rw[HF.out,if_neg (by rw[ap.out,a4];simp),x2,Abv]
    clear hX HF ap ax
    repeat' (first|refine Z1 ?_|(refine Z8 ?_;intro κ hκ)|(refine Z4 ?_;clear hκ κ)|(refine Z2 ?_ ?_<;>intro h af<;>try exact Xp)|(refine Z6 ?_;intro idn un ak am ac aa ad ab)|refine Z3 ?_|exact⟨⟩|(apply hκ.out;clear hκ κ))
    refine⟨p.tups.length-(i+1),Ad2,i+1,i3,o,xs,?_⟩
    ((repeat' with_reducible refine And.intro ?_ ?_)<;>first|exact Xq|exact (Own.put (Own.new hO _) _ _)|exact (HX)|exact Xs)
  ·have a8:i=p.tups.length:=Ad2;subst a8;obtain⟨x1,x2⟩:=hX.out;rw[Abn]at x2
   repeat' (first|refine Z1 ?_|(refine Z8 ?_;intro κ hκ)|(refine Z4 ?_;clear hκ κ)|(refine Z2 ?_ ?_<;>intro h af<;>try exact Xp)|(refine Z6 ?_;intro idn un ak am ac aa ad ab)|refine Z3 ?_|exact⟨⟩|(apply hκ.out;clear hκ κ))
   exact⟨_,rfl,⟨_,rfl,by rw[HR.out,<-x2];exact⟨idp,i3,by first|rfl|rw[x1]⟩⟩,hK.put Ad2 _⟩
end Go.Proofs.YtmoeoppbmhfbpabGreatDoorH
