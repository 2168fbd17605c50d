import Derived.Test.YtmoeoppbmhfbpabGreatDoorIEngA
set_option maxHeartbeats 16000000
set_option maxRecDepth 100000
set_option linter.all false
open List renaming length->Z
namespace Go.Proofs.YtmoeoppbmhfbpabGreatDoorI
open Go.Abs
def F8 (q:AY):AY:={q with A:=q.A.eraseP fun p=>idleB q p.a}
theorem nT {α:Type}(f:α->Bool)(l w):(l++[w]).eraseP f=if l.any f=true then l.eraseP f++[w]else if f w=true then l else l++[w]:=by
 by_cases h:l.any f=true
 ·rw[if_pos h];rw[CW]at h;obtain⟨x,hx,hf⟩:=h;exact List.eraseP_append_left hf _ hx
 ·rw[if_neg h];have h':∀b∈l,¬f b=true:=fun b hb hf=>h (CW.2 ⟨b,hb,hf⟩);rw[List.eraseP_append_right _ h'];by_cases hw:f w=true
  ·simp[hw]
  ·simp[hw]
theorem zM {α:Type}(f:α->Bool)(l):Z (l.eraseP f)<=Z l:=List.length_eraseP_le
theorem jY {q}(h:Qo q):Qo (F8 q):=by
 have hs:∀p∈(F8 q).A,p∈q.A:=fun p hp=>List.mem_of_mem_eraseP hp;have hl:Z (F8 q).A<=Z q.A:=zM _ _;exact⟨h.hd,BO hl h.pl,h.nl,fun p hp=>h.pa p (hs p hp),fun p hp=>h.pt p (hs p hp),fun p hp=>h.p3 p (hs p hp),h.na⟩
theorem nS (q c)(hc:EQ q c)(hq:Qo q)(u):AF Tryz.prog 256 [ag c] u fun r u'=>(∃c',r=ag c'/\EQ (F8 q) c')/\AE u u':=by
 have au:=hc;obtain⟨ih,ip,inn,pc,nc,rfl,hP,hN⟩:=hc;have hpl:=EL.length E8 hP;have hl:=hq.pl;have ai:=fun (a:Dv) (id:Nat) (ha:Z a.ts<=3) u=>sQ q _ a id ha au hq u;clear au;refine Z9 35 [.cell 2 191] Tryz.func256 ?_
 refine zz ?_
 refine Ae (fun m s u'=>∃(k i3:Nat) (d:Bool) (o:List Part) (xs:List AV),m=Z q.A-k/\k<=Z q.A/\s 1=ptr u.B 0/\s 2=ptr (u.B+1) 0/\s 3=ptr (u.B+2) 0/\s 4=sc (.bool d)/\s 13=sl ip (Z q.A) pc/\s 14=ic (Z q.A)/\s 15=ic k/\AE u u'/\u.B+2<u'.B/\u'.C u.B=[ic q.h.p,sl ih (Z q.h.ts) (Ad q.h.ts),sl ip (Z q.A) pc,sl inn (Z q.B) nc]/\u'.C (u.B+1)=[ic 0,nilS,nilS,nilS]/\u'.C (u.B+2)=[ic q.h.p,sl ih (Z q.h.ts) (Ad q.h.ts),sl i3 (Z o) xs,sl inn (Z q.B) nc]/\Own u u' i3 (Z o)/\Z o<=k/\Z xs=Z o*3/\AD (EL N7 o xs/\d=(q.A.take k).any (fun p=>idleB q p.a)/\o=(q.A.take k).eraseP fun p=>idleB q p.a)) (Z q.A)
  ⟨0,1,false,[],[],AA,AA,AG,AG,AG,AG,AG,AG,rfl,Xs,BM,?_,?_,?_,Own.nil _ _,by simp,by simp,⟨rfl,by simp,by simp⟩⟩ ?_
 ·rw[Aj AA,Ah AK,Ah AK,Ao]
 ·rw[Aj AA,Ah AK,Bg AK AK]
 ·rw[show u.B+2=u.B+1+1 by omega,Ak];simp
 rintro m s u' ⟨k,i3,d,o,xs,rfl,hk,h1,h2,h3,h4,a9,a8,a7,hK,a6,a3,a0,az,hO,a5,av,hX⟩;have a4:=hK.B;by_cases ap:k<Z q.A
 ·have aa:=AJ ap;obtain⟨id,idt,r,hd⟩:=F5 hP aa;have hb:=hq.pa _ (AT ap);generalize q.A[k]=w at hd aa hb;have HE:AD ((q.A.take (k+1)).eraseP (fun p=>idleB q p.a)=if (q.A.take k).any (fun p=>idleB q p.a)=true then (q.A.take k).eraseP (fun p=>idleB q p.a)++[w]else if idleB q w.a=true then q.A.take k else q.A.take k++[w]):=by
   rw[AD,AU,aa,BJ,nT]
  have HA:AD ((q.A.take (k+1)).any (fun p=>idleB q p.a)=((q.A.take k).any (fun p=>idleB q p.a)||idleB q w.a)):=by
   rw[AD,AU,aa,BJ,LM];simp
  have HN:AD ((q.A.take k).any (fun p=>idleB q p.a)=false->(q.A.take k).eraseP (fun p=>idleB q p.a)=q.A.take k):=fun h=>List.eraseP_of_forall_not (fun a ha hf=>by
   rw[EB]at h
   exact h a ha hf)
  clear aa;have ai:=ai w.a id hb;cases d with
  |true=>
   have HX:AD (EL N7 (o++[w]) (xs++[ic w.a.p,sl id (Z w.a.ts) (Ad w.a.ts),sl idt (Z w.A) (Fo w.A)])/\true=(q.A.take (k+1)).any (fun p=>idleB q p.a)/\o++[w]=(q.A.take (k+1)).eraseP fun p=>idleB q p.a):=by
    obtain⟨x1,x2,x3⟩:=hX.o;refine⟨EL.append x1 (EL.single ⟨id,idt,rfl⟩),?_,?_⟩
    ·rw[HA.o,<-x2];rfl
    ·rw[HE.o,if_pos x2.symm,x3]
   clear hX HE HA HN
   refine qm ?_;intro yd yb
   refine Bn (by first|exact En) ((hK.new _).put hK.B _) (Own.put (Own.new hO _) _ _) (by decide) (by rfl) (av) (by rfl) (by rfl) (by decide) AA AA ?_;intro idn un am an aj ad ao ak;simp only[Ab,Aa]at ad;have eob:∀p,p<u'.B->un.C p=u'.C p:=fun p hp=>by rw[aj,Aj AA,Ah AA]
   refine Z3 ?_
   refine pz ?_
   refine⟨Z q.A-(k+1),AA,k+1,idn,true,o++[w],xs++[ic w.a.p,sl id (Z w.a.ts) (Ad w.a.ts),sl idt (Z w.A) (Fo w.A)],?_⟩
   ((repeat' refine Zi ?_ ?_)<;>first|exact Xq|exact (an.put AA _)|exact (by simpa using Own.put am _ _)|exact HX|exact Xs)
  |false=>
   cases ah:idleB q w.a with
   |true=>
    have HX:AD (EL N7 o xs/\true=(q.A.take (k+1)).any (fun p=>idleB q p.a)/\o=(q.A.take (k+1)).eraseP fun p=>idleB q p.a):=by
     obtain⟨x1,x2,x3⟩:=hX.o;refine⟨x1,?_,?_⟩
     ·rw[HA.o,<-x2,ah];rfl
     ·rw[HE.o,if_neg (by rw[<-x2];simp),if_pos ah,x3,HN.o x2.symm]
    clear hX HE HA HN;rw[ah]at ai
    refine qb ?_;intro yd yb;refine Xi (ai _) ?_;rintro _ _ ⟨rfl,ac⟩;(have af:=ac.B;have ae:=ac.C;have ay:=((hK.new _).put hK.B _).trans ac;have ax:=Own.keep (Own.put (Own.new hO _) _ _) ac;simp only[Ab,Aa]at af ae);refine pz ?_
    refine⟨Z q.A-(k+1),AA,k+1,i3,true,o,xs,?_⟩
    exact qh HX
   |false=>
    have HX:AD (EL N7 (o++[w]) (xs++[ic w.a.p,sl id (Z w.a.ts) (Ad w.a.ts),sl idt (Z w.A) (Fo w.A)])/\false=(q.A.take (k+1)).any (fun p=>idleB q p.a)/\o++[w]=(q.A.take (k+1)).eraseP fun p=>idleB q p.a):=by
     obtain⟨x1,x2,x3⟩:=hX.o;refine⟨EL.append x1 (EL.single ⟨id,idt,rfl⟩),?_,?_⟩
     ·rw[HA.o,<-x2,ah];rfl
     ·rw[HE.o,if_neg (by rw[<-x2];simp),if_neg (by rw[ah];simp),x3,HN.o x2.symm]
    clear hX HE HA HN;rw[ah]at ai
    refine qb ?_;intro yd yb;refine Xi (ai _) ?_;rintro _ _ ⟨rfl,ac⟩;(have af:=ac.B;have ae:=ac.C;have ay:=((hK.new _).put hK.B _).trans ac;have ax:=Own.keep (Own.put (Own.new hO _) _ _) ac;simp only[Ab,Aa]at af ae);refine qd ?_;intro yd yb;intro idn un am an aj ad ao ak;refine pz ?_
    refine⟨Z q.A-(k+1),AA,k+1,idn,false,o++[w],xs++[ic w.a.p,sl id (Z w.a.ts) (Ad w.a.ts),sl idt (Z w.A) (Fo w.A)],?_⟩
    ((repeat' refine Zi ?_ ?_)<;>first|exact Xq|exact (an.put AA _)|exact (by simpa using Own.put am _ _)|exact HX|exact Xs)
 ·have aw:k=Z q.A:=AA;subst aw;obtain⟨x1,-,x3⟩:=hX.o;rw[AS]at x3
  refine pz ?_
  exact⟨_,rfl,⟨_,rfl,ih,i3,inn,xs,nc,by rw[F8,<-x3],by rw[F8,<-x3];exact x1,hN⟩,hK.put AA _⟩
inductive ED (q:AY):AY->Prop where
 |refl:ED q q
 |tail {q':AY}:ED q q'->ED q (F8 q')
theorem sL (q c)(hc:EQ q c)(hq:Qo q)(u):AF Tryz.prog 221 [ag c] u fun r u'=>(∃c' q',r=ag c'/\EQ q' c'/\Qo q'/\ED q q')/\AE u u':=by
 obtain⟨ih,ip,inn,pc,nc,rfl,hP,hN⟩:=hc;have hl:=hq.pl;refine Z9 19 [.cell 2 191] Tryz.func221 ?_
 refine zz ?_
 refine Ae (fun m s u'=>∃(qk:AY) (ck:List AV),s 1=ptr u.B 0/\s 2=ptr (u.B+1) 0/\s 3=ic m/\m<=65/\AE u u'/\u.B+1<u'.B/\u'.C u.B=ck/\u'.C (u.B+1)=[ic 0,nilS,nilS,nilS]/\EQ qk ck/\AD (Qo qk/\ED q qk)) (Z q.A+1)
  ⟨q,_,AG,AG,AG,AA,Xs,AK,rfl,?_,⟨ih,ip,inn,pc,nc,?_,hP,hN⟩,hq,.refl⟩ ?_
 ·rw[Bg AK AK]
 ·rw[Ah AK,Ao]
 clear hP hN hl;rintro m s u' ⟨qk,ck,h1,h2,h3,hm,hK,ao,am,ak,hE,hQ⟩;have an:=hK.B;have ac:=hE;obtain⟨ih,ip,inn,pc,nc,rfl,hP,hN⟩:=hE;have hT:=fun u=>nS qk _ ac hQ.o.1 u;have aj:AD _:=ac;clear ac;have hl:=hQ.o.1.pl;by_cases ap:Z qk.A<m
 ·refine qb ?_;intro yd yb;refine Xi (hT _) ?_;rintro _ _ ⟨⟨_,rfl,ih2,ip2,inn2,pc2,nc2,rfl,af,ah⟩,ab⟩;(have ae:=ab.B;have ad:=ab.C;have ai:=hK.trans ab);refine pz ?_
  refine⟨Z qk.A,AA,F8 qk,[ic (F8 qk).h.p,sl ih2 (Z (F8 qk).h.ts) (Ad (F8 qk).h.ts),sl ip2 (Z (F8 qk).A) pc2,sl inn2 (Z (F8 qk).B) nc2],?_⟩
  ((repeat' refine Zi ?_ ?_)<;>first|exact Xq|exact (ai.put AA _)|exact (⟨ih2,ip2,inn2,pc2,nc2,rfl,af,ah⟩)|exact (⟨jY hQ.o.1,.tail hQ.o.2⟩)|exact Xs)
 ·refine pz ?_
  exact⟨_,rfl,⟨_,qk,rfl,aj.o,hQ.o.1,hQ.o.2⟩,hK.put AA _⟩
theorem Ir {t}(h:Z t=3):Z (As t)=3:=by rw[B9,h]
theorem On {t}(h:Z t=3)(r):List.take 3 (As t++r)=As t:=by rw[List.take_append_of_le_length (by rw[Ir h];exact AR _),FW (by rw[Ir h];exact AR _)]
theorem Js {t}(h:Z t=3):List.take 3 (As t)=As t:=FW (by rw[Ir h];exact AR _)
theorem Qd {t}(h:Z t=3)(x y z):lsp [x,y,z] 0 (As t)=As t:=by
 match t,h with
 |[a,b,c],_=>rfl
theorem dS {t}(h:Z t=3)(r):3<=Z (As t++r):=by rw[AX,Ir h];omega
theorem Qe {t}{i:Nat}{x}(h:t[i]?=some x):(As t)[i]?=some (ic x):=by simp[As,h]
def Uo (ts:List Tm)(t:Cc)(i:Nat):Bool:=match ts[i]?,t[i]? with
 |some (false,n),some x=>x==n
 |some (true,v),some x=>x==(t[(Ju ts v).toNat]?).getD 0
 |_,_=>false
def Mk (ts:List Tm)(t:Cc):Bool:=(List.range (Z ts)).all (Uo ts t)
theorem sR (p ids ts t)(ht:Z t=3)(hn:Z ts<=3)(u):AF Tryz.prog 185 [ag [ic p,sl ids (Z ts) (Ad ts)],ag (As t)] u fun r u'=>r=sc (.bool (Mk ts t))/\AE u u':=by
 have a0:=Cs ts;have a6:=Ir ht;have a5:=Js ht;have aw:Z ts<=1000:=AA;have aj:∀i,i<Z ts->Uo ts t i=false->Mk ts t=false:=fun i hi h=>by
  unfold Mk;rw[LH];exact⟨i,by simpa using hi,by rw[h];simp⟩
 refine Z9 41 [.tmp 4] Tryz.func185 ?_
 refine pz ?_
 refine Ae (fun m s u'=>∃i:Nat,m=Z ts-i/\i<=Z ts/\s 2=ptr u.B 0/\s 3=ptr (u.B+1) 0/\s 8=sl ids (Z ts) (Ad ts)/\s 9=ic (Z ts)/\s 10=ic i/\AE u u'/\u.B+1<u'.B/\u'.C u.B=[ic p,sl ids (Z ts) (Ad ts)]/\u'.C (u.B+1)=As t/\AD (∀j,j<i->Uo ts t j=true)) (Z ts)
  ⟨0,AA,AA,AG,AG,AG,AG,rfl,Xs,AK,?_,?_,fun j hj=>AA⟩ ?_
 ·rw[Ah AK,Ao]
 ·rw[Bg AK AK]
 rintro m s u' ⟨i,rfl,hi,h2,h3,h8,h9,a7,hK,a3,av,ak,hA⟩;have az:=hK.B;by_cases an:i<Z ts
 ·have ab:=AJ an;obtain⟨r,hd⟩:=Cz ab;have af:t[i]?=some t[i]:=AJ AA;have ay:=Qe af;generalize ts[i]=w at hd ab;generalize t[i]=x at af ay;obtain⟨w1,w2⟩:=w;have ao:AD (Uo ts t i=true->∀j,j<i+1->Uo ts t j=true):=fun h j hj=>by
   by_cases e:j=i
   ·subst e;exact h
   ·exact hA.o j AA
  have HB:AD (Uo ts t i=false->Mk ts t=false):=aj i an;cases w1 with
  |false=>
   have HF:AD (Uo ts t i=(x==w2)):=by rw[AD,Uo,ab,af]
   clear ab af hA
   refine pz ?_
   refine Ay Ag (fun _=>True) [] [0,1,2,3,4,5,6,7,8,9,10] [] AH (fun _ _ _ h=>h) ?_;intro yd yb
   refine qe ?_ ?_<;>intro h ac
   ·exact⟨_,rfl,by rw[HB.o (by rw[HF.o];simp only[bne_iff_ne,ne_eq]at h;simp[h])],(hK.new _).put hK.B _⟩
   ·have au:AE u ((u'.new [sc (.bool false),ic 0]).put u'.B [sc (.bool false),ic w2]):=(hK.new _).put hK.B _;have kv:∀p,p<u'.B->((u'.new [sc (.bool false),ic 0]).put u'.B [sc (.bool false),ic w2]).C p=u'.C p:=fun p hp=>by rw[Aj AA,Ah AA]
    refine Az (Q:=fun e s' u''=>e= .normal/\s' 39=sc (.bool false)/\s' 2=ptr u.B 0/\s' 3=ptr (u.B+1) 0/\s' 8=sl ids (Z ts) (Ad ts)/\s' 9=ic (Z ts)/\s' 10=ic i/\u''=(u'.new [sc (.bool false),ic 0]).put u'.B [sc (.bool false),ic w2]) ?_ ?_
    ·refine Aq Ag (fun _=>True) [] [0,1,2,3,4,5,6,7,8] 5 #[true,true,true,true,true,true,true,true,true,false,false,false,false,false] AH (fun _ _ _ h=>by cases h.1) ?_;intro yd yb;refine Z3 ?_;refine yb.o _ ?_;clear yb yd;refine Ai (i:=9) AH ?_;refine Am ?_;intro yd yb;refine Z3 ?_;refine yb.o _ _ ⟨kept_refl,?_⟩;clear yb yd;refine Ci [10,11,12,13] AH AH (fun _ _ _ h=>by cases h.1) (AR _) (fun o ho _=>rfl) ?_;intro yd yb;refine Z3 ?_;refine yb.o _ _ ⟨rfl,?_⟩;simp[upd, *]
    ·rintro e s' u'' ⟨rfl,g39,g2,g3,g8,g9,g10,rfl⟩;refine Ct g39 ?_
     refine zz ?_
     refine⟨Z ts-(i+1),AA,i+1,?_⟩
     ((repeat' refine Zi ?_ ?_)<;>first|exact Xq|exact (ao.o (by rw[HF.o];simpa using h))|exact Xs)
  |true=>
   obtain⟨pl,hpl,am⟩:∃k:Nat,k<Z ts/\Ju ts w2=(k:Int):=by
    have hm:=BD ab;exact⟨ts.idxOf (true,w2),List.idxOf_lt_length_iff.2 hm,if_pos hm⟩
   have ai:t[pl]?=some t[pl]:=AJ AA;have ax:=Qe ai;generalize t[pl]=y at ai ax;have HF:AD (Uo ts t i=(x==y)):=by rw[AD,Uo,ab,af];simp[am,ai]
   clear ab af hA ai;have ap:=fun u=>G4 p ids ts w2 aw u;rw[am]at ap
   refine pz ?_
   refine Ay Ag (fun _=>True) [] [0,1,2,3,4,5,6,7,8,9,10] [] AH (fun _ _ _ h=>h) ?_;intro yd yb
   refine pz ?_
   have au:AE u ((u'.new [sc (.bool false),ic 0]).put u'.B [sc (.bool true),ic w2]):=(hK.new _).put hK.B _;have kv:∀p,p<u'.B->((u'.new [sc (.bool false),ic 0]).put u'.B [sc (.bool true),ic w2]).C p=u'.C p:=fun p hp=>by rw[Aj AA,Ah AA]
   refine Az (Q:=fun e s' u''=>e= .normal/\s' 39=sc (.bool (x !=y))/\s' 2=ptr u.B 0/\s' 3=ptr (u.B+1) 0/\s' 8=sl ids (Z ts) (Ad ts)/\s' 9=ic (Z ts)/\s' 10=ic i/\AE ((u'.new [sc (.bool false),ic 0]).put u'.B [sc (.bool true),ic w2]) u'') ?_ ?_
   ·refine Aq Ag (fun _=>True) [] [0,1,2,3,4,5,6,7,8] 5 #[true,true,true,true,true,true,true,true,true,false,false,false,false,false] AH (fun _ _ _ h=>by cases h.1) ?_;intro yd yb;refine Z3 ?_;refine yb.o _ ?_;clear yb yd;refine Ai (i:=9) AH ?_;refine Am ?_;intro yd yb;refine Z3 ?_;refine AF.mono (ap _) ?_;rintro _ u5 ⟨rfl,ad⟩;refine Z3 ?_;refine yb.o _ _ ⟨Al ad,?_⟩;clear yb yd;have ae:=ad.B;have aa:=ad.C;simp only[Ab,Aa]at ae aa;have o5:u5.C (u.B+1)=As t:=by rw[aa _ AA,kv _ AA,ak]
    refine Ci [10,11,12,13] AH AH (fun _ _ _ h=>by cases h.1) ad.B (fun o ho _=>ad.ver o ho) ?_;intro yd yb;refine Z3 ?_;refine yb.o _ _ ⟨rfl,?_⟩;simp[upd, *]
   ·rintro e s' u'' ⟨rfl,g39,g2,g3,g8,g9,g10,ad⟩;have ae:=ad.B;have aa:=ad.C;simp only[Ab,Aa]at ae aa;have a4:=au.trans ad;have o50:u''.C u.B=[ic p,sl ids (Z ts) (Ad ts)]:=by rw[aa _ AA,kv _ AA,av]
    have o51:u''.C (u.B+1)=As t:=by rw[aa _ AA,kv _ AA,ak]
    clear aa kv;cases ah:x !=y with
    |true=>
     rw[ah]at g39;refine Bt g39 ?_
     refine zz ?_
     exact⟨_,rfl,by rw[HB.o (by rw[HF.o];simp only[bne_iff_ne,ne_eq]at ah;simp[ah])]⟩
    |false=>
     rw[ah]at g39;refine Ct g39 ?_
     refine zz ?_
     refine⟨Z ts-(i+1),AA,i+1,?_⟩
     ((repeat' refine Zi ?_ ?_)<;>first|exact Xq|exact (ao.o (by rw[HF.o];simpa using ah))|exact Xs)
 ·have hil:i=Z ts:=AA;subst hil;have hR:Mk ts t=true:=by
   unfold Mk;rw[EK];intro j hj;exact hA.o j (by simpa using hj)
  refine pz ?_
  first|exact⟨_,rfl,by rw[hR],hK⟩|exact⟨_,rfl,by rw[hR]⟩|exact⟨_,rfl,hK⟩|exact⟨_,rfl,rfl⟩|exact hK
theorem Ks {l k t}(h3:T3 l)(h:l[k]?=some t):Z t=3/\∃r,(Fo l).drop (k*3)=As t++r:=by
 obtain⟨a,b,c,r,rfl,e⟩:=vI h3 h;exact⟨rfl,r,by rw[e];rfl⟩
def I4 (t:Cc)(k:Int):Int:=(t[k.toNat]?).getD 0
theorem Kw {ts v}(h:Bj ts v=true):∃k:Nat,k<Z ts/\Ju ts v=(k:Int):=by
 have hm:(true,v)∈ts:=by simpa[Bj]using h
 exact⟨ts.idxOf (true,v),List.idxOf_lt_length_iff.2 hm,if_pos hm⟩
def I6 (v n:Int)(p:Part):Part:=if Bj p.a.ts v=true then⟨⟨p.a.p,Br v n p.a.ts⟩,p.A.filter fun t=>I4 t (Ju p.a.ts v)==n⟩else p
theorem Ez {α:Type}(f:α->Bool)(l x):(l++[x]).filter f=l.filter f++if f x=true then [x]else []:=by
 rw[IZ];by_cases h:f x=true<;>simp[h]
theorem sM (p id idt v n)(ha:Z p.a.ts<=3)(ht:Z p.A<=5000)(h3:T3 p.A)(u):AF Tryz.prog 227 [ag [ic p.a.p,sl id (Z p.a.ts) (Ad p.a.ts),sl idt (Z p.A) (Fo p.A)],ic v,ic n] u fun r u'=>(∃c',r=ag c'/\N7 (I6 v n p) c')/\AE u u':=by
 have bf:=J4 h3;have aw:Z p.a.ts<=1000:=AA;have am:=fun u=>G4 p.a.p id p.a.ts v aw u;have a7:=fun u=>Ou p.a.p id p.a.ts v n aw u;cases hv:Bj p.a.ts v with
 |false=>
  have hp:Ju p.a.ts v= -1:=Kv (by simpa[Bj]using hv);have HR:AD (I6 v n p=p):=if_neg (by rw[hv];simp);rw[hp]at am;clear hp;refine Z9 44 [.cell 6 239] Tryz.func227 ?_
  refine qb ?_;intro yd yb;refine Xi (am _) ?_;rintro _ _ ⟨rfl,ad⟩;(have ae:=ad.B;have aa:=ad.C;have an:=(((AE.refl u).new _).new _).trans ad;simp only[Aa]at ae aa);refine pz ?_
  exact⟨_,rfl,⟨_,rfl,by rw[HR.o];exact⟨id,idt,rfl⟩⟩,an.put AA _⟩
 |true=>
  obtain⟨pl,hpl,au⟩:=Kw hv;have HR:AD (I6 v n p=⟨⟨p.a.p,Br v n p.a.ts⟩,p.A.filter fun t=>I4 t pl==n⟩):=by rw[AD,I6,if_pos hv,au]
  rw[au]at am;clear au;have a3:pl<3:=AA;have a4:((pl:Int)== -1)=false:=by simp
  refine Z9 44 [.cell 6 239] Tryz.func227 ?_
  (repeat (refine qb ?_;intro yd yb;(first|(refine Xi (am _) ?_;rintro _ _ ⟨rfl,ad⟩;(have ae:=ad.B;have aa:=ad.C;have an:=(((AE.refl u).new _).new _).trans ad;simp only[Aa]at ae aa))|(refine Xi (a7 _) ?_;rintro _ _ ⟨⟨idp,rfl⟩,ao⟩;(have ay:=ao.B;have ah:=ao.C;have a9:=an.trans ao)))));refine pz ?_
  rename_i u1 u2;have o1:u2.C (u.B+1)=[ic 0,nilS,nilS]:=by rw[ah _ AA,aa _ AA,Bg AK AK]
  clear aa ah an ad ao
  refine Ae (fun m s u'=>∃(i i3:Nat) (o:List Cc) (xs:List AV),m=Z p.A-i/\i<=Z p.A/\s 2=ic n/\s 6=ptr (u.B+1) 0/\s 7=ic pl/\s 8=ptr u2.B 0/\s 25=sl idt (Z p.A) (Fo p.A)/\s 26=ic (Z p.A)/\s 27=ic i/\AE u u'/\u2.B<u'.B/\u'.C (u.B+1)=[ic 0,nilS,nilS]/\u'.C u2.B=[ic p.a.p,sl idp (Z (Br v n p.a.ts)) (Ad (Br v n p.a.ts)),sl i3 (Z o) xs]/\Own u u' i3 (Z o)/\Z o<=i/\Z xs=Z o*3/\AD (xs=Fo o/\o=(p.A.take i).filter fun t=>I4 t pl==n)) (Z p.A)
   ⟨0,1,[],[],AA,AA,by simp[upd,AM],AG,AG,AG,AG,AG,rfl,Xs,BM,?_,?_,Own.nil _ _,by simp,by simp,⟨rfl,by simp⟩⟩ ?_
  ·rw[Aj AA,Ah AA,o1]
  ·rw[Ak];simp
  clear o1 a9;rintro m s u' ⟨i,i3,o,xs,rfl,hi,h2,h6,h7,h8,bm,bl,bi,hK,bh,bd,bc,hO,bg,az,hX⟩;have be:=hK.B;by_cases a5:i<Z p.A
  ·have ab:=AJ a5;obtain⟨af,r,hd⟩:=Ks h3 ab;generalize p.A[i]=t at hd ab af;have HF:AD ((p.A.take (i+1)).filter (fun t=>I4 t pl==n)=(p.A.take i).filter (fun t=>I4 t pl==n)++if (I4 t pl==n)=true then [t]else []):=by
    rw[AD,AU,ab,BJ,Ez]
   have ak:t[pl]?=some t[pl]:=AJ AA;have a6:=Qe ak;have ai:AD (I4 t pl=t[pl]):=by simp[AD,I4,ak]
   generalize t[pl]=x at ak a6 ai;clear ab ak;have f1:=Ir af;have f2:=On af;have f3:=Js af;have f4:=Qd af;have f5:=Fw t;have f6:=dS af;by_cases ap:x=n
   ·subst ap;have HX:AD (xs++As t=Fo (o++[t])/\o++[t]=(p.A.take (i+1)).filter fun t=>I4 t pl==x):=by
     obtain⟨x1,x2⟩:=hX.o;refine⟨by rw[x1,Qz],?_⟩;rw[HF.o,if_pos (by rw[ai.o];simp),x2]
    clear hX HF ai
    refine qm ?_;intro yd yb
    refine Bn (by first|exact G9) ((hK.new _).put hK.B _) (Own.put (Own.new hO _) _ _) (by decide) (by rfl) (az) (by rw[f1]) (f5) (by decide) AA AA ?_;intro idn un a8 ba av aj bb ax;simp only[Ab,Aa]at aj;have eob:∀p,p<u'.B->un.C p=u'.C p:=fun p hp=>by rw[av,Aj AA,Ah AA]
    refine Z3 ?_
    refine zz ?_
    refine⟨Z p.A-(i+1),AA,i+1,idn,o++[t],xs++As t,?_⟩
    ((repeat' refine Zi ?_ ?_)<;>first|exact Xq|exact (ba.put AA _)|exact (by simpa using Own.put a8 _ _)|exact HX|exact Xs)
   ·have a0:(x==n)=false:=by simpa using ap
    have HX:AD (xs=Fo o/\o=(p.A.take (i+1)).filter fun t=>I4 t pl==n):=by
     obtain⟨x1,x2⟩:=hX.o;refine⟨x1,?_⟩;rw[HF.o,if_neg (by rw[ai.o,a0];simp),x2,FA]
    clear hX HF ai ap
    refine pz ?_
    refine⟨Z p.A-(i+1),AA,i+1,i3,o,xs,?_⟩
    ((repeat' refine Zi ?_ ?_)<;>first|exact Xq|exact (Own.put (Own.new hO _) _ _)|exact HX|exact Xs)
  ·have hil:i=Z p.A:=AA;subst hil;obtain⟨x1,x2⟩:=hX.o;rw[AS]at x2
   refine pz ?_
   exact⟨_,rfl,⟨_,rfl,by rw[HR.o,<-x2];exact⟨idp,i3,by first|rfl|rw[x1]⟩⟩,hK.put AA _⟩
def Gp (v n:Int)(a:Dv):Dv:=⟨a.p,Br v n a.ts⟩
def Di (v n:Int)(q:AY):AY:=⟨Gp v n q.h,q.A.map (I6 v n),q.B.map (Gp v n)⟩
theorem XS {p c}(h:N7 p c):∃x y z,c=[x,y,z]/\flat x=true/\flat y=true/\flat z=true:=by
 obtain⟨id,idt,rfl⟩:=h;exact⟨_,_,_,rfl,rfl,rfl,rfl⟩
theorem Yl (q c v n)(hc:EQ q c)(hq:Qo q)(u):AF Tryz.prog 190 [ag c,ic v,ic n] u fun r u'=>(∃c',r=ag c'/\EQ (Di v n q) c')/\AE u u':=by
 obtain⟨ih,ip,inn,pc,nc,rfl,hP,hN⟩:=hc;have hpl:=EL.length E8 hP;have b0:=EL.length I9 hN;have hl:=hq.pl;have b1:=hq.nl;have hh:=hq.hd;have bi:Z q.h.ts<=1000:=AA;have bn:=fun u=>Ou q.h.p ih q.h.ts v n bi u;refine Z9 53 [.cell 6 191] Tryz.func190 ?_
 refine qb ?_;intro yd yb;refine Xi (bn _) ?_;rintro _ _ ⟨⟨idh,rfl⟩,ay⟩;(have az:=ay.B;have ah:=ay.C;have bq:=(((AE.refl u).new _).new _).trans ay;simp only[Aa]at az ah);refine pz ?_
 rename_i u1;have o0:u1.C u.B=[ic q.h.p,sl ih (Z q.h.ts) (Ad q.h.ts),sl ip (Z q.A) pc,sl inn (Z q.B) nc]:=by rw[ah _ AA,Ah AK,Ao]
 have o1:u1.C (u.B+1)=[ic 0,nilS,nilS,nilS]:=by rw[ah _ AA,Bg AK AK]
 clear ah ay
 refine Ae (fun m s u'=>∃(i i3:Nat) (xs:List AV),m=Z q.A-i/\i<=Z q.A/\s 1=ic v/\s 2=ic n/\s 3=ptr u.B 0/\s 6=ptr (u.B+1) 0/\s 7=ptr u1.B 0/\s 19=sl ip (Z q.A) pc/\s 20=ic (Z q.A)/\s 21=ic i/\AE u u'/\u1.B<u'.B/\u'.C u.B=[ic q.h.p,sl ih (Z q.h.ts) (Ad q.h.ts),sl ip (Z q.A) pc,sl inn (Z q.B) nc]/\u'.C (u.B+1)=[ic 0,nilS,nilS,nilS]/\u'.C u1.B=[ic q.h.p,sl idh (Z (Br v n q.h.ts)) (Ad (Br v n q.h.ts)),sl i3 i xs,nilS]/\Own u u' i3 i/\Z xs=i*3/\AD (EL N7 ((q.A.take i).map (I6 v n)) xs)) (Z q.A)
  ⟨0,1,[],AA,AA,by simp[upd,AM],by simp[upd,AM],AG,AG,AG,AG,AG,rfl,Xs,BM,?_,?_,?_,Own.nil _ _,by simp,by simp[AD,EL]⟩ ?_
 ·rw[Aj AA,Ah AA,o0]
 ·rw[Aj AA,Ah AA,o1]
 ·rw[Ak]
 clear o0 o1 bq;rintro m s u' ⟨i,i3,xs,rfl,hi,h1,h2,h3,h6,h7,bg,bf,be,hK,ai,aw,af,ae,hO,a5,hX⟩;have bb:=hK.B;by_cases aj:i<Z q.A
 ·have aa:=AJ aj;obtain⟨id,idt,r,hd⟩:=F5 hP aa;have ax:=hq.pa _ (AT aj);have bd:=hq.pt _ (AT aj);have bc:=hq.p3 _ (AT aj);generalize q.A[i]=w at hd aa ax bd bc;have HG:AD ((q.A.take (i+1)).map (I6 v n)=(q.A.take i).map (I6 v n)++[I6 v n w]):=by
   rw[AD,AU,aa];simp
  clear aa;have a6:=fun u=>sM w id idt v n ax bd bc u;have bz:AD _:=hX;have a4:AD _:=a5
  refine pz ?_
  have ap:AE u ((u'.new [ic 0,nilS,nilS]).put u'.B [ic w.a.p,sl id (Z w.a.ts) (Ad w.a.ts),sl idt (Z w.A) (Fo w.A)]):=(hK.new _).put hK.B _;have kv:∀p,p<u'.B->((u'.new [ic 0,nilS,nilS]).put u'.B [ic w.a.p,sl id (Z w.a.ts) (Ad w.a.ts),sl idt (Z w.A) (Fo w.A)]).C p=u'.C p:=fun p hp=>by rw[Aj AA,Ah AA]
  refine Az (Q:=fun e s' u''=>e= .normal/\s' 1=ic v/\s' 2=ic n/\s' 3=ptr u.B 0/\s' 6=ptr (u.B+1) 0/\s' 7=ptr u1.B 0/\s' 19=sl ip (Z q.A) pc/\s' 20=ic (Z q.A)/\s' 21=ic i/\AE u u''/\u1.B<u''.B/\u''.C u.B=[ic q.h.p,sl ih (Z q.h.ts) (Ad q.h.ts),sl ip (Z q.A) pc,sl inn (Z q.B) nc]/\u''.C (u.B+1)=[ic 0,nilS,nilS,nilS]/\∃idn c',u''.C u1.B=[ic q.h.p,sl idh (Z (Br v n q.h.ts)) (Ad (Br v n q.h.ts)),sl idn (i+1) (xs++c'),nilS]/\Own u u'' idn (i+1)/\N7 (I6 v n w) c') ?_ ?_
  ·refine Aq Ag (fun _=>True) [9] [0,1,2,3,4] 5 #[true,true,true,true,true,false,false,false,false,false] AH (fun _ _ _ h=>by cases h.1) ?_;intro yd yb;refine Z3 ?_;refine yb.o _ ?_;clear yb yd;refine Ai (i:=5) AH ?_;refine Am ?_;intro yd yb;refine Z3 ?_;refine AF.mono (a6 _) ?_;rintro _ u5 ⟨⟨c',rfl,ao⟩,ab⟩;refine Z3 ?_;refine yb.o _ _ ⟨Al ab,?_⟩;clear yb yd;obtain⟨x,y,z,rfl,fx1,fx2,fx3⟩:=XS ao;have ak:=ab.B;have ac:=ab.C;simp only[Ab,Aa]at ak ac;have a9:=ap.trans ab;have a7:=Own.keep (Own.put (Own.new hO [ic 0,nilS,nilS]) u'.B [ic w.a.p,sl id (Z w.a.ts) (Ad w.a.ts),sl idt (Z w.A) (Fo w.A)]) ab;refine Ai (i:=6) AH ?_;refine Am ?_;intro yd yb;refine Z3 ?_;refine yb.o _ _ ⟨Al (ab.lay 1),?_⟩;clear yb yd;refine Ai (i:=7) AH ?_;refine Am ?_;intro yd yb;refine Z3 ?_;refine Bn (by first|exact Ge|exact En) a9 a7 (by decide) (by rfl) a5 (by rfl) (by simp[fx1,fx2,fx3]) (by decide) AA AA ?_;intro idn un a8 ba an av ad au;refine Z3 ?_;refine yb.o _ _ ⟨fun _ o ho _=>by rw[ad];exact ab.ver o ho,?_⟩;clear yb yd;refine Ai (i:=8) AH ?_;refine Am ?_;intro yd yb;refine Z3 ?_;refine yb.o _ _ ⟨fun _ o ho _=>by rw[ad];exact ab.ver o ho,?_⟩;clear yb yd;have en:∀p,p<u'.B->un.C p=u'.C p:=fun p hp=>by rw[an,ac _ AA,kv _ hp]
   have en1:un.C u1.B=[ic q.h.p,sl idh (Z (Br v n q.h.ts)) (Ad (Br v n q.h.ts)),sl i3 i xs,nilS]:=by rw[en _ ai,ae]
   refine Ai (i:=9) AH ?_;refine Am ?_;intro yd yb;refine Z3 ?_;refine yb.o _ _ ⟨A5 rfl,?_⟩;clear yb yd;refine Ax AH ⟨rfl,?_⟩;simp only[upd,↓reduceIte,Nat.reduceEqDiff,h1,h2,h3,h6,h7,bg,bf,be,JC];refine⟨ba.put AA _,by simp only[Ab];omega,?_,?_,idn,[x,y,z],?_,Own.put a8 _ _,ao⟩
   ·rw[Aj AA,en _ AA,aw]
   ·rw[Aj AA,en _ AA,af]
   ·rw[Ak]
  ·clear kv ap hX hO a5 aw af ae ai;rintro e s' u'' ⟨rfl,g1,g2,g3,g6,g7,g19,g20,g21,hK,ai,aw,af,idn,c',ae,hO,ao⟩;have HX:AD (EL N7 ((q.A.take (i+1)).map (I6 v n)) (xs++c')):=by rw[AD,HG.o];exact EL.append bz.o (EL.single ao)
   have bm:=E8 _ _ ao
   refine zz ?_
   refine⟨Z q.A-(i+1),AA,i+1,idn,xs++c',?_⟩
   ((repeat' refine Zi ?_ ?_)<;>first|exact Xq|exact HX|exact (by rw[AX,bm,a4.o];omega)|exact Xs)
 ·have hil:i=Z q.A:=AA;subst hil;rw[AS]at hX;generalize hM:Z q.A=M at*
  have HM:AD _:=hM;clear hM aj hi
  refine pz ?_
  refine Ae (fun m s u'=>∃(j i4:Nat) (ys:List AV),m=Z q.B-j/\j<=Z q.B/\s 1=ic v/\s 2=ic n/\s 6=ptr (u.B+1) 0/\s 7=ptr u1.B 0/\s 36=sl inn (Z q.B) nc/\s 37=ic (Z q.B)/\s 38=ic j/\AE u u'/\u1.B<u'.B/\u'.C (u.B+1)=[ic 0,nilS,nilS,nilS]/\u'.C u1.B=[ic q.h.p,sl idh (Z (Br v n q.h.ts)) (Ad (Br v n q.h.ts)),sl i3 M xs,sl i4 j ys]/\Own u u' i4 j/\Z ys=j*2/\AD (EL O1 ((q.B.take j).map (Gp v n)) ys)) (Z q.B)
   ⟨0,1,[],AA,AA,AI,AI,AI,AI,AI,AI,AG,hK,ai,af,by rw[ae],Own.nil _ _,by simp,by simp[AD,EL]⟩ ?_
  clear h1 h2 h3 h6 h7 bg bf be hK ai aw af ae hO bb;rintro m s u' ⟨j,i4,ys,rfl,hj,h1,h2,h6,h7,bv,bu,br,hK,ai,af,ae,hO,a3,hY⟩;have bb:=hK.B;by_cases aj:j<Z q.B
  ·have aa:=AJ aj;obtain⟨id,r,hd⟩:=Kd hN aa;have ax:=hq.na _ (AT aj);generalize q.B[j]=w at hd aa ax;have HG:AD ((q.B.take (j+1)).map (Gp v n)=(q.B.take j).map (Gp v n)++[Gp v n w]):=by
    rw[AD,AU,aa];simp
   clear aa;have bh:Z w.ts<=1000:=AA;have a6:=fun u=>Ou w.p id w.ts v n bh u;have bw:AD _:=hY;have a0:AD _:=a3
   refine pz ?_
   have ap:AE u ((u'.new [ic 0,nilS]).put u'.B [ic w.p,sl id (Z w.ts) (Ad w.ts)]):=(hK.new _).put hK.B _;have kv:∀p,p<u'.B->((u'.new [ic 0,nilS]).put u'.B [ic w.p,sl id (Z w.ts) (Ad w.ts)]).C p=u'.C p:=fun p hp=>by rw[Aj AA,Ah AA]
   refine Az (Q:=fun e s' u''=>e= .normal/\s' 1=ic v/\s' 2=ic n/\s' 6=ptr (u.B+1) 0/\s' 7=ptr u1.B 0/\s' 36=sl inn (Z q.B) nc/\s' 37=ic (Z q.B)/\s' 38=ic j/\AE u u''/\u1.B<u''.B/\u''.C (u.B+1)=[ic 0,nilS,nilS,nilS]/\∃idn id',u''.C u1.B=[ic q.h.p,sl idh (Z (Br v n q.h.ts)) (Ad (Br v n q.h.ts)),sl i3 M xs,sl idn (j+1) (ys++[ic w.p,sl id' (Z (Br v n w.ts)) (Ad (Br v n w.ts))])]/\Own u u'' idn (j+1)) ?_ ?_
   ·refine Aq Ag (fun _=>True) [9] [0,1,2,3,4] 5 #[true,true,true,true,true,false,false,false,false,false] AH (fun _ _ _ h=>by cases h.1) ?_;intro yd yb;refine Z3 ?_;refine yb.o _ ?_;clear yb yd;refine Ai (i:=5) AH ?_;refine Am ?_;intro yd yb;refine Z3 ?_;refine AF.mono (a6 _) ?_;rintro _ u5 ⟨⟨id',rfl⟩,ab⟩;refine Z3 ?_;refine yb.o _ _ ⟨Al ab,?_⟩;clear yb yd;have ak:=ab.B;have ac:=ab.C;simp only[Ab,Aa]at ak ac;have a9:=ap.trans ab;have a7:=Own.keep (Own.put (Own.new hO [ic 0,nilS]) u'.B [ic w.p,sl id (Z w.ts) (Ad w.ts)]) ab;refine Ai (i:=6) AH ?_;refine Am ?_;intro yd yb;refine Z3 ?_;refine yb.o _ _ ⟨Al (ab.lay 1),?_⟩;clear yb yd;refine Ai (i:=7) AH ?_;refine Am ?_;intro yd yb;refine Z3 ?_;refine Bn (by first|exact Ge|exact En) a9 a7 (by decide) (by rfl) a3 (by rfl) (by rfl) (by decide) AA AA ?_;intro idn un a8 ba an av ad au;refine Z3 ?_;refine yb.o _ _ ⟨fun _ o ho _=>by rw[ad];exact ab.ver o ho,?_⟩;clear yb yd;refine Ai (i:=8) AH ?_;refine Am ?_;intro yd yb;refine Z3 ?_;refine yb.o _ _ ⟨fun _ o ho _=>by rw[ad];exact ab.ver o ho,?_⟩;clear yb yd;have en:∀p,p<u'.B->un.C p=u'.C p:=fun p hp=>by rw[an,ac _ AA,kv _ hp]
    have en1:un.C u1.B=[ic q.h.p,sl idh (Z (Br v n q.h.ts)) (Ad (Br v n q.h.ts)),sl i3 M xs,sl i4 j ys]:=by rw[en _ ai,ae]
    refine Ai (i:=9) AH ?_;refine Am ?_;intro yd yb;refine Z3 ?_;refine yb.o _ _ ⟨A5 rfl,?_⟩;clear yb yd;refine Ax AH ⟨rfl,?_⟩;simp only[upd,↓reduceIte,Nat.reduceEqDiff,h1,h2,h6,h7,bv,bu,br,JC];refine⟨ba.put AA _,by simp only[Ab];omega,?_,idn,id',?_,Own.put a8 _ _⟩
    ·rw[Aj AA,en _ AA,af]
    ·rw[Ak]
   ·clear kv ap hY hO a3 af ae ai;rintro e s' u'' ⟨rfl,g1,g2,g6,g7,g36,g37,g38,hK,ai,af,idn,id',ae,hO⟩;have HX:AD (EL O1 ((q.B.take (j+1)).map (Gp v n)) (ys++[ic w.p,sl id' (Z (Br v n w.ts)) (Ad (Br v n w.ts))])):=by rw[AD,HG.o];exact EL.append bw.o (EL.single ⟨id',rfl⟩)
    refine zz ?_
    refine⟨Z q.B-(j+1),AA,j+1,idn,ys++[ic w.p,sl id' (Z (Br v n w.ts)) (Ad (Br v n w.ts))],?_⟩
    ((repeat' refine Zi ?_ ?_)<;>first|exact Xq|exact HX|exact (by rw[AX,a0.o];simp;omega)|exact Xs)
  ·have bl:j=Z q.B:=AA;subst bl;rw[AS]at hY;have bp:Z (q.A.map (I6 v n))=M:=by rw[BP];exact HM.o
   have bo:Z (q.B.map (Gp v n))=Z q.B:=by rw[BP]
   refine pz ?_
   exact⟨_,rfl,⟨_,rfl,idh,i3,i4,xs,ys,by simp only[Di,Gp];rw[bp,bo],hX.o,hY.o⟩,hK.put AA _⟩
end Go.Proofs.YtmoeoppbmhfbpabGreatDoorI
