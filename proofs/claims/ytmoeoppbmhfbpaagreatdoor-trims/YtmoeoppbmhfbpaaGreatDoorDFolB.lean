import Derived.Test.YtmoeoppbmhfbpaaGreatDoorDEngY
import Derived.Test.YtmoeoppbmhfbpaaGreatDoorDProgM
import Derived.Test.YtmoeoppbmhfbpaaGreatDoorDPrtF
import Derived.Test.YtmoeoppbmhfbpaaGreatDoorDDocI
set_option maxHeartbeats 64000000
set_option maxRecDepth 100000
set_option linter.all false
namespace Go.Proofs.YtmoeoppbmhfbpaaGreatDoorD
open Go.Abs
theorem uN:∀(M M':MM),M'.length=M.length->(∀k:Nat,(A6 M k).length<=(A6 M' k).length)->(tot M<=tot M'/\(tot M'<=tot M->∀k:Nat,(A6 M' k).length=(A6 M k).length))
 |[],M',hl,h=>by
  have:M'=[]:=Ads (by simpa using hl);subst this;exact⟨Int.le_refl _,fun _ k=>rfl⟩
 |x::M,[],hl,h=>by simp at hl
 |x::M,y::M',hl,h=>by
  obtain⟨h1,h2⟩:=uN M M' (by simpa using hl) (fun k=>by have:=h (k+1);simpa[A6]using this);have h0:=h 0;simp[A6]at h0;rw[Eg,Eg];refine⟨Agm,fun aa k=>?_⟩;cases k with
  |zero=>simp[A6];omega
  |succ k=>
   have:=h2 Agm k;simpa[A6]using this
theorem GroA.lens {D:Ff}{M M':MM}{d d':Int}(h:GroA D M M' d d')(k:Nat):(A6 M k).length<=(A6 M' k).length:=by
 obtain⟨n,e,-,-⟩:=h.ext k;rw[e];simp
theorem GroA.same {D:Ff}{M M':MM}{d d':Int}(h:GroA D M M' d d')(ht:tot M'<=tot M)(k:Nat):A6 M' k=A6 M k:=by
 have hl:=(uN M M' h.len h.lens).2 ht k;obtain⟨n,e,-,-⟩:=h.ext k;rw[e]at hl⊢;have:n=[]:=by simpa using hl
 rw[this,Ad4]
theorem Pw {z:St}{om ot:Nat}{M:MM}{d b:Int}(hM:MOb z om ot M d b):∀n∈Gv M,0<=n/\n<=5000:=fun n hn=>by
 obtain⟨x,hx,rfl⟩:=Ae4.1 hn;have:=hM.ln x hx;omega
theorem Ii (M:MM):(Gv M).length=M.length:=by simp[Gv]
theorem xE {M:MM}{k:Nat}(hk:k<M.length):((Gv M)[k]?).getD 0=((A6 M (k:Int)).length:Int):=by
 have hg:M[k]?=some M[k]:=Adn hk;rw[Cg hg];simp[Gv,hk]
def Brg (D:Ff)(R:List J4)(MS M1:MM):Prop:=∀r∈R,∀ν,(∀l∈r.body,J5 D (MD MS) ν l)->MD M1 r.head.p.toNat (Br r.head ν)
theorem U0 {N D:Ff}{ν:Nu}{l:Lit}(hn:l.neg=false)(h:J5 N D ν l):D l.a.p.toNat (Br l.a ν):=by
 unfold J5 at h;rw[hn]at h;simpa using h
theorem iM {N D:Ff}{ν:Nu}{l:Lit}(hn:l.neg=true)(h:J5 N D ν l):¬N l.a.p.toNat (Br l.a ν):=by
 unfold J5 at h;rw[hn]at h;simpa using h
theorem Aaj {np:Nat}{ar:Nat->Nat}{R:List J4}{D:Ff}{MS M1 M2:MM}{ds d1 d2:Int}(hF:Fol np ar R D)(hn:MS.length=np)(hS:GroA D MS M1 ds d1)(hB:Brg D R MS M1)(h2:GroA D M1 M2 d1 d2)(hN:∀r∈R,NewR D M1 M2 (Gv MS) r r.body.length):Brg D R M1 M2:=fun r hr ν h=>by
 by_cases ac:∀l∈r.body,J5 D (MD MS) ν l
 ·exact h2.sub (hB r hr ν ac)
 ·obtain⟨l,hl⟩:∃l,¬(l∈r.body->J5 D (MD MS) ν l):=Classical.not_forall.1 ac;have ad:l∈r.body:=Classical.byContradiction fun hh=>hl (fun h'=>absurd h' hh);have ae:¬J5 D (MD MS) ν l:=fun hh=>hl (fun _=>hh);have ab:l.neg=false:=by
   cases hc:l.neg with
   |false=>rfl
   |true=>
    exfalso;have:=iM hc (h l ad);exact ae (by unfold J5;rw[hc];simpa using this)
  have aa:¬MD MS l.a.p.toNat (Br l.a ν):=fun hh=>ae (by unfold J5;rw[ab];simpa using hh);obtain⟨i,hi⟩:=Afc ad;have af:=(Adm.1 hi).1;obtain⟨k,hk,ah⟩:=(hF.rw r hr).rok.bp l ad;refine hN r hr i l af hi ab ν h ?_;obtain⟨nw,e,-,-⟩:=hS.ext k;have hm:=U0 ab (h l ad);unfold MD at hm aa;rw[hk]at hm aa⊢;rw[Af3]at hm aa;rw[Af3,xE Agm,Af3];rw[e]at hm⊢;rw[List.drop_left];rcases Aet.1 hm with h'|h'
  ·exact absurd h' aa
  ·exact h'
theorem Vu {R:List J4}{D:Ff}{MS M1:MM}{np:Nat}{ar:Nat->Nat}{ds d1:Int}(hF:Fol np ar R D)(hS:GroA D MS M1 ds d1)(hB:Brg D R MS M1)(ht:tot M1<=tot MS):ClG R D (MD M1):=fun r hr ν h=>hB r hr ν (fun l hl=>by
 have:=h l hl;unfold J5 at this⊢;split
 ·rename_i hc;rw[if_pos hc]at this;exact this
 ·rename_i hc;rw[if_neg hc]at this;obtain⟨k,hk,-⟩:=(hF.rw r hr).rok.bp l hl;unfold MD at this⊢;rw[hk]at this⊢;rw[Af3]at this⊢;rw[hS.same ht k]at this
  exact this)
theorem Pr {np:Nat}{ar:Nat->Nat}{R:List J4}{D:Ff}(hF:Fol np ar R D)(om ot:Nat)(b:Int)(bu: -1000000<=b)(br:b<=900000)(M:MM)(d:Int)(hn:M.length=np)(hD:∀k t,MD M k t->D k t)(hNg:NgIn R D M)(b7:Room M d b)(cm: -1000000<=d)(b5:d<=1000000)(rc:List AV)(idr:Nat)(a7:EL kB R rc)(b8:R.length<=1000)(z:St)(hM:MOb z om ot M d b):
  ACalls Tryz.prog 78 [ptr om 0,sl idr R.length rc] z fun x z'=>∃M' d',MOb z' om ot M' d' b/\KM om ot M M' z z'/\GroA D M M' d d'/\d<=d'/\d'<=1000000/\(¬b<d'->ClG R D (MD M')):=by
 have cj:=EL.length cX a7;have hpl:=hM.pl;have bm:=fun (M:MM) (d:Int) z (h:MOb z om ot M d b)=>Pt om ot M d b z h;have b1:=bm M d;have a4:Agt (M.length=np):=hn;have ck:M.length<=np/\np<=M.length:=Agm;clear hn;refine Z9 43 [] Tryz.func78 ?_
 repeat' first|refine Z1 ?_|refine Z8 fun ya J=>?_|refine Z4 ?_;clear J ya|refine Z5 ?_;refine Xi (b1 _ (hM.keep (Xs))) ?_;rintro _ _ ⟨⟨id0,rfl⟩,bi⟩|refine Z3 ?_|exact Zt|apply J.out;clear J ya
 rename_i σ0
 refine Ad (fun m s z'=>∃(k:Nat) (M1:MM) (d1:Int),m=R.length-k/\k<=R.length/\s 0=ptr om 0/\s 1=sl idr R.length rc/\s 4=sl id0 M.length (Ar (Gv M))/\s 11=sl idr R.length rc/\s 12=ic R.length/\s 13=ic k/\MOb z' om ot M1 d1 b/\KM om ot M M1 z z'/\d1<=1000000/\d<=d1/\Agt (GroA D M M1 d d1/\Room M1 d1 b/\(¬b<d1->Brg D (R.take k) M M1))) R.length
  ⟨0,M,d,Agm,Agm,by simp[upd,initS],by simp[upd,initS],Ago,by simp[upd,initS],Ago,rfl,hM.keep bi,KM.ofKeep bi,b5,Agm,GroA.refl _ _ _,b7,fun _ r hr=>by simp at hr⟩ ?_
 clear bi b1;rintro m s z' ⟨k,M1,d1,rfl,hk,h0,h1,h4,ch,cg,cf,aa,ac,ab,ad,hG⟩;by_cases a8:k<R.length
 ·have ah:=Adn a8;obtain⟨o,ih,ib,bc,rr,hd,hB⟩:=qD a7 ah;have af:=Aes a8;generalize R[k]=r at hd ah af hB;have ci:Agt (R.take (k+1)=R.take k++[r]):=by rw[Agt,Ad0,ah,Aez]
  clear ah;have ak:M1.length=np:=by have:=hG.out.1.len;rw[this];exact a4.out
  have ce:=fun z (h:MOb z om ot M1 d1 b)=>aC om ot M1 d1 b r [sc (.bool o),ic r.head.p,sl ih r.head.ts.length (Af r.head.ts),sl ib r.body.length bc] (-1) 0 ⟨o,ih,ib,bc,rfl,hB⟩ (by rw[ak];exact (hF.rw r af).rok) Agm z h;have cb:Agt (∀c3,EQ (Ks M1 (-1) 0 r) c3->∀z,MOb z om ot M1 d1 b->ACalls Tryz.prog 131 [ptr om 0,ag c3] z fun x z'=>∃M' d',MOb z' om ot M' d' b/\KM om ot M1 M' z z'/\GroA D M1 M' d1 d'/\Room M' d' b/\d'<=1000000/\d1<=d'/\(¬b<d'->∀ν,(∀(l:Lit) (i:Nat),r.body[i]?=some l->l.neg=false->Br l.a ν∈Vz M1 (-1) 0 i l)->(∀l∈r.body,l.neg=true->¬D l.a.p.toNat (Br l.a ν))->MD M' r.head.p.toNat (Br r.head ν))):=fun c3 h3 z hh=>
   Vy hF om ot b bu br M1 d1 ak (hG.out.1.inD hD) (hNg.gro hG.out.1) hG.out.2.1 Agm ab r af (-1) 0 c3 h3 z hh
  clear ak;have l1:=aa.lo;have l2:=aa.lt
  repeat' first|refine Z1 ?_|refine Z8 fun ya J=>?_|refine Z4 ?_;clear J ya|refine Z2 ?_ ?_<;>intro h ai<;>try exact Xp|(refine Z5 ?_;first|(refine Xi (ce _ (aa.keep (Xs))) ?_;rintro _ _ ⟨⟨_,rfl,ih3,ip3,in3,pc3,nc3,rfl,b9,ca⟩,bg⟩;(have a6:=bg.nobj;have a5:=bg.obj;simp only[Ac,Aa]at a6 a5;have aw:=(((Keep.refl z').new _).put (Adc _) _).trans bg;have cc:=cb.out _ ⟨ih3,ip3,in3,pc3,nc3,rfl,b9,ca⟩))|(refine Xi (cc _ (aa.keep (Xs))) ?_;rintro _ _ ⟨M3,d3,a3,an,ax,bd,bb,ba,ae⟩;(have ap:Agt _:=ax;have ao:Agt _:=ae;clear ax ae;have am:=(ac.trans (KM.ofKeep ((aw.new _).put Agm _))).trans an)))|refine Z3 ?_|exact Zt|apply J.out;clear J ya
  have HN:Agt (GroA D M M3 d d3/\Room M3 d3 b/\(¬b<d3->Brg D (R.take (k+1)) M M3)):=by
   refine⟨hG.out.1.trans ap.out,bd,fun aj r' bo ν a1=>?_⟩;rw[ci.out]at bo;rcases Aet.1 bo with h'|h'
   ·exact ap.out.sub (hG.out.2.2 Agm r' h' ν a1)
   ·simp at h';subst h';refine ao.out aj ν (fun l i hl a9=>?_) (fun l hl a9=>iM a9 (a1 l hl));have bq:=Adp hl;obtain⟨p',b2,-⟩:=(hF.rw r' af).rok.bp l bq;unfold Vz;rw[if_neg Agm];have:=U0 a9 (a1 l bq);unfold MD at this;rw[b2]at this⊢;exact hG.out.1.sub this
  refine⟨R.length-(k+1),Agm,k+1,M3,d3,?_⟩
  ((repeat' refine Zi ?_ ?_)<;>first|exact Xq|exact HN|exact a3|exact am|exact Xs)
 ·have b3:k=R.length:=Agm;subst b3;rw[Adu]at hG;have b0:=bm M1 d1
  repeat' first|refine Z1 ?_|refine Z8 fun ya J=>?_|refine Z4 ?_;clear J ya|refine Z2 ?_ ?_<;>intro h ai<;>try exact Xp|refine Z5 ?_;refine Xi (b0 _ (aa.keep (Xs))) ?_;rintro _ _ ⟨⟨id1,rfl⟩,bh⟩|refine Z3 ?_|exact Zt|apply J.out;clear J ya
  rename_i z1
  refine Ad (fun m s z'=>∃(MS M1:MM) (ds d1:Int) (ia ib:Nat),m=2*(b-d1+1).toNat+(if tot MS<tot M1 then 1 else 0)/\s 0=ptr om 0/\s 1=sl idr R.length rc/\s 4=sl ia MS.length (Ar (Gv MS))/\s 8=sl ib M1.length (Ar (Gv M1))/\MOb z' om ot M1 d1 b/\KM om ot M M1 z z'/\d1<=1000000/\d<=d1/\MS.length<=5000/\(∀n∈Gv MS,0<=n/\n<=5000)/\Agt (MS.length=np/\GroA D M M1 d d1/\GroA D MS M1 ds d1/\Room M1 d1 b/\(¬b<d1->Brg D R MS M1))) (2*(b-d1+1).toNat+(if tot M<tot M1 then 1 else 0))
   ⟨M,M1,d,d1,id0,id1,rfl,Agn,Agn,Agn,Ago,aa.keep bh,ac.trans (KM.ofKeep bh),ab,ad,hpl,Pw hM,a4.out,hG.out.1,hG.out.1,hG.out.2.1,hG.out.2.2⟩ ?_
  clear h0 h1 h4 ch cg cf aa ac ab ad hG bh b0 a8 hk;rintro m s z2 ⟨MS,M1,ds,d1,ia,ib,rfl,h0,h1,h4,h8,aa,ac,ab,ad,cn,bv,hG⟩;have av:=Od om ot M1 d1 b;have az:=fun (id:Nat) z=>Ls (Gv M1) id (by rw[Ii];have:=aa.pl;omega) (fun n hn=>by have:=Pw aa n hn;omega) z;have a0:=fun (id:Nat) z=>Ls (Gv MS) id (by rw[Ii];omega) (fun n hn=>by have:=bv n hn;omega) z;rw[show (Gv M1).sum=tot M1 from rfl]at az;rw[show (Gv MS).sum=tot MS from rfl]at a0;rw[Ii]at az a0;by_cases ay:b<d1
  ·rw[show decide (b<d1)=true from by simpa using ay]at av
   repeat' first|refine Z1 ?_|refine Z8 fun ya J=>?_|refine Z4 ?_;clear J ya|refine Z2 ?_ ?_<;>intro h ai<;>try exact Xp|refine Z5 ?_;refine Xi (av _ (aa.keep (Xs))) ?_;rintro _ _ ⟨rfl,rfl⟩|refine Z3 ?_|exact Zt|apply J.out;clear J ya
   first|exact⟨_,rfl,M1,d1,aa,ac,hG.out.2.1,ad,ab,fun h=>absurd ay h⟩|exact⟨M1,d1,aa,ac,hG.out.2.1,ad,ab,fun h=>absurd ay h⟩
  ·rw[show decide (b<d1)=false from by simpa using ay]at av;by_cases bn:tot MS<tot M1
   ·have b4:decide (tot M1>tot MS)=true:=by simpa using bn
    have bz:=fun z (h:MOb z om ot M1 d1 b)=>Rt hF om ot b bu br M1 d1 (hG.out.2.1.len.trans a4.out) (hG.out.2.1.inD hD) (hNg.gro hG.out.2.1) hG.out.2.2.2.1 Agm ab rc idr a7 b8 (Gv MS) ia (by rw[Ii];exact hG.out.1) bv z h;rw[Ii]at bz;rw[if_pos bn]
    repeat' first|refine Z1 ?_|refine Z8 fun ya J=>?_|refine Z4 ?_;clear J ya|refine Z2 ?_ ?_<;>intro h ai<;>try exact Xp|(refine Z5 ?_;first|(refine Xi (av _ (aa.keep (Xs))) ?_;rintro _ _ ⟨rfl,rfl⟩)|(refine Xi (az _ _) ?_;rintro _ _ ⟨rfl,bf⟩;(have aw:=bf))|(refine Xi (a0 _ _) ?_;rintro _ _ ⟨rfl,be⟩;(have au:=aw.trans be))|(refine Xi (bz _ (aa.keep (Xs))) ?_;rintro _ _ ⟨M3,d3,a3,an,ax,bd,bb,ba,ae⟩;(have ap:Agt _:=ax;have ao:Agt _:=ae;clear ax ae;have am:=(ac.trans (KM.ofKeep au)).trans an;have cd:=bm M3 d3))|(refine Xi (cd _ (a3.keep (Xs))) ?_;rintro _ _ ⟨⟨ic3,rfl⟩,bw⟩))|refine Z3 ?_|exact Zt|apply J.out;clear J ya
    have b6:=ap.out.cnt;refine⟨2*(b-d3+1).toNat+(if tot M1<tot M3 then 1 else 0),by split<;>omega,M1,M3,d1,d3,ib,ic3,?_⟩
    have HN:Agt (M1.length=np/\GroA D M M3 d d3/\GroA D M1 M3 d1 d3/\Room M3 d3 b/\(¬b<d3->Brg D R M1 M3)):=
     ⟨hG.out.2.1.len.trans a4.out,hG.out.2.1.trans ap.out,ap.out,bd,fun aj=>Aaj hF hG.out.1 hG.out.2.2.1 (hG.out.2.2.2.2 Agm) ap.out (ao.out aj)⟩
    ((repeat' refine Zi ?_ ?_)<;>first|exact Xq|exact HN|exact (a3.keep bw)|exact (am.trans (KM.ofKeep bw))|exact aa.pl|exact (Pw aa)|exact Xs)
   ·have b4:decide (tot M1>tot MS)=false:=by simp;omega
    repeat' first|refine Z1 ?_|refine Z8 fun ya J=>?_|refine Z4 ?_;clear J ya|refine Z2 ?_ ?_<;>intro h ai<;>try exact Xp|(refine Z5 ?_;first|(refine Xi (av _ (aa.keep (Xs))) ?_;rintro _ _ ⟨rfl,rfl⟩)|(refine Xi (az _ _) ?_;rintro _ _ ⟨rfl,bf⟩;(have aw:=bf))|(refine Xi (a0 _ _) ?_;rintro _ _ ⟨rfl,be⟩;(have au:=aw.trans be)))|refine Z3 ?_|exact Zt|apply J.out;clear J ya
    first|exact⟨_,rfl,M1,d1,aa.keep au,ac.trans (KM.ofKeep au),hG.out.2.1,ad,ab,fun aj=>Vu hF hG.out.2.2.1 (hG.out.2.2.2.2 aj) Agm⟩|exact⟨M1,d1,aa.keep au,ac.trans (KM.ofKeep au),hG.out.2.1,ad,ab,fun aj=>Vu hF hG.out.2.2.1 (hG.out.2.2.2.2 aj) Agm⟩
theorem yR {ar:Nat->Nat}{a:Dy}{ν:Nu}{k:Nat}(h3:a.ts.length<=3)(har:a.ts.length=ar k)(h:Sh ar k (Br a ν)):∀t∈a.ts,∃n:Nat,D2 ν t=(n:Int)/\n<1026:=by
 obtain⟨l,e,hl,hx⟩:=h;intro t ht;obtain⟨i,hi⟩:=Afc ht;have ab:=(Adm.1 hi).1;have h2:(a.ts.map (D2 ν))[i]?=some (D2 ν t):=by rw[Adx,hi];rfl
 have aa:i<l.length:=Agm;have h4:l[i]?=some l[i]:=Adn aa;have h5:D2 ν t=l[i]:=by
  unfold Br D3 at e;simp only[List.cons.injEq,and_true]at e;obtain⟨e0,e1,e2⟩:=e;have:i=0\/i=1\/i=2:=Agm;rcases this with rfl|rfl|rfl
  ·rw[h2,h4]at e0;exact e0
  ·rw[h2,h4]at e1;exact e1
  ·rw[h2,h4]at e2;exact e2
 rw[h5];exact hx _ (Aes aa)
theorem Abh {np:Nat}{ar:Nat->Nat}{R:List J4}{N:Ff}(h:∀r∈R,RW np ar r):ClG R N (Sh ar):=fun r hr ν hb=>by
 have hw:=h r hr;refine⟨r.head.ts.map (D2 ν),rfl,by rw[Ae3];exact hw.har,fun x hx=>?_⟩;obtain⟨t,ht,rfl⟩:=Ae4.1 hx;obtain⟨tv,tn⟩:=t;cases tv with
 |false=>exact hw.hc _ ht rfl
 |true=>
  obtain⟨l,hl,hn,hv⟩:=hw.safe tn (.inl (by rw[hasV_iff];exact ht));exact yR (hw.rok.ba l hl) (hw.bar l hl) (U0 hn (hb l hl)) _ (hasV_iff.1 hv)
def Ws (t:Tm):Tm:=if t.1=true then (false,1000+t.2)else t
def E3 (a:Dy):Dy:=⟨a.p,a.ts.map Ws⟩
def Sml (ts:List Tm):Prop:=∀t∈ts,-1000000<=t.2/\t.2<=1000000
theorem Pq (p:Int)(ids:Nat)(ts:List Tm)(hn:ts.length<=1000)(hs:Sml ts)(z:St):ACalls Tryz.prog 117 [ag [ic p,sl ids ts.length (Af ts)]] z fun r z'=>(∃id,r=ag [ic p,sl id ts.length (Af (ts.map Ws))])/\Keep z z':=by
 have au:=Eb ts;refine Z9 30 [.cell 2 94] Tryz.func117 ?_
 refine zz ?_
 refine Ad (fun m s z'=>∃(i i3:Nat) (xs:List AV),m=ts.length-i/\i<=ts.length/\s 2=ptr (z.nobj+1) 0/\s 3=ptr (z.nobj+2) 0/\s 10=sl ids ts.length (Af ts)/\s 11=ic ts.length/\s 12=ic i/\Keep z z'/\z.nobj+2<z'.nobj/\z'.obj (z.nobj+1)=[ic 0,nilS]/\z'.obj (z.nobj+2)=[ic p,sl i3 i xs]/\Own z z' i3 i/\xs.length=i*2/\Agt (xs=Af ((ts.take i).map Ws))) ts.length
  ⟨0,1,[],Agm,Agm,Ago,Ago,Ago,Ago,rfl,Xs,Ags,?_,?_,Own.nil _ _,by simp,by simp[Agt,Af]⟩ ?_
 ·rw[Ak Agm,Ah Agq,Ca Agq Agq]
 ·rw[show z.nobj+2=z.nobj+1+1 from rfl,Aj]
 rintro m s z' ⟨i,i3,xs,rfl,hi,h2,h3,ay,ax,aw,hK,av,ao,an,hO,aj,hX⟩;have ap:=hK.nobj;by_cases ak:i<ts.length
 ·have ab:=Adn ak;obtain⟨r,hd⟩:=Ec ab;have hb:=hs _ (Aes ak);generalize ts[i]=w at hd ab hb;obtain⟨w1,w2⟩:=w;have HG:Agt (Af ((ts.take (i+1)).map Ws)=Af ((ts.take i).map Ws)++Vj (Ws (w1,w2))):=by
   rw[Agt,Ad0,ab];simp[Af]
  clear ab;cases w1 with
  |true=>
   repeat' first|refine Z1 ?_|refine Z8 fun ya J=>?_|refine Z4 ?_;clear J ya|refine Z2 ?_ ?_<;>intro h ac<;>try exact Xp|refine Z3 ?_|exact Zt
   refine Bz (by first|exact Hd) (((hK.new _).put hK.nobj _).put hK.nobj _) (Own.put (Own.put (Own.new hO _) _ _) _ _) (by decide) (by rfl) (aj) (by rfl) (by rfl) (by decide) Agm Agm ?_;intro idn zn ae af ai aa ah ad;simp only[Ac,Aa]at aa;refine Z3 ?_
   refine zz ?_
   refine⟨ts.length-(i+1),Agm,i+1,idn,xs++[sc (.bool false),ic (1000+w2)],?_⟩
   ((repeat' refine Zi ?_ ?_)<;>first|exact Xq|exact (af.put Agm _)|exact (Own.put ae _ _)|exact (by rw[Agt,HG.out,hX.out];rfl)|exact Xs)
  |false=>
   repeat' first|refine Z1 ?_|refine Z8 fun ya J=>?_|refine Z4 ?_;clear J ya|refine Z2 ?_ ?_<;>intro h ac<;>try exact Xp|refine Z3 ?_|exact Zt
   refine Bz (by first|exact Hd) ((hK.new _).put hK.nobj _) (Own.put (Own.new hO _) _ _) (by decide) (by rfl) (aj) (by rfl) (by rfl) (by decide) Agm Agm ?_;intro idn zn ae af ai aa ah ad;simp only[Ac,Aa]at aa;refine Z3 ?_
   refine zz ?_
   refine⟨ts.length-(i+1),Agm,i+1,idn,xs++[sc (.bool false),ic w2],?_⟩
   ((repeat' refine Zi ?_ ?_)<;>first|exact Xq|exact (af.put Agm _)|exact (Own.put ae _ _)|exact (by rw[Agt,HG.out,hX.out];rfl)|exact Xs)
 ·have am:i=ts.length:=Agm;subst am;have hX:=hX.out;rw[Adu]at hX
  repeat' first|refine Z1 ?_|refine Z8 fun ya J=>?_|refine Z4 ?_;clear J ya|refine Z2 ?_ ?_<;>intro h ac<;>try exact Xp|refine Z3 ?_|exact Zt|apply J.out;clear J ya
  exact⟨_,rfl,⟨i3,by first|rfl|rw[hX]⟩,hK.put Agm _⟩
theorem Qo (r:J4)(c:List AV)(hc:kB r c)(hl:r.body.length<=64)(ha:∀l∈r.body,l.a.ts.length<=3/\Sml l.a.ts)(z:St):ACalls Tryz.prog 114 [ag c] z fun x z'=>(∃id cs,x=sl id r.body.length cs/\EL Nk (r.body.map fun l=>E3 l.a) cs)/\Keep z z':=by
 obtain⟨o,ih,ib,bc,rfl,hB⟩:=hc;have av:=EL.length P4 hB;refine Z9 22 [.tmp 2] Tryz.func114 ?_
 refine zz ?_
 refine Ad (fun m s z'=>∃(i i3:Nat) (xs:List AV),m=r.body.length-i/\i<=r.body.length/\s 3=sl i3 i xs/\s 8=sl ib r.body.length bc/\s 9=ic r.body.length/\s 10=ic i/\Keep z z'/\Own z z' i3 i/\xs.length=i*2/\Agt (EL Nk ((r.body.take i).map fun l=>E3 l.a) xs)) r.body.length
  ⟨0,1,[],Agm,Agm,Ago,Ago,Ago,rfl,Xs,Own.nil _ _,by simp,rfl⟩ ?_
 rintro m s z' ⟨i,i3,xs,rfl,hi,h3,h8,h9,a0,hK,hO,au,hX⟩;have ap:=hK.nobj;by_cases ac:i<r.body.length
 ·have aa:=Adn ac;obtain⟨id,rr,hd⟩:=Sb hB aa;obtain⟨ak,ad⟩:=ha _ (Aes ac);generalize r.body[i]=w at hd aa ak ad;have ai:w.a.ts.length<=1000:=Agm;have am:=fun z=>Pq w.a.p id w.a.ts ai ad z;have HG:Agt ((r.body.take (i+1)).map (fun l=>E3 l.a)=(r.body.take i).map (fun l=>E3 l.a)++[E3 w.a]):=by
   rw[Agt,Ad0,aa];simp
  clear aa
  repeat' first|refine Z1 ?_|refine Z8 fun ya J=>?_|refine Z4 ?_;clear J ya|refine Z2 ?_ ?_<;>intro h ab<;>try exact Xp|refine Z6 ?_;intro idn zn ax az ao ah an af|refine Z5 ?_;refine Xi (am _) ?_;rintro _ _ ⟨⟨idf,rfl⟩,ae⟩;(have ay:=((hK.new _).put hK.nobj _).trans ae;have aw:=Own.keep (Own.put (Own.new hO _) _ _) ae)|refine Z3 ?_|exact Zt|apply J.out;clear J ya
  refine⟨r.body.length-(i+1),Agm,i+1,idn,xs++[ic w.a.p,sl idf w.a.ts.length (Af (w.a.ts.map Ws))],?_⟩
  ((repeat' refine Zi ?_ ?_)<;>first|exact Xq|exact (by rw[Agt,HG.out];exact EL.append hX.out (EL.single ⟨idf,by simp[E3]⟩))|exact Xs)
 ·have aj:i=r.body.length:=Agm;subst aj;rw[Adu]at hX
  repeat' first|refine Z1 ?_|refine Z8 fun ya J=>?_|refine Z4 ?_;clear J ya|refine Z2 ?_ ?_<;>intro h ab<;>try exact Xp|refine Z3 ?_|exact Zt|apply J.out;clear J ya
  first|exact⟨_,rfl,⟨i3,xs,rfl,hX.out⟩,hK⟩|exact⟨_,rfl,i3,xs,rfl,hX.out⟩
def E5 (n:Int)(l:Lit):Lit:=if l.neg=true then⟨false,⟨l.a.p+n,l.a.ts⟩⟩else l
def xN (n:Int)(r:J4):J4:=⟨r.head,r.body.map (E5 n)⟩
theorem Vk (r:J4)(c:List AV)(n:Int)(hc:kB r c)(hl:r.body.length<=64)(hp:∀l∈r.body,0<=l.a.p/\l.a.p<=1000000)(ay:0<=n)(ax:n<=1000000)(z:St):ACalls Tryz.prog 113 [ag c,ic n] z fun x z'=>(∃c',x=ag c'/\kB (xN n r) c')/\Keep z z':=by
 obtain⟨o,ih,ib,bc,rfl,hB⟩:=hc;have az:=EL.length P4 hB;refine Z9 36 [.cell 4 97] Tryz.func113 ?_
 refine zz ?_
 refine Ad (fun m s z'=>∃(i i3:Nat) (xs:List AV),m=r.body.length-i/\i<=r.body.length/\s 1=ic n/\s 4=ptr (z.nobj+1) 0/\s 5=ptr (z.nobj+2) 0/\s 12=sl ib r.body.length bc/\s 13=ic r.body.length/\s 14=ic i/\Keep z z'/\z.nobj+2<z'.nobj/\z'.obj (z.nobj+1)=[sc (.bool false),ic 0,nilS,nilS]/\z'.obj (z.nobj+2)=[sc (.bool false),ic r.head.p,sl ih r.head.ts.length (Af r.head.ts),sl i3 i xs]/\Own z z' i3 i/\xs.length=i*3/\Agt (EL ELt ((r.body.take i).map (E5 n)) xs)) r.body.length
  ⟨0,1,[],Agm,Agm,by simp[upd,initS],Ago,Ago,Ago,Ago,rfl,Xs,Ags,?_,?_,Own.nil _ _,by simp,rfl⟩ ?_
 ·rw[Ak Agm,Ah Agq,Ca Agq Agq]
 ·rw[show z.nobj+2=z.nobj+1+1 from rfl,Aj]
 rintro m s z' ⟨i,i3,xs,rfl,hi,h1,h4,h5,a4,a3,a0,hK,aw,au,ap,hO,ak,hX⟩;have av:=hK.nobj;by_cases am:i<r.body.length
 ·have ac:=Adn am;obtain⟨id,rr,hd⟩:=Sb hB ac;have an:=hp _ (Aes am);generalize r.body[i]=w at hd ac an;have HG:Agt ((r.body.take (i+1)).map (E5 n)=(r.body.take i).map (E5 n)++[E5 n w]):=by
   rw[Agt,Ad0,ac];simp
  clear ac;cases aa:w.neg with
  |true=>
   rw[aa]at hd;have HX:Agt (EL ELt ((r.body.take (i+1)).map (E5 n)) (xs++[sc (.bool false),ic (w.a.p+n),sl id w.a.ts.length (Af w.a.ts)])):=by
    rw[Agt,HG.out];refine EL.append hX.out (EL.single ?_);rw[E5,if_pos aa];exact⟨id,rfl⟩
   clear hX HG
   repeat' first|refine Z1 ?_|refine Z8 fun ya J=>?_|refine Z4 ?_;clear J ya|refine Z2 ?_ ?_<;>intro h ad<;>try exact Xp|refine Z3 ?_|exact Zt
   refine Bz (by first|exact J9) ((((hK.new _).put hK.nobj _).put hK.nobj _).put hK.nobj _) (Own.put (Own.put (Own.put (Own.new hO _) _ _) _ _) _ _) (by decide) (by rfl) (ak) (by rfl) (by rfl) (by decide) Agm Agm ?_;intro idn zn af ah aj ab ai ae;simp only[Ac,Aa]at ab;refine Z3 ?_
   refine zz ?_
   refine⟨r.body.length-(i+1),Agm,i+1,idn,xs++[sc (.bool false),ic (w.a.p+n),sl id w.a.ts.length (Af w.a.ts)],?_⟩
   ((repeat' refine Zi ?_ ?_)<;>first|exact Xq|exact (ah.put Agm _)|exact (Own.put af _ _)|exact HX|exact Xs)
  |false=>
   rw[aa]at hd;have HX:Agt (EL ELt ((r.body.take (i+1)).map (E5 n)) (xs++[sc (.bool false),ic w.a.p,sl id w.a.ts.length (Af w.a.ts)])):=by
    rw[Agt,HG.out];refine EL.append hX.out (EL.single ?_);rw[E5,if_neg (by rw[aa];simp)];exact⟨id,by rw[aa]⟩
   clear hX HG
   repeat' first|refine Z1 ?_|refine Z8 fun ya J=>?_|refine Z4 ?_;clear J ya|refine Z2 ?_ ?_<;>intro h ad<;>try exact Xp|refine Z3 ?_|exact Zt
   refine Bz (by first|exact J9) ((hK.new _).put hK.nobj _) (Own.put (Own.new hO _) _ _) (by decide) (by rfl) (ak) (by rfl) (by rfl) (by decide) Agm Agm ?_;intro idn zn af ah aj ab ai ae;simp only[Ac,Aa]at ab;refine Z3 ?_
   refine zz ?_
   refine⟨r.body.length-(i+1),Agm,i+1,idn,xs++[sc (.bool false),ic w.a.p,sl id w.a.ts.length (Af w.a.ts)],?_⟩
   ((repeat' refine Zi ?_ ?_)<;>first|exact Xq|exact (ah.put Agm _)|exact (Own.put af _ _)|exact HX|exact Xs)
 ·have ao:i=r.body.length:=Agm;subst ao;rw[Adu]at hX;have hL:(r.body.map (E5 n)).length=r.body.length:=by simp
  repeat' first|refine Z1 ?_|refine Z8 fun ya J=>?_|refine Z4 ?_;clear J ya|refine Z2 ?_ ?_<;>intro h ad<;>try exact Xp|refine Z3 ?_|exact Zt|apply J.out;clear J ya
  exact⟨_,rfl,⟨_,rfl,false,ih,i3,xs,by simp only[xN];rw[hL],hX.out⟩,hK.put Agm _⟩
structure MkM (np:Nat)(F:List Dy)(M:MM):Prop where
 len:M.length=np
 nd:∀x∈M,x.2.Nodup
 mem:∀(k:Nat) (t:Cc),MD M k t↔∃a∈F,a.p=(k:Int)/\t=Ct a
 tot:tot M<=F.length
theorem dV {M:MM}{k:Nat}{x:Nat×List Cc}(h:M[k]?=some x):A6 M (k:Int)=x.2:=Cg h
theorem MkM.nil (np:Nat):MkM np [] (List.replicate np (1,[])):=by
 refine⟨by simp,fun x hx=>?_,fun k t=>⟨fun h=>?_,fun⟨a,ha,_⟩=>by simp at ha⟩,?_⟩
 ·rw[(Af8.1 hx).2];exact Afs
 ·exfalso;unfold MD at h;by_cases hk:k<np
  ·rw[dV (x:=(1,[])) (by rw[List.getElem?_replicate,if_pos hk])]at h;simp at h
  ·unfold A6 at h;simp[hk]at h
 ·have:∀n:Nat,Go.Proofs.YtmoeoppbmhfbpaaGreatDoorD.tot (List.replicate n ((1:Nat),([]:List Cc)))=0:=by
   intro n;induction n with
   |zero=>rfl
   |succ n ih=>rw[List.replicate_succ,Eg,ih];rfl
  rw[this];simp
theorem MkM.has {np:Nat}{F:List Dy}{M:MM}{a:Dy}{k:Nat}{x:Nat×List Cc}(h:MkM np F M)(hk:a.p=(k:Int))(hx:M[k]?=some x)(hm:Ct a∈x.2):MkM np (F++[a]) M:=by
 refine⟨h.len,h.nd,fun j t=>?_,by have:=h.tot;simp;omega⟩;rw[h.mem j t];constructor
 ·rintro⟨b,hb,h1,h2⟩;exact⟨b,Af5 _ hb,h1,h2⟩
 ·rintro⟨b,hb,h1,h2⟩;rcases Aet.1 hb with h'|h'
  ·exact⟨b,h',h1,h2⟩
  ·rw[Afk]at h';subst h';have aa:j=k:=Agm;subst aa;refine (h.mem j t).1 ?_;unfold MD;rw[Cg hx,h2];exact hm
theorem MkM.add {np:Nat}{F:List Dy}{M:MM}{a:Dy}{k id':Nat}{x:Nat×List Cc}(h:MkM np F M)(hk:a.p=(k:Int))(hx:M[k]?=some x)(hm:Ct a∉x.2):MkM np (F++[a]) (M.set k (id',x.2++[Ct a])):=by
 have ac:k<M.length:=(Adm.1 hx).1;have ab:A6 (M.set k (id',x.2++[Ct a])) (k:Int)=x.2++[Ct a]:=Cg (x:=(id',x.2++[Ct a])) (by rw[Adv,if_pos rfl,if_pos ac]);have aa:∀j:Nat,j≠k->(M.set k (id',x.2++[Ct a]))[j]?=M[j]?:=fun j hj=>by rw[Adv,if_neg (fun e=>hj e.symm)]
 refine⟨by simp[h.len],fun y hy=>?_,fun j t=>?_,?_⟩
 ·rcases Af2 hy with h'|rfl
  ·exact h.nd y h'
  ·rw[Afr];exact⟨h.nd x (Adp hx),by simp,fun u hu v hv e=>hm (by rw[Afk]at hv;rw[<-hv,<-e];exact hu)⟩
 ·by_cases hj:j=k
  ·subst hj;unfold MD;rw[ab,Aet,Afk];have hM:=h.mem j t;unfold MD at hM;rw[Cg hx]at hM;rw[hM];constructor
   ·rintro (⟨b,hb,h1,h2⟩|h')
    ·exact⟨b,Af5 _ hb,h1,h2⟩
    ·exact⟨a,by simp,hk,h'⟩
   ·rintro⟨b,hb,h1,h2⟩;rcases Aet.1 hb with h'|h'
    ·exact .inl ⟨b,h',h1,h2⟩
    ·rw[Afk]at h';subst h';exact .inr h2
  ·have hM:=h.mem j t;unfold MD A6 at hM⊢;rw[Af3]at hM⊢;rw[aa j hj,hM];constructor
   ·rintro⟨b,hb,h1,h2⟩;exact⟨b,Af5 _ hb,h1,h2⟩
   ·rintro⟨b,hb,h1,h2⟩;rcases Aet.1 hb with h'|h'
    ·exact⟨b,h',h1,h2⟩
    ·rw[Afk]at h';subst h';omega
 ·have:=Oy M (M.set k (id',x.2++[Ct a])) k 1 (by simp) (fun j hj=>by rw[aa j hj]) (fun _=>by rw[ab,Cg hx];simp) (fun h'=>Agm);have h2:=h.tot;simp;omega
structure MPt (z:St)(ot:Nat)(M:MM):Prop where
 oc:z.obj ot=Fs M
 lt:ot<z.nobj
 live:∀x∈M,Live z x.1 x.2.length
 inj:∀(i j:Nat) (x y:Nat×List Cc),M[i]?=some x->M[j]?=some y->i≠j->x.1=1\/x.1≠y.1
 t3:∀x∈M,T3 x.2
 ln:∀x∈M,x.2.length<=5000
 pl:M.length<=5000
theorem MPt.keep {z z':St}{ot:Nat}{M:MM}(h:MPt z ot M)(k:Keep z z'):MPt z' ot M:=⟨(k.obj _ h.lt).trans h.oc,Adf h.lt k.nobj,fun x hx=>(h.live x hx).keep k,h.inj,h.t3,h.ln,h.pl⟩
theorem MPt.mob {z:St}{om ot:Nat}{M:MM}{d b:Int}(h:MPt z ot M)(ho:z.obj om=[fx ot 0 M.length,ic d,ic b])(hl:om<z.nobj)(hn:om≠ot):MOb z om ot M d b:=⟨ho,h.oc,hl,h.lt,hn,h.live,h.inj,h.t3,h.ln,h.pl⟩
theorem MOb.mpt {z:St}{om ot:Nat}{M:MM}{d b:Int}(h:MOb z om ot M d b):MPt z ot M:=⟨h.oc,h.lt,h.live,h.inj,h.t3,h.ln,h.pl⟩
theorem Keep.km {σ0 z z':St}{om ot:Nat}{M M':MM}(hK:Keep σ0 z)(h:KM om ot M M' z z')(hm:σ0.nobj<=om)(ht:σ0.nobj<=ot)(hM:∀x∈M,x.1=1):Keep σ0 z':=
 ⟨Ade hK.nobj h.nobj,fun o ho=>(h.obj o (Adf ho hK.nobj) Agm Agm).trans (hK.obj o ho),fun o ho=>(h.ver o (Adf ho hK.nobj) Agm Agm).trans (hK.ver o ho),Ade hK.ntop h.ntop,fun k hk=>(h.top k (Adf hk hK.ntop) (fun x hx e=>by rw[hM x hx]at e;omega)).trans (hK.top k hk)⟩
theorem iI (np:Nat):Fs (List.replicate np (1,[]))=List.replicate np nilS:=by
 unfold Fs;rw[List.map_replicate];rfl
theorem Vb (np:Nat)(F:List Dy)(cs:List AV)(idf:Nat)(b:Int)(hF:EL Nk F cs)(hn:np<=5000)(bi:F.length<=1000)(bc:∀a∈F,a.ts.length<=3/\∃k:Nat,a.p=(k:Int)/\k<np)(z:St):
  ACalls Tryz.prog 46 [ic np,sl idf F.length cs,ic b] z fun r z'=>∃ot M,r=ag [fx ot 0 np,ic 0,ic b]/\MkM np F M/\Keep z z'/\z.nobj<=ot/\MPt z' ot M/\(∀x∈M,x.1=1\/z.ntop+2<=x.1):=by
 have bh:=EL.length Hp hF;refine Z9 27 [.cell 6 74] Tryz.func46 ?_
 refine zz ?_
 obtain⟨σ0,hz0⟩:∃τ,τ=((((z.new [nilS,ic 0,ic 0]).new (List.replicate np nilS)).new [nilS,ic 0,ic 0]).put (z.nobj+1+1) [fx (z.nobj+1) 0 np,ic 0,ic b]):=⟨_,rfl⟩;rw[<-hz0];have az:Keep z σ0:=by rw[hz0];exact Xs
 have bd:σ0.nobj=z.nobj+3:=by rw[hz0];rfl
 have av:σ0.obj z.nobj=[nilS,ic 0,ic 0]:=by rw[hz0,Ak Agm,Ah Agq,Ah Agq,Al]
 have ax:MOb σ0 (z.nobj+2) (z.nobj+1) (List.replicate np (1,[])) 0 b:=
  ⟨by rw[hz0,Aj];simp,by rw[iI,hz0,Ak Agm,Ah Agq,Ca Agq Agq],Agm,Agm,Agm,fun x hx=>by rw[(Af8.1 hx).2];exact .inl ⟨rfl,rfl⟩,fun i j x y hx hy _=>.inl (by rw[(Af8.1 (Adp hx)).2]),fun x hx=>by rw[(Af8.1 hx).2];intro t ht;simp at ht,fun x hx=>by rw[(Af8.1 hx).2];simp,by simpa using hn⟩
 refine Ad (fun m s z'=>∃(i:Nat) (M:MM),m=F.length-i/\i<=F.length/\s 6=ptr z.nobj 0/\s 7=ptr (z.nobj+2) 0/\s 14=sl idf F.length cs/\s 15=ic F.length/\s 16=ic i/\MOb z' (z.nobj+2) (z.nobj+1) M 0 b/\KM (z.nobj+2) (z.nobj+1) (List.replicate np (1,[])) M σ0 z'/\z'.obj z.nobj=[nilS,ic 0,ic 0]/\Agt (MkM np (F.take i) M)) F.length
  ⟨0,List.replicate np (1,[]),Agm,Agm,Ago,Ago,Ago,Ago,Ago,ax,KM.ofKeep (Keep.refl _),av,MkM.nil np⟩ ?_
 clear ax av hz0;rintro m s z' ⟨i,M,rfl,hi,h6,h7,bo,bn,bm,hM,ai,hq,hI⟩;have be:=ai.nobj;by_cases aw:i<F.length
 ·have aa:=Adn aw;obtain⟨id,rr,hd⟩:=I4 hF aa;obtain⟨ap,k,ae,bg⟩:=bc _ (Aes aw);generalize F[i]=a at aa hd ap ae;have am:=hI.out.len;have hx:=Adn (l:=M) (i:=k) Agm;generalize M[k]'Agm=x at hx;have a0:Agt (F.take (i+1)=F.take i++[a]):=by rw[Agt,Ad0,aa,Aez]
  clear aa;have a5:x.2.length<5000:=by
   have h1:=hI.out.tot;have h2:(x.2.length:Int)<=Go.Proofs.YtmoeoppbmhfbpaaGreatDoorD.tot M:=by
    have hg:∀(M:MM) (k:Nat) (x:Nat×List Cc),M[k]?=some x->(x.2.length:Int)<=Go.Proofs.YtmoeoppbmhfbpaaGreatDoorD.tot M:=by
     intro M;induction M with
     |nil=>intro k x h;simp at h
     |cons y M ih=>
      intro k x h;rw[Eg];have hp:∀M:MM,0<=Go.Proofs.YtmoeoppbmhfbpaaGreatDoorD.tot M:=by
       intro M;induction M with
       |nil=>exact Int.le_refl _
       |cons y M ih=>rw[Eg];omega
      cases k with
      |zero=>simp at h;subst h;have:=hp M;omega
      |succ k=>have:=ih k x (by simpa using h);omega
    exact hg M k x hx
   rw[Aec]at h1;omega
  have ak:=fun z (h:MOb z (σ0.nobj-1) (σ0.nobj-2) M 0 b)=>Ih (σ0.nobj-1) (σ0.nobj-2) M 0 b a id k x ap ae hx z h;have ay:=fun z (h:MOb z (σ0.nobj-1) (σ0.nobj-2) M 0 b)=>Vf (σ0.nobj-1) (σ0.nobj-2) M 0 b a id k x ap ae hx a5 z h;rw[show σ0.nobj-1=z.nobj+2 by omega,show σ0.nobj-2=z.nobj+1 by omega]at ak ay;have HX:Agt (M[k]?=some x):=hx;have a4:Agt (a.p=(k:Int)):=ae;clear hx ae am;by_cases ac:Ct a∈x.2
  ·rw[show decide (Ct a∈x.2)=true by simpa using ac]at ak;have HN:Agt (MkM np (F.take (i+1)) M):=by rw[Agt,a0.out];exact hI.out.has a4.out HX.out ac
   clear ac hI;have af:Keep z' ((z'.new [ic 0,nilS]).put z'.nobj [ic a.p,sl id a.ts.length (Af a.ts)]):=((Keep.refl z').new _).put (Adc _) _
   repeat' first|refine Z1 ?_|refine Z8 fun ya J=>?_|refine Z4 ?_;clear J ya|refine Z2 ?_ ?_<;>intro h ad<;>try exact Xp|refine Z5 ?_;refine Xi (ak _ (hM.keep af)) ?_;rintro _ _ ⟨rfl,aj⟩;(have ab:=af.trans aj)|refine Z3 ?_|exact Zt|apply J.out;clear J ya
   refine⟨F.length-(i+1),Agm,i+1,M,?_⟩
   ((repeat' refine Zi ?_ ?_)<;>first|exact Xq|exact HN|exact (hM.keep ab)|exact (ai.trans (KM.ofKeep ab))|exact (by rw[ab.obj _ Agm,hq])|exact Xs)
  ·rw[show decide (Ct a∈x.2)=false by simpa using ac]at ak;have HN:Agt (∀id',MkM np (F.take (i+1)) (M.set k (id',x.2++[Ct a]))):=fun id'=>by rw[a0.out];exact hI.out.add a4.out HX.out ac
   clear ac hI;have af:Keep z' ((z'.new [ic 0,nilS]).put z'.nobj [ic a.p,sl id a.ts.length (Af a.ts)]):=((Keep.refl z').new _).put (Adc _) _;have a6:∀p,p<z'.nobj+1->((z'.new [ic 0,nilS]).put z'.nobj [ic a.p,sl id a.ts.length (Af a.ts)]).obj p=((z'.new [ic 0,nilS]).put z'.nobj [ic a.p,sl id a.ts.length (Af a.ts)]).obj p:=fun p _=>rfl;clear a6
   repeat' first|refine Z1 ?_|refine Z8 fun ya J=>?_|refine Z4 ?_;clear J ya|refine Z2 ?_ ?_<;>intro h ad<;>try exact Xp|(refine Z5 ?_;first|(refine Xi (ak _ (hM.keep af)) ?_;rintro _ _ ⟨rfl,aj⟩;(have ab:=af.trans aj;have an:=aj.obj;have ao:=aj.nobj;simp only[Ac,Aa]at ao an))|(refine Xi (ay _ (hM.keep ab)) ?_;rintro _ _ ⟨id',ba,ah⟩))|refine Z3 ?_|exact Zt|apply J.out;clear J ya
   rename_i z2 z3;have au:=(ai.trans (KM.ofKeep ab)).trans ah;have a7:z3.obj z.nobj=[nilS,ic 0,ic 0]:=by rw[ah.obj _ Agm Agm Agm,ab.obj _ Agm,hq]
   refine⟨F.length-(i+1),Agm,i+1,M.set k (id',x.2++[Ct a]),?_⟩
   ((repeat' refine Zi ?_ ?_)<;>first|exact Xq|exact (HN.out id')|exact ba|exact au|exact a7|exact Xs)
 ·have a9:i=F.length:=Agm;subst a9;have hI:=hI.out;rw[Adu]at hI;have am:=hI.len;have a8:=hM.ob;rw[am]at a8;have bf:=hM.lo;have HI:Agt _:=hI;have HM:Agt _:=hM;have a3:Agt _:=ai;clear hI hM ai am
  repeat' first|refine Z1 ?_|refine Z8 fun ya J=>?_|refine Z4 ?_;clear J ya|refine Z2 ?_ ?_<;>intro h ad<;>try exact Xp|refine Z3 ?_|exact Zt|apply J.out;clear J ya
  have bb:=Keep.km az a3.out Agm Agm (fun x hx=>by rw[(Af8.1 hx).2]);refine⟨_,rfl,z.nobj+1,M,rfl,HI.out,bb.put Agm _,Agm,?_,fun x hx=>?_⟩
  ·have h:=HM.out.mpt;exact⟨by rw[Ma Agm];exact h.oc,h.lt,h.live,h.inj,h.t3,h.ln,h.pl⟩
  ·have hnt:=az.ntop;rcases a3.out.mid x hx with⟨y,hy,e⟩|e|e
   ·rw[(Af8.1 hy).2]at e;exact .inl e.symm
   ·exact .inl e
   ·exact .inr Agm
def Ru (N:List Tx)(a:RAtom):Dy:=⟨(N.idxOf a.pred:Nat),a.terms.map Ap⟩
def H9 (N:List Tx)(a:RAtom):Lit:=⟨a.nt,Ru N a⟩
def kZ (N:List Tx)(x:RItem):J4:=⟨Ru N x.head,x.body.map (H9 N)⟩
theorem Vi (ts:List Tx):Af (ts.map Ap)=A0 ts:=by
 unfold Af A0;rw[List.flatMap_map];rfl
theorem yG {N:List Tx}:∀{l:List RAtom} {b:List AV},EL (PL N) l b->EL ELt (l.map (H9 N)) b
 |[],b,h=>h
 |a::l,b,h=>by
  obtain⟨c1,c2,⟨-,ids,rfl⟩,h2,rfl⟩:=h;exact⟨_,c2,⟨ids,by simp[H9,Ru,Vi]⟩,yG h2,rfl⟩
theorem Ab6 {N:List Tx}{x:RItem}{c:List AV}(h:PI N x c):kB (kZ N x) c:=by
 obtain⟨hm,ih,id,b,hb,rfl⟩:=h;exact⟨x.out,ih,id,b,by simp[kZ,Ru,Vi],yG hb⟩
def LstF (R:List J4)(F:List Dy):Ff:=fun k t=>∀D:Ff,ClD R D->(∀a∈F,D a.p.toNat (Ct a))->D k t
theorem LstF.cl (R:List J4)(F:List Dy):ClD R (LstF R F):=fun r hr ν h D hD hF=>hD r hr ν (fun l hl=>h l hl D hD hF)
theorem LstF.fact {R:List J4}{F:List Dy}{a:Dy}(h:a∈F):LstF R F a.p.toNat (Ct a):=fun D _ hF=>hF a h
theorem Ach {np:Nat}{ar:Nat->Nat}{R:List J4}(h:∀r∈R,RW np ar r)(hp:∀r∈R,∀l∈r.body,l.neg=false):ClD R (Sh ar):=(cM (N:=Sh ar) hp).1 (Abh h)
def V8 (R:List J4)(F:List Dy)(k:Nat)(h:Cc)(b:Bool):Prop:=
 ∃M:MM,(∀x∈M,x.2.Nodup)/\(∀j t,MD M j t->LstF R F j t)/\(if tot M<=200 then (∀j t,LstF R F j t->MD M j t)/\(b=true↔MD M k h)else b=false)
theorem GroA.nodup {D:Ff}{M M':MM}{d d':Int}(h:GroA D M M' d d')(hn:∀x∈M,x.2.Nodup):∀x∈M',x.2.Nodup:=fun x hx=>by
 obtain⟨k,hk⟩:=Afc hx;obtain⟨nw,e,h1,h2⟩:=h.ext k;rw[Cg hk]at e;have aa:k<M.length:=by rw[<-h.len];exact (Adm.1 hk).1
 have hg:M[k]?=some M[k]:=Adn aa;rw[Cg hg]at e;rw[e,Afr];refine⟨hn _ (Aes aa),h1,fun a ha b hb e2=>?_⟩;have:=(h2 b hb).2;rw[Cg hg]at this;exact this (e2 ▸ ha)
theorem zM {R:List J4}{F:List Dy}{np:Nat}{M M':MM}{d':Int}{k:Nat}{h:Cc}{b:Bool}(hM:MkM np F M)(ab:∀a∈F,∃k:Nat,a.p=(k:Int))(hG:GroA (LstF R F) M M' 0 d')(hc:¬(200-tot M)<d'->ClD R (MD M'))(hb:if d'<=200-tot M then (b=true↔MD M' k h)else b=false):V8 R F k h b:=by
 refine⟨M',hG.nodup hM.nd,fun j t hj=>?_,?_⟩
 ·refine hG.inD (fun j t hj=>?_) j t hj;obtain⟨a,ha,e1,e2⟩:=(hM.mem j t).1 hj;have:=LstF.fact (R:=R) ha;rw[e1,Af3]at this;rw[e2];exact this
 ·have ac:=hG.cnt;by_cases h2:tot M'<=200
  ·rw[if_pos h2];rw[if_pos Agm]at hb;refine⟨fun j t hl=>hl (MD M') (hc Agm) (fun a ha=>?_),hb⟩;obtain⟨k',aa⟩:=ab a ha;refine hG.sub ?_;rw[aa,Af3];exact (hM.mem k' _).2 ⟨a,ha,aa,rfl⟩
  ·rw[if_neg h2];rw[if_neg Agm]at hb;exact hb
theorem Keep.km2 {σ0 z z':St}{om ot:Nat}{M M':MM}(hK:Keep σ0 z)(h:KM om ot M M' z z')(hm:σ0.nobj<=om)(ht:σ0.nobj<=ot)(hM:∀x∈M,x.1=1\/σ0.ntop+2<=x.1):Keep σ0 z':=
 ⟨Ade hK.nobj h.nobj,fun o ho=>(h.obj o (Adf ho hK.nobj) Agm Agm).trans (hK.obj o ho),fun o ho=>(h.ver o (Adf ho hK.nobj) Agm Agm).trans (hK.ver o ho),Ade hK.ntop h.ntop,fun k hk=>(h.top k (Adf hk hK.ntop) (fun x hx e=>by rcases hM x hx with h'|h'<;>omega)).trans (hK.top k hk)⟩
theorem kQ:∀M:MM,0<=tot M
 |[]=>Int.le_refl _
 |y::M=>by rw[Eg];have:=kQ M;omega
theorem oN:∀(M:MM) (k:Nat) (x:Nat×List Cc),M[k]?=some x->(x.2.length:Int)<=tot M
 |[],k,x,h=>by simp at h
 |y::M,k,x,h=>by
  rw[Eg];have hp:=kQ M;cases k with
  |zero=>simp at h;subst h;omega
  |succ k=>have:=oN M k x (by simpa using h);omega
def Dw (N:List Tx)(x:RItem):J4:=xN (N.length:Int) (kZ N x)
def E4 (N:List Tx)(x:RItem):List Dy:=(Dw N x).body.map fun l=>E3 l.a
structure BkI (N:List Tx)(l:List RItem)(ar:Nat->Nat):Prop where
 b5:∀y∈l,y.body.length<=5
 rw':∀y∈l,y.out=false->RW (2*N.length) ar (Dw N y)
 sm:∀y∈l,y.out=false->Sml (Dw N y).head.ts/\∀k∈(Dw N y).body,Sml k.a.ts
 sh:∀y∈l,y.out=false->∀a∈E4 N y,Sh ar a.p.toNat (Ct a)
theorem Abu (N:List Tx)(p:Tx):N.idxOf p<=N.length:=List.idxOf_le_length
theorem Wp (N:List Tx)(l:List RItem)(cs:List AV)(idn idi n:Nat)(ar:Nat->Nat)(x:RItem)(hB:Bk N l cs)(hI:BkI N l ar)(hx:l[n]?=some x)(av:x.out=false)(z:St):
  ACalls Tryz.prog 67 [C8 N idn l idi cs,ic n] z fun r z'=>∃b,r=sc (.bool b)/\V8 ((oth l n l.length).map (Dw N)) (E4 N x) (Dw N x).head.p.toNat (Ct (E3 (Dw N x).head)) b/\Keep z z':=by
 have ea:=EL.length Gg hB.el;have dh:=hB.len;have ee:=hB.nm;have hE:=hB.el;have d5:=(Adm.1 hx).1;have an:=Adp hx;obtain⟨hm,ih,id,b,rr,hb,hd⟩:=J6 hE hx;have b4:∀y c,y∈l->PI N y c->∀z,ACalls Tryz.prog 113 [ag c,ic N.length] z fun r z'=>(∃c',r=ag c'/\kB (Dw N y) c')/\Keep z z':=fun y c hy hc z=>
  Vk (kZ N y) c N.length (Ab6 hc) (by simp only[kZ,Ae3];have:=hI.b5 y hy;omega) (fun k hk=>by
   obtain⟨a,-,rfl⟩:=Ae4.1 hk;have:=Abu N a.pred;simp only[H9,Ru]
   omega) Agm Agm z
 have bo:=fun z=>b4 x _ an (PI.of (ih:=ih) (id:=id) hm hb) z;simp only[av]at bo;have aj:=hI.rw' x an av;have ce:(Dw N x).body.length=x.body.length:=by simp[Dw,xN,kZ]
 have eb:=hI.b5 x an;have b3:=fun c (hc:kB (Dw N x) c) z=>Qo (Dw N x) c hc Agm (fun k hk=>⟨aj.rok.ba k hk,(hI.sm x an av).2 k hk⟩) z;have be:(E4 N x).length=(Dw N x).body.length:=by simp[E4]
 have bf:∀a∈E4 N x,a.ts.length<=3/\∃k:Nat,a.p=(k:Int)/\k<2*N.length:=fun a ha=>by
  obtain⟨k,hk,rfl⟩:=Ae4.1 ha;exact⟨by simp only[E3,Ae3];exact aj.rok.ba k hk,aj.rok.bp k hk⟩
 have ay:=fun cs' idf (hF:EL Nk (E4 N x) cs') z=>Vb (2*N.length) (E4 N x) cs' idf 200 hF Agm Agm bf z;rw[be]at ay;have df:(2:Int)*(N.length:Int)=((2*N.length:Nat):Int):=Agm;have d6:(n:Int)<(l.length:Int):=Agm;generalize cf:Dw N x=RX at bo b3 ay ce be bf aj;generalize cq:E4 N x=FX at ay be bf;have cx:Agt _:=cf;have c6:Agt _:=cq;have dk:RX.body.length<=5:=Agm;have ej:FX.length<=5:=Agm;clear cf cq ce be;unfold C8;refine Z9 66 [.tmp 4] Tryz.func67 ?_
 repeat' first|refine Z1 ?_|refine Z8 fun ya J=>?_|refine Z4 ?_;clear J ya|(refine Z5 ?_;first|(refine Xi (bo _) ?_;rintro _ _ ⟨⟨_,rfl,bc⟩,bm⟩;(have a9:=bc;obtain⟨ro,rih,rib,rbc,rfl,ec⟩:=bc;have a7:=b3 _ a9;have bw:=bm.nobj;simp only[Aa]at bw))|(refine Xi (a7 _) ?_;rintro _ _ ⟨⟨idf,fc,rfl,ct⟩,ae⟩;(have a8:EL Nk FX fc:=(by rw[<-c6.out];unfold E4;rw[cx.out];exact ct);have ax:=ay fc idf a8;have bv:=ae.nobj;simp only[Ac,Aa]at bv))|(refine Xi (ax _) ?_;rintro _ _ ⟨ot,M,rfl,bi,a5,d4,bz,az⟩;(have db:=a5.nobj)))|refine Z3 ?_|exact Zt|apply J.out;clear J ya
 rename_i z1 z2 z3;obtain⟨z4,au⟩:∃τ,τ=((z3.new [nilS,ic 0,ic 0]).put z3.nobj [fx ot 0 (2*N.length),ic 0,ic 200]):=⟨_,rfl⟩;rw[<-au];have cm:Keep z z1:=((Keep.refl z).new _).trans bm;have b2:Keep z z2:=((cm.new _).put Agm _).trans ae;have ck:Keep z z3:=b2.trans a5;have aa:Keep z3 z4:=by rw[au];exact ((Keep.refl z3).new _).put (Adc _) _
 have co:Keep z z4:=ck.trans aa;have n4:z4.nobj=z3.nobj+1:=by rw[au];rfl
 have a0:=bi.len;have b7:z4.obj z1.nobj=[sc (.bool ro),ic RX.head.p,sl rih RX.head.ts.length (Af RX.head.ts),sl rib RX.body.length rbc]:=by rw[aa.obj _ Agm,a5.obj _ Agm,ae.obj _ Ags,Aj]
 have obk:z4.obj z.nobj=[sl idn N.length (N.map str),sl idi l.length cs]:=by rw[aa.obj _ Agm,a5.obj _ Agm,ae.obj _ Ags,Ak Agm,Ah Agm,bm.obj _ Agq,Al]
 have dd:=bz.lt;have a3:MOb z4 z3.nobj ot M 0 200:=(bz.keep aa).mob (by rw[au,Aj,a0]) Agm Agm;have dn:∀y∈M,y.1=1\/z.ntop+2<=y.1:=fun y hy=>by have:=b2.ntop;rcases az y hy with h|h<;>omega
 have d3:=kQ M;have d2:tot M<=5:=by have:=bi.tot;omega
 have cu:=Pt z3.nobj ot M 0 200 z4 a3;have bg:=fun (id:Nat) z=>Ls (Gv M) id (by rw[Ii];omega) (fun n hn=>by have:=Pw a3 n hn;omega) z;rw[show (Gv M).sum=tot M from rfl]at bg;rw[Ii,a0]at bg;have aw:=a3.ob;have cz:Agt _:=bi;have c5:Agt _:=a3;clear au bm ae a5 cm b2 ck bz az bi a3 ct a8 ax ay b3 a7 bo a9;refine Bl (Q:=fun e s' z''=>e= .normal/\s' 1=ic n/\s' 2=ptr z.nobj 0/\s' 5=ic N.length/\s' 6=ptr z1.nobj 0/\s' 7=ptr z3.nobj 0/\Keep z z''/\z3.nobj<z''.nobj/\z''.obj z.nobj=[sl idn N.length (N.map str),sl idi l.length cs]/\z''.obj z1.nobj=[sc (.bool ro),ic RX.head.p,sl rih RX.head.ts.length (Af RX.head.ts),sl rib RX.body.length rbc]/\MOb z'' z3.nobj ot M 0 (200-tot M)) ?_ ?_
 ·refine Ay Ag (fun _=>True) [6] [0,1] 5 #[true,true,false,false,false,false,false] Agp (fun _ _ _ h=>by cases h.1) ?_;intro ya J;refine Z3 ?_;refine J.out _ ?_;clear J ya;refine Ai (i:=2) Agp ?_;refine Am ?_;intro ya J;refine Z3 ?_;refine ACalls.mono cu ?_;rintro _ z5 ⟨⟨ic0,rfl⟩,a4⟩;refine Z3 ?_;refine J.out _ _ ⟨Ao a4,?_⟩;clear J ya;refine Ai (i:=3) Agp ?_;refine Am ?_;intro ya J;refine Z3 ?_;refine ACalls.mono (bg _ _) ?_;rintro _ z6 ⟨rfl,dt⟩;have ad:=a4.trans dt;have bu:=ad.nobj;have d0:z6.obj z3.nobj=[fx ot 0 M.length,ic 0,ic 200]:=by rw[ad.obj _ Agm,aw]
  refine Z3 ?_;refine J.out _ _ ⟨Ao ad,?_⟩;clear J ya;refine Ai (i:=4) Agp ?_;refine Am ?_;intro ya J;refine Z3 ?_;refine J.out _ _ ⟨Ao ad,?_⟩;clear J ya;refine Ai (i:=5) Agp ?_;refine Am ?_;intro ya J;refine Z3 ?_;refine J.out _ _ ⟨Ao ad,?_⟩;clear J ya;refine Ai (i:=6) Agp ?_;refine Am ?_;intro ya J;refine Z3 ?_;refine J.out _ _ ⟨Bf rfl,?_⟩;clear J ya;refine Bb Agp ⟨rfl,by simp[upd,initS],Ago,Ago,Ago,Ago,(co.trans ad).put Agm _,by simp only[Ac];omega,?_,?_,?_⟩
  ·rw[Ak Agm,ad.obj _ Agm,obk]
  ·rw[Ak Agm,ad.obj _ Agm,b7]
  ·have hm:=(c5.out.keep ad).mpt;exact MPt.mob ⟨by rw[Ak Agm];exact hm.oc,hm.lt,hm.live,hm.inj,hm.t3,hm.ln,hm.pl⟩ (by rw[Aj,a0]) (by simp only[Ac];omega) Agm
 ·rintro e s z5 ⟨rfl,g1,g2,g5,g6,g7,a4,d7,obk5,br,ch⟩;clear cu bg aw c5 co aa b7 obk n4;have da:=a4.nobj;have dy:Agt _:=ch;clear ch
  refine zz ?_
  refine Ad (fun m s z'=>∃(q i8:Nat) (L:List RItem) (ys:List AV),m=l.length-q/\q<=l.length/\s 1=ic n/\s 5=ic N.length/\s 6=ptr z1.nobj 0/\s 7=ptr z3.nobj 0/\s 8=sl i8 L.length ys/\s 34=sl idi l.length cs/\s 35=ic l.length/\s 36=ic q/\Keep z5 z'/\Own z5 z' i8 L.length/\ys.length=L.length*4/\L.length<=q/\Agt (L=oth l n q/\EL kB (L.map (Dw N)) ys)) l.length
   ⟨0,1,[],[],Agm,Agm,Agn,Agn,Agn,Agn,Ago,Ago,Ago,Ago,Keep.refl _,Own.nil _ _,rfl,by simp,by simp[oth],rfl⟩ ?_
  clear g1 g2 g5 g6 g7;rintro m s z6 ⟨q,i8,L,ys,rfl,hq,h1,h5,h6,h7,h8,en,em,ek,hK,hO,d1,eg,hL⟩;have c9:=hK.nobj;by_cases cb:q<l.length
  ·have ab:=Adn cb;obtain⟨ca,jh,jd,jb,r2,cc,di⟩:=J6 hE ab;have b8:=Aes cb;generalize l[q]=y at ab cc di ca b8;have ap:Agt _:=gY (n:=n) ab;have bn:=fun z=>b4 y _ b8 (PI.of (ih:=jh) (id:=jd) ca cc) z;clear ab;by_cases ao:q=n
   ·have de:((q:Int) !=(n:Int))=false:=by simp[ao]
    have HN:Agt (L=oth l n (q+1)/\EL kB (L.map (Dw N)) ys):=⟨by rw[ap.out,if_pos (.inl ao),Ad4];exact hL.out.1,hL.out.2⟩;clear ao ap bn
    repeat' first|refine Z1 ?_|refine Z8 fun ya J=>?_|refine Z4 ?_;clear J ya|refine Z2 ?_ ?_<;>intro h ah<;>try exact Xp|refine Z3 ?_|exact Zt|apply J.out;clear J ya
    refine⟨l.length-(q+1),Agm,q+1,i8,L,ys,?_⟩
    ((repeat' refine Zi ?_ ?_)<;>first|exact Xq|exact HN|exact ((hK.new _).put hK.nobj _)|exact (Own.put (Own.new hO _) _ _)|exact Xs)
   ·have de:((q:Int) !=(n:Int))=true:=by simp;omega
    cases af:y.out with
    |true=>
     have HN:Agt (L=oth l n (q+1)/\EL kB (L.map (Dw N)) ys):=⟨by rw[ap.out,if_pos (.inr af),Ad4];exact hL.out.1,hL.out.2⟩;clear ao ap bn
     repeat' first|refine Z1 ?_|refine Z8 fun ya J=>?_|refine Z4 ?_;clear J ya|refine Z2 ?_ ?_<;>intro h ah<;>try exact Xp|refine Z3 ?_|exact Zt|apply J.out;clear J ya
     refine⟨l.length-(q+1),Agm,q+1,i8,L,ys,?_⟩
     ((repeat' refine Zi ?_ ?_)<;>first|exact Xq|exact HN|exact ((hK.new _).put hK.nobj _)|exact (Own.put (Own.new hO _) _ _)|exact Xs)
    |false=>
     simp only[af]at bn;have HN:Agt (∀c',kB (Dw N y) c'->L++[y]=oth l n (q+1)/\EL kB ((L++[y]).map (Dw N)) (ys++c')):=fun c' dj=>⟨by rw[ap.out,if_neg (by simp[ao,af]),hL.out.1],by rw[Ad2];exact EL.append hL.out.2 (EL.single dj)⟩;clear ao ap
     repeat' first|refine Z1 ?_|refine Z8 fun ya J=>?_|refine Z4 ?_;clear J ya|refine Z2 ?_ ?_<;>intro h ah<;>try exact Xp|refine Z6 ?_;intro idn zn dm ei dw cw dv cv|refine Z5 ?_;refine Xi (bn _) ?_;rintro _ _ ⟨⟨_,rfl,bc⟩,ae⟩;(have dx:Agt _:=HN.out _ bc;obtain⟨ro2,rih2,rib2,rbc2,rfl,-⟩:=bc;have eh:=((hK.new _).put hK.nobj _).trans ae;have ed:=Own.keep (Own.put (Own.new hO _) _ _) ae)|refine Z3 ?_|exact Zt|apply J.out;clear J ya
     refine⟨l.length-(q+1),Agm,q+1,idn,L++[y],ys++[sc (.bool ro2),ic (Dw N y).head.p,sl rih2 (Dw N y).head.ts.length (Af (Dw N y).head.ts),sl rib2 (Dw N y).body.length rbc2],?_⟩
     ((repeat' refine Zi ?_ ?_)<;>first|exact Xq|exact dx|exact (by rw[Aeb];exact dm)|exact Xs)
  ·have dc:q=l.length:=Agm;subst dc;obtain⟨b1,ci⟩:=hL.out;have ai:∀r∈L.map (Dw N),RW (2*N.length) ar r:=fun r hr=>by
    obtain⟨y,hy,rfl⟩:=Ae4.1 hr;rw[b1]at hy;exact hI.rw' y (Ek hy).1 (Ek hy).2
   have ac:∀r∈L.map (Dw N),∀k∈r.body,k.neg=false:=fun r hr k hk=>by
    obtain⟨y,hy,rfl⟩:=Ae4.1 hr;obtain⟨k0,-,rfl⟩:=Ae4.1 hk;unfold E5;split
    ·rfl
    ·rename_i h;simpa using h
   have a6:Fol (2*N.length) ar (L.map (Dw N)) (LstF (L.map (Dw N)) FX):=⟨ai,(cM ac).2 (LstF.cl _ _),fun k t h=>h (Sh ar) (Ach ai ac) (fun a ha=>hI.sh x an av a (by rw[c6.out];exact ha))⟩;have cg:∀k t,MD M k t->LstF (L.map (Dw N)) FX k t:=fun k t hk=>by
    obtain⟨a,ha,e1,e2⟩:=(cz.out.mem k t).1 hk;have:=LstF.fact (R:=L.map (Dw N)) ha;rw[e1,Af3]at this;rw[e2];exact this
   have dl:Room M 0 (200-tot M):=fun y hy=>by
    obtain⟨k,hk⟩:=Afc hy;have:=oN M k y hk;omega
   have cr:=fun z (h:MOb z z3.nobj ot M 0 (200-tot M))=>Pr a6 z3.nobj ot (200-tot M) Agm Agm M 0 a0 cg (fun r hr k hk hn=>by rw[ac r hr k hk]at hn;cases hn) dl Agm Agm ys i8 ci (by rw[Ae3];omega) z h;rw[Ae3]at cr;have dp:MOb z6 z3.nobj ot M 0 (200-tot M):=dy.out.keep hK;have bq:z6.obj z1.nobj=[sc (.bool ro),ic RX.head.p,sl rih RX.head.ts.length (Af RX.head.ts),sl rib RX.body.length rbc]:=by rw[hK.obj _ Agm,br]
   have dq:=a4.trans hK;have dz:Agt _:=b1;have cy:Agt (∀(M':MM) (d':Int) (bb:Bool),GroA (LstF (L.map (Dw N)) FX) M M' 0 d'->(¬(200-tot M)<d'->ClD (L.map (Dw N)) (MD M'))->(if d'<=200-tot M then (bb=true↔MD M' RX.head.p.toNat (Ct (E3 RX.head)))else bb=false)->V8 ((oth l n l.length).map (Dw N)) FX RX.head.p.toNat (Ct (E3 RX.head)) bb):=fun M' d' bb h1 h2 h3=>by
    rw[<-dz.out];exact zM cz.out (fun a ha=>⟨_,(bf a ha).2.choose_spec.1⟩) h1 h2 h3
   have du:=fun z=>Pq RX.head.p rih RX.head.ts (by have:=aj.rok.hd;omega) (by have:=(hI.sm x an av).1;rw[cx.out]at this;exact this) z;clear b1 ci a6 cg hL b4 ai
   repeat' first|refine Z1 ?_|refine Z8 fun ya J=>?_|refine Z4 ?_;clear J ya|refine Z2 ?_ ?_<;>intro h ah<;>try exact Xp|refine Z5 ?_;refine Xi (cr _ dp) ?_;rintro _ _ ⟨M',d',b0,ak,cp,d9,-,cd⟩;(have b6:Agt _:=cp;have c7:Agt _:=fun h=>(cM ac).1 (cd h);clear cp cd)|refine Z3 ?_|exact Zt
   rename_i z7;have bu:=ak.nobj;have c8:z7.obj z1.nobj=[sc (.bool ro),ic RX.head.p,sl rih RX.head.ts.length (Af RX.head.ts),sl rib RX.body.length rbc]:=by rw[ak.obj _ Agm Agm Agm,bq]
   have cj:Keep z z7:=Keep.km2 dq ak Agm Agm dn;have bh:=Od z3.nobj ot M' d' (200-tot M);by_cases b9:200-tot M<d'
   ·rw[show decide (200-tot M<d')=true by simpa using b9]at bh;have HR:Agt _:=cy.out M' d' false b6.out c7.out (by rw[if_neg Agm])
    repeat' first|refine Z1 ?_|refine Z4 ?_;clear J ya|refine Z5 ?_;refine Xi (bh _ b0) ?_;rintro _ _ ⟨rfl,rfl⟩|refine Z3 ?_|exact Zt|apply J.out;clear J ya
    first|exact⟨_,rfl,false,rfl,HR.out,cj⟩|exact⟨_,rfl,false,rfl,HR.out⟩
   ·rw[show decide (200-tot M<d')=false by simpa using b9]at bh;obtain⟨k,hk,d8⟩:=aj.rok.hp;have ef:M'.length=2*N.length:=by rw[b6.out.len];exact a0
    have bd:=Adn (l:=M') (i:=k) Agm;generalize M'[k]'Agm=x' at bd;have am:=fun id z (h:MOb z z3.nobj ot M' d' (200-tot M))=>Ih z3.nobj ot M' d' (200-tot M) (E3 RX.head) id k x' (by simp only[E3,Ae3];exact aj.rok.hd) hk bd z h
    have HR:Agt (V8 ((oth l n l.length).map (Dw N)) FX RX.head.p.toNat (Ct (E3 RX.head)) (decide (Ct (E3 RX.head)∈x'.2))):=cy.out M' d' _ b6.out c7.out (by
     rw[if_pos Agm,hk,Af3];unfold MD;rw[Cg bd]
     simp)
    generalize decide (Ct (E3 RX.head)∈x'.2)=bb at am HR;simp only[E3,Ae3]at am;clear bd hk
    repeat' first|refine Z1 ?_|refine Z4 ?_;clear J ya|(refine Z5 ?_;first|(refine Xi (bh _ b0) ?_;rintro _ _ ⟨rfl,rfl⟩)|(refine Xi (du _) ?_;rintro _ _ ⟨⟨idh,rfl⟩,cn⟩)|(refine Xi (am _ _ (b0.keep cn)) ?_;rintro _ _ ⟨rfl,dr⟩))|refine Z3 ?_|exact Zt|apply J.out;clear J ya
    first|exact⟨_,rfl,_,rfl,HR.out,(cj.trans cn).trans dr⟩|exact⟨_,rfl,_,rfl,HR.out⟩
theorem bM {α:Type}:∀{l m:List α},l.Nodup->(∀a∈l,a∈m)->l.length<=m.length
 |[],m,_,_=>by simp
 |a::l,m,h,hs=>by
  obtain⟨s,t,rfl⟩:=List.append_of_mem (hs a (by simp));have hn:=List.nodup_cons.1 h
  have:=bM (l:=l) (m:=s++t) hn.2 (fun b hb=>by
   have:=hs b (by simp[hb]);rcases Aet.1 this with h'|h'
   ·exact Af5 _ h'
   ·rcases Ae2.1 h' with rfl|h'
    ·exact absurd hb hn.1
    ·exact Af6 _ h')
  simp only[Aem,Aeb]at this⊢;omega
theorem Mg {α β:Type}{f:α->β}:∀{l:List α},l.Nodup->(∀a∈l,∀b∈l,f a=f b->a=b)->(l.map f).Nodup
 |[],_,_=>Afs
 |a::l,h,hi=>by
  have hn:=List.nodup_cons.1 h;rw[Ad7,List.nodup_cons];refine⟨fun hm=>?_,Mg hn.2 fun b hb c hc=>hi b (by simp[hb]) c (by simp[hc])⟩;obtain⟨b,hb,e⟩:=Ae4.1 hm;have:=hi b (by simp[hb]) a (by simp) e;exact hn.1 (this ▸ hb)
def J0:Nat->MM->List (Nat×Cc)
 |_,[]=>[]
 |k,x::M=>x.2.map (fun t=>(k,t))++J0 (k+1) M
theorem Mn:∀(M:MM) (k:Nat),((J0 k M).length:Int)=tot M
 |[],k=>rfl
 |x::M,k=>by rw[J0,Eg,<-Mn M (k+1)];simp
theorem Jz:∀(M:MM) (k j:Nat) (t:Cc),(j,t)∈J0 k M↔k<=j/\MD M (j-k) t
 |[],k,j,t=>by simp[J0,MD,A6]
 |x::M,k,j,t=>by
  rw[J0,Aet,Jz M (k+1) j t];unfold MD A6;simp only[Af3];constructor
  ·rintro (h|⟨h1,h2⟩)
   ·obtain⟨u,hu,e⟩:=Ae4.1 h;cases e;simpa using hu
   ·refine⟨Agm,?_⟩;rw[show j-k=(j-(k+1))+1 by omega,List.getElem?_cons_succ];exact h2
  ·rintro⟨h1,h2⟩;by_cases e:j=k
   ·subst e;left;rw[Afd,List.getElem?_cons_zero]at h2;exact Ae4.2 ⟨t,by simpa using h2,rfl⟩
   ·right;rw[show j-k=(j-(k+1))+1 by omega,List.getElem?_cons_succ]at h2;exact⟨Agm,h2⟩
theorem Rc:∀(M:MM) (k:Nat),(∀x∈M,x.2.Nodup)->(J0 k M).Nodup
 |[],k,_=>Afs
 |x::M,k,h=>by
  rw[J0,Afr];refine⟨Mg (h x (by simp)) (fun a _ b _ e=>by cases e;rfl),Rc M (k+1) (fun y hy=>h y (by simp[hy])),fun a ha b hb e=>?_⟩;obtain⟨t,-,rfl⟩:=Ae4.1 ha;obtain⟨j,u⟩:=b;cases e;have:=((Jz M (k+1) k t).1 hb).1;omega
theorem uM {M:MM}{α:Type}{A:List α}{e:α->Nat×Cc}(hn:∀x∈M,x.2.Nodup)(h:∀k t,MD M k t->∃a∈A,e a=(k,t)):tot M<=A.length:=by
 have hc:∀p∈J0 0 M,∃a∈A,e a=p:=fun p hp=>by
  obtain⟨k,t⟩:=p;exact h k t ((Jz M 0 k t).1 hp).2
 have hg:∃g:Nat×Cc->Option α,∀p∈J0 0 M,∃a∈A,g p=some a/\e a=p:=by
  refine⟨fun p=>Classical.epsilon fun o=>∃a∈A,o=some a/\e a=p,fun p hp=>?_⟩;obtain⟨a,ha,he⟩:=hc p hp;have:=Classical.epsilon_spec (p:=fun o=>∃a∈A,o=some a/\e a=p) ⟨some a,a,ha,rfl,he⟩;exact this
 obtain⟨g,hg⟩:=hg
 have h1:((J0 0 M).map g).Nodup:=Mg (Rc M 0 hn) (fun p hp q hq aa=>by
  obtain⟨a,-,h1,h2⟩:=hg p hp;obtain⟨b,-,h3,h4⟩:=hg q hq;rw[h1,h3]at aa;cases aa
  exact h2.symm.trans h4)
 have h2:=bM (m:=A.map some) h1 (fun o ho=>by
  obtain⟨p,hp,rfl⟩:=Ae4.1 ho;obtain⟨a,ha,h1,-⟩:=hg p hp
  rw[h1];exact Ae4.2 ⟨a,ha,rfl⟩)
 rw[Ae3,Ae3]at h2;rw[<-Mn M 0];omega
theorem Abr {M:MM}{P:List (Nat×Cc)}(hn:P.Nodup)(h:∀p∈P,MD M p.1 p.2):(P.length:Int)<=tot M:=by
 have:=bM (m:=J0 0 M) hn (fun p hp=>by
  obtain⟨k,t⟩:=p
  exact (Jz M 0 k t).2 ⟨Agm,h _ hp⟩)
 rw[<-Mn M 0];omega
theorem P7 {l m:List Int}(hl:l.length=m.length)(h3:l.length<=3)(h:D3 l=D3 m):l=m:=by
 refine Ad5 fun i=>?_;by_cases hi:i<l.length
 ·unfold D3 at h;simp only[List.cons.injEq,and_true]at h;obtain⟨e0,e1,e2⟩:=h;have h1:=Adn hi;have h2:=Adn (l:=m) (i:=i) Agm;have:i=0\/i=1\/i=2:=Agm;rcases this with rfl|rfl|rfl
  ·rw[h1,h2]at e0;rw[h1,h2];exact congrArg some e0
  ·rw[h1,h2]at e1;rw[h1,h2];exact congrArg some e1
  ·rw[h1,h2]at e2;rw[h1,h2];exact congrArg some e2
 ·rw[Ady Agm,Ady Agm]
end Go.Proofs.YtmoeoppbmhfbpaaGreatDoorD
