import Derived.Test.YtmoeoppbmhfbpabGreatDoorMEngY
import Derived.Test.YtmoeoppbmhfbpabGreatDoorLProgM
import Derived.Test.YtmoeoppbmhfbpabGreatDoorLPrtH
set_option maxHeartbeats 64000000
set_option maxRecDepth 100000
set_option linter.all false
namespace Go.Proofs.YtmoeoppbmhfbpabGreatDoorL
open Go.Abs
theorem kZ:∀(M M':MM),M'.length=M.length->(∀k:Nat,(Ax M k).length<=(Ax M' k).length)->(tot M<=tot M'/\(tot M'<=tot M->∀k:Nat,(Ax M' k).length=(Ax M k).length))
 |[],M',hl,h=>by
  have:M'=[]:=Ag5 (by simpa using hl);subst this;exact⟨Ai3 _,fun _ k=>rfl⟩
 |x::M,[],hl,h=>by simp at hl
 |x::M,y::M',hl,h=>by
  obtain⟨h1,h2⟩:=kZ M M' (by simpa using hl) (fun k=>by have:=h (k+1);simpa[Ax]using this);have h0:=h 0;simp[Ax]at h0;rw[Di,Di];refine⟨Aj6,fun aa k=>?_⟩;cases k with
  |zero=>simp[Ax];omega
  |succ k=>
   have:=h2 Aj6 k;simpa[Ax]using this
theorem GroA.lens {D:Ct}{M M':MM}{d d':Int}(h:GroA D M M' d d')(k:Nat):(Ax M k).length<=(Ax M' k).length:=by
 obtain⟨n,e,-,-⟩:=h.ext k;rw[e];simp
theorem GroA.same {D:Ct}{M M':MM}{d d':Int}(h:GroA D M M' d d')(ht:tot M'<=tot M)(k:Nat):Ax M' k=Ax M k:=by
 have hl:=(kZ M M' h.len h.lens).2 ht k;obtain⟨n,e,-,-⟩:=h.ext k;rw[e]at hl⊢;have:n=[]:=by simpa using hl
 rw[this,Ahh]
theorem P4 {σ:St}{om ot:Nat}{M:MM}{d b:Int}(hM:MOb σ om ot M d b):∀n∈Hs M,0<=n/\n<=5000:=fun n hn=>by
 obtain⟨x,hx,rfl⟩:=Aib.1 hn;have:=hM.ln x hx;omega
theorem I5 (M:MM):(Hs M).length=M.length:=by simp[Hs]
theorem zL {M:MM}{k:Nat}(hk:k<M.length):((Hs M)[k]?).getD 0=((Ax M (k:Int)).length:Int):=by
 have hg:M[k]?=some M[k]:=Agz hk;rw[B7 hg];simp[Hs,hk]
def Brg (D:Ct)(R:List Dx)(MS M1:MM):Prop:=∀r∈R,∀ν,(∀l∈r.body,LitH D (MD MS) ν l)->MD M1 r.head.p.toNat (Be r.head ν)
theorem Vk {N D:Ct}{ν:Nu}{l:Lit}(hn:l.neg=false)(h:LitH N D ν l):D l.a.p.toNat (Be l.a ν):=by
 unfold LitH at h;rw[hn]at h;simpa using h
theorem iH {N D:Ct}{ν:Nu}{l:Lit}(hn:l.neg=true)(h:LitH N D ν l):¬N l.a.p.toNat (Be l.a ν):=by
 unfold LitH at h;rw[hn]at h;simpa using h
theorem Acx {np:Nat}{ar:Nat->Nat}{R:List Dx}{D:Ct}{MS M1 M2:MM}{ds d1 d2:Int}(hF:Fol np ar R D)(hn:MS.length=np)(hS:GroA D MS M1 ds d1)(hB:Brg D R MS M1)(h2:GroA D M1 M2 d1 d2)(hN:∀r∈R,NewR D M1 M2 (Hs MS) r r.body.length):Brg D R M1 M2:=fun r hr ν h=>by
 by_cases ac:∀l∈r.body,LitH D (MD MS) ν l
 ·exact h2.sub (hB r hr ν ac)
 ·obtain⟨l,hl⟩:∃l,¬(l∈r.body->LitH D (MD MS) ν l):=Classical.not_forall.1 ac;have ad:l∈r.body:=Classical.byContradiction fun hh=>hl (fun h'=>absurd h' hh);have ae:¬LitH D (MD MS) ν l:=fun hh=>hl (fun _=>hh);have ab:l.neg=false:=by
   cases hc:l.neg with
   |false=>rfl
   |true=>
    exfalso;have:=iH hc (h l ad);exact ae (by unfold LitH;rw[hc];simpa using this)
  have aa:¬MD MS l.a.p.toNat (Be l.a ν):=fun hh=>ae (by unfold LitH;rw[ab];simpa using hh);obtain⟨i,hi⟩:=Aif ad;have hil:=(Agy.1 hi).1;obtain⟨k,hk,af⟩:=(hF.rw r hr).rok.bp l ad;refine hN r hr i l hil hi ab ν h ?_;obtain⟨nw,e,-,-⟩:=hS.ext k;have hm:=Vk ab (h l ad);unfold MD at hm aa;rw[hk]at hm aa⊢;rw[Ajn]at hm aa;rw[Ajn,zL Aj6,Ajn];rw[e]at hm⊢;rw[List.drop_left];rcases Ah8.1 hm with h'|h'
  ·exact absurd h' aa
  ·exact h'
theorem V7 {R:List Dx}{D:Ct}{MS M1:MM}{np:Nat}{ar:Nat->Nat}{ds d1:Int}(hF:Fol np ar R D)(hS:GroA D MS M1 ds d1)(hB:Brg D R MS M1)(ht:tot M1<=tot MS):ClG R D (MD M1):=fun r hr ν h=>hB r hr ν (fun l hl=>by
 have:=h l hl;unfold LitH at this⊢;split
 ·rename_i hc;rw[if_pos hc]at this;exact this
 ·rename_i hc;rw[if_neg hc]at this;obtain⟨k,hk,-⟩:=(hF.rw r hr).rok.bp l hl;unfold MD at this⊢;rw[hk]at this⊢;rw[Ajn]at this⊢;rw[hS.same ht k]at this
  exact this)
theorem Jj {np:Nat}{ar:Nat->Nat}{R:List Dx}{D:Ct}(hF:Fol np ar R D)(om ot:Nat)(b:Int)(br: -1000000<=b)(bq:b<=900000)(M:MM)(d:Int)(hn:M.length=np)(hD:∀k t,MD M k t->D k t)(hNg:NgIn R D M)(b6:Room M d b)(ck: -1000000<=d)(b4:d<=1000000)(rc:List AV)(idr:Nat)(a7:EL aW R rc)(b7:R.length<=1000)(σ:St)(hM:MOb σ om ot M d b):
  ACalls Tryz.prog 84 [ptr om 0,sl idr R.length rc] σ fun x σ'=>∃M' d',MOb σ' om ot M' d' b/\KM om ot M M' σ σ'/\GroA D M M' d d'/\d<=d'/\d'<=1000000/\(¬b<d'->ClG R D (MD M')):=by
 have ci:=EL.length dC a7;have hpl:=hM.pl;have bl:=fun (M:MM) (d:Int) σ (h:MOb σ om ot M d b)=>P2 om ot M d b σ h;have b0:=bl M d;have a4:Akc (M.length=np):=hn;have cj:M.length<=np/\np<=M.length:=Aj6;clear hn;refine Z9 43 [] Tryz.func84 ?_
 repeat' (first|refine Z1 ?_|(refine Z8 ?_;intro yb ya)|(refine Z4 ?_;clear ya yb)|(refine Z5 ?_;refine Xi (b0 _ (hM.keep (Xs))) ?_;rintro _ _ ⟨⟨id0,rfl⟩,bi⟩)|refine Z3 ?_|exact Zt|(apply ya.out;clear ya yb))
 rename_i σ0
 refine Af (fun m s σ'=>∃(k:Nat) (M1:MM) (d1:Int),m=R.length-k/\k<=R.length/\s 0=ptr om 0/\s 1=sl idr R.length rc/\s 4=sl id0 M.length (Al (Hs M))/\s 11=sl idr R.length rc/\s 12=ic R.length/\s 13=ic k/\MOb σ' om ot M1 d1 b/\KM om ot M M1 σ σ'/\d1<=1000000/\d<=d1/\Akc (GroA D M M1 d d1/\Room M1 d1 b/\(¬b<d1->Brg D (R.take k) M M1))) R.length
  ⟨0,M,d,Aj6,Aj6,by simp[upd,initS],by simp[upd,initS],Aj8,by simp[upd,initS],Aj8,rfl,hM.keep bi,KM.ofKeep bi,b4,Aj6,GroA.refl _ _ _,b6,fun _ r hr=>by simp at hr⟩ ?_
 clear bi b0;rintro m s σ' ⟨k,M1,d1,rfl,hk,h0,h1,h4,cg,cf,ce,aa,ac,ab,ad,hG⟩;by_cases a8:k<R.length
 ·have ah:=Agz a8;obtain⟨o,ih,ib,bc,rr,hd,hB⟩:=qW a7 ah;have af:=Ain a8;generalize R[k]=r at hd ah af hB;have ch:Akc (R.take (k+1)=R.take k++[r]):=by rw[Akc,Ahd,ah,Ais]
  clear ah;have ak:M1.length=np:=by have:=hG.out.1.len;rw[this];exact a4.out
  have cd:=fun σ (h:MOb σ om ot M1 d1 b)=>aI om ot M1 d1 b r [sc (.bool o),ic r.head.p,sl ih r.head.ts.length (Ac r.head.ts),sl ib r.body.length bc] (-1) 0 ⟨o,ih,ib,bc,rfl,hB⟩ (by rw[ak];exact (hF.rw r af).rok) Aj6 σ h;have ca:Akc (∀c3,EQ (K4 M1 (-1) 0 r) c3->∀σ,MOb σ om ot M1 d1 b->ACalls Tryz.prog 139 [ptr om 0,ag c3] σ fun x σ'=>∃M' d',MOb σ' om ot M' d' b/\KM om ot M1 M' σ σ'/\GroA D M1 M' d1 d'/\Room M' d' b/\d'<=1000000/\d1<=d'/\(¬b<d'->∀ν,(∀(l:Lit) (i:Nat),r.body[i]?=some l->l.neg=false->Be l.a ν∈Wh M1 (-1) 0 i l)->(∀l∈r.body,l.neg=true->¬D l.a.p.toNat (Be l.a ν))->MD M' r.head.p.toNat (Be r.head ν))):=fun c3 h3 σ hh=>
   Wg hF om ot b br bq M1 d1 ak (hG.out.1.inD hD) (hNg.gro hG.out.1) hG.out.2.1 Aj6 ab r af (-1) 0 c3 h3 σ hh
  clear ak;have l1:=aa.lo;have l2:=aa.lt
  repeat' (first|refine Z1 ?_|(refine Z8 ?_;intro yb ya)|(refine Z4 ?_;clear ya yb)|(refine Z2 ?_ ?_<;>intro h ai<;>try exact Xp)|(refine Z5 ?_;first|(refine Xi (cd _ (aa.keep (Xs))) ?_;rintro _ _ ⟨⟨_,rfl,ih3,ip3,in3,pc3,nc3,rfl,b8,b9⟩,bg⟩;(have a6:=bg.nobj;have a5:=bg.obj;simp only[Ab,Aa]at a6 a5;have aw:=(((Keep.refl σ').new _).put (Agn _) _).trans bg;have cb:=ca.out _ ⟨ih3,ip3,in3,pc3,nc3,rfl,b8,b9⟩))|(refine Xi (cb _ (aa.keep (Xs))) ?_;rintro _ _ ⟨M3,d3,a3,an,ax,bd,bb,ba,ae⟩;(have ap:Akc _:=ax;have ao:Akc _:=ae;clear ax ae;have am:=(ac.trans (KM.ofKeep ((aw.new _).put Aj6 _))).trans an)))|refine Z3 ?_|exact Zt|(apply ya.out;clear ya yb))
  have HN:Akc (GroA D M M3 d d3/\Room M3 d3 b/\(¬b<d3->Brg D (R.take (k+1)) M M3)):=by
   refine⟨hG.out.1.trans ap.out,bd,fun aj r' bn ν a1=>?_⟩;rw[ch.out]at bn;rcases Ah8.1 bn with h'|h'
   ·exact ap.out.sub (hG.out.2.2 Aj6 r' h' ν a1)
   ·simp at h';subst h';refine ao.out aj ν (fun l i hl a9=>?_) (fun l hl a9=>iH a9 (a1 l hl));have bo:=Ag1 hl;obtain⟨p',b1,-⟩:=(hF.rw r' af).rok.bp l bo;unfold Wh;rw[if_neg Aj6];have:=Vk a9 (a1 l bo);unfold MD at this;rw[b1]at this⊢;exact hG.out.1.sub this
  refine⟨R.length-(k+1),Aj6,k+1,M3,d3,?_⟩
  ((repeat' refine Zi ?_ ?_)<;>first|exact Xq|exact HN|exact a3|exact am|exact Xs)
 ·have b2:k=R.length:=Aj6;subst b2;rw[Ag7]at hG;have bz:=bl M1 d1
  repeat' (first|refine Z1 ?_|(refine Z8 ?_;intro yb ya)|(refine Z4 ?_;clear ya yb)|(refine Z2 ?_ ?_<;>intro h ai<;>try exact Xp)|(refine Z5 ?_;refine Xi (bz _ (aa.keep (Xs))) ?_;rintro _ _ ⟨⟨id1,rfl⟩,bh⟩)|refine Z3 ?_|exact Zt|(apply ya.out;clear ya yb))
  rename_i σ1
  refine Af (fun m s σ'=>∃(MS M1:MM) (ds d1:Int) (ia ib:Nat),m=2*(b-d1+1).toNat+(if tot MS<tot M1 then 1 else 0)/\s 0=ptr om 0/\s 1=sl idr R.length rc/\s 4=sl ia MS.length (Al (Hs MS))/\s 8=sl ib M1.length (Al (Hs M1))/\MOb σ' om ot M1 d1 b/\KM om ot M M1 σ σ'/\d1<=1000000/\d<=d1/\MS.length<=5000/\(∀n∈Hs MS,0<=n/\n<=5000)/\Akc (MS.length=np/\GroA D M M1 d d1/\GroA D MS M1 ds d1/\Room M1 d1 b/\(¬b<d1->Brg D R MS M1))) (2*(b-d1+1).toNat+(if tot M<tot M1 then 1 else 0))
   ⟨M,M1,d,d1,id0,id1,rfl,Aj7,Aj7,Aj7,Aj8,aa.keep bh,ac.trans (KM.ofKeep bh),ab,ad,hpl,P4 hM,a4.out,hG.out.1,hG.out.1,hG.out.2.1,hG.out.2.2⟩ ?_
  clear h0 h1 h4 cg cf ce aa ac ab ad hG bh bz a8 hk;rintro m s σ2 ⟨MS,M1,ds,d1,ia,ib,rfl,h0,h1,h4,h8,aa,ac,ab,ad,cm,bu,hG⟩;have av:=Kz om ot M1 d1 b;have az:=fun (id:Nat) σ=>L8 (Hs M1) id (by rw[I5];have:=aa.pl;omega) (fun n hn=>by have:=P4 aa n hn;omega) σ;have a0:=fun (id:Nat) σ=>L8 (Hs MS) id (by rw[I5];omega) (fun n hn=>by have:=bu n hn;omega) σ;rw[show (Hs M1).sum=tot M1 from rfl]at az;rw[show (Hs MS).sum=tot MS from rfl]at a0;rw[I5]at az a0;by_cases ay:b<d1
  ·rw[show decide (b<d1)=true from by simpa using ay]at av
   repeat' (first|refine Z1 ?_|(refine Z8 ?_;intro yb ya)|(refine Z4 ?_;clear ya yb)|(refine Z2 ?_ ?_<;>intro h ai<;>try exact Xp)|(refine Z5 ?_;refine Xi (av _ (aa.keep (Xs))) ?_;rintro _ _ ⟨rfl,rfl⟩)|refine Z3 ?_|exact Zt|(apply ya.out;clear ya yb))
   first|exact⟨_,rfl,M1,d1,aa,ac,hG.out.2.1,ad,ab,fun h=>absurd ay h⟩|exact⟨M1,d1,aa,ac,hG.out.2.1,ad,ab,fun h=>absurd ay h⟩
  ·rw[show decide (b<d1)=false from by simpa using ay]at av;by_cases bm:tot MS<tot M1
   ·have b3:decide (tot M1>tot MS)=true:=by simpa using bm
    have bw:=fun σ (h:MOb σ om ot M1 d1 b)=>Sn hF om ot b br bq M1 d1 (hG.out.2.1.len.trans a4.out) (hG.out.2.1.inD hD) (hNg.gro hG.out.2.1) hG.out.2.2.2.1 Aj6 ab rc idr a7 b7 (Hs MS) ia (by rw[I5];exact hG.out.1) bu σ h;rw[I5]at bw;rw[if_pos bm]
    repeat' (first|refine Z1 ?_|(refine Z8 ?_;intro yb ya)|(refine Z4 ?_;clear ya yb)|(refine Z2 ?_ ?_<;>intro h ai<;>try exact Xp)|(refine Z5 ?_;first|(refine Xi (av _ (aa.keep (Xs))) ?_;rintro _ _ ⟨rfl,rfl⟩)|(refine Xi (az _ _) ?_;rintro _ _ ⟨rfl,bf⟩;(have aw:=bf))|(refine Xi (a0 _ _) ?_;rintro _ _ ⟨rfl,be⟩;(have au:=aw.trans be))|(refine Xi (bw _ (aa.keep (Xs))) ?_;rintro _ _ ⟨M3,d3,a3,an,ax,bd,bb,ba,ae⟩;(have ap:Akc _:=ax;have ao:Akc _:=ae;clear ax ae;have am:=(ac.trans (KM.ofKeep au)).trans an;have cc:=bl M3 d3))|(refine Xi (cc _ (a3.keep (Xs))) ?_;rintro _ _ ⟨⟨ic3,rfl⟩,bv⟩))|refine Z3 ?_|exact Zt|(apply ya.out;clear ya yb))
    have b5:=ap.out.cnt;refine⟨2*(b-d3+1).toNat+(if tot M1<tot M3 then 1 else 0),by split<;>omega,M1,M3,d1,d3,ib,ic3,?_⟩
    have HN:Akc (M1.length=np/\GroA D M M3 d d3/\GroA D M1 M3 d1 d3/\Room M3 d3 b/\(¬b<d3->Brg D R M1 M3)):=
     ⟨hG.out.2.1.len.trans a4.out,hG.out.2.1.trans ap.out,ap.out,bd,fun aj=>Acx hF hG.out.1 hG.out.2.2.1 (hG.out.2.2.2.2 Aj6) ap.out (ao.out aj)⟩
    ((repeat' refine Zi ?_ ?_)<;>first|exact Xq|exact HN|exact (a3.keep bv)|exact (am.trans (KM.ofKeep bv))|exact aa.pl|exact (P4 aa)|exact Xs)
   ·have b3:decide (tot M1>tot MS)=false:=by simp;omega
    repeat' (first|refine Z1 ?_|(refine Z8 ?_;intro yb ya)|(refine Z4 ?_;clear ya yb)|(refine Z2 ?_ ?_<;>intro h ai<;>try exact Xp)|(refine Z5 ?_;first|(refine Xi (av _ (aa.keep (Xs))) ?_;rintro _ _ ⟨rfl,rfl⟩)|(refine Xi (az _ _) ?_;rintro _ _ ⟨rfl,bf⟩;(have aw:=bf))|(refine Xi (a0 _ _) ?_;rintro _ _ ⟨rfl,be⟩;(have au:=aw.trans be)))|refine Z3 ?_|exact Zt|(apply ya.out;clear ya yb))
    first|exact⟨_,rfl,M1,d1,aa.keep au,ac.trans (KM.ofKeep au),hG.out.2.1,ad,ab,fun aj=>V7 hF hG.out.2.2.1 (hG.out.2.2.2.2 aj) Aj6⟩|exact⟨M1,d1,aa.keep au,ac.trans (KM.ofKeep au),hG.out.2.1,ad,ab,fun aj=>V7 hF hG.out.2.2.1 (hG.out.2.2.2.2 aj) Aj6⟩
theorem Aa2 {ar:Nat->Nat}{a:De}{ν:Nu}{k:Nat}(h3:a.ts.length<=3)(har:a.ts.length=ar k)(h:Sh ar k (Be a ν)):∀t∈a.ts,∃n:Nat,En ν t=(n:Int)/\n<1026:=by
 obtain⟨l,e,hl,hx⟩:=h;intro t ht;obtain⟨i,hi⟩:=Aif ht;have hil:=(Agy.1 hi).1;have h2:(a.ts.map (En ν))[i]?=some (En ν t):=by rw[Aha,hi];rfl
 have aa:i<l.length:=Aj6;have h4:l[i]?=some l[i]:=Agz aa;have h5:En ν t=l[i]:=by
  unfold Be C4 at e;simp only[Ajv,and_true]at e;obtain⟨e0,e1,e2⟩:=e;have:i=0\/i=1\/i=2:=Aj6;rcases this with rfl|rfl|rfl
  ·rw[h2,h4]at e0;exact e0
  ·rw[h2,h4]at e1;exact e1
  ·rw[h2,h4]at e2;exact e2
 rw[h5];exact hx _ (Ain aa)
theorem bI {np:Nat}{ar:Nat->Nat}{R:List Dx}{N:Ct}(h:∀r∈R,RW np ar r):ClG R N (Sh ar):=fun r hr ν hb=>by
 have hw:=h r hr;refine⟨r.head.ts.map (En ν),rfl,by rw[Ai1];exact hw.har,fun x hx=>?_⟩;obtain⟨t,ht,rfl⟩:=Aib.1 hx;obtain⟨tv,tn⟩:=t;cases tv with
 |false=>exact hw.hc _ ht rfl
 |true=>
  obtain⟨l,hl,hn,hv⟩:=hw.safe tn (.inl (by rw[hasV_iff];exact ht));exact Aa2 (hw.rok.ba l hl) (hw.bar l hl) (Vk hn (hb l hl)) _ (hasV_iff.1 hv)
def LstG (R:List Dx)(B:Ct):Ct:=fun k t=>∀D:Ct,(∀k t,B k t->D k t)->ClG R B D->D k t
theorem LstG.base {R:List Dx}{B:Ct}{k:Nat}{t:Bb}(h:B k t):LstG R B k t:=fun D hB _=>hB k t h
theorem LitH.mono {N D D':Ct}{ν:Nu}{l:Lit}(h:LitH N D ν l)(hD:∀k t,D k t->D' k t):LitH N D' ν l:=by
 unfold LitH at h⊢;split
 ·rename_i hc;rw[if_pos hc]at h;exact h
 ·rename_i hc;rw[if_neg hc]at h;exact hD _ _ h
theorem LitH.anti {N N' D:Ct}{ν:Nu}{l:Lit}(h:LitH N D ν l)(hN:l.neg=true->N' l.a.p.toNat (Be l.a ν)->N l.a.p.toNat (Be l.a ν)):LitH N' D ν l:=by
 unfold LitH at h⊢;split
 ·rename_i hc;rw[if_pos hc]at h;exact fun g=>h (hN hc g)
 ·rename_i hc;rw[if_neg hc]at h;exact h
theorem LstG.cl (R:List Dx)(B:Ct):ClG R B (LstG R B):=fun r hr ν h D hB hC=>hC r hr ν (fun l hl=>(h l hl).mono (fun k t g=>g D hB hC))
theorem LstG.nonhead {R:List Dx}{B:Ct}{k:Nat}{t:Bb}(hk:∀r∈R,r.head.p.toNat≠k)(h:LstG R B k t):B k t:=by
 have:=h (fun j u=>j=k->B j u) (fun j u g _=>g) (fun r hr ν _ e=>absurd e (hk r hr));exact this rfl
theorem LstG.least {R:List Dx}{B D:Ct}(hB:∀k t,B k t->D k t)(hC:ClG R B D){k:Nat}{t:Bb}(h:LstG R B k t):D k t:=h D hB hC
def Apart (R:List Dx):Prop:=∀r∈R,∀l∈r.body,l.neg=true->∀r'∈R,r'.head.p.toNat≠l.a.p.toNat
theorem yS {np:Nat}{ar:Nat->Nat}{R:List Dx}{B:Ct}(hR:∀r∈R,RW np ar r)(hB:∀k t,B k t->Sh ar k t):Fol np ar R (LstG R B):=
 ⟨hR,fun r hr ν h=>LstG.cl R B r hr ν (fun l hl=>(h l hl).anti (fun _ g=>LstG.base g)),fun k t h=>h.least hB (bI hR)⟩
theorem Ab1 {R:List Dx}{B:Ct}{M:MM}(hA:Apart R)(hB:∀k t,B k t->MD M k t):NgIn R (LstG R B) M:=fun r hr l hl hn t ht=>hB _ _ (ht.nonhead (hA r hr l hl hn))
theorem tL {R:List Dx}{B:Ct}{M':MM}(hA:Apart R)(hB:∀k t,B k t->MD M' k t)(hC:ClG R (LstG R B) (MD M')){k:Nat}{t:Bb}(h:LstG R B k t):MD M' k t:=
 h.least hB (fun r hr ν g=>hC r hr ν (fun l hl=>(g l hl).anti (fun hn e=>e.nonhead (hA r hr l hl hn))))
def DX (ar:Nat->Nat)(R:List Dx)(M:MM):Ct:=fun k t=>Sh ar k t/\((∃r∈R,∃l∈r.body,l.neg=true/\l.a.p.toNat=k)->MD M k t)
theorem yT {np:Nat}{ar:Nat->Nat}{R:List Dx}{M:MM}(hR:∀r∈R,RW np ar r)(hA:Apart R):Fol np ar R (DX ar R M):=
 ⟨hR,fun r hr ν h=>⟨bI (N:=DX ar R M) hR r hr ν (fun l hl=>(h l hl).mono (fun _ _ g=>g.1)),fun⟨r',aa,l',ac,ab,e⟩=>absurd e.symm (hA r' aa l' ac ab r hr)⟩,fun k t h=>h.1⟩
theorem Ab2 {ar:Nat->Nat}{R:List Dx}{M:MM}:NgIn R (DX ar R M) M:=fun r hr l hl hn t ht=>ht.2 ⟨r,hr,l,hl,hn,rfl⟩
theorem Abn {D:Ct}{M M':MM}{d d' b:Int}(h:GroA D M M' d d')(hb:tot M-d+b<=4000):Room M' d' b:=fun x hx=>by
 have h1:=h.cnt;obtain⟨k,hk⟩:=Aif hx;have:∀(M:MM) (k:Nat) (x:Nat×List Bb),M[k]?=some x->(x.2.length:Int)<=tot M:=by
  intro M;induction M with
  |nil=>intro k x h;simp at h
  |cons y M ih=>
   intro k x h;have hn:0<=tot M:=by
    clear ih h;induction M with
    |nil=>simp[tot,Hs]
    |cons z M ih=>rw[Di];omega
   rw[Di];cases k with
   |zero=>simp at h;subst h;omega
   |succ k=>have:=ih k x (by simpa using h);omega
 have:=this M' k x hk;omega
def W6 (t:Tm):Tm:=if t.1=true then (false,1000+t.2)else t
def Ha (a:De):De:=⟨a.p,a.ts.map W6⟩
def Sml (ts:List Tm):Prop:=∀t∈ts,-1000000<=t.2/\t.2<=1000000
theorem P0 (p:Int)(ids:Nat)(ts:List Tm)(hn:ts.length<=1000)(hs:Sml ts)(σ:St):ACalls Tryz.prog 157 [ag [ic p,sl ids ts.length (Ac ts)]] σ fun r σ'=>(∃id,r=ag [ic p,sl id ts.length (Ac (ts.map W6))])/\Keep σ σ':=by
 have ap:=Ch ts;refine Z9 30 [.cell 2 122] Tryz.func157 ?_
 repeat' (first|refine Z1 ?_|(refine Z8 ?_;intro yb ya)|(refine Z4 ?_;clear ya yb)|refine Z3 ?_|exact Zt|(apply ya.out;clear ya yb))
 refine Af (fun m s σ'=>∃(i i3:Nat) (xs:List AV),m=ts.length-i/\i<=ts.length/\s 2=ptr (σ.nobj+1) 0/\s 3=ptr (σ.nobj+2) 0/\s 10=sl ids ts.length (Ac ts)/\s 11=ic ts.length/\s 12=ic i/\Keep σ σ'/\σ.nobj+2<σ'.nobj/\σ'.obj (σ.nobj+1)=[ic 0,nilS]/\σ'.obj (σ.nobj+2)=[ic p,sl i3 i xs]/\Own σ σ' i3 i/\xs.length=i*2/\Akc (xs=Ac ((ts.take i).map W6))) ts.length
  ⟨0,1,[],Aj6,Aj6,Aj8,Aj8,Aj8,Aj8,rfl,Xs,Akb,?_,?_,Own.nil _ _,by simp,by simp[Akc,Ac]⟩ ?_
 ·rw[Ah Aj6,Ag Aka,Bs Aka Aka]
 ·rw[show σ.nobj+2=σ.nobj+1+1 from rfl,Aj]
 rintro m s σ' ⟨i,i3,xs,rfl,hi,h2,h3,ax,aw,av,hK,au,an,am,hO,aj,hX⟩;have ao:=hK.nobj;by_cases ak:i<ts.length
 ·have ab:=Agz ak;obtain⟨r,hd⟩:=Cl ab;have hb:=hs _ (Ain ak);generalize ts[i]=w at hd ab hb;obtain⟨w1,w2⟩:=w;have HG:Akc (Ac ((ts.take (i+1)).map W6)=Ac ((ts.take i).map W6)++I3 (W6 (w1,w2))):=by
   rw[Akc,Ahd,ab];simp[Ac]
  clear ab;cases w1 with
  |true=>
   repeat' (first|refine Z1 ?_|(refine Z8 ?_;intro yb ya)|(refine Z4 ?_;clear ya yb)|(refine Z2 ?_ ?_<;>intro h ac<;>try exact Xp)|refine Z3 ?_|exact Zt)
   refine Bg (by first|exact Ea) (((hK.new _).put hK.nobj _).put hK.nobj _) (Own.put (Own.put (Own.new hO _) _ _) _ _) (by decide) (by rfl) (aj) (by rfl) (by rfl) (by decide) Aj6 Aj6 ?_;intro idn σn ae af ai aa ah ad;simp only[Ab,Aa]at aa;refine Z3 ?_
   repeat' (first|refine Z1 ?_|(refine Z8 ?_;intro yb ya)|(refine Z4 ?_;clear ya yb)|refine Z3 ?_|exact Zt|(apply ya.out;clear ya yb))
   refine⟨ts.length-(i+1),Aj6,i+1,idn,xs++[sc (.bool false),ic (1000+w2)],?_⟩
   ((repeat' refine Zi ?_ ?_)<;>first|exact Xq|exact (af.put Aj6 _)|exact (Own.put ae _ _)|exact (by rw[Akc,HG.out,hX.out];rfl)|exact Xs)
  |false=>
   repeat' (first|refine Z1 ?_|(refine Z8 ?_;intro yb ya)|(refine Z4 ?_;clear ya yb)|(refine Z2 ?_ ?_<;>intro h ac<;>try exact Xp)|refine Z3 ?_|exact Zt)
   refine Bg (by first|exact Ea) ((hK.new _).put hK.nobj _) (Own.put (Own.new hO _) _ _) (by decide) (by rfl) (aj) (by rfl) (by rfl) (by decide) Aj6 Aj6 ?_;intro idn σn ae af ai aa ah ad;simp only[Ab,Aa]at aa;refine Z3 ?_
   repeat' (first|refine Z1 ?_|(refine Z8 ?_;intro yb ya)|(refine Z4 ?_;clear ya yb)|refine Z3 ?_|exact Zt|(apply ya.out;clear ya yb))
   refine⟨ts.length-(i+1),Aj6,i+1,idn,xs++[sc (.bool false),ic w2],?_⟩
   ((repeat' refine Zi ?_ ?_)<;>first|exact Xq|exact (af.put Aj6 _)|exact (Own.put ae _ _)|exact (by rw[Akc,HG.out,hX.out];rfl)|exact Xs)
 ·have hil:i=ts.length:=Aj6;subst hil;have hX:=hX.out;rw[Ag7]at hX
  repeat' (first|refine Z1 ?_|(refine Z8 ?_;intro yb ya)|(refine Z4 ?_;clear ya yb)|(refine Z2 ?_ ?_<;>intro h ac<;>try exact Xp)|refine Z3 ?_|exact Zt|(apply ya.out;clear ya yb))
  exact⟨_,rfl,⟨i3,by first|rfl|rw[hX]⟩,hK.put Aj6 _⟩
theorem Q7 (r:Dx)(c:List AV)(hc:aW r c)(hl:r.body.length<=64)(ha:∀l∈r.body,l.a.ts.length<=3/\Sml l.a.ts)(σ:St):ACalls Tryz.prog 156 [ag c] σ fun x σ'=>(∃id cs,x=sl id r.body.length cs/\EL Mm (r.body.map fun l=>Ha l.a) cs)/\Keep σ σ':=by
 obtain⟨o,ih,ib,bc,rfl,hB⟩:=hc;have au:=EL.length Gs hB;refine Z9 22 [.tmp 2] Tryz.func156 ?_
 repeat' (first|refine Z1 ?_|(refine Z8 ?_;intro yb ya)|(refine Z4 ?_;clear ya yb)|refine Z3 ?_|exact Zt|(apply ya.out;clear ya yb))
 refine Af (fun m s σ'=>∃(i i3:Nat) (xs:List AV),m=r.body.length-i/\i<=r.body.length/\s 3=sl i3 i xs/\s 8=sl ib r.body.length bc/\s 9=ic r.body.length/\s 10=ic i/\Keep σ σ'/\Own σ σ' i3 i/\xs.length=i*2/\Akc (EL Mm ((r.body.take i).map fun l=>Ha l.a) xs)) r.body.length
  ⟨0,1,[],Aj6,Aj6,Aj8,Aj8,Aj8,rfl,Xs,Own.nil _ _,by simp,rfl⟩ ?_
 rintro m s σ' ⟨i,i3,xs,rfl,hi,h3,h8,h9,az,hK,hO,ap,hX⟩;have ao:=hK.nobj;by_cases ac:i<r.body.length
 ·have aa:=Agz ac;obtain⟨id,rr,hd⟩:=Hl hB aa;obtain⟨aj,ad⟩:=ha _ (Ain ac);generalize r.body[i]=w at hd aa aj ad;have ai:w.a.ts.length<=1000:=Aj6;have ak:=fun σ=>P0 w.a.p id w.a.ts ai ad σ;have HG:Akc ((r.body.take (i+1)).map (fun l=>Ha l.a)=(r.body.take i).map (fun l=>Ha l.a)++[Ha w.a]):=by
   rw[Akc,Ahd,aa];simp
  clear aa
  repeat' (first|refine Z1 ?_|(refine Z8 ?_;intro yb ya)|(refine Z4 ?_;clear ya yb)|(refine Z2 ?_ ?_<;>intro h ab<;>try exact Xp)|(refine Z6 ?_;intro idn σn aw ay an ah am af)|(refine Z5 ?_;refine Xi (ak _) ?_;rintro _ _ ⟨⟨idf,rfl⟩,ae⟩;(have ax:=((hK.new _).put hK.nobj _).trans ae;have av:=Own.keep (Own.put (Own.new hO _) _ _) ae))|refine Z3 ?_|exact Zt|(apply ya.out;clear ya yb))
  refine⟨r.body.length-(i+1),Aj6,i+1,idn,xs++[ic w.a.p,sl idf w.a.ts.length (Ac (w.a.ts.map W6))],?_⟩
  ((repeat' refine Zi ?_ ?_)<;>first|exact Xq|exact (by rw[Akc,HG.out];exact EL.append hX.out (EL.single ⟨idf,by simp[Ha]⟩))|exact Xs)
 ·have hil:i=r.body.length:=Aj6;subst hil;rw[Ag7]at hX
  repeat' (first|refine Z1 ?_|(refine Z8 ?_;intro yb ya)|(refine Z4 ?_;clear ya yb)|(refine Z2 ?_ ?_<;>intro h ab<;>try exact Xp)|refine Z3 ?_|exact Zt|(apply ya.out;clear ya yb))
  first|exact⟨_,rfl,⟨i3,xs,rfl,hX.out⟩,hK⟩|exact⟨_,rfl,i3,xs,rfl,hX.out⟩
def F4 (n:Int)(l:Lit):Lit:=if l.neg=true then⟨false,⟨l.a.p+n,l.a.ts⟩⟩else l
def Aae (n:Int)(r:Dx):Dx:=⟨r.head,r.body.map (F4 n)⟩
theorem Vv (r:Dx)(c:List AV)(n:Int)(hc:aW r c)(hl:r.body.length<=64)(hp:∀l∈r.body,0<=l.a.p/\l.a.p<=1000000)(ax:0<=n)(aw:n<=1000000)(σ:St):ACalls Tryz.prog 155 [ag c,ic n] σ fun x σ'=>(∃c',x=ag c'/\aW (Aae n r) c')/\Keep σ σ':=by
 obtain⟨o,ih,ib,bc,rfl,hB⟩:=hc;have ay:=EL.length Gs hB;refine Z9 36 [.cell 4 125] Tryz.func155 ?_
 repeat' (first|refine Z1 ?_|(refine Z8 ?_;intro yb ya)|(refine Z4 ?_;clear ya yb)|refine Z3 ?_|exact Zt|(apply ya.out;clear ya yb))
 refine Af (fun m s σ'=>∃(i i3:Nat) (xs:List AV),m=r.body.length-i/\i<=r.body.length/\s 1=ic n/\s 4=ptr (σ.nobj+1) 0/\s 5=ptr (σ.nobj+2) 0/\s 12=sl ib r.body.length bc/\s 13=ic r.body.length/\s 14=ic i/\Keep σ σ'/\σ.nobj+2<σ'.nobj/\σ'.obj (σ.nobj+1)=[sc (.bool false),ic 0,nilS,nilS]/\σ'.obj (σ.nobj+2)=[sc (.bool false),ic r.head.p,sl ih r.head.ts.length (Ac r.head.ts),sl i3 i xs]/\Own σ σ' i3 i/\xs.length=i*3/\Akc (EL Qf ((r.body.take i).map (F4 n)) xs)) r.body.length
  ⟨0,1,[],Aj6,Aj6,by simp[upd,initS],Aj8,Aj8,Aj8,Aj8,rfl,Xs,Akb,?_,?_,Own.nil _ _,by simp,rfl⟩ ?_
 ·rw[Ah Aj6,Ag Aka,Bs Aka Aka]
 ·rw[show σ.nobj+2=σ.nobj+1+1 from rfl,Aj]
 rintro m s σ' ⟨i,i3,xs,rfl,hi,h1,h4,h5,a3,a0,az,hK,av,ap,ao,hO,ak,hX⟩;have au:=hK.nobj;by_cases am:i<r.body.length
 ·have ac:=Agz am;obtain⟨id,rr,hd⟩:=Hl hB ac;have an:=hp _ (Ain am);generalize r.body[i]=w at hd ac an;have HG:Akc ((r.body.take (i+1)).map (F4 n)=(r.body.take i).map (F4 n)++[F4 n w]):=by
   rw[Akc,Ahd,ac];simp
  clear ac;cases aa:w.neg with
  |true=>
   rw[aa]at hd;have HX:Akc (EL Qf ((r.body.take (i+1)).map (F4 n)) (xs++[sc (.bool false),ic (w.a.p+n),sl id w.a.ts.length (Ac w.a.ts)])):=by
    rw[Akc,HG.out];refine EL.append hX.out (EL.single ?_);rw[F4,if_pos aa];exact⟨id,rfl⟩
   clear hX HG
   repeat' (first|refine Z1 ?_|(refine Z8 ?_;intro yb ya)|(refine Z4 ?_;clear ya yb)|(refine Z2 ?_ ?_<;>intro h ad<;>try exact Xp)|refine Z3 ?_|exact Zt)
   refine Bg (by first|exact Ek) ((((hK.new _).put hK.nobj _).put hK.nobj _).put hK.nobj _) (Own.put (Own.put (Own.put (Own.new hO _) _ _) _ _) _ _) (by decide) (by rfl) (ak) (by rfl) (by rfl) (by decide) Aj6 Aj6 ?_;intro idn σn af ah aj ab ai ae;simp only[Ab,Aa]at ab;refine Z3 ?_
   repeat' (first|refine Z1 ?_|(refine Z8 ?_;intro yb ya)|(refine Z4 ?_;clear ya yb)|refine Z3 ?_|exact Zt|(apply ya.out;clear ya yb))
   refine⟨r.body.length-(i+1),Aj6,i+1,idn,xs++[sc (.bool false),ic (w.a.p+n),sl id w.a.ts.length (Ac w.a.ts)],?_⟩
   ((repeat' refine Zi ?_ ?_)<;>first|exact Xq|exact (ah.put Aj6 _)|exact (Own.put af _ _)|exact HX|exact Xs)
  |false=>
   rw[aa]at hd;have HX:Akc (EL Qf ((r.body.take (i+1)).map (F4 n)) (xs++[sc (.bool false),ic w.a.p,sl id w.a.ts.length (Ac w.a.ts)])):=by
    rw[Akc,HG.out];refine EL.append hX.out (EL.single ?_);rw[F4,if_neg (by rw[aa];simp)];exact⟨id,by rw[aa]⟩
   clear hX HG
   repeat' (first|refine Z1 ?_|(refine Z8 ?_;intro yb ya)|(refine Z4 ?_;clear ya yb)|(refine Z2 ?_ ?_<;>intro h ad<;>try exact Xp)|refine Z3 ?_|exact Zt)
   refine Bg (by first|exact Ek) ((hK.new _).put hK.nobj _) (Own.put (Own.new hO _) _ _) (by decide) (by rfl) (ak) (by rfl) (by rfl) (by decide) Aj6 Aj6 ?_;intro idn σn af ah aj ab ai ae;simp only[Ab,Aa]at ab;refine Z3 ?_
   repeat' (first|refine Z1 ?_|(refine Z8 ?_;intro yb ya)|(refine Z4 ?_;clear ya yb)|refine Z3 ?_|exact Zt|(apply ya.out;clear ya yb))
   refine⟨r.body.length-(i+1),Aj6,i+1,idn,xs++[sc (.bool false),ic w.a.p,sl id w.a.ts.length (Ac w.a.ts)],?_⟩
   ((repeat' refine Zi ?_ ?_)<;>first|exact Xq|exact (ah.put Aj6 _)|exact (Own.put af _ _)|exact HX|exact Xs)
 ·have hil:i=r.body.length:=Aj6;subst hil;rw[Ag7]at hX;have hL:(r.body.map (F4 n)).length=r.body.length:=by simp
  repeat' (first|refine Z1 ?_|(refine Z8 ?_;intro yb ya)|(refine Z4 ?_;clear ya yb)|(refine Z2 ?_ ?_<;>intro h ad<;>try exact Xp)|refine Z3 ?_|exact Zt|(apply ya.out;clear ya yb))
  exact⟨_,rfl,⟨_,rfl,false,ih,i3,xs,by simp only[Aae];rw[hL],hX.out⟩,hK.put Aj6 _⟩
structure MkM (np:Nat)(F:List De)(M:MM):Prop where
 len:M.length=np
 nd:∀x∈M,x.2.Nodup
 mem:∀(k:Nat) (t:Bb),MD M k t↔∃a∈F,a.p=(k:Int)/\t=Cr a
 tot:tot M<=F.length
theorem dU {M:MM}{k:Nat}{x:Nat×List Bb}(h:M[k]?=some x):Ax M (k:Int)=x.2:=B7 h
theorem MkM.nil (np:Nat):MkM np [] (List.replicate np (1,[])):=by
 refine⟨by simp,fun x hx=>?_,fun k t=>⟨fun h=>?_,fun⟨a,ha,_⟩=>by simp at ha⟩,?_⟩
 ·rw[(Ajw.1 hx).2];exact Ai0
 ·exfalso;unfold MD at h;by_cases hk:k<np
  ·rw[dU (x:=(1,[])) (by rw[List.getElem?_replicate,if_pos hk])]at h;simp at h
  ·unfold Ax at h;simp[hk]at h
 ·have:∀n:Nat,Go.Proofs.YtmoeoppbmhfbpabGreatDoorL.tot (List.replicate n ((1:Nat),([]:List Bb)))=0:=by
   intro n;induction n with
   |zero=>rfl
   |succ n ih=>rw[List.replicate_succ,Di,ih];rfl
  rw[this];simp
theorem MkM.has {np:Nat}{F:List De}{M:MM}{a:De}{k:Nat}{x:Nat×List Bb}(h:MkM np F M)(hk:a.p=(k:Int))(hx:M[k]?=some x)(hm:Cr a∈x.2):MkM np (F++[a]) M:=by
 refine⟨h.len,h.nd,fun j t=>?_,by have:=h.tot;simp;omega⟩;rw[h.mem j t];constructor
 ·rintro⟨b,hb,h1,h2⟩;exact⟨b,Ajx _ hb,h1,h2⟩
 ·rintro⟨b,hb,h1,h2⟩;rcases Ah8.1 hb with h'|h'
  ·exact⟨b,h',h1,h2⟩
  ·rw[Ait]at h';subst h';have aa:j=k:=Aj6;subst aa;refine (h.mem j t).1 ?_;unfold MD;rw[B7 hx,h2];exact hm
theorem MkM.add {np:Nat}{F:List De}{M:MM}{a:De}{k id':Nat}{x:Nat×List Bb}(h:MkM np F M)(hk:a.p=(k:Int))(hx:M[k]?=some x)(hm:Cr a∉x.2):MkM np (F++[a]) (M.set k (id',x.2++[Cr a])):=by
 have ac:k<M.length:=(Agy.1 hx).1;have ab:Ax (M.set k (id',x.2++[Cr a])) (k:Int)=x.2++[Cr a]:=B7 (x:=(id',x.2++[Cr a])) (by rw[Ag8,if_pos rfl,if_pos ac]);have aa:∀j:Nat,j≠k->(M.set k (id',x.2++[Cr a]))[j]?=M[j]?:=fun j hj=>by rw[Ag8,if_neg (fun e=>hj e.symm)]
 refine⟨by simp[h.len],fun y hy=>?_,fun j t=>?_,?_⟩
 ·rcases Ajm hy with h'|rfl
  ·exact h.nd y h'
  ·rw[Ajf];exact⟨h.nd x (Ag1 hx),by simp,fun u hu v hv e=>hm (by rw[Ait]at hv;rw[<-hv,<-e];exact hu)⟩
 ·by_cases hj:j=k
  ·subst hj;unfold MD;rw[ab,Ah8,Ait];have hM:=h.mem j t;unfold MD at hM;rw[B7 hx]at hM;rw[hM];constructor
   ·rintro (⟨b,hb,h1,h2⟩|h')
    ·exact⟨b,Ajx _ hb,h1,h2⟩
    ·exact⟨a,by simp,hk,h'⟩
   ·rintro⟨b,hb,h1,h2⟩;rcases Ah8.1 hb with h'|h'
    ·exact .inl ⟨b,h',h1,h2⟩
    ·rw[Ait]at h';subst h';exact .inr h2
  ·have hM:=h.mem j t;unfold MD Ax at hM⊢;rw[Ajn]at hM⊢;rw[aa j hj,hM];constructor
   ·rintro⟨b,hb,h1,h2⟩;exact⟨b,Ajx _ hb,h1,h2⟩
   ·rintro⟨b,hb,h1,h2⟩;rcases Ah8.1 hb with h'|h'
    ·exact⟨b,h',h1,h2⟩
    ·rw[Ait]at h';subst h';omega
 ·have:=O5 M (M.set k (id',x.2++[Cr a])) k 1 (by simp) (fun j hj=>by rw[aa j hj]) (fun _=>by rw[ab,B7 hx];simp) (fun h'=>Aj6);have h2:=h.tot;simp;omega
structure MPt (σ:St)(ot:Nat)(M:MM):Prop where
 oc:σ.obj ot=Ff M
 lt:ot<σ.nobj
 live:∀x∈M,Live σ x.1 x.2.length
 inj:∀(i j:Nat) (x y:Nat×List Bb),M[i]?=some x->M[j]?=some y->i≠j->x.1=1\/x.1≠y.1
 t3:∀x∈M,T3 x.2
 ln:∀x∈M,x.2.length<=5000
 pl:M.length<=5000
theorem MPt.keep {σ σ':St}{ot:Nat}{M:MM}(h:MPt σ ot M)(k:Keep σ σ'):MPt σ' ot M:=⟨(k.obj _ h.lt).trans h.oc,Agp h.lt k.nobj,fun x hx=>(h.live x hx).keep k,h.inj,h.t3,h.ln,h.pl⟩
theorem MPt.mob {σ:St}{om ot:Nat}{M:MM}{d b:Int}(h:MPt σ ot M)(ho:σ.obj om=[fx ot 0 M.length,ic d,ic b])(hl:om<σ.nobj)(hn:om≠ot):MOb σ om ot M d b:=⟨ho,h.oc,hl,h.lt,hn,h.live,h.inj,h.t3,h.ln,h.pl⟩
theorem MOb.mpt {σ:St}{om ot:Nat}{M:MM}{d b:Int}(h:MOb σ om ot M d b):MPt σ ot M:=⟨h.oc,h.lt,h.live,h.inj,h.t3,h.ln,h.pl⟩
theorem Keep.km {σ0 σ σ':St}{om ot:Nat}{M M':MM}(hK:Keep σ0 σ)(h:KM om ot M M' σ σ')(hm:σ0.nobj<=om)(ht:σ0.nobj<=ot)(hM:∀x∈M,x.1=1):Keep σ0 σ':=
 ⟨Ago hK.nobj h.nobj,fun o ho=>(h.obj o (Agp ho hK.nobj) Aj6 Aj6).trans (hK.obj o ho),fun o ho=>(h.ver o (Agp ho hK.nobj) Aj6 Aj6).trans (hK.ver o ho),Ago hK.ntop h.ntop,fun k hk=>(h.top k (Agp hk hK.ntop) (fun x hx e=>by rw[hM x hx]at e;omega)).trans (hK.top k hk)⟩
theorem iD (np:Nat):Ff (List.replicate np (1,[]))=List.replicate np nilS:=by
 unfold Ff;rw[List.map_replicate];rfl
theorem Ma (np:Nat)(F:List De)(cs:List AV)(idf:Nat)(b:Int)(hF:EL Mm F cs)(hn:np<=5000)(hFl:F.length<=1000)(bb:∀a∈F,a.ts.length<=3/\∃k:Nat,a.p=(k:Int)/\k<np)(σ:St):
  ACalls Tryz.prog 49 [ic np,sl idf F.length cs,ic b] σ fun r σ'=>∃ot M,r=ag [fx ot 0 np,ic 0,ic b]/\MkM np F M/\Keep σ σ'/\σ.nobj<=ot/\MPt σ' ot M/\(∀x∈M,x.1=1\/σ.ntop+2<=x.1):=by
 have bg:=EL.length Ic hF;refine Z9 27 [.cell 6 77] Tryz.func49 ?_
 repeat' (first|refine Z1 ?_|(refine Z8 ?_;intro yb ya)|(refine Z4 ?_;clear ya yb)|refine Z3 ?_|exact Zt|(apply ya.out;clear ya yb))
 obtain⟨σ0,hσ0⟩:∃τ,τ=((((σ.new [nilS,ic 0,ic 0]).new (List.replicate np nilS)).new [nilS,ic 0,ic 0]).put (σ.nobj+1+1) [fx (σ.nobj+1) 0 np,ic 0,ic b]):=⟨_,rfl⟩;rw[<-hσ0];have az:Keep σ σ0:=by rw[hσ0];exact Xs
 have bc:σ0.nobj=σ.nobj+3:=by rw[hσ0];rfl
 have av:σ0.obj σ.nobj=[nilS,ic 0,ic 0]:=by rw[hσ0,Ah Aj6,Ag Aka,Ag Aka,Ao]
 have ax:MOb σ0 (σ.nobj+2) (σ.nobj+1) (List.replicate np (1,[])) 0 b:=
  ⟨by rw[hσ0,Aj];simp,by rw[iD,hσ0,Ah Aj6,Ag Aka,Bs Aka Aka],Aj6,Aj6,Aj6,fun x hx=>by rw[(Ajw.1 hx).2];exact .inl ⟨rfl,rfl⟩,fun i j x y hx hy _=>.inl (by rw[(Ajw.1 (Ag1 hx)).2]),fun x hx=>by rw[(Ajw.1 hx).2];intro t ht;simp at ht,fun x hx=>by rw[(Ajw.1 hx).2];simp,by simpa using hn⟩
 refine Af (fun m s σ'=>∃(i:Nat) (M:MM),m=F.length-i/\i<=F.length/\s 6=ptr σ.nobj 0/\s 7=ptr (σ.nobj+2) 0/\s 14=sl idf F.length cs/\s 15=ic F.length/\s 16=ic i/\MOb σ' (σ.nobj+2) (σ.nobj+1) M 0 b/\KM (σ.nobj+2) (σ.nobj+1) (List.replicate np (1,[])) M σ0 σ'/\σ'.obj σ.nobj=[nilS,ic 0,ic 0]/\Akc (MkM np (F.take i) M)) F.length
  ⟨0,List.replicate np (1,[]),Aj6,Aj6,Aj8,Aj8,Aj8,Aj8,Aj8,ax,KM.ofKeep (Keep.refl _),av,MkM.nil np⟩ ?_
 clear ax av hσ0;rintro m s σ' ⟨i,M,rfl,hi,h6,h7,bl,bi,bh,hM,ai,hq,hI⟩;have bd:=ai.nobj;by_cases aw:i<F.length
 ·have aa:=Agz aw;obtain⟨id,rr,hd⟩:=Jl hF aa;obtain⟨ap,k,ae,bf⟩:=bb _ (Ain aw);generalize F[i]=a at aa hd ap ae;have am:=hI.out.len;have hx:=Agz (l:=M) (i:=k) Aj6;generalize M[k]'Aj6=x at hx;have a0:Akc (F.take (i+1)=F.take i++[a]):=by rw[Akc,Ahd,aa,Ais]
  clear aa;have a5:x.2.length<5000:=by
   have h1:=hI.out.tot;have h2:(x.2.length:Int)<=Go.Proofs.YtmoeoppbmhfbpabGreatDoorL.tot M:=by
    have hg:∀(M:MM) (k:Nat) (x:Nat×List Bb),M[k]?=some x->(x.2.length:Int)<=Go.Proofs.YtmoeoppbmhfbpabGreatDoorL.tot M:=by
     intro M;induction M with
     |nil=>intro k x h;simp at h
     |cons y M ih=>
      intro k x h;rw[Di];have hp:∀M:MM,0<=Go.Proofs.YtmoeoppbmhfbpabGreatDoorL.tot M:=by
       intro M;induction M with
       |nil=>exact Ai3 _
       |cons y M ih=>rw[Di];omega
      cases k with
      |zero=>simp at h;subst h;have:=hp M;omega
      |succ k=>have:=ih k x (by simpa using h);omega
    exact hg M k x hx
   rw[Ahp]at h1;omega
  have ak:=fun σ (h:MOb σ (σ0.nobj-1) (σ0.nobj-2) M 0 b)=>I0 (σ0.nobj-1) (σ0.nobj-2) M 0 b a id k x ap ae hx σ h;have ay:=fun σ (h:MOb σ (σ0.nobj-1) (σ0.nobj-2) M 0 b)=>Vs (σ0.nobj-1) (σ0.nobj-2) M 0 b a id k x ap ae hx a5 σ h;rw[show σ0.nobj-1=σ.nobj+2 by omega,show σ0.nobj-2=σ.nobj+1 by omega]at ak ay;have HX:Akc (M[k]?=some x):=hx;have a4:Akc (a.p=(k:Int)):=ae;clear hx ae am;by_cases ac:Cr a∈x.2
  ·rw[show decide (Cr a∈x.2)=true by simpa using ac]at ak;have HN:Akc (MkM np (F.take (i+1)) M):=by rw[Akc,a0.out];exact hI.out.has a4.out HX.out ac
   clear ac hI;have af:Keep σ' ((σ'.new [ic 0,nilS]).put σ'.nobj [ic a.p,sl id a.ts.length (Ac a.ts)]):=((Keep.refl σ').new _).put (Agn _) _
   repeat' (first|refine Z1 ?_|(refine Z8 ?_;intro yb ya)|(refine Z4 ?_;clear ya yb)|(refine Z2 ?_ ?_<;>intro h ad<;>try exact Xp)|(refine Z5 ?_;refine Xi (ak _ (hM.keep af)) ?_;rintro _ _ ⟨rfl,aj⟩;(have ab:=af.trans aj))|refine Z3 ?_|exact Zt|(apply ya.out;clear ya yb))
   refine⟨F.length-(i+1),Aj6,i+1,M,?_⟩
   ((repeat' refine Zi ?_ ?_)<;>first|exact Xq|exact HN|exact (hM.keep ab)|exact (ai.trans (KM.ofKeep ab))|exact (by rw[ab.obj _ Aj6,hq])|exact Xs)
  ·rw[show decide (Cr a∈x.2)=false by simpa using ac]at ak;have HN:Akc (∀id',MkM np (F.take (i+1)) (M.set k (id',x.2++[Cr a]))):=fun id'=>by rw[a0.out];exact hI.out.add a4.out HX.out ac
   clear ac hI;have af:Keep σ' ((σ'.new [ic 0,nilS]).put σ'.nobj [ic a.p,sl id a.ts.length (Ac a.ts)]):=((Keep.refl σ').new _).put (Agn _) _;have a6:∀p,p<σ'.nobj+1->((σ'.new [ic 0,nilS]).put σ'.nobj [ic a.p,sl id a.ts.length (Ac a.ts)]).obj p=((σ'.new [ic 0,nilS]).put σ'.nobj [ic a.p,sl id a.ts.length (Ac a.ts)]).obj p:=fun p _=>rfl;clear a6
   repeat' (first|refine Z1 ?_|(refine Z8 ?_;intro yb ya)|(refine Z4 ?_;clear ya yb)|(refine Z2 ?_ ?_<;>intro h ad<;>try exact Xp)|(refine Z5 ?_;first|(refine Xi (ak _ (hM.keep af)) ?_;rintro _ _ ⟨rfl,aj⟩;(have ab:=af.trans aj;have an:=aj.obj;have ao:=aj.nobj;simp only[Ab,Aa]at ao an))|(refine Xi (ay _ (hM.keep ab)) ?_;rintro _ _ ⟨id',a9,ah⟩))|refine Z3 ?_|exact Zt|(apply ya.out;clear ya yb))
   rename_i σ2 σ3;have au:=(ai.trans (KM.ofKeep ab)).trans ah;have a7:σ3.obj σ.nobj=[nilS,ic 0,ic 0]:=by rw[ah.obj _ Aj6 Aj6 Aj6,ab.obj _ Aj6,hq]
   refine⟨F.length-(i+1),Aj6,i+1,M.set k (id',x.2++[Cr a]),?_⟩
   ((repeat' refine Zi ?_ ?_)<;>first|exact Xq|exact (HN.out id')|exact a9|exact au|exact a7|exact Xs)
 ·have hil:i=F.length:=Aj6;subst hil;have hI:=hI.out;rw[Ag7]at hI;have am:=hI.len;have a8:=hM.ob;rw[am]at a8;have be:=hM.lo;have HI:Akc _:=hI;have HM:Akc _:=hM;have a3:Akc _:=ai;clear hI hM ai am
  repeat' (first|refine Z1 ?_|(refine Z8 ?_;intro yb ya)|(refine Z4 ?_;clear ya yb)|(refine Z2 ?_ ?_<;>intro h ad<;>try exact Xp)|refine Z3 ?_|exact Zt|(apply ya.out;clear ya yb))
  have ba:=Keep.km az a3.out Aj6 Aj6 (fun x hx=>by rw[(Ajw.1 hx).2]);refine⟨_,rfl,σ.nobj+1,M,rfl,HI.out,ba.put Aj6 _,Aj6,?_,fun x hx=>?_⟩
  ·have h:=HM.out.mpt;exact⟨by rw[S0 Aj6];exact h.oc,h.lt,h.live,h.inj,h.t3,h.ln,h.pl⟩
  ·have hnt:=az.ntop;rcases a3.out.mid x hx with⟨y,hy,e⟩|e|e
   ·rw[(Ajw.1 hy).2]at e;exact .inl e.symm
   ·exact .inl e
   ·exact .inr Aj6
def B9 (N:List Tx)(a:RAtom):De:=⟨(N.idxOf a.pred:Nat),a.terms.map Ak⟩
def Dp (N:List Tx)(a:RAtom):Lit:=⟨a.nt,B9 N a⟩
def A3 (N:List Tx)(x:RItem):Dx:=⟨B9 N x.head,x.body.map (Dp N)⟩
theorem F2 (ts:List Tx):Ac (ts.map Ak)=Au ts:=by
 unfold Ac Au;rw[List.flatMap_map];rfl
theorem oC {N:List Tx}:∀{l:List RAtom} {b:List AV},EL (PL N) l b->EL Qf (l.map (Dp N)) b
 |[],b,h=>h
 |a::l,b,h=>by
  obtain⟨c1,c2,⟨-,ids,rfl⟩,h2,rfl⟩:=h;exact⟨_,c2,⟨ids,by simp[Dp,B9,F2]⟩,oC h2,rfl⟩
theorem Aan {N:List Tx}{x:RItem}{c:List AV}(h:PI N x c):aW (A3 N x) c:=by
 obtain⟨hm,ih,id,b,hb,rfl⟩:=h;exact⟨x.out,ih,id,b,by simp[A3,B9,F2],oC hb⟩
def LstF (R:List Dx)(F:List De):Ct:=fun k t=>∀D:Ct,ClD R D->(∀a∈F,D a.p.toNat (Cr a))->D k t
theorem LstF.cl (R:List Dx)(F:List De):ClD R (LstF R F):=fun r hr ν h D hD hF=>hD r hr ν (fun l hl=>h l hl D hD hF)
theorem LstF.fact {R:List Dx}{F:List De}{a:De}(h:a∈F):LstF R F a.p.toNat (Cr a):=fun D _ hF=>hF a h
theorem Afq {np:Nat}{ar:Nat->Nat}{R:List Dx}(h:∀r∈R,RW np ar r)(hp:∀r∈R,∀l∈r.body,l.neg=false):ClD R (Sh ar):=(cU (N:=Sh ar) hp).1 (bI h)
def uG (R:List Dx)(F:List De)(k:Nat)(h:Bb)(b:Bool):Prop:=
 ∃M:MM,(∀x∈M,x.2.Nodup)/\(∀j t,MD M j t->LstF R F j t)/\(if tot M<=200 then (∀j t,LstF R F j t->MD M j t)/\(b=true↔MD M k h)else b=false)
theorem GroA.nodup {D:Ct}{M M':MM}{d d':Int}(h:GroA D M M' d d')(hn:∀x∈M,x.2.Nodup):∀x∈M',x.2.Nodup:=fun x hx=>by
 obtain⟨k,hk⟩:=Aif hx;obtain⟨nw,e,h1,h2⟩:=h.ext k;rw[B7 hk]at e;have aa:k<M.length:=by rw[<-h.len];exact (Agy.1 hk).1
 have hg:M[k]?=some M[k]:=Agz aa;rw[B7 hg]at e;rw[e,Ajf];refine⟨hn _ (Ain aa),h1,fun a ha b hb e2=>?_⟩;have:=(h2 b hb).2;rw[B7 hg]at this;exact this (e2 ▸ ha)
theorem Abz {R:List Dx}{F:List De}{np:Nat}{M M':MM}{d':Int}{k:Nat}{h:Bb}{b:Bool}(hM:MkM np F M)(ab:∀a∈F,∃k:Nat,a.p=(k:Int))(hG:GroA (LstF R F) M M' 0 d')(hc:¬(200-tot M)<d'->ClD R (MD M'))(hb:if d'<=200-tot M then (b=true↔MD M' k h)else b=false):uG R F k h b:=by
 refine⟨M',hG.nodup hM.nd,fun j t hj=>?_,?_⟩
 ·refine hG.inD (fun j t hj=>?_) j t hj;obtain⟨a,ha,e1,e2⟩:=(hM.mem j t).1 hj;have:=LstF.fact (R:=R) ha;rw[e1,Ajn]at this;rw[e2];exact this
 ·have ac:=hG.cnt;by_cases h2:tot M'<=200
  ·rw[if_pos h2];rw[if_pos Aj6]at hb;refine⟨fun j t hl=>hl (MD M') (hc Aj6) (fun a ha=>?_),hb⟩;obtain⟨k',aa⟩:=ab a ha;refine hG.sub ?_;rw[aa,Ajn];exact (hM.mem k' _).2 ⟨a,ha,aa,rfl⟩
  ·rw[if_neg h2];rw[if_neg Aj6]at hb;exact hb
def mT (l:List RItem)(s:Nat)(x:RItem):Bool:=!x.out&&(B6 l x.head.pred==s)
def Qd (l:List RItem)(s:Nat):List RItem:=l.filter (mT l s)
def PMi (N:List Tx)(l:List RItem)(B:Ct):Nat->Ct
 |0=>B
 |s+1=>LstG ((Qd l s).map (A3 N)) (PMi N l B s)
structure BkR (N:List Tx)(l:List RItem)(np:Nat)(ar:Nat->Nat):Prop where
 nn:N.length<=np
 hN:∀x∈l,x.head.pred∈N/\∀a∈x.body,a.pred∈N
 kn:∀i,i<l.length->G1 l i=false
 rw':∀x∈l,x.out=false->RW np ar (A3 N x)
theorem yM {N:List Tx}{p q:Tx}(hp:p∈N)(hq:q∈N)(h:N.idxOf p=N.idxOf q):p=q:=by
 have h1:N[N.idxOf p]?=some p:=by rw[Agz (Ajj.2 hp)];simp
 have h2:N[N.idxOf q]?=some q:=by rw[Agz (Ajj.2 hq)];simp
 rw[h,h2]at h1;exact (Ai8 h1).symm
theorem Zq {l:List RItem}(ho:∀x∈l,x.out=true->x.body=[])(hk:∀i,i<l.length->G1 l i=false)(hl:l.length<=16){x:RItem}(hx:x∈l){a:RAtom}(ha:a∈x.body)(hn:a.nt=true):B6 l a.pred<B6 l x.head.pred:=by
 have hi:=Eu ho (Vh ho hk) hl;have h1:=(hi a.pred (B6 l a.pred)).2 (Agn _);have h2:HH l (B6 l a.pred+1) x.head.pred:=⟨x,hx,.inl rfl,a,ha,hn,h1⟩;exact (hi _ _).1 h2
theorem wP {N:List Tx}{l:List RItem}{np:Nat}{ar:Nat->Nat}(h:BkR N l np ar)(ho:∀x∈l,x.out=true->x.body=[])(hl:l.length<=16)(s:Nat):Apart ((Qd l s).map (A3 N)):=fun r hr k hk hn r' ae e=>by
 obtain⟨x,hx,rfl⟩:=Aib.1 hr;obtain⟨y,hy,rfl⟩:=Aib.1 ae;obtain⟨a,ha,rfl⟩:=Aib.1 hk;obtain⟨aa,ad⟩:=Ai7.1 hx;obtain⟨ac,ab⟩:=Ai7.1 hy;simp only[mT,Ag3,Aj4]at ad ab;simp only[A3,B9,Dp,Ajn]at e;have e2:=yM (h.hN y ac).1 ((h.hN x aa).2 a ha) e;have:=Zq ho h.kn hl aa ha hn;rw[<-e2]at this;omega
theorem Adn {N:List Tx}{l:List RItem}{np:Nat}{ar:Nat->Nat}(h:BkR N l np ar)(s:Nat):∀r∈(Qd l s).map (A3 N),RW np ar r:=fun r hr=>by
 obtain⟨x,hx,rfl⟩:=Aib.1 hr;obtain⟨ab,aa⟩:=Ai7.1 hx;simp only[mT,Ag3]at aa;exact h.rw' x ab (by simpa using aa.1)
theorem PMi.up {N:List Tx}{l:List RItem}{B:Ct}{k:Nat}{t:Bb}:∀{s s':Nat},s<=s'->PMi N l B s k t->PMi N l B s' k t
 |s,0,h,g=>by
  have:s=0:=Aj6;subst this;exact g
 |s,s'+1,h,g=>by
  by_cases e:s=s'+1
  ·subst e;exact g
  ·exact LstG.base (PMi.up (s:=s) (s':=s') Aj6 g)
def FolI (N:List Tx)(l:List RItem)(M:MM)(b:Int)(s:Nat)(M1:MM)(d1:Int):Prop:=
 M1.length=M.length/\d1=tot M1-tot M/\
 ((¬b<d1/\(∀k t,MD M1 k t↔PMi N l (MD M) s k t)/\∀x∈M1,x.2.Nodup)\/
  (b<d1/\∃M2:MM,M2.length=M.length/\(∀x∈M2,x.2.Nodup)/\(∀k t,MD M k t->MD M2 k t)/\(∀k t,MD M2 k t->PMi N l (MD M) s k t)/\b<tot M2-tot M))
theorem FolI.start {N:List Tx}{l:List RItem}{M:MM}{b:Int}(hb:0<=b)(hn:∀x∈M,x.2.Nodup):FolI N l M b 0 M 0:=
 ⟨rfl,Aj6,.inl ⟨Aj6,fun k t=>Iff.rfl,hn⟩⟩
theorem Aex {N:List Tx}{l:List RItem}{np:Nat}{ar:Nat->Nat}(h:BkR N l np ar)(ho:∀x∈l,x.out=true->x.body=[])(hl:l.length<=16){M M1:MM}{b d1:Int}{s:Nat}(hI:FolI N l M b s M1 d1)(hS:MSh ar M1)(hp:∀k t,PMi N l (MD M) s k t->Sh ar k t):
  ∃D:Ct,Fol np ar ((Qd l s).map (A3 N)) D/\(∀k t,MD M1 k t->D k t)/\NgIn ((Qd l s).map (A3 N)) D M1/\(∀k t,D k t->Sh ar k t)/\
   ∀M' d',GroA D M1 M' d1 d'->(¬b<d'->ClG ((Qd l s).map (A3 N)) D (MD M'))->FolI N l M b (s+1) M' d':=by
 have hR:=Adn h s;have hA:=wP h ho hl s;obtain⟨e1,e2,h3⟩:=hI;rcases h3 with⟨a1,a2,a3⟩|⟨a1,M2,b1,b2,b3,b4,b5⟩
 ·have hF:=yS (B:=PMi N l (MD M) s) hR hp;refine⟨LstG ((Qd l s).map (A3 N)) (PMi N l (MD M) s),hF,fun k t g=>LstG.base ((a2 k t).1 g),Ab1 hA (fun k t g=>(a2 k t).2 g),fun k t g=>hF.sh k t g,fun M' d' hG hC=>?_⟩;have hc:=hG.cnt;have ab:∀k t,MD M' k t->PMi N l (MD M) (s+1) k t:=hG.inD (fun k t g=>LstG.base ((a2 k t).1 g));have aa:=hG.nodup a3;refine⟨hG.len.trans e1,Aj6,?_⟩;by_cases hb:b<d'
  ·exact .inr ⟨hb,M',hG.len.trans e1,aa,fun k t g=>hG.sub ((a2 k t).2 (PMi.up (Nat.zero_le s) g)),ab,Aj6⟩
  ·refine .inl ⟨hb,fun k t=>⟨ab k t,fun g=>?_⟩,aa⟩;exact tL hA (fun k t g=>hG.sub ((a2 k t).2 g)) (hC hb) g
 ·have hF:=yT (M:=M1) hR hA;refine⟨DX ar ((Qd l s).map (A3 N)) M1,hF,fun k t g=>⟨hS k t g,fun _=>g⟩,Ab2,fun k t g=>g.1,fun M' d' hG hC=>?_⟩;have hc:=hG.cnt;have ac:=(kZ M1 M' hG.len hG.lens).1;exact⟨hG.len.trans e1,Aj6,.inr ⟨Aj6,M2,b1,b2,b3,fun k t g=>LstG.base (b4 k t g),b5⟩⟩
theorem lW {N:List Tx}{l:List RItem}{np:Nat}{ar:Nat->Nat}(h:BkR N l np ar){B:Ct}(hB:∀k t,B k t->Sh ar k t):∀s k t,PMi N l B s k t->Sh ar k t
 |0,k,t,g=>hB k t g
 |s+1,k,t,g=>g.least (lW h hB s) (bI (Adn h s))
theorem Abj {l:List RItem}{s q:Nat}{y:RItem}(h:l[q]?=some y):(l.take (q+1)).filter (mT l s)=(l.take q).filter (mT l s)++if mT l s y=true then [y]else []:=by
 rw[Ahd,h,Ais,Dv]
theorem cM (N:List Tx)(l:List RItem)(cs:List AV)(idn idi:Nat)(np:Nat)(ar:Nat->Nat)(hB:Bk N l cs)(hR:BkR N l np ar)(om ot:Nat)(b:Int)(b3:0<=b)(ch:b<=1000)(M:MM)(hn:M.length=np)(hS:MSh ar M)(bw:∀x∈M,x.2.Nodup)(ht:tot M<=1000)(σ:St)(hM:MOb σ om ot M 0 b):
  ACalls Tryz.prog 50 [ptr om 0,Bn N idn l idi cs] σ fun r σ'=>∃M' d',MOb σ' om ot M' d' b/\KM om ot M M' σ σ'/\FolI N l M b (l.length+1) M' d':=by
 have cg:=EL.length Dd hB.el;have an:=hB.len;have ci:=hB.nm;have hE:=hB.el;have a3:=fun σ=>fC N l cs idn idi hB σ;have bc:∀p∈N,Bv N l l.length (N.idxOf p)=B6 l p:=fun p hp=>rO an hB.out hR.hN hR.kn hp;have bq:=lW hR (B:=MD M) hS;generalize Bv N l l.length=cc at a3 bc;have lo:=hM.lo;have lt:=hM.lt;unfold Bn at a3⊢;refine Z9 47 [] Tryz.func50 ?_
 repeat' (first|refine Z1 ?_|(refine Z8 ?_;intro yb ya)|(refine Z4 ?_;clear ya yb)|(refine Z5 ?_;refine Xi (a3 _) ?_;rintro _ _ ⟨o,rfl,oo,bu,ba,aw⟩;(have ak:=aw.nobj;have ad:=aw.obj;simp only[Aa]at ak ad bu))|refine Z3 ?_|exact Zt|(apply ya.out;clear ya yb))
 rename_i σ1;have aj:σ1.obj σ.nobj=[sl idn N.length (N.map str),sl idi l.length cs]:=by rw[ad _ Aj6,Ao]
 have a5:Keep σ σ1:=((Keep.refl σ).new _).trans aw
 refine Af (fun m s σ'=>∃(q:Nat) (M1:MM) (d1:Int),m=l.length+1-q/\q<=l.length+1/\s 0=ptr om 0/\s 3=ptr σ.nobj 0/\s 4=fx o 0 N.length/\s 5=ic q/\MOb σ' om ot M1 d1 b/\KM om ot M M1 σ σ'/\o<σ'.nobj/\σ'.obj σ.nobj=[sl idn N.length (N.map str),sl idi l.length cs]/\σ'.obj o=Fu N.length cc/\0<=d1/\d1<=1000000/\Akc (FolI N l M b q M1 d1/\MSh ar M1)) (l.length+1)
  ⟨0,M,0,Aj6,Aj6,by simp[upd,initS],Aj8,Aj8,Aj8,hM.keep a5,KM.ofKeep a5,ba,aj,oo,Aj6,Aj6,FolI.start b3 bw,hS⟩ ?_
 clear a5 aw ad ak aj oo ba;rintro m s σ' ⟨q,M1,d1,rfl,hq,h0,h3,h4,h5,av,ah,br,aj,oo,cf,b2,hI⟩;have b9:=ah.nobj;have lo1:=av.lo;have lt1:=av.lt;by_cases cb:q<=l.length
 ·have ca:(q:Int)<=16:=Aj6
  repeat' (first|refine Z1 ?_|(refine Z8 ?_;intro yb ya)|(refine Z4 ?_;clear ya yb)|(refine Z2 ?_ ?_<;>intro h aa<;>try exact Xp)|refine Z3 ?_|exact Zt|(apply ya.out;clear ya yb))
  refine Af (fun m s σ2=>∃(j i6:Nat) (L:List RItem) (ys:List AV),m=l.length-j/\j<=l.length/\s 0=ptr om 0/\s 3=ptr σ.nobj 0/\s 4=fx o 0 N.length/\s 5=ic q/\s 6=sl i6 L.length ys/\s 20=sl idi l.length cs/\s 21=ic l.length/\s 22=ic j/\Keep σ' σ2/\Own σ' σ2 i6 L.length/\ys.length=L.length*4/\L.length<=j/\Akc (L=(l.take j).filter (mT l q)/\EL aW (L.map (A3 N)) ys)) l.length
   ⟨0,1,[],[],Aj6,Aj6,Aj7,Aj7,Aj7,Aj7,Aj8,Aj7,Aj7,Aj8,Keep.refl _,Own.nil _ _,rfl,by simp,by simp,rfl⟩ ?_
  clear h0 h3 h4 h5;rintro m s σ2 ⟨j,i6,L,ys,rfl,hj,h0,h3,h4,h5,h6,co,cn,cm,hK,hO,bo,cj,hL⟩;have bn:=hK.nobj;have oo2:σ2.obj o=Fu N.length cc:=by rw[hK.obj _ br,oo]
  by_cases ay:j<l.length
  ·have ab:=Agz ay;obtain⟨au,jh,jd,jb,r2,bb,b1⟩:=Em hE ab;generalize l[j]=y at ab bb b1 au;have ai:Akc _:=Abj (s:=q) ab;have ap:=Aan (PI.of (ih:=jh) (id:=jd) au bb);have b0:=Ajj.2 au;have a0:=Ft cc b0;rw[bc _ au]at a0;clear ab;cases hout:y.out with
   |true=>
    have HN:Akc (L=(l.take (j+1)).filter (mT l q)/\EL aW (L.map (A3 N)) ys):=⟨by rw[ai.out,if_neg (by simp[mT,hout]),Ahh];exact hL.out.1,hL.out.2⟩;clear ai ap
    repeat' (first|refine Z1 ?_|(refine Z8 ?_;intro yb ya)|(refine Z4 ?_;clear ya yb)|(refine Z2 ?_ ?_<;>intro h aa<;>try exact Xp)|refine Z3 ?_|exact Zt|(apply ya.out;clear ya yb))
    refine⟨l.length-(j+1),Aj6,j+1,i6,L,ys,?_⟩
    ((repeat' refine Zi ?_ ?_)<;>first|exact Xq|exact HN|exact ((hK.new _).put hK.nobj _)|exact (Own.put (Own.new hO _) _ _)|exact Xs)
   |false=>
    rw[hout]at ap;by_cases am:B6 l y.head.pred=q
    ·have HN:Akc (L++[y]=(l.take (j+1)).filter (mT l q)/\EL aW ((L++[y]).map (A3 N)) (ys++[sc (.bool false),sc (.int .i64 (N.idxOf y.head.pred:Nat)),sl jh y.head.terms.length (Au y.head.terms),sl jd y.body.length jb])):=⟨by rw[ai.out,if_pos (by simp[mT,hout,am]),hL.out.1],by rw[Ahf];exact EL.append hL.out.2 (EL.single ap)⟩;rw[am]at a0;clear ai ap am
     repeat' (first|refine Z1 ?_|(refine Z8 ?_;intro yb ya)|(refine Z4 ?_;clear ya yb)|(refine Z2 ?_ ?_<;>intro h aa<;>try exact Xp)|refine Z3 ?_|exact Zt)
     refine Bg (by first|exact Ki) ((hK.new _).put hK.nobj _) (Own.put (Own.new hO _) _ _) (by decide) (by rfl) (bo) (by rfl) (by rfl) (by decide) Aj6 Aj6 ?_;intro idx σn b4 ck b7 bl b6 bi;refine Z3 ?_
     repeat' (first|refine Z1 ?_|(refine Z8 ?_;intro yb ya)|(refine Z4 ?_;clear ya yb)|refine Z3 ?_|exact Zt|(apply ya.out;clear ya yb))
     refine⟨l.length-(j+1),Aj6,j+1,idx,L++[y],ys++[sc (.bool false),sc (.int .i64 (N.idxOf y.head.pred:Nat)),sl jh y.head.terms.length (Au y.head.terms),sl jd y.body.length jb],?_⟩
     ((repeat' refine Zi ?_ ?_)<;>first|exact Xq|exact HN|exact (by rw[Aho];exact b4)|exact Xs)
    ·have HN:Akc (L=(l.take (j+1)).filter (mT l q)/\EL aW (L.map (A3 N)) ys):=⟨by rw[ai.out,if_neg (by simp[mT,hout,am]),Ahh];exact hL.out.1,hL.out.2⟩;have bv:((B6 l y.head.pred:Int)==(q:Int))=false:=by simp;omega
     generalize B6 l y.head.pred=sy at a0 bv;clear ai ap am
     repeat' (first|refine Z1 ?_|(refine Z8 ?_;intro yb ya)|(refine Z4 ?_;clear ya yb)|(refine Z2 ?_ ?_<;>intro h aa<;>try exact Xp)|refine Z3 ?_|exact Zt|(apply ya.out;clear ya yb))
     refine⟨l.length-(j+1),Aj6,j+1,i6,L,ys,?_⟩
     ((repeat' refine Zi ?_ ?_)<;>first|exact Xq|exact HN|exact ((hK.new _).put hK.nobj _)|exact (Own.put (Own.new hO _) _ _)|exact Xs)
  ·have bz:j=l.length:=Aj6;subst bz;obtain⟨a4,bf⟩:=hL.out;rw[Ag7]at a4;obtain⟨D,hF,az,ax,a8,ae⟩:=Aex hR hB.out an hI.out.1 hI.out.2 (bq q);have be:L=Qd l q:=a4;rw[<-be]at hF ax ae;have ao:M1.length=np:=by have:=hI.out.1.1;rw[this];exact hn
   have a9:Room M1 d1 b:=Abn (GroA.refl D M1 d1) (by have:=hI.out.1.2.1;omega);have bh:=fun σ (h:MOb σ om ot M1 d1 b)=>Jj hF om ot b Aj6 Aj6 M1 d1 ao az ax a9 Aj6 b2 ys i6 bf (by rw[Ai1];omega) σ h;rw[Ai1]at bh;have a7:Akc (∀M' d',GroA D M1 M' d1 d'->(¬b<d'->ClG (L.map (A3 N)) D (MD M'))->FolI N l M b (q+1) M' d'/\MSh ar M'):=fun M' d' g1 g2=>⟨ae M' d' g1 g2,fun k t g=>a8 k t (g1.inD az k t g)⟩;clear hF ax ae be a4 bf hL az a8 a9 ao
   repeat' (first|refine Z1 ?_|(refine Z8 ?_;intro yb ya)|(refine Z4 ?_;clear ya yb)|(refine Z2 ?_ ?_<;>intro h aa<;>try exact Xp)|(refine Z5 ?_;refine Xi (bh _ (av.keep (Xs))) ?_;rintro _ _ ⟨M',d',b5,af,bg,ce,cd,bd⟩;(have b8:Akc _:=a7.out M' d' bg bd;clear bg bd;have bm:=af.nobj;have ac:=af.obj;have a6:=(ah.trans (KM.ofKeep hK)).trans af))|refine Z3 ?_|exact Zt|(apply ya.out;clear ya yb))
   rename_i σ7;refine⟨l.length+1-(q+1),Aj6,q+1,M',d',?_⟩;have e1:σ7.obj σ.nobj=[sl idn N.length (N.map str),sl idi l.length cs]:=by rw[ac _ Aj6 Aj6 Aj6,hK.obj _ Aj6,aj]
   have e2:σ7.obj o=Fu N.length cc:=by rw[ac _ Aj6 Aj6 Aj6,hK.obj _ Aj6,oo]
   clear ac
   ((repeat' refine Zi ?_ ?_)<;>first|exact Xq|exact b5|exact a6|exact b8|exact e1|exact e2|exact (by rw[hK.obj _ Aj6,aj])|exact Xs)
 ·have bp:q=l.length+1:=Aj6;subst bp
  repeat' (first|refine Z1 ?_|(refine Z8 ?_;intro yb ya)|(refine Z4 ?_;clear ya yb)|(refine Z2 ?_ ?_<;>intro h aa<;>try exact Xp)|refine Z3 ?_|exact Zt|(apply ya.out;clear ya yb))
  exact⟨_,rfl,M1,d1,av,ah,hI.out.1⟩
end Go.Proofs.YtmoeoppbmhfbpabGreatDoorL
