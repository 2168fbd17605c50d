import Derived.Test.YtmoeoppbmhfbpabGreatDoorJEngZ
import Derived.Test.YtmoeoppbmhfbpabGreatDoorJProgK
set_option maxHeartbeats 32000000
set_option maxRecDepth 100000
set_option linter.all false
namespace Go.Proofs.YtmoeoppbmhfbpabGreatDoorJ
open Go.Abs
theorem eV:∀(M M':MM),M'.length=M.length->(∀k:Nat,(Au M k).length<=(Au M' k).length)->(tot M<=tot M'/\(tot M'<=tot M->∀k:Nat,(Au M' k).length=(Au M k).length))
 |[],M',hl,h=>by
  have:M'=[]:=Abq (by simpa using hl);subst this;exact⟨Adf _,fun _ k=>rfl⟩
 |x::M,[],hl,h=>by simp at hl
 |x::M,y::M',hl,h=>by
  obtain⟨h1,h2⟩:=eV M M' (by simpa using hl) (fun k=>by have:=h (k+1);simpa[Au]using this);have h0:=h 0;simp[Au]at h0;rw[Dj,Dj];refine⟨Ad6,fun aa k=>?_⟩;cases k with
  |zero=>simp[Au];omega
  |succ k=>
   have:=h2 Ad6 k;simpa[Au]using this
theorem GroA.lens {D:Cj}{M M':MM}{d d':Int}(h:GroA D M M' d d')(k:Nat):(Au M k).length<=(Au M' k).length:=by
 obtain⟨n,e,-,-⟩:=h.ext k;rw[e];simp
theorem GroA.same {D:Cj}{M M':MM}{d d':Int}(h:GroA D M M' d d')(ht:tot M'<=tot M)(k:Nat):Au M' k=Au M k:=by
 have hl:=(eV M M' h.len h.lens).2 ht k;obtain⟨n,e,-,-⟩:=h.ext k;rw[e]at hl⊢;have:n=[]:=by simpa using hl
 rw[this,Abz]
theorem To {σ:St}{om ot:Nat}{M:MM}{d b:Int}(hM:MOb σ om ot M d b):∀n∈G4 M,0<=n/\n<=5000:=fun n hn=>by
 obtain⟨x,hx,rfl⟩:=Acs.1 hn;have:=hM.ln x hx;omega
theorem Kx (M:MM):(G4 M).length=M.length:=by simp[G4]
theorem sF {M:MM}{k:Nat}(hk:k<M.length):((G4 M)[k]?).getD 0=((Au M (k:Int)).length:Int):=by
 have hg:M[k]?=some M[k]:=List.getElem?_eq_getElem hk;rw[Bw hg];simp[G4,hk]
def zJ (D:Cj)(R:List Dq)(MS M1:MM):Prop:=∀r∈R,∀ν,(∀l∈r.body,LitH D (MD MS) ν l)->MD M1 r.head.p.toNat (Bg r.head ν)
theorem S0 {N D:Cj}{ν:Nu}{l:Lit}(hn:l.neg=false)(h:LitH N D ν l):D l.a.p.toNat (Bg l.a ν):=by
 unfold LitH at h;rw[hn]at h;simpa using h
theorem cH {N D:Cj}{ν:Nu}{l:Lit}(hn:l.neg=true)(h:LitH N D ν l):¬N l.a.p.toNat (Bg l.a ν):=by
 unfold LitH at h;rw[hn]at h;simpa using h
theorem vW {np:Nat}{ar:Nat->Nat}{R:List Dq}{D:Cj}{MS M1 M2:MM}{ds d1 d2:Int}(hF:wL np ar R D)(hn:MS.length=np)(hS:GroA D MS M1 ds d1)(hB:zJ D R MS M1)(h2:GroA D M1 M2 d1 d2)(hN:∀r∈R,NewR D M1 M2 (G4 MS) r r.body.length):zJ D R M1 M2:=fun r hr ν h=>by
 by_cases ac:∀l∈r.body,LitH D (MD MS) ν l
 ·exact h2.sub (hB r hr ν ac)
 ·obtain⟨l,hl⟩:∃l,¬(l∈r.body->LitH D (MD MS) ν l):=Classical.not_forall.1 ac;have ad:l∈r.body:=Classical.byContradiction fun hh=>hl (fun h'=>absurd h' hh);have ae:¬LitH D (MD MS) ν l:=fun hh=>hl (fun _=>hh);have ab:l.neg=false:=by
   cases hc:l.neg with
   |false=>rfl
   |true=>
    exfalso;have:=cH hc (h l ad);exact ae (by unfold LitH;rw[hc];simpa using this)
  have aa:¬MD MS l.a.p.toNat (Bg l.a ν):=fun hh=>ae (by unfold LitH;rw[ab];simpa using hh);obtain⟨i,hi⟩:=List.getElem?_of_mem ad;have af:=(List.getElem?_eq_some_iff.1 hi).1;obtain⟨k,hk,ah⟩:=(hF.rw r hr).rok.bp l ad;refine hN r hr i l af hi ab ν h ?_;obtain⟨nw,e,-,-⟩:=hS.ext k;have hm:=S0 ab (h l ad);unfold MD at hm aa;rw[hk]at hm aa⊢;rw[Adu]at hm aa;rw[Adu,sF Ad6,Adu];rw[e]at hm⊢;rw[List.drop_left];rcases Aco.1 hm with h'|h'
  ·exact absurd h' aa
  ·exact h'
theorem Tv {R:List Dq}{D:Cj}{MS M1:MM}{np:Nat}{ar:Nat->Nat}{ds d1:Int}(hF:wL np ar R D)(hS:GroA D MS M1 ds d1)(hB:zJ D R MS M1)(ht:tot M1<=tot MS):Ui R D (MD M1):=fun r hr ν h=>hB r hr ν (fun l hl=>by
 have:=h l hl;unfold LitH at this⊢;split
 ·rename_i hc;rw[if_pos hc]at this;exact this
 ·rename_i hc;rw[if_neg hc]at this;obtain⟨k,hk,-⟩:=(hF.rw r hr).rok.bp l hl;unfold MD at this⊢;rw[hk]at this⊢;rw[Adu]at this⊢;rw[hS.same ht k]at this
  exact this)
theorem Ns {np:Nat}{ar:Nat->Nat}{R:List Dq}{D:Cj}(hF:wL np ar R D)(om ot:Nat)(b:Int)(br: -1000000<=b)(bq:b<=900000)(M:MM)(d:Int)(hn:M.length=np)(hD:∀k t,MD M k t->D k t)(bv:NgIn R D M)(b7:Room M d b)(co: -1000000<=d)(b5:d<=1000000)(rc:List AV)(idr:Nat)(a7:EL tQ R rc)(b8:R.length<=1000)(σ:St)(hM:MOb σ om ot M d b):
  ACalls Tryz.prog 84 [ptr om 0,sl idr R.length rc] σ fun x σ'=>∃M' d',MOb σ' om ot M' d' b/\KM om ot M M' σ σ'/\GroA D M M' d d'/\d<=d'/\d'<=1000000/\(¬b<d'->Ui R D (MD M')):=by
 have cm:=EL.length Y2 a7;have hpl:=hM.pl;have bl:=fun (M:MM) (d:Int) σ (h:MOb σ om ot M d b)=>Yo om ot M d b σ h;have b1:=bl M d;have a4:Aec (M.length=np):=hn;have cn:M.length<=np/\np<=M.length:=Ad6;clear hn;refine Z9 43 [] Tryz.func84 ?_
 repeat' (first|refine Z1 ?_|(refine Z8 ?_;intro κ hκ)|(refine Z4 ?_;clear hκ κ)|(refine Z2 ?_ ?_<;>intro h af<;>try exact Xp)|(refine Z5 ?_;refine Xi (b1 _ (hM.keep (Xs))) ?_;rintro _ _ ⟨⟨id0,rfl⟩,bi⟩)|refine Z3 ?_|exact⟨⟩|(apply hκ.out;clear hκ κ))
 rename_i σ0
 refine Ad (fun m s σ'=>∃(k:Nat) (M1:MM) (d1:Int),m=R.length-k/\k<=R.length/\s 0=ptr om 0/\s 1=sl idr R.length rc/\s 4=sl id0 M.length (icells (G4 M))/\s 11=sl idr R.length rc/\s 12=ic R.length/\s 13=ic k/\MOb σ' om ot M1 d1 b/\KM om ot M M1 σ σ'/\d1<=1000000/\d<=d1/\Aec (GroA D M M1 d d1/\Room M1 d1 b/\(¬b<d1->zJ D (R.take k) M M1))) R.length
  ⟨0,M,d,Ad6,Ad6,by simp[upd,initS],by simp[upd,initS],Ad8,by simp[upd,initS],Ad8,rfl,hM.keep bi,KM.ofKeep bi,b5,Ad6,GroA.refl _ _ _,b7,fun _ r hr=>by simp at hr⟩ ?_
 clear bi b1;rintro m s σ' ⟨k,M1,d1,rfl,hk,h0,h1,h4,ci,ch,cg,aa,ac,ab,ad,hG⟩;by_cases a8:k<R.length
 ·have ai:=List.getElem?_eq_getElem a8;obtain⟨o,ih,ib,bc,rr,hd,hB⟩:=lM a7 ai;have ah:=Ac2 a8;generalize R[k]=r at hd ai ah hB;have cj:Aec (R.take (k+1)=R.take k++[r]):=by rw[Aec,Abv,ai,Ac5]
  clear ai;have ak:M1.length=np:=by have:=hG.out.1.len;rw[this];exact a4.out
  have cf:=fun σ (h:MOb σ om ot M1 d1 b)=>Wr om ot M1 d1 b r [sc (.bool o),ic r.head.p,sl ih r.head.ts.length (Ac r.head.ts),sl ib r.body.length bc] (-1) 0 ⟨o,ih,ib,bc,rfl,hB⟩ (by rw[ak];exact (hF.rw r ah).rok) Ad6 σ h;have cb:Aec (∀c3,EQ (Jy M1 (-1) 0 r) c3->∀σ,MOb σ om ot M1 d1 b->ACalls Tryz.prog 139 [ptr om 0,ag c3] σ fun x σ'=>∃M' d',MOb σ' om ot M' d' b/\KM om ot M1 M' σ σ'/\GroA D M1 M' d1 d'/\Room M' d' b/\d'<=1000000/\d1<=d'/\(¬b<d'->∀ν,(∀(l:Lit) (i:Nat),r.body[i]?=some l->l.neg=false->Bg l.a ν∈T7 M1 (-1) 0 i l)->(∀l∈r.body,l.neg=true->¬D l.a.p.toNat (Bg l.a ν))->MD M' r.head.p.toNat (Bg r.head ν))):=fun c3 h3 σ hh=>
   T6 hF om ot b br bq M1 d1 ak (hG.out.1.inD hD) (bv.gro hG.out.1) hG.out.2.1 Ad6 ab r ah (-1) 0 c3 h3 σ hh
  clear ak;have l1:=aa.lo;have l2:=aa.lt
  repeat' (first|refine Z1 ?_|(refine Z8 ?_;intro κ hκ)|(refine Z4 ?_;clear hκ κ)|(refine Z2 ?_ ?_<;>intro h af<;>try exact Xp)|(refine Z5 ?_;first|(refine Xi (cf _ (aa.keep (Xs))) ?_;rintro _ _ ⟨⟨_,rfl,ih3,ip3,in3,pc3,nc3,rfl,b9,ca⟩,bg⟩;(have a6:=bg.nobj;have a5:=bg.obj;simp only[Ab,Aa]at a6 a5;have aw:=(((Keep.refl σ').new _).put (Abf _) _).trans bg;have cd:=cb.out _ ⟨ih3,ip3,in3,pc3,nc3,rfl,b9,ca⟩))|(refine Xi (cd _ (aa.keep (Xs))) ?_;rintro _ _ ⟨M3,d3,a3,an,ax,bd,bb,ba,ae⟩;(have ap:Aec _:=ax;have ao:Aec _:=ae;clear ax ae;have am:=(ac.trans (KM.ofKeep ((aw.new _).put Ad6 _))).trans an)))|refine Z3 ?_|exact⟨⟩|(apply hκ.out;clear hκ κ))
  have HN:Aec (GroA D M M3 d d3/\Room M3 d3 b/\(¬b<d3->zJ D (R.take (k+1)) M M3)):=by
   refine⟨hG.out.1.trans ap.out,bd,fun aj r' bn ν a1=>?_⟩;rw[cj.out]at bn;rcases Aco.1 bn with h'|h'
   ·exact ap.out.sub (hG.out.2.2 Ad6 r' h' ν a1)
   ·simp at h';subst h';refine ao.out aj ν (fun l i hl a9=>?_) (fun l hl a9=>cH a9 (a1 l hl));have bo:=Abm hl;obtain⟨p',b2,-⟩:=(hF.rw r' ah).rok.bp l bo;unfold T7;rw[if_neg Ad6];have:=S0 a9 (a1 l bo);unfold MD at this;rw[b2]at this⊢;exact hG.out.1.sub this
  refine⟨R.length-(k+1),Ad6,k+1,M3,d3,?_⟩
  ((repeat' with_reducible refine And.intro ?_ ?_)<;>first|exact Xq|exact (HN)|exact (a3)|exact (am)|exact Xs)
 ·have b3:k=R.length:=Ad6;subst b3;rw[Abt]at hG;have b0:=bl M1 d1
  repeat' (first|refine Z1 ?_|(refine Z8 ?_;intro κ hκ)|(refine Z4 ?_;clear hκ κ)|(refine Z2 ?_ ?_<;>intro h af<;>try exact Xp)|(refine Z5 ?_;refine Xi (b0 _ (aa.keep (Xs))) ?_;rintro _ _ ⟨⟨id1,rfl⟩,bh⟩)|refine Z3 ?_|exact⟨⟩|(apply hκ.out;clear hκ κ))
  rename_i σ1
  refine Ad (fun m s σ'=>∃(MS M1:MM) (ds d1:Int) (ia ib:Nat),m=2*(b-d1+1).toNat+(if tot MS<tot M1 then 1 else 0)/\s 0=ptr om 0/\s 1=sl idr R.length rc/\s 4=sl ia MS.length (icells (G4 MS))/\s 8=sl ib M1.length (icells (G4 M1))/\MOb σ' om ot M1 d1 b/\KM om ot M M1 σ σ'/\d1<=1000000/\d<=d1/\MS.length<=5000/\(∀n∈G4 MS,0<=n/\n<=5000)/\Aec (MS.length=np/\GroA D M M1 d d1/\GroA D MS M1 ds d1/\Room M1 d1 b/\(¬b<d1->zJ D R MS M1))) (2*(b-d1+1).toNat+(if tot M<tot M1 then 1 else 0))
   ⟨M,M1,d,d1,id0,id1,rfl,Ad7,Ad7,Ad7,Ad8,aa.keep bh,ac.trans (KM.ofKeep bh),ab,ad,hpl,To hM,a4.out,hG.out.1,hG.out.1,hG.out.2.1,hG.out.2.2⟩ ?_
  clear h0 h1 h4 ci ch cg aa ac ab ad hG bh b0 a8 hk;rintro m s σ2 ⟨MS,M1,ds,d1,ia,ib,rfl,h0,h1,h4,h8,aa,ac,ab,ad,cp,bu,hG⟩;have av:=L9 om ot M1 d1 b;have az:=fun (id:Nat) σ=>Ps (G4 M1) id (by rw[Kx];have:=aa.pl;omega) (fun n hn=>by have:=To aa n hn;omega) σ;have a0:=fun (id:Nat) σ=>Ps (G4 MS) id (by rw[Kx];omega) (fun n hn=>by have:=bu n hn;omega) σ;rw[show (G4 M1).sum=tot M1 from rfl]at az;rw[show (G4 MS).sum=tot MS from rfl]at a0;rw[Kx]at az a0;by_cases ay:b<d1
  ·rw[show decide (b<d1)=true from by simpa using ay]at av
   repeat' (first|refine Z1 ?_|(refine Z8 ?_;intro κ hκ)|(refine Z4 ?_;clear hκ κ)|(refine Z2 ?_ ?_<;>intro h af<;>try exact Xp)|(refine Z5 ?_;refine Xi (av _ (aa.keep (Xs))) ?_;rintro _ _ ⟨rfl,rfl⟩)|refine Z3 ?_|exact⟨⟩|(apply hκ.out;clear hκ κ))
   first|exact⟨_,rfl,M1,d1,aa,ac,hG.out.2.1,ad,ab,fun h=>absurd ay h⟩|exact⟨M1,d1,aa,ac,hG.out.2.1,ad,ab,fun h=>absurd ay h⟩
  ·rw[show decide (b<d1)=false from by simpa using ay]at av;by_cases bm:tot MS<tot M1
   ·have b4:decide (tot M1>tot MS)=true:=by simpa using bm
    have bz:=fun σ (h:MOb σ om ot M1 d1 b)=>Qi hF om ot b br bq M1 d1 (hG.out.2.1.len.trans a4.out) (hG.out.2.1.inD hD) (bv.gro hG.out.2.1) hG.out.2.2.2.1 Ad6 ab rc idr a7 b8 (G4 MS) ia (by rw[Kx];exact hG.out.1) bu σ h;rw[Kx]at bz;rw[if_pos bm]
    repeat' (first|refine Z1 ?_|(refine Z8 ?_;intro κ hκ)|(refine Z4 ?_;clear hκ κ)|(refine Z2 ?_ ?_<;>intro h af<;>try exact Xp)|(refine Z5 ?_;first|(refine Xi (av _ (aa.keep (Xs))) ?_;rintro _ _ ⟨rfl,rfl⟩)|(refine Xi (az _ _) ?_;rintro _ _ ⟨rfl,bf⟩;(have aw:=bf))|(refine Xi (a0 _ _) ?_;rintro _ _ ⟨rfl,be⟩;(have au:=aw.trans be))|(refine Xi (bz _ (aa.keep (Xs))) ?_;rintro _ _ ⟨M3,d3,a3,an,ax,bd,bb,ba,ae⟩;(have ap:Aec _:=ax;have ao:Aec _:=ae;clear ax ae;have am:=(ac.trans (KM.ofKeep au)).trans an;have ce:=bl M3 d3))|(refine Xi (ce _ (a3.keep (Xs))) ?_;rintro _ _ ⟨⟨ic3,rfl⟩,bw⟩))|refine Z3 ?_|exact⟨⟩|(apply hκ.out;clear hκ κ))
    have b6:=ap.out.cnt;refine⟨2*(b-d3+1).toNat+(if tot M1<tot M3 then 1 else 0),by split<;>omega,M1,M3,d1,d3,ib,ic3,?_⟩
    have HN:Aec (M1.length=np/\GroA D M M3 d d3/\GroA D M1 M3 d1 d3/\Room M3 d3 b/\(¬b<d3->zJ D R M1 M3)):=
     ⟨hG.out.2.1.len.trans a4.out,hG.out.2.1.trans ap.out,ap.out,bd,fun aj=>vW hF hG.out.1 hG.out.2.2.1 (hG.out.2.2.2.2 Ad6) ap.out (ao.out aj)⟩
    ((repeat' with_reducible refine And.intro ?_ ?_)<;>first|exact Xq|exact (HN)|exact (a3.keep bw)|exact (am.trans (KM.ofKeep bw))|exact (aa.pl)|exact (To aa)|exact Xs)
   ·have b4:decide (tot M1>tot MS)=false:=by simp;omega
    repeat' (first|refine Z1 ?_|(refine Z8 ?_;intro κ hκ)|(refine Z4 ?_;clear hκ κ)|(refine Z2 ?_ ?_<;>intro h af<;>try exact Xp)|(refine Z5 ?_;first|(refine Xi (av _ (aa.keep (Xs))) ?_;rintro _ _ ⟨rfl,rfl⟩)|(refine Xi (az _ _) ?_;rintro _ _ ⟨rfl,bf⟩;(have aw:=bf))|(refine Xi (a0 _ _) ?_;rintro _ _ ⟨rfl,be⟩;(have au:=aw.trans be)))|refine Z3 ?_|exact⟨⟩|(apply hκ.out;clear hκ κ))
    first|exact⟨_,rfl,M1,d1,aa.keep au,ac.trans (KM.ofKeep au),hG.out.2.1,ad,ab,fun aj=>Tv hF hG.out.2.2.1 (hG.out.2.2.2.2 aj) Ad6⟩|exact⟨M1,d1,aa.keep au,ac.trans (KM.ofKeep au),hG.out.2.1,ad,ab,fun aj=>Tv hF hG.out.2.2.1 (hG.out.2.2.2.2 aj) Ad6⟩
theorem tV {ar:Nat->Nat}{a:C6}{ν:Nu}{k:Nat}(h3:a.ts.length<=3)(har:a.ts.length=ar k)(h:Sh ar k (Bg a ν)):∀t∈a.ts,∃n:Nat,Iq ν t=(n:Int)/\n<1026:=by
 obtain⟨l,e,hl,hx⟩:=h;intro t ht;obtain⟨i,hi⟩:=List.getElem?_of_mem ht;have ab:=(List.getElem?_eq_some_iff.1 hi).1;have h2:(a.ts.map (Iq ν))[i]?=some (Iq ν t):=by rw[List.getElem?_map,hi];rfl
 have aa:i<l.length:=Ad6;have h4:l[i]?=some l[i]:=List.getElem?_eq_getElem aa;have h5:Iq ν t=l[i]:=by
  unfold Bg Es at e;simp only[List.cons.injEq,and_true]at e;obtain⟨e0,e1,e2⟩:=e;have:i=0\/i=1\/i=2:=Ad6;rcases this with rfl|rfl|rfl
  ·rw[h2,h4]at e0;exact e0
  ·rw[h2,h4]at e1;exact e1
  ·rw[h2,h4]at e2;exact e2
 rw[h5];exact hx _ (Ac2 aa)
theorem fD {np:Nat}{ar:Nat->Nat}{R:List Dq}{N:Cj}(h:∀r∈R,RW np ar r):Ui R N (Sh ar):=fun r hr ν hb=>by
 have hw:=h r hr;refine⟨r.head.ts.map (Iq ν),rfl,by rw[Adc];exact hw.har,fun x hx=>?_⟩;obtain⟨t,ht,rfl⟩:=Acs.1 hx;obtain⟨tv,tn⟩:=t;cases tv with
 |false=>exact hw.hc _ ht rfl
 |true=>
  obtain⟨l,hl,hn,hv⟩:=hw.safe tn (.inl (by rw[hasV_iff];exact ht));exact tV (hw.rok.ba l hl) (hw.bar l hl) (S0 hn (hb l hl)) _ (hasV_iff.1 hv)
def LstG (R:List Dq)(B:Cj):Cj:=fun k t=>∀D:Cj,(∀k t,B k t->D k t)->Ui R B D->D k t
theorem LstG.base {R:List Dq}{B:Cj}{k:Nat}{t:Bc}(h:B k t):LstG R B k t:=fun D hB _=>hB k t h
theorem LitH.mono {N D D':Cj}{ν:Nu}{l:Lit}(h:LitH N D ν l)(hD:∀k t,D k t->D' k t):LitH N D' ν l:=by
 unfold LitH at h⊢;split
 ·rename_i hc;rw[if_pos hc]at h;exact h
 ·rename_i hc;rw[if_neg hc]at h;exact hD _ _ h
theorem LitH.anti {N N' D:Cj}{ν:Nu}{l:Lit}(h:LitH N D ν l)(hN:l.neg=true->N' l.a.p.toNat (Bg l.a ν)->N l.a.p.toNat (Bg l.a ν)):LitH N' D ν l:=by
 unfold LitH at h⊢;split
 ·rename_i hc;rw[if_pos hc]at h;exact fun g=>h (hN hc g)
 ·rename_i hc;rw[if_neg hc]at h;exact h
theorem LstG.cl (R:List Dq)(B:Cj):Ui R B (LstG R B):=fun r hr ν h D hB hC=>hC r hr ν (fun l hl=>(h l hl).mono (fun k t g=>g D hB hC))
theorem LstG.nonhead {R:List Dq}{B:Cj}{k:Nat}{t:Bc}(hk:∀r∈R,r.head.p.toNat≠k)(h:LstG R B k t):B k t:=by
 have:=h (fun j u=>j=k->B j u) (fun j u g _=>g) (fun r hr ν _ e=>absurd e (hk r hr));exact this rfl
theorem LstG.least {R:List Dq}{B D:Cj}(hB:∀k t,B k t->D k t)(hC:Ui R B D){k:Nat}{t:Bc}(h:LstG R B k t):D k t:=h D hB hC
def Apart (R:List Dq):Prop:=∀r∈R,∀l∈r.body,l.neg=true->∀r'∈R,r'.head.p.toNat≠l.a.p.toNat
theorem rQ {np:Nat}{ar:Nat->Nat}{R:List Dq}{B:Cj}(hR:∀r∈R,RW np ar r)(hB:∀k t,B k t->Sh ar k t):wL np ar R (LstG R B):=
 ⟨hR,fun r hr ν h=>LstG.cl R B r hr ν (fun l hl=>(h l hl).anti (fun _ g=>LstG.base g)),fun k t h=>h.least hB (fD hR)⟩
theorem uX {R:List Dq}{B:Cj}{M:MM}(hA:Apart R)(hB:∀k t,B k t->MD M k t):NgIn R (LstG R B) M:=fun r hr l hl hn t ht=>hB _ _ (ht.nonhead (hA r hr l hl hn))
theorem nU {R:List Dq}{B:Cj}{M':MM}(hA:Apart R)(hB:∀k t,B k t->MD M' k t)(hC:Ui R (LstG R B) (MD M')){k:Nat}{t:Bc}(h:LstG R B k t):MD M' k t:=
 h.least hB (fun r hr ν g=>hC r hr ν (fun l hl=>(g l hl).anti (fun hn e=>e.nonhead (hA r hr l hl hn))))
def DX (ar:Nat->Nat)(R:List Dq)(M:MM):Cj:=fun k t=>Sh ar k t/\((∃r∈R,∃l∈r.body,l.neg=true/\l.a.p.toNat=k)->MD M k t)
theorem rR {np:Nat}{ar:Nat->Nat}{R:List Dq}{M:MM}(hR:∀r∈R,RW np ar r)(hA:Apart R):wL np ar R (DX ar R M):=
 ⟨hR,fun r hr ν h=>⟨fD (N:=DX ar R M) hR r hr ν (fun l hl=>(h l hl).mono (fun _ _ g=>g.1)),fun⟨r',aa,l',ac,ab,e⟩=>absurd e.symm (hA r' aa l' ac ab r hr)⟩,fun k t h=>h.1⟩
theorem uY {ar:Nat->Nat}{R:List Dq}{M:MM}:NgIn R (DX ar R M) M:=fun r hr l hl hn t ht=>ht.2 ⟨r,hr,l,hl,hn,rfl⟩
theorem uE {D:Cj}{M M':MM}{d d' b:Int}(h:GroA D M M' d d')(hb:tot M-d+b<=4000):Room M' d' b:=fun x hx=>by
 have h1:=h.cnt;obtain⟨k,hk⟩:=List.getElem?_of_mem hx;have:∀(M:MM) (k:Nat) (x:Nat×List Bc),M[k]?=some x->(x.2.length:Int)<=tot M:=by
  intro M;induction M with
  |nil=>intro k x h;simp at h
  |cons y M ih=>
   intro k x h;have hn:0<=tot M:=by
    clear ih h;induction M with
    |nil=>simp[tot,G4]
    |cons z M ih=>rw[Dj];omega
   rw[Dj];cases k with
   |zero=>simp at h;subst h;omega
   |succ k=>have:=ih k x (by simpa using h);omega
 have:=this M' k x hk;omega
def Aa6 (t:Tm):Tm:=if t.1=true then (false,1000+t.2)else t
def Aas (a:C6):C6:=⟨a.p,a.ts.map Aa6⟩
def Aba (n:Int)(l:Lit):Lit:=if l.neg=true then⟨false,⟨l.a.p+n,l.a.ts⟩⟩else l
def Aa9 (n:Int)(r:Dq):Dq:=⟨r.head,r.body.map (Aba n)⟩
structure MkM (np:Nat)(F:List C6)(M:MM):Prop where
 len:M.length=np
 nd:∀x∈M,x.2.Nodup
 mem:∀(k:Nat) (t:Bc),MD M k t↔∃a∈F,a.p=(k:Int)/\t=C7 a
 tot:tot M<=F.length
theorem Ze {M:MM}{k:Nat}{x:Nat×List Bc}(h:M[k]?=some x):Au M (k:Int)=x.2:=Bw h
theorem MkM.nil (np:Nat):MkM np [] (List.replicate np (1,[])):=by
 refine⟨by simp,fun x hx=>?_,fun k t=>⟨fun h=>?_,fun⟨a,ha,_⟩=>by simp at ha⟩,?_⟩
 ·rw[(Ad1.1 hx).2];exact Adb
 ·exfalso;unfold MD at h;by_cases hk:k<np
  ·rw[Ze (x:=(1,[])) (by rw[List.getElem?_replicate,if_pos hk])]at h;simp at h
  ·unfold Au at h;simp[hk]at h
 ·have:∀n:Nat,Go.Proofs.YtmoeoppbmhfbpabGreatDoorJ.tot (List.replicate n ((1:Nat),([]:List Bc)))=0:=by
   intro n;induction n with
   |zero=>rfl
   |succ n ih=>rw[List.replicate_succ,Dj,ih];rfl
  rw[this];simp
theorem MkM.has {np:Nat}{F:List C6}{M:MM}{a:C6}{k:Nat}{x:Nat×List Bc}(h:MkM np F M)(hk:a.p=(k:Int))(hx:M[k]?=some x)(hm:C7 a∈x.2):MkM np (F++[a]) M:=by
 refine⟨h.len,h.nd,fun j t=>?_,by have:=h.tot;simp;omega⟩;rw[h.mem j t];constructor
 ·rintro⟨b,hb,h1,h2⟩;exact⟨b,List.mem_append_left _ hb,h1,h2⟩
 ·rintro⟨b,hb,h1,h2⟩;rcases Aco.1 hb with h'|h'
  ·exact⟨b,h',h1,h2⟩
  ·rw[Ac6]at h';subst h';have aa:j=k:=Ad6;subst aa;refine (h.mem j t).1 ?_;unfold MD;rw[Bw hx,h2];exact hm
theorem MkM.add {np:Nat}{F:List C6}{M:MM}{a:C6}{k id':Nat}{x:Nat×List Bc}(h:MkM np F M)(hk:a.p=(k:Int))(hx:M[k]?=some x)(hm:C7 a∉x.2):MkM np (F++[a]) (M.set k (id',x.2++[C7 a])):=by
 have ac:k<M.length:=(List.getElem?_eq_some_iff.1 hx).1;have ab:Au (M.set k (id',x.2++[C7 a])) (k:Int)=x.2++[C7 a]:=Bw (x:=(id',x.2++[C7 a])) (by rw[List.getElem?_set,if_pos rfl,if_pos ac]);have aa:∀j:Nat,j≠k->(M.set k (id',x.2++[C7 a]))[j]?=M[j]?:=fun j hj=>by rw[List.getElem?_set,if_neg (fun e=>hj e.symm)]
 refine⟨by simp[h.len],fun y hy=>?_,fun j t=>?_,?_⟩
 ·rcases Adt hy with h'|rfl
  ·exact h.nd y h'
  ·rw[Adk];exact⟨h.nd x (Abm hx),by simp,fun u hu v hv e=>hm (by rw[Ac6]at hv;rw[<-hv,<-e];exact hu)⟩
 ·by_cases hj:j=k
  ·subst hj;unfold MD;rw[ab,Aco,Ac6];have hM:=h.mem j t;unfold MD at hM;rw[Bw hx]at hM;rw[hM];constructor
   ·rintro (⟨b,hb,h1,h2⟩|h')
    ·exact⟨b,List.mem_append_left _ hb,h1,h2⟩
    ·exact⟨a,by simp,hk,h'⟩
   ·rintro⟨b,hb,h1,h2⟩;rcases Aco.1 hb with h'|h'
    ·exact .inl ⟨b,h',h1,h2⟩
    ·rw[Ac6]at h';subst h';exact .inr h2
  ·have hM:=h.mem j t;unfold MD Au at hM⊢;rw[Adu]at hM⊢;rw[aa j hj,hM];constructor
   ·rintro⟨b,hb,h1,h2⟩;exact⟨b,List.mem_append_left _ hb,h1,h2⟩
   ·rintro⟨b,hb,h1,h2⟩;rcases Aco.1 hb with h'|h'
    ·exact⟨b,h',h1,h2⟩
    ·rw[Ac6]at h';subst h';omega
 ·have:=Mp M (M.set k (id',x.2++[C7 a])) k 1 (by simp) (fun j hj=>by rw[aa j hj]) (fun _=>by rw[ab,Bw hx];simp) (fun h'=>Ad6);have h2:=h.tot;simp;omega
structure MPt (σ:St)(ot:Nat)(M:MM):Prop where
 oc:σ.obj ot=En M
 lt:ot<σ.nobj
 live:∀x∈M,Live σ x.1 x.2.length
 inj:∀(i j:Nat) (x y:Nat×List Bc),M[i]?=some x->M[j]?=some y->i≠j->x.1=1\/x.1≠y.1
 t3:∀x∈M,T3 x.2
 ln:∀x∈M,x.2.length<=5000
 pl:M.length<=5000
theorem MPt.keep {σ σ':St}{ot:Nat}{M:MM}(h:MPt σ ot M)(k:Keep σ σ'):MPt σ' ot M:=⟨(k.obj _ h.lt).trans h.oc,Abh h.lt k.nobj,fun x hx=>(h.live x hx).keep k,h.inj,h.t3,h.ln,h.pl⟩
theorem MPt.mob {σ:St}{om ot:Nat}{M:MM}{d b:Int}(h:MPt σ ot M)(ho:σ.obj om=[fx ot 0 M.length,ic d,ic b])(hl:om<σ.nobj)(hn:om≠ot):MOb σ om ot M d b:=⟨ho,h.oc,hl,h.lt,hn,h.live,h.inj,h.t3,h.ln,h.pl⟩
theorem MOb.mpt {σ:St}{om ot:Nat}{M:MM}{d b:Int}(h:MOb σ om ot M d b):MPt σ ot M:=⟨h.oc,h.lt,h.live,h.inj,h.t3,h.ln,h.pl⟩
theorem Keep.km {σ0 σ σ':St}{om ot:Nat}{M M':MM}(hK:Keep σ0 σ)(h:KM om ot M M' σ σ')(hm:σ0.nobj<=om)(ht:σ0.nobj<=ot)(hM:∀x∈M,x.1=1):Keep σ0 σ':=
 ⟨Abg hK.nobj h.nobj,fun o ho=>(h.obj o (Abh ho hK.nobj) Ad6 Ad6).trans (hK.obj o ho),fun o ho=>(h.ver o (Abh ho hK.nobj) Ad6 Ad6).trans (hK.ver o ho),Abg hK.ntop h.ntop,fun k hk=>(h.top k (Abh hk hK.ntop) (fun x hx e=>by rw[hM x hx]at e;omega)).trans (hK.top k hk)⟩
theorem cC (np:Nat):En (List.replicate np (1,[]))=List.replicate np nilS:=by
 unfold En;rw[List.map_replicate];rfl
theorem Ta (np:Nat)(F:List C6)(cs:List AV)(idf:Nat)(b:Int)(hF:EL Mg F cs)(hn:np<=5000)(bi:F.length<=1000)(bc:∀a∈F,a.ts.length<=3/\∃k:Nat,a.p=(k:Int)/\k<np)(σ:St):
  ACalls Tryz.prog 49 [ic np,sl idf F.length cs,ic b] σ fun r σ'=>∃ot M,r=ag [fx ot 0 np,ic 0,ic b]/\MkM np F M/\Keep σ σ'/\σ.nobj<=ot/\MPt σ' ot M/\(∀x∈M,x.1=1\/σ.ntop+2<=x.1):=by
 have bh:=EL.length Hi hF;refine Z9 27 [.cell 6 77] Tryz.func49 ?_
 repeat' (first|refine Z1 ?_|(refine Z8 ?_;intro κ hκ)|(refine Z4 ?_;clear hκ κ)|(refine Z2 ?_ ?_<;>intro h ab<;>try exact Xp)|refine Z3 ?_|exact⟨⟩|(apply hκ.out;clear hκ κ))
 obtain⟨σ0,hσ0⟩:∃τ,τ=((((σ.new [nilS,ic 0,ic 0]).new (List.replicate np nilS)).new [nilS,ic 0,ic 0]).put (σ.nobj+1+1) [fx (σ.nobj+1) 0 np,ic 0,ic b]):=⟨_,rfl⟩;rw[<-hσ0];have az:Keep σ σ0:=by rw[hσ0];exact Xs
 have bd:σ0.nobj=σ.nobj+3:=by rw[hσ0];rfl
 have av:σ0.obj σ.nobj=[nilS,ic 0,ic 0]:=by rw[hσ0,Aj Ad6,Ae Aea,Ae Aea,Ao]
 have ax:MOb σ0 (σ.nobj+2) (σ.nobj+1) (List.replicate np (1,[])) 0 b:=
  ⟨by rw[hσ0,Ak];simp,by rw[cC,hσ0,Aj Ad6,Ae Aea,Bu Aea Aea],Ad6,Ad6,Ad6,fun x hx=>by rw[(Ad1.1 hx).2];exact .inl ⟨rfl,rfl⟩,fun i j x y hx hy _=>.inl (by rw[(Ad1.1 (Abm hx)).2]),fun x hx=>by rw[(Ad1.1 hx).2];intro t ht;simp at ht,fun x hx=>by rw[(Ad1.1 hx).2];simp,by simpa using hn⟩
 refine Ad (fun m s σ'=>∃(i:Nat) (M:MM),m=F.length-i/\i<=F.length/\s 6=ptr σ.nobj 0/\s 7=ptr (σ.nobj+2) 0/\s 14=sl idf F.length cs/\s 15=ic F.length/\s 16=ic i/\MOb σ' (σ.nobj+2) (σ.nobj+1) M 0 b/\KM (σ.nobj+2) (σ.nobj+1) (List.replicate np (1,[])) M σ0 σ'/\σ'.obj σ.nobj=[nilS,ic 0,ic 0]/\Aec (MkM np (F.take i) M)) F.length
  ⟨0,List.replicate np (1,[]),Ad6,Ad6,Ad8,Ad8,Ad8,Ad8,Ad8,ax,KM.ofKeep (Keep.refl _),av,MkM.nil np⟩ ?_
 clear ax av hσ0;rintro m s σ' ⟨i,M,rfl,hi,h6,h7,bn,bm,bl,hM,ai,hq,hI⟩;have be:=ai.nobj;by_cases aw:i<F.length
 ·have aa:=List.getElem?_eq_getElem aw;obtain⟨id,rr,hd⟩:=Ip hF aa;obtain⟨ap,k,ae,bg⟩:=bc _ (Ac2 aw);generalize F[i]=a at aa hd ap ae;have am:=hI.out.len;have hx:=List.getElem?_eq_getElem (l:=M) (i:=k) Ad6;generalize M[k]'Ad6=x at hx;have a0:Aec (F.take (i+1)=F.take i++[a]):=by rw[Aec,Abv,aa,Ac5]
  clear aa;have a5:x.2.length<5000:=by
   have h1:=hI.out.tot;have h2:(x.2.length:Int)<=Go.Proofs.YtmoeoppbmhfbpabGreatDoorJ.tot M:=by
    have hg:∀(M:MM) (k:Nat) (x:Nat×List Bc),M[k]?=some x->(x.2.length:Int)<=Go.Proofs.YtmoeoppbmhfbpabGreatDoorJ.tot M:=by
     intro M;induction M with
     |nil=>intro k x h;simp at h
     |cons y M ih=>
      intro k x h;rw[Dj];have hp:∀M:MM,0<=Go.Proofs.YtmoeoppbmhfbpabGreatDoorJ.tot M:=by
       intro M;induction M with
       |nil=>exact Adf _
       |cons y M ih=>rw[Dj];omega
      cases k with
      |zero=>simp at h;subst h;have:=hp M;omega
      |succ k=>have:=ih k x (by simpa using h);omega
    exact hg M k x hx
   rw[Ab7]at h1;omega
  have ak:=fun σ (h:MOb σ (σ0.nobj-1) (σ0.nobj-2) M 0 b)=>Jv (σ0.nobj-1) (σ0.nobj-2) M 0 b a id k x ap ae hx σ h;have ay:=fun σ (h:MOb σ (σ0.nobj-1) (σ0.nobj-2) M 0 b)=>Tb (σ0.nobj-1) (σ0.nobj-2) M 0 b a id k x ap ae hx a5 σ h;rw[show σ0.nobj-1=σ.nobj+2 by omega,show σ0.nobj-2=σ.nobj+1 by omega]at ak ay;have HX:Aec (M[k]?=some x):=hx;have a4:Aec (a.p=(k:Int)):=ae;clear hx ae am;by_cases ad:C7 a∈x.2
  ·rw[show decide (C7 a∈x.2)=true by simpa using ad]at ak;have HN:Aec (MkM np (F.take (i+1)) M):=by rw[Aec,a0.out];exact hI.out.has a4.out HX.out ad
   clear ad hI;have af:Keep σ' ((σ'.new [ic 0,nilS]).put σ'.nobj [ic a.p,sl id a.ts.length (Ac a.ts)]):=((Keep.refl σ').new _).put (Abf _) _
   repeat' (first|refine Z1 ?_|(refine Z8 ?_;intro κ hκ)|(refine Z4 ?_;clear hκ κ)|(refine Z2 ?_ ?_<;>intro h ab<;>try exact Xp)|(refine Z5 ?_;refine Xi (ak _ (hM.keep af)) ?_;rintro _ _ ⟨rfl,aj⟩;(have ac:=af.trans aj))|refine Z3 ?_|exact⟨⟩|(apply hκ.out;clear hκ κ))
   refine⟨F.length-(i+1),Ad6,i+1,M,?_⟩
   ((repeat' with_reducible refine And.intro ?_ ?_)<;>first|exact Xq|exact (HN)|exact (hM.keep ac)|exact (ai.trans (KM.ofKeep ac))|exact (by rw[ac.obj _ Ad6,hq])|exact Xs)
  ·rw[show decide (C7 a∈x.2)=false by simpa using ad]at ak;have HN:Aec (∀id',MkM np (F.take (i+1)) (M.set k (id',x.2++[C7 a]))):=fun id'=>by rw[a0.out];exact hI.out.add a4.out HX.out ad
   clear ad hI;have af:Keep σ' ((σ'.new [ic 0,nilS]).put σ'.nobj [ic a.p,sl id a.ts.length (Ac a.ts)]):=((Keep.refl σ').new _).put (Abf _) _;have a6:∀p,p<σ'.nobj+1->((σ'.new [ic 0,nilS]).put σ'.nobj [ic a.p,sl id a.ts.length (Ac a.ts)]).obj p=((σ'.new [ic 0,nilS]).put σ'.nobj [ic a.p,sl id a.ts.length (Ac a.ts)]).obj p:=fun p _=>rfl;clear a6
   repeat' (first|refine Z1 ?_|(refine Z8 ?_;intro κ hκ)|(refine Z4 ?_;clear hκ κ)|(refine Z2 ?_ ?_<;>intro h ab<;>try exact Xp)|(refine Z5 ?_;first|(refine Xi (ak _ (hM.keep af)) ?_;rintro _ _ ⟨rfl,aj⟩;(have ac:=af.trans aj;have an:=aj.obj;have ao:=aj.nobj;simp only[Ab,Aa]at ao an))|(refine Xi (ay _ (hM.keep ac)) ?_;rintro _ _ ⟨id',ba,ah⟩))|refine Z3 ?_|exact⟨⟩|(apply hκ.out;clear hκ κ))
   rename_i σ2 σ3;have au:=(ai.trans (KM.ofKeep ac)).trans ah;have a7:σ3.obj σ.nobj=[nilS,ic 0,ic 0]:=by rw[ah.obj _ Ad6 Ad6 Ad6,ac.obj _ Ad6,hq]
   refine⟨F.length-(i+1),Ad6,i+1,M.set k (id',x.2++[C7 a]),?_⟩
   ((repeat' with_reducible refine And.intro ?_ ?_)<;>first|exact Xq|exact (HN.out id')|exact (ba)|exact (au)|exact (a7)|exact Xs)
 ·have a9:i=F.length:=Ad6;subst a9;have hI:=hI.out;rw[Abt]at hI;have am:=hI.len;have a8:=hM.ob;rw[am]at a8;have bf:=hM.lo;have HI:Aec _:=hI;have HM:Aec _:=hM;have a3:Aec _:=ai;clear hI hM ai am
  repeat' (first|refine Z1 ?_|(refine Z8 ?_;intro κ hκ)|(refine Z4 ?_;clear hκ κ)|(refine Z2 ?_ ?_<;>intro h ab<;>try exact Xp)|refine Z3 ?_|exact⟨⟩|(apply hκ.out;clear hκ κ))
  have bb:=Keep.km az a3.out Ad6 Ad6 (fun x hx=>by rw[(Ad1.1 hx).2]);refine⟨_,rfl,σ.nobj+1,M,rfl,HI.out,bb.put Ad6 _,Ad6,?_,fun x hx=>?_⟩
  ·have h:=HM.out.mpt;exact⟨by rw[Qp Ad6];exact h.oc,h.lt,h.live,h.inj,h.t3,h.ln,h.pl⟩
  ·have hnt:=az.ntop;rcases a3.out.mid x hx with⟨y,hy,e⟩|e|e
   ·rw[(Ad1.1 hy).2]at e;exact .inl e.symm
   ·exact .inl e
   ·exact .inr Ad6
def Cm (N:List Tx)(a:Ai):C6:=⟨(N.idxOf a.pred:Nat),a.terms.map Az⟩
def Hd (N:List Tx)(a:Ai):Lit:=⟨a.nt,Cm N a⟩
def A6 (N:List Tx)(x:RItem):Dq:=⟨Cm N x.head,x.body.map (Hd N)⟩
theorem E7 (ts:List Tx):Ac (ts.map Az)=Av ts:=by
 unfold Ac Av;rw[List.flatMap_map];rfl
theorem iV {N:List Tx}:∀{l:List Ai} {b:List AV},EL (PL N) l b->EL Pz (l.map (Hd N)) b
 |[],b,h=>h
 |a::l,b,h=>by
  obtain⟨c1,c2,⟨-,ids,rfl⟩,h2,rfl⟩:=h;exact⟨_,c2,⟨ids,by simp[Hd,Cm,E7]⟩,iV h2,rfl⟩
theorem zH {N:List Tx}{x:RItem}{c:List AV}(h:PI N x c):tQ (A6 N x) c:=by
 obtain⟨hm,ih,id,b,hb,rfl⟩:=h;exact⟨x.out,ih,id,b,by simp[A6,Cm,E7],iV hb⟩
def Aax (R:List Dq)(F:List C6):Cj:=fun k t=>∀D:Cj,ClD R D->(∀a∈F,D a.p.toNat (C7 a))->D k t
def Abe (R:List Dq)(F:List C6)(k:Nat)(h:Bc)(b:Bool):Prop:=
 ∃M:MM,(∀x∈M,x.2.Nodup)/\(∀j t,MD M j t->Aax R F j t)/\(if tot M<=200 then (∀j t,Aax R F j t->MD M j t)/\(b=true↔MD M k h)else b=false)
theorem GroA.nodup {D:Cj}{M M':MM}{d d':Int}(h:GroA D M M' d d')(hn:∀x∈M,x.2.Nodup):∀x∈M',x.2.Nodup:=fun x hx=>by
 obtain⟨k,hk⟩:=List.getElem?_of_mem hx;obtain⟨nw,e,h1,h2⟩:=h.ext k;rw[Bw hk]at e;have aa:k<M.length:=by rw[<-h.len];exact (List.getElem?_eq_some_iff.1 hk).1
 have hg:M[k]?=some M[k]:=List.getElem?_eq_getElem aa;rw[Bw hg]at e;rw[e,Adk];refine⟨hn _ (Ac2 aa),h1,fun a ha b hb e2=>?_⟩;have:=(h2 b hb).2;rw[Bw hg]at this;exact this (e2 ▸ ha)
end Go.Proofs.YtmoeoppbmhfbpabGreatDoorJ
