import Derived.Test.YtmoeoppbmhfbpabGreatDoorGEngZ
set_option maxHeartbeats 32000000
set_option maxRecDepth 100000
set_option linter.all false
namespace Go.Proofs.YtmoeoppbmhfbpabGreatDoorG
open Go.Abs
theorem rV:∀(M M':MM),M'.length=M.length->(∀k:Nat,(A5 M k).length<=(A5 M' k).length)->(tot M<=tot M'/\(tot M'<=tot M->∀k:Nat,(A5 M' k).length=(A5 M k).length))
 |[],M',hl,h=>by
  have:M'=[]:=Adx (by simpa using hl);subst this;exact⟨Int.le_refl _,fun _ k=>rfl⟩
 |x::M,[],hl,h=>by simp at hl
 |x::M,y::M',hl,h=>by
  obtain⟨h1,h2⟩:=rV M M' (by simpa using hl) (fun k=>by have:=h (k+1);simpa[A5]using this);have h0:=h 0;simp[A5]at h0;rw[D5,D5];refine⟨Agm,fun aa k=>?_⟩;cases k with
  |zero=>simp[A5];omega
  |succ k=>
   have:=h2 Agm k;simpa[A5]using this
theorem GroA.lens {D:Fh}{M M':MM}{d d':Int}(h:GroA D M M' d d')(k:Nat):(A5 M k).length<=(A5 M' k).length:=by
 obtain⟨n,e,-,-⟩:=h.ext k;rw[e];simp
theorem GroA.same {D:Fh}{M M':MM}{d d':Int}(h:GroA D M M' d d')(ht:tot M'<=tot M)(k:Nat):A5 M' k=A5 M k:=by
 have hl:=(rV M M' h.len h.lens).2 ht k;obtain⟨n,e,-,-⟩:=h.ext k;rw[e]at hl⊢;have:n=[]:=by simpa using hl
 rw[this,Ad7]
theorem O8 {j:St}{om ot:Nat}{M:MM}{d b:Int}(hM:MOb j om ot M d b):∀n∈Hb M,0<=n/\n<=5000:=fun n hn=>by
 obtain⟨x,hx,rfl⟩:=Aey.1 hn;have:=hM.ln x hx;omega
theorem H9 (M:MM):(Hb M).length=M.length:=by simp[Hb]
theorem vJ {M:MM}{k:Nat}(hk:k<M.length):((Hb M)[k]?).getD 0=((A5 M (k:Int)).length:Int):=by
 have hg:M[k]?=some M[k]:=List.getElem?_eq_getElem hk;rw[B7 hg];simp[Hb,hk]
def Brg (D:Fh)(R:List D8)(MS M1:MM):Prop:=∀r∈R,∀ν,(∀l∈r.body,Jq D (MD MS) ν l)->MD M1 r.head.p.toNat (Bo r.head ν)
theorem Ua {N D:Fh}{ν:Nu}{l:Lit}(hn:l.neg=false)(h:Jq N D ν l):D l.a.p.toNat (Bo l.a ν):=by
 unfold Jq at h;rw[hn]at h;simpa using h
theorem eI {N D:Fh}{ν:Nu}{l:Lit}(hn:l.neg=true)(h:Jq N D ν l):¬N l.a.p.toNat (Bo l.a ν):=by
 unfold Jq at h;rw[hn]at h;simpa using h
theorem zH {np:Nat}{ar:Nat->Nat}{R:List D8}{D:Fh}{MS M1 M2:MM}{ds d1 d2:Int}(hF:Fol np ar R D)(hn:MS.length=np)(hS:GroA D MS M1 ds d1)(hB:Brg D R MS M1)(h2:GroA D M1 M2 d1 d2)(hN:∀r∈R,NewR D M1 M2 (Hb MS) r r.body.length):Brg D R M1 M2:=fun r hr ν h=>by
 by_cases ac:∀l∈r.body,Jq D (MD MS) ν l
 ·exact h2.sub (hB r hr ν ac)
 ·obtain⟨l,hl⟩:∃l,¬(l∈r.body->Jq D (MD MS) ν l):=Classical.not_forall.1 ac;have ad:l∈r.body:=Classical.byContradiction fun hh=>hl (fun h'=>absurd h' hh);have ae:¬Jq D (MD MS) ν l:=fun hh=>hl (fun _=>hh);have ab:l.neg=false:=by
   cases hc:l.neg with
   |false=>rfl
   |true=>
    exfalso;have:=eI hc (h l ad);exact ae (by unfold Jq;rw[hc];simpa using this)
  have aa:¬MD MS l.a.p.toNat (Bo l.a ν):=fun hh=>ae (by unfold Jq;rw[ab];simpa using hh);obtain⟨i,hi⟩:=List.getElem?_of_mem ad;have af:=(List.getElem?_eq_some_iff.1 hi).1;obtain⟨k,hk,ah⟩:=(hF.rw r hr).rok.bp l ad;refine hN r hr i l af hi ab ν h ?_;obtain⟨nw,e,-,-⟩:=hS.ext k;have hm:=Ua ab (h l ad);unfold MD at hm aa;rw[hk]at hm aa⊢;rw[Afz]at hm aa;rw[Afz,vJ Agm,Afz];rw[e]at hm⊢;rw[List.drop_left];rcases Aew.1 hm with h'|h'
  ·exact absurd h' aa
  ·exact h'
theorem Uw {R:List D8}{D:Fh}{MS M1:MM}{np:Nat}{ar:Nat->Nat}{ds d1:Int}(hF:Fol np ar R D)(hS:GroA D MS M1 ds d1)(hB:Brg D R MS M1)(ht:tot M1<=tot MS):ClG R D (MD M1):=fun r hr ν h=>hB r hr ν (fun l hl=>by
 have:=h l hl;unfold Jq at this⊢;split
 ·rename_i hc;rw[if_pos hc]at this;exact this
 ·rename_i hc;rw[if_neg hc]at this;obtain⟨k,hk,-⟩:=(hF.rw r hr).rok.bp l hl;unfold MD at this⊢;rw[hk]at this⊢;rw[Afz]at this⊢;rw[hS.same ht k]at this
  exact this)
theorem O4 {np:Nat}{ar:Nat->Nat}{R:List D8}{D:Fh}(hF:Fol np ar R D)(om ot:Nat)(b:Int)(bu: -1000000<=b)(br:b<=900000)(M:MM)(d:Int)(hn:M.length=np)(hD:∀k t,MD M k t->D k t)(bw:NgIn R D M)(b8:Room M d b)(cn: -1000000<=d)(b6:d<=1000000)(rc:List AV)(idr:Nat)(a7:EL gE R rc)(b9:R.length<=1000)(j:St)(hM:MOb j om ot M d b):
  ACalls Tryz.prog 84 [ptr om 0,sl idr R.length rc] j fun x j'=>∃M' d',MOb j' om ot M' d' b/\KM om ot M M' j j'/\GroA D M M' d d'/\d<=d'/\d'<=1000000/\(¬b<d'->ClG R D (MD M')):=by
 have ck:=EL.length aE a7;have hpl:=hM.pl;have bm:=fun (M:MM) (d:Int) j (h:MOb j om ot M d b)=>O6 om ot M d b j h;have b2:=bm M d;have a4:Agt (M.length=np):=hn;have cm:M.length<=np/\np<=M.length:=Agm;clear hn;refine Z9 43 [] Tryz.func84 ?_
 repeat' (first|refine Z1 ?_|(refine Z8 ?_;intro κ hκ)|(refine Z4 ?_;clear hκ κ)|(refine Z2 ?_ ?_<;>intro h af<;>try exact Xp)|(refine Z5 ?_;refine Xi (b2 _ (hM.keep (Xs))) ?_;rintro _ _ ⟨⟨id0,rfl⟩,bi⟩)|refine Z3 ?_|exact⟨⟩|(apply hκ.out;clear hκ κ))
 rename_i σ0
 refine Ag (fun m s j'=>∃(k:Nat) (M1:MM) (d1:Int),m=R.length-k/\k<=R.length/\s 0=ptr om 0/\s 1=sl idr R.length rc/\s 4=sl id0 M.length (As (Hb M))/\s 11=sl idr R.length rc/\s 12=ic R.length/\s 13=ic k/\MOb j' om ot M1 d1 b/\KM om ot M M1 j j'/\d1<=1000000/\d<=d1/\Agt (GroA D M M1 d d1/\Room M1 d1 b/\(¬b<d1->Brg D (R.take k) M M1))) R.length
  ⟨0,M,d,Agm,Agm,by simp[upd,initS],by simp[upd,initS],Ago,by simp[upd,initS],Ago,rfl,hM.keep bi,KM.ofKeep bi,b6,Agm,GroA.refl _ _ _,b8,fun _ r hr=>by simp at hr⟩ ?_
 clear bi b2;rintro m s j' ⟨k,M1,d1,rfl,hk,h0,h1,h4,ci,ch,cg,aa,ac,ab,ad,hG⟩;by_cases a8:k<R.length
 ·have ai:=List.getElem?_eq_getElem a8;obtain⟨o,ih,ib,bc,rr,hd,hB⟩:=nH a7 ai;have ah:=Afa a8;generalize R[k]=r at hd ai ah hB;have cj:Agt (R.take (k+1)=R.take k++[r]):=by rw[Agt,Ad3,ai,Afe]
  clear ai;have ak:M1.length=np:=by have:=hG.out.1.len;rw[this];exact a4.out
  have cf:=fun j (h:MOb j om ot M1 d1 b)=>Yg om ot M1 d1 b r [sc (.bool o),ic r.head.p,sl ih r.head.ts.length (Ac r.head.ts),sl ib r.body.length bc] (-1) 0 ⟨o,ih,ib,bc,rfl,hB⟩ (by rw[ak];exact (hF.rw r ah).rok) Agm j h;have cc:Agt (∀c3,EQ (Kb M1 (-1) 0 r) c3->∀j,MOb j om ot M1 d1 b->ACalls Tryz.prog 139 [ptr om 0,ag c3] j fun x j'=>∃M' d',MOb j' om ot M' d' b/\KM om ot M1 M' j j'/\GroA D M1 M' d1 d'/\Room M' d' b/\d'<=1000000/\d1<=d'/\(¬b<d'->∀ν,(∀(l:Lit) (i:Nat),r.body[i]?=some l->l.neg=false->Bo l.a ν∈U5 M1 (-1) 0 i l)->(∀l∈r.body,l.neg=true->¬D l.a.p.toNat (Bo l.a ν))->MD M' r.head.p.toNat (Bo r.head ν))):=fun c3 h3 j hh=>
   U4 hF om ot b bu br M1 d1 ak (hG.out.1.inD hD) (bw.gro hG.out.1) hG.out.2.1 Agm ab r ah (-1) 0 c3 h3 j hh
  clear ak;have l1:=aa.lo;have l2:=aa.lt
  repeat' (first|refine Z1 ?_|(refine Z8 ?_;intro κ hκ)|(refine Z4 ?_;clear hκ κ)|(refine Z2 ?_ ?_<;>intro h af<;>try exact Xp)|(refine Z5 ?_;first|(refine Xi (cf _ (aa.keep (Xs))) ?_;rintro _ _ ⟨⟨_,rfl,ih3,ip3,in3,pc3,nc3,rfl,ca,cb⟩,bg⟩;(have a6:=bg.nobj;have a5:=bg.obj;simp only[Ab,Aa]at a6 a5;have aw:=(((Keep.refl j').new _).put (Adn _) _).trans bg;have cd:=cc.out _ ⟨ih3,ip3,in3,pc3,nc3,rfl,ca,cb⟩))|(refine Xi (cd _ (aa.keep (Xs))) ?_;rintro _ _ ⟨M3,d3,a3,an,ax,bd,bb,ba,ae⟩;(have ap:Agt _:=ax;have ao:Agt _:=ae;clear ax ae;have am:=(ac.trans (KM.ofKeep ((aw.new _).put Agm _))).trans an)))|refine Z3 ?_|exact⟨⟩|(apply hκ.out;clear hκ κ))
  have HN:Agt (GroA D M M3 d d3/\Room M3 d3 b/\(¬b<d3->Brg D (R.take (k+1)) M M3)):=by
   refine⟨hG.out.1.trans ap.out,bd,fun aj r' bo ν a1=>?_⟩;rw[cj.out]at bo;rcases Aew.1 bo with h'|h'
   ·exact ap.out.sub (hG.out.2.2 Agm r' h' ν a1)
   ·simp at h';subst h';refine ao.out aj ν (fun l i hl a9=>?_) (fun l hl a9=>eI a9 (a1 l hl));have bq:=Adt hl;obtain⟨p',b3,-⟩:=(hF.rw r' ah).rok.bp l bq;unfold U5;rw[if_neg Agm];have:=Ua a9 (a1 l bq);unfold MD at this;rw[b3]at this⊢;exact hG.out.1.sub this
  refine⟨R.length-(k+1),Agm,k+1,M3,d3,?_⟩
  ((repeat' with_reducible refine And.intro ?_ ?_)<;>first|exact Xq|exact (HN)|exact (a3)|exact (am)|exact Xs)
 ·have b4:k=R.length:=Agm;subst b4;rw[Adz]at hG;have b1:=bm M1 d1
  repeat' (first|refine Z1 ?_|(refine Z8 ?_;intro κ hκ)|(refine Z4 ?_;clear hκ κ)|(refine Z2 ?_ ?_<;>intro h af<;>try exact Xp)|(refine Z5 ?_;refine Xi (b1 _ (aa.keep (Xs))) ?_;rintro _ _ ⟨⟨id1,rfl⟩,bh⟩)|refine Z3 ?_|exact⟨⟩|(apply hκ.out;clear hκ κ))
  rename_i j1
  refine Ag (fun m s j'=>∃(MS M1:MM) (ds d1:Int) (ia ib:Nat),m=2*(b-d1+1).toNat+(if tot MS<tot M1 then 1 else 0)/\s 0=ptr om 0/\s 1=sl idr R.length rc/\s 4=sl ia MS.length (As (Hb MS))/\s 8=sl ib M1.length (As (Hb M1))/\MOb j' om ot M1 d1 b/\KM om ot M M1 j j'/\d1<=1000000/\d<=d1/\MS.length<=5000/\(∀n∈Hb MS,0<=n/\n<=5000)/\Agt (MS.length=np/\GroA D M M1 d d1/\GroA D MS M1 ds d1/\Room M1 d1 b/\(¬b<d1->Brg D R MS M1))) (2*(b-d1+1).toNat+(if tot M<tot M1 then 1 else 0))
   ⟨M,M1,d,d1,id0,id1,rfl,Agn,Agn,Agn,Ago,aa.keep bh,ac.trans (KM.ofKeep bh),ab,ad,hpl,O8 hM,a4.out,hG.out.1,hG.out.1,hG.out.2.1,hG.out.2.2⟩ ?_
  clear h0 h1 h4 ci ch cg aa ac ab ad hG bh b1 a8 hk;rintro m s j2 ⟨MS,M1,ds,d1,ia,ib,rfl,h0,h1,h4,h8,aa,ac,ab,ad,co,bv,hG⟩;have av:=Nq om ot M1 d1 b;have az:=fun (id:Nat) j=>Lh (Hb M1) id (by rw[H9];have:=aa.pl;omega) (fun n hn=>by have:=O8 aa n hn;omega) j;have a0:=fun (id:Nat) j=>Lh (Hb MS) id (by rw[H9];omega) (fun n hn=>by have:=bv n hn;omega) j;rw[show (Hb M1).sum=tot M1 from rfl]at az;rw[show (Hb MS).sum=tot MS from rfl]at a0;rw[H9]at az a0;by_cases ay:b<d1
  ·rw[show decide (b<d1)=true from by simpa using ay]at av
   repeat' (first|refine Z1 ?_|(refine Z8 ?_;intro κ hκ)|(refine Z4 ?_;clear hκ κ)|(refine Z2 ?_ ?_<;>intro h af<;>try exact Xp)|(refine Z5 ?_;refine Xi (av _ (aa.keep (Xs))) ?_;rintro _ _ ⟨rfl,rfl⟩)|refine Z3 ?_|exact⟨⟩|(apply hκ.out;clear hκ κ))
   first|exact⟨_,rfl,M1,d1,aa,ac,hG.out.2.1,ad,ab,fun h=>absurd ay h⟩|exact⟨M1,d1,aa,ac,hG.out.2.1,ad,ab,fun h=>absurd ay h⟩
  ·rw[show decide (b<d1)=false from by simpa using ay]at av;by_cases bn:tot MS<tot M1
   ·have b5:decide (tot M1>tot MS)=true:=by simpa using bn
    have b0:=fun j (h:MOb j om ot M1 d1 b)=>Q9 hF om ot b bu br M1 d1 (hG.out.2.1.len.trans a4.out) (hG.out.2.1.inD hD) (bw.gro hG.out.2.1) hG.out.2.2.2.1 Agm ab rc idr a7 b9 (Hb MS) ia (by rw[H9];exact hG.out.1) bv j h;rw[H9]at b0;rw[if_pos bn]
    repeat' (first|refine Z1 ?_|(refine Z8 ?_;intro κ hκ)|(refine Z4 ?_;clear hκ κ)|(refine Z2 ?_ ?_<;>intro h af<;>try exact Xp)|(refine Z5 ?_;first|(refine Xi (av _ (aa.keep (Xs))) ?_;rintro _ _ ⟨rfl,rfl⟩)|(refine Xi (az _ _) ?_;rintro _ _ ⟨rfl,bf⟩;(have aw:=bf))|(refine Xi (a0 _ _) ?_;rintro _ _ ⟨rfl,be⟩;(have au:=aw.trans be))|(refine Xi (b0 _ (aa.keep (Xs))) ?_;rintro _ _ ⟨M3,d3,a3,an,ax,bd,bb,ba,ae⟩;(have ap:Agt _:=ax;have ao:Agt _:=ae;clear ax ae;have am:=(ac.trans (KM.ofKeep au)).trans an;have ce:=bm M3 d3))|(refine Xi (ce _ (a3.keep (Xs))) ?_;rintro _ _ ⟨⟨ic3,rfl⟩,bz⟩))|refine Z3 ?_|exact⟨⟩|(apply hκ.out;clear hκ κ))
    have b7:=ap.out.cnt;refine⟨2*(b-d3+1).toNat+(if tot M1<tot M3 then 1 else 0),by split<;>omega,M1,M3,d1,d3,ib,ic3,?_⟩
    have HN:Agt (M1.length=np/\GroA D M M3 d d3/\GroA D M1 M3 d1 d3/\Room M3 d3 b/\(¬b<d3->Brg D R M1 M3)):=
     ⟨hG.out.2.1.len.trans a4.out,hG.out.2.1.trans ap.out,ap.out,bd,fun aj=>zH hF hG.out.1 hG.out.2.2.1 (hG.out.2.2.2.2 Agm) ap.out (ao.out aj)⟩
    ((repeat' with_reducible refine And.intro ?_ ?_)<;>first|exact Xq|exact (HN)|exact (a3.keep bz)|exact (am.trans (KM.ofKeep bz))|exact (aa.pl)|exact (O8 aa)|exact Xs)
   ·have b5:decide (tot M1>tot MS)=false:=by simp;omega
    repeat' (first|refine Z1 ?_|(refine Z8 ?_;intro κ hκ)|(refine Z4 ?_;clear hκ κ)|(refine Z2 ?_ ?_<;>intro h af<;>try exact Xp)|(refine Z5 ?_;first|(refine Xi (av _ (aa.keep (Xs))) ?_;rintro _ _ ⟨rfl,rfl⟩)|(refine Xi (az _ _) ?_;rintro _ _ ⟨rfl,bf⟩;(have aw:=bf))|(refine Xi (a0 _ _) ?_;rintro _ _ ⟨rfl,be⟩;(have au:=aw.trans be)))|refine Z3 ?_|exact⟨⟩|(apply hκ.out;clear hκ κ))
    first|exact⟨_,rfl,M1,d1,aa.keep au,ac.trans (KM.ofKeep au),hG.out.2.1,ad,ab,fun aj=>Uw hF hG.out.2.2.1 (hG.out.2.2.2.2 aj) Agm⟩|exact⟨M1,d1,aa.keep au,ac.trans (KM.ofKeep au),hG.out.2.1,ad,ab,fun aj=>Uw hF hG.out.2.2.1 (hG.out.2.2.2.2 aj) Agm⟩
theorem xD {ar:Nat->Nat}{a:C4}{ν:Nu}{k:Nat}(h3:a.ts.length<=3)(har:a.ts.length=ar k)(h:Sh ar k (Bo a ν)):∀t∈a.ts,∃n:Nat,Et ν t=(n:Int)/\n<1026:=by
 obtain⟨l,e,hl,hx⟩:=h;intro t ht;obtain⟨i,hi⟩:=List.getElem?_of_mem ht;have ab:=(List.getElem?_eq_some_iff.1 hi).1;have h2:(a.ts.map (Et ν))[i]?=some (Et ν t):=by rw[List.getElem?_map,hi];rfl
 have aa:i<l.length:=Agm;have h4:l[i]?=some l[i]:=List.getElem?_eq_getElem aa;have h5:Et ν t=l[i]:=by
  unfold Bo Df at e;simp only[Af9,and_true]at e;obtain⟨e0,e1,e2⟩:=e;have:i=0\/i=1\/i=2:=Agm;rcases this with rfl|rfl|rfl
  ·rw[h2,h4]at e0;exact e0
  ·rw[h2,h4]at e1;exact e1
  ·rw[h2,h4]at e2;exact e2
 rw[h5];exact hx _ (Afa aa)
theorem Aa7 {np:Nat}{ar:Nat->Nat}{R:List D8}{N:Fh}(h:∀r∈R,RW np ar r):ClG R N (Sh ar):=fun r hr ν hb=>by
 have hw:=h r hr;refine⟨r.head.ts.map (Et ν),rfl,by rw[Afo];exact hw.har,fun x hx=>?_⟩;obtain⟨t,ht,rfl⟩:=Aey.1 hx;obtain⟨tv,tn⟩:=t;cases tv with
 |false=>exact hw.hc _ ht rfl
 |true=>
  obtain⟨l,hl,hn,hv⟩:=hw.safe tn (.inl (by rw[hasV_iff];exact ht));exact xD (hw.rok.ba l hl) (hw.bar l hl) (Ua hn (hb l hl)) _ (hasV_iff.1 hv)
def Vq (t:Tm):Tm:=if t.1=true then (false,1000+t.2)else t
def Fe (a:C4):C4:=⟨a.p,a.ts.map Vq⟩
def Sml (ts:List Tm):Prop:=∀t∈ts,-1000000<=t.2/\t.2<=1000000
theorem O3 (p:Int)(ids:Nat)(ts:List Tm)(hn:ts.length<=1000)(hs:Sml ts)(j:St):ACalls Tryz.prog 157 [ag [ic p,sl ids ts.length (Ac ts)]] j fun r j'=>(∃id,r=ag [ic p,sl id ts.length (Ac (ts.map Vq))])/\Keep j j':=by
 have au:=Ch ts;refine Z9 30 [.cell 2 122] Tryz.func157 ?_
 repeat' (first|refine Z1 ?_|(refine Z8 ?_;intro κ hκ)|(refine Z4 ?_;clear hκ κ)|(refine Z2 ?_ ?_<;>intro h ae<;>try exact Xp)|(refine Z6 ?_;intro idn jn ah ai ad aa ac ab)|refine Z3 ?_|exact⟨⟩|(apply hκ.out;clear hκ κ))
 refine Ag (fun m s j'=>∃(i i3:Nat) (xs:List AV),m=ts.length-i/\i<=ts.length/\s 2=ptr (j.nobj+1) 0/\s 3=ptr (j.nobj+2) 0/\s 10=sl ids ts.length (Ac ts)/\s 11=ic ts.length/\s 12=ic i/\Keep j j'/\j.nobj+2<j'.nobj/\j'.obj (j.nobj+1)=[ic 0,nilS]/\j'.obj (j.nobj+2)=[ic p,sl i3 i xs]/\Own j j' i3 i/\xs.length=i*2/\Agt (xs=Ac ((ts.take i).map Vq))) ts.length
  ⟨0,1,[],Agm,Agm,Ago,Ago,Ago,Ago,rfl,Xs,Ags,?_,?_,Own.nil _ _,by simp,by simp[Agt,Ac]⟩ ?_
 ·rw[Ai Agm,Af Agq,Bs Agq Agq]
 ·rw[show j.nobj+2=j.nobj+1+1 from rfl,Aj]
 rintro m s j' ⟨i,i3,xs,rfl,hi,h2,h3,ax,aw,av,hK,hno,ao,an,hO,aj,hX⟩;have ap:=hK.nobj;by_cases ak:i<ts.length
 ·have af:=List.getElem?_eq_getElem ak;obtain⟨r,hd⟩:=Cm af;have hb:=hs _ (Afa ak);generalize ts[i]=w at hd af hb;obtain⟨w1,w2⟩:=w;have HG:Agt (Ac ((ts.take (i+1)).map Vq)=Ac ((ts.take i).map Vq)++H8 (Vq (w1,w2))):=by
   rw[Agt,Ad3,af];simp[Ac]
  clear af;cases w1 with
  |true=>
   repeat' (first|refine Z1 ?_|(refine Z8 ?_;intro κ hκ)|(refine Z4 ?_;clear hκ κ)|(refine Z2 ?_ ?_<;>intro h ae<;>try exact Xp)|(refine Z6 ?_;intro idn jn ah ai ad aa ac ab)|refine Z3 ?_|exact⟨⟩|(apply hκ.out;clear hκ κ))
   refine Bm (by first|exact Dv) (((hK.new _).put hK.nobj _).put hK.nobj _) (Own.put (Own.put (Own.new hO _) _ _) _ _) (by decide) (by rfl) (aj) (by rfl) (by rfl) (by decide) Agm Agm ?_;intro idn jn ah ai ad aa ac ab;simp only[Ab,Aa]at aa;refine Z3 ?_
   repeat' (first|refine Z1 ?_|(refine Z8 ?_;intro κ hκ)|(refine Z4 ?_;clear hκ κ)|(refine Z2 ?_ ?_<;>intro h ae<;>try exact Xp)|(refine Z6 ?_;intro idn jn ah ai ad aa ac ab)|refine Z3 ?_|exact⟨⟩|(apply hκ.out;clear hκ κ))
   refine⟨ts.length-(i+1),Agm,i+1,idn,xs++[sc (.bool false),ic (1000+w2)],?_⟩
   ((repeat' with_reducible refine And.intro ?_ ?_)<;>first|exact Xq|exact (ai.put Agm _)|exact (Own.put ah _ _)|exact (by rw[Agt,HG.out,hX.out];rfl)|exact Xs)
  |false=>
   repeat' (first|refine Z1 ?_|(refine Z8 ?_;intro κ hκ)|(refine Z4 ?_;clear hκ κ)|(refine Z2 ?_ ?_<;>intro h ae<;>try exact Xp)|(refine Z6 ?_;intro idn jn ah ai ad aa ac ab)|refine Z3 ?_|exact⟨⟩|(apply hκ.out;clear hκ κ))
   refine Bm (by first|exact Dv) ((hK.new _).put hK.nobj _) (Own.put (Own.new hO _) _ _) (by decide) (by rfl) (aj) (by rfl) (by rfl) (by decide) Agm Agm ?_;intro idn jn ah ai ad aa ac ab;simp only[Ab,Aa]at aa;refine Z3 ?_
   repeat' (first|refine Z1 ?_|(refine Z8 ?_;intro κ hκ)|(refine Z4 ?_;clear hκ κ)|(refine Z2 ?_ ?_<;>intro h ae<;>try exact Xp)|(refine Z6 ?_;intro idn jn ah ai ad aa ac ab)|refine Z3 ?_|exact⟨⟩|(apply hκ.out;clear hκ κ))
   refine⟨ts.length-(i+1),Agm,i+1,idn,xs++[sc (.bool false),ic w2],?_⟩
   ((repeat' with_reducible refine And.intro ?_ ?_)<;>first|exact Xq|exact (ai.put Agm _)|exact (Own.put ah _ _)|exact (by rw[Agt,HG.out,hX.out];rfl)|exact Xs)
 ·have am:i=ts.length:=Agm;subst am;have hX:=hX.out;rw[Adz]at hX
  repeat' (first|refine Z1 ?_|(refine Z8 ?_;intro κ hκ)|(refine Z4 ?_;clear hκ κ)|(refine Z2 ?_ ?_<;>intro h ae<;>try exact Xp)|(refine Z6 ?_;intro idn jn ah ai ad aa ac ab)|refine Z3 ?_|exact⟨⟩|(apply hκ.out;clear hκ κ))
  exact⟨_,rfl,⟨i3,by first|rfl|rw[hX]⟩,hK.put Agm _⟩
theorem P7 (r:D8)(c:List AV)(hc:gE r c)(hl:r.body.length<=64)(ha:∀l∈r.body,l.a.ts.length<=3/\Sml l.a.ts)(j:St):ACalls Tryz.prog 156 [ag c] j fun x j'=>(∃id cs,x=sl id r.body.length cs/\EL Me (r.body.map fun l=>Fe l.a) cs)/\Keep j j':=by
 obtain⟨o,ih,ib,bc,rfl,hB⟩:=hc;have ax:=EL.length F6 hB;refine Z9 22 [.tmp 2] Tryz.func156 ?_
 repeat' (first|refine Z1 ?_|(refine Z8 ?_;intro κ hκ)|(refine Z4 ?_;clear hκ κ)|(refine Z2 ?_ ?_<;>intro h ad<;>try exact Xp)|(refine Z6 ?_;intro idn jn aj ak af ac ae ab)|refine Z3 ?_|exact⟨⟩|(apply hκ.out;clear hκ κ))
 refine Ag (fun m s j'=>∃(i i3:Nat) (xs:List AV),m=r.body.length-i/\i<=r.body.length/\s 3=sl i3 i xs/\s 8=sl ib r.body.length bc/\s 9=ic r.body.length/\s 10=ic i/\Keep j j'/\Own j j' i3 i/\xs.length=i*2/\Agt (EL Me ((r.body.take i).map fun l=>Fe l.a) xs)) r.body.length
  ⟨0,1,[],Agm,Agm,Ago,Ago,Ago,rfl,Xs,Own.nil _ _,by simp,rfl⟩ ?_
 rintro m s j' ⟨i,i3,xs,rfl,hi,h3,h8,h9,a0,hK,hO,aw,hX⟩;have av:=hK.nobj;by_cases ah:i<r.body.length
 ·have aa:=List.getElem?_eq_getElem ah;obtain⟨id,rr,hd⟩:=Gx hB aa;obtain⟨ap,ai⟩:=ha _ (Afa ah);generalize r.body[i]=w at hd aa ap ai;have an:w.a.ts.length<=1000:=Agm;have au:=fun j=>O3 w.a.p id w.a.ts an ai j;have HG:Agt ((r.body.take (i+1)).map (fun l=>Fe l.a)=(r.body.take i).map (fun l=>Fe l.a)++[Fe w.a]):=by
   rw[Agt,Ad3,aa];simp
  clear aa
  repeat' (first|refine Z1 ?_|(refine Z8 ?_;intro κ hκ)|(refine Z4 ?_;clear hκ κ)|(refine Z2 ?_ ?_<;>intro h ad<;>try exact Xp)|(refine Z6 ?_;intro idn jn aj ak af ac ae ab)|(refine Z5 ?_;refine Xi (au _) ?_;rintro _ _ ⟨⟨idf,rfl⟩,am⟩;(have az:=((hK.new _).put hK.nobj _).trans am;have ay:=Own.keep (Own.put (Own.new hO _) _ _) am))|refine Z3 ?_|exact⟨⟩|(apply hκ.out;clear hκ κ))
  refine⟨r.body.length-(i+1),Agm,i+1,idn,xs++[ic w.a.p,sl idf w.a.ts.length (Ac (w.a.ts.map Vq))],?_⟩
  ((repeat' with_reducible refine And.intro ?_ ?_)<;>first|exact Xq|exact (by rw[Agt,HG.out];exact EL.append hX.out (EL.single ⟨idf,by simp[Fe]⟩))|exact Xs)
 ·have ao:i=r.body.length:=Agm;subst ao;rw[Adz]at hX
  repeat' (first|refine Z1 ?_|(refine Z8 ?_;intro κ hκ)|(refine Z4 ?_;clear hκ κ)|(refine Z2 ?_ ?_<;>intro h ad<;>try exact Xp)|(refine Z6 ?_;intro idn jn aj ak af ac ae ab)|refine Z3 ?_|exact⟨⟩|(apply hκ.out;clear hκ κ))
  first|exact⟨_,rfl,⟨i3,xs,rfl,hX.out⟩,hK⟩|exact⟨_,rfl,i3,xs,rfl,hX.out⟩
def Fo (n:Int)(l:Lit):Lit:=if l.neg=true then⟨false,⟨l.a.p+n,l.a.ts⟩⟩else l
def wB (n:Int)(r:D8):D8:=⟨r.head,r.body.map (Fo n)⟩
theorem Um (r:D8)(c:List AV)(n:Int)(hc:gE r c)(hl:r.body.length<=64)(hp:∀l∈r.body,0<=l.a.p/\l.a.p<=1000000)(ax:0<=n)(aw:n<=1000000)(j:St):ACalls Tryz.prog 155 [ag c,ic n] j fun x j'=>(∃c',x=ag c'/\gE (wB n r) c')/\Keep j j':=by
 obtain⟨o,ih,ib,bc,rfl,hB⟩:=hc;have ay:=EL.length F6 hB;refine Z9 36 [.cell 4 125] Tryz.func155 ?_
 repeat' (first|refine Z1 ?_|(refine Z8 ?_;intro κ hκ)|(refine Z4 ?_;clear hκ κ)|(refine Z2 ?_ ?_<;>intro h af<;>try exact Xp)|(refine Z6 ?_;intro idn jn ai aj ad aa ac ab)|refine Z3 ?_|exact⟨⟩|(apply hκ.out;clear hκ κ))
 refine Ag (fun m s j'=>∃(i i3:Nat) (xs:List AV),m=r.body.length-i/\i<=r.body.length/\s 1=ic n/\s 4=ptr (j.nobj+1) 0/\s 5=ptr (j.nobj+2) 0/\s 12=sl ib r.body.length bc/\s 13=ic r.body.length/\s 14=ic i/\Keep j j'/\j.nobj+2<j'.nobj/\j'.obj (j.nobj+1)=[sc (.bool false),ic 0,nilS,nilS]/\j'.obj (j.nobj+2)=[sc (.bool false),ic r.head.p,sl ih r.head.ts.length (Ac r.head.ts),sl i3 i xs]/\Own j j' i3 i/\xs.length=i*3/\Agt (EL Pi ((r.body.take i).map (Fo n)) xs)) r.body.length
  ⟨0,1,[],Agm,Agm,by simp[upd,initS],Ago,Ago,Ago,Ago,rfl,Xs,Ags,?_,?_,Own.nil _ _,by simp,rfl⟩ ?_
 ·rw[Ai Agm,Af Agq,Bs Agq Agq]
 ·rw[show j.nobj+2=j.nobj+1+1 from rfl,Aj]
 rintro m s j' ⟨i,i3,xs,rfl,hi,h1,h4,h5,a3,a0,az,hK,hno,au,ap,hO,ak,hX⟩;have av:=hK.nobj;by_cases am:i<r.body.length
 ·have ah:=List.getElem?_eq_getElem am;obtain⟨id,rr,hd⟩:=Gx hB ah;have an:=hp _ (Afa am);generalize r.body[i]=w at hd ah an;have HG:Agt ((r.body.take (i+1)).map (Fo n)=(r.body.take i).map (Fo n)++[Fo n w]):=by
   rw[Agt,Ad3,ah];simp
  clear ah;cases ae:w.neg with
  |true=>
   rw[ae]at hd;have HX:Agt (EL Pi ((r.body.take (i+1)).map (Fo n)) (xs++[sc (.bool false),ic (w.a.p+n),sl id w.a.ts.length (Ac w.a.ts)])):=by
    rw[Agt,HG.out];refine EL.append hX.out (EL.single ?_);rw[Fo,if_pos ae];exact⟨id,rfl⟩
   clear hX HG
   repeat' (first|refine Z1 ?_|(refine Z8 ?_;intro κ hκ)|(refine Z4 ?_;clear hκ κ)|(refine Z2 ?_ ?_<;>intro h af<;>try exact Xp)|(refine Z6 ?_;intro idn jn ai aj ad aa ac ab)|refine Z3 ?_|exact⟨⟩|(apply hκ.out;clear hκ κ))
   refine Bm (by first|exact Ed) ((((hK.new _).put hK.nobj _).put hK.nobj _).put hK.nobj _) (Own.put (Own.put (Own.put (Own.new hO _) _ _) _ _) _ _) (by decide) (by rfl) (ak) (by rfl) (by rfl) (by decide) Agm Agm ?_;intro idn jn ai aj ad aa ac ab;simp only[Ab,Aa]at aa;refine Z3 ?_
   repeat' (first|refine Z1 ?_|(refine Z8 ?_;intro κ hκ)|(refine Z4 ?_;clear hκ κ)|(refine Z2 ?_ ?_<;>intro h af<;>try exact Xp)|(refine Z6 ?_;intro idn jn ai aj ad aa ac ab)|refine Z3 ?_|exact⟨⟩|(apply hκ.out;clear hκ κ))
   refine⟨r.body.length-(i+1),Agm,i+1,idn,xs++[sc (.bool false),ic (w.a.p+n),sl id w.a.ts.length (Ac w.a.ts)],?_⟩
   ((repeat' with_reducible refine And.intro ?_ ?_)<;>first|exact Xq|exact (aj.put Agm _)|exact (Own.put ai _ _)|exact (HX)|exact Xs)
  |false=>
   rw[ae]at hd;have HX:Agt (EL Pi ((r.body.take (i+1)).map (Fo n)) (xs++[sc (.bool false),ic w.a.p,sl id w.a.ts.length (Ac w.a.ts)])):=by
    rw[Agt,HG.out];refine EL.append hX.out (EL.single ?_);rw[Fo,if_neg (by rw[ae];simp)];exact⟨id,by rw[ae]⟩
   clear hX HG
   repeat' (first|refine Z1 ?_|(refine Z8 ?_;intro κ hκ)|(refine Z4 ?_;clear hκ κ)|(refine Z2 ?_ ?_<;>intro h af<;>try exact Xp)|(refine Z6 ?_;intro idn jn ai aj ad aa ac ab)|refine Z3 ?_|exact⟨⟩|(apply hκ.out;clear hκ κ))
   refine Bm (by first|exact Ed) ((hK.new _).put hK.nobj _) (Own.put (Own.new hO _) _ _) (by decide) (by rfl) (ak) (by rfl) (by rfl) (by decide) Agm Agm ?_;intro idn jn ai aj ad aa ac ab;simp only[Ab,Aa]at aa;refine Z3 ?_
   repeat' (first|refine Z1 ?_|(refine Z8 ?_;intro κ hκ)|(refine Z4 ?_;clear hκ κ)|(refine Z2 ?_ ?_<;>intro h af<;>try exact Xp)|(refine Z6 ?_;intro idn jn ai aj ad aa ac ab)|refine Z3 ?_|exact⟨⟩|(apply hκ.out;clear hκ κ))
   refine⟨r.body.length-(i+1),Agm,i+1,idn,xs++[sc (.bool false),ic w.a.p,sl id w.a.ts.length (Ac w.a.ts)],?_⟩
   ((repeat' with_reducible refine And.intro ?_ ?_)<;>first|exact Xq|exact (aj.put Agm _)|exact (Own.put ai _ _)|exact (HX)|exact Xs)
 ·have ao:i=r.body.length:=Agm;subst ao;rw[Adz]at hX;have hL:(r.body.map (Fo n)).length=r.body.length:=by simp
  repeat' (first|refine Z1 ?_|(refine Z8 ?_;intro κ hκ)|(refine Z4 ?_;clear hκ κ)|(refine Z2 ?_ ?_<;>intro h af<;>try exact Xp)|(refine Z6 ?_;intro idn jn ai aj ad aa ac ab)|refine Z3 ?_|exact⟨⟩|(apply hκ.out;clear hκ κ))
  exact⟨_,rfl,⟨_,rfl,false,ih,i3,xs,by simp only[wB];rw[hL],hX.out⟩,hK.put Agm _⟩
end Go.Proofs.YtmoeoppbmhfbpabGreatDoorG
