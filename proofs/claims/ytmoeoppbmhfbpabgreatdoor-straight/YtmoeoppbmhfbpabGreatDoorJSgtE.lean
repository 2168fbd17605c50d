import Derived.Test.YtmoeoppbmhfbpabGreatDoorJSgtA
import Derived.Test.YtmoeoppbmhfbpabGreatDoorJRoaF
import Derived.Test.YtmoeoppbmhfbpabGreatDoorJEngU
set_option maxHeartbeats 64000000
set_option maxRecDepth 100000
set_option linter.all false
namespace Go.Proofs.YtmoeoppbmhfbpabGreatDoorJ
open Go.Abs
def eK (k:Nat)(back:Bool):Tx:=Bp (B6 (Mh k back) k (· +1) fun _=>88)
theorem Yv {k j:Nat}(h:j<k):(xH k).getD j 0=j+1:=by simp[xH,h]
theorem nY {J:List Nat}{k:Nat}{g g':Nat->Nat}{v:Nat->UInt8}(h:∀j∈J,g j=g' j):B6 J k g v=B6 J k g' v:=by
 unfold B6;congr 1;exact Acu fun j hj=>by rw[h j hj]
theorem vU:∀k,k<15->∀b:Bool,(Ax (eK k b)).1=0:=by decide+kernel
section
variable {k:Nat} (h0:0<k) (h1:k<=14) (b:Bool)
include h0 h1
theorem sI:C2 (eK k b)=B6 (Mh k b) k (· +1) fun _=>88:=by
 have hJ:=iG h0 h1 b;have aa:(Mh k b).length=k:=by unfold Mh;split<;>simp
 have gn:∀j,j<15->xU (ck j):=fun j hj=>by
  refine⟨⟨by simp[ck],fun c hc=>?_⟩,by simp[ck]⟩;simp only[ck,Aci,Ac0,Ad5]at hc;rcases hc with rfl|rfl
  ·decide
  ·have:(UInt8.ofNat (97+j)).toNat=97+j:=by simp;omega
   unfold Be;rw[this];simp only[Abo,Ad3];omega
 have ge:xU [101]:=⟨⟨by simp,fun c hc=>by simp at hc;subst hc;decide⟩,by simp⟩;have gt:zN [88]:=.inl ⟨88,rfl,by decide⟩;have ga:∀p,xU p->tP ⟨false,p,[[88]]⟩:=fun p hp=>⟨hp,by simp,by simp,fun t ht=>by simp at ht;subst ht;exact gt⟩;have hg:∀x∈B6 (Mh k b) k (· +1) (fun _=>88),GIt x:=fun x hx=>by
  rcases cst_mem.1 hx with⟨j,hj,rfl⟩|rfl
  ·have ac:=(hJ.mem j).1 hj;have gt:xU (tn k (j+1)):=by
    unfold tn;split
    ·exact gn _ Ad6
    ·exact ge
   exact⟨gn j Ad6,(fun h=>by cases h),fun _=>⟨ga _ (gn j Ad6),rfl,by simp[Fl],fun a ha=>by
    simp only[Fl,Ac6]at ha;subst ha
    exact ga _ gt⟩⟩
  ·exact⟨gn 0 Ad6,fun _=>⟨rfl,rfl,rfl⟩,fun h=>by cases h⟩
 have hp:=Wa 16 _ hg (by simp[B6,aa];omega);have hl:(eK k b).length<=600:=by
  have:=Yt hJ (g:=(· +1)) (v:=fun _=>88);unfold Jo at this;simp only[Abo,Ad3]at this;exact this.2.2
 have ab:(Bp (B6 (Mh k b) k (· +1) fun _=>88)).length<=600:=hl;exact (Hv Ad6 hp).2.1
theorem qC {N:List Tx}{v:Nat->UInt8}(hS:lO k (fun j=>(List.replicate k k).getD j 0) v)(hN:∀x∈B6 (Mh k b) k (fun j=>(List.replicate k k).getD j 0) v,x.head.pred∈N/\∀a∈x.body,a.pred∈N){o:Option (List RItem)}(h:StS N (B6 (Mh k b) k (fun j=>(List.replicate k k).getD j 0) v) o):(k=1/\o=none)\/(1<k/\o=some [Fl (v 0) (ck 0) [101],coo]):=by
 have hJ:=iG h0 h1 b;have ac:(Mh k b).length=k:=by unfold Mh;split<;>simp
 have ab:∀j,j<k->tn k ((List.replicate k k).getD j 0)=[101]:=fun j hj=>by simp[tn,hj]
 obtain⟨M,hM,h⟩:=h;have au:ck 0∈N:=(hN coo (cst_mem.2 (.inr rfl))).1;have hW:∀{q:Tx},Way (Er (B6 (Mh k b) k (fun j=>(List.replicate k k).getD j 0) v)) (ck 0) q->q=[101]:=fun {q} w=>by
  have one:∀p q,Er (B6 (Mh k b) k (fun j=>(List.replicate k k).getD j 0) v) p q->q=[101]/\p≠[101]:=fun p q h=>by
   obtain⟨j,hj,rfl,rfl⟩:=dI hJ h;exact⟨ab j hj,dL j⟩
  cases w with
  |one e=>exact (one _ _ e).1
  |more e w=>
   have e1:=(one _ _ e).1;subst e1;cases w with
   |one e=>exact absurd rfl (one _ _ e).2
   |more e _=>exact absurd rfl (one _ _ e).2
 have hw:∀j,j<k->(G6 N (E5 N.length M N.length) (B6 (Mh k b) k (fun j=>(List.replicate k k).getD j 0) v) (N.idxOf (ck j))=true↔j=0):=fun j hj=>by
  have am:ck j∈N:=(hN _ (cst_mem.2 (.inl ⟨j,(hJ.mem j).2 hj,rfl⟩))).1;rw[oX hN hM am];constructor
  ·rintro⟨x,hx,ho,h⟩;rcases cst_mem.1 hx with⟨i,-,rfl⟩|rfl
   ·cases ho
   ·rcases h with h|h
    ·exact (Tr Ad6 Ad6 h).symm
    ·exact absurd (hW h) (dL j)
  ·rintro rfl;exact⟨coo,cst_mem.2 (.inr rfl),rfl,.inl rfl⟩
 have ak:H1 N (E5 N.length M N.length) (B6 (Mh k b) k (fun j=>(List.replicate k k).getD j 0) v)=[Fl (v 0) (ck 0) [101],coo]:=by
  have ae:G6 N (E5 N.length M N.length) (B6 (Mh k b) k (fun j=>(List.replicate k k).getD j 0) v) (N.idxOf (ck 0))=true:=(hw 0 h0).2 rfl;unfold H1;generalize hF:G6 N (E5 N.length M N.length) (B6 (Mh k b) k (fun j=>(List.replicate k k).getD j 0) v)=F at hw ae;have key:∀J:List Nat,J.Nodup->(∀i∈J,i<k)->(J.map fun j=>Fl (v j) (ck j) (tn k ((List.replicate k k).getD j 0))).filter (fun x=>F (N.idxOf x.head.pred))=if 0∈J then [Fl (v 0) (ck 0) [101]]else []:=fun J=>by
   induction J with
   |nil=>intros;rfl
   |cons i J ih=>
    intro hn hk;rw[Ac9]at hn;have ih:=ih hn.2 fun i' an=>hk i' (by simp[an]);have hi:=hk i (by simp);have ad:F (N.idxOf (Fl (v i) (ck i) (tn k ((List.replicate k k).getD i 0))).head.pred)=true↔i=0:=hw i hi;rw[Ab1,Adh,ih];by_cases e:i=0
    ·subst e;rw[if_pos (ad.2 rfl),if_neg hn.1,if_pos (by simp),ab 0 hi]
    ·rw[if_neg (fun g=>e (ad.1 g))];have:(0∈i::J)↔0∈J:=by
      rw[Aci];exact⟨fun h=>h.resolve_left fun h=>e h.symm,.inr⟩
     by_cases aa:0∈J
     ·rw[if_pos aa,if_pos (this.2 aa)]
     ·rw[if_neg aa,if_neg fun h=>aa (this.1 h)]
  unfold B6;rw[Adp,key _ hJ.nd fun i hi=>(hJ.mem i).1 hi,if_pos ((hJ.mem 0).2 h0)];have:[coo].filter (fun x=>F (N.idxOf x.head.pred))=[coo]:=by
   rw[Adh,if_pos (show F (N.idxOf coo.head.pred)=true from ae)];rfl
  rw[this];rfl
 have aj:(B6 (Mh k b) k (fun j=>(List.replicate k k).getD j 0) v).length=k+1:=by simp[B6,ac]
 rw[ak,aj]at h;rcases h with⟨h,rfl⟩|⟨h,h2⟩
 ·exact .inl ⟨by simp at h;omega,rfl⟩
 ·have hk:1<k:=by simp at h;omega
  have e1:([Fl (v 0) (ck 0) [101],coo]:List RItem)=B6 [0] 1 (fun _=>1) v:=rfl;have af:ChJ [0] 1:=⟨by simp,fun j=>by simp,Ad6,Ad6⟩;have ao:lO 1 (fun _=>1) v:=⟨fun j hj=>Ad6,hS.let_⟩;have hb:Dp N (B6 (Mh k b) k (fun j=>(List.replicate k k).getD j 0) v) [Fl (v 0) (ck 0) [101],coo]=true:=by
   unfold Dp;rw[e1,Yt af,Ws af ao,<-e1];have ap:=(hJ.mem 0).2 h0;have ai:yQ N [Fl (v 0) (ck 0) [101],coo]:=fun x hx=>by
    simp only[Aci,Ac0,Ad5]at hx;rcases hx with rfl|rfl
    ·have:=hN _ (cst_mem.2 (.inl ⟨0,ap,rfl⟩));rw[ab 0 h0]at this;exact this
    ·exact hN coo (cst_mem.2 (.inr rfl))
   rw[(rF hN ai).2 fun p hp hr=>?_]
   ·rfl
   ·have ah:p=ck 0\/p=[101]:=by
     obtain⟨x,hx,h⟩:=hp;simp only[Aci,Ac0,Ad5]at hx;rcases hx with rfl|rfl
     ·rcases h with h|⟨a,ha,h⟩
      ·exact .inl h.symm
      ·simp[Fl]at ha;subst ha;exact .inr h.symm
     ·rcases h with h|⟨a,ha,h⟩
      ·exact .inl h.symm
      ·simp[coo]at ha
    rcases ah with rfl|rfl
    ·exact⟨Fl (v 0) (ck 0) [101],by simp,rfl,rfl⟩
    ·obtain⟨x,hx,-,e⟩:=hr;rcases cst_mem.1 hx with⟨j,-,rfl⟩|rfl
     ·exact absurd e (dL j)
     ·exact absurd e (dL 0)
  rcases h2 with⟨h2,-⟩|⟨-,rfl⟩
  ·rw[hb]at h2;cases h2
  ·exact .inr ⟨hk,rfl⟩
end
theorem Aae {N:List Tx}{v:Nat->UInt8}(hv:v 0=88\/v 0=65)(hN:yQ N [Fl (v 0) (ck 0) [101],coo]){o:Option (List RItem)}(h:StS N [Fl (v 0) (ck 0) [101],coo] o):o=none:=by
 have e1:([Fl (v 0) (ck 0) [101],coo]:List RItem)=B6 (Mh 1 false) 1 (fun j=>(List.replicate 1 1).getD j 0) (fun _=>v 0):=rfl;rw[e1]at h hN
 rcases qC (k:=1) Ad6 Ad6 false (v:=fun _=>v 0) ⟨fun j hj=>by
  have:j=0:=Ad6
  subst this;simp,fun j=>hv⟩ hN h with⟨-,h⟩|⟨h,-⟩
 ·exact h
 ·omega
def iH:Tx:=[99,97,40,65,41,58,45,101,40,65,41,46,63,99,97,46]
theorem lA {c:UInt8}(h:c=88\/c=65):Fo [Fl c (ck 0) [101],coo]=iH:=by
 rcases h with rfl|rfl<;>kernel_rfl
theorem sH {k:Nat}(h0:0<k)(h1:k<=14)(b:Bool){r:Tx×Int×Int}(h:Fe W1 (eK k b) [117,115] 1000 r):r=(iH,((tO k b:Nat):Int)+(if 1<k then 1 else 0),0):=by
 unfold Fe at h;rw[if_neg (by rw[vU k Ad6 b];simp),if_neg (by decide),if_neg (by decide)]at h;obtain⟨N,l,cs,ar,l',m,hR,hA,-,hP,rfl⟩:=h;have hJ:=iG h0 h1 b;have hl:l=B6 (Mh k b) k (fun j=>(xH k).getD j 0) fun _=>88:=by
  rw[<-hR.items,sI h0 h1 b];exact nY fun j hj=>(Yv ((hJ.mem j).1 hj)).symm
 have ai:=hR.rt hA;subst hl;have hnm:=ai.nm;have hc:∀j,j<k->ck j∈N:=fun j hj=>(hnm _ (cst_mem.2 (.inl ⟨j,(hJ.mem j).2 hj,rfl⟩))).1;have he:[101]∈N:=by
  have:=(hnm _ (cst_mem.2 (.inl ⟨k-1,(hJ.mem _).2 Ad6,rfl⟩))).2 ⟨false,tn k ((xH k).getD (k-1) 0),[[88]]⟩ (by simp[Fl]);rw[Yv Ad6,tn,if_neg Ad6]at this;exact this
 have hN:∀g v,lO k g v->∀x∈B6 (Mh k b) k g v,x.head.pred∈N/\∀a∈x.body,a.pred∈N:=fun g v _ x hx=>by
  rcases cst_mem.1 hx with⟨j,hj,rfl⟩|rfl
  ·refine⟨hc j ((hJ.mem j).1 hj),fun a ha=>?_⟩;simp only[Fl,Ac6]at ha;subst ha;show tn k (g j)∈N;unfold tn;split
   ·rename_i h;exact hc _ h
   ·exact he
  ·exact⟨hc 0 h0,fun a ha=>by simp[coo]at ha⟩
 have hS:lO k (fun j=>(xH k).getD j 0) (fun _=>88):=⟨fun j hj=>by
  simp only[Yv hj];omega,fun j=>.inl rfl⟩
 have aa:=zA k Ad6 b;have aj:tO k b<999:=by
  unfold tO;split
  ·omega
  ·have:k*(k-1)<=14*13:=Adv h1 Ad6;omega
 obtain⟨la,ma,ha,ah⟩:=hP.cons _ _ rfl;obtain⟨lb,mb,ad,hd⟩:=ah.cons _ _ rfl;obtain⟨rfl,rfl⟩:=hd.nil_eq rfl;have c117:∀{l o},W1 N 117 l o->StU N l o:=fun h=>by
  rcases h with⟨h,-⟩|⟨h,-⟩|⟨h,-⟩|⟨-,h⟩|⟨h,-⟩<;>first|exact h|cases h
 have c115:∀{l o},W1 N 115 l o->StS N l o:=fun h=>by
  rcases h with⟨-,h⟩|⟨h,-⟩|⟨h,-⟩|⟨h,-⟩|⟨h,-⟩<;>first|exact h|cases h
 have up:∀{T T':List RItem->Option (List RItem)->Prop} {b m:Int} {l l':List RItem} {m':Int},(∀l o,T l o->T' l o)->Kn T' b m l l' m'->Kn T b m l l' m':=fun hT h=>by
  induction h with
  |full h=>exact .full h
  |stop h=>exact .stop fun o g=>h o (hT _ _ g)
  |step h1 h2 _ ih=>exact .step h1 (fun o g=>h2 o (hT _ _ g)) ih
 obtain⟨v',ab,hK⟩:=xG hJ hN 100 (xH k) (fun _=>88) 0 (by simp[xH]) hS (by rw[aa];simp;omega) (by rw[aa]);rw[aa]at hK;obtain⟨rfl,rfl⟩:=(up (T:=W1 N 117) (fun l o h=>c117 h) hK).eq ha;have ac:=hN _ _ ab;by_cases hk:1<k
 ·have ae:yQ N [Fl (v' 0) (ck 0) [101],coo]:=fun x hx=>by
   simp only[Aci,Ac0,Ad5]at hx;rcases hx with rfl|rfl
   ·exact⟨hc 0 h0,fun a ha=>by simp[Fl]at ha;subst ha;exact he⟩
   ·exact⟨hc 0 h0,fun a ha=>by simp[coo]at ha⟩
  obtain⟨rfl,rfl⟩:=(Kn.step (T:=W1 N 115) (m:=0+(tO k b:Nat)) (b:=1000) Ad6 (fun o h=>by
   rcases qC h0 h1 b ab ac (c115 h)with⟨e,-⟩|⟨-,h⟩
   ·omega
   ·exact h) (.stop fun o h=>Aae (ab.let_ 0) ae (c115 h))).eq ad
  rw[lA (ab.let_ 0),if_pos hk];simp
 ·have af:k=1:=Ad6
  obtain⟨rfl,rfl⟩:=(Kn.stop (T:=W1 N 115) (m:=0+(tO k b:Nat)) (b:=1000) (fun o h=>by
   rcases qC h0 h1 b ab ac (c115 h)with⟨-,h⟩|⟨e,-⟩
   ·exact h
   ·omega)).eq ad
  rw[if_neg hk];subst af;have e2:B6 (Mh 1 b) 1 (fun j=>(List.replicate 1 1).getD j 0) v'=[Fl (v' 0) (ck 0) [101],coo]:=by cases b<;>rfl
  rw[e2,lA (ab.let_ 0)];simp
theorem S3 (j:Nat)(hj:j<=20)(d:St):ACalls Tryz.prog 32 [ic (j:Int)] d fun r d'=>r=str (ck j)/\Keep d d':=by
 have hw:IntKind.u8.wrap (97+(j:Int))=97+(j:Int):=by
  have h1:IntKind.u8.wrap (97+(j:Int))=(97+(j:Int)) % 256:=rfl;omega
 have ad:({data:=#[]}:ByteArray)=bs []:=rfl;have ac:({data:=#[99]}:ByteArray)=bs [99]:=rfl;have ab:({data:=#[UInt8.ofNat (97+(j:Int)).toNat]}:ByteArray)=bs [UInt8.ofNat (97+(j:Int)).toNat]:=rfl;have HC:Aec ([99]++[UInt8.ofNat (97+(j:Int)).toNat]=ck j):=by
  rw[Aec,ck,show (97+(j:Int)).toNat=97+j by omega];rfl
 refine Z9 9 [.tmp 2] Tryz.func32 ?_
 repeat' (first|refine Z1 ?_|(refine Z8 ?_;intro κ hκ)|(refine Z4 ?_;clear hκ κ)|(refine Z2 ?_ ?_<;>intro h aa<;>try exact Xp)|refine Z7 ?_|exact⟨⟩|(apply hκ.out;clear hκ κ))
 exact⟨_,rfl,by rw[<-HC.out];rfl,Xs⟩
def tN (k i:Nat)(back:Bool):Tx:=Bp ((Mh i back).map fun j=>Fl 88 (ck j) (tn k (j+1)))
theorem dM (k i:Nat)(back:Bool):tN k (i+1) back=if back=true then (ck i++[40,88,41,58,45]++tn k (i+1)++[40,88,41,46])++tN k i back else tN k i back++(ck i++[40,88,41,58,45]++tn k (i+1)++[40,88,41,46]):=by
 have e:Bh (Fl 88 (ck i) (tn k (i+1)))++[46]=ck i++[40,88,41,58,45]++tn k (i+1)++[40,88,41,46]:=by
  simp[Bh,Fl,C5,Ay,Bf,Br,B9]
 cases back with
 |true=>
  unfold tN Mh Bp;simp only[if_true,List.range_succ,List.reverse_append,List.reverse_cons,List.reverse_nil,Acm,List.singleton_append,Ab1,Acz];rw[e]
 |false=>
  unfold tN Mh Bp;simp only[Acb,if_false,List.range_succ,Abx,Ab1,Ab2,Adx,Acz,List.flatMap_nil,Abz];rw[e]
theorem lB (k:Nat)(back:Bool):∀i,(tN k i back).length<=i*13
 |0=>by cases back<;>simp[tN,Mh,Bp]
 |i+1=>by
  have ih:=lB k back i;have h2:(tn k (i+1)).length<=2:=by unfold tn;split<;>simp[ck]
  rw[dM];split<;>simp[ck]<;>omega
theorem vV (k:Nat)(back:Bool):tN k k back++[63]++ck 0++[46]=eK k back:=by
 unfold tN eK B6;rw[show∀l m:List RItem,Bp (l++m)=Bp l++Bp m from fun l m=>by simp[Bp]];simp[Bp,coo,Bh]
theorem cO (k:Nat)(back:Bool)(hk:k<=14)(d:St):ACalls Tryz.prog 31 [ic (k:Int),sc (.bool back)] d fun r d'=>r=str (eK k back)/\Keep d d':=by
 have hL:=fun j hj d=>S3 j hj d;have ay:({data:=#[]}:ByteArray)=bs []:=rfl;have ax:({data:=#[101]}:ByteArray)=bs [101]:=rfl;have aw:({data:=#[40,88,41,58,45]}:ByteArray)=bs [40,88,41,58,45]:=rfl;have av:({data:=#[40,88,41,46]}:ByteArray)=bs [40,88,41,46]:=rfl;have au:({data:=#[63]}:ByteArray)=bs [63]:=rfl;have ap:({data:=#[46]}:ByteArray)=bs [46]:=rfl;refine Z9 39 [.tmp 4] Tryz.func31 ?_
 repeat' (first|refine Z1 ?_|(refine Z8 ?_;intro κ hκ)|(refine Z4 ?_;clear hκ κ)|(refine Z2 ?_ ?_<;>intro h ab<;>try exact Xp)|refine Z7 ?_|exact⟨⟩|(apply hκ.out;clear hκ κ))
 refine Ad (fun m s d'=>∃i:Nat,m=k-i/\i<=k/\s 0=ic (k:Int)/\s 1=sc (.bool back)/\s 5=str (tN k i back)/\s 6=ic (i:Int)/\Keep d d') k
  ⟨0,Ad6,Ad6,rfl,rfl,by cases back<;>rfl,rfl,Xs⟩ ?_
 rintro m s d' ⟨i,rfl,hi,h0,h1,h5,h6,hK⟩;have ad:=hK.nobj;have ak:=lB k back i;by_cases ao:i<k
 ·have ac:=dM k i back;have ah:=hL i Ad6;have af:=hL (i+1) Ad6;have ecl:(ck i).length=2:=rfl;have ae:((i+1:Nat):Int)=(i:Int)+1:=Ad6;rw[ae]at af;by_cases ai:i+1<k
  ·have et:tn k (i+1)=ck (i+1):=if_pos ai;have an:decide ((i:Int)+1<(k:Int))=true:=by simp;omega
   have ecn:(ck (i+1)).length=2:=rfl;rw[et]at ac;clear et hL;generalize ck i=c1 at*
   generalize ck (i+1)=c2 at*
   cases back with
   |true=>
    simp only[if_true]at ac
    repeat' (first|refine Z1 ?_|(refine Z8 ?_;intro κ hκ)|(refine Z4 ?_;clear hκ κ)|(refine Z2 ?_ ?_<;>intro h ab<;>try exact Xp)|(refine Z5 ?_;first|(refine Xi (af _) ?_;rintro _ _ ⟨rfl,aa⟩;(have hK:=hK.trans aa;have ad:=hK.nobj;clear aa))|(refine Xi (ah _) ?_;rintro _ _ ⟨rfl,aa⟩;(have hK:=hK.trans aa;have ad:=hK.nobj;clear aa)))|refine Z7 ?_|exact⟨⟩|(apply hκ.out;clear hκ κ))
    refine⟨k-(i+1),Ad6,i+1,?_⟩
    ((repeat' with_reducible refine And.intro ?_ ?_)<;>first|exact Xq|exact ((by rw[ac]))|exact Xs)
   |false=>
    simp only[Acb,if_false]at ac
    repeat' (first|refine Z1 ?_|(refine Z8 ?_;intro κ hκ)|(refine Z4 ?_;clear hκ κ)|(refine Z2 ?_ ?_<;>intro h ab<;>try exact Xp)|(refine Z5 ?_;first|(refine Xi (af _) ?_;rintro _ _ ⟨rfl,aa⟩;(have hK:=hK.trans aa;have ad:=hK.nobj;clear aa))|(refine Xi (ah _) ?_;rintro _ _ ⟨rfl,aa⟩;(have hK:=hK.trans aa;have ad:=hK.nobj;clear aa)))|refine Z7 ?_|exact⟨⟩|(apply hκ.out;clear hκ κ))
    refine⟨k-(i+1),Ad6,i+1,?_⟩
    ((repeat' with_reducible refine And.intro ?_ ?_)<;>first|exact Xq|exact ((by rw[ac]))|exact Xs)
  ·have et:tn k (i+1)=[101]:=if_neg ai;have an:decide ((i:Int)+1<(k:Int))=false:=by simp;omega
   rw[et]at ac;clear et hL af;generalize ck i=c1 at*
   cases back with
   |true=>
    simp only[if_true]at ac
    repeat' (first|refine Z1 ?_|(refine Z8 ?_;intro κ hκ)|(refine Z4 ?_;clear hκ κ)|(refine Z2 ?_ ?_<;>intro h ab<;>try exact Xp)|(refine Z5 ?_;refine Xi (ah _) ?_;rintro _ _ ⟨rfl,aa⟩;(have hK:=hK.trans aa;have ad:=hK.nobj;clear aa))|refine Z7 ?_|exact⟨⟩|(apply hκ.out;clear hκ κ))
    refine⟨k-(i+1),Ad6,i+1,?_⟩
    ((repeat' with_reducible refine And.intro ?_ ?_)<;>first|exact Xq|exact ((by rw[ac]))|exact Xs)
   |false=>
    simp only[Acb,if_false]at ac
    repeat' (first|refine Z1 ?_|(refine Z8 ?_;intro κ hκ)|(refine Z4 ?_;clear hκ κ)|(refine Z2 ?_ ?_<;>intro h ab<;>try exact Xp)|(refine Z5 ?_;refine Xi (ah _) ?_;rintro _ _ ⟨rfl,aa⟩;(have hK:=hK.trans aa;have ad:=hK.nobj;clear aa))|refine Z7 ?_|exact⟨⟩|(apply hκ.out;clear hκ κ))
    refine⟨k-(i+1),Ad6,i+1,?_⟩
    ((repeat' with_reducible refine And.intro ?_ ?_)<;>first|exact Xq|exact ((by rw[ac]))|exact Xs)
 ·have am:i=k:=Ad6;subst am;have HE:Aec _:=vV i back;have aj:=hL 0 Ad6;have ecl:(ck 0).length=2:=rfl;rw[show ((0:Nat):Int)=0 from rfl]at aj;clear hL;generalize ck 0=c0 at*
  repeat' (first|refine Z1 ?_|(refine Z8 ?_;intro κ hκ)|(refine Z4 ?_;clear hκ κ)|(refine Z2 ?_ ?_<;>intro h ab<;>try exact Xp)|(refine Z5 ?_;refine Xi (aj _) ?_;rintro _ _ ⟨rfl,aa⟩;(have hK:=hK.trans aa;have ad:=hK.nobj;clear aa))|refine Z7 ?_|exact⟨⟩|(apply hκ.out;clear hκ κ))
  first|exact⟨_,rfl,by rw[<-HE.out],hK⟩|exact⟨_,rfl,by rw[<-HE.out]⟩
structure SgD (w s:Tx):Prop where
 opt:∀r,Fe W1 w [108,108] 9 r->r=(s,1,0)
 run:∀(E:List Int) (base:Int) (t:Tx) (c e:Int),O6 s (H2 E base) 64 t c e->t=Mq (W6 E) [112] base true 64/\e=0
 ls:s.length<=600
 lw:w.length<=600
 cp:((s.count 112:Nat):Int)=((w.count 112:Nat):Int)-1
 ce:((s.count 101:Nat):Int)=((w.count 101:Nat):Int)+1
theorem Aad:SgD (oV++[63,112,46]) kP:=
 ⟨fun r h=>(Aa5 h).trans (by rw[show Fo [Cn [112] [101],Uu,W5]=kP by kernel_rfl]),fun E base t c e h=>kE Aa2 h,by decide,by decide,Ad9,Ad9⟩
theorem Aac:SgD (oU++[63,112,46]) kQ:=
 ⟨fun r h=>(Aa4 h).trans (by rw[show Fo [Uu,Cn [112] [101],W5]=kQ by kernel_rfl]),fun E base t c e h=>kE Aa1 h,by decide,by decide,Ad9,Ad9⟩
theorem yF {f:Int}(h0:2<=f)(h1:f<=3):∃s,SgD (oW (Gv f 4)++[63,112,46]) s:=by
 have:f=2\/f=3:=Ad6;rcases this with rfl|rfl
 ·exact⟨kP,Aad⟩
 ·exact⟨kQ,Aac⟩
theorem oT (k:Int):(oW k).length<=40:=by
 unfold oW;split
 ·decide
 split
 ·decide
 split<;>decide
theorem straight_spec (form base:Int)(hf:sY form)(hb:sY base)(E:List Int)(ide:Nat)(hE:∀x∈E,sY x)(len:Int)(hn:sY len)(back:Bool)(d:St):ACalls Tryz.prog 8 [ic form,ic base,sl ide E.length (icells E),ic len,sc (.bool back)] d fun r d'=>r=sc (.bool true)/\Keep d d':=by
 have bb:=fun d=>gK E ide hE d;have a0:=fun d=>Fc form 2 hf.1 hf.2 Ad6 Ad6 d;have au:=fun d=>Fc len 14 hn.1 hn.2 Ad6 Ad6 d;obtain⟨f0,f1⟩:=Fu form (n:=2) Ad6;obtain⟨q0,q1⟩:=Fu len (n:=14) Ad6;generalize Gv form 2=f at*
 generalize Gv len 14=q at*
 have a8:=fun d=>gI (2+f) Ad6 Ad6 d;obtain⟨s,hG⟩:=yF (f:=2+f) Ad6 Ad6;have bi:=oT (Gv (2+f) 4);generalize oW (Gv (2+f) 4)=w at*
 obtain⟨k,hk⟩:∃k:Nat,1+q=(k:Int):=⟨(1+q).toNat,Ad6⟩;have a5:0<k:=Ad6;have ao:k<=14:=Ad6
 have bc:=fun d=>Ku W1 (w++[63,112,46]) [108,108] 9 Ad6 (fun _ N ar c hc=>by
  have:c=108:=by simpa using hc
  subst this;exact psL N ar) d
 have av:=fun d=>Ku W1 (eK k back) [117,115] 1000 Ad6 (fun _ N ar c hc=>by
  have:c=117\/c=115:=by simpa using hc
  rcases this with rfl|rfl
  ·exact psU N ar
  ·exact psS N ar) d
 have bd:=fun d=>cN E ide base hE hb d;have ba:=fun d=>qD s (H2 E base) 64 d;have ay:=fun d=>cO k back ao d;have am:=fun d=>S3 0 Ad6 d;have c1:=fun d=>Ij s 112 (by have:=hG.ls;omega) d;have c2:=fun d=>Ij (w++[63,112,46]) 112 (by have:=hG.lw;omega) d;have c3:=fun d=>Ij s 101 (by have:=hG.ls;omega) d;have c4:=fun d=>Ij (w++[63,112,46]) 101 (by have:=hG.lw;omega) d;have e112:((112:UInt8).toNat:Int)=112:=rfl;have e101:((101:UInt8).toNat:Int)=101:=rfl;rw[e112]at c1 c2;rw[e101]at c3 c4;have a6:=hG.cp;have a7:=hG.ce;have bo:(w++[63,112,46]).count 112<=(w++[63,112,46]).length:=List.count_le_length;have bn:(w++[63,112,46]).count 101<=(w++[63,112,46]).length:=List.count_le_length;have bl:=hG.lw;have bf:Aec _:=hG.opt;have be:Aec _:=hG.run E base;have ai:Aec _:=fun r h=>sH a5 ao back (r:=r) h;have a9:∀(o:Nat) (d:St),d.obj o=Gf (Uh (E.take 24)) (W6 E)->o<d.nobj->ACalls Tryz.prog 30 [ptr o 0,sc (.string (bs [112])),ic base,sc (.bool true)] d fun r d'=>r=str (Mq (W6 E) [112] base true 64)/\d'=d:=fun o d h1 h2=>gJ o _ _ [112] base true (by simp) hb d h1 h2;have z0:({data:=#[]}:ByteArray)=bs []:=rfl;have z1:({data:=#[112]}:ByteArray)=bs [112]:=rfl;have z2:({data:=#[108,108]}:ByteArray)=bs [108,108]:=rfl;have z3:({data:=#[63,112,46]}:ByteArray)=bs [63,112,46]:=rfl;have z4:({data:=#[117,115]}:ByteArray)=bs [117,115]:=rfl;have z5:({data:=#[40,65,41,58,45,101,40,65,41,46,63]}:ByteArray)=bs [40,65,41,58,45,101,40,65,41,46,63]:=rfl;have z6:({data:=#[46]}:ByteArray)=bs [46]:=rfl;generalize hW:w++[63,112,46]=W at*
 generalize W.count 112=wp at*
 generalize W.count 101=we at*
 generalize s.count 112=sp at*
 generalize s.count 101=se at*
 generalize Mq (W6 E) [112] base true 64=TA at*
 generalize H2 E base=fa at*
 generalize Gf (Uh (E.take 24)) (W6 E)=em at*
 clear hE hf hb hn hG;refine Z9 116 [.tmp 10] Tryz.func8 ?_
 repeat' (first|refine Z1 ?_|(refine Z8 ?_;intro κ hκ)|(refine Z4 ?_;clear hκ κ)|(refine Z2 ?_ ?_<;>intro h ad<;>try exact Xp)|(refine Z5 ?_;first|(refine Xi (bb _) ?_;rintro _ _ ⟨o,rfl,ho,aj,ak,a3⟩;(have az:=a3.nobj))|(refine Xi (a0 _) ?_;rintro _ _ ⟨rfl,rfl⟩)|(refine Xi (a8 _) ?_;rintro _ _ ⟨rfl,rfl⟩))|refine Z7 ?_|exact⟨⟩|(apply hκ.out;clear hκ κ))
 refine ACalls.mono (bc _) ?_;rintro _ d2 ⟨p0,rfl,a4,ax⟩;have e0:=bf.out _ a4;subst e0;have b0:(((0:Int)) !=0)=false:=rfl;have b1:(((1:Int)) !=1)=false:=rfl;have b2:(((sp:Nat):Int) !=((wp:Nat):Int)-1)=false:=by simp[a6]
 have b3:(((se:Nat):Int) !=((we:Nat):Int)+1)=false:=by simp[a7]
 have aa:=a3.trans ax;have ab:=aa.nobj;have ak:=(ax.obj o aj).trans ak;have aj:=Abh aj ax.nobj;clear bc bf a4 a3 ax az bb a0 a8 a6 a7;refine Z7 ?_
 repeat' (first|refine Z1 ?_|(refine Z8 ?_;intro κ hκ)|(refine Z4 ?_;clear hκ κ)|(refine Z2 ?_ ?_<;>intro h ad<;>try exact Xp)|(refine Z5 ?_;first|(refine Xi (c1 _) ?_;rintro _ _ ⟨rfl,rfl⟩)|(refine Xi (c2 _) ?_;rintro _ _ ⟨rfl,rfl⟩)|(refine Xi (c3 _) ?_;rintro _ _ ⟨rfl,rfl⟩)|(refine Xi (c4 _) ?_;rintro _ _ ⟨rfl,rfl⟩)|(refine Xi (bd _) ?_;rintro _ _ ⟨rfl,rfl⟩))|refine Z7 ?_|exact⟨⟩|(apply hκ.out;clear hκ κ))
 refine ACalls.mono (ba _) ?_;rintro _ d3 ⟨x1,d1,e1,rfl,hx,aw⟩;obtain⟨g1,g2⟩:=be.out _ _ _ hx;subst g1;subst g2;have ak:=(aw.obj o aj).trans ak;have aj:=Abh aj aw.nobj;have ap:=a9 o _ ak aj;have aa:=aa.trans aw;have ab:=aa.nobj;have b4:(x1 !=x1)=false:=by simp
 clear c1 c2 c3 c4 bd ba be hx aw a9 ak b2 b3;have bg:=ao;obtain⟨P,hP,bp,a0,bh⟩:∃P:Int,(k:Int)*((k:Int)-1)=P/\0<=P/\P<=182/\Int.tdiv P 2=((k*(k-1) / 2:Nat):Int):=by
  have:∀k:Nat,k<15->0<k->0<=(k:Int)*((k:Int)-1)/\(k:Int)*((k:Int)-1)<=182/\Int.tdiv ((k:Int)*((k:Int)-1)) 2=((k*(k-1) / 2:Nat):Int):=by decide
  obtain⟨h1,h2,h3⟩:=this k Ad6 a5;exact⟨_,rfl,h1,h2,h3⟩
 have bm:k*(k-1) / 2<=91:=by
  have:k*(k-1)<=14*13:=Adv ao Ad6;omega
 have HE:Aec (iH=ck 0++[40,65,41,58,45,101,40,65,41,46,63]++ck 0++[46]):=rfl;have ecl:(ck 0).length=2:=rfl;rw[show ((0:Nat):Int)=0 from rfl]at am;have b5:(((0:Int))==0)=true:=rfl;by_cases an:1<k
 ·have b6:decide ((1:Int)<(k:Int))=true:=by simp;omega
  cases back with
  |true=>
   have b7:∀r,Fe W1 (eK k true) [117,115] 1000 r->r=(iH,(k:Int)-1+1,0):=fun r h=>by
    rw[ai.out r h,if_pos an];simp only[tO,if_true,Acb,if_false]
    all_goals first|(congr 2;omega)|simp
   have HB:Aec _:=b7;have b8:((k:Int)-1+1==(k:Int)-1+1)=true:=by simp
   clear b7 ai;have b9:(iH==ck 0++[40,65,41,58,45,101,40,65,41,46,63]++ck 0++[46])=true:=by rw[HE.out];simp
   clear HE;generalize iH=ce at*
   generalize ck 0=c0 at*
   generalize eK k true=ct at*
   generalize k*(k-1) / 2=n at*
   refine Z7 ?_
   repeat' (first|refine Z1 ?_|(refine Z8 ?_;intro κ hκ)|(refine Z4 ?_;clear hκ κ)|(refine Z2 ?_ ?_<;>intro h ad<;>try exact Xp)|(refine Z5 ?_;first|(refine Xi (ap) ?_;rintro _ _ ⟨rfl,rfl⟩)|(refine Xi (au _) ?_;rintro _ _ ⟨rfl,rfl⟩)|(refine Xi (ay _) ?_;rintro _ _ ⟨rfl,ah⟩;(have aa:=aa.trans ah;have ab:=aa.nobj;clear ah))|(refine Xi (av _) ?_;rintro _ _ ⟨p1,rfl,ac,af⟩;(have ee:=HB.out _ ac;subst ee;clear ac;have aa:=aa.trans af;have ab:=aa.nobj;clear af))|(refine Xi (am _) ?_;rintro _ _ ⟨rfl,ae⟩;(have aa:=aa.trans ae;have ab:=aa.nobj;clear ae)))|refine Z7 ?_|exact⟨⟩|(apply hκ.out;clear hκ κ))
   first|exact⟨_,rfl,rfl,aa⟩|exact⟨_,rfl,rfl⟩|exact⟨_,rfl,aa⟩
  |false=>
   have b7:∀r,Fe W1 (eK k false) [117,115] 1000 r->r=(iH,((k*(k-1) / 2:Nat):Int)+1,0):=fun r h=>by
    rw[ai.out r h,if_pos an];simp only[tO,if_true,Acb,if_false]
    all_goals first|(congr 2;omega)|simp
   have HB:Aec _:=b7;have b8:(((k*(k-1) / 2:Nat):Int)+1==((k*(k-1) / 2:Nat):Int)+1)=true:=by simp
   clear b7 ai;have b9:(iH==ck 0++[40,65,41,58,45,101,40,65,41,46,63]++ck 0++[46])=true:=by rw[HE.out];simp
   clear HE;generalize iH=ce at*
   generalize ck 0=c0 at*
   generalize eK k false=ct at*
   generalize k*(k-1) / 2=n at*
   refine Z7 ?_
   repeat' (first|refine Z1 ?_|(refine Z8 ?_;intro κ hκ)|(refine Z4 ?_;clear hκ κ)|(refine Z2 ?_ ?_<;>intro h ad<;>try exact Xp)|(refine Z5 ?_;first|(refine Xi (ap) ?_;rintro _ _ ⟨rfl,rfl⟩)|(refine Xi (au _) ?_;rintro _ _ ⟨rfl,rfl⟩)|(refine Xi (ay _) ?_;rintro _ _ ⟨rfl,ah⟩;(have aa:=aa.trans ah;have ab:=aa.nobj;clear ah))|(refine Xi (av _) ?_;rintro _ _ ⟨p1,rfl,ac,af⟩;(have ee:=HB.out _ ac;subst ee;clear ac;have aa:=aa.trans af;have ab:=aa.nobj;clear af))|(refine Xi (am _) ?_;rintro _ _ ⟨rfl,ae⟩;(have aa:=aa.trans ae;have ab:=aa.nobj;clear ae)))|refine Z7 ?_|exact⟨⟩|(apply hκ.out;clear hκ κ))
   first|exact⟨_,rfl,rfl,aa⟩|exact⟨_,rfl,rfl⟩|exact⟨_,rfl,aa⟩
 ·have b6:decide ((1:Int)<(k:Int))=false:=by simp;omega
  cases back with
  |true=>
   have b7:∀r,Fe W1 (eK k true) [117,115] 1000 r->r=(iH,(k:Int)-1,0):=fun r h=>by
    rw[ai.out r h,if_neg an];simp only[tO,if_true,Acb,if_false]
    all_goals first|(congr 2;omega)|simp
   have HB:Aec _:=b7;have b8:((k:Int)-1==(k:Int)-1)=true:=by simp
   clear b7 ai;have b9:(iH==ck 0++[40,65,41,58,45,101,40,65,41,46,63]++ck 0++[46])=true:=by rw[HE.out];simp
   clear HE;generalize iH=ce at*
   generalize ck 0=c0 at*
   generalize eK k true=ct at*
   generalize k*(k-1) / 2=n at*
   refine Z7 ?_
   repeat' (first|refine Z1 ?_|(refine Z8 ?_;intro κ hκ)|(refine Z4 ?_;clear hκ κ)|(refine Z2 ?_ ?_<;>intro h ad<;>try exact Xp)|(refine Z5 ?_;first|(refine Xi (ap) ?_;rintro _ _ ⟨rfl,rfl⟩)|(refine Xi (au _) ?_;rintro _ _ ⟨rfl,rfl⟩)|(refine Xi (ay _) ?_;rintro _ _ ⟨rfl,ah⟩;(have aa:=aa.trans ah;have ab:=aa.nobj;clear ah))|(refine Xi (av _) ?_;rintro _ _ ⟨p1,rfl,ac,af⟩;(have ee:=HB.out _ ac;subst ee;clear ac;have aa:=aa.trans af;have ab:=aa.nobj;clear af))|(refine Xi (am _) ?_;rintro _ _ ⟨rfl,ae⟩;(have aa:=aa.trans ae;have ab:=aa.nobj;clear ae)))|refine Z7 ?_|exact⟨⟩|(apply hκ.out;clear hκ κ))
   first|exact⟨_,rfl,rfl,aa⟩|exact⟨_,rfl,rfl⟩|exact⟨_,rfl,aa⟩
  |false=>
   have b7:∀r,Fe W1 (eK k false) [117,115] 1000 r->r=(iH,((k*(k-1) / 2:Nat):Int),0):=fun r h=>by
    rw[ai.out r h,if_neg an];simp only[tO,if_true,Acb,if_false]
    all_goals first|(congr 2;omega)|simp
   have HB:Aec _:=b7;have b8:(((k*(k-1) / 2:Nat):Int)==((k*(k-1) / 2:Nat):Int))=true:=by simp
   clear b7 ai;have b9:(iH==ck 0++[40,65,41,58,45,101,40,65,41,46,63]++ck 0++[46])=true:=by rw[HE.out];simp
   clear HE;generalize iH=ce at*
   generalize ck 0=c0 at*
   generalize eK k false=ct at*
   generalize k*(k-1) / 2=n at*
   refine Z7 ?_
   repeat' (first|refine Z1 ?_|(refine Z8 ?_;intro κ hκ)|(refine Z4 ?_;clear hκ κ)|(refine Z2 ?_ ?_<;>intro h ad<;>try exact Xp)|(refine Z5 ?_;first|(refine Xi (ap) ?_;rintro _ _ ⟨rfl,rfl⟩)|(refine Xi (au _) ?_;rintro _ _ ⟨rfl,rfl⟩)|(refine Xi (ay _) ?_;rintro _ _ ⟨rfl,ah⟩;(have aa:=aa.trans ah;have ab:=aa.nobj;clear ah))|(refine Xi (av _) ?_;rintro _ _ ⟨p1,rfl,ac,af⟩;(have ee:=HB.out _ ac;subst ee;clear ac;have aa:=aa.trans af;have ab:=aa.nobj;clear af))|(refine Xi (am _) ?_;rintro _ _ ⟨rfl,ae⟩;(have aa:=aa.trans ae;have ab:=aa.nobj;clear ae)))|refine Z7 ?_|exact⟨⟩|(apply hκ.out;clear hκ κ))
   first|exact⟨_,rfl,rfl,aa⟩|exact⟨_,rfl,rfl⟩|exact⟨_,rfl,aa⟩
end Go.Proofs.YtmoeoppbmhfbpabGreatDoorJ
