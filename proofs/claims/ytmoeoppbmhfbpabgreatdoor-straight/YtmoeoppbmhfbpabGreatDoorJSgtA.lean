import Derived.Test.YtmoeoppbmhfbpabGreatDoorJRoaF
import Derived.Test.YtmoeoppbmhfbpabGreatDoorJOpuB
import Derived.KernelRfl
set_option maxRecDepth 100000
set_option linter.all false
namespace Go.Proofs.YtmoeoppbmhfbpabGreatDoorJ
open Go.Abs
def itmR:List RItem:=[⟨false,at2 false 112 65 66,[at2 false 101 65 67,at2 false 112 67 66]⟩,⟨false,at2 false 112 65 66,[at2 false 101 65 66]⟩]
def kP:Tx:=[112,40,65,44,66,41,58,45,101,40,65,44,67,41,44,112,40,67,44,66,41,46,112,40,65,44,66,41,58,45,101,40,65,44,66,41,46,63,112,46]
def kQ:Tx:=[112,40,65,44,66,41,58,45,101,40,65,44,66,41,46,112,40,65,44,66,41,58,45,101,40,65,44,67,41,44,112,40,67,44,66,41,46,63,112,46]
theorem Aab {N:List Tx}{B D:Cj}:Ui (itmR.map (A6 N)) B D↔aG 0 N D:=by
 have:=step0 (N:=N) (B:=B) (D:=D);unfold itm0 at this;rw[Yu]at this;unfold itmR;rw[Yu,and_comm];exact this
structure wI (t:Tx)(R:List RItem):Prop where
 par:Bj 16 t= .got (R++[oi 112]) []
 chk:(Ax t).1=0
 len:t.length<=600
 rl0:Kb (R++[oi 112]) 0=R
 rl1:Kb (R++[oi 112]) 1=[]/\Kb (R++[oi 112]) 2=[]/\Kb (R++[oi 112]) 3=[]
 l3:(R++[oi 112]).length=3
 two:∀x∈R,x.out=false
 stp:∀(N:List Tx) (B D:Cj),Ui (R.map (A6 N)) B D↔aG 0 N D
 ats:∀a∈(R++[oi 112]).flatMap Af,a.terms.length=(if a.pred=[118]then 1 else 2)
 nms:∀y∈R++[oi 112],y.head.pred=[112]
 edg:∃y∈R,∃a∈y.body,a.pred=[101]
theorem Aa2:wI kP itmR:=⟨Ad9,Ad9,by decide,Ad9,⟨Ad9,Ad9,Ad9⟩,rfl,by decide,fun N B D=>Aab,by decide,by decide,by decide⟩
theorem Aa1:wI kQ itm0:=⟨Ad9,Ad9,by decide,Ad9,⟨Ad9,Ad9,Ad9⟩,rfl,by decide,fun N B D=>step0,by decide,by decide,by decide⟩
section
variable {E:List Int} {base:Int} {N:List Tx} {M:MM}
theorem Aah (t:Bc):P1 E base N M (N.idxOf [112]) t↔t∈Lw E base true:=by
 rw[yS];constructor
 ·rintro (⟨-,a,b,h1,h2⟩|⟨h,-⟩)
  ·obtain⟨h3,h4⟩:=zP h1;exact⟨a,b,h3,h4,h1,h2⟩
  ·exact absurd rfl h
 ·rintro⟨a,b,-,-,h1,h2⟩;exact .inl ⟨rfl,a,b,h1,h2⟩
theorem qM (h:tI E base N M){x:Tx}{R:List RItem}(hK:wI x R)(j:Nat)(t:Bc):PMi N (R++[oi 112]) (MD M) 4 j t↔P1 E base N M j t:=by
 have e1:PMi N (R++[oi 112]) (MD M) 1=P1 E base N M:=by
  funext j t;show LstG ((Kb (R++[oi 112]) 0).map (A6 N)) (MD M) j t=_;rw[hK.rl0];exact propext (yN h hK.stp j t)
 have up:∀s,Kb (R++[oi 112]) s=[]->PMi N (R++[oi 112]) (MD M) s=P1 E base N M->PMi N (R++[oi 112]) (MD M) (s+1)=P1 E base N M:=fun s hs g=>by
  funext j t;show LstG ((Kb (R++[oi 112]) s).map (A6 N)) (PMi N (R++[oi 112]) (MD M) s) j t=_;rw[hs,g];exact propext (vB j t)
 obtain⟨r1,r2,r3⟩:=hK.rl1;rw[up 3 r3 (up 2 r2 (up 1 r1 e1))]
theorem Aa7 (h:tI E base N M){M2:MM}(hl:M2.length=M.length)(ab:∀x∈M2,x.2.Nodup)(hs:∀k t,MD M2 k t->P1 E base N M k t):tot M2<=tot M+64:=by
 have hp:=Ac4 h.p;have ac:=h.mm.len;have ad:=xY E;have aa:=aE ((wl E true).length:Int) M.length (N.idxOf [112]);rw[if_pos Ad6]at aa;have:=jV M M2 (fun k=>if k=N.idxOf [112]then ((wl E true).length:Int)else 0) hl fun k hk=>by
  have hn:=row_nodup ab k;by_cases e1:k=N.idxOf [112]
  ·have:=Sa _ (Lw E base true) hn (fun t ht=>(Aah (M:=M) t).1 (by rw[<-e1];exact hs k t ht));simp only[if_pos e1];simp only[Lw,Adc]at this;omega
  ·have:=Sa _ (Au M (k:Int)) hn (fun t ht=>by
    rcases hs k t ht with⟨g,-⟩|⟨-,g⟩
    ·exact absurd g e1
    ·exact g)
   simp only[if_neg e1];omega
 omega
end
theorem kE {x:Tx}{R:List RItem}(hK:wI x R){E:List Int}{base:Int}{t:Tx}{c e:Int}(h:O6 x (H2 E base) 64 t c e):t=Mq (W6 E) [112] base true 64/\e=0:=by
 unfold O6 at h;have hf:=cV E base;have ae:=hK.len;rw[if_neg (by have:=hf.2;omega),if_neg (by rw[hK.chk];simp),if_neg Ad6]at h;obtain⟨l,hl,h⟩:=h;rw[hK.par]at hl;cases hl;have h0:J9 (R++[oi 112]) (H2 E base)=0:=by
  unfold J9;rw[hf.1];have h1:Kq ((R++[oi 112]).flatMap Af) (G3 E base)=false:=by
   refine qT (sE (f:=fun p=>if p=[118]then 1 else 2) (fun p=>by split<;>omega) (fun a ha=>?_));rcases Aco.1 ha with h|h
   ·exact hK.ats a h
   ·rcases S7 h with⟨e1,e2⟩|⟨e1,e2⟩
    ·rw[e1,e2];rfl
    ·rw[e1,e2];rfl
  have h2:(G3 E base).any (fun a=>fH (R++[oi 112]) a.pred)=false:=by
   rw[Ac1];intro a ha;unfold fH;rw[Bool.not_eq_true,Ac1];intro y hy;simp only[Abo,Ad3,not_and];intro _ e;rw[hK.nms y hy]at e;rcases S7 ha with⟨e1,-⟩|⟨e1,-⟩<;>rw[e1]at e<;>exact absurd e (by decide)
  simp only[h1,h2,Acb,if_false]
 rw[if_neg (by rw[h0];simp)]at h;obtain⟨F,hF,N,M,M',d,hN,ai,ah,h3,hI,h⟩:=h;rw[hf.1]at hF;cases hF;rw[hK.l3]at hI;have hE:tI E base N M:=by
  refine⟨(hN (oi 112) (by simp)).1,?_,?_,ah⟩
  ·obtain⟨y,hy,a,ha,e⟩:=hK.edg;rw[<-e];exact (hN y (Aco.2 (.inl hy))).2 a ha
  ·exact ai (vA base 7) (Aco.2 (.inr (by simp)))
 obtain⟨hl,hd,hI⟩:=hI;rcases hI with⟨hb,hm,ab⟩|⟨hb,M2,af,aa,-,ac,aj⟩
 ·have ad:∀k t,MD M' k t↔P1 E base N M k t:=fun k t=>(hm k t).trans (qM hE hK k t);rw[if_neg hb]at h;obtain⟨rfl,-,rfl,-⟩:=h;refine⟨?_,rfl⟩;have r1:Ig (Au M' ((N.idxOf [112]:Nat):Int))=Lw E base true:=(kI (yJ h3 _) (uT (tF _ _ _) (row_nodup ab _) (fun t=>((ad _ t).trans (Aah t)).symm)) (wK _ _ _)).symm;unfold Pd Et;rw[Ac8,Vo _ hK.two,Abr,List.foldl_nil];unfold Ic;rw[if_pos ⟨rfl,by simp⟩];show []++(Ig (Au M' ((N.idxOf [112]:Nat):Int))).flatMap (F6 [112])=_;rw[r1,wJ];rfl
 ·have h1:=Aa7 hE af aa (fun k t g=>(qM hE hK k t).1 (ac k t g));omega
def dA:RItem:=⟨false,⟨false,[112],[[67],[65]]⟩,[⟨false,[112],[[67],[66]]⟩,⟨false,[112],[[66],[65]]⟩]⟩
def dB:RItem:=⟨false,⟨false,[112],[[67],[66]]⟩,[⟨false,[112],[[67],[65]]⟩,⟨false,[112],[[65],[66]]⟩]⟩
def tDA:Tx:=[112,40,67,44,65,41,58,45,112,40,67,44,66,41,44,112,40,66,44,65,41,46,112,40,65,44,66,41,58,45,101,40,65,44,66,41,46,63,112,46]
def tDB:Tx:=[112,40,65,44,66,41,58,45,101,40,65,44,66,41,46,112,40,67,44,66,41,58,45,112,40,67,44,65,41,44,112,40,65,44,66,41,46,63,112,46]
theorem aI {N:List Tx}{l:List RItem}{i:Nat}{x:RItem}{e:Tx}{o:Option (List RItem)}(hx:l[i]?=some x)(ha:Lo x=true)(he:Hu l i x.head.pred=some e)(hb:Dp N l (Du i [Cn x.head.pred e] l)=true)(hn:∀j,j<i->∀y,l[j]?=some y->Lo y=false)(h:StL N l o):o=some (Du i [Cn x.head.pred e] l):=by
 have k1:Ug N l i=true:=by unfold Ug;rw[hx];simp only;rw[ha,he];exact hb
 have k0:∀j,j<i->Ug N l j=false:=fun j hj=>by
  unfold Ug;cases hy:l[j]? with
  |none=>rfl
  |some y=>simp only;rw[hn j hj y hy];rfl
 rcases h with⟨-,h⟩|⟨j,y,e2,rfl,h1,-,h3,h4,h5⟩
 ·rw[h i (List.getElem?_eq_some_iff.1 hx).1]at k1;cases k1
 ·rcases Nat.lt_trichotomy j i with g|g|g
  ·rw[k0 j g]at h4;cases h4
  ·subst g;rw[hx]at h1;cases h1;rw[he]at h3;cases h3;rfl
  ·rw[h5 i g]at k1;cases k1
theorem aJ {N:List Tx}{l:List RItem}{o:Option (List RItem)}(hn:∀y∈l,Lo y=false)(h:StL N l o):o=none:=by
 rcases h with⟨h,-⟩|⟨j,y,e2,rfl,h1,h2,-⟩
 ·exact h
 ·rw[hn y (Abm h1)]at h2;cases h2
theorem iP:∀y∈[Cn [112] [101],Uu,W5],Lo y=false:=fun y hy=>by
 simp only[Aci,Ac0,Ad5]at hy;rcases hy with rfl|rfl|rfl
 ·kernel_rfl
 ·kernel_rfl
 ·kernel_rfl
theorem rB {N:List Tx}{l l1 l':List RItem}{m:Int}(h1:∀o,StL N l o->o=some l1)(h2:∀o,StL N l1 o->o=none)(h:GPss (W1 N) 9 l 0 [108,108] l' m):l'=l1/\m=1:=by
 obtain⟨la,ma,ha,hb⟩:=h.cons _ _ rfl;obtain⟨lb,mb,hc,hd⟩:=hb.cons _ _ rfl;obtain⟨rfl,rfl⟩:=hd.nil_eq rfl;have c108:∀{l o},W1 N 108 l o->StL N l o:=fun h=>by
  rcases h with⟨h,-⟩|⟨h,-⟩|⟨h,-⟩|⟨h,-⟩|⟨-,h⟩<;>first|exact h|cases h
 obtain⟨rfl,rfl⟩:=(Kn.step (m:=0) (b:=9) (by decide) (fun o h=>h1 o (c108 h)) (.stop fun o h=>h2 o (c108 h))).eq ha;obtain⟨rfl,rfl⟩:=(Kn.stop (m:=0+1) (b:=9) fun o h=>h2 o (c108 h)).eq hc;exact⟨rfl,rfl⟩
theorem Aa5 {r:Tx×Int×Int}(h:Fe W1 tDA [108,108] 9 r):r=(Fo [Cn [112] [101],Uu,W5],1,0):=by
 unfold Fe at h;rw[if_neg (by rw[show (Ax tDA).1=0 by kernel_rfl];simp),if_neg (by decide),if_neg (by decide)]at h;obtain⟨N,l,cs,ar,l',m,hR,-,-,hP,rfl⟩:=h;have hl:l=[dA,Uu,W5]:=by rw[<-hR.items];kernel_rfl
 subst hl;have hb:Dp N [dA,Uu,W5] [Cn [112] [101],Uu,W5]=true:=by
  unfold Dp;rw[show Jo [Cn [112] [101],Uu,W5]=true by kernel_rfl,show (Ct [Cn [112] [101],Uu,W5]).1=0 by kernel_rfl,Yc fun k h=>by simpa[Cb,Uu,W5,dA,X5,Cn]using h];rfl
 obtain⟨rfl,rfl⟩:=rB (l1:=[Cn [112] [101],Uu,W5]) (fun o h=>aI (i:=0) (x:=dA) (e:=[101]) rfl Ad9 Ad9 hb (fun j hj=>Ad6) h) (fun o h=>aJ iP h) hP;rfl
theorem Aa4 {r:Tx×Int×Int}(h:Fe W1 tDB [108,108] 9 r):r=(Fo [Uu,Cn [112] [101],W5],1,0):=by
 unfold Fe at h;rw[if_neg (by rw[show (Ax tDB).1=0 by kernel_rfl];simp),if_neg (by decide),if_neg (by decide)]at h;obtain⟨N,l,cs,ar,l',m,hR,-,-,hP,rfl⟩:=h;have hl:l=[Uu,dB,W5]:=by rw[<-hR.items];kernel_rfl
 subst hl;have hb:Dp N [Uu,dB,W5] [Uu,Cn [112] [101],W5]=true:=by
  unfold Dp;rw[show Jo [Uu,Cn [112] [101],W5]=true by kernel_rfl,show (Ct [Uu,Cn [112] [101],W5]).1=0 by kernel_rfl,Yc fun k h=>by simpa[Cb,Uu,W5,dB,X5,Cn]using h];rfl
 obtain⟨rfl,rfl⟩:=rB (l1:=[Uu,Cn [112] [101],W5]) (fun o h=>aI (i:=1) (x:=dB) (e:=[101]) rfl Ad9 Ad9 hb (fun j hj y hy=>by
  have:j=0:=Ad6;subst this;cases hy
  exact iP Uu (by simp)) h) (fun o h=>aJ (fun y hy=>iP y (by simp at hy⊢;rcases hy with h|h|h<;>simp[h])) h) hP
 rfl
def ck (j:Nat):Tx:=[99,UInt8.ofNat (97+j)]
def tn (k m:Nat):Tx:=if m<k then ck m else [101]
def Fl (v:UInt8)(p q:Tx):RItem:=⟨false,⟨false,p,[[v]]⟩,[⟨false,q,[[v]]⟩]⟩
def coo:RItem:=⟨true,⟨false,ck 0,[]⟩,[]⟩
def B6 (J:List Nat)(k:Nat)(g:Nat->Nat)(v:Nat->UInt8):List RItem:=J.map (fun j=>Fl (v j) (ck j) (tn k (g j)))++[coo]
theorem Tr {i j:Nat}(hi:i<100)(hj:j<100)(h:ck i=ck j):i=j:=by
 have h1:UInt8.ofNat (97+i)=UInt8.ofNat (97+j):=by simpa[ck]using h
 have h2:=congrArg UInt8.toNat h1;simp at h2;omega
theorem dL (j:Nat):ck j≠[101]:=by simp[ck]
structure ChJ (J:List Nat)(k:Nat):Prop where
 nd:J.Nodup
 mem:∀j,j∈J↔j<k
 k0:0<k
 k14:k<=14
structure lO (k:Nat)(g:Nat->Nat)(v:Nat->UInt8):Prop where
 up:∀j,j<k->j<g j/\g j<=k
 let_:∀j,v j=88\/v j=65
theorem yR {k:Nat}:∀{J:List Nat},J.Nodup->(∀j∈J,j<k)->J.length<=k:=fun {J} h1 h2=>by
 have:=Sa J (List.range k) h1 fun j hj=>by simpa using h2 j hj
 simpa using this
section
variable {J:List Nat} {k:Nat} (hJ:ChJ J k) {N:List Tx}
theorem cst_mem {g:Nat->Nat}{v:Nat->UInt8}{x:RItem}:x∈B6 J k g v↔(∃j∈J,x=Fl (v j) (ck j) (tn k (g j)))\/x=coo:=by
 simp only[B6,Aco,Acs,Ac6];constructor
 ·rintro (⟨j,hj,rfl⟩|h)
  ·exact .inl ⟨j,hj,rfl⟩
  ·exact .inr h
 ·rintro (⟨j,hj,rfl⟩|h)
  ·exact .inl ⟨j,hj,rfl⟩
  ·exact .inr h
include hJ
theorem dI {g:Nat->Nat}{v:Nat->UInt8}{p q:Tx}(h:Er (B6 J k g v) p q):∃j,j<k/\p=ck j/\q=tn k (g j):=by
 obtain⟨x,hx,rfl,a,ha,rfl⟩:=h;rcases cst_mem.1 hx with⟨j,hj,rfl⟩|rfl
 ·have:a=⟨false,tn k (g j),[[v j]]⟩:=by simpa[Fl]using ha
  subst this;exact⟨j,(hJ.mem j).1 hj,rfl,rfl⟩
 ·simp[coo]at ha
theorem vR {g:Nat->Nat}{v:Nat->UInt8}(hS:lO k g v){p q:Tx}(h:Way (Er (B6 J k g v)) p q):∃j,j<k/\p=ck j/\(q=[101]\/∃m,q=ck m/\j<m/\m<k):=by
 have one:∀p q,Er (B6 J k g v) p q->∃j,j<k/\p=ck j/\(q=[101]\/∃m,q=ck m/\j<m/\m<k):=fun p q h=>by
  obtain⟨j,hj,rfl,rfl⟩:=dI hJ h;refine⟨j,hj,rfl,?_⟩;unfold tn;split
  ·rename_i hm;exact .inr ⟨g j,rfl,(hS.up j hj).1,hm⟩
  ·exact .inl rfl
 induction h with
 |one e=>exact one _ _ e
 |more e _ ih=>
  obtain⟨j,hj,rfl,h⟩:=one _ _ e;obtain⟨m,hm,e2,h2⟩:=ih;have ad:=hJ.k14;refine⟨j,hj,rfl,?_⟩;rcases h with rfl|⟨m',rfl,ab,ac⟩
  ·exact absurd e2.symm (dL m)
  ·have:m'=m:=Tr Ad6 Ad6 e2;subst this;rcases h2 with rfl|⟨n,rfl,hn,aa⟩
   ·exact .inl rfl
   ·exact .inr ⟨n,rfl,Ad6,aa⟩
theorem Ws {g:Nat->Nat}{v:Nat->UInt8}(hS:lO k g v):(Ct (B6 J k g v)).1=0:=by
 have aa:∀j,Al [v j]=true:=fun j=>by rcases hS.let_ j with h|h<;>rw[h]<;>rfl
 have hA:Ut (B6 J k g v) fun _=>1:=fun x hx a ha=>by
  rcases cst_mem.1 hx with⟨j,-,rfl⟩|rfl
  ·have:a=⟨false,ck j,[[v j]]⟩\/a=⟨false,tn k (g j),[[v j]]⟩:=by simpa[Af,Fl]using ha
   rcases this with rfl|rfl<;>rfl
  ·simp[Af,coo]at ha
 have hs:∀x∈B6 J k g v,Iz x=true:=fun x hx=>by
  rcases cst_mem.1 hx with⟨j,-,rfl⟩|rfl
  ·rcases hS.let_ j with h|h<;>rw[h]<;>simp[Iz,Af,Fl,sN,oD,Kz]
  ·rfl
 have hk:∀i,i<(B6 J k g v).length->G7 (B6 J k g v) i=false:=fun i hi=>by
  unfold G7;rw[List.getElem?_eq_getElem hi];simp only;have hx:=Ac2 hi;generalize (B6 J k g v)[i]=x at hx;rw[Ac1];intro a ha;rcases cst_mem.1 hx with⟨j,-,rfl⟩|rfl
  ·have:a=⟨false,tn k (g j),[[v j]]⟩:=by simpa[Fl]using ha
   subst this;simp[wA]
  ·simp[coo]at ha
 unfold Ct
 rw[if_neg (by rw[Ck fun i _=>qY hA i];decide),if_neg (by
  rw[Ck fun i hi=>?_]
  ·decide
  ·unfold Ds;rw[List.getElem?_eq_getElem hi];simp only
   rw[hs _ (Ac2 hi)];rfl),if_neg (by rw[Ck hk];decide)]
theorem Yt {g:Nat->Nat}{v:Nat->UInt8}:Jo (B6 J k g v)=true:=by
 have hl:=yR hJ.nd fun j hj=>(hJ.mem j).1 hj;have aa:=hJ.k14;unfold Jo;simp only[Abo,Ad3,Abl];refine⟨by simp[B6];omega,fun x hx=>?_,?_⟩
 ·rcases cst_mem.1 hx with⟨j,-,rfl⟩|rfl<;>simp[Fl,coo]
 ·have key:∀J:List Nat,(Bp (J.map fun j=>Fl (v j) (ck j) (tn k (g j)))).length<=J.length*13:=fun J=>by
   induction J with
   |nil=>simp[Bp]
   |cons j J ih=>
    have ht:(tn k (g j)).length<=2:=by unfold tn;split<;>simp[ck]
    have h1:(Bh (Fl (v j) (ck j) (tn k (g j)))++[46]).length<=13:=by
     simp[Bh,Fl,C5,Ay,Bf,Br,B9,ck];omega
    unfold Bp at ih⊢;rw[Ab1,Acz,Ab6,Acf];omega
  have h2:=key J;have e:Bp (B6 J k g v)=Bp (J.map fun j=>Fl (v j) (ck j) (tn k (g j)))++[63,99,UInt8.ofNat (97+0),46]:=by
   simp[B6,Bp,coo,Bh,ck]
  rw[e,Ab6];simp;omega
theorem vS {g g':Nat->Nat}{v v':Nat->UInt8}(hS:lO k g' v'):Dp N (B6 J k g v) (B6 J k g' v')=true:=by
 unfold Dp
 rw[Yt hJ,Ws hJ hS,Yc fun q h=>by
  unfold Cb at h⊢
  simpa[B6,Fl,coo,List.any_map,Function.comp_def]using h]
 rfl
theorem zV (N:List Tx){v w:UInt8}(hv:v=88\/v=65)(hw:w=88\/w=65)(p q q' r:Tx):eR N (Fl v p q) 0 (Fl w q' r)=some (A6 N (Fl 65 p r)):=by
 rcases hv with rfl|rfl<;>rcases hw with rfl|rfl<;>rfl
theorem zY {g:Nat->Nat}{v:Nat->UInt8}(hS:lO k g v)(hN:∀x∈B6 J k g v,x.head.pred∈N/\∀a∈x.body,a.pred∈N){j m:Nat}(hj:j∈J)(hm:m<k):uL N (B6 J k g v) (Fl (v j) (ck j) (ck m)) 0 (ck m)=[Fl 65 (ck j) (tn k (g m))]:=by
 have ab:=(hJ.mem m).2 hm;have ae:=hJ.k14;have hf:(B6 J k g v).filter (Ks (ck m))=[Fl (v m) (ck m) (tn k (g m))]:=by
  have h1:∀J:List Nat,J.Nodup->(∀i∈J,i<k)->(J.map fun j=>Fl (v j) (ck j) (tn k (g j))).filter (Ks (ck m))=if m∈J then [Fl (v m) (ck m) (tn k (g m))]else []:=fun J=>by
   induction J with
   |nil=>intros;rfl
   |cons i J ih=>
    intro hn hk;rw[Ac9]at hn;have ih:=ih hn.2 fun i' ad=>hk i' (by simp[ad]);have hi:=hk i (by simp);rw[Ab1,Adh,ih];by_cases e:i=m
    ·subst e;rw[if_pos (by simp[Ks,Fl]),if_neg hn.1,if_pos (by simp)]
    ·have ac:¬ck i=ck m:=fun h=>e (Tr Ad6 Ad6 h);rw[if_neg (by simp[Ks,Fl,ac])];have:(m∈i::J)↔m∈J:=by
      rw[Aci];exact⟨fun h=>h.resolve_left fun h=>e h.symm,.inr⟩
     by_cases aa:m∈J
     ·rw[if_pos aa,if_pos (this.2 aa)]
     ·rw[if_neg aa,if_neg fun h=>aa (this.1 h)]
  unfold B6;rw[Adp,h1 J hJ.nd fun i hi=>(hJ.mem i).1 hi,if_pos ab];simp[Ks,coo]
 unfold uL J5;rw[hf];simp only[List.filterMap_cons,List.filterMap_nil,zV hJ N (hS.let_ j) (hS.let_ m),Ab1,Ab2];have hx:=hN _ (cst_mem.2 (.inl ⟨j,hj,rfl⟩));have hy:=hN _ (cst_mem.2 (.inl ⟨m,ab,rfl⟩));rw[kR rfl rfl fun a ha=>?_];have:a=⟨false,ck j,[[65]]⟩\/a=⟨false,tn k (g m),[[65]]⟩:=by simpa[Af,Fl]using ha
 rcases this with rfl|rfl
 ·exact⟨hx.1,by simp[zT]⟩
 ·exact⟨hy.2 ⟨false,tn k (g m),[[v m]]⟩ (by simp[Fl]),by simp[zT]⟩
end
def Y4 {α:Type}(f:Nat->α)(j:Nat)(x:α):Nat->α:=fun i=>if i=j then x else f i
theorem yI {α:Type}(i:Nat)(y:α):∀(l:List α) (k:Nat),((l.zipIdx k).flatMap fun p=>if p.2=i+k then [y]else [p.1])=l.set i y:=by
 intro l;induction l generalizing i with
 |nil=>intro k;rfl
 |cons x l ih=>
  intro k;rw[List.zipIdx_cons,Acz];cases i with
  |zero=>
   have key:∀(l:List α) (j:Nat),k<j->((l.zipIdx j).flatMap fun p=>if p.2=0+k then [y]else [p.1])=l:=by
    intro l;induction l with
    |nil=>intro j _;rfl
    |cons z l ih=>intro j hj;rw[List.zipIdx_cons,Acz,ih (j+1) Ad6,if_neg (by simp;omega)];rfl
   rw[key l (k+1) Ad6,if_pos (by simp)];rfl
  |succ i=>
   have:=ih i (k+1);rw[show i+(k+1)=i+1+k by omega]at this;rw[this,if_neg (by simp)];rfl
theorem qJ {α:Type}(i:Nat)(y:α)(l:List α):Du i [y] l=l.set i y:=yI i y l 0
theorem map_set {β:Type}(f:Nat->β)(f2:Nat->β){j:Nat}:∀(J:List Nat) (i:Nat),J.Nodup->J[i]?=some j->(∀i,i≠j->f2 i=f i)->(J.map f).set i (f2 j)=J.map f2
 |[],i,_,h,_=>by simp at h
 |x::J,0,hn,h,hf=>by
  have hx:x=j:=by simpa using h
  subst hx;rw[Ac9]at hn;simp only[Ab1,List.set_cons_zero];congr 1;exact Acu fun i hi=>(hf i fun e=>hn.1 (e ▸ hi)).symm
 |x::J,i+1,hn,h,hf=>by
  rw[Ac9]at hn;have hj:J[i]?=some j:=by simpa using h
  simp only[Ab1,List.set_cons_succ];rw[map_set f f2 J i hn.2 hj hf,hf x fun e=>hn.1 (e ▸ Abm hj)]
section
variable {J:List Nat} {k:Nat} (hJ:ChJ J k) {N:List Tx}
include hJ
theorem pJ {g:Nat->Nat}{v:Nat->UInt8}(hS:lO k g v)(hN:∀x∈B6 J k g v,x.head.pred∈N/\∀a∈x.body,a.pred∈N){o:Option (List RItem)}(h:StU N (B6 J k g v) o):(J.find? fun j=>decide (g j<k))=none/\o=none\/∃j,(J.find? fun j=>decide (g j<k))=some j/\j<k/\o=some (B6 J k (Y4 g j (g (g j))) (Y4 v j 65)):=by
 obtain⟨M,hM,h⟩:=h;have az:=hJ.k14;have aa:∀{i:Nat} {j:Nat},J[i]?=some j->(B6 J k g v)[i]?=some (Fl (v j) (ck j) (tn k (g j))):=fun {i j} hj=>by
  unfold B6;rw[List.getElem?_append_left (by simpa using (List.getElem?_eq_some_iff.1 hj).1),List.getElem?_map,hj];rfl
 have av:∀{i:Nat} {y:RItem},(B6 J k g v)[i]?=some y->y.out=false->∃j,J[i]?=some j/\y=Fl (v j) (ck j) (tn k (g j)):=fun {i y} hy ho=>by
  by_cases hi:i<J.length
  ·have:=aa (List.getElem?_eq_getElem hi);rw[this]at hy;cases hy;exact⟨_,List.getElem?_eq_getElem hi,rfl⟩
  ·unfold B6 at hy;rw[List.getElem?_append_right (by simpa using hi)]at hy;have:y=coo:=by
    have hm:=Abm hy;simpa using hm
   subst this;cases ho
 have ah:∀{j:Nat},j<k->g j<k->lO k (Y4 g j (g (g j))) (Y4 v j 65):=fun {j} hj hg=>⟨fun i hi=>by
  unfold Y4;split
  ·rename_i e;subst e;have h1:=hS.up i hi;have h2:=hS.up (g i) hg;omega
  ·exact hS.up i hi,fun i=>by
  unfold Y4;split
  ·exact .inr rfl
  ·exact hS.let_ i⟩
 have aj:∀{i j:Nat},J[i]?=some j->Du i [Fl 65 (ck j) (tn k (g (g j)))] (B6 J k g v)=B6 J k (Y4 g j (g (g j))) (Y4 v j 65):=fun {i j} hj=>by
  have hi:=(List.getElem?_eq_some_iff.1 hj).1;rw[qJ];unfold B6;rw[List.set_append,if_pos (by simpa using hi)];congr 1;have:=map_set (fun j=>Fl (v j) (ck j) (tn k (g j))) (fun i=>Fl (Y4 v j 65 i) (ck i) (tn k (Y4 g j (g (g j)) i))) J i hJ.nd hj fun i hi=>by simp[Y4,hi]
  rw[<-this];congr 1;simp[Y4]
 have hU:∀{m:Nat},m<k->ck m∈N->E5 N.length M N.length (N.idxOf (ck m)) (N.idxOf (ck m))=false:=fun {m} hm am=>by
  cases e:E5 N.length M N.length (N.idxOf (ck m)) (N.idxOf (ck m))with
  |false=>rfl
  |true=>
   obtain⟨j,hj,e1,e2|⟨n,e2,hn,ao⟩⟩:=vR hJ hS ((Q5 hN hM am am).1 e)
   ·exact absurd e2 (dL m)
   ·have h1:=Tr Ad6 Ad6 e1;have h2:=Tr Ad6 Ad6 e2;omega
 have ae:∀{i j:Nat},J[i]?=some j->Wg N (E5 N.length M N.length) (B6 J k g v) i 0=decide (g j<k):=fun {i j} hj=>by
  have ab:=Abm hj;have au:=(hJ.mem j).1 ab;have an:=hN _ (cst_mem.2 (.inl ⟨j,ab,rfl⟩));have ac:tn k (g j)∈N:=an.2 ⟨false,tn k (g j),[[v j]]⟩ (by simp[Fl]);unfold Wg;rw[aa hj];show (!false&&(!E5 N.length M N.length (N.idxOf (tn k (g j))) (N.idxOf (tn k (g j)))&&(Cb N (B6 J k g v) (N.idxOf (tn k (g j)))&&Dp N (B6 J k g v) (Du i (uL N (B6 J k g v) (Fl (v j) (ck j) (tn k (g j))) 0 (tn k (g j))) (B6 J k g v)))))=_;by_cases hg:g j<k
  ·have et:tn k (g j)=ck (g j):=if_pos hg;rw[et]at ac⊢;have hr:Cb N (B6 J k g v) (N.idxOf (ck (g j)))=true:=(Mw (fun x hx=>(hN x hx).1) ac).2 ⟨_,cst_mem.2 (.inl ⟨g j,(hJ.mem _).2 hg,rfl⟩),rfl,rfl⟩;rw[hU hg ac,hr,zY hJ hS hN ab hg,aj hj,vS hJ (ah au hg)];simp[hg]
  ·have et:tn k (g j)=[101]:=if_neg hg;rw[et]at ac⊢;have hr:Cb N (B6 J k g v) (N.idxOf [101])=false:=by
    cases e:Cb N (B6 J k g v) (N.idxOf [101])with
    |false=>rfl
    |true=>
     obtain⟨x,hx,-,e2⟩:=(Mw (fun x hx=>(hN x hx).1) ac).1 e;rcases cst_mem.1 hx with⟨j',-,rfl⟩|rfl
     ·exact absurd e2 (dL j')
     ·exact absurd e2 (dL 0)
   rw[hr];simp[hg]
 have aw:∀(v:UInt8) (p q:Tx) (k':Nat),k'<(Fl v p q).body.length->k'=0:=fun v p q k' h=>by simp[Fl]at h;exact h
 rcases h with⟨rfl,hn⟩|⟨i,k',y,a,rfl,hy,ho,ha,hk,hn,ao⟩
 ·refine .inl ⟨List.find?_eq_none.2 fun j hj hd=>?_,rfl⟩;obtain⟨i,hi⟩:=List.getElem?_of_mem hj;have h1:=hn i _ (List.getElem?_eq_some_iff.1 (aa hi)).1 (aa hi) 0 (by simp[Fl]);rw[ae hi]at h1;rw[h1]at hd;cases hd
 ·obtain⟨j,hj,rfl⟩:=av hy ho;have ap:=aw _ _ _ k' (List.getElem?_eq_some_iff.1 ha).1;subst ap;have ax:a=⟨false,tn k (g j),[[v j]]⟩:=by
   have:some (⟨false,tn k (g j),[[v j]]⟩:Ai)=some a:=ha;exact (Ads this).symm
  subst ax;rw[ae hj,Ad3]at hk;have ab:=Abm hj;refine .inr ⟨j,?_,(hJ.mem j).1 ab,?_⟩
  ·have ay:=(List.getElem?_eq_some_iff.1 hj).1;have e0:J=J.take i++j::J.drop (i+1):=by
    rw[<-(List.getElem?_eq_some_iff.1 hj).2,List.getElem_cons_drop,Adl]
   rw[e0,List.find?_append];have ad:(J.take i).find? (fun j=>decide (g j<k))=none:=List.find?_eq_none.2 fun z hz hd=>by
    obtain⟨n,af⟩:=List.getElem?_of_mem hz;have ak:n<i:=by
     have:=(List.getElem?_eq_some_iff.1 af).1;rw[Ab7]at this;omega
    have ai:J[n]?=some z:=by rw[List.getElem?_take,if_pos ak]at af;exact af
    have h1:=hn n _ ak (aa ai) 0 (by simp[Fl]);rw[ae ai]at h1;rw[h1]at hd;cases hd
   rw[ad];simp[hk]
  ·have et:tn k (g j)=ck (g j):=if_pos hk;show some (Du i (uL N (B6 J k g v) (Fl (v j) (ck j) (tn k (g j))) 0 (tn k (g j))) (B6 J k g v))=_;rw[et,zY hJ hS hN ab hk,aj hj]
end
def sJ (J:List Nat)(k:Nat):Nat->List Nat->Nat×List Nat
 |0,gs=>(0,gs)
 |n+1,gs=>match J.find? (fun j=>decide (gs.getD j 0<k))with
  |none=>(0,gs)
  |some j=>((sJ J k n (gs.set j (gs.getD (gs.getD j 0) 0))).1+1,(sJ J k n (gs.set j (gs.getD (gs.getD j 0) 0))).2)
def Mh (k:Nat)(back:Bool):List Nat:=if back=true then (List.range k).reverse else List.range k
def xH (k:Nat):List Nat:=(List.range k).map (· +1)
def tO (k:Nat)(back:Bool):Nat:=if back=true then k-1 else k*(k-1) / 2
theorem zA:∀k,k<15->∀b:Bool,sJ (Mh k b) k 100 (xH k)=(tO k b,List.replicate k k):=by decide+kernel
theorem iG {k:Nat}(h0:0<k)(h1:k<=14)(b:Bool):ChJ (Mh k b) k:=by
 refine⟨?_,fun j=>?_,h0,h1⟩
 ·unfold Mh;split
  ·exact List.pairwise_reverse.2 (List.nodup_range.imp fun h=>Ne.symm h)
  ·exact List.nodup_range
 ·unfold Mh;split<;>simp
theorem xG {J:List Nat}{k:Nat}(hJ:ChJ J k){N:List Tx}(hN:∀g v,lO k g v->∀x∈B6 J k g v,x.head.pred∈N/\∀a∈x.body,a.pred∈N):∀(n:Nat) (gs:List Nat) (v:Nat->UInt8) (m:Int),gs.length=k->lO k (fun j=>gs.getD j 0) v->m+(sJ J k n gs).1<1000->(sJ J k n gs).2=List.replicate k k->∃v',lO k (fun j=>(List.replicate k k).getD j 0) v'/\Kn (StU N) 1000 m (B6 J k (fun j=>gs.getD j 0) v) (B6 J k (fun j=>(List.replicate k k).getD j 0) v') (m+(sJ J k n gs).1)
 |0,gs,v,m,hl,hS,hm,hr=>by
  have e:gs=List.replicate k k:=hr;subst e;refine⟨v,hS,?_⟩;have:m+((sJ J k 0 (List.replicate k k)).1:Int)=m:=by simp[sJ]
  rw[this];refine .stop fun o h=>?_;rcases pJ hJ hS (hN _ _ hS) h with⟨-,h⟩|⟨j,hf,hj,-⟩
  ·exact h
  ·have:=List.find?_some hf;simp[hj]at this
 |n+1,gs,v,m,hl,hS,hm,hr=>by
  unfold sJ at hm hr⊢;cases hf:J.find? (fun j=>decide (gs.getD j 0<k))with
  |none=>
   rw[hf]at hm hr;simp only at hm hr⊢;subst hr;refine⟨v,hS,?_⟩;rw[show m+((0:Nat):Int)=m by omega];refine .stop fun o h=>?_;rcases pJ hJ hS (hN _ _ hS) h with⟨-,h⟩|⟨j,aa,-⟩
   ·exact h
   ·rw[hf]at aa;cases aa
  |some j=>
   rw[hf]at hm hr;simp only at hm hr⊢;have af:j<k:=(hJ.mem j).1 (List.mem_of_find?_eq_some hf);have ac:gs.getD j 0<k:=by simpa using List.find?_some hf
   have e1:(fun i=>(gs.set j (gs.getD (gs.getD j 0) 0)).getD i 0)=Y4 (fun i=>gs.getD i 0) j (gs.getD (gs.getD j 0) 0):=by
    funext i;unfold Y4;by_cases ab:i=j
    ·subst ab;rw[if_pos rfl,List.getD_eq_getElem?_getD,List.getElem?_set,if_pos rfl,if_pos Ad6];rfl
    ·rw[if_neg ab,List.getD_eq_getElem?_getD,List.getElem?_set,if_neg (Ne.symm ab),<-List.getD_eq_getElem?_getD]
   have ad:lO k (fun i=>(gs.set j (gs.getD (gs.getD j 0) 0)).getD i 0) (Y4 v j 65):=by
    rw[e1]
    refine⟨fun i hi=>?_,fun i=>by
  unfold Y4;split
  ·exact .inr rfl
  ·exact hS.let_ i⟩
    unfold Y4;split
    ·rename_i e;subst e;have h1:=hS.up i hi;have h2:=hS.up _ ac;omega
    ·exact hS.up i hi
   obtain⟨v',ae,hK⟩:=xG hJ hN n (gs.set j (gs.getD (gs.getD j 0) 0)) (Y4 v j 65) (m+1) (by rw[Ady];exact hl) ad Ad6 hr;refine⟨v',ae,?_⟩;have e2:m+1+((sJ J k n (gs.set j (gs.getD (gs.getD j 0) 0))).1:Int)=m+(((sJ J k n (gs.set j (gs.getD (gs.getD j 0) 0))).1+1:Nat):Int):=Ad6;rw[e2]at hK;refine .step Ad6 (fun o h=>?_) hK;rcases pJ hJ hS (hN _ _ hS) h with⟨aa,-⟩|⟨j2,aa,-,h⟩
   ·rw[hf]at aa;cases aa
   ·rw[hf]at aa;cases aa;rw[e1];exact h
end Go.Proofs.YtmoeoppbmhfbpabGreatDoorJ
