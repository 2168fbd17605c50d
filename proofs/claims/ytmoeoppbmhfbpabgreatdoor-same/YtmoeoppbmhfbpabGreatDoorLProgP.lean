import Derived.Test.YtmoeoppbmhfbpabGreatDoorLProgL
import Derived.ProofKit
import Derived.OpenShut
import Derived.Below
import Derived.Carry
import Derived.Deep.Slices
set_option maxHeartbeats 16000000
set_option maxRecDepth 100000
set_option linter.all false
namespace Go.Proofs.YtmoeoppbmhfbpabGreatDoorL
open Go.Abs
theorem sA {n:Nat}{M W:Nat->Nat->Bool}{m i k:Nat}(h:part n M m i k W)(hv:fw M m i k=M i k):part n M m i (k+1) W:=by
 intro a b;rw[h];by_cases hc:(a<i/\b<n)\/(a=i/\b<k)
 ·rw[if_pos hc,if_pos Ajm]
 ·rw[if_neg hc];by_cases hd:(a<i/\b<n)\/(a=i/\b<k+1)
  ·rw[if_pos hd];have e1:a=i:=Ajm;have e2:b=k:=Ajm;rw[e1,e2,hv]
  ·rw[if_neg hd]
theorem rZ {n:Nat}{M W:Nat->Nat->Bool}{m i:Nat}(h:part n M m i 0 W)(hv:M i m=false):part n M m (i+1) 0 W:=by
 intro a b;rw[h];by_cases hc:(a<i/\b<n)\/(a=i/\b<0)
 ·rw[if_pos hc,if_pos Ajm]
 ·rw[if_neg hc];by_cases hd:(a<i+1/\b<n)\/(a=i+1/\b<0)
  ·rw[if_pos hd];have e1:a=i:=Ajm;rw[e1];simp[fw,hv]
  ·rw[if_neg hd]
theorem N0 (N:List Tx)(l:List RItem)(cs:List AV)(idn idi:Nat)(hB:Bk N l cs)(I:St):ACalls Tryz.prog 175 [Bo N idn l idi cs] I fun r I'=>∃idu B M,r=sl idu N.length (Fe B N.length N.length)/\Keep I I'/\I.nobj<=B/\B+N.length<=I'.nobj/\Mat B N.length (F9 N.length M N.length) I'/\Dr N l M:=by
 have hN:=hB.nm;refine Z9 49 [.tmp 2] Tryz.func175 ?_
 repeat' (first|refine Z1 ?_|(refine Z8 ?_;intro κ hκ)|(refine Z4 ?_;clear hκ κ)|(refine Z2 ?_ ?_<;>intro h aa<;>try exact Xp)|(refine Z5 ?_;refine Xi (R4 N l cs idn idi hB _) ?_;rintro _ _ ⟨idu,B,M0,rfl,ba,bb,ah,av,ax⟩;(rw[Aa]at bb))|refine Z3 ?_|exact⟨⟩|(apply hκ.out;clear hκ κ))
 rename_i I1;have az:Ajs (Dr N l M0):=ax;clear ax;have bg:=Ii B N.length N.length;have aw:Keep I I1:=Xs;clear ba
 refine Af (fun q s I'=>∃m:Nat,q=N.length-m/\m<=N.length/\s 3=sl idu N.length (Fe B N.length N.length)/\s 10=sc (.int .i64 N.length)/\s 11=sc (.int .i64 m)/\Keep I I'/\B+N.length<=I'.nobj/\Ajs (Mat B N.length (F9 N.length M0 m) I')) N.length
  ⟨0,Ajm,Ajm,rfl,rfl,rfl,aw,ah,av⟩ ?_
 clear aw av ah;rintro q s I' ⟨m,rfl,hm,h3,ae,ad,hK,ac,hM⟩;by_cases aj:m<N.length
 ·generalize au:F9 N.length M0 m=M at hM;have bd:Ajs _:=au;clear au
  repeat' (first|refine Z1 ?_|(refine Z8 ?_;intro κ hκ)|(refine Z4 ?_;clear hκ κ)|(refine Z2 ?_ ?_<;>intro h aa<;>try exact Xp)|refine Z3 ?_|exact⟨⟩|(apply hκ.out;clear hκ κ))
  refine Af (fun q s I'=>∃(i:Nat) (W:Nat->Nat->Bool),q=N.length-i/\i<=N.length/\s 3=sl idu N.length (Fe B N.length N.length)/\s 4=sc (.int .i64 m)/\s 10=sc (.int .i64 N.length)/\s 11=sc (.int .i64 m)/\s 15=sc (.int .i64 N.length)/\s 16=sc (.int .i64 i)/\Keep I I'/\B+N.length<=I'.nobj/\Ajs (Mat B N.length W I')/\Ajs (part N.length M m i 0 W)) N.length
   ⟨0,M,Ajm,Ajm,by simp[upd,h3],Ajo,by simp[upd,ae],by simp[upd,ad],rfl,rfl,hK,ac,hM,rY⟩ ?_
  clear hK ac hM h3 ae ad;rintro q s I' ⟨i,W,rfl,hi,h3,h4,ae,ad,an,am,hK,ac,hM,hW⟩;by_cases ab:i<N.length
  ·have bh:=Ij (B:=B) (n:=N.length) (k:=N.length) ab;have a7:=hM.out _ ab;have a4:=Eh N.length (W i);have af:=Gp (W i) aj;obtain⟨-,v2,-⟩:=gC hW.out (by omega:0<N.length) aj;rw[v2]at af;have bc:Ajs _:=v2;clear v2
   repeat' (first|refine Z1 ?_|(refine Z8 ?_;intro κ hκ)|(refine Z4 ?_;clear hκ κ)|(refine Z2 ?_ ?_<;>intro h aa<;>try exact Xp)|refine Z3 ?_|exact⟨⟩|(apply hκ.out;clear hκ κ))
   ·exact⟨N.length-(i+1),Ajm,i+1,W,rfl,Ajm,by simp,hM,rZ hW.out h⟩
   ·have ak:M i m=true:=h
    refine Af (fun q s I'=>∃(k:Nat) (W:Nat->Nat->Bool),q=N.length-k/\k<=N.length/\s 3=sl idu N.length (Fe B N.length N.length)/\s 4=sc (.int .i64 m)/\s 5=sc (.int .i64 i)/\s 10=sc (.int .i64 N.length)/\s 11=sc (.int .i64 m)/\s 15=sc (.int .i64 N.length)/\s 16=sc (.int .i64 i)/\s 28=sc (.int .i64 N.length)/\s 29=sc (.int .i64 k)/\Keep I I'/\B+N.length<=I'.nobj/\Ajs (Mat B N.length W I')/\Ajs (part N.length M m i k W)) N.length
     ⟨0,W,Ajm,Ajm,by simp[upd,h3],by simp[upd,h4],Ajo,by simp[upd,ae],by simp[upd,ad],by simp[upd,an],by simp[upd,am],rfl,rfl,hK,ac,hM,hW⟩ ?_
    clear hK ac hM hW h3 h4 ae ad an am af a4 a7 bc h W;rintro q s I' ⟨k,W,rfl,hk,h3,h4,h5,ae,ad,an,am,bl,bi,hK,ac,hM,hW⟩;by_cases ai:k<N.length
    ·obtain⟨-,-,v3⟩:=gC hW.out ai aj;have bf:=Ij (B:=B) (n:=N.length) (k:=N.length) aj;have a6:=hM.out _ ab;have a5:=hM.out _ aj;have a3:=Eh N.length (W i);have a0:=Eh N.length (W m);have af:=Gp (W m) ai;rw[v3]at af;clear v3;have ao:=Mat.set (q:=k) hM.out ab true;have be:Ajs _:=ao;clear ao;generalize ap:M m k=vk at af;have ay:Ajs _:=ap;clear ap;cases vk with
     |true=>
      repeat' (first|refine Z1 ?_|(refine Z8 ?_;intro κ hκ)|(refine Z4 ?_;clear hκ κ)|(refine Z2 ?_ ?_<;>intro h aa<;>try exact Xp)|refine Z3 ?_|exact⟨⟩|(apply hκ.out;clear hκ κ))
      exact⟨N.length-(k+1),Ajm,k+1,_,rfl,Ajm,by simp,hK.put Ajm _,be.out,wZ hW.out (by simp[fw,ak,ay.out])⟩
     |false=>
      repeat' (first|refine Z1 ?_|(refine Z8 ?_;intro κ hκ)|(refine Z4 ?_;clear hκ κ)|(refine Z2 ?_ ?_<;>intro h aa<;>try exact Xp)|refine Z3 ?_|exact⟨⟩|(apply hκ.out;clear hκ κ))
      exact⟨N.length-(k+1),Ajm,k+1,W,rfl,Ajm,by simp,hM,sA hW.out (by simp[fw,ay.out])⟩
    ·have a9:k=N.length:=Ajm;subst a9
     repeat' (first|refine Z1 ?_|(refine Z8 ?_;intro κ hκ)|(refine Z4 ?_;clear hκ κ)|(refine Z2 ?_ ?_<;>intro h aa<;>try exact Xp)|refine Z3 ?_|exact⟨⟩|(apply hκ.out;clear hκ κ))
     exact⟨N.length-(i+1),Ajm,i+1,W,rfl,Ajm,by simp,hM,xA hW.out⟩
  ·have hil:i=N.length:=Ajm;subst hil
   repeat' (first|refine Z1 ?_|(refine Z8 ?_;intro κ hκ)|(refine Z4 ?_;clear hκ κ)|(refine Z2 ?_ ?_<;>intro h aa<;>try exact Xp)|refine Z3 ?_|exact⟨⟩|(apply hκ.out;clear hκ κ))
   refine⟨N.length-(m+1),Ajm,m+1,rfl,Ajm,by simp,?_⟩;rw[Ajs,show F9 N.length M0 (m+1)=W by rw[xB hW.out,<-bd.out];rfl];exact hM.out
 ·have a8:m=N.length:=Ajm;subst a8
  repeat' (first|refine Z1 ?_|(refine Z8 ?_;intro κ hκ)|(refine Z4 ?_;clear hκ κ)|(refine Z2 ?_ ?_<;>intro h aa<;>try exact Xp)|refine Z3 ?_|exact⟨⟩|(apply hκ.out;clear hκ κ))
  first
  |exact⟨_,rfl,idu,B,M0,rfl,hK,Ajm,ac,hM.out,az.out⟩
  |exact⟨_,rfl,idu,B,M0,rfl,Ajm,ac,hM.out,az.out⟩
def wX (N:List Tx)(U:Nat->Nat->Bool)(h:Tx)(a:RAtom):Bool:=a.nt&&(((N.idxOf a.pred:Nat):Int)==((N.idxOf h:Nat):Int)||U (N.idxOf a.pred) (N.idxOf h))
def Zg (N:List Tx)(l:List RItem)(U:Nat->Nat->Bool)(i:Nat):Bool:=match l[i]? with|some x=>x.body.any (wX N U x.head.pred)|none=>false
theorem W8 (N:List Tx)(l:List RItem)(cs:List AV)(idn idi:Nat)(hB:Bk N l cs)(I:St):ACalls Tryz.prog 123 [Bo N idn l idi cs] I fun r I'=>∃M,Dr N l M/\r=sc (.int .i64 (Bj (Zg N l (F9 N.length M N.length)) l.length))/\Keep I I':=by
 have bf:=EL.length De hB.el;have ba:=hB.len;have hN:=hB.nm;refine Z9 52 [.tmp 2] Tryz.func123 ?_
 repeat' (first|refine Z1 ?_|(refine Z8 ?_;intro κ hκ)|(refine Z4 ?_;clear hκ κ)|(refine Z2 ?_ ?_<;>intro h ab<;>try exact Xp)|(refine Z5 ?_;refine Xi (N0 N l cs idn idi hB _) ?_;rintro _ _ ⟨idu,B,M0,rfl,au,bc,ah,ap,a6⟩;(rw[Aa]at bc;have aj:=au.obj;have ae:=au.nobj;(try simp only[Aa,Ab,Ah]at ae)))|refine Z3 ?_|exact⟨⟩|(apply hκ.out;clear hκ κ))
 rename_i I1;have ay:Ajs (Dr N l M0):=a6;clear a6 aj;have be:=Ii B N.length N.length;have a5:Keep I I1:=Xs;clear au;generalize hU:F9 N.length M0 N.length=U at ap;have HU:Ajs _:=hU;clear hU
 refine Af (fun m s I'=>∃i:Nat,m=l.length-i/\i<=l.length/\s 3=sl idu N.length (Fe B N.length N.length)/\s 13=sl idi l.length cs/\s 14=sc (.int .i64 l.length)/\s 15=sc (.int .i64 i)/\Keep I I'/\B+N.length<=I'.nobj/\Ajs (Mat B N.length U I')/\Ajs (∀j,j<i->Zg N l U j=false)) l.length
  ⟨0,Ajm,Ajm,Ajo,Ajo,Ajo,rfl,a5,ah,ap,fun j hj=>Ajm⟩ ?_
 clear a5 ap ah ae;rintro m s I' ⟨i,rfl,hi,h3,ax,aw,av,hK,ad,hM,ai⟩;have az:=hK.nobj;by_cases ao:i<l.length
 ·have aa:=List.getElem?_eq_getElem ao;have a3:=hB.fits l[i] (Ah6 ao);obtain⟨hm,ih,id,b,r,hb,hd⟩:=En hB.el aa;generalize l[i]=x at hd aa a3 hb hm;have hv:Ajs (Zg N l U i=x.body.any (wX N U x.head.pred)):=by rw[Ajs,Zg,aa]
  clear aa;have bg:=EL.length Dt hb;have bd:=a3.1;have a0:=Ah9 hm
  repeat' (first|refine Z1 ?_|(refine Z8 ?_;intro κ hκ)|(refine Z4 ?_;clear hκ κ)|(refine Z2 ?_ ?_<;>intro h ab<;>try exact Xp)|refine Z3 ?_|exact⟨⟩|(apply hκ.out;clear hκ κ))
  refine Af (fun m s I''=>∃j:Nat,m=x.body.length-j/\j<=x.body.length/\s 3=sl idu N.length (Fe B N.length N.length)/\s 4=sc (.int .i64 i)/\s 6=sc (.int .i64 (N.idxOf x.head.pred:Nat))/\s 13=sl idi l.length cs/\s 14=sc (.int .i64 l.length)/\s 15=sc (.int .i64 i)/\s 24=sl id x.body.length b/\s 25=sc (.int .i64 x.body.length)/\s 26=sc (.int .i64 j)/\Keep I I''/\B+N.length<=I''.nobj/\Ajs (Mat B N.length U I'')/\Ajs ((x.body.take j).any (wX N U x.head.pred)=false)) x.body.length
   ⟨0,Ajm,Ajm,by simp[upd,h3],Ajo,Ajo,by simp[upd,ax],by simp[upd,aw],by simp[upd,av],Ajo,rfl,rfl,(hK.new _).put hK.nobj _,Ajr,Mat.put (Mat.new hM.out ad _) ad _,by simp[Ajs]⟩ ?_
  clear hK hM ad h3 ax aw av az;rintro m s I'' ⟨j,rfl,hj,h3,h4,h6,ax,aw,av,bl,bi,bh,hK,ad,hM,ac⟩;have az:=hK.nobj;by_cases an:j<x.body.length
  ·have aa:=List.getElem?_eq_getElem an;obtain⟨ha,ia,r2,a4⟩:=Ml hb aa;generalize x.body[j]=a at a4 aa ha;have HA:Ajs (x.body[j]?=some a):=aa;clear aa;have am:=Ah9 ha;have a8:=Ij (B:=B) (n:=N.length) (k:=N.length) am;have a9:=hM.out _ am;have a7:=Eh N.length (U (N.idxOf a.pred));have ak:=Gp (U (N.idxOf a.pred)) a0;have af:Ajs (wX N U x.head.pred a=(a.nt&&(((N.idxOf a.pred:Nat):Int)==((N.idxOf x.head.pred:Nat):Int)||U (N.idxOf a.pred) (N.idxOf x.head.pred)))):=rfl;generalize hu:U (N.idxOf a.pred) (N.idxOf x.head.pred)=uu at ak af;clear hu;generalize N.idxOf a.pred=pa at a4 am a8 a9 a7 ak af;generalize N.idxOf x.head.pred=ph at h6 ak af a0
   repeat' (first|refine Z1 ?_|(refine Z8 ?_;intro κ hκ)|(refine Z4 ?_;clear hκ κ)|(refine Z2 ?_ ?_<;>intro h ab<;>try exact Xp)|refine Z3 ?_|exact⟨⟩|(apply hκ.out;clear hκ κ))
   all_goals
    first
    |(refine⟨_,rfl,M0,ay.out,?_,(hK.new _).put hK.nobj _⟩
      rw[HU.out,Kw ao (by rw[hv.out];exact S7 _ HA.out (by rw[af.out];simp[*])) ai.out])
    |(refine⟨x.body.length-(j+1),Ajm,j+1,rfl,Ajm,by simp,(hK.new _).put hK.nobj _,Ajm,Mat.put (Mat.new hM.out ad _) ad _,?_⟩
      rw[Ajs,any_take_succ _ HA.out,ac.out,af.out];simp[*])
  ·have bb:j=x.body.length:=Ajm;subst bb;rw[Agw]at ac
   repeat' (first|refine Z1 ?_|(refine Z8 ?_;intro κ hκ)|(refine Z4 ?_;clear hκ κ)|(refine Z2 ?_ ?_<;>intro h ab<;>try exact Xp)|refine Z3 ?_|exact⟨⟩|(apply hκ.out;clear hκ κ))
   exact⟨l.length-(i+1),Ajm,i+1,rfl,Ajm,by simp,My ai.out (by rw[hv.out];exact ac.out)⟩
 ·have hil:i=l.length:=Ajm;subst hil
  repeat' (first|refine Z1 ?_|(refine Z8 ?_;intro κ hκ)|(refine Z4 ?_;clear hκ κ)|(refine Z2 ?_ ?_<;>intro h ab<;>try exact Xp)|refine Z3 ?_|exact⟨⟩|(apply hκ.out;clear hκ κ))
  first
  |exact⟨_,rfl,M0,ay.out,by rw[HU.out,Cv ai.out],hK⟩
  |exact⟨_,rfl,M0,ay.out,by rw[HU.out,Cv ai.out]⟩
def VT (w:Tx):Prop:=(∃b,w=[b]/\Bm b.toNat=true)\/(w≠[]/\∀b∈w,A0 b.toNat=true)
def VA (a:RAtom):Prop:=∀w∈a.terms,VT w
theorem gE {s r w:Tx}(h:Cj s= .got w r):VT w:=by
 cases s with
 |nil=>cases h
 |cons b q=>
  unfold Cj at h;dsimp only at h;split at h
  ·rename_i hl;cases h;exact .inl ⟨b,rfl,hl⟩
  split at h
  ·rename_i h0;cases h;refine .inr ⟨by simp,fun c hc=>?_⟩;simp at hc;subst hc;rw[digit_iff];exact .inr h0
  split at h
  ·rename_i h9;cases h;refine .inr ⟨by simp,fun c hc=>?_⟩;rcases Ahm.1 hc with rfl|hc
   ·rw[digit_iff];exact .inl h9
   ·exact (D8 A0 2 q).2 c hc
  ·cases h
theorem Ms {α:Type}{f:Tx->Rd α}{P:α->Prop}(hf:∀s x r,f s= .got x r->P x):∀(n:Nat) (s:Tx) (xs:List α) (r:Tx),Dv f n s= .got xs r->∀x∈xs,P x
 |0,s,xs,r,h=>by unfold Dv at h;cases h;simp
 |n+1,[],xs,r,h=>by unfold Dv at h;cases h;simp
 |n+1,b::q,xs,r,h=>by
  unfold Dv at h;split at h
  ·obtain⟨x,q1,h1,h2⟩:=A1 h;obtain⟨ys,q2,h3,h4⟩:=A1 h2;cases h4;intro y hy;rcases Ahm.1 hy with rfl|hy
   ·exact hf _ _ _ h1
   ·exact Ms hf n _ _ _ h3 y hy
  ·cases h;simp
theorem J7 {T:Tx->Prop}(hT:∀s w r,Cj s= .got w r->T w){nt:Bool}{s r:Tx}{a:RAtom}(h:Da nt s= .got a r):∀w∈a.terms,T w:=by
 unfold Da U7 at h;obtain⟨p,q1,-,h⟩:=A1 h;obtain⟨u,q2,-,h⟩:=A1 h;obtain⟨w,q3,h1,h⟩:=A1 h;obtain⟨ws,q4,h2,h⟩:=A1 h;obtain⟨u2,q5,-,h⟩:=A1 h;cases h;intro y hy;rcases Ahm.1 hy with rfl|hy
 ·exact hT _ _ _ h1
 ·exact Ms hT _ _ _ _ h2 y hy
theorem gK {T:Tx->Prop}(hT:∀s w r,Cj s= .got w r->T w){s r:Tx}{a:RAtom}(h:J3 s= .got a r):∀w∈a.terms,T w:=by rw[pS]at h;exact J7 hT h
theorem sB {T:Tx->Prop}(hT:∀s w r,Cj s= .got w r->T w){s r:Tx}{x:RItem}(h:Ff s= .got x r):∀a∈Ae x,∀w∈a.terms,T w:=by
 rw[gL]at h;split at h
 ·unfold bL at h;obtain⟨p,q1,-,h⟩:=A1 h;obtain⟨u,q2,-,h⟩:=A1 h;cases h;simp[Ae]
 ·unfold Nr at h;obtain⟨a,q1,h1,h⟩:=A1 h;rw[gH]at h;split at h
  ·cases h;intro y hy;simp[Ae]at hy;subst hy;exact J7 hT h1
  ·obtain⟨u,q2,-,h⟩:=A1 h;obtain⟨ls,q3,h3,h⟩:=A1 h;obtain⟨u2,q4,-,h⟩:=A1 h;cases h;intro y hy;simp[Ae]at hy;rcases hy with rfl|hy
   ·exact J7 hT h1
   ·unfold D9 Sc at h3;obtain⟨l,q5,h5,h3⟩:=A1 h3;obtain⟨ls2,q6,h6,h3⟩:=A1 h3;cases h3;rcases Ahm.1 hy with rfl|hy
    ·exact gK hT h5
    ·exact Ms (fun _ _ _ h=>gK hT h) _ _ _ _ h6 y hy
theorem Iv {T:Tx->Prop}(hT:∀s w r,Cj s= .got w r->T w):∀(n:Nat) (s:Tx) (l:List RItem) (r:Tx),Br n s= .got l r->∀x∈l,∀a∈Ae x,∀w∈a.terms,T w
 |n,[],l,r,h=>by rw[U3]at h;cases h;simp
 |0,b::q,l,r,h=>by rw[Rn]at h;cases h
 |n+1,b::q,l,r,h=>by
  rw[L1]at h;obtain⟨x,q1,h1,h⟩:=A1 h;obtain⟨xs,q2,h2,h⟩:=A1 h;cases h;intro y hy;rcases Ahm.1 hy with rfl|hy
  ·exact sB hT h1
  ·exact Iv hT n _ _ _ h2 y hy
theorem Qw (n:Nat)(s:Tx)(l:List RItem)(r:Tx)(h:Br n s= .got l r):∀x∈l,∀a∈Ae x,VA a:=Iv (T:=VT) (fun _ _ _ h=>gE h) n s l r h
theorem K0 {w:Tx}(h:VT w):(Al w).1=Ad w:=by
 rcases h with⟨b,rfl,hl⟩|⟨hn,hd⟩
 ·rw[D1 hl];simp[Ad,hl]
 ·cases w with
  |nil=>exact absurd rfl hn
  |cons b r=>
   have hb:=hd b (by simp);have hl:Bm b.toNat=false:=by
    cases hl:Bm b.toNat with
    |false=>rfl
    |true=>simp[A0]at hb;simp[Bm]at hl;omega
   rw[Mb hl];simp[Ad,hl]
theorem yI {u t:Tx}(hu:VT u)(ht:VT t)(hv:Ad t=true):Oi (Al t).2 u=(u==t):=by
 obtain⟨b,rfl,hl⟩:∃b,t=[b]/\Bm b.toNat=true:=by
  rcases ht with h|⟨hn,hd⟩
  ·exact h
  ·exfalso;cases t with
   |nil=>exact hn rfl
   |cons b r=>
    have hb:=hd b (by simp);simp[Ad]at hv;simp[A0]at hb;simp[Bm]at hv;omega
 rw[D1 hl];unfold Oi;rcases hu with⟨c,rfl,hc⟩|⟨hn,hd⟩
 ·rw[D1 hc];simp only[Ahy];by_cases e:c=b
  ·subst e;simp
  ·have:(c.toNat:Int)≠b.toNat:=fun h=>e (UInt8.toNat_inj.1 Ajm);have h1:((c.toNat:Int)-65==(b.toNat:Int)-65)=false:=by simp;omega
   have h2:(([c]:Tx)==[b])=false:=by simpa using e
   rw[h1,h2]
 ·have h1:(Al u).1=false:=by
   rw[K0 (.inr ⟨hn,hd⟩)];cases u with
   |nil=>rfl
   |cons c r=>
    have hb:=hd c (by simp);cases hv:Ad (c::r)with
    |false=>rfl
    |true=>simp[Ad,Bm]at hv;simp[A0]at hb;omega
  have h2:(u==[b])=false:=by
   simp;rintro rfl;have:=hd b (by simp);simp[A0]at this;simp[Bm]at hl;omega
  rw[h1,h2];rfl
theorem Ee {α:Type}{l:List α}{p q:α->Bool}(h:∀a∈l,p a=q a):l.any p=l.any q:=by
 induction l with
 |nil=>rfl
 |cons a l ih=>simp only[List.any_cons];rw[h a (by simp),ih (fun b hb=>h b (by simp[hb]))]
theorem zL {x:RItem}(hV:∀a∈Ae x,VA a){t:Tx}(ht:VT t)(hv:Ad t=true):Fi x (Al t).2=Me x t:=by
 unfold Fi Me;apply Ee;intro a ha;have hA:VA a:=hV a (by unfold Ae;simp[ha]);cases hn:a.nt with
 |true=>simp
 |false=>
  simp only[Bool.not_false,Ahy];exact Ee fun u hu=>yI (hA u hu) ht hv
theorem Sv {x:RItem}(hV:∀a∈Ae x,VA a):Ec x=F7 x:=by
 unfold Ec F7;congr 1;apply Ee;intro a ha;unfold zM tP;apply Ee;intro w hw;have hA:=hV a ha w hw;rw[K0 hA];cases hv:Ad w with
 |false=>rfl
 |true=>rw[zL hV hA hv]
theorem Py {p q:Nat->Bool}{n:Nat}(h:∀i,i<n->p i=q i):Bj p n=Bj q n:=by
 have e:(List.range n).find? p=(List.range n).find? q:=by
  have hm:∀i∈List.range n,p i=q i:=fun i hi=>h i (by simpa using hi);generalize List.range n=l at hm;induction l with
  |nil=>rfl
  |cons a l ih=>simp only[List.find?_cons];rw[hm a (by simp),ih (fun b hb=>hm b (by simp[hb]))]
 unfold Bj;rw[e]
theorem qW {N:List Tx}{l:List RItem}(hN:∀x∈l,x.head.pred∈N/\∀a∈x.body,a.pred∈N){i j:Nat}(h:Way (gQ N l) i j):∃p q,p∈N/\q∈N/\N.idxOf p=i/\N.idxOf q=j/\Way (D6 l) p q:=by
 induction h with
 |one e=>
  obtain⟨x,hx,h1,a,ha,h2⟩:=e;exact⟨x.head.pred,a.pred,(hN x hx).1,(hN x hx).2 a ha,h1,h2,.one ⟨x,hx,rfl,a,ha,rfl⟩⟩
 |more e _ ih=>
  obtain⟨x,hx,h1,a,ha,h2⟩:=e;obtain⟨p,q,hp,hq,e1,e2,w⟩:=ih;have:a.pred=p:=C2 ((hN x hx).2 a ha) hp Ajm;subst this;exact⟨x.head.pred,q,(hN x hx).1,hq,h1,e2,.more ⟨x,hx,rfl,a,ha,rfl⟩ w⟩
theorem kK {N:List Tx}{l:List RItem}{p q:Tx}(h:Way (D6 l) p q):Way (gQ N l) (N.idxOf p) (N.idxOf q):=by
 induction h with
 |one e=>
  obtain⟨x,hx,rfl,a,ha,rfl⟩:=e;exact .one ⟨x,hx,rfl,a,ha,rfl⟩
 |more e _ ih=>
  obtain⟨x,hx,rfl,a,ha,rfl⟩:=e;exact .more ⟨x,hx,rfl,a,ha,rfl⟩ ih
theorem Way.map' {α:Type}{E F:α->α->Prop}(h:∀a b,E a b->F a b){a b:α}(w:Way E a b):Way F a b:=by
 induction w with
 |one e=>exact .one (h _ _ e)
 |more e _ ih=>exact .more (h _ _ e) ih
theorem Aay {N:List Tx}{l:List RItem}{M:Nat->Nat->Bool}(hN:∀x∈l,x.head.pred∈N/\∀a∈x.body,a.pred∈N)(ho:∀x∈l,x.out=true->x.body=[])(hM:Dr N l M){p q:Tx}(hp:p∈N)(hq:q∈N)(hy:∃y∈l,y.out=false/\y.head.pred=q):
  F9 N.length M N.length (N.idxOf p) (N.idxOf q)=oE l p q:=by
 have hS:Aad N.length M:=by
  intro a b ac;obtain⟨x,hx,rfl,c,hc,rfl⟩:=(hM a b).1 ac;exact⟨Ah9 (hN x hx).1,Ah9 ((hN x hx).2 c hc)⟩
 rw[Ah7,cD hS,Mn ho hy];constructor
 ·intro w;obtain⟨p',q',ab,aa,e1,e2,w'⟩:=qW hN (w.map' fun a b h=>(hM a b).1 h);rw[<-C2 ab hp e1,<-C2 aa hq e2];exact w'
 ·intro w;exact (kK w).map' fun a b h=>(hM a b).2 h
theorem aQ {N:List Tx}:∀{l:List RAtom} {cs:List AV},EL (PL N) l cs->∀a∈l,a.pred∈N
 |[],cs,h,a,ha=>by cases ha
 |b::l,cs,⟨c,d,hc,hd,e⟩,a,ha=>by
  rcases Ahm.1 ha with rfl|ha
  ·exact hc.1
  ·exact aQ hd a ha
theorem Hh {N:List Tx}:∀{l:List RItem} {cs:List AV},EL (PI N) l cs->∀x∈l,x.head.pred∈N/\∀a∈x.body,a.pred∈N
 |[],cs,h,a,ha=>by cases ha
 |b::l,cs,⟨c,d,hc,hd,e⟩,a,ha=>by
  rcases Ahm.1 ha with rfl|ha
  ·obtain⟨hm,ih,id,bb,hb,-⟩:=hc;exact⟨hm,aQ hb⟩
  ·exact Hh hd a ha
theorem Aca {N:List Tx}{l:List RItem}{cs:List AV}{M:Nat->Nat->Bool}(hB:Bk N l cs)(hM:Dr N l M):Bj (Zg N l (F9 N.length M N.length)) l.length=Bj (G1 l) l.length:=by
 have hN:=Hh hB.el;apply Py;intro i hi;unfold Zg G1;rw[List.getElem?_eq_getElem hi];dsimp only;have hx:=Ah6 hi;generalize l[i]=x at hx;apply Ee;intro a ha;unfold wX Acw;have ho:x.out=false:=by
  cases h:x.out with
  |false=>rfl
  |true=>rw[hB.out x hx h]at ha;cases ha
 rw[Aay hN hB.out hM ((hN x hx).2 a ha) (hN x hx).1 ⟨x,hx,ho,rfl⟩];congr 2;rw[Ah7];simp only[Ajk];constructor
 ·intro e;exact C2 ((hN x hx).2 a ha) (hN x hx).1 Ajm
 ·intro e;rw[e]
theorem rA {l:List RItem}(hV:∀x∈l,∀a∈Ae x,VA a):Bj (Mq l) l.length=Bj (Ea l) l.length:=by
 apply Py;intro i hi;unfold Mq Ea;rw[List.getElem?_eq_getElem hi];dsimp only;rw[Sv (hV _ (Ah6 hi))]
theorem Vp (N:List Tx)(l:List RItem)(cs:List AV)(idn idi:Nat)(hB:Bk N l cs)(hV:∀x∈l,∀a∈Ae x,VA a)(I:St):ACalls Tryz.prog 71 [Bo N idn l idi cs] I fun r I'=>r=two (Ce l)/\Keep I I':=by
 have g1:=@Q4 (H6 l) l.length;have g2:=@Q4 (Ea l) l.length;have g3:=@Q4 (G1 l) l.length;have hU:=rA hV;have ab:=Q3 N l cs idn idi hB;rw[hU]at ab;have aj:∀I,ACalls Tryz.prog 123 [Bo N idn l idi cs] I fun r I'=>r=sc (.int .i64 (Bj (G1 l) l.length))/\Keep I I':=fun I=>by
  refine ACalls.mono (W8 N l cs idn idi hB I) ?_;rintro _ _ ⟨M,hM,rfl,hK⟩;exact⟨by rw[Aca hB hM],hK⟩
 clear hU;refine Z9 20 [.tmp 2,.tmp 3] Tryz.func71 ?_
 repeat' (first|refine Z1 ?_|(refine Z8 ?_;intro κ hκ)|(refine Z4 ?_;clear hκ κ)|(refine Z2 ?_ ?_<;>intro h ai<;>try exact Xp)|(refine Z5 ?_;first|(refine Xi (Sk N l cs idn idi hB _) ?_;rintro _ _ ⟨rfl,ad⟩;(have af:=ad.obj;have aa:=ad.nobj;(try simp only[Aa,Ab,Ah]at aa)))|(refine Xi (ab _) ?_;rintro _ _ ⟨rfl,ac⟩;(have ae:=ac.obj;have ah:=ac.nobj))|(refine Xi (aj _) ?_;rintro _ _ ⟨rfl,ak⟩))|refine Z3 ?_|exact⟨⟩|(apply hκ.out;clear hκ κ))
 ·have e1:Bj (H6 l) l.length≠ -1:=by simpa using h
  exact⟨_,rfl,by unfold Ce;rw[if_pos Ajm],Xs⟩
 ·have e1:Bj (H6 l) l.length= -1:=by simpa using (show (Bj (H6 l) l.length != -1)=false by assumption)
  have e2:Bj (Ea l) l.length≠ -1:=by simpa using h
  exact⟨_,rfl,by unfold Ce;rw[if_neg Ajm,if_pos Ajm],Xs⟩
 ·have e1:Bj (H6 l) l.length= -1:=by simpa using (show (Bj (H6 l) l.length != -1)=false by assumption)
  have e2:Bj (Ea l) l.length= -1:=by simpa using (show (Bj (Ea l) l.length != -1)=false by assumption)
  have e3:Bj (G1 l) l.length≠ -1:=by simpa using h
  exact⟨_,rfl,by unfold Ce;rw[if_neg Ajm,if_neg Ajm,if_pos Ajm],Xs⟩
 ·have e1:Bj (H6 l) l.length= -1:=by simpa using (show (Bj (H6 l) l.length != -1)=false by assumption)
  have e2:Bj (Ea l) l.length= -1:=by simpa using (show (Bj (Ea l) l.length != -1)=false by assumption)
  have e3:Bj (G1 l) l.length= -1:=by simpa using h
  exact⟨_,rfl,by unfold Ce;rw[if_neg Ajm,if_neg Ajm,if_neg Ajm],Xs⟩
theorem Age {N:List Tx}{l:List RItem}{cs:List AV}(hE:EL (PI N) l cs)(hl:l.length<=16)(hW:∀x∈l,Cl x)(hN:N.length<=2000):Bk N l cs:=by
 refine⟨hE,hl,fun x hx=>?_,fun x hx ho=>((hW x hx).2.1 ho).2.2,hN,fun x hx a ha=>?_⟩
 ·obtain⟨-,h2,h3⟩:=hW x hx;cases ho:x.out with
  |true=>
   obtain⟨-,q1,q2⟩:=h2 ho;exact⟨by simp[q2],by simp[q1],by simp[q2]⟩
  |false=>
   obtain⟨q1,-,q2,q3⟩:=h3 ho;have:=q1.2.2.1;exact⟨Ajm,Ajm,fun a ha=>by have:=(q3 a ha).2.2.1;omega⟩
 ·obtain⟨-,h2,h3⟩:=hW x hx;unfold Ae at ha;cases ho:x.out with
  |true=>
   obtain⟨-,q1,q2⟩:=h2 ho;simp[ho,q2]at ha
  |false=>
   obtain⟨q1,-,q2,q3⟩:=h3 ho;simp[ho]at ha;have hp:D2 a->0<a.terms.length:=fun w=>by
    have:=w.2.1;cases hh:a.terms with
    |nil=>exact absurd hh this
    |cons y ys=>simp
   rcases ha with rfl|ha
   ·exact hp q1
   ·exact hp (q3 a ha)
theorem dB {l:List RItem}(h:(Ce l).1=0):Ce l=(0,0):=by
 unfold Ce at h⊢;split
 ·rename_i h1;rw[if_pos h1]at h;cases h
 ·rename_i h1;rw[if_neg h1]at h;split
  ·rename_i h2;rw[if_pos h2]at h;cases h
  ·rename_i h2;rw[if_neg h2]at h;split
   ·rename_i h3;rw[if_pos h3]at h;cases h
   ·rfl
def mL (t:Tx)(n1:Nat)(c1:List AV)(n2:Nat)(c2:List AV):Prop:=
 ∃N l,Br 16 t= .got l []/\Bk N l c2/\n1=N.length/\c1=N.map str/\n2=l.length/\(∀x∈l,∀a∈Ae x,VA a)/\∀x∈l,Cl x
theorem Vi (t:Tx)(I:St):ACalls Tryz.prog 37 [str t] I fun r I'=>∃idn n1 c1 idi n2 c2,r=tp [ag [sl idn n1 c1,sl idi n2 c2],sc (.int .i64 (Av t).1),sc (.int .i64 (Av t).2)]/\Keep I I'/\((Av t).1=0->n1<=600/\mL t n1 c1 n2 c2):=by
 refine Z9 41 [.cell 2 62,.tmp 3,.tmp 4] Tryz.func37 ?_;by_cases hL:600<t.length
 ·have ad:Av t=(1,0):=by unfold Av;rw[if_pos hL]
  have ac:Ajs _:=ad;clear ad
  repeat' (first|refine Z1 ?_|(refine Z8 ?_;intro κ hκ)|(refine Z4 ?_;clear hκ κ)|(refine Z2 ?_ ?_<;>intro h ai<;>try exact Xp)|refine Z3 ?_|exact⟨⟩|(apply hκ.out;clear hκ κ))
  refine⟨_,rfl,1,0,[],1,0,[],by rw[ac.out],Xs,by rw[ac.out];intro h;simp at h⟩
 ·have aa:=Kq t;have ht:t.length<=1000:=Ajm;have ap:RS 0 t (I.nobj+1) [] 1 t (((I.new [nilS,nilS]).new [str [],sc (.int .i64 0),nilS]).put (I.nobj+1) [str t,sc (.int .i64 0),nilS]):=by
   refine⟨?_,Nat.lt_succ_self _,.inl ⟨rfl,rfl⟩,Ah2 _,by simp⟩;rw[Ak];simp[Le,R9]
  have hR:=fL ht ap;have an:Keep I (((I.new [nilS,nilS]).new [str [],sc (.int .i64 0),nilS]).put (I.nobj+1) [str t,sc (.int .i64 0),nilS]):=(((Keep.refl I).new _).new _).put Ajm _;cases hp:Br 16 t with
  |bad e=>
   rw[hp]at hR aa;dsimp only at aa;have ad:Av t=(2,((t.length-e.length:Nat):Int)):=by
    unfold Av;rw[if_neg hL,aa,if_pos (Aic _)]
   have ac:Ajs _:=ad;have HR:Ajs _:=hR;have ao:Ajs _:=an;clear ad aa ap hR hp an
   repeat' (first|refine Z1 ?_|(refine Z8 ?_;intro κ hκ)|(refine Z4 ?_;clear hκ κ)|(refine Z2 ?_ ?_<;>intro h ai<;>try exact Xp)|(refine Z5 ?_;refine Xi (HR.out) ?_;rintro _ _ ⟨n,ids,c,N',id',rfl,ae,ak,a4,ax⟩;(have af:=ae.keep.obj;have ah:=ae.keep.nobj;(try simp only[Aa,Ab,Ah]at ah)))|refine Z3 ?_|exact⟨⟩|(apply hκ.out;clear hκ κ))
   rename_i I1;have ab:=ak.obj;unfold Le R9 at ab;simp only[Rd.rest]at ab;have a3:I1.obj I.nobj=[nilS,nilS]:=by
    rw[af _ Ajr Ajm,Ai Ajm,Ag (by rw[Aa];omega),Ap]
   have aj:Keep I I1:=KeepR.keep ao.out ae.keep Ajm (.inl Ajm);clear af;refine A9 Aj (fun p=>p=I.nobj+1) [5] [0,1,2] [3,4,5] Ajp (fun _ _ _ h=>h) ?_;intro κ hκ;have aw:∀i,Kept (fun j=>!([5]:List Nat).contains j) (fun p=>p=I.nobj+1) I1 i (I1.put I.nobj [nilS,nilS]):=fun i _ p hp hF=>by
    subst hF;simp[St.put]
   refine Z3 ?_;refine⟨fun p h=>h.elim,fun p h=>h.elim,fun p h=>by cases h;rfl,?_⟩
   try (refine And.intro (aw _) ?_)
   try (refine And.intro (aw _) ?_)
   repeat' (first|refine Z1 ?_|(refine Z8 ?_;intro κ hκ)|(refine Z4 ?_;clear hκ κ)|(refine Z2 ?_ ?_<;>intro h ai<;>try exact Xp)|refine Z3 ?_|exact⟨⟩|(apply hκ.out;clear hκ κ))
   refine⟨_,rfl,1,0,[],1,0,[],by rw[ac.out],aj.put (Agi _) _,by rw[ac.out];intro h;simp at h⟩
  |got l r=>
   rw[hp]at hR aa;dsimp only at aa;obtain⟨p1,p2,p3,p4⟩:=Iu ht hp;have av:=Qw _ _ _ _ hp;have az:=(Ey _ _ _ _ hp).2.1;subst az;have ad:Av t=Ce l:=by
    unfold Av;rw[if_neg hL,aa,if_neg Ajm,p2]
   have ac:Ajs _:=ad;have HR:Ajs _:=hR;have ao:Ajs _:=an;have HP:Ajs _:=hp;clear ad aa ap hR hp an p2 p1
   repeat' (first|refine Z1 ?_|(refine Z8 ?_;intro κ hκ)|(refine Z4 ?_;clear hκ κ)|(refine Z2 ?_ ?_<;>intro h ai<;>try exact Xp)|(refine Z5 ?_;first|(refine Xi (HR.out) ?_;rintro _ _ ⟨n,ids,c,N',id',rfl,ae,ak,a4,ax⟩;(have af:=ae.keep.obj;have ah:=ae.keep.nobj;(try simp only[Aa,Ab,Ah]at ah);have ab:=ak.obj;unfold Le R9 at ab;obtain⟨rfl,a5⟩:n=l.length/\EL (PI N') l c:=ax;have ay:=Age a5 p3 p4 (by have:=ak.len;omega)))|(refine Xi (Vp N' l c id' ids ay av _) ?_;rintro _ _ ⟨rfl,am⟩;(have kobf:=am.obj;have knof:=am.nobj;(try simp only[Aa,Ab,Ah]at knof))))|refine Z3 ?_|exact⟨⟩|(apply hκ.out;clear hκ κ))
   ·rename_i I1 a0 _ I2;have aj:Keep I I1:=KeepR.keep ao.out ae.keep Ajm (.inl Ajm);have au:=(((aj.new [nilS,nilS]).put aj.nobj _).trans am);exact⟨_,rfl,1,0,[],1,0,[],by rw[ac.out],au.put (Agi _) _,by rw[ac.out];intro h0;simp[h0]at h⟩
   ·rename_i I1 a0 _ I2;have aj:Keep I I1:=KeepR.keep ao.out ae.keep Ajm (.inl Ajm);have au:=(((aj.new [nilS,nilS]).put aj.nobj _).trans am);have hw:=dB (l:=l) (by simpa using h);exact⟨_,rfl,id',N'.length,N'.map str,ids,l.length,c,by rw[ac.out,hw],au.put (Agi _) _,fun _=>⟨by have:=ak.len;simp only[Rd.rest,Ahi]at this;omega,N',l,HP.out,ay,rfl,rfl,rfl,av,p4⟩⟩
theorem Zt (t:Tx)(I:St):ACalls Tryz.prog 37 [str t] I fun r I'=>∃idn n1 c1 idi n2 c2,r=tp [ag [sl idn n1 c1,sl idi n2 c2],sc (.int .i64 (Av t).1),sc (.int .i64 (Av t).2)]/\Keep I I'/\((Av t).1=0->mL t n1 c1 n2 c2):=
 ACalls.mono (Vi t I) fun r I' ⟨idn,n1,c1,idi,n2,c2,h1,h2,h3⟩=>⟨idn,n1,c1,idi,n2,c2,h1,h2,fun h=>(h3 h).2⟩
theorem nH (t:Tx)(I:St):ACalls Tryz.prog 19 [str t] I fun r I'=>r=two (Av t)/\Keep I I':=by
 refine Z9 15 [.tmp 2,.tmp 3] Tryz.func19 ?_
 repeat' (first|refine Z1 ?_|(refine Z8 ?_;intro κ hκ)|(refine Z4 ?_;clear hκ κ)|(refine Z2 ?_ ?_<;>intro h aa<;>try exact Xp)|(refine Z5 ?_;refine Xi (Zt t _) ?_;rintro _ _ ⟨idn,n1,c1,idi,n2,c2,rfl,hK,hb⟩;(clear hb))|refine Z3 ?_|exact⟨⟩|(apply hκ.out;clear hκ κ))
 exact⟨_,rfl,rfl,(hK.new _).put hK.nobj _⟩
open Go.RowKit (Below)
def st0:St:={obj:=fun _=>[],nobj:=0,top:=fun _=>0,ntop:=0,ver:=fun _=>0}
def gh0 (W:World):Gh:={blk:=fun _=>0,cur:=fun _=>0,cap:=fun _=>0,siz:=fun _=>0,per:=fun b _=>b<W.heap.size,base:=W.heap.size,w0:=W}
theorem inv0 (W:World)(hy:Abs.Hyp W.heap.size W):Abs.Inv (gh0 W) st0 W:=
 ⟨fun o h=>absurd h (Aid _),fun o o' h=>absurd h (Aid _),fun k h=>absurd h (Aid _),fun k k' h=>absurd h (Aid _),fun o k h=>absurd h (Aid _),
  fun b off h=>h,fun b off h=>h,Below.refl _ _,Agi _,hy⟩
end Go.Proofs.YtmoeoppbmhfbpabGreatDoorL
