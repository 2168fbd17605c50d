import Derived.Test.YtmoeoppbmhfbpabGreatDoorLEngL
set_option maxHeartbeats 32000000
set_option maxRecDepth 100000
set_option linter.all false
namespace Go.Proofs.YtmoeoppbmhfbpabGreatDoorL
open Go.Abs
def I9 (rs:List Int)(a:Df):Bool:=rs.any (A8 a.ts)
def A6 (q:Qry)(rs:List Int):Qry:=⟨q.head,q.parts.filter fun p=>I9 rs p.a,q.nots.filter (I9 rs)⟩
def H0 (q:Qry)(rs:List Int):Qry:=⟨⟨0,[]⟩,q.parts.filter fun p=>!I9 rs p.a,q.nots.filter fun a=>!I9 rs a⟩
theorem Rv (q:Qry)(c:List AV)(init:List Int)(idi:Nat)(hc:EQ q c)(hq:Ou q)(hil:init.length<=200)(σ:St):ACalls Tryz.prog 188 [ag c,sl idi init.length (Am init)] σ fun r σ'=>(∃c1 c2 rs,r=tp [ag c1,ag c2]/\EQ (A6 q rs) c1/\EQ (H0 q rs) c2/\Grown init (Cc (atomsQ q)) rs/\Fb (atomsQ q) rs rs)/\Keep σ σ':=by
 have bq:=fun σ=>Xy q c init idi hc hq hil σ;have b8:=Mg hq;have ci:=I6 hq;have b5:=E5 b8;obtain⟨ih,ip,inn,pc,nc,rfl,hP,hN⟩:=hc;have hpl:=EL.length Ef hP;have cd:=EL.length Ic hN;have hl:=hq.pl;have cg:=hq.nl;refine Z9 69 [.cell 4 191,.cell 5 191] Tryz.func188 ?_
 repeat' (first|refine Z1 ?_|(refine Z8 ?_;intro κ hκ)|(refine Z4 ?_;clear hκ κ)|(refine Z2 ?_ ?_<;>intro h ah<;>try exact Xp)|(refine Z6 ?_;intro idn σn aj ak ac ab ad aa)|(refine Z5 ?_;refine Xi (bq _) ?_;rintro _ _ ⟨⟨idr,rs,rfl,hG,hC⟩,a6⟩;(have bb:=a6.nobj;have ap:=a6.obj;have b7:=((((Keep.refl σ).new _).new _).new _).trans a6;simp only[Aa]at bb ap))|refine Z3 ?_|exact⟨⟩|(apply hκ.out;clear hκ κ))
 rename_i σ1;have bp:rs.length<=100000:=by have:=hG.le;omega
 have HG:Ajs _:=hG;have HC:Ajs _:=hC;clear hG hC bq b5;have o0:σ1.obj σ.nobj=[ic q.head.p,sl ih q.head.ts.length (Ac q.head.ts),sl ip q.parts.length pc,sl inn q.nots.length nc]:=by rw[ap _ Ajm,Ag Ajq,Ag Ajq,Ap]
 have o1:σ1.obj (σ.nobj+1)=[ic 0,nilS,nilS,nilS]:=by rw[ap _ Ajm,Ag Ajq,Bt Ajq Ajq]
 have o2:σ1.obj (σ.nobj+2)=[ic 0,nilS,nilS,nilS]:=by rw[ap _ Ajm,Bt Ajq Ajq]
 clear ap a6;generalize b6:σ1.nobj=o7 at*
 refine Af (fun m s σ'=>∃(k i3 i4:Nat) (l1 l2:List Part) (xs ys:List AV),m=q.parts.length-k/\k<=q.parts.length/\s 2=ptr σ.nobj 0/\s 4=ptr (σ.nobj+1) 0/\s 5=ptr (σ.nobj+2) 0/\s 6=sl idr rs.length (Am rs)/\s 7=ptr o7 0/\s 8=ptr (o7+1) 0/\s 21=sl ip q.parts.length pc/\s 22=ic q.parts.length/\s 23=ic k/\Keep σ σ'/\o7+1<σ'.nobj/\σ'.obj σ.nobj=[ic q.head.p,sl ih q.head.ts.length (Ac q.head.ts),sl ip q.parts.length pc,sl inn q.nots.length nc]/\σ'.obj (σ.nobj+1)=[ic 0,nilS,nilS,nilS]/\σ'.obj (σ.nobj+2)=[ic 0,nilS,nilS,nilS]/\σ'.obj o7=[ic q.head.p,sl ih q.head.ts.length (Ac q.head.ts),sl i3 l1.length xs,nilS]/\σ'.obj (o7+1)=[ic 0,nilS,sl i4 l2.length ys,nilS]/\Own σ σ' i3 l1.length/\Own σ σ' i4 l2.length/\(i3=1\/i3≠i4)/\l1.length<=k/\l2.length<=k/\xs.length=l1.length*3/\ys.length=l2.length*3/\Ajs (EL Mk l1 xs/\EL Mk l2 ys/\l1=(q.parts.take k).filter (fun p=>I9 rs p.a)/\l2=(q.parts.take k).filter fun p=>!I9 rs p.a)) q.parts.length
  ⟨0,1,1,[],[],[],[],Ajm,Ajm,Ajo,Ajo,Ajo,Ajo,Ajo,Ajo,Ajo,Ajo,rfl,Xs,Ajr,?_,?_,?_,?_,?_,Own.nil _ _,Own.nil _ _,.inl rfl,by simp,by simp,by simp,by simp,⟨rfl,rfl,by simp,by simp⟩⟩ ?_
 ·rw[Ai Ajm,Ag Ajr,Ai Ajm,Ag Ajm,o0]
 ·rw[Ai Ajm,Ag Ajr,Ai Ajm,Ag Ajm,o1]
 ·rw[Ai Ajm,Ag Ajr,Ai Ajm,Ag Ajm,o2]
 ·rw[Ai Ajm,Ag Ajr,Ak];simp
 ·rw[Ak];simp
 clear o0 o1 o2 b7 b6;rintro m s σ' ⟨k,i3,i4,l1,l2,xs,ys,rfl,hk,h2,h4,h5,h6,h7,h8,cb,ca,b9,hK,bc,bz,ba,a9,a8,a7,bl,bi,a5,b2,bf,bo,bn,hX⟩;have bm:=hK.nobj;by_cases a3:k<q.parts.length
 ·have af:=List.getElem?_eq_getElem a3;obtain⟨id,idt,r,hd⟩:=Fa hP af;have bh:=hq.pa _ (Ah6 a3);generalize q.parts[k]=w at hd af bh;have be:w.a.ts.length<=1000:=Ajm;have au:=fun σ=>K1 w.a.p id w.a.ts rs idr be bp σ;have a4:Keep σ ((σ'.new [ic 0,nilS,nilS]).put σ'.nobj [ic w.a.p,sl id w.a.ts.length (Ac w.a.ts),sl idt w.tups.length (Dd w.tups)]):=(hK.new _).put hK.nobj _;have aw:Ajs ((q.parts.take (k+1)).filter (fun p=>I9 rs p.a)=(q.parts.take k).filter (fun p=>I9 rs p.a)++if I9 rs w.a=true then [w]else []):=by
   rw[Ajs,Agz,af,Aia,Dw]
  have av:Ajs ((q.parts.take (k+1)).filter (fun p=>!I9 rs p.a)=(q.parts.take k).filter (fun p=>!I9 rs p.a)++if (!I9 rs w.a)=true then [w]else []):=by
   rw[Ajs,Agz,af,Aia,Dw]
  clear af;rw[show rs.any (A8 w.a.ts)=I9 rs w.a from rfl]at au;cases ao:I9 rs w.a with
  |true=>
   rw[ao]at au;have HX:Ajs (EL Mk (l1++[w]) (xs++[ic w.a.p,sl id w.a.ts.length (Ac w.a.ts),sl idt w.tups.length (Dd w.tups)])/\EL Mk l2 ys/\l1++[w]=(q.parts.take (k+1)).filter (fun p=>I9 rs p.a)/\l2=(q.parts.take (k+1)).filter fun p=>!I9 rs p.a):=by
    obtain⟨x1,x2,x3,x4⟩:=hX.out;exact⟨EL.append x1 (EL.single ⟨id,idt,rfl⟩),x2,by rw[aw.out,if_pos ao,x3],by rw[av.out,ao,x4];simp⟩
   clear hX aw av
   repeat' (first|refine Z1 ?_|(refine Z8 ?_;intro κ hκ)|(refine Z4 ?_;clear hκ κ)|(refine Z2 ?_ ?_<;>intro h ah<;>try exact Xp)|(refine Z6 ?_;intro idn σn aj ak ac ab ad aa)|(refine Z5 ?_;refine Xi (au _) ?_;rintro _ _ ⟨rfl,ai⟩;(have am:=ai.nobj;have ae:=ai.obj;have a0:=a4.trans ai;simp only[Ab,Aa]at am ae))|refine Z3 ?_|exact⟨⟩|(apply hκ.out;clear hκ κ))
   refine Hv (by first|exact Es|exact D3) a0 (Own.keep (Own.put (Own.new bl _) _ _) ai) (by decide) (by rfl) bo (by rfl) (by rfl) (by decide) Ajm Ajm ?_;intro idn σn aj ak ac ab ad aa an;obtain⟨ay,ax⟩:=an i4 l2.length (Own.keep (Own.put (Own.new bi _) _ _) ai) a5;have eob:∀p,p<σ'.nobj->σn.obj p=σ'.obj p:=fun p hp=>by rw[ac,ae _ Ajm,Ai Ajm,Ag Ajm]
   refine Z3 ?_
   repeat' (first|refine Z1 ?_|(refine Z8 ?_;intro κ hκ)|(refine Z4 ?_;clear hκ κ)|(refine Z2 ?_ ?_<;>intro h ah<;>try exact Xp)|(refine Z6 ?_;intro idn σn aj ak ac ab ad aa)|refine Z3 ?_|exact⟨⟩|(apply hκ.out;clear hκ κ))
   refine⟨q.parts.length-(k+1),Ajm,k+1,idn,i4,l1++[w],l2,xs++[ic w.a.p,sl id w.a.ts.length (Ac w.a.ts),sl idt w.tups.length (Dd w.tups)],ys,?_⟩
   ((repeat' with_reducible refine And.intro ?_ ?_)<;>first|exact Xq|exact (ak.put Ajm _)|exact (by simpa using Own.put aj _ _)|exact (Own.put ay _ _)|exact (HX)|exact Xs)
  |false=>
   rw[ao]at au;have HX:Ajs (EL Mk l1 xs/\EL Mk (l2++[w]) (ys++[ic w.a.p,sl id w.a.ts.length (Ac w.a.ts),sl idt w.tups.length (Dd w.tups)])/\l1=(q.parts.take (k+1)).filter (fun p=>I9 rs p.a)/\l2++[w]=(q.parts.take (k+1)).filter fun p=>!I9 rs p.a):=by
    obtain⟨x1,x2,x3,x4⟩:=hX.out;exact⟨x1,EL.append x2 (EL.single ⟨id,idt,rfl⟩),by rw[aw.out,ao,x3];simp,by rw[av.out,ao,x4];simp⟩
   clear hX aw av
   repeat' (first|refine Z1 ?_|(refine Z8 ?_;intro κ hκ)|(refine Z4 ?_;clear hκ κ)|(refine Z2 ?_ ?_<;>intro h ah<;>try exact Xp)|(refine Z6 ?_;intro idn σn aj ak ac ab ad aa)|(refine Z5 ?_;refine Xi (au _) ?_;rintro _ _ ⟨rfl,ai⟩;(have am:=ai.nobj;have ae:=ai.obj;have a0:=a4.trans ai;simp only[Ab,Aa]at am ae))|refine Z3 ?_|exact⟨⟩|(apply hκ.out;clear hκ κ))
   refine Hv (by first|exact Es|exact D3) a0 (Own.keep (Own.put (Own.new bi _) _ _) ai) (by decide) (by rfl) bn (by rfl) (by rfl) (by decide) Ajm Ajm ?_;intro idn σn aj ak ac ab ad aa an;obtain⟨az,ax⟩:=an i3 l1.length (Own.keep (Own.put (Own.new bl _) _ _) ai) Ajm;have bd:i3=1\/i3≠idn:=Ajm;have eob:∀p,p<σ'.nobj->σn.obj p=σ'.obj p:=fun p hp=>by rw[ac,ae _ Ajm,Ai Ajm,Ag Ajm]
   refine Z3 ?_
   repeat' (first|refine Z1 ?_|(refine Z8 ?_;intro κ hκ)|(refine Z4 ?_;clear hκ κ)|(refine Z2 ?_ ?_<;>intro h ah<;>try exact Xp)|(refine Z6 ?_;intro idn σn aj ak ac ab ad aa)|refine Z3 ?_|exact⟨⟩|(apply hκ.out;clear hκ κ))
   refine⟨q.parts.length-(k+1),Ajm,k+1,i3,idn,l1,l2++[w],xs,ys++[ic w.a.p,sl id w.a.ts.length (Ac w.a.ts),sl idt w.tups.length (Dd w.tups)],?_⟩
   ((repeat' with_reducible refine And.intro ?_ ?_)<;>first|exact Xq|exact (ak.put Ajm _)|exact (by simpa using Own.put aj _ _)|exact (Own.put az _ _)|exact (HX)|exact Xs)
 ·have b3:k=q.parts.length:=Ajm;subst b3;obtain⟨x1,x2,x3,x4⟩:=hX.out;rw[Agw]at x3 x4;have HX:Ajs (EL Mk (q.parts.filter fun p=>I9 rs p.a) xs/\EL Mk (q.parts.filter fun p=>!I9 rs p.a) ys/\l1.length=(q.parts.filter fun p=>I9 rs p.a).length/\l2.length=(q.parts.filter fun p=>!I9 rs p.a).length):=⟨by rw[<-x3];exact x1,by rw[<-x4];exact x2,by rw[x3],by rw[x4]⟩;clear x1 x2 x3 x4 hX hk;generalize l1.length=n1 at*
  generalize l2.length=n2 at*
  repeat' (first|refine Z1 ?_|(refine Z8 ?_;intro κ hκ)|(refine Z4 ?_;clear hκ κ)|(refine Z2 ?_ ?_<;>intro h ah<;>try exact Xp)|(refine Z6 ?_;intro idn σn aj ak ac ab ad aa)|refine Z3 ?_|exact⟨⟩|(apply hκ.out;clear hκ κ))
  refine Af (fun m s σ'=>∃(j i5 i6:Nat) (m1 m2:List Df) (us vs:List AV),m=q.nots.length-j/\j<=q.nots.length/\s 4=ptr (σ.nobj+1) 0/\s 5=ptr (σ.nobj+2) 0/\s 6=sl idr rs.length (Am rs)/\s 7=ptr o7 0/\s 8=ptr (o7+1) 0/\s 45=sl inn q.nots.length nc/\s 46=ic q.nots.length/\s 47=ic j/\Keep σ σ'/\o7+1<σ'.nobj/\σ'.obj (σ.nobj+1)=[ic 0,nilS,nilS,nilS]/\σ'.obj (σ.nobj+2)=[ic 0,nilS,nilS,nilS]/\σ'.obj o7=[ic q.head.p,sl ih q.head.ts.length (Ac q.head.ts),sl i3 n1 xs,sl i5 m1.length us]/\σ'.obj (o7+1)=[ic 0,nilS,sl i4 n2 ys,sl i6 m2.length vs]/\Own σ σ' i5 m1.length/\Own σ σ' i6 m2.length/\(i5=1\/i5≠i6)/\m1.length<=j/\m2.length<=j/\us.length=m1.length*2/\vs.length=m2.length*2/\Ajs (EL Mm m1 us/\EL Mm m2 vs/\m1=(q.nots.take j).filter (I9 rs)/\m2=(q.nots.take j).filter fun a=>!I9 rs a)) q.nots.length
   ⟨0,1,1,[],[],[],[],Ajm,Ajm,Ajn,Ajn,Ajn,Ajn,Ajn,Ajn,Ajn,Ajo,hK,bc,ba,a9,by rw[a8];simp,by rw[a7];simp,Own.nil _ _,Own.nil _ _,.inl rfl,by simp,by simp,by simp,by simp,⟨rfl,rfl,by simp,by simp⟩⟩ ?_
  clear h2 h4 h5 h6 h7 h8 cb ca b9 hK bc bz ba a9 a8 a7 bl bi a5 b2 bf bo bn a3 bm;rintro m s σ' ⟨j,i5,i6,m1,m2,us,vs,rfl,hj,h4,h5,h6,h7,h8,cm,ck,cj,hK,bc,ba,a9,a8,a7,bu,br,a5,cf,ce,b1,b0,hY⟩;have bm:=hK.nobj;by_cases a3:j<q.nots.length
  ·have af:=List.getElem?_eq_getElem a3;obtain⟨id,r,hd⟩:=Jl hN af;have bh:=hq.na _ (Ah6 a3);generalize q.nots[j]=w at hd af bh;have be:w.ts.length<=1000:=Ajm;have au:=fun σ=>K1 w.p id w.ts rs idr be bp σ;have a4:Keep σ ((σ'.new [ic 0,nilS]).put σ'.nobj [ic w.p,sl id w.ts.length (Ac w.ts)]):=(hK.new _).put hK.nobj _;have aw:Ajs ((q.nots.take (j+1)).filter (I9 rs)=(q.nots.take j).filter (I9 rs)++if I9 rs w=true then [w]else []):=by
    rw[Ajs,Agz,af,Aia,Dw]
   have av:Ajs ((q.nots.take (j+1)).filter (fun a=>!I9 rs a)=(q.nots.take j).filter (fun a=>!I9 rs a)++if (!I9 rs w)=true then [w]else []):=by
    rw[Ajs,Agz,af,Aia,Dw]
   clear af;rw[show rs.any (A8 w.ts)=I9 rs w from rfl]at au;cases ao:I9 rs w with
   |true=>
    rw[ao]at au;have HY:Ajs (EL Mm (m1++[w]) (us++[ic w.p,sl id w.ts.length (Ac w.ts)])/\EL Mm m2 vs/\m1++[w]=(q.nots.take (j+1)).filter (I9 rs)/\m2=(q.nots.take (j+1)).filter fun a=>!I9 rs a):=by
     obtain⟨x1,x2,x3,x4⟩:=hY.out;exact⟨EL.append x1 (EL.single ⟨id,rfl⟩),x2,by rw[aw.out,if_pos ao,x3],by rw[av.out,ao,x4];simp⟩
    clear hY aw av
    repeat' (first|refine Z1 ?_|(refine Z8 ?_;intro κ hκ)|(refine Z4 ?_;clear hκ κ)|(refine Z2 ?_ ?_<;>intro h ah<;>try exact Xp)|(refine Z6 ?_;intro idn σn aj ak ac ab ad aa)|(refine Z5 ?_;refine Xi (au _) ?_;rintro _ _ ⟨rfl,ai⟩;(have am:=ai.nobj;have ae:=ai.obj;have a0:=a4.trans ai;simp only[Ab,Aa]at am ae))|refine Z3 ?_|exact⟨⟩|(apply hκ.out;clear hκ κ))
    refine Hv (by first|exact Es|exact D3) a0 (Own.keep (Own.put (Own.new bu _) _ _) ai) (by decide) (by rfl) b1 (by rfl) (by rfl) (by decide) Ajm Ajm ?_;intro idn σn aj ak ac ab ad aa an;obtain⟨ay,ax⟩:=an i6 m2.length (Own.keep (Own.put (Own.new br _) _ _) ai) a5;have eob:∀p,p<σ'.nobj->σn.obj p=σ'.obj p:=fun p hp=>by rw[ac,ae _ Ajm,Ai Ajm,Ag Ajm]
    refine Z3 ?_
    repeat' (first|refine Z1 ?_|(refine Z8 ?_;intro κ hκ)|(refine Z4 ?_;clear hκ κ)|(refine Z2 ?_ ?_<;>intro h ah<;>try exact Xp)|(refine Z6 ?_;intro idn σn aj ak ac ab ad aa)|refine Z3 ?_|exact⟨⟩|(apply hκ.out;clear hκ κ))
    refine⟨q.nots.length-(j+1),Ajm,j+1,idn,i6,m1++[w],m2,us++[ic w.p,sl id w.ts.length (Ac w.ts)],vs,?_⟩
    ((repeat' with_reducible refine And.intro ?_ ?_)<;>first|exact Xq|exact (ak.put Ajm _)|exact (by simpa using Own.put aj _ _)|exact (Own.put ay _ _)|exact (HY)|exact Xs)
   |false=>
    rw[ao]at au;have HY:Ajs (EL Mm m1 us/\EL Mm (m2++[w]) (vs++[ic w.p,sl id w.ts.length (Ac w.ts)])/\m1=(q.nots.take (j+1)).filter (I9 rs)/\m2++[w]=(q.nots.take (j+1)).filter fun a=>!I9 rs a):=by
     obtain⟨x1,x2,x3,x4⟩:=hY.out;exact⟨x1,EL.append x2 (EL.single ⟨id,rfl⟩),by rw[aw.out,ao,x3];simp,by rw[av.out,ao,x4];simp⟩
    clear hY aw av
    repeat' (first|refine Z1 ?_|(refine Z8 ?_;intro κ hκ)|(refine Z4 ?_;clear hκ κ)|(refine Z2 ?_ ?_<;>intro h ah<;>try exact Xp)|(refine Z6 ?_;intro idn σn aj ak ac ab ad aa)|(refine Z5 ?_;refine Xi (au _) ?_;rintro _ _ ⟨rfl,ai⟩;(have am:=ai.nobj;have ae:=ai.obj;have a0:=a4.trans ai;simp only[Ab,Aa]at am ae))|refine Z3 ?_|exact⟨⟩|(apply hκ.out;clear hκ κ))
    refine Hv (by first|exact Es|exact D3) a0 (Own.keep (Own.put (Own.new br _) _ _) ai) (by decide) (by rfl) b0 (by rfl) (by rfl) (by decide) Ajm Ajm ?_;intro idn σn aj ak ac ab ad aa an;obtain⟨az,ax⟩:=an i5 m1.length (Own.keep (Own.put (Own.new bu _) _ _) ai) Ajm;have bd:i5=1\/i5≠idn:=Ajm;have eob:∀p,p<σ'.nobj->σn.obj p=σ'.obj p:=fun p hp=>by rw[ac,ae _ Ajm,Ai Ajm,Ag Ajm]
    refine Z3 ?_
    repeat' (first|refine Z1 ?_|(refine Z8 ?_;intro κ hκ)|(refine Z4 ?_;clear hκ κ)|(refine Z2 ?_ ?_<;>intro h ah<;>try exact Xp)|(refine Z6 ?_;intro idn σn aj ak ac ab ad aa)|refine Z3 ?_|exact⟨⟩|(apply hκ.out;clear hκ κ))
    refine⟨q.nots.length-(j+1),Ajm,j+1,i5,idn,m1,m2++[w],us,vs++[ic w.p,sl id w.ts.length (Ac w.ts)],?_⟩
    ((repeat' with_reducible refine And.intro ?_ ?_)<;>first|exact Xq|exact (ak.put Ajm _)|exact (by simpa using Own.put aj _ _)|exact (Own.put az _ _)|exact (HY)|exact Xs)
  ·have b4:j=q.nots.length:=Ajm;subst b4;obtain⟨x1,x2,x3,x4⟩:=hY.out;rw[Agw]at x3 x4;have bw:=HX.out.2.2.1;have bv:=HX.out.2.2.2
   have HN:Ajs (EQ (A6 q rs) [ic q.head.p,sl ih q.head.ts.length (Ac q.head.ts),sl i3 n1 xs,sl i5 m1.length us]/\EQ (H0 q rs) [ic 0,nilS,sl i4 n2 ys,sl i6 m2.length vs]):=
    ⟨⟨ih,i3,i5,xs,us,by simp only[A6];rw[bw,x3],HX.out.1,by simp only[A6];rw[<-x3];exact x1⟩,⟨1,i4,i6,ys,vs,by simp only[H0];rw[bv,x4];rfl,HX.out.2.1,by simp only[H0];rw[<-x4];exact x2⟩⟩
   clear x1 x2 x3 x4 hY bw bv
   repeat' (first|refine Z1 ?_|(refine Z8 ?_;intro κ hκ)|(refine Z4 ?_;clear hκ κ)|(refine Z2 ?_ ?_<;>intro h ah<;>try exact Xp)|(refine Z6 ?_;intro idn σn aj ak ac ab ad aa)|refine Z3 ?_|exact⟨⟩|(apply hκ.out;clear hκ κ))
   have o7b:σ.nobj+2<o7:=Ajm;refine Bu (Q:=fun e s' σ''=>e= .normal/\s' 4=ptr (σ.nobj+1) 0/\s' 5=ptr (σ.nobj+2) 0/\Keep σ σ''/\σ''.obj (σ.nobj+1)=[ic q.head.p,sl ih q.head.ts.length (Ac q.head.ts),sl i3 n1 xs,sl i5 m1.length us]/\σ''.obj (σ.nobj+2)=[ic 0,nilS,sl i4 n2 ys,sl i6 m2.length vs]) ?_ ?_
   ·refine A2 Aj (fun p=>p=o7\/p=o7+1) [3] [0] 3 #[true,false,false,false] Ajp (fun _ _ _ h=>by cases h.1) ?_;intro κ hκ;refine Z3 ?_;refine⟨fun p h=>.inl (Aiq h).symm,hκ.out _ ?_⟩;clear hκ κ;have bg:∀(A:Nat->Bool) (i:Nat) (c:List AV),Kept A (fun p=>p=o7\/p=o7+1) σ' i (σ'.put (σ.nobj+1) c):=fun A i c _ o ho hF=>by
     have:o≠σ.nobj+1:=by rcases hF with h|h<;>omega
     simp[St.put,this]
    refine Eg (rs:=[1,2]) Ajp (by simp) ?_;intro i hi;simp only[Ahm,Ah4,Ajl]at hi;rcases hi with rfl|rfl
    ·refine Ar ?_;intro κ hκ;refine Z3 ?_;refine hκ.out _ _ ⟨kept_refl,?_⟩;clear hκ κ;refine Ao (i:=2) Ajp ?_;refine Ar ?_;intro κ hκ;refine Z3 ?_;refine hκ.out _ _ ⟨bg _ _ _,?_⟩;clear hκ κ;refine Ao (i:=3) Ajp ?_;refine Ar ?_;intro κ hκ;refine Z3 ?_;refine hκ.out _ _ ⟨Bs rfl,?_⟩;clear hκ κ;refine A3 Ajp ⟨rfl,by simp[upd,h4],by simp[upd,h5],(hK.put Ajm _).put Ajm _,?_,?_⟩
     ·rw[Ai Ajm,Ak]
     ·rw[Ak]
    ·refine Ar ?_;intro κ hκ;refine Z3 ?_;refine hκ.out _ _ ⟨bg _ _ _,?_⟩;clear hκ κ;refine Ao (i:=1) Ajp ?_;refine Ar ?_;intro κ hκ;refine Z3 ?_;refine hκ.out _ _ ⟨bg _ _ _,?_⟩;clear hκ κ;refine Ao (i:=3) Ajp ?_;refine Ar ?_;intro κ hκ;refine Z3 ?_;refine hκ.out _ _ ⟨Bs rfl,?_⟩;clear hκ κ;refine A3 Ajp ⟨rfl,by simp[upd,h4],by simp[upd,h5],(hK.put Ajm _).put Ajm _,?_,?_⟩
     ·rw[Ai Ajm,Ak]
     ·rw[Ak]
   ·rintro e s' σ'' ⟨rfl,g4,g5,ch,o71,o72⟩
    repeat' (first|refine Z1 ?_|(refine Z8 ?_;intro κ hκ)|(refine Z4 ?_;clear hκ κ)|(refine Z2 ?_ ?_<;>intro h ah<;>try exact Xp)|(refine Z6 ?_;intro idn σn aj ak ac ab ad aa)|refine Z3 ?_|exact⟨⟩|(apply hκ.out;clear hκ κ))
    exact⟨_,rfl,⟨_,_,rs,rfl,HN.out.1,HN.out.2,HG.out,HC.out⟩⟩
abbrev MM:=List (Nat×List Bc)
def Fg (M:MM):List AV:=M.map fun x=>sl x.1 x.2.length (Dd x.2)
def Live (σ:St)(id n:Nat):Prop:=(id=1/\n=0)\/∃k,id=k+2/\k<σ.ntop/\σ.top k=n/\0<n
theorem Live.keep {σ σ':St}{id n:Nat}(h:Live σ id n)(k:Keep σ σ'):Live σ' id n:=by
 rcases h with h|⟨j,h1,h2,h3,h4⟩
 ·exact .inl h
 ·exact .inr ⟨j,h1,Agk h2 k.ntop,(k.top j h2).trans h3,h4⟩
structure MOb (σ:St)(om ot:Nat)(M:MM)(d b:Int):Prop where
 ob:σ.obj om=[fx ot 0 M.length,ic d,ic b]
 oc:σ.obj ot=Fg M
 lo:om<σ.nobj
 lt:ot<σ.nobj
 ne:om≠ot
 live:∀x∈M,Live σ x.1 x.2.length
 inj:∀(i j:Nat) (x y:Nat×List Bc),M[i]?=some x->M[j]?=some y->i≠j->x.1=1\/x.1≠y.1
 t3:∀x∈M,T3 x.2
 ln:∀x∈M,x.2.length<=5000
 pl:M.length<=5000
theorem MOb.keep {σ σ':St}{om ot:Nat}{M:MM}{d b:Int}(h:MOb σ om ot M d b)(k:Keep σ σ'):MOb σ' om ot M d b:=
 ⟨(k.obj _ h.lo).trans h.ob,(k.obj _ h.lt).trans h.oc,Agk h.lo k.nobj,Agk h.lt k.nobj,h.ne,fun x hx=>(h.live x hx).keep k,h.inj,h.t3,h.ln,h.pl⟩
theorem G8 {M:MM}{k:Nat}{x:Nat×List Bc}(h:M[k]?=some x):(Fg M)[k]?=some (sl x.1 x.2.length (Dd x.2)):=by simp[Fg,h]
theorem G7 (M:MM):(Fg M).length=M.length:=by simp[Fg]
theorem Kz (om ot:Nat)(M:MM)(d b:Int)(σ:St)(hM:MOb σ om ot M d b):ACalls Tryz.prog 51 [ptr om 0] σ fun r σ'=>r=sc (.bool (decide (b<d)))/\σ'=σ:=by
 have ob:=hM.ob;have ab:decide (d>b)=decide (b<d):=rfl;refine Z9 12 [.tmp 2] Tryz.func51 ?_
 repeat' (first|refine Z1 ?_|(refine Z8 ?_;intro κ hκ)|(refine Z4 ?_;clear hκ κ)|(refine Z2 ?_ ?_<;>intro h aa<;>try exact Xp)|refine Z3 ?_|exact⟨⟩|(apply hκ.out;clear hκ κ))
 refine A9 Aj (fun _=>True) [9] [0,1,2,3,4,5,6,7,8] [9] Ajp (fun _ _ _ h=>h) ?_;intro κ hκ
 repeat' (first|refine Z1 ?_|(refine Z8 ?_;intro κ hκ)|(refine Z4 ?_;clear hκ κ)|(refine Z2 ?_ ?_<;>intro h aa<;>try exact Xp)|refine Z3 ?_|exact⟨⟩|(apply hκ.out;clear hκ κ))
 first|exact⟨_,rfl,rfl⟩|exact⟨_,rfl,rfl,rfl⟩|exact⟨_,rfl⟩
def Cs (a:Df):Bc:=C5 (a.ts.map (·.2))
theorem I0 (om ot:Nat)(M:MM)(d b:Int)(a:Df)(id k:Nat)(x:Nat×List Bc)(ha:a.ts.length<=3)(hk:a.p=(k:Int))(hx:M[k]?=some x)(σ:St)(hM:MOb σ om ot M d b):ACalls Tryz.prog 81 [ptr om 0,ag [ic a.p,sl id a.ts.length (Ac a.ts)]] σ fun r σ'=>r=sc (.bool (decide (Cs a∈x.2)))/\Keep σ σ':=by
 have an:a.ts.length<=1000:=Ajm;have ah:=fun σ=>Ru a.p id a.ts an σ;have aj:=Agp hx;have h3:=hM.t3 x aj;have ay:=hM.ln x aj;have av:=E7 h3;have az:k<M.length:=(List.getElem?_eq_some_iff.1 hx).1;have hpl:=hM.pl;have ax:=G7 M;have a3:=G8 hx;have lo:=hM.lo;have lt:=hM.lt;have ob:=hM.ob;have oc:=hM.oc;rw[hk];rw[hk]at ah;have am:(C5 (a.ts.map (·.2))).length=3:=rfl;have HT:Ajs (Cs a=C5 (a.ts.map (·.2))):=rfl;generalize Cs a=ta at*
 generalize C5 (a.ts.map (·.2))=t0 at*
 obtain⟨a0,b0,c0,rfl⟩:∃a0 b0 c0,t0=[a0,b0,c0]:=by
  match t0,am with
  |[a0,b0,c0],_=>exact⟨a0,b0,c0,rfl⟩
 simp only[Am,Ag5,Ag6]at ah;refine Z9 27 [.tmp 4] Tryz.func81 ?_
 repeat' (first|refine Z1 ?_|(refine Z8 ?_;intro κ hκ)|(refine Z4 ?_;clear hκ κ)|(refine Z2 ?_ ?_<;>intro h ac<;>try exact Xp)|(refine Z5 ?_;refine Xi (ah _) ?_;rintro _ _ ⟨rfl,ae⟩;(have af:=ae.nobj;have ad:=ae.obj;have ai:=((Keep.refl σ).new _).trans ae;simp only[Aa]at af ad))|refine Z3 ?_|exact⟨⟩|(apply hκ.out;clear hκ κ))
 rename_i σ1;have ak:Keep σ ((σ1.new [ic 0,ic 0,ic 0]).put σ1.nobj [ic a0,ic b0,ic c0]):=(ai.new _).put Ajm _;have e0:σ1.obj σ.nobj=[ic (k:Int),sl id a.ts.length (Ac a.ts)]:=by rw[ad _ Ajm,Ap]
 have e1:σ1.obj om=[fx ot 0 M.length,ic d,ic b]:=by rw[ai.obj _ lo,ob]
 have e2:σ1.obj ot=Fg M:=by rw[ai.obj _ lt,oc]
 clear ad ae;refine A9 Aj (fun _=>True) [] [0,1,2,3,4,5,6,7,8,9] [] Ajp (fun _ _ _ h=>h) ?_;intro κ hκ
 repeat' (first|refine Z1 ?_|(refine Z8 ?_;intro κ hκ)|(refine Z4 ?_;clear hκ κ)|(refine Z2 ?_ ?_<;>intro h ac<;>try exact Xp)|refine Z3 ?_|exact⟨⟩|(apply hκ.out;clear hκ κ))
 clear e0 e1 e2
 refine Af (fun m s σ'=>∃i:Nat,m=x.2.length-i/\i<=x.2.length/\s 5=ptr σ1.nobj 0/\s 17=sl x.1 x.2.length (Dd x.2)/\s 18=ic x.2.length/\s 19=ic i/\Keep σ σ'/\σ1.nobj<σ'.nobj/\σ'.obj σ1.nobj=[ic a0,ic b0,ic c0]/\Ajs ([a0,b0,c0]∉x.2.take i)) x.2.length
  ⟨0,Ajm,Ajm,Ajo,Ajo,Ajo,rfl,ak,Ajr,by rw[Ak],by simp[Ajs]⟩ ?_
 clear ak;rintro m s σ' ⟨i,rfl,hi,h5,a7,a6,a5,hK,aw,ap,aa⟩;have au:=hK.nobj;by_cases ao:i<x.2.length
 ·have ab:=List.getElem?_eq_getElem ao;obtain⟨p,q,r,rr,he,hd⟩:=pH h3 ab;rw[he]at ab;clear he;have HG:Ajs (x.2[i]?=some [p,q,r]):=ab;clear ab;by_cases hc:p=a0/\q=b0/\r=c0
  ·obtain⟨rfl,rfl,rfl⟩:=hc;have hm:decide (ta∈x.2)=true:=by rw[HT.out];simpa using Agp HG.out
   repeat' (first|refine Z1 ?_|(refine Z8 ?_;intro κ hκ)|(refine Z4 ?_;clear hκ κ)|(refine Z2 ?_ ?_<;>intro h ac<;>try exact Xp)|refine Z3 ?_|exact⟨⟩|(apply hκ.out;clear hκ κ))
   first|exact⟨_,rfl,rfl,Xs⟩|exact⟨_,rfl,by rw[hm],Xs⟩|(refine⟨_,rfl,?_⟩;((repeat' with_reducible refine And.intro ?_ ?_)<;>first|exact Xq|exact (by rw[hm])|exact Xs))
  ·have a4:(p==a0&&q==b0&&r==c0)=false:=by
    cases h:(p==a0&&q==b0&&r==c0)with
    |false=>rfl
    |true=>simp at h;exact absurd ⟨h.1.1,h.1.2,h.2⟩ hc
   have HN:Ajs ([a0,b0,c0]∉x.2.take (i+1)):=Va aa.out HG.out (fun e=>by simp at e;exact hc ⟨e.1,e.2.1,e.2.2⟩);clear hc aa
   repeat' (first|refine Z1 ?_|(refine Z8 ?_;intro κ hκ)|(refine Z4 ?_;clear hκ κ)|(refine Z2 ?_ ?_<;>intro h ac<;>try exact Xp)|refine Z3 ?_|exact⟨⟩|(apply hκ.out;clear hκ κ))
   refine⟨x.2.length-(i+1),Ajm,i+1,?_⟩
   ((repeat' with_reducible refine And.intro ?_ ?_)<;>first|exact Xq|exact (HN)|exact Xs)
 ·have hil:i=x.2.length:=Ajm;subst hil;rw[Agw]at aa;have hm:decide (ta∈x.2)=false:=by rw[HT.out];simpa using aa.out
  repeat' (first|refine Z1 ?_|(refine Z8 ?_;intro κ hκ)|(refine Z4 ?_;clear hκ κ)|(refine Z2 ?_ ?_<;>intro h ac<;>try exact Xp)|refine Z3 ?_|exact⟨⟩|(apply hκ.out;clear hκ κ))
  first|exact⟨_,rfl,rfl,hK⟩|exact⟨_,rfl,rfl⟩|exact⟨_,rfl,by rw[hm],hK⟩|exact⟨_,rfl,by rw[hm]⟩
structure KM (om ot:Nat)(M M':MM)(σ σ':St):Prop where
 nobj:σ.nobj<=σ'.nobj
 obj:∀o,o<σ.nobj->o≠om->o≠ot->σ'.obj o=σ.obj o
 ver:∀o,o<σ.nobj->o≠om->o≠ot->σ'.ver o=σ.ver o
 ntop:σ.ntop<=σ'.ntop
 top:∀k,k<σ.ntop->(∀x∈M,x.1≠k+2)->σ'.top k=σ.top k
 mid:∀x∈M',(∃y∈M,y.1=x.1)\/x.1=1\/σ.ntop+2<=x.1
theorem KM.ofKeep {om ot:Nat}{M:MM}{σ σ':St}(h:Keep σ σ'):KM om ot M M σ σ':=
 ⟨h.nobj,fun o ho _ _=>h.obj o ho,fun o ho _ _=>h.ver o ho,h.ntop,fun k hk _=>h.top k hk,fun x hx=>.inl ⟨x,hx,rfl⟩⟩
theorem KM.trans {om ot:Nat}{M M1 M2:MM}{σ σ1 σ2:St}(h:KM om ot M M1 σ σ1)(g:KM om ot M1 M2 σ1 σ2):KM om ot M M2 σ σ2 where
 nobj:=Agj h.nobj g.nobj
 obj:=fun o ho h1 h2=>(g.obj o (Agk ho h.nobj) h1 h2).trans (h.obj o ho h1 h2)
 ver:=fun o ho h1 h2=>(g.ver o (Agk ho h.nobj) h1 h2).trans (h.ver o ho h1 h2)
 ntop:=Agj h.ntop g.ntop
 top:=fun k hk hx=>(g.top k (Agk hk h.ntop) (fun x aa e=>by
  rcases h.mid x aa with⟨y,hy,e2⟩|e2|e2
  ·exact hx y hy (e2.trans e)
  ·omega
  ·omega)).trans (h.top k hk hx)
 mid:=fun x hx=>by
  rcases g.mid x hx with⟨y,hy,e⟩|e|e
  ·rcases h.mid y hy with⟨z,hz,e2⟩|e2|e2
   ·exact .inl ⟨z,hz,e2.trans e⟩
   ·exact .inr (.inl Ajm)
   ·exact .inr (.inr Ajm)
  ·exact .inr (.inl e)
  ·exact .inr (.inr (by have:=h.ntop;omega))
theorem tZ {P:Program}{t:TypeId}{z b:Nat}{zc:List Value}{σ:St}{id id2 n m m':Nat}{xs ys:List AV}{K:AV->St->Prop}(ht:Nm P t=some (z,b,zc))(hO:Live σ id n)
  (hz:0<z) (hzc:zc.length=z) (hx:xs.length=n*z) (hy:ys.length=m*z) (hf:ys.all flat=true) (hm:0<m) (hb:(n+m)*b<=140737488355328) (hl:n+m<=1099511627776)
  (h:∀id' σ',Live σ' id' (n+m)->(id'=id\/σ.ntop+2<=id')->id'≠1->σ'.obj=σ.obj->σ'.nobj=σ.nobj->σ'.ver=σ.ver->σ.ntop<σ'.ntop->(∀k,k<σ.ntop->k+2≠id->σ'.top k=σ.top k)->K (sl id' (n+m) (xs++ys)) σ'):Ib P t t (sl id n xs) (sl id2 m ys) (σ.lay m') K:=by
 unfold Ib cU;left;simp only[ht];rw[if_pos ⟨trivial,hz,hzc,hx,hy,hf,hm,hb,hl⟩];rcases hO with⟨rfl,rfl⟩|⟨k,rfl,h3,h4,h5⟩
 ·have aa:xs=[]:=Agu (by simpa using hx);subst aa;have:=h ((σ.lay m').ntop+2) ((σ.lay m').lay m) (.inr ⟨(σ.lay m').ntop,rfl,by simp[St.lay],by simp[St.lay],Ajm⟩) (.inr (by simp[St.lay])) (by simp) rfl rfl rfl (by simp[St.lay];omega) (fun k hk _=>(((Keep.refl σ).lay m').lay m).top k hk);simpa using this
 ·have e1:(σ.lay m').top k=n:=by simp[St.lay];rw[if_neg Ajm];exact h4
  simp only;rw[if_pos ⟨e1,h5⟩]
  exact h (k+2) _ (.inr ⟨k,rfl,by simp[St.raise,St.lay];omega,by simp[St.raise],Ajm⟩) (.inl rfl) Ajm rfl rfl rfl (by simp[St.raise,St.lay]) (fun j hj ab=>by
   simp[St.raise,St.lay]
   rw[if_neg Ajm,if_neg Ajm])
theorem MOb.grow {σ σ':St}{om ot:Nat}{M:MM}{d b:Int}{k id':Nat}{x:Nat×List Bc}{t:Bc}(hM:MOb σ om ot M d b)(hx:M[k]?=some x)(ht:t.length=3)(hn:x.2.length<5000)
  (hL:Live σ' id' (x.2.length+1)) (hid:id'=x.1\/σ.ntop+2<=id') (an:id'≠1) (eob:∀o,o<σ.nobj->o≠ot->σ'.obj o=σ.obj o) (aj:∀o,o<σ.nobj->o≠ot->σ'.ver o=σ.ver o) (eoc:σ'.obj ot=(Fg M).set k (sl id' (x.2.length+1) (Dd x.2++Am t))) (eno:σ.nobj<=σ'.nobj) (ento:σ.ntop<=σ'.ntop)
  (etop:∀j,j<σ.ntop->j+2≠x.1->σ'.top j=σ.top j):MOb σ' om ot (M.set k (id',x.2++[t])) d b/\KM om ot M (M.set k (id',x.2++[t])) σ σ':=by
 have ae:=Agp hx;have am:k<M.length:=(List.getElem?_eq_some_iff.1 hx).1;have ah:∀(i:Nat) (y:Nat×List Bc),M[i]?=some y->i≠k->Live σ' y.1 y.2.length/\(y.1=1\/y.1≠id'):=fun i y hy ac=>by
  have ak:=Agp hy;rcases hM.live y ak with h|⟨j,e1,e2,e3,e4⟩
  ·exact⟨.inl h,.inl h.1⟩
  ·have ao:y.1≠x.1:=by
    rcases hM.inj i k y x hy hx ac with h|h
    ·omega
    ·exact h
   refine⟨.inr ⟨j,e1,Agk e2 ento,(etop j e2 Ajm).trans e3,e4⟩,.inr ?_⟩;rcases hid with h|h<;>omega
 have aa:∀(i:Nat) (y:Nat×List Bc),(M.set k (id',x.2++[t]))[i]?=some y->(i=k/\y=(id',x.2++[t]))\/(i≠k/\M[i]?=some y):=fun i y hy=>by
  rw[List.getElem?_set]at hy;by_cases e:k=i
  ·subst e;rw[if_pos rfl,if_pos am]at hy;exact .inl ⟨rfl,(Aiq hy).symm⟩
  ·rw[if_neg e]at hy;exact .inr ⟨fun h=>e h.symm,hy⟩
 have ab:∀y∈M.set k (id',x.2++[t]),y=(id',x.2++[t])\/y∈M:=fun y hy=>(Ai3 hy).symm;have ai:∀y∈M.set k (id',x.2++[t]),∃i,(M.set k (id',x.2++[t]))[i]?=some y:=fun y hy=>List.getElem?_of_mem hy;refine⟨⟨?_,?_,Agk hM.lo eno,Agk hM.lt eno,hM.ne,?_,?_,?_,?_,by simp;exact hM.pl⟩,⟨eno,fun o ho h1 h2=>eob o ho h2,fun o ho h1 h2=>aj o ho h2,ento,fun j hj h=>etop j hj (fun e=>h x ae e.symm),?_⟩⟩
 ·rw[eob om hM.lo hM.ne,hM.ob];simp
 ·rw[eoc];unfold Fg;rw[List.map_set];congr 1;simp[Dd]
 ·intro y hy;obtain⟨i,hi⟩:=ai y hy;rcases aa i y hi with⟨-,rfl⟩|⟨ac,ad⟩
  ·simpa using hL
  ·exact (ah i y ad ac).1
 ·intro i j y w hy hw ac;rcases aa i y hy with⟨rfl,rfl⟩|⟨h1,ad⟩
  ·rcases aa j w hw with⟨rfl,rfl⟩|⟨h2,af⟩
   ·exact absurd rfl ac
   ·have:=(ah j w af h2).2;simp only;by_cases e:id'=w.1
    ·rcases this with h|h
     ·omega
     ·omega
    ·exact .inr e
  ·rcases aa j w hw with⟨rfl,rfl⟩|⟨h2,af⟩
   ·exact (ah i y ad h1).2
   ·exact hM.inj i j y w ad af ac
 ·intro y hy;rcases ab y hy with rfl|hy
  ·intro u hu;rcases Ahs.1 hu with h|h
   ·exact hM.t3 x ae u h
   ·simp at h;subst h;exact ht
  ·exact hM.t3 y hy
 ·intro y hy;rcases ab y hy with rfl|hy
  ·simp;omega
  ·exact hM.ln y hy
 ·intro y hy;rcases ab y hy with rfl|hy
  ·rcases hid with h|h
   ·exact .inl ⟨x,ae,h.symm⟩
   ·exact .inr (.inr h)
  ·exact .inl ⟨y,hy,rfl⟩
theorem Vs (om ot:Nat)(M:MM)(d b:Int)(a:Df)(id k:Nat)(x:Nat×List Bc)(ha:a.ts.length<=3)(hk:a.p=(k:Int))(hx:M[k]?=some x)(hn:x.2.length<5000)(σ:St)(hM:MOb σ om ot M d b):ACalls Tryz.prog 82 [ptr om 0,ag [ic a.p,sl id a.ts.length (Ac a.ts)]] σ fun r σ'=>∃id',MOb σ' om ot (M.set k (id',x.2++[Cs a])) d b/\KM om ot M (M.set k (id',x.2++[Cs a])) σ σ':=by
 have av:a.ts.length<=1000:=Ajm;have ap:=fun σ=>Ru a.p id a.ts av σ;have ao:=Agp hx;have h3:=hM.t3 x ao;have hL:=hM.live x ao;have au:=E7 h3;have a0:k<M.length:=(List.getElem?_eq_some_iff.1 hx).1;have hpl:=hM.pl;have az:=G7 M;have a3:=G8 hx;have lo:=hM.lo;have lt:=hM.lt;have ob:=hM.ob;have oc:=hM.oc;rw[hk];rw[hk]at ap;have aj:(C5 (a.ts.map (·.2))).length=3:=rfl;have HT:Ajs (Cs a=C5 (a.ts.map (·.2))):=rfl;generalize Cs a=ta at*
 generalize C5 (a.ts.map (·.2))=t0 at*
 have w1:=Ds aj;have w5:=Co t0;have w4:=Hz aj;refine Z9 23 [] Tryz.func82 ?_
 repeat' (first|refine Z1 ?_|(refine Z8 ?_;intro κ hκ)|(refine Z4 ?_;clear hκ κ)|(refine Z2 ?_ ?_<;>intro h an<;>try exact Xp)|(refine Z6 ?_;intro idn σn aw ay ac ae aa ad)|refine Z3 ?_|exact⟨⟩|(apply hκ.out;clear hκ κ))
 refine Bu (Q:=fun e s' σ'=>e= .normal/\∃id',MOb σ' om ot (M.set k (id',x.2++[ta])) d b/\KM om ot M (M.set k (id',x.2++[ta])) σ σ') ?_ ?_
 ·refine A2 Aj (fun _=>True) [19] [0,1,2,3,4,5,6,7,8,9,10,11,12,13,14] 5 #[true,true,true,true,true,true,true,true,true,true,true,true,true,true,true,false,false,false,false,false] Ajp (fun _ _ _ h=>by cases h.1) ?_;intro κ hκ;refine Z3 ?_;refine hκ.out _ ?_;clear hκ κ;refine Ao (i:=15) Ajp ?_;refine Ar ?_;intro κ hκ;refine Z3 ?_;refine ACalls.mono (ap _) ?_;rintro _ σ5 ⟨rfl,af⟩;refine Z3 ?_;refine hκ.out _ _ ⟨Aq af,?_⟩;clear hκ κ;have ai:=af.nobj;simp only[Aa]at ai;have ab:Keep σ σ5:=((Keep.refl σ).new _).trans af;have e1:σ5.obj om=[fx ot 0 M.length,ic d,ic b]:=by rw[ab.obj _ lo,ob]
  have e2:σ5.obj ot=Fg M:=by rw[ab.obj _ lt,oc]
  refine Ao (i:=16) Ajp ?_;refine Ar ?_;intro κ hκ;refine Z3 ?_;refine hκ.out _ _ ⟨Aq (af.lay 1),?_⟩;clear hκ κ;refine Ao (i:=17) Ajp ?_;refine Ar ?_;intro κ hκ;refine Z3 ?_;refine tZ (by first|exact Fx) (hL.keep ab) (by decide) (by rfl) au (by rw[w1]) w5 (by decide) Ajm Ajm ?_;intro idn σn ax ak am ac ae aa ad etop;have e3:σn.obj ot=Fg M:=by rw[ac,e2]
  refine Z3 ?_;refine hκ.out _ _ ⟨fun _ o ho _=>by rw[aa];exact af.ver o ho,?_⟩;clear hκ κ;refine Ao (i:=18) Ajp ?_;refine Ar ?_;intro κ hκ;refine Z3 ?_;refine hκ.out _ _ ⟨fun _ o ho _=>by rw[aa];exact af.ver o ho,?_⟩;clear hκ κ;refine Ao (i:=19) Ajp ?_;refine Ar ?_;intro κ hκ;refine Z3 ?_;refine hκ.out _ _ ⟨Bs rfl,?_⟩;clear hκ κ;refine A3 Ajp ⟨rfl,idn,?_⟩;rw[HT.out];refine MOb.grow hM hx aj hn ?_ ?_ am ?_ ?_ ?_ ?_ ?_ ?_
  ·rcases ax with h|⟨j,h1,h2,h3,h4⟩
   ·exact .inl h
   ·exact .inr ⟨j,h1,h2,h3,h4⟩
  ·have:=ab.ntop;rcases ak with h|h
   ·exact .inl h
   ·exact .inr Ajm
  ·intro o ho ah;rw[show∀(S:St) c,(S.put ot c).obj o=S.obj o from fun S c=>by simp[St.put,ah],ac,ab.obj o ho]
  ·intro o ho ah;rw[show∀(S:St) c,(S.put ot c).ver o=S.ver o from fun S c=>by simp[St.put,ah],aa,ab.ver o ho]
  ·rw[Ak]
  ·have:=ab.nobj;simp only[Ab];omega
  ·have:=ab.ntop;simp only[Uu];omega
  ·intro j hj ah;rw[Sz,etop j (Agk hj ab.ntop) ah,ab.top j hj]
 ·rintro e s' σ'' ⟨rfl,idn,h1,h2⟩
  repeat' (first|refine Z1 ?_|(refine Z8 ?_;intro κ hκ)|(refine Z4 ?_;clear hκ κ)|(refine Z2 ?_ ?_<;>intro h an<;>try exact Xp)|(refine Z6 ?_;intro idn σn aw ay ac ae aa ad)|refine Z3 ?_|exact⟨⟩|(apply hκ.out;clear hκ κ))
  exact⟨_,rfl,idn,h1,h2⟩
end Go.Proofs.YtmoeoppbmhfbpabGreatDoorL
