import Derived.Test.YtmoeoppbmhfbpabGreatDoorJEngL
set_option maxHeartbeats 32000000
set_option maxRecDepth 100000
set_option linter.all false
namespace Go.Proofs.YtmoeoppbmhfbpabGreatDoorJ
open Go.Abs
def Ia (rs:List Int)(a:C6):Bool:=rs.any (A5 a.ts)
def A2 (q:Qry)(rs:List Int):Qry:=⟨q.head,q.parts.filter fun p=>Ia rs p.a,q.nots.filter (Ia rs)⟩
def G1 (q:Qry)(rs:List Int):Qry:=⟨⟨0,[]⟩,q.parts.filter fun p=>!Ia rs p.a,q.nots.filter fun a=>!Ia rs a⟩
theorem Pt (q:Qry)(c:List AV)(init:List Int)(idi:Nat)(hc:EQ q c)(hq:Me q)(b5:init.length<=200)(N:St):ACalls Tryz.prog 188 [ag c,sl idi init.length (icells init)] N fun r N'=>(∃c1 c2 rs,r=tp [ag c1,ag c2]/\EQ (A2 q rs) c1/\EQ (G1 q rs) c2/\Grown init (B7 (atomsQ q)) rs/\Ei (atomsQ q) rs rs)/\Keep N N':=by
 have bq:=fun N=>Uq q c init idi hc hq b5 N;have b9:=K2 hq;have cj:=H5 hq;have b6:=Ec b9;obtain⟨ih,ip,inn,pc,nc,rfl,hP,hN⟩:=hc;have hpl:=EL.length Dt hP;have ce:=EL.length Hi hN;have hl:=hq.pl;have ch:=hq.nl;refine Z9 69 [.cell 4 191,.cell 5 191] Tryz.func188 ?_
 repeat' (first|refine Z1 ?_|(refine Z8 ?_;intro κ hκ)|(refine Z4 ?_;clear hκ κ)|(refine Z2 ?_ ?_<;>intro h ah<;>try exact Xp)|(refine Z6 ?_;intro idn Nn aj ak ac ab ad aa)|(refine Z5 ?_;refine Xi (bq _) ?_;rintro _ _ ⟨⟨idr,rs,rfl,hG,hC⟩,a6⟩;(have bb:=a6.nobj;have ap:=a6.obj;have b8:=((((Keep.refl N).new _).new _).new _).trans a6;simp only[Aa]at bb ap))|refine Z3 ?_|exact⟨⟩|(apply hκ.out;clear hκ κ))
 rename_i N1;have bp:rs.length<=100000:=by have:=hG.le;omega
 have HG:Aec _:=hG;have HC:Aec _:=hC;clear hG hC bq b6;have o0:N1.obj N.nobj=[ic q.head.p,sl ih q.head.ts.length (Ac q.head.ts),sl ip q.parts.length pc,sl inn q.nots.length nc]:=by rw[ap _ Ad6,Ae Aea,Ae Aea,Ao]
 have o1:N1.obj (N.nobj+1)=[ic 0,nilS,nilS,nilS]:=by rw[ap _ Ad6,Ae Aea,Bu Aea Aea]
 have o2:N1.obj (N.nobj+2)=[ic 0,nilS,nilS,nilS]:=by rw[ap _ Ad6,Bu Aea Aea]
 clear ap a6;generalize b7:N1.nobj=o7 at*
 refine Ad (fun m s N'=>∃(k i3 i4:Nat) (l1 l2:List Part) (xs ys:List AV),m=q.parts.length-k/\k<=q.parts.length/\s 2=ptr N.nobj 0/\s 4=ptr (N.nobj+1) 0/\s 5=ptr (N.nobj+2) 0/\s 6=sl idr rs.length (icells rs)/\s 7=ptr o7 0/\s 8=ptr (o7+1) 0/\s 21=sl ip q.parts.length pc/\s 22=ic q.parts.length/\s 23=ic k/\Keep N N'/\o7+1<N'.nobj/\N'.obj N.nobj=[ic q.head.p,sl ih q.head.ts.length (Ac q.head.ts),sl ip q.parts.length pc,sl inn q.nots.length nc]/\N'.obj (N.nobj+1)=[ic 0,nilS,nilS,nilS]/\N'.obj (N.nobj+2)=[ic 0,nilS,nilS,nilS]/\N'.obj o7=[ic q.head.p,sl ih q.head.ts.length (Ac q.head.ts),sl i3 l1.length xs,nilS]/\N'.obj (o7+1)=[ic 0,nilS,sl i4 l2.length ys,nilS]/\Own N N' i3 l1.length/\Own N N' i4 l2.length/\(i3=1\/i3≠i4)/\l1.length<=k/\l2.length<=k/\xs.length=l1.length*3/\ys.length=l2.length*3/\Aec (EL K3 l1 xs/\EL K3 l2 ys/\l1=(q.parts.take k).filter (fun p=>Ia rs p.a)/\l2=(q.parts.take k).filter fun p=>!Ia rs p.a)) q.parts.length
  ⟨0,1,1,[],[],[],[],Ad6,Ad6,Ad8,Ad8,Ad8,Ad8,Ad8,Ad8,Ad8,Ad8,rfl,Xs,Aeb,?_,?_,?_,?_,?_,Own.nil _ _,Own.nil _ _,.inl rfl,by simp,by simp,by simp,by simp,⟨rfl,rfl,by simp,by simp⟩⟩ ?_
 ·rw[Aj Ad6,Ae Aeb,Aj Ad6,Ae Ad6,o0]
 ·rw[Aj Ad6,Ae Aeb,Aj Ad6,Ae Ad6,o1]
 ·rw[Aj Ad6,Ae Aeb,Aj Ad6,Ae Ad6,o2]
 ·rw[Aj Ad6,Ae Aeb,Ak];simp
 ·rw[Ak];simp
 clear o0 o1 o2 b8 b7;rintro m s N' ⟨k,i3,i4,l1,l2,xs,ys,rfl,hk,h2,h4,h5,h6,h7,h8,cd,cb,ca,hK,bc,bz,ba,a9,a8,a7,bl,bi,a5,b2,bf,bo,bn,hX⟩;have bm:=hK.nobj;by_cases a3:k<q.parts.length
 ·have af:=List.getElem?_eq_getElem a3;obtain⟨id,idt,r,hd⟩:=Eh hP af;have bh:=hq.pa _ (Ac2 a3);generalize q.parts[k]=w at hd af bh;have be:w.a.ts.length<=1000:=Ad6;have au:=fun N=>Jw w.a.p id w.a.ts rs idr be bp N;have a4:Keep N ((N'.new [ic 0,nilS,nilS]).put N'.nobj [ic w.a.p,sl id w.a.ts.length (Ac w.a.ts),sl idt w.tups.length (Cx w.tups)]):=(hK.new _).put hK.nobj _;have aw:Aec ((q.parts.take (k+1)).filter (fun p=>Ia rs p.a)=(q.parts.take k).filter (fun p=>Ia rs p.a)++if Ia rs w.a=true then [w]else []):=by
   rw[Aec,Abv,af,Ac5,Db]
  have av:Aec ((q.parts.take (k+1)).filter (fun p=>!Ia rs p.a)=(q.parts.take k).filter (fun p=>!Ia rs p.a)++if (!Ia rs w.a)=true then [w]else []):=by
   rw[Aec,Abv,af,Ac5,Db]
  clear af;rw[show rs.any (A5 w.a.ts)=Ia rs w.a from rfl]at au;cases ao:Ia rs w.a with
  |true=>
   rw[ao]at au;have HX:Aec (EL K3 (l1++[w]) (xs++[ic w.a.p,sl id w.a.ts.length (Ac w.a.ts),sl idt w.tups.length (Cx w.tups)])/\EL K3 l2 ys/\l1++[w]=(q.parts.take (k+1)).filter (fun p=>Ia rs p.a)/\l2=(q.parts.take (k+1)).filter fun p=>!Ia rs p.a):=by
    obtain⟨x1,x2,x3,x4⟩:=hX.out;exact⟨EL.append x1 (EL.single ⟨id,idt,rfl⟩),x2,by rw[aw.out,if_pos ao,x3],by rw[av.out,ao,x4];simp⟩
   clear hX aw av
   repeat' (first|refine Z1 ?_|(refine Z8 ?_;intro κ hκ)|(refine Z4 ?_;clear hκ κ)|(refine Z2 ?_ ?_<;>intro h ah<;>try exact Xp)|(refine Z6 ?_;intro idn Nn aj ak ac ab ad aa)|(refine Z5 ?_;refine Xi (au _) ?_;rintro _ _ ⟨rfl,ai⟩;(have am:=ai.nobj;have ae:=ai.obj;have a0:=a4.trans ai;simp only[Ab,Aa]at am ae))|refine Z3 ?_|exact⟨⟩|(apply hκ.out;clear hκ κ))
   refine Gu (by first|exact D1|exact Di) a0 (Own.keep (Own.put (Own.new bl _) _ _) ai) (by decide) (by rfl) bo (by rfl) (by rfl) (by decide) Ad6 Ad6 ?_;intro idn Nn aj ak ac ab ad aa an;obtain⟨ay,ax⟩:=an i4 l2.length (Own.keep (Own.put (Own.new bi _) _ _) ai) a5;have eob:∀p,p<N'.nobj->Nn.obj p=N'.obj p:=fun p hp=>by rw[ac,ae _ Ad6,Aj Ad6,Ae Ad6]
   refine Z3 ?_
   repeat' (first|refine Z1 ?_|(refine Z8 ?_;intro κ hκ)|(refine Z4 ?_;clear hκ κ)|(refine Z2 ?_ ?_<;>intro h ah<;>try exact Xp)|(refine Z6 ?_;intro idn Nn aj ak ac ab ad aa)|refine Z3 ?_|exact⟨⟩|(apply hκ.out;clear hκ κ))
   refine⟨q.parts.length-(k+1),Ad6,k+1,idn,i4,l1++[w],l2,xs++[ic w.a.p,sl id w.a.ts.length (Ac w.a.ts),sl idt w.tups.length (Cx w.tups)],ys,?_⟩
   ((repeat' with_reducible refine And.intro ?_ ?_)<;>first|exact Xq|exact (ak.put Ad6 _)|exact (by simpa using Own.put aj _ _)|exact (Own.put ay _ _)|exact (HX)|exact Xs)
  |false=>
   rw[ao]at au;have HX:Aec (EL K3 l1 xs/\EL K3 (l2++[w]) (ys++[ic w.a.p,sl id w.a.ts.length (Ac w.a.ts),sl idt w.tups.length (Cx w.tups)])/\l1=(q.parts.take (k+1)).filter (fun p=>Ia rs p.a)/\l2++[w]=(q.parts.take (k+1)).filter fun p=>!Ia rs p.a):=by
    obtain⟨x1,x2,x3,x4⟩:=hX.out;exact⟨x1,EL.append x2 (EL.single ⟨id,idt,rfl⟩),by rw[aw.out,ao,x3];simp,by rw[av.out,ao,x4];simp⟩
   clear hX aw av
   repeat' (first|refine Z1 ?_|(refine Z8 ?_;intro κ hκ)|(refine Z4 ?_;clear hκ κ)|(refine Z2 ?_ ?_<;>intro h ah<;>try exact Xp)|(refine Z6 ?_;intro idn Nn aj ak ac ab ad aa)|(refine Z5 ?_;refine Xi (au _) ?_;rintro _ _ ⟨rfl,ai⟩;(have am:=ai.nobj;have ae:=ai.obj;have a0:=a4.trans ai;simp only[Ab,Aa]at am ae))|refine Z3 ?_|exact⟨⟩|(apply hκ.out;clear hκ κ))
   refine Gu (by first|exact D1|exact Di) a0 (Own.keep (Own.put (Own.new bi _) _ _) ai) (by decide) (by rfl) bn (by rfl) (by rfl) (by decide) Ad6 Ad6 ?_;intro idn Nn aj ak ac ab ad aa an;obtain⟨az,ax⟩:=an i3 l1.length (Own.keep (Own.put (Own.new bl _) _ _) ai) Ad6;have bd:i3=1\/i3≠idn:=Ad6;have eob:∀p,p<N'.nobj->Nn.obj p=N'.obj p:=fun p hp=>by rw[ac,ae _ Ad6,Aj Ad6,Ae Ad6]
   refine Z3 ?_
   repeat' (first|refine Z1 ?_|(refine Z8 ?_;intro κ hκ)|(refine Z4 ?_;clear hκ κ)|(refine Z2 ?_ ?_<;>intro h ah<;>try exact Xp)|(refine Z6 ?_;intro idn Nn aj ak ac ab ad aa)|refine Z3 ?_|exact⟨⟩|(apply hκ.out;clear hκ κ))
   refine⟨q.parts.length-(k+1),Ad6,k+1,i3,idn,l1,l2++[w],xs,ys++[ic w.a.p,sl id w.a.ts.length (Ac w.a.ts),sl idt w.tups.length (Cx w.tups)],?_⟩
   ((repeat' with_reducible refine And.intro ?_ ?_)<;>first|exact Xq|exact (ak.put Ad6 _)|exact (by simpa using Own.put aj _ _)|exact (Own.put az _ _)|exact (HX)|exact Xs)
 ·have b3:k=q.parts.length:=Ad6;subst b3;obtain⟨x1,x2,x3,x4⟩:=hX.out;rw[Abt]at x3 x4;have HX:Aec (EL K3 (q.parts.filter fun p=>Ia rs p.a) xs/\EL K3 (q.parts.filter fun p=>!Ia rs p.a) ys/\l1.length=(q.parts.filter fun p=>Ia rs p.a).length/\l2.length=(q.parts.filter fun p=>!Ia rs p.a).length):=⟨by rw[<-x3];exact x1,by rw[<-x4];exact x2,by rw[x3],by rw[x4]⟩;clear x1 x2 x3 x4 hX hk;generalize l1.length=n1 at*
  generalize l2.length=n2 at*
  repeat' (first|refine Z1 ?_|(refine Z8 ?_;intro κ hκ)|(refine Z4 ?_;clear hκ κ)|(refine Z2 ?_ ?_<;>intro h ah<;>try exact Xp)|(refine Z6 ?_;intro idn Nn aj ak ac ab ad aa)|refine Z3 ?_|exact⟨⟩|(apply hκ.out;clear hκ κ))
  refine Ad (fun m s N'=>∃(j i5 i6:Nat) (m1 m2:List C6) (us vs:List AV),m=q.nots.length-j/\j<=q.nots.length/\s 4=ptr (N.nobj+1) 0/\s 5=ptr (N.nobj+2) 0/\s 6=sl idr rs.length (icells rs)/\s 7=ptr o7 0/\s 8=ptr (o7+1) 0/\s 45=sl inn q.nots.length nc/\s 46=ic q.nots.length/\s 47=ic j/\Keep N N'/\o7+1<N'.nobj/\N'.obj (N.nobj+1)=[ic 0,nilS,nilS,nilS]/\N'.obj (N.nobj+2)=[ic 0,nilS,nilS,nilS]/\N'.obj o7=[ic q.head.p,sl ih q.head.ts.length (Ac q.head.ts),sl i3 n1 xs,sl i5 m1.length us]/\N'.obj (o7+1)=[ic 0,nilS,sl i4 n2 ys,sl i6 m2.length vs]/\Own N N' i5 m1.length/\Own N N' i6 m2.length/\(i5=1\/i5≠i6)/\m1.length<=j/\m2.length<=j/\us.length=m1.length*2/\vs.length=m2.length*2/\Aec (EL Mg m1 us/\EL Mg m2 vs/\m1=(q.nots.take j).filter (Ia rs)/\m2=(q.nots.take j).filter fun a=>!Ia rs a)) q.nots.length
   ⟨0,1,1,[],[],[],[],Ad6,Ad6,Ad7,Ad7,Ad7,Ad7,Ad7,Ad7,Ad7,Ad8,hK,bc,ba,a9,by rw[a8];simp,by rw[a7];simp,Own.nil _ _,Own.nil _ _,.inl rfl,by simp,by simp,by simp,by simp,⟨rfl,rfl,by simp,by simp⟩⟩ ?_
  clear h2 h4 h5 h6 h7 h8 cd cb ca hK bc bz ba a9 a8 a7 bl bi a5 b2 bf bo bn a3 bm;rintro m s N' ⟨j,i5,i6,m1,m2,us,vs,rfl,hj,h4,h5,h6,h7,h8,co,cn,cm,hK,bc,ba,a9,a8,a7,bu,br,a5,cg,cf,b1,b0,hY⟩;have bm:=hK.nobj;by_cases a3:j<q.nots.length
  ·have af:=List.getElem?_eq_getElem a3;obtain⟨id,r,hd⟩:=Ip hN af;have bh:=hq.na _ (Ac2 a3);generalize q.nots[j]=w at hd af bh;have be:w.ts.length<=1000:=Ad6;have au:=fun N=>Jw w.p id w.ts rs idr be bp N;have a4:Keep N ((N'.new [ic 0,nilS]).put N'.nobj [ic w.p,sl id w.ts.length (Ac w.ts)]):=(hK.new _).put hK.nobj _;have aw:Aec ((q.nots.take (j+1)).filter (Ia rs)=(q.nots.take j).filter (Ia rs)++if Ia rs w=true then [w]else []):=by
    rw[Aec,Abv,af,Ac5,Db]
   have av:Aec ((q.nots.take (j+1)).filter (fun a=>!Ia rs a)=(q.nots.take j).filter (fun a=>!Ia rs a)++if (!Ia rs w)=true then [w]else []):=by
    rw[Aec,Abv,af,Ac5,Db]
   clear af;rw[show rs.any (A5 w.ts)=Ia rs w from rfl]at au;cases ao:Ia rs w with
   |true=>
    rw[ao]at au;have HY:Aec (EL Mg (m1++[w]) (us++[ic w.p,sl id w.ts.length (Ac w.ts)])/\EL Mg m2 vs/\m1++[w]=(q.nots.take (j+1)).filter (Ia rs)/\m2=(q.nots.take (j+1)).filter fun a=>!Ia rs a):=by
     obtain⟨x1,x2,x3,x4⟩:=hY.out;exact⟨EL.append x1 (EL.single ⟨id,rfl⟩),x2,by rw[aw.out,if_pos ao,x3],by rw[av.out,ao,x4];simp⟩
    clear hY aw av
    repeat' (first|refine Z1 ?_|(refine Z8 ?_;intro κ hκ)|(refine Z4 ?_;clear hκ κ)|(refine Z2 ?_ ?_<;>intro h ah<;>try exact Xp)|(refine Z6 ?_;intro idn Nn aj ak ac ab ad aa)|(refine Z5 ?_;refine Xi (au _) ?_;rintro _ _ ⟨rfl,ai⟩;(have am:=ai.nobj;have ae:=ai.obj;have a0:=a4.trans ai;simp only[Ab,Aa]at am ae))|refine Z3 ?_|exact⟨⟩|(apply hκ.out;clear hκ κ))
    refine Gu (by first|exact D1|exact Di) a0 (Own.keep (Own.put (Own.new bu _) _ _) ai) (by decide) (by rfl) b1 (by rfl) (by rfl) (by decide) Ad6 Ad6 ?_;intro idn Nn aj ak ac ab ad aa an;obtain⟨ay,ax⟩:=an i6 m2.length (Own.keep (Own.put (Own.new br _) _ _) ai) a5;have eob:∀p,p<N'.nobj->Nn.obj p=N'.obj p:=fun p hp=>by rw[ac,ae _ Ad6,Aj Ad6,Ae Ad6]
    refine Z3 ?_
    repeat' (first|refine Z1 ?_|(refine Z8 ?_;intro κ hκ)|(refine Z4 ?_;clear hκ κ)|(refine Z2 ?_ ?_<;>intro h ah<;>try exact Xp)|(refine Z6 ?_;intro idn Nn aj ak ac ab ad aa)|refine Z3 ?_|exact⟨⟩|(apply hκ.out;clear hκ κ))
    refine⟨q.nots.length-(j+1),Ad6,j+1,idn,i6,m1++[w],m2,us++[ic w.p,sl id w.ts.length (Ac w.ts)],vs,?_⟩
    ((repeat' with_reducible refine And.intro ?_ ?_)<;>first|exact Xq|exact (ak.put Ad6 _)|exact (by simpa using Own.put aj _ _)|exact (Own.put ay _ _)|exact (HY)|exact Xs)
   |false=>
    rw[ao]at au;have HY:Aec (EL Mg m1 us/\EL Mg (m2++[w]) (vs++[ic w.p,sl id w.ts.length (Ac w.ts)])/\m1=(q.nots.take (j+1)).filter (Ia rs)/\m2++[w]=(q.nots.take (j+1)).filter fun a=>!Ia rs a):=by
     obtain⟨x1,x2,x3,x4⟩:=hY.out;exact⟨x1,EL.append x2 (EL.single ⟨id,rfl⟩),by rw[aw.out,ao,x3];simp,by rw[av.out,ao,x4];simp⟩
    clear hY aw av
    repeat' (first|refine Z1 ?_|(refine Z8 ?_;intro κ hκ)|(refine Z4 ?_;clear hκ κ)|(refine Z2 ?_ ?_<;>intro h ah<;>try exact Xp)|(refine Z6 ?_;intro idn Nn aj ak ac ab ad aa)|(refine Z5 ?_;refine Xi (au _) ?_;rintro _ _ ⟨rfl,ai⟩;(have am:=ai.nobj;have ae:=ai.obj;have a0:=a4.trans ai;simp only[Ab,Aa]at am ae))|refine Z3 ?_|exact⟨⟩|(apply hκ.out;clear hκ κ))
    refine Gu (by first|exact D1|exact Di) a0 (Own.keep (Own.put (Own.new br _) _ _) ai) (by decide) (by rfl) b0 (by rfl) (by rfl) (by decide) Ad6 Ad6 ?_;intro idn Nn aj ak ac ab ad aa an;obtain⟨az,ax⟩:=an i5 m1.length (Own.keep (Own.put (Own.new bu _) _ _) ai) Ad6;have bd:i5=1\/i5≠idn:=Ad6;have eob:∀p,p<N'.nobj->Nn.obj p=N'.obj p:=fun p hp=>by rw[ac,ae _ Ad6,Aj Ad6,Ae Ad6]
    refine Z3 ?_
    repeat' (first|refine Z1 ?_|(refine Z8 ?_;intro κ hκ)|(refine Z4 ?_;clear hκ κ)|(refine Z2 ?_ ?_<;>intro h ah<;>try exact Xp)|(refine Z6 ?_;intro idn Nn aj ak ac ab ad aa)|refine Z3 ?_|exact⟨⟩|(apply hκ.out;clear hκ κ))
    refine⟨q.nots.length-(j+1),Ad6,j+1,i5,idn,m1,m2++[w],us,vs++[ic w.p,sl id w.ts.length (Ac w.ts)],?_⟩
    ((repeat' with_reducible refine And.intro ?_ ?_)<;>first|exact Xq|exact (ak.put Ad6 _)|exact (by simpa using Own.put aj _ _)|exact (Own.put az _ _)|exact (HY)|exact Xs)
  ·have b4:j=q.nots.length:=Ad6;subst b4;obtain⟨x1,x2,x3,x4⟩:=hY.out;rw[Abt]at x3 x4;have bw:=HX.out.2.2.1;have bv:=HX.out.2.2.2
   have HN:Aec (EQ (A2 q rs) [ic q.head.p,sl ih q.head.ts.length (Ac q.head.ts),sl i3 n1 xs,sl i5 m1.length us]/\EQ (G1 q rs) [ic 0,nilS,sl i4 n2 ys,sl i6 m2.length vs]):=
    ⟨⟨ih,i3,i5,xs,us,by simp only[A2];rw[bw,x3],HX.out.1,by simp only[A2];rw[<-x3];exact x1⟩,⟨1,i4,i6,ys,vs,by simp only[G1];rw[bv,x4];rfl,HX.out.2.1,by simp only[G1];rw[<-x4];exact x2⟩⟩
   clear x1 x2 x3 x4 hY bw bv
   repeat' (first|refine Z1 ?_|(refine Z8 ?_;intro κ hκ)|(refine Z4 ?_;clear hκ κ)|(refine Z2 ?_ ?_<;>intro h ah<;>try exact Xp)|(refine Z6 ?_;intro idn Nn aj ak ac ab ad aa)|refine Z3 ?_|exact⟨⟩|(apply hκ.out;clear hκ κ))
   have o7b:N.nobj+2<o7:=Ad6;refine Bq (Q:=fun e s' N''=>e= .normal/\s' 4=ptr (N.nobj+1) 0/\s' 5=ptr (N.nobj+2) 0/\Keep N N''/\N''.obj (N.nobj+1)=[ic q.head.p,sl ih q.head.ts.length (Ac q.head.ts),sl i3 n1 xs,sl i5 m1.length us]/\N''.obj (N.nobj+2)=[ic 0,nilS,sl i4 n2 ys,sl i6 m2.length vs]) ?_ ?_
   ·refine A3 Ah (fun p=>p=o7\/p=o7+1) [3] [0] 3 #[true,false,false,false] Ad9 (fun _ _ _ h=>by cases h.1) ?_;intro κ hκ;refine Z3 ?_;refine⟨fun p h=>.inl (Ads h).symm,hκ.out _ ?_⟩;clear hκ κ;have bg:∀(A:Nat->Bool) (i:Nat) (c:List AV),Kept A (fun p=>p=o7\/p=o7+1) N' i (N'.put (N.nobj+1) c):=fun A i c _ o ho hF=>by
     have:o≠N.nobj+1:=by rcases hF with h|h<;>omega
     simp[St.put,this]
    refine Dz (rs:=[1,2]) Ad9 (by simp) ?_;intro i hi;simp only[Aci,Ac0,Ad5]at hi;rcases hi with rfl|rfl
    ·refine Ar ?_;intro κ hκ;refine Z3 ?_;refine hκ.out _ _ ⟨kept_refl,?_⟩;clear hκ κ;refine Am (i:=2) Ad9 ?_;refine Ar ?_;intro κ hκ;refine Z3 ?_;refine hκ.out _ _ ⟨bg _ _ _,?_⟩;clear hκ κ;refine Am (i:=3) Ad9 ?_;refine Ar ?_;intro κ hκ;refine Z3 ?_;refine hκ.out _ _ ⟨Bt rfl,?_⟩;clear hκ κ;refine A7 Ad9 ⟨rfl,by simp[upd,h4],by simp[upd,h5],(hK.put Ad6 _).put Ad6 _,?_,?_⟩
     ·rw[Aj Ad6,Ak]
     ·rw[Ak]
    ·refine Ar ?_;intro κ hκ;refine Z3 ?_;refine hκ.out _ _ ⟨bg _ _ _,?_⟩;clear hκ κ;refine Am (i:=1) Ad9 ?_;refine Ar ?_;intro κ hκ;refine Z3 ?_;refine hκ.out _ _ ⟨bg _ _ _,?_⟩;clear hκ κ;refine Am (i:=3) Ad9 ?_;refine Ar ?_;intro κ hκ;refine Z3 ?_;refine hκ.out _ _ ⟨Bt rfl,?_⟩;clear hκ κ;refine A7 Ad9 ⟨rfl,by simp[upd,h4],by simp[upd,h5],(hK.put Ad6 _).put Ad6 _,?_,?_⟩
     ·rw[Aj Ad6,Ak]
     ·rw[Ak]
   ·rintro e s' N'' ⟨rfl,g4,g5,ci,o71,o72⟩
    repeat' (first|refine Z1 ?_|(refine Z8 ?_;intro κ hκ)|(refine Z4 ?_;clear hκ κ)|(refine Z2 ?_ ?_<;>intro h ah<;>try exact Xp)|(refine Z6 ?_;intro idn Nn aj ak ac ab ad aa)|refine Z3 ?_|exact⟨⟩|(apply hκ.out;clear hκ κ))
    exact⟨_,rfl,⟨_,_,rs,rfl,HN.out.1,HN.out.2,HG.out,HC.out⟩⟩
abbrev MM:=List (Nat×List Bc)
def En (M:MM):List AV:=M.map fun x=>sl x.1 x.2.length (Cx x.2)
def Live (N:St)(id n:Nat):Prop:=(id=1/\n=0)\/∃k,id=k+2/\k<N.ntop/\N.top k=n/\0<n
theorem Live.keep {N N':St}{id n:Nat}(h:Live N id n)(k:Keep N N'):Live N' id n:=by
 rcases h with h|⟨j,h1,h2,h3,h4⟩
 ·exact .inl h
 ·exact .inr ⟨j,h1,Abh h2 k.ntop,(k.top j h2).trans h3,h4⟩
structure MOb (N:St)(om ot:Nat)(M:MM)(d b:Int):Prop where
 ob:N.obj om=[fx ot 0 M.length,ic d,ic b]
 oc:N.obj ot=En M
 lo:om<N.nobj
 lt:ot<N.nobj
 ne:om≠ot
 live:∀x∈M,Live N x.1 x.2.length
 inj:∀(i j:Nat) (x y:Nat×List Bc),M[i]?=some x->M[j]?=some y->i≠j->x.1=1\/x.1≠y.1
 t3:∀x∈M,T3 x.2
 ln:∀x∈M,x.2.length<=5000
 pl:M.length<=5000
theorem MOb.keep {N N':St}{om ot:Nat}{M:MM}{d b:Int}(h:MOb N om ot M d b)(k:Keep N N'):MOb N' om ot M d b:=
 ⟨(k.obj _ h.lo).trans h.ob,(k.obj _ h.lt).trans h.oc,Abh h.lo k.nobj,Abh h.lt k.nobj,h.ne,fun x hx=>(h.live x hx).keep k,h.inj,h.t3,h.ln,h.pl⟩
theorem Ga {M:MM}{k:Nat}{x:Nat×List Bc}(h:M[k]?=some x):(En M)[k]?=some (sl x.1 x.2.length (Cx x.2)):=by simp[En,h]
theorem F9 (M:MM):(En M).length=M.length:=by simp[En]
theorem L9 (om ot:Nat)(M:MM)(d b:Int)(N:St)(hM:MOb N om ot M d b):ACalls Tryz.prog 51 [ptr om 0] N fun r N'=>r=sc (.bool (decide (b<d)))/\N'=N:=by
 have ob:=hM.ob;have ab:decide (d>b)=decide (b<d):=rfl;refine Z9 12 [.tmp 2] Tryz.func51 ?_
 repeat' (first|refine Z1 ?_|(refine Z8 ?_;intro κ hκ)|(refine Z4 ?_;clear hκ κ)|(refine Z2 ?_ ?_<;>intro h aa<;>try exact Xp)|refine Z3 ?_|exact⟨⟩|(apply hκ.out;clear hκ κ))
 refine A1 Ah (fun _=>True) [9] [0,1,2,3,4,5,6,7,8] [9] Ad9 (fun _ _ _ h=>h) ?_;intro κ hκ
 repeat' (first|refine Z1 ?_|(refine Z8 ?_;intro κ hκ)|(refine Z4 ?_;clear hκ κ)|(refine Z2 ?_ ?_<;>intro h aa<;>try exact Xp)|refine Z3 ?_|exact⟨⟩|(apply hκ.out;clear hκ κ))
 first|exact⟨_,rfl,rfl⟩|exact⟨_,rfl,rfl,rfl⟩|exact⟨_,rfl⟩
def C7 (a:C6):Bc:=Es (a.ts.map (·.2))
theorem Jv (om ot:Nat)(M:MM)(d b:Int)(a:C6)(id k:Nat)(x:Nat×List Bc)(ha:a.ts.length<=3)(hk:a.p=(k:Int))(hx:M[k]?=some x)(N:St)(hM:MOb N om ot M d b):ACalls Tryz.prog 81 [ptr om 0,ag [ic a.p,sl id a.ts.length (Ac a.ts)]] N fun r N'=>r=sc (.bool (decide (C7 a∈x.2)))/\Keep N N':=by
 have an:a.ts.length<=1000:=Ad6;have ah:=fun N=>Pr a.p id a.ts an N;have aj:=Abm hx;have h3:=hM.t3 x aj;have az:=hM.ln x aj;have aw:=Ef h3;have a3:k<M.length:=(List.getElem?_eq_some_iff.1 hx).1;have hpl:=hM.pl;have ay:=F9 M;have a4:=Ga hx;have lo:=hM.lo;have lt:=hM.lt;have ob:=hM.ob;have oc:=hM.oc;rw[hk];rw[hk]at ah;have am:(Es (a.ts.map (·.2))).length=3:=rfl;have HT:Aec (C7 a=Es (a.ts.map (·.2))):=rfl;generalize C7 a=ta at*
 generalize Es (a.ts.map (·.2))=t0 at*
 obtain⟨a0,b0,c0,rfl⟩:∃a0 b0 c0,t0=[a0,b0,c0]:=by
  match t0,am with
  |[a0,b0,c0],_=>exact⟨a0,b0,c0,rfl⟩
 simp only[icells,Ab1,Ab2]at ah;refine Z9 27 [.tmp 4] Tryz.func81 ?_
 repeat' (first|refine Z1 ?_|(refine Z8 ?_;intro κ hκ)|(refine Z4 ?_;clear hκ κ)|(refine Z2 ?_ ?_<;>intro h ac<;>try exact Xp)|(refine Z5 ?_;refine Xi (ah _) ?_;rintro _ _ ⟨rfl,ae⟩;(have af:=ae.nobj;have ad:=ae.obj;have ai:=((Keep.refl N).new _).trans ae;simp only[Aa]at af ad))|refine Z3 ?_|exact⟨⟩|(apply hκ.out;clear hκ κ))
 rename_i N1;have ak:Keep N ((N1.new [ic 0,ic 0,ic 0]).put N1.nobj [ic a0,ic b0,ic c0]):=(ai.new _).put Ad6 _;have e0:N1.obj N.nobj=[ic (k:Int),sl id a.ts.length (Ac a.ts)]:=by rw[ad _ Ad6,Ao]
 have e1:N1.obj om=[fx ot 0 M.length,ic d,ic b]:=by rw[ai.obj _ lo,ob]
 have e2:N1.obj ot=En M:=by rw[ai.obj _ lt,oc]
 clear ad ae;refine A1 Ah (fun _=>True) [] [0,1,2,3,4,5,6,7,8,9] [] Ad9 (fun _ _ _ h=>h) ?_;intro κ hκ
 repeat' (first|refine Z1 ?_|(refine Z8 ?_;intro κ hκ)|(refine Z4 ?_;clear hκ κ)|(refine Z2 ?_ ?_<;>intro h ac<;>try exact Xp)|refine Z3 ?_|exact⟨⟩|(apply hκ.out;clear hκ κ))
 clear e0 e1 e2
 refine Ad (fun m s N'=>∃i:Nat,m=x.2.length-i/\i<=x.2.length/\s 5=ptr N1.nobj 0/\s 17=sl x.1 x.2.length (Cx x.2)/\s 18=ic x.2.length/\s 19=ic i/\Keep N N'/\N1.nobj<N'.nobj/\N'.obj N1.nobj=[ic a0,ic b0,ic c0]/\Aec ([a0,b0,c0]∉x.2.take i)) x.2.length
  ⟨0,Ad6,Ad6,Ad8,Ad8,Ad8,rfl,ak,Aeb,by rw[Ak],by simp[Aec]⟩ ?_
 clear ak;rintro m s N' ⟨i,rfl,hi,h5,a8,a7,a6,hK,ax,au,aa⟩;have av:=hK.nobj;by_cases ao:i<x.2.length
 ·have ab:=List.getElem?_eq_getElem ao;obtain⟨p,q,r,rr,he,hd⟩:=kA h3 ab;rw[he]at ab;clear he;have HG:Aec (x.2[i]?=some [p,q,r]):=ab;clear ab;by_cases hc:p=a0/\q=b0/\r=c0
  ·obtain⟨rfl,rfl,rfl⟩:=hc;have hm:decide (ta∈x.2)=true:=by rw[HT.out];simpa using Abm HG.out
   repeat' (first|refine Z1 ?_|(refine Z8 ?_;intro κ hκ)|(refine Z4 ?_;clear hκ κ)|(refine Z2 ?_ ?_<;>intro h ac<;>try exact Xp)|refine Z3 ?_|exact⟨⟩|(apply hκ.out;clear hκ κ))
   first|exact⟨_,rfl,rfl,Xs⟩|exact⟨_,rfl,by rw[hm],Xs⟩|(refine⟨_,rfl,?_⟩;((repeat' with_reducible refine And.intro ?_ ?_)<;>first|exact Xq|exact (by rw[hm])|exact Xs))
  ·have a5:(p==a0&&q==b0&&r==c0)=false:=by
    cases h:(p==a0&&q==b0&&r==c0)with
    |false=>rfl
    |true=>simp at h;exact absurd ⟨h.1.1,h.1.2,h.2⟩ hc
   have HN:Aec ([a0,b0,c0]∉x.2.take (i+1)):=Sq aa.out HG.out (fun e=>by simp at e;exact hc ⟨e.1,e.2.1,e.2.2⟩);clear hc aa
   repeat' (first|refine Z1 ?_|(refine Z8 ?_;intro κ hκ)|(refine Z4 ?_;clear hκ κ)|(refine Z2 ?_ ?_<;>intro h ac<;>try exact Xp)|refine Z3 ?_|exact⟨⟩|(apply hκ.out;clear hκ κ))
   refine⟨x.2.length-(i+1),Ad6,i+1,?_⟩
   ((repeat' with_reducible refine And.intro ?_ ?_)<;>first|exact Xq|exact (HN)|exact Xs)
 ·have ap:i=x.2.length:=Ad6;subst ap;rw[Abt]at aa;have hm:decide (ta∈x.2)=false:=by rw[HT.out];simpa using aa.out
  repeat' (first|refine Z1 ?_|(refine Z8 ?_;intro κ hκ)|(refine Z4 ?_;clear hκ κ)|(refine Z2 ?_ ?_<;>intro h ac<;>try exact Xp)|refine Z3 ?_|exact⟨⟩|(apply hκ.out;clear hκ κ))
  first|exact⟨_,rfl,rfl,hK⟩|exact⟨_,rfl,rfl⟩|exact⟨_,rfl,by rw[hm],hK⟩|exact⟨_,rfl,by rw[hm]⟩
end Go.Proofs.YtmoeoppbmhfbpabGreatDoorJ
