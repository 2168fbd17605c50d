import Derived.Test.YtmoeoppbmhfbpabGreatDoorHEngL
set_option linter.all false
namespace Go.Proofs.YtmoeoppbmhfbpabGreatDoorH
set_option maxHeartbeats 32000000
open Go.Abs
set_option maxRecDepth 100000
def H2 (rs:List Int)(a:C3):Bool:=rs.any (Bc a.ts)
def Bb (q:Qry)(rs:List Int):Qry:=⟨q.head,q.parts.filter fun p=>H2 rs p.a,q.nots.filter (H2 rs)⟩
def Gt (q:Qry)(rs:List Int):Qry:=⟨⟨0,[]⟩,q.parts.filter fun p=>!H2 rs p.a,q.nots.filter fun a=>!H2 rs a⟩
theorem Px (q:Qry)(c:List AV)(init:List Int)(idi:Nat)(hc:EQ q c)(hq:Ms q)(b3:init.length<=200)(N:St):ACalls Tryz.prog 188 [ag c,sl idi init.length (Ar init)] N fun r N'=>(∃c1 c2 rs,r=tp [ag c1,ag c2]/\EQ (Bb q rs) c1/\EQ (Gt q rs) c2/\Grown init (Cb (atomsQ q)) rs/\El (atomsQ q) rs rs)/\Keep N N':=by
 have bo:=fun N=>Uw q c init idi hc hq b3 N;have b7:=Kw hq;have ch:=Hv hq;have b4:=Eh b7;obtain⟨ih,ip,inn,pc,nc,rfl,hP,hN⟩:=hc;have hpl:=EL.length Dx hP;have cb:=EL.length G4 hN;have hl:=hq.pl;have cf:=hq.nl;refine Z9 69 [.cell 4 191,.cell 5 191] Tryz.func188 ?_
 repeat' (first|refine Z1 ?_|(refine Z8 ?_;intro κ hκ)|(refine Z4 ?_;clear hκ κ)|(refine Z2 ?_ ?_<;>intro h ah<;>try exact Xp)|(refine Z6 ?_;intro idn Nn aj ak ac ab ad aa)|(refine Z5 ?_;refine Xi (bo _) ?_;rintro _ _ ⟨⟨idr,rs,rfl,hG,hC⟩,a4⟩;(have a9:=a4.nobj;have ap:=a4.obj;have b6:=((((Keep.refl N).new _).new _).new _).trans a4;simp only[Aa]at a9 ap))|refine Z3 ?_|exact⟨⟩|(apply hκ.out;clear hκ κ))
 rename_i N1;have bn:rs.length<=100000:=by have:=hG.le;omega
 have HG:Ad8 _:=hG;have HC:Ad8 _:=hC;clear hG hC bo b4;have o0:N1.obj N.nobj=[ic q.head.p,sl ih q.head.ts.length (Ac q.head.ts),sl ip q.parts.length pc,sl inn q.nots.length nc]:=by rw[ap _ Ad2,Ae Ad6,Ae Ad6,Am]
 have o1:N1.obj (N.nobj+1)=[ic 0,nilS,nilS,nilS]:=by rw[ap _ Ad2,Ae Ad6,Bp Ad6 Ad6]
 have o2:N1.obj (N.nobj+2)=[ic 0,nilS,nilS,nilS]:=by rw[ap _ Ad2,Bp Ad6 Ad6]
 clear ap a4;generalize b5:N1.nobj=o7 at*
 refine Ad (fun m s N'=>∃(k i3 i4:Nat) (l1 l2:List Part) (xs ys:List AV),m=q.parts.length-k/\k<=q.parts.length/\s 2=ptr N.nobj 0/\s 4=ptr (N.nobj+1) 0/\s 5=ptr (N.nobj+2) 0/\s 6=sl idr rs.length (Ar rs)/\s 7=ptr o7 0/\s 8=ptr (o7+1) 0/\s 21=sl ip q.parts.length pc/\s 22=ic q.parts.length/\s 23=ic k/\Keep N N'/\o7+1<N'.nobj/\N'.obj N.nobj=[ic q.head.p,sl ih q.head.ts.length (Ac q.head.ts),sl ip q.parts.length pc,sl inn q.nots.length nc]/\N'.obj (N.nobj+1)=[ic 0,nilS,nilS,nilS]/\N'.obj (N.nobj+2)=[ic 0,nilS,nilS,nilS]/\N'.obj o7=[ic q.head.p,sl ih q.head.ts.length (Ac q.head.ts),sl i3 l1.length xs,nilS]/\N'.obj (o7+1)=[ic 0,nilS,sl i4 l2.length ys,nilS]/\Own N N' i3 l1.length/\Own N N' i4 l2.length/\(i3=1\/i3≠i4)/\l1.length<=k/\l2.length<=k/\xs.length=l1.length*3/\ys.length=l2.length*3/\Ad8 (EL Ky l1 xs/\EL Ky l2 ys/\l1=(q.parts.take k).filter (fun p=>H2 rs p.a)/\l2=(q.parts.take k).filter fun p=>!H2 rs p.a)) q.parts.length
  ⟨0,1,1,[],[],[],[],Ad2,Ad2,Ad4,Ad4,Ad4,Ad4,Ad4,Ad4,Ad4,Ad4,rfl,Xs,Ad7,?_,?_,?_,?_,?_,Own.nil _ _,Own.nil _ _,.inl rfl,by simp,by simp,by simp,by simp,⟨rfl,rfl,by simp,by simp⟩⟩ ?_
 ·rw[Ai Ad2,Ae Ad7,Ai Ad2,Ae Ad2,o0]
 ·rw[Ai Ad2,Ae Ad7,Ai Ad2,Ae Ad2,o1]
 ·rw[Ai Ad2,Ae Ad7,Ai Ad2,Ae Ad2,o2]
 ·rw[Ai Ad2,Ae Ad7,Aj];simp
 ·rw[Aj];simp
 clear o0 o1 o2 b6 b5;rintro m s N' ⟨k,i3,i4,l1,l2,xs,ys,rfl,hk,h2,h4,h5,h6,h7,h8,ca,b9,b8,hK,ba,bv,a8,a7,a6,a5,bh,bg,hne,b0,bd,bm,bl,hX⟩;have bi:=hK.nobj;by_cases a0:k<q.parts.length
 ·have af:=List.getElem?_eq_getElem a0;obtain⟨id,idt,r,hd⟩:=Ek hP af;have bf:=hq.pa _ (Acz a0);generalize q.parts[k]=w at hd af bf;have bc:w.a.ts.length<=1000:=Ad2;have ar:=fun N=>Jm w.a.p id w.a.ts rs idr bc bn N;have a3:Keep N ((N'.new [ic 0,nilS,nilS]).put N'.nobj [ic w.a.p,sl id w.a.ts.length (Ac w.a.ts),sl idt w.tups.length (D9 w.tups)]):=(hK.new _).put hK.nobj _;have av:Ad8 ((q.parts.take (k+1)).filter (fun p=>H2 rs p.a)=(q.parts.take k).filter (fun p=>H2 rs p.a)++if H2 rs w.a=true then [w]else []):=by
   rw[Ad8,Abq,af,Ac2,Dr]
  have au:Ad8 ((q.parts.take (k+1)).filter (fun p=>!H2 rs p.a)=(q.parts.take k).filter (fun p=>!H2 rs p.a)++if (!H2 rs w.a)=true then [w]else []):=by
   rw[Ad8,Abq,af,Ac2,Dr]
  clear af;rw[show rs.any (Bc w.a.ts)=H2 rs w.a from rfl]at ar;cases ao:H2 rs w.a with
  |true=>
   rw[ao]at ar;have HX:Ad8 (EL Ky (l1++[w]) (xs++[ic w.a.p,sl id w.a.ts.length (Ac w.a.ts),sl idt w.tups.length (D9 w.tups)])/\EL Ky l2 ys/\l1++[w]=(q.parts.take (k+1)).filter (fun p=>H2 rs p.a)/\l2=(q.parts.take (k+1)).filter fun p=>!H2 rs p.a):=by
    obtain⟨x1,x2,x3,x4⟩:=hX.out;exact⟨EL.append x1 (EL.single ⟨id,idt,rfl⟩),x2,by rw[av.out,if_pos ao,x3],by rw[au.out,ao,x4];simp⟩
   clear hX av au
   repeat' (first|refine Z1 ?_|(refine Z8 ?_;intro κ hκ)|(refine Z4 ?_;clear hκ κ)|(refine Z2 ?_ ?_<;>intro h ah<;>try exact Xp)|(refine Z6 ?_;intro idn Nn aj ak ac ab ad aa)|(refine Z5 ?_;refine Xi (ar _) ?_;rintro _ _ ⟨rfl,ai⟩;(have am:=ai.nobj;have ae:=ai.obj;have az:=a3.trans ai;simp only[Ab,Aa]at am ae))|refine Z3 ?_|exact⟨⟩|(apply hκ.out;clear hκ κ))
   refine Gl (by first|exact Er|exact Dh) az (Own.keep (Own.put (Own.new bh _) _ _) ai) (by decide) (by rfl) bm (by rfl) (by rfl) (by decide) Ad2 Ad2 ?_;intro idn Nn aj ak ac ab ad aa an;obtain⟨ax,aw⟩:=an i4 l2.length (Own.keep (Own.put (Own.new bg _) _ _) ai) hne;have eob:∀p,p<N'.nobj->Nn.obj p=N'.obj p:=fun p hp=>by rw[ac,ae _ Ad2,Ai Ad2,Ae Ad2]
   refine Z3 ?_
   repeat' (first|refine Z1 ?_|(refine Z8 ?_;intro κ hκ)|(refine Z4 ?_;clear hκ κ)|(refine Z2 ?_ ?_<;>intro h ah<;>try exact Xp)|(refine Z6 ?_;intro idn Nn aj ak ac ab ad aa)|refine Z3 ?_|exact⟨⟩|(apply hκ.out;clear hκ κ))
   refine⟨q.parts.length-(k+1),Ad2,k+1,idn,i4,l1++[w],l2,xs++[ic w.a.p,sl id w.a.ts.length (Ac w.a.ts),sl idt w.tups.length (D9 w.tups)],ys,?_⟩
   ((repeat' with_reducible refine And.intro ?_ ?_)<;>first|exact Xq|exact (ak.put Ad2 _)|exact (by simpa using Own.put aj _ _)|exact (Own.put ax _ _)|exact (HX)|exact Xs)
  |false=>
   rw[ao]at ar;have HX:Ad8 (EL Ky l1 xs/\EL Ky (l2++[w]) (ys++[ic w.a.p,sl id w.a.ts.length (Ac w.a.ts),sl idt w.tups.length (D9 w.tups)])/\l1=(q.parts.take (k+1)).filter (fun p=>H2 rs p.a)/\l2++[w]=(q.parts.take (k+1)).filter fun p=>!H2 rs p.a):=by
    obtain⟨x1,x2,x3,x4⟩:=hX.out;exact⟨x1,EL.append x2 (EL.single ⟨id,idt,rfl⟩),by rw[av.out,ao,x3];simp,by rw[au.out,ao,x4];simp⟩
   clear hX av au
   repeat' (first|refine Z1 ?_|(refine Z8 ?_;intro κ hκ)|(refine Z4 ?_;clear hκ κ)|(refine Z2 ?_ ?_<;>intro h ah<;>try exact Xp)|(refine Z6 ?_;intro idn Nn aj ak ac ab ad aa)|(refine Z5 ?_;refine Xi (ar _) ?_;rintro _ _ ⟨rfl,ai⟩;(have am:=ai.nobj;have ae:=ai.obj;have az:=a3.trans ai;simp only[Ab,Aa]at am ae))|refine Z3 ?_|exact⟨⟩|(apply hκ.out;clear hκ κ))
   refine Gl (by first|exact Er|exact Dh) az (Own.keep (Own.put (Own.new bg _) _ _) ai) (by decide) (by rfl) bl (by rfl) (by rfl) (by decide) Ad2 Ad2 ?_;intro idn Nn aj ak ac ab ad aa an;obtain⟨ay,aw⟩:=an i3 l1.length (Own.keep (Own.put (Own.new bh _) _ _) ai) Ad2;have bb:i3=1\/i3≠idn:=Ad2;have eob:∀p,p<N'.nobj->Nn.obj p=N'.obj p:=fun p hp=>by rw[ac,ae _ Ad2,Ai Ad2,Ae Ad2]
   refine Z3 ?_
   repeat' (first|refine Z1 ?_|(refine Z8 ?_;intro κ hκ)|(refine Z4 ?_;clear hκ κ)|(refine Z2 ?_ ?_<;>intro h ah<;>try exact Xp)|(refine Z6 ?_;intro idn Nn aj ak ac ab ad aa)|refine Z3 ?_|exact⟨⟩|(apply hκ.out;clear hκ κ))
   refine⟨q.parts.length-(k+1),Ad2,k+1,i3,idn,l1,l2++[w],xs,ys++[ic w.a.p,sl id w.a.ts.length (Ac w.a.ts),sl idt w.tups.length (D9 w.tups)],?_⟩
   ((repeat' with_reducible refine And.intro ?_ ?_)<;>first|exact Xq|exact (ak.put Ad2 _)|exact (by simpa using Own.put aj _ _)|exact (Own.put ay _ _)|exact (HX)|exact Xs)
 ·have b1:k=q.parts.length:=Ad2;subst b1;obtain⟨x1,x2,x3,x4⟩:=hX.out;rw[Abn]at x3 x4;have HX:Ad8 (EL Ky (q.parts.filter fun p=>H2 rs p.a) xs/\EL Ky (q.parts.filter fun p=>!H2 rs p.a) ys/\l1.length=(q.parts.filter fun p=>H2 rs p.a).length/\l2.length=(q.parts.filter fun p=>!H2 rs p.a).length):=⟨by rw[<-x3];exact x1,by rw[<-x4];exact x2,by rw[x3],by rw[x4]⟩;clear x1 x2 x3 x4 hX hk;generalize l1.length=n1 at*
  generalize l2.length=n2 at*
  repeat' (first|refine Z1 ?_|(refine Z8 ?_;intro κ hκ)|(refine Z4 ?_;clear hκ κ)|(refine Z2 ?_ ?_<;>intro h ah<;>try exact Xp)|(refine Z6 ?_;intro idn Nn aj ak ac ab ad aa)|refine Z3 ?_|exact⟨⟩|(apply hκ.out;clear hκ κ))
  refine Ad (fun m s N'=>∃(j i5 i6:Nat) (m1 m2:List C3) (us vs:List AV),m=q.nots.length-j/\j<=q.nots.length/\s 4=ptr (N.nobj+1) 0/\s 5=ptr (N.nobj+2) 0/\s 6=sl idr rs.length (Ar rs)/\s 7=ptr o7 0/\s 8=ptr (o7+1) 0/\s 45=sl inn q.nots.length nc/\s 46=ic q.nots.length/\s 47=ic j/\Keep N N'/\o7+1<N'.nobj/\N'.obj (N.nobj+1)=[ic 0,nilS,nilS,nilS]/\N'.obj (N.nobj+2)=[ic 0,nilS,nilS,nilS]/\N'.obj o7=[ic q.head.p,sl ih q.head.ts.length (Ac q.head.ts),sl i3 n1 xs,sl i5 m1.length us]/\N'.obj (o7+1)=[ic 0,nilS,sl i4 n2 ys,sl i6 m2.length vs]/\Own N N' i5 m1.length/\Own N N' i6 m2.length/\(i5=1\/i5≠i6)/\m1.length<=j/\m2.length<=j/\us.length=m1.length*2/\vs.length=m2.length*2/\Ad8 (EL Lk m1 us/\EL Lk m2 vs/\m1=(q.nots.take j).filter (H2 rs)/\m2=(q.nots.take j).filter fun a=>!H2 rs a)) q.nots.length
   ⟨0,1,1,[],[],[],[],Ad2,Ad2,Ad3,Ad3,Ad3,Ad3,Ad3,Ad3,Ad3,Ad4,hK,ba,a8,a7,by rw[a6];simp,by rw[a5];simp,Own.nil _ _,Own.nil _ _,.inl rfl,by simp,by simp,by simp,by simp,⟨rfl,rfl,by simp,by simp⟩⟩ ?_
  clear h2 h4 h5 h6 h7 h8 ca b9 b8 hK ba bv a8 a7 a6 a5 bh bg hne b0 bd bm bl a0 bi;rintro m s N' ⟨j,i5,i6,m1,m2,us,vs,rfl,hj,h4,h5,h6,h7,h8,ck,cj,ci,hK,ba,a8,a7,a6,a5,bq,bp,hne,ce,cd,bz,bw,hY⟩;have bi:=hK.nobj;by_cases a0:j<q.nots.length
  ·have af:=List.getElem?_eq_getElem a0;obtain⟨id,r,hd⟩:=Ib hN af;have bf:=hq.na _ (Acz a0);generalize q.nots[j]=w at hd af bf;have bc:w.ts.length<=1000:=Ad2;have ar:=fun N=>Jm w.p id w.ts rs idr bc bn N;have a3:Keep N ((N'.new [ic 0,nilS]).put N'.nobj [ic w.p,sl id w.ts.length (Ac w.ts)]):=(hK.new _).put hK.nobj _;have av:Ad8 ((q.nots.take (j+1)).filter (H2 rs)=(q.nots.take j).filter (H2 rs)++if H2 rs w=true then [w]else []):=by
    rw[Ad8,Abq,af,Ac2,Dr]
   have au:Ad8 ((q.nots.take (j+1)).filter (fun a=>!H2 rs a)=(q.nots.take j).filter (fun a=>!H2 rs a)++if (!H2 rs w)=true then [w]else []):=by
    rw[Ad8,Abq,af,Ac2,Dr]
   clear af;rw[show rs.any (Bc w.ts)=H2 rs w from rfl]at ar;cases ao:H2 rs w with
   |true=>
    rw[ao]at ar;have HY:Ad8 (EL Lk (m1++[w]) (us++[ic w.p,sl id w.ts.length (Ac w.ts)])/\EL Lk m2 vs/\m1++[w]=(q.nots.take (j+1)).filter (H2 rs)/\m2=(q.nots.take (j+1)).filter fun a=>!H2 rs a):=by
     obtain⟨x1,x2,x3,x4⟩:=hY.out;exact⟨EL.append x1 (EL.single ⟨id,rfl⟩),x2,by rw[av.out,if_pos ao,x3],by rw[au.out,ao,x4];simp⟩
    clear hY av au
    repeat' (first|refine Z1 ?_|(refine Z8 ?_;intro κ hκ)|(refine Z4 ?_;clear hκ κ)|(refine Z2 ?_ ?_<;>intro h ah<;>try exact Xp)|(refine Z6 ?_;intro idn Nn aj ak ac ab ad aa)|(refine Z5 ?_;refine Xi (ar _) ?_;rintro _ _ ⟨rfl,ai⟩;(have am:=ai.nobj;have ae:=ai.obj;have az:=a3.trans ai;simp only[Ab,Aa]at am ae))|refine Z3 ?_|exact⟨⟩|(apply hκ.out;clear hκ κ))
    refine Gl (by first|exact Er|exact Dh) az (Own.keep (Own.put (Own.new bq _) _ _) ai) (by decide) (by rfl) bz (by rfl) (by rfl) (by decide) Ad2 Ad2 ?_;intro idn Nn aj ak ac ab ad aa an;obtain⟨ax,aw⟩:=an i6 m2.length (Own.keep (Own.put (Own.new bp _) _ _) ai) hne;have eob:∀p,p<N'.nobj->Nn.obj p=N'.obj p:=fun p hp=>by rw[ac,ae _ Ad2,Ai Ad2,Ae Ad2]
    refine Z3 ?_
    repeat' (first|refine Z1 ?_|(refine Z8 ?_;intro κ hκ)|(refine Z4 ?_;clear hκ κ)|(refine Z2 ?_ ?_<;>intro h ah<;>try exact Xp)|(refine Z6 ?_;intro idn Nn aj ak ac ab ad aa)|refine Z3 ?_|exact⟨⟩|(apply hκ.out;clear hκ κ))
    refine⟨q.nots.length-(j+1),Ad2,j+1,idn,i6,m1++[w],m2,us++[ic w.p,sl id w.ts.length (Ac w.ts)],vs,?_⟩
    ((repeat' with_reducible refine And.intro ?_ ?_)<;>first|exact Xq|exact (ak.put Ad2 _)|exact (by simpa using Own.put aj _ _)|exact (Own.put ax _ _)|exact (HY)|exact Xs)
   |false=>
    rw[ao]at ar;have HY:Ad8 (EL Lk m1 us/\EL Lk (m2++[w]) (vs++[ic w.p,sl id w.ts.length (Ac w.ts)])/\m1=(q.nots.take (j+1)).filter (H2 rs)/\m2++[w]=(q.nots.take (j+1)).filter fun a=>!H2 rs a):=by
     obtain⟨x1,x2,x3,x4⟩:=hY.out;exact⟨x1,EL.append x2 (EL.single ⟨id,rfl⟩),by rw[av.out,ao,x3];simp,by rw[au.out,ao,x4];simp⟩
    clear hY av au
    repeat' (first|refine Z1 ?_|(refine Z8 ?_;intro κ hκ)|(refine Z4 ?_;clear hκ κ)|(refine Z2 ?_ ?_<;>intro h ah<;>try exact Xp)|(refine Z6 ?_;intro idn Nn aj ak ac ab ad aa)|(refine Z5 ?_;refine Xi (ar _) ?_;rintro _ _ ⟨rfl,ai⟩;(have am:=ai.nobj;have ae:=ai.obj;have az:=a3.trans ai;simp only[Ab,Aa]at am ae))|refine Z3 ?_|exact⟨⟩|(apply hκ.out;clear hκ κ))
    refine Gl (by first|exact Er|exact Dh) az (Own.keep (Own.put (Own.new bp _) _ _) ai) (by decide) (by rfl) bw (by rfl) (by rfl) (by decide) Ad2 Ad2 ?_;intro idn Nn aj ak ac ab ad aa an;obtain⟨ay,aw⟩:=an i5 m1.length (Own.keep (Own.put (Own.new bq _) _ _) ai) Ad2;have bb:i5=1\/i5≠idn:=Ad2;have eob:∀p,p<N'.nobj->Nn.obj p=N'.obj p:=fun p hp=>by rw[ac,ae _ Ad2,Ai Ad2,Ae Ad2]
    refine Z3 ?_
    repeat' (first|refine Z1 ?_|(refine Z8 ?_;intro κ hκ)|(refine Z4 ?_;clear hκ κ)|(refine Z2 ?_ ?_<;>intro h ah<;>try exact Xp)|(refine Z6 ?_;intro idn Nn aj ak ac ab ad aa)|refine Z3 ?_|exact⟨⟩|(apply hκ.out;clear hκ κ))
    refine⟨q.nots.length-(j+1),Ad2,j+1,i5,idn,m1,m2++[w],us,vs++[ic w.p,sl id w.ts.length (Ac w.ts)],?_⟩
    ((repeat' with_reducible refine And.intro ?_ ?_)<;>first|exact Xq|exact (ak.put Ad2 _)|exact (by simpa using Own.put aj _ _)|exact (Own.put ay _ _)|exact (HY)|exact Xs)
  ·have b2:j=q.nots.length:=Ad2;subst b2;obtain⟨x1,x2,x3,x4⟩:=hY.out;rw[Abn]at x3 x4;have bu:=HX.out.2.2.1;have br:=HX.out.2.2.2
   have HN:Ad8 (EQ (Bb q rs) [ic q.head.p,sl ih q.head.ts.length (Ac q.head.ts),sl i3 n1 xs,sl i5 m1.length us]/\EQ (Gt q rs) [ic 0,nilS,sl i4 n2 ys,sl i6 m2.length vs]):=
    ⟨⟨ih,i3,i5,xs,us,by simp only[Bb];rw[bu,x3],HX.out.1,by simp only[Bb];rw[<-x3];exact x1⟩,⟨1,i4,i6,ys,vs,by simp only[Gt];rw[br,x4];rfl,HX.out.2.1,by simp only[Gt];rw[<-x4];exact x2⟩⟩
   clear x1 x2 x3 x4 hY bu br
   repeat' (first|refine Z1 ?_|(refine Z8 ?_;intro κ hκ)|(refine Z4 ?_;clear hκ κ)|(refine Z2 ?_ ?_<;>intro h ah<;>try exact Xp)|(refine Z6 ?_;intro idn Nn aj ak ac ab ad aa)|refine Z3 ?_|exact⟨⟩|(apply hκ.out;clear hκ κ))
   have o7b:N.nobj+2<o7:=Ad2;refine Br (Q:=fun e s' N''=>e= .normal/\s' 4=ptr (N.nobj+1) 0/\s' 5=ptr (N.nobj+2) 0/\Keep N N''/\N''.obj (N.nobj+1)=[ic q.head.p,sl ih q.head.ts.length (Ac q.head.ts),sl i3 n1 xs,sl i5 m1.length us]/\N''.obj (N.nobj+2)=[ic 0,nilS,sl i4 n2 ys,sl i6 m2.length vs]) ?_ ?_
   ·refine A4 Ak (fun p=>p=o7\/p=o7+1) [3] [0] 3 #[true,false,false,false] Ad5 (fun _ _ _ h=>by cases h.1) ?_;intro κ hκ;refine Z3 ?_;refine⟨fun p h=>.inl (Ac5 h).symm,hκ.out _ ?_⟩;clear hκ κ;have be:∀(A:Nat->Bool) (i:Nat) (c:List AV),Kept A (fun p=>p=o7\/p=o7+1) N' i (N'.put (N.nobj+1) c):=fun A i c _ o ho hF=>by
     have:o≠N.nobj+1:=by rcases hF with h|h<;>omega
     simp[St.put,this]
    refine Dy (rs:=[1,2]) Ad5 (by simp) ?_;intro i hi;simp only[Ace,Acx,Adz]at hi;rcases hi with rfl|rfl
    ·refine Aq ?_;intro κ hκ;refine Z3 ?_;refine hκ.out _ _ ⟨kept_refl,?_⟩;clear hκ κ;refine Al (i:=2) Ad5 ?_;refine Aq ?_;intro κ hκ;refine Z3 ?_;refine hκ.out _ _ ⟨be _ _ _,?_⟩;clear hκ κ;refine Al (i:=3) Ad5 ?_;refine Aq ?_;intro κ hκ;refine Z3 ?_;refine hκ.out _ _ ⟨Bo rfl,?_⟩;clear hκ κ;refine A7 Ad5 ⟨rfl,by simp[upd,h4],by simp[upd,h5],(hK.put Ad2 _).put Ad2 _,?_,?_⟩
     ·rw[Ai Ad2,Aj]
     ·rw[Aj]
    ·refine Aq ?_;intro κ hκ;refine Z3 ?_;refine hκ.out _ _ ⟨be _ _ _,?_⟩;clear hκ κ;refine Al (i:=1) Ad5 ?_;refine Aq ?_;intro κ hκ;refine Z3 ?_;refine hκ.out _ _ ⟨be _ _ _,?_⟩;clear hκ κ;refine Al (i:=3) Ad5 ?_;refine Aq ?_;intro κ hκ;refine Z3 ?_;refine hκ.out _ _ ⟨Bo rfl,?_⟩;clear hκ κ;refine A7 Ad5 ⟨rfl,by simp[upd,h4],by simp[upd,h5],(hK.put Ad2 _).put Ad2 _,?_,?_⟩
     ·rw[Ai Ad2,Aj]
     ·rw[Aj]
   ·rintro e s' N'' ⟨rfl,g4,g5,cg,o71,o72⟩
    repeat' (first|refine Z1 ?_|(refine Z8 ?_;intro κ hκ)|(refine Z4 ?_;clear hκ κ)|(refine Z2 ?_ ?_<;>intro h ah<;>try exact Xp)|(refine Z6 ?_;intro idn Nn aj ak ac ab ad aa)|refine Z3 ?_|exact⟨⟩|(apply hκ.out;clear hκ κ))
    exact⟨_,rfl,⟨_,_,rs,rfl,HN.out.1,HN.out.2,HG.out,HC.out⟩⟩
abbrev MM:=List (Nat×List Ca)
def E7 (M:MM):List AV:=M.map fun x=>sl x.1 x.2.length (D9 x.2)
def Live (N:St)(id n:Nat):Prop:=(id=1/\n=0)\/∃k,id=k+2/\k<N.ntop/\N.top k=n/\0<n
theorem Live.keep {N N':St}{id n:Nat}(h:Live N id n)(k:Keep N N'):Live N' id n:=by
 rcases h with h|⟨j,h1,h2,h3,h4⟩
 ·exact .inl h
 ·exact .inr ⟨j,h1,Abd h2 k.ntop,(k.top j h2).trans h3,h4⟩
structure MOb (N:St)(om ot:Nat)(M:MM)(d b:Int):Prop where
 ob:N.obj om=[fx ot 0 M.length,ic d,ic b]
 oc:N.obj ot=E7 M
 lo:om<N.nobj
 lt:ot<N.nobj
 ne:om≠ot
 live:∀x∈M,Live N x.1 x.2.length
 inj:∀(i j:Nat) (x y:Nat×List Ca),M[i]?=some x->M[j]?=some y->i≠j->x.1=1\/x.1≠y.1
 t3:∀x∈M,T3 x.2
 ln:∀x∈M,x.2.length<=5000
 pl:M.length<=5000
theorem MOb.keep {N N':St}{om ot:Nat}{M:MM}{d b:Int}(h:MOb N om ot M d b)(k:Keep N N'):MOb N' om ot M d b:=
 ⟨(k.obj _ h.lo).trans h.ob,(k.obj _ h.lt).trans h.oc,Abd h.lo k.nobj,Abd h.lt k.nobj,h.ne,fun x hx=>(h.live x hx).keep k,h.inj,h.t3,h.ln,h.pl⟩
theorem Hl {M:MM}{k:Nat}{x:Nat×List Ca}(h:M[k]?=some x):(E7 M)[k]?=some (sl x.1 x.2.length (D9 x.2)):=by simp[E7,h]
theorem Hk (M:MM):(E7 M).length=M.length:=by simp[E7]
theorem Mo (om ot:Nat)(M:MM)(d b:Int)(N:St)(hM:MOb N om ot M d b):ACalls Tryz.prog 51 [ptr om 0] N fun r N'=>r=sc (.bool (decide (b<d)))/\N'=N:=by
 have ob:=hM.ob;have ab:decide (d>b)=decide (b<d):=rfl;refine Z9 12 [.tmp 2] Tryz.func51 ?_
 repeat' (first|refine Z1 ?_|(refine Z8 ?_;intro κ hκ)|(refine Z4 ?_;clear hκ κ)|(refine Z2 ?_ ?_<;>intro h aa<;>try exact Xp)|refine Z3 ?_|exact⟨⟩|(apply hκ.out;clear hκ κ))
 refine Bt Ak (fun _=>True) [9] [0,1,2,3,4,5,6,7,8] [9] Ad5 (fun _ _ _ h=>h) ?_;intro κ hκ
 repeat' (first|refine Z1 ?_|(refine Z8 ?_;intro κ hκ)|(refine Z4 ?_;clear hκ κ)|(refine Z2 ?_ ?_<;>intro h aa<;>try exact Xp)|refine Z3 ?_|exact⟨⟩|(apply hκ.out;clear hκ κ))
 first|exact⟨_,rfl,rfl⟩|exact⟨_,rfl,rfl,rfl⟩|exact⟨_,rfl⟩
def Cq (a:C3):Ca:=D7 (a.ts.map (·.2))
theorem Hq (om ot:Nat)(M:MM)(d b:Int)(a:C3)(id k:Nat)(x:Nat×List Ca)(ha:a.ts.length<=3)(hk:a.p=(k:Int))(hx:M[k]?=some x)(N:St)(hM:MOb N om ot M d b):ACalls Tryz.prog 81 [ptr om 0,ag [ic a.p,sl id a.ts.length (Ac a.ts)]] N fun r N'=>r=sc (.bool (decide (Cq a∈x.2)))/\Keep N N':=by
 have an:a.ts.length<=1000:=Ad2;have ah:=fun N=>Pw a.p id a.ts an N;have aj:=Abh hx;have h3:=hM.t3 x aj;have ay:=hM.ln x aj;have av:=H5 h3;have az:k<M.length:=(List.getElem?_eq_some_iff.1 hx).1;have hpl:=hM.pl;have ax:=Hk M;have a3:=Hl hx;have lo:=hM.lo;have lt:=hM.lt;have ob:=hM.ob;have oc:=hM.oc;rw[hk];rw[hk]at ah;have am:(D7 (a.ts.map (·.2))).length=3:=rfl;have HT:Ad8 (Cq a=D7 (a.ts.map (·.2))):=rfl;generalize Cq a=ta at*
 generalize D7 (a.ts.map (·.2))=t0 at*
 obtain⟨a0,b0,c0,rfl⟩:∃a0 b0 c0,t0=[a0,b0,c0]:=by
  match t0,am with
  |[a0,b0,c0],_=>exact⟨a0,b0,c0,rfl⟩
 simp only[Ar,Abx,Aby]at ah;refine Z9 27 [.tmp 4] Tryz.func81 ?_
 repeat' (first|refine Z1 ?_|(refine Z8 ?_;intro κ hκ)|(refine Z4 ?_;clear hκ κ)|(refine Z2 ?_ ?_<;>intro h ac<;>try exact Xp)|(refine Z5 ?_;refine Xi (ah _) ?_;rintro _ _ ⟨rfl,ae⟩;(have af:=ae.nobj;have ad:=ae.obj;have ai:=((Keep.refl N).new _).trans ae;simp only[Aa]at af ad))|refine Z3 ?_|exact⟨⟩|(apply hκ.out;clear hκ κ))
 rename_i N1;have ak:Keep N ((N1.new [ic 0,ic 0,ic 0]).put N1.nobj [ic a0,ic b0,ic c0]):=(ai.new _).put Ad2 _;have e0:N1.obj N.nobj=[ic (k:Int),sl id a.ts.length (Ac a.ts)]:=by rw[ad _ Ad2,Am]
 have e1:N1.obj om=[fx ot 0 M.length,ic d,ic b]:=by rw[ai.obj _ lo,ob]
 have e2:N1.obj ot=E7 M:=by rw[ai.obj _ lt,oc]
 clear ad ae;refine Bt Ak (fun _=>True) [] [0,1,2,3,4,5,6,7,8,9] [] Ad5 (fun _ _ _ h=>h) ?_;intro κ hκ
 repeat' (first|refine Z1 ?_|(refine Z8 ?_;intro κ hκ)|(refine Z4 ?_;clear hκ κ)|(refine Z2 ?_ ?_<;>intro h ac<;>try exact Xp)|refine Z3 ?_|exact⟨⟩|(apply hκ.out;clear hκ κ))
 clear e0 e1 e2
 refine Ad (fun m s N'=>∃i:Nat,m=x.2.length-i/\i<=x.2.length/\s 5=ptr N1.nobj 0/\s 17=sl x.1 x.2.length (D9 x.2)/\s 18=ic x.2.length/\s 19=ic i/\Keep N N'/\N1.nobj<N'.nobj/\N'.obj N1.nobj=[ic a0,ic b0,ic c0]/\Ad8 ([a0,b0,c0]∉x.2.take i)) x.2.length
  ⟨0,Ad2,Ad2,Ad4,Ad4,Ad4,rfl,ak,Ad7,by rw[Aj],by simp[Ad8]⟩ ?_
 clear ak;rintro m s N' ⟨i,rfl,hi,h5,a7,a6,a5,hK,aw,ar,aa⟩;have au:=hK.nobj;by_cases ao:i<x.2.length
 ·have ab:=List.getElem?_eq_getElem ao;obtain⟨p,q,r,rr,he,hd⟩:=jV h3 ab;rw[he]at ab;clear he;have HG:Ad8 (x.2[i]?=some [p,q,r]):=ab;clear ab;by_cases hc:p=a0/\q=b0/\r=c0
  ·obtain⟨rfl,rfl,rfl⟩:=hc;have hm:decide (ta∈x.2)=true:=by rw[HT.out];simpa using Abh HG.out
   repeat' (first|refine Z1 ?_|(refine Z8 ?_;intro κ hκ)|(refine Z4 ?_;clear hκ κ)|(refine Z2 ?_ ?_<;>intro h ac<;>try exact Xp)|refine Z3 ?_|exact⟨⟩|(apply hκ.out;clear hκ κ))
   first|exact⟨_,rfl,rfl,Xs⟩|exact⟨_,rfl,by rw[hm],Xs⟩|(refine⟨_,rfl,?_⟩;((repeat' with_reducible refine And.intro ?_ ?_)<;>first|exact Xq|exact (by rw[hm])|exact Xs))
  ·have a4:(p==a0&&q==b0&&r==c0)=false:=by
    cases h:(p==a0&&q==b0&&r==c0)with
    |false=>rfl
    |true=>simp at h;exact absurd ⟨h.1.1,h.1.2,h.2⟩ hc
   have HN:Ad8 ([a0,b0,c0]∉x.2.take (i+1)):=Sz aa.out HG.out (fun e=>by simp at e;exact hc ⟨e.1,e.2.1,e.2.2⟩);clear hc aa
   repeat' (first|refine Z1 ?_|(refine Z8 ?_;intro κ hκ)|(refine Z4 ?_;clear hκ κ)|(refine Z2 ?_ ?_<;>intro h ac<;>try exact Xp)|refine Z3 ?_|exact⟨⟩|(apply hκ.out;clear hκ κ))
   refine⟨x.2.length-(i+1),Ad2,i+1,?_⟩
   ((repeat' with_reducible refine And.intro ?_ ?_)<;>first|exact Xq|exact (HN)|exact Xs)
 ·have ap:i=x.2.length:=Ad2;subst ap;rw[Abn]at aa;have hm:decide (ta∈x.2)=false:=by rw[HT.out];simpa using aa.out
  repeat' (first|refine Z1 ?_|(refine Z8 ?_;intro κ hκ)|(refine Z4 ?_;clear hκ κ)|(refine Z2 ?_ ?_<;>intro h ac<;>try exact Xp)|refine Z3 ?_|exact⟨⟩|(apply hκ.out;clear hκ κ))
  first|exact⟨_,rfl,rfl,hK⟩|exact⟨_,rfl,rfl⟩|exact⟨_,rfl,by rw[hm],hK⟩|exact⟨_,rfl,by rw[hm]⟩
end Go.Proofs.YtmoeoppbmhfbpabGreatDoorH
