import Derived.Test.YtmoeoppbmhfbpaaGreatDoorHEngM
set_option maxHeartbeats 32000000
set_option maxRecDepth 100000
set_option linter.all false
namespace Go.Proofs.YtmoeoppbmhfbpaaGreatDoorH
open Go.Abs
def H6 (rs:List Int)(a:Ee):Bool:=rs.any (Bb a.ts)
def A5 (q:Qry)(rs:List Int):Qry:=⟨q.head,q.parts.filter fun p=>H6 rs p.a,q.nots.filter (H6 rs)⟩
def G4 (q:Qry)(rs:List Int):Qry:=⟨⟨0,[]⟩,q.parts.filter fun p=>!H6 rs p.a,q.nots.filter fun a=>!H6 rs a⟩
theorem Qd (q:Qry)(c:List AV)(init:List Int)(idi:Nat)(hc:EQ q c)(hq:M9 q)(b3:init.length<=200)(σ:St):ACalls Tryz.prog 171 [ag c,sl idi init.length (Aj init)] σ fun r σ'=>(∃c1 c2 rs,r=tp [ag c1,ag c2]/\EQ (A5 q rs) c1/\EQ (G4 q rs) c2/\Grown init (Cg (atomsQ q)) rs/\Ev (atomsQ q) rs rs)/\Keep σ σ':=by
 have bo:=fun σ=>Uz q c init idi hc hq b3 σ;have b7:=K7 hq;have ch:=H1 hq;have b4:=F3 b7;obtain⟨ih,ip,inn,pc,nc,rfl,hP,hN⟩:=hc;have cb:=EL.length D6 hP;have cc:=EL.length Hg hN;have hl:=hq.pl;have cf:=hq.nl;refine Z9 69 [.cell 4 182,.cell 5 182] Tryz.func171 ?_
 repeat' (first|refine Z1 ?_|(refine Z8 ?_;intro ya J)|(refine Z4 ?_;clear J ya)|(refine Z2 ?_ ?_<;>intro h ah<;>try exact Xp)|(refine Z6 ?_;intro idn σn aj ak ac ab ad aa)|(refine Z5 ?_;refine Xi (bo _) ?_;rintro _ _ ⟨⟨idr,rs,rfl,hG,hC⟩,a6⟩;(have bb:=a6.nobj;have ap:=a6.obj;have b6:=((((Keep.refl σ).new _).new _).new _).trans a6;simp only[Aa]at bb ap))|refine Z3 ?_|exact Zt|(apply J.out;clear J ya))
 rename_i σ1;have bn:rs.length<=100000:=by have:=hG.le;omega
 have HG:Ad8 _:=hG;have HC:Ad8 _:=hC;clear hG hC bo b4;have o0:σ1.obj σ.nobj=[ic q.head.p,sl ih q.head.ts.length (Ae q.head.ts),sl ip q.parts.length pc,sl inn q.nots.length nc]:=by rw[ap _ Ad2,Ai Ad6,Ai Ad6,Am]
 have o1:σ1.obj (σ.nobj+1)=[ic 0,nilS,nilS,nilS]:=by rw[ap _ Ad2,Ai Ad6,Cd Ad6 Ad6]
 have o2:σ1.obj (σ.nobj+2)=[ic 0,nilS,nilS,nilS]:=by rw[ap _ Ad2,Cd Ad6 Ad6]
 clear ap a6;generalize b5:σ1.nobj=o7 at*
 refine Ab (fun m s σ'=>∃(k i3 i4:Nat) (l1 l2:List Part) (xs ys:List AV),m=q.parts.length-k/\k<=q.parts.length/\s 2=ptr σ.nobj 0/\s 4=ptr (σ.nobj+1) 0/\s 5=ptr (σ.nobj+2) 0/\s 6=sl idr rs.length (Aj rs)/\s 7=ptr o7 0/\s 8=ptr (o7+1) 0/\s 21=sl ip q.parts.length pc/\s 22=ic q.parts.length/\s 23=ic k/\Keep σ σ'/\o7+1<σ'.nobj/\σ'.obj σ.nobj=[ic q.head.p,sl ih q.head.ts.length (Ae q.head.ts),sl ip q.parts.length pc,sl inn q.nots.length nc]/\σ'.obj (σ.nobj+1)=[ic 0,nilS,nilS,nilS]/\σ'.obj (σ.nobj+2)=[ic 0,nilS,nilS,nilS]/\σ'.obj o7=[ic q.head.p,sl ih q.head.ts.length (Ae q.head.ts),sl i3 l1.length xs,nilS]/\σ'.obj (o7+1)=[ic 0,nilS,sl i4 l2.length ys,nilS]/\Own σ σ' i3 l1.length/\Own σ σ' i4 l2.length/\(i3=1\/i3≠i4)/\l1.length<=k/\l2.length<=k/\xs.length=l1.length*3/\ys.length=l2.length*3/\Ad8 (EL La l1 xs/\EL La l2 ys/\l1=(q.parts.take k).filter (fun p=>H6 rs p.a)/\l2=(q.parts.take k).filter fun p=>!H6 rs p.a)) q.parts.length
  ⟨0,1,1,[],[],[],[],Ad2,Ad2,Ad4,Ad4,Ad4,Ad4,Ad4,Ad4,Ad4,Ad4,rfl,Xs,Ad7,?_,?_,?_,?_,?_,Own.nil _ _,Own.nil _ _,.inl rfl,by simp,by simp,by simp,by simp,⟨rfl,rfl,by simp,by simp⟩⟩ ?_
 ·rw[Al Ad2,Ai Ad7,Al Ad2,Ai Ad2,o0]
 ·rw[Al Ad2,Ai Ad7,Al Ad2,Ai Ad2,o1]
 ·rw[Al Ad2,Ai Ad7,Al Ad2,Ai Ad2,o2]
 ·rw[Al Ad2,Ai Ad7,Ak];simp
 ·rw[Ak];simp
 clear o0 o1 o2 b6 b5;rintro m s σ' ⟨k,i3,i4,l1,l2,xs,ys,rfl,hk,h2,h4,h5,h6,h7,h8,ca,b9,b8,hK,bc,bv,ba,a9,a8,a7,bj,bi,a5,b0,bf,bm,bl,hX⟩;have bk:=hK.nobj;by_cases a3:k<q.parts.length
 ·have af:=Aav a3;obtain⟨id,idt,r,hd⟩:=Eu hP af;have bh:=hq.pa _ (Ab1 a3);generalize q.parts[k]=w at hd af bh;have be:w.a.ts.length<=1000:=Ad2;have au:=fun σ=>Jz w.a.p id w.a.ts rs idr be bn σ;have a4:Keep σ ((σ'.new [ic 0,nilS,nilS]).put σ'.nobj [ic w.a.p,sl id w.a.ts.length (Ae w.a.ts),sl idt w.tups.length (C7 w.tups)]):=(hK.new _).put hK.nobj _;have aw:Ad8 ((q.parts.take (k+1)).filter (fun p=>H6 rs p.a)=(q.parts.take k).filter (fun p=>H6 rs p.a)++if H6 rs w.a=true then [w]else []):=by
   rw[Ad8,Aa8,af,Ab9,Dn]
  have av:Ad8 ((q.parts.take (k+1)).filter (fun p=>!H6 rs p.a)=(q.parts.take k).filter (fun p=>!H6 rs p.a)++if (!H6 rs w.a)=true then [w]else []):=by
   rw[Ad8,Aa8,af,Ab9,Dn]
  clear af;rw[show rs.any (Bb w.a.ts)=H6 rs w.a from rfl]at au;cases ao:H6 rs w.a with
  |true=>
   rw[ao]at au;have HX:Ad8 (EL La (l1++[w]) (xs++[ic w.a.p,sl id w.a.ts.length (Ae w.a.ts),sl idt w.tups.length (C7 w.tups)])/\EL La l2 ys/\l1++[w]=(q.parts.take (k+1)).filter (fun p=>H6 rs p.a)/\l2=(q.parts.take (k+1)).filter fun p=>!H6 rs p.a):=by
    obtain⟨x1,x2,x3,x4⟩:=hX.out;exact⟨EL.append x1 (EL.single ⟨id,idt,rfl⟩),x2,by rw[aw.out,if_pos ao,x3],by rw[av.out,ao,x4];simp⟩
   clear hX aw av
   repeat' (first|refine Z1 ?_|(refine Z8 ?_;intro ya J)|(refine Z4 ?_;clear J ya)|(refine Z2 ?_ ?_<;>intro h ah<;>try exact Xp)|(refine Z6 ?_;intro idn σn aj ak ac ab ad aa)|(refine Z5 ?_;refine Xi (au _) ?_;rintro _ _ ⟨rfl,ai⟩;(have am:=ai.nobj;have ae:=ai.obj;have a0:=a4.trans ai;simp only[Ac,Aa]at am ae))|refine Z3 ?_|exact Zt|(apply J.out;clear J ya))
   refine Gw (by first|exact Ef|exact Dx) a0 (Own.keep (Own.put (Own.new bj _) _ _) ai) (by decide) (by rfl) bm (by rfl) (by rfl) (by decide) Ad2 Ad2 ?_;intro idn σn aj ak ac ab ad aa an;obtain⟨ay,ax⟩:=an i4 l2.length (Own.keep (Own.put (Own.new bi _) _ _) ai) a5;have eob:∀p,p<σ'.nobj->σn.obj p=σ'.obj p:=fun p hp=>by rw[ac,ae _ Ad2,Al Ad2,Ai Ad2]
   refine Z3 ?_
   repeat' (first|refine Z1 ?_|(refine Z8 ?_;intro ya J)|(refine Z4 ?_;clear J ya)|(refine Z2 ?_ ?_<;>intro h ah<;>try exact Xp)|(refine Z6 ?_;intro idn σn aj ak ac ab ad aa)|refine Z3 ?_|exact Zt|(apply J.out;clear J ya))
   refine⟨q.parts.length-(k+1),Ad2,k+1,idn,i4,l1++[w],l2,xs++[ic w.a.p,sl id w.a.ts.length (Ae w.a.ts),sl idt w.tups.length (C7 w.tups)],ys,?_⟩
   ((repeat' refine Zi ?_ ?_)<;>first|exact Xq|exact (ak.put Ad2 _)|exact (by simpa using Own.put aj _ _)|exact (Own.put ay _ _)|exact HX|exact Xs)
  |false=>
   rw[ao]at au;have HX:Ad8 (EL La l1 xs/\EL La (l2++[w]) (ys++[ic w.a.p,sl id w.a.ts.length (Ae w.a.ts),sl idt w.tups.length (C7 w.tups)])/\l1=(q.parts.take (k+1)).filter (fun p=>H6 rs p.a)/\l2++[w]=(q.parts.take (k+1)).filter fun p=>!H6 rs p.a):=by
    obtain⟨x1,x2,x3,x4⟩:=hX.out;exact⟨x1,EL.append x2 (EL.single ⟨id,idt,rfl⟩),by rw[aw.out,ao,x3];simp,by rw[av.out,ao,x4];simp⟩
   clear hX aw av
   repeat' (first|refine Z1 ?_|(refine Z8 ?_;intro ya J)|(refine Z4 ?_;clear J ya)|(refine Z2 ?_ ?_<;>intro h ah<;>try exact Xp)|(refine Z6 ?_;intro idn σn aj ak ac ab ad aa)|(refine Z5 ?_;refine Xi (au _) ?_;rintro _ _ ⟨rfl,ai⟩;(have am:=ai.nobj;have ae:=ai.obj;have a0:=a4.trans ai;simp only[Ac,Aa]at am ae))|refine Z3 ?_|exact Zt|(apply J.out;clear J ya))
   refine Gw (by first|exact Ef|exact Dx) a0 (Own.keep (Own.put (Own.new bi _) _ _) ai) (by decide) (by rfl) bl (by rfl) (by rfl) (by decide) Ad2 Ad2 ?_;intro idn σn aj ak ac ab ad aa an;obtain⟨az,ax⟩:=an i3 l1.length (Own.keep (Own.put (Own.new bj _) _ _) ai) Ad2;have bd:i3=1\/i3≠idn:=Ad2;have eob:∀p,p<σ'.nobj->σn.obj p=σ'.obj p:=fun p hp=>by rw[ac,ae _ Ad2,Al Ad2,Ai Ad2]
   refine Z3 ?_
   repeat' (first|refine Z1 ?_|(refine Z8 ?_;intro ya J)|(refine Z4 ?_;clear J ya)|(refine Z2 ?_ ?_<;>intro h ah<;>try exact Xp)|(refine Z6 ?_;intro idn σn aj ak ac ab ad aa)|refine Z3 ?_|exact Zt|(apply J.out;clear J ya))
   refine⟨q.parts.length-(k+1),Ad2,k+1,i3,idn,l1,l2++[w],xs,ys++[ic w.a.p,sl id w.a.ts.length (Ae w.a.ts),sl idt w.tups.length (C7 w.tups)],?_⟩
   ((repeat' refine Zi ?_ ?_)<;>first|exact Xq|exact (ak.put Ad2 _)|exact (by simpa using Own.put aj _ _)|exact (Own.put az _ _)|exact HX|exact Xs)
 ·have b1:k=q.parts.length:=Ad2;subst b1;obtain⟨x1,x2,x3,x4⟩:=hX.out;rw[Aa3]at x3 x4;have HX:Ad8 (EL La (q.parts.filter fun p=>H6 rs p.a) xs/\EL La (q.parts.filter fun p=>!H6 rs p.a) ys/\l1.length=(q.parts.filter fun p=>H6 rs p.a).length/\l2.length=(q.parts.filter fun p=>!H6 rs p.a).length):=⟨by rw[<-x3];exact x1,by rw[<-x4];exact x2,by rw[x3],by rw[x4]⟩;clear x1 x2 x3 x4 hX hk;generalize l1.length=n1 at*
  generalize l2.length=n2 at*
  repeat' (first|refine Z1 ?_|(refine Z8 ?_;intro ya J)|(refine Z4 ?_;clear J ya)|(refine Z2 ?_ ?_<;>intro h ah<;>try exact Xp)|(refine Z6 ?_;intro idn σn aj ak ac ab ad aa)|refine Z3 ?_|exact Zt|(apply J.out;clear J ya))
  refine Ab (fun m s σ'=>∃(j i5 i6:Nat) (m1 m2:List Ee) (us vs:List AV),m=q.nots.length-j/\j<=q.nots.length/\s 4=ptr (σ.nobj+1) 0/\s 5=ptr (σ.nobj+2) 0/\s 6=sl idr rs.length (Aj rs)/\s 7=ptr o7 0/\s 8=ptr (o7+1) 0/\s 45=sl inn q.nots.length nc/\s 46=ic q.nots.length/\s 47=ic j/\Keep σ σ'/\o7+1<σ'.nobj/\σ'.obj (σ.nobj+1)=[ic 0,nilS,nilS,nilS]/\σ'.obj (σ.nobj+2)=[ic 0,nilS,nilS,nilS]/\σ'.obj o7=[ic q.head.p,sl ih q.head.ts.length (Ae q.head.ts),sl i3 n1 xs,sl i5 m1.length us]/\σ'.obj (o7+1)=[ic 0,nilS,sl i4 n2 ys,sl i6 m2.length vs]/\Own σ σ' i5 m1.length/\Own σ σ' i6 m2.length/\(i5=1\/i5≠i6)/\m1.length<=j/\m2.length<=j/\us.length=m1.length*2/\vs.length=m2.length*2/\Ad8 (EL Ot m1 us/\EL Ot m2 vs/\m1=(q.nots.take j).filter (H6 rs)/\m2=(q.nots.take j).filter fun a=>!H6 rs a)) q.nots.length
   ⟨0,1,1,[],[],[],[],Ad2,Ad2,Ad3,Ad3,Ad3,Ad3,Ad3,Ad3,Ad3,Ad4,hK,bc,ba,a9,by rw[a8];simp,by rw[a7];simp,Own.nil _ _,Own.nil _ _,.inl rfl,by simp,by simp,by simp,by simp,⟨rfl,rfl,by simp,by simp⟩⟩ ?_
  clear h2 h4 h5 h6 h7 h8 ca b9 b8 hK bc bv ba a9 a8 a7 bj bi a5 b0 bf bm bl a3 bk;rintro m s σ' ⟨j,i5,i6,m1,m2,us,vs,rfl,hj,h4,h5,h6,h7,h8,ck,cj,ci,hK,bc,ba,a9,a8,a7,bq,bp,a5,ce,cd,bz,bw,hY⟩;have bk:=hK.nobj;by_cases a3:j<q.nots.length
  ·have af:=Aav a3;obtain⟨id,r,hd⟩:=Il hN af;have bh:=hq.na _ (Ab1 a3);generalize q.nots[j]=w at hd af bh;have be:w.ts.length<=1000:=Ad2;have au:=fun σ=>Jz w.p id w.ts rs idr be bn σ;have a4:Keep σ ((σ'.new [ic 0,nilS]).put σ'.nobj [ic w.p,sl id w.ts.length (Ae w.ts)]):=(hK.new _).put hK.nobj _;have aw:Ad8 ((q.nots.take (j+1)).filter (H6 rs)=(q.nots.take j).filter (H6 rs)++if H6 rs w=true then [w]else []):=by
    rw[Ad8,Aa8,af,Ab9,Dn]
   have av:Ad8 ((q.nots.take (j+1)).filter (fun a=>!H6 rs a)=(q.nots.take j).filter (fun a=>!H6 rs a)++if (!H6 rs w)=true then [w]else []):=by
    rw[Ad8,Aa8,af,Ab9,Dn]
   clear af;rw[show rs.any (Bb w.ts)=H6 rs w from rfl]at au;cases ao:H6 rs w with
   |true=>
    rw[ao]at au;have HY:Ad8 (EL Ot (m1++[w]) (us++[ic w.p,sl id w.ts.length (Ae w.ts)])/\EL Ot m2 vs/\m1++[w]=(q.nots.take (j+1)).filter (H6 rs)/\m2=(q.nots.take (j+1)).filter fun a=>!H6 rs a):=by
     obtain⟨x1,x2,x3,x4⟩:=hY.out;exact⟨EL.append x1 (EL.single ⟨id,rfl⟩),x2,by rw[aw.out,if_pos ao,x3],by rw[av.out,ao,x4];simp⟩
    clear hY aw av
    repeat' (first|refine Z1 ?_|(refine Z8 ?_;intro ya J)|(refine Z4 ?_;clear J ya)|(refine Z2 ?_ ?_<;>intro h ah<;>try exact Xp)|(refine Z6 ?_;intro idn σn aj ak ac ab ad aa)|(refine Z5 ?_;refine Xi (au _) ?_;rintro _ _ ⟨rfl,ai⟩;(have am:=ai.nobj;have ae:=ai.obj;have a0:=a4.trans ai;simp only[Ac,Aa]at am ae))|refine Z3 ?_|exact Zt|(apply J.out;clear J ya))
    refine Gw (by first|exact Ef|exact Dx) a0 (Own.keep (Own.put (Own.new bq _) _ _) ai) (by decide) (by rfl) bz (by rfl) (by rfl) (by decide) Ad2 Ad2 ?_;intro idn σn aj ak ac ab ad aa an;obtain⟨ay,ax⟩:=an i6 m2.length (Own.keep (Own.put (Own.new bp _) _ _) ai) a5;have eob:∀p,p<σ'.nobj->σn.obj p=σ'.obj p:=fun p hp=>by rw[ac,ae _ Ad2,Al Ad2,Ai Ad2]
    refine Z3 ?_
    repeat' (first|refine Z1 ?_|(refine Z8 ?_;intro ya J)|(refine Z4 ?_;clear J ya)|(refine Z2 ?_ ?_<;>intro h ah<;>try exact Xp)|(refine Z6 ?_;intro idn σn aj ak ac ab ad aa)|refine Z3 ?_|exact Zt|(apply J.out;clear J ya))
    refine⟨q.nots.length-(j+1),Ad2,j+1,idn,i6,m1++[w],m2,us++[ic w.p,sl id w.ts.length (Ae w.ts)],vs,?_⟩
    ((repeat' refine Zi ?_ ?_)<;>first|exact Xq|exact (ak.put Ad2 _)|exact (by simpa using Own.put aj _ _)|exact (Own.put ay _ _)|exact HY|exact Xs)
   |false=>
    rw[ao]at au;have HY:Ad8 (EL Ot m1 us/\EL Ot (m2++[w]) (vs++[ic w.p,sl id w.ts.length (Ae w.ts)])/\m1=(q.nots.take (j+1)).filter (H6 rs)/\m2++[w]=(q.nots.take (j+1)).filter fun a=>!H6 rs a):=by
     obtain⟨x1,x2,x3,x4⟩:=hY.out;exact⟨x1,EL.append x2 (EL.single ⟨id,rfl⟩),by rw[aw.out,ao,x3];simp,by rw[av.out,ao,x4];simp⟩
    clear hY aw av
    repeat' (first|refine Z1 ?_|(refine Z8 ?_;intro ya J)|(refine Z4 ?_;clear J ya)|(refine Z2 ?_ ?_<;>intro h ah<;>try exact Xp)|(refine Z6 ?_;intro idn σn aj ak ac ab ad aa)|(refine Z5 ?_;refine Xi (au _) ?_;rintro _ _ ⟨rfl,ai⟩;(have am:=ai.nobj;have ae:=ai.obj;have a0:=a4.trans ai;simp only[Ac,Aa]at am ae))|refine Z3 ?_|exact Zt|(apply J.out;clear J ya))
    refine Gw (by first|exact Ef|exact Dx) a0 (Own.keep (Own.put (Own.new bp _) _ _) ai) (by decide) (by rfl) bw (by rfl) (by rfl) (by decide) Ad2 Ad2 ?_;intro idn σn aj ak ac ab ad aa an;obtain⟨az,ax⟩:=an i5 m1.length (Own.keep (Own.put (Own.new bq _) _ _) ai) Ad2;have bd:i5=1\/i5≠idn:=Ad2;have eob:∀p,p<σ'.nobj->σn.obj p=σ'.obj p:=fun p hp=>by rw[ac,ae _ Ad2,Al Ad2,Ai Ad2]
    refine Z3 ?_
    repeat' (first|refine Z1 ?_|(refine Z8 ?_;intro ya J)|(refine Z4 ?_;clear J ya)|(refine Z2 ?_ ?_<;>intro h ah<;>try exact Xp)|(refine Z6 ?_;intro idn σn aj ak ac ab ad aa)|refine Z3 ?_|exact Zt|(apply J.out;clear J ya))
    refine⟨q.nots.length-(j+1),Ad2,j+1,i5,idn,m1,m2++[w],us,vs++[ic w.p,sl id w.ts.length (Ae w.ts)],?_⟩
    ((repeat' refine Zi ?_ ?_)<;>first|exact Xq|exact (ak.put Ad2 _)|exact (by simpa using Own.put aj _ _)|exact (Own.put az _ _)|exact HY|exact Xs)
  ·have b2:j=q.nots.length:=Ad2;subst b2;obtain⟨x1,x2,x3,x4⟩:=hY.out;rw[Aa3]at x3 x4;have bu:=HX.out.2.2.1;have br:=HX.out.2.2.2
   have HN:Ad8 (EQ (A5 q rs) [ic q.head.p,sl ih q.head.ts.length (Ae q.head.ts),sl i3 n1 xs,sl i5 m1.length us]/\EQ (G4 q rs) [ic 0,nilS,sl i4 n2 ys,sl i6 m2.length vs]):=
    ⟨⟨ih,i3,i5,xs,us,by simp only[A5];rw[bu,x3],HX.out.1,by simp only[A5];rw[<-x3];exact x1⟩,⟨1,i4,i6,ys,vs,by simp only[G4];rw[br,x4];rfl,HX.out.2.1,by simp only[G4];rw[<-x4];exact x2⟩⟩
   clear x1 x2 x3 x4 hY bu br
   repeat' (first|refine Z1 ?_|(refine Z8 ?_;intro ya J)|(refine Z4 ?_;clear J ya)|(refine Z2 ?_ ?_<;>intro h ah<;>try exact Xp)|(refine Z6 ?_;intro idn σn aj ak ac ab ad aa)|refine Z3 ?_|exact Zt|(apply J.out;clear J ya))
   have o7b:σ.nobj+2<o7:=Ad2;refine A6 (Q:=fun e s' σ''=>e= .normal/\s' 4=ptr (σ.nobj+1) 0/\s' 5=ptr (σ.nobj+2) 0/\Keep σ σ''/\σ''.obj (σ.nobj+1)=[ic q.head.p,sl ih q.head.ts.length (Ae q.head.ts),sl i3 n1 xs,sl i5 m1.length us]/\σ''.obj (σ.nobj+2)=[ic 0,nilS,sl i4 n2 ys,sl i6 m2.length vs]) ?_ ?_
   ·refine As Ad (fun p=>p=o7\/p=o7+1) [3] [0] 3 #[true,false,false,false] Ad5 (fun _ _ _ h=>by cases h.1) ?_;intro ya J;refine Z3 ?_;refine⟨fun p h=>.inl (Ac9 h).symm,J.out _ ?_⟩;clear J ya;have bg:∀(A:Nat->Bool) (i:Nat) (c:List AV),Kept A (fun p=>p=o7\/p=o7+1) σ' i (σ'.put (σ.nobj+1) c):=fun A i c _ o ho hF=>by
     have:o≠σ.nobj+1:=by rcases hF with h|h<;>omega
     simp[St.put,this]
    refine Nf (rs:=[1,2]) Ad5 (by simp) ?_;intro i hi;simp only[Acd,Acu,Ad1]at hi;rcases hi with rfl|rfl
    ·refine Ao ?_;intro ya J;refine Z3 ?_;refine J.out _ _ ⟨kept_refl,?_⟩;clear J ya;refine Ah (i:=2) Ad5 ?_;refine Ao ?_;intro ya J;refine Z3 ?_;refine J.out _ _ ⟨bg _ _ _,?_⟩;clear J ya;refine Ah (i:=3) Ad5 ?_;refine Ao ?_;intro ya J;refine Z3 ?_;refine J.out _ _ ⟨Bz rfl,?_⟩;clear J ya;refine B7 Ad5 ⟨rfl,by simp[upd,h4],by simp[upd,h5],(hK.put Ad2 _).put Ad2 _,?_,?_⟩
     ·rw[Al Ad2,Ak]
     ·rw[Ak]
    ·refine Ao ?_;intro ya J;refine Z3 ?_;refine J.out _ _ ⟨bg _ _ _,?_⟩;clear J ya;refine Ah (i:=1) Ad5 ?_;refine Ao ?_;intro ya J;refine Z3 ?_;refine J.out _ _ ⟨bg _ _ _,?_⟩;clear J ya;refine Ah (i:=3) Ad5 ?_;refine Ao ?_;intro ya J;refine Z3 ?_;refine J.out _ _ ⟨Bz rfl,?_⟩;clear J ya;refine B7 Ad5 ⟨rfl,by simp[upd,h4],by simp[upd,h5],(hK.put Ad2 _).put Ad2 _,?_,?_⟩
     ·rw[Al Ad2,Ak]
     ·rw[Ak]
   ·rintro e s' σ'' ⟨rfl,g4,g5,cg,o71,o72⟩
    repeat' (first|refine Z1 ?_|(refine Z8 ?_;intro ya J)|(refine Z4 ?_;clear J ya)|(refine Z2 ?_ ?_<;>intro h ah<;>try exact Xp)|(refine Z6 ?_;intro idn σn aj ak ac ab ad aa)|refine Z3 ?_|exact Zt|(apply J.out;clear J ya))
    exact⟨_,rfl,⟨_,_,rs,rfl,HN.out.1,HN.out.2,HG.out,HC.out⟩⟩
abbrev MM:=List (Nat×List Bj)
def Ez (M:MM):List AV:=M.map fun x=>sl x.1 x.2.length (C7 x.2)
def Live (σ:St)(id n:Nat):Prop:=(id=1/\n=0)\/∃k,id=k+2/\k<σ.ntop/\σ.top k=n/\0<n
theorem Live.keep {σ σ':St}{id n:Nat}(h:Live σ id n)(k:Keep σ σ'):Live σ' id n:=by
 rcases h with h|⟨j,h1,h2,h3,h4⟩
 ·exact .inl h
 ·exact .inr ⟨j,h1,Aam h2 k.ntop,(k.top j h2).trans h3,h4⟩
structure MOb (σ:St)(om ot:Nat)(M:MM)(d b:Int):Prop where
 ob:σ.obj om=[fx ot 0 M.length,ic d,ic b]
 oc:σ.obj ot=Ez M
 lo:om<σ.nobj
 lt:ot<σ.nobj
 ne:om≠ot
 live:∀x∈M,Live σ x.1 x.2.length
 inj:∀(i j:Nat) (x y:Nat×List Bj),M[i]?=some x->M[j]?=some y->i≠j->x.1=1\/x.1≠y.1
 t3:∀x∈M,T3 x.2
 ln:∀x∈M,x.2.length<=5000
 pl:M.length<=5000
theorem MOb.keep {σ σ':St}{om ot:Nat}{M:MM}{d b:Int}(h:MOb σ om ot M d b)(k:Keep σ σ'):MOb σ' om ot M d b:=
 ⟨(k.obj _ h.lo).trans h.ob,(k.obj _ h.lt).trans h.oc,Aam h.lo k.nobj,Aam h.lt k.nobj,h.ne,fun x hx=>(h.live x hx).keep k,h.inj,h.t3,h.ln,h.pl⟩
theorem F7 {M:MM}{k:Nat}{x:Nat×List Bj}(h:M[k]?=some x):(Ez M)[k]?=some (sl x.1 x.2.length (C7 x.2)):=by simp[Ez,h]
theorem F6 (M:MM):(Ez M).length=M.length:=by simp[Ez]
theorem Mw (om ot:Nat)(M:MM)(d b:Int)(σ:St)(hM:MOb σ om ot M d b):ACalls Tryz.prog 48 [ptr om 0] σ fun r σ'=>r=sc (.bool (decide (b<d)))/\σ'=σ:=by
 have ob:=hM.ob;have ab:decide (d>b)=decide (b<d):=rfl;refine Z9 12 [.tmp 2] Tryz.func48 ?_
 repeat' (first|refine Z1 ?_|(refine Z8 ?_;intro ya J)|(refine Z4 ?_;clear J ya)|(refine Z2 ?_ ?_<;>intro h aa<;>try exact Xp)|refine Z3 ?_|exact Zt|(apply J.out;clear J ya))
 refine Aq Ad (fun _=>True) [9] [0,1,2,3,4,5,6,7,8] [9] Ad5 (fun _ _ _ h=>h) ?_;intro ya J
 repeat' (first|refine Z1 ?_|(refine Z8 ?_;intro ya J)|(refine Z4 ?_;clear J ya)|(refine Z2 ?_ ?_<;>intro h aa<;>try exact Xp)|refine Z3 ?_|exact Zt|(apply J.out;clear J ya))
 first|exact⟨_,rfl,rfl⟩|exact⟨_,rfl,rfl,rfl⟩|exact⟨_,rfl⟩
def Cx (a:Ee):Bj:=C8 (a.ts.map (·.2))
theorem Jy (om ot:Nat)(M:MM)(d b:Int)(a:Ee)(id k:Nat)(x:Nat×List Bj)(ha:a.ts.length<=3)(hk:a.p=(k:Int))(hx:M[k]?=some x)(σ:St)(hM:MOb σ om ot M d b):ACalls Tryz.prog 75 [ptr om 0,ag [ic a.p,sl id a.ts.length (Ae a.ts)]] σ fun r σ'=>r=sc (.bool (decide (Cx a∈x.2)))/\Keep σ σ':=by
 have an:a.ts.length<=1000:=Ad2;have ah:=fun σ=>Qb a.p id a.ts an σ;have aj:=Aax hx;have h3:=hM.t3 x aj;have a3:=hM.ln x aj;have aw:=Er h3;have a4:k<M.length:=(Aau.1 hx).1;have ax:=hM.pl;have az:=F6 M;have a5:=F7 hx;have lo:=hM.lo;have lt:=hM.lt;have ob:=hM.ob;have oc:=hM.oc;rw[hk];rw[hk]at ah;have am:(C8 (a.ts.map (·.2))).length=3:=rfl;have HT:Ad8 (Cx a=C8 (a.ts.map (·.2))):=rfl;generalize Cx a=ta at*
 generalize C8 (a.ts.map (·.2))=t0 at*
 obtain⟨a0,b0,c0,rfl⟩:∃a0 b0 c0,t0=[a0,b0,c0]:=by
  match t0,am with
  |[a0,b0,c0],_=>exact⟨a0,b0,c0,rfl⟩
 simp only[Aj,Abg,List.map_nil]at ah;refine Z9 27 [.tmp 4] Tryz.func75 ?_
 repeat' (first|refine Z1 ?_|(refine Z8 ?_;intro ya J)|(refine Z4 ?_;clear J ya)|(refine Z2 ?_ ?_<;>intro h ac<;>try exact Xp)|(refine Z5 ?_;refine Xi (ah _) ?_;rintro _ _ ⟨rfl,ae⟩;(have af:=ae.nobj;have ad:=ae.obj;have ai:=((Keep.refl σ).new _).trans ae;simp only[Aa]at af ad))|refine Z3 ?_|exact Zt|(apply J.out;clear J ya))
 rename_i σ1;have ak:Keep σ ((σ1.new [ic 0,ic 0,ic 0]).put σ1.nobj [ic a0,ic b0,ic c0]):=(ai.new _).put Ad2 _;have e0:σ1.obj σ.nobj=[ic (k:Int),sl id a.ts.length (Ae a.ts)]:=by rw[ad _ Ad2,Am]
 have e1:σ1.obj om=[fx ot 0 M.length,ic d,ic b]:=by rw[ai.obj _ lo,ob]
 have e2:σ1.obj ot=Ez M:=by rw[ai.obj _ lt,oc]
 clear ad ae;refine Aq Ad (fun _=>True) [] [0,1,2,3,4,5,6,7,8,9] [] Ad5 (fun _ _ _ h=>h) ?_;intro ya J
 repeat' (first|refine Z1 ?_|(refine Z8 ?_;intro ya J)|(refine Z4 ?_;clear J ya)|(refine Z2 ?_ ?_<;>intro h ac<;>try exact Xp)|refine Z3 ?_|exact Zt|(apply J.out;clear J ya))
 clear e0 e1 e2
 refine Ab (fun m s σ'=>∃i:Nat,m=x.2.length-i/\i<=x.2.length/\s 5=ptr σ1.nobj 0/\s 17=sl x.1 x.2.length (C7 x.2)/\s 18=ic x.2.length/\s 19=ic i/\Keep σ σ'/\σ1.nobj<σ'.nobj/\σ'.obj σ1.nobj=[ic a0,ic b0,ic c0]/\Ad8 ([a0,b0,c0]∉x.2.take i)) x.2.length
  ⟨0,Ad2,Ad2,Ad4,Ad4,Ad4,rfl,ak,Ad7,by rw[Ak],by simp[Ad8]⟩ ?_
 clear ak;rintro m s σ' ⟨i,rfl,hi,h5,a9,a8,a7,hK,ay,au,aa⟩;have av:=hK.nobj;by_cases ao:i<x.2.length
 ·have ab:=Aav ao;obtain⟨p,q,r,rr,he,hd⟩:=kZ h3 ab;rw[he]at ab;clear he;have HG:Ad8 (x.2[i]?=some [p,q,r]):=ab;clear ab;by_cases hc:p=a0/\q=b0/\r=c0
  ·obtain⟨rfl,rfl,rfl⟩:=hc;have hm:decide (ta∈x.2)=true:=by rw[HT.out];simpa using Aax HG.out
   repeat' (first|refine Z1 ?_|(refine Z8 ?_;intro ya J)|(refine Z4 ?_;clear J ya)|(refine Z2 ?_ ?_<;>intro h ac<;>try exact Xp)|refine Z3 ?_|exact Zt|(apply J.out;clear J ya))
   first|exact⟨_,rfl,rfl,Xs⟩|exact⟨_,rfl,by rw[hm],Xs⟩|(refine⟨_,rfl,?_⟩;((repeat' refine Zi ?_ ?_)<;>first|exact Xq|exact (by rw[hm])|exact Xs))
  ·have a6:(p==a0&&q==b0&&r==c0)=false:=by
    cases h:(p==a0&&q==b0&&r==c0)with
    |false=>rfl
    |true=>simp at h;exact absurd ⟨h.1.1,h.1.2,h.2⟩ hc
   have HN:Ad8 ([a0,b0,c0]∉x.2.take (i+1)):=S5 aa.out HG.out (fun e=>by simp at e;exact hc ⟨e.1,e.2.1,e.2.2⟩);clear hc aa
   repeat' (first|refine Z1 ?_|(refine Z8 ?_;intro ya J)|(refine Z4 ?_;clear J ya)|(refine Z2 ?_ ?_<;>intro h ac<;>try exact Xp)|refine Z3 ?_|exact Zt|(apply J.out;clear J ya))
   refine⟨x.2.length-(i+1),Ad2,i+1,?_⟩
   ((repeat' refine Zi ?_ ?_)<;>first|exact Xq|exact HN|exact Xs)
 ·have ap:i=x.2.length:=Ad2;subst ap;rw[Aa3]at aa;have hm:decide (ta∈x.2)=false:=by rw[HT.out];simpa using aa.out
  repeat' (first|refine Z1 ?_|(refine Z8 ?_;intro ya J)|(refine Z4 ?_;clear J ya)|(refine Z2 ?_ ?_<;>intro h ac<;>try exact Xp)|refine Z3 ?_|exact Zt|(apply J.out;clear J ya))
  first|exact⟨_,rfl,rfl,hK⟩|exact⟨_,rfl,rfl⟩|exact⟨_,rfl,by rw[hm],hK⟩|exact⟨_,rfl,by rw[hm]⟩
structure KM (om ot:Nat)(M M':MM)(σ σ':St):Prop where
 nobj:σ.nobj<=σ'.nobj
 obj:∀o,o<σ.nobj->o≠om->o≠ot->σ'.obj o=σ.obj o
 ver:∀o,o<σ.nobj->o≠om->o≠ot->σ'.ver o=σ.ver o
 ntop:σ.ntop<=σ'.ntop
 top:∀k,k<σ.ntop->(∀x∈M,x.1≠k+2)->σ'.top k=σ.top k
 mid:∀x∈M',(∃y∈M,y.1=x.1)\/x.1=1\/σ.ntop+2<=x.1
theorem KM.ofKeep {om ot:Nat}{M:MM}{σ σ':St}(h:Keep σ σ'):KM om ot M M σ σ':=
 ⟨h.nobj,fun o ho _ _=>h.obj o ho,fun o ho _ _=>h.ver o ho,h.ntop,fun k hk _=>h.top k hk,fun x hx=>.inl ⟨x,hx,rfl⟩⟩
theorem KM.trans {om ot:Nat}{M M1 M2:MM}{σ σ1 σ2:St}(h:KM om ot M M1 σ σ1)(g:KM om ot M1 M2 σ1 σ2):KM om ot M M2 σ σ2 where
 nobj:=Aal h.nobj g.nobj
 obj:=fun o ho h1 h2=>(g.obj o (Aam ho h.nobj) h1 h2).trans (h.obj o ho h1 h2)
 ver:=fun o ho h1 h2=>(g.ver o (Aam ho h.nobj) h1 h2).trans (h.ver o ho h1 h2)
 ntop:=Aal h.ntop g.ntop
 top:=fun k hk hx=>(g.top k (Aam hk h.ntop) (fun x aa e=>by
  rcases h.mid x aa with⟨y,hy,e2⟩|e2|e2
  ·exact hx y hy (e2.trans e)
  ·omega
  ·omega)).trans (h.top k hk hx)
 mid:=fun x hx=>by
  rcases g.mid x hx with⟨y,hy,e⟩|e|e
  ·rcases h.mid y hy with⟨z,hz,e2⟩|e2|e2
   ·exact .inl ⟨z,hz,e2.trans e⟩
   ·exact .inr (.inl Ad2)
   ·exact .inr (.inr Ad2)
  ·exact .inr (.inl e)
  ·exact .inr (.inr (by have:=h.ntop;omega))
theorem Pv {P:Program}{t:TypeId}{z b:Nat}{zc:List Value}{σ:St}{id id2 n m m':Nat}{xs ys:List AV}{K:AV->St->Prop}(ht:Ld P t=some (z,b,zc))(hO:Live σ id n)
  (hz:0<z) (hzc:zc.length=z) (hx:xs.length=n*z) (hy:ys.length=m*z) (hf:ys.all flat=true) (hm:0<m) (hb:(n+m)*b<=140737488355328) (hl:n+m<=1099511627776)
  (h:∀id' σ',Live σ' id' (n+m)->(id'=id\/σ.ntop+2<=id')->id'≠1->σ'.obj=σ.obj->σ'.nobj=σ.nobj->σ'.ver=σ.ver->σ.ntop<σ'.ntop->(∀k,k<σ.ntop->k+2≠id->σ'.top k=σ.top k)->K (sl id' (n+m) (xs++ys)) σ'):Gx P t t (sl id n xs) (sl id2 m ys) (σ.lay m') K:=by
 unfold Gx Zf;left;simp only[ht];rw[if_pos ⟨trivial,hz,hzc,hx,hy,hf,hm,hb,hl⟩];rcases hO with⟨rfl,rfl⟩|⟨k,rfl,h3,h4,h5⟩
 ·have aa:xs=[]:=Aa1 (by simpa using hx);subst aa;have:=h ((σ.lay m').ntop+2) ((σ.lay m').lay m) (.inr ⟨(σ.lay m').ntop,rfl,by simp[St.lay],by simp[St.lay],Ad2⟩) (.inr (by simp[St.lay])) (by simp) rfl rfl rfl (by simp[St.lay];omega) (fun k hk _=>(((Keep.refl σ).lay m').lay m).top k hk);simpa using this
 ·have e1:(σ.lay m').top k=n:=by simp[St.lay];rw[if_neg Ad2];exact h4
  simp only;rw[if_pos ⟨e1,h5⟩]
  exact h (k+2) _ (.inr ⟨k,rfl,by simp[St.raise,St.lay];omega,by simp[St.raise],Ad2⟩) (.inl rfl) Ad2 rfl rfl rfl (by simp[St.raise,St.lay]) (fun j hj ab=>by
   simp[St.raise,St.lay]
   rw[if_neg Ad2,if_neg Ad2])
theorem MOb.grow {σ σ':St}{om ot:Nat}{M:MM}{d b:Int}{k id':Nat}{x:Nat×List Bj}{t:Bj}(hM:MOb σ om ot M d b)(hx:M[k]?=some x)(ht:t.length=3)(hn:x.2.length<5000)
  (hL:Live σ' id' (x.2.length+1)) (hid:id'=x.1\/σ.ntop+2<=id') (an:id'≠1) (eob:∀o,o<σ.nobj->o≠ot->σ'.obj o=σ.obj o) (aj:∀o,o<σ.nobj->o≠ot->σ'.ver o=σ.ver o) (eoc:σ'.obj ot=(Ez M).set k (sl id' (x.2.length+1) (C7 x.2++Aj t))) (eno:σ.nobj<=σ'.nobj) (ento:σ.ntop<=σ'.ntop)
  (etop:∀j,j<σ.ntop->j+2≠x.1->σ'.top j=σ.top j):MOb σ' om ot (M.set k (id',x.2++[t])) d b/\KM om ot M (M.set k (id',x.2++[t])) σ σ':=by
 have ae:=Aax hx;have am:k<M.length:=(Aau.1 hx).1;have ah:∀(i:Nat) (y:Nat×List Bj),M[i]?=some y->i≠k->Live σ' y.1 y.2.length/\(y.1=1\/y.1≠id'):=fun i y hy ac=>by
  have ak:=Aax hy;rcases hM.live y ak with h|⟨j,e1,e2,e3,e4⟩
  ·exact⟨.inl h,.inl h.1⟩
  ·have ao:y.1≠x.1:=by
    rcases hM.inj i k y x hy hx ac with h|h
    ·omega
    ·exact h
   refine⟨.inr ⟨j,e1,Aam e2 ento,(etop j e2 Ad2).trans e3,e4⟩,.inr ?_⟩;rcases hid with h|h<;>omega
 have aa:∀(i:Nat) (y:Nat×List Bj),(M.set k (id',x.2++[t]))[i]?=some y->(i=k/\y=(id',x.2++[t]))\/(i≠k/\M[i]?=some y):=fun i y hy=>by
  rw[Aa4]at hy;by_cases e:k=i
  ·subst e;rw[if_pos rfl,if_pos am]at hy;exact .inl ⟨rfl,(Ac9 hy).symm⟩
  ·rw[if_neg e]at hy;exact .inr ⟨fun h=>e h.symm,hy⟩
 have ab:∀y∈M.set k (id',x.2++[t]),y=(id',x.2++[t])\/y∈M:=fun y hy=>(Adh hy).symm;have ai:∀y∈M.set k (id',x.2++[t]),∃i,(M.set k (id',x.2++[t]))[i]?=some y:=fun y hy=>Acp hy;refine⟨⟨?_,?_,Aam hM.lo eno,Aam hM.lt eno,hM.ne,?_,?_,?_,?_,by simp;exact hM.pl⟩,⟨eno,fun o ho h1 h2=>eob o ho h2,fun o ho h1 h2=>aj o ho h2,ento,fun j hj h=>etop j hj (fun e=>h x ae e.symm),?_⟩⟩
 ·rw[eob om hM.lo hM.ne,hM.ob];simp
 ·rw[eoc];unfold Ez;rw[List.map_set];congr 1;simp[C7]
 ·intro y hy;obtain⟨i,hi⟩:=ai y hy;rcases aa i y hi with⟨-,rfl⟩|⟨ac,ad⟩
  ·simpa using hL
  ·exact (ah i y ad ac).1
 ·intro i j y w hy hw ac;rcases aa i y hy with⟨rfl,rfl⟩|⟨h1,ad⟩
  ·rcases aa j w hw with⟨rfl,rfl⟩|⟨h2,af⟩
   ·exact absurd rfl ac
   ·have:=(ah j w af h2).2;simp only;by_cases e:id'=w.1
    ·rcases this with h|h
     ·omega
     ·omega
    ·exact .inr e
  ·rcases aa j w hw with⟨rfl,rfl⟩|⟨h2,af⟩
   ·exact (ah i y ad h1).2
   ·exact hM.inj i j y w ad af ac
 ·intro y hy;rcases ab y hy with rfl|hy
  ·intro u hu;rcases Ab2.1 hu with h|h
   ·exact hM.t3 x ae u h
   ·simp at h;subst h;exact ht
  ·exact hM.t3 y hy
 ·intro y hy;rcases ab y hy with rfl|hy
  ·simp;omega
  ·exact hM.ln y hy
 ·intro y hy;rcases ab y hy with rfl|hy
  ·rcases hid with h|h
   ·exact .inl ⟨x,ae,h.symm⟩
   ·exact .inr (.inr h)
  ·exact .inl ⟨y,hy,rfl⟩
theorem Tq (om ot:Nat)(M:MM)(d b:Int)(a:Ee)(id k:Nat)(x:Nat×List Bj)(ha:a.ts.length<=3)(hk:a.p=(k:Int))(hx:M[k]?=some x)(hn:x.2.length<5000)(σ:St)(hM:MOb σ om ot M d b):ACalls Tryz.prog 76 [ptr om 0,ag [ic a.p,sl id a.ts.length (Ae a.ts)]] σ fun r σ'=>∃id',MOb σ' om ot (M.set k (id',x.2++[Cx a])) d b/\KM om ot M (M.set k (id',x.2++[Cx a])) σ σ':=by
 have av:a.ts.length<=1000:=Ad2;have ap:=fun σ=>Qb a.p id a.ts av σ;have ao:=Aax hx;have h3:=hM.t3 x ao;have hL:=hM.live x ao;have au:=Er h3;have a3:k<M.length:=(Aau.1 hx).1;have az:=hM.pl;have a0:=F6 M;have a4:=F7 hx;have lo:=hM.lo;have lt:=hM.lt;have ob:=hM.ob;have oc:=hM.oc;rw[hk];rw[hk]at ap;have aj:(C8 (a.ts.map (·.2))).length=3:=rfl;have HT:Ad8 (Cx a=C8 (a.ts.map (·.2))):=rfl;generalize Cx a=ta at*
 generalize C8 (a.ts.map (·.2))=t0 at*
 have w1:=Dj aj;have w5:=Cj t0;have w4:=G3 aj;refine Z9 23 [] Tryz.func76 ?_
 repeat' (first|refine Z1 ?_|(refine Z8 ?_;intro ya J)|(refine Z4 ?_;clear J ya)|(refine Z2 ?_ ?_<;>intro h an<;>try exact Xp)|(refine Z6 ?_;intro idn σn aw ay ac ae aa ad)|refine Z3 ?_|exact Zt|(apply J.out;clear J ya))
 refine A6 (Q:=fun e s' σ'=>e= .normal/\∃id',MOb σ' om ot (M.set k (id',x.2++[ta])) d b/\KM om ot M (M.set k (id',x.2++[ta])) σ σ') ?_ ?_
 ·refine As Ad (fun _=>True) [19] [0,1,2,3,4,5,6,7,8,9,10,11,12,13,14] 5 #[true,true,true,true,true,true,true,true,true,true,true,true,true,true,true,false,false,false,false,false] Ad5 (fun _ _ _ h=>by cases h.1) ?_;intro ya J;refine Z3 ?_;refine J.out _ ?_;clear J ya;refine Ah (i:=15) Ad5 ?_;refine Ao ?_;intro ya J;refine Z3 ?_;refine ACalls.mono (ap _) ?_;rintro _ σ5 ⟨rfl,af⟩;refine Z3 ?_;refine J.out _ _ ⟨Ap af,?_⟩;clear J ya;have ai:=af.nobj;simp only[Aa]at ai;have ab:Keep σ σ5:=((Keep.refl σ).new _).trans af;have e1:σ5.obj om=[fx ot 0 M.length,ic d,ic b]:=by rw[ab.obj _ lo,ob]
  have e2:σ5.obj ot=Ez M:=by rw[ab.obj _ lt,oc]
  refine Ah (i:=16) Ad5 ?_;refine Ao ?_;intro ya J;refine Z3 ?_;refine J.out _ _ ⟨Ap (af.lay 1),?_⟩;clear J ya;refine Ah (i:=17) Ad5 ?_;refine Ao ?_;intro ya J;refine Z3 ?_;refine Pv (by first|exact Fc) (hL.keep ab) (by decide) (by rfl) au (by rw[w1]) w5 (by decide) Ad2 Ad2 ?_;intro idn σn ax ak am ac ae aa ad etop;have e3:σn.obj ot=Ez M:=by rw[ac,e2]
  refine Z3 ?_;refine J.out _ _ ⟨fun _ o ho _=>by rw[aa];exact af.ver o ho,?_⟩;clear J ya;refine Ah (i:=18) Ad5 ?_;refine Ao ?_;intro ya J;refine Z3 ?_;refine J.out _ _ ⟨fun _ o ho _=>by rw[aa];exact af.ver o ho,?_⟩;clear J ya;refine Ah (i:=19) Ad5 ?_;refine Ao ?_;intro ya J;refine Z3 ?_;refine J.out _ _ ⟨Bz rfl,?_⟩;clear J ya;refine B7 Ad5 ⟨rfl,idn,?_⟩;rw[HT.out];refine MOb.grow hM hx aj hn ?_ ?_ am ?_ ?_ ?_ ?_ ?_ ?_
  ·rcases ax with h|⟨j,h1,h2,h3,h4⟩
   ·exact .inl h
   ·exact .inr ⟨j,h1,h2,h3,h4⟩
  ·have:=ab.ntop;rcases ak with h|h
   ·exact .inl h
   ·exact .inr Ad2
  ·intro o ho ah;rw[show∀(S:St) c,(S.put ot c).obj o=S.obj o from fun S c=>by simp[St.put,ah],ac,ab.obj o ho]
  ·intro o ho ah;rw[show∀(S:St) c,(S.put ot c).ver o=S.ver o from fun S c=>by simp[St.put,ah],aa,ab.ver o ho]
  ·rw[Ak]
  ·have:=ab.nobj;simp only[Ac];omega
  ·have:=ab.ntop;simp only[Kr];omega
  ·intro j hj ah;rw[Lh,etop j (Aam hj ab.ntop) ah,ab.top j hj]
 ·rintro e s' σ'' ⟨rfl,idn,h1,h2⟩
  repeat' (first|refine Z1 ?_|(refine Z8 ?_;intro ya J)|(refine Z4 ?_;clear J ya)|(refine Z2 ?_ ?_<;>intro h an<;>try exact Xp)|(refine Z6 ?_;intro idn σn aw ay ac ae aa ad)|refine Z3 ?_|exact Zt|(apply J.out;clear J ya))
  exact⟨_,rfl,idn,h1,h2⟩
end Go.Proofs.YtmoeoppbmhfbpaaGreatDoorH
