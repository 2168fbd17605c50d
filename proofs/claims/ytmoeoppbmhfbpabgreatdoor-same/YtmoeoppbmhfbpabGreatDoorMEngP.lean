import Derived.Test.YtmoeoppbmhfbpabGreatDoorMEngO
set_option maxHeartbeats 32000000
set_option maxRecDepth 100000
set_option linter.all false
namespace Go.Proofs.YtmoeoppbmhfbpabGreatDoorL
open Go.Abs
theorem Rv (q:Qry)(c:List AV)(init:List Int)(idi:Nat)(hc:EQ q c)(hq:Ou q)(hil:init.length<=200)(σ:St):ACalls Tryz.prog 188 [ag c,sl idi init.length (Al init)] σ fun r σ'=>(∃c1 c2 rs,r=tp [ag c1,ag c2]/\EQ (A5 q rs) c1/\EQ (H0 q rs) c2/\Grown init (Cb (atomsQ q)) rs/\Fa (atomsQ q) rs rs)/\Keep σ σ':=by
 have bq:=fun σ=>Xy q c init idi hc hq hil σ;have b8:=Mg hq;have ch:=I6 hq;have b5:=E4 b8;obtain⟨ih,ip,inn,pc,nc,rfl,hP,hN⟩:=hc;have hpl:=EL.length Ee hP;have cc:=EL.length Ic hN;have hl:=hq.pl;have cf:=hq.nl;refine Z9 69 [.cell 4 191,.cell 5 191] Tryz.func188 ?_
 repeat' (first|refine Z1 ?_|(refine Z8 ?_;intro yb ya)|(refine Z4 ?_;clear ya yb)|(refine Z5 ?_;refine Xi (bq _) ?_;rintro _ _ ⟨⟨idr,rs,rfl,hG,hC⟩,a6⟩;(have bb:=a6.nobj;have aj:=a6.obj;have b7:=((((Keep.refl σ).new _).new _).new _).trans a6;simp only[Aa]at bb aj))|refine Z3 ?_|exact Zt|(apply ya.out;clear ya yb))
 rename_i σ1;have bp:rs.length<=100000:=by have:=hG.le;omega
 have HG:Akc _:=hG;have HC:Akc _:=hC;clear hG hC bq b5;have o0:σ1.obj σ.nobj=[ic q.head.p,sl ih q.head.ts.length (Ac q.head.ts),sl ip q.parts.length pc,sl inn q.nots.length nc]:=by rw[aj _ Aj6,Ag Aka,Ag Aka,Ao]
 have o1:σ1.obj (σ.nobj+1)=[ic 0,nilS,nilS,nilS]:=by rw[aj _ Aj6,Ag Aka,Bs Aka Aka]
 have o2:σ1.obj (σ.nobj+2)=[ic 0,nilS,nilS,nilS]:=by rw[aj _ Aj6,Bs Aka Aka]
 clear aj a6;generalize b6:σ1.nobj=o7 at*
 refine Af (fun m s σ'=>∃(k i3 i4:Nat) (l1 l2:List Part) (xs ys:List AV),m=q.parts.length-k/\k<=q.parts.length/\s 2=ptr σ.nobj 0/\s 4=ptr (σ.nobj+1) 0/\s 5=ptr (σ.nobj+2) 0/\s 6=sl idr rs.length (Al rs)/\s 7=ptr o7 0/\s 8=ptr (o7+1) 0/\s 21=sl ip q.parts.length pc/\s 22=ic q.parts.length/\s 23=ic k/\Keep σ σ'/\o7+1<σ'.nobj/\σ'.obj σ.nobj=[ic q.head.p,sl ih q.head.ts.length (Ac q.head.ts),sl ip q.parts.length pc,sl inn q.nots.length nc]/\σ'.obj (σ.nobj+1)=[ic 0,nilS,nilS,nilS]/\σ'.obj (σ.nobj+2)=[ic 0,nilS,nilS,nilS]/\σ'.obj o7=[ic q.head.p,sl ih q.head.ts.length (Ac q.head.ts),sl i3 l1.length xs,nilS]/\σ'.obj (o7+1)=[ic 0,nilS,sl i4 l2.length ys,nilS]/\Own σ σ' i3 l1.length/\Own σ σ' i4 l2.length/\(i3=1\/i3≠i4)/\l1.length<=k/\l2.length<=k/\xs.length=l1.length*3/\ys.length=l2.length*3/\Akc (EL Mk l1 xs/\EL Mk l2 ys/\l1=(q.parts.take k).filter (fun p=>I9 rs p.a)/\l2=(q.parts.take k).filter fun p=>!I9 rs p.a)) q.parts.length
  ⟨0,1,1,[],[],[],[],Aj6,Aj6,Aj8,Aj8,Aj8,Aj8,Aj8,Aj8,Aj8,Aj8,rfl,Xs,Akb,?_,?_,?_,?_,?_,Own.nil _ _,Own.nil _ _,.inl rfl,by simp,by simp,by simp,by simp,⟨rfl,rfl,by simp,by simp⟩⟩ ?_
 ·rw[Ah Aj6,Ag Akb,Ah Aj6,Ag Aj6,o0]
 ·rw[Ah Aj6,Ag Akb,Ah Aj6,Ag Aj6,o1]
 ·rw[Ah Aj6,Ag Akb,Ah Aj6,Ag Aj6,o2]
 ·rw[Ah Aj6,Ag Akb,Aj];simp
 ·rw[Aj];simp
 clear o0 o1 o2 b7 b6;rintro m s σ' ⟨k,i3,i4,l1,l2,xs,ys,rfl,hk,h2,h4,h5,h6,h7,h8,cb,ca,b9,hK,bc,bz,ba,a9,a8,a7,bl,bi,a5,b2,bf,bo,bn,hX⟩;have bm:=hK.nobj;by_cases a3:k<q.parts.length
 ·have ab:=Agz a3;obtain⟨id,idt,r,hd⟩:=E9 hP ab;have bh:=hq.pa _ (Ain a3);generalize q.parts[k]=w at hd ab bh;have be:w.a.ts.length<=1000:=Aj6;have ak:=fun σ=>K1 w.a.p id w.a.ts rs idr be bp σ;have a4:Keep σ ((σ'.new [ic 0,nilS,nilS]).put σ'.nobj [ic w.a.p,sl id w.a.ts.length (Ac w.a.ts),sl idt w.tups.length (Dc w.tups)]):=(hK.new _).put hK.nobj _;have ap:Akc ((q.parts.take (k+1)).filter (fun p=>I9 rs p.a)=(q.parts.take k).filter (fun p=>I9 rs p.a)++if I9 rs w.a=true then [w]else []):=by
   rw[Akc,Ahd,ab,Ais,Dv]
  have ao:Akc ((q.parts.take (k+1)).filter (fun p=>!I9 rs p.a)=(q.parts.take k).filter (fun p=>!I9 rs p.a)++if (!I9 rs w.a)=true then [w]else []):=by
   rw[Akc,Ahd,ab,Ais,Dv]
  clear ab;rw[show rs.any (A7 w.a.ts)=I9 rs w.a from rfl]at ak;cases ah:I9 rs w.a with
  |true=>
   rw[ah]at ak;have HX:Akc (EL Mk (l1++[w]) (xs++[ic w.a.p,sl id w.a.ts.length (Ac w.a.ts),sl idt w.tups.length (Dc w.tups)])/\EL Mk l2 ys/\l1++[w]=(q.parts.take (k+1)).filter (fun p=>I9 rs p.a)/\l2=(q.parts.take (k+1)).filter fun p=>!I9 rs p.a):=by
    obtain⟨x1,x2,x3,x4⟩:=hX.out;exact⟨EL.append x1 (EL.single ⟨id,idt,rfl⟩),x2,by rw[ap.out,if_pos ah,x3],by rw[ao.out,ah,x4];simp⟩
   clear hX ap ao
   repeat' (first|refine Z1 ?_|(refine Z8 ?_;intro yb ya)|(refine Z4 ?_;clear ya yb)|(refine Z2 ?_ ?_<;>intro h ai<;>try exact Xp)|(refine Z5 ?_;refine Xi (ak _) ?_;rintro _ _ ⟨rfl,ac⟩;(have ad:=ac.nobj;have aa:=ac.obj;have ay:=a4.trans ac;simp only[Ab,Aa]at ad aa))|refine Z3 ?_|exact Zt|(apply ya.out;clear ya yb))
   refine Hv (by first|exact Er|exact D2) ay (Own.keep (Own.put (Own.new bl _) _ _) ac) (by decide) (by rfl) bo (by rfl) (by rfl) (by decide) Aj6 Aj6 ?_;intro idn σn av az af an a0 am ae;obtain⟨aw,au⟩:=ae i4 l2.length (Own.keep (Own.put (Own.new bi _) _ _) ac) a5;have eob:∀p,p<σ'.nobj->σn.obj p=σ'.obj p:=fun p hp=>by rw[af,aa _ Aj6,Ah Aj6,Ag Aj6]
   refine Z3 ?_
   repeat' (first|refine Z1 ?_|(refine Z8 ?_;intro yb ya)|(refine Z4 ?_;clear ya yb)|refine Z3 ?_|exact Zt|(apply ya.out;clear ya yb))
   refine⟨q.parts.length-(k+1),Aj6,k+1,idn,i4,l1++[w],l2,xs++[ic w.a.p,sl id w.a.ts.length (Ac w.a.ts),sl idt w.tups.length (Dc w.tups)],ys,?_⟩
   ((repeat' refine Zi ?_ ?_)<;>first|exact Xq|exact (az.put Aj6 _)|exact (by simpa using Own.put av _ _)|exact (Own.put aw _ _)|exact HX|exact Xs)
  |false=>
   rw[ah]at ak;have HX:Akc (EL Mk l1 xs/\EL Mk (l2++[w]) (ys++[ic w.a.p,sl id w.a.ts.length (Ac w.a.ts),sl idt w.tups.length (Dc w.tups)])/\l1=(q.parts.take (k+1)).filter (fun p=>I9 rs p.a)/\l2++[w]=(q.parts.take (k+1)).filter fun p=>!I9 rs p.a):=by
    obtain⟨x1,x2,x3,x4⟩:=hX.out;exact⟨x1,EL.append x2 (EL.single ⟨id,idt,rfl⟩),by rw[ap.out,ah,x3];simp,by rw[ao.out,ah,x4];simp⟩
   clear hX ap ao
   repeat' (first|refine Z1 ?_|(refine Z8 ?_;intro yb ya)|(refine Z4 ?_;clear ya yb)|(refine Z2 ?_ ?_<;>intro h ai<;>try exact Xp)|(refine Z5 ?_;refine Xi (ak _) ?_;rintro _ _ ⟨rfl,ac⟩;(have ad:=ac.nobj;have aa:=ac.obj;have ay:=a4.trans ac;simp only[Ab,Aa]at ad aa))|refine Z3 ?_|exact Zt|(apply ya.out;clear ya yb))
   refine Hv (by first|exact Er|exact D2) ay (Own.keep (Own.put (Own.new bi _) _ _) ac) (by decide) (by rfl) bn (by rfl) (by rfl) (by decide) Aj6 Aj6 ?_;intro idn σn av az af an a0 am ae;obtain⟨ax,au⟩:=ae i3 l1.length (Own.keep (Own.put (Own.new bl _) _ _) ac) Aj6;have bd:i3=1\/i3≠idn:=Aj6;have eob:∀p,p<σ'.nobj->σn.obj p=σ'.obj p:=fun p hp=>by rw[af,aa _ Aj6,Ah Aj6,Ag Aj6]
   refine Z3 ?_
   repeat' (first|refine Z1 ?_|(refine Z8 ?_;intro yb ya)|(refine Z4 ?_;clear ya yb)|(refine Z2 ?_ ?_<;>intro h ai<;>try exact Xp)|refine Z3 ?_|exact Zt|(apply ya.out;clear ya yb))
   refine⟨q.parts.length-(k+1),Aj6,k+1,i3,idn,l1,l2++[w],xs,ys++[ic w.a.p,sl id w.a.ts.length (Ac w.a.ts),sl idt w.tups.length (Dc w.tups)],?_⟩
   ((repeat' refine Zi ?_ ?_)<;>first|exact Xq|exact (az.put Aj6 _)|exact (by simpa using Own.put av _ _)|exact (Own.put ax _ _)|exact HX|exact Xs)
 ·have b3:k=q.parts.length:=Aj6;subst b3;obtain⟨x1,x2,x3,x4⟩:=hX.out;rw[Ag7]at x3 x4;have HX:Akc (EL Mk (q.parts.filter fun p=>I9 rs p.a) xs/\EL Mk (q.parts.filter fun p=>!I9 rs p.a) ys/\l1.length=(q.parts.filter fun p=>I9 rs p.a).length/\l2.length=(q.parts.filter fun p=>!I9 rs p.a).length):=⟨by rw[<-x3];exact x1,by rw[<-x4];exact x2,by rw[x3],by rw[x4]⟩;clear x1 x2 x3 x4 hX hk;generalize l1.length=n1 at*
  generalize l2.length=n2 at*
  repeat' (first|refine Z1 ?_|(refine Z8 ?_;intro yb ya)|(refine Z4 ?_;clear ya yb)|(refine Z2 ?_ ?_<;>intro h ai<;>try exact Xp)|refine Z3 ?_|exact Zt|(apply ya.out;clear ya yb))
  refine Af (fun m s σ'=>∃(j i5 i6:Nat) (m1 m2:List De) (us vs:List AV),m=q.nots.length-j/\j<=q.nots.length/\s 4=ptr (σ.nobj+1) 0/\s 5=ptr (σ.nobj+2) 0/\s 6=sl idr rs.length (Al rs)/\s 7=ptr o7 0/\s 8=ptr (o7+1) 0/\s 45=sl inn q.nots.length nc/\s 46=ic q.nots.length/\s 47=ic j/\Keep σ σ'/\o7+1<σ'.nobj/\σ'.obj (σ.nobj+1)=[ic 0,nilS,nilS,nilS]/\σ'.obj (σ.nobj+2)=[ic 0,nilS,nilS,nilS]/\σ'.obj o7=[ic q.head.p,sl ih q.head.ts.length (Ac q.head.ts),sl i3 n1 xs,sl i5 m1.length us]/\σ'.obj (o7+1)=[ic 0,nilS,sl i4 n2 ys,sl i6 m2.length vs]/\Own σ σ' i5 m1.length/\Own σ σ' i6 m2.length/\(i5=1\/i5≠i6)/\m1.length<=j/\m2.length<=j/\us.length=m1.length*2/\vs.length=m2.length*2/\Akc (EL Mm m1 us/\EL Mm m2 vs/\m1=(q.nots.take j).filter (I9 rs)/\m2=(q.nots.take j).filter fun a=>!I9 rs a)) q.nots.length
   ⟨0,1,1,[],[],[],[],Aj6,Aj6,Aj7,Aj7,Aj7,Aj7,Aj7,Aj7,Aj7,Aj8,hK,bc,ba,a9,by rw[a8];simp,by rw[a7];simp,Own.nil _ _,Own.nil _ _,.inl rfl,by simp,by simp,by simp,by simp,⟨rfl,rfl,by simp,by simp⟩⟩ ?_
  clear h2 h4 h5 h6 h7 h8 cb ca b9 hK bc bz ba a9 a8 a7 bl bi a5 b2 bf bo bn a3 bm;rintro m s σ' ⟨j,i5,i6,m1,m2,us,vs,rfl,hj,h4,h5,h6,h7,h8,ck,cj,ci,hK,bc,ba,a9,a8,a7,bu,br,a5,ce,cd,b1,b0,hY⟩;have bm:=hK.nobj;by_cases a3:j<q.nots.length
  ·have ab:=Agz a3;obtain⟨id,r,hd⟩:=Jl hN ab;have bh:=hq.na _ (Ain a3);generalize q.nots[j]=w at hd ab bh;have be:w.ts.length<=1000:=Aj6;have ak:=fun σ=>K1 w.p id w.ts rs idr be bp σ;have a4:Keep σ ((σ'.new [ic 0,nilS]).put σ'.nobj [ic w.p,sl id w.ts.length (Ac w.ts)]):=(hK.new _).put hK.nobj _;have ap:Akc ((q.nots.take (j+1)).filter (I9 rs)=(q.nots.take j).filter (I9 rs)++if I9 rs w=true then [w]else []):=by
    rw[Akc,Ahd,ab,Ais,Dv]
   have ao:Akc ((q.nots.take (j+1)).filter (fun a=>!I9 rs a)=(q.nots.take j).filter (fun a=>!I9 rs a)++if (!I9 rs w)=true then [w]else []):=by
    rw[Akc,Ahd,ab,Ais,Dv]
   clear ab;rw[show rs.any (A7 w.ts)=I9 rs w from rfl]at ak;cases ah:I9 rs w with
   |true=>
    rw[ah]at ak;have HY:Akc (EL Mm (m1++[w]) (us++[ic w.p,sl id w.ts.length (Ac w.ts)])/\EL Mm m2 vs/\m1++[w]=(q.nots.take (j+1)).filter (I9 rs)/\m2=(q.nots.take (j+1)).filter fun a=>!I9 rs a):=by
     obtain⟨x1,x2,x3,x4⟩:=hY.out;exact⟨EL.append x1 (EL.single ⟨id,rfl⟩),x2,by rw[ap.out,if_pos ah,x3],by rw[ao.out,ah,x4];simp⟩
    clear hY ap ao
    repeat' (first|refine Z1 ?_|(refine Z8 ?_;intro yb ya)|(refine Z4 ?_;clear ya yb)|(refine Z2 ?_ ?_<;>intro h ai<;>try exact Xp)|(refine Z5 ?_;refine Xi (ak _) ?_;rintro _ _ ⟨rfl,ac⟩;(have ad:=ac.nobj;have aa:=ac.obj;have ay:=a4.trans ac;simp only[Ab,Aa]at ad aa))|refine Z3 ?_|exact Zt|(apply ya.out;clear ya yb))
    refine Hv (by first|exact Er|exact D2) ay (Own.keep (Own.put (Own.new bu _) _ _) ac) (by decide) (by rfl) b1 (by rfl) (by rfl) (by decide) Aj6 Aj6 ?_;intro idn σn av az af an a0 am ae;obtain⟨aw,au⟩:=ae i6 m2.length (Own.keep (Own.put (Own.new br _) _ _) ac) a5;have eob:∀p,p<σ'.nobj->σn.obj p=σ'.obj p:=fun p hp=>by rw[af,aa _ Aj6,Ah Aj6,Ag Aj6]
    refine Z3 ?_
    repeat' (first|refine Z1 ?_|(refine Z8 ?_;intro yb ya)|(refine Z4 ?_;clear ya yb)|refine Z3 ?_|exact Zt|(apply ya.out;clear ya yb))
    refine⟨q.nots.length-(j+1),Aj6,j+1,idn,i6,m1++[w],m2,us++[ic w.p,sl id w.ts.length (Ac w.ts)],vs,?_⟩
    ((repeat' refine Zi ?_ ?_)<;>first|exact Xq|exact (az.put Aj6 _)|exact (by simpa using Own.put av _ _)|exact (Own.put aw _ _)|exact HY|exact Xs)
   |false=>
    rw[ah]at ak;have HY:Akc (EL Mm m1 us/\EL Mm (m2++[w]) (vs++[ic w.p,sl id w.ts.length (Ac w.ts)])/\m1=(q.nots.take (j+1)).filter (I9 rs)/\m2++[w]=(q.nots.take (j+1)).filter fun a=>!I9 rs a):=by
     obtain⟨x1,x2,x3,x4⟩:=hY.out;exact⟨x1,EL.append x2 (EL.single ⟨id,rfl⟩),by rw[ap.out,ah,x3];simp,by rw[ao.out,ah,x4];simp⟩
    clear hY ap ao
    repeat' (first|refine Z1 ?_|(refine Z8 ?_;intro yb ya)|(refine Z4 ?_;clear ya yb)|(refine Z2 ?_ ?_<;>intro h ai<;>try exact Xp)|(refine Z5 ?_;refine Xi (ak _) ?_;rintro _ _ ⟨rfl,ac⟩;(have ad:=ac.nobj;have aa:=ac.obj;have ay:=a4.trans ac;simp only[Ab,Aa]at ad aa))|refine Z3 ?_|exact Zt)
    refine Hv (by first|exact Er|exact D2) ay (Own.keep (Own.put (Own.new br _) _ _) ac) (by decide) (by rfl) b0 (by rfl) (by rfl) (by decide) Aj6 Aj6 ?_;intro idn σn av az af an a0 am ae;obtain⟨ax,au⟩:=ae i5 m1.length (Own.keep (Own.put (Own.new bu _) _ _) ac) Aj6;have bd:i5=1\/i5≠idn:=Aj6;have eob:∀p,p<σ'.nobj->σn.obj p=σ'.obj p:=fun p hp=>by rw[af,aa _ Aj6,Ah Aj6,Ag Aj6]
    refine Z3 ?_
    repeat' (first|refine Z1 ?_|(refine Z8 ?_;intro yb ya)|(refine Z4 ?_;clear ya yb)|refine Z3 ?_|exact Zt|(apply ya.out;clear ya yb))
    refine⟨q.nots.length-(j+1),Aj6,j+1,i5,idn,m1,m2++[w],us,vs++[ic w.p,sl id w.ts.length (Ac w.ts)],?_⟩
    ((repeat' refine Zi ?_ ?_)<;>first|exact Xq|exact (az.put Aj6 _)|exact (by simpa using Own.put av _ _)|exact (Own.put ax _ _)|exact HY|exact Xs)
  ·have b4:j=q.nots.length:=Aj6;subst b4;obtain⟨x1,x2,x3,x4⟩:=hY.out;rw[Ag7]at x3 x4;have bw:=HX.out.2.2.1;have bv:=HX.out.2.2.2
   have HN:Akc (EQ (A5 q rs) [ic q.head.p,sl ih q.head.ts.length (Ac q.head.ts),sl i3 n1 xs,sl i5 m1.length us]/\EQ (H0 q rs) [ic 0,nilS,sl i4 n2 ys,sl i6 m2.length vs]):=
    ⟨⟨ih,i3,i5,xs,us,by simp only[A5];rw[bw,x3],HX.out.1,by simp only[A5];rw[<-x3];exact x1⟩,⟨1,i4,i6,ys,vs,by simp only[H0];rw[bv,x4];rfl,HX.out.2.1,by simp only[H0];rw[<-x4];exact x2⟩⟩
   clear x1 x2 x3 x4 hY bw bv
   repeat' (first|refine Z1 ?_|(refine Z8 ?_;intro yb ya)|(refine Z4 ?_;clear ya yb)|(refine Z2 ?_ ?_<;>intro h ai<;>try exact Xp)|refine Z3 ?_|exact Zt|(apply ya.out;clear ya yb))
   have o7b:σ.nobj+2<o7:=Aj6;refine Bt (Q:=fun e s' σ''=>e= .normal/\s' 4=ptr (σ.nobj+1) 0/\s' 5=ptr (σ.nobj+2) 0/\Keep σ σ''/\σ''.obj (σ.nobj+1)=[ic q.head.p,sl ih q.head.ts.length (Ac q.head.ts),sl i3 n1 xs,sl i5 m1.length us]/\σ''.obj (σ.nobj+2)=[ic 0,nilS,sl i4 n2 ys,sl i6 m2.length vs]) ?_ ?_
   ·refine A1 Ai (fun p=>p=o7\/p=o7+1) [3] [0] 3 #[true,false,false,false] Aj9 (fun _ _ _ h=>by cases h.1) ?_;intro yb ya;refine Z3 ?_;refine⟨fun p h=>.inl (Ai8 h).symm,ya.out _ ?_⟩;clear ya yb;have bg:∀(A:Nat->Bool) (i:Nat) (c:List AV),Kept A (fun p=>p=o7\/p=o7+1) σ' i (σ'.put (σ.nobj+1) c):=fun A i c _ o ho hF=>by
     have:o≠σ.nobj+1:=by rcases hF with h|h<;>omega
     simp[St.put,this]
    refine Ef (rs:=[1,2]) Aj9 (by simp) ?_;intro i hi;simp only[Ah2,Ail,Aj5]at hi;rcases hi with rfl|rfl
    ·refine Aq ?_;intro yb ya;refine Z3 ?_;refine ya.out _ _ ⟨kept_refl,?_⟩;clear ya yb;refine Am (i:=2) Aj9 ?_;refine Aq ?_;intro yb ya;refine Z3 ?_;refine ya.out _ _ ⟨bg _ _ _,?_⟩;clear ya yb;refine Am (i:=3) Aj9 ?_;refine Aq ?_;intro yb ya;refine Z3 ?_;refine ya.out _ _ ⟨Br rfl,?_⟩;clear ya yb;refine A2 Aj9 ⟨rfl,by simp[upd,h4],by simp[upd,h5],(hK.put Aj6 _).put Aj6 _,?_,?_⟩
     ·rw[Ah Aj6,Aj]
     ·rw[Aj]
    ·refine Aq ?_;intro yb ya;refine Z3 ?_;refine ya.out _ _ ⟨bg _ _ _,?_⟩;clear ya yb;refine Am (i:=1) Aj9 ?_;refine Aq ?_;intro yb ya;refine Z3 ?_;refine ya.out _ _ ⟨bg _ _ _,?_⟩;clear ya yb;refine Am (i:=3) Aj9 ?_;refine Aq ?_;intro yb ya;refine Z3 ?_;refine ya.out _ _ ⟨Br rfl,?_⟩;clear ya yb;refine A2 Aj9 ⟨rfl,by simp[upd,h4],by simp[upd,h5],(hK.put Aj6 _).put Aj6 _,?_,?_⟩
     ·rw[Ah Aj6,Aj]
     ·rw[Aj]
   ·rintro e s' σ'' ⟨rfl,g4,g5,cg,o71,o72⟩
    repeat' (first|refine Z1 ?_|refine Z3 ?_|exact Zt|(apply ya.out;clear ya yb))
    exact⟨_,rfl,⟨_,_,rs,rfl,HN.out.1,HN.out.2,HG.out,HC.out⟩⟩
end Go.Proofs.YtmoeoppbmhfbpabGreatDoorL
