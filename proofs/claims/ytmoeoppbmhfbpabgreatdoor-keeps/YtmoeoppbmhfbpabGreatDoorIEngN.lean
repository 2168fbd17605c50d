import Derived.Test.YtmoeoppbmhfbpabGreatDoorIEngJ
set_option maxHeartbeats 32000000
set_option maxRecDepth 100000
set_option linter.all false
open List renaming length->Z
namespace Go.Proofs.YtmoeoppbmhfbpabGreatDoorI
open Go.Abs
def F6 (l:List Dv)(small big:List Int):Prop:=∀a∈l,small.any (Bj a.ts)=true->∀v,(true,v)∈a.ts->v∈big
def Grown (init V rs:List Int):Prop:=∃ad:List Int,rs=init++ad/\ad.Nodup/\∀v∈ad,v∈V
theorem Grown.le {init V rs}(h:Grown init V rs):Z rs<=Z init+Z V:=by
 obtain⟨ad,rfl,h1,h2⟩:=h;have:=X7 h1 h2;simp;omega
theorem Grown.snoc {init V rs}(h:Grown init V rs){v}(hv:v∈V)(hn:v∉rs):Grown init V (rs++[v]):=by
 obtain⟨ad,rfl,h1,h2⟩:=h;refine⟨ad++[v],by simp,?_,?_⟩
 ·rw[JK];exact⟨h1,by simp,fun a ha b hb=>by simp at hb;subst hb;rintro rfl;exact hn (AW.2 (.inr ha))⟩
 ·intro u hu;rcases AW.1 hu with h|h
  ·exact h2 u h
  ·simp at h;subst h;exact hv
theorem aE (q c init idi)(hc:EQ q c)(hq:Qo q)(hil:Z init<=200)(σ):AF Tryz.prog 224 [ag c,sl idi (Z init) (As init)] σ fun r σ'=>(∃id rs,r=sl id (Z rs) (As rs)/\Grown init (Co (atomsQ q)) rs/\F6 (atomsQ q) rs rs)/\AE σ σ':=by
 have b7:=fun σ=>Kc q c hc hq σ;have bh:=N0 hq;have ck:=Jz hq;have ci:=Fz bh;have b4:∀a∈atomsQ q,∀v,(true,v)∈a.ts->v∈Co (atomsQ q):=fun a ha v hv=>(Dk _ _).2 ⟨a,ha,hv⟩;obtain⟨ih,ip,inn,pc,nc,rfl,-,-⟩:=hc;generalize Co (atomsQ q)=V at*
 generalize atomsQ q=l at*
 have cf:=B9 init;refine Z9 66 [.tmp 4] Tryz.func224 ?_
 refine zz ?_
 refine Ae (fun m s σ'=>∃(j i3:Nat) (rs:List Int),m=Z init-j/\j<=Z init/\s 2=ptr σ.B 0/\s 5=sl i3 (Z rs) (As rs)/\s 14=sl idi (Z init) (As init)/\s 15=ic (Z init)/\s 16=ic j/\AE σ σ'/\σ.B<σ'.B/\σ'.C σ.B=[ic q.h.p,sl ih (Z q.h.ts) (Ad q.h.ts),sl ip (Z q.A) pc,sl inn (Z q.B) nc]/\Own σ σ' i3 (Z rs)/\Z rs<=j/\AD (rs=init.take j)) (Z init)
  ⟨0,1,[],AA,AA,AG,by simp[upd,As],by simp[upd,AM],AG,rfl,Xs,AK,by rw[Ao],Own.nil _ _,by simp,by simp[AD]⟩ ?_
 rintro m s σ' ⟨j,i3,rs,rfl,hj,h2,h5,ca,b9,b8,hK,ao,ae,hO,bd,hR⟩;have au:=hK.B;by_cases a5:j<Z init
 ·have aa:=AJ a5;obtain⟨r,hd⟩:=Dz aa;generalize init[j]=v at hd aa;have HR:AD (rs++[v]=init.take (j+1)):=by rw[AD,AU,aa,BJ,hR.o]
  have bw:=B9 rs;clear aa hR
  refine qd ?_;intro yd yb;intro idn σn a9 b5 bb a4 ba a3;refine pz ?_
  refine⟨Z init-(j+1),AA,j+1,idn,rs++[v],?_⟩
  ((repeat' refine Zi ?_ ?_)<;>first|exact Xq|exact (by simpa using a9)|exact HR|exact (by simp[As])|exact Xs)
 ·have a8:j=Z init:=AA;subst a8;rw[AS]at hR;have hR:=hR.o.symm;subst hR;clear a5 hj
  refine pz ?_
  refine Ae (fun m s σ'=>∃(B i3:Nat) (Bi:Int) (rs:List Int),m=2*(Z init+Z V-Z rs)+(if Bi<(Z rs:Int)then 1 else 0)/\(Bi=B\/(Bi= -1/\B=0))/\s 2=ptr σ.B 0/\s 5=sl i3 (Z rs) (As rs)/\s 8=ic Bi/\AE σ σ'/\σ.B<σ'.B/\σ'.C σ.B=[ic q.h.p,sl ih (Z q.h.ts) (Ad q.h.ts),sl ip (Z q.A) pc,sl inn (Z q.B) nc]/\Own σ σ' i3 (Z rs)/\Z rs<=Z init+Z V/\B<=Z rs/\AD (Grown init V rs/\F6 l (rs.take B) rs)) (2*(Z init+Z V-Z init)+1)
   ⟨0,i3,-1,init,by rw[if_pos AA],.inr ⟨rfl,rfl⟩,AI,AI,AG,hK,ao,ae,hO,AA,AA,⟨[],by simp,IS,by simp⟩,fun a ha h=>by simp at h⟩ ?_
  clear hK ao ae hO h2 h5 ca b9 b8 au;rintro m s σ' ⟨B,i3,Bi,rs,rfl,b6,h2,h5,h8,hK,ao,ae,hO,bd,cj,hG⟩;have au:=hK.B;have bw:=B9 rs;by_cases a5:Bi<(Z rs:Int)
  ·rw[if_pos a5]
   refine qb ?_;intro yd yb;refine Xi (b7 _) ?_;rintro _ _ ⟨ida,cs,rfl,hE,az⟩;(have a7:=az.B;have av:=az.C;have am:=hK.trans az;have ak:=Own.keep hO az);refine pz ?_
   rename_i σa;have ch:=EL.length I9 hE
   refine Ae (fun m s σ2=>∃(k i4:Nat) (ws:List Int),m=Z l-k/\k<=Z l/\s 2=ptr σ.B 0/\s 5=sl i4 (Z ws) (As ws)/\s 8=ic (Z rs)/\s 32=sl ida (Z l) cs/\s 33=ic (Z l)/\s 34=ic k/\AE σ σ2/\σ.B<σ2.B/\σ2.C σ.B=[ic q.h.p,sl ih (Z q.h.ts) (Ad q.h.ts),sl ip (Z q.A) pc,sl inn (Z q.B) nc]/\Own σ σ2 i4 (Z ws)/\Z ws<=Z init+Z V/\Z rs<=Z ws/\AD (Grown init V ws/\ws.take (Z rs)=rs/\F6 (l.take k) rs ws)) (Z l)
    ⟨0,i3,rs,AA,AA,AI,AI,AI,AG,AG,rfl,am,AA,by rw[av _ AA,ae],ak,bd,AA,hG.o.1,by simp,fun a ha=>by simp at ha⟩ ?_
   clear am ak av hK hO ae ao h2 h5 h8 au az a7;rintro m s σ2 ⟨k,i4,ws,rfl,hk,h2,h5,h8,bm,bl,bi,hK,ao,ae,hO,bo,bu,hW⟩;have au:=hK.B;have cb:=B9 ws;by_cases ap:k<Z l
   ·have aa:=AJ ap;obtain⟨ida2,r2,b2⟩:=Kd hE aa;have hb:=bh _ (AT ap);have bf:=b4 _ (AT ap);generalize l[k]=a at b2 aa hb bf;have HT:AD (l.take (k+1)=l.take k++[a]):=by rw[AD,AU,aa,BJ]
    clear aa;have bp:Z ws<=100000:=AA;have b3:Z a.ts<=1000:=AA;have a0:=fun σ=>Lx a.p ida2 a.ts ws i4 b3 bp σ;have aw:∀v∈rs,v∈ws:=fun v hv=>by
     have:=hW.o.2.1;rw[<-this]at hv;exact ND hv
    cases ai:ws.any (Bj a.ts)with
    |false=>
     have HW:AD (Grown init V ws/\ws.take (Z rs)=rs/\F6 (l.take (k+1)) rs ws):=by
      refine⟨hW.o.1,hW.o.2.1,?_⟩;rw[HT.o];intro b hb h v hv;rcases AW.1 hb with hb|hb
      ·exact hW.o.2.2 b hb h v hv
      ·simp at hb;subst hb;rw[CW]at h;obtain⟨u,hu,he⟩:=h;rw[EB]at ai;exact absurd he (ai u (aw u hu))
     rw[ai]at a0;clear hW HT aw
     refine qb ?_;intro yd yb;refine Xi (a0 _) ?_;rintro _ _ ⟨rfl,ad⟩;(have ah:=ad.B;have ac:=ad.C;have am:=((hK.new _).put hK.B _).trans ad;have ak:=Own.keep (Own.put (Own.new hO _) _ _) ad;simp only[Ab,Aa]at ah ac);refine pz ?_
     refine⟨Z l-(k+1),AA,k+1,i4,ws,?_⟩
     exact qh HW
    |true=>
     rw[ai]at a0;have ce:=Cs a.ts
     refine qb ?_;intro yd yb;refine Xi (a0 _) ?_;rintro _ _ ⟨rfl,ad⟩;(have ah:=ad.B;have ac:=ad.C;have am:=((hK.new _).put hK.B _).trans ad;have ak:=Own.keep (Own.put (Own.new hO _) _ _) ad;simp only[Ab,Aa]at ah ac);refine pz ?_
     rename_i σb;have bz:σb.C σ2.B=[ic a.p,sl ida2 (Z a.ts) (Ad a.ts)]:=by rw[ac _ AA,Ak]
     refine Ae (fun m s σ3=>∃(j i5:Nat) (us:List Int),m=Z a.ts-j/\j<=Z a.ts/\s 2=ptr σ.B 0/\s 5=sl i5 (Z us) (As us)/\s 8=ic (Z rs)/\s 32=sl ida (Z l) cs/\s 33=ic (Z l)/\s 34=ic k/\s 43=sl ida2 (Z a.ts) (Ad a.ts)/\s 44=ic (Z a.ts)/\s 45=ic j/\AE σ σ3/\σ.B<σ3.B/\σ3.C σ.B=[ic q.h.p,sl ih (Z q.h.ts) (Ad q.h.ts),sl ip (Z q.A) pc,sl inn (Z q.B) nc]/\Own σ σ3 i5 (Z us)/\Z us<=Z init+Z V/\Z rs<=Z us/\AD (Grown init V us/\us.take (Z rs)=rs/\(∀v∈ws,v∈us)/\∀v,(true,v)∈a.ts.take j->v∈us)) (Z a.ts)
      ⟨0,i4,ws,AA,AA,AI,AI,AI,AI,AI,AI,AG,AG,rfl,am,AA,by rw[ac _ AA,Aj AA,Ah AA,ae],ak,bo,bu,hW.o.1,hW.o.2.1,fun v hv=>hv,by simp⟩ ?_
     clear am ak ac hK hO ae ao h2 h5 h8 bm bl bi au ad ah bz a0;rintro m s σ3 ⟨j,i5,us,rfl,hj,h2,h5,h8,bm,bl,bi,co,cn,cm,hK,ao,ae,hO,cc,bv,hU⟩;have au:=hK.B;have cd:=B9 us;by_cases ax:j<Z a.ts
     ·have aa:=AJ ax;obtain⟨r3,b1⟩:=Cz aa;have bc:=AT ax;generalize a.ts[j]=w at b1 aa bc;obtain⟨w1,w2⟩:=w;have bn:AD (a.ts.take (j+1)=a.ts.take j++[(w1,w2)]):=by rw[AD,AU,aa,BJ]
      clear aa;have br:Z us<=100000:=AA;have be:=Tw w2 us;have bg:=fun σ=>H7 w2 us i5 br σ;have HU:AD ((w1=true->w2∈us)->(Grown init V us/\us.take (Z rs)=rs/\(∀v∈ws,v∈us)/\∀v,(true,v)∈a.ts.take (j+1)->v∈us)):=fun hw=>by
       refine⟨hU.o.1,hU.o.2.1,hU.o.2.2.1,fun v hv=>?_⟩;rw[bn.o]at hv;rcases AW.1 hv with h|h
       ·exact hU.o.2.2.2 v h
       ·simp at h;obtain⟨h1,h2⟩:=h;subst h2;exact hw h1
      cases w1 with
      |false=>
       refine pz ?_
       refine⟨Z a.ts-(j+1),AA,j+1,i5,us,?_⟩
       ((repeat' refine Zi ?_ ?_)<;>first|exact Xq|exact (Own.put (Own.new hO _) _ _)|exact (HU.o (fun h=>by cases h))|exact Xs)
      |true=>
       by_cases hm:w2∈us
       ·have ay:decide (w2∉us)=false:=by simp[hm]
        rw[ay]at be;have HU:=HU.o (fun _=>hm);have HU:AD _:=HU;clear ay hm
        refine qb ?_;intro yd yb;refine Xi (bg _) ?_;rintro _ _ ⟨rfl,aj⟩;(have an:=aj.B;have af:=aj.C;have am:=((hK.new _).put hK.B _).trans aj;have ak:=Own.keep (Own.put (Own.new hO _) _ _) aj;simp only[Ab,Aa]at an af);refine pz ?_
        refine⟨Z a.ts-(j+1),AA,j+1,i5,us,?_⟩
        exact qh HU
       ·have ay:decide (w2∉us)=true:=by simp[hm]
        rw[ay]at be;have HU:AD (Grown init V (us++[w2])/\(us++[w2]).take (Z rs)=rs/\(∀v∈ws,v∈us++[w2])/\∀v,(true,v)∈a.ts.take (j+1)->v∈us++[w2]):=by
         refine⟨hU.o.1.snoc (bf w2 bc) hm,?_,fun v hv=>AW.2 (.inl (hU.o.2.2.1 v hv)),fun v hv=>?_⟩
         ·rw[List.take_append_of_le_length bv];exact hU.o.2.1
         ·rw[bn.o]at hv;rcases AW.1 hv with h|h
          ·exact AW.2 (.inl (hU.o.2.2.2 v h))
          ·simp at h;subst h;simp
        have bq:Z us+1<=Z init+Z V:=by
         have:=HU.o.1.le;simpa using this
        clear ay hm
        refine qb ?_;intro yd yb;refine Xi (bg _) ?_;rintro _ _ ⟨rfl,aj⟩;(have an:=aj.B;have af:=aj.C;have am:=((hK.new _).put hK.B _).trans aj;have ak:=Own.keep (Own.put (Own.new hO _) _ _) aj;simp only[Ab,Aa]at an af;have a6:=af σ3.B AA;rw[Ak]at a6);refine qd ?_;intro yd yb;intro idn σn a9 b5 bb a4 ba a3;refine pz ?_
        refine⟨Z a.ts-(j+1),AA,j+1,idn,us++[w2],?_⟩
        ((repeat' refine Zi ?_ ?_)<;>first|exact Xq|exact (by simpa using a9)|exact HU|exact (by simp[As])|exact Xs)
     ·have a8:j=Z a.ts:=AA;subst a8;have HW:AD (Grown init V us/\us.take (Z rs)=rs/\F6 (l.take (k+1)) rs us):=by
       obtain⟨u1,u2,u3,u4⟩:=hU.o;rw[AS]at u4;refine⟨u1,u2,?_⟩;rw[HT.o];intro b hb h v hv;rcases AW.1 hb with hb|hb
       ·exact u3 v (hW.o.2.2 b hb h v hv)
       ·simp at hb;subst hb;exact u4 v hv
      clear hU hW HT
      refine pz ?_
      refine⟨Z l-(k+1),AA,k+1,i5,us,?_⟩
      exact qh HW
   ·have b0:k=Z l:=AA;subst b0;have HW:AD (Grown init V ws/\F6 l (ws.take (Z rs)) ws):=by
     obtain⟨u1,u2,u3⟩:=hW.o;rw[AS]at u3;exact⟨u1,by rw[u2];exact u3⟩
    clear hW
    refine pz ?_
    refine⟨2*(Z init+Z V-Z ws)+(if (Z rs:Int)<(Z ws:Int)then 1 else 0),by split<;>omega,Z rs,i4,Z rs,ws,?_⟩
    ((repeat' refine Zi ?_ ?_)<;>first|exact Xq|exact HW|exact (.inl rfl)|exact Xs)
  ·have hF:Grown init V rs/\F6 l rs rs:=by
    have hB:B=Z rs:=by rcases b6 with h|⟨h1,h2⟩<;>omega
    obtain⟨u1,u2⟩:=hG.o;rw[hB,AS]at u2;exact⟨u1,u2⟩
   have HF:AD _:=hF;clear hF;have cg:decide ((Z rs:Int)>Bi)=false:=by simp;omega
   refine pz ?_
   first|exact⟨_,rfl,⟨i3,rs,rfl,HF.o.1,HF.o.2⟩,hK⟩|exact⟨_,rfl,i3,rs,rfl,HF.o.1,HF.o.2⟩
def J2 (rs:List Int)(a:Dv):Bool:=rs.any (Bj a.ts)
def Bc (q:AY)(rs:List Int):AY:=⟨q.h,q.A.filter fun p=>J2 rs p.a,q.B.filter (J2 rs)⟩
def Is (q:AY)(rs:List Int):AY:=⟨⟨0,[]⟩,q.A.filter fun p=>!J2 rs p.a,q.B.filter fun a=>!J2 rs a⟩
theorem T7 (q c init idi)(hc:EQ q c)(hq:Qo q)(hil:Z init<=200)(σ):AF Tryz.prog 188 [ag c,sl idi (Z init) (As init)] σ fun r σ'=>(∃c1 c2 rs,r=tp [ag c1,ag c2]/\EQ (Bc q rs) c1/\EQ (Is q rs) c2/\Grown init (Co (atomsQ q)) rs/\F6 (atomsQ q) rs rs)/\AE σ σ':=by
 have bq:=fun σ=>aE q c init idi hc hq hil σ;have b8:=N0 hq;have cg:=Jz hq;have b5:=Fz b8;obtain⟨ih,ip,inn,pc,nc,rfl,hP,hN⟩:=hc;have hpl:=EL.length E8 hP;have cc:=EL.length I9 hN;have hl:=hq.pl;have ce:=hq.nl;refine Z9 69 [.cell 4 191,.cell 5 191] Tryz.func188 ?_
 refine qb ?_;intro yd yb;refine Xi (bq _) ?_;rintro _ _ ⟨⟨idr,rs,rfl,hG,hC⟩,a6⟩;(have bb:=a6.B;have aj:=a6.C;have b7:=((((AE.refl σ).new _).new _).new _).trans a6;simp only[Aa]at bb aj);refine pz ?_
 rename_i σ1;have bp:Z rs<=100000:=by have:=hG.le;omega
 have HG:AD _:=hG;have HC:AD _:=hC;clear hG hC bq b5;have o0:σ1.C σ.B=[ic q.h.p,sl ih (Z q.h.ts) (Ad q.h.ts),sl ip (Z q.A) pc,sl inn (Z q.B) nc]:=by rw[aj _ AA,Ah AK,Ah AK,Ao]
 have o1:σ1.C (σ.B+1)=[ic 0,nilS,nilS,nilS]:=by rw[aj _ AA,Ah AK,Bg AK AK]
 have o2:σ1.C (σ.B+2)=[ic 0,nilS,nilS,nilS]:=by rw[aj _ AA,Bg AK AK]
 clear aj a6;generalize b6:σ1.B=o7 at*
 refine Ae (fun m s σ'=>∃(k i3 i4:Nat) (l1 l2:List Part) (xs ys:List AV),m=Z q.A-k/\k<=Z q.A/\s 2=ptr σ.B 0/\s 4=ptr (σ.B+1) 0/\s 5=ptr (σ.B+2) 0/\s 6=sl idr (Z rs) (As rs)/\s 7=ptr o7 0/\s 8=ptr (o7+1) 0/\s 21=sl ip (Z q.A) pc/\s 22=ic (Z q.A)/\s 23=ic k/\AE σ σ'/\o7+1<σ'.B/\σ'.C σ.B=[ic q.h.p,sl ih (Z q.h.ts) (Ad q.h.ts),sl ip (Z q.A) pc,sl inn (Z q.B) nc]/\σ'.C (σ.B+1)=[ic 0,nilS,nilS,nilS]/\σ'.C (σ.B+2)=[ic 0,nilS,nilS,nilS]/\σ'.C o7=[ic q.h.p,sl ih (Z q.h.ts) (Ad q.h.ts),sl i3 (Z l1) xs,nilS]/\σ'.C (o7+1)=[ic 0,nilS,sl i4 (Z l2) ys,nilS]/\Own σ σ' i3 (Z l1)/\Own σ σ' i4 (Z l2)/\(i3=1\/i3≠i4)/\Z l1<=k/\Z l2<=k/\Z xs=Z l1*3/\Z ys=Z l2*3/\AD (EL N7 l1 xs/\EL N7 l2 ys/\l1=(q.A.take k).filter (fun p=>J2 rs p.a)/\l2=(q.A.take k).filter fun p=>!J2 rs p.a)) (Z q.A)
  ⟨0,1,1,[],[],[],[],AA,AA,AG,AG,AG,AG,AG,AG,AG,AG,rfl,Xs,BM,?_,?_,?_,?_,?_,Own.nil _ _,Own.nil _ _,.inl rfl,by simp,by simp,by simp,by simp,⟨rfl,rfl,by simp,by simp⟩⟩ ?_
 ·rw[Aj AA,Ah BM,Aj AA,Ah AA,o0]
 ·rw[Aj AA,Ah BM,Aj AA,Ah AA,o1]
 ·rw[Aj AA,Ah BM,Aj AA,Ah AA,o2]
 ·rw[Aj AA,Ah BM,Ak];simp
 ·rw[Ak];simp
 clear o0 o1 o2 b7 b6;rintro m s σ' ⟨k,i3,i4,l1,l2,xs,ys,rfl,hk,h2,h4,h5,h6,h7,h8,cb,ca,b9,hK,bc,bz,ba,a9,a8,a7,bl,bi,a5,b2,bf,bo,bn,hX⟩;have bm:=hK.B;by_cases a3:k<Z q.A
 ·have ab:=AJ a3;obtain⟨id,idt,r,hd⟩:=F5 hP ab;have bh:=hq.pa _ (AT a3);generalize q.A[k]=w at hd ab bh;have be:Z w.a.ts<=1000:=AA;have ak:=fun σ=>Lx w.a.p id w.a.ts rs idr be bp σ;have a4:AE σ ((σ'.new [ic 0,nilS,nilS]).put σ'.B [ic w.a.p,sl id (Z w.a.ts) (Ad w.a.ts),sl idt (Z w.A) (Fo w.A)]):=(hK.new _).put hK.B _;have ap:AD ((q.A.take (k+1)).filter (fun p=>J2 rs p.a)=(q.A.take k).filter (fun p=>J2 rs p.a)++if J2 rs w.a=true then [w]else []):=by
   rw[AD,AU,ab,BJ,Ez]
  have ao:AD ((q.A.take (k+1)).filter (fun p=>!J2 rs p.a)=(q.A.take k).filter (fun p=>!J2 rs p.a)++if (!J2 rs w.a)=true then [w]else []):=by
   rw[AD,AU,ab,BJ,Ez]
  clear ab;rw[show rs.any (Bj w.a.ts)=J2 rs w.a from rfl]at ak;cases ah:J2 rs w.a with
  |true=>
   rw[ah]at ak;have HX:AD (EL N7 (l1++[w]) (xs++[ic w.a.p,sl id (Z w.a.ts) (Ad w.a.ts),sl idt (Z w.A) (Fo w.A)])/\EL N7 l2 ys/\l1++[w]=(q.A.take (k+1)).filter (fun p=>J2 rs p.a)/\l2=(q.A.take (k+1)).filter fun p=>!J2 rs p.a):=by
    obtain⟨x1,x2,x3,x4⟩:=hX.o;exact⟨EL.append x1 (EL.single ⟨id,idt,rfl⟩),x2,by rw[ap.o,if_pos ah,x3],by rw[ao.o,ah,x4];simp⟩
   clear hX ap ao
   refine qb ?_;intro yd yb;refine Xi (ak _) ?_;rintro _ _ ⟨rfl,ac⟩;(have ad:=ac.B;have aa:=ac.C;have ay:=a4.trans ac;simp only[Ab,Aa]at ad aa);refine qm ?_;intro yd yb
   refine Il (by first|exact Ge|exact En) ay (Own.keep (Own.put (Own.new bl _) _ _) ac) (by decide) (by rfl) bo (by rfl) (by rfl) (by decide) AA AA ?_;intro idn σn av az af an a0 am ae;obtain⟨aw,au⟩:=ae i4 (Z l2) (Own.keep (Own.put (Own.new bi _) _ _) ac) a5;have eob:∀p,p<σ'.B->σn.C p=σ'.C p:=fun p hp=>by rw[af,aa _ AA,Aj AA,Ah AA]
   refine Z3 ?_
   refine zz ?_
   refine⟨Z q.A-(k+1),AA,k+1,idn,i4,l1++[w],l2,xs++[ic w.a.p,sl id (Z w.a.ts) (Ad w.a.ts),sl idt (Z w.A) (Fo w.A)],ys,?_⟩
   ((repeat' refine Zi ?_ ?_)<;>first|exact Xq|exact (az.put AA _)|exact (by simpa using Own.put av _ _)|exact (Own.put aw _ _)|exact HX|exact Xs)
  |false=>
   rw[ah]at ak;have HX:AD (EL N7 l1 xs/\EL N7 (l2++[w]) (ys++[ic w.a.p,sl id (Z w.a.ts) (Ad w.a.ts),sl idt (Z w.A) (Fo w.A)])/\l1=(q.A.take (k+1)).filter (fun p=>J2 rs p.a)/\l2++[w]=(q.A.take (k+1)).filter fun p=>!J2 rs p.a):=by
    obtain⟨x1,x2,x3,x4⟩:=hX.o;exact⟨x1,EL.append x2 (EL.single ⟨id,idt,rfl⟩),by rw[ap.o,ah,x3];simp,by rw[ao.o,ah,x4];simp⟩
   clear hX ap ao
   refine qb ?_;intro yd yb;refine Xi (ak _) ?_;rintro _ _ ⟨rfl,ac⟩;(have ad:=ac.B;have aa:=ac.C;have ay:=a4.trans ac;simp only[Ab,Aa]at ad aa);refine qm ?_;intro yd yb
   refine Il (by first|exact Ge|exact En) ay (Own.keep (Own.put (Own.new bi _) _ _) ac) (by decide) (by rfl) bn (by rfl) (by rfl) (by decide) AA AA ?_;intro idn σn av az af an a0 am ae;obtain⟨ax,au⟩:=ae i3 (Z l1) (Own.keep (Own.put (Own.new bl _) _ _) ac) AA;have bd:i3=1\/i3≠idn:=AA;have eob:∀p,p<σ'.B->σn.C p=σ'.C p:=fun p hp=>by rw[af,aa _ AA,Aj AA,Ah AA]
   refine Z3 ?_
   refine pz ?_
   refine⟨Z q.A-(k+1),AA,k+1,i3,idn,l1,l2++[w],xs,ys++[ic w.a.p,sl id (Z w.a.ts) (Ad w.a.ts),sl idt (Z w.A) (Fo w.A)],?_⟩
   ((repeat' refine Zi ?_ ?_)<;>first|exact Xq|exact (az.put AA _)|exact (by simpa using Own.put av _ _)|exact (Own.put ax _ _)|exact HX|exact Xs)
 ·have b3:k=Z q.A:=AA;subst b3;obtain⟨x1,x2,x3,x4⟩:=hX.o;rw[AS]at x3 x4;have HX:AD (EL N7 (q.A.filter fun p=>J2 rs p.a) xs/\EL N7 (q.A.filter fun p=>!J2 rs p.a) ys/\Z l1=Z (q.A.filter fun p=>J2 rs p.a)/\Z l2=Z (q.A.filter fun p=>!J2 rs p.a)):=⟨by rw[<-x3];exact x1,by rw[<-x4];exact x2,by rw[x3],by rw[x4]⟩;clear x1 x2 x3 x4 hX hk;generalize Z l1=n1 at*
  generalize Z l2=n2 at*
  refine pz ?_
  refine Ae (fun m s σ'=>∃(j i5 i6:Nat) (m1 m2:List Dv) (us vs:List AV),m=Z q.B-j/\j<=Z q.B/\s 4=ptr (σ.B+1) 0/\s 5=ptr (σ.B+2) 0/\s 6=sl idr (Z rs) (As rs)/\s 7=ptr o7 0/\s 8=ptr (o7+1) 0/\s 45=sl inn (Z q.B) nc/\s 46=ic (Z q.B)/\s 47=ic j/\AE σ σ'/\o7+1<σ'.B/\σ'.C (σ.B+1)=[ic 0,nilS,nilS,nilS]/\σ'.C (σ.B+2)=[ic 0,nilS,nilS,nilS]/\σ'.C o7=[ic q.h.p,sl ih (Z q.h.ts) (Ad q.h.ts),sl i3 n1 xs,sl i5 (Z m1) us]/\σ'.C (o7+1)=[ic 0,nilS,sl i4 n2 ys,sl i6 (Z m2) vs]/\Own σ σ' i5 (Z m1)/\Own σ σ' i6 (Z m2)/\(i5=1\/i5≠i6)/\Z m1<=j/\Z m2<=j/\Z us=Z m1*2/\Z vs=Z m2*2/\AD (EL O1 m1 us/\EL O1 m2 vs/\m1=(q.B.take j).filter (J2 rs)/\m2=(q.B.take j).filter fun a=>!J2 rs a)) (Z q.B)
   ⟨0,1,1,[],[],[],[],AA,AA,AI,AI,AI,AI,AI,AI,AI,AG,hK,bc,ba,a9,by rw[a8];simp,by rw[a7];simp,Own.nil _ _,Own.nil _ _,.inl rfl,by simp,by simp,by simp,by simp,⟨rfl,rfl,by simp,by simp⟩⟩ ?_
  clear h2 h4 h5 h6 h7 h8 cb ca b9 hK bc bz ba a9 a8 a7 bl bi a5 b2 bf bo bn a3 bm;rintro m s σ' ⟨j,i5,i6,m1,m2,us,vs,rfl,hj,h4,h5,h6,h7,h8,cj,ci,ch,hK,bc,ba,a9,a8,a7,bu,br,a5,hm1,cd,b1,b0,hY⟩;have bm:=hK.B;by_cases a3:j<Z q.B
  ·have ab:=AJ a3;obtain⟨id,r,hd⟩:=Kd hN ab;have bh:=hq.na _ (AT a3);generalize q.B[j]=w at hd ab bh;have be:Z w.ts<=1000:=AA;have ak:=fun σ=>Lx w.p id w.ts rs idr be bp σ;have a4:AE σ ((σ'.new [ic 0,nilS]).put σ'.B [ic w.p,sl id (Z w.ts) (Ad w.ts)]):=(hK.new _).put hK.B _;have ap:AD ((q.B.take (j+1)).filter (J2 rs)=(q.B.take j).filter (J2 rs)++if J2 rs w=true then [w]else []):=by
    rw[AD,AU,ab,BJ,Ez]
   have ao:AD ((q.B.take (j+1)).filter (fun a=>!J2 rs a)=(q.B.take j).filter (fun a=>!J2 rs a)++if (!J2 rs w)=true then [w]else []):=by
    rw[AD,AU,ab,BJ,Ez]
   clear ab;rw[show rs.any (Bj w.ts)=J2 rs w from rfl]at ak;cases ah:J2 rs w with
   |true=>
    rw[ah]at ak;have HY:AD (EL O1 (m1++[w]) (us++[ic w.p,sl id (Z w.ts) (Ad w.ts)])/\EL O1 m2 vs/\m1++[w]=(q.B.take (j+1)).filter (J2 rs)/\m2=(q.B.take (j+1)).filter fun a=>!J2 rs a):=by
     obtain⟨x1,x2,x3,x4⟩:=hY.o;exact⟨EL.append x1 (EL.single ⟨id,rfl⟩),x2,by rw[ap.o,if_pos ah,x3],by rw[ao.o,ah,x4];simp⟩
    clear hY ap ao
    refine qb ?_;intro yd yb;refine Xi (ak _) ?_;rintro _ _ ⟨rfl,ac⟩;(have ad:=ac.B;have aa:=ac.C;have ay:=a4.trans ac;simp only[Ab,Aa]at ad aa);refine qm ?_;intro yd yb
    refine Il (by first|exact Ge|exact En) ay (Own.keep (Own.put (Own.new bu _) _ _) ac) (by decide) (by rfl) b1 (by rfl) (by rfl) (by decide) AA AA ?_;intro idn σn av az af an a0 am ae;obtain⟨aw,au⟩:=ae i6 (Z m2) (Own.keep (Own.put (Own.new br _) _ _) ac) a5;have eob:∀p,p<σ'.B->σn.C p=σ'.C p:=fun p hp=>by rw[af,aa _ AA,Aj AA,Ah AA]
    refine Z3 ?_
    refine zz ?_
    refine⟨Z q.B-(j+1),AA,j+1,idn,i6,m1++[w],m2,us++[ic w.p,sl id (Z w.ts) (Ad w.ts)],vs,?_⟩
    ((repeat' refine Zi ?_ ?_)<;>first|exact Xq|exact (az.put AA _)|exact (by simpa using Own.put av _ _)|exact (Own.put aw _ _)|exact HY|exact Xs)
   |false=>
    rw[ah]at ak;have HY:AD (EL O1 m1 us/\EL O1 (m2++[w]) (vs++[ic w.p,sl id (Z w.ts) (Ad w.ts)])/\m1=(q.B.take (j+1)).filter (J2 rs)/\m2++[w]=(q.B.take (j+1)).filter fun a=>!J2 rs a):=by
     obtain⟨x1,x2,x3,x4⟩:=hY.o;exact⟨x1,EL.append x2 (EL.single ⟨id,rfl⟩),by rw[ap.o,ah,x3];simp,by rw[ao.o,ah,x4];simp⟩
    clear hY ap ao
    refine qb ?_;intro yd yb;refine Xi (ak _) ?_;rintro _ _ ⟨rfl,ac⟩;(have ad:=ac.B;have aa:=ac.C;have ay:=a4.trans ac;simp only[Ab,Aa]at ad aa);refine qm ?_;intro yd yb
    refine Il (by first|exact Ge|exact En) ay (Own.keep (Own.put (Own.new br _) _ _) ac) (by decide) (by rfl) b0 (by rfl) (by rfl) (by decide) AA AA ?_;intro idn σn av az af an a0 am ae;obtain⟨ax,au⟩:=ae i5 (Z m1) (Own.keep (Own.put (Own.new bu _) _ _) ac) AA;have bd:i5=1\/i5≠idn:=AA;have eob:∀p,p<σ'.B->σn.C p=σ'.C p:=fun p hp=>by rw[af,aa _ AA,Aj AA,Ah AA]
    refine Z3 ?_
    refine zz ?_
    refine⟨Z q.B-(j+1),AA,j+1,i5,idn,m1,m2++[w],us,vs++[ic w.p,sl id (Z w.ts) (Ad w.ts)],?_⟩
    ((repeat' refine Zi ?_ ?_)<;>first|exact Xq|exact (az.put AA _)|exact (by simpa using Own.put av _ _)|exact (Own.put ax _ _)|exact HY|exact Xs)
  ·have b4:j=Z q.B:=AA;subst b4;obtain⟨x1,x2,x3,x4⟩:=hY.o;rw[AS]at x3 x4;have bw:=HX.o.2.2.1;have bv:=HX.o.2.2.2
   have HN:AD (EQ (Bc q rs) [ic q.h.p,sl ih (Z q.h.ts) (Ad q.h.ts),sl i3 n1 xs,sl i5 (Z m1) us]/\EQ (Is q rs) [ic 0,nilS,sl i4 n2 ys,sl i6 (Z m2) vs]):=
    ⟨⟨ih,i3,i5,xs,us,by simp only[Bc];rw[bw,x3],HX.o.1,by simp only[Bc];rw[<-x3];exact x1⟩,⟨1,i4,i6,ys,vs,by simp only[Is];rw[bv,x4];rfl,HX.o.2.1,by simp only[Is];rw[<-x4];exact x2⟩⟩
   clear x1 x2 x3 x4 hY bw bv
   refine pz ?_
   have o7b:σ.B+2<o7:=AA;refine Az (Q:=fun e s' σ''=>e= .normal/\s' 4=ptr (σ.B+1) 0/\s' 5=ptr (σ.B+2) 0/\AE σ σ''/\σ''.C (σ.B+1)=[ic q.h.p,sl ih (Z q.h.ts) (Ad q.h.ts),sl i3 n1 xs,sl i5 (Z m1) us]/\σ''.C (σ.B+2)=[ic 0,nilS,sl i4 n2 ys,sl i6 (Z m2) vs]) ?_ ?_
   ·refine Aq Ag (fun p=>p=o7\/p=o7+1) [3] [0] 3 #[true,false,false,false] AH (fun _ _ _ h=>by cases h.1) ?_;intro yd yb;refine Z3 ?_;refine⟨fun p h=>.inl (IA h).symm,yb.o _ ?_⟩;clear yb yd;have bg:∀(A:Nat->Bool) (i:Nat) (c:List AV),Kept A (fun p=>p=o7\/p=o7+1) σ' i (σ'.put (σ.B+1) c):=fun A i c _ o ho hF=>by
     have:o≠σ.B+1:=by rcases hF with h|h<;>omega
     simp[St.put,this]
    refine Eo (rs:=[1,2]) AH (by simp) ?_;intro i hi;simp only[BB,EN,DY]at hi;rcases hi with rfl|rfl
    ·refine Am ?_;intro yd yb;refine Z3 ?_;refine yb.o _ _ ⟨kept_refl,?_⟩;clear yb yd;refine Ai (i:=2) AH ?_;refine Am ?_;intro yd yb;refine Z3 ?_;refine yb.o _ _ ⟨bg _ _ _,?_⟩;clear yb yd;refine Ai (i:=3) AH ?_;refine Am ?_;intro yd yb;refine Z3 ?_;refine yb.o _ _ ⟨A5 rfl,?_⟩;clear yb yd;refine Ax AH ⟨rfl,by simp[upd,h4],by simp[upd,h5],(hK.put AA _).put AA _,?_,?_⟩
     ·rw[Aj AA,Ak]
     ·rw[Ak]
    ·refine Am ?_;intro yd yb;refine Z3 ?_;refine yb.o _ _ ⟨bg _ _ _,?_⟩;clear yb yd;refine Ai (i:=1) AH ?_;refine Am ?_;intro yd yb;refine Z3 ?_;refine yb.o _ _ ⟨bg _ _ _,?_⟩;clear yb yd;refine Ai (i:=3) AH ?_;refine Am ?_;intro yd yb;refine Z3 ?_;refine yb.o _ _ ⟨A5 rfl,?_⟩;clear yb yd;refine Ax AH ⟨rfl,by simp[upd,h4],by simp[upd,h5],(hK.put AA _).put AA _,?_,?_⟩
     ·rw[Aj AA,Ak]
     ·rw[Ak]
   ·rintro e s' σ'' ⟨rfl,g4,g5,cf,o71,o72⟩
    refine zz ?_
    exact⟨_,rfl,⟨_,_,rs,rfl,HN.o.1,HN.o.2,HG.o,HC.o⟩⟩
abbrev MM:=List (Nat×List Cc)
def Gw (M:MM):List AV:=M.map fun x=>sl x.1 (Z x.2) (Fo x.2)
def Live (σ:St)(id n:Nat):Prop:=(id=1/\n=0)\/∃k,id=k+2/\k<σ.D/\σ.top k=n/\0<n
theorem Live.keep {σ σ' id n}(h:Live σ id n)(k:AE σ σ'):Live σ' id n:=by
 rcases h with h|⟨j,h1,h2,h3,h4⟩
 ·exact .inl h
 ·exact .inr ⟨j,h1,By h2 k.D,(k.top j h2).trans h3,h4⟩
structure BL (σ:St)(om ot:Nat)(M:MM)(d b:Int):Prop where
 ob:σ.C om=[fx ot 0 (Z M),ic d,ic b]
 oc:σ.C ot=Gw M
 lo:om<σ.B
 lt:ot<σ.B
 ne:om≠ot
 live:∀x∈M,Live σ x.1 (Z x.2)
 inj:∀(i j:Nat) (x y:Nat×List Cc),M[i]?=some x->M[j]?=some y->i≠j->x.1=1\/x.1≠y.1
 t3:∀x∈M,T3 x.2
 ln:∀x∈M,Z x.2<=5000
 pl:Z M<=5000
theorem BL.keep {σ σ' om ot M d b}(h:BL σ om ot M d b)(k:AE σ σ'):BL σ' om ot M d b:=
 ⟨(k.C _ h.lo).trans h.ob,(k.C _ h.lt).trans h.oc,By h.lo k.B,By h.lt k.B,h.ne,fun x hx=>(h.live x hx).keep k,h.inj,h.t3,h.ln,h.pl⟩
theorem Jp {M}{k:Nat}{x}(h:M[k]?=some x):(Gw M)[k]?=some (sl x.1 (Z x.2) (Fo x.2)):=by simp[Gw,h]
theorem Jo (M):Z (Gw M)=Z M:=by simp[Gw]
theorem Qi (om ot M d b σ)(hM:BL σ om ot M d b):AF Tryz.prog 51 [ptr om 0] σ fun r σ'=>r=sc (.bool (decide (b<d)))/\σ'=σ:=by
 have ob:=hM.ob;have ab:decide (d>b)=decide (b<d):=rfl;refine Z9 12 [.tmp 2] Tryz.func51 ?_
 refine zz ?_
 refine Ay Ag (fun _=>True) [9] [0,1,2,3,4,5,6,7,8] [9] AH (fun _ _ _ h=>h) ?_;intro yd yb
 refine pz ?_
 first|exact⟨_,rfl,rfl⟩|exact⟨_,rfl,rfl,rfl⟩|exact⟨_,rfl⟩
def Cw (a:Dv):Cc:=C4 (a.ts.map (·.2))
theorem Jv (om ot M d b a)(id k:Nat)(x)(ha:Z a.ts<=3)(hk:a.p=(k:Int))(hx:M[k]?=some x)(σ)(hM:BL σ om ot M d b):AF Tryz.prog 81 [ptr om 0,ag [ic a.p,sl id (Z a.ts) (Ad a.ts)]] σ fun r σ'=>r=sc (.bool (decide (Cw a∈x.2)))/\AE σ σ':=by
 have an:Z a.ts<=1000:=AA;have ah:=fun σ=>T6 a.p id a.ts an σ;have aj:=BD hx;have h3:=hM.t3 x aj;have ay:=hM.ln x aj;have av:=J4 h3;have az:k<Z M:=(BG.1 hx).1;have hpl:=hM.pl;have ax:=Jo M;have a3:=Jp hx;have lo:=hM.lo;have lt:=hM.lt;have ob:=hM.ob;have oc:=hM.oc;rw[hk];rw[hk]at ah;have am:Z (C4 (a.ts.map (·.2)))=3:=rfl;have HT:AD (Cw a=C4 (a.ts.map (·.2))):=rfl;generalize Cw a=ta at*
 generalize C4 (a.ts.map (·.2))=t0 at*
 obtain⟨a0,b0,c0,rfl⟩:∃a0 b0 c0,t0=[a0,b0,c0]:=by
  match t0,am with
  |[a0,b0,c0],_=>exact⟨a0,b0,c0,rfl⟩
 simp only[As,CU,KO]at ah;refine Z9 27 [.tmp 4] Tryz.func81 ?_
 refine qb ?_;intro yd yb;refine Xi (ah _) ?_;rintro _ _ ⟨rfl,ae⟩;(have af:=ae.B;have ac:=ae.C;have ai:=((AE.refl σ).new _).trans ae;simp only[Aa]at af ac);refine pz ?_
 rename_i σ1;have ak:AE σ ((σ1.new [ic 0,ic 0,ic 0]).put σ1.B [ic a0,ic b0,ic c0]):=(ai.new _).put AA _;have e0:σ1.C σ.B=[ic (k:Int),sl id (Z a.ts) (Ad a.ts)]:=by rw[ac _ AA,Ao]
 have e1:σ1.C om=[fx ot 0 (Z M),ic d,ic b]:=by rw[ai.C _ lo,ob]
 have e2:σ1.C ot=Gw M:=by rw[ai.C _ lt,oc]
 clear ac ae;refine Ay Ag (fun _=>True) [] [0,1,2,3,4,5,6,7,8,9] [] AH (fun _ _ _ h=>h) ?_;intro yd yb
 refine pz ?_
 clear e0 e1 e2
 refine Ae (fun m s σ'=>∃i:Nat,m=Z x.2-i/\i<=Z x.2/\s 5=ptr σ1.B 0/\s 17=sl x.1 (Z x.2) (Fo x.2)/\s 18=ic (Z x.2)/\s 19=ic i/\AE σ σ'/\σ1.B<σ'.B/\σ'.C σ1.B=[ic a0,ic b0,ic c0]/\AD ([a0,b0,c0]∉x.2.take i)) (Z x.2)
  ⟨0,AA,AA,AG,AG,AG,rfl,ak,BM,by rw[Ak],by simp[AD]⟩ ?_
 clear ak;rintro m s σ' ⟨i,rfl,hi,h5,a7,a6,a5,hK,aw,ap,aa⟩;have au:=hK.B;by_cases ao:i<Z x.2
 ·have ab:=AJ ao;obtain⟨p,q,r,rr,he,hd⟩:=vI h3 ab;rw[he]at ab;clear he;have HG:AD (x.2[i]?=some [p,q,r]):=ab;clear ab;by_cases hc:p=a0/\q=b0/\r=c0
  ·obtain⟨rfl,rfl,rfl⟩:=hc;have hm:decide (ta∈x.2)=true:=by rw[HT.o];simpa using BD HG.o
   refine pz ?_
   first|exact⟨_,rfl,rfl,Xs⟩|exact⟨_,rfl,by rw[hm],Xs⟩|(refine⟨_,rfl,?_⟩;((repeat' refine Zi ?_ ?_)<;>first|exact Xq|exact (by rw[hm])|exact Xs))
  ·have a4:(p==a0&&q==b0&&r==c0)=false:=by
    cases h:(p==a0&&q==b0&&r==c0)with
    |false=>rfl
    |true=>simp at h;exact absurd ⟨h.1.1,h.1.2,h.2⟩ hc
   have HN:AD ([a0,b0,c0]∉x.2.take (i+1)):=X6 aa.o HG.o (fun e=>by simp at e;exact hc ⟨e.1,e.2.1,e.2.2⟩);clear hc aa
   refine pz ?_
   refine⟨Z x.2-(i+1),AA,i+1,?_⟩
   exact qh HN
 ·have hil:i=Z x.2:=AA;subst hil;rw[AS]at aa;have hm:decide (ta∈x.2)=false:=by rw[HT.o];simpa using aa.o
  refine pz ?_
  first|exact⟨_,rfl,rfl,hK⟩|exact⟨_,rfl,rfl⟩|exact⟨_,rfl,by rw[hm],hK⟩|exact⟨_,rfl,by rw[hm]⟩
structure KM (om ot:Nat)(M M':MM)(σ σ':St):Prop where
 B:σ.B<=σ'.B
 C:∀o,o<σ.B->o≠om->o≠ot->σ'.C o=σ.C o
 ver:∀o,o<σ.B->o≠om->o≠ot->σ'.ver o=σ.ver o
 D:σ.D<=σ'.D
 top:∀k,k<σ.D->(∀x∈M,x.1≠k+2)->σ'.top k=σ.top k
 mid:∀x∈M',(∃y∈M,y.1=x.1)\/x.1=1\/σ.D+2<=x.1
theorem KM.ofKeep {om ot M σ σ'}(h:AE σ σ'):KM om ot M M σ σ':=
 ⟨h.B,fun o ho _ _=>h.C o ho,fun o ho _ _=>h.ver o ho,h.D,fun k hk _=>h.top k hk,fun x hx=>.inl ⟨x,hx,rfl⟩⟩
theorem KM.trans {om ot M M1 M2 σ σ1 σ2}(h:KM om ot M M1 σ σ1)(g:KM om ot M1 M2 σ1 σ2):KM om ot M M2 σ σ2 where
 B:=BO h.B g.B
 C:=fun o ho h1 h2=>(g.C o (By ho h.B) h1 h2).trans (h.C o ho h1 h2)
 ver:=fun o ho h1 h2=>(g.ver o (By ho h.B) h1 h2).trans (h.ver o ho h1 h2)
 D:=BO h.D g.D
 top:=fun k hk hx=>(g.top k (By hk h.D) (fun x aa e=>by
  rcases h.mid x aa with⟨y,hy,e2⟩|e2|e2
  ·exact hx y hy (e2.trans e)
  ·omega
  ·omega)).trans (h.top k hk hx)
 mid:=fun x hx=>by
  rcases g.mid x hx with⟨y,hy,e⟩|e|e
  ·rcases h.mid y hy with⟨z,hz,e2⟩|e2|e2
   ·exact .inl ⟨z,hz,e2.trans e⟩
   ·exact .inr (.inl AA)
   ·exact .inr (.inr AA)
  ·exact .inr (.inl e)
  ·exact .inr (.inr (by have:=h.D;omega))
theorem Tj {P t z b zc σ id id2 n m m' xs ys K}(ht:O5 P t=some (z,b,zc))(hO:Live σ id n)
  (hz:0<z) (hzc:Z zc=z) (hx:Z xs=n*z) (hy:Z ys=m*z) (hf:ys.all flat=true) (hm:0<m) (hb:(n+m)*b<=140737488355328) (hl:n+m<=1099511627776)
  (h:∀id' σ',Live σ' id' (n+m)->(id'=id\/σ.D+2<=id')->id'≠1->σ'.C=σ.C->σ'.B=σ.B->σ'.ver=σ.ver->σ.D<σ'.D->(∀k,k<σ.D->k+2≠id->σ'.top k=σ.top k)->K (sl id' (n+m) (xs++ys)) σ'):Iv P t t (sl id n xs) (sl id2 m ys) (σ.lay m') K:=by
 unfold Iv iE;left;simp only[ht];rw[if_pos ⟨trivial,hz,hzc,hx,hy,hf,hm,hb,hl⟩];rcases hO with⟨rfl,rfl⟩|⟨k,rfl,h3,h4,h5⟩
 ·have aa:xs=[]:=GQ (by simpa using hx);subst aa;have:=h ((σ.lay m').D+2) ((σ.lay m').lay m) (.inr ⟨(σ.lay m').D,rfl,by simp[St.lay],by simp[St.lay],AA⟩) (.inr (by simp[St.lay])) (by simp) rfl rfl rfl (by simp[St.lay];omega) (fun k hk _=>(((AE.refl σ).lay m').lay m).top k hk);simpa using this
 ·have e1:(σ.lay m').top k=n:=by simp[St.lay];rw[if_neg AA];exact h4
  simp only;rw[if_pos ⟨e1,h5⟩]
  exact h (k+2) _ (.inr ⟨k,rfl,by simp[St.raise,St.lay];omega,by simp[St.raise],AA⟩) (.inl rfl) AA rfl rfl rfl (by simp[St.raise,St.lay]) (fun j hj ab=>by
   simp[St.raise,St.lay]
   rw[if_neg AA,if_neg AA])
theorem BL.grow {σ σ' om ot M d b k id' x t}(hM:BL σ om ot M d b)(hx:M[k]?=some x)(ht:Z t=3)(hn:Z x.2<5000)
  (hL:Live σ' id' (Z x.2+1)) (hid:id'=x.1\/σ.D+2<=id') (an:id'≠1) (eob:∀o,o<σ.B->o≠ot->σ'.C o=σ.C o) (aj:∀o,o<σ.B->o≠ot->σ'.ver o=σ.ver o) (eoc:σ'.C ot=(Gw M).set k (sl id' (Z x.2+1) (Fo x.2++As t))) (eno:σ.B<=σ'.B) (ento:σ.D<=σ'.D)
  (etop:∀j,j<σ.D->j+2≠x.1->σ'.top j=σ.top j):BL σ' om ot (M.set k (id',x.2++[t])) d b/\KM om ot M (M.set k (id',x.2++[t])) σ σ':=by
 have ae:=BD hx;have am:k<Z M:=(BG.1 hx).1;have ah:∀(i:Nat) (y:Nat×List Cc),M[i]?=some y->i≠k->Live σ' y.1 (Z y.2)/\(y.1=1\/y.1≠id'):=fun i y hy ac=>by
  have ak:=BD hy;rcases hM.live y ak with h|⟨j,e1,e2,e3,e4⟩
  ·exact⟨.inl h,.inl h.1⟩
  ·have ao:y.1≠x.1:=by
    rcases hM.inj i k y x hy hx ac with h|h
    ·omega
    ·exact h
   refine⟨.inr ⟨j,e1,By e2 ento,(etop j e2 AA).trans e3,e4⟩,.inr ?_⟩;rcases hid with h|h<;>omega
 have aa:∀(i:Nat) (y:Nat×List Cc),(M.set k (id',x.2++[t]))[i]?=some y->(i=k/\y=(id',x.2++[t]))\/(i≠k/\M[i]?=some y):=fun i y hy=>by
  rw[GK]at hy;by_cases e:k=i
  ·subst e;rw[if_pos rfl,if_pos am]at hy;exact .inl ⟨rfl,(IA hy).symm⟩
  ·rw[if_neg e]at hy;exact .inr ⟨fun h=>e h.symm,hy⟩
 have ab:∀y∈M.set k (id',x.2++[t]),y=(id',x.2++[t])\/y∈M:=fun y hy=>(OD hy).symm;have ai:∀y∈M.set k (id',x.2++[t]),∃i,(M.set k (id',x.2++[t]))[i]?=some y:=fun y hy=>CO hy;refine⟨⟨?_,?_,By hM.lo eno,By hM.lt eno,hM.ne,?_,?_,?_,?_,by simp;exact hM.pl⟩,⟨eno,fun o ho h1 h2=>eob o ho h2,fun o ho h1 h2=>aj o ho h2,ento,fun j hj h=>etop j hj (fun e=>h x ae e.symm),?_⟩⟩
 ·rw[eob om hM.lo hM.ne,hM.ob];simp
 ·rw[eoc];unfold Gw;rw[List.map_set];congr 1;simp[Fo]
 ·intro y hy;obtain⟨i,hi⟩:=ai y hy;rcases aa i y hi with⟨-,rfl⟩|⟨ac,ad⟩
  ·simpa using hL
  ·exact (ah i y ad ac).1
 ·intro i j y w hy hw ac;rcases aa i y hy with⟨rfl,rfl⟩|⟨h1,ad⟩
  ·rcases aa j w hw with⟨rfl,rfl⟩|⟨h2,af⟩
   ·exact absurd rfl ac
   ·have:=(ah j w af h2).2;simp only;by_cases e:id'=w.1
    ·rcases this with h|h
     ·omega
     ·omega
    ·exact .inr e
  ·rcases aa j w hw with⟨rfl,rfl⟩|⟨h2,af⟩
   ·exact (ah i y ad h1).2
   ·exact hM.inj i j y w ad af ac
 ·intro y hy;rcases ab y hy with rfl|hy
  ·intro u hu;rcases AW.1 hu with h|h
   ·exact hM.t3 x ae u h
   ·simp at h;subst h;exact ht
  ·exact hM.t3 y hy
 ·intro y hy;rcases ab y hy with rfl|hy
  ·simp;omega
  ·exact hM.ln y hy
 ·intro y hy;rcases ab y hy with rfl|hy
  ·rcases hid with h|h
   ·exact .inl ⟨x,ae,h.symm⟩
   ·exact .inr (.inr h)
  ·exact .inl ⟨y,hy,rfl⟩
theorem Yo (om ot M d b a)(id k:Nat)(x)(ha:Z a.ts<=3)(hk:a.p=(k:Int))(hx:M[k]?=some x)(hn:Z x.2<5000)(σ)(hM:BL σ om ot M d b):AF Tryz.prog 82 [ptr om 0,ag [ic a.p,sl id (Z a.ts) (Ad a.ts)]] σ fun r σ'=>∃id',BL σ' om ot (M.set k (id',x.2++[Cw a])) d b/\KM om ot M (M.set k (id',x.2++[Cw a])) σ σ':=by
 have au:Z a.ts<=1000:=AA;have am:=fun σ=>T6 a.p id a.ts au σ;have ak:=BD hx;have h3:=hM.t3 x ak;have hL:=hM.live x ak;have ap:=J4 h3;have ax:k<Z M:=(BG.1 hx).1;have hpl:=hM.pl;have aw:=Jo M;have ay:=Jp hx;have lo:=hM.lo;have lt:=hM.lt;have ob:=hM.ob;have oc:=hM.oc;rw[hk];rw[hk]at am;have ah:Z (C4 (a.ts.map (·.2)))=3:=rfl;have HT:AD (Cw a=C4 (a.ts.map (·.2))):=rfl;generalize Cw a=ta at*
 generalize C4 (a.ts.map (·.2))=t0 at*
 have w1:=Ir ah;have w5:=Fw t0;have w4:=Qd ah;refine Z9 23 [] Tryz.func82 ?_
 refine zz ?_
 refine Az (Q:=fun e s' σ'=>e= .normal/\∃id',BL σ' om ot (M.set k (id',x.2++[ta])) d b/\KM om ot M (M.set k (id',x.2++[ta])) σ σ') ?_ ?_
 ·refine Aq Ag (fun _=>True) [19] [0,1,2,3,4,5,6,7,8,9,10,11,12,13,14] 5 #[true,true,true,true,true,true,true,true,true,true,true,true,true,true,true,false,false,false,false,false] AH (fun _ _ _ h=>by cases h.1) ?_;intro yd yb;refine Z3 ?_;refine yb.o _ ?_;clear yb yd;refine Ai (i:=15) AH ?_;refine Am ?_;intro yd yb;refine Z3 ?_;refine AF.mono (am _) ?_;rintro _ σ5 ⟨rfl,ac⟩;refine Z3 ?_;refine yb.o _ _ ⟨Al ac,?_⟩;clear yb yd;have af:=ac.B;simp only[Aa]at af;have aa:AE σ σ5:=((AE.refl σ).new _).trans ac;have e1:σ5.C om=[fx ot 0 (Z M),ic d,ic b]:=by rw[aa.C _ lo,ob]
  have e2:σ5.C ot=Gw M:=by rw[aa.C _ lt,oc]
  refine Ai (i:=16) AH ?_;refine Am ?_;intro yd yb;refine Z3 ?_;refine yb.o _ _ ⟨Al (ac.lay 1),?_⟩;clear yb yd;refine Ai (i:=17) AH ?_;refine Am ?_;intro yd yb;refine Z3 ?_;refine Tj (by first|exact G9) (hL.keep aa) (by decide) (by rfl) ap (by rw[w1]) w5 (by decide) AA AA ?_;intro idn σn av ai aj ae ao ab an etop;have e3:σn.C ot=Gw M:=by rw[ae,e2]
  refine Z3 ?_;refine yb.o _ _ ⟨fun _ o ho _=>by rw[ab];exact ac.ver o ho,?_⟩;clear yb yd;refine Ai (i:=18) AH ?_;refine Am ?_;intro yd yb;refine Z3 ?_;refine yb.o _ _ ⟨fun _ o ho _=>by rw[ab];exact ac.ver o ho,?_⟩;clear yb yd;refine Ai (i:=19) AH ?_;refine Am ?_;intro yd yb;refine Z3 ?_;refine yb.o _ _ ⟨A5 rfl,?_⟩;clear yb yd;refine Ax AH ⟨rfl,idn,?_⟩;rw[HT.o];refine BL.grow hM hx ah hn ?_ ?_ aj ?_ ?_ ?_ ?_ ?_ ?_
  ·rcases av with h|⟨j,h1,h2,h3,h4⟩
   ·exact .inl h
   ·exact .inr ⟨j,h1,h2,h3,h4⟩
  ·have:=aa.D;rcases ai with h|h
   ·exact .inl h
   ·exact .inr AA
  ·intro o ho ad;rw[show∀(S:St) c,(S.put ot c).C o=S.C o from fun S c=>by simp[St.put,ad],ae,aa.C o ho]
  ·intro o ho ad;rw[show∀(S:St) c,(S.put ot c).ver o=S.ver o from fun S c=>by simp[St.put,ad],ab,aa.ver o ho]
  ·rw[Ak]
  ·have:=aa.B;simp only[Ab];omega
  ·have:=aa.D;simp only[Nc];omega
  ·intro j hj ad;rw[Od,etop j (By hj aa.D) ad,aa.top j hj]
 ·rintro e s' σ'' ⟨rfl,idn,h1,h2⟩
  refine zz ?_
  exact⟨_,rfl,idn,h1,h2⟩
end Go.Proofs.YtmoeoppbmhfbpabGreatDoorI
