import Derived.Test.YtmoeoppbmhfbpabGreatDoorIEngN
import Derived.Test.YtmoeoppbmhfbpabGreatDoorIAbsWp
set_option maxHeartbeats 32000000
set_option maxRecDepth 100000
set_option linter.all false
open List renaming length->Z
namespace Go.Proofs.YtmoeoppbmhfbpabGreatDoorI
open Go.Abs
def It (M:MM):List Int:=M.map fun x=>(Z x.2:Int)
theorem Ry (om ot M d b N)(hM:BL N om ot M d b):AF Tryz.prog 137 [ptr om 0] N fun r N'=>(∃id,r=sl id (Z M) (As (It M)))/\AE N N':=by
 have hpl:=hM.pl;have an:=Jo M;have lo:=hM.lo;have lt:=hM.lt;have ob:=hM.ob;have oc:=hM.oc;refine Z9 23 [.tmp 2] Tryz.func137 ?_
 refine zz ?_
 refine Ae (fun m s N'=>∃(i i3:Nat) (xs:List AV),m=Z M-i/\i<=Z M/\s 3=sl i3 i xs/\s 10=fx ot 0 (Z M)/\s 11=ic (Z M)/\s 12=ic i/\AE N N'/\Own N N' i3 i/\Z xs=i/\AD (xs=As (It (M.take i)))) (Z M)
  ⟨0,1,[],AA,AA,AG,AG,AG,rfl,Xs,Own.nil _ _,by simp,by simp[AD,It,As]⟩ ?_
 rintro m s N' ⟨i,i3,xs,rfl,hi,h3,aw,av,au,hK,hO,am,hX⟩;have ak:=hK.B;have e2:N'.C ot=Gw M:=by rw[hK.C _ lt,oc]
 by_cases ac:i<Z M
 ·have aa:=AJ ac;have ah:=Jp aa;have hb:=hM.ln _ (AT ac);generalize M[i]=x at aa ah hb;have HX:AD (xs++[ic (Z x.2:Int)]=As (It (M.take (i+1)))):=by
   rw[AD,AU,aa,hX.o];simp[It,As]
  clear aa hX;have af:Z xs=i*1:=AA
  repeat' first|refine Z1 ?_|refine Z8 fun yd yb=>?_|refine Z4 ?_;clear yb yd|refine Z2 ?_ ?_<;>intro h ab<;>try exact Xp|refine Z6 ?_;intro idn Nn ao ap aj ae ai ad|refine Z3 ?_|exact Zt|apply yb.o;clear yb yd
  refine⟨Z M-(i+1),AA,i+1,idn,xs++[ic (Z x.2:Int)],?_⟩
  ((repeat' refine Zi ?_ ?_)<;>first|exact Xq|exact HX|exact Xs)
 ·have hil:i=Z M:=AA;subst hil;have hX:=hX.o;rw[AS]at hX
  repeat' first|refine Z1 ?_|refine Z8 fun yd yb=>?_|refine Z4 ?_;clear yb yd|refine Z2 ?_ ?_<;>intro h ab<;>try exact Xp|refine Z3 ?_|exact Zt|apply yb.o;clear yb yd
  first|exact⟨_,rfl,⟨i3,by rw[hX]⟩,hK⟩|exact⟨_,rfl,i3,by rw[hX]⟩|exact⟨_,rfl,⟨i3,rfl⟩⟩
structure Lit where
 neg:Bool
 a:Dv
structure Eu where
 h:Dv
 A:List Lit
def Sb (l:Lit)(c:List AV):Prop:=∃id,c=[sc (.bool l.neg),ic l.a.p,sl id (Z l.a.ts) (Ad l.a.ts)]
theorem Hj (a c)(h:Sb a c):Z c=3:=by obtain⟨id,rfl⟩:=h;rfl
theorem H8 {l cs i p}(h:EL Sb l cs)(hi:l[i]?=some p):∃id r,cs.drop (i*3)=sc (.bool p.neg)::ic p.a.p::sl id (Z p.a.ts) (Ad p.a.ts)::r:=by
 obtain⟨c,r,⟨id,rfl⟩,e⟩:=EL.get Hj h hi;exact⟨id,r,e⟩
def pL (r:Eu)(c:List AV):Prop:=∃o ih ib bc,c=[sc (.bool o),ic r.h.p,sl ih (Z r.h.ts) (Ad r.h.ts),sl ib (Z r.A) bc]/\EL Sb r.A bc
def Be (M:MM)(p:Int):List Cc:=((M[p.toNat]?).map (·.2)).getD []
def Y7 (M:MM)(nw:Int)(fr:Nat)(i:Nat)(l:Lit):List Cc:=if (i:Int)=nw then (Be M l.a.p).drop fr else Be M l.a.p
def oO (M:MM)(nw:Int)(fr:Nat)(x:Lit×Nat):Part:=⟨x.1.a,(Y7 M nw fr x.2 x.1).filter (Mk x.1.a.ts)⟩
def O7 (M:MM)(nw:Int)(fr:Nat)(l:List Lit):List Part:=(l.zipIdx.filter fun x=>!x.1.neg).map (oO M nw fr)
def Tg (l:List Lit):List Dv:=(l.filter (·.neg)).map (·.a)
def L6 (M:MM)(nw:Int)(fr:Nat)(r:Eu):AY:=⟨r.h,O7 M nw fr r.A,Tg r.A⟩
structure US (np:Nat)(r:Eu):Prop where
 hd:Z r.h.ts<=3
 hp:∃k:Nat,r.h.p=(k:Int)/\k<np
 bl:Z r.A<=64
 ba:∀l∈r.A,Z l.a.ts<=3
 bp:∀l∈r.A,∃k:Nat,l.a.p=(k:Int)/\k<np
theorem mr (M nw fr l w):O7 M nw fr (l++[w])=O7 M nw fr l++if w.neg=true then []else [oO M nw fr (w,Z l)]:=by
 unfold O7;rw[List.zipIdx_append,IZ,FO];congr 1;cases h:w.neg<;>simp[h]
theorem lr (l w):Tg (l++[w])=Tg l++if w.neg=true then [w.a]else []:=by
 unfold Tg;rw[IZ,FO];congr 1;cases h:w.neg<;>simp[h]
theorem Ys {α:Type}(l:List α)(fr k){x}(hx:l[k]?=some x):(l.take (k+1)).drop fr=(l.take k).drop fr++if fr<=k then [x]else []:=by
 have hk:=(BG.1 hx).1;rw[AU,hx,BJ,List.drop_append,CV,EZ AA];congr 1;by_cases h:fr<=k
 ·rw[if_pos h,show fr-k=0 by omega];rfl
 ·rw[if_neg h,NW (by simp;omega)]
def Y8 (i:Nat)(nw:Int)(fr:Nat)(ts:List Tm)(l:List Cc)(j:Nat):List Cc:=(if (i:Int)=nw then (l.take j).drop fr else l.take j).filter (Mk ts)
theorem jj {i nw fr ts l j t}(aa:l[j]?=some t):Y8 i nw fr ts l (j+1)=Y8 i nw fr ts l j++if (((i:Int)≠nw\/fr<=j)/\Mk ts t=true)then [t]else []:=by
 unfold Y8;by_cases e:(i:Int)=nw
 ·rw[if_pos e,if_pos e,Ys _ _ _ aa,IZ];congr 1;by_cases h1:fr<=j
  ·cases h2:Mk ts t<;>simp[h1,h2]
  ·simp[h1,e]
 ·rw[if_neg e,if_neg e,AU,aa,BJ,Ez];congr 1;cases h2:Mk ts t<;>simp[e]
theorem eD (om ot M d b r c nw)(fr:Nat)(hc:pL r c)(hr:US (Z M) r)(co:fr<=100000)(N)(hM:BL N om ot M d b):AF Tryz.prog 138 [ptr om 0,ag c,ic nw,ic fr] N fun x N'=>(∃c',x=ag c'/\EQ (L6 M nw fr r) c')/\AE N N':=by
 obtain⟨o,ih,ib,bc,rfl,hB⟩:=hc;have cp:=EL.length Hj hB;have hl:=hr.bl;have hpl:=hM.pl;have ch:=Jo M;have lo:=hM.lo;have lt:=hM.lt;have obm:=hM.ob;have ocm:=hM.oc;refine Z9 82 [.cell 8 191] Tryz.func138 ?_
 refine zz ?_
 refine Ae (fun m s N'=>∃(i i3 i5:Nat) (l1:List Part) (l2:List Dv) (xs ys:List AV),m=Z r.A-i/\i<=Z r.A/\s 0=ptr om 0/\s 2=ic nw/\s 3=ic fr/\s 8=ptr (N.B+1) 0/\s 9=ptr (N.B+2) 0/\s 19=sl ib (Z r.A) bc/\s 20=ic (Z r.A)/\s 21=ic i/\AE N N'/\N.B+2<N'.B/\N'.C (N.B+1)=[ic 0,nilS,nilS,nilS]/\N'.C (N.B+2)=[ic r.h.p,sl ih (Z r.h.ts) (Ad r.h.ts),sl i3 (Z l1) xs,sl i5 (Z l2) ys]/\Own N N' i3 (Z l1)/\Own N N' i5 (Z l2)/\(i3=1\/i3≠i5)/\Z l1<=i/\Z l2<=i/\Z xs=Z l1*3/\Z ys=Z l2*2/\AD (EL N7 l1 xs/\EL O1 l2 ys/\l1=O7 M nw fr (r.A.take i)/\l2=Tg (r.A.take i))) (Z r.A)
  ⟨0,1,1,[],[],[],[],AA,AA,by simp[upd,AM],by simp[upd,AM],by simp[upd,AM],AG,AG,AG,AG,rfl,Xs,BM,?_,?_,Own.nil _ _,Own.nil _ _,.inl rfl,by simp,by simp,by simp,by simp,⟨rfl,rfl,by simp[O7],by simp[Tg]⟩⟩ ?_
 ·rw[Aj AA,Ah AK,Bg AK AK]
 ·rw[show N.B+2=N.B+1+1 from rfl,Ak];simp
 rintro m s N' ⟨i,i3,i5,l1,l2,xs,ys,rfl,hi,h0,h2,h3,h8,h9,b0,bz,bw,hK,cg,a8,a7,ak,an,b9,cm,ck,b6,b5,hX⟩;have ce:=hK.B;have em:N'.C om=[fx ot 0 (Z M),ic d,ic b]:=by rw[hK.C _ lo,obm]
 have et:N'.C ot=Gw M:=by rw[hK.C _ lt,ocm]
 by_cases bh:i<Z r.A
 ·have ab:=AJ bh;obtain⟨id,rr,hd⟩:=H8 hB ab;have bq:=hr.ba _ (AT bh);obtain⟨k,hk,ca⟩:=hr.bp _ (AT bh);generalize r.A[i]=w at hd ab bq hk;have HA:AD (O7 M nw fr (r.A.take (i+1))=O7 M nw fr (r.A.take i)++(if w.neg=true then []else [oO M nw fr (w,i)])/\Tg (r.A.take (i+1))=Tg (r.A.take i)++if w.neg=true then [w.a]else []):=by
   rw[AD,AU,ab,BJ,mr,lr,CV,EZ AA];exact⟨rfl,rfl⟩
  clear ab;cases ad:w.neg with
  |true=>
   rw[ad]at hd;have HX:AD (EL N7 l1 xs/\EL O1 (l2++[w.a]) (ys++[ic w.a.p,sl id (Z w.a.ts) (Ad w.a.ts)])/\l1=O7 M nw fr (r.A.take (i+1))/\l2++[w.a]=Tg (r.A.take (i+1))):=by
    obtain⟨x1,x2,x3,x4⟩:=hX.o;exact⟨x1,EL.append x2 (EL.single ⟨id,rfl⟩),by rw[HA.o.1,if_pos ad,FA,x3],by rw[HA.o.2,if_pos ad,x4]⟩
   clear hX HA
   repeat' first|refine Z1 ?_|refine Z8 fun yd yb=>?_|refine Z4 ?_;clear yb yd|refine Z2 ?_ ?_<;>intro h ae<;>try exact Xp|refine Z3 ?_|exact Zt
   refine Il (by first|exact Ge|exact G9|exact En) ((hK.new _).put hK.B _) (Own.put (Own.new an _) _ _) (by decide) (by rfl) b5 (by rfl) (by rfl) (by decide) AA AA ?_;intro idn Nn ax a3 am ai a4 ao ac;obtain⟨aw,b8⟩:=ac i3 (Z l1) (Own.put (Own.new ak _) _ _) AA;have bd:i3=1\/i3≠idn:=AA;simp only[Ab,Aa]at ai;have eob:∀p,p<N'.B->Nn.C p=N'.C p:=fun p hp=>by rw[am,Aj AA,Ah AA]
   refine Z3 ?_
   refine zz ?_
   refine⟨Z r.A-(i+1),AA,i+1,i3,idn,l1,l2++[w.a],xs,ys++[ic w.a.p,sl id (Z w.a.ts) (Ad w.a.ts)],?_⟩
   ((repeat' refine Zi ?_ ?_)<;>first|exact Xq|exact (a3.put AA _)|exact (by simpa using Own.put ax _ _)|exact (Own.put aw _ _)|exact HX|exact Xs)
  |false=>
   rw[ad]at hd;have aj:M[k]?=some M[k]:=AJ ca;generalize M[k]=x at aj;have bn:=BD aj;have cn:=Jp aj;have bv:=hM.t3 x bn;have ci:=hM.ln x bn;have cf:=J4 bv;have HT:AD (Be M w.a.p=x.2):=by rw[AD,Be,hk];simp[aj]
   rw[hk]at hd;have br:AD _:=hX
   repeat' first|refine Z1 ?_|refine Z8 fun yd yb=>?_|refine Z4 ?_;clear yb yd|refine Z2 ?_ ?_<;>intro h ae<;>try exact Xp|refine Z3 ?_|exact Zt|apply yb.o;clear yb yd
   refine Ay Ag (fun _=>True) [] [0,1,2,3,4,5,6,7,8,9,10] [] AH (fun _ _ _ h=>h) ?_;intro yd yb
   refine zz ?_
   refine Ae (fun m s N2=>∃(j i6:Nat) (l3:List Cc) (zs:List AV),m=Z x.2-j/\j<=Z x.2/\s 0=ptr om 0/\s 2=ic nw/\s 3=ic fr/\s 8=ptr (N.B+1) 0/\s 9=ptr (N.B+2) 0/\s 10=ic i/\s 11=ptr N'.B 0/\s 12=ptr (N'.B+1) 0/\s 19=sl ib (Z r.A) bc/\s 20=ic (Z r.A)/\s 21=ic i/\s 46=sl x.1 (Z x.2) (Fo x.2)/\s 47=ic (Z x.2)/\s 48=ic j/\AE N N2/\N'.B+1<N2.B/\N2.C (N.B+1)=[ic 0,nilS,nilS,nilS]/\N2.C (N.B+2)=[ic r.h.p,sl ih (Z r.h.ts) (Ad r.h.ts),sl i3 (Z l1) xs,sl i5 (Z l2) ys]/\N2.C N'.B=[sc (.bool false),ic (k:Int),sl id (Z w.a.ts) (Ad w.a.ts)]/\N2.C (N'.B+1)=[ic (k:Int),sl id (Z w.a.ts) (Ad w.a.ts),sl i6 (Z l3) zs]/\Own N N2 i3 (Z l1)/\Own N N2 i5 (Z l2)/\Own N N2 i6 (Z l3)/\(i6=1\/i6≠i3)/\(i6=1\/i6≠i5)/\Z l3<=j/\Z zs=Z l3*3/\AD (zs=Fo l3/\l3=Y8 i nw fr w.a.ts x.2 j)) (Z x.2)
    ⟨0,1,[],[],AA,AA,AI,AI,AI,AI,AI,AI,AI,AI,AI,AI,AI,AI,AI,AG,Xs,BM,?_,?_,?_,?_,Own.put (Own.new (Own.put (Own.new ak _) _ _) _) _ _,Own.put (Own.new (Own.put (Own.new an _) _ _) _) _ _,Own.nil _ _,.inl rfl,.inl rfl,by simp,by simp,⟨rfl,by simp[Y8]⟩⟩ ?_
   ·rw[Aj AA,Ah BM,Aj AA,Ah AA,a8]
   ·rw[Aj AA,Ah BM,Aj AA,Ah AA,a7]
   ·rw[Aj AA,Ah BM,Ak]
   ·rw[Ak];simp
   generalize bm:N'.B=o11 at*
   clear bm h0 h2 h3 h8 h9 b0 bz bw hK a8 a7 ak an em et hX;rintro m s N2 ⟨j,i6,l3,zs,rfl,hj,h0,h2,h3,h8,h9,cw,cv,cu,b0,bz,bw,ct,cr,cq,hK,b7,a8,a7,b2,b1,ak,an,bi,bf,be,cj,b4,hZ⟩;have b3:=hK.B;by_cases bg:j<Z x.2
   ·have ab:=AJ bg;obtain⟨au,r2,cc⟩:=Ks bv ab;generalize x.2[j]=t at cc ab au;have HD:AD (Y8 i nw fr w.a.ts x.2 (j+1)=Y8 i nw fr w.a.ts x.2 j++if (((i:Int)≠nw\/fr<=j)/\Mk w.a.ts t=true)then [t]else []):=jj ab;clear ab;have f1:=Ir au;have f2:=On au;have f3:=Js au;have f4:=Qd au;have f5:=Fw t;have f6:=dS au;have a6:=fun N=>sR k id w.a.ts t au bq N;by_cases aa:(i:Int)≠nw\/fr<=j
    ·cases hf:Mk w.a.ts t with
     |true=>
      rw[hf]at a6;have HZ:AD (zs++As t=Fo (l3++[t])/\l3++[t]=Y8 i nw fr w.a.ts x.2 (j+1)):=by
       obtain⟨x1,x2⟩:=hZ.o;exact⟨by rw[x1,Qz],by rw[HD.o,if_pos ⟨aa,hf⟩,x2]⟩
      clear hZ HD;have hs:((i:Int) !=nw)=true\/(((i:Int) !=nw)=false/\decide ((j:Int)>=(fr:Int))=true):=by
       by_cases e:(i:Int)=nw
       ·right;have:fr<=j:=by rcases aa with h|h;exact absurd e h;exact h
        exact⟨by simp[e],by simp;omega⟩
       ·left;simpa using e
      clear aa;rcases hs with a5|⟨a5,bo⟩
      all_goals
       repeat' first|refine Z1 ?_|refine Z8 fun yd yb=>?_|refine Z4 ?_;clear yb yd|refine Z2 ?_ ?_<;>intro h ae<;>try exact Xp|refine Z5 ?_;refine Xi (a6 _) ?_;rintro _ _ ⟨rfl,af⟩;(have ap:=af.B;have ah:=af.C;have bu:=((hK.new _).put hK.B _).trans af;have a0:=Own.keep (Own.put (Own.new ak _) _ _) af;have az:=Own.keep (Own.put (Own.new an _) _ _) af;have ay:=Own.keep (Own.put (Own.new bi _) _ _) af;simp only[Ab,Aa]at ap ah;have a9:=ah N2.B AA;rw[Ak]at a9)|refine Z3 ?_|exact Zt
       refine Il (by first|exact Ge|exact G9|exact En) bu ay (by decide) (by rfl) b4 (by rw[f1]) f5 (by decide) AA AA ?_;intro idn Nn ax a3 am ai a4 ao ac;obtain⟨aw,bd⟩:=ac i3 (Z l1) a0 bf;obtain⟨av,bb⟩:=ac i5 (Z l2) az be;have eob:∀p,p<N2.B->Nn.C p=N2.C p:=fun p hp=>by rw[am,ah _ AA,Aj AA,Ah AA]
       refine Z3 ?_
       refine zz ?_
       refine⟨Z x.2-(j+1),AA,j+1,idn,l3++[t],zs++As t,?_⟩
       ((repeat' refine Zi ?_ ?_)<;>first|exact Xq|exact (a3.put AA _)|exact (by simpa using Own.put ax _ _)|exact (Own.put aw _ _)|exact (Own.put av _ _)|exact HZ|exact Xs)
     |false=>
      rw[hf]at a6;have HZ:AD (zs=Fo l3/\l3=Y8 i nw fr w.a.ts x.2 (j+1)):=by
       obtain⟨x1,x2⟩:=hZ.o;exact⟨x1,by rw[HD.o,if_neg (fun h=>by rw[hf]at h;cases h.2),x2,FA]⟩
      clear hZ HD;have hs:((i:Int) !=nw)=true\/(((i:Int) !=nw)=false/\decide ((j:Int)>=(fr:Int))=true):=by
       by_cases e:(i:Int)=nw
       ·right;have:fr<=j:=by rcases aa with h|h;exact absurd e h;exact h
        exact⟨by simp[e],by simp;omega⟩
       ·left;simpa using e
      clear aa;rcases hs with a5|⟨a5,bo⟩
      all_goals
       repeat' first|refine Z1 ?_|refine Z8 fun yd yb=>?_|refine Z4 ?_;clear yb yd|refine Z2 ?_ ?_<;>intro h ae<;>try exact Xp|refine Z5 ?_;refine Xi (a6 _) ?_;rintro _ _ ⟨rfl,af⟩;(have ap:=af.B;have ah:=af.C;have bu:=((hK.new _).put hK.B _).trans af;have a0:=Own.keep (Own.put (Own.new ak _) _ _) af;have az:=Own.keep (Own.put (Own.new an _) _ _) af;have ay:=Own.keep (Own.put (Own.new bi _) _ _) af;simp only[Ab,Aa]at ap ah)|refine Z3 ?_|exact Zt|apply yb.o;clear yb yd
       refine⟨Z x.2-(j+1),AA,j+1,i6,l3,zs,?_⟩
       ((repeat' refine Zi ?_ ?_)<;>first|exact Xq|exact HZ|exact Xs)
    ·have HZ:AD (zs=Fo l3/\l3=Y8 i nw fr w.a.ts x.2 (j+1)):=by
      obtain⟨x1,x2⟩:=hZ.o;exact⟨x1,by rw[HD.o,if_neg (fun h=>aa h.1),x2,FA]⟩
     have a5:((i:Int) !=nw)=false:=by
      cases h:(i:Int) !=nw with
      |false=>rfl
      |true=>exact absurd (.inl (by simpa using h)) aa
     have bo:decide ((j:Int)>=(fr:Int))=false:=by
      have:¬fr<=j:=fun h=>aa (.inr h);simp;omega
     clear hZ HD aa
     repeat' first|refine Z1 ?_|refine Z8 fun yd yb=>?_|refine Z4 ?_;clear yb yd|refine Z2 ?_ ?_<;>intro h ae<;>try exact Xp|refine Z3 ?_|exact Zt|apply yb.o;clear yb yd
     refine⟨Z x.2-(j+1),AA,j+1,i6,l3,zs,?_⟩
     ((repeat' refine Zi ?_ ?_)<;>first|exact Xq|exact (Own.put (Own.new ak _) _ _)|exact (Own.put (Own.new an _) _ _)|exact (Own.put (Own.new bi _) _ _)|exact HZ|exact Xs)
   ·have cb:j=Z x.2:=AA;subst cb;have HX:AD (EL N7 (l1++[⟨w.a,l3⟩]) (xs++[ic (k:Int),sl id (Z w.a.ts) (Ad w.a.ts),sl i6 (Z l3) zs])/\EL O1 l2 ys/\l1++[⟨w.a,l3⟩]=O7 M nw fr (r.A.take (i+1))/\l2=Tg (r.A.take (i+1))):=by
     obtain⟨x1,x2,x3,x4⟩:=br.o;obtain⟨z1,z2⟩:=hZ.o;refine⟨EL.append x1 (EL.single ⟨id,i6,by rw[hk,z1]⟩),x2,?_,by rw[HA.o.2,if_neg (by rw[ad];simp),FA,x4]⟩;rw[HA.o.1,if_neg (by rw[ad];simp),x3];congr 2;unfold oO Y7;simp only[HT.o];rw[z2];unfold Y8;rw[AS]
    clear hZ br HA;have cd:True->Own N N2 i3 (Z l1):=fun _=>ak;clear ak
    repeat' first|refine Z1 ?_|refine Z8 fun yd yb=>?_|refine Z4 ?_;clear yb yd|refine Z2 ?_ ?_<;>intro h ae<;>try exact Xp|refine Z3 ?_|exact Zt
    refine Il (by first|exact Ge|exact G9|exact En) hK (cd trivial) (by decide) (by rfl) b6 (by rfl) (by rfl) (by decide) AA AA ?_;intro idn Nn ax a3 am ai a4 ao ac;obtain⟨av,bb⟩:=ac i5 (Z l2) an b9;refine Z3 ?_
    refine zz ?_
    refine⟨Z r.A-(i+1),AA,i+1,idn,i5,l1++[⟨w.a,l3⟩],l2,xs++[ic (k:Int),sl id (Z w.a.ts) (Ad w.a.ts),sl i6 (Z l3) zs],ys,?_⟩
    ((repeat' refine Zi ?_ ?_)<;>first|exact Xq|exact (a3.put AA _)|exact (by simpa using Own.put ax _ _)|exact (Own.put av _ _)|exact HX|exact Xs)
 ·have hil:i=Z r.A:=AA;subst hil;obtain⟨x1,x2,x3,x4⟩:=hX.o;rw[AS]at x3 x4
  repeat' first|refine Z1 ?_|refine Z8 fun yd yb=>?_|refine Z4 ?_;clear yb yd|refine Z2 ?_ ?_<;>intro h ae<;>try exact Xp|refine Z3 ?_|exact Zt|apply yb.o;clear yb yd
  exact⟨_,rfl,⟨_,rfl,ih,i3,i5,xs,ys,by first|(simp only[L6];done)|(simp only[L6];rw[x3,x4]),by simp only[L6];rw[<-x3];exact x1,by simp only[L6];rw[<-x4];exact x2⟩,hK.put AA _⟩
abbrev Nu:=Int->Int
def Gd (ν:Nu)(t:Tm):Int:=if t.1=true then ν t.2 else t.2
def Bz (a:Dv)(ν:Nu):Cc:=C4 (a.ts.map (Gd ν))
def O4 (ν:Nu)(v n:Int):Nu:=fun w=>if w=v then n else ν w
theorem AL {ts v}:Bj ts v=true↔(true,v)∈ts:=by simp[Bj]
theorem F0 {a ν ν'}(h:∀v,Bj a.ts v=true->ν v=ν' v):Bz a ν=Bz a ν':=by
 unfold Bz;congr 1;apply CK;intro t ht;unfold Gd;split
 ·rename_i h1;exact h t.2 (AL.2 (by obtain⟨x,y⟩:=t;simp at h1;subst h1;exact ht))
 ·rfl
theorem Kp {l i}(h:i<Z l)(h3:Z l<=3):(C4 l)[i]?=some l[i]:=by
 match l,h3 with
 |[],_=>simp at h
 |[a],_=>simp at h;subst h;rfl
 |[a,b],_=>
  rcases (show i=0\/i=1 by simp at h;omega)with rfl|rfl<;>rfl
 |[a,b,c],_=>
  rcases (show i=0\/i=1\/i=2 by simp at h;omega)with rfl|rfl|rfl<;>rfl
theorem J5 {a ν v}(h3:Z a.ts<=3)(hv:Bj a.ts v=true):I4 (Bz a ν) (Ju a.ts v)=ν v:=by
 have hm:=AL.1 hv;have hi:=List.idxOf_lt_length_iff.2 hm;unfold I4 Ju;rw[if_pos hm,DU,Bz,Kp (by simpa using hi) (by simpa using h3)];simp[Gd]
theorem Lh (a v n ν):Bz (Gp v n a) ν=Bz a (O4 ν v n):=by
 unfold Bz Gp Br;congr 1;rw[BS];apply CK;intro t ht;obtain⟨b,w⟩:=t;show Gd ν (Zx v n (b,w))=Gd (O4 ν v n) (b,w);by_cases h:(b,w)=(true,v)
 ·cases h;simp[Zx,Gd,O4]
 ·rw[show Zx v n (b,w)=(b,w)from if_neg h];cases b with
  |false=>simp[Gd]
  |true=>
   have:w≠v:=fun e=>h (by rw[e]);simp[Gd,O4,this]
theorem CS {a v n w}:Bj (Gp v n a).ts w=true↔Bj a.ts w=true/\w≠v:=by
 rw[AL,AL];unfold Gp Br;rw[AO];constructor
 ·rintro⟨t,ht,e⟩;unfold Zx at e;split at e
  ·cases e
  ·rename_i aa;subst e;exact⟨ht,fun e=>aa (by rw[e])⟩
 ·rintro⟨h,aa⟩;refine⟨(true,w),h,?_⟩;unfold Zx;rw[if_neg (fun e=>aa (by cases e;rfl))]
def Mn (neg:Int->Cc->Prop)(q:AY)(ν:Nu):Prop:=(∀p∈q.A,Bz p.a ν∈p.A)/\∀a∈q.B,¬neg a.p (Bz a ν)
def WP (q:AY):Prop:=∀p∈q.A,Z p.a.ts<=3/\∀t∈p.A,∃μ,t=Bz p.a μ
theorem Uv {neg q v n ν}(hW:WP q):Mn neg (Di v n q) ν↔Mn neg q (O4 ν v n):=by
 have hp:∀p∈q.A,(Bz (I6 v n p).a ν∈(I6 v n p).A↔Bz p.a (O4 ν v n)∈p.A):=fun p hp=>by
  unfold I6;by_cases hv:Bj p.a.ts v=true
  ·rw[if_pos hv];show Bz (Gp v n p.a) ν∈_↔_;rw[Lh,BV];constructor
   ·exact fun h=>h.1
   ·intro h;refine⟨h,?_⟩;rw[J5 (hW p hp).1 hv];simp[O4]
  ·rw[if_neg hv]
   rw[F0 (ν:=ν) (ν':=O4 ν v n) (fun w hw=>by
    unfold O4;rw[if_neg];rintro rfl
    exact hv hw)]
 unfold Mn Di;simp only[AO,forall_exists_index,and_imp,forall_apply_eq_imp_iff₂];constructor
 ·rintro⟨h1,h2⟩;exact⟨fun p aa=>(hp p aa).1 (h1 p aa),fun a ha=>by have:=h2 a ha;rwa[Lh]at this⟩
 ·rintro⟨h1,h2⟩;exact⟨fun p aa=>(hp p aa).2 (h1 p aa),fun a ha=>by rw[Lh];exact h2 a ha⟩
theorem ZD {q v n}(hW:WP q):WP (Di v n q):=by
 intro p hp;obtain⟨p0,h0,rfl⟩:=AO.1 hp;obtain⟨h1,h2⟩:=hW p0 h0;unfold I6;by_cases hv:Bj p0.a.ts v=true
 ·rw[if_pos hv];refine⟨by simp[Br];exact h1,fun t ht=>?_⟩;obtain⟨ht,he⟩:=BV.1 ht;obtain⟨μ,rfl⟩:=h2 t ht;refine⟨μ,?_⟩;show _=Bz (Gp v n p0.a) μ;rw[Lh];apply F0;intro w hw;unfold O4;by_cases e:w=v
  ·subst e;rw[if_pos rfl];rw[J5 h1 hv]at he;simpa using he
  ·rw[if_neg e]
 ·rw[if_neg hv];exact⟨h1,h2⟩
theorem YP {neg q v ν}(hW:WP q):Mn neg (Gn q v) ν↔Mn neg q ν:=by
 unfold Mn Gn;simp only[AO,forall_exists_index,and_imp,forall_apply_eq_imp_iff₂];constructor
 ·rintro⟨h1,h2⟩;exact⟨fun p hp=>by have:=h1 p hp;rw[S0]at this;exact Rc _ _ _ _ this,h2⟩
 ·rintro⟨h1,h2⟩;refine⟨fun p hp=>?_,h2⟩;rw[S0];unfold G8;by_cases hv:Bj p.a.ts v=true
  ·rw[if_pos hv,BV];refine⟨h1 p hp,?_⟩;rw[J5 (hW p hp).1 hv];unfold El;rw[EK];intro p' ab;by_cases aa:Bj p'.a.ts v=true
   ·simp only[aa,JA,MP,NU,CW];exact⟨_,h1 p' ab,by rw[J5 (hW p' ab).1 aa];simp⟩
   ·simp[aa]
  ·rw[if_neg hv];exact h1 p hp
theorem oq {q v}(hW:WP q):WP (Gn q v):=by
 intro p hp;obtain⟨p0,h0,rfl⟩:=AO.1 hp;rw[S0];exact⟨(hW p0 h0).1,fun t ht=>(hW p0 h0).2 t (Rc _ _ _ t ht)⟩
theorem CF.wp {q q'}(h:CF q q')(hW:WP q):WP q':=by
 induction h with
 |refl=>exact hW
 |tail v _ ih=>exact oq ih
theorem CF.sol {neg q q'}(h:CF q q')(hW:WP q)(ν):Mn neg q' ν↔Mn neg q ν:=by
 induction h with
 |refl=>exact Iff.rfl
 |tail v h ih=>exact (YP (h.wp hW)).trans ih
theorem mV (q v):(Gn q v).A.map (·.a)=q.A.map (·.a):=by
 unfold Gn;simp only[BS];apply CK;intro p _;exact S0 _ _ _
theorem CF.atoms {q q'}(h:CF q q'):q'.A.map (·.a)=q.A.map (·.a)/\q'.h=q.h/\q'.B=q.B:=by
 induction h with
 |refl=>exact⟨rfl,rfl,rfl⟩
 |tail v _ ih=>exact⟨(mV _ _).trans ih.1,ih.2.1,ih.2.2⟩
theorem CF.atomsQ {q q'}(h:CF q q'):atomsQ q'=atomsQ q:=by
 obtain⟨h1,h2,h3⟩:=h.atoms;unfold Go.Proofs.YtmoeoppbmhfbpabGreatDoorI.atomsQ;rw[h1,h2,h3]
def NQ (q:AY):Prop:=∀v,∀p1∈q.A,∀p2∈q.A,Bj p1.a.ts v=true->Bj p2.a.ts v=true->∀t∈p1.A,∃u∈p2.A,I4 u (Ju p2.a.ts v)=I4 t (Ju p1.a.ts v)
theorem Ws (p l):C5 (p::l)=Z p.A+C5 l:=by simp[C5]
theorem T1 (L v):∀l:List Part,C5 (l.map (G8 L v))<=C5 l/\(C5 l<=C5 (l.map (G8 L v))->l.map (G8 L v)=l)
 |[]=>by simp[C5]
 |p::l=>by
  obtain⟨h1,h2⟩:=T1 L v l;have h3:=mU L v p;rw[CU,Ws,Ws];refine⟨AA,fun h=>?_⟩;rw[h2 AA];congr 1;have h4:Z p.A<=Z (G8 L v p).A:=AA;unfold G8 at h4⊢;split
  ·rename_i hv;rw[if_pos hv]at h4;simp only at h4
   have:=List.filter_eq_self.2 (fun a ha=>by
    have:=List.length_filter_eq_length_iff.1 (Nat.le_antisymm (KE _ _) h4)
    exact this a ha)
   rw[this]
  ·rfl
theorem xV (q v):C5 (Sr q v).A<=C5 q.A/\(C5 q.A<=C5 (Sr q v).A->Sr q v=q):=by
 unfold Sr;split
 ·obtain⟨h1,h2⟩:=T1 q.A v q.A;refine⟨h1,fun h=>?_⟩;unfold Gn;rw[h2 h]
 ·exact⟨AR _,fun _=>rfl⟩
theorem lG:∀(vs:List Int) (q:AY),C5 (pJ q vs).A<=C5 q.A/\(C5 q.A<=C5 (pJ q vs).A->pJ q vs=q/\∀v∈vs,Sr q v=q)
 |[],q=>⟨AR _,fun _=>⟨rfl,by simp⟩⟩
 |v::vs,q=>by
  obtain⟨h1,h2⟩:=xV q v;obtain⟨h3,h4⟩:=lG vs (Sr q v);have e:pJ q (v::vs)=pJ (Sr q v) vs:=rfl;rw[e];refine⟨AA,fun h=>?_⟩;have e2:=h2 AA;rw[e2]at h4⊢;obtain⟨g1,g2⟩:=h4 (by rw[e2]at h;omega);refine⟨g1,fun w hw=>?_⟩;rcases BB.1 hw with rfl|hw
  ·exact e2
  ·exact g2 w hw
theorem Nx {l v a}(ha:a∈l)(hv:Bj a.ts v=true):0<Dn l v:=MU.2 ⟨a,ha,hv⟩
theorem eF {α:Type}{f}:∀{l:List α} {x y:α},l.countP f<=1->x∈l->y∈l->f x=true->f y=true->x=y
 |[],x,y,_,hx,_,_,_=>by cases hx
 |z::l,x,y,h,hx,hy,fx,fy=>by
  rw[MZ]at h;rcases BB.1 hx with e1|ab
  ·rcases BB.1 hy with e2|aa
   ·rw[e1,e2]
   ·rw[<-e1,if_pos fx]at h;have:0<l.countP f:=MU.2 ⟨y,aa,fy⟩;omega
  ·rcases BB.1 hy with e2|aa
   ·rw[<-e2,if_pos fy]at h;have:0<l.countP f:=MU.2 ⟨x,ab,fx⟩;omega
   ·exact eF AA ab aa fx fy
theorem YE {q}(h:∀v∈Co (atomsQ q),Sr q v=q):NQ q:=by
 intro v p1 h1 p2 h2 aa ac t ht;by_cases hc:1<Dn (q.A.map (·.a)) v
 ·have ae:v∈Co (atomsQ q):=(Dk _ _).2 ⟨p1.a,by unfold Go.Proofs.YtmoeoppbmhfbpabGreatDoorI.atomsQ;simp;right;left;exact⟨p1,h1,rfl⟩,AL.1 aa⟩;have hr:=h v ae;unfold Sr at hr;rw[if_pos hc]at hr;have hm:q.A.map (G8 q.A v)=q.A:=congrArg AY.A hr;have hp:G8 q.A v p1=p1:=by
   obtain⟨i,hi⟩:=CO h1;have:(q.A.map (G8 q.A v))[i]?=some (G8 q.A v p1):=by simp[hi]
   rw[hm,hi]at this;exact (IA this).symm
  have ab:t∈(G8 q.A v p1).A:=by rw[hp];exact ht
  unfold G8 at ab;rw[if_pos aa]at ab;have:=(BV.1 ab).2;unfold El at this;rw[EK]at this;have:=this p2 h2;simp only[ac,JA,MP,NU,CW]at this;obtain⟨u,hu,e⟩:=this;exact⟨u,hu,by simpa using e⟩
 ·have ad:(q.A.map (·.a)).countP (fun a=>Bj a.ts v)<=1:=by unfold Dn at hc;omega
  rw[List.countP_map]at ad;have:=eF ad h1 h2 aa ac;subst this;exact⟨t,ht,rfl⟩
def FG (q:AY)(v:Int):Prop:=∃a∈atomsQ q,Bj a.ts v=true
def NE (q:AY):Prop:=∀p∈q.A,p.A≠[]
def oX (q:AY):Prop:=∀v,(Bj q.h.ts v=true\/∃a∈q.B,Bj a.ts v=true)->∃p∈q.A,Bj p.a.ts v=true
structure GO (neg:Int->Cc->Prop)(q q':AY):Prop where
 hd:q'.h=q.h
 at_:∀a∈atomsQ q',a∈atomsQ q
 to:∀ν,Mn neg q ν->Mn neg q' ν
 back:∀ν,Mn neg q' ν->∃ν',Mn neg q ν'/\∀v,FG q' v->ν' v=ν v
theorem GO.refl (neg q):GO neg q q:=⟨rfl,fun _ h=>h,fun _ h=>h,fun ν h=>⟨ν,h,fun _ _=>rfl⟩⟩
theorem FG.sub {q q' v}(h:∀a∈atomsQ q',a∈atomsQ q)(hv:FG q' v):FG q v:=by
 obtain⟨a,ha,e⟩:=hv;exact⟨a,h a ha,e⟩
theorem GO.trans {neg q q1 q2}(h:GO neg q q1)(g:GO neg q1 q2):GO neg q q2 where
 hd:=g.hd.trans h.hd
 at_:=fun a ha=>h.at_ a (g.at_ a ha)
 to:=fun ν hν=>g.to ν (h.to ν hν)
 back:=fun ν hν=>by
  obtain⟨ν1,h1,e1⟩:=g.back ν hν;obtain⟨ν2,h2,e2⟩:=h.back ν1 h1;exact⟨ν2,h2,fun v hv=>(e2 v (hv.sub g.at_)).trans (e1 v hv)⟩
theorem Ln {q p}(h:p∈q.A):p.a∈atomsQ q:=by
 unfold atomsQ;simp;right;left;exact⟨p,h,rfl⟩
theorem CF.red {neg q q'}(h:CF q q')(hW:WP q):GO neg q q':=
 ⟨h.atoms.2.1,fun a ha=>by rw[h.atomsQ]at ha;exact ha,fun ν hν=>(h.sol hW ν).2 hν,fun ν hν=>⟨ν,(h.sol hW ν).1 hν,fun _ _=>rfl⟩⟩
theorem Qc {q}:∀{vs:List Int} {n:Nat},K5 q n vs=true->(∀v∈vs,Dm q v=true->n=0/\Dn (q.A.map (·.a)) v≠1)/\∀v∈vs,∀w∈vs,Dm q v=true->Dm q w=true->v=w
 |[],n,_=>⟨(fun v hv=>by cases hv),(fun v hv=>by cases hv)⟩
 |u::vs,n,h=>by
  unfold K5 at h;by_cases hl:Dm q u=true
  ·rw[if_pos hl]at h;split at h
   ·cases h
   ·rename_i hc;obtain⟨h1,h2⟩:=Qc h;have ac:∀v∈vs,¬Dm q v=true:=fun v hv aa=>by
     have:=(h1 v hv aa).1;omega
    refine⟨fun v hv aa=>?_,fun v hv w hw aa ab=>?_⟩
    ·rcases BB.1 hv with rfl|hv
     ·exact⟨AA,fun e=>hc (.inr e)⟩
     ·exact absurd aa (ac v hv)
    ·rcases BB.1 hv with e1|hv
     ·rcases BB.1 hw with e2|hw
      ·rw[e1,e2]
      ·exact absurd ab (ac w hw)
     ·exact absurd aa (ac v hv)
  ·rw[if_neg hl]at h;obtain⟨h1,h2⟩:=Qc h;refine⟨fun v hv aa=>?_,fun v hv w hw aa ab=>?_⟩
   ·rcases BB.1 hv with rfl|hv
    ·exact absurd aa hl
    ·exact h1 v hv aa
   ·rcases BB.1 hv with rfl|hv
    ·exact absurd aa hl
    ·rcases BB.1 hw with rfl|hw
     ·exact absurd ab hl
     ·exact h2 v hv w hw aa ab
theorem Fx (l m v):Dn (l++m) v=Dn l v+Dn m v:=MR
theorem H0 (a l v):Dn (a::l) v=Dn l v+if Bj a.ts v=true then 1 else 0:=MZ
theorem xM {neg q}(hW:WP q)(a5:NE q)(a4:NQ q):GO neg q (F8 q)/\(∀p∈(F8 q).A,p∈q.A)/\(oX q->oX (F8 q)):=by
 rcases List.exists_or_eq_self_of_eraseP (fun p=>idleB q p.a) q.A with e|⟨p,l1,l2,-,hp,e1,e2⟩
 ·have:F8 q=q:=by unfold F8;rw[e]
  rw[this];exact⟨GO.refl _ _,fun p hp=>hp,fun h=>h⟩
 ·have hT:(F8 q).A=l1++l2:=e2;have aa:∀p'∈(F8 q).A,p'∈q.A:=fun p' ab=>by
   rw[hT]at ab;rw[e1];rcases AW.1 ab with h|h
   ·exact AW.2 (.inl h)
   ·exact AW.2 (.inr (BB.2 (.inr h)))
  have an:p∈q.A:=by rw[e1];simp
  obtain⟨g1,g2⟩:=Qc (vs:=Co [p.a]) (n:=0) hp;have au:∀v,Bj p.a.ts v=true->v∈Co [p.a]:=fun v hv=>(Dk _ _).2 ⟨p.a,by simp,AL.1 hv⟩;have aw:∀v,Dn (atomsQ q) v=(if Bj q.h.ts v=true then 1 else 0)+Dn ((l1++l2).map (·.a)) v+(if Bj p.a.ts v=true then 1 else 0)+Dn q.B v:=fun v=>by
   unfold atomsQ;rw[H0,Fx,e1,FO,CU,Fx,H0,FO,Fx];omega
  have ap:∀v,Dn (q.A.map (·.a)) v=Dn ((l1++l2).map (·.a)) v+if Bj p.a.ts v=true then 1 else 0:=fun v=>by
   rw[e1,FO,CU,Fx,H0,FO,Fx];omega
  --a variable of the part that stands elsewhere is linked
  have am:∀v,Bj p.a.ts v=true->(Bj q.h.ts v=true\/(∃p'∈l1++l2,Bj p'.a.ts v=true)\/∃a∈q.B,Bj a.ts v=true)->Dm q v=true:=fun v hv h=>by
   unfold Dm;rw[aw v,if_pos hv];rcases h with h|⟨p',h1,h2⟩|⟨a,h1,h2⟩
   ·rw[if_pos h,DF];omega
   ·have:=Nx (l:=(l1++l2).map (·.a)) (AO.2 ⟨p',h1,rfl⟩) h2;rw[DF];omega
   ·have:=Nx h1 h2;rw[DF];omega
  have ac:∀v,Bj p.a.ts v=true->Dm q v=true->∃p'∈l1++l2,Bj p'.a.ts v=true:=fun v hv hl=>by
   have:=(g1 v (au v hv) hl).2;rw[ap v,if_pos hv]at this;have h0:0<Dn ((l1++l2).map (·.a)) v:=AA;obtain⟨a,ha,aj⟩:=MU.1 h0;obtain⟨p',ab,rfl⟩:=AO.1 ha;exact⟨p',ab,aj⟩
  have ak:∀a∈atomsQ (F8 q),a∈atomsQ q:=fun a ha=>by
   unfold atomsQ at ha⊢;simp only[BB,AW,AO]at ha⊢;rcases ha with h|⟨p',h1,rfl⟩|h
   ·exact .inl h
   ·exact .inr (.inl ⟨p',aa p' h1,rfl⟩)
   ·exact .inr (.inr h)
  refine⟨⟨rfl,ak,fun ν h=>⟨fun p' ab=>h.1 p' (aa p' ab),h.2⟩,fun ν h=>?_⟩,aa,fun az v hv=>?_⟩
  · --a tuple of the part that agrees with the rest
   have ao:∃μ,Bz p.a μ∈p.A/\∀v,Bj p.a.ts v=true->Dm q v=true->μ v=ν v:=by
    by_cases hex:∃v,Bj p.a.ts v=true/\Dm q v=true
    ·obtain⟨v,hv,hl⟩:=hex;obtain⟨p',ab,ax⟩:=ac v hv hl;have ai:p'∈(F8 q).A:=by rw[hT];exact ab
     have a0:=h.1 p' ai;obtain⟨u,hu,he⟩:=a4 v p' (aa p' ai) p an ax hv _ a0;rw[J5 (hW p' (aa p' ai)).1 ax]at he;obtain⟨μ,rfl⟩:=(hW p an).2 u hu;rw[J5 (hW p an).1 hv]at he;refine⟨μ,hu,fun w hw av=>?_⟩;have:=g2 w (au w hw) v (au v hv) av hl;rw[this];exact he
    ·have a3:=a5 p an;obtain⟨t,ht⟩:=List.exists_mem_of_ne_nil _ a3;obtain⟨μ,rfl⟩:=(hW p an).2 t ht;exact⟨μ,ht,fun w hw av=>absurd ⟨w,hw,av⟩ hex⟩
   obtain⟨μ,hμ,ay⟩:=ao;let ν':Nu:=fun v=>if Bj p.a.ts v=true then μ v else ν v;have ah:∀a:Dv,(∀v,Bj a.ts v=true->Bj p.a.ts v=true->Dm q v=true)->Bz a ν'=Bz a ν:=fun a ha=>F0 fun v hv=>by
    show (if Bj p.a.ts v=true then μ v else ν v)=ν v;by_cases h:Bj p.a.ts v=true
    ·rw[if_pos h];exact ay v h (ha v hv h)
    ·rw[if_neg h]
   refine⟨ν',⟨fun p' ab=>?_,fun a ha=>?_⟩,fun v hv=>?_⟩
   ·rw[e1]at ab;have ad:p'=p\/p'∈l1++l2:=by
     rcases AW.1 ab with h|h
     ·exact .inr (AW.2 (.inl h))
     ·rcases BB.1 h with h|h
      ·exact .inl h
      ·exact .inr (AW.2 (.inr h))
    rcases ad with rfl|af
    ·rw[F0 (ν':=μ) (fun v hv=>by show (if Bj _ v=true then μ v else ν v)=μ v;rw[if_pos hv])];exact hμ
    ·rw[ah p'.a (fun v hv ae=>am v ae (.inr (.inl ⟨p',af,hv⟩)))];exact h.1 p' (by rw[hT];exact af)
   ·rw[ah a (fun v hv ae=>am v ae (.inr (.inr ⟨a,ha,hv⟩)))];exact h.2 a ha
   ·show (if Bj p.a.ts v=true then μ v else ν v)=ν v;by_cases ae:Bj p.a.ts v=true
    ·rw[if_pos ae];apply ay v ae;obtain⟨a,ha,aj⟩:=hv;unfold atomsQ at ha;simp only[BB,AW,AO]at ha;rcases ha with rfl|⟨p',h1,rfl⟩|h1
     ·exact am v ae (.inl aj)
     ·exact am v ae (.inr (.inl ⟨p',by rw[hT]at h1;exact h1,aj⟩))
     ·exact am v ae (.inr (.inr ⟨a,h1,aj⟩))
    ·rw[if_neg ae]
  ·obtain⟨p',h1,h2⟩:=az v hv;rw[e1]at h1;have ad:p'=p\/p'∈l1++l2:=by
    rcases AW.1 h1 with h|h
    ·exact .inr (AW.2 (.inl h))
    ·rcases BB.1 h with h|h
     ·exact .inl h
     ·exact .inr (AW.2 (.inr h))
   rcases ad with rfl|af
   ·have hl:Dm q v=true:=am v h2 (by
     rcases hv with h|⟨a,ha,aj⟩
     ·exact .inl h
     ·exact .inr (.inr ⟨a,ha,aj⟩))
    obtain⟨p2,h3,h4⟩:=ac v h2 hl;exact⟨p2,by rw[hT];exact h3,h4⟩
   ·exact⟨p',by rw[hT];exact af,h2⟩
theorem ED.red {neg q q'}(h:ED q q')(hW:WP q)(ab:NE q)(aa:NQ q):GO neg q q'/\(∀p∈q'.A,p∈q.A)/\(oX q->oX q'):=by
 induction h with
 |refl=>exact⟨GO.refl _ _,fun p hp=>hp,fun h=>h⟩
 |tail h ih=>
  obtain⟨i1,i2,i3⟩:=ih;obtain⟨g1,g2,g3⟩:=xM (neg:=neg) (fun p hp=>hW p (i2 p hp)) (fun p hp=>ab p (i2 p hp)) (fun v p1 h1 p2 h2=>aa v p1 (i2 p1 h1) p2 (i2 p2 h2));exact⟨i1.trans g1,fun p hp=>i2 p (g2 p hp),fun h=>g3 (i3 h)⟩
theorem cO {neg q rs}(hC:F6 (atomsQ q) rs rs){ν1 ν2}(h1:Mn neg (Bc q rs) ν1)(h2:Mn neg (Is q rs) ν2):Mn neg q (fun v=>if v∈rs then ν1 v else ν2 v):=by
 have ab:∀a∈atomsQ q,J2 rs a=true->Bz a (fun v=>if v∈rs then ν1 v else ν2 v)=Bz a ν1:=fun a ha aa=>F0 fun v hv=>if_pos (hC a ha aa v (AL.1 hv));have ac:∀a:Dv,J2 rs a=false->Bz a (fun v=>if v∈rs then ν1 v else ν2 v)=Bz a ν2:=fun a aa=>F0 fun v hv=>if_neg fun hm=>by
  unfold J2 at aa;rw[EB]at aa;exact aa v hm hv
 refine⟨fun p hp=>?_,fun a ha=>?_⟩
 ·cases aa:J2 rs p.a with
  |true=>rw[ab p.a (Ln hp) aa];exact h1.1 p (BV.2 ⟨hp,aa⟩)
  |false=>rw[ac p.a aa];exact h2.1 p (BV.2 ⟨hp,by simp[aa]⟩)
 ·cases aa:J2 rs a with
  |true=>rw[ab a (by unfold atomsQ;simp[ha]) aa];exact h1.2 a (BV.2 ⟨ha,aa⟩)
  |false=>rw[ac a aa];exact h2.2 a (BV.2 ⟨ha,by simp[aa]⟩)
theorem lA {neg q rs ν}(h:Mn neg q ν):Mn neg (Bc q rs) ν:=
 ⟨fun p hp=>h.1 p (BV.1 hp).1,fun a ha=>h.2 a (BV.1 ha).1⟩
theorem vL {neg q rs ν}(h:Mn neg q ν):Mn neg (Is q rs) ν:=
 ⟨fun p hp=>h.1 p (BV.1 hp).1,fun a ha=>h.2 a (BV.1 ha).1⟩
theorem tZ {neg q v ν}(hW:WP q)(h:Mn neg q ν)(hp:∃p∈q.A,Bj p.a.ts v=true):ν v∈Mf q v:=by
 unfold Mf;cases hf:q.A.find? (fun p=>Bj p.a.ts v)with
 |none=>
  obtain⟨p,h1,h2⟩:=hp;rw[IX]at hf;exact absurd h2 (hf p h1)
 |some p=>
  have h1:=LK hf;have h2:Bj p.a.ts v=true:=by simpa using NI hf
  simp only;unfold Zl;rw[Ve];exact .inr ⟨_,h.1 p h1,J5 (hW p h1).1 h2⟩
theorem mW:∀{l:List Part},(∀p∈l,p.A≠[]/\∀t∈p.A,∃μ,t=Bz p.a μ)->(∀v,Dn (l.map (·.a)) v<=1)->∃ν:Nu,∀p∈l,Bz p.a ν∈p.A
 |[],_,_=>⟨fun _=>0,fun p hp=>by cases hp⟩
 |p::l,h,hc=>by
  obtain⟨ν,hν⟩:=mW (l:=l) (fun p' aa=>h p' (by simp[aa])) (fun v=>by
   have:=hc v;rw[CU,H0]at this
   omega)
  obtain⟨ac,hμ⟩:=h p (by simp);obtain⟨t,ht⟩:=List.exists_mem_of_ne_nil _ ac;obtain⟨μ,rfl⟩:=hμ t ht;refine⟨fun v=>if Bj p.a.ts v=true then μ v else ν v,fun p' aa=>?_⟩;rcases BB.1 aa with rfl|aa
  ·rw[F0 (ν':=μ) (fun v hv=>if_pos hv)];exact ht
  ·rw[F0 (ν':=ν) (fun v hv=>if_neg (fun ab=>by
    have:=hc v;rw[CU,H0,if_pos ab]at this;have:=Nx (l:=l.map (·.a)) (AO.2 ⟨p',aa,rfl⟩) hv
    omega))]
   exact hν p' aa
end Go.Proofs.YtmoeoppbmhfbpabGreatDoorI
namespace Go.Abs
section
variable {P:Program} {n:Nat} {Q:Im} {F:Nat->Prop} {A:Nat->Bool} {σ0:St} {all:List Oper}
theorem Hr {listed s N}(ts m k L)(ab:k=Z ts+m)(hs:Region.noSelect all.toArray=true)(hB:MW all A L ts listed=true)(hp:∀c s N,¬Q (.panic c) s N)(aa:σ0.B<=N.B)(hk:∀o,o<σ0.B->F o->N.ver o=σ0.ver o)
  (h:∀K:Sl->Prop,AD (∀s',Qm P n all Q F A N m L s' N->K s')->aT P n all F N K ts s):Qm P n all Q F A σ0 k listed s N:=by
 subst ab;exact uB aa hk (eX hs hp m L ts listed s hB (h _ fun _ h=>h))
end
end Go.Abs
