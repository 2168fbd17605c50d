import Derived.Test.YtmoeoppbmhfbpabGreatDoorMEngN
import Derived.Test.YtmoeoppbmhfbpabGreatDoorLAbsWp
import Derived.Test.YtmoeoppbmhfbpabGreatDoorLSpaF
import Derived.Test.YtmoeoppbmhfbpabGreatDoorLShelf
set_option maxHeartbeats 32000000
set_option maxRecDepth 100000
set_option linter.all false
namespace Go.Proofs.YtmoeoppbmhfbpabGreatDoorL
open Go.Abs
def Hs (M:MM):List Int:=M.map fun x=>(x.2.length:Int)
theorem P2 (om ot:Nat)(M:MM)(d b:Int)(N:St)(hM:MOb N om ot M d b):ACalls Tryz.prog 137 [ptr om 0] N fun r N'=>(∃id,r=sl id M.length (Al (Hs M)))/\Keep N N':=by
 have hpl:=hM.pl;have an:=G7 M;have lo:=hM.lo;have lt:=hM.lt;have ob:=hM.ob;have oc:=hM.oc;refine Z9 23 [.tmp 2] Tryz.func137 ?_
 repeat' (first|refine Z1 ?_|(refine Z8 ?_;intro yb ya)|(refine Z4 ?_;clear ya yb)|refine Z3 ?_|exact Zt|(apply ya.out;clear ya yb))
 refine Af (fun m s N'=>∃(i i3:Nat) (xs:List AV),m=M.length-i/\i<=M.length/\s 3=sl i3 i xs/\s 10=fx ot 0 M.length/\s 11=ic M.length/\s 12=ic i/\Keep N N'/\Own N N' i3 i/\xs.length=i/\Akc (xs=Al (Hs (M.take i)))) M.length
  ⟨0,1,[],Aj6,Aj6,Aj8,Aj8,Aj8,rfl,Xs,Own.nil _ _,by simp,by simp[Akc,Hs,Al]⟩ ?_
 rintro m s N' ⟨i,i3,xs,rfl,hi,h3,aw,av,au,hK,hO,am,hX⟩;have ak:=hK.nobj;have e2:N'.obj ot=Ff M:=by rw[hK.obj _ lt,oc]
 by_cases ac:i<M.length
 ·have aa:=Agz ac;have ah:=G8 aa;have hb:=hM.ln _ (Ain ac);generalize M[i]=x at aa ah hb;have HX:Akc (xs++[ic (x.2.length:Int)]=Al (Hs (M.take (i+1)))):=by
   rw[Akc,Ahd,aa,hX.out];simp[Hs,Al]
  clear aa hX;have af:xs.length=i*1:=Aj6
  repeat' (first|refine Z1 ?_|(refine Z8 ?_;intro yb ya)|(refine Z4 ?_;clear ya yb)|(refine Z2 ?_ ?_<;>intro h ab<;>try exact Xp)|(refine Z6 ?_;intro idn Nn ao ap aj ae ai ad)|refine Z3 ?_|exact Zt|(apply ya.out;clear ya yb))
  refine⟨M.length-(i+1),Aj6,i+1,idn,xs++[ic (x.2.length:Int)],?_⟩
  ((repeat' refine Zi ?_ ?_)<;>first|exact Xq|exact HX|exact Xs)
 ·have hil:i=M.length:=Aj6;subst hil;have hX:=hX.out;rw[Ag7]at hX
  repeat' (first|refine Z1 ?_|(refine Z8 ?_;intro yb ya)|(refine Z4 ?_;clear ya yb)|(refine Z2 ?_ ?_<;>intro h ab<;>try exact Xp)|refine Z3 ?_|exact Zt|(apply ya.out;clear ya yb))
  first|exact⟨_,rfl,⟨i3,by rw[hX]⟩,hK⟩|exact⟨_,rfl,i3,by rw[hX]⟩|exact⟨_,rfl,⟨i3,rfl⟩⟩
structure Lit where
 neg:Bool
 a:De
structure Dx where
 head:De
 body:List Lit
def Qf (l:Lit)(c:List AV):Prop:=∃id,c=[sc (.bool l.neg),ic l.a.p,sl id l.a.ts.length (Ac l.a.ts)]
theorem Gs (a:Lit)(c:List AV)(h:Qf a c):c.length=3:=by obtain⟨id,rfl⟩:=h;rfl
theorem Hl {l:List Lit}{cs:List AV}{i:Nat}{p:Lit}(h:EL Qf l cs)(hi:l[i]?=some p):∃id r,cs.drop (i*3)=sc (.bool p.neg)::ic p.a.p::sl id p.a.ts.length (Ac p.a.ts)::r:=by
 obtain⟨c,r,⟨id,rfl⟩,e⟩:=EL.get Gs h hi;exact⟨id,r,e⟩
def aW (r:Dx)(c:List AV):Prop:=∃o ih ib bc,c=[sc (.bool o),ic r.head.p,sl ih r.head.ts.length (Ac r.head.ts),sl ib r.body.length bc]/\EL Qf r.body bc
def Ax (M:MM)(p:Int):List Bb:=((M[p.toNat]?).map (·.2)).getD []
def Wh (M:MM)(nw:Int)(fr:Nat)(i:Nat)(l:Lit):List Bb:=if (i:Int)=nw then (Ax M l.a.p).drop fr else Ax M l.a.p
def jS (M:MM)(nw:Int)(fr:Nat)(x:Lit×Nat):Part:=⟨x.1.a,(Wh M nw fr x.2 x.1).filter (Lh x.1.a.ts)⟩
def Nj (M:MM)(nw:Int)(fr:Nat)(l:List Lit):List Part:=(l.zipIdx.filter fun x=>!x.1.neg).map (jS M nw fr)
def Q9 (l:List Lit):List De:=(l.filter (·.neg)).map (·.a)
def K4 (M:MM)(nw:Int)(fr:Nat)(r:Dx):Qry:=⟨r.head,Nj M nw fr r.body,Q9 r.body⟩
structure ROk (np:Nat)(r:Dx):Prop where
 hd:r.head.ts.length<=3
 hp:∃k:Nat,r.head.p=(k:Int)/\k<np
 bl:r.body.length<=64
 ba:∀l∈r.body,l.a.ts.length<=3
 bp:∀l∈r.body,∃k:Nat,l.a.p=(k:Int)/\k<np
theorem tY (M:MM)(nw:Int)(fr:Nat)(l:List Lit)(w:Lit):Nj M nw fr (l++[w])=Nj M nw fr l++if w.neg=true then []else [jS M nw fr (w,l.length)]:=by
 unfold Nj;rw[List.zipIdx_append,Ajk,Ahf];congr 1;cases h:w.neg<;>simp[h]
theorem tX (l:List Lit)(w:Lit):Q9 (l++[w])=Q9 l++if w.neg=true then [w.a]else []:=by
 unfold Q9;rw[Ajk,Ahf];congr 1;cases h:w.neg<;>simp[h]
theorem Vw {α:Type}(l:List α)(fr k:Nat){x:α}(hx:l[k]?=some x):(l.take (k+1)).drop fr=(l.take k).drop fr++if fr<=k then [x]else []:=by
 have hk:=(Agy.1 hx).1;rw[Ahd,hx,Ais,List.drop_append,Ahp,Ahu Aj6];congr 1;by_cases h:fr<=k
 ·rw[if_pos h,show fr-k=0 by omega];rfl
 ·rw[if_neg h,Ag4 (by simp;omega)]
def Wi (i:Nat)(nw:Int)(fr:Nat)(ts:List Tm)(l:List Bb)(j:Nat):List Bb:=(if (i:Int)=nw then (l.take j).drop fr else l.take j).filter (Lh ts)
theorem tZ {i:Nat}{nw:Int}{fr:Nat}{ts:List Tm}{l:List Bb}{j:Nat}{t:Bb}(aa:l[j]?=some t):Wi i nw fr ts l (j+1)=Wi i nw fr ts l j++if (((i:Int)≠nw\/fr<=j)/\Lh ts t=true)then [t]else []:=by
 unfold Wi;by_cases e:(i:Int)=nw
 ·rw[if_pos e,if_pos e,Vw _ _ _ aa,Ajk];congr 1;by_cases h1:fr<=j
  ·cases h2:Lh ts t<;>simp[h1,h2]
  ·simp[h1,e]
 ·rw[if_neg e,if_neg e,Ahd,aa,Ais,Dv];congr 1;cases h2:Lh ts t<;>simp[e]
theorem aI (om ot:Nat)(M:MM)(d b:Int)(r:Dx)(c:List AV)(nw:Int)(fr:Nat)(hc:aW r c)(hr:ROk M.length r)(hfr:fr<=100000)(N:St)(hM:MOb N om ot M d b):ACalls Tryz.prog 138 [ptr om 0,ag c,ic nw,ic fr] N fun x N'=>(∃c',x=ag c'/\EQ (K4 M nw fr r) c')/\Keep N N':=by
 obtain⟨o,ih,ib,bc,rfl,hB⟩:=hc;have co:=EL.length Gs hB;have hl:=hr.bl;have hpl:=hM.pl;have ch:=G7 M;have lo:=hM.lo;have lt:=hM.lt;have obm:=hM.ob;have ocm:=hM.oc;refine Z9 82 [.cell 8 191] Tryz.func138 ?_
 repeat' (first|refine Z1 ?_|(refine Z8 ?_;intro yb ya)|(refine Z4 ?_;clear ya yb)|refine Z3 ?_|exact Zt|(apply ya.out;clear ya yb))
 refine Af (fun m s N'=>∃(i i3 i5:Nat) (l1:List Part) (l2:List De) (xs ys:List AV),m=r.body.length-i/\i<=r.body.length/\s 0=ptr om 0/\s 2=ic nw/\s 3=ic fr/\s 8=ptr (N.nobj+1) 0/\s 9=ptr (N.nobj+2) 0/\s 19=sl ib r.body.length bc/\s 20=ic r.body.length/\s 21=ic i/\Keep N N'/\N.nobj+2<N'.nobj/\N'.obj (N.nobj+1)=[ic 0,nilS,nilS,nilS]/\N'.obj (N.nobj+2)=[ic r.head.p,sl ih r.head.ts.length (Ac r.head.ts),sl i3 l1.length xs,sl i5 l2.length ys]/\Own N N' i3 l1.length/\Own N N' i5 l2.length/\(i3=1\/i3≠i5)/\l1.length<=i/\l2.length<=i/\xs.length=l1.length*3/\ys.length=l2.length*2/\Akc (EL Mk l1 xs/\EL Mm l2 ys/\l1=Nj M nw fr (r.body.take i)/\l2=Q9 (r.body.take i))) r.body.length
  ⟨0,1,1,[],[],[],[],Aj6,Aj6,by simp[upd,initS],by simp[upd,initS],by simp[upd,initS],Aj8,Aj8,Aj8,Aj8,rfl,Xs,Akb,?_,?_,Own.nil _ _,Own.nil _ _,.inl rfl,by simp,by simp,by simp,by simp,⟨rfl,rfl,by simp[Nj],by simp[Q9]⟩⟩ ?_
 ·rw[Ah Aj6,Ag Aka,Bs Aka Aka]
 ·rw[show N.nobj+2=N.nobj+1+1 from rfl,Aj];simp
 rintro m s N' ⟨i,i3,i5,l1,l2,xs,ys,rfl,hi,h0,h2,h3,h8,h9,b0,bz,bw,hK,cg,a8,a7,ak,an,b9,cm,ck,b6,b5,hX⟩;have ce:=hK.nobj;have em:N'.obj om=[fx ot 0 M.length,ic d,ic b]:=by rw[hK.obj _ lo,obm]
 have et:N'.obj ot=Ff M:=by rw[hK.obj _ lt,ocm]
 by_cases bh:i<r.body.length
 ·have ab:=Agz bh;obtain⟨id,rr,hd⟩:=Hl hB ab;have bq:=hr.ba _ (Ain bh);obtain⟨k,hk,ca⟩:=hr.bp _ (Ain bh);generalize r.body[i]=w at hd ab bq hk;have HA:Akc (Nj M nw fr (r.body.take (i+1))=Nj M nw fr (r.body.take i)++(if w.neg=true then []else [jS M nw fr (w,i)])/\Q9 (r.body.take (i+1))=Q9 (r.body.take i)++if w.neg=true then [w.a]else []):=by
   rw[Akc,Ahd,ab,Ais,tY,tX,Ahp,Ahu Aj6];exact⟨rfl,rfl⟩
  clear ab;cases ad:w.neg with
  |true=>
   rw[ad]at hd;have HX:Akc (EL Mk l1 xs/\EL Mm (l2++[w.a]) (ys++[ic w.a.p,sl id w.a.ts.length (Ac w.a.ts)])/\l1=Nj M nw fr (r.body.take (i+1))/\l2++[w.a]=Q9 (r.body.take (i+1))):=by
    obtain⟨x1,x2,x3,x4⟩:=hX.out;exact⟨x1,EL.append x2 (EL.single ⟨id,rfl⟩),by rw[HA.out.1,if_pos ad,Ahh,x3],by rw[HA.out.2,if_pos ad,x4]⟩
   clear hX HA
   repeat' (first|refine Z1 ?_|(refine Z8 ?_;intro yb ya)|(refine Z4 ?_;clear ya yb)|(refine Z2 ?_ ?_<;>intro h ae<;>try exact Xp)|refine Z3 ?_|exact Zt)
   refine Hv (by first|exact Er|exact Fw|exact D2) ((hK.new _).put hK.nobj _) (Own.put (Own.new an _) _ _) (by decide) (by rfl) b5 (by rfl) (by rfl) (by decide) Aj6 Aj6 ?_;intro idn Nn ax a3 am ai a4 ao ac;obtain⟨aw,b8⟩:=ac i3 l1.length (Own.put (Own.new ak _) _ _) Aj6;have bd:i3=1\/i3≠idn:=Aj6;simp only[Ab,Aa]at ai;have eob:∀p,p<N'.nobj->Nn.obj p=N'.obj p:=fun p hp=>by rw[am,Ah Aj6,Ag Aj6]
   refine Z3 ?_
   repeat' (first|refine Z1 ?_|(refine Z8 ?_;intro yb ya)|(refine Z4 ?_;clear ya yb)|refine Z3 ?_|exact Zt|(apply ya.out;clear ya yb))
   refine⟨r.body.length-(i+1),Aj6,i+1,i3,idn,l1,l2++[w.a],xs,ys++[ic w.a.p,sl id w.a.ts.length (Ac w.a.ts)],?_⟩
   ((repeat' refine Zi ?_ ?_)<;>first|exact Xq|exact (a3.put Aj6 _)|exact (by simpa using Own.put ax _ _)|exact (Own.put aw _ _)|exact HX|exact Xs)
  |false=>
   rw[ad]at hd;have aj:M[k]?=some M[k]:=Agz ca;generalize M[k]=x at aj;have bn:=Ag1 aj;have cn:=G8 aj;have bv:=hM.t3 x bn;have ci:=hM.ln x bn;have cf:=E6 bv;have HT:Akc (Ax M w.a.p=x.2):=by rw[Akc,Ax,hk];simp[aj]
   rw[hk]at hd;have br:Akc _:=hX
   repeat' (first|refine Z1 ?_|(refine Z8 ?_;intro yb ya)|(refine Z4 ?_;clear ya yb)|(refine Z2 ?_ ?_<;>intro h ae<;>try exact Xp)|refine Z3 ?_|exact Zt|(apply ya.out;clear ya yb))
   refine A8 Ai (fun _=>True) [] [0,1,2,3,4,5,6,7,8,9,10] [] Aj9 (fun _ _ _ h=>h) ?_;intro yb ya
   repeat' (first|refine Z1 ?_|(refine Z4 ?_;clear ya yb)|refine Z3 ?_|exact Zt|(apply ya.out;clear ya yb))
   refine Af (fun m s N2=>∃(j i6:Nat) (l3:List Bb) (zs:List AV),m=x.2.length-j/\j<=x.2.length/\s 0=ptr om 0/\s 2=ic nw/\s 3=ic fr/\s 8=ptr (N.nobj+1) 0/\s 9=ptr (N.nobj+2) 0/\s 10=ic i/\s 11=ptr N'.nobj 0/\s 12=ptr (N'.nobj+1) 0/\s 19=sl ib r.body.length bc/\s 20=ic r.body.length/\s 21=ic i/\s 46=sl x.1 x.2.length (Dc x.2)/\s 47=ic x.2.length/\s 48=ic j/\Keep N N2/\N'.nobj+1<N2.nobj/\N2.obj (N.nobj+1)=[ic 0,nilS,nilS,nilS]/\N2.obj (N.nobj+2)=[ic r.head.p,sl ih r.head.ts.length (Ac r.head.ts),sl i3 l1.length xs,sl i5 l2.length ys]/\N2.obj N'.nobj=[sc (.bool false),ic (k:Int),sl id w.a.ts.length (Ac w.a.ts)]/\N2.obj (N'.nobj+1)=[ic (k:Int),sl id w.a.ts.length (Ac w.a.ts),sl i6 l3.length zs]/\Own N N2 i3 l1.length/\Own N N2 i5 l2.length/\Own N N2 i6 l3.length/\(i6=1\/i6≠i3)/\(i6=1\/i6≠i5)/\l3.length<=j/\zs.length=l3.length*3/\Akc (zs=Dc l3/\l3=Wi i nw fr w.a.ts x.2 j)) x.2.length
    ⟨0,1,[],[],Aj6,Aj6,Aj7,Aj7,Aj7,Aj7,Aj7,Aj7,Aj7,Aj7,Aj7,Aj7,Aj7,Aj7,Aj7,Aj8,Xs,Akb,?_,?_,?_,?_,Own.put (Own.new (Own.put (Own.new ak _) _ _) _) _ _,Own.put (Own.new (Own.put (Own.new an _) _ _) _) _ _,Own.nil _ _,.inl rfl,.inl rfl,by simp,by simp,⟨rfl,by simp[Wi]⟩⟩ ?_
   ·rw[Ah Aj6,Ag Akb,Ah Aj6,Ag Aj6,a8]
   ·rw[Ah Aj6,Ag Akb,Ah Aj6,Ag Aj6,a7]
   ·rw[Ah Aj6,Ag Akb,Aj]
   ·rw[Aj];simp
   generalize bm:N'.nobj=o11 at*
   clear bm h0 h2 h3 h8 h9 b0 bz bw hK a8 a7 ak an em et hX;rintro m s N2 ⟨j,i6,l3,zs,rfl,hj,h0,h2,h3,h8,h9,cv,cu,ct,b0,bz,bw,cr,cq,cp,hK,b7,a8,a7,b2,b1,ak,an,bi,bf,be,cj,b4,hZ⟩;have b3:=hK.nobj;by_cases bg:j<x.2.length
   ·have ab:=Agz bg;obtain⟨au,r2,cc⟩:=Gi bv ab;generalize x.2[j]=t at cc ab au;have HD:Akc (Wi i nw fr w.a.ts x.2 (j+1)=Wi i nw fr w.a.ts x.2 j++if (((i:Int)≠nw\/fr<=j)/\Lh w.a.ts t=true)then [t]else []):=tZ ab;clear ab;have f1:=Dr au;have f2:=H9 au;have f3:=D4 au;have f4:=Hz au;have f5:=Cn t;have f6:=Pw au;have a6:=fun N=>nF k id w.a.ts t au bq N;by_cases aa:(i:Int)≠nw\/fr<=j
    ·cases hf:Lh w.a.ts t with
     |true=>
      rw[hf]at a6;have HZ:Akc (zs++Al t=Dc (l3++[t])/\l3++[t]=Wi i nw fr w.a.ts x.2 (j+1)):=by
       obtain⟨x1,x2⟩:=hZ.out;exact⟨by rw[x1,Lp],by rw[HD.out,if_pos ⟨aa,hf⟩,x2]⟩
      clear hZ HD;have hs:((i:Int) !=nw)=true\/(((i:Int) !=nw)=false/\decide ((j:Int)>=(fr:Int))=true):=by
       by_cases e:(i:Int)=nw
       ·right;have:fr<=j:=by rcases aa with h|h;exact absurd e h;exact h
        exact⟨by simp[e],by simp;omega⟩
       ·left;simpa using e
      clear aa;rcases hs with a5|⟨a5,bo⟩
      all_goals
       repeat' (first|refine Z1 ?_|(refine Z8 ?_;intro yb ya)|(refine Z4 ?_;clear ya yb)|(refine Z2 ?_ ?_<;>intro h ae<;>try exact Xp)|(refine Z5 ?_;refine Xi (a6 _) ?_;rintro _ _ ⟨rfl,af⟩;(have ap:=af.nobj;have ah:=af.obj;have bu:=((hK.new _).put hK.nobj _).trans af;have a0:=Own.keep (Own.put (Own.new ak _) _ _) af;have az:=Own.keep (Own.put (Own.new an _) _ _) af;have ay:=Own.keep (Own.put (Own.new bi _) _ _) af;simp only[Ab,Aa]at ap ah;have a9:=ah N2.nobj Aj6;rw[Aj]at a9))|refine Z3 ?_|exact Zt)
       refine Hv (by first|exact Er|exact Fw|exact D2) bu ay (by decide) (by rfl) b4 (by rw[f1]) f5 (by decide) Aj6 Aj6 ?_;intro idn Nn ax a3 am ai a4 ao ac;obtain⟨aw,bd⟩:=ac i3 l1.length a0 bf;obtain⟨av,bb⟩:=ac i5 l2.length az be;have eob:∀p,p<N2.nobj->Nn.obj p=N2.obj p:=fun p hp=>by rw[am,ah _ Aj6,Ah Aj6,Ag Aj6]
       refine Z3 ?_
       repeat' (first|refine Z1 ?_|(refine Z8 ?_;intro yb ya)|(refine Z4 ?_;clear ya yb)|refine Z3 ?_|exact Zt|(apply ya.out;clear ya yb))
       refine⟨x.2.length-(j+1),Aj6,j+1,idn,l3++[t],zs++Al t,?_⟩
       ((repeat' refine Zi ?_ ?_)<;>first|exact Xq|exact (a3.put Aj6 _)|exact (by simpa using Own.put ax _ _)|exact (Own.put aw _ _)|exact (Own.put av _ _)|exact HZ|exact Xs)
     |false=>
      rw[hf]at a6;have HZ:Akc (zs=Dc l3/\l3=Wi i nw fr w.a.ts x.2 (j+1)):=by
       obtain⟨x1,x2⟩:=hZ.out;exact⟨x1,by rw[HD.out,if_neg (fun h=>by rw[hf]at h;cases h.2),x2,Ahh]⟩
      clear hZ HD;have hs:((i:Int) !=nw)=true\/(((i:Int) !=nw)=false/\decide ((j:Int)>=(fr:Int))=true):=by
       by_cases e:(i:Int)=nw
       ·right;have:fr<=j:=by rcases aa with h|h;exact absurd e h;exact h
        exact⟨by simp[e],by simp;omega⟩
       ·left;simpa using e
      clear aa;rcases hs with a5|⟨a5,bo⟩
      all_goals
       repeat' (first|refine Z1 ?_|(refine Z8 ?_;intro yb ya)|(refine Z4 ?_;clear ya yb)|(refine Z2 ?_ ?_<;>intro h ae<;>try exact Xp)|(refine Z5 ?_;refine Xi (a6 _) ?_;rintro _ _ ⟨rfl,af⟩;(have ap:=af.nobj;have ah:=af.obj;have bu:=((hK.new _).put hK.nobj _).trans af;have a0:=Own.keep (Own.put (Own.new ak _) _ _) af;have az:=Own.keep (Own.put (Own.new an _) _ _) af;have ay:=Own.keep (Own.put (Own.new bi _) _ _) af;simp only[Ab,Aa]at ap ah))|refine Z3 ?_|exact Zt|(apply ya.out;clear ya yb))
       refine⟨x.2.length-(j+1),Aj6,j+1,i6,l3,zs,?_⟩
       ((repeat' refine Zi ?_ ?_)<;>first|exact Xq|exact HZ|exact Xs)
    ·have HZ:Akc (zs=Dc l3/\l3=Wi i nw fr w.a.ts x.2 (j+1)):=by
      obtain⟨x1,x2⟩:=hZ.out;exact⟨x1,by rw[HD.out,if_neg (fun h=>aa h.1),x2,Ahh]⟩
     have a5:((i:Int) !=nw)=false:=by
      cases h:(i:Int) !=nw with
      |false=>rfl
      |true=>exact absurd (.inl (by simpa using h)) aa
     have bo:decide ((j:Int)>=(fr:Int))=false:=by
      have:¬fr<=j:=fun h=>aa (.inr h);simp;omega
     clear hZ HD aa
     repeat' (first|refine Z1 ?_|(refine Z8 ?_;intro yb ya)|(refine Z4 ?_;clear ya yb)|(refine Z2 ?_ ?_<;>intro h ae<;>try exact Xp)|refine Z3 ?_|exact Zt|(apply ya.out;clear ya yb))
     refine⟨x.2.length-(j+1),Aj6,j+1,i6,l3,zs,?_⟩
     ((repeat' refine Zi ?_ ?_)<;>first|exact Xq|exact (Own.put (Own.new ak _) _ _)|exact (Own.put (Own.new an _) _ _)|exact (Own.put (Own.new bi _) _ _)|exact HZ|exact Xs)
   ·have cb:j=x.2.length:=Aj6;subst cb;have HX:Akc (EL Mk (l1++[⟨w.a,l3⟩]) (xs++[ic (k:Int),sl id w.a.ts.length (Ac w.a.ts),sl i6 l3.length zs])/\EL Mm l2 ys/\l1++[⟨w.a,l3⟩]=Nj M nw fr (r.body.take (i+1))/\l2=Q9 (r.body.take (i+1))):=by
     obtain⟨x1,x2,x3,x4⟩:=br.out;obtain⟨z1,z2⟩:=hZ.out;refine⟨EL.append x1 (EL.single ⟨id,i6,by rw[hk,z1]⟩),x2,?_,by rw[HA.out.2,if_neg (by rw[ad];simp),Ahh,x4]⟩;rw[HA.out.1,if_neg (by rw[ad];simp),x3];congr 2;unfold jS Wh;simp only[HT.out];rw[z2];unfold Wi;rw[Ag7]
    clear hZ br HA;have cd:True->Own N N2 i3 l1.length:=fun _=>ak;clear ak
    repeat' (first|refine Z1 ?_|(refine Z8 ?_;intro yb ya)|(refine Z4 ?_;clear ya yb)|(refine Z2 ?_ ?_<;>intro h ae<;>try exact Xp)|refine Z3 ?_|exact Zt)
    refine Hv (by first|exact Er|exact Fw|exact D2) hK (cd trivial) (by decide) (by rfl) b6 (by rfl) (by rfl) (by decide) Aj6 Aj6 ?_;intro idn Nn ax a3 am ai a4 ao ac;obtain⟨av,bb⟩:=ac i5 l2.length an b9;refine Z3 ?_
    repeat' (first|refine Z1 ?_|(refine Z8 ?_;intro yb ya)|(refine Z4 ?_;clear ya yb)|refine Z3 ?_|exact Zt|(apply ya.out;clear ya yb))
    refine⟨r.body.length-(i+1),Aj6,i+1,idn,i5,l1++[⟨w.a,l3⟩],l2,xs++[ic (k:Int),sl id w.a.ts.length (Ac w.a.ts),sl i6 l3.length zs],ys,?_⟩
    ((repeat' refine Zi ?_ ?_)<;>first|exact Xq|exact (a3.put Aj6 _)|exact (by simpa using Own.put ax _ _)|exact (Own.put av _ _)|exact HX|exact Xs)
 ·have hil:i=r.body.length:=Aj6;subst hil;obtain⟨x1,x2,x3,x4⟩:=hX.out;rw[Ag7]at x3 x4
  repeat' (first|refine Z1 ?_|(refine Z8 ?_;intro yb ya)|(refine Z4 ?_;clear ya yb)|(refine Z2 ?_ ?_<;>intro h ae<;>try exact Xp)|refine Z3 ?_|exact Zt|(apply ya.out;clear ya yb))
  exact⟨_,rfl,⟨_,rfl,ih,i3,i5,xs,ys,by first|(simp only[K4];done)|(simp only[K4];rw[x3,x4]),by simp only[K4];rw[<-x3];exact x1,by simp only[K4];rw[<-x4];exact x2⟩,hK.put Aj6 _⟩
abbrev Nu:=Int->Int
def En (ν:Nu)(t:Tm):Int:=if t.1=true then ν t.2 else t.2
def Be (a:De)(ν:Nu):Bb:=C4 (a.ts.map (En ν))
def Ni (ν:Nu)(v n:Int):Nu:=fun w=>if w=v then n else ν w
theorem hasV_iff {ts:List Tm}{v:Int}:A7 ts v=true↔(true,v)∈ts:=by simp[A7]
theorem E7 {a:De}{ν ν':Nu}(h:∀v,A7 a.ts v=true->ν v=ν' v):Be a ν=Be a ν':=by
 unfold Be;congr 1;apply Aid;intro t ht;unfold En;split
 ·rename_i h1;exact h t.2 (hasV_iff.2 (by obtain⟨x,y⟩:=t;simp at h1;subst h1;exact ht))
 ·rfl
theorem Jy {l:List Int}{i:Nat}(h:i<l.length)(h3:l.length<=3):(C4 l)[i]?=some l[i]:=by
 match l,h3 with
 |[],_=>simp at h
 |[a],_=>simp at h;subst h;rfl
 |[a,b],_=>
  rcases (show i=0\/i=1 by simp at h;omega)with rfl|rfl<;>rfl
 |[a,b,c],_=>
  rcases (show i=0\/i=1\/i=2 by simp at h;omega)with rfl|rfl|rfl<;>rfl
theorem Je {a:De}{ν:Nu}{v:Int}(h3:a.ts.length<=3)(hv:A7 a.ts v=true):H4 (Be a ν) (Iz a.ts v)=ν v:=by
 have hm:=hasV_iff.1 hv;have hi:=Ajj.2 hm;unfold H4 Iz;rw[if_pos hm,Ajn,Be,Jy (by simpa using hi) (by simpa using h3)];simp[En]
theorem Kj (a:De)(v n:Int)(ν:Nu):Be (Fq v n a) ν=Be a (Ni ν v n):=by
 unfold Be Fq Bf;congr 1;rw[Ahg];apply Aid;intro t ht;obtain⟨b,w⟩:=t;show En ν (Wz v n (b,w))=En (Ni ν v n) (b,w);by_cases h:(b,w)=(true,v)
 ·cases h;simp[Wz,En,Ni]
 ·rw[show Wz v n (b,w)=(b,w)from if_neg h];cases b with
  |false=>simp[En]
  |true=>
   have:w≠v:=fun e=>h (by rw[e]);simp[En,Ni,this]
theorem hasV_put {a:De}{v n w:Int}:A7 (Fq v n a).ts w=true↔A7 a.ts w=true/\w≠v:=by
 rw[hasV_iff,hasV_iff];unfold Fq Bf;rw[Aib];constructor
 ·rintro⟨t,ht,e⟩;unfold Wz at e;split at e
  ·cases e
  ·rename_i aa;subst e;exact⟨ht,fun e=>aa (by rw[e])⟩
 ·rintro⟨h,aa⟩;refine⟨(true,w),h,?_⟩;unfold Wz;rw[if_neg (fun e=>aa (by cases e;rfl))]
def Lj (neg:Int->Bb->Prop)(q:Qry)(ν:Nu):Prop:=(∀p∈q.parts,Be p.a ν∈p.tups)/\∀a∈q.nots,¬neg a.p (Be a ν)
def WP (q:Qry):Prop:=∀p∈q.parts,p.a.ts.length<=3/\∀t∈p.tups,∃μ,t=Be p.a μ
theorem Su {neg:Int->Bb->Prop}{q:Qry}{v n:Int}{ν:Nu}(hW:WP q):Lj neg (C2 v n q) ν↔Lj neg q (Ni ν v n):=by
 have hp:∀p∈q.parts,(Be (H5 v n p).a ν∈(H5 v n p).tups↔Be p.a (Ni ν v n)∈p.tups):=fun p hp=>by
  unfold H5;by_cases hv:A7 p.a.ts v=true
  ·rw[if_pos hv];show Be (Fq v n p.a) ν∈_↔_;rw[Kj,Ai7];constructor
   ·exact fun h=>h.1
   ·intro h;refine⟨h,?_⟩;rw[Je (hW p hp).1 hv];simp[Ni]
  ·rw[if_neg hv]
   rw[E7 (ν:=ν) (ν':=Ni ν v n) (fun w hw=>by
    unfold Ni;rw[if_neg];rintro rfl
    exact hv hw)]
 unfold Lj C2;simp only[Aib,forall_exists_index,and_imp,forall_apply_eq_imp_iff₂];constructor
 ·rintro⟨h1,h2⟩;exact⟨fun p aa=>(hp p aa).1 (h1 p aa),fun a ha=>by have:=h2 a ha;rwa[Kj]at this⟩
 ·rintro⟨h1,h2⟩;exact⟨fun p aa=>(hp p aa).2 (h1 p aa),fun a ha=>by rw[Kj];exact h2 a ha⟩
theorem Ad2 {q:Qry}{v n:Int}(hW:WP q):WP (C2 v n q):=by
 intro p hp;obtain⟨p0,h0,rfl⟩:=Aib.1 hp;obtain⟨h1,h2⟩:=hW p0 h0;unfold H5;by_cases hv:A7 p0.a.ts v=true
 ·rw[if_pos hv];refine⟨by simp[Bf];exact h1,fun t ht=>?_⟩;obtain⟨ht,he⟩:=Ai7.1 ht;obtain⟨μ,rfl⟩:=h2 t ht;refine⟨μ,?_⟩;show _=Be (Fq v n p0.a) μ;rw[Kj];apply E7;intro w hw;unfold Ni;by_cases e:w=v
  ·subst e;rw[if_pos rfl];rw[Je h1 hv]at he;simpa using he
  ·rw[if_neg e]
 ·rw[if_neg hv];exact⟨h1,h2⟩
theorem Abf {neg:Int->Bb->Prop}{q:Qry}{v:Int}{ν:Nu}(hW:WP q):Lj neg (Fl q v) ν↔Lj neg q ν:=by
 unfold Lj Fl;simp only[Aib,forall_exists_index,and_imp,forall_apply_eq_imp_iff₂];constructor
 ·rintro⟨h1,h2⟩;exact⟨fun p hp=>by have:=h1 p hp;rw[Qy]at this;exact Po _ _ _ _ this,h2⟩
 ·rintro⟨h1,h2⟩;refine⟨fun p hp=>?_,h2⟩;rw[Qy];unfold Gd;by_cases hv:A7 p.a.ts v=true
  ·rw[if_pos hv,Ai7];refine⟨h1 p hp,?_⟩;rw[Je (hW p hp).1 hv];unfold Dw;rw[Ag0];intro p' ab;by_cases aa:A7 p'.a.ts v=true
   ·simp only[aa,Ahw,Bool.false_or,occ,Ahz];exact⟨_,h1 p' ab,by rw[Je (hW p' ab).1 aa];simp⟩
   ·simp[aa]
  ·rw[if_neg hv];exact h1 p hp
theorem Ad3 {q:Qry}{v:Int}(hW:WP q):WP (Fl q v):=by
 intro p hp;obtain⟨p0,h0,rfl⟩:=Aib.1 hp;rw[Qy];exact⟨(hW p0 h0).1,fun t ht=>(hW p0 h0).2 t (Po _ _ _ t ht)⟩
theorem NarS.wp {q q':Qry}(h:NarS q q')(hW:WP q):WP q':=by
 induction h with
 |refl=>exact hW
 |tail v _ ih=>exact Ad3 ih
theorem NarS.sol {neg:Int->Bb->Prop}{q q':Qry}(h:NarS q q')(hW:WP q)(ν:Nu):Lj neg q' ν↔Lj neg q ν:=by
 induction h with
 |refl=>exact Iff.rfl
 |tail v h ih=>exact (Abf (h.wp hW)).trans ih
theorem iA (q:Qry)(v:Int):(Fl q v).parts.map (·.a)=q.parts.map (·.a):=by
 unfold Fl;simp only[Ahg];apply Aid;intro p _;exact Qy _ _ _
theorem NarS.atoms {q q':Qry}(h:NarS q q'):q'.parts.map (·.a)=q.parts.map (·.a)/\q'.head=q.head/\q'.nots=q.nots:=by
 induction h with
 |refl=>exact⟨rfl,rfl,rfl⟩
 |tail v _ ih=>exact⟨(iA _ _).trans ih.1,ih.2.1,ih.2.2⟩
theorem NarS.atomsQ {q q':Qry}(h:NarS q q'):atomsQ q'=atomsQ q:=by
 obtain⟨h1,h2,h3⟩:=h.atoms;unfold Go.Proofs.YtmoeoppbmhfbpabGreatDoorL.atomsQ;rw[h1,h2,h3]
def Nrw (q:Qry):Prop:=∀v,∀p1∈q.parts,∀p2∈q.parts,A7 p1.a.ts v=true->A7 p2.a.ts v=true->∀t∈p1.tups,∃u∈p2.tups,H4 u (Iz p2.a.ts v)=H4 t (Iz p1.a.ts v)
theorem Ul (p:Part)(l:List Part):Cq (p::l)=p.tups.length+Cq l:=by simp[Cq]
theorem Rq (L:List Part)(v:Int):∀l:List Part,Cq (l.map (Gd L v))<=Cq l/\(Cq l<=Cq (l.map (Gd L v))->l.map (Gd L v)=l)
 |[]=>by simp[Cq]
 |p::l=>by
  obtain⟨h1,h2⟩:=Rq L v l;have h3:=gZ L v p;rw[Ahj,Ul,Ul];refine⟨Aj6,fun h=>?_⟩;rw[h2 Aj6];congr 1;have h4:p.tups.length<=(Gd L v p).tups.length:=Aj6;unfold Gd at h4⊢;split
  ·rename_i hv;rw[if_pos hv]at h4;simp only at h4
   have:=List.filter_eq_self.2 (fun a ha=>by
    have:=List.length_filter_eq_length_iff.1 (Nat.le_antisymm (Ai6 _ _) h4)
    exact this a ha)
   rw[this]
  ·rfl
theorem rV (q:Qry)(v:Int):Cq (Qs q v).parts<=Cq q.parts/\(Cq q.parts<=Cq (Qs q v).parts->Qs q v=q):=by
 unfold Qs;split
 ·obtain⟨h1,h2⟩:=Rq q.parts v q.parts;refine⟨h1,fun h=>?_⟩;unfold Fl;rw[h2 h]
 ·exact⟨Agn _,fun _=>rfl⟩
theorem fN:∀(vs:List Int) (q:Qry),Cq (kL q vs).parts<=Cq q.parts/\(Cq q.parts<=Cq (kL q vs).parts->kL q vs=q/\∀v∈vs,Qs q v=q)
 |[],q=>⟨Agn _,fun _=>⟨rfl,by simp⟩⟩
 |v::vs,q=>by
  obtain⟨h1,h2⟩:=rV q v;obtain⟨h3,h4⟩:=fN vs (Qs q v);have e:kL q (v::vs)=kL (Qs q v) vs:=rfl;rw[e];refine⟨Aj6,fun h=>?_⟩;have e2:=h2 Aj6;rw[e2]at h4⊢;obtain⟨g1,g2⟩:=h4 (by rw[e2]at h;omega);refine⟨g1,fun w hw=>?_⟩;rcases Ah2.1 hw with rfl|hw
  ·exact e2
  ·exact g2 w hw
theorem Md {l:List De}{v:Int}{a:De}(ha:a∈l)(hv:A7 a.ts v=true):0<C7 l v:=List.countP_pos_iff.2 ⟨a,ha,hv⟩
theorem aK {α:Type}{f:α->Bool}:∀{l:List α} {x y:α},l.countP f<=1->x∈l->y∈l->f x=true->f y=true->x=y
 |[],x,y,_,hx,_,_,_=>by cases hx
 |z::l,x,y,h,hx,hy,fx,fy=>by
  rw[List.countP_cons]at h;rcases Ah2.1 hx with e1|ab
  ·rcases Ah2.1 hy with e2|aa
   ·rw[e1,e2]
   ·rw[<-e1,if_pos fx]at h;have:0<l.countP f:=List.countP_pos_iff.2 ⟨y,aa,fy⟩;omega
  ·rcases Ah2.1 hy with e2|aa
   ·rw[<-e2,if_pos fy]at h;have:0<l.countP f:=List.countP_pos_iff.2 ⟨x,ab,fx⟩;omega
   ·exact aK Aj6 ab aa fx fy
theorem Aem {q:Qry}(h:∀v∈Cb (atomsQ q),Qs q v=q):Nrw q:=by
 intro v p1 h1 p2 h2 aa ac t ht;by_cases hc:1<C7 (q.parts.map (·.a)) v
 ·have ae:v∈Cb (atomsQ q):=(C3 _ _).2 ⟨p1.a,by unfold Go.Proofs.YtmoeoppbmhfbpabGreatDoorL.atomsQ;simp;right;left;exact⟨p1,h1,rfl⟩,hasV_iff.1 aa⟩;have hr:=h v ae;unfold Qs at hr;rw[if_pos hc]at hr;have hm:q.parts.map (Gd q.parts v)=q.parts:=congrArg Qry.parts hr;have hp:Gd q.parts v p1=p1:=by
   obtain⟨i,hi⟩:=Aif h1;have:(q.parts.map (Gd q.parts v))[i]?=some (Gd q.parts v p1):=by simp[hi]
   rw[hm,hi]at this;exact (Ai8 this).symm
  have ab:t∈(Gd q.parts v p1).tups:=by rw[hp];exact ht
  unfold Gd at ab;rw[if_pos aa]at ab;have:=(Ai7.1 ab).2;unfold Dw at this;rw[Ag0]at this;have:=this p2 h2;simp only[ac,Ahw,Bool.false_or,occ,Ahz]at this;obtain⟨u,hu,e⟩:=this;exact⟨u,hu,by simpa using e⟩
 ·have ad:(q.parts.map (·.a)).countP (fun a=>A7 a.ts v)<=1:=by unfold C7 at hc;omega
  rw[List.countP_map]at ad;have:=aK ad h1 h2 aa ac;subst this;exact⟨t,ht,rfl⟩
def inQ (q:Qry)(v:Int):Prop:=∃a∈atomsQ q,A7 a.ts v=true
def NE (q:Qry):Prop:=∀p∈q.parts,p.tups≠[]
def kB (q:Qry):Prop:=∀v,(A7 q.head.ts v=true\/∃a∈q.nots,A7 a.ts v=true)->∃p∈q.parts,A7 p.a.ts v=true
structure Red (neg:Int->Bb->Prop)(q q':Qry):Prop where
 hd:q'.head=q.head
 at_:∀a∈atomsQ q',a∈atomsQ q
 to:∀ν,Lj neg q ν->Lj neg q' ν
 back:∀ν,Lj neg q' ν->∃ν',Lj neg q ν'/\∀v,inQ q' v->ν' v=ν v
theorem Red.refl (neg:Int->Bb->Prop)(q:Qry):Red neg q q:=⟨rfl,fun _ h=>h,fun _ h=>h,fun ν h=>⟨ν,h,fun _ _=>rfl⟩⟩
theorem inQ.sub {q q':Qry}{v:Int}(h:∀a∈atomsQ q',a∈atomsQ q)(hv:inQ q' v):inQ q v:=by
 obtain⟨a,ha,e⟩:=hv;exact⟨a,h a ha,e⟩
theorem Red.trans {neg:Int->Bb->Prop}{q q1 q2:Qry}(h:Red neg q q1)(g:Red neg q1 q2):Red neg q q2 where
 hd:=g.hd.trans h.hd
 at_:=fun a ha=>h.at_ a (g.at_ a ha)
 to:=fun ν hν=>g.to ν (h.to ν hν)
 back:=fun ν hν=>by
  obtain⟨ν1,h1,e1⟩:=g.back ν hν;obtain⟨ν2,h2,e2⟩:=h.back ν1 h1;exact⟨ν2,h2,fun v hv=>(e2 v (hv.sub g.at_)).trans (e1 v hv)⟩
theorem Kr {q:Qry}{p:Part}(h:p∈q.parts):p.a∈atomsQ q:=by
 unfold atomsQ;simp;right;left;exact⟨p,h,rfl⟩
theorem NarS.red {neg:Int->Bb->Prop}{q q':Qry}(h:NarS q q')(hW:WP q):Red neg q q':=
 ⟨h.atoms.2.1,fun a ha=>by rw[h.atomsQ]at ha;exact ha,fun ν hν=>(h.sol hW ν).2 hν,fun ν hν=>⟨ν,(h.sol hW ν).1 hν,fun _ _=>rfl⟩⟩
theorem Og {q:Qry}:∀{vs:List Int} {n:Nat},Ka q n vs=true->(∀v∈vs,C5 q v=true->n=0/\C7 (q.parts.map (·.a)) v≠1)/\∀v∈vs,∀w∈vs,C5 q v=true->C5 q w=true->v=w
 |[],n,_=>⟨(fun v hv=>by cases hv),(fun v hv=>by cases hv)⟩
 |u::vs,n,h=>by
  unfold Ka at h;by_cases hl:C5 q u=true
  ·rw[if_pos hl]at h;split at h
   ·cases h
   ·rename_i hc;obtain⟨h1,h2⟩:=Og h;have ac:∀v∈vs,¬C5 q v=true:=fun v hv aa=>by
     have:=(h1 v hv aa).1;omega
    refine⟨fun v hv aa=>?_,fun v hv w hw aa ab=>?_⟩
    ·rcases Ah2.1 hv with rfl|hv
     ·exact⟨Aj6,fun e=>hc (.inr e)⟩
     ·exact absurd aa (ac v hv)
    ·rcases Ah2.1 hv with e1|hv
     ·rcases Ah2.1 hw with e2|hw
      ·rw[e1,e2]
      ·exact absurd ab (ac w hw)
     ·exact absurd aa (ac v hv)
  ·rw[if_neg hl]at h;obtain⟨h1,h2⟩:=Og h;refine⟨fun v hv aa=>?_,fun v hv w hw aa ab=>?_⟩
   ·rcases Ah2.1 hv with rfl|hv
    ·exact absurd aa hl
    ·exact h1 v hv aa
   ·rcases Ah2.1 hv with rfl|hv
    ·exact absurd aa hl
    ·rcases Ah2.1 hw with rfl|hw
     ·exact absurd ab hl
     ·exact h2 v hv w hw aa ab
theorem E0 (l m:List De)(v:Int):C7 (l++m) v=C7 l v+C7 m v:=List.countP_append
theorem He (a:De)(l:List De)(v:Int):C7 (a::l) v=C7 l v+if A7 a.ts v=true then 1 else 0:=List.countP_cons
theorem rL {neg:Int->Bb->Prop}{q:Qry}(hW:WP q)(a5:NE q)(a4:Nrw q):Red neg q (Fb q)/\(∀p∈(Fb q).parts,p∈q.parts)/\(kB q->kB (Fb q)):=by
 rcases List.exists_or_eq_self_of_eraseP (fun p=>idleB q p.a) q.parts with e|⟨p,l1,l2,-,hp,e1,e2⟩
 ·have:Fb q=q:=by unfold Fb;rw[e]
  rw[this];exact⟨Red.refl _ _,fun p hp=>hp,fun h=>h⟩
 ·have hT:(Fb q).parts=l1++l2:=e2;have aa:∀p'∈(Fb q).parts,p'∈q.parts:=fun p' ab=>by
   rw[hT]at ab;rw[e1];rcases Ah8.1 ab with h|h
   ·exact Ah8.2 (.inl h)
   ·exact Ah8.2 (.inr (Ah2.2 (.inr h)))
  have an:p∈q.parts:=by rw[e1];simp
  obtain⟨g1,g2⟩:=Og (vs:=Cb [p.a]) (n:=0) hp;have au:∀v,A7 p.a.ts v=true->v∈Cb [p.a]:=fun v hv=>(C3 _ _).2 ⟨p.a,by simp,hasV_iff.1 hv⟩;have aw:∀v,C7 (atomsQ q) v=(if A7 q.head.ts v=true then 1 else 0)+C7 ((l1++l2).map (·.a)) v+(if A7 p.a.ts v=true then 1 else 0)+C7 q.nots v:=fun v=>by
   unfold atomsQ;rw[He,E0,e1,Ahf,Ahj,E0,He,Ahf,E0];omega
  have ap:∀v,C7 (q.parts.map (·.a)) v=C7 ((l1++l2).map (·.a)) v+if A7 p.a.ts v=true then 1 else 0:=fun v=>by
   rw[e1,Ahf,Ahj,E0,He,Ahf,E0];omega
  --a variable of the part that stands elsewhere is linked
  have am:∀v,A7 p.a.ts v=true->(A7 q.head.ts v=true\/(∃p'∈l1++l2,A7 p'.a.ts v=true)\/∃a∈q.nots,A7 a.ts v=true)->C5 q v=true:=fun v hv h=>by
   unfold C5;rw[aw v,if_pos hv];rcases h with h|⟨p',h1,h2⟩|⟨a,h1,h2⟩
   ·rw[if_pos h,Aj3];omega
   ·have:=Md (l:=(l1++l2).map (·.a)) (Aib.2 ⟨p',h1,rfl⟩) h2;rw[Aj3];omega
   ·have:=Md h1 h2;rw[Aj3];omega
  have ac:∀v,A7 p.a.ts v=true->C5 q v=true->∃p'∈l1++l2,A7 p'.a.ts v=true:=fun v hv hl=>by
   have:=(g1 v (au v hv) hl).2;rw[ap v,if_pos hv]at this;have h0:0<C7 ((l1++l2).map (·.a)) v:=Aj6;obtain⟨a,ha,aj⟩:=List.countP_pos_iff.1 h0;obtain⟨p',ab,rfl⟩:=Aib.1 ha;exact⟨p',ab,aj⟩
  have ak:∀a∈atomsQ (Fb q),a∈atomsQ q:=fun a ha=>by
   unfold atomsQ at ha⊢;simp only[Ah2,Ah8,Aib]at ha⊢;rcases ha with h|⟨p',h1,rfl⟩|h
   ·exact .inl h
   ·exact .inr (.inl ⟨p',aa p' h1,rfl⟩)
   ·exact .inr (.inr h)
  refine⟨⟨rfl,ak,fun ν h=>⟨fun p' ab=>h.1 p' (aa p' ab),h.2⟩,fun ν h=>?_⟩,aa,fun az v hv=>?_⟩
  · --a tuple of the part that agrees with the rest
   have ao:∃μ,Be p.a μ∈p.tups/\∀v,A7 p.a.ts v=true->C5 q v=true->μ v=ν v:=by
    by_cases hex:∃v,A7 p.a.ts v=true/\C5 q v=true
    ·obtain⟨v,hv,hl⟩:=hex;obtain⟨p',ab,ax⟩:=ac v hv hl;have ai:p'∈(Fb q).parts:=by rw[hT];exact ab
     have a0:=h.1 p' ai;obtain⟨u,hu,he⟩:=a4 v p' (aa p' ai) p an ax hv _ a0;rw[Je (hW p' (aa p' ai)).1 ax]at he;obtain⟨μ,rfl⟩:=(hW p an).2 u hu;rw[Je (hW p an).1 hv]at he;refine⟨μ,hu,fun w hw av=>?_⟩;have:=g2 w (au w hw) v (au v hv) av hl;rw[this];exact he
    ·have a3:=a5 p an;obtain⟨t,ht⟩:=List.exists_mem_of_ne_nil _ a3;obtain⟨μ,rfl⟩:=(hW p an).2 t ht;exact⟨μ,ht,fun w hw av=>absurd ⟨w,hw,av⟩ hex⟩
   obtain⟨μ,hμ,ay⟩:=ao;let ν':Nu:=fun v=>if A7 p.a.ts v=true then μ v else ν v;have ah:∀a:De,(∀v,A7 a.ts v=true->A7 p.a.ts v=true->C5 q v=true)->Be a ν'=Be a ν:=fun a ha=>E7 fun v hv=>by
    show (if A7 p.a.ts v=true then μ v else ν v)=ν v;by_cases h:A7 p.a.ts v=true
    ·rw[if_pos h];exact ay v h (ha v hv h)
    ·rw[if_neg h]
   refine⟨ν',⟨fun p' ab=>?_,fun a ha=>?_⟩,fun v hv=>?_⟩
   ·rw[e1]at ab;have ad:p'=p\/p'∈l1++l2:=by
     rcases Ah8.1 ab with h|h
     ·exact .inr (Ah8.2 (.inl h))
     ·rcases Ah2.1 h with h|h
      ·exact .inl h
      ·exact .inr (Ah8.2 (.inr h))
    rcases ad with rfl|af
    ·rw[E7 (ν':=μ) (fun v hv=>by show (if A7 _ v=true then μ v else ν v)=μ v;rw[if_pos hv])];exact hμ
    ·rw[ah p'.a (fun v hv ae=>am v ae (.inr (.inl ⟨p',af,hv⟩)))];exact h.1 p' (by rw[hT];exact af)
   ·rw[ah a (fun v hv ae=>am v ae (.inr (.inr ⟨a,ha,hv⟩)))];exact h.2 a ha
   ·show (if A7 p.a.ts v=true then μ v else ν v)=ν v;by_cases ae:A7 p.a.ts v=true
    ·rw[if_pos ae];apply ay v ae;obtain⟨a,ha,aj⟩:=hv;unfold atomsQ at ha;simp only[Ah2,Ah8,Aib]at ha;rcases ha with rfl|⟨p',h1,rfl⟩|h1
     ·exact am v ae (.inl aj)
     ·exact am v ae (.inr (.inl ⟨p',by rw[hT]at h1;exact h1,aj⟩))
     ·exact am v ae (.inr (.inr ⟨a,h1,aj⟩))
    ·rw[if_neg ae]
  ·obtain⟨p',h1,h2⟩:=az v hv;rw[e1]at h1;have ad:p'=p\/p'∈l1++l2:=by
    rcases Ah8.1 h1 with h|h
    ·exact .inr (Ah8.2 (.inl h))
    ·rcases Ah2.1 h with h|h
     ·exact .inl h
     ·exact .inr (Ah8.2 (.inr h))
   rcases ad with rfl|af
   ·have hl:C5 q v=true:=am v h2 (by
     rcases hv with h|⟨a,ha,aj⟩
     ·exact .inl h
     ·exact .inr (.inr ⟨a,ha,aj⟩))
    obtain⟨p2,h3,h4⟩:=ac v h2 hl;exact⟨p2,by rw[hT];exact h3,h4⟩
   ·exact⟨p',by rw[hT];exact af,h2⟩
theorem TrimR.red {neg:Int->Bb->Prop}{q q':Qry}(h:TrimR q q')(hW:WP q)(ab:NE q)(aa:Nrw q):Red neg q q'/\(∀p∈q'.parts,p∈q.parts)/\(kB q->kB q'):=by
 induction h with
 |refl=>exact⟨Red.refl _ _,fun p hp=>hp,fun h=>h⟩
 |tail h ih=>
  obtain⟨i1,i2,i3⟩:=ih;obtain⟨g1,g2,g3⟩:=rL (neg:=neg) (fun p hp=>hW p (i2 p hp)) (fun p hp=>ab p (i2 p hp)) (fun v p1 h1 p2 h2=>aa v p1 (i2 p1 h1) p2 (i2 p2 h2));exact⟨i1.trans g1,fun p hp=>i2 p (g2 p hp),fun h=>g3 (i3 h)⟩
theorem Za {neg:Int->Bb->Prop}{q:Qry}{rs:List Int}(hC:Fa (atomsQ q) rs rs){ν1 ν2:Nu}(h1:Lj neg (A5 q rs) ν1)(h2:Lj neg (H0 q rs) ν2):Lj neg q (fun v=>if v∈rs then ν1 v else ν2 v):=by
 have ab:∀a∈atomsQ q,I9 rs a=true->Be a (fun v=>if v∈rs then ν1 v else ν2 v)=Be a ν1:=fun a ha aa=>E7 fun v hv=>if_pos (hC a ha aa v (hasV_iff.1 hv));have ac:∀a:De,I9 rs a=false->Be a (fun v=>if v∈rs then ν1 v else ν2 v)=Be a ν2:=fun a aa=>E7 fun v hv=>if_neg fun hm=>by
  unfold I9 at aa;rw[Aim]at aa;exact aa v hm hv
 refine⟨fun p hp=>?_,fun a ha=>?_⟩
 ·cases aa:I9 rs p.a with
  |true=>rw[ab p.a (Kr hp) aa];exact h1.1 p (Ai7.2 ⟨hp,aa⟩)
  |false=>rw[ac p.a aa];exact h2.1 p (Ai7.2 ⟨hp,by simp[aa]⟩)
 ·cases aa:I9 rs a with
  |true=>rw[ab a (by unfold atomsQ;simp[ha]) aa];exact h1.2 a (Ai7.2 ⟨ha,aa⟩)
  |false=>rw[ac a aa];exact h2.2 a (Ai7.2 ⟨ha,by simp[aa]⟩)
theorem fE {neg:Int->Bb->Prop}{q:Qry}{rs:List Int}{ν:Nu}(h:Lj neg q ν):Lj neg (A5 q rs) ν:=
 ⟨fun p hp=>h.1 p (Ai7.1 hp).1,fun a ha=>h.2 a (Ai7.1 ha).1⟩
theorem pQ {neg:Int->Bb->Prop}{q:Qry}{rs:List Int}{ν:Nu}(h:Lj neg q ν):Lj neg (H0 q rs) ν:=
 ⟨fun p hp=>h.1 p (Ai7.1 hp).1,fun a ha=>h.2 a (Ai7.1 ha).1⟩
theorem oI {neg:Int->Bb->Prop}{q:Qry}{v:Int}{ν:Nu}(hW:WP q)(h:Lj neg q ν)(hp:∃p∈q.parts,A7 p.a.ts v=true):ν v∈Lb q v:=by
 unfold Lb;cases hf:q.parts.find? (fun p=>A7 p.a.ts v)with
 |none=>
  obtain⟨p,h1,h2⟩:=hp;rw[Ah1]at hf;exact absurd h2 (hf p h1)
 |some p=>
  have h1:=Aip hf;have h2:A7 p.a.ts v=true:=by simpa using List.find?_some hf
  simp only;unfold Wu;rw[Tj];exact .inr ⟨_,h.1 p h1,Je (hW p h1).1 h2⟩
theorem iB:∀{l:List Part},(∀p∈l,p.tups≠[]/\∀t∈p.tups,∃μ,t=Be p.a μ)->(∀v,C7 (l.map (·.a)) v<=1)->∃ν:Nu,∀p∈l,Be p.a ν∈p.tups
 |[],_,_=>⟨fun _=>0,fun p hp=>by cases hp⟩
 |p::l,h,hc=>by
  obtain⟨ν,hν⟩:=iB (l:=l) (fun p' aa=>h p' (by simp[aa])) (fun v=>by
   have:=hc v;rw[Ahj,He]at this
   omega)
  obtain⟨ac,hμ⟩:=h p (by simp);obtain⟨t,ht⟩:=List.exists_mem_of_ne_nil _ ac;obtain⟨μ,rfl⟩:=hμ t ht;refine⟨fun v=>if A7 p.a.ts v=true then μ v else ν v,fun p' aa=>?_⟩;rcases Ah2.1 aa with rfl|aa
  ·rw[E7 (ν':=μ) (fun v hv=>if_pos hv)];exact ht
  ·rw[E7 (ν':=ν) (fun v hv=>if_neg (fun ab=>by
    have:=hc v;rw[Ahj,He,if_pos ab]at this;have:=Md (l:=l.map (·.a)) (Aib.2 ⟨p',aa,rfl⟩) hv
    omega))]
   exact hν p' aa
end Go.Proofs.YtmoeoppbmhfbpabGreatDoorL
namespace Go.Abs
section
variable {P:Program} {n:Nat} {Q:Hg} {F:Nat->Prop} {A:Nat->Bool} {σ0:St} {all:List Oper}
theorem Yc {listed:Array Bool}{s:Sl}{N:St}(ts:List Nat)(m k:Nat)(L:Array Bool)(ab:k=ts.length+m)(hs:Region.noSelect all.toArray=true)(hB:tsT all A L ts listed=true)(hp:∀c s N,¬Q (.panic c) s N)(aa:σ0.nobj<=N.nobj)(hk:∀o,o<σ0.nobj->F o->N.ver o=σ0.ver o)
  (h:∀K:Sl->Prop,Akc (∀s',Ot P n all Q F A N m L s' N->K s')->aT P n all F N K ts s):Ot P n all Q F A σ0 k listed s N:=by
 subst ab;exact oK aa hk (bB hs hp m L ts listed s hB (h _ fun _ h=>h))
end
end Go.Abs
namespace Go.Proofs.YtmoeoppbmhfbpabGreatDoorL
open Go.Abs
theorem RAtom.ext' {a b:RAtom}(h1:a.nt=b.nt)(h2:a.pred=b.pred)(h3:a.terms=b.terms):a=b:=by cases a;cases b;simp_all
def pG (μ:Tx->Tx)(t:Tx):Tx:=if Ad t=true then μ t else t
def Ws (μ:Tx->Tx)(a:RAtom):RAtom:=⟨a.nt,a.pred,a.terms.map (pG μ)⟩
theorem bD {μ:Tx->Tx}{t:Tx}(h:Ad t=false):pG μ t=t:=by unfold pG;rw[if_neg (by simp[h])]
theorem pF {μ:Tx->Tx}{t:Tx}(h:Ad t=true):pG μ t=μ t:=by unfold pG;rw[if_pos h]
def Pos (fz:Bool)(a:RAtom):Bool:=fz||!a.nt
def unN (a:RAtom):RAtom:=⟨false,a.pred,a.terms⟩
def Agk (fz:Bool)(A:List RAtom)(x:RItem)(h:RAtom):Prop:=∃μ,(∀a∈x.body,Pos fz a=true->Ws μ a∈A)/\(∀a∈x.body,Pos fz a=false->unN (Ws μ a)∉A)/\h=Ws μ x.head
def Agl (fz:Bool)(x:RItem):Prop:=∀v,Ad v=true->(v∈x.head.terms\/∃a∈x.body,Pos fz a=false/\v∈a.terms)->∃a∈x.body,Pos fz a=true/\v∈a.terms
def Clean (t:Tx):Prop:=(∀b∈t,b≠(33:UInt8)/\b≠44/\b≠46)/\t.length<=1000
def clA (a:RAtom):Prop:=Clean a.pred/\(∀t∈a.terms,Clean t)/\a.terms.length<=1000
def clI (x:RItem):Prop:=x.out=false/\clA x.head/\∀a∈x.body,clA a
def jG (c0 a:Nat):Nat->Nat
 |0=>c0
 |p+1=>1+a*jG c0 a p
structure Afa (fz:Bool)(c0 p:Nat)(x:RItem):Prop where
 cl:clI x
 len:x.body.length<=1000
 saf:Agl fz x
 cnt:x.body.countP (Pos fz)=p
 neg:c0=1\/∀a∈x.body,Pos fz a=true
def Sat (fz:Bool)(l:List RItem)(giv:List RAtom)(C:RAtom->Prop):Prop:=(∀a∈giv,C a)/\∀A':List RAtom,(∀a∈A',C a)->(∀a∈giv,a∈A')->∀x∈l,∀h,Agk fz A' x h->C h
def Ae9 (fz:Bool)(limit:Nat)(x:RItem):Prop:=∃c0 p,Afa fz c0 p x/\∀a,a<=limit->jG c0 a p+2002<=1000000000000
def W7 (t:Tx):Tx:=if Ad t=true then 35::t else t
def Px (a:RAtom):RAtom:=⟨a.nt,a.pred,a.terms.map W7⟩
def oth (li:List RItem)(n i:Nat):List RItem:=((li.take i).eraseIdx n).filter fun y=>!y.out
theorem xN {li:List RItem}{n i:Nat}{y:RItem}(h:li[i]?=some y):oth li n (i+1)=oth li n i++(if i=n\/y.out=true then []else [y]):=by
 have hi:=(Agy.1 h).1;have hl:(li.take i).length=i:=by rw[Ahp];omega
 unfold oth;rw[Ahd,h,Ais];by_cases hn:i=n
 ·subst hn;rw[List.eraseIdx_append_of_length_le Aj6,hl,Aig,if_pos (.inl rfl),Ajc (l:=li.take i) Aj6];simp
 ·have:(li.take i++[y]).eraseIdx n=(li.take i).eraseIdx n++[y]:=by
   rcases Nat.lt_or_gt_of_ne hn with h'|h'
   ·rw[List.eraseIdx_append_of_length_le Aj6,Ajc (l:=li.take i) Aj6,Ajc (l:=[y]) (by simp;omega)]
   ·rw[List.eraseIdx_append_of_lt_length Aj6]
  rw[this,Ajk];cases hy:y.out with
  |true=>rw[if_pos (.inr rfl)];simp[hy]
  |false=>rw[if_neg (by simp[hn])];simp[hy]
theorem Pn {li:List RItem}{n i:Nat}{y:RItem}(h:y∈oth li n i):y∈li/\y.out=false:=by
 unfold oth at h;rw[Ai7]at h;exact⟨Ajl (Aja h.1),by simpa using h.2⟩
theorem lL {t:Tx}(h:(As t).1=0):∀x∈Cv t,F6 x=true:=by
 have hs:∀i,i<(Cv t).length->D9 (Cv t) i=false:=by
  unfold As at h;split at h
  ·simp at h
  split at h
  ·simp at h
  unfold Cd at h;split at h
  ·simp at h
  split at h
  ·simp at h
  ·rename_i hk;exact Kx hk
 intro x hx;obtain⟨i,hi⟩:=Aif hx;have h1:=hs i (Agy.1 hi).1;unfold D9 at h1;rw[hi]at h1;simpa using h1
theorem jH {p:Tx}(h:Ke p)(hl:p.length<=1000):Clean p:=⟨fun b hb=>by
 have:=h.2 b hb
 refine⟨?_,?_,?_⟩<;>(rintro rfl;revert this;decide),hl⟩
theorem nL {p:Tx}(h:Nt p)(hl:p.length<=1000):Clean p:=⟨fun b hb=>by
 have:=h.2 b hb
 refine⟨?_,?_,?_⟩<;>(rintro rfl;revert this;decide),hl⟩
theorem qM {a:RAtom}(h:D1 a)(hs:short a):clA a:=⟨jH h.1 hs.1,fun t ht=>nL (h.2.2.2 t ht) (hs.2.2 t ht),hs.2.1⟩
theorem nJ {a p:Nat}(ha:a<=200)(hp:p<=5):jG 0 a p<=10000000000:=by
 have h1:∀p,jG 0 a p<=jG 0 200 p:=by
  intro p;induction p with
  |zero=>exact Agn _
  |succ p ih=>exact Nat.add_le_add_left (Nat.mul_le_mul ha ih) _
 refine Ago (h1 p) ?_;have:p=0\/p=1\/p=2\/p=3\/p=4\/p=5:=Aj6;rcases this with rfl|rfl|rfl|rfl|rfl|rfl<;>decide
structure Fine (x:RItem):Prop where
 w:Ck x
 sh:x.short
 va:∀a∈Ae x,VA a
 dt:∀a∈Ae x,∀w∈a.terms,DT w
 safe:F6 x=true
theorem Uq {t:Tx}(h:(As t).1=0):∀x∈Cv t,Fine x:=by
 obtain⟨ab,l,r,hp⟩:=Rk h;obtain⟨g1,g2,g3,g4⟩:=Iu Aj6 hp;intro x hx;have aa:=hx;rw[g2]at hx;exact⟨g4 x hx,Rm Aj6 hp x hx,Qw 16 t l r hp x hx,Iv (T:=DT) Pm 16 t l r hp x hx,lL h x aa⟩
theorem Fine.cl {x:RItem}(h:Fine x)(ho:x.out=false):clI x:=
 ⟨ho,qM ((h.w.2.2 ho).1) h.sh.1,fun a ha=>qM ((h.w.2.2 ho).2.2.2 a ha) (h.sh.2 a ha)⟩
theorem Fine.rule {x:RItem}(h:Fine x)(ho:x.out=false):Ae9 true 200 x:=by
 have hb:=(h.w.2.2 ho).2.2.1;refine⟨0,x.body.countP (Pos true),⟨h.cl ho,Aj6,fun v hv hm=>?_,rfl,.inr fun a _=>rfl⟩,fun a ha=>?_⟩
 ·rcases hm with hm|⟨a,-,hp,-⟩
  ·have hs:=h.safe;unfold F6 at hs;simp only[Ajo,Aim]at hs;have h1:=hs x.head (by simp[Ae,ho]);unfold zR at h1;simp only[Bool.not_eq_true,Aim]at h1;have h2:tU x v=false:=by simpa using h1 v hm
   unfold tU at h2;rw[hv,Aie]at h2;have h3:Me x v=true:=by simpa using h2
   unfold Me at h3;simp only[Ahz,Ag3,Aj4]at h3;obtain⟨a,ha,u,hu,-,rfl⟩:=h3;exact⟨a,ha,rfl,hu⟩
  ·cases hp
 ·have:=nJ (a:=a) (p:=x.body.countP (Pos true)) ha (Ago List.countP_le_length hb);omega
def Wd (b:UInt8):Prop:=Bp b.toNat=true\/Bl b.toNat=true\/Az b.toNat=true
theorem Afe {b:UInt8}(h:Wd b):b∉[33,40,41,44,45,46,58,63]:=fun hm=>by
 simp only[Ah2,Ail,Aj5]at hm;rcases hm with rfl|rfl|rfl|rfl|rfl|rfl|rfl|rfl<;>revert h<;>unfold Wd<;>decide
theorem Abc {t:Tx}(h:Nt t){b:UInt8}(hb:b∈t):Wd b:=.inr (h.2 b hb)
theorem qC {t:Tx}(h:Ke t){b:UInt8}(hb:b∈t):Wd b:=.inl (h.2 b hb)
theorem kU {ts:List Tx}{b:UInt8}(h:b∈Bz ts):b=44\/∃t∈ts,b∈t:=by
 unfold Bz at h;obtain⟨t,ht,hb⟩:=Ah7.1 h;rcases Ah2.1 hb with rfl|hb
 ·exact .inl rfl
 ·exact .inr ⟨t,ht,hb⟩
theorem Tr {ts:List Tx}{b:UInt8}(h:b∈Bj ts):b=44\/∃t∈ts,b∈t:=by
 cases ts with
 |nil=>cases h
 |cons t ts=>
  rcases Ah8.1 h with h|h
  ·exact .inr ⟨t,by simp,h⟩
  ·rcases kU h with h|⟨u,hu,hb⟩
   ·exact .inl h
   ·exact .inr ⟨u,by simp[hu],hb⟩
theorem Yf {a:RAtom}(h:D1 a){b:UInt8}(hb:b∈A6 a):Wd b\/b=40\/b=41\/b=44:=by
 unfold A6 at hb;rcases Ah8.1 hb with hb|hb
 ·exact .inl (qC h.1 hb)
 ·rcases Ah2.1 hb with rfl|hb
  ·exact .inr (.inl rfl)
  ·rcases Ah8.1 hb with hb|hb
   ·rcases Tr hb with rfl|⟨t,ht,hb⟩
    ·exact .inr (.inr (.inr rfl))
    ·exact .inl (Abc (h.2.2.2 t ht) hb)
   ·simp at hb;exact .inr (.inr (.inl hb))
theorem vC {a:RAtom}(h:D1 a){b:UInt8}(hb:b∈B8 a):Wd b\/b=33\/b=40\/b=41\/b=44:=by
 unfold B8 at hb;rcases Ah8.1 hb with hb|hb
 ·split at hb
  ·simp at hb;exact .inr (.inl hb)
  ·cases hb
 ·rcases Yf h hb with h|h
  ·exact .inl h
  ·exact .inr (.inr h)
theorem rI {x:RItem}(h:Ck x){b:UInt8}(hb:b∈Bc x):Wd b\/b∈[33,40,41,44,45,58,63]:=by
 unfold Bc at hb;split at hb
 ·rcases Ah2.1 hb with rfl|hb
  ·exact .inr (by decide)
  ·exact .inl (qC h.1 hb)
 ·rename_i ho;obtain⟨h1,h2,h3,h4⟩:=h.2.2 (by simpa using ho);unfold Dh at hb;rcases Ah8.1 hb with hb|hb
  ·rcases Yf h1 hb with h|rfl|rfl|rfl
   ·exact .inl h
   all_goals exact .inr (by decide)
  ·split at hb
   ·cases hb
   ·rcases Ah2.1 hb with rfl|hb
    ·exact .inr (by decide)
    ·rcases Ah2.1 hb with rfl|hb
     ·exact .inr (by decide)
     ·rcases Tr hb with rfl|⟨t,ht,hb⟩
      ·exact .inr (by decide)
      ·obtain⟨a,ha,rfl⟩:=Aib.1 ht;rcases vC (h4 a ha) hb with h|rfl|rfl|rfl|rfl
       ·exact .inl h
       all_goals exact .inr (by decide)
theorem rK {x:RItem}(h:Ck x):46∉Bc x:=fun hb=>by
 rcases rI h hb with h|h
 ·exact Afe h (by decide)
 ·revert h;decide
def sB (x:List Tx×Tx)(c:UInt8):List Tx×Tx:=if c=46 then (x.1++[x.2++[c]],[])else (x.1,x.2++[c])
def Jo (t:Tx):List Tx:=if (t.foldl sB ([],[])).2=[]then (t.foldl sB ([],[])).1 else (t.foldl sB ([],[])).1++[(t.foldl sB ([],[])).2]
theorem xB:∀(t:Tx) (d:List Tx) (u:Tx),46∉t->t.foldl sB (d,u)=(d,u++t)
 |[],d,u,_=>by simp
 |c::t,d,u,h=>by
  have hc:c≠46:=fun e=>h (by simp[e]);have ht:46∉t:=fun e=>h (by simp[e]);rw[Ag6,sB,if_neg hc,xB t _ _ ht];simp
theorem gG:∀(l:List RItem) (d:List Tx),(∀x∈l,46∉Bc x)->(Bu l).foldl sB (d,[])=(d++l.map (fun x=>Bc x++[46]),[])
 |[],d,_=>by simp[Bu]
 |x::l,d,h=>by
  have h1:=h x (by simp);have e:Bu (x::l)=Bc x++46::Bu l:=by simp[Bu]
  rw[e,Aix,xB _ _ _ h1,Ag6];have e2:sB (d,[]++Bc x) 46=(d++[Bc x++[46]],[]):=by simp[sB]
  rw[e2,gG l _ fun y hy=>h y (by simp[hy])];simp
theorem Zk {l:List RItem}(h:∀x∈l,Ck x):Jo (Bu l)=l.map fun x=>Bc x++[46]:=by
 unfold Jo;rw[gG l [] fun x hx=>rK (h x hx)];simp
theorem S6 {b c:UInt8}:((b.toNat:Int)==(c.toNat:Int))=decide (b=c):=by
 by_cases h:b=c
 ·subst h;simp
 ·rw[decide_eq_false h];have:b.toNat≠c.toNat:=fun e=>h (UInt8.toNat_inj.1 e);simpa using (by omega:¬(b.toNat:Int)=c.toNat)
theorem aB {α:Type}{f:α->UInt8->α}{a:α}{t:Tx}{i:Nat}{c:UInt8}(h:t[i]?=some c):(t.take (i+1)).foldl f a=f ((t.take i).foldl f a) c:=by
 rw[Ahd,h,Ais,Aix];rfl
theorem jF {t:Tx}{f i:Nat}{c:UInt8}(hf:f<=i)(h:t[i]?=some c):(t.drop f).take (i+1-f)=(t.drop f).take (i-f)++[c]:=by
 rw[show i+1-f=(i-f)+1 by omega,Ahd,Agx,show f+(i-f)=i by omega,h];rfl
theorem Acu (t:Tx)(i:Nat):(t.drop i).take (i-i)=[]:=by simp
theorem bX (t:Tx)(ht:t.length<=1000000)(N:St):ACalls Tryz.prog 22 [str t] N fun r N'=>(∃id,r=sl id (Jo t).length ((Jo t).map str))/\Keep N N':=by
 refine Z9 37 [.tmp 2] Tryz.func22 ?_
 repeat' (first|refine Z1 ?_|(refine Z8 ?_;intro yb ya)|(refine Z4 ?_;clear ya yb)|refine Z3 ?_|exact Zt|(apply ya.out;clear ya yb))
 refine Af (fun m s N'=>∃(i f id:Nat) (d:List Tx),m=t.length-i/\i<=t.length/\f<=i/\s 0=str t/\s 3=sl id d.length (d.map str)/\s 4=sc (.int .i64 f)/\s 5=sc (.int .i64 i)/\Keep N N'/\Own N N' id d.length/\d.length<=i/\Akc ((t.take i).foldl sB ([],[])=(d,(t.drop f).take (i-f)))) t.length
  ⟨0,0,1,[],Aj6,Aj6,Aj6,rfl,rfl,rfl,rfl,Keep.refl _,Own.nil _ _,by simp,by simp[Akc]⟩ ?_
 rintro m s N' ⟨i,f,id,d,rfl,hi,hf,h0,h3,h4,h5,hK,hO,an,hF⟩;by_cases ak:i<t.length
 ·have aa:=Agz ak;generalize t[i]=c at aa;by_cases hc:c=46
  ·have hb:((c.toNat:Int)==46)=true:=by rw[hc];rfl
   have HF:Akc ((t.take (i+1)).foldl sB ([],[])=(d++[(t.drop f).take (i+1-f)],(t.drop (i+1)).take (i+1-(i+1)))):=by
    rw[Akc,aB aa,hF.out,jF hf aa,Acu,hc];rfl
   clear hF hc
   repeat' (first|refine Z1 ?_|(refine Z8 ?_;intro yb ya)|(refine Z4 ?_;clear ya yb)|(refine Z2 ?_ ?_<;>intro h ab<;>try exact Xp)|(refine Z6 ?_;intro idn Nn ai aj ah ae af ad)|refine Z3 ?_|exact Zt|(apply ya.out;clear ya yb))
   refine⟨t.length-(i+1),Aj6,i+1,i+1,idn,d++[(t.drop f).take (i+1-f)],?_⟩
   ((repeat' refine Zi ?_ ?_)<;>first|exact Xq|exact HF|exact ((by simpa using ai))|exact Xs)
  ·have hb:((c.toNat:Int)==46)=false:=by rw[show (46:Int)=((46:UInt8).toNat:Int)from rfl,S6];simpa using hc
   have HF:Akc ((t.take (i+1)).foldl sB ([],[])=(d,(t.drop f).take (i+1-f))):=by
    rw[Akc,aB aa,hF.out,jF hf aa,sB,if_neg hc]
   clear hF hc
   repeat' (first|refine Z1 ?_|(refine Z8 ?_;intro yb ya)|(refine Z4 ?_;clear ya yb)|(refine Z2 ?_ ?_<;>intro h ab<;>try exact Xp)|refine Z3 ?_|exact Zt|(apply ya.out;clear ya yb))
   refine⟨t.length-(i+1),Aj6,i+1,f,id,d,?_⟩
   ((repeat' refine Zi ?_ ?_)<;>first|exact Xq|exact HF|exact Xs)
 ·have hil:i=t.length:=Aj6;subst hil;have ac:=hF.out;rw[Ag7,Aia (by simp)]at ac;by_cases am:f<t.length
  ·have HP:Akc (Jo t=d++[t.drop f]):=by
    rw[Akc,Jo,ac,if_neg (by intro e;have:=congrArg List.length e;simp at this;omega)]
   clear hF ac
   repeat' (first|refine Z1 ?_|(refine Z8 ?_;intro yb ya)|(refine Z4 ?_;clear ya yb)|(refine Z2 ?_ ?_<;>intro h ab<;>try exact Xp)|(refine Z6 ?_;intro idn Nn ai aj ah ae af ad)|refine Z3 ?_|exact Zt|(apply ya.out;clear ya yb))
   first|refine⟨_,rfl,⟨idn,?_⟩,aj⟩|refine⟨_,rfl,idn,?_⟩
   rw[HP.out];simp
   try rw[Aia (by simp)]
  ·have HP:Akc (Jo t=d):=by
    rw[Akc,Jo,ac,if_pos (by apply Ag5;simp;omega)]
   clear hF ac
   repeat' (first|refine Z1 ?_|(refine Z8 ?_;intro yb ya)|(refine Z4 ?_;clear ya yb)|(refine Z2 ?_ ?_<;>intro h ab<;>try exact Xp)|refine Z3 ?_|exact Zt|(apply ya.out;clear ya yb))
   first|exact⟨_,rfl,⟨id,by rw[HP.out]⟩,hK⟩|exact⟨_,rfl,id,by rw[HP.out]⟩
theorem iM (t:Tx)(c:UInt8)(ht:t.length<=100000)(N:St):ACalls Tryz.prog 28 [str t,sc (.int .u8 c.toNat)] N fun r N'=>r=sc (.int .i64 (t.count c:Nat))/\N'=N:=by
 refine Z9 21 [.tmp 4] Tryz.func28 ?_
 repeat' (first|refine Z1 ?_|(refine Z8 ?_;intro yb ya)|(refine Z4 ?_;clear ya yb)|refine Z3 ?_|exact Zt|(apply ya.out;clear ya yb))
 refine Af (fun m s N'=>∃i n:Nat,m=t.length-i/\i<=t.length/\n<=i/\s 0=str t/\s 1=sc (.int .u8 c.toNat)/\s 5=sc (.int .i64 n)/\s 6=sc (.int .i64 i)/\N'=N/\Akc ((t.take i).count c=n)) t.length
  ⟨0,0,Aj6,Aj6,Aj6,rfl,rfl,rfl,rfl,rfl,by simp[Akc]⟩ ?_
 rintro m s N' ⟨i,n,rfl,hi,hn,h0,h1,h5,h6,hN,hC⟩;by_cases ad:i<t.length
 ·have ab:=Agz ad;generalize t[i]=b at ab;have aa:(t.take (i+1)).count c=(t.take i).count c+if b=c then 1 else 0:=by
   rw[Ahd,ab,Ais,List.count_append,List.count_singleton];simp
  by_cases hc:b=c
  ·have hb:((b.toNat:Int)==(c.toNat:Int))=true:=by rw[hc];simp
   have HC:Akc ((t.take (i+1)).count c=n+1):=by rw[Akc,aa,if_pos hc,hC.out]
   clear hC hc aa
   repeat' (first|refine Z1 ?_|(refine Z8 ?_;intro yb ya)|(refine Z4 ?_;clear ya yb)|(refine Z2 ?_ ?_<;>intro h ac<;>try exact Xp)|refine Z3 ?_|exact Zt|(apply ya.out;clear ya yb))
   refine⟨t.length-(i+1),Aj6,i+1,n+1,?_⟩
   ((repeat' refine Zi ?_ ?_)<;>first|exact Xq|exact HC|exact Xs)
  ·have hb:((b.toNat:Int)==(c.toNat:Int))=false:=by rw[S6];simpa using hc
   have HC:Akc ((t.take (i+1)).count c=n):=by rw[Akc,aa,if_neg hc,hC.out];rfl
   clear hC hc aa
   repeat' (first|refine Z1 ?_|(refine Z8 ?_;intro yb ya)|(refine Z4 ?_;clear ya yb)|(refine Z2 ?_ ?_<;>intro h ac<;>try exact Xp)|refine Z3 ?_|exact Zt|(apply ya.out;clear ya yb))
   refine⟨t.length-(i+1),Aj6,i+1,n,?_⟩
   ((repeat' refine Zi ?_ ?_)<;>first|exact Xq|exact HC|exact Xs)
 ·have hil:i=t.length:=Aj6;have HC:Akc (t.count c=n):=by
   rw[Akc];have:=hC.out;rw[hil,Ag7]at this;exact this
  clear hC
  repeat' (first|refine Z1 ?_|(refine Z8 ?_;intro yb ya)|(refine Z4 ?_;clear ya yb)|(refine Z2 ?_ ?_<;>intro h ac<;>try exact Xp)|refine Z3 ?_|exact Zt|(apply ya.out;clear ya yb))
  first|exact⟨_,rfl,by rw[HC.out],by assumption⟩|exact⟨_,rfl,by rw[HC.out]⟩
end Go.Proofs.YtmoeoppbmhfbpabGreatDoorL
