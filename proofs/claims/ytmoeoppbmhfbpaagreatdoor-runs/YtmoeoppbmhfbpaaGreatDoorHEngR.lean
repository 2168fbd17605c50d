import Derived.Test.YtmoeoppbmhfbpaaGreatDoorHEngO
import Derived.Test.YtmoeoppbmhfbpaaGreatDoorHAbsWp
set_option maxHeartbeats 32000000
set_option maxRecDepth 100000
set_option linter.all false
namespace Go.Proofs.YtmoeoppbmhfbpaaGreatDoorH
open Go.Abs
def Hd (M:MM):List Int:=M.map fun x=>(x.2.length:Int)
theorem Y4 (om ot:Nat)(M:MM)(d b:Int)(N:St)(hM:MOb N om ot M d b):ACalls Tryz.prog 116 [ptr om 0] N fun r N'=>(∃id,r=sl id M.length (Aj (Hd M)))/\Keep N N':=by
 have au:=hM.pl;have av:=F6 M;have lo:=hM.lo;have lt:=hM.lt;have ob:=hM.ob;have oc:=hM.oc;refine Z9 23 [.tmp 2] Tryz.func116 ?_
 repeat' (first|refine Z1 ?_|(refine Z8 ?_;intro ya J)|(refine Z4 ?_;clear J ya)|(refine Z2 ?_ ?_<;>intro h ad<;>try exact Xp)|(refine Z6 ?_;intro idn Nn ai aj af ac ae ab)|refine Z3 ?_|exact Zt|(apply J.out;clear J ya))
 refine Ab (fun m s N'=>∃(i i3:Nat) (xs:List AV),m=M.length-i/\i<=M.length/\s 3=sl i3 i xs/\s 10=fx ot 0 M.length/\s 11=ic M.length/\s 12=ic i/\Keep N N'/\Own N N' i3 i/\xs.length=i/\Ad8 (xs=Aj (Hd (M.take i)))) M.length
  ⟨0,1,[],Ad2,Ad2,Ad4,Ad4,Ad4,rfl,Xs,Own.nil _ _,by simp,by simp[Ad8,Hd,Aj]⟩ ?_
 rintro m s N' ⟨i,i3,xs,rfl,hi,h3,ay,ax,aw,hK,hO,ap,hX⟩;have ao:=hK.nobj;have e2:N'.obj ot=Ez M:=by rw[hK.obj _ lt,oc]
 by_cases ah:i<M.length
 ·have aa:=Aav ah;have an:=F7 aa;have hb:=hM.ln _ (Ab1 ah);generalize M[i]=x at aa an hb;have HX:Ad8 (xs++[ic (x.2.length:Int)]=Aj (Hd (M.take (i+1)))):=by
   rw[Ad8,Aa8,aa,hX.out];simp[Hd,Aj]
  clear aa hX;have ak:xs.length=i*1:=Ad2
  repeat' (first|refine Z1 ?_|(refine Z8 ?_;intro ya J)|(refine Z4 ?_;clear J ya)|(refine Z2 ?_ ?_<;>intro h ad<;>try exact Xp)|(refine Z6 ?_;intro idn Nn ai aj af ac ae ab)|refine Z3 ?_|exact Zt|(apply J.out;clear J ya))
  refine⟨M.length-(i+1),Ad2,i+1,idn,xs++[ic (x.2.length:Int)],?_⟩
  ((repeat' refine Zi ?_ ?_)<;>first|exact Xq|exact HX|exact Xs)
 ·have am:i=M.length:=Ad2;subst am;have hX:=hX.out;rw[Aa3]at hX
  repeat' (first|refine Z1 ?_|(refine Z8 ?_;intro ya J)|(refine Z4 ?_;clear J ya)|(refine Z2 ?_ ?_<;>intro h ad<;>try exact Xp)|(refine Z6 ?_;intro idn Nn ai aj af ac ae ab)|refine Z3 ?_|exact Zt|(apply J.out;clear J ya))
  first|exact⟨_,rfl,⟨i3,by rw[hX]⟩,hK⟩|exact⟨_,rfl,i3,by rw[hX]⟩|exact⟨_,rfl,⟨i3,rfl⟩⟩
structure Lit where
 neg:Bool
 a:Ee
structure J7 where
 head:Ee
 body:List Lit
def zW (l:Lit)(c:List AV):Prop:=∃id,c=[sc (.bool l.neg),ic l.a.p,sl id l.a.ts.length (Ae l.a.ts)]
theorem Zo (a:Lit)(c:List AV)(h:zW a c):c.length=3:=by obtain⟨id,rfl⟩:=h;rfl
theorem mH {l:List Lit}{cs:List AV}{i:Nat}{p:Lit}(h:EL zW l cs)(hi:l[i]?=some p):∃id r,cs.drop (i*3)=sc (.bool p.neg)::ic p.a.p::sl id p.a.ts.length (Ae p.a.ts)::r:=by
 obtain⟨c,r,⟨id,rfl⟩,e⟩:=EL.get Zo h hi;exact⟨id,r,e⟩
def tS (r:J7)(c:List AV):Prop:=∃o ih ib bc,c=[sc (.bool o),ic r.head.p,sl ih r.head.ts.length (Ae r.head.ts),sl ib r.body.length bc]/\EL zW r.body bc
def Au (M:MM)(p:Int):List Bj:=((M[p.toNat]?).map (·.2)).getD []
def Ud (M:MM)(nw:Int)(fr:Nat)(i:Nat)(l:Lit):List Bj:=if (i:Int)=nw then (Au M l.a.p).drop fr else Au M l.a.p
def eX (M:MM)(nw:Int)(fr:Nat)(x:Lit×Nat):Part:=⟨x.1.a,(Ud M nw fr x.2 x.1).filter (Kd x.1.a.ts)⟩
def Lz (M:MM)(nw:Int)(fr:Nat)(l:List Lit):List Part:=(l.zipIdx.filter fun x=>!x.1.neg).map (eX M nw fr)
def Pt (l:List Lit):List Ee:=(l.filter (·.neg)).map (·.a)
def J6 (M:MM)(nw:Int)(fr:Nat)(r:J7):Qry:=⟨r.head,Lz M nw fr r.body,Pt r.body⟩
structure ROk (np:Nat)(r:J7):Prop where
 hd:r.head.ts.length<=3
 hp:∃k:Nat,r.head.p=(k:Int)/\k<np
 bl:r.body.length<=64
 ba:∀l∈r.body,l.a.ts.length<=3
 bp:∀l∈r.body,∃k:Nat,l.a.p=(k:Int)/\k<np
theorem oY (M:MM)(nw:Int)(fr:Nat)(l:List Lit)(w:Lit):Lz M nw fr (l++[w])=Lz M nw fr l++if w.neg=true then []else [eX M nw fr (w,l.length)]:=by
 unfold Lz;rw[List.zipIdx_append,List.filter_append,Aba];congr 1;cases h:w.neg<;>simp[h]
theorem oX (l:List Lit)(w:Lit):Pt (l++[w])=Pt l++if w.neg=true then [w.a]else []:=by
 unfold Pt;rw[List.filter_append,Aba];congr 1;cases h:w.neg<;>simp[h]
theorem Tt {α:Type}(l:List α)(fr k:Nat){x:α}(hx:l[k]?=some x):(l.take (k+1)).drop fr=(l.take k).drop fr++if fr<=k then [x]else []:=by
 have hk:=(Aau.1 hx).1;rw[Aa8,hx,Ab9,List.drop_append,Abk,Abp Ad2];congr 1;by_cases h:fr<=k
 ·rw[if_pos h,show fr-k=0 by omega];rfl
 ·rw[if_neg h,Aa0 (by simp;omega)]
def Ue (i:Nat)(nw:Int)(fr:Nat)(ts:List Tm)(l:List Bj)(j:Nat):List Bj:=(if (i:Int)=nw then (l.take j).drop fr else l.take j).filter (Kd ts)
theorem oZ {i:Nat}{nw:Int}{fr:Nat}{ts:List Tm}{l:List Bj}{j:Nat}{t:Bj}(aa:l[j]?=some t):Ue i nw fr ts l (j+1)=Ue i nw fr ts l j++if (((i:Int)≠nw\/fr<=j)/\Kd ts t=true)then [t]else []:=by
 unfold Ue;by_cases e:(i:Int)=nw
 ·rw[if_pos e,if_pos e,Tt _ _ _ aa,List.filter_append];congr 1;by_cases h1:fr<=j
  ·cases h2:Kd ts t<;>simp[h1,h2]
  ·simp[h1,e]
 ·rw[if_neg e,if_neg e,Aa8,aa,Ab9,Dn];congr 1;cases h2:Kd ts t<;>simp[e]
theorem Xx (om ot:Nat)(M:MM)(d b:Int)(r:J7)(c:List AV)(nw:Int)(fr:Nat)(hc:tS r c)(hr:ROk M.length r)(hfr:fr<=100000)(N:St)(hM:MOb N om ot M d b):ACalls Tryz.prog 130 [ptr om 0,ag c,ic nw,ic fr] N fun x N'=>(∃c',x=ag c'/\EQ (J6 M nw fr r) c')/\Keep N N':=by
 obtain⟨o,ih,ib,bc,rfl,hB⟩:=hc;have co:=EL.length Zo hB;have hl:=hr.bl;have cf:=hM.pl;have ch:=F6 M;have lo:=hM.lo;have lt:=hM.lt;have obm:=hM.ob;have ocm:=hM.oc;refine Z9 82 [.cell 8 182] Tryz.func130 ?_
 repeat' (first|refine Z1 ?_|(refine Z8 ?_;intro ya J)|(refine Z4 ?_;clear J ya)|(refine Z2 ?_ ?_<;>intro h ae<;>try exact Xp)|(refine Z6 ?_;intro idn Nn ai aj ac aa ad ab)|refine Z3 ?_|exact Zt|(apply J.out;clear J ya))
 refine Ab (fun m s N'=>∃(i i3 i5:Nat) (l1:List Part) (l2:List Ee) (xs ys:List AV),m=r.body.length-i/\i<=r.body.length/\s 0=ptr om 0/\s 2=ic nw/\s 3=ic fr/\s 8=ptr (N.nobj+1) 0/\s 9=ptr (N.nobj+2) 0/\s 19=sl ib r.body.length bc/\s 20=ic r.body.length/\s 21=ic i/\Keep N N'/\N.nobj+2<N'.nobj/\N'.obj (N.nobj+1)=[ic 0,nilS,nilS,nilS]/\N'.obj (N.nobj+2)=[ic r.head.p,sl ih r.head.ts.length (Ae r.head.ts),sl i3 l1.length xs,sl i5 l2.length ys]/\Own N N' i3 l1.length/\Own N N' i5 l2.length/\(i3=1\/i3≠i5)/\l1.length<=i/\l2.length<=i/\xs.length=l1.length*3/\ys.length=l2.length*2/\Ad8 (EL La l1 xs/\EL Ot l2 ys/\l1=Lz M nw fr (r.body.take i)/\l2=Pt (r.body.take i))) r.body.length
  ⟨0,1,1,[],[],[],[],Ad2,Ad2,by simp[upd,initS],by simp[upd,initS],by simp[upd,initS],Ad4,Ad4,Ad4,Ad4,rfl,Xs,Ad7,?_,?_,Own.nil _ _,Own.nil _ _,.inl rfl,by simp,by simp,by simp,by simp,⟨rfl,rfl,by simp[Lz],by simp[Pt]⟩⟩ ?_
 ·rw[Al Ad2,Ai Ad6,Cd Ad6 Ad6]
 ·rw[show N.nobj+2=N.nobj+1+1 from rfl,Ak];simp
 rintro m s N' ⟨i,i3,i5,l1,l2,xs,ys,rfl,hi,h0,h2,h3,h8,h9,bw,bv,bu,hK,cg,a8,a7,au,av,b7,cm,ck,b4,b3,hX⟩;have cd:=hK.nobj;have em:N'.obj om=[fx ot 0 M.length,ic d,ic b]:=by rw[hK.obj _ lo,obm]
 have et:N'.obj ot=Ez M:=by rw[hK.obj _ lt,ocm]
 by_cases bh:i<r.body.length
 ·have ah:=Aav bh;obtain⟨id,rr,hd⟩:=mH hB ah;have bn:=hr.ba _ (Ab1 bh);obtain⟨k,hk,b8⟩:=hr.bp _ (Ab1 bh);generalize r.body[i]=w at hd ah bn hk;have HA:Ad8 (Lz M nw fr (r.body.take (i+1))=Lz M nw fr (r.body.take i)++(if w.neg=true then []else [eX M nw fr (w,i)])/\Pt (r.body.take (i+1))=Pt (r.body.take i)++if w.neg=true then [w.a]else []):=by
   rw[Ad8,Aa8,ah,Ab9,oY,oX,Abk,Abp Ad2];exact⟨rfl,rfl⟩
  clear ah;cases am:w.neg with
  |true=>
   rw[am]at hd;have HX:Ad8 (EL La l1 xs/\EL Ot (l2++[w.a]) (ys++[ic w.a.p,sl id w.a.ts.length (Ae w.a.ts)])/\l1=Lz M nw fr (r.body.take (i+1))/\l2++[w.a]=Pt (r.body.take (i+1))):=by
    obtain⟨x1,x2,x3,x4⟩:=hX.out;exact⟨x1,EL.append x2 (EL.single ⟨id,rfl⟩),by rw[HA.out.1,if_pos am,Abc,x3],by rw[HA.out.2,if_pos am,x4]⟩
   clear hX HA
   repeat' (first|refine Z1 ?_|(refine Z8 ?_;intro ya J)|(refine Z4 ?_;clear J ya)|(refine Z2 ?_ ?_<;>intro h ae<;>try exact Xp)|(refine Z6 ?_;intro idn Nn ai aj ac aa ad ab)|refine Z3 ?_|exact Zt|(apply J.out;clear J ya))
   refine Gw (by first|exact Ef|exact Fc|exact Dx) ((hK.new _).put hK.nobj _) (Own.put (Own.new av _) _ _) (by decide) (by rfl) b3 (by rfl) (by rfl) (by decide) Ad2 Ad2 ?_;intro idn Nn ai aj ac aa ad ab ak;obtain⟨az,b6⟩:=ak i3 l1.length (Own.put (Own.new au _) _ _) Ad2;have bd:i3=1\/i3≠idn:=Ad2;simp only[Ac,Aa]at aa;have eob:∀p,p<N'.nobj->Nn.obj p=N'.obj p:=fun p hp=>by rw[ac,Al Ad2,Ai Ad2]
   refine Z3 ?_
   repeat' (first|refine Z1 ?_|(refine Z8 ?_;intro ya J)|(refine Z4 ?_;clear J ya)|(refine Z2 ?_ ?_<;>intro h ae<;>try exact Xp)|(refine Z6 ?_;intro idn Nn ai aj ac aa ad ab)|refine Z3 ?_|exact Zt|(apply J.out;clear J ya))
   refine⟨r.body.length-(i+1),Ad2,i+1,i3,idn,l1,l2++[w.a],xs,ys++[ic w.a.p,sl id w.a.ts.length (Ae w.a.ts)],?_⟩
   ((repeat' refine Zi ?_ ?_)<;>first|exact Xq|exact (aj.put Ad2 _)|exact (by simpa using Own.put ai _ _)|exact (Own.put az _ _)|exact HX|exact Xs)
  |false=>
   rw[am]at hd;have ap:M[k]?=some M[k]:=Aav b8;generalize M[k]=x at ap;have bk:=Aax ap;have cn:=F7 ap;have br:=hM.t3 x bk;have ci:=hM.ln x bk;have ce:=Er br;have HT:Ad8 (Au M w.a.p=x.2):=by rw[Ad8,Au,hk];simp[ap]
   rw[hk]at hd;have bo:Ad8 _:=hX
   repeat' (first|refine Z1 ?_|(refine Z8 ?_;intro ya J)|(refine Z4 ?_;clear J ya)|(refine Z2 ?_ ?_<;>intro h ae<;>try exact Xp)|(refine Z6 ?_;intro idn Nn ai aj ac aa ad ab)|refine Z3 ?_|exact Zt|(apply J.out;clear J ya))
   refine Aq Ad (fun _=>True) [] [0,1,2,3,4,5,6,7,8,9,10] [] Ad5 (fun _ _ _ h=>h) ?_;intro ya J
   repeat' (first|refine Z1 ?_|(refine Z8 ?_;intro ya J)|(refine Z4 ?_;clear J ya)|(refine Z2 ?_ ?_<;>intro h ae<;>try exact Xp)|(refine Z6 ?_;intro idn Nn ai aj ac aa ad ab)|refine Z3 ?_|exact Zt|(apply J.out;clear J ya))
   refine Ab (fun m s N2=>∃(j i6:Nat) (l3:List Bj) (zs:List AV),m=x.2.length-j/\j<=x.2.length/\s 0=ptr om 0/\s 2=ic nw/\s 3=ic fr/\s 8=ptr (N.nobj+1) 0/\s 9=ptr (N.nobj+2) 0/\s 10=ic i/\s 11=ptr N'.nobj 0/\s 12=ptr (N'.nobj+1) 0/\s 19=sl ib r.body.length bc/\s 20=ic r.body.length/\s 21=ic i/\s 46=sl x.1 x.2.length (C7 x.2)/\s 47=ic x.2.length/\s 48=ic j/\Keep N N2/\N'.nobj+1<N2.nobj/\N2.obj (N.nobj+1)=[ic 0,nilS,nilS,nilS]/\N2.obj (N.nobj+2)=[ic r.head.p,sl ih r.head.ts.length (Ae r.head.ts),sl i3 l1.length xs,sl i5 l2.length ys]/\N2.obj N'.nobj=[sc (.bool false),ic (k:Int),sl id w.a.ts.length (Ae w.a.ts)]/\N2.obj (N'.nobj+1)=[ic (k:Int),sl id w.a.ts.length (Ae w.a.ts),sl i6 l3.length zs]/\Own N N2 i3 l1.length/\Own N N2 i5 l2.length/\Own N N2 i6 l3.length/\(i6=1\/i6≠i3)/\(i6=1\/i6≠i5)/\l3.length<=j/\zs.length=l3.length*3/\Ad8 (zs=C7 l3/\l3=Ue i nw fr w.a.ts x.2 j)) x.2.length
    ⟨0,1,[],[],Ad2,Ad2,Ad3,Ad3,Ad3,Ad3,Ad3,Ad3,Ad3,Ad3,Ad3,Ad3,Ad3,Ad3,Ad3,Ad4,Xs,Ad7,?_,?_,?_,?_,Own.put (Own.new (Own.put (Own.new au _) _ _) _) _ _,Own.put (Own.new (Own.put (Own.new av _) _ _) _) _ _,Own.nil _ _,.inl rfl,.inl rfl,by simp,by simp,⟨rfl,by simp[Ue]⟩⟩ ?_
   ·rw[Al Ad2,Ai Ad7,Al Ad2,Ai Ad2,a8]
   ·rw[Al Ad2,Ai Ad7,Al Ad2,Ai Ad2,a7]
   ·rw[Al Ad2,Ai Ad7,Ak]
   ·rw[Ak];simp
   generalize bj:N'.nobj=o11 at*
   clear bj h0 h2 h3 h8 h9 bw bv bu hK a8 a7 au av em et hX;rintro m s N2 ⟨j,i6,l3,zs,rfl,hj,h0,h2,h3,h8,h9,cu,ct,cs,bw,bv,bu,cr,cq,cp,hK,b5,a8,a7,b0,bz,au,av,bi,bf,be,cj,b2,hZ⟩;have b1:=hK.nobj;by_cases bg:j<x.2.length
   ·have ah:=Aav bg;obtain⟨ax,r2,cb⟩:=Fv br ah;generalize x.2[j]=t at cb ah ax;have HD:Ad8 (Ue i nw fr w.a.ts x.2 (j+1)=Ue i nw fr w.a.ts x.2 j++if (((i:Int)≠nw\/fr<=j)/\Kd w.a.ts t=true)then [t]else []):=oZ ah;clear ah;have f1:=Dj ax;have f2:=Hc ax;have f3:=D1 ax;have f4:=G3 ax;have f5:=Cj t;have f6:=N9 ax;have a6:=fun N=>iY k id w.a.ts t ax bn N;by_cases af:(i:Int)≠nw\/fr<=j
    ·cases hf:Kd w.a.ts t with
     |true=>
      rw[hf]at a6;have HZ:Ad8 (zs++Aj t=C7 (l3++[t])/\l3++[t]=Ue i nw fr w.a.ts x.2 (j+1)):=by
       obtain⟨x1,x2⟩:=hZ.out;exact⟨by rw[x1,Ki],by rw[HD.out,if_pos ⟨af,hf⟩,x2]⟩
      clear hZ HD;have hs:((i:Int) !=nw)=true\/(((i:Int) !=nw)=false/\decide ((j:Int)>=(fr:Int))=true):=by
       by_cases e:(i:Int)=nw
       ·right;have:fr<=j:=by rcases af with h|h;exact absurd e h;exact h
        exact⟨by simp[e],by simp;omega⟩
       ·left;simpa using e
      clear af;rcases hs with a5|⟨a5,bm⟩
      all_goals
       repeat' (first|refine Z1 ?_|(refine Z8 ?_;intro ya J)|(refine Z4 ?_;clear J ya)|(refine Z2 ?_ ?_<;>intro h ae<;>try exact Xp)|(refine Z6 ?_;intro idn Nn ai aj ac aa ad ab)|(refine Z5 ?_;refine Xi (a6 _) ?_;rintro _ _ ⟨rfl,an⟩;(have aw:=an.nobj;have ao:=an.obj;have bq:=((hK.new _).put hK.nobj _).trans an;have a4:=Own.keep (Own.put (Own.new au _) _ _) an;have a3:=Own.keep (Own.put (Own.new av _) _ _) an;have a0:=Own.keep (Own.put (Own.new bi _) _ _) an;simp only[Ac,Aa]at aw ao;have a9:=ao N2.nobj Ad2;rw[Ak]at a9))|refine Z3 ?_|exact Zt|(apply J.out;clear J ya))
       refine Gw (by first|exact Ef|exact Fc|exact Dx) bq a0 (by decide) (by rfl) b2 (by rw[f1]) f5 (by decide) Ad2 Ad2 ?_;intro idn Nn ai aj ac aa ad ab ak;obtain⟨az,bd⟩:=ak i3 l1.length a4 bf;obtain⟨ay,bb⟩:=ak i5 l2.length a3 be;have eob:∀p,p<N2.nobj->Nn.obj p=N2.obj p:=fun p hp=>by rw[ac,ao _ Ad2,Al Ad2,Ai Ad2]
       refine Z3 ?_
       repeat' (first|refine Z1 ?_|(refine Z8 ?_;intro ya J)|(refine Z4 ?_;clear J ya)|(refine Z2 ?_ ?_<;>intro h ae<;>try exact Xp)|(refine Z6 ?_;intro idn Nn ai aj ac aa ad ab)|refine Z3 ?_|exact Zt|(apply J.out;clear J ya))
       refine⟨x.2.length-(j+1),Ad2,j+1,idn,l3++[t],zs++Aj t,?_⟩
       ((repeat' refine Zi ?_ ?_)<;>first|exact Xq|exact (aj.put Ad2 _)|exact (by simpa using Own.put ai _ _)|exact (Own.put az _ _)|exact (Own.put ay _ _)|exact HZ|exact Xs)
     |false=>
      rw[hf]at a6;have HZ:Ad8 (zs=C7 l3/\l3=Ue i nw fr w.a.ts x.2 (j+1)):=by
       obtain⟨x1,x2⟩:=hZ.out;exact⟨x1,by rw[HD.out,if_neg (fun h=>by rw[hf]at h;cases h.2),x2,Abc]⟩
      clear hZ HD;have hs:((i:Int) !=nw)=true\/(((i:Int) !=nw)=false/\decide ((j:Int)>=(fr:Int))=true):=by
       by_cases e:(i:Int)=nw
       ·right;have:fr<=j:=by rcases af with h|h;exact absurd e h;exact h
        exact⟨by simp[e],by simp;omega⟩
       ·left;simpa using e
      clear af;rcases hs with a5|⟨a5,bm⟩
      all_goals
       repeat' (first|refine Z1 ?_|(refine Z8 ?_;intro ya J)|(refine Z4 ?_;clear J ya)|(refine Z2 ?_ ?_<;>intro h ae<;>try exact Xp)|(refine Z6 ?_;intro idn Nn ai aj ac aa ad ab)|(refine Z5 ?_;refine Xi (a6 _) ?_;rintro _ _ ⟨rfl,an⟩;(have aw:=an.nobj;have ao:=an.obj;have bq:=((hK.new _).put hK.nobj _).trans an;have a4:=Own.keep (Own.put (Own.new au _) _ _) an;have a3:=Own.keep (Own.put (Own.new av _) _ _) an;have a0:=Own.keep (Own.put (Own.new bi _) _ _) an;simp only[Ac,Aa]at aw ao))|refine Z3 ?_|exact Zt|(apply J.out;clear J ya))
       refine⟨x.2.length-(j+1),Ad2,j+1,i6,l3,zs,?_⟩
       ((repeat' refine Zi ?_ ?_)<;>first|exact Xq|exact HZ|exact Xs)
    ·have HZ:Ad8 (zs=C7 l3/\l3=Ue i nw fr w.a.ts x.2 (j+1)):=by
      obtain⟨x1,x2⟩:=hZ.out;exact⟨x1,by rw[HD.out,if_neg (fun h=>af h.1),x2,Abc]⟩
     have a5:((i:Int) !=nw)=false:=by
      cases h:(i:Int) !=nw with
      |false=>rfl
      |true=>exact absurd (.inl (by simpa using h)) af
     have bm:decide ((j:Int)>=(fr:Int))=false:=by
      have:¬fr<=j:=fun h=>af (.inr h);simp;omega
     clear hZ HD af
     repeat' (first|refine Z1 ?_|(refine Z8 ?_;intro ya J)|(refine Z4 ?_;clear J ya)|(refine Z2 ?_ ?_<;>intro h ae<;>try exact Xp)|(refine Z6 ?_;intro idn Nn ai aj ac aa ad ab)|refine Z3 ?_|exact Zt|(apply J.out;clear J ya))
     refine⟨x.2.length-(j+1),Ad2,j+1,i6,l3,zs,?_⟩
     ((repeat' refine Zi ?_ ?_)<;>first|exact Xq|exact (Own.put (Own.new au _) _ _)|exact (Own.put (Own.new av _) _ _)|exact (Own.put (Own.new bi _) _ _)|exact HZ|exact Xs)
   ·have b9:j=x.2.length:=Ad2;subst b9;have HX:Ad8 (EL La (l1++[⟨w.a,l3⟩]) (xs++[ic (k:Int),sl id w.a.ts.length (Ae w.a.ts),sl i6 l3.length zs])/\EL Ot l2 ys/\l1++[⟨w.a,l3⟩]=Lz M nw fr (r.body.take (i+1))/\l2=Pt (r.body.take (i+1))):=by
     obtain⟨x1,x2,x3,x4⟩:=bo.out;obtain⟨z1,z2⟩:=hZ.out;refine⟨EL.append x1 (EL.single ⟨id,i6,by rw[hk,z1]⟩),x2,?_,by rw[HA.out.2,if_neg (by rw[am];simp),Abc,x4]⟩;rw[HA.out.1,if_neg (by rw[am];simp),x3];congr 2;unfold eX Ud;simp only[HT.out];rw[z2];unfold Ue;rw[Aa3]
    clear hZ bo HA;have cc:True->Own N N2 i3 l1.length:=fun _=>au;clear au
    repeat' (first|refine Z1 ?_|(refine Z8 ?_;intro ya J)|(refine Z4 ?_;clear J ya)|(refine Z2 ?_ ?_<;>intro h ae<;>try exact Xp)|(refine Z6 ?_;intro idn Nn ai aj ac aa ad ab)|refine Z3 ?_|exact Zt|(apply J.out;clear J ya))
    refine Gw (by first|exact Ef|exact Fc|exact Dx) hK (cc trivial) (by decide) (by rfl) b4 (by rfl) (by rfl) (by decide) Ad2 Ad2 ?_;intro idn Nn ai aj ac aa ad ab ak;obtain⟨ay,bb⟩:=ak i5 l2.length av b7;refine Z3 ?_
    repeat' (first|refine Z1 ?_|(refine Z8 ?_;intro ya J)|(refine Z4 ?_;clear J ya)|(refine Z2 ?_ ?_<;>intro h ae<;>try exact Xp)|(refine Z6 ?_;intro idn Nn ai aj ac aa ad ab)|refine Z3 ?_|exact Zt|(apply J.out;clear J ya))
    refine⟨r.body.length-(i+1),Ad2,i+1,idn,i5,l1++[⟨w.a,l3⟩],l2,xs++[ic (k:Int),sl id w.a.ts.length (Ae w.a.ts),sl i6 l3.length zs],ys,?_⟩
    ((repeat' refine Zi ?_ ?_)<;>first|exact Xq|exact (aj.put Ad2 _)|exact (by simpa using Own.put ai _ _)|exact (Own.put ay _ _)|exact HX|exact Xs)
 ·have ca:i=r.body.length:=Ad2;subst ca;obtain⟨x1,x2,x3,x4⟩:=hX.out;rw[Aa3]at x3 x4
  repeat' (first|refine Z1 ?_|(refine Z8 ?_;intro ya J)|(refine Z4 ?_;clear J ya)|(refine Z2 ?_ ?_<;>intro h ae<;>try exact Xp)|(refine Z6 ?_;intro idn Nn ai aj ac aa ad ab)|refine Z3 ?_|exact Zt|(apply J.out;clear J ya))
  exact⟨_,rfl,⟨_,rfl,ih,i3,i5,xs,ys,by first|(simp only[J6];done)|(simp only[J6];rw[x3,x4]),by simp only[J6];rw[<-x3];exact x1,by simp only[J6];rw[<-x4];exact x2⟩,hK.put Ad2 _⟩
abbrev Nu:=Int->Int
def H5 (ν:Nu)(t:Tm):Int:=if t.1=true then ν t.2 else t.2
def Bp (a:Ee)(ν:Nu):Bj:=C8 (a.ts.map (H5 ν))
def Lx (ν:Nu)(v n:Int):Nu:=fun w=>if w=v then n else ν w
theorem hasV_iff {ts:List Tm}{v:Int}:Bb ts v=true↔(true,v)∈ts:=by simp[Bb]
theorem Es {a:Ee}{ν ν':Nu}(h:∀v,Bb a.ts v=true->ν v=ν' v):Bp a ν=Bp a ν':=by
 unfold Bp;congr 1;apply Acn;intro t ht;unfold H5;split
 ·rename_i h1;exact h t.2 (hasV_iff.2 (by obtain⟨x,y⟩:=t;simp at h1;subst h1;exact ht))
 ·rfl
theorem I0 {l:List Int}{i:Nat}(h:i<l.length)(h3:l.length<=3):(C8 l)[i]?=some l[i]:=by
 match l,h3 with
 |[],_=>simp at h
 |[a],_=>simp at h;subst h;rfl
 |[a,b],_=>
  rcases (show i=0\/i=1 by simp at h;omega)with rfl|rfl<;>rfl
 |[a,b,c],_=>
  rcases (show i=0\/i=1\/i=2 by simp at h;omega)with rfl|rfl|rfl<;>rfl
theorem H9 {a:Ee}{ν:Nu}{v:Int}(h3:a.ts.length<=3)(hv:Bb a.ts v=true):G9 (Bp a ν) (Hw a.ts v)=ν v:=by
 have hm:=hasV_iff.1 hv;have hi:=Ade.2 hm;unfold G9 Hw;rw[if_pos hm,Adi,Bp,I0 (by simpa using hi) (by simpa using h3)];simp[H5]
theorem Jo (a:Ee)(v n:Int)(ν:Nu):Bp (E6 v n a) ν=Bp a (Lx ν v n):=by
 unfold Bp E6 Bg;congr 1;rw[Abb];apply Acn;intro t ht;obtain⟨b,w⟩:=t;show H5 ν (Ut v n (b,w))=H5 (Lx ν v n) (b,w);by_cases h:(b,w)=(true,v)
 ·cases h;simp[Ut,H5,Lx]
 ·rw[show Ut v n (b,w)=(b,w)from if_neg h];cases b with
  |false=>simp[H5]
  |true=>
   have:w≠v:=fun e=>h (by rw[e]);simp[H5,Lx,this]
theorem hasV_put {a:Ee}{v n w:Int}:Bb (E6 v n a).ts w=true↔Bb a.ts w=true/\w≠v:=by
 rw[hasV_iff,hasV_iff];unfold E6 Bg;rw[Acf];constructor
 ·rintro⟨t,ht,e⟩;unfold Ut at e;split at e
  ·cases e
  ·rename_i aa;subst e;exact⟨ht,fun e=>aa (by rw[e])⟩
 ·rintro⟨h,aa⟩;refine⟨(true,w),h,?_⟩;unfold Ut;rw[if_neg (fun e=>aa (by cases e;rfl))]
def Kf (neg:Int->Bj->Prop)(q:Qry)(ν:Nu):Prop:=(∀p∈q.parts,Bp p.a ν∈p.tups)/\∀a∈q.nots,¬neg a.p (Bp a ν)
def WP (q:Qry):Prop:=∀p∈q.parts,p.a.ts.length<=3/\∀t∈p.tups,∃μ,t=Bp p.a μ
theorem Qy {neg:Int->Bj->Prop}{q:Qry}{v n:Int}{ν:Nu}(hW:WP q):Kf neg (Cu v n q) ν↔Kf neg q (Lx ν v n):=by
 have hp:∀p∈q.parts,(Bp (Ha v n p).a ν∈(Ha v n p).tups↔Bp p.a (Lx ν v n)∈p.tups):=fun p hp=>by
  unfold Ha;by_cases hv:Bb p.a.ts v=true
  ·rw[if_pos hv];show Bp (E6 v n p.a) ν∈_↔_;rw[Jo,Ac7];constructor
   ·exact fun h=>h.1
   ·intro h;refine⟨h,?_⟩;rw[H9 (hW p hp).1 hv];simp[Lx]
  ·rw[if_neg hv]
   rw[Es (ν:=ν) (ν':=Lx ν v n) (fun w hw=>by
    unfold Lx;rw[if_neg];rintro rfl
    exact hv hw)]
 unfold Kf Cu;simp only[Acf,forall_exists_index,and_imp,forall_apply_eq_imp_iff₂];constructor
 ·rintro⟨h1,h2⟩;exact⟨fun p aa=>(hp p aa).1 (h1 p aa),fun a ha=>by have:=h2 a ha;rwa[Jo]at this⟩
 ·rintro⟨h1,h2⟩;exact⟨fun p aa=>(hp p aa).2 (h1 p aa),fun a ha=>by rw[Jo];exact h2 a ha⟩
theorem xO {q:Qry}{v n:Int}(hW:WP q):WP (Cu v n q):=by
 intro p hp;obtain⟨p0,h0,rfl⟩:=Acf.1 hp;obtain⟨h1,h2⟩:=hW p0 h0;unfold Ha;by_cases hv:Bb p0.a.ts v=true
 ·rw[if_pos hv];refine⟨by simp[Bg];exact h1,fun t ht=>?_⟩;obtain⟨ht,he⟩:=Ac7.1 ht;obtain⟨μ,rfl⟩:=h2 t ht;refine⟨μ,?_⟩;show _=Bp (E6 v n p0.a) μ;rw[Jo];apply Es;intro w hw;unfold Lx;by_cases e:w=v
  ·subst e;rw[if_pos rfl];rw[H9 h1 hv]at he;simpa using he
  ·rw[if_neg e]
 ·rw[if_neg hv];exact⟨h1,h2⟩
theorem uH {neg:Int->Bj->Prop}{q:Qry}{v:Int}{ν:Nu}(hW:WP q):Kf neg (E4 q v) ν↔Kf neg q ν:=by
 unfold Kf E4;simp only[Acf,forall_exists_index,and_imp,forall_apply_eq_imp_iff₂];constructor
 ·rintro⟨h1,h2⟩;exact⟨fun p hp=>by have:=h1 p hp;rw[O9]at this;exact Nx _ _ _ _ this,h2⟩
 ·rintro⟨h1,h2⟩;refine⟨fun p hp=>?_,h2⟩;rw[O9];unfold Ft;by_cases hv:Bb p.a.ts v=true
  ·rw[if_pos hv,Ac7];refine⟨h1 p hp,?_⟩;rw[H9 (hW p hp).1 hv];unfold Dr;rw[Aaw];intro p' ab;by_cases aa:Bb p'.a.ts v=true
   ·simp only[aa,Abr,Abt,zI,Ab0];exact⟨_,h1 p' ab,by rw[H9 (hW p' ab).1 aa];simp⟩
   ·simp[aa]
  ·rw[if_neg hv];exact h1 p hp
theorem xP {q:Qry}{v:Int}(hW:WP q):WP (E4 q v):=by
 intro p hp;obtain⟨p0,h0,rfl⟩:=Acf.1 hp;rw[O9];exact⟨(hW p0 h0).1,fun t ht=>(hW p0 h0).2 t (Nx _ _ _ t ht)⟩
theorem NarS.wp {q q':Qry}(h:NarS q q')(hW:WP q):WP q':=by
 induction h with
 |refl=>exact hW
 |tail v _ ih=>exact xP ih
theorem NarS.sol {neg:Int->Bj->Prop}{q q':Qry}(h:NarS q q')(hW:WP q)(ν:Nu):Kf neg q' ν↔Kf neg q ν:=by
 induction h with
 |refl=>exact Iff.rfl
 |tail v h ih=>exact (uH (h.wp hW)).trans ih
theorem dM (q:Qry)(v:Int):(E4 q v).parts.map (·.a)=q.parts.map (·.a):=by
 unfold E4;simp only[Abb];apply Acn;intro p _;exact O9 _ _ _
theorem NarS.atoms {q q':Qry}(h:NarS q q'):q'.parts.map (·.a)=q.parts.map (·.a)/\q'.head=q.head/\q'.nots=q.nots:=by
 induction h with
 |refl=>exact⟨rfl,rfl,rfl⟩
 |tail v _ ih=>exact⟨(dM _ _).trans ih.1,ih.2.1,ih.2.2⟩
theorem NarS.atomsQ {q q':Qry}(h:NarS q q'):atomsQ q'=atomsQ q:=by
 obtain⟨h1,h2,h3⟩:=h.atoms;unfold Go.Proofs.YtmoeoppbmhfbpaaGreatDoorH.atomsQ;rw[h1,h2,h3]
def zU (q:Qry):Prop:=∀v,∀p1∈q.parts,∀p2∈q.parts,Bb p1.a.ts v=true->Bb p2.a.ts v=true->∀t∈p1.tups,∃u∈p2.tups,G9 u (Hw p2.a.ts v)=G9 t (Hw p1.a.ts v)
theorem Sj (p:Part)(l:List Part):Cm (p::l)=p.tups.length+Cm l:=by simp[Cm]
theorem P7 (L:List Part)(v:Int):∀l:List Part,Cm (l.map (Ft L v))<=Cm l/\(Cm l<=Cm (l.map (Ft L v))->l.map (Ft L v)=l)
 |[]=>by simp[Cm]
 |p::l=>by
  obtain⟨h1,h2⟩:=P7 L v l;have h3:=dL L v p;rw[Abg,Sj,Sj];refine⟨Ad2,fun h=>?_⟩;rw[h2 Ad2];congr 1;have h4:p.tups.length<=(Ft L v p).tups.length:=Ad2;unfold Ft at h4⊢;split
  ·rename_i hv;rw[if_pos hv]at h4;simp only at h4
   have:=List.filter_eq_self.2 (fun a ha=>by
    have:=List.length_filter_eq_length_iff.1 (Nat.le_antisymm (Ac6 _ _) h4)
    exact this a ha)
   rw[this]
  ·rfl
theorem nF (q:Qry)(v:Int):Cm (O5 q v).parts<=Cm q.parts/\(Cm q.parts<=Cm (O5 q v).parts->O5 q v=q):=by
 unfold O5;split
 ·obtain⟨h1,h2⟩:=P7 q.parts v q.parts;refine⟨h1,fun h=>?_⟩;unfold E4;rw[h2 h]
 ·exact⟨Aak _,fun _=>rfl⟩
theorem cI:∀(vs:List Int) (q:Qry),Cm (fL q vs).parts<=Cm q.parts/\(Cm q.parts<=Cm (fL q vs).parts->fL q vs=q/\∀v∈vs,O5 q v=q)
 |[],q=>⟨Aak _,fun _=>⟨rfl,by simp⟩⟩
 |v::vs,q=>by
  obtain⟨h1,h2⟩:=nF q v;obtain⟨h3,h4⟩:=cI vs (O5 q v);have e:fL q (v::vs)=fL (O5 q v) vs:=rfl;rw[e];refine⟨Ad2,fun h=>?_⟩;have e2:=h2 Ad2;rw[e2]at h4⊢;obtain⟨g1,g2⟩:=h4 (by rw[e2]at h;omega);refine⟨g1,fun w hw=>?_⟩;rcases Acd.1 hw with rfl|hw
  ·exact e2
  ·exact g2 w hw
theorem K5 {l:List Ee}{v:Int}{a:Ee}(ha:a∈l)(hv:Bb a.ts v=true):0<Cz l v:=Adj.2 ⟨a,ha,hv⟩
theorem X0 {α:Type}{f:α->Bool}:∀{l:List α} {x y:α},l.countP f<=1->x∈l->y∈l->f x=true->f y=true->x=y
 |[],x,y,_,hx,_,_,_=>by cases hx
 |z::l,x,y,h,hx,hy,fx,fy=>by
  rw[Adc]at h;rcases Acd.1 hx with e1|ab
  ·rcases Acd.1 hy with e2|aa
   ·rw[e1,e2]
   ·rw[<-e1,if_pos fx]at h;have:0<l.countP f:=Adj.2 ⟨y,aa,fy⟩;omega
  ·rcases Acd.1 hy with e2|aa
   ·rw[<-e2,if_pos fy]at h;have:0<l.countP f:=Adj.2 ⟨x,ab,fx⟩;omega
   ·exact X0 Ad2 ab aa fx fy
theorem yD {q:Qry}(h:∀v∈Cg (atomsQ q),O5 q v=q):zU q:=by
 intro v p1 h1 p2 h2 aa ac t ht;by_cases hc:1<Cz (q.parts.map (·.a)) v
 ·have ae:v∈Cg (atomsQ q):=(Dk _ _).2 ⟨p1.a,by unfold Go.Proofs.YtmoeoppbmhfbpaaGreatDoorH.atomsQ;simp;right;left;exact⟨p1,h1,rfl⟩,hasV_iff.1 aa⟩;have hr:=h v ae;unfold O5 at hr;rw[if_pos hc]at hr;have hm:q.parts.map (Ft q.parts v)=q.parts:=congrArg Qry.parts hr;have hp:Ft q.parts v p1=p1:=by
   obtain⟨i,hi⟩:=Acp h1;have:(q.parts.map (Ft q.parts v))[i]?=some (Ft q.parts v p1):=by simp[hi]
   rw[hm,hi]at this;exact (Ac9 this).symm
  have ab:t∈(Ft q.parts v p1).tups:=by rw[hp];exact ht
  unfold Ft at ab;rw[if_pos aa]at ab;have:=(Ac7.1 ab).2;unfold Dr at this;rw[Aaw]at this;have:=this p2 h2;simp only[ac,Abr,Abt,zI,Ab0]at this;obtain⟨u,hu,e⟩:=this;exact⟨u,hu,by simpa using e⟩
 ·have ad:(q.parts.map (·.a)).countP (fun a=>Bb a.ts v)<=1:=by unfold Cz at hc;omega
  rw[List.countP_map]at ad;have:=X0 ad h1 h2 aa ac;subst this;exact⟨t,ht,rfl⟩
def inQ (q:Qry)(v:Int):Prop:=∃a∈atomsQ q,Bb a.ts v=true
def NE (q:Qry):Prop:=∀p∈q.parts,p.tups≠[]
def fE (q:Qry):Prop:=∀v,(Bb q.head.ts v=true\/∃a∈q.nots,Bb a.ts v=true)->∃p∈q.parts,Bb p.a.ts v=true
structure Red (neg:Int->Bj->Prop)(q q':Qry):Prop where
 hd:q'.head=q.head
 at_:∀a∈atomsQ q',a∈atomsQ q
 to:∀ν,Kf neg q ν->Kf neg q' ν
 back:∀ν,Kf neg q' ν->∃ν',Kf neg q ν'/\∀v,inQ q' v->ν' v=ν v
theorem Red.refl (neg:Int->Bj->Prop)(q:Qry):Red neg q q:=⟨rfl,fun _ h=>h,fun _ h=>h,fun ν h=>⟨ν,h,fun _ _=>rfl⟩⟩
theorem inQ.sub {q q':Qry}{v:Int}(h:∀a∈atomsQ q',a∈atomsQ q)(hv:inQ q' v):inQ q v:=by
 obtain⟨a,ha,e⟩:=hv;exact⟨a,h a ha,e⟩
theorem Red.trans {neg:Int->Bj->Prop}{q q1 q2:Qry}(h:Red neg q q1)(g:Red neg q1 q2):Red neg q q2 where
 hd:=g.hd.trans h.hd
 at_:=fun a ha=>h.at_ a (g.at_ a ha)
 to:=fun ν hν=>g.to ν (h.to ν hν)
 back:=fun ν hν=>by
  obtain⟨ν1,h1,e1⟩:=g.back ν hν;obtain⟨ν2,h2,e2⟩:=h.back ν1 h1;exact⟨ν2,h2,fun v hv=>(e2 v (hv.sub g.at_)).trans (e1 v hv)⟩
theorem Js {q:Qry}{p:Part}(h:p∈q.parts):p.a∈atomsQ q:=by
 unfold atomsQ;simp;right;left;exact⟨p,h,rfl⟩
theorem NarS.red {neg:Int->Bj->Prop}{q q':Qry}(h:NarS q q')(hW:WP q):Red neg q q':=
 ⟨h.atoms.2.1,fun a ha=>by rw[h.atomsQ]at ha;exact ha,fun ν hν=>(h.sol hW ν).2 hν,fun ν hν=>⟨ν,(h.sol hW ν).1 hν,fun _ _=>rfl⟩⟩
theorem Mu {q:Qry}:∀{vs:List Int} {n:Nat},Je q n vs=true->(∀v∈vs,Cw q v=true->n=0/\Cz (q.parts.map (·.a)) v≠1)/\∀v∈vs,∀w∈vs,Cw q v=true->Cw q w=true->v=w
 |[],n,_=>⟨(fun v hv=>by cases hv),(fun v hv=>by cases hv)⟩
 |u::vs,n,h=>by
  unfold Je at h;by_cases hl:Cw q u=true
  ·rw[if_pos hl]at h;split at h
   ·cases h
   ·rename_i hc;obtain⟨h1,h2⟩:=Mu h;have ac:∀v∈vs,¬Cw q v=true:=fun v hv aa=>by
     have:=(h1 v hv aa).1;omega
    refine⟨fun v hv aa=>?_,fun v hv w hw aa ab=>?_⟩
    ·rcases Acd.1 hv with rfl|hv
     ·exact⟨Ad2,fun e=>hc (.inr e)⟩
     ·exact absurd aa (ac v hv)
    ·rcases Acd.1 hv with e1|hv
     ·rcases Acd.1 hw with e2|hw
      ·rw[e1,e2]
      ·exact absurd ab (ac w hw)
     ·exact absurd aa (ac v hv)
  ·rw[if_neg hl]at h;obtain⟨h1,h2⟩:=Mu h;refine⟨fun v hv aa=>?_,fun v hv w hw aa ab=>?_⟩
   ·rcases Acd.1 hv with rfl|hv
    ·exact absurd aa hl
    ·exact h1 v hv aa
   ·rcases Acd.1 hv with rfl|hv
    ·exact absurd aa hl
    ·rcases Acd.1 hw with rfl|hw
     ·exact absurd ab hl
     ·exact h2 v hv w hw aa ab
theorem Ep (l m:List Ee)(v:Int):Cz (l++m) v=Cz l v+Cz m v:=Adb
theorem Gc (a:Ee)(l:List Ee)(v:Int):Cz (a::l) v=Cz l v+if Bb a.ts v=true then 1 else 0:=Adc
theorem mT {neg:Int->Bj->Prop}{q:Qry}(hW:WP q)(a5:NE q)(a4:zU q):Red neg q (Ew q)/\(∀p∈(Ew q).parts,p∈q.parts)/\(fE q->fE (Ew q)):=by
 rcases List.exists_or_eq_self_of_eraseP (fun p=>idleB q p.a) q.parts with e|⟨p,l1,l2,-,hp,e1,e2⟩
 ·have:Ew q=q:=by unfold Ew;rw[e]
  rw[this];exact⟨Red.refl _ _,fun p hp=>hp,fun h=>h⟩
 ·have hT:(Ew q).parts=l1++l2:=e2;have aa:∀p'∈(Ew q).parts,p'∈q.parts:=fun p' ab=>by
   rw[hT]at ab;rw[e1];rcases Ab2.1 ab with h|h
   ·exact Ab2.2 (.inl h)
   ·exact Ab2.2 (.inr (Acd.2 (.inr h)))
  have an:p∈q.parts:=by rw[e1];simp
  obtain⟨g1,g2⟩:=Mu (vs:=Cg [p.a]) (n:=0) hp;have au:∀v,Bb p.a.ts v=true->v∈Cg [p.a]:=fun v hv=>(Dk _ _).2 ⟨p.a,by simp,hasV_iff.1 hv⟩;have aw:∀v,Cz (atomsQ q) v=(if Bb q.head.ts v=true then 1 else 0)+Cz ((l1++l2).map (·.a)) v+(if Bb p.a.ts v=true then 1 else 0)+Cz q.nots v:=fun v=>by
   unfold atomsQ;rw[Gc,Ep,e1,Aba,Abg,Ep,Gc,Aba,Ep];omega
  have ap:∀v,Cz (q.parts.map (·.a)) v=Cz ((l1++l2).map (·.a)) v+if Bb p.a.ts v=true then 1 else 0:=fun v=>by
   rw[e1,Aba,Abg,Ep,Gc,Aba,Ep];omega
  --a variable of the part that stands elsewhere is linked
  have am:∀v,Bb p.a.ts v=true->(Bb q.head.ts v=true\/(∃p'∈l1++l2,Bb p'.a.ts v=true)\/∃a∈q.nots,Bb a.ts v=true)->Cw q v=true:=fun v hv h=>by
   unfold Cw;rw[aw v,if_pos hv];rcases h with h|⟨p',h1,h2⟩|⟨a,h1,h2⟩
   ·rw[if_pos h,Adw];omega
   ·have:=K5 (l:=(l1++l2).map (·.a)) (Acf.2 ⟨p',h1,rfl⟩) h2;rw[Adw];omega
   ·have:=K5 h1 h2;rw[Adw];omega
  have ac:∀v,Bb p.a.ts v=true->Cw q v=true->∃p'∈l1++l2,Bb p'.a.ts v=true:=fun v hv hl=>by
   have:=(g1 v (au v hv) hl).2;rw[ap v,if_pos hv]at this;have h0:0<Cz ((l1++l2).map (·.a)) v:=Ad2;obtain⟨a,ha,aj⟩:=Adj.1 h0;obtain⟨p',ab,rfl⟩:=Acf.1 ha;exact⟨p',ab,aj⟩
  have ak:∀a∈atomsQ (Ew q),a∈atomsQ q:=fun a ha=>by
   unfold atomsQ at ha⊢;simp only[Acd,Ab2,Acf]at ha⊢;rcases ha with h|⟨p',h1,rfl⟩|h
   ·exact .inl h
   ·exact .inr (.inl ⟨p',aa p' h1,rfl⟩)
   ·exact .inr (.inr h)
  refine⟨⟨rfl,ak,fun ν h=>⟨fun p' ab=>h.1 p' (aa p' ab),h.2⟩,fun ν h=>?_⟩,aa,fun az v hv=>?_⟩
  · --a tuple of the part that agrees with the rest
   have ao:∃μ,Bp p.a μ∈p.tups/\∀v,Bb p.a.ts v=true->Cw q v=true->μ v=ν v:=by
    by_cases hex:∃v,Bb p.a.ts v=true/\Cw q v=true
    ·obtain⟨v,hv,hl⟩:=hex;obtain⟨p',ab,ax⟩:=ac v hv hl;have ai:p'∈(Ew q).parts:=by rw[hT];exact ab
     have a0:=h.1 p' ai;obtain⟨u,hu,he⟩:=a4 v p' (aa p' ai) p an ax hv _ a0;rw[H9 (hW p' (aa p' ai)).1 ax]at he;obtain⟨μ,rfl⟩:=(hW p an).2 u hu;rw[H9 (hW p an).1 hv]at he;refine⟨μ,hu,fun w hw av=>?_⟩;have:=g2 w (au w hw) v (au v hv) av hl;rw[this];exact he
    ·have a3:=a5 p an;obtain⟨t,ht⟩:=List.exists_mem_of_ne_nil _ a3;obtain⟨μ,rfl⟩:=(hW p an).2 t ht;exact⟨μ,ht,fun w hw av=>absurd ⟨w,hw,av⟩ hex⟩
   obtain⟨μ,hμ,ay⟩:=ao;let ν':Nu:=fun v=>if Bb p.a.ts v=true then μ v else ν v;have ah:∀a:Ee,(∀v,Bb a.ts v=true->Bb p.a.ts v=true->Cw q v=true)->Bp a ν'=Bp a ν:=fun a ha=>Es fun v hv=>by
    show (if Bb p.a.ts v=true then μ v else ν v)=ν v;by_cases h:Bb p.a.ts v=true
    ·rw[if_pos h];exact ay v h (ha v hv h)
    ·rw[if_neg h]
   refine⟨ν',⟨fun p' ab=>?_,fun a ha=>?_⟩,fun v hv=>?_⟩
   ·rw[e1]at ab;have ad:p'=p\/p'∈l1++l2:=by
     rcases Ab2.1 ab with h|h
     ·exact .inr (Ab2.2 (.inl h))
     ·rcases Acd.1 h with h|h
      ·exact .inl h
      ·exact .inr (Ab2.2 (.inr h))
    rcases ad with rfl|af
    ·rw[Es (ν':=μ) (fun v hv=>by show (if Bb _ v=true then μ v else ν v)=μ v;rw[if_pos hv])];exact hμ
    ·rw[ah p'.a (fun v hv ae=>am v ae (.inr (.inl ⟨p',af,hv⟩)))];exact h.1 p' (by rw[hT];exact af)
   ·rw[ah a (fun v hv ae=>am v ae (.inr (.inr ⟨a,ha,hv⟩)))];exact h.2 a ha
   ·show (if Bb p.a.ts v=true then μ v else ν v)=ν v;by_cases ae:Bb p.a.ts v=true
    ·rw[if_pos ae];apply ay v ae;obtain⟨a,ha,aj⟩:=hv;unfold atomsQ at ha;simp only[Acd,Ab2,Acf]at ha;rcases ha with rfl|⟨p',h1,rfl⟩|h1
     ·exact am v ae (.inl aj)
     ·exact am v ae (.inr (.inl ⟨p',by rw[hT]at h1;exact h1,aj⟩))
     ·exact am v ae (.inr (.inr ⟨a,h1,aj⟩))
    ·rw[if_neg ae]
  ·obtain⟨p',h1,h2⟩:=az v hv;rw[e1]at h1;have ad:p'=p\/p'∈l1++l2:=by
    rcases Ab2.1 h1 with h|h
    ·exact .inr (Ab2.2 (.inl h))
    ·rcases Acd.1 h with h|h
     ·exact .inl h
     ·exact .inr (Ab2.2 (.inr h))
   rcases ad with rfl|af
   ·have hl:Cw q v=true:=am v h2 (by
     rcases hv with h|⟨a,ha,aj⟩
     ·exact .inl h
     ·exact .inr (.inr ⟨a,ha,aj⟩))
    obtain⟨p2,h3,h4⟩:=ac v h2 hl;exact⟨p2,by rw[hT];exact h3,h4⟩
   ·exact⟨p',by rw[hT];exact af,h2⟩
theorem TrimR.red {neg:Int->Bj->Prop}{q q':Qry}(h:TrimR q q')(hW:WP q)(ab:NE q)(aa:zU q):Red neg q q'/\(∀p∈q'.parts,p∈q.parts)/\(fE q->fE q'):=by
 induction h with
 |refl=>exact⟨Red.refl _ _,fun p hp=>hp,fun h=>h⟩
 |tail h ih=>
  obtain⟨i1,i2,i3⟩:=ih;obtain⟨g1,g2,g3⟩:=mT (neg:=neg) (fun p hp=>hW p (i2 p hp)) (fun p hp=>ab p (i2 p hp)) (fun v p1 h1 p2 h2=>aa v p1 (i2 p1 h1) p2 (i2 p2 h2));exact⟨i1.trans g1,fun p hp=>i2 p (g2 p hp),fun h=>g3 (i3 h)⟩
theorem We {neg:Int->Bj->Prop}{q:Qry}{rs:List Int}(hC:Ev (atomsQ q) rs rs){ν1 ν2:Nu}(h1:Kf neg (A5 q rs) ν1)(h2:Kf neg (G4 q rs) ν2):Kf neg q (fun v=>if v∈rs then ν1 v else ν2 v):=by
 have ab:∀a∈atomsQ q,H6 rs a=true->Bp a (fun v=>if v∈rs then ν1 v else ν2 v)=Bp a ν1:=fun a ha aa=>Es fun v hv=>if_pos (hC a ha aa v (hasV_iff.1 hv));have ac:∀a:Ee,H6 rs a=false->Bp a (fun v=>if v∈rs then ν1 v else ν2 v)=Bp a ν2:=fun a aa=>Es fun v hv=>if_neg fun hm=>by
  unfold H6 at aa;rw[Ab4]at aa;exact aa v hm hv
 refine⟨fun p hp=>?_,fun a ha=>?_⟩
 ·cases aa:H6 rs p.a with
  |true=>rw[ab p.a (Js hp) aa];exact h1.1 p (Ac7.2 ⟨hp,aa⟩)
  |false=>rw[ac p.a aa];exact h2.1 p (Ac7.2 ⟨hp,by simp[aa]⟩)
 ·cases aa:H6 rs a with
  |true=>rw[ab a (by unfold atomsQ;simp[ha]) aa];exact h1.2 a (Ac7.2 ⟨ha,aa⟩)
  |false=>rw[ac a aa];exact h2.2 a (Ac7.2 ⟨ha,by simp[aa]⟩)
theorem bX {neg:Int->Bj->Prop}{q:Qry}{rs:List Int}{ν:Nu}(h:Kf neg q ν):Kf neg (A5 q rs) ν:=
 ⟨fun p hp=>h.1 p (Ac7.1 hp).1,fun a ha=>h.2 a (Ac7.1 ha).1⟩
theorem lB {neg:Int->Bj->Prop}{q:Qry}{rs:List Int}{ν:Nu}(h:Kf neg q ν):Kf neg (G4 q rs) ν:=
 ⟨fun p hp=>h.1 p (Ac7.1 hp).1,fun a ha=>h.2 a (Ac7.1 ha).1⟩
theorem jV {neg:Int->Bj->Prop}{q:Qry}{v:Int}{ν:Nu}(hW:WP q)(h:Kf neg q ν)(hp:∃p∈q.parts,Bb p.a.ts v=true):ν v∈Kb q v:=by
 unfold Kb;cases hf:q.parts.find? (fun p=>Bb p.a.ts v)with
 |none=>
  obtain⟨p,h1,h2⟩:=hp;rw[Ab6]at hf;exact absurd h2 (hf p h1)
 |some p=>
  have h1:=Acb hf;have h2:Bb p.a.ts v=true:=by simpa using List.find?_some hf
  simp only;unfold Un;rw[Q8];exact .inr ⟨_,h.1 p h1,H9 (hW p h1).1 h2⟩
theorem dN:∀{l:List Part},(∀p∈l,p.tups≠[]/\∀t∈p.tups,∃μ,t=Bp p.a μ)->(∀v,Cz (l.map (·.a)) v<=1)->∃ν:Nu,∀p∈l,Bp p.a ν∈p.tups
 |[],_,_=>⟨fun _=>0,fun p hp=>by cases hp⟩
 |p::l,h,hc=>by
  obtain⟨ν,hν⟩:=dN (l:=l) (fun p' aa=>h p' (by simp[aa])) (fun v=>by
   have:=hc v;rw[Abg,Gc]at this
   omega)
  obtain⟨ac,hμ⟩:=h p (by simp);obtain⟨t,ht⟩:=List.exists_mem_of_ne_nil _ ac;obtain⟨μ,rfl⟩:=hμ t ht;refine⟨fun v=>if Bb p.a.ts v=true then μ v else ν v,fun p' aa=>?_⟩;rcases Acd.1 aa with rfl|aa
  ·rw[Es (ν':=μ) (fun v hv=>if_pos hv)];exact ht
  ·rw[Es (ν':=ν) (fun v hv=>if_neg (fun ab=>by
    have:=hc v;rw[Abg,Gc,if_pos ab]at this;have:=K5 (l:=l.map (·.a)) (Acf.2 ⟨p',aa,rfl⟩) hv
    omega))]
   exact hν p' aa
end Go.Proofs.YtmoeoppbmhfbpaaGreatDoorH
namespace Go.Abs
section
variable {P:Program} {n:Nat} {Q:Ge} {F:Nat->Prop} {A:Nat->Bool} {σ0:St} {all:List Oper}
theorem Iz {listed:Array Bool}{s:Sl}{N:St}(ts:List Nat)(m k:Nat)(L:Array Bool)(ab:k=ts.length+m)(hs:Region.noSelect all.toArray=true)(hB:yV all A L ts listed=true)(hp:∀c s N,¬Q (.panic c) s N)(aa:σ0.nobj<=N.nobj)(hk:∀o,o<σ0.nobj->F o->N.ver o=σ0.ver o)
  (h:∀K:Sl->Prop,Ad8 (∀s',M8 P n all Q F A N m L s' N->K s')->aT P n all F N K ts s):M8 P n all Q F A σ0 k listed s N:=by
 subst ab;exact jY aa hk (Yd hs hp m L ts listed s hB (h _ fun _ h=>h))
end
end Go.Abs
