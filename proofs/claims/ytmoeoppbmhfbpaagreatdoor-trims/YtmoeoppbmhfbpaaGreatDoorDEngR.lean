import Derived.Test.YtmoeoppbmhfbpaaGreatDoorDEngN
import Derived.Test.YtmoeoppbmhfbpaaGreatDoorDAbsWp
set_option maxHeartbeats 32000000
set_option maxRecDepth 100000
set_option linter.all false
namespace Go.Proofs.YtmoeoppbmhfbpaaGreatDoorD
open Go.Abs
def Gv (M:MM):List Int:=M.map fun x=>(x.2.length:Int)
theorem Pt (om ot:Nat)(M:MM)(d b:Int)(N:St)(hM:MOb N om ot M d b):ACalls Tryz.prog 116 [ptr om 0] N fun r N'=>(∃id,r=sl id M.length (Ar (Gv M)))/\Keep N N':=by
 have hpl:=hM.pl;have ao:=H6 M;have lo:=hM.lo;have lt:=hM.lt;have ob:=hM.ob;have oc:=hM.oc;refine Z9 23 [.tmp 2] Tryz.func116 ?_
 refine zz ?_
 refine Ad (fun m s N'=>∃(i i3:Nat) (xs:List AV),m=M.length-i/\i<=M.length/\s 3=sl i3 i xs/\s 10=fx ot 0 M.length/\s 11=ic M.length/\s 12=ic i/\Keep N N'/\Own N N' i3 i/\xs.length=i/\Agt (xs=Ar (Gv (M.take i)))) M.length
  ⟨0,1,[],Agm,Agm,Ago,Ago,Ago,rfl,Xs,Own.nil _ _,by simp,by simp[Agt,Gv,Ar]⟩ ?_
 rintro m s N' ⟨i,i3,xs,rfl,hi,h3,ax,aw,av,hK,hO,an,hX⟩;have am:=hK.nobj;have e2:N'.obj ot=Fs M:=by rw[hK.obj _ lt,oc]
 by_cases ac:i<M.length
 ·have aa:=Adn ac;have ai:=H7 aa;have hb:=hM.ln _ (Aes ac);generalize M[i]=x at aa ai hb;have HX:Agt (xs++[ic (x.2.length:Int)]=Ar (Gv (M.take (i+1)))):=by
   rw[Agt,Ad0,aa,hX.out];simp[Gv,Ar]
  clear aa hX;have af:xs.length=i*1:=Agm
  repeat' first|refine Z1 ?_|refine Z8 fun ya J=>?_|refine Z4 ?_;clear J ya|refine Z2 ?_ ?_<;>intro h ab<;>try exact Xp|refine Z6 ?_;intro idn Nn ap au ak ae aj ad|refine Z3 ?_|exact Zt|apply J.out;clear J ya
  refine⟨M.length-(i+1),Agm,i+1,idn,xs++[ic (x.2.length:Int)],?_⟩
  ((repeat' refine Zi ?_ ?_)<;>first|exact Xq|exact HX|exact Xs)
 ·have ah:i=M.length:=Agm;subst ah;have hX:=hX.out;rw[Adu]at hX
  repeat' first|refine Z1 ?_|refine Z8 fun ya J=>?_|refine Z4 ?_;clear J ya|refine Z2 ?_ ?_<;>intro h ab<;>try exact Xp|refine Z3 ?_|exact Zt|apply J.out;clear J ya
  first|exact⟨_,rfl,⟨i3,by rw[hX]⟩,hK⟩|exact⟨_,rfl,i3,by rw[hX]⟩|exact⟨_,rfl,⟨i3,rfl⟩⟩
structure Lit where
 neg:Bool
 a:Dy
structure J4 where
 head:Dy
 body:List Lit
def ELt (l:Lit)(c:List AV):Prop:=∃id,c=[sc (.bool l.neg),ic l.a.p,sl id l.a.ts.length (Af l.a.ts)]
theorem P4 (a:Lit)(c:List AV)(h:ELt a c):c.length=3:=by obtain⟨id,rfl⟩:=h;rfl
theorem Sb {l:List Lit}{cs:List AV}{i:Nat}{p:Lit}(h:EL ELt l cs)(hi:l[i]?=some p):∃id r,cs.drop (i*3)=sc (.bool p.neg)::ic p.a.p::sl id p.a.ts.length (Af p.a.ts)::r:=by
 obtain⟨c,r,⟨id,rfl⟩,e⟩:=EL.get P4 h hi;exact⟨id,r,e⟩
def kB (r:J4)(c:List AV):Prop:=∃o ih ib bc,c=[sc (.bool o),ic r.head.p,sl ih r.head.ts.length (Af r.head.ts),sl ib r.body.length bc]/\EL ELt r.body bc
def A6 (M:MM)(p:Int):List Cc:=((M[p.toNat]?).map (·.2)).getD []
def Vz (M:MM)(nw:Int)(fr:Nat)(i:Nat)(l:Lit):List Cc:=if (i:Int)=nw then (A6 M l.a.p).drop fr else A6 M l.a.p
def jP (M:MM)(nw:Int)(fr:Nat)(x:Lit×Nat):Part:=⟨x.1.a,(Vz M nw fr x.2 x.1).filter (K4 x.1.a.ts)⟩
def Mx (M:MM)(nw:Int)(fr:Nat)(l:List Lit):List Part:=(l.zipIdx.filter fun x=>!x.1.neg).map (jP M nw fr)
def Qs (l:List Lit):List Dy:=(l.filter (·.neg)).map (·.a)
def Ks (M:MM)(nw:Int)(fr:Nat)(r:J4):Qry:=⟨r.head,Mx M nw fr r.body,Qs r.body⟩
structure ROk (np:Nat)(r:J4):Prop where
 hd:r.head.ts.length<=3
 hp:∃k:Nat,r.head.p=(k:Int)/\k<np
 bl:r.body.length<=64
 ba:∀l∈r.body,l.a.ts.length<=3
 bp:∀l∈r.body,∃k:Nat,l.a.p=(k:Int)/\k<np
theorem tA (M:MM)(nw:Int)(fr:Nat)(l:List Lit)(w:Lit):Mx M nw fr (l++[w])=Mx M nw fr l++if w.neg=true then []else [jP M nw fr (w,l.length)]:=by
 unfold Mx;rw[List.zipIdx_append,Afy,Ad2];congr 1;cases h:w.neg<;>simp[h]
theorem sZ (l:List Lit)(w:Lit):Qs (l++[w])=Qs l++if w.neg=true then [w.a]else []:=by
 unfold Qs;rw[Afy,Ad2];congr 1;cases h:w.neg<;>simp[h]
theorem Vl {α:Type}(l:List α)(fr k:Nat){x:α}(hx:l[k]?=some x):(l.take (k+1)).drop fr=(l.take k).drop fr++if fr<=k then [x]else []:=by
 have hk:=(Adm.1 hx).1;rw[Ad0,hx,Aez,List.drop_append,Aec,Aeh Agm];congr 1;by_cases h:fr<=k
 ·rw[if_pos h,show fr-k=0 by omega];rfl
 ·rw[if_neg h,List.drop_eq_nil_of_le (by simp;omega)]
def V0 (i:Nat)(nw:Int)(fr:Nat)(ts:List Tm)(l:List Cc)(j:Nat):List Cc:=(if (i:Int)=nw then (l.take j).drop fr else l.take j).filter (K4 ts)
theorem tC {i:Nat}{nw:Int}{fr:Nat}{ts:List Tm}{l:List Cc}{j:Nat}{t:Cc}(aa:l[j]?=some t):V0 i nw fr ts l (j+1)=V0 i nw fr ts l j++if (((i:Int)≠nw\/fr<=j)/\K4 ts t=true)then [t]else []:=by
 unfold V0;by_cases e:(i:Int)=nw
 ·rw[if_pos e,if_pos e,Vl _ _ _ aa,Afy];congr 1;by_cases h1:fr<=j
  ·cases h2:K4 ts t<;>simp[h1,h2]
  ·simp[h1,e]
 ·rw[if_neg e,if_neg e,Ad0,aa,Aez,D6];congr 1;cases h2:K4 ts t<;>simp[e]
theorem aC (om ot:Nat)(M:MM)(d b:Int)(r:J4)(c:List AV)(nw:Int)(fr:Nat)(hc:kB r c)(hr:ROk M.length r)(hfr:fr<=100000)(N:St)(hM:MOb N om ot M d b):ACalls Tryz.prog 130 [ptr om 0,ag c,ic nw,ic fr] N fun x N'=>(∃c',x=ag c'/\EQ (Ks M nw fr r) c')/\Keep N N':=by
 obtain⟨o,ih,ib,bc,rfl,hB⟩:=hc;have cp:=EL.length P4 hB;have hl:=hr.bl;have hpl:=hM.pl;have ci:=H6 M;have lo:=hM.lo;have lt:=hM.lt;have obm:=hM.ob;have ocm:=hM.oc;refine Z9 82 [.cell 8 182] Tryz.func130 ?_
 refine zz ?_
 refine Ad (fun m s N'=>∃(i i3 i5:Nat) (l1:List Part) (l2:List Dy) (xs ys:List AV),m=r.body.length-i/\i<=r.body.length/\s 0=ptr om 0/\s 2=ic nw/\s 3=ic fr/\s 8=ptr (N.nobj+1) 0/\s 9=ptr (N.nobj+2) 0/\s 19=sl ib r.body.length bc/\s 20=ic r.body.length/\s 21=ic i/\Keep N N'/\N.nobj+2<N'.nobj/\N'.obj (N.nobj+1)=[ic 0,nilS,nilS,nilS]/\N'.obj (N.nobj+2)=[ic r.head.p,sl ih r.head.ts.length (Af r.head.ts),sl i3 l1.length xs,sl i5 l2.length ys]/\Own N N' i3 l1.length/\Own N N' i5 l2.length/\(i3=1\/i3≠i5)/\l1.length<=i/\l2.length<=i/\xs.length=l1.length*3/\ys.length=l2.length*2/\Agt (EL L2 l1 xs/\EL Nk l2 ys/\l1=Mx M nw fr (r.body.take i)/\l2=Qs (r.body.take i))) r.body.length
  ⟨0,1,1,[],[],[],[],Agm,Agm,by simp[upd,initS],by simp[upd,initS],by simp[upd,initS],Ago,Ago,Ago,Ago,rfl,Xs,Ags,?_,?_,Own.nil _ _,Own.nil _ _,.inl rfl,by simp,by simp,by simp,by simp,⟨rfl,rfl,by simp[Mx],by simp[Qs]⟩⟩ ?_
 ·rw[Ak Agm,Ah Agq,Ca Agq Agq]
 ·rw[show N.nobj+2=N.nobj+1+1 from rfl,Aj];simp
 rintro m s N' ⟨i,i3,i5,l1,l2,xs,ys,rfl,hi,h0,h2,h3,h8,h9,b0,bz,bw,hK,ch,a8,a7,ak,an,b9,cn,cm,b6,b5,hX⟩;have cf:=hK.nobj;have em:N'.obj om=[fx ot 0 M.length,ic d,ic b]:=by rw[hK.obj _ lo,obm]
 have et:N'.obj ot=Fs M:=by rw[hK.obj _ lt,ocm]
 by_cases bh:i<r.body.length
 ·have ab:=Adn bh;obtain⟨id,rr,hd⟩:=Sb hB ab;have bq:=hr.ba _ (Aes bh);obtain⟨k,hk,ca⟩:=hr.bp _ (Aes bh);generalize r.body[i]=w at hd ab bq hk;have HA:Agt (Mx M nw fr (r.body.take (i+1))=Mx M nw fr (r.body.take i)++(if w.neg=true then []else [jP M nw fr (w,i)])/\Qs (r.body.take (i+1))=Qs (r.body.take i)++if w.neg=true then [w.a]else []):=by
   rw[Agt,Ad0,ab,Aez,tA,sZ,Aec,Aeh Agm];exact⟨rfl,rfl⟩
  clear ab;cases ad:w.neg with
  |true=>
   rw[ad]at hd;have HX:Agt (EL L2 l1 xs/\EL Nk (l2++[w.a]) (ys++[ic w.a.p,sl id w.a.ts.length (Af w.a.ts)])/\l1=Mx M nw fr (r.body.take (i+1))/\l2++[w.a]=Qs (r.body.take (i+1))):=by
    obtain⟨x1,x2,x3,x4⟩:=hX.out;exact⟨x1,EL.append x2 (EL.single ⟨id,rfl⟩),by rw[HA.out.1,if_pos ad,Ad4,x3],by rw[HA.out.2,if_pos ad,x4]⟩
   clear hX HA
   repeat' first|refine Z1 ?_|refine Z8 fun ya J=>?_|refine Z4 ?_;clear J ya|refine Z2 ?_ ?_<;>intro h ae<;>try exact Xp|refine Z3 ?_|exact Zt
   refine G9 (by first|exact Fa|exact F5|exact Dx) ((hK.new _).put hK.nobj _) (Own.put (Own.new an _) _ _) (by decide) (by rfl) b5 (by rfl) (by rfl) (by decide) Agm Agm ?_;intro idn Nn ax a3 am ai a4 ao ac;obtain⟨aw,b8⟩:=ac i3 l1.length (Own.put (Own.new ak _) _ _) Agm;have bd:i3=1\/i3≠idn:=Agm;simp only[Ac,Aa]at ai;have eob:∀p,p<N'.nobj->Nn.obj p=N'.obj p:=fun p hp=>by rw[am,Ak Agm,Ah Agm]
   refine Z3 ?_
   refine zz ?_
   refine⟨r.body.length-(i+1),Agm,i+1,i3,idn,l1,l2++[w.a],xs,ys++[ic w.a.p,sl id w.a.ts.length (Af w.a.ts)],?_⟩
   ((repeat' refine Zi ?_ ?_)<;>first|exact Xq|exact (a3.put Agm _)|exact (by simpa using Own.put ax _ _)|exact (Own.put aw _ _)|exact HX|exact Xs)
  |false=>
   rw[ad]at hd;have aj:M[k]?=some M[k]:=Adn ca;generalize M[k]=x at aj;have bn:=Adp aj;have co:=H7 aj;have bv:=hM.t3 x bn;have cj:=hM.ln x bn;have cg:=Ir bv;have HT:Agt (A6 M w.a.p=x.2):=by rw[Agt,A6,hk];simp[aj]
   rw[hk]at hd;have br:Agt _:=hX
   repeat' first|refine Z1 ?_|refine Z8 fun ya J=>?_|refine Z4 ?_;clear J ya|refine Z2 ?_ ?_<;>intro h ae<;>try exact Xp|refine Z3 ?_|exact Zt|apply J.out;clear J ya
   refine Aw Ag (fun _=>True) [] [0,1,2,3,4,5,6,7,8,9,10] [] Agp (fun _ _ _ h=>h) ?_;intro ya J
   refine zz ?_
   refine Ad (fun m s N2=>∃(j i6:Nat) (l3:List Cc) (zs:List AV),m=x.2.length-j/\j<=x.2.length/\s 0=ptr om 0/\s 2=ic nw/\s 3=ic fr/\s 8=ptr (N.nobj+1) 0/\s 9=ptr (N.nobj+2) 0/\s 10=ic i/\s 11=ptr N'.nobj 0/\s 12=ptr (N'.nobj+1) 0/\s 19=sl ib r.body.length bc/\s 20=ic r.body.length/\s 21=ic i/\s 46=sl x.1 x.2.length (Er x.2)/\s 47=ic x.2.length/\s 48=ic j/\Keep N N2/\N'.nobj+1<N2.nobj/\N2.obj (N.nobj+1)=[ic 0,nilS,nilS,nilS]/\N2.obj (N.nobj+2)=[ic r.head.p,sl ih r.head.ts.length (Af r.head.ts),sl i3 l1.length xs,sl i5 l2.length ys]/\N2.obj N'.nobj=[sc (.bool false),ic (k:Int),sl id w.a.ts.length (Af w.a.ts)]/\N2.obj (N'.nobj+1)=[ic (k:Int),sl id w.a.ts.length (Af w.a.ts),sl i6 l3.length zs]/\Own N N2 i3 l1.length/\Own N N2 i5 l2.length/\Own N N2 i6 l3.length/\(i6=1\/i6≠i3)/\(i6=1\/i6≠i5)/\l3.length<=j/\zs.length=l3.length*3/\Agt (zs=Er l3/\l3=V0 i nw fr w.a.ts x.2 j)) x.2.length
    ⟨0,1,[],[],Agm,Agm,Agn,Agn,Agn,Agn,Agn,Agn,Agn,Agn,Agn,Agn,Agn,Agn,Agn,Ago,Xs,Ags,?_,?_,?_,?_,Own.put (Own.new (Own.put (Own.new ak _) _ _) _) _ _,Own.put (Own.new (Own.put (Own.new an _) _ _) _) _ _,Own.nil _ _,.inl rfl,.inl rfl,by simp,by simp,⟨rfl,by simp[V0]⟩⟩ ?_
   ·rw[Ak Agm,Ah Ags,Ak Agm,Ah Agm,a8]
   ·rw[Ak Agm,Ah Ags,Ak Agm,Ah Agm,a7]
   ·rw[Ak Agm,Ah Ags,Aj]
   ·rw[Aj];simp
   generalize bm:N'.nobj=o11 at*
   clear bm h0 h2 h3 h8 h9 b0 bz bw hK a8 a7 ak an em et hX;rintro m s N2 ⟨j,i6,l3,zs,rfl,hj,h0,h2,h3,h8,h9,cw,cv,cu,b0,bz,bw,ct,cr,cq,hK,b7,a8,a7,b2,b1,ak,an,bi,bf,be,ck,b4,hZ⟩;have b3:=hK.nobj;by_cases bg:j<x.2.length
   ·have ab:=Adn bg;obtain⟨au,r2,cd⟩:=Jj bv ab;generalize x.2[j]=t at cd ab au;have HD:Agt (V0 i nw fr w.a.ts x.2 (j+1)=V0 i nw fr w.a.ts x.2 j++if (((i:Int)≠nw\/fr<=j)/\K4 w.a.ts t=true)then [t]else []):=tC ab;clear ab;have f1:=Hf au;have f2:=Mk au;have f3:=Ia au;have f4:=Oa au;have f5:=Ev t;have f6:=Zv au;have a6:=fun N=>mL k id w.a.ts t au bq N;by_cases aa:(i:Int)≠nw\/fr<=j
    ·cases hf:K4 w.a.ts t with
     |true=>
      rw[hf]at a6;have HZ:Agt (zs++Ar t=Er (l3++[t])/\l3++[t]=V0 i nw fr w.a.ts x.2 (j+1)):=by
       obtain⟨x1,x2⟩:=hZ.out;exact⟨by rw[x1,O1],by rw[HD.out,if_pos ⟨aa,hf⟩,x2]⟩
      clear hZ HD;have hs:((i:Int) !=nw)=true\/(((i:Int) !=nw)=false/\decide ((j:Int)>=(fr:Int))=true):=by
       by_cases e:(i:Int)=nw
       ·right;have:fr<=j:=by rcases aa with h|h;exact absurd e h;exact h
        exact⟨by simp[e],by simp;omega⟩
       ·left;simpa using e
      clear aa;rcases hs with a5|⟨a5,bo⟩
      all_goals
       repeat' first|refine Z1 ?_|refine Z8 fun ya J=>?_|refine Z4 ?_;clear J ya|refine Z2 ?_ ?_<;>intro h ae<;>try exact Xp|refine Z5 ?_;refine Xi (a6 _) ?_;rintro _ _ ⟨rfl,af⟩;(have ap:=af.nobj;have ah:=af.obj;have bu:=((hK.new _).put hK.nobj _).trans af;have a0:=Own.keep (Own.put (Own.new ak _) _ _) af;have az:=Own.keep (Own.put (Own.new an _) _ _) af;have ay:=Own.keep (Own.put (Own.new bi _) _ _) af;simp only[Ac,Aa]at ap ah;have a9:=ah N2.nobj Agm;rw[Aj]at a9)|refine Z3 ?_|exact Zt
       refine G9 (by first|exact Fa|exact F5|exact Dx) bu ay (by decide) (by rfl) b4 (by rw[f1]) f5 (by decide) Agm Agm ?_;intro idn Nn ax a3 am ai a4 ao ac;obtain⟨aw,bd⟩:=ac i3 l1.length a0 bf;obtain⟨av,bb⟩:=ac i5 l2.length az be;have eob:∀p,p<N2.nobj->Nn.obj p=N2.obj p:=fun p hp=>by rw[am,ah _ Agm,Ak Agm,Ah Agm]
       refine Z3 ?_
       refine zz ?_
       refine⟨x.2.length-(j+1),Agm,j+1,idn,l3++[t],zs++Ar t,?_⟩
       ((repeat' refine Zi ?_ ?_)<;>first|exact Xq|exact (a3.put Agm _)|exact (by simpa using Own.put ax _ _)|exact (Own.put aw _ _)|exact (Own.put av _ _)|exact HZ|exact Xs)
     |false=>
      rw[hf]at a6;have HZ:Agt (zs=Er l3/\l3=V0 i nw fr w.a.ts x.2 (j+1)):=by
       obtain⟨x1,x2⟩:=hZ.out;exact⟨x1,by rw[HD.out,if_neg (fun h=>by rw[hf]at h;cases h.2),x2,Ad4]⟩
      clear hZ HD;have hs:((i:Int) !=nw)=true\/(((i:Int) !=nw)=false/\decide ((j:Int)>=(fr:Int))=true):=by
       by_cases e:(i:Int)=nw
       ·right;have:fr<=j:=by rcases aa with h|h;exact absurd e h;exact h
        exact⟨by simp[e],by simp;omega⟩
       ·left;simpa using e
      clear aa;rcases hs with a5|⟨a5,bo⟩
      all_goals
       repeat' first|refine Z1 ?_|refine Z8 fun ya J=>?_|refine Z4 ?_;clear J ya|refine Z2 ?_ ?_<;>intro h ae<;>try exact Xp|refine Z5 ?_;refine Xi (a6 _) ?_;rintro _ _ ⟨rfl,af⟩;(have ap:=af.nobj;have ah:=af.obj;have bu:=((hK.new _).put hK.nobj _).trans af;have a0:=Own.keep (Own.put (Own.new ak _) _ _) af;have az:=Own.keep (Own.put (Own.new an _) _ _) af;have ay:=Own.keep (Own.put (Own.new bi _) _ _) af;simp only[Ac,Aa]at ap ah)|refine Z3 ?_|exact Zt|apply J.out;clear J ya
       refine⟨x.2.length-(j+1),Agm,j+1,i6,l3,zs,?_⟩
       ((repeat' refine Zi ?_ ?_)<;>first|exact Xq|exact HZ|exact Xs)
    ·have HZ:Agt (zs=Er l3/\l3=V0 i nw fr w.a.ts x.2 (j+1)):=by
      obtain⟨x1,x2⟩:=hZ.out;exact⟨x1,by rw[HD.out,if_neg (fun h=>aa h.1),x2,Ad4]⟩
     have a5:((i:Int) !=nw)=false:=by
      cases h:(i:Int) !=nw with
      |false=>rfl
      |true=>exact absurd (.inl (by simpa using h)) aa
     have bo:decide ((j:Int)>=(fr:Int))=false:=by
      have:¬fr<=j:=fun h=>aa (.inr h);simp;omega
     clear hZ HD aa
     repeat' first|refine Z1 ?_|refine Z8 fun ya J=>?_|refine Z4 ?_;clear J ya|refine Z2 ?_ ?_<;>intro h ae<;>try exact Xp|refine Z3 ?_|exact Zt|apply J.out;clear J ya
     refine⟨x.2.length-(j+1),Agm,j+1,i6,l3,zs,?_⟩
     ((repeat' refine Zi ?_ ?_)<;>first|exact Xq|exact (Own.put (Own.new ak _) _ _)|exact (Own.put (Own.new an _) _ _)|exact (Own.put (Own.new bi _) _ _)|exact HZ|exact Xs)
   ·have cb:j=x.2.length:=Agm;subst cb;have HX:Agt (EL L2 (l1++[⟨w.a,l3⟩]) (xs++[ic (k:Int),sl id w.a.ts.length (Af w.a.ts),sl i6 l3.length zs])/\EL Nk l2 ys/\l1++[⟨w.a,l3⟩]=Mx M nw fr (r.body.take (i+1))/\l2=Qs (r.body.take (i+1))):=by
     obtain⟨x1,x2,x3,x4⟩:=br.out;obtain⟨z1,z2⟩:=hZ.out;refine⟨EL.append x1 (EL.single ⟨id,i6,by rw[hk,z1]⟩),x2,?_,by rw[HA.out.2,if_neg (by rw[ad];simp),Ad4,x4]⟩;rw[HA.out.1,if_neg (by rw[ad];simp),x3];congr 2;unfold jP Vz;simp only[HT.out];rw[z2];unfold V0;rw[Adu]
    clear hZ br HA;have ce:True->Own N N2 i3 l1.length:=fun _=>ak;clear ak
    repeat' first|refine Z1 ?_|refine Z8 fun ya J=>?_|refine Z4 ?_;clear J ya|refine Z2 ?_ ?_<;>intro h ae<;>try exact Xp|refine Z3 ?_|exact Zt
    refine G9 (by first|exact Fa|exact F5|exact Dx) hK (ce trivial) (by decide) (by rfl) b6 (by rfl) (by rfl) (by decide) Agm Agm ?_;intro idn Nn ax a3 am ai a4 ao ac;obtain⟨av,bb⟩:=ac i5 l2.length an b9;refine Z3 ?_
    refine zz ?_
    refine⟨r.body.length-(i+1),Agm,i+1,idn,i5,l1++[⟨w.a,l3⟩],l2,xs++[ic (k:Int),sl id w.a.ts.length (Af w.a.ts),sl i6 l3.length zs],ys,?_⟩
    ((repeat' refine Zi ?_ ?_)<;>first|exact Xq|exact (a3.put Agm _)|exact (by simpa using Own.put ax _ _)|exact (Own.put av _ _)|exact HX|exact Xs)
 ·have cc:i=r.body.length:=Agm;subst cc;obtain⟨x1,x2,x3,x4⟩:=hX.out;rw[Adu]at x3 x4
  repeat' first|refine Z1 ?_|refine Z8 fun ya J=>?_|refine Z4 ?_;clear J ya|refine Z2 ?_ ?_<;>intro h ae<;>try exact Xp|refine Z3 ?_|exact Zt|apply J.out;clear J ya
  exact⟨_,rfl,⟨_,rfl,ih,i3,i5,xs,ys,by first|(simp only[Ks];done)|(simp only[Ks];rw[x3,x4]),by simp only[Ks];rw[<-x3];exact x1,by simp only[Ks];rw[<-x4];exact x2⟩,hK.put Agm _⟩
abbrev Nu:=Int->Int
def D2 (ν:Nu)(t:Tm):Int:=if t.1=true then ν t.2 else t.2
def Br (a:Dy)(ν:Nu):Cc:=D3 (a.ts.map (D2 ν))
def Mu (ν:Nu)(v n:Int):Nu:=fun w=>if w=v then n else ν w
theorem hasV_iff {ts:List Tm}{v:Int}:A9 ts v=true↔(true,v)∈ts:=by simp[A9]
theorem Ez {a:Dy}{ν ν':Nu}(h:∀v,A9 a.ts v=true->ν v=ν' v):Br a ν=Br a ν':=by
 unfold Br;congr 1;apply Afa;intro t ht;unfold D2;split
 ·rename_i h1;exact h t.2 (hasV_iff.2 (by obtain⟨x,y⟩:=t;simp at h1;subst h1;exact ht))
 ·rfl
theorem Jh {l:List Int}{i:Nat}(h:i<l.length)(h3:l.length<=3):(D3 l)[i]?=some l[i]:=by
 match l,h3 with
 |[],_=>simp at h
 |[a],_=>simp at h;subst h;rfl
 |[a,b],_=>
  rcases (show i=0\/i=1 by simp at h;omega)with rfl|rfl<;>rfl
 |[a,b,c],_=>
  rcases (show i=0\/i=1\/i=2 by simp at h;omega)with rfl|rfl|rfl<;>rfl
theorem Is {a:Dy}{ν:Nu}{v:Int}(h3:a.ts.length<=3)(hv:A9 a.ts v=true):Hk (Br a ν) (Ig a.ts v)=ν v:=by
 have hm:=hasV_iff.1 hv;have hi:=List.idxOf_lt_length_iff.2 hm;unfold Hk Ig;rw[if_pos hm,Af3,Br,Jh (by simpa using hi) (by simpa using h3)];simp[D2]
theorem Kb (a:Dy)(v n:Int)(ν:Nu):Br (Fi v n a) ν=Br a (Mu ν v n):=by
 unfold Br Fi Bg;congr 1;rw[Ad3];apply Afa;intro t ht;obtain⟨b,w⟩:=t;show D2 ν (Wo v n (b,w))=D2 (Mu ν v n) (b,w);by_cases h:(b,w)=(true,v)
 ·cases h;simp[Wo,D2,Mu]
 ·rw[show Wo v n (b,w)=(b,w)from if_neg h];cases b with
  |false=>simp[D2]
  |true=>
   have:w≠v:=fun e=>h (by rw[e]);simp[D2,Mu,this]
theorem hasV_put {a:Dy}{v n w:Int}:A9 (Fi v n a).ts w=true↔A9 a.ts w=true/\w≠v:=by
 rw[hasV_iff,hasV_iff];unfold Fi Bg;rw[Ae4];constructor
 ·rintro⟨t,ht,e⟩;unfold Wo at e;split at e
  ·cases e
  ·rename_i aa;subst e;exact⟨ht,fun e=>aa (by rw[e])⟩
 ·rintro⟨h,aa⟩;refine⟨(true,w),h,?_⟩;unfold Wo;rw[if_neg (fun e=>aa (by cases e;rfl))]
def K5 (neg:Int->Cc->Prop)(q:Qry)(ν:Nu):Prop:=(∀p∈q.parts,Br p.a ν∈p.tups)/\∀a∈q.nots,¬neg a.p (Br a ν)
def WP (q:Qry):Prop:=∀p∈q.parts,p.a.ts.length<=3/\∀t∈p.tups,∃μ,t=Br p.a μ
theorem R4 {neg:Int->Cc->Prop}{q:Qry}{v n:Int}{ν:Nu}(hW:WP q):K5 neg (C7 v n q) ν↔K5 neg q (Mu ν v n):=by
 have hp:∀p∈q.parts,(Br (Hl v n p).a ν∈(Hl v n p).tups↔Br p.a (Mu ν v n)∈p.tups):=fun p hp=>by
  unfold Hl;by_cases hv:A9 p.a.ts v=true
  ·rw[if_pos hv];show Br (Fi v n p.a) ν∈_↔_;rw[Kb,Afz];constructor
   ·exact fun h=>h.1
   ·intro h;refine⟨h,?_⟩;rw[Is (hW p hp).1 hv];simp[Mu]
  ·rw[if_neg hv]
   rw[Ez (ν:=ν) (ν':=Mu ν v n) (fun w hw=>by
    unfold Mu;rw[if_neg];rintro rfl
    exact hv hw)]
 unfold K5 C7;simp only[Ae4,forall_exists_index,and_imp,forall_apply_eq_imp_iff₂];constructor
 ·rintro⟨h1,h2⟩;exact⟨fun p aa=>(hp p aa).1 (h1 p aa),fun a ha=>by have:=h2 a ha;rwa[Kb]at this⟩
 ·rintro⟨h1,h2⟩;exact⟨fun p aa=>(hp p aa).2 (h1 p aa),fun a ha=>by rw[Kb];exact h2 a ha⟩
theorem Abd {q:Qry}{v n:Int}(hW:WP q):WP (C7 v n q):=by
 intro p hp;obtain⟨p0,h0,rfl⟩:=Ae4.1 hp;obtain⟨h1,h2⟩:=hW p0 h0;unfold Hl;by_cases hv:A9 p0.a.ts v=true
 ·rw[if_pos hv];refine⟨by simp[Bg];exact h1,fun t ht=>?_⟩;obtain⟨ht,he⟩:=Afz.1 ht;obtain⟨μ,rfl⟩:=h2 t ht;refine⟨μ,?_⟩;show _=Br (Fi v n p0.a) μ;rw[Kb];apply Ez;intro w hw;unfold Mu;by_cases e:w=v
  ·subst e;rw[if_pos rfl];rw[Is h1 hv]at he;simpa using he
  ·rw[if_neg e]
 ·rw[if_neg hv];exact⟨h1,h2⟩
theorem yX {neg:Int->Cc->Prop}{q:Qry}{v:Int}{ν:Nu}(hW:WP q):K5 neg (Fh q v) ν↔K5 neg q ν:=by
 unfold K5 Fh;simp only[Ae4,forall_exists_index,and_imp,forall_apply_eq_imp_iff₂];constructor
 ·rintro⟨h1,h2⟩;exact⟨fun p hp=>by have:=h1 p hp;rw[Qj]at this;exact Pd _ _ _ _ this,h2⟩
 ·rintro⟨h1,h2⟩;refine⟨fun p hp=>?_,h2⟩;rw[Qj];unfold F2;by_cases hv:A9 p.a.ts v=true
  ·rw[if_pos hv,Afz];refine⟨h1 p hp,?_⟩;rw[Is (hW p hp).1 hv];unfold Dt;rw[Ado];intro p' ab;by_cases aa:A9 p'.a.ts v=true
   ·simp only[aa,Aej,Aek,occ,Aer];exact⟨_,h1 p' ab,by rw[Is (hW p' ab).1 aa];simp⟩
   ·simp[aa]
  ·rw[if_neg hv];exact h1 p hp
theorem Abe {q:Qry}{v:Int}(hW:WP q):WP (Fh q v):=by
 intro p hp;obtain⟨p0,h0,rfl⟩:=Ae4.1 hp;rw[Qj];exact⟨(hW p0 h0).1,fun t ht=>(hW p0 h0).2 t (Pd _ _ _ t ht)⟩
theorem NarS.wp {q q':Qry}(h:NarS q q')(hW:WP q):WP q':=by
 induction h with
 |refl=>exact hW
 |tail v _ ih=>exact Abe ih
theorem NarS.sol {neg:Int->Cc->Prop}{q q':Qry}(h:NarS q q')(hW:WP q)(ν:Nu):K5 neg q' ν↔K5 neg q ν:=by
 induction h with
 |refl=>exact Iff.rfl
 |tail v h ih=>exact (yX (h.wp hW)).trans ih
theorem iF (q:Qry)(v:Int):(Fh q v).parts.map (·.a)=q.parts.map (·.a):=by
 unfold Fh;simp only[Ad3];apply Afa;intro p _;exact Qj _ _ _
theorem NarS.atoms {q q':Qry}(h:NarS q q'):q'.parts.map (·.a)=q.parts.map (·.a)/\q'.head=q.head/\q'.nots=q.nots:=by
 induction h with
 |refl=>exact⟨rfl,rfl,rfl⟩
 |tail v _ ih=>exact⟨(iF _ _).trans ih.1,ih.2.1,ih.2.2⟩
theorem NarS.atomsQ {q q':Qry}(h:NarS q q'):atomsQ q'=atomsQ q:=by
 obtain⟨h1,h2,h3⟩:=h.atoms;unfold Go.Proofs.YtmoeoppbmhfbpaaGreatDoorD.atomsQ;rw[h1,h2,h3]
def Nrw (q:Qry):Prop:=∀v,∀p1∈q.parts,∀p2∈q.parts,A9 p1.a.ts v=true->A9 p2.a.ts v=true->∀t∈p1.tups,∃u∈p2.tups,Hk u (Ig p2.a.ts v)=Hk t (Ig p1.a.ts v)
theorem T2 (p:Part)(l:List Part):Cy (p::l)=p.tups.length+Cy l:=by simp[Cy]
theorem Q6 (L:List Part)(v:Int):∀l:List Part,Cy (l.map (F2 L v))<=Cy l/\(Cy l<=Cy (l.map (F2 L v))->l.map (F2 L v)=l)
 |[]=>by simp[Cy]
 |p::l=>by
  obtain⟨h1,h2⟩:=Q6 L v l;have h3:=iE L v p;rw[Ad7,T2,T2];refine⟨Agm,fun h=>?_⟩;rw[h2 Agm];congr 1;have h4:p.tups.length<=(F2 L v p).tups.length:=Agm;unfold F2 at h4⊢;split
  ·rename_i hv;rw[if_pos hv]at h4;simp only at h4
   have:=List.filter_eq_self.2 (fun a ha=>by
    have:=List.length_filter_eq_length_iff.1 (Nat.le_antisymm (Af0 _ _) h4)
    exact this a ha)
   rw[this]
  ·rfl
theorem rD (q:Qry)(v:Int):Cy (Qf q v).parts<=Cy q.parts/\(Cy q.parts<=Cy (Qf q v).parts->Qf q v=q):=by
 unfold Qf;split
 ·obtain⟨h1,h2⟩:=Q6 q.parts v q.parts;refine⟨h1,fun h=>?_⟩;unfold Fh;rw[h2 h]
 ·exact⟨Adc _,fun _=>rfl⟩
theorem fR:∀(vs:List Int) (q:Qry),Cy (jZ q vs).parts<=Cy q.parts/\(Cy q.parts<=Cy (jZ q vs).parts->jZ q vs=q/\∀v∈vs,Qf q v=q)
 |[],q=>⟨Adc _,fun _=>⟨rfl,by simp⟩⟩
 |v::vs,q=>by
  obtain⟨h1,h2⟩:=rD q v;obtain⟨h3,h4⟩:=fR vs (Qf q v);have e:jZ q (v::vs)=jZ (Qf q v) vs:=rfl;rw[e];refine⟨Agm,fun h=>?_⟩;have e2:=h2 Agm;rw[e2]at h4⊢;obtain⟨g1,g2⟩:=h4 (by rw[e2]at h;omega);refine⟨g1,fun w hw=>?_⟩;rcases Ae2.1 hw with rfl|hw
  ·exact e2
  ·exact g2 w hw
theorem Lw {l:List Dy}{v:Int}{a:Dy}(ha:a∈l)(hv:A9 a.ts v=true):0<Df l v:=Af4.2 ⟨a,ha,hv⟩
theorem aF {α:Type}{f:α->Bool}:∀{l:List α} {x y:α},l.countP f<=1->x∈l->y∈l->f x=true->f y=true->x=y
 |[],x,y,_,hx,_,_,_=>by cases hx
 |z::l,x,y,h,hx,hy,fx,fy=>by
  rw[Afx]at h;rcases Ae2.1 hx with e1|ab
  ·rcases Ae2.1 hy with e2|aa
   ·rw[e1,e2]
   ·rw[<-e1,if_pos fx]at h;have:0<l.countP f:=Af4.2 ⟨y,aa,fy⟩;omega
  ·rcases Ae2.1 hy with e2|aa
   ·rw[<-e2,if_pos fy]at h;have:0<l.countP f:=Af4.2 ⟨x,ab,fx⟩;omega
   ·exact aF Agm ab aa fx fy
theorem Abp {q:Qry}(h:∀v∈Cn (atomsQ q),Qf q v=q):Nrw q:=by
 intro v p1 h1 p2 h2 aa ac t ht;by_cases hc:1<Df (q.parts.map (·.a)) v
 ·have ae:v∈Cn (atomsQ q):=(Dp _ _).2 ⟨p1.a,by unfold Go.Proofs.YtmoeoppbmhfbpaaGreatDoorD.atomsQ;simp;right;left;exact⟨p1,h1,rfl⟩,hasV_iff.1 aa⟩;have hr:=h v ae;unfold Qf at hr;rw[if_pos hc]at hr;have hm:q.parts.map (F2 q.parts v)=q.parts:=congrArg Qry.parts hr;have hp:F2 q.parts v p1=p1:=by
   obtain⟨i,hi⟩:=Afc h1;have:(q.parts.map (F2 q.parts v))[i]?=some (F2 q.parts v p1):=by simp[hi]
   rw[hm,hi]at this;exact (Afm this).symm
  have ab:t∈(F2 q.parts v p1).tups:=by rw[hp];exact ht
  unfold F2 at ab;rw[if_pos aa]at ab;have:=(Afz.1 ab).2;unfold Dt at this;rw[Ado]at this;have:=this p2 h2;simp only[ac,Aej,Aek,occ,Aer]at this;obtain⟨u,hu,e⟩:=this;exact⟨u,hu,by simpa using e⟩
 ·have ad:(q.parts.map (·.a)).countP (fun a=>A9 a.ts v)<=1:=by unfold Df at hc;omega
  rw[List.countP_map]at ad;have:=aF ad h1 h2 aa ac;subst this;exact⟨t,ht,rfl⟩
def inQ (q:Qry)(v:Int):Prop:=∃a∈atomsQ q,A9 a.ts v=true
def NE (q:Qry):Prop:=∀p∈q.parts,p.tups≠[]
def jW (q:Qry):Prop:=∀v,(A9 q.head.ts v=true\/∃a∈q.nots,A9 a.ts v=true)->∃p∈q.parts,A9 p.a.ts v=true
structure Red (neg:Int->Cc->Prop)(q q':Qry):Prop where
 hd:q'.head=q.head
 at_:∀a∈atomsQ q',a∈atomsQ q
 to:∀ν,K5 neg q ν->K5 neg q' ν
 back:∀ν,K5 neg q' ν->∃ν',K5 neg q ν'/\∀v,inQ q' v->ν' v=ν v
theorem Red.refl (neg:Int->Cc->Prop)(q:Qry):Red neg q q:=⟨rfl,fun _ h=>h,fun _ h=>h,fun ν h=>⟨ν,h,fun _ _=>rfl⟩⟩
theorem inQ.sub {q q':Qry}{v:Int}(h:∀a∈atomsQ q',a∈atomsQ q)(hv:inQ q' v):inQ q v:=by
 obtain⟨a,ha,e⟩:=hv;exact⟨a,h a ha,e⟩
theorem Red.trans {neg:Int->Cc->Prop}{q q1 q2:Qry}(h:Red neg q q1)(g:Red neg q1 q2):Red neg q q2 where
 hd:=g.hd.trans h.hd
 at_:=fun a ha=>h.at_ a (g.at_ a ha)
 to:=fun ν hν=>g.to ν (h.to ν hν)
 back:=fun ν hν=>by
  obtain⟨ν1,h1,e1⟩:=g.back ν hν;obtain⟨ν2,h2,e2⟩:=h.back ν1 h1;exact⟨ν2,h2,fun v hv=>(e2 v (hv.sub g.at_)).trans (e1 v hv)⟩
theorem Kf {q:Qry}{p:Part}(h:p∈q.parts):p.a∈atomsQ q:=by
 unfold atomsQ;simp;right;left;exact⟨p,h,rfl⟩
theorem NarS.red {neg:Int->Cc->Prop}{q q':Qry}(h:NarS q q')(hW:WP q):Red neg q q':=
 ⟨h.atoms.2.1,fun a ha=>by rw[h.atomsQ]at ha;exact ha,fun ν hν=>(h.sol hW ν).2 hν,fun ν hν=>⟨ν,(h.sol hW ν).1 hν,fun _ _=>rfl⟩⟩
theorem N9 {q:Qry}:∀{vs:List Int} {n:Nat},Jw q n vs=true->(∀v∈vs,Dd q v=true->n=0/\Df (q.parts.map (·.a)) v≠1)/\∀v∈vs,∀w∈vs,Dd q v=true->Dd q w=true->v=w
 |[],n,_=>⟨(fun v hv=>by cases hv),(fun v hv=>by cases hv)⟩
 |u::vs,n,h=>by
  unfold Jw at h;by_cases hl:Dd q u=true
  ·rw[if_pos hl]at h;split at h
   ·cases h
   ·rename_i hc;obtain⟨h1,h2⟩:=N9 h;have ac:∀v∈vs,¬Dd q v=true:=fun v hv aa=>by
     have:=(h1 v hv aa).1;omega
    refine⟨fun v hv aa=>?_,fun v hv w hw aa ab=>?_⟩
    ·rcases Ae2.1 hv with rfl|hv
     ·exact⟨Agm,fun e=>hc (.inr e)⟩
     ·exact absurd aa (ac v hv)
    ·rcases Ae2.1 hv with e1|hv
     ·rcases Ae2.1 hw with e2|hw
      ·rw[e1,e2]
      ·exact absurd ab (ac w hw)
     ·exact absurd aa (ac v hv)
  ·rw[if_neg hl]at h;obtain⟨h1,h2⟩:=N9 h;refine⟨fun v hv aa=>?_,fun v hv w hw aa ab=>?_⟩
   ·rcases Ae2.1 hv with rfl|hv
    ·exact absurd aa hl
    ·exact h1 v hv aa
   ·rcases Ae2.1 hv with rfl|hv
    ·exact absurd aa hl
    ·rcases Ae2.1 hw with rfl|hw
     ·exact absurd ab hl
     ·exact h2 v hv w hw aa ab
theorem Ew (l m:List Dy)(v:Int):Df (l++m) v=Df l v+Df m v:=Afw
theorem Gw (a:Dy)(l:List Dy)(v:Int):Df (a::l) v=Df l v+if A9 a.ts v=true then 1 else 0:=Afx
theorem qT {neg:Int->Cc->Prop}{q:Qry}(hW:WP q)(a5:NE q)(a4:Nrw q):Red neg q (E8 q)/\(∀p∈(E8 q).parts,p∈q.parts)/\(jW q->jW (E8 q)):=by
 rcases List.exists_or_eq_self_of_eraseP (fun p=>idleB q p.a) q.parts with e|⟨p,l1,l2,-,hp,e1,e2⟩
 ·have:E8 q=q:=by unfold E8;rw[e]
  rw[this];exact⟨Red.refl _ _,fun p hp=>hp,fun h=>h⟩
 ·have hT:(E8 q).parts=l1++l2:=e2;have aa:∀p'∈(E8 q).parts,p'∈q.parts:=fun p' ab=>by
   rw[hT]at ab;rw[e1];rcases Aet.1 ab with h|h
   ·exact Aet.2 (.inl h)
   ·exact Aet.2 (.inr (Ae2.2 (.inr h)))
  have an:p∈q.parts:=by rw[e1];simp
  obtain⟨g1,g2⟩:=N9 (vs:=Cn [p.a]) (n:=0) hp;have au:∀v,A9 p.a.ts v=true->v∈Cn [p.a]:=fun v hv=>(Dp _ _).2 ⟨p.a,by simp,hasV_iff.1 hv⟩;have aw:∀v,Df (atomsQ q) v=(if A9 q.head.ts v=true then 1 else 0)+Df ((l1++l2).map (·.a)) v+(if A9 p.a.ts v=true then 1 else 0)+Df q.nots v:=fun v=>by
   unfold atomsQ;rw[Gw,Ew,e1,Ad2,Ad7,Ew,Gw,Ad2,Ew];omega
  have ap:∀v,Df (q.parts.map (·.a)) v=Df ((l1++l2).map (·.a)) v+if A9 p.a.ts v=true then 1 else 0:=fun v=>by
   rw[e1,Ad2,Ad7,Ew,Gw,Ad2,Ew];omega
  --a variable of the part that stands elsewhere is linked
  have am:∀v,A9 p.a.ts v=true->(A9 q.head.ts v=true\/(∃p'∈l1++l2,A9 p'.a.ts v=true)\/∃a∈q.nots,A9 a.ts v=true)->Dd q v=true:=fun v hv h=>by
   unfold Dd;rw[aw v,if_pos hv];rcases h with h|⟨p',h1,h2⟩|⟨a,h1,h2⟩
   ·rw[if_pos h,Age];omega
   ·have:=Lw (l:=(l1++l2).map (·.a)) (Ae4.2 ⟨p',h1,rfl⟩) h2;rw[Age];omega
   ·have:=Lw h1 h2;rw[Age];omega
  have ac:∀v,A9 p.a.ts v=true->Dd q v=true->∃p'∈l1++l2,A9 p'.a.ts v=true:=fun v hv hl=>by
   have:=(g1 v (au v hv) hl).2;rw[ap v,if_pos hv]at this;have h0:0<Df ((l1++l2).map (·.a)) v:=Agm;obtain⟨a,ha,aj⟩:=Af4.1 h0;obtain⟨p',ab,rfl⟩:=Ae4.1 ha;exact⟨p',ab,aj⟩
  have ak:∀a∈atomsQ (E8 q),a∈atomsQ q:=fun a ha=>by
   unfold atomsQ at ha⊢;simp only[Ae2,Aet,Ae4]at ha⊢;rcases ha with h|⟨p',h1,rfl⟩|h
   ·exact .inl h
   ·exact .inr (.inl ⟨p',aa p' h1,rfl⟩)
   ·exact .inr (.inr h)
  refine⟨⟨rfl,ak,fun ν h=>⟨fun p' ab=>h.1 p' (aa p' ab),h.2⟩,fun ν h=>?_⟩,aa,fun az v hv=>?_⟩
  · --a tuple of the part that agrees with the rest
   have ao:∃μ,Br p.a μ∈p.tups/\∀v,A9 p.a.ts v=true->Dd q v=true->μ v=ν v:=by
    by_cases hex:∃v,A9 p.a.ts v=true/\Dd q v=true
    ·obtain⟨v,hv,hl⟩:=hex;obtain⟨p',ab,ax⟩:=ac v hv hl;have ai:p'∈(E8 q).parts:=by rw[hT];exact ab
     have a0:=h.1 p' ai;obtain⟨u,hu,he⟩:=a4 v p' (aa p' ai) p an ax hv _ a0;rw[Is (hW p' (aa p' ai)).1 ax]at he;obtain⟨μ,rfl⟩:=(hW p an).2 u hu;rw[Is (hW p an).1 hv]at he;refine⟨μ,hu,fun w hw av=>?_⟩;have:=g2 w (au w hw) v (au v hv) av hl;rw[this];exact he
    ·have a3:=a5 p an;obtain⟨t,ht⟩:=List.exists_mem_of_ne_nil _ a3;obtain⟨μ,rfl⟩:=(hW p an).2 t ht;exact⟨μ,ht,fun w hw av=>absurd ⟨w,hw,av⟩ hex⟩
   obtain⟨μ,hμ,ay⟩:=ao;let ν':Nu:=fun v=>if A9 p.a.ts v=true then μ v else ν v;have ah:∀a:Dy,(∀v,A9 a.ts v=true->A9 p.a.ts v=true->Dd q v=true)->Br a ν'=Br a ν:=fun a ha=>Ez fun v hv=>by
    show (if A9 p.a.ts v=true then μ v else ν v)=ν v;by_cases h:A9 p.a.ts v=true
    ·rw[if_pos h];exact ay v h (ha v hv h)
    ·rw[if_neg h]
   refine⟨ν',⟨fun p' ab=>?_,fun a ha=>?_⟩,fun v hv=>?_⟩
   ·rw[e1]at ab;have ad:p'=p\/p'∈l1++l2:=by
     rcases Aet.1 ab with h|h
     ·exact .inr (Aet.2 (.inl h))
     ·rcases Ae2.1 h with h|h
      ·exact .inl h
      ·exact .inr (Aet.2 (.inr h))
    rcases ad with rfl|af
    ·rw[Ez (ν':=μ) (fun v hv=>by show (if A9 _ v=true then μ v else ν v)=μ v;rw[if_pos hv])];exact hμ
    ·rw[ah p'.a (fun v hv ae=>am v ae (.inr (.inl ⟨p',af,hv⟩)))];exact h.1 p' (by rw[hT];exact af)
   ·rw[ah a (fun v hv ae=>am v ae (.inr (.inr ⟨a,ha,hv⟩)))];exact h.2 a ha
   ·show (if A9 p.a.ts v=true then μ v else ν v)=ν v;by_cases ae:A9 p.a.ts v=true
    ·rw[if_pos ae];apply ay v ae;obtain⟨a,ha,aj⟩:=hv;unfold atomsQ at ha;simp only[Ae2,Aet,Ae4]at ha;rcases ha with rfl|⟨p',h1,rfl⟩|h1
     ·exact am v ae (.inl aj)
     ·exact am v ae (.inr (.inl ⟨p',by rw[hT]at h1;exact h1,aj⟩))
     ·exact am v ae (.inr (.inr ⟨a,h1,aj⟩))
    ·rw[if_neg ae]
  ·obtain⟨p',h1,h2⟩:=az v hv;rw[e1]at h1;have ad:p'=p\/p'∈l1++l2:=by
    rcases Aet.1 h1 with h|h
    ·exact .inr (Aet.2 (.inl h))
    ·rcases Ae2.1 h with h|h
     ·exact .inl h
     ·exact .inr (Aet.2 (.inr h))
   rcases ad with rfl|af
   ·have hl:Dd q v=true:=am v h2 (by
     rcases hv with h|⟨a,ha,aj⟩
     ·exact .inl h
     ·exact .inr (.inr ⟨a,ha,aj⟩))
    obtain⟨p2,h3,h4⟩:=ac v h2 hl;exact⟨p2,by rw[hT];exact h3,h4⟩
   ·exact⟨p',by rw[hT];exact af,h2⟩
theorem TrimR.red {neg:Int->Cc->Prop}{q q':Qry}(h:TrimR q q')(hW:WP q)(ab:NE q)(aa:Nrw q):Red neg q q'/\(∀p∈q'.parts,p∈q.parts)/\(jW q->jW q'):=by
 induction h with
 |refl=>exact⟨Red.refl _ _,fun p hp=>hp,fun h=>h⟩
 |tail h ih=>
  obtain⟨i1,i2,i3⟩:=ih;obtain⟨g1,g2,g3⟩:=qT (neg:=neg) (fun p hp=>hW p (i2 p hp)) (fun p hp=>ab p (i2 p hp)) (fun v p1 h1 p2 h2=>aa v p1 (i2 p1 h1) p2 (i2 p2 h2));exact⟨i1.trans g1,fun p hp=>i2 p (g2 p hp),fun h=>g3 (i3 h)⟩
theorem Yy {neg:Int->Cc->Prop}{q:Qry}{rs:List Int}(hC:E7 (atomsQ q) rs rs){ν1 ν2:Nu}(h1:K5 neg (A7 q rs) ν1)(h2:K5 neg (Hg q rs) ν2):K5 neg q (fun v=>if v∈rs then ν1 v else ν2 v):=by
 have ab:∀a∈atomsQ q,Ip rs a=true->Br a (fun v=>if v∈rs then ν1 v else ν2 v)=Br a ν1:=fun a ha aa=>Ez fun v hv=>if_pos (hC a ha aa v (hasV_iff.1 hv));have ac:∀a:Dy,Ip rs a=false->Br a (fun v=>if v∈rs then ν1 v else ν2 v)=Br a ν2:=fun a aa=>Ez fun v hv=>if_neg fun hm=>by
  unfold Ip at aa;rw[Aev]at aa;exact aa v hm hv
 refine⟨fun p hp=>?_,fun a ha=>?_⟩
 ·cases aa:Ip rs p.a with
  |true=>rw[ab p.a (Kf hp) aa];exact h1.1 p (Afz.2 ⟨hp,aa⟩)
  |false=>rw[ac p.a aa];exact h2.1 p (Afz.2 ⟨hp,by simp[aa]⟩)
 ·cases aa:Ip rs a with
  |true=>rw[ab a (by unfold atomsQ;simp[ha]) aa];exact h1.2 a (Afz.2 ⟨ha,aa⟩)
  |false=>rw[ac a aa];exact h2.2 a (Afz.2 ⟨ha,by simp[aa]⟩)
theorem fK {neg:Int->Cc->Prop}{q:Qry}{rs:List Int}{ν:Nu}(h:K5 neg q ν):K5 neg (A7 q rs) ν:=
 ⟨fun p hp=>h.1 p (Afz.1 hp).1,fun a ha=>h.2 a (Afz.1 ha).1⟩
theorem oV {neg:Int->Cc->Prop}{q:Qry}{rs:List Int}{ν:Nu}(h:K5 neg q ν):K5 neg (Hg q rs) ν:=
 ⟨fun p hp=>h.1 p (Afz.1 hp).1,fun a ha=>h.2 a (Afz.1 ha).1⟩
theorem nQ {neg:Int->Cc->Prop}{q:Qry}{v:Int}{ν:Nu}(hW:WP q)(h:K5 neg q ν)(hp:∃p∈q.parts,A9 p.a.ts v=true):ν v∈K0 q v:=by
 unfold K0;cases hf:q.parts.find? (fun p=>A9 p.a.ts v)with
 |none=>
  obtain⟨p,h1,h2⟩:=hp;rw[Aex]at hf;exact absurd h2 (hf p h1)
 |some p=>
  have h1:=Ae1 hf;have h2:A9 p.a.ts v=true:=by simpa using List.find?_some hf
  simp only;unfold Wi;rw[Sp];exact .inr ⟨_,h.1 p h1,Is (hW p h1).1 h2⟩
theorem iG:∀{l:List Part},(∀p∈l,p.tups≠[]/\∀t∈p.tups,∃μ,t=Br p.a μ)->(∀v,Df (l.map (·.a)) v<=1)->∃ν:Nu,∀p∈l,Br p.a ν∈p.tups
 |[],_,_=>⟨fun _=>0,fun p hp=>by cases hp⟩
 |p::l,h,hc=>by
  obtain⟨ν,hν⟩:=iG (l:=l) (fun p' aa=>h p' (by simp[aa])) (fun v=>by
   have:=hc v;rw[Ad7,Gw]at this
   omega)
  obtain⟨ac,hμ⟩:=h p (by simp);obtain⟨t,ht⟩:=List.exists_mem_of_ne_nil _ ac;obtain⟨μ,rfl⟩:=hμ t ht;refine⟨fun v=>if A9 p.a.ts v=true then μ v else ν v,fun p' aa=>?_⟩;rcases Ae2.1 aa with rfl|aa
  ·rw[Ez (ν':=μ) (fun v hv=>if_pos hv)];exact ht
  ·rw[Ez (ν':=ν) (fun v hv=>if_neg (fun ab=>by
    have:=hc v;rw[Ad7,Gw,if_pos ab]at this;have:=Lw (l:=l.map (·.a)) (Ae4.2 ⟨p',aa,rfl⟩) hv
    omega))]
   exact hν p' aa
end Go.Proofs.YtmoeoppbmhfbpaaGreatDoorD
namespace Go.Abs
section
variable {P:Program} {n:Nat} {Q:Ha} {F:Nat->Prop} {A:Nat->Bool} {σ0:St} {all:List Oper}
theorem Gq {listed:Array Bool}{s:Sl}{N:St}(ts:List Nat)(m k:Nat)(L:Array Bool)(ab:k=ts.length+m)(hs:Region.noSelect all.toArray=true)(hB:tsT all A L ts listed=true)(hp:∀c s N,¬Q (.panic c) s N)(aa:σ0.nobj<=N.nobj)(hk:∀o,o<σ0.nobj->F o->N.ver o=σ0.ver o)
  (h:∀K:Sl->Prop,Agt (∀s',Ol P n all Q F A N m L s' N->K s')->aT P n all F N K ts s):Ol P n all Q F A σ0 k listed s N:=by
 subst ab;exact nU aa hk (aW hs hp m L ts listed s hB (h _ fun _ h=>h))
end
end Go.Abs
