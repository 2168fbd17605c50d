import Derived.Test.YtmoeoppbmhfbpabGreatDoorJEngA
set_option maxHeartbeats 16000000
set_option maxRecDepth 100000
set_option linter.all false
namespace Go.Proofs.YtmoeoppbmhfbpabGreatDoorJ
open Go.Abs
def vF (acc:List Int)(t:Tm):List Int:=if t.1=true/\t.2∉acc then acc++[t.2]else acc
def B7 (l:List C6):List Int:=(l.flatMap (·.ts)).foldl vF []
theorem xZ (acc:List Int)(t:Tm):(vF acc t).length<=acc.length+1:=by unfold vF;split<;>simp
theorem jB:∀(ts:List Tm) (acc:List Int),(ts.foldl vF acc).length<=acc.length+ts.length
 |[],acc=>by simp
 |t::ts,acc=>by
  have h1:=jB ts (vF acc t);have h2:=xZ acc t;simp only[Abr,Acf];omega
theorem jA:∀(ts:List Tm) (acc:List Int) (v:Int),v∈ts.foldl vF acc↔v∈acc\/(true,v)∈ts
 |[],acc,v=>by simp
 |t::ts,acc,v=>by
  rw[Abr,jA ts];obtain⟨b,w⟩:=t;unfold vF;by_cases h:b=true/\w∉acc
  ·rw[if_pos h];obtain⟨rfl,hw⟩:=h;simp only[Aco,Aci,Ac0,Ad5,Prod.mk.injEq,true_and];constructor
   ·rintro ((h|rfl)|h)
    ·exact .inl h
    ·exact .inr (.inl rfl)
    ·exact .inr (.inr h)
   ·rintro (h|rfl|h)
    ·exact .inl (.inl h)
    ·exact .inl (.inr rfl)
    ·exact .inr h
  ·rw[if_neg h];simp only[Aci,Prod.mk.injEq];constructor
   ·rintro (h|h)
    ·exact .inl h
    ·exact .inr (.inr h)
   ·rintro (h'|⟨rfl,rfl⟩|h')
    ·exact .inl h'
    ·by_cases hm:v∈acc
     ·exact .inl hm
     ·exact absurd ⟨rfl,hm⟩ h
    ·exact .inr h'
theorem Cr (l:List C6)(v:Int):v∈B7 l↔∃a∈l,(true,v)∈a.ts:=by
 unfold B7;rw[jA];simp[Acn]
theorem Wm:∀(l:List C6),(∀a∈l,a.ts.length<=3)->(l.flatMap (·.ts)).length<=l.length*3
 |[],_=>by simp
 |a::l,h=>by
  have h1:=h a (by simp);have h2:=Wm l (fun b hb=>h b (by simp[hb]));simp only[Acz,Ab6,Acf];omega
theorem Ec {l:List C6}(h:∀a∈l,a.ts.length<=3):(B7 l).length<=l.length*3:=by
 have h1:=jB (l.flatMap (·.ts)) [];have h2:=Wm l h;unfold B7;simp only[Ace]at h1;omega
theorem Gd (l:List C6)(cs:List AV)(idl:Nat)(hE:EL Mg l cs)(h3:∀a∈l,a.ts.length<=3)(hl:l.length<=200)(N:St):ACalls Tryz.prog 150 [sl idl l.length cs] N fun r N'=>(∃id,r=sl id (B7 l).length (icells (B7 l)))/\Keep N N':=by
 have a9:=EL.length Hi hE;refine Z9 39 [.tmp 2] Tryz.func150 ?_
 repeat' (first|refine Z1 ?_|(refine Z8 ?_;intro κ hκ)|(refine Z4 ?_;clear hκ κ)|(refine Z2 ?_ ?_<;>intro h ad<;>try exact Xp)|(refine Z6 ?_;intro idn Nn ah ai af ab ae aa)|refine Z3 ?_|exact⟨⟩|(apply hκ.out;clear hκ κ))
 refine Ad (fun m s N'=>∃(k i3:Nat) (vs:List Int),m=l.length-k/\k<=l.length/\s 3=sl i3 vs.length (icells vs)/\s 9=sl idl l.length cs/\s 10=ic l.length/\s 11=ic k/\Keep N N'/\Own N N' i3 vs.length/\vs.length<=k*3/\Aec (vs=B7 (l.take k))) l.length
  ⟨0,1,[],Ad6,Ad6,by simp[upd,icells],rfl,rfl,rfl,Xs,Own.nil _ _,by simp,by simp[Aec,B7]⟩ ?_
 rintro m s N' ⟨k,i3,vs,rfl,hk,ay,h9,a0,az,hK,hO,au,hV⟩;have ao:=hK.nobj;by_cases aw:k<l.length
 ·have ac:=List.getElem?_eq_getElem aw;obtain⟨ida,r,hd⟩:=Ip hE ac;have hb:=h3 _ (Ac2 aw);generalize l[k]=a at hd ac hb;have HG:Aec (B7 (l.take (k+1))=a.ts.foldl vF (B7 (l.take k))):=by
   rw[Aec,Abv,ac];simp[B7]
  clear ac;have a7:=Cc a.ts
  repeat' (first|refine Z1 ?_|(refine Z8 ?_;intro κ hκ)|(refine Z4 ?_;clear hκ κ)|(refine Z2 ?_ ?_<;>intro h ad<;>try exact Xp)|(refine Z6 ?_;intro idn Nn ah ai af ab ae aa)|refine Z3 ?_|exact⟨⟩|(apply hκ.out;clear hκ κ))
  refine Ad (fun m s N''=>∃(j i4:Nat) (ws:List Int),m=a.ts.length-j/\j<=a.ts.length/\s 3=sl i4 ws.length (icells ws)/\s 9=sl idl l.length cs/\s 10=ic l.length/\s 11=ic k/\s 16=sl ida a.ts.length (Ac a.ts)/\s 17=ic a.ts.length/\s 18=ic j/\Keep N N''/\Own N N'' i4 ws.length/\ws.length<=k*3+j/\Aec (ws=(a.ts.take j).foldl vF vs)) a.ts.length
   ⟨0,i3,vs,Ad6,Ad6,Ad7,Ad7,Ad7,Ad7,Ad7,Ad7,rfl,(hK.new _).put hK.nobj _,Own.put (Own.new hO _) _ _,Ad6,by simp[Aec]⟩ ?_
  clear ay h9 a0 az hK hO ao au;rintro m s N'' ⟨j,i4,ws,rfl,hj,ay,h9,a0,az,bc,bb,ba,hK,hO,au,hW⟩;have ao:=hK.nobj;have a8:=A8 ws;by_cases an:j<a.ts.length
  ·have ac:=List.getElem?_eq_getElem an;obtain⟨r2,a5⟩:=Ci ac;generalize a.ts[j]=w at a5 ac;obtain⟨w1,w2⟩:=w;have HS:Aec ((a.ts.take (j+1)).foldl vF vs=vF ((a.ts.take j).foldl vF vs) (w1,w2)):=by
    rw[Aec,Abv,ac];simp
   clear ac;have av:=Pi w2 ws;have ap:ws.length<=100000:=Ad6;cases w1 with
   |false=>
    have HN:Aec (vF ws (false,w2)=ws):=by simp[Aec,vF]
    repeat' (first|refine Z1 ?_|(refine Z8 ?_;intro κ hκ)|(refine Z4 ?_;clear hκ κ)|(refine Z2 ?_ ?_<;>intro h ad<;>try exact Xp)|(refine Z6 ?_;intro idn Nn ah ai af ab ae aa)|refine Z3 ?_|exact⟨⟩|(apply hκ.out;clear hκ κ))
    refine⟨a.ts.length-(j+1),Ad6,j+1,i4,ws,?_⟩
    ((repeat' with_reducible refine And.intro ?_ ?_)<;>first|exact Xq|exact (Own.put (Own.new hO _) _ _)|exact (by rw[Aec,HS.out,<-hW.out,HN.out])|exact Xs)
   |true=>
    by_cases hm:w2∈ws
    ·have HN:Aec (vF ws (true,w2)=ws):=by simp[Aec,vF,hm]
     have ak:decide (w2∉ws)=false:=by simp[hm]
     rw[ak]at av;clear ak hm
     repeat' (first|refine Z1 ?_|(refine Z8 ?_;intro κ hκ)|(refine Z4 ?_;clear hκ κ)|(refine Z2 ?_ ?_<;>intro h ad<;>try exact Xp)|(refine Z6 ?_;intro idn Nn ah ai af ab ae aa)|(refine Z5 ?_;refine Xi (Ex _ _ _ ap _) ?_;rintro _ _ ⟨rfl,aj⟩;(have a6:=((hK.new _).put hK.nobj _).trans aj;have ax:=Own.keep (Own.put (Own.new hO _) _ _) aj))|refine Z3 ?_|exact⟨⟩|(apply hκ.out;clear hκ κ))
     refine⟨a.ts.length-(j+1),Ad6,j+1,i4,ws,?_⟩
     ((repeat' with_reducible refine And.intro ?_ ?_)<;>first|exact Xq|exact (ax)|exact (by rw[Aec,HS.out,<-hW.out,HN.out])|exact Xs)
    ·have HN:Aec (vF ws (true,w2)=ws++[w2]):=by simp[Aec,vF,hm]
     have ak:decide (w2∉ws)=true:=by simp[hm]
     rw[ak]at av;clear ak hm
     repeat' (first|refine Z1 ?_|(refine Z8 ?_;intro κ hκ)|(refine Z4 ?_;clear hκ κ)|(refine Z2 ?_ ?_<;>intro h ad<;>try exact Xp)|(refine Z6 ?_;intro idn Nn ah ai af ab ae aa)|(refine Z5 ?_;refine Xi (Ex _ _ _ ap _) ?_;rintro _ _ ⟨rfl,aj⟩;(have a6:=((hK.new _).put hK.nobj _).trans aj;have ax:=Own.keep (Own.put (Own.new hO _) _ _) aj;have am:=aj.obj _ (show N''.nobj<_ by simp only[Ab,Aa];omega);rw[Ak]at am))|refine Z3 ?_|exact⟨⟩|(apply hκ.out;clear hκ κ))
     refine⟨a.ts.length-(j+1),Ad6,j+1,idn,ws++[w2],?_⟩
     ((repeat' with_reducible refine And.intro ?_ ?_)<;>first|exact Xq|exact (by simpa using ah)|exact (by rw[Aec,HS.out,<-hW.out,HN.out])|exact (by simp[icells])|exact Xs)
  ·have a4:j=a.ts.length:=Ad6;subst a4;rw[Abt]at hW
   repeat' (first|refine Z1 ?_|(refine Z8 ?_;intro κ hκ)|(refine Z4 ?_;clear hκ κ)|(refine Z2 ?_ ?_<;>intro h ad<;>try exact Xp)|(refine Z6 ?_;intro idn Nn ah ai af ab ae aa)|refine Z3 ?_|exact⟨⟩|(apply hκ.out;clear hκ κ))
   refine⟨l.length-(k+1),Ad6,k+1,i4,ws,?_⟩
   ((repeat' with_reducible refine And.intro ?_ ?_)<;>first|exact Xq|exact (by rw[Aec,HG.out,<-hV.out,hW.out])|exact Xs)
 ·have a3:k=l.length:=Ad6;subst a3;have hV:=hV.out;rw[Abt]at hV;subst hV
  repeat' (first|refine Z1 ?_|(refine Z8 ?_;intro κ hκ)|(refine Z4 ?_;clear hκ κ)|(refine Z2 ?_ ?_<;>intro h ad<;>try exact Xp)|(refine Z6 ?_;intro idn Nn ah ai af ab ae aa)|refine Z3 ?_|exact⟨⟩|(apply hκ.out;clear hκ κ))
  first|exact⟨_,rfl,⟨_,rfl⟩,hK⟩|exact⟨_,rfl,_,rfl⟩|exact⟨_,rfl,⟨_,rfl⟩⟩
theorem K2 {q:Qry}(hq:Me q):∀a∈atomsQ q,a.ts.length<=3:=by
 intro a ha;simp only[atomsQ,Aci,Aco,Acs]at ha;rcases ha with rfl|⟨p,hp,rfl⟩|ha
 ·exact hq.hd
 ·exact hq.pa p hp
 ·exact hq.na a ha
theorem H5 {q:Qry}(hq:Me q):(atomsQ q).length<=129:=by
 have h1:=hq.pl;have h2:=hq.nl;simp[atomsQ];omega
def Cs (q:Qry)(v:Int):Bool:=decide (1<Cv (atomsQ q) v)
theorem Nr (q:Qry)(c:List AV)(v:Int)(hc:EQ q c)(hq:Me q)(N:St):ACalls Tryz.prog 257 [ag c,ic v] N fun r N'=>r=sc (.bool (Cs q v))/\Keep N N':=by
 have hA:=fun N=>Im q c hc hq N;have ae:=K2 hq;have av:=H5 hq;have am:∃x0 x1 x2 x3,c=[x0,x1,x2,x3]/\c.all flat=true:=by
  obtain⟨ih,ip,inn,pc,nc,rfl,-,-⟩:=hc;exact⟨_,_,_,_,rfl,rfl⟩
 obtain⟨x0,x1,x2,x3,rfl,ao⟩:=am;have HL:Aec (Cs q v=decide (1<Cv (atomsQ q) v)):=rfl;generalize Cs q v=lb at*
 clear hc hq;generalize atomsQ q=l at*
 refine Z9 23 [.tmp 4] Tryz.func257 ?_
 repeat' (first|refine Z1 ?_|(refine Z8 ?_;intro κ hκ)|(refine Z4 ?_;clear hκ κ)|(refine Z2 ?_ ?_<;>intro h ac<;>try exact Xp)|(refine Z5 ?_;refine Xi (hA _) ?_;rintro _ _ ⟨ida,cs,rfl,hE,ad⟩;(have ap:=EL.length Hi hE;have ah:=((Keep.refl N).new _).trans ad))|refine Z3 ?_|exact⟨⟩|(apply hκ.out;clear hκ κ))
 refine Ad (fun m s N'=>∃i a:Nat,m=l.length-i/\i<=l.length/\s 1=ic v/\s 5=ic a/\s 9=sl ida l.length cs/\s 10=ic l.length/\s 11=ic i/\Keep N N'/\a<=i/\Aec (a=Cv (l.take i) v)) l.length
  ⟨0,0,Ad6,Ad6,rfl,rfl,rfl,rfl,rfl,ah,by simp,by simp[Aec,Cv]⟩ ?_
 clear ah ad;rintro m s N' ⟨i,a,rfl,hi,h1,h5,h9,ax,aw,hK,b1,hA⟩;have an:=hK.nobj;by_cases af:i<l.length
 ·have aa:=List.getElem?_eq_getElem af;obtain⟨id,r,hd⟩:=Ip hE aa;have hb:=ae _ (Ac2 af);generalize l[i]=w at hd aa hb;have HG:Aec (Cv (l.take (i+1)) v=Cv (l.take i) v+if A5 w.ts v then 1 else 0):=by
   rw[Aec,Abv,aa,Ac5,Cv,List.countP_append];simp[Cv,List.countP_cons]
  clear aa;have ab:w.ts.length<=1000:=Ad6
  repeat' (first|refine Z1 ?_|(refine Z8 ?_;intro κ hκ)|(refine Z4 ?_;clear hκ κ)|(refine Z2 ?_ ?_<;>intro h ac<;>try exact Xp)|(refine Z5 ?_;refine Xi (Je _ _ _ _ ab _) ?_;rintro _ _ ⟨rfl,ad⟩;(have ai:=ad.nobj;have au:=((hK.new _).put hK.nobj _).trans ad))|refine Z3 ?_|exact⟨⟩|(apply hκ.out;clear hκ κ))
  ·refine⟨l.length-(i+1),Ad6,i+1,a+1,?_⟩
   ((repeat' with_reducible refine And.intro ?_ ?_)<;>first|exact Xq|exact (by rw[Aec,HG.out,hA.out,if_pos (by assumption)])|exact Xs)
  ·refine⟨l.length-(i+1),Ad6,i+1,a,?_⟩
   ((repeat' with_reducible refine And.intro ?_ ?_)<;>first|exact Xq|exact (by rw[Aec,HG.out,hA.out,if_neg (by simp_all),Abn])|exact Xs)
 ·have aj:i=l.length:=Ad6;subst aj;have hA:=hA.out;rw[Abt]at hA;subst hA;have ak:decide ((Cv l v:Int)>1)=lb:=by rw[HL.out];congr 1;apply propext;omega
  repeat' (first|refine Z1 ?_|(refine Z8 ?_;intro κ hκ)|(refine Z4 ?_;clear hκ κ)|(refine Z2 ?_ ?_<;>intro h ac<;>try exact Xp)|refine Z3 ?_|exact⟨⟩|(apply hκ.out;clear hκ κ))
  first|exact⟨_,rfl,rfl,hK⟩|exact⟨_,rfl,rfl⟩|exact⟨_,rfl,hK⟩|exact hK|exact⟨_,rfl,by rw[<-ak]⟩
def Jd (q:Qry):Nat->List Int->Bool
 |_,[]=>true
 |n,v::vs=>if Cs q v=true then (if 1<n+1\/Cv (q.parts.map (·.a)) v=1 then false else Jd q (n+1) vs)else Jd q n vs
def idleB (q:Qry)(a:C6):Bool:=Jd q 0 (B7 [a])
theorem kY (l:List C6)(v:Int):Cv l v<=l.length:=List.countP_le_length
theorem gX (q:Qry)(c:List AV)(a:C6)(id:Nat)(ha:a.ts.length<=3)(hc:EQ q c)(hq:Me q)(N:St):ACalls Tryz.prog 266 [ag c,ag [ic a.p,sl id a.ts.length (Ac a.ts)]] N fun r N'=>r=sc (.bool (idleB q a))/\Keep N N':=by
 have hL:=fun v N=>Nr q c v hc hq N;have a0:=fun v N=>J2 q c v hc hq N;have ay:∀v,Cv (q.parts.map (·.a)) v<=64:=fun v=>by
  have h1:=kY (q.parts.map (·.a)) v;have h2:=hq.pl;simp at h1;omega
 have az:∃x0 x1 x2 x3,c=[x0,x1,x2,x3]/\c.all flat=true:=by
  obtain⟨ih,ip,inn,pc,nc,rfl,-,-⟩:=hc;exact⟨_,_,_,_,rfl,rfl⟩
 obtain⟨x0,x1,x2,x3,rfl,a6⟩:=az;have ad:=fun (i:Nat) (N:St)=>Gd [a] [ic a.p,sl id a.ts.length (Ac a.ts)] i (EL.single ⟨id,rfl⟩) (by simp;exact ha) (by simp) N;have aw:=Ec (l:=[a]) (by simp;exact ha);have HI:Aec (idleB q a=Jd q 0 (B7 [a])):=rfl;generalize idleB q a=ib at*
 generalize B7 [a]=vs at*
 have a4:=A8 vs;simp only[Acf,Ace]at aw ad;refine Z9 31 [.tmp 4] Tryz.func266 ?_
 repeat' (first|refine Z1 ?_|(refine Z8 ?_;intro κ hκ)|(refine Z4 ?_;clear hκ κ)|(refine Z2 ?_ ?_<;>intro h ae<;>try exact Xp)|(refine Z5 ?_;refine Xi (ad _ _) ?_;rintro _ _ ⟨⟨idv,rfl⟩,aa⟩;(have ao:=((((Keep.refl N).new _).new _).lay 1).trans aa;have ac:=aa.nobj;have ab:=aa.obj;(try simp only[Ag,Aa]at ac ab)))|refine Z3 ?_|exact⟨⟩|(apply hκ.out;clear hκ κ))
 rename_i N1;have ai:=ab N.nobj Ad6;rw[Ap,Ae Aea,Ao]at ai;clear ab aa
 refine Ad (fun m s N'=>∃i n:Nat,m=vs.length-i/\i<=vs.length/\s 2=ptr N.nobj 0/\s 5=ic n/\s 10=sl idv vs.length (icells vs)/\s 11=ic vs.length/\s 12=ic i/\Keep N N'/\N.nobj<N'.nobj/\N'.obj N.nobj=[x0,x1,x2,x3]/\n<=i/\Aec (ib=Jd q n (vs.drop i))) vs.length
  ⟨0,0,Ad6,Ad6,Ad8,Ad8,Ad8,Ad7,rfl,ao,Ad6,ai,by simp,by simpa[Aec]using HI.out⟩ ?_
 clear ao ai ac;rintro m s N' ⟨i,n,rfl,hi,h2,h5,bc,bb,ba,hK,a5,ob,b1,hI⟩;have a3:=hK.nobj;by_cases am:i<vs.length
 ·have ah:=List.getElem?_eq_getElem am;obtain⟨r,hd⟩:=Co ah;have aj:Aec (vs.drop i=vs[i]::vs.drop (i+1)):=Ach am;generalize vs[i]=v at hd aj;clear ah;have a7:=ay v;have af:Aec (ib=if Cs q v=true then (if 1<n+1\/Cv (q.parts.map (·.a)) v=1 then false else Jd q (n+1) (vs.drop (i+1)))else Jd q n (vs.drop (i+1))):=by
   rw[Aec,hI.out,aj.out,Jd]
  clear hI aj;cases an:Cs q v with
  |false=>
   have af:Aec (ib=Jd q n (vs.drop (i+1))):=by rw[Aec,af.out,an];simp
   repeat' (first|refine Z1 ?_|(refine Z8 ?_;intro κ hκ)|(refine Z4 ?_;clear hκ κ)|(refine Z2 ?_ ?_<;>intro h ae<;>try exact Xp)|(refine Z5 ?_;refine Xi (hL _ _) ?_;rintro _ _ ⟨rfl,aa⟩;(have ac:=aa.nobj;have ab:=aa.obj;have ap:=hK.trans aa))|refine Z3 ?_|exact⟨⟩|(apply hκ.out;clear hκ κ))
   refine⟨vs.length-(i+1),Ad6,i+1,n,?_⟩
   ((repeat' with_reducible refine And.intro ?_ ?_)<;>first|exact Xq|exact Xs)
  |true=>
   generalize a8:Cv (q.parts.map (·.a)) v=cn at*
   have af:Aec (ib=if 1<n+1\/cn=1 then false else Jd q (n+1) (vs.drop (i+1))):=by rw[Aec,af.out,an];simp
   repeat' (first|refine Z1 ?_|(refine Z8 ?_;intro κ hκ)|(refine Z4 ?_;clear hκ κ)|(refine Z2 ?_ ?_<;>intro h ae<;>try exact Xp)|(refine Z5 ?_;first|(refine Xi (hL _ _) ?_;rintro _ _ ⟨rfl,aa⟩;(have ac:=aa.nobj;have ab:=aa.obj;have ap:=hK.trans aa))|(refine Xi (a0 _ _) ?_;rintro _ _ ⟨rfl,ak⟩;(have av:=ak.nobj;have au:=ak.obj;have a9:=ap.trans ak)))|refine Z3 ?_|exact⟨⟩|(apply hκ.out;clear hκ κ))
   ·have:ib=false:=by
     rw[af.out,if_pos];right;simp only[Ad4]at h;omega
    exact⟨_,rfl,by rw[this]⟩
   ·have:ib=Jd q (n+1) (vs.drop (i+1)):=by
     rw[af.out,if_neg];simp only[beq_eq_false_iff_ne,ne_eq]at h;omega
    refine⟨vs.length-(i+1),Ad6,i+1,n+1,?_⟩
    ((repeat' with_reducible refine And.intro ?_ ?_)<;>first|exact Xq|exact (this)|exact Xs)
   ·have:ib=false:=by
     rw[af.out,if_pos];left;omega
    exact⟨_,rfl,by rw[this]⟩
 ·have ax:i=vs.length:=Ad6;subst ax;have hI:ib=true:=by rw[hI.out,List.drop_length];rfl
  subst hI
  repeat' (first|refine Z1 ?_|(refine Z8 ?_;intro κ hκ)|(refine Z4 ?_;clear hκ κ)|(refine Z2 ?_ ?_<;>intro h ae<;>try exact Xp)|refine Z3 ?_|exact⟨⟩|(apply hκ.out;clear hκ κ))
  first|exact⟨_,rfl,rfl,hK⟩|exact⟨_,rfl,rfl⟩|exact⟨_,rfl,hK⟩|exact hK
end Go.Proofs.YtmoeoppbmhfbpabGreatDoorJ
