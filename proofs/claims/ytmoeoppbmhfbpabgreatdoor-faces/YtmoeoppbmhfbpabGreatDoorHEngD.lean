import Derived.Test.YtmoeoppbmhfbpabGreatDoorHEngA
set_option linter.all false
namespace Go.Proofs.YtmoeoppbmhfbpabGreatDoorH
set_option maxHeartbeats 16000000
open Go.Abs
set_option maxRecDepth 100000
def vF (acc:List Int)(t:Tm):List Int:=if t.1=true/\t.2∉acc then acc++[t.2]else acc
def Cb (l:List C3):List Int:=(l.flatMap (·.ts)).foldl vF []
theorem yF (acc:List Int)(t:Tm):(vF acc t).length<=acc.length+1:=by unfold vF;split<;>simp
theorem iW:∀(ts:List Tm) (acc:List Int),(ts.foldl vF acc).length<=acc.length+ts.length
 |[],acc=>by simp
 |t::ts,acc=>by
  have h1:=iW ts (vF acc t);have h2:=yF acc t;simp only[Abm,Aca];omega
theorem iV:∀(ts:List Tm) (acc:List Int) (v:Int),v∈ts.foldl vF acc↔v∈acc\/(true,v)∈ts
 |[],acc,v=>by simp
 |t::ts,acc,v=>by
  rw[Abm,iV ts];obtain⟨b,w⟩:=t;unfold vF;by_cases h:b=true/\w∉acc
  ·rw[if_pos h];obtain⟨rfl,hw⟩:=h;simp only[Ack,Ace,Acx,Adz,Prod.mk.injEq,true_and];constructor
   ·rintro ((h|rfl)|h)
    ·exact .inl h
    ·exact .inr (.inl rfl)
    ·exact .inr (.inr h)
   ·rintro (h|rfl|h)
    ·exact .inl (.inl h)
    ·exact .inl (.inr rfl)
    ·exact .inr h
  ·rw[if_neg h];simp only[Ace,Prod.mk.injEq];constructor
   ·rintro (h|h)
    ·exact .inl h
    ·exact .inr (.inr h)
   ·rintro (h'|⟨rfl,rfl⟩|h')
    ·exact .inl h'
    ·by_cases hm:v∈acc
     ·exact .inl hm
     ·exact absurd ⟨rfl,hm⟩ h
    ·exact .inr h'
theorem Cv (l:List C3)(v:Int):v∈Cb l↔∃a∈l,(true,v)∈a.ts:=by
 unfold Cb;rw[iV];simp[Acj]
theorem Wm:∀(l:List C3),(∀a∈l,a.ts.length<=3)->(l.flatMap (·.ts)).length<=l.length*3
 |[],_=>by simp
 |a::l,h=>by
  have h1:=h a (by simp);have h2:=Wm l (fun b hb=>h b (by simp[hb]));simp only[Acv,Ab2,Aca];omega
theorem Eh {l:List C3}(h:∀a∈l,a.ts.length<=3):(Cb l).length<=l.length*3:=by
 have h1:=iW (l.flatMap (·.ts)) [];have h2:=Wm l h;unfold Cb;simp only[Ab9]at h1;omega
theorem F6 (l:List C3)(cs:List AV)(idl:Nat)(hE:EL Lk l cs)(h3:∀a∈l,a.ts.length<=3)(hl:l.length<=200)(N:St):ACalls Tryz.prog 150 [sl idl l.length cs] N fun r N'=>(∃id,r=sl id (Cb l).length (Ar (Cb l)))/\Keep N N':=by
 have a8:=EL.length G4 hE;refine Z9 39 [.tmp 2] Tryz.func150 ?_
 repeat' (first|refine Z1 ?_|(refine Z8 ?_;intro κ hκ)|(refine Z4 ?_;clear hκ κ)|(refine Z2 ?_ ?_<;>intro h ad<;>try exact Xp)|(refine Z6 ?_;intro idn Nn ah ai af ab ae aa)|refine Z3 ?_|exact⟨⟩|(apply hκ.out;clear hκ κ))
 refine Ad (fun m s N'=>∃(k i3:Nat) (vs:List Int),m=l.length-k/\k<=l.length/\s 3=sl i3 vs.length (Ar vs)/\s 9=sl idl l.length cs/\s 10=ic l.length/\s 11=ic k/\Keep N N'/\Own N N' i3 vs.length/\vs.length<=k*3/\Ad8 (vs=Cb (l.take k))) l.length
  ⟨0,1,[],Ad2,Ad2,by simp[upd,Ar],rfl,rfl,rfl,Xs,Own.nil _ _,by simp,by simp[Ad8,Cb]⟩ ?_
 rintro m s N' ⟨k,i3,vs,rfl,hk,ax,h9,az,ay,hK,hO,ar,hV⟩;have ao:=hK.nobj;by_cases av:k<l.length
 ·have ac:=List.getElem?_eq_getElem av;obtain⟨ida,r,hd⟩:=Ib hE ac;have hb:=h3 _ (Acz av);generalize l[k]=a at hd ac hb;have HG:Ad8 (Cb (l.take (k+1))=a.ts.foldl vF (Cb (l.take k))):=by
   rw[Ad8,Abq,ac];simp[Cb]
  clear ac;have a6:=Ce a.ts
  repeat' (first|refine Z1 ?_|(refine Z8 ?_;intro κ hκ)|(refine Z4 ?_;clear hκ κ)|(refine Z2 ?_ ?_<;>intro h ad<;>try exact Xp)|(refine Z6 ?_;intro idn Nn ah ai af ab ae aa)|refine Z3 ?_|exact⟨⟩|(apply hκ.out;clear hκ κ))
  refine Ad (fun m s N''=>∃(j i4:Nat) (ws:List Int),m=a.ts.length-j/\j<=a.ts.length/\s 3=sl i4 ws.length (Ar ws)/\s 9=sl idl l.length cs/\s 10=ic l.length/\s 11=ic k/\s 16=sl ida a.ts.length (Ac a.ts)/\s 17=ic a.ts.length/\s 18=ic j/\Keep N N''/\Own N N'' i4 ws.length/\ws.length<=k*3+j/\Ad8 (ws=(a.ts.take j).foldl vF vs)) a.ts.length
   ⟨0,i3,vs,Ad2,Ad2,Ad3,Ad3,Ad3,Ad3,Ad3,Ad3,rfl,(hK.new _).put hK.nobj _,Own.put (Own.new hO _) _ _,Ad2,by simp[Ad8]⟩ ?_
  clear ax h9 az ay hK hO ao ar;rintro m s N'' ⟨j,i4,ws,rfl,hj,ax,h9,az,ay,bb,ba,a9,hK,hO,ar,hW⟩;have ao:=hK.nobj;have a7:=Bn ws;by_cases an:j<a.ts.length
  ·have ac:=List.getElem?_eq_getElem an;obtain⟨r2,a4⟩:=Cg ac;generalize a.ts[j]=w at a4 ac;obtain⟨w1,w2⟩:=w;have HS:Ad8 ((a.ts.take (j+1)).foldl vF vs=vF ((a.ts.take j).foldl vF vs) (w1,w2)):=by
    rw[Ad8,Abq,ac];simp
   clear ac;have au:=Pp w2 ws;have ap:ws.length<=100000:=Ad2;cases w1 with
   |false=>
    have HN:Ad8 (vF ws (false,w2)=ws):=by simp[Ad8,vF]
    repeat' (first|refine Z1 ?_|(refine Z8 ?_;intro κ hκ)|(refine Z4 ?_;clear hκ κ)|(refine Z2 ?_ ?_<;>intro h ad<;>try exact Xp)|(refine Z6 ?_;intro idn Nn ah ai af ab ae aa)|refine Z3 ?_|exact⟨⟩|(apply hκ.out;clear hκ κ))
    refine⟨a.ts.length-(j+1),Ad2,j+1,i4,ws,?_⟩
    ((repeat' with_reducible refine And.intro ?_ ?_)<;>first|exact Xq|exact (Own.put (Own.new hO _) _ _)|exact (by rw[Ad8,HS.out,<-hW.out,HN.out])|exact Xs)
   |true=>
    by_cases hm:w2∈ws
    ·have HN:Ad8 (vF ws (true,w2)=ws):=by simp[Ad8,vF,hm]
     have ak:decide (w2∉ws)=false:=by simp[hm]
     rw[ak]at au;clear ak hm
     repeat' (first|refine Z1 ?_|(refine Z8 ?_;intro κ hκ)|(refine Z4 ?_;clear hκ κ)|(refine Z2 ?_ ?_<;>intro h ad<;>try exact Xp)|(refine Z6 ?_;intro idn Nn ah ai af ab ae aa)|(refine Z5 ?_;refine Xi (Gd _ _ _ ap _) ?_;rintro _ _ ⟨rfl,aj⟩;(have a5:=((hK.new _).put hK.nobj _).trans aj;have aw:=Own.keep (Own.put (Own.new hO _) _ _) aj))|refine Z3 ?_|exact⟨⟩|(apply hκ.out;clear hκ κ))
     refine⟨a.ts.length-(j+1),Ad2,j+1,i4,ws,?_⟩
     ((repeat' with_reducible refine And.intro ?_ ?_)<;>first|exact Xq|exact (aw)|exact (by rw[Ad8,HS.out,<-hW.out,HN.out])|exact Xs)
    ·have HN:Ad8 (vF ws (true,w2)=ws++[w2]):=by simp[Ad8,vF,hm]
     have ak:decide (w2∉ws)=true:=by simp[hm]
     rw[ak]at au;clear ak hm
     repeat' (first|refine Z1 ?_|(refine Z8 ?_;intro κ hκ)|(refine Z4 ?_;clear hκ κ)|(refine Z2 ?_ ?_<;>intro h ad<;>try exact Xp)|(refine Z6 ?_;intro idn Nn ah ai af ab ae aa)|(refine Z5 ?_;refine Xi (Gd _ _ _ ap _) ?_;rintro _ _ ⟨rfl,aj⟩;(have a5:=((hK.new _).put hK.nobj _).trans aj;have aw:=Own.keep (Own.put (Own.new hO _) _ _) aj;have am:=aj.obj _ (show N''.nobj<_ by simp only[Ab,Aa];omega);rw[Aj]at am))|refine Z3 ?_|exact⟨⟩|(apply hκ.out;clear hκ κ))
     refine⟨a.ts.length-(j+1),Ad2,j+1,idn,ws++[w2],?_⟩
     ((repeat' with_reducible refine And.intro ?_ ?_)<;>first|exact Xq|exact (by simpa using ah)|exact (by rw[Ad8,HS.out,<-hW.out,HN.out])|exact (by simp[Ar])|exact Xs)
  ·have a3:j=a.ts.length:=Ad2;subst a3;rw[Abn]at hW
   repeat' (first|refine Z1 ?_|(refine Z8 ?_;intro κ hκ)|(refine Z4 ?_;clear hκ κ)|(refine Z2 ?_ ?_<;>intro h ad<;>try exact Xp)|(refine Z6 ?_;intro idn Nn ah ai af ab ae aa)|refine Z3 ?_|exact⟨⟩|(apply hκ.out;clear hκ κ))
   refine⟨l.length-(k+1),Ad2,k+1,i4,ws,?_⟩
   ((repeat' with_reducible refine And.intro ?_ ?_)<;>first|exact Xq|exact (by rw[Ad8,HG.out,<-hV.out,hW.out])|exact Xs)
 ·have a0:k=l.length:=Ad2;subst a0;have hV:=hV.out;rw[Abn]at hV;subst hV
  repeat' (first|refine Z1 ?_|(refine Z8 ?_;intro κ hκ)|(refine Z4 ?_;clear hκ κ)|(refine Z2 ?_ ?_<;>intro h ad<;>try exact Xp)|(refine Z6 ?_;intro idn Nn ah ai af ab ae aa)|refine Z3 ?_|exact⟨⟩|(apply hκ.out;clear hκ κ))
  first|exact⟨_,rfl,⟨_,rfl⟩,hK⟩|exact⟨_,rfl,_,rfl⟩|exact⟨_,rfl,⟨_,rfl⟩⟩
theorem Kw {q:Qry}(hq:Ms q):∀a∈atomsQ q,a.ts.length<=3:=by
 intro a ha;simp only[atomsQ,Ace,Ack,Acm]at ha;rcases ha with rfl|⟨p,hp,rfl⟩|ha
 ·exact hq.hd
 ·exact hq.pa p hp
 ·exact hq.na a ha
theorem Hv {q:Qry}(hq:Ms q):(atomsQ q).length<=129:=by
 have h1:=hq.pl;have h2:=hq.nl;simp[atomsQ];omega
def Cx (q:Qry)(v:Int):Bool:=decide (1<C0 (atomsQ q) v)
theorem Nx (q:Qry)(c:List AV)(v:Int)(hc:EQ q c)(hq:Ms q)(N:St):ACalls Tryz.prog 257 [ag c,ic v] N fun r N'=>r=sc (.bool (Cx q v))/\Keep N N':=by
 have hA:=fun N=>H9 q c hc hq N;have ae:=Kw hq;have au:=Hv hq;have am:∃x0 x1 x2 x3,c=[x0,x1,x2,x3]/\c.all flat=true:=by
  obtain⟨ih,ip,inn,pc,nc,rfl,-,-⟩:=hc;exact⟨_,_,_,_,rfl,rfl⟩
 obtain⟨x0,x1,x2,x3,rfl,ao⟩:=am;have HL:Ad8 (Cx q v=decide (1<C0 (atomsQ q) v)):=rfl;generalize Cx q v=lb at*
 clear hc hq;generalize atomsQ q=l at*
 refine Z9 23 [.tmp 4] Tryz.func257 ?_
 repeat' (first|refine Z1 ?_|(refine Z8 ?_;intro κ hκ)|(refine Z4 ?_;clear hκ κ)|(refine Z2 ?_ ?_<;>intro h ac<;>try exact Xp)|(refine Z5 ?_;refine Xi (hA _) ?_;rintro _ _ ⟨ida,cs,rfl,hE,ad⟩;(have ap:=EL.length G4 hE;have ah:=((Keep.refl N).new _).trans ad))|refine Z3 ?_|exact⟨⟩|(apply hκ.out;clear hκ κ))
 refine Ad (fun m s N'=>∃i a:Nat,m=l.length-i/\i<=l.length/\s 1=ic v/\s 5=ic a/\s 9=sl ida l.length cs/\s 10=ic l.length/\s 11=ic i/\Keep N N'/\a<=i/\Ad8 (a=C0 (l.take i) v)) l.length
  ⟨0,0,Ad2,Ad2,rfl,rfl,rfl,rfl,rfl,ah,by simp,by simp[Ad8,C0]⟩ ?_
 clear ah ad;rintro m s N' ⟨i,a,rfl,hi,h1,h5,h9,aw,av,hK,b1,hA⟩;have an:=hK.nobj;by_cases af:i<l.length
 ·have aa:=List.getElem?_eq_getElem af;obtain⟨id,r,hd⟩:=Ib hE aa;have hb:=ae _ (Acz af);generalize l[i]=w at hd aa hb;have HG:Ad8 (C0 (l.take (i+1)) v=C0 (l.take i) v+if Bc w.ts v then 1 else 0):=by
   rw[Ad8,Abq,aa,Ac2,C0,List.countP_append];simp[C0,List.countP_cons]
  clear aa;have ab:w.ts.length<=1000:=Ad2
  repeat' (first|refine Z1 ?_|(refine Z8 ?_;intro κ hκ)|(refine Z4 ?_;clear hκ κ)|(refine Z2 ?_ ?_<;>intro h ac<;>try exact Xp)|(refine Z5 ?_;refine Xi (I4 _ _ _ _ ab _) ?_;rintro _ _ ⟨rfl,ad⟩;(have ai:=ad.nobj;have ar:=((hK.new _).put hK.nobj _).trans ad))|refine Z3 ?_|exact⟨⟩|(apply hκ.out;clear hκ κ))
  ·refine⟨l.length-(i+1),Ad2,i+1,a+1,?_⟩
   ((repeat' with_reducible refine And.intro ?_ ?_)<;>first|exact Xq|exact (by rw[Ad8,HG.out,hA.out,if_pos (by assumption)])|exact Xs)
  ·refine⟨l.length-(i+1),Ad2,i+1,a,?_⟩
   ((repeat' with_reducible refine And.intro ?_ ?_)<;>first|exact Xq|exact (by rw[Ad8,HG.out,hA.out,if_neg (by simp_all),Abi])|exact Xs)
 ·have aj:i=l.length:=Ad2;subst aj;have hA:=hA.out;rw[Abn]at hA;subst hA;have ak:decide ((C0 l v:Int)>1)=lb:=by rw[HL.out];congr 1;apply propext;omega
  repeat' (first|refine Z1 ?_|(refine Z8 ?_;intro κ hκ)|(refine Z4 ?_;clear hκ κ)|(refine Z2 ?_ ?_<;>intro h ac<;>try exact Xp)|refine Z3 ?_|exact⟨⟩|(apply hκ.out;clear hκ κ))
  first|exact⟨_,rfl,rfl,hK⟩|exact⟨_,rfl,rfl⟩|exact⟨_,rfl,hK⟩|exact hK|exact⟨_,rfl,by rw[<-ak]⟩
def I3 (q:Qry):Nat->List Int->Bool
 |_,[]=>true
 |n,v::vs=>if Cx q v=true then (if 1<n+1\/C0 (q.parts.map (·.a)) v=1 then false else I3 q (n+1) vs)else I3 q n vs
def idleB (q:Qry)(a:C3):Bool:=I3 q 0 (Cb [a])
theorem kV (l:List C3)(v:Int):C0 l v<=l.length:=List.countP_le_length
theorem gU (q:Qry)(c:List AV)(a:C3)(id:Nat)(ha:a.ts.length<=3)(hc:EQ q c)(hq:Ms q)(N:St):ACalls Tryz.prog 266 [ag c,ag [ic a.p,sl id a.ts.length (Ac a.ts)]] N fun r N'=>r=sc (.bool (idleB q a))/\Keep N N':=by
 have hL:=fun v N=>Nx q c v hc hq N;have az:=fun v N=>Jv q c v hc hq N;have ax:∀v,C0 (q.parts.map (·.a)) v<=64:=fun v=>by
  have h1:=kV (q.parts.map (·.a)) v;have h2:=hq.pl;simp at h1;omega
 have ay:∃x0 x1 x2 x3,c=[x0,x1,x2,x3]/\c.all flat=true:=by
  obtain⟨ih,ip,inn,pc,nc,rfl,-,-⟩:=hc;exact⟨_,_,_,_,rfl,rfl⟩
 obtain⟨x0,x1,x2,x3,rfl,a5⟩:=ay;have ad:=fun (i:Nat) (N:St)=>F6 [a] [ic a.p,sl id a.ts.length (Ac a.ts)] i (EL.single ⟨id,rfl⟩) (by simp;exact ha) (by simp) N;have av:=Eh (l:=[a]) (by simp;exact ha);have HI:Ad8 (idleB q a=I3 q 0 (Cb [a])):=rfl;generalize idleB q a=ib at*
 generalize Cb [a]=vs at*
 have a3:=Bn vs;simp only[Aca,Ab9]at av ad;refine Z9 31 [.tmp 4] Tryz.func266 ?_
 repeat' (first|refine Z1 ?_|(refine Z8 ?_;intro κ hκ)|(refine Z4 ?_;clear hκ κ)|(refine Z2 ?_ ?_<;>intro h ae<;>try exact Xp)|(refine Z5 ?_;refine Xi (ad _ _) ?_;rintro _ _ ⟨⟨idv,rfl⟩,aa⟩;(have ao:=((((Keep.refl N).new _).new _).lay 1).trans aa;have ac:=aa.nobj;have ab:=aa.obj;(try simp only[Ah,Aa]at ac ab)))|refine Z3 ?_|exact⟨⟩|(apply hκ.out;clear hκ κ))
 rename_i N1;have ai:=ab N.nobj Ad2;rw[As,Ae Ad6,Am]at ai;clear ab aa
 refine Ad (fun m s N'=>∃i n:Nat,m=vs.length-i/\i<=vs.length/\s 2=ptr N.nobj 0/\s 5=ic n/\s 10=sl idv vs.length (Ar vs)/\s 11=ic vs.length/\s 12=ic i/\Keep N N'/\N.nobj<N'.nobj/\N'.obj N.nobj=[x0,x1,x2,x3]/\n<=i/\Ad8 (ib=I3 q n (vs.drop i))) vs.length
  ⟨0,0,Ad2,Ad2,Ad4,Ad4,Ad4,Ad3,rfl,ao,Ad2,ai,by simp,by simpa[Ad8]using HI.out⟩ ?_
 clear ao ai ac;rintro m s N' ⟨i,n,rfl,hi,h2,h5,bb,ba,a9,hK,a4,ob,b1,hI⟩;have a0:=hK.nobj;by_cases am:i<vs.length
 ·have ah:=List.getElem?_eq_getElem am;obtain⟨r,hd⟩:=C8 ah;have aj:Ad8 (vs.drop i=vs[i]::vs.drop (i+1)):=Acd am;generalize vs[i]=v at hd aj;clear ah;have a6:=ax v;have af:Ad8 (ib=if Cx q v=true then (if 1<n+1\/C0 (q.parts.map (·.a)) v=1 then false else I3 q (n+1) (vs.drop (i+1)))else I3 q n (vs.drop (i+1))):=by
   rw[Ad8,hI.out,aj.out,I3]
  clear hI aj;cases an:Cx q v with
  |false=>
   have af:Ad8 (ib=I3 q n (vs.drop (i+1))):=by rw[Ad8,af.out,an];simp
   repeat' (first|refine Z1 ?_|(refine Z8 ?_;intro κ hκ)|(refine Z4 ?_;clear hκ κ)|(refine Z2 ?_ ?_<;>intro h ae<;>try exact Xp)|(refine Z5 ?_;refine Xi (hL _ _) ?_;rintro _ _ ⟨rfl,aa⟩;(have ac:=aa.nobj;have ab:=aa.obj;have ap:=hK.trans aa))|refine Z3 ?_|exact⟨⟩|(apply hκ.out;clear hκ κ))
   refine⟨vs.length-(i+1),Ad2,i+1,n,?_⟩
   ((repeat' with_reducible refine And.intro ?_ ?_)<;>first|exact Xq|exact Xs)
  |true=>
   generalize a7:C0 (q.parts.map (·.a)) v=cn at*
   have af:Ad8 (ib=if 1<n+1\/cn=1 then false else I3 q (n+1) (vs.drop (i+1))):=by rw[Ad8,af.out,an];simp
   repeat' (first|refine Z1 ?_|(refine Z8 ?_;intro κ hκ)|(refine Z4 ?_;clear hκ κ)|(refine Z2 ?_ ?_<;>intro h ae<;>try exact Xp)|(refine Z5 ?_;first|(refine Xi (hL _ _) ?_;rintro _ _ ⟨rfl,aa⟩;(have ac:=aa.nobj;have ab:=aa.obj;have ap:=hK.trans aa))|(refine Xi (az _ _) ?_;rintro _ _ ⟨rfl,ak⟩;(have au:=ak.nobj;have ar:=ak.obj;have a8:=ap.trans ak)))|refine Z3 ?_|exact⟨⟩|(apply hκ.out;clear hκ κ))
   ·have:ib=false:=by
     rw[af.out,if_pos];right;simp only[Ady]at h;omega
    exact⟨_,rfl,by rw[this]⟩
   ·have:ib=I3 q (n+1) (vs.drop (i+1)):=by
     rw[af.out,if_neg];simp only[beq_eq_false_iff_ne,ne_eq]at h;omega
    refine⟨vs.length-(i+1),Ad2,i+1,n+1,?_⟩
    ((repeat' with_reducible refine And.intro ?_ ?_)<;>first|exact Xq|exact (this)|exact Xs)
   ·have:ib=false:=by
     rw[af.out,if_pos];left;omega
    exact⟨_,rfl,by rw[this]⟩
 ·have aw:i=vs.length:=Ad2;subst aw;have hI:ib=true:=by rw[hI.out,List.drop_length];rfl
  subst hI
  repeat' (first|refine Z1 ?_|(refine Z8 ?_;intro κ hκ)|(refine Z4 ?_;clear hκ κ)|(refine Z2 ?_ ?_<;>intro h ae<;>try exact Xp)|refine Z3 ?_|exact⟨⟩|(apply hκ.out;clear hκ κ))
  first|exact⟨_,rfl,rfl,hK⟩|exact⟨_,rfl,rfl⟩|exact⟨_,rfl,hK⟩|exact hK
end Go.Proofs.YtmoeoppbmhfbpabGreatDoorH
