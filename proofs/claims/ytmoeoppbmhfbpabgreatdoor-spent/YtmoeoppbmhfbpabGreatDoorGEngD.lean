import Derived.Test.YtmoeoppbmhfbpabGreatDoorGEngA
set_option maxHeartbeats 16000000
set_option maxRecDepth 100000
set_option linter.all false
namespace Go.Proofs.YtmoeoppbmhfbpabGreatDoorG
open Go.Abs
def vF (acc:List Int)(t:Tm):List Int:=if t.1=true/\t.2∉acc then acc++[t.2]else acc
def Cb (l:List C4):List Int:=(l.flatMap (·.ts)).foldl vF []
theorem Aa2 (acc:List Int)(t:Tm):(vF acc t).length<=acc.length+1:=by unfold vF;split<;>simp
theorem kR:∀(ts:List Tm) (acc:List Int),(ts.foldl vF acc).length<=acc.length+ts.length
 |[],acc=>by simp
 |t::ts,acc=>by
  have h1:=kR ts (vF acc t);have h2:=Aa2 acc t;simp only[Ady,Aen];omega
theorem kQ:∀(ts:List Tm) (acc:List Int) (v:Int),v∈ts.foldl vF acc↔v∈acc\/(true,v)∈ts
 |[],acc,v=>by simp
 |t::ts,acc,v=>by
  rw[Ady,kQ ts];obtain⟨b,w⟩:=t;unfold vF;by_cases h:b=true/\w∉acc
  ·rw[if_pos h];obtain⟨rfl,hw⟩:=h;simp only[Aew,Aeq,Ae8,Agk,Prod.mk.injEq,Agl];constructor
   ·rintro ((h|rfl)|h)
    ·exact .inl h
    ·exact .inr (.inl rfl)
    ·exact .inr (.inr h)
   ·rintro (h|rfl|h)
    ·exact .inl (.inl h)
    ·exact .inl (.inr rfl)
    ·exact .inr h
  ·rw[if_neg h];simp only[Aeq,Prod.mk.injEq];constructor
   ·rintro (h|h)
    ·exact .inl h
    ·exact .inr (.inr h)
   ·rintro (h'|⟨rfl,rfl⟩|h')
    ·exact .inl h'
    ·by_cases hm:v∈acc
     ·exact .inl hm
     ·exact absurd ⟨rfl,hm⟩ h
    ·exact .inr h'
theorem Cy (l:List C4)(v:Int):v∈Cb l↔∃a∈l,(true,v)∈a.ts:=by
 unfold Cb;rw[kQ];simp[Aev]
theorem Yb:∀(l:List C4),(∀a∈l,a.ts.length<=3)->(l.flatMap (·.ts)).length<=l.length*3
 |[],_=>by simp
 |a::l,h=>by
  have h1:=h a (by simp);have h2:=Yb l (fun b hb=>h b (by simp[hb]));simp only[Ae5,Aee,Aen];omega
theorem Es {l:List C4}(h:∀a∈l,a.ts.length<=3):(Cb l).length<=l.length*3:=by
 have h1:=kR (l.flatMap (·.ts)) [];have h2:=Yb l h;unfold Cb;simp only[Aem]at h1;omega
theorem Gj (l:List C4)(cs:List AV)(idl:Nat)(hE:EL Me l cs)(h3:∀a∈l,a.ts.length<=3)(hl:l.length<=200)(N:St):ACalls Tryz.prog 150 [sl idl l.length cs] N fun r N'=>(∃id,r=sl id (Cb l).length (As (Cb l)))/\Keep N N':=by
 have a9:=EL.length Hk hE;refine Z9 39 [.tmp 2] Tryz.func150 ?_
 repeat' (first|refine Z1 ?_|(refine Z8 ?_;intro κ hκ)|(refine Z4 ?_;clear hκ κ)|(refine Z2 ?_ ?_<;>intro h ad<;>try exact Xp)|(refine Z6 ?_;intro idn Nn ah ai af ab ae aa)|refine Z3 ?_|exact⟨⟩|(apply hκ.out;clear hκ κ))
 refine Ag (fun m s N'=>∃(k i3:Nat) (vs:List Int),m=l.length-k/\k<=l.length/\s 3=sl i3 vs.length (As vs)/\s 9=sl idl l.length cs/\s 10=ic l.length/\s 11=ic k/\Keep N N'/\Own N N' i3 vs.length/\vs.length<=k*3/\Agt (vs=Cb (l.take k))) l.length
  ⟨0,1,[],Agm,Agm,by simp[upd,As],rfl,rfl,rfl,Xs,Own.nil _ _,by simp,by simp[Agt,Cb]⟩ ?_
 rintro m s N' ⟨k,i3,vs,rfl,hk,ay,h9,a0,az,hK,hO,au,hV⟩;have ao:=hK.nobj;by_cases aw:k<l.length
 ·have ac:=List.getElem?_eq_getElem aw;obtain⟨ida,r,hd⟩:=It hE ac;have hb:=h3 _ (Afa aw);generalize l[k]=a at hd ac hb;have HG:Agt (Cb (l.take (k+1))=a.ts.foldl vF (Cb (l.take k))):=by
   rw[Agt,Ad3,ac];simp[Cb]
  clear ac;have a7:=Ch a.ts
  repeat' (first|refine Z1 ?_|(refine Z8 ?_;intro κ hκ)|(refine Z4 ?_;clear hκ κ)|(refine Z2 ?_ ?_<;>intro h ad<;>try exact Xp)|(refine Z6 ?_;intro idn Nn ah ai af ab ae aa)|refine Z3 ?_|exact⟨⟩|(apply hκ.out;clear hκ κ))
  refine Ag (fun m s N''=>∃(j i4:Nat) (ws:List Int),m=a.ts.length-j/\j<=a.ts.length/\s 3=sl i4 ws.length (As ws)/\s 9=sl idl l.length cs/\s 10=ic l.length/\s 11=ic k/\s 16=sl ida a.ts.length (Ac a.ts)/\s 17=ic a.ts.length/\s 18=ic j/\Keep N N''/\Own N N'' i4 ws.length/\ws.length<=k*3+j/\Agt (ws=(a.ts.take j).foldl vF vs)) a.ts.length
   ⟨0,i3,vs,Agm,Agm,Agn,Agn,Agn,Agn,Agn,Agn,rfl,(hK.new _).put hK.nobj _,Own.put (Own.new hO _) _ _,Agm,by simp[Agt]⟩ ?_
  clear ay h9 a0 az hK hO ao au;rintro m s N'' ⟨j,i4,ws,rfl,hj,ay,h9,a0,az,bd,bb,ba,hK,hO,au,hW⟩;have ao:=hK.nobj;have a8:=Bp ws;by_cases an:j<a.ts.length
  ·have ac:=List.getElem?_eq_getElem an;obtain⟨r2,a5⟩:=Cm ac;generalize a.ts[j]=w at a5 ac;obtain⟨w1,w2⟩:=w;have HS:Agt ((a.ts.take (j+1)).foldl vF vs=vF ((a.ts.take j).foldl vF vs) (w1,w2)):=by
    rw[Agt,Ad3,ac];simp
   clear ac;have av:=Qj w2 ws;have ap:ws.length<=100000:=Agm;cases w1 with
   |false=>
    have HN:Agt (vF ws (false,w2)=ws):=by simp[Agt,vF]
    repeat' (first|refine Z1 ?_|(refine Z8 ?_;intro κ hκ)|(refine Z4 ?_;clear hκ κ)|(refine Z2 ?_ ?_<;>intro h ad<;>try exact Xp)|(refine Z6 ?_;intro idn Nn ah ai af ab ae aa)|refine Z3 ?_|exact⟨⟩|(apply hκ.out;clear hκ κ))
    refine⟨a.ts.length-(j+1),Agm,j+1,i4,ws,?_⟩
    ((repeat' with_reducible refine And.intro ?_ ?_)<;>first|exact Xq|exact (Own.put (Own.new hO _) _ _)|exact (by rw[Agt,HS.out,<-hW.out,HN.out])|exact Xs)
   |true=>
    by_cases hm:w2∈ws
    ·have HN:Agt (vF ws (true,w2)=ws):=by simp[Agt,vF,hm]
     have ak:decide (w2∉ws)=false:=by simp[hm]
     rw[ak]at av;clear ak hm
     repeat' (first|refine Z1 ?_|(refine Z8 ?_;intro κ hκ)|(refine Z4 ?_;clear hκ κ)|(refine Z2 ?_ ?_<;>intro h ad<;>try exact Xp)|(refine Z6 ?_;intro idn Nn ah ai af ab ae aa)|(refine Z5 ?_;refine Xi (Gv _ _ _ ap _) ?_;rintro _ _ ⟨rfl,aj⟩;(have a6:=((hK.new _).put hK.nobj _).trans aj;have ax:=Own.keep (Own.put (Own.new hO _) _ _) aj))|refine Z3 ?_|exact⟨⟩|(apply hκ.out;clear hκ κ))
     refine⟨a.ts.length-(j+1),Agm,j+1,i4,ws,?_⟩
     ((repeat' with_reducible refine And.intro ?_ ?_)<;>first|exact Xq|exact (ax)|exact (by rw[Agt,HS.out,<-hW.out,HN.out])|exact Xs)
    ·have HN:Agt (vF ws (true,w2)=ws++[w2]):=by simp[Agt,vF,hm]
     have ak:decide (w2∉ws)=true:=by simp[hm]
     rw[ak]at av;clear ak hm
     repeat' (first|refine Z1 ?_|(refine Z8 ?_;intro κ hκ)|(refine Z4 ?_;clear hκ κ)|(refine Z2 ?_ ?_<;>intro h ad<;>try exact Xp)|(refine Z6 ?_;intro idn Nn ah ai af ab ae aa)|(refine Z5 ?_;refine Xi (Gv _ _ _ ap _) ?_;rintro _ _ ⟨rfl,aj⟩;(have a6:=((hK.new _).put hK.nobj _).trans aj;have ax:=Own.keep (Own.put (Own.new hO _) _ _) aj;have am:=aj.obj _ (show N''.nobj<_ by simp only[Ab,Aa];omega);rw[Aj]at am))|refine Z3 ?_|exact⟨⟩|(apply hκ.out;clear hκ κ))
     refine⟨a.ts.length-(j+1),Agm,j+1,idn,ws++[w2],?_⟩
     ((repeat' with_reducible refine And.intro ?_ ?_)<;>first|exact Xq|exact (by simpa using ah)|exact (by rw[Agt,HS.out,<-hW.out,HN.out])|exact (by simp[As])|exact Xs)
  ·have a4:j=a.ts.length:=Agm;subst a4;rw[Adz]at hW
   repeat' (first|refine Z1 ?_|(refine Z8 ?_;intro κ hκ)|(refine Z4 ?_;clear hκ κ)|(refine Z2 ?_ ?_<;>intro h ad<;>try exact Xp)|(refine Z6 ?_;intro idn Nn ah ai af ab ae aa)|refine Z3 ?_|exact⟨⟩|(apply hκ.out;clear hκ κ))
   refine⟨l.length-(k+1),Agm,k+1,i4,ws,?_⟩
   ((repeat' with_reducible refine And.intro ?_ ?_)<;>first|exact Xq|exact (by rw[Agt,HG.out,<-hV.out,hW.out])|exact Xs)
 ·have a3:k=l.length:=Agm;subst a3;have hV:=hV.out;rw[Adz]at hV;subst hV
  repeat' (first|refine Z1 ?_|(refine Z8 ?_;intro κ hκ)|(refine Z4 ?_;clear hκ κ)|(refine Z2 ?_ ?_<;>intro h ad<;>try exact Xp)|(refine Z6 ?_;intro idn Nn ah ai af ab ae aa)|refine Z3 ?_|exact⟨⟩|(apply hκ.out;clear hκ κ))
  first|exact⟨_,rfl,⟨_,rfl⟩,hK⟩|exact⟨_,rfl,_,rfl⟩|exact⟨_,rfl,⟨_,rfl⟩⟩
theorem Lo {q:Qry}(hq:Nx q):∀a∈atomsQ q,a.ts.length<=3:=by
 intro a ha;simp only[atomsQ,Aeq,Aew,Aey]at ha;rcases ha with rfl|⟨p,hp,rfl⟩|ha
 ·exact hq.hd
 ·exact hq.pa p hp
 ·exact hq.na a ha
theorem Ib {q:Qry}(hq:Nx q):(atomsQ q).length<=129:=by
 have h1:=hq.pl;have h2:=hq.nl;simp[atomsQ];omega
def Cz (q:Qry)(v:Int):Bool:=decide (1<C1 (atomsQ q) v)
theorem O2 (q:Qry)(c:List AV)(v:Int)(hc:EQ q c)(hq:Nx q)(N:St):ACalls Tryz.prog 257 [ag c,ic v] N fun r N'=>r=sc (.bool (Cz q v))/\Keep N N':=by
 have hA:=fun N=>Ir q c hc hq N;have ae:=Lo hq;have av:=Ib hq;have am:∃x0 x1 x2 x3,c=[x0,x1,x2,x3]/\c.all flat=true:=by
  obtain⟨ih,ip,inn,pc,nc,rfl,-,-⟩:=hc;exact⟨_,_,_,_,rfl,rfl⟩
 obtain⟨x0,x1,x2,x3,rfl,ao⟩:=am;have HL:Agt (Cz q v=decide (1<C1 (atomsQ q) v)):=rfl;generalize Cz q v=lb at*
 clear hc hq;generalize atomsQ q=l at*
 refine Z9 23 [.tmp 4] Tryz.func257 ?_
 repeat' (first|refine Z1 ?_|(refine Z8 ?_;intro κ hκ)|(refine Z4 ?_;clear hκ κ)|(refine Z2 ?_ ?_<;>intro h ac<;>try exact Xp)|(refine Z5 ?_;refine Xi (hA _) ?_;rintro _ _ ⟨ida,cs,rfl,hE,ad⟩;(have ap:=EL.length Hk hE;have ah:=((Keep.refl N).new _).trans ad))|refine Z3 ?_|exact⟨⟩|(apply hκ.out;clear hκ κ))
 refine Ag (fun m s N'=>∃i a:Nat,m=l.length-i/\i<=l.length/\s 1=ic v/\s 5=ic a/\s 9=sl ida l.length cs/\s 10=ic l.length/\s 11=ic i/\Keep N N'/\a<=i/\Agt (a=C1 (l.take i) v)) l.length
  ⟨0,0,Agm,Agm,rfl,rfl,rfl,rfl,rfl,ah,by simp,by simp[Agt,C1]⟩ ?_
 clear ah ad;rintro m s N' ⟨i,a,rfl,hi,h1,h5,h9,ax,aw,hK,b1,hA⟩;have an:=hK.nobj;by_cases af:i<l.length
 ·have aa:=List.getElem?_eq_getElem af;obtain⟨id,r,hd⟩:=It hE aa;have hb:=ae _ (Afa af);generalize l[i]=w at hd aa hb;have HG:Agt (C1 (l.take (i+1)) v=C1 (l.take i) v+if Bc w.ts v then 1 else 0):=by
   rw[Agt,Ad3,aa,Afe,C1,List.countP_append];simp[C1,List.countP_cons]
  clear aa;have ab:w.ts.length<=1000:=Agm
  repeat' (first|refine Z1 ?_|(refine Z8 ?_;intro κ hκ)|(refine Z4 ?_;clear hκ κ)|(refine Z2 ?_ ?_<;>intro h ac<;>try exact Xp)|(refine Z5 ?_;refine Xi (Jn _ _ _ _ ab _) ?_;rintro _ _ ⟨rfl,ad⟩;(have ai:=ad.nobj;have au:=((hK.new _).put hK.nobj _).trans ad))|refine Z3 ?_|exact⟨⟩|(apply hκ.out;clear hκ κ))
  ·refine⟨l.length-(i+1),Agm,i+1,a+1,?_⟩
   ((repeat' with_reducible refine And.intro ?_ ?_)<;>first|exact Xq|exact (by rw[Agt,HG.out,hA.out,if_pos (by assumption)])|exact Xs)
  ·refine⟨l.length-(i+1),Agm,i+1,a,?_⟩
   ((repeat' with_reducible refine And.intro ?_ ?_)<;>first|exact Xq|exact (by rw[Agt,HG.out,hA.out,if_neg (by simp_all),Adu])|exact Xs)
 ·have aj:i=l.length:=Agm;subst aj;have hA:=hA.out;rw[Adz]at hA;subst hA;have ak:decide ((C1 l v:Int)>1)=lb:=by rw[HL.out];congr 1;apply propext;omega
  repeat' (first|refine Z1 ?_|(refine Z8 ?_;intro κ hκ)|(refine Z4 ?_;clear hκ κ)|(refine Z2 ?_ ?_<;>intro h ac<;>try exact Xp)|refine Z3 ?_|exact⟨⟩|(apply hκ.out;clear hκ κ))
  first|exact⟨_,rfl,rfl,hK⟩|exact⟨_,rfl,rfl⟩|exact⟨_,rfl,hK⟩|exact hK|exact⟨_,rfl,by rw[<-ak]⟩
def Jm (q:Qry):Nat->List Int->Bool
 |_,[]=>true
 |n,v::vs=>if Cz q v=true then (if 1<n+1\/C1 (q.parts.map (·.a)) v=1 then false else Jm q (n+1) vs)else Jm q n vs
def idleB (q:Qry)(a:C4):Bool:=Jm q 0 (Cb [a])
theorem mW (l:List C4)(v:Int):C1 l v<=l.length:=List.countP_le_length
theorem jP (q:Qry)(c:List AV)(a:C4)(id:Nat)(ha:a.ts.length<=3)(hc:EQ q c)(hq:Nx q)(N:St):ACalls Tryz.prog 266 [ag c,ag [ic a.p,sl id a.ts.length (Ac a.ts)]] N fun r N'=>r=sc (.bool (idleB q a))/\Keep N N':=by
 have hL:=fun v N=>O2 q c v hc hq N;have a0:=fun v N=>Ki q c v hc hq N;have ay:∀v,C1 (q.parts.map (·.a)) v<=64:=fun v=>by
  have h1:=mW (q.parts.map (·.a)) v;have h2:=hq.pl;simp at h1;omega
 have az:∃x0 x1 x2 x3,c=[x0,x1,x2,x3]/\c.all flat=true:=by
  obtain⟨ih,ip,inn,pc,nc,rfl,-,-⟩:=hc;exact⟨_,_,_,_,rfl,rfl⟩
 obtain⟨x0,x1,x2,x3,rfl,a5⟩:=az;have ad:=fun (i:Nat) (N:St)=>Gj [a] [ic a.p,sl id a.ts.length (Ac a.ts)] i (EL.single ⟨id,rfl⟩) (by simp;exact ha) (by simp) N;have aw:=Es (l:=[a]) (by simp;exact ha);have HI:Agt (idleB q a=Jm q 0 (Cb [a])):=rfl;generalize idleB q a=ib at*
 generalize Cb [a]=vs at*
 have a4:=Bp vs;simp only[Aen,Aem]at aw ad;refine Z9 31 [.tmp 4] Tryz.func266 ?_
 repeat' (first|refine Z1 ?_|(refine Z8 ?_;intro κ hκ)|(refine Z4 ?_;clear hκ κ)|(refine Z2 ?_ ?_<;>intro h ae<;>try exact Xp)|(refine Z5 ?_;refine Xi (ad _ _) ?_;rintro _ _ ⟨⟨idv,rfl⟩,aa⟩;(have ao:=((((Keep.refl N).new _).new _).lay 1).trans aa;have ac:=aa.nobj;have ab:=aa.obj;(try simp only[Ah,Aa]at ac ab)))|refine Z3 ?_|exact⟨⟩|(apply hκ.out;clear hκ κ))
 rename_i N1;have ai:=ab N.nobj Agm;rw[Av,Af Agq,Ap]at ai;clear ab aa
 refine Ag (fun m s N'=>∃i n:Nat,m=vs.length-i/\i<=vs.length/\s 2=ptr N.nobj 0/\s 5=ic n/\s 10=sl idv vs.length (As vs)/\s 11=ic vs.length/\s 12=ic i/\Keep N N'/\N.nobj<N'.nobj/\N'.obj N.nobj=[x0,x1,x2,x3]/\n<=i/\Agt (ib=Jm q n (vs.drop i))) vs.length
  ⟨0,0,Agm,Agm,Ago,Ago,Ago,Agn,rfl,ao,Agm,ai,by simp,by simpa[Agt]using HI.out⟩ ?_
 clear ao ai ac;rintro m s N' ⟨i,n,rfl,hi,h2,h5,bb,ba,a9,hK,hno,ob,b1,hI⟩;have a3:=hK.nobj;by_cases am:i<vs.length
 ·have ah:=List.getElem?_eq_getElem am;obtain⟨r,hd⟩:=C9 ah;have aj:Agt (vs.drop i=vs[i]::vs.drop (i+1)):=Aep am;generalize vs[i]=v at hd aj;clear ah;have a6:=ay v;have af:Agt (ib=if Cz q v=true then (if 1<n+1\/C1 (q.parts.map (·.a)) v=1 then false else Jm q (n+1) (vs.drop (i+1)))else Jm q n (vs.drop (i+1))):=by
   rw[Agt,hI.out,aj.out,Jm]
  clear hI aj;cases an:Cz q v with
  |false=>
   have af:Agt (ib=Jm q n (vs.drop (i+1))):=by rw[Agt,af.out,an];simp
   repeat' (first|refine Z1 ?_|(refine Z8 ?_;intro κ hκ)|(refine Z4 ?_;clear hκ κ)|(refine Z2 ?_ ?_<;>intro h ae<;>try exact Xp)|(refine Z5 ?_;refine Xi (hL _ _) ?_;rintro _ _ ⟨rfl,aa⟩;(have ac:=aa.nobj;have ab:=aa.obj;have ap:=hK.trans aa))|refine Z3 ?_|exact⟨⟩|(apply hκ.out;clear hκ κ))
   refine⟨vs.length-(i+1),Agm,i+1,n,?_⟩
   ((repeat' with_reducible refine And.intro ?_ ?_)<;>first|exact Xq|exact Xs)
  |true=>
   generalize a7:C1 (q.parts.map (·.a)) v=cn at*
   have af:Agt (ib=if 1<n+1\/cn=1 then false else Jm q (n+1) (vs.drop (i+1))):=by rw[Agt,af.out,an];simp
   repeat' (first|refine Z1 ?_|(refine Z8 ?_;intro κ hκ)|(refine Z4 ?_;clear hκ κ)|(refine Z2 ?_ ?_<;>intro h ae<;>try exact Xp)|(refine Z5 ?_;first|(refine Xi (hL _ _) ?_;rintro _ _ ⟨rfl,aa⟩;(have ac:=aa.nobj;have ab:=aa.obj;have ap:=hK.trans aa))|(refine Xi (a0 _ _) ?_;rintro _ _ ⟨rfl,ak⟩;(have av:=ak.nobj;have au:=ak.obj;have a8:=ap.trans ak)))|refine Z3 ?_|exact⟨⟩|(apply hκ.out;clear hκ κ))
   ·have:ib=false:=by
     rw[af.out,if_pos];right;simp only[Agj]at h;omega
    exact⟨_,rfl,by rw[this]⟩
   ·have:ib=Jm q (n+1) (vs.drop (i+1)):=by
     rw[af.out,if_neg];simp only[beq_eq_false_iff_ne,ne_eq]at h;omega
    refine⟨vs.length-(i+1),Agm,i+1,n+1,?_⟩
    ((repeat' with_reducible refine And.intro ?_ ?_)<;>first|exact Xq|exact (this)|exact Xs)
   ·have:ib=false:=by
     rw[af.out,if_pos];left;omega
    exact⟨_,rfl,by rw[this]⟩
 ·have ax:i=vs.length:=Agm;subst ax;have hI:ib=true:=by rw[hI.out,List.drop_length];rfl
  subst hI
  repeat' (first|refine Z1 ?_|(refine Z8 ?_;intro κ hκ)|(refine Z4 ?_;clear hκ κ)|(refine Z2 ?_ ?_<;>intro h ae<;>try exact Xp)|refine Z3 ?_|exact⟨⟩|(apply hκ.out;clear hκ κ))
  first|exact⟨_,rfl,rfl,hK⟩|exact⟨_,rfl,rfl⟩|exact⟨_,rfl,hK⟩|exact hK
end Go.Proofs.YtmoeoppbmhfbpabGreatDoorG
