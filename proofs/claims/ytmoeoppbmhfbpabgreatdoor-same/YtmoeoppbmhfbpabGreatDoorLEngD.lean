import Derived.Test.YtmoeoppbmhfbpabGreatDoorLEngA
set_option maxHeartbeats 16000000
set_option maxRecDepth 100000
set_option linter.all false
namespace Go.Proofs.YtmoeoppbmhfbpabGreatDoorL
open Go.Abs
def vF (acc:List Int)(t:Tm):List Int:=if t.1=true/\t.2∉acc then acc++[t.2]else acc
def Cc (l:List Df):List Int:=(l.flatMap (·.ts)).foldl vF []
theorem Ad1 (acc:List Int)(t:Tm):(vF acc t).length<=acc.length+1:=by unfold vF;split<;>simp
theorem aS:∀(ts:List Tm) (acc:List Int),(ts.foldl vF acc).length<=acc.length+ts.length
 |[],acc=>by simp
 |t::ts,acc=>by
  have h1:=aS ts (vF acc t);have h2:=Ad1 acc t;simp only[Agv,Ahj];omega
theorem aR:∀(ts:List Tm) (acc:List Int) (v:Int),v∈ts.foldl vF acc↔v∈acc\/(true,v)∈ts
 |[],acc,v=>by simp
 |t::ts,acc,v=>by
  rw[Agv,aR ts];obtain⟨b,w⟩:=t;unfold vF;by_cases h:b=true/\w∉acc
  ·rw[if_pos h];obtain⟨rfl,hw⟩:=h;simp only[Ahs,Ahm,Ah4,Ajl,Prod.mk.injEq,true_and];constructor
   ·rintro ((h|rfl)|h)
    ·exact .inl h
    ·exact .inr (.inl rfl)
    ·exact .inr (.inr h)
   ·rintro (h|rfl|h)
    ·exact .inl (.inl h)
    ·exact .inl (.inr rfl)
    ·exact .inr h
  ·rw[if_neg h];simp only[Ahm,Prod.mk.injEq];constructor
   ·rintro (h|h)
    ·exact .inl h
    ·exact .inr (.inr h)
   ·rintro (h'|⟨rfl,rfl⟩|h')
    ·exact .inl h'
    ·by_cases hm:v∈acc
     ·exact .inl hm
     ·exact absurd ⟨rfl,hm⟩ h
    ·exact .inr h'
theorem C4 (l:List Df)(v:Int):v∈Cc l↔∃a∈l,(true,v)∈a.ts:=by
 unfold Cc;rw[aR];simp[Ahr]
theorem Zy:∀(l:List Df),(∀a∈l,a.ts.length<=3)->(l.flatMap (·.ts)).length<=l.length*3
 |[],_=>by simp
 |a::l,h=>by
  have h1:=h a (by simp);have h2:=Zy l (fun b hb=>h b (by simp[hb]));simp only[Ah3,Aha,Ahj];omega
theorem E5 {l:List Df}(h:∀a∈l,a.ts.length<=3):(Cc l).length<=l.length*3:=by
 have h1:=aS (l.flatMap (·.ts)) [];have h2:=Zy l h;unfold Cc;simp only[Ahi]at h1;omega
theorem Hb (l:List Df)(cs:List AV)(idl:Nat)(hE:EL Mm l cs)(h3:∀a∈l,a.ts.length<=3)(hl:l.length<=200)(u:St):ACalls Tryz.prog 150 [sl idl l.length cs] u fun r u'=>(∃id,r=sl id (Cc l).length (Am (Cc l)))/\Keep u u':=by
 have a8:=EL.length Ic hE;refine Z9 39 [.tmp 2] Tryz.func150 ?_
 repeat' (first|refine Z1 ?_|(refine Z8 ?_;intro κ hκ)|(refine Z4 ?_;clear hκ κ)|(refine Z2 ?_ ?_<;>intro h ad<;>try exact Xp)|(refine Z6 ?_;intro idn un ah ai af ab ae aa)|refine Z3 ?_|exact⟨⟩|(apply hκ.out;clear hκ κ))
 refine Af (fun m s u'=>∃(k i3:Nat) (vs:List Int),m=l.length-k/\k<=l.length/\s 3=sl i3 vs.length (Am vs)/\s 9=sl idl l.length cs/\s 10=ic l.length/\s 11=ic k/\Keep u u'/\Own u u' i3 vs.length/\vs.length<=k*3/\Ajs (vs=Cc (l.take k))) l.length
  ⟨0,1,[],Ajm,Ajm,by simp[upd,Am],rfl,rfl,rfl,Xs,Own.nil _ _,by simp,by simp[Ajs,Cc]⟩ ?_
 rintro m s u' ⟨k,i3,vs,rfl,hk,ay,h9,a0,az,hK,hO,au,hV⟩;have ao:=hK.nobj;by_cases aw:k<l.length
 ·have ac:=List.getElem?_eq_getElem aw;obtain⟨ida,r,hd⟩:=Jl hE ac;have hb:=h3 _ (Ah6 aw);generalize l[k]=a at hd ac hb;have HG:Ajs (Cc (l.take (k+1))=a.ts.foldl vF (Cc (l.take k))):=by
   rw[Ajs,Agz,ac];simp[Cc]
  clear ac;have a7:=Ci a.ts
  repeat' (first|refine Z1 ?_|(refine Z8 ?_;intro κ hκ)|(refine Z4 ?_;clear hκ κ)|(refine Z2 ?_ ?_<;>intro h ad<;>try exact Xp)|(refine Z6 ?_;intro idn un ah ai af ab ae aa)|refine Z3 ?_|exact⟨⟩|(apply hκ.out;clear hκ κ))
  refine Af (fun m s u''=>∃(j i4:Nat) (ws:List Int),m=a.ts.length-j/\j<=a.ts.length/\s 3=sl i4 ws.length (Am ws)/\s 9=sl idl l.length cs/\s 10=ic l.length/\s 11=ic k/\s 16=sl ida a.ts.length (Ac a.ts)/\s 17=ic a.ts.length/\s 18=ic j/\Keep u u''/\Own u u'' i4 ws.length/\ws.length<=k*3+j/\Ajs (ws=(a.ts.take j).foldl vF vs)) a.ts.length
   ⟨0,i3,vs,Ajm,Ajm,Ajn,Ajn,Ajn,Ajn,Ajn,Ajn,rfl,(hK.new _).put hK.nobj _,Own.put (Own.new hO _) _ _,Ajm,by simp[Ajs]⟩ ?_
  clear ay h9 a0 az hK hO ao au;rintro m s u'' ⟨j,i4,ws,rfl,hj,ay,h9,a0,az,bb,ba,a9,hK,hO,au,hW⟩;have ao:=hK.nobj;have hil:=Bn ws;by_cases an:j<a.ts.length
  ·have ac:=List.getElem?_eq_getElem an;obtain⟨r2,a5⟩:=Cm ac;generalize a.ts[j]=w at a5 ac;obtain⟨w1,w2⟩:=w;have HS:Ajs ((a.ts.take (j+1)).foldl vF vs=vF ((a.ts.take j).foldl vF vs) (w1,w2)):=by
    rw[Ajs,Agz,ac];simp
   clear ac;have av:=Rl w2 ws;have ap:ws.length<=100000:=Ajm;cases w1 with
   |false=>
    have HN:Ajs (vF ws (false,w2)=ws):=by simp[Ajs,vF]
    repeat' (first|refine Z1 ?_|(refine Z8 ?_;intro κ hκ)|(refine Z4 ?_;clear hκ κ)|(refine Z2 ?_ ?_<;>intro h ad<;>try exact Xp)|(refine Z6 ?_;intro idn un ah ai af ab ae aa)|refine Z3 ?_|exact⟨⟩|(apply hκ.out;clear hκ κ))
    refine⟨a.ts.length-(j+1),Ajm,j+1,i4,ws,?_⟩
    ((repeat' with_reducible refine And.intro ?_ ?_)<;>first|exact Xq|exact (Own.put (Own.new hO _) _ _)|exact (by rw[Ajs,HS.out,<-hW.out,HN.out])|exact Xs)
   |true=>
    by_cases hm:w2∈ws
    ·have HN:Ajs (vF ws (true,w2)=ws):=by simp[Ajs,vF,hm]
     have ak:decide (w2∉ws)=false:=by simp[hm]
     rw[ak]at av;clear ak hm
     repeat' (first|refine Z1 ?_|(refine Z8 ?_;intro κ hκ)|(refine Z4 ?_;clear hκ κ)|(refine Z2 ?_ ?_<;>intro h ad<;>try exact Xp)|(refine Z6 ?_;intro idn un ah ai af ab ae aa)|(refine Z5 ?_;refine Xi (Ft _ _ _ ap _) ?_;rintro _ _ ⟨rfl,aj⟩;(have a6:=((hK.new _).put hK.nobj _).trans aj;have ax:=Own.keep (Own.put (Own.new hO _) _ _) aj))|refine Z3 ?_|exact⟨⟩|(apply hκ.out;clear hκ κ))
     refine⟨a.ts.length-(j+1),Ajm,j+1,i4,ws,?_⟩
     ((repeat' with_reducible refine And.intro ?_ ?_)<;>first|exact Xq|exact (ax)|exact (by rw[Ajs,HS.out,<-hW.out,HN.out])|exact Xs)
    ·have HN:Ajs (vF ws (true,w2)=ws++[w2]):=by simp[Ajs,vF,hm]
     have ak:decide (w2∉ws)=true:=by simp[hm]
     rw[ak]at av;clear ak hm
     repeat' (first|refine Z1 ?_|(refine Z8 ?_;intro κ hκ)|(refine Z4 ?_;clear hκ κ)|(refine Z2 ?_ ?_<;>intro h ad<;>try exact Xp)|(refine Z6 ?_;intro idn un ah ai af ab ae aa)|(refine Z5 ?_;refine Xi (Ft _ _ _ ap _) ?_;rintro _ _ ⟨rfl,aj⟩;(have a6:=((hK.new _).put hK.nobj _).trans aj;have ax:=Own.keep (Own.put (Own.new hO _) _ _) aj;have am:=aj.obj _ (show u''.nobj<_ by simp only[Ab,Aa];omega);rw[Ak]at am))|refine Z3 ?_|exact⟨⟩|(apply hκ.out;clear hκ κ))
     refine⟨a.ts.length-(j+1),Ajm,j+1,idn,ws++[w2],?_⟩
     ((repeat' with_reducible refine And.intro ?_ ?_)<;>first|exact Xq|exact (by simpa using ah)|exact (by rw[Ajs,HS.out,<-hW.out,HN.out])|exact (by simp[Am])|exact Xs)
  ·have a4:j=a.ts.length:=Ajm;subst a4;rw[Agw]at hW
   repeat' (first|refine Z1 ?_|(refine Z8 ?_;intro κ hκ)|(refine Z4 ?_;clear hκ κ)|(refine Z2 ?_ ?_<;>intro h ad<;>try exact Xp)|(refine Z6 ?_;intro idn un ah ai af ab ae aa)|refine Z3 ?_|exact⟨⟩|(apply hκ.out;clear hκ κ))
   refine⟨l.length-(k+1),Ajm,k+1,i4,ws,?_⟩
   ((repeat' with_reducible refine And.intro ?_ ?_)<;>first|exact Xq|exact (by rw[Ajs,HG.out,<-hV.out,hW.out])|exact Xs)
 ·have a3:k=l.length:=Ajm;subst a3;have hV:=hV.out;rw[Agw]at hV;subst hV
  repeat' (first|refine Z1 ?_|(refine Z8 ?_;intro κ hκ)|(refine Z4 ?_;clear hκ κ)|(refine Z2 ?_ ?_<;>intro h ad<;>try exact Xp)|(refine Z6 ?_;intro idn un ah ai af ab ae aa)|refine Z3 ?_|exact⟨⟩|(apply hκ.out;clear hκ κ))
  first|exact⟨_,rfl,⟨_,rfl⟩,hK⟩|exact⟨_,rfl,_,rfl⟩|exact⟨_,rfl,⟨_,rfl⟩⟩
theorem Mg {q:Qry}(hq:Ou q):∀a∈atomsQ q,a.ts.length<=3:=by
 intro a ha;simp only[atomsQ,Ahm,Ahs,Ahv]at ha;rcases ha with rfl|⟨p,hp,rfl⟩|ha
 ·exact hq.hd
 ·exact hq.pa p hp
 ·exact hq.na a ha
theorem I6 {q:Qry}(hq:Ou q):(atomsQ q).length<=129:=by
 have h1:=hq.pl;have h2:=hq.nl;simp[atomsQ];omega
def C6 (q:Qry)(v:Int):Bool:=decide (1<C8 (atomsQ q) v)
theorem Pz (q:Qry)(c:List AV)(v:Int)(hc:EQ q c)(hq:Ou q)(u:St):ACalls Tryz.prog 257 [ag c,ic v] u fun r u'=>r=sc (.bool (C6 q v))/\Keep u u':=by
 have hA:=fun u=>Jk q c hc hq u;have ae:=Mg hq;have au:=I6 hq;have ak:∃x0 x1 x2 x3,c=[x0,x1,x2,x3]/\c.all flat=true:=by
  obtain⟨ih,ip,inn,pc,nc,rfl,-,-⟩:=hc;exact⟨_,_,_,_,rfl,rfl⟩
 obtain⟨x0,x1,x2,x3,rfl,an⟩:=ak;have HL:Ajs (C6 q v=decide (1<C8 (atomsQ q) v)):=rfl;generalize C6 q v=lb at*
 clear hc hq;generalize atomsQ q=l at*
 refine Z9 23 [.tmp 4] Tryz.func257 ?_
 repeat' (first|refine Z1 ?_|(refine Z8 ?_;intro κ hκ)|(refine Z4 ?_;clear hκ κ)|(refine Z2 ?_ ?_<;>intro h ac<;>try exact Xp)|(refine Z5 ?_;refine Xi (hA _) ?_;rintro _ _ ⟨ida,cs,rfl,hE,ad⟩;(have ao:=EL.length Ic hE;have ah:=((Keep.refl u).new _).trans ad))|refine Z3 ?_|exact⟨⟩|(apply hκ.out;clear hκ κ))
 refine Af (fun m s u'=>∃i a:Nat,m=l.length-i/\i<=l.length/\s 1=ic v/\s 5=ic a/\s 9=sl ida l.length cs/\s 10=ic l.length/\s 11=ic i/\Keep u u'/\a<=i/\Ajs (a=C8 (l.take i) v)) l.length
  ⟨0,0,Ajm,Ajm,rfl,rfl,rfl,rfl,rfl,ah,by simp,by simp[Ajs,C8]⟩ ?_
 clear ah ad;rintro m s u' ⟨i,a,rfl,hi,h1,h5,h9,aw,av,hK,b1,hA⟩;have am:=hK.nobj;by_cases af:i<l.length
 ·have aa:=List.getElem?_eq_getElem af;obtain⟨id,r,hd⟩:=Jl hE aa;have hb:=ae _ (Ah6 af);generalize l[i]=w at hd aa hb;have HG:Ajs (C8 (l.take (i+1)) v=C8 (l.take i) v+if A8 w.ts v then 1 else 0):=by
   rw[Ajs,Agz,aa,Aia,C8,List.countP_append];simp[C8,List.countP_cons]
  clear aa;have ab:w.ts.length<=1000:=Ajm
  repeat' (first|refine Z1 ?_|(refine Z8 ?_;intro κ hκ)|(refine Z4 ?_;clear hκ κ)|(refine Z2 ?_ ?_<;>intro h ac<;>try exact Xp)|(refine Z5 ?_;refine Xi (Kc _ _ _ _ ab _) ?_;rintro _ _ ⟨rfl,ad⟩;(have ai:=ad.nobj;have ap:=((hK.new _).put hK.nobj _).trans ad))|refine Z3 ?_|exact⟨⟩|(apply hκ.out;clear hκ κ))
  ·refine⟨l.length-(i+1),Ajm,i+1,a+1,?_⟩
   ((repeat' with_reducible refine And.intro ?_ ?_)<;>first|exact Xq|exact (by rw[Ajs,HG.out,hA.out,if_pos (by assumption)])|exact Xs)
  ·refine⟨l.length-(i+1),Ajm,i+1,a,?_⟩
   ((repeat' with_reducible refine And.intro ?_ ?_)<;>first|exact Xq|exact (by rw[Ajs,HG.out,hA.out,if_neg (by simp_all),Agq])|exact Xs)
 ·have hil:i=l.length:=Ajm;subst hil;have hA:=hA.out;rw[Agw]at hA;subst hA;have aj:decide ((C8 l v:Int)>1)=lb:=by rw[HL.out];congr 1;apply propext;omega
  repeat' (first|refine Z1 ?_|(refine Z8 ?_;intro κ hκ)|(refine Z4 ?_;clear hκ κ)|(refine Z2 ?_ ?_<;>intro h ac<;>try exact Xp)|refine Z3 ?_|exact⟨⟩|(apply hκ.out;clear hκ κ))
  first|exact⟨_,rfl,rfl,hK⟩|exact⟨_,rfl,rfl⟩|exact⟨_,rfl,hK⟩|exact hK|exact⟨_,rfl,by rw[<-aj]⟩
def Ka (q:Qry):Nat->List Int->Bool
 |_,[]=>true
 |n,v::vs=>if C6 q v=true then (if 1<n+1\/C8 (q.parts.map (·.a)) v=1 then false else Ka q (n+1) vs)else Ka q n vs
def idleB (q:Qry)(a:Df):Bool:=Ka q 0 (Cc [a])
theorem qG (l:List Df)(v:Int):C8 l v<=l.length:=List.countP_le_length
theorem mZ (q:Qry)(c:List AV)(a:Df)(id:Nat)(ha:a.ts.length<=3)(hc:EQ q c)(hq:Ou q)(u:St):ACalls Tryz.prog 266 [ag c,ag [ic a.p,sl id a.ts.length (Ac a.ts)]] u fun r u'=>r=sc (.bool (idleB q a))/\Keep u u':=by
 have hL:=fun v u=>Pz q c v hc hq u;have az:=fun v u=>La q c v hc hq u;have ax:∀v,C8 (q.parts.map (·.a)) v<=64:=fun v=>by
  have h1:=qG (q.parts.map (·.a)) v;have h2:=hq.pl;simp at h1;omega
 have ay:∃x0 x1 x2 x3,c=[x0,x1,x2,x3]/\c.all flat=true:=by
  obtain⟨ih,ip,inn,pc,nc,rfl,-,-⟩:=hc;exact⟨_,_,_,_,rfl,rfl⟩
 obtain⟨x0,x1,x2,x3,rfl,a5⟩:=ay;have ad:=fun (i:Nat) (u:St)=>Hb [a] [ic a.p,sl id a.ts.length (Ac a.ts)] i (EL.single ⟨id,rfl⟩) (by simp;exact ha) (by simp) u;have aw:=E5 (l:=[a]) (by simp;exact ha);have HI:Ajs (idleB q a=Ka q 0 (Cc [a])):=rfl;generalize idleB q a=ib at*
 generalize Cc [a]=vs at*
 have a3:=Bn vs;simp only[Ahj,Ahi]at aw ad;refine Z9 31 [.tmp 4] Tryz.func266 ?_
 repeat' (first|refine Z1 ?_|(refine Z8 ?_;intro κ hκ)|(refine Z4 ?_;clear hκ κ)|(refine Z2 ?_ ?_<;>intro h ae<;>try exact Xp)|(refine Z5 ?_;refine Xi (ad _ _) ?_;rintro _ _ ⟨⟨idv,rfl⟩,aa⟩;(have ao:=((((Keep.refl u).new _).new _).lay 1).trans aa;have ac:=aa.nobj;have ab:=aa.obj;(try simp only[Ah,Aa]at ac ab)))|refine Z3 ?_|exact⟨⟩|(apply hκ.out;clear hκ κ))
 rename_i u1;have ai:=ab u.nobj Ajm;rw[As,Ag Ajq,Ap]at ai;clear ab aa
 refine Af (fun m s u'=>∃i n:Nat,m=vs.length-i/\i<=vs.length/\s 2=ptr u.nobj 0/\s 5=ic n/\s 10=sl idv vs.length (Am vs)/\s 11=ic vs.length/\s 12=ic i/\Keep u u'/\u.nobj<u'.nobj/\u'.obj u.nobj=[x0,x1,x2,x3]/\n<=i/\Ajs (ib=Ka q n (vs.drop i))) vs.length
  ⟨0,0,Ajm,Ajm,Ajo,Ajo,Ajo,Ajn,rfl,ao,Ajm,ai,by simp,by simpa[Ajs]using HI.out⟩ ?_
 clear ao ai ac;rintro m s u' ⟨i,n,rfl,hi,h2,h5,bb,ba,a9,hK,a4,ob,b1,hI⟩;have a0:=hK.nobj;by_cases am:i<vs.length
 ·have ah:=List.getElem?_eq_getElem am;obtain⟨r,hd⟩:=Dm ah;have aj:Ajs (vs.drop i=vs[i]::vs.drop (i+1)):=Ahl am;generalize vs[i]=v at hd aj;clear ah;have a6:=ax v;have af:Ajs (ib=if C6 q v=true then (if 1<n+1\/C8 (q.parts.map (·.a)) v=1 then false else Ka q (n+1) (vs.drop (i+1)))else Ka q n (vs.drop (i+1))):=by
   rw[Ajs,hI.out,aj.out,Ka]
  clear hI aj;cases an:C6 q v with
  |false=>
   have af:Ajs (ib=Ka q n (vs.drop (i+1))):=by rw[Ajs,af.out,an];simp
   repeat' (first|refine Z1 ?_|(refine Z8 ?_;intro κ hκ)|(refine Z4 ?_;clear hκ κ)|(refine Z2 ?_ ?_<;>intro h ae<;>try exact Xp)|(refine Z5 ?_;refine Xi (hL _ _) ?_;rintro _ _ ⟨rfl,aa⟩;(have ac:=aa.nobj;have ab:=aa.obj;have ap:=hK.trans aa))|refine Z3 ?_|exact⟨⟩|(apply hκ.out;clear hκ κ))
   refine⟨vs.length-(i+1),Ajm,i+1,n,?_⟩
   ((repeat' with_reducible refine And.intro ?_ ?_)<;>first|exact Xq|exact Xs)
  |true=>
   generalize a7:C8 (q.parts.map (·.a)) v=cn at*
   have af:Ajs (ib=if 1<n+1\/cn=1 then false else Ka q (n+1) (vs.drop (i+1))):=by rw[Ajs,af.out,an];simp
   repeat' (first|refine Z1 ?_|(refine Z8 ?_;intro κ hκ)|(refine Z4 ?_;clear hκ κ)|(refine Z2 ?_ ?_<;>intro h ae<;>try exact Xp)|(refine Z5 ?_;first|(refine Xi (hL _ _) ?_;rintro _ _ ⟨rfl,aa⟩;(have ac:=aa.nobj;have ab:=aa.obj;have ap:=hK.trans aa))|(refine Xi (az _ _) ?_;rintro _ _ ⟨rfl,ak⟩;(have av:=ak.nobj;have au:=ak.obj;have a8:=ap.trans ak)))|refine Z3 ?_|exact⟨⟩|(apply hκ.out;clear hκ κ))
   ·have:ib=false:=by
     rw[af.out,if_pos];right;simp only[Ajk]at h;omega
    exact⟨_,rfl,by rw[this]⟩
   ·have:ib=Ka q (n+1) (vs.drop (i+1)):=by
     rw[af.out,if_neg];simp only[beq_eq_false_iff_ne,ne_eq]at h;omega
    refine⟨vs.length-(i+1),Ajm,i+1,n+1,?_⟩
    ((repeat' with_reducible refine And.intro ?_ ?_)<;>first|exact Xq|exact (this)|exact Xs)
   ·have:ib=false:=by
     rw[af.out,if_pos];left;omega
    exact⟨_,rfl,by rw[this]⟩
 ·have hil:i=vs.length:=Ajm;subst hil;have hI:ib=true:=by rw[hI.out,List.drop_length];rfl
  subst hI
  repeat' (first|refine Z1 ?_|(refine Z8 ?_;intro κ hκ)|(refine Z4 ?_;clear hκ κ)|(refine Z2 ?_ ?_<;>intro h ae<;>try exact Xp)|refine Z3 ?_|exact⟨⟩|(apply hκ.out;clear hκ κ))
  first|exact⟨_,rfl,rfl,hK⟩|exact⟨_,rfl,rfl⟩|exact⟨_,rfl,hK⟩|exact hK
def Fc (q:Qry):Qry:={q with parts:=q.parts.eraseP fun p=>idleB q p.a}
theorem iT {α:Type}(f:α->Bool)(l:List α)(w:α):(l++[w]).eraseP f=if l.any f=true then l.eraseP f++[w]else if f w=true then l else l++[w]:=by
 by_cases h:l.any f=true
 ·rw[if_pos h];rw[Ahk]at h;obtain⟨x,hx,hf⟩:=h;exact List.eraseP_append_left hf _ hx
 ·rw[if_neg h];have h':∀b∈l,¬f b=true:=fun b hb hf=>h (Ahk.2 ⟨b,hb,hf⟩);rw[List.eraseP_append_right _ h'];by_cases hw:f w=true
  ·simp[hw]
  ·simp[hw]
theorem tD {α:Type}(f:α->Bool)(l:List α):(l.eraseP f).length<=l.length:=List.length_eraseP_le
theorem eE {q:Qry}(h:Ou q):Ou (Fc q):=by
 have hs:∀p∈(Fc q).parts,p∈q.parts:=fun p hp=>List.mem_of_mem_eraseP hp;have hl:(Fc q).parts.length<=q.parts.length:=tD _ _;exact⟨h.hd,Agj hl h.pl,h.nl,fun p hp=>h.pa p (hs p hp),fun p hp=>h.pt p (hs p hp),fun p hp=>h.p3 p (hs p hp),h.na⟩
theorem iS (q:Qry)(c:List AV)(hc:EQ q c)(hq:Ou q)(u:St):ACalls Tryz.prog 256 [ag c] u fun r u'=>(∃c',r=ag c'/\EQ (Fc q) c')/\Keep u u':=by
 have au:=hc;obtain⟨ih,ip,inn,pc,nc,rfl,hP,hN⟩:=hc;have hpl:=EL.length Ef hP;have hl:=hq.pl;have ao:=fun (a:Df) (id:Nat) (ha:a.ts.length<=3) u=>mZ q _ a id ha au hq u;clear au;refine Z9 35 [.cell 2 191] Tryz.func256 ?_
 repeat' (first|refine Z1 ?_|(refine Z8 ?_;intro κ hκ)|(refine Z4 ?_;clear hκ κ)|(refine Z2 ?_ ?_<;>intro h af<;>try exact Xp)|(refine Z6 ?_;intro idn un ai aj ac aa ad ab)|refine Z3 ?_|exact⟨⟩|(apply hκ.out;clear hκ κ))
 refine Af (fun m s u'=>∃(k i3:Nat) (d:Bool) (o:List Part) (xs:List AV),m=q.parts.length-k/\k<=q.parts.length/\s 1=ptr u.nobj 0/\s 2=ptr (u.nobj+1) 0/\s 3=ptr (u.nobj+2) 0/\s 4=sc (.bool d)/\s 13=sl ip q.parts.length pc/\s 14=ic q.parts.length/\s 15=ic k/\Keep u u'/\u.nobj+2<u'.nobj/\u'.obj u.nobj=[ic q.head.p,sl ih q.head.ts.length (Ac q.head.ts),sl ip q.parts.length pc,sl inn q.nots.length nc]/\u'.obj (u.nobj+1)=[ic 0,nilS,nilS,nilS]/\u'.obj (u.nobj+2)=[ic q.head.p,sl ih q.head.ts.length (Ac q.head.ts),sl i3 o.length xs,sl inn q.nots.length nc]/\Own u u' i3 o.length/\o.length<=k/\xs.length=o.length*3/\Ajs (EL Mk o xs/\d=(q.parts.take k).any (fun p=>idleB q p.a)/\o=(q.parts.take k).eraseP fun p=>idleB q p.a)) q.parts.length
  ⟨0,1,false,[],[],Ajm,Ajm,Ajo,Ajo,Ajo,Ajo,Ajo,Ajo,rfl,Xs,Ajr,?_,?_,?_,Own.nil _ _,by simp,by simp,⟨rfl,by simp,by simp⟩⟩ ?_
 ·rw[Ai Ajm,Ag Ajq,Ag Ajq,Ap]
 ·rw[Ai Ajm,Ag Ajq,Bt Ajq Ajq]
 ·rw[show u.nobj+2=u.nobj+1+1 by omega,Ak];simp
 rintro m s u' ⟨k,i3,d,o,xs,rfl,hk,h1,h2,h3,h4,a9,a8,a7,hK,a6,a3,a0,az,hO,a5,av,hX⟩;have a4:=hK.nobj;by_cases ap:k<q.parts.length
 ·have ae:=List.getElem?_eq_getElem ap;obtain⟨id,idt,r,hd⟩:=Fa hP ae;have hb:=hq.pa _ (Ah6 ap);generalize q.parts[k]=w at hd ae hb;have HE:Ajs ((q.parts.take (k+1)).eraseP (fun p=>idleB q p.a)=if (q.parts.take k).any (fun p=>idleB q p.a)=true then (q.parts.take k).eraseP (fun p=>idleB q p.a)++[w]else if idleB q w.a=true then q.parts.take k else q.parts.take k++[w]):=by
   rw[Ajs,Agz,ae,Aia,iT]
  have HA:Ajs ((q.parts.take (k+1)).any (fun p=>idleB q p.a)=((q.parts.take k).any (fun p=>idleB q p.a)||idleB q w.a)):=by
   rw[Ajs,Agz,ae,Aia,Aiz];simp
  have HN:Ajs ((q.parts.take k).any (fun p=>idleB q p.a)=false->(q.parts.take k).eraseP (fun p=>idleB q p.a)=q.parts.take k):=fun h=>List.eraseP_of_forall_not (fun a ha hf=>by
   rw[Ah5]at h
   exact h a ha hf)
  clear ae;have ao:=ao w.a id hb;cases d with
  |true=>
   have HX:Ajs (EL Mk (o++[w]) (xs++[ic w.a.p,sl id w.a.ts.length (Ac w.a.ts),sl idt w.tups.length (Dd w.tups)])/\true=(q.parts.take (k+1)).any (fun p=>idleB q p.a)/\o++[w]=(q.parts.take (k+1)).eraseP fun p=>idleB q p.a):=by
    obtain⟨x1,x2,x3⟩:=hX.out;refine⟨EL.append x1 (EL.single ⟨id,idt,rfl⟩),?_,?_⟩
    ·rw[HA.out,<-x2];rfl
    ·rw[HE.out,if_pos x2.symm,x3]
   clear hX HE HA HN
   repeat' (first|refine Z1 ?_|(refine Z8 ?_;intro κ hκ)|(refine Z4 ?_;clear hκ κ)|(refine Z2 ?_ ?_<;>intro h af<;>try exact Xp)|(refine Z6 ?_;intro idn un ai aj ac aa ad ab)|refine Z3 ?_|exact⟨⟩|(apply hκ.out;clear hκ κ))
   refine Bh (by first|exact D3) ((hK.new _).put hK.nobj _) (Own.put (Own.new hO _) _ _) (by decide) (by rfl) (av) (by rfl) (by rfl) (by decide) Ajm Ajm ?_;intro idn un ai aj ac aa ad ab;simp only[Ab,Aa]at aa;have eob:∀p,p<u'.nobj->un.obj p=u'.obj p:=fun p hp=>by rw[ac,Ai Ajm,Ag Ajm]
   refine Z3 ?_
   repeat' (first|refine Z1 ?_|(refine Z8 ?_;intro κ hκ)|(refine Z4 ?_;clear hκ κ)|(refine Z2 ?_ ?_<;>intro h af<;>try exact Xp)|(refine Z6 ?_;intro idn un ai aj ac aa ad ab)|refine Z3 ?_|exact⟨⟩|(apply hκ.out;clear hκ κ))
   refine⟨q.parts.length-(k+1),Ajm,k+1,idn,true,o++[w],xs++[ic w.a.p,sl id w.a.ts.length (Ac w.a.ts),sl idt w.tups.length (Dd w.tups)],?_⟩
   ((repeat' with_reducible refine And.intro ?_ ?_)<;>first|exact Xq|exact (aj.put Ajm _)|exact (by simpa using Own.put ai _ _)|exact (HX)|exact Xs)
  |false=>
   cases an:idleB q w.a with
   |true=>
    have HX:Ajs (EL Mk o xs/\true=(q.parts.take (k+1)).any (fun p=>idleB q p.a)/\o=(q.parts.take (k+1)).eraseP fun p=>idleB q p.a):=by
     obtain⟨x1,x2,x3⟩:=hX.out;refine⟨x1,?_,?_⟩
     ·rw[HA.out,<-x2,an];rfl
     ·rw[HE.out,if_neg (by rw[<-x2];simp),if_pos an,x3,HN.out x2.symm]
    clear hX HE HA HN;rw[an]at ao
    repeat' (first|refine Z1 ?_|(refine Z8 ?_;intro κ hκ)|(refine Z4 ?_;clear hκ κ)|(refine Z2 ?_ ?_<;>intro h af<;>try exact Xp)|(refine Z6 ?_;intro idn un ai aj ac aa ad ab)|(refine Z5 ?_;refine Xi (ao _) ?_;rintro _ _ ⟨rfl,ah⟩;(have am:=ah.nobj;have ak:=ah.obj;have ay:=((hK.new _).put hK.nobj _).trans ah;have ax:=Own.keep (Own.put (Own.new hO _) _ _) ah;simp only[Ab,Aa]at am ak))|refine Z3 ?_|exact⟨⟩|(apply hκ.out;clear hκ κ))
    refine⟨q.parts.length-(k+1),Ajm,k+1,i3,true,o,xs,?_⟩
    ((repeat' with_reducible refine And.intro ?_ ?_)<;>first|exact Xq|exact (HX)|exact Xs)
   |false=>
    have HX:Ajs (EL Mk (o++[w]) (xs++[ic w.a.p,sl id w.a.ts.length (Ac w.a.ts),sl idt w.tups.length (Dd w.tups)])/\false=(q.parts.take (k+1)).any (fun p=>idleB q p.a)/\o++[w]=(q.parts.take (k+1)).eraseP fun p=>idleB q p.a):=by
     obtain⟨x1,x2,x3⟩:=hX.out;refine⟨EL.append x1 (EL.single ⟨id,idt,rfl⟩),?_,?_⟩
     ·rw[HA.out,<-x2,an];rfl
     ·rw[HE.out,if_neg (by rw[<-x2];simp),if_neg (by rw[an];simp),x3,HN.out x2.symm]
    clear hX HE HA HN;rw[an]at ao
    repeat' (first|refine Z1 ?_|(refine Z8 ?_;intro κ hκ)|(refine Z4 ?_;clear hκ κ)|(refine Z2 ?_ ?_<;>intro h af<;>try exact Xp)|(refine Z6 ?_;intro idn un ai aj ac aa ad ab)|(refine Z5 ?_;refine Xi (ao _) ?_;rintro _ _ ⟨rfl,ah⟩;(have am:=ah.nobj;have ak:=ah.obj;have ay:=((hK.new _).put hK.nobj _).trans ah;have ax:=Own.keep (Own.put (Own.new hO _) _ _) ah;simp only[Ab,Aa]at am ak))|refine Z3 ?_|exact⟨⟩|(apply hκ.out;clear hκ κ))
    refine⟨q.parts.length-(k+1),Ajm,k+1,idn,false,o++[w],xs++[ic w.a.p,sl id w.a.ts.length (Ac w.a.ts),sl idt w.tups.length (Dd w.tups)],?_⟩
    ((repeat' with_reducible refine And.intro ?_ ?_)<;>first|exact Xq|exact (aj.put Ajm _)|exact (by simpa using Own.put ai _ _)|exact (HX)|exact Xs)
 ·have aw:k=q.parts.length:=Ajm;subst aw;obtain⟨x1,-,x3⟩:=hX.out;rw[Agw]at x3
  repeat' (first|refine Z1 ?_|(refine Z8 ?_;intro κ hκ)|(refine Z4 ?_;clear hκ κ)|(refine Z2 ?_ ?_<;>intro h af<;>try exact Xp)|(refine Z6 ?_;intro idn un ai aj ac aa ad ab)|refine Z3 ?_|exact⟨⟩|(apply hκ.out;clear hκ κ))
  exact⟨_,rfl,⟨_,rfl,ih,i3,inn,xs,nc,by rw[Fc,<-x3],by rw[Fc,<-x3];exact x1,hN⟩,hK.put Ajm _⟩
inductive TrimR (q:Qry):Qry->Prop where
 |refl:TrimR q q
 |tail {q':Qry}:TrimR q q'->TrimR q (Fc q')
theorem mT (q:Qry)(c:List AV)(hc:EQ q c)(hq:Ou q)(u:St):ACalls Tryz.prog 221 [ag c] u fun r u'=>(∃c' q',r=ag c'/\EQ q' c'/\Ou q'/\TrimR q q')/\Keep u u':=by
 obtain⟨ih,ip,inn,pc,nc,rfl,hP,hN⟩:=hc;have hl:=hq.pl;refine Z9 19 [.cell 2 191] Tryz.func221 ?_
 repeat' (first|refine Z1 ?_|(refine Z8 ?_;intro κ hκ)|(refine Z4 ?_;clear hκ κ)|(refine Z2 ?_ ?_<;>intro h aa<;>try exact Xp)|refine Z3 ?_|exact⟨⟩|(apply hκ.out;clear hκ κ))
 refine Af (fun m s u'=>∃(qk:Qry) (ck:List AV),s 1=ptr u.nobj 0/\s 2=ptr (u.nobj+1) 0/\s 3=ic m/\m<=65/\Keep u u'/\u.nobj+1<u'.nobj/\u'.obj u.nobj=ck/\u'.obj (u.nobj+1)=[ic 0,nilS,nilS,nilS]/\EQ qk ck/\Ajs (Ou qk/\TrimR q qk)) (q.parts.length+1)
  ⟨q,_,Ajo,Ajo,Ajo,Ajm,Xs,Ajq,rfl,?_,⟨ih,ip,inn,pc,nc,?_,hP,hN⟩,hq,.refl⟩ ?_
 ·rw[Bt Ajq Ajq]
 ·rw[Ag Ajq,Ap]
 clear hP hN hl;rintro m s u' ⟨qk,ck,h1,h2,h3,hm,hK,ao,am,ak,hE,hQ⟩;have an:=hK.nobj;have ac:=hE;obtain⟨ih,ip,inn,pc,nc,rfl,hP,hN⟩:=hE;have hT:=fun u=>iS qk _ ac hQ.out.1 u;have aj:Ajs _:=ac;clear ac;have hl:=hQ.out.1.pl;by_cases ap:qk.parts.length<m
 ·repeat' (first|refine Z1 ?_|(refine Z8 ?_;intro κ hκ)|(refine Z4 ?_;clear hκ κ)|(refine Z2 ?_ ?_<;>intro h aa<;>try exact Xp)|(refine Z5 ?_;refine Xi (hT _) ?_;rintro _ _ ⟨⟨_,rfl,ih2,ip2,inn2,pc2,nc2,rfl,af,ah⟩,ab⟩;(have ae:=ab.nobj;have ad:=ab.obj;have ai:=hK.trans ab))|refine Z3 ?_|exact⟨⟩|(apply hκ.out;clear hκ κ))
  refine⟨qk.parts.length,Ajm,Fc qk,[ic (Fc qk).head.p,sl ih2 (Fc qk).head.ts.length (Ac (Fc qk).head.ts),sl ip2 (Fc qk).parts.length pc2,sl inn2 (Fc qk).nots.length nc2],?_⟩
  ((repeat' with_reducible refine And.intro ?_ ?_)<;>first|exact Xq|exact (ai.put Ajm _)|exact (⟨ih2,ip2,inn2,pc2,nc2,rfl,af,ah⟩)|exact (⟨eE hQ.out.1,.tail hQ.out.2⟩)|exact Xs)
 ·repeat' (first|refine Z1 ?_|(refine Z8 ?_;intro κ hκ)|(refine Z4 ?_;clear hκ κ)|(refine Z2 ?_ ?_<;>intro h aa<;>try exact Xp)|refine Z3 ?_|exact⟨⟩|(apply hκ.out;clear hκ κ))
  exact⟨_,rfl,⟨_,qk,rfl,aj.out,hQ.out.1,hQ.out.2⟩,hK.put Ajm _⟩
theorem Ds {t:Bc}(h:t.length=3):(Am t).length=3:=by rw[Bn,h]
theorem H9 {t:Bc}(h:t.length=3)(r:List AV):List.take 3 (Am t++r)=Am t:=by rw[List.take_append_of_le_length (by rw[Ds h];exact Agi _),Ahu (by rw[Ds h];exact Agi _)]
theorem D5 {t:Bc}(h:t.length=3):List.take 3 (Am t)=Am t:=Ahu (by rw[Ds h];exact Agi _)
theorem Hz {t:Bc}(h:t.length=3)(x y z:AV):lsp [x,y,z] 0 (Am t)=Am t:=by
 match t,h with
 |[a,b,c],_=>rfl
theorem Pw {t:Bc}(h:t.length=3)(r:List AV):3<=(Am t++r).length:=by rw[Aha,Ds h];omega
theorem Jr {t:Bc}{i:Nat}{x:Int}(h:t[i]?=some x):(Am t)[i]?=some (ic x):=by simp[Am,h]
def Sj (ts:List Tm)(t:Bc)(i:Nat):Bool:=match ts[i]?,t[i]? with
 |some (false,n),some x=>x==n
 |some (true,v),some x=>x==(t[(Iz ts v).toNat]?).getD 0
 |_,_=>false
def Lh (ts:List Tm)(t:Bc):Bool:=(List.range ts.length).all (Sj ts t)
theorem nA (p:Int)(ids:Nat)(ts:List Tm)(t:Bc)(ht:t.length=3)(hn:ts.length<=3)(u:St):ACalls Tryz.prog 185 [ag [ic p,sl ids ts.length (Ac ts)],ag (Am t)] u fun r u'=>r=sc (.bool (Lh ts t))/\Keep u u':=by
 have a0:=Ci ts;have a6:=Ds ht;have a5:=D5 ht;have aw:ts.length<=1000:=Ajm;have aj:∀i,i<ts.length->Sj ts t i=false->Lh ts t=false:=fun i hi h=>by
  unfold Lh;rw[Aix];exact⟨i,by simpa using hi,by rw[h];simp⟩
 refine Z9 41 [.tmp 4] Tryz.func185 ?_
 repeat' (first|refine Z1 ?_|(refine Z8 ?_;intro κ hκ)|(refine Z4 ?_;clear hκ κ)|(refine Z2 ?_ ?_<;>intro h aa<;>try exact Xp)|refine Z3 ?_|exact⟨⟩|(apply hκ.out;clear hκ κ))
 refine Af (fun m s u'=>∃i:Nat,m=ts.length-i/\i<=ts.length/\s 2=ptr u.nobj 0/\s 3=ptr (u.nobj+1) 0/\s 8=sl ids ts.length (Ac ts)/\s 9=ic ts.length/\s 10=ic i/\Keep u u'/\u.nobj+1<u'.nobj/\u'.obj u.nobj=[ic p,sl ids ts.length (Ac ts)]/\u'.obj (u.nobj+1)=Am t/\Ajs (∀j,j<i->Sj ts t j=true)) ts.length
  ⟨0,Ajm,Ajm,Ajo,Ajo,Ajo,Ajo,rfl,Xs,Ajq,?_,?_,fun j hj=>Ajm⟩ ?_
 ·rw[Ag Ajq,Ap]
 ·rw[Bt Ajq Ajq]
 rintro m s u' ⟨i,rfl,hi,h2,h3,h8,h9,a7,hK,a3,av,ak,hA⟩;have az:=hK.nobj;by_cases an:i<ts.length
 ·have ac:=List.getElem?_eq_getElem an;obtain⟨r,hd⟩:=Cm ac;have af:t[i]?=some t[i]:=List.getElem?_eq_getElem Ajm;have ay:=Jr af;generalize ts[i]=w at hd ac;generalize t[i]=x at af ay;obtain⟨w1,w2⟩:=w;have ao:Ajs (Sj ts t i=true->∀j,j<i+1->Sj ts t j=true):=fun h j hj=>by
   by_cases e:j=i
   ·subst e;exact h
   ·exact hA.out j Ajm
  have HB:Ajs (Sj ts t i=false->Lh ts t=false):=aj i an;cases w1 with
  |false=>
   have HF:Ajs (Sj ts t i=(x==w2)):=by rw[Ajs,Sj,ac,af]
   clear ac af hA
   repeat' (first|refine Z1 ?_|(refine Z8 ?_;intro κ hκ)|(refine Z4 ?_;clear hκ κ)|(refine Z2 ?_ ?_<;>intro h aa<;>try exact Xp)|refine Z3 ?_|exact⟨⟩|(apply hκ.out;clear hκ κ))
   refine A9 Aj (fun _=>True) [] [0,1,2,3,4,5,6,7,8,9,10] [] Ajp (fun _ _ _ h=>h) ?_;intro κ hκ
   repeat' (first|refine Z1 ?_|(refine Z8 ?_;intro κ hκ)|(refine Z4 ?_;clear hκ κ)|(refine Z2 ?_ ?_<;>intro h aa<;>try exact Xp)|refine Z3 ?_|exact⟨⟩|(apply hκ.out;clear hκ κ))
   ·exact⟨_,rfl,by rw[HB.out (by rw[HF.out];simp only[bne_iff_ne,ne_eq]at h;simp[h])],(hK.new _).put hK.nobj _⟩
   ·have au:Keep u ((u'.new [sc (.bool false),ic 0]).put u'.nobj [sc (.bool false),ic w2]):=(hK.new _).put hK.nobj _;have kv:∀p,p<u'.nobj->((u'.new [sc (.bool false),ic 0]).put u'.nobj [sc (.bool false),ic w2]).obj p=u'.obj p:=fun p hp=>by rw[Ai Ajm,Ag Ajm]
    refine Bu (Q:=fun e s' u''=>e= .normal/\s' 39=sc (.bool false)/\s' 2=ptr u.nobj 0/\s' 3=ptr (u.nobj+1) 0/\s' 8=sl ids ts.length (Ac ts)/\s' 9=ic ts.length/\s' 10=ic i/\u''=(u'.new [sc (.bool false),ic 0]).put u'.nobj [sc (.bool false),ic w2]) ?_ ?_
    ·refine A2 Aj (fun _=>True) [] [0,1,2,3,4,5,6,7,8] 5 #[true,true,true,true,true,true,true,true,true,false,false,false,false,false] Ajp (fun _ _ _ h=>by cases h.1) ?_;intro κ hκ;refine Z3 ?_;refine hκ.out _ ?_;clear hκ κ;refine Ao (i:=9) Ajp ?_;refine Ar ?_;intro κ hκ;refine Z3 ?_;refine hκ.out _ _ ⟨kept_refl,?_⟩;clear hκ κ;refine E6 [10,11,12,13] Ajp Ajp (fun _ _ _ h=>by cases h.1) (Agi _) (fun o ho _=>rfl) ?_;intro κ hκ;refine Z3 ?_;refine hκ.out _ _ ⟨rfl,?_⟩;simp[upd, *]
    ·rintro e s' u'' ⟨rfl,g39,g2,g3,g8,g9,g10,rfl⟩;refine E4 g39 ?_
     repeat' (first|refine Z1 ?_|(refine Z8 ?_;intro κ hκ)|(refine Z4 ?_;clear hκ κ)|(refine Z2 ?_ ?_<;>intro h aa<;>try exact Xp)|refine Z3 ?_|exact⟨⟩|(apply hκ.out;clear hκ κ))
     refine⟨ts.length-(i+1),Ajm,i+1,?_⟩
     ((repeat' with_reducible refine And.intro ?_ ?_)<;>first|exact Xq|exact (ao.out (by rw[HF.out];simpa using h))|exact Xs)
  |true=>
   obtain⟨pl,hpl,am⟩:∃k:Nat,k<ts.length/\Iz ts w2=(k:Int):=by
    have hm:=Agp ac;exact⟨ts.idxOf (true,w2),Ai0.2 hm,if_pos hm⟩
   have ai:t[pl]?=some t[pl]:=List.getElem?_eq_getElem Ajm;have ax:=Jr ai;generalize t[pl]=y at ai ax;have HF:Ajs (Sj ts t i=(x==y)):=by rw[Ajs,Sj,ac,af];simp[am,ai]
   clear ac af hA ai;have ap:=fun u=>Ga p ids ts w2 aw u;rw[am]at ap
   repeat' (first|refine Z1 ?_|(refine Z8 ?_;intro κ hκ)|(refine Z4 ?_;clear hκ κ)|(refine Z2 ?_ ?_<;>intro h aa<;>try exact Xp)|refine Z3 ?_|exact⟨⟩|(apply hκ.out;clear hκ κ))
   refine A9 Aj (fun _=>True) [] [0,1,2,3,4,5,6,7,8,9,10] [] Ajp (fun _ _ _ h=>h) ?_;intro κ hκ
   repeat' (first|refine Z1 ?_|(refine Z8 ?_;intro κ hκ)|(refine Z4 ?_;clear hκ κ)|(refine Z2 ?_ ?_<;>intro h aa<;>try exact Xp)|refine Z3 ?_|exact⟨⟩|(apply hκ.out;clear hκ κ))
   have au:Keep u ((u'.new [sc (.bool false),ic 0]).put u'.nobj [sc (.bool true),ic w2]):=(hK.new _).put hK.nobj _;have kv:∀p,p<u'.nobj->((u'.new [sc (.bool false),ic 0]).put u'.nobj [sc (.bool true),ic w2]).obj p=u'.obj p:=fun p hp=>by rw[Ai Ajm,Ag Ajm]
   refine Bu (Q:=fun e s' u''=>e= .normal/\s' 39=sc (.bool (x !=y))/\s' 2=ptr u.nobj 0/\s' 3=ptr (u.nobj+1) 0/\s' 8=sl ids ts.length (Ac ts)/\s' 9=ic ts.length/\s' 10=ic i/\Keep ((u'.new [sc (.bool false),ic 0]).put u'.nobj [sc (.bool true),ic w2]) u'') ?_ ?_
   ·refine A2 Aj (fun _=>True) [] [0,1,2,3,4,5,6,7,8] 5 #[true,true,true,true,true,true,true,true,true,false,false,false,false,false] Ajp (fun _ _ _ h=>by cases h.1) ?_;intro κ hκ;refine Z3 ?_;refine hκ.out _ ?_;clear hκ κ;refine Ao (i:=9) Ajp ?_;refine Ar ?_;intro κ hκ;refine Z3 ?_;refine ACalls.mono (ap _) ?_;rintro _ u5 ⟨rfl,ad⟩;refine Z3 ?_;refine hκ.out _ _ ⟨Aq ad,?_⟩;clear hκ κ;have ae:=ad.nobj;have ab:=ad.obj;simp only[Ab,Aa]at ae ab;have o5:u5.obj (u.nobj+1)=Am t:=by rw[ab _ Ajm,kv _ Ajm,ak]
    refine E6 [10,11,12,13] Ajp Ajp (fun _ _ _ h=>by cases h.1) ad.nobj (fun o ho _=>ad.ver o ho) ?_;intro κ hκ;refine Z3 ?_;refine hκ.out _ _ ⟨rfl,?_⟩;simp[upd, *]
   ·rintro e s' u'' ⟨rfl,g39,g2,g3,g8,g9,g10,ad⟩;have ae:=ad.nobj;have ab:=ad.obj;simp only[Ab,Aa]at ae ab;have a4:=au.trans ad;have o50:u''.obj u.nobj=[ic p,sl ids ts.length (Ac ts)]:=by rw[ab _ Ajm,kv _ Ajm,av]
    have o51:u''.obj (u.nobj+1)=Am t:=by rw[ab _ Ajm,kv _ Ajm,ak]
    clear ab kv;cases ah:x !=y with
    |true=>
     rw[ah]at g39;refine F4 g39 ?_
     repeat' (first|refine Z1 ?_|(refine Z8 ?_;intro κ hκ)|(refine Z4 ?_;clear hκ κ)|(refine Z2 ?_ ?_<;>intro h aa<;>try exact Xp)|refine Z3 ?_|exact⟨⟩|(apply hκ.out;clear hκ κ))
     exact⟨_,rfl,by rw[HB.out (by rw[HF.out];simp only[bne_iff_ne,ne_eq]at ah;simp[ah])]⟩
    |false=>
     rw[ah]at g39;refine E4 g39 ?_
     repeat' (first|refine Z1 ?_|(refine Z8 ?_;intro κ hκ)|(refine Z4 ?_;clear hκ κ)|(refine Z2 ?_ ?_<;>intro h aa<;>try exact Xp)|refine Z3 ?_|exact⟨⟩|(apply hκ.out;clear hκ κ))
     refine⟨ts.length-(i+1),Ajm,i+1,?_⟩
     ((repeat' with_reducible refine And.intro ?_ ?_)<;>first|exact Xq|exact (ao.out (by rw[HF.out];simpa using ah))|exact Xs)
 ·have hil:i=ts.length:=Ajm;subst hil;have hR:Lh ts t=true:=by
   unfold Lh;rw[Ago];intro j hj;exact hA.out j (by simpa using hj)
  repeat' (first|refine Z1 ?_|(refine Z8 ?_;intro κ hκ)|(refine Z4 ?_;clear hκ κ)|(refine Z2 ?_ ?_<;>intro h aa<;>try exact Xp)|refine Z3 ?_|exact⟨⟩|(apply hκ.out;clear hκ κ))
  first|exact⟨_,rfl,by rw[hR],hK⟩|exact⟨_,rfl,by rw[hR]⟩|exact⟨_,rfl,hK⟩|exact⟨_,rfl,rfl⟩|exact hK
theorem Gj {l:List Bc}{k:Nat}{t:Bc}(h3:T3 l)(h:l[k]?=some t):t.length=3/\∃r,(Dd l).drop (k*3)=Am t++r:=by
 obtain⟨a,b,c,r,rfl,e⟩:=pH h3 h;exact⟨rfl,r,by rw[e];rfl⟩
def H4 (t:Bc)(k:Int):Int:=(t[k.toNat]?).getD 0
theorem J2 {ts:List Tm}{v:Int}(h:A8 ts v=true):∃k:Nat,k<ts.length/\Iz ts v=(k:Int):=by
 have hm:(true,v)∈ts:=by simpa[A8]using h
 exact⟨ts.idxOf (true,v),Ai0.2 hm,if_pos hm⟩
def H5 (v n:Int)(p:Part):Part:=if A8 p.a.ts v=true then⟨⟨p.a.p,Bg v n p.a.ts⟩,p.tups.filter fun t=>H4 t (Iz p.a.ts v)==n⟩else p
theorem Dw {α:Type}(f:α->Bool)(l:List α)(x:α):(l++[x]).filter f=l.filter f++if f x=true then [x]else []:=by
 rw[Ai1];by_cases h:f x=true<;>simp[h]
theorem mU (p:Part)(id idt:Nat)(v n:Int)(ha:p.a.ts.length<=3)(ht:p.tups.length<=5000)(h3:T3 p.tups)(u:St):ACalls Tryz.prog 227 [ag [ic p.a.p,sl id p.a.ts.length (Ac p.a.ts),sl idt p.tups.length (Dd p.tups)],ic v,ic n] u fun r u'=>(∃c',r=ag c'/\Mk (H5 v n p) c')/\Keep u u':=by
 have bf:=E7 h3;have a0:p.a.ts.length<=1000:=Ajm;have av:=fun u=>Ga p.a.p id p.a.ts v a0 u;have ba:=fun u=>M8 p.a.p id p.a.ts v n a0 u;cases hv:A8 p.a.ts v with
 |false=>
  have hp:Iz p.a.ts v= -1:=J1 (by simpa[A8]using hv);have HR:Ajs (H5 v n p=p):=if_neg (by rw[hv];simp);rw[hp]at av;clear hp;refine Z9 44 [.cell 6 239] Tryz.func227 ?_
  repeat' (first|refine Z1 ?_|(refine Z8 ?_;intro κ hκ)|(refine Z4 ?_;clear hκ κ)|(refine Z2 ?_ ?_<;>intro h af<;>try exact Xp)|(refine Z6 ?_;intro idn un ak am ac aa ad ab)|(refine Z5 ?_;refine Xi (av _) ?_;rintro _ _ ⟨rfl,ai⟩;(have aj:=ai.nobj;have ae:=ai.obj;have aw:=(((Keep.refl u).new _).new _).trans ai;simp only[Aa]at aj ae))|refine Z3 ?_|exact⟨⟩|(apply hκ.out;clear hκ κ))
  exact⟨_,rfl,⟨_,rfl,by rw[HR.out];exact⟨id,idt,rfl⟩⟩,aw.put Ajm _⟩
 |true=>
  obtain⟨pl,hpl,az⟩:=J2 hv;have HR:Ajs (H5 v n p=⟨⟨p.a.p,Bg v n p.a.ts⟩,p.tups.filter fun t=>H4 t pl==n⟩):=by rw[Ajs,H5,if_pos hv,az]
  rw[az]at av;clear az;have a6:pl<3:=Ajm;have a7:((pl:Int)== -1)=false:=by simp
  refine Z9 44 [.cell 6 239] Tryz.func227 ?_
  repeat' (first|refine Z1 ?_|(refine Z8 ?_;intro κ hκ)|(refine Z4 ?_;clear hκ κ)|(refine Z2 ?_ ?_<;>intro h af<;>try exact Xp)|(refine Z6 ?_;intro idn un ak am ac aa ad ab)|(refine Z5 ?_;first|(refine Xi (av _) ?_;rintro _ _ ⟨rfl,ai⟩;(have aj:=ai.nobj;have ae:=ai.obj;have aw:=(((Keep.refl u).new _).new _).trans ai;simp only[Aa]at aj ae))|(refine Xi (ba _) ?_;rintro _ _ ⟨⟨idp,rfl⟩,ax⟩;(have a3:=ax.nobj;have ao:=ax.obj;have bb:=aw.trans ax)))|refine Z3 ?_|exact⟨⟩|(apply hκ.out;clear hκ κ))
  rename_i u1 u2;have o1:u2.obj (u.nobj+1)=[ic 0,nilS,nilS]:=by rw[ao _ Ajm,ae _ Ajm,Bt Ajq Ajq]
  clear ae ao aw ai ax
  refine Af (fun m s u'=>∃(i i3:Nat) (o:List Bc) (xs:List AV),m=p.tups.length-i/\i<=p.tups.length/\s 2=ic n/\s 6=ptr (u.nobj+1) 0/\s 7=ic pl/\s 8=ptr u2.nobj 0/\s 25=sl idt p.tups.length (Dd p.tups)/\s 26=ic p.tups.length/\s 27=ic i/\Keep u u'/\u2.nobj<u'.nobj/\u'.obj (u.nobj+1)=[ic 0,nilS,nilS]/\u'.obj u2.nobj=[ic p.a.p,sl idp (Bg v n p.a.ts).length (Ac (Bg v n p.a.ts)),sl i3 o.length xs]/\Own u u' i3 o.length/\o.length<=i/\xs.length=o.length*3/\Ajs (xs=Dd o/\o=(p.tups.take i).filter fun t=>H4 t pl==n)) p.tups.length
   ⟨0,1,[],[],Ajm,Ajm,by simp[upd,initS],Ajo,Ajo,Ajo,Ajo,Ajo,rfl,Xs,Ajr,?_,?_,Own.nil _ _,by simp,by simp,⟨rfl,by simp⟩⟩ ?_
  ·rw[Ai Ajm,Ag Ajm,o1]
  ·rw[Ak];simp
  clear o1 bb;rintro m s u' ⟨i,i3,o,xs,rfl,hi,h2,h6,h7,h8,bm,bl,bi,hK,bh,bd,bc,hO,bg,a4,hX⟩;have be:=hK.nobj;by_cases a8:i<p.tups.length
  ·have ah:=List.getElem?_eq_getElem a8;obtain⟨an,r,hd⟩:=Gj h3 ah;generalize p.tups[i]=t at hd ah an;have HF:Ajs ((p.tups.take (i+1)).filter (fun t=>H4 t pl==n)=(p.tups.take i).filter (fun t=>H4 t pl==n)++if (H4 t pl==n)=true then [t]else []):=by
    rw[Ajs,Agz,ah,Aia,Dw]
   have au:t[pl]?=some t[pl]:=List.getElem?_eq_getElem Ajm;have a9:=Jr au;have ap:Ajs (H4 t pl=t[pl]):=by simp[Ajs,H4,au]
   generalize t[pl]=x at au a9 ap;clear ah au;have f1:=Ds an;have f2:=H9 an;have f3:=D5 an;have f4:=Hz an;have f5:=Co t;have f6:=Pw an;by_cases ay:x=n
   ·subst ay;have HX:Ajs (xs++Am t=Dd (o++[t])/\o++[t]=(p.tups.take (i+1)).filter fun t=>H4 t pl==x):=by
     obtain⟨x1,x2⟩:=hX.out;refine⟨by rw[x1,Lp],?_⟩;rw[HF.out,if_pos (by rw[ap.out];simp),x2]
    clear hX HF ap
    repeat' (first|refine Z1 ?_|(refine Z8 ?_;intro κ hκ)|(refine Z4 ?_;clear hκ κ)|(refine Z2 ?_ ?_<;>intro h af<;>try exact Xp)|(refine Z6 ?_;intro idn un ak am ac aa ad ab)|refine Z3 ?_|exact⟨⟩|(apply hκ.out;clear hκ κ))
    refine Bh (by first|exact Fx) ((hK.new _).put hK.nobj _) (Own.put (Own.new hO _) _ _) (by decide) (by rfl) (a4) (by rw[f1]) (f5) (by decide) Ajm Ajm ?_;intro idn un ak am ac aa ad ab;simp only[Ab,Aa]at aa;have eob:∀p,p<u'.nobj->un.obj p=u'.obj p:=fun p hp=>by rw[ac,Ai Ajm,Ag Ajm]
    refine Z3 ?_
    repeat' (first|refine Z1 ?_|(refine Z8 ?_;intro κ hκ)|(refine Z4 ?_;clear hκ κ)|(refine Z2 ?_ ?_<;>intro h af<;>try exact Xp)|(refine Z6 ?_;intro idn un ak am ac aa ad ab)|refine Z3 ?_|exact⟨⟩|(apply hκ.out;clear hκ κ))
    refine⟨p.tups.length-(i+1),Ajm,i+1,idn,o++[t],xs++Am t,?_⟩
    ((repeat' with_reducible refine And.intro ?_ ?_)<;>first|exact Xq|exact (am.put Ajm _)|exact (by simpa using Own.put ak _ _)|exact (HX)|exact Xs)
   ·have a5:(x==n)=false:=by simpa using ay
    have HX:Ajs (xs=Dd o/\o=(p.tups.take (i+1)).filter fun t=>H4 t pl==n):=by
     obtain⟨x1,x2⟩:=hX.out;refine⟨x1,?_⟩;rw[HF.out,if_neg (by rw[ap.out,a5];simp),x2,Ag3]
    clear hX HF ap ay
    repeat' (first|refine Z1 ?_|(refine Z8 ?_;intro κ hκ)|(refine Z4 ?_;clear hκ κ)|(refine Z2 ?_ ?_<;>intro h af<;>try exact Xp)|(refine Z6 ?_;intro idn un ak am ac aa ad ab)|refine Z3 ?_|exact⟨⟩|(apply hκ.out;clear hκ κ))
    refine⟨p.tups.length-(i+1),Ajm,i+1,i3,o,xs,?_⟩
    ((repeat' with_reducible refine And.intro ?_ ?_)<;>first|exact Xq|exact (Own.put (Own.new hO _) _ _)|exact (HX)|exact Xs)
  ·have hil:i=p.tups.length:=Ajm;subst hil;obtain⟨x1,x2⟩:=hX.out;rw[Agw]at x2
   repeat' (first|refine Z1 ?_|(refine Z8 ?_;intro κ hκ)|(refine Z4 ?_;clear hκ κ)|(refine Z2 ?_ ?_<;>intro h af<;>try exact Xp)|(refine Z6 ?_;intro idn un ak am ac aa ad ab)|refine Z3 ?_|exact⟨⟩|(apply hκ.out;clear hκ κ))
   exact⟨_,rfl,⟨_,rfl,by rw[HR.out,<-x2];exact⟨idp,i3,by first|rfl|rw[x1]⟩⟩,hK.put Ajm _⟩
end Go.Proofs.YtmoeoppbmhfbpabGreatDoorL
