import Derived.Test.YtmoeoppbmhfbpaaGreatDoorHEngA
set_option maxHeartbeats 16000000
set_option maxRecDepth 100000
set_option linter.all false
namespace Go.Proofs.YtmoeoppbmhfbpaaGreatDoorH
open Go.Abs
def vF (acc:List Int)(t:Tm):List Int:=if t.1=true/\t.2∉acc then acc++[t.2]else acc
def Cg (l:List Ee):List Int:=(l.flatMap (·.ts)).foldl vF []
theorem xQ (acc:List Int)(t:Tm):(vF acc t).length<=acc.length+1:=by unfold vF;split<;>simp
theorem jX:∀(ts:List Tm) (acc:List Int),(ts.foldl vF acc).length<=acc.length+ts.length
 |[],acc=>by simp
 |t::ts,acc=>by
  have h1:=jX ts (vF acc t);have h2:=xQ acc t;simp only[Aa2,Abv];omega
theorem jW:∀(ts:List Tm) (acc:List Int) (v:Int),v∈ts.foldl vF acc↔v∈acc\/(true,v)∈ts
 |[],acc,v=>by simp
 |t::ts,acc,v=>by
  rw[Aa2,jW ts];obtain⟨b,w⟩:=t;unfold vF;by_cases h:b=true/\w∉acc
  ·rw[if_pos h];obtain⟨rfl,hw⟩:=h;simp only[Ab2,Acd,Acu,Ad1,Prod.mk.injEq,Ad0];constructor
   ·rintro ((h|rfl)|h)
    ·exact .inl h
    ·exact .inr (.inl rfl)
    ·exact .inr (.inr h)
   ·rintro (h|rfl|h)
    ·exact .inl (.inl h)
    ·exact .inl (.inr rfl)
    ·exact .inr h
  ·rw[if_neg h];simp only[Acd,Prod.mk.injEq];constructor
   ·rintro (h|h)
    ·exact .inl h
    ·exact .inr (.inr h)
   ·rintro (h'|⟨rfl,rfl⟩|h')
    ·exact .inl h'
    ·by_cases hm:v∈acc
     ·exact .inl hm
     ·exact absurd ⟨rfl,hm⟩ h
    ·exact .inr h'
theorem Dk (l:List Ee)(v:Int):v∈Cg l↔∃a∈l,(true,v)∈a.ts:=by
 unfold Cg;rw[jW];simp[Acl]
theorem W3:∀(l:List Ee),(∀a∈l,a.ts.length<=3)->(l.flatMap (·.ts)).length<=l.length*3
 |[],_=>by simp
 |a::l,h=>by
  have h1:=h a (by simp);have h2:=W3 l (fun b hb=>h b (by simp[hb]));simp only[Aca,Abj,Abv];omega
theorem F3 {l:List Ee}(h:∀a∈l,a.ts.length<=3):(Cg l).length<=l.length*3:=by
 have h1:=jX (l.flatMap (·.ts)) [];have h2:=W3 l h;unfold Cg;simp only[Abu]at h1;omega
theorem Hv (l:List Ee)(cs:List AV)(idl:Nat)(hE:EL Ot l cs)(h3:∀a∈l,a.ts.length<=3)(hl:l.length<=200)(u:St):ACalls Tryz.prog 111 [sl idl l.length cs] u fun r u'=>(∃id,r=sl id (Cg l).length (Aj (Cg l)))/\Keep u u':=by
 have a9:=EL.length Hg hE;refine Z9 39 [.tmp 2] Tryz.func111 ?_
 repeat' (first|refine Z1 ?_|(refine Z8 ?_;intro ya J)|(refine Z4 ?_;clear J ya)|(refine Z2 ?_ ?_<;>intro h ad<;>try exact Xp)|(refine Z6 ?_;intro idn un ah ai af ab ae aa)|refine Z3 ?_|exact Zt|(apply J.out;clear J ya))
 refine Ab (fun m s u'=>∃(k i3:Nat) (vs:List Int),m=l.length-k/\k<=l.length/\s 3=sl i3 vs.length (Aj vs)/\s 9=sl idl l.length cs/\s 10=ic l.length/\s 11=ic k/\Keep u u'/\Own u u' i3 vs.length/\vs.length<=k*3/\Ad8 (vs=Cg (l.take k))) l.length
  ⟨0,1,[],Ad2,Ad2,by simp[upd,Aj],rfl,rfl,rfl,Xs,Own.nil _ _,by simp,by simp[Ad8,Cg]⟩ ?_
 rintro m s u' ⟨k,i3,vs,rfl,hk,ay,h9,a0,az,hK,hO,au,hV⟩;have ao:=hK.nobj;by_cases aw:k<l.length
 ·have ac:=Aav aw;obtain⟨ida,r,hd⟩:=Il hE ac;have hb:=h3 _ (Ab1 aw);generalize l[k]=a at hd ac hb;have HG:Ad8 (Cg (l.take (k+1))=a.ts.foldl vF (Cg (l.take k))):=by
   rw[Ad8,Aa8,ac];simp[Cg]
  clear ac;have a7:=En a.ts
  repeat' (first|refine Z1 ?_|(refine Z8 ?_;intro ya J)|(refine Z4 ?_;clear J ya)|(refine Z2 ?_ ?_<;>intro h ad<;>try exact Xp)|(refine Z6 ?_;intro idn un ah ai af ab ae aa)|refine Z3 ?_|exact Zt|(apply J.out;clear J ya))
  refine Ab (fun m s u''=>∃(j i4:Nat) (ws:List Int),m=a.ts.length-j/\j<=a.ts.length/\s 3=sl i4 ws.length (Aj ws)/\s 9=sl idl l.length cs/\s 10=ic l.length/\s 11=ic k/\s 16=sl ida a.ts.length (Ae a.ts)/\s 17=ic a.ts.length/\s 18=ic j/\Keep u u''/\Own u u'' i4 ws.length/\ws.length<=k*3+j/\Ad8 (ws=(a.ts.take j).foldl vF vs)) a.ts.length
   ⟨0,i3,vs,Ad2,Ad2,Ad3,Ad3,Ad3,Ad3,Ad3,Ad3,rfl,(hK.new _).put hK.nobj _,Own.put (Own.new hO _) _ _,Ad2,by simp[Ad8]⟩ ?_
  clear ay h9 a0 az hK hO ao au;rintro m s u'' ⟨j,i4,ws,rfl,hj,ay,h9,a0,az,bc,bb,ba,hK,hO,au,hW⟩;have ao:=hK.nobj;have a8:=Bm ws;by_cases an:j<a.ts.length
  ·have ac:=Aav an;obtain⟨r2,a5⟩:=Eo ac;generalize a.ts[j]=w at a5 ac;obtain⟨w1,w2⟩:=w;have HS:Ad8 ((a.ts.take (j+1)).foldl vF vs=vF ((a.ts.take j).foldl vF vs) (w1,w2)):=by
    rw[Ad8,Aa8,ac];simp
   clear ac;have av:=P4 w2 ws;have ap:ws.length<=100000:=Ad2;cases w1 with
   |false=>
    have HN:Ad8 (vF ws (false,w2)=ws):=by simp[Ad8,vF]
    repeat' (first|refine Z1 ?_|(refine Z8 ?_;intro ya J)|(refine Z4 ?_;clear J ya)|(refine Z2 ?_ ?_<;>intro h ad<;>try exact Xp)|(refine Z6 ?_;intro idn un ah ai af ab ae aa)|refine Z3 ?_|exact Zt|(apply J.out;clear J ya))
    refine⟨a.ts.length-(j+1),Ad2,j+1,i4,ws,?_⟩
    ((repeat' refine Zi ?_ ?_)<;>first|exact Xq|exact (Own.put (Own.new hO _) _ _)|exact (by rw[Ad8,HS.out,<-hW.out,HN.out])|exact Xs)
   |true=>
    by_cases hm:w2∈ws
    ·have HN:Ad8 (vF ws (true,w2)=ws):=by simp[Ad8,vF,hm]
     have ak:decide (w2∉ws)=false:=by simp[hm]
     rw[ak]at av;clear ak hm
     repeat' (first|refine Z1 ?_|(refine Z8 ?_;intro ya J)|(refine Z4 ?_;clear J ya)|(refine Z2 ?_ ?_<;>intro h ad<;>try exact Xp)|(refine Z6 ?_;intro idn un ah ai af ab ae aa)|(refine Z5 ?_;refine Xi (Gk _ _ _ ap _) ?_;rintro _ _ ⟨rfl,aj⟩;(have a6:=((hK.new _).put hK.nobj _).trans aj;have ax:=Own.keep (Own.put (Own.new hO _) _ _) aj))|refine Z3 ?_|exact Zt|(apply J.out;clear J ya))
     refine⟨a.ts.length-(j+1),Ad2,j+1,i4,ws,?_⟩
     ((repeat' refine Zi ?_ ?_)<;>first|exact Xq|exact ax|exact (by rw[Ad8,HS.out,<-hW.out,HN.out])|exact Xs)
    ·have HN:Ad8 (vF ws (true,w2)=ws++[w2]):=by simp[Ad8,vF,hm]
     have ak:decide (w2∉ws)=true:=by simp[hm]
     rw[ak]at av;clear ak hm
     repeat' (first|refine Z1 ?_|(refine Z8 ?_;intro ya J)|(refine Z4 ?_;clear J ya)|(refine Z2 ?_ ?_<;>intro h ad<;>try exact Xp)|(refine Z6 ?_;intro idn un ah ai af ab ae aa)|(refine Z5 ?_;refine Xi (Gk _ _ _ ap _) ?_;rintro _ _ ⟨rfl,aj⟩;(have a6:=((hK.new _).put hK.nobj _).trans aj;have ax:=Own.keep (Own.put (Own.new hO _) _ _) aj;have am:=aj.obj _ (show u''.nobj<_ by simp only[Ac,Aa];omega);rw[Ak]at am))|refine Z3 ?_|exact Zt|(apply J.out;clear J ya))
     refine⟨a.ts.length-(j+1),Ad2,j+1,idn,ws++[w2],?_⟩
     ((repeat' refine Zi ?_ ?_)<;>first|exact Xq|exact (by simpa using ah)|exact (by rw[Ad8,HS.out,<-hW.out,HN.out])|exact (by simp[Aj])|exact Xs)
  ·have a4:j=a.ts.length:=Ad2;subst a4;rw[Aa3]at hW
   repeat' (first|refine Z1 ?_|(refine Z8 ?_;intro ya J)|(refine Z4 ?_;clear J ya)|(refine Z2 ?_ ?_<;>intro h ad<;>try exact Xp)|(refine Z6 ?_;intro idn un ah ai af ab ae aa)|refine Z3 ?_|exact Zt|(apply J.out;clear J ya))
   refine⟨l.length-(k+1),Ad2,k+1,i4,ws,?_⟩
   ((repeat' refine Zi ?_ ?_)<;>first|exact Xq|exact (by rw[Ad8,HG.out,<-hV.out,hW.out])|exact Xs)
 ·have a3:k=l.length:=Ad2;subst a3;have hV:=hV.out;rw[Aa3]at hV;subst hV
  repeat' (first|refine Z1 ?_|(refine Z8 ?_;intro ya J)|(refine Z4 ?_;clear J ya)|(refine Z2 ?_ ?_<;>intro h ad<;>try exact Xp)|(refine Z6 ?_;intro idn un ah ai af ab ae aa)|refine Z3 ?_|exact Zt|(apply J.out;clear J ya))
  first|exact⟨_,rfl,⟨_,rfl⟩,hK⟩|exact⟨_,rfl,_,rfl⟩|exact⟨_,rfl,⟨_,rfl⟩⟩
theorem K7 {q:Qry}(hq:M9 q):∀a∈atomsQ q,a.ts.length<=3:=by
 intro a ha;simp only[atomsQ,Acd,Ab2,Acf]at ha;rcases ha with rfl|⟨p,hp,rfl⟩|ha
 ·exact hq.hd
 ·exact hq.pa p hp
 ·exact hq.na a ha
theorem H1 {q:Qry}(hq:M9 q):(atomsQ q).length<=129:=by
 have h1:=hq.pl;have h2:=hq.nl;simp[atomsQ];omega
def Cw (q:Qry)(v:Int):Bool:=decide (1<Cz (atomsQ q) v)
theorem Oe (q:Qry)(c:List AV)(v:Int)(hc:EQ q c)(hq:M9 q)(u:St):ACalls Tryz.prog 252 [ag c,ic v] u fun r u'=>r=sc (.bool (Cw q v))/\Keep u u':=by
 have hA:=fun u=>Ii q c hc hq u;have ae:=K7 hq;have av:=H1 hq;have am:∃x0 x1 x2 x3,c=[x0,x1,x2,x3]/\c.all flat=true:=by
  obtain⟨ih,ip,inn,pc,nc,rfl,-,-⟩:=hc;exact⟨_,_,_,_,rfl,rfl⟩
 obtain⟨x0,x1,x2,x3,rfl,ao⟩:=am;have HL:Ad8 (Cw q v=decide (1<Cz (atomsQ q) v)):=rfl;generalize Cw q v=lb at*
 clear hc hq;generalize atomsQ q=l at*
 refine Z9 23 [.tmp 4] Tryz.func252 ?_
 repeat' (first|refine Z1 ?_|(refine Z8 ?_;intro ya J)|(refine Z4 ?_;clear J ya)|(refine Z2 ?_ ?_<;>intro h ac<;>try exact Xp)|(refine Z5 ?_;refine Xi (hA _) ?_;rintro _ _ ⟨ida,cs,rfl,hE,ad⟩;(have ap:=EL.length Hg hE;have ah:=((Keep.refl u).new _).trans ad))|refine Z3 ?_|exact Zt|(apply J.out;clear J ya))
 refine Ab (fun m s u'=>∃i a:Nat,m=l.length-i/\i<=l.length/\s 1=ic v/\s 5=ic a/\s 9=sl ida l.length cs/\s 10=ic l.length/\s 11=ic i/\Keep u u'/\a<=i/\Ad8 (a=Cz (l.take i) v)) l.length
  ⟨0,0,Ad2,Ad2,rfl,rfl,rfl,rfl,rfl,ah,by simp,by simp[Ad8,Cz]⟩ ?_
 clear ah ad;rintro m s u' ⟨i,a,rfl,hi,h1,h5,h9,ax,aw,hK,b1,hA⟩;have an:=hK.nobj;by_cases af:i<l.length
 ·have aa:=Aav af;obtain⟨id,r,hd⟩:=Il hE aa;have hb:=ae _ (Ab1 af);generalize l[i]=w at hd aa hb;have HG:Ad8 (Cz (l.take (i+1)) v=Cz (l.take i) v+if Bb w.ts v then 1 else 0):=by
   rw[Ad8,Aa8,aa,Ab9,Cz,Adb];simp[Cz,Adc]
  clear aa;have ab:w.ts.length<=1000:=Ad2
  repeat' (first|refine Z1 ?_|(refine Z8 ?_;intro ya J)|(refine Z4 ?_;clear J ya)|(refine Z2 ?_ ?_<;>intro h ac<;>try exact Xp)|(refine Z5 ?_;refine Xi (Jh _ _ _ _ ab _) ?_;rintro _ _ ⟨rfl,ad⟩;(have ai:=ad.nobj;have au:=((hK.new _).put hK.nobj _).trans ad))|refine Z3 ?_|exact Zt|(apply J.out;clear J ya))
  ·refine⟨l.length-(i+1),Ad2,i+1,a+1,?_⟩
   ((repeat' refine Zi ?_ ?_)<;>first|exact Xq|exact (by rw[Ad8,HG.out,hA.out,if_pos (by assumption)])|exact Xs)
  ·refine⟨l.length-(i+1),Ad2,i+1,a,?_⟩
   ((repeat' refine Zi ?_ ?_)<;>first|exact Xq|exact (by rw[Ad8,HG.out,hA.out,if_neg (by simp_all),Aay])|exact Xs)
 ·have aj:i=l.length:=Ad2;subst aj;have hA:=hA.out;rw[Aa3]at hA;subst hA;have ak:decide ((Cz l v:Int)>1)=lb:=by rw[HL.out];congr 1;apply propext;omega
  repeat' (first|refine Z1 ?_|(refine Z8 ?_;intro ya J)|(refine Z4 ?_;clear J ya)|(refine Z2 ?_ ?_<;>intro h ac<;>try exact Xp)|refine Z3 ?_|exact Zt|(apply J.out;clear J ya))
  first|exact⟨_,rfl,rfl,hK⟩|exact⟨_,rfl,rfl⟩|exact⟨_,rfl,hK⟩|exact hK|exact⟨_,rfl,by rw[<-ak]⟩
def Je (q:Qry):Nat->List Int->Bool
 |_,[]=>true
 |n,v::vs=>if Cw q v=true then (if 1<n+1\/Cz (q.parts.map (·.a)) v=1 then false else Je q (n+1) vs)else Je q n vs
def idleB (q:Qry)(a:Ee):Bool:=Je q 0 (Cg [a])
theorem lX (l:List Ee)(v:Int):Cz l v<=l.length:=List.countP_le_length
theorem iX (q:Qry)(c:List AV)(a:Ee)(id:Nat)(ha:a.ts.length<=3)(hc:EQ q c)(hq:M9 q)(u:St):ACalls Tryz.prog 267 [ag c,ag [ic a.p,sl id a.ts.length (Ae a.ts)]] u fun r u'=>r=sc (.bool (idleB q a))/\Keep u u':=by
 have hL:=fun v u=>Oe q c v hc hq u;have a0:=fun v u=>Ka q c v hc hq u;have ay:∀v,Cz (q.parts.map (·.a)) v<=64:=fun v=>by
  have h1:=lX (q.parts.map (·.a)) v;have h2:=hq.pl;simp at h1;omega
 have az:∃x0 x1 x2 x3,c=[x0,x1,x2,x3]/\c.all flat=true:=by
  obtain⟨ih,ip,inn,pc,nc,rfl,-,-⟩:=hc;exact⟨_,_,_,_,rfl,rfl⟩
 obtain⟨x0,x1,x2,x3,rfl,a6⟩:=az;have ad:=fun (i:Nat) (u:St)=>Hv [a] [ic a.p,sl id a.ts.length (Ae a.ts)] i (EL.single ⟨id,rfl⟩) (by simp;exact ha) (by simp) u;have aw:=F3 (l:=[a]) (by simp;exact ha);have HI:Ad8 (idleB q a=Je q 0 (Cg [a])):=rfl;generalize idleB q a=ib at*
 generalize Cg [a]=vs at*
 have a4:=Bm vs;simp only[Abv,Abu]at aw ad;refine Z9 31 [.tmp 4] Tryz.func267 ?_
 repeat' (first|refine Z1 ?_|(refine Z8 ?_;intro ya J)|(refine Z4 ?_;clear J ya)|(refine Z2 ?_ ?_<;>intro h ae<;>try exact Xp)|(refine Z5 ?_;refine Xi (ad _ _) ?_;rintro _ _ ⟨⟨idv,rfl⟩,aa⟩;(have ao:=((((Keep.refl u).new _).new _).lay 1).trans aa;have ac:=aa.nobj;have ab:=aa.obj;(try simp only[Av,Aa]at ac ab)))|refine Z3 ?_|exact Zt|(apply J.out;clear J ya))
 rename_i u1;have ai:=ab u.nobj Ad2;rw[Gj,Ai Ad6,Am]at ai;clear ab aa
 refine Ab (fun m s u'=>∃i n:Nat,m=vs.length-i/\i<=vs.length/\s 2=ptr u.nobj 0/\s 5=ic n/\s 10=sl idv vs.length (Aj vs)/\s 11=ic vs.length/\s 12=ic i/\Keep u u'/\u.nobj<u'.nobj/\u'.obj u.nobj=[x0,x1,x2,x3]/\n<=i/\Ad8 (ib=Je q n (vs.drop i))) vs.length
  ⟨0,0,Ad2,Ad2,Ad4,Ad4,Ad4,Ad3,rfl,ao,Ad2,ai,by simp,by simpa[Ad8]using HI.out⟩ ?_
 clear ao ai ac;rintro m s u' ⟨i,n,rfl,hi,h2,h5,bc,bb,ba,hK,a5,ob,b1,hI⟩;have a3:=hK.nobj;by_cases am:i<vs.length
 ·have ah:=Aav am;obtain⟨r,hd⟩:=Db ah;have aj:Ad8 (vs.drop i=vs[i]::vs.drop (i+1)):=Abx am;generalize vs[i]=v at hd aj;clear ah;have a7:=ay v;have af:Ad8 (ib=if Cw q v=true then (if 1<n+1\/Cz (q.parts.map (·.a)) v=1 then false else Je q (n+1) (vs.drop (i+1)))else Je q n (vs.drop (i+1))):=by
   rw[Ad8,hI.out,aj.out,Je]
  clear hI aj;cases an:Cw q v with
  |false=>
   have af:Ad8 (ib=Je q n (vs.drop (i+1))):=by rw[Ad8,af.out,an];simp
   repeat' (first|refine Z1 ?_|(refine Z8 ?_;intro ya J)|(refine Z4 ?_;clear J ya)|(refine Z2 ?_ ?_<;>intro h ae<;>try exact Xp)|(refine Z5 ?_;refine Xi (hL _ _) ?_;rintro _ _ ⟨rfl,aa⟩;(have ac:=aa.nobj;have ab:=aa.obj;have ap:=hK.trans aa))|refine Z3 ?_|exact Zt|(apply J.out;clear J ya))
   refine⟨vs.length-(i+1),Ad2,i+1,n,?_⟩
   ((repeat' refine Zi ?_ ?_)<;>first|exact Xq|exact Xs)
  |true=>
   generalize a8:Cz (q.parts.map (·.a)) v=cn at*
   have af:Ad8 (ib=if 1<n+1\/cn=1 then false else Je q (n+1) (vs.drop (i+1))):=by rw[Ad8,af.out,an];simp
   repeat' (first|refine Z1 ?_|(refine Z8 ?_;intro ya J)|(refine Z4 ?_;clear J ya)|(refine Z2 ?_ ?_<;>intro h ae<;>try exact Xp)|(refine Z5 ?_;first|(refine Xi (hL _ _) ?_;rintro _ _ ⟨rfl,aa⟩;(have ac:=aa.nobj;have ab:=aa.obj;have ap:=hK.trans aa))|(refine Xi (a0 _ _) ?_;rintro _ _ ⟨rfl,ak⟩;(have av:=ak.nobj;have au:=ak.obj;have a9:=ap.trans ak)))|refine Z3 ?_|exact Zt|(apply J.out;clear J ya))
   ·have:ib=false:=by
     rw[af.out,if_pos];right;simp only[Adx]at h;omega
    exact⟨_,rfl,by rw[this]⟩
   ·have:ib=Je q (n+1) (vs.drop (i+1)):=by
     rw[af.out,if_neg];simp only[beq_eq_false_iff_ne,ne_eq]at h;omega
    refine⟨vs.length-(i+1),Ad2,i+1,n+1,?_⟩
    ((repeat' refine Zi ?_ ?_)<;>first|exact Xq|exact this|exact Xs)
   ·have:ib=false:=by
     rw[af.out,if_pos];left;omega
    exact⟨_,rfl,by rw[this]⟩
 ·have ax:i=vs.length:=Ad2;subst ax;have hI:ib=true:=by rw[hI.out,Aby];rfl
  subst hI
  repeat' (first|refine Z1 ?_|(refine Z8 ?_;intro ya J)|(refine Z4 ?_;clear J ya)|(refine Z2 ?_ ?_<;>intro h ae<;>try exact Xp)|refine Z3 ?_|exact Zt|(apply J.out;clear J ya))
  first|exact⟨_,rfl,rfl,hK⟩|exact⟨_,rfl,rfl⟩|exact⟨_,rfl,hK⟩|exact hK
def Ew (q:Qry):Qry:={q with parts:=q.parts.eraseP fun p=>idleB q p.a}
theorem eH {α:Type}(f:α->Bool)(l:List α)(w:α):(l++[w]).eraseP f=if l.any f=true then l.eraseP f++[w]else if f w=true then l else l++[w]:=by
 by_cases h:l.any f=true
 ·rw[if_pos h];rw[Ab0]at h;obtain⟨x,hx,hf⟩:=h;exact List.eraseP_append_left hf _ hx
 ·rw[if_neg h];have h':∀b∈l,¬f b=true:=fun b hb hf=>h (Ab0.2 ⟨b,hb,hf⟩);rw[List.eraseP_append_right _ h'];by_cases hw:f w=true
  ·simp[hw]
  ·simp[hw]
theorem oM {α:Type}(f:α->Bool)(l:List α):(l.eraseP f).length<=l.length:=List.length_eraseP_le
theorem aY {q:Qry}(h:M9 q):M9 (Ew q):=by
 have hs:∀p∈(Ew q).parts,p∈q.parts:=fun p hp=>List.mem_of_mem_eraseP hp;have hl:(Ew q).parts.length<=q.parts.length:=oM _ _;exact⟨h.hd,Aal hl h.pl,h.nl,fun p hp=>h.pa p (hs p hp),fun p hp=>h.pt p (hs p hp),fun p hp=>h.p3 p (hs p hp),h.na⟩
theorem eG (q:Qry)(c:List AV)(hc:EQ q c)(hq:M9 q)(u:St):ACalls Tryz.prog 251 [ag c] u fun r u'=>(∃c',r=ag c'/\EQ (Ew q) c')/\Keep u u':=by
 have au:=hc;obtain⟨ih,ip,inn,pc,nc,rfl,hP,hN⟩:=hc;have a5:=EL.length D6 hP;have hl:=hq.pl;have ao:=fun (a:Ee) (id:Nat) (ha:a.ts.length<=3) u=>iX q _ a id ha au hq u;clear au;refine Z9 35 [.cell 2 182] Tryz.func251 ?_
 repeat' (first|refine Z1 ?_|(refine Z8 ?_;intro ya J)|(refine Z4 ?_;clear J ya)|(refine Z2 ?_ ?_<;>intro h af<;>try exact Xp)|(refine Z6 ?_;intro idn un ai aj ac aa ad ab)|refine Z3 ?_|exact Zt|(apply J.out;clear J ya))
 refine Ab (fun m s u'=>∃(k i3:Nat) (d:Bool) (o:List Part) (xs:List AV),m=q.parts.length-k/\k<=q.parts.length/\s 1=ptr u.nobj 0/\s 2=ptr (u.nobj+1) 0/\s 3=ptr (u.nobj+2) 0/\s 4=sc (.bool d)/\s 13=sl ip q.parts.length pc/\s 14=ic q.parts.length/\s 15=ic k/\Keep u u'/\u.nobj+2<u'.nobj/\u'.obj u.nobj=[ic q.head.p,sl ih q.head.ts.length (Ae q.head.ts),sl ip q.parts.length pc,sl inn q.nots.length nc]/\u'.obj (u.nobj+1)=[ic 0,nilS,nilS,nilS]/\u'.obj (u.nobj+2)=[ic q.head.p,sl ih q.head.ts.length (Ae q.head.ts),sl i3 o.length xs,sl inn q.nots.length nc]/\Own u u' i3 o.length/\o.length<=k/\xs.length=o.length*3/\Ad8 (EL La o xs/\d=(q.parts.take k).any (fun p=>idleB q p.a)/\o=(q.parts.take k).eraseP fun p=>idleB q p.a)) q.parts.length
  ⟨0,1,false,[],[],Ad2,Ad2,Ad4,Ad4,Ad4,Ad4,Ad4,Ad4,rfl,Xs,Ad7,?_,?_,?_,Own.nil _ _,by simp,by simp,⟨rfl,by simp,by simp⟩⟩ ?_
 ·rw[Al Ad2,Ai Ad6,Ai Ad6,Am]
 ·rw[Al Ad2,Ai Ad6,Cd Ad6 Ad6]
 ·rw[show u.nobj+2=u.nobj+1+1 by omega,Ak];simp
 rintro m s u' ⟨k,i3,d,o,xs,rfl,hk,h1,h2,h3,h4,ba,a9,a8,hK,a7,a3,a0,az,hO,a6,av,hX⟩;have a4:=hK.nobj;by_cases ap:k<q.parts.length
 ·have ae:=Aav ap;obtain⟨id,idt,r,hd⟩:=Eu hP ae;have hb:=hq.pa _ (Ab1 ap);generalize q.parts[k]=w at hd ae hb;have HE:Ad8 ((q.parts.take (k+1)).eraseP (fun p=>idleB q p.a)=if (q.parts.take k).any (fun p=>idleB q p.a)=true then (q.parts.take k).eraseP (fun p=>idleB q p.a)++[w]else if idleB q w.a=true then q.parts.take k else q.parts.take k++[w]):=by
   rw[Ad8,Aa8,ae,Ab9,eH]
  have HA:Ad8 ((q.parts.take (k+1)).any (fun p=>idleB q p.a)=((q.parts.take k).any (fun p=>idleB q p.a)||idleB q w.a)):=by
   rw[Ad8,Aa8,ae,Ab9,Ac8];simp
  have HN:Ad8 ((q.parts.take k).any (fun p=>idleB q p.a)=false->(q.parts.take k).eraseP (fun p=>idleB q p.a)=q.parts.take k):=fun h=>List.eraseP_of_forall_not (fun a ha hf=>by
   rw[Ab4]at h
   exact h a ha hf)
  clear ae;have ao:=ao w.a id hb;cases d with
  |true=>
   have HX:Ad8 (EL La (o++[w]) (xs++[ic w.a.p,sl id w.a.ts.length (Ae w.a.ts),sl idt w.tups.length (C7 w.tups)])/\true=(q.parts.take (k+1)).any (fun p=>idleB q p.a)/\o++[w]=(q.parts.take (k+1)).eraseP fun p=>idleB q p.a):=by
    obtain⟨x1,x2,x3⟩:=hX.out;refine⟨EL.append x1 (EL.single ⟨id,idt,rfl⟩),?_,?_⟩
    ·rw[HA.out,<-x2];rfl
    ·rw[HE.out,if_pos x2.symm,x3]
   clear hX HE HA HN
   repeat' (first|refine Z1 ?_|(refine Z8 ?_;intro ya J)|(refine Z4 ?_;clear J ya)|(refine Z2 ?_ ?_<;>intro h af<;>try exact Xp)|(refine Z6 ?_;intro idn un ai aj ac aa ad ab)|refine Z3 ?_|exact Zt|(apply J.out;clear J ya))
   refine C4 (by first|exact Dx) ((hK.new _).put hK.nobj _) (Own.put (Own.new hO _) _ _) (by decide) (by rfl) (av) (by rfl) (by rfl) (by decide) Ad2 Ad2 ?_;intro idn un ai aj ac aa ad ab;simp only[Ac,Aa]at aa;have eob:∀p,p<u'.nobj->un.obj p=u'.obj p:=fun p hp=>by rw[ac,Al Ad2,Ai Ad2]
   refine Z3 ?_
   repeat' (first|refine Z1 ?_|(refine Z8 ?_;intro ya J)|(refine Z4 ?_;clear J ya)|(refine Z2 ?_ ?_<;>intro h af<;>try exact Xp)|(refine Z6 ?_;intro idn un ai aj ac aa ad ab)|refine Z3 ?_|exact Zt|(apply J.out;clear J ya))
   refine⟨q.parts.length-(k+1),Ad2,k+1,idn,true,o++[w],xs++[ic w.a.p,sl id w.a.ts.length (Ae w.a.ts),sl idt w.tups.length (C7 w.tups)],?_⟩
   ((repeat' refine Zi ?_ ?_)<;>first|exact Xq|exact (aj.put Ad2 _)|exact (by simpa using Own.put ai _ _)|exact HX|exact Xs)
  |false=>
   cases an:idleB q w.a with
   |true=>
    have HX:Ad8 (EL La o xs/\true=(q.parts.take (k+1)).any (fun p=>idleB q p.a)/\o=(q.parts.take (k+1)).eraseP fun p=>idleB q p.a):=by
     obtain⟨x1,x2,x3⟩:=hX.out;refine⟨x1,?_,?_⟩
     ·rw[HA.out,<-x2,an];rfl
     ·rw[HE.out,if_neg (by rw[<-x2];simp),if_pos an,x3,HN.out x2.symm]
    clear hX HE HA HN;rw[an]at ao
    repeat' (first|refine Z1 ?_|(refine Z8 ?_;intro ya J)|(refine Z4 ?_;clear J ya)|(refine Z2 ?_ ?_<;>intro h af<;>try exact Xp)|(refine Z6 ?_;intro idn un ai aj ac aa ad ab)|(refine Z5 ?_;refine Xi (ao _) ?_;rintro _ _ ⟨rfl,ah⟩;(have am:=ah.nobj;have ak:=ah.obj;have ay:=((hK.new _).put hK.nobj _).trans ah;have ax:=Own.keep (Own.put (Own.new hO _) _ _) ah;simp only[Ac,Aa]at am ak))|refine Z3 ?_|exact Zt|(apply J.out;clear J ya))
    refine⟨q.parts.length-(k+1),Ad2,k+1,i3,true,o,xs,?_⟩
    ((repeat' refine Zi ?_ ?_)<;>first|exact Xq|exact HX|exact Xs)
   |false=>
    have HX:Ad8 (EL La (o++[w]) (xs++[ic w.a.p,sl id w.a.ts.length (Ae w.a.ts),sl idt w.tups.length (C7 w.tups)])/\false=(q.parts.take (k+1)).any (fun p=>idleB q p.a)/\o++[w]=(q.parts.take (k+1)).eraseP fun p=>idleB q p.a):=by
     obtain⟨x1,x2,x3⟩:=hX.out;refine⟨EL.append x1 (EL.single ⟨id,idt,rfl⟩),?_,?_⟩
     ·rw[HA.out,<-x2,an];rfl
     ·rw[HE.out,if_neg (by rw[<-x2];simp),if_neg (by rw[an];simp),x3,HN.out x2.symm]
    clear hX HE HA HN;rw[an]at ao
    repeat' (first|refine Z1 ?_|(refine Z8 ?_;intro ya J)|(refine Z4 ?_;clear J ya)|(refine Z2 ?_ ?_<;>intro h af<;>try exact Xp)|(refine Z6 ?_;intro idn un ai aj ac aa ad ab)|(refine Z5 ?_;refine Xi (ao _) ?_;rintro _ _ ⟨rfl,ah⟩;(have am:=ah.nobj;have ak:=ah.obj;have ay:=((hK.new _).put hK.nobj _).trans ah;have ax:=Own.keep (Own.put (Own.new hO _) _ _) ah;simp only[Ac,Aa]at am ak))|refine Z3 ?_|exact Zt|(apply J.out;clear J ya))
    refine⟨q.parts.length-(k+1),Ad2,k+1,idn,false,o++[w],xs++[ic w.a.p,sl id w.a.ts.length (Ae w.a.ts),sl idt w.tups.length (C7 w.tups)],?_⟩
    ((repeat' refine Zi ?_ ?_)<;>first|exact Xq|exact (aj.put Ad2 _)|exact (by simpa using Own.put ai _ _)|exact HX|exact Xs)
 ·have aw:k=q.parts.length:=Ad2;subst aw;obtain⟨x1,-,x3⟩:=hX.out;rw[Aa3]at x3
  repeat' (first|refine Z1 ?_|(refine Z8 ?_;intro ya J)|(refine Z4 ?_;clear J ya)|(refine Z2 ?_ ?_<;>intro h af<;>try exact Xp)|(refine Z6 ?_;intro idn un ai aj ac aa ad ab)|refine Z3 ?_|exact Zt|(apply J.out;clear J ya))
  exact⟨_,rfl,⟨_,rfl,ih,i3,inn,xs,nc,by rw[Ew,<-x3],by rw[Ew,<-x3];exact x1,hN⟩,hK.put Ad2 _⟩
inductive TrimR (q:Qry):Qry->Prop where
 |refl:TrimR q q
 |tail {q':Qry}:TrimR q q'->TrimR q (Ew q')
theorem iT (q:Qry)(c:List AV)(hc:EQ q c)(hq:M9 q)(u:St):ACalls Tryz.prog 214 [ag c] u fun r u'=>(∃c' q',r=ag c'/\EQ q' c'/\M9 q'/\TrimR q q')/\Keep u u':=by
 obtain⟨ih,ip,inn,pc,nc,rfl,hP,hN⟩:=hc;have hl:=hq.pl;refine Z9 19 [.cell 2 182] Tryz.func214 ?_
 repeat' (first|refine Z1 ?_|(refine Z8 ?_;intro ya J)|(refine Z4 ?_;clear J ya)|(refine Z2 ?_ ?_<;>intro h aa<;>try exact Xp)|refine Z3 ?_|exact Zt|(apply J.out;clear J ya))
 refine Ab (fun m s u'=>∃(qk:Qry) (ck:List AV),s 1=ptr u.nobj 0/\s 2=ptr (u.nobj+1) 0/\s 3=ic m/\m<=65/\Keep u u'/\u.nobj+1<u'.nobj/\u'.obj u.nobj=ck/\u'.obj (u.nobj+1)=[ic 0,nilS,nilS,nilS]/\EQ qk ck/\Ad8 (M9 qk/\TrimR q qk)) (q.parts.length+1)
  ⟨q,_,Ad4,Ad4,Ad4,Ad2,Xs,Ad6,rfl,?_,⟨ih,ip,inn,pc,nc,?_,hP,hN⟩,hq,.refl⟩ ?_
 ·rw[Cd Ad6 Ad6]
 ·rw[Ai Ad6,Am]
 clear hP hN hl;rintro m s u' ⟨qk,ck,h1,h2,h3,hm,hK,ao,am,ak,hE,hQ⟩;have an:=hK.nobj;have ac:=hE;obtain⟨ih,ip,inn,pc,nc,rfl,hP,hN⟩:=hE;have hT:=fun u=>eG qk _ ac hQ.out.1 u;have aj:Ad8 _:=ac;clear ac;have hl:=hQ.out.1.pl;by_cases ap:qk.parts.length<m
 ·repeat' (first|refine Z1 ?_|(refine Z8 ?_;intro ya J)|(refine Z4 ?_;clear J ya)|(refine Z2 ?_ ?_<;>intro h aa<;>try exact Xp)|(refine Z5 ?_;refine Xi (hT _) ?_;rintro _ _ ⟨⟨_,rfl,ih2,ip2,inn2,pc2,nc2,rfl,af,ah⟩,ab⟩;(have ae:=ab.nobj;have ad:=ab.obj;have ai:=hK.trans ab))|refine Z3 ?_|exact Zt|(apply J.out;clear J ya))
  refine⟨qk.parts.length,Ad2,Ew qk,[ic (Ew qk).head.p,sl ih2 (Ew qk).head.ts.length (Ae (Ew qk).head.ts),sl ip2 (Ew qk).parts.length pc2,sl inn2 (Ew qk).nots.length nc2],?_⟩
  ((repeat' refine Zi ?_ ?_)<;>first|exact Xq|exact (ai.put Ad2 _)|exact (⟨ih2,ip2,inn2,pc2,nc2,rfl,af,ah⟩)|exact (⟨aY hQ.out.1,.tail hQ.out.2⟩)|exact Xs)
 ·repeat' (first|refine Z1 ?_|(refine Z8 ?_;intro ya J)|(refine Z4 ?_;clear J ya)|(refine Z2 ?_ ?_<;>intro h aa<;>try exact Xp)|refine Z3 ?_|exact Zt|(apply J.out;clear J ya))
  exact⟨_,rfl,⟨_,qk,rfl,aj.out,hQ.out.1,hQ.out.2⟩,hK.put Ad2 _⟩
theorem Dj {t:Bj}(h:t.length=3):(Aj t).length=3:=by rw[Bm,h]
theorem Hc {t:Bj}(h:t.length=3)(r:List AV):List.take 3 (Aj t++r)=Aj t:=by rw[List.take_append_of_le_length (by rw[Dj h];exact Aak _),Abz (by rw[Dj h];exact Aak _)]
theorem D1 {t:Bj}(h:t.length=3):List.take 3 (Aj t)=Aj t:=Abz (by rw[Dj h];exact Aak _)
theorem G3 {t:Bj}(h:t.length=3)(x y z:AV):lsp [x,y,z] 0 (Aj t)=Aj t:=by
 match t,h with
 |[a,b,c],_=>rfl
theorem N9 {t:Bj}(h:t.length=3)(r:List AV):3<=(Aj t++r).length:=by rw[Abj,Dj h];omega
theorem Ir {t:Bj}{i:Nat}{x:Int}(h:t[i]?=some x):(Aj t)[i]?=some (ic x):=by simp[Aj,h]
def Qq (ts:List Tm)(t:Bj)(i:Nat):Bool:=match ts[i]?,t[i]? with
 |some (false,n),some x=>x==n
 |some (true,v),some x=>x==(t[(Hw ts v).toNat]?).getD 0
 |_,_=>false
def Kd (ts:List Tm)(t:Bj):Bool:=(List.range ts.length).all (Qq ts t)
theorem iY (p:Int)(ids:Nat)(ts:List Tm)(t:Bj)(ht:t.length=3)(hn:ts.length<=3)(u:St):ACalls Tryz.prog 168 [ag [ic p,sl ids ts.length (Ae ts)],ag (Aj t)] u fun r u'=>r=sc (.bool (Kd ts t))/\Keep u u':=by
 have a3:=En ts;have a8:=Dj ht;have a7:=D1 ht;have aw:ts.length<=1000:=Ad2;have aj:∀i,i<ts.length->Qq ts t i=false->Kd ts t=false:=fun i hi h=>by
  unfold Kd;rw[List.all_eq_false];exact⟨i,by simpa using hi,by rw[h];simp⟩
 refine Z9 41 [.tmp 4] Tryz.func168 ?_
 repeat' (first|refine Z1 ?_|(refine Z8 ?_;intro ya J)|(refine Z4 ?_;clear J ya)|(refine Z2 ?_ ?_<;>intro h aa<;>try exact Xp)|refine Z3 ?_|exact Zt|(apply J.out;clear J ya))
 refine Ab (fun m s u'=>∃i:Nat,m=ts.length-i/\i<=ts.length/\s 2=ptr u.nobj 0/\s 3=ptr (u.nobj+1) 0/\s 8=sl ids ts.length (Ae ts)/\s 9=ic ts.length/\s 10=ic i/\Keep u u'/\u.nobj+1<u'.nobj/\u'.obj u.nobj=[ic p,sl ids ts.length (Ae ts)]/\u'.obj (u.nobj+1)=Aj t/\Ad8 (∀j,j<i->Qq ts t j=true)) ts.length
  ⟨0,Ad2,Ad2,Ad4,Ad4,Ad4,Ad4,rfl,Xs,Ad6,?_,?_,fun j hj=>Ad2⟩ ?_
 ·rw[Ai Ad6,Am]
 ·rw[Cd Ad6 Ad6]
 rintro m s u' ⟨i,rfl,hi,h2,h3,h8,h9,a9,hK,a5,av,ak,hA⟩;have a0:=hK.nobj;by_cases an:i<ts.length
 ·have ac:=Aav an;obtain⟨r,hd⟩:=Eo ac;have af:t[i]?=some t[i]:=Aav Ad2;have az:=Ir af;generalize ts[i]=w at hd ac;generalize t[i]=x at af az;obtain⟨w1,w2⟩:=w;have ao:Ad8 (Qq ts t i=true->∀j,j<i+1->Qq ts t j=true):=fun h j hj=>by
   by_cases e:j=i
   ·subst e;exact h
   ·exact hA.out j Ad2
  have HB:Ad8 (Qq ts t i=false->Kd ts t=false):=aj i an;cases w1 with
  |false=>
   have HF:Ad8 (Qq ts t i=(x==w2)):=by rw[Ad8,Qq,ac,af]
   clear ac af hA
   repeat' (first|refine Z1 ?_|(refine Z8 ?_;intro ya J)|(refine Z4 ?_;clear J ya)|(refine Z2 ?_ ?_<;>intro h aa<;>try exact Xp)|refine Z3 ?_|exact Zt|(apply J.out;clear J ya))
   refine Aq Ad (fun _=>True) [] [0,1,2,3,4,5,6,7,8,9,10] [] Ad5 (fun _ _ _ h=>h) ?_;intro ya J
   repeat' (first|refine Z1 ?_|(refine Z8 ?_;intro ya J)|(refine Z4 ?_;clear J ya)|(refine Z2 ?_ ?_<;>intro h aa<;>try exact Xp)|refine Z3 ?_|exact Zt|(apply J.out;clear J ya))
   ·exact⟨_,rfl,by rw[HB.out (by rw[HF.out];simp only[bne_iff_ne,ne_eq]at h;simp[h])],(hK.new _).put hK.nobj _⟩
   ·have au:Keep u ((u'.new [sc (.bool false),ic 0]).put u'.nobj [sc (.bool false),ic w2]):=(hK.new _).put hK.nobj _;have kv:∀p,p<u'.nobj->((u'.new [sc (.bool false),ic 0]).put u'.nobj [sc (.bool false),ic w2]).obj p=u'.obj p:=fun p hp=>by rw[Al Ad2,Ai Ad2]
    refine A6 (Q:=fun e s' u''=>e= .normal/\s' 39=sc (.bool false)/\s' 2=ptr u.nobj 0/\s' 3=ptr (u.nobj+1) 0/\s' 8=sl ids ts.length (Ae ts)/\s' 9=ic ts.length/\s' 10=ic i/\u''=(u'.new [sc (.bool false),ic 0]).put u'.nobj [sc (.bool false),ic w2]) ?_ ?_
    ·refine As Ad (fun _=>True) [] [0,1,2,3,4,5,6,7,8] 5 #[true,true,true,true,true,true,true,true,true,false,false,false,false,false] Ad5 (fun _ _ _ h=>by cases h.1) ?_;intro ya J;refine Z3 ?_;refine J.out _ ?_;clear J ya;refine Ah (i:=9) Ad5 ?_;refine Ao ?_;intro ya J;refine Z3 ?_;refine J.out _ _ ⟨kept_refl,?_⟩;clear J ya;refine Bs [10,11,12,13] Ad5 Ad5 (fun _ _ _ h=>by cases h.1) (Aak _) (fun o ho _=>rfl) ?_;intro ya J;refine Z3 ?_;refine J.out _ _ ⟨rfl,?_⟩;simp[upd, *]
    ·rintro e s' u'' ⟨rfl,g39,g2,g3,g8,g9,g10,rfl⟩;refine Ci g39 ?_
     repeat' (first|refine Z1 ?_|(refine Z8 ?_;intro ya J)|(refine Z4 ?_;clear J ya)|(refine Z2 ?_ ?_<;>intro h aa<;>try exact Xp)|refine Z3 ?_|exact Zt|(apply J.out;clear J ya))
     refine⟨ts.length-(i+1),Ad2,i+1,?_⟩
     ((repeat' refine Zi ?_ ?_)<;>first|exact Xq|exact (ao.out (by rw[HF.out];simpa using h))|exact Xs)
  |true=>
   obtain⟨pl,a4,am⟩:∃k:Nat,k<ts.length/\Hw ts w2=(k:Int):=by
    have hm:=Aax ac;exact⟨ts.idxOf (true,w2),Ade.2 hm,if_pos hm⟩
   have ai:t[pl]?=some t[pl]:=Aav Ad2;have ay:=Ir ai;generalize t[pl]=y at ai ay;have HF:Ad8 (Qq ts t i=(x==y)):=by rw[Ad8,Qq,ac,af];simp[am,ai]
   clear ac af hA ai;have ap:=fun u=>Fq p ids ts w2 aw u;rw[am]at ap
   repeat' (first|refine Z1 ?_|(refine Z8 ?_;intro ya J)|(refine Z4 ?_;clear J ya)|(refine Z2 ?_ ?_<;>intro h aa<;>try exact Xp)|refine Z3 ?_|exact Zt|(apply J.out;clear J ya))
   refine Aq Ad (fun _=>True) [] [0,1,2,3,4,5,6,7,8,9,10] [] Ad5 (fun _ _ _ h=>h) ?_;intro ya J
   repeat' (first|refine Z1 ?_|(refine Z8 ?_;intro ya J)|(refine Z4 ?_;clear J ya)|(refine Z2 ?_ ?_<;>intro h aa<;>try exact Xp)|refine Z3 ?_|exact Zt|(apply J.out;clear J ya))
   have au:Keep u ((u'.new [sc (.bool false),ic 0]).put u'.nobj [sc (.bool true),ic w2]):=(hK.new _).put hK.nobj _;have kv:∀p,p<u'.nobj->((u'.new [sc (.bool false),ic 0]).put u'.nobj [sc (.bool true),ic w2]).obj p=u'.obj p:=fun p hp=>by rw[Al Ad2,Ai Ad2]
   refine A6 (Q:=fun e s' u''=>e= .normal/\s' 39=sc (.bool (x !=y))/\s' 2=ptr u.nobj 0/\s' 3=ptr (u.nobj+1) 0/\s' 8=sl ids ts.length (Ae ts)/\s' 9=ic ts.length/\s' 10=ic i/\Keep ((u'.new [sc (.bool false),ic 0]).put u'.nobj [sc (.bool true),ic w2]) u'') ?_ ?_
   ·refine As Ad (fun _=>True) [] [0,1,2,3,4,5,6,7,8] 5 #[true,true,true,true,true,true,true,true,true,false,false,false,false,false] Ad5 (fun _ _ _ h=>by cases h.1) ?_;intro ya J;refine Z3 ?_;refine J.out _ ?_;clear J ya;refine Ah (i:=9) Ad5 ?_;refine Ao ?_;intro ya J;refine Z3 ?_;refine ACalls.mono (ap _) ?_;rintro _ u5 ⟨rfl,ad⟩;refine Z3 ?_;refine J.out _ _ ⟨Ap ad,?_⟩;clear J ya;have ae:=ad.nobj;have ab:=ad.obj;simp only[Ac,Aa]at ae ab;have o5:u5.obj (u.nobj+1)=Aj t:=by rw[ab _ Ad2,kv _ Ad2,ak]
    refine Bs [10,11,12,13] Ad5 Ad5 (fun _ _ _ h=>by cases h.1) ad.nobj (fun o ho _=>ad.ver o ho) ?_;intro ya J;refine Z3 ?_;refine J.out _ _ ⟨rfl,?_⟩;simp[upd, *]
   ·rintro e s' u'' ⟨rfl,g39,g2,g3,g8,g9,g10,ad⟩;have ae:=ad.nobj;have ab:=ad.obj;simp only[Ac,Aa]at ae ab;have a6:=au.trans ad;have o50:u''.obj u.nobj=[ic p,sl ids ts.length (Ae ts)]:=by rw[ab _ Ad2,kv _ Ad2,av]
    have o51:u''.obj (u.nobj+1)=Aj t:=by rw[ab _ Ad2,kv _ Ad2,ak]
    clear ab kv;cases ah:x !=y with
    |true=>
     rw[ah]at g39;refine Br g39 ?_
     repeat' (first|refine Z1 ?_|(refine Z8 ?_;intro ya J)|(refine Z4 ?_;clear J ya)|(refine Z2 ?_ ?_<;>intro h aa<;>try exact Xp)|refine Z3 ?_|exact Zt|(apply J.out;clear J ya))
     exact⟨_,rfl,by rw[HB.out (by rw[HF.out];simp only[bne_iff_ne,ne_eq]at ah;simp[ah])]⟩
    |false=>
     rw[ah]at g39;refine Ci g39 ?_
     repeat' (first|refine Z1 ?_|(refine Z8 ?_;intro ya J)|(refine Z4 ?_;clear J ya)|(refine Z2 ?_ ?_<;>intro h aa<;>try exact Xp)|refine Z3 ?_|exact Zt|(apply J.out;clear J ya))
     refine⟨ts.length-(i+1),Ad2,i+1,?_⟩
     ((repeat' refine Zi ?_ ?_)<;>first|exact Xq|exact (ao.out (by rw[HF.out];simpa using ah))|exact Xs)
 ·have ax:i=ts.length:=Ad2;subst ax;have hR:Kd ts t=true:=by
   unfold Kd;rw[Aaw];intro j hj;exact hA.out j (by simpa using hj)
  repeat' (first|refine Z1 ?_|(refine Z8 ?_;intro ya J)|(refine Z4 ?_;clear J ya)|(refine Z2 ?_ ?_<;>intro h aa<;>try exact Xp)|refine Z3 ?_|exact Zt|(apply J.out;clear J ya))
  first|exact⟨_,rfl,by rw[hR],hK⟩|exact⟨_,rfl,by rw[hR]⟩|exact⟨_,rfl,hK⟩|exact⟨_,rfl,rfl⟩|exact hK
theorem Fv {l:List Bj}{k:Nat}{t:Bj}(h3:T3 l)(h:l[k]?=some t):t.length=3/\∃r,(C7 l).drop (k*3)=Aj t++r:=by
 obtain⟨a,b,c,r,rfl,e⟩:=kZ h3 h;exact⟨rfl,r,by rw[e];rfl⟩
def G9 (t:Bj)(k:Int):Int:=(t[k.toNat]?).getD 0
theorem I7 {ts:List Tm}{v:Int}(h:Bb ts v=true):∃k:Nat,k<ts.length/\Hw ts v=(k:Int):=by
 have hm:(true,v)∈ts:=by simpa[Bb]using h
 exact⟨ts.idxOf (true,v),Ade.2 hm,if_pos hm⟩
def Ha (v n:Int)(p:Part):Part:=if Bb p.a.ts v=true then⟨⟨p.a.p,Bg v n p.a.ts⟩,p.tups.filter fun t=>G9 t (Hw p.a.ts v)==n⟩else p
theorem Dn {α:Type}(f:α->Bool)(l:List α)(x:α):(l++[x]).filter f=l.filter f++if f x=true then [x]else []:=by
 rw[List.filter_append];by_cases h:f x=true<;>simp[h]
theorem iU (p:Part)(id idt:Nat)(v n:Int)(ha:p.a.ts.length<=3)(ht:p.tups.length<=5000)(h3:T3 p.tups)(u:St):ACalls Tryz.prog 220 [ag [ic p.a.p,sl id p.a.ts.length (Ae p.a.ts),sl idt p.tups.length (C7 p.tups)],ic v,ic n] u fun r u'=>(∃c',r=ag c'/\La (Ha v n p) c')/\Keep u u':=by
 have bg:=Er h3;have a0:p.a.ts.length<=1000:=Ad2;have av:=fun u=>Fq p.a.p id p.a.ts v a0 u;have bb:=fun u=>Lp p.a.p id p.a.ts v n a0 u;cases hv:Bb p.a.ts v with
 |false=>
  have hp:Hw p.a.ts v= -1:=I6 (by simpa[Bb]using hv);have HR:Ad8 (Ha v n p=p):=if_neg (by rw[hv];simp);rw[hp]at av;clear hp;refine Z9 44 [.cell 6 214] Tryz.func220 ?_
  repeat' (first|refine Z1 ?_|(refine Z8 ?_;intro ya J)|(refine Z4 ?_;clear J ya)|(refine Z2 ?_ ?_<;>intro h af<;>try exact Xp)|(refine Z6 ?_;intro idn un ak am ac aa ad ab)|(refine Z5 ?_;refine Xi (av _) ?_;rintro _ _ ⟨rfl,ai⟩;(have aj:=ai.nobj;have ae:=ai.obj;have aw:=(((Keep.refl u).new _).new _).trans ai;simp only[Aa]at aj ae))|refine Z3 ?_|exact Zt|(apply J.out;clear J ya))
  exact⟨_,rfl,⟨_,rfl,by rw[HR.out];exact⟨id,idt,rfl⟩⟩,aw.put Ad2 _⟩
 |true=>
  obtain⟨pl,bh,az⟩:=I7 hv;have HR:Ad8 (Ha v n p=⟨⟨p.a.p,Bg v n p.a.ts⟩,p.tups.filter fun t=>G9 t pl==n⟩):=by rw[Ad8,Ha,if_pos hv,az]
  rw[az]at av;clear az;have a6:pl<3:=Ad2;have a7:((pl:Int)== -1)=false:=by simp
  refine Z9 44 [.cell 6 214] Tryz.func220 ?_
  repeat' (first|refine Z1 ?_|(refine Z8 ?_;intro ya J)|(refine Z4 ?_;clear J ya)|(refine Z2 ?_ ?_<;>intro h af<;>try exact Xp)|(refine Z6 ?_;intro idn un ak am ac aa ad ab)|(refine Z5 ?_;first|(refine Xi (av _) ?_;rintro _ _ ⟨rfl,ai⟩;(have aj:=ai.nobj;have ae:=ai.obj;have aw:=(((Keep.refl u).new _).new _).trans ai;simp only[Aa]at aj ae))|(refine Xi (bb _) ?_;rintro _ _ ⟨⟨idp,rfl⟩,ax⟩;(have a3:=ax.nobj;have ao:=ax.obj;have bc:=aw.trans ax)))|refine Z3 ?_|exact Zt|(apply J.out;clear J ya))
  rename_i u1 u2;have o1:u2.obj (u.nobj+1)=[ic 0,nilS,nilS]:=by rw[ao _ Ad2,ae _ Ad2,Cd Ad6 Ad6]
  clear ae ao aw ai ax
  refine Ab (fun m s u'=>∃(i i3:Nat) (o:List Bj) (xs:List AV),m=p.tups.length-i/\i<=p.tups.length/\s 2=ic n/\s 6=ptr (u.nobj+1) 0/\s 7=ic pl/\s 8=ptr u2.nobj 0/\s 25=sl idt p.tups.length (C7 p.tups)/\s 26=ic p.tups.length/\s 27=ic i/\Keep u u'/\u2.nobj<u'.nobj/\u'.obj (u.nobj+1)=[ic 0,nilS,nilS]/\u'.obj u2.nobj=[ic p.a.p,sl idp (Bg v n p.a.ts).length (Ae (Bg v n p.a.ts)),sl i3 o.length xs]/\Own u u' i3 o.length/\o.length<=i/\xs.length=o.length*3/\Ad8 (xs=C7 o/\o=(p.tups.take i).filter fun t=>G9 t pl==n)) p.tups.length
   ⟨0,1,[],[],Ad2,Ad2,by simp[upd,initS],Ad4,Ad4,Ad4,Ad4,Ad4,rfl,Xs,Ad7,?_,?_,Own.nil _ _,by simp,by simp,⟨rfl,by simp⟩⟩ ?_
  ·rw[Al Ad2,Ai Ad2,o1]
  ·rw[Ak];simp
  clear o1 bc;rintro m s u' ⟨i,i3,o,xs,rfl,hi,h2,h6,h7,h8,bm,bl,bk,hK,bj,be,bd,hO,bi,a4,hX⟩;have bf:=hK.nobj;by_cases a8:i<p.tups.length
  ·have ah:=Aav a8;obtain⟨an,r,hd⟩:=Fv h3 ah;generalize p.tups[i]=t at hd ah an;have HF:Ad8 ((p.tups.take (i+1)).filter (fun t=>G9 t pl==n)=(p.tups.take i).filter (fun t=>G9 t pl==n)++if (G9 t pl==n)=true then [t]else []):=by
    rw[Ad8,Aa8,ah,Ab9,Dn]
   have au:t[pl]?=some t[pl]:=Aav Ad2;have ba:=Ir au;have ap:Ad8 (G9 t pl=t[pl]):=by simp[Ad8,G9,au]
   generalize t[pl]=x at au ba ap;clear ah au;have f1:=Dj an;have f2:=Hc an;have f3:=D1 an;have f4:=G3 an;have f5:=Cj t;have f6:=N9 an;by_cases ay:x=n
   ·subst ay;have HX:Ad8 (xs++Aj t=C7 (o++[t])/\o++[t]=(p.tups.take (i+1)).filter fun t=>G9 t pl==x):=by
     obtain⟨x1,x2⟩:=hX.out;refine⟨by rw[x1,Ki],?_⟩;rw[HF.out,if_pos (by rw[ap.out];simp),x2]
    clear hX HF ap
    repeat' (first|refine Z1 ?_|(refine Z8 ?_;intro ya J)|(refine Z4 ?_;clear J ya)|(refine Z2 ?_ ?_<;>intro h af<;>try exact Xp)|(refine Z6 ?_;intro idn un ak am ac aa ad ab)|refine Z3 ?_|exact Zt|(apply J.out;clear J ya))
    refine C4 (by first|exact Fc) ((hK.new _).put hK.nobj _) (Own.put (Own.new hO _) _ _) (by decide) (by rfl) (a4) (by rw[f1]) (f5) (by decide) Ad2 Ad2 ?_;intro idn un ak am ac aa ad ab;simp only[Ac,Aa]at aa;have eob:∀p,p<u'.nobj->un.obj p=u'.obj p:=fun p hp=>by rw[ac,Al Ad2,Ai Ad2]
    refine Z3 ?_
    repeat' (first|refine Z1 ?_|(refine Z8 ?_;intro ya J)|(refine Z4 ?_;clear J ya)|(refine Z2 ?_ ?_<;>intro h af<;>try exact Xp)|(refine Z6 ?_;intro idn un ak am ac aa ad ab)|refine Z3 ?_|exact Zt|(apply J.out;clear J ya))
    refine⟨p.tups.length-(i+1),Ad2,i+1,idn,o++[t],xs++Aj t,?_⟩
    ((repeat' refine Zi ?_ ?_)<;>first|exact Xq|exact (am.put Ad2 _)|exact (by simpa using Own.put ak _ _)|exact HX|exact Xs)
   ·have a5:(x==n)=false:=by simpa using ay
    have HX:Ad8 (xs=C7 o/\o=(p.tups.take (i+1)).filter fun t=>G9 t pl==n):=by
     obtain⟨x1,x2⟩:=hX.out;refine⟨x1,?_⟩;rw[HF.out,if_neg (by rw[ap.out,a5];simp),x2,Abc]
    clear hX HF ap ay
    repeat' (first|refine Z1 ?_|(refine Z8 ?_;intro ya J)|(refine Z4 ?_;clear J ya)|(refine Z2 ?_ ?_<;>intro h af<;>try exact Xp)|(refine Z6 ?_;intro idn un ak am ac aa ad ab)|refine Z3 ?_|exact Zt|(apply J.out;clear J ya))
    refine⟨p.tups.length-(i+1),Ad2,i+1,i3,o,xs,?_⟩
    ((repeat' refine Zi ?_ ?_)<;>first|exact Xq|exact (Own.put (Own.new hO _) _ _)|exact HX|exact Xs)
  ·have a9:i=p.tups.length:=Ad2;subst a9;obtain⟨x1,x2⟩:=hX.out;rw[Aa3]at x2
   repeat' (first|refine Z1 ?_|(refine Z8 ?_;intro ya J)|(refine Z4 ?_;clear J ya)|(refine Z2 ?_ ?_<;>intro h af<;>try exact Xp)|(refine Z6 ?_;intro idn un ak am ac aa ad ab)|refine Z3 ?_|exact Zt|(apply J.out;clear J ya))
   exact⟨_,rfl,⟨_,rfl,by rw[HR.out,<-x2];exact⟨idp,i3,by first|rfl|rw[x1]⟩⟩,hK.put Ad2 _⟩
end Go.Proofs.YtmoeoppbmhfbpaaGreatDoorH
