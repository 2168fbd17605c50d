import Derived.Test.YtmoeoppbmhfbpaaGreatDoorDRspE
set_option maxHeartbeats 16000000
set_option maxRecDepth 100000
set_option linter.all false
namespace Go.Proofs.YtmoeoppbmhfbpaaGreatDoorD
open Go.Abs
def vF (acc:List Int)(t:Tm):List Int:=if t.1=true/\t.2∉acc then acc++[t.2]else acc
def Cn (l:List Dy):List Int:=(l.flatMap (·.ts)).foldl vF []
theorem Abg (acc:List Int)(t:Tm):(vF acc t).length<=acc.length+1:=by unfold vF;split<;>simp
theorem nS:∀(ts:List Tm) (acc:List Int),(ts.foldl vF acc).length<=acc.length+ts.length
 |[],acc=>by simp
 |t::ts,acc=>by
  have h1:=nS ts (vF acc t);have h2:=Abg acc t;simp only[Adt,Aem];omega
theorem nR:∀(ts:List Tm) (acc:List Int) (v:Int),v∈ts.foldl vF acc↔v∈acc\/(true,v)∈ts
 |[],acc,v=>by simp
 |t::ts,acc,v=>by
  rw[Adt,nR ts];obtain⟨b,w⟩:=t;unfold vF;by_cases h:b=true/\w∉acc
  ·rw[if_pos h];obtain⟨rfl,hw⟩:=h;simp only[Aet,Ae2,Afg,Agj,Prod.mk.injEq,Agi];constructor
   ·rintro ((h|rfl)|h)
    ·exact .inl h
    ·exact .inr (.inl rfl)
    ·exact .inr (.inr h)
   ·rintro (h|rfl|h)
    ·exact .inl (.inl h)
    ·exact .inl (.inr rfl)
    ·exact .inr h
  ·rw[if_neg h];simp only[Ae2,Prod.mk.injEq];constructor
   ·rintro (h|h)
    ·exact .inl h
    ·exact .inr (.inr h)
   ·rintro (h'|⟨rfl,rfl⟩|h')
    ·exact .inl h'
    ·by_cases hm:v∈acc
     ·exact .inl hm
     ·exact absurd ⟨rfl,hm⟩ h
    ·exact .inr h'
theorem Dp (l:List Dy)(v:Int):v∈Cn l↔∃a∈l,(true,v)∈a.ts:=by
 unfold Cn;rw[nR];simp[Ae9]
theorem Zx:∀(l:List Dy),(∀a∈l,a.ts.length<=3)->(l.flatMap (·.ts)).length<=l.length*3
 |[],_=>by simp
 |a::l,h=>by
  have h1:=h a (by simp);have h2:=Zx l (fun b hb=>h b (by simp[hb]));simp only[Ae0,Aeb,Aem];omega
theorem Gp {l:List Dy}(h:∀a∈l,a.ts.length<=3):(Cn l).length<=l.length*3:=by
 have h1:=nS (l.flatMap (·.ts)) [];have h2:=Zx l h;unfold Cn;simp only[Ael]at h1;omega
theorem Ie (l:List Dy)(cs:List AV)(idl:Nat)(hE:EL Nk l cs)(h3:∀a∈l,a.ts.length<=3)(hl:l.length<=200)(u:St):ACalls Tryz.prog 111 [sl idl l.length cs] u fun r u'=>(∃id,r=sl id (Cn l).length (Ar (Cn l)))/\Keep u u':=by
 have a8:=EL.length Hp hE;refine Z9 39 [.tmp 2] Tryz.func111 ?_
 refine zz ?_
 refine Ad (fun m s u'=>∃(k i3:Nat) (vs:List Int),m=l.length-k/\k<=l.length/\s 3=sl i3 vs.length (Ar vs)/\s 9=sl idl l.length cs/\s 10=ic l.length/\s 11=ic k/\Keep u u'/\Own u u' i3 vs.length/\vs.length<=k*3/\Agt (vs=Cn (l.take k))) l.length
  ⟨0,1,[],Agm,Agm,by simp[upd,Ar],rfl,rfl,rfl,Xs,Own.nil _ _,by simp,by simp[Agt,Cn]⟩ ?_
 rintro m s u' ⟨k,i3,vs,rfl,hk,ao,h9,au,ap,hK,hO,aj,hV⟩;have ah:=hK.nobj;by_cases am:k<l.length
 ·have aa:=Adn am;obtain⟨ida,r,hd⟩:=I4 hE aa;have hb:=h3 _ (Aes am);generalize l[k]=a at hd aa hb;have HG:Agt (Cn (l.take (k+1))=a.ts.foldl vF (Cn (l.take k))):=by
   rw[Agt,Ad0,aa];simp[Cn]
  clear aa;have a6:=Eb a.ts
  repeat' first|refine Z1 ?_|refine Z8 fun ya J=>?_|refine Z4 ?_;clear J ya|refine Z2 ?_ ?_<;>intro h ab<;>try exact Xp|refine Z3 ?_|exact Zt|apply J.out;clear J ya
  refine Ad (fun m s u''=>∃(j i4:Nat) (ws:List Int),m=a.ts.length-j/\j<=a.ts.length/\s 3=sl i4 ws.length (Ar ws)/\s 9=sl idl l.length cs/\s 10=ic l.length/\s 11=ic k/\s 16=sl ida a.ts.length (Af a.ts)/\s 17=ic a.ts.length/\s 18=ic j/\Keep u u''/\Own u u'' i4 ws.length/\ws.length<=k*3+j/\Agt (ws=(a.ts.take j).foldl vF vs)) a.ts.length
   ⟨0,i3,vs,Agm,Agm,Agn,Agn,Agn,Agn,Agn,Agn,rfl,(hK.new _).put hK.nobj _,Own.put (Own.new hO _) _ _,Agm,by simp[Agt]⟩ ?_
  clear ao h9 au ap hK hO ah aj;rintro m s u'' ⟨j,i4,ws,rfl,hj,ao,h9,au,ap,bc,bb,ba,hK,hO,aj,hW⟩;have ah:=hK.nobj;have a7:=Bs ws;by_cases af:j<a.ts.length
  ·have aa:=Adn af;obtain⟨r2,az⟩:=Ec aa;generalize a.ts[j]=w at az aa;obtain⟨w1,w2⟩:=w;have HS:Agt ((a.ts.take (j+1)).foldl vF vs=vF ((a.ts.take j).foldl vF vs) (w1,w2)):=by
    rw[Agt,Ad0,aa];simp
   clear aa;have ak:=Q2 w2 ws;have ai:ws.length<=100000:=Agm;cases w1 with
   |false=>
    have HN:Agt (vF ws (false,w2)=ws):=by simp[Agt,vF]
    repeat' first|refine Z1 ?_|refine Z8 fun ya J=>?_|refine Z4 ?_;clear J ya|refine Z2 ?_ ?_<;>intro h ab<;>try exact Xp|refine Z3 ?_|exact Zt|apply J.out;clear J ya
    refine⟨a.ts.length-(j+1),Agm,j+1,i4,ws,?_⟩
    ((repeat' refine Zi ?_ ?_)<;>first|exact Xq|exact (Own.put (Own.new hO _) _ _)|exact (by rw[Agt,HS.out,<-hW.out,HN.out])|exact Xs)
   |true=>
    by_cases hm:w2∈ws
    ·have HN:Agt (vF ws (true,w2)=ws):=by simp[Agt,vF,hm]
     have ad:decide (w2∉ws)=false:=by simp[hm]
     rw[ad]at ak;clear ad hm
     repeat' first|refine Z1 ?_|refine Z8 fun ya J=>?_|refine Z4 ?_;clear J ya|refine Z2 ?_ ?_<;>intro h ab<;>try exact Xp|refine Z5 ?_;refine Xi (Jb _ _ _ ai _) ?_;rintro _ _ ⟨rfl,ac⟩;(have a3:=((hK.new _).put hK.nobj _).trans ac;have an:=Own.keep (Own.put (Own.new hO _) _ _) ac)|refine Z3 ?_|exact Zt|apply J.out;clear J ya
     refine⟨a.ts.length-(j+1),Agm,j+1,i4,ws,?_⟩
     ((repeat' refine Zi ?_ ?_)<;>first|exact Xq|exact an|exact (by rw[Agt,HS.out,<-hW.out,HN.out])|exact Xs)
    ·have HN:Agt (vF ws (true,w2)=ws++[w2]):=by simp[Agt,vF,hm]
     have ad:decide (w2∉ws)=true:=by simp[hm]
     rw[ad]at ak;clear ad hm
     repeat' first|refine Z1 ?_|refine Z8 fun ya J=>?_|refine Z4 ?_;clear J ya|refine Z2 ?_ ?_<;>intro h ab<;>try exact Xp|refine Z6 ?_;intro idn un a0 a9 a5 aw a4 av|refine Z5 ?_;refine Xi (Jb _ _ _ ai _) ?_;rintro _ _ ⟨rfl,ac⟩;(have a3:=((hK.new _).put hK.nobj _).trans ac;have an:=Own.keep (Own.put (Own.new hO _) _ _) ac;have ae:=ac.obj _ (show u''.nobj<_ by simp only[Ac,Aa];omega);rw[Aj]at ae)|refine Z3 ?_|exact Zt|apply J.out;clear J ya
     refine⟨a.ts.length-(j+1),Agm,j+1,idn,ws++[w2],?_⟩
     ((repeat' refine Zi ?_ ?_)<;>first|exact Xq|exact (by simpa using a0)|exact (by rw[Agt,HS.out,<-hW.out,HN.out])|exact (by simp[Ar])|exact Xs)
  ·have ay:j=a.ts.length:=Agm;subst ay;rw[Adu]at hW
   repeat' first|refine Z1 ?_|refine Z8 fun ya J=>?_|refine Z4 ?_;clear J ya|refine Z2 ?_ ?_<;>intro h ab<;>try exact Xp|refine Z3 ?_|exact Zt|apply J.out;clear J ya
   refine⟨l.length-(k+1),Agm,k+1,i4,ws,?_⟩
   ((repeat' refine Zi ?_ ?_)<;>first|exact Xq|exact (by rw[Agt,HG.out,<-hV.out,hW.out])|exact Xs)
 ·have ax:k=l.length:=Agm;subst ax;have hV:=hV.out;rw[Adu]at hV;subst hV
  repeat' first|refine Z1 ?_|refine Z8 fun ya J=>?_|refine Z4 ?_;clear J ya|refine Z2 ?_ ?_<;>intro h ab<;>try exact Xp|refine Z3 ?_|exact Zt|apply J.out;clear J ya
  first|exact⟨_,rfl,⟨_,rfl⟩,hK⟩|exact⟨_,rfl,_,rfl⟩|exact⟨_,rfl,⟨_,rfl⟩⟩
theorem Lz {q:Qry}(hq:Om q):∀a∈atomsQ q,a.ts.length<=3:=by
 intro a ha;simp only[atomsQ,Ae2,Aet,Ae4]at ha;rcases ha with rfl|⟨p,hp,rfl⟩|ha
 ·exact hq.hd
 ·exact hq.pa p hp
 ·exact hq.na a ha
theorem Ik {q:Qry}(hq:Om q):(atomsQ q).length<=129:=by
 have h1:=hq.pl;have h2:=hq.nl;simp[atomsQ];omega
def Dd (q:Qry)(v:Int):Bool:=decide (1<Df (atomsQ q) v)
theorem Pp (q:Qry)(c:List AV)(v:Int)(hc:EQ q c)(hq:Om q)(u:St):ACalls Tryz.prog 252 [ag c,ic v] u fun r u'=>r=sc (.bool (Dd q v))/\Keep u u':=by
 have hA:=fun u=>Iz q c hc hq u;have ae:=Lz hq;have av:=Ik hq;have am:∃x0 x1 x2 x3,c=[x0,x1,x2,x3]/\c.all flat=true:=by
  obtain⟨ih,ip,inn,pc,nc,rfl,-,-⟩:=hc;exact⟨_,_,_,_,rfl,rfl⟩
 obtain⟨x0,x1,x2,x3,rfl,ao⟩:=am;have HL:Agt (Dd q v=decide (1<Df (atomsQ q) v)):=rfl;generalize Dd q v=lb at*
 clear hc hq;generalize atomsQ q=l at*
 refine Z9 23 [.tmp 4] Tryz.func252 ?_
 repeat' first|refine Z1 ?_|refine Z8 fun ya J=>?_|refine Z4 ?_;clear J ya|refine Z5 ?_;refine Xi (hA _) ?_;rintro _ _ ⟨ida,cs,rfl,hE,ac⟩;(have ap:=EL.length Hp hE;have ah:=((Keep.refl u).new _).trans ac)|refine Z3 ?_|exact Zt|apply J.out;clear J ya
 refine Ad (fun m s u'=>∃i a:Nat,m=l.length-i/\i<=l.length/\s 1=ic v/\s 5=ic a/\s 9=sl ida l.length cs/\s 10=ic l.length/\s 11=ic i/\Keep u u'/\a<=i/\Agt (a=Df (l.take i) v)) l.length
  ⟨0,0,Agm,Agm,rfl,rfl,rfl,rfl,rfl,ah,by simp,by simp[Agt,Df]⟩ ?_
 clear ah ac;rintro m s u' ⟨i,a,rfl,hi,h1,h5,h9,ax,aw,hK,b1,hA⟩;have an:=hK.nobj;by_cases af:i<l.length
 ·have aa:=Adn af;obtain⟨id,r,hd⟩:=I4 hE aa;have hb:=ae _ (Aes af);generalize l[i]=w at hd aa hb;have HG:Agt (Df (l.take (i+1)) v=Df (l.take i) v+if A9 w.ts v then 1 else 0):=by
   rw[Agt,Ad0,aa,Aez,Df,Afw];simp[Df,Afx]
  clear aa;have ab:w.ts.length<=1000:=Agm
  repeat' first|refine Z1 ?_|refine Z8 fun ya J=>?_|refine Z4 ?_;clear J ya|refine Z2 ?_ ?_<;>intro h ad<;>try exact Xp|refine Z5 ?_;refine Xi (J1 _ _ _ _ ab _) ?_;rintro _ _ ⟨rfl,ac⟩;(have ai:=ac.nobj;have au:=((hK.new _).put hK.nobj _).trans ac)|refine Z3 ?_|exact Zt|apply J.out;clear J ya
  ·refine⟨l.length-(i+1),Agm,i+1,a+1,?_⟩
   ((repeat' refine Zi ?_ ?_)<;>first|exact Xq|exact (by rw[Agt,HG.out,hA.out,if_pos (by assumption)])|exact Xs)
  ·refine⟨l.length-(i+1),Agm,i+1,a,?_⟩
   ((repeat' refine Zi ?_ ?_)<;>first|exact Xq|exact (by rw[Agt,HG.out,hA.out,if_neg (by simp_all),Adq])|exact Xs)
 ·have aj:i=l.length:=Agm;subst aj;have hA:=hA.out;rw[Adu]at hA;subst hA;have ak:decide ((Df l v:Int)>1)=lb:=by rw[HL.out];congr 1;apply propext;omega
  repeat' first|refine Z1 ?_|refine Z8 fun ya J=>?_|refine Z4 ?_;clear J ya|refine Z2 ?_ ?_<;>intro h ad<;>try exact Xp|refine Z3 ?_|exact Zt|apply J.out;clear J ya
  first|exact⟨_,rfl,rfl,hK⟩|exact⟨_,rfl,rfl⟩|exact⟨_,rfl,hK⟩|exact hK|exact⟨_,rfl,by rw[<-ak]⟩
def Jw (q:Qry):Nat->List Int->Bool
 |_,[]=>true
 |n,v::vs=>if Dd q v=true then (if 1<n+1\/Df (q.parts.map (·.a)) v=1 then false else Jw q (n+1) vs)else Jw q n vs
def idleB (q:Qry)(a:Dy):Bool:=Jw q 0 (Cn [a])
theorem pQ (l:List Dy)(v:Int):Df l v<=l.length:=List.countP_le_length
theorem mK (q:Qry)(c:List AV)(a:Dy)(id:Nat)(ha:a.ts.length<=3)(hc:EQ q c)(hq:Om q)(u:St):ACalls Tryz.prog 267 [ag c,ag [ic a.p,sl id a.ts.length (Af a.ts)]] u fun r u'=>r=sc (.bool (idleB q a))/\Keep u u':=by
 have hL:=fun v u=>Pp q c v hc hq u;have a0:=fun v u=>Ky q c v hc hq u;have ay:∀v,Df (q.parts.map (·.a)) v<=64:=fun v=>by
  have h1:=pQ (q.parts.map (·.a)) v;have h2:=hq.pl;simp at h1;omega
 have az:∃x0 x1 x2 x3,c=[x0,x1,x2,x3]/\c.all flat=true:=by
  obtain⟨ih,ip,inn,pc,nc,rfl,-,-⟩:=hc;exact⟨_,_,_,_,rfl,rfl⟩
 obtain⟨x0,x1,x2,x3,rfl,a6⟩:=az;have ad:=fun (i:Nat) (u:St)=>Ie [a] [ic a.p,sl id a.ts.length (Af a.ts)] i (EL.single ⟨id,rfl⟩) (by simp;exact ha) (by simp) u;have aw:=Gp (l:=[a]) (by simp;exact ha);have HI:Agt (idleB q a=Jw q 0 (Cn [a])):=rfl;generalize idleB q a=ib at*
 generalize Cn [a]=vs at*
 have a4:=Bs vs;simp only[Aem,Ael]at aw ad;refine Z9 31 [.tmp 4] Tryz.func267 ?_
 repeat' first|refine Z1 ?_|refine Z8 fun ya J=>?_|refine Z4 ?_;clear J ya|refine Z2 ?_ ?_<;>intro h ae<;>try exact Xp|refine Z5 ?_;refine Xi (ad _ _) ?_;rintro _ _ ⟨⟨idv,rfl⟩,aa⟩;(have ao:=((((Keep.refl u).new _).new _).lay 1).trans aa;have ac:=aa.nobj;have ab:=aa.obj;(try simp only[Ax,Aa]at ac ab))|refine Z3 ?_|exact Zt|apply J.out;clear J ya
 rename_i u1;have ai:=ab u.nobj Agm;rw[Ho,Ah Agq,Al]at ai;clear ab aa
 refine Ad (fun m s u'=>∃i n:Nat,m=vs.length-i/\i<=vs.length/\s 2=ptr u.nobj 0/\s 5=ic n/\s 10=sl idv vs.length (Ar vs)/\s 11=ic vs.length/\s 12=ic i/\Keep u u'/\u.nobj<u'.nobj/\u'.obj u.nobj=[x0,x1,x2,x3]/\n<=i/\Agt (ib=Jw q n (vs.drop i))) vs.length
  ⟨0,0,Agm,Agm,Ago,Ago,Ago,Agn,rfl,ao,Agm,ai,by simp,by simpa[Agt]using HI.out⟩ ?_
 clear ao ai ac;rintro m s u' ⟨i,n,rfl,hi,h2,h5,bc,bb,ba,hK,a5,ob,b1,hI⟩;have a3:=hK.nobj;by_cases am:i<vs.length
 ·have ah:=Adn am;obtain⟨r,hd⟩:=Di ah;have aj:Agt (vs.drop i=vs[i]::vs.drop (i+1)):=Aeo am;generalize vs[i]=v at hd aj;clear ah;have a7:=ay v;have af:Agt (ib=if Dd q v=true then (if 1<n+1\/Df (q.parts.map (·.a)) v=1 then false else Jw q (n+1) (vs.drop (i+1)))else Jw q n (vs.drop (i+1))):=by
   rw[Agt,hI.out,aj.out,Jw]
  clear hI aj;cases an:Dd q v with
  |false=>
   have af:Agt (ib=Jw q n (vs.drop (i+1))):=by rw[Agt,af.out,an];simp
   repeat' first|refine Z1 ?_|refine Z8 fun ya J=>?_|refine Z4 ?_;clear J ya|refine Z2 ?_ ?_<;>intro h ae<;>try exact Xp|refine Z5 ?_;refine Xi (hL _ _) ?_;rintro _ _ ⟨rfl,aa⟩;(have ac:=aa.nobj;have ab:=aa.obj;have ap:=hK.trans aa)|refine Z3 ?_|exact Zt|apply J.out;clear J ya
   refine⟨vs.length-(i+1),Agm,i+1,n,?_⟩
   ((repeat' refine Zi ?_ ?_)<;>first|exact Xq|exact Xs)
  |true=>
   generalize a8:Df (q.parts.map (·.a)) v=cn at*
   have af:Agt (ib=if 1<n+1\/cn=1 then false else Jw q (n+1) (vs.drop (i+1))):=by rw[Agt,af.out,an];simp
   repeat' first|refine Z1 ?_|refine Z8 fun ya J=>?_|refine Z4 ?_;clear J ya|refine Z2 ?_ ?_<;>intro h ae<;>try exact Xp|(refine Z5 ?_;first|(refine Xi (hL _ _) ?_;rintro _ _ ⟨rfl,aa⟩;(have ac:=aa.nobj;have ab:=aa.obj;have ap:=hK.trans aa))|(refine Xi (a0 _ _) ?_;rintro _ _ ⟨rfl,ak⟩;(have av:=ak.nobj;have au:=ak.obj;have a9:=ap.trans ak)))|refine Z3 ?_|exact Zt|apply J.out;clear J ya
   ·have:ib=false:=by
     rw[af.out,if_pos];right;simp only[Agf]at h;omega
    exact⟨_,rfl,by rw[this]⟩
   ·have:ib=Jw q (n+1) (vs.drop (i+1)):=by
     rw[af.out,if_neg];simp only[beq_eq_false_iff_ne,ne_eq]at h;omega
    refine⟨vs.length-(i+1),Agm,i+1,n+1,?_⟩
    ((repeat' refine Zi ?_ ?_)<;>first|exact Xq|exact this|exact Xs)
   ·have:ib=false:=by
     rw[af.out,if_pos];left;omega
    exact⟨_,rfl,by rw[this]⟩
 ·have ax:i=vs.length:=Agm;subst ax;have hI:ib=true:=by rw[hI.out,Aep];rfl
  subst hI
  repeat' first|refine Z1 ?_|refine Z8 fun ya J=>?_|refine Z4 ?_;clear J ya|refine Z2 ?_ ?_<;>intro h ae<;>try exact Xp|refine Z3 ?_|exact Zt|apply J.out;clear J ya
  first|exact⟨_,rfl,rfl,hK⟩|exact⟨_,rfl,rfl⟩|exact⟨_,rfl,hK⟩|exact hK
def E8 (q:Qry):Qry:={q with parts:=q.parts.eraseP fun p=>idleB q p.a}
theorem iX {α:Type}(f:α->Bool)(l:List α)(w:α):(l++[w]).eraseP f=if l.any f=true then l.eraseP f++[w]else if f w=true then l else l++[w]:=by
 by_cases h:l.any f=true
 ·rw[if_pos h];rw[Aer]at h;obtain⟨x,hx,hf⟩:=h;exact List.eraseP_append_left hf _ hx
 ·rw[if_neg h];have h':∀b∈l,¬f b=true:=fun b hb hf=>h (Aer.2 ⟨b,hb,hf⟩);rw[List.eraseP_append_right _ h'];by_cases hw:f w=true
  ·simp[hw]
  ·simp[hw]
theorem sK {α:Type}(f:α->Bool)(l:List α):(l.eraseP f).length<=l.length:=List.length_eraseP_le
theorem eM {q:Qry}(h:Om q):Om (E8 q):=by
 have hs:∀p∈(E8 q).parts,p∈q.parts:=fun p hp=>List.mem_of_mem_eraseP hp;have hl:(E8 q).parts.length<=q.parts.length:=sK _ _;exact⟨h.hd,Ade hl h.pl,h.nl,fun p hp=>h.pa p (hs p hp),fun p hp=>h.pt p (hs p hp),fun p hp=>h.p3 p (hs p hp),h.na⟩
theorem iW (q:Qry)(c:List AV)(hc:EQ q c)(hq:Om q)(u:St):ACalls Tryz.prog 251 [ag c] u fun r u'=>(∃c',r=ag c'/\EQ (E8 q) c')/\Keep u u':=by
 have au:=hc;obtain⟨ih,ip,inn,pc,nc,rfl,hP,hN⟩:=hc;have hpl:=EL.length Ef hP;have hl:=hq.pl;have ai:=fun (a:Dy) (id:Nat) (ha:a.ts.length<=3) u=>mK q _ a id ha au hq u;clear au;refine Z9 35 [.cell 2 182] Tryz.func251 ?_
 refine zz ?_
 refine Ad (fun m s u'=>∃(k i3:Nat) (d:Bool) (o:List Part) (xs:List AV),m=q.parts.length-k/\k<=q.parts.length/\s 1=ptr u.nobj 0/\s 2=ptr (u.nobj+1) 0/\s 3=ptr (u.nobj+2) 0/\s 4=sc (.bool d)/\s 13=sl ip q.parts.length pc/\s 14=ic q.parts.length/\s 15=ic k/\Keep u u'/\u.nobj+2<u'.nobj/\u'.obj u.nobj=[ic q.head.p,sl ih q.head.ts.length (Af q.head.ts),sl ip q.parts.length pc,sl inn q.nots.length nc]/\u'.obj (u.nobj+1)=[ic 0,nilS,nilS,nilS]/\u'.obj (u.nobj+2)=[ic q.head.p,sl ih q.head.ts.length (Af q.head.ts),sl i3 o.length xs,sl inn q.nots.length nc]/\Own u u' i3 o.length/\o.length<=k/\xs.length=o.length*3/\Agt (EL L2 o xs/\d=(q.parts.take k).any (fun p=>idleB q p.a)/\o=(q.parts.take k).eraseP fun p=>idleB q p.a)) q.parts.length
  ⟨0,1,false,[],[],Agm,Agm,Ago,Ago,Ago,Ago,Ago,Ago,rfl,Xs,Ags,?_,?_,?_,Own.nil _ _,by simp,by simp,⟨rfl,by simp,by simp⟩⟩ ?_
 ·rw[Ak Agm,Ah Agq,Ah Agq,Al]
 ·rw[Ak Agm,Ah Agq,Ca Agq Agq]
 ·rw[show u.nobj+2=u.nobj+1+1 by omega,Aj];simp
 rintro m s u' ⟨k,i3,d,o,xs,rfl,hk,h1,h2,h3,h4,a9,a8,a7,hK,a6,a3,a0,az,hO,a5,av,hX⟩;have a4:=hK.nobj;by_cases ap:k<q.parts.length
 ·have aa:=Adn ap;obtain⟨id,idt,r,hd⟩:=E6 hP aa;have hb:=hq.pa _ (Aes ap);generalize q.parts[k]=w at hd aa hb;have HE:Agt ((q.parts.take (k+1)).eraseP (fun p=>idleB q p.a)=if (q.parts.take k).any (fun p=>idleB q p.a)=true then (q.parts.take k).eraseP (fun p=>idleB q p.a)++[w]else if idleB q w.a=true then q.parts.take k else q.parts.take k++[w]):=by
   rw[Agt,Ad0,aa,Aez,iX]
  have HA:Agt ((q.parts.take (k+1)).any (fun p=>idleB q p.a)=((q.parts.take k).any (fun p=>idleB q p.a)||idleB q w.a)):=by
   rw[Agt,Ad0,aa,Aez,Afv];simp
  have HN:Agt ((q.parts.take k).any (fun p=>idleB q p.a)=false->(q.parts.take k).eraseP (fun p=>idleB q p.a)=q.parts.take k):=fun h=>List.eraseP_of_forall_not (fun a ha hf=>by
   rw[Aev]at h
   exact h a ha hf)
  clear aa;have ai:=ai w.a id hb;cases d with
  |true=>
   have HX:Agt (EL L2 (o++[w]) (xs++[ic w.a.p,sl id w.a.ts.length (Af w.a.ts),sl idt w.tups.length (Er w.tups)])/\true=(q.parts.take (k+1)).any (fun p=>idleB q p.a)/\o++[w]=(q.parts.take (k+1)).eraseP fun p=>idleB q p.a):=by
    obtain⟨x1,x2,x3⟩:=hX.out;refine⟨EL.append x1 (EL.single ⟨id,idt,rfl⟩),?_,?_⟩
    ·rw[HA.out,<-x2];rfl
    ·rw[HE.out,if_pos x2.symm,x3]
   clear hX HE HA HN
   repeat' first|refine Z1 ?_|refine Z8 fun ya J=>?_|refine Z4 ?_;clear J ya|refine Z2 ?_ ?_<;>intro h ab<;>try exact Xp|refine Z3 ?_|exact Zt|apply J.out;clear J ya
   refine Bz (by first|exact Dx) ((hK.new _).put hK.nobj _) (Own.put (Own.new hO _) _ _) (by decide) (by rfl) (av) (by rfl) (by rfl) (by decide) Agm Agm ?_;intro idn un am an aj ad ao ak;simp only[Ac,Aa]at ad;have eob:∀p,p<u'.nobj->un.obj p=u'.obj p:=fun p hp=>by rw[aj,Ak Agm,Ah Agm]
   refine Z3 ?_
   repeat' first|refine Z1 ?_|refine Z8 fun ya J=>?_|refine Z4 ?_;clear J ya|refine Z2 ?_ ?_<;>intro h ab<;>try exact Xp|refine Z3 ?_|exact Zt|apply J.out;clear J ya
   refine⟨q.parts.length-(k+1),Agm,k+1,idn,true,o++[w],xs++[ic w.a.p,sl id w.a.ts.length (Af w.a.ts),sl idt w.tups.length (Er w.tups)],?_⟩
   ((repeat' refine Zi ?_ ?_)<;>first|exact Xq|exact (an.put Agm _)|exact (by simpa using Own.put am _ _)|exact HX|exact Xs)
  |false=>
   cases ah:idleB q w.a with
   |true=>
    have HX:Agt (EL L2 o xs/\true=(q.parts.take (k+1)).any (fun p=>idleB q p.a)/\o=(q.parts.take (k+1)).eraseP fun p=>idleB q p.a):=by
     obtain⟨x1,x2,x3⟩:=hX.out;refine⟨x1,?_,?_⟩
     ·rw[HA.out,<-x2,ah];rfl
     ·rw[HE.out,if_neg (by rw[<-x2];simp),if_pos ah,x3,HN.out x2.symm]
    clear hX HE HA HN;rw[ah]at ai
    repeat' first|refine Z1 ?_|refine Z8 fun ya J=>?_|refine Z4 ?_;clear J ya|refine Z2 ?_ ?_<;>intro h ab<;>try exact Xp|refine Z5 ?_;refine Xi (ai _) ?_;rintro _ _ ⟨rfl,ac⟩;(have af:=ac.nobj;have ae:=ac.obj;have ay:=((hK.new _).put hK.nobj _).trans ac;have ax:=Own.keep (Own.put (Own.new hO _) _ _) ac;simp only[Ac,Aa]at af ae)|refine Z3 ?_|exact Zt|apply J.out;clear J ya
    refine⟨q.parts.length-(k+1),Agm,k+1,i3,true,o,xs,?_⟩
    ((repeat' refine Zi ?_ ?_)<;>first|exact Xq|exact HX|exact Xs)
   |false=>
    have HX:Agt (EL L2 (o++[w]) (xs++[ic w.a.p,sl id w.a.ts.length (Af w.a.ts),sl idt w.tups.length (Er w.tups)])/\false=(q.parts.take (k+1)).any (fun p=>idleB q p.a)/\o++[w]=(q.parts.take (k+1)).eraseP fun p=>idleB q p.a):=by
     obtain⟨x1,x2,x3⟩:=hX.out;refine⟨EL.append x1 (EL.single ⟨id,idt,rfl⟩),?_,?_⟩
     ·rw[HA.out,<-x2,ah];rfl
     ·rw[HE.out,if_neg (by rw[<-x2];simp),if_neg (by rw[ah];simp),x3,HN.out x2.symm]
    clear hX HE HA HN;rw[ah]at ai
    repeat' first|refine Z1 ?_|refine Z8 fun ya J=>?_|refine Z4 ?_;clear J ya|refine Z2 ?_ ?_<;>intro h ab<;>try exact Xp|refine Z6 ?_;intro idn un am an aj ad ao ak|refine Z5 ?_;refine Xi (ai _) ?_;rintro _ _ ⟨rfl,ac⟩;(have af:=ac.nobj;have ae:=ac.obj;have ay:=((hK.new _).put hK.nobj _).trans ac;have ax:=Own.keep (Own.put (Own.new hO _) _ _) ac;simp only[Ac,Aa]at af ae)|refine Z3 ?_|exact Zt|apply J.out;clear J ya
    refine⟨q.parts.length-(k+1),Agm,k+1,idn,false,o++[w],xs++[ic w.a.p,sl id w.a.ts.length (Af w.a.ts),sl idt w.tups.length (Er w.tups)],?_⟩
    ((repeat' refine Zi ?_ ?_)<;>first|exact Xq|exact (an.put Agm _)|exact (by simpa using Own.put am _ _)|exact HX|exact Xs)
 ·have aw:k=q.parts.length:=Agm;subst aw;obtain⟨x1,-,x3⟩:=hX.out;rw[Adu]at x3
  repeat' first|refine Z1 ?_|refine Z8 fun ya J=>?_|refine Z4 ?_;clear J ya|refine Z2 ?_ ?_<;>intro h ab<;>try exact Xp|refine Z3 ?_|exact Zt|apply J.out;clear J ya
  exact⟨_,rfl,⟨_,rfl,ih,i3,inn,xs,nc,by rw[E8,<-x3],by rw[E8,<-x3];exact x1,hN⟩,hK.put Agm _⟩
inductive TrimR (q:Qry):Qry->Prop where
 |refl:TrimR q q
 |tail {q':Qry}:TrimR q q'->TrimR q (E8 q')
theorem mH (q:Qry)(c:List AV)(hc:EQ q c)(hq:Om q)(u:St):ACalls Tryz.prog 214 [ag c] u fun r u'=>(∃c' q',r=ag c'/\EQ q' c'/\Om q'/\TrimR q q')/\Keep u u':=by
 obtain⟨ih,ip,inn,pc,nc,rfl,hP,hN⟩:=hc;have hl:=hq.pl;refine Z9 19 [.cell 2 182] Tryz.func214 ?_
 refine zz ?_
 refine Ad (fun m s u'=>∃(qk:Qry) (ck:List AV),s 1=ptr u.nobj 0/\s 2=ptr (u.nobj+1) 0/\s 3=ic m/\m<=65/\Keep u u'/\u.nobj+1<u'.nobj/\u'.obj u.nobj=ck/\u'.obj (u.nobj+1)=[ic 0,nilS,nilS,nilS]/\EQ qk ck/\Agt (Om qk/\TrimR q qk)) (q.parts.length+1)
  ⟨q,_,Ago,Ago,Ago,Agm,Xs,Agq,rfl,?_,⟨ih,ip,inn,pc,nc,?_,hP,hN⟩,hq,.refl⟩ ?_
 ·rw[Ca Agq Agq]
 ·rw[Ah Agq,Al]
 clear hP hN hl;rintro m s u' ⟨qk,ck,h1,h2,h3,hm,hK,ao,am,ak,hE,hQ⟩;have an:=hK.nobj;have ac:=hE;obtain⟨ih,ip,inn,pc,nc,rfl,hP,hN⟩:=hE;have hT:=fun u=>iW qk _ ac hQ.out.1 u;have aj:Agt _:=ac;clear ac;have hl:=hQ.out.1.pl;by_cases ap:qk.parts.length<m
 ·repeat' first|refine Z1 ?_|refine Z8 fun ya J=>?_|refine Z4 ?_;clear J ya|refine Z2 ?_ ?_<;>intro h aa<;>try exact Xp|refine Z5 ?_;refine Xi (hT _) ?_;rintro _ _ ⟨⟨_,rfl,ih2,ip2,inn2,pc2,nc2,rfl,af,ah⟩,ab⟩;(have ae:=ab.nobj;have ad:=ab.obj;have ai:=hK.trans ab)|refine Z3 ?_|exact Zt|apply J.out;clear J ya
  refine⟨qk.parts.length,Agm,E8 qk,[ic (E8 qk).head.p,sl ih2 (E8 qk).head.ts.length (Af (E8 qk).head.ts),sl ip2 (E8 qk).parts.length pc2,sl inn2 (E8 qk).nots.length nc2],?_⟩
  ((repeat' refine Zi ?_ ?_)<;>first|exact Xq|exact (ai.put Agm _)|exact (⟨ih2,ip2,inn2,pc2,nc2,rfl,af,ah⟩)|exact (⟨eM hQ.out.1,.tail hQ.out.2⟩)|exact Xs)
 ·repeat' first|refine Z1 ?_|refine Z8 fun ya J=>?_|refine Z4 ?_;clear J ya|refine Z2 ?_ ?_<;>intro h aa<;>try exact Xp|refine Z3 ?_|exact Zt|apply J.out;clear J ya
  exact⟨_,rfl,⟨_,qk,rfl,aj.out,hQ.out.1,hQ.out.2⟩,hK.put Agm _⟩
theorem Hf {t:Cc}(h:t.length=3):(Ar t).length=3:=by rw[Bs,h]
theorem Mk {t:Cc}(h:t.length=3)(r:List AV):List.take 3 (Ar t++r)=Ar t:=by rw[List.take_append_of_le_length (by rw[Hf h];exact Adc _),Aeq (by rw[Hf h];exact Adc _)]
theorem Ia {t:Cc}(h:t.length=3):List.take 3 (Ar t)=Ar t:=Aeq (by rw[Hf h];exact Adc _)
theorem Oa {t:Cc}(h:t.length=3)(x y z:AV):lsp [x,y,z] 0 (Ar t)=Ar t:=by
 match t,h with
 |[a,b,c],_=>rfl
theorem Zv {t:Cc}(h:t.length=3)(r:List AV):3<=(Ar t++r).length:=by rw[Aeb,Hf h];omega
theorem Ob {t:Cc}{i:Nat}{x:Int}(h:t[i]?=some x):(Ar t)[i]?=some (ic x):=by simp[Ar,h]
def Rq (ts:List Tm)(t:Cc)(i:Nat):Bool:=match ts[i]?,t[i]? with
 |some (false,n),some x=>x==n
 |some (true,v),some x=>x==(t[(Ig ts v).toNat]?).getD 0
 |_,_=>false
def K4 (ts:List Tm)(t:Cc):Bool:=(List.range ts.length).all (Rq ts t)
theorem mL (p:Int)(ids:Nat)(ts:List Tm)(t:Cc)(ht:t.length=3)(hn:ts.length<=3)(u:St):ACalls Tryz.prog 168 [ag [ic p,sl ids ts.length (Af ts)],ag (Ar t)] u fun r u'=>r=sc (.bool (K4 ts t))/\Keep u u':=by
 have a3:=Eb ts;have a7:=Hf ht;have a6:=Ia ht;have aw:ts.length<=1000:=Agm;have aj:∀i,i<ts.length->Rq ts t i=false->K4 ts t=false:=fun i hi h=>by
  unfold K4;rw[Afu];exact⟨i,by simpa using hi,by rw[h];simp⟩
 refine Z9 41 [.tmp 4] Tryz.func168 ?_
 repeat' first|refine Z1 ?_|refine Z8 fun ya J=>?_|refine Z4 ?_;clear J ya|refine Z2 ?_ ?_<;>intro h ac<;>try exact Xp|refine Z3 ?_|exact Zt|apply J.out;clear J ya
 refine Ad (fun m s u'=>∃i:Nat,m=ts.length-i/\i<=ts.length/\s 2=ptr u.nobj 0/\s 3=ptr (u.nobj+1) 0/\s 8=sl ids ts.length (Af ts)/\s 9=ic ts.length/\s 10=ic i/\Keep u u'/\u.nobj+1<u'.nobj/\u'.obj u.nobj=[ic p,sl ids ts.length (Af ts)]/\u'.obj (u.nobj+1)=Ar t/\Agt (∀j,j<i->Rq ts t j=true)) ts.length
  ⟨0,Agm,Agm,Ago,Ago,Ago,Ago,rfl,Xs,Agq,?_,?_,fun j hj=>Agm⟩ ?_
 ·rw[Ah Agq,Al]
 ·rw[Ca Agq Agq]
 rintro m s u' ⟨i,rfl,hi,h2,h3,h8,h9,a8,hK,a4,av,ak,hA⟩;have a0:=hK.nobj;by_cases an:i<ts.length
 ·have ab:=Adn an;obtain⟨r,hd⟩:=Ec ab;have af:t[i]?=some t[i]:=Adn Agm;have az:=Ob af;generalize ts[i]=w at hd ab;generalize t[i]=x at af az;obtain⟨w1,w2⟩:=w;have ao:Agt (Rq ts t i=true->∀j,j<i+1->Rq ts t j=true):=fun h j hj=>by
   by_cases e:j=i
   ·subst e;exact h
   ·exact hA.out j Agm
  have HB:Agt (Rq ts t i=false->K4 ts t=false):=aj i an;cases w1 with
  |false=>
   have HF:Agt (Rq ts t i=(x==w2)):=by rw[Agt,Rq,ab,af]
   clear ab af hA
   repeat' first|refine Z1 ?_|refine Z8 fun ya J=>?_|refine Z4 ?_;clear J ya|refine Z2 ?_ ?_<;>intro h ac<;>try exact Xp|refine Z3 ?_|exact Zt|apply J.out;clear J ya
   refine Aw Ag (fun _=>True) [] [0,1,2,3,4,5,6,7,8,9,10] [] Agp (fun _ _ _ h=>h) ?_;intro ya J
   repeat' first|refine Z1 ?_|refine Z8 fun ya J=>?_|refine Z4 ?_;clear J ya|refine Z2 ?_ ?_<;>intro h ac<;>try exact Xp|refine Z3 ?_|exact Zt|apply J.out;clear J ya
   ·exact⟨_,rfl,by rw[HB.out (by rw[HF.out];simp only[bne_iff_ne,ne_eq]at h;simp[h])],(hK.new _).put hK.nobj _⟩
   ·have au:Keep u ((u'.new [sc (.bool false),ic 0]).put u'.nobj [sc (.bool false),ic w2]):=(hK.new _).put hK.nobj _;have kv:∀p,p<u'.nobj->((u'.new [sc (.bool false),ic 0]).put u'.nobj [sc (.bool false),ic w2]).obj p=u'.obj p:=fun p hp=>by rw[Ak Agm,Ah Agm]
    refine Bl (Q:=fun e s' u''=>e= .normal/\s' 39=sc (.bool false)/\s' 2=ptr u.nobj 0/\s' 3=ptr (u.nobj+1) 0/\s' 8=sl ids ts.length (Af ts)/\s' 9=ic ts.length/\s' 10=ic i/\u''=(u'.new [sc (.bool false),ic 0]).put u'.nobj [sc (.bool false),ic w2]) ?_ ?_
    ·refine Ay Ag (fun _=>True) [] [0,1,2,3,4,5,6,7,8] 5 #[true,true,true,true,true,true,true,true,true,false,false,false,false,false] Agp (fun _ _ _ h=>by cases h.1) ?_;intro ya J;refine Z3 ?_;refine J.out _ ?_;clear J ya;refine Ai (i:=9) Agp ?_;refine Am ?_;intro ya J;refine Z3 ?_;refine J.out _ _ ⟨kept_refl,?_⟩;clear J ya;refine Dc [10,11,12,13] Agp Agp (fun _ _ _ h=>by cases h.1) (Adc _) (fun o ho _=>rfl) ?_;intro ya J;refine Z3 ?_;refine J.out _ _ ⟨rfl,?_⟩;simp[upd, *]
    ·rintro e s' u'' ⟨rfl,g39,g2,g3,g8,g9,g10,rfl⟩;refine Ed g39 ?_
     refine zz ?_
     refine⟨ts.length-(i+1),Agm,i+1,?_⟩
     ((repeat' refine Zi ?_ ?_)<;>first|exact Xq|exact (ao.out (by rw[HF.out];simpa using h))|exact Xs)
  |true=>
   obtain⟨pl,hpl,am⟩:∃k:Nat,k<ts.length/\Ig ts w2=(k:Int):=by
    have hm:=Adp ab;exact⟨ts.idxOf (true,w2),List.idxOf_lt_length_iff.2 hm,if_pos hm⟩
   have ai:t[pl]?=some t[pl]:=Adn Agm;have ay:=Ob ai;generalize t[pl]=y at ai ay;have HF:Agt (Rq ts t i=(x==y)):=by rw[Agt,Rq,ab,af];simp[am,ai]
   clear ab af hA ai;have ap:=fun u=>Fz p ids ts w2 aw u;rw[am]at ap
   repeat' first|refine Z1 ?_|refine Z8 fun ya J=>?_|refine Z4 ?_;clear J ya|refine Z2 ?_ ?_<;>intro h ac<;>try exact Xp|refine Z3 ?_|exact Zt|apply J.out;clear J ya
   refine Aw Ag (fun _=>True) [] [0,1,2,3,4,5,6,7,8,9,10] [] Agp (fun _ _ _ h=>h) ?_;intro ya J
   repeat' first|refine Z1 ?_|refine Z4 ?_;clear J ya|refine Z2 ?_ ?_<;>intro h ac<;>try exact Xp|refine Z3 ?_|exact Zt|apply J.out;clear J ya
   have au:Keep u ((u'.new [sc (.bool false),ic 0]).put u'.nobj [sc (.bool true),ic w2]):=(hK.new _).put hK.nobj _;have kv:∀p,p<u'.nobj->((u'.new [sc (.bool false),ic 0]).put u'.nobj [sc (.bool true),ic w2]).obj p=u'.obj p:=fun p hp=>by rw[Ak Agm,Ah Agm]
   refine Bl (Q:=fun e s' u''=>e= .normal/\s' 39=sc (.bool (x !=y))/\s' 2=ptr u.nobj 0/\s' 3=ptr (u.nobj+1) 0/\s' 8=sl ids ts.length (Af ts)/\s' 9=ic ts.length/\s' 10=ic i/\Keep ((u'.new [sc (.bool false),ic 0]).put u'.nobj [sc (.bool true),ic w2]) u'') ?_ ?_
   ·refine Ay Ag (fun _=>True) [] [0,1,2,3,4,5,6,7,8] 5 #[true,true,true,true,true,true,true,true,true,false,false,false,false,false] Agp (fun _ _ _ h=>by cases h.1) ?_;intro ya J;refine Z3 ?_;refine J.out _ ?_;clear J ya;refine Ai (i:=9) Agp ?_;refine Am ?_;intro ya J;refine Z3 ?_;refine ACalls.mono (ap _) ?_;rintro _ u5 ⟨rfl,ad⟩;refine Z3 ?_;refine J.out _ _ ⟨Ao ad,?_⟩;clear J ya;have ae:=ad.nobj;have aa:=ad.obj;simp only[Ac,Aa]at ae aa;have o5:u5.obj (u.nobj+1)=Ar t:=by rw[aa _ Agm,kv _ Agm,ak]
    refine Dc [10,11,12,13] Agp Agp (fun _ _ _ h=>by cases h.1) ad.nobj (fun o ho _=>ad.ver o ho) ?_;intro ya J;refine Z3 ?_;refine J.out _ _ ⟨rfl,?_⟩;simp[upd, *]
   ·rintro e s' u'' ⟨rfl,g39,g2,g3,g8,g9,g10,ad⟩;have ae:=ad.nobj;have aa:=ad.obj;simp only[Ac,Aa]at ae aa;have a5:=au.trans ad;have o50:u''.obj u.nobj=[ic p,sl ids ts.length (Af ts)]:=by rw[aa _ Agm,kv _ Agm,av]
    have o51:u''.obj (u.nobj+1)=Ar t:=by rw[aa _ Agm,kv _ Agm,ak]
    clear aa kv;cases ah:x !=y with
    |true=>
     rw[ah]at g39;refine C0 g39 ?_
     refine zz ?_
     exact⟨_,rfl,by rw[HB.out (by rw[HF.out];simp only[bne_iff_ne,ne_eq]at ah;simp[ah])]⟩
    |false=>
     rw[ah]at g39;refine Ed g39 ?_
     refine zz ?_
     refine⟨ts.length-(i+1),Agm,i+1,?_⟩
     ((repeat' refine Zi ?_ ?_)<;>first|exact Xq|exact (ao.out (by rw[HF.out];simpa using ah))|exact Xs)
 ·have ax:i=ts.length:=Agm;subst ax;have hR:K4 ts t=true:=by
   unfold K4;rw[Ado];intro j hj;exact hA.out j (by simpa using hj)
  repeat' first|refine Z1 ?_|refine Z8 fun ya J=>?_|refine Z4 ?_;clear J ya|refine Z2 ?_ ?_<;>intro h ac<;>try exact Xp|refine Z3 ?_|exact Zt|apply J.out;clear J ya
  first|exact⟨_,rfl,by rw[hR],hK⟩|exact⟨_,rfl,by rw[hR]⟩|exact⟨_,rfl,hK⟩|exact⟨_,rfl,rfl⟩|exact hK
theorem Jj {l:List Cc}{k:Nat}{t:Cc}(h3:T3 l)(h:l[k]?=some t):t.length=3/\∃r,(Er l).drop (k*3)=Ar t++r:=by
 obtain⟨a,b,c,r,rfl,e⟩:=oR h3 h;exact⟨rfl,r,by rw[e];rfl⟩
def Hk (t:Cc)(k:Int):Int:=(t[k.toNat]?).getD 0
theorem Jq {ts:List Tm}{v:Int}(h:A9 ts v=true):∃k:Nat,k<ts.length/\Ig ts v=(k:Int):=by
 have hm:(true,v)∈ts:=by simpa[A9]using h
 exact⟨ts.idxOf (true,v),List.idxOf_lt_length_iff.2 hm,if_pos hm⟩
def Hl (v n:Int)(p:Part):Part:=if A9 p.a.ts v=true then⟨⟨p.a.p,Bg v n p.a.ts⟩,p.tups.filter fun t=>Hk t (Ig p.a.ts v)==n⟩else p
theorem D6 {α:Type}(f:α->Bool)(l:List α)(x:α):(l++[x]).filter f=l.filter f++if f x=true then [x]else []:=by
 rw[Afy];by_cases h:f x=true<;>simp[h]
theorem mI (p:Part)(id idt:Nat)(v n:Int)(ha:p.a.ts.length<=3)(ht:p.tups.length<=5000)(h3:T3 p.tups)(u:St):ACalls Tryz.prog 220 [ag [ic p.a.p,sl id p.a.ts.length (Af p.a.ts),sl idt p.tups.length (Er p.tups)],ic v,ic n] u fun r u'=>(∃c',r=ag c'/\L2 (Hl v n p) c')/\Keep u u':=by
 have bg:=Ir h3;have aw:p.a.ts.length<=1000:=Agm;have am:=fun u=>Fz p.a.p id p.a.ts v aw u;have a8:=fun u=>Mm p.a.p id p.a.ts v n aw u;cases hv:A9 p.a.ts v with
 |false=>
  have hp:Ig p.a.ts v= -1:=Jp (by simpa[A9]using hv);have HR:Agt (Hl v n p=p):=if_neg (by rw[hv];simp);rw[hp]at am;clear hp;refine Z9 44 [.cell 6 214] Tryz.func220 ?_
  repeat' first|refine Z1 ?_|refine Z8 fun ya J=>?_|refine Z4 ?_;clear J ya|refine Z2 ?_ ?_<;>intro h ac<;>try exact Xp|refine Z5 ?_;refine Xi (am _) ?_;rintro _ _ ⟨rfl,ad⟩;(have ae:=ad.nobj;have aa:=ad.obj;have an:=(((Keep.refl u).new _).new _).trans ad;simp only[Aa]at ae aa)|refine Z3 ?_|exact Zt|apply J.out;clear J ya
  exact⟨_,rfl,⟨_,rfl,by rw[HR.out];exact⟨id,idt,rfl⟩⟩,an.put Agm _⟩
 |true=>
  obtain⟨pl,hpl,au⟩:=Jq hv;have HR:Agt (Hl v n p=⟨⟨p.a.p,Bg v n p.a.ts⟩,p.tups.filter fun t=>Hk t pl==n⟩):=by rw[Agt,Hl,if_pos hv,au]
  rw[au]at am;clear au;have a3:pl<3:=Agm;have a4:((pl:Int)== -1)=false:=by simp
  refine Z9 44 [.cell 6 214] Tryz.func220 ?_
  repeat' first|refine Z1 ?_|refine Z8 fun ya J=>?_|refine Z4 ?_;clear J ya|refine Z2 ?_ ?_<;>intro h ac<;>try exact Xp|(refine Z5 ?_;first|(refine Xi (am _) ?_;rintro _ _ ⟨rfl,ad⟩;(have ae:=ad.nobj;have aa:=ad.obj;have an:=(((Keep.refl u).new _).new _).trans ad;simp only[Aa]at ae aa))|(refine Xi (a8 _) ?_;rintro _ _ ⟨⟨idp,rfl⟩,ao⟩;(have ay:=ao.nobj;have ah:=ao.obj;have ba:=an.trans ao)))|refine Z3 ?_|exact Zt|apply J.out;clear J ya
  rename_i u1 u2;have o1:u2.obj (u.nobj+1)=[ic 0,nilS,nilS]:=by rw[ah _ Agm,aa _ Agm,Ca Agq Agq]
  clear aa ah an ad ao
  refine Ad (fun m s u'=>∃(i i3:Nat) (o:List Cc) (xs:List AV),m=p.tups.length-i/\i<=p.tups.length/\s 2=ic n/\s 6=ptr (u.nobj+1) 0/\s 7=ic pl/\s 8=ptr u2.nobj 0/\s 25=sl idt p.tups.length (Er p.tups)/\s 26=ic p.tups.length/\s 27=ic i/\Keep u u'/\u2.nobj<u'.nobj/\u'.obj (u.nobj+1)=[ic 0,nilS,nilS]/\u'.obj u2.nobj=[ic p.a.p,sl idp (Bg v n p.a.ts).length (Af (Bg v n p.a.ts)),sl i3 o.length xs]/\Own u u' i3 o.length/\o.length<=i/\xs.length=o.length*3/\Agt (xs=Er o/\o=(p.tups.take i).filter fun t=>Hk t pl==n)) p.tups.length
   ⟨0,1,[],[],Agm,Agm,by simp[upd,initS],Ago,Ago,Ago,Ago,Ago,rfl,Xs,Ags,?_,?_,Own.nil _ _,by simp,by simp,⟨rfl,by simp⟩⟩ ?_
  ·rw[Ak Agm,Ah Agm,o1]
  ·rw[Aj];simp
  clear o1 ba;rintro m s u' ⟨i,i3,o,xs,rfl,hi,h2,h6,h7,h8,bo,bn,bm,hK,bi,be,bd,hO,bh,az,hX⟩;have bf:=hK.nobj;by_cases a5:i<p.tups.length
  ·have ab:=Adn a5;obtain⟨af,r,hd⟩:=Jj h3 ab;generalize p.tups[i]=t at hd ab af;have HF:Agt ((p.tups.take (i+1)).filter (fun t=>Hk t pl==n)=(p.tups.take i).filter (fun t=>Hk t pl==n)++if (Hk t pl==n)=true then [t]else []):=by
    rw[Agt,Ad0,ab,Aez,D6]
   have ak:t[pl]?=some t[pl]:=Adn Agm;have a7:=Ob ak;have ai:Agt (Hk t pl=t[pl]):=by simp[Agt,Hk,ak]
   generalize t[pl]=x at ak a7 ai;clear ab ak;have f1:=Hf af;have f2:=Mk af;have f3:=Ia af;have f4:=Oa af;have f5:=Ev t;have f6:=Zv af;by_cases ap:x=n
   ·subst ap;have HX:Agt (xs++Ar t=Er (o++[t])/\o++[t]=(p.tups.take (i+1)).filter fun t=>Hk t pl==x):=by
     obtain⟨x1,x2⟩:=hX.out;refine⟨by rw[x1,O1],?_⟩;rw[HF.out,if_pos (by rw[ai.out];simp),x2]
    clear hX HF ai
    repeat' first|refine Z1 ?_|refine Z8 fun ya J=>?_|refine Z4 ?_;clear J ya|refine Z2 ?_ ?_<;>intro h ac<;>try exact Xp|refine Z3 ?_|exact Zt
    refine Bz (by first|exact F5) ((hK.new _).put hK.nobj _) (Own.put (Own.new hO _) _ _) (by decide) (by rfl) (az) (by rw[f1]) (f5) (by decide) Agm Agm ?_;intro idn un a9 bb av aj bc ax;simp only[Ac,Aa]at aj;have eob:∀p,p<u'.nobj->un.obj p=u'.obj p:=fun p hp=>by rw[av,Ak Agm,Ah Agm]
    refine Z3 ?_
    refine zz ?_
    refine⟨p.tups.length-(i+1),Agm,i+1,idn,o++[t],xs++Ar t,?_⟩
    ((repeat' refine Zi ?_ ?_)<;>first|exact Xq|exact (bb.put Agm _)|exact (by simpa using Own.put a9 _ _)|exact HX|exact Xs)
   ·have a0:(x==n)=false:=by simpa using ap
    have HX:Agt (xs=Er o/\o=(p.tups.take (i+1)).filter fun t=>Hk t pl==n):=by
     obtain⟨x1,x2⟩:=hX.out;refine⟨x1,?_⟩;rw[HF.out,if_neg (by rw[ai.out,a0];simp),x2,Ad4]
    clear hX HF ai ap
    repeat' first|refine Z1 ?_|refine Z8 fun ya J=>?_|refine Z4 ?_;clear J ya|refine Z2 ?_ ?_<;>intro h ac<;>try exact Xp|refine Z3 ?_|exact Zt|apply J.out;clear J ya
    refine⟨p.tups.length-(i+1),Agm,i+1,i3,o,xs,?_⟩
    ((repeat' refine Zi ?_ ?_)<;>first|exact Xq|exact (Own.put (Own.new hO _) _ _)|exact HX|exact Xs)
  ·have a6:i=p.tups.length:=Agm;subst a6;obtain⟨x1,x2⟩:=hX.out;rw[Adu]at x2
   repeat' first|refine Z1 ?_|refine Z8 fun ya J=>?_|refine Z4 ?_;clear J ya|refine Z2 ?_ ?_<;>intro h ac<;>try exact Xp|refine Z3 ?_|exact Zt|apply J.out;clear J ya
   exact⟨_,rfl,⟨_,rfl,by rw[HR.out,<-x2];exact⟨idp,i3,by first|rfl|rw[x1]⟩⟩,hK.put Agm _⟩
def Fi (v n:Int)(a:Dy):Dy:=⟨a.p,Bg v n a.ts⟩
def C7 (v n:Int)(q:Qry):Qry:=⟨Fi v n q.head,q.parts.map (Hl v n),q.nots.map (Fi v n)⟩
theorem yC {p:Part}{c:List AV}(h:L2 p c):∃x y z,c=[x,y,z]/\flat x=true/\flat y=true/\flat z=true:=by
 obtain⟨id,idt,rfl⟩:=h;exact⟨_,_,_,rfl,rfl,rfl,rfl⟩
theorem Va (q:Qry)(c:List AV)(v n:Int)(hc:EQ q c)(hq:Om q)(u:St):ACalls Tryz.prog 173 [ag c,ic v,ic n] u fun r u'=>(∃c',r=ag c'/\EQ (C7 v n q) c')/\Keep u u':=by
 obtain⟨ih,ip,inn,pc,nc,rfl,hP,hN⟩:=hc;have hpl:=EL.length Ef hP;have b2:=EL.length Hp hN;have hl:=hq.pl;have b3:=hq.nl;have hh:=hq.hd;have bi:q.head.ts.length<=1000:=Agm;have bp:=fun u=>Mm q.head.p ih q.head.ts v n bi u;refine Z9 53 [.cell 6 182] Tryz.func173 ?_
 repeat' first|refine Z1 ?_|refine Z8 fun ya J=>?_|refine Z4 ?_;clear J ya|refine Z5 ?_;refine Xi (bp _) ?_;rintro _ _ ⟨⟨idh,rfl⟩,ay⟩;(have az:=ay.nobj;have ah:=ay.obj;have bu:=(((Keep.refl u).new _).new _).trans ay;simp only[Aa]at az ah)|refine Z3 ?_|exact Zt|apply J.out;clear J ya
 rename_i u1;have o0:u1.obj u.nobj=[ic q.head.p,sl ih q.head.ts.length (Af q.head.ts),sl ip q.parts.length pc,sl inn q.nots.length nc]:=by rw[ah _ Agm,Ah Agq,Al]
 have o1:u1.obj (u.nobj+1)=[ic 0,nilS,nilS,nilS]:=by rw[ah _ Agm,Ca Agq Agq]
 clear ah ay
 refine Ad (fun m s u'=>∃(i i3:Nat) (xs:List AV),m=q.parts.length-i/\i<=q.parts.length/\s 1=ic v/\s 2=ic n/\s 3=ptr u.nobj 0/\s 6=ptr (u.nobj+1) 0/\s 7=ptr u1.nobj 0/\s 19=sl ip q.parts.length pc/\s 20=ic q.parts.length/\s 21=ic i/\Keep u u'/\u1.nobj<u'.nobj/\u'.obj u.nobj=[ic q.head.p,sl ih q.head.ts.length (Af q.head.ts),sl ip q.parts.length pc,sl inn q.nots.length nc]/\u'.obj (u.nobj+1)=[ic 0,nilS,nilS,nilS]/\u'.obj u1.nobj=[ic q.head.p,sl idh (Bg v n q.head.ts).length (Af (Bg v n q.head.ts)),sl i3 i xs,nilS]/\Own u u' i3 i/\xs.length=i*3/\Agt (EL L2 ((q.parts.take i).map (Hl v n)) xs)) q.parts.length
  ⟨0,1,[],Agm,Agm,by simp[upd,initS],by simp[upd,initS],Ago,Ago,Ago,Ago,Ago,rfl,Xs,Ags,?_,?_,?_,Own.nil _ _,by simp,by simp[Agt,EL]⟩ ?_
 ·rw[Ak Agm,Ah Agm,o0]
 ·rw[Ak Agm,Ah Agm,o1]
 ·rw[Aj]
 clear o0 o1 bu;rintro m s u' ⟨i,i3,xs,rfl,hi,h1,h2,h3,h6,h7,bg,bf,be,hK,ai,aw,af,ae,hO,a5,hX⟩;have bb:=hK.nobj;by_cases aj:i<q.parts.length
 ·have aa:=Adn aj;obtain⟨id,idt,r,hd⟩:=E6 hP aa;have ax:=hq.pa _ (Aes aj);have bd:=hq.pt _ (Aes aj);have bc:=hq.p3 _ (Aes aj);generalize q.parts[i]=w at hd aa ax bd bc;have HG:Agt ((q.parts.take (i+1)).map (Hl v n)=(q.parts.take i).map (Hl v n)++[Hl v n w]):=by
   rw[Agt,Ad0,aa];simp
  clear aa;have a6:=fun u=>mI w id idt v n ax bd bc u;have b1:Agt _:=hX;have a4:Agt _:=a5
  repeat' first|refine Z1 ?_|refine Z8 fun ya J=>?_|refine Z4 ?_;clear J ya|refine Z2 ?_ ?_<;>intro h am<;>try exact Xp|refine Z3 ?_|exact Zt|apply J.out;clear J ya
  have ap:Keep u ((u'.new [ic 0,nilS,nilS]).put u'.nobj [ic w.a.p,sl id w.a.ts.length (Af w.a.ts),sl idt w.tups.length (Er w.tups)]):=(hK.new _).put hK.nobj _;have kv:∀p,p<u'.nobj->((u'.new [ic 0,nilS,nilS]).put u'.nobj [ic w.a.p,sl id w.a.ts.length (Af w.a.ts),sl idt w.tups.length (Er w.tups)]).obj p=u'.obj p:=fun p hp=>by rw[Ak Agm,Ah Agm]
  refine Bl (Q:=fun e s' u''=>e= .normal/\s' 1=ic v/\s' 2=ic n/\s' 3=ptr u.nobj 0/\s' 6=ptr (u.nobj+1) 0/\s' 7=ptr u1.nobj 0/\s' 19=sl ip q.parts.length pc/\s' 20=ic q.parts.length/\s' 21=ic i/\Keep u u''/\u1.nobj<u''.nobj/\u''.obj u.nobj=[ic q.head.p,sl ih q.head.ts.length (Af q.head.ts),sl ip q.parts.length pc,sl inn q.nots.length nc]/\u''.obj (u.nobj+1)=[ic 0,nilS,nilS,nilS]/\∃idn c',u''.obj u1.nobj=[ic q.head.p,sl idh (Bg v n q.head.ts).length (Af (Bg v n q.head.ts)),sl idn (i+1) (xs++c'),nilS]/\Own u u'' idn (i+1)/\L2 (Hl v n w) c') ?_ ?_
  ·refine Ay Ag (fun _=>True) [9] [0,1,2,3,4] 5 #[true,true,true,true,true,false,false,false,false,false] Agp (fun _ _ _ h=>by cases h.1) ?_;intro ya J;refine Z3 ?_;refine J.out _ ?_;clear J ya;refine Ai (i:=5) Agp ?_;refine Am ?_;intro ya J;refine Z3 ?_;refine ACalls.mono (a6 _) ?_;rintro _ u5 ⟨⟨c',rfl,ao⟩,ab⟩;refine Z3 ?_;refine J.out _ _ ⟨Ao ab,?_⟩;clear J ya;obtain⟨x,y,z,rfl,fx1,fx2,fx3⟩:=yC ao;have ak:=ab.nobj;have ac:=ab.obj;simp only[Ac,Aa]at ak ac;have a9:=ap.trans ab;have a7:=Own.keep (Own.put (Own.new hO [ic 0,nilS,nilS]) u'.nobj [ic w.a.p,sl id w.a.ts.length (Af w.a.ts),sl idt w.tups.length (Er w.tups)]) ab;refine Ai (i:=6) Agp ?_;refine Am ?_;intro ya J;refine Z3 ?_;refine J.out _ _ ⟨Ao (ab.lay 1),?_⟩;clear J ya;refine Ai (i:=7) Agp ?_;refine Am ?_;intro ya J;refine Z3 ?_;refine Bz (by first|exact Fa|exact Dx) a9 a7 (by decide) (by rfl) a5 (by rfl) (by simp[fx1,fx2,fx3]) (by decide) Agm Agm ?_;intro idn un a8 ba an av ad au;refine Z3 ?_;refine J.out _ _ ⟨fun _ o ho _=>by rw[ad];exact ab.ver o ho,?_⟩;clear J ya;refine Ai (i:=8) Agp ?_;refine Am ?_;intro ya J;refine Z3 ?_;refine J.out _ _ ⟨fun _ o ho _=>by rw[ad];exact ab.ver o ho,?_⟩;clear J ya;have en:∀p,p<u'.nobj->un.obj p=u'.obj p:=fun p hp=>by rw[an,ac _ Agm,kv _ hp]
   have en1:un.obj u1.nobj=[ic q.head.p,sl idh (Bg v n q.head.ts).length (Af (Bg v n q.head.ts)),sl i3 i xs,nilS]:=by rw[en _ ai,ae]
   refine Ai (i:=9) Agp ?_;refine Am ?_;intro ya J;refine Z3 ?_;refine J.out _ _ ⟨Bf rfl,?_⟩;clear J ya;refine Bb Agp ⟨rfl,?_⟩;simp only[upd,↓reduceIte,Nat.reduceEqDiff,h1,h2,h3,h6,h7,bg,bf,be,Agi];refine⟨ba.put Agm _,by simp only[Ac];omega,?_,?_,idn,[x,y,z],?_,Own.put a8 _ _,ao⟩
   ·rw[Ak Agm,en _ Agm,aw]
   ·rw[Ak Agm,en _ Agm,af]
   ·rw[Aj]
  ·clear kv ap hX hO a5 aw af ae ai;rintro e s' u'' ⟨rfl,g1,g2,g3,g6,g7,g19,g20,g21,hK,ai,aw,af,idn,c',ae,hO,ao⟩;have HX:Agt (EL L2 ((q.parts.take (i+1)).map (Hl v n)) (xs++c')):=by rw[Agt,HG.out];exact EL.append b1.out (EL.single ao)
   have bo:=Ef _ _ ao
   refine zz ?_
   refine⟨q.parts.length-(i+1),Agm,i+1,idn,xs++c',?_⟩
   ((repeat' refine Zi ?_ ?_)<;>first|exact Xq|exact HX|exact (by rw[Aeb,bo,a4.out];omega)|exact Xs)
 ·have bn:i=q.parts.length:=Agm;subst bn;rw[Adu]at hX;generalize hM:q.parts.length=M at*
  have HM:Agt _:=hM;clear hM aj hi
  repeat' first|refine Z1 ?_|refine Z8 fun ya J=>?_|refine Z4 ?_;clear J ya|refine Z2 ?_ ?_<;>intro h am<;>try exact Xp|refine Z3 ?_|exact Zt|apply J.out;clear J ya
  refine Ad (fun m s u'=>∃(j i4:Nat) (ys:List AV),m=q.nots.length-j/\j<=q.nots.length/\s 1=ic v/\s 2=ic n/\s 6=ptr (u.nobj+1) 0/\s 7=ptr u1.nobj 0/\s 36=sl inn q.nots.length nc/\s 37=ic q.nots.length/\s 38=ic j/\Keep u u'/\u1.nobj<u'.nobj/\u'.obj (u.nobj+1)=[ic 0,nilS,nilS,nilS]/\u'.obj u1.nobj=[ic q.head.p,sl idh (Bg v n q.head.ts).length (Af (Bg v n q.head.ts)),sl i3 M xs,sl i4 j ys]/\Own u u' i4 j/\ys.length=j*2/\Agt (EL Nk ((q.nots.take j).map (Fi v n)) ys)) q.nots.length
   ⟨0,1,[],Agm,Agm,Agn,Agn,Agn,Agn,Agn,Agn,Ago,hK,ai,af,by rw[ae],Own.nil _ _,by simp,by simp[Agt,EL]⟩ ?_
  clear h1 h2 h3 h6 h7 bg bf be hK ai aw af ae hO bb;rintro m s u' ⟨j,i4,ys,rfl,hj,h1,h2,h6,h7,bz,bw,bv,hK,ai,af,ae,hO,a3,hY⟩;have bb:=hK.nobj;by_cases aj:j<q.nots.length
  ·have aa:=Adn aj;obtain⟨id,r,hd⟩:=I4 hN aa;have ax:=hq.na _ (Aes aj);generalize q.nots[j]=w at hd aa ax;have HG:Agt ((q.nots.take (j+1)).map (Fi v n)=(q.nots.take j).map (Fi v n)++[Fi v n w]):=by
    rw[Agt,Ad0,aa];simp
   clear aa;have bh:w.ts.length<=1000:=Agm;have a6:=fun u=>Mm w.p id w.ts v n bh u;have b0:Agt _:=hY;have a0:Agt _:=a3
   repeat' first|refine Z1 ?_|refine Z8 fun ya J=>?_|refine Z4 ?_;clear J ya|refine Z2 ?_ ?_<;>intro h am<;>try exact Xp|refine Z3 ?_|exact Zt|apply J.out;clear J ya
   have ap:Keep u ((u'.new [ic 0,nilS]).put u'.nobj [ic w.p,sl id w.ts.length (Af w.ts)]):=(hK.new _).put hK.nobj _;have kv:∀p,p<u'.nobj->((u'.new [ic 0,nilS]).put u'.nobj [ic w.p,sl id w.ts.length (Af w.ts)]).obj p=u'.obj p:=fun p hp=>by rw[Ak Agm,Ah Agm]
   refine Bl (Q:=fun e s' u''=>e= .normal/\s' 1=ic v/\s' 2=ic n/\s' 6=ptr (u.nobj+1) 0/\s' 7=ptr u1.nobj 0/\s' 36=sl inn q.nots.length nc/\s' 37=ic q.nots.length/\s' 38=ic j/\Keep u u''/\u1.nobj<u''.nobj/\u''.obj (u.nobj+1)=[ic 0,nilS,nilS,nilS]/\∃idn id',u''.obj u1.nobj=[ic q.head.p,sl idh (Bg v n q.head.ts).length (Af (Bg v n q.head.ts)),sl i3 M xs,sl idn (j+1) (ys++[ic w.p,sl id' (Bg v n w.ts).length (Af (Bg v n w.ts))])]/\Own u u'' idn (j+1)) ?_ ?_
   ·refine Ay Ag (fun _=>True) [9] [0,1,2,3,4] 5 #[true,true,true,true,true,false,false,false,false,false] Agp (fun _ _ _ h=>by cases h.1) ?_;intro ya J;refine Z3 ?_;refine J.out _ ?_;clear J ya;refine Ai (i:=5) Agp ?_;refine Am ?_;intro ya J;refine Z3 ?_;refine ACalls.mono (a6 _) ?_;rintro _ u5 ⟨⟨id',rfl⟩,ab⟩;refine Z3 ?_;refine J.out _ _ ⟨Ao ab,?_⟩;clear J ya;have ak:=ab.nobj;have ac:=ab.obj;simp only[Ac,Aa]at ak ac;have a9:=ap.trans ab;have a7:=Own.keep (Own.put (Own.new hO [ic 0,nilS]) u'.nobj [ic w.p,sl id w.ts.length (Af w.ts)]) ab;refine Ai (i:=6) Agp ?_;refine Am ?_;intro ya J;refine Z3 ?_;refine J.out _ _ ⟨Ao (ab.lay 1),?_⟩;clear J ya;refine Ai (i:=7) Agp ?_;refine Am ?_;intro ya J;refine Z3 ?_;refine Bz (by first|exact Fa|exact Dx) a9 a7 (by decide) (by rfl) a3 (by rfl) (by rfl) (by decide) Agm Agm ?_;intro idn un a8 ba an av ad au;refine Z3 ?_;refine J.out _ _ ⟨fun _ o ho _=>by rw[ad];exact ab.ver o ho,?_⟩;clear J ya;refine Ai (i:=8) Agp ?_;refine Am ?_;intro ya J;refine Z3 ?_;refine J.out _ _ ⟨fun _ o ho _=>by rw[ad];exact ab.ver o ho,?_⟩;clear J ya;have en:∀p,p<u'.nobj->un.obj p=u'.obj p:=fun p hp=>by rw[an,ac _ Agm,kv _ hp]
    have en1:un.obj u1.nobj=[ic q.head.p,sl idh (Bg v n q.head.ts).length (Af (Bg v n q.head.ts)),sl i3 M xs,sl i4 j ys]:=by rw[en _ ai,ae]
    refine Ai (i:=9) Agp ?_;refine Am ?_;intro ya J;refine Z3 ?_;refine J.out _ _ ⟨Bf rfl,?_⟩;clear J ya;refine Bb Agp ⟨rfl,?_⟩;simp only[upd,↓reduceIte,Nat.reduceEqDiff,h1,h2,h6,h7,bz,bw,bv,Agi];refine⟨ba.put Agm _,by simp only[Ac];omega,?_,idn,id',?_,Own.put a8 _ _⟩
    ·rw[Ak Agm,en _ Agm,af]
    ·rw[Aj]
   ·clear kv ap hY hO a3 af ae ai;rintro e s' u'' ⟨rfl,g1,g2,g6,g7,g36,g37,g38,hK,ai,af,idn,id',ae,hO⟩;have HX:Agt (EL Nk ((q.nots.take (j+1)).map (Fi v n)) (ys++[ic w.p,sl id' (Bg v n w.ts).length (Af (Bg v n w.ts))])):=by rw[Agt,HG.out];exact EL.append b0.out (EL.single ⟨id',rfl⟩)
    refine zz ?_
    refine⟨q.nots.length-(j+1),Agm,j+1,idn,ys++[ic w.p,sl id' (Bg v n w.ts).length (Af (Bg v n w.ts))],?_⟩
    ((repeat' refine Zi ?_ ?_)<;>first|exact Xq|exact HX|exact (by rw[Aeb,a0.out];simp;omega)|exact Xs)
  ·have bm:j=q.nots.length:=Agm;subst bm;rw[Adu]at hY;have br:(q.parts.map (Hl v n)).length=M:=by rw[Ae3];exact HM.out
   have bq:(q.nots.map (Fi v n)).length=q.nots.length:=by rw[Ae3]
   repeat' first|refine Z1 ?_|refine Z8 fun ya J=>?_|refine Z4 ?_;clear J ya|refine Z2 ?_ ?_<;>intro h am<;>try exact Xp|refine Z3 ?_|exact Zt|apply J.out;clear J ya
   exact⟨_,rfl,⟨_,rfl,idh,i3,i4,xs,ys,by simp only[C7,Fi];rw[br,bq],hX.out,hY.out⟩,hK.put Agm _⟩
end Go.Proofs.YtmoeoppbmhfbpaaGreatDoorD
