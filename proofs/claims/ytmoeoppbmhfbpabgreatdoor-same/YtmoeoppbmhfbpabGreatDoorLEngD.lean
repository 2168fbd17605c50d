import Derived.Test.YtmoeoppbmhfbpabGreatDoorLSpaF
set_option maxHeartbeats 16000000
set_option maxRecDepth 100000
set_option linter.all false
namespace Go.Proofs.YtmoeoppbmhfbpabGreatDoorL
open Go.Abs
def vF (acc:List Int)(t:Tm):List Int:=if t.1=true/\t.2∉acc then acc++[t.2]else acc
def Cb (l:List De):List Int:=(l.flatMap (·.ts)).foldl vF []
theorem Ad6 (acc:List Int)(t:Tm):(vF acc t).length<=acc.length+1:=by unfold vF;split<;>simp
theorem aZ:∀(ts:List Tm) (acc:List Int),(ts.foldl vF acc).length<=acc.length+ts.length
 |[],acc=>by simp
 |t::ts,acc=>by
  have h1:=aZ ts (vF acc t);have h2:=Ad6 acc t;simp only[Ag6,Ahy];omega
theorem aY:∀(ts:List Tm) (acc:List Int) (v:Int),v∈ts.foldl vF acc↔v∈acc\/(true,v)∈ts
 |[],acc,v=>by simp
 |t::ts,acc,v=>by
  rw[Ag6,aY ts];obtain⟨b,w⟩:=t;unfold vF;by_cases h:b=true/\w∉acc
  ·rw[if_pos h];obtain⟨rfl,hw⟩:=h;simp only[Ah8,Ah2,Ail,Aj5,Prod.mk.injEq,true_and];constructor
   ·rintro ((h|rfl)|h)
    ·exact .inl h
    ·exact .inr (.inl rfl)
    ·exact .inr (.inr h)
   ·rintro (h|rfl|h)
    ·exact .inl (.inl h)
    ·exact .inl (.inr rfl)
    ·exact .inr h
  ·rw[if_neg h];simp only[Ah2,Prod.mk.injEq];constructor
   ·rintro (h|h)
    ·exact .inl h
    ·exact .inr (.inr h)
   ·rintro (h'|⟨rfl,rfl⟩|h')
    ·exact .inl h'
    ·by_cases hm:v∈acc
     ·exact .inl hm
     ·exact absurd ⟨rfl,hm⟩ h
    ·exact .inr h'
theorem C3 (l:List De)(v:Int):v∈Cb l↔∃a∈l,(true,v)∈a.ts:=by
 unfold Cb;rw[aY];simp[Ah7]
theorem aC:∀(l:List De),(∀a∈l,a.ts.length<=3)->(l.flatMap (·.ts)).length<=l.length*3
 |[],_=>by simp
 |a::l,h=>by
  have h1:=h a (by simp);have h2:=aC l (fun b hb=>h b (by simp[hb]));simp only[Aik,Aho,Ahy];omega
theorem E4 {l:List De}(h:∀a∈l,a.ts.length<=3):(Cb l).length<=l.length*3:=by
 have h1:=aZ (l.flatMap (·.ts)) [];have h2:=aC l h;unfold Cb;simp only[Ahx]at h1;omega
theorem Hb (l:List De)(cs:List AV)(idl:Nat)(hE:EL Mm l cs)(h3:∀a∈l,a.ts.length<=3)(hl:l.length<=200)(u:St):ACalls Tryz.prog 150 [sl idl l.length cs] u fun r u'=>(∃id,r=sl id (Cb l).length (Al (Cb l)))/\Keep u u':=by
 have a7:=EL.length Ic hE;refine Z9 39 [.tmp 2] Tryz.func150 ?_
 repeat' (first|refine Z1 ?_|(refine Z8 ?_;intro yb ya)|(refine Z4 ?_;clear ya yb)|refine Z3 ?_|exact Zt|(apply ya.out;clear ya yb))
 refine Af (fun m s u'=>∃(k i3:Nat) (vs:List Int),m=l.length-k/\k<=l.length/\s 3=sl i3 vs.length (Al vs)/\s 9=sl idl l.length cs/\s 10=ic l.length/\s 11=ic k/\Keep u u'/\Own u u' i3 vs.length/\vs.length<=k*3/\Akc (vs=Cb (l.take k))) l.length
  ⟨0,1,[],Aj6,Aj6,by simp[upd,Al],rfl,rfl,rfl,Xs,Own.nil _ _,by simp,by simp[Akc,Cb]⟩ ?_
 rintro m s u' ⟨k,i3,vs,rfl,hk,ao,h9,au,ap,hK,hO,aj,hV⟩;have ah:=hK.nobj;by_cases am:k<l.length
 ·have aa:=Agz am;obtain⟨ida,r,hd⟩:=Jl hE aa;have hb:=h3 _ (Ain am);generalize l[k]=a at hd aa hb;have HG:Akc (Cb (l.take (k+1))=a.ts.foldl vF (Cb (l.take k))):=by
   rw[Akc,Ahd,aa];simp[Cb]
  clear aa;have a6:=Ch a.ts
  repeat' (first|refine Z1 ?_|(refine Z8 ?_;intro yb ya)|(refine Z4 ?_;clear ya yb)|(refine Z2 ?_ ?_<;>intro h ab<;>try exact Xp)|refine Z3 ?_|exact Zt|(apply ya.out;clear ya yb))
  refine Af (fun m s u''=>∃(j i4:Nat) (ws:List Int),m=a.ts.length-j/\j<=a.ts.length/\s 3=sl i4 ws.length (Al ws)/\s 9=sl idl l.length cs/\s 10=ic l.length/\s 11=ic k/\s 16=sl ida a.ts.length (Ac a.ts)/\s 17=ic a.ts.length/\s 18=ic j/\Keep u u''/\Own u u'' i4 ws.length/\ws.length<=k*3+j/\Akc (ws=(a.ts.take j).foldl vF vs)) a.ts.length
   ⟨0,i3,vs,Aj6,Aj6,Aj7,Aj7,Aj7,Aj7,Aj7,Aj7,rfl,(hK.new _).put hK.nobj _,Own.put (Own.new hO _) _ _,Aj6,by simp[Akc]⟩ ?_
  clear ao h9 au ap hK hO ah aj;rintro m s u'' ⟨j,i4,ws,rfl,hj,ao,h9,au,ap,bb,ba,a9,hK,hO,aj,hW⟩;have ah:=hK.nobj;have hil:=Bm ws;by_cases af:j<a.ts.length
  ·have aa:=Agz af;obtain⟨r2,az⟩:=Cl aa;generalize a.ts[j]=w at az aa;obtain⟨w1,w2⟩:=w;have HS:Akc ((a.ts.take (j+1)).foldl vF vs=vF ((a.ts.take j).foldl vF vs) (w1,w2)):=by
    rw[Akc,Ahd,aa];simp
   clear aa;have ak:=Rl w2 ws;have ai:ws.length<=100000:=Aj6;cases w1 with
   |false=>
    have HN:Akc (vF ws (false,w2)=ws):=by simp[Akc,vF]
    repeat' (first|refine Z1 ?_|(refine Z8 ?_;intro yb ya)|(refine Z4 ?_;clear ya yb)|(refine Z2 ?_ ?_<;>intro h ab<;>try exact Xp)|refine Z3 ?_|exact Zt|(apply ya.out;clear ya yb))
    refine⟨a.ts.length-(j+1),Aj6,j+1,i4,ws,?_⟩
    ((repeat' refine Zi ?_ ?_)<;>first|exact Xq|exact (Own.put (Own.new hO _) _ _)|exact (by rw[Akc,HS.out,<-hW.out,HN.out])|exact Xs)
   |true=>
    by_cases hm:w2∈ws
    ·have HN:Akc (vF ws (true,w2)=ws):=by simp[Akc,vF,hm]
     have ad:decide (w2∉ws)=false:=by simp[hm]
     rw[ad]at ak;clear ad hm
     repeat' (first|refine Z1 ?_|(refine Z8 ?_;intro yb ya)|(refine Z4 ?_;clear ya yb)|(refine Z2 ?_ ?_<;>intro h ab<;>try exact Xp)|(refine Z5 ?_;refine Xi (Fs _ _ _ ai _) ?_;rintro _ _ ⟨rfl,ac⟩;(have a3:=((hK.new _).put hK.nobj _).trans ac;have an:=Own.keep (Own.put (Own.new hO _) _ _) ac))|refine Z3 ?_|exact Zt|(apply ya.out;clear ya yb))
     refine⟨a.ts.length-(j+1),Aj6,j+1,i4,ws,?_⟩
     ((repeat' refine Zi ?_ ?_)<;>first|exact Xq|exact an|exact (by rw[Akc,HS.out,<-hW.out,HN.out])|exact Xs)
    ·have HN:Akc (vF ws (true,w2)=ws++[w2]):=by simp[Akc,vF,hm]
     have ad:decide (w2∉ws)=true:=by simp[hm]
     rw[ad]at ak;clear ad hm
     repeat' (first|refine Z1 ?_|(refine Z8 ?_;intro yb ya)|(refine Z4 ?_;clear ya yb)|(refine Z2 ?_ ?_<;>intro h ab<;>try exact Xp)|(refine Z6 ?_;intro idn un a0 a8 a5 aw a4 av)|(refine Z5 ?_;refine Xi (Fs _ _ _ ai _) ?_;rintro _ _ ⟨rfl,ac⟩;(have a3:=((hK.new _).put hK.nobj _).trans ac;have an:=Own.keep (Own.put (Own.new hO _) _ _) ac;have ae:=ac.obj _ (show u''.nobj<_ by simp only[Ab,Aa];omega);rw[Aj]at ae))|refine Z3 ?_|exact Zt|(apply ya.out;clear ya yb))
     refine⟨a.ts.length-(j+1),Aj6,j+1,idn,ws++[w2],?_⟩
     ((repeat' refine Zi ?_ ?_)<;>first|exact Xq|exact (by simpa using a0)|exact (by rw[Akc,HS.out,<-hW.out,HN.out])|exact (by simp[Al])|exact Xs)
  ·have ay:j=a.ts.length:=Aj6;subst ay;rw[Ag7]at hW
   repeat' (first|refine Z1 ?_|(refine Z8 ?_;intro yb ya)|(refine Z4 ?_;clear ya yb)|(refine Z2 ?_ ?_<;>intro h ab<;>try exact Xp)|refine Z3 ?_|exact Zt|(apply ya.out;clear ya yb))
   refine⟨l.length-(k+1),Aj6,k+1,i4,ws,?_⟩
   ((repeat' refine Zi ?_ ?_)<;>first|exact Xq|exact (by rw[Akc,HG.out,<-hV.out,hW.out])|exact Xs)
 ·have ax:k=l.length:=Aj6;subst ax;have hV:=hV.out;rw[Ag7]at hV;subst hV
  repeat' (first|refine Z1 ?_|(refine Z8 ?_;intro yb ya)|(refine Z4 ?_;clear ya yb)|(refine Z2 ?_ ?_<;>intro h ab<;>try exact Xp)|refine Z3 ?_|exact Zt|(apply ya.out;clear ya yb))
  first|exact⟨_,rfl,⟨_,rfl⟩,hK⟩|exact⟨_,rfl,_,rfl⟩|exact⟨_,rfl,⟨_,rfl⟩⟩
theorem Mg {q:Qry}(hq:Ou q):∀a∈atomsQ q,a.ts.length<=3:=by
 intro a ha;simp only[atomsQ,Ah2,Ah8,Aib]at ha;rcases ha with rfl|⟨p,hp,rfl⟩|ha
 ·exact hq.hd
 ·exact hq.pa p hp
 ·exact hq.na a ha
theorem I6 {q:Qry}(hq:Ou q):(atomsQ q).length<=129:=by
 have h1:=hq.pl;have h2:=hq.nl;simp[atomsQ];omega
def C5 (q:Qry)(v:Int):Bool:=decide (1<C7 (atomsQ q) v)
theorem Pz (q:Qry)(c:List AV)(v:Int)(hc:EQ q c)(hq:Ou q)(u:St):ACalls Tryz.prog 257 [ag c,ic v] u fun r u'=>r=sc (.bool (C5 q v))/\Keep u u':=by
 have hA:=fun u=>Jk q c hc hq u;have ae:=Mg hq;have au:=I6 hq;have ak:∃x0 x1 x2 x3,c=[x0,x1,x2,x3]/\c.all flat=true:=by
  obtain⟨ih,ip,inn,pc,nc,rfl,-,-⟩:=hc;exact⟨_,_,_,_,rfl,rfl⟩
 obtain⟨x0,x1,x2,x3,rfl,an⟩:=ak;have HL:Akc (C5 q v=decide (1<C7 (atomsQ q) v)):=rfl;generalize C5 q v=lb at*
 clear hc hq;generalize atomsQ q=l at*
 refine Z9 23 [.tmp 4] Tryz.func257 ?_
 repeat' (first|refine Z1 ?_|(refine Z8 ?_;intro yb ya)|(refine Z4 ?_;clear ya yb)|(refine Z5 ?_;refine Xi (hA _) ?_;rintro _ _ ⟨ida,cs,rfl,hE,ac⟩;(have ao:=EL.length Ic hE;have ah:=((Keep.refl u).new _).trans ac))|refine Z3 ?_|exact Zt|(apply ya.out;clear ya yb))
 refine Af (fun m s u'=>∃i a:Nat,m=l.length-i/\i<=l.length/\s 1=ic v/\s 5=ic a/\s 9=sl ida l.length cs/\s 10=ic l.length/\s 11=ic i/\Keep u u'/\a<=i/\Akc (a=C7 (l.take i) v)) l.length
  ⟨0,0,Aj6,Aj6,rfl,rfl,rfl,rfl,rfl,ah,by simp,by simp[Akc,C7]⟩ ?_
 clear ah ac;rintro m s u' ⟨i,a,rfl,hi,h1,h5,h9,aw,av,hK,b1,hA⟩;have am:=hK.nobj;by_cases af:i<l.length
 ·have aa:=Agz af;obtain⟨id,r,hd⟩:=Jl hE aa;have hb:=ae _ (Ain af);generalize l[i]=w at hd aa hb;have HG:Akc (C7 (l.take (i+1)) v=C7 (l.take i) v+if A7 w.ts v then 1 else 0):=by
   rw[Akc,Ahd,aa,Ais,C7,List.countP_append];simp[C7,List.countP_cons]
  clear aa;have ab:w.ts.length<=1000:=Aj6
  repeat' (first|refine Z1 ?_|(refine Z8 ?_;intro yb ya)|(refine Z4 ?_;clear ya yb)|(refine Z2 ?_ ?_<;>intro h ad<;>try exact Xp)|(refine Z5 ?_;refine Xi (Kc _ _ _ _ ab _) ?_;rintro _ _ ⟨rfl,ac⟩;(have ai:=ac.nobj;have ap:=((hK.new _).put hK.nobj _).trans ac))|refine Z3 ?_|exact Zt|(apply ya.out;clear ya yb))
  ·refine⟨l.length-(i+1),Aj6,i+1,a+1,?_⟩
   ((repeat' refine Zi ?_ ?_)<;>first|exact Xq|exact (by rw[Akc,HG.out,hA.out,if_pos (by assumption)])|exact Xs)
  ·refine⟨l.length-(i+1),Aj6,i+1,a,?_⟩
   ((repeat' refine Zi ?_ ?_)<;>first|exact Xq|exact (by rw[Akc,HG.out,hA.out,if_neg (by simp_all),Ag2])|exact Xs)
 ·have hil:i=l.length:=Aj6;subst hil;have hA:=hA.out;rw[Ag7]at hA;subst hA;have aj:decide ((C7 l v:Int)>1)=lb:=by rw[HL.out];congr 1;apply propext;omega
  repeat' (first|refine Z1 ?_|(refine Z8 ?_;intro yb ya)|(refine Z4 ?_;clear ya yb)|(refine Z2 ?_ ?_<;>intro h ad<;>try exact Xp)|refine Z3 ?_|exact Zt|(apply ya.out;clear ya yb))
  first|exact⟨_,rfl,rfl,hK⟩|exact⟨_,rfl,rfl⟩|exact⟨_,rfl,hK⟩|exact hK|exact⟨_,rfl,by rw[<-aj]⟩
def Ka (q:Qry):Nat->List Int->Bool
 |_,[]=>true
 |n,v::vs=>if C5 q v=true then (if 1<n+1\/C7 (q.parts.map (·.a)) v=1 then false else Ka q (n+1) vs)else Ka q n vs
def idleB (q:Qry)(a:De):Bool:=Ka q 0 (Cb [a])
theorem qL (l:List De)(v:Int):C7 l v<=l.length:=List.countP_le_length
theorem nE (q:Qry)(c:List AV)(a:De)(id:Nat)(ha:a.ts.length<=3)(hc:EQ q c)(hq:Ou q)(u:St):ACalls Tryz.prog 266 [ag c,ag [ic a.p,sl id a.ts.length (Ac a.ts)]] u fun r u'=>r=sc (.bool (idleB q a))/\Keep u u':=by
 have hL:=fun v u=>Pz q c v hc hq u;have az:=fun v u=>La q c v hc hq u;have ax:∀v,C7 (q.parts.map (·.a)) v<=64:=fun v=>by
  have h1:=qL (q.parts.map (·.a)) v;have h2:=hq.pl;simp at h1;omega
 have ay:∃x0 x1 x2 x3,c=[x0,x1,x2,x3]/\c.all flat=true:=by
  obtain⟨ih,ip,inn,pc,nc,rfl,-,-⟩:=hc;exact⟨_,_,_,_,rfl,rfl⟩
 obtain⟨x0,x1,x2,x3,rfl,a5⟩:=ay;have ad:=fun (i:Nat) (u:St)=>Hb [a] [ic a.p,sl id a.ts.length (Ac a.ts)] i (EL.single ⟨id,rfl⟩) (by simp;exact ha) (by simp) u;have aw:=E4 (l:=[a]) (by simp;exact ha);have HI:Akc (idleB q a=Ka q 0 (Cb [a])):=rfl;generalize idleB q a=ib at*
 generalize Cb [a]=vs at*
 have a3:=Bm vs;simp only[Ahy,Ahx]at aw ad;refine Z9 31 [.tmp 4] Tryz.func266 ?_
 repeat' (first|refine Z1 ?_|(refine Z8 ?_;intro yb ya)|(refine Z4 ?_;clear ya yb)|(refine Z2 ?_ ?_<;>intro h ae<;>try exact Xp)|(refine Z5 ?_;refine Xi (ad _ _) ?_;rintro _ _ ⟨⟨idv,rfl⟩,aa⟩;(have ao:=((((Keep.refl u).new _).new _).lay 1).trans aa;have ac:=aa.nobj;have ab:=aa.obj;(try simp only[Aw,Aa]at ac ab)))|refine Z3 ?_|exact Zt|(apply ya.out;clear ya yb))
 rename_i u1;have ai:=ab u.nobj Aj6;rw[Gl,Ag Aka,Ao]at ai;clear ab aa
 refine Af (fun m s u'=>∃i n:Nat,m=vs.length-i/\i<=vs.length/\s 2=ptr u.nobj 0/\s 5=ic n/\s 10=sl idv vs.length (Al vs)/\s 11=ic vs.length/\s 12=ic i/\Keep u u'/\u.nobj<u'.nobj/\u'.obj u.nobj=[x0,x1,x2,x3]/\n<=i/\Akc (ib=Ka q n (vs.drop i))) vs.length
  ⟨0,0,Aj6,Aj6,Aj8,Aj8,Aj8,Aj7,rfl,ao,Aj6,ai,by simp,by simpa[Akc]using HI.out⟩ ?_
 clear ao ai ac;rintro m s u' ⟨i,n,rfl,hi,h2,h5,bb,ba,a9,hK,a4,ob,b1,hI⟩;have a0:=hK.nobj;by_cases am:i<vs.length
 ·have ah:=Agz am;obtain⟨r,hd⟩:=Dl ah;have aj:Akc (vs.drop i=vs[i]::vs.drop (i+1)):=Ah0 am;generalize vs[i]=v at hd aj;clear ah;have a6:=ax v;have af:Akc (ib=if C5 q v=true then (if 1<n+1\/C7 (q.parts.map (·.a)) v=1 then false else Ka q (n+1) (vs.drop (i+1)))else Ka q n (vs.drop (i+1))):=by
   rw[Akc,hI.out,aj.out,Ka]
  clear hI aj;cases an:C5 q v with
  |false=>
   have af:Akc (ib=Ka q n (vs.drop (i+1))):=by rw[Akc,af.out,an];simp
   repeat' (first|refine Z1 ?_|(refine Z8 ?_;intro yb ya)|(refine Z4 ?_;clear ya yb)|(refine Z2 ?_ ?_<;>intro h ae<;>try exact Xp)|(refine Z5 ?_;refine Xi (hL _ _) ?_;rintro _ _ ⟨rfl,aa⟩;(have ac:=aa.nobj;have ab:=aa.obj;have ap:=hK.trans aa))|refine Z3 ?_|exact Zt|(apply ya.out;clear ya yb))
   refine⟨vs.length-(i+1),Aj6,i+1,n,?_⟩
   ((repeat' refine Zi ?_ ?_)<;>first|exact Xq|exact Xs)
  |true=>
   generalize a7:C7 (q.parts.map (·.a)) v=cn at*
   have af:Akc (ib=if 1<n+1\/cn=1 then false else Ka q (n+1) (vs.drop (i+1))):=by rw[Akc,af.out,an];simp
   repeat' (first|refine Z1 ?_|(refine Z8 ?_;intro yb ya)|(refine Z4 ?_;clear ya yb)|(refine Z2 ?_ ?_<;>intro h ae<;>try exact Xp)|(refine Z5 ?_;first|(refine Xi (hL _ _) ?_;rintro _ _ ⟨rfl,aa⟩;(have ac:=aa.nobj;have ab:=aa.obj;have ap:=hK.trans aa))|(refine Xi (az _ _) ?_;rintro _ _ ⟨rfl,ak⟩;(have av:=ak.nobj;have au:=ak.obj;have a8:=ap.trans ak)))|refine Z3 ?_|exact Zt|(apply ya.out;clear ya yb))
   ·have:ib=false:=by
     rw[af.out,if_pos];right;simp only[Aj4]at h;omega
    exact⟨_,rfl,by rw[this]⟩
   ·have:ib=Ka q (n+1) (vs.drop (i+1)):=by
     rw[af.out,if_neg];simp only[beq_eq_false_iff_ne,ne_eq]at h;omega
    refine⟨vs.length-(i+1),Aj6,i+1,n+1,?_⟩
    ((repeat' refine Zi ?_ ?_)<;>first|exact Xq|exact this|exact Xs)
   ·have:ib=false:=by
     rw[af.out,if_pos];left;omega
    exact⟨_,rfl,by rw[this]⟩
 ·have hil:i=vs.length:=Aj6;subst hil;have hI:ib=true:=by rw[hI.out,List.drop_length];rfl
  subst hI
  repeat' (first|refine Z1 ?_|(refine Z8 ?_;intro yb ya)|(refine Z4 ?_;clear ya yb)|(refine Z2 ?_ ?_<;>intro h ae<;>try exact Xp)|refine Z3 ?_|exact Zt|(apply ya.out;clear ya yb))
  first|exact⟨_,rfl,rfl,hK⟩|exact⟨_,rfl,rfl⟩|exact⟨_,rfl,hK⟩|exact hK
def Fb (q:Qry):Qry:={q with parts:=q.parts.eraseP fun p=>idleB q p.a}
theorem iY {α:Type}(f:α->Bool)(l:List α)(w:α):(l++[w]).eraseP f=if l.any f=true then l.eraseP f++[w]else if f w=true then l else l++[w]:=by
 by_cases h:l.any f=true
 ·rw[if_pos h];rw[Ahz]at h;obtain⟨x,hx,hf⟩:=h;exact List.eraseP_append_left hf _ hx
 ·rw[if_neg h];have h':∀b∈l,¬f b=true:=fun b hb hf=>h (Ahz.2 ⟨b,hb,hf⟩);rw[List.eraseP_append_right _ h'];by_cases hw:f w=true
  ·simp[hw]
  ·simp[hw]
theorem tI {α:Type}(f:α->Bool)(l:List α):(l.eraseP f).length<=l.length:=List.length_eraseP_le
theorem eJ {q:Qry}(h:Ou q):Ou (Fb q):=by
 have hs:∀p∈(Fb q).parts,p∈q.parts:=fun p hp=>List.mem_of_mem_eraseP hp;have hl:(Fb q).parts.length<=q.parts.length:=tI _ _;exact⟨h.hd,Ago hl h.pl,h.nl,fun p hp=>h.pa p (hs p hp),fun p hp=>h.pt p (hs p hp),fun p hp=>h.p3 p (hs p hp),h.na⟩
theorem iX (q:Qry)(c:List AV)(hc:EQ q c)(hq:Ou q)(u:St):ACalls Tryz.prog 256 [ag c] u fun r u'=>(∃c',r=ag c'/\EQ (Fb q) c')/\Keep u u':=by
 have au:=hc;obtain⟨ih,ip,inn,pc,nc,rfl,hP,hN⟩:=hc;have hpl:=EL.length Ee hP;have hl:=hq.pl;have ai:=fun (a:De) (id:Nat) (ha:a.ts.length<=3) u=>nE q _ a id ha au hq u;clear au;refine Z9 35 [.cell 2 191] Tryz.func256 ?_
 repeat' (first|refine Z1 ?_|(refine Z8 ?_;intro yb ya)|(refine Z4 ?_;clear ya yb)|refine Z3 ?_|exact Zt|(apply ya.out;clear ya yb))
 refine Af (fun m s u'=>∃(k i3:Nat) (d:Bool) (o:List Part) (xs:List AV),m=q.parts.length-k/\k<=q.parts.length/\s 1=ptr u.nobj 0/\s 2=ptr (u.nobj+1) 0/\s 3=ptr (u.nobj+2) 0/\s 4=sc (.bool d)/\s 13=sl ip q.parts.length pc/\s 14=ic q.parts.length/\s 15=ic k/\Keep u u'/\u.nobj+2<u'.nobj/\u'.obj u.nobj=[ic q.head.p,sl ih q.head.ts.length (Ac q.head.ts),sl ip q.parts.length pc,sl inn q.nots.length nc]/\u'.obj (u.nobj+1)=[ic 0,nilS,nilS,nilS]/\u'.obj (u.nobj+2)=[ic q.head.p,sl ih q.head.ts.length (Ac q.head.ts),sl i3 o.length xs,sl inn q.nots.length nc]/\Own u u' i3 o.length/\o.length<=k/\xs.length=o.length*3/\Akc (EL Mk o xs/\d=(q.parts.take k).any (fun p=>idleB q p.a)/\o=(q.parts.take k).eraseP fun p=>idleB q p.a)) q.parts.length
  ⟨0,1,false,[],[],Aj6,Aj6,Aj8,Aj8,Aj8,Aj8,Aj8,Aj8,rfl,Xs,Akb,?_,?_,?_,Own.nil _ _,by simp,by simp,⟨rfl,by simp,by simp⟩⟩ ?_
 ·rw[Ah Aj6,Ag Aka,Ag Aka,Ao]
 ·rw[Ah Aj6,Ag Aka,Bs Aka Aka]
 ·rw[show u.nobj+2=u.nobj+1+1 by omega,Aj];simp
 rintro m s u' ⟨k,i3,d,o,xs,rfl,hk,h1,h2,h3,h4,a9,a8,a7,hK,a6,a3,a0,az,hO,a5,av,hX⟩;have a4:=hK.nobj;by_cases ap:k<q.parts.length
 ·have aa:=Agz ap;obtain⟨id,idt,r,hd⟩:=E9 hP aa;have hb:=hq.pa _ (Ain ap);generalize q.parts[k]=w at hd aa hb;have HE:Akc ((q.parts.take (k+1)).eraseP (fun p=>idleB q p.a)=if (q.parts.take k).any (fun p=>idleB q p.a)=true then (q.parts.take k).eraseP (fun p=>idleB q p.a)++[w]else if idleB q w.a=true then q.parts.take k else q.parts.take k++[w]):=by
   rw[Akc,Ahd,aa,Ais,iY]
  have HA:Akc ((q.parts.take (k+1)).any (fun p=>idleB q p.a)=((q.parts.take k).any (fun p=>idleB q p.a)||idleB q w.a)):=by
   rw[Akc,Ahd,aa,Ais,Aji];simp
  have HN:Akc ((q.parts.take k).any (fun p=>idleB q p.a)=false->(q.parts.take k).eraseP (fun p=>idleB q p.a)=q.parts.take k):=fun h=>List.eraseP_of_forall_not (fun a ha hf=>by
   rw[Aim]at h
   exact h a ha hf)
  clear aa;have ai:=ai w.a id hb;cases d with
  |true=>
   have HX:Akc (EL Mk (o++[w]) (xs++[ic w.a.p,sl id w.a.ts.length (Ac w.a.ts),sl idt w.tups.length (Dc w.tups)])/\true=(q.parts.take (k+1)).any (fun p=>idleB q p.a)/\o++[w]=(q.parts.take (k+1)).eraseP fun p=>idleB q p.a):=by
    obtain⟨x1,x2,x3⟩:=hX.out;refine⟨EL.append x1 (EL.single ⟨id,idt,rfl⟩),?_,?_⟩
    ·rw[HA.out,<-x2];rfl
    ·rw[HE.out,if_pos x2.symm,x3]
   clear hX HE HA HN
   repeat' (first|refine Z1 ?_|(refine Z8 ?_;intro yb ya)|(refine Z4 ?_;clear ya yb)|(refine Z2 ?_ ?_<;>intro h ab<;>try exact Xp)|refine Z3 ?_|exact Zt|(apply ya.out;clear ya yb))
   refine Bg (by first|exact D2) ((hK.new _).put hK.nobj _) (Own.put (Own.new hO _) _ _) (by decide) (by rfl) (av) (by rfl) (by rfl) (by decide) Aj6 Aj6 ?_;intro idn un am an aj ad ao ak;simp only[Ab,Aa]at ad;have eob:∀p,p<u'.nobj->un.obj p=u'.obj p:=fun p hp=>by rw[aj,Ah Aj6,Ag Aj6]
   refine Z3 ?_
   repeat' (first|refine Z1 ?_|(refine Z8 ?_;intro yb ya)|(refine Z4 ?_;clear ya yb)|(refine Z2 ?_ ?_<;>intro h ab<;>try exact Xp)|refine Z3 ?_|exact Zt|(apply ya.out;clear ya yb))
   refine⟨q.parts.length-(k+1),Aj6,k+1,idn,true,o++[w],xs++[ic w.a.p,sl id w.a.ts.length (Ac w.a.ts),sl idt w.tups.length (Dc w.tups)],?_⟩
   ((repeat' refine Zi ?_ ?_)<;>first|exact Xq|exact (an.put Aj6 _)|exact (by simpa using Own.put am _ _)|exact HX|exact Xs)
  |false=>
   cases ah:idleB q w.a with
   |true=>
    have HX:Akc (EL Mk o xs/\true=(q.parts.take (k+1)).any (fun p=>idleB q p.a)/\o=(q.parts.take (k+1)).eraseP fun p=>idleB q p.a):=by
     obtain⟨x1,x2,x3⟩:=hX.out;refine⟨x1,?_,?_⟩
     ·rw[HA.out,<-x2,ah];rfl
     ·rw[HE.out,if_neg (by rw[<-x2];simp),if_pos ah,x3,HN.out x2.symm]
    clear hX HE HA HN;rw[ah]at ai
    repeat' (first|refine Z1 ?_|(refine Z8 ?_;intro yb ya)|(refine Z4 ?_;clear ya yb)|(refine Z2 ?_ ?_<;>intro h ab<;>try exact Xp)|(refine Z5 ?_;refine Xi (ai _) ?_;rintro _ _ ⟨rfl,ac⟩;(have af:=ac.nobj;have ae:=ac.obj;have ay:=((hK.new _).put hK.nobj _).trans ac;have ax:=Own.keep (Own.put (Own.new hO _) _ _) ac;simp only[Ab,Aa]at af ae))|refine Z3 ?_|exact Zt|(apply ya.out;clear ya yb))
    refine⟨q.parts.length-(k+1),Aj6,k+1,i3,true,o,xs,?_⟩
    ((repeat' refine Zi ?_ ?_)<;>first|exact Xq|exact HX|exact Xs)
   |false=>
    have HX:Akc (EL Mk (o++[w]) (xs++[ic w.a.p,sl id w.a.ts.length (Ac w.a.ts),sl idt w.tups.length (Dc w.tups)])/\false=(q.parts.take (k+1)).any (fun p=>idleB q p.a)/\o++[w]=(q.parts.take (k+1)).eraseP fun p=>idleB q p.a):=by
     obtain⟨x1,x2,x3⟩:=hX.out;refine⟨EL.append x1 (EL.single ⟨id,idt,rfl⟩),?_,?_⟩
     ·rw[HA.out,<-x2,ah];rfl
     ·rw[HE.out,if_neg (by rw[<-x2];simp),if_neg (by rw[ah];simp),x3,HN.out x2.symm]
    clear hX HE HA HN;rw[ah]at ai
    repeat' (first|refine Z1 ?_|(refine Z8 ?_;intro yb ya)|(refine Z4 ?_;clear ya yb)|(refine Z2 ?_ ?_<;>intro h ab<;>try exact Xp)|(refine Z6 ?_;intro idn un am an aj ad ao ak)|(refine Z5 ?_;refine Xi (ai _) ?_;rintro _ _ ⟨rfl,ac⟩;(have af:=ac.nobj;have ae:=ac.obj;have ay:=((hK.new _).put hK.nobj _).trans ac;have ax:=Own.keep (Own.put (Own.new hO _) _ _) ac;simp only[Ab,Aa]at af ae))|refine Z3 ?_|exact Zt|(apply ya.out;clear ya yb))
    refine⟨q.parts.length-(k+1),Aj6,k+1,idn,false,o++[w],xs++[ic w.a.p,sl id w.a.ts.length (Ac w.a.ts),sl idt w.tups.length (Dc w.tups)],?_⟩
    ((repeat' refine Zi ?_ ?_)<;>first|exact Xq|exact (an.put Aj6 _)|exact (by simpa using Own.put am _ _)|exact HX|exact Xs)
 ·have aw:k=q.parts.length:=Aj6;subst aw;obtain⟨x1,-,x3⟩:=hX.out;rw[Ag7]at x3
  repeat' (first|refine Z1 ?_|(refine Z8 ?_;intro yb ya)|(refine Z4 ?_;clear ya yb)|(refine Z2 ?_ ?_<;>intro h ab<;>try exact Xp)|refine Z3 ?_|exact Zt|(apply ya.out;clear ya yb))
  exact⟨_,rfl,⟨_,rfl,ih,i3,inn,xs,nc,by rw[Fb,<-x3],by rw[Fb,<-x3];exact x1,hN⟩,hK.put Aj6 _⟩
inductive TrimR (q:Qry):Qry->Prop where
 |refl:TrimR q q
 |tail {q':Qry}:TrimR q q'->TrimR q (Fb q')
theorem mY (q:Qry)(c:List AV)(hc:EQ q c)(hq:Ou q)(u:St):ACalls Tryz.prog 221 [ag c] u fun r u'=>(∃c' q',r=ag c'/\EQ q' c'/\Ou q'/\TrimR q q')/\Keep u u':=by
 obtain⟨ih,ip,inn,pc,nc,rfl,hP,hN⟩:=hc;have hl:=hq.pl;refine Z9 19 [.cell 2 191] Tryz.func221 ?_
 repeat' (first|refine Z1 ?_|(refine Z8 ?_;intro yb ya)|(refine Z4 ?_;clear ya yb)|refine Z3 ?_|exact Zt|(apply ya.out;clear ya yb))
 refine Af (fun m s u'=>∃(qk:Qry) (ck:List AV),s 1=ptr u.nobj 0/\s 2=ptr (u.nobj+1) 0/\s 3=ic m/\m<=65/\Keep u u'/\u.nobj+1<u'.nobj/\u'.obj u.nobj=ck/\u'.obj (u.nobj+1)=[ic 0,nilS,nilS,nilS]/\EQ qk ck/\Akc (Ou qk/\TrimR q qk)) (q.parts.length+1)
  ⟨q,_,Aj8,Aj8,Aj8,Aj6,Xs,Aka,rfl,?_,⟨ih,ip,inn,pc,nc,?_,hP,hN⟩,hq,.refl⟩ ?_
 ·rw[Bs Aka Aka]
 ·rw[Ag Aka,Ao]
 clear hP hN hl;rintro m s u' ⟨qk,ck,h1,h2,h3,hm,hK,ao,am,ak,hE,hQ⟩;have an:=hK.nobj;have ac:=hE;obtain⟨ih,ip,inn,pc,nc,rfl,hP,hN⟩:=hE;have hT:=fun u=>iX qk _ ac hQ.out.1 u;have aj:Akc _:=ac;clear ac;have hl:=hQ.out.1.pl;by_cases ap:qk.parts.length<m
 ·repeat' (first|refine Z1 ?_|(refine Z8 ?_;intro yb ya)|(refine Z4 ?_;clear ya yb)|(refine Z2 ?_ ?_<;>intro h aa<;>try exact Xp)|(refine Z5 ?_;refine Xi (hT _) ?_;rintro _ _ ⟨⟨_,rfl,ih2,ip2,inn2,pc2,nc2,rfl,af,ah⟩,ab⟩;(have ae:=ab.nobj;have ad:=ab.obj;have ai:=hK.trans ab))|refine Z3 ?_|exact Zt|(apply ya.out;clear ya yb))
  refine⟨qk.parts.length,Aj6,Fb qk,[ic (Fb qk).head.p,sl ih2 (Fb qk).head.ts.length (Ac (Fb qk).head.ts),sl ip2 (Fb qk).parts.length pc2,sl inn2 (Fb qk).nots.length nc2],?_⟩
  ((repeat' refine Zi ?_ ?_)<;>first|exact Xq|exact (ai.put Aj6 _)|exact (⟨ih2,ip2,inn2,pc2,nc2,rfl,af,ah⟩)|exact (⟨eJ hQ.out.1,.tail hQ.out.2⟩)|exact Xs)
 ·repeat' (first|refine Z1 ?_|(refine Z8 ?_;intro yb ya)|(refine Z4 ?_;clear ya yb)|(refine Z2 ?_ ?_<;>intro h aa<;>try exact Xp)|refine Z3 ?_|exact Zt|(apply ya.out;clear ya yb))
  exact⟨_,rfl,⟨_,qk,rfl,aj.out,hQ.out.1,hQ.out.2⟩,hK.put Aj6 _⟩
theorem Dr {t:Bb}(h:t.length=3):(Al t).length=3:=by rw[Bm,h]
theorem H9 {t:Bb}(h:t.length=3)(r:List AV):List.take 3 (Al t++r)=Al t:=by rw[List.take_append_of_le_length (by rw[Dr h];exact Agn _),Aia (by rw[Dr h];exact Agn _)]
theorem D4 {t:Bb}(h:t.length=3):List.take 3 (Al t)=Al t:=Aia (by rw[Dr h];exact Agn _)
theorem Hz {t:Bb}(h:t.length=3)(x y z:AV):lsp [x,y,z] 0 (Al t)=Al t:=by
 match t,h with
 |[a,b,c],_=>rfl
theorem Pw {t:Bb}(h:t.length=3)(r:List AV):3<=(Al t++r).length:=by rw[Aho,Dr h];omega
theorem Jr {t:Bb}{i:Nat}{x:Int}(h:t[i]?=some x):(Al t)[i]?=some (ic x):=by simp[Al,h]
def Sj (ts:List Tm)(t:Bb)(i:Nat):Bool:=match ts[i]?,t[i]? with
 |some (false,n),some x=>x==n
 |some (true,v),some x=>x==(t[(Iz ts v).toNat]?).getD 0
 |_,_=>false
def Lh (ts:List Tm)(t:Bb):Bool:=(List.range ts.length).all (Sj ts t)
theorem nF (p:Int)(ids:Nat)(ts:List Tm)(t:Bb)(ht:t.length=3)(hn:ts.length<=3)(u:St):ACalls Tryz.prog 185 [ag [ic p,sl ids ts.length (Ac ts)],ag (Al t)] u fun r u'=>r=sc (.bool (Lh ts t))/\Keep u u':=by
 have a0:=Ch ts;have a6:=Dr ht;have a5:=D4 ht;have aw:ts.length<=1000:=Aj6;have aj:∀i,i<ts.length->Sj ts t i=false->Lh ts t=false:=fun i hi h=>by
  unfold Lh;rw[Ajg];exact⟨i,by simpa using hi,by rw[h];simp⟩
 refine Z9 41 [.tmp 4] Tryz.func185 ?_
 repeat' (first|refine Z1 ?_|(refine Z8 ?_;intro yb ya)|(refine Z4 ?_;clear ya yb)|(refine Z2 ?_ ?_<;>intro h ac<;>try exact Xp)|refine Z3 ?_|exact Zt|(apply ya.out;clear ya yb))
 refine Af (fun m s u'=>∃i:Nat,m=ts.length-i/\i<=ts.length/\s 2=ptr u.nobj 0/\s 3=ptr (u.nobj+1) 0/\s 8=sl ids ts.length (Ac ts)/\s 9=ic ts.length/\s 10=ic i/\Keep u u'/\u.nobj+1<u'.nobj/\u'.obj u.nobj=[ic p,sl ids ts.length (Ac ts)]/\u'.obj (u.nobj+1)=Al t/\Akc (∀j,j<i->Sj ts t j=true)) ts.length
  ⟨0,Aj6,Aj6,Aj8,Aj8,Aj8,Aj8,rfl,Xs,Aka,?_,?_,fun j hj=>Aj6⟩ ?_
 ·rw[Ag Aka,Ao]
 ·rw[Bs Aka Aka]
 rintro m s u' ⟨i,rfl,hi,h2,h3,h8,h9,a7,hK,a3,av,ak,hA⟩;have az:=hK.nobj;by_cases an:i<ts.length
 ·have ab:=Agz an;obtain⟨r,hd⟩:=Cl ab;have af:t[i]?=some t[i]:=Agz Aj6;have ay:=Jr af;generalize ts[i]=w at hd ab;generalize t[i]=x at af ay;obtain⟨w1,w2⟩:=w;have ao:Akc (Sj ts t i=true->∀j,j<i+1->Sj ts t j=true):=fun h j hj=>by
   by_cases e:j=i
   ·subst e;exact h
   ·exact hA.out j Aj6
  have HB:Akc (Sj ts t i=false->Lh ts t=false):=aj i an;cases w1 with
  |false=>
   have HF:Akc (Sj ts t i=(x==w2)):=by rw[Akc,Sj,ab,af]
   clear ab af hA
   repeat' (first|refine Z1 ?_|(refine Z8 ?_;intro yb ya)|(refine Z4 ?_;clear ya yb)|(refine Z2 ?_ ?_<;>intro h ac<;>try exact Xp)|refine Z3 ?_|exact Zt|(apply ya.out;clear ya yb))
   refine A8 Ai (fun _=>True) [] [0,1,2,3,4,5,6,7,8,9,10] [] Aj9 (fun _ _ _ h=>h) ?_;intro yb ya
   repeat' (first|refine Z1 ?_|(refine Z8 ?_;intro yb ya)|(refine Z4 ?_;clear ya yb)|(refine Z2 ?_ ?_<;>intro h ac<;>try exact Xp)|refine Z3 ?_|exact Zt|(apply ya.out;clear ya yb))
   ·exact⟨_,rfl,by rw[HB.out (by rw[HF.out];simp only[bne_iff_ne,ne_eq]at h;simp[h])],(hK.new _).put hK.nobj _⟩
   ·have au:Keep u ((u'.new [sc (.bool false),ic 0]).put u'.nobj [sc (.bool false),ic w2]):=(hK.new _).put hK.nobj _;have kv:∀p,p<u'.nobj->((u'.new [sc (.bool false),ic 0]).put u'.nobj [sc (.bool false),ic w2]).obj p=u'.obj p:=fun p hp=>by rw[Ah Aj6,Ag Aj6]
    refine Bt (Q:=fun e s' u''=>e= .normal/\s' 39=sc (.bool false)/\s' 2=ptr u.nobj 0/\s' 3=ptr (u.nobj+1) 0/\s' 8=sl ids ts.length (Ac ts)/\s' 9=ic ts.length/\s' 10=ic i/\u''=(u'.new [sc (.bool false),ic 0]).put u'.nobj [sc (.bool false),ic w2]) ?_ ?_
    ·refine A1 Ai (fun _=>True) [] [0,1,2,3,4,5,6,7,8] 5 #[true,true,true,true,true,true,true,true,true,false,false,false,false,false] Aj9 (fun _ _ _ h=>by cases h.1) ?_;intro yb ya;refine Z3 ?_;refine ya.out _ ?_;clear ya yb;refine Am (i:=9) Aj9 ?_;refine Aq ?_;intro yb ya;refine Z3 ?_;refine ya.out _ _ ⟨kept_refl,?_⟩;clear ya yb;refine E5 [10,11,12,13] Aj9 Aj9 (fun _ _ _ h=>by cases h.1) (Agn _) (fun o ho _=>rfl) ?_;intro yb ya;refine Z3 ?_;refine ya.out _ _ ⟨rfl,?_⟩;simp[upd, *]
    ·rintro e s' u'' ⟨rfl,g39,g2,g3,g8,g9,g10,rfl⟩;refine E3 g39 ?_
     repeat' (first|refine Z1 ?_|(refine Z8 ?_;intro yb ya)|(refine Z4 ?_;clear ya yb)|refine Z3 ?_|exact Zt|(apply ya.out;clear ya yb))
     refine⟨ts.length-(i+1),Aj6,i+1,?_⟩
     ((repeat' refine Zi ?_ ?_)<;>first|exact Xq|exact (ao.out (by rw[HF.out];simpa using h))|exact Xs)
  |true=>
   obtain⟨pl,hpl,am⟩:∃k:Nat,k<ts.length/\Iz ts w2=(k:Int):=by
    have hm:=Ag1 ab;exact⟨ts.idxOf (true,w2),Ajj.2 hm,if_pos hm⟩
   have ai:t[pl]?=some t[pl]:=Agz Aj6;have ax:=Jr ai;generalize t[pl]=y at ai ax;have HF:Akc (Sj ts t i=(x==y)):=by rw[Akc,Sj,ab,af];simp[am,ai]
   clear ab af hA ai;have ap:=fun u=>F9 p ids ts w2 aw u;rw[am]at ap
   repeat' (first|refine Z1 ?_|(refine Z8 ?_;intro yb ya)|(refine Z4 ?_;clear ya yb)|(refine Z2 ?_ ?_<;>intro h ac<;>try exact Xp)|refine Z3 ?_|exact Zt|(apply ya.out;clear ya yb))
   refine A8 Ai (fun _=>True) [] [0,1,2,3,4,5,6,7,8,9,10] [] Aj9 (fun _ _ _ h=>h) ?_;intro yb ya
   repeat' (first|refine Z1 ?_|(refine Z4 ?_;clear ya yb)|(refine Z2 ?_ ?_<;>intro h ac<;>try exact Xp)|refine Z3 ?_|exact Zt|(apply ya.out;clear ya yb))
   have au:Keep u ((u'.new [sc (.bool false),ic 0]).put u'.nobj [sc (.bool true),ic w2]):=(hK.new _).put hK.nobj _;have kv:∀p,p<u'.nobj->((u'.new [sc (.bool false),ic 0]).put u'.nobj [sc (.bool true),ic w2]).obj p=u'.obj p:=fun p hp=>by rw[Ah Aj6,Ag Aj6]
   refine Bt (Q:=fun e s' u''=>e= .normal/\s' 39=sc (.bool (x !=y))/\s' 2=ptr u.nobj 0/\s' 3=ptr (u.nobj+1) 0/\s' 8=sl ids ts.length (Ac ts)/\s' 9=ic ts.length/\s' 10=ic i/\Keep ((u'.new [sc (.bool false),ic 0]).put u'.nobj [sc (.bool true),ic w2]) u'') ?_ ?_
   ·refine A1 Ai (fun _=>True) [] [0,1,2,3,4,5,6,7,8] 5 #[true,true,true,true,true,true,true,true,true,false,false,false,false,false] Aj9 (fun _ _ _ h=>by cases h.1) ?_;intro yb ya;refine Z3 ?_;refine ya.out _ ?_;clear ya yb;refine Am (i:=9) Aj9 ?_;refine Aq ?_;intro yb ya;refine Z3 ?_;refine ACalls.mono (ap _) ?_;rintro _ u5 ⟨rfl,ad⟩;refine Z3 ?_;refine ya.out _ _ ⟨Ap ad,?_⟩;clear ya yb;have ae:=ad.nobj;have aa:=ad.obj;simp only[Ab,Aa]at ae aa;have o5:u5.obj (u.nobj+1)=Al t:=by rw[aa _ Aj6,kv _ Aj6,ak]
    refine E5 [10,11,12,13] Aj9 Aj9 (fun _ _ _ h=>by cases h.1) ad.nobj (fun o ho _=>ad.ver o ho) ?_;intro yb ya;refine Z3 ?_;refine ya.out _ _ ⟨rfl,?_⟩;simp[upd, *]
   ·rintro e s' u'' ⟨rfl,g39,g2,g3,g8,g9,g10,ad⟩;have ae:=ad.nobj;have aa:=ad.obj;simp only[Ab,Aa]at ae aa;have a4:=au.trans ad;have o50:u''.obj u.nobj=[ic p,sl ids ts.length (Ac ts)]:=by rw[aa _ Aj6,kv _ Aj6,av]
    have o51:u''.obj (u.nobj+1)=Al t:=by rw[aa _ Aj6,kv _ Aj6,ak]
    clear aa kv;cases ah:x !=y with
    |true=>
     rw[ah]at g39;refine F3 g39 ?_
     repeat' (first|refine Z1 ?_|(refine Z8 ?_;intro yb ya)|(refine Z4 ?_;clear ya yb)|refine Z3 ?_|exact Zt|(apply ya.out;clear ya yb))
     exact⟨_,rfl,by rw[HB.out (by rw[HF.out];simp only[bne_iff_ne,ne_eq]at ah;simp[ah])]⟩
    |false=>
     rw[ah]at g39;refine E3 g39 ?_
     repeat' (first|refine Z1 ?_|(refine Z8 ?_;intro yb ya)|(refine Z4 ?_;clear ya yb)|refine Z3 ?_|exact Zt|(apply ya.out;clear ya yb))
     refine⟨ts.length-(i+1),Aj6,i+1,?_⟩
     ((repeat' refine Zi ?_ ?_)<;>first|exact Xq|exact (ao.out (by rw[HF.out];simpa using ah))|exact Xs)
 ·have hil:i=ts.length:=Aj6;subst hil;have hR:Lh ts t=true:=by
   unfold Lh;rw[Ag0];intro j hj;exact hA.out j (by simpa using hj)
  repeat' (first|refine Z1 ?_|(refine Z8 ?_;intro yb ya)|(refine Z4 ?_;clear ya yb)|(refine Z2 ?_ ?_<;>intro h ac<;>try exact Xp)|refine Z3 ?_|exact Zt|(apply ya.out;clear ya yb))
  first|exact⟨_,rfl,by rw[hR],hK⟩|exact⟨_,rfl,by rw[hR]⟩|exact⟨_,rfl,hK⟩|exact⟨_,rfl,rfl⟩|exact hK
theorem Gi {l:List Bb}{k:Nat}{t:Bb}(h3:T3 l)(h:l[k]?=some t):t.length=3/\∃r,(Dc l).drop (k*3)=Al t++r:=by
 obtain⟨a,b,c,r,rfl,e⟩:=pM h3 h;exact⟨rfl,r,by rw[e];rfl⟩
def H4 (t:Bb)(k:Int):Int:=(t[k.toNat]?).getD 0
theorem J2 {ts:List Tm}{v:Int}(h:A7 ts v=true):∃k:Nat,k<ts.length/\Iz ts v=(k:Int):=by
 have hm:(true,v)∈ts:=by simpa[A7]using h
 exact⟨ts.idxOf (true,v),Ajj.2 hm,if_pos hm⟩
def H5 (v n:Int)(p:Part):Part:=if A7 p.a.ts v=true then⟨⟨p.a.p,Bf v n p.a.ts⟩,p.tups.filter fun t=>H4 t (Iz p.a.ts v)==n⟩else p
theorem Dv {α:Type}(f:α->Bool)(l:List α)(x:α):(l++[x]).filter f=l.filter f++if f x=true then [x]else []:=by
 rw[Ajk];by_cases h:f x=true<;>simp[h]
theorem mZ (p:Part)(id idt:Nat)(v n:Int)(ha:p.a.ts.length<=3)(ht:p.tups.length<=5000)(h3:T3 p.tups)(u:St):ACalls Tryz.prog 227 [ag [ic p.a.p,sl id p.a.ts.length (Ac p.a.ts),sl idt p.tups.length (Dc p.tups)],ic v,ic n] u fun r u'=>(∃c',r=ag c'/\Mk (H5 v n p) c')/\Keep u u':=by
 have bf:=E6 h3;have aw:p.a.ts.length<=1000:=Aj6;have am:=fun u=>F9 p.a.p id p.a.ts v aw u;have a7:=fun u=>M8 p.a.p id p.a.ts v n aw u;cases hv:A7 p.a.ts v with
 |false=>
  have hp:Iz p.a.ts v= -1:=J1 (by simpa[A7]using hv);have HR:Akc (H5 v n p=p):=if_neg (by rw[hv];simp);rw[hp]at am;clear hp;refine Z9 44 [.cell 6 239] Tryz.func227 ?_
  repeat' (first|refine Z1 ?_|(refine Z8 ?_;intro yb ya)|(refine Z4 ?_;clear ya yb)|(refine Z2 ?_ ?_<;>intro h ac<;>try exact Xp)|(refine Z5 ?_;refine Xi (am _) ?_;rintro _ _ ⟨rfl,ad⟩;(have ae:=ad.nobj;have aa:=ad.obj;have an:=(((Keep.refl u).new _).new _).trans ad;simp only[Aa]at ae aa))|refine Z3 ?_|exact Zt|(apply ya.out;clear ya yb))
  exact⟨_,rfl,⟨_,rfl,by rw[HR.out];exact⟨id,idt,rfl⟩⟩,an.put Aj6 _⟩
 |true=>
  obtain⟨pl,hpl,au⟩:=J2 hv;have HR:Akc (H5 v n p=⟨⟨p.a.p,Bf v n p.a.ts⟩,p.tups.filter fun t=>H4 t pl==n⟩):=by rw[Akc,H5,if_pos hv,au]
  rw[au]at am;clear au;have a3:pl<3:=Aj6;have a4:((pl:Int)== -1)=false:=by simp
  refine Z9 44 [.cell 6 239] Tryz.func227 ?_
  repeat' (first|refine Z1 ?_|(refine Z8 ?_;intro yb ya)|(refine Z4 ?_;clear ya yb)|(refine Z2 ?_ ?_<;>intro h ac<;>try exact Xp)|(refine Z5 ?_;first|(refine Xi (am _) ?_;rintro _ _ ⟨rfl,ad⟩;(have ae:=ad.nobj;have aa:=ad.obj;have an:=(((Keep.refl u).new _).new _).trans ad;simp only[Aa]at ae aa))|(refine Xi (a7 _) ?_;rintro _ _ ⟨⟨idp,rfl⟩,ao⟩;(have ay:=ao.nobj;have ah:=ao.obj;have a9:=an.trans ao)))|refine Z3 ?_|exact Zt|(apply ya.out;clear ya yb))
  rename_i u1 u2;have o1:u2.obj (u.nobj+1)=[ic 0,nilS,nilS]:=by rw[ah _ Aj6,aa _ Aj6,Bs Aka Aka]
  clear aa ah an ad ao
  refine Af (fun m s u'=>∃(i i3:Nat) (o:List Bb) (xs:List AV),m=p.tups.length-i/\i<=p.tups.length/\s 2=ic n/\s 6=ptr (u.nobj+1) 0/\s 7=ic pl/\s 8=ptr u2.nobj 0/\s 25=sl idt p.tups.length (Dc p.tups)/\s 26=ic p.tups.length/\s 27=ic i/\Keep u u'/\u2.nobj<u'.nobj/\u'.obj (u.nobj+1)=[ic 0,nilS,nilS]/\u'.obj u2.nobj=[ic p.a.p,sl idp (Bf v n p.a.ts).length (Ac (Bf v n p.a.ts)),sl i3 o.length xs]/\Own u u' i3 o.length/\o.length<=i/\xs.length=o.length*3/\Akc (xs=Dc o/\o=(p.tups.take i).filter fun t=>H4 t pl==n)) p.tups.length
   ⟨0,1,[],[],Aj6,Aj6,by simp[upd,initS],Aj8,Aj8,Aj8,Aj8,Aj8,rfl,Xs,Akb,?_,?_,Own.nil _ _,by simp,by simp,⟨rfl,by simp⟩⟩ ?_
  ·rw[Ah Aj6,Ag Aj6,o1]
  ·rw[Aj];simp
  clear o1 a9;rintro m s u' ⟨i,i3,o,xs,rfl,hi,h2,h6,h7,h8,bm,bl,bi,hK,bh,bd,bc,hO,bg,az,hX⟩;have be:=hK.nobj;by_cases a5:i<p.tups.length
  ·have ab:=Agz a5;obtain⟨af,r,hd⟩:=Gi h3 ab;generalize p.tups[i]=t at hd ab af;have HF:Akc ((p.tups.take (i+1)).filter (fun t=>H4 t pl==n)=(p.tups.take i).filter (fun t=>H4 t pl==n)++if (H4 t pl==n)=true then [t]else []):=by
    rw[Akc,Ahd,ab,Ais,Dv]
   have ak:t[pl]?=some t[pl]:=Agz Aj6;have a6:=Jr ak;have ai:Akc (H4 t pl=t[pl]):=by simp[Akc,H4,ak]
   generalize t[pl]=x at ak a6 ai;clear ab ak;have f1:=Dr af;have f2:=H9 af;have f3:=D4 af;have f4:=Hz af;have f5:=Cn t;have f6:=Pw af;by_cases ap:x=n
   ·subst ap;have HX:Akc (xs++Al t=Dc (o++[t])/\o++[t]=(p.tups.take (i+1)).filter fun t=>H4 t pl==x):=by
     obtain⟨x1,x2⟩:=hX.out;refine⟨by rw[x1,Lp],?_⟩;rw[HF.out,if_pos (by rw[ai.out];simp),x2]
    clear hX HF ai
    repeat' (first|refine Z1 ?_|(refine Z8 ?_;intro yb ya)|(refine Z4 ?_;clear ya yb)|(refine Z2 ?_ ?_<;>intro h ac<;>try exact Xp)|refine Z3 ?_|exact Zt)
    refine Bg (by first|exact Fw) ((hK.new _).put hK.nobj _) (Own.put (Own.new hO _) _ _) (by decide) (by rfl) (az) (by rw[f1]) (f5) (by decide) Aj6 Aj6 ?_;intro idn un a8 ba av aj bb ax;simp only[Ab,Aa]at aj;have eob:∀p,p<u'.nobj->un.obj p=u'.obj p:=fun p hp=>by rw[av,Ah Aj6,Ag Aj6]
    refine Z3 ?_
    repeat' (first|refine Z1 ?_|(refine Z8 ?_;intro yb ya)|(refine Z4 ?_;clear ya yb)|refine Z3 ?_|exact Zt|(apply ya.out;clear ya yb))
    refine⟨p.tups.length-(i+1),Aj6,i+1,idn,o++[t],xs++Al t,?_⟩
    ((repeat' refine Zi ?_ ?_)<;>first|exact Xq|exact (ba.put Aj6 _)|exact (by simpa using Own.put a8 _ _)|exact HX|exact Xs)
   ·have a0:(x==n)=false:=by simpa using ap
    have HX:Akc (xs=Dc o/\o=(p.tups.take (i+1)).filter fun t=>H4 t pl==n):=by
     obtain⟨x1,x2⟩:=hX.out;refine⟨x1,?_⟩;rw[HF.out,if_neg (by rw[ai.out,a0];simp),x2,Ahh]
    clear hX HF ai ap
    repeat' (first|refine Z1 ?_|(refine Z8 ?_;intro yb ya)|(refine Z4 ?_;clear ya yb)|(refine Z2 ?_ ?_<;>intro h ac<;>try exact Xp)|refine Z3 ?_|exact Zt|(apply ya.out;clear ya yb))
    refine⟨p.tups.length-(i+1),Aj6,i+1,i3,o,xs,?_⟩
    ((repeat' refine Zi ?_ ?_)<;>first|exact Xq|exact (Own.put (Own.new hO _) _ _)|exact HX|exact Xs)
  ·have hil:i=p.tups.length:=Aj6;subst hil;obtain⟨x1,x2⟩:=hX.out;rw[Ag7]at x2
   repeat' (first|refine Z1 ?_|(refine Z8 ?_;intro yb ya)|(refine Z4 ?_;clear ya yb)|(refine Z2 ?_ ?_<;>intro h ac<;>try exact Xp)|refine Z3 ?_|exact Zt|(apply ya.out;clear ya yb))
   exact⟨_,rfl,⟨_,rfl,by rw[HR.out,<-x2];exact⟨idp,i3,by first|rfl|rw[x1]⟩⟩,hK.put Aj6 _⟩
def Fq (v n:Int)(a:De):De:=⟨a.p,Bf v n a.ts⟩
def C2 (v n:Int)(q:Qry):Qry:=⟨Fq v n q.head,q.parts.map (H5 v n),q.nots.map (Fq v n)⟩
theorem Aar {p:Part}{c:List AV}(h:Mk p c):∃x y z,c=[x,y,z]/\flat x=true/\flat y=true/\flat z=true:=by
 obtain⟨id,idt,rfl⟩:=h;exact⟨_,_,_,rfl,rfl,rfl,rfl⟩
theorem Vr (q:Qry)(c:List AV)(v n:Int)(hc:EQ q c)(hq:Ou q)(u:St):ACalls Tryz.prog 190 [ag c,ic v,ic n] u fun r u'=>(∃c',r=ag c'/\EQ (C2 v n q) c')/\Keep u u':=by
 obtain⟨ih,ip,inn,pc,nc,rfl,hP,hN⟩:=hc;have hpl:=EL.length Ee hP;have b0:=EL.length Ic hN;have hl:=hq.pl;have b1:=hq.nl;have hh:=hq.hd;have bi:q.head.ts.length<=1000:=Aj6;have bn:=fun u=>M8 q.head.p ih q.head.ts v n bi u;refine Z9 53 [.cell 6 191] Tryz.func190 ?_
 repeat' (first|refine Z1 ?_|(refine Z8 ?_;intro yb ya)|(refine Z4 ?_;clear ya yb)|(refine Z5 ?_;refine Xi (bn _) ?_;rintro _ _ ⟨⟨idh,rfl⟩,ay⟩;(have az:=ay.nobj;have ah:=ay.obj;have bq:=(((Keep.refl u).new _).new _).trans ay;simp only[Aa]at az ah))|refine Z3 ?_|exact Zt|(apply ya.out;clear ya yb))
 rename_i u1;have o0:u1.obj u.nobj=[ic q.head.p,sl ih q.head.ts.length (Ac q.head.ts),sl ip q.parts.length pc,sl inn q.nots.length nc]:=by rw[ah _ Aj6,Ag Aka,Ao]
 have o1:u1.obj (u.nobj+1)=[ic 0,nilS,nilS,nilS]:=by rw[ah _ Aj6,Bs Aka Aka]
 clear ah ay
 refine Af (fun m s u'=>∃(i i3:Nat) (xs:List AV),m=q.parts.length-i/\i<=q.parts.length/\s 1=ic v/\s 2=ic n/\s 3=ptr u.nobj 0/\s 6=ptr (u.nobj+1) 0/\s 7=ptr u1.nobj 0/\s 19=sl ip q.parts.length pc/\s 20=ic q.parts.length/\s 21=ic i/\Keep u u'/\u1.nobj<u'.nobj/\u'.obj u.nobj=[ic q.head.p,sl ih q.head.ts.length (Ac q.head.ts),sl ip q.parts.length pc,sl inn q.nots.length nc]/\u'.obj (u.nobj+1)=[ic 0,nilS,nilS,nilS]/\u'.obj u1.nobj=[ic q.head.p,sl idh (Bf v n q.head.ts).length (Ac (Bf v n q.head.ts)),sl i3 i xs,nilS]/\Own u u' i3 i/\xs.length=i*3/\Akc (EL Mk ((q.parts.take i).map (H5 v n)) xs)) q.parts.length
  ⟨0,1,[],Aj6,Aj6,by simp[upd,initS],by simp[upd,initS],Aj8,Aj8,Aj8,Aj8,Aj8,rfl,Xs,Akb,?_,?_,?_,Own.nil _ _,by simp,by simp[Akc,EL]⟩ ?_
 ·rw[Ah Aj6,Ag Aj6,o0]
 ·rw[Ah Aj6,Ag Aj6,o1]
 ·rw[Aj]
 clear o0 o1 bq;rintro m s u' ⟨i,i3,xs,rfl,hi,h1,h2,h3,h6,h7,bg,bf,be,hK,ai,aw,af,ae,hO,a5,hX⟩;have bb:=hK.nobj;by_cases aj:i<q.parts.length
 ·have aa:=Agz aj;obtain⟨id,idt,r,hd⟩:=E9 hP aa;have ax:=hq.pa _ (Ain aj);have bd:=hq.pt _ (Ain aj);have bc:=hq.p3 _ (Ain aj);generalize q.parts[i]=w at hd aa ax bd bc;have HG:Akc ((q.parts.take (i+1)).map (H5 v n)=(q.parts.take i).map (H5 v n)++[H5 v n w]):=by
   rw[Akc,Ahd,aa];simp
  clear aa;have a6:=fun u=>mZ w id idt v n ax bd bc u;have bz:Akc _:=hX;have a4:Akc _:=a5
  repeat' (first|refine Z1 ?_|(refine Z8 ?_;intro yb ya)|(refine Z4 ?_;clear ya yb)|(refine Z2 ?_ ?_<;>intro h am<;>try exact Xp)|refine Z3 ?_|exact Zt|(apply ya.out;clear ya yb))
  have ap:Keep u ((u'.new [ic 0,nilS,nilS]).put u'.nobj [ic w.a.p,sl id w.a.ts.length (Ac w.a.ts),sl idt w.tups.length (Dc w.tups)]):=(hK.new _).put hK.nobj _;have kv:∀p,p<u'.nobj->((u'.new [ic 0,nilS,nilS]).put u'.nobj [ic w.a.p,sl id w.a.ts.length (Ac w.a.ts),sl idt w.tups.length (Dc w.tups)]).obj p=u'.obj p:=fun p hp=>by rw[Ah Aj6,Ag Aj6]
  refine Bt (Q:=fun e s' u''=>e= .normal/\s' 1=ic v/\s' 2=ic n/\s' 3=ptr u.nobj 0/\s' 6=ptr (u.nobj+1) 0/\s' 7=ptr u1.nobj 0/\s' 19=sl ip q.parts.length pc/\s' 20=ic q.parts.length/\s' 21=ic i/\Keep u u''/\u1.nobj<u''.nobj/\u''.obj u.nobj=[ic q.head.p,sl ih q.head.ts.length (Ac q.head.ts),sl ip q.parts.length pc,sl inn q.nots.length nc]/\u''.obj (u.nobj+1)=[ic 0,nilS,nilS,nilS]/\∃idn c',u''.obj u1.nobj=[ic q.head.p,sl idh (Bf v n q.head.ts).length (Ac (Bf v n q.head.ts)),sl idn (i+1) (xs++c'),nilS]/\Own u u'' idn (i+1)/\Mk (H5 v n w) c') ?_ ?_
  ·refine A1 Ai (fun _=>True) [9] [0,1,2,3,4] 5 #[true,true,true,true,true,false,false,false,false,false] Aj9 (fun _ _ _ h=>by cases h.1) ?_;intro yb ya;refine Z3 ?_;refine ya.out _ ?_;clear ya yb;refine Am (i:=5) Aj9 ?_;refine Aq ?_;intro yb ya;refine Z3 ?_;refine ACalls.mono (a6 _) ?_;rintro _ u5 ⟨⟨c',rfl,ao⟩,ab⟩;refine Z3 ?_;refine ya.out _ _ ⟨Ap ab,?_⟩;clear ya yb;obtain⟨x,y,z,rfl,fx1,fx2,fx3⟩:=Aar ao;have ak:=ab.nobj;have ac:=ab.obj;simp only[Ab,Aa]at ak ac;have a9:=ap.trans ab;have a7:=Own.keep (Own.put (Own.new hO [ic 0,nilS,nilS]) u'.nobj [ic w.a.p,sl id w.a.ts.length (Ac w.a.ts),sl idt w.tups.length (Dc w.tups)]) ab;refine Am (i:=6) Aj9 ?_;refine Aq ?_;intro yb ya;refine Z3 ?_;refine ya.out _ _ ⟨Ap (ab.lay 1),?_⟩;clear ya yb;refine Am (i:=7) Aj9 ?_;refine Aq ?_;intro yb ya;refine Z3 ?_;refine Bg (by first|exact Er|exact D2) a9 a7 (by decide) (by rfl) a5 (by rfl) (by simp[fx1,fx2,fx3]) (by decide) Aj6 Aj6 ?_;intro idn un a8 ba an av ad au;refine Z3 ?_;refine ya.out _ _ ⟨fun _ o ho _=>by rw[ad];exact ab.ver o ho,?_⟩;clear ya yb;refine Am (i:=8) Aj9 ?_;refine Aq ?_;intro yb ya;refine Z3 ?_;refine ya.out _ _ ⟨fun _ o ho _=>by rw[ad];exact ab.ver o ho,?_⟩;clear ya yb;have en:∀p,p<u'.nobj->un.obj p=u'.obj p:=fun p hp=>by rw[an,ac _ Aj6,kv _ hp]
   have en1:un.obj u1.nobj=[ic q.head.p,sl idh (Bf v n q.head.ts).length (Ac (Bf v n q.head.ts)),sl i3 i xs,nilS]:=by rw[en _ ai,ae]
   refine Am (i:=9) Aj9 ?_;refine Aq ?_;intro yb ya;refine Z3 ?_;refine ya.out _ _ ⟨Br rfl,?_⟩;clear ya yb;refine A2 Aj9 ⟨rfl,?_⟩;simp only[upd,↓reduceIte,Nat.reduceEqDiff,h1,h2,h3,h6,h7,bg,bf,be,true_and];refine⟨ba.put Aj6 _,by simp only[Ab];omega,?_,?_,idn,[x,y,z],?_,Own.put a8 _ _,ao⟩
   ·rw[Ah Aj6,en _ Aj6,aw]
   ·rw[Ah Aj6,en _ Aj6,af]
   ·rw[Aj]
  ·clear kv ap hX hO a5 aw af ae ai;rintro e s' u'' ⟨rfl,g1,g2,g3,g6,g7,g19,g20,g21,hK,ai,aw,af,idn,c',ae,hO,ao⟩;have HX:Akc (EL Mk ((q.parts.take (i+1)).map (H5 v n)) (xs++c')):=by rw[Akc,HG.out];exact EL.append bz.out (EL.single ao)
   have bm:=Ee _ _ ao
   repeat' (first|refine Z1 ?_|(refine Z8 ?_;intro yb ya)|(refine Z4 ?_;clear ya yb)|refine Z3 ?_|exact Zt|(apply ya.out;clear ya yb))
   refine⟨q.parts.length-(i+1),Aj6,i+1,idn,xs++c',?_⟩
   ((repeat' refine Zi ?_ ?_)<;>first|exact Xq|exact HX|exact (by rw[Aho,bm,a4.out];omega)|exact Xs)
 ·have hil:i=q.parts.length:=Aj6;subst hil;rw[Ag7]at hX;generalize hM:q.parts.length=M at*
  have HM:Akc _:=hM;clear hM aj hi
  repeat' (first|refine Z1 ?_|(refine Z8 ?_;intro yb ya)|(refine Z4 ?_;clear ya yb)|(refine Z2 ?_ ?_<;>intro h am<;>try exact Xp)|refine Z3 ?_|exact Zt|(apply ya.out;clear ya yb))
  refine Af (fun m s u'=>∃(j i4:Nat) (ys:List AV),m=q.nots.length-j/\j<=q.nots.length/\s 1=ic v/\s 2=ic n/\s 6=ptr (u.nobj+1) 0/\s 7=ptr u1.nobj 0/\s 36=sl inn q.nots.length nc/\s 37=ic q.nots.length/\s 38=ic j/\Keep u u'/\u1.nobj<u'.nobj/\u'.obj (u.nobj+1)=[ic 0,nilS,nilS,nilS]/\u'.obj u1.nobj=[ic q.head.p,sl idh (Bf v n q.head.ts).length (Ac (Bf v n q.head.ts)),sl i3 M xs,sl i4 j ys]/\Own u u' i4 j/\ys.length=j*2/\Akc (EL Mm ((q.nots.take j).map (Fq v n)) ys)) q.nots.length
   ⟨0,1,[],Aj6,Aj6,Aj7,Aj7,Aj7,Aj7,Aj7,Aj7,Aj8,hK,ai,af,by rw[ae],Own.nil _ _,by simp,by simp[Akc,EL]⟩ ?_
  clear h1 h2 h3 h6 h7 bg bf be hK ai aw af ae hO bb;rintro m s u' ⟨j,i4,ys,rfl,hj,h1,h2,h6,h7,bv,bu,br,hK,ai,af,ae,hO,a3,hY⟩;have bb:=hK.nobj;by_cases aj:j<q.nots.length
  ·have aa:=Agz aj;obtain⟨id,r,hd⟩:=Jl hN aa;have ax:=hq.na _ (Ain aj);generalize q.nots[j]=w at hd aa ax;have HG:Akc ((q.nots.take (j+1)).map (Fq v n)=(q.nots.take j).map (Fq v n)++[Fq v n w]):=by
    rw[Akc,Ahd,aa];simp
   clear aa;have bh:w.ts.length<=1000:=Aj6;have a6:=fun u=>M8 w.p id w.ts v n bh u;have bw:Akc _:=hY;have a0:Akc _:=a3
   repeat' (first|refine Z1 ?_|(refine Z8 ?_;intro yb ya)|(refine Z4 ?_;clear ya yb)|(refine Z2 ?_ ?_<;>intro h am<;>try exact Xp)|refine Z3 ?_|exact Zt|(apply ya.out;clear ya yb))
   have ap:Keep u ((u'.new [ic 0,nilS]).put u'.nobj [ic w.p,sl id w.ts.length (Ac w.ts)]):=(hK.new _).put hK.nobj _;have kv:∀p,p<u'.nobj->((u'.new [ic 0,nilS]).put u'.nobj [ic w.p,sl id w.ts.length (Ac w.ts)]).obj p=u'.obj p:=fun p hp=>by rw[Ah Aj6,Ag Aj6]
   refine Bt (Q:=fun e s' u''=>e= .normal/\s' 1=ic v/\s' 2=ic n/\s' 6=ptr (u.nobj+1) 0/\s' 7=ptr u1.nobj 0/\s' 36=sl inn q.nots.length nc/\s' 37=ic q.nots.length/\s' 38=ic j/\Keep u u''/\u1.nobj<u''.nobj/\u''.obj (u.nobj+1)=[ic 0,nilS,nilS,nilS]/\∃idn id',u''.obj u1.nobj=[ic q.head.p,sl idh (Bf v n q.head.ts).length (Ac (Bf v n q.head.ts)),sl i3 M xs,sl idn (j+1) (ys++[ic w.p,sl id' (Bf v n w.ts).length (Ac (Bf v n w.ts))])]/\Own u u'' idn (j+1)) ?_ ?_
   ·refine A1 Ai (fun _=>True) [9] [0,1,2,3,4] 5 #[true,true,true,true,true,false,false,false,false,false] Aj9 (fun _ _ _ h=>by cases h.1) ?_;intro yb ya;refine Z3 ?_;refine ya.out _ ?_;clear ya yb;refine Am (i:=5) Aj9 ?_;refine Aq ?_;intro yb ya;refine Z3 ?_;refine ACalls.mono (a6 _) ?_;rintro _ u5 ⟨⟨id',rfl⟩,ab⟩;refine Z3 ?_;refine ya.out _ _ ⟨Ap ab,?_⟩;clear ya yb;have ak:=ab.nobj;have ac:=ab.obj;simp only[Ab,Aa]at ak ac;have a9:=ap.trans ab;have a7:=Own.keep (Own.put (Own.new hO [ic 0,nilS]) u'.nobj [ic w.p,sl id w.ts.length (Ac w.ts)]) ab;refine Am (i:=6) Aj9 ?_;refine Aq ?_;intro yb ya;refine Z3 ?_;refine ya.out _ _ ⟨Ap (ab.lay 1),?_⟩;clear ya yb;refine Am (i:=7) Aj9 ?_;refine Aq ?_;intro yb ya;refine Z3 ?_;refine Bg (by first|exact Er|exact D2) a9 a7 (by decide) (by rfl) a3 (by rfl) (by rfl) (by decide) Aj6 Aj6 ?_;intro idn un a8 ba an av ad au;refine Z3 ?_;refine ya.out _ _ ⟨fun _ o ho _=>by rw[ad];exact ab.ver o ho,?_⟩;clear ya yb;refine Am (i:=8) Aj9 ?_;refine Aq ?_;intro yb ya;refine Z3 ?_;refine ya.out _ _ ⟨fun _ o ho _=>by rw[ad];exact ab.ver o ho,?_⟩;clear ya yb;have en:∀p,p<u'.nobj->un.obj p=u'.obj p:=fun p hp=>by rw[an,ac _ Aj6,kv _ hp]
    have en1:un.obj u1.nobj=[ic q.head.p,sl idh (Bf v n q.head.ts).length (Ac (Bf v n q.head.ts)),sl i3 M xs,sl i4 j ys]:=by rw[en _ ai,ae]
    refine Am (i:=9) Aj9 ?_;refine Aq ?_;intro yb ya;refine Z3 ?_;refine ya.out _ _ ⟨Br rfl,?_⟩;clear ya yb;refine A2 Aj9 ⟨rfl,?_⟩;simp only[upd,↓reduceIte,Nat.reduceEqDiff,h1,h2,h6,h7,bv,bu,br,true_and];refine⟨ba.put Aj6 _,by simp only[Ab];omega,?_,idn,id',?_,Own.put a8 _ _⟩
    ·rw[Ah Aj6,en _ Aj6,af]
    ·rw[Aj]
   ·clear kv ap hY hO a3 af ae ai;rintro e s' u'' ⟨rfl,g1,g2,g6,g7,g36,g37,g38,hK,ai,af,idn,id',ae,hO⟩;have HX:Akc (EL Mm ((q.nots.take (j+1)).map (Fq v n)) (ys++[ic w.p,sl id' (Bf v n w.ts).length (Ac (Bf v n w.ts))])):=by rw[Akc,HG.out];exact EL.append bw.out (EL.single ⟨id',rfl⟩)
    repeat' (first|refine Z1 ?_|(refine Z8 ?_;intro yb ya)|(refine Z4 ?_;clear ya yb)|refine Z3 ?_|exact Zt|(apply ya.out;clear ya yb))
    refine⟨q.nots.length-(j+1),Aj6,j+1,idn,ys++[ic w.p,sl id' (Bf v n w.ts).length (Ac (Bf v n w.ts))],?_⟩
    ((repeat' refine Zi ?_ ?_)<;>first|exact Xq|exact HX|exact (by rw[Aho,a0.out];simp;omega)|exact Xs)
  ·have bl:j=q.nots.length:=Aj6;subst bl;rw[Ag7]at hY;have bp:(q.parts.map (H5 v n)).length=M:=by rw[Ai1];exact HM.out
   have bo:(q.nots.map (Fq v n)).length=q.nots.length:=by rw[Ai1]
   repeat' (first|refine Z1 ?_|(refine Z8 ?_;intro yb ya)|(refine Z4 ?_;clear ya yb)|(refine Z2 ?_ ?_<;>intro h am<;>try exact Xp)|refine Z3 ?_|exact Zt|(apply ya.out;clear ya yb))
   exact⟨_,rfl,⟨_,rfl,idh,i3,i4,xs,ys,by simp only[C2,Fq];rw[bp,bo],hX.out,hY.out⟩,hK.put Aj6 _⟩
end Go.Proofs.YtmoeoppbmhfbpabGreatDoorL
