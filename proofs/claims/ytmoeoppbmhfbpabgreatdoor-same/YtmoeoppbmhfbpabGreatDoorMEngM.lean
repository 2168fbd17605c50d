import Derived.Test.YtmoeoppbmhfbpabGreatDoorMEngL
set_option maxHeartbeats 32000000
set_option maxRecDepth 100000
set_option linter.all false
namespace Go.Proofs.YtmoeoppbmhfbpabGreatDoorL
open Go.Abs
theorem tK (q:Qry)(c:List AV)(hc:EQ q c)(hq:Ou q)(hN:QN q)(σ:St):ACalls Tryz.prog 220 [ag c] σ fun r σ'=>(∃c' q' qp,r=ag c'/\EQ q' c'/\NarS q qp/\NarS q q'/\q'=kL qp (Cb (atomsQ qp))/\Cq qp.parts<=Cq q'.parts)/\Keep σ σ':=by
 have hS:=fun σ=>Vq q c hc hq σ;have bd:=fG hq;have HC:Akc (EQ q c):=hc;obtain⟨ih0,ip0,in0,pc0,nc0,rfl,-,-⟩:=hc;refine Z9 32 [.cell 2 191] Tryz.func220 ?_
 repeat' (first|refine Z1 ?_|(refine Z8 ?_;intro yb ya)|(refine Z4 ?_;clear ya yb)|(refine Z5 ?_;refine Xi (hS _) ?_;rintro _ _ ⟨rfl,ad⟩;(have ac:=ad.nobj;have aa:=ad.obj;have ab:=(((Keep.refl σ).new _).new _).trans ad;simp only[Aa]at ac aa))|refine Z3 ?_|exact Zt|(apply ya.out;clear ya yb))
 rename_i σ1;have o0:σ1.obj σ.nobj=[ic q.head.p,sl ih0 q.head.ts.length (Ac q.head.ts),sl ip0 q.parts.length pc0,sl in0 q.nots.length nc0]:=by rw[aa _ Aj6,Ag Aka,Ao]
 have o1:σ1.obj (σ.nobj+1)=[ic 0,nilS,nilS,nilS]:=by rw[aa _ Aj6,Bs Aka Aka]
 clear aa ad
 refine Af (fun m s σ'=>∃(qk:Qry) (ck:List AV),s 1=ptr σ.nobj 0/\s 2=ptr (σ.nobj+1) 0/\s 3=ic m/\m<=320001/\Keep σ σ'/\σ.nobj+1<σ'.nobj/\σ'.obj σ.nobj=ck/\σ'.obj (σ.nobj+1)=[ic 0,nilS,nilS,nilS]/\Akc (EQ qk ck/\NarS q qk/\(Cq qk.parts<m\/∃qp,NarS q qp/\qk=kL qp (Cb (atomsQ qp))/\Cq qp.parts=m))) (Cq q.parts+1)
  ⟨q,_,Aj8,Aj8,Aj8,Aj6,ab,Aj6,o0,o1,HC.out,.refl,.inl Aj6⟩ ?_
 clear o0 o1 ab ac hS bd HC;rintro m s σ' ⟨qk,ck,h1,h2,h3,hm,hK,be,ax,aw,hQ⟩;have bz:=hK.nobj;have ah:=hQ.out.2.1.ok hq;have bf:=hQ.out.2.1.n hN;have hS:=fun σ=>Vq qk ck hQ.out.1 ah σ;have bg:=fun σ=>Jk qk ck hQ.out.1 ah σ;have bd:=fG ah;obtain⟨ihk,ipk,ink,pck,nck,rfl,-,-⟩:=hQ.out.1;have bb:=Mg ah;have b1:=I6 ah;have a7:=fun (cs:List AV) (i:Nat) (hE:EL Mm (atomsQ qk) cs) (σ:St)=>Hb (atomsQ qk) cs i hE bb Aj6 σ;have bm:=E4 bb;have b5:Akc (Ou qk/\QN qk):=⟨ah,bf⟩;by_cases bo:Cq qk.parts<m
 ·generalize bc:Cb (atomsQ qk)=vs at a7 bm;have bv:Akc _:=bc;clear bc bb bf ah;generalize a4:Cq qk.parts=sz at*
  have bw:Akc _:=a4;clear a4
  repeat' (first|refine Z1 ?_|(refine Z8 ?_;intro yb ya)|(refine Z4 ?_;clear ya yb)|(refine Z2 ?_ ?_<;>intro h af<;>try exact Xp)|(refine Z5 ?_;first|(refine Xi (hS _) ?_;rintro _ _ ⟨rfl,ad⟩;(have ac:=ad.nobj;have aa:=ad.obj;have ab:=hK.trans ad;clear hK ad;have hK:=ab;clear ab))|(refine Xi (bg _) ?_;rintro _ _ ⟨ida,cs,rfl,hE,av⟩;(have a3:=av.nobj;have an:=av.obj;have ab:=hK.trans av;clear av hK;have hK:=ab;clear ab;have ao:=a7 cs ida hE))|(refine Xi (ao _) ?_;rintro _ _ ⟨⟨idv,rfl⟩,au⟩;(have a0:=au.nobj;have am:=au.obj;have ab:=hK.trans au;clear au hK;have hK:=ab;clear ab)))|refine Z3 ?_|exact Zt|(apply ya.out;clear ya yb))
  rename_i σa kno2a kob2a σb σc σd;have b0:=Bm vs;have ech:∀p,p<σ'.nobj->σd.obj p=σ'.obj p:=fun p hp=>by rw[am _ Aj6,an _ Aj6,aa _ Aj6,kob2a _ Aj6]
  refine Af (fun m' s σ2=>∃(j:Nat) (qj:Qry) (cj:List AV),m'=vs.length-j/\j<=vs.length/\s 1=ptr σ.nobj 0/\s 2=ptr (σ.nobj+1) 0/\s 3=ic sz/\s 17=sl idv vs.length (Al vs)/\s 18=ic vs.length/\s 19=ic j/\Keep σ σ2/\σ.nobj+1<σ2.nobj/\σ2.obj σ.nobj=cj/\σ2.obj (σ.nobj+1)=[ic 0,nilS,nilS,nilS]/\Akc (EQ qj cj/\NarS q qj/\qj=kL qk (vs.take j))) vs.length
   ⟨0,qk,_,Aj6,Aj6,Aj7,Aj7,Aj7,Aj8,Aj8,rfl,hK,Aj6,rfl,by rw[ech _ Aj6,aw],by rw[ech _ Aj6,ax];exact hQ.out.1,hQ.out.2.1,by simp[kL]⟩ ?_
  clear ech am an aa kob2a hK ax aw h1 h2 h3 be hS bg a7 ao hE a0 a3 ac kno2a;rintro m' s σ2 ⟨j,qj,cj,rfl,hj,h1,h2,h3,b4,b3,b2,hK,be,ax,aw,hJ⟩;have ac:=hK.nobj;have a5:=hJ.out.2.1.ok hq;have bn:=hJ.out.2.1.n hN;have ak:=fun v σ=>La qj cj v hJ.out.1 a5 σ;have a8:=fun v σ=>jC qj cj v hJ.out.1 a5 bn σ;have ap:∀v,C7 (qj.parts.map (·.a)) v<=64:=fun v=>by
   have h1:=qL (qj.parts.map (·.a)) v;have h2:=a5.pl;simp at h1;omega
  have bh:Akc (EQ qj cj):=hJ.out.1;obtain⟨ihj,ipj,inj,pcj,ncj,rfl,-,-⟩:=hJ.out.1;by_cases a6:j<vs.length
  ·have ae:=Agz a6;obtain⟨r,hd⟩:=Dl ae;generalize vs[j]=v at hd ae;have HR:Akc (kL qk (vs.take (j+1))=Qs qj v):=by
    rw[Akc,Ahd,ae,Ais,kL,Aix,hJ.out.2.2];rfl
   clear ae;have ak:=ak v;have a8:=a8 v;have ap:=ap v;by_cases aj:1<C7 (qj.parts.map (·.a)) v
   ·have HR:Akc (kL qk (vs.take (j+1))=Fl qj v):=by rw[Akc,HR.out,Qs,if_pos aj]
    generalize C7 (qj.parts.map (·.a)) v=cn at ak aj ap;have hb:decide ((cn:Int)>1)=true:=by simp;omega
    clear aj
    repeat' (first|refine Z1 ?_|(refine Z8 ?_;intro yb ya)|(refine Z4 ?_;clear ya yb)|(refine Z2 ?_ ?_<;>intro h af<;>try exact Xp)|(refine Z5 ?_;first|(refine Xi (ak _) ?_;rintro _ _ ⟨rfl,ai⟩;(have az:=ai.nobj;have ay:=ai.obj;have ab:=hK.trans ai))|(refine Xi (a8 _) ?_;rintro _ _ ⟨⟨_,rfl,ih6,ip6,in6,pc6,nc6,rfl,bq,br⟩,a9⟩;(have bl:=a9.nobj;have bi:=a9.obj;have bu:=ab.trans a9)))|refine Z3 ?_|exact Zt|(apply ya.out;clear ya yb))
    refine⟨vs.length-(j+1),Aj6,j+1,Fl qj v,[ic (Fl qj v).head.p,sl ih6 (Fl qj v).head.ts.length (Ac (Fl qj v).head.ts),sl ip6 (Fl qj v).parts.length pc6,sl in6 (Fl qj v).nots.length nc6],?_⟩
    ((repeat' refine Zi ?_ ?_)<;>first|exact Xq|exact (bu.put Aj6 _)|exact (⟨⟨ih6,ip6,in6,pc6,nc6,rfl,bq,br⟩,.tail v hJ.out.2.1,HR.out.symm⟩)|exact Xs)
   ·have HR:Akc (kL qk (vs.take (j+1))=qj):=by rw[Akc,HR.out,Qs,if_neg aj]
    generalize C7 (qj.parts.map (·.a)) v=cn at ak aj ap;have hb:decide ((cn:Int)>1)=false:=by simp;omega
    clear aj
    repeat' (first|refine Z1 ?_|(refine Z8 ?_;intro yb ya)|(refine Z4 ?_;clear ya yb)|(refine Z2 ?_ ?_<;>intro h af<;>try exact Xp)|(refine Z5 ?_;refine Xi (ak _) ?_;rintro _ _ ⟨rfl,ai⟩;(have az:=ai.nobj;have ay:=ai.obj;have ab:=hK.trans ai))|refine Z3 ?_|exact Zt|(apply ya.out;clear ya yb))
    refine⟨vs.length-(j+1),Aj6,j+1,qj,[ic qj.head.p,sl ihj qj.head.ts.length (Ac qj.head.ts),sl ipj qj.parts.length pcj,sl inj qj.nots.length ncj],?_⟩
    ((repeat' refine Zi ?_ ?_)<;>first|exact Xq|exact (⟨bh.out,hJ.out.2.1,HR.out.symm⟩)|exact Xs)
  ·have bp:j=vs.length:=Aj6;subst bp;have ba:=hJ.out.2.2;rw[Ag7]at ba
   have HF:Akc (EQ qj [ic qj.head.p,sl ihj qj.head.ts.length (Ac qj.head.ts),sl ipj qj.parts.length pcj,sl inj qj.nots.length ncj]/\NarS q qj/\(Cq qj.parts<sz\/∃qp,NarS q qp/\qj=kL qp (Cb (atomsQ qp))/\Cq qp.parts=sz)):=
    ⟨bh.out,hJ.out.2.1,.inr ⟨qk,hQ.out.2.1,by rw[bv.out];exact ba,bw.out⟩⟩
   clear ba
   repeat' (first|refine Z1 ?_|(refine Z8 ?_;intro yb ya)|(refine Z4 ?_;clear ya yb)|(refine Z2 ?_ ?_<;>intro h af<;>try exact Xp)|refine Z3 ?_|exact Zt|(apply ya.out;clear ya yb))
   refine⟨sz,Aj6,qj,[ic qj.head.p,sl ihj qj.head.ts.length (Ac qj.head.ts),sl ipj qj.parts.length pcj,sl inj qj.nots.length ncj],?_⟩
   ((repeat' refine Zi ?_ ?_)<;>first|exact Xq|exact HF|exact Xs)
 ·have hR:∃qp,NarS q qp/\qk=kL qp (Cb (atomsQ qp))/\Cq qp.parts<=Cq qk.parts:=by
   rcases hQ.out.2.2 with h|⟨qp,h1,h2,h3⟩
   ·exact absurd h bo
   ·exact⟨qp,h1,h2,Aj6⟩
  have HR:Akc _:=hR;clear hR;generalize a4:Cq qk.parts=sz at*
  repeat' (first|refine Z1 ?_|(refine Z8 ?_;intro yb ya)|(refine Z4 ?_;clear ya yb)|(refine Z2 ?_ ?_<;>intro h af<;>try exact Xp)|(refine Z5 ?_;refine Xi (hS _) ?_;rintro _ _ ⟨rfl,ad⟩;(have ac:=ad.nobj;have aa:=ad.obj;have ab:=hK.trans ad))|refine Z3 ?_|exact Zt|(apply ya.out;clear ya yb))
  obtain⟨qp,r1,r2,r3⟩:=HR.out;exact⟨_,rfl,⟨_,qk,qp,rfl,hQ.out.1,r1,hQ.out.2.1,r2,Aj6⟩,ab.put Aj6 _⟩
end Go.Proofs.YtmoeoppbmhfbpabGreatDoorL
