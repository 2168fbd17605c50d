import Derived.Test.YtmoeoppbmhfbpabGreatDoorMEngN
set_option maxHeartbeats 32000000
set_option maxRecDepth 100000
set_option linter.all false
namespace Go.Proofs.YtmoeoppbmhfbpabGreatDoorL
open Go.Abs
theorem Xy (q:Qry)(c:List AV)(init:List Int)(idi:Nat)(hc:EQ q c)(hq:Ou q)(hil:init.length<=200)(σ:St):ACalls Tryz.prog 224 [ag c,sl idi init.length (Al init)] σ fun r σ'=>(∃id rs,r=sl id rs.length (Al rs)/\Grown init (Cb (atomsQ q)) rs/\Fa (atomsQ q) rs rs)/\Keep σ σ':=by
 have b7:=fun σ=>Jk q c hc hq σ;have bh:=Mg hq;have ck:=I6 hq;have ci:=E4 bh;have b4:∀a∈atomsQ q,∀v,(true,v)∈a.ts->v∈Cb (atomsQ q):=fun a ha v hv=>(C3 _ _).2 ⟨a,ha,hv⟩;obtain⟨ih,ip,inn,pc,nc,rfl,-,-⟩:=hc;generalize Cb (atomsQ q)=V at*
 generalize atomsQ q=l at*
 have cf:=Bm init;refine Z9 66 [.tmp 4] Tryz.func224 ?_
 repeat' (first|refine Z1 ?_|(refine Z8 ?_;intro yb ya)|(refine Z4 ?_;clear ya yb)|refine Z3 ?_|exact Zt|(apply ya.out;clear ya yb))
 refine Af (fun m s σ'=>∃(j i3:Nat) (rs:List Int),m=init.length-j/\j<=init.length/\s 2=ptr σ.nobj 0/\s 5=sl i3 rs.length (Al rs)/\s 14=sl idi init.length (Al init)/\s 15=ic init.length/\s 16=ic j/\Keep σ σ'/\σ.nobj<σ'.nobj/\σ'.obj σ.nobj=[ic q.head.p,sl ih q.head.ts.length (Ac q.head.ts),sl ip q.parts.length pc,sl inn q.nots.length nc]/\Own σ σ' i3 rs.length/\rs.length<=j/\Akc (rs=init.take j)) init.length
  ⟨0,1,[],Aj6,Aj6,Aj8,by simp[upd,Al],by simp[upd,initS],Aj8,rfl,Xs,Aka,by rw[Ao],Own.nil _ _,by simp,by simp[Akc]⟩ ?_
 rintro m s σ' ⟨j,i3,rs,rfl,hj,h2,h5,ca,b9,b8,hK,ao,ae,hO,bd,hR⟩;have au:=hK.nobj;by_cases a5:j<init.length
 ·have aa:=Agz a5;obtain⟨r,hd⟩:=Dl aa;generalize init[j]=v at hd aa;have HR:Akc (rs++[v]=init.take (j+1)):=by rw[Akc,Ahd,aa,Ais,hR.out]
  have bw:=Bm rs;clear aa hR
  repeat' (first|refine Z1 ?_|(refine Z8 ?_;intro yb ya)|(refine Z4 ?_;clear ya yb)|(refine Z2 ?_ ?_<;>intro h ab<;>try exact Xp)|(refine Z6 ?_;intro idn σn a9 b5 bb a4 ba a3)|refine Z3 ?_|exact Zt|(apply ya.out;clear ya yb))
  refine⟨init.length-(j+1),Aj6,j+1,idn,rs++[v],?_⟩
  ((repeat' refine Zi ?_ ?_)<;>first|exact Xq|exact (by simpa using a9)|exact HR|exact (by simp[Al])|exact Xs)
 ·have a8:j=init.length:=Aj6;subst a8;rw[Ag7]at hR;have hR:=hR.out.symm;subst hR;clear a5 hj
  repeat' (first|refine Z1 ?_|(refine Z8 ?_;intro yb ya)|(refine Z4 ?_;clear ya yb)|(refine Z2 ?_ ?_<;>intro h ab<;>try exact Xp)|refine Z3 ?_|exact Zt|(apply ya.out;clear ya yb))
  refine Af (fun m s σ'=>∃(B i3:Nat) (Bi:Int) (rs:List Int),m=2*(init.length+V.length-rs.length)+(if Bi<(rs.length:Int)then 1 else 0)/\(Bi=B\/(Bi= -1/\B=0))/\s 2=ptr σ.nobj 0/\s 5=sl i3 rs.length (Al rs)/\s 8=ic Bi/\Keep σ σ'/\σ.nobj<σ'.nobj/\σ'.obj σ.nobj=[ic q.head.p,sl ih q.head.ts.length (Ac q.head.ts),sl ip q.parts.length pc,sl inn q.nots.length nc]/\Own σ σ' i3 rs.length/\rs.length<=init.length+V.length/\B<=rs.length/\Akc (Grown init V rs/\Fa l (rs.take B) rs)) (2*(init.length+V.length-init.length)+1)
   ⟨0,i3,-1,init,by rw[if_pos Aj6],.inr ⟨rfl,rfl⟩,Aj7,Aj7,Aj8,hK,ao,ae,hO,Aj6,Aj6,⟨[],by simp,Ai0,by simp⟩,fun a ha h=>by simp at h⟩ ?_
  clear hK ao ae hO h2 h5 ca b9 b8 au;rintro m s σ' ⟨B,i3,Bi,rs,rfl,b6,h2,h5,h8,hK,ao,ae,hO,bd,cj,hG⟩;have au:=hK.nobj;have bw:=Bm rs;by_cases a5:Bi<(rs.length:Int)
  ·rw[if_pos a5]
   repeat' (first|refine Z1 ?_|(refine Z8 ?_;intro yb ya)|(refine Z4 ?_;clear ya yb)|(refine Z2 ?_ ?_<;>intro h ab<;>try exact Xp)|(refine Z5 ?_;refine Xi (b7 _) ?_;rintro _ _ ⟨ida,cs,rfl,hE,az⟩;(have a7:=az.nobj;have av:=az.obj;have am:=hK.trans az;have ak:=Own.keep hO az))|refine Z3 ?_|exact Zt|(apply ya.out;clear ya yb))
   rename_i σa;have ch:=EL.length Ic hE
   refine Af (fun m s σ2=>∃(k i4:Nat) (ws:List Int),m=l.length-k/\k<=l.length/\s 2=ptr σ.nobj 0/\s 5=sl i4 ws.length (Al ws)/\s 8=ic rs.length/\s 32=sl ida l.length cs/\s 33=ic l.length/\s 34=ic k/\Keep σ σ2/\σ.nobj<σ2.nobj/\σ2.obj σ.nobj=[ic q.head.p,sl ih q.head.ts.length (Ac q.head.ts),sl ip q.parts.length pc,sl inn q.nots.length nc]/\Own σ σ2 i4 ws.length/\ws.length<=init.length+V.length/\rs.length<=ws.length/\Akc (Grown init V ws/\ws.take rs.length=rs/\Fa (l.take k) rs ws)) l.length
    ⟨0,i3,rs,Aj6,Aj6,Aj7,Aj7,Aj7,Aj8,Aj8,rfl,am,Aj6,by rw[av _ Aj6,ae],ak,bd,Aj6,hG.out.1,by simp,fun a ha=>by simp at ha⟩ ?_
   clear am ak av hK hO ae ao h2 h5 h8 au az a7;rintro m s σ2 ⟨k,i4,ws,rfl,hk,h2,h5,h8,bm,bl,bi,hK,ao,ae,hO,bo,bu,hW⟩;have au:=hK.nobj;have cb:=Bm ws;by_cases ap:k<l.length
   ·have aa:=Agz ap;obtain⟨ida2,r2,b2⟩:=Jl hE aa;have hb:=bh _ (Ain ap);have bf:=b4 _ (Ain ap);generalize l[k]=a at b2 aa hb bf;have HT:Akc (l.take (k+1)=l.take k++[a]):=by rw[Akc,Ahd,aa,Ais]
    clear aa;have bp:ws.length<=100000:=Aj6;have b3:a.ts.length<=1000:=Aj6;have a0:=fun σ=>K1 a.p ida2 a.ts ws i4 b3 bp σ;have aw:∀v∈rs,v∈ws:=fun v hv=>by
     have:=hW.out.2.1;rw[<-this]at hv;exact Ajl hv
    cases ai:ws.any (A7 a.ts)with
    |false=>
     have HW:Akc (Grown init V ws/\ws.take rs.length=rs/\Fa (l.take (k+1)) rs ws):=by
      refine⟨hW.out.1,hW.out.2.1,?_⟩;rw[HT.out];intro b hb h v hv;rcases Ah8.1 hb with hb|hb
      ·exact hW.out.2.2 b hb h v hv
      ·simp at hb;subst hb;rw[Ahz]at h;obtain⟨u,hu,he⟩:=h;rw[Aim]at ai;exact absurd he (ai u (aw u hu))
     rw[ai]at a0;clear hW HT aw
     repeat' (first|refine Z1 ?_|(refine Z8 ?_;intro yb ya)|(refine Z4 ?_;clear ya yb)|(refine Z2 ?_ ?_<;>intro h ab<;>try exact Xp)|(refine Z5 ?_;refine Xi (a0 _) ?_;rintro _ _ ⟨rfl,ad⟩;(have ah:=ad.nobj;have ac:=ad.obj;have am:=((hK.new _).put hK.nobj _).trans ad;have ak:=Own.keep (Own.put (Own.new hO _) _ _) ad;simp only[Ab,Aa]at ah ac))|refine Z3 ?_|exact Zt|(apply ya.out;clear ya yb))
     refine⟨l.length-(k+1),Aj6,k+1,i4,ws,?_⟩
     ((repeat' refine Zi ?_ ?_)<;>first|exact Xq|exact HW|exact Xs)
    |true=>
     rw[ai]at a0;have ce:=Ch a.ts
     repeat' (first|refine Z1 ?_|(refine Z8 ?_;intro yb ya)|(refine Z4 ?_;clear ya yb)|(refine Z2 ?_ ?_<;>intro h ab<;>try exact Xp)|(refine Z5 ?_;refine Xi (a0 _) ?_;rintro _ _ ⟨rfl,ad⟩;(have ah:=ad.nobj;have ac:=ad.obj;have am:=((hK.new _).put hK.nobj _).trans ad;have ak:=Own.keep (Own.put (Own.new hO _) _ _) ad;simp only[Ab,Aa]at ah ac))|refine Z3 ?_|exact Zt|(apply ya.out;clear ya yb))
     rename_i σb;have bz:σb.obj σ2.nobj=[ic a.p,sl ida2 a.ts.length (Ac a.ts)]:=by rw[ac _ Aj6,Aj]
     refine Af (fun m s σ3=>∃(j i5:Nat) (us:List Int),m=a.ts.length-j/\j<=a.ts.length/\s 2=ptr σ.nobj 0/\s 5=sl i5 us.length (Al us)/\s 8=ic rs.length/\s 32=sl ida l.length cs/\s 33=ic l.length/\s 34=ic k/\s 43=sl ida2 a.ts.length (Ac a.ts)/\s 44=ic a.ts.length/\s 45=ic j/\Keep σ σ3/\σ.nobj<σ3.nobj/\σ3.obj σ.nobj=[ic q.head.p,sl ih q.head.ts.length (Ac q.head.ts),sl ip q.parts.length pc,sl inn q.nots.length nc]/\Own σ σ3 i5 us.length/\us.length<=init.length+V.length/\rs.length<=us.length/\Akc (Grown init V us/\us.take rs.length=rs/\(∀v∈ws,v∈us)/\∀v,(true,v)∈a.ts.take j->v∈us)) a.ts.length
      ⟨0,i4,ws,Aj6,Aj6,Aj7,Aj7,Aj7,Aj7,Aj7,Aj7,Aj8,Aj8,rfl,am,Aj6,by rw[ac _ Aj6,Ah Aj6,Ag Aj6,ae],ak,bo,bu,hW.out.1,hW.out.2.1,fun v hv=>hv,by simp⟩ ?_
     clear am ak ac hK hO ae ao h2 h5 h8 bm bl bi au ad ah bz a0;rintro m s σ3 ⟨j,i5,us,rfl,hj,h2,h5,h8,bm,bl,bi,co,cn,cm,hK,ao,ae,hO,cc,bv,hU⟩;have au:=hK.nobj;have cd:=Bm us;by_cases ax:j<a.ts.length
     ·have aa:=Agz ax;obtain⟨r3,b1⟩:=Cl aa;have bc:=Ain ax;generalize a.ts[j]=w at b1 aa bc;obtain⟨w1,w2⟩:=w;have bn:Akc (a.ts.take (j+1)=a.ts.take j++[(w1,w2)]):=by rw[Akc,Ahd,aa,Ais]
      clear aa;have br:us.length<=100000:=Aj6;have be:=Rl w2 us;have bg:=fun σ=>Fs w2 us i5 br σ;have HU:Akc ((w1=true->w2∈us)->(Grown init V us/\us.take rs.length=rs/\(∀v∈ws,v∈us)/\∀v,(true,v)∈a.ts.take (j+1)->v∈us)):=fun hw=>by
       refine⟨hU.out.1,hU.out.2.1,hU.out.2.2.1,fun v hv=>?_⟩;rw[bn.out]at hv;rcases Ah8.1 hv with h|h
       ·exact hU.out.2.2.2 v h
       ·simp at h;obtain⟨h1,h2⟩:=h;subst h2;exact hw h1
      cases w1 with
      |false=>
       repeat' (first|refine Z1 ?_|(refine Z8 ?_;intro yb ya)|(refine Z4 ?_;clear ya yb)|(refine Z2 ?_ ?_<;>intro h ab<;>try exact Xp)|refine Z3 ?_|exact Zt|(apply ya.out;clear ya yb))
       refine⟨a.ts.length-(j+1),Aj6,j+1,i5,us,?_⟩
       ((repeat' refine Zi ?_ ?_)<;>first|exact Xq|exact (Own.put (Own.new hO _) _ _)|exact (HU.out (fun h=>by cases h))|exact Xs)
      |true=>
       by_cases hm:w2∈us
       ·have ay:decide (w2∉us)=false:=by simp[hm]
        rw[ay]at be;have HU:=HU.out (fun _=>hm);have HU:Akc _:=HU;clear ay hm
        repeat' (first|refine Z1 ?_|(refine Z8 ?_;intro yb ya)|(refine Z4 ?_;clear ya yb)|(refine Z2 ?_ ?_<;>intro h ab<;>try exact Xp)|(refine Z5 ?_;refine Xi (bg _) ?_;rintro _ _ ⟨rfl,aj⟩;(have an:=aj.nobj;have af:=aj.obj;have am:=((hK.new _).put hK.nobj _).trans aj;have ak:=Own.keep (Own.put (Own.new hO _) _ _) aj;simp only[Ab,Aa]at an af))|refine Z3 ?_|exact Zt|(apply ya.out;clear ya yb))
        refine⟨a.ts.length-(j+1),Aj6,j+1,i5,us,?_⟩
        ((repeat' refine Zi ?_ ?_)<;>first|exact Xq|exact HU|exact Xs)
       ·have ay:decide (w2∉us)=true:=by simp[hm]
        rw[ay]at be;have HU:Akc (Grown init V (us++[w2])/\(us++[w2]).take rs.length=rs/\(∀v∈ws,v∈us++[w2])/\∀v,(true,v)∈a.ts.take (j+1)->v∈us++[w2]):=by
         refine⟨hU.out.1.snoc (bf w2 bc) hm,?_,fun v hv=>Ah8.2 (.inl (hU.out.2.2.1 v hv)),fun v hv=>?_⟩
         ·rw[List.take_append_of_le_length bv];exact hU.out.2.1
         ·rw[bn.out]at hv;rcases Ah8.1 hv with h|h
          ·exact Ah8.2 (.inl (hU.out.2.2.2 v h))
          ·simp at h;subst h;simp
        have bq:us.length+1<=init.length+V.length:=by
         have:=HU.out.1.le;simpa using this
        clear ay hm
        repeat' (first|refine Z1 ?_|(refine Z8 ?_;intro yb ya)|(refine Z4 ?_;clear ya yb)|(refine Z2 ?_ ?_<;>intro h ab<;>try exact Xp)|(refine Z6 ?_;intro idn σn a9 b5 bb a4 ba a3)|(refine Z5 ?_;refine Xi (bg _) ?_;rintro _ _ ⟨rfl,aj⟩;(have an:=aj.nobj;have af:=aj.obj;have am:=((hK.new _).put hK.nobj _).trans aj;have ak:=Own.keep (Own.put (Own.new hO _) _ _) aj;simp only[Ab,Aa]at an af;have a6:=af σ3.nobj Aj6;rw[Aj]at a6))|refine Z3 ?_|exact Zt|(apply ya.out;clear ya yb))
        refine⟨a.ts.length-(j+1),Aj6,j+1,idn,us++[w2],?_⟩
        ((repeat' refine Zi ?_ ?_)<;>first|exact Xq|exact (by simpa using a9)|exact HU|exact (by simp[Al])|exact Xs)
     ·have a8:j=a.ts.length:=Aj6;subst a8;have HW:Akc (Grown init V us/\us.take rs.length=rs/\Fa (l.take (k+1)) rs us):=by
       obtain⟨u1,u2,u3,u4⟩:=hU.out;rw[Ag7]at u4;refine⟨u1,u2,?_⟩;rw[HT.out];intro b hb h v hv;rcases Ah8.1 hb with hb|hb
       ·exact u3 v (hW.out.2.2 b hb h v hv)
       ·simp at hb;subst hb;exact u4 v hv
      clear hU hW HT
      repeat' (first|refine Z1 ?_|(refine Z8 ?_;intro yb ya)|(refine Z4 ?_;clear ya yb)|(refine Z2 ?_ ?_<;>intro h ab<;>try exact Xp)|refine Z3 ?_|exact Zt|(apply ya.out;clear ya yb))
      refine⟨l.length-(k+1),Aj6,k+1,i5,us,?_⟩
      ((repeat' refine Zi ?_ ?_)<;>first|exact Xq|exact HW|exact Xs)
   ·have b0:k=l.length:=Aj6;subst b0;have HW:Akc (Grown init V ws/\Fa l (ws.take rs.length) ws):=by
     obtain⟨u1,u2,u3⟩:=hW.out;rw[Ag7]at u3;exact⟨u1,by rw[u2];exact u3⟩
    clear hW
    repeat' (first|refine Z1 ?_|(refine Z8 ?_;intro yb ya)|(refine Z4 ?_;clear ya yb)|(refine Z2 ?_ ?_<;>intro h ab<;>try exact Xp)|refine Z3 ?_|exact Zt|(apply ya.out;clear ya yb))
    refine⟨2*(init.length+V.length-ws.length)+(if (rs.length:Int)<(ws.length:Int)then 1 else 0),by split<;>omega,rs.length,i4,rs.length,ws,?_⟩
    ((repeat' refine Zi ?_ ?_)<;>first|exact Xq|exact HW|exact (.inl rfl)|exact Xs)
  ·have hF:Grown init V rs/\Fa l rs rs:=by
    have hB:B=rs.length:=by rcases b6 with h|⟨h1,h2⟩<;>omega
    obtain⟨u1,u2⟩:=hG.out;rw[hB,Ag7]at u2;exact⟨u1,u2⟩
   have HF:Akc _:=hF;clear hF;have cg:decide ((rs.length:Int)>Bi)=false:=by simp;omega
   repeat' (first|refine Z1 ?_|(refine Z8 ?_;intro yb ya)|(refine Z4 ?_;clear ya yb)|(refine Z2 ?_ ?_<;>intro h ab<;>try exact Xp)|refine Z3 ?_|exact Zt|(apply ya.out;clear ya yb))
   first|exact⟨_,rfl,⟨i3,rs,rfl,HF.out.1,HF.out.2⟩,hK⟩|exact⟨_,rfl,i3,rs,rfl,HF.out.1,HF.out.2⟩
end Go.Proofs.YtmoeoppbmhfbpabGreatDoorL
