import Derived.Test.YtmoeoppbmhfbpabGreatDoorLEngJ
set_option maxHeartbeats 32000000
set_option maxRecDepth 100000
set_option linter.all false
namespace Go.Proofs.YtmoeoppbmhfbpabGreatDoorL
open Go.Abs
def Fa (l:List De)(small big:List Int):Prop:=∀a∈l,small.any (A7 a.ts)=true->∀v,(true,v)∈a.ts->v∈big
def Grown (init V rs:List Int):Prop:=∃ad:List Int,rs=init++ad/\ad.Nodup/\∀v∈ad,v∈V
theorem Grown.le {init V rs:List Int}(h:Grown init V rs):rs.length<=init.length+V.length:=by
 obtain⟨ad,rfl,h1,h2⟩:=h;have:=Vd h1 h2;simp;omega
theorem Grown.snoc {init V rs:List Int}(h:Grown init V rs){v:Int}(hv:v∈V)(hn:v∉rs):Grown init V (rs++[v]):=by
 obtain⟨ad,rfl,h1,h2⟩:=h;refine⟨ad++[v],by simp,?_,?_⟩
 ·rw[Ajf];exact⟨h1,by simp,fun a ha b hb=>by simp at hb;subst hb;rintro rfl;exact hn (Ah8.2 (.inr ha))⟩
 ·intro u hu;rcases Ah8.1 hu with h|h
  ·exact h2 u h
  ·simp at h;subst h;exact hv
theorem Xy (q:Qry)(c:List AV)(init:List Int)(idi:Nat)(hc:EQ q c)(hq:Ou q)(hil:init.length<=200)(σ:St):ACalls Tryz.prog 224 [ag c,sl idi init.length (Al init)] σ fun r σ'=>(∃id rs,r=sl id rs.length (Al rs)/\Grown init (Cb (atomsQ q)) rs/\Fa (atomsQ q) rs rs)/\Keep σ σ':=by
 have b7:=fun σ=>Jk q c hc hq σ;have bh:=Mg hq;have ck:=I6 hq;have ci:=E4 bh;have b4:∀a∈atomsQ q,∀v,(true,v)∈a.ts->v∈Cb (atomsQ q):=fun a ha v hv=>(C3 _ _).2 ⟨a,ha,hv⟩;obtain⟨ih,ip,inn,pc,nc,rfl,-,-⟩:=hc;generalize Cb (atomsQ q)=V at*
 generalize atomsQ q=l at*
 have cf:=Bm init;refine Z9 66 [.tmp 4] Tryz.func224 ?_
 repeat' (first|refine Z1 ?_|(refine Z8 ?_;intro yb ya)|(refine Z4 ?_;clear ya yb)|refine Z3 ?_|exact Zt|(apply ya.out;clear ya yb))
 refine Af (fun m s σ'=>∃(j i3:Nat) (rs:List Int),m=init.length-j/\j<=init.length/\s 2=ptr σ.nobj 0/\s 5=sl i3 rs.length (Al rs)/\s 14=sl idi init.length (Al init)/\s 15=ic init.length/\s 16=ic j/\Keep σ σ'/\σ.nobj<σ'.nobj/\σ'.obj σ.nobj=[ic q.head.p,sl ih q.head.ts.length (Ac q.head.ts),sl ip q.parts.length pc,sl inn q.nots.length nc]/\Own σ σ' i3 rs.length/\rs.length<=j/\Akc (rs=init.take j)) init.length
  ⟨0,1,[],Aj6,Aj6,Aj8,by simp[upd,Al],by simp[upd,initS],Aj8,rfl,Xs,Aka,by rw[Ao],Own.nil _ _,by simp,by simp[Akc]⟩ ?_
 rintro m s σ' ⟨j,i3,rs,rfl,hj,h2,h5,ca,b9,b8,hK,ao,ae,hO,bd,hR⟩;have au:=hK.nobj;by_cases a5:j<init.length
 ·have aa:=Agz a5;obtain⟨r,hd⟩:=Dl aa;generalize init[j]=v at hd aa;have HR:Akc (rs++[v]=init.take (j+1)):=by rw[Akc,Ahd,aa,Ais,hR.out]
  have bw:=Bm rs;clear aa hR
  repeat' (first|refine Z1 ?_|(refine Z8 ?_;intro yb ya)|(refine Z4 ?_;clear ya yb)|(refine Z2 ?_ ?_<;>intro h ab<;>try exact Xp)|(refine Z6 ?_;intro idn σn a9 b5 bb a4 ba a3)|refine Z3 ?_|exact Zt|(apply ya.out;clear ya yb))
  refine⟨init.length-(j+1),Aj6,j+1,idn,rs++[v],?_⟩
  ((repeat' refine Zi ?_ ?_)<;>first|exact Xq|exact (by simpa using a9)|exact HR|exact (by simp[Al])|exact Xs)
 ·have a8:j=init.length:=Aj6;subst a8;rw[Ag7]at hR;have hR:=hR.out.symm;subst hR;clear a5 hj
  repeat' (first|refine Z1 ?_|(refine Z8 ?_;intro yb ya)|(refine Z4 ?_;clear ya yb)|(refine Z2 ?_ ?_<;>intro h ab<;>try exact Xp)|refine Z3 ?_|exact Zt|(apply ya.out;clear ya yb))
  refine Af (fun m s σ'=>∃(B i3:Nat) (Bi:Int) (rs:List Int),m=2*(init.length+V.length-rs.length)+(if Bi<(rs.length:Int)then 1 else 0)/\(Bi=B\/(Bi= -1/\B=0))/\s 2=ptr σ.nobj 0/\s 5=sl i3 rs.length (Al rs)/\s 8=ic Bi/\Keep σ σ'/\σ.nobj<σ'.nobj/\σ'.obj σ.nobj=[ic q.head.p,sl ih q.head.ts.length (Ac q.head.ts),sl ip q.parts.length pc,sl inn q.nots.length nc]/\Own σ σ' i3 rs.length/\rs.length<=init.length+V.length/\B<=rs.length/\Akc (Grown init V rs/\Fa l (rs.take B) rs)) (2*(init.length+V.length-init.length)+1)
   ⟨0,i3,-1,init,by rw[if_pos Aj6],.inr ⟨rfl,rfl⟩,Aj7,Aj7,Aj8,hK,ao,ae,hO,Aj6,Aj6,⟨[],by simp,Ai0,by simp⟩,fun a ha h=>by simp at h⟩ ?_
  clear hK ao ae hO h2 h5 ca b9 b8 au;rintro m s σ' ⟨B,i3,Bi,rs,rfl,b6,h2,h5,h8,hK,ao,ae,hO,bd,cj,hG⟩;have au:=hK.nobj;have bw:=Bm rs;by_cases a5:Bi<(rs.length:Int)
  ·rw[if_pos a5]
   repeat' (first|refine Z1 ?_|(refine Z8 ?_;intro yb ya)|(refine Z4 ?_;clear ya yb)|(refine Z2 ?_ ?_<;>intro h ab<;>try exact Xp)|(refine Z5 ?_;refine Xi (b7 _) ?_;rintro _ _ ⟨ida,cs,rfl,hE,az⟩;(have a7:=az.nobj;have av:=az.obj;have am:=hK.trans az;have ak:=Own.keep hO az))|refine Z3 ?_|exact Zt|(apply ya.out;clear ya yb))
   rename_i σa;have ch:=EL.length Ic hE
   refine Af (fun m s σ2=>∃(k i4:Nat) (ws:List Int),m=l.length-k/\k<=l.length/\s 2=ptr σ.nobj 0/\s 5=sl i4 ws.length (Al ws)/\s 8=ic rs.length/\s 32=sl ida l.length cs/\s 33=ic l.length/\s 34=ic k/\Keep σ σ2/\σ.nobj<σ2.nobj/\σ2.obj σ.nobj=[ic q.head.p,sl ih q.head.ts.length (Ac q.head.ts),sl ip q.parts.length pc,sl inn q.nots.length nc]/\Own σ σ2 i4 ws.length/\ws.length<=init.length+V.length/\rs.length<=ws.length/\Akc (Grown init V ws/\ws.take rs.length=rs/\Fa (l.take k) rs ws)) l.length
    ⟨0,i3,rs,Aj6,Aj6,Aj7,Aj7,Aj7,Aj8,Aj8,rfl,am,Aj6,by rw[av _ Aj6,ae],ak,bd,Aj6,hG.out.1,by simp,fun a ha=>by simp at ha⟩ ?_
   clear am ak av hK hO ae ao h2 h5 h8 au az a7;rintro m s σ2 ⟨k,i4,ws,rfl,hk,h2,h5,h8,bm,bl,bi,hK,ao,ae,hO,bo,bu,hW⟩;have au:=hK.nobj;have cb:=Bm ws;by_cases ap:k<l.length
   ·have aa:=Agz ap;obtain⟨ida2,r2,b2⟩:=Jl hE aa;have hb:=bh _ (Ain ap);have bf:=b4 _ (Ain ap);generalize l[k]=a at b2 aa hb bf;have HT:Akc (l.take (k+1)=l.take k++[a]):=by rw[Akc,Ahd,aa,Ais]
    clear aa;have bp:ws.length<=100000:=Aj6;have b3:a.ts.length<=1000:=Aj6;have a0:=fun σ=>K1 a.p ida2 a.ts ws i4 b3 bp σ;have aw:∀v∈rs,v∈ws:=fun v hv=>by
     have:=hW.out.2.1;rw[<-this]at hv;exact Ajl hv
    cases ai:ws.any (A7 a.ts)with
    |false=>
     have HW:Akc (Grown init V ws/\ws.take rs.length=rs/\Fa (l.take (k+1)) rs ws):=by
      refine⟨hW.out.1,hW.out.2.1,?_⟩;rw[HT.out];intro b hb h v hv;rcases Ah8.1 hb with hb|hb
      ·exact hW.out.2.2 b hb h v hv
      ·simp at hb;subst hb;rw[Ahz]at h;obtain⟨u,hu,he⟩:=h;rw[Aim]at ai;exact absurd he (ai u (aw u hu))
     rw[ai]at a0;clear hW HT aw
     repeat' (first|refine Z1 ?_|(refine Z8 ?_;intro yb ya)|(refine Z4 ?_;clear ya yb)|(refine Z2 ?_ ?_<;>intro h ab<;>try exact Xp)|(refine Z5 ?_;refine Xi (a0 _) ?_;rintro _ _ ⟨rfl,ad⟩;(have ah:=ad.nobj;have ac:=ad.obj;have am:=((hK.new _).put hK.nobj _).trans ad;have ak:=Own.keep (Own.put (Own.new hO _) _ _) ad;simp only[Ab,Aa]at ah ac))|refine Z3 ?_|exact Zt|(apply ya.out;clear ya yb))
     refine⟨l.length-(k+1),Aj6,k+1,i4,ws,?_⟩
     ((repeat' refine Zi ?_ ?_)<;>first|exact Xq|exact HW|exact Xs)
    |true=>
     rw[ai]at a0;have ce:=Ch a.ts
     repeat' (first|refine Z1 ?_|(refine Z8 ?_;intro yb ya)|(refine Z4 ?_;clear ya yb)|(refine Z2 ?_ ?_<;>intro h ab<;>try exact Xp)|(refine Z5 ?_;refine Xi (a0 _) ?_;rintro _ _ ⟨rfl,ad⟩;(have ah:=ad.nobj;have ac:=ad.obj;have am:=((hK.new _).put hK.nobj _).trans ad;have ak:=Own.keep (Own.put (Own.new hO _) _ _) ad;simp only[Ab,Aa]at ah ac))|refine Z3 ?_|exact Zt|(apply ya.out;clear ya yb))
     rename_i σb;have bz:σb.obj σ2.nobj=[ic a.p,sl ida2 a.ts.length (Ac a.ts)]:=by rw[ac _ Aj6,Aj]
     refine Af (fun m s σ3=>∃(j i5:Nat) (us:List Int),m=a.ts.length-j/\j<=a.ts.length/\s 2=ptr σ.nobj 0/\s 5=sl i5 us.length (Al us)/\s 8=ic rs.length/\s 32=sl ida l.length cs/\s 33=ic l.length/\s 34=ic k/\s 43=sl ida2 a.ts.length (Ac a.ts)/\s 44=ic a.ts.length/\s 45=ic j/\Keep σ σ3/\σ.nobj<σ3.nobj/\σ3.obj σ.nobj=[ic q.head.p,sl ih q.head.ts.length (Ac q.head.ts),sl ip q.parts.length pc,sl inn q.nots.length nc]/\Own σ σ3 i5 us.length/\us.length<=init.length+V.length/\rs.length<=us.length/\Akc (Grown init V us/\us.take rs.length=rs/\(∀v∈ws,v∈us)/\∀v,(true,v)∈a.ts.take j->v∈us)) a.ts.length
      ⟨0,i4,ws,Aj6,Aj6,Aj7,Aj7,Aj7,Aj7,Aj7,Aj7,Aj8,Aj8,rfl,am,Aj6,by rw[ac _ Aj6,Ah Aj6,Ag Aj6,ae],ak,bo,bu,hW.out.1,hW.out.2.1,fun v hv=>hv,by simp⟩ ?_
     clear am ak ac hK hO ae ao h2 h5 h8 bm bl bi au ad ah bz a0;rintro m s σ3 ⟨j,i5,us,rfl,hj,h2,h5,h8,bm,bl,bi,co,cn,cm,hK,ao,ae,hO,cc,bv,hU⟩;have au:=hK.nobj;have cd:=Bm us;by_cases ax:j<a.ts.length
     ·have aa:=Agz ax;obtain⟨r3,b1⟩:=Cl aa;have bc:=Ain ax;generalize a.ts[j]=w at b1 aa bc;obtain⟨w1,w2⟩:=w;have bn:Akc (a.ts.take (j+1)=a.ts.take j++[(w1,w2)]):=by rw[Akc,Ahd,aa,Ais]
      clear aa;have br:us.length<=100000:=Aj6;have be:=Rl w2 us;have bg:=fun σ=>Fs w2 us i5 br σ;have HU:Akc ((w1=true->w2∈us)->(Grown init V us/\us.take rs.length=rs/\(∀v∈ws,v∈us)/\∀v,(true,v)∈a.ts.take (j+1)->v∈us)):=fun hw=>by
       refine⟨hU.out.1,hU.out.2.1,hU.out.2.2.1,fun v hv=>?_⟩;rw[bn.out]at hv;rcases Ah8.1 hv with h|h
       ·exact hU.out.2.2.2 v h
       ·simp at h;obtain⟨h1,h2⟩:=h;subst h2;exact hw h1
      cases w1 with
      |false=>
       repeat' (first|refine Z1 ?_|(refine Z8 ?_;intro yb ya)|(refine Z4 ?_;clear ya yb)|(refine Z2 ?_ ?_<;>intro h ab<;>try exact Xp)|refine Z3 ?_|exact Zt|(apply ya.out;clear ya yb))
       refine⟨a.ts.length-(j+1),Aj6,j+1,i5,us,?_⟩
       ((repeat' refine Zi ?_ ?_)<;>first|exact Xq|exact (Own.put (Own.new hO _) _ _)|exact (HU.out (fun h=>by cases h))|exact Xs)
      |true=>
       by_cases hm:w2∈us
       ·have ay:decide (w2∉us)=false:=by simp[hm]
        rw[ay]at be;have HU:=HU.out (fun _=>hm);have HU:Akc _:=HU;clear ay hm
        repeat' (first|refine Z1 ?_|(refine Z8 ?_;intro yb ya)|(refine Z4 ?_;clear ya yb)|(refine Z2 ?_ ?_<;>intro h ab<;>try exact Xp)|(refine Z5 ?_;refine Xi (bg _) ?_;rintro _ _ ⟨rfl,aj⟩;(have an:=aj.nobj;have af:=aj.obj;have am:=((hK.new _).put hK.nobj _).trans aj;have ak:=Own.keep (Own.put (Own.new hO _) _ _) aj;simp only[Ab,Aa]at an af))|refine Z3 ?_|exact Zt|(apply ya.out;clear ya yb))
        refine⟨a.ts.length-(j+1),Aj6,j+1,i5,us,?_⟩
        ((repeat' refine Zi ?_ ?_)<;>first|exact Xq|exact HU|exact Xs)
       ·have ay:decide (w2∉us)=true:=by simp[hm]
        rw[ay]at be;have HU:Akc (Grown init V (us++[w2])/\(us++[w2]).take rs.length=rs/\(∀v∈ws,v∈us++[w2])/\∀v,(true,v)∈a.ts.take (j+1)->v∈us++[w2]):=by
         refine⟨hU.out.1.snoc (bf w2 bc) hm,?_,fun v hv=>Ah8.2 (.inl (hU.out.2.2.1 v hv)),fun v hv=>?_⟩
         ·rw[List.take_append_of_le_length bv];exact hU.out.2.1
         ·rw[bn.out]at hv;rcases Ah8.1 hv with h|h
          ·exact Ah8.2 (.inl (hU.out.2.2.2 v h))
          ·simp at h;subst h;simp
        have bq:us.length+1<=init.length+V.length:=by
         have:=HU.out.1.le;simpa using this
        clear ay hm
        repeat' (first|refine Z1 ?_|(refine Z8 ?_;intro yb ya)|(refine Z4 ?_;clear ya yb)|(refine Z2 ?_ ?_<;>intro h ab<;>try exact Xp)|(refine Z6 ?_;intro idn σn a9 b5 bb a4 ba a3)|(refine Z5 ?_;refine Xi (bg _) ?_;rintro _ _ ⟨rfl,aj⟩;(have an:=aj.nobj;have af:=aj.obj;have am:=((hK.new _).put hK.nobj _).trans aj;have ak:=Own.keep (Own.put (Own.new hO _) _ _) aj;simp only[Ab,Aa]at an af;have a6:=af σ3.nobj Aj6;rw[Aj]at a6))|refine Z3 ?_|exact Zt|(apply ya.out;clear ya yb))
        refine⟨a.ts.length-(j+1),Aj6,j+1,idn,us++[w2],?_⟩
        ((repeat' refine Zi ?_ ?_)<;>first|exact Xq|exact (by simpa using a9)|exact HU|exact (by simp[Al])|exact Xs)
     ·have a8:j=a.ts.length:=Aj6;subst a8;have HW:Akc (Grown init V us/\us.take rs.length=rs/\Fa (l.take (k+1)) rs us):=by
       obtain⟨u1,u2,u3,u4⟩:=hU.out;rw[Ag7]at u4;refine⟨u1,u2,?_⟩;rw[HT.out];intro b hb h v hv;rcases Ah8.1 hb with hb|hb
       ·exact u3 v (hW.out.2.2 b hb h v hv)
       ·simp at hb;subst hb;exact u4 v hv
      clear hU hW HT
      repeat' (first|refine Z1 ?_|(refine Z8 ?_;intro yb ya)|(refine Z4 ?_;clear ya yb)|(refine Z2 ?_ ?_<;>intro h ab<;>try exact Xp)|refine Z3 ?_|exact Zt|(apply ya.out;clear ya yb))
      refine⟨l.length-(k+1),Aj6,k+1,i5,us,?_⟩
      ((repeat' refine Zi ?_ ?_)<;>first|exact Xq|exact HW|exact Xs)
   ·have b0:k=l.length:=Aj6;subst b0;have HW:Akc (Grown init V ws/\Fa l (ws.take rs.length) ws):=by
     obtain⟨u1,u2,u3⟩:=hW.out;rw[Ag7]at u3;exact⟨u1,by rw[u2];exact u3⟩
    clear hW
    repeat' (first|refine Z1 ?_|(refine Z8 ?_;intro yb ya)|(refine Z4 ?_;clear ya yb)|(refine Z2 ?_ ?_<;>intro h ab<;>try exact Xp)|refine Z3 ?_|exact Zt|(apply ya.out;clear ya yb))
    refine⟨2*(init.length+V.length-ws.length)+(if (rs.length:Int)<(ws.length:Int)then 1 else 0),by split<;>omega,rs.length,i4,rs.length,ws,?_⟩
    ((repeat' refine Zi ?_ ?_)<;>first|exact Xq|exact HW|exact (.inl rfl)|exact Xs)
  ·have hF:Grown init V rs/\Fa l rs rs:=by
    have hB:B=rs.length:=by rcases b6 with h|⟨h1,h2⟩<;>omega
    obtain⟨u1,u2⟩:=hG.out;rw[hB,Ag7]at u2;exact⟨u1,u2⟩
   have HF:Akc _:=hF;clear hF;have cg:decide ((rs.length:Int)>Bi)=false:=by simp;omega
   repeat' (first|refine Z1 ?_|(refine Z8 ?_;intro yb ya)|(refine Z4 ?_;clear ya yb)|(refine Z2 ?_ ?_<;>intro h ab<;>try exact Xp)|refine Z3 ?_|exact Zt|(apply ya.out;clear ya yb))
   first|exact⟨_,rfl,⟨i3,rs,rfl,HF.out.1,HF.out.2⟩,hK⟩|exact⟨_,rfl,i3,rs,rfl,HF.out.1,HF.out.2⟩
def I9 (rs:List Int)(a:De):Bool:=rs.any (A7 a.ts)
def A5 (q:Qry)(rs:List Int):Qry:=⟨q.head,q.parts.filter fun p=>I9 rs p.a,q.nots.filter (I9 rs)⟩
def H0 (q:Qry)(rs:List Int):Qry:=⟨⟨0,[]⟩,q.parts.filter fun p=>!I9 rs p.a,q.nots.filter fun a=>!I9 rs a⟩
theorem Rv (q:Qry)(c:List AV)(init:List Int)(idi:Nat)(hc:EQ q c)(hq:Ou q)(hil:init.length<=200)(σ:St):ACalls Tryz.prog 188 [ag c,sl idi init.length (Al init)] σ fun r σ'=>(∃c1 c2 rs,r=tp [ag c1,ag c2]/\EQ (A5 q rs) c1/\EQ (H0 q rs) c2/\Grown init (Cb (atomsQ q)) rs/\Fa (atomsQ q) rs rs)/\Keep σ σ':=by
 have bq:=fun σ=>Xy q c init idi hc hq hil σ;have b8:=Mg hq;have ch:=I6 hq;have b5:=E4 b8;obtain⟨ih,ip,inn,pc,nc,rfl,hP,hN⟩:=hc;have hpl:=EL.length Ee hP;have cc:=EL.length Ic hN;have hl:=hq.pl;have cf:=hq.nl;refine Z9 69 [.cell 4 191,.cell 5 191] Tryz.func188 ?_
 repeat' (first|refine Z1 ?_|(refine Z8 ?_;intro yb ya)|(refine Z4 ?_;clear ya yb)|(refine Z5 ?_;refine Xi (bq _) ?_;rintro _ _ ⟨⟨idr,rs,rfl,hG,hC⟩,a6⟩;(have bb:=a6.nobj;have aj:=a6.obj;have b7:=((((Keep.refl σ).new _).new _).new _).trans a6;simp only[Aa]at bb aj))|refine Z3 ?_|exact Zt|(apply ya.out;clear ya yb))
 rename_i σ1;have bp:rs.length<=100000:=by have:=hG.le;omega
 have HG:Akc _:=hG;have HC:Akc _:=hC;clear hG hC bq b5;have o0:σ1.obj σ.nobj=[ic q.head.p,sl ih q.head.ts.length (Ac q.head.ts),sl ip q.parts.length pc,sl inn q.nots.length nc]:=by rw[aj _ Aj6,Ag Aka,Ag Aka,Ao]
 have o1:σ1.obj (σ.nobj+1)=[ic 0,nilS,nilS,nilS]:=by rw[aj _ Aj6,Ag Aka,Bs Aka Aka]
 have o2:σ1.obj (σ.nobj+2)=[ic 0,nilS,nilS,nilS]:=by rw[aj _ Aj6,Bs Aka Aka]
 clear aj a6;generalize b6:σ1.nobj=o7 at*
 refine Af (fun m s σ'=>∃(k i3 i4:Nat) (l1 l2:List Part) (xs ys:List AV),m=q.parts.length-k/\k<=q.parts.length/\s 2=ptr σ.nobj 0/\s 4=ptr (σ.nobj+1) 0/\s 5=ptr (σ.nobj+2) 0/\s 6=sl idr rs.length (Al rs)/\s 7=ptr o7 0/\s 8=ptr (o7+1) 0/\s 21=sl ip q.parts.length pc/\s 22=ic q.parts.length/\s 23=ic k/\Keep σ σ'/\o7+1<σ'.nobj/\σ'.obj σ.nobj=[ic q.head.p,sl ih q.head.ts.length (Ac q.head.ts),sl ip q.parts.length pc,sl inn q.nots.length nc]/\σ'.obj (σ.nobj+1)=[ic 0,nilS,nilS,nilS]/\σ'.obj (σ.nobj+2)=[ic 0,nilS,nilS,nilS]/\σ'.obj o7=[ic q.head.p,sl ih q.head.ts.length (Ac q.head.ts),sl i3 l1.length xs,nilS]/\σ'.obj (o7+1)=[ic 0,nilS,sl i4 l2.length ys,nilS]/\Own σ σ' i3 l1.length/\Own σ σ' i4 l2.length/\(i3=1\/i3≠i4)/\l1.length<=k/\l2.length<=k/\xs.length=l1.length*3/\ys.length=l2.length*3/\Akc (EL Mk l1 xs/\EL Mk l2 ys/\l1=(q.parts.take k).filter (fun p=>I9 rs p.a)/\l2=(q.parts.take k).filter fun p=>!I9 rs p.a)) q.parts.length
  ⟨0,1,1,[],[],[],[],Aj6,Aj6,Aj8,Aj8,Aj8,Aj8,Aj8,Aj8,Aj8,Aj8,rfl,Xs,Akb,?_,?_,?_,?_,?_,Own.nil _ _,Own.nil _ _,.inl rfl,by simp,by simp,by simp,by simp,⟨rfl,rfl,by simp,by simp⟩⟩ ?_
 ·rw[Ah Aj6,Ag Akb,Ah Aj6,Ag Aj6,o0]
 ·rw[Ah Aj6,Ag Akb,Ah Aj6,Ag Aj6,o1]
 ·rw[Ah Aj6,Ag Akb,Ah Aj6,Ag Aj6,o2]
 ·rw[Ah Aj6,Ag Akb,Aj];simp
 ·rw[Aj];simp
 clear o0 o1 o2 b7 b6;rintro m s σ' ⟨k,i3,i4,l1,l2,xs,ys,rfl,hk,h2,h4,h5,h6,h7,h8,cb,ca,b9,hK,bc,bz,ba,a9,a8,a7,bl,bi,a5,b2,bf,bo,bn,hX⟩;have bm:=hK.nobj;by_cases a3:k<q.parts.length
 ·have ab:=Agz a3;obtain⟨id,idt,r,hd⟩:=E9 hP ab;have bh:=hq.pa _ (Ain a3);generalize q.parts[k]=w at hd ab bh;have be:w.a.ts.length<=1000:=Aj6;have ak:=fun σ=>K1 w.a.p id w.a.ts rs idr be bp σ;have a4:Keep σ ((σ'.new [ic 0,nilS,nilS]).put σ'.nobj [ic w.a.p,sl id w.a.ts.length (Ac w.a.ts),sl idt w.tups.length (Dc w.tups)]):=(hK.new _).put hK.nobj _;have ap:Akc ((q.parts.take (k+1)).filter (fun p=>I9 rs p.a)=(q.parts.take k).filter (fun p=>I9 rs p.a)++if I9 rs w.a=true then [w]else []):=by
   rw[Akc,Ahd,ab,Ais,Dv]
  have ao:Akc ((q.parts.take (k+1)).filter (fun p=>!I9 rs p.a)=(q.parts.take k).filter (fun p=>!I9 rs p.a)++if (!I9 rs w.a)=true then [w]else []):=by
   rw[Akc,Ahd,ab,Ais,Dv]
  clear ab;rw[show rs.any (A7 w.a.ts)=I9 rs w.a from rfl]at ak;cases ah:I9 rs w.a with
  |true=>
   rw[ah]at ak;have HX:Akc (EL Mk (l1++[w]) (xs++[ic w.a.p,sl id w.a.ts.length (Ac w.a.ts),sl idt w.tups.length (Dc w.tups)])/\EL Mk l2 ys/\l1++[w]=(q.parts.take (k+1)).filter (fun p=>I9 rs p.a)/\l2=(q.parts.take (k+1)).filter fun p=>!I9 rs p.a):=by
    obtain⟨x1,x2,x3,x4⟩:=hX.out;exact⟨EL.append x1 (EL.single ⟨id,idt,rfl⟩),x2,by rw[ap.out,if_pos ah,x3],by rw[ao.out,ah,x4];simp⟩
   clear hX ap ao
   repeat' (first|refine Z1 ?_|(refine Z8 ?_;intro yb ya)|(refine Z4 ?_;clear ya yb)|(refine Z2 ?_ ?_<;>intro h ai<;>try exact Xp)|(refine Z5 ?_;refine Xi (ak _) ?_;rintro _ _ ⟨rfl,ac⟩;(have ad:=ac.nobj;have aa:=ac.obj;have ay:=a4.trans ac;simp only[Ab,Aa]at ad aa))|refine Z3 ?_|exact Zt|(apply ya.out;clear ya yb))
   refine Hv (by first|exact Er|exact D2) ay (Own.keep (Own.put (Own.new bl _) _ _) ac) (by decide) (by rfl) bo (by rfl) (by rfl) (by decide) Aj6 Aj6 ?_;intro idn σn av az af an a0 am ae;obtain⟨aw,au⟩:=ae i4 l2.length (Own.keep (Own.put (Own.new bi _) _ _) ac) a5;have eob:∀p,p<σ'.nobj->σn.obj p=σ'.obj p:=fun p hp=>by rw[af,aa _ Aj6,Ah Aj6,Ag Aj6]
   refine Z3 ?_
   repeat' (first|refine Z1 ?_|(refine Z8 ?_;intro yb ya)|(refine Z4 ?_;clear ya yb)|refine Z3 ?_|exact Zt|(apply ya.out;clear ya yb))
   refine⟨q.parts.length-(k+1),Aj6,k+1,idn,i4,l1++[w],l2,xs++[ic w.a.p,sl id w.a.ts.length (Ac w.a.ts),sl idt w.tups.length (Dc w.tups)],ys,?_⟩
   ((repeat' refine Zi ?_ ?_)<;>first|exact Xq|exact (az.put Aj6 _)|exact (by simpa using Own.put av _ _)|exact (Own.put aw _ _)|exact HX|exact Xs)
  |false=>
   rw[ah]at ak;have HX:Akc (EL Mk l1 xs/\EL Mk (l2++[w]) (ys++[ic w.a.p,sl id w.a.ts.length (Ac w.a.ts),sl idt w.tups.length (Dc w.tups)])/\l1=(q.parts.take (k+1)).filter (fun p=>I9 rs p.a)/\l2++[w]=(q.parts.take (k+1)).filter fun p=>!I9 rs p.a):=by
    obtain⟨x1,x2,x3,x4⟩:=hX.out;exact⟨x1,EL.append x2 (EL.single ⟨id,idt,rfl⟩),by rw[ap.out,ah,x3];simp,by rw[ao.out,ah,x4];simp⟩
   clear hX ap ao
   repeat' (first|refine Z1 ?_|(refine Z8 ?_;intro yb ya)|(refine Z4 ?_;clear ya yb)|(refine Z2 ?_ ?_<;>intro h ai<;>try exact Xp)|(refine Z5 ?_;refine Xi (ak _) ?_;rintro _ _ ⟨rfl,ac⟩;(have ad:=ac.nobj;have aa:=ac.obj;have ay:=a4.trans ac;simp only[Ab,Aa]at ad aa))|refine Z3 ?_|exact Zt|(apply ya.out;clear ya yb))
   refine Hv (by first|exact Er|exact D2) ay (Own.keep (Own.put (Own.new bi _) _ _) ac) (by decide) (by rfl) bn (by rfl) (by rfl) (by decide) Aj6 Aj6 ?_;intro idn σn av az af an a0 am ae;obtain⟨ax,au⟩:=ae i3 l1.length (Own.keep (Own.put (Own.new bl _) _ _) ac) Aj6;have bd:i3=1\/i3≠idn:=Aj6;have eob:∀p,p<σ'.nobj->σn.obj p=σ'.obj p:=fun p hp=>by rw[af,aa _ Aj6,Ah Aj6,Ag Aj6]
   refine Z3 ?_
   repeat' (first|refine Z1 ?_|(refine Z8 ?_;intro yb ya)|(refine Z4 ?_;clear ya yb)|(refine Z2 ?_ ?_<;>intro h ai<;>try exact Xp)|refine Z3 ?_|exact Zt|(apply ya.out;clear ya yb))
   refine⟨q.parts.length-(k+1),Aj6,k+1,i3,idn,l1,l2++[w],xs,ys++[ic w.a.p,sl id w.a.ts.length (Ac w.a.ts),sl idt w.tups.length (Dc w.tups)],?_⟩
   ((repeat' refine Zi ?_ ?_)<;>first|exact Xq|exact (az.put Aj6 _)|exact (by simpa using Own.put av _ _)|exact (Own.put ax _ _)|exact HX|exact Xs)
 ·have b3:k=q.parts.length:=Aj6;subst b3;obtain⟨x1,x2,x3,x4⟩:=hX.out;rw[Ag7]at x3 x4;have HX:Akc (EL Mk (q.parts.filter fun p=>I9 rs p.a) xs/\EL Mk (q.parts.filter fun p=>!I9 rs p.a) ys/\l1.length=(q.parts.filter fun p=>I9 rs p.a).length/\l2.length=(q.parts.filter fun p=>!I9 rs p.a).length):=⟨by rw[<-x3];exact x1,by rw[<-x4];exact x2,by rw[x3],by rw[x4]⟩;clear x1 x2 x3 x4 hX hk;generalize l1.length=n1 at*
  generalize l2.length=n2 at*
  repeat' (first|refine Z1 ?_|(refine Z8 ?_;intro yb ya)|(refine Z4 ?_;clear ya yb)|(refine Z2 ?_ ?_<;>intro h ai<;>try exact Xp)|refine Z3 ?_|exact Zt|(apply ya.out;clear ya yb))
  refine Af (fun m s σ'=>∃(j i5 i6:Nat) (m1 m2:List De) (us vs:List AV),m=q.nots.length-j/\j<=q.nots.length/\s 4=ptr (σ.nobj+1) 0/\s 5=ptr (σ.nobj+2) 0/\s 6=sl idr rs.length (Al rs)/\s 7=ptr o7 0/\s 8=ptr (o7+1) 0/\s 45=sl inn q.nots.length nc/\s 46=ic q.nots.length/\s 47=ic j/\Keep σ σ'/\o7+1<σ'.nobj/\σ'.obj (σ.nobj+1)=[ic 0,nilS,nilS,nilS]/\σ'.obj (σ.nobj+2)=[ic 0,nilS,nilS,nilS]/\σ'.obj o7=[ic q.head.p,sl ih q.head.ts.length (Ac q.head.ts),sl i3 n1 xs,sl i5 m1.length us]/\σ'.obj (o7+1)=[ic 0,nilS,sl i4 n2 ys,sl i6 m2.length vs]/\Own σ σ' i5 m1.length/\Own σ σ' i6 m2.length/\(i5=1\/i5≠i6)/\m1.length<=j/\m2.length<=j/\us.length=m1.length*2/\vs.length=m2.length*2/\Akc (EL Mm m1 us/\EL Mm m2 vs/\m1=(q.nots.take j).filter (I9 rs)/\m2=(q.nots.take j).filter fun a=>!I9 rs a)) q.nots.length
   ⟨0,1,1,[],[],[],[],Aj6,Aj6,Aj7,Aj7,Aj7,Aj7,Aj7,Aj7,Aj7,Aj8,hK,bc,ba,a9,by rw[a8];simp,by rw[a7];simp,Own.nil _ _,Own.nil _ _,.inl rfl,by simp,by simp,by simp,by simp,⟨rfl,rfl,by simp,by simp⟩⟩ ?_
  clear h2 h4 h5 h6 h7 h8 cb ca b9 hK bc bz ba a9 a8 a7 bl bi a5 b2 bf bo bn a3 bm;rintro m s σ' ⟨j,i5,i6,m1,m2,us,vs,rfl,hj,h4,h5,h6,h7,h8,ck,cj,ci,hK,bc,ba,a9,a8,a7,bu,br,a5,ce,cd,b1,b0,hY⟩;have bm:=hK.nobj;by_cases a3:j<q.nots.length
  ·have ab:=Agz a3;obtain⟨id,r,hd⟩:=Jl hN ab;have bh:=hq.na _ (Ain a3);generalize q.nots[j]=w at hd ab bh;have be:w.ts.length<=1000:=Aj6;have ak:=fun σ=>K1 w.p id w.ts rs idr be bp σ;have a4:Keep σ ((σ'.new [ic 0,nilS]).put σ'.nobj [ic w.p,sl id w.ts.length (Ac w.ts)]):=(hK.new _).put hK.nobj _;have ap:Akc ((q.nots.take (j+1)).filter (I9 rs)=(q.nots.take j).filter (I9 rs)++if I9 rs w=true then [w]else []):=by
    rw[Akc,Ahd,ab,Ais,Dv]
   have ao:Akc ((q.nots.take (j+1)).filter (fun a=>!I9 rs a)=(q.nots.take j).filter (fun a=>!I9 rs a)++if (!I9 rs w)=true then [w]else []):=by
    rw[Akc,Ahd,ab,Ais,Dv]
   clear ab;rw[show rs.any (A7 w.ts)=I9 rs w from rfl]at ak;cases ah:I9 rs w with
   |true=>
    rw[ah]at ak;have HY:Akc (EL Mm (m1++[w]) (us++[ic w.p,sl id w.ts.length (Ac w.ts)])/\EL Mm m2 vs/\m1++[w]=(q.nots.take (j+1)).filter (I9 rs)/\m2=(q.nots.take (j+1)).filter fun a=>!I9 rs a):=by
     obtain⟨x1,x2,x3,x4⟩:=hY.out;exact⟨EL.append x1 (EL.single ⟨id,rfl⟩),x2,by rw[ap.out,if_pos ah,x3],by rw[ao.out,ah,x4];simp⟩
    clear hY ap ao
    repeat' (first|refine Z1 ?_|(refine Z8 ?_;intro yb ya)|(refine Z4 ?_;clear ya yb)|(refine Z2 ?_ ?_<;>intro h ai<;>try exact Xp)|(refine Z5 ?_;refine Xi (ak _) ?_;rintro _ _ ⟨rfl,ac⟩;(have ad:=ac.nobj;have aa:=ac.obj;have ay:=a4.trans ac;simp only[Ab,Aa]at ad aa))|refine Z3 ?_|exact Zt|(apply ya.out;clear ya yb))
    refine Hv (by first|exact Er|exact D2) ay (Own.keep (Own.put (Own.new bu _) _ _) ac) (by decide) (by rfl) b1 (by rfl) (by rfl) (by decide) Aj6 Aj6 ?_;intro idn σn av az af an a0 am ae;obtain⟨aw,au⟩:=ae i6 m2.length (Own.keep (Own.put (Own.new br _) _ _) ac) a5;have eob:∀p,p<σ'.nobj->σn.obj p=σ'.obj p:=fun p hp=>by rw[af,aa _ Aj6,Ah Aj6,Ag Aj6]
    refine Z3 ?_
    repeat' (first|refine Z1 ?_|(refine Z8 ?_;intro yb ya)|(refine Z4 ?_;clear ya yb)|refine Z3 ?_|exact Zt|(apply ya.out;clear ya yb))
    refine⟨q.nots.length-(j+1),Aj6,j+1,idn,i6,m1++[w],m2,us++[ic w.p,sl id w.ts.length (Ac w.ts)],vs,?_⟩
    ((repeat' refine Zi ?_ ?_)<;>first|exact Xq|exact (az.put Aj6 _)|exact (by simpa using Own.put av _ _)|exact (Own.put aw _ _)|exact HY|exact Xs)
   |false=>
    rw[ah]at ak;have HY:Akc (EL Mm m1 us/\EL Mm (m2++[w]) (vs++[ic w.p,sl id w.ts.length (Ac w.ts)])/\m1=(q.nots.take (j+1)).filter (I9 rs)/\m2++[w]=(q.nots.take (j+1)).filter fun a=>!I9 rs a):=by
     obtain⟨x1,x2,x3,x4⟩:=hY.out;exact⟨x1,EL.append x2 (EL.single ⟨id,rfl⟩),by rw[ap.out,ah,x3];simp,by rw[ao.out,ah,x4];simp⟩
    clear hY ap ao
    repeat' (first|refine Z1 ?_|(refine Z8 ?_;intro yb ya)|(refine Z4 ?_;clear ya yb)|(refine Z2 ?_ ?_<;>intro h ai<;>try exact Xp)|(refine Z5 ?_;refine Xi (ak _) ?_;rintro _ _ ⟨rfl,ac⟩;(have ad:=ac.nobj;have aa:=ac.obj;have ay:=a4.trans ac;simp only[Ab,Aa]at ad aa))|refine Z3 ?_|exact Zt)
    refine Hv (by first|exact Er|exact D2) ay (Own.keep (Own.put (Own.new br _) _ _) ac) (by decide) (by rfl) b0 (by rfl) (by rfl) (by decide) Aj6 Aj6 ?_;intro idn σn av az af an a0 am ae;obtain⟨ax,au⟩:=ae i5 m1.length (Own.keep (Own.put (Own.new bu _) _ _) ac) Aj6;have bd:i5=1\/i5≠idn:=Aj6;have eob:∀p,p<σ'.nobj->σn.obj p=σ'.obj p:=fun p hp=>by rw[af,aa _ Aj6,Ah Aj6,Ag Aj6]
    refine Z3 ?_
    repeat' (first|refine Z1 ?_|(refine Z8 ?_;intro yb ya)|(refine Z4 ?_;clear ya yb)|refine Z3 ?_|exact Zt|(apply ya.out;clear ya yb))
    refine⟨q.nots.length-(j+1),Aj6,j+1,i5,idn,m1,m2++[w],us,vs++[ic w.p,sl id w.ts.length (Ac w.ts)],?_⟩
    ((repeat' refine Zi ?_ ?_)<;>first|exact Xq|exact (az.put Aj6 _)|exact (by simpa using Own.put av _ _)|exact (Own.put ax _ _)|exact HY|exact Xs)
  ·have b4:j=q.nots.length:=Aj6;subst b4;obtain⟨x1,x2,x3,x4⟩:=hY.out;rw[Ag7]at x3 x4;have bw:=HX.out.2.2.1;have bv:=HX.out.2.2.2
   have HN:Akc (EQ (A5 q rs) [ic q.head.p,sl ih q.head.ts.length (Ac q.head.ts),sl i3 n1 xs,sl i5 m1.length us]/\EQ (H0 q rs) [ic 0,nilS,sl i4 n2 ys,sl i6 m2.length vs]):=
    ⟨⟨ih,i3,i5,xs,us,by simp only[A5];rw[bw,x3],HX.out.1,by simp only[A5];rw[<-x3];exact x1⟩,⟨1,i4,i6,ys,vs,by simp only[H0];rw[bv,x4];rfl,HX.out.2.1,by simp only[H0];rw[<-x4];exact x2⟩⟩
   clear x1 x2 x3 x4 hY bw bv
   repeat' (first|refine Z1 ?_|(refine Z8 ?_;intro yb ya)|(refine Z4 ?_;clear ya yb)|(refine Z2 ?_ ?_<;>intro h ai<;>try exact Xp)|refine Z3 ?_|exact Zt|(apply ya.out;clear ya yb))
   have o7b:σ.nobj+2<o7:=Aj6;refine Bt (Q:=fun e s' σ''=>e= .normal/\s' 4=ptr (σ.nobj+1) 0/\s' 5=ptr (σ.nobj+2) 0/\Keep σ σ''/\σ''.obj (σ.nobj+1)=[ic q.head.p,sl ih q.head.ts.length (Ac q.head.ts),sl i3 n1 xs,sl i5 m1.length us]/\σ''.obj (σ.nobj+2)=[ic 0,nilS,sl i4 n2 ys,sl i6 m2.length vs]) ?_ ?_
   ·refine A1 Ai (fun p=>p=o7\/p=o7+1) [3] [0] 3 #[true,false,false,false] Aj9 (fun _ _ _ h=>by cases h.1) ?_;intro yb ya;refine Z3 ?_;refine⟨fun p h=>.inl (Ai8 h).symm,ya.out _ ?_⟩;clear ya yb;have bg:∀(A:Nat->Bool) (i:Nat) (c:List AV),Kept A (fun p=>p=o7\/p=o7+1) σ' i (σ'.put (σ.nobj+1) c):=fun A i c _ o ho hF=>by
     have:o≠σ.nobj+1:=by rcases hF with h|h<;>omega
     simp[St.put,this]
    refine Ef (rs:=[1,2]) Aj9 (by simp) ?_;intro i hi;simp only[Ah2,Ail,Aj5]at hi;rcases hi with rfl|rfl
    ·refine Aq ?_;intro yb ya;refine Z3 ?_;refine ya.out _ _ ⟨kept_refl,?_⟩;clear ya yb;refine Am (i:=2) Aj9 ?_;refine Aq ?_;intro yb ya;refine Z3 ?_;refine ya.out _ _ ⟨bg _ _ _,?_⟩;clear ya yb;refine Am (i:=3) Aj9 ?_;refine Aq ?_;intro yb ya;refine Z3 ?_;refine ya.out _ _ ⟨Br rfl,?_⟩;clear ya yb;refine A2 Aj9 ⟨rfl,by simp[upd,h4],by simp[upd,h5],(hK.put Aj6 _).put Aj6 _,?_,?_⟩
     ·rw[Ah Aj6,Aj]
     ·rw[Aj]
    ·refine Aq ?_;intro yb ya;refine Z3 ?_;refine ya.out _ _ ⟨bg _ _ _,?_⟩;clear ya yb;refine Am (i:=1) Aj9 ?_;refine Aq ?_;intro yb ya;refine Z3 ?_;refine ya.out _ _ ⟨bg _ _ _,?_⟩;clear ya yb;refine Am (i:=3) Aj9 ?_;refine Aq ?_;intro yb ya;refine Z3 ?_;refine ya.out _ _ ⟨Br rfl,?_⟩;clear ya yb;refine A2 Aj9 ⟨rfl,by simp[upd,h4],by simp[upd,h5],(hK.put Aj6 _).put Aj6 _,?_,?_⟩
     ·rw[Ah Aj6,Aj]
     ·rw[Aj]
   ·rintro e s' σ'' ⟨rfl,g4,g5,cg,o71,o72⟩
    repeat' (first|refine Z1 ?_|refine Z3 ?_|exact Zt|(apply ya.out;clear ya yb))
    exact⟨_,rfl,⟨_,_,rs,rfl,HN.out.1,HN.out.2,HG.out,HC.out⟩⟩
abbrev MM:=List (Nat×List Bb)
def Ff (M:MM):List AV:=M.map fun x=>sl x.1 x.2.length (Dc x.2)
def Live (σ:St)(id n:Nat):Prop:=(id=1/\n=0)\/∃k,id=k+2/\k<σ.ntop/\σ.top k=n/\0<n
theorem Live.keep {σ σ':St}{id n:Nat}(h:Live σ id n)(k:Keep σ σ'):Live σ' id n:=by
 rcases h with h|⟨j,h1,h2,h3,h4⟩
 ·exact .inl h
 ·exact .inr ⟨j,h1,Agp h2 k.ntop,(k.top j h2).trans h3,h4⟩
structure MOb (σ:St)(om ot:Nat)(M:MM)(d b:Int):Prop where
 ob:σ.obj om=[fx ot 0 M.length,ic d,ic b]
 oc:σ.obj ot=Ff M
 lo:om<σ.nobj
 lt:ot<σ.nobj
 ne:om≠ot
 live:∀x∈M,Live σ x.1 x.2.length
 inj:∀(i j:Nat) (x y:Nat×List Bb),M[i]?=some x->M[j]?=some y->i≠j->x.1=1\/x.1≠y.1
 t3:∀x∈M,T3 x.2
 ln:∀x∈M,x.2.length<=5000
 pl:M.length<=5000
theorem MOb.keep {σ σ':St}{om ot:Nat}{M:MM}{d b:Int}(h:MOb σ om ot M d b)(k:Keep σ σ'):MOb σ' om ot M d b:=
 ⟨(k.obj _ h.lo).trans h.ob,(k.obj _ h.lt).trans h.oc,Agp h.lo k.nobj,Agp h.lt k.nobj,h.ne,fun x hx=>(h.live x hx).keep k,h.inj,h.t3,h.ln,h.pl⟩
theorem G8 {M:MM}{k:Nat}{x:Nat×List Bb}(h:M[k]?=some x):(Ff M)[k]?=some (sl x.1 x.2.length (Dc x.2)):=by simp[Ff,h]
theorem G7 (M:MM):(Ff M).length=M.length:=by simp[Ff]
theorem Kz (om ot:Nat)(M:MM)(d b:Int)(σ:St)(hM:MOb σ om ot M d b):ACalls Tryz.prog 51 [ptr om 0] σ fun r σ'=>r=sc (.bool (decide (b<d)))/\σ'=σ:=by
 have ob:=hM.ob;have ab:decide (d>b)=decide (b<d):=rfl;refine Z9 12 [.tmp 2] Tryz.func51 ?_
 repeat' (first|refine Z1 ?_|(refine Z8 ?_;intro yb ya)|(refine Z4 ?_;clear ya yb)|refine Z3 ?_|exact Zt|(apply ya.out;clear ya yb))
 refine A8 Ai (fun _=>True) [9] [0,1,2,3,4,5,6,7,8] [9] Aj9 (fun _ _ _ h=>h) ?_;intro yb ya
 repeat' (first|refine Z1 ?_|(refine Z8 ?_;intro yb ya)|(refine Z4 ?_;clear ya yb)|(refine Z2 ?_ ?_<;>intro h aa<;>try exact Xp)|refine Z3 ?_|exact Zt|(apply ya.out;clear ya yb))
 first|exact⟨_,rfl,rfl⟩|exact⟨_,rfl,rfl,rfl⟩|exact⟨_,rfl⟩
def Cr (a:De):Bb:=C4 (a.ts.map (·.2))
theorem I0 (om ot:Nat)(M:MM)(d b:Int)(a:De)(id k:Nat)(x:Nat×List Bb)(ha:a.ts.length<=3)(hk:a.p=(k:Int))(hx:M[k]?=some x)(σ:St)(hM:MOb σ om ot M d b):ACalls Tryz.prog 81 [ptr om 0,ag [ic a.p,sl id a.ts.length (Ac a.ts)]] σ fun r σ'=>r=sc (.bool (decide (Cr a∈x.2)))/\Keep σ σ':=by
 have an:a.ts.length<=1000:=Aj6;have ah:=fun σ=>Ru a.p id a.ts an σ;have aj:=Ag1 hx;have h3:=hM.t3 x aj;have ay:=hM.ln x aj;have av:=E6 h3;have az:k<M.length:=(Agy.1 hx).1;have hpl:=hM.pl;have ax:=G7 M;have a3:=G8 hx;have lo:=hM.lo;have lt:=hM.lt;have ob:=hM.ob;have oc:=hM.oc;rw[hk];rw[hk]at ah;have am:(C4 (a.ts.map (·.2))).length=3:=rfl;have HT:Akc (Cr a=C4 (a.ts.map (·.2))):=rfl;generalize Cr a=ta at*
 generalize C4 (a.ts.map (·.2))=t0 at*
 obtain⟨a0,b0,c0,rfl⟩:∃a0 b0 c0,t0=[a0,b0,c0]:=by
  match t0,am with
  |[a0,b0,c0],_=>exact⟨a0,b0,c0,rfl⟩
 simp only[Al,Ahj,Ahk]at ah;refine Z9 27 [.tmp 4] Tryz.func81 ?_
 repeat' (first|refine Z1 ?_|(refine Z8 ?_;intro yb ya)|(refine Z4 ?_;clear ya yb)|(refine Z5 ?_;refine Xi (ah _) ?_;rintro _ _ ⟨rfl,ae⟩;(have af:=ae.nobj;have ac:=ae.obj;have ai:=((Keep.refl σ).new _).trans ae;simp only[Aa]at af ac))|refine Z3 ?_|exact Zt|(apply ya.out;clear ya yb))
 rename_i σ1;have ak:Keep σ ((σ1.new [ic 0,ic 0,ic 0]).put σ1.nobj [ic a0,ic b0,ic c0]):=(ai.new _).put Aj6 _;have e0:σ1.obj σ.nobj=[ic (k:Int),sl id a.ts.length (Ac a.ts)]:=by rw[ac _ Aj6,Ao]
 have e1:σ1.obj om=[fx ot 0 M.length,ic d,ic b]:=by rw[ai.obj _ lo,ob]
 have e2:σ1.obj ot=Ff M:=by rw[ai.obj _ lt,oc]
 clear ac ae;refine A8 Ai (fun _=>True) [] [0,1,2,3,4,5,6,7,8,9] [] Aj9 (fun _ _ _ h=>h) ?_;intro yb ya
 repeat' (first|refine Z1 ?_|(refine Z8 ?_;intro yb ya)|(refine Z4 ?_;clear ya yb)|(refine Z2 ?_ ?_<;>intro h ad<;>try exact Xp)|refine Z3 ?_|exact Zt|(apply ya.out;clear ya yb))
 clear e0 e1 e2
 refine Af (fun m s σ'=>∃i:Nat,m=x.2.length-i/\i<=x.2.length/\s 5=ptr σ1.nobj 0/\s 17=sl x.1 x.2.length (Dc x.2)/\s 18=ic x.2.length/\s 19=ic i/\Keep σ σ'/\σ1.nobj<σ'.nobj/\σ'.obj σ1.nobj=[ic a0,ic b0,ic c0]/\Akc ([a0,b0,c0]∉x.2.take i)) x.2.length
  ⟨0,Aj6,Aj6,Aj8,Aj8,Aj8,rfl,ak,Akb,by rw[Aj],by simp[Akc]⟩ ?_
 clear ak;rintro m s σ' ⟨i,rfl,hi,h5,a7,a6,a5,hK,aw,ap,aa⟩;have au:=hK.nobj;by_cases ao:i<x.2.length
 ·have ab:=Agz ao;obtain⟨p,q,r,rr,he,hd⟩:=pM h3 ab;rw[he]at ab;clear he;have HG:Akc (x.2[i]?=some [p,q,r]):=ab;clear ab;by_cases hc:p=a0/\q=b0/\r=c0
  ·obtain⟨rfl,rfl,rfl⟩:=hc;have hm:decide (ta∈x.2)=true:=by rw[HT.out];simpa using Ag1 HG.out
   repeat' (first|refine Z1 ?_|(refine Z8 ?_;intro yb ya)|(refine Z4 ?_;clear ya yb)|(refine Z2 ?_ ?_<;>intro h ad<;>try exact Xp)|refine Z3 ?_|exact Zt|(apply ya.out;clear ya yb))
   first|exact⟨_,rfl,rfl,Xs⟩|exact⟨_,rfl,by rw[hm],Xs⟩|(refine⟨_,rfl,?_⟩;((repeat' refine Zi ?_ ?_)<;>first|exact Xq|exact (by rw[hm])|exact Xs))
  ·have a4:(p==a0&&q==b0&&r==c0)=false:=by
    cases h:(p==a0&&q==b0&&r==c0)with
    |false=>rfl
    |true=>simp at h;exact absurd ⟨h.1.1,h.1.2,h.2⟩ hc
   have HN:Akc ([a0,b0,c0]∉x.2.take (i+1)):=Va aa.out HG.out (fun e=>by simp at e;exact hc ⟨e.1,e.2.1,e.2.2⟩);clear hc aa
   repeat' (first|refine Z1 ?_|(refine Z8 ?_;intro yb ya)|(refine Z4 ?_;clear ya yb)|(refine Z2 ?_ ?_<;>intro h ad<;>try exact Xp)|refine Z3 ?_|exact Zt|(apply ya.out;clear ya yb))
   refine⟨x.2.length-(i+1),Aj6,i+1,?_⟩
   ((repeat' refine Zi ?_ ?_)<;>first|exact Xq|exact HN|exact Xs)
 ·have hil:i=x.2.length:=Aj6;subst hil;rw[Ag7]at aa;have hm:decide (ta∈x.2)=false:=by rw[HT.out];simpa using aa.out
  repeat' (first|refine Z1 ?_|(refine Z8 ?_;intro yb ya)|(refine Z4 ?_;clear ya yb)|(refine Z2 ?_ ?_<;>intro h ad<;>try exact Xp)|refine Z3 ?_|exact Zt|(apply ya.out;clear ya yb))
  first|exact⟨_,rfl,rfl,hK⟩|exact⟨_,rfl,rfl⟩|exact⟨_,rfl,by rw[hm],hK⟩|exact⟨_,rfl,by rw[hm]⟩
structure KM (om ot:Nat)(M M':MM)(σ σ':St):Prop where
 nobj:σ.nobj<=σ'.nobj
 obj:∀o,o<σ.nobj->o≠om->o≠ot->σ'.obj o=σ.obj o
 ver:∀o,o<σ.nobj->o≠om->o≠ot->σ'.ver o=σ.ver o
 ntop:σ.ntop<=σ'.ntop
 top:∀k,k<σ.ntop->(∀x∈M,x.1≠k+2)->σ'.top k=σ.top k
 mid:∀x∈M',(∃y∈M,y.1=x.1)\/x.1=1\/σ.ntop+2<=x.1
theorem KM.ofKeep {om ot:Nat}{M:MM}{σ σ':St}(h:Keep σ σ'):KM om ot M M σ σ':=
 ⟨h.nobj,fun o ho _ _=>h.obj o ho,fun o ho _ _=>h.ver o ho,h.ntop,fun k hk _=>h.top k hk,fun x hx=>.inl ⟨x,hx,rfl⟩⟩
theorem KM.trans {om ot:Nat}{M M1 M2:MM}{σ σ1 σ2:St}(h:KM om ot M M1 σ σ1)(g:KM om ot M1 M2 σ1 σ2):KM om ot M M2 σ σ2 where
 nobj:=Ago h.nobj g.nobj
 obj:=fun o ho h1 h2=>(g.obj o (Agp ho h.nobj) h1 h2).trans (h.obj o ho h1 h2)
 ver:=fun o ho h1 h2=>(g.ver o (Agp ho h.nobj) h1 h2).trans (h.ver o ho h1 h2)
 ntop:=Ago h.ntop g.ntop
 top:=fun k hk hx=>(g.top k (Agp hk h.ntop) (fun x aa e=>by
  rcases h.mid x aa with⟨y,hy,e2⟩|e2|e2
  ·exact hx y hy (e2.trans e)
  ·omega
  ·omega)).trans (h.top k hk hx)
 mid:=fun x hx=>by
  rcases g.mid x hx with⟨y,hy,e⟩|e|e
  ·rcases h.mid y hy with⟨z,hz,e2⟩|e2|e2
   ·exact .inl ⟨z,hz,e2.trans e⟩
   ·exact .inr (.inl Aj6)
   ·exact .inr (.inr Aj6)
  ·exact .inr (.inl e)
  ·exact .inr (.inr (by have:=h.ntop;omega))
theorem uF {P:Program}{t:TypeId}{z b:Nat}{zc:List Value}{σ:St}{id id2 n m m':Nat}{xs ys:List AV}{K:AV->St->Prop}(ht:Nm P t=some (z,b,zc))(hO:Live σ id n)
  (hz:0<z) (hzc:zc.length=z) (hx:xs.length=n*z) (hy:ys.length=m*z) (hf:ys.all flat=true) (hm:0<m) (hb:(n+m)*b<=140737488355328) (hl:n+m<=1099511627776)
  (h:∀id' σ',Live σ' id' (n+m)->(id'=id\/σ.ntop+2<=id')->id'≠1->σ'.obj=σ.obj->σ'.nobj=σ.nobj->σ'.ver=σ.ver->σ.ntop<σ'.ntop->(∀k,k<σ.ntop->k+2≠id->σ'.top k=σ.top k)->K (sl id' (n+m) (xs++ys)) σ'):Ib P t t (sl id n xs) (sl id2 m ys) (σ.lay m') K:=by
 unfold Ib cZ;left;simp only[ht];rw[if_pos ⟨trivial,hz,hzc,hx,hy,hf,hm,hb,hl⟩];rcases hO with⟨rfl,rfl⟩|⟨k,rfl,h3,h4,h5⟩
 ·have aa:xs=[]:=Ag5 (by simpa using hx);subst aa;have:=h ((σ.lay m').ntop+2) ((σ.lay m').lay m) (.inr ⟨(σ.lay m').ntop,rfl,by simp[St.lay],by simp[St.lay],Aj6⟩) (.inr (by simp[St.lay])) (by simp) rfl rfl rfl (by simp[St.lay];omega) (fun k hk _=>(((Keep.refl σ).lay m').lay m).top k hk);simpa using this
 ·have e1:(σ.lay m').top k=n:=by simp[St.lay];rw[if_neg Aj6];exact h4
  simp only;rw[if_pos ⟨e1,h5⟩]
  exact h (k+2) _ (.inr ⟨k,rfl,by simp[St.raise,St.lay];omega,by simp[St.raise],Aj6⟩) (.inl rfl) Aj6 rfl rfl rfl (by simp[St.raise,St.lay]) (fun j hj ab=>by
   simp[St.raise,St.lay]
   rw[if_neg Aj6,if_neg Aj6])
theorem MOb.grow {σ σ':St}{om ot:Nat}{M:MM}{d b:Int}{k id':Nat}{x:Nat×List Bb}{t:Bb}(hM:MOb σ om ot M d b)(hx:M[k]?=some x)(ht:t.length=3)(hn:x.2.length<5000)
  (hL:Live σ' id' (x.2.length+1)) (hid:id'=x.1\/σ.ntop+2<=id') (an:id'≠1) (eob:∀o,o<σ.nobj->o≠ot->σ'.obj o=σ.obj o) (aj:∀o,o<σ.nobj->o≠ot->σ'.ver o=σ.ver o) (eoc:σ'.obj ot=(Ff M).set k (sl id' (x.2.length+1) (Dc x.2++Al t))) (eno:σ.nobj<=σ'.nobj) (ento:σ.ntop<=σ'.ntop)
  (etop:∀j,j<σ.ntop->j+2≠x.1->σ'.top j=σ.top j):MOb σ' om ot (M.set k (id',x.2++[t])) d b/\KM om ot M (M.set k (id',x.2++[t])) σ σ':=by
 have ae:=Ag1 hx;have am:k<M.length:=(Agy.1 hx).1;have ah:∀(i:Nat) (y:Nat×List Bb),M[i]?=some y->i≠k->Live σ' y.1 y.2.length/\(y.1=1\/y.1≠id'):=fun i y hy ac=>by
  have ak:=Ag1 hy;rcases hM.live y ak with h|⟨j,e1,e2,e3,e4⟩
  ·exact⟨.inl h,.inl h.1⟩
  ·have ao:y.1≠x.1:=by
    rcases hM.inj i k y x hy hx ac with h|h
    ·omega
    ·exact h
   refine⟨.inr ⟨j,e1,Agp e2 ento,(etop j e2 Aj6).trans e3,e4⟩,.inr ?_⟩;rcases hid with h|h<;>omega
 have aa:∀(i:Nat) (y:Nat×List Bb),(M.set k (id',x.2++[t]))[i]?=some y->(i=k/\y=(id',x.2++[t]))\/(i≠k/\M[i]?=some y):=fun i y hy=>by
  rw[Ag8]at hy;by_cases e:k=i
  ·subst e;rw[if_pos rfl,if_pos am]at hy;exact .inl ⟨rfl,(Ai8 hy).symm⟩
  ·rw[if_neg e]at hy;exact .inr ⟨fun h=>e h.symm,hy⟩
 have ab:∀y∈M.set k (id',x.2++[t]),y=(id',x.2++[t])\/y∈M:=fun y hy=>(Ajm hy).symm;have ai:∀y∈M.set k (id',x.2++[t]),∃i,(M.set k (id',x.2++[t]))[i]?=some y:=fun y hy=>Aif hy;refine⟨⟨?_,?_,Agp hM.lo eno,Agp hM.lt eno,hM.ne,?_,?_,?_,?_,by simp;exact hM.pl⟩,⟨eno,fun o ho h1 h2=>eob o ho h2,fun o ho h1 h2=>aj o ho h2,ento,fun j hj h=>etop j hj (fun e=>h x ae e.symm),?_⟩⟩
 ·rw[eob om hM.lo hM.ne,hM.ob];simp
 ·rw[eoc];unfold Ff;rw[List.map_set];congr 1;simp[Dc]
 ·intro y hy;obtain⟨i,hi⟩:=ai y hy;rcases aa i y hi with⟨-,rfl⟩|⟨ac,ad⟩
  ·simpa using hL
  ·exact (ah i y ad ac).1
 ·intro i j y w hy hw ac;rcases aa i y hy with⟨rfl,rfl⟩|⟨h1,ad⟩
  ·rcases aa j w hw with⟨rfl,rfl⟩|⟨h2,af⟩
   ·exact absurd rfl ac
   ·have:=(ah j w af h2).2;simp only;by_cases e:id'=w.1
    ·rcases this with h|h
     ·omega
     ·omega
    ·exact .inr e
  ·rcases aa j w hw with⟨rfl,rfl⟩|⟨h2,af⟩
   ·exact (ah i y ad h1).2
   ·exact hM.inj i j y w ad af ac
 ·intro y hy;rcases ab y hy with rfl|hy
  ·intro u hu;rcases Ah8.1 hu with h|h
   ·exact hM.t3 x ae u h
   ·simp at h;subst h;exact ht
  ·exact hM.t3 y hy
 ·intro y hy;rcases ab y hy with rfl|hy
  ·simp;omega
  ·exact hM.ln y hy
 ·intro y hy;rcases ab y hy with rfl|hy
  ·rcases hid with h|h
   ·exact .inl ⟨x,ae,h.symm⟩
   ·exact .inr (.inr h)
  ·exact .inl ⟨y,hy,rfl⟩
theorem Vs (om ot:Nat)(M:MM)(d b:Int)(a:De)(id k:Nat)(x:Nat×List Bb)(ha:a.ts.length<=3)(hk:a.p=(k:Int))(hx:M[k]?=some x)(hn:x.2.length<5000)(σ:St)(hM:MOb σ om ot M d b):ACalls Tryz.prog 82 [ptr om 0,ag [ic a.p,sl id a.ts.length (Ac a.ts)]] σ fun r σ'=>∃id',MOb σ' om ot (M.set k (id',x.2++[Cr a])) d b/\KM om ot M (M.set k (id',x.2++[Cr a])) σ σ':=by
 have au:a.ts.length<=1000:=Aj6;have am:=fun σ=>Ru a.p id a.ts au σ;have ak:=Ag1 hx;have h3:=hM.t3 x ak;have hL:=hM.live x ak;have ap:=E6 h3;have ax:k<M.length:=(Agy.1 hx).1;have hpl:=hM.pl;have aw:=G7 M;have ay:=G8 hx;have lo:=hM.lo;have lt:=hM.lt;have ob:=hM.ob;have oc:=hM.oc;rw[hk];rw[hk]at am;have ah:(C4 (a.ts.map (·.2))).length=3:=rfl;have HT:Akc (Cr a=C4 (a.ts.map (·.2))):=rfl;generalize Cr a=ta at*
 generalize C4 (a.ts.map (·.2))=t0 at*
 have w1:=Dr ah;have w5:=Cn t0;have w4:=Hz ah;refine Z9 23 [] Tryz.func82 ?_
 repeat' (first|refine Z1 ?_|(refine Z8 ?_;intro yb ya)|(refine Z4 ?_;clear ya yb)|refine Z3 ?_|exact Zt|(apply ya.out;clear ya yb))
 refine Bt (Q:=fun e s' σ'=>e= .normal/\∃id',MOb σ' om ot (M.set k (id',x.2++[ta])) d b/\KM om ot M (M.set k (id',x.2++[ta])) σ σ') ?_ ?_
 ·refine A1 Ai (fun _=>True) [19] [0,1,2,3,4,5,6,7,8,9,10,11,12,13,14] 5 #[true,true,true,true,true,true,true,true,true,true,true,true,true,true,true,false,false,false,false,false] Aj9 (fun _ _ _ h=>by cases h.1) ?_;intro yb ya;refine Z3 ?_;refine ya.out _ ?_;clear ya yb;refine Am (i:=15) Aj9 ?_;refine Aq ?_;intro yb ya;refine Z3 ?_;refine ACalls.mono (am _) ?_;rintro _ σ5 ⟨rfl,ac⟩;refine Z3 ?_;refine ya.out _ _ ⟨Ap ac,?_⟩;clear ya yb;have af:=ac.nobj;simp only[Aa]at af;have aa:Keep σ σ5:=((Keep.refl σ).new _).trans ac;have e1:σ5.obj om=[fx ot 0 M.length,ic d,ic b]:=by rw[aa.obj _ lo,ob]
  have e2:σ5.obj ot=Ff M:=by rw[aa.obj _ lt,oc]
  refine Am (i:=16) Aj9 ?_;refine Aq ?_;intro yb ya;refine Z3 ?_;refine ya.out _ _ ⟨Ap (ac.lay 1),?_⟩;clear ya yb;refine Am (i:=17) Aj9 ?_;refine Aq ?_;intro yb ya;refine Z3 ?_;refine uF (by first|exact Fw) (hL.keep aa) (by decide) (by rfl) ap (by rw[w1]) w5 (by decide) Aj6 Aj6 ?_;intro idn σn av ai aj ae ao ab an etop;have e3:σn.obj ot=Ff M:=by rw[ae,e2]
  refine Z3 ?_;refine ya.out _ _ ⟨fun _ o ho _=>by rw[ab];exact ac.ver o ho,?_⟩;clear ya yb;refine Am (i:=18) Aj9 ?_;refine Aq ?_;intro yb ya;refine Z3 ?_;refine ya.out _ _ ⟨fun _ o ho _=>by rw[ab];exact ac.ver o ho,?_⟩;clear ya yb;refine Am (i:=19) Aj9 ?_;refine Aq ?_;intro yb ya;refine Z3 ?_;refine ya.out _ _ ⟨Br rfl,?_⟩;clear ya yb;refine A2 Aj9 ⟨rfl,idn,?_⟩;rw[HT.out];refine MOb.grow hM hx ah hn ?_ ?_ aj ?_ ?_ ?_ ?_ ?_ ?_
  ·rcases av with h|⟨j,h1,h2,h3,h4⟩
   ·exact .inl h
   ·exact .inr ⟨j,h1,h2,h3,h4⟩
  ·have:=aa.ntop;rcases ai with h|h
   ·exact .inl h
   ·exact .inr Aj6
  ·intro o ho ad;rw[show∀(S:St) c,(S.put ot c).obj o=S.obj o from fun S c=>by simp[St.put,ad],ae,aa.obj o ho]
  ·intro o ho ad;rw[show∀(S:St) c,(S.put ot c).ver o=S.ver o from fun S c=>by simp[St.put,ad],ab,aa.ver o ho]
  ·rw[Aj]
  ·have:=aa.nobj;simp only[Ab];omega
  ·have:=aa.ntop;simp only[Uu];omega
  ·intro j hj ad;rw[Sz,etop j (Agp hj aa.ntop) ad,aa.top j hj]
 ·rintro e s' σ'' ⟨rfl,idn,h1,h2⟩
  repeat' (first|refine Z1 ?_|refine Z3 ?_|exact Zt|(apply ya.out;clear ya yb))
  exact⟨_,rfl,idn,h1,h2⟩
end Go.Proofs.YtmoeoppbmhfbpabGreatDoorL
