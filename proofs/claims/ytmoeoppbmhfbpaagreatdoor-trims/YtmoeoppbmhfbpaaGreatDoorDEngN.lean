import Derived.Test.YtmoeoppbmhfbpaaGreatDoorDEngJ
set_option maxHeartbeats 32000000
set_option maxRecDepth 100000
set_option linter.all false
namespace Go.Proofs.YtmoeoppbmhfbpaaGreatDoorD
open Go.Abs
def E7 (l:List Dy)(small big:List Int):Prop:=∀a∈l,small.any (A9 a.ts)=true->∀v,(true,v)∈a.ts->v∈big
def Grown (init V rs:List Int):Prop:=∃ad:List Int,rs=init++ad/\ad.Nodup/\∀v∈ad,v∈V
theorem Grown.le {init V rs:List Int}(h:Grown init V rs):rs.length<=init.length+V.length:=by
 obtain⟨ad,rfl,h1,h2⟩:=h;have:=Uv h1 h2;simp;omega
theorem Grown.snoc {init V rs:List Int}(h:Grown init V rs){v:Int}(hv:v∈V)(hn:v∉rs):Grown init V (rs++[v]):=by
 obtain⟨ad,rfl,h1,h2⟩:=h;refine⟨ad++[v],by simp,?_,?_⟩
 ·rw[Afr];exact⟨h1,by simp,fun a ha b hb=>by simp at hb;subst hb;rintro rfl;exact hn (Aet.2 (.inr ha))⟩
 ·intro u hu;rcases Aet.1 hu with h|h
  ·exact h2 u h
  ·simp at h;subst h;exact hv
theorem Wu (q:Qry)(c:List AV)(init:List Int)(idi:Nat)(hc:EQ q c)(hq:Om q)(cg:init.length<=200)(σ:St):ACalls Tryz.prog 217 [ag c,sl idi init.length (Ar init)] σ fun r σ'=>(∃id rs,r=sl id rs.length (Ar rs)/\Grown init (Cn (atomsQ q)) rs/\E7 (atomsQ q) rs rs)/\Keep σ σ':=by
 have b8:=fun σ=>Iz q c hc hq σ;have bh:=Lz hq;have cn:=Ik hq;have ck:=Gp bh;have b5:∀a∈atomsQ q,∀v,(true,v)∈a.ts->v∈Cn (atomsQ q):=fun a ha v hv=>(Dp _ _).2 ⟨a,ha,hv⟩;obtain⟨ih,ip,inn,pc,nc,rfl,-,-⟩:=hc;generalize Cn (atomsQ q)=V at*
 generalize atomsQ q=l at*
 have ch:=Bs init;refine Z9 66 [.tmp 4] Tryz.func217 ?_
 refine zz ?_
 refine Ad (fun m s σ'=>∃(j i3:Nat) (rs:List Int),m=init.length-j/\j<=init.length/\s 2=ptr σ.nobj 0/\s 5=sl i3 rs.length (Ar rs)/\s 14=sl idi init.length (Ar init)/\s 15=ic init.length/\s 16=ic j/\Keep σ σ'/\σ.nobj<σ'.nobj/\σ'.obj σ.nobj=[ic q.head.p,sl ih q.head.ts.length (Af q.head.ts),sl ip q.parts.length pc,sl inn q.nots.length nc]/\Own σ σ' i3 rs.length/\rs.length<=j/\Agt (rs=init.take j)) init.length
  ⟨0,1,[],Agm,Agm,Ago,by simp[upd,Ar],by simp[upd,initS],Ago,rfl,Xs,Agq,by rw[Al],Own.nil _ _,by simp,by simp[Agt]⟩ ?_
 rintro m s σ' ⟨j,i3,rs,rfl,hj,h2,h5,cb,ca,b9,hK,ao,ae,hO,bd,hR⟩;have au:=hK.nobj;by_cases a5:j<init.length
 ·have aa:=Adn a5;obtain⟨r,hd⟩:=Di aa;generalize init[j]=v at hd aa;have HR:Agt (rs++[v]=init.take (j+1)):=by rw[Agt,Ad0,aa,Aez,hR.out]
  have bz:=Bs rs;clear aa hR
  repeat' first|refine Z1 ?_|refine Z8 fun ya J=>?_|refine Z4 ?_;clear J ya|refine Z2 ?_ ?_<;>intro h ab<;>try exact Xp|refine Z6 ?_;intro idn σn a9 b6 bb a4 ba a3|refine Z3 ?_|exact Zt|apply J.out;clear J ya
  refine⟨init.length-(j+1),Agm,j+1,idn,rs++[v],?_⟩
  ((repeat' refine Zi ?_ ?_)<;>first|exact Xq|exact (by simpa using a9)|exact HR|exact (by simp[Ar])|exact Xs)
 ·have a8:j=init.length:=Agm;subst a8;rw[Adu]at hR;have hR:=hR.out.symm;subst hR;clear a5 hj
  repeat' first|refine Z1 ?_|refine Z8 fun ya J=>?_|refine Z4 ?_;clear J ya|refine Z2 ?_ ?_<;>intro h ab<;>try exact Xp|refine Z3 ?_|exact Zt|apply J.out;clear J ya
  refine Ad (fun m s σ'=>∃(B i3:Nat) (Bi:Int) (rs:List Int),m=2*(init.length+V.length-rs.length)+(if Bi<(rs.length:Int)then 1 else 0)/\(Bi=B\/(Bi= -1/\B=0))/\s 2=ptr σ.nobj 0/\s 5=sl i3 rs.length (Ar rs)/\s 8=ic Bi/\Keep σ σ'/\σ.nobj<σ'.nobj/\σ'.obj σ.nobj=[ic q.head.p,sl ih q.head.ts.length (Af q.head.ts),sl ip q.parts.length pc,sl inn q.nots.length nc]/\Own σ σ' i3 rs.length/\rs.length<=init.length+V.length/\B<=rs.length/\Agt (Grown init V rs/\E7 l (rs.take B) rs)) (2*(init.length+V.length-init.length)+1)
   ⟨0,i3,-1,init,by rw[if_pos Agm],.inr ⟨rfl,rfl⟩,Agn,Agn,Ago,hK,ao,ae,hO,Agm,Agm,⟨[],by simp,Afs,by simp⟩,fun a ha h=>by simp at h⟩ ?_
  clear hK ao ae hO h2 h5 cb ca b9 au;rintro m s σ' ⟨B,i3,Bi,rs,rfl,b7,h2,h5,h8,hK,ao,ae,hO,bd,cm,hG⟩;have au:=hK.nobj;have bz:=Bs rs;by_cases a5:Bi<(rs.length:Int)
  ·rw[if_pos a5]
   repeat' first|refine Z1 ?_|refine Z8 fun ya J=>?_|refine Z4 ?_;clear J ya|refine Z2 ?_ ?_<;>intro h ab<;>try exact Xp|refine Z5 ?_;refine Xi (b8 _) ?_;rintro _ _ ⟨ida,cs,rfl,hE,az⟩;(have a7:=az.nobj;have av:=az.obj;have am:=hK.trans az;have ak:=Own.keep hO az)|refine Z3 ?_|exact Zt|apply J.out;clear J ya
   rename_i σa;have cj:=EL.length Hp hE
   refine Ad (fun m s σ2=>∃(k i4:Nat) (ws:List Int),m=l.length-k/\k<=l.length/\s 2=ptr σ.nobj 0/\s 5=sl i4 ws.length (Ar ws)/\s 8=ic rs.length/\s 32=sl ida l.length cs/\s 33=ic l.length/\s 34=ic k/\Keep σ σ2/\σ.nobj<σ2.nobj/\σ2.obj σ.nobj=[ic q.head.p,sl ih q.head.ts.length (Af q.head.ts),sl ip q.parts.length pc,sl inn q.nots.length nc]/\Own σ σ2 i4 ws.length/\ws.length<=init.length+V.length/\rs.length<=ws.length/\Agt (Grown init V ws/\ws.take rs.length=rs/\E7 (l.take k) rs ws)) l.length
    ⟨0,i3,rs,Agm,Agm,Agn,Agn,Agn,Ago,Ago,rfl,am,Agm,by rw[av _ Agm,ae],ak,bd,Agm,hG.out.1,by simp,fun a ha=>by simp at ha⟩ ?_
   clear am ak av hK hO ae ao h2 h5 h8 au az a7;rintro m s σ2 ⟨k,i4,ws,rfl,hk,h2,h5,h8,bn,bm,bi,hK,ao,ae,hO,bp,bv,hW⟩;have au:=hK.nobj;have cc:=Bs ws;by_cases ap:k<l.length
   ·have aa:=Adn ap;obtain⟨ida2,r2,b3⟩:=I4 hE aa;have hb:=bh _ (Aes ap);have bf:=b5 _ (Aes ap);generalize l[k]=a at b3 aa hb bf;have HT:Agt (l.take (k+1)=l.take k++[a]):=by rw[Agt,Ad0,aa,Aez]
    clear aa;have bq:ws.length<=100000:=Agm;have b4:a.ts.length<=1000:=Agm;have a0:=fun σ=>Kn a.p ida2 a.ts ws i4 b4 bq σ;have aw:∀v∈rs,v∈ws:=fun v hv=>by
     have:=hW.out.2.1;rw[<-this]at hv;exact Af1 hv
    cases ai:ws.any (A9 a.ts)with
    |false=>
     have HW:Agt (Grown init V ws/\ws.take rs.length=rs/\E7 (l.take (k+1)) rs ws):=by
      refine⟨hW.out.1,hW.out.2.1,?_⟩;rw[HT.out];intro b hb h v hv;rcases Aet.1 hb with hb|hb
      ·exact hW.out.2.2 b hb h v hv
      ·simp at hb;subst hb;rw[Aer]at h;obtain⟨u,hu,he⟩:=h;rw[Aev]at ai;exact absurd he (ai u (aw u hu))
     rw[ai]at a0;clear hW HT aw
     repeat' first|refine Z1 ?_|refine Z8 fun ya J=>?_|refine Z4 ?_;clear J ya|refine Z2 ?_ ?_<;>intro h ab<;>try exact Xp|refine Z5 ?_;refine Xi (a0 _) ?_;rintro _ _ ⟨rfl,ad⟩;(have ah:=ad.nobj;have ac:=ad.obj;have am:=((hK.new _).put hK.nobj _).trans ad;have ak:=Own.keep (Own.put (Own.new hO _) _ _) ad;simp only[Ac,Aa]at ah ac)|refine Z3 ?_|exact Zt|apply J.out;clear J ya
     refine⟨l.length-(k+1),Agm,k+1,i4,ws,?_⟩
     ((repeat' refine Zi ?_ ?_)<;>first|exact Xq|exact HW|exact Xs)
    |true=>
     rw[ai]at a0;have cf:=Eb a.ts
     repeat' first|refine Z1 ?_|refine Z8 fun ya J=>?_|refine Z4 ?_;clear J ya|refine Z2 ?_ ?_<;>intro h ab<;>try exact Xp|refine Z5 ?_;refine Xi (a0 _) ?_;rintro _ _ ⟨rfl,ad⟩;(have ah:=ad.nobj;have ac:=ad.obj;have am:=((hK.new _).put hK.nobj _).trans ad;have ak:=Own.keep (Own.put (Own.new hO _) _ _) ad;simp only[Ac,Aa]at ah ac)|refine Z3 ?_|exact Zt|apply J.out;clear J ya
     rename_i σb;have b0:σb.obj σ2.nobj=[ic a.p,sl ida2 a.ts.length (Af a.ts)]:=by rw[ac _ Agm,Aj]
     refine Ad (fun m s σ3=>∃(j i5:Nat) (us:List Int),m=a.ts.length-j/\j<=a.ts.length/\s 2=ptr σ.nobj 0/\s 5=sl i5 us.length (Ar us)/\s 8=ic rs.length/\s 32=sl ida l.length cs/\s 33=ic l.length/\s 34=ic k/\s 43=sl ida2 a.ts.length (Af a.ts)/\s 44=ic a.ts.length/\s 45=ic j/\Keep σ σ3/\σ.nobj<σ3.nobj/\σ3.obj σ.nobj=[ic q.head.p,sl ih q.head.ts.length (Af q.head.ts),sl ip q.parts.length pc,sl inn q.nots.length nc]/\Own σ σ3 i5 us.length/\us.length<=init.length+V.length/\rs.length<=us.length/\Agt (Grown init V us/\us.take rs.length=rs/\(∀v∈ws,v∈us)/\∀v,(true,v)∈a.ts.take j->v∈us)) a.ts.length
      ⟨0,i4,ws,Agm,Agm,Agn,Agn,Agn,Agn,Agn,Agn,Ago,Ago,rfl,am,Agm,by rw[ac _ Agm,Ak Agm,Ah Agm,ae],ak,bp,bv,hW.out.1,hW.out.2.1,fun v hv=>hv,by simp⟩ ?_
     clear am ak ac hK hO ae ao h2 h5 h8 bn bm bi au ad ah b0 a0;rintro m s σ3 ⟨j,i5,us,rfl,hj,h2,h5,h8,bn,bm,bi,cq,cp,co,hK,ao,ae,hO,cd,bw,hU⟩;have au:=hK.nobj;have ce:=Bs us;by_cases ax:j<a.ts.length
     ·have aa:=Adn ax;obtain⟨r3,b2⟩:=Ec aa;have bc:=Aes ax;generalize a.ts[j]=w at b2 aa bc;obtain⟨w1,w2⟩:=w;have bo:Agt (a.ts.take (j+1)=a.ts.take j++[(w1,w2)]):=by rw[Agt,Ad0,aa,Aez]
      clear aa;have bu:us.length<=100000:=Agm;have be:=Q2 w2 us;have bg:=fun σ=>Jb w2 us i5 bu σ;have HU:Agt ((w1=true->w2∈us)->(Grown init V us/\us.take rs.length=rs/\(∀v∈ws,v∈us)/\∀v,(true,v)∈a.ts.take (j+1)->v∈us)):=fun hw=>by
       refine⟨hU.out.1,hU.out.2.1,hU.out.2.2.1,fun v hv=>?_⟩;rw[bo.out]at hv;rcases Aet.1 hv with h|h
       ·exact hU.out.2.2.2 v h
       ·simp at h;obtain⟨h1,h2⟩:=h;subst h2;exact hw h1
      cases w1 with
      |false=>
       repeat' first|refine Z1 ?_|refine Z8 fun ya J=>?_|refine Z4 ?_;clear J ya|refine Z2 ?_ ?_<;>intro h ab<;>try exact Xp|refine Z3 ?_|exact Zt|apply J.out;clear J ya
       refine⟨a.ts.length-(j+1),Agm,j+1,i5,us,?_⟩
       ((repeat' refine Zi ?_ ?_)<;>first|exact Xq|exact (Own.put (Own.new hO _) _ _)|exact (HU.out (fun h=>by cases h))|exact Xs)
      |true=>
       by_cases hm:w2∈us
       ·have ay:decide (w2∉us)=false:=by simp[hm]
        rw[ay]at be;have HU:=HU.out (fun _=>hm);have HU:Agt _:=HU;clear ay hm
        repeat' first|refine Z1 ?_|refine Z8 fun ya J=>?_|refine Z4 ?_;clear J ya|refine Z2 ?_ ?_<;>intro h ab<;>try exact Xp|refine Z5 ?_;refine Xi (bg _) ?_;rintro _ _ ⟨rfl,aj⟩;(have an:=aj.nobj;have af:=aj.obj;have am:=((hK.new _).put hK.nobj _).trans aj;have ak:=Own.keep (Own.put (Own.new hO _) _ _) aj;simp only[Ac,Aa]at an af)|refine Z3 ?_|exact Zt|apply J.out;clear J ya
        refine⟨a.ts.length-(j+1),Agm,j+1,i5,us,?_⟩
        ((repeat' refine Zi ?_ ?_)<;>first|exact Xq|exact HU|exact Xs)
       ·have ay:decide (w2∉us)=true:=by simp[hm]
        rw[ay]at be;have HU:Agt (Grown init V (us++[w2])/\(us++[w2]).take rs.length=rs/\(∀v∈ws,v∈us++[w2])/\∀v,(true,v)∈a.ts.take (j+1)->v∈us++[w2]):=by
         refine⟨hU.out.1.snoc (bf w2 bc) hm,?_,fun v hv=>Aet.2 (.inl (hU.out.2.2.1 v hv)),fun v hv=>?_⟩
         ·rw[List.take_append_of_le_length bw];exact hU.out.2.1
         ·rw[bo.out]at hv;rcases Aet.1 hv with h|h
          ·exact Aet.2 (.inl (hU.out.2.2.2 v h))
          ·simp at h;subst h;simp
        have br:us.length+1<=init.length+V.length:=by
         have:=HU.out.1.le;simpa using this
        clear ay hm
        repeat' first|refine Z1 ?_|refine Z8 fun ya J=>?_|refine Z4 ?_;clear J ya|refine Z2 ?_ ?_<;>intro h ab<;>try exact Xp|refine Z6 ?_;intro idn σn a9 b6 bb a4 ba a3|refine Z5 ?_;refine Xi (bg _) ?_;rintro _ _ ⟨rfl,aj⟩;(have an:=aj.nobj;have af:=aj.obj;have am:=((hK.new _).put hK.nobj _).trans aj;have ak:=Own.keep (Own.put (Own.new hO _) _ _) aj;simp only[Ac,Aa]at an af;have a6:=af σ3.nobj Agm;rw[Aj]at a6)|refine Z3 ?_|exact Zt|apply J.out;clear J ya
        refine⟨a.ts.length-(j+1),Agm,j+1,idn,us++[w2],?_⟩
        ((repeat' refine Zi ?_ ?_)<;>first|exact Xq|exact (by simpa using a9)|exact HU|exact (by simp[Ar])|exact Xs)
     ·have a8:j=a.ts.length:=Agm;subst a8;have HW:Agt (Grown init V us/\us.take rs.length=rs/\E7 (l.take (k+1)) rs us):=by
       obtain⟨u1,u2,u3,u4⟩:=hU.out;rw[Adu]at u4;refine⟨u1,u2,?_⟩;rw[HT.out];intro b hb h v hv;rcases Aet.1 hb with hb|hb
       ·exact u3 v (hW.out.2.2 b hb h v hv)
       ·simp at hb;subst hb;exact u4 v hv
      clear hU hW HT
      repeat' first|refine Z1 ?_|refine Z8 fun ya J=>?_|refine Z4 ?_;clear J ya|refine Z2 ?_ ?_<;>intro h ab<;>try exact Xp|refine Z3 ?_|exact Zt|apply J.out;clear J ya
      refine⟨l.length-(k+1),Agm,k+1,i5,us,?_⟩
      ((repeat' refine Zi ?_ ?_)<;>first|exact Xq|exact HW|exact Xs)
   ·have b1:k=l.length:=Agm;subst b1;have HW:Agt (Grown init V ws/\E7 l (ws.take rs.length) ws):=by
     obtain⟨u1,u2,u3⟩:=hW.out;rw[Adu]at u3;exact⟨u1,by rw[u2];exact u3⟩
    clear hW
    repeat' first|refine Z1 ?_|refine Z8 fun ya J=>?_|refine Z4 ?_;clear J ya|refine Z2 ?_ ?_<;>intro h ab<;>try exact Xp|refine Z3 ?_|exact Zt|apply J.out;clear J ya
    refine⟨2*(init.length+V.length-ws.length)+(if (rs.length:Int)<(ws.length:Int)then 1 else 0),by split<;>omega,rs.length,i4,rs.length,ws,?_⟩
    ((repeat' refine Zi ?_ ?_)<;>first|exact Xq|exact HW|exact (.inl rfl)|exact Xs)
  ·have hF:Grown init V rs/\E7 l rs rs:=by
    have hB:B=rs.length:=by rcases b7 with h|⟨h1,h2⟩<;>omega
    obtain⟨u1,u2⟩:=hG.out;rw[hB,Adu]at u2;exact⟨u1,u2⟩
   have HF:Agt _:=hF;clear hF;have ci:decide ((rs.length:Int)>Bi)=false:=by simp;omega
   repeat' first|refine Z1 ?_|refine Z8 fun ya J=>?_|refine Z4 ?_;clear J ya|refine Z2 ?_ ?_<;>intro h ab<;>try exact Xp|refine Z3 ?_|exact Zt|apply J.out;clear J ya
   first|exact⟨_,rfl,⟨i3,rs,rfl,HF.out.1,HF.out.2⟩,hK⟩|exact⟨_,rfl,i3,rs,rfl,HF.out.1,HF.out.2⟩
def Ip (rs:List Int)(a:Dy):Bool:=rs.any (A9 a.ts)
def A7 (q:Qry)(rs:List Int):Qry:=⟨q.head,q.parts.filter fun p=>Ip rs p.a,q.nots.filter (Ip rs)⟩
def Hg (q:Qry)(rs:List Int):Qry:=⟨⟨0,[]⟩,q.parts.filter fun p=>!Ip rs p.a,q.nots.filter fun a=>!Ip rs a⟩
theorem Rb (q:Qry)(c:List AV)(init:List Int)(idi:Nat)(hc:EQ q c)(hq:Om q)(b6:init.length<=200)(σ:St):ACalls Tryz.prog 171 [ag c,sl idi init.length (Ar init)] σ fun r σ'=>(∃c1 c2 rs,r=tp [ag c1,ag c2]/\EQ (A7 q rs) c1/\EQ (Hg q rs) c2/\Grown init (Cn (atomsQ q)) rs/\E7 (atomsQ q) rs rs)/\Keep σ σ':=by
 have br:=fun σ=>Wu q c init idi hc hq b6 σ;have ca:=Lz hq;have ci:=Ik hq;have b7:=Gp ca;obtain⟨ih,ip,inn,pc,nc,rfl,hP,hN⟩:=hc;have hpl:=EL.length Ef hP;have ce:=EL.length Hp hN;have hl:=hq.pl;have cg:=hq.nl;refine Z9 69 [.cell 4 182,.cell 5 182] Tryz.func171 ?_
 repeat' first|refine Z1 ?_|refine Z8 fun ya J=>?_|refine Z4 ?_;clear J ya|refine Z5 ?_;refine Xi (br _) ?_;rintro _ _ ⟨⟨idr,rs,rfl,hG,hC⟩,a6⟩;(have bb:=a6.nobj;have aj:=a6.obj;have b9:=((((Keep.refl σ).new _).new _).new _).trans a6;simp only[Aa]at bb aj)|refine Z3 ?_|exact Zt|apply J.out;clear J ya
 rename_i σ1;have bq:rs.length<=100000:=by have:=hG.le;omega
 have HG:Agt _:=hG;have HC:Agt _:=hC;clear hG hC br b7;have o0:σ1.obj σ.nobj=[ic q.head.p,sl ih q.head.ts.length (Af q.head.ts),sl ip q.parts.length pc,sl inn q.nots.length nc]:=by rw[aj _ Agm,Ah Agq,Ah Agq,Al]
 have o1:σ1.obj (σ.nobj+1)=[ic 0,nilS,nilS,nilS]:=by rw[aj _ Agm,Ah Agq,Ca Agq Agq]
 have o2:σ1.obj (σ.nobj+2)=[ic 0,nilS,nilS,nilS]:=by rw[aj _ Agm,Ca Agq Agq]
 clear aj a6;generalize b8:σ1.nobj=o7 at*
 refine Ad (fun m s σ'=>∃(k i3 i4:Nat) (l1 l2:List Part) (xs ys:List AV),m=q.parts.length-k/\k<=q.parts.length/\s 2=ptr σ.nobj 0/\s 4=ptr (σ.nobj+1) 0/\s 5=ptr (σ.nobj+2) 0/\s 6=sl idr rs.length (Ar rs)/\s 7=ptr o7 0/\s 8=ptr (o7+1) 0/\s 21=sl ip q.parts.length pc/\s 22=ic q.parts.length/\s 23=ic k/\Keep σ σ'/\o7+1<σ'.nobj/\σ'.obj σ.nobj=[ic q.head.p,sl ih q.head.ts.length (Af q.head.ts),sl ip q.parts.length pc,sl inn q.nots.length nc]/\σ'.obj (σ.nobj+1)=[ic 0,nilS,nilS,nilS]/\σ'.obj (σ.nobj+2)=[ic 0,nilS,nilS,nilS]/\σ'.obj o7=[ic q.head.p,sl ih q.head.ts.length (Af q.head.ts),sl i3 l1.length xs,nilS]/\σ'.obj (o7+1)=[ic 0,nilS,sl i4 l2.length ys,nilS]/\Own σ σ' i3 l1.length/\Own σ σ' i4 l2.length/\(i3=1\/i3≠i4)/\l1.length<=k/\l2.length<=k/\xs.length=l1.length*3/\ys.length=l2.length*3/\Agt (EL L2 l1 xs/\EL L2 l2 ys/\l1=(q.parts.take k).filter (fun p=>Ip rs p.a)/\l2=(q.parts.take k).filter fun p=>!Ip rs p.a)) q.parts.length
  ⟨0,1,1,[],[],[],[],Agm,Agm,Ago,Ago,Ago,Ago,Ago,Ago,Ago,Ago,rfl,Xs,Ags,?_,?_,?_,?_,?_,Own.nil _ _,Own.nil _ _,.inl rfl,by simp,by simp,by simp,by simp,⟨rfl,rfl,by simp,by simp⟩⟩ ?_
 ·rw[Ak Agm,Ah Ags,Ak Agm,Ah Agm,o0]
 ·rw[Ak Agm,Ah Ags,Ak Agm,Ah Agm,o1]
 ·rw[Ak Agm,Ah Ags,Ak Agm,Ah Agm,o2]
 ·rw[Ak Agm,Ah Ags,Aj];simp
 ·rw[Aj];simp
 clear o0 o1 o2 b9 b8;rintro m s σ' ⟨k,i3,i4,l1,l2,xs,ys,rfl,hk,h2,h4,h5,h6,h7,h8,cd,cc,cb,hK,bc,b0,ba,a9,a8,a7,bm,bi,a5,b3,bf,bp,bo,hX⟩;have bn:=hK.nobj;by_cases a3:k<q.parts.length
 ·have ab:=Adn a3;obtain⟨id,idt,r,hd⟩:=E6 hP ab;have bh:=hq.pa _ (Aes a3);generalize q.parts[k]=w at hd ab bh;have be:w.a.ts.length<=1000:=Agm;have ak:=fun σ=>Kn w.a.p id w.a.ts rs idr be bq σ;have a4:Keep σ ((σ'.new [ic 0,nilS,nilS]).put σ'.nobj [ic w.a.p,sl id w.a.ts.length (Af w.a.ts),sl idt w.tups.length (Er w.tups)]):=(hK.new _).put hK.nobj _;have ap:Agt ((q.parts.take (k+1)).filter (fun p=>Ip rs p.a)=(q.parts.take k).filter (fun p=>Ip rs p.a)++if Ip rs w.a=true then [w]else []):=by
   rw[Agt,Ad0,ab,Aez,D6]
  have ao:Agt ((q.parts.take (k+1)).filter (fun p=>!Ip rs p.a)=(q.parts.take k).filter (fun p=>!Ip rs p.a)++if (!Ip rs w.a)=true then [w]else []):=by
   rw[Agt,Ad0,ab,Aez,D6]
  clear ab;rw[show rs.any (A9 w.a.ts)=Ip rs w.a from rfl]at ak;cases ah:Ip rs w.a with
  |true=>
   rw[ah]at ak;have HX:Agt (EL L2 (l1++[w]) (xs++[ic w.a.p,sl id w.a.ts.length (Af w.a.ts),sl idt w.tups.length (Er w.tups)])/\EL L2 l2 ys/\l1++[w]=(q.parts.take (k+1)).filter (fun p=>Ip rs p.a)/\l2=(q.parts.take (k+1)).filter fun p=>!Ip rs p.a):=by
    obtain⟨x1,x2,x3,x4⟩:=hX.out;exact⟨EL.append x1 (EL.single ⟨id,idt,rfl⟩),x2,by rw[ap.out,if_pos ah,x3],by rw[ao.out,ah,x4];simp⟩
   clear hX ap ao
   repeat' first|refine Z1 ?_|refine Z8 fun ya J=>?_|refine Z4 ?_;clear J ya|refine Z2 ?_ ?_<;>intro h ai<;>try exact Xp|refine Z5 ?_;refine Xi (ak _) ?_;rintro _ _ ⟨rfl,ac⟩;(have ad:=ac.nobj;have aa:=ac.obj;have ay:=a4.trans ac;simp only[Ac,Aa]at ad aa)|refine Z3 ?_|exact Zt|apply J.out;clear J ya
   refine G9 (by first|exact Fa|exact Dx) ay (Own.keep (Own.put (Own.new bm _) _ _) ac) (by decide) (by rfl) bp (by rfl) (by rfl) (by decide) Agm Agm ?_;intro idn σn av az af an a0 am ae;obtain⟨aw,au⟩:=ae i4 l2.length (Own.keep (Own.put (Own.new bi _) _ _) ac) a5;have eob:∀p,p<σ'.nobj->σn.obj p=σ'.obj p:=fun p hp=>by rw[af,aa _ Agm,Ak Agm,Ah Agm]
   refine Z3 ?_
   refine zz ?_
   refine⟨q.parts.length-(k+1),Agm,k+1,idn,i4,l1++[w],l2,xs++[ic w.a.p,sl id w.a.ts.length (Af w.a.ts),sl idt w.tups.length (Er w.tups)],ys,?_⟩
   ((repeat' refine Zi ?_ ?_)<;>first|exact Xq|exact (az.put Agm _)|exact (by simpa using Own.put av _ _)|exact (Own.put aw _ _)|exact HX|exact Xs)
  |false=>
   rw[ah]at ak;have HX:Agt (EL L2 l1 xs/\EL L2 (l2++[w]) (ys++[ic w.a.p,sl id w.a.ts.length (Af w.a.ts),sl idt w.tups.length (Er w.tups)])/\l1=(q.parts.take (k+1)).filter (fun p=>Ip rs p.a)/\l2++[w]=(q.parts.take (k+1)).filter fun p=>!Ip rs p.a):=by
    obtain⟨x1,x2,x3,x4⟩:=hX.out;exact⟨x1,EL.append x2 (EL.single ⟨id,idt,rfl⟩),by rw[ap.out,ah,x3];simp,by rw[ao.out,ah,x4];simp⟩
   clear hX ap ao
   repeat' first|refine Z1 ?_|refine Z8 fun ya J=>?_|refine Z4 ?_;clear J ya|refine Z2 ?_ ?_<;>intro h ai<;>try exact Xp|refine Z5 ?_;refine Xi (ak _) ?_;rintro _ _ ⟨rfl,ac⟩;(have ad:=ac.nobj;have aa:=ac.obj;have ay:=a4.trans ac;simp only[Ac,Aa]at ad aa)|refine Z3 ?_|exact Zt|apply J.out;clear J ya
   refine G9 (by first|exact Fa|exact Dx) ay (Own.keep (Own.put (Own.new bi _) _ _) ac) (by decide) (by rfl) bo (by rfl) (by rfl) (by decide) Agm Agm ?_;intro idn σn av az af an a0 am ae;obtain⟨ax,au⟩:=ae i3 l1.length (Own.keep (Own.put (Own.new bm _) _ _) ac) Agm;have bd:i3=1\/i3≠idn:=Agm;have eob:∀p,p<σ'.nobj->σn.obj p=σ'.obj p:=fun p hp=>by rw[af,aa _ Agm,Ak Agm,Ah Agm]
   refine Z3 ?_
   repeat' first|refine Z1 ?_|refine Z8 fun ya J=>?_|refine Z4 ?_;clear J ya|refine Z2 ?_ ?_<;>intro h ai<;>try exact Xp|refine Z3 ?_|exact Zt|apply J.out;clear J ya
   refine⟨q.parts.length-(k+1),Agm,k+1,i3,idn,l1,l2++[w],xs,ys++[ic w.a.p,sl id w.a.ts.length (Af w.a.ts),sl idt w.tups.length (Er w.tups)],?_⟩
   ((repeat' refine Zi ?_ ?_)<;>first|exact Xq|exact (az.put Agm _)|exact (by simpa using Own.put av _ _)|exact (Own.put ax _ _)|exact HX|exact Xs)
 ·have b4:k=q.parts.length:=Agm;subst b4;obtain⟨x1,x2,x3,x4⟩:=hX.out;rw[Adu]at x3 x4;have HX:Agt (EL L2 (q.parts.filter fun p=>Ip rs p.a) xs/\EL L2 (q.parts.filter fun p=>!Ip rs p.a) ys/\l1.length=(q.parts.filter fun p=>Ip rs p.a).length/\l2.length=(q.parts.filter fun p=>!Ip rs p.a).length):=⟨by rw[<-x3];exact x1,by rw[<-x4];exact x2,by rw[x3],by rw[x4]⟩;clear x1 x2 x3 x4 hX hk;generalize l1.length=n1 at*
  generalize l2.length=n2 at*
  repeat' first|refine Z1 ?_|refine Z8 fun ya J=>?_|refine Z4 ?_;clear J ya|refine Z2 ?_ ?_<;>intro h ai<;>try exact Xp|refine Z3 ?_|exact Zt|apply J.out;clear J ya
  refine Ad (fun m s σ'=>∃(j i5 i6:Nat) (m1 m2:List Dy) (us vs:List AV),m=q.nots.length-j/\j<=q.nots.length/\s 4=ptr (σ.nobj+1) 0/\s 5=ptr (σ.nobj+2) 0/\s 6=sl idr rs.length (Ar rs)/\s 7=ptr o7 0/\s 8=ptr (o7+1) 0/\s 45=sl inn q.nots.length nc/\s 46=ic q.nots.length/\s 47=ic j/\Keep σ σ'/\o7+1<σ'.nobj/\σ'.obj (σ.nobj+1)=[ic 0,nilS,nilS,nilS]/\σ'.obj (σ.nobj+2)=[ic 0,nilS,nilS,nilS]/\σ'.obj o7=[ic q.head.p,sl ih q.head.ts.length (Af q.head.ts),sl i3 n1 xs,sl i5 m1.length us]/\σ'.obj (o7+1)=[ic 0,nilS,sl i4 n2 ys,sl i6 m2.length vs]/\Own σ σ' i5 m1.length/\Own σ σ' i6 m2.length/\(i5=1\/i5≠i6)/\m1.length<=j/\m2.length<=j/\us.length=m1.length*2/\vs.length=m2.length*2/\Agt (EL Nk m1 us/\EL Nk m2 vs/\m1=(q.nots.take j).filter (Ip rs)/\m2=(q.nots.take j).filter fun a=>!Ip rs a)) q.nots.length
   ⟨0,1,1,[],[],[],[],Agm,Agm,Agn,Agn,Agn,Agn,Agn,Agn,Agn,Ago,hK,bc,ba,a9,by rw[a8];simp,by rw[a7];simp,Own.nil _ _,Own.nil _ _,.inl rfl,by simp,by simp,by simp,by simp,⟨rfl,rfl,by simp,by simp⟩⟩ ?_
  clear h2 h4 h5 h6 h7 h8 cd cc cb hK bc b0 ba a9 a8 a7 bm bi a5 b3 bf bp bo a3 bn;rintro m s σ' ⟨j,i5,i6,m1,m2,us,vs,rfl,hj,h4,h5,h6,h7,h8,cm,ck,cj,hK,bc,ba,a9,a8,a7,bv,bu,a5,hm1,cf,b2,b1,hY⟩;have bn:=hK.nobj;by_cases a3:j<q.nots.length
  ·have ab:=Adn a3;obtain⟨id,r,hd⟩:=I4 hN ab;have bh:=hq.na _ (Aes a3);generalize q.nots[j]=w at hd ab bh;have be:w.ts.length<=1000:=Agm;have ak:=fun σ=>Kn w.p id w.ts rs idr be bq σ;have a4:Keep σ ((σ'.new [ic 0,nilS]).put σ'.nobj [ic w.p,sl id w.ts.length (Af w.ts)]):=(hK.new _).put hK.nobj _;have ap:Agt ((q.nots.take (j+1)).filter (Ip rs)=(q.nots.take j).filter (Ip rs)++if Ip rs w=true then [w]else []):=by
    rw[Agt,Ad0,ab,Aez,D6]
   have ao:Agt ((q.nots.take (j+1)).filter (fun a=>!Ip rs a)=(q.nots.take j).filter (fun a=>!Ip rs a)++if (!Ip rs w)=true then [w]else []):=by
    rw[Agt,Ad0,ab,Aez,D6]
   clear ab;rw[show rs.any (A9 w.ts)=Ip rs w from rfl]at ak;cases ah:Ip rs w with
   |true=>
    rw[ah]at ak;have HY:Agt (EL Nk (m1++[w]) (us++[ic w.p,sl id w.ts.length (Af w.ts)])/\EL Nk m2 vs/\m1++[w]=(q.nots.take (j+1)).filter (Ip rs)/\m2=(q.nots.take (j+1)).filter fun a=>!Ip rs a):=by
     obtain⟨x1,x2,x3,x4⟩:=hY.out;exact⟨EL.append x1 (EL.single ⟨id,rfl⟩),x2,by rw[ap.out,if_pos ah,x3],by rw[ao.out,ah,x4];simp⟩
    clear hY ap ao
    repeat' first|refine Z1 ?_|refine Z8 fun ya J=>?_|refine Z4 ?_;clear J ya|refine Z2 ?_ ?_<;>intro h ai<;>try exact Xp|refine Z5 ?_;refine Xi (ak _) ?_;rintro _ _ ⟨rfl,ac⟩;(have ad:=ac.nobj;have aa:=ac.obj;have ay:=a4.trans ac;simp only[Ac,Aa]at ad aa)|refine Z3 ?_|exact Zt|apply J.out;clear J ya
    refine G9 (by first|exact Fa|exact Dx) ay (Own.keep (Own.put (Own.new bv _) _ _) ac) (by decide) (by rfl) b2 (by rfl) (by rfl) (by decide) Agm Agm ?_;intro idn σn av az af an a0 am ae;obtain⟨aw,au⟩:=ae i6 m2.length (Own.keep (Own.put (Own.new bu _) _ _) ac) a5;have eob:∀p,p<σ'.nobj->σn.obj p=σ'.obj p:=fun p hp=>by rw[af,aa _ Agm,Ak Agm,Ah Agm]
    refine Z3 ?_
    refine zz ?_
    refine⟨q.nots.length-(j+1),Agm,j+1,idn,i6,m1++[w],m2,us++[ic w.p,sl id w.ts.length (Af w.ts)],vs,?_⟩
    ((repeat' refine Zi ?_ ?_)<;>first|exact Xq|exact (az.put Agm _)|exact (by simpa using Own.put av _ _)|exact (Own.put aw _ _)|exact HY|exact Xs)
   |false=>
    rw[ah]at ak;have HY:Agt (EL Nk m1 us/\EL Nk (m2++[w]) (vs++[ic w.p,sl id w.ts.length (Af w.ts)])/\m1=(q.nots.take (j+1)).filter (Ip rs)/\m2++[w]=(q.nots.take (j+1)).filter fun a=>!Ip rs a):=by
     obtain⟨x1,x2,x3,x4⟩:=hY.out;exact⟨x1,EL.append x2 (EL.single ⟨id,rfl⟩),by rw[ap.out,ah,x3];simp,by rw[ao.out,ah,x4];simp⟩
    clear hY ap ao
    repeat' first|refine Z1 ?_|refine Z8 fun ya J=>?_|refine Z4 ?_;clear J ya|refine Z2 ?_ ?_<;>intro h ai<;>try exact Xp|refine Z5 ?_;refine Xi (ak _) ?_;rintro _ _ ⟨rfl,ac⟩;(have ad:=ac.nobj;have aa:=ac.obj;have ay:=a4.trans ac;simp only[Ac,Aa]at ad aa)|refine Z3 ?_|exact Zt
    refine G9 (by first|exact Fa|exact Dx) ay (Own.keep (Own.put (Own.new bu _) _ _) ac) (by decide) (by rfl) b1 (by rfl) (by rfl) (by decide) Agm Agm ?_;intro idn σn av az af an a0 am ae;obtain⟨ax,au⟩:=ae i5 m1.length (Own.keep (Own.put (Own.new bv _) _ _) ac) Agm;have bd:i5=1\/i5≠idn:=Agm;have eob:∀p,p<σ'.nobj->σn.obj p=σ'.obj p:=fun p hp=>by rw[af,aa _ Agm,Ak Agm,Ah Agm]
    refine Z3 ?_
    refine zz ?_
    refine⟨q.nots.length-(j+1),Agm,j+1,i5,idn,m1,m2++[w],us,vs++[ic w.p,sl id w.ts.length (Af w.ts)],?_⟩
    ((repeat' refine Zi ?_ ?_)<;>first|exact Xq|exact (az.put Agm _)|exact (by simpa using Own.put av _ _)|exact (Own.put ax _ _)|exact HY|exact Xs)
  ·have b5:j=q.nots.length:=Agm;subst b5;obtain⟨x1,x2,x3,x4⟩:=hY.out;rw[Adu]at x3 x4;have bz:=HX.out.2.2.1;have bw:=HX.out.2.2.2
   have HN:Agt (EQ (A7 q rs) [ic q.head.p,sl ih q.head.ts.length (Af q.head.ts),sl i3 n1 xs,sl i5 m1.length us]/\EQ (Hg q rs) [ic 0,nilS,sl i4 n2 ys,sl i6 m2.length vs]):=
    ⟨⟨ih,i3,i5,xs,us,by simp only[A7];rw[bz,x3],HX.out.1,by simp only[A7];rw[<-x3];exact x1⟩,⟨1,i4,i6,ys,vs,by simp only[Hg];rw[bw,x4];rfl,HX.out.2.1,by simp only[Hg];rw[<-x4];exact x2⟩⟩
   clear x1 x2 x3 x4 hY bz bw
   repeat' first|refine Z1 ?_|refine Z8 fun ya J=>?_|refine Z4 ?_;clear J ya|refine Z2 ?_ ?_<;>intro h ai<;>try exact Xp|refine Z3 ?_|exact Zt|apply J.out;clear J ya
   have o7b:σ.nobj+2<o7:=Agm;refine Bl (Q:=fun e s' σ''=>e= .normal/\s' 4=ptr (σ.nobj+1) 0/\s' 5=ptr (σ.nobj+2) 0/\Keep σ σ''/\σ''.obj (σ.nobj+1)=[ic q.head.p,sl ih q.head.ts.length (Af q.head.ts),sl i3 n1 xs,sl i5 m1.length us]/\σ''.obj (σ.nobj+2)=[ic 0,nilS,sl i4 n2 ys,sl i6 m2.length vs]) ?_ ?_
   ·refine Ay Ag (fun p=>p=o7\/p=o7+1) [3] [0] 3 #[true,false,false,false] Agp (fun _ _ _ h=>by cases h.1) ?_;intro ya J;refine Z3 ?_;refine⟨fun p h=>.inl (Afm h).symm,J.out _ ?_⟩;clear J ya;have bg:∀(A:Nat->Bool) (i:Nat) (c:List AV),Kept A (fun p=>p=o7\/p=o7+1) σ' i (σ'.put (σ.nobj+1) c):=fun A i c _ o ho hF=>by
     have:o≠σ.nobj+1:=by rcases hF with h|h<;>omega
     simp[St.put,this]
    refine Gz (rs:=[1,2]) Agp (by simp) ?_;intro i hi;simp only[Ae2,Afg,Agj]at hi;rcases hi with rfl|rfl
    ·refine Am ?_;intro ya J;refine Z3 ?_;refine J.out _ _ ⟨kept_refl,?_⟩;clear J ya;refine Ai (i:=2) Agp ?_;refine Am ?_;intro ya J;refine Z3 ?_;refine J.out _ _ ⟨bg _ _ _,?_⟩;clear J ya;refine Ai (i:=3) Agp ?_;refine Am ?_;intro ya J;refine Z3 ?_;refine J.out _ _ ⟨Bf rfl,?_⟩;clear J ya;refine Bb Agp ⟨rfl,by simp[upd,h4],by simp[upd,h5],(hK.put Agm _).put Agm _,?_,?_⟩
     ·rw[Ak Agm,Aj]
     ·rw[Aj]
    ·refine Am ?_;intro ya J;refine Z3 ?_;refine J.out _ _ ⟨bg _ _ _,?_⟩;clear J ya;refine Ai (i:=1) Agp ?_;refine Am ?_;intro ya J;refine Z3 ?_;refine J.out _ _ ⟨bg _ _ _,?_⟩;clear J ya;refine Ai (i:=3) Agp ?_;refine Am ?_;intro ya J;refine Z3 ?_;refine J.out _ _ ⟨Bf rfl,?_⟩;clear J ya;refine Bb Agp ⟨rfl,by simp[upd,h4],by simp[upd,h5],(hK.put Agm _).put Agm _,?_,?_⟩
     ·rw[Ak Agm,Aj]
     ·rw[Aj]
   ·rintro e s' σ'' ⟨rfl,g4,g5,ch,o71,o72⟩
    refine zz ?_
    exact⟨_,rfl,⟨_,_,rs,rfl,HN.out.1,HN.out.2,HG.out,HC.out⟩⟩
abbrev MM:=List (Nat×List Cc)
def Fs (M:MM):List AV:=M.map fun x=>sl x.1 x.2.length (Er x.2)
def Live (σ:St)(id n:Nat):Prop:=(id=1/\n=0)\/∃k,id=k+2/\k<σ.ntop/\σ.top k=n/\0<n
theorem Live.keep {σ σ':St}{id n:Nat}(h:Live σ id n)(k:Keep σ σ'):Live σ' id n:=by
 rcases h with h|⟨j,h1,h2,h3,h4⟩
 ·exact .inl h
 ·exact .inr ⟨j,h1,Adf h2 k.ntop,(k.top j h2).trans h3,h4⟩
structure MOb (σ:St)(om ot:Nat)(M:MM)(d b:Int):Prop where
 ob:σ.obj om=[fx ot 0 M.length,ic d,ic b]
 oc:σ.obj ot=Fs M
 lo:om<σ.nobj
 lt:ot<σ.nobj
 ne:om≠ot
 live:∀x∈M,Live σ x.1 x.2.length
 inj:∀(i j:Nat) (x y:Nat×List Cc),M[i]?=some x->M[j]?=some y->i≠j->x.1=1\/x.1≠y.1
 t3:∀x∈M,T3 x.2
 ln:∀x∈M,x.2.length<=5000
 pl:M.length<=5000
theorem MOb.keep {σ σ':St}{om ot:Nat}{M:MM}{d b:Int}(h:MOb σ om ot M d b)(k:Keep σ σ'):MOb σ' om ot M d b:=
 ⟨(k.obj _ h.lo).trans h.ob,(k.obj _ h.lt).trans h.oc,Adf h.lo k.nobj,Adf h.lt k.nobj,h.ne,fun x hx=>(h.live x hx).keep k,h.inj,h.t3,h.ln,h.pl⟩
theorem H7 {M:MM}{k:Nat}{x:Nat×List Cc}(h:M[k]?=some x):(Fs M)[k]?=some (sl x.1 x.2.length (Er x.2)):=by simp[Fs,h]
theorem H6 (M:MM):(Fs M).length=M.length:=by simp[Fs]
theorem Od (om ot:Nat)(M:MM)(d b:Int)(σ:St)(hM:MOb σ om ot M d b):ACalls Tryz.prog 48 [ptr om 0] σ fun r σ'=>r=sc (.bool (decide (b<d)))/\σ'=σ:=by
 have ob:=hM.ob;have ab:decide (d>b)=decide (b<d):=rfl;refine Z9 12 [.tmp 2] Tryz.func48 ?_
 refine zz ?_
 refine Aw Ag (fun _=>True) [9] [0,1,2,3,4,5,6,7,8] [9] Agp (fun _ _ _ h=>h) ?_;intro ya J
 repeat' first|refine Z1 ?_|refine Z8 fun ya J=>?_|refine Z4 ?_;clear J ya|refine Z2 ?_ ?_<;>intro h aa<;>try exact Xp|refine Z3 ?_|exact Zt|apply J.out;clear J ya
 first|exact⟨_,rfl,rfl⟩|exact⟨_,rfl,rfl,rfl⟩|exact⟨_,rfl⟩
def Ct (a:Dy):Cc:=D3 (a.ts.map (·.2))
theorem Ih (om ot:Nat)(M:MM)(d b:Int)(a:Dy)(id k:Nat)(x:Nat×List Cc)(ha:a.ts.length<=3)(hk:a.p=(k:Int))(hx:M[k]?=some x)(σ:St)(hM:MOb σ om ot M d b):ACalls Tryz.prog 75 [ptr om 0,ag [ic a.p,sl id a.ts.length (Af a.ts)]] σ fun r σ'=>r=sc (.bool (decide (Ct a∈x.2)))/\Keep σ σ':=by
 have an:a.ts.length<=1000:=Agm;have ah:=fun σ=>Ra a.p id a.ts an σ;have aj:=Adp hx;have h3:=hM.t3 x aj;have az:=hM.ln x aj;have aw:=Ir h3;have a3:k<M.length:=(Adm.1 hx).1;have hpl:=hM.pl;have ay:=H6 M;have a4:=H7 hx;have lo:=hM.lo;have lt:=hM.lt;have ob:=hM.ob;have oc:=hM.oc;rw[hk];rw[hk]at ah;have am:(D3 (a.ts.map (·.2))).length=3:=rfl;have HT:Agt (Ct a=D3 (a.ts.map (·.2))):=rfl;generalize Ct a=ta at*
 generalize D3 (a.ts.map (·.2))=t0 at*
 obtain⟨a0,b0,c0,rfl⟩:∃a0 b0 c0,t0=[a0,b0,c0]:=by
  match t0,am with
  |[a0,b0,c0],_=>exact⟨a0,b0,c0,rfl⟩
 simp only[Ar,Ad7,Ad8]at ah;refine Z9 27 [.tmp 4] Tryz.func75 ?_
 repeat' first|refine Z1 ?_|refine Z8 fun ya J=>?_|refine Z4 ?_;clear J ya|refine Z5 ?_;refine Xi (ah _) ?_;rintro _ _ ⟨rfl,ae⟩;(have af:=ae.nobj;have ac:=ae.obj;have ai:=((Keep.refl σ).new _).trans ae;simp only[Aa]at af ac)|refine Z3 ?_|exact Zt|apply J.out;clear J ya
 rename_i σ1;have ak:Keep σ ((σ1.new [ic 0,ic 0,ic 0]).put σ1.nobj [ic a0,ic b0,ic c0]):=(ai.new _).put Agm _;have e0:σ1.obj σ.nobj=[ic (k:Int),sl id a.ts.length (Af a.ts)]:=by rw[ac _ Agm,Al]
 have e1:σ1.obj om=[fx ot 0 M.length,ic d,ic b]:=by rw[ai.obj _ lo,ob]
 have e2:σ1.obj ot=Fs M:=by rw[ai.obj _ lt,oc]
 clear ac ae;refine Aw Ag (fun _=>True) [] [0,1,2,3,4,5,6,7,8,9] [] Agp (fun _ _ _ h=>h) ?_;intro ya J
 repeat' first|refine Z1 ?_|refine Z8 fun ya J=>?_|refine Z4 ?_;clear J ya|refine Z2 ?_ ?_<;>intro h ad<;>try exact Xp|refine Z3 ?_|exact Zt|apply J.out;clear J ya
 clear e0 e1 e2
 refine Ad (fun m s σ'=>∃i:Nat,m=x.2.length-i/\i<=x.2.length/\s 5=ptr σ1.nobj 0/\s 17=sl x.1 x.2.length (Er x.2)/\s 18=ic x.2.length/\s 19=ic i/\Keep σ σ'/\σ1.nobj<σ'.nobj/\σ'.obj σ1.nobj=[ic a0,ic b0,ic c0]/\Agt ([a0,b0,c0]∉x.2.take i)) x.2.length
  ⟨0,Agm,Agm,Ago,Ago,Ago,rfl,ak,Ags,by rw[Aj],by simp[Agt]⟩ ?_
 clear ak;rintro m s σ' ⟨i,rfl,hi,h5,a8,a7,a6,hK,ax,au,aa⟩;have av:=hK.nobj;by_cases ao:i<x.2.length
 ·have ab:=Adn ao;obtain⟨p,q,r,rr,he,hd⟩:=oR h3 ab;rw[he]at ab;clear he;have HG:Agt (x.2[i]?=some [p,q,r]):=ab;clear ab;by_cases hc:p=a0/\q=b0/\r=c0
  ·obtain⟨rfl,rfl,rfl⟩:=hc;have hm:decide (ta∈x.2)=true:=by rw[HT.out];simpa using Adp HG.out
   repeat' first|refine Z1 ?_|refine Z8 fun ya J=>?_|refine Z4 ?_;clear J ya|refine Z2 ?_ ?_<;>intro h ad<;>try exact Xp|refine Z3 ?_|exact Zt|apply J.out;clear J ya
   first|exact⟨_,rfl,rfl,Xs⟩|exact⟨_,rfl,by rw[hm],Xs⟩|(refine⟨_,rfl,?_⟩;((repeat' refine Zi ?_ ?_)<;>first|exact Xq|exact (by rw[hm])|exact Xs))
  ·have a5:(p==a0&&q==b0&&r==c0)=false:=by
    cases h:(p==a0&&q==b0&&r==c0)with
    |false=>rfl
    |true=>simp at h;exact absurd ⟨h.1.1,h.1.2,h.2⟩ hc
   have HN:Agt ([a0,b0,c0]∉x.2.take (i+1)):=Uu aa.out HG.out (fun e=>by simp at e;exact hc ⟨e.1,e.2.1,e.2.2⟩);clear hc aa
   repeat' first|refine Z1 ?_|refine Z8 fun ya J=>?_|refine Z4 ?_;clear J ya|refine Z2 ?_ ?_<;>intro h ad<;>try exact Xp|refine Z3 ?_|exact Zt|apply J.out;clear J ya
   refine⟨x.2.length-(i+1),Agm,i+1,?_⟩
   ((repeat' refine Zi ?_ ?_)<;>first|exact Xq|exact HN|exact Xs)
 ·have ap:i=x.2.length:=Agm;subst ap;rw[Adu]at aa;have hm:decide (ta∈x.2)=false:=by rw[HT.out];simpa using aa.out
  repeat' first|refine Z1 ?_|refine Z8 fun ya J=>?_|refine Z4 ?_;clear J ya|refine Z2 ?_ ?_<;>intro h ad<;>try exact Xp|refine Z3 ?_|exact Zt|apply J.out;clear J ya
  first|exact⟨_,rfl,rfl,hK⟩|exact⟨_,rfl,rfl⟩|exact⟨_,rfl,by rw[hm],hK⟩|exact⟨_,rfl,by rw[hm]⟩
structure KM (om ot:Nat)(M M':MM)(σ σ':St):Prop where
 nobj:σ.nobj<=σ'.nobj
 obj:∀o,o<σ.nobj->o≠om->o≠ot->σ'.obj o=σ.obj o
 ver:∀o,o<σ.nobj->o≠om->o≠ot->σ'.ver o=σ.ver o
 ntop:σ.ntop<=σ'.ntop
 top:∀k,k<σ.ntop->(∀x∈M,x.1≠k+2)->σ'.top k=σ.top k
 mid:∀x∈M',(∃y∈M,y.1=x.1)\/x.1=1\/σ.ntop+2<=x.1
theorem KM.ofKeep {om ot:Nat}{M:MM}{σ σ':St}(h:Keep σ σ'):KM om ot M M σ σ':=
 ⟨h.nobj,fun o ho _ _=>h.obj o ho,fun o ho _ _=>h.ver o ho,h.ntop,fun k hk _=>h.top k hk,fun x hx=>.inl ⟨x,hx,rfl⟩⟩
theorem KM.trans {om ot:Nat}{M M1 M2:MM}{σ σ1 σ2:St}(h:KM om ot M M1 σ σ1)(g:KM om ot M1 M2 σ1 σ2):KM om ot M M2 σ σ2 where
 nobj:=Ade h.nobj g.nobj
 obj:=fun o ho h1 h2=>(g.obj o (Adf ho h.nobj) h1 h2).trans (h.obj o ho h1 h2)
 ver:=fun o ho h1 h2=>(g.ver o (Adf ho h.nobj) h1 h2).trans (h.ver o ho h1 h2)
 ntop:=Ade h.ntop g.ntop
 top:=fun k hk hx=>(g.top k (Adf hk h.ntop) (fun x aa e=>by
  rcases h.mid x aa with⟨y,hy,e2⟩|e2|e2
  ·exact hx y hy (e2.trans e)
  ·omega
  ·omega)).trans (h.top k hk hx)
 mid:=fun x hx=>by
  rcases g.mid x hx with⟨y,hy,e⟩|e|e
  ·rcases h.mid y hy with⟨z,hz,e2⟩|e2|e2
   ·exact .inl ⟨z,hz,e2.trans e⟩
   ·exact .inr (.inl Agm)
   ·exact .inr (.inr Agm)
  ·exact .inr (.inl e)
  ·exact .inr (.inr (by have:=h.ntop;omega))
theorem Qu {P:Program}{t:TypeId}{z b:Nat}{zc:List Value}{σ:St}{id id2 n m m':Nat}{xs ys:List AV}{K:AV->St->Prop}(ht:Np P t=some (z,b,zc))(hO:Live σ id n)
  (hz:0<z) (hzc:zc.length=z) (hx:xs.length=n*z) (hy:ys.length=m*z) (hf:ys.all flat=true) (hm:0<m) (hb:(n+m)*b<=140737488355328) (hl:n+m<=1099511627776)
  (h:∀id' σ',Live σ' id' (n+m)->(id'=id\/σ.ntop+2<=id')->id'≠1->σ'.obj=σ.obj->σ'.nobj=σ.nobj->σ'.ver=σ.ver->σ.ntop<σ'.ntop->(∀k,k<σ.ntop->k+2≠id->σ'.top k=σ.top k)->K (sl id' (n+m) (xs++ys)) σ'):Im P t t (sl id n xs) (sl id2 m ys) (σ.lay m') K:=by
 unfold Im cS;left;simp only[ht];rw[if_pos ⟨trivial,hz,hzc,hx,hy,hf,hm,hb,hl⟩];rcases hO with⟨rfl,rfl⟩|⟨k,rfl,h3,h4,h5⟩
 ·have aa:xs=[]:=Ads (by simpa using hx);subst aa;have:=h ((σ.lay m').ntop+2) ((σ.lay m').lay m) (.inr ⟨(σ.lay m').ntop,rfl,by simp[St.lay],by simp[St.lay],Agm⟩) (.inr (by simp[St.lay])) (by simp) rfl rfl rfl (by simp[St.lay];omega) (fun k hk _=>(((Keep.refl σ).lay m').lay m).top k hk);simpa using this
 ·have e1:(σ.lay m').top k=n:=by simp[St.lay];rw[if_neg Agm];exact h4
  simp only;rw[if_pos ⟨e1,h5⟩]
  exact h (k+2) _ (.inr ⟨k,rfl,by simp[St.raise,St.lay];omega,by simp[St.raise],Agm⟩) (.inl rfl) Agm rfl rfl rfl (by simp[St.raise,St.lay]) (fun j hj ab=>by
   simp[St.raise,St.lay]
   rw[if_neg Agm,if_neg Agm])
theorem MOb.grow {σ σ':St}{om ot:Nat}{M:MM}{d b:Int}{k id':Nat}{x:Nat×List Cc}{t:Cc}(hM:MOb σ om ot M d b)(hx:M[k]?=some x)(ht:t.length=3)(hn:x.2.length<5000)
  (hL:Live σ' id' (x.2.length+1)) (hid:id'=x.1\/σ.ntop+2<=id') (an:id'≠1) (eob:∀o,o<σ.nobj->o≠ot->σ'.obj o=σ.obj o) (aj:∀o,o<σ.nobj->o≠ot->σ'.ver o=σ.ver o) (eoc:σ'.obj ot=(Fs M).set k (sl id' (x.2.length+1) (Er x.2++Ar t))) (eno:σ.nobj<=σ'.nobj) (ento:σ.ntop<=σ'.ntop)
  (etop:∀j,j<σ.ntop->j+2≠x.1->σ'.top j=σ.top j):MOb σ' om ot (M.set k (id',x.2++[t])) d b/\KM om ot M (M.set k (id',x.2++[t])) σ σ':=by
 have ae:=Adp hx;have am:k<M.length:=(Adm.1 hx).1;have ah:∀(i:Nat) (y:Nat×List Cc),M[i]?=some y->i≠k->Live σ' y.1 y.2.length/\(y.1=1\/y.1≠id'):=fun i y hy ac=>by
  have ak:=Adp hy;rcases hM.live y ak with h|⟨j,e1,e2,e3,e4⟩
  ·exact⟨.inl h,.inl h.1⟩
  ·have ao:y.1≠x.1:=by
    rcases hM.inj i k y x hy hx ac with h|h
    ·omega
    ·exact h
   refine⟨.inr ⟨j,e1,Adf e2 ento,(etop j e2 Agm).trans e3,e4⟩,.inr ?_⟩;rcases hid with h|h<;>omega
 have aa:∀(i:Nat) (y:Nat×List Cc),(M.set k (id',x.2++[t]))[i]?=some y->(i=k/\y=(id',x.2++[t]))\/(i≠k/\M[i]?=some y):=fun i y hy=>by
  rw[Adv]at hy;by_cases e:k=i
  ·subst e;rw[if_pos rfl,if_pos am]at hy;exact .inl ⟨rfl,(Afm hy).symm⟩
  ·rw[if_neg e]at hy;exact .inr ⟨fun h=>e h.symm,hy⟩
 have ab:∀y∈M.set k (id',x.2++[t]),y=(id',x.2++[t])\/y∈M:=fun y hy=>(Af2 hy).symm;have ai:∀y∈M.set k (id',x.2++[t]),∃i,(M.set k (id',x.2++[t]))[i]?=some y:=fun y hy=>Afc hy;refine⟨⟨?_,?_,Adf hM.lo eno,Adf hM.lt eno,hM.ne,?_,?_,?_,?_,by simp;exact hM.pl⟩,⟨eno,fun o ho h1 h2=>eob o ho h2,fun o ho h1 h2=>aj o ho h2,ento,fun j hj h=>etop j hj (fun e=>h x ae e.symm),?_⟩⟩
 ·rw[eob om hM.lo hM.ne,hM.ob];simp
 ·rw[eoc];unfold Fs;rw[List.map_set];congr 1;simp[Er]
 ·intro y hy;obtain⟨i,hi⟩:=ai y hy;rcases aa i y hi with⟨-,rfl⟩|⟨ac,ad⟩
  ·simpa using hL
  ·exact (ah i y ad ac).1
 ·intro i j y w hy hw ac;rcases aa i y hy with⟨rfl,rfl⟩|⟨h1,ad⟩
  ·rcases aa j w hw with⟨rfl,rfl⟩|⟨h2,af⟩
   ·exact absurd rfl ac
   ·have:=(ah j w af h2).2;simp only;by_cases e:id'=w.1
    ·rcases this with h|h
     ·omega
     ·omega
    ·exact .inr e
  ·rcases aa j w hw with⟨rfl,rfl⟩|⟨h2,af⟩
   ·exact (ah i y ad h1).2
   ·exact hM.inj i j y w ad af ac
 ·intro y hy;rcases ab y hy with rfl|hy
  ·intro u hu;rcases Aet.1 hu with h|h
   ·exact hM.t3 x ae u h
   ·simp at h;subst h;exact ht
  ·exact hM.t3 y hy
 ·intro y hy;rcases ab y hy with rfl|hy
  ·simp;omega
  ·exact hM.ln y hy
 ·intro y hy;rcases ab y hy with rfl|hy
  ·rcases hid with h|h
   ·exact .inl ⟨x,ae,h.symm⟩
   ·exact .inr (.inr h)
  ·exact .inl ⟨y,hy,rfl⟩
theorem Vf (om ot:Nat)(M:MM)(d b:Int)(a:Dy)(id k:Nat)(x:Nat×List Cc)(ha:a.ts.length<=3)(hk:a.p=(k:Int))(hx:M[k]?=some x)(hn:x.2.length<5000)(σ:St)(hM:MOb σ om ot M d b):ACalls Tryz.prog 76 [ptr om 0,ag [ic a.p,sl id a.ts.length (Af a.ts)]] σ fun r σ'=>∃id',MOb σ' om ot (M.set k (id',x.2++[Ct a])) d b/\KM om ot M (M.set k (id',x.2++[Ct a])) σ σ':=by
 have au:a.ts.length<=1000:=Agm;have am:=fun σ=>Ra a.p id a.ts au σ;have ak:=Adp hx;have h3:=hM.t3 x ak;have hL:=hM.live x ak;have ap:=Ir h3;have ax:k<M.length:=(Adm.1 hx).1;have hpl:=hM.pl;have aw:=H6 M;have ay:=H7 hx;have lo:=hM.lo;have lt:=hM.lt;have ob:=hM.ob;have oc:=hM.oc;rw[hk];rw[hk]at am;have ah:(D3 (a.ts.map (·.2))).length=3:=rfl;have HT:Agt (Ct a=D3 (a.ts.map (·.2))):=rfl;generalize Ct a=ta at*
 generalize D3 (a.ts.map (·.2))=t0 at*
 have w1:=Hf ah;have w5:=Ev t0;have w4:=Oa ah;refine Z9 23 [] Tryz.func76 ?_
 refine zz ?_
 refine Bl (Q:=fun e s' σ'=>e= .normal/\∃id',MOb σ' om ot (M.set k (id',x.2++[ta])) d b/\KM om ot M (M.set k (id',x.2++[ta])) σ σ') ?_ ?_
 ·refine Ay Ag (fun _=>True) [19] [0,1,2,3,4,5,6,7,8,9,10,11,12,13,14] 5 #[true,true,true,true,true,true,true,true,true,true,true,true,true,true,true,false,false,false,false,false] Agp (fun _ _ _ h=>by cases h.1) ?_;intro ya J;refine Z3 ?_;refine J.out _ ?_;clear J ya;refine Ai (i:=15) Agp ?_;refine Am ?_;intro ya J;refine Z3 ?_;refine ACalls.mono (am _) ?_;rintro _ σ5 ⟨rfl,ac⟩;refine Z3 ?_;refine J.out _ _ ⟨Ao ac,?_⟩;clear J ya;have af:=ac.nobj;simp only[Aa]at af;have aa:Keep σ σ5:=((Keep.refl σ).new _).trans ac;have e1:σ5.obj om=[fx ot 0 M.length,ic d,ic b]:=by rw[aa.obj _ lo,ob]
  have e2:σ5.obj ot=Fs M:=by rw[aa.obj _ lt,oc]
  refine Ai (i:=16) Agp ?_;refine Am ?_;intro ya J;refine Z3 ?_;refine J.out _ _ ⟨Ao (ac.lay 1),?_⟩;clear J ya;refine Ai (i:=17) Agp ?_;refine Am ?_;intro ya J;refine Z3 ?_;refine Qu (by first|exact F5) (hL.keep aa) (by decide) (by rfl) ap (by rw[w1]) w5 (by decide) Agm Agm ?_;intro idn σn av ai aj ae ao ab an etop;have e3:σn.obj ot=Fs M:=by rw[ae,e2]
  refine Z3 ?_;refine J.out _ _ ⟨fun _ o ho _=>by rw[ab];exact ac.ver o ho,?_⟩;clear J ya;refine Ai (i:=18) Agp ?_;refine Am ?_;intro ya J;refine Z3 ?_;refine J.out _ _ ⟨fun _ o ho _=>by rw[ab];exact ac.ver o ho,?_⟩;clear J ya;refine Ai (i:=19) Agp ?_;refine Am ?_;intro ya J;refine Z3 ?_;refine J.out _ _ ⟨Bf rfl,?_⟩;clear J ya;refine Bb Agp ⟨rfl,idn,?_⟩;rw[HT.out];refine MOb.grow hM hx ah hn ?_ ?_ aj ?_ ?_ ?_ ?_ ?_ ?_
  ·rcases av with h|⟨j,h1,h2,h3,h4⟩
   ·exact .inl h
   ·exact .inr ⟨j,h1,h2,h3,h4⟩
  ·have:=aa.ntop;rcases ai with h|h
   ·exact .inl h
   ·exact .inr Agm
  ·intro o ho ad;rw[show∀(S:St) c,(S.put ot c).obj o=S.obj o from fun S c=>by simp[St.put,ad],ae,aa.obj o ho]
  ·intro o ho ad;rw[show∀(S:St) c,(S.put ot c).ver o=S.ver o from fun S c=>by simp[St.put,ad],ab,aa.ver o ho]
  ·rw[Aj]
  ·have:=aa.nobj;simp only[Ac];omega
  ·have:=aa.ntop;simp only[Lk];omega
  ·intro j hj ad;rw[L9,etop j (Adf hj aa.ntop) ad,aa.top j hj]
 ·rintro e s' σ'' ⟨rfl,idn,h1,h2⟩
  refine zz ?_
  exact⟨_,rfl,idn,h1,h2⟩
end Go.Proofs.YtmoeoppbmhfbpaaGreatDoorD
