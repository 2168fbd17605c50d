import Derived.Test.YtmoeoppbmhfbpabGreatDoorGFceL
import Derived.Test.YtmoeoppbmhfbpabGreatDoorGAwkB
import Derived.Test.YtmoeoppbmhfbpabGreatDoorGTigA
set_option maxHeartbeats 64000000
set_option maxRecDepth 100000
set_option linter.all false
namespace Go.Proofs.YtmoeoppbmhfbpabGreatDoorG
open Go.Abs
theorem sJ {k:Int}(h0:0<=k)(h1:k<5):∃p:UInt8,List.take ((k+1).toNat-k.toNat) (List.drop k.toNat ([115,97,114,117,108]:Tx))=[p]/\Ct [p]=true:=by
 have:k=0\/k=1\/k=2\/k=3\/k=4:=Agm;rcases this with rfl|rfl|rfl|rfl|rfl<;>exact⟨_,rfl,rfl⟩
theorem spent_spec (t:Tx)(q b0 c0:Int)(az: -9223372036854775808<=q)(ay:q<=9223372036854775807)(bb: -9223372036854775808<=b0)(ba:b0<=9223372036854775807)(a9: -9223372036854775808<=c0)(a8:c0<=9223372036854775807)(a:St):ACalls Tryz.prog 5 [str t,sc (.int .i64 q),sc (.int .i64 b0),sc (.int .i64 c0)] a fun r a'=>r=sc (.bool true)/\Keep a a':=by
 have bm:=fun a=>eL a;have bf:=fun a=>jC a;have p1:=fun a=>Le q 5 az ay Agm Agm a;have p2:=fun a=>Le b0 1099511627776 bb ba Agm Agm a;have p3:=fun a=>Le c0 1099511627776 a9 a8 Agm Agm a;obtain⟨bv,bu⟩:=On q (n:=5) Agm;obtain⟨an,bz⟩:=On b0 (n:=1099511627776) Agm;obtain⟨am,bw⟩:=On c0 (n:=1099511627776) Agm;generalize wT q 5=k at*
 generalize wT b0 1099511627776=b at*
 generalize wT c0 1099511627776=c at*
 obtain⟨p,bp,a0⟩:=sJ bv bu;have bn:Agt (Ct [p]=true):=a0;have ce:({data:=#[115,97,114,117,108]}:ByteArray)=bs [115,97,114,117,108]:=rfl;have be:=fun a=>Hq t [p] b Agm a;have ae:=fun s a=>Hq s [p] c Agm a;have au:=fun a=>Hq t [p] (b+c) Agm a;have ao:=fun a=>Vn t a;clear az ay bb ba a9 a8 a0;refine Z9 115 [.tmp 8] Tryz.func5 ?_
 repeat' (first|refine Z1 ?_|(refine Z8 ?_;intro κ hκ)|(refine Z4 ?_;clear hκ κ)|(refine Z2 ?_ ?_<;>intro h ab<;>try exact Xp)|(refine Z5 ?_;first|(refine Xi (bm _) ?_;rintro _ _ ⟨rfl,aw⟩;(have aj:=aw.nobj))|(refine Xi (bf _) ?_;rintro _ _ ⟨rfl,av⟩;(have ai:=av.nobj))|(refine Xi (p1 _) ?_;rintro _ _ ⟨rfl,rfl⟩)|(refine Xi (p2 _) ?_;rintro _ _ ⟨rfl,rfl⟩)|(refine Xi (p3 _) ?_;rintro _ _ ⟨rfl,rfl⟩))|refine Z3 ?_|exact⟨⟩|(apply hκ.out;clear hκ κ))
 refine ACalls.mono (be _) ?_;rintro _ a3 ⟨⟨s,n,e⟩,rfl,ah,af⟩;have aa:=(aw.trans av).trans af;have ad:=aa.nobj;clear bm bf be aw av af aj ai bp;rcases oY ah with⟨⟨g1,g2,g3,g4⟩,g5⟩|⟨he,-,-,g2,hA⟩
 ·simp only at g1 g2 g3 g4;have ax:(Ax t).1=e:=by
   rw[g4];by_cases h1:(Ax t).1≠0
   ·rw[if_pos h1]
   ·rcases g5 with h|h|h
    ·exact absurd h h1
    ·rw[bn.out]at h;cases h
    ·omega
  rw[ax]at ao;have cd:(e !=0)=true:=by simpa using g3
  clear ah g5 g4 g3 ax ae au;subst g1;subst g2;refine Z3 ?_
  repeat' (first|refine Z1 ?_|(refine Z8 ?_;intro κ hκ)|(refine Z4 ?_;clear hκ κ)|(refine Z2 ?_ ?_<;>intro h ab<;>try exact Xp)|(refine Z5 ?_;refine Xi (ao _) ?_;rintro _ _ ⟨rfl,af⟩;(have bg:=aa.trans af;have bo:=af.nobj))|refine Z3 ?_|exact⟨⟩|(apply hκ.out;clear hκ κ))
  first|exact⟨_,rfl,rfl,bg⟩|exact⟨_,rfl,rfl⟩|exact⟨_,rfl,bg⟩
 ·simp only at g2 hA;subst g2;have cb:=hA.lt;have cc:=hA.lT;have ap:=fun a=>Mu s Agm (by have:=hA.few;omega) (fun p hp=>(hA.sh p hp).1) a;have bd:=fun a=>Mu t Agm (by have:=hA.few;omega) (fun p hp=>(hA.sht p hp).1) a;rw[hA.out]at ap;have HS:Agt _:=fun {u v m d f g} h2 h3=>oX (u:=u) (v:=v) (m:=m) (d:=d) (f:=f) (g:=g) bn.out an am he (by rw[hA.chk]) ah h2 h3;have ae:=ae s;clear hA ah he ao;generalize Ga (Gf t)=oo at*
  have b1:(((0:Int)) !=0)=false:=rfl;have b5:(oo !=oo)=false:=by simp
  refine Z3 ?_
  repeat' (first|refine Z1 ?_|(refine Z8 ?_;intro κ hκ)|(refine Z4 ?_;clear hκ κ)|(refine Z2 ?_ ?_<;>intro h ab<;>try exact Xp)|refine Z3 ?_|exact⟨⟩|(apply hκ.out;clear hκ κ))
  refine ACalls.mono (ae _) ?_;rintro _ a4 ⟨⟨u,m,f⟩,rfl,a7,bi⟩;have aa:=aa.trans bi;have ad:=aa.nobj;clear ae bi;refine Z3 ?_
  repeat' (first|refine Z1 ?_|(refine Z8 ?_;intro κ hκ)|(refine Z4 ?_;clear hκ κ)|(refine Z2 ?_ ?_<;>intro h ab<;>try exact Xp)|refine Z3 ?_|exact⟨⟩|(apply hκ.out;clear hκ κ))
  refine ACalls.mono (au _) ?_;rintro _ a5 ⟨⟨v,d,g⟩,rfl,a6,bh⟩;have aa:=aa.trans bh;have ad:=aa.nobj;clear au bh;obtain⟨rfl,rfl,rfl,rfl,⟨b9,bq⟩,⟨ca,br⟩,ak⟩:=HS.out a7 a6;clear HS a7 a6;have b2:(u==u)=true:=by simp
  have b3:(n+m==n+m)=true:=by simp
  have b4:decide (n<=b)=true:=by simpa using bq
  have b6:decide (m<=c)=true:=by simpa using br
  cases b7:(n==b)with
  |true=>
   clear ak;refine Z3 ?_
   repeat' (first|refine Z1 ?_|(refine Z8 ?_;intro κ hκ)|(refine Z4 ?_;clear hκ κ)|(refine Z2 ?_ ?_<;>intro h ab<;>try exact Xp)|(refine Z5 ?_;first|(refine Xi (ap _) ?_;rintro _ _ ⟨rfl,ac⟩;(have aa:=aa.trans ac;have ad:=aa.nobj;clear ac))|(refine Xi (bd _) ?_;rintro _ _ ⟨rfl,ac⟩;(have aa:=aa.trans ac;have ad:=aa.nobj;clear ac)))|refine Z3 ?_|exact⟨⟩|(apply hκ.out;clear hκ κ))
   first|exact⟨_,rfl,rfl,aa⟩|exact⟨_,rfl,rfl⟩|exact⟨_,rfl,aa⟩
  |false=>
   have b8:(m==0)=true:=by
    rcases ak with h|h
    ·rw[h]at b7;simp at b7
    ·simpa using h
   clear ak;refine Z3 ?_
   repeat' (first|refine Z1 ?_|(refine Z8 ?_;intro κ hκ)|(refine Z4 ?_;clear hκ κ)|(refine Z2 ?_ ?_<;>intro h ab<;>try exact Xp)|(refine Z5 ?_;first|(refine Xi (ap _) ?_;rintro _ _ ⟨rfl,ac⟩;(have aa:=aa.trans ac;have ad:=aa.nobj;clear ac))|(refine Xi (bd _) ?_;rintro _ _ ⟨rfl,ac⟩;(have aa:=aa.trans ac;have ad:=aa.nobj;clear ac)))|refine Z3 ?_|exact⟨⟩|(apply hκ.out;clear hκ κ))
   first|exact⟨_,rfl,rfl,aa⟩|exact⟨_,rfl,rfl⟩|exact⟨_,rfl,aa⟩
end Go.Proofs.YtmoeoppbmhfbpabGreatDoorG
