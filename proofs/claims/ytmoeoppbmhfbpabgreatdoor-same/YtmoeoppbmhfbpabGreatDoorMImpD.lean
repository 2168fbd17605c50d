import Derived.Test.YtmoeoppbmhfbpabGreatDoorMFolB
import Derived.Test.YtmoeoppbmhfbpabGreatDoorMEngR
import Derived.Test.YtmoeoppbmhfbpabGreatDoorLSpaF
import Derived.Test.YtmoeoppbmhfbpabGreatDoorLOptA
import Derived.Test.YtmoeoppbmhfbpabGreatDoorLSpaA
set_option maxHeartbeats 64000000
set_option maxRecDepth 100000
set_option linter.all false
namespace Go.Proofs.YtmoeoppbmhfbpabGreatDoorL
open Go.Abs
theorem Keep.km2 {σ0 σ σ':St}{om ot:Nat}{M M':MM}(hK:Keep σ0 σ)(h:KM om ot M M' σ σ')(hm:σ0.nobj<=om)(ht:σ0.nobj<=ot)(hM:∀x∈M,x.1=1\/σ0.ntop+2<=x.1):Keep σ0 σ':=
 ⟨Ago hK.nobj h.nobj,fun o ho=>(h.obj o (Agp ho hK.nobj) Aj6 Aj6).trans (hK.obj o ho),fun o ho=>(h.ver o (Agp ho hK.nobj) Aj6 Aj6).trans (hK.ver o ho),Ago hK.ntop h.ntop,fun k hk=>(h.top k (Agp hk hK.ntop) (fun x hx e=>by rcases hM x hx with h'|h'<;>omega)).trans (hK.top k hk)⟩
theorem kY:∀M:MM,0<=tot M
 |[]=>Ai3 _
 |y::M=>by rw[Di];have:=kY M;omega
theorem pE:∀(M:MM) (k:Nat) (x:Nat×List Bb),M[k]?=some x->(x.2.length:Int)<=tot M
 |[],k,x,h=>by simp at h
 |y::M,k,x,h=>by
  rw[Di];have hp:=kY M;cases k with
  |zero=>simp at h;subst h;omega
  |succ k=>have:=pE M k x (by simpa using h);omega
def Gc (N:List Tx)(x:RItem):Dx:=Aae (N.length:Int) (A3 N x)
def Ja (N:List Tx)(x:RItem):List De:=(Gc N x).body.map fun l=>Ha l.a
structure BkI (N:List Tx)(l:List RItem)(ar:Nat->Nat):Prop where
 b5:∀y∈l,y.body.length<=5
 rw':∀y∈l,y.out=false->RW (2*N.length) ar (Gc N y)
 sm:∀y∈l,y.out=false->Sml (Gc N y).head.ts/\∀k∈(Gc N y).body,Sml k.a.ts
 sh:∀y∈l,y.out=false->∀a∈Ja N y,Sh ar a.p.toNat (Cr a)
theorem Aeq (N:List Tx)(p:Tx):N.idxOf p<=N.length:=List.idxOf_le_length
theorem W0 (N:List Tx)(l:List RItem)(cs:List AV)(idn idi n:Nat)(ar:Nat->Nat)(x:RItem)(hB:Bk N l cs)(hI:BkI N l ar)(hx:l[n]?=some x)(ap:x.out=false)(σ:St):
  ACalls Tryz.prog 102 [Bn N idn l idi cs,ic n] σ fun r σ'=>∃b,r=sc (.bool b)/\uG ((oth l n l.length).map (Gc N)) (Ja N x) (Gc N x).head.p.toNat (Cr (Ha (Gc N x).head)) b/\Keep σ σ':=by
 have d6:=EL.length Dd hB.el;have dd:=hB.len;have ea:=hB.nm;have hE:=hB.el;have d1:=(Agy.1 hx).1;have am:=Ag1 hx;obtain⟨hm,ih,id,b,rr,hb,hd⟩:=Em hE hx;have b1:∀y c,y∈l->PI N y c->∀σ,ACalls Tryz.prog 155 [ag c,ic N.length] σ fun r σ'=>(∃c',r=ag c'/\aW (Gc N y) c')/\Keep σ σ':=fun y c hy hc σ=>
  Vv (A3 N y) c N.length (Aan hc) (by simp only[A3,Ai1];have:=hI.b5 y hy;omega) (fun k hk=>by
   obtain⟨a,-,rfl⟩:=Aib.1 hk;have:=Aeq N a.pred;simp only[Dp,B9]
   omega) Aj6 Aj6 σ
 have bl:=fun σ=>b1 x _ am (PI.of (ih:=ih) (id:=id) hm hb) σ;simp only[ap]at bl;have ai:=hI.rw' x am ap;have cb:(Gc N x).body.length=x.body.length:=by simp[Gc,Aae,A3]
 have d7:=hI.b5 x am;have b0:=fun c (hc:aW (Gc N x) c) σ=>Q7 (Gc N x) c hc Aj6 (fun k hk=>⟨ai.rok.ba k hk,(hI.sm x am ap).2 k hk⟩) σ;have bc:(Ja N x).length=(Gc N x).body.length:=by simp[Ja]
 have bd:∀a∈Ja N x,a.ts.length<=3/\∃k:Nat,a.p=(k:Int)/\k<2*N.length:=fun a ha=>by
  obtain⟨k,hk,rfl⟩:=Aib.1 ha;exact⟨by simp only[Ha,Ai1];exact ai.rok.ba k hk,ai.rok.bp k hk⟩
 have aw:=fun cs' idf (hF:EL Mm (Ja N x) cs') σ=>Ma (2*N.length) (Ja N x) cs' idf 200 hF Aj6 Aj6 bd σ;rw[bc]at aw;have dc:(2:Int)*(N.length:Int)=((2*N.length:Nat):Int):=Aj6;have d2:(n:Int)<(l.length:Int):=Aj6;generalize cc:Gc N x=RX at bl b0 aw cb bc bd ai;generalize cn:Ja N x=FX at aw bc bd;have cu:Akc _:=cc;have cy:Akc _:=cn;have dh:RX.body.length<=5:=Aj6;have ef:FX.length<=5:=Aj6;clear cc cn cb bc;unfold Bn;refine Z9 66 [.tmp 4] Tryz.func102 ?_
 repeat' (first|refine Z1 ?_|(refine Z8 ?_;intro yb ya)|(refine Z4 ?_;clear ya yb)|(refine Z5 ?_;first|(refine Xi (bl _) ?_;rintro _ _ ⟨⟨_,rfl,a8⟩,bh⟩;(have a7:=a8;obtain⟨ro,rih,rib,rbc,rfl,d8⟩:=a8;have a5:=b0 _ a7;have br:=bh.nobj;simp only[Aa]at br))|(refine Xi (a5 _) ?_;rintro _ _ ⟨⟨idf,fc,rfl,cp⟩,ae⟩;(have a6:EL Mm FX fc:=(by rw[<-cy.out];unfold Ja;rw[cu.out];exact cp);have av:=aw fc idf a6;have bq:=ae.nobj;simp only[Ab,Aa]at bq))|(refine Xi (av _) ?_;rintro _ _ ⟨ot,M,rfl,bg,a3,d0,bu,ax⟩;(have c8:=a3.nobj)))|refine Z3 ?_|exact Zt|(apply ya.out;clear ya yb))
 rename_i σ1 σ2 σ3;obtain⟨σ4,hσ4⟩:∃τ,τ=((σ3.new [nilS,ic 0,ic 0]).put σ3.nobj [fx ot 0 (2*N.length),ic 0,ic 200]):=⟨_,rfl⟩;rw[<-hσ4];have ci:Keep σ σ1:=((Keep.refl σ).new _).trans bh;have bz:Keep σ σ2:=((ci.new _).put Aj6 _).trans ae;have ch:Keep σ σ3:=bz.trans a3;have aa:Keep σ3 σ4:=by rw[hσ4];exact ((Keep.refl σ3).new _).put (Agn _) _
 have ck:Keep σ σ4:=ch.trans aa;have n4:σ4.nobj=σ3.nobj+1:=by rw[hσ4];rfl
 have ay:=bg.len;have b3:σ4.obj σ1.nobj=[sc (.bool ro),ic RX.head.p,sl rih RX.head.ts.length (Ac RX.head.ts),sl rib RX.body.length rbc]:=by rw[aa.obj _ Aj6,a3.obj _ Aj6,ae.obj _ Akb,Aj]
 have obk:σ4.obj σ.nobj=[sl idn N.length (N.map str),sl idi l.length cs]:=by rw[aa.obj _ Aj6,a3.obj _ Aj6,ae.obj _ Akb,Ah Aj6,Ag Aj6,bh.obj _ Aka,Ao]
 have da:=bu.lt;have az:MOb σ4 σ3.nobj ot M 0 200:=(bu.keep aa).mob (by rw[hσ4,Aj,ay]) Aj6 Aj6;have dk:∀y∈M,y.1=1\/σ.ntop+2<=y.1:=fun y hy=>by have:=bz.ntop;rcases ax y hy with h|h<;>omega
 have dz:=kY M;have dy:tot M<=5:=by have:=bg.tot;omega
 have cq:=P2 σ3.nobj ot M 0 200 σ4 az;have be:=fun (id:Nat) σ=>L8 (Hs M) id (by rw[I5];omega) (fun n hn=>by have:=P4 az n hn;omega) σ;rw[show (Hs M).sum=tot M from rfl]at be;rw[I5,ay]at be;have au:=az.ob;have cw:Akc _:=bg;have cx:Akc _:=az;clear hσ4 bh ae a3 ci bz ch bu ax bg az cp a6 av aw b0 a5 bl a7;refine Bt (Q:=fun e s' σ''=>e= .normal/\s' 1=ic n/\s' 2=ptr σ.nobj 0/\s' 5=ic N.length/\s' 6=ptr σ1.nobj 0/\s' 7=ptr σ3.nobj 0/\Keep σ σ''/\σ3.nobj<σ''.nobj/\σ''.obj σ.nobj=[sl idn N.length (N.map str),sl idi l.length cs]/\σ''.obj σ1.nobj=[sc (.bool ro),ic RX.head.p,sl rih RX.head.ts.length (Ac RX.head.ts),sl rib RX.body.length rbc]/\MOb σ'' σ3.nobj ot M 0 (200-tot M)) ?_ ?_
 ·refine A1 Ai (fun _=>True) [6] [0,1] 5 #[true,true,false,false,false,false,false] Aj9 (fun _ _ _ h=>by cases h.1) ?_;intro yb ya;refine Z3 ?_;refine ya.out _ ?_;clear ya yb;refine Am (i:=2) Aj9 ?_;refine Aq ?_;intro yb ya;refine Z3 ?_;refine ACalls.mono cq ?_;rintro _ σ5 ⟨⟨ic0,rfl⟩,a0⟩;refine Z3 ?_;refine ya.out _ _ ⟨Ap a0,?_⟩;clear ya yb;refine Am (i:=3) Aj9 ?_;refine Aq ?_;intro yb ya;refine Z3 ?_;refine ACalls.mono (be _ _) ?_;rintro _ σ6 ⟨rfl,dp⟩;have ad:=a0.trans dp;have bo:=ad.nobj;have dw:σ6.obj σ3.nobj=[fx ot 0 M.length,ic 0,ic 200]:=by rw[ad.obj _ Aj6,au]
  refine Z3 ?_;refine ya.out _ _ ⟨Ap ad,?_⟩;clear ya yb;refine Am (i:=4) Aj9 ?_;refine Aq ?_;intro yb ya;refine Z3 ?_;refine ya.out _ _ ⟨Ap ad,?_⟩;clear ya yb;refine Am (i:=5) Aj9 ?_;refine Aq ?_;intro yb ya;refine Z3 ?_;refine ya.out _ _ ⟨Ap ad,?_⟩;clear ya yb;refine Am (i:=6) Aj9 ?_;refine Aq ?_;intro yb ya;refine Z3 ?_;refine ya.out _ _ ⟨Br rfl,?_⟩;clear ya yb;refine A2 Aj9 ⟨rfl,by simp[upd,initS],Aj8,Aj8,Aj8,Aj8,(ck.trans ad).put Aj6 _,by simp only[Ab];omega,?_,?_,?_⟩
  ·rw[Ah Aj6,ad.obj _ Aj6,obk]
  ·rw[Ah Aj6,ad.obj _ Aj6,b3]
  ·have hm:=(cx.out.keep ad).mpt;exact MPt.mob ⟨by rw[Ah Aj6];exact hm.oc,hm.lt,hm.live,hm.inj,hm.t3,hm.ln,hm.pl⟩ (by rw[Aj,ay]) (by simp only[Ab];omega) Aj6
 ·rintro e s σ5 ⟨rfl,g1,g2,g5,g6,g7,a0,d3,obk5,bn,ce⟩;clear cq be au cx ck aa b3 obk n4;have c7:=a0.nobj;have du:Akc _:=ce;clear ce
  repeat' (first|refine Z1 ?_|(refine Z8 ?_;intro yb ya)|(refine Z4 ?_;clear ya yb)|refine Z3 ?_|exact Zt|(apply ya.out;clear ya yb))
  refine Af (fun m s σ'=>∃(q i8:Nat) (L:List RItem) (ys:List AV),m=l.length-q/\q<=l.length/\s 1=ic n/\s 5=ic N.length/\s 6=ptr σ1.nobj 0/\s 7=ptr σ3.nobj 0/\s 8=sl i8 L.length ys/\s 34=sl idi l.length cs/\s 35=ic l.length/\s 36=ic q/\Keep σ5 σ'/\Own σ5 σ' i8 L.length/\ys.length=L.length*4/\L.length<=q/\Akc (L=oth l n q/\EL aW (L.map (Gc N)) ys)) l.length
   ⟨0,1,[],[],Aj6,Aj6,Aj7,Aj7,Aj7,Aj7,Aj8,Aj8,Aj8,Aj8,Keep.refl _,Own.nil _ _,rfl,by simp,by simp[oth],rfl⟩ ?_
  clear g1 g2 g5 g6 g7;rintro m s σ6 ⟨q,i8,L,ys,rfl,hq,h1,h5,h6,h7,h8,ei,eh,eg,hK,hO,dx,ec,hL⟩;have c6:=hK.nobj;by_cases b8:q<l.length
  ·have ab:=Agz b8;obtain⟨b7,jh,jd,jb,r2,b9,de⟩:=Em hE ab;have b4:=Ain b8;generalize l[q]=y at ab b9 de b7 b4;have ao:Akc _:=xN (n:=n) ab;have bi:=fun σ=>b1 y _ b4 (PI.of (ih:=jh) (id:=jd) b7 b9) σ;clear ab;by_cases an:q=n
   ·have db:((q:Int) !=(n:Int))=false:=by simp[an]
    have HN:Akc (L=oth l n (q+1)/\EL aW (L.map (Gc N)) ys):=⟨by rw[ao.out,if_pos (.inl an),Ahh];exact hL.out.1,hL.out.2⟩;clear an ao bi
    repeat' (first|refine Z1 ?_|(refine Z8 ?_;intro yb ya)|(refine Z4 ?_;clear ya yb)|(refine Z2 ?_ ?_<;>intro h af<;>try exact Xp)|refine Z3 ?_|exact Zt|(apply ya.out;clear ya yb))
    refine⟨l.length-(q+1),Aj6,q+1,i8,L,ys,?_⟩
    ((repeat' refine Zi ?_ ?_)<;>first|exact Xq|exact HN|exact ((hK.new _).put hK.nobj _)|exact (Own.put (Own.new hO _) _ _)|exact Xs)
   ·have db:((q:Int) !=(n:Int))=true:=by simp;omega
    cases hout:y.out with
    |true=>
     have HN:Akc (L=oth l n (q+1)/\EL aW (L.map (Gc N)) ys):=⟨by rw[ao.out,if_pos (.inr hout),Ahh];exact hL.out.1,hL.out.2⟩;clear an ao bi
     repeat' (first|refine Z1 ?_|(refine Z8 ?_;intro yb ya)|(refine Z4 ?_;clear ya yb)|(refine Z2 ?_ ?_<;>intro h af<;>try exact Xp)|refine Z3 ?_|exact Zt|(apply ya.out;clear ya yb))
     refine⟨l.length-(q+1),Aj6,q+1,i8,L,ys,?_⟩
     ((repeat' refine Zi ?_ ?_)<;>first|exact Xq|exact HN|exact ((hK.new _).put hK.nobj _)|exact (Own.put (Own.new hO _) _ _)|exact Xs)
    |false=>
     simp only[hout]at bi;have HN:Akc (∀c',aW (Gc N y) c'->L++[y]=oth l n (q+1)/\EL aW ((L++[y]).map (Gc N)) (ys++c')):=fun c' df=>⟨by rw[ao.out,if_neg (by simp[an,hout]),hL.out.1],by rw[Ahf];exact EL.append hL.out.2 (EL.single df)⟩;clear an ao
     repeat' (first|refine Z1 ?_|(refine Z8 ?_;intro yb ya)|(refine Z4 ?_;clear ya yb)|(refine Z2 ?_ ?_<;>intro h af<;>try exact Xp)|(refine Z6 ?_;intro idn σn dj ee ds ct dr cr)|(refine Z5 ?_;refine Xi (bi _) ?_;rintro _ _ ⟨⟨_,rfl,a8⟩,ae⟩;(have dt:Akc _:=HN.out _ a8;obtain⟨ro2,rih2,rib2,rbc2,rfl,-⟩:=a8;have ed:=((hK.new _).put hK.nobj _).trans ae;have d9:=Own.keep (Own.put (Own.new hO _) _ _) ae))|refine Z3 ?_|exact Zt|(apply ya.out;clear ya yb))
     refine⟨l.length-(q+1),Aj6,q+1,idn,L++[y],ys++[sc (.bool ro2),ic (Gc N y).head.p,sl rih2 (Gc N y).head.ts.length (Ac (Gc N y).head.ts),sl rib2 (Gc N y).body.length rbc2],?_⟩
     ((repeat' refine Zi ?_ ?_)<;>first|exact Xq|exact dt|exact (by rw[Aho];exact dj)|exact Xs)
  ·have c9:q=l.length:=Aj6;subst c9;obtain⟨bw,cf⟩:=hL.out;have ah:∀r∈L.map (Gc N),RW (2*N.length) ar r:=fun r hr=>by
    obtain⟨y,hy,rfl⟩:=Aib.1 hr;rw[bw]at hy;exact hI.rw' y (Pn hy).1 (Pn hy).2
   have ac:∀r∈L.map (Gc N),∀k∈r.body,k.neg=false:=fun r hr k hk=>by
    obtain⟨y,hy,rfl⟩:=Aib.1 hr;obtain⟨k0,-,rfl⟩:=Aib.1 hk;unfold F4;split
    ·rfl
    ·rename_i h;simpa using h
   have a4:Fol (2*N.length) ar (L.map (Gc N)) (LstF (L.map (Gc N)) FX):=⟨ah,(cU ac).2 (LstF.cl _ _),fun k t h=>h (Sh ar) (Afq ah ac) (fun a ha=>hI.sh x am ap a (by rw[cy.out];exact ha))⟩;have cd:∀k t,MD M k t->LstF (L.map (Gc N)) FX k t:=fun k t hk=>by
    obtain⟨a,ha,e1,e2⟩:=(cw.out.mem k t).1 hk;have:=LstF.fact (R:=L.map (Gc N)) ha;rw[e1,Ajn]at this;rw[e2];exact this
   have di:Room M 0 (200-tot M):=fun y hy=>by
    obtain⟨k,hk⟩:=Aif hy;have:=pE M k y hk;omega
   have co:=fun σ (h:MOb σ σ3.nobj ot M 0 (200-tot M))=>Jj a4 σ3.nobj ot (200-tot M) Aj6 Aj6 M 0 ay cd (fun r hr k hk hn=>by rw[ac r hr k hk]at hn;cases hn) di Aj6 Aj6 ys i8 cf (by rw[Ai1];omega) σ h;rw[Ai1]at co;have dl:MOb σ6 σ3.nobj ot M 0 (200-tot M):=du.out.keep hK;have bm:σ6.obj σ1.nobj=[sc (.bool ro),ic RX.head.p,sl rih RX.head.ts.length (Ac RX.head.ts),sl rib RX.body.length rbc]:=by rw[hK.obj _ Aj6,bn]
   have dm:=a0.trans hK;have dv:Akc _:=bw;have cv:Akc (∀(M':MM) (d':Int) (bb:Bool),GroA (LstF (L.map (Gc N)) FX) M M' 0 d'->(¬(200-tot M)<d'->ClD (L.map (Gc N)) (MD M'))->(if d'<=200-tot M then (bb=true↔MD M' RX.head.p.toNat (Cr (Ha RX.head)))else bb=false)->uG ((oth l n l.length).map (Gc N)) FX RX.head.p.toNat (Cr (Ha RX.head)) bb):=fun M' d' bb h1 h2 h3=>by
    rw[<-dv.out];exact Abz cw.out (fun a ha=>⟨_,(bd a ha).2.choose_spec.1⟩) h1 h2 h3
   have dq:=fun σ=>P0 RX.head.p rih RX.head.ts (by have:=ai.rok.hd;omega) (by have:=(hI.sm x am ap).1;rw[cu.out]at this;exact this) σ;clear bw cf a4 cd hL b1 ah
   repeat' (first|refine Z1 ?_|(refine Z8 ?_;intro yb ya)|(refine Z4 ?_;clear ya yb)|(refine Z2 ?_ ?_<;>intro h af<;>try exact Xp)|(refine Z5 ?_;refine Xi (co _ dl) ?_;rintro _ _ ⟨M',d',bv,aj,cm,d5,-,ca⟩;(have b2:Akc _:=cm;have cz:Akc _:=fun h=>(cU ac).1 (ca h);clear cm ca))|refine Z3 ?_|exact Zt)
   rename_i σ7;have bo:=aj.nobj;have c5:σ7.obj σ1.nobj=[sc (.bool ro),ic RX.head.p,sl rih RX.head.ts.length (Ac RX.head.ts),sl rib RX.body.length rbc]:=by rw[aj.obj _ Aj6 Aj6 Aj6,bm]
   have cg:Keep σ σ7:=Keep.km2 dm aj Aj6 Aj6 dk;have bf:=Kz σ3.nobj ot M' d' (200-tot M);by_cases b6:200-tot M<d'
   ·rw[show decide (200-tot M<d')=true by simpa using b6]at bf;have HR:Akc _:=cv.out M' d' false b2.out cz.out (by rw[if_neg Aj6])
    repeat' (first|refine Z1 ?_|(refine Z4 ?_;clear ya yb)|(refine Z5 ?_;refine Xi (bf _ bv) ?_;rintro _ _ ⟨rfl,rfl⟩)|refine Z3 ?_|exact Zt|(apply ya.out;clear ya yb))
    first|exact⟨_,rfl,false,rfl,HR.out,cg⟩|exact⟨_,rfl,false,rfl,HR.out⟩
   ·rw[show decide (200-tot M<d')=false by simpa using b6]at bf;obtain⟨k,hk,d4⟩:=ai.rok.hp;have eb:M'.length=2*N.length:=by rw[b2.out.len];exact ay
    have a9:=Agz (l:=M') (i:=k) Aj6;generalize M'[k]'Aj6=x' at a9;have ak:=fun id σ (h:MOb σ σ3.nobj ot M' d' (200-tot M))=>I0 σ3.nobj ot M' d' (200-tot M) (Ha RX.head) id k x' (by simp only[Ha,Ai1];exact ai.rok.hd) hk a9 σ h
    have HR:Akc (uG ((oth l n l.length).map (Gc N)) FX RX.head.p.toNat (Cr (Ha RX.head)) (decide (Cr (Ha RX.head)∈x'.2))):=cv.out M' d' _ b2.out cz.out (by
     rw[if_pos Aj6,hk,Ajn];unfold MD;rw[B7 a9]
     simp)
    generalize decide (Cr (Ha RX.head)∈x'.2)=bb at ak HR;simp only[Ha,Ai1]at ak;clear a9 hk
    repeat' (first|refine Z1 ?_|(refine Z4 ?_;clear ya yb)|(refine Z5 ?_;first|(refine Xi (bf _ bv) ?_;rintro _ _ ⟨rfl,rfl⟩)|(refine Xi (dq _) ?_;rintro _ _ ⟨⟨idh,rfl⟩,cj⟩)|(refine Xi (ak _ _ (bv.keep cj)) ?_;rintro _ _ ⟨rfl,dn⟩))|refine Z3 ?_|exact Zt|(apply ya.out;clear ya yb))
    first|exact⟨_,rfl,_,rfl,HR.out,(cg.trans cj).trans dn⟩|exact⟨_,rfl,_,rfl,HR.out⟩
theorem qA {α:Type}:∀{l m:List α},l.Nodup->(∀a∈l,a∈m)->l.length<=m.length
 |[],m,_,_=>by simp
 |a::l,m,h,hs=>by
  obtain⟨s,t,rfl⟩:=List.append_of_mem (hs a (by simp));have hn:=Aiy.1 h
  have:=qA (l:=l) (m:=s++t) hn.2 (fun b hb=>by
   have:=hs b (by simp[hb]);rcases Ah8.1 this with h'|h'
   ·exact Ajx _ h'
   ·rcases Ah2.1 h' with rfl|h'
    ·exact absurd hb hn.1
    ·exact Ajy _ h')
  simp only[Ahy,Aho]at this⊢;omega
theorem Qx {α β:Type}{f:α->β}:∀{l:List α},l.Nodup->(∀a∈l,∀b∈l,f a=f b->a=b)->(l.map f).Nodup
 |[],_,_=>Ai0
 |a::l,h,hi=>by
  have hn:=Aiy.1 h;rw[Ahj,Aiy];refine⟨fun hm=>?_,Qx hn.2 fun b hb c hc=>hi b (by simp[hb]) c (by simp[hc])⟩;obtain⟨b,hb,e⟩:=Aib.1 hm;have:=hi b (by simp[hb]) a (by simp) e;exact hn.1 (this ▸ hb)
def L9:Nat->MM->List (Nat×Bb)
 |_,[]=>[]
 |k,x::M=>x.2.map (fun t=>(k,t))++L9 (k+1) M
theorem aF:∀(M:MM) (k:Nat),((L9 k M).length:Int)=tot M
 |[],k=>rfl
 |x::M,k=>by rw[L9,Di,<-aF M (k+1)];simp
theorem Q6:∀(M:MM) (k j:Nat) (t:Bb),(j,t)∈L9 k M↔k<=j/\MD M (j-k) t
 |[],k,j,t=>by simp[L9,MD,Ax]
 |x::M,k,j,t=>by
  rw[L9,Ah8,Q6 M (k+1) j t];unfold MD Ax;simp only[Ajn];constructor
  ·rintro (h|⟨h1,h2⟩)
   ·obtain⟨u,hu,e⟩:=Aib.1 h;cases e;simpa using hu
   ·refine⟨Aj6,?_⟩;rw[show j-k=(j-(k+1))+1 by omega,List.getElem?_cons_succ];exact h2
  ·rintro⟨h1,h2⟩;by_cases e:j=k
   ·subst e;left;rw[Aig,Ai9]at h2;exact Aib.2 ⟨t,by simpa using h2,rfl⟩
   ·right;rw[show j-k=(j-(k+1))+1 by omega,List.getElem?_cons_succ]at h2;exact⟨Aj6,h2⟩
theorem Rw:∀(M:MM) (k:Nat),(∀x∈M,x.2.Nodup)->(L9 k M).Nodup
 |[],k,_=>Ai0
 |x::M,k,h=>by
  rw[L9,Ajf];refine⟨Qx (h x (by simp)) (fun a _ b _ e=>by cases e;rfl),Rw M (k+1) (fun y hy=>h y (by simp[hy])),fun a ha b hb e=>?_⟩;obtain⟨t,-,rfl⟩:=Aib.1 ha;obtain⟨j,u⟩:=b;cases e;have:=((Q6 M (k+1) k t).1 hb).1;omega
theorem Aea {M:MM}{α:Type}{A:List α}{e:α->Nat×Bb}(hn:∀x∈M,x.2.Nodup)(h:∀k t,MD M k t->∃a∈A,e a=(k,t)):tot M<=A.length:=by
 have hc:∀p∈L9 0 M,∃a∈A,e a=p:=fun p hp=>by
  obtain⟨k,t⟩:=p;exact h k t ((Q6 M 0 k t).1 hp).2
 have hg:∃g:Nat×Bb->Option α,∀p∈L9 0 M,∃a∈A,g p=some a/\e a=p:=by
  refine⟨fun p=>Classical.epsilon fun o=>∃a∈A,o=some a/\e a=p,fun p hp=>?_⟩;obtain⟨a,ha,he⟩:=hc p hp;have:=Classical.epsilon_spec (p:=fun o=>∃a∈A,o=some a/\e a=p) ⟨some a,a,ha,rfl,he⟩;exact this
 obtain⟨g,hg⟩:=hg
 have h1:((L9 0 M).map g).Nodup:=Qx (Rw M 0 hn) (fun p hp q hq aa=>by
  obtain⟨a,-,h1,h2⟩:=hg p hp;obtain⟨b,-,h3,h4⟩:=hg q hq;rw[h1,h3]at aa;cases aa
  exact h2.symm.trans h4)
 have h2:=qA (m:=A.map some) h1 (fun o ho=>by
  obtain⟨p,hp,rfl⟩:=Aib.1 ho;obtain⟨a,ha,h1,-⟩:=hg p hp
  rw[h1];exact Aib.2 ⟨a,ha,rfl⟩)
 rw[Ai1,Ai1]at h2;rw[<-aF M 0];omega
theorem Qk {l m:List Int}(hl:l.length=m.length)(h3:l.length<=3)(h:C4 l=C4 m):l=m:=by
 refine Ahi fun i=>?_;by_cases hi:i<l.length
 ·unfold C4 at h;simp only[Ajv,and_true]at h;obtain⟨e0,e1,e2⟩:=h;have h1:=Agz hi;have h2:=Agz (l:=m) (i:=i) Aj6;have:i=0\/i=1\/i=2:=Aj6;rcases this with rfl|rfl|rfl
  ·rw[h1,h2]at e0;rw[h1,h2];exact congrArg some e0
  ·rw[h1,h2]at e1;rw[h1,h2];exact congrArg some e1
  ·rw[h1,h2]at e2;rw[h1,h2];exact congrArg some e2
 ·rw[Ahb Aj6,Ahb Aj6]
def Hr:Tx->Int
 |[]=>0
 |b::r=>if b=35 then 1000+(Ak r).2 else (Ak (b::r)).2
theorem aG (b:UInt8)(r:Tx):Hr (b::r)=if b=35 then 1000+(Ak r).2 else (Ak (b::r)).2:=rfl
theorem Hc (v:Tx):Hr (35::v)=1000+(Ak v).2:=by rw[aG,if_pos rfl]
def GT (t:Tx):Prop:=(Ad t=false/\VT t/\DT t)\/∃v,t=35::v/\Ad v=true/\VT v
theorem uQ {v:Tx}(h:VT v)(hv:Ad v=true):∃b,v=[b]/\Bl b.toNat=true:=by
 rcases h with h|⟨h1,h2⟩
 ·exact h
 ·exfalso;cases v with
  |nil=>exact h1 rfl
  |cons b r=>
   have hd:=h2 b (by simp);have hl:Bl b.toNat=true:=hv;unfold Az at hd;unfold Bl at hl;simp at hd hl;omega
theorem Ad4 {v:Tx}(h:VT v)(hv:Ad v=false):v≠[]/\∀b∈v,Az b.toNat=true:=by
 rcases h with⟨b,rfl,h⟩|h
 ·have:Ad [b]=Bl b.toNat:=rfl;rw[this,h]at hv;cases hv
 ·exact h
theorem Hq {t:Tx}(h:VT t)(hv:Ad t=false):Hr t=(Ak t).2:=by
 obtain⟨h1,h2⟩:=Ad4 h hv;cases t with
 |nil=>exact absurd rfl h1
 |cons b r=>
  rw[aG,if_neg];rintro rfl;have:=h2 35 (by simp);revert this;decide
theorem M9 {v:Tx}(h:VT v)(hv:Ad v=true):0<=(Ak v).2/\(Ak v).2<26:=by
 obtain⟨b,rfl,hl⟩:=uQ h hv;rw[Dz hl];unfold Bl at hl;simp at hl;simp only;omega
theorem Ol {t:Tx}(h:DT t)(hv:Ad t=false):Lib.itoa (Ak t).2=t/\0<=(Ak t).2/\(Ak t).2<=999:=by
 rcases h with h|⟨-,h⟩
 ·rw[h]at hv;cases hv
 ·exact h
theorem yY {t:Tx}(h:GT t):∃n:Nat,Hr t=(n:Int)/\n<1026:=by
 rcases h with⟨h1,h2,h3⟩|⟨v,rfl,h1,h2⟩
 ·rw[Hq h2 h1];obtain⟨-,e1,e2⟩:=Ol h3 h1;exact⟨(Ak t).2.toNat,Aj6,Aj6⟩
 ·obtain⟨e1,e2⟩:=M9 h2 h1;refine⟨(1000+(Ak v).2).toNat,?_,Aj6⟩;rw[Hc];omega
theorem jB {t u:Tx}(ht:GT t)(hu:GT u)(h:Hr t=Hr u):t=u:=by
 rcases ht with⟨h1,h2,h3⟩|⟨v,rfl,h1,h2⟩
 ·rcases hu with⟨g1,g2,g3⟩|⟨w,rfl,g1,g2⟩
  ·rw[Hq h2 h1,Hq g2 g1]at h;rw[<-(Ol h3 h1).1,<-(Ol g3 g1).1,h]
  ·exfalso;rw[Hq h2 h1]at h;have:=(Ol h3 h1).2.2;have:=(M9 g2 g1).1;rw[Hc]at h;omega
 ·rcases hu with⟨g1,g2,g3⟩|⟨w,rfl,g1,g2⟩
  ·exfalso;rw[Hq g2 g1]at h;have:=(Ol g3 g1).2.2;have:=(M9 h2 h1).1;rw[Hc]at h;omega
  ·rw[Hc,Hc]at h;rw[qK h2 g2 h1 g1 Aj6]
theorem yZ {t:Tx}(h:VT t):Hr (W7 t)=(W6 (Ak t)).2:=by
 unfold W7 W6;rw[Bo];cases hv:Ad t with
 |true=>rw[if_pos rfl,if_pos rfl,Hc]
 |false=>rw[if_neg (by simp),if_neg (by simp)];exact Hq h hv
theorem Aet {t:Tx}(h:VT t)(hd:DT t):GT (W7 t):=by
 unfold W7;cases hv:Ad t with
 |true=>rw[if_pos rfl];exact .inr ⟨t,rfl,hv,h⟩
 |false=>rw[if_neg (by simp)];exact .inl ⟨hv,h,hd⟩
def Lf (N:List Tx)(a:RAtom):Nat:=N.idxOf a.pred+(if a.nt=true then N.length else 0)
def eA (N:List Tx)(a:RAtom):Nat×Bb:=(Lf N a,C4 (a.terms.map Hr))
structure AtI (N:List Tx)(ar:Tx->Nat)(a:RAtom):Prop where
 mem:a.pred∈N
 len:a.terms.length=ar a.pred
 le3:a.terms.length<=3
structure GA (N:List Tx)(ar:Tx->Nat)(a:RAtom):Prop extends AtI N ar a where
 gt:∀t∈a.terms,GT t
theorem gA {N:List Tx}{a b:RAtom}(ha:a.pred∈N)(hb:b.pred∈N)(h:Lf N a=Lf N b):a.nt=b.nt/\a.pred=b.pred:=by
 have h1:=Air ha;have h2:=Air hb;unfold Lf at h;have hnt:a.nt=b.nt:=by
  cases e1:a.nt<;>cases e2:b.nt<;>simp[e1,e2]at h⊢ <;>omega
 rw[hnt]at h;have hi:N.idxOf a.pred=N.idxOf b.pred:=Aj6;refine⟨hnt,?_⟩;have e1:=Aiq h1;have e2:=Aiq h2;rw[<-e1,<-e2];congr 1
theorem Od {α β:Type}{f:α->β}:∀{l m:List α},(∀a∈l,∀b∈m,f a=f b->a=b)->l.map f=m.map f->l=m
 |[],[],_,_=>rfl
 |[],b::m,_,h=>by simp at h
 |a::l,[],_,h=>by simp at h
 |a::l,b::m,hi,h=>by
  simp only[Ahj,Ajv]at h;rw[hi a (by simp) b (by simp) h.1,Od (fun x hx y hy=>hi x (by simp[hx]) y (by simp[hy])) h.2]
theorem Ae1 {N:List Tx}{ar:Tx->Nat}{a b:RAtom}(ha:GA N ar a)(hb:GA N ar b)(h:eA N a=eA N b):a=b:=by
 unfold eA at h;simp only[Prod.mk.injEq]at h;obtain⟨h1,h2⟩:=gA ha.mem hb.mem h.1;have hl:a.terms.length=b.terms.length:=by rw[ha.len,hb.len,h2]
 have h3:=Qk (by simpa using hl) (by simpa using ha.le3) h.2;exact RAtom.ext' h1 h2 (Od (fun x hx y hy e=>jB (ha.gt x hx) (hb.gt y hy) e) h3)
structure RuI (N:List Tx)(ar:Tx->Nat)(y:RItem):Prop where
 head:AtI N ar y.head
 hnt:y.head.nt=false
 body:∀b∈y.body,AtI N ar b
 vt:∀t∈y.head.terms,VT t/\DT t
 vb:∀b∈y.body,∀t∈b.terms,VT t/\DT t
 safe:∀v∈y.head.terms,Ad v=true->∃b∈y.body,v∈b.terms
theorem Aaf (N:List Tx)(y:RItem):(Gc N y).head=B9 N y.head:=rfl
theorem Gr (N:List Tx)(y:RItem):(Gc N y).body=y.body.map fun b=>F4 N.length (Dp N b):=by simp[Gc,Aae,A3]
theorem aR (N:List Tx)(b:RAtom):(F4 (N.length:Int) (Dp N b)).a.p=(Lf N b:Nat):=by
 unfold F4 Dp B9 Lf;simp only;cases h:b.nt with
 |true=>simp
 |false=>simp
theorem Mi (N:List Tx)(b:RAtom):(F4 (N.length:Int) (Dp N b)).a.ts=b.terms.map Ak:=by
 unfold F4 Dp B9;simp only;split<;>rfl
def Af4 (v:Int):UInt8:=UInt8.ofNat (65+v.toNat)
def xW (μ:Tx->Tx):Nu:=fun v=>Hr (μ [Af4 v])
theorem xV {μ:Tx->Tx}{v:Tx}(h:VT v)(hv:Ad v=true):xW μ (Ak v).2=Hr (μ v):=by
 obtain⟨b,rfl,hl⟩:=uQ h hv;unfold xW Af4;rw[Dz hl];have hb:65<=b.toNat:=by unfold Bl at hl;simp at hl;omega
 have e:(65+((b.toNat:Int)-65).toNat)=b.toNat:=Aj6;simp only[e,UInt8.ofNat_toNat]
theorem Ad5 {μ:Tx->Tx}{t:Tx}(h:VT t):En (xW μ) (Ak t)=Hr (pG μ t):=by
 unfold En;rw[Bo];cases hv:Ad t with
 |true=>rw[if_pos rfl,pF hv,xV h hv]
 |false=>rw[if_neg (by simp),bD hv,Hq h hv]
theorem wA {μ:Tx->Tx}{ts:List Tx}{p:Int}(h:∀t∈ts,VT t):Be ⟨p,ts.map Ak⟩ (xW μ)=C4 ((ts.map (pG μ)).map Hr):=by
 unfold Be;simp only[Ahg];congr 1;exact Aid fun t ht=>Ad5 (h t ht)
theorem cJ {a:De}{ν:Nu}:Be a ν=Be ⟨0,a.ts⟩ ν:=rfl
structure nZ (N:List Tx)(ar:Tx->Nat)(Rd:List RItem)(x:RItem):Prop where
 ru:∀y∈Rd,RuI N ar y
 x:RuI N ar x
theorem mV {N:List Tx}{ar:Tx->Nat}{b:RAtom}(h:AtI N ar b)(ht:∀t∈b.terms,VT t/\DT t):GA N ar (Px b):=
 ⟨⟨h.mem,by show (b.terms.map W7).length=_;rw[Ai1];exact h.len,by show (b.terms.map W7).length<=3;rw[Ai1];exact h.le3⟩,fun t hm=>by
  obtain⟨u,hu,rfl⟩:=Aib.1 hm
  exact Aet (ht u hu).1 (ht u hu).2⟩
theorem cQ {N:List Tx}{b:RAtom}(ht:∀t∈b.terms,VT t):eA N (Px b)=((F4 (N.length:Int) (Dp N b)).a.p.toNat,Cr (Ha (F4 (N.length:Int) (Dp N b)).a)):=by
 unfold eA;rw[aR,Ajn];refine Prod.ext rfl ?_;show C4 ((b.terms.map W7).map Hr)=C4 (((F4 (N.length:Int) (Dp N b)).a.ts.map W6).map (·.2));rw[Mi,Ahg,Ahg,Ahg];congr 1;exact Aid fun t hm=>yZ (ht t hm)
theorem Aec {N:List Tx}{ar:Tx->Nat}{Rd:List RItem}{x:RItem}(h:nZ N ar Rd x):Sat true Rd (x.body.map Px) (fun a=>GA N ar a/\LstF (Rd.map (Gc N)) (Ja N x) (eA N a).1 (eA N a).2):=by
 refine⟨fun a ha=>?_,fun A' ac hg y hy hd hs=>?_⟩
 ·obtain⟨b,hb,rfl⟩:=Aib.1 ha;refine⟨mV (h.x.body b hb) (h.x.vb b hb),?_⟩;rw[cQ fun t ht=>(h.x.vb b hb t ht).1];have hf:Ha (F4 (N.length:Int) (Dp N b)).a∈Ja N x:=by
   unfold Ja;rw[Gr,Ahg];exact Aib.2 ⟨b,hb,rfl⟩
  exact LstF.fact hf
 ·obtain⟨μ,h1,-,rfl⟩:=hs;have hr:=h.ru y hy;have hb:∀b∈y.body,GA N ar (Ws μ b)/\LstF (Rd.map (Gc N)) (Ja N x) (eA N (Ws μ b)).1 (eA N (Ws μ b)).2:=fun b hb=>ac _ (h1 b hb rfl);refine⟨⟨⟨hr.head.mem,by show (y.head.terms.map _).length=_;rw[Ai1];exact hr.head.len,by show (y.head.terms.map _).length<=3;rw[Ai1];exact hr.head.le3⟩,fun t ht=>?_⟩,?_⟩
  ·obtain⟨u,hu,rfl⟩:=Aib.1 ht;cases hv:Ad u with
   |false=>rw[bD hv];exact .inl ⟨hv,(hr.vt u hu).1,(hr.vt u hu).2⟩
   |true=>
    obtain⟨b,aa,ab⟩:=hr.safe u hu hv;exact (hb b aa).1.gt _ (Aib.2 ⟨u,ab,rfl⟩)
  ·have hc:=LstF.cl (Rd.map (Gc N)) (Ja N x) (Gc N y) (Aib.2 ⟨y,hy,rfl⟩) (xW μ) (fun l hl=>by
    rw[Gr]at hl;obtain⟨b,aa,rfl⟩:=Aib.1 hl;have h2:=(hb b aa).2;rw[aR,Ajn,cJ,Mi,wA fun t ht=>(hr.vb b aa t ht).1]
    exact h2)
   rw[Aaf,cJ]at hc;have e1:(B9 N y.head).ts=y.head.terms.map Ak:=rfl;rw[e1,wA fun t ht=>(hr.vt t ht).1]at hc;have e2:(B9 N y.head).p.toNat=(eA N (Ws μ y.head)).1:=by
    show (((N.idxOf y.head.pred:Nat):Int)).toNat=Lf N (Ws μ y.head);unfold Lf;have:(Ws μ y.head).nt=false:=hr.hnt;rw[this,Ajn];rfl
   rw[e2]at hc;exact hc
theorem lM {t:Tx}(h:(As t).1=0):∀x∈Cv t,∀y∈Cv t,∀a∈Ae x,∀b∈Ae y,a.pred=b.pred->a.terms.length=b.terms.length:=by
 have aa:∀i,i<(Cv t).length->H6 (Cv t) i=false:=by
  unfold As at h;split at h
  ·simp at h
  split at h
  ·simp at h
  unfold Cd at h;split at h
  ·simp at h
  ·rename_i hk;exact Kx hk
 have key:∀(i j:Nat) (x y:RItem) (a b:RAtom),(Cv t)[i]?=some x->(Cv t)[j]?=some y->i<j->a∈Ae x->b∈Ae y->a.pred=b.pred->a.terms.length=b.terms.length:=by
  intro i j x y a b hi hj ac ha hb he;have h1:=aa j (Agy.1 hj).1;unfold H6 at h1;rw[hj]at h1;simp only[Aim,List.mem_range]at h1;obtain⟨k,hk⟩:=Aif hb;have h2:=h1 k (Agy.1 hk).1;unfold Rp at h2;rw[hk]at h2;simp only[Ahz,not_exists,not_and]at h2
  have h3:=h2 a (by
   unfold Df Dj;refine Ah8.2 (.inl (Ah7.2 ⟨x,?_,ha⟩))
   exact Ag1 (i:=i) (by rw[Agw,if_pos ac];exact hi))
  unfold clash at h3;simp[he]at h3;exact h3
 intro x hx y hy a ha b hb he;obtain⟨i,hi⟩:=Aif hx;obtain⟨j,hj⟩:=Aif hy;rcases Nat.lt_trichotomy i j with ab|rfl|ad
 ·exact key i j x y a b hi hj ab ha hb he
 ·rw[hi]at hj;cases hj;exact Zb h x hx a ha b hb he
 ·exact (key j i y x b a hj hi ad hb ha he.symm).symm
def X0 (l:List RItem)(ar:Tx->Nat):Prop:=∀x∈l,∀a∈Ae x,a.terms.length=ar a.pred
theorem Aga {t:Tx}(h:(As t).1=0):∃ar,X0 (Cv t) ar:=by
 refine⟨fun p=>Classical.epsilon fun n=>∃x∈Cv t,∃a∈Ae x,a.pred=p/\a.terms.length=n,fun x hx a ha=>?_⟩;have:=Classical.epsilon_spec (p:=fun n=>∃x∈Cv t,∃b∈Ae x,b.pred=a.pred/\b.terms.length=n) ⟨_,x,hx,a,ha,rfl,rfl⟩;obtain⟨y,hy,b,hb,e1,e2⟩:=this;rw[lM h x hx y hy a ha b hb e1.symm];exact e2
theorem Afs {t:Tx}{N:List Tx}{l:List RItem}{cs:List AV}{ar:Tx->Nat}(h:Right t N l cs)(hA:X0 l ar){x:RItem}(hx:x∈l)(ho:x.out=false):RuI N ar x:=by
 have hi:=h.items;have ad:x∈Cv t:=by rw[hi];exact hx
 have hf:=Uq h.ok x ad;have ac:=h.wi x hx;have hw:=hf.w.2.2 ho;have aa:∀a,a=x.head\/a∈x.body->a∈Ae x:=fun a ha=>by
  rcases ha with rfl|ha<;>simp[Ae,ho, *]
 have ab:∀a∈Ae x,a.terms.length=ar a.pred:=hA x hx;refine⟨⟨ac.mem,ab _ (aa _ (.inl rfl)),hw.1.2.2.1⟩,hw.2.1,fun b hb=>⟨(ac.wa b hb).1,ab _ (aa _ (.inr hb)),(hw.2.2.2 b hb).2.2.1⟩,fun w hm=>⟨hf.va _ (aa _ (.inl rfl)) w hm,hf.dt _ (aa _ (.inl rfl)) w hm⟩,fun b hb w hm=>⟨hf.va _ (aa _ (.inr hb)) w hm,hf.dt _ (aa _ (.inr hb)) w hm⟩,fun v hm hv=>?_⟩;obtain⟨c0,p,hH,-⟩:=hf.rule ho;obtain⟨a,ha,-,ae⟩:=hH.saf v hv (.inl hm);exact⟨a,ha,ae⟩
def arN (N:List Tx)(ar:Tx->Nat)(k:Nat):Nat:=ar (N.getD (if k<N.length then k else k-N.length) [])
theorem nU {N:List Tx}{ar:Tx->Nat}{a:RAtom}(h:a.pred∈N):arN N ar (Lf N a)=ar a.pred:=by
 have hl:=Air h;have e:N.getD (N.idxOf a.pred) []=a.pred:=by
  rw[List.getD_eq_getElem?_getD,Agz hl,Ajh];exact Aiq hl
 unfold arN Lf;cases hn:a.nt with
 |true=>
  simp only[if_true];rw[if_neg Aj6,Nat.add_sub_cancel,e]
 |false=>
  simp only[Ahv,if_false,Ag2];rw[if_pos hl,e]
theorem Acp {w:Tx}(hv:VT w)(hd:DT w)(h:(Ak w).1=false):∃n:Nat,(Ak w).2=(n:Int)/\n<1026:=by
 rw[Bo]at h;obtain⟨-,e1,e2⟩:=Ol hd h;exact⟨(Ak w).2.toNat,Aj6,Aj6⟩
theorem tJ {w:Tx}(hv:VT w)(hd:DT w):0<=(Ak w).2/\(Ak w).2<=999:=by
 cases h:Ad w with
 |true=>have:=M9 hv h;omega
 |false=>obtain⟨-,e1,e2⟩:=Ol hd h;omega
theorem wW {N:List Tx}{a:RAtom}(h:a.pred∈N):Lf N a<2*N.length:=by
 have:=Air h;unfold Lf;split<;>omega
theorem cK {ts:List Tx}{v:Int}(h:(true,v)∈ts.map Ak):∃w∈ts,Ad w=true/\(Ak w).2=v:=by
 obtain⟨w,hw,e⟩:=Aib.1 h;refine⟨w,hw,?_,by rw[e]⟩;rw[<-Bo,e]
theorem cY (n:Int)(l:Lit):(F4 n l).neg=false:=by
 unfold F4;split
 ·rfl
 ·rename_i h;simpa using h
theorem Afr {N:List Tx}{ar:Tx->Nat}{y:RItem}(h:RuI N ar y)(h5:y.body.length<=5):RW (2*N.length) (arN N ar) (Gc N y):=by
 have hb:∀l∈(Gc N y).body,∃b∈y.body,l=F4 (N.length:Int) (Dp N b):=fun l hl=>by
  rw[Gr]at hl;obtain⟨b,hb,rfl⟩:=Aib.1 hl;exact⟨b,hb,rfl⟩
 have af:Lf N y.head=N.idxOf y.head.pred:=by unfold Lf;rw[h.hnt];simp
 have ad:(Gc N y).head.p=((Lf N y.head:Nat):Int):=by rw[af];rfl
 have ac:(Gc N y).head.ts=y.head.terms.map Ak:=rfl;refine⟨⟨by rw[ac,Ai1];exact h.head.le3,⟨_,ad,wW h.head.mem⟩,by rw[Gr,Ai1];omega,fun l hl=>?_,fun l hl=>?_⟩,fun l hl hn=>?_,?_,fun l hl=>?_,fun t ht hc=>?_,fun v hv=>?_,fun l hl v hv=>?_,fun v hv=>?_⟩
 ·obtain⟨b,aa,rfl⟩:=hb l hl;rw[Mi,Ai1];exact (h.body b aa).le3
 ·obtain⟨b,aa,rfl⟩:=hb l hl;exact⟨_,aR N b,wW (h.body b aa).mem⟩
 ·obtain⟨b,aa,rfl⟩:=hb l hl;rw[cY]at hn;cases hn
 ·rw[ac,Ai1,ad,Ajn,nU h.head.mem];exact h.head.len
 ·obtain⟨b,aa,rfl⟩:=hb l hl;rw[Mi,Ai1,aR,Ajn,nU (h.body b aa).mem];exact (h.body b aa).len
 ·rw[ac]at ht;obtain⟨w,hw,rfl⟩:=Aib.1 ht;exact Acp (h.vt w hw).1 (h.vt w hw).2 hc
 ·rw[ac]at hv;obtain⟨w,hw,ab,rfl⟩:=cK hv;exact M9 (h.vt w hw).1 ab
 ·obtain⟨b,aa,rfl⟩:=hb l hl;rw[Mi]at hv;obtain⟨w,hw,ab,rfl⟩:=cK hv;exact M9 (h.vb b aa w hw).1 ab
 ·have hv:A7 (Gc N y).head.ts v=true:=by
   rcases hv with hv|⟨l,hl,hn,-⟩
   ·exact hv
   ·obtain⟨b,aa,rfl⟩:=hb l hl;rw[cY]at hn;cases hn
  rw[hasV_iff,ac]at hv;obtain⟨w,hw,ab,rfl⟩:=cK hv;obtain⟨b,aa,ae⟩:=h.safe w hw ab;refine⟨F4 (N.length:Int) (Dp N b),by rw[Gr];exact Aib.2 ⟨b,aa,rfl⟩,cY _ _,?_⟩;rw[hasV_iff,Mi];refine Aib.2 ⟨w,ae,?_⟩;rw[<-ab,<-Bo]
theorem wG {ts:List Tx}(h:∀t∈ts,VT t/\DT t):Sml (ts.map Ak):=fun t ht=>by
 obtain⟨w,hw,rfl⟩:=Aib.1 ht;have:=tJ (h w hw).1 (h w hw).2;omega
def iT (N:List Tx)(l:List RItem)(i:Nat)(x:RItem)(b:Bool):Prop:=uG ((oth l i l.length).map (Gc N)) (Ja N x) (Gc N x).head.p.toNat (Cr (Ha (Gc N x).head)) b
def sQ (N:List Tx)(l:List RItem)(n:Nat):Prop:=∀i y,i<n->l[i]?=some y->y.out=false->Cy N l (Co i [] l)=true->iT N l i y false
def chR (N:List Tx)(l:List RItem)(idn:Nat)(x:AV)(b:Bool):Prop:=
 (b=false/\sQ N l l.length)\/(b=true/\∃i y,l[i]?=some y/\y.out=false/\Cy N l (Co i [] l)=true/\iT N l i y true/\sQ N l i/\∃id c',x=Bn N idn (Co i [] l) id c'/\EL (PI N) (Co i [] l) c')
theorem GL.less {N:List Tx}{l:List RItem}(h:GL N l){i:Nat}:GL N (Co i [] l):=by
 have hm:∀y∈Co i [] l,y∈l:=fun y hy=>by
  rcases Dt hy with h|h
  ·exact h
  ·cases h
 exact⟨Ago (Pf l) h.len,h.nm,fun y hy=>h.msr y (hm y hy),fun y hy=>h.fits y (hm y hy),fun y hy=>h.pos y (hm y hy),fun y hy=>h.va y (hm y hy),fun y hy=>h.ar y (hm y hy)⟩
theorem Nh (N:List Tx)(l:List RItem)(cs:List AV)(idn idi:Nat)(ar:Nat->Nat)(hG:GL N l)(hI:BkI N l ar)(hE:EL (PI N) l cs)(σ:St):
  ACalls Tryz.prog 126 [Bn N idn l idi cs] σ fun r σ'=>(∃x b,r=tp [x,sc (.bool b)]/\chR N l idn x b/\kC x)/\Keep σ σ':=by
 have bg:=EL.length Dd hE;have ax:=hG.len;have ba:Bk N l cs:=(hG.bkm hE).bk ax;have ak:=fun i σ=>Ut N l [] cs [] idn idi 1 i hE rfl Aj6 (by simp) σ;have ai:=fun i c' id' (a8:EL (PI N) (Co i [] l) c') σ=>Hu N l (Co i [] l) cs c' idn idi id' (hG.bkm hE) (hG.less.bkm a8).bj σ;simp only[Ahx]at ak;refine Z9 37 [.cell 2 62,.tmp 3] Tryz.func126 ?_
 repeat' (first|refine Z1 ?_|(refine Z8 ?_;intro yb ya)|(refine Z4 ?_;clear ya yb)|refine Z3 ?_|exact Zt|(apply ya.out;clear ya yb))
 refine Af (fun m s σ'=>∃(i:Nat),m=l.length-i/\i<=l.length/\s 1=ptr σ.nobj 0/\s 2=ptr (σ.nobj+1) 0/\s 10=sl idi l.length cs/\s 11=sc (.int .i64 l.length)/\s 12=sc (.int .i64 i)/\Keep σ σ'/\σ.nobj+1<σ'.nobj/\σ'.obj σ.nobj=[sl idn N.length (N.map str),sl idi l.length cs]/\σ'.obj (σ.nobj+1)=[nilS,nilS]/\Akc (sQ N l i)) l.length
  ⟨0,Aj6,Aj6,Aj8,Aj8,Aj8,Aj8,rfl,Xs,Aka,by rw[Ag Aka,Ao],by first|exact Ao|simp[Ao],fun i y h=>Aj6⟩ ?_
 rintro m s σ' ⟨i,rfl,hi,h1,h2,bm,bl,bh,hK,bf,bd,bc,hA⟩;have be:=hK.nobj;by_cases a7:i<l.length
 ·have aa:=Agz a7;obtain⟨a6,ih,idb,b,r,a9,hd⟩:=Em hE aa;generalize l[i]=x at hd aa a6 a9;have af:(x.out=false->Cy N l (Co i [] l)=true->iT N l i x false)->Akc (sQ N l (i+1)):=fun h j y hj hy ho hb=>by
   rcases Agq j i with h'|h'
   ·exact hA.out j y h' hy ho hb
   ·have:j=i:=Aj6;subst this;rw[aa]at hy;cases hy;exact h ho hb
  cases aj:x.out with
  |true=>
   rw[aj]at hd;have HA:=af (fun h=>by rw[aj]at h;cases h);clear af hA aa
   repeat' (first|refine Z1 ?_|(refine Z8 ?_;intro yb ya)|(refine Z4 ?_;clear ya yb)|(refine Z2 ?_ ?_<;>intro h ae<;>try exact Xp)|refine Z3 ?_|exact Zt|(apply ya.out;clear ya yb))
   refine⟨l.length-(i+1),Aj6,i+1,?_⟩
   ((repeat' refine Zi ?_ ?_)<;>first|exact Xq|exact HA|exact Xs)
  |false=>
   have a4:=fun σ=>W0 N l cs idn idi i ar x ba hI aa aj σ;have ak:=ak i;have ai:=ai i;have HG:Akc (l[i]?=some x):=aa;have ay:Akc _:=af;have bb:Akc (x.out=false):=aj;rw[aj]at hd;cases ah:Cy N l (Co i [] l)with
   |false=>
    rw[ah]at ai;have HA:=af (fun _ h=>by rw[ah]at h;cases h);clear af hA aa ah ay a4
    repeat' (first|refine Z1 ?_|(refine Z8 ?_;intro yb ya)|(refine Z4 ?_;clear ya yb)|(refine Z2 ?_ ?_<;>intro h ae<;>try exact Xp)|(refine Z5 ?_;first|(refine Xi (ak _) ?_;rintro _ _ ⟨⟨id6,c6,rfl,ao⟩,an⟩;(have ad:=an.nobj;have ac:=an.obj;(try simp only[Ab,Aa,Aw]at ad ac)))|(refine Xi (ai c6 id6 ao _) ?_;rintro _ _ ⟨⟨x7,rfl,a0,⟨id71,n71,c71,id72,n72,c72,rfl⟩⟩,am⟩;(have aw:=am.nobj;have au:=am.obj)))|refine Z3 ?_|exact Zt|(apply ya.out;clear ya yb))
    refine⟨l.length-(i+1),Aj6,i+1,?_⟩
    ((repeat' refine Zi ?_ ?_)<;>first|exact Xq|exact HA|exact Xs)
   |true=>
    rw[ah]at ai;have a5:Akc (Cy N l (Co i [] l)=true):=ah;clear af aa ah
    repeat' (first|refine Z1 ?_|(refine Z8 ?_;intro yb ya)|(refine Z4 ?_;clear ya yb)|(refine Z2 ?_ ?_<;>intro h ae<;>try exact Xp)|(refine Z5 ?_;first|(refine Xi (ak _) ?_;rintro _ _ ⟨⟨id6,c6,rfl,ao⟩,an⟩;(have ad:=an.nobj;have ac:=an.obj;(try simp only[Ab,Aa,Aw]at ad ac)))|(refine Xi (ai c6 id6 ao _) ?_;rintro _ _ ⟨⟨x7,rfl,a0,⟨id71,n71,c71,id72,n72,c72,rfl⟩⟩,am⟩;(have aw:=am.nobj;have au:=am.obj))|(refine Xi (a4 _) ?_;rintro _ _ ⟨bi,rfl,ab,a3⟩;(have av:=a3.nobj;have ap:=a3.obj;have az:Akc (iT N l i x bi):=ab;clear ab;(try simp only[Ab,Aa]at av ap))))|refine Z3 ?_|exact Zt|(apply ya.out;clear ya yb))
    ·have ab:=az.out;rw[h]at ab;exact⟨_,rfl,⟨_,true,rfl,.inr ⟨rfl,i,x,HG.out,bb.out,a5.out,ab,hA.out,id6,c6,a0 rfl,ao⟩,_,_,_,_,_,_,rfl⟩,Xs⟩
    ·have ab:=az.out;rw[h]at ab;have HA:=ay.out fun _ _=>ab;clear ab az ay HG a5 hA;refine⟨l.length-(i+1),Aj6,i+1,?_⟩
     ((repeat' refine Zi ?_ ?_)<;>first|exact Xq|exact HA|exact Xs)
 ·have hil:i=l.length:=Aj6;subst hil
  repeat' (first|refine Z1 ?_|(refine Z8 ?_;intro yb ya)|(refine Z4 ?_;clear ya yb)|(refine Z2 ?_ ?_<;>intro h ae<;>try exact Xp)|refine Z3 ?_|exact Zt|(apply ya.out;clear ya yb))
  exact⟨_,rfl,⟨_,false,rfl,.inl ⟨rfl,hA.out⟩,_,_,_,_,_,_,rfl⟩,Xs⟩
structure RtL (N:List Tx)(ar:Tx->Nat)(l:List RItem):Prop where
 gl:GL N l
 b5:∀x∈l,x.body.length<=5
 ru:∀x∈l,x.out=false->RuI N ar x
 wi:∀x∈l,WI N x
 wit:∀x∈l,Ck x
theorem Ae5 {N:List Tx}{l:List RItem}{ar:Tx->Nat}(h5:∀y∈l,y.body.length<=5)(h:∀y∈l,y.out=false->RuI N ar y):BkI N l (arN N ar):=by
 refine⟨h5,fun y hy ho=>Afr (h y hy ho) (h5 y hy),fun y hy ho=>?_,fun y hy ho a ha=>?_⟩
 ·have hr:=h y hy ho;refine⟨wG hr.vt,fun k hk=>?_⟩;rw[Gr]at hk;obtain⟨b,hb,rfl⟩:=Aib.1 hk;rw[Mi];exact wG (hr.vb b hb)
 ·have hr:=h y hy ho;unfold Ja at ha;rw[Gr,Ahg]at ha;obtain⟨b,hb,rfl⟩:=Aib.1 ha;have e:=cQ (N:=N) (b:=b) fun t ht=>(hr.vb b hb t ht).1;have hg:=mV (hr.body b hb) (hr.vb b hb);unfold eA at e;simp only[Prod.mk.injEq]at e;have e1:(Ha (F4 (N.length:Int) (Dp N b)).a).p.toNat=Lf N b:=by
   show (F4 (N.length:Int) (Dp N b)).a.p.toNat=_;rw[aR,Ajn]
  show Sh _ (Ha (F4 (N.length:Int) (Dp N b)).a).p.toNat (Cr (Ha (F4 (N.length:Int) (Dp N b)).a));rw[e1,<-e.2];refine⟨_,rfl,?_,fun z hz=>?_⟩
  ·rw[Ai1,nU (hr.body b hb).mem];exact hg.len
  ·obtain⟨u,hu,rfl⟩:=Aib.1 hz;exact yY (hg.gt u hu)
theorem RtL.bki {N:List Tx}{ar:Tx->Nat}{l:List RItem}(h:RtL N ar l):BkI N l (arN N ar):=Ae5 h.b5 h.ru
theorem Aff {t:Tx}(h1:DT t)(h2:Nt t)(h3:t.length<=1000)(h4:VT t):UT t:=by
 refine⟨h1,h2,h3,fun hv=>?_⟩;rcases h4 with⟨b,rfl,hb⟩|⟨h5,h6⟩
 ·simp only[Bl,Ag3,Aj3]at hb;refine⟨b.toNat-65,Aj6,?_⟩;have:=E8 (k:=((b.toNat-65:Nat):Int)) Aj6 Aj6;have e:(Jp ((b.toNat-65:Nat):Int)).toNat=b.toNat:=Aj6;rw[UInt8.toNat_inj.1 e]
 ·cases t with
  |nil=>exact absurd rfl h5
  |cons b r=>
   have h7:=h6 b (by simp);have h8:Bl b.toNat=true:=hv;simp only[Bl,Az,Ag3,Aj3]at h7 h8;omega
theorem Right.rt {t:Tx}{N:List Tx}{l:List RItem}{cs:List AV}(h:Right t N l cs){ar:Tx->Nat}(hA:X0 l ar):RtL N ar l:=by
 have hf:∀x∈l,Fine x:=fun x hx=>Uq h.ok x (by rw[h.items];exact hx);have h5:∀y∈l,y.body.length<=5:=fun y hy=>(h.wi y hy).body;refine⟨⟨h.bk.len,h.bk.nm,fun x hx=>?_,h.bk.fits,h.bk.pos,fun x hx=>(hf x hx).va,fun x hx a ha b hb=>Zb h.ok x (by rw[h.items];exact hx) a (Ar (.inr ha)) b (Ar (.inr hb))⟩,h5,fun x hx ho=>Afs h hA hx ho,h.wi,h.wit⟩;have hw:=h.wi x hx;have hs:=hw.short;refine⟨hw.out,by have:=hw.body;omega,hw.mem,hs.1.1,fun a ha=>?_⟩;have ad:=h.wit x hx;have ho:x.out=false:=by
  cases ho:x.out with
  |false=>rfl
  |true=>simp[Ae,ho,hw.out ho]at ha
 have aa:a=x.head\/a∈x.body:=by simpa[Ae,ho]using ha
 obtain⟨w1,w2,w3,w4⟩:=ad.2.2 ho;have ab:D1 a:=by rcases aa with rfl|aa;exact w1;exact w4 a aa
 have ac:short a:=by rcases aa with rfl|aa;exact hs.1;exact hs.2 a aa
 exact⟨ab.2.2.1,ac.1,fun t ht=>Aff ((hf x hx).dt a ha t ht) (ab.2.2.2 t ht) (ac.2.2 t ht) ((hf x hx).va a ha t ht)⟩
theorem RtL.sub {N:List Tx}{ar:Tx->Nat}{l l':List RItem}(h:RtL N ar l)(hs:∀x∈l',x∈l)(hl:l'.length<=16):RtL N ar l':=
 ⟨⟨hl,h.gl.nm,fun x hx=>h.gl.msr x (hs x hx),fun x hx=>h.gl.fits x (hs x hx),fun x hx=>h.gl.pos x (hs x hx),fun x hx=>h.gl.va x (hs x hx),fun x hx=>h.gl.ar x (hs x hx)⟩,fun x hx=>h.b5 x (hs x hx),fun x hx=>h.ru x (hs x hx),fun x hx=>h.wi x (hs x hx),fun x hx=>h.wit x (hs x hx)⟩
theorem RtL.less {N:List Tx}{ar:Tx->Nat}{l:List RItem}(h:RtL N ar l)(i:Nat):RtL N ar (Co i [] l):=
 h.sub (fun x hx=>by rcases Dt hx with h|h;exact h;cases h) (Ago (Pf l) h.gl.len)
theorem uN {x:RItem}{k:Nat}(h:Ck x)(ho:x.out=false):Ck (G6 x k):=by
 obtain⟨w1,w2,w3,w4⟩:=h.2.2 ho;exact⟨h.1,(fun e=>by cases e),fun _=>⟨w1,w2,Ago (Ajd _ _) w3,fun a ha=>w4 a (Aja ha)⟩⟩
theorem Afc {N:List Tx}{x:RItem}{k:Nat}(h:WI N x)(hw:Ck x)(ho:x.out=false):WI N (G6 x k):=by
 have ac:=uN (k:=k) hw ho;have ab:∀a,a∈Ae (G6 x k)->WA N (A4 x) a->WA N (A4 (G6 x k)) a:=fun a ha hA=>⟨hA.1,hA.2.1,hA.2.2.1,hA.2.2.2.1,fun w hm=>⟨(hA.2.2.2.2 w hm).1,(hA.2.2.2.2 w hm).2.1,fun hv=>Mu ac ha hm hv⟩⟩;have aa:∀a∈(G6 x k).body,a∈x.body:=fun a ha=>Aja ha;exact⟨Te h.fits,⟨h.short.1,fun a ha=>h.short.2 a (aa a ha)⟩,fun a ha=>h.va a (Ll ho ha),h.vh,fun a ha=>h.vb a (aa a ha),h.mem,Ago (Ajd _ _) h.body,(fun e=>by cases e),fun _=>⟨(h.head ho).1,ab _ (Ar (.inl ⟨rfl,rfl⟩)) (h.head ho).2⟩,fun a ha=>ab a (Ar (.inr ha)) (h.wa a (aa a ha))⟩
theorem Um {y:RItem}(hs:Eb y=true)(hu:∀a∈Ae y,∀t∈a.terms,UT t){a:RAtom}(ha:a∈Ae y){t:Tx}(ht:t∈a.terms)(hv:Ad t=true):∃b∈y.body,b.nt=false/\t∈b.terms:=by
 unfold Eb at hs;have:=Aim.1 (by simpa using hs:(Ae y).any (fun a=>a.terms.any fun w=>(Ak w).1&&!Fh y (Ak w).2)=false) a ha;have:=Aim.1 (by simpa using this:a.terms.any (fun w=>(Ak w).1&&!Fh y (Ak w).2)=false) t ht;rw[Bo,hv]at this;have hb:Fh y (Ak t).2=true:=by simpa using this
 unfold Fh at hb;obtain⟨b,ac,hb⟩:=Ahz.1 hb;simp only[Ag3,Ajo,Ahz]at hb;obtain⟨hnt,u,ab,aa⟩:=hb;refine⟨b,ac,hnt,?_⟩;unfold Oi at aa;simp only[Ag3,Aj4]at aa;have:t=u:=tellU.inj _ _ (hu a ha t ht) (hu b (Ar (.inr ac)) u ab) (Prod.ext (by rw[Bo,hv,aa.1]) aa.2.symm);rw[this];exact ab
theorem RtL.wo {N:List Tx}{ar:Tx->Nat}{l:List RItem}(h:RtL N ar l){i k:Nat}{x:RItem}(hx:l[i]?=some x)(ho:x.out=false)(hs:Eb (G6 x k)=true):RtL N ar (Co i [G6 x k] l):=by
 have aa:=Ag1 hx;have hm:∀y∈Co i [G6 x k] l,y∈l\/y=G6 x k:=fun y hy=>by
  rcases Dt hy with h|h
  ·exact .inl h
  ·exact .inr (by simpa using h)
 have ab:∀a∈(G6 x k).body,a∈x.body:=fun a ha=>Aja ha;refine⟨h.gl.wo hx ho,fun y hy=>?_,fun y hy ac=>?_,fun y hy=>?_,fun y hy=>?_⟩
 ·rcases hm y hy with hy|rfl
  ·exact h.b5 y hy
  ·exact Ago (Ajd _ _) (h.b5 x aa)
 ·rcases hm y hy with hy|rfl
  ·exact h.ru y hy ac
  ·have hr:=h.ru x aa ho;refine⟨hr.head,hr.hnt,fun b hb=>hr.body b (ab b hb),hr.vt,fun b hb=>hr.vb b (ab b hb),fun v hm hv=>?_⟩;obtain⟨b,hb,-,ad⟩:=Um hs (fun a ha=>((h.gl.msr x aa).at_ a (Ll ho ha)).2.2) (a:=x.head) (Ar (.inl ⟨rfl,rfl⟩)) hm hv;exact⟨b,hb,ad⟩
 ·rcases hm y hy with hy|rfl
  ·exact h.wi y hy
  ·exact Afc (h.wi x aa) (h.wit x aa) ho
 ·rcases hm y hy with hy|rfl
  ·exact h.wit y hy
  ·exact uN (h.wit x aa) ho
def ClS (R:List RItem)(gv:List RAtom)(S:RAtom->Prop):Prop:=(∀a∈gv,S a)/\∀y∈R,∀μ,(∀b∈y.body,S (Ws μ b))->S (Ws μ y.head)
def LA (R:List RItem)(gv:List RAtom)(a:RAtom):Prop:=∀S,ClS R gv S->S a
theorem LA.cl (R:List RItem)(gv:List RAtom):ClS R gv (LA R gv):=⟨fun a ha S hS=>hS.1 a ha,fun y hy μ hb S hS=>hS.2 y hy μ fun b aa=>hb b aa S hS⟩
theorem Abg {R:List RItem}{gv:List RAtom}{S:RAtom->Prop}(h:Sat true R gv S):ClS R gv S:=
 ⟨h.1,fun y hy μ hb=>h.2 (gv++y.body.map (Ws μ)) (fun a ha=>by
  rcases Ah8.1 ha with ha|ha
  ·exact h.1 a ha
  ·obtain⟨b,aa,rfl⟩:=Aib.1 ha
   exact hb b aa) (fun a ha=>Ajx _ ha) y hy _ ⟨μ,fun a ha _=>Ajy _ (Aib.2 ⟨a,ha,rfl⟩),fun a ha hp=>(by cases hp),rfl⟩⟩
section
variable {N:List Tx} {ar:Tx->Nat} {Rd:List RItem} {x:RItem}
theorem yI (h:nZ N ar Rd x){a:RAtom}(ha:LA Rd (x.body.map Px) a):GA N ar a/\LstF (Rd.map (Gc N)) (Ja N x) (eA N a).1 (eA N a).2:=ha _ (Abg (Aec h))
theorem Af6 (h:nZ N ar Rd x){A:RAtom->Prop}(hA:∀a,A a->GA N ar a)(hc:∀y∈Rd,∀μ,(∀b∈y.body,A (Ws μ b))->A (Ws μ y.head)):ClD (Rd.map (Gc N)) (fun k t=>∃a,A a/\eA N a=(k,t)):=by
 intro r hr ν hb;obtain⟨y,hy,rfl⟩:=Aib.1 hr;have ab:=h.ru y hy;have ah:∀b∈y.body,∃a,A a/\a.nt=b.nt/\a.pred=b.pred/\a.terms.map Hr=b.terms.map fun t=>En ν (Ak t):=fun b aa=>by
  obtain⟨a,ha,e⟩:=hb (F4 N.length (Dp N b)) (by rw[Gr];exact Aib.2 ⟨b,aa,rfl⟩);rw[aR,Ajn,cJ,Mi]at e;unfold eA at e;simp only[Prod.mk.injEq]at e;obtain⟨e1,e2⟩:=e;obtain⟨g1,g2⟩:=gA (hA a ha).mem (ab.body b aa).mem e1;refine⟨a,ha,g1,g2,?_⟩;unfold Be at e2;simp only[Ahg]at e2;exact Qk (by simp only[Ai1];rw[(hA a ha).len,(ab.body b aa).len,g2]) (by rw[Ai1];exact (hA a ha).le3) e2
 let μ:Tx->Tx:=fun v=>Classical.epsilon fun u=>GT u/\Hr u=ν (Ak v).2;have hμ:∀v,(∃u,GT u/\Hr u=ν (Ak v).2)->GT (μ v)/\Hr (μ v)=ν (Ak v).2:=fun v hv=>Classical.epsilon_spec hv;have ac:∀b∈y.body,∀v∈b.terms,Ad v=true->GT (μ v)/\Hr (μ v)=ν (Ak v).2:=fun b aa v hv ai=>by
  obtain⟨a,ha,-,-,e⟩:=ah b aa;obtain⟨i,hi⟩:=Aif hv;have h1:(b.terms.map fun t=>En ν (Ak t))[i]?=some (En ν (Ak v)):=by rw[Aha,hi];rfl
  rw[<-e,Aha]at h1;cases af:a.terms[i]? with
  |none=>rw[af]at h1;cases h1
  |some u=>
   rw[af]at h1;have h2:Hr u=En ν (Ak v):=Ai8 h1;refine hμ v ⟨u,(hA a ha).gt u (Ag1 af),?_⟩;rw[h2];unfold En;rw[Bo,ai,if_pos rfl]
 have ad:∀t,VT t->DT t->(Ad t=true->GT (μ t)/\Hr (μ t)=ν (Ak t).2)->GT (pG μ t)/\Hr (pG μ t)=En ν (Ak t):=fun t h1 h2 h3=>by
  unfold En;rw[Bo];cases hv:Ad t with
  |true=>rw[if_pos rfl,pF hv];exact h3 hv
  |false=>rw[if_neg (by simp),bD hv];exact⟨.inl ⟨hv,h1,h2⟩,Hq h1 hv⟩
 have ae:∀b∈y.body,A (Ws μ b):=fun b aa=>by
  obtain⟨a,ha,e1,e2,e3⟩:=ah b aa;have:Ws μ b=a:=by
   refine RAtom.ext' e1.symm e2.symm ?_;have hg:∀t∈b.terms,GT (pG μ t)/\Hr (pG μ t)=En ν (Ak t):=fun t ht=>ad t (ab.vb b aa t ht).1 (ab.vb b aa t ht).2 (ac b aa t ht);refine Od (f:=Hr) (fun u hu w hw e=>?_) ?_
   ·obtain⟨t,ht,rfl⟩:=Aib.1 hu;exact jB (hg t ht).1 ((hA a ha).gt w hw) e
   ·show (b.terms.map (pG μ)).map Hr=a.terms.map Hr;rw[e3,Ahg];exact Aid fun t ht=>(hg t ht).2
  rw[this];exact ha
 refine⟨Ws μ y.head,hc y hy μ ae,?_⟩;unfold eA;refine Prod.ext ?_ ?_
 ·show Lf N (Ws μ y.head)=(((N.idxOf y.head.pred:Nat):Int)).toNat;unfold Lf;have:(Ws μ y.head).nt=false:=ab.hnt;rw[this,Ajn];rfl
 ·show C4 ((y.head.terms.map (pG μ)).map Hr)=C4 ((y.head.terms.map Ak).map (En ν));rw[Ahg,Ahg];congr 1;refine Aid fun t ht=>?_
  exact (ad t (ab.vt t ht).1 (ab.vt t ht).2 (fun hv=>by
   obtain⟨b,aa,aj⟩:=ab.safe t ht hv
   exact ac b aa t aj hv)).2
theorem Af5 (h:nZ N ar Rd x){k:Nat}{t:Bb}(hl:LstF (Rd.map (Gc N)) (Ja N x) k t):∃a,LA Rd (x.body.map Px) a/\eA N a=(k,t):=
 hl _ (Af6 h (fun a ha=>(yI h ha).1) (LA.cl Rd _).2) fun a ha=>by
  unfold Ja at ha;rw[Gr,Ahg]at ha;obtain⟨b,hb,rfl⟩:=Aib.1 ha;exact⟨Px b,(LA.cl Rd _).1 _ (Aib.2 ⟨b,hb,rfl⟩),cQ fun t ht=>(h.x.vb b hb t ht).1⟩
theorem Acr (h:nZ N ar Rd x):eA N (Px x.head)=((Gc N x).head.p.toNat,Cr (Ha (Gc N x).head)):=by
 rw[cQ (N:=N) (b:=x.head) fun t ht=>(h.x.vt t ht).1];have e:(F4 (N.length:Int) (Dp N x.head)).a=B9 N x.head:=by
  unfold F4;rw[if_neg (by show¬x.head.nt=true;rw[h.x.hnt];simp)];rfl
 rw[e];rfl
theorem Acd (h:nZ N ar Rd x):LstF (Rd.map (Gc N)) (Ja N x) (Gc N x).head.p.toNat (Cr (Ha (Gc N x).head))↔LA Rd (x.body.map Px) (Px x.head):=by
 have he:=Acr h;constructor
 ·intro hl;obtain⟨a,ha,e⟩:=Af5 h hl;rw[<-he]at e;rw[<-Ae1 (yI h ha).1 (mV h.x.head h.x.vt) e];exact ha
 ·intro ha;have:=(yI h ha).2;rw[he]at this;exact this
end
def jK (L:List Tx)(w:Tx):Tx:=(L.find? fun v=>Gt L v==w).getD w
section
variable {x:RItem} (hx:XR x)
include hx
theorem XR.back {a:RAtom}(ha:a∈Ae x){t:Tx}(ht:t∈a.terms)(hv:Ad t=true):jK (A4 x) (Gt (A4 x) t)=t:=by
 have hm:=hx.mem ha ht hv;have aa:∀u∈A4 x,Ad u=true:=fun u hu=>by
  have:=Mv ((Ae x).flatMap (·.terms)) [] (by simp) Ai0;exact (this.1 u hu).1
 unfold jK;cases hf:(A4 x).find? fun v=>Gt (A4 x) v==Gt (A4 x) t with
 |none=>
  have:=Ah1.1 hf t hm;simp at this
 |some u=>
  have h1:=Aip hf;have h2:=List.find?_some hf;simp only[Aj4]at h2;show u=t;unfold Gt at h2;rw[if_pos (aa u h1),if_pos hv]at h2;have w1:=hx.which h1;have w2:=hx.which hm;have ab:=hx.few;rw[w1.1,w2.1]at h2;have h3:=List.cons.inj h2;have e1:=E8 (k:=((A4 x).idxOf u:Nat)) Aj6 Aj6;have e2:=E8 (k:=((A4 x).idxOf t:Nat)) Aj6 Aj6;rw[h3.1]at e1;exact C1 h1 hm Aj6
end
end Go.Proofs.YtmoeoppbmhfbpabGreatDoorL
