import Derived.Test.YtmoeoppbmhfbpabGreatDoorIFolA
import Derived.Test.YtmoeoppbmhfbpabGreatDoorIDocI
import Derived.Test.YtmoeoppbmhfbpabGreatDoorISpaE
import Derived.Test.YtmoeoppbmhfbpabGreatDoorIOptC
import Derived.Test.YtmoeoppbmhfbpabGreatDoorIProgH
import Derived.Test.YtmoeoppbmhfbpabGreatDoorIProgM
import Derived.Test.YtmoeoppbmhfbpabGreatDoorIAbsG
import Derived.Test.YtmoeoppbmhfbpabGreatDoorIShelf
set_option maxHeartbeats 64000000
set_option maxRecDepth 100000
set_option linter.all false
open List renaming length->Z
namespace Go.Proofs.YtmoeoppbmhfbpabGreatDoorI
open Go.Abs
theorem AE.km2 {σ0 σ σ' om ot M M'}(hK:AE σ0 σ)(h:KM om ot M M' σ σ')(hm:σ0.B<=om)(ht:σ0.B<=ot)(hM:∀x∈M,x.1=1\/σ0.D+2<=x.1):AE σ0 σ':=
 ⟨BO hK.B h.B,fun o ho=>(h.C o (By ho hK.B) AA AA).trans (hK.C o ho),fun o ho=>(h.ver o (By ho hK.B) AA AA).trans (hK.ver o ho),BO hK.D h.D,fun k hk=>(h.top k (By hk hK.D) (fun x hx e=>by rcases hM x hx with h'|h'<;>omega)).trans (hK.top k hk)⟩
theorem qD:∀M:MM,0<=tot M
 |[]=>Int.le_refl _
 |y::M=>by rw[Fj];have:=qD M;omega
theorem vB:∀(M:MM) (k:Nat) (x:Nat×List Cc),M[k]?=some x->(Z x.2:Int)<=tot M
 |[],k,x,h=>by simp at h
 |y::M,k,x,h=>by
  rw[Fj];have hp:=qD M;cases k with
  |zero=>simp at h;subst h;omega
  |succ k=>have:=vB M k x (by simpa using h);omega
def Hi (N:List Tx)(x:AB):Eu:=NP (Z N:Int) (Cd N x)
def Kj (N:List Tx)(x:AB):List Dv:=(Hi N x).A.map fun l=>Ih l.a
structure PV (N:List Tx)(l:List AB)(ar:Nat->Nat):Prop where
 b5:∀y∈l,Z y.A<=5
 rw':∀y∈l,y.o=false->RW (2*Z N) ar (Hi N y)
 sm:∀y∈l,y.o=false->NY (Hi N y).h.ts/\∀k∈(Hi N y).A,NY k.a.ts
 sh:∀y∈l,y.o=false->∀a∈Kj N y,Sh ar a.p.toNat (Cw a)
theorem lf (N:List Tx)(p):N.idxOf p<=Z N:=List.idxOf_le_length
theorem Zy (N l cs)(idn idi n:Nat)(ar x)(hB:Bk N l cs)(hI:PV N l ar)(hx:l[n]?=some x)(au:x.o=false)(σ):
  AF Tryz.prog 102 [Cl N idn l idi cs,ic n] σ fun r σ'=>∃b,r=sc (.bool b)/\OH ((oth l n (Z l)).map (Hi N)) (Kj N x) (Hi N x).h.p.toNat (Cw (Ih (Hi N x).h)) b/\AE σ σ':=by
 have d7:=EL.length E7 hB.el;have de:=hB.len;have eb:=hB.nm;have hE:=hB.el;have d2:=(BG.1 hx).1;have an:=BD hx;obtain⟨hm,ih,id,b,rr,hb,hd⟩:=Io hE hx;have b2:∀y c,y∈l->PI N y c->∀σ,AF Tryz.prog 155 [ag c,ic (Z N)] σ fun r σ'=>(∃c',r=ag c'/\pL (Hi N y) c')/\AE σ σ':=fun y c hy hc σ=>
  Yr (Cd N y) c (Z N) (lx hc) (by simp only[Cd,BP];have:=hI.b5 y hy;omega) (fun k hk=>by
   obtain⟨a,-,rfl⟩:=AO.1 hk;have:=lf N a.B;simp only[E9,C9]
   omega) AA AA σ
 have bm:=fun σ=>b2 x _ an (PI.of (ih:=ih) (id:=id) hm hb) σ;simp only[au]at bm;have aj:=hI.rw' x an au;have cc:Z (Hi N x).A=Z x.A:=by simp[Hi,NP,Cd]
 have d8:=hI.b5 x an;have b1:=fun c (hc:pL (Hi N x) c) σ=>Tb (Hi N x) c hc AA (fun k hk=>⟨aj.rok.ba k hk,(hI.sm x an au).2 k hk⟩) σ;have bd:Z (Kj N x)=Z (Hi N x).A:=by simp[Kj]
 have be:∀a∈Kj N x,Z a.ts<=3/\∃k:Nat,a.p=(k:Int)/\k<2*Z N:=fun a ha=>by
  obtain⟨k,hk,rfl⟩:=AO.1 ha;exact⟨by simp only[Ih,BP];exact aj.rok.ba k hk,aj.rok.bp k hk⟩
 have ax:=fun cs' idf (hF:EL O1 (Kj N x) cs') σ=>Ym (2*Z N) (Kj N x) cs' idf 200 hF AA AA be σ;rw[bd]at ax;have dd:(2:Int)*(Z N:Int)=((2*Z N:Nat):Int):=AA;have d3:(n:Int)<(Z l:Int):=AA;generalize cd:Hi N x=RX at bm b1 ax cc bd be aj;generalize co:Kj N x=FX at ax bd be;have cv:AD _:=cd;have cz:AD _:=co;have di:Z RX.A<=5:=AA;have eg:Z FX<=5:=AA;clear cd co cc bd;unfold Cl;refine Z9 66 [.tmp 4] Tryz.func102 ?_
 repeat' first|refine Z1 ?_|refine Z8 fun yd yb=>?_|refine Z4 ?_;clear yb yd|(refine Z5 ?_;first|(refine Xi (bm _) ?_;rintro _ _ ⟨⟨_,rfl,a9⟩,bi⟩;(have a8:=a9;obtain⟨ro,rih,rib,rbc,rfl,d9⟩:=a9;have a6:=b1 _ a8;have bu:=bi.B;simp only[Aa]at bu))|(refine Xi (a6 _) ?_;rintro _ _ ⟨⟨idf,fc,rfl,cq⟩,ae⟩;(have a7:EL O1 FX fc:=(by rw[<-cz.o];unfold Kj;rw[cv.o];exact cq);have aw:=ax fc idf a7;have br:=ae.B;simp only[Ab,Aa]at br))|(refine Xi (aw _) ?_;rintro _ _ ⟨ot,M,rfl,bh,a4,d1,bv,ay⟩;(have c9:=a4.B)))|refine Z3 ?_|exact Zt|apply yb.o;clear yb yd
 rename_i σ1 σ2 σ3;obtain⟨σ4,hσ4⟩:∃τ,τ=((σ3.new [nilS,ic 0,ic 0]).put σ3.B [fx ot 0 (2*Z N),ic 0,ic 200]):=⟨_,rfl⟩;rw[<-hσ4];have cj:AE σ σ1:=((AE.refl σ).new _).trans bi;have b0:AE σ σ2:=((cj.new _).put AA _).trans ae;have ci:AE σ σ3:=b0.trans a4;have aa:AE σ3 σ4:=by rw[hσ4];exact ((AE.refl σ3).new _).put (AR _) _
 have cm:AE σ σ4:=ci.trans aa;have n4:σ4.B=σ3.B+1:=by rw[hσ4];rfl
 have az:=bh.len;have b4:σ4.C σ1.B=[sc (.bool ro),ic RX.h.p,sl rih (Z RX.h.ts) (Ad RX.h.ts),sl rib (Z RX.A) rbc]:=by rw[aa.C _ AA,a4.C _ AA,ae.C _ BM,Ak]
 have obk:σ4.C σ.B=[sl idn (Z N) (N.map str),sl idi (Z l) cs]:=by rw[aa.C _ AA,a4.C _ AA,ae.C _ BM,Aj AA,Ah AA,bi.C _ AK,Ao]
 have db:=bv.lt;have a0:BL σ4 σ3.B ot M 0 200:=(bv.keep aa).mob (by rw[hσ4,Ak,az]) AA AA;have dl:∀y∈M,y.1=1\/σ.D+2<=y.1:=fun y hy=>by have:=b0.D;rcases ay y hy with h|h<;>omega
 have d0:=qD M;have dz:tot M<=5:=by have:=bh.tot;omega
 have cr:=Ry σ3.B ot M 0 200 σ4 a0;have bf:=fun (id:Nat) σ=>Np (It M) id (by rw[Jy];omega) (fun n hn=>by have:=Rz a0 n hn;omega) σ;rw[show (It M).sum=tot M from rfl]at bf;rw[Jy,az]at bf;have av:=a0.ob;have cx:AD _:=bh;have cy:AD _:=a0;clear hσ4 bi ae a4 cj b0 ci bv ay bh a0 cq a7 aw ax b1 a6 bm a8;refine Az (Q:=fun e s' σ''=>e= .normal/\s' 1=ic n/\s' 2=ptr σ.B 0/\s' 5=ic (Z N)/\s' 6=ptr σ1.B 0/\s' 7=ptr σ3.B 0/\AE σ σ''/\σ3.B<σ''.B/\σ''.C σ.B=[sl idn (Z N) (N.map str),sl idi (Z l) cs]/\σ''.C σ1.B=[sc (.bool ro),ic RX.h.p,sl rih (Z RX.h.ts) (Ad RX.h.ts),sl rib (Z RX.A) rbc]/\BL σ'' σ3.B ot M 0 (200-tot M)) ?_ ?_
 ·refine Aq Ag (fun _=>True) [6] [0,1] 5 #[true,true,false,false,false,false,false] AH (fun _ _ _ h=>by cases h.1) ?_;intro yd yb;refine Z3 ?_;refine yb.o _ ?_;clear yb yd;refine Ai (i:=2) AH ?_;refine Am ?_;intro yd yb;refine Z3 ?_;refine AF.mono cr ?_;rintro _ σ5 ⟨⟨ic0,rfl⟩,a3⟩;refine Z3 ?_;refine yb.o _ _ ⟨Al a3,?_⟩;clear yb yd;refine Ai (i:=3) AH ?_;refine Am ?_;intro yd yb;refine Z3 ?_;refine AF.mono (bf _ _) ?_;rintro _ σ6 ⟨rfl,dq⟩;have ad:=a3.trans dq;have bq:=ad.B;have dx:σ6.C σ3.B=[fx ot 0 (Z M),ic 0,ic 200]:=by rw[ad.C _ AA,av]
  refine Z3 ?_;refine yb.o _ _ ⟨Al ad,?_⟩;clear yb yd;refine Ai (i:=4) AH ?_;refine Am ?_;intro yd yb;refine Z3 ?_;refine yb.o _ _ ⟨Al ad,?_⟩;clear yb yd;refine Ai (i:=5) AH ?_;refine Am ?_;intro yd yb;refine Z3 ?_;refine yb.o _ _ ⟨Al ad,?_⟩;clear yb yd;refine Ai (i:=6) AH ?_;refine Am ?_;intro yd yb;refine Z3 ?_;refine yb.o _ _ ⟨A5 rfl,?_⟩;clear yb yd;refine Ax AH ⟨rfl,by simp[upd,AM],AG,AG,AG,AG,(cm.trans ad).put AA _,by simp only[Ab];omega,?_,?_,?_⟩
  ·rw[Aj AA,ad.C _ AA,obk]
  ·rw[Aj AA,ad.C _ AA,b4]
  ·have hm:=(cy.o.keep ad).mpt;exact KX.mob ⟨by rw[Aj AA];exact hm.oc,hm.lt,hm.live,hm.inj,hm.t3,hm.ln,hm.pl⟩ (by rw[Ak,az]) (by simp only[Ab];omega) AA
 ·rintro e s σ5 ⟨rfl,g1,g2,g5,g6,g7,a3,d4,obk5,bo,cf⟩;clear cr bf av cy cm aa b4 obk n4;have c8:=a3.B;have dv:AD _:=cf;clear cf
  refine zz ?_
  refine Ae (fun m s σ'=>∃(q i8:Nat) (L:List AB) (ys:List AV),m=Z l-q/\q<=Z l/\s 1=ic n/\s 5=ic (Z N)/\s 6=ptr σ1.B 0/\s 7=ptr σ3.B 0/\s 8=sl i8 (Z L) ys/\s 34=sl idi (Z l) cs/\s 35=ic (Z l)/\s 36=ic q/\AE σ5 σ'/\Own σ5 σ' i8 (Z L)/\Z ys=Z L*4/\Z L<=q/\AD (L=oth l n q/\EL pL (L.map (Hi N)) ys)) (Z l)
   ⟨0,1,[],[],AA,AA,AI,AI,AI,AI,AG,AG,AG,AG,AE.refl _,Own.nil _ _,rfl,by simp,by simp[oth],rfl⟩ ?_
  clear g1 g2 g5 g6 g7;rintro m s σ6 ⟨q,i8,L,ys,rfl,hq,h1,h5,h6,h7,h8,ej,ei,eh,hK,hO,dy,ed,hL⟩;have c7:=hK.B;by_cases b9:q<Z l
  ·have ab:=AJ b9;obtain⟨b8,jh,jd,jb,r2,ca,df⟩:=Io hE ab;have b6:=AT b9;generalize l[q]=y at ab ca df b8 b6;have ap:AD _:=ZX (n:=n) ab;have bl:=fun σ=>b2 y _ b6 (PI.of (ih:=jh) (id:=jd) b8 ca) σ;clear ab;by_cases ao:q=n
   ·have dc:((q:Int) !=(n:Int))=false:=by simp[ao]
    have HN:AD (L=oth l n (q+1)/\EL pL (L.map (Hi N)) ys):=⟨by rw[ap.o,if_pos (.inl ao),FA];exact hL.o.1,hL.o.2⟩;clear ao ap bl
    refine pz ?_
    refine⟨Z l-(q+1),AA,q+1,i8,L,ys,?_⟩
    ((repeat' refine Zi ?_ ?_)<;>first|exact Xq|exact HN|exact ((hK.new _).put hK.B _)|exact (Own.put (Own.new hO _) _ _)|exact Xs)
   ·have dc:((q:Int) !=(n:Int))=true:=by simp;omega
    cases af:y.o with
    |true=>
     have HN:AD (L=oth l n (q+1)/\EL pL (L.map (Hi N)) ys):=⟨by rw[ap.o,if_pos (.inr af),FA];exact hL.o.1,hL.o.2⟩;clear ao ap bl
     refine pz ?_
     refine⟨Z l-(q+1),AA,q+1,i8,L,ys,?_⟩
     ((repeat' refine Zi ?_ ?_)<;>first|exact Xq|exact HN|exact ((hK.new _).put hK.B _)|exact (Own.put (Own.new hO _) _ _)|exact Xs)
    |false=>
     simp only[af]at bl;have HN:AD (∀c',pL (Hi N y) c'->L++[y]=oth l n (q+1)/\EL pL ((L++[y]).map (Hi N)) (ys++c')):=fun c' dh=>⟨by rw[ap.o,if_neg (by simp[ao,af]),hL.o.1],by rw[FO];exact EL.append hL.o.2 (EL.single dh)⟩;clear ao ap
     refine qb ?_;intro yd yb;refine Xi (bl _) ?_;rintro _ _ ⟨⟨_,rfl,a9⟩,ae⟩;(have du:AD _:=HN.o _ a9;obtain⟨ro2,rih2,rib2,rbc2,rfl,-⟩:=a9;have ee:=((hK.new _).put hK.B _).trans ae;have ea:=Own.keep (Own.put (Own.new hO _) _ _) ae);refine qc ?_;intro idn σn dk ef dt cu ds ct;refine pz ?_
     refine⟨Z l-(q+1),AA,q+1,idn,L++[y],ys++[sc (.bool ro2),ic (Hi N y).h.p,sl rih2 (Z (Hi N y).h.ts) (Ad (Hi N y).h.ts),sl rib2 (Z (Hi N y).A) rbc2],?_⟩
     ((repeat' refine Zi ?_ ?_)<;>first|exact Xq|exact du|exact (by rw[AX];exact dk)|exact Xs)
  ·have da:q=Z l:=AA;subst da;obtain⟨bz,cg⟩:=hL.o;have ai:∀r∈L.map (Hi N),RW (2*Z N) ar r:=fun r hr=>by
    obtain⟨y,hy,rfl⟩:=AO.1 hr;rw[bz]at hy;exact hI.rw' y (Rb hy).1 (Rb hy).2
   have ac:∀r∈L.map (Hi N),∀k∈r.A,k.neg=false:=fun r hr k hk=>by
    obtain⟨y,hy,rfl⟩:=AO.1 hr;obtain⟨k0,-,rfl⟩:=AO.1 hk;unfold Gz;split
    ·rfl
    ·rename_i h;simpa using h
   have a5:LP (2*Z N) ar (L.map (Hi N)) (CQ (L.map (Hi N)) FX):=⟨ai,(gZ ac).2 (CQ.cl _ _),fun k t h=>h (Sh ar) (m8 ai ac) (fun a ha=>hI.sh x an au a (by rw[cz.o];exact ha))⟩;have ce:∀k t,MD M k t->CQ (L.map (Hi N)) FX k t:=fun k t hk=>by
    obtain⟨a,ha,e1,e2⟩:=(cx.o.mem k t).1 hk;have:=CQ.fact (R:=L.map (Hi N)) ha;rw[e1,DU]at this;rw[e2];exact this
   have dj:Room M 0 (200-tot M):=fun y hy=>by
    obtain⟨k,hk⟩:=CO hy;have:=vB M k y hk;omega
   have cp:=fun σ (h:BL σ σ3.B ot M 0 (200-tot M))=>Rw a5 σ3.B ot (200-tot M) AA AA M 0 az ce (fun r hr k hk hn=>by rw[ac r hr k hk]at hn;cases hn) dj AA AA ys i8 cg (by rw[BP];omega) σ h;rw[BP]at cp;have dm:BL σ6 σ3.B ot M 0 (200-tot M):=dv.o.keep hK;have bn:σ6.C σ1.B=[sc (.bool ro),ic RX.h.p,sl rih (Z RX.h.ts) (Ad RX.h.ts),sl rib (Z RX.A) rbc]:=by rw[hK.C _ AA,bo]
   have dn:=a3.trans hK;have dw:AD _:=bz;have cw:AD (∀(M':MM) (d':Int) (bb:Bool),BE (CQ (L.map (Hi N)) FX) M M' 0 d'->(¬(200-tot M)<d'->LR (L.map (Hi N)) (MD M'))->(if d'<=200-tot M then (bb=true↔MD M' RX.h.p.toNat (Cw (Ih RX.h)))else bb=false)->OH ((oth l n (Z l)).map (Hi N)) FX RX.h.p.toNat (Cw (Ih RX.h)) bb):=fun M' d' bb h1 h2 h3=>by
    rw[<-dw.o];exact YG cx.o (fun a ha=>⟨_,(be a ha).2.choose_spec.1⟩) h1 h2 h3
   have dr:=fun σ=>Rv RX.h.p rih RX.h.ts (by have:=aj.rok.hd;omega) (by have:=(hI.sm x an au).1;rw[cv.o]at this;exact this) σ;clear bz cg a5 ce hL b2 ai
   refine qb ?_;intro yd yb;refine Xi (cp _ dm) ?_;rintro _ _ ⟨M',d',bw,ak,cn,d6,-,cb⟩;(have b3:AD _:=cn;have c5:AD _:=fun h=>(gZ ac).1 (cb h);clear cn cb);refine qm ?_;intro yd yb
   rename_i σ7;have bq:=ak.B;have c6:σ7.C σ1.B=[sc (.bool ro),ic RX.h.p,sl rih (Z RX.h.ts) (Ad RX.h.ts),sl rib (Z RX.A) rbc]:=by rw[ak.C _ AA AA AA,bn]
   have ch:AE σ σ7:=AE.km2 dn ak AA AA dl;have bg:=Qi σ3.B ot M' d' (200-tot M);by_cases b7:200-tot M<d'
   ·rw[show decide (200-tot M<d')=true by simpa using b7]at bg;have HR:AD _:=cw.o M' d' false b3.o c5.o (by rw[if_neg AA])
    refine p9 ?_;refine Xi (bg _ bw) ?_;rintro _ _ ⟨rfl,rfl⟩;refine pz ?_
    first|exact⟨_,rfl,false,rfl,HR.o,ch⟩|exact⟨_,rfl,false,rfl,HR.o⟩
   ·rw[show decide (200-tot M<d')=false by simpa using b7]at bg;obtain⟨k,hk,d5⟩:=aj.rok.hp;have ec:Z M'=2*Z N:=by rw[b3.o.len];exact az
    have bc:=AJ (l:=M') (i:=k) AA;generalize M'[k]'AA=x' at bc;have am:=fun id σ (h:BL σ σ3.B ot M' d' (200-tot M))=>Jv σ3.B ot M' d' (200-tot M) (Ih RX.h) id k x' (by simp only[Ih,BP];exact aj.rok.hd) hk bc σ h
    have HR:AD (OH ((oth l n (Z l)).map (Hi N)) FX RX.h.p.toNat (Cw (Ih RX.h)) (decide (Cw (Ih RX.h)∈x'.2))):=cw.o M' d' _ b3.o c5.o (by
     rw[if_pos AA,hk,DU];unfold MD;rw[Ck bc]
     simp)
    generalize decide (Cw (Ih RX.h)∈x'.2)=bb at am HR;simp only[Ih,BP]at am;clear bc hk
    (repeat (refine p9 ?_;(first|(refine Xi (bg _ bw) ?_;rintro _ _ ⟨rfl,rfl⟩)|(refine Xi (dr _) ?_;rintro _ _ ⟨⟨idh,rfl⟩,ck⟩)|(refine Xi (am _ _ (bw.keep ck)) ?_;rintro _ _ ⟨rfl,dp⟩))));refine pz ?_
    first|exact⟨_,rfl,_,rfl,HR.o,(ch.trans ck).trans dp⟩|exact⟨_,rfl,_,rfl,HR.o⟩
theorem Ko {l m}(hl:Z l=Z m)(h3:Z l<=3)(h:C4 l=C4 m):l=m:=by
 refine FS fun i=>?_;by_cases hi:i<Z l
 ·unfold C4 at h;simp only[List.cons.injEq,and_true]at h;obtain⟨e0,e1,e2⟩:=h;have h1:=AJ hi;have h2:=AJ (l:=m) (i:=i) AA;have:i=0\/i=1\/i=2:=AA;rcases this with rfl|rfl|rfl
  ·rw[h1,h2]at e0;rw[h1,h2];exact congrArg some e0
  ·rw[h1,h2]at e1;rw[h1,h2];exact congrArg some e1
  ·rw[h1,h2]at e2;rw[h1,h2];exact congrArg some e2
 ·rw[FK AA,FK AA]
def Ij:Tx->Int
 |[]=>0
 |b::r=>if b=35 then 1000+(Ap r).2 else (Ap (b::r)).2
theorem eB (b r):Ij (b::r)=if b=35 then 1000+(Ap r).2 else (Ap (b::r)).2:=rfl
theorem Hz (v):Ij (35::v)=1000+(Ap v).2:=by rw[eB,if_pos rfl]
def GT (t:Tx):Prop:=(Ac t=false/\VT t/\DT t)\/∃v,t=35::v/\Ac v=true/\VT v
theorem UG {v}(h:VT v)(hv:Ac v=true):∃b,v=[b]/\Bw b.toNat=true:=by
 rcases h with h|⟨h1,h2⟩
 ·exact h
 ·exfalso;cases v with
  |nil=>exact h1 rfl
  |cons b r=>
   have hd:=h2 b (by simp);have hl:Bw b.toNat=true:=hv;unfold A8 at hd;unfold Bw at hl;simp at hd hl;omega
theorem f7 {v}(h:VT v)(hv:Ac v=false):v≠[]/\∀b∈v,A8 b.toNat=true:=by
 rcases h with⟨b,rfl,h⟩|h
 ·have:Ac [b]=Bw b.toNat:=rfl;rw[this,h]at hv;cases hv
 ·exact h
theorem Ii {t}(h:VT t)(hv:Ac t=false):Ij t=(Ap t).2:=by
 obtain⟨h1,h2⟩:=f7 h hv;cases t with
 |nil=>exact absurd rfl h1
 |cons b r=>
  rw[eB,if_neg];rintro rfl;have:=h2 35 (by simp);revert this;decide
theorem Ov {v}(h:VT v)(hv:Ac v=true):0<=(Ap v).2/\(Ap v).2<26:=by
 obtain⟨b,rfl,hl⟩:=UG h hv;rw[E3 hl];unfold Bw at hl;simp at hl;simp only;omega
theorem Qj {t}(h:DT t)(hv:Ac t=false):Lib.itoa (Ap t).2=t/\0<=(Ap t).2/\(Ap t).2<=999:=by
 rcases h with h|⟨-,h⟩
 ·rw[h]at hv;cases hv
 ·exact h
theorem XA {t}(h:GT t):∃n:Nat,Ij t=(n:Int)/\n<1026:=by
 rcases h with⟨h1,h2,h3⟩|⟨v,rfl,h1,h2⟩
 ·rw[Ii h2 h1];obtain⟨-,e1,e2⟩:=Qj h3 h1;exact⟨(Ap t).2.toNat,AA,AA⟩
 ·obtain⟨e1,e2⟩:=Ov h2 h1;refine⟨(1000+(Ap v).2).toNat,?_,AA⟩;rw[Hz];omega
theorem nW {t u}(ht:GT t)(hu:GT u)(h:Ij t=Ij u):t=u:=by
 rcases ht with⟨h1,h2,h3⟩|⟨v,rfl,h1,h2⟩
 ·rcases hu with⟨g1,g2,g3⟩|⟨w,rfl,g1,g2⟩
  ·rw[Ii h2 h1,Ii g2 g1]at h;rw[<-(Qj h3 h1).1,<-(Qj g3 g1).1,h]
  ·exfalso;rw[Ii h2 h1]at h;have:=(Qj h3 h1).2.2;have:=(Ov g2 g1).1;rw[Hz]at h;omega
 ·rcases hu with⟨g1,g2,g3⟩|⟨w,rfl,g1,g2⟩
  ·exfalso;rw[Ii g2 g1]at h;have:=(Qj g3 g1).2.2;have:=(Ov h2 h1).1;rw[Hz]at h;omega
  ·rw[Hz,Hz]at h;rw[wM h2 g2 h1 g1 AA]
theorem YQ {t}(h:VT t):Ij (aB t)=(aA (Ap t)).2:=by
 unfold aB aA;rw[Bs];cases hv:Ac t with
 |true=>rw[if_pos rfl,if_pos rfl,Hz]
 |false=>rw[if_neg (by simp),if_neg (by simp)];exact Ii h hv
theorem nq {t}(h:VT t)(hd:DT t):GT (aB t):=by
 unfold aB;cases hv:Ac t with
 |true=>rw[if_pos rfl];exact .inr ⟨t,rfl,hv,h⟩
 |false=>rw[if_neg (by simp)];exact .inl ⟨hv,h,hd⟩
def Mh (N:List Tx)(a:AC):Nat:=N.idxOf a.B+(if a.nt=true then Z N else 0)
def eA (N:List Tx)(a:AC):Nat×Cc:=(Mh N a,C4 (a.A.map Ij))
structure MK (N:List Tx)(ar:Tx->Nat)(a:AC):Prop where
 mem:a.B∈N
 len:Z a.A=ar a.B
 le3:Z a.A<=3
structure GA (N:List Tx)(ar:Tx->Nat)(a:AC):Prop extends MK N ar a where
 gt:∀t∈a.A,GT t
theorem lV {N a b}(ha:a.B∈N)(hb:b.B∈N)(h:Mh N a=Mh N b):a.nt=b.nt/\a.B=b.B:=by
 have h1:=CY ha;have h2:=CY hb;unfold Mh at h;have hnt:a.nt=b.nt:=by
  cases e1:a.nt<;>cases e2:b.nt<;>simp[e1,e2]at h⊢ <;>omega
 rw[hnt]at h;have hi:N.idxOf a.B=N.idxOf b.B:=AA;refine⟨hnt,?_⟩;have e1:=FT h1;have e2:=FT h2;rw[<-e1,<-e2];congr 1
theorem P8 {α β:Type}{f:α->β}:∀{l m:List α},(∀a∈l,∀b∈m,f a=f b->a=b)->l.map f=m.map f->l=m
 |[],[],_,_=>rfl
 |[],b::m,_,h=>by simp at h
 |a::l,[],_,h=>by simp at h
 |a::l,b::m,hi,h=>by
  simp only[CU,List.cons.injEq]at h;rw[hi a (by simp) b (by simp) h.1,P8 (fun x hx y hy=>hi x (by simp[hx]) y (by simp[hy])) h.2]
theorem lc {N ar a b}(ha:GA N ar a)(hb:GA N ar b)(h:eA N a=eA N b):a=b:=by
 unfold eA at h;simp only[Prod.mk.injEq]at h;obtain⟨h1,h2⟩:=lV ha.mem hb.mem h.1;have hl:Z a.A=Z b.A:=by rw[ha.len,hb.len,h2]
 have h3:=Ko (by simpa using hl) (by simpa using ha.le3) h.2;exact AC.ext' h1 h2 (P8 (fun x hx y hy e=>nW (ha.gt x hx) (hb.gt y hy) e) h3)
structure KY (N:List Tx)(ar:Tx->Nat)(y:AB):Prop where
 h:MK N ar y.h
 hnt:y.h.nt=false
 A:∀b∈y.A,MK N ar b
 vt:∀t∈y.h.A,VT t/\DT t
 vb:∀b∈y.A,∀t∈b.A,VT t/\DT t
 safe:∀v∈y.h.A,Ac v=true->∃b∈y.A,v∈b.A
theorem WR (N y):(Hi N y).h=C9 N y.h:=rfl
theorem Hh (N y):(Hi N y).A=y.A.map fun b=>Gz (Z N) (E9 N b):=by simp[Hi,NP,Cd]
theorem eN (N b):(Gz (Z N:Int) (E9 N b)).a.p=(Mh N b:Nat):=by
 unfold Gz E9 C9 Mh;simp only;cases h:b.nt with
 |true=>simp
 |false=>simp
theorem N5 (N b):(Gz (Z N:Int) (E9 N b)).a.ts=b.A.map Ap:=by
 unfold Gz E9 C9;simp only;split<;>rfl
def TT (v:Int):UInt8:=UInt8.ofNat (65+v.toNat)
def NR (μ:Tx->Tx):Nu:=fun v=>Ij (μ [TT v])
theorem lk {μ v}(h:VT v)(hv:Ac v=true):NR μ (Ap v).2=Ij (μ v):=by
 obtain⟨b,rfl,hl⟩:=UG h hv;unfold NR TT;rw[E3 hl];have hb:65<=b.toNat:=by unfold Bw at hl;simp at hl;omega
 have e:(65+((b.toNat:Int)-65).toNat)=b.toNat:=AA;simp only[e,UInt8.ofNat_toNat]
theorem jv {μ t}(h:VT t):Gd (NR μ) (Ap t)=Ij (Kq μ t):=by
 unfold Gd;rw[Bs];cases hv:Ac t with
 |true=>rw[if_pos rfl,D4 hv,lk h hv]
 |false=>rw[if_neg (by simp),Db hv,Ii h hv]
theorem UV {μ}{ts:List Tx}{p}(h:∀t∈ts,VT t):Bz ⟨p,ts.map Ap⟩ (NR μ)=C4 ((ts.map (Kq μ)).map Ij):=by
 unfold Bz;simp only[BS];congr 1;exact CK fun t ht=>jv (h t ht)
theorem gL {a ν}:Bz a ν=Bz ⟨0,a.ts⟩ ν:=rfl
structure tN (N:List Tx)(ar:Tx->Nat)(Rd:List AB)(x:AB):Prop where
 ru:∀y∈Rd,KY N ar y
 x:KY N ar x
theorem sG {N ar b}(h:MK N ar b)(ht:∀t∈b.A,VT t/\DT t):GA N ar (Rp b):=
 ⟨⟨h.mem,by show Z (b.A.map aB)=_;rw[BP];exact h.len,by show Z (b.A.map aB)<=3;rw[BP];exact h.le3⟩,fun t hm=>by
  obtain⟨u,hu,rfl⟩:=AO.1 hm
  exact nq (ht u hu).1 (ht u hu).2⟩
theorem gS {N b}(ht:∀t∈b.A,VT t):eA N (Rp b)=((Gz (Z N:Int) (E9 N b)).a.p.toNat,Cw (Ih (Gz (Z N:Int) (E9 N b)).a)):=by
 unfold eA;rw[eN,DU];refine GW rfl ?_;show C4 ((b.A.map aB).map Ij)=C4 (((Gz (Z N:Int) (E9 N b)).a.ts.map aA).map (·.2));rw[N5,BS,BS,BS];congr 1;exact CK fun t hm=>YQ (ht t hm)
theorem WV {N ar Rd x}(h:tN N ar Rd x):NH true Rd (x.A.map Rp) (fun a=>GA N ar a/\CQ (Rd.map (Hi N)) (Kj N x) (eA N a).1 (eA N a).2):=by
 refine⟨fun a ha=>?_,fun A' ac hg y hy hd hs=>?_⟩
 ·obtain⟨b,hb,rfl⟩:=AO.1 ha;refine⟨sG (h.x.A b hb) (h.x.vb b hb),?_⟩;rw[gS fun t ht=>(h.x.vb b hb t ht).1];have hf:Ih (Gz (Z N:Int) (E9 N b)).a∈Kj N x:=by
   unfold Kj;rw[Hh,BS];exact AO.2 ⟨b,hb,rfl⟩
  exact CQ.fact hf
 ·obtain⟨μ,h1,-,rfl⟩:=hs;have hr:=h.ru y hy;have hb:∀b∈y.A,GA N ar (Gy μ b)/\CQ (Rd.map (Hi N)) (Kj N x) (eA N (Gy μ b)).1 (eA N (Gy μ b)).2:=fun b hb=>ac _ (h1 b hb rfl);refine⟨⟨⟨hr.h.mem,by show Z (y.h.A.map _)=_;rw[BP];exact hr.h.len,by show Z (y.h.A.map _)<=3;rw[BP];exact hr.h.le3⟩,fun t ht=>?_⟩,?_⟩
  ·obtain⟨u,hu,rfl⟩:=AO.1 ht;cases hv:Ac u with
   |false=>rw[Db hv];exact .inl ⟨hv,(hr.vt u hu).1,(hr.vt u hu).2⟩
   |true=>
    obtain⟨b,aa,ab⟩:=hr.safe u hu hv;exact (hb b aa).1.gt _ (AO.2 ⟨u,ab,rfl⟩)
  ·have hc:=CQ.cl (Rd.map (Hi N)) (Kj N x) (Hi N y) (AO.2 ⟨y,hy,rfl⟩) (NR μ) (fun l hl=>by
    rw[Hh]at hl;obtain⟨b,aa,rfl⟩:=AO.1 hl;have h2:=(hb b aa).2;rw[eN,DU,gL,N5,UV fun t ht=>(hr.vb b aa t ht).1]
    exact h2)
   rw[WR,gL]at hc;have e1:(C9 N y.h).ts=y.h.A.map Ap:=rfl;rw[e1,UV fun t ht=>(hr.vt t ht).1]at hc;have e2:(C9 N y.h).p.toNat=(eA N (Gy μ y.h)).1:=by
    show (((N.idxOf y.h.B:Nat):Int)).toNat=Mh N (Gy μ y.h);unfold Mh;have:(Gy μ y.h).nt=false:=hr.hnt;rw[this,DU];rfl
   rw[e2]at hc;exact hc
theorem qP {t}(h:(Au t).1=0):∀x∈Cb t,∀y∈Cb t,∀a∈Af x,∀b∈Af y,a.B=b.B->Z a.A=Z b.A:=by
 have aa:∀i,i<Z (Cb t)->Gm (Cb t) i=false:=by
  unfold Au at h;split at h
  ·simp at h
  split at h
  ·simp at h
  unfold Cn at h;split at h
  ·simp at h
  ·rename_i hk;exact Lv hk
 have key:∀(i j:Nat) (x y:AB) (a b:AC),(Cb t)[i]?=some x->(Cb t)[j]?=some y->i<j->a∈Af x->b∈Af y->a.B=b.B->Z a.A=Z b.A:=by
  intro i j x y a b hi hj ac ha hb he;have h1:=aa j (BG.1 hj).1;unfold Gm at h1;rw[hj]at h1;simp only[EB,KV]at h1;obtain⟨k,hk⟩:=CO hb;have h2:=h1 k (BG.1 hk).1;unfold Ma at h2;rw[hk]at h2;simp only[CW,not_exists,not_and]at h2
  have h3:=h2 a (by
   unfold Ca C6;refine AW.2 (.inl (DR.2 ⟨x,?_,ha⟩))
   exact BD (i:=i) (by rw[II,if_pos ac];exact hi))
  unfold clash at h3;simp[he]at h3;exact h3
 intro x hx y hy a ha b hb he;obtain⟨i,hi⟩:=CO hx;obtain⟨j,hj⟩:=CO hy;rcases Nat.lt_trichotomy i j with ab|rfl|ad
 ·exact key i j x y a b hi hj ab ha hb he
 ·rw[hi]at hj;cases hj;exact cS h x hx a ha b hb he
 ·exact (key j i y x b a hj hi ad hb ha he.symm).symm
def aH (l:List AB)(ar:Tx->Nat):Prop:=∀x∈l,∀a∈Af x,Z a.A=ar a.B
theorem jg {t}(h:(Au t).1=0):∃ar,aH (Cb t) ar:=by
 refine⟨fun p=>Classical.epsilon fun n=>∃x∈Cb t,∃a∈Af x,a.B=p/\Z a.A=n,fun x hx a ha=>?_⟩;have:=Classical.epsilon_spec (p:=fun n=>∃x∈Cb t,∃b∈Af x,b.B=a.B/\Z b.A=n) ⟨_,x,hx,a,ha,rfl,rfl⟩;obtain⟨y,hy,b,hb,e1,e2⟩:=this;rw[qP h x hx y hy a ha b hb e1.symm];exact e2
theorem YX {t N l cs ar}(h:CZ t N l cs)(hA:aH l ar){x}(hx:x∈l)(ho:x.o=false):KY N ar x:=by
 have hi:=h.items;have ac:x∈Cb t:=by rw[hi];exact hx
 have hf:=Hs h.ok x ac;have ab:=h.wi x hx;have hw:=hf.w.2.2 ho;have aa:∀a,a=x.h\/a∈x.A->a∈Af x:=fun a ha=>by
  rcases ha with rfl|ha<;>simp[Af,ho, *]
 have hlen:∀a∈Af x,Z a.A=ar a.B:=hA x hx;refine⟨⟨ab.mem,hlen _ (aa _ (.inl rfl)),hw.1.2.2.1⟩,hw.2.1,fun b hb=>⟨(ab.wa b hb).1,hlen _ (aa _ (.inr hb)),(hw.2.2.2 b hb).2.2.1⟩,fun w hm=>⟨hf.va _ (aa _ (.inl rfl)) w hm,hf.dt _ (aa _ (.inl rfl)) w hm⟩,fun b hb w hm=>⟨hf.va _ (aa _ (.inr hb)) w hm,hf.dt _ (aa _ (.inr hb)) w hm⟩,fun v hm hv=>?_⟩;obtain⟨c0,p,hH,-⟩:=hf.rule ho;obtain⟨a,ha,-,ad⟩:=hH.saf v hv (.inl hm);exact⟨a,ha,ad⟩
def OP (N:List Tx)(ar:Tx->Nat)(k:Nat):Nat:=ar (N.getD (if k<Z N then k else k-Z N) [])
theorem tI {N ar a}(h:a.B∈N):OP N ar (Mh N a)=ar a.B:=by
 have hl:=CY h;have e:N.getD (N.idxOf a.B) []=a.B:=by
  rw[List.getD_eq_getElem?_getD,AJ hl,Option.getD_some];exact FT hl
 unfold OP Mh;cases hn:a.nt with
 |true=>
  simp only[if_true];rw[if_neg AA,Nat.add_sub_cancel,e]
 |false=>
  simp only[ER,if_false,IE];rw[if_pos hl,e]
theorem gr {w}(hv:VT w)(hd:DT w)(h:(Ap w).1=false):∃n:Nat,(Ap w).2=(n:Int)/\n<1026:=by
 rw[Bs]at h;obtain⟨-,e1,e2⟩:=Qj hd h;exact⟨(Ap w).2.toNat,AA,AA⟩
theorem zN {w}(hv:VT w)(hd:DT w):0<=(Ap w).2/\(Ap w).2<=999:=by
 cases h:Ac w with
 |true=>have:=Ov hv h;omega
 |false=>obtain⟨-,e1,e2⟩:=Qj hd h;omega
theorem RQ {N a}(h:a.B∈N):Mh N a<2*Z N:=by
 have:=CY h;unfold Mh;split<;>omega
theorem gM {ts:List Tx}{v}(h:(true,v)∈ts.map Ap):∃w∈ts,Ac w=true/\(Ap w).2=v:=by
 obtain⟨w,hw,e⟩:=AO.1 h;refine⟨w,hw,?_,by rw[e]⟩;rw[<-Bs,e]
theorem iD (n l):(Gz n l).neg=false:=by
 unfold Gz;split
 ·rfl
 ·rename_i h;simpa using h
theorem mc {N ar y}(h:KY N ar y)(h5:Z y.A<=5):RW (2*Z N) (OP N ar) (Hi N y):=by
 have hb:∀l∈(Hi N y).A,∃b∈y.A,l=Gz (Z N:Int) (E9 N b):=fun l hl=>by
  rw[Hh]at hl;obtain⟨b,hb,rfl⟩:=AO.1 hl;exact⟨b,hb,rfl⟩
 have af:Mh N y.h=N.idxOf y.h.B:=by unfold Mh;rw[h.hnt];simp
 have ad:(Hi N y).h.p=((Mh N y.h:Nat):Int):=by rw[af];rfl
 have ac:(Hi N y).h.ts=y.h.A.map Ap:=rfl;refine⟨⟨by rw[ac,BP];exact h.h.le3,⟨_,ad,RQ h.h.mem⟩,by rw[Hh,BP];omega,fun l hl=>?_,fun l hl=>?_⟩,fun l hl hn=>?_,?_,fun l hl=>?_,fun t ht hc=>?_,fun v hv=>?_,fun l hl v hv=>?_,fun v hv=>?_⟩
 ·obtain⟨b,aa,rfl⟩:=hb l hl;rw[N5,BP];exact (h.A b aa).le3
 ·obtain⟨b,aa,rfl⟩:=hb l hl;exact⟨_,eN N b,RQ (h.A b aa).mem⟩
 ·obtain⟨b,aa,rfl⟩:=hb l hl;rw[iD]at hn;cases hn
 ·rw[ac,BP,ad,DU,tI h.h.mem];exact h.h.len
 ·obtain⟨b,aa,rfl⟩:=hb l hl;rw[N5,BP,eN,DU,tI (h.A b aa).mem];exact (h.A b aa).len
 ·rw[ac]at ht;obtain⟨w,hw,rfl⟩:=AO.1 ht;exact gr (h.vt w hw).1 (h.vt w hw).2 hc
 ·rw[ac]at hv;obtain⟨w,hw,ab,rfl⟩:=gM hv;exact Ov (h.vt w hw).1 ab
 ·obtain⟨b,aa,rfl⟩:=hb l hl;rw[N5]at hv;obtain⟨w,hw,ab,rfl⟩:=gM hv;exact Ov (h.vb b aa w hw).1 ab
 ·have hv:Bj (Hi N y).h.ts v=true:=by
   rcases hv with hv|⟨l,hl,hn,-⟩
   ·exact hv
   ·obtain⟨b,aa,rfl⟩:=hb l hl;rw[iD]at hn;cases hn
  rw[AL,ac]at hv;obtain⟨w,hw,ab,rfl⟩:=gM hv;obtain⟨b,aa,ae⟩:=h.safe w hw ab;refine⟨Gz (Z N:Int) (E9 N b),by rw[Hh];exact AO.2 ⟨b,aa,rfl⟩,iD _ _,?_⟩;rw[AL,N5];refine AO.2 ⟨w,ae,?_⟩;rw[<-ab,<-Bs]
theorem RU {ts:List Tx}(h:∀t∈ts,VT t/\DT t):NY (ts.map Ap):=fun t ht=>by
 obtain⟨w,hw,rfl⟩:=AO.1 ht;have:=zN (h w hw).1 (h w hw).2;omega
def PH (N:List Tx)(l:List AB)(i:Nat)(x:AB)(b:Bool):Prop:=OH ((oth l i (Z l)).map (Hi N)) (Kj N x) (Hi N x).h.p.toNat (Cw (Ih (Hi N x).h)) b
def yO (N:List Tx)(l:List AB)(n:Nat):Prop:=∀i y,i<n->l[i]?=some y->y.o=false->E4 N l (C7 i [] l)=true->PH N l i y false
def PO (N:List Tx)(l:List AB)(idn:Nat)(x:AV)(b:Bool):Prop:=
 (b=false/\yO N l (Z l))\/(b=true/\∃i y,l[i]?=some y/\y.o=false/\E4 N l (C7 i [] l)=true/\PH N l i y true/\yO N l i/\∃id c',x=Cl N idn (C7 i [] l) id c'/\EL (PI N) (C7 i [] l) c')
theorem GL.less {N l}(h:GL N l){i}:GL N (C7 i [] l):=by
 have hm:∀y∈C7 i [] l,y∈l:=fun y hy=>by
  rcases Ee hy with h|h
  ·exact h
  ·cases h
 exact⟨BO (Q5 l) h.len,h.nm,fun y hy=>h.msr y (hm y hy),fun y hy=>h.fits y (hm y hy),fun y hy=>h.pos y (hm y hy),fun y hy=>h.va y (hm y hy),fun y hy=>h.ar y (hm y hy)⟩
theorem O3 (N l cs idn idi ar)(hG:GL N l)(hI:PV N l ar)(hE:EL (PI N) l cs)(σ):
  AF Tryz.prog 126 [Cl N idn l idi cs] σ fun r σ'=>(∃x b,r=tp [x,sc (.bool b)]/\PO N l idn x b/\oY x)/\AE σ σ':=by
 have bg:=EL.length E7 hE;have ax:=hG.len;have ba:Bk N l cs:=(hG.bkm hE).bk ax;have ak:=fun i σ=>W1 N l [] cs [] idn idi 1 i hE rfl AA (by simp) σ;have ai:=fun i c' id' (a8:EL (PI N) (C7 i [] l) c') σ=>Ik N l (C7 i [] l) cs c' idn idi id' (hG.bkm hE) (hG.less.bkm a8).bj σ;simp only[CP]at ak;refine Z9 37 [.cell 2 62,.tmp 3] Tryz.func126 ?_
 refine zz ?_
 refine Ae (fun m s σ'=>∃(i:Nat),m=Z l-i/\i<=Z l/\s 1=ptr σ.B 0/\s 2=ptr (σ.B+1) 0/\s 10=sl idi (Z l) cs/\s 11=ic (Z l)/\s 12=ic i/\AE σ σ'/\σ.B+1<σ'.B/\σ'.C σ.B=[sl idn (Z N) (N.map str),sl idi (Z l) cs]/\σ'.C (σ.B+1)=[nilS,nilS]/\AD (yO N l i)) (Z l)
  ⟨0,AA,AA,AG,AG,AG,AG,rfl,Xs,AK,by rw[Ah AK,Ao],by first|exact Ao|simp[Ao],fun i y h=>AA⟩ ?_
 rintro m s σ' ⟨i,rfl,hi,h1,h2,bm,bl,bh,hK,bf,bd,bc,hA⟩;have be:=hK.B;by_cases a7:i<Z l
 ·have aa:=AJ a7;obtain⟨a6,ih,idb,b,r,a9,hd⟩:=Io hE aa;generalize l[i]=x at hd aa a6 a9;have af:(x.o=false->E4 N l (C7 i [] l)=true->PH N l i x false)->AD (yO N l (i+1)):=fun h j y hj hy ho hb=>by
   rcases FQ j i with h'|h'
   ·exact hA.o j y h' hy ho hb
   ·have:j=i:=AA;subst this;rw[aa]at hy;cases hy;exact h ho hb
  cases aj:x.o with
  |true=>
   rw[aj]at hd;have HA:=af (fun h=>by rw[aj]at h;cases h);clear af hA aa
   refine pz ?_
   refine⟨Z l-(i+1),AA,i+1,?_⟩
   exact qh HA
  |false=>
   have a4:=fun σ=>Zy N l cs idn idi i ar x ba hI aa aj σ;have ak:=ak i;have ai:=ai i;have HG:AD (l[i]?=some x):=aa;have ay:AD _:=af;have bb:AD (x.o=false):=aj;rw[aj]at hd;cases ah:E4 N l (C7 i [] l)with
   |false=>
    rw[ah]at ai;have HA:=af (fun _ h=>by rw[ah]at h;cases h);clear af hA aa ah ay a4
    (repeat (refine qb ?_;intro yd yb;(first|(refine Xi (ak _) ?_;rintro _ _ ⟨⟨id6,c6,rfl,ao⟩,an⟩;(have ad:=an.B;have ac:=an.C;(try simp only[Ab,Aa,Av]at ad ac)))|(refine Xi (ai c6 id6 ao _) ?_;rintro _ _ ⟨⟨x7,rfl,a0,⟨id71,n71,c71,id72,n72,c72,rfl⟩⟩,am⟩;(have aw:=am.B;have au:=am.C)))));refine pz ?_
    refine⟨Z l-(i+1),AA,i+1,?_⟩
    exact qh HA
   |true=>
    rw[ah]at ai;have a5:AD (E4 N l (C7 i [] l)=true):=ah;clear af aa ah
    (repeat (refine qb ?_;intro yd yb;(first|(refine Xi (ak _) ?_;rintro _ _ ⟨⟨id6,c6,rfl,ao⟩,an⟩;(have ad:=an.B;have ac:=an.C;(try simp only[Ab,Aa,Av]at ad ac)))|(refine Xi (ai c6 id6 ao _) ?_;rintro _ _ ⟨⟨x7,rfl,a0,⟨id71,n71,c71,id72,n72,c72,rfl⟩⟩,am⟩;(have aw:=am.B;have au:=am.C))|(refine Xi (a4 _) ?_;rintro _ _ ⟨bi,rfl,ab,a3⟩;(have av:=a3.B;have ap:=a3.C;have az:AD (PH N l i x bi):=ab;clear ab;(try simp only[Ab,Aa]at av ap))))));refine qe ?_ ?_<;>intro h ae
    ·have ab:=az.o;rw[h]at ab;exact⟨_,rfl,⟨_,true,rfl,.inr ⟨rfl,i,x,HG.o,bb.o,a5.o,ab,hA.o,id6,c6,a0 rfl,ao⟩,_,_,_,_,_,_,rfl⟩,Xs⟩
    ·have ab:=az.o;rw[h]at ab;have HA:=ay.o fun _ _=>ab;clear ab az ay HG a5 hA;refine⟨Z l-(i+1),AA,i+1,?_⟩
     exact qh HA
 ·have hil:i=Z l:=AA;subst hil
  refine pz ?_
  exact⟨_,rfl,⟨_,false,rfl,.inl ⟨rfl,hA.o⟩,_,_,_,_,_,_,rfl⟩,Xs⟩
structure BH (N:List Tx)(ar:Tx->Nat)(l:List AB):Prop where
 gl:GL N l
 b5:∀x∈l,Z x.A<=5
 ru:∀x∈l,x.o=false->KY N ar x
 wi:∀x∈l,WI N x
 wit:∀x∈l,De x
theorem kf {N l ar}(h5:∀y∈l,Z y.A<=5)(h:∀y∈l,y.o=false->KY N ar y):PV N l (OP N ar):=by
 refine⟨h5,fun y hy ho=>mc (h y hy ho) (h5 y hy),fun y hy ho=>?_,fun y hy ho a ha=>?_⟩
 ·have hr:=h y hy ho;refine⟨RU hr.vt,fun k hk=>?_⟩;rw[Hh]at hk;obtain⟨b,hb,rfl⟩:=AO.1 hk;rw[N5];exact RU (hr.vb b hb)
 ·have hr:=h y hy ho;unfold Kj at ha;rw[Hh,BS]at ha;obtain⟨b,hb,rfl⟩:=AO.1 ha;have e:=gS (N:=N) (b:=b) fun t ht=>(hr.vb b hb t ht).1;have hg:=sG (hr.A b hb) (hr.vb b hb);unfold eA at e;simp only[Prod.mk.injEq]at e;have e1:(Ih (Gz (Z N:Int) (E9 N b)).a).p.toNat=Mh N b:=by
   show (Gz (Z N:Int) (E9 N b)).a.p.toNat=_;rw[eN,DU]
  show Sh _ (Ih (Gz (Z N:Int) (E9 N b)).a).p.toNat (Cw (Ih (Gz (Z N:Int) (E9 N b)).a));rw[e1,<-e.2];refine⟨_,rfl,?_,fun z hz=>?_⟩
  ·rw[BP,tI (hr.A b hb).mem];exact hg.len
  ·obtain⟨u,hu,rfl⟩:=AO.1 hz;exact XA (hg.gt u hu)
theorem BH.bki {N ar l}(h:BH N ar l):PV N l (OP N ar):=kf h.b5 h.ru
theorem QA {t}(h1:DT t)(h2:Pm t)(h3:Z t<=1000)(h4:VT t):UT t:=by
 refine⟨h1,h2,h3,fun hv=>?_⟩;rcases h4 with⟨b,rfl,hb⟩|⟨h5,h6⟩
 ·simp only[Bw,BX,DF]at hb;refine⟨b.toNat-65,AA,?_⟩;have:=F4 (k:=((b.toNat-65:Nat):Int)) AA AA;have e:(Iq ((b.toNat-65:Nat):Int)).toNat=b.toNat:=AA;rw[KF.1 e]
 ·cases t with
  |nil=>exact absurd rfl h5
  |cons b r=>
   have h7:=h6 b (by simp);have h8:Bw b.toNat=true:=hv;simp only[Bw,A8,BX,DF]at h7 h8;omega
theorem CZ.rt {t N l cs}(h:CZ t N l cs){ar}(hA:aH l ar):BH N ar l:=by
 have hf:∀x∈l,EG x:=fun x hx=>Hs h.ok x (by rw[h.items];exact hx);have h5:∀y∈l,Z y.A<=5:=fun y hy=>(h.wi y hy).A;refine⟨⟨h.bk.len,h.bk.nm,fun x hx=>?_,h.bk.fits,h.bk.pos,fun x hx=>(hf x hx).va,fun x hx a ha b hb=>cS h.ok x (by rw[h.items];exact hx) a (Ar (.inr ha)) b (Ar (.inr hb))⟩,h5,fun x hx ho=>YX h hA hx ho,h.wi,h.wit⟩;have hw:=h.wi x hx;have hs:=hw.short;refine⟨hw.o,by have:=hw.A;omega,hw.mem,hs.1.1,fun a ha=>?_⟩;have ad:=h.wit x hx;have ho:x.o=false:=by
  cases ho:x.o with
  |false=>rfl
  |true=>simp[Af,ho,hw.o ho]at ha
 have aa:a=x.h\/a∈x.A:=by simpa[Af,ho]using ha
 obtain⟨w1,w2,w3,w4⟩:=ad.2.2 ho;have ab:D3 a:=by rcases aa with rfl|aa;exact w1;exact w4 a aa
 have ac:short a:=by rcases aa with rfl|aa;exact hs.1;exact hs.2 a aa
 exact⟨ab.2.2.1,ac.1,fun t ht=>QA ((hf x hx).dt a ha t ht) (ab.2.2.2 t ht) (ac.2.2 t ht) ((hf x hx).va a ha t ht)⟩
theorem BH.sub {N ar l l'}(h:BH N ar l)(hs:∀x∈l',x∈l)(hl:Z l'<=16):BH N ar l':=
 ⟨⟨hl,h.gl.nm,fun x hx=>h.gl.msr x (hs x hx),fun x hx=>h.gl.fits x (hs x hx),fun x hx=>h.gl.pos x (hs x hx),fun x hx=>h.gl.va x (hs x hx),fun x hx=>h.gl.ar x (hs x hx)⟩,fun x hx=>h.b5 x (hs x hx),fun x hx=>h.ru x (hs x hx),fun x hx=>h.wi x (hs x hx),fun x hx=>h.wit x (hs x hx)⟩
theorem BH.less {N ar l}(h:BH N ar l)(i):BH N ar (C7 i [] l):=
 h.sub (fun x hx=>by rcases Ee hx with h|h;exact h;cases h) (BO (Q5 l) h.gl.len)
theorem TR {x k}(h:De x)(ho:x.o=false):De (F7 x k):=by
 obtain⟨w1,w2,w3,w4⟩:=h.2.2 ho;exact⟨h.1,(fun e=>by cases e),fun _=>⟨w1,w2,BO (ML _ _) w3,fun a ha=>w4 a (FY ha)⟩⟩
theorem ZG {N x k}(h:WI N x)(hw:De x)(ho:x.o=false):WI N (F7 x k):=by
 have ac:=TR (k:=k) hw ho;have ab:∀a,a∈Af (F7 x k)->WA N (Ba x) a->WA N (Ba (F7 x k)) a:=fun a ha hA=>⟨hA.1,hA.2.1,hA.2.2.1,hA.2.2.2.1,fun w hm=>⟨(hA.2.2.2.2 w hm).1,(hA.2.2.2.2 w hm).2.1,fun hv=>Oi ac ha hm hv⟩⟩;have aa:∀a∈(F7 x k).A,a∈x.A:=fun a ha=>FY ha;exact⟨U8 h.fits,⟨h.short.1,fun a ha=>h.short.2 a (aa a ha)⟩,fun a ha=>h.va a (Mq ho ha),h.vh,fun a ha=>h.vb a (aa a ha),h.mem,BO (ML _ _) h.A,(fun e=>by cases e),fun _=>⟨(h.h ho).1,ab _ (Ar (.inl ⟨rfl,rfl⟩)) (h.h ho).2⟩,fun a ha=>ab a (Ar (.inr ha)) (h.wa a (aa a ha))⟩
theorem Wu {y}(hs:Gg y=true)(hu:∀a∈Af y,∀t∈a.A,UT t){a}(ha:a∈Af y){t}(ht:t∈a.A)(hv:Ac t=true):∃b∈y.A,b.nt=false/\t∈b.A:=by
 unfold Gg at hs;have:=EB.1 (by simpa using hs:(Af y).any (fun a=>a.A.any fun w=>(Ap w).1&&!Gi y (Ap w).2)=false) a ha;have:=EB.1 (by simpa using this:a.A.any (fun w=>(Ap w).1&&!Gi y (Ap w).2)=false) t ht;rw[Bs,hv]at this;have hb:Gi y (Ap t).2=true:=by simpa using this
 unfold Gi at hb;obtain⟨b,ac,hb⟩:=CW.1 hb;simp only[BX,GH,CW]at hb;obtain⟨hnt,u,ab,aa⟩:=hb;refine⟨b,ac,hnt,?_⟩;unfold Qf at aa;simp only[BX,EH]at aa;have:t=u:=DX.inj _ _ (hu a ha t ht) (hu b (Ar (.inr ac)) u ab) (GW (by rw[Bs,hv,aa.1]) aa.2.symm);rw[this];exact ab
theorem BH.wo {N ar l}(h:BH N ar l){i k x}(hx:l[i]?=some x)(ho:x.o=false)(hs:Gg (F7 x k)=true):BH N ar (C7 i [F7 x k] l):=by
 have aa:=BD hx;have hm:∀y∈C7 i [F7 x k] l,y∈l\/y=F7 x k:=fun y hy=>by
  rcases Ee hy with h|h
  ·exact .inl h
  ·exact .inr (by simpa using h)
 have ab:∀a∈(F7 x k).A,a∈x.A:=fun a ha=>FY ha;refine⟨h.gl.wo hx ho,fun y hy=>?_,fun y hy ac=>?_,fun y hy=>?_,fun y hy=>?_⟩
 ·rcases hm y hy with hy|rfl
  ·exact h.b5 y hy
  ·exact BO (ML _ _) (h.b5 x aa)
 ·rcases hm y hy with hy|rfl
  ·exact h.ru y hy ac
  ·have hr:=h.ru x aa ho;refine⟨hr.h,hr.hnt,fun b hb=>hr.A b (ab b hb),hr.vt,fun b hb=>hr.vb b (ab b hb),fun v hm hv=>?_⟩;obtain⟨b,hb,-,ad⟩:=Wu hs (fun a ha=>((h.gl.msr x aa).at_ a (Mq ho ha)).2.2) (a:=x.h) (Ar (.inl ⟨rfl,rfl⟩)) hm hv;exact⟨b,hb,ad⟩
 ·rcases hm y hy with hy|rfl
  ·exact h.wi y hy
  ·exact ZG (h.wi x aa) (h.wit x aa) ho
 ·rcases hm y hy with hy|rfl
  ·exact h.wit y hy
  ·exact TR (h.wit x aa) ho
def QT (R:List AB)(gv:List AC)(S:AC->Prop):Prop:=(∀a∈gv,S a)/\∀y∈R,∀μ,(∀b∈y.A,S (Gy μ b))->S (Gy μ y.h)
def LA (R:List AB)(gv:List AC)(a:AC):Prop:=∀S,QT R gv S->S a
theorem LA.cl (R gv):QT R gv (LA R gv):=⟨fun a ha S hS=>hS.1 a ha,fun y hy μ hb S hS=>hS.2 y hy μ fun b aa=>hb b aa S hS⟩
theorem oz {R gv S}(h:NH true R gv S):QT R gv S:=
 ⟨h.1,fun y hy μ hb=>h.2 (gv++y.A.map (Gy μ)) (fun a ha=>by
  rcases AW.1 ha with ha|ha
  ·exact h.1 a ha
  ·obtain⟨b,aa,rfl⟩:=AO.1 ha
   exact hb b aa) (fun a ha=>FZ _ ha) y hy _ ⟨μ,fun a ha _=>MA _ (AO.2 ⟨a,ha,rfl⟩),fun a ha hp=>(by cases hp),rfl⟩⟩
section
variable {N:List Tx} {ar:Tx->Nat} {Rd:List AB} {x:AB}
theorem QK (h:tN N ar Rd x){a}(ha:LA Rd (x.A.map Rp) a):GA N ar a/\CQ (Rd.map (Hi N)) (Kj N x) (eA N a).1 (eA N a).2:=ha _ (oz (WV h))
theorem WB (h:tN N ar Rd x){A:AC->Prop}(hA:∀a,A a->GA N ar a)(hc:∀y∈Rd,∀μ,(∀b∈y.A,A (Gy μ b))->A (Gy μ y.h)):LR (Rd.map (Hi N)) (fun k t=>∃a,A a/\eA N a=(k,t)):=by
 intro r hr ν hb;obtain⟨y,hy,rfl⟩:=AO.1 hr;have ab:=h.ru y hy;have ah:∀b∈y.A,∃a,A a/\a.nt=b.nt/\a.B=b.B/\a.A.map Ij=b.A.map fun t=>Gd ν (Ap t):=fun b aa=>by
  obtain⟨a,ha,e⟩:=hb (Gz (Z N) (E9 N b)) (by rw[Hh];exact AO.2 ⟨b,aa,rfl⟩);rw[eN,DU,gL,N5]at e;unfold eA at e;simp only[Prod.mk.injEq]at e;obtain⟨e1,e2⟩:=e;obtain⟨g1,g2⟩:=lV (hA a ha).mem (ab.A b aa).mem e1;refine⟨a,ha,g1,g2,?_⟩;unfold Bz at e2;simp only[BS]at e2;exact Ko (by simp only[BP];rw[(hA a ha).len,(ab.A b aa).len,g2]) (by rw[BP];exact (hA a ha).le3) e2
 let μ:Tx->Tx:=fun v=>Classical.epsilon fun u=>GT u/\Ij u=ν (Ap v).2;have hμ:∀v,(∃u,GT u/\Ij u=ν (Ap v).2)->GT (μ v)/\Ij (μ v)=ν (Ap v).2:=fun v hv=>Classical.epsilon_spec hv;have ac:∀b∈y.A,∀v∈b.A,Ac v=true->GT (μ v)/\Ij (μ v)=ν (Ap v).2:=fun b aa v hv hvv=>by
  obtain⟨a,ha,-,-,e⟩:=ah b aa;obtain⟨i,hi⟩:=CO hv;have h1:(b.A.map fun t=>Gd ν (Ap t))[i]?=some (Gd ν (Ap v)):=by rw[EY,hi];rfl
  rw[<-e,EY]at h1;cases af:a.A[i]? with
  |none=>rw[af]at h1;cases h1
  |some u=>
   rw[af]at h1;have h2:Ij u=Gd ν (Ap v):=IA h1;refine hμ v ⟨u,(hA a ha).gt u (BD af),?_⟩;rw[h2];unfold Gd;rw[Bs,hvv,if_pos rfl]
 have ad:∀t,VT t->DT t->(Ac t=true->GT (μ t)/\Ij (μ t)=ν (Ap t).2)->GT (Kq μ t)/\Ij (Kq μ t)=Gd ν (Ap t):=fun t h1 h2 h3=>by
  unfold Gd;rw[Bs];cases hv:Ac t with
  |true=>rw[if_pos rfl,D4 hv];exact h3 hv
  |false=>rw[if_neg (by simp),Db hv];exact⟨.inl ⟨hv,h1,h2⟩,Ii h1 hv⟩
 have ae:∀b∈y.A,A (Gy μ b):=fun b aa=>by
  obtain⟨a,ha,e1,e2,e3⟩:=ah b aa;have:Gy μ b=a:=by
   refine AC.ext' e1.symm e2.symm ?_;have hg:∀t∈b.A,GT (Kq μ t)/\Ij (Kq μ t)=Gd ν (Ap t):=fun t ht=>ad t (ab.vb b aa t ht).1 (ab.vb b aa t ht).2 (ac b aa t ht);refine P8 (f:=Ij) (fun u hu w hw e=>?_) ?_
   ·obtain⟨t,ht,rfl⟩:=AO.1 hu;exact nW (hg t ht).1 ((hA a ha).gt w hw) e
   ·show (b.A.map (Kq μ)).map Ij=a.A.map Ij;rw[e3,BS];exact CK fun t ht=>(hg t ht).2
  rw[this];exact ha
 refine⟨Gy μ y.h,hc y hy μ ae,?_⟩;unfold eA;refine GW ?_ ?_
 ·show Mh N (Gy μ y.h)=(((N.idxOf y.h.B:Nat):Int)).toNat;unfold Mh;have:(Gy μ y.h).nt=false:=ab.hnt;rw[this,DU];rfl
 ·show C4 ((y.h.A.map (Kq μ)).map Ij)=C4 ((y.h.A.map Ap).map (Gd ν));rw[BS,BS];congr 1;refine CK fun t ht=>?_
  exact (ad t (ab.vt t ht).1 (ab.vt t ht).2 (fun hv=>by
   obtain⟨b,aa,ai⟩:=ab.safe t ht hv
   exact ac b aa t ai hv)).2
theorem ZE (h:tN N ar Rd x){k t}(hl:CQ (Rd.map (Hi N)) (Kj N x) k t):∃a,LA Rd (x.A.map Rp) a/\eA N a=(k,t):=
 hl _ (WB h (fun a ha=>(QK h ha).1) (LA.cl Rd _).2) fun a ha=>by
  unfold Kj at ha;rw[Hh,BS]at ha;obtain⟨b,hb,rfl⟩:=AO.1 ha;exact⟨Rp b,(LA.cl Rd _).1 _ (AO.2 ⟨b,hb,rfl⟩),gS fun t ht=>(h.x.vb b hb t ht).1⟩
theorem XU (h:tN N ar Rd x):eA N (Rp x.h)=((Hi N x).h.p.toNat,Cw (Ih (Hi N x).h)):=by
 rw[gS (N:=N) (b:=x.h) fun t ht=>(h.x.vt t ht).1];have e:(Gz (Z N:Int) (E9 N x.h)).a=C9 N x.h:=by
  unfold Gz;rw[if_neg (by show¬x.h.nt=true;rw[h.x.hnt];simp)];rfl
 rw[e];rfl
theorem od (h:tN N ar Rd x):CQ (Rd.map (Hi N)) (Kj N x) (Hi N x).h.p.toNat (Cw (Ih (Hi N x).h))↔LA Rd (x.A.map Rp) (Rp x.h):=by
 have he:=XU h;constructor
 ·intro hl;obtain⟨a,ha,e⟩:=ZE h hl;rw[<-he]at e;rw[<-lc (QK h ha).1 (sG h.x.h h.x.vt) e];exact ha
 ·intro ha;have:=(QK h ha).2;rw[he]at this;exact this
end
def oG (L:List Tx)(w:Tx):Tx:=(L.find? fun v=>Ev L v==w).getD w
section
variable {x:AB} (hx:XR x)
include hx
theorem XR.back {a}(ha:a∈Af x){t}(ht:t∈a.A)(hv:Ac t=true):oG (Ba x) (Ev (Ba x) t)=t:=by
 have hm:=hx.mem ha ht hv;have aa:∀u∈Ba x,Ac u=true:=fun u hu=>by
  have:=Oj ((Af x).flatMap (·.A)) [] (by simp) IS;exact (this.1 u hu).1
 unfold oG;cases hf:(Ba x).find? fun v=>Ev (Ba x) v==Ev (Ba x) t with
 |none=>
  have:=IX.1 hf t hm;simp at this
 |some u=>
  have h1:=LK hf;have h2:=NI hf;simp only[EH]at h2;show u=t;unfold Ev at h2;rw[if_pos (aa u h1),if_pos hv]at h2;have w1:=hx.which h1;have w2:=hx.which hm;have ab:=hx.few;rw[w1.1,w2.1]at h2;have h3:=List.cons.inj h2;have e1:=F4 (k:=((Ba x).idxOf u:Nat)) AA AA;have e2:=F4 (k:=((Ba x).idxOf t:Nat)) AA AA;rw[h3.1]at e1;exact Eh h1 hm AA
end
variable {Bd:Nat}
def fH (a:AC):Bool:=I5 (a.A.map Ap)
def Ph (s:Tx):Rd AC:=(Du false s).bnd fun a r=>if fH a=true then (A4 46 r).bnd fun _ r=>.got a r else .bad r
def Dr:Nat->Tx->Rd (List AC)
 |_,[]=>.got [] []
 |0,s=>.bad s
 |n+1,s=>(Ph s).bnd fun x r=>(Dr n r).bnd fun xs r=>.got (x::xs) r
theorem Jm (n):Dr n []= .got [] []:=by cases n<;>rfl
theorem J8 (n b r):Dr (n+1) (b::r)=(Ph (b::r)).bnd fun x r=>(Dr n r).bnd fun xs r=>.got (x::xs) r:=rfl
theorem rD {s r a}(h:Ph s= .got a r):s=A3 a++46::r/\D3 a/\a.nt=false/\fH a=true:=by
 unfold Ph at h;cases hp:Du false s with
 |bad e=>rw[hp]at h;cases h
 |got a2 r2=>
  rw[hp]at h;simp only[Rd.bnd]at h;split at h
  ·rename_i hs;cases hb:A4 46 r2 with
   |bad e=>rw[hb]at h;cases h
   |got u r3=>
    rw[hb]at h;cases h;obtain⟨e1,e2,e3⟩:=Hu hp;refine⟨?_,e2,e3,hs⟩;rw[e1];congr 1;cases r2 with
    |nil=>cases hb
    |cons c r4=>
     unfold A4 at hb;dsimp only at hb;split at hb
     ·rename_i hc;cases hb;have:c=46:=by
       have:=EH.1 hc;apply KF.1;simpa using Int.ofNat.inj this
      rw[this]
     ·cases hb
  ·cases h
def Lp (A:List AC):List AC->Bool
 |[]=>false
 |a::F=>A.any (clash a)||Lp (A++[a]) F
theorem Px {l i x}(h:l[i]?=some x):C6 l (i+1)=Ca l x i (Z (Af x)):=by
 unfold C6 Ca;rw[AU,h,BJ,JL,AS];simp[C6]
def qK (l:List AB)(p:Tx):Bool:=l.any fun x=>!x.o&&decide (x.h.B=p)
def Qh (l:List AB)(t:Tx):Int:=match Dr 400 t with
 |.bad _=>7
 |.got F _=>if Lp (l.flatMap Af) F=true then 3 else if F.any (fun a=>qK l a.B)=true then 8 else 0
theorem Eg:∀(n:Nat) (s:Tx) (F:List AC) (r:Tx),Dr n s= .got F r->r=[]/\Z F<=n/\s=F.flatMap (fun a=>A3 a++[46])/\∀a∈F,D3 a/\a.nt=false/\fH a=true
 |n,[],F,r,h=>by
  rw[Jm]at h;cases h;simp
 |0,b::s,F,r,h=>by cases h
 |n+1,b::s,F,r,h=>by
  rw[J8]at h;cases h1:Ph (b::s)with
  |bad e=>rw[h1]at h;cases h
  |got x r1=>
   rw[h1]at h;simp only[Rd.bnd]at h;cases h2:Dr n r1 with
   |bad e=>rw[h2]at h;cases h
   |got xs r2=>
    rw[h2]at h;cases h;obtain⟨e1,e2,e3,e4⟩:=Eg n r1 xs r h2;obtain⟨f1,f2,f3,f4⟩:=rD h1;refine⟨e1,by simp;omega,?_,fun a ha=>?_⟩
    ·rw[f1,e3];simp
    ·rcases BB.1 ha with rfl|ha
     ·exact⟨f2,f3,f4⟩
     ·exact e4 a ha
def Fv:List Int->List Int->Bool
 |x::t,y::u=>if x=y then Fv t u else decide (x<y)
 |_,_=>false
theorem gA:∀t:List Int,Fv t t=false
 |[]=>rfl
 |x::t=>by simp[Fv,gA t]
theorem Rj:∀{t u:List Int},Fv t u=true->Fv u t=false
 |[],_,h=>by simp[Fv]at h
 |_::_,[],h=>by simp[Fv]at h
 |x::t,y::u,h=>by
  unfold Fv at h⊢;by_cases e:x=y
  ·subst e;simp only[if_true]at h⊢;exact Rj h
  ·rw[if_neg e]at h;rw[if_neg (fun e'=>e e'.symm)];simp at h⊢;omega
theorem lp (a b c d e f):Fv [d,e,f] [a,b,c]=false↔(a<d\/(a=d/\(b<e\/(b=e/\c<=f)))):=by
 simp only[Fv];by_cases e1:d=a
 ·rw[if_pos e1];by_cases e2:e=b
  ·rw[if_pos e2];by_cases e3:f=c
   ·rw[if_pos e3];simp;omega
   ·rw[if_neg e3];simp;omega
  ·rw[if_neg e2];simp;omega
 ·rw[if_neg e1];simp;omega
theorem dL {t u v}(ht:Z t=3)(hu:Z u=3)(hv:Z v=3)(h1:Fv u t=false)(h2:Fv v u=false):Fv v t=false:=by
 match t,u,v,ht,hu,hv with
 |[a,b,c],[d,e,f],[g,h,i],_,_,_=>
  rw[lp]at h1 h2⊢;omega
theorem wD {t u}(ht:Z t=3)(hu:Z u=3)(h1:Fv t u=false)(h2:Fv u t=false):t=u:=by
 match t,u,ht,hu with
 |[a,b,c],[d,e,f],_,_=>
  simp only[Fv]at h1 h2;by_cases e1:a=d
  ·subst e1;simp only[if_true]at h1 h2;by_cases e2:b=e
   ·subst e2;simp only[if_true]at h1 h2;by_cases e3:c=f
    ·rw[e3]
    ·rw[if_neg e3]at h1;rw[if_neg (fun e=>e3 e.symm)]at h2;simp at h1 h2;omega
   ·rw[if_neg e2]at h1;rw[if_neg (fun e=>e2 e.symm)]at h2;simp at h1 h2;omega
  ·rw[if_neg e1]at h1;rw[if_neg (fun e=>e1 e.symm)]at h2;simp at h1 h2;omega
def jn:List Int->Tx
 |[]=>[]
 |x::xs=>Lib.itoa x++xs.flatMap fun y=>44::Lib.itoa y
def tups (t:Cc):List Int:=t.takeWhile (fun x=>decide (x≠ -1))
def QC (t:Cc):Tx:=jn (tups t)
def Us (l:List Cc):Prop:=l.Pairwise fun a b=>Fv b a=false
theorem cV:∀{L L':List Cc},T3 L->L.Perm L'->Us L->Us L'->L=L'
 |[],L',_,hp,_,_=>by rw[hp.nil_eq]
 |a::L,[],_,hp,_,_=>by have:=hp.length_eq;simp at this
 |a::L,b::L',h3,hp,h1,h2=>by
  unfold Us at h1 h2;rw[List.pairwise_cons]at h1 h2;have ab:T3 (b::L'):=fun x hx=>h3 x (hp.symm.subset hx);have aa:a=b:=by
   have ha:a∈b::L':=hp.subset (by simp);have hb:b∈a::L:=hp.symm.subset (by simp);rcases BB.1 ha with e|ha
   ·exact e
   ·rcases BB.1 hb with e|hb
    ·exact e.symm
    ·exact wD (h3 a (by simp)) (ab b (by simp)) (h2.1 a ha) (h1.1 b hb)
  subst aa;rw[cV (fun x hx=>h3 x (GJ _ hx)) (List.perm_cons a|>.1 hp) h1.2 h2.2]
def rZ (t:Cc):List Cc->List Cc
 |[]=>[t]
 |u::l=>if Fv t u=true then t::u::l else u::rZ t l
def Hm:List Cc->List Cc
 |[]=>[]
 |t::l=>rZ t (Hm l)
theorem S5 (t):∀l,(rZ t l).Perm (t::l)
 |[]=>List.Perm.refl _
 |u::l=>by
  unfold rZ;split
  ·exact List.Perm.refl _
  ·exact ((S5 t l).cons u).trans (List.Perm.swap _ _ _)
theorem Ht:∀l,(Hm l).Perm l
 |[]=>List.Perm.refl _
 |t::l=>(S5 t _).trans ((Ht l).cons t)
theorem dR {t}(ht:Z t=3):∀{l:List Cc},T3 l->Us l->Us (rZ t l)
 |[],_,_=>by simp[rZ,Us]
 |u::l,h3,h=>by
  unfold Us at h;rw[List.pairwise_cons]at h;have hu:=h3 u (by simp);unfold rZ;split
  ·rename_i hc;unfold Us;rw[List.pairwise_cons,List.pairwise_cons];refine⟨fun x hx=>?_,h.1,h.2⟩;rcases BB.1 hx with rfl|hx
   ·exact Rj hc
   ·exact dL ht hu (h3 x (GJ _ hx)) (Rj hc) (h.1 x hx)
  ·rename_i hc;have:=dR ht (fun x hx=>h3 x (GJ _ hx)) h.2;unfold Us at this⊢;rw[List.pairwise_cons];refine⟨fun x hx=>?_,this⟩;rcases BB.1 ((S5 t l).subset hx)with rfl|hx
   ·simpa using hc
   ·exact h.1 x hx
theorem Pt:∀{l:List Cc},T3 l->Us (Hm l)
 |[],_=>List.Pairwise.nil
 |t::l,h3=>dR (h3 t (by simp)) (fun x hx=>h3 x (GJ _ ((Ht l).subset hx))) (Pt (fun x hx=>h3 x (GJ _ hx)))
theorem vP {L l}(h3:T3 l)(hp:L.Perm l)(hr:Us L):L=Hm l:=
 cV (fun x hx=>h3 x (hp.subset hx)) (hp.trans (Ht l).symm) hr (Pt h3)
def Gv (nm:Tx)(t:Cc):Tx:=nm++[40]++QC t++[41,46]
theorem Qg {p n}(h:¬0<=Bf p n):∀i,i<n->p i=false:=by
 intro i hi;unfold Bf at h;split at h
 ·rename_i j hj;exact absurd (KG j) h
 ·rename_i hn;have:=List.find?_range_eq_none.1 hn i hi;simpa using this
structure TG (l:List AB):Prop where
 odd:∀i,i<Z l->Gm l i=false
 saf:∀x∈l,Dx x=true
 kn:∀i,i<Z l->Gc l i=false
theorem gn {l}(h:(Cn l).1=0):TG l:=by
 unfold Cn at h;split at h
 ·simp at h
 rename_i h1;split at h
 ·simp at h
 rename_i h2;split at h
 ·simp at h
 rename_i h3;refine⟨Qg h1,fun x hx=>?_,Qg h3⟩;obtain⟨i,hi⟩:=CO hx;have:=Qg h2 i (BG.1 hi).1;unfold Df at this;rw[hi]at this;simpa using this
theorem ky {t l}(h:(Au t).1=0)(hp:Bv 16 t= .got l []):Z t<=600/\(Cn l).1=0:=by
 unfold Au at h;split at h
 ·simp at h
 rename_i h1;split at h
 ·simp at h
 obtain⟨-,e,-,-⟩:=Dd AA hp;rw[e]at h;exact⟨AA,h⟩
theorem sV {l}(h:∀i,i<Z l->Gm l i=false)(hp:∀x∈l,∀a∈Af x,0<Z a.A):Hf (l.flatMap Af):=by
 have key:∀i,i<=Z l->Hf (C6 l i):=by
  intro i;induction i with
  |zero=>intro _;simp[C6,oC]
  |succ i ih=>
   intro hi;have hg:=AJ (show i<Z l by omega);generalize l[i]=x at hg;rw[Px hg];have inner:∀j,j<=Z (Af x)->Hf (Ca l x i j):=by
    intro j;induction j with
    |zero=>intro _;simpa[Ca]using ih AA
    |succ j jh=>
     intro hj;have aa:=AJ (show j<Z (Af x) by omega);have hm:=AT (show j<Z (Af x) by omega);generalize (Af x)[j]=a at aa hm;rw[G1 aa];refine Ow (jh AA) (hp x (BD hg) a hm) ?_;have h1:=h i AA;unfold Gm at h1;rw[hg]at h1;have h2:=EB.1 h1 j (by rw[KV];omega);unfold Ma at h2;rw[aa]at h2;simpa using h2
   exact inner _ (AR _)
 have:=key (Z l) (AR _);simpa[C6]using this
theorem sW {S}(h:Hf S){a b}(ha:a∈S)(hb:b∈S):clash a b=false:=by
 unfold clash;by_cases e:b.B=a.B
 ·have h1:=(h a ha).2;have h2:=(h b hb).2;rw[e]at h2;simp[e];omega
 ·simp[e]
theorem Yv:∀{F A:List AC},Hf A->(∀a∈F,0<Z a.A)->Lp A F=false->Hf (A++F)
 |[],A,h,_,_=>by simpa using h
 |a::F,A,h,hp,ho=>by
  unfold Lp at ho;rw[Bool.or_eq_false_iff]at ho;have:=Yv (F:=F) (A:=A++[a]) (Ow h (hp a (by simp)) ho.1) (fun b hb=>hp b (by simp[hb])) ho.2;simpa using this
theorem SY:∀{F A:List AC},Hf (A++F)->Lp A F=false
 |[],A,_=>rfl
 |a::F,A,h=>by
  unfold Lp;rw[Bool.or_eq_false_iff];refine⟨?_,SY (by simpa using h)⟩;rw[EB];intro b hb;rw[sW h (by simp) (by simp[hb])];simp
theorem P3 {T:Tx->Prop}(hT:∀s w r,Cu s= .got w r->T w):∀(n:Nat) (s:Tx) (F:List AC) (r:Tx),Dr n s= .got F r->∀a∈F,∀w∈a.A,T w
 |n,[],F,r,h=>by
  rw[Jm]at h;cases h;simp
 |0,b::s,F,r,h=>by cases h
 |n+1,b::s,F,r,h=>by
  rw[J8]at h;cases h1:Ph (b::s)with
  |bad e=>rw[h1]at h;cases h
  |got x r1=>
   rw[h1]at h;simp only[Rd.bnd]at h;cases h2:Dr n r1 with
   |bad e=>rw[h2]at h;cases h
   |got xs r2=>
    rw[h2]at h;cases h;intro a ha;rcases BB.1 ha with rfl|ha
    ·unfold Ph at h1;cases h3:Du false (b::s)with
     |bad e=>rw[h3]at h1;cases h1
     |got a2 r3=>
      rw[h3]at h1;simp only[Rd.bnd]at h1;split at h1
      ·cases h4:A4 46 r3 with
       |bad e=>rw[h4]at h1;cases h1
       |got u r4=>
        rw[h4]at h1;cases h1;exact K2 hT h3
      ·cases h1
    ·exact P3 hT n r1 xs r h2 a ha
end Go.Proofs.YtmoeoppbmhfbpabGreatDoorI
