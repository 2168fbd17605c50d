import Derived.Test.YtmoeoppbmhfbpaaGreatDoorHEngJ
set_option maxHeartbeats 32000000
set_option maxRecDepth 100000
set_option linter.all false
namespace Go.Proofs.YtmoeoppbmhfbpaaGreatDoorH
open Go.Abs
theorem S7:∀{l m:List Int},l.Nodup->(∀x∈l,x∈m)->l.length<=m.length
 |[],m,_,_=>by simp
 |a::l,m,hn,hs=>by
  have aa:=List.nodup_cons.1 hn;have ha:=hs a (by simp)
  have h1:=S7 (l:=l) (m:=m.erase a) aa.2 (fun x hx=>by
   have ab:x≠a:=fun e=>aa.1 (e ▸ hx)
   exact (Ac2 ab).2 (hs x (by simp[hx])))
  rw[List.length_erase_of_mem ha]at h1;have:0<m.length:=List.length_pos_of_mem ha;simp only[Abv];omega
theorem Q7:∀(l:List Bj) (pl:Int) (acc:List Int),acc.Nodup->(l.foldl (mN pl) acc).Nodup
 |[],pl,acc,h=>h
 |t::l,pl,acc,h=>by
  rw[Aa2];apply Q7;unfold mN;split
  ·exact h
  ·rename_i hc;rw[Adf];exact⟨h,by simp,fun a ha b hb=>by simp at hb;subst hb;rintro rfl;exact hc ha⟩
theorem Q8:∀(l:List Bj) (pl:Int) (acc:List Int) (n:Int),n∈l.foldl (mN pl) acc↔n∈acc\/∃t∈l,G9 t pl=n
 |[],pl,acc,n=>by simp
 |t::l,pl,acc,n=>by
  rw[Aa2,Q8];unfold mN;by_cases hc:G9 t pl∈acc
  ·rw[if_pos hc];constructor
   ·rintro (h|⟨u,hu,e⟩)
    ·exact .inl h
    ·exact .inr ⟨u,by simp[hu],e⟩
   ·rintro (h|⟨u,hu,e⟩)
    ·exact .inl h
    ·rcases Acd.1 hu with rfl|hu
     ·exact .inl (e ▸ hc)
     ·exact .inr ⟨u,hu,e⟩
  ·rw[if_neg hc];constructor
   ·rintro (h|⟨u,hu,e⟩)
    ·rcases Ab2.1 h with h|h
     ·exact .inl h
     ·simp at h;exact .inr ⟨t,by simp,h.symm⟩
    ·exact .inr ⟨u,by simp[hu],e⟩
   ·rintro (h|⟨u,hu,e⟩)
    ·exact .inl (Ab2.2 (.inl h))
    ·rcases Acd.1 hu with rfl|hu
     ·exact .inl (Ab2.2 (.inr (by simp[e])))
     ·exact .inr ⟨u,hu,e⟩
theorem Q9 {q:Qry}(hN:QN q)(v:Int):(Kb q v).length<=1026:=by
 have hr:((List.range 1026).map fun k:Nat=>(k:Int)).length=1026:=by simp
 rw[<-hr];unfold Kb;split
 ·rename_i p hp;have ab:=Acb hp;have aa:Bb p.a.ts v=true:=by simpa using List.find?_some hp
  obtain⟨pl,ac,ad⟩:=I7 aa;rw[ad];apply S7 (Q7 _ _ _ Ac3);intro n hn;unfold Un at hn;rw[Q8]at hn;rcases hn with h|⟨t,ht,e⟩
  ·cases h
  ·obtain⟨x,hx,ae⟩:=hN p ab t ht pl ac;rw[Acf];exact⟨x,by simpa using ae,by rw[<-e];simp[G9,hx]⟩
 ·simp
def QV (q:Qry):Prop:=∀a∈atomsQ q,∀v,(true,v)∈a.ts->0<=v
theorem Y5 (q:Qry)(c:List AV)(hc:EQ q c)(hq:M9 q)(hN:QN q)(hV:QV q)(d:St):ACalls Tryz.prog 215 [ag c] d fun r d'=>(∃b,r=ic b/\((b= -1/\∀v∈Cg (atomsQ q),Cw q v=false)\/(b∈Cg (atomsQ q)/\Cw q b=true)))/\Keep d d':=by
 have a4:=fun d=>Ii q c hc hq d;have ah:=fun v d=>Oe q c v hc hq d;have aw:=fun v d=>Jx q c v hc hq hN d;have az:=fun v=>Q9 hN v;have a5:=K7 hq;have bi:=H1 hq;have a3:=fun (cs:List AV) (i:Nat) (hE:EL Ot (atomsQ q) cs) (d:St)=>Hv (atomsQ q) cs i hE a5 Ad2 d;have bd:=F3 a5;obtain⟨ih,ip,inn,pc,nc,rfl,-,-⟩:=hc;generalize Cg (atomsQ q)=vs at*
 have be:=Bm vs;refine Z9 31 [.tmp 2] Tryz.func215 ?_
 repeat' (first|refine Z1 ?_|(refine Z8 ?_;intro ya J)|(refine Z4 ?_;clear J ya)|(refine Z2 ?_ ?_<;>intro h ad<;>try exact Xp)|(refine Z5 ?_;first|(refine Xi (a4 _) ?_;rintro _ _ ⟨ida,cs,rfl,hE,ao⟩;(have aj:=ao.nobj;have ab:=ao.obj;have hK:=((Keep.refl d).new _).trans ao;have ak:=a3 cs ida hE;simp only[Aa]at aj ab))|(refine Xi (ak _) ?_;rintro _ _ ⟨⟨idv,rfl⟩,an⟩;(have av:=an.nobj;have ai:=an.obj;have am:=hK.trans an;clear an hK;have hK:=am;clear am)))|refine Z3 ?_|exact Zt|(apply J.out;clear J ya))
 rename_i da db;have o0:db.obj d.nobj=[ic q.head.p,sl ih q.head.ts.length (Ae q.head.ts),sl ip q.parts.length pc,sl inn q.nots.length nc]:=by rw[ai _ Ad2,ab _ Ad2,Am]
 clear ab ai a4 a3 ak hE ao
 refine Ab (fun m s d'=>∃(j w:Nat) (b:Int),m=vs.length-j/\j<=vs.length/\s 1=ptr d.nobj 0/\s 3=ic b/\s 4=ic w/\s 10=sl idv vs.length (Aj vs)/\s 11=ic vs.length/\s 12=ic j/\Keep d d'/\d.nobj<d'.nobj/\d'.obj d.nobj=[ic q.head.p,sl ih q.head.ts.length (Ae q.head.ts),sl ip q.parts.length pc,sl inn q.nots.length nc]/\w<=1027/\Ad8 ((b= -1/\w=1027/\∀v∈vs.take j,Cw q v=false)\/(b∈vs/\Cw q b=true))) vs.length
  ⟨0,1027,-1,Ad2,Ad2,Ad4,Ad4,Ad4,Ad4,Ad4,rfl,hK,Ad2,o0,Ad2,.inl ⟨rfl,rfl,by simp⟩⟩ ?_
 clear hK o0 aj av;rintro m s d' ⟨j,w,b,rfl,hj,h1,h3,h4,bl,bk,bj,hK,bg,bb,hw,hB⟩;have bc:=hK.nobj;by_cases a0:j<vs.length
 ·have aa:=Aav a0;obtain⟨r,hd⟩:=Db aa;have ac:=Ab1 a0;generalize vs[j]=v at hd aa ac;have ah:=ah v;have aw:=aw v;have az:=az v
  have HM:Ad8 (v∈vs/\∀u∈vs.take (j+1),u∈vs.take j\/u=v):=⟨ac,fun u hu=>by
   rw[Aa8,aa,Ab9]at hu;rcases Ab2.1 hu with h|h
   ·exact .inl h
   ·simp at h;exact .inr h⟩
  clear aa ac;cases af:Cw q v with
  |false=>
   rw[af]at ah;have HB:Ad8 ((b= -1/\w=1027/\∀v∈vs.take (j+1),Cw q v=false)\/(b∈vs/\Cw q b=true)):=by
    rcases hB.out with⟨h1,h2,h3⟩|h
    ·refine .inl ⟨h1,h2,fun u hu=>?_⟩;rcases HM.out.2 u hu with h|rfl
     ·exact h3 u h
     ·exact af
    ·exact .inr h
   clear hB HM af
   repeat' (first|refine Z1 ?_|(refine Z8 ?_;intro ya J)|(refine Z4 ?_;clear J ya)|(refine Z2 ?_ ?_<;>intro h ad<;>try exact Xp)|(refine Z5 ?_;refine Xi (ah _) ?_;rintro _ _ ⟨rfl,ae⟩;(have au:=ae.nobj;have ap:=ae.obj;have am:=hK.trans ae))|refine Z3 ?_|exact Zt|(apply J.out;clear J ya))
   refine⟨vs.length-(j+1),Ad2,j+1,w,b,?_⟩
   ((repeat' refine Zi ?_ ?_)<;>first|exact Xq|exact HB|exact Xs)
  |true=>
   rw[af]at ah;have ba:Ad8 ((v= -1/\(Kb q v).length=1027/\∀v∈vs.take (j+1),Cw q v=false)\/(v∈vs/\Cw q v=true)):=.inr ⟨HM.out.1,af⟩;have a9:Ad8 (¬(Kb q v).length<w->(b= -1/\w=1027/\∀v∈vs.take (j+1),Cw q v=false)\/(b∈vs/\Cw q b=true)):=fun hn=>by
    rcases hB.out with⟨h1,h2,h3⟩|h
    ·omega
    ·exact .inr h
   clear hB HM af;generalize ay:Kb q v=vq at*
   have bm:Ad8 _:=ay;clear ay;have bf:=Bm vq
   repeat' (first|refine Z1 ?_|(refine Z8 ?_;intro ya J)|(refine Z4 ?_;clear J ya)|(refine Z2 ?_ ?_<;>intro h ad<;>try exact Xp)|(refine Z5 ?_;first|(refine Xi (ah _) ?_;rintro _ _ ⟨rfl,ae⟩;(have au:=ae.nobj;have ap:=ae.obj;have am:=hK.trans ae))|(refine Xi (aw _) ?_;rintro _ _ ⟨⟨idq,rfl⟩,ax⟩;(have a7:=ax.nobj;have a6:=ax.obj;have bh:=am.trans ax)))|refine Z3 ?_|exact Zt|(apply J.out;clear J ya))
   ·refine⟨vs.length-(j+1),Ad2,j+1,vq.length,v,?_⟩
    ((repeat' refine Zi ?_ ?_)<;>first|exact Xq|exact ba|exact Xs)
   ·refine⟨vs.length-(j+1),Ad2,j+1,w,b,?_⟩
    ((repeat' refine Zi ?_ ?_)<;>first|exact Xq|exact (a9.out Ad2)|exact Xs)
 ·have a8:j=vs.length:=Ad2;subst a8;rw[Aa3]at hB;have HB:Ad8 ((b= -1/\∀v∈vs,Cw q v=false)\/(b∈vs/\Cw q b=true)):=by
   rcases hB.out with⟨h1,-,h3⟩|h
   ·exact .inl ⟨h1,h3⟩
   ·exact .inr h
  repeat' (first|refine Z1 ?_|(refine Z8 ?_;intro ya J)|(refine Z4 ?_;clear J ya)|(refine Z2 ?_ ?_<;>intro h ad<;>try exact Xp)|refine Z3 ?_|exact Zt|(apply J.out;clear J ya))
  first|exact⟨_,rfl,⟨b,rfl,HB.out⟩,hK⟩|exact⟨_,rfl,b,rfl,HB.out⟩
def Ev (l:List Ee)(small big:List Int):Prop:=∀a∈l,small.any (Bb a.ts)=true->∀v,(true,v)∈a.ts->v∈big
def Grown (init V rs:List Int):Prop:=∃ad:List Int,rs=init++ad/\ad.Nodup/\∀v∈ad,v∈V
theorem Grown.le {init V rs:List Int}(h:Grown init V rs):rs.length<=init.length+V.length:=by
 obtain⟨ad,rfl,h1,h2⟩:=h;have:=S7 h1 h2;simp;omega
theorem Grown.snoc {init V rs:List Int}(h:Grown init V rs){v:Int}(hv:v∈V)(hn:v∉rs):Grown init V (rs++[v]):=by
 obtain⟨ad,rfl,h1,h2⟩:=h;refine⟨ad++[v],by simp,?_,?_⟩
 ·rw[Adf];exact⟨h1,by simp,fun a ha b hb=>by simp at hb;subst hb;rintro rfl;exact hn (Ab2.2 (.inr ha))⟩
 ·intro u hu;rcases Ab2.1 hu with h|h
  ·exact h2 u h
  ·simp at h;subst h;exact hv
theorem Uz (q:Qry)(c:List AV)(init:List Int)(idi:Nat)(hc:EQ q c)(hq:M9 q)(cd:init.length<=200)(d:St):ACalls Tryz.prog 217 [ag c,sl idi init.length (Aj init)] d fun r d'=>(∃id rs,r=sl id rs.length (Aj rs)/\Grown init (Cg (atomsQ q)) rs/\Ev (atomsQ q) rs rs)/\Keep d d':=by
 have b5:=fun d=>Ii q c hc hq d;have bi:=K7 hq;have cj:=H1 hq;have ch:=F3 bi;have b3:∀a∈atomsQ q,∀v,(true,v)∈a.ts->v∈Cg (atomsQ q):=fun a ha v hv=>(Dk _ _).2 ⟨a,ha,hv⟩;obtain⟨ih,ip,inn,pc,nc,rfl,-,-⟩:=hc;generalize Cg (atomsQ q)=V at*
 generalize atomsQ q=l at*
 have ce:=Bm init;refine Z9 66 [.tmp 4] Tryz.func217 ?_
 repeat' (first|refine Z1 ?_|(refine Z8 ?_;intro ya J)|(refine Z4 ?_;clear J ya)|(refine Z2 ?_ ?_<;>intro h ad<;>try exact Xp)|(refine Z6 ?_;intro idn dn ai aj af ab ae aa)|refine Z3 ?_|exact Zt|(apply J.out;clear J ya))
 refine Ab (fun m s d'=>∃(j i3:Nat) (rs:List Int),m=init.length-j/\j<=init.length/\s 2=ptr d.nobj 0/\s 5=sl i3 rs.length (Aj rs)/\s 14=sl idi init.length (Aj init)/\s 15=ic init.length/\s 16=ic j/\Keep d d'/\d.nobj<d'.nobj/\d'.obj d.nobj=[ic q.head.p,sl ih q.head.ts.length (Ae q.head.ts),sl ip q.parts.length pc,sl inn q.nots.length nc]/\Own d d' i3 rs.length/\rs.length<=j/\Ad8 (rs=init.take j)) init.length
  ⟨0,1,[],Ad2,Ad2,Ad4,by simp[upd,Aj],by simp[upd,initS],Ad4,rfl,Xs,Ad6,by rw[Am],Own.nil _ _,by simp,by simp[Ad8]⟩ ?_
 rintro m s d' ⟨j,i3,rs,rfl,hj,h2,h5,b8,b7,b6,hK,ay,am,hO,be,hR⟩;have a0:=hK.nobj;by_cases a9:j<init.length
 ·have ac:=Aav a9;obtain⟨r,hd⟩:=Db ac;generalize init[j]=v at hd ac;have HR:Ad8 (rs++[v]=init.take (j+1)):=by rw[Ad8,Aa8,ac,Ab9,hR.out]
  have bv:=Bm rs;clear ac hR
  repeat' (first|refine Z1 ?_|(refine Z8 ?_;intro ya J)|(refine Z4 ?_;clear J ya)|(refine Z2 ?_ ?_<;>intro h ad<;>try exact Xp)|(refine Z6 ?_;intro idn dn ai aj af ab ae aa)|refine Z3 ?_|exact Zt|(apply J.out;clear J ya))
  refine⟨init.length-(j+1),Ad2,j+1,idn,rs++[v],?_⟩
  ((repeat' refine Zi ?_ ?_)<;>first|exact Xq|exact (by simpa using ai)|exact HR|exact (by simp[Aj])|exact Xs)
 ·have bc:j=init.length:=Ad2;subst bc;rw[Aa3]at hR;have hR:=hR.out.symm;subst hR;clear a9 hj
  repeat' (first|refine Z1 ?_|(refine Z8 ?_;intro ya J)|(refine Z4 ?_;clear J ya)|(refine Z2 ?_ ?_<;>intro h ad<;>try exact Xp)|(refine Z6 ?_;intro idn dn ai aj af ab ae aa)|refine Z3 ?_|exact Zt|(apply J.out;clear J ya))
  refine Ab (fun m s d'=>∃(B i3:Nat) (Bi:Int) (rs:List Int),m=2*(init.length+V.length-rs.length)+(if Bi<(rs.length:Int)then 1 else 0)/\(Bi=B\/(Bi= -1/\B=0))/\s 2=ptr d.nobj 0/\s 5=sl i3 rs.length (Aj rs)/\s 8=ic Bi/\Keep d d'/\d.nobj<d'.nobj/\d'.obj d.nobj=[ic q.head.p,sl ih q.head.ts.length (Ae q.head.ts),sl ip q.parts.length pc,sl inn q.nots.length nc]/\Own d d' i3 rs.length/\rs.length<=init.length+V.length/\B<=rs.length/\Ad8 (Grown init V rs/\Ev l (rs.take B) rs)) (2*(init.length+V.length-init.length)+1)
   ⟨0,i3,-1,init,by rw[if_pos Ad2],.inr ⟨rfl,rfl⟩,Ad3,Ad3,Ad4,hK,ay,am,hO,Ad2,Ad2,⟨[],by simp,Ac3,by simp⟩,fun a ha h=>by simp at h⟩ ?_
  clear hK ay am hO h2 h5 b8 b7 b6 a0;rintro m s d' ⟨B,i3,Bi,rs,rfl,b4,h2,h5,h8,hK,ay,am,hO,be,ci,hG⟩;have a0:=hK.nobj;have bv:=Bm rs;by_cases a9:Bi<(rs.length:Int)
  ·rw[if_pos a9]
   repeat' (first|refine Z1 ?_|(refine Z8 ?_;intro ya J)|(refine Z4 ?_;clear J ya)|(refine Z2 ?_ ?_<;>intro h ad<;>try exact Xp)|(refine Z6 ?_;intro idn dn ai aj af ab ae aa)|(refine Z5 ?_;refine Xi (b5 _) ?_;rintro _ _ ⟨ida,cs,rfl,hE,a7⟩;(have bb:=a7.nobj;have a3:=a7.obj;have aw:=hK.trans a7;have av:=Own.keep hO a7))|refine Z3 ?_|exact Zt|(apply J.out;clear J ya))
   rename_i da;have cg:=EL.length Hg hE
   refine Ab (fun m s d2=>∃(k i4:Nat) (ws:List Int),m=l.length-k/\k<=l.length/\s 2=ptr d.nobj 0/\s 5=sl i4 ws.length (Aj ws)/\s 8=ic rs.length/\s 32=sl ida l.length cs/\s 33=ic l.length/\s 34=ic k/\Keep d d2/\d.nobj<d2.nobj/\d2.obj d.nobj=[ic q.head.p,sl ih q.head.ts.length (Ae q.head.ts),sl ip q.parts.length pc,sl inn q.nots.length nc]/\Own d d2 i4 ws.length/\ws.length<=init.length+V.length/\rs.length<=ws.length/\Ad8 (Grown init V ws/\ws.take rs.length=rs/\Ev (l.take k) rs ws)) l.length
    ⟨0,i3,rs,Ad2,Ad2,Ad3,Ad3,Ad3,Ad4,Ad4,rfl,aw,Ad2,by rw[a3 _ Ad2,am],av,be,Ad2,hG.out.1,by simp,fun a ha=>by simp at ha⟩ ?_
   clear aw av a3 hK hO am ay h2 h5 h8 a0 a7 bb;rintro m s d2 ⟨k,i4,ws,rfl,hk,h2,h5,h8,bl,bk,bj,hK,ay,am,hO,bn,br,hW⟩;have a0:=hK.nobj;have b9:=Bm ws;by_cases az:k<l.length
   ·have ac:=Aav az;obtain⟨ida2,r2,b1⟩:=Il hE ac;have hb:=bi _ (Ab1 az);have bg:=b3 _ (Ab1 az);generalize l[k]=a at b1 ac hb bg;have HT:Ad8 (l.take (k+1)=l.take k++[a]):=by rw[Ad8,Aa8,ac,Ab9]
    clear ac;have bo:ws.length<=100000:=Ad2;have b2:a.ts.length<=1000:=Ad2;have a8:=fun d=>Jz a.p ida2 a.ts ws i4 b2 bo d;have a4:∀v∈rs,v∈ws:=fun v hv=>by
     have:=hW.out.2.1;rw[<-this]at hv;exact Adg hv
    cases ap:ws.any (Bb a.ts)with
    |false=>
     have HW:Ad8 (Grown init V ws/\ws.take rs.length=rs/\Ev (l.take (k+1)) rs ws):=by
      refine⟨hW.out.1,hW.out.2.1,?_⟩;rw[HT.out];intro b hb h v hv;rcases Ab2.1 hb with hb|hb
      ·exact hW.out.2.2 b hb h v hv
      ·simp at hb;subst hb;rw[Ab0]at h;obtain⟨u,hu,he⟩:=h;rw[Ab4]at ap;exact absurd he (ap u (a4 u hu))
     rw[ap]at a8;clear hW HT a4
     repeat' (first|refine Z1 ?_|(refine Z8 ?_;intro ya J)|(refine Z4 ?_;clear J ya)|(refine Z2 ?_ ?_<;>intro h ad<;>try exact Xp)|(refine Z6 ?_;intro idn dn ai aj af ab ae aa)|(refine Z5 ?_;refine Xi (a8 _) ?_;rintro _ _ ⟨rfl,ak⟩;(have ao:=ak.nobj;have ah:=ak.obj;have aw:=((hK.new _).put hK.nobj _).trans ak;have av:=Own.keep (Own.put (Own.new hO _) _ _) ak;simp only[Ac,Aa]at ao ah))|refine Z3 ?_|exact Zt|(apply J.out;clear J ya))
     refine⟨l.length-(k+1),Ad2,k+1,i4,ws,?_⟩
     ((repeat' refine Zi ?_ ?_)<;>first|exact Xq|exact HW|exact Xs)
    |true=>
     rw[ap]at a8;have cc:=En a.ts
     repeat' (first|refine Z1 ?_|(refine Z8 ?_;intro ya J)|(refine Z4 ?_;clear J ya)|(refine Z2 ?_ ?_<;>intro h ad<;>try exact Xp)|(refine Z6 ?_;intro idn dn ai aj af ab ae aa)|(refine Z5 ?_;refine Xi (a8 _) ?_;rintro _ _ ⟨rfl,ak⟩;(have ao:=ak.nobj;have ah:=ak.obj;have aw:=((hK.new _).put hK.nobj _).trans ak;have av:=Own.keep (Own.put (Own.new hO _) _ _) ak;simp only[Ac,Aa]at ao ah))|refine Z3 ?_|exact Zt|(apply J.out;clear J ya))
     rename_i db;have bw:db.obj d2.nobj=[ic a.p,sl ida2 a.ts.length (Ae a.ts)]:=by rw[ah _ Ad2,Ak]
     refine Ab (fun m s d3=>∃(j i5:Nat) (us:List Int),m=a.ts.length-j/\j<=a.ts.length/\s 2=ptr d.nobj 0/\s 5=sl i5 us.length (Aj us)/\s 8=ic rs.length/\s 32=sl ida l.length cs/\s 33=ic l.length/\s 34=ic k/\s 43=sl ida2 a.ts.length (Ae a.ts)/\s 44=ic a.ts.length/\s 45=ic j/\Keep d d3/\d.nobj<d3.nobj/\d3.obj d.nobj=[ic q.head.p,sl ih q.head.ts.length (Ae q.head.ts),sl ip q.parts.length pc,sl inn q.nots.length nc]/\Own d d3 i5 us.length/\us.length<=init.length+V.length/\rs.length<=us.length/\Ad8 (Grown init V us/\us.take rs.length=rs/\(∀v∈ws,v∈us)/\∀v,(true,v)∈a.ts.take j->v∈us)) a.ts.length
      ⟨0,i4,ws,Ad2,Ad2,Ad3,Ad3,Ad3,Ad3,Ad3,Ad3,Ad4,Ad4,rfl,aw,Ad2,by rw[ah _ Ad2,Al Ad2,Ai Ad2,am],av,bn,br,hW.out.1,hW.out.2.1,fun v hv=>hv,by simp⟩ ?_
     clear aw av ah hK hO am ay h2 h5 h8 bl bk bj a0 ak ao bw a8;rintro m s d3 ⟨j,i5,us,rfl,hj,h2,h5,h8,bl,bk,bj,cn,cm,ck,hK,ay,am,hO,ca,bu,hU⟩;have a0:=hK.nobj;have cb:=Bm us;by_cases a5:j<a.ts.length
     ·have ac:=Aav a5;obtain⟨r3,b0⟩:=Eo ac;have bd:=Ab1 a5;generalize a.ts[j]=w at b0 ac bd;obtain⟨w1,w2⟩:=w;have bm:Ad8 (a.ts.take (j+1)=a.ts.take j++[(w1,w2)]):=by rw[Ad8,Aa8,ac,Ab9]
      clear ac;have bq:us.length<=100000:=Ad2;have bf:=P4 w2 us;have bh:=fun d=>Gk w2 us i5 bq d;have HU:Ad8 ((w1=true->w2∈us)->(Grown init V us/\us.take rs.length=rs/\(∀v∈ws,v∈us)/\∀v,(true,v)∈a.ts.take (j+1)->v∈us)):=fun hw=>by
       refine⟨hU.out.1,hU.out.2.1,hU.out.2.2.1,fun v hv=>?_⟩;rw[bm.out]at hv;rcases Ab2.1 hv with h|h
       ·exact hU.out.2.2.2 v h
       ·simp at h;obtain⟨h1,h2⟩:=h;subst h2;exact hw h1
      cases w1 with
      |false=>
       repeat' (first|refine Z1 ?_|(refine Z8 ?_;intro ya J)|(refine Z4 ?_;clear J ya)|(refine Z2 ?_ ?_<;>intro h ad<;>try exact Xp)|(refine Z6 ?_;intro idn dn ai aj af ab ae aa)|refine Z3 ?_|exact Zt|(apply J.out;clear J ya))
       refine⟨a.ts.length-(j+1),Ad2,j+1,i5,us,?_⟩
       ((repeat' refine Zi ?_ ?_)<;>first|exact Xq|exact (Own.put (Own.new hO _) _ _)|exact (HU.out (fun h=>by cases h))|exact Xs)
      |true=>
       by_cases hm:w2∈us
       ·have a6:decide (w2∉us)=false:=by simp[hm]
        rw[a6]at bf;have HU:=HU.out (fun _=>hm);have HU:Ad8 _:=HU;clear a6 hm
        repeat' (first|refine Z1 ?_|(refine Z8 ?_;intro ya J)|(refine Z4 ?_;clear J ya)|(refine Z2 ?_ ?_<;>intro h ad<;>try exact Xp)|(refine Z6 ?_;intro idn dn ai aj af ab ae aa)|(refine Z5 ?_;refine Xi (bh _) ?_;rintro _ _ ⟨rfl,au⟩;(have ax:=au.nobj;have an:=au.obj;have aw:=((hK.new _).put hK.nobj _).trans au;have av:=Own.keep (Own.put (Own.new hO _) _ _) au;simp only[Ac,Aa]at ax an))|refine Z3 ?_|exact Zt|(apply J.out;clear J ya))
        refine⟨a.ts.length-(j+1),Ad2,j+1,i5,us,?_⟩
        ((repeat' refine Zi ?_ ?_)<;>first|exact Xq|exact HU|exact Xs)
       ·have a6:decide (w2∉us)=true:=by simp[hm]
        rw[a6]at bf;have HU:Ad8 (Grown init V (us++[w2])/\(us++[w2]).take rs.length=rs/\(∀v∈ws,v∈us++[w2])/\∀v,(true,v)∈a.ts.take (j+1)->v∈us++[w2]):=by
         refine⟨hU.out.1.snoc (bg w2 bd) hm,?_,fun v hv=>Ab2.2 (.inl (hU.out.2.2.1 v hv)),fun v hv=>?_⟩
         ·rw[List.take_append_of_le_length bu];exact hU.out.2.1
         ·rw[bm.out]at hv;rcases Ab2.1 hv with h|h
          ·exact Ab2.2 (.inl (hU.out.2.2.2 v h))
          ·simp at h;subst h;simp
        have bp:us.length+1<=init.length+V.length:=by
         have:=HU.out.1.le;simpa using this
        clear a6 hm
        repeat' (first|refine Z1 ?_|(refine Z8 ?_;intro ya J)|(refine Z4 ?_;clear J ya)|(refine Z2 ?_ ?_<;>intro h ad<;>try exact Xp)|(refine Z6 ?_;intro idn dn ai aj af ab ae aa)|(refine Z5 ?_;refine Xi (bh _) ?_;rintro _ _ ⟨rfl,au⟩;(have ax:=au.nobj;have an:=au.obj;have aw:=((hK.new _).put hK.nobj _).trans au;have av:=Own.keep (Own.put (Own.new hO _) _ _) au;simp only[Ac,Aa]at ax an;have ba:=an d3.nobj Ad2;rw[Ak]at ba))|refine Z3 ?_|exact Zt|(apply J.out;clear J ya))
        refine⟨a.ts.length-(j+1),Ad2,j+1,idn,us++[w2],?_⟩
        ((repeat' refine Zi ?_ ?_)<;>first|exact Xq|exact (by simpa using ai)|exact HU|exact (by simp[Aj])|exact Xs)
     ·have bc:j=a.ts.length:=Ad2;subst bc;have HW:Ad8 (Grown init V us/\us.take rs.length=rs/\Ev (l.take (k+1)) rs us):=by
       obtain⟨u1,u2,u3,u4⟩:=hU.out;rw[Aa3]at u4;refine⟨u1,u2,?_⟩;rw[HT.out];intro b hb h v hv;rcases Ab2.1 hb with hb|hb
       ·exact u3 v (hW.out.2.2 b hb h v hv)
       ·simp at hb;subst hb;exact u4 v hv
      clear hU hW HT
      repeat' (first|refine Z1 ?_|(refine Z8 ?_;intro ya J)|(refine Z4 ?_;clear J ya)|(refine Z2 ?_ ?_<;>intro h ad<;>try exact Xp)|(refine Z6 ?_;intro idn dn ai aj af ab ae aa)|refine Z3 ?_|exact Zt|(apply J.out;clear J ya))
      refine⟨l.length-(k+1),Ad2,k+1,i5,us,?_⟩
      ((repeat' refine Zi ?_ ?_)<;>first|exact Xq|exact HW|exact Xs)
   ·have bz:k=l.length:=Ad2;subst bz;have HW:Ad8 (Grown init V ws/\Ev l (ws.take rs.length) ws):=by
     obtain⟨u1,u2,u3⟩:=hW.out;rw[Aa3]at u3;exact⟨u1,by rw[u2];exact u3⟩
    clear hW
    repeat' (first|refine Z1 ?_|(refine Z8 ?_;intro ya J)|(refine Z4 ?_;clear J ya)|(refine Z2 ?_ ?_<;>intro h ad<;>try exact Xp)|(refine Z6 ?_;intro idn dn ai aj af ab ae aa)|refine Z3 ?_|exact Zt|(apply J.out;clear J ya))
    refine⟨2*(init.length+V.length-ws.length)+(if (rs.length:Int)<(ws.length:Int)then 1 else 0),by split<;>omega,rs.length,i4,rs.length,ws,?_⟩
    ((repeat' refine Zi ?_ ?_)<;>first|exact Xq|exact HW|exact (.inl rfl)|exact Xs)
  ·have hF:Grown init V rs/\Ev l rs rs:=by
    have hB:B=rs.length:=by rcases b4 with h|⟨h1,h2⟩<;>omega
    obtain⟨u1,u2⟩:=hG.out;rw[hB,Aa3]at u2;exact⟨u1,u2⟩
   have HF:Ad8 _:=hF;clear hF;have cf:decide ((rs.length:Int)>Bi)=false:=by simp;omega
   repeat' (first|refine Z1 ?_|(refine Z8 ?_;intro ya J)|(refine Z4 ?_;clear J ya)|(refine Z2 ?_ ?_<;>intro h ad<;>try exact Xp)|(refine Z6 ?_;intro idn dn ai aj af ab ae aa)|refine Z3 ?_|exact Zt|(apply J.out;clear J ya))
   first|exact⟨_,rfl,⟨i3,rs,rfl,HF.out.1,HF.out.2⟩,hK⟩|exact⟨_,rfl,i3,rs,rfl,HF.out.1,HF.out.2⟩
end Go.Proofs.YtmoeoppbmhfbpaaGreatDoorH
