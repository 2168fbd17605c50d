import Derived.Test.YtmoeoppbmhfbpabGreatDoorGTxtB
set_option maxHeartbeats 64000000
set_option maxRecDepth 100000
set_option linter.all false
namespace Go.Proofs.YtmoeoppbmhfbpabGreatDoorG
open Go.Abs
def He (N:List Tx)(l' l:List RItem):Bool:=(List.range N.length).any fun k=>(B8 N l k&&!B8 N l' k)&&E6 N l' k
theorem Te (f:Nat->Bool)(k:Nat):(List.range (k+1)).any f=((List.range k).any f||f k):=by
 rw[List.range_succ,Afu];simp
theorem jB (N:List Tx)(l l':List RItem)(cs cs':List AV)(idn idn' idi idi':Nat)(hE:EL (PI N) l cs)(ax:EL (PI N) l' cs')(hN:N.length<=2000)(hl:l.length<=1000)(av:l'.length<=1000)(a0:∀x∈l',x.body.length<=1000)(d:St):
  ACalls Tryz.prog 208 [B9 N idn' l' idi' cs',B9 N idn l idi cs] d fun r d'=>r=sc (.bool (He N l' l))/\Keep d d':=by
 have hR:=fun k d=>K5 N l cs idn idi k hE hl d;have ak:=fun k d=>K5 N l' cs' idn' idi' k ax av d;have am:=fun k d=>dG N l' cs' idn' idi' k ax av a0 d;refine Z9 27 [.tmp 4] Tryz.func208 ?_
 repeat' (first|refine Z1 ?_|(refine Z8 ?_;intro κ hκ)|(refine Z4 ?_;clear hκ κ)|(refine Z2 ?_ ?_<;>intro h ad<;>try exact Xp)|refine Z3 ?_|exact⟨⟩|(apply hκ.out;clear hκ κ))
 refine Ag (fun m s d'=>∃(k:Nat),m=N.length-k/\k<=N.length/\s 2=ptr d.nobj 0/\s 3=ptr (d.nobj+1) 0/\s 7=sl idn' N.length (N.map str)/\s 8=sc (.int .i64 N.length)/\s 9=sc (.int .i64 k)/\Keep d d'/\d.nobj+1<d'.nobj/\d'.obj d.nobj=[sl idn' N.length (N.map str),sl idi' l'.length cs']/\d'.obj (d.nobj+1)=[sl idn N.length (N.map str),sl idi l.length cs]/\Agt ((List.range k).any (fun k=>(B8 N l k&&!B8 N l' k)&&E6 N l' k)=false)) N.length
  ⟨0,Agm,Agm,Ago,Ago,Ago,Ago,rfl,Xs,Agq,by rw[Af Agq,Ap],Ap,by simp[Agt]⟩ ?_
 rintro m s d' ⟨k,rfl,hk,h2,h3,h7,h8,h9,hK,hno,ao,an,hA⟩;have a4:=hK.nobj;by_cases ay:k<N.length
 ·have hR:=hR k;have ak:=ak k;have am:=am k;have au:=Te (fun k=>(B8 N l k&&!B8 N l' k)&&E6 N l' k) k;rw[hA.out]at au;have aw:(B8 N l k&&!B8 N l' k&&E6 N l' k)=true->He N l' l=true:=fun h=>Aeo.2 ⟨k,by simpa using ay,h⟩;generalize B8 N l k=r1 at*
  generalize B8 N l' k=r2 at*
  generalize E6 N l' k=r3 at*
  have HS:Agt _:=au;have HI:Agt _:=aw;clear au aw hA;cases r1 with
  |false=>
   have HA:=HS.out;simp only[Af1,Bool.or_false]at HA;have HB:Agt _:=HA;clear HA HS HI
   repeat' (first|refine Z1 ?_|(refine Z8 ?_;intro κ hκ)|(refine Z4 ?_;clear hκ κ)|(refine Z2 ?_ ?_<;>intro h ad<;>try exact Xp)|(refine Z5 ?_;refine Xi (hR _) ?_;rintro _ _ ⟨rfl,ab⟩;(have ah:=ab.nobj;have aa:=ab.obj))|refine Z3 ?_|exact⟨⟩|(apply hκ.out;clear hκ κ))
   refine⟨N.length-(k+1),Agm,k+1,?_⟩
   ((repeat' with_reducible refine And.intro ?_ ?_)<;>first|exact Xq|exact (HB)|exact (hK.trans ab)|exact (by rw[aa _ Agm,ao])|exact (by rw[aa _ Agm,an])|exact Xs)
  |true=>
   cases r2 with
   |true=>
    have HA:=HS.out;simp only[Ae1,Ael,Af1,Bool.or_false]at HA;have HB:Agt _:=HA;clear HA HS HI
    repeat' (first|refine Z1 ?_|(refine Z8 ?_;intro κ hκ)|(refine Z4 ?_;clear hκ κ)|(refine Z2 ?_ ?_<;>intro h ad<;>try exact Xp)|(refine Z5 ?_;first|(refine Xi (hR _) ?_;rintro _ _ ⟨rfl,ab⟩;(have ah:=ab.nobj;have aa:=ab.obj))|(refine Xi (ak _) ?_;rintro _ _ ⟨rfl,ae⟩;(have aj:=ae.nobj;have ac:=ae.obj)))|refine Z3 ?_|exact⟨⟩|(apply hκ.out;clear hκ κ))
    refine⟨N.length-(k+1),Agm,k+1,?_⟩
    ((repeat' with_reducible refine And.intro ?_ ?_)<;>first|exact Xq|exact (HB)|exact ((hK.trans ab).trans ae)|exact (by rw[ac _ Agm,aa _ Agm,ao])|exact (by rw[ac _ Agm,aa _ Agm,an])|exact Xs)
   |false=>
    cases r3 with
    |false=>
     have HA:=HS.out;simp only[Ae1,Bool.not_false,Bool.and_false,Bool.or_false]at HA;have HB:Agt _:=HA;clear HA HS HI
     repeat' (first|refine Z1 ?_|(refine Z8 ?_;intro κ hκ)|(refine Z4 ?_;clear hκ κ)|(refine Z2 ?_ ?_<;>intro h ad<;>try exact Xp)|(refine Z5 ?_;first|(refine Xi (hR _) ?_;rintro _ _ ⟨rfl,ab⟩;(have ah:=ab.nobj;have aa:=ab.obj))|(refine Xi (ak _) ?_;rintro _ _ ⟨rfl,ae⟩;(have aj:=ae.nobj;have ac:=ae.obj))|(refine Xi (am _) ?_;rintro _ _ ⟨rfl,ai⟩;(have ap:=ai.nobj;have af:=ai.obj)))|refine Z3 ?_|exact⟨⟩|(apply hκ.out;clear hκ κ))
     refine⟨N.length-(k+1),Agm,k+1,?_⟩
     ((repeat' with_reducible refine And.intro ?_ ?_)<;>first|exact Xq|exact (HB)|exact (((hK.trans ab).trans ae).trans ai)|exact (by rw[af _ Agm,ac _ Agm,aa _ Agm,ao])|exact (by rw[af _ Agm,ac _ Agm,aa _ Agm,an])|exact Xs)
    |true=>
     have HL:Agt (He N l' l=true):=HI.out rfl;clear HS HI
     repeat' (first|refine Z1 ?_|(refine Z8 ?_;intro κ hκ)|(refine Z4 ?_;clear hκ κ)|(refine Z2 ?_ ?_<;>intro h ad<;>try exact Xp)|(refine Z5 ?_;first|(refine Xi (hR _) ?_;rintro _ _ ⟨rfl,ab⟩;(have ah:=ab.nobj;have aa:=ab.obj))|(refine Xi (ak _) ?_;rintro _ _ ⟨rfl,ae⟩;(have aj:=ae.nobj;have ac:=ae.obj))|(refine Xi (am _) ?_;rintro _ _ ⟨rfl,ai⟩;(have ap:=ai.nobj;have af:=ai.obj;have a3:=((hK.trans ab).trans ae).trans ai)))|refine Z3 ?_|exact⟨⟩|(apply hκ.out;clear hκ κ))
     first|exact⟨_,rfl,by rw[HL.out],a3⟩|exact⟨_,rfl,by rw[HL.out]⟩
 ·have az:k=N.length:=Agm;have HL:Agt (He N l' l=false):=by
   have:=hA.out;rw[az]at this;exact this
  clear hA
  repeat' (first|refine Z1 ?_|(refine Z8 ?_;intro κ hκ)|(refine Z4 ?_;clear hκ κ)|(refine Z2 ?_ ?_<;>intro h ad<;>try exact Xp)|refine Z3 ?_|exact⟨⟩|(apply hκ.out;clear hκ κ))
  first|exact⟨_,rfl,by rw[HL.out],hK⟩|exact⟨_,rfl,by rw[HL.out]⟩
structure BkM (N:List Tx)(l:List RItem)(cs:List AV):Prop where
 el:EL (PI N) l cs
 len:l.length<=1000
 nm:N.length<=2000
 msr:∀x∈l,Msr N x
 fits:∀x∈l,x.fits
 pos:∀x∈l,∀a∈Ae x,0<a.terms.length
 va:∀x∈l,∀a∈Ae x,VA a
theorem BkM.bk {N:List Tx}{l:List RItem}{cs:List AV}(h:BkM N l cs)(hl:l.length<=16):Bk N l cs:=⟨h.el,hl,h.fits,fun x hx=>(h.msr x hx).out,h.nm,h.pos⟩
def Cj (N:List Tx)(l l':List RItem):Bool:=Gy l'&&(!He N l' l&&((Cd l').1==0))
structure BkJ (N:List Tx)(l:List RItem)(cs:List AV):Prop where
 pj:EL (PJ N) l cs
 len:l.length<=1000
 bk:Gy l=true->BkM N l cs
theorem BkM.bj {N:List Tx}{l:List RItem}{cs:List AV}(h:BkM N l cs):BkJ N l cs:=⟨Ny h.el fun x hx c hc=>.inl ⟨hc,h.msr x hx⟩,h.len,fun _=>h⟩
theorem G3 (N:List Tx)(l l':List RItem)(cs cs':List AV)(idn idi idi':Nat)(hB:BkM N l cs)(ad:BkJ N l' cs')(d:St):
  ACalls Tryz.prog 177 [B9 N idn l idi cs,sl idi' l'.length cs'] d fun r d'=>(∃x,r=tp [x,sc (.bool (Cj N l l'))]/\(Cj N l l'=true->x=B9 N idn l' idi' cs')/\(∃id1 n1 c1 id2 n2 c2,x=ag [sl id1 n1 c1,sl id2 n2 c2]))/\Keep d d':=by
 have ai:=fun d=>Vo N l' cs' idn idi' ad.pj hB.nm ad.len d;cases ac:Gy l' with
 |false=>
  have af:Cj N l l'=false:=by unfold Cj;rw[ac];rfl
  rw[ac]at ai;rw[af];refine Z9 30 [.cell 4 62,.tmp 5] Tryz.func177 ?_
  repeat' (first|refine Z1 ?_|(refine Z8 ?_;intro κ hκ)|(refine Z4 ?_;clear hκ κ)|(refine Z2 ?_ ?_<;>intro h ah<;>try exact Xp)|(refine Z5 ?_;refine Xi (ai _) ?_;rintro _ _ ⟨rfl,ae⟩;(have ab:=ae.nobj;have aa:=ae.obj;(try simp only[Aa,Ab]at ab aa)))|refine Z3 ?_|exact⟨⟩|(apply hκ.out;clear hκ κ))
  exact⟨_,rfl,⟨_,rfl,(fun h=>by cases h),1,0,[],1,0,[],rfl⟩,Xs⟩
 |true=>
  rw[ac]at ai;have ad:=ad.bk ac;have am:=fun d=>jB N l l' cs cs' idn idn idi idi' hB.el ad.el hB.nm hB.len ad.len (fun x hx=>(ad.msr x hx).body) d;have ap:l'.length<=16:=by
   unfold Gy at ac;simp only[Adv,Agi]at ac;exact ac.1
  cases ak:He N l' l with
  |true=>
   have af:Cj N l l'=false:=by unfold Cj;rw[ac,ak];rfl
   rw[ak]at am;rw[af];refine Z9 30 [.cell 4 62,.tmp 5] Tryz.func177 ?_
   repeat' (first|refine Z1 ?_|(refine Z8 ?_;intro κ hκ)|(refine Z4 ?_;clear hκ κ)|(refine Z2 ?_ ?_<;>intro h ah<;>try exact Xp)|(refine Z5 ?_;first|(refine Xi (ai _) ?_;rintro _ _ ⟨rfl,ae⟩;(have ab:=ae.nobj;have aa:=ae.obj;(try simp only[Aa,Ab]at ab aa)))|(refine Xi (am _) ?_;rintro _ _ ⟨rfl,aj⟩;(have ao:=aj.nobj;have an:=aj.obj)))|refine Z3 ?_|exact⟨⟩|(apply hκ.out;clear hκ κ))
   exact⟨_,rfl,⟨_,rfl,(fun h=>by cases h),1,0,[],1,0,[],rfl⟩,Xs⟩
  |false=>
   have af:Cj N l l'=((Cd l').1==0):=by unfold Cj;rw[ac,ak];simp
   rw[ak]at am;rw[af];have hF:=fun d=>Ue N l' cs' idn idi' (ad.bk ap) ad.va d;generalize Cd l'=wm at hF;obtain⟨w1,w2⟩:=wm;clear af;refine Z9 30 [.cell 4 62,.tmp 5] Tryz.func177 ?_
   repeat' (first|refine Z1 ?_|(refine Z8 ?_;intro κ hκ)|(refine Z4 ?_;clear hκ κ)|(refine Z2 ?_ ?_<;>intro h ah<;>try exact Xp)|(refine Z5 ?_;first|(refine Xi (ai _) ?_;rintro _ _ ⟨rfl,ae⟩;(have ab:=ae.nobj;have aa:=ae.obj;(try simp only[Aa,Ab]at ab aa)))|(refine Xi (am _) ?_;rintro _ _ ⟨rfl,aj⟩;(have ao:=aj.nobj;have an:=aj.obj))|(refine Xi (hF _) ?_;rintro _ _ ⟨rfl,au⟩;(have aw:=au.nobj;have av:=au.obj)))|refine Z3 ?_|exact⟨⟩|(apply hκ.out;clear hκ κ))
   exact⟨_,rfl,⟨_,rfl,fun _=>rfl,_,_,_,_,_,_,rfl⟩,Xs⟩
def rpl {α:Type}(n:Nat)(o:List α)(l:List α):List α:=l.zipIdx.flatMap fun p=>if p.2=n then o else [p.1]
theorem Ta {α:Type}{n:Nat}{o l:List α}{i:Nat}{x:α}(h:l[i]?=some x):rpl n o (l.take (i+1))=rpl n o (l.take i)++if i=n then o else [x]:=by
 have hi:=(List.getElem?_eq_some_iff.1 h).1;unfold rpl;rw[Ad3,h,Afe,List.zipIdx_append,List.flatMap_append,Aef,Aej Agm];simp
theorem Oi {α:Type}{n:Nat}{o:List α}(l:List α):∀i,(rpl n o (l.take i)).length<=i*(o.length+1)
 |0=>by simp[rpl]
 |i+1=>by
  have ih:=Oi l i (n:=n) (o:=o);cases h:l[i]? with
  |none=>
   rw[Ad3,h,Option.toList_none,Ad7];rw[Aec];omega
  |some x=>
   rw[Ta h,Aee,Aec];split<;>simp<;>omega
def Itm (c:List AV):Prop:=∃(o:Bool) (p:Int) (ih n1:Nat) (tc:List AV) (ib n2:Nat) (b:List AV),c=[sc (.bool o),sc (.int .i64 p),sl ih n1 tc,sl ib n2 b]
theorem gB {N:List Tx}{x:RItem}{c:List AV}(h:PI N x c):Itm c:=by
 obtain⟨-,ih,id,b,-,rfl⟩:=h;exact⟨_,_,_,_,_,_,_,_,rfl⟩
theorem K3 {α:Type}{E:α->List AV->Prop}(hz:∀x c,E x c->Itm c)(N:List Tx)(l o:List α)(cs co:List AV)(idn idi ido n:Nat)(hE:EL E l cs)(a0:EL E o co)(hl:l.length<=1000)(ho:o.length<=1000)(d:St):
  ACalls Tryz.prog 178 [ag [sl idn N.length (N.map str),sl idi l.length cs],sl ido o.length co,sc (.int .i64 n)] d fun r d'=>(∃id c',r=sl id (rpl n o l).length c'/\EL E (rpl n o l) c')/\Keep d d':=by
 have h4:∀x c,E x c->c.length=4:=fun x c h=>by obtain⟨_,_,_,_,_,_,_,_,rfl⟩:=hz x c h;rfl
 have bn:=EL.length h4 hE;have bm:=EL.length h4 a0;refine Z9 41 [.tmp 6] Tryz.func178 ?_
 repeat' (first|refine Z1 ?_|(refine Z8 ?_;intro κ hκ)|(refine Z4 ?_;clear hκ κ)|(refine Z2 ?_ ?_<;>intro h ae<;>try exact Xp)|(refine Z6 ?_;intro idn dn ah aj ad aa ac ab)|refine Z3 ?_|exact⟨⟩|(apply hκ.out;clear hκ κ))
 refine Ag (fun m s d'=>∃(i id:Nat) (R:List α) (c:List AV),m=l.length-i/\i<=l.length/\s 1=sl ido o.length co/\s 2=sc (.int .i64 n)/\s 7=sl id R.length c/\s 14=sl idi l.length cs/\s 15=sc (.int .i64 l.length)/\s 16=sc (.int .i64 i)/\Keep d d'/\Own d d' id R.length/\c.length=R.length*4/\R.length<=i*(o.length+1)/\Agt (R=rpl n o (l.take i)/\EL E R c)) l.length
  ⟨0,1,[],[],Agm,Agm,rfl,rfl,Ago,Ago,Ago,rfl,Xs,Own.nil _ _,by simp,by simp,⟨by simp[rpl],rfl⟩⟩ ?_
 rintro m s d' ⟨i,id,R,c,rfl,hi,h1,h2,h7,a5,a4,a3,hK,hO,ak,bg,hA⟩;have ay:=hK.nobj;by_cases bb:i<l.length
 ·have af:=List.getElem?_eq_getElem bb;obtain⟨c1,r,av,hd⟩:=EL.get h4 hE af;generalize l[i]=x at hd af av;obtain⟨x1,x2,x3,x4,x5,x6,x7,x8,rfl⟩:=hz _ _ av;simp only[Aes,Aeu]at hd;have bh:Agt _:=av;clear av;have bo:R.length<=1001000:=Ado bg (Ado (Nat.mul_le_mul (by omega:i<=1000) (by omega:o.length+1<=1001)) (by decide));have am:=Oi (n:=n) (o:=o) l (i+1);have ai:=Ta (n:=n) (o:=o) af;rw[<-hA.out.1]at ai;by_cases an:i=n
  ·rw[if_pos an]at ai;have ba:((i:Int) !=(n:Int))=false:=by simp[an]
   have a6:Agt _:=ai;have a7:Agt (EL E R c):=hA.out.2;rw[ai,Aee]at am;clear ai af hA an
   repeat' (first|refine Z1 ?_|(refine Z8 ?_;intro κ hκ)|(refine Z4 ?_;clear hκ κ)|(refine Z2 ?_ ?_<;>intro h ae<;>try exact Xp)|(refine Z6 ?_;intro idn dn ah aj ad aa ac ab)|refine Z3 ?_|exact⟨⟩|(apply hκ.out;clear hκ κ))
   refine Ag (fun m s d2=>∃(j id:Nat) (c':List AV),m=o.length-j/\j<=o.length/\s 1=sl ido o.length co/\s 2=sc (.int .i64 n)/\s 7=sl id (R.length+j) c'/\s 14=sl idi l.length cs/\s 15=sc (.int .i64 l.length)/\s 16=sc (.int .i64 i)/\s 28=sl ido o.length co/\s 29=sc (.int .i64 o.length)/\s 30=sc (.int .i64 j)/\Keep d d2/\Own d d2 id (R.length+j)/\c'.length=(R.length+j)*4/\Agt (EL E (R++o.take j) c')) o.length
    ⟨0,id,c,Agm,Agm,Agn,Agn,Agn,Agn,Agn,Agn,Agn,Agn,Ago,Xs,(by simpa using Own.put (Own.new hO _) _ _),by simpa using ak,by simpa using a7⟩ ?_
   clear h1 h2 h7 a5 a4 a3 hK hO ay ak a7;rintro m s d2 ⟨j,id,c',rfl,hj,h1,h2,h7,a5,a4,a3,bu,br,bq,hK,hO,ak,ao⟩;have ay:=hK.nobj;by_cases ax:j<o.length
   ·have ap:=List.getElem?_eq_getElem ax;obtain⟨c2,rj,au,az⟩:=EL.get h4 a0 ap;generalize o[j]=y at az ap au;obtain⟨y1,y2,y3,y4,y5,y6,y7,y8,rfl⟩:=hz _ _ au;simp only[Aes,Aeu]at az;have bi:Agt (EL E (R++o.take (j+1)) (c'++[sc (.bool y1),sc (.int .i64 y2),sl y3 y4 y5,sl y6 y7 y8])):=by
     rw[Agt,Ad3,ap,Afe,<-Aeg];exact EL.append ao.out (EL.single au)
    clear ap ao au
    repeat' (first|refine Z1 ?_|(refine Z8 ?_;intro κ hκ)|(refine Z4 ?_;clear hκ κ)|(refine Z2 ?_ ?_<;>intro h ae<;>try exact Xp)|(refine Z6 ?_;intro idn dn ah aj ad aa ac ab)|refine Z3 ?_|exact⟨⟩|(apply hκ.out;clear hκ κ))
    refine Bm (by first|exact Kv) ((hK.new _).put hK.nobj _) (Own.put (Own.new hO _) _ _) (by decide) (by rfl) (ak) (by rfl) (by rfl) (by decide) Agm Agm ?_;intro idn dn ah aj ad aa ac ab;simp only[Ab,Aa]at aa;refine Z3 ?_
    repeat' (first|refine Z1 ?_|(refine Z8 ?_;intro κ hκ)|(refine Z4 ?_;clear hκ κ)|(refine Z2 ?_ ?_<;>intro h ae<;>try exact Xp)|(refine Z6 ?_;intro idn dn ah aj ad aa ac ab)|refine Z3 ?_|exact⟨⟩|(apply hκ.out;clear hκ κ))
    refine⟨o.length-(j+1),Agm,j+1,idn,c'++[sc (.bool y1),sc (.int .i64 y2),sl y3 y4 y5,sl y6 y7 y8],?_⟩
    ((repeat' with_reducible refine And.intro ?_ ?_)<;>first|exact Xq|exact (bi)|exact (ah)|exact ((by simp[ak];omega))|exact Xs)
   ·have bd:j=o.length:=Agm;subst bd;rw[Adz]at ao;have HA:Agt (R++o=rpl n o (l.take (i+1))/\EL E (R++o) c'):=⟨a6.out.symm,ao.out⟩;clear ao a6;have bf:c'.length=(R++o).length*4:=by rw[ak,Aee]
    have bp:Own d d2 id (R++o).length:=by rw[Aee];exact hO
    rw[<-Aee]at h7;have a9:(R++o).length<=(i+1)*(o.length+1):=by rw[Aee];exact am
    repeat' (first|refine Z1 ?_|(refine Z8 ?_;intro κ hκ)|(refine Z4 ?_;clear hκ κ)|(refine Z2 ?_ ?_<;>intro h ae<;>try exact Xp)|(refine Z6 ?_;intro idn dn ah aj ad aa ac ab)|refine Z3 ?_|exact⟨⟩|(apply hκ.out;clear hκ κ))
    refine⟨l.length-(i+1),Agm,i+1,id,R++o,c',?_⟩
    ((repeat' with_reducible refine And.intro ?_ ?_)<;>first|exact Xq|exact (HA)|exact Xs)
  ·rw[if_neg an]at ai;have ba:((i:Int) !=(n:Int))=true:=by simpa using (by omega:¬(i:Int)=n)
   have HA:Agt (R++[x]=rpl n o (l.take (i+1))/\EL E (R++[x]) (c++[sc (.bool x1),sc (.int .i64 x2),sl x3 x4 x5,sl x6 x7 x8])):=⟨ai.symm,EL.append hA.out.2 (EL.single bh.out)⟩;rw[ai]at am;clear ai af hA an
   repeat' (first|refine Z1 ?_|(refine Z8 ?_;intro κ hκ)|(refine Z4 ?_;clear hκ κ)|(refine Z2 ?_ ?_<;>intro h ae<;>try exact Xp)|(refine Z6 ?_;intro idn dn ah aj ad aa ac ab)|refine Z3 ?_|exact⟨⟩|(apply hκ.out;clear hκ κ))
   refine Bm (by first|exact Kv) ((hK.new _).put hK.nobj _) (Own.put (Own.new hO _) _ _) (by decide) (by rfl) (ak) (by rfl) (by rfl) (by decide) Agm Agm ?_;intro idn dn ah aj ad aa ac ab;simp only[Ab,Aa]at aa;refine Z3 ?_
   repeat' (first|refine Z1 ?_|(refine Z8 ?_;intro κ hκ)|(refine Z4 ?_;clear hκ κ)|(refine Z2 ?_ ?_<;>intro h ae<;>try exact Xp)|(refine Z6 ?_;intro idn dn ah aj ad aa ac ab)|refine Z3 ?_|exact⟨⟩|(apply hκ.out;clear hκ κ))
   refine⟨l.length-(i+1),Agm,i+1,idn,R++[x],c++[sc (.bool x1),sc (.int .i64 x2),sl x3 x4 x5,sl x6 x7 x8],?_⟩
   ((repeat' with_reducible refine And.intro ?_ ?_)<;>first|exact Xq|exact (HA)|exact ((by simpa using ah))|exact ((by simp[ak];omega))|exact Xs)
 ·have be:i=l.length:=Agm;subst be;rw[Adz]at hA;have aw:Agt (rpl n o l=R):=hA.out.1.symm;have a8:Agt (EL E R c):=hA.out.2;clear hA
  repeat' (first|refine Z1 ?_|(refine Z8 ?_;intro κ hκ)|(refine Z4 ?_;clear hκ κ)|(refine Z2 ?_ ?_<;>intro h ae<;>try exact Xp)|(refine Z6 ?_;intro idn dn ah aj ad aa ac ab)|refine Z3 ?_|exact⟨⟩|(apply hκ.out;clear hκ κ))
  first|exact⟨_,rfl,⟨id,c,by rw[aw.out],by rw[aw.out];exact a8.out⟩,hK⟩|exact⟨_,rfl,id,c,by rw[aw.out],by rw[aw.out];exact a8.out⟩
theorem Tf (N:List Tx)(l o:List RItem)(cs co:List AV)(idn idi ido n:Nat)(hE:EL (PI N) l cs)(aa:EL (PI N) o co)(hl:l.length<=1000)(ho:o.length<=1000)(d:St):
  ACalls Tryz.prog 178 [B9 N idn l idi cs,sl ido o.length co,sc (.int .i64 n)] d fun r d'=>(∃id c',r=sl id (rpl n o l).length c'/\EL (PI N) (rpl n o l) c')/\Keep d d':=
 K3 (fun _ _ h=>gB h) N l o cs co idn idi ido n hE aa hl ho d
structure GL (N:List Tx)(l:List RItem):Prop where
 len:l.length<=16
 nm:N.length<=2000
 msr:∀x∈l,Msr N x
 fits:∀x∈l,x.fits
 pos:∀x∈l,∀a∈Ae x,0<a.terms.length
 va:∀x∈l,∀a∈Ae x,VA a
 ar:∀x∈l,∀a∈x.body,∀b∈x.body,a.pred=b.pred->a.terms.length=b.terms.length
theorem GL.bkm {N:List Tx}{l:List RItem}{cs:List AV}(h:GL N l)(hE:EL (PI N) l cs):BkM N l cs:=⟨hE,by have:=h.len;omega,h.nm,h.msr,h.fits,h.pos,h.va⟩
theorem Dm {α:Type}{n:Nat}{o l:List α}{x:α}(h:x∈rpl n o l):x∈l\/x∈o:=by
 unfold rpl at h;obtain⟨p,hp,hx⟩:=Aev.1 h;split at hx
 ·exact .inr hx
 ·simp at hx;subst hx;exact .inl (Af2 hp)
theorem xT {α:Type}{n:Nat}{y:α}(l:List α):(rpl n [y] l).length=l.length:=by
 unfold rpl;rw[List.length_flatMap];have key:∀(l:List α) (k:Nat),((l.zipIdx k).map fun p=>(if p.2=n then [y]else [p.1]).length).sum=l.length:=by
  intro l;induction l with
  |nil=>intro k;simp
  |cons x l ih=>
   intro k;have:=ih (k+1);simp only[Ad0,Ad9,List.sum_cons,Aen];rw[this];split<;>simp<;>omega
 exact key l 0
theorem Oh {α:Type}{n:Nat}(l:List α):(rpl n [] l).length<=l.length:=by
 unfold rpl;rw[List.length_flatMap];have key:∀(l:List α) (k:Nat),((l.zipIdx k).map fun p=>(if p.2=n then []else [p.1]).length).sum<=l.length:=by
  intro l;induction l with
  |nil=>intro k;simp
  |cons x l ih=>
   intro k;have:=ih (k+1);simp only[Ad0,Ad9,List.sum_cons,Aen];split<;>simp<;>omega
 exact key l 0
theorem Ks {x:RItem}{k:Nat}(ho:x.out=false){a:RAtom}(h:a∈Ae (D9 x k)):a∈Ae x:=by
 have h':a=x.head\/a∈x.body.eraseIdx k:=by simpa[Ae,D9]using h
 rcases h' with rfl|h'
 ·exact Ak (.inl ⟨ho,rfl⟩)
 ·exact Ak (.inr (Afj h'))
theorem GL.wo {N:List Tx}{l:List RItem}(h:GL N l){i k:Nat}{x:RItem}(hx:l[i]?=some x)(ho:x.out=false):GL N (rpl i [D9 x k] l):=by
 have aa:=Adt hx;have hm:∀y∈rpl i [D9 x k] l,y∈l\/y=D9 x k:=fun y hy=>by
  rcases Dm hy with h|h
  ·exact .inl h
  ·exact .inr (by simpa using h)
 have m:=h.msr x aa;refine⟨by rw[xT];exact h.len,h.nm,fun y hy=>?_,fun y hy=>?_,fun y hy=>?_,fun y hy=>?_,fun y hy=>?_⟩
 ·rcases hm y hy with hy|rfl
  ·exact h.msr y hy
  ·exact⟨(fun e=>by cases e),Ado (Afm _ _) m.body,m.mem,m.hpl,fun a ha=>m.at_ a (Ks ho ha)⟩
 ·rcases hm y hy with hy|rfl
  ·exact h.fits y hy
  ·exact R4 (h.fits x aa)
 ·rcases hm y hy with hy|rfl
  ·exact h.pos y hy
  ·exact fun a ha=>h.pos x aa a (Ks ho ha)
 ·rcases hm y hy with hy|rfl
  ·exact h.va y hy
  ·exact fun a ha=>h.va x aa a (Ks ho ha)
 ·rcases hm y hy with hy|rfl
  ·exact h.ar y hy
  ·exact fun a ha b hb=>h.ar x aa a (Afj ha) b (Afj hb)
def cI (N:List Tx)(x:RItem)(k:Nat):Option Sw:=(Cf Kd (x.head.terms.map Am) (x.head.terms.map Am)).bind fun s0=>Hv N x k s0
theorem Y5 {N:List Tx}{l:List RItem}(h:GL N l){x:RItem}(hx:x∈l)(ho:x.out=false)(c:List AV)(k:Nat)(hc:PI N x c)(d:St):ACalls Tryz.prog 94 [ag c,sc (.int .i64 k)] d fun r d'=>r=N7 (cI N x k)/\Keep d d':=by
 have m:=h.msr x hx;have hh:=m.at_ x.head (Ak (.inl ⟨ho,rfl⟩));obtain⟨s0,aa,-⟩:=Vx tellU x.head.terms hh.2.2;have:=dA N x c k s0 hc (h.fits x hx) aa (fun t ht=>(hh.2.2 t ht).varOk) (fun a ha=>⟨(h.fits x hx).2.2 a ha,fun t ht=>((m.at_ a (Ak (.inr ha))).2.2 t ht).varOk,fun b hb=>h.ar x hx a ha b (Afj hb)⟩) d;rw[cI,aa];exact this
def fY (x:AV):Prop:=∃id1 n1 c1 id2 n2 c2,x=ag [sl id1 n1 c1,sl id2 n2 c2]
def Ot (N:List Tx)(l:List RItem)(i k:Nat):Bool:=match l[i]? with
 |some x=>(cI N x k).isSome&&Cj N l (rpl i [D9 x k] l)
 |none=>false
def pC (N:List Tx)(l:List RItem)(n:Nat):Prop:=∀i y,i<n->l[i]?=some y->∀k,k<y.body.length->Ot N l i k=false
def chA (N:List Tx)(l:List RItem)(idn:Nat)(x:AV)(b:Bool):Prop:=
 (b=false/\pC N l l.length)\/(b=true/\∃i k y,l[i]?=some y/\y.out=false/\k<y.body.length/\Ot N l i k=true/\pC N l i/\(∀k',k'<k->Ot N l i k'=false)/\∃id c',x=B9 N idn (rpl i [D9 y k] l) id c'/\EL (PI N) (rpl i [D9 y k] l) c')
theorem N5 (N:List Tx)(l:List RItem)(cs:List AV)(idn idi:Nat)(hG:GL N l)(hE:EL (PI N) l cs)(d:St):
  ACalls Tryz.prog 125 [B9 N idn l idi cs] d fun r d'=>(∃x b,r=tp [x,sc (.bool b)]/\chA N l idn x b/\fY x)/\Keep d d':=by
 have cd:=EL.length D2 hE;have b0:=hG.len;have b9:=Cr;have b8:=Oe;have b7:∀s,List.take 78 (Db s)=Db s:=fun s=>Aex (by rw[Cr];exact Adn _);have ca:∀s s',lsp (Db s) 0 (Db s')=Db s':=fun s s'=>L4 (by rw[Cr,Cr]);have cc:∀s,(Db s).all flat=true:=fun s=>by
  rw[Ads];intro x hx;obtain⟨n,-,rfl⟩:=Aey.1 hx;unfold cE;split
  ·rfl
  ·split<;>rfl
 refine Z9 53 [.cell 2 62,.tmp 3] Tryz.func125 ?_
 repeat' (first|refine Z1 ?_|(refine Z8 ?_;intro κ hκ)|(refine Z4 ?_;clear hκ κ)|(refine Z2 ?_ ?_<;>intro h aa<;>try exact Xp)|refine Z3 ?_|exact⟨⟩|(apply hκ.out;clear hκ κ))
 refine Ag (fun m s d'=>∃(i:Nat),m=l.length-i/\i<=l.length/\s 1=ptr d.nobj 0/\s 2=ptr (d.nobj+1) 0/\s 13=sl idi l.length cs/\s 14=sc (.int .i64 l.length)/\s 15=sc (.int .i64 i)/\Keep d d'/\d.nobj+1<d'.nobj/\d'.obj d.nobj=[sl idn N.length (N.map str),sl idi l.length cs]/\d'.obj (d.nobj+1)=[nilS,nilS]/\Agt (pC N l i)) l.length
  ⟨0,Agm,Agm,Ago,Ago,Ago,Ago,rfl,Xs,Agq,by rw[Af Agq,Ap],by first|exact Ap|simp[Ap],fun i y h=>Agm⟩ ?_
 rintro m s d' ⟨i,rfl,hi,h1,h2,bq,bp,bo,hK,hno,ay,ax,hA⟩;have b6:=hK.nobj;by_cases bm:i<l.length
 ·have ac:=List.getElem?_eq_getElem bm;have az:=Afa bm;have bn:=hG.fits l[i] az;have bi:=hG.msr l[i] az;obtain⟨a6,ih,idb,b,r,a0,hd⟩:=G8 hE ac;generalize l[i]=x at hd ac a6 a0 az bn bi;have b4:=bn.1;have ce:=EL.length Dp a0;have HG:Agt (l[i]?=some x):=ac;clear ac
  repeat' (first|refine Z1 ?_|(refine Z8 ?_;intro κ hκ)|(refine Z4 ?_;clear hκ κ)|(refine Z2 ?_ ?_<;>intro h aa<;>try exact Xp)|refine Z3 ?_|exact⟨⟩|(apply hκ.out;clear hκ κ))
  refine Ag (fun m s d2=>∃(k:Nat),m=x.body.length-k/\k<=x.body.length/\s 1=ptr d.nobj 0/\s 2=ptr (d.nobj+1) 0/\s 4=sc (.int .i64 i)/\s 5=ptr d'.nobj 0/\s 13=sl idi l.length cs/\s 14=sc (.int .i64 l.length)/\s 15=sc (.int .i64 i)/\s 21=sl idb x.body.length b/\s 22=sc (.int .i64 x.body.length)/\s 23=sc (.int .i64 k)/\Keep d d2/\d'.nobj<d2.nobj/\d2.obj d.nobj=[sl idn N.length (N.map str),sl idi l.length cs]/\d2.obj (d.nobj+1)=[nilS,nilS]/\d2.obj d'.nobj=[sc (.bool x.out),sc (.int .i64 (N.idxOf x.head.pred:Nat)),sl ih x.head.terms.length (Ay x.head.terms),sl idb x.body.length b]/\Agt (∀k',k'<k->Ot N l i k'=false)) x.body.length
   ⟨0,Agm,Agm,Agn,Agn,Agn,Agn,Agn,Agn,Agn,Ago,Ago,Ago,Xs,Ags,by rw[Ai Agm,Af Agm,ay],by rw[Ai Agm,Af Agm,ax],by rw[Aj],fun k' h=>Agm⟩ ?_
  clear h1 h2 bq bp bo hK ay ax;rintro m s d2 ⟨k,rfl,hk,h1,h2,h4,h5,bq,bp,bo,ch,cg,cf,hK,bz,ay,ax,bg,hN⟩;have br:=hK.nobj;by_cases am:k<x.body.length
  ·have hxo:x.out=false:=by
    cases h:x.out with
    |false=>rfl
    |true=>rw[bi.out h]at am;cases am
   have af:=fun d=>Y5 hG az hxo _ k (PI.of (ih:=ih) (id:=idb) a6 a0) d;simp only[hxo]at af bg;have ae:Ot N l i k=((cI N x k).isSome&&Cj N l (rpl i [D9 x k] l)):=by unfold Ot;rw[HG.out]
   cases hs:cI N x k with
   |none=>
    rw[hs]at af ae;simp only[N7]at af;have HN:Agt (∀k',k'<k+1->Ot N l i k'=false):=fun k' a8=>by
     rcases Adq k' k with h|h
     ·exact hN.out k' h
     ·rw[show k'=k by omega,ae];rfl
    clear hN ae hs
    repeat' (first|refine Z1 ?_|(refine Z8 ?_;intro κ hκ)|(refine Z4 ?_;clear hκ κ)|(refine Z2 ?_ ?_<;>intro h aa<;>try exact Xp)|(refine Z5 ?_;refine Xi (af _) ?_;rintro _ _ ⟨rfl,ad⟩;(have ao:=ad.nobj;have ab:=ad.obj))|refine Z3 ?_|exact⟨⟩|(apply hκ.out;clear hκ κ))
    rename_i d3;have b5:Keep d ((d3.new (Db Kd)).put d3.nobj (Db Kd)):=((hK.trans ad).new _).put Agm _;have hz0:((d3.new (Db Kd)).put d3.nobj (Db Kd)).obj d.nobj=[sl idn N.length (N.map str),sl idi l.length cs]:=by rw[Ai Agm,Af Agm,ab _ Agm,ay]
    have bv:((d3.new (Db Kd)).put d3.nobj (Db Kd)).obj (d.nobj+1)=[nilS,nilS]:=by rw[Ai Agm,Af Agm,ab _ Agm,ax]
    have bu:((d3.new (Db Kd)).put d3.nobj (Db Kd)).obj d'.nobj=[sc (.bool x.out),sc (.int .i64 (N.idxOf x.head.pred:Nat)),sl ih x.head.terms.length (Ay x.head.terms),sl idb x.body.length b]:=by rw[Ai Agm,Af Agm,ab _ Agm,bg,hxo]
    refine⟨x.body.length-(k+1),Agm,k+1,?_⟩
    ((repeat' with_reducible refine And.intro ?_ ?_)<;>first|exact Xq|exact (HN)|exact (b5)|exact (hz0)|exact (bv)|exact (bu)|exact Xs)
   |some sw=>
    rw[hs]at af ae;simp only[N7]at af;simp only[Option.isSome_some,Ae1]at ae;have bb:=fun d=>Mp N x _ k (PI.of (ih:=ih) (id:=idb) a6 a0) b4 d;simp only[hxo]at bb;have bf:=hG.wo (k:=k) HG.out hxo;have bd:=fun co ido (b3:EL (PI N) [D9 x k] co) d=>Tf N l [D9 x k] cs co idn idi ido i hE b3 Agm (by simp) d;have aw:=fun c' id' (a9:EL (PI N) (rpl i [D9 x k] l) c') d=>G3 N l (rpl i [D9 x k] l) cs c' idn idi id' (hG.bkm hE) (bf.bkm a9).bj d;simp only[Ae4]at bd;rw[<-ae]at aw;cases an:Ot N l i k with
    |true=>
     rw[an]at aw;have HC:Agt (∀id c' x',x'=B9 N idn (rpl i [D9 x k] l) id c'->EL (PI N) (rpl i [D9 x k] l) c'->chA N l idn x' true):=fun id c' x' bw a9=>.inr ⟨rfl,i,k,x,HG.out,hxo,am,an,hA.out,hN.out,id,c',bw,a9⟩;clear hN ae hs bf an hA HG
     repeat' (first|refine Z1 ?_|(refine Z8 ?_;intro κ hκ)|(refine Z4 ?_;clear hκ κ)|(refine Z2 ?_ ?_<;>intro h aa<;>try exact Xp)|(refine Z5 ?_;first|(refine Xi (af _) ?_;rintro _ _ ⟨rfl,ad⟩;(have ao:=ad.nobj;have ab:=ad.obj))|(refine Xi (bb _) ?_;rintro _ _ ⟨c2,rfl,be,av⟩;(have ak:=av.nobj;have ai:=av.obj;(try simp only[Ab,Aa]at ak ai);obtain⟨a7,ih2,id2,b2,ba,rfl⟩:=be))|(refine Xi (bd _ _ (EL.single (PI.of (ih:=ih2) (id:=id2) a7 ba)) _) ?_;rintro _ _ ⟨⟨id6,c6,rfl,a3⟩,au⟩;(have aj:=au.nobj;have ah:=au.obj;(try simp only[Ab,Aa,Ah]at aj ah)))|(refine Xi (aw c6 id6 a3 _) ?_;rintro _ _ ⟨⟨x7,rfl,bh,⟨id71,n71,c71,id72,n72,c72,rfl⟩⟩,ap⟩;(have a5:=ap.nobj;have a4:=ap.obj)))|refine Z3 ?_|exact⟨⟩|(apply hκ.out;clear hκ κ))
     exact⟨_,rfl,⟨_,true,rfl,HC.out _ _ _ (bh rfl) a3,_,_,_,_,_,_,rfl⟩,Xs⟩
    |false=>
     rw[an]at aw;have HN:Agt (∀k',k'<k+1->Ot N l i k'=false):=fun k' a8=>by
      rcases Adq k' k with h|h
      ·exact hN.out k' h
      ·rw[show k'=k by omega,an]
     clear hN ae hs bf an
     repeat' (first|refine Z1 ?_|(refine Z8 ?_;intro κ hκ)|(refine Z4 ?_;clear hκ κ)|(refine Z2 ?_ ?_<;>intro h aa<;>try exact Xp)|(refine Z5 ?_;first|(refine Xi (af _) ?_;rintro _ _ ⟨rfl,ad⟩;(have ao:=ad.nobj;have ab:=ad.obj))|(refine Xi (bb _) ?_;rintro _ _ ⟨c2,rfl,be,av⟩;(have ak:=av.nobj;have ai:=av.obj;(try simp only[Ab,Aa]at ak ai);obtain⟨a7,ih2,id2,b2,ba,rfl⟩:=be))|(refine Xi (bd _ _ (EL.single (PI.of (ih:=ih2) (id:=id2) a7 ba)) _) ?_;rintro _ _ ⟨⟨id6,c6,rfl,a3⟩,au⟩;(have aj:=au.nobj;have ah:=au.obj;(try simp only[Ab,Aa,Ah]at aj ah)))|(refine Xi (aw c6 id6 a3 _) ?_;rintro _ _ ⟨⟨x7,rfl,bh,⟨id71,n71,c71,id72,n72,c72,rfl⟩⟩,ap⟩;(have a5:=ap.nobj;have a4:=ap.obj)))|refine Z3 ?_|exact⟨⟩|(apply hκ.out;clear hκ κ))
     refine⟨x.body.length-(k+1),Agm,k+1,?_⟩
     ((repeat' with_reducible refine And.intro ?_ ?_)<;>first|exact Xq|exact (HN)|exact Xs)
  ·have cb:k=x.body.length:=Agm;have HA:Agt (pC N l (i+1)):=fun j y hj hy k' a8=>by
    rcases Adq j i with h|h
    ·exact hA.out j y h hy k' a8
    ·have:j=i:=Agm;subst this;rw[HG.out]at hy;cases hy;exact hN.out k' Agm
   clear hN HG hA
   repeat' (first|refine Z1 ?_|(refine Z8 ?_;intro κ hκ)|(refine Z4 ?_;clear hκ κ)|(refine Z2 ?_ ?_<;>intro h aa<;>try exact Xp)|refine Z3 ?_|exact⟨⟩|(apply hκ.out;clear hκ κ))
   refine⟨l.length-(i+1),Agm,i+1,?_⟩
   ((repeat' with_reducible refine And.intro ?_ ?_)<;>first|exact Xq|exact (HA)|exact Xs)
 ·have b1:i=l.length:=Agm;subst b1
  repeat' (first|refine Z1 ?_|(refine Z8 ?_;intro κ hκ)|(refine Z4 ?_;clear hκ κ)|(refine Z2 ?_ ?_<;>intro h aa<;>try exact Xp)|refine Z3 ?_|exact⟨⟩|(apply hκ.out;clear hκ κ))
  exact⟨_,rfl,⟨_,false,rfl,.inl ⟨rfl,hA.out⟩,_,_,_,_,_,_,rfl⟩,Xs⟩
end Go.Proofs.YtmoeoppbmhfbpabGreatDoorG
