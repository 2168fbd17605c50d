import Derived.Test.YtmoeoppbmhfbpabGreatDoorJOptA
set_option maxHeartbeats 32000000
set_option maxRecDepth 100000
set_option linter.all false
namespace Go.Proofs.YtmoeoppbmhfbpabGreatDoorJ
open Go.Abs
def Ni (N:List Tx)(l' l:List RItem):Bool:=(List.range N.length).any fun k=>(Cb N l k&&!Cb N l' k)&&Gy N l' k
theorem R5 (f:Nat->Bool)(k:Nat):(List.range (k+1)).any f=((List.range k).any f||f k):=by
 rw[List.range_succ,Adn];simp
theorem gH (N:List Tx)(l l':List RItem)(cs cs':List AV)(idn idn' idi idi':Nat)(hE:EL (PI N) l cs)(ax:EL (PI N) l' cs')(hN:N.length<=2000)(hl:l.length<=1000)(av:l'.length<=1000)(a0:∀x∈l',x.body.length<=1000)(d:St):
  ACalls Tryz.prog 208 [Bs N idn' l' idi' cs',Bs N idn l idi cs] d fun r d'=>r=sc (.bool (Ni N l' l))/\Keep d d':=by
 have hR:=fun k d=>Km N l cs idn idi k hE hl d;have ak:=fun k d=>Km N l' cs' idn' idi' k ax av d;have am:=fun k d=>bF N l' cs' idn' idi' k ax av a0 d;refine Z9 27 [.tmp 4] Tryz.func208 ?_
 repeat' (first|refine Z1 ?_|(refine Z8 ?_;intro κ hκ)|(refine Z4 ?_;clear hκ κ)|(refine Z2 ?_ ?_<;>intro h ad<;>try exact Xp)|refine Z3 ?_|exact⟨⟩|(apply hκ.out;clear hκ κ))
 refine Ad (fun m s d'=>∃(k:Nat),m=N.length-k/\k<=N.length/\s 2=ptr d.nobj 0/\s 3=ptr (d.nobj+1) 0/\s 7=sl idn' N.length (N.map str)/\s 8=sc (.int .i64 N.length)/\s 9=sc (.int .i64 k)/\Keep d d'/\d.nobj+1<d'.nobj/\d'.obj d.nobj=[sl idn' N.length (N.map str),sl idi' l'.length cs']/\d'.obj (d.nobj+1)=[sl idn N.length (N.map str),sl idi l.length cs]/\Aec ((List.range k).any (fun k=>(Cb N l k&&!Cb N l' k)&&Gy N l' k)=false)) N.length
  ⟨0,Ad6,Ad6,Ad8,Ad8,Ad8,Ad8,rfl,Xs,Aea,by rw[Ae Aea,Ao],Ao,by simp[Aec]⟩ ?_
 rintro m s d' ⟨k,rfl,hk,h2,h3,h7,h8,h9,hK,a5,ao,an,hA⟩;have a4:=hK.nobj;by_cases ay:k<N.length
 ·have hR:=hR k;have ak:=ak k;have am:=am k;have au:=R5 (fun k=>(Cb N l k&&!Cb N l' k)&&Gy N l' k) k;rw[hA.out]at au;have aw:(Cb N l k&&!Cb N l' k&&Gy N l' k)=true->Ni N l' l=true:=fun h=>Acg.2 ⟨k,by simpa using ay,h⟩;generalize Cb N l k=r1 at*
  generalize Cb N l' k=r2 at*
  generalize Gy N l' k=r3 at*
  have HS:Aec _:=au;have HI:Aec _:=aw;clear au aw hA;cases r1 with
  |false=>
   have HA:=HS.out;simp only[Bool.false_and,Adq]at HA;have HB:Aec _:=HA;clear HA HS HI
   repeat' (first|refine Z1 ?_|(refine Z8 ?_;intro κ hκ)|(refine Z4 ?_;clear hκ κ)|(refine Z2 ?_ ?_<;>intro h ad<;>try exact Xp)|(refine Z5 ?_;refine Xi (hR _) ?_;rintro _ _ ⟨rfl,ab⟩;(have ah:=ab.nobj;have aa:=ab.obj))|refine Z3 ?_|exact⟨⟩|(apply hκ.out;clear hκ κ))
   refine⟨N.length-(k+1),Ad6,k+1,?_⟩
   ((repeat' with_reducible refine And.intro ?_ ?_)<;>first|exact Xq|exact (HB)|exact (hK.trans ab)|exact (by rw[aa _ Ad6,ao])|exact (by rw[aa _ Ad6,an])|exact Xs)
  |true=>
   cases r2 with
   |true=>
    have HA:=HS.out;simp only[Acv,Acd,Bool.false_and,Adq]at HA;have HB:Aec _:=HA;clear HA HS HI
    repeat' (first|refine Z1 ?_|(refine Z8 ?_;intro κ hκ)|(refine Z4 ?_;clear hκ κ)|(refine Z2 ?_ ?_<;>intro h ad<;>try exact Xp)|(refine Z5 ?_;first|(refine Xi (hR _) ?_;rintro _ _ ⟨rfl,ab⟩;(have ah:=ab.nobj;have aa:=ab.obj))|(refine Xi (ak _) ?_;rintro _ _ ⟨rfl,ae⟩;(have aj:=ae.nobj;have ac:=ae.obj)))|refine Z3 ?_|exact⟨⟩|(apply hκ.out;clear hκ κ))
    refine⟨N.length-(k+1),Ad6,k+1,?_⟩
    ((repeat' with_reducible refine And.intro ?_ ?_)<;>first|exact Xq|exact (HB)|exact ((hK.trans ab).trans ae)|exact (by rw[ac _ Ad6,aa _ Ad6,ao])|exact (by rw[ac _ Ad6,aa _ Ad6,an])|exact Xs)
   |false=>
    cases r3 with
    |false=>
     have HA:=HS.out;simp only[Acv,Bool.not_false,Bool.and_false,Adq]at HA;have HB:Aec _:=HA;clear HA HS HI
     repeat' (first|refine Z1 ?_|(refine Z8 ?_;intro κ hκ)|(refine Z4 ?_;clear hκ κ)|(refine Z2 ?_ ?_<;>intro h ad<;>try exact Xp)|(refine Z5 ?_;first|(refine Xi (hR _) ?_;rintro _ _ ⟨rfl,ab⟩;(have ah:=ab.nobj;have aa:=ab.obj))|(refine Xi (ak _) ?_;rintro _ _ ⟨rfl,ae⟩;(have aj:=ae.nobj;have ac:=ae.obj))|(refine Xi (am _) ?_;rintro _ _ ⟨rfl,ai⟩;(have ap:=ai.nobj;have af:=ai.obj)))|refine Z3 ?_|exact⟨⟩|(apply hκ.out;clear hκ κ))
     refine⟨N.length-(k+1),Ad6,k+1,?_⟩
     ((repeat' with_reducible refine And.intro ?_ ?_)<;>first|exact Xq|exact (HB)|exact (((hK.trans ab).trans ae).trans ai)|exact (by rw[af _ Ad6,ac _ Ad6,aa _ Ad6,ao])|exact (by rw[af _ Ad6,ac _ Ad6,aa _ Ad6,an])|exact Xs)
    |true=>
     have HL:Aec (Ni N l' l=true):=HI.out rfl;clear HS HI
     repeat' (first|refine Z1 ?_|(refine Z8 ?_;intro κ hκ)|(refine Z4 ?_;clear hκ κ)|(refine Z2 ?_ ?_<;>intro h ad<;>try exact Xp)|(refine Z5 ?_;first|(refine Xi (hR _) ?_;rintro _ _ ⟨rfl,ab⟩;(have ah:=ab.nobj;have aa:=ab.obj))|(refine Xi (ak _) ?_;rintro _ _ ⟨rfl,ae⟩;(have aj:=ae.nobj;have ac:=ae.obj))|(refine Xi (am _) ?_;rintro _ _ ⟨rfl,ai⟩;(have ap:=ai.nobj;have af:=ai.obj;have a3:=((hK.trans ab).trans ae).trans ai)))|refine Z3 ?_|exact⟨⟩|(apply hκ.out;clear hκ κ))
     first|exact⟨_,rfl,by rw[HL.out],a3⟩|exact⟨_,rfl,by rw[HL.out]⟩
 ·have az:k=N.length:=Ad6;have HL:Aec (Ni N l' l=false):=by
   have:=hA.out;rw[az]at this;exact this
  clear hA
  repeat' (first|refine Z1 ?_|(refine Z8 ?_;intro κ hκ)|(refine Z4 ?_;clear hκ κ)|(refine Z2 ?_ ?_<;>intro h ad<;>try exact Xp)|refine Z3 ?_|exact⟨⟩|(apply hκ.out;clear hκ κ))
  first|exact⟨_,rfl,by rw[HL.out],hK⟩|exact⟨_,rfl,by rw[HL.out]⟩
structure BkM (N:List Tx)(l:List RItem)(cs:List AV):Prop where
 el:EL (PI N) l cs
 len:l.length<=1000
 nm:N.length<=2000
 msr:∀x∈l,xS N x
 fits:∀x∈l,x.fits
 pos:∀x∈l,∀a∈Af x,0<a.terms.length
 va:∀x∈l,∀a∈Af x,VA a
theorem BkM.bk {N:List Tx}{l:List RItem}{cs:List AV}(h:BkM N l cs)(hl:l.length<=16):Bk N l cs:=⟨h.el,hl,h.fits,fun x hx=>(h.msr x hx).out,h.nm,h.pos⟩
def Dp (N:List Tx)(l l':List RItem):Bool:=Jo l'&&(!Ni N l' l&&((Ct l').1==0))
structure BkJ (N:List Tx)(l:List RItem)(cs:List AV):Prop where
 pj:EL (PJ N) l cs
 len:l.length<=1000
 bk:Jo l=true->BkM N l cs
theorem BkM.bj {N:List Tx}{l:List RItem}{cs:List AV}(h:BkM N l cs):BkJ N l cs:=⟨Mf h.el fun x hx c hc=>.inl ⟨hc,h.msr x hx⟩,h.len,fun _=>h⟩
theorem K0 (N:List Tx)(l l':List RItem)(cs cs':List AV)(idn idi idi':Nat)(hB:BkM N l cs)(ad:BkJ N l' cs')(d:St):
  ACalls Tryz.prog 177 [Bs N idn l idi cs,sl idi' l'.length cs'] d fun r d'=>(∃x,r=tp [x,sc (.bool (Dp N l l'))]/\(Dp N l l'=true->x=Bs N idn l' idi' cs')/\(∃id1 n1 c1 id2 n2 c2,x=ag [sl id1 n1 c1,sl id2 n2 c2]))/\Keep d d':=by
 have ai:=fun d=>Un N l' cs' idn idi' ad.pj hB.nm ad.len d;cases ac:Jo l' with
 |false=>
  have af:Dp N l l'=false:=by unfold Dp;rw[ac];rfl
  rw[ac]at ai;rw[af];refine Z9 30 [.cell 4 62,.tmp 5] Tryz.func177 ?_
  repeat' (first|refine Z1 ?_|(refine Z8 ?_;intro κ hκ)|(refine Z4 ?_;clear hκ κ)|(refine Z2 ?_ ?_<;>intro h ah<;>try exact Xp)|(refine Z5 ?_;refine Xi (ai _) ?_;rintro _ _ ⟨rfl,ae⟩;(have ab:=ae.nobj;have aa:=ae.obj;(try simp only[Aa,Ab]at ab aa)))|refine Z3 ?_|exact⟨⟩|(apply hκ.out;clear hκ κ))
  exact⟨_,rfl,⟨_,rfl,(fun h=>by cases h),1,0,[],1,0,[],rfl⟩,Xs⟩
 |true=>
  rw[ac]at ai;have ad:=ad.bk ac;have am:=fun d=>gH N l l' cs cs' idn idn idi idi' hB.el ad.el hB.nm hB.len ad.len (fun x hx=>(ad.msr x hx).body) d;have ap:l'.length<=16:=by
   unfold Jo at ac;simp only[Abo,Ad3]at ac;exact ac.1
  cases ak:Ni N l' l with
  |true=>
   have af:Dp N l l'=false:=by unfold Dp;rw[ac,ak];rfl
   rw[ak]at am;rw[af];refine Z9 30 [.cell 4 62,.tmp 5] Tryz.func177 ?_
   repeat' (first|refine Z1 ?_|(refine Z8 ?_;intro κ hκ)|(refine Z4 ?_;clear hκ κ)|(refine Z2 ?_ ?_<;>intro h ah<;>try exact Xp)|(refine Z5 ?_;first|(refine Xi (ai _) ?_;rintro _ _ ⟨rfl,ae⟩;(have ab:=ae.nobj;have aa:=ae.obj;(try simp only[Aa,Ab]at ab aa)))|(refine Xi (am _) ?_;rintro _ _ ⟨rfl,aj⟩;(have ao:=aj.nobj;have an:=aj.obj)))|refine Z3 ?_|exact⟨⟩|(apply hκ.out;clear hκ κ))
   exact⟨_,rfl,⟨_,rfl,(fun h=>by cases h),1,0,[],1,0,[],rfl⟩,Xs⟩
  |false=>
   have af:Dp N l l'=((Ct l').1==0):=by unfold Dp;rw[ac,ak];simp
   rw[ak]at am;rw[af];have hF:=fun d=>S6 N l' cs' idn idi' (ad.bk ap) ad.va d;generalize Ct l'=wm at hF;obtain⟨w1,w2⟩:=wm;clear af;refine Z9 30 [.cell 4 62,.tmp 5] Tryz.func177 ?_
   repeat' (first|refine Z1 ?_|(refine Z8 ?_;intro κ hκ)|(refine Z4 ?_;clear hκ κ)|(refine Z2 ?_ ?_<;>intro h ah<;>try exact Xp)|(refine Z5 ?_;first|(refine Xi (ai _) ?_;rintro _ _ ⟨rfl,ae⟩;(have ab:=ae.nobj;have aa:=ae.obj;(try simp only[Aa,Ab]at ab aa)))|(refine Xi (am _) ?_;rintro _ _ ⟨rfl,aj⟩;(have ao:=aj.nobj;have an:=aj.obj))|(refine Xi (hF _) ?_;rintro _ _ ⟨rfl,au⟩;(have aw:=au.nobj;have av:=au.obj)))|refine Z3 ?_|exact⟨⟩|(apply hκ.out;clear hκ κ))
   exact⟨_,rfl,⟨_,rfl,fun _=>rfl,_,_,_,_,_,_,rfl⟩,Xs⟩
def Du {α:Type}(n:Nat)(o:List α)(l:List α):List α:=l.zipIdx.flatMap fun p=>if p.2=n then o else [p.1]
theorem Rz {α:Type}{n:Nat}{o l:List α}{i:Nat}{x:α}(h:l[i]?=some x):Du n o (l.take (i+1))=Du n o (l.take i)++if i=n then o else [x]:=by
 have hi:=(List.getElem?_eq_some_iff.1 h).1;unfold Du;rw[Abv,h,Ac5,List.zipIdx_append,Adx,Ab7,Aca Ad6];simp
theorem Mx {α:Type}{n:Nat}{o:List α}(l:List α):∀i,(Du n o (l.take i)).length<=i*(o.length+1)
 |0=>by simp[Du]
 |i+1=>by
  have ih:=Mx l i (n:=n) (o:=o);cases h:l[i]? with
  |none=>
   rw[Abv,h,Option.toList_none,Abz];rw[Ab4];omega
  |some x=>
   rw[Rz h,Ab6,Ab4];split<;>simp<;>omega
def Itm (c:List AV):Prop:=∃(o:Bool) (p:Int) (ih n1:Nat) (tc:List AV) (ib n2:Nat) (b:List AV),c=[sc (.bool o),sc (.int .i64 p),sl ih n1 tc,sl ib n2 b]
theorem tD {N:List Tx}{x:RItem}{c:List AV}(h:PI N x c):Itm c:=by
 obtain⟨-,ih,id,b,-,rfl⟩:=h;exact⟨_,_,_,_,_,_,_,_,rfl⟩
theorem Ph {α:Type}{E:α->List AV->Prop}(hz:∀x c,E x c->Itm c)(N:List Tx)(l o:List α)(cs co:List AV)(idn idi ido n:Nat)(hE:EL E l cs)(a0:EL E o co)(hl:l.length<=1000)(ho:o.length<=1000)(d:St):
  ACalls Tryz.prog 178 [ag [sl idn N.length (N.map str),sl idi l.length cs],sl ido o.length co,sc (.int .i64 n)] d fun r d'=>(∃id c',r=sl id (Du n o l).length c'/\EL E (Du n o l) c')/\Keep d d':=by
 have h4:∀x c,E x c->c.length=4:=fun x c h=>by obtain⟨_,_,_,_,_,_,_,_,rfl⟩:=hz x c h;rfl
 have bl:=EL.length h4 hE;have bi:=EL.length h4 a0;refine Z9 41 [.tmp 6] Tryz.func178 ?_
 repeat' (first|refine Z1 ?_|(refine Z8 ?_;intro κ hκ)|(refine Z4 ?_;clear hκ κ)|(refine Z2 ?_ ?_<;>intro h ae<;>try exact Xp)|(refine Z6 ?_;intro idn dn ah aj ad aa ac ab)|refine Z3 ?_|exact⟨⟩|(apply hκ.out;clear hκ κ))
 refine Ad (fun m s d'=>∃(i id:Nat) (R:List α) (c:List AV),m=l.length-i/\i<=l.length/\s 1=sl ido o.length co/\s 2=sc (.int .i64 n)/\s 7=sl id R.length c/\s 14=sl idi l.length cs/\s 15=sc (.int .i64 l.length)/\s 16=sc (.int .i64 i)/\Keep d d'/\Own d d' id R.length/\c.length=R.length*4/\R.length<=i*(o.length+1)/\Aec (R=Du n o (l.take i)/\EL E R c)) l.length
  ⟨0,1,[],[],Ad6,Ad6,rfl,rfl,Ad8,Ad8,Ad8,rfl,Xs,Own.nil _ _,by simp,by simp,⟨by simp[Du],rfl⟩⟩ ?_
 rintro m s d' ⟨i,id,R,c,rfl,hi,h1,h2,h7,a5,a4,a3,hK,hO,ak,bf,hA⟩;have ay:=hK.nobj;by_cases bb:i<l.length
 ·have af:=List.getElem?_eq_getElem bb;obtain⟨c1,r,av,hd⟩:=EL.get h4 hE af;generalize l[i]=x at hd af av;obtain⟨x1,x2,x3,x4,x5,x6,x7,x8,rfl⟩:=hz _ _ av;simp only[Ack,Acm]at hd;have bg:Aec _:=av;clear av;have bm:R.length<=1001000:=Abg bf (Abg (Adv (by omega:i<=1000) (by omega:o.length+1<=1001)) (by decide));have am:=Mx (n:=n) (o:=o) l (i+1);have ai:=Rz (n:=n) (o:=o) af;rw[<-hA.out.1]at ai;by_cases an:i=n
  ·rw[if_pos an]at ai;have ba:((i:Int) !=(n:Int))=false:=by simp[an]
   have a6:Aec _:=ai;have a7:Aec (EL E R c):=hA.out.2;rw[ai,Ab6]at am;clear ai af hA an
   repeat' (first|refine Z1 ?_|(refine Z8 ?_;intro κ hκ)|(refine Z4 ?_;clear hκ κ)|(refine Z2 ?_ ?_<;>intro h ae<;>try exact Xp)|(refine Z6 ?_;intro idn dn ah aj ad aa ac ab)|refine Z3 ?_|exact⟨⟩|(apply hκ.out;clear hκ κ))
   refine Ad (fun m s d2=>∃(j id:Nat) (c':List AV),m=o.length-j/\j<=o.length/\s 1=sl ido o.length co/\s 2=sc (.int .i64 n)/\s 7=sl id (R.length+j) c'/\s 14=sl idi l.length cs/\s 15=sc (.int .i64 l.length)/\s 16=sc (.int .i64 i)/\s 28=sl ido o.length co/\s 29=sc (.int .i64 o.length)/\s 30=sc (.int .i64 j)/\Keep d d2/\Own d d2 id (R.length+j)/\c'.length=(R.length+j)*4/\Aec (EL E (R++o.take j) c')) o.length
    ⟨0,id,c,Ad6,Ad6,Ad7,Ad7,Ad7,Ad7,Ad7,Ad7,Ad7,Ad7,Ad8,Xs,(by simpa using Own.put (Own.new hO _) _ _),by simpa using ak,by simpa using a7⟩ ?_
   clear h1 h2 h7 a5 a4 a3 hK hO ay ak a7;rintro m s d2 ⟨j,id,c',rfl,hj,h1,h2,h7,a5,a4,a3,bq,bp,bo,hK,hO,ak,ao⟩;have ay:=hK.nobj;by_cases ax:j<o.length
   ·have ap:=List.getElem?_eq_getElem ax;obtain⟨c2,rj,au,az⟩:=EL.get h4 a0 ap;generalize o[j]=y at az ap au;obtain⟨y1,y2,y3,y4,y5,y6,y7,y8,rfl⟩:=hz _ _ au;simp only[Ack,Acm]at az;have bh:Aec (EL E (R++o.take (j+1)) (c'++[sc (.bool y1),sc (.int .i64 y2),sl y3 y4 y5,sl y6 y7 y8])):=by
     rw[Aec,Abv,ap,Ac5,<-Ab8];exact EL.append ao.out (EL.single au)
    clear ap ao au
    repeat' (first|refine Z1 ?_|(refine Z8 ?_;intro κ hκ)|(refine Z4 ?_;clear hκ κ)|(refine Z2 ?_ ?_<;>intro h ae<;>try exact Xp)|(refine Z6 ?_;intro idn dn ah aj ad aa ac ab)|refine Z3 ?_|exact⟨⟩|(apply hκ.out;clear hκ κ))
    refine Bn (by first|exact Jj) ((hK.new _).put hK.nobj _) (Own.put (Own.new hO _) _ _) (by decide) (by rfl) (ak) (by rfl) (by rfl) (by decide) Ad6 Ad6 ?_;intro idn dn ah aj ad aa ac ab;simp only[Ab,Aa]at aa;refine Z3 ?_
    repeat' (first|refine Z1 ?_|(refine Z8 ?_;intro κ hκ)|(refine Z4 ?_;clear hκ κ)|(refine Z2 ?_ ?_<;>intro h ae<;>try exact Xp)|(refine Z6 ?_;intro idn dn ah aj ad aa ac ab)|refine Z3 ?_|exact⟨⟩|(apply hκ.out;clear hκ κ))
    refine⟨o.length-(j+1),Ad6,j+1,idn,c'++[sc (.bool y1),sc (.int .i64 y2),sl y3 y4 y5,sl y6 y7 y8],?_⟩
    ((repeat' with_reducible refine And.intro ?_ ?_)<;>first|exact Xq|exact (bh)|exact (ah)|exact ((by simp[ak];omega))|exact Xs)
   ·have bc:j=o.length:=Ad6;subst bc;rw[Abt]at ao;have HA:Aec (R++o=Du n o (l.take (i+1))/\EL E (R++o) c'):=⟨a6.out.symm,ao.out⟩;clear ao a6;have be:c'.length=(R++o).length*4:=by rw[ak,Ab6]
    have bn:Own d d2 id (R++o).length:=by rw[Ab6];exact hO
    rw[<-Ab6]at h7;have a9:(R++o).length<=(i+1)*(o.length+1):=by rw[Ab6];exact am
    repeat' (first|refine Z1 ?_|(refine Z8 ?_;intro κ hκ)|(refine Z4 ?_;clear hκ κ)|(refine Z2 ?_ ?_<;>intro h ae<;>try exact Xp)|(refine Z6 ?_;intro idn dn ah aj ad aa ac ab)|refine Z3 ?_|exact⟨⟩|(apply hκ.out;clear hκ κ))
    refine⟨l.length-(i+1),Ad6,i+1,id,R++o,c',?_⟩
    ((repeat' with_reducible refine And.intro ?_ ?_)<;>first|exact Xq|exact (HA)|exact Xs)
  ·rw[if_neg an]at ai;have ba:((i:Int) !=(n:Int))=true:=by simpa using (by omega:¬(i:Int)=n)
   have HA:Aec (R++[x]=Du n o (l.take (i+1))/\EL E (R++[x]) (c++[sc (.bool x1),sc (.int .i64 x2),sl x3 x4 x5,sl x6 x7 x8])):=⟨ai.symm,EL.append hA.out.2 (EL.single bg.out)⟩;rw[ai]at am;clear ai af hA an
   repeat' (first|refine Z1 ?_|(refine Z8 ?_;intro κ hκ)|(refine Z4 ?_;clear hκ κ)|(refine Z2 ?_ ?_<;>intro h ae<;>try exact Xp)|(refine Z6 ?_;intro idn dn ah aj ad aa ac ab)|refine Z3 ?_|exact⟨⟩|(apply hκ.out;clear hκ κ))
   refine Bn (by first|exact Jj) ((hK.new _).put hK.nobj _) (Own.put (Own.new hO _) _ _) (by decide) (by rfl) (ak) (by rfl) (by rfl) (by decide) Ad6 Ad6 ?_;intro idn dn ah aj ad aa ac ab;simp only[Ab,Aa]at aa;refine Z3 ?_
   repeat' (first|refine Z1 ?_|(refine Z8 ?_;intro κ hκ)|(refine Z4 ?_;clear hκ κ)|(refine Z2 ?_ ?_<;>intro h ae<;>try exact Xp)|(refine Z6 ?_;intro idn dn ah aj ad aa ac ab)|refine Z3 ?_|exact⟨⟩|(apply hκ.out;clear hκ κ))
   refine⟨l.length-(i+1),Ad6,i+1,idn,R++[x],c++[sc (.bool x1),sc (.int .i64 x2),sl x3 x4 x5,sl x6 x7 x8],?_⟩
   ((repeat' with_reducible refine And.intro ?_ ?_)<;>first|exact Xq|exact (HA)|exact ((by simpa using ah))|exact ((by simp[ak];omega))|exact Xs)
 ·have bd:i=l.length:=Ad6;subst bd;rw[Abt]at hA;have aw:Aec (Du n o l=R):=hA.out.1.symm;have a8:Aec (EL E R c):=hA.out.2;clear hA
  repeat' (first|refine Z1 ?_|(refine Z8 ?_;intro κ hκ)|(refine Z4 ?_;clear hκ κ)|(refine Z2 ?_ ?_<;>intro h ae<;>try exact Xp)|(refine Z6 ?_;intro idn dn ah aj ad aa ac ab)|refine Z3 ?_|exact⟨⟩|(apply hκ.out;clear hκ κ))
  first|exact⟨_,rfl,⟨id,c,by rw[aw.out],by rw[aw.out];exact a8.out⟩,hK⟩|exact⟨_,rfl,id,c,by rw[aw.out],by rw[aw.out];exact a8.out⟩
structure GL (N:List Tx)(l:List RItem):Prop where
 len:l.length<=16
 nm:N.length<=2000
 msr:∀x∈l,xS N x
 fits:∀x∈l,x.fits
 pos:∀x∈l,∀a∈Af x,0<a.terms.length
 va:∀x∈l,∀a∈Af x,VA a
 ar:∀x∈l,∀a∈x.body,∀b∈x.body,a.pred=b.pred->a.terms.length=b.terms.length
theorem GL.bkm {N:List Tx}{l:List RItem}{cs:List AV}(h:GL N l)(hE:EL (PI N) l cs):BkM N l cs:=⟨hE,by have:=h.len;omega,h.nm,h.msr,h.fits,h.pos,h.va⟩
theorem X6 {α:Type}{n:Nat}{o l:List α}{x:α}(h:x∈Du n o l):x∈l\/x∈o:=by
 unfold Du at h;obtain⟨p,hp,hx⟩:=Acn.1 h;split at hx
 ·exact .inr hx
 ·simp at hx;subst hx;exact .inl (List.fst_mem_of_mem_zipIdx hp)
def spE (N:List Tx)(x:RItem)(k:Nat):Option Sw:=(oS sw0 (x.head.terms.map Az) (x.head.terms.map Az)).bind fun s0=>yD N x k s0
def sU (x:AV):Prop:=∃id1 n1 c1 id2 n2 c2,x=ag [sl id1 n1 c1,sl id2 n2 c2]
def okA (N:List Tx)(l:List RItem)(i k:Nat):Bool:=match l[i]? with
 |some x=>(spE N x k).isSome&&Dp N l (Du i [woL x k] l)
 |none=>false
def Aal (N:List Tx)(l:List RItem)(n:Nat):Prop:=∀i y,i<n->l[i]?=some y->∀k,k<y.body.length->okA N l i k=false
end Go.Proofs.YtmoeoppbmhfbpabGreatDoorJ
