import Derived.Test.YtmoeoppbmhfbpabGreatDoorJEngI
set_option maxHeartbeats 32000000
set_option maxRecDepth 100000
set_option linter.all false
namespace Go.Proofs.YtmoeoppbmhfbpabGreatDoorJ
open Go.Abs
def Num (ar:Nat)(t:Bc):Prop:=∀i,i<ar->∃k:Nat,t[i]?=some (k:Int)/\k<1026
def QN (q:Qry):Prop:=∀p∈q.parts,∀t∈p.tups,Num p.a.ts.length t
def F1 (f:Nat->Bool):List AV:=(List.range 1026).map fun i=>sc (.bool (f i))
theorem dN:Ur 1026 (.bool false)=F1 fun _=>false:=by
 unfold Ur F1;rw[List.map_const'];simp[cst1]
theorem iK (f:Nat->Bool):(F1 f).length=1026:=by simp[F1]
theorem iL (f:Nat->Bool){k:Nat}(h:k<1026):(F1 f)[k]?=some (sc (.bool (f k))):=by simp[F1,h]
theorem iJ (f:Nat->Bool){k:Nat}(h:k<1026)(b:Bool):(F1 f).set k (sc (.bool b))=F1 fun j=>if j=k then b else f j:=by
 apply Ab0;intro n;rw[List.getElem?_set];by_cases hn:n<1026
 ·by_cases he:k=n
  ·subst he;simp[F1,hn]
  ·have:n≠k:=fun e=>he e.symm;simp[F1,hn,he,this]
 ·have:k≠n:=Ad6;simp[F1,hn,this]
def lV (pl:Int)(acc:List Int)(t:Bc):List Int:=if G9 t pl∈acc then acc else acc++[G9 t pl]
def Uj (tups:List Bc)(pl:Int):List Int:=tups.foldl (lV pl) []
def J4 (q:Qry)(v:Int):List Int:=match q.parts.find? (fun p=>A5 p.a.ts v)with
 |some p=>Uj p.tups (H3 p.a.ts v)
 |none=>[]
theorem nN {α:Type}{f:α->Bool}{l:List α}{i:Nat}{x:α}(hn:∀y∈l.take i,f y=false)(hi:l[i]?=some x)(hx:f x=true):l.find? f=some x:=by
 have aa:=(List.getElem?_eq_some_iff.1 hi);obtain⟨h1,h2⟩:=aa
 conv=>lhs;rw[<-Adl i l]
 rw[List.find?_append,List.find?_eq_none.2 (fun y hy=>by rw[hn y hy];simp),Ach h1,h2];simp[hx]
theorem Jt (q:Qry)(c:List AV)(v:Int)(hc:EQ q c)(hq:Me q)(hN:QN q)(d:St):ACalls Tryz.prog 189 [ag c,ic v] d fun r d'=>(∃id,r=sl id (J4 q v).length (icells (J4 q v)))/\Keep d d':=by
 obtain⟨ih,ip,inn,pc,nc,rfl,hP,-⟩:=hc;have hpl:=EL.length Dt hP;have hl:=hq.pl;have hz:=dN;refine Z9 53 [.tmp 4] Tryz.func189 ?_
 repeat' (first|refine Z1 ?_|(refine Z8 ?_;intro κ hκ)|(refine Z4 ?_;clear hκ κ)|(refine Z2 ?_ ?_<;>intro h af<;>try exact Xp)|(refine Z6 ?_;intro idn dn ai aj ae aa ad ab)|refine Z3 ?_|exact⟨⟩|(apply hκ.out;clear hκ κ))
 refine Ad (fun m s d'=>∃i:Nat,m=q.parts.length-i/\i<=q.parts.length/\s 1=ic v/\s 5=nilS/\s 6=ptr (d.nobj+1) 0/\s 14=sl ip q.parts.length pc/\s 15=ic q.parts.length/\s 16=ic i/\Keep d d'/\d.nobj+1<d'.nobj/\d'.obj (d.nobj+1)=F1 (fun _=>false)/\Aec (∀p∈q.parts.take i,A5 p.a.ts v=false)) q.parts.length
  ⟨0,Ad6,Ad6,by simp[upd,initS],Ad8,Ad8,Ad8,Ad8,rfl,Xs,Aea,?_,by simp[Aec]⟩ ?_
 ·rw[Bu Aea Aea]
 rintro m s d' ⟨i,rfl,hi,h1,h5,h6,bl,bi,bh,hK,a7,aw,hA⟩;have a6:=hK.nobj;by_cases ap:i<q.parts.length
 ·have ac:=List.getElem?_eq_getElem ap;obtain⟨id,idt,r,hd⟩:=Eh hP ac;have bg:=hq.pa _ (Ac2 ap);have bf:=hq.pt _ (Ac2 ap);have a3:=hq.p3 _ (Ac2 ap);have a8:=hN _ (Ac2 ap);generalize q.parts[i]=w at hd ac bg bf a3 a8;have bc:w.a.ts.length<=1000:=Ad6;have av:=fun d=>Ff w.a.p id w.a.ts v bc d;have a5:Keep d ((d'.new [ic 0,nilS,nilS]).put d'.nobj [ic w.a.p,sl id w.a.ts.length (Ac w.a.ts),sl idt w.tups.length (Cx w.tups)]):=(hK.new _).put hK.nobj _;cases hv:A5 w.a.ts v with
  |false=>
   have hp:H3 w.a.ts v= -1:=I5 (by simpa[A5]using hv);have HS:Aec (∀p∈q.parts.take (i+1),A5 p.a.ts v=false):=by
    rw[Aec,Abv,ac,Ac5];intro p hp;rcases Aco.1 hp with hp|hp
    ·exact hA.out p hp
    ·simp at hp;subst hp;exact hv
   rw[hp]at av;clear hp ac hA
   repeat' (first|refine Z1 ?_|(refine Z8 ?_;intro κ hκ)|(refine Z4 ?_;clear hκ κ)|(refine Z2 ?_ ?_<;>intro h af<;>try exact Xp)|(refine Z6 ?_;intro idn dn ai aj ae aa ad ab)|(refine Z5 ?_;refine Xi (av _) ?_;rintro _ _ ⟨rfl,ak⟩;(have am:=ak.nobj;have ah:=ak.obj;have a4:=a5.trans ak;simp only[Ab,Aa]at am ah))|refine Z3 ?_|exact⟨⟩|(apply hκ.out;clear hκ κ))
   refine⟨q.parts.length-(i+1),Ad6,i+1,?_⟩
   ((repeat' with_reducible refine And.intro ?_ ?_)<;>first|exact Xq|exact (HS)|exact Xs)
  |true=>
   obtain⟨pl,ax,ay⟩:=I6 hv;have HR:Aec (J4 q v=Uj w.tups pl):=by rw[Aec,J4,nN hA.out ac hv];simp only[ay]
   rw[ay]at av;clear ay ac hA;have ba:pl<3:=Ad6;have bb:((pl:Int)== -1)=false:=by simp
   have bn:=Ef a3
   repeat' (first|refine Z1 ?_|(refine Z8 ?_;intro κ hκ)|(refine Z4 ?_;clear hκ κ)|(refine Z2 ?_ ?_<;>intro h af<;>try exact Xp)|(refine Z6 ?_;intro idn dn ai aj ae aa ad ab)|(refine Z5 ?_;refine Xi (av _) ?_;rintro _ _ ⟨rfl,ak⟩;(have am:=ak.nobj;have ah:=ak.obj;have a4:=a5.trans ak;simp only[Ab,Aa]at am ah))|refine Z3 ?_|exact⟨⟩|(apply hκ.out;clear hκ κ))
   rename_i d1;have o1:d1.obj (d.nobj+1)=F1 (fun _=>false):=by rw[ah _ Ad6,Aj Ad6,Ae Ad6,aw]
   clear ah ak
   refine Ad (fun m s d''=>∃(j i3:Nat) (vs:List Int) (f:Nat->Bool),m=w.tups.length-j/\j<=w.tups.length/\s 5=sl i3 vs.length (icells vs)/\s 6=ptr (d.nobj+1) 0/\s 9=ic pl/\s 27=sl idt w.tups.length (Cx w.tups)/\s 28=ic w.tups.length/\s 29=ic j/\Keep d d''/\d.nobj+1<d''.nobj/\d''.obj (d.nobj+1)=F1 f/\Own d d'' i3 vs.length/\vs.length<=j/\Aec (vs=Uj (w.tups.take j) pl/\∀k:Nat,f k=true↔(k:Int)∈vs)) w.tups.length
    ⟨0,1,[],fun _=>false,Ad6,Ad6,by simp[upd, *,icells],Ad7,Ad8,Ad8,Ad8,rfl,a4,Ad6,o1,Own.nil _ _,by simp,by simp[Uj],by simp⟩ ?_
   clear o1 h1 h5 h6 bl bi bh hK a7 aw a6 a4 a5;rintro m s d'' ⟨j,i3,vs,f,rfl,hj,h5,h6,h9,br,bq,bp,hK,a7,aw,hO,bm,hX⟩;have a6:=hK.nobj;have az:=A8 vs;by_cases ao:j<w.tups.length
   ·have ac:=List.getElem?_eq_getElem ao;obtain⟨an,r2,be⟩:=Fs a3 ac;obtain⟨x,au,hx⟩:=a8 _ (Ac2 ao) pl ax;generalize w.tups[j]=t at be ac an au;have bo:=Iu au;have HS:Aec (Uj (w.tups.take (j+1)) pl=if (x:Int)∈vs then vs else vs++[(x:Int)]):=by
     have a9:G9 t pl=(x:Int):=by simp[G9,au]
     rw[Aec,Abv,ac,Ac5,Uj,Ac8,hX.out.1];simp only[Abr,List.foldl_nil,lV,a9];rfl
    clear ac au;have f1:=C9 an;have f2:=He an;have f3:=Dn an;have f4:=Gz an;have f5:=Ce t;have f6:=No an;have g1:=iL f hx;have g2:=iJ f hx true;have g3:=iK f;by_cases hm:(x:Int)∈vs
    ·have a0:f x=true:=(hX.out.2 x).2 hm;have HX:Aec (vs=Uj (w.tups.take (j+1)) pl/\∀k:Nat,f k=true↔(k:Int)∈vs):=⟨by rw[HS.out,if_pos hm],hX.out.2⟩;rw[a0]at g1;clear hX HS hm g2
     repeat' (first|refine Z1 ?_|(refine Z8 ?_;intro κ hκ)|(refine Z4 ?_;clear hκ κ)|(refine Z2 ?_ ?_<;>intro h af<;>try exact Xp)|(refine Z6 ?_;intro idn dn ai aj ae aa ad ab)|refine Z3 ?_|exact⟨⟩|(apply hκ.out;clear hκ κ))
     refine⟨w.tups.length-(j+1),Ad6,j+1,i3,vs,f,?_⟩
     ((repeat' with_reducible refine And.intro ?_ ?_)<;>first|exact Xq|exact (Own.put (Own.new hO _) _ _)|exact (HX)|exact Xs)
    ·have a0:f x=false:=by
      cases h:f x with
      |false=>rfl
      |true=>exact absurd ((hX.out.2 x).1 h) hm
     have HX:Aec (vs++[(x:Int)]=Uj (w.tups.take (j+1)) pl/\∀k:Nat,(if k=x then true else f k)=true↔(k:Int)∈vs++[(x:Int)]):=by
      refine⟨by rw[HS.out,if_neg hm],fun k=>?_⟩;have h2:=hX.out.2 k;by_cases e:k=x
      ·subst e;simp
      ·rw[if_neg e,h2];have:¬(k:Int)=(x:Int):=Ad6;simp[this]
     rw[a0]at g1;clear hX HS hm
     repeat' (first|refine Z1 ?_|(refine Z8 ?_;intro κ hκ)|(refine Z4 ?_;clear hκ κ)|(refine Z2 ?_ ?_<;>intro h af<;>try exact Xp)|(refine Z6 ?_;intro idn dn ai aj ae aa ad ab)|refine Z3 ?_|exact⟨⟩|(apply hκ.out;clear hκ κ))
     refine Bn (by first|exact Oa) (((hK.new _).put hK.nobj _).put Ad6 _) (Own.put (Own.put (Own.new hO _) _ _) _ _) (by decide) (by rfl) (by rw[az,Nat.mul_one]) (by rfl) (by rfl) (by decide) Ad6 Ad6 ?_;intro idn dn ai aj ae aa ad ab;simp only[Ab,Aa]at aa;refine Z3 ?_
     repeat' (first|refine Z1 ?_|(refine Z8 ?_;intro κ hκ)|(refine Z4 ?_;clear hκ κ)|(refine Z2 ?_ ?_<;>intro h af<;>try exact Xp)|(refine Z6 ?_;intro idn dn ai aj ae aa ad ab)|refine Z3 ?_|exact⟨⟩|(apply hκ.out;clear hκ κ))
     refine⟨w.tups.length-(j+1),Ad6,j+1,idn,vs++[(x:Int)],fun k=>if k=x then true else f k,?_⟩
     ((repeat' with_reducible refine And.intro ?_ ?_)<;>first|exact Xq|exact (by simpa using ai)|exact (HX)|exact (by simp[icells])|exact Xs)
   ·have bd:j=w.tups.length:=Ad6;subst bd;obtain⟨x1,-⟩:=hX.out;rw[Abt]at x1;rw[<-x1]at HR;have HR:=HR.out
    repeat' (first|refine Z1 ?_|(refine Z8 ?_;intro κ hκ)|(refine Z4 ?_;clear hκ κ)|(refine Z2 ?_ ?_<;>intro h af<;>try exact Xp)|(refine Z6 ?_;intro idn dn ai aj ae aa ad ab)|refine Z3 ?_|exact⟨⟩|(apply hκ.out;clear hκ κ))
    first|exact⟨_,rfl,⟨i3,rfl⟩,hK⟩|exact⟨_,rfl,⟨i3,by rw[HR]⟩,hK⟩|exact⟨_,rfl,⟨i3,rfl⟩⟩|exact⟨_,rfl,i3,rfl⟩
 ·have az:i=q.parts.length:=Ad6;subst az;rw[Abt]at hA;have HR:J4 q v=[]:=by
   unfold J4;rw[List.find?_eq_none.2 (fun p hp=>by rw[hA.out p hp];simp)]
  repeat' (first|refine Z1 ?_|(refine Z8 ?_;intro κ hκ)|(refine Z4 ?_;clear hκ κ)|(refine Z2 ?_ ?_<;>intro h af<;>try exact Xp)|(refine Z6 ?_;intro idn dn ai aj ae aa ad ab)|refine Z3 ?_|exact⟨⟩|(apply hκ.out;clear hκ κ))
  first|exact⟨_,rfl,⟨1,rfl⟩,hK⟩|exact⟨_,rfl,⟨1,by rw[HR];rfl⟩,hK⟩|exact⟨_,rfl,1,rfl⟩|exact⟨_,rfl,1,by rw[HR];rfl⟩
theorem Gu {P:Program}{t:TypeId}{z b:Nat}{zc:List Value}{σ0 d:St}{id id2 n m m':Nat}{xs ys:List AV}{K:AV->St->Prop}(ht:Lp P t=some (z,b,zc))(hK:Keep σ0 d)(hO:Own σ0 d id n)
  (hz:0<z) (hzc:zc.length=z) (hx:xs.length=n*z) (hy:ys.length=m*z) (hf:ys.all flat=true) (hm:0<m) (hb:(n+m)*b<=140737488355328) (hl:n+m<=1099511627776)
  (h:∀id' d',Own σ0 d' id' (n+m)->Keep σ0 d'->d'.obj=d.obj->d'.nobj=d.nobj->d'.ver=d.ver->d.ntop<d'.ntop->(∀i k,Own σ0 d i k->(id=1\/id≠i)->Own σ0 d' i k/\(id'=1\/id'≠i))->K (sl id' (n+m) (xs++ys)) d'):Hg P t t (sl id n xs) (sl id2 m ys) (d.lay m') K:=by
 unfold Hg Yz;left;simp only[ht];rw[if_pos ⟨trivial,hz,hzc,hx,hy,hf,hm,hb,hl⟩];rcases hO with⟨rfl,rfl⟩|⟨k,rfl,h2,h3,h4,h5⟩
 ·have ab:xs=[]:=Abq (by simpa using hx);subst ab
  have:=h ((d.lay m').ntop+2) ((d.lay m').lay m) (by rw[Ab5];exact Own.made (hK.lay m') hm) ((hK.lay m').lay m) rfl rfl rfl (by simp[St.lay];omega) (fun i k ho _=>by
   refine⟨ho.keep (((Keep.refl _).lay _).lay _),?_⟩;right;rcases ho with⟨rfl,-⟩|⟨j,rfl,-,hj,-⟩
   ·simp[St.lay]
   ·simp[St.lay];omega)
  simpa using this
 ·have e1:(d.lay m').top k=n:=by simp[St.lay];rw[if_neg Ad6];exact h4
  simp only;rw[if_pos ⟨e1,h5⟩]
  exact h (k+2) _ (.inr ⟨k,rfl,h2,by simp[St.raise,St.lay];omega,by simp[St.raise],Ad6⟩) ((hK.lay m').raise h2 _) rfl rfl rfl (by simp[St.raise,St.lay]) (fun i j ho aa=>by
   have aa:k+2≠i:=by rcases aa with h|h<;>omega
   refine⟨?_,.inr aa⟩;rcases ho with ho|⟨j',rfl,g1,g2,g3,g4⟩
   ·exact .inl ho
   ·exact .inr ⟨j',rfl,g1,by simp[St.raise,St.lay];omega,by simp[St.raise,St.lay];rw[if_neg Ad6,if_neg Ad6];exact g3,g4⟩)
def D6 (f:Nat->Nat):List AV:=(List.range 1026).map fun i=>ic (f i:Nat)
theorem bW:Ur 1026 (.int .i64 0)=D6 fun _=>0:=by
 unfold Ur D6;rw[List.map_const'];simp[cst1]
theorem Su (f:Nat->Nat):(D6 f).length=1026:=by simp[D6]
theorem Sv (f:Nat->Nat){k:Nat}(h:k<1026):(D6 f)[k]?=some (ic (f k:Nat)):=by simp[D6,h]
theorem gC (f:Nat->Nat){k:Nat}(h:k<1026)(b:Nat):(D6 f).set k (ic (b:Nat))=D6 fun j=>if j=k then b else f j:=by
 apply Ab0;intro n;rw[List.getElem?_set];by_cases hn:n<1026
 ·by_cases he:k=n
  ·subst he;simp[D6,hn]
  ·have:n≠k:=fun e=>he e.symm;simp[D6,hn,he,this]
 ·have:k≠n:=Ad6;simp[D6,hn,this]
def occ (v:Int)(n:Int)(p:Part):Bool:=p.tups.any fun t=>G9 t (H3 p.a.ts v)==n
def Dd (l:List Part)(v n:Int):Bool:=l.all fun p=>!A5 p.a.ts v||occ v n p
def Fj (l:List Part)(v:Int)(p:Part):Part:=if A5 p.a.ts v=true then⟨p.a,p.tups.filter fun t=>Dd l v (G9 t (H3 p.a.ts v))⟩else p
def Eu (q:Qry)(v:Int):Qry:={q with parts:=q.parts.map (Fj q.parts v)}
def gF (f:Nat->Nat)(a:Nat)(pl:Int)(l:List Bc)(k:Nat):Nat:=if f k=a/\l.any (fun t=>G9 t pl==(k:Int))=true then a+1 else f k
theorem vM {f:Nat->Nat}{a:Nat}{pl:Int}{l:List Bc}{t:Bc}{x:Nat}(ht:G9 t pl=(x:Int)):gF f a pl (l++[t])=fun k=>if k=x/\gF f a pl l x=a then a+1 else gF f a pl l k:=by
 funext k;have aa:(l++[t]).any (fun t=>G9 t pl==(k:Int))=(l.any (fun t=>G9 t pl==(k:Int))||decide (k=x)):=by
  rw[Adn];simp only[List.any_cons,List.any_nil,Adq,ht];congr 1;by_cases e:k=x
  ·subst e;simp
  ·have:¬(x:Int)=(k:Int):=Ad6;simp[e,this]
 unfold gF;rw[aa];by_cases e:k=x
 ·subst e;by_cases h1:f k=a
  ·cases h2:l.any (fun t=>G9 t pl==(k:Int))<;>simp[h1]
  ·simp[h1]
 ·simp[e]
theorem yX (f:Nat->Nat)(a:Nat)(pl:Int):gF f a pl []=f:=by funext k;simp[gF]
theorem dE (q:Qry)(c:List AV)(v:Int)(hc:EQ q c)(hq:Me q)(hN:QN q)(d:St):ACalls Tryz.prog 255 [ag c,ic v] d fun r d'=>(∃c',r=ag c'/\EQ (Eu q v) c')/\Keep d d':=by
 obtain⟨ih,ip,inn,pc,nc,rfl,hP,cf⟩:=hc;have hpl:=EL.length Dt hP;have hl:=hq.pl;have hz:=bW;refine Z9 113 [.cell 4 191] Tryz.func255 ?_
 repeat' (first|refine Z1 ?_|(refine Z8 ?_;intro κ hκ)|(refine Z4 ?_;clear hκ κ)|(refine Z2 ?_ ?_<;>intro h ah<;>try exact Xp)|(refine Z6 ?_;intro idn dn aj ak ae aa af ab)|refine Z3 ?_|exact⟨⟩|(apply hκ.out;clear hκ κ))
 refine Ad (fun m s d'=>∃(i a:Nat) (f:Nat->Nat),m=q.parts.length-i/\i<=q.parts.length/\s 1=ic v/\s 2=ptr d.nobj 0/\s 4=ptr (d.nobj+1) 0/\s 5=ptr (d.nobj+2) 0/\s 6=ic a/\s 20=sl ip q.parts.length pc/\s 21=ic q.parts.length/\s 22=ic i/\Keep d d'/\d.nobj+2<d'.nobj/\d'.obj d.nobj=[ic q.head.p,sl ih q.head.ts.length (Ac q.head.ts),sl ip q.parts.length pc,sl inn q.nots.length nc]/\d'.obj (d.nobj+1)=[ic 0,nilS,nilS,nilS]/\d'.obj (d.nobj+2)=D6 f/\a<=i/\(∀k,f k<=a)/\Aec (∀k,f k=a↔Dd (q.parts.take i) v (k:Int)=true)) q.parts.length
  ⟨0,0,fun _=>0,Ad6,Ad6,by simp[upd,initS],Ad8,Ad8,Ad8,Ad8,Ad8,Ad8,rfl,Xs,Aea,?_,?_,?_,Ad6,by simp,by simp[Aec,Dd]⟩ ?_
 ·rw[Ae Aea,Ae Aea,Ao]
 ·rw[Ae Aea,Bu Aea Aea]
 ·rw[Bu Aea Aea]
 rintro m s d' ⟨i,a,f,rfl,hi,h1,h2,h4,h5,h6,bv,bu,br,hK,a4,a9,av,au,cq,ba,hA⟩;have bw:=hK.nobj;by_cases an:i<q.parts.length
 ·have ac:=List.getElem?_eq_getElem an;obtain⟨id,idt,r,hd⟩:=Eh hP ac;have bn:=hq.pa _ (Ac2 an);have bm:=hq.pt _ (Ac2 an);have a5:=hq.p3 _ (Ac2 an);have a8:=hN _ (Ac2 an);generalize q.parts[i]=w at hd ac bn bm a5 a8;have bh:w.a.ts.length<=1000:=Ad6;have ax:=fun d=>Ff w.a.p id w.a.ts v bh d;have a7:Keep d ((d'.new [ic 0,nilS,nilS]).put d'.nobj [ic w.a.p,sl id w.a.ts.length (Ac w.a.ts),sl idt w.tups.length (Cx w.tups)]):=(hK.new _).put hK.nobj _;have bb:Aec (∀n,Dd (q.parts.take (i+1)) v n=(Dd (q.parts.take i) v n&&(!A5 w.a.ts v||occ v n w))):=by
   intro n;rw[Abv,ac,Ac5,Dd,List.all_append];simp[Dd]
  clear ac;cases hv:A5 w.a.ts v with
  |false=>
   have hp:H3 w.a.ts v= -1:=I5 (by simpa[A5]using hv);have HS:Aec (∀k,f k=a↔Dd (q.parts.take (i+1)) v (k:Int)=true):=by
    intro k;rw[bb.out,hv,hA.out k];simp
   rw[hp]at ax;clear hp hA bb
   repeat' (first|refine Z1 ?_|(refine Z8 ?_;intro κ hκ)|(refine Z4 ?_;clear hκ κ)|(refine Z2 ?_ ?_<;>intro h ah<;>try exact Xp)|(refine Z6 ?_;intro idn dn aj ak ae aa af ab)|(refine Z5 ?_;refine Xi (ax _) ?_;rintro _ _ ⟨rfl,ai⟩;(have ao:=ai.nobj;have ad:=ai.obj;have a6:=a7.trans ai;simp only[Ab,Aa]at ao ad))|refine Z3 ?_|exact⟨⟩|(apply hκ.out;clear hκ κ))
   refine⟨q.parts.length-(i+1),Ad6,i+1,a,f,?_⟩
   ((repeat' with_reducible refine And.intro ?_ ?_)<;>first|exact Xq|exact (HS)|exact Xs)
  |true=>
   obtain⟨pl,a0,a3⟩:=I6 hv;have HS:Aec (∀k,gF f a pl w.tups k=a+1↔Dd (q.parts.take (i+1)) v (k:Int)=true):=by
    intro k;have h1:=hA.out k;have h2:=ba k;rw[bb.out,hv,Abo,<-h1];simp only[Acd,Bool.false_or,occ,a3];unfold gF;by_cases hc:f k=a/\w.tups.any (fun t=>G9 t pl==(k:Int))=true
    ·rw[if_pos hc];exact⟨fun _=>hc,fun _=>rfl⟩
    ·rw[if_neg hc];exact⟨fun h=>Ad6,fun h=>absurd h hc⟩
   have ci:Aec (∀k,gF f a pl w.tups k<=a+1):=by
    intro k;have h2:=ba k;unfold gF;split<;>omega
   rw[a3]at ax;clear a3 hA bb;have be:pl<3:=Ad6;have bg:((pl:Int)== -1)=false:=by simp
   have b6:=Ef a5
   repeat' (first|refine Z1 ?_|(refine Z8 ?_;intro κ hκ)|(refine Z4 ?_;clear hκ κ)|(refine Z2 ?_ ?_<;>intro h ah<;>try exact Xp)|(refine Z6 ?_;intro idn dn aj ak ae aa af ab)|(refine Z5 ?_;refine Xi (ax _) ?_;rintro _ _ ⟨rfl,ai⟩;(have ao:=ai.nobj;have ad:=ai.obj;have a6:=a7.trans ai;simp only[Ab,Aa]at ao ad))|refine Z3 ?_|exact⟨⟩|(apply hκ.out;clear hκ κ))
   rename_i d1;have p0:d1.obj d.nobj=[ic q.head.p,sl ih q.head.ts.length (Ac q.head.ts),sl ip q.parts.length pc,sl inn q.nots.length nc]:=by rw[ad _ Ad6,Aj Ad6,Ae Ad6,a9]
   have p1:d1.obj (d.nobj+1)=[ic 0,nilS,nilS,nilS]:=by rw[ad _ Ad6,Aj Ad6,Ae Ad6,av]
   have p2:d1.obj (d.nobj+2)=D6 f:=by rw[ad _ Ad6,Aj Ad6,Ae Ad6,au]
   clear ad ai
   refine Ad (fun m s d''=>∃(j:Nat) (g:Nat->Nat),m=w.tups.length-j/\j<=w.tups.length/\s 1=ic v/\s 2=ptr d.nobj 0/\s 4=ptr (d.nobj+1) 0/\s 5=ptr (d.nobj+2) 0/\s 6=ic a/\s 9=ic pl/\s 20=sl ip q.parts.length pc/\s 21=ic q.parts.length/\s 22=ic i/\s 33=sl idt w.tups.length (Cx w.tups)/\s 34=ic w.tups.length/\s 35=ic j/\Keep d d''/\d.nobj+2<d''.nobj/\d''.obj d.nobj=[ic q.head.p,sl ih q.head.ts.length (Ac q.head.ts),sl ip q.parts.length pc,sl inn q.nots.length nc]/\d''.obj (d.nobj+1)=[ic 0,nilS,nilS,nilS]/\d''.obj (d.nobj+2)=D6 g/\(∀k,g k<=a+1)/\Aec (g=gF f a pl (w.tups.take j))) w.tups.length
    ⟨0,f,Ad6,Ad6,Ad7,Ad7,Ad7,Ad7,Ad7,Ad8,Ad7,Ad7,Ad7,Ad8,Ad8,rfl,a6,Ad6,p0,p1,p2,fun k=>by have:=ba k;omega,by simp[Aec,yX]⟩ ?_
   clear p0 p1 p2 h1 h2 h4 h5 h6 bv bu br hK a4 a9 av au bw a6 a7;rintro m s d'' ⟨j,g,rfl,hj,h1,h2,h4,h5,h6,h9,bv,bu,br,cx,cw,cv,hK,a4,a9,av,au,cd,hX⟩;have bw:=hK.nobj;by_cases ap:j<w.tups.length
   ·have ac:=List.getElem?_eq_getElem ap;obtain⟨am,r2,bl⟩:=Fs a5 ac;obtain⟨x,aw,hx⟩:=a8 _ (Ac2 ap) pl a0;generalize w.tups[j]=t at bl ac am aw;have cb:=Iu aw;have HG:Aec (gF f a pl (w.tups.take (j+1))=fun k=>if k=x/\g x=a then a+1 else g k):=by
     have bd:G9 t pl=(x:Int):=by simp[G9,aw]
     rw[Aec,Abv,ac,Ac5,vM bd,hX.out]
    clear ac aw hX;have f1:=C9 am;have f2:=He am;have f3:=Dn am;have f4:=Gz am;have f5:=Ce t;have f6:=No am;have g1:=Sv g hx;have g2:=gC g hx (a+1);have g3:=Su g;by_cases hm:g x=a
    ·have HX:Aec ((fun k=>if k=x then a+1 else g k)=gF f a pl (w.tups.take (j+1))):=by
      rw[Aec,HG.out];funext k;simp[hm]
     have hb:((g x:Int)==(a:Int))=true:=by simp[hm]
     rw[hm]at g1;have ay:((a+1:Nat):Int)=(a:Int)+1:=Ad6;rw[ay]at g2;clear ay HG
     repeat' (first|refine Z1 ?_|(refine Z8 ?_;intro κ hκ)|(refine Z4 ?_;clear hκ κ)|(refine Z2 ?_ ?_<;>intro h ah<;>try exact Xp)|(refine Z6 ?_;intro idn dn aj ak ae aa af ab)|refine Z3 ?_|exact⟨⟩|(apply hκ.out;clear hκ κ))
     refine⟨w.tups.length-(j+1),Ad6,j+1,fun k=>if k=x then a+1 else g k,?_⟩
     ((repeat' with_reducible refine And.intro ?_ ?_)<;>first|exact Xq|exact (HX)|exact (fun k=>by have:=cd k;dsimp only;split<;>omega)|exact Xs)
    ·have HX:Aec (g=gF f a pl (w.tups.take (j+1))):=by
      rw[Aec,HG.out];funext k;simp[hm]
     have hb:((g x:Int)==(a:Int))=false:=by simp;omega
     clear HG hm g2
     repeat' (first|refine Z1 ?_|(refine Z8 ?_;intro κ hκ)|(refine Z4 ?_;clear hκ κ)|(refine Z2 ?_ ?_<;>intro h ah<;>try exact Xp)|(refine Z6 ?_;intro idn dn aj ak ae aa af ab)|refine Z3 ?_|exact⟨⟩|(apply hκ.out;clear hκ κ))
     refine⟨w.tups.length-(j+1),Ad6,j+1,g,?_⟩
     ((repeat' with_reducible refine And.intro ?_ ?_)<;>first|exact Xq|exact (HX)|exact Xs)
   ·have bi:j=w.tups.length:=Ad6;subst bi;have hX:=hX.out;rw[Abt]at hX;subst hX
    repeat' (first|refine Z1 ?_|(refine Z8 ?_;intro κ hκ)|(refine Z4 ?_;clear hκ κ)|(refine Z2 ?_ ?_<;>intro h ah<;>try exact Xp)|(refine Z6 ?_;intro idn dn aj ak ae aa af ab)|refine Z3 ?_|exact⟨⟩|(apply hκ.out;clear hκ κ))
    refine⟨q.parts.length-(i+1),Ad6,i+1,a+1,gF f a pl w.tups,?_⟩
    ((repeat' with_reducible refine And.intro ?_ ?_)<;>first|exact Xq|exact (HS)|exact (ci.out)|exact Xs)
 ·have ca:i=q.parts.length:=Ad6;subst ca;rw[Abt]at hA;clear hi
  repeat' (first|refine Z1 ?_|(refine Z8 ?_;intro κ hκ)|(refine Z4 ?_;clear hκ κ)|(refine Z2 ?_ ?_<;>intro h ah<;>try exact Xp)|(refine Z6 ?_;intro idn dn aj ak ae aa af ab)|refine Z3 ?_|exact⟨⟩|(apply hκ.out;clear hκ κ))
  refine Ad (fun m s d2=>∃(k i3:Nat) (xs:List AV),m=q.parts.length-k/\k<=q.parts.length/\s 1=ic v/\s 4=ptr (d.nobj+1) 0/\s 5=ptr (d.nobj+2) 0/\s 6=ic a/\s 12=ptr d'.nobj 0/\s 63=sl ip q.parts.length pc/\s 64=ic q.parts.length/\s 65=ic k/\Keep d d2/\d'.nobj<d2.nobj/\d2.obj (d.nobj+1)=[ic 0,nilS,nilS,nilS]/\d2.obj (d.nobj+2)=D6 f/\d2.obj d'.nobj=[ic q.head.p,sl ih q.head.ts.length (Ac q.head.ts),sl i3 k xs,sl inn q.nots.length nc]/\Own d d2 i3 k/\xs.length=k*3/\Aec (EL K3 ((q.parts.take k).map (Fj q.parts v)) xs)) q.parts.length
   ⟨0,1,[],Ad6,Ad6,Ad7,Ad7,Ad7,Ad7,Ad8,Ad8,Ad8,rfl,(hK.new _).put hK.nobj _,Aeb,?_,?_,?_,Own.nil _ _,by simp,by simp[Aec,EL]⟩ ?_
  ·rw[Aj Ad6,Ae Ad6,av]
  ·rw[Aj Ad6,Ae Ad6,au]
  ·rw[Ak]
  have ch:=a4;clear h1 h2 h4 h5 h6 bv bu br an a9 av au a4 hK;generalize bq:d'.nobj=o12 at*
  clear bq;rintro m s d2 ⟨k,i3,xs,rfl,hk,h1,h4,h5,h6,b3,b2,b1,b0,hK,a4,av,au,bc,hO,cn,hX⟩;have ao:=hK.nobj;by_cases an:k<q.parts.length
  ·have ac:=List.getElem?_eq_getElem an;obtain⟨id,idt,r,hd⟩:=Eh hP ac;have bn:=hq.pa _ (Ac2 an);have bm:=hq.pt _ (Ac2 an);have a5:=hq.p3 _ (Ac2 an);have a8:=hN _ (Ac2 an);generalize q.parts[k]=w at hd ac bn bm a5 a8;have bh:w.a.ts.length<=1000:=Ad6;have ax:=fun d=>Ff w.a.p id w.a.ts v bh d;have a7:Keep d ((d2.new [ic 0,nilS,nilS]).put d2.nobj [ic w.a.p,sl id w.a.ts.length (Ac w.a.ts),sl idt w.tups.length (Cx w.tups)]):=(hK.new _).put hK.nobj _;have HM:Aec ((q.parts.take (k+1)).map (Fj q.parts v)=(q.parts.take k).map (Fj q.parts v)++[Fj q.parts v w]):=by
    rw[Aec,Abv,ac];simp
   clear ac;cases hv:A5 w.a.ts v with
   |false=>
    have hp:H3 w.a.ts v= -1:=I5 (by simpa[A5]using hv);have HX:Aec (EL K3 ((q.parts.take (k+1)).map (Fj q.parts v)) (xs++[ic w.a.p,sl id w.a.ts.length (Ac w.a.ts),sl idt w.tups.length (Cx w.tups)])):=by
     rw[Aec,HM.out];refine EL.append hX.out (EL.single ?_);rw[Fj,if_neg (by rw[hv];simp)];exact⟨id,idt,rfl⟩
    rw[hp]at ax;clear hp HM hX
    repeat' (first|refine Z1 ?_|(refine Z8 ?_;intro κ hκ)|(refine Z4 ?_;clear hκ κ)|(refine Z2 ?_ ?_<;>intro h ah<;>try exact Xp)|(refine Z6 ?_;intro idn dn aj ak ae aa af ab)|(refine Z5 ?_;refine Xi (ax _) ?_;rintro _ _ ⟨rfl,ai⟩;(have az:=ai.nobj;have ad:=ai.obj;have a6:=a7.trans ai;have bo:=Own.keep (Own.put (Own.new hO _) _ _) ai;simp only[Ab,Aa]at az ad))|refine Z3 ?_|exact⟨⟩|(apply hκ.out;clear hκ κ))
    refine⟨q.parts.length-(k+1),Ad6,k+1,idn,xs++[ic w.a.p,sl id w.a.ts.length (Ac w.a.ts),sl idt w.tups.length (Cx w.tups)],?_⟩
    ((repeat' with_reducible refine And.intro ?_ ?_)<;>first|exact Xq|exact (ak.put Ad6 _)|exact (Own.put aj _ _)|exact (HX)|exact Xs)
   |true=>
    obtain⟨pl,a0,a3⟩:=I6 hv;have cj:Aec (Fj q.parts v w=⟨w.a,w.tups.filter fun t=>Dd q.parts v (G9 t pl)⟩):=by rw[Aec,Fj,if_pos hv,a3]
    rw[a3]at ax;clear a3;have be:pl<3:=Ad6;have bg:((pl:Int)== -1)=false:=by simp
    have b6:=Ef a5;have ce:Aec _:=hX
    repeat' (first|refine Z1 ?_|(refine Z8 ?_;intro κ hκ)|(refine Z4 ?_;clear hκ κ)|(refine Z2 ?_ ?_<;>intro h ah<;>try exact Xp)|(refine Z6 ?_;intro idn dn aj ak ae aa af ab)|(refine Z5 ?_;refine Xi (ax _) ?_;rintro _ _ ⟨rfl,ai⟩;(have az:=ai.nobj;have ad:=ai.obj;have a6:=a7.trans ai;have bo:=Own.keep (Own.put (Own.new hO _) _ _) ai;simp only[Ab,Aa]at az ad))|refine Z3 ?_|exact⟨⟩|(apply hκ.out;clear hκ κ))
    rename_i d3;have p1:d3.obj (d.nobj+1)=[ic 0,nilS,nilS,nilS]:=by rw[ad _ Ad6,Aj Ad6,Ae Ad6,av]
    have p2:d3.obj (d.nobj+2)=D6 f:=by rw[ad _ Ad6,Aj Ad6,Ae Ad6,au]
    have p3:d3.obj o12=[ic q.head.p,sl ih q.head.ts.length (Ac q.head.ts),sl i3 k xs,sl inn q.nots.length nc]:=by rw[ad _ Ad6,Aj Ad6,Ae Ad6,bc]
    clear ad ai
    refine Ad (fun m s d4=>∃(j i5:Nat) (o:List Bc) (ys:List AV),m=w.tups.length-j/\j<=w.tups.length/\s 1=ic v/\s 4=ptr (d.nobj+1) 0/\s 5=ptr (d.nobj+2) 0/\s 6=ic a/\s 12=ptr o12 0/\s 15=ic pl/\s 16=ptr d3.nobj 0/\s 63=sl ip q.parts.length pc/\s 64=ic q.parts.length/\s 65=ic k/\s 85=sl idt w.tups.length (Cx w.tups)/\s 86=ic w.tups.length/\s 87=ic j/\Keep d d4/\d3.nobj<d4.nobj/\d4.obj (d.nobj+1)=[ic 0,nilS,nilS,nilS]/\d4.obj (d.nobj+2)=D6 f/\d4.obj o12=[ic q.head.p,sl ih q.head.ts.length (Ac q.head.ts),sl i3 k xs,sl inn q.nots.length nc]/\d4.obj d3.nobj=[ic w.a.p,sl id w.a.ts.length (Ac w.a.ts),sl i5 o.length ys]/\Own d d4 i3 k/\Own d d4 i5 o.length/\(i5=1\/i5≠i3)/\o.length<=j/\ys.length=o.length*3/\Aec (ys=Cx o/\o=(w.tups.take j).filter fun t=>Dd q.parts v (G9 t pl))) w.tups.length
     ⟨0,1,[],[],Ad6,Ad6,Ad7,Ad7,Ad7,Ad7,Ad7,Ad8,Ad8,Ad7,Ad7,Ad7,Ad8,Ad8,rfl,(a6.new _).put Ad6 _,Aeb,?_,?_,?_,?_,Own.put (Own.new bo _) _ _,Own.nil _ _,.inl rfl,by simp,by simp,⟨rfl,by simp⟩⟩ ?_
    ·rw[Aj Ad6,Ae Ad6,p1]
    ·rw[Aj Ad6,Ae Ad6,p2]
    ·rw[Aj Ad6,Ae Ad6,p3]
    ·rw[Ak];simp
    have c5:o12<d3.nobj:=Ad6;clear p1 p2 p3 h1 h4 h5 h6 b3 b2 b1 b0 hK a4 av au bc hO bo a6 a7 hX ao;rintro m s d4 ⟨j,i5,o,ys,rfl,hj,h1,h4,h5,h6,b3,cz,cy,b2,b1,b0,cu,ct,cr,hK,a4,av,au,bc,cm,bz,hO,b8,co,b5,hX⟩;have b4:=hK.nobj;by_cases ap:j<w.tups.length
    ·have ac:=List.getElem?_eq_getElem ap;obtain⟨am,r2,bl⟩:=Fs a5 ac;obtain⟨x,aw,hx⟩:=a8 _ (Ac2 ap) pl a0;generalize w.tups[j]=t at bl ac am aw;have cb:=Iu aw;have HF:Aec ((w.tups.take (j+1)).filter (fun t=>Dd q.parts v (G9 t pl))=(w.tups.take j).filter (fun t=>Dd q.parts v (G9 t pl))++if f x=a then [t]else []):=by
      have bd:G9 t pl=(x:Int):=by simp[G9,aw]
      rw[Aec,Abv,ac,Ac5,Db,bd];congr 1;have h1:=hA.out x;by_cases e:f x=a
      ·rw[if_pos e,if_pos (h1.1 e)]
      ·rw[if_neg e,if_neg (fun h=>e (h1.2 h))]
     clear ac aw;have f1:=C9 am;have f2:=He am;have f3:=Dn am;have f4:=Gz am;have f5:=Ce t;have f6:=No am;have g1:=Sv f hx;have g3:=Su f;have cp:=ba x;by_cases hm:f x=a
     ·have HX:Aec (ys++icells t=Cx (o++[t])/\o++[t]=(w.tups.take (j+1)).filter fun t=>Dd q.parts v (G9 t pl)):=by
       obtain⟨x1,x2⟩:=hX.out;exact⟨by rw[x1,Ke],by rw[HF.out,if_pos hm,x2]⟩
      have hb:((f x:Int)==(a:Int))=true:=by simp[hm]
      clear hX HF hm
      repeat' (first|refine Z1 ?_|(refine Z8 ?_;intro κ hκ)|(refine Z4 ?_;clear hκ κ)|(refine Z2 ?_ ?_<;>intro h ah<;>try exact Xp)|(refine Z6 ?_;intro idn dn aj ak ae aa af ab)|refine Z3 ?_|exact⟨⟩|(apply hκ.out;clear hκ κ))
      refine Gu (by first|exact E0|exact Di) ((hK.new _).put hK.nobj _) (Own.put (Own.new hO _) _ _) (by decide) (by rfl) b5 (by rw[f1]) f5 (by decide) Ad6 Ad6 ?_;intro idn dn aj ak ae aa af ab bf;obtain⟨bp,b7⟩:=bf i3 k (Own.put (Own.new bz _) _ _) b8;simp only[Ab,Aa]at aa;have eob:∀p,p<d4.nobj->dn.obj p=d4.obj p:=fun p hp=>by rw[ae,Aj Ad6,Ae Ad6]
      refine Z3 ?_
      repeat' (first|refine Z1 ?_|(refine Z8 ?_;intro κ hκ)|(refine Z4 ?_;clear hκ κ)|(refine Z2 ?_ ?_<;>intro h ah<;>try exact Xp)|(refine Z6 ?_;intro idn dn aj ak ae aa af ab)|refine Z3 ?_|exact⟨⟩|(apply hκ.out;clear hκ κ))
      refine⟨w.tups.length-(j+1),Ad6,j+1,idn,o++[t],ys++icells t,?_⟩
      ((repeat' with_reducible refine And.intro ?_ ?_)<;>first|exact Xq|exact (ak.put Ad6 _)|exact (by simpa using Own.put aj _ _)|exact (Own.put bp _ _)|exact (HX)|exact Xs)
     ·have HX:Aec (ys=Cx o/\o=(w.tups.take (j+1)).filter fun t=>Dd q.parts v (G9 t pl)):=by
       obtain⟨x1,x2⟩:=hX.out;exact⟨x1,by rw[HF.out,if_neg hm,x2,Abz]⟩
      have hb:((f x:Int)==(a:Int))=false:=by simp;omega
      clear hX HF hm
      repeat' (first|refine Z1 ?_|(refine Z8 ?_;intro κ hκ)|(refine Z4 ?_;clear hκ κ)|(refine Z2 ?_ ?_<;>intro h ah<;>try exact Xp)|(refine Z6 ?_;intro idn dn aj ak ae aa af ab)|refine Z3 ?_|exact⟨⟩|(apply hκ.out;clear hκ κ))
      refine⟨w.tups.length-(j+1),Ad6,j+1,i5,o,ys,?_⟩
      ((repeat' with_reducible refine And.intro ?_ ?_)<;>first|exact Xq|exact (Own.put (Own.new hO _) _ _)|exact (Own.put (Own.new bz _) _ _)|exact (HX)|exact Xs)
    ·have bi:j=w.tups.length:=Ad6;subst bi;obtain⟨x1,x2⟩:=hX.out;rw[Abt]at x2;have HX:Aec (EL K3 ((q.parts.take (k+1)).map (Fj q.parts v)) (xs++[ic w.a.p,sl id w.a.ts.length (Ac w.a.ts),sl i5 o.length ys])):=by
      rw[Aec,HM.out];refine EL.append ce.out (EL.single ?_);rw[cj.out,<-x2];exact⟨id,i5,by rw[x1]⟩
     clear hX x1 x2
     repeat' (first|refine Z1 ?_|(refine Z8 ?_;intro κ hκ)|(refine Z4 ?_;clear hκ κ)|(refine Z2 ?_ ?_<;>intro h ah<;>try exact Xp)|(refine Z6 ?_;intro idn dn aj ak ae aa af ab)|refine Z3 ?_|exact⟨⟩|(apply hκ.out;clear hκ κ))
     refine⟨q.parts.length-(k+1),Ad6,k+1,idn,xs++[ic w.a.p,sl id w.a.ts.length (Ac w.a.ts),sl i5 o.length ys],?_⟩
     ((repeat' with_reducible refine And.intro ?_ ?_)<;>first|exact Xq|exact (ak.put Ad6 _)|exact (Own.put aj _ _)|exact (HX)|exact Xs)
  ·have b9:k=q.parts.length:=Ad6;subst b9;rw[Abt]at hX;have cg:(q.parts.map (Fj q.parts v)).length=q.parts.length:=by rw[Adc]
   repeat' (first|refine Z1 ?_|(refine Z8 ?_;intro κ hκ)|(refine Z4 ?_;clear hκ κ)|(refine Z2 ?_ ?_<;>intro h ah<;>try exact Xp)|(refine Z6 ?_;intro idn dn aj ak ae aa af ab)|refine Z3 ?_|exact⟨⟩|(apply hκ.out;clear hκ κ))
   exact⟨_,rfl,⟨_,rfl,ih,i3,inn,xs,nc,by simp only[Eu];rw[cg],hX.out,cf⟩,hK.put Ad6 _⟩
end Go.Proofs.YtmoeoppbmhfbpabGreatDoorJ
