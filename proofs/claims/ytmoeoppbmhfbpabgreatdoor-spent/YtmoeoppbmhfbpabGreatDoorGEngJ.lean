import Derived.Test.YtmoeoppbmhfbpabGreatDoorGEngI
set_option maxHeartbeats 32000000
set_option maxRecDepth 100000
set_option linter.all false
namespace Go.Proofs.YtmoeoppbmhfbpabGreatDoorG
open Go.Abs
def Num (ar:Nat)(t:Ca):Prop:=∀i,i<ar->∃k:Nat,t[i]?=some (k:Int)/\k<1026
def QN (q:Qry):Prop:=∀p∈q.parts,∀t∈p.tups,Num p.a.ts.length t
def F4 (f:Nat->Bool):List AV:=(List.range 1026).map fun i=>sc (.bool (f i))
theorem fG:qH 1026 (.bool false)=F4 fun _=>false:=by
 unfold qH F4;rw[List.map_const'];simp[cst1]
theorem jZ (f:Nat->Bool):(F4 f).length=1026:=by simp[F4]
theorem kA (f:Nat->Bool){k:Nat}(h:k<1026):(F4 f)[k]?=some (sc (.bool (f k))):=by simp[F4,h]
theorem jY (f:Nat->Bool){k:Nat}(h:k<1026)(b:Bool):(F4 f).set k (sc (.bool b))=F4 fun j=>if j=k then b else f j:=by
 apply Ad8;intro n;rw[List.getElem?_set];by_cases hn:n<1026
 ·by_cases he:k=n
  ·subst he;simp[F4,hn]
  ·have:n≠k:=fun e=>he e.symm;simp[F4,hn,he,this]
 ·have:k≠n:=Agm;simp[F4,hn,this]
def nQ (pl:Int)(acc:List Int)(t:Ca):List Int:=if Hh t pl∈acc then acc else acc++[Hh t pl]
def Vi (tups:List Ca)(pl:Int):List Int:=tups.foldl (nQ pl) []
def Kl (q:Qry)(v:Int):List Int:=match q.parts.find? (fun p=>Bc p.a.ts v)with
 |some p=>Vi p.tups (H5 p.a.ts v)
 |none=>[]
theorem pN {α:Type}{f:α->Bool}{l:List α}{i:Nat}{x:α}(hn:∀y∈l.take i,f y=false)(hi:l[i]?=some x)(hx:f x=true):l.find? f=some x:=by
 have aa:=(List.getElem?_eq_some_iff.1 hi);obtain⟨h1,h2⟩:=aa
 conv=>lhs;rw[<-Afn i l]
 rw[List.find?_append,List.find?_eq_none.2 (fun y hy=>by rw[hn y hy];simp),Aep h1,h2];simp[hx]
theorem J6 (q:Qry)(c:List AV)(v:Int)(hc:EQ q c)(hq:Nx q)(hN:QN q)(d:St):ACalls Tryz.prog 189 [ag c,ic v] d fun r d'=>(∃id,r=sl id (Kl q v).length (As (Kl q v)))/\Keep d d':=by
 obtain⟨ih,ip,inn,pc,nc,rfl,hP,-⟩:=hc;have hpl:=EL.length D3 hP;have hl:=hq.pl;have hz:=fG;refine Z9 53 [.tmp 4] Tryz.func189 ?_
 repeat' (first|refine Z1 ?_|(refine Z8 ?_;intro κ hκ)|(refine Z4 ?_;clear hκ κ)|(refine Z2 ?_ ?_<;>intro h af<;>try exact Xp)|(refine Z6 ?_;intro idn dn ai aj ae aa ad ab)|refine Z3 ?_|exact⟨⟩|(apply hκ.out;clear hκ κ))
 refine Ag (fun m s d'=>∃i:Nat,m=q.parts.length-i/\i<=q.parts.length/\s 1=ic v/\s 5=nilS/\s 6=ptr (d.nobj+1) 0/\s 14=sl ip q.parts.length pc/\s 15=ic q.parts.length/\s 16=ic i/\Keep d d'/\d.nobj+1<d'.nobj/\d'.obj (d.nobj+1)=F4 (fun _=>false)/\Agt (∀p∈q.parts.take i,Bc p.a.ts v=false)) q.parts.length
  ⟨0,Agm,Agm,by simp[upd,initS],Ago,Ago,Ago,Ago,rfl,Xs,Agq,?_,by simp[Agt]⟩ ?_
 ·rw[Bs Agq Agq]
 rintro m s d' ⟨i,rfl,hi,h1,h5,h6,bm,bi,bh,hK,hno,aw,hA⟩;have a6:=hK.nobj;by_cases ap:i<q.parts.length
 ·have ac:=List.getElem?_eq_getElem ap;obtain⟨id,idt,r,hd⟩:=Ew hP ac;have bg:=hq.pa _ (Afa ap);have bf:=hq.pt _ (Afa ap);have a3:=hq.p3 _ (Afa ap);have a7:=hN _ (Afa ap);generalize q.parts[i]=w at hd ac bg bf a3 a7;have bb:w.a.ts.length<=1000:=Agm;have av:=fun d=>Fq w.a.p id w.a.ts v bb d;have a5:Keep d ((d'.new [ic 0,nilS,nilS]).put d'.nobj [ic w.a.p,sl id w.a.ts.length (Ac w.a.ts),sl idt w.tups.length (Ej w.tups)]):=(hK.new _).put hK.nobj _;cases hv:Bc w.a.ts v with
  |false=>
   have hp:H5 w.a.ts v= -1:=Jc (by simpa[Bc]using hv);have HS:Agt (∀p∈q.parts.take (i+1),Bc p.a.ts v=false):=by
    rw[Agt,Ad3,ac,Afe];intro p hp;rcases Aew.1 hp with hp|hp
    ·exact hA.out p hp
    ·simp at hp;subst hp;exact hv
   rw[hp]at av;clear hp ac hA
   repeat' (first|refine Z1 ?_|(refine Z8 ?_;intro κ hκ)|(refine Z4 ?_;clear hκ κ)|(refine Z2 ?_ ?_<;>intro h af<;>try exact Xp)|(refine Z6 ?_;intro idn dn ai aj ae aa ad ab)|(refine Z5 ?_;refine Xi (av _) ?_;rintro _ _ ⟨rfl,ak⟩;(have am:=ak.nobj;have ah:=ak.obj;have a4:=a5.trans ak;simp only[Ab,Aa]at am ah))|refine Z3 ?_|exact⟨⟩|(apply hκ.out;clear hκ κ))
   refine⟨q.parts.length-(i+1),Agm,i+1,?_⟩
   ((repeat' with_reducible refine And.intro ?_ ?_)<;>first|exact Xq|exact (HS)|exact Xs)
  |true=>
   obtain⟨pl,ax,ay⟩:=Jd hv;have HR:Agt (Kl q v=Vi w.tups pl):=by rw[Agt,Kl,pN hA.out ac hv];simp only[ay]
   rw[ay]at av;clear ay ac hA;have a9:pl<3:=Agm;have ba:((pl:Int)== -1)=false:=by simp
   have bo:=Io a3
   repeat' (first|refine Z1 ?_|(refine Z8 ?_;intro κ hκ)|(refine Z4 ?_;clear hκ κ)|(refine Z2 ?_ ?_<;>intro h af<;>try exact Xp)|(refine Z6 ?_;intro idn dn ai aj ae aa ad ab)|(refine Z5 ?_;refine Xi (av _) ?_;rintro _ _ ⟨rfl,ak⟩;(have am:=ak.nobj;have ah:=ak.obj;have a4:=a5.trans ak;simp only[Ab,Aa]at am ah))|refine Z3 ?_|exact⟨⟩|(apply hκ.out;clear hκ κ))
   rename_i d1;have o1:d1.obj (d.nobj+1)=F4 (fun _=>false):=by rw[ah _ Agm,Ai Agm,Af Agm,aw]
   clear ah ak
   refine Ag (fun m s d''=>∃(j i3:Nat) (vs:List Int) (f:Nat->Bool),m=w.tups.length-j/\j<=w.tups.length/\s 5=sl i3 vs.length (As vs)/\s 6=ptr (d.nobj+1) 0/\s 9=ic pl/\s 27=sl idt w.tups.length (Ej w.tups)/\s 28=ic w.tups.length/\s 29=ic j/\Keep d d''/\d.nobj+1<d''.nobj/\d''.obj (d.nobj+1)=F4 f/\Own d d'' i3 vs.length/\vs.length<=j/\Agt (vs=Vi (w.tups.take j) pl/\∀k:Nat,f k=true↔(k:Int)∈vs)) w.tups.length
    ⟨0,1,[],fun _=>false,Agm,Agm,by simp[upd, *,As],Agn,Ago,Ago,Ago,rfl,a4,Agm,o1,Own.nil _ _,by simp,by simp[Vi],by simp⟩ ?_
   clear o1 h1 h5 h6 bm bi bh hK hno aw a6 a4 a5;rintro m s d'' ⟨j,i3,vs,f,rfl,hj,h5,h6,h9,bu,br,bq,hK,hno,aw,hO,bn,hX⟩;have a6:=hK.nobj;have az:=Bp vs;by_cases ao:j<w.tups.length
   ·have ac:=List.getElem?_eq_getElem ao;obtain⟨an,r2,be⟩:=I7 a3 ac;obtain⟨x,au,hx⟩:=a7 _ (Afa ao) pl ax;generalize w.tups[j]=t at be ac an au;have bp:=No au;have HS:Agt (Vi (w.tups.take (j+1)) pl=if (x:Int)∈vs then vs else vs++[(x:Int)]):=by
     have a8:Hh t pl=(x:Int):=by simp[Hh,au]
     rw[Agt,Ad3,ac,Afe,Vi,Afw,hX.out.1];simp only[Ady,List.foldl_nil,nQ,a8];rfl
    clear ac au;have f1:=G9 an;have f2:=L5 an;have f3:=H3 an;have f4:=Nm an;have f5:=Ep t;have f6:=X8 an;have g1:=kA f hx;have g2:=jY f hx true;have g3:=jZ f;by_cases hm:(x:Int)∈vs
    ·have a0:f x=true:=(hX.out.2 x).2 hm;have HX:Agt (vs=Vi (w.tups.take (j+1)) pl/\∀k:Nat,f k=true↔(k:Int)∈vs):=⟨by rw[HS.out,if_pos hm],hX.out.2⟩;rw[a0]at g1;clear hX HS hm g2
     repeat' (first|refine Z1 ?_|(refine Z8 ?_;intro κ hκ)|(refine Z4 ?_;clear hκ κ)|(refine Z2 ?_ ?_<;>intro h af<;>try exact Xp)|(refine Z6 ?_;intro idn dn ai aj ae aa ad ab)|refine Z3 ?_|exact⟨⟩|(apply hκ.out;clear hκ κ))
     refine⟨w.tups.length-(j+1),Agm,j+1,i3,vs,f,?_⟩
     ((repeat' with_reducible refine And.intro ?_ ?_)<;>first|exact Xq|exact (Own.put (Own.new hO _) _ _)|exact (HX)|exact Xs)
    ·have a0:f x=false:=by
      cases h:f x with
      |false=>rfl
      |true=>exact absurd ((hX.out.2 x).1 h) hm
     have HX:Agt (vs++[(x:Int)]=Vi (w.tups.take (j+1)) pl/\∀k:Nat,(if k=x then true else f k)=true↔(k:Int)∈vs++[(x:Int)]):=by
      refine⟨by rw[HS.out,if_neg hm],fun k=>?_⟩;have h2:=hX.out.2 k;by_cases e:k=x
      ·subst e;simp
      ·rw[if_neg e,h2];have:¬(k:Int)=(x:Int):=Agm;simp[this]
     rw[a0]at g1;clear hX HS hm
     repeat' (first|refine Z1 ?_|(refine Z8 ?_;intro κ hκ)|(refine Z4 ?_;clear hκ κ)|(refine Z2 ?_ ?_<;>intro h af<;>try exact Xp)|(refine Z6 ?_;intro idn dn ai aj ae aa ad ab)|refine Z3 ?_|exact⟨⟩|(apply hκ.out;clear hκ κ))
     refine Bm (by first|exact Po) (((hK.new _).put hK.nobj _).put Agm _) (Own.put (Own.put (Own.new hO _) _ _) _ _) (by decide) (by rfl) (by rw[az,Nat.mul_one]) (by rfl) (by rfl) (by decide) Agm Agm ?_;intro idn dn ai aj ae aa ad ab;simp only[Ab,Aa]at aa;refine Z3 ?_
     repeat' (first|refine Z1 ?_|(refine Z8 ?_;intro κ hκ)|(refine Z4 ?_;clear hκ κ)|(refine Z2 ?_ ?_<;>intro h af<;>try exact Xp)|(refine Z6 ?_;intro idn dn ai aj ae aa ad ab)|refine Z3 ?_|exact⟨⟩|(apply hκ.out;clear hκ κ))
     refine⟨w.tups.length-(j+1),Agm,j+1,idn,vs++[(x:Int)],fun k=>if k=x then true else f k,?_⟩
     ((repeat' with_reducible refine And.intro ?_ ?_)<;>first|exact Xq|exact (by simpa using ai)|exact (HX)|exact (by simp[As])|exact Xs)
   ·have bd:j=w.tups.length:=Agm;subst bd;obtain⟨x1,-⟩:=hX.out;rw[Adz]at x1;rw[<-x1]at HR;have HR:=HR.out
    repeat' (first|refine Z1 ?_|(refine Z8 ?_;intro κ hκ)|(refine Z4 ?_;clear hκ κ)|(refine Z2 ?_ ?_<;>intro h af<;>try exact Xp)|(refine Z6 ?_;intro idn dn ai aj ae aa ad ab)|refine Z3 ?_|exact⟨⟩|(apply hκ.out;clear hκ κ))
    first|exact⟨_,rfl,⟨i3,rfl⟩,hK⟩|exact⟨_,rfl,⟨i3,by rw[HR]⟩,hK⟩|exact⟨_,rfl,⟨i3,rfl⟩⟩|exact⟨_,rfl,i3,rfl⟩
 ·have az:i=q.parts.length:=Agm;subst az;rw[Adz]at hA;have HR:Kl q v=[]:=by
   unfold Kl;rw[List.find?_eq_none.2 (fun p hp=>by rw[hA.out p hp];simp)]
  repeat' (first|refine Z1 ?_|(refine Z8 ?_;intro κ hκ)|(refine Z4 ?_;clear hκ κ)|(refine Z2 ?_ ?_<;>intro h af<;>try exact Xp)|(refine Z6 ?_;intro idn dn ai aj ae aa ad ab)|refine Z3 ?_|exact⟨⟩|(apply hκ.out;clear hκ κ))
  first|exact⟨_,rfl,⟨1,rfl⟩,hK⟩|exact⟨_,rfl,⟨1,by rw[HR];rfl⟩,hK⟩|exact⟨_,rfl,1,rfl⟩|exact⟨_,rfl,1,by rw[HR];rfl⟩
theorem G5 {P:Program}{t:TypeId}{z b:Nat}{zc:List Value}{σ0 d:St}{id id2 n m m':Nat}{xs ys:List AV}{K:AV->St->Prop}(ht:M6 P t=some (z,b,zc))(hK:Keep σ0 d)(hO:Own σ0 d id n)
  (hz:0<z) (hzc:zc.length=z) (hx:xs.length=n*z) (hy:ys.length=m*z) (hf:ys.all flat=true) (hm:0<m) (hb:(n+m)*b<=140737488355328) (hl:n+m<=1099511627776)
  (h:∀id' d',Own σ0 d' id' (n+m)->Keep σ0 d'->d'.obj=d.obj->d'.nobj=d.nobj->d'.ver=d.ver->d.ntop<d'.ntop->(∀i k,Own σ0 d i k->(id=1\/id≠i)->Own σ0 d' i k/\(id'=1\/id'≠i))->K (sl id' (n+m) (xs++ys)) d'):Ie P t t (sl id n xs) (sl id2 m ys) (d.lay m') K:=by
 unfold Ie aB;left;simp only[ht];rw[if_pos ⟨trivial,hz,hzc,hx,hy,hf,hm,hb,hl⟩];rcases hO with⟨rfl,rfl⟩|⟨k,rfl,h2,h3,h4,h5⟩
 ·have ab:xs=[]:=Adx (by simpa using hx);subst ab
  have:=h ((d.lay m').ntop+2) ((d.lay m').lay m) (by rw[Aed];exact Own.made (hK.lay m') hm) ((hK.lay m').lay m) rfl rfl rfl (by simp[St.lay];omega) (fun i k ho _=>by
   refine⟨ho.keep (((Keep.refl _).lay _).lay _),?_⟩;right;rcases ho with⟨rfl,-⟩|⟨j,rfl,-,hj,-⟩
   ·simp[St.lay]
   ·simp[St.lay];omega)
  simpa using this
 ·have e1:(d.lay m').top k=n:=by simp[St.lay];rw[if_neg Agm];exact h4
  simp only;rw[if_pos ⟨e1,h5⟩]
  exact h (k+2) _ (.inr ⟨k,rfl,h2,by simp[St.raise,St.lay];omega,by simp[St.raise],Agm⟩) ((hK.lay m').raise h2 _) rfl rfl rfl (by simp[St.raise,St.lay]) (fun i j ho aa=>by
   have aa:k+2≠i:=by rcases aa with h|h<;>omega
   refine⟨?_,.inr aa⟩;rcases ho with ho|⟨j',rfl,g1,g2,g3,g4⟩
   ·exact .inl ho
   ·exact .inr ⟨j',rfl,g1,by simp[St.raise,St.lay];omega,by simp[St.raise,St.lay];rw[if_neg Agm,if_neg Agm];exact g3,g4⟩)
def Em (f:Nat->Nat):List AV:=(List.range 1026).map fun i=>ic (f i:Nat)
theorem dY:qH 1026 (.int .i64 0)=Em fun _=>0:=by
 unfold qH Em;rw[List.map_const'];simp[cst1]
theorem T7 (f:Nat->Nat):(Em f).length=1026:=by simp[Em]
theorem T8 (f:Nat->Nat){k:Nat}(h:k<1026):(Em f)[k]?=some (ic (f k:Nat)):=by simp[Em,h]
theorem iW (f:Nat->Nat){k:Nat}(h:k<1026)(b:Nat):(Em f).set k (ic (b:Nat))=Em fun j=>if j=k then b else f j:=by
 apply Ad8;intro n;rw[List.getElem?_set];by_cases hn:n<1026
 ·by_cases he:k=n
  ·subst he;simp[Em,hn]
  ·have:n≠k:=fun e=>he e.symm;simp[Em,hn,he,this]
 ·have:k≠n:=Agm;simp[Em,hn,this]
def occ (v:Int)(n:Int)(p:Part):Bool:=p.tups.any fun t=>Hh t (H5 p.a.ts v)==n
def Dj (l:List Part)(v n:Int):Bool:=l.all fun p=>!Bc p.a.ts v||occ v n p
def Fu (l:List Part)(v:Int)(p:Part):Part:=if Bc p.a.ts v=true then⟨p.a,p.tups.filter fun t=>Dj l v (Hh t (H5 p.a.ts v))⟩else p
def Fb (q:Qry)(v:Int):Qry:={q with parts:=q.parts.map (Fu q.parts v)}
def gF (f:Nat->Nat)(a:Nat)(pl:Int)(l:List Ca)(k:Nat):Nat:=if f k=a/\l.any (fun t=>Hh t pl==(k:Int))=true then a+1 else f k
theorem zA {f:Nat->Nat}{a:Nat}{pl:Int}{l:List Ca}{t:Ca}{x:Nat}(ht:Hh t pl=(x:Int)):gF f a pl (l++[t])=fun k=>if k=x/\gF f a pl l x=a then a+1 else gF f a pl l k:=by
 funext k;have aa:(l++[t]).any (fun t=>Hh t pl==(k:Int))=(l.any (fun t=>Hh t pl==(k:Int))||decide (k=x)):=by
  rw[Afu];simp only[List.any_cons,List.any_nil,Bool.or_false,ht];congr 1;by_cases e:k=x
  ·subst e;simp
  ·have:¬(x:Int)=(k:Int):=Agm;simp[e,this]
 unfold gF;rw[aa];by_cases e:k=x
 ·subst e;by_cases h1:f k=a
  ·cases h2:l.any (fun t=>Hh t pl==(k:Int))<;>simp[h1]
  ·simp[h1]
 ·simp[e]
theorem Aby (f:Nat->Nat)(a:Nat)(pl:Int):gF f a pl []=f:=by funext k;simp[gF]
theorem eY (q:Qry)(c:List AV)(v:Int)(hc:EQ q c)(hq:Nx q)(hN:QN q)(d:St):ACalls Tryz.prog 255 [ag c,ic v] d fun r d'=>(∃c',r=ag c'/\EQ (Fb q v) c')/\Keep d d':=by
 obtain⟨ih,ip,inn,pc,nc,rfl,hP,cf⟩:=hc;have hpl:=EL.length D3 hP;have hl:=hq.pl;have hz:=dY;refine Z9 113 [.cell 4 191] Tryz.func255 ?_
 repeat' (first|refine Z1 ?_|(refine Z8 ?_;intro κ hκ)|(refine Z4 ?_;clear hκ κ)|(refine Z2 ?_ ?_<;>intro h ah<;>try exact Xp)|(refine Z6 ?_;intro idn dn aj ak ae aa af ab)|refine Z3 ?_|exact⟨⟩|(apply hκ.out;clear hκ κ))
 refine Ag (fun m s d'=>∃(i a:Nat) (f:Nat->Nat),m=q.parts.length-i/\i<=q.parts.length/\s 1=ic v/\s 2=ptr d.nobj 0/\s 4=ptr (d.nobj+1) 0/\s 5=ptr (d.nobj+2) 0/\s 6=ic a/\s 20=sl ip q.parts.length pc/\s 21=ic q.parts.length/\s 22=ic i/\Keep d d'/\d.nobj+2<d'.nobj/\d'.obj d.nobj=[ic q.head.p,sl ih q.head.ts.length (Ac q.head.ts),sl ip q.parts.length pc,sl inn q.nots.length nc]/\d'.obj (d.nobj+1)=[ic 0,nilS,nilS,nilS]/\d'.obj (d.nobj+2)=Em f/\a<=i/\(∀k,f k<=a)/\Agt (∀k,f k=a↔Dj (q.parts.take i) v (k:Int)=true)) q.parts.length
  ⟨0,0,fun _=>0,Agm,Agm,by simp[upd,initS],Ago,Ago,Ago,Ago,Ago,Ago,rfl,Xs,Agq,?_,?_,?_,Agm,by simp,by simp[Agt,Dj]⟩ ?_
 ·rw[Af Agq,Af Agq,Ap]
 ·rw[Af Agq,Bs Agq Agq]
 ·rw[Bs Agq Agq]
 rintro m s d' ⟨i,a,f,rfl,hi,h1,h2,h4,h5,h6,bw,bv,bu,hK,hno,a8,av,au,cp,a9,hA⟩;have bz:=hK.nobj;by_cases an:i<q.parts.length
 ·have ac:=List.getElem?_eq_getElem an;obtain⟨id,idt,r,hd⟩:=Ew hP ac;have bo:=hq.pa _ (Afa an);have bn:=hq.pt _ (Afa an);have a4:=hq.p3 _ (Afa an);have a7:=hN _ (Afa an);generalize q.parts[i]=w at hd ac bo bn a4 a7;have bh:w.a.ts.length<=1000:=Agm;have ax:=fun d=>Fq w.a.p id w.a.ts v bh d;have a6:Keep d ((d'.new [ic 0,nilS,nilS]).put d'.nobj [ic w.a.p,sl id w.a.ts.length (Ac w.a.ts),sl idt w.tups.length (Ej w.tups)]):=(hK.new _).put hK.nobj _;have ba:Agt (∀n,Dj (q.parts.take (i+1)) v n=(Dj (q.parts.take i) v n&&(!Bc w.a.ts v||occ v n w))):=by
   intro n;rw[Ad3,ac,Afe,Dj,List.all_append];simp[Dj]
  clear ac;cases hv:Bc w.a.ts v with
  |false=>
   have hp:H5 w.a.ts v= -1:=Jc (by simpa[Bc]using hv);have HS:Agt (∀k,f k=a↔Dj (q.parts.take (i+1)) v (k:Int)=true):=by
    intro k;rw[ba.out,hv,hA.out k];simp
   rw[hp]at ax;clear hp hA ba
   repeat' (first|refine Z1 ?_|(refine Z8 ?_;intro κ hκ)|(refine Z4 ?_;clear hκ κ)|(refine Z2 ?_ ?_<;>intro h ah<;>try exact Xp)|(refine Z6 ?_;intro idn dn aj ak ae aa af ab)|(refine Z5 ?_;refine Xi (ax _) ?_;rintro _ _ ⟨rfl,ai⟩;(have ao:=ai.nobj;have ad:=ai.obj;have a5:=a6.trans ai;simp only[Ab,Aa]at ao ad))|refine Z3 ?_|exact⟨⟩|(apply hκ.out;clear hκ κ))
   refine⟨q.parts.length-(i+1),Agm,i+1,a,f,?_⟩
   ((repeat' with_reducible refine And.intro ?_ ?_)<;>first|exact Xq|exact (HS)|exact Xs)
  |true=>
   obtain⟨pl,a0,a3⟩:=Jd hv;have HS:Agt (∀k,gF f a pl w.tups k=a+1↔Dj (q.parts.take (i+1)) v (k:Int)=true):=by
    intro k;have h1:=hA.out k;have h2:=a9 k;rw[ba.out,hv,Adv,<-h1];simp only[Ael,Bool.false_or,occ,a3];unfold gF;by_cases hc:f k=a/\w.tups.any (fun t=>Hh t pl==(k:Int))=true
    ·rw[if_pos hc];exact⟨fun _=>hc,fun _=>rfl⟩
    ·rw[if_neg hc];exact⟨fun h=>Agm,fun h=>absurd h hc⟩
   have ci:Agt (∀k,gF f a pl w.tups k<=a+1):=by
    intro k;have h2:=a9 k;unfold gF;split<;>omega
   rw[a3]at ax;clear a3 hA ba;have be:pl<3:=Agm;have bg:((pl:Int)== -1)=false:=by simp
   have b7:=Io a4
   repeat' (first|refine Z1 ?_|(refine Z8 ?_;intro κ hκ)|(refine Z4 ?_;clear hκ κ)|(refine Z2 ?_ ?_<;>intro h ah<;>try exact Xp)|(refine Z6 ?_;intro idn dn aj ak ae aa af ab)|(refine Z5 ?_;refine Xi (ax _) ?_;rintro _ _ ⟨rfl,ai⟩;(have ao:=ai.nobj;have ad:=ai.obj;have a5:=a6.trans ai;simp only[Ab,Aa]at ao ad))|refine Z3 ?_|exact⟨⟩|(apply hκ.out;clear hκ κ))
   rename_i d1;have p0:d1.obj d.nobj=[ic q.head.p,sl ih q.head.ts.length (Ac q.head.ts),sl ip q.parts.length pc,sl inn q.nots.length nc]:=by rw[ad _ Agm,Ai Agm,Af Agm,a8]
   have p1:d1.obj (d.nobj+1)=[ic 0,nilS,nilS,nilS]:=by rw[ad _ Agm,Ai Agm,Af Agm,av]
   have p2:d1.obj (d.nobj+2)=Em f:=by rw[ad _ Agm,Ai Agm,Af Agm,au]
   clear ad ai
   refine Ag (fun m s d''=>∃(j:Nat) (g:Nat->Nat),m=w.tups.length-j/\j<=w.tups.length/\s 1=ic v/\s 2=ptr d.nobj 0/\s 4=ptr (d.nobj+1) 0/\s 5=ptr (d.nobj+2) 0/\s 6=ic a/\s 9=ic pl/\s 20=sl ip q.parts.length pc/\s 21=ic q.parts.length/\s 22=ic i/\s 33=sl idt w.tups.length (Ej w.tups)/\s 34=ic w.tups.length/\s 35=ic j/\Keep d d''/\d.nobj+2<d''.nobj/\d''.obj d.nobj=[ic q.head.p,sl ih q.head.ts.length (Ac q.head.ts),sl ip q.parts.length pc,sl inn q.nots.length nc]/\d''.obj (d.nobj+1)=[ic 0,nilS,nilS,nilS]/\d''.obj (d.nobj+2)=Em g/\(∀k,g k<=a+1)/\Agt (g=gF f a pl (w.tups.take j))) w.tups.length
    ⟨0,f,Agm,Agm,Agn,Agn,Agn,Agn,Agn,Ago,Agn,Agn,Agn,Ago,Ago,rfl,a5,Agm,p0,p1,p2,fun k=>by have:=a9 k;omega,by simp[Agt,Aby]⟩ ?_
   clear p0 p1 p2 h1 h2 h4 h5 h6 bw bv bu hK hno a8 av au bz a5 a6;rintro m s d'' ⟨j,g,rfl,hj,h1,h2,h4,h5,h6,h9,bw,bv,bu,cv,cu,ct,hK,hno,a8,av,au,cd,hX⟩;have bz:=hK.nobj;by_cases ap:j<w.tups.length
   ·have ac:=List.getElem?_eq_getElem ap;obtain⟨am,r2,bm⟩:=I7 a4 ac;obtain⟨x,aw,hx⟩:=a7 _ (Afa ap) pl a0;generalize w.tups[j]=t at bm ac am aw;have cc:=No aw;have HG:Agt (gF f a pl (w.tups.take (j+1))=fun k=>if k=x/\g x=a then a+1 else g k):=by
     have bd:Hh t pl=(x:Int):=by simp[Hh,aw]
     rw[Agt,Ad3,ac,Afe,zA bd,hX.out]
    clear ac aw hX;have f1:=G9 am;have f2:=L5 am;have f3:=H3 am;have f4:=Nm am;have f5:=Ep t;have f6:=X8 am;have g1:=T8 g hx;have g2:=iW g hx (a+1);have g3:=T7 g;by_cases hm:g x=a
    ·have HX:Agt ((fun k=>if k=x then a+1 else g k)=gF f a pl (w.tups.take (j+1))):=by
      rw[Agt,HG.out];funext k;simp[hm]
     have hb:((g x:Int)==(a:Int))=true:=by simp[hm]
     rw[hm]at g1;have ay:((a+1:Nat):Int)=(a:Int)+1:=Agm;rw[ay]at g2;clear ay HG
     repeat' (first|refine Z1 ?_|(refine Z8 ?_;intro κ hκ)|(refine Z4 ?_;clear hκ κ)|(refine Z2 ?_ ?_<;>intro h ah<;>try exact Xp)|(refine Z6 ?_;intro idn dn aj ak ae aa af ab)|refine Z3 ?_|exact⟨⟩|(apply hκ.out;clear hκ κ))
     refine⟨w.tups.length-(j+1),Agm,j+1,fun k=>if k=x then a+1 else g k,?_⟩
     ((repeat' with_reducible refine And.intro ?_ ?_)<;>first|exact Xq|exact (HX)|exact (fun k=>by have:=cd k;dsimp only;split<;>omega)|exact Xs)
    ·have HX:Agt (g=gF f a pl (w.tups.take (j+1))):=by
      rw[Agt,HG.out];funext k;simp[hm]
     have hb:((g x:Int)==(a:Int))=false:=by simp;omega
     clear HG hm g2
     repeat' (first|refine Z1 ?_|(refine Z8 ?_;intro κ hκ)|(refine Z4 ?_;clear hκ κ)|(refine Z2 ?_ ?_<;>intro h ah<;>try exact Xp)|(refine Z6 ?_;intro idn dn aj ak ae aa af ab)|refine Z3 ?_|exact⟨⟩|(apply hκ.out;clear hκ κ))
     refine⟨w.tups.length-(j+1),Agm,j+1,g,?_⟩
     ((repeat' with_reducible refine And.intro ?_ ?_)<;>first|exact Xq|exact (HX)|exact Xs)
   ·have bi:j=w.tups.length:=Agm;subst bi;have hX:=hX.out;rw[Adz]at hX;subst hX
    repeat' (first|refine Z1 ?_|(refine Z8 ?_;intro κ hκ)|(refine Z4 ?_;clear hκ κ)|(refine Z2 ?_ ?_<;>intro h ah<;>try exact Xp)|(refine Z6 ?_;intro idn dn aj ak ae aa af ab)|refine Z3 ?_|exact⟨⟩|(apply hκ.out;clear hκ κ))
    refine⟨q.parts.length-(i+1),Agm,i+1,a+1,gF f a pl w.tups,?_⟩
    ((repeat' with_reducible refine And.intro ?_ ?_)<;>first|exact Xq|exact (HS)|exact (ci.out)|exact Xs)
 ·have cb:i=q.parts.length:=Agm;subst cb;rw[Adz]at hA;clear hi
  repeat' (first|refine Z1 ?_|(refine Z8 ?_;intro κ hκ)|(refine Z4 ?_;clear hκ κ)|(refine Z2 ?_ ?_<;>intro h ah<;>try exact Xp)|(refine Z6 ?_;intro idn dn aj ak ae aa af ab)|refine Z3 ?_|exact⟨⟩|(apply hκ.out;clear hκ κ))
  refine Ag (fun m s d2=>∃(k i3:Nat) (xs:List AV),m=q.parts.length-k/\k<=q.parts.length/\s 1=ic v/\s 4=ptr (d.nobj+1) 0/\s 5=ptr (d.nobj+2) 0/\s 6=ic a/\s 12=ptr d'.nobj 0/\s 63=sl ip q.parts.length pc/\s 64=ic q.parts.length/\s 65=ic k/\Keep d d2/\d'.nobj<d2.nobj/\d2.obj (d.nobj+1)=[ic 0,nilS,nilS,nilS]/\d2.obj (d.nobj+2)=Em f/\d2.obj d'.nobj=[ic q.head.p,sl ih q.head.ts.length (Ac q.head.ts),sl i3 k xs,sl inn q.nots.length nc]/\Own d d2 i3 k/\xs.length=k*3/\Agt (EL Lr ((q.parts.take k).map (Fu q.parts v)) xs)) q.parts.length
   ⟨0,1,[],Agm,Agm,Agn,Agn,Agn,Agn,Ago,Ago,Ago,rfl,(hK.new _).put hK.nobj _,Ags,?_,?_,?_,Own.nil _ _,by simp,by simp[Agt,EL]⟩ ?_
  ·rw[Ai Agm,Af Agm,av]
  ·rw[Ai Agm,Af Agm,au]
  ·rw[Aj]
  have ch:=hno;clear h1 h2 h4 h5 h6 bw bv bu an a8 av au hno hK;generalize br:d'.nobj=o12 at*
  clear br;rintro m s d2 ⟨k,i3,xs,rfl,hk,h1,h4,h5,h6,b4,b3,b2,b1,hK,hno,av,au,bb,hO,cm,hX⟩;have ao:=hK.nobj;by_cases an:k<q.parts.length
  ·have ac:=List.getElem?_eq_getElem an;obtain⟨id,idt,r,hd⟩:=Ew hP ac;have bo:=hq.pa _ (Afa an);have bn:=hq.pt _ (Afa an);have a4:=hq.p3 _ (Afa an);have a7:=hN _ (Afa an);generalize q.parts[k]=w at hd ac bo bn a4 a7;have bh:w.a.ts.length<=1000:=Agm;have ax:=fun d=>Fq w.a.p id w.a.ts v bh d;have a6:Keep d ((d2.new [ic 0,nilS,nilS]).put d2.nobj [ic w.a.p,sl id w.a.ts.length (Ac w.a.ts),sl idt w.tups.length (Ej w.tups)]):=(hK.new _).put hK.nobj _;have HM:Agt ((q.parts.take (k+1)).map (Fu q.parts v)=(q.parts.take k).map (Fu q.parts v)++[Fu q.parts v w]):=by
    rw[Agt,Ad3,ac];simp
   clear ac;cases hv:Bc w.a.ts v with
   |false=>
    have hp:H5 w.a.ts v= -1:=Jc (by simpa[Bc]using hv);have HX:Agt (EL Lr ((q.parts.take (k+1)).map (Fu q.parts v)) (xs++[ic w.a.p,sl id w.a.ts.length (Ac w.a.ts),sl idt w.tups.length (Ej w.tups)])):=by
     rw[Agt,HM.out];refine EL.append hX.out (EL.single ?_);rw[Fu,if_neg (by rw[hv];simp)];exact⟨id,idt,rfl⟩
    rw[hp]at ax;clear hp HM hX
    repeat' (first|refine Z1 ?_|(refine Z8 ?_;intro κ hκ)|(refine Z4 ?_;clear hκ κ)|(refine Z2 ?_ ?_<;>intro h ah<;>try exact Xp)|(refine Z6 ?_;intro idn dn aj ak ae aa af ab)|(refine Z5 ?_;refine Xi (ax _) ?_;rintro _ _ ⟨rfl,ai⟩;(have az:=ai.nobj;have ad:=ai.obj;have a5:=a6.trans ai;have bp:=Own.keep (Own.put (Own.new hO _) _ _) ai;simp only[Ab,Aa]at az ad))|refine Z3 ?_|exact⟨⟩|(apply hκ.out;clear hκ κ))
    refine⟨q.parts.length-(k+1),Agm,k+1,idn,xs++[ic w.a.p,sl id w.a.ts.length (Ac w.a.ts),sl idt w.tups.length (Ej w.tups)],?_⟩
    ((repeat' with_reducible refine And.intro ?_ ?_)<;>first|exact Xq|exact (ak.put Agm _)|exact (Own.put aj _ _)|exact (HX)|exact Xs)
   |true=>
    obtain⟨pl,a0,a3⟩:=Jd hv;have cj:Agt (Fu q.parts v w=⟨w.a,w.tups.filter fun t=>Dj q.parts v (Hh t pl)⟩):=by rw[Agt,Fu,if_pos hv,a3]
    rw[a3]at ax;clear a3;have be:pl<3:=Agm;have bg:((pl:Int)== -1)=false:=by simp
    have b7:=Io a4;have ce:Agt _:=hX
    repeat' (first|refine Z1 ?_|(refine Z8 ?_;intro κ hκ)|(refine Z4 ?_;clear hκ κ)|(refine Z2 ?_ ?_<;>intro h ah<;>try exact Xp)|(refine Z6 ?_;intro idn dn aj ak ae aa af ab)|(refine Z5 ?_;refine Xi (ax _) ?_;rintro _ _ ⟨rfl,ai⟩;(have az:=ai.nobj;have ad:=ai.obj;have a5:=a6.trans ai;have bp:=Own.keep (Own.put (Own.new hO _) _ _) ai;simp only[Ab,Aa]at az ad))|refine Z3 ?_|exact⟨⟩|(apply hκ.out;clear hκ κ))
    rename_i d3;have p1:d3.obj (d.nobj+1)=[ic 0,nilS,nilS,nilS]:=by rw[ad _ Agm,Ai Agm,Af Agm,av]
    have p2:d3.obj (d.nobj+2)=Em f:=by rw[ad _ Agm,Ai Agm,Af Agm,au]
    have p3:d3.obj o12=[ic q.head.p,sl ih q.head.ts.length (Ac q.head.ts),sl i3 k xs,sl inn q.nots.length nc]:=by rw[ad _ Agm,Ai Agm,Af Agm,bb]
    clear ad ai
    refine Ag (fun m s d4=>∃(j i5:Nat) (o:List Ca) (ys:List AV),m=w.tups.length-j/\j<=w.tups.length/\s 1=ic v/\s 4=ptr (d.nobj+1) 0/\s 5=ptr (d.nobj+2) 0/\s 6=ic a/\s 12=ptr o12 0/\s 15=ic pl/\s 16=ptr d3.nobj 0/\s 63=sl ip q.parts.length pc/\s 64=ic q.parts.length/\s 65=ic k/\s 85=sl idt w.tups.length (Ej w.tups)/\s 86=ic w.tups.length/\s 87=ic j/\Keep d d4/\d3.nobj<d4.nobj/\d4.obj (d.nobj+1)=[ic 0,nilS,nilS,nilS]/\d4.obj (d.nobj+2)=Em f/\d4.obj o12=[ic q.head.p,sl ih q.head.ts.length (Ac q.head.ts),sl i3 k xs,sl inn q.nots.length nc]/\d4.obj d3.nobj=[ic w.a.p,sl id w.a.ts.length (Ac w.a.ts),sl i5 o.length ys]/\Own d d4 i3 k/\Own d d4 i5 o.length/\(i5=1\/i5≠i3)/\o.length<=j/\ys.length=o.length*3/\Agt (ys=Ej o/\o=(w.tups.take j).filter fun t=>Dj q.parts v (Hh t pl))) w.tups.length
     ⟨0,1,[],[],Agm,Agm,Agn,Agn,Agn,Agn,Agn,Ago,Ago,Agn,Agn,Agn,Ago,Ago,rfl,(a5.new _).put Agm _,Ags,?_,?_,?_,?_,Own.put (Own.new bp _) _ _,Own.nil _ _,.inl rfl,by simp,by simp,⟨rfl,by simp⟩⟩ ?_
    ·rw[Ai Agm,Af Agm,p1]
    ·rw[Ai Agm,Af Agm,p2]
    ·rw[Ai Agm,Af Agm,p3]
    ·rw[Aj];simp
    have cy:o12<d3.nobj:=Agm;clear p1 p2 p3 h1 h4 h5 h6 b4 b3 b2 b1 hK hno av au bb hO bp a5 a6 hX ao;rintro m s d4 ⟨j,i5,o,ys,rfl,hj,h1,h4,h5,h6,b4,cx,cw,b3,b2,b1,cs,cr,cq,hK,hno,av,au,bb,ck,b0,hO,b9,cn,b6,hX⟩;have b5:=hK.nobj;by_cases ap:j<w.tups.length
    ·have ac:=List.getElem?_eq_getElem ap;obtain⟨am,r2,bm⟩:=I7 a4 ac;obtain⟨x,aw,hx⟩:=a7 _ (Afa ap) pl a0;generalize w.tups[j]=t at bm ac am aw;have cc:=No aw;have HF:Agt ((w.tups.take (j+1)).filter (fun t=>Dj q.parts v (Hh t pl))=(w.tups.take j).filter (fun t=>Dj q.parts v (Hh t pl))++if f x=a then [t]else []):=by
      have bd:Hh t pl=(x:Int):=by simp[Hh,aw]
      rw[Agt,Ad3,ac,Afe,Du,bd];congr 1;have h1:=hA.out x;by_cases e:f x=a
      ·rw[if_pos e,if_pos (h1.1 e)]
      ·rw[if_neg e,if_neg (fun h=>e (h1.2 h))]
     clear ac aw;have f1:=G9 am;have f2:=L5 am;have f3:=H3 am;have f4:=Nm am;have f5:=Ep t;have f6:=X8 am;have g1:=T8 f hx;have g3:=T7 f;have co:=a9 x;by_cases hm:f x=a
     ·have HX:Agt (ys++As t=Ej (o++[t])/\o++[t]=(w.tups.take (j+1)).filter fun t=>Dj q.parts v (Hh t pl)):=by
       obtain⟨x1,x2⟩:=hX.out;exact⟨by rw[x1,Oc],by rw[HF.out,if_pos hm,x2]⟩
      have hb:((f x:Int)==(a:Int))=true:=by simp[hm]
      clear hX HF hm
      repeat' (first|refine Z1 ?_|(refine Z8 ?_;intro κ hκ)|(refine Z4 ?_;clear hκ κ)|(refine Z2 ?_ ?_<;>intro h ah<;>try exact Xp)|(refine Z6 ?_;intro idn dn aj ak ae aa af ab)|refine Z3 ?_|exact⟨⟩|(apply hκ.out;clear hκ κ))
      refine G5 (by first|exact Fx|exact Dl) ((hK.new _).put hK.nobj _) (Own.put (Own.new hO _) _ _) (by decide) (by rfl) b6 (by rw[f1]) f5 (by decide) Agm Agm ?_;intro idn dn aj ak ae aa af ab bf;obtain⟨bq,b8⟩:=bf i3 k (Own.put (Own.new b0 _) _ _) b9;simp only[Ab,Aa]at aa;have eob:∀p,p<d4.nobj->dn.obj p=d4.obj p:=fun p hp=>by rw[ae,Ai Agm,Af Agm]
      refine Z3 ?_
      repeat' (first|refine Z1 ?_|(refine Z8 ?_;intro κ hκ)|(refine Z4 ?_;clear hκ κ)|(refine Z2 ?_ ?_<;>intro h ah<;>try exact Xp)|(refine Z6 ?_;intro idn dn aj ak ae aa af ab)|refine Z3 ?_|exact⟨⟩|(apply hκ.out;clear hκ κ))
      refine⟨w.tups.length-(j+1),Agm,j+1,idn,o++[t],ys++As t,?_⟩
      ((repeat' with_reducible refine And.intro ?_ ?_)<;>first|exact Xq|exact (ak.put Agm _)|exact (by simpa using Own.put aj _ _)|exact (Own.put bq _ _)|exact (HX)|exact Xs)
     ·have HX:Agt (ys=Ej o/\o=(w.tups.take (j+1)).filter fun t=>Dj q.parts v (Hh t pl)):=by
       obtain⟨x1,x2⟩:=hX.out;exact⟨x1,by rw[HF.out,if_neg hm,x2,Ad7]⟩
      have hb:((f x:Int)==(a:Int))=false:=by simp;omega
      clear hX HF hm
      repeat' (first|refine Z1 ?_|(refine Z8 ?_;intro κ hκ)|(refine Z4 ?_;clear hκ κ)|(refine Z2 ?_ ?_<;>intro h ah<;>try exact Xp)|(refine Z6 ?_;intro idn dn aj ak ae aa af ab)|refine Z3 ?_|exact⟨⟩|(apply hκ.out;clear hκ κ))
      refine⟨w.tups.length-(j+1),Agm,j+1,i5,o,ys,?_⟩
      ((repeat' with_reducible refine And.intro ?_ ?_)<;>first|exact Xq|exact (Own.put (Own.new hO _) _ _)|exact (Own.put (Own.new b0 _) _ _)|exact (HX)|exact Xs)
    ·have bi:j=w.tups.length:=Agm;subst bi;obtain⟨x1,x2⟩:=hX.out;rw[Adz]at x2;have HX:Agt (EL Lr ((q.parts.take (k+1)).map (Fu q.parts v)) (xs++[ic w.a.p,sl id w.a.ts.length (Ac w.a.ts),sl i5 o.length ys])):=by
      rw[Agt,HM.out];refine EL.append ce.out (EL.single ?_);rw[cj.out,<-x2];exact⟨id,i5,by rw[x1]⟩
     clear hX x1 x2
     repeat' (first|refine Z1 ?_|(refine Z8 ?_;intro κ hκ)|(refine Z4 ?_;clear hκ κ)|(refine Z2 ?_ ?_<;>intro h ah<;>try exact Xp)|(refine Z6 ?_;intro idn dn aj ak ae aa af ab)|refine Z3 ?_|exact⟨⟩|(apply hκ.out;clear hκ κ))
     refine⟨q.parts.length-(k+1),Agm,k+1,idn,xs++[ic w.a.p,sl id w.a.ts.length (Ac w.a.ts),sl i5 o.length ys],?_⟩
     ((repeat' with_reducible refine And.intro ?_ ?_)<;>first|exact Xq|exact (ak.put Agm _)|exact (Own.put aj _ _)|exact (HX)|exact Xs)
  ·have ca:k=q.parts.length:=Agm;subst ca;rw[Adz]at hX;have cg:(q.parts.map (Fu q.parts v)).length=q.parts.length:=by rw[Afo]
   repeat' (first|refine Z1 ?_|(refine Z8 ?_;intro κ hκ)|(refine Z4 ?_;clear hκ κ)|(refine Z2 ?_ ?_<;>intro h ah<;>try exact Xp)|(refine Z6 ?_;intro idn dn aj ak ae aa af ab)|refine Z3 ?_|exact⟨⟩|(apply hκ.out;clear hκ κ))
   exact⟨_,rfl,⟨_,rfl,ih,i3,inn,xs,nc,by simp only[Fb];rw[cg],hX.out,cf⟩,hK.put Agm _⟩
end Go.Proofs.YtmoeoppbmhfbpabGreatDoorG
