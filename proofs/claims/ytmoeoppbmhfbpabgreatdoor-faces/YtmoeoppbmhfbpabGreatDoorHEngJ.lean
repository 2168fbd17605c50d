import Derived.Test.YtmoeoppbmhfbpabGreatDoorHEngI
set_option linter.all false
namespace Go.Proofs.YtmoeoppbmhfbpabGreatDoorH
set_option maxHeartbeats 32000000
open Go.Abs
set_option maxRecDepth 100000
def Num (ar:Nat)(t:Ca):Prop:=∀i,i<ar->∃k:Nat,t[i]?=some (k:Int)/\k<1026
def QN (q:Qry):Prop:=∀p∈q.parts,∀t∈p.tups,Num p.a.ts.length t
def Fu (f:Nat->Bool):List AV:=(List.range 1026).map fun i=>sc (.bool (f i))
theorem dM:iI 1026 (.bool false)=Fu fun _=>false:=by
 unfold iI Fu;rw[List.map_const'];simp[cst1]
theorem iD (f:Nat->Bool):(Fu f).length=1026:=by simp[Fu]
theorem iE (f:Nat->Bool){k:Nat}(h:k<1026):(Fu f)[k]?=some (sc (.bool (f k))):=by simp[Fu,h]
theorem iC (f:Nat->Bool){k:Nat}(h:k<1026)(b:Bool):(Fu f).set k (sc (.bool b))=Fu fun j=>if j=k then b else f j:=by
 apply Abw;intro n;rw[List.getElem?_set];by_cases hn:n<1026
 ·by_cases he:k=n
  ·subst he;simp[Fu,hn]
  ·have:n≠k:=fun e=>he e.symm;simp[Fu,hn,he,this]
 ·have:k≠n:=Ad2;simp[Fu,hn,this]
def lQ (pl:Int)(acc:List Int)(t:Ca):List Int:=if Gy t pl∈acc then acc else acc++[Gy t pl]
def Ui (tups:List Ca)(pl:Int):List Int:=tups.foldl (lQ pl) []
def Jx (q:Qry)(v:Int):List Int:=match q.parts.find? (fun p=>Bc p.a.ts v)with
 |some p=>Ui p.tups (Hp p.a.ts v)
 |none=>[]
theorem nN {α:Type}{f:α->Bool}{l:List α}{i:Nat}{x:α}(hn:∀y∈l.take i,f y=false)(hi:l[i]?=some x)(hx:f x=true):l.find? f=some x:=by
 have aa:=(List.getElem?_eq_some_iff.1 hi);obtain⟨h1,h2⟩:=aa
 conv=>lhs;rw[<-Ac8 i l]
 rw[List.find?_append,List.find?_eq_none.2 (fun y hy=>by rw[hn y hy];simp),Acd h1,h2];simp[hx]
theorem Jl (q:Qry)(c:List AV)(v:Int)(hc:EQ q c)(hq:Ms q)(hN:QN q)(d:St):ACalls Tryz.prog 189 [ag c,ic v] d fun r d'=>(∃id,r=sl id (Jx q v).length (Ar (Jx q v)))/\Keep d d':=by
 obtain⟨ih,ip,inn,pc,nc,rfl,hP,-⟩:=hc;have hpl:=EL.length Dx hP;have hl:=hq.pl;have hz:=dM;refine Z9 53 [.tmp 4] Tryz.func189 ?_
 repeat' (first|refine Z1 ?_|(refine Z8 ?_;intro κ hκ)|(refine Z4 ?_;clear hκ κ)|(refine Z2 ?_ ?_<;>intro h af<;>try exact Xp)|(refine Z6 ?_;intro idn dn ai aj ae aa ad ab)|refine Z3 ?_|exact⟨⟩|(apply hκ.out;clear hκ κ))
 refine Ad (fun m s d'=>∃i:Nat,m=q.parts.length-i/\i<=q.parts.length/\s 1=ic v/\s 5=nilS/\s 6=ptr (d.nobj+1) 0/\s 14=sl ip q.parts.length pc/\s 15=ic q.parts.length/\s 16=ic i/\Keep d d'/\d.nobj+1<d'.nobj/\d'.obj (d.nobj+1)=Fu (fun _=>false)/\Ad8 (∀p∈q.parts.take i,Bc p.a.ts v=false)) q.parts.length
  ⟨0,Ad2,Ad2,by simp[upd,initS],Ad4,Ad4,Ad4,Ad4,rfl,Xs,Ad6,?_,by simp[Ad8]⟩ ?_
 ·rw[Bp Ad6 Ad6]
 rintro m s d' ⟨i,rfl,hi,h1,h5,h6,bi,bh,bg,hK,a6,av,hA⟩;have a5:=hK.nobj;by_cases ap:i<q.parts.length
 ·have ac:=List.getElem?_eq_getElem ap;obtain⟨id,idt,r,hd⟩:=Ek hP ac;have bf:=hq.pa _ (Acz ap);have be:=hq.pt _ (Acz ap);have a0:=hq.p3 _ (Acz ap);have a7:=hN _ (Acz ap);generalize q.parts[i]=w at hd ac bf be a0 a7;have bb:w.a.ts.length<=1000:=Ad2;have au:=fun d=>Fc w.a.p id w.a.ts v bb d;have a4:Keep d ((d'.new [ic 0,nilS,nilS]).put d'.nobj [ic w.a.p,sl id w.a.ts.length (Ac w.a.ts),sl idt w.tups.length (D9 w.tups)]):=(hK.new _).put hK.nobj _;cases hv:Bc w.a.ts v with
  |false=>
   have hp:Hp w.a.ts v= -1:=It (by simpa[Bc]using hv);have HS:Ad8 (∀p∈q.parts.take (i+1),Bc p.a.ts v=false):=by
    rw[Ad8,Abq,ac,Ac2];intro p hp;rcases Ack.1 hp with hp|hp
    ·exact hA.out p hp
    ·simp at hp;subst hp;exact hv
   rw[hp]at au;clear hp ac hA
   repeat' (first|refine Z1 ?_|(refine Z8 ?_;intro κ hκ)|(refine Z4 ?_;clear hκ κ)|(refine Z2 ?_ ?_<;>intro h af<;>try exact Xp)|(refine Z6 ?_;intro idn dn ai aj ae aa ad ab)|(refine Z5 ?_;refine Xi (au _) ?_;rintro _ _ ⟨rfl,ak⟩;(have am:=ak.nobj;have ah:=ak.obj;have a3:=a4.trans ak;simp only[Ab,Aa]at am ah))|refine Z3 ?_|exact⟨⟩|(apply hκ.out;clear hκ κ))
   refine⟨q.parts.length-(i+1),Ad2,i+1,?_⟩
   ((repeat' with_reducible refine And.intro ?_ ?_)<;>first|exact Xq|exact (HS)|exact Xs)
  |true=>
   obtain⟨pl,aw,ax⟩:=Iu hv;have HR:Ad8 (Jx q v=Ui w.tups pl):=by rw[Ad8,Jx,nN hA.out ac hv];simp only[ax]
   rw[ax]at au;clear ax ac hA;have a9:pl<3:=Ad2;have ba:((pl:Int)== -1)=false:=by simp
   have bm:=H5 a0
   repeat' (first|refine Z1 ?_|(refine Z8 ?_;intro κ hκ)|(refine Z4 ?_;clear hκ κ)|(refine Z2 ?_ ?_<;>intro h af<;>try exact Xp)|(refine Z6 ?_;intro idn dn ai aj ae aa ad ab)|(refine Z5 ?_;refine Xi (au _) ?_;rintro _ _ ⟨rfl,ak⟩;(have am:=ak.nobj;have ah:=ak.obj;have a3:=a4.trans ak;simp only[Ab,Aa]at am ah))|refine Z3 ?_|exact⟨⟩|(apply hκ.out;clear hκ κ))
   rename_i d1;have o1:d1.obj (d.nobj+1)=Fu (fun _=>false):=by rw[ah _ Ad2,Ai Ad2,Ae Ad2,av]
   clear ah ak
   refine Ad (fun m s d''=>∃(j i3:Nat) (vs:List Int) (f:Nat->Bool),m=w.tups.length-j/\j<=w.tups.length/\s 5=sl i3 vs.length (Ar vs)/\s 6=ptr (d.nobj+1) 0/\s 9=ic pl/\s 27=sl idt w.tups.length (D9 w.tups)/\s 28=ic w.tups.length/\s 29=ic j/\Keep d d''/\d.nobj+1<d''.nobj/\d''.obj (d.nobj+1)=Fu f/\Own d d'' i3 vs.length/\vs.length<=j/\Ad8 (vs=Ui (w.tups.take j) pl/\∀k:Nat,f k=true↔(k:Int)∈vs)) w.tups.length
    ⟨0,1,[],fun _=>false,Ad2,Ad2,by simp[upd, *,Ar],Ad3,Ad4,Ad4,Ad4,rfl,a3,Ad2,o1,Own.nil _ _,by simp,by simp[Ui],by simp⟩ ?_
   clear o1 h1 h5 h6 bi bh bg hK a6 av a5 a3 a4;rintro m s d'' ⟨j,i3,vs,f,rfl,hj,h5,h6,h9,bq,bp,bo,hK,a6,av,hO,bl,hX⟩;have a5:=hK.nobj;have ay:=Bn vs;by_cases ao:j<w.tups.length
   ·have ac:=List.getElem?_eq_getElem ao;obtain⟨an,r2,bd⟩:=Io a0 ac;obtain⟨x,ar,hx⟩:=a7 _ (Acz ao) pl aw;generalize w.tups[j]=t at bd ac an ar;have bn:=Mm ar;have HS:Ad8 (Ui (w.tups.take (j+1)) pl=if (x:Int)∈vs then vs else vs++[(x:Int)]):=by
     have a8:Gy t pl=(x:Int):=by simp[Gy,ar]
     rw[Ad8,Abq,ac,Ac2,Ui,Adh,hX.out.1];simp only[Abm,List.foldl_nil,lQ,a8];rfl
    clear ac ar;have f1:=Gs an;have f2:=Le an;have f3:=Hn an;have f4:=Ml an;have f5:=Ee t;have f6:=Wl an;have g1:=iE f hx;have g2:=iC f hx true;have g3:=iD f;by_cases hm:(x:Int)∈vs
    ·have az:f x=true:=(hX.out.2 x).2 hm;have HX:Ad8 (vs=Ui (w.tups.take (j+1)) pl/\∀k:Nat,f k=true↔(k:Int)∈vs):=⟨by rw[HS.out,if_pos hm],hX.out.2⟩;rw[az]at g1;clear hX HS hm g2
     repeat' (first|refine Z1 ?_|(refine Z8 ?_;intro κ hκ)|(refine Z4 ?_;clear hκ κ)|(refine Z2 ?_ ?_<;>intro h af<;>try exact Xp)|(refine Z6 ?_;intro idn dn ai aj ae aa ad ab)|refine Z3 ?_|exact⟨⟩|(apply hκ.out;clear hκ κ))
     refine⟨w.tups.length-(j+1),Ad2,j+1,i3,vs,f,?_⟩
     ((repeat' with_reducible refine And.intro ?_ ?_)<;>first|exact Xq|exact (Own.put (Own.new hO _) _ _)|exact (HX)|exact Xs)
    ·have az:f x=false:=by
      cases h:f x with
      |false=>rfl
      |true=>exact absurd ((hX.out.2 x).1 h) hm
     have HX:Ad8 (vs++[(x:Int)]=Ui (w.tups.take (j+1)) pl/\∀k:Nat,(if k=x then true else f k)=true↔(k:Int)∈vs++[(x:Int)]):=by
      refine⟨by rw[HS.out,if_neg hm],fun k=>?_⟩;have h2:=hX.out.2 k;by_cases e:k=x
      ·subst e;simp
      ·rw[if_neg e,h2];have:¬(k:Int)=(x:Int):=Ad2;simp[this]
     rw[az]at g1;clear hX HS hm
     repeat' (first|refine Z1 ?_|(refine Z8 ?_;intro κ hκ)|(refine Z4 ?_;clear hκ κ)|(refine Z2 ?_ ?_<;>intro h af<;>try exact Xp)|(refine Z6 ?_;intro idn dn ai aj ae aa ad ab)|refine Z3 ?_|exact⟨⟩|(apply hκ.out;clear hκ κ))
     refine Bj (by first|exact Oj) (((hK.new _).put hK.nobj _).put Ad2 _) (Own.put (Own.put (Own.new hO _) _ _) _ _) (by decide) (by rfl) (by rw[ay,Nat.mul_one]) (by rfl) (by rfl) (by decide) Ad2 Ad2 ?_;intro idn dn ai aj ae aa ad ab;simp only[Ab,Aa]at aa;refine Z3 ?_
     repeat' (first|refine Z1 ?_|(refine Z8 ?_;intro κ hκ)|(refine Z4 ?_;clear hκ κ)|(refine Z2 ?_ ?_<;>intro h af<;>try exact Xp)|(refine Z6 ?_;intro idn dn ai aj ae aa ad ab)|refine Z3 ?_|exact⟨⟩|(apply hκ.out;clear hκ κ))
     refine⟨w.tups.length-(j+1),Ad2,j+1,idn,vs++[(x:Int)],fun k=>if k=x then true else f k,?_⟩
     ((repeat' with_reducible refine And.intro ?_ ?_)<;>first|exact Xq|exact (by simpa using ai)|exact (HX)|exact (by simp[Ar])|exact Xs)
   ·have bc:j=w.tups.length:=Ad2;subst bc;obtain⟨x1,-⟩:=hX.out;rw[Abn]at x1;rw[<-x1]at HR;have HR:=HR.out
    repeat' (first|refine Z1 ?_|(refine Z8 ?_;intro κ hκ)|(refine Z4 ?_;clear hκ κ)|(refine Z2 ?_ ?_<;>intro h af<;>try exact Xp)|(refine Z6 ?_;intro idn dn ai aj ae aa ad ab)|refine Z3 ?_|exact⟨⟩|(apply hκ.out;clear hκ κ))
    first|exact⟨_,rfl,⟨i3,rfl⟩,hK⟩|exact⟨_,rfl,⟨i3,by rw[HR]⟩,hK⟩|exact⟨_,rfl,⟨i3,rfl⟩⟩|exact⟨_,rfl,i3,rfl⟩
 ·have ay:i=q.parts.length:=Ad2;subst ay;rw[Abn]at hA;have HR:Jx q v=[]:=by
   unfold Jx;rw[List.find?_eq_none.2 (fun p hp=>by rw[hA.out p hp];simp)]
  repeat' (first|refine Z1 ?_|(refine Z8 ?_;intro κ hκ)|(refine Z4 ?_;clear hκ κ)|(refine Z2 ?_ ?_<;>intro h af<;>try exact Xp)|(refine Z6 ?_;intro idn dn ai aj ae aa ad ab)|refine Z3 ?_|exact⟨⟩|(apply hκ.out;clear hκ κ))
  first|exact⟨_,rfl,⟨1,rfl⟩,hK⟩|exact⟨_,rfl,⟨1,by rw[HR];rfl⟩,hK⟩|exact⟨_,rfl,1,rfl⟩|exact⟨_,rfl,1,by rw[HR];rfl⟩
theorem Gl {P:Program}{t:TypeId}{z b:Nat}{zc:List Value}{σ0 d:St}{id id2 n m m':Nat}{xs ys:List AV}{K:AV->St->Prop}(ht:Ma P t=some (z,b,zc))(hK:Keep σ0 d)(hO:Own σ0 d id n)
  (hz:0<z) (hzc:zc.length=z) (hx:xs.length=n*z) (hy:ys.length=m*z) (hf:ys.all flat=true) (hm:0<m) (hb:(n+m)*b<=140737488355328) (hl:n+m<=1099511627776)
  (h:∀id' d',Own σ0 d' id' (n+m)->Keep σ0 d'->d'.obj=d.obj->d'.nobj=d.nobj->d'.ver=d.ver->d.ntop<d'.ntop->(∀i k,Own σ0 d i k->(id=1\/id≠i)->Own σ0 d' i k/\(id'=1\/id'≠i))->K (sl id' (n+m) (xs++ys)) d'):Hy P t t (sl id n xs) (sl id2 m ys) (d.lay m') K:=by
 unfold Hy Yw;left;simp only[ht];rw[if_pos ⟨trivial,hz,hzc,hx,hy,hf,hm,hb,hl⟩];rcases hO with⟨rfl,rfl⟩|⟨k,rfl,h2,h3,h4,h5⟩
 ·have aa:xs=[]:=Abl (by simpa using hx);subst aa
  have:=h ((d.lay m').ntop+2) ((d.lay m').lay m) (by rw[Ab1];exact Own.made (hK.lay m') hm) ((hK.lay m').lay m) rfl rfl rfl (by simp[St.lay];omega) (fun i k ho _=>by
   refine⟨ho.keep (((Keep.refl _).lay _).lay _),?_⟩;right;rcases ho with⟨rfl,-⟩|⟨j,rfl,-,hj,-⟩
   ·simp[St.lay]
   ·simp[St.lay];omega)
  simpa using this
 ·have e1:(d.lay m').top k=n:=by simp[St.lay];rw[if_neg Ad2];exact h4
  simp only;rw[if_pos ⟨e1,h5⟩]
  exact h (k+2) _ (.inr ⟨k,rfl,h2,by simp[St.raise,St.lay];omega,by simp[St.raise],Ad2⟩) ((hK.lay m').raise h2 _) rfl rfl rfl (by simp[St.raise,St.lay]) (fun i j ho hne=>by
   have hne:k+2≠i:=by rcases hne with h|h<;>omega
   refine⟨?_,.inr hne⟩;rcases ho with ho|⟨j',rfl,g1,g2,g3,g4⟩
   ·exact .inl ho
   ·exact .inr ⟨j',rfl,g1,by simp[St.raise,St.lay];omega,by simp[St.raise,St.lay];rw[if_neg Ad2,if_neg Ad2];exact g3,g4⟩)
def Ed (f:Nat->Nat):List AV:=(List.range 1026).map fun i=>ic (f i:Nat)
theorem cE:iI 1026 (.int .i64 0)=Ed fun _=>0:=by
 unfold iI Ed;rw[List.map_const'];simp[cst1]
theorem S2 (f:Nat->Nat):(Ed f).length=1026:=by simp[Ed]
theorem S3 (f:Nat->Nat){k:Nat}(h:k<1026):(Ed f)[k]?=some (ic (f k:Nat)):=by simp[Ed,h]
theorem gB (f:Nat->Nat){k:Nat}(h:k<1026)(b:Nat):(Ed f).set k (ic (b:Nat))=Ed fun j=>if j=k then b else f j:=by
 apply Abw;intro n;rw[List.getElem?_set];by_cases hn:n<1026
 ·by_cases he:k=n
  ·subst he;simp[Ed,hn]
  ·have:n≠k:=fun e=>he e.symm;simp[Ed,hn,he,this]
 ·have:k≠n:=Ad2;simp[Ed,hn,this]
def occ (v:Int)(n:Int)(p:Part):Bool:=p.tups.any fun t=>Gy t (Hp p.a.ts v)==n
def Dg (l:List Part)(v n:Int):Bool:=l.all fun p=>!Bc p.a.ts v||occ v n p
def Fg (l:List Part)(v:Int)(p:Part):Part:=if Bc p.a.ts v=true then⟨p.a,p.tups.filter fun t=>Dg l v (Gy t (Hp p.a.ts v))⟩else p
def Ew (q:Qry)(v:Int):Qry:={q with parts:=q.parts.map (Fg q.parts v)}
def gF (f:Nat->Nat)(a:Nat)(pl:Int)(l:List Ca)(k:Nat):Nat:=if f k=a/\l.any (fun t=>Gy t pl==(k:Int))=true then a+1 else f k
theorem wB {f:Nat->Nat}{a:Nat}{pl:Int}{l:List Ca}{t:Ca}{x:Nat}(ht:Gy t pl=(x:Int)):gF f a pl (l++[t])=fun k=>if k=x/\gF f a pl l x=a then a+1 else gF f a pl l k:=by
 funext k;have aa:(l++[t]).any (fun t=>Gy t pl==(k:Int))=(l.any (fun t=>Gy t pl==(k:Int))||decide (k=x)):=by
  rw[Adf];simp only[List.any_cons,List.any_nil,Bool.or_false,ht];congr 1;by_cases e:k=x
  ·subst e;simp
  ·have:¬(x:Int)=(k:Int):=Ad2;simp[e,this]
 unfold gF;rw[aa];by_cases e:k=x
 ·subst e;by_cases h1:f k=a
  ·cases h2:l.any (fun t=>Gy t pl==(k:Int))<;>simp[h1]
  ·simp[h1]
 ·simp[e]
theorem zF (f:Nat->Nat)(a:Nat)(pl:Int):gF f a pl []=f:=by funext k;simp[gF]
theorem dG (q:Qry)(c:List AV)(v:Int)(hc:EQ q c)(hq:Ms q)(hN:QN q)(d:St):ACalls Tryz.prog 255 [ag c,ic v] d fun r d'=>(∃c',r=ag c'/\EQ (Ew q v) c')/\Keep d d':=by
 obtain⟨ih,ip,inn,pc,nc,rfl,hP,cd⟩:=hc;have hpl:=EL.length Dx hP;have hl:=hq.pl;have hz:=cE;refine Z9 113 [.cell 4 191] Tryz.func255 ?_
 repeat' (first|refine Z1 ?_|(refine Z8 ?_;intro κ hκ)|(refine Z4 ?_;clear hκ κ)|(refine Z2 ?_ ?_<;>intro h ah<;>try exact Xp)|(refine Z6 ?_;intro idn dn aj ak ae aa af ab)|refine Z3 ?_|exact⟨⟩|(apply hκ.out;clear hκ κ))
 refine Ad (fun m s d'=>∃(i a:Nat) (f:Nat->Nat),m=q.parts.length-i/\i<=q.parts.length/\s 1=ic v/\s 2=ptr d.nobj 0/\s 4=ptr (d.nobj+1) 0/\s 5=ptr (d.nobj+2) 0/\s 6=ic a/\s 20=sl ip q.parts.length pc/\s 21=ic q.parts.length/\s 22=ic i/\Keep d d'/\d.nobj+2<d'.nobj/\d'.obj d.nobj=[ic q.head.p,sl ih q.head.ts.length (Ac q.head.ts),sl ip q.parts.length pc,sl inn q.nots.length nc]/\d'.obj (d.nobj+1)=[ic 0,nilS,nilS,nilS]/\d'.obj (d.nobj+2)=Ed f/\a<=i/\(∀k,f k<=a)/\Ad8 (∀k,f k=a↔Dg (q.parts.take i) v (k:Int)=true)) q.parts.length
  ⟨0,0,fun _=>0,Ad2,Ad2,by simp[upd,initS],Ad4,Ad4,Ad4,Ad4,Ad4,Ad4,rfl,Xs,Ad6,?_,?_,?_,Ad2,by simp,by simp[Ad8,Dg]⟩ ?_
 ·rw[Ae Ad6,Ae Ad6,Am]
 ·rw[Ae Ad6,Bp Ad6 Ad6]
 ·rw[Bp Ad6 Ad6]
 rintro m s d' ⟨i,a,f,rfl,hi,h1,h2,h4,h5,h6,bu,br,bq,hK,a3,a8,au,ar,cn,a9,hA⟩;have bv:=hK.nobj;by_cases an:i<q.parts.length
 ·have ac:=List.getElem?_eq_getElem an;obtain⟨id,idt,r,hd⟩:=Ek hP ac;have bm:=hq.pa _ (Acz an);have bl:=hq.pt _ (Acz an);have a4:=hq.p3 _ (Acz an);have a7:=hN _ (Acz an);generalize q.parts[i]=w at hd ac bm bl a4 a7;have bg:w.a.ts.length<=1000:=Ad2;have aw:=fun d=>Fc w.a.p id w.a.ts v bg d;have a6:Keep d ((d'.new [ic 0,nilS,nilS]).put d'.nobj [ic w.a.p,sl id w.a.ts.length (Ac w.a.ts),sl idt w.tups.length (D9 w.tups)]):=(hK.new _).put hK.nobj _;have ba:Ad8 (∀n,Dg (q.parts.take (i+1)) v n=(Dg (q.parts.take i) v n&&(!Bc w.a.ts v||occ v n w))):=by
   intro n;rw[Abq,ac,Ac2,Dg,List.all_append];simp[Dg]
  clear ac;cases hv:Bc w.a.ts v with
  |false=>
   have hp:Hp w.a.ts v= -1:=It (by simpa[Bc]using hv);have HS:Ad8 (∀k,f k=a↔Dg (q.parts.take (i+1)) v (k:Int)=true):=by
    intro k;rw[ba.out,hv,hA.out k];simp
   rw[hp]at aw;clear hp hA ba
   repeat' (first|refine Z1 ?_|(refine Z8 ?_;intro κ hκ)|(refine Z4 ?_;clear hκ κ)|(refine Z2 ?_ ?_<;>intro h ah<;>try exact Xp)|(refine Z6 ?_;intro idn dn aj ak ae aa af ab)|(refine Z5 ?_;refine Xi (aw _) ?_;rintro _ _ ⟨rfl,ai⟩;(have ao:=ai.nobj;have ad:=ai.obj;have a5:=a6.trans ai;simp only[Ab,Aa]at ao ad))|refine Z3 ?_|exact⟨⟩|(apply hκ.out;clear hκ κ))
   refine⟨q.parts.length-(i+1),Ad2,i+1,a,f,?_⟩
   ((repeat' with_reducible refine And.intro ?_ ?_)<;>first|exact Xq|exact (HS)|exact Xs)
  |true=>
   obtain⟨pl,az,a0⟩:=Iu hv;have HS:Ad8 (∀k,gF f a pl w.tups k=a+1↔Dg (q.parts.take (i+1)) v (k:Int)=true):=by
    intro k;have h1:=hA.out k;have h2:=a9 k;rw[ba.out,hv,Abj,<-h1];simp only[Ab8,Bool.false_or,occ,a0];unfold gF;by_cases hc:f k=a/\w.tups.any (fun t=>Gy t pl==(k:Int))=true
    ·rw[if_pos hc];exact⟨fun _=>hc,fun _=>rfl⟩
    ·rw[if_neg hc];exact⟨fun h=>Ad2,fun h=>absurd h hc⟩
   have cg:Ad8 (∀k,gF f a pl w.tups k<=a+1):=by
    intro k;have h2:=a9 k;unfold gF;split<;>omega
   rw[a0]at aw;clear a0 hA ba;have bd:pl<3:=Ad2;have bf:((pl:Int)== -1)=false:=by simp
   have b5:=H5 a4
   repeat' (first|refine Z1 ?_|(refine Z8 ?_;intro κ hκ)|(refine Z4 ?_;clear hκ κ)|(refine Z2 ?_ ?_<;>intro h ah<;>try exact Xp)|(refine Z6 ?_;intro idn dn aj ak ae aa af ab)|(refine Z5 ?_;refine Xi (aw _) ?_;rintro _ _ ⟨rfl,ai⟩;(have ao:=ai.nobj;have ad:=ai.obj;have a5:=a6.trans ai;simp only[Ab,Aa]at ao ad))|refine Z3 ?_|exact⟨⟩|(apply hκ.out;clear hκ κ))
   rename_i d1;have p0:d1.obj d.nobj=[ic q.head.p,sl ih q.head.ts.length (Ac q.head.ts),sl ip q.parts.length pc,sl inn q.nots.length nc]:=by rw[ad _ Ad2,Ai Ad2,Ae Ad2,a8]
   have p1:d1.obj (d.nobj+1)=[ic 0,nilS,nilS,nilS]:=by rw[ad _ Ad2,Ai Ad2,Ae Ad2,au]
   have p2:d1.obj (d.nobj+2)=Ed f:=by rw[ad _ Ad2,Ai Ad2,Ae Ad2,ar]
   clear ad ai
   refine Ad (fun m s d''=>∃(j:Nat) (g:Nat->Nat),m=w.tups.length-j/\j<=w.tups.length/\s 1=ic v/\s 2=ptr d.nobj 0/\s 4=ptr (d.nobj+1) 0/\s 5=ptr (d.nobj+2) 0/\s 6=ic a/\s 9=ic pl/\s 20=sl ip q.parts.length pc/\s 21=ic q.parts.length/\s 22=ic i/\s 33=sl idt w.tups.length (D9 w.tups)/\s 34=ic w.tups.length/\s 35=ic j/\Keep d d''/\d.nobj+2<d''.nobj/\d''.obj d.nobj=[ic q.head.p,sl ih q.head.ts.length (Ac q.head.ts),sl ip q.parts.length pc,sl inn q.nots.length nc]/\d''.obj (d.nobj+1)=[ic 0,nilS,nilS,nilS]/\d''.obj (d.nobj+2)=Ed g/\(∀k,g k<=a+1)/\Ad8 (g=gF f a pl (w.tups.take j))) w.tups.length
    ⟨0,f,Ad2,Ad2,Ad3,Ad3,Ad3,Ad3,Ad3,Ad4,Ad3,Ad3,Ad3,Ad4,Ad4,rfl,a5,Ad2,p0,p1,p2,fun k=>by have:=a9 k;omega,by simp[Ad8,zF]⟩ ?_
   clear p0 p1 p2 h1 h2 h4 h5 h6 bu br bq hK a3 a8 au ar bv a5 a6;rintro m s d'' ⟨j,g,rfl,hj,h1,h2,h4,h5,h6,h9,bu,br,bq,cu,ct,cr,hK,a3,a8,au,ar,ca,hX⟩;have bv:=hK.nobj;by_cases ap:j<w.tups.length
   ·have ac:=List.getElem?_eq_getElem ap;obtain⟨am,r2,bi⟩:=Io a4 ac;obtain⟨x,av,hx⟩:=a7 _ (Acz ap) pl az;generalize w.tups[j]=t at bi ac am av;have b9:=Mm av;have HG:Ad8 (gF f a pl (w.tups.take (j+1))=fun k=>if k=x/\g x=a then a+1 else g k):=by
     have bc:Gy t pl=(x:Int):=by simp[Gy,av]
     rw[Ad8,Abq,ac,Ac2,wB bc,hX.out]
    clear ac av hX;have f1:=Gs am;have f2:=Le am;have f3:=Hn am;have f4:=Ml am;have f5:=Ee t;have f6:=Wl am;have g1:=S3 g hx;have g2:=gB g hx (a+1);have g3:=S2 g;by_cases hm:g x=a
    ·have HX:Ad8 ((fun k=>if k=x then a+1 else g k)=gF f a pl (w.tups.take (j+1))):=by
      rw[Ad8,HG.out];funext k;simp[hm]
     have hb:((g x:Int)==(a:Int))=true:=by simp[hm]
     rw[hm]at g1;have ax:((a+1:Nat):Int)=(a:Int)+1:=Ad2;rw[ax]at g2;clear ax HG
     repeat' (first|refine Z1 ?_|(refine Z8 ?_;intro κ hκ)|(refine Z4 ?_;clear hκ κ)|(refine Z2 ?_ ?_<;>intro h ah<;>try exact Xp)|(refine Z6 ?_;intro idn dn aj ak ae aa af ab)|refine Z3 ?_|exact⟨⟩|(apply hκ.out;clear hκ κ))
     refine⟨w.tups.length-(j+1),Ad2,j+1,fun k=>if k=x then a+1 else g k,?_⟩
     ((repeat' with_reducible refine And.intro ?_ ?_)<;>first|exact Xq|exact (HX)|exact (fun k=>by have:=ca k;dsimp only;split<;>omega)|exact Xs)
    ·have HX:Ad8 (g=gF f a pl (w.tups.take (j+1))):=by
      rw[Ad8,HG.out];funext k;simp[hm]
     have hb:((g x:Int)==(a:Int))=false:=by simp;omega
     clear HG hm g2
     repeat' (first|refine Z1 ?_|(refine Z8 ?_;intro κ hκ)|(refine Z4 ?_;clear hκ κ)|(refine Z2 ?_ ?_<;>intro h ah<;>try exact Xp)|(refine Z6 ?_;intro idn dn aj ak ae aa af ab)|refine Z3 ?_|exact⟨⟩|(apply hκ.out;clear hκ κ))
     refine⟨w.tups.length-(j+1),Ad2,j+1,g,?_⟩
     ((repeat' with_reducible refine And.intro ?_ ?_)<;>first|exact Xq|exact (HX)|exact Xs)
   ·have bh:j=w.tups.length:=Ad2;subst bh;have hX:=hX.out;rw[Abn]at hX;subst hX
    repeat' (first|refine Z1 ?_|(refine Z8 ?_;intro κ hκ)|(refine Z4 ?_;clear hκ κ)|(refine Z2 ?_ ?_<;>intro h ah<;>try exact Xp)|(refine Z6 ?_;intro idn dn aj ak ae aa af ab)|refine Z3 ?_|exact⟨⟩|(apply hκ.out;clear hκ κ))
    refine⟨q.parts.length-(i+1),Ad2,i+1,a+1,gF f a pl w.tups,?_⟩
    ((repeat' with_reducible refine And.intro ?_ ?_)<;>first|exact Xq|exact (HS)|exact (cg.out)|exact Xs)
 ·have b8:i=q.parts.length:=Ad2;subst b8;rw[Abn]at hA;clear hi
  repeat' (first|refine Z1 ?_|(refine Z8 ?_;intro κ hκ)|(refine Z4 ?_;clear hκ κ)|(refine Z2 ?_ ?_<;>intro h ah<;>try exact Xp)|(refine Z6 ?_;intro idn dn aj ak ae aa af ab)|refine Z3 ?_|exact⟨⟩|(apply hκ.out;clear hκ κ))
  refine Ad (fun m s d2=>∃(k i3:Nat) (xs:List AV),m=q.parts.length-k/\k<=q.parts.length/\s 1=ic v/\s 4=ptr (d.nobj+1) 0/\s 5=ptr (d.nobj+2) 0/\s 6=ic a/\s 12=ptr d'.nobj 0/\s 63=sl ip q.parts.length pc/\s 64=ic q.parts.length/\s 65=ic k/\Keep d d2/\d'.nobj<d2.nobj/\d2.obj (d.nobj+1)=[ic 0,nilS,nilS,nilS]/\d2.obj (d.nobj+2)=Ed f/\d2.obj d'.nobj=[ic q.head.p,sl ih q.head.ts.length (Ac q.head.ts),sl i3 k xs,sl inn q.nots.length nc]/\Own d d2 i3 k/\xs.length=k*3/\Ad8 (EL Ky ((q.parts.take k).map (Fg q.parts v)) xs)) q.parts.length
   ⟨0,1,[],Ad2,Ad2,Ad3,Ad3,Ad3,Ad3,Ad4,Ad4,Ad4,rfl,(hK.new _).put hK.nobj _,Ad7,?_,?_,?_,Own.nil _ _,by simp,by simp[Ad8,EL]⟩ ?_
  ·rw[Ai Ad2,Ae Ad2,au]
  ·rw[Ai Ad2,Ae Ad2,ar]
  ·rw[Aj]
  have cf:=a3;clear h1 h2 h4 h5 h6 bu br bq an a8 au ar a3 hK;generalize bp:d'.nobj=o12 at*
  clear bp;rintro m s d2 ⟨k,i3,xs,rfl,hk,h1,h4,h5,h6,b2,b1,b0,bz,hK,a3,au,ar,bb,hO,cj,hX⟩;have ao:=hK.nobj;by_cases an:k<q.parts.length
  ·have ac:=List.getElem?_eq_getElem an;obtain⟨id,idt,r,hd⟩:=Ek hP ac;have bm:=hq.pa _ (Acz an);have bl:=hq.pt _ (Acz an);have a4:=hq.p3 _ (Acz an);have a7:=hN _ (Acz an);generalize q.parts[k]=w at hd ac bm bl a4 a7;have bg:w.a.ts.length<=1000:=Ad2;have aw:=fun d=>Fc w.a.p id w.a.ts v bg d;have a6:Keep d ((d2.new [ic 0,nilS,nilS]).put d2.nobj [ic w.a.p,sl id w.a.ts.length (Ac w.a.ts),sl idt w.tups.length (D9 w.tups)]):=(hK.new _).put hK.nobj _;have HM:Ad8 ((q.parts.take (k+1)).map (Fg q.parts v)=(q.parts.take k).map (Fg q.parts v)++[Fg q.parts v w]):=by
    rw[Ad8,Abq,ac];simp
   clear ac;cases hv:Bc w.a.ts v with
   |false=>
    have hp:Hp w.a.ts v= -1:=It (by simpa[Bc]using hv);have HX:Ad8 (EL Ky ((q.parts.take (k+1)).map (Fg q.parts v)) (xs++[ic w.a.p,sl id w.a.ts.length (Ac w.a.ts),sl idt w.tups.length (D9 w.tups)])):=by
     rw[Ad8,HM.out];refine EL.append hX.out (EL.single ?_);rw[Fg,if_neg (by rw[hv];simp)];exact⟨id,idt,rfl⟩
    rw[hp]at aw;clear hp HM hX
    repeat' (first|refine Z1 ?_|(refine Z8 ?_;intro κ hκ)|(refine Z4 ?_;clear hκ κ)|(refine Z2 ?_ ?_<;>intro h ah<;>try exact Xp)|(refine Z6 ?_;intro idn dn aj ak ae aa af ab)|(refine Z5 ?_;refine Xi (aw _) ?_;rintro _ _ ⟨rfl,ai⟩;(have ay:=ai.nobj;have ad:=ai.obj;have a5:=a6.trans ai;have bn:=Own.keep (Own.put (Own.new hO _) _ _) ai;simp only[Ab,Aa]at ay ad))|refine Z3 ?_|exact⟨⟩|(apply hκ.out;clear hκ κ))
    refine⟨q.parts.length-(k+1),Ad2,k+1,idn,xs++[ic w.a.p,sl id w.a.ts.length (Ac w.a.ts),sl idt w.tups.length (D9 w.tups)],?_⟩
    ((repeat' with_reducible refine And.intro ?_ ?_)<;>first|exact Xq|exact (ak.put Ad2 _)|exact (Own.put aj _ _)|exact (HX)|exact Xs)
   |true=>
    obtain⟨pl,az,a0⟩:=Iu hv;have ch:Ad8 (Fg q.parts v w=⟨w.a,w.tups.filter fun t=>Dg q.parts v (Gy t pl)⟩):=by rw[Ad8,Fg,if_pos hv,a0]
    rw[a0]at aw;clear a0;have bd:pl<3:=Ad2;have bf:((pl:Int)== -1)=false:=by simp
    have b5:=H5 a4;have cb:Ad8 _:=hX
    repeat' (first|refine Z1 ?_|(refine Z8 ?_;intro κ hκ)|(refine Z4 ?_;clear hκ κ)|(refine Z2 ?_ ?_<;>intro h ah<;>try exact Xp)|(refine Z6 ?_;intro idn dn aj ak ae aa af ab)|(refine Z5 ?_;refine Xi (aw _) ?_;rintro _ _ ⟨rfl,ai⟩;(have ay:=ai.nobj;have ad:=ai.obj;have a5:=a6.trans ai;have bn:=Own.keep (Own.put (Own.new hO _) _ _) ai;simp only[Ab,Aa]at ay ad))|refine Z3 ?_|exact⟨⟩|(apply hκ.out;clear hκ κ))
    rename_i d3;have p1:d3.obj (d.nobj+1)=[ic 0,nilS,nilS,nilS]:=by rw[ad _ Ad2,Ai Ad2,Ae Ad2,au]
    have p2:d3.obj (d.nobj+2)=Ed f:=by rw[ad _ Ad2,Ai Ad2,Ae Ad2,ar]
    have p3:d3.obj o12=[ic q.head.p,sl ih q.head.ts.length (Ac q.head.ts),sl i3 k xs,sl inn q.nots.length nc]:=by rw[ad _ Ad2,Ai Ad2,Ae Ad2,bb]
    clear ad ai
    refine Ad (fun m s d4=>∃(j i5:Nat) (o:List Ca) (ys:List AV),m=w.tups.length-j/\j<=w.tups.length/\s 1=ic v/\s 4=ptr (d.nobj+1) 0/\s 5=ptr (d.nobj+2) 0/\s 6=ic a/\s 12=ptr o12 0/\s 15=ic pl/\s 16=ptr d3.nobj 0/\s 63=sl ip q.parts.length pc/\s 64=ic q.parts.length/\s 65=ic k/\s 85=sl idt w.tups.length (D9 w.tups)/\s 86=ic w.tups.length/\s 87=ic j/\Keep d d4/\d3.nobj<d4.nobj/\d4.obj (d.nobj+1)=[ic 0,nilS,nilS,nilS]/\d4.obj (d.nobj+2)=Ed f/\d4.obj o12=[ic q.head.p,sl ih q.head.ts.length (Ac q.head.ts),sl i3 k xs,sl inn q.nots.length nc]/\d4.obj d3.nobj=[ic w.a.p,sl id w.a.ts.length (Ac w.a.ts),sl i5 o.length ys]/\Own d d4 i3 k/\Own d d4 i5 o.length/\(i5=1\/i5≠i3)/\o.length<=j/\ys.length=o.length*3/\Ad8 (ys=D9 o/\o=(w.tups.take j).filter fun t=>Dg q.parts v (Gy t pl))) w.tups.length
     ⟨0,1,[],[],Ad2,Ad2,Ad3,Ad3,Ad3,Ad3,Ad3,Ad4,Ad4,Ad3,Ad3,Ad3,Ad4,Ad4,rfl,(a5.new _).put Ad2 _,Ad7,?_,?_,?_,?_,Own.put (Own.new bn _) _ _,Own.nil _ _,.inl rfl,by simp,by simp,⟨rfl,by simp⟩⟩ ?_
    ·rw[Ai Ad2,Ae Ad2,p1]
    ·rw[Ai Ad2,Ae Ad2,p2]
    ·rw[Ai Ad2,Ae Ad2,p3]
    ·rw[Aj];simp
    have cx:o12<d3.nobj:=Ad2;clear p1 p2 p3 h1 h4 h5 h6 b2 b1 b0 bz hK a3 au ar bb hO bn a5 a6 hX ao;rintro m s d4 ⟨j,i5,o,ys,rfl,hj,h1,h4,h5,h6,b2,cw,cv,b1,b0,bz,cq,cp,co,hK,a3,au,ar,bb,ci,bw,hO,hne,ck,b4,hX⟩;have b3:=hK.nobj;by_cases ap:j<w.tups.length
    ·have ac:=List.getElem?_eq_getElem ap;obtain⟨am,r2,bi⟩:=Io a4 ac;obtain⟨x,av,hx⟩:=a7 _ (Acz ap) pl az;generalize w.tups[j]=t at bi ac am av;have b9:=Mm av;have HF:Ad8 ((w.tups.take (j+1)).filter (fun t=>Dg q.parts v (Gy t pl))=(w.tups.take j).filter (fun t=>Dg q.parts v (Gy t pl))++if f x=a then [t]else []):=by
      have bc:Gy t pl=(x:Int):=by simp[Gy,av]
      rw[Ad8,Abq,ac,Ac2,Dr,bc];congr 1;have h1:=hA.out x;by_cases e:f x=a
      ·rw[if_pos e,if_pos (h1.1 e)]
      ·rw[if_neg e,if_neg (fun h=>e (h1.2 h))]
     clear ac av;have f1:=Gs am;have f2:=Le am;have f3:=Hn am;have f4:=Ml am;have f5:=Ee t;have f6:=Wl am;have g1:=S3 f hx;have g3:=S2 f;have cm:=a9 x;by_cases hm:f x=a
     ·have HX:Ad8 (ys++Ar t=D9 (o++[t])/\o++[t]=(w.tups.take (j+1)).filter fun t=>Dg q.parts v (Gy t pl)):=by
       obtain⟨x1,x2⟩:=hX.out;exact⟨by rw[x1,Na],by rw[HF.out,if_pos hm,x2]⟩
      have hb:((f x:Int)==(a:Int))=true:=by simp[hm]
      clear hX HF hm
      repeat' (first|refine Z1 ?_|(refine Z8 ?_;intro κ hκ)|(refine Z4 ?_;clear hκ κ)|(refine Z2 ?_ ?_<;>intro h ah<;>try exact Xp)|(refine Z6 ?_;intro idn dn aj ak ae aa af ab)|refine Z3 ?_|exact⟨⟩|(apply hκ.out;clear hκ κ))
      refine Gl (by first|exact Fj|exact Dh) ((hK.new _).put hK.nobj _) (Own.put (Own.new hO _) _ _) (by decide) (by rfl) b4 (by rw[f1]) f5 (by decide) Ad2 Ad2 ?_;intro idn dn aj ak ae aa af ab be;obtain⟨bo,b6⟩:=be i3 k (Own.put (Own.new bw _) _ _) hne;simp only[Ab,Aa]at aa;have eob:∀p,p<d4.nobj->dn.obj p=d4.obj p:=fun p hp=>by rw[ae,Ai Ad2,Ae Ad2]
      refine Z3 ?_
      repeat' (first|refine Z1 ?_|(refine Z8 ?_;intro κ hκ)|(refine Z4 ?_;clear hκ κ)|(refine Z2 ?_ ?_<;>intro h ah<;>try exact Xp)|(refine Z6 ?_;intro idn dn aj ak ae aa af ab)|refine Z3 ?_|exact⟨⟩|(apply hκ.out;clear hκ κ))
      refine⟨w.tups.length-(j+1),Ad2,j+1,idn,o++[t],ys++Ar t,?_⟩
      ((repeat' with_reducible refine And.intro ?_ ?_)<;>first|exact Xq|exact (ak.put Ad2 _)|exact (by simpa using Own.put aj _ _)|exact (Own.put bo _ _)|exact (HX)|exact Xs)
     ·have HX:Ad8 (ys=D9 o/\o=(w.tups.take (j+1)).filter fun t=>Dg q.parts v (Gy t pl)):=by
       obtain⟨x1,x2⟩:=hX.out;exact⟨x1,by rw[HF.out,if_neg hm,x2,Abv]⟩
      have hb:((f x:Int)==(a:Int))=false:=by simp;omega
      clear hX HF hm
      repeat' (first|refine Z1 ?_|(refine Z8 ?_;intro κ hκ)|(refine Z4 ?_;clear hκ κ)|(refine Z2 ?_ ?_<;>intro h ah<;>try exact Xp)|(refine Z6 ?_;intro idn dn aj ak ae aa af ab)|refine Z3 ?_|exact⟨⟩|(apply hκ.out;clear hκ κ))
      refine⟨w.tups.length-(j+1),Ad2,j+1,i5,o,ys,?_⟩
      ((repeat' with_reducible refine And.intro ?_ ?_)<;>first|exact Xq|exact (Own.put (Own.new hO _) _ _)|exact (Own.put (Own.new bw _) _ _)|exact (HX)|exact Xs)
    ·have bh:j=w.tups.length:=Ad2;subst bh;obtain⟨x1,x2⟩:=hX.out;rw[Abn]at x2;have HX:Ad8 (EL Ky ((q.parts.take (k+1)).map (Fg q.parts v)) (xs++[ic w.a.p,sl id w.a.ts.length (Ac w.a.ts),sl i5 o.length ys])):=by
      rw[Ad8,HM.out];refine EL.append cb.out (EL.single ?_);rw[ch.out,<-x2];exact⟨id,i5,by rw[x1]⟩
     clear hX x1 x2
     repeat' (first|refine Z1 ?_|(refine Z8 ?_;intro κ hκ)|(refine Z4 ?_;clear hκ κ)|(refine Z2 ?_ ?_<;>intro h ah<;>try exact Xp)|(refine Z6 ?_;intro idn dn aj ak ae aa af ab)|refine Z3 ?_|exact⟨⟩|(apply hκ.out;clear hκ κ))
     refine⟨q.parts.length-(k+1),Ad2,k+1,idn,xs++[ic w.a.p,sl id w.a.ts.length (Ac w.a.ts),sl i5 o.length ys],?_⟩
     ((repeat' with_reducible refine And.intro ?_ ?_)<;>first|exact Xq|exact (ak.put Ad2 _)|exact (Own.put aj _ _)|exact (HX)|exact Xs)
  ·have b7:k=q.parts.length:=Ad2;subst b7;rw[Abn]at hX;have ce:(q.parts.map (Fg q.parts v)).length=q.parts.length:=by rw[Ac9]
   repeat' (first|refine Z1 ?_|(refine Z8 ?_;intro κ hκ)|(refine Z4 ?_;clear hκ κ)|(refine Z2 ?_ ?_<;>intro h ah<;>try exact Xp)|(refine Z6 ?_;intro idn dn aj ak ae aa af ab)|refine Z3 ?_|exact⟨⟩|(apply hκ.out;clear hκ κ))
   exact⟨_,rfl,⟨_,rfl,ih,i3,inn,xs,nc,by simp only[Ew];rw[ce],hX.out,cd⟩,hK.put Ad2 _⟩
end Go.Proofs.YtmoeoppbmhfbpabGreatDoorH
