import Derived.Test.YtmoeoppbmhfbpaaGreatDoorHEngI
set_option maxHeartbeats 32000000
set_option maxRecDepth 100000
set_option linter.all false
namespace Go.Proofs.YtmoeoppbmhfbpaaGreatDoorH
open Go.Abs
def Num (ar:Nat)(t:Bj):Prop:=∀i,i<ar->∃k:Nat,t[i]?=some (k:Int)/\k<1026
def QN (q:Qry):Prop:=∀p∈q.parts,∀t∈p.tups,Num p.a.ts.length t
def F0 (f:Nat->Bool):List AV:=(List.range 1026).map fun i=>sc (.bool (f i))
theorem eQ:Jj 1026 (.bool false)=F0 fun _=>false:=by
 unfold Jj F0;rw[List.map_const'];simp[cst1]
theorem jE (f:Nat->Bool):(F0 f).length=1026:=by simp[F0]
theorem jF (f:Nat->Bool){k:Nat}(h:k<1026):(F0 f)[k]?=some (sc (.bool (f k))):=by simp[F0,h]
theorem jD (f:Nat->Bool){k:Nat}(h:k<1026)(b:Bool):(F0 f).set k (sc (.bool b))=F0 fun j=>if j=k then b else f j:=by
 apply Abd;intro n;rw[Aa4];by_cases hn:n<1026
 ·by_cases he:k=n
  ·subst he;simp[F0,hn]
  ·have:n≠k:=fun e=>he e.symm;simp[F0,hn,he,this]
 ·have:k≠n:=Ad2;simp[F0,hn,this]
def mN (pl:Int)(acc:List Int)(t:Bj):List Int:=if G9 t pl∈acc then acc else acc++[G9 t pl]
def Un (tups:List Bj)(pl:Int):List Int:=tups.foldl (mN pl) []
def Kb (q:Qry)(v:Int):List Int:=match q.parts.find? (fun p=>Bb p.a.ts v)with
 |some p=>Un p.tups (Hw p.a.ts v)
 |none=>[]
theorem oK {α:Type}{f:α->Bool}{l:List α}{i:Nat}{x:α}(hn:∀y∈l.take i,f y=false)(hi:l[i]?=some x)(hx:f x=true):l.find? f=some x:=by
 have aa:=(Aau.1 hi);obtain⟨h1,h2⟩:=aa
 conv=>lhs;rw[<-Ada i l]
 rw[List.find?_append,Ab6.2 (fun y hy=>by rw[hn y hy];simp),Abx h1,h2];simp[hx]
theorem Jx (q:Qry)(c:List AV)(v:Int)(hc:EQ q c)(hq:M9 q)(hN:QN q)(σ:St):ACalls Tryz.prog 172 [ag c,ic v] σ fun r σ'=>(∃id,r=sl id (Kb q v).length (Aj (Kb q v)))/\Keep σ σ':=by
 obtain⟨ih,ip,inn,pc,nc,rfl,hP,-⟩:=hc;have bm:=EL.length D6 hP;have hl:=hq.pl;have hz:=eQ;refine Z9 53 [.tmp 4] Tryz.func172 ?_
 repeat' (first|refine Z1 ?_|(refine Z8 ?_;intro ya J)|(refine Z4 ?_;clear J ya)|(refine Z2 ?_ ?_<;>intro h af<;>try exact Xp)|(refine Z6 ?_;intro idn σn ai aj ae aa ad ab)|refine Z3 ?_|exact Zt|(apply J.out;clear J ya))
 refine Ab (fun m s σ'=>∃i:Nat,m=q.parts.length-i/\i<=q.parts.length/\s 1=ic v/\s 5=nilS/\s 6=ptr (σ.nobj+1) 0/\s 14=sl ip q.parts.length pc/\s 15=ic q.parts.length/\s 16=ic i/\Keep σ σ'/\σ.nobj+1<σ'.nobj/\σ'.obj (σ.nobj+1)=F0 (fun _=>false)/\Ad8 (∀p∈q.parts.take i,Bb p.a.ts v=false)) q.parts.length
  ⟨0,Ad2,Ad2,by simp[upd,initS],Ad4,Ad4,Ad4,Ad4,rfl,Xs,Ad6,?_,by simp[Ad8]⟩ ?_
 ·rw[Cd Ad6 Ad6]
 rintro m s σ' ⟨i,rfl,hi,h1,h5,h6,bj,bi,bh,hK,a7,aw,hA⟩;have a6:=hK.nobj;by_cases ap:i<q.parts.length
 ·have ac:=Aav ap;obtain⟨id,idt,r,hd⟩:=Eu hP ac;have bg:=hq.pa _ (Ab1 ap);have bf:=hq.pt _ (Ab1 ap);have a3:=hq.p3 _ (Ab1 ap);have a8:=hN _ (Ab1 ap);generalize q.parts[i]=w at hd ac bg bf a3 a8;have bc:w.a.ts.length<=1000:=Ad2;have av:=fun σ=>Fq w.a.p id w.a.ts v bc σ;have a5:Keep σ ((σ'.new [ic 0,nilS,nilS]).put σ'.nobj [ic w.a.p,sl id w.a.ts.length (Ae w.a.ts),sl idt w.tups.length (C7 w.tups)]):=(hK.new _).put hK.nobj _;cases hv:Bb w.a.ts v with
  |false=>
   have hp:Hw w.a.ts v= -1:=I6 (by simpa[Bb]using hv);have HS:Ad8 (∀p∈q.parts.take (i+1),Bb p.a.ts v=false):=by
    rw[Ad8,Aa8,ac,Ab9];intro p hp;rcases Ab2.1 hp with hp|hp
    ·exact hA.out p hp
    ·simp at hp;subst hp;exact hv
   rw[hp]at av;clear hp ac hA
   repeat' (first|refine Z1 ?_|(refine Z8 ?_;intro ya J)|(refine Z4 ?_;clear J ya)|(refine Z2 ?_ ?_<;>intro h af<;>try exact Xp)|(refine Z6 ?_;intro idn σn ai aj ae aa ad ab)|(refine Z5 ?_;refine Xi (av _) ?_;rintro _ _ ⟨rfl,ak⟩;(have am:=ak.nobj;have ah:=ak.obj;have a4:=a5.trans ak;simp only[Ac,Aa]at am ah))|refine Z3 ?_|exact Zt|(apply J.out;clear J ya))
   refine⟨q.parts.length-(i+1),Ad2,i+1,?_⟩
   ((repeat' refine Zi ?_ ?_)<;>first|exact Xq|exact HS|exact Xs)
  |true=>
   obtain⟨pl,ax,ay⟩:=I7 hv;have HR:Ad8 (Kb q v=Un w.tups pl):=by rw[Ad8,Kb,oK hA.out ac hv];simp only[ay]
   rw[ay]at av;clear ay ac hA;have ba:pl<3:=Ad2;have bb:((pl:Int)== -1)=false:=by simp
   have bl:=Er a3
   repeat' (first|refine Z1 ?_|(refine Z8 ?_;intro ya J)|(refine Z4 ?_;clear J ya)|(refine Z2 ?_ ?_<;>intro h af<;>try exact Xp)|(refine Z6 ?_;intro idn σn ai aj ae aa ad ab)|(refine Z5 ?_;refine Xi (av _) ?_;rintro _ _ ⟨rfl,ak⟩;(have am:=ak.nobj;have ah:=ak.obj;have a4:=a5.trans ak;simp only[Ac,Aa]at am ah))|refine Z3 ?_|exact Zt|(apply J.out;clear J ya))
   rename_i σ1;have o1:σ1.obj (σ.nobj+1)=F0 (fun _=>false):=by rw[ah _ Ad2,Al Ad2,Ai Ad2,aw]
   clear ah ak
   refine Ab (fun m s σ''=>∃(j i3:Nat) (vs:List Int) (f:Nat->Bool),m=w.tups.length-j/\j<=w.tups.length/\s 5=sl i3 vs.length (Aj vs)/\s 6=ptr (σ.nobj+1) 0/\s 9=ic pl/\s 27=sl idt w.tups.length (C7 w.tups)/\s 28=ic w.tups.length/\s 29=ic j/\Keep σ σ''/\σ.nobj+1<σ''.nobj/\σ''.obj (σ.nobj+1)=F0 f/\Own σ σ'' i3 vs.length/\vs.length<=j/\Ad8 (vs=Un (w.tups.take j) pl/\∀k:Nat,f k=true↔(k:Int)∈vs)) w.tups.length
    ⟨0,1,[],fun _=>false,Ad2,Ad2,by simp[upd, *,Aj],Ad3,Ad4,Ad4,Ad4,rfl,a4,Ad2,o1,Own.nil _ _,by simp,by simp[Un],by simp⟩ ?_
   clear o1 h1 h5 h6 bj bi bh hK a7 aw a6 a4 a5;rintro m s σ'' ⟨j,i3,vs,f,rfl,hj,h5,h6,h9,bq,bp,bo,hK,a7,aw,hO,bk,hX⟩;have a6:=hK.nobj;have az:=Bm vs;by_cases ao:j<w.tups.length
   ·have ac:=Aav ao;obtain⟨an,r2,be⟩:=Fv a3 ac;obtain⟨x,au,hx⟩:=a8 _ (Ab1 ao) pl ax;generalize w.tups[j]=t at be ac an au;have bn:=Ir au;have HS:Ad8 (Un (w.tups.take (j+1)) pl=if (x:Int)∈vs then vs else vs++[(x:Int)]):=by
     have a9:G9 t pl=(x:Int):=by simp[G9,au]
     rw[Ad8,Aa8,ac,Ab9,Un,Ac1,hX.out.1];simp only[Aa2,List.foldl_nil,mN,a9];rfl
    clear ac au;have f1:=Dj an;have f2:=Hc an;have f3:=D1 an;have f4:=G3 an;have f5:=Cj t;have f6:=N9 an;have g1:=jF f hx;have g2:=jD f hx true;have g3:=jE f;by_cases hm:(x:Int)∈vs
    ·have a0:f x=true:=(hX.out.2 x).2 hm;have HX:Ad8 (vs=Un (w.tups.take (j+1)) pl/\∀k:Nat,f k=true↔(k:Int)∈vs):=⟨by rw[HS.out,if_pos hm],hX.out.2⟩;rw[a0]at g1;clear hX HS hm g2
     repeat' (first|refine Z1 ?_|(refine Z8 ?_;intro ya J)|(refine Z4 ?_;clear J ya)|(refine Z2 ?_ ?_<;>intro h af<;>try exact Xp)|(refine Z6 ?_;intro idn σn ai aj ae aa ad ab)|refine Z3 ?_|exact Zt|(apply J.out;clear J ya))
     refine⟨w.tups.length-(j+1),Ad2,j+1,i3,vs,f,?_⟩
     ((repeat' refine Zi ?_ ?_)<;>first|exact Xq|exact (Own.put (Own.new hO _) _ _)|exact HX|exact Xs)
    ·have a0:f x=false:=by
      cases h:f x with
      |false=>rfl
      |true=>exact absurd ((hX.out.2 x).1 h) hm
     have HX:Ad8 (vs++[(x:Int)]=Un (w.tups.take (j+1)) pl/\∀k:Nat,(if k=x then true else f k)=true↔(k:Int)∈vs++[(x:Int)]):=by
      refine⟨by rw[HS.out,if_neg hm],fun k=>?_⟩;have h2:=hX.out.2 k;by_cases e:k=x
      ·subst e;simp
      ·rw[if_neg e,h2];have:¬(k:Int)=(x:Int):=Ad2;simp[this]
     rw[a0]at g1;clear hX HS hm
     repeat' (first|refine Z1 ?_|(refine Z8 ?_;intro ya J)|(refine Z4 ?_;clear J ya)|(refine Z2 ?_ ?_<;>intro h af<;>try exact Xp)|(refine Z6 ?_;intro idn σn ai aj ae aa ad ab)|refine Z3 ?_|exact Zt|(apply J.out;clear J ya))
     refine C4 (by first|exact Sb) (((hK.new _).put hK.nobj _).put Ad2 _) (Own.put (Own.put (Own.new hO _) _ _) _ _) (by decide) (by rfl) (by rw[az,Nat.mul_one]) (by rfl) (by rfl) (by decide) Ad2 Ad2 ?_;intro idn σn ai aj ae aa ad ab;simp only[Ac,Aa]at aa;refine Z3 ?_
     repeat' (first|refine Z1 ?_|(refine Z8 ?_;intro ya J)|(refine Z4 ?_;clear J ya)|(refine Z2 ?_ ?_<;>intro h af<;>try exact Xp)|(refine Z6 ?_;intro idn σn ai aj ae aa ad ab)|refine Z3 ?_|exact Zt|(apply J.out;clear J ya))
     refine⟨w.tups.length-(j+1),Ad2,j+1,idn,vs++[(x:Int)],fun k=>if k=x then true else f k,?_⟩
     ((repeat' refine Zi ?_ ?_)<;>first|exact Xq|exact (by simpa using ai)|exact HX|exact (by simp[Aj])|exact Xs)
   ·have bd:j=w.tups.length:=Ad2;subst bd;obtain⟨x1,-⟩:=hX.out;rw[Aa3]at x1;rw[<-x1]at HR;have HR:=HR.out
    repeat' (first|refine Z1 ?_|(refine Z8 ?_;intro ya J)|(refine Z4 ?_;clear J ya)|(refine Z2 ?_ ?_<;>intro h af<;>try exact Xp)|(refine Z6 ?_;intro idn σn ai aj ae aa ad ab)|refine Z3 ?_|exact Zt|(apply J.out;clear J ya))
    first|exact⟨_,rfl,⟨i3,rfl⟩,hK⟩|exact⟨_,rfl,⟨i3,by rw[HR]⟩,hK⟩|exact⟨_,rfl,⟨i3,rfl⟩⟩|exact⟨_,rfl,i3,rfl⟩
 ·have az:i=q.parts.length:=Ad2;subst az;rw[Aa3]at hA;have HR:Kb q v=[]:=by
   unfold Kb;rw[Ab6.2 (fun p hp=>by rw[hA.out p hp];simp)]
  repeat' (first|refine Z1 ?_|(refine Z8 ?_;intro ya J)|(refine Z4 ?_;clear J ya)|(refine Z2 ?_ ?_<;>intro h af<;>try exact Xp)|(refine Z6 ?_;intro idn σn ai aj ae aa ad ab)|refine Z3 ?_|exact Zt|(apply J.out;clear J ya))
  first|exact⟨_,rfl,⟨1,rfl⟩,hK⟩|exact⟨_,rfl,⟨1,by rw[HR];rfl⟩,hK⟩|exact⟨_,rfl,1,rfl⟩|exact⟨_,rfl,1,by rw[HR];rfl⟩
theorem Gw {P:Program}{t:TypeId}{z b:Nat}{zc:List Value}{σ0 σ:St}{id id2 n m m':Nat}{xs ys:List AV}{K:AV->St->Prop}(ht:Ld P t=some (z,b,zc))(hK:Keep σ0 σ)(hO:Own σ0 σ id n)
  (hz:0<z) (hzc:zc.length=z) (hx:xs.length=n*z) (hy:ys.length=m*z) (hf:ys.all flat=true) (hm:0<m) (hb:(n+m)*b<=140737488355328) (hl:n+m<=1099511627776)
  (h:∀id' σ',Own σ0 σ' id' (n+m)->Keep σ0 σ'->σ'.obj=σ.obj->σ'.nobj=σ.nobj->σ'.ver=σ.ver->σ.ntop<σ'.ntop->(∀i k,Own σ0 σ i k->(id=1\/id≠i)->Own σ0 σ' i k/\(id'=1\/id'≠i))->K (sl id' (n+m) (xs++ys)) σ'):Gx P t t (sl id n xs) (sl id2 m ys) (σ.lay m') K:=by
 unfold Gx Zf;left;simp only[ht];rw[if_pos ⟨trivial,hz,hzc,hx,hy,hf,hm,hb,hl⟩];rcases hO with⟨rfl,rfl⟩|⟨k,rfl,h2,h3,h4,h5⟩
 ·have ab:xs=[]:=Aa1 (by simpa using hx);subst ab
  have:=h ((σ.lay m').ntop+2) ((σ.lay m').lay m) (by rw[Abi];exact Own.made (hK.lay m') hm) ((hK.lay m').lay m) rfl rfl rfl (by simp[St.lay];omega) (fun i k ho _=>by
   refine⟨ho.keep (((Keep.refl _).lay _).lay _),?_⟩;right;rcases ho with⟨rfl,-⟩|⟨j,rfl,-,hj,-⟩
   ·simp[St.lay]
   ·simp[St.lay];omega)
  simpa using this
 ·have e1:(σ.lay m').top k=n:=by simp[St.lay];rw[if_neg Ad2];exact h4
  simp only;rw[if_pos ⟨e1,h5⟩]
  exact h (k+2) _ (.inr ⟨k,rfl,h2,by simp[St.raise,St.lay];omega,by simp[St.raise],Ad2⟩) ((hK.lay m').raise h2 _) rfl rfl rfl (by simp[St.raise,St.lay]) (fun i j ho aa=>by
   have aa:k+2≠i:=by rcases aa with h|h<;>omega
   refine⟨?_,.inr aa⟩;rcases ho with ho|⟨j',rfl,g1,g2,g3,g4⟩
   ·exact .inl ho
   ·exact .inr ⟨j',rfl,g1,by simp[St.raise,St.lay];omega,by simp[St.raise,St.lay];rw[if_neg Ad2,if_neg Ad2];exact g3,g4⟩)
def Em (f:Nat->Nat):List AV:=(List.range 1026).map fun i=>ic (f i:Nat)
theorem dK:Jj 1026 (.int .i64 0)=Em fun _=>0:=by
 unfold Jj Em;rw[List.map_const'];simp[cst1]
theorem S9 (f:Nat->Nat):(Em f).length=1026:=by simp[Em]
theorem Ta (f:Nat->Nat){k:Nat}(h:k<1026):(Em f)[k]?=some (ic (f k:Nat)):=by simp[Em,h]
theorem iA (f:Nat->Nat){k:Nat}(h:k<1026)(b:Nat):(Em f).set k (ic (b:Nat))=Em fun j=>if j=k then b else f j:=by
 apply Abd;intro n;rw[Aa4];by_cases hn:n<1026
 ·by_cases he:k=n
  ·subst he;simp[Em,hn]
  ·have:n≠k:=fun e=>he e.symm;simp[Em,hn,he,this]
 ·have:k≠n:=Ad2;simp[Em,hn,this]
def zI (v:Int)(n:Int)(p:Part):Bool:=p.tups.any fun t=>G9 t (Hw p.a.ts v)==n
def Dr (l:List Part)(v n:Int):Bool:=l.all fun p=>!Bb p.a.ts v||zI v n p
def Ft (l:List Part)(v:Int)(p:Part):Part:=if Bb p.a.ts v=true then⟨p.a,p.tups.filter fun t=>Dr l v (G9 t (Hw p.a.ts v))⟩else p
def E4 (q:Qry)(v:Int):Qry:={q with parts:=q.parts.map (Ft q.parts v)}
def gF (f:Nat->Nat)(a:Nat)(pl:Int)(l:List Bj)(k:Nat):Nat:=if f k=a/\l.any (fun t=>G9 t pl==(k:Int))=true then a+1 else f k
theorem wA {f:Nat->Nat}{a:Nat}{pl:Int}{l:List Bj}{t:Bj}{x:Nat}(ht:G9 t pl=(x:Int)):gF f a pl (l++[t])=fun k=>if k=x/\gF f a pl l x=a then a+1 else gF f a pl l k:=by
 funext k;have aa:(l++[t]).any (fun t=>G9 t pl==(k:Int))=(l.any (fun t=>G9 t pl==(k:Int))||decide (k=x)):=by
  rw[Ac8];simp only[List.any_cons,List.any_nil,Bool.or_false,ht];congr 1;by_cases e:k=x
  ·subst e;simp
  ·have:¬(x:Int)=(k:Int):=Ad2;simp[e,this]
 unfold gF;rw[aa];by_cases e:k=x
 ·subst e;by_cases h1:f k=a
  ·cases h2:l.any (fun t=>G9 t pl==(k:Int))<;>simp[h1]
  ·simp[h1]
 ·simp[e]
theorem yK (f:Nat->Nat)(a:Nat)(pl:Int):gF f a pl []=f:=by funext k;simp[gF]
theorem eK (q:Qry)(c:List AV)(v:Int)(hc:EQ q c)(hq:M9 q)(hN:QN q)(σ:St):ACalls Tryz.prog 250 [ag c,ic v] σ fun r σ'=>(∃c',r=ag c'/\EQ (E4 q v) c')/\Keep σ σ':=by
 obtain⟨ih,ip,inn,pc,nc,rfl,hP,cc⟩:=hc;have cj:=EL.length D6 hP;have hl:=hq.pl;have hz:=dK;refine Z9 113 [.cell 4 182] Tryz.func250 ?_
 repeat' (first|refine Z1 ?_|(refine Z8 ?_;intro ya J)|(refine Z4 ?_;clear J ya)|(refine Z2 ?_ ?_<;>intro h ah<;>try exact Xp)|(refine Z6 ?_;intro idn σn aj ak ae aa af ab)|refine Z3 ?_|exact Zt|(apply J.out;clear J ya))
 refine Ab (fun m s σ'=>∃(i a:Nat) (f:Nat->Nat),m=q.parts.length-i/\i<=q.parts.length/\s 1=ic v/\s 2=ptr σ.nobj 0/\s 4=ptr (σ.nobj+1) 0/\s 5=ptr (σ.nobj+2) 0/\s 6=ic a/\s 20=sl ip q.parts.length pc/\s 21=ic q.parts.length/\s 22=ic i/\Keep σ σ'/\σ.nobj+2<σ'.nobj/\σ'.obj σ.nobj=[ic q.head.p,sl ih q.head.ts.length (Ae q.head.ts),sl ip q.parts.length pc,sl inn q.nots.length nc]/\σ'.obj (σ.nobj+1)=[ic 0,nilS,nilS,nilS]/\σ'.obj (σ.nobj+2)=Em f/\a<=i/\(∀k,f k<=a)/\Ad8 (∀k,f k=a↔Dr (q.parts.take i) v (k:Int)=true)) q.parts.length
  ⟨0,0,fun _=>0,Ad2,Ad2,by simp[upd,initS],Ad4,Ad4,Ad4,Ad4,Ad4,Ad4,rfl,Xs,Ad6,?_,?_,?_,Ad2,by simp,by simp[Ad8,Dr]⟩ ?_
 ·rw[Ai Ad6,Ai Ad6,Am]
 ·rw[Ai Ad6,Cd Ad6 Ad6]
 ·rw[Cd Ad6 Ad6]
 rintro m s σ' ⟨i,a,f,rfl,hi,h1,h2,h4,h5,h6,br,bq,bp,hK,a4,a9,av,au,cn,ba,hA⟩;have bu:=hK.nobj;by_cases an:i<q.parts.length
 ·have ac:=Aav an;obtain⟨id,idt,r,hd⟩:=Eu hP ac;have bl:=hq.pa _ (Ab1 an);have bk:=hq.pt _ (Ab1 an);have a5:=hq.p3 _ (Ab1 an);have a8:=hN _ (Ab1 an);generalize q.parts[i]=w at hd ac bl bk a5 a8;have bh:w.a.ts.length<=1000:=Ad2;have ax:=fun σ=>Fq w.a.p id w.a.ts v bh σ;have a7:Keep σ ((σ'.new [ic 0,nilS,nilS]).put σ'.nobj [ic w.a.p,sl id w.a.ts.length (Ae w.a.ts),sl idt w.tups.length (C7 w.tups)]):=(hK.new _).put hK.nobj _;have bb:Ad8 (∀n,Dr (q.parts.take (i+1)) v n=(Dr (q.parts.take i) v n&&(!Bb w.a.ts v||zI v n w))):=by
   intro n;rw[Aa8,ac,Ab9,Dr,List.all_append];simp[Dr]
  clear ac;cases hv:Bb w.a.ts v with
  |false=>
   have hp:Hw w.a.ts v= -1:=I6 (by simpa[Bb]using hv);have HS:Ad8 (∀k,f k=a↔Dr (q.parts.take (i+1)) v (k:Int)=true):=by
    intro k;rw[bb.out,hv,hA.out k];simp
   rw[hp]at ax;clear hp hA bb
   repeat' (first|refine Z1 ?_|(refine Z8 ?_;intro ya J)|(refine Z4 ?_;clear J ya)|(refine Z2 ?_ ?_<;>intro h ah<;>try exact Xp)|(refine Z6 ?_;intro idn σn aj ak ae aa af ab)|(refine Z5 ?_;refine Xi (ax _) ?_;rintro _ _ ⟨rfl,ai⟩;(have ao:=ai.nobj;have ad:=ai.obj;have a6:=a7.trans ai;simp only[Ac,Aa]at ao ad))|refine Z3 ?_|exact Zt|(apply J.out;clear J ya))
   refine⟨q.parts.length-(i+1),Ad2,i+1,a,f,?_⟩
   ((repeat' refine Zi ?_ ?_)<;>first|exact Xq|exact HS|exact Xs)
  |true=>
   obtain⟨pl,a0,a3⟩:=I7 hv;have HS:Ad8 (∀k,gF f a pl w.tups k=a+1↔Dr (q.parts.take (i+1)) v (k:Int)=true):=by
    intro k;have h1:=hA.out k;have h2:=ba k;rw[bb.out,hv,Aaz,<-h1];simp only[Abr,Abt,zI,a3];unfold gF;by_cases hc:f k=a/\w.tups.any (fun t=>G9 t pl==(k:Int))=true
    ·rw[if_pos hc];exact⟨fun _=>hc,fun _=>rfl⟩
    ·rw[if_neg hc];exact⟨fun h=>Ad2,fun h=>absurd h hc⟩
   have cf:Ad8 (∀k,gF f a pl w.tups k<=a+1):=by
    intro k;have h2:=ba k;unfold gF;split<;>omega
   rw[a3]at ax;clear a3 hA bb;have be:pl<3:=Ad2;have bg:((pl:Int)== -1)=false:=by simp
   have b4:=Er a5
   repeat' (first|refine Z1 ?_|(refine Z8 ?_;intro ya J)|(refine Z4 ?_;clear J ya)|(refine Z2 ?_ ?_<;>intro h ah<;>try exact Xp)|(refine Z6 ?_;intro idn σn aj ak ae aa af ab)|(refine Z5 ?_;refine Xi (ax _) ?_;rintro _ _ ⟨rfl,ai⟩;(have ao:=ai.nobj;have ad:=ai.obj;have a6:=a7.trans ai;simp only[Ac,Aa]at ao ad))|refine Z3 ?_|exact Zt|(apply J.out;clear J ya))
   rename_i σ1;have p0:σ1.obj σ.nobj=[ic q.head.p,sl ih q.head.ts.length (Ae q.head.ts),sl ip q.parts.length pc,sl inn q.nots.length nc]:=by rw[ad _ Ad2,Al Ad2,Ai Ad2,a9]
   have p1:σ1.obj (σ.nobj+1)=[ic 0,nilS,nilS,nilS]:=by rw[ad _ Ad2,Al Ad2,Ai Ad2,av]
   have p2:σ1.obj (σ.nobj+2)=Em f:=by rw[ad _ Ad2,Al Ad2,Ai Ad2,au]
   clear ad ai
   refine Ab (fun m s σ''=>∃(j:Nat) (g:Nat->Nat),m=w.tups.length-j/\j<=w.tups.length/\s 1=ic v/\s 2=ptr σ.nobj 0/\s 4=ptr (σ.nobj+1) 0/\s 5=ptr (σ.nobj+2) 0/\s 6=ic a/\s 9=ic pl/\s 20=sl ip q.parts.length pc/\s 21=ic q.parts.length/\s 22=ic i/\s 33=sl idt w.tups.length (C7 w.tups)/\s 34=ic w.tups.length/\s 35=ic j/\Keep σ σ''/\σ.nobj+2<σ''.nobj/\σ''.obj σ.nobj=[ic q.head.p,sl ih q.head.ts.length (Ae q.head.ts),sl ip q.parts.length pc,sl inn q.nots.length nc]/\σ''.obj (σ.nobj+1)=[ic 0,nilS,nilS,nilS]/\σ''.obj (σ.nobj+2)=Em g/\(∀k,g k<=a+1)/\Ad8 (g=gF f a pl (w.tups.take j))) w.tups.length
    ⟨0,f,Ad2,Ad2,Ad3,Ad3,Ad3,Ad3,Ad3,Ad4,Ad3,Ad3,Ad3,Ad4,Ad4,rfl,a6,Ad2,p0,p1,p2,fun k=>by have:=ba k;omega,by simp[Ad8,yK]⟩ ?_
   clear p0 p1 p2 h1 h2 h4 h5 h6 br bq bp hK a4 a9 av au bu a6 a7;rintro m s σ'' ⟨j,g,rfl,hj,h1,h2,h4,h5,h6,h9,br,bq,bp,ct,cs,cr,hK,a4,a9,av,au,ca,hX⟩;have bu:=hK.nobj;by_cases ap:j<w.tups.length
   ·have ac:=Aav ap;obtain⟨am,r2,bj⟩:=Fv a5 ac;obtain⟨x,aw,hx⟩:=a8 _ (Ab1 ap) pl a0;generalize w.tups[j]=t at bj ac am aw;have b9:=Ir aw;have HG:Ad8 (gF f a pl (w.tups.take (j+1))=fun k=>if k=x/\g x=a then a+1 else g k):=by
     have bd:G9 t pl=(x:Int):=by simp[G9,aw]
     rw[Ad8,Aa8,ac,Ab9,wA bd,hX.out]
    clear ac aw hX;have f1:=Dj am;have f2:=Hc am;have f3:=D1 am;have f4:=G3 am;have f5:=Cj t;have f6:=N9 am;have g1:=Ta g hx;have g2:=iA g hx (a+1);have g3:=S9 g;by_cases hm:g x=a
    ·have HX:Ad8 ((fun k=>if k=x then a+1 else g k)=gF f a pl (w.tups.take (j+1))):=by
      rw[Ad8,HG.out];funext k;simp[hm]
     have hb:((g x:Int)==(a:Int))=true:=by simp[hm]
     rw[hm]at g1;have ay:((a+1:Nat):Int)=(a:Int)+1:=Ad2;rw[ay]at g2;clear ay HG
     repeat' (first|refine Z1 ?_|(refine Z8 ?_;intro ya J)|(refine Z4 ?_;clear J ya)|(refine Z2 ?_ ?_<;>intro h ah<;>try exact Xp)|(refine Z6 ?_;intro idn σn aj ak ae aa af ab)|refine Z3 ?_|exact Zt|(apply J.out;clear J ya))
     refine⟨w.tups.length-(j+1),Ad2,j+1,fun k=>if k=x then a+1 else g k,?_⟩
     ((repeat' refine Zi ?_ ?_)<;>first|exact Xq|exact HX|exact (fun k=>by have:=ca k;dsimp only;split<;>omega)|exact Xs)
    ·have HX:Ad8 (g=gF f a pl (w.tups.take (j+1))):=by
      rw[Ad8,HG.out];funext k;simp[hm]
     have hb:((g x:Int)==(a:Int))=false:=by simp;omega
     clear HG hm g2
     repeat' (first|refine Z1 ?_|(refine Z8 ?_;intro ya J)|(refine Z4 ?_;clear J ya)|(refine Z2 ?_ ?_<;>intro h ah<;>try exact Xp)|(refine Z6 ?_;intro idn σn aj ak ae aa af ab)|refine Z3 ?_|exact Zt|(apply J.out;clear J ya))
     refine⟨w.tups.length-(j+1),Ad2,j+1,g,?_⟩
     ((repeat' refine Zi ?_ ?_)<;>first|exact Xq|exact HX|exact Xs)
   ·have bi:j=w.tups.length:=Ad2;subst bi;have hX:=hX.out;rw[Aa3]at hX;subst hX
    repeat' (first|refine Z1 ?_|(refine Z8 ?_;intro ya J)|(refine Z4 ?_;clear J ya)|(refine Z2 ?_ ?_<;>intro h ah<;>try exact Xp)|(refine Z6 ?_;intro idn σn aj ak ae aa af ab)|refine Z3 ?_|exact Zt|(apply J.out;clear J ya))
    refine⟨q.parts.length-(i+1),Ad2,i+1,a+1,gF f a pl w.tups,?_⟩
    ((repeat' refine Zi ?_ ?_)<;>first|exact Xq|exact HS|exact cf.out|exact Xs)
 ·have b8:i=q.parts.length:=Ad2;subst b8;rw[Aa3]at hA;clear hi
  repeat' (first|refine Z1 ?_|(refine Z8 ?_;intro ya J)|(refine Z4 ?_;clear J ya)|(refine Z2 ?_ ?_<;>intro h ah<;>try exact Xp)|(refine Z6 ?_;intro idn σn aj ak ae aa af ab)|refine Z3 ?_|exact Zt|(apply J.out;clear J ya))
  refine Ab (fun m s σ2=>∃(k i3:Nat) (xs:List AV),m=q.parts.length-k/\k<=q.parts.length/\s 1=ic v/\s 4=ptr (σ.nobj+1) 0/\s 5=ptr (σ.nobj+2) 0/\s 6=ic a/\s 12=ptr σ'.nobj 0/\s 63=sl ip q.parts.length pc/\s 64=ic q.parts.length/\s 65=ic k/\Keep σ σ2/\σ'.nobj<σ2.nobj/\σ2.obj (σ.nobj+1)=[ic 0,nilS,nilS,nilS]/\σ2.obj (σ.nobj+2)=Em f/\σ2.obj σ'.nobj=[ic q.head.p,sl ih q.head.ts.length (Ae q.head.ts),sl i3 k xs,sl inn q.nots.length nc]/\Own σ σ2 i3 k/\xs.length=k*3/\Ad8 (EL La ((q.parts.take k).map (Ft q.parts v)) xs)) q.parts.length
   ⟨0,1,[],Ad2,Ad2,Ad3,Ad3,Ad3,Ad3,Ad4,Ad4,Ad4,rfl,(hK.new _).put hK.nobj _,Ad7,?_,?_,?_,Own.nil _ _,by simp,by simp[Ad8,EL]⟩ ?_
  ·rw[Al Ad2,Ai Ad2,av]
  ·rw[Al Ad2,Ai Ad2,au]
  ·rw[Ak]
  have ce:=a4;clear h1 h2 h4 h5 h6 br bq bp an a9 av au a4 hK;generalize bo:σ'.nobj=o12 at*
  clear bo;rintro m s σ2 ⟨k,i3,xs,rfl,hk,h1,h4,h5,h6,b1,b0,bz,bw,hK,a4,av,au,bc,hO,ci,hX⟩;have ao:=hK.nobj;by_cases an:k<q.parts.length
  ·have ac:=Aav an;obtain⟨id,idt,r,hd⟩:=Eu hP ac;have bl:=hq.pa _ (Ab1 an);have bk:=hq.pt _ (Ab1 an);have a5:=hq.p3 _ (Ab1 an);have a8:=hN _ (Ab1 an);generalize q.parts[k]=w at hd ac bl bk a5 a8;have bh:w.a.ts.length<=1000:=Ad2;have ax:=fun σ=>Fq w.a.p id w.a.ts v bh σ;have a7:Keep σ ((σ2.new [ic 0,nilS,nilS]).put σ2.nobj [ic w.a.p,sl id w.a.ts.length (Ae w.a.ts),sl idt w.tups.length (C7 w.tups)]):=(hK.new _).put hK.nobj _;have HM:Ad8 ((q.parts.take (k+1)).map (Ft q.parts v)=(q.parts.take k).map (Ft q.parts v)++[Ft q.parts v w]):=by
    rw[Ad8,Aa8,ac];simp
   clear ac;cases hv:Bb w.a.ts v with
   |false=>
    have hp:Hw w.a.ts v= -1:=I6 (by simpa[Bb]using hv);have HX:Ad8 (EL La ((q.parts.take (k+1)).map (Ft q.parts v)) (xs++[ic w.a.p,sl id w.a.ts.length (Ae w.a.ts),sl idt w.tups.length (C7 w.tups)])):=by
     rw[Ad8,HM.out];refine EL.append hX.out (EL.single ?_);rw[Ft,if_neg (by rw[hv];simp)];exact⟨id,idt,rfl⟩
    rw[hp]at ax;clear hp HM hX
    repeat' (first|refine Z1 ?_|(refine Z8 ?_;intro ya J)|(refine Z4 ?_;clear J ya)|(refine Z2 ?_ ?_<;>intro h ah<;>try exact Xp)|(refine Z6 ?_;intro idn σn aj ak ae aa af ab)|(refine Z5 ?_;refine Xi (ax _) ?_;rintro _ _ ⟨rfl,ai⟩;(have az:=ai.nobj;have ad:=ai.obj;have a6:=a7.trans ai;have bm:=Own.keep (Own.put (Own.new hO _) _ _) ai;simp only[Ac,Aa]at az ad))|refine Z3 ?_|exact Zt|(apply J.out;clear J ya))
    refine⟨q.parts.length-(k+1),Ad2,k+1,idn,xs++[ic w.a.p,sl id w.a.ts.length (Ae w.a.ts),sl idt w.tups.length (C7 w.tups)],?_⟩
    ((repeat' refine Zi ?_ ?_)<;>first|exact Xq|exact (ak.put Ad2 _)|exact (Own.put aj _ _)|exact HX|exact Xs)
   |true=>
    obtain⟨pl,a0,a3⟩:=I7 hv;have cg:Ad8 (Ft q.parts v w=⟨w.a,w.tups.filter fun t=>Dr q.parts v (G9 t pl)⟩):=by rw[Ad8,Ft,if_pos hv,a3]
    rw[a3]at ax;clear a3;have be:pl<3:=Ad2;have bg:((pl:Int)== -1)=false:=by simp
    have b4:=Er a5;have cb:Ad8 _:=hX
    repeat' (first|refine Z1 ?_|(refine Z8 ?_;intro ya J)|(refine Z4 ?_;clear J ya)|(refine Z2 ?_ ?_<;>intro h ah<;>try exact Xp)|(refine Z6 ?_;intro idn σn aj ak ae aa af ab)|(refine Z5 ?_;refine Xi (ax _) ?_;rintro _ _ ⟨rfl,ai⟩;(have az:=ai.nobj;have ad:=ai.obj;have a6:=a7.trans ai;have bm:=Own.keep (Own.put (Own.new hO _) _ _) ai;simp only[Ac,Aa]at az ad))|refine Z3 ?_|exact Zt|(apply J.out;clear J ya))
    rename_i σ3;have p1:σ3.obj (σ.nobj+1)=[ic 0,nilS,nilS,nilS]:=by rw[ad _ Ad2,Al Ad2,Ai Ad2,av]
    have p2:σ3.obj (σ.nobj+2)=Em f:=by rw[ad _ Ad2,Al Ad2,Ai Ad2,au]
    have p3:σ3.obj o12=[ic q.head.p,sl ih q.head.ts.length (Ae q.head.ts),sl i3 k xs,sl inn q.nots.length nc]:=by rw[ad _ Ad2,Al Ad2,Ai Ad2,bc]
    clear ad ai
    refine Ab (fun m s σ4=>∃(j i5:Nat) (o:List Bj) (ys:List AV),m=w.tups.length-j/\j<=w.tups.length/\s 1=ic v/\s 4=ptr (σ.nobj+1) 0/\s 5=ptr (σ.nobj+2) 0/\s 6=ic a/\s 12=ptr o12 0/\s 15=ic pl/\s 16=ptr σ3.nobj 0/\s 63=sl ip q.parts.length pc/\s 64=ic q.parts.length/\s 65=ic k/\s 85=sl idt w.tups.length (C7 w.tups)/\s 86=ic w.tups.length/\s 87=ic j/\Keep σ σ4/\σ3.nobj<σ4.nobj/\σ4.obj (σ.nobj+1)=[ic 0,nilS,nilS,nilS]/\σ4.obj (σ.nobj+2)=Em f/\σ4.obj o12=[ic q.head.p,sl ih q.head.ts.length (Ae q.head.ts),sl i3 k xs,sl inn q.nots.length nc]/\σ4.obj σ3.nobj=[ic w.a.p,sl id w.a.ts.length (Ae w.a.ts),sl i5 o.length ys]/\Own σ σ4 i3 k/\Own σ σ4 i5 o.length/\(i5=1\/i5≠i3)/\o.length<=j/\ys.length=o.length*3/\Ad8 (ys=C7 o/\o=(w.tups.take j).filter fun t=>Dr q.parts v (G9 t pl))) w.tups.length
     ⟨0,1,[],[],Ad2,Ad2,Ad3,Ad3,Ad3,Ad3,Ad3,Ad4,Ad4,Ad3,Ad3,Ad3,Ad4,Ad4,rfl,(a6.new _).put Ad2 _,Ad7,?_,?_,?_,?_,Own.put (Own.new bm _) _ _,Own.nil _ _,.inl rfl,by simp,by simp,⟨rfl,by simp⟩⟩ ?_
    ·rw[Al Ad2,Ai Ad2,p1]
    ·rw[Al Ad2,Ai Ad2,p2]
    ·rw[Al Ad2,Ai Ad2,p3]
    ·rw[Ak];simp
    have cw:o12<σ3.nobj:=Ad2;clear p1 p2 p3 h1 h4 h5 h6 b1 b0 bz bw hK a4 av au bc hO bm a6 a7 hX ao;rintro m s σ4 ⟨j,i5,o,ys,rfl,hj,h1,h4,h5,h6,b1,cv,cu,b0,bz,bw,cq,cp,co,hK,a4,av,au,bc,ch,bv,hO,b6,ck,b3,hX⟩;have b2:=hK.nobj;by_cases ap:j<w.tups.length
    ·have ac:=Aav ap;obtain⟨am,r2,bj⟩:=Fv a5 ac;obtain⟨x,aw,hx⟩:=a8 _ (Ab1 ap) pl a0;generalize w.tups[j]=t at bj ac am aw;have b9:=Ir aw;have HF:Ad8 ((w.tups.take (j+1)).filter (fun t=>Dr q.parts v (G9 t pl))=(w.tups.take j).filter (fun t=>Dr q.parts v (G9 t pl))++if f x=a then [t]else []):=by
      have bd:G9 t pl=(x:Int):=by simp[G9,aw]
      rw[Ad8,Aa8,ac,Ab9,Dn,bd];congr 1;have h1:=hA.out x;by_cases e:f x=a
      ·rw[if_pos e,if_pos (h1.1 e)]
      ·rw[if_neg e,if_neg (fun h=>e (h1.2 h))]
     clear ac aw;have f1:=Dj am;have f2:=Hc am;have f3:=D1 am;have f4:=G3 am;have f5:=Cj t;have f6:=N9 am;have g1:=Ta f hx;have g3:=S9 f;have cm:=ba x;by_cases hm:f x=a
     ·have HX:Ad8 (ys++Aj t=C7 (o++[t])/\o++[t]=(w.tups.take (j+1)).filter fun t=>Dr q.parts v (G9 t pl)):=by
       obtain⟨x1,x2⟩:=hX.out;exact⟨by rw[x1,Ki],by rw[HF.out,if_pos hm,x2]⟩
      have hb:((f x:Int)==(a:Int))=true:=by simp[hm]
      clear hX HF hm
      repeat' (first|refine Z1 ?_|(refine Z8 ?_;intro ya J)|(refine Z4 ?_;clear J ya)|(refine Z2 ?_ ?_<;>intro h ah<;>try exact Xp)|(refine Z6 ?_;intro idn σn aj ak ae aa af ab)|refine Z3 ?_|exact Zt|(apply J.out;clear J ya))
      refine Gw (by first|exact Fc|exact Dx) ((hK.new _).put hK.nobj _) (Own.put (Own.new hO _) _ _) (by decide) (by rfl) b3 (by rw[f1]) f5 (by decide) Ad2 Ad2 ?_;intro idn σn aj ak ae aa af ab bf;obtain⟨bn,b5⟩:=bf i3 k (Own.put (Own.new bv _) _ _) b6;simp only[Ac,Aa]at aa;have eob:∀p,p<σ4.nobj->σn.obj p=σ4.obj p:=fun p hp=>by rw[ae,Al Ad2,Ai Ad2]
      refine Z3 ?_
      repeat' (first|refine Z1 ?_|(refine Z8 ?_;intro ya J)|(refine Z4 ?_;clear J ya)|(refine Z2 ?_ ?_<;>intro h ah<;>try exact Xp)|(refine Z6 ?_;intro idn σn aj ak ae aa af ab)|refine Z3 ?_|exact Zt|(apply J.out;clear J ya))
      refine⟨w.tups.length-(j+1),Ad2,j+1,idn,o++[t],ys++Aj t,?_⟩
      ((repeat' refine Zi ?_ ?_)<;>first|exact Xq|exact (ak.put Ad2 _)|exact (by simpa using Own.put aj _ _)|exact (Own.put bn _ _)|exact HX|exact Xs)
     ·have HX:Ad8 (ys=C7 o/\o=(w.tups.take (j+1)).filter fun t=>Dr q.parts v (G9 t pl)):=by
       obtain⟨x1,x2⟩:=hX.out;exact⟨x1,by rw[HF.out,if_neg hm,x2,Abc]⟩
      have hb:((f x:Int)==(a:Int))=false:=by simp;omega
      clear hX HF hm
      repeat' (first|refine Z1 ?_|(refine Z8 ?_;intro ya J)|(refine Z4 ?_;clear J ya)|(refine Z2 ?_ ?_<;>intro h ah<;>try exact Xp)|(refine Z6 ?_;intro idn σn aj ak ae aa af ab)|refine Z3 ?_|exact Zt|(apply J.out;clear J ya))
      refine⟨w.tups.length-(j+1),Ad2,j+1,i5,o,ys,?_⟩
      ((repeat' refine Zi ?_ ?_)<;>first|exact Xq|exact (Own.put (Own.new hO _) _ _)|exact (Own.put (Own.new bv _) _ _)|exact HX|exact Xs)
    ·have bi:j=w.tups.length:=Ad2;subst bi;obtain⟨x1,x2⟩:=hX.out;rw[Aa3]at x2;have HX:Ad8 (EL La ((q.parts.take (k+1)).map (Ft q.parts v)) (xs++[ic w.a.p,sl id w.a.ts.length (Ae w.a.ts),sl i5 o.length ys])):=by
      rw[Ad8,HM.out];refine EL.append cb.out (EL.single ?_);rw[cg.out,<-x2];exact⟨id,i5,by rw[x1]⟩
     clear hX x1 x2
     repeat' (first|refine Z1 ?_|(refine Z8 ?_;intro ya J)|(refine Z4 ?_;clear J ya)|(refine Z2 ?_ ?_<;>intro h ah<;>try exact Xp)|(refine Z6 ?_;intro idn σn aj ak ae aa af ab)|refine Z3 ?_|exact Zt|(apply J.out;clear J ya))
     refine⟨q.parts.length-(k+1),Ad2,k+1,idn,xs++[ic w.a.p,sl id w.a.ts.length (Ae w.a.ts),sl i5 o.length ys],?_⟩
     ((repeat' refine Zi ?_ ?_)<;>first|exact Xq|exact (ak.put Ad2 _)|exact (Own.put aj _ _)|exact HX|exact Xs)
  ·have b7:k=q.parts.length:=Ad2;subst b7;rw[Aa3]at hX;have cd:(q.parts.map (Ft q.parts v)).length=q.parts.length:=by rw[Ace]
   repeat' (first|refine Z1 ?_|(refine Z8 ?_;intro ya J)|(refine Z4 ?_;clear J ya)|(refine Z2 ?_ ?_<;>intro h ah<;>try exact Xp)|(refine Z6 ?_;intro idn σn aj ak ae aa af ab)|refine Z3 ?_|exact Zt|(apply J.out;clear J ya))
   exact⟨_,rfl,⟨_,rfl,ih,i3,inn,xs,nc,by simp only[E4];rw[cd],hX.out,cc⟩,hK.put Ad2 _⟩
inductive NarS (q:Qry):Qry->Prop where
 |refl:NarS q q
 |tail {q':Qry} (v:Int):NarS q q'->NarS q (E4 q' v)
theorem O9 (l:List Part)(v:Int)(p:Part):(Ft l v p).a=p.a:=by unfold Ft;split<;>rfl
theorem Nx (l:List Part)(v:Int)(p:Part):∀t∈(Ft l v p).tups,t∈p.tups:=by
 unfold Ft;split
 ·intro t ht;exact (Ac7.1 ht).1
 ·exact fun t ht=>ht
theorem dL (l:List Part)(v:Int)(p:Part):(Ft l v p).tups.length<=p.tups.length:=by
 unfold Ft;split
 ·exact Ac6 _ _
 ·exact Aak _
theorem rO {q:Qry}{v:Int}(h:M9 q):M9 (E4 q v):=by
 have hm:∀p∈(E4 q v).parts,∃p0∈q.parts,Ft q.parts v p0=p:=fun p hp=>Acf.1 hp;refine⟨h.hd,by simp[E4];exact h.pl,h.nl,fun p hp=>?_,fun p hp=>?_,fun p hp=>?_,h.na⟩
 ·obtain⟨p0,h0,rfl⟩:=hm p hp;rw[O9];exact h.pa p0 h0
 ·obtain⟨p0,h0,rfl⟩:=hm p hp;exact Aal (dL _ _ _) (h.pt p0 h0)
 ·obtain⟨p0,h0,rfl⟩:=hm p hp;exact fun t ht=>h.p3 p0 h0 t (Nx _ _ _ t ht)
theorem vI {q:Qry}{v:Int}(h:QN q):QN (E4 q v):=fun p hp t ht=>by
 obtain⟨p0,h0,rfl⟩:=Acf.1 hp;rw[O9];exact h p0 h0 t (Nx _ _ _ t ht)
theorem NarS.ok {q q':Qry}(h:NarS q q')(hq:M9 q):M9 q':=by
 induction h with
 |refl=>exact hq
 |tail v _ ih=>exact rO ih
theorem NarS.n {q q':Qry}(h:NarS q q')(hq:QN q):QN q':=by
 induction h with
 |refl=>exact hq
 |tail v _ ih=>exact vI ih
def O5 (q:Qry)(v:Int):Qry:=if 1<Cz (q.parts.map (·.a)) v then E4 q v else q
def fL (q:Qry)(vs:List Int):Qry:=vs.foldl O5 q
theorem cB {q:Qry}(h:M9 q):Cm q.parts<=320000:=by
 have h1:=h.pl;have h2:=h.pt;have:∀l:List Part,(∀p∈l,p.tups.length<=5000)->Cm l<=l.length*5000:=by
  intro l;induction l with
  |nil=>intro _;simp[Cm]
  |cons a l ih=>
   intro h;have h3:=h a (by simp);have h4:=ih (fun p hp=>h p (by simp[hp]));simp only[Cm,Abg,List.sum_cons,Abv]at*
   omega
 have h5:=this q.parts h2;omega
theorem oN (q:Qry)(c:List AV)(hc:EQ q c)(hq:M9 q)(hN:QN q)(σ:St):ACalls Tryz.prog 213 [ag c] σ fun r σ'=>(∃c' q' qp,r=ag c'/\EQ q' c'/\NarS q qp/\NarS q q'/\q'=fL qp (Cg (atomsQ qp))/\Cm qp.parts<=Cm q'.parts)/\Keep σ σ':=by
 have hS:=fun σ=>Tl q c hc hq σ;have bd:=cB hq;have HC:Ad8 (EQ q c):=hc;obtain⟨ih0,ip0,in0,pc0,nc0,rfl,-,-⟩:=hc;refine Z9 32 [.cell 2 182] Tryz.func213 ?_
 repeat' (first|refine Z1 ?_|(refine Z8 ?_;intro ya J)|(refine Z4 ?_;clear J ya)|(refine Z2 ?_ ?_<;>intro h ae<;>try exact Xp)|(refine Z5 ?_;refine Xi (hS _) ?_;rintro _ _ ⟨rfl,ad⟩;(have ac:=ad.nobj;have aa:=ad.obj;have ab:=(((Keep.refl σ).new _).new _).trans ad;simp only[Aa]at ac aa))|refine Z3 ?_|exact Zt|(apply J.out;clear J ya))
 rename_i σ1;have o0:σ1.obj σ.nobj=[ic q.head.p,sl ih0 q.head.ts.length (Ae q.head.ts),sl ip0 q.parts.length pc0,sl in0 q.nots.length nc0]:=by rw[aa _ Ad2,Ai Ad6,Am]
 have o1:σ1.obj (σ.nobj+1)=[ic 0,nilS,nilS,nilS]:=by rw[aa _ Ad2,Cd Ad6 Ad6]
 clear aa ad
 refine Ab (fun m s σ'=>∃(qk:Qry) (ck:List AV),s 1=ptr σ.nobj 0/\s 2=ptr (σ.nobj+1) 0/\s 3=ic m/\m<=320001/\Keep σ σ'/\σ.nobj+1<σ'.nobj/\σ'.obj σ.nobj=ck/\σ'.obj (σ.nobj+1)=[ic 0,nilS,nilS,nilS]/\Ad8 (EQ qk ck/\NarS q qk/\(Cm qk.parts<m\/∃qp,NarS q qp/\qk=fL qp (Cg (atomsQ qp))/\Cm qp.parts=m))) (Cm q.parts+1)
  ⟨q,_,Ad4,Ad4,Ad4,Ad2,ab,Ad2,o0,o1,HC.out,.refl,.inl Ad2⟩ ?_
 clear o0 o1 ab ac hS bd HC;rintro m s σ' ⟨qk,ck,h1,h2,h3,hm,hK,be,ax,aw,hQ⟩;have bv:=hK.nobj;have ah:=hQ.out.2.1.ok hq;have bf:=hQ.out.2.1.n hN;have hS:=fun σ=>Tl qk ck hQ.out.1 ah σ;have bg:=fun σ=>Ii qk ck hQ.out.1 ah σ;have bd:=cB ah;obtain⟨ihk,ipk,ink,pck,nck,rfl,-,-⟩:=hQ.out.1;have bb:=K7 ah;have bz:=H1 ah;have a7:=fun (cs:List AV) (i:Nat) (hE:EL Ot (atomsQ qk) cs) (σ:St)=>Hv (atomsQ qk) cs i hE bb Ad2 σ;have bk:=F3 bb;have b3:Ad8 (M9 qk/\QN qk):=⟨ah,bf⟩;by_cases bm:Cm qk.parts<m
 ·generalize bc:Cg (atomsQ qk)=vs at a7 bk;have br:Ad8 _:=bc;clear bc bb bf ah;generalize a4:Cm qk.parts=sz at*
  have bu:Ad8 _:=a4;clear a4
  repeat' (first|refine Z1 ?_|(refine Z8 ?_;intro ya J)|(refine Z4 ?_;clear J ya)|(refine Z2 ?_ ?_<;>intro h ae<;>try exact Xp)|(refine Z5 ?_;first|(refine Xi (hS _) ?_;rintro _ _ ⟨rfl,ad⟩;(have ac:=ad.nobj;have aa:=ad.obj;have ab:=hK.trans ad;clear hK ad;have hK:=ab;clear ab))|(refine Xi (bg _) ?_;rintro _ _ ⟨ida,cs,rfl,hE,av⟩;(have a3:=av.nobj;have an:=av.obj;have ab:=hK.trans av;clear av hK;have hK:=ab;clear ab;have ao:=a7 cs ida hE))|(refine Xi (ao _) ?_;rintro _ _ ⟨⟨idv,rfl⟩,au⟩;(have a0:=au.nobj;have am:=au.obj;have ab:=hK.trans au;clear au hK;have hK:=ab;clear ab)))|refine Z3 ?_|exact Zt|(apply J.out;clear J ya))
  rename_i σa kno2a kob2a σb σc σd;have bw:=Bm vs;have ech:∀p,p<σ'.nobj->σd.obj p=σ'.obj p:=fun p hp=>by rw[am _ Ad2,an _ Ad2,aa _ Ad2,kob2a _ Ad2]
  refine Ab (fun m' s σ2=>∃(j:Nat) (qj:Qry) (cj:List AV),m'=vs.length-j/\j<=vs.length/\s 1=ptr σ.nobj 0/\s 2=ptr (σ.nobj+1) 0/\s 3=ic sz/\s 17=sl idv vs.length (Aj vs)/\s 18=ic vs.length/\s 19=ic j/\Keep σ σ2/\σ.nobj+1<σ2.nobj/\σ2.obj σ.nobj=cj/\σ2.obj (σ.nobj+1)=[ic 0,nilS,nilS,nilS]/\Ad8 (EQ qj cj/\NarS q qj/\qj=fL qk (vs.take j))) vs.length
   ⟨0,qk,_,Ad2,Ad2,Ad3,Ad3,Ad3,Ad4,Ad4,rfl,hK,Ad2,rfl,by rw[ech _ Ad2,aw],by rw[ech _ Ad2,ax];exact hQ.out.1,hQ.out.2.1,by simp[fL]⟩ ?_
  clear ech am an aa kob2a hK ax aw h1 h2 h3 be hS bg a7 ao hE a0 a3 ac kno2a;rintro m' s σ2 ⟨j,qj,cj,rfl,hj,h1,h2,h3,b2,b1,b0,hK,be,ax,aw,hJ⟩;have ac:=hK.nobj;have a5:=hJ.out.2.1.ok hq;have bl:=hJ.out.2.1.n hN;have ak:=fun v σ=>Ka qj cj v hJ.out.1 a5 σ;have a8:=fun v σ=>eK qj cj v hJ.out.1 a5 bl σ;have ap:∀v,Cz (qj.parts.map (·.a)) v<=64:=fun v=>by
   have h1:=lX (qj.parts.map (·.a)) v;have h2:=a5.pl;simp at h1;omega
  have bh:Ad8 (EQ qj cj):=hJ.out.1;obtain⟨ihj,ipj,inj,pcj,ncj,rfl,-,-⟩:=hJ.out.1;by_cases a6:j<vs.length
  ·have af:=Aav a6;obtain⟨r,hd⟩:=Db af;generalize vs[j]=v at hd af;have HR:Ad8 (fL qk (vs.take (j+1))=O5 qj v):=by
    rw[Ad8,Aa8,af,Ab9,fL,Ac1,hJ.out.2.2];rfl
   clear af;have ak:=ak v;have a8:=a8 v;have ap:=ap v;by_cases aj:1<Cz (qj.parts.map (·.a)) v
   ·have HR:Ad8 (fL qk (vs.take (j+1))=E4 qj v):=by rw[Ad8,HR.out,O5,if_pos aj]
    generalize Cz (qj.parts.map (·.a)) v=cn at ak aj ap;have hb:decide ((cn:Int)>1)=true:=by simp;omega
    clear aj
    repeat' (first|refine Z1 ?_|(refine Z8 ?_;intro ya J)|(refine Z4 ?_;clear J ya)|(refine Z2 ?_ ?_<;>intro h ae<;>try exact Xp)|(refine Z5 ?_;first|(refine Xi (ak _) ?_;rintro _ _ ⟨rfl,ai⟩;(have az:=ai.nobj;have ay:=ai.obj;have ab:=hK.trans ai))|(refine Xi (a8 _) ?_;rintro _ _ ⟨⟨_,rfl,ih6,ip6,in6,pc6,nc6,rfl,bo,bp⟩,a9⟩;(have bj:=a9.nobj;have bi:=a9.obj;have bq:=ab.trans a9)))|refine Z3 ?_|exact Zt|(apply J.out;clear J ya))
    refine⟨vs.length-(j+1),Ad2,j+1,E4 qj v,[ic (E4 qj v).head.p,sl ih6 (E4 qj v).head.ts.length (Ae (E4 qj v).head.ts),sl ip6 (E4 qj v).parts.length pc6,sl in6 (E4 qj v).nots.length nc6],?_⟩
    ((repeat' refine Zi ?_ ?_)<;>first|exact Xq|exact (bq.put Ad2 _)|exact (⟨⟨ih6,ip6,in6,pc6,nc6,rfl,bo,bp⟩,.tail v hJ.out.2.1,HR.out.symm⟩)|exact Xs)
   ·have HR:Ad8 (fL qk (vs.take (j+1))=qj):=by rw[Ad8,HR.out,O5,if_neg aj]
    generalize Cz (qj.parts.map (·.a)) v=cn at ak aj ap;have hb:decide ((cn:Int)>1)=false:=by simp;omega
    clear aj
    repeat' (first|refine Z1 ?_|(refine Z8 ?_;intro ya J)|(refine Z4 ?_;clear J ya)|(refine Z2 ?_ ?_<;>intro h ae<;>try exact Xp)|(refine Z5 ?_;refine Xi (ak _) ?_;rintro _ _ ⟨rfl,ai⟩;(have az:=ai.nobj;have ay:=ai.obj;have ab:=hK.trans ai))|refine Z3 ?_|exact Zt|(apply J.out;clear J ya))
    refine⟨vs.length-(j+1),Ad2,j+1,qj,[ic qj.head.p,sl ihj qj.head.ts.length (Ae qj.head.ts),sl ipj qj.parts.length pcj,sl inj qj.nots.length ncj],?_⟩
    ((repeat' refine Zi ?_ ?_)<;>first|exact Xq|exact (⟨bh.out,hJ.out.2.1,HR.out.symm⟩)|exact Xs)
  ·have bn:j=vs.length:=Ad2;subst bn;have ba:=hJ.out.2.2;rw[Aa3]at ba
   have HF:Ad8 (EQ qj [ic qj.head.p,sl ihj qj.head.ts.length (Ae qj.head.ts),sl ipj qj.parts.length pcj,sl inj qj.nots.length ncj]/\NarS q qj/\(Cm qj.parts<sz\/∃qp,NarS q qp/\qj=fL qp (Cg (atomsQ qp))/\Cm qp.parts=sz)):=
    ⟨bh.out,hJ.out.2.1,.inr ⟨qk,hQ.out.2.1,by rw[br.out];exact ba,bu.out⟩⟩
   clear ba
   repeat' (first|refine Z1 ?_|(refine Z8 ?_;intro ya J)|(refine Z4 ?_;clear J ya)|(refine Z2 ?_ ?_<;>intro h ae<;>try exact Xp)|refine Z3 ?_|exact Zt|(apply J.out;clear J ya))
   refine⟨sz,Ad2,qj,[ic qj.head.p,sl ihj qj.head.ts.length (Ae qj.head.ts),sl ipj qj.parts.length pcj,sl inj qj.nots.length ncj],?_⟩
   ((repeat' refine Zi ?_ ?_)<;>first|exact Xq|exact HF|exact Xs)
 ·have hR:∃qp,NarS q qp/\qk=fL qp (Cg (atomsQ qp))/\Cm qp.parts<=Cm qk.parts:=by
   rcases hQ.out.2.2 with h|⟨qp,h1,h2,h3⟩
   ·exact absurd h bm
   ·exact⟨qp,h1,h2,Ad2⟩
  have HR:Ad8 _:=hR;clear hR;generalize a4:Cm qk.parts=sz at*
  repeat' (first|refine Z1 ?_|(refine Z8 ?_;intro ya J)|(refine Z4 ?_;clear J ya)|(refine Z2 ?_ ?_<;>intro h ae<;>try exact Xp)|(refine Z5 ?_;refine Xi (hS _) ?_;rintro _ _ ⟨rfl,ad⟩;(have ac:=ad.nobj;have aa:=ad.obj;have ab:=hK.trans ad))|refine Z3 ?_|exact Zt|(apply J.out;clear J ya))
  obtain⟨qp,r1,r2,r3⟩:=HR.out;exact⟨_,rfl,⟨_,qk,qp,rfl,hQ.out.1,r1,hQ.out.2.1,r2,Ad2⟩,ab.put Ad2 _⟩
end Go.Proofs.YtmoeoppbmhfbpaaGreatDoorH
