import Derived.Test.YtmoeoppbmhfbpaaGreatDoorDEngD
set_option maxHeartbeats 32000000
set_option maxRecDepth 100000
set_option linter.all false
namespace Go.Proofs.YtmoeoppbmhfbpaaGreatDoorD
open Go.Abs
def Num (ar:Nat)(t:Cc):Prop:=∀i,i<ar->∃k:Nat,t[i]?=some (k:Int)/\k<1026
def QN (q:Qry):Prop:=∀p∈q.parts,∀t∈p.tups,Num p.a.ts.length t
def Gd (f:Nat->Bool):List AV:=(List.range 1026).map fun i=>sc (.bool (f i))
theorem jG:My 1026 (.bool false)=Gd fun _=>false:=by
 unfold My Gd;rw[List.map_const'];simp[cst1]
theorem mU (f:Nat->Bool):(Gd f).length=1026:=by simp[Gd]
theorem mV (f:Nat->Bool){k:Nat}(h:k<1026):(Gd f)[k]?=some (sc (.bool (f k))):=by simp[Gd,h]
theorem mT (f:Nat->Bool){k:Nat}(h:k<1026)(b:Bool):(Gd f).set k (sc (.bool b))=Gd fun j=>if j=k then b else f j:=by
 apply Ad5;intro n;rw[Adv];by_cases hn:n<1026
 ·by_cases he:k=n
  ·subst he;simp[Gd,hn]
  ·have:n≠k:=fun e=>he e.symm;simp[Gd,hn,he,this]
 ·have:k≠n:=Agm;simp[Gd,hn,this]
def qO (pl:Int)(acc:List Int)(t:Cc):List Int:=if Hk t pl∈acc then acc else acc++[Hk t pl]
def Wi (tups:List Cc)(pl:Int):List Int:=tups.foldl (qO pl) []
def K0 (q:Qry)(v:Int):List Int:=match q.parts.find? (fun p=>A9 p.a.ts v)with
 |some p=>Wi p.tups (Ig p.a.ts v)
 |none=>[]
theorem sG {α:Type}{f:α->Bool}{l:List α}{i:Nat}{x:α}(hn:∀y∈l.take i,f y=false)(hi:l[i]?=some x)(hx:f x=true):l.find? f=some x:=by
 have aa:=(Adm.1 hi);obtain⟨h1,h2⟩:=aa
 conv=>lhs;rw[<-Afq i l]
 rw[List.find?_append,Aex.2 (fun y hy=>by rw[hn y hy];simp),Aeo h1,h2];simp[hx]
theorem Km (q:Qry)(c:List AV)(v:Int)(hc:EQ q c)(hq:Om q)(hN:QN q)(σ:St):ACalls Tryz.prog 172 [ag c,ic v] σ fun r σ'=>(∃id,r=sl id (K0 q v).length (Ar (K0 q v)))/\Keep σ σ':=by
 obtain⟨ih,ip,inn,pc,nc,rfl,hP,-⟩:=hc;have hpl:=EL.length Ef hP;have hl:=hq.pl;have hz:=jG;refine Z9 53 [.tmp 4] Tryz.func172 ?_
 refine zz ?_
 refine Ad (fun m s σ'=>∃i:Nat,m=q.parts.length-i/\i<=q.parts.length/\s 1=ic v/\s 5=nilS/\s 6=ptr (σ.nobj+1) 0/\s 14=sl ip q.parts.length pc/\s 15=ic q.parts.length/\s 16=ic i/\Keep σ σ'/\σ.nobj+1<σ'.nobj/\σ'.obj (σ.nobj+1)=Gd (fun _=>false)/\Agt (∀p∈q.parts.take i,A9 p.a.ts v=false)) q.parts.length
  ⟨0,Agm,Agm,by simp[upd,initS],Ago,Ago,Ago,Ago,rfl,Xs,Agq,?_,by simp[Agt]⟩ ?_
 ·rw[Ca Agq Agq]
 rintro m s σ' ⟨i,rfl,hi,h1,h5,h6,bm,bi,bh,hK,a5,ao,hA⟩;have a4:=hK.nobj;by_cases aj:i<q.parts.length
 ·have aa:=Adn aj;obtain⟨id,idt,r,hd⟩:=E6 hP aa;have bf:=hq.pa _ (Aes aj);have be:=hq.pt _ (Aes aj);have ax:=hq.p3 _ (Aes aj);have a6:=hN _ (Aes aj);generalize q.parts[i]=w at hd aa bf be ax a6;have bb:w.a.ts.length<=1000:=Agm;have an:=fun σ=>Fz w.a.p id w.a.ts v bb σ;have az:Keep σ ((σ'.new [ic 0,nilS,nilS]).put σ'.nobj [ic w.a.p,sl id w.a.ts.length (Af w.a.ts),sl idt w.tups.length (Er w.tups)]):=(hK.new _).put hK.nobj _;cases hv:A9 w.a.ts v with
  |false=>
   have hp:Ig w.a.ts v= -1:=Jp (by simpa[A9]using hv);have HS:Agt (∀p∈q.parts.take (i+1),A9 p.a.ts v=false):=by
    rw[Agt,Ad0,aa,Aez];intro p hp;rcases Aet.1 hp with hp|hp
    ·exact hA.out p hp
    ·simp at hp;subst hp;exact hv
   rw[hp]at an;clear hp aa hA
   repeat' first|refine Z1 ?_|refine Z8 fun ya J=>?_|refine Z4 ?_;clear J ya|refine Z2 ?_ ?_<;>intro h ab<;>try exact Xp|refine Z5 ?_;refine Xi (an _) ?_;rintro _ _ ⟨rfl,ad⟩;(have af:=ad.nobj;have ac:=ad.obj;have ay:=az.trans ad;simp only[Ac,Aa]at af ac)|refine Z3 ?_|exact Zt|apply J.out;clear J ya
   refine⟨q.parts.length-(i+1),Agm,i+1,?_⟩
   ((repeat' refine Zi ?_ ?_)<;>first|exact Xq|exact HS|exact Xs)
  |true=>
   obtain⟨pl,ap,au⟩:=Jq hv;have HR:Agt (K0 q v=Wi w.tups pl):=by rw[Agt,K0,sG hA.out aa hv];simp only[au]
   rw[au]at an;clear au aa hA;have a9:pl<3:=Agm;have ba:((pl:Int)== -1)=false:=by simp
   have bo:=Ir ax
   repeat' first|refine Z1 ?_|refine Z8 fun ya J=>?_|refine Z4 ?_;clear J ya|refine Z2 ?_ ?_<;>intro h ab<;>try exact Xp|refine Z5 ?_;refine Xi (an _) ?_;rintro _ _ ⟨rfl,ad⟩;(have af:=ad.nobj;have ac:=ad.obj;have ay:=az.trans ad;simp only[Ac,Aa]at af ac)|refine Z3 ?_|exact Zt|apply J.out;clear J ya
   rename_i σ1;have o1:σ1.obj (σ.nobj+1)=Gd (fun _=>false):=by rw[ac _ Agm,Ak Agm,Ah Agm,ao]
   clear ac ad
   refine Ad (fun m s σ''=>∃(j i3:Nat) (vs:List Int) (f:Nat->Bool),m=w.tups.length-j/\j<=w.tups.length/\s 5=sl i3 vs.length (Ar vs)/\s 6=ptr (σ.nobj+1) 0/\s 9=ic pl/\s 27=sl idt w.tups.length (Er w.tups)/\s 28=ic w.tups.length/\s 29=ic j/\Keep σ σ''/\σ.nobj+1<σ''.nobj/\σ''.obj (σ.nobj+1)=Gd f/\Own σ σ'' i3 vs.length/\vs.length<=j/\Agt (vs=Wi (w.tups.take j) pl/\∀k:Nat,f k=true↔(k:Int)∈vs)) w.tups.length
    ⟨0,1,[],fun _=>false,Agm,Agm,by simp[upd, *,Ar],Agn,Ago,Ago,Ago,rfl,ay,Agm,o1,Own.nil _ _,by simp,by simp[Wi],by simp⟩ ?_
   clear o1 h1 h5 h6 bm bi bh hK a5 ao a4 ay az;rintro m s σ'' ⟨j,i3,vs,f,rfl,hj,h5,h6,h9,bu,br,bq,hK,a5,ao,hO,bn,hX⟩;have a4:=hK.nobj;have av:=Bs vs;by_cases ai:j<w.tups.length
   ·have aa:=Adn ai;obtain⟨ah,r2,bd⟩:=Jj ax aa;obtain⟨x,am,hx⟩:=a6 _ (Aes ai) pl ap;generalize w.tups[j]=t at bd aa ah am;have bp:=Ob am;have HS:Agt (Wi (w.tups.take (j+1)) pl=if (x:Int)∈vs then vs else vs++[(x:Int)]):=by
     have a8:Hk t pl=(x:Int):=by simp[Hk,am]
     rw[Agt,Ad0,aa,Aez,Wi,List.foldl_append,hX.out.1];simp only[Adt,List.foldl_nil,qO,a8];rfl
    clear aa am;have f1:=Hf ah;have f2:=Mk ah;have f3:=Ia ah;have f4:=Oa ah;have f5:=Ev t;have f6:=Zv ah;have g1:=mV f hx;have g2:=mT f hx true;have g3:=mU f;by_cases hm:(x:Int)∈vs
    ·have aw:f x=true:=(hX.out.2 x).2 hm;have HX:Agt (vs=Wi (w.tups.take (j+1)) pl/\∀k:Nat,f k=true↔(k:Int)∈vs):=⟨by rw[HS.out,if_pos hm],hX.out.2⟩;rw[aw]at g1;clear hX HS hm g2
     repeat' first|refine Z1 ?_|refine Z8 fun ya J=>?_|refine Z4 ?_;clear J ya|refine Z2 ?_ ?_<;>intro h ab<;>try exact Xp|refine Z3 ?_|exact Zt|apply J.out;clear J ya
     refine⟨w.tups.length-(j+1),Agm,j+1,i3,vs,f,?_⟩
     ((repeat' refine Zi ?_ ?_)<;>first|exact Xq|exact (Own.put (Own.new hO _) _ _)|exact HX|exact Xs)
    ·have aw:f x=false:=by
      cases h:f x with
      |false=>rfl
      |true=>exact absurd ((hX.out.2 x).1 h) hm
     have HX:Agt (vs++[(x:Int)]=Wi (w.tups.take (j+1)) pl/\∀k:Nat,(if k=x then true else f k)=true↔(k:Int)∈vs++[(x:Int)]):=by
      refine⟨by rw[HS.out,if_neg hm],fun k=>?_⟩;have h2:=hX.out.2 k;by_cases e:k=x
      ·subst e;simp
      ·rw[if_neg e,h2];have:¬(k:Int)=(x:Int):=Agm;simp[this]
     rw[aw]at g1;clear hX HS hm
     repeat' first|refine Z1 ?_|refine Z8 fun ya J=>?_|refine Z4 ?_;clear J ya|refine Z2 ?_ ?_<;>intro h ab<;>try exact Xp|refine Z3 ?_|exact Zt|apply J.out;clear J ya
     refine Bz (by first|exact Qa) (((hK.new _).put hK.nobj _).put Agm _) (Own.put (Own.put (Own.new hO _) _ _) _ _) (by decide) (by rfl) (by rw[av,Nat.mul_one]) (by rfl) (by rfl) (by decide) Agm Agm ?_;intro idn σn a7 bg a3 ae a0 ak;simp only[Ac,Aa]at ae;refine Z3 ?_
     repeat' first|refine Z1 ?_|refine Z8 fun ya J=>?_|refine Z4 ?_;clear J ya|refine Z2 ?_ ?_<;>intro h ab<;>try exact Xp|refine Z3 ?_|exact Zt|apply J.out;clear J ya
     refine⟨w.tups.length-(j+1),Agm,j+1,idn,vs++[(x:Int)],fun k=>if k=x then true else f k,?_⟩
     ((repeat' refine Zi ?_ ?_)<;>first|exact Xq|exact (by simpa using a7)|exact HX|exact (by simp[Ar])|exact Xs)
   ·have bc:j=w.tups.length:=Agm;subst bc;obtain⟨x1,-⟩:=hX.out;rw[Adu]at x1;rw[<-x1]at HR;have HR:=HR.out
    repeat' first|refine Z1 ?_|refine Z8 fun ya J=>?_|refine Z4 ?_;clear J ya|refine Z2 ?_ ?_<;>intro h ab<;>try exact Xp|refine Z3 ?_|exact Zt|apply J.out;clear J ya
    first|exact⟨_,rfl,⟨i3,rfl⟩,hK⟩|exact⟨_,rfl,⟨i3,by rw[HR]⟩,hK⟩|exact⟨_,rfl,⟨i3,rfl⟩⟩|exact⟨_,rfl,i3,rfl⟩
 ·have av:i=q.parts.length:=Agm;subst av;rw[Adu]at hA;have HR:K0 q v=[]:=by
   unfold K0;rw[Aex.2 (fun p hp=>by rw[hA.out p hp];simp)]
  repeat' first|refine Z1 ?_|refine Z8 fun ya J=>?_|refine Z4 ?_;clear J ya|refine Z2 ?_ ?_<;>intro h ab<;>try exact Xp|refine Z6 ?_;intro idn σn a7 bg a3 ae a0 ak|refine Z3 ?_|exact Zt|apply J.out;clear J ya
  first|exact⟨_,rfl,⟨1,rfl⟩,hK⟩|exact⟨_,rfl,⟨1,by rw[HR];rfl⟩,hK⟩|exact⟨_,rfl,1,rfl⟩|exact⟨_,rfl,1,by rw[HR];rfl⟩
theorem G9 {P:Program}{t:TypeId}{z b:Nat}{zc:List Value}{σ0 σ:St}{id id2 n m m':Nat}{xs ys:List AV}{K:AV->St->Prop}(ht:Np P t=some (z,b,zc))(hK:Keep σ0 σ)(hO:Own σ0 σ id n)
  (hz:0<z) (hzc:zc.length=z) (hx:xs.length=n*z) (hy:ys.length=m*z) (hf:ys.all flat=true) (hm:0<m) (hb:(n+m)*b<=140737488355328) (hl:n+m<=1099511627776)
  (h:∀id' σ',Own σ0 σ' id' (n+m)->Keep σ0 σ'->σ'.obj=σ.obj->σ'.nobj=σ.nobj->σ'.ver=σ.ver->σ.ntop<σ'.ntop->(∀i k,Own σ0 σ i k->(id=1\/id≠i)->Own σ0 σ' i k/\(id'=1\/id'≠i))->K (sl id' (n+m) (xs++ys)) σ'):Im P t t (sl id n xs) (sl id2 m ys) (σ.lay m') K:=by
 unfold Im cS;left;simp only[ht];rw[if_pos ⟨trivial,hz,hzc,hx,hy,hf,hm,hb,hl⟩];rcases hO with⟨rfl,rfl⟩|⟨k,rfl,h2,h3,h4,h5⟩
 ·have ab:xs=[]:=Ads (by simpa using hx);subst ab
  have:=h ((σ.lay m').ntop+2) ((σ.lay m').lay m) (by rw[Aea];exact Own.made (hK.lay m') hm) ((hK.lay m').lay m) rfl rfl rfl (by simp[St.lay];omega) (fun i k ho _=>by
   refine⟨ho.keep (((Keep.refl _).lay _).lay _),?_⟩;right;rcases ho with⟨rfl,-⟩|⟨j,rfl,-,hj,-⟩
   ·simp[St.lay]
   ·simp[St.lay];omega)
  simpa using this
 ·have e1:(σ.lay m').top k=n:=by simp[St.lay];rw[if_neg Agm];exact h4
  simp only;rw[if_pos ⟨e1,h5⟩]
  exact h (k+2) _ (.inr ⟨k,rfl,h2,by simp[St.raise,St.lay];omega,by simp[St.raise],Agm⟩) ((hK.lay m').raise h2 _) rfl rfl rfl (by simp[St.raise,St.lay]) (fun i j ho aa=>by
   have aa:k+2≠i:=by rcases aa with h|h<;>omega
   refine⟨?_,.inr aa⟩;rcases ho with ho|⟨j',rfl,g1,g2,g3,g4⟩
   ·exact .inl ho
   ·exact .inr ⟨j',rfl,g1,by simp[St.raise,St.lay];omega,by simp[St.raise,St.lay];rw[if_neg Agm,if_neg Agm];exact g3,g4⟩)
def Eu (f:Nat->Nat):List AV:=(List.range 1026).map fun i=>ic (f i:Nat)
theorem iD:My 1026 (.int .i64 0)=Eu fun _=>0:=by
 unfold My Eu;rw[List.map_const'];simp[cst1]
theorem Uw (f:Nat->Nat):(Eu f).length=1026:=by simp[Eu]
theorem Ux (f:Nat->Nat){k:Nat}(h:k<1026):(Eu f)[k]?=some (ic (f k:Nat)):=by simp[Eu,h]
theorem lT (f:Nat->Nat){k:Nat}(h:k<1026)(b:Nat):(Eu f).set k (ic (b:Nat))=Eu fun j=>if j=k then b else f j:=by
 apply Ad5;intro n;rw[Adv];by_cases hn:n<1026
 ·by_cases he:k=n
  ·subst he;simp[Eu,hn]
  ·have:n≠k:=fun e=>he e.symm;simp[Eu,hn,he,this]
 ·have:k≠n:=Agm;simp[Eu,hn,this]
def occ (v:Int)(n:Int)(p:Part):Bool:=p.tups.any fun t=>Hk t (Ig p.a.ts v)==n
def Dt (l:List Part)(v n:Int):Bool:=l.all fun p=>!A9 p.a.ts v||occ v n p
def F2 (l:List Part)(v:Int)(p:Part):Part:=if A9 p.a.ts v=true then⟨p.a,p.tups.filter fun t=>Dt l v (Hk t (Ig p.a.ts v))⟩else p
def Fh (q:Qry)(v:Int):Qry:={q with parts:=q.parts.map (F2 q.parts v)}
def gF (f:Nat->Nat)(a:Nat)(pl:Int)(l:List Cc)(k:Nat):Nat:=if f k=a/\l.any (fun t=>Hk t pl==(k:Int))=true then a+1 else f k
theorem Aad {f:Nat->Nat}{a:Nat}{pl:Int}{l:List Cc}{t:Cc}{x:Nat}(ht:Hk t pl=(x:Int)):gF f a pl (l++[t])=fun k=>if k=x/\gF f a pl l x=a then a+1 else gF f a pl l k:=by
 funext k;have aa:(l++[t]).any (fun t=>Hk t pl==(k:Int))=(l.any (fun t=>Hk t pl==(k:Int))||decide (k=x)):=by
  rw[Afv];simp only[List.any_cons,List.any_nil,Bool.or_false,ht];congr 1;by_cases e:k=x
  ·subst e;simp
  ·have:¬(x:Int)=(k:Int):=Agm;simp[e,this]
 unfold gF;rw[aa];by_cases e:k=x
 ·subst e;by_cases h1:f k=a
  ·cases h2:l.any (fun t=>Hk t pl==(k:Int))<;>simp[h1]
  ·simp[h1]
 ·simp[e]
theorem Abx (f:Nat->Nat)(a:Nat)(pl:Int):gF f a pl []=f:=by funext k;simp[gF]
theorem jA (q:Qry)(c:List AV)(v:Int)(hc:EQ q c)(hq:Om q)(hN:QN q)(σ:St):ACalls Tryz.prog 250 [ag c,ic v] σ fun r σ'=>(∃c',r=ag c'/\EQ (Fh q v) c')/\Keep σ σ':=by
 obtain⟨ih,ip,inn,pc,nc,rfl,hP,cf⟩:=hc;have hpl:=EL.length Ef hP;have hl:=hq.pl;have hz:=iD;refine Z9 113 [.cell 4 182] Tryz.func250 ?_
 refine zz ?_
 refine Ad (fun m s σ'=>∃(i a:Nat) (f:Nat->Nat),m=q.parts.length-i/\i<=q.parts.length/\s 1=ic v/\s 2=ptr σ.nobj 0/\s 4=ptr (σ.nobj+1) 0/\s 5=ptr (σ.nobj+2) 0/\s 6=ic a/\s 20=sl ip q.parts.length pc/\s 21=ic q.parts.length/\s 22=ic i/\Keep σ σ'/\σ.nobj+2<σ'.nobj/\σ'.obj σ.nobj=[ic q.head.p,sl ih q.head.ts.length (Af q.head.ts),sl ip q.parts.length pc,sl inn q.nots.length nc]/\σ'.obj (σ.nobj+1)=[ic 0,nilS,nilS,nilS]/\σ'.obj (σ.nobj+2)=Eu f/\a<=i/\(∀k,f k<=a)/\Agt (∀k,f k=a↔Dt (q.parts.take i) v (k:Int)=true)) q.parts.length
  ⟨0,0,fun _=>0,Agm,Agm,by simp[upd,initS],Ago,Ago,Ago,Ago,Ago,Ago,rfl,Xs,Agq,?_,?_,?_,Agm,by simp,by simp[Agt,Dt]⟩ ?_
 ·rw[Ah Agq,Ah Agq,Al]
 ·rw[Ah Agq,Ca Agq Agq]
 ·rw[Ca Agq Agq]
 rintro m s σ' ⟨i,a,f,rfl,hi,h1,h2,h4,h5,h6,bw,bv,bu,hK,ay,a9,am,ak,cp,ba,hA⟩;have bz:=hK.nobj;by_cases af:i<q.parts.length
 ·have aa:=Adn af;obtain⟨id,idt,r,hd⟩:=E6 hP aa;have bo:=hq.pa _ (Aes af);have bn:=hq.pt _ (Aes af);have az:=hq.p3 _ (Aes af);have a5:=hN _ (Aes af);generalize q.parts[i]=w at hd aa bo bn az a5;have bh:w.a.ts.length<=1000:=Agm;have ao:=fun σ=>Fz w.a.p id w.a.ts v bh σ;have a3:Keep σ ((σ'.new [ic 0,nilS,nilS]).put σ'.nobj [ic w.a.p,sl id w.a.ts.length (Af w.a.ts),sl idt w.tups.length (Er w.tups)]):=(hK.new _).put hK.nobj _;have bb:Agt (∀n,Dt (q.parts.take (i+1)) v n=(Dt (q.parts.take i) v n&&(!A9 w.a.ts v||occ v n w))):=by
   intro n;rw[Ad0,aa,Aez,Dt,List.all_append];simp[Dt]
  clear aa;cases hv:A9 w.a.ts v with
  |false=>
   have hp:Ig w.a.ts v= -1:=Jp (by simpa[A9]using hv);have HS:Agt (∀k,f k=a↔Dt (q.parts.take (i+1)) v (k:Int)=true):=by
    intro k;rw[bb.out,hv,hA.out k];simp
   rw[hp]at ao;clear hp hA bb
   repeat' first|refine Z1 ?_|refine Z8 fun ya J=>?_|refine Z4 ?_;clear J ya|refine Z2 ?_ ?_<;>intro h ac<;>try exact Xp|refine Z5 ?_;refine Xi (ao _) ?_;rintro _ _ ⟨rfl,ad⟩;(have ah:=ad.nobj;have ab:=ad.obj;have a0:=a3.trans ad;simp only[Ac,Aa]at ah ab)|refine Z3 ?_|exact Zt|apply J.out;clear J ya
   refine⟨q.parts.length-(i+1),Agm,i+1,a,f,?_⟩
   ((repeat' refine Zi ?_ ?_)<;>first|exact Xq|exact HS|exact Xs)
  |true=>
   obtain⟨pl,aw,ax⟩:=Jq hv;have HS:Agt (∀k,gF f a pl w.tups k=a+1↔Dt (q.parts.take (i+1)) v (k:Int)=true):=by
    intro k;have h1:=hA.out k;have h2:=ba k;rw[bb.out,hv,Adr,<-h1];simp only[Aej,Aek,occ,ax];unfold gF;by_cases hc:f k=a/\w.tups.any (fun t=>Hk t pl==(k:Int))=true
    ·rw[if_pos hc];exact⟨fun _=>hc,fun _=>rfl⟩
    ·rw[if_neg hc];exact⟨fun h=>Agm,fun h=>absurd h hc⟩
   have ci:Agt (∀k,gF f a pl w.tups k<=a+1):=by
    intro k;have h2:=ba k;unfold gF;split<;>omega
   rw[ax]at ao;clear ax hA bb;have be:pl<3:=Agm;have bg:((pl:Int)== -1)=false:=by simp
   have b7:=Ir az
   repeat' first|refine Z1 ?_|refine Z8 fun ya J=>?_|refine Z4 ?_;clear J ya|refine Z2 ?_ ?_<;>intro h ac<;>try exact Xp|refine Z5 ?_;refine Xi (ao _) ?_;rintro _ _ ⟨rfl,ad⟩;(have ah:=ad.nobj;have ab:=ad.obj;have a0:=a3.trans ad;simp only[Ac,Aa]at ah ab)|refine Z3 ?_|exact Zt|apply J.out;clear J ya
   rename_i σ1;have p0:σ1.obj σ.nobj=[ic q.head.p,sl ih q.head.ts.length (Af q.head.ts),sl ip q.parts.length pc,sl inn q.nots.length nc]:=by rw[ab _ Agm,Ak Agm,Ah Agm,a9]
   have p1:σ1.obj (σ.nobj+1)=[ic 0,nilS,nilS,nilS]:=by rw[ab _ Agm,Ak Agm,Ah Agm,am]
   have p2:σ1.obj (σ.nobj+2)=Eu f:=by rw[ab _ Agm,Ak Agm,Ah Agm,ak]
   clear ab ad
   refine Ad (fun m s σ''=>∃(j:Nat) (g:Nat->Nat),m=w.tups.length-j/\j<=w.tups.length/\s 1=ic v/\s 2=ptr σ.nobj 0/\s 4=ptr (σ.nobj+1) 0/\s 5=ptr (σ.nobj+2) 0/\s 6=ic a/\s 9=ic pl/\s 20=sl ip q.parts.length pc/\s 21=ic q.parts.length/\s 22=ic i/\s 33=sl idt w.tups.length (Er w.tups)/\s 34=ic w.tups.length/\s 35=ic j/\Keep σ σ''/\σ.nobj+2<σ''.nobj/\σ''.obj σ.nobj=[ic q.head.p,sl ih q.head.ts.length (Af q.head.ts),sl ip q.parts.length pc,sl inn q.nots.length nc]/\σ''.obj (σ.nobj+1)=[ic 0,nilS,nilS,nilS]/\σ''.obj (σ.nobj+2)=Eu g/\(∀k,g k<=a+1)/\Agt (g=gF f a pl (w.tups.take j))) w.tups.length
    ⟨0,f,Agm,Agm,Agn,Agn,Agn,Agn,Agn,Ago,Agn,Agn,Agn,Ago,Ago,rfl,a0,Agm,p0,p1,p2,fun k=>by have:=ba k;omega,by simp[Agt,Abx]⟩ ?_
   clear p0 p1 p2 h1 h2 h4 h5 h6 bw bv bu hK ay a9 am ak bz a0 a3;rintro m s σ'' ⟨j,g,rfl,hj,h1,h2,h4,h5,h6,h9,bw,bv,bu,cw,cv,cu,hK,ay,a9,am,ak,cd,hX⟩;have bz:=hK.nobj;by_cases ai:j<w.tups.length
   ·have aa:=Adn ai;obtain⟨ae,r2,bm⟩:=Jj az aa;obtain⟨x,an,hx⟩:=a5 _ (Aes ai) pl aw;generalize w.tups[j]=t at bm aa ae an;have cc:=Ob an;have HG:Agt (gF f a pl (w.tups.take (j+1))=fun k=>if k=x/\g x=a then a+1 else g k):=by
     have bd:Hk t pl=(x:Int):=by simp[Hk,an]
     rw[Agt,Ad0,aa,Aez,Aad bd,hX.out]
    clear aa an hX;have f1:=Hf ae;have f2:=Mk ae;have f3:=Ia ae;have f4:=Oa ae;have f5:=Ev t;have f6:=Zv ae;have g1:=Ux g hx;have g2:=lT g hx (a+1);have g3:=Uw g;by_cases hm:g x=a
    ·have HX:Agt ((fun k=>if k=x then a+1 else g k)=gF f a pl (w.tups.take (j+1))):=by
      rw[Agt,HG.out];funext k;simp[hm]
     have hb:((g x:Int)==(a:Int))=true:=by simp[hm]
     rw[hm]at g1;have ap:((a+1:Nat):Int)=(a:Int)+1:=Agm;rw[ap]at g2;clear ap HG
     repeat' first|refine Z1 ?_|refine Z8 fun ya J=>?_|refine Z4 ?_;clear J ya|refine Z2 ?_ ?_<;>intro h ac<;>try exact Xp|refine Z3 ?_|exact Zt|apply J.out;clear J ya
     refine⟨w.tups.length-(j+1),Agm,j+1,fun k=>if k=x then a+1 else g k,?_⟩
     ((repeat' refine Zi ?_ ?_)<;>first|exact Xq|exact HX|exact (fun k=>by have:=cd k;dsimp only;split<;>omega)|exact Xs)
    ·have HX:Agt (g=gF f a pl (w.tups.take (j+1))):=by
      rw[Agt,HG.out];funext k;simp[hm]
     have hb:((g x:Int)==(a:Int))=false:=by simp;omega
     clear HG hm g2
     repeat' first|refine Z1 ?_|refine Z8 fun ya J=>?_|refine Z4 ?_;clear J ya|refine Z2 ?_ ?_<;>intro h ac<;>try exact Xp|refine Z3 ?_|exact Zt|apply J.out;clear J ya
     refine⟨w.tups.length-(j+1),Agm,j+1,g,?_⟩
     ((repeat' refine Zi ?_ ?_)<;>first|exact Xq|exact HX|exact Xs)
   ·have bi:j=w.tups.length:=Agm;subst bi;have hX:=hX.out;rw[Adu]at hX;subst hX
    repeat' first|refine Z1 ?_|refine Z8 fun ya J=>?_|refine Z4 ?_;clear J ya|refine Z2 ?_ ?_<;>intro h ac<;>try exact Xp|refine Z3 ?_|exact Zt|apply J.out;clear J ya
    refine⟨q.parts.length-(i+1),Agm,i+1,a+1,gF f a pl w.tups,?_⟩
    ((repeat' refine Zi ?_ ?_)<;>first|exact Xq|exact HS|exact ci.out|exact Xs)
 ·have cb:i=q.parts.length:=Agm;subst cb;rw[Adu]at hA;clear hi
  repeat' first|refine Z1 ?_|refine Z8 fun ya J=>?_|refine Z4 ?_;clear J ya|refine Z2 ?_ ?_<;>intro h ac<;>try exact Xp|refine Z3 ?_|exact Zt|apply J.out;clear J ya
  refine Ad (fun m s σ2=>∃(k i3:Nat) (xs:List AV),m=q.parts.length-k/\k<=q.parts.length/\s 1=ic v/\s 4=ptr (σ.nobj+1) 0/\s 5=ptr (σ.nobj+2) 0/\s 6=ic a/\s 12=ptr σ'.nobj 0/\s 63=sl ip q.parts.length pc/\s 64=ic q.parts.length/\s 65=ic k/\Keep σ σ2/\σ'.nobj<σ2.nobj/\σ2.obj (σ.nobj+1)=[ic 0,nilS,nilS,nilS]/\σ2.obj (σ.nobj+2)=Eu f/\σ2.obj σ'.nobj=[ic q.head.p,sl ih q.head.ts.length (Af q.head.ts),sl i3 k xs,sl inn q.nots.length nc]/\Own σ σ2 i3 k/\xs.length=k*3/\Agt (EL L2 ((q.parts.take k).map (F2 q.parts v)) xs)) q.parts.length
   ⟨0,1,[],Agm,Agm,Agn,Agn,Agn,Agn,Ago,Ago,Ago,rfl,(hK.new _).put hK.nobj _,Ags,?_,?_,?_,Own.nil _ _,by simp,by simp[Agt,EL]⟩ ?_
  ·rw[Ak Agm,Ah Agm,am]
  ·rw[Ak Agm,Ah Agm,ak]
  ·rw[Aj]
  have ch:=ay;clear h1 h2 h4 h5 h6 bw bv bu af a9 am ak ay hK;generalize br:σ'.nobj=o12 at*
  clear br;rintro m s σ2 ⟨k,i3,xs,rfl,hk,h1,h4,h5,h6,b4,b3,b2,b1,hK,ay,am,ak,bc,hO,cm,hX⟩;have ah:=hK.nobj;by_cases af:k<q.parts.length
  ·have aa:=Adn af;obtain⟨id,idt,r,hd⟩:=E6 hP aa;have bo:=hq.pa _ (Aes af);have bn:=hq.pt _ (Aes af);have az:=hq.p3 _ (Aes af);have a5:=hN _ (Aes af);generalize q.parts[k]=w at hd aa bo bn az a5;have bh:w.a.ts.length<=1000:=Agm;have ao:=fun σ=>Fz w.a.p id w.a.ts v bh σ;have a3:Keep σ ((σ2.new [ic 0,nilS,nilS]).put σ2.nobj [ic w.a.p,sl id w.a.ts.length (Af w.a.ts),sl idt w.tups.length (Er w.tups)]):=(hK.new _).put hK.nobj _;have HM:Agt ((q.parts.take (k+1)).map (F2 q.parts v)=(q.parts.take k).map (F2 q.parts v)++[F2 q.parts v w]):=by
    rw[Agt,Ad0,aa];simp
   clear aa;cases hv:A9 w.a.ts v with
   |false=>
    have hp:Ig w.a.ts v= -1:=Jp (by simpa[A9]using hv);have HX:Agt (EL L2 ((q.parts.take (k+1)).map (F2 q.parts v)) (xs++[ic w.a.p,sl id w.a.ts.length (Af w.a.ts),sl idt w.tups.length (Er w.tups)])):=by
     rw[Agt,HM.out];refine EL.append hX.out (EL.single ?_);rw[F2,if_neg (by rw[hv];simp)];exact⟨id,idt,rfl⟩
    rw[hp]at ao;clear hp HM hX
    repeat' first|refine Z1 ?_|refine Z8 fun ya J=>?_|refine Z4 ?_;clear J ya|refine Z2 ?_ ?_<;>intro h ac<;>try exact Xp|refine Z6 ?_;intro idn σn a6 a7 a4 aj a8 au|refine Z5 ?_;refine Xi (ao _) ?_;rintro _ _ ⟨rfl,ad⟩;(have av:=ad.nobj;have ab:=ad.obj;have a0:=a3.trans ad;have bp:=Own.keep (Own.put (Own.new hO _) _ _) ad;simp only[Ac,Aa]at av ab)|refine Z3 ?_|exact Zt|apply J.out;clear J ya
    refine⟨q.parts.length-(k+1),Agm,k+1,idn,xs++[ic w.a.p,sl id w.a.ts.length (Af w.a.ts),sl idt w.tups.length (Er w.tups)],?_⟩
    ((repeat' refine Zi ?_ ?_)<;>first|exact Xq|exact (a7.put Agm _)|exact (Own.put a6 _ _)|exact HX|exact Xs)
   |true=>
    obtain⟨pl,aw,ax⟩:=Jq hv;have cj:Agt (F2 q.parts v w=⟨w.a,w.tups.filter fun t=>Dt q.parts v (Hk t pl)⟩):=by rw[Agt,F2,if_pos hv,ax]
    rw[ax]at ao;clear ax;have be:pl<3:=Agm;have bg:((pl:Int)== -1)=false:=by simp
    have b7:=Ir az;have ce:Agt _:=hX
    repeat' first|refine Z1 ?_|refine Z8 fun ya J=>?_|refine Z4 ?_;clear J ya|refine Z2 ?_ ?_<;>intro h ac<;>try exact Xp|refine Z5 ?_;refine Xi (ao _) ?_;rintro _ _ ⟨rfl,ad⟩;(have av:=ad.nobj;have ab:=ad.obj;have a0:=a3.trans ad;have bp:=Own.keep (Own.put (Own.new hO _) _ _) ad;simp only[Ac,Aa]at av ab)|refine Z3 ?_|exact Zt|apply J.out;clear J ya
    rename_i σ3;have p1:σ3.obj (σ.nobj+1)=[ic 0,nilS,nilS,nilS]:=by rw[ab _ Agm,Ak Agm,Ah Agm,am]
    have p2:σ3.obj (σ.nobj+2)=Eu f:=by rw[ab _ Agm,Ak Agm,Ah Agm,ak]
    have p3:σ3.obj o12=[ic q.head.p,sl ih q.head.ts.length (Af q.head.ts),sl i3 k xs,sl inn q.nots.length nc]:=by rw[ab _ Agm,Ak Agm,Ah Agm,bc]
    clear ab ad
    refine Ad (fun m s σ4=>∃(j i5:Nat) (o:List Cc) (ys:List AV),m=w.tups.length-j/\j<=w.tups.length/\s 1=ic v/\s 4=ptr (σ.nobj+1) 0/\s 5=ptr (σ.nobj+2) 0/\s 6=ic a/\s 12=ptr o12 0/\s 15=ic pl/\s 16=ptr σ3.nobj 0/\s 63=sl ip q.parts.length pc/\s 64=ic q.parts.length/\s 65=ic k/\s 85=sl idt w.tups.length (Er w.tups)/\s 86=ic w.tups.length/\s 87=ic j/\Keep σ σ4/\σ3.nobj<σ4.nobj/\σ4.obj (σ.nobj+1)=[ic 0,nilS,nilS,nilS]/\σ4.obj (σ.nobj+2)=Eu f/\σ4.obj o12=[ic q.head.p,sl ih q.head.ts.length (Af q.head.ts),sl i3 k xs,sl inn q.nots.length nc]/\σ4.obj σ3.nobj=[ic w.a.p,sl id w.a.ts.length (Af w.a.ts),sl i5 o.length ys]/\Own σ σ4 i3 k/\Own σ σ4 i5 o.length/\(i5=1\/i5≠i3)/\o.length<=j/\ys.length=o.length*3/\Agt (ys=Er o/\o=(w.tups.take j).filter fun t=>Dt q.parts v (Hk t pl))) w.tups.length
     ⟨0,1,[],[],Agm,Agm,Agn,Agn,Agn,Agn,Agn,Ago,Ago,Agn,Agn,Agn,Ago,Ago,rfl,(a0.new _).put Agm _,Ags,?_,?_,?_,?_,Own.put (Own.new bp _) _ _,Own.nil _ _,.inl rfl,by simp,by simp,⟨rfl,by simp⟩⟩ ?_
    ·rw[Ak Agm,Ah Agm,p1]
    ·rw[Ak Agm,Ah Agm,p2]
    ·rw[Ak Agm,Ah Agm,p3]
    ·rw[Aj];simp
    have cz:o12<σ3.nobj:=Agm;clear p1 p2 p3 h1 h4 h5 h6 b4 b3 b2 b1 hK ay am ak bc hO bp a0 a3 hX ah;rintro m s σ4 ⟨j,i5,o,ys,rfl,hj,h1,h4,h5,h6,b4,cy,cx,b3,b2,b1,ct,cr,cq,hK,ay,am,ak,bc,ck,b0,hO,b9,cn,b6,hX⟩;have b5:=hK.nobj;by_cases ai:j<w.tups.length
    ·have aa:=Adn ai;obtain⟨ae,r2,bm⟩:=Jj az aa;obtain⟨x,an,hx⟩:=a5 _ (Aes ai) pl aw;generalize w.tups[j]=t at bm aa ae an;have cc:=Ob an;have HF:Agt ((w.tups.take (j+1)).filter (fun t=>Dt q.parts v (Hk t pl))=(w.tups.take j).filter (fun t=>Dt q.parts v (Hk t pl))++if f x=a then [t]else []):=by
      have bd:Hk t pl=(x:Int):=by simp[Hk,an]
      rw[Agt,Ad0,aa,Aez,D6,bd];congr 1;have h1:=hA.out x;by_cases e:f x=a
      ·rw[if_pos e,if_pos (h1.1 e)]
      ·rw[if_neg e,if_neg (fun h=>e (h1.2 h))]
     clear aa an;have f1:=Hf ae;have f2:=Mk ae;have f3:=Ia ae;have f4:=Oa ae;have f5:=Ev t;have f6:=Zv ae;have g1:=Ux f hx;have g3:=Uw f;have co:=ba x;by_cases hm:f x=a
     ·have HX:Agt (ys++Ar t=Er (o++[t])/\o++[t]=(w.tups.take (j+1)).filter fun t=>Dt q.parts v (Hk t pl)):=by
       obtain⟨x1,x2⟩:=hX.out;exact⟨by rw[x1,O1],by rw[HF.out,if_pos hm,x2]⟩
      have hb:((f x:Int)==(a:Int))=true:=by simp[hm]
      clear hX HF hm
      repeat' first|refine Z1 ?_|refine Z8 fun ya J=>?_|refine Z4 ?_;clear J ya|refine Z2 ?_ ?_<;>intro h ac<;>try exact Xp|refine Z3 ?_|exact Zt
      refine G9 (by first|exact F5|exact Dx) ((hK.new _).put hK.nobj _) (Own.put (Own.new hO _) _ _) (by decide) (by rfl) b6 (by rw[f1]) f5 (by decide) Agm Agm ?_;intro idn σn a6 a7 a4 aj a8 au bf;obtain⟨bq,b8⟩:=bf i3 k (Own.put (Own.new b0 _) _ _) b9;simp only[Ac,Aa]at aj;have eob:∀p,p<σ4.nobj->σn.obj p=σ4.obj p:=fun p hp=>by rw[a4,Ak Agm,Ah Agm]
      refine Z3 ?_
      refine zz ?_
      refine⟨w.tups.length-(j+1),Agm,j+1,idn,o++[t],ys++Ar t,?_⟩
      ((repeat' refine Zi ?_ ?_)<;>first|exact Xq|exact (a7.put Agm _)|exact (by simpa using Own.put a6 _ _)|exact (Own.put bq _ _)|exact HX|exact Xs)
     ·have HX:Agt (ys=Er o/\o=(w.tups.take (j+1)).filter fun t=>Dt q.parts v (Hk t pl)):=by
       obtain⟨x1,x2⟩:=hX.out;exact⟨x1,by rw[HF.out,if_neg hm,x2,Ad4]⟩
      have hb:((f x:Int)==(a:Int))=false:=by simp;omega
      clear hX HF hm
      repeat' first|refine Z1 ?_|refine Z8 fun ya J=>?_|refine Z4 ?_;clear J ya|refine Z2 ?_ ?_<;>intro h ac<;>try exact Xp|refine Z3 ?_|exact Zt|apply J.out;clear J ya
      refine⟨w.tups.length-(j+1),Agm,j+1,i5,o,ys,?_⟩
      ((repeat' refine Zi ?_ ?_)<;>first|exact Xq|exact (Own.put (Own.new hO _) _ _)|exact (Own.put (Own.new b0 _) _ _)|exact HX|exact Xs)
    ·have bi:j=w.tups.length:=Agm;subst bi;obtain⟨x1,x2⟩:=hX.out;rw[Adu]at x2;have HX:Agt (EL L2 ((q.parts.take (k+1)).map (F2 q.parts v)) (xs++[ic w.a.p,sl id w.a.ts.length (Af w.a.ts),sl i5 o.length ys])):=by
      rw[Agt,HM.out];refine EL.append ce.out (EL.single ?_);rw[cj.out,<-x2];exact⟨id,i5,by rw[x1]⟩
     clear hX x1 x2
     repeat' first|refine Z1 ?_|refine Z8 fun ya J=>?_|refine Z4 ?_;clear J ya|refine Z2 ?_ ?_<;>intro h ac<;>try exact Xp|refine Z6 ?_;intro idn σn a6 a7 a4 aj a8 au|refine Z3 ?_|exact Zt|apply J.out;clear J ya
     refine⟨q.parts.length-(k+1),Agm,k+1,idn,xs++[ic w.a.p,sl id w.a.ts.length (Af w.a.ts),sl i5 o.length ys],?_⟩
     ((repeat' refine Zi ?_ ?_)<;>first|exact Xq|exact (a7.put Agm _)|exact (Own.put a6 _ _)|exact HX|exact Xs)
  ·have ca:k=q.parts.length:=Agm;subst ca;rw[Adu]at hX;have cg:(q.parts.map (F2 q.parts v)).length=q.parts.length:=by rw[Ae3]
   repeat' first|refine Z1 ?_|refine Z8 fun ya J=>?_|refine Z4 ?_;clear J ya|refine Z2 ?_ ?_<;>intro h ac<;>try exact Xp|refine Z3 ?_|exact Zt|apply J.out;clear J ya
   exact⟨_,rfl,⟨_,rfl,ih,i3,inn,xs,nc,by simp only[Fh];rw[cg],hX.out,cf⟩,hK.put Agm _⟩
inductive NarS (q:Qry):Qry->Prop where
 |refl:NarS q q
 |tail {q':Qry} (v:Int):NarS q q'->NarS q (Fh q' v)
theorem Qj (l:List Part)(v:Int)(p:Part):(F2 l v p).a=p.a:=by unfold F2;split<;>rfl
theorem Pd (l:List Part)(v:Int)(p:Part):∀t∈(F2 l v p).tups,t∈p.tups:=by
 unfold F2;split
 ·intro t ht;exact (Afz.1 ht).1
 ·exact fun t ht=>ht
theorem iE (l:List Part)(v:Int)(p:Part):(F2 l v p).tups.length<=p.tups.length:=by
 unfold F2;split
 ·exact Af0 _ _
 ·exact Adc _
theorem wC {q:Qry}{v:Int}(h:Om q):Om (Fh q v):=by
 have hm:∀p∈(Fh q v).parts,∃p0∈q.parts,F2 q.parts v p0=p:=fun p hp=>Ae4.1 hp;refine⟨h.hd,by simp[Fh];exact h.pl,h.nl,fun p hp=>?_,fun p hp=>?_,fun p hp=>?_,h.na⟩
 ·obtain⟨p0,h0,rfl⟩:=hm p hp;rw[Qj];exact h.pa p0 h0
 ·obtain⟨p0,h0,rfl⟩:=hm p hp;exact Ade (iE _ _ _) (h.pt p0 h0)
 ·obtain⟨p0,h0,rfl⟩:=hm p hp;exact fun t ht=>h.p3 p0 h0 t (Pd _ _ _ t ht)
theorem zT {q:Qry}{v:Int}(h:QN q):QN (Fh q v):=fun p hp t ht=>by
 obtain⟨p0,h0,rfl⟩:=Ae4.1 hp;rw[Qj];exact h p0 h0 t (Pd _ _ _ t ht)
theorem NarS.ok {q q':Qry}(h:NarS q q')(hq:Om q):Om q':=by
 induction h with
 |refl=>exact hq
 |tail v _ ih=>exact wC ih
theorem NarS.n {q q':Qry}(h:NarS q q')(hq:QN q):QN q':=by
 induction h with
 |refl=>exact hq
 |tail v _ ih=>exact zT ih
def Qf (q:Qry)(v:Int):Qry:=if 1<Df (q.parts.map (·.a)) v then Fh q v else q
def jZ (q:Qry)(vs:List Int):Qry:=vs.foldl Qf q
theorem fN {q:Qry}(h:Om q):Cy q.parts<=320000:=by
 have h1:=h.pl;have h2:=h.pt;have:∀l:List Part,(∀p∈l,p.tups.length<=5000)->Cy l<=l.length*5000:=by
  intro l;induction l with
  |nil=>intro _;simp[Cy]
  |cons a l ih=>
   intro h;have h3:=h a (by simp);have h4:=ih (fun p hp=>h p (by simp[hp]));simp only[Cy,Ad7,List.sum_cons,Aem]at*
   omega
 have h5:=this q.parts h2;omega
theorem sM (q:Qry)(c:List AV)(hc:EQ q c)(hq:Om q)(hN:QN q)(σ:St):ACalls Tryz.prog 213 [ag c] σ fun r σ'=>(∃c' q' qp,r=ag c'/\EQ q' c'/\NarS q qp/\NarS q q'/\q'=jZ qp (Cn (atomsQ qp))/\Cy qp.parts<=Cy q'.parts)/\Keep σ σ':=by
 have hS:=fun σ=>U9 q c hc hq σ;have bd:=fN hq;have HC:Agt (EQ q c):=hc;obtain⟨ih0,ip0,in0,pc0,nc0,rfl,-,-⟩:=hc;refine Z9 32 [.cell 2 182] Tryz.func213 ?_
 repeat' first|refine Z1 ?_|refine Z8 fun ya J=>?_|refine Z4 ?_;clear J ya|refine Z5 ?_;refine Xi (hS _) ?_;rintro _ _ ⟨rfl,ad⟩;(have ac:=ad.nobj;have aa:=ad.obj;have ab:=(((Keep.refl σ).new _).new _).trans ad;simp only[Aa]at ac aa)|refine Z3 ?_|exact Zt|apply J.out;clear J ya
 rename_i σ1;have o0:σ1.obj σ.nobj=[ic q.head.p,sl ih0 q.head.ts.length (Af q.head.ts),sl ip0 q.parts.length pc0,sl in0 q.nots.length nc0]:=by rw[aa _ Agm,Ah Agq,Al]
 have o1:σ1.obj (σ.nobj+1)=[ic 0,nilS,nilS,nilS]:=by rw[aa _ Agm,Ca Agq Agq]
 clear aa ad
 refine Ad (fun m s σ'=>∃(qk:Qry) (ck:List AV),s 1=ptr σ.nobj 0/\s 2=ptr (σ.nobj+1) 0/\s 3=ic m/\m<=320001/\Keep σ σ'/\σ.nobj+1<σ'.nobj/\σ'.obj σ.nobj=ck/\σ'.obj (σ.nobj+1)=[ic 0,nilS,nilS,nilS]/\Agt (EQ qk ck/\NarS q qk/\(Cy qk.parts<m\/∃qp,NarS q qp/\qk=jZ qp (Cn (atomsQ qp))/\Cy qp.parts=m))) (Cy q.parts+1)
  ⟨q,_,Ago,Ago,Ago,Agm,ab,Agm,o0,o1,HC.out,.refl,.inl Agm⟩ ?_
 clear o0 o1 ab ac hS bd HC;rintro m s σ' ⟨qk,ck,h1,h2,h3,hm,hK,be,ax,aw,hQ⟩;have b0:=hK.nobj;have ah:=hQ.out.2.1.ok hq;have bf:=hQ.out.2.1.n hN;have hS:=fun σ=>U9 qk ck hQ.out.1 ah σ;have bg:=fun σ=>Iz qk ck hQ.out.1 ah σ;have bd:=fN ah;obtain⟨ihk,ipk,ink,pck,nck,rfl,-,-⟩:=hQ.out.1;have bb:=Lz ah;have b2:=Ik ah;have a7:=fun (cs:List AV) (i:Nat) (hE:EL Nk (atomsQ qk) cs) (σ:St)=>Ie (atomsQ qk) cs i hE bb Agm σ;have bn:=Gp bb;have b6:Agt (Om qk/\QN qk):=⟨ah,bf⟩;by_cases bp:Cy qk.parts<m
 ·generalize bc:Cn (atomsQ qk)=vs at a7 bn;have bw:Agt _:=bc;clear bc bb bf ah;generalize a4:Cy qk.parts=sz at*
  have bz:Agt _:=a4;clear a4
  repeat' first|refine Z1 ?_|refine Z8 fun ya J=>?_|refine Z4 ?_;clear J ya|refine Z2 ?_ ?_<;>intro h af<;>try exact Xp|(refine Z5 ?_;first|(refine Xi (hS _) ?_;rintro _ _ ⟨rfl,ad⟩;(have ac:=ad.nobj;have aa:=ad.obj;have ab:=hK.trans ad;clear hK ad;have hK:=ab;clear ab))|(refine Xi (bg _) ?_;rintro _ _ ⟨ida,cs,rfl,hE,av⟩;(have a3:=av.nobj;have an:=av.obj;have ab:=hK.trans av;clear av hK;have hK:=ab;clear ab;have ao:=a7 cs ida hE))|(refine Xi (ao _) ?_;rintro _ _ ⟨⟨idv,rfl⟩,au⟩;(have a0:=au.nobj;have am:=au.obj;have ab:=hK.trans au;clear au hK;have hK:=ab;clear ab)))|refine Z3 ?_|exact Zt|apply J.out;clear J ya
  rename_i σa kno2a kob2a σb σc σd;have b1:=Bs vs;have ech:∀p,p<σ'.nobj->σd.obj p=σ'.obj p:=fun p hp=>by rw[am _ Agm,an _ Agm,aa _ Agm,kob2a _ Agm]
  refine Ad (fun m' s σ2=>∃(j:Nat) (qj:Qry) (cj:List AV),m'=vs.length-j/\j<=vs.length/\s 1=ptr σ.nobj 0/\s 2=ptr (σ.nobj+1) 0/\s 3=ic sz/\s 17=sl idv vs.length (Ar vs)/\s 18=ic vs.length/\s 19=ic j/\Keep σ σ2/\σ.nobj+1<σ2.nobj/\σ2.obj σ.nobj=cj/\σ2.obj (σ.nobj+1)=[ic 0,nilS,nilS,nilS]/\Agt (EQ qj cj/\NarS q qj/\qj=jZ qk (vs.take j))) vs.length
   ⟨0,qk,_,Agm,Agm,Agn,Agn,Agn,Ago,Ago,rfl,hK,Agm,rfl,by rw[ech _ Agm,aw],by rw[ech _ Agm,ax];exact hQ.out.1,hQ.out.2.1,by simp[jZ]⟩ ?_
  clear ech am an aa kob2a hK ax aw h1 h2 h3 be hS bg a7 ao hE a0 a3 ac kno2a;rintro m' s σ2 ⟨j,qj,cj,rfl,hj,h1,h2,h3,b5,b4,b3,hK,be,ax,aw,hJ⟩;have ac:=hK.nobj;have a5:=hJ.out.2.1.ok hq;have bo:=hJ.out.2.1.n hN;have ak:=fun v σ=>Ky qj cj v hJ.out.1 a5 σ;have a8:=fun v σ=>jA qj cj v hJ.out.1 a5 bo σ;have ap:∀v,Df (qj.parts.map (·.a)) v<=64:=fun v=>by
   have h1:=pQ (qj.parts.map (·.a)) v;have h2:=a5.pl;simp at h1;omega
  have bh:Agt (EQ qj cj):=hJ.out.1;obtain⟨ihj,ipj,inj,pcj,ncj,rfl,-,-⟩:=hJ.out.1;by_cases a6:j<vs.length
  ·have ae:=Adn a6;obtain⟨r,hd⟩:=Di ae;generalize vs[j]=v at hd ae;have HR:Agt (jZ qk (vs.take (j+1))=Qf qj v):=by
    rw[Agt,Ad0,ae,Aez,jZ,List.foldl_append,hJ.out.2.2];rfl
   clear ae;have ak:=ak v;have a8:=a8 v;have ap:=ap v;by_cases aj:1<Df (qj.parts.map (·.a)) v
   ·have HR:Agt (jZ qk (vs.take (j+1))=Fh qj v):=by rw[Agt,HR.out,Qf,if_pos aj]
    generalize Df (qj.parts.map (·.a)) v=cn at ak aj ap;have hb:decide ((cn:Int)>1)=true:=by simp;omega
    clear aj
    repeat' first|refine Z1 ?_|refine Z8 fun ya J=>?_|refine Z4 ?_;clear J ya|refine Z2 ?_ ?_<;>intro h af<;>try exact Xp|(refine Z5 ?_;first|(refine Xi (ak _) ?_;rintro _ _ ⟨rfl,ai⟩;(have az:=ai.nobj;have ay:=ai.obj;have ab:=hK.trans ai))|(refine Xi (a8 _) ?_;rintro _ _ ⟨⟨_,rfl,ih6,ip6,in6,pc6,nc6,rfl,br,bu⟩,a9⟩;(have bm:=a9.nobj;have bi:=a9.obj;have bv:=ab.trans a9)))|refine Z3 ?_|exact Zt|apply J.out;clear J ya
    refine⟨vs.length-(j+1),Agm,j+1,Fh qj v,[ic (Fh qj v).head.p,sl ih6 (Fh qj v).head.ts.length (Af (Fh qj v).head.ts),sl ip6 (Fh qj v).parts.length pc6,sl in6 (Fh qj v).nots.length nc6],?_⟩
    ((repeat' refine Zi ?_ ?_)<;>first|exact Xq|exact (bv.put Agm _)|exact (⟨⟨ih6,ip6,in6,pc6,nc6,rfl,br,bu⟩,.tail v hJ.out.2.1,HR.out.symm⟩)|exact Xs)
   ·have HR:Agt (jZ qk (vs.take (j+1))=qj):=by rw[Agt,HR.out,Qf,if_neg aj]
    generalize Df (qj.parts.map (·.a)) v=cn at ak aj ap;have hb:decide ((cn:Int)>1)=false:=by simp;omega
    clear aj
    repeat' first|refine Z1 ?_|refine Z8 fun ya J=>?_|refine Z4 ?_;clear J ya|refine Z2 ?_ ?_<;>intro h af<;>try exact Xp|refine Z5 ?_;refine Xi (ak _) ?_;rintro _ _ ⟨rfl,ai⟩;(have az:=ai.nobj;have ay:=ai.obj;have ab:=hK.trans ai)|refine Z3 ?_|exact Zt|apply J.out;clear J ya
    refine⟨vs.length-(j+1),Agm,j+1,qj,[ic qj.head.p,sl ihj qj.head.ts.length (Af qj.head.ts),sl ipj qj.parts.length pcj,sl inj qj.nots.length ncj],?_⟩
    ((repeat' refine Zi ?_ ?_)<;>first|exact Xq|exact (⟨bh.out,hJ.out.2.1,HR.out.symm⟩)|exact Xs)
  ·have bq:j=vs.length:=Agm;subst bq;have ba:=hJ.out.2.2;rw[Adu]at ba
   have HF:Agt (EQ qj [ic qj.head.p,sl ihj qj.head.ts.length (Af qj.head.ts),sl ipj qj.parts.length pcj,sl inj qj.nots.length ncj]/\NarS q qj/\(Cy qj.parts<sz\/∃qp,NarS q qp/\qj=jZ qp (Cn (atomsQ qp))/\Cy qp.parts=sz)):=
    ⟨bh.out,hJ.out.2.1,.inr ⟨qk,hQ.out.2.1,by rw[bw.out];exact ba,bz.out⟩⟩
   clear ba
   repeat' first|refine Z1 ?_|refine Z8 fun ya J=>?_|refine Z4 ?_;clear J ya|refine Z2 ?_ ?_<;>intro h af<;>try exact Xp|refine Z3 ?_|exact Zt|apply J.out;clear J ya
   refine⟨sz,Agm,qj,[ic qj.head.p,sl ihj qj.head.ts.length (Af qj.head.ts),sl ipj qj.parts.length pcj,sl inj qj.nots.length ncj],?_⟩
   ((repeat' refine Zi ?_ ?_)<;>first|exact Xq|exact HF|exact Xs)
 ·have hR:∃qp,NarS q qp/\qk=jZ qp (Cn (atomsQ qp))/\Cy qp.parts<=Cy qk.parts:=by
   rcases hQ.out.2.2 with h|⟨qp,h1,h2,h3⟩
   ·exact absurd h bp
   ·exact⟨qp,h1,h2,Agm⟩
  have HR:Agt _:=hR;clear hR;generalize a4:Cy qk.parts=sz at*
  repeat' first|refine Z1 ?_|refine Z8 fun ya J=>?_|refine Z4 ?_;clear J ya|refine Z2 ?_ ?_<;>intro h af<;>try exact Xp|refine Z5 ?_;refine Xi (hS _) ?_;rintro _ _ ⟨rfl,ad⟩;(have ac:=ad.nobj;have aa:=ad.obj;have ab:=hK.trans ad)|refine Z3 ?_|exact Zt|apply J.out;clear J ya
  obtain⟨qp,r1,r2,r3⟩:=HR.out;exact⟨_,rfl,⟨_,qk,qp,rfl,hQ.out.1,r1,hQ.out.2.1,r2,Agm⟩,ab.put Agm _⟩
theorem Uv:∀{l m:List Int},l.Nodup->(∀x∈l,x∈m)->l.length<=m.length
 |[],m,_,_=>by simp
 |a::l,m,hn,hs=>by
  have aa:=List.nodup_cons.1 hn;have ha:=hs a (by simp)
  have h1:=Uv (l:=l) (m:=m.erase a) aa.2 (fun x hx=>by
   have ab:x≠a:=fun e=>aa.1 (e ▸ hx)
   exact (List.mem_erase_of_ne ab).2 (hs x (by simp[hx])))
  rw[List.length_erase_of_mem ha]at h1;have:0<m.length:=List.length_pos_of_mem ha;simp only[Aem];omega
theorem Sn:∀(l:List Cc) (pl:Int) (acc:List Int),acc.Nodup->(l.foldl (qO pl) acc).Nodup
 |[],pl,acc,h=>h
 |t::l,pl,acc,h=>by
  rw[Adt];apply Sn;unfold qO;split
  ·exact h
  ·rename_i hc;rw[Afr];exact⟨h,by simp,fun a ha b hb=>by simp at hb;subst hb;rintro rfl;exact hc ha⟩
theorem Sp:∀(l:List Cc) (pl:Int) (acc:List Int) (n:Int),n∈l.foldl (qO pl) acc↔n∈acc\/∃t∈l,Hk t pl=n
 |[],pl,acc,n=>by simp
 |t::l,pl,acc,n=>by
  rw[Adt,Sp];unfold qO;by_cases hc:Hk t pl∈acc
  ·rw[if_pos hc];constructor
   ·rintro (h|⟨u,hu,e⟩)
    ·exact .inl h
    ·exact .inr ⟨u,by simp[hu],e⟩
   ·rintro (h|⟨u,hu,e⟩)
    ·exact .inl h
    ·rcases Ae2.1 hu with rfl|hu
     ·exact .inl (e ▸ hc)
     ·exact .inr ⟨u,hu,e⟩
  ·rw[if_neg hc];constructor
   ·rintro (h|⟨u,hu,e⟩)
    ·rcases Aet.1 h with h|h
     ·exact .inl h
     ·simp at h;exact .inr ⟨t,by simp,h.symm⟩
    ·exact .inr ⟨u,by simp[hu],e⟩
   ·rintro (h|⟨u,hu,e⟩)
    ·exact .inl (Aet.2 (.inl h))
    ·rcases Ae2.1 hu with rfl|hu
     ·exact .inl (Aet.2 (.inr (by simp[e])))
     ·exact .inr ⟨u,hu,e⟩
theorem Sq {q:Qry}(hN:QN q)(v:Int):(K0 q v).length<=1026:=by
 have hr:((List.range 1026).map fun k:Nat=>(k:Int)).length=1026:=by simp
 rw[<-hr];unfold K0;split
 ·rename_i p hp;have ab:=Ae1 hp;have aa:A9 p.a.ts v=true:=by simpa using List.find?_some hp
  obtain⟨pl,hpl,ac⟩:=Jq aa;rw[ac];apply Uv (Sn _ _ _ Afs);intro n hn;unfold Wi at hn;rw[Sp]at hn;rcases hn with h|⟨t,ht,e⟩
  ·cases h
  ·obtain⟨x,hx,ad⟩:=hN p ab t ht pl hpl;rw[Ae4];exact⟨x,by simpa using ad,by rw[<-e];simp[Hk,hx]⟩
 ·simp
def QV (q:Qry):Prop:=∀a∈atomsQ q,∀v,(true,v)∈a.ts->0<=v
theorem cF (q:Qry)(c:List AV)(hc:EQ q c)(hq:Om q)(hN:QN q)(hV:QV q)(σ:St):ACalls Tryz.prog 215 [ag c] σ fun r σ'=>(∃b,r=ic b/\((b= -1/\∀v∈Cn (atomsQ q),Dd q v=false)\/(b∈Cn (atomsQ q)/\Dd q b=true)))/\Keep σ σ':=by
 have a4:=fun σ=>Iz q c hc hq σ;have af:=fun v σ=>Pp q c v hc hq σ;have aw:=fun v σ=>Km q c v hc hq hN σ;have az:=fun v=>Sq hN v;have a5:=Lz hq;have bi:=Ik hq;have a3:=fun (cs:List AV) (i:Nat) (hE:EL Nk (atomsQ q) cs) (σ:St)=>Ie (atomsQ q) cs i hE a5 Agm σ;have bd:=Gp a5;obtain⟨ih,ip,inn,pc,nc,rfl,-,-⟩:=hc;generalize Cn (atomsQ q)=vs at*
 have be:=Bs vs;refine Z9 31 [.tmp 2] Tryz.func215 ?_
 repeat' first|refine Z1 ?_|refine Z8 fun ya J=>?_|refine Z4 ?_;clear J ya|(refine Z5 ?_;first|(refine Xi (a4 _) ?_;rintro _ _ ⟨ida,cs,rfl,hE,ao⟩;(have ai:=ao.nobj;have ab:=ao.obj;have hK:=((Keep.refl σ).new _).trans ao;have ak:=a3 cs ida hE;simp only[Aa]at ai ab))|(refine Xi (ak _) ?_;rintro _ _ ⟨⟨idv,rfl⟩,an⟩;(have av:=an.nobj;have ah:=an.obj;have am:=hK.trans an;clear an hK;have hK:=am;clear am)))|refine Z3 ?_|exact Zt|apply J.out;clear J ya
 rename_i σa σb;have o0:σb.obj σ.nobj=[ic q.head.p,sl ih q.head.ts.length (Af q.head.ts),sl ip q.parts.length pc,sl inn q.nots.length nc]:=by rw[ah _ Agm,ab _ Agm,Al]
 clear ab ah a4 a3 ak hE ao
 refine Ad (fun m s σ'=>∃(j w:Nat) (b:Int),m=vs.length-j/\j<=vs.length/\s 1=ptr σ.nobj 0/\s 3=ic b/\s 4=ic w/\s 10=sl idv vs.length (Ar vs)/\s 11=ic vs.length/\s 12=ic j/\Keep σ σ'/\σ.nobj<σ'.nobj/\σ'.obj σ.nobj=[ic q.head.p,sl ih q.head.ts.length (Af q.head.ts),sl ip q.parts.length pc,sl inn q.nots.length nc]/\w<=1027/\Agt ((b= -1/\w=1027/\∀v∈vs.take j,Dd q v=false)\/(b∈vs/\Dd q b=true))) vs.length
  ⟨0,1027,-1,Agm,Agm,Ago,Ago,Ago,Ago,Ago,rfl,hK,Agm,o0,Agm,.inl ⟨rfl,rfl,by simp⟩⟩ ?_
 clear hK o0 ai av;rintro m s σ' ⟨j,w,b,rfl,hj,h1,h3,h4,bo,bn,bm,hK,bg,bb,hw,hB⟩;have bc:=hK.nobj;by_cases a0:j<vs.length
 ·have aa:=Adn a0;obtain⟨r,hd⟩:=Di aa;have ac:=Aes a0;generalize vs[j]=v at hd aa ac;have af:=af v;have aw:=aw v;have az:=az v
  have HM:Agt (v∈vs/\∀u∈vs.take (j+1),u∈vs.take j\/u=v):=⟨ac,fun u hu=>by
   rw[Ad0,aa,Aez]at hu;rcases Aet.1 hu with h|h
   ·exact .inl h
   ·simp at h;exact .inr h⟩
  clear aa ac;cases ae:Dd q v with
  |false=>
   rw[ae]at af;have HB:Agt ((b= -1/\w=1027/\∀v∈vs.take (j+1),Dd q v=false)\/(b∈vs/\Dd q b=true)):=by
    rcases hB.out with⟨h1,h2,h3⟩|h
    ·refine .inl ⟨h1,h2,fun u hu=>?_⟩;rcases HM.out.2 u hu with h|rfl
     ·exact h3 u h
     ·exact ae
    ·exact .inr h
   clear hB HM ae
   repeat' first|refine Z1 ?_|refine Z8 fun ya J=>?_|refine Z4 ?_;clear J ya|refine Z2 ?_ ?_<;>intro h aj<;>try exact Xp|refine Z5 ?_;refine Xi (af _) ?_;rintro _ _ ⟨rfl,ad⟩;(have au:=ad.nobj;have ap:=ad.obj;have am:=hK.trans ad)|refine Z3 ?_|exact Zt|apply J.out;clear J ya
   refine⟨vs.length-(j+1),Agm,j+1,w,b,?_⟩
   ((repeat' refine Zi ?_ ?_)<;>first|exact Xq|exact HB|exact Xs)
  |true=>
   rw[ae]at af;have ba:Agt ((v= -1/\(K0 q v).length=1027/\∀v∈vs.take (j+1),Dd q v=false)\/(v∈vs/\Dd q v=true)):=.inr ⟨HM.out.1,ae⟩;have a9:Agt (¬(K0 q v).length<w->(b= -1/\w=1027/\∀v∈vs.take (j+1),Dd q v=false)\/(b∈vs/\Dd q b=true)):=fun hn=>by
    rcases hB.out with⟨h1,h2,h3⟩|h
    ·omega
    ·exact .inr h
   clear hB HM ae;generalize ay:K0 q v=vq at*
   have bp:Agt _:=ay;clear ay;have bf:=Bs vq
   repeat' first|refine Z1 ?_|refine Z8 fun ya J=>?_|refine Z4 ?_;clear J ya|refine Z2 ?_ ?_<;>intro h aj<;>try exact Xp|(refine Z5 ?_;first|(refine Xi (af _) ?_;rintro _ _ ⟨rfl,ad⟩;(have au:=ad.nobj;have ap:=ad.obj;have am:=hK.trans ad))|(refine Xi (aw _) ?_;rintro _ _ ⟨⟨idq,rfl⟩,ax⟩;(have a7:=ax.nobj;have a6:=ax.obj;have bh:=am.trans ax)))|refine Z3 ?_|exact Zt|apply J.out;clear J ya
   ·refine⟨vs.length-(j+1),Agm,j+1,vq.length,v,?_⟩
    ((repeat' refine Zi ?_ ?_)<;>first|exact Xq|exact ba|exact Xs)
   ·refine⟨vs.length-(j+1),Agm,j+1,w,b,?_⟩
    ((repeat' refine Zi ?_ ?_)<;>first|exact Xq|exact (a9.out Agm)|exact Xs)
 ·have a8:j=vs.length:=Agm;subst a8;rw[Adu]at hB;have HB:Agt ((b= -1/\∀v∈vs,Dd q v=false)\/(b∈vs/\Dd q b=true)):=by
   rcases hB.out with⟨h1,-,h3⟩|h
   ·exact .inl ⟨h1,h3⟩
   ·exact .inr h
  repeat' first|refine Z1 ?_|refine Z8 fun ya J=>?_|refine Z4 ?_;clear J ya|refine Z2 ?_ ?_<;>intro h aj<;>try exact Xp|refine Z3 ?_|exact Zt|apply J.out;clear J ya
  first|exact⟨_,rfl,⟨b,rfl,HB.out⟩,hK⟩|exact⟨_,rfl,b,rfl,HB.out⟩
end Go.Proofs.YtmoeoppbmhfbpaaGreatDoorD
