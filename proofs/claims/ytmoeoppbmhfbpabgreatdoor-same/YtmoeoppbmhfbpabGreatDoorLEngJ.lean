import Derived.Test.YtmoeoppbmhfbpabGreatDoorLEngD
set_option maxHeartbeats 32000000
set_option maxRecDepth 100000
set_option linter.all false
namespace Go.Proofs.YtmoeoppbmhfbpabGreatDoorL
open Go.Abs
def Num (ar:Nat)(t:Bb):Prop:=∀i,i<ar->∃k:Nat,t[i]?=some (k:Int)/\k<1026
def QN (q:Qry):Prop:=∀p∈q.parts,∀t∈p.tups,Num p.a.ts.length t
def Gq (f:Nat->Bool):List AV:=(List.range 1026).map fun i=>sc (.bool (f i))
theorem jI:uB 1026 (.bool false)=Gq fun _=>false:=by
 unfold uB Gq;rw[List.map_const'];simp[cst1]
theorem nP (f:Nat->Bool):(Gq f).length=1026:=by simp[Gq]
theorem nQ (f:Nat->Bool){k:Nat}(h:k<1026):(Gq f)[k]?=some (sc (.bool (f k))):=by simp[Gq,h]
theorem nO (f:Nat->Bool){k:Nat}(h:k<1026)(b:Bool):(Gq f).set k (sc (.bool b))=Gq fun j=>if j=k then b else f j:=by
 apply Ahi;intro n;rw[Ag8];by_cases hn:n<1026
 ·by_cases he:k=n
  ·subst he;simp[Gq,hn]
  ·have:n≠k:=fun e=>he e.symm;simp[Gq,hn,he,this]
 ·have:k≠n:=Aj6;simp[Gq,hn,this]
def rE (pl:Int)(acc:List Int)(t:Bb):List Int:=if H4 t pl∈acc then acc else acc++[H4 t pl]
def Wu (tups:List Bb)(pl:Int):List Int:=tups.foldl (rE pl) []
def Lb (q:Qry)(v:Int):List Int:=match q.parts.find? (fun p=>A7 p.a.ts v)with
 |some p=>Wu p.tups (Iz p.a.ts v)
 |none=>[]
theorem tF {α:Type}{f:α->Bool}{l:List α}{i:Nat}{x:α}(hn:∀y∈l.take i,f y=false)(hi:l[i]?=some x)(hx:f x=true):l.find? f=some x:=by
 have aa:=(Agy.1 hi);obtain⟨h1,h2⟩:=aa
 conv=>lhs;rw[<-Aje i l]
 rw[List.find?_append,Ah1.2 (fun y hy=>by rw[hn y hy];simp),Ah0 h1,h2];simp[hx]
theorem Ky (q:Qry)(c:List AV)(v:Int)(hc:EQ q c)(hq:Ou q)(hN:QN q)(σ:St):ACalls Tryz.prog 189 [ag c,ic v] σ fun r σ'=>(∃id,r=sl id (Lb q v).length (Al (Lb q v)))/\Keep σ σ':=by
 obtain⟨ih,ip,inn,pc,nc,rfl,hP,-⟩:=hc;have hpl:=EL.length Ee hP;have hl:=hq.pl;have hz:=jI;refine Z9 53 [.tmp 4] Tryz.func189 ?_
 repeat' (first|refine Z1 ?_|(refine Z8 ?_;intro yb ya)|(refine Z4 ?_;clear ya yb)|refine Z3 ?_|exact Zt|(apply ya.out;clear ya yb))
 refine Af (fun m s σ'=>∃i:Nat,m=q.parts.length-i/\i<=q.parts.length/\s 1=ic v/\s 5=nilS/\s 6=ptr (σ.nobj+1) 0/\s 14=sl ip q.parts.length pc/\s 15=ic q.parts.length/\s 16=ic i/\Keep σ σ'/\σ.nobj+1<σ'.nobj/\σ'.obj (σ.nobj+1)=Gq (fun _=>false)/\Akc (∀p∈q.parts.take i,A7 p.a.ts v=false)) q.parts.length
  ⟨0,Aj6,Aj6,by simp[upd,initS],Aj8,Aj8,Aj8,Aj8,rfl,Xs,Aka,?_,by simp[Akc]⟩ ?_
 ·rw[Bs Aka Aka]
 rintro m s σ' ⟨i,rfl,hi,h1,h5,h6,bi,bh,bg,hK,a4,ao,hA⟩;have a3:=hK.nobj;by_cases aj:i<q.parts.length
 ·have aa:=Agz aj;obtain⟨id,idt,r,hd⟩:=E9 hP aa;have be:=hq.pa _ (Ain aj);have bd:=hq.pt _ (Ain aj);have aw:=hq.p3 _ (Ain aj);have a5:=hN _ (Ain aj);generalize q.parts[i]=w at hd aa be bd aw a5;have ba:w.a.ts.length<=1000:=Aj6;have an:=fun σ=>F9 w.a.p id w.a.ts v ba σ;have ay:Keep σ ((σ'.new [ic 0,nilS,nilS]).put σ'.nobj [ic w.a.p,sl id w.a.ts.length (Ac w.a.ts),sl idt w.tups.length (Dc w.tups)]):=(hK.new _).put hK.nobj _;cases hv:A7 w.a.ts v with
  |false=>
   have hp:Iz w.a.ts v= -1:=J1 (by simpa[A7]using hv);have HS:Akc (∀p∈q.parts.take (i+1),A7 p.a.ts v=false):=by
    rw[Akc,Ahd,aa,Ais];intro p hp;rcases Ah8.1 hp with hp|hp
    ·exact hA.out p hp
    ·simp at hp;subst hp;exact hv
   rw[hp]at an;clear hp aa hA
   repeat' (first|refine Z1 ?_|(refine Z8 ?_;intro yb ya)|(refine Z4 ?_;clear ya yb)|(refine Z2 ?_ ?_<;>intro h ab<;>try exact Xp)|(refine Z5 ?_;refine Xi (an _) ?_;rintro _ _ ⟨rfl,ad⟩;(have af:=ad.nobj;have ac:=ad.obj;have ax:=ay.trans ad;simp only[Ab,Aa]at af ac))|refine Z3 ?_|exact Zt|(apply ya.out;clear ya yb))
   refine⟨q.parts.length-(i+1),Aj6,i+1,?_⟩
   ((repeat' refine Zi ?_ ?_)<;>first|exact Xq|exact HS|exact Xs)
  |true=>
   obtain⟨pl,ap,au⟩:=J2 hv;have HR:Akc (Lb q v=Wu w.tups pl):=by rw[Akc,Lb,tF hA.out aa hv];simp only[au]
   rw[au]at an;clear au aa hA;have a8:pl<3:=Aj6;have a9:((pl:Int)== -1)=false:=by simp
   have bm:=E6 aw
   repeat' (first|refine Z1 ?_|(refine Z8 ?_;intro yb ya)|(refine Z4 ?_;clear ya yb)|(refine Z2 ?_ ?_<;>intro h ab<;>try exact Xp)|(refine Z5 ?_;refine Xi (an _) ?_;rintro _ _ ⟨rfl,ad⟩;(have af:=ad.nobj;have ac:=ad.obj;have ax:=ay.trans ad;simp only[Ab,Aa]at af ac))|refine Z3 ?_|exact Zt|(apply ya.out;clear ya yb))
   rename_i σ1;have o1:σ1.obj (σ.nobj+1)=Gq (fun _=>false):=by rw[ac _ Aj6,Ah Aj6,Ag Aj6,ao]
   clear ac ad
   refine Af (fun m s σ''=>∃(j i3:Nat) (vs:List Int) (f:Nat->Bool),m=w.tups.length-j/\j<=w.tups.length/\s 5=sl i3 vs.length (Al vs)/\s 6=ptr (σ.nobj+1) 0/\s 9=ic pl/\s 27=sl idt w.tups.length (Dc w.tups)/\s 28=ic w.tups.length/\s 29=ic j/\Keep σ σ''/\σ.nobj+1<σ''.nobj/\σ''.obj (σ.nobj+1)=Gq f/\Own σ σ'' i3 vs.length/\vs.length<=j/\Akc (vs=Wu (w.tups.take j) pl/\∀k:Nat,f k=true↔(k:Int)∈vs)) w.tups.length
    ⟨0,1,[],fun _=>false,Aj6,Aj6,by simp[upd, *,Al],Aj7,Aj8,Aj8,Aj8,rfl,ax,Aj6,o1,Own.nil _ _,by simp,by simp[Wu],by simp⟩ ?_
   clear o1 h1 h5 h6 bi bh bg hK a4 ao a3 ax ay;rintro m s σ'' ⟨j,i3,vs,f,rfl,hj,h5,h6,h9,bq,bp,bo,hK,a4,ao,hO,bl,hX⟩;have a3:=hK.nobj;have hil:=Bm vs;by_cases ai:j<w.tups.length
   ·have aa:=Agz ai;obtain⟨ah,r2,bc⟩:=Gi aw aa;obtain⟨x,am,hx⟩:=a5 _ (Ain ai) pl ap;generalize w.tups[j]=t at bc aa ah am;have bn:=Jr am;have HS:Akc (Wu (w.tups.take (j+1)) pl=if (x:Int)∈vs then vs else vs++[(x:Int)]):=by
     have a7:H4 t pl=(x:Int):=by simp[H4,am]
     rw[Akc,Ahd,aa,Ais,Wu,Aix,hX.out.1];simp only[Ag6,List.foldl_nil,rE,a7];rfl
    clear aa am;have f1:=Dr ah;have f2:=H9 ah;have f3:=D4 ah;have f4:=Hz ah;have f5:=Cn t;have f6:=Pw ah;have g1:=nQ f hx;have g2:=nO f hx true;have g3:=nP f;by_cases hm:(x:Int)∈vs
    ·have av:f x=true:=(hX.out.2 x).2 hm;have HX:Akc (vs=Wu (w.tups.take (j+1)) pl/\∀k:Nat,f k=true↔(k:Int)∈vs):=⟨by rw[HS.out,if_pos hm],hX.out.2⟩;rw[av]at g1;clear hX HS hm g2
     repeat' (first|refine Z1 ?_|(refine Z8 ?_;intro yb ya)|(refine Z4 ?_;clear ya yb)|(refine Z2 ?_ ?_<;>intro h ab<;>try exact Xp)|refine Z3 ?_|exact Zt|(apply ya.out;clear ya yb))
     refine⟨w.tups.length-(j+1),Aj6,j+1,i3,vs,f,?_⟩
     ((repeat' refine Zi ?_ ?_)<;>first|exact Xq|exact (Own.put (Own.new hO _) _ _)|exact HX|exact Xs)
    ·have av:f x=false:=by
      cases h:f x with
      |false=>rfl
      |true=>exact absurd ((hX.out.2 x).1 h) hm
     have HX:Akc (vs++[(x:Int)]=Wu (w.tups.take (j+1)) pl/\∀k:Nat,(if k=x then true else f k)=true↔(k:Int)∈vs++[(x:Int)]):=by
      refine⟨by rw[HS.out,if_neg hm],fun k=>?_⟩;have h2:=hX.out.2 k;by_cases e:k=x
      ·subst e;simp
      ·rw[if_neg e,h2];have:¬(k:Int)=(x:Int):=Aj6;simp[this]
     rw[av]at g1;clear hX HS hm
     repeat' (first|refine Z1 ?_|(refine Z8 ?_;intro yb ya)|(refine Z4 ?_;clear ya yb)|(refine Z2 ?_ ?_<;>intro h ab<;>try exact Xp)|refine Z3 ?_|exact Zt|(apply ya.out;clear ya yb))
     refine Bg (by first|exact Qm) (((hK.new _).put hK.nobj _).put Aj6 _) (Own.put (Own.put (Own.new hO _) _ _) _ _) (by decide) (by rfl) (by rw[hil,Nat.mul_one]) (by rfl) (by rfl) (by decide) Aj6 Aj6 ?_;intro idn σn a6 bf a0 ae az ak;simp only[Ab,Aa]at ae;refine Z3 ?_
     repeat' (first|refine Z1 ?_|(refine Z8 ?_;intro yb ya)|(refine Z4 ?_;clear ya yb)|(refine Z2 ?_ ?_<;>intro h ab<;>try exact Xp)|refine Z3 ?_|exact Zt|(apply ya.out;clear ya yb))
     refine⟨w.tups.length-(j+1),Aj6,j+1,idn,vs++[(x:Int)],fun k=>if k=x then true else f k,?_⟩
     ((repeat' refine Zi ?_ ?_)<;>first|exact Xq|exact (by simpa using a6)|exact HX|exact (by simp[Al])|exact Xs)
   ·have bb:j=w.tups.length:=Aj6;subst bb;obtain⟨x1,-⟩:=hX.out;rw[Ag7]at x1;rw[<-x1]at HR;have HR:=HR.out
    repeat' (first|refine Z1 ?_|(refine Z8 ?_;intro yb ya)|(refine Z4 ?_;clear ya yb)|(refine Z2 ?_ ?_<;>intro h ab<;>try exact Xp)|refine Z3 ?_|exact Zt|(apply ya.out;clear ya yb))
    first|exact⟨_,rfl,⟨i3,rfl⟩,hK⟩|exact⟨_,rfl,⟨i3,by rw[HR]⟩,hK⟩|exact⟨_,rfl,⟨i3,rfl⟩⟩|exact⟨_,rfl,i3,rfl⟩
 ·have hil:i=q.parts.length:=Aj6;subst hil;rw[Ag7]at hA;have HR:Lb q v=[]:=by
   unfold Lb;rw[Ah1.2 (fun p hp=>by rw[hA.out p hp];simp)]
  repeat' (first|refine Z1 ?_|(refine Z8 ?_;intro yb ya)|(refine Z4 ?_;clear ya yb)|(refine Z2 ?_ ?_<;>intro h ab<;>try exact Xp)|(refine Z6 ?_;intro idn σn a6 bf a0 ae az ak)|refine Z3 ?_|exact Zt|(apply ya.out;clear ya yb))
  first|exact⟨_,rfl,⟨1,rfl⟩,hK⟩|exact⟨_,rfl,⟨1,by rw[HR];rfl⟩,hK⟩|exact⟨_,rfl,1,rfl⟩|exact⟨_,rfl,1,by rw[HR];rfl⟩
theorem Hv {P:Program}{t:TypeId}{z b:Nat}{zc:List Value}{σ0 σ:St}{id id2 n m m':Nat}{xs ys:List AV}{K:AV->St->Prop}(ht:Nm P t=some (z,b,zc))(hK:Keep σ0 σ)(hO:Own σ0 σ id n)
  (hz:0<z) (hzc:zc.length=z) (hx:xs.length=n*z) (hy:ys.length=m*z) (hf:ys.all flat=true) (hm:0<m) (hb:(n+m)*b<=140737488355328) (hl:n+m<=1099511627776)
  (h:∀id' σ',Own σ0 σ' id' (n+m)->Keep σ0 σ'->σ'.obj=σ.obj->σ'.nobj=σ.nobj->σ'.ver=σ.ver->σ.ntop<σ'.ntop->(∀i k,Own σ0 σ i k->(id=1\/id≠i)->Own σ0 σ' i k/\(id'=1\/id'≠i))->K (sl id' (n+m) (xs++ys)) σ'):Ib P t t (sl id n xs) (sl id2 m ys) (σ.lay m') K:=by
 unfold Ib cZ;left;simp only[ht];rw[if_pos ⟨trivial,hz,hzc,hx,hy,hf,hm,hb,hl⟩];rcases hO with⟨rfl,rfl⟩|⟨k,rfl,h2,h3,h4,h5⟩
 ·have ab:xs=[]:=Ag5 (by simpa using hx);subst ab
  have:=h ((σ.lay m').ntop+2) ((σ.lay m').lay m) (by rw[Ahn];exact Own.made (hK.lay m') hm) ((hK.lay m').lay m) rfl rfl rfl (by simp[St.lay];omega) (fun i k ho _=>by
   refine⟨ho.keep (((Keep.refl _).lay _).lay _),?_⟩;right;rcases ho with⟨rfl,-⟩|⟨j,rfl,-,hj,-⟩
   ·simp[St.lay]
   ·simp[St.lay];omega)
  simpa using this
 ·have e1:(σ.lay m').top k=n:=by simp[St.lay];rw[if_neg Aj6];exact h4
  simp only;rw[if_pos ⟨e1,h5⟩]
  exact h (k+2) _ (.inr ⟨k,rfl,h2,by simp[St.raise,St.lay];omega,by simp[St.raise],Aj6⟩) ((hK.lay m').raise h2 _) rfl rfl rfl (by simp[St.raise,St.lay]) (fun i j ho aa=>by
   have aa:k+2≠i:=by rcases aa with h|h<;>omega
   refine⟨?_,.inr aa⟩;rcases ho with ho|⟨j',rfl,g1,g2,g3,g4⟩
   ·exact .inl ho
   ·exact .inr ⟨j',rfl,g1,by simp[St.raise,St.lay];omega,by simp[St.raise,St.lay];rw[if_neg Aj6,if_neg Aj6];exact g3,g4⟩)
def Ey (f:Nat->Nat):List AV:=(List.range 1026).map fun i=>ic (f i:Nat)
theorem gY:uB 1026 (.int .i64 0)=Ey fun _=>0:=by
 unfold uB Ey;rw[List.map_const'];simp[cst1]
theorem Ve (f:Nat->Nat):(Ey f).length=1026:=by simp[Ey]
theorem Vf (f:Nat->Nat){k:Nat}(h:k<1026):(Ey f)[k]?=some (ic (f k:Nat)):=by simp[Ey,h]
theorem mH (f:Nat->Nat){k:Nat}(h:k<1026)(b:Nat):(Ey f).set k (ic (b:Nat))=Ey fun j=>if j=k then b else f j:=by
 apply Ahi;intro n;rw[Ag8];by_cases hn:n<1026
 ·by_cases he:k=n
  ·subst he;simp[Ey,hn]
  ·have:n≠k:=fun e=>he e.symm;simp[Ey,hn,he,this]
 ·have:k≠n:=Aj6;simp[Ey,hn,this]
def occ (v:Int)(n:Int)(p:Part):Bool:=p.tups.any fun t=>H4 t (Iz p.a.ts v)==n
def Dw (l:List Part)(v n:Int):Bool:=l.all fun p=>!A7 p.a.ts v||occ v n p
def Gd (l:List Part)(v:Int)(p:Part):Part:=if A7 p.a.ts v=true then⟨p.a,p.tups.filter fun t=>Dw l v (H4 t (Iz p.a.ts v))⟩else p
def Fl (q:Qry)(v:Int):Qry:={q with parts:=q.parts.map (Gd q.parts v)}
def gF (f:Nat->Nat)(a:Nat)(pl:Int)(l:List Bb)(k:Nat):Nat:=if f k=a/\l.any (fun t=>H4 t pl==(k:Int))=true then a+1 else f k
theorem Ack {f:Nat->Nat}{a:Nat}{pl:Int}{l:List Bb}{t:Bb}{x:Nat}(ht:H4 t pl=(x:Int)):gF f a pl (l++[t])=fun k=>if k=x/\gF f a pl l x=a then a+1 else gF f a pl l k:=by
 funext k;have aa:(l++[t]).any (fun t=>H4 t pl==(k:Int))=(l.any (fun t=>H4 t pl==(k:Int))||decide (k=x)):=by
  rw[Aji];simp only[List.any_cons,List.any_nil,Bool.or_false,ht];congr 1;by_cases e:k=x
  ·subst e;simp
  ·have:¬(x:Int)=(k:Int):=Aj6;simp[e,this]
 unfold gF;rw[aa];by_cases e:k=x
 ·subst e;by_cases h1:f k=a
  ·cases h2:l.any (fun t=>H4 t pl==(k:Int))<;>simp[h1]
  ·simp[h1]
 ·simp[e]
theorem Aev (f:Nat->Nat)(a:Nat)(pl:Int):gF f a pl []=f:=by funext k;simp[gF]
theorem jC (q:Qry)(c:List AV)(v:Int)(hc:EQ q c)(hq:Ou q)(hN:QN q)(σ:St):ACalls Tryz.prog 255 [ag c,ic v] σ fun r σ'=>(∃c',r=ag c'/\EQ (Fl q v) c')/\Keep σ σ':=by
 obtain⟨ih,ip,inn,pc,nc,rfl,hP,cd⟩:=hc;have hpl:=EL.length Ee hP;have hl:=hq.pl;have hz:=gY;refine Z9 113 [.cell 4 191] Tryz.func255 ?_
 repeat' (first|refine Z1 ?_|(refine Z8 ?_;intro yb ya)|(refine Z4 ?_;clear ya yb)|refine Z3 ?_|exact Zt|(apply ya.out;clear ya yb))
 refine Af (fun m s σ'=>∃(i a:Nat) (f:Nat->Nat),m=q.parts.length-i/\i<=q.parts.length/\s 1=ic v/\s 2=ptr σ.nobj 0/\s 4=ptr (σ.nobj+1) 0/\s 5=ptr (σ.nobj+2) 0/\s 6=ic a/\s 20=sl ip q.parts.length pc/\s 21=ic q.parts.length/\s 22=ic i/\Keep σ σ'/\σ.nobj+2<σ'.nobj/\σ'.obj σ.nobj=[ic q.head.p,sl ih q.head.ts.length (Ac q.head.ts),sl ip q.parts.length pc,sl inn q.nots.length nc]/\σ'.obj (σ.nobj+1)=[ic 0,nilS,nilS,nilS]/\σ'.obj (σ.nobj+2)=Ey f/\a<=i/\(∀k,f k<=a)/\Akc (∀k,f k=a↔Dw (q.parts.take i) v (k:Int)=true)) q.parts.length
  ⟨0,0,fun _=>0,Aj6,Aj6,by simp[upd,initS],Aj8,Aj8,Aj8,Aj8,Aj8,Aj8,rfl,Xs,Aka,?_,?_,?_,Aj6,by simp,by simp[Akc,Dw]⟩ ?_
 ·rw[Ag Aka,Ag Aka,Ao]
 ·rw[Ag Aka,Bs Aka Aka]
 ·rw[Bs Aka Aka]
 rintro m s σ' ⟨i,a,f,rfl,hi,h1,h2,h4,h5,h6,bv,bu,br,hK,ay,a9,am,ak,cn,ba,hA⟩;have bw:=hK.nobj;by_cases af:i<q.parts.length
 ·have aa:=Agz af;obtain⟨id,idt,r,hd⟩:=E9 hP aa;have bn:=hq.pa _ (Ain af);have bm:=hq.pt _ (Ain af);have az:=hq.p3 _ (Ain af);have a5:=hN _ (Ain af);generalize q.parts[i]=w at hd aa bn bm az a5;have bh:w.a.ts.length<=1000:=Aj6;have ao:=fun σ=>F9 w.a.p id w.a.ts v bh σ;have a3:Keep σ ((σ'.new [ic 0,nilS,nilS]).put σ'.nobj [ic w.a.p,sl id w.a.ts.length (Ac w.a.ts),sl idt w.tups.length (Dc w.tups)]):=(hK.new _).put hK.nobj _;have bb:Akc (∀n,Dw (q.parts.take (i+1)) v n=(Dw (q.parts.take i) v n&&(!A7 w.a.ts v||occ v n w))):=by
   intro n;rw[Ahd,aa,Ais,Dw,List.all_append];simp[Dw]
  clear aa;cases hv:A7 w.a.ts v with
  |false=>
   have hp:Iz w.a.ts v= -1:=J1 (by simpa[A7]using hv);have HS:Akc (∀k,f k=a↔Dw (q.parts.take (i+1)) v (k:Int)=true):=by
    intro k;rw[bb.out,hv,hA.out k];simp
   rw[hp]at ao;clear hp hA bb
   repeat' (first|refine Z1 ?_|(refine Z8 ?_;intro yb ya)|(refine Z4 ?_;clear ya yb)|(refine Z2 ?_ ?_<;>intro h ac<;>try exact Xp)|(refine Z5 ?_;refine Xi (ao _) ?_;rintro _ _ ⟨rfl,ad⟩;(have ah:=ad.nobj;have ab:=ad.obj;have a0:=a3.trans ad;simp only[Ab,Aa]at ah ab))|refine Z3 ?_|exact Zt|(apply ya.out;clear ya yb))
   refine⟨q.parts.length-(i+1),Aj6,i+1,a,f,?_⟩
   ((repeat' refine Zi ?_ ?_)<;>first|exact Xq|exact HS|exact Xs)
  |true=>
   obtain⟨pl,aw,ax⟩:=J2 hv;have HS:Akc (∀k,gF f a pl w.tups k=a+1↔Dw (q.parts.take (i+1)) v (k:Int)=true):=by
    intro k;have h1:=hA.out k;have h2:=ba k;rw[bb.out,hv,Ag3,<-h1];simp only[Ahw,Bool.false_or,occ,ax];unfold gF;by_cases hc:f k=a/\w.tups.any (fun t=>H4 t pl==(k:Int))=true
    ·rw[if_pos hc];exact⟨fun _=>hc,fun _=>rfl⟩
    ·rw[if_neg hc];exact⟨fun h=>Aj6,fun h=>absurd h hc⟩
   have cg:Akc (∀k,gF f a pl w.tups k<=a+1):=by
    intro k;have h2:=ba k;unfold gF;split<;>omega
   rw[ax]at ao;clear ax hA bb;have be:pl<3:=Aj6;have bg:((pl:Int)== -1)=false:=by simp
   have b6:=E6 az
   repeat' (first|refine Z1 ?_|(refine Z8 ?_;intro yb ya)|(refine Z4 ?_;clear ya yb)|(refine Z2 ?_ ?_<;>intro h ac<;>try exact Xp)|(refine Z5 ?_;refine Xi (ao _) ?_;rintro _ _ ⟨rfl,ad⟩;(have ah:=ad.nobj;have ab:=ad.obj;have a0:=a3.trans ad;simp only[Ab,Aa]at ah ab))|refine Z3 ?_|exact Zt|(apply ya.out;clear ya yb))
   rename_i σ1;have p0:σ1.obj σ.nobj=[ic q.head.p,sl ih q.head.ts.length (Ac q.head.ts),sl ip q.parts.length pc,sl inn q.nots.length nc]:=by rw[ab _ Aj6,Ah Aj6,Ag Aj6,a9]
   have p1:σ1.obj (σ.nobj+1)=[ic 0,nilS,nilS,nilS]:=by rw[ab _ Aj6,Ah Aj6,Ag Aj6,am]
   have p2:σ1.obj (σ.nobj+2)=Ey f:=by rw[ab _ Aj6,Ah Aj6,Ag Aj6,ak]
   clear ab ad
   refine Af (fun m s σ''=>∃(j:Nat) (g:Nat->Nat),m=w.tups.length-j/\j<=w.tups.length/\s 1=ic v/\s 2=ptr σ.nobj 0/\s 4=ptr (σ.nobj+1) 0/\s 5=ptr (σ.nobj+2) 0/\s 6=ic a/\s 9=ic pl/\s 20=sl ip q.parts.length pc/\s 21=ic q.parts.length/\s 22=ic i/\s 33=sl idt w.tups.length (Dc w.tups)/\s 34=ic w.tups.length/\s 35=ic j/\Keep σ σ''/\σ.nobj+2<σ''.nobj/\σ''.obj σ.nobj=[ic q.head.p,sl ih q.head.ts.length (Ac q.head.ts),sl ip q.parts.length pc,sl inn q.nots.length nc]/\σ''.obj (σ.nobj+1)=[ic 0,nilS,nilS,nilS]/\σ''.obj (σ.nobj+2)=Ey g/\(∀k,g k<=a+1)/\Akc (g=gF f a pl (w.tups.take j))) w.tups.length
    ⟨0,f,Aj6,Aj6,Aj7,Aj7,Aj7,Aj7,Aj7,Aj8,Aj7,Aj7,Aj7,Aj8,Aj8,rfl,a0,Aj6,p0,p1,p2,fun k=>by have:=ba k;omega,by simp[Akc,Aev]⟩ ?_
   clear p0 p1 p2 h1 h2 h4 h5 h6 bv bu br hK ay a9 am ak bw a0 a3;rintro m s σ'' ⟨j,g,rfl,hj,h1,h2,h4,h5,h6,h9,bv,bu,br,cu,ct,cr,hK,ay,a9,am,ak,cb,hX⟩;have bw:=hK.nobj;by_cases ai:j<w.tups.length
   ·have aa:=Agz ai;obtain⟨ae,r2,bl⟩:=Gi az aa;obtain⟨x,an,hx⟩:=a5 _ (Ain ai) pl aw;generalize w.tups[j]=t at bl aa ae an;have ca:=Jr an;have HG:Akc (gF f a pl (w.tups.take (j+1))=fun k=>if k=x/\g x=a then a+1 else g k):=by
     have bd:H4 t pl=(x:Int):=by simp[H4,an]
     rw[Akc,Ahd,aa,Ais,Ack bd,hX.out]
    clear aa an hX;have f1:=Dr ae;have f2:=H9 ae;have f3:=D4 ae;have f4:=Hz ae;have f5:=Cn t;have f6:=Pw ae;have g1:=Vf g hx;have g2:=mH g hx (a+1);have g3:=Ve g;by_cases hm:g x=a
    ·have HX:Akc ((fun k=>if k=x then a+1 else g k)=gF f a pl (w.tups.take (j+1))):=by
      rw[Akc,HG.out];funext k;simp[hm]
     have hb:((g x:Int)==(a:Int))=true:=by simp[hm]
     rw[hm]at g1;have ap:((a+1:Nat):Int)=(a:Int)+1:=Aj6;rw[ap]at g2;clear ap HG
     repeat' (first|refine Z1 ?_|(refine Z8 ?_;intro yb ya)|(refine Z4 ?_;clear ya yb)|(refine Z2 ?_ ?_<;>intro h ac<;>try exact Xp)|refine Z3 ?_|exact Zt|(apply ya.out;clear ya yb))
     refine⟨w.tups.length-(j+1),Aj6,j+1,fun k=>if k=x then a+1 else g k,?_⟩
     ((repeat' refine Zi ?_ ?_)<;>first|exact Xq|exact HX|exact (fun k=>by have:=cb k;dsimp only;split<;>omega)|exact Xs)
    ·have HX:Akc (g=gF f a pl (w.tups.take (j+1))):=by
      rw[Akc,HG.out];funext k;simp[hm]
     have hb:((g x:Int)==(a:Int))=false:=by simp;omega
     clear HG hm g2
     repeat' (first|refine Z1 ?_|(refine Z8 ?_;intro yb ya)|(refine Z4 ?_;clear ya yb)|(refine Z2 ?_ ?_<;>intro h ac<;>try exact Xp)|refine Z3 ?_|exact Zt|(apply ya.out;clear ya yb))
     refine⟨w.tups.length-(j+1),Aj6,j+1,g,?_⟩
     ((repeat' refine Zi ?_ ?_)<;>first|exact Xq|exact HX|exact Xs)
   ·have bi:j=w.tups.length:=Aj6;subst bi;have hX:=hX.out;rw[Ag7]at hX;subst hX
    repeat' (first|refine Z1 ?_|(refine Z8 ?_;intro yb ya)|(refine Z4 ?_;clear ya yb)|(refine Z2 ?_ ?_<;>intro h ac<;>try exact Xp)|refine Z3 ?_|exact Zt|(apply ya.out;clear ya yb))
    refine⟨q.parts.length-(i+1),Aj6,i+1,a+1,gF f a pl w.tups,?_⟩
    ((repeat' refine Zi ?_ ?_)<;>first|exact Xq|exact HS|exact cg.out|exact Xs)
 ·have hil:i=q.parts.length:=Aj6;subst hil;rw[Ag7]at hA;clear hi
  repeat' (first|refine Z1 ?_|(refine Z8 ?_;intro yb ya)|(refine Z4 ?_;clear ya yb)|(refine Z2 ?_ ?_<;>intro h ac<;>try exact Xp)|refine Z3 ?_|exact Zt|(apply ya.out;clear ya yb))
  refine Af (fun m s σ2=>∃(k i3:Nat) (xs:List AV),m=q.parts.length-k/\k<=q.parts.length/\s 1=ic v/\s 4=ptr (σ.nobj+1) 0/\s 5=ptr (σ.nobj+2) 0/\s 6=ic a/\s 12=ptr σ'.nobj 0/\s 63=sl ip q.parts.length pc/\s 64=ic q.parts.length/\s 65=ic k/\Keep σ σ2/\σ'.nobj<σ2.nobj/\σ2.obj (σ.nobj+1)=[ic 0,nilS,nilS,nilS]/\σ2.obj (σ.nobj+2)=Ey f/\σ2.obj σ'.nobj=[ic q.head.p,sl ih q.head.ts.length (Ac q.head.ts),sl i3 k xs,sl inn q.nots.length nc]/\Own σ σ2 i3 k/\xs.length=k*3/\Akc (EL Mk ((q.parts.take k).map (Gd q.parts v)) xs)) q.parts.length
   ⟨0,1,[],Aj6,Aj6,Aj7,Aj7,Aj7,Aj7,Aj8,Aj8,Aj8,rfl,(hK.new _).put hK.nobj _,Akb,?_,?_,?_,Own.nil _ _,by simp,by simp[Akc,EL]⟩ ?_
  ·rw[Ah Aj6,Ag Aj6,am]
  ·rw[Ah Aj6,Ag Aj6,ak]
  ·rw[Aj]
  have cf:=ay;clear h1 h2 h4 h5 h6 bv bu br af a9 am ak ay hK;generalize bq:σ'.nobj=o12 at*
  clear bq;rintro m s σ2 ⟨k,i3,xs,rfl,hk,h1,h4,h5,h6,b3,b2,b1,b0,hK,ay,am,ak,bc,hO,cj,hX⟩;have ah:=hK.nobj;by_cases af:k<q.parts.length
  ·have aa:=Agz af;obtain⟨id,idt,r,hd⟩:=E9 hP aa;have bn:=hq.pa _ (Ain af);have bm:=hq.pt _ (Ain af);have az:=hq.p3 _ (Ain af);have a5:=hN _ (Ain af);generalize q.parts[k]=w at hd aa bn bm az a5;have bh:w.a.ts.length<=1000:=Aj6;have ao:=fun σ=>F9 w.a.p id w.a.ts v bh σ;have a3:Keep σ ((σ2.new [ic 0,nilS,nilS]).put σ2.nobj [ic w.a.p,sl id w.a.ts.length (Ac w.a.ts),sl idt w.tups.length (Dc w.tups)]):=(hK.new _).put hK.nobj _;have HM:Akc ((q.parts.take (k+1)).map (Gd q.parts v)=(q.parts.take k).map (Gd q.parts v)++[Gd q.parts v w]):=by
    rw[Akc,Ahd,aa];simp
   clear aa;cases hv:A7 w.a.ts v with
   |false=>
    have hp:Iz w.a.ts v= -1:=J1 (by simpa[A7]using hv);have HX:Akc (EL Mk ((q.parts.take (k+1)).map (Gd q.parts v)) (xs++[ic w.a.p,sl id w.a.ts.length (Ac w.a.ts),sl idt w.tups.length (Dc w.tups)])):=by
     rw[Akc,HM.out];refine EL.append hX.out (EL.single ?_);rw[Gd,if_neg (by rw[hv];simp)];exact⟨id,idt,rfl⟩
    rw[hp]at ao;clear hp HM hX
    repeat' (first|refine Z1 ?_|(refine Z8 ?_;intro yb ya)|(refine Z4 ?_;clear ya yb)|(refine Z2 ?_ ?_<;>intro h ac<;>try exact Xp)|(refine Z6 ?_;intro idn σn a6 a7 a4 aj a8 au)|(refine Z5 ?_;refine Xi (ao _) ?_;rintro _ _ ⟨rfl,ad⟩;(have av:=ad.nobj;have ab:=ad.obj;have a0:=a3.trans ad;have bo:=Own.keep (Own.put (Own.new hO _) _ _) ad;simp only[Ab,Aa]at av ab))|refine Z3 ?_|exact Zt|(apply ya.out;clear ya yb))
    refine⟨q.parts.length-(k+1),Aj6,k+1,idn,xs++[ic w.a.p,sl id w.a.ts.length (Ac w.a.ts),sl idt w.tups.length (Dc w.tups)],?_⟩
    ((repeat' refine Zi ?_ ?_)<;>first|exact Xq|exact (a7.put Aj6 _)|exact (Own.put a6 _ _)|exact HX|exact Xs)
   |true=>
    obtain⟨pl,aw,ax⟩:=J2 hv;have ch:Akc (Gd q.parts v w=⟨w.a,w.tups.filter fun t=>Dw q.parts v (H4 t pl)⟩):=by rw[Akc,Gd,if_pos hv,ax]
    rw[ax]at ao;clear ax;have be:pl<3:=Aj6;have bg:((pl:Int)== -1)=false:=by simp
    have b6:=E6 az;have cc:Akc _:=hX
    repeat' (first|refine Z1 ?_|(refine Z8 ?_;intro yb ya)|(refine Z4 ?_;clear ya yb)|(refine Z2 ?_ ?_<;>intro h ac<;>try exact Xp)|(refine Z5 ?_;refine Xi (ao _) ?_;rintro _ _ ⟨rfl,ad⟩;(have av:=ad.nobj;have ab:=ad.obj;have a0:=a3.trans ad;have bo:=Own.keep (Own.put (Own.new hO _) _ _) ad;simp only[Ab,Aa]at av ab))|refine Z3 ?_|exact Zt|(apply ya.out;clear ya yb))
    rename_i σ3;have p1:σ3.obj (σ.nobj+1)=[ic 0,nilS,nilS,nilS]:=by rw[ab _ Aj6,Ah Aj6,Ag Aj6,am]
    have p2:σ3.obj (σ.nobj+2)=Ey f:=by rw[ab _ Aj6,Ah Aj6,Ag Aj6,ak]
    have p3:σ3.obj o12=[ic q.head.p,sl ih q.head.ts.length (Ac q.head.ts),sl i3 k xs,sl inn q.nots.length nc]:=by rw[ab _ Aj6,Ah Aj6,Ag Aj6,bc]
    clear ab ad
    refine Af (fun m s σ4=>∃(j i5:Nat) (o:List Bb) (ys:List AV),m=w.tups.length-j/\j<=w.tups.length/\s 1=ic v/\s 4=ptr (σ.nobj+1) 0/\s 5=ptr (σ.nobj+2) 0/\s 6=ic a/\s 12=ptr o12 0/\s 15=ic pl/\s 16=ptr σ3.nobj 0/\s 63=sl ip q.parts.length pc/\s 64=ic q.parts.length/\s 65=ic k/\s 85=sl idt w.tups.length (Dc w.tups)/\s 86=ic w.tups.length/\s 87=ic j/\Keep σ σ4/\σ3.nobj<σ4.nobj/\σ4.obj (σ.nobj+1)=[ic 0,nilS,nilS,nilS]/\σ4.obj (σ.nobj+2)=Ey f/\σ4.obj o12=[ic q.head.p,sl ih q.head.ts.length (Ac q.head.ts),sl i3 k xs,sl inn q.nots.length nc]/\σ4.obj σ3.nobj=[ic w.a.p,sl id w.a.ts.length (Ac w.a.ts),sl i5 o.length ys]/\Own σ σ4 i3 k/\Own σ σ4 i5 o.length/\(i5=1\/i5≠i3)/\o.length<=j/\ys.length=o.length*3/\Akc (ys=Dc o/\o=(w.tups.take j).filter fun t=>Dw q.parts v (H4 t pl))) w.tups.length
     ⟨0,1,[],[],Aj6,Aj6,Aj7,Aj7,Aj7,Aj7,Aj7,Aj8,Aj8,Aj7,Aj7,Aj7,Aj8,Aj8,rfl,(a0.new _).put Aj6 _,Akb,?_,?_,?_,?_,Own.put (Own.new bo _) _ _,Own.nil _ _,.inl rfl,by simp,by simp,⟨rfl,by simp⟩⟩ ?_
    ·rw[Ah Aj6,Ag Aj6,p1]
    ·rw[Ah Aj6,Ag Aj6,p2]
    ·rw[Ah Aj6,Ag Aj6,p3]
    ·rw[Aj];simp
    have cx:o12<σ3.nobj:=Aj6;clear p1 p2 p3 h1 h4 h5 h6 b3 b2 b1 b0 hK ay am ak bc hO bo a0 a3 hX ah;rintro m s σ4 ⟨j,i5,o,ys,rfl,hj,h1,h4,h5,h6,b3,cw,cv,b2,b1,b0,cq,cp,co,hK,ay,am,ak,bc,ci,bz,hO,b8,ck,b5,hX⟩;have b4:=hK.nobj;by_cases ai:j<w.tups.length
    ·have aa:=Agz ai;obtain⟨ae,r2,bl⟩:=Gi az aa;obtain⟨x,an,hx⟩:=a5 _ (Ain ai) pl aw;generalize w.tups[j]=t at bl aa ae an;have ca:=Jr an;have HF:Akc ((w.tups.take (j+1)).filter (fun t=>Dw q.parts v (H4 t pl))=(w.tups.take j).filter (fun t=>Dw q.parts v (H4 t pl))++if f x=a then [t]else []):=by
      have bd:H4 t pl=(x:Int):=by simp[H4,an]
      rw[Akc,Ahd,aa,Ais,Dv,bd];congr 1;have h1:=hA.out x;by_cases e:f x=a
      ·rw[if_pos e,if_pos (h1.1 e)]
      ·rw[if_neg e,if_neg (fun h=>e (h1.2 h))]
     clear aa an;have f1:=Dr ae;have f2:=H9 ae;have f3:=D4 ae;have f4:=Hz ae;have f5:=Cn t;have f6:=Pw ae;have g1:=Vf f hx;have g3:=Ve f;have cm:=ba x;by_cases hm:f x=a
     ·have HX:Akc (ys++Al t=Dc (o++[t])/\o++[t]=(w.tups.take (j+1)).filter fun t=>Dw q.parts v (H4 t pl)):=by
       obtain⟨x1,x2⟩:=hX.out;exact⟨by rw[x1,Lp],by rw[HF.out,if_pos hm,x2]⟩
      have hb:((f x:Int)==(a:Int))=true:=by simp[hm]
      clear hX HF hm
      repeat' (first|refine Z1 ?_|(refine Z8 ?_;intro yb ya)|(refine Z4 ?_;clear ya yb)|(refine Z2 ?_ ?_<;>intro h ac<;>try exact Xp)|refine Z3 ?_|exact Zt)
      refine Hv (by first|exact Fw|exact D2) ((hK.new _).put hK.nobj _) (Own.put (Own.new hO _) _ _) (by decide) (by rfl) b5 (by rw[f1]) f5 (by decide) Aj6 Aj6 ?_;intro idn σn a6 a7 a4 aj a8 au bf;obtain⟨bp,b7⟩:=bf i3 k (Own.put (Own.new bz _) _ _) b8;simp only[Ab,Aa]at aj;have eob:∀p,p<σ4.nobj->σn.obj p=σ4.obj p:=fun p hp=>by rw[a4,Ah Aj6,Ag Aj6]
      refine Z3 ?_
      repeat' (first|refine Z1 ?_|(refine Z8 ?_;intro yb ya)|(refine Z4 ?_;clear ya yb)|refine Z3 ?_|exact Zt|(apply ya.out;clear ya yb))
      refine⟨w.tups.length-(j+1),Aj6,j+1,idn,o++[t],ys++Al t,?_⟩
      ((repeat' refine Zi ?_ ?_)<;>first|exact Xq|exact (a7.put Aj6 _)|exact (by simpa using Own.put a6 _ _)|exact (Own.put bp _ _)|exact HX|exact Xs)
     ·have HX:Akc (ys=Dc o/\o=(w.tups.take (j+1)).filter fun t=>Dw q.parts v (H4 t pl)):=by
       obtain⟨x1,x2⟩:=hX.out;exact⟨x1,by rw[HF.out,if_neg hm,x2,Ahh]⟩
      have hb:((f x:Int)==(a:Int))=false:=by simp;omega
      clear hX HF hm
      repeat' (first|refine Z1 ?_|(refine Z8 ?_;intro yb ya)|(refine Z4 ?_;clear ya yb)|(refine Z2 ?_ ?_<;>intro h ac<;>try exact Xp)|refine Z3 ?_|exact Zt|(apply ya.out;clear ya yb))
      refine⟨w.tups.length-(j+1),Aj6,j+1,i5,o,ys,?_⟩
      ((repeat' refine Zi ?_ ?_)<;>first|exact Xq|exact (Own.put (Own.new hO _) _ _)|exact (Own.put (Own.new bz _) _ _)|exact HX|exact Xs)
    ·have bi:j=w.tups.length:=Aj6;subst bi;obtain⟨x1,x2⟩:=hX.out;rw[Ag7]at x2;have HX:Akc (EL Mk ((q.parts.take (k+1)).map (Gd q.parts v)) (xs++[ic w.a.p,sl id w.a.ts.length (Ac w.a.ts),sl i5 o.length ys])):=by
      rw[Akc,HM.out];refine EL.append cc.out (EL.single ?_);rw[ch.out,<-x2];exact⟨id,i5,by rw[x1]⟩
     clear hX x1 x2
     repeat' (first|refine Z1 ?_|(refine Z8 ?_;intro yb ya)|(refine Z4 ?_;clear ya yb)|(refine Z2 ?_ ?_<;>intro h ac<;>try exact Xp)|(refine Z6 ?_;intro idn σn a6 a7 a4 aj a8 au)|refine Z3 ?_|exact Zt|(apply ya.out;clear ya yb))
     refine⟨q.parts.length-(k+1),Aj6,k+1,idn,xs++[ic w.a.p,sl id w.a.ts.length (Ac w.a.ts),sl i5 o.length ys],?_⟩
     ((repeat' refine Zi ?_ ?_)<;>first|exact Xq|exact (a7.put Aj6 _)|exact (Own.put a6 _ _)|exact HX|exact Xs)
  ·have b9:k=q.parts.length:=Aj6;subst b9;rw[Ag7]at hX;have ce:(q.parts.map (Gd q.parts v)).length=q.parts.length:=by rw[Ai1]
   repeat' (first|refine Z1 ?_|(refine Z8 ?_;intro yb ya)|(refine Z4 ?_;clear ya yb)|(refine Z2 ?_ ?_<;>intro h ac<;>try exact Xp)|refine Z3 ?_|exact Zt|(apply ya.out;clear ya yb))
   exact⟨_,rfl,⟨_,rfl,ih,i3,inn,xs,nc,by simp only[Fl];rw[ce],hX.out,cd⟩,hK.put Aj6 _⟩
inductive NarS (q:Qry):Qry->Prop where
 |refl:NarS q q
 |tail {q':Qry} (v:Int):NarS q q'->NarS q (Fl q' v)
theorem Qy (l:List Part)(v:Int)(p:Part):(Gd l v p).a=p.a:=by unfold Gd;split<;>rfl
theorem Po (l:List Part)(v:Int)(p:Part):∀t∈(Gd l v p).tups,t∈p.tups:=by
 unfold Gd;split
 ·intro t ht;exact (Ai7.1 ht).1
 ·exact fun t ht=>ht
theorem gZ (l:List Part)(v:Int)(p:Part):(Gd l v p).tups.length<=p.tups.length:=by
 unfold Gd;split
 ·exact Ai6 _ _
 ·exact Agn _
theorem xX {q:Qry}{v:Int}(h:Ou q):Ou (Fl q v):=by
 have hm:∀p∈(Fl q v).parts,∃p0∈q.parts,Gd q.parts v p0=p:=fun p hp=>Aib.1 hp;refine⟨h.hd,by simp[Fl];exact h.pl,h.nl,fun p hp=>?_,fun p hp=>?_,fun p hp=>?_,h.na⟩
 ·obtain⟨p0,h0,rfl⟩:=hm p hp;rw[Qy];exact h.pa p0 h0
 ·obtain⟨p0,h0,rfl⟩:=hm p hp;exact Ago (gZ _ _ _) (h.pt p0 h0)
 ·obtain⟨p0,h0,rfl⟩:=hm p hp;exact fun t ht=>h.p3 p0 h0 t (Po _ _ _ t ht)
theorem Ab3 {q:Qry}{v:Int}(h:QN q):QN (Fl q v):=fun p hp t ht=>by
 obtain⟨p0,h0,rfl⟩:=Aib.1 hp;rw[Qy];exact h p0 h0 t (Po _ _ _ t ht)
theorem NarS.ok {q q':Qry}(h:NarS q q')(hq:Ou q):Ou q':=by
 induction h with
 |refl=>exact hq
 |tail v _ ih=>exact xX ih
theorem NarS.n {q q':Qry}(h:NarS q q')(hq:QN q):QN q':=by
 induction h with
 |refl=>exact hq
 |tail v _ ih=>exact Ab3 ih
def Qs (q:Qry)(v:Int):Qry:=if 1<C7 (q.parts.map (·.a)) v then Fl q v else q
def kL (q:Qry)(vs:List Int):Qry:=vs.foldl Qs q
theorem fG {q:Qry}(h:Ou q):Cq q.parts<=320000:=by
 have h1:=h.pl;have h2:=h.pt;have:∀l:List Part,(∀p∈l,p.tups.length<=5000)->Cq l<=l.length*5000:=by
  intro l;induction l with
  |nil=>intro _;simp[Cq]
  |cons a l ih=>
   intro h;have h3:=h a (by simp);have h4:=ih (fun p hp=>h p (by simp[hp]));simp only[Cq,Ahj,List.sum_cons,Ahy]at*
   omega
 have h5:=this q.parts h2;omega
theorem tK (q:Qry)(c:List AV)(hc:EQ q c)(hq:Ou q)(hN:QN q)(σ:St):ACalls Tryz.prog 220 [ag c] σ fun r σ'=>(∃c' q' qp,r=ag c'/\EQ q' c'/\NarS q qp/\NarS q q'/\q'=kL qp (Cb (atomsQ qp))/\Cq qp.parts<=Cq q'.parts)/\Keep σ σ':=by
 have hS:=fun σ=>Vq q c hc hq σ;have bd:=fG hq;have HC:Akc (EQ q c):=hc;obtain⟨ih0,ip0,in0,pc0,nc0,rfl,-,-⟩:=hc;refine Z9 32 [.cell 2 191] Tryz.func220 ?_
 repeat' (first|refine Z1 ?_|(refine Z8 ?_;intro yb ya)|(refine Z4 ?_;clear ya yb)|(refine Z5 ?_;refine Xi (hS _) ?_;rintro _ _ ⟨rfl,ad⟩;(have ac:=ad.nobj;have aa:=ad.obj;have ab:=(((Keep.refl σ).new _).new _).trans ad;simp only[Aa]at ac aa))|refine Z3 ?_|exact Zt|(apply ya.out;clear ya yb))
 rename_i σ1;have o0:σ1.obj σ.nobj=[ic q.head.p,sl ih0 q.head.ts.length (Ac q.head.ts),sl ip0 q.parts.length pc0,sl in0 q.nots.length nc0]:=by rw[aa _ Aj6,Ag Aka,Ao]
 have o1:σ1.obj (σ.nobj+1)=[ic 0,nilS,nilS,nilS]:=by rw[aa _ Aj6,Bs Aka Aka]
 clear aa ad
 refine Af (fun m s σ'=>∃(qk:Qry) (ck:List AV),s 1=ptr σ.nobj 0/\s 2=ptr (σ.nobj+1) 0/\s 3=ic m/\m<=320001/\Keep σ σ'/\σ.nobj+1<σ'.nobj/\σ'.obj σ.nobj=ck/\σ'.obj (σ.nobj+1)=[ic 0,nilS,nilS,nilS]/\Akc (EQ qk ck/\NarS q qk/\(Cq qk.parts<m\/∃qp,NarS q qp/\qk=kL qp (Cb (atomsQ qp))/\Cq qp.parts=m))) (Cq q.parts+1)
  ⟨q,_,Aj8,Aj8,Aj8,Aj6,ab,Aj6,o0,o1,HC.out,.refl,.inl Aj6⟩ ?_
 clear o0 o1 ab ac hS bd HC;rintro m s σ' ⟨qk,ck,h1,h2,h3,hm,hK,be,ax,aw,hQ⟩;have bz:=hK.nobj;have ah:=hQ.out.2.1.ok hq;have bf:=hQ.out.2.1.n hN;have hS:=fun σ=>Vq qk ck hQ.out.1 ah σ;have bg:=fun σ=>Jk qk ck hQ.out.1 ah σ;have bd:=fG ah;obtain⟨ihk,ipk,ink,pck,nck,rfl,-,-⟩:=hQ.out.1;have bb:=Mg ah;have b1:=I6 ah;have a7:=fun (cs:List AV) (i:Nat) (hE:EL Mm (atomsQ qk) cs) (σ:St)=>Hb (atomsQ qk) cs i hE bb Aj6 σ;have bm:=E4 bb;have b5:Akc (Ou qk/\QN qk):=⟨ah,bf⟩;by_cases bo:Cq qk.parts<m
 ·generalize bc:Cb (atomsQ qk)=vs at a7 bm;have bv:Akc _:=bc;clear bc bb bf ah;generalize a4:Cq qk.parts=sz at*
  have bw:Akc _:=a4;clear a4
  repeat' (first|refine Z1 ?_|(refine Z8 ?_;intro yb ya)|(refine Z4 ?_;clear ya yb)|(refine Z2 ?_ ?_<;>intro h af<;>try exact Xp)|(refine Z5 ?_;first|(refine Xi (hS _) ?_;rintro _ _ ⟨rfl,ad⟩;(have ac:=ad.nobj;have aa:=ad.obj;have ab:=hK.trans ad;clear hK ad;have hK:=ab;clear ab))|(refine Xi (bg _) ?_;rintro _ _ ⟨ida,cs,rfl,hE,av⟩;(have a3:=av.nobj;have an:=av.obj;have ab:=hK.trans av;clear av hK;have hK:=ab;clear ab;have ao:=a7 cs ida hE))|(refine Xi (ao _) ?_;rintro _ _ ⟨⟨idv,rfl⟩,au⟩;(have a0:=au.nobj;have am:=au.obj;have ab:=hK.trans au;clear au hK;have hK:=ab;clear ab)))|refine Z3 ?_|exact Zt|(apply ya.out;clear ya yb))
  rename_i σa kno2a kob2a σb σc σd;have b0:=Bm vs;have ech:∀p,p<σ'.nobj->σd.obj p=σ'.obj p:=fun p hp=>by rw[am _ Aj6,an _ Aj6,aa _ Aj6,kob2a _ Aj6]
  refine Af (fun m' s σ2=>∃(j:Nat) (qj:Qry) (cj:List AV),m'=vs.length-j/\j<=vs.length/\s 1=ptr σ.nobj 0/\s 2=ptr (σ.nobj+1) 0/\s 3=ic sz/\s 17=sl idv vs.length (Al vs)/\s 18=ic vs.length/\s 19=ic j/\Keep σ σ2/\σ.nobj+1<σ2.nobj/\σ2.obj σ.nobj=cj/\σ2.obj (σ.nobj+1)=[ic 0,nilS,nilS,nilS]/\Akc (EQ qj cj/\NarS q qj/\qj=kL qk (vs.take j))) vs.length
   ⟨0,qk,_,Aj6,Aj6,Aj7,Aj7,Aj7,Aj8,Aj8,rfl,hK,Aj6,rfl,by rw[ech _ Aj6,aw],by rw[ech _ Aj6,ax];exact hQ.out.1,hQ.out.2.1,by simp[kL]⟩ ?_
  clear ech am an aa kob2a hK ax aw h1 h2 h3 be hS bg a7 ao hE a0 a3 ac kno2a;rintro m' s σ2 ⟨j,qj,cj,rfl,hj,h1,h2,h3,b4,b3,b2,hK,be,ax,aw,hJ⟩;have ac:=hK.nobj;have a5:=hJ.out.2.1.ok hq;have bn:=hJ.out.2.1.n hN;have ak:=fun v σ=>La qj cj v hJ.out.1 a5 σ;have a8:=fun v σ=>jC qj cj v hJ.out.1 a5 bn σ;have ap:∀v,C7 (qj.parts.map (·.a)) v<=64:=fun v=>by
   have h1:=qL (qj.parts.map (·.a)) v;have h2:=a5.pl;simp at h1;omega
  have bh:Akc (EQ qj cj):=hJ.out.1;obtain⟨ihj,ipj,inj,pcj,ncj,rfl,-,-⟩:=hJ.out.1;by_cases a6:j<vs.length
  ·have ae:=Agz a6;obtain⟨r,hd⟩:=Dl ae;generalize vs[j]=v at hd ae;have HR:Akc (kL qk (vs.take (j+1))=Qs qj v):=by
    rw[Akc,Ahd,ae,Ais,kL,Aix,hJ.out.2.2];rfl
   clear ae;have ak:=ak v;have a8:=a8 v;have ap:=ap v;by_cases aj:1<C7 (qj.parts.map (·.a)) v
   ·have HR:Akc (kL qk (vs.take (j+1))=Fl qj v):=by rw[Akc,HR.out,Qs,if_pos aj]
    generalize C7 (qj.parts.map (·.a)) v=cn at ak aj ap;have hb:decide ((cn:Int)>1)=true:=by simp;omega
    clear aj
    repeat' (first|refine Z1 ?_|(refine Z8 ?_;intro yb ya)|(refine Z4 ?_;clear ya yb)|(refine Z2 ?_ ?_<;>intro h af<;>try exact Xp)|(refine Z5 ?_;first|(refine Xi (ak _) ?_;rintro _ _ ⟨rfl,ai⟩;(have az:=ai.nobj;have ay:=ai.obj;have ab:=hK.trans ai))|(refine Xi (a8 _) ?_;rintro _ _ ⟨⟨_,rfl,ih6,ip6,in6,pc6,nc6,rfl,bq,br⟩,a9⟩;(have bl:=a9.nobj;have bi:=a9.obj;have bu:=ab.trans a9)))|refine Z3 ?_|exact Zt|(apply ya.out;clear ya yb))
    refine⟨vs.length-(j+1),Aj6,j+1,Fl qj v,[ic (Fl qj v).head.p,sl ih6 (Fl qj v).head.ts.length (Ac (Fl qj v).head.ts),sl ip6 (Fl qj v).parts.length pc6,sl in6 (Fl qj v).nots.length nc6],?_⟩
    ((repeat' refine Zi ?_ ?_)<;>first|exact Xq|exact (bu.put Aj6 _)|exact (⟨⟨ih6,ip6,in6,pc6,nc6,rfl,bq,br⟩,.tail v hJ.out.2.1,HR.out.symm⟩)|exact Xs)
   ·have HR:Akc (kL qk (vs.take (j+1))=qj):=by rw[Akc,HR.out,Qs,if_neg aj]
    generalize C7 (qj.parts.map (·.a)) v=cn at ak aj ap;have hb:decide ((cn:Int)>1)=false:=by simp;omega
    clear aj
    repeat' (first|refine Z1 ?_|(refine Z8 ?_;intro yb ya)|(refine Z4 ?_;clear ya yb)|(refine Z2 ?_ ?_<;>intro h af<;>try exact Xp)|(refine Z5 ?_;refine Xi (ak _) ?_;rintro _ _ ⟨rfl,ai⟩;(have az:=ai.nobj;have ay:=ai.obj;have ab:=hK.trans ai))|refine Z3 ?_|exact Zt|(apply ya.out;clear ya yb))
    refine⟨vs.length-(j+1),Aj6,j+1,qj,[ic qj.head.p,sl ihj qj.head.ts.length (Ac qj.head.ts),sl ipj qj.parts.length pcj,sl inj qj.nots.length ncj],?_⟩
    ((repeat' refine Zi ?_ ?_)<;>first|exact Xq|exact (⟨bh.out,hJ.out.2.1,HR.out.symm⟩)|exact Xs)
  ·have bp:j=vs.length:=Aj6;subst bp;have ba:=hJ.out.2.2;rw[Ag7]at ba
   have HF:Akc (EQ qj [ic qj.head.p,sl ihj qj.head.ts.length (Ac qj.head.ts),sl ipj qj.parts.length pcj,sl inj qj.nots.length ncj]/\NarS q qj/\(Cq qj.parts<sz\/∃qp,NarS q qp/\qj=kL qp (Cb (atomsQ qp))/\Cq qp.parts=sz)):=
    ⟨bh.out,hJ.out.2.1,.inr ⟨qk,hQ.out.2.1,by rw[bv.out];exact ba,bw.out⟩⟩
   clear ba
   repeat' (first|refine Z1 ?_|(refine Z8 ?_;intro yb ya)|(refine Z4 ?_;clear ya yb)|(refine Z2 ?_ ?_<;>intro h af<;>try exact Xp)|refine Z3 ?_|exact Zt|(apply ya.out;clear ya yb))
   refine⟨sz,Aj6,qj,[ic qj.head.p,sl ihj qj.head.ts.length (Ac qj.head.ts),sl ipj qj.parts.length pcj,sl inj qj.nots.length ncj],?_⟩
   ((repeat' refine Zi ?_ ?_)<;>first|exact Xq|exact HF|exact Xs)
 ·have hR:∃qp,NarS q qp/\qk=kL qp (Cb (atomsQ qp))/\Cq qp.parts<=Cq qk.parts:=by
   rcases hQ.out.2.2 with h|⟨qp,h1,h2,h3⟩
   ·exact absurd h bo
   ·exact⟨qp,h1,h2,Aj6⟩
  have HR:Akc _:=hR;clear hR;generalize a4:Cq qk.parts=sz at*
  repeat' (first|refine Z1 ?_|(refine Z8 ?_;intro yb ya)|(refine Z4 ?_;clear ya yb)|(refine Z2 ?_ ?_<;>intro h af<;>try exact Xp)|(refine Z5 ?_;refine Xi (hS _) ?_;rintro _ _ ⟨rfl,ad⟩;(have ac:=ad.nobj;have aa:=ad.obj;have ab:=hK.trans ad))|refine Z3 ?_|exact Zt|(apply ya.out;clear ya yb))
  obtain⟨qp,r1,r2,r3⟩:=HR.out;exact⟨_,rfl,⟨_,qk,qp,rfl,hQ.out.1,r1,hQ.out.2.1,r2,Aj6⟩,ab.put Aj6 _⟩
theorem Vd:∀{l m:List Int},l.Nodup->(∀x∈l,x∈m)->l.length<=m.length
 |[],m,_,_=>by simp
 |a::l,m,hn,hs=>by
  have aa:=Aiy.1 hn;have ha:=hs a (by simp)
  have h1:=Vd (l:=l) (m:=m.erase a) aa.2 (fun x hx=>by
   have ab:x≠a:=fun e=>aa.1 (e ▸ hx)
   exact (Aiz ab).2 (hs x (by simp[hx])))
  rw[List.length_erase_of_mem ha]at h1;have:0<m.length:=List.length_pos_of_mem ha;simp only[Ahy];omega
theorem Ti:∀(l:List Bb) (pl:Int) (acc:List Int),acc.Nodup->(l.foldl (rE pl) acc).Nodup
 |[],pl,acc,h=>h
 |t::l,pl,acc,h=>by
  rw[Ag6];apply Ti;unfold rE;split
  ·exact h
  ·rename_i hc;rw[Ajf];exact⟨h,by simp,fun a ha b hb=>by simp at hb;subst hb;rintro rfl;exact hc ha⟩
theorem Tj:∀(l:List Bb) (pl:Int) (acc:List Int) (n:Int),n∈l.foldl (rE pl) acc↔n∈acc\/∃t∈l,H4 t pl=n
 |[],pl,acc,n=>by simp
 |t::l,pl,acc,n=>by
  rw[Ag6,Tj];unfold rE;by_cases hc:H4 t pl∈acc
  ·rw[if_pos hc];constructor
   ·rintro (h|⟨u,hu,e⟩)
    ·exact .inl h
    ·exact .inr ⟨u,by simp[hu],e⟩
   ·rintro (h|⟨u,hu,e⟩)
    ·exact .inl h
    ·rcases Ah2.1 hu with rfl|hu
     ·exact .inl (e ▸ hc)
     ·exact .inr ⟨u,hu,e⟩
  ·rw[if_neg hc];constructor
   ·rintro (h|⟨u,hu,e⟩)
    ·rcases Ah8.1 h with h|h
     ·exact .inl h
     ·simp at h;exact .inr ⟨t,by simp,h.symm⟩
    ·exact .inr ⟨u,by simp[hu],e⟩
   ·rintro (h|⟨u,hu,e⟩)
    ·exact .inl (Ah8.2 (.inl h))
    ·rcases Ah2.1 hu with rfl|hu
     ·exact .inl (Ah8.2 (.inr (by simp[e])))
     ·exact .inr ⟨u,hu,e⟩
theorem Tk {q:Qry}(hN:QN q)(v:Int):(Lb q v).length<=1026:=by
 have hr:((List.range 1026).map fun k:Nat=>(k:Int)).length=1026:=by simp
 rw[<-hr];unfold Lb;split
 ·rename_i p hp;have ab:=Aip hp;have aa:A7 p.a.ts v=true:=by simpa using List.find?_some hp
  obtain⟨pl,hpl,ac⟩:=J2 aa;rw[ac];apply Vd (Ti _ _ _ Ai0);intro n hn;unfold Wu at hn;rw[Tj]at hn;rcases hn with h|⟨t,ht,e⟩
  ·cases h
  ·obtain⟨x,hx,ad⟩:=hN p ab t ht pl hpl;rw[Aib];exact⟨x,by simpa using ad,by rw[<-e];simp[H4,hx]⟩
 ·simp
def QV (q:Qry):Prop:=∀a∈atomsQ q,∀v,(true,v)∈a.ts->0<=v
theorem cO (q:Qry)(c:List AV)(hc:EQ q c)(hq:Ou q)(hN:QN q)(hV:QV q)(σ:St):ACalls Tryz.prog 222 [ag c] σ fun r σ'=>(∃b,r=ic b/\((b= -1/\∀v∈Cb (atomsQ q),C5 q v=false)\/(b∈Cb (atomsQ q)/\C5 q b=true)))/\Keep σ σ':=by
 have a4:=fun σ=>Jk q c hc hq σ;have af:=fun v σ=>Pz q c v hc hq σ;have aw:=fun v σ=>Ky q c v hc hq hN σ;have az:=fun v=>Tk hN v;have a5:=Mg hq;have bi:=I6 hq;have a3:=fun (cs:List AV) (i:Nat) (hE:EL Mm (atomsQ q) cs) (σ:St)=>Hb (atomsQ q) cs i hE a5 Aj6 σ;have bd:=E4 a5;obtain⟨ih,ip,inn,pc,nc,rfl,-,-⟩:=hc;generalize Cb (atomsQ q)=vs at*
 have be:=Bm vs;refine Z9 31 [.tmp 2] Tryz.func222 ?_
 repeat' (first|refine Z1 ?_|(refine Z8 ?_;intro yb ya)|(refine Z4 ?_;clear ya yb)|(refine Z5 ?_;first|(refine Xi (a4 _) ?_;rintro _ _ ⟨ida,cs,rfl,hE,ao⟩;(have ai:=ao.nobj;have ab:=ao.obj;have hK:=((Keep.refl σ).new _).trans ao;have ak:=a3 cs ida hE;simp only[Aa]at ai ab))|(refine Xi (ak _) ?_;rintro _ _ ⟨⟨idv,rfl⟩,an⟩;(have av:=an.nobj;have ah:=an.obj;have am:=hK.trans an;clear an hK;have hK:=am;clear am)))|refine Z3 ?_|exact Zt|(apply ya.out;clear ya yb))
 rename_i σa σb;have o0:σb.obj σ.nobj=[ic q.head.p,sl ih q.head.ts.length (Ac q.head.ts),sl ip q.parts.length pc,sl inn q.nots.length nc]:=by rw[ah _ Aj6,ab _ Aj6,Ao]
 clear ab ah a4 a3 ak hE ao
 refine Af (fun m s σ'=>∃(j w:Nat) (b:Int),m=vs.length-j/\j<=vs.length/\s 1=ptr σ.nobj 0/\s 3=ic b/\s 4=ic w/\s 10=sl idv vs.length (Al vs)/\s 11=ic vs.length/\s 12=ic j/\Keep σ σ'/\σ.nobj<σ'.nobj/\σ'.obj σ.nobj=[ic q.head.p,sl ih q.head.ts.length (Ac q.head.ts),sl ip q.parts.length pc,sl inn q.nots.length nc]/\w<=1027/\Akc ((b= -1/\w=1027/\∀v∈vs.take j,C5 q v=false)\/(b∈vs/\C5 q b=true))) vs.length
  ⟨0,1027,-1,Aj6,Aj6,Aj8,Aj8,Aj8,Aj8,Aj8,rfl,hK,Aj6,o0,Aj6,.inl ⟨rfl,rfl,by simp⟩⟩ ?_
 clear hK o0 ai av;rintro m s σ' ⟨j,w,b,rfl,hj,h1,h3,h4,bn,bm,bl,hK,bg,bb,hw,hB⟩;have bc:=hK.nobj;by_cases a0:j<vs.length
 ·have aa:=Agz a0;obtain⟨r,hd⟩:=Dl aa;have ac:=Ain a0;generalize vs[j]=v at hd aa ac;have af:=af v;have aw:=aw v;have az:=az v
  have HM:Akc (v∈vs/\∀u∈vs.take (j+1),u∈vs.take j\/u=v):=⟨ac,fun u hu=>by
   rw[Ahd,aa,Ais]at hu;rcases Ah8.1 hu with h|h
   ·exact .inl h
   ·simp at h;exact .inr h⟩
  clear aa ac;cases ae:C5 q v with
  |false=>
   rw[ae]at af;have HB:Akc ((b= -1/\w=1027/\∀v∈vs.take (j+1),C5 q v=false)\/(b∈vs/\C5 q b=true)):=by
    rcases hB.out with⟨h1,h2,h3⟩|h
    ·refine .inl ⟨h1,h2,fun u hu=>?_⟩;rcases HM.out.2 u hu with h|rfl
     ·exact h3 u h
     ·exact ae
    ·exact .inr h
   clear hB HM ae
   repeat' (first|refine Z1 ?_|(refine Z8 ?_;intro yb ya)|(refine Z4 ?_;clear ya yb)|(refine Z2 ?_ ?_<;>intro h aj<;>try exact Xp)|(refine Z5 ?_;refine Xi (af _) ?_;rintro _ _ ⟨rfl,ad⟩;(have au:=ad.nobj;have ap:=ad.obj;have am:=hK.trans ad))|refine Z3 ?_|exact Zt|(apply ya.out;clear ya yb))
   refine⟨vs.length-(j+1),Aj6,j+1,w,b,?_⟩
   ((repeat' refine Zi ?_ ?_)<;>first|exact Xq|exact HB|exact Xs)
  |true=>
   rw[ae]at af;have ba:Akc ((v= -1/\(Lb q v).length=1027/\∀v∈vs.take (j+1),C5 q v=false)\/(v∈vs/\C5 q v=true)):=.inr ⟨HM.out.1,ae⟩;have a9:Akc (¬(Lb q v).length<w->(b= -1/\w=1027/\∀v∈vs.take (j+1),C5 q v=false)\/(b∈vs/\C5 q b=true)):=fun hn=>by
    rcases hB.out with⟨h1,h2,h3⟩|h
    ·omega
    ·exact .inr h
   clear hB HM ae;generalize ay:Lb q v=vq at*
   have bo:Akc _:=ay;clear ay;have bf:=Bm vq
   repeat' (first|refine Z1 ?_|(refine Z8 ?_;intro yb ya)|(refine Z4 ?_;clear ya yb)|(refine Z2 ?_ ?_<;>intro h aj<;>try exact Xp)|(refine Z5 ?_;first|(refine Xi (af _) ?_;rintro _ _ ⟨rfl,ad⟩;(have au:=ad.nobj;have ap:=ad.obj;have am:=hK.trans ad))|(refine Xi (aw _) ?_;rintro _ _ ⟨⟨idq,rfl⟩,ax⟩;(have a7:=ax.nobj;have a6:=ax.obj;have bh:=am.trans ax)))|refine Z3 ?_|exact Zt|(apply ya.out;clear ya yb))
   ·refine⟨vs.length-(j+1),Aj6,j+1,vq.length,v,?_⟩
    ((repeat' refine Zi ?_ ?_)<;>first|exact Xq|exact ba|exact Xs)
   ·refine⟨vs.length-(j+1),Aj6,j+1,w,b,?_⟩
    ((repeat' refine Zi ?_ ?_)<;>first|exact Xq|exact (a9.out Aj6)|exact Xs)
 ·have a8:j=vs.length:=Aj6;subst a8;rw[Ag7]at hB;have HB:Akc ((b= -1/\∀v∈vs,C5 q v=false)\/(b∈vs/\C5 q b=true)):=by
   rcases hB.out with⟨h1,-,h3⟩|h
   ·exact .inl ⟨h1,h3⟩
   ·exact .inr h
  repeat' (first|refine Z1 ?_|(refine Z8 ?_;intro yb ya)|(refine Z4 ?_;clear ya yb)|(refine Z2 ?_ ?_<;>intro h aj<;>try exact Xp)|refine Z3 ?_|exact Zt|(apply ya.out;clear ya yb))
  first|exact⟨_,rfl,⟨b,rfl,HB.out⟩,hK⟩|exact⟨_,rfl,b,rfl,HB.out⟩
end Go.Proofs.YtmoeoppbmhfbpabGreatDoorL
