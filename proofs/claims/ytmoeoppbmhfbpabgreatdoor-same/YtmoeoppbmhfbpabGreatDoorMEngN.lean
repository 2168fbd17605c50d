import Derived.Test.YtmoeoppbmhfbpabGreatDoorMEngJ
set_option maxHeartbeats 32000000
set_option maxRecDepth 100000
set_option linter.all false
namespace Go.Proofs.YtmoeoppbmhfbpabGreatDoorL
open Go.Abs
def Fa (l:List De)(small big:List Int):Prop:=∀a∈l,small.any (A7 a.ts)=true->∀v,(true,v)∈a.ts->v∈big
def Grown (init V rs:List Int):Prop:=∃ad:List Int,rs=init++ad/\ad.Nodup/\∀v∈ad,v∈V
theorem Grown.le {init V rs:List Int}(h:Grown init V rs):rs.length<=init.length+V.length:=by
 obtain⟨ad,rfl,h1,h2⟩:=h;have:=Vd h1 h2;simp;omega
theorem Grown.snoc {init V rs:List Int}(h:Grown init V rs){v:Int}(hv:v∈V)(hn:v∉rs):Grown init V (rs++[v]):=by
 obtain⟨ad,rfl,h1,h2⟩:=h;refine⟨ad++[v],by simp,?_,?_⟩
 ·rw[Ajf];exact⟨h1,by simp,fun a ha b hb=>by simp at hb;subst hb;rintro rfl;exact hn (Ah8.2 (.inr ha))⟩
 ·intro u hu;rcases Ah8.1 hu with h|h
  ·exact h2 u h
  ·simp at h;subst h;exact hv
def I9 (rs:List Int)(a:De):Bool:=rs.any (A7 a.ts)
def A5 (q:Qry)(rs:List Int):Qry:=⟨q.head,q.parts.filter fun p=>I9 rs p.a,q.nots.filter (I9 rs)⟩
def H0 (q:Qry)(rs:List Int):Qry:=⟨⟨0,[]⟩,q.parts.filter fun p=>!I9 rs p.a,q.nots.filter fun a=>!I9 rs a⟩
abbrev MM:=List (Nat×List Bb)
def Ff (M:MM):List AV:=M.map fun x=>sl x.1 x.2.length (Dc x.2)
def Live (σ:St)(id n:Nat):Prop:=(id=1/\n=0)\/∃k,id=k+2/\k<σ.ntop/\σ.top k=n/\0<n
theorem Live.keep {σ σ':St}{id n:Nat}(h:Live σ id n)(k:Keep σ σ'):Live σ' id n:=by
 rcases h with h|⟨j,h1,h2,h3,h4⟩
 ·exact .inl h
 ·exact .inr ⟨j,h1,Agp h2 k.ntop,(k.top j h2).trans h3,h4⟩
structure MOb (σ:St)(om ot:Nat)(M:MM)(d b:Int):Prop where
 ob:σ.obj om=[fx ot 0 M.length,ic d,ic b]
 oc:σ.obj ot=Ff M
 lo:om<σ.nobj
 lt:ot<σ.nobj
 ne:om≠ot
 live:∀x∈M,Live σ x.1 x.2.length
 inj:∀(i j:Nat) (x y:Nat×List Bb),M[i]?=some x->M[j]?=some y->i≠j->x.1=1\/x.1≠y.1
 t3:∀x∈M,T3 x.2
 ln:∀x∈M,x.2.length<=5000
 pl:M.length<=5000
theorem MOb.keep {σ σ':St}{om ot:Nat}{M:MM}{d b:Int}(h:MOb σ om ot M d b)(k:Keep σ σ'):MOb σ' om ot M d b:=
 ⟨(k.obj _ h.lo).trans h.ob,(k.obj _ h.lt).trans h.oc,Agp h.lo k.nobj,Agp h.lt k.nobj,h.ne,fun x hx=>(h.live x hx).keep k,h.inj,h.t3,h.ln,h.pl⟩
theorem G8 {M:MM}{k:Nat}{x:Nat×List Bb}(h:M[k]?=some x):(Ff M)[k]?=some (sl x.1 x.2.length (Dc x.2)):=by simp[Ff,h]
theorem G7 (M:MM):(Ff M).length=M.length:=by simp[Ff]
theorem Kz (om ot:Nat)(M:MM)(d b:Int)(σ:St)(hM:MOb σ om ot M d b):ACalls Tryz.prog 51 [ptr om 0] σ fun r σ'=>r=sc (.bool (decide (b<d)))/\σ'=σ:=by
 have ob:=hM.ob;have ab:decide (d>b)=decide (b<d):=rfl;refine Z9 12 [.tmp 2] Tryz.func51 ?_
 repeat' (first|refine Z1 ?_|(refine Z8 ?_;intro yb ya)|(refine Z4 ?_;clear ya yb)|refine Z3 ?_|exact Zt|(apply ya.out;clear ya yb))
 refine A8 Ai (fun _=>True) [9] [0,1,2,3,4,5,6,7,8] [9] Aj9 (fun _ _ _ h=>h) ?_;intro yb ya
 repeat' (first|refine Z1 ?_|(refine Z8 ?_;intro yb ya)|(refine Z4 ?_;clear ya yb)|(refine Z2 ?_ ?_<;>intro h aa<;>try exact Xp)|refine Z3 ?_|exact Zt|(apply ya.out;clear ya yb))
 first|exact⟨_,rfl,rfl⟩|exact⟨_,rfl,rfl,rfl⟩|exact⟨_,rfl⟩
def Cr (a:De):Bb:=C4 (a.ts.map (·.2))
theorem I0 (om ot:Nat)(M:MM)(d b:Int)(a:De)(id k:Nat)(x:Nat×List Bb)(ha:a.ts.length<=3)(hk:a.p=(k:Int))(hx:M[k]?=some x)(σ:St)(hM:MOb σ om ot M d b):ACalls Tryz.prog 81 [ptr om 0,ag [ic a.p,sl id a.ts.length (Ac a.ts)]] σ fun r σ'=>r=sc (.bool (decide (Cr a∈x.2)))/\Keep σ σ':=by
 have an:a.ts.length<=1000:=Aj6;have ah:=fun σ=>Ru a.p id a.ts an σ;have aj:=Ag1 hx;have h3:=hM.t3 x aj;have ay:=hM.ln x aj;have av:=E6 h3;have az:k<M.length:=(Agy.1 hx).1;have hpl:=hM.pl;have ax:=G7 M;have a3:=G8 hx;have lo:=hM.lo;have lt:=hM.lt;have ob:=hM.ob;have oc:=hM.oc;rw[hk];rw[hk]at ah;have am:(C4 (a.ts.map (·.2))).length=3:=rfl;have HT:Akc (Cr a=C4 (a.ts.map (·.2))):=rfl;generalize Cr a=ta at*
 generalize C4 (a.ts.map (·.2))=t0 at*
 obtain⟨a0,b0,c0,rfl⟩:∃a0 b0 c0,t0=[a0,b0,c0]:=by
  match t0,am with
  |[a0,b0,c0],_=>exact⟨a0,b0,c0,rfl⟩
 simp only[Al,Ahj,Ahk]at ah;refine Z9 27 [.tmp 4] Tryz.func81 ?_
 repeat' (first|refine Z1 ?_|(refine Z8 ?_;intro yb ya)|(refine Z4 ?_;clear ya yb)|(refine Z5 ?_;refine Xi (ah _) ?_;rintro _ _ ⟨rfl,ae⟩;(have af:=ae.nobj;have ac:=ae.obj;have ai:=((Keep.refl σ).new _).trans ae;simp only[Aa]at af ac))|refine Z3 ?_|exact Zt|(apply ya.out;clear ya yb))
 rename_i σ1;have ak:Keep σ ((σ1.new [ic 0,ic 0,ic 0]).put σ1.nobj [ic a0,ic b0,ic c0]):=(ai.new _).put Aj6 _;have e0:σ1.obj σ.nobj=[ic (k:Int),sl id a.ts.length (Ac a.ts)]:=by rw[ac _ Aj6,Ao]
 have e1:σ1.obj om=[fx ot 0 M.length,ic d,ic b]:=by rw[ai.obj _ lo,ob]
 have e2:σ1.obj ot=Ff M:=by rw[ai.obj _ lt,oc]
 clear ac ae;refine A8 Ai (fun _=>True) [] [0,1,2,3,4,5,6,7,8,9] [] Aj9 (fun _ _ _ h=>h) ?_;intro yb ya
 repeat' (first|refine Z1 ?_|(refine Z8 ?_;intro yb ya)|(refine Z4 ?_;clear ya yb)|(refine Z2 ?_ ?_<;>intro h ad<;>try exact Xp)|refine Z3 ?_|exact Zt|(apply ya.out;clear ya yb))
 clear e0 e1 e2
 refine Af (fun m s σ'=>∃i:Nat,m=x.2.length-i/\i<=x.2.length/\s 5=ptr σ1.nobj 0/\s 17=sl x.1 x.2.length (Dc x.2)/\s 18=ic x.2.length/\s 19=ic i/\Keep σ σ'/\σ1.nobj<σ'.nobj/\σ'.obj σ1.nobj=[ic a0,ic b0,ic c0]/\Akc ([a0,b0,c0]∉x.2.take i)) x.2.length
  ⟨0,Aj6,Aj6,Aj8,Aj8,Aj8,rfl,ak,Akb,by rw[Aj],by simp[Akc]⟩ ?_
 clear ak;rintro m s σ' ⟨i,rfl,hi,h5,a7,a6,a5,hK,aw,ap,aa⟩;have au:=hK.nobj;by_cases ao:i<x.2.length
 ·have ab:=Agz ao;obtain⟨p,q,r,rr,he,hd⟩:=pM h3 ab;rw[he]at ab;clear he;have HG:Akc (x.2[i]?=some [p,q,r]):=ab;clear ab;by_cases hc:p=a0/\q=b0/\r=c0
  ·obtain⟨rfl,rfl,rfl⟩:=hc;have hm:decide (ta∈x.2)=true:=by rw[HT.out];simpa using Ag1 HG.out
   repeat' (first|refine Z1 ?_|(refine Z8 ?_;intro yb ya)|(refine Z4 ?_;clear ya yb)|(refine Z2 ?_ ?_<;>intro h ad<;>try exact Xp)|refine Z3 ?_|exact Zt|(apply ya.out;clear ya yb))
   first|exact⟨_,rfl,rfl,Xs⟩|exact⟨_,rfl,by rw[hm],Xs⟩|(refine⟨_,rfl,?_⟩;((repeat' refine Zi ?_ ?_)<;>first|exact Xq|exact (by rw[hm])|exact Xs))
  ·have a4:(p==a0&&q==b0&&r==c0)=false:=by
    cases h:(p==a0&&q==b0&&r==c0)with
    |false=>rfl
    |true=>simp at h;exact absurd ⟨h.1.1,h.1.2,h.2⟩ hc
   have HN:Akc ([a0,b0,c0]∉x.2.take (i+1)):=Va aa.out HG.out (fun e=>by simp at e;exact hc ⟨e.1,e.2.1,e.2.2⟩);clear hc aa
   repeat' (first|refine Z1 ?_|(refine Z8 ?_;intro yb ya)|(refine Z4 ?_;clear ya yb)|(refine Z2 ?_ ?_<;>intro h ad<;>try exact Xp)|refine Z3 ?_|exact Zt|(apply ya.out;clear ya yb))
   refine⟨x.2.length-(i+1),Aj6,i+1,?_⟩
   ((repeat' refine Zi ?_ ?_)<;>first|exact Xq|exact HN|exact Xs)
 ·have hil:i=x.2.length:=Aj6;subst hil;rw[Ag7]at aa;have hm:decide (ta∈x.2)=false:=by rw[HT.out];simpa using aa.out
  repeat' (first|refine Z1 ?_|(refine Z8 ?_;intro yb ya)|(refine Z4 ?_;clear ya yb)|(refine Z2 ?_ ?_<;>intro h ad<;>try exact Xp)|refine Z3 ?_|exact Zt|(apply ya.out;clear ya yb))
  first|exact⟨_,rfl,rfl,hK⟩|exact⟨_,rfl,rfl⟩|exact⟨_,rfl,by rw[hm],hK⟩|exact⟨_,rfl,by rw[hm]⟩
structure KM (om ot:Nat)(M M':MM)(σ σ':St):Prop where
 nobj:σ.nobj<=σ'.nobj
 obj:∀o,o<σ.nobj->o≠om->o≠ot->σ'.obj o=σ.obj o
 ver:∀o,o<σ.nobj->o≠om->o≠ot->σ'.ver o=σ.ver o
 ntop:σ.ntop<=σ'.ntop
 top:∀k,k<σ.ntop->(∀x∈M,x.1≠k+2)->σ'.top k=σ.top k
 mid:∀x∈M',(∃y∈M,y.1=x.1)\/x.1=1\/σ.ntop+2<=x.1
theorem KM.ofKeep {om ot:Nat}{M:MM}{σ σ':St}(h:Keep σ σ'):KM om ot M M σ σ':=
 ⟨h.nobj,fun o ho _ _=>h.obj o ho,fun o ho _ _=>h.ver o ho,h.ntop,fun k hk _=>h.top k hk,fun x hx=>.inl ⟨x,hx,rfl⟩⟩
theorem KM.trans {om ot:Nat}{M M1 M2:MM}{σ σ1 σ2:St}(h:KM om ot M M1 σ σ1)(g:KM om ot M1 M2 σ1 σ2):KM om ot M M2 σ σ2 where
 nobj:=Ago h.nobj g.nobj
 obj:=fun o ho h1 h2=>(g.obj o (Agp ho h.nobj) h1 h2).trans (h.obj o ho h1 h2)
 ver:=fun o ho h1 h2=>(g.ver o (Agp ho h.nobj) h1 h2).trans (h.ver o ho h1 h2)
 ntop:=Ago h.ntop g.ntop
 top:=fun k hk hx=>(g.top k (Agp hk h.ntop) (fun x aa e=>by
  rcases h.mid x aa with⟨y,hy,e2⟩|e2|e2
  ·exact hx y hy (e2.trans e)
  ·omega
  ·omega)).trans (h.top k hk hx)
 mid:=fun x hx=>by
  rcases g.mid x hx with⟨y,hy,e⟩|e|e
  ·rcases h.mid y hy with⟨z,hz,e2⟩|e2|e2
   ·exact .inl ⟨z,hz,e2.trans e⟩
   ·exact .inr (.inl Aj6)
   ·exact .inr (.inr Aj6)
  ·exact .inr (.inl e)
  ·exact .inr (.inr (by have:=h.ntop;omega))
theorem uF {P:Program}{t:TypeId}{z b:Nat}{zc:List Value}{σ:St}{id id2 n m m':Nat}{xs ys:List AV}{K:AV->St->Prop}(ht:Nm P t=some (z,b,zc))(hO:Live σ id n)
  (hz:0<z) (hzc:zc.length=z) (hx:xs.length=n*z) (hy:ys.length=m*z) (hf:ys.all flat=true) (hm:0<m) (hb:(n+m)*b<=140737488355328) (hl:n+m<=1099511627776)
  (h:∀id' σ',Live σ' id' (n+m)->(id'=id\/σ.ntop+2<=id')->id'≠1->σ'.obj=σ.obj->σ'.nobj=σ.nobj->σ'.ver=σ.ver->σ.ntop<σ'.ntop->(∀k,k<σ.ntop->k+2≠id->σ'.top k=σ.top k)->K (sl id' (n+m) (xs++ys)) σ'):Ib P t t (sl id n xs) (sl id2 m ys) (σ.lay m') K:=by
 unfold Ib cZ;left;simp only[ht];rw[if_pos ⟨trivial,hz,hzc,hx,hy,hf,hm,hb,hl⟩];rcases hO with⟨rfl,rfl⟩|⟨k,rfl,h3,h4,h5⟩
 ·have aa:xs=[]:=Ag5 (by simpa using hx);subst aa;have:=h ((σ.lay m').ntop+2) ((σ.lay m').lay m) (.inr ⟨(σ.lay m').ntop,rfl,by simp[St.lay],by simp[St.lay],Aj6⟩) (.inr (by simp[St.lay])) (by simp) rfl rfl rfl (by simp[St.lay];omega) (fun k hk _=>(((Keep.refl σ).lay m').lay m).top k hk);simpa using this
 ·have e1:(σ.lay m').top k=n:=by simp[St.lay];rw[if_neg Aj6];exact h4
  simp only;rw[if_pos ⟨e1,h5⟩]
  exact h (k+2) _ (.inr ⟨k,rfl,by simp[St.raise,St.lay];omega,by simp[St.raise],Aj6⟩) (.inl rfl) Aj6 rfl rfl rfl (by simp[St.raise,St.lay]) (fun j hj ab=>by
   simp[St.raise,St.lay]
   rw[if_neg Aj6,if_neg Aj6])
theorem MOb.grow {σ σ':St}{om ot:Nat}{M:MM}{d b:Int}{k id':Nat}{x:Nat×List Bb}{t:Bb}(hM:MOb σ om ot M d b)(hx:M[k]?=some x)(ht:t.length=3)(hn:x.2.length<5000)
  (hL:Live σ' id' (x.2.length+1)) (hid:id'=x.1\/σ.ntop+2<=id') (an:id'≠1) (eob:∀o,o<σ.nobj->o≠ot->σ'.obj o=σ.obj o) (aj:∀o,o<σ.nobj->o≠ot->σ'.ver o=σ.ver o) (eoc:σ'.obj ot=(Ff M).set k (sl id' (x.2.length+1) (Dc x.2++Al t))) (eno:σ.nobj<=σ'.nobj) (ento:σ.ntop<=σ'.ntop)
  (etop:∀j,j<σ.ntop->j+2≠x.1->σ'.top j=σ.top j):MOb σ' om ot (M.set k (id',x.2++[t])) d b/\KM om ot M (M.set k (id',x.2++[t])) σ σ':=by
 have ae:=Ag1 hx;have am:k<M.length:=(Agy.1 hx).1;have ah:∀(i:Nat) (y:Nat×List Bb),M[i]?=some y->i≠k->Live σ' y.1 y.2.length/\(y.1=1\/y.1≠id'):=fun i y hy ac=>by
  have ak:=Ag1 hy;rcases hM.live y ak with h|⟨j,e1,e2,e3,e4⟩
  ·exact⟨.inl h,.inl h.1⟩
  ·have ao:y.1≠x.1:=by
    rcases hM.inj i k y x hy hx ac with h|h
    ·omega
    ·exact h
   refine⟨.inr ⟨j,e1,Agp e2 ento,(etop j e2 Aj6).trans e3,e4⟩,.inr ?_⟩;rcases hid with h|h<;>omega
 have aa:∀(i:Nat) (y:Nat×List Bb),(M.set k (id',x.2++[t]))[i]?=some y->(i=k/\y=(id',x.2++[t]))\/(i≠k/\M[i]?=some y):=fun i y hy=>by
  rw[Ag8]at hy;by_cases e:k=i
  ·subst e;rw[if_pos rfl,if_pos am]at hy;exact .inl ⟨rfl,(Ai8 hy).symm⟩
  ·rw[if_neg e]at hy;exact .inr ⟨fun h=>e h.symm,hy⟩
 have ab:∀y∈M.set k (id',x.2++[t]),y=(id',x.2++[t])\/y∈M:=fun y hy=>(Ajm hy).symm;have ai:∀y∈M.set k (id',x.2++[t]),∃i,(M.set k (id',x.2++[t]))[i]?=some y:=fun y hy=>Aif hy;refine⟨⟨?_,?_,Agp hM.lo eno,Agp hM.lt eno,hM.ne,?_,?_,?_,?_,by simp;exact hM.pl⟩,⟨eno,fun o ho h1 h2=>eob o ho h2,fun o ho h1 h2=>aj o ho h2,ento,fun j hj h=>etop j hj (fun e=>h x ae e.symm),?_⟩⟩
 ·rw[eob om hM.lo hM.ne,hM.ob];simp
 ·rw[eoc];unfold Ff;rw[List.map_set];congr 1;simp[Dc]
 ·intro y hy;obtain⟨i,hi⟩:=ai y hy;rcases aa i y hi with⟨-,rfl⟩|⟨ac,ad⟩
  ·simpa using hL
  ·exact (ah i y ad ac).1
 ·intro i j y w hy hw ac;rcases aa i y hy with⟨rfl,rfl⟩|⟨h1,ad⟩
  ·rcases aa j w hw with⟨rfl,rfl⟩|⟨h2,af⟩
   ·exact absurd rfl ac
   ·have:=(ah j w af h2).2;simp only;by_cases e:id'=w.1
    ·rcases this with h|h
     ·omega
     ·omega
    ·exact .inr e
  ·rcases aa j w hw with⟨rfl,rfl⟩|⟨h2,af⟩
   ·exact (ah i y ad h1).2
   ·exact hM.inj i j y w ad af ac
 ·intro y hy;rcases ab y hy with rfl|hy
  ·intro u hu;rcases Ah8.1 hu with h|h
   ·exact hM.t3 x ae u h
   ·simp at h;subst h;exact ht
  ·exact hM.t3 y hy
 ·intro y hy;rcases ab y hy with rfl|hy
  ·simp;omega
  ·exact hM.ln y hy
 ·intro y hy;rcases ab y hy with rfl|hy
  ·rcases hid with h|h
   ·exact .inl ⟨x,ae,h.symm⟩
   ·exact .inr (.inr h)
  ·exact .inl ⟨y,hy,rfl⟩
theorem Vs (om ot:Nat)(M:MM)(d b:Int)(a:De)(id k:Nat)(x:Nat×List Bb)(ha:a.ts.length<=3)(hk:a.p=(k:Int))(hx:M[k]?=some x)(hn:x.2.length<5000)(σ:St)(hM:MOb σ om ot M d b):ACalls Tryz.prog 82 [ptr om 0,ag [ic a.p,sl id a.ts.length (Ac a.ts)]] σ fun r σ'=>∃id',MOb σ' om ot (M.set k (id',x.2++[Cr a])) d b/\KM om ot M (M.set k (id',x.2++[Cr a])) σ σ':=by
 have au:a.ts.length<=1000:=Aj6;have am:=fun σ=>Ru a.p id a.ts au σ;have ak:=Ag1 hx;have h3:=hM.t3 x ak;have hL:=hM.live x ak;have ap:=E6 h3;have ax:k<M.length:=(Agy.1 hx).1;have hpl:=hM.pl;have aw:=G7 M;have ay:=G8 hx;have lo:=hM.lo;have lt:=hM.lt;have ob:=hM.ob;have oc:=hM.oc;rw[hk];rw[hk]at am;have ah:(C4 (a.ts.map (·.2))).length=3:=rfl;have HT:Akc (Cr a=C4 (a.ts.map (·.2))):=rfl;generalize Cr a=ta at*
 generalize C4 (a.ts.map (·.2))=t0 at*
 have w1:=Dr ah;have w5:=Cn t0;have w4:=Hz ah;refine Z9 23 [] Tryz.func82 ?_
 repeat' (first|refine Z1 ?_|(refine Z8 ?_;intro yb ya)|(refine Z4 ?_;clear ya yb)|refine Z3 ?_|exact Zt|(apply ya.out;clear ya yb))
 refine Bt (Q:=fun e s' σ'=>e= .normal/\∃id',MOb σ' om ot (M.set k (id',x.2++[ta])) d b/\KM om ot M (M.set k (id',x.2++[ta])) σ σ') ?_ ?_
 ·refine A1 Ai (fun _=>True) [19] [0,1,2,3,4,5,6,7,8,9,10,11,12,13,14] 5 #[true,true,true,true,true,true,true,true,true,true,true,true,true,true,true,false,false,false,false,false] Aj9 (fun _ _ _ h=>by cases h.1) ?_;intro yb ya;refine Z3 ?_;refine ya.out _ ?_;clear ya yb;refine Am (i:=15) Aj9 ?_;refine Aq ?_;intro yb ya;refine Z3 ?_;refine ACalls.mono (am _) ?_;rintro _ σ5 ⟨rfl,ac⟩;refine Z3 ?_;refine ya.out _ _ ⟨Ap ac,?_⟩;clear ya yb;have af:=ac.nobj;simp only[Aa]at af;have aa:Keep σ σ5:=((Keep.refl σ).new _).trans ac;have e1:σ5.obj om=[fx ot 0 M.length,ic d,ic b]:=by rw[aa.obj _ lo,ob]
  have e2:σ5.obj ot=Ff M:=by rw[aa.obj _ lt,oc]
  refine Am (i:=16) Aj9 ?_;refine Aq ?_;intro yb ya;refine Z3 ?_;refine ya.out _ _ ⟨Ap (ac.lay 1),?_⟩;clear ya yb;refine Am (i:=17) Aj9 ?_;refine Aq ?_;intro yb ya;refine Z3 ?_;refine uF (by first|exact Fw) (hL.keep aa) (by decide) (by rfl) ap (by rw[w1]) w5 (by decide) Aj6 Aj6 ?_;intro idn σn av ai aj ae ao ab an etop;have e3:σn.obj ot=Ff M:=by rw[ae,e2]
  refine Z3 ?_;refine ya.out _ _ ⟨fun _ o ho _=>by rw[ab];exact ac.ver o ho,?_⟩;clear ya yb;refine Am (i:=18) Aj9 ?_;refine Aq ?_;intro yb ya;refine Z3 ?_;refine ya.out _ _ ⟨fun _ o ho _=>by rw[ab];exact ac.ver o ho,?_⟩;clear ya yb;refine Am (i:=19) Aj9 ?_;refine Aq ?_;intro yb ya;refine Z3 ?_;refine ya.out _ _ ⟨Br rfl,?_⟩;clear ya yb;refine A2 Aj9 ⟨rfl,idn,?_⟩;rw[HT.out];refine MOb.grow hM hx ah hn ?_ ?_ aj ?_ ?_ ?_ ?_ ?_ ?_
  ·rcases av with h|⟨j,h1,h2,h3,h4⟩
   ·exact .inl h
   ·exact .inr ⟨j,h1,h2,h3,h4⟩
  ·have:=aa.ntop;rcases ai with h|h
   ·exact .inl h
   ·exact .inr Aj6
  ·intro o ho ad;rw[show∀(S:St) c,(S.put ot c).obj o=S.obj o from fun S c=>by simp[St.put,ad],ae,aa.obj o ho]
  ·intro o ho ad;rw[show∀(S:St) c,(S.put ot c).ver o=S.ver o from fun S c=>by simp[St.put,ad],ab,aa.ver o ho]
  ·rw[Aj]
  ·have:=aa.nobj;simp only[Ab];omega
  ·have:=aa.ntop;simp only[Uu];omega
  ·intro j hj ad;rw[Sz,etop j (Agp hj aa.ntop) ad,aa.top j hj]
 ·rintro e s' σ'' ⟨rfl,idn,h1,h2⟩
  repeat' (first|refine Z1 ?_|refine Z3 ?_|exact Zt|(apply ya.out;clear ya yb))
  exact⟨_,rfl,idn,h1,h2⟩
end Go.Proofs.YtmoeoppbmhfbpabGreatDoorL
