import Derived.Test.YtmoeoppbmhfbpabGreatDoorLEngD
set_option maxHeartbeats 32000000
set_option maxRecDepth 100000
set_option linter.all false
namespace Go.Proofs.YtmoeoppbmhfbpabGreatDoorL
open Go.Abs
def Num (ar:Nat)(t:Bb):Prop:=∀i,i<ar->∃k:Nat,t[i]?=some (k:Int)/\k<1026
def QN (q:Qry):Prop:=∀p∈q.parts,∀t∈p.tups,Num p.a.ts.length t
def Gq (f:Nat->Bool):List AV:=(List.range 1026).map fun i=>sc (.bool (f i))
theorem jI:uB 1026 (.bool false)=Gq fun _=>false:=by
 unfold uB Gq;rw[List.map_const'];simp[cst1]
theorem nP (f:Nat->Bool):(Gq f).length=1026:=by simp[Gq]
theorem nQ (f:Nat->Bool){k:Nat}(h:k<1026):(Gq f)[k]?=some (sc (.bool (f k))):=by simp[Gq,h]
theorem nO (f:Nat->Bool){k:Nat}(h:k<1026)(b:Bool):(Gq f).set k (sc (.bool b))=Gq fun j=>if j=k then b else f j:=by
 apply Ahi;intro n;rw[Ag8];by_cases hn:n<1026
 ·by_cases he:k=n
  ·subst he;simp[Gq,hn]
  ·have:n≠k:=fun e=>he e.symm;simp[Gq,hn,he,this]
 ·have:k≠n:=Aj6;simp[Gq,hn,this]
def rE (pl:Int)(acc:List Int)(t:Bb):List Int:=if H4 t pl∈acc then acc else acc++[H4 t pl]
def Wu (tups:List Bb)(pl:Int):List Int:=tups.foldl (rE pl) []
def Lb (q:Qry)(v:Int):List Int:=match q.parts.find? (fun p=>A7 p.a.ts v)with
 |some p=>Wu p.tups (Iz p.a.ts v)
 |none=>[]
theorem tF {α:Type}{f:α->Bool}{l:List α}{i:Nat}{x:α}(hn:∀y∈l.take i,f y=false)(hi:l[i]?=some x)(hx:f x=true):l.find? f=some x:=by
 have aa:=(Agy.1 hi);obtain⟨h1,h2⟩:=aa
 conv=>lhs;rw[<-Aje i l]
 rw[List.find?_append,Ah1.2 (fun y hy=>by rw[hn y hy];simp),Ah0 h1,h2];simp[hx]
theorem Hv {P:Program}{t:TypeId}{z b:Nat}{zc:List Value}{σ0 σ:St}{id id2 n m m':Nat}{xs ys:List AV}{K:AV->St->Prop}(ht:Nm P t=some (z,b,zc))(hK:Keep σ0 σ)(hO:Own σ0 σ id n)
  (hz:0<z) (hzc:zc.length=z) (hx:xs.length=n*z) (hy:ys.length=m*z) (hf:ys.all flat=true) (hm:0<m) (hb:(n+m)*b<=140737488355328) (hl:n+m<=1099511627776)
  (h:∀id' σ',Own σ0 σ' id' (n+m)->Keep σ0 σ'->σ'.obj=σ.obj->σ'.nobj=σ.nobj->σ'.ver=σ.ver->σ.ntop<σ'.ntop->(∀i k,Own σ0 σ i k->(id=1\/id≠i)->Own σ0 σ' i k/\(id'=1\/id'≠i))->K (sl id' (n+m) (xs++ys)) σ'):Ib P t t (sl id n xs) (sl id2 m ys) (σ.lay m') K:=by
 unfold Ib cZ;left;simp only[ht];rw[if_pos ⟨trivial,hz,hzc,hx,hy,hf,hm,hb,hl⟩];rcases hO with⟨rfl,rfl⟩|⟨k,rfl,h2,h3,h4,h5⟩
 ·have ab:xs=[]:=Ag5 (by simpa using hx);subst ab
  have:=h ((σ.lay m').ntop+2) ((σ.lay m').lay m) (by rw[Ahn];exact Own.made (hK.lay m') hm) ((hK.lay m').lay m) rfl rfl rfl (by simp[St.lay];omega) (fun i k ho _=>by
   refine⟨ho.keep (((Keep.refl _).lay _).lay _),?_⟩;right;rcases ho with⟨rfl,-⟩|⟨j,rfl,-,hj,-⟩
   ·simp[St.lay]
   ·simp[St.lay];omega)
  simpa using this
 ·have e1:(σ.lay m').top k=n:=by simp[St.lay];rw[if_neg Aj6];exact h4
  simp only;rw[if_pos ⟨e1,h5⟩]
  exact h (k+2) _ (.inr ⟨k,rfl,h2,by simp[St.raise,St.lay];omega,by simp[St.raise],Aj6⟩) ((hK.lay m').raise h2 _) rfl rfl rfl (by simp[St.raise,St.lay]) (fun i j ho aa=>by
   have aa:k+2≠i:=by rcases aa with h|h<;>omega
   refine⟨?_,.inr aa⟩;rcases ho with ho|⟨j',rfl,g1,g2,g3,g4⟩
   ·exact .inl ho
   ·exact .inr ⟨j',rfl,g1,by simp[St.raise,St.lay];omega,by simp[St.raise,St.lay];rw[if_neg Aj6,if_neg Aj6];exact g3,g4⟩)
def Ey (f:Nat->Nat):List AV:=(List.range 1026).map fun i=>ic (f i:Nat)
theorem gY:uB 1026 (.int .i64 0)=Ey fun _=>0:=by
 unfold uB Ey;rw[List.map_const'];simp[cst1]
theorem Ve (f:Nat->Nat):(Ey f).length=1026:=by simp[Ey]
theorem Vf (f:Nat->Nat){k:Nat}(h:k<1026):(Ey f)[k]?=some (ic (f k:Nat)):=by simp[Ey,h]
theorem mH (f:Nat->Nat){k:Nat}(h:k<1026)(b:Nat):(Ey f).set k (ic (b:Nat))=Ey fun j=>if j=k then b else f j:=by
 apply Ahi;intro n;rw[Ag8];by_cases hn:n<1026
 ·by_cases he:k=n
  ·subst he;simp[Ey,hn]
  ·have:n≠k:=fun e=>he e.symm;simp[Ey,hn,he,this]
 ·have:k≠n:=Aj6;simp[Ey,hn,this]
def occ (v:Int)(n:Int)(p:Part):Bool:=p.tups.any fun t=>H4 t (Iz p.a.ts v)==n
def Dw (l:List Part)(v n:Int):Bool:=l.all fun p=>!A7 p.a.ts v||occ v n p
def Gd (l:List Part)(v:Int)(p:Part):Part:=if A7 p.a.ts v=true then⟨p.a,p.tups.filter fun t=>Dw l v (H4 t (Iz p.a.ts v))⟩else p
def Fl (q:Qry)(v:Int):Qry:={q with parts:=q.parts.map (Gd q.parts v)}
def gF (f:Nat->Nat)(a:Nat)(pl:Int)(l:List Bb)(k:Nat):Nat:=if f k=a/\l.any (fun t=>H4 t pl==(k:Int))=true then a+1 else f k
theorem Ack {f:Nat->Nat}{a:Nat}{pl:Int}{l:List Bb}{t:Bb}{x:Nat}(ht:H4 t pl=(x:Int)):gF f a pl (l++[t])=fun k=>if k=x/\gF f a pl l x=a then a+1 else gF f a pl l k:=by
 funext k;have aa:(l++[t]).any (fun t=>H4 t pl==(k:Int))=(l.any (fun t=>H4 t pl==(k:Int))||decide (k=x)):=by
  rw[Aji];simp only[List.any_cons,List.any_nil,Bool.or_false,ht];congr 1;by_cases e:k=x
  ·subst e;simp
  ·have:¬(x:Int)=(k:Int):=Aj6;simp[e,this]
 unfold gF;rw[aa];by_cases e:k=x
 ·subst e;by_cases h1:f k=a
  ·cases h2:l.any (fun t=>H4 t pl==(k:Int))<;>simp[h1]
  ·simp[h1]
 ·simp[e]
theorem Aev (f:Nat->Nat)(a:Nat)(pl:Int):gF f a pl []=f:=by funext k;simp[gF]
inductive NarS (q:Qry):Qry->Prop where
 |refl:NarS q q
 |tail {q':Qry} (v:Int):NarS q q'->NarS q (Fl q' v)
theorem Qy (l:List Part)(v:Int)(p:Part):(Gd l v p).a=p.a:=by unfold Gd;split<;>rfl
theorem Po (l:List Part)(v:Int)(p:Part):∀t∈(Gd l v p).tups,t∈p.tups:=by
 unfold Gd;split
 ·intro t ht;exact (Ai7.1 ht).1
 ·exact fun t ht=>ht
theorem gZ (l:List Part)(v:Int)(p:Part):(Gd l v p).tups.length<=p.tups.length:=by
 unfold Gd;split
 ·exact Ai6 _ _
 ·exact Agn _
theorem xX {q:Qry}{v:Int}(h:Ou q):Ou (Fl q v):=by
 have hm:∀p∈(Fl q v).parts,∃p0∈q.parts,Gd q.parts v p0=p:=fun p hp=>Aib.1 hp;refine⟨h.hd,by simp[Fl];exact h.pl,h.nl,fun p hp=>?_,fun p hp=>?_,fun p hp=>?_,h.na⟩
 ·obtain⟨p0,h0,rfl⟩:=hm p hp;rw[Qy];exact h.pa p0 h0
 ·obtain⟨p0,h0,rfl⟩:=hm p hp;exact Ago (gZ _ _ _) (h.pt p0 h0)
 ·obtain⟨p0,h0,rfl⟩:=hm p hp;exact fun t ht=>h.p3 p0 h0 t (Po _ _ _ t ht)
theorem Ab3 {q:Qry}{v:Int}(h:QN q):QN (Fl q v):=fun p hp t ht=>by
 obtain⟨p0,h0,rfl⟩:=Aib.1 hp;rw[Qy];exact h p0 h0 t (Po _ _ _ t ht)
theorem NarS.ok {q q':Qry}(h:NarS q q')(hq:Ou q):Ou q':=by
 induction h with
 |refl=>exact hq
 |tail v _ ih=>exact xX ih
theorem NarS.n {q q':Qry}(h:NarS q q')(hq:QN q):QN q':=by
 induction h with
 |refl=>exact hq
 |tail v _ ih=>exact Ab3 ih
def Qs (q:Qry)(v:Int):Qry:=if 1<C7 (q.parts.map (·.a)) v then Fl q v else q
def kL (q:Qry)(vs:List Int):Qry:=vs.foldl Qs q
theorem fG {q:Qry}(h:Ou q):Cq q.parts<=320000:=by
 have h1:=h.pl;have h2:=h.pt;have:∀l:List Part,(∀p∈l,p.tups.length<=5000)->Cq l<=l.length*5000:=by
  intro l;induction l with
  |nil=>intro _;simp[Cq]
  |cons a l ih=>
   intro h;have h3:=h a (by simp);have h4:=ih (fun p hp=>h p (by simp[hp]));simp only[Cq,Ahj,List.sum_cons,Ahy]at*
   omega
 have h5:=this q.parts h2;omega
theorem Vd:∀{l m:List Int},l.Nodup->(∀x∈l,x∈m)->l.length<=m.length
 |[],m,_,_=>by simp
 |a::l,m,hn,hs=>by
  have aa:=Aiy.1 hn;have ha:=hs a (by simp)
  have h1:=Vd (l:=l) (m:=m.erase a) aa.2 (fun x hx=>by
   have ab:x≠a:=fun e=>aa.1 (e ▸ hx)
   exact (Aiz ab).2 (hs x (by simp[hx])))
  rw[List.length_erase_of_mem ha]at h1;have:0<m.length:=List.length_pos_of_mem ha;simp only[Ahy];omega
theorem Ti:∀(l:List Bb) (pl:Int) (acc:List Int),acc.Nodup->(l.foldl (rE pl) acc).Nodup
 |[],pl,acc,h=>h
 |t::l,pl,acc,h=>by
  rw[Ag6];apply Ti;unfold rE;split
  ·exact h
  ·rename_i hc;rw[Ajf];exact⟨h,by simp,fun a ha b hb=>by simp at hb;subst hb;rintro rfl;exact hc ha⟩
theorem Tj:∀(l:List Bb) (pl:Int) (acc:List Int) (n:Int),n∈l.foldl (rE pl) acc↔n∈acc\/∃t∈l,H4 t pl=n
 |[],pl,acc,n=>by simp
 |t::l,pl,acc,n=>by
  rw[Ag6,Tj];unfold rE;by_cases hc:H4 t pl∈acc
  ·rw[if_pos hc];constructor
   ·rintro (h|⟨u,hu,e⟩)
    ·exact .inl h
    ·exact .inr ⟨u,by simp[hu],e⟩
   ·rintro (h|⟨u,hu,e⟩)
    ·exact .inl h
    ·rcases Ah2.1 hu with rfl|hu
     ·exact .inl (e ▸ hc)
     ·exact .inr ⟨u,hu,e⟩
  ·rw[if_neg hc];constructor
   ·rintro (h|⟨u,hu,e⟩)
    ·rcases Ah8.1 h with h|h
     ·exact .inl h
     ·simp at h;exact .inr ⟨t,by simp,h.symm⟩
    ·exact .inr ⟨u,by simp[hu],e⟩
   ·rintro (h|⟨u,hu,e⟩)
    ·exact .inl (Ah8.2 (.inl h))
    ·rcases Ah2.1 hu with rfl|hu
     ·exact .inl (Ah8.2 (.inr (by simp[e])))
     ·exact .inr ⟨u,hu,e⟩
theorem Tk {q:Qry}(hN:QN q)(v:Int):(Lb q v).length<=1026:=by
 have hr:((List.range 1026).map fun k:Nat=>(k:Int)).length=1026:=by simp
 rw[<-hr];unfold Lb;split
 ·rename_i p hp;have ab:=Aip hp;have aa:A7 p.a.ts v=true:=by simpa using List.find?_some hp
  obtain⟨pl,hpl,ac⟩:=J2 aa;rw[ac];apply Vd (Ti _ _ _ Ai0);intro n hn;unfold Wu at hn;rw[Tj]at hn;rcases hn with h|⟨t,ht,e⟩
  ·cases h
  ·obtain⟨x,hx,ad⟩:=hN p ab t ht pl hpl;rw[Aib];exact⟨x,by simpa using ad,by rw[<-e];simp[H4,hx]⟩
 ·simp
def QV (q:Qry):Prop:=∀a∈atomsQ q,∀v,(true,v)∈a.ts->0<=v
end Go.Proofs.YtmoeoppbmhfbpabGreatDoorL
