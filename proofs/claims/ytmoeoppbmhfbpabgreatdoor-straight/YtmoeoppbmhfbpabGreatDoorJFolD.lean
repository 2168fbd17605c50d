import Derived.Test.YtmoeoppbmhfbpabGreatDoorJFolB
import Derived.Test.YtmoeoppbmhfbpabGreatDoorJStrC
import Derived.Test.YtmoeoppbmhfbpabGreatDoorJEngU
import Derived.Test.YtmoeoppbmhfbpabGreatDoorJOptC
set_option maxHeartbeats 64000000
set_option maxRecDepth 100000
set_option linter.all false
namespace Go.Proofs.YtmoeoppbmhfbpabGreatDoorJ
open Go.Abs
def nI (l:List RItem)(s:Nat)(x:RItem):Bool:=!x.out&&(Dk l x.head.pred==s)
def Kb (l:List RItem)(s:Nat):List RItem:=l.filter (nI l s)
def PMi (N:List Tx)(l:List RItem)(B:Cj):Nat->Cj
 |0=>B
 |s+1=>LstG ((Kb l s).map (A6 N)) (PMi N l B s)
structure zO (N:List Tx)(l:List RItem)(np:Nat)(ar:Nat->Nat):Prop where
 nn:N.length<=np
 hN:∀x∈l,x.head.pred∈N/\∀a∈x.body,a.pred∈N
 kn:∀i,i<l.length->G7 l i=false
 rw':∀x∈l,x.out=false->RW np ar (A6 N x)
theorem rI {N:List Tx}{p q:Tx}(hp:p∈N)(hq:q∈N)(h:N.idxOf p=N.idxOf q):p=q:=by
 have h1:N[N.idxOf p]?=some p:=by rw[List.getElem?_eq_getElem (Ado.2 hp)];simp
 have h2:N[N.idxOf q]?=some q:=by rw[List.getElem?_eq_getElem (Ado.2 hq)];simp
 rw[h,h2]at h1;exact (Ads h1).symm
theorem Wh {l:List RItem}(ho:∀x∈l,x.out=true->x.body=[])(hk:∀i,i<l.length->G7 l i=false)(hl:l.length<=16){x:RItem}(hx:x∈l){a:Ai}(ha:a∈x.body)(hn:a.nt=true):Dk l a.pred<Dk l x.head.pred:=by
 have hi:=Pf ho (cG ho hk) hl;have h1:=(hi a.pred (Dk l a.pred)).2 (Abf _);have h2:HH l (Dk l a.pred+1) x.head.pred:=⟨x,hx,.inl rfl,a,ha,hn,h1⟩;exact (hi _ _).1 h2
theorem qI {N:List Tx}{l:List RItem}{np:Nat}{ar:Nat->Nat}(h:zO N l np ar)(ho:∀x∈l,x.out=true->x.body=[])(hl:l.length<=16)(s:Nat):Apart ((Kb l s).map (A6 N)):=fun r hr k hk hn r' ae e=>by
 obtain⟨x,hx,rfl⟩:=Acs.1 hr;obtain⟨y,hy,rfl⟩:=Acs.1 ae;obtain⟨a,ha,rfl⟩:=Acs.1 hk;obtain⟨aa,ad⟩:=Adj.1 hx;obtain⟨ac,ab⟩:=Adj.1 hy;simp only[nI,Abo,Ad4]at ad ab;simp only[A6,Cm,Hd,Adu]at e;have e2:=rI (h.hN y ac).1 ((h.hN x aa).2 a ha) e;have:=Wh ho h.kn hl aa ha hn;rw[<-e2]at this;omega
theorem xA {N:List Tx}{l:List RItem}{np:Nat}{ar:Nat->Nat}(h:zO N l np ar)(s:Nat):∀r∈(Kb l s).map (A6 N),RW np ar r:=fun r hr=>by
 obtain⟨x,hx,rfl⟩:=Acs.1 hr;obtain⟨ab,aa⟩:=Adj.1 hx;simp only[nI,Abo]at aa;exact h.rw' x ab (by simpa using aa.1)
theorem PMi.up {N:List Tx}{l:List RItem}{B:Cj}{k:Nat}{t:Bc}:∀{s s':Nat},s<=s'->PMi N l B s k t->PMi N l B s' k t
 |s,0,h,g=>by
  have:s=0:=Ad6;subst this;exact g
 |s,s'+1,h,g=>by
  by_cases e:s=s'+1
  ·subst e;exact g
  ·exact LstG.base (PMi.up (s:=s) (s':=s') Ad6 g)
def FolI (N:List Tx)(l:List RItem)(M:MM)(b:Int)(s:Nat)(M1:MM)(d1:Int):Prop:=
 M1.length=M.length/\d1=tot M1-tot M/\
 ((¬b<d1/\(∀k t,MD M1 k t↔PMi N l (MD M) s k t)/\∀x∈M1,x.2.Nodup)\/
  (b<d1/\∃M2:MM,M2.length=M.length/\(∀x∈M2,x.2.Nodup)/\(∀k t,MD M k t->MD M2 k t)/\(∀k t,MD M2 k t->PMi N l (MD M) s k t)/\b<tot M2-tot M))
theorem FolI.start {N:List Tx}{l:List RItem}{M:MM}{b:Int}(hb:0<=b)(hn:∀x∈M,x.2.Nodup):FolI N l M b 0 M 0:=
 ⟨rfl,Ad6,.inl ⟨Ad6,fun k t=>Iff.rfl,hn⟩⟩
theorem yY {N:List Tx}{l:List RItem}{np:Nat}{ar:Nat->Nat}(h:zO N l np ar)(ho:∀x∈l,x.out=true->x.body=[])(hl:l.length<=16){M M1:MM}{b d1:Int}{s:Nat}(hI:FolI N l M b s M1 d1)(hS:zM ar M1)(hp:∀k t,PMi N l (MD M) s k t->Sh ar k t):
  ∃D:Cj,wL np ar ((Kb l s).map (A6 N)) D/\(∀k t,MD M1 k t->D k t)/\NgIn ((Kb l s).map (A6 N)) D M1/\(∀k t,D k t->Sh ar k t)/\
   ∀M' d',GroA D M1 M' d1 d'->(¬b<d'->Ui ((Kb l s).map (A6 N)) D (MD M'))->FolI N l M b (s+1) M' d':=by
 have hR:=xA h s;have hA:=qI h ho hl s;obtain⟨e1,e2,h3⟩:=hI;rcases h3 with⟨a1,a2,a3⟩|⟨a1,M2,b1,b2,b3,b4,b5⟩
 ·have hF:=rQ (B:=PMi N l (MD M) s) hR hp;refine⟨LstG ((Kb l s).map (A6 N)) (PMi N l (MD M) s),hF,fun k t g=>LstG.base ((a2 k t).1 g),uX hA (fun k t g=>(a2 k t).2 g),fun k t g=>hF.sh k t g,fun M' d' hG hC=>?_⟩;have hc:=hG.cnt;have ab:∀k t,MD M' k t->PMi N l (MD M) (s+1) k t:=hG.inD (fun k t g=>LstG.base ((a2 k t).1 g));have aa:=hG.nodup a3;refine⟨hG.len.trans e1,Ad6,?_⟩;by_cases hb:b<d'
  ·exact .inr ⟨hb,M',hG.len.trans e1,aa,fun k t g=>hG.sub ((a2 k t).2 (PMi.up (Nat.zero_le s) g)),ab,Ad6⟩
  ·refine .inl ⟨hb,fun k t=>⟨ab k t,fun g=>?_⟩,aa⟩;exact nU hA (fun k t g=>hG.sub ((a2 k t).2 g)) (hC hb) g
 ·have hF:=rR (M:=M1) hR hA;refine⟨DX ar ((Kb l s).map (A6 N)) M1,hF,fun k t g=>⟨hS k t g,fun _=>g⟩,uY,fun k t g=>g.1,fun M' d' hG hC=>?_⟩;have hc:=hG.cnt;have ac:=(eV M1 M' hG.len hG.lens).1;exact⟨hG.len.trans e1,Ad6,.inr ⟨Ad6,M2,b1,b2,b3,fun k t g=>LstG.base (b4 k t g),b5⟩⟩
theorem fU {N:List Tx}{l:List RItem}{np:Nat}{ar:Nat->Nat}(h:zO N l np ar){B:Cj}(hB:∀k t,B k t->Sh ar k t):∀s k t,PMi N l B s k t->Sh ar k t
 |0,k,t,g=>hB k t g
 |s+1,k,t,g=>g.least (fU h hB s) (fD (xA h s))
theorem uD {l:List RItem}{s q:Nat}{y:RItem}(h:l[q]?=some y):(l.take (q+1)).filter (nI l s)=(l.take q).filter (nI l s)++if nI l s y=true then [y]else []:=by
 rw[Abv,h,Ac5,Db]
theorem Ym (N:List Tx)(l:List RItem)(cs:List AV)(idn idi:Nat)(np:Nat)(ar:Nat->Nat)(hB:Bk N l cs)(hR:zO N l np ar)(om ot:Nat)(b:Int)(b8:0<=b)(cj:b<=1000)(M:MM)(hn:M.length=np)(hS:zM ar M)(b3:∀x∈M,x.2.Nodup)(ht:tot M<=1000)(z:St)(hM:MOb z om ot M 0 b):
  ACalls Tryz.prog 50 [ptr om 0,Bs N idn l idi cs] z fun r z'=>∃M' d',MOb z' om ot M' d' b/\KM om ot M M' z z'/\FolI N l M b (l.length+1) M' d':=by
 have ci:=EL.length Df hB.el;have ay:=hB.len;have cm:=hB.nm;have hE:=hB.el;have ba:=fun z=>aF N l cs idn idi hB z;have bl:∀p∈N,Bo N l l.length (N.idxOf p)=Dk l p:=fun p hp=>mE ay hB.out hR.hN hR.kn hp;have bz:=fU hR (B:=MD M) hS;generalize Bo N l l.length=cc at ba bl;have lo:=hM.lo;have lt:=hM.lt;unfold Bs at ba⊢;refine Z9 47 [] Tryz.func50 ?_
 repeat' (first|refine Z1 ?_|(refine Z8 ?_;intro κ hκ)|(refine Z4 ?_;clear hκ κ)|(refine Z2 ?_ ?_<;>intro h ae<;>try exact Xp)|(refine Z6 ?_;intro idn zn ai aj ad ab ac aa)|(refine Z5 ?_;refine Xi (ba _) ?_;rintro _ _ ⟨o,rfl,oo,b1,bh,a5⟩;(have aw:=a5.nobj;have am:=a5.obj;simp only[Aa]at aw am b1))|refine Z3 ?_|exact⟨⟩|(apply hκ.out;clear hκ κ))
 rename_i z1;have av:z1.obj z.nobj=[sl idn N.length (N.map str),sl idi l.length cs]:=by rw[am _ Ad6,Ao]
 have bc:Keep z z1:=((Keep.refl z).new _).trans a5
 refine Ad (fun m s z'=>∃(q:Nat) (M1:MM) (d1:Int),m=l.length+1-q/\q<=l.length+1/\s 0=ptr om 0/\s 3=ptr z.nobj 0/\s 4=fx o 0 N.length/\s 5=ic q/\MOb z' om ot M1 d1 b/\KM om ot M M1 z z'/\o<z'.nobj/\z'.obj z.nobj=[sl idn N.length (N.map str),sl idi l.length cs]/\z'.obj o=Ez N.length cc/\0<=d1/\d1<=1000000/\Aec (FolI N l M b q M1 d1/\zM ar M1)) (l.length+1)
  ⟨0,M,0,Ad6,Ad6,by simp[upd,initS],Ad8,Ad8,Ad8,hM.keep bc,KM.ofKeep bc,bh,av,oo,Ad6,Ad6,FolI.start b8 b3,hS⟩ ?_
 clear bc a5 am aw av oo bh;rintro m s z' ⟨q,M1,d1,rfl,hq,h0,h3,h4,h5,a4,ap,b0,av,oo,ch,b7,hI⟩;have cb:=ap.nobj;have lo1:=a4.lo;have lt1:=a4.lt;by_cases ce:q<=l.length
 ·have cd:(q:Int)<=16:=Ad6
  repeat' (first|refine Z1 ?_|(refine Z8 ?_;intro κ hκ)|(refine Z4 ?_;clear hκ κ)|(refine Z2 ?_ ?_<;>intro h ae<;>try exact Xp)|(refine Z6 ?_;intro idn zn ai aj ad ab ac aa)|refine Z3 ?_|exact⟨⟩|(apply hκ.out;clear hκ κ))
  refine Ad (fun m s z2=>∃(j i6:Nat) (L:List RItem) (ys:List AV),m=l.length-j/\j<=l.length/\s 0=ptr om 0/\s 3=ptr z.nobj 0/\s 4=fx o 0 N.length/\s 5=ic q/\s 6=sl i6 L.length ys/\s 20=sl idi l.length cs/\s 21=ic l.length/\s 22=ic j/\Keep z' z2/\Own z' z2 i6 L.length/\ys.length=L.length*4/\L.length<=j/\Aec (L=(l.take j).filter (nI l q)/\EL tQ (L.map (A6 N)) ys)) l.length
   ⟨0,1,[],[],Ad6,Ad6,Ad7,Ad7,Ad7,Ad7,Ad8,Ad7,Ad7,Ad8,Keep.refl _,Own.nil _ _,rfl,by simp,by simp,rfl⟩ ?_
  clear h0 h3 h4 h5;rintro m s z2 ⟨j,i6,L,ys,rfl,hj,h0,h3,h4,h5,h6,cq,cp,co,hK,hO,bv,cn,hL⟩;have bu:=hK.nobj;have oo2:z2.obj o=Ez N.length cc:=by rw[hK.obj _ b0,oo]
  by_cases a7:j<l.length
  ·have ah:=List.getElem?_eq_getElem a7;obtain⟨a3,jh,jd,jb,r2,bi,b6⟩:=Fi hE ah;generalize l[j]=y at ah bi b6 a3;have au:Aec _:=uD (s:=q) ah;have a0:=zH (PI.of (ih:=jh) (id:=jd) a3 bi);have b5:=Ado.2 a3;have a9:=Ey cc b5;rw[bl _ a3]at a9;clear ah;cases af:y.out with
   |true=>
    have HN:Aec (L=(l.take (j+1)).filter (nI l q)/\EL tQ (L.map (A6 N)) ys):=⟨by rw[au.out,if_neg (by simp[nI,af]),Abz];exact hL.out.1,hL.out.2⟩;clear au a0
    repeat' (first|refine Z1 ?_|(refine Z8 ?_;intro κ hκ)|(refine Z4 ?_;clear hκ κ)|(refine Z2 ?_ ?_<;>intro h ae<;>try exact Xp)|(refine Z6 ?_;intro idn zn ai aj ad ab ac aa)|refine Z3 ?_|exact⟨⟩|(apply hκ.out;clear hκ κ))
    refine⟨l.length-(j+1),Ad6,j+1,i6,L,ys,?_⟩
    ((repeat' with_reducible refine And.intro ?_ ?_)<;>first|exact Xq|exact (HN)|exact ((hK.new _).put hK.nobj _)|exact (Own.put (Own.new hO _) _ _)|exact Xs)
   |false=>
    rw[af]at a0;by_cases ax:Dk l y.head.pred=q
    ·have HN:Aec (L++[y]=(l.take (j+1)).filter (nI l q)/\EL tQ ((L++[y]).map (A6 N)) (ys++[sc (.bool false),sc (.int .i64 (N.idxOf y.head.pred:Nat)),sl jh y.head.terms.length (Av y.head.terms),sl jd y.body.length jb])):=⟨by rw[au.out,if_pos (by simp[nI,af,ax]),hL.out.1],by rw[Abx];exact EL.append hL.out.2 (EL.single a0)⟩;rw[ax]at a9;clear au a0 ax
     repeat' (first|refine Z1 ?_|(refine Z8 ?_;intro κ hκ)|(refine Z4 ?_;clear hκ κ)|(refine Z2 ?_ ?_<;>intro h ae<;>try exact Xp)|(refine Z6 ?_;intro idn zn ai aj ad ab ac aa)|refine Z3 ?_|exact⟨⟩|(apply hκ.out;clear hκ κ))
     refine Bn (by first|exact Jj) ((hK.new _).put hK.nobj _) (Own.put (Own.new hO _) _ _) (by decide) (by rfl) (bv) (by rfl) (by rfl) (by decide) Ad6 Ad6 ?_;intro idx zn ai aj ad ab ac aa;refine Z3 ?_
     repeat' (first|refine Z1 ?_|(refine Z8 ?_;intro κ hκ)|(refine Z4 ?_;clear hκ κ)|(refine Z2 ?_ ?_<;>intro h ae<;>try exact Xp)|(refine Z6 ?_;intro idn zn ai aj ad ab ac aa)|refine Z3 ?_|exact⟨⟩|(apply hκ.out;clear hκ κ))
     refine⟨l.length-(j+1),Ad6,j+1,idx,L++[y],ys++[sc (.bool false),sc (.int .i64 (N.idxOf y.head.pred:Nat)),sl jh y.head.terms.length (Av y.head.terms),sl jd y.body.length jb],?_⟩
     ((repeat' with_reducible refine And.intro ?_ ?_)<;>first|exact Xq|exact (HN)|exact (by rw[Ab6];exact ai)|exact Xs)
    ·have HN:Aec (L=(l.take (j+1)).filter (nI l q)/\EL tQ (L.map (A6 N)) ys):=⟨by rw[au.out,if_neg (by simp[nI,af,ax]),Abz];exact hL.out.1,hL.out.2⟩;have b2:((Dk l y.head.pred:Int)==(q:Int))=false:=by simp;omega
     generalize Dk l y.head.pred=sy at a9 b2;clear au a0 ax
     repeat' (first|refine Z1 ?_|(refine Z8 ?_;intro κ hκ)|(refine Z4 ?_;clear hκ κ)|(refine Z2 ?_ ?_<;>intro h ae<;>try exact Xp)|(refine Z6 ?_;intro idn zn ai aj ad ab ac aa)|refine Z3 ?_|exact⟨⟩|(apply hκ.out;clear hκ κ))
     refine⟨l.length-(j+1),Ad6,j+1,i6,L,ys,?_⟩
     ((repeat' with_reducible refine And.intro ?_ ?_)<;>first|exact Xq|exact (HN)|exact ((hK.new _).put hK.nobj _)|exact (Own.put (Own.new hO _) _ _)|exact Xs)
  ·have b4:j=l.length:=Ad6;subst b4;obtain⟨bb,bo⟩:=hL.out;rw[Abt]at bb;obtain⟨D,hF,a8,a6,bf,an⟩:=yY hR hB.out ay hI.out.1 hI.out.2 (bz q);have bn:L=Kb l q:=bb;rw[<-bn]at hF a6 an;have az:M1.length=np:=by have:=hI.out.1.1;rw[this];exact hn
   have bg:Room M1 d1 b:=uE (GroA.refl D M1 d1) (by have:=hI.out.1.2.1;omega);have bq:=fun z (h:MOb z om ot M1 d1 b)=>Ns hF om ot b Ad6 Ad6 M1 d1 az a8 a6 bg Ad6 b7 ys i6 bo (by rw[Adc];omega) z h;rw[Adc]at bq;have be:Aec (∀M' d',GroA D M1 M' d1 d'->(¬b<d'->Ui (L.map (A6 N)) D (MD M'))->FolI N l M b (q+1) M' d'/\zM ar M'):=fun M' d' g1 g2=>⟨an M' d' g1 g2,fun k t g=>bf k t (g1.inD a8 k t g)⟩;clear hF a6 an bn bb bo hL a8 bf bg az
   repeat' (first|refine Z1 ?_|(refine Z8 ?_;intro κ hκ)|(refine Z4 ?_;clear hκ κ)|(refine Z2 ?_ ?_<;>intro h ae<;>try exact Xp)|(refine Z6 ?_;intro idn zn ai aj ad ab ac aa)|(refine Z5 ?_;refine Xi (bq _ (a4.keep (Xs))) ?_;rintro _ _ ⟨M',d',b9,ao,bp,cg,cf,bm⟩;(have ca:Aec _:=be.out M' d' bp bm;clear bp bm;have br:=ao.nobj;have ak:=ao.obj;have bd:=(ap.trans (KM.ofKeep hK)).trans ao))|refine Z3 ?_|exact⟨⟩|(apply hκ.out;clear hκ κ))
   rename_i z7;refine⟨l.length+1-(q+1),Ad6,q+1,M',d',?_⟩;have e1:z7.obj z.nobj=[sl idn N.length (N.map str),sl idi l.length cs]:=by rw[ak _ Ad6 Ad6 Ad6,hK.obj _ Ad6,av]
   have e2:z7.obj o=Ez N.length cc:=by rw[ak _ Ad6 Ad6 Ad6,hK.obj _ Ad6,oo]
   clear ak
   ((repeat' with_reducible refine And.intro ?_ ?_)<;>first|exact Xq|exact (b9)|exact (bd)|exact (ca)|exact (e1)|exact (e2)|exact (by rw[hK.obj _ Ad6,av])|exact Xs)
 ·have bw:q=l.length+1:=Ad6;subst bw
  repeat' (first|refine Z1 ?_|(refine Z8 ?_;intro κ hκ)|(refine Z4 ?_;clear hκ κ)|(refine Z2 ?_ ?_<;>intro h ae<;>try exact Xp)|(refine Z6 ?_;intro idn zn ai aj ad ab ac aa)|refine Z3 ?_|exact⟨⟩|(apply hκ.out;clear hκ κ))
  exact⟨_,rfl,M1,d1,a4,ap,hI.out.1⟩
def afP (N:List Tx)(x:RItem):Dq:=Aa9 (N.length:Int) (A6 N x)
def Aa8 (N:List Tx)(x:RItem):List C6:=(afP N x).body.map fun l=>Aas l.a
structure AtI (N:List Tx)(ar:Tx->Nat)(a:Ai):Prop where
 mem:a.pred∈N
 len:a.terms.length=ar a.pred
 le3:a.terms.length<=3
structure RuI (N:List Tx)(ar:Tx->Nat)(y:RItem):Prop where
 head:AtI N ar y.head
 hnt:y.head.nt=false
 body:∀b∈y.body,AtI N ar b
 vt:∀t∈y.head.terms,VT t/\DT t
 vb:∀b∈y.body,∀t∈b.terms,VT t/\DT t
 safe:∀v∈y.head.terms,Al v=true->∃b∈y.body,v∈b.terms
theorem fK {t:Tx}(h:(Ax t).1=0):∀x∈C2 t,∀y∈C2 t,∀a∈Af x,∀b∈Af y,a.pred=b.pred->a.terms.length=b.terms.length:=by
 have aa:∀i,i<(C2 t).length->Hb (C2 t) i=false:=by
  unfold Ax at h;split at h
  ·simp at h
  split at h
  ·simp at h
  unfold Ct at h;split at h
  ·simp at h
  ·rename_i hk;exact L8 hk
 have key:∀(i j:Nat) (x y:RItem) (a b:Ai),(C2 t)[i]?=some x->(C2 t)[j]?=some y->i<j->a∈Af x->b∈Af y->a.pred=b.pred->a.terms.length=b.terms.length:=by
  intro i j x y a b hi hj ac ha hb he;have h1:=aa j (List.getElem?_eq_some_iff.1 hj).1;unfold Hb at h1;rw[hj]at h1;simp only[Ac1,List.mem_range]at h1;obtain⟨k,hk⟩:=List.getElem?_of_mem hb;have h2:=h1 k (List.getElem?_eq_some_iff.1 hk).1;unfold Pn at h2;rw[hk]at h2;simp only[Acg,not_exists,not_and]at h2
  have h3:=h2 a (by
   unfold Cy C0;refine Aco.2 (.inl (Acn.2 ⟨x,?_,ha⟩))
   exact Abm (i:=i) (by rw[List.getElem?_take,if_pos ac];exact hi))
  unfold clash at h3;simp[he]at h3;exact h3
 intro x hx y hy a ha b hb he;obtain⟨i,hi⟩:=List.getElem?_of_mem hx;obtain⟨j,hj⟩:=List.getElem?_of_mem hy;rcases Nat.lt_trichotomy i j with ab|rfl|ad
 ·exact key i j x y a b hi hj ab ha hb he
 ·rw[hi]at hj;cases hj;exact Vz h x hx a ha b hb he
 ·exact (key j i y x b a hj hi ad hb ha he.symm).symm
def Ut (l:List RItem)(ar:Tx->Nat):Prop:=∀x∈l,∀a∈Af x,a.terms.length=ar a.pred
theorem Aau {t:Tx}(h:(Ax t).1=0):∃ar,Ut (C2 t) ar:=by
 refine⟨fun p=>Classical.epsilon fun n=>∃x∈C2 t,∃a∈Af x,a.pred=p/\a.terms.length=n,fun x hx a ha=>?_⟩;have:=Classical.epsilon_spec (p:=fun n=>∃x∈C2 t,∃b∈Af x,b.pred=a.pred/\b.terms.length=n) ⟨_,x,hx,a,ha,rfl,rfl⟩;obtain⟨y,hy,b,hb,e1,e2⟩:=this;rw[fK h x hx y hy a ha b hb e1.symm];exact e2
theorem Aaf {t:Tx}{N:List Tx}{l:List RItem}{cs:List AV}{ar:Tx->Nat}(h:Right t N l cs)(hA:Ut l ar){x:RItem}(hx:x∈l)(ho:x.out=false):RuI N ar x:=by
 have hi:=h.items;have ad:x∈C2 t:=by rw[hi];exact hx
 have hf:=R1 h.ok x ad;have ac:=h.wi x hx;have hw:=hf.w.2.2 ho;have aa:∀a,a=x.head\/a∈x.body->a∈Af x:=fun a ha=>by
  rcases ha with rfl|ha<;>simp[Af,ho, *]
 have ab:∀a∈Af x,a.terms.length=ar a.pred:=hA x hx;refine⟨⟨ac.mem,ab _ (aa _ (.inl rfl)),hw.1.2.2.1⟩,hw.2.1,fun b hb=>⟨(ac.wa b hb).1,ab _ (aa _ (.inr hb)),(hw.2.2.2 b hb).2.2.1⟩,fun w hm=>⟨hf.va _ (aa _ (.inl rfl)) w hm,hf.dt _ (aa _ (.inl rfl)) w hm⟩,fun b hb w hm=>⟨hf.va _ (aa _ (.inr hb)) w hm,hf.dt _ (aa _ (.inr hb)) w hm⟩,fun v hm hv=>?_⟩;obtain⟨c0,p,hH,-⟩:=hf.rule ho;obtain⟨a,ha,-,ae⟩:=hH.saf v hv (.inl hm);exact⟨a,ha,ae⟩
def Aaq (N:List Tx)(l:List RItem)(i:Nat)(x:RItem)(b:Bool):Prop:=Abe ((oth l i l.length).map (afP N)) (Aa8 N x) (afP N x).head.p.toNat (C7 (Aas (afP N x).head)) b
def Aak (N:List Tx)(l:List RItem)(n:Nat):Prop:=∀i y,i<n->l[i]?=some y->y.out=false->Dp N l (Du i [] l)=true->Aaq N l i y false
structure RtL (N:List Tx)(ar:Tx->Nat)(l:List RItem):Prop where
 gl:GL N l
 b5:∀x∈l,x.body.length<=5
 ru:∀x∈l,x.out=false->RuI N ar x
 wi:∀x∈l,WI N x
 wit:∀x∈l,Dh x
theorem zS {t:Tx}(h1:DT t)(h2:Py t)(h3:t.length<=1000)(h4:VT t):UT t:=by
 refine⟨h1,h2,h3,fun hv=>?_⟩;rcases h4 with⟨b,rfl,hb⟩|⟨h5,h6⟩
 ·simp only[Bl,Abo,Ad3]at hb;refine⟨b.toNat-65,Ad6,?_⟩;have:=Ja (k:=((b.toNat-65:Nat):Int)) Ad6 Ad6;have e:(Qc ((b.toNat-65:Nat):Int)).toNat=b.toNat:=Ad6;rw[UInt8.toNat_inj.1 e]
 ·cases t with
  |nil=>exact absurd rfl h5
  |cons b r=>
   have h7:=h6 b (by simp);have h8:Bl b.toNat=true:=hv;simp only[Bl,A0,Abo,Ad3]at h7 h8;omega
theorem Right.rt {t:Tx}{N:List Tx}{l:List RItem}{cs:List AV}(h:Right t N l cs){ar:Tx->Nat}(hA:Ut l ar):RtL N ar l:=by
 have hf:∀x∈l,Fine x:=fun x hx=>R1 h.ok x (by rw[h.items];exact hx);have h5:∀y∈l,y.body.length<=5:=fun y hy=>(h.wi y hy).body;refine⟨⟨h.bk.len,h.bk.nm,fun x hx=>?_,h.bk.fits,h.bk.pos,fun x hx=>(hf x hx).va,fun x hx a ha b hb=>Vz h.ok x (by rw[h.items];exact hx) a (Bv (.inr ha)) b (Bv (.inr hb))⟩,h5,fun x hx ho=>Aaf h hA hx ho,h.wi,h.wit⟩;have hw:=h.wi x hx;have hs:=hw.short;refine⟨hw.out,by have:=hw.body;omega,hw.mem,hs.1.1,fun a ha=>?_⟩;have ad:=h.wit x hx;have ho:x.out=false:=by
  cases ho:x.out with
  |false=>rfl
  |true=>simp[Af,ho,hw.out ho]at ha
 have aa:a=x.head\/a∈x.body:=by simpa[Af,ho]using ha
 obtain⟨w1,w2,w3,w4⟩:=ad.2.2 ho;have ab:Ea a:=by rcases aa with rfl|aa;exact w1;exact w4 a aa
 have ac:short a:=by rcases aa with rfl|aa;exact hs.1;exact hs.2 a aa
 exact⟨ab.2.2.1,ac.1,fun t ht=>zS ((hf x hx).dt a ha t ht) (ab.2.2.2 t ht) (ac.2.2 t ht) ((hf x hx).va a ha t ht)⟩
theorem RtL.sub {N:List Tx}{ar:Tx->Nat}{l l':List RItem}(h:RtL N ar l)(hs:∀x∈l',x∈l)(hl:l'.length<=16):RtL N ar l':=
 ⟨⟨hl,h.gl.nm,fun x hx=>h.gl.msr x (hs x hx),fun x hx=>h.gl.fits x (hs x hx),fun x hx=>h.gl.pos x (hs x hx),fun x hx=>h.gl.va x (hs x hx),fun x hx=>h.gl.ar x (hs x hx)⟩,fun x hx=>h.b5 x (hs x hx),fun x hx=>h.ru x (hs x hx),fun x hx=>h.wi x (hs x hx),fun x hx=>h.wit x (hs x hx)⟩
theorem fE {y:RItem}(hs:Ir y=true)(hu:∀a∈Af y,∀t∈a.terms,UT t){a:Ai}(ha:a∈Af y){t:Tx}(ht:t∈a.terms)(hv:Al t=true):∃b∈y.body,b.nt=false/\t∈b.terms:=by
 unfold Ir at hs;have:=Ac1.1 (by simpa using hs:(Af y).any (fun a=>a.terms.any fun w=>(Az w).1&&!E8 y (Az w).2)=false) a ha;have:=Ac1.1 (by simpa using this:a.terms.any (fun w=>(Az w).1&&!E8 y (Az w).2)=false) t ht;rw[E6,hv]at this;have hb:E8 y (Az t).2=true:=by simpa using this
 unfold E8 at hb;obtain⟨b,ac,hb⟩:=Acg.1 hb;simp only[Abo,Adw,Acg]at hb;obtain⟨hnt,u,ab,aa⟩:=hb;refine⟨b,ac,hnt,?_⟩;unfold Qd at aa;simp only[Abo,Ad4]at aa;have:t=u:=tellU.inj _ _ (hu a ha t ht) (hu b (Bv (.inr ac)) u ab) (Prod.ext (by rw[E6,hv,aa.1]) aa.2.symm);rw[this];exact ab
section
variable {N:List Tx} {ar:Tx->Nat} {Rd:List RItem} {x:RItem}
end
section
variable {x:RItem} (hx:XR x)
include hx
end
end Go.Proofs.YtmoeoppbmhfbpabGreatDoorJ
