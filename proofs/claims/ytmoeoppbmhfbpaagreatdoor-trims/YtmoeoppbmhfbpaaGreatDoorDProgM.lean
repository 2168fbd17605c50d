import Derived.Test.YtmoeoppbmhfbpaaGreatDoorDProgH
set_option maxHeartbeats 16000000
set_option maxRecDepth 100000
set_option linter.all false
namespace Go.Proofs.YtmoeoppbmhfbpaaGreatDoorD
open Go.Abs
abbrev C8 (N:List Tx)(idn:Nat)(l:List RItem)(idi:Nat)(cs:List AV):AV:=ag [sl idn N.length (N.map str),sl idi l.length cs]
structure Bk (N:List Tx)(l:List RItem)(cs:List AV):Prop where
 el:EL (PI N) l cs
 len:l.length<=16
 fits:∀x∈l,x.fits
 out:∀x∈l,x.out=true->x.body=[]
 nm:N.length<=2000
 pos:∀x∈l,∀a∈Ae x,0<a.terms.length
def Mb (l:List RItem)(i:Nat):Bool:=match l[i]? with|some x=>!Et x|none=>false
theorem PI.of {N:List Tx}{x:RItem}{ih id:Nat}{b:List AV}(hm:x.head.pred∈N)(h:EL (PL N) x.body b):PI N x [sc (.bool x.out),sc (.int .i64 (N.idxOf x.head.pred:Nat)),sl ih x.head.terms.length (A0 x.head.terms),sl id x.body.length b]:=⟨hm,ih,id,b,h,rfl⟩
theorem Qm (N:List Tx)(l:List RItem)(cs:List AV)(idn idi:Nat)(hB:Bk N l cs)(z:St):ACalls Tryz.prog 122 [C8 N idn l idi cs] z fun r z'=>r=sc (.int .i64 (Ba (Mb l) l.length))/\Keep z z':=by
 have ak:=EL.length Gg hB.el;have ah:=hB.len;refine Z9 18 [.tmp 2] Tryz.func122 ?_
 refine zz ?_
 refine Ad (fun m s z'=>∃i:Nat,m=l.length-i/\i<=l.length/\s 6=sl idi l.length cs/\s 7=sc (.int .i64 l.length)/\s 8=sc (.int .i64 i)/\Keep z z'/\Agt (∀j,j<i->Mb l j=false)) l.length
  ⟨0,Agm,Agm,rfl,rfl,rfl,Xs,fun j hj=>Agm⟩ ?_
 rintro m s z' ⟨i,rfl,hi,h6,h7,h8,hK,ab⟩;have aj:=hK.nobj;by_cases ac:i<l.length
 ·have aa:=Adn ac;have af:=hB.fits l[i] (Aes ac);have ae:=hB.out l[i] (Aes ac);obtain⟨hm,ih,id,b,r,hb,hd⟩:=J6 hB.el aa;generalize l[i]=x at hd aa af ae hb hm;have hv:Agt (Mb l i=!Et x):=by rw[Agt,Mb,aa]
  clear aa
  repeat' first|refine Z1 ?_|refine Z8 fun ya J=>?_|refine Z4 ?_;clear J ya|refine Z2 ?_ ?_<;>intro h ad<;>try exact Xp|refine Z5 ?_;refine Xi (Uc N x _ (PI.of hm hb) ae af _) ?_;rintro _ _ ⟨rfl,am⟩|refine Z3 ?_|exact Zt|apply J.out;clear J ya
  ·exact⟨_,rfl,by rw[Ft ac (by rw[hv.out];simp[*]) ab.out],Xs⟩
  ·exact⟨l.length-(i+1),Agm,i+1,rfl,Agm,by simp,Xs,Mh ab.out (by rw[hv.out];simp[*])⟩
 ·have ai:i=l.length:=Agm;subst ai
  repeat' first|refine Z1 ?_|refine Z8 fun ya J=>?_|refine Z4 ?_;clear J ya|refine Z2 ?_ ?_<;>intro h ad<;>try exact Xp|refine Z3 ?_|exact Zt|apply J.out;clear J ya
  first|exact⟨_,rfl,by rw[B7 ab.out],hK⟩|exact⟨_,rfl,by rw[B7 ab.out]⟩
def Ij (S:List RAtom)(p:Tx):Nat:=match S.find? (fun a=>a.pred==p)with|some a=>a.terms.length|none=>0
def Pv (S:List RAtom):Prop:=∀b∈S,0<b.terms.length/\b.terms.length=Ij S b.pred
theorem xF (S:List RAtom)(a:RAtom)(p:Tx):Ij (S++[a]) p=match S.find? (fun a=>a.pred==p)with|some b=>b.terms.length|none=>if a.pred=p then a.terms.length else 0:=by
 unfold Ij;rw[List.find?_append];cases hf:S.find? (fun a=>a.pred==p)with
 |some b=>simp
 |none=>by_cases h:a.pred=p<;>simp[h]
theorem Vq {S:List RAtom}(h:Pv S)(p:Tx):Ij S p=0↔S.find? (fun a=>a.pred==p)=none:=by
 unfold Ij;cases hf:S.find? (fun a=>a.pred==p)with
 |none=>simp
 |some b=>
  have hb:=(h b (Ae1 hf)).1;constructor
  ·intro e;have e:b.terms.length=0:=e;omega
  ·intro e;cases e
theorem aH {S:List RAtom}(h:Pv S)(a:RAtom):S.any (clash a)=true↔(Ij S a.pred≠0/\Ij S a.pred≠a.terms.length):=by
 rw[Aer];constructor
 ·rintro⟨b,hb,hc⟩;simp only[clash,Adr,Agf,Age]at hc;have:=h b hb;rw[hc.1]at this;omega
 ·rintro⟨h1,h2⟩;have h3:S.find? (fun b=>b.pred==a.pred)≠none:=fun e=>h1 ((Vq h _).2 e);cases hf:S.find? (fun b=>b.pred==a.pred)with
  |none=>exact absurd hf h3
  |some b=>
   have hp:(b.pred==a.pred)=true:=List.find?_some (p:=fun b:RAtom=>b.pred==a.pred) hf;have aa:Ij S a.pred=b.terms.length:=by unfold Ij;rw[hf]
   exact⟨b,Ae1 hf,by simp only[clash,hp,Afb,Age];omega⟩
theorem Vp {S:List RAtom}(h:Pv S)(a:RAtom)(p:Tx):Ij (S++[a]) p=if p=a.pred/\Ij S a.pred=0 then a.terms.length else Ij S p:=by
 rw[xF];cases hf:S.find? (fun b=>b.pred==p)with
 |some b=>
  have h1:Ij S p≠0:=fun e=>by rw[Vq h,hf]at e;cases e
  have hx:¬(p=a.pred/\Ij S a.pred=0):=fun e=>h1 (by rw[e.1];exact e.2);have hy:Ij S p=b.terms.length:=by unfold Ij;rw[hf]
  rw[if_neg hx,hy]
 |none=>
  have h1:Ij S p=0:=(Vq h _).2 hf;by_cases e:p=a.pred
  ·subst e;rw[if_pos rfl,if_pos ⟨rfl,h1⟩]
  ·rw[if_neg (fun e'=>e e'.symm),if_neg (by rintro⟨e',-⟩;exact e e'),h1]
theorem aG {S:List RAtom}{a:RAtom}(h:Pv S)(ha:0<a.terms.length)(hc:S.any (clash a)=false):Pv (S++[a]):=by
 have hn:¬(Ij S a.pred≠0/\Ij S a.pred≠a.terms.length):=fun e=>by rw[<-aH h a,hc]at e;cases e
 intro b hb;rw[Vp h];rcases Aet.1 hb with hb|hb
 ·have:=h b hb;refine⟨this.1,?_⟩;by_cases e:b.pred=a.pred/\Ij S a.pred=0
  ·rw[e.1]at this;omega
  ·rw[if_neg e];exact this.2
 ·simp at hb;subst hb;refine⟨ha,?_⟩;by_cases e:Ij S b.pred=0
  ·rw[if_pos ⟨rfl,e⟩]
  ·rw[if_neg (by rintro⟨-,e'⟩;exact e e')];omega
theorem xD:Pv []:=fun b hb=>by cases hb
def Mw (n:Nat)(cc:Nat->Int):List AV:=(List.range n).map fun i=>sc (.int .i64 (cc i))
theorem Vo (n:Nat)(cc:Nat->Int):(Mw n cc).length=n:=by simp[Mw]
theorem Lv {n i:Nat}(cc:Nat->Int)(h:i<n):(Mw n cc)[i]?=some (sc (.int .i64 (cc i))):=by simp[Mw,h]
theorem wX {n i:Nat}(cc:Nat->Int)(v:Int):(Mw n cc).set i (sc (.int .i64 v))=Mw n (fun j=>if j=i then v else cc j):=by
 apply Ad5;intro j;rw[Adv];by_cases hj:j<n
 ·rw[Lv (fun j=>if j=i then v else cc j) hj];by_cases e:i=j
  ·subst e;rw[if_pos rfl,Vo,if_pos hj];simp
  ·rw[if_neg e,Lv _ hj,if_neg (fun e'=>e e'.symm)]
 ·have h1:(Mw n fun j=>if j=i then v else cc j)[j]?=none:=by simp[Mw];omega
  have h2:(Mw n cc)[j]?=none:=by simp[Mw];omega
  rw[h1,h2];split
  ·rw[Vo];rw[if_neg Agm]
  ·rfl
theorem sO (n:Nat):List.replicate n (sc (.int .i64 0))=Mw n fun _=>0:=by
 apply Ad5;intro j;by_cases hj:j<n
 ·rw[Lv _ hj];simp[hj]
 ·simp[Mw,hj]
theorem El {N:List Tx}{p q:Tx}(hp:p∈N)(hq:q∈N)(h:N.idxOf p=N.idxOf q):p=q:=by
 have h1:=Afi (Afj hp);have h2:=Afi (Afj hq);rw[<-h1,<-h2];congr 1
def cntsOk (N:List Tx)(S:List RAtom)(cc:Nat->Int):Prop:=∀p∈N,cc (N.idxOf p)=(Ij S p:Nat)
theorem cntsOk.step {N:List Tx}{S:List RAtom}{cc:Nat->Int}{a:RAtom}(h:cntsOk N S cc)(hc:Pv S)(ha:a.pred∈N):
  (cc (N.idxOf a.pred)=0->cntsOk N (S++[a]) (fun j=>if j=N.idxOf a.pred then (a.terms.length:Int)else cc j))/\(cc (N.idxOf a.pred)≠0->cntsOk N (S++[a]) cc):=by
 have h0:=h a.pred ha;constructor
 ·intro e p hp;rw[Vp hc];dsimp only;by_cases ep:p=a.pred
  ·subst ep;rw[if_pos rfl,if_pos ⟨rfl,Agm⟩]
  ·rw[if_neg (fun e'=>ep (El hp ha e')),if_neg (by rintro⟨e',-⟩;exact ep e')];exact h p hp
 ·intro e p hp;rw[Vp hc,if_neg (by rintro⟨-,e'⟩;omega)];exact h p hp
theorem Rr (N:List Tx)(l:List RItem)(cs:List AV)(idn idi:Nat)(hB:Bk N l cs)(z:St):ACalls Tryz.prog 121 [C8 N idn l idi cs] z fun r z'=>r=sc (.int .i64 (Ba (Fq l) l.length))/\Keep z z':=by
 have a0:=EL.length Gg hB.el;have bm:=hB.len;have hN:=hB.nm;refine Z9 52 [.tmp 2] Tryz.func121 ?_
 refine zz ?_
 refine Ad (fun m s z'=>∃(i:Nat) (cc:Nat->Int),m=l.length-i/\i<=l.length/\s 3=fx (z.nobj+1) 0 N.length/\s 13=sl idi l.length cs/\s 14=sc (.int .i64 l.length)/\s 15=sc (.int .i64 i)/\Keep z z'/\z.nobj+1<z'.nobj/\z'.obj (z.nobj+1)=Mw N.length cc/\Agt (cntsOk N (F6 l i) cc)/\Agt (Pv (F6 l i))/\Agt (noO l i)) l.length
  ⟨0,fun _=>0,Agm,Agm,?_,rfl,rfl,rfl,Xs,Agq,?_,?_,by simp[Agt,F6,xD],fun a h=>Agm⟩ ?_
 ·simp[upd]
 ·show (if z.nobj+1=z.nobj+1 then _ else _)=_;rw[if_pos rfl];exact sO _
 ·intro p hp;simp[F6,Ij]
 rintro m s z' ⟨i,cc,rfl,hi,h3,a6,a5,a4,hK,ae,aw,hC,hS,au⟩;have a8:=hK.nobj;by_cases am:i<l.length
 ·have aa:=Adn am;have ay:=hB.fits l[i] (Aes am);have ba:=hB.out l[i] (Aes am);have a9:=hB.pos l[i] (Aes am);obtain⟨hm,ih,id,b,r,hb,hd⟩:=J6 hB.el aa;generalize l[i]=x at hd aa ay ba hb hm a9;have HX:Agt (l[i]?=some x):=aa;clear aa;have b3:=ay.atoms
  repeat' first|refine Z1 ?_|refine Z8 fun ya J=>?_|refine Z4 ?_;clear J ya|refine Z2 ?_ ?_<;>intro h ab<;>try exact Xp|refine Z5 ?_;refine Xi (Lm N x _ (PI.of hm hb) ba (by have:=ay.1;omega) _) ?_;rintro _ _ ⟨ida,cs2,rfl,bf,a3⟩;(have ah:=a3.obj;have ai:=a3.nobj;(try simp only[Aa,Ac,Ax]at ai))|refine Z3 ?_|exact Zt|apply J.out;clear J ya
  rename_i z1;have bq:=EL.length cV bf;have be:Keep z z1:=Xs;have aj:z1.obj (z.nobj+1)=Mw N.length cc:=by
   rw[ah _ (by simp only[Aa,Ac];omega),Ak Agm,Ah ae];exact aw
  clear ah
  refine Ad (fun m s z'=>∃(j:Nat) (cc:Nat->Int),m=(Ae x).length-j/\j<=(Ae x).length/\s 3=fx (z.nobj+1) 0 N.length/\s 4=sc (.int .i64 i)/\s 13=sl idi l.length cs/\s 14=sc (.int .i64 l.length)/\s 15=sc (.int .i64 i)/\s 21=sl ida (Ae x).length cs2/\s 22=sc (.int .i64 (Ae x).length)/\s 23=sc (.int .i64 j)/\Keep z z'/\z.nobj+1<z'.nobj/\z'.obj (z.nobj+1)=Mw N.length cc/\Agt (cntsOk N (Cj l x i j) cc)/\Agt (Pv (Cj l x i j))/\Agt (Acp l x i j)) (Ae x).length
   ⟨0,cc,Agm,Agm,by simp[upd,h3],Ago,by simp[upd,a6],by simp[upd,a5],by simp[upd,a4],Ago,rfl,rfl,be,Agm,aj,by simpa[Cj]using hC,by simpa[Cj]using hS,fun b h=>Agm⟩ ?_
  clear aj hK aw hC hS a3 ai a8 h3 a6 a5 a4 ae cc be;rintro m s z' ⟨j,cc,rfl,hj,h3,h4,a6,a5,a4,b6,b5,b4,hK,ae,aw,hC,hS,ad⟩;have a8:=hK.nobj;by_cases af:j<(Ae x).length
  ·have aa:=Adn af;have hp2:=a9 (Ae x)[j] (Aes af);obtain⟨ha,ia,r2,bb⟩:=yH bf aa;generalize (Ae x)[j]=a at bb aa ha hp2;have HA:Agt ((Ae x)[j]?=some a):=aa;clear aa;have ac:Agt (Kw l x i j=(Cj l x i j).any (clash a)):=by rw[Agt,Kw,HA.out]
   have ax:=Afj ha;have ap:=hC.out.step hS.out ha;have az:=hC.out a.pred ha;have bc:=Lv cc ax;have an:=fun v=>wX (n:=N.length) (i:=N.idxOf a.pred) cc v;have b0:=Vo N.length cc;generalize br:cc (N.idxOf a.pred)=c at bc ap az;clear br;generalize N.idxOf a.pred=ix at bb bc ax ap an;have a0:=aH hS.out a;have bg:Agt _:=ap;have av:Agt _:=az;have a7:Agt _:=a0;clear ap az a0;by_cases ao:(c==0)=true
   ·have b2:((Mw N.length cc).set ix (sc (.int .i64 a.terms.length)))[ix]?=some (sc (.int .i64 a.terms.length)):=by rw[an,Lv _ ax];simp
    have b1:((a.terms.length:Int) !=a.terms.length)=false:=by simp
    have bu:c=0:=by simpa using ao
    have bz:Agt _:=an;clear an
    repeat' first|refine Z1 ?_|refine Z8 fun ya J=>?_|refine Z4 ?_;clear J ya|refine Z2 ?_ ?_<;>intro h ab<;>try exact Xp|refine Z3 ?_|exact Zt|apply J.out;clear J ya
    refine Aw Ag (fun _=>True) [8] [0,1,2,3,4,5,6,7] [8] Agp (fun _ _ _ h=>h) ?_;intro ya J;refine Z3 ?_
    repeat' first|refine Z1 ?_|refine Z8 fun ya J=>?_|refine Z4 ?_;clear J ya|refine Z2 ?_ ?_<;>intro h ab<;>try exact Xp|refine Z3 ?_|exact Zt|apply J.out;clear J ya
    have ak:(Cj l x i j).any (clash a)=false:=by
     cases hq:(Cj l x i j).any (clash a)with
     |false=>rfl
     |true=>exfalso;have h1:=(a7.out.1 hq).1;have h2:=av.out;omega
    refine⟨(Ae x).length-(j+1),Agm,j+1,_,rfl,Agm,by simp,((hK.new _).put hK.nobj _).put Agm _,Agm,bz.out _,?_,?_,Mh ad.out (by rw[ac.out];exact ak)⟩
    ·rw[Agt,Hr HA.out];exact bg.out.1 bu
    ·rw[Agt,Hr HA.out];exact aG hS.out hp2 ak
   ·have ao:(c==0)=false:=by simpa using ao
    clear an
    repeat' first|refine Z1 ?_|refine Z8 fun ya J=>?_|refine Z4 ?_;clear J ya|refine Z2 ?_ ?_<;>intro h ab<;>try exact Xp|refine Z3 ?_|exact Zt|apply J.out;clear J ya
    refine Aw Ag (fun _=>True) [8] [0,1,2,3,4,5,6,7] [8] Agp (fun _ _ _ h=>h) ?_;intro ya J;refine Z3 ?_
    repeat' first|refine Z1 ?_|refine Z8 fun ya J=>?_|refine Z4 ?_;clear J ya|refine Z2 ?_ ?_<;>intro h ab<;>try exact Xp|refine Z3 ?_|exact Zt|apply J.out;clear J ya
    ·have bd:c≠0:=by simpa using ao
     have bv:c≠a.terms.length:=by simpa using h
     have bp:=a7.out.2 ⟨by have:=av.out;omega,by have:=av.out;omega⟩;have bi:Fq l i=true:=by
      unfold Fq;rw[HX.out];dsimp only;rw[Aer];exact⟨j,by simpa using af,by rw[ac.out];exact bp⟩
     exact⟨_,rfl,by rw[Ft am bi au.out],(hK.new _).put hK.nobj _⟩
    ·have bd:c≠0:=by simpa using ao
     have bv:c=a.terms.length:=by simpa using h
     have ak:(Cj l x i j).any (clash a)=false:=by
      cases hq:(Cj l x i j).any (clash a)with
      |false=>rfl
      |true=>exfalso;have h1:=(a7.out.1 hq).2;have h2:=av.out;omega
     refine⟨(Ae x).length-(j+1),Agm,j+1,cc,rfl,Agm,by simp,(hK.new _).put hK.nobj _,Agm,rfl,?_,?_,Mh ad.out (by rw[ac.out];exact ak)⟩
     ·rw[Agt,Hr HA.out];exact bg.out.2 bd
     ·rw[Agt,Hr HA.out];exact aG hS.out hp2 ak
  ·have bn:j=(Ae x).length:=Agm;subst bn
   repeat' first|refine Z1 ?_|refine Z8 fun ya J=>?_|refine Z4 ?_;clear J ya|refine Z2 ?_ ?_<;>intro h ab<;>try exact Xp|refine Z3 ?_|exact Zt|apply J.out;clear J ya
   have bh:Cj l x i (Ae x).length=F6 l (i+1):=by rw[Yz HX.out];simp[Cj]
   rw[bh]at hC hS;refine⟨l.length-(i+1),Agm,i+1,cc,rfl,Agm,by simp,rfl,hC,hS,Mh au.out ?_⟩;unfold Fq;rw[HX.out];dsimp only;rw[Aev];intro b hb;have bw:=ad.out b (by simpa using hb);simp[bw]
 ·have bo:i=l.length:=Agm;subst bo
  repeat' first|refine Z1 ?_|refine Z8 fun ya J=>?_|refine Z4 ?_;clear J ya|refine Z2 ?_ ?_<;>intro h ab<;>try exact Xp|refine Z3 ?_|exact Zt|apply J.out;clear J ya
  first|exact⟨_,rfl,by rw[B7 au.out],hK⟩|exact⟨_,rfl,by rw[B7 au.out]⟩
def Hh (n:Nat)(f:Nat->Bool):List AV:=(List.range n).map fun i=>sc (.bool (f i))
theorem Ex (n:Nat)(f:Nat->Bool):(Hh n f).length=n:=by simp[Hh]
theorem G7 {n i:Nat}(f:Nat->Bool)(h:i<n):(Hh n f)[i]?=some (sc (.bool (f i))):=by simp[Hh,h]
theorem Vr {n i:Nat}(f:Nat->Bool)(v:Bool):(Hh n f).set i (sc (.bool v))=Hh n (fun j=>if j=i then v else f j):=by
 apply Ad5;intro j;rw[Adv];by_cases hj:j<n
 ·rw[G7 (fun j=>if j=i then v else f j) hj];by_cases e:i=j
  ·subst e;rw[if_pos rfl,Ex,if_pos hj];simp
  ·rw[if_neg e,G7 _ hj,if_neg (fun e'=>e e'.symm)]
 ·have h1:(Hh n fun j=>if j=i then v else f j)[j]?=none:=by simp[Hh];omega
  have h2:(Hh n f)[j]?=none:=by simp[Hh];omega
  rw[h1,h2];split
  ·rw[Ex];rw[if_neg Agm]
  ·rfl
theorem aI (n:Nat):List.replicate n (sc (.bool false))=Hh n fun _=>false:=by
 apply Ad5;intro j;by_cases hj:j<n
 ·rw[G7 _ hj];simp[hj]
 ·simp[Hh,hj]
def Fy (B n k:Nat):List AV:=(List.range k).map fun i=>fx (B+i) 0 n
theorem Jl (B n k:Nat):(Fy B n k).length=k:=by simp[Fy]
theorem lA (B n k:Nat):Fy B n (k+1)=Fy B n k++[fx (B+k) 0 n]:=by simp[Fy,List.range_succ]
theorem Jm {B n k i:Nat}(h:i<k):(Fy B n k).drop i=fx (B+i) 0 n::(Fy B n k).drop (i+1):=by
 rw[Aeo (by rw[Jl];exact h)];simp[Fy]
def Mat (B n:Nat)(M:Nat->Nat->Bool)(z:St):Prop:=∀i,i<n->z.obj (B+i)=Hh n (M i)
theorem Mat.keep {B n:Nat}{M:Nat->Nat->Bool}{z z':St}(h:Mat B n M z)(k:Keep z z')(hn:B+n<=z.nobj):Mat B n M z':=fun i hi=>by rw[k.obj _ Agm];exact h i hi
theorem Mat.new {B n:Nat}{M:Nat->Nat->Bool}{z:St}(h:Mat B n M z)(hn:B+n<=z.nobj)(cs:List AV):Mat B n M (z.new cs):=fun i hi=>by rw[Ah Agm];exact h i hi
theorem Mat.put {B n o:Nat}{M:Nat->Nat->Bool}{z:St}(h:Mat B n M z)(ho:B+n<=o)(cs:List AV):Mat B n M (z.put o cs):=fun i hi=>by rw[Ak Agm];exact h i hi
theorem Mat.set {B n p q:Nat}{M:Nat->Nat->Bool}{z:St}(h:Mat B n M z)(hp:p<n)(v:Bool):Mat B n (set2 M p q v) (z.put (B+p) ((Hh n (M p)).set q (sc (.bool v)))):=fun i hi=>by
 by_cases e:i=p
 ·subst e;rw[Aj,Vr];congr 1;funext j;simp[set2]
 ·have hx:(z.put (B+p) ((Hh n (M p)).set q (sc (.bool v)))).obj (B+i)=z.obj (B+i):=by
   by_cases hl:i<p
   ·exact Ak Agm
   ·exact Ma Agm
  rw[hx,h i hi];congr 1;funext j;simp[set2,e]
def Zh (N:List Tx)(l:List RItem)(p q:Nat):Prop:=∃x∈l,N.idxOf x.head.pred=p/\∃a∈x.body,N.idxOf a.pred=q
def Aco (N:List Tx)(x:RItem)(b:List RAtom)(p q:Nat):Prop:=N.idxOf x.head.pred=p/\∃a∈b,N.idxOf a.pred=q
def Ei (N:List Tx)(l:List RItem)(M:Nat->Nat->Bool):Prop:=∀p q,M p q=true↔Zh N l p q
def isOnceQ (N:List Tx)(l:List RItem)(x:RItem)(b:List RAtom)(M:Nat->Nat->Bool):Prop:=∀p q,M p q=true↔Zh N l p q\/Aco N x b p q
theorem isOnceQ.step {N:List Tx}{l:List RItem}{x:RItem}{j:Nat}{a:RAtom}{M:Nat->Nat->Bool}(h:isOnceQ N l x (x.body.take j) M)(ha:x.body[j]?=some a):isOnceQ N l x (x.body.take (j+1)) (set2 M (N.idxOf x.head.pred) (N.idxOf a.pred) true):=by
 intro p q;rw[Ad0,ha];unfold set2;by_cases e:p=N.idxOf x.head.pred/\q=N.idxOf a.pred
 ·rw[if_pos e];simp only[true_iff];exact .inr ⟨e.1.symm,a,by simp,e.2.symm⟩
 ·rw[if_neg e,h p q];constructor
  ·rintro (h|⟨h1,b,hb,h2⟩)
   ·exact .inl h
   ·exact .inr ⟨h1,b,by simp[hb],h2⟩
  ·rintro (h|⟨h1,b,hb,h2⟩)
   ·exact .inl h
   ·simp only[Aez,Aet,Afk]at hb;rcases hb with hb|rfl
    ·exact .inr ⟨h1,b,hb,h2⟩
    ·exact absurd ⟨h1.symm,h2.symm⟩ e
theorem isOnceQ.zero {N:List Tx}{l:List RItem}{x:RItem}{M:Nat->Nat->Bool}(h:Ei N l M):isOnceQ N l x (x.body.take 0) M:=by
 intro p q;rw[h p q];constructor
 ·exact .inl
 ·rintro (h|⟨-,b,hb,-⟩)
  ·exact h
  ·simp at hb
theorem isOnceQ.done {N:List Tx}{l:List RItem}{x:RItem}{i:Nat}{M:Nat->Nat->Bool}(h:isOnceQ N (l.take i) x x.body M)(hx:l[i]?=some x):Ei N (l.take (i+1)) M:=by
 intro p q;rw[h p q,Ad0,hx];constructor
 ·rintro (⟨y,hy,g⟩|g)
  ·exact⟨y,by simp[hy],g⟩
  ·exact⟨x,by simp,g⟩
 ·rintro⟨y,hy,g⟩;simp only[Aez,Aet,Afk]at hy;rcases hy with hy|rfl
  ·exact .inl ⟨y,hy,g⟩
  ·exact .inr g
theorem Rk (N:List Tx)(l:List RItem)(cs:List AV)(idn idi:Nat)(hB:Bk N l cs)(z:St):ACalls Tryz.prog 206 [C8 N idn l idi cs] z fun r z'=>∃idu B M,r=sl idu N.length (Fy B N.length N.length)/\Keep z z'/\z.nobj<=B/\B+N.length<=z'.nobj/\Mat B N.length M z'/\Ei N l M:=by
 have bu:=EL.length Gg hB.el;have bf:=hB.len;have hN:=hB.nm;refine Z9 51 [.tmp 2] Tryz.func206 ?_
 refine zz ?_
 refine Ad (fun m s z'=>∃(k idu:Nat),m=N.length-k/\k<=N.length/\s 1=ptr z.nobj 0/\s 3=sl idu k (Fy (z.nobj+1) N.length k)/\s 12=sc (.int .i64 N.length)/\s 13=sc (.int .i64 k)/\Keep z z'/\Own z z' idu k/\z'.nobj=z.nobj+1+k/\z'.obj z.nobj=[sl idn N.length (N.map str),sl idi l.length cs]/\Agt (∀i,i<k->z'.obj (z.nobj+1+i)=Hh N.length fun _=>false)) N.length
  ⟨0,1,Agm,Agm,rfl,rfl,rfl,rfl,Xs,Own.nil _ _,rfl,Al,fun i hi=>Agm⟩ ?_
 rintro m s z' ⟨k,idu,rfl,hk,h1,h3,bp,bo,hK,hO,ac,az,hM⟩;have a9:=Jl (z.nobj+1) N.length k;by_cases ai:k<N.length
 ·repeat' first|refine Z1 ?_|refine Z8 fun ya J=>?_|refine Z4 ?_;clear J ya|refine Z2 ?_ ?_<;>intro h ab<;>try exact Xp|refine Z3 ?_|exact Zt
  have bn:Keep z (z'.new (List.replicate N.length (sc (.bool false)))):=hK.new _;refine Bz (by first|exact Oz) bn (Own.new hO _) (by decide) (by rfl) (by rw[a9,Nat.mul_one]) (by rfl) (by rfl) (by decide) Agm Agm ?_;intro idn2 zn bm bw ae af bq a7;have bc:zn.obj z.nobj=[sl idn N.length (N.map str),sl idi l.length cs]:=by rw[ae,Ah Agm];exact az
  rw[Aa,ac]at af;refine Z3 ?_
  refine zz ?_
  refine⟨N.length-(k+1),Agm,k+1,idn2,rfl,Agm,by rw[lA],by simp,bm,Agm,?_⟩;intro i hi
  try rw[ae]
  by_cases e:i=k
  ·subst e;rw[<-ac,Al,aI]
  ·rw[Ah Agm];exact hM.out i Agm
 ·have bg:k=N.length:=Agm;subst bg
  repeat' first|refine Z1 ?_|refine Z8 fun ya J=>?_|refine Z4 ?_;clear J ya|refine Z2 ?_ ?_<;>intro h ab<;>try exact Xp|refine Z3 ?_|exact Zt|apply J.out;clear J ya
  have a6:Mat (z.nobj+1) N.length (fun _ _=>false) z':=hM.out;have ad:z.nobj+1+N.length<=z'.nobj:=Agm;clear hM ac hO az bo bp h1
  refine Ad (fun m s z'=>∃(i:Nat) (M:Nat->Nat->Bool),m=l.length-i/\i<=l.length/\s 3=sl idu N.length (Fy (z.nobj+1) N.length N.length)/\s 25=sl idi l.length cs/\s 26=sc (.int .i64 l.length)/\s 27=sc (.int .i64 i)/\Keep z z'/\z.nobj+1+N.length<=z'.nobj/\Agt (Mat (z.nobj+1) N.length M z')/\Agt (Ei N (l.take i) M)) l.length
   ⟨0,fun _ _=>false,Agm,Agm,by simp[upd,h3],Ago,Ago,rfl,hK,ad,a6,fun p q=>by simp[Zh]⟩ ?_
  clear a6 ad h3 hK h ab ai hk;rintro m s z' ⟨i,M,rfl,hi,h3,au,ap,ao,hK,ad,hM,hI⟩;have ax:=hK.nobj;by_cases ai:i<l.length
  ·have aa:=Adn ai;have a4:=hB.fits l[i] (Aes ai);obtain⟨hm,ih,id,b,r,hb,hd⟩:=J6 hB.el aa;generalize l[i]=x at hd aa a4 hb hm;have HX:Agt (l[i]?=some x):=aa;clear aa;have bv:=EL.length Fe hb;have br:=a4.1;have ah:=Afj hm
   repeat' first|refine Z1 ?_|refine Z8 fun ya J=>?_|refine Z4 ?_;clear J ya|refine Z2 ?_ ?_<;>intro h ab<;>try exact Xp|refine Z3 ?_|exact Zt|apply J.out;clear J ya
   have an:Keep z ((z'.new [sc (.bool false),sc (.int .i64 0),nilS,nilS]).put z'.nobj [sc (.bool x.out),sc (.int .i64 (N.idxOf x.head.pred:Nat)),sl ih x.head.terms.length (A0 x.head.terms),sl id x.body.length b]):=(hK.new _).put hK.nobj _;have am:=(hM.out.new ad [sc (.bool false),sc (.int .i64 0),nilS,nilS]).put ad [sc (.bool x.out),sc (.int .i64 (N.idxOf x.head.pred:Nat)),sl ih x.head.terms.length (A0 x.head.terms),sl id x.body.length b];generalize a0:z'.nobj=o6 at an am ad
   refine Ad (fun m s z''=>∃(j:Nat) (M:Nat->Nat->Bool),m=x.body.length-j/\j<=x.body.length/\s 3=sl idu N.length (Fy (z.nobj+1) N.length N.length)/\s 6=ptr o6 0/\s 25=sl idi l.length cs/\s 26=sc (.int .i64 l.length)/\s 27=sc (.int .i64 i)/\s 32=sl id x.body.length b/\s 33=sc (.int .i64 x.body.length)/\s 34=sc (.int .i64 j)/\Keep z z''/\o6<z''.nobj/\z''.obj o6=[sc (.bool x.out),sc (.int .i64 (N.idxOf x.head.pred:Nat)),sl ih x.head.terms.length (A0 x.head.terms),sl id x.body.length b]/\Agt (Mat (z.nobj+1) N.length M z'')/\Agt (isOnceQ N (l.take i) x (x.body.take j) M)) x.body.length
    ⟨0,M,Agm,Agm,by simp[upd,h3],by simp[upd,a0],by simp[upd,au],by simp[upd,ap],by simp[upd,ao],Ago,rfl,rfl,?_,?_,?_,?_,isOnceQ.zero hI.out⟩ ?_
   ·exact an
   ·rw[Ac,Aa];omega
   ·rw[Aj]
   ·exact am
   clear am an hK hM hI h3 au ap ao ax M a0;rintro m s z'' ⟨j,M,rfl,hj,h3,h6,au,ap,ao,b1,b0,bz,hK,bd,aj,hM,hI⟩;have ax:=hK.nobj;by_cases ak:j<x.body.length
   ·have aa:=Adn ak;obtain⟨ha,ia,r2,a5⟩:=Wb hb aa;generalize x.body[j]=a at a5 aa ha;have HA:Agt (x.body[j]?=some a):=aa;clear aa;have bb:=Afj ha;have ba:=Jm (B:=z.nobj+1) (n:=N.length) (k:=N.length) ah;have be:=hM.out _ ah;have a8:=Ex N.length (M (N.idxOf x.head.pred));have ay:=isOnceQ.step hI.out HA.out;have av:Agt _:=ay;have a3:=fun (τ:St) (hτ:Mat (z.nobj+1) N.length M τ)=>Mat.set (q:=N.idxOf a.pred) hτ ah true;have aw:Agt _:=a3;clear ay a3;generalize N.idxOf x.head.pred=ph at aj ah ba be a8 av aw;generalize N.idxOf a.pred=qa at a5 bb av aw
    repeat' first|refine Z1 ?_|refine Z8 fun ya J=>?_|refine Z4 ?_;clear J ya|refine Z2 ?_ ?_<;>intro h ab<;>try exact Xp|refine Z3 ?_|exact Zt|apply J.out;clear J ya
    refine Aw Ag (fun _=>True) [10] [0,1,2,3,4,5,6,7,8,9] [10] Agp (fun _ _ _ h=>h) ?_;intro ya J;refine Z3 ?_
    refine zz ?_
    exact⟨x.body.length-(j+1),Agm,j+1,_,rfl,Agm,by simp,((hK.new _).put hK.nobj _).put Agm _,Agm,aw.out _ (Mat.put (Mat.new hM.out Agm _) Agm _),av.out⟩
   ·have bh:j=x.body.length:=Agm;subst bh;rw[Adu]at hI
    repeat' first|refine Z1 ?_|refine Z8 fun ya J=>?_|refine Z4 ?_;clear J ya|refine Z2 ?_ ?_<;>intro h ab<;>try exact Xp|refine Z3 ?_|exact Zt|apply J.out;clear J ya
    exact⟨l.length-(i+1),Agm,i+1,M,rfl,Agm,by simp,Agm,hM,isOnceQ.done hI.out HX.out⟩
  ·have bi:i=l.length:=Agm;subst bi;rw[Adu]at hI
   repeat' first|refine Z1 ?_|refine Z8 fun ya J=>?_|refine Z4 ?_;clear J ya|refine Z2 ?_ ?_<;>intro h ab<;>try exact Xp|refine Z3 ?_|exact Zt|apply J.out;clear J ya
   exact⟨_,rfl,idu,z.nobj+1,M,rfl,Agm,ad,hM.out,hI.out⟩
theorem rL {n:Nat}{M W:Nat->Nat->Bool}{m i k:Nat}(h:part n M m i k W)(hv:fw M m i k=M i k):part n M m i (k+1) W:=by
 intro a b;rw[h];by_cases hc:(a<i/\b<n)\/(a=i/\b<k)
 ·rw[if_pos hc,if_pos Agm]
 ·rw[if_neg hc];by_cases hd:(a<i/\b<n)\/(a=i/\b<k+1)
  ·rw[if_pos hd];have e1:a=i:=Agm;have e2:b=k:=Agm;rw[e1,e2,hv]
  ·rw[if_neg hd]
theorem rK {n:Nat}{M W:Nat->Nat->Bool}{m i:Nat}(h:part n M m i 0 W)(hv:M i m=false):part n M m (i+1) 0 W:=by
 intro a b;rw[h];by_cases hc:(a<i/\b<n)\/(a=i/\b<0)
 ·rw[if_pos hc,if_pos Agm]
 ·rw[if_neg hc];by_cases hd:(a<i+1/\b<n)\/(a=i+1/\b<0)
  ·rw[if_pos hd];have e1:a=i:=Agm;rw[e1];simp[fw,hv]
  ·rw[if_neg hd]
theorem Ub (N:List Tx)(l:List RItem)(cs:List AV)(idn idi:Nat)(hB:Bk N l cs)(z:St):ACalls Tryz.prog 165 [C8 N idn l idi cs] z fun r z'=>∃idu B M,r=sl idu N.length (Fy B N.length N.length)/\Keep z z'/\z.nobj<=B/\B+N.length<=z'.nobj/\Mat B N.length (Hv N.length M N.length) z'/\Ei N l M:=by
 have hN:=hB.nm;refine Z9 49 [.tmp 2] Tryz.func165 ?_
 repeat' first|refine Z1 ?_|refine Z8 fun ya J=>?_|refine Z4 ?_;clear J ya|refine Z5 ?_;refine Xi (Rk N l cs idn idi hB _) ?_;rintro _ _ ⟨idu,B,M0,rfl,bb,bc,ah,av,ax⟩;(rw[Aa]at bc)|refine Z3 ?_|exact Zt|apply J.out;clear J ya
 rename_i z1;have az:Agt (Ei N l M0):=ax;clear ax;have bh:=Jl B N.length N.length;have aw:Keep z z1:=Xs;clear bb
 refine Ad (fun q s z'=>∃m:Nat,q=N.length-m/\m<=N.length/\s 3=sl idu N.length (Fy B N.length N.length)/\s 10=sc (.int .i64 N.length)/\s 11=sc (.int .i64 m)/\Keep z z'/\B+N.length<=z'.nobj/\Agt (Mat B N.length (Hv N.length M0 m) z')) N.length
  ⟨0,Agm,Agm,rfl,rfl,rfl,aw,ah,av⟩ ?_
 clear aw av ah;rintro q s z' ⟨m,rfl,hm,h3,ae,ad,hK,ac,hM⟩;by_cases aj:m<N.length
 ·generalize au:Hv N.length M0 m=M at hM;have be:Agt _:=au;clear au
  repeat' first|refine Z1 ?_|refine Z8 fun ya J=>?_|refine Z4 ?_;clear J ya|refine Z2 ?_ ?_<;>intro h aa<;>try exact Xp|refine Z3 ?_|exact Zt|apply J.out;clear J ya
  refine Ad (fun q s z'=>∃(i:Nat) (W:Nat->Nat->Bool),q=N.length-i/\i<=N.length/\s 3=sl idu N.length (Fy B N.length N.length)/\s 4=sc (.int .i64 m)/\s 10=sc (.int .i64 N.length)/\s 11=sc (.int .i64 m)/\s 15=sc (.int .i64 N.length)/\s 16=sc (.int .i64 i)/\Keep z z'/\B+N.length<=z'.nobj/\Agt (Mat B N.length W z')/\Agt (part N.length M m i 0 W)) N.length
   ⟨0,M,Agm,Agm,by simp[upd,h3],Ago,by simp[upd,ae],by simp[upd,ad],rfl,rfl,hK,ac,hM,Y9⟩ ?_
  clear hK ac hM h3 ae ad;rintro q s z' ⟨i,W,rfl,hi,h3,h4,ae,ad,an,am,hK,ac,hM,hW⟩;by_cases ab:i<N.length
  ·have bi:=Jm (B:=B) (n:=N.length) (k:=N.length) ab;have a7:=hM.out _ ab;have a4:=Ex N.length (W i);have af:=G7 (W i) aj;obtain⟨-,v2,-⟩:=Uh hW.out (by omega:0<N.length) aj;rw[v2]at af;have bd:Agt _:=v2;clear v2
   repeat' first|refine Z1 ?_|refine Z8 fun ya J=>?_|refine Z4 ?_;clear J ya|refine Z2 ?_ ?_<;>intro h aa<;>try exact Xp|refine Z3 ?_|exact Zt|apply J.out;clear J ya
   ·exact⟨N.length-(i+1),Agm,i+1,W,rfl,Agm,by simp,hM,rK hW.out h⟩
   ·have ak:M i m=true:=h
    refine Ad (fun q s z'=>∃(k:Nat) (W:Nat->Nat->Bool),q=N.length-k/\k<=N.length/\s 3=sl idu N.length (Fy B N.length N.length)/\s 4=sc (.int .i64 m)/\s 5=sc (.int .i64 i)/\s 10=sc (.int .i64 N.length)/\s 11=sc (.int .i64 m)/\s 15=sc (.int .i64 N.length)/\s 16=sc (.int .i64 i)/\s 28=sc (.int .i64 N.length)/\s 29=sc (.int .i64 k)/\Keep z z'/\B+N.length<=z'.nobj/\Agt (Mat B N.length W z')/\Agt (part N.length M m i k W)) N.length
     ⟨0,W,Agm,Agm,by simp[upd,h3],by simp[upd,h4],Ago,by simp[upd,ae],by simp[upd,ad],by simp[upd,an],by simp[upd,am],rfl,rfl,hK,ac,hM,hW⟩ ?_
    clear hK ac hM hW h3 h4 ae ad an am af a4 a7 bd h W;rintro q s z' ⟨k,W,rfl,hk,h3,h4,h5,ae,ad,an,am,bn,bm,hK,ac,hM,hW⟩;by_cases ai:k<N.length
    ·obtain⟨-,-,v3⟩:=Uh hW.out ai aj;have bg:=Jm (B:=B) (n:=N.length) (k:=N.length) aj;have a6:=hM.out _ ab;have a5:=hM.out _ aj;have a3:=Ex N.length (W i);have a0:=Ex N.length (W m);have af:=G7 (W m) ai;rw[v3]at af;clear v3;have ao:=Mat.set (q:=k) hM.out ab true;have bf:Agt _:=ao;clear ao;generalize ap:M m k=vk at af;have ay:Agt _:=ap;clear ap;cases vk with
     |true=>
      repeat' first|refine Z1 ?_|refine Z8 fun ya J=>?_|refine Z4 ?_;clear J ya|refine Z2 ?_ ?_<;>intro h aa<;>try exact Xp|refine Z3 ?_|exact Zt|apply J.out;clear J ya
      exact⟨N.length-(k+1),Agm,k+1,_,rfl,Agm,by simp,hK.put Agm _,bf.out,gJ hW.out (by simp[fw,ak,ay.out])⟩
     |false=>
      repeat' first|refine Z1 ?_|refine Z8 fun ya J=>?_|refine Z4 ?_;clear J ya|refine Z2 ?_ ?_<;>intro h aa<;>try exact Xp|refine Z3 ?_|exact Zt|apply J.out;clear J ya
      exact⟨N.length-(k+1),Agm,k+1,W,rfl,Agm,by simp,hM,rL hW.out (by simp[fw,ay.out])⟩
    ·have a9:k=N.length:=Agm;subst a9
     repeat' first|refine Z1 ?_|refine Z8 fun ya J=>?_|refine Z4 ?_;clear J ya|refine Z2 ?_ ?_<;>intro h aa<;>try exact Xp|refine Z3 ?_|exact Zt|apply J.out;clear J ya
     exact⟨N.length-(i+1),Agm,i+1,W,rfl,Agm,by simp,hM,gK hW.out⟩
  ·have ba:i=N.length:=Agm;subst ba
   repeat' first|refine Z1 ?_|refine Z8 fun ya J=>?_|refine Z4 ?_;clear J ya|refine Z2 ?_ ?_<;>intro h aa<;>try exact Xp|refine Z3 ?_|exact Zt|apply J.out;clear J ya
   refine⟨N.length-(m+1),Agm,m+1,rfl,Agm,by simp,?_⟩;rw[Agt,show Hv N.length M0 (m+1)=W by rw[gL hW.out,<-be.out];rfl];exact hM.out
 ·have a8:m=N.length:=Agm;subst a8
  repeat' first|refine Z1 ?_|refine Z8 fun ya J=>?_|refine Z4 ?_;clear J ya|refine Z2 ?_ ?_<;>intro h aa<;>try exact Xp|refine Z3 ?_|exact Zt|apply J.out;clear J ya
  first
  |exact⟨_,rfl,idu,B,M0,rfl,hK,Agm,ac,hM.out,az.out⟩
  |exact⟨_,rfl,idu,B,M0,rfl,Agm,ac,hM.out,az.out⟩
def vP (N:List Tx)(U:Nat->Nat->Bool)(h:Tx)(a:RAtom):Bool:=a.nt&&(((N.idxOf a.pred:Nat):Int)==((N.idxOf h:Nat):Int)||U (N.idxOf a.pred) (N.idxOf h))
def Y8 (N:List Tx)(l:List RItem)(U:Nat->Nat->Bool)(i:Nat):Bool:=match l[i]? with|some x=>x.body.any (vP N U x.head.pred)|none=>false
theorem Wt (N:List Tx)(l:List RItem)(cs:List AV)(idn idi:Nat)(hB:Bk N l cs)(z:St):ACalls Tryz.prog 123 [C8 N idn l idi cs] z fun r z'=>∃M,Ei N l M/\r=sc (.int .i64 (Ba (Y8 N l (Hv N.length M N.length)) l.length))/\Keep z z':=by
 have bg:=EL.length Gg hB.el;have ba:=hB.len;have hN:=hB.nm;refine Z9 52 [.tmp 2] Tryz.func123 ?_
 repeat' first|refine Z1 ?_|refine Z8 fun ya J=>?_|refine Z4 ?_;clear J ya|refine Z5 ?_;refine Xi (Ub N l cs idn idi hB _) ?_;rintro _ _ ⟨idu,B,M0,rfl,au,bd,ah,ap,a6⟩;(rw[Aa]at bd;have aj:=au.obj;have ae:=au.nobj;(try simp only[Aa,Ac,Ax]at ae))|refine Z3 ?_|exact Zt|apply J.out;clear J ya
 rename_i z1;have ay:Agt (Ei N l M0):=a6;clear a6 aj;have bf:=Jl B N.length N.length;have a5:Keep z z1:=Xs;clear au;generalize hU:Hv N.length M0 N.length=U at ap;have HU:Agt _:=hU;clear hU
 refine Ad (fun m s z'=>∃i:Nat,m=l.length-i/\i<=l.length/\s 3=sl idu N.length (Fy B N.length N.length)/\s 13=sl idi l.length cs/\s 14=sc (.int .i64 l.length)/\s 15=sc (.int .i64 i)/\Keep z z'/\B+N.length<=z'.nobj/\Agt (Mat B N.length U z')/\Agt (∀j,j<i->Y8 N l U j=false)) l.length
  ⟨0,Agm,Agm,Ago,Ago,Ago,rfl,a5,ah,ap,fun j hj=>Agm⟩ ?_
 clear a5 ap ah ae;rintro m s z' ⟨i,rfl,hi,h3,ax,aw,av,hK,ad,hM,ai⟩;have az:=hK.nobj;by_cases ao:i<l.length
 ·have aa:=Adn ao;have a3:=hB.fits l[i] (Aes ao);obtain⟨hm,ih,id,b,r,hb,hd⟩:=J6 hB.el aa;generalize l[i]=x at hd aa a3 hb hm;have hv:Agt (Y8 N l U i=x.body.any (vP N U x.head.pred)):=by rw[Agt,Y8,aa]
  clear aa;have bh:=EL.length Fe hb;have be:=a3.1;have a0:=Afj hm
  repeat' first|refine Z1 ?_|refine Z8 fun ya J=>?_|refine Z4 ?_;clear J ya|refine Z2 ?_ ?_<;>intro h ac<;>try exact Xp|refine Z3 ?_|exact Zt|apply J.out;clear J ya
  refine Ad (fun m s z''=>∃j:Nat,m=x.body.length-j/\j<=x.body.length/\s 3=sl idu N.length (Fy B N.length N.length)/\s 4=sc (.int .i64 i)/\s 6=sc (.int .i64 (N.idxOf x.head.pred:Nat))/\s 13=sl idi l.length cs/\s 14=sc (.int .i64 l.length)/\s 15=sc (.int .i64 i)/\s 24=sl id x.body.length b/\s 25=sc (.int .i64 x.body.length)/\s 26=sc (.int .i64 j)/\Keep z z''/\B+N.length<=z''.nobj/\Agt (Mat B N.length U z'')/\Agt ((x.body.take j).any (vP N U x.head.pred)=false)) x.body.length
   ⟨0,Agm,Agm,by simp[upd,h3],Ago,Ago,by simp[upd,ax],by simp[upd,aw],by simp[upd,av],Ago,rfl,rfl,(hK.new _).put hK.nobj _,Ags,Mat.put (Mat.new hM.out ad _) ad _,by simp[Agt]⟩ ?_
  clear hK hM ad h3 ax aw av az;rintro m s z'' ⟨j,rfl,hj,h3,h4,h6,ax,aw,av,bn,bm,bi,hK,ad,hM,ab⟩;have az:=hK.nobj;by_cases an:j<x.body.length
  ·have aa:=Adn an;obtain⟨ha,ia,r2,a4⟩:=Wb hb aa;generalize x.body[j]=a at a4 aa ha;have HA:Agt (x.body[j]?=some a):=aa;clear aa;have am:=Afj ha;have a8:=Jm (B:=B) (n:=N.length) (k:=N.length) am;have a9:=hM.out _ am;have a7:=Ex N.length (U (N.idxOf a.pred));have ak:=G7 (U (N.idxOf a.pred)) a0;have af:Agt (vP N U x.head.pred a=(a.nt&&(((N.idxOf a.pred:Nat):Int)==((N.idxOf x.head.pred:Nat):Int)||U (N.idxOf a.pred) (N.idxOf x.head.pred)))):=rfl;generalize hu:U (N.idxOf a.pred) (N.idxOf x.head.pred)=uu at ak af;clear hu;generalize N.idxOf a.pred=pa at a4 am a8 a9 a7 ak af;generalize N.idxOf x.head.pred=ph at h6 ak af a0
   repeat' first|refine Z1 ?_|refine Z8 fun ya J=>?_|refine Z4 ?_;clear J ya|refine Z2 ?_ ?_<;>intro h ac<;>try exact Xp|refine Z3 ?_|exact Zt|apply J.out;clear J ya
   all_goals
    first
    |(refine⟨_,rfl,M0,ay.out,?_,(hK.new _).put hK.nobj _⟩
      rw[HU.out,Ft ao (by rw[hv.out];exact Dk _ HA.out (by rw[af.out];simp[*])) ai.out])
    |(refine⟨x.body.length-(j+1),Agm,j+1,rfl,Agm,by simp,(hK.new _).put hK.nobj _,Agm,Mat.put (Mat.new hM.out ad _) ad _,?_⟩
      rw[Agt,any_take_succ _ HA.out,ab.out,af.out];simp[*])
  ·have bb:j=x.body.length:=Agm;subst bb;rw[Adu]at ab
   repeat' first|refine Z1 ?_|refine Z8 fun ya J=>?_|refine Z4 ?_;clear J ya|refine Z2 ?_ ?_<;>intro h ac<;>try exact Xp|refine Z3 ?_|exact Zt|apply J.out;clear J ya
   exact⟨l.length-(i+1),Agm,i+1,rfl,Agm,by simp,Mh ai.out (by rw[hv.out];exact ab.out)⟩
 ·have bc:i=l.length:=Agm;subst bc
  repeat' first|refine Z1 ?_|refine Z8 fun ya J=>?_|refine Z4 ?_;clear J ya|refine Z2 ?_ ?_<;>intro h ac<;>try exact Xp|refine Z3 ?_|exact Zt|apply J.out;clear J ya
  first
  |exact⟨_,rfl,M0,ay.out,by rw[HU.out,B7 ai.out],hK⟩
  |exact⟨_,rfl,M0,ay.out,by rw[HU.out,B7 ai.out]⟩
def VT (w:Tx):Prop:=(∃b,w=[b]/\Bo b.toNat=true)\/(w≠[]/\∀b∈w,A1 b.toNat=true)
def VA (a:RAtom):Prop:=∀w∈a.terms,VT w
theorem vR {s r w:Tx}(h:Cp s= .got w r):VT w:=by
 cases s with
 |nil=>cases h
 |cons b q=>
  unfold Cp at h;dsimp only at h;split at h
  ·rename_i hl;cases h;exact .inl ⟨b,rfl,hl⟩
  split at h
  ·rename_i h0;cases h;refine .inr ⟨by simp,fun c hc=>?_⟩;simp at hc;subst hc;rw[digit_iff];exact .inr h0
  split at h
  ·rename_i h9;cases h;refine .inr ⟨by simp,fun c hc=>?_⟩;rcases Ae2.1 hc with rfl|hc
   ·rw[digit_iff];exact .inl h9
   ·exact (D4 A1 2 q).2 c hc
  ·cases h
theorem Mc {α:Type}{f:Tx->Rd α}{P:α->Prop}(hf:∀s x r,f s= .got x r->P x):∀(n:Nat) (s:Tx) (xs:List α) (r:Tx),Dr f n s= .got xs r->∀x∈xs,P x
 |0,s,xs,r,h=>by unfold Dr at h;cases h;simp
 |n+1,[],xs,r,h=>by unfold Dr at h;cases h;simp
 |n+1,b::q,xs,r,h=>by
  unfold Dr at h;split at h
  ·obtain⟨x,q1,h1,h2⟩:=A3 h;obtain⟨ys,q2,h3,h4⟩:=A3 h2;cases h4;intro y hy;rcases Ae2.1 hy with rfl|hy
   ·exact hf _ _ _ h1
   ·exact Mc hf n _ _ _ h3 y hy
  ·cases h;simp
theorem Md {T:Tx->Prop}(hT:∀s w r,Cp s= .got w r->T w){nt:Bool}{s r:Tx}{a:RAtom}(h:Ds nt s= .got a r):∀w∈a.terms,T w:=by
 unfold Ds Ur at h;obtain⟨p,q1,-,h⟩:=A3 h;obtain⟨u,q2,-,h⟩:=A3 h;obtain⟨w,q3,h1,h⟩:=A3 h;obtain⟨ws,q4,h2,h⟩:=A3 h;obtain⟨u2,q5,-,h⟩:=A3 h;cases h;intro y hy;rcases Ae2.1 hy with rfl|hy
 ·exact hT _ _ _ h1
 ·exact Mc hT _ _ _ _ h2 y hy
theorem gV {T:Tx->Prop}(hT:∀s w r,Cp s= .got w r->T w){s r:Tx}{a:RAtom}(h:Jr s= .got a r):∀w∈a.terms,T w:=by rw[pF]at h;exact Md hT h
theorem rO {T:Tx->Prop}(hT:∀s w r,Cp s= .got w r->T w){s r:Tx}{x:RItem}(h:E9 s= .got x r):∀a∈Ae x,∀w∈a.terms,T w:=by
 rw[gW]at h;split at h
 ·unfold bJ at h;obtain⟨p,q1,-,h⟩:=A3 h;obtain⟨u,q2,-,h⟩:=A3 h;cases h;simp[Ae]
 ·unfold Nc at h;obtain⟨a,q1,h1,h⟩:=A3 h;rw[gS]at h;split at h
  ·cases h;intro y hy;simp[Ae]at hy;subst hy;exact Md hT h1
  ·obtain⟨u,q2,-,h⟩:=A3 h;obtain⟨ls,q3,h3,h⟩:=A3 h;obtain⟨u2,q4,-,h⟩:=A3 h;cases h;intro y hy;simp[Ae]at hy;rcases hy with rfl|hy
   ·exact Md hT h1
   ·unfold D5 Rn at h3;obtain⟨l,q5,h5,h3⟩:=A3 h3;obtain⟨ls2,q6,h6,h3⟩:=A3 h3;cases h3;rcases Ae2.1 hy with rfl|hy
    ·exact gV hT h5
    ·exact Mc (fun _ _ _ h=>gV hT h) _ _ _ _ h6 y hy
theorem Kh {T:Tx->Prop}(hT:∀s w r,Cp s= .got w r->T w):∀(n:Nat) (s:Tx) (l:List RItem) (r:Tx),Bv n s= .got l r->∀x∈l,∀a∈Ae x,∀w∈a.terms,T w
 |n,[],l,r,h=>by rw[Uo]at h;cases h;simp
 |0,b::q,l,r,h=>by rw[Q4]at h;cases h
 |n+1,b::q,l,r,h=>by
  rw[Ln]at h;obtain⟨x,q1,h1,h⟩:=A3 h;obtain⟨xs,q2,h2,h⟩:=A3 h;cases h;intro y hy;rcases Ae2.1 hy with rfl|hy
  ·exact rO hT h1
  ·exact Kh hT n _ _ _ h2 y hy
theorem Qi (n:Nat)(s:Tx)(l:List RItem)(r:Tx)(h:Bv n s= .got l r):∀x∈l,∀a∈Ae x,VA a:=Kh (T:=VT) (fun _ _ _ h=>vR h) n s l r h
theorem Pm {w:Tx}(h:VT w):(Ap w).1=Ab w:=by
 rcases h with⟨b,rfl,hl⟩|⟨hn,hd⟩
 ·rw[Fv hl];simp[Ab,hl]
 ·cases w with
  |nil=>exact absurd rfl hn
  |cons b r=>
   have hb:=hd b (by simp);have hl:Bo b.toNat=false:=by
    cases hl:Bo b.toNat with
    |false=>rfl
    |true=>simp[A1]at hb;simp[Bo]at hl;omega
   rw[Po hl];simp[Ab,hl]
theorem wN {u t:Tx}(hu:VT u)(ht:VT t)(hv:Ab t=true):Oc (Ap t).2 u=(u==t):=by
 obtain⟨b,rfl,hl⟩:∃b,t=[b]/\Bo b.toNat=true:=by
  rcases ht with h|⟨hn,hd⟩
  ·exact h
  ·exfalso;cases t with
   |nil=>exact hn rfl
   |cons b r=>
    have hb:=hd b (by simp);simp[Ab]at hv;simp[A1]at hb;simp[Bo]at hv;omega
 rw[Fv hl];unfold Oc;rcases hu with⟨c,rfl,hc⟩|⟨hn,hd⟩
 ·rw[Fv hc];simp only[Afb];by_cases e:c=b
  ·subst e;simp
  ·have:(c.toNat:Int)≠b.toNat:=fun h=>e (UInt8.toNat_inj.1 Agm);have h1:((c.toNat:Int)-65==(b.toNat:Int)-65)=false:=by simp;omega
   have h2:(([c]:Tx)==[b])=false:=by simpa using e
   rw[h1,h2]
 ·have h1:(Ap u).1=false:=by
   rw[Pm (.inr ⟨hn,hd⟩)];cases u with
   |nil=>rfl
   |cons c r=>
    have hb:=hd c (by simp);cases hv:Ab (c::r)with
    |false=>rfl
    |true=>simp[Ab,Bo]at hv;simp[A1]at hb;omega
  have h2:(u==[b])=false:=by
   simp;rintro rfl;have:=hd b (by simp);simp[A1]at this;simp[Bo]at hl;omega
  rw[h1,h2];rfl
theorem Ee {α:Type}{l:List α}{p q:α->Bool}(h:∀a∈l,p a=q a):l.any p=l.any q:=by
 induction l with
 |nil=>rfl
 |cons a l ih=>simp only[List.any_cons];rw[h a (by simp),ih (fun b hb=>h b (by simp[hb]))]
theorem xI {x:RItem}(hV:∀a∈Ae x,VA a){t:Tx}(ht:VT t)(hv:Ab t=true):Fc x (Ap t).2=Kq x t:=by
 unfold Fc Kq;apply Ee;intro a ha;have hA:VA a:=hV a (by unfold Ae;simp[ha]);cases hn:a.nt with
 |true=>simp
 |false=>
  simp only[Aen,Afb];exact Ee fun u hu=>wN (hA u hu) ht hv
theorem Ke {x:RItem}(hV:∀a∈Ae x,VA a):Et x=Cz x:=by
 unfold Et Cz;congr 1;apply Ee;intro a ha;unfold sX Wv;apply Ee;intro w hw;have hA:=hV a ha w hw;rw[Pm hA];cases hv:Ab w with
 |false=>rfl
 |true=>rw[xI hV hA hv]
theorem Pj {p q:Nat->Bool}{n:Nat}(h:∀i,i<n->p i=q i):Ba p n=Ba q n:=by
 have e:(List.range n).find? p=(List.range n).find? q:=by
  have hm:∀i∈List.range n,p i=q i:=fun i hi=>h i (by simpa using hi);generalize List.range n=l at hm;induction l with
  |nil=>rfl
  |cons a l ih=>simp only[List.find?_cons];rw[hm a (by simp),ih (fun b hb=>hm b (by simp[hb]))]
 unfold Ba;rw[e]
theorem qL {N:List Tx}{l:List RItem}(hN:∀x∈l,x.head.pred∈N/\∀a∈x.body,a.pred∈N){i j:Nat}(h:Way (Zh N l) i j):∃p q,p∈N/\q∈N/\N.idxOf p=i/\N.idxOf q=j/\Way (Fw l) p q:=by
 induction h with
 |one e=>
  obtain⟨x,hx,h1,a,ha,h2⟩:=e;exact⟨x.head.pred,a.pred,(hN x hx).1,(hN x hx).2 a ha,h1,h2,.one ⟨x,hx,rfl,a,ha,rfl⟩⟩
 |more e _ ih=>
  obtain⟨x,hx,h1,a,ha,h2⟩:=e;obtain⟨p,q,hp,hq,e1,e2,w⟩:=ih;have:a.pred=p:=El ((hN x hx).2 a ha) hp Agm;subst this;exact⟨x.head.pred,q,(hN x hx).1,hq,h1,e2,.more ⟨x,hx,rfl,a,ha,rfl⟩ w⟩
theorem kF {N:List Tx}{l:List RItem}{p q:Tx}(h:Way (Fw l) p q):Way (Zh N l) (N.idxOf p) (N.idxOf q):=by
 induction h with
 |one e=>
  obtain⟨x,hx,rfl,a,ha,rfl⟩:=e;exact .one ⟨x,hx,rfl,a,ha,rfl⟩
 |more e _ ih=>
  obtain⟨x,hx,rfl,a,ha,rfl⟩:=e;exact .more ⟨x,hx,rfl,a,ha,rfl⟩ ih
theorem Way.map' {α:Type}{E F:α->α->Prop}(h:∀a b,E a b->F a b){a b:α}(w:Way E a b):Way F a b:=by
 induction w with
 |one e=>exact .one (h _ _ e)
 |more e _ ih=>exact .more (h _ _ e) ih
theorem yS {N:List Tx}{l:List RItem}{M:Nat->Nat->Bool}(hN:∀x∈l,x.head.pred∈N/\∀a∈x.body,a.pred∈N)(ho:∀x∈l,x.out=true->x.body=[])(hM:Ei N l M){p q:Tx}(hp:p∈N)(hq:q∈N)(hy:∃y∈l,y.out=false/\y.head.pred=q):
  Hv N.length M N.length (N.idxOf p) (N.idxOf q)=M5 l p q:=by
 have hS:xT N.length M:=by
  intro a b ac;obtain⟨x,hx,rfl,c,hc,rfl⟩:=(hM a b).1 ac;exact⟨Afj (hN x hx).1,Afj ((hN x hx).2 c hc)⟩
 rw[Afh,cB hS,L5 ho hy];constructor
 ·intro w;obtain⟨p',q',ab,aa,e1,e2,w'⟩:=qL hN (w.map' fun a b h=>(hM a b).1 h);rw[<-El ab hp e1,<-El aa hq e2];exact w'
 ·intro w;exact (kF w).map' fun a b h=>(hM a b).2 h
theorem aS {N:List Tx}:∀{l:List RAtom} {cs:List AV},EL (PL N) l cs->∀a∈l,a.pred∈N
 |[],cs,h,a,ha=>by cases ha
 |b::l,cs,⟨c,d,hc,hd,e⟩,a,ha=>by
  rcases Ae2.1 ha with rfl|ha
  ·exact hc.1
  ·exact aS hd a ha
theorem Qw {N:List Tx}:∀{l:List RItem} {cs:List AV},EL (PI N) l cs->∀x∈l,x.head.pred∈N/\∀a∈x.body,a.pred∈N
 |[],cs,h,a,ha=>by cases ha
 |b::l,cs,⟨c,d,hc,hd,e⟩,a,ha=>by
  rcases Ae2.1 ha with rfl|ha
  ·obtain⟨hm,ih,id,bb,hb,-⟩:=hc;exact⟨hm,aS hb⟩
  ·exact Qw hd a ha
theorem zX {N:List Tx}{l:List RItem}{cs:List AV}{M:Nat->Nat->Bool}(hB:Bk N l cs)(hM:Ei N l M):Ba (Y8 N l (Hv N.length M N.length)) l.length=Ba (F9 l) l.length:=by
 have hN:=Qw hB.el;apply Pj;intro i hi;unfold Y8 F9;rw[Adn hi];dsimp only;have hx:=Aes hi;generalize l[i]=x at hx;apply Ee;intro a ha;unfold vP sW;have ho:x.out=false:=by
  cases h:x.out with
  |false=>rfl
  |true=>rw[hB.out x hx h]at ha;cases ha
 rw[yS hN hB.out hM ((hN x hx).2 a ha) (hN x hx).1 ⟨x,hx,ho,rfl⟩];congr 2;rw[Afh];simp only[Agf];constructor
 ·intro e;exact El ((hN x hx).2 a ha) (hN x hx).1 Agm
 ·intro e;rw[e]
theorem qP {l:List RItem}(hV:∀x∈l,∀a∈Ae x,VA a):Ba (Mb l) l.length=Ba (Db l) l.length:=by
 apply Pj;intro i hi;unfold Mb Db;rw[Adn hi];dsimp only;rw[Ke (hV _ (Aes hi))]
theorem U8 (N:List Tx)(l:List RItem)(cs:List AV)(idn idi:Nat)(hB:Bk N l cs)(hV:∀x∈l,∀a∈Ae x,VA a)(z:St):ACalls Tryz.prog 71 [C8 N idn l idi cs] z fun r z'=>r=two (Cf l)/\Keep z z':=by
 have g1:=@Jx (Fq l) l.length;have g2:=@Jx (Db l) l.length;have g3:=@Jx (F9 l) l.length;have hU:=qP hV;have ab:=Qm N l cs idn idi hB;rw[hU]at ab;have aj:∀z,ACalls Tryz.prog 123 [C8 N idn l idi cs] z fun r z'=>r=sc (.int .i64 (Ba (F9 l) l.length))/\Keep z z':=fun z=>by
  refine ACalls.mono (Wt N l cs idn idi hB z) ?_;rintro _ _ ⟨M,hM,rfl,hK⟩;exact⟨by rw[zX hB hM],hK⟩
 clear hU;refine Z9 20 [.tmp 2,.tmp 3] Tryz.func71 ?_
 repeat' first|refine Z1 ?_|refine Z8 fun ya J=>?_|refine Z4 ?_;clear J ya|refine Z2 ?_ ?_<;>intro h ai<;>try exact Xp|(refine Z5 ?_;first|(refine Xi (Rr N l cs idn idi hB _) ?_;rintro _ _ ⟨rfl,ad⟩;(have af:=ad.obj;have aa:=ad.nobj;(try simp only[Aa,Ac,Ax]at aa)))|(refine Xi (ab _) ?_;rintro _ _ ⟨rfl,ac⟩;(have ae:=ac.obj;have ah:=ac.nobj))|(refine Xi (aj _) ?_;rintro _ _ ⟨rfl,ak⟩))|refine Z3 ?_|exact Zt|apply J.out;clear J ya
 ·have e1:Ba (Fq l) l.length≠ -1:=by simpa using h
  exact⟨_,rfl,by unfold Cf;rw[if_pos Agm],Xs⟩
 ·have e1:Ba (Fq l) l.length= -1:=by simpa using (show (Ba (Fq l) l.length != -1)=false by assumption)
  have e2:Ba (Db l) l.length≠ -1:=by simpa using h
  exact⟨_,rfl,by unfold Cf;rw[if_neg Agm,if_pos Agm],Xs⟩
 ·have e1:Ba (Fq l) l.length= -1:=by simpa using (show (Ba (Fq l) l.length != -1)=false by assumption)
  have e2:Ba (Db l) l.length= -1:=by simpa using (show (Ba (Db l) l.length != -1)=false by assumption)
  have e3:Ba (F9 l) l.length≠ -1:=by simpa using h
  exact⟨_,rfl,by unfold Cf;rw[if_neg Agm,if_neg Agm,if_pos Agm],Xs⟩
 ·have e1:Ba (Fq l) l.length= -1:=by simpa using (show (Ba (Fq l) l.length != -1)=false by assumption)
  have e2:Ba (Db l) l.length= -1:=by simpa using (show (Ba (Db l) l.length != -1)=false by assumption)
  have e3:Ba (F9 l) l.length= -1:=by simpa using h
  exact⟨_,rfl,by unfold Cf;rw[if_neg Agm,if_neg Agm,if_neg Agm],Xs⟩
theorem Ac9 {N:List Tx}{l:List RItem}{cs:List AV}(hE:EL (PI N) l cs)(hl:l.length<=16)(hW:∀x∈l,Du x)(hN:N.length<=2000):Bk N l cs:=by
 refine⟨hE,hl,fun x hx=>?_,fun x hx ho=>((hW x hx).2.1 ho).2.2,hN,fun x hx a ha=>?_⟩
 ·obtain⟨-,h2,h3⟩:=hW x hx;cases ho:x.out with
  |true=>
   obtain⟨-,q1,q2⟩:=h2 ho;exact⟨by simp[q2],by simp[q1],by simp[q2]⟩
  |false=>
   obtain⟨q1,-,q2,q3⟩:=h3 ho;have:=q1.2.2.1;exact⟨Agm,Agm,fun a ha=>by have:=(q3 a ha).2.2.1;omega⟩
 ·obtain⟨-,h2,h3⟩:=hW x hx;unfold Ae at ha;cases ho:x.out with
  |true=>
   obtain⟨-,q1,q2⟩:=h2 ho;simp[ho,q2]at ha
  |false=>
   obtain⟨q1,-,q2,q3⟩:=h3 ho;simp[ho]at ha;have hp:F1 a->0<a.terms.length:=fun w=>by
    have:=w.2.1;cases hh:a.terms with
    |nil=>exact absurd hh this
    |cons y ys=>simp
   rcases ha with rfl|ha
   ·exact hp q1
   ·exact hp (q3 a ha)
theorem dA {l:List RItem}(h:(Cf l).1=0):Cf l=(0,0):=by
 unfold Cf at h⊢;split
 ·rename_i h1;rw[if_pos h1]at h;cases h
 ·rename_i h1;rw[if_neg h1]at h;split
  ·rename_i h2;rw[if_pos h2]at h;cases h
  ·rename_i h2;rw[if_neg h2]at h;split
   ·rename_i h3;rw[if_pos h3]at h;cases h
   ·rfl
def wL (t:Tx)(n1:Nat)(c1:List AV)(n2:Nat)(c2:List AV):Prop:=
 ∃N l,Bv 16 t= .got l []/\Bk N l c2/\n1=N.length/\c1=N.map str/\n2=l.length/\(∀x∈l,∀a∈Ae x,VA a)/\∀x∈l,Du x
theorem lW (t:Tx)(z:St):ACalls Tryz.prog 44 [str t] z fun r z'=>∃idn n1 c1 idi n2 c2,r=tp [ag [sl idn n1 c1,sl idi n2 c2],sc (.int .i64 (As t).1),sc (.int .i64 (As t).2)]/\Keep z z'/\((As t).1=0->n1<=600/\wL t n1 c1 n2 c2):=by
 refine Z9 41 [.cell 2 66,.tmp 3,.tmp 4] Tryz.func44 ?_;by_cases hL:600<t.length
 ·have ad:As t=(1,0):=by unfold As;rw[if_pos hL]
  have ac:Agt _:=ad;clear ad
  repeat' first|refine Z1 ?_|refine Z8 fun ya J=>?_|refine Z4 ?_;clear J ya|refine Z2 ?_ ?_<;>intro h aj<;>try exact Xp|refine Z3 ?_|exact Zt|apply J.out;clear J ya
  refine⟨_,rfl,1,0,[],1,0,[],by rw[ac.out],Xs,by rw[ac.out];intro h;simp at h⟩
 ·have aa:=Hm t;have ht:t.length<=1000:=Agm;have ap:RS 0 t (z.nobj+1) [] 1 t (((z.new [nilS,nilS]).new [str [],sc (.int .i64 0),nilS]).put (z.nobj+1) [str t,sc (.int .i64 0),nilS]):=by
   refine⟨?_,Nat.lt_succ_self _,.inl ⟨rfl,rfl⟩,List.suffix_refl _,by simp⟩;rw[Aj];simp[M8,Y6]
  have hR:=fV ht ap;have an:Keep z (((z.new [nilS,nilS]).new [str [],sc (.int .i64 0),nilS]).put (z.nobj+1) [str t,sc (.int .i64 0),nilS]):=(((Keep.refl z).new _).new _).put Agm _;cases hp:Bv 16 t with
  |bad e=>
   rw[hp]at hR aa;dsimp only at aa;have ad:As t=(2,((t.length-e.length:Nat):Int)):=by
    unfold As;rw[if_neg hL,aa,if_pos (Afl _)]
   have ac:Agt _:=ad;have HR:Agt _:=hR;have ao:Agt _:=an;clear ad aa ap hR hp an
   repeat' first|refine Z1 ?_|refine Z8 fun ya J=>?_|refine Z4 ?_;clear J ya|refine Z2 ?_ ?_<;>intro h aj<;>try exact Xp|refine Z5 ?_;refine Xi (HR.out) ?_;rintro _ _ ⟨n,ids,c,N',id',rfl,ae,ak,a4,ax⟩;(have af:=ae.keep.obj;have ah:=ae.keep.nobj;(try simp only[Aa,Ac,Ax]at ah))|refine Z3 ?_|exact Zt|apply J.out;clear J ya
   rename_i z1;have ab:=ak.obj;unfold M8 Y6 at ab;simp only[Rd.rest]at ab;have a3:z1.obj z.nobj=[nilS,nilS]:=by
    rw[af _ Ags Agm,Ak Agm,Ah (by rw[Aa];omega),Al]
   have ai:Keep z z1:=KeepR.keep ao.out ae.keep Agm (.inl Agm);clear af;refine Aw Ag (fun p=>p=z.nobj+1) [5] [0,1,2] [3,4,5] Agp (fun _ _ _ h=>h) ?_;intro ya J;have aw:∀i,Kept (fun j=>!([5]:List Nat).contains j) (fun p=>p=z.nobj+1) z1 i (z1.put z.nobj [nilS,nilS]):=fun i _ p hp hF=>by
    subst hF;simp[St.put]
   refine Z3 ?_;refine⟨fun p h=>h.elim,fun p h=>h.elim,fun p h=>by cases h;rfl,?_⟩
   try (refine And.intro (aw _) ?_)
   try (refine And.intro (aw _) ?_)
   refine zz ?_
   refine⟨_,rfl,1,0,[],1,0,[],by rw[ac.out],ai.put (Adc _) _,by rw[ac.out];intro h;simp at h⟩
  |got l r=>
   rw[hp]at hR aa;dsimp only at aa;obtain⟨p1,p2,p3,p4⟩:=D8 ht hp;have av:=Qi _ _ _ _ hp;have az:=(Iw _ _ _ _ hp).2.1;subst az;have ad:As t=Cf l:=by
    unfold As;rw[if_neg hL,aa,if_neg Agm,p2]
   have ac:Agt _:=ad;have HR:Agt _:=hR;have ao:Agt _:=an;have HP:Agt _:=hp;clear ad aa ap hR hp an p2 p1
   repeat' first|refine Z1 ?_|refine Z8 fun ya J=>?_|refine Z4 ?_;clear J ya|refine Z2 ?_ ?_<;>intro h aj<;>try exact Xp|(refine Z5 ?_;first|(refine Xi (HR.out) ?_;rintro _ _ ⟨n,ids,c,N',id',rfl,ae,ak,a4,ax⟩;(have af:=ae.keep.obj;have ah:=ae.keep.nobj;(try simp only[Aa,Ac,Ax]at ah);have ab:=ak.obj;unfold M8 Y6 at ab;obtain⟨rfl,a5⟩:n=l.length/\EL (PI N') l c:=ax;have ay:=Ac9 a5 p3 p4 (by have:=ak.len;omega)))|(refine Xi (U8 N' l c id' ids ay av _) ?_;rintro _ _ ⟨rfl,am⟩;(have kobf:=am.obj;have knof:=am.nobj;(try simp only[Aa,Ac,Ax]at knof))))|refine Z3 ?_|exact Zt|apply J.out;clear J ya
   ·rename_i z1 a0 _ z2;have ai:Keep z z1:=KeepR.keep ao.out ae.keep Agm (.inl Agm);have au:=(((ai.new [nilS,nilS]).put ai.nobj _).trans am);exact⟨_,rfl,1,0,[],1,0,[],by rw[ac.out],au.put (Adc _) _,by rw[ac.out];intro h0;simp[h0]at h⟩
   ·rename_i z1 a0 _ z2;have ai:Keep z z1:=KeepR.keep ao.out ae.keep Agm (.inl Agm);have au:=(((ai.new [nilS,nilS]).put ai.nobj _).trans am);have hw:=dA (l:=l) (by simpa using h);exact⟨_,rfl,id',N'.length,N'.map str,ids,l.length,c,by rw[ac.out,hw],au.put (Adc _) _,fun _=>⟨by have:=ak.len;simp only[Rd.rest,Ael]at this;omega,N',l,HP.out,ay,rfl,rfl,rfl,av,p4⟩⟩
theorem rY (t:Tx)(z:St):ACalls Tryz.prog 44 [str t] z fun r z'=>∃idn n1 c1 idi n2 c2,r=tp [ag [sl idn n1 c1,sl idi n2 c2],sc (.int .i64 (As t).1),sc (.int .i64 (As t).2)]/\Keep z z'/\((As t).1=0->wL t n1 c1 n2 c2):=
 ACalls.mono (lW t z) fun r z' ⟨idn,n1,c1,idi,n2,c2,h1,h2,h3⟩=>⟨idn,n1,c1,idi,n2,c2,h1,h2,fun h=>(h3 h).2⟩
end Go.Proofs.YtmoeoppbmhfbpaaGreatDoorD
