import Derived.Test.YtmoeoppbmhfbpabGreatDoorLProgH
import Derived.ProofKit
import Derived.OpenShut
import Derived.Below
import Derived.Carry
import Derived.Deep.Slices
set_option maxHeartbeats 16000000
set_option maxRecDepth 100000
set_option linter.all false
namespace Go.Proofs.YtmoeoppbmhfbpabGreatDoorL
open Go.Abs
abbrev Bn (N:List Tx)(idn:Nat)(l:List RItem)(idi:Nat)(cs:List AV):AV:=ag [sl idn N.length (N.map str),sl idi l.length cs]
structure Bk (N:List Tx)(l:List RItem)(cs:List AV):Prop where
 el:EL (PI N) l cs
 len:l.length<=16
 fits:∀x∈l,x.fits
 out:∀x∈l,x.out=true->x.body=[]
 nm:N.length<=2000
 pos:∀x∈l,∀a∈Ae x,0<a.terms.length
def Mq (l:List RItem)(i:Nat):Bool:=match l[i]? with|some x=>!Eb x|none=>false
theorem PI.of {N:List Tx}{x:RItem}{ih id:Nat}{b:List AV}(hm:x.head.pred∈N)(h:EL (PL N) x.body b):PI N x [sc (.bool x.out),sc (.int .i64 (N.idxOf x.head.pred:Nat)),sl ih x.head.terms.length (Au x.head.terms),sl id x.body.length b]:=⟨hm,ih,id,b,h,rfl⟩
theorem Q3 (N:List Tx)(l:List RItem)(cs:List AV)(idn idi:Nat)(hB:Bk N l cs)(z:St):ACalls Tryz.prog 122 [Bn N idn l idi cs] z fun r z'=>r=sc (.int .i64 (Bh (Mq l) l.length))/\Keep z z':=by
 have aj:=EL.length Dd hB.el;have ah:=hB.len;refine Z9 18 [.tmp 2] Tryz.func122 ?_
 repeat' (first|refine Z1 ?_|(refine Z8 ?_;intro yb ya)|(refine Z4 ?_;clear ya yb)|refine Z3 ?_|exact Zt|(apply ya.out;clear ya yb))
 refine Af (fun m s z'=>∃i:Nat,m=l.length-i/\i<=l.length/\s 6=sl idi l.length cs/\s 7=sc (.int .i64 l.length)/\s 8=sc (.int .i64 i)/\Keep z z'/\Akc (∀j,j<i->Mq l j=false)) l.length
  ⟨0,Aj6,Aj6,rfl,rfl,rfl,Xs,fun j hj=>Aj6⟩ ?_
 rintro m s z' ⟨i,rfl,hi,h6,h7,h8,hK,ab⟩;have ai:=hK.nobj;by_cases ac:i<l.length
 ·have aa:=Agz ac;have af:=hB.fits l[i] (Ain ac);have ae:=hB.out l[i] (Ain ac);obtain⟨hm,ih,id,b,r,hb,hd⟩:=Em hB.el aa;generalize l[i]=x at hd aa af ae hb hm;have hv:Akc (Mq l i=!Eb x):=by rw[Akc,Mq,aa]
  clear aa
  repeat' (first|refine Z1 ?_|(refine Z8 ?_;intro yb ya)|(refine Z4 ?_;clear ya yb)|(refine Z2 ?_ ?_<;>intro h ad<;>try exact Xp)|(refine Z5 ?_;refine Xi (Uv N x _ (PI.of hm hb) ae af _) ?_;rintro _ _ ⟨rfl,ak⟩)|refine Z3 ?_|exact Zt|(apply ya.out;clear ya yb))
  ·exact⟨_,rfl,by rw[Kw ac (by rw[hv.out];simp[*]) ab.out],Xs⟩
  ·exact⟨l.length-(i+1),Aj6,i+1,rfl,Aj6,by simp,Xs,My ab.out (by rw[hv.out];simp[*])⟩
 ·have hil:i=l.length:=Aj6;subst hil
  repeat' (first|refine Z1 ?_|(refine Z8 ?_;intro yb ya)|(refine Z4 ?_;clear ya yb)|(refine Z2 ?_ ?_<;>intro h ad<;>try exact Xp)|refine Z3 ?_|exact Zt|(apply ya.out;clear ya yb))
  first|exact⟨_,rfl,by rw[Cu ab.out],hK⟩|exact⟨_,rfl,by rw[Cu ab.out]⟩
def Fv (S:List RAtom)(p:Tx):Nat:=match S.find? (fun a=>a.pred==p)with|some a=>a.terms.length|none=>0
def Db (S:List RAtom):Prop:=∀b∈S,0<b.terms.length/\b.terms.length=Fv S b.pred
theorem zM (S:List RAtom)(a:RAtom)(p:Tx):Fv (S++[a]) p=match S.find? (fun a=>a.pred==p)with|some b=>b.terms.length|none=>if a.pred=p then a.terms.length else 0:=by
 unfold Fv;rw[List.find?_append];cases hf:S.find? (fun a=>a.pred==p)with
 |some b=>simp
 |none=>by_cases h:a.pred=p<;>simp[h]
theorem V3 {S:List RAtom}(h:Db S)(p:Tx):Fv S p=0↔S.find? (fun a=>a.pred==p)=none:=by
 unfold Fv;cases hf:S.find? (fun a=>a.pred==p)with
 |none=>simp
 |some b=>
  have hb:=(h b (Aip hf)).1;constructor
  ·intro e;have e:b.terms.length=0:=e;omega
  ·intro e;cases e
theorem Na {S:List RAtom}(h:Db S)(a:RAtom):S.any (clash a)=true↔(Fv S a.pred≠0/\Fv S a.pred≠a.terms.length):=by
 rw[Ahz];constructor
 ·rintro⟨b,hb,hc⟩;simp only[clash,Ag3,Aj4,Aj3]at hc;have:=h b hb;rw[hc.1]at this;omega
 ·rintro⟨h1,h2⟩;have h3:S.find? (fun b=>b.pred==a.pred)≠none:=fun e=>h1 ((V3 h _).2 e);cases hf:S.find? (fun b=>b.pred==a.pred)with
  |none=>exact absurd hf h3
  |some b=>
   have hp:(b.pred==a.pred)=true:=List.find?_some (p:=fun b:RAtom=>b.pred==a.pred) hf;have aa:Fv S a.pred=b.terms.length:=by unfold Fv;rw[hf]
   exact⟨b,Aip hf,by simp only[clash,hp,Aie,Aj3];omega⟩
theorem V2 {S:List RAtom}(h:Db S)(a:RAtom)(p:Tx):Fv (S++[a]) p=if p=a.pred/\Fv S a.pred=0 then a.terms.length else Fv S p:=by
 rw[zM];cases hf:S.find? (fun b=>b.pred==p)with
 |some b=>
  have h1:Fv S p≠0:=fun e=>by rw[V3 h,hf]at e;cases e
  have hx:¬(p=a.pred/\Fv S a.pred=0):=fun e=>h1 (by rw[e.1];exact e.2);have hy:Fv S p=b.terms.length:=by unfold Fv;rw[hf]
  rw[if_neg hx,hy]
 |none=>
  have h1:Fv S p=0:=(V3 h _).2 hf;by_cases e:p=a.pred
  ·subst e;rw[if_pos rfl,if_pos ⟨rfl,h1⟩]
  ·rw[if_neg (fun e'=>e e'.symm),if_neg (by rintro⟨e',-⟩;exact e e'),h1]
theorem Hd {S:List RAtom}{a:RAtom}(h:Db S)(ha:0<a.terms.length)(hc:S.any (clash a)=false):Db (S++[a]):=by
 have hn:¬(Fv S a.pred≠0/\Fv S a.pred≠a.terms.length):=fun e=>by rw[<-Na h a,hc]at e;cases e
 intro b hb;rw[V2 h];rcases Ah8.1 hb with hb|hb
 ·have:=h b hb;refine⟨this.1,?_⟩;by_cases e:b.pred=a.pred/\Fv S a.pred=0
  ·rw[e.1]at this;omega
  ·rw[if_neg e];exact this.2
 ·simp at hb;subst hb;refine⟨ha,?_⟩;by_cases e:Fv S b.pred=0
  ·rw[if_pos ⟨rfl,e⟩]
  ·rw[if_neg (by rintro⟨-,e'⟩;exact e e')];omega
theorem V0:Db []:=fun b hb=>by cases hb
def Fu (n:Nat)(cc:Nat->Int):List AV:=(List.range n).map fun i=>sc (.int .i64 (cc i))
theorem I4 (n:Nat)(cc:Nat->Int):(Fu n cc).length=n:=by simp[Fu]
theorem Ft {n i:Nat}(cc:Nat->Int)(h:i<n):(Fu n cc)[i]?=some (sc (.int .i64 (cc i))):=by simp[Fu,h]
theorem P3 {n i:Nat}(cc:Nat->Int)(v:Int):(Fu n cc).set i (sc (.int .i64 v))=Fu n (fun j=>if j=i then v else cc j):=by
 apply Ahi;intro j;rw[Ag8];by_cases hj:j<n
 ·rw[Ft (fun j=>if j=i then v else cc j) hj];by_cases e:i=j
  ·subst e;rw[if_pos rfl,I4,if_pos hj];simp
  ·rw[if_neg e,Ft _ hj,if_neg (fun e'=>e e'.symm)]
 ·have h1:(Fu n fun j=>if j=i then v else cc j)[j]?=none:=by simp[Fu];omega
  have h2:(Fu n cc)[j]?=none:=by simp[Fu];omega
  rw[h1,h2];split
  ·rw[I4];rw[if_neg Aj6]
  ·rfl
theorem Q8 (n:Nat):List.replicate n (sc (.int .i64 0))=Fu n fun _=>0:=by
 apply Ahi;intro j;by_cases hj:j<n
 ·rw[Ft _ hj];simp[hj]
 ·simp[Fu,hj]
theorem C1 {N:List Tx}{p q:Tx}(hp:p∈N)(hq:q∈N)(h:N.idxOf p=N.idxOf q):p=q:=by
 have h1:=Aiq (Air hp);have h2:=Aiq (Air hq);rw[<-h1,<-h2];congr 1
def cntsOk (N:List Tx)(S:List RAtom)(cc:Nat->Int):Prop:=∀p∈N,cc (N.idxOf p)=(Fv S p:Nat)
theorem cntsOk.step {N:List Tx}{S:List RAtom}{cc:Nat->Int}{a:RAtom}(h:cntsOk N S cc)(hc:Db S)(ha:a.pred∈N):
  (cc (N.idxOf a.pred)=0->cntsOk N (S++[a]) (fun j=>if j=N.idxOf a.pred then (a.terms.length:Int)else cc j))/\(cc (N.idxOf a.pred)≠0->cntsOk N (S++[a]) cc):=by
 have h0:=h a.pred ha;constructor
 ·intro e p hp;rw[V2 hc];dsimp only;by_cases ep:p=a.pred
  ·subst ep;rw[if_pos rfl,if_pos ⟨rfl,Aj6⟩]
  ·rw[if_neg (fun e'=>ep (C1 hp ha e')),if_neg (by rintro⟨e',-⟩;exact ep e')];exact h p hp
 ·intro e p hp;rw[V2 hc,if_neg (by rintro⟨-,e'⟩;omega)];exact h p hp
theorem Sk (N:List Tx)(l:List RItem)(cs:List AV)(idn idi:Nat)(hB:Bk N l cs)(z:St):ACalls Tryz.prog 121 [Bn N idn l idi cs] z fun r z'=>r=sc (.int .i64 (Bh (H6 l) l.length))/\Keep z z':=by
 have a3:=EL.length Dd hB.el;have bm:=hB.len;have hN:=hB.nm;refine Z9 52 [.tmp 2] Tryz.func121 ?_
 repeat' (first|refine Z1 ?_|(refine Z8 ?_;intro yb ya)|(refine Z4 ?_;clear ya yb)|refine Z3 ?_|exact Zt|(apply ya.out;clear ya yb))
 refine Af (fun m s z'=>∃(i:Nat) (cc:Nat->Int),m=l.length-i/\i<=l.length/\s 3=fx (z.nobj+1) 0 N.length/\s 13=sl idi l.length cs/\s 14=sc (.int .i64 l.length)/\s 15=sc (.int .i64 i)/\Keep z z'/\z.nobj+1<z'.nobj/\z'.obj (z.nobj+1)=Fu N.length cc/\Akc (cntsOk N (Dj l i) cc)/\Akc (Db (Dj l i))/\Akc (noO l i)) l.length
  ⟨0,fun _=>0,Aj6,Aj6,?_,rfl,rfl,rfl,Xs,Aka,?_,?_,by simp[Akc,Dj,V0],fun a h=>Aj6⟩ ?_
 ·simp[upd]
 ·show (if z.nobj+1=z.nobj+1 then _ else _)=_;rw[if_pos rfl];exact Q8 _
 ·intro p hp;simp[Dj,Fv]
 rintro m s z' ⟨i,cc,rfl,hi,h3,a7,a6,a5,hK,ae,ax,hC,hS,au⟩;have a9:=hK.nobj;by_cases am:i<l.length
 ·have aa:=Agz am;have az:=hB.fits l[i] (Ain am);have bb:=hB.out l[i] (Ain am);have ba:=hB.pos l[i] (Ain am);obtain⟨hm,ih,id,b,r,hb,hd⟩:=Em hB.el aa;generalize l[i]=x at hd aa az bb hb hm ba;have HX:Akc (l[i]?=some x):=aa;clear aa;have b2:=az.atoms
  repeat' (first|refine Z1 ?_|(refine Z8 ?_;intro yb ya)|(refine Z4 ?_;clear ya yb)|(refine Z2 ?_ ?_<;>intro h ab<;>try exact Xp)|(refine Z5 ?_;refine Xi (Jf N x _ (PI.of hm hb) bb (by have:=az.1;omega) _) ?_;rintro _ _ ⟨ida,cs2,rfl,bg,a4⟩;(have ah:=a4.obj;have ai:=a4.nobj;(try simp only[Aa,Ab,Aw]at ai)))|refine Z3 ?_|exact Zt|(apply ya.out;clear ya yb))
  rename_i z1;have bp:=EL.length Wo bg;have bf:Keep z z1:=Xs;have aj:z1.obj (z.nobj+1)=Fu N.length cc:=by
   rw[ah _ (by simp only[Aa,Ab];omega),Ah Aj6,Ag ae];exact ax
  clear ah
  refine Af (fun m s z'=>∃(j:Nat) (cc:Nat->Int),m=(Ae x).length-j/\j<=(Ae x).length/\s 3=fx (z.nobj+1) 0 N.length/\s 4=sc (.int .i64 i)/\s 13=sl idi l.length cs/\s 14=sc (.int .i64 l.length)/\s 15=sc (.int .i64 i)/\s 21=sl ida (Ae x).length cs2/\s 22=sc (.int .i64 (Ae x).length)/\s 23=sc (.int .i64 j)/\Keep z z'/\z.nobj+1<z'.nobj/\z'.obj (z.nobj+1)=Fu N.length cc/\Akc (cntsOk N (Df l x i j) cc)/\Akc (Db (Df l x i j))/\Akc (Agh l x i j)) (Ae x).length
   ⟨0,cc,Aj6,Aj6,by simp[upd,h3],Aj8,by simp[upd,a7],by simp[upd,a6],by simp[upd,a5],Aj8,rfl,rfl,bf,Aj6,aj,by simpa[Df]using hC,by simpa[Df]using hS,fun b h=>Aj6⟩ ?_
  clear aj hK ax hC hS a4 ai a9 h3 a7 a6 a5 ae cc bf;rintro m s z' ⟨j,cc,rfl,hj,h3,h4,a7,a6,a5,b5,b4,b3,hK,ae,ax,hC,hS,ad⟩;have a9:=hK.nobj;by_cases af:j<(Ae x).length
  ·have aa:=Agz af;have aw:=ba (Ae x)[j] (Ain af);obtain⟨ha,ia,r2,bc⟩:=qX bg aa;generalize (Ae x)[j]=a at bc aa ha aw;have HA:Akc ((Ae x)[j]?=some a):=aa;clear aa;have ac:Akc (Rp l x i j=(Df l x i j).any (clash a)):=by rw[Akc,Rp,HA.out]
   have ay:=Air ha;have ap:=hC.out.step hS.out ha;have a0:=hC.out a.pred ha;have bd:=Ft cc ay;have an:=fun v=>P3 (n:=N.length) (i:=N.idxOf a.pred) cc v;have bz:=I4 N.length cc;generalize bq:cc (N.idxOf a.pred)=c at bd ap a0;clear bq;generalize N.idxOf a.pred=ix at bc bd ay ap an;have a3:=Na hS.out a;have bh:Akc _:=ap;have av:Akc _:=a0;have a8:Akc _:=a3;clear ap a0 a3;by_cases ao:(c==0)=true
   ·have b1:((Fu N.length cc).set ix (sc (.int .i64 a.terms.length)))[ix]?=some (sc (.int .i64 a.terms.length)):=by rw[an,Ft _ ay];simp
    have b0:((a.terms.length:Int) !=a.terms.length)=false:=by simp
    have br:c=0:=by simpa using ao
    have bw:Akc _:=an;clear an
    repeat' (first|refine Z1 ?_|(refine Z8 ?_;intro yb ya)|(refine Z4 ?_;clear ya yb)|(refine Z2 ?_ ?_<;>intro h ab<;>try exact Xp)|refine Z3 ?_|exact Zt|(apply ya.out;clear ya yb))
    refine A8 Ai (fun _=>True) [8] [0,1,2,3,4,5,6,7] [8] Aj9 (fun _ _ _ h=>h) ?_;intro yb ya;refine Z3 ?_
    repeat' (first|refine Z1 ?_|(refine Z8 ?_;intro yb ya)|(refine Z4 ?_;clear ya yb)|(refine Z2 ?_ ?_<;>intro h ab<;>try exact Xp)|refine Z3 ?_|exact Zt|(apply ya.out;clear ya yb))
    have ak:(Df l x i j).any (clash a)=false:=by
     cases hq:(Df l x i j).any (clash a)with
     |false=>rfl
     |true=>exfalso;have h1:=(a8.out.1 hq).1;have h2:=av.out;omega
    refine⟨(Ae x).length-(j+1),Aj6,j+1,_,rfl,Aj6,by simp,((hK.new _).put hK.nobj _).put Aj6 _,Aj6,bw.out _,?_,?_,My ad.out (by rw[ac.out];exact ak)⟩
    ·rw[Akc,Ih HA.out];exact bh.out.1 br
    ·rw[Akc,Ih HA.out];exact Hd hS.out aw ak
   ·have ao:(c==0)=false:=by simpa using ao
    clear an
    repeat' (first|refine Z1 ?_|(refine Z8 ?_;intro yb ya)|(refine Z4 ?_;clear ya yb)|(refine Z2 ?_ ?_<;>intro h ab<;>try exact Xp)|refine Z3 ?_|exact Zt|(apply ya.out;clear ya yb))
    refine A8 Ai (fun _=>True) [8] [0,1,2,3,4,5,6,7] [8] Aj9 (fun _ _ _ h=>h) ?_;intro yb ya;refine Z3 ?_
    repeat' (first|refine Z1 ?_|(refine Z8 ?_;intro yb ya)|(refine Z4 ?_;clear ya yb)|(refine Z2 ?_ ?_<;>intro h ab<;>try exact Xp)|refine Z3 ?_|exact Zt|(apply ya.out;clear ya yb))
    ·have be:c≠0:=by simpa using ao
     have bu:c≠a.terms.length:=by simpa using h
     have bo:=a8.out.2 ⟨by have:=av.out;omega,by have:=av.out;omega⟩;have bl:H6 l i=true:=by
      unfold H6;rw[HX.out];dsimp only;rw[Ahz];exact⟨j,by simpa using af,by rw[ac.out];exact bo⟩
     exact⟨_,rfl,by rw[Kw am bl au.out],(hK.new _).put hK.nobj _⟩
    ·have be:c≠0:=by simpa using ao
     have bu:c=a.terms.length:=by simpa using h
     have ak:(Df l x i j).any (clash a)=false:=by
      cases hq:(Df l x i j).any (clash a)with
      |false=>rfl
      |true=>exfalso;have h1:=(a8.out.1 hq).2;have h2:=av.out;omega
     refine⟨(Ae x).length-(j+1),Aj6,j+1,cc,rfl,Aj6,by simp,(hK.new _).put hK.nobj _,Aj6,rfl,?_,?_,My ad.out (by rw[ac.out];exact ak)⟩
     ·rw[Akc,Ih HA.out];exact bh.out.2 be
     ·rw[Akc,Ih HA.out];exact Hd hS.out aw ak
  ·have bn:j=(Ae x).length:=Aj6;subst bn
   repeat' (first|refine Z1 ?_|(refine Z8 ?_;intro yb ya)|(refine Z4 ?_;clear ya yb)|(refine Z2 ?_ ?_<;>intro h ab<;>try exact Xp)|refine Z3 ?_|exact Zt|(apply ya.out;clear ya yb))
   have bi:Df l x i (Ae x).length=Dj l (i+1):=by rw[rS HX.out];simp[Df]
   rw[bi]at hC hS;refine⟨l.length-(i+1),Aj6,i+1,cc,rfl,Aj6,by simp,rfl,hC,hS,My au.out ?_⟩;unfold H6;rw[HX.out];dsimp only;rw[Aim];intro b hb;have bv:=ad.out b (by simpa using hb);simp[bv]
 ·have hil:i=l.length:=Aj6;subst hil
  repeat' (first|refine Z1 ?_|(refine Z8 ?_;intro yb ya)|(refine Z4 ?_;clear ya yb)|(refine Z2 ?_ ?_<;>intro h ab<;>try exact Xp)|refine Z3 ?_|exact Zt|(apply ya.out;clear ya yb))
  first|exact⟨_,rfl,by rw[Cu au.out],hK⟩|exact⟨_,rfl,by rw[Cu au.out]⟩
def H1 (n:Nat)(f:Nat->Bool):List AV:=(List.range n).map fun i=>sc (.bool (f i))
theorem Eg (n:Nat)(f:Nat->Bool):(H1 n f).length=n:=by simp[H1]
theorem Gp {n i:Nat}(f:Nat->Bool)(h:i<n):(H1 n f)[i]?=some (sc (.bool (f i))):=by simp[H1,h]
theorem V4 {n i:Nat}(f:Nat->Bool)(v:Bool):(H1 n f).set i (sc (.bool v))=H1 n (fun j=>if j=i then v else f j):=by
 apply Ahi;intro j;rw[Ag8];by_cases hj:j<n
 ·rw[Gp (fun j=>if j=i then v else f j) hj];by_cases e:i=j
  ·subst e;rw[if_pos rfl,Eg,if_pos hj];simp
  ·rw[if_neg e,Gp _ hj,if_neg (fun e'=>e e'.symm)]
 ·have h1:(H1 n fun j=>if j=i then v else f j)[j]?=none:=by simp[H1];omega
  have h2:(H1 n f)[j]?=none:=by simp[H1];omega
  rw[h1,h2];split
  ·rw[Eg];rw[if_neg Aj6]
  ·rfl
theorem aL (n:Nat):List.replicate n (sc (.bool false))=H1 n fun _=>false:=by
 apply Ahi;intro j;by_cases hj:j<n
 ·rw[Gp _ hj];simp[hj]
 ·simp[H1,hj]
def Fc (B n k:Nat):List AV:=(List.range k).map fun i=>fx (B+i) 0 n
theorem Ii (B n k:Nat):(Fc B n k).length=k:=by simp[Fc]
theorem lJ (B n k:Nat):Fc B n (k+1)=Fc B n k++[fx (B+k) 0 n]:=by simp[Fc,List.range_succ]
theorem Ij {B n k i:Nat}(h:i<k):(Fc B n k).drop i=fx (B+i) 0 n::(Fc B n k).drop (i+1):=by
 rw[Ah0 (by rw[Ii];exact h)];simp[Fc]
def Mat (B n:Nat)(M:Nat->Nat->Bool)(z:St):Prop:=∀i,i<n->z.obj (B+i)=H1 n (M i)
theorem Mat.keep {B n:Nat}{M:Nat->Nat->Bool}{z z':St}(h:Mat B n M z)(k:Keep z z')(hn:B+n<=z.nobj):Mat B n M z':=fun i hi=>by rw[k.obj _ Aj6];exact h i hi
theorem Mat.new {B n:Nat}{M:Nat->Nat->Bool}{z:St}(h:Mat B n M z)(hn:B+n<=z.nobj)(cs:List AV):Mat B n M (z.new cs):=fun i hi=>by rw[Ag Aj6];exact h i hi
theorem Mat.put {B n o:Nat}{M:Nat->Nat->Bool}{z:St}(h:Mat B n M z)(ho:B+n<=o)(cs:List AV):Mat B n M (z.put o cs):=fun i hi=>by rw[Ah Aj6];exact h i hi
theorem Mat.set {B n p q:Nat}{M:Nat->Nat->Bool}{z:St}(h:Mat B n M z)(hp:p<n)(v:Bool):Mat B n (set2 M p q v) (z.put (B+p) ((H1 n (M p)).set q (sc (.bool v)))):=fun i hi=>by
 by_cases e:i=p
 ·subst e;rw[Aj,V4];congr 1;funext j;simp[set2]
 ·have hx:(z.put (B+p) ((H1 n (M p)).set q (sc (.bool v)))).obj (B+i)=z.obj (B+i):=by
   by_cases hl:i<p
   ·exact Ah Aj6
   ·exact S0 Aj6
  rw[hx,h i hi];congr 1;funext j;simp[set2,e]
def gV (N:List Tx)(l:List RItem)(p q:Nat):Prop:=∃x∈l,N.idxOf x.head.pred=p/\∃a∈x.body,N.idxOf a.pred=q
def Afy (N:List Tx)(x:RItem)(b:List RAtom)(p q:Nat):Prop:=N.idxOf x.head.pred=p/\∃a∈b,N.idxOf a.pred=q
def Dq (N:List Tx)(l:List RItem)(M:Nat->Nat->Bool):Prop:=∀p q,M p q=true↔gV N l p q
def isOnceQ (N:List Tx)(l:List RItem)(x:RItem)(b:List RAtom)(M:Nat->Nat->Bool):Prop:=∀p q,M p q=true↔gV N l p q\/Afy N x b p q
theorem isOnceQ.step {N:List Tx}{l:List RItem}{x:RItem}{j:Nat}{a:RAtom}{M:Nat->Nat->Bool}(h:isOnceQ N l x (x.body.take j) M)(ha:x.body[j]?=some a):isOnceQ N l x (x.body.take (j+1)) (set2 M (N.idxOf x.head.pred) (N.idxOf a.pred) true):=by
 intro p q;rw[Ahd,ha];unfold set2;by_cases e:p=N.idxOf x.head.pred/\q=N.idxOf a.pred
 ·rw[if_pos e];simp only[true_iff];exact .inr ⟨e.1.symm,a,by simp,e.2.symm⟩
 ·rw[if_neg e,h p q];constructor
  ·rintro (h|⟨h1,b,hb,h2⟩)
   ·exact .inl h
   ·exact .inr ⟨h1,b,by simp[hb],h2⟩
  ·rintro (h|⟨h1,b,hb,h2⟩)
   ·exact .inl h
   ·simp only[Ais,Ah8,Ait]at hb;rcases hb with hb|rfl
    ·exact .inr ⟨h1,b,hb,h2⟩
    ·exact absurd ⟨h1.symm,h2.symm⟩ e
theorem isOnceQ.zero {N:List Tx}{l:List RItem}{x:RItem}{M:Nat->Nat->Bool}(h:Dq N l M):isOnceQ N l x (x.body.take 0) M:=by
 intro p q;rw[h p q];constructor
 ·exact .inl
 ·rintro (h|⟨-,b,hb,-⟩)
  ·exact h
  ·simp at hb
theorem isOnceQ.done {N:List Tx}{l:List RItem}{x:RItem}{i:Nat}{M:Nat->Nat->Bool}(h:isOnceQ N (l.take i) x x.body M)(hx:l[i]?=some x):Dq N (l.take (i+1)) M:=by
 intro p q;rw[h p q,Ahd,hx];constructor
 ·rintro (⟨y,hy,g⟩|g)
  ·exact⟨y,by simp[hy],g⟩
  ·exact⟨x,by simp,g⟩
 ·rintro⟨y,hy,g⟩;simp only[Ais,Ah8,Ait]at hy;rcases hy with hy|rfl
  ·exact .inl ⟨y,hy,g⟩
  ·exact .inr g
theorem R4 (N:List Tx)(l:List RItem)(cs:List AV)(idn idi:Nat)(hB:Bk N l cs)(z:St):ACalls Tryz.prog 206 [Bn N idn l idi cs] z fun r z'=>∃idu B M,r=sl idu N.length (Fc B N.length N.length)/\Keep z z'/\z.nobj<=B/\B+N.length<=z'.nobj/\Mat B N.length M z'/\Dq N l M:=by
 have bq:=EL.length Dd hB.el;have bf:=hB.len;have hN:=hB.nm;refine Z9 51 [.tmp 2] Tryz.func206 ?_
 repeat' (first|refine Z1 ?_|(refine Z8 ?_;intro yb ya)|(refine Z4 ?_;clear ya yb)|refine Z3 ?_|exact Zt|(apply ya.out;clear ya yb))
 refine Af (fun m s z'=>∃(k idu:Nat),m=N.length-k/\k<=N.length/\s 1=ptr z.nobj 0/\s 3=sl idu k (Fc (z.nobj+1) N.length k)/\s 12=sc (.int .i64 N.length)/\s 13=sc (.int .i64 k)/\Keep z z'/\Own z z' idu k/\z'.nobj=z.nobj+1+k/\z'.obj z.nobj=[sl idn N.length (N.map str),sl idi l.length cs]/\Akc (∀i,i<k->z'.obj (z.nobj+1+i)=H1 N.length fun _=>false)) N.length
  ⟨0,1,Aj6,Aj6,rfl,rfl,rfl,rfl,Xs,Own.nil _ _,rfl,Ao,fun i hi=>Aj6⟩ ?_
 rintro m s z' ⟨k,idu,rfl,hk,h1,h3,bn,bm,hK,hO,ac,az,hM⟩;have a9:=Ii (z.nobj+1) N.length k;by_cases ai:k<N.length
 ·repeat' (first|refine Z1 ?_|(refine Z8 ?_;intro yb ya)|(refine Z4 ?_;clear ya yb)|(refine Z2 ?_ ?_<;>intro h ab<;>try exact Xp)|refine Z3 ?_|exact Zt)
  have bl:Keep z (z'.new (List.replicate N.length (sc (.bool false)))):=hK.new _;refine Bg (by first|exact O6) bl (Own.new hO _) (by decide) (by rfl) (by rw[a9,Nat.mul_one]) (by rfl) (by rfl) (by decide) Aj6 Aj6 ?_;intro idn2 zn bi bu ae af bo a7;have bc:zn.obj z.nobj=[sl idn N.length (N.map str),sl idi l.length cs]:=by rw[ae,Ag Aj6];exact az
  rw[Aa,ac]at af;refine Z3 ?_
  repeat' (first|refine Z1 ?_|(refine Z8 ?_;intro yb ya)|(refine Z4 ?_;clear ya yb)|refine Z3 ?_|exact Zt|(apply ya.out;clear ya yb))
  refine⟨N.length-(k+1),Aj6,k+1,idn2,rfl,Aj6,by rw[lJ],by simp,bi,Aj6,?_⟩;intro i hi
  try rw[ae]
  by_cases e:i=k
  ·subst e;rw[<-ac,Ao,aL]
  ·rw[Ag Aj6];exact hM.out i Aj6
 ·have bg:k=N.length:=Aj6;subst bg
  repeat' (first|refine Z1 ?_|(refine Z8 ?_;intro yb ya)|(refine Z4 ?_;clear ya yb)|(refine Z2 ?_ ?_<;>intro h ab<;>try exact Xp)|refine Z3 ?_|exact Zt|(apply ya.out;clear ya yb))
  have a6:Mat (z.nobj+1) N.length (fun _ _=>false) z':=hM.out;have ad:z.nobj+1+N.length<=z'.nobj:=Aj6;clear hM ac hO az bm bn h1
  refine Af (fun m s z'=>∃(i:Nat) (M:Nat->Nat->Bool),m=l.length-i/\i<=l.length/\s 3=sl idu N.length (Fc (z.nobj+1) N.length N.length)/\s 25=sl idi l.length cs/\s 26=sc (.int .i64 l.length)/\s 27=sc (.int .i64 i)/\Keep z z'/\z.nobj+1+N.length<=z'.nobj/\Akc (Mat (z.nobj+1) N.length M z')/\Akc (Dq N (l.take i) M)) l.length
   ⟨0,fun _ _=>false,Aj6,Aj6,by simp[upd,h3],Aj8,Aj8,rfl,hK,ad,a6,fun p q=>by simp[gV]⟩ ?_
  clear a6 ad h3 hK h ab ai hk;rintro m s z' ⟨i,M,rfl,hi,h3,au,ap,ao,hK,ad,hM,hI⟩;have ax:=hK.nobj;by_cases ai:i<l.length
  ·have aa:=Agz ai;have a4:=hB.fits l[i] (Ain ai);obtain⟨hm,ih,id,b,r,hb,hd⟩:=Em hB.el aa;generalize l[i]=x at hd aa a4 hb hm;have HX:Akc (l[i]?=some x):=aa;clear aa;have br:=EL.length Ds hb;have bp:=a4.1;have ah:=Air hm
   repeat' (first|refine Z1 ?_|(refine Z8 ?_;intro yb ya)|(refine Z4 ?_;clear ya yb)|(refine Z2 ?_ ?_<;>intro h ab<;>try exact Xp)|refine Z3 ?_|exact Zt|(apply ya.out;clear ya yb))
   have an:Keep z ((z'.new [sc (.bool false),sc (.int .i64 0),nilS,nilS]).put z'.nobj [sc (.bool x.out),sc (.int .i64 (N.idxOf x.head.pred:Nat)),sl ih x.head.terms.length (Au x.head.terms),sl id x.body.length b]):=(hK.new _).put hK.nobj _;have am:=(hM.out.new ad [sc (.bool false),sc (.int .i64 0),nilS,nilS]).put ad [sc (.bool x.out),sc (.int .i64 (N.idxOf x.head.pred:Nat)),sl ih x.head.terms.length (Au x.head.terms),sl id x.body.length b];generalize a0:z'.nobj=o6 at an am ad
   refine Af (fun m s z''=>∃(j:Nat) (M:Nat->Nat->Bool),m=x.body.length-j/\j<=x.body.length/\s 3=sl idu N.length (Fc (z.nobj+1) N.length N.length)/\s 6=ptr o6 0/\s 25=sl idi l.length cs/\s 26=sc (.int .i64 l.length)/\s 27=sc (.int .i64 i)/\s 32=sl id x.body.length b/\s 33=sc (.int .i64 x.body.length)/\s 34=sc (.int .i64 j)/\Keep z z''/\o6<z''.nobj/\z''.obj o6=[sc (.bool x.out),sc (.int .i64 (N.idxOf x.head.pred:Nat)),sl ih x.head.terms.length (Au x.head.terms),sl id x.body.length b]/\Akc (Mat (z.nobj+1) N.length M z'')/\Akc (isOnceQ N (l.take i) x (x.body.take j) M)) x.body.length
    ⟨0,M,Aj6,Aj6,by simp[upd,h3],by simp[upd,a0],by simp[upd,au],by simp[upd,ap],by simp[upd,ao],Aj8,rfl,rfl,?_,?_,?_,?_,isOnceQ.zero hI.out⟩ ?_
   ·exact an
   ·rw[Ab,Aa];omega
   ·rw[Aj]
   ·exact am
   clear am an hK hM hI h3 au ap ao ax M a0;rintro m s z'' ⟨j,M,rfl,hj,h3,h6,au,ap,ao,bz,bw,bv,hK,bd,aj,hM,hI⟩;have ax:=hK.nobj;by_cases ak:j<x.body.length
   ·have aa:=Agz ak;obtain⟨ha,ia,r2,a5⟩:=Ml hb aa;generalize x.body[j]=a at a5 aa ha;have HA:Akc (x.body[j]?=some a):=aa;clear aa;have bb:=Air ha;have ba:=Ij (B:=z.nobj+1) (n:=N.length) (k:=N.length) ah;have be:=hM.out _ ah;have a8:=Eg N.length (M (N.idxOf x.head.pred));have ay:=isOnceQ.step hI.out HA.out;have av:Akc _:=ay;have a3:=fun (τ:St) (hτ:Mat (z.nobj+1) N.length M τ)=>Mat.set (q:=N.idxOf a.pred) hτ ah true;have aw:Akc _:=a3;clear ay a3;generalize N.idxOf x.head.pred=ph at aj ah ba be a8 av aw;generalize N.idxOf a.pred=qa at a5 bb av aw
    repeat' (first|refine Z1 ?_|(refine Z8 ?_;intro yb ya)|(refine Z4 ?_;clear ya yb)|(refine Z2 ?_ ?_<;>intro h ab<;>try exact Xp)|refine Z3 ?_|exact Zt|(apply ya.out;clear ya yb))
    refine A8 Ai (fun _=>True) [10] [0,1,2,3,4,5,6,7,8,9] [10] Aj9 (fun _ _ _ h=>h) ?_;intro yb ya;refine Z3 ?_
    repeat' (first|refine Z1 ?_|(refine Z8 ?_;intro yb ya)|(refine Z4 ?_;clear ya yb)|refine Z3 ?_|exact Zt|(apply ya.out;clear ya yb))
    exact⟨x.body.length-(j+1),Aj6,j+1,_,rfl,Aj6,by simp,((hK.new _).put hK.nobj _).put Aj6 _,Aj6,aw.out _ (Mat.put (Mat.new hM.out Aj6 _) Aj6 _),av.out⟩
   ·have bh:j=x.body.length:=Aj6;subst bh;rw[Ag7]at hI
    repeat' (first|refine Z1 ?_|(refine Z8 ?_;intro yb ya)|(refine Z4 ?_;clear ya yb)|(refine Z2 ?_ ?_<;>intro h ab<;>try exact Xp)|refine Z3 ?_|exact Zt|(apply ya.out;clear ya yb))
    exact⟨l.length-(i+1),Aj6,i+1,M,rfl,Aj6,by simp,Aj6,hM,isOnceQ.done hI.out HX.out⟩
  ·have hil:i=l.length:=Aj6;subst hil;rw[Ag7]at hI
   repeat' (first|refine Z1 ?_|(refine Z8 ?_;intro yb ya)|(refine Z4 ?_;clear ya yb)|(refine Z2 ?_ ?_<;>intro h ab<;>try exact Xp)|refine Z3 ?_|exact Zt|(apply ya.out;clear ya yb))
   exact⟨_,rfl,idu,z.nobj+1,M,rfl,Aj6,ad,hM.out,hI.out⟩
theorem sF {n:Nat}{M W:Nat->Nat->Bool}{m i k:Nat}(h:part n M m i k W)(hv:fw M m i k=M i k):part n M m i (k+1) W:=by
 intro a b;rw[h];by_cases hc:(a<i/\b<n)\/(a=i/\b<k)
 ·rw[if_pos hc,if_pos Aj6]
 ·rw[if_neg hc];by_cases hd:(a<i/\b<n)\/(a=i/\b<k+1)
  ·rw[if_pos hd];have e1:a=i:=Aj6;have e2:b=k:=Aj6;rw[e1,e2,hv]
  ·rw[if_neg hd]
theorem sE {n:Nat}{M W:Nat->Nat->Bool}{m i:Nat}(h:part n M m i 0 W)(hv:M i m=false):part n M m (i+1) 0 W:=by
 intro a b;rw[h];by_cases hc:(a<i/\b<n)\/(a=i/\b<0)
 ·rw[if_pos hc,if_pos Aj6]
 ·rw[if_neg hc];by_cases hd:(a<i+1/\b<n)\/(a=i+1/\b<0)
  ·rw[if_pos hd];have e1:a=i:=Aj6;rw[e1];simp[fw,hv]
  ·rw[if_neg hd]
theorem N0 (N:List Tx)(l:List RItem)(cs:List AV)(idn idi:Nat)(hB:Bk N l cs)(z:St):ACalls Tryz.prog 175 [Bn N idn l idi cs] z fun r z'=>∃idu B M,r=sl idu N.length (Fc B N.length N.length)/\Keep z z'/\z.nobj<=B/\B+N.length<=z'.nobj/\Mat B N.length (F8 N.length M N.length) z'/\Dq N l M:=by
 have hN:=hB.nm;refine Z9 49 [.tmp 2] Tryz.func175 ?_
 repeat' (first|refine Z1 ?_|(refine Z8 ?_;intro yb ya)|(refine Z4 ?_;clear ya yb)|(refine Z5 ?_;refine Xi (R4 N l cs idn idi hB _) ?_;rintro _ _ ⟨idu,B,M0,rfl,ba,bb,ah,av,ax⟩;(rw[Aa]at bb))|refine Z3 ?_|exact Zt|(apply ya.out;clear ya yb))
 rename_i z1;have az:Akc (Dq N l M0):=ax;clear ax;have bg:=Ii B N.length N.length;have aw:Keep z z1:=Xs;clear ba
 refine Af (fun q s z'=>∃m:Nat,q=N.length-m/\m<=N.length/\s 3=sl idu N.length (Fc B N.length N.length)/\s 10=sc (.int .i64 N.length)/\s 11=sc (.int .i64 m)/\Keep z z'/\B+N.length<=z'.nobj/\Akc (Mat B N.length (F8 N.length M0 m) z')) N.length
  ⟨0,Aj6,Aj6,rfl,rfl,rfl,aw,ah,av⟩ ?_
 clear aw av ah;rintro q s z' ⟨m,rfl,hm,h3,ae,ad,hK,ac,hM⟩;by_cases aj:m<N.length
 ·generalize au:F8 N.length M0 m=M at hM;have bd:Akc _:=au;clear au
  repeat' (first|refine Z1 ?_|(refine Z8 ?_;intro yb ya)|(refine Z4 ?_;clear ya yb)|(refine Z2 ?_ ?_<;>intro h aa<;>try exact Xp)|refine Z3 ?_|exact Zt|(apply ya.out;clear ya yb))
  refine Af (fun q s z'=>∃(i:Nat) (W:Nat->Nat->Bool),q=N.length-i/\i<=N.length/\s 3=sl idu N.length (Fc B N.length N.length)/\s 4=sc (.int .i64 m)/\s 10=sc (.int .i64 N.length)/\s 11=sc (.int .i64 m)/\s 15=sc (.int .i64 N.length)/\s 16=sc (.int .i64 i)/\Keep z z'/\B+N.length<=z'.nobj/\Akc (Mat B N.length W z')/\Akc (part N.length M m i 0 W)) N.length
   ⟨0,M,Aj6,Aj6,by simp[upd,h3],Aj8,by simp[upd,ae],by simp[upd,ad],rfl,rfl,hK,ac,hM,sD⟩ ?_
  clear hK ac hM h3 ae ad;rintro q s z' ⟨i,W,rfl,hi,h3,h4,ae,ad,an,am,hK,ac,hM,hW⟩;by_cases ab:i<N.length
  ·have bh:=Ij (B:=B) (n:=N.length) (k:=N.length) ab;have a7:=hM.out _ ab;have a4:=Eg N.length (W i);have af:=Gp (W i) aj;obtain⟨-,v2,-⟩:=gI hW.out (by omega:0<N.length) aj;rw[v2]at af;have bc:Akc _:=v2;clear v2
   repeat' (first|refine Z1 ?_|(refine Z8 ?_;intro yb ya)|(refine Z4 ?_;clear ya yb)|(refine Z2 ?_ ?_<;>intro h aa<;>try exact Xp)|refine Z3 ?_|exact Zt|(apply ya.out;clear ya yb))
   ·exact⟨N.length-(i+1),Aj6,i+1,W,rfl,Aj6,by simp,hM,sE hW.out h⟩
   ·have ak:M i m=true:=h
    refine Af (fun q s z'=>∃(k:Nat) (W:Nat->Nat->Bool),q=N.length-k/\k<=N.length/\s 3=sl idu N.length (Fc B N.length N.length)/\s 4=sc (.int .i64 m)/\s 5=sc (.int .i64 i)/\s 10=sc (.int .i64 N.length)/\s 11=sc (.int .i64 m)/\s 15=sc (.int .i64 N.length)/\s 16=sc (.int .i64 i)/\s 28=sc (.int .i64 N.length)/\s 29=sc (.int .i64 k)/\Keep z z'/\B+N.length<=z'.nobj/\Akc (Mat B N.length W z')/\Akc (part N.length M m i k W)) N.length
     ⟨0,W,Aj6,Aj6,by simp[upd,h3],by simp[upd,h4],Aj8,by simp[upd,ae],by simp[upd,ad],by simp[upd,an],by simp[upd,am],rfl,rfl,hK,ac,hM,hW⟩ ?_
    clear hK ac hM hW h3 h4 ae ad an am af a4 a7 bc h W;rintro q s z' ⟨k,W,rfl,hk,h3,h4,h5,ae,ad,an,am,bl,bi,hK,ac,hM,hW⟩;by_cases ai:k<N.length
    ·obtain⟨-,-,v3⟩:=gI hW.out ai aj;have bf:=Ij (B:=B) (n:=N.length) (k:=N.length) aj;have a6:=hM.out _ ab;have a5:=hM.out _ aj;have a3:=Eg N.length (W i);have a0:=Eg N.length (W m);have af:=Gp (W m) ai;rw[v3]at af;clear v3;have ao:=Mat.set (q:=k) hM.out ab true;have be:Akc _:=ao;clear ao;generalize ap:M m k=vk at af;have ay:Akc _:=ap;clear ap;cases vk with
     |true=>
      repeat' (first|refine Z1 ?_|(refine Z8 ?_;intro yb ya)|(refine Z4 ?_;clear ya yb)|(refine Z2 ?_ ?_<;>intro h aa<;>try exact Xp)|refine Z3 ?_|exact Zt|(apply ya.out;clear ya yb))
      exact⟨N.length-(k+1),Aj6,k+1,_,rfl,Aj6,by simp,hK.put Aj6 _,be.out,xE hW.out (by simp[fw,ak,ay.out])⟩
     |false=>
      repeat' (first|refine Z1 ?_|(refine Z8 ?_;intro yb ya)|(refine Z4 ?_;clear ya yb)|(refine Z2 ?_ ?_<;>intro h aa<;>try exact Xp)|refine Z3 ?_|exact Zt|(apply ya.out;clear ya yb))
      exact⟨N.length-(k+1),Aj6,k+1,W,rfl,Aj6,by simp,hM,sF hW.out (by simp[fw,ay.out])⟩
    ·have a9:k=N.length:=Aj6;subst a9
     repeat' (first|refine Z1 ?_|(refine Z8 ?_;intro yb ya)|(refine Z4 ?_;clear ya yb)|(refine Z2 ?_ ?_<;>intro h aa<;>try exact Xp)|refine Z3 ?_|exact Zt|(apply ya.out;clear ya yb))
     exact⟨N.length-(i+1),Aj6,i+1,W,rfl,Aj6,by simp,hM,xF hW.out⟩
  ·have hil:i=N.length:=Aj6;subst hil
   repeat' (first|refine Z1 ?_|(refine Z8 ?_;intro yb ya)|(refine Z4 ?_;clear ya yb)|(refine Z2 ?_ ?_<;>intro h aa<;>try exact Xp)|refine Z3 ?_|exact Zt|(apply ya.out;clear ya yb))
   refine⟨N.length-(m+1),Aj6,m+1,rfl,Aj6,by simp,?_⟩;rw[Akc,show F8 N.length M0 (m+1)=W by rw[xG hW.out,<-bd.out];rfl];exact hM.out
 ·have a8:m=N.length:=Aj6;subst a8
  repeat' (first|refine Z1 ?_|(refine Z8 ?_;intro yb ya)|(refine Z4 ?_;clear ya yb)|(refine Z2 ?_ ?_<;>intro h aa<;>try exact Xp)|refine Z3 ?_|exact Zt|(apply ya.out;clear ya yb))
  first
  |exact⟨_,rfl,idu,B,M0,rfl,hK,Aj6,ac,hM.out,az.out⟩
  |exact⟨_,rfl,idu,B,M0,rfl,Aj6,ac,hM.out,az.out⟩
def xC (N:List Tx)(U:Nat->Nat->Bool)(h:Tx)(a:RAtom):Bool:=a.nt&&(((N.idxOf a.pred:Nat):Int)==((N.idxOf h:Nat):Int)||U (N.idxOf a.pred) (N.idxOf h))
def Zg (N:List Tx)(l:List RItem)(U:Nat->Nat->Bool)(i:Nat):Bool:=match l[i]? with|some x=>x.body.any (xC N U x.head.pred)|none=>false
theorem W8 (N:List Tx)(l:List RItem)(cs:List AV)(idn idi:Nat)(hB:Bk N l cs)(z:St):ACalls Tryz.prog 123 [Bn N idn l idi cs] z fun r z'=>∃M,Dq N l M/\r=sc (.int .i64 (Bh (Zg N l (F8 N.length M N.length)) l.length))/\Keep z z':=by
 have bf:=EL.length Dd hB.el;have ba:=hB.len;have hN:=hB.nm;refine Z9 52 [.tmp 2] Tryz.func123 ?_
 repeat' (first|refine Z1 ?_|(refine Z8 ?_;intro yb ya)|(refine Z4 ?_;clear ya yb)|(refine Z5 ?_;refine Xi (N0 N l cs idn idi hB _) ?_;rintro _ _ ⟨idu,B,M0,rfl,au,bc,ah,ap,a6⟩;(rw[Aa]at bc;have aj:=au.obj;have ae:=au.nobj;(try simp only[Aa,Ab,Aw]at ae)))|refine Z3 ?_|exact Zt|(apply ya.out;clear ya yb))
 rename_i z1;have ay:Akc (Dq N l M0):=a6;clear a6 aj;have be:=Ii B N.length N.length;have a5:Keep z z1:=Xs;clear au;generalize hU:F8 N.length M0 N.length=U at ap;have HU:Akc _:=hU;clear hU
 refine Af (fun m s z'=>∃i:Nat,m=l.length-i/\i<=l.length/\s 3=sl idu N.length (Fc B N.length N.length)/\s 13=sl idi l.length cs/\s 14=sc (.int .i64 l.length)/\s 15=sc (.int .i64 i)/\Keep z z'/\B+N.length<=z'.nobj/\Akc (Mat B N.length U z')/\Akc (∀j,j<i->Zg N l U j=false)) l.length
  ⟨0,Aj6,Aj6,Aj8,Aj8,Aj8,rfl,a5,ah,ap,fun j hj=>Aj6⟩ ?_
 clear a5 ap ah ae;rintro m s z' ⟨i,rfl,hi,h3,ax,aw,av,hK,ad,hM,ai⟩;have az:=hK.nobj;by_cases ao:i<l.length
 ·have aa:=Agz ao;have a3:=hB.fits l[i] (Ain ao);obtain⟨hm,ih,id,b,r,hb,hd⟩:=Em hB.el aa;generalize l[i]=x at hd aa a3 hb hm;have hv:Akc (Zg N l U i=x.body.any (xC N U x.head.pred)):=by rw[Akc,Zg,aa]
  clear aa;have bg:=EL.length Ds hb;have bd:=a3.1;have a0:=Air hm
  repeat' (first|refine Z1 ?_|(refine Z8 ?_;intro yb ya)|(refine Z4 ?_;clear ya yb)|(refine Z2 ?_ ?_<;>intro h ac<;>try exact Xp)|refine Z3 ?_|exact Zt|(apply ya.out;clear ya yb))
  refine Af (fun m s z''=>∃j:Nat,m=x.body.length-j/\j<=x.body.length/\s 3=sl idu N.length (Fc B N.length N.length)/\s 4=sc (.int .i64 i)/\s 6=sc (.int .i64 (N.idxOf x.head.pred:Nat))/\s 13=sl idi l.length cs/\s 14=sc (.int .i64 l.length)/\s 15=sc (.int .i64 i)/\s 24=sl id x.body.length b/\s 25=sc (.int .i64 x.body.length)/\s 26=sc (.int .i64 j)/\Keep z z''/\B+N.length<=z''.nobj/\Akc (Mat B N.length U z'')/\Akc ((x.body.take j).any (xC N U x.head.pred)=false)) x.body.length
   ⟨0,Aj6,Aj6,by simp[upd,h3],Aj8,Aj8,by simp[upd,ax],by simp[upd,aw],by simp[upd,av],Aj8,rfl,rfl,(hK.new _).put hK.nobj _,Akb,Mat.put (Mat.new hM.out ad _) ad _,by simp[Akc]⟩ ?_
  clear hK hM ad h3 ax aw av az;rintro m s z'' ⟨j,rfl,hj,h3,h4,h6,ax,aw,av,bl,bi,bh,hK,ad,hM,ab⟩;have az:=hK.nobj;by_cases an:j<x.body.length
  ·have aa:=Agz an;obtain⟨ha,ia,r2,a4⟩:=Ml hb aa;generalize x.body[j]=a at a4 aa ha;have HA:Akc (x.body[j]?=some a):=aa;clear aa;have am:=Air ha;have a8:=Ij (B:=B) (n:=N.length) (k:=N.length) am;have a9:=hM.out _ am;have a7:=Eg N.length (U (N.idxOf a.pred));have ak:=Gp (U (N.idxOf a.pred)) a0;have af:Akc (xC N U x.head.pred a=(a.nt&&(((N.idxOf a.pred:Nat):Int)==((N.idxOf x.head.pred:Nat):Int)||U (N.idxOf a.pred) (N.idxOf x.head.pred)))):=rfl;generalize hu:U (N.idxOf a.pred) (N.idxOf x.head.pred)=uu at ak af;clear hu;generalize N.idxOf a.pred=pa at a4 am a8 a9 a7 ak af;generalize N.idxOf x.head.pred=ph at h6 ak af a0
   repeat' (first|refine Z1 ?_|(refine Z8 ?_;intro yb ya)|(refine Z4 ?_;clear ya yb)|(refine Z2 ?_ ?_<;>intro h ac<;>try exact Xp)|refine Z3 ?_|exact Zt|(apply ya.out;clear ya yb))
   all_goals
    first
    |(refine⟨_,rfl,M0,ay.out,?_,(hK.new _).put hK.nobj _⟩
      rw[HU.out,Kw ao (by rw[hv.out];exact S7 _ HA.out (by rw[af.out];simp[*])) ai.out])
    |(refine⟨x.body.length-(j+1),Aj6,j+1,rfl,Aj6,by simp,(hK.new _).put hK.nobj _,Aj6,Mat.put (Mat.new hM.out ad _) ad _,?_⟩
      rw[Akc,any_take_succ _ HA.out,ab.out,af.out];simp[*])
  ·have bb:j=x.body.length:=Aj6;subst bb;rw[Ag7]at ab
   repeat' (first|refine Z1 ?_|(refine Z8 ?_;intro yb ya)|(refine Z4 ?_;clear ya yb)|(refine Z2 ?_ ?_<;>intro h ac<;>try exact Xp)|refine Z3 ?_|exact Zt|(apply ya.out;clear ya yb))
   exact⟨l.length-(i+1),Aj6,i+1,rfl,Aj6,by simp,My ai.out (by rw[hv.out];exact ab.out)⟩
 ·have hil:i=l.length:=Aj6;subst hil
  repeat' (first|refine Z1 ?_|(refine Z8 ?_;intro yb ya)|(refine Z4 ?_;clear ya yb)|(refine Z2 ?_ ?_<;>intro h ac<;>try exact Xp)|refine Z3 ?_|exact Zt|(apply ya.out;clear ya yb))
  first
  |exact⟨_,rfl,M0,ay.out,by rw[HU.out,Cu ai.out],hK⟩
  |exact⟨_,rfl,M0,ay.out,by rw[HU.out,Cu ai.out]⟩
def VT (w:Tx):Prop:=(∃b,w=[b]/\Bl b.toNat=true)\/(w≠[]/\∀b∈w,Az b.toNat=true)
def VA (a:RAtom):Prop:=∀w∈a.terms,VT w
theorem gK {s r w:Tx}(h:Ci s= .got w r):VT w:=by
 cases s with
 |nil=>cases h
 |cons b q=>
  unfold Ci at h;dsimp only at h;split at h
  ·rename_i hl;cases h;exact .inl ⟨b,rfl,hl⟩
  split at h
  ·rename_i h0;cases h;refine .inr ⟨by simp,fun c hc=>?_⟩;simp at hc;subst hc;rw[digit_iff];exact .inr h0
  split at h
  ·rename_i h9;cases h;refine .inr ⟨by simp,fun c hc=>?_⟩;rcases Ah2.1 hc with rfl|hc
   ·rw[digit_iff];exact .inl h9
   ·exact (D7 Az 2 q).2 c hc
  ·cases h
theorem Ms {α:Type}{f:Tx->Rd α}{P:α->Prop}(hf:∀s x r,f s= .got x r->P x):∀(n:Nat) (s:Tx) (xs:List α) (r:Tx),Du f n s= .got xs r->∀x∈xs,P x
 |0,s,xs,r,h=>by unfold Du at h;cases h;simp
 |n+1,[],xs,r,h=>by unfold Du at h;cases h;simp
 |n+1,b::q,xs,r,h=>by
  unfold Du at h;split at h
  ·obtain⟨x,q1,h1,h2⟩:=A0 h;obtain⟨ys,q2,h3,h4⟩:=A0 h2;cases h4;intro y hy;rcases Ah2.1 hy with rfl|hy
   ·exact hf _ _ _ h1
   ·exact Ms hf n _ _ _ h3 y hy
  ·cases h;simp
theorem J7 {T:Tx->Prop}(hT:∀s w r,Ci s= .got w r->T w){nt:Bool}{s r:Tx}{a:RAtom}(h:C9 nt s= .got a r):∀w∈a.terms,T w:=by
 unfold C9 U7 at h;obtain⟨p,q1,-,h⟩:=A0 h;obtain⟨u,q2,-,h⟩:=A0 h;obtain⟨w,q3,h1,h⟩:=A0 h;obtain⟨ws,q4,h2,h⟩:=A0 h;obtain⟨u2,q5,-,h⟩:=A0 h;cases h;intro y hy;rcases Ah2.1 hy with rfl|hy
 ·exact hT _ _ _ h1
 ·exact Ms hT _ _ _ _ h2 y hy
theorem gP {T:Tx->Prop}(hT:∀s w r,Ci s= .got w r->T w){s r:Tx}{a:RAtom}(h:J3 s= .got a r):∀w∈a.terms,T w:=by rw[pX]at h;exact J7 hT h
theorem sG {T:Tx->Prop}(hT:∀s w r,Ci s= .got w r->T w){s r:Tx}{x:RItem}(h:Fe s= .got x r):∀a∈Ae x,∀w∈a.terms,T w:=by
 rw[gQ]at h;split at h
 ·unfold bQ at h;obtain⟨p,q1,-,h⟩:=A0 h;obtain⟨u,q2,-,h⟩:=A0 h;cases h;simp[Ae]
 ·unfold Nr at h;obtain⟨a,q1,h1,h⟩:=A0 h;rw[gM]at h;split at h
  ·cases h;intro y hy;simp[Ae]at hy;subst hy;exact J7 hT h1
  ·obtain⟨u,q2,-,h⟩:=A0 h;obtain⟨ls,q3,h3,h⟩:=A0 h;obtain⟨u2,q4,-,h⟩:=A0 h;cases h;intro y hy;simp[Ae]at hy;rcases hy with rfl|hy
   ·exact J7 hT h1
   ·unfold D8 Sc at h3;obtain⟨l,q5,h5,h3⟩:=A0 h3;obtain⟨ls2,q6,h6,h3⟩:=A0 h3;cases h3;rcases Ah2.1 hy with rfl|hy
    ·exact gP hT h5
    ·exact Ms (fun _ _ _ h=>gP hT h) _ _ _ _ h6 y hy
theorem Iv {T:Tx->Prop}(hT:∀s w r,Ci s= .got w r->T w):∀(n:Nat) (s:Tx) (l:List RItem) (r:Tx),Bq n s= .got l r->∀x∈l,∀a∈Ae x,∀w∈a.terms,T w
 |n,[],l,r,h=>by rw[U3]at h;cases h;simp
 |0,b::q,l,r,h=>by rw[Rn]at h;cases h
 |n+1,b::q,l,r,h=>by
  rw[L1]at h;obtain⟨x,q1,h1,h⟩:=A0 h;obtain⟨xs,q2,h2,h⟩:=A0 h;cases h;intro y hy;rcases Ah2.1 hy with rfl|hy
  ·exact sG hT h1
  ·exact Iv hT n _ _ _ h2 y hy
theorem Qw (n:Nat)(s:Tx)(l:List RItem)(r:Tx)(h:Bq n s= .got l r):∀x∈l,∀a∈Ae x,VA a:=Iv (T:=VT) (fun _ _ _ h=>gK h) n s l r h
theorem K0 {w:Tx}(h:VT w):(Ak w).1=Ad w:=by
 rcases h with⟨b,rfl,hl⟩|⟨hn,hd⟩
 ·rw[Dz hl];simp[Ad,hl]
 ·cases w with
  |nil=>exact absurd rfl hn
  |cons b r=>
   have hb:=hd b (by simp);have hl:Bl b.toNat=false:=by
    cases hl:Bl b.toNat with
    |false=>rfl
    |true=>simp[Az]at hb;simp[Bl]at hl;omega
   rw[Mb hl];simp[Ad,hl]
theorem yN {u t:Tx}(hu:VT u)(ht:VT t)(hv:Ad t=true):Oi (Ak t).2 u=(u==t):=by
 obtain⟨b,rfl,hl⟩:∃b,t=[b]/\Bl b.toNat=true:=by
  rcases ht with h|⟨hn,hd⟩
  ·exact h
  ·exfalso;cases t with
   |nil=>exact hn rfl
   |cons b r=>
    have hb:=hd b (by simp);simp[Ad]at hv;simp[Az]at hb;simp[Bl]at hv;omega
 rw[Dz hl];unfold Oi;rcases hu with⟨c,rfl,hc⟩|⟨hn,hd⟩
 ·rw[Dz hc];simp only[Aie];by_cases e:c=b
  ·subst e;simp
  ·have:(c.toNat:Int)≠b.toNat:=fun h=>e (UInt8.toNat_inj.1 Aj6);have h1:((c.toNat:Int)-65==(b.toNat:Int)-65)=false:=by simp;omega
   have h2:(([c]:Tx)==[b])=false:=by simpa using e
   rw[h1,h2]
 ·have h1:(Ak u).1=false:=by
   rw[K0 (.inr ⟨hn,hd⟩)];cases u with
   |nil=>rfl
   |cons c r=>
    have hb:=hd c (by simp);cases hv:Ad (c::r)with
    |false=>rfl
    |true=>simp[Ad,Bl]at hv;simp[Az]at hb;omega
  have h2:(u==[b])=false:=by
   simp;rintro rfl;have:=hd b (by simp);simp[Az]at this;simp[Bl]at hl;omega
  rw[h1,h2];rfl
theorem Ed {α:Type}{l:List α}{p q:α->Bool}(h:∀a∈l,p a=q a):l.any p=l.any q:=by
 induction l with
 |nil=>rfl
 |cons a l ih=>simp only[List.any_cons];rw[h a (by simp),ih (fun b hb=>h b (by simp[hb]))]
theorem zQ {x:RItem}(hV:∀a∈Ae x,VA a){t:Tx}(ht:VT t)(hv:Ad t=true):Fh x (Ak t).2=Me x t:=by
 unfold Fh Me;apply Ed;intro a ha;have hA:VA a:=hV a (by unfold Ae;simp[ha]);cases hn:a.nt with
 |true=>simp
 |false=>
  simp only[Bool.not_false,Aie];exact Ed fun u hu=>yN (hA u hu) ht hv
theorem Sv {x:RItem}(hV:∀a∈Ae x,VA a):Eb x=F6 x:=by
 unfold Eb F6;congr 1;apply Ed;intro a ha;unfold zR tU;apply Ed;intro w hw;have hA:=hV a ha w hw;rw[K0 hA];cases hv:Ad w with
 |false=>rfl
 |true=>rw[zQ hV hA hv]
theorem Py {p q:Nat->Bool}{n:Nat}(h:∀i,i<n->p i=q i):Bh p n=Bh q n:=by
 have e:(List.range n).find? p=(List.range n).find? q:=by
  have hm:∀i∈List.range n,p i=q i:=fun i hi=>h i (by simpa using hi);generalize List.range n=l at hm;induction l with
  |nil=>rfl
  |cons a l ih=>simp only[List.find?_cons];rw[hm a (by simp),ih (fun b hb=>hm b (by simp[hb]))]
 unfold Bh;rw[e]
theorem rB {N:List Tx}{l:List RItem}(hN:∀x∈l,x.head.pred∈N/\∀a∈x.body,a.pred∈N){i j:Nat}(h:Way (gV N l) i j):∃p q,p∈N/\q∈N/\N.idxOf p=i/\N.idxOf q=j/\Way (D5 l) p q:=by
 induction h with
 |one e=>
  obtain⟨x,hx,h1,a,ha,h2⟩:=e;exact⟨x.head.pred,a.pred,(hN x hx).1,(hN x hx).2 a ha,h1,h2,.one ⟨x,hx,rfl,a,ha,rfl⟩⟩
 |more e _ ih=>
  obtain⟨x,hx,h1,a,ha,h2⟩:=e;obtain⟨p,q,hp,hq,e1,e2,w⟩:=ih;have:a.pred=p:=C1 ((hN x hx).2 a ha) hp Aj6;subst this;exact⟨x.head.pred,q,(hN x hx).1,hq,h1,e2,.more ⟨x,hx,rfl,a,ha,rfl⟩ w⟩
theorem kP {N:List Tx}{l:List RItem}{p q:Tx}(h:Way (D5 l) p q):Way (gV N l) (N.idxOf p) (N.idxOf q):=by
 induction h with
 |one e=>
  obtain⟨x,hx,rfl,a,ha,rfl⟩:=e;exact .one ⟨x,hx,rfl,a,ha,rfl⟩
 |more e _ ih=>
  obtain⟨x,hx,rfl,a,ha,rfl⟩:=e;exact .more ⟨x,hx,rfl,a,ha,rfl⟩ ih
theorem Way.map' {α:Type}{E F:α->α->Prop}(h:∀a b,E a b->F a b){a b:α}(w:Way E a b):Way F a b:=by
 induction w with
 |one e=>exact .one (h _ _ e)
 |more e _ ih=>exact .more (h _ _ e) ih
theorem Aa3 {N:List Tx}{l:List RItem}{M:Nat->Nat->Bool}(hN:∀x∈l,x.head.pred∈N/\∀a∈x.body,a.pred∈N)(ho:∀x∈l,x.out=true->x.body=[])(hM:Dq N l M){p q:Tx}(hp:p∈N)(hq:q∈N)(hy:∃y∈l,y.out=false/\y.head.pred=q):
  F8 N.length M N.length (N.idxOf p) (N.idxOf q)=oJ l p q:=by
 have hS:Aai N.length M:=by
  intro a b ac;obtain⟨x,hx,rfl,c,hc,rfl⟩:=(hM a b).1 ac;exact⟨Air (hN x hx).1,Air ((hN x hx).2 c hc)⟩
 rw[Aio,cI hS,Mn ho hy];constructor
 ·intro w;obtain⟨p',q',ab,aa,e1,e2,w'⟩:=rB hN (w.map' fun a b h=>(hM a b).1 h);rw[<-C1 ab hp e1,<-C1 aa hq e2];exact w'
 ·intro w;exact (kP w).map' fun a b h=>(hM a b).2 h
theorem aX {N:List Tx}:∀{l:List RAtom} {cs:List AV},EL (PL N) l cs->∀a∈l,a.pred∈N
 |[],cs,h,a,ha=>by cases ha
 |b::l,cs,⟨c,d,hc,hd,e⟩,a,ha=>by
  rcases Ah2.1 ha with rfl|ha
  ·exact hc.1
  ·exact aX hd a ha
theorem Hh {N:List Tx}:∀{l:List RItem} {cs:List AV},EL (PI N) l cs->∀x∈l,x.head.pred∈N/\∀a∈x.body,a.pred∈N
 |[],cs,h,a,ha=>by cases ha
 |b::l,cs,⟨c,d,hc,hd,e⟩,a,ha=>by
  rcases Ah2.1 ha with rfl|ha
  ·obtain⟨hm,ih,id,bb,hb,-⟩:=hc;exact⟨hm,aX hb⟩
  ·exact Hh hd a ha
theorem Acg {N:List Tx}{l:List RItem}{cs:List AV}{M:Nat->Nat->Bool}(hB:Bk N l cs)(hM:Dq N l M):Bh (Zg N l (F8 N.length M N.length)) l.length=Bh (G1 l) l.length:=by
 have hN:=Hh hB.el;apply Py;intro i hi;unfold Zg G1;rw[Agz hi];dsimp only;have hx:=Ain hi;generalize l[i]=x at hx;apply Ed;intro a ha;unfold xC Ac1;have ho:x.out=false:=by
  cases h:x.out with
  |false=>rfl
  |true=>rw[hB.out x hx h]at ha;cases ha
 rw[Aa3 hN hB.out hM ((hN x hx).2 a ha) (hN x hx).1 ⟨x,hx,ho,rfl⟩];congr 2;rw[Aio];simp only[Aj4];constructor
 ·intro e;exact C1 ((hN x hx).2 a ha) (hN x hx).1 Aj6
 ·intro e;rw[e]
theorem rF {l:List RItem}(hV:∀x∈l,∀a∈Ae x,VA a):Bh (Mq l) l.length=Bh (D9 l) l.length:=by
 apply Py;intro i hi;unfold Mq D9;rw[Agz hi];dsimp only;rw[Sv (hV _ (Ain hi))]
theorem Vp (N:List Tx)(l:List RItem)(cs:List AV)(idn idi:Nat)(hB:Bk N l cs)(hV:∀x∈l,∀a∈Ae x,VA a)(z:St):ACalls Tryz.prog 71 [Bn N idn l idi cs] z fun r z'=>r=two (Cd l)/\Keep z z':=by
 have g1:=@Q4 (H6 l) l.length;have g2:=@Q4 (D9 l) l.length;have g3:=@Q4 (G1 l) l.length;have hU:=rF hV;have ab:=Q3 N l cs idn idi hB;rw[hU]at ab;have aj:∀z,ACalls Tryz.prog 123 [Bn N idn l idi cs] z fun r z'=>r=sc (.int .i64 (Bh (G1 l) l.length))/\Keep z z':=fun z=>by
  refine ACalls.mono (W8 N l cs idn idi hB z) ?_;rintro _ _ ⟨M,hM,rfl,hK⟩;exact⟨by rw[Acg hB hM],hK⟩
 clear hU;refine Z9 20 [.tmp 2,.tmp 3] Tryz.func71 ?_
 repeat' (first|refine Z1 ?_|(refine Z8 ?_;intro yb ya)|(refine Z4 ?_;clear ya yb)|(refine Z2 ?_ ?_<;>intro h ai<;>try exact Xp)|(refine Z5 ?_;first|(refine Xi (Sk N l cs idn idi hB _) ?_;rintro _ _ ⟨rfl,ad⟩;(have af:=ad.obj;have aa:=ad.nobj;(try simp only[Aa,Ab,Aw]at aa)))|(refine Xi (ab _) ?_;rintro _ _ ⟨rfl,ac⟩;(have ae:=ac.obj;have ah:=ac.nobj))|(refine Xi (aj _) ?_;rintro _ _ ⟨rfl,ak⟩))|refine Z3 ?_|exact Zt|(apply ya.out;clear ya yb))
 ·have e1:Bh (H6 l) l.length≠ -1:=by simpa using h
  exact⟨_,rfl,by unfold Cd;rw[if_pos Aj6],Xs⟩
 ·have e1:Bh (H6 l) l.length= -1:=by simpa using (show (Bh (H6 l) l.length != -1)=false by assumption)
  have e2:Bh (D9 l) l.length≠ -1:=by simpa using h
  exact⟨_,rfl,by unfold Cd;rw[if_neg Aj6,if_pos Aj6],Xs⟩
 ·have e1:Bh (H6 l) l.length= -1:=by simpa using (show (Bh (H6 l) l.length != -1)=false by assumption)
  have e2:Bh (D9 l) l.length= -1:=by simpa using (show (Bh (D9 l) l.length != -1)=false by assumption)
  have e3:Bh (G1 l) l.length≠ -1:=by simpa using h
  exact⟨_,rfl,by unfold Cd;rw[if_neg Aj6,if_neg Aj6,if_pos Aj6],Xs⟩
 ·have e1:Bh (H6 l) l.length= -1:=by simpa using (show (Bh (H6 l) l.length != -1)=false by assumption)
  have e2:Bh (D9 l) l.length= -1:=by simpa using (show (Bh (D9 l) l.length != -1)=false by assumption)
  have e3:Bh (G1 l) l.length= -1:=by simpa using h
  exact⟨_,rfl,by unfold Cd;rw[if_neg Aj6,if_neg Aj6,if_neg Aj6],Xs⟩
theorem Agj {N:List Tx}{l:List RItem}{cs:List AV}(hE:EL (PI N) l cs)(hl:l.length<=16)(hW:∀x∈l,Ck x)(hN:N.length<=2000):Bk N l cs:=by
 refine⟨hE,hl,fun x hx=>?_,fun x hx ho=>((hW x hx).2.1 ho).2.2,hN,fun x hx a ha=>?_⟩
 ·obtain⟨-,h2,h3⟩:=hW x hx;cases ho:x.out with
  |true=>
   obtain⟨-,q1,q2⟩:=h2 ho;exact⟨by simp[q2],by simp[q1],by simp[q2]⟩
  |false=>
   obtain⟨q1,-,q2,q3⟩:=h3 ho;have:=q1.2.2.1;exact⟨Aj6,Aj6,fun a ha=>by have:=(q3 a ha).2.2.1;omega⟩
 ·obtain⟨-,h2,h3⟩:=hW x hx;unfold Ae at ha;cases ho:x.out with
  |true=>
   obtain⟨-,q1,q2⟩:=h2 ho;simp[ho,q2]at ha
  |false=>
   obtain⟨q1,-,q2,q3⟩:=h3 ho;simp[ho]at ha;have hp:D1 a->0<a.terms.length:=fun w=>by
    have:=w.2.1;cases hh:a.terms with
    |nil=>exact absurd hh this
    |cons y ys=>simp
   rcases ha with rfl|ha
   ·exact hp q1
   ·exact hp (q3 a ha)
theorem dG {l:List RItem}(h:(Cd l).1=0):Cd l=(0,0):=by
 unfold Cd at h⊢;split
 ·rename_i h1;rw[if_pos h1]at h;cases h
 ·rename_i h1;rw[if_neg h1]at h;split
  ·rename_i h2;rw[if_pos h2]at h;cases h
  ·rename_i h2;rw[if_neg h2]at h;split
   ·rename_i h3;rw[if_pos h3]at h;cases h
   ·rfl
def mQ (t:Tx)(n1:Nat)(c1:List AV)(n2:Nat)(c2:List AV):Prop:=
 ∃N l,Bq 16 t= .got l []/\Bk N l c2/\n1=N.length/\c1=N.map str/\n2=l.length/\(∀x∈l,∀a∈Ae x,VA a)/\∀x∈l,Ck x
theorem Vi (t:Tx)(z:St):ACalls Tryz.prog 37 [str t] z fun r z'=>∃idn n1 c1 idi n2 c2,r=tp [ag [sl idn n1 c1,sl idi n2 c2],sc (.int .i64 (As t).1),sc (.int .i64 (As t).2)]/\Keep z z'/\((As t).1=0->n1<=600/\mQ t n1 c1 n2 c2):=by
 refine Z9 41 [.cell 2 62,.tmp 3,.tmp 4] Tryz.func37 ?_;by_cases hL:600<t.length
 ·have ad:As t=(1,0):=by unfold As;rw[if_pos hL]
  have ac:Akc _:=ad;clear ad
  repeat' (first|refine Z1 ?_|(refine Z8 ?_;intro yb ya)|(refine Z4 ?_;clear ya yb)|(refine Z2 ?_ ?_<;>intro h aj<;>try exact Xp)|refine Z3 ?_|exact Zt|(apply ya.out;clear ya yb))
  refine⟨_,rfl,1,0,[],1,0,[],by rw[ac.out],Xs,by rw[ac.out];intro h;simp at h⟩
 ·have aa:=Kq t;have ht:t.length<=1000:=Aj6;have ap:RS 0 t (z.nobj+1) [] 1 t (((z.new [nilS,nilS]).new [str [],sc (.int .i64 0),nilS]).put (z.nobj+1) [str t,sc (.int .i64 0),nilS]):=by
   refine⟨?_,Nat.lt_succ_self _,.inl ⟨rfl,rfl⟩,Aij _,by simp⟩;rw[Aj];simp[Le,R9]
  have hR:=fQ ht ap;have an:Keep z (((z.new [nilS,nilS]).new [str [],sc (.int .i64 0),nilS]).put (z.nobj+1) [str t,sc (.int .i64 0),nilS]):=(((Keep.refl z).new _).new _).put Aj6 _;cases hp:Bq 16 t with
  |bad e=>
   rw[hp]at hR aa;dsimp only at aa;have ad:As t=(2,((t.length-e.length:Nat):Int)):=by
    unfold As;rw[if_neg hL,aa,if_pos (Aiu _)]
   have ac:Akc _:=ad;have HR:Akc _:=hR;have ao:Akc _:=an;clear ad aa ap hR hp an
   repeat' (first|refine Z1 ?_|(refine Z8 ?_;intro yb ya)|(refine Z4 ?_;clear ya yb)|(refine Z2 ?_ ?_<;>intro h aj<;>try exact Xp)|(refine Z5 ?_;refine Xi (HR.out) ?_;rintro _ _ ⟨n,ids,c,N',id',rfl,ae,ak,a4,ax⟩;(have af:=ae.keep.obj;have ah:=ae.keep.nobj;(try simp only[Aa,Ab,Aw]at ah)))|refine Z3 ?_|exact Zt|(apply ya.out;clear ya yb))
   rename_i z1;have ab:=ak.obj;unfold Le R9 at ab;simp only[Rd.rest]at ab;have a3:z1.obj z.nobj=[nilS,nilS]:=by
    rw[af _ Akb Aj6,Ah Aj6,Ag (by rw[Aa];omega),Ao]
   have ai:Keep z z1:=KeepR.keep ao.out ae.keep Aj6 (.inl Aj6);clear af;refine A8 Ai (fun p=>p=z.nobj+1) [5] [0,1,2] [3,4,5] Aj9 (fun _ _ _ h=>h) ?_;intro yb ya;have aw:∀i,Kept (fun j=>!([5]:List Nat).contains j) (fun p=>p=z.nobj+1) z1 i (z1.put z.nobj [nilS,nilS]):=fun i _ p hp hF=>by
    subst hF;simp[St.put]
   refine Z3 ?_;refine⟨fun p h=>h.elim,fun p h=>h.elim,fun p h=>by cases h;rfl,?_⟩
   try (refine And.intro (aw _) ?_)
   try (refine And.intro (aw _) ?_)
   repeat' (first|refine Z1 ?_|(refine Z4 ?_;clear ya yb)|refine Z3 ?_|exact Zt|(apply ya.out;clear ya yb))
   refine⟨_,rfl,1,0,[],1,0,[],by rw[ac.out],ai.put (Agn _) _,by rw[ac.out];intro h;simp at h⟩
  |got l r=>
   rw[hp]at hR aa;dsimp only at aa;obtain⟨p1,p2,p3,p4⟩:=Iu ht hp;have av:=Qw _ _ _ _ hp;have az:=(Ex _ _ _ _ hp).2.1;subst az;have ad:As t=Cd l:=by
    unfold As;rw[if_neg hL,aa,if_neg Aj6,p2]
   have ac:Akc _:=ad;have HR:Akc _:=hR;have ao:Akc _:=an;have HP:Akc _:=hp;clear ad aa ap hR hp an p2 p1
   repeat' (first|refine Z1 ?_|(refine Z8 ?_;intro yb ya)|(refine Z4 ?_;clear ya yb)|(refine Z2 ?_ ?_<;>intro h aj<;>try exact Xp)|(refine Z5 ?_;first|(refine Xi (HR.out) ?_;rintro _ _ ⟨n,ids,c,N',id',rfl,ae,ak,a4,ax⟩;(have af:=ae.keep.obj;have ah:=ae.keep.nobj;(try simp only[Aa,Ab,Aw]at ah);have ab:=ak.obj;unfold Le R9 at ab;obtain⟨rfl,a5⟩:n=l.length/\EL (PI N') l c:=ax;have ay:=Agj a5 p3 p4 (by have:=ak.len;omega)))|(refine Xi (Vp N' l c id' ids ay av _) ?_;rintro _ _ ⟨rfl,am⟩;(have kobf:=am.obj;have knof:=am.nobj;(try simp only[Aa,Ab,Aw]at knof))))|refine Z3 ?_|exact Zt|(apply ya.out;clear ya yb))
   ·rename_i z1 a0 _ z2;have ai:Keep z z1:=KeepR.keep ao.out ae.keep Aj6 (.inl Aj6);have au:=(((ai.new [nilS,nilS]).put ai.nobj _).trans am);exact⟨_,rfl,1,0,[],1,0,[],by rw[ac.out],au.put (Agn _) _,by rw[ac.out];intro h0;simp[h0]at h⟩
   ·rename_i z1 a0 _ z2;have ai:Keep z z1:=KeepR.keep ao.out ae.keep Aj6 (.inl Aj6);have au:=(((ai.new [nilS,nilS]).put ai.nobj _).trans am);have hw:=dG (l:=l) (by simpa using h);exact⟨_,rfl,id',N'.length,N'.map str,ids,l.length,c,by rw[ac.out,hw],au.put (Agn _) _,fun _=>⟨by have:=ak.len;simp only[Rd.rest,Ahx]at this;omega,N',l,HP.out,ay,rfl,rfl,rfl,av,p4⟩⟩
theorem Zy (t:Tx)(z:St):ACalls Tryz.prog 37 [str t] z fun r z'=>∃idn n1 c1 idi n2 c2,r=tp [ag [sl idn n1 c1,sl idi n2 c2],sc (.int .i64 (As t).1),sc (.int .i64 (As t).2)]/\Keep z z'/\((As t).1=0->mQ t n1 c1 n2 c2):=
 ACalls.mono (Vi t z) fun r z' ⟨idn,n1,c1,idi,n2,c2,h1,h2,h3⟩=>⟨idn,n1,c1,idi,n2,c2,h1,h2,fun h=>(h3 h).2⟩
theorem nM (t:Tx)(z:St):ACalls Tryz.prog 19 [str t] z fun r z'=>r=two (As t)/\Keep z z':=by
 refine Z9 15 [.tmp 2,.tmp 3] Tryz.func19 ?_
 repeat' (first|refine Z1 ?_|(refine Z8 ?_;intro yb ya)|(refine Z4 ?_;clear ya yb)|(refine Z5 ?_;refine Xi (Zy t _) ?_;rintro _ _ ⟨idn,n1,c1,idi,n2,c2,rfl,hK,hb⟩;(clear hb))|refine Z3 ?_|exact Zt|(apply ya.out;clear ya yb))
 exact⟨_,rfl,rfl,(hK.new _).put hK.nobj _⟩
open Go.RowKit (Below)
def st0:St:={obj:=fun _=>[],nobj:=0,top:=fun _=>0,ntop:=0,ver:=fun _=>0}
def gh0 (W:World):Gh:={blk:=fun _=>0,cur:=fun _=>0,cap:=fun _=>0,siz:=fun _=>0,per:=fun b _=>b<W.heap.size,base:=W.heap.size,w0:=W}
theorem inv0 (W:World)(hy:Abs.Hyp W.heap.size W):Abs.Inv (gh0 W) st0 W:=
 ⟨fun o h=>absurd h (Aiv _),fun o o' h=>absurd h (Aiv _),fun k h=>absurd h (Aiv _),fun k k' h=>absurd h (Aiv _),fun o k h=>absurd h (Aiv _),
  fun b off h=>h,fun b off h=>h,Below.refl _ _,Agn _,hy⟩
end Go.Proofs.YtmoeoppbmhfbpabGreatDoorL
