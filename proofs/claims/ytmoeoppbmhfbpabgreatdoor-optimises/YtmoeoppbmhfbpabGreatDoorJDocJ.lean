import Derived.Test.YtmoeoppbmhfbpabGreatDoorJDocG
import Derived.Test.YtmoeoppbmhfbpabGreatDoorJRspC
import Derived.Test.YtmoeoppbmhfbpabGreatDoorJSpaB
import Derived.Test.YtmoeoppbmhfbpabGreatDoorJPrtP
set_option maxHeartbeats 64000000
set_option maxRecDepth 100000
set_option linter.all false
open List renaming length->Z
namespace Go.Proofs.YtmoeoppbmhfbpabGreatDoorJ
open Go.Abs
def Hn (t:Tx):Tx:=if Ab t=true then 35::t else t
def Cw (a:AE):AE:=⟨a.nt,a.B,a.A.map Hn⟩
def Rl (a ia)(Q:Z a.A<=1000)(D:∀t∈a.A,Z t<=1000)(z):ni 158 [ag [my a.nt,str a.B,sl ia (Z a.A) (a.A.map str)]] z λr b=>∃i,r=ag [my a.nt,str a.B,sl i (Z a.A) ((Cw a).A.map str)]/\AD z b:=by
 have U:({data:=#[35]}:ByteArray)=bs [35]:=rfl;refine Z9 34 [.cell 2 108] Tryz.func158 ?_;refine mu ?_
 refine Ae (λm s b=>∃(i g:Nat) (d:oh),m=Z a.A-i/\i<=Z a.A/\s 1=ptr z.B 0/\s 2=ptr (z.B+1) 0/\s 3=ptr (z.B+2) 0/\s 4=ic i/\AD z b/\z.B+2<b.B/\b.C z.B=[my a.nt,str a.B,sl ia (Z a.A) (a.A.map str)]/\b.C (z.B+1)=[my false,str [],nilS]/\b.C (z.B+2)=[my a.nt,str a.B,sl g i d]/\Own z b g i/\Z d=i*1/\AC (d=((a.A.take i).map Hn).map str)) (Z a.A)
  ⟨0,1,[],AA,AA,AG,AG,AG,AG,Xs,BJ,?_,?_,?_,Own.nil _ _,nk,by simp[AC]⟩ ?_
 ·rw[Aj AA,Ah AM,Ah AM,Ao]
 ·rw[Aj AA,Ah AM,Be AM AM]
 ·rw[Ak]
 rintro m s b ⟨i,g,d,rfl,O,N,K,M,I,v,T,V,R,L,J,S,e⟩;have P:=v.B;by_cases p:i<Z a.A
 ·have q:=AK p;have E:=A1 p;have F:=D _ (AR p);generalize a.A[i]=u at E q F;have j:AC (((a.A.take (i+1)).map Hn).map str=((a.A.take i).map Hn).map str++[str (Hn u)]):=by
   rw[AC,AT,q];simp
  clear q;have k:=λz=>Cg u z;cases l:Ab u with
  |true=>
   rw[l]at k;have f:Hn u=35::u:=by unfold Hn;rw[if_pos l]
   rw[f]at j;clear f
   repeat' first|refine Z1 ?_|refine Z8 λyb ya=>?_|refine Z4 ?_;clear ya yb|refine Z2 ?_ ?_<;>intro h H<;>try exact Xp|refine Z6 ?_;intro c B o n y C A G|refine Z5 ?_;refine Xi (k _) ?_;rintro _ _ ⟨rfl,rfl⟩|refine Z7 ?_|exact Zt|apply ya.o;clear ya yb
   refine⟨Z a.A-(i+1),AA,i+1,c,d++[str (35::u)],?_⟩
   ((repeat' refine Zi ?_ ?_)<;>first|exact Xq|exact (n.put AA _)|exact (Own.put o _ _)|exact (by rw[AC,j.o,e.o])|exact Xs)
  |false=>
   rw[l]at k;have f:Hn u=u:=by unfold Hn;rw[if_neg (by simp[l])]
   rw[f]at j;clear f
   repeat' first|refine Z1 ?_|refine Z8 λyb ya=>?_|refine Z4 ?_;clear ya yb|refine Z2 ?_ ?_<;>intro h H<;>try exact Xp|refine Z6 ?_;intro c B o n y C A G|refine Z5 ?_;refine Xi (k _) ?_;rintro _ _ ⟨rfl,rfl⟩|refine Z7 ?_|exact Zt|apply ya.o;clear ya yb
   refine⟨Z a.A-(i+1),AA,i+1,c,d++[str u],?_⟩
   ((repeat' refine Zi ?_ ?_)<;>first|exact Xq|exact (n.put AA _)|exact (Own.put o _ _)|exact (by rw[AC,j.o,e.o])|exact Xs)
 have x:i=Z a.A:=AA;subst x;have e:=e.o;rw[AS]at e;subst e;refine mu ?_;exact⟨_,rfl,g,rfl,v.put AA _⟩
def oth (a:n0)(n i:Nat):n0:=((a.take i).eraseIdx n).filter λy=>!y.o
def mR {a n i y}(h:a[i]?=some y):oth a n (i+1)=oth a n i++(if i=n\/y.o=true then []else [y]):=by
 have f:=(BA.1 h).1;have d:Z (a.take i)=i:=by rw[CN];omega
 unfold oth;rw[AT,h,BN];by_cases b:i=n;subst b;rw[List.eraseIdx_append_of_length_le AA,d,GX,if_pos (.inl rfl),LG (l:=a.take i) AA];simp;have:(a.take i++[y]).eraseIdx n=(a.take i).eraseIdx n++[y]:=by
  rcases Nat.lt_or_gt_of_ne b with e|e;rw[List.eraseIdx_append_of_length_le AA,LG (l:=a.take i) AA,LG (l:=[y]) (by simp;omega)];rw[List.eraseIdx_append_of_lt_length AA]
 rw[this,IR];cases c:y.o with
 |true=>rw[if_pos (.inr rfl)];simp[c]
 |false=>rw[if_neg (by simp[b])];simp[c]
def E8 {a n i y}(h:y∈oth a n i):y∈a/\y.o=false:=by
 unfold oth at h;rw[BP]at h;exact⟨JI (EE h.1),nn h.2⟩
def Qu (a:n0)(n:Nat)(x:AB)(b:Bool):Prop:=(∃A,wE true (oth a n (Z a)) (x.A.map Cw) 200 A/\(b=true↔Cw x.h∈A))\/(pD true (oth a n (Z a)) (x.A.map Cw) 200/\b=false)
def YJ (a):aI (Cw a):=λt b=>by
 obtain⟨u,-,rfl⟩:=AN.1 b;unfold Hn;split;rfl;rename_i h;simpa using h
def jo {a}(h:DX a)(i:∀t∈a.A,Ab t=true->Z t<=999):DX (Cw a):=by
 refine⟨h.1,λt g=>?_,by show Z (a.A.map _)<=1000;rw[BV];exact h.2.2⟩;obtain⟨u,e,rfl⟩:=AN.1 g;have d:=h.2.1 u e;unfold Hn;split;rename_i f;refine⟨λb c=>?_,by simp;have:=i u e f;omega⟩;rcases BD.1 c with rfl|c;decide;exact d.1 b c;exact d
def aO (li cs)(B n:Nat)(x)(hl:EL AJ li cs)(hll:Z li<=1000)(hx:li[n]?=some x)(hb5:Z x.A<=200)(hh:DX x.h)(hb:∀a∈x.A,DX a/\∀t∈a.A,Ab t=true->Z t<=999)(hr:∀y∈li,y.o=false->iM true 200 y)(z):
  ni 103 [sl B (Z li) cs,ic n] z λr d=>∃b,r=my b/\Qu li n x b/\AD z d:=by
 have bn:=EL.length Cf hl;have bm:=(BA.1 hx).1;obtain⟨ih,id,b,r,a4,hd⟩:=Cv hl hx;have bp:=EL.length A7 a4;refine Z9 74 [.tmp 4] Tryz.func103 ?_;refine mu ?_
 refine Ae (λm s d=>∃(i G:Nat) (g:oh),m=Z x.A-i/\i<=Z x.A/\s 0=sl B (Z li) cs/\s 1=ic n/\s 5=sl G i g/\s 6=ic i/\AD z d/\Own z d G i/\Z g=i*3/\AC (EL Bf ((x.A.take i).map Cw) g)) (Z x.A)
  ⟨0,1,[],AA,AA,by simp[upd,AL],by simp[upd,AL],AG,AG,AD.refl _,Own.nil _ _,rfl,by simp[AC,EL]⟩ ?_
 rintro m s d ⟨i,G,g,rfl,hi,h0,N,h5,h6,E,R,a7,M⟩;by_cases K:i<Z x.A
 ·have k:=AK K;obtain⟨ia,r2,av⟩:=Ca a4 k;obtain⟨V,a8⟩:=hb _ (AR K);generalize x.A[i]=w at k av V a8;have be:=λz=>Rl w ia V.2.2 (λt U=>(V.2.1 t U).2) z;have HG:AC ((x.A.take (i+1)).map Cw=(x.A.take i).map Cw++[Cw w]):=by
   rw[AC,AT,k];simp
  clear k
  repeat' first|refine Z1 ?_|refine Z8 λyb ya=>?_|refine Z4 ?_;clear ya yb|refine Z2 ?_ ?_<;>intro h ad<;>try exact Xp|refine Z6 ?_;intro l zn W ak af ab ae aa|refine Z5 ?_;refine Xi (be _) ?_;rintro _ _ ⟨p,rfl,H⟩;(have bu:=E.trans H;have bq:=Own.keep R H)|refine Z7 ?_|exact Zt|apply ya.o;clear ya yb
  have o:AC (EL Bf ((x.A.take (i+1)).map Cw) (g++[my w.nt,str w.B,sl p (Z w.A) ((Cw w).A.map str)])):=by
   rw[AC,HG.o];exact EL.append M.o (EL.single ⟨p,by simp[Cw]⟩)
  refine⟨Z x.A-(i+1),AA,i+1,l,g++[my w.nt,str w.B,sl p (Z w.A) ((Cw w).A.map str)],?_⟩;exact m9 o
 have bb:i=Z x.A:=AA;subst bb;rw[AS]at M;have bg:AC (H3 (x.A.map Cw) g):=⟨M.o,by simp;omega,λa J=>by obtain⟨y,-,rfl⟩:=AN.1 J;exact YJ y,λa J=>by obtain⟨y,F,rfl⟩:=AN.1 J;exact jo (hb y F).1 (hb y F).2⟩;clear M;refine mu ?_
 refine Ae (λm s d=>∃(q v:Nat) (L:n0) (f:oh),m=Z li-q/\q<=Z li/\s 0=sl B (Z li) cs/\s 1=ic n/\s 5=sl G (Z x.A) g/\s 7=sl v (Z L) f/\s 8=ic q/\AD z d/\Own z d v (Z L)/\Z f=Z L*5/\Z L<=q/\AC (L=oth li n q/\EL AJ L f)) (Z li)
  ⟨0,1,[],[],AA,AA,AI,AI,AI,AG,AG,E,Own.nil _ _,rfl,nk,by simp[oth],rfl⟩ ?_
 clear h0 N h5 h6 E R a7 K hi;rintro m s z2 ⟨q,v,L,f,rfl,hq,h0,N,h5,h7,h8,E,R,bi,br,u⟩;by_cases K:q<Z li
 ·have k:=AK K;obtain⟨O,Y,jb,r2,a0,av⟩:=Cv hl k;generalize li[q]=y at k a0 av;have C:AC _:=mR (n:=n) k;clear k;by_cases D:q=n
  ·have ba:((q:Int) !=(n:Int))=false:=by simp[D]
   have o:AC (L=oth li n (q+1)/\EL AJ L f):=⟨by rw[C.o,if_pos (.inl D),EJ];exact u.o.1,u.o.2⟩;clear D C;refine mu ?_;refine⟨Z li-(q+1),AA,q+1,v,L,f,?_⟩;exact m9 o
  have ba:((q:Int) !=(n:Int))=true:=by simp;omega
  cases X:y.o with
  |true=>
   have o:AC (L=oth li n (q+1)/\EL AJ L f):=⟨by rw[C.o,if_pos (.inr X),EJ];exact u.o.1,u.o.2⟩;clear D C;refine mu ?_;refine⟨Z li-(q+1),AA,q+1,v,L,f,?_⟩;exact m9 o
  |false=>
   have o:AC (L++[y]=oth li n (q+1)/\EL AJ (L++[y]) (f++[my y.o,my y.h.nt,str y.h.B,sl O (Z y.h.A) (y.h.A.map str),sl Y (Z y.A) jb])):=⟨by rw[C.o,if_neg (by simp[D,X]),u.o.1],EL.append u.o.2 (EL.single ⟨[my y.h.nt,str y.h.B,sl O (Z y.h.A) (y.h.A.map str)],Y,jb,⟨O,rfl⟩,a0,rfl⟩)⟩;rw[X]at o;clear D C
   repeat' first|refine Z1 ?_|refine Z8 λyb ya=>?_|refine Z4 ?_;clear ya yb|refine Z2 ?_ ?_<;>intro h ad<;>try exact Xp|refine Z6 ?_;intro l zn W ak af ab ae aa|refine Z7 ?_|exact Zt|apply ya.o;clear ya yb
   refine⟨Z li-(q+1),AA,q+1,l,L++[y],f++[my false,my y.h.nt,str y.h.B,sl O (Z y.h.A) (y.h.A.map str),sl Y (Z y.A) jb],?_⟩
   ((repeat' refine Zi ?_ ?_)<;>first|exact Xq|exact o|exact (by rw[AX];exact W)|exact Xs)
 have a9:q=Z li:=AA;subst a9;obtain⟨Q,a5⟩:=u.o;have S:=λz=>fR true L f v (x.A.map Cw) g G 200 a5 AA bg.o AA (by simp;omega) (λy F=>by rw[Q]at F;exact hr y (E8 F).1 (E8 F).2) z;rw[BV]at S;have bf:=λz=>Rl x.h ih hh.2.2 (λt U=>(hh.2.1 t U).2) z;have a6:AC _:=Q;have ax:∀z,ni 116 [sl v (Z L) f,sl G (Z x.A) g,my true,ic 200] z λr d=>∃A c j ok,r=tp [sl c (Z A) j,my ok]/\((ok=true/\H3 A j/\wE true L (x.A.map Cw) 200 A)\/(ok=false/\A=[]/\pD true L (x.A.map Cw) 200))/\AD z d:=λz=>(S z).mono λr d ⟨N,h2⟩=>by
  rcases N with⟨A,c,j,e,T,h4⟩|⟨e,T⟩
  ·exact⟨A,c,j,true,e,.inl ⟨rfl,T,h4⟩,h2⟩
  exact⟨[],1,[],false,e,.inr ⟨rfl,rfl,T⟩,h2⟩
 clear Q a5 S u;have aw:∀A j c,H3 A j->∀p z,ni 154 [sl c (Z A) j,ag [my x.h.nt,str x.h.B,sl p (Z x.h.A) ((Cw x.h).A.map str)]] z λr d=>∃b,r=my b/\(b=true↔Cw x.h∈A)/\AD z d:=λA j c I p z=>Gt A j c (Cw x.h) _ I.el ⟨p,by simp[Cw]⟩ I.len (λa J=>(I.cl a J).2.2) z
 repeat' first|refine Z1 ?_|refine Z8 λyb ya=>?_|refine Z4 ?_;clear ya yb|refine Z2 ?_ ?_<;>intro h ad<;>try exact Xp|refine Z6 ?_;intro l zn W ak af ab ae aa|(refine Z5 ?_;first|(refine Xi (ax _) ?_;rintro _ _ ⟨A,c,j,ok,rfl,au,H⟩;(rcases au with⟨rfl,I,P⟩|⟨rfl,rfl,P⟩<;>have HS:AC _:=P<;>clear P))|(refine Xi (bf _) ?_;rintro _ _ ⟨p,rfl,bd⟩)|(refine Xi (aw _ _ _ I _ _) ?_;rintro _ _ ⟨bo,rfl,a3,bc⟩;(have bh:AC _:=a3;clear a3)))|refine Z7 ?_|exact Zt|apply ya.o;clear ya yb
 ·have HR:Qu li n x bo:=.inl ⟨A,by rw[<-a6.o];exact HS.o,bh.o⟩;exact⟨_,rfl,bo,rfl,HR,((E.trans H).trans bd).trans bc⟩
 have HR:Qu li n x false:=.inr ⟨by rw[<-a6.o];exact HS.o,rfl⟩;exact⟨_,rfl,false,rfl,HR,E.trans H⟩
def qN {t}(h:(Av t).1=0):∀x∈Bl t,Db x=true:=by
 have e:∀i,i<Z (Bl t)->Dp (Bl t) i=false:=by
  unfold Av at h;split at h;simp at h;split at h;simp at h;unfold Co at h;split at h;simp at h;split at h;simp at h;rename_i d;exact Jo d
 intro x c;obtain⟨i,b⟩:=CL c;have a:=e i (BA.1 b).1;unfold Dp at a;rw[b]at a;simpa using a
def oH {p}(h:Jy p)(c:Z p<=1000):Clean p:=⟨λb a=>by
 have:=h.2 b a
 refine⟨?_,?_,?_⟩<;>(rintro rfl;revert this;decide),c⟩
def sN {p}(h:Mm p)(c:Z p<=1000):Clean p:=⟨λb a=>by
 have:=h.2 b a
 refine⟨?_,?_,?_⟩<;>(rintro rfl;revert this;decide),c⟩
def vU {a}(h:En a)(b:short a):DX a:=⟨oH h.1 b.1,λt c=>sN (h.2.2.2 t c) (b.2.2 t c),b.2.1⟩
def sM {a p}(b:a<=200)(e:p<=5):Hr 0 a p<=10000000000:=by
 have d:∀p,Hr 0 a p<=Hr 0 200 p:=by
  intro p;induction p with
  |zero=>exact AU _
  |succ p c=>exact JJ (Nat.mul_le_mul b c) _
 refine BI (d p) ?_;have:p=0\/p=1\/p=2\/p=3\/p=4\/p=5:=AA;rcases this with rfl|rfl|rfl|rfl|rfl|rfl<;>decide
structure FG (x:AB):Prop where
 w:Dc x
 sh:x.short
 va:∀a∈Af x,VA a
 dt:∀a∈Af x,∀w∈a.A,DT w
 safe:Db x=true
def P4 {t}(h:(Av t).1=0):∀x∈Bl t,FG x:=by
 obtain⟨c,l,r,b⟩:=H9 h;obtain⟨g,d,i,f⟩:=Ep AA b;intro x a;have e:=a;rw[d]at a;exact⟨f x a,T8 AA b x a,Td 16 t l r b x a,Lx (T:=DT) mK 16 t l r b x a,qN h x e⟩
def FG.cl {x}(h:FG x)(b:x.o=false):iQ x:=
 ⟨b,vU ((h.w.2.2 b).1) h.sh.1,λa c=>vU ((h.w.2.2 b).2.2.2 a c) (h.sh.2 a c)⟩
def FG.rule {x}(h:FG x)(b:x.o=false):iM true 200 x:=by
 have k:=(h.w.2.2 b).2.2.1;refine⟨0,x.A.countP (Pt true),⟨h.cl b,AA,λv l d=>?_,rfl,.inr λa _=>rfl⟩,λa e=>?_⟩;rcases d with d|⟨a,-,hp,-⟩;have c:=h.safe;unfold Db at c;simp only[FJ,EV]at c;have i:=c x.h (by simp[Af,b]);unfold zI at i;simp only[JE,EV]at i;have f:bC x v=false:=nn (i v d);unfold bC at f;rw[l,FV]at f;have g:Ma x v=true:=nn f;unfold Ma at g;simp only[CU,BM,DO]at g;obtain⟨a,e,u,j,-,rfl⟩:=g;exact⟨a,e,rfl,j⟩;cases hp;have:=sM (a:=a) (p:=x.A.countP (Pt true)) e (BI List.countP_le_length k);omega
def FG.var {x}(h:FG x){a}(f:a∈Af x):∀t∈a.A,Ab t=true->Z t<=999:=λt e g=>by
 rcases h.va a f t e with⟨b,rfl,-⟩|⟨h1,h2⟩;simp;cases t with
 |nil=>exact absurd rfl h1
 |cons b r=>
  have d:=h2 b nk;have c:Bs b.toNat=true:=g;unfold A6 at d;unfold Bs at c;simp at d c;omega
def ZN {b c:UInt8}:((b.toNat:Int)==(c.toNat:Int))=decide (b=c):=by
 by_cases h:b=c;subst h;simp;rw[KF h];have:b.toNat≠c.toNat:=λe=>h (UInt8.toNat_inj.1 e);simpa using (by omega:¬(b.toNat:Int)=c.toNat)
def jQ {w}(h:UT w)(z):ni 149 [ag [my ((Aq w).1),ic (Aq w).2]] z λr a=>r=str w/\AD z a:=by
 have:=jR (Aq w) h.dec.2 z;rwa[h.dec.1]at this
def fH (N idn ids a)(B:a.B∈N)(K:Z N<=2000)(P:Z a.A<=1000)(E:Z a.B<=1000)(F:∀t∈a.A,UT t)(z):
  ni 265 [ag [ic (N.idxOf a.B:Nat),sl ids (Z a.A) (A0 a.A)],sl idn (Z N) (N.map str)] z λr g=>r=ic (Z (Bh a):Nat)/\AD z g:=by
 have O:=Fh a.A;have q:=CS B;have C:(N.map str).drop (N.idxOf a.B)=str a.B::(N.map str).drop (N.idxOf a.B+1):=by
  have:=A1 q;rwa[FN q]at this
 generalize N.idxOf a.B=J at q C;refine Z9 34 [.tmp 4] Tryz.func265 ?_;refine mr ?_
 refine Ae (λm s g=>∃(k n:Nat),m=Z a.A-k/\k<=Z a.A/\s 5=ic n/\s 16=sl ids (Z a.A) (A0 a.A)/\s 17=ic (Z a.A)/\s 18=ic k/\AD z g/\n<=1002+k*1001/\AC (n=Z a.B+2+Z (Bp (a.A.take k)))) (Z a.A)
  ⟨0,Z a.B+2,AA,AA,AG,AG,AG,rfl,Xs,AA,by simp[AC,Bp]⟩ ?_
 rintro m s g ⟨k,n,rfl,L,H,M,S,R,c,I,j⟩;have Q:=c.B;by_cases i:k<Z a.A
 ·have p:=AK i;have o:=F a.A[k] (AR i);obtain⟨r,D⟩:=Gm p;generalize a.A[k]=w at p o D;have d:AC (Z a.B+2+Z (Bp (a.A.take (k+1)))=n+((if k=0 then 0 else 1)+Z w)):=by
   rw[AC,AT,p,BN,Vw,j.o];have e:(a.A.take k=[])↔k=0:=by
    rw[List.take_eq_nil_iff];constructor
    ·rintro (h|h)
     ·exact h
     rw[h]at i;cases i
    exact .inl
   by_cases l:k=0
   ·rw[if_pos (e.2 l),if_pos l];simp;omega
   rw[if_neg (λh=>l (e.1 h)),if_neg l];simp;omega
  have u:=λz=>jQ o z;have T:=o.2.2.1;clear p j o;by_cases f:k=0
  ·have x:decide ((0:Int)<(k:Int))=false:=by simp[f]
   have d:AC (n+Z w=Z a.B+2+Z (Bp (a.A.take (k+1)))):=by rw[AC,d.o,if_pos f];omega
   clear f;refine m0 ?_;intro yb ya;refine Xi (u _) ?_;rintro _ _ ⟨rfl,b⟩;(have A:=b.C;have y:=b.B);refine mr ?_;refine⟨Z a.A-(k+1),AA,k+1,n+Z w,?_⟩
   ((repeat' refine Zi ?_ ?_)<;>first|exact Xq|exact (((c.new _).put c.B _).trans b)|exact d|exact Xs)
  have x:decide ((0:Int)<(k:Int))=true:=by simp;omega
  have d:AC (n+1+Z w=Z a.B+2+Z (Bp (a.A.take (k+1)))):=by rw[AC,d.o,if_neg f];omega
  clear f;refine m0 ?_;intro yb ya;refine Xi (u _) ?_;rintro _ _ ⟨rfl,b⟩;(have A:=b.C;have y:=b.B);refine mr ?_;refine⟨Z a.A-(k+1),AA,k+1,n+1+Z w,?_⟩
  ((repeat' refine Zi ?_ ?_)<;>first|exact Xq|exact (((c.new _).put c.B _).trans b)|exact d|exact Xs)
 have G:k=Z a.A:=AA;subst G;have v:AC (Z (Bh a)=n):=by
  rw[AC,j.o,AS];simp[Bh];omega
 clear j;refine mr ?_
 first
 |exact⟨_,rfl,by rw[v.o],c⟩
 |exact⟨_,rfl,by rw[v.o]⟩
structure KL (N:ol)(x:AB):Prop where
 o:x.o=true->x.A=[]
 A:Z x.A<=1000
 mem:x.h.B∈N
 hpl:Z x.h.B<=1000
 at_:∀a∈Af x,Z a.A<=3/\Z a.B<=1000/\∀t∈a.A,UT t
def pX {a}(h:Z a<=3)(g:∀t∈a,UT t):Z (Bp a)<=4000:=by
 have b:∀a:ol,(∀t∈a,UT t)->Z (Ch a)<=Z a*1001:=by
  intro a;induction a with
  |nil=>intro _;simp[Ch]
  |cons t a d=>
   intro h;have f:=d λu c=>h u (by simp[c]);have e:=(h t nk).2.2.1;unfold Ch at*
   simp only[DN,AX,BQ];omega
 cases a with
 |nil=>simp[Bp]
 |cons t a=>
  have f:=b a λu c=>g u (by simp[c]);have e:=(g t nk).2.2.1;simp only[BQ]at h;rw[Bp,AX];omega
def Od {a}(h:Z a.A<=3/\Z a.B<=1000/\∀t∈a.A,UT t):Z (Bh a)<=6000:=by
 have:=pX h.1 h.2.2;have:=h.2.1;simp[Bh];omega
def Uv (a:oq)(k:Nat):Nat:=if k=0 then 0 else 2+Z (Bp ((a.take k).map Cl))
def yG {c k a}(h:c[k]?=some a):Uv c (k+1)=Uv c k+(if k=0 then 1 else 0)+(if a.nt=true then 1 else 0)+(1+Z (Bh a)):=by
 unfold Uv;rw[if_neg AA,AT,h,BN,EU,List.map_singleton,Vw];have d:=(BA.1 h).1;have f:Z (Cl a)=(if a.nt=true then 1 else 0)+Z (Bh a):=by unfold Cl;split<;>simp;omega
 by_cases b:k=0;subst b;simp only[List.take_zero,IK,if_true,FE,Bp,CQ,f];omega;have e:(c.take k).map Cl≠[]:=λe=>by
  have:=congrArg List.length e;simp at this;rcases this with h|h;exact b h;rw[h]at d;cases d
 rw[if_neg b,if_neg b,if_neg e];simp only[AX,KZ,f];omega
def yM (N idn x c)(hc:PI N x c)(T:Z N<=2000)(B:KL N x)(z):
  ni 243 [ag c,sl idn (Z N) (N.map str)] z λr H=>r=ic (Z (Bz x++[46]):Nat)/\AD z H:=by
 obtain⟨D,ih,id,b,V,rfl⟩:=hc;have a9:=EL.length Eh V;have hb5:=B.A;have a8:=B.hpl;have J:=CS D;have R:(N.map str).drop (N.idxOf x.h.B)=str x.h.B::(N.map str).drop (N.idxOf x.h.B+1):=by
  have:=A1 J;rwa[FN J]at this
 cases o:x.o with
 |true=>
  have A:AC ((Z (Bz x++[46]):Nat)=2+Z x.h.B):=by
   rw[AC,Bz,if_pos o];simp;omega
  clear B;generalize N.idxOf x.h.B=X at J R;refine Z9 48 [.tmp 4] Tryz.func243 ?_;refine mr ?_;exact⟨_,rfl,by rw[A.o];simp,Xs⟩
 |false=>
  have L:=B.at_;have E:=L x.h (Ap (.inl ⟨o,rfl⟩));have G:=λu z=>fH N idn u x.h D T AA E.2.1 E.2.2 z;have ap:=Od E;have A:AC (Z (Bz x++[46])=Z (Bh x.h)+1+Uv x.A (Z x.A)):=by
   rw[AC,Bz,if_neg (by simp[o]),D1,Uv,AS];by_cases M:x.A=[]
   ·simp[M]
   have a0:Z x.A≠0:=λe=>M (GG e);rw[if_neg M,if_neg a0];simp;omega
  have a5:∀a∈x.A,Z a.A<=3/\Z a.B<=1000/\∀t∈a.A,UT t:=λa ha=>L a (Ap (.inr ha));clear B L E;generalize N.idxOf x.h.B=X at J R G;generalize Z (Bh x.h)=v at G ap A;refine Z9 48 [.tmp 4] Tryz.func243 ?_;refine m0 ?_;intro yb ya;refine Xi (G _ _) ?_;rintro _ _ ⟨rfl,O⟩;(have S:=O.B;have P:=O.C;simp only[Aa]at S P);refine mr ?_;rename_i z1
  refine Ae (λm s H=>∃(k n:Nat),m=Z x.A-k/\k<=Z x.A/\s 1=sl idn (Z N) (N.map str)/\s 5=ic n/\s 24=sl id (Z x.A) b/\s 25=ic (Z x.A)/\s 26=ic k/\AD z H/\n<=6001+k*7000/\AC (n=v+1+Uv x.A k)) (Z x.A)
   ⟨0,v+1,AA,AA,rfl,AG,AG,AG,rfl,Xs,AA,by simp[AC,Uv]⟩ ?_
  clear S P O G;rintro m s H ⟨k,n,rfl,hk,h1,h5,bc,bb,ba,i,a7,F⟩;have a6:=i.B;by_cases W:k<Z x.A
  ·have I:=AK W;have C:=a5 x.A[k] (AR W);obtain⟨c0,r,⟨Q,Y,rfl⟩,p⟩:=EL.get Eh V I;generalize x.A[k]=a at I C p Q;have y:=λu z=>fH N idn u a Q T AA C.2.1 C.2.2 z;have av:=Od C;have g:AC (v+1+Uv x.A (k+1)=n+((if k=0 then 1 else 0)+(if a.nt=true then 1 else 0)+(1+Z (Bh a)))):=by
    rw[AC,yG I,F.o];omega
   clear I F C;generalize Z (Bh a)=l at y av g;generalize N.idxOf a.B=ia at y p;simp only[EW,FE]at p;by_cases j:k=0
   ·have a4:((k:Int)==0)=true:=by simp[j]
    cases d:a.nt with
    |true=>
     rw[d]at p;have g:AC (n+(1+l)+1+1=v+1+Uv x.A (k+1)):=by rw[AC,g.o,if_pos j,if_pos d];omega
     clear j d;refine m0 ?_;intro yb ya;refine Xi (y _ _) ?_;rintro _ _ ⟨rfl,f⟩;(have K:=f.C;have q:=f.B;simp only[Ac,Aa]at q);refine mr ?_;refine⟨Z x.A-(k+1),AA,k+1,n+(1+l)+1+1,?_⟩
     ((repeat' refine Zi ?_ ?_)<;>first|exact Xq|exact (((i.new _).put i.B _).trans f)|exact g|exact Xs)
    |false=>
     rw[d]at p;have g:AC (n+(1+l)+1=v+1+Uv x.A (k+1)):=by rw[AC,g.o,if_pos j,if_neg (by simp[d])];omega
     clear j d;refine m0 ?_;intro yb ya;refine Xi (y _ _) ?_;rintro _ _ ⟨rfl,f⟩;(have K:=f.C;have q:=f.B;simp only[Ac,Aa]at q);refine mr ?_;refine⟨Z x.A-(k+1),AA,k+1,n+(1+l)+1,?_⟩
     ((repeat' refine Zi ?_ ?_)<;>first|exact Xq|exact (((i.new _).put i.B _).trans f)|exact g|exact Xs)
   have a4:((k:Int)==0)=false:=by simp;omega
   cases d:a.nt with
   |true=>
    rw[d]at p;have g:AC (n+(1+l)+1=v+1+Uv x.A (k+1)):=by rw[AC,g.o,if_neg j,if_pos d];omega
    clear j d;refine m0 ?_;intro yb ya;refine Xi (y _ _) ?_;rintro _ _ ⟨rfl,f⟩;(have K:=f.C;have q:=f.B;simp only[Ac,Aa]at q);refine mr ?_;refine⟨Z x.A-(k+1),AA,k+1,n+(1+l)+1,?_⟩
    ((repeat' refine Zi ?_ ?_)<;>first|exact Xq|exact (((i.new _).put i.B _).trans f)|exact g|exact Xs)
   |false=>
    rw[d]at p;have g:AC (n+(1+l)=v+1+Uv x.A (k+1)):=by rw[AC,g.o,if_neg j,if_neg (by simp[d])];omega
    clear j d;refine m0 ?_;intro yb ya;refine Xi (y _ _) ?_;rintro _ _ ⟨rfl,f⟩;(have K:=f.C;have q:=f.B;simp only[Ac,Aa]at q);refine mr ?_;refine⟨Z x.A-(k+1),AA,k+1,n+(1+l),?_⟩
    ((repeat' refine Zi ?_ ?_)<;>first|exact Xq|exact (((i.new _).put i.B _).trans f)|exact g|exact Xs)
  have a3:k=Z x.A:=AA;subst a3;have U:AC (Z (Bz x++[46])=n):=by rw[AC,A.o,F.o]
  clear F A;refine mr ?_
  first
  |exact⟨_,rfl,by rw[U.o],i⟩
  |exact⟨_,rfl,by rw[U.o]⟩
def Jk (l:n0):Bool:=decide (Z l<=16)&&(l.all (λx=>decide (Z x.A<=5))&&decide (Z (Cr l)<=600))
def wV {N x}(h:KL N x):Z (Bz x++[46])<=8000000:=by
 have l:=h.hpl;cases d:x.o with
 |true=>rw[Bz,if_pos d];simp;omega
 |false=>
  have o:=Od (h.at_ x.h (Ap (.inl ⟨d,rfl⟩)));have i:∀c:oq,(∀a∈c,Z a.A<=3/\Z a.B<=1000/\∀t∈a.A,UT t)->Z (Ch (c.map Cl))<=Z c*6002:=by
   intro c;induction c with
   |nil=>intro _;simp[Ch]
   |cons a c j=>
    intro g;have l:=j λb f=>g b (by simp[f]);have n:=Od (g a nk);have p:Z (Cl a)<=6001:=by unfold Cl;split<;>simp<;>omega
    unfold Ch at*
    simp only[CC,DN,AX,BQ];omega
  have m:Z (Bp (x.A.map Cl))<=Z x.A*6002:=by
   have:=i x.A λa k=>h.at_ a (Ap (.inr k));cases f:x.A with
   |nil=>simp[Bp]
   |cons a c=>
    rw[f]at this;have e:Ch ((a::c).map Cl)=44::Bp ((a::c).map Cl):=by simp[Ch,Bp]
    rw[e]at this;simp only[BQ]at this⊢;omega
  have f:=h.A;rw[Bz,if_neg (by simp[d]),D1];split<;>simp<;>omega
def PJ (N:ol)(x:AB)(c:oh):Prop:=(PI N x c/\KL N x)\/(5<Z x.A/\Z x.A<=1000/\∃(o:Bool) (p:Int) (e d:Nat) (a:oh) (f:Nat) (b:oh),c=[my o,ic p,sl e d a,sl f (Z x.A) b])
def SG {N}(x c)(h:PJ N x c):Z c=4:=by
 rcases h with⟨h,-⟩|⟨-,-,_,_,_,_,_,_,_,rfl⟩;exact Ew x c h;rfl
def Qv {α:Type}{E f}:∀{l:List α} {cs:oh},EL E l cs->(∀a∈l,∀c,E a c->f a c)->EL f l cs
 |[],_,h,_=>h
 |a::l,_,⟨c,d,k,j,e⟩,g=>⟨c,d,g a nk c k,Qv j (λb i=>g b (by simp[i])),e⟩
def aY (N l cs idn idi)(G:EL (PJ N) l cs)(S:Z N<=2000)(hl:Z l<=1000)(z):ni 207 [Cq N idn l idi cs] z λr j=>r=my (Jk l)/\AD z j:=by
 have aw:=EL.length SG G;by_cases X:16<Z l
 ·have U:decide ((16:Int)<(Z l:Int))=true:=by simp;omega
  have a:AC (Jk l=false):=by rw[AC,Jk,KF AA];rfl
  refine Z9 30 [.tmp 2] Tryz.func207 ?_;refine mr ?_;exact⟨_,rfl,by rw[a.o],Xs⟩
 have U:decide ((16:Int)<(Z l:Int))=false:=by simp;omega
 refine Z9 30 [.tmp 2] Tryz.func207 ?_;refine mr ?_
 refine Ae (λm s j=>∃(i n:Nat),m=Z l-i/\i<=Z l/\s 1=ptr z.B 0/\s 3=ic n/\s 11=sl idi (Z l) cs/\s 12=ic (Z l)/\s 13=ic i/\AD z j/\z.B<j.B/\j.C z.B=[sl idn (Z N) (N.map str),sl idi (Z l) cs]/\n<=i*8000000/\AC (n=Z (Cr (l.take i))/\∀x∈l.take i,Z x.A<=5)) (Z l)
  ⟨0,0,AA,AA,AG,AG,AG,AG,rfl,Xs,AM,Ao,nk,by simp[AC,Cr]⟩ ?_
 rintro m s j ⟨i,n,rfl,hi,h1,Y,a3,a0,W,k,au,P,av,d⟩;have ap:=k.B;by_cases J:i<Z l
 ·have g:=AK J;obtain⟨c,r,e,A⟩:=EL.get SG G g;generalize l[i]=x at A g e;have Q:∃(o:Bool) (p:Int) (q H:Nat) (L:oh) (M:Nat) (b:oh),c=[my o,ic p,sl q H L,sl M (Z x.A) b]:=by
   rcases e with⟨⟨-,q,id,b,-,rfl⟩,-⟩|⟨-,-,h⟩
   ·exact⟨_,_,_,_,_,_,_,rfl⟩
   exact h
  have ax:Z x.A<=1000:=by
   rcases e with⟨-,h⟩|⟨-,h,-⟩
   ·exact h.A
   exact h
  obtain⟨V,xp,q,xn,xt,id,b,rfl⟩:=Q;simp only[EW,FE]at A;by_cases C:5<Z x.A
  ·have v:decide ((5:Int)<(Z x.A:Int))=true:=by simp;omega
   have a:AC (Jk l=false):=by
    have:l.all (λx=>decide (Z x.A<=5))=false:=by
     rw[IQ];exact⟨x,AY g,by simp;omega⟩
    rw[AC,Jk,this];simp
   clear g d e;refine mr ?_;exact⟨_,rfl,by rw[a.o],Xs⟩
  obtain⟨E,t⟩:=e.resolve_right (λh=>C h.1);have D:=λz=>yM N idn x _ E S t z;have K:=wV t;clear e E;have v:decide ((5:Int)<(Z x.A:Int))=false:=by simp;omega
  have F:AC (n+Z (Bz x++[46])=Z (Cr (l.take (i+1)))/\∀x∈l.take (i+1),Z x.A<=5):=by
   rw[AC,AT,g,BN,d.o.1];refine⟨by simp[Cr],λy f=>?_⟩;rcases AW.1 f with f|f
   ·exact d.o.2 y f
   simp at f;subst f;omega
  clear g d t C;generalize Z (Bz x++[46])=O at D K F;refine m0 ?_;intro yb ya;refine Xi (D _) ?_;rintro _ _ ⟨rfl,u⟩;(have R:=u.B;have B:=u.C;simp only[Ac,Aa]at R B);refine mr ?_;refine⟨Z l-(i+1),AA,i+1,n+O,?_⟩
  ((repeat' refine Zi ?_ ?_)<;>first|exact Xq|exact (((k.new _).put k.B _).trans u)|exact F|exact (by rw[B _ AA,Aj AA,Ah AA,P])|exact Xs)
 have T:i=Z l:=AA;subst T;have a:AC (Jk l=decide ((n:Int)<=600)):=by
  have h:=d.o;rw[AS]at h;rw[AC,Jk,LJ AA,CX.2 (λx I=>LJ (h.2 x I)),<-h.1];simp only[FV];congr 1;apply propext;omega
 clear d;refine mr ?_
 first
 |exact⟨_,rfl,by rw[a.o],k⟩
 |exact⟨_,rfl,by rw[a.o]⟩
def Dr (N:ol)(l:n0)(k:Nat):Bool:=l.any λx=>!x.o&&decide (N.idxOf x.h.B=k)
def Sm {α:Type}{l:List α}{f i x}(h:(l.take i).any f=false)(b:l[i]?=some x)(a:f x=false):(l.take (i+1)).any f=false:=by
 rw[AT,b,BN,MH,h];simp[a]
def iI {α:Type}{l:List α}{f}{i:Nat}{x}(b:l[i]?=some x)(a:f x=true):l.any f=true:=CU.2 ⟨x,AY b,a⟩
def Nh (N l cs)(idn f k:Nat)(q:EL (PI N) l cs)(H:Z l<=1000)(z):ni 134 [Cq N idn l f cs,ic k] z λr n=>r=my (Dr N l k)/\AD z n:=by
 have D:=EL.length Ew q;refine Z9 25 [.tmp 4] Tryz.func134 ?_;refine mr ?_
 refine Ae (λm s n=>∃(i:Nat),m=Z l-i/\i<=Z l/\s 1=ic k/\s 8=sl f (Z l) cs/\s 9=ic (Z l)/\s 10=ic i/\AD z n/\AC (Dr N (l.take i) k=false)) (Z l)
  ⟨0,AA,AA,rfl,AG,AG,rfl,Xs,by simp[AC,Dr]⟩ ?_
 rintro m s n ⟨i,rfl,I,E,F,G,J,p,c⟩;have C:=p.B;by_cases y:i<Z l;have d:=AK y;obtain⟨A,B,id,b,r,v,j⟩:=Ih q d;generalize l[i]=x at j d A v;cases a:x.o with
 |true=>
  rw[a]at j;have g:AC (Dr N (l.take (i+1)) k=false):=Sm c.o d (by simp[a]);clear d c a;refine mr ?_;refine⟨Z l-(i+1),AA,i+1,?_⟩;exact m9 g
 |false=>
  rw[a]at j;by_cases e:N.idxOf x.h.B=k;have o:(((N.idxOf x.h.B:Nat):Int)==(k:Int))=true:=by simp[e]
  have g:AC (Dr N l k=true):=iI d (by simp[a,e]);clear d c a e;generalize N.idxOf x.h.B=t at j o;refine mr ?_;exact⟨_,rfl,by rw[g.o],Xs⟩;have o:(((N.idxOf x.h.B:Nat):Int)==(k:Int))=false:=nn (by omega:¬((N.idxOf x.h.B:Nat):Int)=k);have g:AC (Dr N (l.take (i+1)) k=false):=Sm c.o d (by simp[e]);clear d c a e;generalize N.idxOf x.h.B=t at j o;refine mr ?_;refine⟨Z l-(i+1),AA,i+1,?_⟩;exact m9 g
 have u:i=Z l:=AA;subst u;rw[AS]at c;refine mr ?_
 first
 |exact⟨_,rfl,by rw[c.o],p⟩
 |exact⟨_,rfl,by rw[c.o]⟩
def Il (N:ol)(l:n0)(k:Nat):Bool:=l.any λx=>decide (N.idxOf x.h.B=k)||x.A.any λa=>decide (N.idxOf a.B=k)
def lY (N l cs)(idn d k:Nat)(J:EL (PI N) l cs)(hl:Z l<=1000)(V:∀x∈l,Z x.A<=1000)(z):ni 244 [Cq N idn l d cs,ic k] z λr t=>r=my (Il N l k)/\AD z t:=by
 have az:=EL.length Ew J;refine Z9 35 [.tmp 4] Tryz.func244 ?_;refine mr ?_
 refine Ae (λm s t=>∃(i:Nat),m=Z l-i/\i<=Z l/\s 1=ic k/\s 10=sl d (Z l) cs/\s 11=ic (Z l)/\s 12=ic i/\AD z t/\AC (Il N (l.take i) k=false)) (Z l)
  ⟨0,AA,AA,rfl,AG,AG,rfl,Xs,by simp[AC,Il]⟩ ?_
 rintro m s t ⟨i,rfl,hi,G,K,F,D,p,e⟩;have E:=p.B;by_cases I:i<Z l;have n:=AK I;have B:=V l[i] (AR I);obtain⟨O,W,id,b,r,v,C⟩:=Ih J n;generalize l[i]=x at C n O v B;have ax:=EL.length Eh v;by_cases c:N.idxOf x.h.B=k;have A:(((N.idxOf x.h.B:Nat):Int)==(k:Int))=true:=by simp[c]
 have q:AC (Il N l k=true):=iI n (by simp[c]);clear n e c;generalize N.idxOf x.h.B=L at C A;refine mr ?_;exact⟨_,rfl,by rw[q.o],Xs⟩;have A:(((N.idxOf x.h.B:Nat):Int)==(k:Int))=false:=nn (by omega:¬((N.idxOf x.h.B:Nat):Int)=k);have o:AC (l[i]?=some x/\¬N.idxOf x.h.B=k):=⟨n,c⟩;clear n c;generalize N.idxOf x.h.B=L at C A;refine mr ?_
 refine Ae (λm s H=>∃(j:Nat),m=Z x.A-j/\j<=Z x.A/\s 1=ic k/\s 10=sl d (Z l) cs/\s 11=ic (Z l)/\s 12=ic i/\s 22=sl id (Z x.A) b/\s 23=ic (Z x.A)/\s 24=ic j/\AD z H/\AC ((x.A.take j).any (λa=>decide (N.idxOf a.B=k))=false)) (Z x.A)
  ⟨0,AA,AA,AI,AI,AI,AI,AG,AG,rfl,Xs,by simp[AC]⟩ ?_
 clear G K F D p E;rintro m s H ⟨j,rfl,hj,G,K,F,D,Y,a3,a0,p,g⟩;have E:=p.B;by_cases P:j<Z x.A;have f:=AK P;obtain⟨c0,X,⟨Q,M,rfl⟩,u⟩:=EL.get Eh v f;generalize x.A[j]=a at f Q u;simp only[EW,FE]at u;by_cases c:N.idxOf a.B=k;have y:(((N.idxOf a.B:Nat):Int)==(k:Int))=true:=by simp[c]
 have q:AC (Il N l k=true):=iI o.o.1 (by
  have:x.A.any (λa=>decide (N.idxOf a.B=k))=true:=iI f (by simp[c])
  simp only[this,Bool.or_true])
 clear f c g e o;generalize N.idxOf a.B=S at u y;refine mr ?_;exact⟨_,rfl,by rw[q.o],Xs⟩;have y:(((N.idxOf a.B:Nat):Int)==(k:Int))=false:=nn (by omega:¬((N.idxOf a.B:Nat):Int)=k);have R:AC ((x.A.take (j+1)).any (λa=>decide (N.idxOf a.B=k))=false):=Sm g.o f (by simp[c]);clear f c g;generalize N.idxOf a.B=S at u y;refine mr ?_;refine⟨Z x.A-(j+1),AA,j+1,?_⟩;exact m9 R;have T:j=Z x.A:=AA;subst T;rw[AS]at g;have q:AC (Il N (l.take (i+1)) k=false):=Sm e.o o.o.1 (by simp only[g.o,Bool.or_false];simpa using o.o.2);clear g o e;refine mr ?_;refine⟨Z l-(i+1),AA,i+1,?_⟩;exact m9 q;have U:i=Z l:=AA;subst U;rw[AS]at e;refine mr ?_
 first
 |exact⟨_,rfl,by rw[e.o],p⟩
 |exact⟨_,rfl,by rw[e.o]⟩
def Rt (N:ol)(a l:n0):Bool:=(List.range (Z N)).any λk=>(Dr N l k&&!Dr N a k)&&Il N a k
def W8 (f k):(List.range (k+1)).any f=((List.range k).any f||f k):=by
 rw[List.range_succ,MH];simp
def rR (N l l' cs cs' idn idn' idi idi')(S:EL (PI N) l cs)(I:EL (PI N) l' cs')(W:Z N<=2000)(P:Z l<=1000)(F:Z l'<=1000)(Q:∀x∈l',Z x.A<=1000)(z):
  ni 208 [Cq N idn' l' idi' cs',Cq N idn l idi cs] z λr e=>r=my (Rt N l' l)/\AD z e:=by
 have i:=λk z=>Nh N l cs idn idi k S P z;have t:=λk z=>Nh N l' cs' idn' idi' k I F z;have u:=λk z=>lY N l' cs' idn' idi' k I F Q z;refine Z9 27 [.tmp 4] Tryz.func208 ?_;refine mr ?_
 refine Ae (λm s e=>∃(k:Nat),m=Z N-k/\k<=Z N/\s 2=ptr z.B 0/\s 3=ptr (z.B+1) 0/\s 7=sl idn' (Z N) (N.map str)/\s 8=ic (Z N)/\s 9=ic k/\AD z e/\z.B+1<e.B/\e.C z.B=[sl idn' (Z N) (N.map str),sl idi' (Z l') cs']/\e.C (z.B+1)=[sl idn (Z N) (N.map str),sl idi (Z l) cs]/\AC ((List.range k).any (λk=>(Dr N l k&&!Dr N l' k)&&Il N l' k)=false)) (Z N)
  ⟨0,AA,AA,AG,AG,AG,AG,rfl,Xs,AM,by rw[Ah AM,Ao],Ao,by simp[AC]⟩ ?_
 rintro m s e ⟨k,rfl,X,Y,h3,h7,h8,h9,j,U,D,B,v⟩;have V:=j.B;by_cases L:k<Z N
 ·have i:=i k;have t:=t k;have u:=u k;have C:=W8 (λk=>(Dr N l k&&!Dr N l' k)&&Il N l' k) k;rw[v.o]at C;have G:(Dr N l k&&!Dr N l' k&&Il N l' k)=true->Rt N l' l=true:=λh=>CU.2 ⟨k,nn L,h⟩;generalize Dr N l k=O at*
  generalize Dr N l' k=J at*
  generalize Il N l' k=R at*
  have g:AC _:=C;have q:AC _:=G;clear C G v;cases O with
  |false=>
   have c:=g.o;simp only[Bool.false_and,Bool.or_false]at c;have p:AC _:=c;clear c g q;refine m0 ?_;intro yb ya;refine Xi (i _) ?_;rintro _ _ ⟨rfl,a⟩;(have A:=a.B;have d:=a.C);refine mr ?_;refine⟨Z N-(k+1),AA,k+1,?_⟩
   ((repeat' refine Zi ?_ ?_)<;>first|exact Xq|exact p|exact (j.trans a)|exact (by rw[d _ AA,D])|exact (by rw[d _ AA,B])|exact Xs)
  |true=>
   cases J with
   |true=>
    have c:=g.o;simp only[FV,IY,Bool.false_and,Bool.or_false]at c;have p:AC _:=c;clear c g q
    repeat' first|refine Z1 ?_|refine Z8 λyb ya=>?_|refine Z4 ?_;clear ya yb|refine Z2 ?_ ?_<;>intro h H<;>try exact Xp|(refine Z5 ?_;first|(refine Xi (i _) ?_;rintro _ _ ⟨rfl,a⟩;(have A:=a.B;have d:=a.C))|(refine Xi (t _) ?_;rintro _ _ ⟨rfl,b⟩;(have E:=b.B;have n:=b.C)))|refine Z3 ?_|exact Zt|apply ya.o;clear ya yb
    refine⟨Z N-(k+1),AA,k+1,?_⟩
    ((repeat' refine Zi ?_ ?_)<;>first|exact Xq|exact p|exact ((j.trans a).trans b)|exact (by rw[n _ AA,d _ AA,D])|exact (by rw[n _ AA,d _ AA,B])|exact Xs)
   |false=>
    cases R with
    |false=>
     have c:=g.o;simp only[FV,JX,Bool.and_false,Bool.or_false]at c;have p:AC _:=c;clear c g q
     repeat' first|refine Z1 ?_|refine Z8 λyb ya=>?_|refine Z4 ?_;clear ya yb|refine Z2 ?_ ?_<;>intro h H<;>try exact Xp|(refine Z5 ?_;first|(refine Xi (i _) ?_;rintro _ _ ⟨rfl,a⟩;(have A:=a.B;have d:=a.C))|(refine Xi (t _) ?_;rintro _ _ ⟨rfl,b⟩;(have E:=b.B;have n:=b.C))|(refine Xi (u _) ?_;rintro _ _ ⟨rfl,f⟩;(have T:=f.B;have y:=f.C)))|refine Z3 ?_|exact Zt|apply ya.o;clear ya yb
     refine⟨Z N-(k+1),AA,k+1,?_⟩
     ((repeat' refine Zi ?_ ?_)<;>first|exact Xq|exact p|exact (((j.trans a).trans b).trans f)|exact (by rw[y _ AA,n _ AA,d _ AA,D])|exact (by rw[y _ AA,n _ AA,d _ AA,B])|exact Xs)
    |true=>
     have o:AC (Rt N l' l=true):=q.o rfl;clear g q
     repeat' first|refine Z1 ?_|refine Z8 λyb ya=>?_|refine Z4 ?_;clear ya yb|refine Z2 ?_ ?_<;>intro h H<;>try exact Xp|(refine Z5 ?_;first|(refine Xi (i _) ?_;rintro _ _ ⟨rfl,a⟩;(have A:=a.B;have d:=a.C))|(refine Xi (t _) ?_;rintro _ _ ⟨rfl,b⟩;(have E:=b.B;have n:=b.C))|(refine Xi (u _) ?_;rintro _ _ ⟨rfl,f⟩;(have T:=f.B;have y:=f.C;have M:=((j.trans a).trans b).trans f)))|refine Z3 ?_|exact Zt|apply ya.o;clear ya yb
     first|exact⟨_,rfl,by rw[o.o],M⟩|exact⟨_,rfl,by rw[o.o]⟩
 have K:k=Z N:=AA;have o:AC (Rt N l' l=false):=by
  have:=v.o;rw[K]at this;exact this
 clear v;refine mr ?_
 first|exact⟨_,rfl,by rw[o.o],j⟩|exact⟨_,rfl,by rw[o.o]⟩
structure JM (N:ol)(l:n0)(cs:oh):Prop where
 el:EL (PI N) l cs
 len:Z l<=1000
 nm:Z N<=2000
 msr:∀x∈l,KL N x
 fits:∀x∈l,x.fits
 pos:∀x∈l,∀a∈Af x,0<Z a.A
 va:∀x∈l,∀a∈Af x,VA a
def JM.bk {N l cs}(h:JM N l cs)(a:Z l<=16):Bk N l cs:=⟨h.el,a,h.fits,λx b=>(h.msr x b).o,h.nm,h.pos⟩
def C5 (N:ol)(l a:n0):Bool:=Jk a&&(!Rt N a l&&((Co a).1==0))
structure PK (N:ol)(l:n0)(cs:oh):Prop where
 pj:EL (PJ N) l cs
 len:Z l<=1000
 bk:Jk l=true->JM N l cs
def JM.bj {N l cs}(h:JM N l cs):PK N l cs:=⟨Qv h.el λx b c a=>.inl ⟨a,h.msr x b⟩,h.len,λ_=>h⟩
def Ib (N l l' cs cs' idn idi idi')(k:JM N l cs)(b:PK N l' cs')(z):
  ni 177 [Cq N idn l idi cs,sl idi' (Z l') cs'] z λr s=>(∃x,r=tp [x,my (C5 N l l')]/\(C5 N l l'=true->x=Cq N idn l' idi' cs')/\(∃n u t o E y,x=ag [sl n u t,sl o E y]))/\AD z s:=by
 have e:=λz=>aY N l' cs' idn idi' b.pj k.nm b.len z;cases a:Jk l' with
 |false=>
  have d:C5 N l l'=false:=by unfold C5;rw[a];rfl
  rw[a]at e;rw[d];refine Z9 30 [.cell 4 62,.tmp 5] Tryz.func177 ?_;refine m0 ?_;intro yb ya;refine Xi (e _) ?_;rintro _ _ ⟨rfl,c⟩;(have g:=c.B;have i:=c.C;(try simp only[Aa,Ac]at g i));refine mr ?_;exact⟨_,rfl,⟨_,rfl,(λh=>by cases h),1,0,[],1,0,[],rfl⟩,Xs⟩
 |true=>
  rw[a]at e;have b:=b.bk a;have j:=λz=>rR N l l' cs cs' idn idn idi idi' k.el b.el k.nm k.len b.len (λx v=>(b.msr x v).A) z;have F:Z l'<=16:=by
   unfold Jk at a;simp only[BM,CV]at a;exact a.1
  cases m:Rt N l' l with
  |true=>
   have d:C5 N l l'=false:=by unfold C5;rw[a,m];rfl
   rw[m]at j;rw[d];refine Z9 30 [.cell 4 62,.tmp 5] Tryz.func177 ?_
   repeat' first|refine Z1 ?_|refine Z8 λyb ya=>?_|refine Z4 ?_;clear ya yb|refine Z2 ?_ ?_<;>intro h A<;>try exact Xp|(refine Z5 ?_;first|(refine Xi (e _) ?_;rintro _ _ ⟨rfl,c⟩;(have g:=c.B;have i:=c.C;(try simp only[Aa,Ac]at g i)))|(refine Xi (j _) ?_;rintro _ _ ⟨rfl,f⟩;(have D:=f.B;have C:=f.C)))|refine Z3 ?_|exact Zt|apply ya.o;clear ya yb
   exact⟨_,rfl,⟨_,rfl,(λh=>by cases h),1,0,[],1,0,[],rfl⟩,Xs⟩
  |false=>
   have d:C5 N l l'=((Co l').1==0):=by unfold C5;rw[a,m];simp
   rw[m]at j;rw[d];have p:=λz=>Yy N l' cs' idn idi' (b.bk F) b.va z;generalize Co l'=B at p;obtain⟨I,H⟩:=B;clear d;refine Z9 30 [.cell 4 62,.tmp 5] Tryz.func177 ?_
   repeat' first|refine Z1 ?_|refine Z8 λyb ya=>?_|refine Z4 ?_;clear ya yb|refine Z2 ?_ ?_<;>intro h A<;>try exact Xp|(refine Z5 ?_;first|(refine Xi (e _) ?_;rintro _ _ ⟨rfl,c⟩;(have g:=c.B;have i:=c.C;(try simp only[Aa,Ac]at g i)))|(refine Xi (j _) ?_;rintro _ _ ⟨rfl,f⟩;(have D:=f.B;have C:=f.C))|(refine Xi (p _) ?_;rintro _ _ ⟨rfl,q⟩;(have J:=q.B;have G:=q.C)))|refine Z3 ?_|exact Zt|apply ya.o;clear ya yb
   exact⟨_,rfl,⟨_,rfl,λ_=>rfl,_,_,_,_,_,_,rfl⟩,Xs⟩
def rpl {α:Type}(n:Nat)(o:List α)(l:List α):List α:=l.zipIdx.flatMap λp=>if p.2=n then o else [p.1]
def W5 {α:Type}{n}{o l:List α}{i x}(h:l[i]?=some x):rpl n o (l.take (i+1))=rpl n o (l.take i)++if i=n then o else [x]:=by
 have a:=(BA.1 h).1;unfold rpl;rw[AT,h,BN,List.zipIdx_append,KC,CN,ER AA];simp
def Rj {α:Type}{n o}(l:List α):∀i,Z (rpl n o (l.take i))<=i*(Z o+1)
 |0=>by simp[rpl]
 |i+1=>by
  have a:=Rj l i (n:=n) (o:=o);cases h:l[i]? with
  |none=>
   rw[AT,h,Option.toList_none,EJ];rw[FM];omega
  |some x=>
   rw[W5 h,AX,FM];split<;>simp<;>omega
def PM (c:oh):Prop:=∃(o:Bool) (p:Int) (e d:Nat) (a:oh) (f g:Nat) (b:oh),c=[my o,ic p,sl e d a,sl f g b]
def pF {N x c}(h:PI N x c):PM c:=by
 obtain⟨-,a,id,b,-,rfl⟩:=h;exact⟨_,_,_,_,_,_,_,_,rfl⟩
def Nb {α:Type}{E}(K:∀x c,E x c->PM c)(N)(l o:List α)(cs co)(idn g ido n:Nat)(hE:EL E l cs)(u:EL E o co)(hl:Z l<=1000)(ho:Z o<=1000)(z):
  ni 178 [ag [sl idn (Z N) (N.map str),sl g (Z l) cs],sl ido (Z o) co,ic n] z λr q=>(∃id a,r=sl id (Z (rpl n o l)) a/\EL E (rpl n o l) a)/\AD z q:=by
 have A:∀x c,E x c->Z c=4:=λx c h=>by obtain⟨_,_,_,_,_,_,_,_,rfl⟩:=K x c h;rfl
 have bi:=EL.length A hE;have bh:=EL.length A u;refine Z9 41 [.tmp 6] Tryz.func178 ?_;refine mr ?_
 refine Ae (λm s q=>∃(i id:Nat) (R:List α) (c:oh),m=Z l-i/\i<=Z l/\s 1=sl ido (Z o) co/\s 2=ic n/\s 7=sl id (Z R) c/\s 14=sl g (Z l) cs/\s 15=ic (Z l)/\s 16=ic i/\AD z q/\Own z q id (Z R)/\Z c=Z R*4/\Z R<=i*(Z o+1)/\AC (R=rpl n o (l.take i)/\EL E R c)) (Z l)
  ⟨0,1,[],[],AA,AA,rfl,rfl,AG,AG,AG,rfl,Xs,Own.nil _ _,nk,nk,⟨by simp[rpl],rfl⟩⟩ ?_
 rintro m s q ⟨i,id,R,c,rfl,hi,h1,U,M,Q,W,a0,d,k,f,be,b⟩;have V:=d.B;by_cases ba:i<Z l
 ·have t:=AK ba;obtain⟨c1,r,F,hd⟩:=EL.get A hE t;generalize l[i]=x at hd t F;obtain⟨Y,x2,x3,x4,x5,x6,T,P,rfl⟩:=K _ _ F;simp only[EW,FE]at hd;have bf:AC _:=F;clear F;have bm:Z R<=1001000:=BI be (BI (Nat.mul_le_mul (by omega:i<=1000) (by omega:Z o+1<=1001)) nr);have H:=Rj (n:=n) (o:=o) l (i+1);have e:=W5 (n:=n) (o:=o) t;rw[<-b.o.1]at e;by_cases v:i=n
  ·rw[if_pos v]at e;have a9:((i:Int) !=(n:Int))=false:=by simp[v]
   have O:AC _:=e;have X:AC (EL E R c):=b.o.2;rw[e,AX]at H;clear e t b v;refine mr ?_
   refine Ae (λm s C=>∃(j id:Nat) (a:oh),m=Z o-j/\j<=Z o/\s 1=sl ido (Z o) co/\s 2=ic n/\s 7=sl id (Z R+j) a/\s 14=sl g (Z l) cs/\s 15=ic (Z l)/\s 16=ic i/\s 28=sl ido (Z o) co/\s 29=ic (Z o)/\s 30=ic j/\AD z C/\Own z C id (Z R+j)/\Z a=(Z R+j)*4/\AC (EL E (R++o.take j) a)) (Z o)
    ⟨0,id,c,AA,AA,AI,AI,AI,AI,AI,AI,AI,AI,AG,Xs,(nn (Own.put (Own.new k _) _ _)),nn f,nn X⟩ ?_
   clear h1 U M Q W a0 d k V f X;rintro m s C ⟨j,id,a,rfl,hj,h1,U,M,Q,W,a0,bq,bp,bo,d,k,f,p⟩;have V:=d.B;by_cases ax:j<Z o
   ·have B:=AK ax;obtain⟨c2,rj,D,S⟩:=EL.get A u B;generalize o[j]=y at S B D;obtain⟨y1,y2,y3,y4,y5,y6,y7,y8,rfl⟩:=K _ _ D;simp only[EW,FE]at S;have bg:AC (EL E (R++o.take (j+1)) (a++[my y1,ic y2,sl y3 y4 y5,sl y6 y7 y8])):=by
     rw[AC,AT,B,BN,<-CR];exact EL.append p.o (EL.single D)
    clear B p D;refine nh ?_;intro yb ya;refine Bo (by first|exact Mw) ((d.new _).put d.B _) (Own.put (Own.new k _) _ _) nr (by rfl) (f) (by rfl) (by rfl) nr AA AA ?_;intro idn zn J aj ad I ac ab;simp only[Ac,Aa]at I;refine Z3 ?_;refine mr ?_;refine⟨Z o-(j+1),AA,j+1,idn,a++[my y1,ic y2,sl y3 y4 y5,sl y6 y7 y8],?_⟩
    ((repeat' refine Zi ?_ ?_)<;>first|exact Xq|exact bg|exact J|exact ((by simp[f];omega))|exact Xs)
   have bb:j=Z o:=AA;subst bb;rw[AS]at p;have L:AC (R++o=rpl n o (l.take (i+1))/\EL E (R++o) a):=⟨O.o.symm,p.o⟩;clear p O;have bd:Z a=Z (R++o)*4:=by rw[f,AX]
   have bn:Own z C id (Z (R++o)):=by rw[AX];exact k
   rw[<-AX]at M;have a8:Z (R++o)<=(i+1)*(Z o+1):=by rw[AX];exact H
   refine mr ?_;refine⟨Z l-(i+1),AA,i+1,id,R++o,a,?_⟩;exact m9 L
  rw[if_neg v]at e;have a9:((i:Int) !=(n:Int))=true:=nn (by omega:¬(i:Int)=n);have L:AC (R++[x]=rpl n o (l.take (i+1))/\EL E (R++[x]) (c++[my Y,ic x2,sl x3 x4 x5,sl x6 T P])):=⟨e.symm,EL.append b.o.2 (EL.single bf.o)⟩;rw[e]at H;clear e t b v;refine nh ?_;intro yb ya;refine Bo (by first|exact Mw) ((d.new _).put d.B _) (Own.put (Own.new k _) _ _) nr (by rfl) (f) (by rfl) (by rfl) nr AA AA ?_;intro idn zn J aj ad I ac ab;simp only[Ac,Aa]at I;refine Z3 ?_;refine mr ?_;refine⟨Z l-(i+1),AA,i+1,idn,R++[x],c++[my Y,ic x2,sl x3 x4 x5,sl x6 T P],?_⟩
  ((repeat' refine Zi ?_ ?_)<;>first|exact Xq|exact L|exact ((nn J))|exact ((by simp[f];omega))|exact Xs)
 have bc:i=Z l:=AA;subst bc;rw[AS]at b;have G:AC (rpl n o l=R):=b.o.1.symm;have a7:AC (EL E R c):=b.o.2;clear b;refine mr ?_
 first|exact⟨_,rfl,⟨id,c,by rw[G.o],by rw[G.o];exact a7.o⟩,d⟩|exact⟨_,rfl,id,c,by rw[G.o],by rw[G.o];exact a7.o⟩
def Xx (N l o cs co)(idn a ido n:Nat)(g:EL (PI N) l cs)(b:EL (PI N) o co)(f:Z l<=1000)(e:Z o<=1000)(z):
  ni 178 [Cq N idn l a cs,sl ido (Z o) co,ic n] z λr d=>(∃id c,r=sl id (Z (rpl n o l)) c/\EL (PI N) (rpl n o l) c)/\AD z d:=
 Nb (λ_ _ h=>pF h) N l o cs co idn a ido n g b f e z
end Go.Proofs.YtmoeoppbmhfbpabGreatDoorJ
