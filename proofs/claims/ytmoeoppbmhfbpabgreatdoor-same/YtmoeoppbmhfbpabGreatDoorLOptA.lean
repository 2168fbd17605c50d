import Derived.Test.YtmoeoppbmhfbpabGreatDoorLSpaF
set_option maxHeartbeats 64000000
set_option maxRecDepth 100000
set_option linter.all false
namespace Go.Proofs.YtmoeoppbmhfbpabGreatDoorL
open Go.Abs
theorem dW {w:Tx}(h:UT w)(q:St):ACalls Tryz.prog 149 [ag [sc (.bool (Ak w).1),sc (.int .i64 (Ak w).2)]] q fun r q'=>r=str w/\Keep q q':=by
 have:=dX (Ak w) h.dec.2 q;rwa[h.dec.1]at this
theorem aQ (N:List Tx)(idn ids:Nat)(a:RAtom)(ha:a.pred∈N)(hN:N.length<=2000)(hn:a.terms.length<=1000)(hpl:a.pred.length<=1000)(hw:∀t∈a.terms,UT t)(q:St):
  ACalls Tryz.prog 265 [ag [sc (.int .i64 (N.idxOf a.pred:Nat)),sl ids a.terms.length (Au a.terms)],sl idn N.length (N.map str)] q fun r q'=>r=sc (.int .i64 ((A6 a).length:Nat))/\Keep q q':=by
 have au:=Et a.terms;have aj:=Air ha;have an:(N.map str).drop (N.idxOf a.pred)=str a.pred::(N.map str).drop (N.idxOf a.pred+1):=by
  have:=Ez aj;rwa[Aiq aj]at this
 generalize N.idxOf a.pred=ix at aj an;refine Z9 34 [.tmp 4] Tryz.func265 ?_
 repeat' (first|refine Z1 ?_|(refine Z8 ?_;intro yb ya)|(refine Z4 ?_;clear ya yb)|refine Z3 ?_|exact Zt|(apply ya.out;clear ya yb))
 refine Af (fun m s q'=>∃(k n:Nat),m=a.terms.length-k/\k<=a.terms.length/\s 5=sc (.int .i64 n)/\s 16=sl ids a.terms.length (Au a.terms)/\s 17=sc (.int .i64 a.terms.length)/\s 18=sc (.int .i64 k)/\Keep q q'/\n<=1002+k*1001/\Akc (n=a.pred.length+2+(Bj (a.terms.take k)).length)) a.terms.length
  ⟨0,a.pred.length+2,Aj6,Aj6,Aj8,Aj8,Aj8,rfl,Xs,Aj6,by simp[Akc,Bj]⟩ ?_
 rintro m s q' ⟨k,n,rfl,hk,h5,ay,ax,aw,hK,av,hA⟩;have ao:=hK.nobj;by_cases af:k<a.terms.length
 ·have aa:=Agz af;have hu:=hw a.terms[k] (Ain af);obtain⟨r,hd⟩:=Fy aa;generalize a.terms[k]=w at aa hu hd;have ac:Akc (a.pred.length+2+(Bj (a.terms.take (k+1))).length=n+((if k=0 then 0 else 1)+w.length)):=by
   rw[Akc,Ahd,aa,Ais,Tq,hA.out];have e:(a.terms.take k=[])↔k=0:=by
    rw[List.take_eq_nil_iff];constructor
    ·rintro (h|h)
     ·exact h
     ·rw[h]at af;cases af
    ·exact .inl
   by_cases h0:k=0
   ·rw[if_pos (e.2 h0),if_pos h0];simp;omega
   ·rw[if_neg (fun h=>h0 (e.1 h)),if_neg h0];simp;omega
  have hT:=fun q=>dW hu q;have ap:=hu.2.2.1;clear aa hA hu;by_cases ad:k=0
  ·have am:decide ((0:Int)<(k:Int))=false:=by simp[ad]
   have ac:Akc (n+w.length=a.pred.length+2+(Bj (a.terms.take (k+1))).length):=by rw[Akc,ac.out,if_pos ad];omega
   clear ad
   repeat' (first|refine Z1 ?_|(refine Z8 ?_;intro yb ya)|(refine Z4 ?_;clear ya yb)|(refine Z2 ?_ ?_<;>intro h ae<;>try exact Xp)|(refine Z5 ?_;refine Xi (hT _) ?_;rintro _ _ ⟨rfl,ab⟩;(have ah:=ab.obj;have ai:=ab.nobj))|refine Z3 ?_|exact Zt|(apply ya.out;clear ya yb))
   refine⟨a.terms.length-(k+1),Aj6,k+1,n+w.length,?_⟩
   ((repeat' refine Zi ?_ ?_)<;>first|exact Xq|exact (((hK.new _).put hK.nobj _).trans ab)|exact ac|exact Xs)
  ·have am:decide ((0:Int)<(k:Int))=true:=by simp;omega
   have ac:Akc (n+1+w.length=a.pred.length+2+(Bj (a.terms.take (k+1))).length):=by rw[Akc,ac.out,if_neg ad];omega
   clear ad
   repeat' (first|refine Z1 ?_|(refine Z8 ?_;intro yb ya)|(refine Z4 ?_;clear ya yb)|(refine Z2 ?_ ?_<;>intro h ae<;>try exact Xp)|(refine Z5 ?_;refine Xi (hT _) ?_;rintro _ _ ⟨rfl,ab⟩;(have ah:=ab.obj;have ai:=ab.nobj))|refine Z3 ?_|exact Zt|(apply ya.out;clear ya yb))
   refine⟨a.terms.length-(k+1),Aj6,k+1,n+1+w.length,?_⟩
   ((repeat' refine Zi ?_ ?_)<;>first|exact Xq|exact (((hK.new _).put hK.nobj _).trans ab)|exact ac|exact Xs)
 ·have ak:k=a.terms.length:=Aj6;subst ak;have HA:Akc ((A6 a).length=n):=by
   rw[Akc,hA.out,Ag7];simp[A6];omega
  clear hA
  repeat' (first|refine Z1 ?_|(refine Z8 ?_;intro yb ya)|(refine Z4 ?_;clear ya yb)|(refine Z2 ?_ ?_<;>intro h ae<;>try exact Xp)|refine Z3 ?_|exact Zt|(apply ya.out;clear ya yb))
  first
  |exact⟨_,rfl,by rw[HA.out],hK⟩
  |exact⟨_,rfl,by rw[HA.out]⟩
structure Msr (N:List Tx)(x:RItem):Prop where
 out:x.out=true->x.body=[]
 body:x.body.length<=1000
 mem:x.head.pred∈N
 hpl:x.head.pred.length<=1000
 at_:∀a∈Ae x,a.terms.length<=3/\a.pred.length<=1000/\∀t∈a.terms,UT t
theorem kV {ts:List Tx}(h:ts.length<=3)(g:∀t∈ts,UT t):(Bj ts).length<=4000:=by
 have key:∀ts:List Tx,(∀t∈ts,UT t)->(Bz ts).length<=ts.length*1001:=by
  intro ts;induction ts with
  |nil=>intro _;simp[Bz]
  |cons t ts ih=>
   intro h;have h1:=ih fun u hu=>h u (by simp[hu]);have h2:=(h t (by simp)).2.2.1;unfold Bz at*
   simp only[Aik,Aho,Ahy];omega
 cases ts with
 |nil=>simp[Bj]
 |cons t ts=>
  have h1:=key ts fun u hu=>g u (by simp[hu]);have h2:=(g t (by simp)).2.2.1;simp only[Ahy]at h;rw[Bj,Aho];omega
theorem Mo {a:RAtom}(h:a.terms.length<=3/\a.pred.length<=1000/\∀t∈a.terms,UT t):(A6 a).length<=6000:=by
 have:=kV h.1 h.2.2;have:=h.2.1;simp[A6];omega
def Sf (ls:List RAtom)(k:Nat):Nat:=if k=0 then 0 else 2+(Bj ((ls.take k).map B8)).length
theorem sW {ls:List RAtom}{k:Nat}{a:RAtom}(h:ls[k]?=some a):Sf ls (k+1)=Sf ls k+(if k=0 then 1 else 0)+(if a.nt=true then 1 else 0)+(1+(A6 a).length):=by
 unfold Sf;rw[if_neg Aj6,Ahd,h,Ais,Ahf,List.map_singleton,Tq];have hk:=(Agy.1 h).1;have aa:(B8 a).length=(if a.nt=true then 1 else 0)+(A6 a).length:=by unfold B8;split<;>simp;omega
 by_cases h0:k=0
 ·subst h0;simp only[List.take_zero,Ahk,if_true,Ah6,Bj,Ahx,aa];omega
 ·have e:(ls.take k).map B8≠[]:=fun e=>by
   have:=congrArg List.length e;simp at this;rcases this with h|h
   ·exact h0 h
   ·rw[h]at hk;cases hk
  rw[if_neg h0,if_neg h0,if_neg e];simp only[Aho,Aii,aa];omega
theorem tA (N:List Tx)(idn:Nat)(x:RItem)(c:List AV)(hc:PI N x c)(hN:N.length<=2000)(hm:Msr N x)(q:St):
  ACalls Tryz.prog 243 [ag c,sl idn N.length (N.map str)] q fun r q'=>r=sc (.int .i64 ((Bc x++[46]).length:Nat))/\Keep q q':=by
 obtain⟨ay,ih,id,b,hb,rfl⟩:=hc;have bb:=EL.length Ds hb;have bc:=hm.body;have ba:=hm.hpl;have an:=Air ay;have a0:(N.map str).drop (N.idxOf x.head.pred)=str x.head.pred::(N.map str).drop (N.idxOf x.head.pred+1):=by
  have:=Ez an;rwa[Aiq an]at this
 cases ap:x.out with
 |true=>
  have HL:Akc (((Bc x++[46]).length:Nat)=2+x.head.pred.length):=by
   rw[Akc,Bc,if_pos ap];simp;omega
  clear hm;generalize N.idxOf x.head.pred=ix at an a0;refine Z9 48 [.tmp 4] Tryz.func243 ?_
  repeat' (first|refine Z1 ?_|(refine Z8 ?_;intro yb ya)|(refine Z4 ?_;clear ya yb)|(refine Z2 ?_ ?_<;>intro h ad<;>try exact Xp)|refine Z3 ?_|exact Zt|(apply ya.out;clear ya yb))
  exact⟨_,rfl,by rw[HL.out];simp,Xs⟩
 |false=>
  have av:=hm.at_;have hh:=av x.head (Ar (.inl ⟨ap,rfl⟩));have ao:=fun ids q=>aQ N idn ids x.head ay hN Aj6 hh.2.1 hh.2.2 q;have au:=Mo hh;have HL:Akc ((Bc x++[46]).length=(A6 x.head).length+1+Sf x.body x.body.length):=by
   rw[Akc,Bc,if_neg (by simp[ap]),Dh,Sf,Ag7];by_cases he:x.body=[]
   ·simp[he]
   ·have a4:x.body.length≠0:=fun e=>he (Ag5 e);rw[if_neg he,if_neg a4];simp;omega
  have a7:∀a∈x.body,a.terms.length<=3/\a.pred.length<=1000/\∀t∈a.terms,UT t:=fun a ha=>av a (Ar (.inr ha));clear hm av hh;generalize N.idxOf x.head.pred=ix at an a0 ao;generalize (A6 x.head).length=hn at ao au HL;refine Z9 48 [.tmp 4] Tryz.func243 ?_
  repeat' (first|refine Z1 ?_|(refine Z8 ?_;intro yb ya)|(refine Z4 ?_;clear ya yb)|(refine Z2 ?_ ?_<;>intro h ad<;>try exact Xp)|(refine Z5 ?_;refine Xi (ao _ _) ?_;rintro _ _ ⟨rfl,ax⟩;(have ak:=ax.nobj;have aj:=ax.obj;simp only[Aa]at ak aj))|refine Z3 ?_|exact Zt|(apply ya.out;clear ya yb))
  rename_i q1
  refine Af (fun m s q'=>∃(k n:Nat),m=x.body.length-k/\k<=x.body.length/\s 1=sl idn N.length (N.map str)/\s 5=sc (.int .i64 n)/\s 24=sl id x.body.length b/\s 25=sc (.int .i64 x.body.length)/\s 26=sc (.int .i64 k)/\Keep q q'/\n<=6001+k*7000/\Akc (n=hn+1+Sf x.body k)) x.body.length
   ⟨0,hn+1,Aj6,Aj6,rfl,Aj8,Aj8,Aj8,rfl,Xs,Aj6,by simp[Akc,Sf]⟩ ?_
  clear ak aj ax ao;rintro m s q' ⟨k,n,rfl,hk,h1,h5,bf,be,bd,hK,a9,hA⟩;have a8:=hK.nobj;by_cases az:k<x.body.length
  ·have af:=Agz az;have am:=a7 x.body[k] (Ain az);obtain⟨c0,r,⟨a3,ida,rfl⟩,hd⟩:=EL.get Ds hb af;generalize x.body[k]=a at af am hd a3;have ai:=fun ids q=>aQ N idn ids a a3 hN Aj6 am.2.1 am.2.2 q;have aw:=Mo am;have ac:Akc (hn+1+Sf x.body (k+1)=n+((if k=0 then 1 else 0)+(if a.nt=true then 1 else 0)+(1+(A6 a).length))):=by
    rw[Akc,sW af,hA.out];omega
   clear af hA am;generalize (A6 a).length=la at ai aw ac;generalize N.idxOf a.pred=ia at ai hd;simp only[Ah4,Ah6]at hd;by_cases ae:k=0
   ·have a6:((k:Int)==0)=true:=by simp[ae]
    cases hnt:a.nt with
    |true=>
     rw[hnt]at hd;have ac:Akc (n+(1+la)+1+1=hn+1+Sf x.body (k+1)):=by rw[Akc,ac.out,if_pos ae,if_pos hnt];omega
     clear ae hnt
     repeat' (first|refine Z1 ?_|(refine Z8 ?_;intro yb ya)|(refine Z4 ?_;clear ya yb)|(refine Z2 ?_ ?_<;>intro h ad<;>try exact Xp)|(refine Z5 ?_;refine Xi (ai _ _) ?_;rintro _ _ ⟨rfl,ab⟩;(have ah:=ab.obj;have aa:=ab.nobj;simp only[Ab,Aa]at aa))|refine Z3 ?_|exact Zt|(apply ya.out;clear ya yb))
     refine⟨x.body.length-(k+1),Aj6,k+1,n+(1+la)+1+1,?_⟩
     ((repeat' refine Zi ?_ ?_)<;>first|exact Xq|exact (((hK.new _).put hK.nobj _).trans ab)|exact ac|exact Xs)
    |false=>
     rw[hnt]at hd;have ac:Akc (n+(1+la)+1=hn+1+Sf x.body (k+1)):=by rw[Akc,ac.out,if_pos ae,if_neg (by simp[hnt])];omega
     clear ae hnt
     repeat' (first|refine Z1 ?_|(refine Z8 ?_;intro yb ya)|(refine Z4 ?_;clear ya yb)|(refine Z2 ?_ ?_<;>intro h ad<;>try exact Xp)|(refine Z5 ?_;refine Xi (ai _ _) ?_;rintro _ _ ⟨rfl,ab⟩;(have ah:=ab.obj;have aa:=ab.nobj;simp only[Ab,Aa]at aa))|refine Z3 ?_|exact Zt|(apply ya.out;clear ya yb))
     refine⟨x.body.length-(k+1),Aj6,k+1,n+(1+la)+1,?_⟩
     ((repeat' refine Zi ?_ ?_)<;>first|exact Xq|exact (((hK.new _).put hK.nobj _).trans ab)|exact ac|exact Xs)
   ·have a6:((k:Int)==0)=false:=by simp;omega
    cases hnt:a.nt with
    |true=>
     rw[hnt]at hd;have ac:Akc (n+(1+la)+1=hn+1+Sf x.body (k+1)):=by rw[Akc,ac.out,if_neg ae,if_pos hnt];omega
     clear ae hnt
     repeat' (first|refine Z1 ?_|(refine Z8 ?_;intro yb ya)|(refine Z4 ?_;clear ya yb)|(refine Z2 ?_ ?_<;>intro h ad<;>try exact Xp)|(refine Z5 ?_;refine Xi (ai _ _) ?_;rintro _ _ ⟨rfl,ab⟩;(have ah:=ab.obj;have aa:=ab.nobj;simp only[Ab,Aa]at aa))|refine Z3 ?_|exact Zt|(apply ya.out;clear ya yb))
     refine⟨x.body.length-(k+1),Aj6,k+1,n+(1+la)+1,?_⟩
     ((repeat' refine Zi ?_ ?_)<;>first|exact Xq|exact (((hK.new _).put hK.nobj _).trans ab)|exact ac|exact Xs)
    |false=>
     rw[hnt]at hd;have ac:Akc (n+(1+la)=hn+1+Sf x.body (k+1)):=by rw[Akc,ac.out,if_neg ae,if_neg (by simp[hnt])];omega
     clear ae hnt
     repeat' (first|refine Z1 ?_|(refine Z8 ?_;intro yb ya)|(refine Z4 ?_;clear ya yb)|(refine Z2 ?_ ?_<;>intro h ad<;>try exact Xp)|(refine Z5 ?_;refine Xi (ai _ _) ?_;rintro _ _ ⟨rfl,ab⟩;(have ah:=ab.obj;have aa:=ab.nobj;simp only[Ab,Aa]at aa))|refine Z3 ?_|exact Zt|(apply ya.out;clear ya yb))
     refine⟨x.body.length-(k+1),Aj6,k+1,n+(1+la),?_⟩
     ((repeat' refine Zi ?_ ?_)<;>first|exact Xq|exact (((hK.new _).put hK.nobj _).trans ab)|exact ac|exact Xs)
  ·have a5:k=x.body.length:=Aj6;subst a5;have HA:Akc ((Bc x++[46]).length=n):=by rw[Akc,HL.out,hA.out]
   clear hA HL
   repeat' (first|refine Z1 ?_|(refine Z8 ?_;intro yb ya)|(refine Z4 ?_;clear ya yb)|(refine Z2 ?_ ?_<;>intro h ad<;>try exact Xp)|refine Z3 ?_|exact Zt|(apply ya.out;clear ya yb))
   first
   |exact⟨_,rfl,by rw[HA.out],hK⟩
   |exact⟨_,rfl,by rw[HA.out]⟩
def H8 (l:List RItem):Bool:=decide (l.length<=16)&&(l.all (fun x=>decide (x.body.length<=5))&&decide ((Bu l).length<=600))
theorem rJ {N:List Tx}{x:RItem}(h:Msr N x):(Bc x++[46]).length<=8000000:=by
 have h1:=h.hpl;cases aa:x.out with
 |true=>rw[Bc,if_pos aa];simp;omega
 |false=>
  have hh:=Mo (h.at_ x.head (Ar (.inl ⟨aa,rfl⟩)));have hl:∀ls:List RAtom,(∀a∈ls,a.terms.length<=3/\a.pred.length<=1000/\∀t∈a.terms,UT t)->(Bz (ls.map B8)).length<=ls.length*6002:=by
   intro ls;induction ls with
   |nil=>intro _;simp[Bz]
   |cons a ls ih=>
    intro g;have h1:=ih fun b hb=>g b (by simp[hb]);have h2:=Mo (g a (by simp));have h3:(B8 a).length<=6001:=by unfold B8;split<;>simp<;>omega
    unfold Bz at*
    simp only[Ahj,Aik,Aho,Ahy];omega
  have hu:(Bj (x.body.map B8)).length<=x.body.length*6002:=by
   have:=hl x.body fun a ha=>h.at_ a (Ar (.inr ha));cases hb:x.body with
   |nil=>simp[Bj]
   |cons a ls=>
    rw[hb]at this;have e:Bz ((a::ls).map B8)=44::Bj ((a::ls).map B8):=by simp[Bz,Bj]
    rw[e]at this;simp only[Ahy]at this⊢;omega
  have hb:=h.body;rw[Bc,if_neg (by simp[aa]),Dh];split<;>simp<;>omega
def PJ (N:List Tx)(x:RItem)(c:List AV):Prop:=(PI N x c/\Msr N x)\/(5<x.body.length/\x.body.length<=1000/\∃(o:Bool) (p:Int) (ih n1:Nat) (tc:List AV) (ib:Nat) (b:List AV),c=[sc (.bool o),sc (.int .i64 p),sl ih n1 tc,sl ib x.body.length b])
theorem Aal {N:List Tx}(x:RItem)(c:List AV)(h:PJ N x c):c.length=4:=by
 rcases h with⟨h,-⟩|⟨-,-,_,_,_,_,_,_,_,rfl⟩
 ·exact Dd x c h
 ·rfl
theorem Ow {α:Type}{E E':α->List AV->Prop}:∀{l:List α} {cs:List AV},EL E l cs->(∀a∈l,∀c,E a c->E' a c)->EL E' l cs
 |[],_,h,_=>h
 |a::l,_,⟨c,d,h1,h2,e⟩,g=>⟨c,d,g a (by simp) c h1,Ow h2 (fun b hb=>g b (by simp[hb])),e⟩
theorem W5 (N:List Tx)(l:List RItem)(cs:List AV)(idn idi:Nat)(hE:EL (PJ N) l cs)(hN:N.length<=2000)(hl:l.length<=1000)(q:St):ACalls Tryz.prog 207 [Bn N idn l idi cs] q fun r q'=>r=sc (.bool (H8 l))/\Keep q q':=by
 have aw:=EL.length Aal hE;by_cases ay:16<l.length
 ·have hb:decide ((16:Int)<(l.length:Int))=true:=by simp;omega
  have HL:Akc (H8 l=false):=by rw[Akc,H8,decide_eq_false Aj6];rfl
  refine Z9 30 [.tmp 2] Tryz.func207 ?_
  repeat' (first|refine Z1 ?_|(refine Z8 ?_;intro yb ya)|(refine Z4 ?_;clear ya yb)|(refine Z2 ?_ ?_<;>intro h ab<;>try exact Xp)|refine Z3 ?_|exact Zt|(apply ya.out;clear ya yb))
  exact⟨_,rfl,by rw[HL.out],Xs⟩
 ·have hb:decide ((16:Int)<(l.length:Int))=false:=by simp;omega
  refine Z9 30 [.tmp 2] Tryz.func207 ?_
  repeat' (first|refine Z1 ?_|(refine Z8 ?_;intro yb ya)|(refine Z4 ?_;clear ya yb)|(refine Z2 ?_ ?_<;>intro h ab<;>try exact Xp)|refine Z3 ?_|exact Zt|(apply ya.out;clear ya yb))
  refine Af (fun m s q'=>∃(i n:Nat),m=l.length-i/\i<=l.length/\s 1=ptr q.nobj 0/\s 3=sc (.int .i64 n)/\s 11=sl idi l.length cs/\s 12=sc (.int .i64 l.length)/\s 13=sc (.int .i64 i)/\Keep q q'/\q.nobj<q'.nobj/\q'.obj q.nobj=[sl idn N.length (N.map str),sl idi l.length cs]/\n<=i*8000000/\Akc (n=(Bu (l.take i)).length/\∀x∈l.take i,x.body.length<=5)) l.length
   ⟨0,0,Aj6,Aj6,Aj8,Aj8,Aj8,Aj8,rfl,Xs,Aka,Ao,by simp,by simp[Akc,Bu]⟩ ?_
  rintro m s q' ⟨i,n,rfl,hi,h1,h3,a3,a0,az,hK,au,ak,av,hA⟩;have ap:=hK.nobj;by_cases am:i<l.length
  ·have aa:=Agz am;obtain⟨c,r,ac,hd⟩:=EL.get Aal hE aa;generalize l[i]=x at hd aa ac;have an:∃(o:Bool) (p:Int) (ih n1:Nat) (tc:List AV) (ib:Nat) (b:List AV),c=[sc (.bool o),sc (.int .i64 p),sl ih n1 tc,sl ib x.body.length b]:=by
    rcases ac with⟨⟨-,ih,id,b,-,rfl⟩,-⟩|⟨-,-,h⟩
    ·exact⟨_,_,_,_,_,_,_,rfl⟩
    ·exact h
   have ax:x.body.length<=1000:=by
    rcases ac with⟨-,h⟩|⟨-,h,-⟩
    ·exact h.body
    ·exact h
   obtain⟨xo,xp,ih,xn,xt,id,b,rfl⟩:=an;simp only[Ah4,Ah6]at hd;by_cases h5:5<x.body.length
   ·have ao:decide ((5:Int)<(x.body.length:Int))=true:=by simp;omega
    have HL:Akc (H8 l=false):=by
     have:l.all (fun x=>decide (x.body.length<=5))=false:=by
      rw[Ajg];exact⟨x,Ag1 aa,by simp;omega⟩
     rw[Akc,H8,this];simp
    clear aa hA ac
    repeat' (first|refine Z1 ?_|(refine Z8 ?_;intro yb ya)|(refine Z4 ?_;clear ya yb)|(refine Z2 ?_ ?_<;>intro h ab<;>try exact Xp)|refine Z3 ?_|exact Zt|(apply ya.out;clear ya yb))
    exact⟨_,rfl,by rw[HL.out],Xs⟩
   ·obtain⟨ah,hw⟩:=ac.resolve_right (fun h=>h5 h.1);have ai:=fun q=>tA N idn x _ ah hN hw q;have aj:=rJ hw;clear ac ah;have ao:decide ((5:Int)<(x.body.length:Int))=false:=by simp;omega
    have HA:Akc (n+(Bc x++[46]).length=(Bu (l.take (i+1))).length/\∀x∈l.take (i+1),x.body.length<=5):=by
     rw[Akc,Ahd,aa,Ais,hA.out.1];refine⟨by simp[Bu],fun y hy=>?_⟩;rcases Ah8.1 hy with hy|hy
     ·exact hA.out.2 y hy
     ·simp at hy;subst hy;omega
    clear aa hA hw h5;generalize (Bc x++[46]).length=xl at ai aj HA
    repeat' (first|refine Z1 ?_|(refine Z8 ?_;intro yb ya)|(refine Z4 ?_;clear ya yb)|(refine Z2 ?_ ?_<;>intro h ab<;>try exact Xp)|(refine Z5 ?_;refine Xi (ai _) ?_;rintro _ _ ⟨rfl,af⟩;(have ae:=af.nobj;have ad:=af.obj;simp only[Ab,Aa]at ae ad))|refine Z3 ?_|exact Zt|(apply ya.out;clear ya yb))
    refine⟨l.length-(i+1),Aj6,i+1,n+xl,?_⟩
    ((repeat' refine Zi ?_ ?_)<;>first|exact Xq|exact (((hK.new _).put hK.nobj _).trans af)|exact HA|exact (by rw[ad _ Aj6,Ah Aj6,Ag Aj6,ak])|exact Xs)
  ·have hil:i=l.length:=Aj6;subst hil;have HL:Akc (H8 l=decide ((n:Int)<=600)):=by
    have h:=hA.out;rw[Ag7]at h;rw[Akc,H8,decide_eq_true Aj6,Ag0.2 (fun x hx=>decide_eq_true (h.2 x hx)),<-h.1];simp only[Aie];congr 1;apply propext;omega
   clear hA
   repeat' (first|refine Z1 ?_|(refine Z8 ?_;intro yb ya)|(refine Z4 ?_;clear ya yb)|(refine Z2 ?_ ?_<;>intro h ab<;>try exact Xp)|refine Z3 ?_|exact Zt|(apply ya.out;clear ya yb))
   first
   |exact⟨_,rfl,by rw[HL.out],hK⟩
   |exact⟨_,rfl,by rw[HL.out]⟩
def Cf (N:List Tx)(l:List RItem)(k:Nat):Bool:=l.any fun x=>!x.out&&decide (N.idxOf x.head.pred=k)
theorem Qb {α:Type}{l:List α}{f:α->Bool}{i:Nat}{x:α}(h:(l.take i).any f=false)(hi:l[i]?=some x)(hx:f x=false):(l.take (i+1)).any f=false:=by
 rw[Ahd,hi,Ais,Aji,h];simp[hx]
theorem cW {α:Type}{l:List α}{f:α->Bool}{i:Nat}{x:α}(hi:l[i]?=some x)(hx:f x=true):l.any f=true:=Ahz.2 ⟨x,Ag1 hi,hx⟩
theorem L0 (N:List Tx)(l:List RItem)(cs:List AV)(idn idi k:Nat)(hE:EL (PI N) l cs)(hl:l.length<=1000)(q:St):ACalls Tryz.prog 134 [Bn N idn l idi cs,sc (.int .i64 k)] q fun r q'=>r=sc (.bool (Cf N l k))/\Keep q q':=by
 have aj:=EL.length Dd hE;refine Z9 25 [.tmp 4] Tryz.func134 ?_
 repeat' (first|refine Z1 ?_|(refine Z8 ?_;intro yb ya)|(refine Z4 ?_;clear ya yb)|refine Z3 ?_|exact Zt|(apply ya.out;clear ya yb))
 refine Af (fun m s q'=>∃(i:Nat),m=l.length-i/\i<=l.length/\s 1=sc (.int .i64 k)/\s 8=sl idi l.length cs/\s 9=sc (.int .i64 l.length)/\s 10=sc (.int .i64 i)/\Keep q q'/\Akc (Cf N (l.take i) k=false)) l.length
  ⟨0,Aj6,Aj6,rfl,Aj8,Aj8,rfl,Xs,by simp[Akc,Cf]⟩ ?_
 rintro m s q' ⟨i,rfl,hi,h1,h8,h9,ak,hK,hA⟩;have ai:=hK.nobj;by_cases af:i<l.length
 ·have aa:=Agz af;obtain⟨ae,ih,id,b,r,ah,hd⟩:=Em hE aa;generalize l[i]=x at hd aa ae ah;cases ab:x.out with
  |true=>
   rw[ab]at hd;have HA:Akc (Cf N (l.take (i+1)) k=false):=Qb hA.out aa (by simp[ab]);clear aa hA ab
   repeat' (first|refine Z1 ?_|(refine Z8 ?_;intro yb ya)|(refine Z4 ?_;clear ya yb)|(refine Z2 ?_ ?_<;>intro h ac<;>try exact Xp)|refine Z3 ?_|exact Zt|(apply ya.out;clear ya yb))
   refine⟨l.length-(i+1),Aj6,i+1,?_⟩
   ((repeat' refine Zi ?_ ?_)<;>first|exact Xq|exact HA|exact Xs)
  |false=>
   rw[ab]at hd;by_cases hk:N.idxOf x.head.pred=k
   ·have ad:(((N.idxOf x.head.pred:Nat):Int)==(k:Int))=true:=by simp[hk]
    have HA:Akc (Cf N l k=true):=cW aa (by simp[ab,hk]);clear aa hA ab hk;generalize N.idxOf x.head.pred=ix at hd ad
    repeat' (first|refine Z1 ?_|(refine Z8 ?_;intro yb ya)|(refine Z4 ?_;clear ya yb)|(refine Z2 ?_ ?_<;>intro h ac<;>try exact Xp)|refine Z3 ?_|exact Zt|(apply ya.out;clear ya yb))
    exact⟨_,rfl,by rw[HA.out],Xs⟩
   ·have ad:(((N.idxOf x.head.pred:Nat):Int)==(k:Int))=false:=by simpa using (by omega:¬((N.idxOf x.head.pred:Nat):Int)=k)
    have HA:Akc (Cf N (l.take (i+1)) k=false):=Qb hA.out aa (by simp[hk]);clear aa hA ab hk;generalize N.idxOf x.head.pred=ix at hd ad
    repeat' (first|refine Z1 ?_|(refine Z8 ?_;intro yb ya)|(refine Z4 ?_;clear ya yb)|(refine Z2 ?_ ?_<;>intro h ac<;>try exact Xp)|refine Z3 ?_|exact Zt|(apply ya.out;clear ya yb))
    refine⟨l.length-(i+1),Aj6,i+1,?_⟩
    ((repeat' refine Zi ?_ ?_)<;>first|exact Xq|exact HA|exact Xs)
 ·have hil:i=l.length:=Aj6;subst hil;rw[Ag7]at hA
  repeat' (first|refine Z1 ?_|(refine Z8 ?_;intro yb ya)|(refine Z4 ?_;clear ya yb)|(refine Z2 ?_ ?_<;>intro h ac<;>try exact Xp)|refine Z3 ?_|exact Zt|(apply ya.out;clear ya yb))
  first
  |exact⟨_,rfl,by rw[hA.out],hK⟩
  |exact⟨_,rfl,by rw[hA.out]⟩
def F1 (N:List Tx)(l:List RItem)(k:Nat):Bool:=l.any fun x=>decide (N.idxOf x.head.pred=k)||x.body.any fun a=>decide (N.idxOf a.pred=k)
theorem gC (N:List Tx)(l:List RItem)(cs:List AV)(idn idi k:Nat)(hE:EL (PI N) l cs)(hl:l.length<=1000)(av:∀x∈l,x.body.length<=1000)(q:St):ACalls Tryz.prog 244 [Bn N idn l idi cs,sc (.int .i64 k)] q fun r q'=>r=sc (.bool (F1 N l k))/\Keep q q':=by
 have az:=EL.length Dd hE;refine Z9 35 [.tmp 4] Tryz.func244 ?_
 repeat' (first|refine Z1 ?_|(refine Z8 ?_;intro yb ya)|(refine Z4 ?_;clear ya yb)|refine Z3 ?_|exact Zt|(apply ya.out;clear ya yb))
 refine Af (fun m s q'=>∃(i:Nat),m=l.length-i/\i<=l.length/\s 1=sc (.int .i64 k)/\s 10=sl idi l.length cs/\s 11=sc (.int .i64 l.length)/\s 12=sc (.int .i64 i)/\Keep q q'/\Akc (F1 N (l.take i) k=false)) l.length
  ⟨0,Aj6,Aj6,rfl,Aj8,Aj8,rfl,Xs,by simp[Akc,F1]⟩ ?_
 rintro m s q' ⟨i,rfl,hi,h1,ao,an,am,hK,hA⟩;have aj:=hK.nobj;by_cases ak:i<l.length
 ·have aa:=Agz ak;have ax:=av l[i] (Ain ak);obtain⟨ap,ih,id,b,r,ai,hd⟩:=Em hE aa;generalize l[i]=x at hd aa ap ai ax;have aw:=EL.length Ds ai;by_cases hk:N.idxOf x.head.pred=k
  ·have ah:(((N.idxOf x.head.pred:Nat):Int)==(k:Int))=true:=by simp[hk]
   have HA:Akc (F1 N l k=true):=cW aa (by simp[hk]);clear aa hA hk;generalize N.idxOf x.head.pred=ix at hd ah
   repeat' (first|refine Z1 ?_|(refine Z8 ?_;intro yb ya)|(refine Z4 ?_;clear ya yb)|(refine Z2 ?_ ?_<;>intro h ab<;>try exact Xp)|refine Z3 ?_|exact Zt|(apply ya.out;clear ya yb))
   exact⟨_,rfl,by rw[HA.out],Xs⟩
  ·have ah:(((N.idxOf x.head.pred:Nat):Int)==(k:Int))=false:=by simpa using (by omega:¬((N.idxOf x.head.pred:Nat):Int)=k)
   have HG:Akc (l[i]?=some x/\¬N.idxOf x.head.pred=k):=⟨aa,hk⟩;clear aa hk;generalize N.idxOf x.head.pred=ix at hd ah
   repeat' (first|refine Z1 ?_|(refine Z8 ?_;intro yb ya)|(refine Z4 ?_;clear ya yb)|(refine Z2 ?_ ?_<;>intro h ab<;>try exact Xp)|refine Z3 ?_|exact Zt|(apply ya.out;clear ya yb))
   refine Af (fun m s q2=>∃(j:Nat),m=x.body.length-j/\j<=x.body.length/\s 1=sc (.int .i64 k)/\s 10=sl idi l.length cs/\s 11=sc (.int .i64 l.length)/\s 12=sc (.int .i64 i)/\s 22=sl id x.body.length b/\s 23=sc (.int .i64 x.body.length)/\s 24=sc (.int .i64 j)/\Keep q q2/\Akc ((x.body.take j).any (fun a=>decide (N.idxOf a.pred=k))=false)) x.body.length
    ⟨0,Aj6,Aj6,Aj7,Aj7,Aj7,Aj7,Aj8,Aj8,rfl,Xs,by simp[Akc]⟩ ?_
   clear h1 ao an am hK aj;rintro m s q2 ⟨j,rfl,hj,h1,ao,an,am,a4,a3,a0,hK,hJ⟩;have aj:=hK.nobj;by_cases ae:j<x.body.length
   ·have ac:=Agz ae;obtain⟨c0,rr,⟨ay,ida,rfl⟩,ad⟩:=EL.get Ds ai ac;generalize x.body[j]=a at ac ay ad;simp only[Ah4,Ah6]at ad;by_cases hk:N.idxOf a.pred=k
    ·have af:(((N.idxOf a.pred:Nat):Int)==(k:Int))=true:=by simp[hk]
     have HA:Akc (F1 N l k=true):=cW HG.out.1 (by
      have:x.body.any (fun a=>decide (N.idxOf a.pred=k))=true:=cW ac (by simp[hk])
      simp only[this,Bool.or_true])
     clear ac hk hJ hA HG;generalize N.idxOf a.pred=ia at ad af
     repeat' (first|refine Z1 ?_|(refine Z8 ?_;intro yb ya)|(refine Z4 ?_;clear ya yb)|(refine Z2 ?_ ?_<;>intro h ab<;>try exact Xp)|refine Z3 ?_|exact Zt|(apply ya.out;clear ya yb))
     exact⟨_,rfl,by rw[HA.out],Xs⟩
    ·have af:(((N.idxOf a.pred:Nat):Int)==(k:Int))=false:=by simpa using (by omega:¬((N.idxOf a.pred:Nat):Int)=k)
     have HJ:Akc ((x.body.take (j+1)).any (fun a=>decide (N.idxOf a.pred=k))=false):=Qb hJ.out ac (by simp[hk]);clear ac hk hJ;generalize N.idxOf a.pred=ia at ad af
     repeat' (first|refine Z1 ?_|(refine Z8 ?_;intro yb ya)|(refine Z4 ?_;clear ya yb)|(refine Z2 ?_ ?_<;>intro h ab<;>try exact Xp)|refine Z3 ?_|exact Zt|(apply ya.out;clear ya yb))
     refine⟨x.body.length-(j+1),Aj6,j+1,?_⟩
     ((repeat' refine Zi ?_ ?_)<;>first|exact Xq|exact HJ|exact Xs)
   ·have au:j=x.body.length:=Aj6;subst au;rw[Ag7]at hJ;have HA:Akc (F1 N (l.take (i+1)) k=false):=Qb hA.out HG.out.1 (by simp only[hJ.out,Bool.or_false];simpa using HG.out.2);clear hJ HG hA
    repeat' (first|refine Z1 ?_|(refine Z8 ?_;intro yb ya)|(refine Z4 ?_;clear ya yb)|(refine Z2 ?_ ?_<;>intro h ab<;>try exact Xp)|refine Z3 ?_|exact Zt|(apply ya.out;clear ya yb))
    refine⟨l.length-(i+1),Aj6,i+1,?_⟩
    ((repeat' refine Zi ?_ ?_)<;>first|exact Xq|exact HA|exact Xs)
 ·have hil:i=l.length:=Aj6;subst hil;rw[Ag7]at hA
  repeat' (first|refine Z1 ?_|(refine Z8 ?_;intro yb ya)|(refine Z4 ?_;clear ya yb)|(refine Z2 ?_ ?_<;>intro h ab<;>try exact Xp)|refine Z3 ?_|exact Zt|(apply ya.out;clear ya yb))
  first
  |exact⟨_,rfl,by rw[hA.out],hK⟩
  |exact⟨_,rfl,by rw[hA.out]⟩
def Iy (N:List Tx)(l' l:List RItem):Bool:=(List.range N.length).any fun k=>(Cf N l k&&!Cf N l' k)&&F1 N l' k
theorem Us (f:Nat->Bool)(k:Nat):(List.range (k+1)).any f=((List.range k).any f||f k):=by
 rw[List.range_succ,Aji];simp
theorem mL (N:List Tx)(l l':List RItem)(cs cs':List AV)(idn idn' idi idi':Nat)(hE:EL (PI N) l cs)(ax:EL (PI N) l' cs')(hN:N.length<=2000)(hl:l.length<=1000)(av:l'.length<=1000)(a0:∀x∈l',x.body.length<=1000)(q:St):
  ACalls Tryz.prog 208 [Bn N idn' l' idi' cs',Bn N idn l idi cs] q fun r q'=>r=sc (.bool (Iy N l' l))/\Keep q q':=by
 have hR:=fun k q=>L0 N l cs idn idi k hE hl q;have ak:=fun k q=>L0 N l' cs' idn' idi' k ax av q;have am:=fun k q=>gC N l' cs' idn' idi' k ax av a0 q;refine Z9 27 [.tmp 4] Tryz.func208 ?_
 repeat' (first|refine Z1 ?_|(refine Z8 ?_;intro yb ya)|(refine Z4 ?_;clear ya yb)|refine Z3 ?_|exact Zt|(apply ya.out;clear ya yb))
 refine Af (fun m s q'=>∃(k:Nat),m=N.length-k/\k<=N.length/\s 2=ptr q.nobj 0/\s 3=ptr (q.nobj+1) 0/\s 7=sl idn' N.length (N.map str)/\s 8=sc (.int .i64 N.length)/\s 9=sc (.int .i64 k)/\Keep q q'/\q.nobj+1<q'.nobj/\q'.obj q.nobj=[sl idn' N.length (N.map str),sl idi' l'.length cs']/\q'.obj (q.nobj+1)=[sl idn N.length (N.map str),sl idi l.length cs]/\Akc ((List.range k).any (fun k=>(Cf N l k&&!Cf N l' k)&&F1 N l' k)=false)) N.length
  ⟨0,Aj6,Aj6,Aj8,Aj8,Aj8,Aj8,rfl,Xs,Aka,by rw[Ag Aka,Ao],Ao,by simp[Akc]⟩ ?_
 rintro m s q' ⟨k,rfl,hk,h2,h3,h7,h8,h9,hK,a5,ao,an,hA⟩;have a4:=hK.nobj;by_cases ay:k<N.length
 ·have hR:=hR k;have ak:=ak k;have am:=am k;have au:=Us (fun k=>(Cf N l k&&!Cf N l' k)&&F1 N l' k) k;rw[hA.out]at au;have aw:(Cf N l k&&!Cf N l' k&&F1 N l' k)=true->Iy N l' l=true:=fun h=>Ahz.2 ⟨k,by simpa using ay,h⟩;generalize Cf N l k=r1 at*
  generalize Cf N l' k=r2 at*
  generalize F1 N l' k=r3 at*
  have HS:Akc _:=au;have HI:Akc _:=aw;clear au aw hA;cases r1 with
  |false=>
   have HA:=HS.out;simp only[Ajp,Bool.or_false]at HA;have HB:Akc _:=HA;clear HA HS HI
   repeat' (first|refine Z1 ?_|(refine Z8 ?_;intro yb ya)|(refine Z4 ?_;clear ya yb)|(refine Z2 ?_ ?_<;>intro h ae<;>try exact Xp)|(refine Z5 ?_;refine Xi (hR _) ?_;rintro _ _ ⟨rfl,ab⟩;(have ah:=ab.nobj;have aa:=ab.obj))|refine Z3 ?_|exact Zt|(apply ya.out;clear ya yb))
   refine⟨N.length-(k+1),Aj6,k+1,?_⟩
   ((repeat' refine Zi ?_ ?_)<;>first|exact Xq|exact HB|exact (hK.trans ab)|exact (by rw[aa _ Aj6,ao])|exact (by rw[aa _ Aj6,an])|exact Xs)
  |true=>
   cases r2 with
   |true=>
    have HA:=HS.out;simp only[Aie,Ahw,Ajp,Bool.or_false]at HA;have HB:Akc _:=HA;clear HA HS HI
    repeat' (first|refine Z1 ?_|(refine Z8 ?_;intro yb ya)|(refine Z4 ?_;clear ya yb)|(refine Z2 ?_ ?_<;>intro h ae<;>try exact Xp)|(refine Z5 ?_;first|(refine Xi (hR _) ?_;rintro _ _ ⟨rfl,ab⟩;(have ah:=ab.nobj;have aa:=ab.obj))|(refine Xi (ak _) ?_;rintro _ _ ⟨rfl,ad⟩;(have aj:=ad.nobj;have ac:=ad.obj)))|refine Z3 ?_|exact Zt|(apply ya.out;clear ya yb))
    refine⟨N.length-(k+1),Aj6,k+1,?_⟩
    ((repeat' refine Zi ?_ ?_)<;>first|exact Xq|exact HB|exact ((hK.trans ab).trans ad)|exact (by rw[ac _ Aj6,aa _ Aj6,ao])|exact (by rw[ac _ Aj6,aa _ Aj6,an])|exact Xs)
   |false=>
    cases r3 with
    |false=>
     have HA:=HS.out;simp only[Aie,Bool.not_false,Bool.and_false,Bool.or_false]at HA;have HB:Akc _:=HA;clear HA HS HI
     repeat' (first|refine Z1 ?_|(refine Z8 ?_;intro yb ya)|(refine Z4 ?_;clear ya yb)|(refine Z2 ?_ ?_<;>intro h ae<;>try exact Xp)|(refine Z5 ?_;first|(refine Xi (hR _) ?_;rintro _ _ ⟨rfl,ab⟩;(have ah:=ab.nobj;have aa:=ab.obj))|(refine Xi (ak _) ?_;rintro _ _ ⟨rfl,ad⟩;(have aj:=ad.nobj;have ac:=ad.obj))|(refine Xi (am _) ?_;rintro _ _ ⟨rfl,ai⟩;(have ap:=ai.nobj;have af:=ai.obj)))|refine Z3 ?_|exact Zt|(apply ya.out;clear ya yb))
     refine⟨N.length-(k+1),Aj6,k+1,?_⟩
     ((repeat' refine Zi ?_ ?_)<;>first|exact Xq|exact HB|exact (((hK.trans ab).trans ad).trans ai)|exact (by rw[af _ Aj6,ac _ Aj6,aa _ Aj6,ao])|exact (by rw[af _ Aj6,ac _ Aj6,aa _ Aj6,an])|exact Xs)
    |true=>
     have HL:Akc (Iy N l' l=true):=HI.out rfl;clear HS HI
     repeat' (first|refine Z1 ?_|(refine Z8 ?_;intro yb ya)|(refine Z4 ?_;clear ya yb)|(refine Z2 ?_ ?_<;>intro h ae<;>try exact Xp)|(refine Z5 ?_;first|(refine Xi (hR _) ?_;rintro _ _ ⟨rfl,ab⟩;(have ah:=ab.nobj;have aa:=ab.obj))|(refine Xi (ak _) ?_;rintro _ _ ⟨rfl,ad⟩;(have aj:=ad.nobj;have ac:=ad.obj))|(refine Xi (am _) ?_;rintro _ _ ⟨rfl,ai⟩;(have ap:=ai.nobj;have af:=ai.obj;have a3:=((hK.trans ab).trans ad).trans ai)))|refine Z3 ?_|exact Zt|(apply ya.out;clear ya yb))
     first|exact⟨_,rfl,by rw[HL.out],a3⟩|exact⟨_,rfl,by rw[HL.out]⟩
 ·have az:k=N.length:=Aj6;have HL:Akc (Iy N l' l=false):=by
   have:=hA.out;rw[az]at this;exact this
  clear hA
  repeat' (first|refine Z1 ?_|(refine Z8 ?_;intro yb ya)|(refine Z4 ?_;clear ya yb)|(refine Z2 ?_ ?_<;>intro h ae<;>try exact Xp)|refine Z3 ?_|exact Zt|(apply ya.out;clear ya yb))
  first|exact⟨_,rfl,by rw[HL.out],hK⟩|exact⟨_,rfl,by rw[HL.out]⟩
structure BkM (N:List Tx)(l:List RItem)(cs:List AV):Prop where
 el:EL (PI N) l cs
 len:l.length<=1000
 nm:N.length<=2000
 msr:∀x∈l,Msr N x
 fits:∀x∈l,x.fits
 pos:∀x∈l,∀a∈Ae x,0<a.terms.length
 va:∀x∈l,∀a∈Ae x,VA a
theorem BkM.bk {N:List Tx}{l:List RItem}{cs:List AV}(h:BkM N l cs)(hl:l.length<=16):Bk N l cs:=⟨h.el,hl,h.fits,fun x hx=>(h.msr x hx).out,h.nm,h.pos⟩
def Cy (N:List Tx)(l l':List RItem):Bool:=H8 l'&&(!Iy N l' l&&((Cd l').1==0))
structure BkJ (N:List Tx)(l:List RItem)(cs:List AV):Prop where
 pj:EL (PJ N) l cs
 len:l.length<=1000
 bk:H8 l=true->BkM N l cs
theorem BkM.bj {N:List Tx}{l:List RItem}{cs:List AV}(h:BkM N l cs):BkJ N l cs:=⟨Ow h.el fun x hx c hc=>.inl ⟨hc,h.msr x hx⟩,h.len,fun _=>h⟩
theorem Hu (N:List Tx)(l l':List RItem)(cs cs':List AV)(idn idi idi':Nat)(hB:BkM N l cs)(ad:BkJ N l' cs')(q:St):
  ACalls Tryz.prog 177 [Bn N idn l idi cs,sl idi' l'.length cs'] q fun r q'=>(∃x,r=tp [x,sc (.bool (Cy N l l'))]/\(Cy N l l'=true->x=Bn N idn l' idi' cs')/\(∃id1 n1 c1 id2 n2 c2,x=ag [sl id1 n1 c1,sl id2 n2 c2]))/\Keep q q':=by
 have ai:=fun q=>W5 N l' cs' idn idi' ad.pj hB.nm ad.len q;cases ac:H8 l' with
 |false=>
  have af:Cy N l l'=false:=by unfold Cy;rw[ac];rfl
  rw[ac]at ai;rw[af];refine Z9 30 [.cell 4 62,.tmp 5] Tryz.func177 ?_
  repeat' (first|refine Z1 ?_|(refine Z8 ?_;intro yb ya)|(refine Z4 ?_;clear ya yb)|(refine Z2 ?_ ?_<;>intro h ah<;>try exact Xp)|(refine Z5 ?_;refine Xi (ai _) ?_;rintro _ _ ⟨rfl,ae⟩;(have ab:=ae.nobj;have aa:=ae.obj;(try simp only[Aa,Ab]at ab aa)))|refine Z3 ?_|exact Zt|(apply ya.out;clear ya yb))
  exact⟨_,rfl,⟨_,rfl,(fun h=>by cases h),1,0,[],1,0,[],rfl⟩,Xs⟩
 |true=>
  rw[ac]at ai;have ad:=ad.bk ac;have am:=fun q=>mL N l l' cs cs' idn idn idi idi' hB.el ad.el hB.nm hB.len ad.len (fun x hx=>(ad.msr x hx).body) q;have ap:l'.length<=16:=by
   unfold H8 at ac;simp only[Ag3,Aj3]at ac;exact ac.1
  cases ak:Iy N l' l with
  |true=>
   have af:Cy N l l'=false:=by unfold Cy;rw[ac,ak];rfl
   rw[ak]at am;rw[af];refine Z9 30 [.cell 4 62,.tmp 5] Tryz.func177 ?_
   repeat' (first|refine Z1 ?_|(refine Z8 ?_;intro yb ya)|(refine Z4 ?_;clear ya yb)|(refine Z2 ?_ ?_<;>intro h ah<;>try exact Xp)|(refine Z5 ?_;first|(refine Xi (ai _) ?_;rintro _ _ ⟨rfl,ae⟩;(have ab:=ae.nobj;have aa:=ae.obj;(try simp only[Aa,Ab]at ab aa)))|(refine Xi (am _) ?_;rintro _ _ ⟨rfl,aj⟩;(have ao:=aj.nobj;have an:=aj.obj)))|refine Z3 ?_|exact Zt|(apply ya.out;clear ya yb))
   exact⟨_,rfl,⟨_,rfl,(fun h=>by cases h),1,0,[],1,0,[],rfl⟩,Xs⟩
  |false=>
   have af:Cy N l l'=((Cd l').1==0):=by unfold Cy;rw[ac,ak];simp
   rw[ak]at am;rw[af];have hF:=fun q=>Vp N l' cs' idn idi' (ad.bk ap) ad.va q;generalize Cd l'=wm at hF;obtain⟨w1,w2⟩:=wm;clear af;refine Z9 30 [.cell 4 62,.tmp 5] Tryz.func177 ?_
   repeat' (first|refine Z1 ?_|(refine Z8 ?_;intro yb ya)|(refine Z4 ?_;clear ya yb)|(refine Z2 ?_ ?_<;>intro h ah<;>try exact Xp)|(refine Z5 ?_;first|(refine Xi (ai _) ?_;rintro _ _ ⟨rfl,ae⟩;(have ab:=ae.nobj;have aa:=ae.obj;(try simp only[Aa,Ab]at ab aa)))|(refine Xi (am _) ?_;rintro _ _ ⟨rfl,aj⟩;(have ao:=aj.nobj;have an:=aj.obj))|(refine Xi (hF _) ?_;rintro _ _ ⟨rfl,au⟩;(have aw:=au.nobj;have av:=au.obj)))|refine Z3 ?_|exact Zt|(apply ya.out;clear ya yb))
   exact⟨_,rfl,⟨_,rfl,fun _=>rfl,_,_,_,_,_,_,rfl⟩,Xs⟩
def Co {α:Type}(n:Nat)(o:List α)(l:List α):List α:=l.zipIdx.flatMap fun p=>if p.2=n then o else [p.1]
theorem Up {α:Type}{n:Nat}{o l:List α}{i:Nat}{x:α}(h:l[i]?=some x):Co n o (l.take (i+1))=Co n o (l.take i)++if i=n then o else [x]:=by
 have hi:=(Agy.1 h).1;unfold Co;rw[Ahd,h,Ais,List.zipIdx_append,List.flatMap_append,Ahp,Ahu Aj6];simp
theorem Pg {α:Type}{n:Nat}{o:List α}(l:List α):∀i,(Co n o (l.take i)).length<=i*(o.length+1)
 |0=>by simp[Co]
 |i+1=>by
  have ih:=Pg l i (n:=n) (o:=o);cases h:l[i]? with
  |none=>
   rw[Ahd,h,Option.toList_none,Ahh];rw[Ahm];omega
  |some x=>
   rw[Up h,Aho,Ahm];split<;>simp<;>omega
def Itm (c:List AV):Prop:=∃(o:Bool) (p:Int) (ih n1:Nat) (tc:List AV) (ib n2:Nat) (b:List AV),c=[sc (.bool o),sc (.int .i64 p),sl ih n1 tc,sl ib n2 b]
theorem kG {N:List Tx}{x:RItem}{c:List AV}(h:PI N x c):Itm c:=by
 obtain⟨-,ih,id,b,-,rfl⟩:=h;exact⟨_,_,_,_,_,_,_,_,rfl⟩
theorem Ly {α:Type}{E:α->List AV->Prop}(hz:∀x c,E x c->Itm c)(N:List Tx)(l o:List α)(cs co:List AV)(idn idi ido n:Nat)(hE:EL E l cs)(az:EL E o co)(hl:l.length<=1000)(ho:o.length<=1000)(q:St):
  ACalls Tryz.prog 178 [ag [sl idn N.length (N.map str),sl idi l.length cs],sl ido o.length co,sc (.int .i64 n)] q fun r q'=>(∃id c',r=sl id (Co n o l).length c'/\EL E (Co n o l) c')/\Keep q q':=by
 have h4:∀x c,E x c->c.length=4:=fun x c h=>by obtain⟨_,_,_,_,_,_,_,_,rfl⟩:=hz x c h;rfl
 have bi:=EL.length h4 hE;have bh:=EL.length h4 az;refine Z9 41 [.tmp 6] Tryz.func178 ?_
 repeat' (first|refine Z1 ?_|(refine Z8 ?_;intro yb ya)|(refine Z4 ?_;clear ya yb)|refine Z3 ?_|exact Zt|(apply ya.out;clear ya yb))
 refine Af (fun m s q'=>∃(i id:Nat) (R:List α) (c:List AV),m=l.length-i/\i<=l.length/\s 1=sl ido o.length co/\s 2=sc (.int .i64 n)/\s 7=sl id R.length c/\s 14=sl idi l.length cs/\s 15=sc (.int .i64 l.length)/\s 16=sc (.int .i64 i)/\Keep q q'/\Own q q' id R.length/\c.length=R.length*4/\R.length<=i*(o.length+1)/\Akc (R=Co n o (l.take i)/\EL E R c)) l.length
  ⟨0,1,[],[],Aj6,Aj6,rfl,rfl,Aj8,Aj8,Aj8,rfl,Xs,Own.nil _ _,by simp,by simp,⟨by simp[Co],rfl⟩⟩ ?_
 rintro m s q' ⟨i,id,R,c,rfl,hi,h1,h2,h7,a4,a3,a0,hK,hO,ae,bd,hA⟩;have ax:=hK.nobj;by_cases ba:i<l.length
 ·have aa:=Agz ba;obtain⟨c1,r,an,hd⟩:=EL.get h4 hE aa;generalize l[i]=x at hd aa an;obtain⟨x1,x2,x3,x4,x5,x6,x7,x8,rfl⟩:=hz _ _ an;simp only[Ah4,Ah6]at hd;have bf:Akc _:=an;clear an;have bl:R.length<=1001000:=Ago bd (Ago (Nat.mul_le_mul (by omega:i<=1000) (by omega:o.length+1<=1001)) (by decide));have af:=Pg (n:=n) (o:=o) l (i+1);have ac:=Up (n:=n) (o:=o) aa;rw[<-hA.out.1]at ac;by_cases ah:i=n
  ·rw[if_pos ah]at ac;have a9:((i:Int) !=(n:Int))=false:=by simp[ah]
   have a5:Akc _:=ac;have a6:Akc (EL E R c):=hA.out.2;rw[ac,Aho]at af;clear ac aa hA ah
   repeat' (first|refine Z1 ?_|(refine Z8 ?_;intro yb ya)|(refine Z4 ?_;clear ya yb)|(refine Z2 ?_ ?_<;>intro h ad<;>try exact Xp)|refine Z3 ?_|exact Zt|(apply ya.out;clear ya yb))
   refine Af (fun m s q2=>∃(j id:Nat) (c':List AV),m=o.length-j/\j<=o.length/\s 1=sl ido o.length co/\s 2=sc (.int .i64 n)/\s 7=sl id (R.length+j) c'/\s 14=sl idi l.length cs/\s 15=sc (.int .i64 l.length)/\s 16=sc (.int .i64 i)/\s 28=sl ido o.length co/\s 29=sc (.int .i64 o.length)/\s 30=sc (.int .i64 j)/\Keep q q2/\Own q q2 id (R.length+j)/\c'.length=(R.length+j)*4/\Akc (EL E (R++o.take j) c')) o.length
    ⟨0,id,c,Aj6,Aj6,Aj7,Aj7,Aj7,Aj7,Aj7,Aj7,Aj7,Aj7,Aj8,Xs,(by simpa using Own.put (Own.new hO _) _ _),by simpa using ae,by simpa using a6⟩ ?_
   clear h1 h2 h7 a4 a3 a0 hK hO ax ae a6;rintro m s q2 ⟨j,id,c',rfl,hj,h1,h2,h7,a4,a3,a0,bp,bo,bn,hK,hO,ae,ai⟩;have ax:=hK.nobj;by_cases ap:j<o.length
   ·have ak:=Agz ap;obtain⟨c2,rj,am,ay⟩:=EL.get h4 az ak;generalize o[j]=y at ay ak am;obtain⟨y1,y2,y3,y4,y5,y6,y7,y8,rfl⟩:=hz _ _ am;simp only[Ah4,Ah6]at ay;have bg:Akc (EL E (R++o.take (j+1)) (c'++[sc (.bool y1),sc (.int .i64 y2),sl y3 y4 y5,sl y6 y7 y8])):=by
     rw[Akc,Ahd,ak,Ais,<-Ahq];exact EL.append ai.out (EL.single am)
    clear ak ai am
    repeat' (first|refine Z1 ?_|(refine Z8 ?_;intro yb ya)|(refine Z4 ?_;clear ya yb)|(refine Z2 ?_ ?_<;>intro h ad<;>try exact Xp)|refine Z3 ?_|exact Zt)
    refine Bg (by first|exact Ki) ((hK.new _).put hK.nobj _) (Own.put (Own.new hO _) _ _) (by decide) (by rfl) (ae) (by rfl) (by rfl) (by decide) Aj6 Aj6 ?_;intro idn qn au be aw ab av aj;simp only[Ab,Aa]at ab;refine Z3 ?_
    repeat' (first|refine Z1 ?_|(refine Z8 ?_;intro yb ya)|(refine Z4 ?_;clear ya yb)|refine Z3 ?_|exact Zt|(apply ya.out;clear ya yb))
    refine⟨o.length-(j+1),Aj6,j+1,idn,c'++[sc (.bool y1),sc (.int .i64 y2),sl y3 y4 y5,sl y6 y7 y8],?_⟩
    ((repeat' refine Zi ?_ ?_)<;>first|exact Xq|exact bg|exact au|exact ((by simp[ae];omega))|exact Xs)
   ·have bb:j=o.length:=Aj6;subst bb;rw[Ag7]at ai;have HA:Akc (R++o=Co n o (l.take (i+1))/\EL E (R++o) c'):=⟨a5.out.symm,ai.out⟩;clear ai a5;have bc:c'.length=(R++o).length*4:=by rw[ae,Aho]
    have bm:Own q q2 id (R++o).length:=by rw[Aho];exact hO
    rw[<-Aho]at h7;have a8:(R++o).length<=(i+1)*(o.length+1):=by rw[Aho];exact af
    repeat' (first|refine Z1 ?_|(refine Z8 ?_;intro yb ya)|(refine Z4 ?_;clear ya yb)|(refine Z2 ?_ ?_<;>intro h ad<;>try exact Xp)|refine Z3 ?_|exact Zt|(apply ya.out;clear ya yb))
    refine⟨l.length-(i+1),Aj6,i+1,id,R++o,c',?_⟩
    ((repeat' refine Zi ?_ ?_)<;>first|exact Xq|exact HA|exact Xs)
  ·rw[if_neg ah]at ac;have a9:((i:Int) !=(n:Int))=true:=by simpa using (by omega:¬(i:Int)=n)
   have HA:Akc (R++[x]=Co n o (l.take (i+1))/\EL E (R++[x]) (c++[sc (.bool x1),sc (.int .i64 x2),sl x3 x4 x5,sl x6 x7 x8])):=⟨ac.symm,EL.append hA.out.2 (EL.single bf.out)⟩;rw[ac]at af;clear ac aa hA ah
   repeat' (first|refine Z1 ?_|(refine Z8 ?_;intro yb ya)|(refine Z4 ?_;clear ya yb)|(refine Z2 ?_ ?_<;>intro h ad<;>try exact Xp)|refine Z3 ?_|exact Zt)
   refine Bg (by first|exact Ki) ((hK.new _).put hK.nobj _) (Own.put (Own.new hO _) _ _) (by decide) (by rfl) (ae) (by rfl) (by rfl) (by decide) Aj6 Aj6 ?_;intro idn qn au be aw ab av aj;simp only[Ab,Aa]at ab;refine Z3 ?_
   repeat' (first|refine Z1 ?_|(refine Z8 ?_;intro yb ya)|(refine Z4 ?_;clear ya yb)|refine Z3 ?_|exact Zt|(apply ya.out;clear ya yb))
   refine⟨l.length-(i+1),Aj6,i+1,idn,R++[x],c++[sc (.bool x1),sc (.int .i64 x2),sl x3 x4 x5,sl x6 x7 x8],?_⟩
   ((repeat' refine Zi ?_ ?_)<;>first|exact Xq|exact HA|exact ((by simpa using au))|exact ((by simp[ae];omega))|exact Xs)
 ·have hil:i=l.length:=Aj6;subst hil;rw[Ag7]at hA;have ao:Akc (Co n o l=R):=hA.out.1.symm;have a7:Akc (EL E R c):=hA.out.2;clear hA
  repeat' (first|refine Z1 ?_|(refine Z8 ?_;intro yb ya)|(refine Z4 ?_;clear ya yb)|(refine Z2 ?_ ?_<;>intro h ad<;>try exact Xp)|refine Z3 ?_|exact Zt|(apply ya.out;clear ya yb))
  first|exact⟨_,rfl,⟨id,c,by rw[ao.out],by rw[ao.out];exact a7.out⟩,hK⟩|exact⟨_,rfl,id,c,by rw[ao.out],by rw[ao.out];exact a7.out⟩
theorem Ut (N:List Tx)(l o:List RItem)(cs co:List AV)(idn idi ido n:Nat)(hE:EL (PI N) l cs)(aa:EL (PI N) o co)(hl:l.length<=1000)(ho:o.length<=1000)(q:St):
  ACalls Tryz.prog 178 [Bn N idn l idi cs,sl ido o.length co,sc (.int .i64 n)] q fun r q'=>(∃id c',r=sl id (Co n o l).length c'/\EL (PI N) (Co n o l) c')/\Keep q q':=
 Ly (fun _ _ h=>kG h) N l o cs co idn idi ido n hE aa hl ho q
structure GL (N:List Tx)(l:List RItem):Prop where
 len:l.length<=16
 nm:N.length<=2000
 msr:∀x∈l,Msr N x
 fits:∀x∈l,x.fits
 pos:∀x∈l,∀a∈Ae x,0<a.terms.length
 va:∀x∈l,∀a∈Ae x,VA a
 ar:∀x∈l,∀a∈x.body,∀b∈x.body,a.pred=b.pred->a.terms.length=b.terms.length
theorem GL.bkm {N:List Tx}{l:List RItem}{cs:List AV}(h:GL N l)(hE:EL (PI N) l cs):BkM N l cs:=⟨hE,by have:=h.len;omega,h.nm,h.msr,h.fits,h.pos,h.va⟩
theorem Dt {α:Type}{n:Nat}{o l:List α}{x:α}(h:x∈Co n o l):x∈l\/x∈o:=by
 unfold Co at h;obtain⟨p,hp,hx⟩:=Ah7.1 h;split at hx
 ·exact .inr hx
 ·simp at hx;subst hx;exact .inl (List.fst_mem_of_mem_zipIdx hp)
theorem Abk {α:Type}{n:Nat}{y:α}(l:List α):(Co n [y] l).length=l.length:=by
 unfold Co;rw[List.length_flatMap];have key:∀(l:List α) (k:Nat),((l.zipIdx k).map fun p=>(if p.2=n then [y]else [p.1]).length).sum=l.length:=by
  intro l;induction l with
  |nil=>intro k;simp
  |cons x l ih=>
   intro k;have:=ih (k+1);simp only[List.zipIdx_cons,Ahj,List.sum_cons,Ahy];rw[this];split<;>simp<;>omega
 exact key l 0
theorem Pf {α:Type}{n:Nat}(l:List α):(Co n [] l).length<=l.length:=by
 unfold Co;rw[List.length_flatMap];have key:∀(l:List α) (k:Nat),((l.zipIdx k).map fun p=>(if p.2=n then []else [p.1]).length).sum<=l.length:=by
  intro l;induction l with
  |nil=>intro k;simp
  |cons x l ih=>
   intro k;have:=ih (k+1);simp only[List.zipIdx_cons,Ahj,List.sum_cons,Ahy];split<;>simp<;>omega
 exact key l 0
theorem Ll {x:RItem}{k:Nat}(ho:x.out=false){a:RAtom}(h:a∈Ae (G6 x k)):a∈Ae x:=by
 have h':a=x.head\/a∈x.body.eraseIdx k:=by simpa[Ae,G6]using h
 rcases h' with rfl|h'
 ·exact Ar (.inl ⟨ho,rfl⟩)
 ·exact Ar (.inr (Aja h'))
theorem GL.wo {N:List Tx}{l:List RItem}(h:GL N l){i k:Nat}{x:RItem}(hx:l[i]?=some x)(ho:x.out=false):GL N (Co i [G6 x k] l):=by
 have aa:=Ag1 hx;have hm:∀y∈Co i [G6 x k] l,y∈l\/y=G6 x k:=fun y hy=>by
  rcases Dt hy with h|h
  ·exact .inl h
  ·exact .inr (by simpa using h)
 have m:=h.msr x aa;refine⟨by rw[Abk];exact h.len,h.nm,fun y hy=>?_,fun y hy=>?_,fun y hy=>?_,fun y hy=>?_,fun y hy=>?_⟩
 ·rcases hm y hy with hy|rfl
  ·exact h.msr y hy
  ·exact⟨(fun e=>by cases e),Ago (Ajd _ _) m.body,m.mem,m.hpl,fun a ha=>m.at_ a (Ll ho ha)⟩
 ·rcases hm y hy with hy|rfl
  ·exact h.fits y hy
  ·exact Te (h.fits x aa)
 ·rcases hm y hy with hy|rfl
  ·exact h.pos y hy
  ·exact fun a ha=>h.pos x aa a (Ll ho ha)
 ·rcases hm y hy with hy|rfl
  ·exact h.va y hy
  ·exact fun a ha=>h.va x aa a (Ll ho ha)
 ·rcases hm y hy with hy|rfl
  ·exact h.ar y hy
  ·exact fun a ha b hb=>h.ar x aa a (Aja ha) b (Aja hb)
def lE (N:List Tx)(x:RItem)(k:Nat):Option Sw:=(Cg K6 (x.head.terms.map Ak) (x.head.terms.map Ak)).bind fun s0=>Is N x k s0
theorem bN {N:List Tx}{l:List RItem}(h:GL N l){x:RItem}(hx:x∈l)(ho:x.out=false)(c:List AV)(k:Nat)(hc:PI N x c)(q:St):ACalls Tryz.prog 94 [ag c,sc (.int .i64 k)] q fun r q'=>r=O3 (lE N x k)/\Keep q q':=by
 have m:=h.msr x hx;have hh:=m.at_ x.head (Ar (.inl ⟨ho,rfl⟩));obtain⟨s0,aa,-⟩:=X6 tellU x.head.terms hh.2.2;have:=fZ N x c k s0 hc (h.fits x hx) aa (fun t ht=>(hh.2.2 t ht).varOk) (fun a ha=>⟨(h.fits x hx).2.2 a ha,fun t ht=>((m.at_ a (Ar (.inr ha))).2.2 t ht).varOk,fun b hb=>h.ar x hx a ha b (Aja hb)⟩) q;rw[lE,aa];exact this
def kC (x:AV):Prop:=∃id1 n1 c1 id2 n2 c2,x=ag [sl id1 n1 c1,sl id2 n2 c2]
def Se (N:List Tx)(l:List RItem)(i k:Nat):Bool:=match l[i]? with
 |some x=>(lE N x k).isSome&&Cy N l (Co i [G6 x k] l)
 |none=>false
def sR (N:List Tx)(l:List RItem)(n:Nat):Prop:=∀i y,i<n->l[i]?=some y->∀k,k<y.body.length->Se N l i k=false
def chA (N:List Tx)(l:List RItem)(idn:Nat)(x:AV)(b:Bool):Prop:=
 (b=false/\sR N l l.length)\/(b=true/\∃i k y,l[i]?=some y/\y.out=false/\k<y.body.length/\Se N l i k=true/\sR N l i/\(∀k',k'<k->Se N l i k'=false)/\∃id c',x=Bn N idn (Co i [G6 y k] l) id c'/\EL (PI N) (Co i [G6 y k] l) c')
theorem O0 (N:List Tx)(l:List RItem)(cs:List AV)(idn idi:Nat)(hG:GL N l)(hE:EL (PI N) l cs)(q:St):
  ACalls Tryz.prog 125 [Bn N idn l idi cs] q fun r q'=>(∃x b,r=tp [x,sc (.bool b)]/\chA N l idn x b/\kC x)/\Keep q q':=by
 have cc:=EL.length Dd hE;have bz:=hG.len;have b7:=Cw;have b6:=Pb;have b5:∀s,List.take 78 (Dm s)=Dm s:=fun s=>Aia (by rw[Cw];exact Agn _);have b9:∀s s',lsp (Dm s) 0 (Dm s')=Dm s':=fun s s'=>Mz (by rw[Cw,Cw]);have cb:∀s,(Dm s).all flat=true:=fun s=>by
  rw[Ag0];intro x hx;obtain⟨n,-,rfl⟩:=Aib.1 hx;unfold eZ;split
  ·rfl
  ·split<;>rfl
 refine Z9 53 [.cell 2 62,.tmp 3] Tryz.func125 ?_
 repeat' (first|refine Z1 ?_|(refine Z8 ?_;intro yb ya)|(refine Z4 ?_;clear ya yb)|refine Z3 ?_|exact Zt|(apply ya.out;clear ya yb))
 refine Af (fun m s q'=>∃(i:Nat),m=l.length-i/\i<=l.length/\s 1=ptr q.nobj 0/\s 2=ptr (q.nobj+1) 0/\s 13=sl idi l.length cs/\s 14=sc (.int .i64 l.length)/\s 15=sc (.int .i64 i)/\Keep q q'/\q.nobj+1<q'.nobj/\q'.obj q.nobj=[sl idn N.length (N.map str),sl idi l.length cs]/\q'.obj (q.nobj+1)=[nilS,nilS]/\Akc (sR N l i)) l.length
  ⟨0,Aj6,Aj6,Aj8,Aj8,Aj8,Aj8,rfl,Xs,Aka,by rw[Ag Aka,Ao],by first|exact Ao|simp[Ao],fun i y h=>Aj6⟩ ?_
 rintro m s q' ⟨i,rfl,hi,h1,h2,bp,bo,bn,hK,b8,az,ay,hA⟩;have b4:=hK.nobj;by_cases bl:i<l.length
 ·have ac:=Agz bl;have a0:=Ain bl;have bm:=hG.fits l[i] a0;have bi:=hG.msr l[i] a0;obtain⟨a7,ih,idb,b,r,a3,hd⟩:=Em hE ac;generalize l[i]=x at hd ac a7 a3 a0 bm bi;have b1:=bm.1;have cd:=EL.length Ds a3;have HG:Akc (l[i]?=some x):=ac;clear ac
  repeat' (first|refine Z1 ?_|(refine Z8 ?_;intro yb ya)|(refine Z4 ?_;clear ya yb)|(refine Z2 ?_ ?_<;>intro h ab<;>try exact Xp)|refine Z3 ?_|exact Zt|(apply ya.out;clear ya yb))
  refine Af (fun m s q2=>∃(k:Nat),m=x.body.length-k/\k<=x.body.length/\s 1=ptr q.nobj 0/\s 2=ptr (q.nobj+1) 0/\s 4=sc (.int .i64 i)/\s 5=ptr q'.nobj 0/\s 13=sl idi l.length cs/\s 14=sc (.int .i64 l.length)/\s 15=sc (.int .i64 i)/\s 21=sl idb x.body.length b/\s 22=sc (.int .i64 x.body.length)/\s 23=sc (.int .i64 k)/\Keep q q2/\q'.nobj<q2.nobj/\q2.obj q.nobj=[sl idn N.length (N.map str),sl idi l.length cs]/\q2.obj (q.nobj+1)=[nilS,nilS]/\q2.obj q'.nobj=[sc (.bool x.out),sc (.int .i64 (N.idxOf x.head.pred:Nat)),sl ih x.head.terms.length (Au x.head.terms),sl idb x.body.length b]/\Akc (∀k',k'<k->Se N l i k'=false)) x.body.length
   ⟨0,Aj6,Aj6,Aj7,Aj7,Aj7,Aj7,Aj7,Aj7,Aj7,Aj8,Aj8,Aj8,Xs,Akb,by rw[Ah Aj6,Ag Aj6,az],by rw[Ah Aj6,Ag Aj6,ay],by rw[Aj],fun k' h=>Aj6⟩ ?_
  clear h1 h2 bp bo bn hK az ay;rintro m s q2 ⟨k,rfl,hk,h1,h2,h4,h5,bp,bo,bn,cg,cf,ce,hK,bw,az,ay,bg,hN⟩;have bq:=hK.nobj;by_cases am:k<x.body.length
  ·have an:x.out=false:=by
    cases h:x.out with
    |false=>rfl
    |true=>rw[bi.out h]at am;cases am
   have af:=fun q=>bN hG a0 an _ k (PI.of (ih:=ih) (id:=idb) a7 a3) q;simp only[an]at af bg;have ae:Se N l i k=((lE N x k).isSome&&Cy N l (Co i [G6 x k] l)):=by unfold Se;rw[HG.out]
   cases hs:lE N x k with
   |none=>
    rw[hs]at af ae;simp only[O3]at af;have HN:Akc (∀k',k'<k+1->Se N l i k'=false):=fun k' a9=>by
     rcases Agq k' k with h|h
     ·exact hN.out k' h
     ·rw[show k'=k by omega,ae];rfl
    clear hN ae hs
    repeat' (first|refine Z1 ?_|(refine Z8 ?_;intro yb ya)|(refine Z4 ?_;clear ya yb)|(refine Z2 ?_ ?_<;>intro h ab<;>try exact Xp)|(refine Z5 ?_;refine Xi (af _) ?_;rintro _ _ ⟨rfl,ad⟩;(have ap:=ad.nobj;have aa:=ad.obj))|refine Z3 ?_|exact Zt|(apply ya.out;clear ya yb))
    rename_i q3;have b3:Keep q ((q3.new (Dm K6)).put q3.nobj (Dm K6)):=((hK.trans ad).new _).put Aj6 _;have hz0:((q3.new (Dm K6)).put q3.nobj (Dm K6)).obj q.nobj=[sl idn N.length (N.map str),sl idi l.length cs]:=by rw[Ah Aj6,Ag Aj6,aa _ Aj6,az]
    have bu:((q3.new (Dm K6)).put q3.nobj (Dm K6)).obj (q.nobj+1)=[nilS,nilS]:=by rw[Ah Aj6,Ag Aj6,aa _ Aj6,ay]
    have br:((q3.new (Dm K6)).put q3.nobj (Dm K6)).obj q'.nobj=[sc (.bool x.out),sc (.int .i64 (N.idxOf x.head.pred:Nat)),sl ih x.head.terms.length (Au x.head.terms),sl idb x.body.length b]:=by rw[Ah Aj6,Ag Aj6,aa _ Aj6,bg,an]
    refine⟨x.body.length-(k+1),Aj6,k+1,?_⟩
    ((repeat' refine Zi ?_ ?_)<;>first|exact Xq|exact HN|exact b3|exact hz0|exact bu|exact br|exact Xs)
   |some sw=>
    rw[hs]at af ae;simp only[O3]at af;simp only[Option.isSome_some,Aie]at ae;have bc:=fun q=>Np N x _ k (PI.of (ih:=ih) (id:=idb) a7 a3) b1 q;simp only[an]at bc;have bf:=hG.wo (k:=k) HG.out an;have bd:=fun co ido (b0:EL (PI N) [G6 x k] co) q=>Ut N l [G6 x k] cs co idn idi ido i hE b0 Aj6 (by simp) q;have ax:=fun c' id' (ba:EL (PI N) (Co i [G6 x k] l) c') q=>Hu N l (Co i [G6 x k] l) cs c' idn idi id' (hG.bkm hE) (bf.bkm ba).bj q;simp only[Aii]at bd;rw[<-ae]at ax;cases ao:Se N l i k with
    |true=>
     rw[ao]at ax;have HC:Akc (∀id c' x',x'=Bn N idn (Co i [G6 x k] l) id c'->EL (PI N) (Co i [G6 x k] l) c'->chA N l idn x' true):=fun id c' x' bv ba=>.inr ⟨rfl,i,k,x,HG.out,an,am,ao,hA.out,hN.out,id,c',bv,ba⟩;clear hN ae hs bf ao hA HG
     repeat' (first|refine Z1 ?_|(refine Z8 ?_;intro yb ya)|(refine Z4 ?_;clear ya yb)|(refine Z2 ?_ ?_<;>intro h ab<;>try exact Xp)|(refine Z5 ?_;first|(refine Xi (af _) ?_;rintro _ _ ⟨rfl,ad⟩;(have ap:=ad.nobj;have aa:=ad.obj))|(refine Xi (bc _) ?_;rintro _ _ ⟨c2,rfl,be,aw⟩;(have ak:=aw.nobj;have ai:=aw.obj;(try simp only[Ab,Aa]at ak ai);obtain⟨a8,ih2,id2,b2,bb,rfl⟩:=be))|(refine Xi (bd _ _ (EL.single (PI.of (ih:=ih2) (id:=id2) a8 bb)) _) ?_;rintro _ _ ⟨⟨id6,c6,rfl,a4⟩,av⟩;(have aj:=av.nobj;have ah:=av.obj;(try simp only[Ab,Aa,Aw]at aj ah)))|(refine Xi (ax c6 id6 a4 _) ?_;rintro _ _ ⟨⟨x7,rfl,bh,⟨id71,n71,c71,id72,n72,c72,rfl⟩⟩,au⟩;(have a6:=au.nobj;have a5:=au.obj)))|refine Z3 ?_|exact Zt|(apply ya.out;clear ya yb))
     exact⟨_,rfl,⟨_,true,rfl,HC.out _ _ _ (bh rfl) a4,_,_,_,_,_,_,rfl⟩,Xs⟩
    |false=>
     rw[ao]at ax;have HN:Akc (∀k',k'<k+1->Se N l i k'=false):=fun k' a9=>by
      rcases Agq k' k with h|h
      ·exact hN.out k' h
      ·rw[show k'=k by omega,ao]
     clear hN ae hs bf ao
     repeat' (first|refine Z1 ?_|(refine Z8 ?_;intro yb ya)|(refine Z4 ?_;clear ya yb)|(refine Z2 ?_ ?_<;>intro h ab<;>try exact Xp)|(refine Z5 ?_;first|(refine Xi (af _) ?_;rintro _ _ ⟨rfl,ad⟩;(have ap:=ad.nobj;have aa:=ad.obj))|(refine Xi (bc _) ?_;rintro _ _ ⟨c2,rfl,be,aw⟩;(have ak:=aw.nobj;have ai:=aw.obj;(try simp only[Ab,Aa]at ak ai);obtain⟨a8,ih2,id2,b2,bb,rfl⟩:=be))|(refine Xi (bd _ _ (EL.single (PI.of (ih:=ih2) (id:=id2) a8 bb)) _) ?_;rintro _ _ ⟨⟨id6,c6,rfl,a4⟩,av⟩;(have aj:=av.nobj;have ah:=av.obj;(try simp only[Ab,Aa,Aw]at aj ah)))|(refine Xi (ax c6 id6 a4 _) ?_;rintro _ _ ⟨⟨x7,rfl,bh,⟨id71,n71,c71,id72,n72,c72,rfl⟩⟩,au⟩;(have a6:=au.nobj;have a5:=au.obj)))|refine Z3 ?_|exact Zt|(apply ya.out;clear ya yb))
     refine⟨x.body.length-(k+1),Aj6,k+1,?_⟩
     ((repeat' refine Zi ?_ ?_)<;>first|exact Xq|exact HN|exact Xs)
  ·have ca:k=x.body.length:=Aj6;have HA:Akc (sR N l (i+1)):=fun j y hj hy k' a9=>by
    rcases Agq j i with h|h
    ·exact hA.out j y h hy k' a9
    ·have:j=i:=Aj6;subst this;rw[HG.out]at hy;cases hy;exact hN.out k' Aj6
   clear hN HG hA
   repeat' (first|refine Z1 ?_|(refine Z8 ?_;intro yb ya)|(refine Z4 ?_;clear ya yb)|(refine Z2 ?_ ?_<;>intro h ab<;>try exact Xp)|refine Z3 ?_|exact Zt|(apply ya.out;clear ya yb))
   refine⟨l.length-(i+1),Aj6,i+1,?_⟩
   ((repeat' refine Zi ?_ ?_)<;>first|exact Xq|exact HA|exact Xs)
 ·have hil:i=l.length:=Aj6;subst hil
  repeat' (first|refine Z1 ?_|(refine Z8 ?_;intro yb ya)|(refine Z4 ?_;clear ya yb)|(refine Z2 ?_ ?_<;>intro h ab<;>try exact Xp)|refine Z3 ?_|exact Zt|(apply ya.out;clear ya yb))
  exact⟨_,rfl,⟨_,false,rfl,.inl ⟨rfl,hA.out⟩,_,_,_,_,_,_,rfl⟩,Xs⟩
end Go.Proofs.YtmoeoppbmhfbpabGreatDoorL
