import Derived.Test.YtmoeoppbmhfbpabGreatDoorJStrC
set_option maxHeartbeats 32000000
set_option maxRecDepth 100000
set_option linter.all false
namespace Go.Proofs.YtmoeoppbmhfbpabGreatDoorJ
open Go.Abs
theorem Zg {w:Tx}(h:UT w)(I:St):ACalls Tryz.prog 149 [ag [sc (.bool (Az w).1),sc (.int .i64 (Az w).2)]] I fun r I'=>r=str w/\Keep I I':=by
 have:=Zh (Az w) h.dec.2 I;rwa[h.dec.1]at this
theorem Wz (N:List Tx)(idn ids:Nat)(a:Ai)(ha:a.pred∈N)(hN:N.length<=2000)(hn:a.terms.length<=1000)(hpl:a.pred.length<=1000)(hw:∀t∈a.terms,UT t)(I:St):
  ACalls Tryz.prog 265 [ag [sc (.int .i64 (N.idxOf a.pred:Nat)),sl ids a.terms.length (Av a.terms)],sl idn N.length (N.map str)] I fun r I'=>r=sc (.int .i64 ((Ay a).length:Nat))/\Keep I I':=by
 have au:=F4 a.terms;have aj:=Ac4 ha;have an:(N.map str).drop (N.idxOf a.pred)=str a.pred::(N.map str).drop (N.idxOf a.pred+1):=by
  have:=Fb aj;rwa[Ac3 aj]at this
 generalize N.idxOf a.pred=ix at aj an;refine Z9 34 [.tmp 4] Tryz.func265 ?_
 repeat' (first|refine Z1 ?_|(refine Z8 ?_;intro κ hκ)|(refine Z4 ?_;clear hκ κ)|(refine Z2 ?_ ?_<;>intro h ab<;>try exact Xp)|refine Z3 ?_|exact⟨⟩|(apply hκ.out;clear hκ κ))
 refine Ad (fun m s I'=>∃(k n:Nat),m=a.terms.length-k/\k<=a.terms.length/\s 5=sc (.int .i64 n)/\s 16=sl ids a.terms.length (Av a.terms)/\s 17=sc (.int .i64 a.terms.length)/\s 18=sc (.int .i64 k)/\Keep I I'/\n<=1002+k*1001/\Aec (n=a.pred.length+2+(Bf (a.terms.take k)).length)) a.terms.length
  ⟨0,a.pred.length+2,Ad6,Ad6,Ad8,Ad8,Ad8,rfl,Xs,Ad6,by simp[Aec,Bf]⟩ ?_
 rintro m s I' ⟨k,n,rfl,hk,h5,ay,ax,aw,hK,av,hA⟩;have ao:=hK.nobj;by_cases af:k<a.terms.length
 ·have aa:=List.getElem?_eq_getElem af;have hu:=hw a.terms[k] (Ac2 af);obtain⟨r,hd⟩:=Hs aa;generalize a.terms[k]=w at aa hu hd;have ad:Aec (a.pred.length+2+(Bf (a.terms.take (k+1))).length=n+((if k=0 then 0 else 1)+w.length)):=by
   rw[Aec,Abv,aa,Ac5,Q8,hA.out];have e:(a.terms.take k=[])↔k=0:=by
    rw[List.take_eq_nil_iff];constructor
    ·rintro (h|h)
     ·exact h
     ·rw[h]at af;cases af
    ·exact .inl
   by_cases h0:k=0
   ·rw[if_pos (e.2 h0),if_pos h0];simp;omega
   ·rw[if_neg (fun h=>h0 (e.1 h)),if_neg h0];simp;omega
  have hT:=fun I=>Zg hu I;have ap:=hu.2.2.1;clear aa hA hu;by_cases ae:k=0
  ·have am:decide ((0:Int)<(k:Int))=false:=by simp[ae]
   have ad:Aec (n+w.length=a.pred.length+2+(Bf (a.terms.take (k+1))).length):=by rw[Aec,ad.out,if_pos ae];omega
   clear ae
   repeat' (first|refine Z1 ?_|(refine Z8 ?_;intro κ hκ)|(refine Z4 ?_;clear hκ κ)|(refine Z2 ?_ ?_<;>intro h ab<;>try exact Xp)|(refine Z5 ?_;refine Xi (hT _) ?_;rintro _ _ ⟨rfl,ac⟩;(have ah:=ac.obj;have ai:=ac.nobj))|refine Z3 ?_|exact⟨⟩|(apply hκ.out;clear hκ κ))
   refine⟨a.terms.length-(k+1),Ad6,k+1,n+w.length,?_⟩
   ((repeat' with_reducible refine And.intro ?_ ?_)<;>first|exact Xq|exact (((hK.new _).put hK.nobj _).trans ac)|exact (ad)|exact Xs)
  ·have am:decide ((0:Int)<(k:Int))=true:=by simp;omega
   have ad:Aec (n+1+w.length=a.pred.length+2+(Bf (a.terms.take (k+1))).length):=by rw[Aec,ad.out,if_neg ae];omega
   clear ae
   repeat' (first|refine Z1 ?_|(refine Z8 ?_;intro κ hκ)|(refine Z4 ?_;clear hκ κ)|(refine Z2 ?_ ?_<;>intro h ab<;>try exact Xp)|(refine Z5 ?_;refine Xi (hT _) ?_;rintro _ _ ⟨rfl,ac⟩;(have ah:=ac.obj;have ai:=ac.nobj))|refine Z3 ?_|exact⟨⟩|(apply hκ.out;clear hκ κ))
   refine⟨a.terms.length-(k+1),Ad6,k+1,n+1+w.length,?_⟩
   ((repeat' with_reducible refine And.intro ?_ ?_)<;>first|exact Xq|exact (((hK.new _).put hK.nobj _).trans ac)|exact (ad)|exact Xs)
 ·have ak:k=a.terms.length:=Ad6;subst ak;have HA:Aec ((Ay a).length=n):=by
   rw[Aec,hA.out,Abt];simp[Ay];omega
  clear hA
  repeat' (first|refine Z1 ?_|(refine Z8 ?_;intro κ hκ)|(refine Z4 ?_;clear hκ κ)|(refine Z2 ?_ ?_<;>intro h ab<;>try exact Xp)|refine Z3 ?_|exact⟨⟩|(apply hκ.out;clear hκ κ))
  first
  |exact⟨_,rfl,by rw[HA.out],hK⟩
  |exact⟨_,rfl,by rw[HA.out]⟩
structure xS (N:List Tx)(x:RItem):Prop where
 out:x.out=true->x.body=[]
 body:x.body.length<=1000
 mem:x.head.pred∈N
 hpl:x.head.pred.length<=1000
 at_:∀a∈Af x,a.terms.length<=3/\a.pred.length<=1000/\∀t∈a.terms,UT t
theorem eS {ts:List Tx}(h:ts.length<=3)(g:∀t∈ts,UT t):(Bf ts).length<=4000:=by
 have key:∀ts:List Tx,(∀t∈ts,UT t)->(Br ts).length<=ts.length*1001:=by
  intro ts;induction ts with
  |nil=>intro _;simp[Br]
  |cons t ts ih=>
   intro h;have h1:=ih fun u hu=>h u (by simp[hu]);have h2:=(h t (by simp)).2.2.1;unfold Br at*
   simp only[Acz,Ab6,Acf];omega
 cases ts with
 |nil=>simp[Bf]
 |cons t ts=>
  have h1:=key ts fun u hu=>g u (by simp[hu]);have h2:=(g t (by simp)).2.2.1;simp only[Acf]at h;rw[Bf,Ab6];omega
theorem K4 {a:Ai}(h:a.terms.length<=3/\a.pred.length<=1000/\∀t∈a.terms,UT t):(Ay a).length<=6000:=by
 have:=eS h.1 h.2.2;have:=h.2.1;simp[Ay];omega
def Qb (ls:List Ai)(k:Nat):Nat:=if k=0 then 0 else 2+(Bf ((ls.take k).map B9)).length
theorem nF {ls:List Ai}{k:Nat}{a:Ai}(h:ls[k]?=some a):Qb ls (k+1)=Qb ls k+(if k=0 then 1 else 0)+(if a.nt=true then 1 else 0)+(1+(Ay a).length):=by
 unfold Qb;rw[if_neg Ad6,Abv,h,Ac5,Abx,List.map_singleton,Q8];have hk:=(List.getElem?_eq_some_iff.1 h).1;have aa:(B9 a).length=(if a.nt=true then 1 else 0)+(Ay a).length:=by unfold B9;split<;>simp;omega
 by_cases h0:k=0
 ·subst h0;simp only[List.take_zero,Ab2,if_true,Acm,Bf,Ace,aa];omega
 ·have e:(ls.take k).map B9≠[]:=fun e=>by
   have:=congrArg List.length e;simp at this;rcases this with h|h
   ·exact h0 h
   ·rw[h]at hk;cases hk
  rw[if_neg h0,if_neg h0,if_neg e];simp only[Ab6,Acx,aa];omega
theorem nJ (N:List Tx)(idn:Nat)(x:RItem)(c:List AV)(hc:PI N x c)(hN:N.length<=2000)(hm:xS N x)(I:St):
  ACalls Tryz.prog 243 [ag c,sl idn N.length (N.map str)] I fun r I'=>r=sc (.int .i64 ((Bh x++[46]).length:Nat))/\Keep I I':=by
 obtain⟨ay,ih,id,b,hb,rfl⟩:=hc;have bb:=EL.length Eb hb;have bc:=hm.body;have ba:=hm.hpl;have an:=Ac4 ay;have a0:(N.map str).drop (N.idxOf x.head.pred)=str x.head.pred::(N.map str).drop (N.idxOf x.head.pred+1):=by
  have:=Fb an;rwa[Ac3 an]at this
 cases ap:x.out with
 |true=>
  have HL:Aec (((Bh x++[46]).length:Nat)=2+x.head.pred.length):=by
   rw[Aec,Bh,if_pos ap];simp;omega
  clear hm;generalize N.idxOf x.head.pred=ix at an a0;refine Z9 48 [.tmp 4] Tryz.func243 ?_
  repeat' (first|refine Z1 ?_|(refine Z8 ?_;intro κ hκ)|(refine Z4 ?_;clear hκ κ)|(refine Z2 ?_ ?_<;>intro h ad<;>try exact Xp)|refine Z3 ?_|exact⟨⟩|(apply hκ.out;clear hκ κ))
  exact⟨_,rfl,by rw[HL.out];simp,Xs⟩
 |false=>
  have av:=hm.at_;have hh:=av x.head (Bv (.inl ⟨ap,rfl⟩));have ao:=fun ids I=>Wz N idn ids x.head ay hN Ad6 hh.2.1 hh.2.2 I;have au:=K4 hh;have HL:Aec ((Bh x++[46]).length=(Ay x.head).length+1+Qb x.body x.body.length):=by
   rw[Aec,Bh,if_neg (by simp[ap]),C5,Qb,Abt];by_cases he:x.body=[]
   ·simp[he]
   ·have a4:x.body.length≠0:=fun e=>he (Abq e);rw[if_neg he,if_neg a4];simp;omega
  have a7:∀a∈x.body,a.terms.length<=3/\a.pred.length<=1000/\∀t∈a.terms,UT t:=fun a ha=>av a (Bv (.inr ha));clear hm av hh;generalize N.idxOf x.head.pred=ix at an a0 ao;generalize (Ay x.head).length=hn at ao au HL;refine Z9 48 [.tmp 4] Tryz.func243 ?_
  repeat' (first|refine Z1 ?_|(refine Z8 ?_;intro κ hκ)|(refine Z4 ?_;clear hκ κ)|(refine Z2 ?_ ?_<;>intro h ad<;>try exact Xp)|(refine Z5 ?_;refine Xi (ao _ _) ?_;rintro _ _ ⟨rfl,ax⟩;(have ak:=ax.nobj;have aj:=ax.obj;simp only[Aa]at ak aj))|refine Z3 ?_|exact⟨⟩|(apply hκ.out;clear hκ κ))
  rename_i I1
  refine Ad (fun m s I'=>∃(k n:Nat),m=x.body.length-k/\k<=x.body.length/\s 1=sl idn N.length (N.map str)/\s 5=sc (.int .i64 n)/\s 24=sl id x.body.length b/\s 25=sc (.int .i64 x.body.length)/\s 26=sc (.int .i64 k)/\Keep I I'/\n<=6001+k*7000/\Aec (n=hn+1+Qb x.body k)) x.body.length
   ⟨0,hn+1,Ad6,Ad6,rfl,Ad8,Ad8,Ad8,rfl,Xs,Ad6,by simp[Aec,Qb]⟩ ?_
  clear ak aj ax ao;rintro m s I' ⟨k,n,rfl,hk,h1,h5,bf,be,bd,hK,a9,hA⟩;have a8:=hK.nobj;by_cases az:k<x.body.length
  ·have af:=List.getElem?_eq_getElem az;have am:=a7 x.body[k] (Ac2 az);obtain⟨c0,r,⟨a3,ida,rfl⟩,hd⟩:=EL.get Eb hb af;generalize x.body[k]=a at af am hd a3;have ai:=fun ids I=>Wz N idn ids a a3 hN Ad6 am.2.1 am.2.2 I;have aw:=K4 am;have ac:Aec (hn+1+Qb x.body (k+1)=n+((if k=0 then 1 else 0)+(if a.nt=true then 1 else 0)+(1+(Ay a).length))):=by
    rw[Aec,nF af,hA.out];omega
   clear af hA am;generalize (Ay a).length=la at ai aw ac;generalize N.idxOf a.pred=ia at ai hd;simp only[Ack,Acm]at hd;by_cases ae:k=0
   ·have a6:((k:Int)==0)=true:=by simp[ae]
    cases hnt:a.nt with
    |true=>
     rw[hnt]at hd;have ac:Aec (n+(1+la)+1+1=hn+1+Qb x.body (k+1)):=by rw[Aec,ac.out,if_pos ae,if_pos hnt];omega
     clear ae hnt
     repeat' (first|refine Z1 ?_|(refine Z8 ?_;intro κ hκ)|(refine Z4 ?_;clear hκ κ)|(refine Z2 ?_ ?_<;>intro h ad<;>try exact Xp)|(refine Z5 ?_;refine Xi (ai _ _) ?_;rintro _ _ ⟨rfl,ab⟩;(have ah:=ab.obj;have aa:=ab.nobj;simp only[Ab,Aa]at aa))|refine Z3 ?_|exact⟨⟩|(apply hκ.out;clear hκ κ))
     refine⟨x.body.length-(k+1),Ad6,k+1,n+(1+la)+1+1,?_⟩
     ((repeat' with_reducible refine And.intro ?_ ?_)<;>first|exact Xq|exact (((hK.new _).put hK.nobj _).trans ab)|exact (ac)|exact Xs)
    |false=>
     rw[hnt]at hd;have ac:Aec (n+(1+la)+1=hn+1+Qb x.body (k+1)):=by rw[Aec,ac.out,if_pos ae,if_neg (by simp[hnt])];omega
     clear ae hnt
     repeat' (first|refine Z1 ?_|(refine Z8 ?_;intro κ hκ)|(refine Z4 ?_;clear hκ κ)|(refine Z2 ?_ ?_<;>intro h ad<;>try exact Xp)|(refine Z5 ?_;refine Xi (ai _ _) ?_;rintro _ _ ⟨rfl,ab⟩;(have ah:=ab.obj;have aa:=ab.nobj;simp only[Ab,Aa]at aa))|refine Z3 ?_|exact⟨⟩|(apply hκ.out;clear hκ κ))
     refine⟨x.body.length-(k+1),Ad6,k+1,n+(1+la)+1,?_⟩
     ((repeat' with_reducible refine And.intro ?_ ?_)<;>first|exact Xq|exact (((hK.new _).put hK.nobj _).trans ab)|exact (ac)|exact Xs)
   ·have a6:((k:Int)==0)=false:=by simp;omega
    cases hnt:a.nt with
    |true=>
     rw[hnt]at hd;have ac:Aec (n+(1+la)+1=hn+1+Qb x.body (k+1)):=by rw[Aec,ac.out,if_neg ae,if_pos hnt];omega
     clear ae hnt
     repeat' (first|refine Z1 ?_|(refine Z8 ?_;intro κ hκ)|(refine Z4 ?_;clear hκ κ)|(refine Z2 ?_ ?_<;>intro h ad<;>try exact Xp)|(refine Z5 ?_;refine Xi (ai _ _) ?_;rintro _ _ ⟨rfl,ab⟩;(have ah:=ab.obj;have aa:=ab.nobj;simp only[Ab,Aa]at aa))|refine Z3 ?_|exact⟨⟩|(apply hκ.out;clear hκ κ))
     refine⟨x.body.length-(k+1),Ad6,k+1,n+(1+la)+1,?_⟩
     ((repeat' with_reducible refine And.intro ?_ ?_)<;>first|exact Xq|exact (((hK.new _).put hK.nobj _).trans ab)|exact (ac)|exact Xs)
    |false=>
     rw[hnt]at hd;have ac:Aec (n+(1+la)=hn+1+Qb x.body (k+1)):=by rw[Aec,ac.out,if_neg ae,if_neg (by simp[hnt])];omega
     clear ae hnt
     repeat' (first|refine Z1 ?_|(refine Z8 ?_;intro κ hκ)|(refine Z4 ?_;clear hκ κ)|(refine Z2 ?_ ?_<;>intro h ad<;>try exact Xp)|(refine Z5 ?_;refine Xi (ai _ _) ?_;rintro _ _ ⟨rfl,ab⟩;(have ah:=ab.obj;have aa:=ab.nobj;simp only[Ab,Aa]at aa))|refine Z3 ?_|exact⟨⟩|(apply hκ.out;clear hκ κ))
     refine⟨x.body.length-(k+1),Ad6,k+1,n+(1+la),?_⟩
     ((repeat' with_reducible refine And.intro ?_ ?_)<;>first|exact Xq|exact (((hK.new _).put hK.nobj _).trans ab)|exact (ac)|exact Xs)
  ·have a5:k=x.body.length:=Ad6;subst a5;have HA:Aec ((Bh x++[46]).length=n):=by rw[Aec,HL.out,hA.out]
   clear hA HL
   repeat' (first|refine Z1 ?_|(refine Z8 ?_;intro κ hκ)|(refine Z4 ?_;clear hκ κ)|(refine Z2 ?_ ?_<;>intro h ad<;>try exact Xp)|refine Z3 ?_|exact⟨⟩|(apply hκ.out;clear hκ κ))
   first
   |exact⟨_,rfl,by rw[HA.out],hK⟩
   |exact⟨_,rfl,by rw[HA.out]⟩
def Jo (l:List RItem):Bool:=decide (l.length<=16)&&(l.all (fun x=>decide (x.body.length<=5))&&decide ((Bp l).length<=600))
theorem lZ {N:List Tx}{x:RItem}(h:xS N x):(Bh x++[46]).length<=8000000:=by
 have h1:=h.hpl;cases aa:x.out with
 |true=>rw[Bh,if_pos aa];simp;omega
 |false=>
  have hh:=K4 (h.at_ x.head (Bv (.inl ⟨aa,rfl⟩)));have hl:∀ls:List Ai,(∀a∈ls,a.terms.length<=3/\a.pred.length<=1000/\∀t∈a.terms,UT t)->(Br (ls.map B9)).length<=ls.length*6002:=by
   intro ls;induction ls with
   |nil=>intro _;simp[Br]
   |cons a ls ih=>
    intro g;have h1:=ih fun b hb=>g b (by simp[hb]);have h2:=K4 (g a (by simp));have h3:(B9 a).length<=6001:=by unfold B9;split<;>simp<;>omega
    unfold Br at*
    simp only[Ab1,Acz,Ab6,Acf];omega
  have hu:(Bf (x.body.map B9)).length<=x.body.length*6002:=by
   have:=hl x.body fun a ha=>h.at_ a (Bv (.inr ha));cases hb:x.body with
   |nil=>simp[Bf]
   |cons a ls=>
    rw[hb]at this;have e:Br ((a::ls).map B9)=44::Bf ((a::ls).map B9):=by simp[Br,Bf]
    rw[e]at this;simp only[Acf]at this⊢;omega
  have hb:=h.body;rw[Bh,if_neg (by simp[aa]),C5];split<;>simp<;>omega
def PJ (N:List Tx)(x:RItem)(c:List AV):Prop:=(PI N x c/\xS N x)\/(5<x.body.length/\x.body.length<=1000/\∃(o:Bool) (p:Int) (ih n1:Nat) (tc:List AV) (ib:Nat) (b:List AV),c=[sc (.bool o),sc (.int .i64 p),sl ih n1 tc,sl ib x.body.length b])
theorem sZ {N:List Tx}(x:RItem)(c:List AV)(h:PJ N x c):c.length=4:=by
 rcases h with⟨h,-⟩|⟨-,-,_,_,_,_,_,_,_,rfl⟩
 ·exact Df x c h
 ·rfl
theorem Mf {α:Type}{E E':α->List AV->Prop}:∀{l:List α} {cs:List AV},EL E l cs->(∀a∈l,∀c,E a c->E' a c)->EL E' l cs
 |[],_,h,_=>h
 |a::l,_,⟨c,d,h1,h2,e⟩,g=>⟨c,d,g a (by simp) c h1,Mf h2 (fun b hb=>g b (by simp[hb])),e⟩
theorem Un (N:List Tx)(l:List RItem)(cs:List AV)(idn idi:Nat)(hE:EL (PJ N) l cs)(hN:N.length<=2000)(hl:l.length<=1000)(I:St):ACalls Tryz.prog 207 [Bs N idn l idi cs] I fun r I'=>r=sc (.bool (Jo l))/\Keep I I':=by
 have ax:=EL.length sZ hE;by_cases az:16<l.length
 ·have hb:decide ((16:Int)<(l.length:Int))=true:=by simp;omega
  have HL:Aec (Jo l=false):=by rw[Aec,Jo,decide_eq_false Ad6];rfl
  refine Z9 30 [.tmp 2] Tryz.func207 ?_
  repeat' (first|refine Z1 ?_|(refine Z8 ?_;intro κ hκ)|(refine Z4 ?_;clear hκ κ)|(refine Z2 ?_ ?_<;>intro h ab<;>try exact Xp)|refine Z3 ?_|exact⟨⟩|(apply hκ.out;clear hκ κ))
  exact⟨_,rfl,by rw[HL.out],Xs⟩
 ·have hb:decide ((16:Int)<(l.length:Int))=false:=by simp;omega
  refine Z9 30 [.tmp 2] Tryz.func207 ?_
  repeat' (first|refine Z1 ?_|(refine Z8 ?_;intro κ hκ)|(refine Z4 ?_;clear hκ κ)|(refine Z2 ?_ ?_<;>intro h ab<;>try exact Xp)|refine Z3 ?_|exact⟨⟩|(apply hκ.out;clear hκ κ))
  refine Ad (fun m s I'=>∃(i n:Nat),m=l.length-i/\i<=l.length/\s 1=ptr I.nobj 0/\s 3=sc (.int .i64 n)/\s 11=sl idi l.length cs/\s 12=sc (.int .i64 l.length)/\s 13=sc (.int .i64 i)/\Keep I I'/\I.nobj<I'.nobj/\I'.obj I.nobj=[sl idn N.length (N.map str),sl idi l.length cs]/\n<=i*8000000/\Aec (n=(Bp (l.take i)).length/\∀x∈l.take i,x.body.length<=5)) l.length
   ⟨0,0,Ad6,Ad6,Ad8,Ad8,Ad8,Ad8,rfl,Xs,Aea,Ao,by simp,by simp[Aec,Bp]⟩ ?_
  rintro m s I' ⟨i,n,rfl,hi,h1,h3,a4,a3,a0,hK,av,ak,aw,hA⟩;have au:=hK.nobj;by_cases am:i<l.length
  ·have aa:=List.getElem?_eq_getElem am;obtain⟨c,r,ac,hd⟩:=EL.get sZ hE aa;generalize l[i]=x at hd aa ac;have ao:∃(o:Bool) (p:Int) (ih n1:Nat) (tc:List AV) (ib:Nat) (b:List AV),c=[sc (.bool o),sc (.int .i64 p),sl ih n1 tc,sl ib x.body.length b]:=by
    rcases ac with⟨⟨-,ih,id,b,-,rfl⟩,-⟩|⟨-,-,h⟩
    ·exact⟨_,_,_,_,_,_,_,rfl⟩
    ·exact h
   have ay:x.body.length<=1000:=by
    rcases ac with⟨-,h⟩|⟨-,h,-⟩
    ·exact h.body
    ·exact h
   obtain⟨xo,xp,ih,xn,xt,id,b,rfl⟩:=ao;simp only[Ack,Acm]at hd;by_cases h5:5<x.body.length
   ·have ap:decide ((5:Int)<(x.body.length:Int))=true:=by simp;omega
    have HL:Aec (Jo l=false):=by
     have:l.all (fun x=>decide (x.body.length<=5))=false:=by
      rw[Adm];exact⟨x,Abm aa,by simp;omega⟩
     rw[Aec,Jo,this];simp
    clear aa hA ac
    repeat' (first|refine Z1 ?_|(refine Z8 ?_;intro κ hκ)|(refine Z4 ?_;clear hκ κ)|(refine Z2 ?_ ?_<;>intro h ab<;>try exact Xp)|refine Z3 ?_|exact⟨⟩|(apply hκ.out;clear hκ κ))
    exact⟨_,rfl,by rw[HL.out],Xs⟩
   ·obtain⟨ah,hw⟩:=ac.resolve_right (fun h=>h5 h.1);have ai:=fun I=>nJ N idn x _ ah hN hw I;have aj:=lZ hw;clear ac ah;have ap:decide ((5:Int)<(x.body.length:Int))=false:=by simp;omega
    have HA:Aec (n+(Bh x++[46]).length=(Bp (l.take (i+1))).length/\∀x∈l.take (i+1),x.body.length<=5):=by
     rw[Aec,Abv,aa,Ac5,hA.out.1];refine⟨by simp[Bp],fun y hy=>?_⟩;rcases Aco.1 hy with hy|hy
     ·exact hA.out.2 y hy
     ·simp at hy;subst hy;omega
    clear aa hA hw h5;generalize (Bh x++[46]).length=xl at ai aj HA
    repeat' (first|refine Z1 ?_|(refine Z8 ?_;intro κ hκ)|(refine Z4 ?_;clear hκ κ)|(refine Z2 ?_ ?_<;>intro h ab<;>try exact Xp)|(refine Z5 ?_;refine Xi (ai _) ?_;rintro _ _ ⟨rfl,af⟩;(have ae:=af.nobj;have ad:=af.obj;simp only[Ab,Aa]at ae ad))|refine Z3 ?_|exact⟨⟩|(apply hκ.out;clear hκ κ))
    refine⟨l.length-(i+1),Ad6,i+1,n+xl,?_⟩
    ((repeat' with_reducible refine And.intro ?_ ?_)<;>first|exact Xq|exact (((hK.new _).put hK.nobj _).trans af)|exact (HA)|exact (by rw[ad _ Ad6,Aj Ad6,Ae Ad6,ak])|exact Xs)
  ·have an:i=l.length:=Ad6;subst an;have HL:Aec (Jo l=decide ((n:Int)<=600)):=by
    have h:=hA.out;rw[Abt]at h;rw[Aec,Jo,decide_eq_true Ad6,Abl.2 (fun x hx=>decide_eq_true (h.2 x hx)),<-h.1];simp only[Acv];congr 1;apply propext;omega
   clear hA
   repeat' (first|refine Z1 ?_|(refine Z8 ?_;intro κ hκ)|(refine Z4 ?_;clear hκ κ)|(refine Z2 ?_ ?_<;>intro h ab<;>try exact Xp)|refine Z3 ?_|exact⟨⟩|(apply hκ.out;clear hκ κ))
   first
   |exact⟨_,rfl,by rw[HL.out],hK⟩
   |exact⟨_,rfl,by rw[HL.out]⟩
def Cb (N:List Tx)(l:List RItem)(k:Nat):Bool:=l.any fun x=>!x.out&&decide (N.idxOf x.head.pred=k)
theorem N0 {α:Type}{l:List α}{f:α->Bool}{i:Nat}{x:α}(h:(l.take i).any f=false)(hi:l[i]?=some x)(hx:f x=false):(l.take (i+1)).any f=false:=by
 rw[Abv,hi,Ac5,Adn,h];simp[hx]
theorem Yx {α:Type}{l:List α}{f:α->Bool}{i:Nat}{x:α}(hi:l[i]?=some x)(hx:f x=true):l.any f=true:=Acg.2 ⟨x,Abm hi,hx⟩
theorem Km (N:List Tx)(l:List RItem)(cs:List AV)(idn idi k:Nat)(hE:EL (PI N) l cs)(hl:l.length<=1000)(I:St):ACalls Tryz.prog 134 [Bs N idn l idi cs,sc (.int .i64 k)] I fun r I'=>r=sc (.bool (Cb N l k))/\Keep I I':=by
 have ak:=EL.length Df hE;refine Z9 25 [.tmp 4] Tryz.func134 ?_
 repeat' (first|refine Z1 ?_|(refine Z8 ?_;intro κ hκ)|(refine Z4 ?_;clear hκ κ)|(refine Z2 ?_ ?_<;>intro h ab<;>try exact Xp)|refine Z3 ?_|exact⟨⟩|(apply hκ.out;clear hκ κ))
 refine Ad (fun m s I'=>∃(i:Nat),m=l.length-i/\i<=l.length/\s 1=sc (.int .i64 k)/\s 8=sl idi l.length cs/\s 9=sc (.int .i64 l.length)/\s 10=sc (.int .i64 i)/\Keep I I'/\Aec (Cb N (l.take i) k=false)) l.length
  ⟨0,Ad6,Ad6,rfl,Ad8,Ad8,rfl,Xs,by simp[Aec,Cb]⟩ ?_
 rintro m s I' ⟨i,rfl,hi,h1,h8,h9,am,hK,hA⟩;have aj:=hK.nobj;by_cases af:i<l.length
 ·have aa:=List.getElem?_eq_getElem af;obtain⟨ae,ih,id,b,r,ai,hd⟩:=Fi hE aa;generalize l[i]=x at hd aa ae ai;cases ac:x.out with
  |true=>
   rw[ac]at hd;have HA:Aec (Cb N (l.take (i+1)) k=false):=N0 hA.out aa (by simp[ac]);clear aa hA ac
   repeat' (first|refine Z1 ?_|(refine Z8 ?_;intro κ hκ)|(refine Z4 ?_;clear hκ κ)|(refine Z2 ?_ ?_<;>intro h ab<;>try exact Xp)|refine Z3 ?_|exact⟨⟩|(apply hκ.out;clear hκ κ))
   refine⟨l.length-(i+1),Ad6,i+1,?_⟩
   ((repeat' with_reducible refine And.intro ?_ ?_)<;>first|exact Xq|exact (HA)|exact Xs)
  |false=>
   rw[ac]at hd;by_cases hk:N.idxOf x.head.pred=k
   ·have ad:(((N.idxOf x.head.pred:Nat):Int)==(k:Int))=true:=by simp[hk]
    have HA:Aec (Cb N l k=true):=Yx aa (by simp[ac,hk]);clear aa hA ac hk;generalize N.idxOf x.head.pred=ix at hd ad
    repeat' (first|refine Z1 ?_|(refine Z8 ?_;intro κ hκ)|(refine Z4 ?_;clear hκ κ)|(refine Z2 ?_ ?_<;>intro h ab<;>try exact Xp)|refine Z3 ?_|exact⟨⟩|(apply hκ.out;clear hκ κ))
    exact⟨_,rfl,by rw[HA.out],Xs⟩
   ·have ad:(((N.idxOf x.head.pred:Nat):Int)==(k:Int))=false:=by simpa using (by omega:¬((N.idxOf x.head.pred:Nat):Int)=k)
    have HA:Aec (Cb N (l.take (i+1)) k=false):=N0 hA.out aa (by simp[hk]);clear aa hA ac hk;generalize N.idxOf x.head.pred=ix at hd ad
    repeat' (first|refine Z1 ?_|(refine Z8 ?_;intro κ hκ)|(refine Z4 ?_;clear hκ κ)|(refine Z2 ?_ ?_<;>intro h ab<;>try exact Xp)|refine Z3 ?_|exact⟨⟩|(apply hκ.out;clear hκ κ))
    refine⟨l.length-(i+1),Ad6,i+1,?_⟩
    ((repeat' with_reducible refine And.intro ?_ ?_)<;>first|exact Xq|exact (HA)|exact Xs)
 ·have ah:i=l.length:=Ad6;subst ah;rw[Abt]at hA
  repeat' (first|refine Z1 ?_|(refine Z8 ?_;intro κ hκ)|(refine Z4 ?_;clear hκ κ)|(refine Z2 ?_ ?_<;>intro h ab<;>try exact Xp)|refine Z3 ?_|exact⟨⟩|(apply hκ.out;clear hκ κ))
  first
  |exact⟨_,rfl,by rw[hA.out],hK⟩
  |exact⟨_,rfl,by rw[hA.out]⟩
def Gy (N:List Tx)(l:List RItem)(k:Nat):Bool:=l.any fun x=>decide (N.idxOf x.head.pred=k)||x.body.any fun a=>decide (N.idxOf a.pred=k)
theorem bF (N:List Tx)(l:List RItem)(cs:List AV)(idn idi k:Nat)(hE:EL (PI N) l cs)(hl:l.length<=1000)(aw:∀x∈l,x.body.length<=1000)(I:St):ACalls Tryz.prog 244 [Bs N idn l idi cs,sc (.int .i64 k)] I fun r I'=>r=sc (.bool (Gy N l k))/\Keep I I':=by
 have a0:=EL.length Df hE;refine Z9 35 [.tmp 4] Tryz.func244 ?_
 repeat' (first|refine Z1 ?_|(refine Z8 ?_;intro κ hκ)|(refine Z4 ?_;clear hκ κ)|(refine Z2 ?_ ?_<;>intro h ab<;>try exact Xp)|refine Z3 ?_|exact⟨⟩|(apply hκ.out;clear hκ κ))
 refine Ad (fun m s I'=>∃(i:Nat),m=l.length-i/\i<=l.length/\s 1=sc (.int .i64 k)/\s 10=sl idi l.length cs/\s 11=sc (.int .i64 l.length)/\s 12=sc (.int .i64 i)/\Keep I I'/\Aec (Gy N (l.take i) k=false)) l.length
  ⟨0,Ad6,Ad6,rfl,Ad8,Ad8,rfl,Xs,by simp[Aec,Gy]⟩ ?_
 rintro m s I' ⟨i,rfl,hi,h1,ao,an,am,hK,hA⟩;have aj:=hK.nobj;by_cases ak:i<l.length
 ·have aa:=List.getElem?_eq_getElem ak;have ay:=aw l[i] (Ac2 ak);obtain⟨ap,ih,id,b,r,ai,hd⟩:=Fi hE aa;generalize l[i]=x at hd aa ap ai ay;have ax:=EL.length Eb ai;by_cases hk:N.idxOf x.head.pred=k
  ·have ah:(((N.idxOf x.head.pred:Nat):Int)==(k:Int))=true:=by simp[hk]
   have HA:Aec (Gy N l k=true):=Yx aa (by simp[hk]);clear aa hA hk;generalize N.idxOf x.head.pred=ix at hd ah
   repeat' (first|refine Z1 ?_|(refine Z8 ?_;intro κ hκ)|(refine Z4 ?_;clear hκ κ)|(refine Z2 ?_ ?_<;>intro h ab<;>try exact Xp)|refine Z3 ?_|exact⟨⟩|(apply hκ.out;clear hκ κ))
   exact⟨_,rfl,by rw[HA.out],Xs⟩
  ·have ah:(((N.idxOf x.head.pred:Nat):Int)==(k:Int))=false:=by simpa using (by omega:¬((N.idxOf x.head.pred:Nat):Int)=k)
   have HG:Aec (l[i]?=some x/\¬N.idxOf x.head.pred=k):=⟨aa,hk⟩;clear aa hk;generalize N.idxOf x.head.pred=ix at hd ah
   repeat' (first|refine Z1 ?_|(refine Z8 ?_;intro κ hκ)|(refine Z4 ?_;clear hκ κ)|(refine Z2 ?_ ?_<;>intro h ab<;>try exact Xp)|refine Z3 ?_|exact⟨⟩|(apply hκ.out;clear hκ κ))
   refine Ad (fun m s I2=>∃(j:Nat),m=x.body.length-j/\j<=x.body.length/\s 1=sc (.int .i64 k)/\s 10=sl idi l.length cs/\s 11=sc (.int .i64 l.length)/\s 12=sc (.int .i64 i)/\s 22=sl id x.body.length b/\s 23=sc (.int .i64 x.body.length)/\s 24=sc (.int .i64 j)/\Keep I I2/\Aec ((x.body.take j).any (fun a=>decide (N.idxOf a.pred=k))=false)) x.body.length
    ⟨0,Ad6,Ad6,Ad7,Ad7,Ad7,Ad7,Ad8,Ad8,rfl,Xs,by simp[Aec]⟩ ?_
   clear h1 ao an am hK aj;rintro m s I2 ⟨j,rfl,hj,h1,ao,an,am,a5,a4,a3,hK,hJ⟩;have aj:=hK.nobj;by_cases ae:j<x.body.length
   ·have ac:=List.getElem?_eq_getElem ae;obtain⟨c0,rr,⟨az,ida,rfl⟩,ad⟩:=EL.get Eb ai ac;generalize x.body[j]=a at ac az ad;simp only[Ack,Acm]at ad;by_cases hk:N.idxOf a.pred=k
    ·have af:(((N.idxOf a.pred:Nat):Int)==(k:Int))=true:=by simp[hk]
     have HA:Aec (Gy N l k=true):=Yx HG.out.1 (by
      have:x.body.any (fun a=>decide (N.idxOf a.pred=k))=true:=Yx ac (by simp[hk])
      simp only[this,Bool.or_true])
     clear ac hk hJ hA HG;generalize N.idxOf a.pred=ia at ad af
     repeat' (first|refine Z1 ?_|(refine Z8 ?_;intro κ hκ)|(refine Z4 ?_;clear hκ κ)|(refine Z2 ?_ ?_<;>intro h ab<;>try exact Xp)|refine Z3 ?_|exact⟨⟩|(apply hκ.out;clear hκ κ))
     exact⟨_,rfl,by rw[HA.out],Xs⟩
    ·have af:(((N.idxOf a.pred:Nat):Int)==(k:Int))=false:=by simpa using (by omega:¬((N.idxOf a.pred:Nat):Int)=k)
     have HJ:Aec ((x.body.take (j+1)).any (fun a=>decide (N.idxOf a.pred=k))=false):=N0 hJ.out ac (by simp[hk]);clear ac hk hJ;generalize N.idxOf a.pred=ia at ad af
     repeat' (first|refine Z1 ?_|(refine Z8 ?_;intro κ hκ)|(refine Z4 ?_;clear hκ κ)|(refine Z2 ?_ ?_<;>intro h ab<;>try exact Xp)|refine Z3 ?_|exact⟨⟩|(apply hκ.out;clear hκ κ))
     refine⟨x.body.length-(j+1),Ad6,j+1,?_⟩
     ((repeat' with_reducible refine And.intro ?_ ?_)<;>first|exact Xq|exact (HJ)|exact Xs)
   ·have au:j=x.body.length:=Ad6;subst au;rw[Abt]at hJ;have HA:Aec (Gy N (l.take (i+1)) k=false):=N0 hA.out HG.out.1 (by simp only[hJ.out,Adq];simpa using HG.out.2);clear hJ HG hA
    repeat' (first|refine Z1 ?_|(refine Z8 ?_;intro κ hκ)|(refine Z4 ?_;clear hκ κ)|(refine Z2 ?_ ?_<;>intro h ab<;>try exact Xp)|refine Z3 ?_|exact⟨⟩|(apply hκ.out;clear hκ κ))
    refine⟨l.length-(i+1),Ad6,i+1,?_⟩
    ((repeat' with_reducible refine And.intro ?_ ?_)<;>first|exact Xq|exact (HA)|exact Xs)
 ·have av:i=l.length:=Ad6;subst av;rw[Abt]at hA
  repeat' (first|refine Z1 ?_|(refine Z8 ?_;intro κ hκ)|(refine Z4 ?_;clear hκ κ)|(refine Z2 ?_ ?_<;>intro h ab<;>try exact Xp)|refine Z3 ?_|exact⟨⟩|(apply hκ.out;clear hκ κ))
  first
  |exact⟨_,rfl,by rw[hA.out],hK⟩
  |exact⟨_,rfl,by rw[hA.out]⟩
end Go.Proofs.YtmoeoppbmhfbpabGreatDoorJ
