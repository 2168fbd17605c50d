import Derived.Test.YtmoeoppbmhfbpaaGreatDoorDDocI
set_option maxHeartbeats 64000000
set_option maxRecDepth 100000
set_option linter.all false
namespace Go.Proofs.YtmoeoppbmhfbpaaGreatDoorD
open Go.Abs
def Lo (l:List RItem):Bool:=decide (l.length<=16)&&(l.all (fun x=>decide (x.body.length<=5))&&decide ((Cr l).length<=600))
theorem qS {N:List Tx}{x:RItem}(h:Msr N x):(Cb x++[46]).length<=8000000:=by
 have h1:=h.hpl;cases aa:x.out with
 |true=>rw[Cb,if_pos aa];simp;omega
 |false=>
  have hh:=L6 (h.at_ x.head (Aq (.inl ⟨aa,rfl⟩)));have hl:∀ls:List RAtom,(∀a∈ls,a.terms.length<=3/\a.pred.length<=1000/\∀t∈a.terms,UT t)->(Cd (ls.map Ch)).length<=ls.length*6002:=by
   intro ls;induction ls with
   |nil=>intro _;simp[Cd]
   |cons a ls ih=>
    intro g;have h1:=ih fun b hb=>g b (by simp[hb]);have h2:=L6 (g a (by simp));have h3:(Ch a).length<=6001:=by unfold Ch;split<;>simp<;>omega
    unfold Cd at*
    simp only[Ad7,Ae0,Aeb,Aem];omega
  have hu:(Bj (x.body.map Ch)).length<=x.body.length*6002:=by
   have:=hl x.body fun a ha=>h.at_ a (Aq (.inr ha));cases hb:x.body with
   |nil=>simp[Bj]
   |cons a ls=>
    rw[hb]at this;have e:Cd ((a::ls).map Ch)=44::Bj ((a::ls).map Ch):=by simp[Cd,Bj]
    rw[e]at this;simp only[Aem]at this⊢;omega
  have hb:=h.body;rw[Cb,if_neg (by simp[aa]),Dz];split<;>simp<;>omega
def PJ (N:List Tx)(x:RItem)(c:List AV):Prop:=(PI N x c/\Msr N x)\/(5<x.body.length/\x.body.length<=1000/\∃(o:Bool) (p:Int) (ih n1:Nat) (tc:List AV) (ib:Nat) (b:List AV),c=[sc (.bool o),sc (.int .i64 p),sl ih n1 tc,sl ib x.body.length b])
theorem xW {N:List Tx}(x:RItem)(c:List AV)(h:PJ N x c):c.length=4:=by
 rcases h with⟨h,-⟩|⟨-,-,_,_,_,_,_,_,_,rfl⟩
 ·exact Gg x c h
 ·rfl
theorem yF {α:Type}{E E':α->List AV->Prop}:∀{l:List α} {cs:List AV},EL E l cs->(∀a∈l,∀c,E a c->E' a c)->EL E' l cs
 |[],_,h,_=>h
 |a::l,_,⟨c,d,h1,h2,e⟩,g=>⟨c,d,g a (by simp) c h1,yF h2 (fun b hb=>g b (by simp[hb])),e⟩
theorem Wr (N:List Tx)(l:List RItem)(cs:List AV)(idn idi:Nat)(hE:EL (PJ N) l cs)(hN:N.length<=2000)(hl:l.length<=1000)(u:St):ACalls Tryz.prog 230 [C8 N idn l idi cs] u fun r u'=>r=sc (.bool (Lo l))/\Keep u u':=by
 have ax:=EL.length xW hE;by_cases az:16<l.length
 ·have hb:decide ((16:Int)<(l.length:Int))=true:=by simp;omega
  have HL:Agt (Lo l=false):=by rw[Agt,Lo,Agk Agm];rfl
  refine Z9 30 [.tmp 2] Tryz.func230 ?_
  repeat' first|refine Z1 ?_|refine Z8 fun ya J=>?_|refine Z4 ?_;clear J ya|refine Z2 ?_ ?_<;>intro h ab<;>try exact Xp|refine Z3 ?_|exact Zt|apply J.out;clear J ya
  exact⟨_,rfl,by rw[HL.out],Xs⟩
 ·have hb:decide ((16:Int)<(l.length:Int))=false:=by simp;omega
  refine Z9 30 [.tmp 2] Tryz.func230 ?_
  repeat' first|refine Z1 ?_|refine Z8 fun ya J=>?_|refine Z4 ?_;clear J ya|refine Z2 ?_ ?_<;>intro h ab<;>try exact Xp|refine Z3 ?_|exact Zt|apply J.out;clear J ya
  refine Ad (fun m s u'=>∃(i n:Nat),m=l.length-i/\i<=l.length/\s 1=ptr u.nobj 0/\s 3=sc (.int .i64 n)/\s 11=sl idi l.length cs/\s 12=sc (.int .i64 l.length)/\s 13=sc (.int .i64 i)/\Keep u u'/\u.nobj<u'.nobj/\u'.obj u.nobj=[sl idn N.length (N.map str),sl idi l.length cs]/\n<=i*8000000/\Agt (n=(Cr (l.take i)).length/\∀x∈l.take i,x.body.length<=5)) l.length
   ⟨0,0,Agm,Agm,Ago,Ago,Ago,Ago,rfl,Xs,Agq,Al,by simp,by simp[Agt,Cr]⟩ ?_
  rintro m s u' ⟨i,n,rfl,hi,h1,h3,a4,a3,a0,hK,av,ak,aw,hA⟩;have au:=hK.nobj;by_cases am:i<l.length
  ·have aa:=Adn am;obtain⟨c,r,ac,hd⟩:=EL.get xW hE aa;generalize l[i]=x at hd aa ac;have ao:∃(o:Bool) (p:Int) (ih n1:Nat) (tc:List AV) (ib:Nat) (b:List AV),c=[sc (.bool o),sc (.int .i64 p),sl ih n1 tc,sl ib x.body.length b]:=by
    rcases ac with⟨⟨-,ih,id,b,-,rfl⟩,-⟩|⟨-,-,h⟩
    ·exact⟨_,_,_,_,_,_,_,rfl⟩
    ·exact h
   have ay:x.body.length<=1000:=by
    rcases ac with⟨-,h⟩|⟨-,h,-⟩
    ·exact h.body
    ·exact h
   obtain⟨xo,xp,ih,xn,xt,id,b,rfl⟩:=ao;simp only[Ae6,Ae8]at hd;by_cases h5:5<x.body.length
   ·have ap:decide ((5:Int)<(x.body.length:Int))=true:=by simp;omega
    have HL:Agt (Lo l=false):=by
     have:l.all (fun x=>decide (x.body.length<=5))=false:=by
      rw[Afu];exact⟨x,Adp aa,by simp;omega⟩
     rw[Agt,Lo,this];simp
    clear aa hA ac
    repeat' first|refine Z1 ?_|refine Z8 fun ya J=>?_|refine Z4 ?_;clear J ya|refine Z2 ?_ ?_<;>intro h ab<;>try exact Xp|refine Z3 ?_|exact Zt|apply J.out;clear J ya
    exact⟨_,rfl,by rw[HL.out],Xs⟩
   ·obtain⟨ah,hw⟩:=ac.resolve_right (fun h=>h5 h.1);have ai:=fun u=>sE N idn x _ ah hN hw u;have aj:=qS hw;clear ac ah;have ap:decide ((5:Int)<(x.body.length:Int))=false:=by simp;omega
    have HA:Agt (n+(Cb x++[46]).length=(Cr (l.take (i+1))).length/\∀x∈l.take (i+1),x.body.length<=5):=by
     rw[Agt,Ad0,aa,Aez,hA.out.1];refine⟨by simp[Cr],fun y hy=>?_⟩;rcases Aet.1 hy with hy|hy
     ·exact hA.out.2 y hy
     ·simp at hy;subst hy;omega
    clear aa hA hw h5;generalize (Cb x++[46]).length=xl at ai aj HA
    repeat' first|refine Z1 ?_|refine Z8 fun ya J=>?_|refine Z4 ?_;clear J ya|refine Z2 ?_ ?_<;>intro h ab<;>try exact Xp|refine Z5 ?_;refine Xi (ai _) ?_;rintro _ _ ⟨rfl,af⟩;(have ae:=af.nobj;have ad:=af.obj;simp only[Ac,Aa]at ae ad)|refine Z3 ?_|exact Zt|apply J.out;clear J ya
    refine⟨l.length-(i+1),Agm,i+1,n+xl,?_⟩
    ((repeat' refine Zi ?_ ?_)<;>first|exact Xq|exact (((hK.new _).put hK.nobj _).trans af)|exact HA|exact (by rw[ad _ Agm,Ak Agm,Ah Agm,ak])|exact Xs)
  ·have an:i=l.length:=Agm;subst an;have HL:Agt (Lo l=decide ((n:Int)<=600)):=by
    have h:=hA.out;rw[Adu]at h;rw[Agt,Lo,Agl Agm,Ado.2 (fun x hx=>Agl (h.2 x hx)),<-h.1];simp only[Afb];congr 1;apply propext;omega
   clear hA
   repeat' first|refine Z1 ?_|refine Z8 fun ya J=>?_|refine Z4 ?_;clear J ya|refine Z2 ?_ ?_<;>intro h ab<;>try exact Xp|refine Z3 ?_|exact Zt|apply J.out;clear J ya
   first
   |exact⟨_,rfl,by rw[HL.out],hK⟩
   |exact⟨_,rfl,by rw[HL.out]⟩
def D7 (N:List Tx)(l:List RItem)(k:Nat):Bool:=l.any fun x=>!x.out&&decide (N.idxOf x.head.pred=k)
theorem P1 {α:Type}{l:List α}{f:α->Bool}{i:Nat}{x:α}(h:(l.take i).any f=false)(hi:l[i]?=some x)(hx:f x=false):(l.take (i+1)).any f=false:=by
 rw[Ad0,hi,Aez,Afv,h];simp[hx]
theorem cQ {α:Type}{l:List α}{f:α->Bool}{i:Nat}{x:α}(hi:l[i]?=some x)(hx:f x=true):l.any f=true:=Aer.2 ⟨x,Adp hi,hx⟩
theorem Q1 (N:List Tx)(l:List RItem)(cs:List AV)(idn idi k:Nat)(hE:EL (PI N) l cs)(hl:l.length<=1000)(u:St):ACalls Tryz.prog 127 [C8 N idn l idi cs,sc (.int .i64 k)] u fun r u'=>r=sc (.bool (D7 N l k))/\Keep u u':=by
 have ak:=EL.length Gg hE;refine Z9 25 [.tmp 4] Tryz.func127 ?_
 refine zz ?_
 refine Ad (fun m s u'=>∃(i:Nat),m=l.length-i/\i<=l.length/\s 1=sc (.int .i64 k)/\s 8=sl idi l.length cs/\s 9=sc (.int .i64 l.length)/\s 10=sc (.int .i64 i)/\Keep u u'/\Agt (D7 N (l.take i) k=false)) l.length
  ⟨0,Agm,Agm,rfl,Ago,Ago,rfl,Xs,by simp[Agt,D7]⟩ ?_
 rintro m s u' ⟨i,rfl,hi,h1,h8,h9,am,hK,hA⟩;have aj:=hK.nobj;by_cases af:i<l.length
 ·have aa:=Adn af;obtain⟨ae,ih,id,b,r,ai,hd⟩:=J6 hE aa;generalize l[i]=x at hd aa ae ai;cases ab:x.out with
  |true=>
   rw[ab]at hd;have HA:Agt (D7 N (l.take (i+1)) k=false):=P1 hA.out aa (by simp[ab]);clear aa hA ab
   repeat' first|refine Z1 ?_|refine Z8 fun ya J=>?_|refine Z4 ?_;clear J ya|refine Z2 ?_ ?_<;>intro h ac<;>try exact Xp|refine Z3 ?_|exact Zt|apply J.out;clear J ya
   refine⟨l.length-(i+1),Agm,i+1,?_⟩
   ((repeat' refine Zi ?_ ?_)<;>first|exact Xq|exact HA|exact Xs)
  |false=>
   rw[ab]at hd;by_cases hk:N.idxOf x.head.pred=k
   ·have ad:(((N.idxOf x.head.pred:Nat):Int)==(k:Int))=true:=by simp[hk]
    have HA:Agt (D7 N l k=true):=cQ aa (by simp[ab,hk]);clear aa hA ab hk;generalize N.idxOf x.head.pred=ix at hd ad
    repeat' first|refine Z1 ?_|refine Z8 fun ya J=>?_|refine Z4 ?_;clear J ya|refine Z2 ?_ ?_<;>intro h ac<;>try exact Xp|refine Z3 ?_|exact Zt|apply J.out;clear J ya
    exact⟨_,rfl,by rw[HA.out],Xs⟩
   ·have ad:(((N.idxOf x.head.pred:Nat):Int)==(k:Int))=false:=by simpa using (by omega:¬((N.idxOf x.head.pred:Nat):Int)=k)
    have HA:Agt (D7 N (l.take (i+1)) k=false):=P1 hA.out aa (by simp[hk]);clear aa hA ab hk;generalize N.idxOf x.head.pred=ix at hd ad
    repeat' first|refine Z1 ?_|refine Z8 fun ya J=>?_|refine Z4 ?_;clear J ya|refine Z2 ?_ ?_<;>intro h ac<;>try exact Xp|refine Z3 ?_|exact Zt|apply J.out;clear J ya
    refine⟨l.length-(i+1),Agm,i+1,?_⟩
    ((repeat' refine Zi ?_ ?_)<;>first|exact Xq|exact HA|exact Xs)
 ·have ah:i=l.length:=Agm;subst ah;rw[Adu]at hA
  repeat' first|refine Z1 ?_|refine Z8 fun ya J=>?_|refine Z4 ?_;clear J ya|refine Z2 ?_ ?_<;>intro h ac<;>try exact Xp|refine Z3 ?_|exact Zt|apply J.out;clear J ya
  first
  |exact⟨_,rfl,by rw[hA.out],hK⟩
  |exact⟨_,rfl,by rw[hA.out]⟩
def He (N:List Tx)(l:List RItem)(k:Nat):Bool:=l.any fun x=>decide (N.idxOf x.head.pred=k)||x.body.any fun a=>decide (N.idxOf a.pred=k)
theorem gD (N:List Tx)(l:List RItem)(cs:List AV)(idn idi k:Nat)(hE:EL (PI N) l cs)(hl:l.length<=1000)(aw:∀x∈l,x.body.length<=1000)(u:St):ACalls Tryz.prog 261 [C8 N idn l idi cs,sc (.int .i64 k)] u fun r u'=>r=sc (.bool (He N l k))/\Keep u u':=by
 have az:=EL.length Gg hE;refine Z9 35 [.tmp 4] Tryz.func261 ?_
 refine zz ?_
 refine Ad (fun m s u'=>∃(i:Nat),m=l.length-i/\i<=l.length/\s 1=sc (.int .i64 k)/\s 10=sl idi l.length cs/\s 11=sc (.int .i64 l.length)/\s 12=sc (.int .i64 i)/\Keep u u'/\Agt (He N (l.take i) k=false)) l.length
  ⟨0,Agm,Agm,rfl,Ago,Ago,rfl,Xs,by simp[Agt,He]⟩ ?_
 rintro m s u' ⟨i,rfl,hi,h1,ao,an,am,hK,hA⟩;have aj:=hK.nobj;by_cases ak:i<l.length
 ·have aa:=Adn ak;have ay:=aw l[i] (Aes ak);obtain⟨ap,ih,id,b,r,ai,hd⟩:=J6 hE aa;generalize l[i]=x at hd aa ap ai ay;have ax:=EL.length Fe ai;by_cases hk:N.idxOf x.head.pred=k
  ·have ah:(((N.idxOf x.head.pred:Nat):Int)==(k:Int))=true:=by simp[hk]
   have HA:Agt (He N l k=true):=cQ aa (by simp[hk]);clear aa hA hk;generalize N.idxOf x.head.pred=ix at hd ah
   repeat' first|refine Z1 ?_|refine Z8 fun ya J=>?_|refine Z4 ?_;clear J ya|refine Z2 ?_ ?_<;>intro h ab<;>try exact Xp|refine Z3 ?_|exact Zt|apply J.out;clear J ya
   exact⟨_,rfl,by rw[HA.out],Xs⟩
  ·have ah:(((N.idxOf x.head.pred:Nat):Int)==(k:Int))=false:=by simpa using (by omega:¬((N.idxOf x.head.pred:Nat):Int)=k)
   have HG:Agt (l[i]?=some x/\¬N.idxOf x.head.pred=k):=⟨aa,hk⟩;clear aa hk;generalize N.idxOf x.head.pred=ix at hd ah
   repeat' first|refine Z1 ?_|refine Z8 fun ya J=>?_|refine Z4 ?_;clear J ya|refine Z2 ?_ ?_<;>intro h ab<;>try exact Xp|refine Z3 ?_|exact Zt|apply J.out;clear J ya
   refine Ad (fun m s u2=>∃(j:Nat),m=x.body.length-j/\j<=x.body.length/\s 1=sc (.int .i64 k)/\s 10=sl idi l.length cs/\s 11=sc (.int .i64 l.length)/\s 12=sc (.int .i64 i)/\s 22=sl id x.body.length b/\s 23=sc (.int .i64 x.body.length)/\s 24=sc (.int .i64 j)/\Keep u u2/\Agt ((x.body.take j).any (fun a=>decide (N.idxOf a.pred=k))=false)) x.body.length
    ⟨0,Agm,Agm,Agn,Agn,Agn,Agn,Ago,Ago,rfl,Xs,by simp[Agt]⟩ ?_
   clear h1 ao an am hK aj;rintro m s u2 ⟨j,rfl,hj,h1,ao,an,am,a4,a3,a0,hK,hJ⟩;have aj:=hK.nobj;by_cases ae:j<x.body.length
   ·have ac:=Adn ae;obtain⟨c0,rr,⟨hap,ida,rfl⟩,ad⟩:=EL.get Fe ai ac;generalize x.body[j]=a at ac hap ad;simp only[Ae6,Ae8]at ad;by_cases hk:N.idxOf a.pred=k
    ·have af:(((N.idxOf a.pred:Nat):Int)==(k:Int))=true:=by simp[hk]
     have HA:Agt (He N l k=true):=cQ HG.out.1 (by
      have:x.body.any (fun a=>decide (N.idxOf a.pred=k))=true:=cQ ac (by simp[hk])
      simp only[this,Bool.or_true])
     clear ac hk hJ hA HG;generalize N.idxOf a.pred=ia at ad af
     repeat' first|refine Z1 ?_|refine Z8 fun ya J=>?_|refine Z4 ?_;clear J ya|refine Z2 ?_ ?_<;>intro h ab<;>try exact Xp|refine Z3 ?_|exact Zt|apply J.out;clear J ya
     exact⟨_,rfl,by rw[HA.out],Xs⟩
    ·have af:(((N.idxOf a.pred:Nat):Int)==(k:Int))=false:=by simpa using (by omega:¬((N.idxOf a.pred:Nat):Int)=k)
     have HJ:Agt ((x.body.take (j+1)).any (fun a=>decide (N.idxOf a.pred=k))=false):=P1 hJ.out ac (by simp[hk]);clear ac hk hJ;generalize N.idxOf a.pred=ia at ad af
     repeat' first|refine Z1 ?_|refine Z8 fun ya J=>?_|refine Z4 ?_;clear J ya|refine Z2 ?_ ?_<;>intro h ab<;>try exact Xp|refine Z3 ?_|exact Zt|apply J.out;clear J ya
     refine⟨x.body.length-(j+1),Agm,j+1,?_⟩
     ((repeat' refine Zi ?_ ?_)<;>first|exact Xq|exact HJ|exact Xs)
   ·have au:j=x.body.length:=Agm;subst au;rw[Adu]at hJ;have HA:Agt (He N (l.take (i+1)) k=false):=P1 hA.out HG.out.1 (by simp only[hJ.out,Bool.or_false];simpa using HG.out.2);clear hJ HG hA
    repeat' first|refine Z1 ?_|refine Z8 fun ya J=>?_|refine Z4 ?_;clear J ya|refine Z2 ?_ ?_<;>intro h ab<;>try exact Xp|refine Z3 ?_|exact Zt|apply J.out;clear J ya
    refine⟨l.length-(i+1),Agm,i+1,?_⟩
    ((repeat' refine Zi ?_ ?_)<;>first|exact Xq|exact HA|exact Xs)
 ·have av:i=l.length:=Agm;subst av;rw[Adu]at hA
  repeat' first|refine Z1 ?_|refine Z8 fun ya J=>?_|refine Z4 ?_;clear J ya|refine Z2 ?_ ?_<;>intro h ab<;>try exact Xp|refine Z3 ?_|exact Zt|apply J.out;clear J ya
  first
  |exact⟨_,rfl,by rw[hA.out],hK⟩
  |exact⟨_,rfl,by rw[hA.out]⟩
def Q8 (N:List Tx)(l' l:List RItem):Bool:=(List.range N.length).any fun k=>(D7 N l k&&!D7 N l' k)&&He N l' k
theorem T8 (f:Nat->Bool)(k:Nat):(List.range (k+1)).any f=((List.range k).any f||f k):=by
 rw[List.range_succ,Afv];simp
theorem lY (N:List Tx)(l l':List RItem)(cs cs':List AV)(idn idn' idi idi':Nat)(hE:EL (PI N) l cs)(ax:EL (PI N) l' cs')(hN:N.length<=2000)(hl:l.length<=1000)(av:l'.length<=1000)(a0:∀x∈l',x.body.length<=1000)(u:St):
  ACalls Tryz.prog 231 [C8 N idn' l' idi' cs',C8 N idn l idi cs] u fun r u'=>r=sc (.bool (Q8 N l' l))/\Keep u u':=by
 have hR:=fun k u=>Q1 N l cs idn idi k hE hl u;have ak:=fun k u=>Q1 N l' cs' idn' idi' k ax av u;have am:=fun k u=>gD N l' cs' idn' idi' k ax av a0 u;refine Z9 27 [.tmp 4] Tryz.func231 ?_
 refine zz ?_
 refine Ad (fun m s u'=>∃(k:Nat),m=N.length-k/\k<=N.length/\s 2=ptr u.nobj 0/\s 3=ptr (u.nobj+1) 0/\s 7=sl idn' N.length (N.map str)/\s 8=sc (.int .i64 N.length)/\s 9=sc (.int .i64 k)/\Keep u u'/\u.nobj+1<u'.nobj/\u'.obj u.nobj=[sl idn' N.length (N.map str),sl idi' l'.length cs']/\u'.obj (u.nobj+1)=[sl idn N.length (N.map str),sl idi l.length cs]/\Agt ((List.range k).any (fun k=>(D7 N l k&&!D7 N l' k)&&He N l' k)=false)) N.length
  ⟨0,Agm,Agm,Ago,Ago,Ago,Ago,rfl,Xs,Agq,by rw[Ah Agq,Al],Al,by simp[Agt]⟩ ?_
 rintro m s u' ⟨k,rfl,hk,h2,h3,h7,h8,h9,hK,a5,ao,an,hA⟩;have a4:=hK.nobj;by_cases ay:k<N.length
 ·have hR:=hR k;have ak:=ak k;have am:=am k;have au:=T8 (fun k=>(D7 N l k&&!D7 N l' k)&&He N l' k) k;rw[hA.out]at au;have aw:(D7 N l k&&!D7 N l' k&&He N l' k)=true->Q8 N l' l=true:=fun h=>Aer.2 ⟨k,by simpa using ay,h⟩;generalize D7 N l k=r1 at*
  generalize D7 N l' k=r2 at*
  generalize He N l' k=r3 at*
  have HS:Agt _:=au;have HI:Agt _:=aw;clear au aw hA;cases r1 with
  |false=>
   have HA:=HS.out;simp only[Bool.false_and,Bool.or_false]at HA;have HB:Agt _:=HA;clear HA HS HI
   repeat' first|refine Z1 ?_|refine Z8 fun ya J=>?_|refine Z4 ?_;clear J ya|refine Z2 ?_ ?_<;>intro h ae<;>try exact Xp|refine Z5 ?_;refine Xi (hR _) ?_;rintro _ _ ⟨rfl,ab⟩;(have ah:=ab.nobj;have aa:=ab.obj)|refine Z3 ?_|exact Zt|apply J.out;clear J ya
   refine⟨N.length-(k+1),Agm,k+1,?_⟩
   ((repeat' refine Zi ?_ ?_)<;>first|exact Xq|exact HB|exact (hK.trans ab)|exact (by rw[aa _ Agm,ao])|exact (by rw[aa _ Agm,an])|exact Xs)
  |true=>
   cases r2 with
   |true=>
    have HA:=HS.out;simp only[Afb,Aej,Bool.false_and,Bool.or_false]at HA;have HB:Agt _:=HA;clear HA HS HI
    repeat' first|refine Z1 ?_|refine Z8 fun ya J=>?_|refine Z4 ?_;clear J ya|refine Z2 ?_ ?_<;>intro h ae<;>try exact Xp|(refine Z5 ?_;first|(refine Xi (hR _) ?_;rintro _ _ ⟨rfl,ab⟩;(have ah:=ab.nobj;have aa:=ab.obj))|(refine Xi (ak _) ?_;rintro _ _ ⟨rfl,ad⟩;(have aj:=ad.nobj;have ac:=ad.obj)))|refine Z3 ?_|exact Zt|apply J.out;clear J ya
    refine⟨N.length-(k+1),Agm,k+1,?_⟩
    ((repeat' refine Zi ?_ ?_)<;>first|exact Xq|exact HB|exact ((hK.trans ab).trans ad)|exact (by rw[ac _ Agm,aa _ Agm,ao])|exact (by rw[ac _ Agm,aa _ Agm,an])|exact Xs)
   |false=>
    cases r3 with
    |false=>
     have HA:=HS.out;simp only[Afb,Aen,Bool.and_false,Bool.or_false]at HA;have HB:Agt _:=HA;clear HA HS HI
     repeat' first|refine Z1 ?_|refine Z8 fun ya J=>?_|refine Z4 ?_;clear J ya|refine Z2 ?_ ?_<;>intro h ae<;>try exact Xp|(refine Z5 ?_;first|(refine Xi (hR _) ?_;rintro _ _ ⟨rfl,ab⟩;(have ah:=ab.nobj;have aa:=ab.obj))|(refine Xi (ak _) ?_;rintro _ _ ⟨rfl,ad⟩;(have aj:=ad.nobj;have ac:=ad.obj))|(refine Xi (am _) ?_;rintro _ _ ⟨rfl,ai⟩;(have ap:=ai.nobj;have af:=ai.obj)))|refine Z3 ?_|exact Zt|apply J.out;clear J ya
     refine⟨N.length-(k+1),Agm,k+1,?_⟩
     ((repeat' refine Zi ?_ ?_)<;>first|exact Xq|exact HB|exact (((hK.trans ab).trans ad).trans ai)|exact (by rw[af _ Agm,ac _ Agm,aa _ Agm,ao])|exact (by rw[af _ Agm,ac _ Agm,aa _ Agm,an])|exact Xs)
    |true=>
     have HL:Agt (Q8 N l' l=true):=HI.out rfl;clear HS HI
     repeat' first|refine Z1 ?_|refine Z8 fun ya J=>?_|refine Z4 ?_;clear J ya|refine Z2 ?_ ?_<;>intro h ae<;>try exact Xp|(refine Z5 ?_;first|(refine Xi (hR _) ?_;rintro _ _ ⟨rfl,ab⟩;(have ah:=ab.nobj;have aa:=ab.obj))|(refine Xi (ak _) ?_;rintro _ _ ⟨rfl,ad⟩;(have aj:=ad.nobj;have ac:=ad.obj))|(refine Xi (am _) ?_;rintro _ _ ⟨rfl,ai⟩;(have ap:=ai.nobj;have af:=ai.obj;have a3:=((hK.trans ab).trans ad).trans ai)))|refine Z3 ?_|exact Zt|apply J.out;clear J ya
     first|exact⟨_,rfl,by rw[HL.out],a3⟩|exact⟨_,rfl,by rw[HL.out]⟩
 ·have az:k=N.length:=Agm;have HL:Agt (Q8 N l' l=false):=by
   have:=hA.out;rw[az]at this;exact this
  clear hA
  repeat' first|refine Z1 ?_|refine Z8 fun ya J=>?_|refine Z4 ?_;clear J ya|refine Z2 ?_ ?_<;>intro h ae<;>try exact Xp|refine Z3 ?_|exact Zt|apply J.out;clear J ya
  first|exact⟨_,rfl,by rw[HL.out],hK⟩|exact⟨_,rfl,by rw[HL.out]⟩
structure BkM (N:List Tx)(l:List RItem)(cs:List AV):Prop where
 el:EL (PI N) l cs
 len:l.length<=1000
 nm:N.length<=2000
 msr:∀x∈l,Msr N x
 fits:∀x∈l,x.fits
 pos:∀x∈l,∀a∈Ae x,0<a.terms.length
 va:∀x∈l,∀a∈Ae x,VA a
theorem BkM.bk {N:List Tx}{l:List RItem}{cs:List AV}(h:BkM N l cs)(hl:l.length<=16):Bk N l cs:=⟨h.el,hl,h.fits,fun x hx=>(h.msr x hx).out,h.nm,h.pos⟩
def En (N:List Tx)(l l':List RItem):Bool:=Lo l'&&(!Q8 N l' l&&((Cf l').1==0))
structure BkJ (N:List Tx)(l:List RItem)(cs:List AV):Prop where
 pj:EL (PJ N) l cs
 len:l.length<=1000
 bk:Lo l=true->BkM N l cs
theorem BkM.bj {N:List Tx}{l:List RItem}{cs:List AV}(h:BkM N l cs):BkJ N l cs:=⟨yF h.el fun x hx c hc=>.inl ⟨hc,h.msr x hx⟩,h.len,fun _=>h⟩
theorem Lx (N:List Tx)(l l':List RItem)(cs cs':List AV)(idn idi idi':Nat)(hB:BkM N l cs)(ad:BkJ N l' cs')(u:St):
  ACalls Tryz.prog 193 [C8 N idn l idi cs,sl idi' l'.length cs'] u fun r u'=>(∃x,r=tp [x,sc (.bool (En N l l'))]/\(En N l l'=true->x=C8 N idn l' idi' cs')/\(∃id1 n1 c1 id2 n2 c2,x=ag [sl id1 n1 c1,sl id2 n2 c2]))/\Keep u u':=by
 have ai:=fun u=>Wr N l' cs' idn idi' ad.pj hB.nm ad.len u;cases ac:Lo l' with
 |false=>
  have af:En N l l'=false:=by unfold En;rw[ac];rfl
  rw[ac]at ai;rw[af];refine Z9 30 [.cell 4 66,.tmp 5] Tryz.func193 ?_
  repeat' first|refine Z1 ?_|refine Z8 fun ya J=>?_|refine Z4 ?_;clear J ya|refine Z2 ?_ ?_<;>intro h ah<;>try exact Xp|refine Z5 ?_;refine Xi (ai _) ?_;rintro _ _ ⟨rfl,ae⟩;(have ab:=ae.nobj;have aa:=ae.obj;(try simp only[Aa,Ac]at ab aa))|refine Z3 ?_|exact Zt|apply J.out;clear J ya
  exact⟨_,rfl,⟨_,rfl,(fun h=>by cases h),1,0,[],1,0,[],rfl⟩,Xs⟩
 |true=>
  rw[ac]at ai;have ad:=ad.bk ac;have am:=fun u=>lY N l l' cs cs' idn idn idi idi' hB.el ad.el hB.nm hB.len ad.len (fun x hx=>(ad.msr x hx).body) u;have ap:l'.length<=16:=by
   unfold Lo at ac;simp only[Adr,Age]at ac;exact ac.1
  cases ak:Q8 N l' l with
  |true=>
   have af:En N l l'=false:=by unfold En;rw[ac,ak];rfl
   rw[ak]at am;rw[af];refine Z9 30 [.cell 4 66,.tmp 5] Tryz.func193 ?_
   repeat' first|refine Z1 ?_|refine Z8 fun ya J=>?_|refine Z4 ?_;clear J ya|refine Z2 ?_ ?_<;>intro h ah<;>try exact Xp|(refine Z5 ?_;first|(refine Xi (ai _) ?_;rintro _ _ ⟨rfl,ae⟩;(have ab:=ae.nobj;have aa:=ae.obj;(try simp only[Aa,Ac]at ab aa)))|(refine Xi (am _) ?_;rintro _ _ ⟨rfl,aj⟩;(have ao:=aj.nobj;have an:=aj.obj)))|refine Z3 ?_|exact Zt|apply J.out;clear J ya
   exact⟨_,rfl,⟨_,rfl,(fun h=>by cases h),1,0,[],1,0,[],rfl⟩,Xs⟩
  |false=>
   have af:En N l l'=((Cf l').1==0):=by unfold En;rw[ac,ak];simp
   rw[ak]at am;rw[af];have hF:=fun u=>U8 N l' cs' idn idi' (ad.bk ap) ad.va u;generalize Cf l'=wm at hF;obtain⟨w1,w2⟩:=wm;clear af;refine Z9 30 [.cell 4 66,.tmp 5] Tryz.func193 ?_
   repeat' first|refine Z1 ?_|refine Z8 fun ya J=>?_|refine Z4 ?_;clear J ya|refine Z2 ?_ ?_<;>intro h ah<;>try exact Xp|(refine Z5 ?_;first|(refine Xi (ai _) ?_;rintro _ _ ⟨rfl,ae⟩;(have ab:=ae.nobj;have aa:=ae.obj;(try simp only[Aa,Ac]at ab aa)))|(refine Xi (am _) ?_;rintro _ _ ⟨rfl,aj⟩;(have ao:=aj.nobj;have an:=aj.obj))|(refine Xi (hF _) ?_;rintro _ _ ⟨rfl,au⟩;(have aw:=au.nobj;have av:=au.obj)))|refine Z3 ?_|exact Zt|apply J.out;clear J ya
   exact⟨_,rfl,⟨_,rfl,fun _=>rfl,_,_,_,_,_,_,rfl⟩,Xs⟩
def rpl {α:Type}(n:Nat)(o:List α)(l:List α):List α:=l.zipIdx.flatMap fun p=>if p.2=n then o else [p.1]
theorem fQ {α:Type}{n:Nat}{o l:List α}{i:Nat}{x:α}(h:l[i]?=some x):rpl n o (l.take (i+1))=rpl n o (l.take i)++if i=n then o else [x]:=by
 have hi:=(Adm.1 h).1;unfold rpl;rw[Ad0,h,Aez,List.zipIdx_append,Aey,Aec,Aeh Agm];simp
theorem oX {α:Type}{n:Nat}{o:List α}(l:List α):∀i,(rpl n o (l.take i)).length<=i*(o.length+1)
 |0=>by simp[rpl]
 |i+1=>by
  have ih:=oX l i (n:=n) (o:=o);cases h:l[i]? with
  |none=>
   rw[Ad0,h,Option.toList_none,Ad4];rw[Ad9];omega
  |some x=>
   rw[fQ h,Aeb,Ad9];split<;>simp<;>omega
def Itm (c:List AV):Prop:=∃(o:Bool) (p:Int) (ih n1:Nat) (tc:List AV) (ib n2:Nat) (b:List AV),c=[sc (.bool o),sc (.int .i64 p),sl ih n1 tc,sl ib n2 b]
theorem xX {N:List Tx}{x:RItem}{c:List AV}(h:PI N x c):Itm c:=by
 obtain⟨-,ih,id,b,-,rfl⟩:=h;exact⟨_,_,_,_,_,_,_,_,rfl⟩
theorem gA {α:Type}{E:α->List AV->Prop}(hz:∀x c,E x c->Itm c)(N:List Tx)(l o:List α)(cs co:List AV)(idn idi ido n:Nat)(hE:EL E l cs)(az:EL E o co)(hl:l.length<=1000)(ho:o.length<=1000)(u:St):
  ACalls Tryz.prog 194 [ag [sl idn N.length (N.map str),sl idi l.length cs],sl ido o.length co,sc (.int .i64 n)] u fun r u'=>(∃id c',r=sl id (rpl n o l).length c'/\EL E (rpl n o l) c')/\Keep u u':=by
 have h4:∀x c,E x c->c.length=4:=fun x c h=>by obtain⟨_,_,_,_,_,_,_,_,rfl⟩:=hz x c h;rfl
 have bm:=EL.length h4 hE;have bi:=EL.length h4 az;refine Z9 41 [.tmp 6] Tryz.func194 ?_
 refine zz ?_
 refine Ad (fun m s u'=>∃(i id:Nat) (R:List α) (c:List AV),m=l.length-i/\i<=l.length/\s 1=sl ido o.length co/\s 2=sc (.int .i64 n)/\s 7=sl id R.length c/\s 14=sl idi l.length cs/\s 15=sc (.int .i64 l.length)/\s 16=sc (.int .i64 i)/\Keep u u'/\Own u u' id R.length/\c.length=R.length*4/\R.length<=i*(o.length+1)/\Agt (R=rpl n o (l.take i)/\EL E R c)) l.length
  ⟨0,1,[],[],Agm,Agm,rfl,rfl,Ago,Ago,Ago,rfl,Xs,Own.nil _ _,by simp,by simp,⟨by simp[rpl],rfl⟩⟩ ?_
 rintro m s u' ⟨i,id,R,c,rfl,hi,h1,h2,h7,a4,a3,a0,hK,hO,ae,be,hA⟩;have ax:=hK.nobj;by_cases ba:i<l.length
 ·have aa:=Adn ba;obtain⟨c1,r,an,hd⟩:=EL.get h4 hE aa;generalize l[i]=x at hd aa an;obtain⟨x1,x2,x3,x4,x5,x6,x7,x8,rfl⟩:=hz _ _ an;simp only[Ae6,Ae8]at hd;have bg:Agt _:=an;clear an;have bn:R.length<=1001000:=Ade be (Ade (Nat.mul_le_mul (by omega:i<=1000) (by omega:o.length+1<=1001)) (by decide));have af:=oX (n:=n) (o:=o) l (i+1);have ac:=fQ (n:=n) (o:=o) aa;rw[<-hA.out.1]at ac;by_cases ah:i=n
  ·rw[if_pos ah]at ac;have a9:((i:Int) !=(n:Int))=false:=by simp[ah]
   have a5:Agt _:=ac;have a6:Agt (EL E R c):=hA.out.2;rw[ac,Aeb]at af;clear ac aa hA ah
   repeat' first|refine Z1 ?_|refine Z8 fun ya J=>?_|refine Z4 ?_;clear J ya|refine Z2 ?_ ?_<;>intro h ad<;>try exact Xp|refine Z3 ?_|exact Zt|apply J.out;clear J ya
   refine Ad (fun m s u2=>∃(j id:Nat) (c':List AV),m=o.length-j/\j<=o.length/\s 1=sl ido o.length co/\s 2=sc (.int .i64 n)/\s 7=sl id (R.length+j) c'/\s 14=sl idi l.length cs/\s 15=sc (.int .i64 l.length)/\s 16=sc (.int .i64 i)/\s 28=sl ido o.length co/\s 29=sc (.int .i64 o.length)/\s 30=sc (.int .i64 j)/\Keep u u2/\Own u u2 id (R.length+j)/\c'.length=(R.length+j)*4/\Agt (EL E (R++o.take j) c')) o.length
    ⟨0,id,c,Agm,Agm,Agn,Agn,Agn,Agn,Agn,Agn,Agn,Agn,Ago,Xs,(by simpa using Own.put (Own.new hO _) _ _),by simpa using ae,by simpa using a6⟩ ?_
   clear h1 h2 h7 a4 a3 a0 hK hO ax ae a6;rintro m s u2 ⟨j,id,c',rfl,hj,h1,h2,h7,a4,a3,a0,br,bq,bp,hK,hO,ae,ai⟩;have ax:=hK.nobj;by_cases ap:j<o.length
   ·have ak:=Adn ap;obtain⟨c2,rj,am,ay⟩:=EL.get h4 az ak;generalize o[j]=y at ay ak am;obtain⟨y1,y2,y3,y4,y5,y6,y7,y8,rfl⟩:=hz _ _ am;simp only[Ae6,Ae8]at ay;have bh:Agt (EL E (R++o.take (j+1)) (c'++[sc (.bool y1),sc (.int .i64 y2),sl y3 y4 y5,sl y6 y7 y8])):=by
     rw[Agt,Ad0,ak,Aez,<-Aed];exact EL.append ai.out (EL.single am)
    clear ak ai am
    repeat' first|refine Z1 ?_|refine Z8 fun ya J=>?_|refine Z4 ?_;clear J ya|refine Z2 ?_ ?_<;>intro h ad<;>try exact Xp|refine Z3 ?_|exact Zt
    refine Bz (by first|exact La) ((hK.new _).put hK.nobj _) (Own.put (Own.new hO _) _ _) (by decide) (by rfl) (ae) (by rfl) (by rfl) (by decide) Agm Agm ?_;intro idn un au bf aw ab av aj;simp only[Ac,Aa]at ab;refine Z3 ?_
    refine zz ?_
    refine⟨o.length-(j+1),Agm,j+1,idn,c'++[sc (.bool y1),sc (.int .i64 y2),sl y3 y4 y5,sl y6 y7 y8],?_⟩
    ((repeat' refine Zi ?_ ?_)<;>first|exact Xq|exact bh|exact au|exact ((by simp[ae];omega))|exact Xs)
   ·have bb:j=o.length:=Agm;subst bb;rw[Adu]at ai;have HA:Agt (R++o=rpl n o (l.take (i+1))/\EL E (R++o) c'):=⟨a5.out.symm,ai.out⟩;clear ai a5;have bd:c'.length=(R++o).length*4:=by rw[ae,Aeb]
    have bo:Own u u2 id (R++o).length:=by rw[Aeb];exact hO
    rw[<-Aeb]at h7;have a8:(R++o).length<=(i+1)*(o.length+1):=by rw[Aeb];exact af
    repeat' first|refine Z1 ?_|refine Z8 fun ya J=>?_|refine Z4 ?_;clear J ya|refine Z2 ?_ ?_<;>intro h ad<;>try exact Xp|refine Z3 ?_|exact Zt|apply J.out;clear J ya
    refine⟨l.length-(i+1),Agm,i+1,id,R++o,c',?_⟩
    ((repeat' refine Zi ?_ ?_)<;>first|exact Xq|exact HA|exact Xs)
  ·rw[if_neg ah]at ac;have a9:((i:Int) !=(n:Int))=true:=by simpa using (by omega:¬(i:Int)=n)
   have HA:Agt (R++[x]=rpl n o (l.take (i+1))/\EL E (R++[x]) (c++[sc (.bool x1),sc (.int .i64 x2),sl x3 x4 x5,sl x6 x7 x8])):=⟨ac.symm,EL.append hA.out.2 (EL.single bg.out)⟩;rw[ac]at af;clear ac aa hA ah
   repeat' first|refine Z1 ?_|refine Z8 fun ya J=>?_|refine Z4 ?_;clear J ya|refine Z2 ?_ ?_<;>intro h ad<;>try exact Xp|refine Z3 ?_|exact Zt
   refine Bz (by first|exact La) ((hK.new _).put hK.nobj _) (Own.put (Own.new hO _) _ _) (by decide) (by rfl) (ae) (by rfl) (by rfl) (by decide) Agm Agm ?_;intro idn un au bf aw ab av aj;simp only[Ac,Aa]at ab;refine Z3 ?_
   refine zz ?_
   refine⟨l.length-(i+1),Agm,i+1,idn,R++[x],c++[sc (.bool x1),sc (.int .i64 x2),sl x3 x4 x5,sl x6 x7 x8],?_⟩
   ((repeat' refine Zi ?_ ?_)<;>first|exact Xq|exact HA|exact ((by simpa using au))|exact ((by simp[ae];omega))|exact Xs)
 ·have bc:i=l.length:=Agm;subst bc;rw[Adu]at hA;have ao:Agt (rpl n o l=R):=hA.out.1.symm;have a7:Agt (EL E R c):=hA.out.2;clear hA
  repeat' first|refine Z1 ?_|refine Z8 fun ya J=>?_|refine Z4 ?_;clear J ya|refine Z2 ?_ ?_<;>intro h ad<;>try exact Xp|refine Z3 ?_|exact Zt|apply J.out;clear J ya
  first|exact⟨_,rfl,⟨id,c,by rw[ao.out],by rw[ao.out];exact a7.out⟩,hK⟩|exact⟨_,rfl,id,c,by rw[ao.out],by rw[ao.out];exact a7.out⟩
theorem Ua (N:List Tx)(l o:List RItem)(cs co:List AV)(idn idi ido n:Nat)(hE:EL (PI N) l cs)(aa:EL (PI N) o co)(hl:l.length<=1000)(ho:o.length<=1000)(u:St):
  ACalls Tryz.prog 194 [C8 N idn l idi cs,sl ido o.length co,sc (.int .i64 n)] u fun r u'=>(∃id c',r=sl id (rpl n o l).length c'/\EL (PI N) (rpl n o l) c')/\Keep u u':=
 gA (fun _ _ h=>xX h) N l o cs co idn idi ido n hE aa hl ho u
structure GL (N:List Tx)(l:List RItem):Prop where
 len:l.length<=16
 nm:N.length<=2000
 msr:∀x∈l,Msr N x
 fits:∀x∈l,x.fits
 pos:∀x∈l,∀a∈Ae x,0<a.terms.length
 va:∀x∈l,∀a∈Ae x,VA a
 ar:∀x∈l,∀a∈x.body,∀b∈x.body,a.pred=b.pred->a.terms.length=b.terms.length
theorem GL.bkm {N:List Tx}{l:List RItem}{cs:List AV}(h:GL N l)(hE:EL (PI N) l cs):BkM N l cs:=⟨hE,by have:=h.len;omega,h.nm,h.msr,h.fits,h.pos,h.va⟩
theorem E0 {α:Type}{n:Nat}{o l:List α}{x:α}(h:x∈rpl n o l):x∈l\/x∈o:=by
 unfold rpl at h;obtain⟨p,hp,hx⟩:=Ae9.1 h;split at hx
 ·exact .inr hx
 ·simp at hx;subst hx;exact .inl (List.fst_mem_of_mem_zipIdx hp)
theorem zC {α:Type}{n:Nat}{y:α}(l:List α):(rpl n [y] l).length=l.length:=by
 unfold rpl;rw[List.length_flatMap];have key:∀(l:List α) (k:Nat),((l.zipIdx k).map fun p=>(if p.2=n then [y]else [p.1]).length).sum=l.length:=by
  intro l;induction l with
  |nil=>intro k;simp
  |cons x l ih=>
   intro k;have:=ih (k+1);simp only[List.zipIdx_cons,Ad7,List.sum_cons,Aem];rw[this];split<;>simp<;>omega
 exact key l 0
theorem O7 {α:Type}{n:Nat}(l:List α):(rpl n [] l).length<=l.length:=by
 unfold rpl;rw[List.length_flatMap];have key:∀(l:List α) (k:Nat),((l.zipIdx k).map fun p=>(if p.2=n then []else [p.1]).length).sum<=l.length:=by
  intro l;induction l with
  |nil=>intro k;simp
  |cons x l ih=>
   intro k;have:=ih (k+1);simp only[List.zipIdx_cons,Ad7,List.sum_cons,Aem];split<;>simp<;>omega
 exact key l 0
theorem K6 {x:RItem}{k:Nat}(ho:x.out=false){a:RAtom}(h:a∈Ae (Cw x k)):a∈Ae x:=by
 have h':a=x.head\/a∈x.body.eraseIdx k:=by simpa[Ae,Cw]using h
 rcases h' with rfl|h'
 ·exact Aq (.inl ⟨ho,rfl⟩)
 ·exact Aq (.inr (Afn h'))
theorem GL.wo {N:List Tx}{l:List RItem}(h:GL N l){i k:Nat}{x:RItem}(hx:l[i]?=some x)(ho:x.out=false):GL N (rpl i [Cw x k] l):=by
 have aa:=Adp hx;have hm:∀y∈rpl i [Cw x k] l,y∈l\/y=Cw x k:=fun y hy=>by
  rcases E0 hy with h|h
  ·exact .inl h
  ·exact .inr (by simpa using h)
 have m:=h.msr x aa;refine⟨by rw[zC];exact h.len,h.nm,fun y hy=>?_,fun y hy=>?_,fun y hy=>?_,fun y hy=>?_,fun y hy=>?_⟩
 ·rcases hm y hy with hy|rfl
  ·exact h.msr y hy
  ·exact⟨(fun e=>by cases e),Ade (Afp _ _) m.body,m.mem,m.hpl,fun a ha=>m.at_ a (K6 ho ha)⟩
 ·rcases hm y hy with hy|rfl
  ·exact h.fits y hy
  ·exact K7 (h.fits x aa)
 ·rcases hm y hy with hy|rfl
  ·exact h.pos y hy
  ·exact fun a ha=>h.pos x aa a (K6 ho ha)
 ·rcases hm y hy with hy|rfl
  ·exact h.va y hy
  ·exact fun a ha=>h.va x aa a (K6 ho ha)
 ·rcases hm y hy with hy|rfl
  ·exact h.ar y hy
  ·exact fun a ha b hb=>h.ar x aa a (Afn ha) b (Afn hb)
def uX (N:List Tx)(x:RItem)(k:Nat):Option Sw:=(Cx Lb (x.head.terms.map Ap) (x.head.terms.map Ap)).bind fun s0=>Lc N x k s0
theorem bI {N:List Tx}{l:List RItem}(h:GL N l){x:RItem}(hx:x∈l)(ho:x.out=false)(c:List AV)(k:Nat)(hc:PI N x c)(u:St):ACalls Tryz.prog 64 [ag c,sc (.int .i64 k)] u fun r u'=>r=Ov (uX N x k)/\Keep u u':=by
 have m:=h.msr x hx;have hh:=m.at_ x.head (Aq (.inl ⟨ho,rfl⟩));obtain⟨s0,aa,-⟩:=Wx tellU x.head.terms hh.2.2;have:=gB N x c k s0 hc (h.fits x hx) aa (fun t ht=>(hh.2.2 t ht).varOk) (fun a ha=>⟨(h.fits x hx).2.2 a ha,fun t ht=>((m.at_ a (Aq (.inr ha))).2.2 t ht).varOk,fun b hb=>h.ar x hx a ha b (Afn hb)⟩) u;rw[uX,aa];exact this
def xS (x:AV):Prop:=∃id1 n1 c1 id2 n2 c2,x=ag [sl id1 n1 c1,sl id2 n2 c2]
def Zj (N:List Tx)(l:List RItem)(i k:Nat):Bool:=match l[i]? with
 |some x=>(uX N x k).isSome&&En N l (rpl i [Cw x k] l)
 |none=>false
def rS (N:List Tx)(l:List RItem)(n:Nat):Prop:=∀i y,i<n->l[i]?=some y->∀k,k<y.body.length->Zj N l i k=false
def chA (N:List Tx)(l:List RItem)(idn:Nat)(x:AV)(b:Bool):Prop:=
 (b=false/\rS N l l.length)\/(b=true/\∃i k y,l[i]?=some y/\y.out=false/\k<y.body.length/\Zj N l i k=true/\rS N l i/\(∀k',k'<k->Zj N l i k'=false)/\∃id c',x=C8 N idn (rpl i [Cw y k] l) id c'/\EL (PI N) (rpl i [Cw y k] l) c')
theorem Ot (N:List Tx)(l:List RItem)(cs:List AV)(idn idi:Nat)(hG:GL N l)(hE:EL (PI N) l cs)(u:St):
  ACalls Tryz.prog 156 [C8 N idn l idi cs] u fun r u'=>(∃x b,r=tp [x,sc (.bool b)]/\chA N l idn x b/\xS x)/\Keep u u':=by
 have ce:=EL.length Gg hE;have b0:=hG.len;have b9:=C3;have b8:=O4;have b7:∀s,List.take 78 (Dl s)=Dl s:=fun s=>Aeq (by rw[C3];exact Adc _);have cb:∀s s',lsp (Dl s) 0 (Dl s')=Dl s':=fun s s'=>Hu (by rw[C3,C3]);have cd:∀s,(Dl s).all flat=true:=fun s=>by
  rw[Ado];intro x hx;obtain⟨n,-,rfl⟩:=Ae4.1 hx;unfold fH;split
  ·rfl
  ·split<;>rfl
 refine Z9 53 [.cell 2 66,.tmp 3] Tryz.func156 ?_
 refine zz ?_
 refine Ad (fun m s u'=>∃(i:Nat),m=l.length-i/\i<=l.length/\s 1=ptr u.nobj 0/\s 2=ptr (u.nobj+1) 0/\s 13=sl idi l.length cs/\s 14=sc (.int .i64 l.length)/\s 15=sc (.int .i64 i)/\Keep u u'/\u.nobj+1<u'.nobj/\u'.obj u.nobj=[sl idn N.length (N.map str),sl idi l.length cs]/\u'.obj (u.nobj+1)=[nilS,nilS]/\Agt (rS N l i)) l.length
  ⟨0,Agm,Agm,Ago,Ago,Ago,Ago,rfl,Xs,Agq,by rw[Ah Agq,Al],by first|exact Al|simp[Al],fun i y h=>Agm⟩ ?_
 rintro m s u' ⟨i,rfl,hi,h1,h2,bq,bp,bo,hK,ca,az,ay,hA⟩;have b6:=hK.nobj;by_cases bm:i<l.length
 ·have ac:=Adn bm;have a0:=Aes bm;have bn:=hG.fits l[i] a0;have bi:=hG.msr l[i] a0;obtain⟨a7,ih,idb,b,r,a3,hd⟩:=J6 hE ac;generalize l[i]=x at hd ac a7 a3 a0 bn bi;have b4:=bn.1;have cf:=EL.length Fe a3;have HG:Agt (l[i]?=some x):=ac;clear ac
  repeat' first|refine Z1 ?_|refine Z8 fun ya J=>?_|refine Z4 ?_;clear J ya|refine Z2 ?_ ?_<;>intro h ab<;>try exact Xp|refine Z3 ?_|exact Zt|apply J.out;clear J ya
  refine Ad (fun m s u2=>∃(k:Nat),m=x.body.length-k/\k<=x.body.length/\s 1=ptr u.nobj 0/\s 2=ptr (u.nobj+1) 0/\s 4=sc (.int .i64 i)/\s 5=ptr u'.nobj 0/\s 13=sl idi l.length cs/\s 14=sc (.int .i64 l.length)/\s 15=sc (.int .i64 i)/\s 21=sl idb x.body.length b/\s 22=sc (.int .i64 x.body.length)/\s 23=sc (.int .i64 k)/\Keep u u2/\u'.nobj<u2.nobj/\u2.obj u.nobj=[sl idn N.length (N.map str),sl idi l.length cs]/\u2.obj (u.nobj+1)=[nilS,nilS]/\u2.obj u'.nobj=[sc (.bool x.out),sc (.int .i64 (N.idxOf x.head.pred:Nat)),sl ih x.head.terms.length (A0 x.head.terms),sl idb x.body.length b]/\Agt (∀k',k'<k->Zj N l i k'=false)) x.body.length
   ⟨0,Agm,Agm,Agn,Agn,Agn,Agn,Agn,Agn,Agn,Ago,Ago,Ago,Xs,Ags,by rw[Ak Agm,Ah Agm,az],by rw[Ak Agm,Ah Agm,ay],by rw[Aj],fun k' h=>Agm⟩ ?_
  clear h1 h2 bq bp bo hK az ay;rintro m s u2 ⟨k,rfl,hk,h1,h2,h4,h5,bq,bp,bo,ci,ch,cg,hK,bz,az,ay,bg,hN⟩;have br:=hK.nobj;by_cases am:k<x.body.length
  ·have an:x.out=false:=by
    cases h:x.out with
    |false=>rfl
    |true=>rw[bi.out h]at am;cases am
   have af:=fun u=>bI hG a0 an _ k (PI.of (ih:=ih) (id:=idb) a7 a3) u;simp only[an]at af bg;have ae:Zj N l i k=((uX N x k).isSome&&En N l (rpl i [Cw x k] l)):=by unfold Zj;rw[HG.out]
   cases hs:uX N x k with
   |none=>
    rw[hs]at af ae;simp only[Ov]at af;have HN:Agt (∀k',k'<k+1->Zj N l i k'=false):=fun k' a9=>by
     rcases Adg k' k with h|h
     ·exact hN.out k' h
     ·rw[show k'=k by omega,ae];rfl
    clear hN ae hs
    repeat' first|refine Z1 ?_|refine Z8 fun ya J=>?_|refine Z4 ?_;clear J ya|refine Z2 ?_ ?_<;>intro h ab<;>try exact Xp|refine Z5 ?_;refine Xi (af _) ?_;rintro _ _ ⟨rfl,ad⟩;(have ap:=ad.nobj;have aa:=ad.obj)|refine Z3 ?_|exact Zt|apply J.out;clear J ya
    rename_i u3;have b5:Keep u ((u3.new (Dl Lb)).put u3.nobj (Dl Lb)):=((hK.trans ad).new _).put Agm _;have hz0:((u3.new (Dl Lb)).put u3.nobj (Dl Lb)).obj u.nobj=[sl idn N.length (N.map str),sl idi l.length cs]:=by rw[Ak Agm,Ah Agm,aa _ Agm,az]
    have bv:((u3.new (Dl Lb)).put u3.nobj (Dl Lb)).obj (u.nobj+1)=[nilS,nilS]:=by rw[Ak Agm,Ah Agm,aa _ Agm,ay]
    have bu:((u3.new (Dl Lb)).put u3.nobj (Dl Lb)).obj u'.nobj=[sc (.bool x.out),sc (.int .i64 (N.idxOf x.head.pred:Nat)),sl ih x.head.terms.length (A0 x.head.terms),sl idb x.body.length b]:=by rw[Ak Agm,Ah Agm,aa _ Agm,bg,an]
    refine⟨x.body.length-(k+1),Agm,k+1,?_⟩
    ((repeat' refine Zi ?_ ?_)<;>first|exact Xq|exact HN|exact b5|exact hz0|exact bv|exact bu|exact Xs)
   |some sw=>
    rw[hs]at af ae;simp only[Ov]at af;simp only[Option.isSome_some,Afb]at ae;have bc:=fun u=>M9 N x _ k (PI.of (ih:=ih) (id:=idb) a7 a3) b4 u;simp only[an]at bc;have bf:=hG.wo (k:=k) HG.out an;have bd:=fun co ido (b3:EL (PI N) [Cw x k] co) u=>Ua N l [Cw x k] cs co idn idi ido i hE b3 Agm (by simp) u;have ax:=fun c' id' (ba:EL (PI N) (rpl i [Cw x k] l) c') u=>Lx N l (rpl i [Cw x k] l) cs c' idn idi id' (hG.bkm hE) (bf.bkm ba).bj u;simp only[Aff]at bd;rw[<-ae]at ax;cases ao:Zj N l i k with
    |true=>
     rw[ao]at ax;have HC:Agt (∀id c' x',x'=C8 N idn (rpl i [Cw x k] l) id c'->EL (PI N) (rpl i [Cw x k] l) c'->chA N l idn x' true):=fun id c' x' bw ba=>.inr ⟨rfl,i,k,x,HG.out,an,am,ao,hA.out,hN.out,id,c',bw,ba⟩;clear hN ae hs bf ao hA HG
     repeat' first|refine Z1 ?_|refine Z8 fun ya J=>?_|refine Z4 ?_;clear J ya|refine Z2 ?_ ?_<;>intro h ab<;>try exact Xp|(refine Z5 ?_;first|(refine Xi (af _) ?_;rintro _ _ ⟨rfl,ad⟩;(have ap:=ad.nobj;have aa:=ad.obj))|(refine Xi (bc _) ?_;rintro _ _ ⟨c2,rfl,be,aw⟩;(have ak:=aw.nobj;have ai:=aw.obj;(try simp only[Ac,Aa]at ak ai);obtain⟨a8,ih2,id2,b2,bb,rfl⟩:=be))|(refine Xi (bd _ _ (EL.single (PI.of (ih:=ih2) (id:=id2) a8 bb)) _) ?_;rintro _ _ ⟨⟨id6,c6,rfl,a4⟩,av⟩;(have aj:=av.nobj;have ah:=av.obj;(try simp only[Ac,Aa,Ax]at aj ah)))|(refine Xi (ax c6 id6 a4 _) ?_;rintro _ _ ⟨⟨x7,rfl,bh,⟨id71,n71,c71,id72,n72,c72,rfl⟩⟩,au⟩;(have a6:=au.nobj;have a5:=au.obj)))|refine Z3 ?_|exact Zt|apply J.out;clear J ya
     exact⟨_,rfl,⟨_,true,rfl,HC.out _ _ _ (bh rfl) a4,_,_,_,_,_,_,rfl⟩,Xs⟩
    |false=>
     rw[ao]at ax;have HN:Agt (∀k',k'<k+1->Zj N l i k'=false):=fun k' a9=>by
      rcases Adg k' k with h|h
      ·exact hN.out k' h
      ·rw[show k'=k by omega,ao]
     clear hN ae hs bf ao
     repeat' first|refine Z1 ?_|refine Z8 fun ya J=>?_|refine Z4 ?_;clear J ya|refine Z2 ?_ ?_<;>intro h ab<;>try exact Xp|(refine Z5 ?_;first|(refine Xi (af _) ?_;rintro _ _ ⟨rfl,ad⟩;(have ap:=ad.nobj;have aa:=ad.obj))|(refine Xi (bc _) ?_;rintro _ _ ⟨c2,rfl,be,aw⟩;(have ak:=aw.nobj;have ai:=aw.obj;(try simp only[Ac,Aa]at ak ai);obtain⟨a8,ih2,id2,b2,bb,rfl⟩:=be))|(refine Xi (bd _ _ (EL.single (PI.of (ih:=ih2) (id:=id2) a8 bb)) _) ?_;rintro _ _ ⟨⟨id6,c6,rfl,a4⟩,av⟩;(have aj:=av.nobj;have ah:=av.obj;(try simp only[Ac,Aa,Ax]at aj ah)))|(refine Xi (ax c6 id6 a4 _) ?_;rintro _ _ ⟨⟨x7,rfl,bh,⟨id71,n71,c71,id72,n72,c72,rfl⟩⟩,au⟩;(have a6:=au.nobj;have a5:=au.obj)))|refine Z3 ?_|exact Zt|apply J.out;clear J ya
     refine⟨x.body.length-(k+1),Agm,k+1,?_⟩
     ((repeat' refine Zi ?_ ?_)<;>first|exact Xq|exact HN|exact Xs)
  ·have cc:k=x.body.length:=Agm;have HA:Agt (rS N l (i+1)):=fun j y hj hy k' a9=>by
    rcases Adg j i with h|h
    ·exact hA.out j y h hy k' a9
    ·have:j=i:=Agm;subst this;rw[HG.out]at hy;cases hy;exact hN.out k' Agm
   clear hN HG hA
   repeat' first|refine Z1 ?_|refine Z8 fun ya J=>?_|refine Z4 ?_;clear J ya|refine Z2 ?_ ?_<;>intro h ab<;>try exact Xp|refine Z3 ?_|exact Zt|apply J.out;clear J ya
   refine⟨l.length-(i+1),Agm,i+1,?_⟩
   ((repeat' refine Zi ?_ ?_)<;>first|exact Xq|exact HA|exact Xs)
 ·have b1:i=l.length:=Agm;subst b1
  repeat' first|refine Z1 ?_|refine Z8 fun ya J=>?_|refine Z4 ?_;clear J ya|refine Z2 ?_ ?_<;>intro h ab<;>try exact Xp|refine Z3 ?_|exact Zt|apply J.out;clear J ya
  exact⟨_,rfl,⟨_,false,rfl,.inl ⟨rfl,hA.out⟩,_,_,_,_,_,_,rfl⟩,Xs⟩
def Jg (N:List Tx)(U:Nat->Nat->Bool)(l:List RItem)(q:Nat):Bool:=l.any fun x=>x.out&&(decide (N.idxOf x.head.pred=q)||U (N.idxOf x.head.pred) q)
theorem kG {N:List Tx}{U:Nat->Nat->Bool}{l:List RItem}{i:Nat}{x:RItem}(h:l[i]?=some x)(q:Nat):Jg N U (l.take (i+1)) q=(Jg N U (l.take i) q||(x.out&&(decide (N.idxOf x.head.pred=q)||U (N.idxOf x.head.pred) q))):=by
 unfold Jg;rw[Ad0,h,Aez,Afv];simp
theorem Vs {n:Nat}{f g:Nat->Bool}(h:∀q,q<n->f q=g q):Hh n f=Hh n g:=by
 unfold Hh;exact Afa fun q hq=>by rw[h q (by simpa using hq)]
theorem bG (N:List Tx)(l:List RItem)(cs:List AV)(idn idi:Nat)(hB:Bk N l cs)(u:St):ACalls Tryz.prog 192 [C8 N idn l idi cs] u fun r u'=>∃o M,r=fx o 0 N.length/\Keep u u'/\u.nobj<=o/\o<u'.nobj/\Ei N l M/\u'.obj o=Hh N.length (Jg N (Hv N.length M N.length) l):=by
 have bh:=EL.length Gg hB.el;have ba:=hB.len;have hN:=hB.nm;have bi:=aI N.length;refine Z9 49 [.tmp 2] Tryz.func192 ?_
 repeat' first|refine Z1 ?_|refine Z8 fun ya J=>?_|refine Z4 ?_;clear J ya|refine Z5 ?_;refine Xi (Ub N l cs idn idi hB _) ?_;rintro _ _ ⟨idu,B,M0,rfl,ak,bc,au,aw,a3⟩;(rw[Aa]at bc;have af:=ak.obj;have an:=ak.nobj;(try simp only[Aa,Ac,Ax]at an af))|refine Z3 ?_|exact Zt|apply J.out;clear J ya
 rename_i u1;have am:Agt (Ei N l M0):=a3;clear a3 af;have be:=Jl B N.length N.length;have bm:Keep u u1:=((Keep.refl u).new _).trans ak;clear ak;generalize hU:Hv N.length M0 N.length=U at aw;have HU:Agt _:=hU;clear hU
 refine Ad (fun m s u'=>∃i:Nat,m=l.length-i/\i<=l.length/\s 3=sl idu N.length (Fy B N.length N.length)/\s 4=fx u1.nobj 0 N.length/\s 16=sl idi l.length cs/\s 17=sc (.int .i64 l.length)/\s 18=sc (.int .i64 i)/\Keep u u'/\u1.nobj<u'.nobj/\u'.obj u1.nobj=Hh N.length (Jg N U (l.take i))/\Agt (Mat B N.length U u')) l.length
  ⟨0,Agm,Agm,Ago,Ago,Ago,Ago,rfl,Xs,Agq,by rw[Al];rfl,Mat.new aw au _⟩ ?_
 clear aw;rintro m s u' ⟨i,rfl,hi,h3,h4,a6,a5,a4,hK,ae,aa,hM⟩;have ax:=hK.nobj;by_cases a9:i<l.length
 ·have ab:=Adn a9;obtain⟨hm,ih,id,b,r,hb,hd⟩:=J6 hB.el ab;generalize l[i]=x at hd ab hb hm;have ad:=kG (N:=N) (U:=U) ab;have ap:=Afj hm;cases aj:x.out with
  |false=>
   rw[aj]at hd ad;have ai:u'.obj u1.nobj=Hh N.length (Jg N U (l.take (i+1))):=by
    rw[aa];exact Vs fun q _=>by rw[ad q];simp
   clear ad ab aa aj;generalize N.idxOf x.head.pred=ph at*
   repeat' first|refine Z1 ?_|refine Z8 fun ya J=>?_|refine Z4 ?_;clear J ya|refine Z2 ?_ ?_<;>intro h ac<;>try exact Xp|refine Z3 ?_|exact Zt|apply J.out;clear J ya
   refine⟨l.length-(i+1),Agm,i+1,?_⟩
   ((repeat' refine Zi ?_ ?_)<;>first|exact Xq|exact (Mat.put (Mat.new hM.out Agm _) Agm _)|exact (by rw[Ak Agm,Ah Agm,ai])|exact Xs)
  |true=>
   rw[aj]at hd ad;clear ab aj;generalize N.idxOf x.head.pred=ph at*
   generalize Jg N U (l.take i)=w0 at aa ad;generalize ah:Jg N U (l.take (i+1))=w1 at ad;have a7:Agt _:=ah;have a8:Agt (∀q,w1 q=(w0 q||(true&&(decide (ph=q)||U ph q)))):=ad;clear ad ah;have bf:=Jm (B:=B) (n:=N.length) (k:=N.length) ap;have a0:=hM.out _ ap;have bd:=Ex N.length (U ph);have ao:=Ex N.length w0;have ay:=Vr (n:=N.length) (i:=ph) w0 true
   repeat' first|refine Z1 ?_|refine Z8 fun ya J=>?_|refine Z4 ?_;clear J ya|refine Z2 ?_ ?_<;>intro h ac<;>try exact Xp|refine Z3 ?_|exact Zt|apply J.out;clear J ya
   refine Ad (fun m s u2=>∃(p:Nat) (g:Nat->Bool),m=N.length-p/\p<=N.length/\s 3=sl idu N.length (Fy B N.length N.length)/\s 4=fx u1.nobj 0 N.length/\s 16=sl idi l.length cs/\s 17=sc (.int .i64 l.length)/\s 18=sc (.int .i64 i)/\s 35=fx (B+ph) 0 N.length/\s 36=sc (.int .i64 N.length)/\s 37=sc (.int .i64 p)/\Keep u u2/\u1.nobj<u2.nobj/\u2.obj u1.nobj=Hh N.length g/\Agt (Mat B N.length U u2)/\Agt (∀q,g q=(w0 q||decide (ph=q)||(decide (q<p)&&U ph q)))) N.length
    ⟨0,fun j=>if j=ph then true else w0 j,Agm,Agm,Agn,Agn,Agn,Agn,Agn,Ago,Ago,Ago,Xs,Ags,by rw[Aj],Mat.put (Mat.put (Mat.new hM.out Agm _) Agm _) Agm _,fun q=>by
     by_cases h:q=ph
     ·simp[h]
     ·simp[h,Ne.symm h]⟩ ?_
   clear h3 h4 a6 a5 a4 hK ae aa hM a0 ay ao ax;rintro m s u2 ⟨p,g,rfl,hp,h3,h4,a6,a5,a4,bp,bo,bn,hK,ae,aa,hM,hg⟩;have ax:=hK.nobj;by_cases av:p<N.length
   ·have a0:=hM.out _ ap;have az:=G7 (U ph) av;have bg:=Ex N.length g;cases hu:U ph p with
    |true=>
     rw[hu]at az;have ay:=Vr (n:=N.length) (i:=p) g true;have HG:Agt (∀q,(if q=p then true else g q)=(w0 q||decide (ph=q)||(decide (q<p+1)&&U ph q))):=fun q=>by
      by_cases h:q=p
      ·simp[h,hu]
      ·rw[if_neg h,hg.out q,show decide (q<p+1)=decide (q<p)from by rw[decide_eq_decide];omega]
     clear hg hu
     repeat' first|refine Z1 ?_|refine Z8 fun ya J=>?_|refine Z4 ?_;clear J ya|refine Z2 ?_ ?_<;>intro h ac<;>try exact Xp|refine Z3 ?_|exact Zt|apply J.out;clear J ya
     refine⟨N.length-(p+1),Agm,p+1,fun q=>if q=p then true else g q,?_⟩
     ((repeat' refine Zi ?_ ?_)<;>first|exact Xq|exact HG|exact (Mat.put hM.out Agm _)|exact (by rw[Aj])|exact Xs)
    |false=>
     rw[hu]at az;have HG:Agt (∀q,g q=(w0 q||decide (ph=q)||(decide (q<p+1)&&U ph q))):=fun q=>by
      by_cases h:q=p
      ·rw[hg.out q];simp[h,hu]
      ·rw[hg.out q,show decide (q<p+1)=decide (q<p)from by rw[decide_eq_decide];omega]
     clear hg hu
     repeat' first|refine Z1 ?_|refine Z8 fun ya J=>?_|refine Z4 ?_;clear J ya|refine Z2 ?_ ?_<;>intro h ac<;>try exact Xp|refine Z3 ?_|exact Zt|apply J.out;clear J ya
     refine⟨N.length-(p+1),Agm,p+1,g,?_⟩
     ((repeat' refine Zi ?_ ?_)<;>first|exact Xq|exact HG|exact Xs)
   ·have hpl:p=N.length:=Agm;have ai:u2.obj u1.nobj=Hh N.length (Jg N U (l.take (i+1))):=by
     rw[aa,a7.out];exact Vs fun q hq=>by rw[a8.out q,hg.out q,hpl];simp[hq,Bool.or_assoc]
    clear hg aa a8 a7
    repeat' first|refine Z1 ?_|refine Z8 fun ya J=>?_|refine Z4 ?_;clear J ya|refine Z2 ?_ ?_<;>intro h ac<;>try exact Xp|refine Z3 ?_|exact Zt|apply J.out;clear J ya
    refine⟨l.length-(i+1),Agm,i+1,?_⟩
    ((repeat' refine Zi ?_ ?_)<;>first|exact Xq|exact hM|exact Xs)
 ·have bb:i=l.length:=Agm;subst bb;rw[Adu]at aa
  repeat' first|refine Z1 ?_|refine Z8 fun ya J=>?_|refine Z4 ?_;clear J ya|refine Z2 ?_ ?_<;>intro h ac<;>try exact Xp|refine Z3 ?_|exact Zt|apply J.out;clear J ya
  first|exact⟨_,rfl,_,M0,rfl,hK,Agm,ae,am.out,by rw[HU.out];exact aa⟩|exact⟨_,rfl,_,M0,rfl,Agm,ae,am.out,by rw[HU.out];exact aa⟩|exact⟨_,rfl,_,M0,Agm,ae,am.out,by rw[HU.out];exact aa⟩|(trace_state;exact⟨_,rfl,_,M0,rfl,hK,Agm,ae,am.out,by rw[HU.out];exact aa⟩)
theorem GL.sub {N:List Tx}{l l':List RItem}(h:GL N l)(hs:∀x∈l',x∈l)(hl:l'.length<=16):GL N l':=
 ⟨hl,h.nm,fun x hx=>h.msr x (hs x hx),fun x hx=>h.fits x (hs x hx),fun x hx=>h.pos x (hs x hx),fun x hx=>h.va x (hs x hx),fun x hx=>h.ar x (hs x hx)⟩
def Gl (N:List Tx)(U:Nat->Nat->Bool)(l:List RItem):List RItem:=l.filter fun x=>Jg N U l (N.idxOf x.head.pred)
def chS (N:List Tx)(l:List RItem)(idn:Nat)(x:AV)(b:Bool):Prop:=∃M,Ei N l M/\
 (((Gl N (Hv N.length M N.length) l).length=l.length/\b=false)\/
  ((Gl N (Hv N.length M N.length) l).length≠l.length/\b=En N l (Gl N (Hv N.length M N.length) l)/\(b=true->∃id c',x=C8 N idn (Gl N (Hv N.length M N.length) l) id c'/\EL (PI N) (Gl N (Hv N.length M N.length) l) c')))
theorem sJ {α:Type}{f:α->Bool}{l:List α}{i:Nat}{x:α}(h:l[i]?=some x):(l.take (i+1)).filter f=(l.take i).filter f++if f x=true then [x]else []:=by
 rw[Ad0,h,Aez,Afy];cases hf:f x<;>simp[hf]
theorem K9 (N:List Tx)(l:List RItem)(cs:List AV)(idn idi:Nat)(hG:GL N l)(hE:EL (PI N) l cs)(u:St):
  ACalls Tryz.prog 155 [C8 N idn l idi cs] u fun r u'=>(∃x b,r=tp [x,sc (.bool b)]/\chS N l idn x b/\xS x)/\Keep u u':=by
 have bq:=EL.length Gg hE;have an:=hG.len;have hN:=hG.nm;have bm:Bk N l cs:=(hG.bkm hE).bk an;have ay:=fun u=>bG N l cs idn idi bm u;refine Z9 41 [.cell 2 66,.tmp 3] Tryz.func155 ?_
 repeat' first|refine Z1 ?_|refine Z8 fun ya J=>?_|refine Z4 ?_;clear J ya|refine Z5 ?_;refine Xi (ay _) ?_;rintro _ _ ⟨ow,M0,rfl,ai,ak,be,a5,ad⟩;(have aj:=ai.nobj;have ac:=ai.obj;(try simp only[Aa,Ac]at aj ac ak))|refine Z3 ?_|exact Zt|apply J.out;clear J ya
 rename_i u1;have obk:u1.obj u.nobj=[sl idn N.length (N.map str),sl idi l.length cs]:=by rw[ac _ Agm,Ah Agq,Al]
 have obr:u1.obj (u.nobj+1)=[nilS,nilS]:=by rw[ac _ Agm];first|exact Al|simp[Al]
 have a8:Agt (Ei N l M0):=a5;generalize az:Hv N.length M0 N.length=U at ad;have HU:Agt _:=az;have a3:Keep u u1:=(((Keep.refl u).new _).new _).trans ai;clear a5 az ai ac ay;generalize au:Jg N U l=w at ad;have HW:Agt _:=au;clear au
 refine Ad (fun m s u'=>∃(i id:Nat) (R:List RItem) (c:List AV),m=l.length-i/\i<=l.length/\s 1=ptr u.nobj 0/\s 2=ptr (u.nobj+1) 0/\s 4=fx ow 0 N.length/\s 5=sl id R.length c/\s 12=sl idi l.length cs/\s 13=sc (.int .i64 l.length)/\s 14=sc (.int .i64 i)/\Keep u u'/\u1.nobj<=u'.nobj/\u'.obj ow=Hh N.length w/\u'.obj u.nobj=[sl idn N.length (N.map str),sl idi l.length cs]/\u'.obj (u.nobj+1)=[nilS,nilS]/\Own u u' id R.length/\c.length=R.length*4/\R.length<=i/\Agt (R=(l.take i).filter (fun x=>w (N.idxOf x.head.pred))/\EL (PI N) R c)) l.length
  ⟨0,1,[],[],Agm,Agm,Ago,Ago,Ago,Ago,Ago,Ago,rfl,a3,Agm,ad,obk,obr,Own.nil _ _,by simp,by simp,⟨by simp,rfl⟩⟩ ?_
 clear a3 ad obk obr;rintro m s u' ⟨i,id,R,c,rfl,hi,h1,h2,h4,h5,b0,bz,bw,hK,bp,obw,obk,obr,hO,aw,bu,hA⟩;have bo:=hK.nobj;have br:=Ex N.length w;by_cases bf:i<l.length
 ·have ab:=Adn bf;obtain⟨am,ih,idb,b,r,ax,hd⟩:=J6 hE ab;generalize l[i]=x at hd ab am ax;have bd:=Afj am;have af:=sJ (f:=fun x:RItem=>w (N.idxOf x.head.pred)) ab;have av:=G7 w bd;cases hw:w (N.idxOf x.head.pred)with
  |true=>
   simp only[hw,if_true]at af;rw[hw]at av;have HA:Agt (R++[x]=(l.take (i+1)).filter (fun x=>w (N.idxOf x.head.pred))/\EL (PI N) (R++[x]) (c++[sc (.bool x.out),sc (.int .i64 (N.idxOf x.head.pred:Nat)),sl ih x.head.terms.length (A0 x.head.terms),sl idb x.body.length b])):=⟨by rw[af,<-hA.out.1],EL.append hA.out.2 (EL.single (PI.of am ax))⟩;clear af ab hA hw
   repeat' first|refine Z1 ?_|refine Z8 fun ya J=>?_|refine Z4 ?_;clear J ya|refine Z2 ?_ ?_<;>intro h ae<;>try exact Xp|refine Z3 ?_|exact Zt
   refine Bz (by first|exact La) ((hK.new _).put hK.nobj _) (Own.put (Own.new hO _) _ _) (by decide) (by rfl) (aw) (by rfl) (by rfl) (by decide) Agm Agm ?_;intro idn' un bi bv ap ah bn a7;simp only[Ac,Aa]at ah;have eob:∀p,p<u'.nobj->un.obj p=u'.obj p:=fun p hp=>by rw[ap,Ak Agm,Ah Agm]
   refine Z3 ?_
   refine zz ?_
   refine⟨l.length-(i+1),Agm,i+1,idn',R++[x],c++[sc (.bool x.out),sc (.int .i64 (N.idxOf x.head.pred:Nat)),sl ih x.head.terms.length (A0 x.head.terms),sl idb x.body.length b],?_⟩
   ((repeat' refine Zi ?_ ?_)<;>first|exact Xq|exact HA|exact ((by simpa using bi))|exact ((by simp[aw];omega))|exact (by rw[eob _ Agm,obw])|exact (by rw[eob _ Agm,obk])|exact (by rw[eob _ Agm,obr])|exact Xs)
  |false=>
   simp only[hw,Aei,if_false,Ad4]at af;rw[hw]at av;have HA:Agt (R=(l.take (i+1)).filter (fun x=>w (N.idxOf x.head.pred))/\EL (PI N) R c):=⟨by rw[af,<-hA.out.1],hA.out.2⟩;clear af ab hA hw
   repeat' first|refine Z1 ?_|refine Z8 fun ya J=>?_|refine Z4 ?_;clear J ya|refine Z2 ?_ ?_<;>intro h ae<;>try exact Xp|refine Z3 ?_|exact Zt|apply J.out;clear J ya
   refine⟨l.length-(i+1),Agm,i+1,id,R,c,?_⟩
   ((repeat' refine Zi ?_ ?_)<;>first|exact Xq|exact HA|exact (Own.put (Own.new hO _) _ _)|exact (by rw[Ak Agm,Ah Agm,obw])|exact (by rw[Ak Agm,Ah Agm,obk])|exact (by rw[Ak Agm,Ah Agm,obr])|exact Xs)
 ·have bh:i=l.length:=Agm;subst bh;rw[Adu]at hA;have a0:R=Gl N (Hv N.length M0 N.length) l:=by rw[hA.out.1,Gl,HU.out,HW.out]
  have HR:Agt _:=a0;have HE:Agt (EL (PI N) R c):=hA.out.2;have a6:GL N R:=hG.sub (fun x hx=>(Afz.1 (by rw[<-hA.out.1];exact hx)).1) Agm;have ao:=fun u=>Lx N l R cs c idn idi id (hG.bkm hE) (a6.bkm HE.out).bj u;clear hA a0 a6;by_cases aa:R.length=l.length
  ·have bg:((R.length:Int)==(l.length:Int))=true:=by simp[aa]
   have HC:Agt (∀x,chS N l idn x false):=fun x=>⟨M0,a8.out,.inl ⟨by rw[<-HR.out];exact aa,rfl⟩⟩;clear ao aa
   repeat' first|refine Z1 ?_|refine Z8 fun ya J=>?_|refine Z4 ?_;clear J ya|refine Z2 ?_ ?_<;>intro h ae<;>try exact Xp|refine Z3 ?_|exact Zt|apply J.out;clear J ya
   exact⟨_,rfl,⟨_,false,rfl,HC.out _,_,_,_,_,_,_,rfl⟩,Xs⟩
  ·have bg:((R.length:Int)==(l.length:Int))=false:=by simpa using (by omega:¬(R.length:Int)=l.length)
   have HC:Agt (∀x,(En N l R=true->x=C8 N idn R id c)->chS N l idn x (En N l R)):=fun x hx=>⟨M0,a8.out,.inr ⟨by rw[<-HR.out];exact aa,by rw[<-HR.out],fun hb=>⟨id,c,by rw[<-HR.out];exact hx hb,by rw[<-HR.out];exact HE.out⟩⟩⟩;generalize En N l R=bb at ao HC;clear aa
   repeat' first|refine Z1 ?_|refine Z8 fun ya J=>?_|refine Z4 ?_;clear J ya|refine Z2 ?_ ?_<;>intro h ae<;>try exact Xp|refine Z5 ?_;refine Xi (ao _) ?_;rintro _ _ ⟨⟨x7,rfl,bc,⟨id71,n71,c71,id72,n72,c72,rfl⟩⟩,a4⟩;(have ba:=a4.nobj;have a9:=a4.obj)|refine Z3 ?_|exact Zt|apply J.out;clear J ya
   exact⟨_,rfl,⟨_,bb,rfl,HC.out _ bc,_,_,_,_,_,_,rfl⟩,Xs⟩
end Go.Proofs.YtmoeoppbmhfbpaaGreatDoorD
