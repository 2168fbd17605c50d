import Derived.Test.YtmoeoppbmhfbpaaGreatDoorHStrC
set_option maxHeartbeats 16000000
set_option maxRecDepth 100000
set_option linter.all false
namespace Go.Proofs.YtmoeoppbmhfbpaaGreatDoorH
open Go.Abs
theorem Up (x:RItem)(c:List AV)(k:Nat)(hc:EItem x c)(hn:x.body.length<=1000)(A:St):ACalls Tryz.prog 146 [ag c,sc (.int .i64 k)] A fun r A'=>∃c',r=ag c'/\EItem (fK x k) c'/\Keep A A':=by
 obtain⟨ih,id,b,hb,rfl⟩:=hc.cells;unfold Bo;have a6:=EL.length Ba hb;refine Z9 31 [.cell 4 145] Tryz.func146 ?_
 repeat' (first|refine Z1 ?_|(refine Z8 ?_;intro ya J)|(refine Z4 ?_;clear J ya)|(refine Z2 ?_ ?_<;>intro h ad<;>try exact Xp)|(refine Z6 ?_;intro idn An aj ak af ab ae aa)|refine Z3 ?_|exact Zt|(apply J.out;clear J ya))
 refine Ab (fun m s A'=>∃(n i3:Nat) (xs:List AV),m=x.body.length-n/\n<=x.body.length/\s 1=sc (.int .i64 k)/\s 2=ptr A.nobj 0/\s 4=ptr (A.nobj+1) 0/\s 5=ptr (A.nobj+2) 0/\s 6=sc (.int .i64 n)/\Keep A A'/\A.nobj+2<A'.nobj/\A'.obj A.nobj=[sc (.bool x.out),sc (.bool x.head.nt),str x.head.pred,sl ih x.head.terms.length (x.head.terms.map str),sl id x.body.length b]/\A'.obj (A.nobj+1)=[sc (.bool false),sc (.bool false),str [],nilS,nilS]/\A'.obj (A.nobj+2)=[sc (.bool false),sc (.bool x.head.nt),str x.head.pred,sl ih x.head.terms.length (x.head.terms.map str),sl i3 (Um x.body k n).length xs]/\Own A A' i3 (Um x.body k n).length/\xs.length=(Um x.body k n).length*3/\Ad8 (EL Be (Um x.body k n) xs)) x.body.length
  ⟨0,1,[],Ad2,Ad2,by simp[upd,initS],Ad4,Ad4,Ad4,rfl,Xs,Ad7,?_,?_,?_,Own.nil _ _,by simp[Um],by simp[Ad8,Um,EL]⟩ ?_
 ·rw[Al Ad2,Ai Ad6,Ai Ad6,Am]
 ·rw[Al Ad2,Ai Ad6,Cd Ad6 Ad6]
 ·rw[show A.nobj+2=A.nobj+1+1 by omega,Ak];simp[Um]
 rintro m s A' ⟨n,i3,xs,rfl,a5,h1,h2,h4,h5,h6,hK,a4,a0,az,an,hO,ao,hX⟩;have a3:=hK.nobj;have av:=tU x.body k n;by_cases ay:n<x.body.length
 ·have ac:=Aav ay;obtain⟨ia,r,hd⟩:=B8 hb ac;generalize x.body[n]=a at hd ac;have HG:Ad8 (x.body[n]?=some a):=ac;clear ac;generalize ap:Um x.body k n=wl at an hO ao hX av;have au:Ad8 _:=ap;clear ap;by_cases ai:n=k
  ·have ax:((n:Int) !=(k:Int))=false:=by simp[ai]
   have ah:Ad8 (Um x.body k (n+1)=wl):=by
    rw[Ad8,<-au.out,ai];exact pH (by rw[<-ai];exact HG.out)
   clear ai
   repeat' (first|refine Z1 ?_|(refine Z8 ?_;intro ya J)|(refine Z4 ?_;clear J ya)|(refine Z2 ?_ ?_<;>intro h ad<;>try exact Xp)|(refine Z6 ?_;intro idn An aj ak af ab ae aa)|refine Z3 ?_|exact Zt|(apply J.out;clear J ya))
   exact⟨x.body.length-(n+1),Ad2,n+1,i3,xs,rfl,Ad2,by simp,by rw[ah.out],by rw[ah.out];exact hO,by rw[ah.out];exact ao,by rw[Ad8,ah.out];exact hX.out⟩
  ·have ax:((n:Int) !=(k:Int))=true:=by simp;omega
   have ah:Ad8 (Um x.body k (n+1)=wl++[a]):=by
    rw[Ad8,<-au.out];exact tW HG.out ai
   clear ai
   repeat' (first|refine Z1 ?_|(refine Z8 ?_;intro ya J)|(refine Z4 ?_;clear J ya)|(refine Z2 ?_ ?_<;>intro h ad<;>try exact Xp)|(refine Z6 ?_;intro idn An aj ak af ab ae aa)|refine Z3 ?_|exact Zt|(apply J.out;clear J ya))
   refine Aq Ad (fun _=>True) [8,9,10] [0,1,2,3,4,5,6] [7,8,9,10] Ad5 (fun _ _ _ h=>h) ?_;have a7:Keep A' (A'.lay 1):=(Keep.refl _).lay 1;have am:Ad8 ((Um x.body k (n+1)).length=wl.length+1):=by rw[Ad8,ah.out];simp
   intro ya J
   repeat' (first|refine Z1 ?_|(refine Z8 ?_;intro ya J)|(refine Z4 ?_;clear J ya)|(refine Z2 ?_ ?_<;>intro h ad<;>try exact Xp)|(refine Z6 ?_;intro idn An aj ak af ab ae aa)|refine Z3 ?_|exact Zt|(apply J.out;clear J ya))
   refine⟨x.body.length-(n+1),Ad2,n+1,idn,xs++[sc (.bool a.nt),str a.pred,sl ia a.terms.length (a.terms.map str)],rfl,Ad2,by simp,ak.put Ad2 _,by rw[am.out],by rw[am.out];exact Own.put aj _ _,by rw[am.out];simp;omega,?_⟩;rw[Ad8,ah.out];exact EL.append hX.out (EL.single ⟨ia,rfl⟩)
 ·have aw:n=x.body.length:=Ad2;subst aw;rw[tV]at an hX
  repeat' (first|refine Z1 ?_|(refine Z8 ?_;intro ya J)|(refine Z4 ?_;clear J ya)|(refine Z2 ?_ ?_<;>intro h ad<;>try exact Xp)|(refine Z6 ?_;intro idn An aj ak af ab ae aa)|refine Z3 ?_|exact Zt|(apply J.out;clear J ya))
  exact⟨_,rfl,_,rfl,EItem.of (x:=fK x k) (ih:=ih) (id:=i3) hX.out,hK.put Ad2 _⟩
theorem Kp {t:Tx}(he:(A3 t).1=0):t.length<=600/\∃l r,Bf 16 t= .got l r:=by
 have aa:t.length<=600:=by
  by_cases hl:600<t.length
  ·unfold A3 at he;rw[if_pos hl]at he;simp at he
  ·omega
 refine⟨aa,?_⟩;have hp:=Fw t;cases h:Bf 16 t with
 |got l r=>exact⟨l,r,rfl⟩
 |bad e=>
  rw[h]at hp;have hp:Ej t=((t.length-e.length:Nat):Int):=hp;unfold A3 at he;rw[if_neg Ad2,hp,if_pos (Acy _)]at he;simp at he
def Ib (a b:RAtom):Prop:=a.nt=b.nt/\a.pred=b.pred/\a.terms=b.terms
theorem Wh (a b:RAtom)(ca cb:List AV)(ha:Be a ca)(hb:Be b cb)(hn:a.terms.length<=1000)(A:St):ACalls Tryz.prog 186 [ag ca,ag cb] A fun r A'=>∃bo,r=sc (.bool bo)/\(bo=true↔Ib a b)/\Keep A A':=by
 obtain⟨ia,rfl⟩:=ha;obtain⟨ib,rfl⟩:=hb;by_cases hnt:a.nt=b.nt
 ·have ak:(a.nt==b.nt)=true:=by simp[hnt]
  by_cases ab:a.pred=b.pred
  ·have aj:(a.pred==b.pred)=true:=by simp[ab]
   by_cases ad:a.terms.length=b.terms.length
   ·have am:((a.terms.length:Int) !=(b.terms.length:Int))=false:=by simp[ad]
    have HS:Ad8 (Ib a b↔a.terms=b.terms):=⟨fun h=>h.2.2,fun h=>⟨hnt,ab,h⟩⟩;have ah:Ad8 _:=ad;generalize Ib a b=SP at HS;clear hnt ab ad;refine Z9 45 [.tmp 4] Tryz.func186 ?_
    repeat' (first|refine Z1 ?_|(refine Z8 ?_;intro ya J)|(refine Z4 ?_;clear J ya)|(refine Z2 ?_ ?_<;>intro h aa<;>try exact Xp)|refine Z3 ?_|exact Zt|(apply J.out;clear J ya))
    refine Ab (fun m s A'=>∃k:Nat,m=a.terms.length-k/\k<=a.terms.length/\s 2=ptr A.nobj 0/\s 3=ptr (A.nobj+1) 0/\s 5=sc (.int .i64 k)/\Keep A A'/\A.nobj+1<A'.nobj/\A'.obj A.nobj=[sc (.bool a.nt),str a.pred,sl ia a.terms.length (a.terms.map str)]/\A'.obj (A.nobj+1)=[sc (.bool b.nt),str b.pred,sl ib b.terms.length (b.terms.map str)]/\Ad8 (∀j,j<k->a.terms[j]?=b.terms[j]?)) a.terms.length
     ⟨0,Ad2,Ad2,Ad4,Ad4,rfl,Xs,Ad6,?_,?_,fun j hj=>Ad2⟩ ?_
    ·rw[Ai Ad6,Am]
    ·rw[Cd Ad6 Ad6]
    rintro m s A' ⟨k,rfl,hk,h2,h3,h5,hK,av,au,ap,hE⟩;by_cases af:k<a.terms.length
    ·have ae:k<b.terms.length:=by have:=ah.out;omega
     have g1:=Bc af;have g2:=Bc ae;have HX:Ad8 (a.terms[k]?=some a.terms[k]/\b.terms[k]?=some b.terms[k]):=⟨Aav af,Aav ae⟩;generalize a.terms[k]=t at g1 HX;generalize b.terms[k]=u at g2 HX;by_cases ac:t=u
     ·have ai:(t==u)=true:=by simp[ac]
      have ao:Ad8 (∀j,j<k+1->a.terms[j]?=b.terms[j]?):=fun j hj=>by
       by_cases e:j=k
       ·subst e;rw[HX.out.1,HX.out.2,ac]
       ·exact hE.out j Ad2
      clear ac
      repeat' (first|refine Z1 ?_|(refine Z8 ?_;intro ya J)|(refine Z4 ?_;clear J ya)|(refine Z2 ?_ ?_<;>intro h aa<;>try exact Xp)|refine Z3 ?_|exact Zt|(apply J.out;clear J ya))
      refine Aq Ad (fun _=>True) [] [0,1,2,3,4,5,6,7,8,9,10] [] Ad5 (fun _ _ _ h=>h) ?_;intro ya J
      repeat' (first|refine Z1 ?_|(refine Z8 ?_;intro ya J)|(refine Z4 ?_;clear J ya)|(refine Z2 ?_ ?_<;>intro h aa<;>try exact Xp)|refine Z3 ?_|exact Zt|(apply J.out;clear J ya))
      exact⟨a.terms.length-(k+1),Ad2,k+1,rfl,Ad2,by simp,ao⟩
     ·have ai:(t==u)=false:=by simpa using ac
      have HF:Ad8 (¬SP):=fun h=>ac (by
       have h2:=HS.out.1 h;have h3:=HX.out.1;rw[h2,HX.out.2]at h3
       exact (Ac9 h3).symm)
      clear ac
      repeat' (first|refine Z1 ?_|(refine Z8 ?_;intro ya J)|(refine Z4 ?_;clear J ya)|(refine Z2 ?_ ?_<;>intro h aa<;>try exact Xp)|refine Z3 ?_|exact Zt|(apply J.out;clear J ya))
      refine Aq Ad (fun _=>True) [] [0,1,2,3,4,5,6,7,8,9,10] [] Ad5 (fun _ _ _ h=>h) ?_;intro ya J
      repeat' (first|refine Z1 ?_|(refine Z8 ?_;intro ya J)|(refine Z4 ?_;clear J ya)|(refine Z2 ?_ ?_<;>intro h aa<;>try exact Xp)|refine Z3 ?_|exact Zt|(apply J.out;clear J ya))
      exact⟨_,rfl,false,rfl,⟨(fun h=>by cases h),fun h=>absurd h HF.out⟩⟩
    ·have an:k=a.terms.length:=Ad2;subst an
     have HT:Ad8 SP:=HS.out.2 (by
      apply Abd;intro j;by_cases hj:j<a.terms.length
      ·exact hE.out j hj
      ·rw[Aa7 Ad2,Aa7 (by have:=ah.out;omega)])
     repeat' (first|refine Z1 ?_|(refine Z8 ?_;intro ya J)|(refine Z4 ?_;clear J ya)|(refine Z2 ?_ ?_<;>intro h aa<;>try exact Xp)|refine Z3 ?_|exact Zt|(apply J.out;clear J ya))
     exact⟨_,rfl,true,rfl,⟨fun _=>HT.out,fun _=>rfl⟩⟩
   ·have am:((a.terms.length:Int) !=(b.terms.length:Int))=true:=by simpa using (show¬(a.terms.length:Int)=(b.terms.length:Int)by omega)
    have HF:Ad8 (¬Ib a b):=fun h=>ad (by rw[h.2.2]);generalize Ib a b=SP at HF;clear hnt ab ad;refine Z9 45 [.tmp 4] Tryz.func186 ?_
    repeat' (first|refine Z1 ?_|(refine Z8 ?_;intro ya J)|(refine Z4 ?_;clear J ya)|(refine Z2 ?_ ?_<;>intro h aa<;>try exact Xp)|refine Z3 ?_|exact Zt|(apply J.out;clear J ya))
    exact⟨_,rfl,false,rfl,⟨(fun h=>by cases h),fun h=>absurd h HF.out⟩,Xs⟩
  ·have aj:(a.pred==b.pred)=false:=by simpa using ab
   have HF:Ad8 (¬Ib a b):=fun h=>ab h.2.1;generalize Ib a b=SP at HF;clear hnt ab;refine Z9 45 [.tmp 4] Tryz.func186 ?_
   repeat' (first|refine Z1 ?_|(refine Z8 ?_;intro ya J)|(refine Z4 ?_;clear J ya)|(refine Z2 ?_ ?_<;>intro h aa<;>try exact Xp)|refine Z3 ?_|exact Zt|(apply J.out;clear J ya))
   exact⟨_,rfl,false,rfl,⟨(fun h=>by cases h),fun h=>absurd h HF.out⟩,Xs⟩
 ·have ak:(a.nt==b.nt)=false:=by simpa using hnt
  have HF:Ad8 (¬Ib a b):=fun h=>hnt h.1;generalize Ib a b=SP at HF;clear hnt;refine Z9 45 [.tmp 4] Tryz.func186 ?_
  repeat' (first|refine Z1 ?_|(refine Z8 ?_;intro ya J)|(refine Z4 ?_;clear J ya)|(refine Z2 ?_ ?_<;>intro h aa<;>try exact Xp)|refine Z3 ?_|exact Zt|(apply J.out;clear J ya))
  exact⟨_,rfl,false,rfl,⟨(fun h=>by cases h),fun h=>absurd h HF.out⟩,Xs⟩
theorem Zw (ls:List RAtom)(cs:List AV)(id:Nat)(a:RAtom)(ca:List AV)(hE:EL Be ls cs)(ha:Be a ca)(hl:ls.length<=1000)(hn:∀b∈ls,b.terms.length<=1000)(hm:∃b∈ls,Ib b a)(A:St):ACalls Tryz.prog 147 [sl id ls.length cs,ag ca] A fun r A'=>r=sc (.bool true)/\Keep A A':=by
 obtain⟨ia,rfl⟩:=ha;have ap:=EL.length Ba hE;have aj:=fun b ib hb A=>Wh b a [sc (.bool b.nt),str b.pred,sl ib b.terms.length (b.terms.map str)] _ ⟨ib,rfl⟩ ⟨ia,rfl⟩ (hn b hb) A;have HM:Ad8 _:=hm;clear hm;refine Z9 18 [.tmp 4] Tryz.func147 ?_
 repeat' (first|refine Z1 ?_|(refine Z8 ?_;intro ya J)|(refine Z4 ?_;clear J ya)|(refine Z2 ?_ ?_<;>intro h ab<;>try exact Xp)|refine Z3 ?_|exact Zt|(apply J.out;clear J ya))
 refine Ab (fun m s A'=>∃i:Nat,m=ls.length-i/\i<=ls.length/\s 0=sl id ls.length cs/\s 3=ptr A.nobj 0/\s 5=sc (.int .i64 i)/\Keep A A'/\A.nobj<A'.nobj/\A'.obj A.nobj=[sc (.bool a.nt),str a.pred,sl ia a.terms.length (a.terms.map str)]/\Ad8 (∀j,j<i->∀b,ls[j]?=some b->¬Ib b a)) ls.length
  ⟨0,Ad2,Ad2,rfl,rfl,rfl,Xs,by simp[Aa],Am,fun j hj=>Ad2⟩ ?_
 rintro m s A' ⟨i,rfl,hi,h0,h3,h5,hK,ao,an,hN⟩;have am:=hK.nobj;by_cases ae:i<ls.length
 ·have aa:=Aav ae;obtain⟨ib,r,hd⟩:=B8 hE aa;have hS:=fun A=>aj ls[i] ib (Ab1 ae) A;generalize ls[i]=b at hd aa hS;have HG:Ad8 _:=aa;clear aa;generalize ad:Ib b a=SP at hS;have ak:Ad8 _:=ad;clear ad
  repeat' (first|refine Z1 ?_|(refine Z8 ?_;intro ya J)|(refine Z4 ?_;clear J ya)|(refine Z2 ?_ ?_<;>intro h ab<;>try exact Xp)|refine Z3 ?_|exact Zt|(apply J.out;clear J ya))
  refine Aq Ad (fun _=>True) [5] [0,1,2,3,4] [5] Ad5 (fun _ _ _ h=>h) ?_;intro ya J
  repeat' (first|refine Z1 ?_|(refine Z8 ?_;intro ya J)|(refine Z4 ?_;clear J ya)|(refine Z2 ?_ ?_<;>intro h ab<;>try exact Xp)|(refine Z5 ?_;refine Xi (hS _) ?_;rintro _ _ ⟨bo,rfl,ai,ac⟩;(have af:=ac.obj;have ah:=ac.nobj))|refine Z3 ?_|exact Zt|(apply J.out;clear J ya))
  ·exact⟨_,rfl,rfl,hK.trans ac⟩
  ·refine⟨ls.length-(i+1),Ad2,i+1,rfl,Ad2,by simp,hK.trans ac,Ad2,fun j hj c hc=>?_⟩;by_cases e:j=i
   ·subst e;rw[HG.out]at hc;cases hc;rw[ak.out];intro hs;have h1:=ai.2 hs;have h2:bo=false:=by assumption
    rw[h2]at h1;cases h1
   ·exact hN.out j Ad2 c hc
 ·exfalso;obtain⟨b,hb,hs⟩:=HM.out;obtain⟨j,hj⟩:=Acp hb;exact hN.out j (by have:=(Aau.1 hj).1;omega) b hj hs
end Go.Proofs.YtmoeoppbmhfbpaaGreatDoorH
