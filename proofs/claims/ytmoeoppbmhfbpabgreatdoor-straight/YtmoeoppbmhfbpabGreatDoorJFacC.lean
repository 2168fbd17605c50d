import Derived.Test.YtmoeoppbmhfbpabGreatDoorJFacA
import Derived.Test.YtmoeoppbmhfbpabGreatDoorJNegA
import Derived.Test.YtmoeoppbmhfbpabGreatDoorJShelf
set_option maxHeartbeats 64000000
set_option maxRecDepth 100000
set_option linter.all false
namespace Go.Proofs.YtmoeoppbmhfbpabGreatDoorJ
open Go.Abs
def fH (l:List RItem)(p:Tx):Bool:=l.any fun x=>!x.out&&decide (x.head.pred=p)
theorem qH {N:List Tx}{l:List RItem}(hN:∀x∈l,x.head.pred∈N){p:Tx}(hp:p∈N):Kj N l (N.idxOf p)=fH l p:=by
 unfold Kj fH;rw[Bool.eq_iff_iff,Acg,Acg];constructor
 ·rintro⟨x,hx,h⟩;simp only[Abo,Ad3]at h;exact⟨x,hx,by simp only[Abo,Ad3];exact⟨h.1,Dy (hN x hx) hp h.2⟩⟩
 ·rintro⟨x,hx,h⟩;simp only[Abo,Ad3]at h;exact⟨x,hx,by simp only[Abo,Ad3];exact⟨h.1,by rw[h.2]⟩⟩
theorem sR {α:Type}{l:List α}{f g:α->Bool}(h:∀a∈l,f a=g a):l.any f=l.any g:=by
 rw[Bool.eq_iff_iff,Acg,Acg];exact⟨fun⟨a,ha,e⟩=>⟨a,ha,by rw[<-h a ha];exact e⟩,fun⟨a,ha,e⟩=>⟨a,ha,by rw[h a ha];exact e⟩⟩
def J9 (l:List RItem)(t:Tx):Int:=match Cl 400 t with
 |.bad _=>7
 |.got F _=>if Kq (l.flatMap Af) F=true then 3 else if F.any (fun a=>fH l a.pred)=true then 8 else 0
theorem Kp:∀(n:Nat) (s:Tx) (F:List Ai) (r:Tx),Cl n s= .got F r->r=[]/\F.length<=n/\s=F.flatMap (fun a=>Ay a++[46])/\∀a∈F,Ea a/\a.nt=false/\Mv a=true
 |n,[],F,r,h=>by
  rw[Jn]at h;cases h;simp
 |0,b::s,F,r,h=>by cases h
 |n+1,b::s,F,r,h=>by
  rw[Gq]at h;cases h1:Hy (b::s)with
  |bad e=>rw[h1]at h;cases h
  |got x r1=>
   rw[h1]at h;simp only[Rd.bnd]at h;cases h2:Cl n r1 with
   |bad e=>rw[h2]at h;cases h
   |got xs r2=>
    rw[h2]at h;cases h;obtain⟨e1,e2,e3,e4⟩:=Kp n r1 xs r h2;obtain⟨f1,f2,f3,f4⟩:=Sm h1;refine⟨e1,by simp;omega,?_,fun a ha=>?_⟩
    ·rw[f1,e3];simp
    ·rcases Aci.1 ha with rfl|ha
     ·exact⟨f2,f3,f4⟩
     ·exact e4 a ha
theorem Sz (N:List Tx)(l:List RItem)(cs:List AV)(idn idi:Nat)(hB:Bk N l cs)(b1:N.length<=600)(hT:∀S,S<+:l.flatMap Af->∀a∈l.flatMap Af,S.any (clash a)=false)(t:Tx)(ht:t.length<=400)(q:St):
  ACalls Tryz.prog 48 [Bs N idn l idi cs,str t] q fun r q'=>∃(idf n np:Nat) (fc:List AV),r=tp [sl idf n fc,ic np,ic (J9 l t)]/\Keep q q'/\(J9 l t=0->∃F N',Cl 400 t= .got F []/\n=F.length/\np=N'.length/\N<+:N'/\N'.length<=1000/\EL (PF N') F fc):=by
 have br:=hB.len;have b0:(N.map str).length=N.length:=by simp
 have ao:=fun N' hN F fc idf hF h1 h2 h3 q=>Qa N N' hN l cs idn idi hB hT F fc idf hF h1 h2 h3 q;have au:=fun N' hN F fc idf hF h1 q=>Us N N' hN l cs idn idi hB F fc idf hF h1 q;have bm:∀x∈l,x.head.pred∈N:=fun x hx=>by
  obtain⟨i,hi⟩:=List.getElem?_of_mem hx;exact (Fi hB.el hi).1
 unfold Bs at ao au⊢;refine Z9 47 [.tmp 4,.tmp 5,.tmp 6] Tryz.func48 ?_
 repeat' (first|refine Z1 ?_|(refine Z8 ?_;intro κ hκ)|(refine Z4 ?_;clear hκ κ)|(refine Z2 ?_ ?_<;>intro h ae<;>try exact Xp)|(refine Z6 ?_;intro idn qn ax az ah ab af aa)|refine Z3 ?_|exact⟨⟩|(apply hκ.out;clear hκ κ))
 refine Ad (fun m s q'=>∃(i i3:Nat),m=N.length-i/\i<=N.length/\s 2=ptr q.nobj 0/\s 7=ptr (q.nobj+1) 0/\s 15=sl idn N.length (N.map str)/\s 16=ic N.length/\s 17=ic i/\Keep q q'/\q.nobj+1<q'.nobj/\q'.obj q.nobj=[sl idn N.length (N.map str),sl idi l.length cs]/\q'.obj (q.nobj+1)=[str t,ic 0,sl i3 i ((N.take i).map str)]/\Own q q' i3 i) N.length
  ⟨0,1,Ad6,Ad6,Ad8,Ad8,Ad8,Ad8,rfl,Xs,Aeb,?_,?_,Own.nil _ _⟩ ?_
 ·rw[Aj Ad6,Ae Aea,Ao]
 ·rw[Ak];simp
 rintro m s q' ⟨i,i3,rfl,hi,h2,h7,b6,b5,b4,hK,bq,bc,ba,hO⟩;have bz:=hK.nobj;by_cases bl:i<N.length
 ·have aw:=List.getElem?_eq_getElem bl;have bv:(N.map str).drop i=str N[i]::(N.map str).drop (i+1):=by
   rw[Ach (by simpa using bl)];simp
  generalize N[i]=w at aw bv;have HX:Aec ((N.take i).map str++[str w]=(N.take (i+1)).map str):=by rw[Aec,Abv,aw];simp
  have bp:((N.take i).map str).length=i*1:=by simp;omega
  clear aw;generalize (N.take i).map str=xs at ba HX bp
  repeat' (first|refine Z1 ?_|(refine Z8 ?_;intro κ hκ)|(refine Z4 ?_;clear hκ κ)|(refine Z2 ?_ ?_<;>intro h ae<;>try exact Xp)|(refine Z6 ?_;intro idn qn ax az ah ab af aa)|refine Z3 ?_|exact⟨⟩|(apply hκ.out;clear hκ κ))
  refine⟨N.length-(i+1),Ad6,i+1,idn,?_⟩;exact⟨rfl,Ad6,by simp,az.put Ad6 _,by rw[<-HX.out],Own.put ax _ _⟩
 ·have bu:i=N.length:=Ad6;subst bu;rw[Abt]at ba;have bn:RS N.length t (q.nobj+1) N i3 t q':=by
   refine⟨by rw[ba];simp[J6,P6],bq,?_,Acy _,Ad6,Ad6⟩;rcases hO with e|⟨k,e1,e2,e3,e4,e5⟩
   ·exact .inl e
   ·exact .inr ⟨k,e1,e3,e4,e5⟩
  have hid:i3<2\/q.ntop+2<=i3:=by
   rcases hO with e|⟨k,e1,e2,e3,e4,e5⟩<;>omega
  have hR:=aX (Bd:=N.length) ht bn;clear bn ba hO hi;cases hp:Cl 400 t with
  |bad e=>
   have a3:J9 l t=7:=by unfold J9;rw[hp]
   rw[hp]at hR;simp only[Rd.ok,Rd.Val]at hR;rw[a3];clear hp a3 ao au
   repeat' (first|refine Z1 ?_|(refine Z8 ?_;intro κ hκ)|(refine Z4 ?_;clear hκ κ)|(refine Z2 ?_ ?_<;>intro h ae<;>try exact Xp)|(refine Z6 ?_;intro idn qn ax az ah ab af aa)|(refine Z5 ?_;refine Xi (hR) ?_;rintro _ _ ⟨n,ids,c,N2,id2,r2,rfl,ac,ak,ai,-⟩;(have av:=ac.keep.nobj;have ay:=KeepR.keep hK ac.keep Ad6 hid))|refine Z3 ?_|exact⟨⟩|(apply hκ.out;clear hκ κ))
   first|exact⟨_,rfl,1,0,0,[],rfl,ay,fun h=>by simp at h⟩|exact⟨_,rfl,1,0,0,[],rfl,fun h=>by simp at h⟩
  |got F r0=>
   obtain⟨rfl,b2,-,bg⟩:=Kp _ _ _ _ hp;rw[hp]at hR;simp only[Rd.ok,Rd.Val]at hR;have a3:J9 l t=if Kq (l.flatMap Af) F=true then 3 else if F.any (fun a=>fH l a.pred)=true then 8 else 0:=by unfold J9;rw[hp]
   rw[a3]
   have bw:∀a∈F,0<a.terms.length/\a.terms.length<=3:=fun a ha=>⟨by
    have:=(bg a ha).1.2.1;cases hh:a.terms with
    |nil=>exact absurd hh this
    |cons y ys=>simp,(bg a ha).1.2.2.1⟩
   have a8:F.length<=1000:=Ad6;have HP:Aec _:=hp;clear hp a3 bg;generalize b3:l.flatMap Af=A at*
   have a5:=fun N' hN fc idf hF=>ao N' hN F fc idf hF a8 bw;have bi:=fun N' hN fc idf hF=>au N' hN F fc idf hF a8;clear ao au;cases an:Kq A F with
   |true=>
    simp only[an]at a5;simp only[if_true];clear bi an
    repeat' (first|refine Z1 ?_|(refine Z8 ?_;intro κ hκ)|(refine Z4 ?_;clear hκ κ)|(refine Z2 ?_ ?_<;>intro h ae<;>try exact Xp)|(refine Z6 ?_;intro idn qn ax az ah ab af aa)|(refine Z5 ?_;first|(refine Xi (hR) ?_;rintro _ _ ⟨n,ids,c,N2,id2,r2,rfl,ac,ak,ai,⟨rfl,am⟩⟩;(have av:=ac.keep.nobj;have ay:=KeepR.keep hK ac.keep Ad6 hid;have ad:=ak.obj;unfold J6 P6 at ad;have aj:=ac.keep.obj q.nobj Ad6 Ad6;rw[bc]at aj;have a4:=fun q=>a5 N2 ai c ids am (by have:=ak.len;omega) q))|(refine Xi (a4 _) ?_;rintro _ _ ⟨rfl,ap⟩;(have a6:=ay.trans ap)))|refine Z3 ?_|exact⟨⟩|(apply hκ.out;clear hκ κ))
    first|exact⟨_,rfl,1,0,0,[],rfl,a6,fun h=>by simp at h⟩|exact⟨_,rfl,1,0,0,[],rfl,fun h=>by simp at h⟩
   |false=>
    simp only[an]at a5;simp only[Acb,if_false];clear an;cases bb:F.any (fun a=>fH l a.pred)with
    |true=>
     have bh:∀(N2:List Tx),N<+:N2->∀(fc:List AV) (idf:Nat),EL (PF N2) F fc->F.any (fun a=>Kj N2 l (N2.idxOf a.pred))=true:=fun N2 hP fc idf hE=>by
      rw[<-bb];refine sR fun a ha=>qH (fun x hx=>hP.subset (bm x hx)) ?_;obtain⟨i,hi⟩:=List.getElem?_of_mem ha;exact (Uc hE hi).1
     simp only[if_true];clear bb
     repeat' (first|refine Z1 ?_|(refine Z8 ?_;intro κ hκ)|(refine Z4 ?_;clear hκ κ)|(refine Z2 ?_ ?_<;>intro h ae<;>try exact Xp)|(refine Z6 ?_;intro idn qn ax az ah ab af aa)|(refine Z5 ?_;first|(refine Xi (hR) ?_;rintro _ _ ⟨n,ids,c,N2,id2,r2,rfl,ac,ak,ai,⟨rfl,am⟩⟩;(have av:=ac.keep.nobj;have ay:=KeepR.keep hK ac.keep Ad6 hid;have ad:=ak.obj;unfold J6 P6 at ad;have aj:=ac.keep.obj q.nobj Ad6 Ad6;rw[bc]at aj;have a4:=fun q=>a5 N2 ai c ids am (by have:=ak.len;omega) q;have a9:=fun q=>bi N2 ai c ids am q;rw[bh N2 ai c ids am]at a9))|(refine Xi (a4 _) ?_;rintro _ _ ⟨rfl,ap⟩;(have a6:=ay.trans ap;have a0:=ap.obj;have be:=ap.nobj))|(refine Xi (a9 _) ?_;rintro _ _ ⟨rfl,a7⟩;(have bf:=a6.trans a7)))|refine Z3 ?_|exact⟨⟩|(apply hκ.out;clear hκ κ))
     first|exact⟨_,rfl,1,0,0,[],rfl,bf,fun h=>by simp at h⟩|exact⟨_,rfl,1,0,0,[],rfl,fun h=>by simp at h⟩
    |false=>
     have bh:∀(N2:List Tx),N<+:N2->∀(fc:List AV) (idf:Nat),EL (PF N2) F fc->F.any (fun a=>Kj N2 l (N2.idxOf a.pred))=false:=fun N2 hP fc idf hE=>by
      rw[<-bb];refine sR fun a ha=>qH (fun x hx=>hP.subset (bm x hx)) ?_;obtain⟨i,hi⟩:=List.getElem?_of_mem ha;exact (Uc hE hi).1
     simp only[Acb,if_false];clear bb
     repeat' (first|refine Z1 ?_|(refine Z8 ?_;intro κ hκ)|(refine Z4 ?_;clear hκ κ)|(refine Z2 ?_ ?_<;>intro h ae<;>try exact Xp)|(refine Z6 ?_;intro idn qn ax az ah ab af aa)|(refine Z5 ?_;first|(refine Xi (hR) ?_;rintro _ _ ⟨n,ids,c,N2,id2,r2,rfl,ac,ak,ai,⟨rfl,am⟩⟩;(have av:=ac.keep.nobj;have ay:=KeepR.keep hK ac.keep Ad6 hid;have ad:=ak.obj;unfold J6 P6 at ad;have aj:=ac.keep.obj q.nobj Ad6 Ad6;rw[bc]at aj;have a4:=fun q=>a5 N2 ai c ids am (by have:=ak.len;omega) q;have a9:=fun q=>bi N2 ai c ids am q;rw[bh N2 ai c ids am]at a9))|(refine Xi (a4 _) ?_;rintro _ _ ⟨rfl,ap⟩;(have a6:=ay.trans ap;have a0:=ap.obj;have be:=ap.nobj))|(refine Xi (a9 _) ?_;rintro _ _ ⟨rfl,a7⟩;(have bf:=a6.trans a7;have bd:=a7.obj;have bo:=a7.nobj)))|refine Z3 ?_|exact⟨⟩|(apply hκ.out;clear hκ κ))
     rename_i q1 _ q3 _ q4;have o7:q4.obj (q.nobj+1)=[str t,ic ((t.length-r2.length:Nat):Int),sl id2 N2.length (N2.map str)]:=by rw[bd _ Ad6,a0 _ Ad6];exact ad
     refine A1 Ah (fun _=>True) [] [0,1,2,3,4,5,6] [] Ad9 (fun _ _ _ h=>h) ?_;intro κ hκ
     repeat' (first|refine Z1 ?_|(refine Z8 ?_;intro κ hκ)|(refine Z4 ?_;clear hκ κ)|(refine Z2 ?_ ?_<;>intro h ae<;>try exact Xp)|(refine Z6 ?_;intro idn qn ax az ah ab af aa)|refine Z3 ?_|exact⟨⟩|(apply hκ.out;clear hκ κ))
     first|exact⟨_,rfl,ids,F.length,N2.length,c,rfl,bf,fun _=>⟨F,N2,rfl,rfl,rfl,ai,by have:=ak.len;omega,am⟩⟩|exact⟨_,rfl,ids,F.length,N2.length,c,rfl,fun _=>⟨F,N2,rfl,rfl,rfl,ai,by have:=ak.len;omega,am⟩⟩
def Eo:List Int->List Int->Bool
 |x::t,y::u=>if x=y then Eo t u else decide (x<y)
 |_,_=>false
theorem rE {t u:List Int}{i:Nat}{x y:Int}(ht:t[i]?=some x)(hu:u[i]?=some y):Eo (t.drop i) (u.drop i)=if x=y then Eo (t.drop (i+1)) (u.drop (i+1))else decide (x<y):=by
 obtain⟨h1,e1⟩:=List.getElem?_eq_some_iff.1 ht;obtain⟨h2,e2⟩:=List.getElem?_eq_some_iff.1 hu;rw[Ach h1,Ach h2,e1,e2];rfl
theorem Nf:∀{t u:List Int},Eo t u=true->Eo u t=false
 |[],_,h=>by simp[Eo]at h
 |_::_,[],h=>by simp[Eo]at h
 |x::t,y::u,h=>by
  unfold Eo at h⊢;by_cases e:x=y
  ·subst e;simp only[if_true]at h⊢;exact Nf h
  ·rw[if_neg e]at h;rw[if_neg (fun e'=>e e'.symm)];simp at h⊢;omega
theorem Aao (a b c d e f:Int):Eo [d,e,f] [a,b,c]=false↔(a<d\/(a=d/\(b<e\/(b=e/\c<=f)))):=by
 simp only[Eo];by_cases e1:d=a
 ·rw[if_pos e1];by_cases e2:e=b
  ·rw[if_pos e2];by_cases e3:f=c
   ·rw[if_pos e3];simp;omega
   ·rw[if_neg e3];simp;omega
  ·rw[if_neg e2];simp;omega
 ·rw[if_neg e1];simp;omega
theorem Wj {t u v:List Int}(ht:t.length=3)(hu:u.length=3)(hv:v.length=3)(h1:Eo u t=false)(h2:Eo v u=false):Eo v t=false:=by
 match t,u,v,ht,hu,hv with
 |[a,b,c],[d,e,f],[g,h,i],_,_,_=>
  rw[Aao]at h1 h2⊢;omega
theorem vD {t u:List Int}(ht:t.length=3)(hu:u.length=3)(h1:Eo t u=false)(h2:Eo u t=false):t=u:=by
 match t,u,ht,hu with
 |[a,b,c],[d,e,f],_,_=>
  simp only[Eo]at h1 h2;by_cases e1:a=d
  ·subst e1;simp only[if_true]at h1 h2;by_cases e2:b=e
   ·subst e2;simp only[if_true]at h1 h2;by_cases e3:c=f
    ·rw[e3]
    ·rw[if_neg e3]at h1;rw[if_neg (fun e=>e3 e.symm)]at h2;simp at h1 h2;omega
   ·rw[if_neg e2]at h1;rw[if_neg (fun e=>e2 e.symm)]at h2;simp at h1 h2;omega
  ·rw[if_neg e1]at h1;rw[if_neg (fun e=>e1 e.symm)]at h2;simp at h1 h2;omega
theorem gW (t u:Bc)(ht:t.length=3)(hu:u.length=3)(q:St):ACalls Tryz.prog 142 [ag (icells t),ag (icells u)] q fun r q'=>r=sc (.bool (Eo t u))/\Keep q q':=by
 have f1:=C9 ht;have f3:=Dn ht;have f4:=Gz ht;have f5:=Ce t;have g1:=C9 hu;have g3:=Dn hu;have g4:=Gz hu;have g5:=Ce u;refine Z9 24 [.tmp 4] Tryz.func142 ?_
 repeat' (first|refine Z1 ?_|(refine Z8 ?_;intro κ hκ)|(refine Z4 ?_;clear hκ κ)|(refine Z2 ?_ ?_<;>intro h aa<;>try exact Xp)|refine Z7 ?_|exact⟨⟩|(apply hκ.out;clear hκ κ))
 refine Ad (fun m s q'=>∃i:Nat,m=3-i/\i<=3/\s 2=ptr q.nobj 0/\s 3=ptr (q.nobj+1) 0/\s 6=ic i/\q'=(q.new (icells t)).new (icells u)/\Aec (Eo t u=Eo (t.drop i) (u.drop i))) 3
  ⟨0,Ad6,Ad6,Ad8,Ad8,Ad8,rfl,by simp[Aec]⟩ ?_
 rintro m s q' ⟨i,rfl,hi,h2,h3,h6,rfl,hL⟩;by_cases ai:i<3
 ·have ac:t[i]?=some t[i]:=List.getElem?_eq_getElem Ad6;have ab:u[i]?=some u[i]:=List.getElem?_eq_getElem Ad6;have ah:=Iu ac;have af:=Iu ab;have HS:Aec _:=rE ac ab;generalize t[i]=x at ah HS;generalize u[i]=y at af HS;clear ac ab
  repeat' (first|refine Z1 ?_|(refine Z8 ?_;intro κ hκ)|(refine Z4 ?_;clear hκ κ)|(refine Z2 ?_ ?_<;>intro h aa<;>try exact Xp)|refine Z7 ?_|exact⟨⟩|(apply hκ.out;clear hκ κ))
  refine A1 Ah (fun _=>True) [] [0,1,2,3,4,5,6] [] Ad9 (fun _ _ _ h=>h) ?_;intro κ hκ
  repeat' (first|refine Z1 ?_|(refine Z8 ?_;intro κ hκ)|(refine Z4 ?_;clear hκ κ)|(refine Z2 ?_ ?_<;>intro h aa<;>try exact Xp)|refine Z7 ?_|exact⟨⟩|(apply hκ.out;clear hκ κ))
  ·refine A1 Ah (fun _=>True) [] [0,1,2,3,4,5,6,7] [] Ad9 (fun _ _ _ h=>h) ?_;intro κ hκ
   repeat' (first|refine Z1 ?_|(refine Z8 ?_;intro κ hκ)|(refine Z4 ?_;clear hκ κ)|(refine Z2 ?_ ?_<;>intro h aa<;>try exact Xp)|refine Z7 ?_|exact⟨⟩|(apply hκ.out;clear hκ κ))
   have ad:x≠y:=by simpa using h
   exact⟨_,rfl,by rw[hL.out,HS.out,if_neg ad],((Keep.refl q).new _).new _⟩
  ·have he:x=y:=by simpa using h
   have HL:Aec (Eo t u=Eo (t.drop (i+1)) (u.drop (i+1))):=by rw[Aec,hL.out,HS.out,if_pos he]
   refine⟨3-(i+1),Ad6,i+1,?_⟩
   ((repeat' with_reducible refine And.intro ?_ ?_)<;>first|exact Xq|exact (HL)|exact Xs)
 ·have ae:i=3:=Ad6;subst ae;have hz:Eo t u=false:=by rw[hL.out,Abp Ad6];rfl
  rw[hz]
  repeat' (first|refine Z1 ?_|(refine Z8 ?_;intro κ hκ)|(refine Z4 ?_;clear hκ κ)|(refine Z2 ?_ ?_<;>intro h aa<;>try exact Xp)|refine Z7 ?_|exact⟨⟩|(apply hκ.out;clear hκ κ))
  exact⟨_,rfl,rfl,((Keep.refl q).new _).new _⟩
def jn:List Int->Tx
 |[]=>[]
 |x::xs=>Lib.itoa x++xs.flatMap fun y=>44::Lib.itoa y
theorem vJ (l:List Int)(x:Int):jn (l++[x])=if l=[]then Lib.itoa x else jn l++44::Lib.itoa x:=by
 cases l with
 |nil=>simp[jn]
 |cons y l=>simp[jn]
def tups (t:Bc):List Int:=t.takeWhile (fun x=>decide (x≠ -1))
def Uk (t:Bc):Tx:=jn (tups t)
theorem Ru {t:Bc}{i:Nat}(h:∀x∈t.take i,x≠ -1)(he:t[i]?=some (-1)\/t.length<=i):tups t=t.take i:=by
 unfold tups
 conv=>lhs;rw[<-Adl i t]
 rw[List.takeWhile_append_of_pos (fun x hx=>by simpa using h x hx)];rcases he with he|he
 ·obtain⟨h1,h2⟩:=List.getElem?_eq_some_iff.1 he;rw[Ach h1,h2];simp
 ·rw[Abp he];simp
theorem Fx (x:Int)(h0:0<=x)(h1:x<=9999):(Lib.itoa x).length<=10:=by
 have key:∀(k u:Nat),u<10^(k+1)->(Lib.decDigits u).length<=k+1:=by
  intro k;induction k with
  |zero=>intro u hu;rw[Lib.decDigits,dif_pos (by simpa using hu)];simp
  |succ k ih=>
   intro u hu;rw[Lib.decDigits];split
   ·simp
   ·rw[Ab6];have:=ih (u / 10) (by rw[Nat.pow_succ]at hu;omega);simp;omega
 unfold Lib.itoa;rw[if_neg Ad6];have:=key 3 x.toNat (by simp;omega);omega
theorem Up (t:Bc)(ht:t.length=3)(hb:∀x∈t,-1<=x/\x<=9999)(q:St):ACalls Tryz.prog 87 [ag (icells t)] q fun r q'=>r=str (Uk t)/\Keep q q':=by
 have f1:=C9 ht;have f3:=Dn ht;have f4:=Gz ht;have f5:=Ce t;have au:({data:=#[44]}:ByteArray)=bs [44]:=rfl;have ak:=pU;refine Z9 24 [.tmp 2] Tryz.func87 ?_
 repeat' (first|refine Z1 ?_|(refine Z8 ?_;intro κ hκ)|(refine Z4 ?_;clear hκ κ)|(refine Z2 ?_ ?_<;>intro h aa<;>try exact Xp)|refine Z7 ?_|exact⟨⟩|(apply hκ.out;clear hκ κ))
 refine Ad (fun m s q'=>∃i:Nat,m=3-i/\i<=3/\s 3=str (jn (t.take i))/\s 6=ag (icells t)/\s 7=ic i/\Keep q q'/\(jn (t.take i)).length<=20*i/\Aec (∀x∈t.take i,x≠ -1)) 3
  ⟨0,Ad6,Ad6,by simp[upd,jn];try rfl,Ad7,Ad8,Xs,by simp[jn],by simp[Aec]⟩ ?_
 rintro m s q' ⟨i,rfl,hi,h3,h6,h7,hK,ah,hN⟩;by_cases am:i<3
 ·have ab:t[i]?=some t[i]:=List.getElem?_eq_getElem Ad6;have ae:=Iu ab;have af:=hb t[i] (Ac2 Ad6);generalize t[i]=x at ae ab af;by_cases hx:x= -1
  ·subst hx;have HR:Aec (Uk t=jn (t.take i)):=by rw[Aec,Uk,Ru hN.out (.inl ab)]
   clear ab
   repeat' (first|refine Z1 ?_|(refine Z8 ?_;intro κ hκ)|(refine Z4 ?_;clear hκ κ)|(refine Z2 ?_ ?_<;>intro h aa<;>try exact Xp)|refine Z7 ?_|exact⟨⟩|(apply hκ.out;clear hκ κ))
   first|exact⟨_,rfl,by rw[HR.out],hK⟩|exact⟨_,rfl,by rw[HR.out]⟩
  ·have aj:(x== -1)=false:=by simpa using hx
   have hI:=fun q=>Lc x Ad6 Ad6 q;have HT:Aec (jn (t.take (i+1))=if i=0 then Lib.itoa x else jn (t.take i)++44::Lib.itoa x):=by
    rw[Aec,Abv,ab,Ac5,vJ];by_cases e:i=0
    ·subst e;simp
    ·rw[if_neg e,if_neg (fun h=>by have:=congrArg List.length h;rw[Ab7,Ace]at this;omega)]
   have HN:Aec (∀y∈t.take (i+1),y≠ -1):=fun y hy=>by
    rw[Abv,ab,Ac5]at hy;rcases Aco.1 hy with h|h
    ·exact hN.out y h
    ·simp at h;subst h;exact hx
   by_cases e:i=0
   ·subst e;have HJ:Aec (jn (t.take 1)=Lib.itoa x):=by rw[Aec];have:=HT.out;simpa using this
    have ad:jn (t.take 0)=[]:=by simp[jn]
    rw[ad]at h3;have ap:(icells t).head?=some (ic x):=by rw[List.head?_eq_getElem?];exact ae
    have ac:=Fx x Ad6 Ad6;clear ab hx HT ad
    repeat' (first|refine Z1 ?_|(refine Z8 ?_;intro κ hκ)|(refine Z4 ?_;clear hκ κ)|(refine Z2 ?_ ?_<;>intro h aa<;>try exact Xp)|(refine Z5 ?_;refine Xi (hI _) ?_;rintro _ _ ⟨rfl,rfl⟩)|refine Z7 ?_|exact⟨⟩|(apply hκ.out;clear hκ κ))
    exact⟨3-(0+1),Ad6,1,rfl,Ad6,by rw[HJ.out],rfl,by rw[HJ.out];omega,HN⟩
   ·have ao:decide ((i:Int)>0)=true:=by simp;omega
    have HJ:Aec (jn (t.take (i+1))=jn (t.take i)++44::Lib.itoa x):=by have:=HT.out;rwa[if_neg e]at this
    have ac:=Fx x Ad6 Ad6;have ai:Aec ((jn (t.take (i+1))).length<=20*(i+1)):=by rw[Aec,HJ.out];simp;omega
    clear ab hx HT;generalize an:jn (t.take i)=js at h3 ah HJ
    repeat' (first|refine Z1 ?_|(refine Z8 ?_;intro κ hκ)|(refine Z4 ?_;clear hκ κ)|(refine Z2 ?_ ?_<;>intro h aa<;>try exact Xp)|(refine Z5 ?_;refine Xi (hI _) ?_;rintro _ _ ⟨rfl,rfl⟩)|refine Z7 ?_|exact⟨⟩|(apply hκ.out;clear hκ κ))
    exact⟨3-(i+1),Ad6,i+1,rfl,Ad6,by rw[HJ.out];simp[str],by simp,ai,HN⟩
 ·have ac:i=3:=Ad6;subst ac;have HR:Aec (Uk t=jn (t.take 3)):=by rw[Aec,Uk,Ru hN.out (.inr Ad6)]
  repeat' (first|refine Z1 ?_|(refine Z8 ?_;intro κ hκ)|(refine Z4 ?_;clear hκ κ)|(refine Z2 ?_ ?_<;>intro h aa<;>try exact Xp)|refine Z7 ?_|exact⟨⟩|(apply hκ.out;clear hκ κ))
  first|exact⟨_,rfl,by rw[HR.out],hK⟩|exact⟨_,rfl,by rw[HR.out]⟩
end Go.Proofs.YtmoeoppbmhfbpabGreatDoorJ
