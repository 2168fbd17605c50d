import Derived.Test.YtmoeoppbmhfbpabGreatDoorJEngQ
import Derived.Test.YtmoeoppbmhfbpabGreatDoorJFacts
set_option maxHeartbeats 16000000
set_option maxRecDepth 100000
set_option linter.all false
namespace Go.Proofs.YtmoeoppbmhfbpabGreatDoorJ
open Go.Abs
theorem iA {l:List Tm}{i:Nat}(hi:i<l.length)(b:Bool)(v:Int):lsp (Ac l) (i*2) [sc (.bool b),ic v]=Ac (l.set i (b,v)):=by
 have hl:=Cc l;rw[Gb _ _ _ (by rw[hl];simp;omega)];have e:l=l.take i++l[i]::l.drop (i+1):=by rw[<-Ach hi,Adl]
 have e2:l.set i (b,v)=l.take i++(b,v)::l.drop (i+1):=by
  rw[List.set_eq_take_append_cons_drop,if_pos hi]
 have aa:(Ac (l.take i)).length=i*2:=by
  rw[Cc,Ab7,Aca (Nat.le_of_lt hi)]
 have e3:Ac l=Ac (l.take i)++(Il l[i]++Ac (l.drop (i+1))):=by
  unfold Ac
  conv=>lhs;rw[e]
  rw[Adx,Acz]
 have e4:Ac (l.set i (b,v))=Ac (l.take i)++(Il (b,v)++Ac (l.drop (i+1))):=by
  rw[e2];simp[Ac]
 rw[e4,e3,<-aa,List.take_left,Ab8];congr 1;congr 1;rw[show (Ac (l.take i)).length+[sc (.bool b),ic v].length=(Ac (l.take i)).length+(Il l[i]).length by rfl,List.drop_length_add_append,List.drop_left]
theorem Kw {l:List Tm}{i:Nat}(hi:i<l.length)(b:Bool)(v:Int):((Ac l).set (i*2) (sc (.bool b))).set (i*2+1) (ic v)=Ac (l.set i (b,v)):=iA hi b v
theorem Fg (l:List Tm):(Ac l).all flat=true:=by
 rw[Abl];intro x hx;obtain⟨t,-,ht⟩:=Acn.1 hx;simp[Il]at ht;rcases ht with rfl|rfl<;>rfl
def pt0:List Tm:=List.replicate 52 (false,0)
theorem K6:ptZ.map cst1=Ac pt0:=rfl
theorem Ft {P:List Tm}(h:P.length=52):(Ac P).length=104:=by rw[Cc,h]
theorem Gm {P:List Tm}(h:P.length=52):List.take 104 (Ac P)=Ac P:=Acr (by rw[Ft h];exact Abf _)
theorem vC {l xs:List AV}(h:xs.length=l.length):lsp l 0 xs=xs:=by
 rw[Gb _ _ _ Ad6,Ab5,h,List.drop_length];simp
theorem Ly {P Q:List Tm}(hP:P.length=52)(hQ:Q.length=52):lsp (Ac P) 0 (Ac Q)=Ac Q:=vC (by rw[Ft hP,Ft hQ])
theorem Qq:(Ac pt0).length=104:=Ft (by simp[pt0])
def P8 (P:List Tm)(t:Tm):Tm:=if t.1=true then (P[t.2.toNat]?).getD t else t
def V3 (P:List Tm)(v t:Tm):List Tm:=P.map fun x=>if x=v then t else x
theorem eW {α:Type}{A P:List α}{k:Nat}{x:α}(hP:k<P.length)(hx:A[k]?=some x):(A.take k++P.drop k).set k x=A.take (k+1)++P.drop (k+1):=by
 have hk:=(List.getElem?_eq_some_iff.1 hx).1;rw[List.set_append,if_neg (by rw[Ab7];omega),Ab7,Aca Ad6,Nat.sub_self,Ach hP,List.set_cons_zero,Abv,hx];simp
def zE (t:Tm):Prop:=t.1=true->∃k:Nat,k<52/\t.2=(k:Int)
theorem R8 (P:List Tm)(hP:P.length=52)(t:Tm)(ht:zE t)(c:St):ACalls Tryz.prog 245 [ag (Ac P),ag [sc (.bool t.1),ic t.2]] c fun r c'=>r=ag [sc (.bool (P8 P t).1),ic (P8 P t).2]/\Keep c c':=by
 have hl:=Ft hP;have ac:=Fg P;obtain⟨b,v⟩:=t;cases b with
 |true=>
  obtain⟨k,hk,e⟩:=ht rfl;dsimp only at e;subst e;have aa:=List.getElem?_eq_getElem (show k<P.length by omega);obtain⟨r,hd⟩:=Ci aa;have HP:Aec (P8 P (true,(k:Int))=P[k]):=by
   rw[Aec,P8,if_pos rfl];simp only[Adu];rw[aa];rfl
  generalize P[k]=w at hd HP;clear aa;refine Z9 12 [.cell 4 151] Tryz.func245 ?_
  repeat' (first|refine Z1 ?_|(refine Z8 ?_;intro κ hκ)|(refine Z4 ?_;clear hκ κ)|(refine Z2 ?_ ?_<;>intro h ab<;>try exact Xp)|refine Z3 ?_|exact⟨⟩|(apply hκ.out;clear hκ κ))
  exact⟨_,rfl,by rw[HP.out],Xs⟩
 |false=>
  refine Z9 12 [.cell 4 151] Tryz.func245 ?_
  repeat' (first|refine Z1 ?_|(refine Z8 ?_;intro κ hκ)|(refine Z4 ?_;clear hκ κ)|(refine Z2 ?_ ?_<;>intro h ab<;>try exact Xp)|refine Z3 ?_|exact⟨⟩|(apply hκ.out;clear hκ κ))
  exact⟨_,rfl,rfl,Xs⟩
theorem bD (P:List Tm)(hP:P.length=52)(v t:Tm)(c:St):ACalls Tryz.prog 246 [ag (Ac P),ag [sc (.bool v.1),ic v.2],ag [sc (.bool t.1),ic t.2]] c fun r c'=>r=ag (Ac (V3 P v t))/\Keep c c':=by
 have az:=Qq;have a0:=Fg;have hz:=K6;obtain⟨v1,v2⟩:=v;obtain⟨t1,t2⟩:=t;refine Z9 21 [.cell 6 260] Tryz.func246 ?_
 repeat' (first|refine Z1 ?_|(refine Z8 ?_;intro κ hκ)|(refine Z4 ?_;clear hκ κ)|(refine Z2 ?_ ?_<;>intro h aa<;>try exact Xp)|refine Z3 ?_|exact⟨⟩|(apply hκ.out;clear hκ κ))
 refine Ad (fun m s c'=>∃(k:Nat) (Q:List Tm),m=52-k/\k<=52/\s 3=ptr c.nobj 0/\s 4=ptr (c.nobj+1) 0/\s 5=ptr (c.nobj+2) 0/\s 6=ptr (c.nobj+3) 0/\s 8=ic k/\Keep c c'/\c.nobj+3<c'.nobj/\c'.obj c.nobj=Ac Q/\c'.obj (c.nobj+1)=[sc (.bool v1),ic v2]/\c'.obj (c.nobj+2)=[sc (.bool t1),ic t2]/\c'.obj (c.nobj+3)=Ac pt0/\Q.length=52/\Aec (Q=(V3 P (v1,v2) (t1,t2)).take k++P.drop k)) 52
  ⟨0,P,Ad6,Ad6,Ad8,Ad8,Ad8,Ad8,Ad8,Xs,Aea,?_,?_,?_,?_,hP,by simp[Aec]⟩ ?_
 ·rw[Ae Aea,Ae Aea,Ae Aea,Ao]
 ·rw[Ae Aea,Ae Aea,Bu Aea Aea]
 ·rw[Ae Aea,Bu Aea Aea]
 ·rw[Bu Aea Aea]
 rintro m s c' ⟨k,Q,rfl,hk,h3,h4,h5,h6,h8,hK,aw,an,am,ak,aj,hQ,hA⟩;have ao:=hK.nobj;have ay:=Ft hQ;have ap:=Gm hQ;have av:=Ly (P:=pt0) (by simp[pt0]) hQ;by_cases ax:k<52
 ·have af:k<P.length:=Ad6;have ab:P[k]?=some P[k]:=List.getElem?_eq_getElem af;have hpl:(V3 P (v1,v2) (t1,t2)).length=52:=by simp[V3,hP]
  have ad:Q[k]?=some P[k]:=by
   rw[hA.out,List.getElem?_append_right (by rw[Ab7];omega),Ab7,Aca Ad6,Nat.sub_self,List.getElem?_drop,Abn,ab]
  have ac:Aec (Q.set k (if P[k]=(v1,v2)then (t1,t2)else P[k])=(V3 P (v1,v2) (t1,t2)).take (k+1)++P.drop (k+1)):=by
   have e1:(V3 P (v1,v2) (t1,t2))[k]?=some (if P[k]=(v1,v2)then (t1,t2)else P[k]):=by rw[V3,List.getElem?_map,ab];rfl
   rw[Aec,hA.out,eW af e1]
  obtain⟨r,hd⟩:=Ci ad;have au:=fun b v=>Kw (l:=Q) (i:=k) Ad6 b v;have ae:Aec (Q.set k P[k]=Q):=by
   have:=(List.getElem?_eq_some_iff.1 ad).2;rw[Aec,<-this,List.set_getElem_self]
  generalize P[k]=w at hd ac ae;obtain⟨w1,w2⟩:=w;have ah:∀x,(Q.set k x).length=52:=fun x=>by rw[Ady,hQ]
  clear ab ad hA
  repeat' (first|refine Z1 ?_|(refine Z8 ?_;intro κ hκ)|(refine Z4 ?_;clear hκ κ)|(refine Z2 ?_ ?_<;>intro h aa<;>try exact Xp)|refine Z3 ?_|exact⟨⟩|(apply hκ.out;clear hκ κ))
  refine Bq (Q:=fun e s' c''=>e= .normal/\s' 15=sc (.bool (w1==v1&&w2==v2))/\s' 3=ptr c.nobj 0/\s' 4=ptr (c.nobj+1) 0/\s' 5=ptr (c.nobj+2) 0/\s' 6=ptr (c.nobj+3) 0/\s' 7=ic k/\s' 8=ic k/\c''=c') ?_ ?_
  ·refine A3 Ah (fun _=>True) [] [0,1,2,3,4] 0 #[true,true,true,true,true] Ad9 (fun _ _ _ h=>by cases h.1) ?_;intro κ hκ;refine Z3 ?_;refine hκ.out _ ?_;clear hκ κ;exact A7 Ad9 ⟨rfl,Ad7,Ad7,Ad7,Ad7,Ad7,Ad7,Ad7,rfl⟩
  clear h3 h4 h5 h6 h8;rintro e s' c'' ⟨rfl,g15,g3,g4,g5,g6,g7,g8,rfl⟩;by_cases hw:(w1,w2)=(v1,v2)
  ·rw[if_pos hw]at ac;have hc:(w1==v1&&w2==v2)=true:=by simp at hw;simp[hw]
   rw[hc]at g15;clear hw;refine E9 g15 ?_
   repeat' (first|refine Z1 ?_|(refine Z8 ?_;intro κ hκ)|(refine Z4 ?_;clear hκ κ)|(refine Z2 ?_ ?_<;>intro h aa<;>try exact Xp)|refine Z3 ?_|exact⟨⟩|(apply hκ.out;clear hκ κ))
   refine⟨52-(k+1),Ad6,k+1,Q.set k (t1,t2),?_⟩
   ((repeat' with_reducible refine And.intro ?_ ?_)<;>first|exact Xq|exact (ac)|exact (ah _)|exact Xs)
  ·rw[if_neg hw,ae.out]at ac;have hc:(w1==v1&&w2==v2)=false:=by
    cases h:(w1==v1&&w2==v2)with
    |false=>rfl
    |true=>simp at h;exact absurd (by rw[h.1,h.2]) hw
   rw[hc]at g15;clear hw;refine D9 g15 ?_
   repeat' (first|refine Z1 ?_|(refine Z8 ?_;intro κ hκ)|(refine Z4 ?_;clear hκ κ)|(refine Z2 ?_ ?_<;>intro h aa<;>try exact Xp)|refine Z3 ?_|exact⟨⟩|(apply hκ.out;clear hκ κ))
   refine⟨52-(k+1),Ad6,k+1,Q,?_⟩
   ((repeat' with_reducible refine And.intro ?_ ?_)<;>first|exact Xq|exact (ac)|exact Xs)
 ·have ai:k=52:=Ad6;subst ai;have HQ:Aec (V3 P (v1,v2) (t1,t2)=Q):=by
   rw[Aec,hA.out,Acr (by simp[V3,hP]),Abp Ad6,Abz]
  clear hA
  repeat' (first|refine Z1 ?_|(refine Z8 ?_;intro κ hκ)|(refine Z4 ?_;clear hκ κ)|(refine Z2 ?_ ?_<;>intro h aa<;>try exact Xp)|refine Z3 ?_|exact⟨⟩|(apply hκ.out;clear hκ κ))
  exact⟨_,rfl,by rw[HQ.out],Xs⟩
def Ya (P:List Tm)(a:C6):C6:=⟨a.p,a.ts.map (P8 P)⟩
theorem V6 (P:List Tm)(hP:P.length=52)(a:C6)(ids:Nat)(ha:∀t∈a.ts,zE t)(hn:a.ts.length<=1000)(c:St):ACalls Tryz.prog 247 [ag (Ac P),ag [ic a.p,sl ids a.ts.length (Ac a.ts)]] c fun r c'=>(∃id,r=ag [ic a.p,sl id a.ts.length (Ac (a.ts.map (P8 P)))])/\Keep c c':=by
 have hl:=Ft hP;have bc:=Gm hP;have bd:=Fg P;have bb:=Cc a.ts;refine Z9 28 [.cell 4 122] Tryz.func247 ?_
 repeat' (first|refine Z1 ?_|(refine Z8 ?_;intro κ hκ)|(refine Z4 ?_;clear hκ κ)|(refine Z2 ?_ ?_<;>intro h ai<;>try exact Xp)|(refine Z6 ?_;intro idn cn ak am ad ab ac aa)|refine Z3 ?_|exact⟨⟩|(apply hκ.out;clear hκ κ))
 refine Ad (fun m s c'=>∃(k i3:Nat) (xs:List AV),m=a.ts.length-k/\k<=a.ts.length/\s 2=ptr c.nobj 0/\s 4=ptr (c.nobj+2) 0/\s 5=ptr (c.nobj+3) 0/\s 12=sl ids a.ts.length (Ac a.ts)/\s 13=ic a.ts.length/\s 14=ic k/\Keep c c'/\c.nobj+3<c'.nobj/\c'.obj c.nobj=Ac P/\c'.obj (c.nobj+2)=[ic 0,nilS]/\c'.obj (c.nobj+3)=[ic a.p,sl i3 k xs]/\Own c c' i3 k/\xs.length=k*2/\Aec (xs=Ac ((a.ts.take k).map (P8 P)))) a.ts.length
  ⟨0,1,[],Ad6,Ad6,by simp[upd,initS],Ad8,Ad8,Ad8,Ad8,rfl,?_,?_,?_,?_,?_,Own.nil _ _,by simp,by simp[Aec,Ac]⟩ ?_
 ·exact (((((Keep.refl c).new _).new _).new _).new _).put Ad6 _
 ·simp only[Ab,Aa];omega
 ·rw[Aj Ad6,Ae Aea,Ae Aea,Ae Aea,Ao]
 ·rw[Aj Ad6,Ae Aea,Bu Aea Aea]
 ·rw[show c.nobj+3=c.nobj+1+1+1 by omega,Ak]
 rintro m s c' ⟨k,i3,xs,rfl,hk,h2,h4,h5,a5,a4,a3,hK,ay,au,ap,ao,hO,ax,hX⟩;have ba:=hK.nobj;by_cases az:k<a.ts.length
 ·have ae:=List.getElem?_eq_getElem az;have hv:=ha a.ts[k] (Ac2 az);obtain⟨r2,a7⟩:=Ci ae;generalize a.ts[k]=w at a7 ae hv;have af:Aec (xs++Il (P8 P w)=Ac ((a.ts.take (k+1)).map (P8 P))):=by
   rw[Aec,Abv,ae,Ac5,Abx,List.map_singleton,Pw,<-hX.out]
  have an:=fun c=>R8 P hP w hv c;have aw:Aec _:=ax;clear ae hv hX;generalize P8 P w=w' at af an;obtain⟨w1,w2⟩:=w';dsimp only at an
  repeat' (first|refine Z1 ?_|(refine Z8 ?_;intro κ hκ)|(refine Z4 ?_;clear hκ κ)|(refine Z2 ?_ ?_<;>intro h ai<;>try exact Xp)|(refine Z6 ?_;intro idn cn ak am ad ab ac aa)|refine Z3 ?_|exact⟨⟩|(apply hκ.out;clear hκ κ))
  have a0:Keep c ((c'.new [sc (.bool false),ic 0]).put c'.nobj [sc (.bool w.1),ic w.2]):=(hK.new _).put hK.nobj _;have kv:∀p,p<c'.nobj->((c'.new [sc (.bool false),ic 0]).put c'.nobj [sc (.bool w.1),ic w.2]).obj p=c'.obj p:=fun p hp=>by rw[Aj Ad6,Ae Ad6]
  refine Bq (Q:=fun e s' c''=>e= .normal/\s' 2=ptr c.nobj 0/\s' 4=ptr (c.nobj+2) 0/\s' 5=ptr (c.nobj+3) 0/\s' 12=sl ids a.ts.length (Ac a.ts)/\s' 13=ic a.ts.length/\s' 14=ic k/\Keep c c''/\c.nobj+3<c''.nobj/\c''.obj c.nobj=Ac P/\c''.obj (c.nobj+2)=[ic 0,nilS]/\∃idn,c''.obj (c.nobj+3)=[ic a.p,sl idn (k+1) (xs++[sc (.bool w1),ic w2])]/\Own c c'' idn (k+1)) ?_ ?_
  ·refine A3 Ah (fun _=>True) [8] [0,1,2,3] 5 #[true,true,true,true,false,false,false,false,false] Ad9 (fun _ _ _ h=>by cases h.1) ?_;intro κ hκ;refine Z3 ?_;refine hκ.out _ ?_;clear hκ κ;refine Am (i:=4) Ad9 ?_;refine Ar ?_;intro κ hκ;refine Z3 ?_;refine ACalls.mono (an _) ?_;rintro _ c5 ⟨rfl,ah⟩;refine Z3 ?_;refine hκ.out _ _ ⟨Aq ah,?_⟩;clear hκ κ;have av:=ah.nobj;have aj:=ah.obj;simp only[Ab,Aa]at av aj;have a9:=a0.trans ah;have a8:=Own.keep (Own.put (Own.new hO [sc (.bool false),ic 0]) c'.nobj [sc (.bool w.1),ic w.2]) ah;refine Am (i:=5) Ad9 ?_;refine Ar ?_;intro κ hκ;refine Z3 ?_;refine hκ.out _ _ ⟨Aq (ah.lay 1),?_⟩;clear hκ κ;refine Am (i:=6) Ad9 ?_;refine Ar ?_;intro κ hκ;refine Z3 ?_;refine Bn (by first|exact Ee) a9 a8 (by decide) (by rfl) ax (by rfl) (by rfl) (by decide) Ad6 Ad6 ?_;intro idn cn ak am ad ab ac aa;refine Z3 ?_;refine hκ.out _ _ ⟨fun _ o ho _=>by rw[ac];exact ah.ver o ho,?_⟩;clear hκ κ;refine Am (i:=7) Ad9 ?_;refine Ar ?_;intro κ hκ;refine Z3 ?_;refine hκ.out _ _ ⟨fun _ o ho _=>by rw[ac];exact ah.ver o ho,?_⟩;clear hκ κ;have en:∀p,p<c'.nobj->cn.obj p=c'.obj p:=fun p hp=>by rw[ad,aj _ Ad6,kv _ hp]
   have en1:cn.obj (c.nobj+3)=[ic a.p,sl i3 k xs]:=by rw[en _ ay,ao]
   refine Am (i:=8) Ad9 ?_;refine Ar ?_;intro κ hκ;refine Z3 ?_;refine hκ.out _ _ ⟨Bt rfl,?_⟩;clear hκ κ;refine A7 Ad9 ⟨rfl,?_⟩;simp only[upd,↓reduceIte,Nat.reduceEqDiff,h2,h4,h5,a5,a4,a3,true_and];refine⟨am.put Ad6 _,by simp only[Ab];omega,?_,?_,idn,?_,Own.put ak _ _⟩
   ·rw[Aj Ad6,en _ Ad6,au]
   ·rw[Aj Ad6,en _ Ad6,ap]
   ·rw[Ak]
  ·clear kv a0 hO ax au ap ao ay an h2 h4 h5 a5 a4 a3;rintro e s' c'' ⟨rfl,g2,g4,g5,g12,g13,g14,hK,ay,au,ap,idn,ao,hO⟩
   repeat' (first|refine Z1 ?_|(refine Z8 ?_;intro κ hκ)|(refine Z4 ?_;clear hκ κ)|(refine Z2 ?_ ?_<;>intro h ai<;>try exact Xp)|(refine Z6 ?_;intro idn cn ak am ad ab ac aa)|refine Z3 ?_|exact⟨⟩|(apply hκ.out;clear hκ κ))
   refine⟨a.ts.length-(k+1),Ad6,k+1,idn,xs++[sc (.bool w1),ic w2],?_⟩
   ((repeat' with_reducible refine And.intro ?_ ?_)<;>first|exact Xq|exact (af)|exact (by rw[Ab6,aw.out];simp;omega)|exact Xs)
 ·have a6:k=a.ts.length:=Ad6;subst a6;rw[Abt]at hX
  repeat' (first|refine Z1 ?_|(refine Z8 ?_;intro κ hκ)|(refine Z4 ?_;clear hκ κ)|(refine Z2 ?_ ?_<;>intro h ai<;>try exact Xp)|(refine Z6 ?_;intro idn cn ak am ad ab ac aa)|refine Z3 ?_|exact⟨⟩|(apply hκ.out;clear hκ κ))
  exact⟨_,rfl,⟨i3,by rw[hX.out]⟩,hK.put Ad6 _⟩
end Go.Proofs.YtmoeoppbmhfbpabGreatDoorJ
