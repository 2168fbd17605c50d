import Derived.Test.YtmoeoppbmhfbpabGreatDoorHTxtB
import Derived.Test.YtmoeoppbmhfbpabGreatDoorHFacts
import Derived.Test.YtmoeoppbmhfbpabGreatDoorHEngU
import Derived.Test.YtmoeoppbmhfbpabGreatDoorHSpaE
set_option linter.all false
namespace Go.Proofs.YtmoeoppbmhfbpabGreatDoorH
set_option maxHeartbeats 32000000
open Go.Abs
set_option maxRecDepth 100000
def Mg (t:Tx):Bool:=decide (t.head?=some 63)
theorem Nq (t:Tx)(y:St):ACalls Tryz.prog 41 [str t] y fun r y'=>r=sc (.bool (Mg t))/\y'=y:=by
 cases t with
 |nil=>
  have he:(([]:Tx) !=[])=false:=rfl;refine Z9 10 [.tmp 2] Tryz.func41 ?_
  repeat' (first|refine Z1 ?_|(refine Z8 ?_;intro κ hκ)|(refine Z4 ?_;clear hκ κ)|(refine Z2 ?_ ?_<;>intro h aa<;>try exact Xp)|refine Z3 ?_|exact⟨⟩|(apply hκ.out;clear hκ κ))
  exact⟨_,rfl,rfl⟩
 |cons c r=>
  have he:((c::r:Tx) !=[])=true:=rfl;have ab:((c::r:Tx)==[])=false:=rfl;have hg:(c::r:Tx)[0]?=some c:=rfl;have HO:Ad8 (Mg (c::r)=((c.toNat:Int)==63)):=by
   rw[Ad8,show (63:Int)=((63:UInt8).toNat:Int)from rfl,Qv,Mg];simp
  generalize hb:((c.toNat:Int)==63)=b at HO;cases b with
  |true=>
   refine Z9 10 [.tmp 2] Tryz.func41 ?_
   repeat' (first|refine Z1 ?_|(refine Z8 ?_;intro κ hκ)|(refine Z4 ?_;clear hκ κ)|(refine Z2 ?_ ?_<;>intro h aa<;>try exact Xp)|refine Z3 ?_|exact⟨⟩|(apply hκ.out;clear hκ κ))
   first|exact⟨_,rfl,by rw[HO.out]⟩|exact⟨_,rfl,by rw[HO.out],rfl⟩
  |false=>
   refine Z9 10 [.tmp 2] Tryz.func41 ?_
   repeat' (first|refine Z1 ?_|(refine Z8 ?_;intro κ hκ)|(refine Z4 ?_;clear hκ κ)|(refine Z2 ?_ ?_<;>intro h aa<;>try exact Xp)|refine Z3 ?_|exact⟨⟩|(apply hκ.out;clear hκ κ))
   first|exact⟨_,rfl,by rw[HO.out]⟩|exact⟨_,rfl,by rw[HO.out],rfl⟩
theorem cP (c:Int)(y:St):ACalls Tryz.prog 76 [sc (.int .u8 c)] y fun x y'=>x=sc (.bool (A5 c))/\y'=y:=by
 refine Z9 9 [.tmp 2] Tryz.func76 ?_
 repeat' (first|refine Z1 ?_|(refine Z8 ?_;intro κ hκ)|(refine Z4 ?_;clear hκ κ)|(refine Z2 ?_ ?_<;>intro h aa<;>try exact Xp)|refine Z3 ?_|exact⟨⟩|(apply hκ.out;clear hκ κ))
 all_goals exact⟨_,rfl,by simp[A5, *]⟩
def Po (x:List Tx×Tx)(c:UInt8):List Tx×Tx:=if A5 c.toNat=true then (x.1,x.2++[c])else (if x.2=[]then x.1 else x.1++[x.2],[])
def F1 (t:Tx):List Tx:=(t.foldl Po ([],[])).1
theorem V6 {x:List Tx×Tx}{c:UInt8}(h:A5 c.toNat=true):Po x c=(x.1,x.2++[c]):=if_pos h
theorem Di {x:List Tx×Tx}{c:UInt8}(h:A5 c.toNat=false):Po x c=(if x.2=[]then x.1 else x.1++[x.2],[]):=if_neg (by simp[h])
theorem X7:∀(t:Tx) (d:List Tx) (u:Tx),(∀b∈t,A5 b.toNat=true)->t.foldl Po (d,u)=(d,u++t)
 |[],d,u,_=>by simp
 |c::t,d,u,h=>by
  rw[Abm,V6 (h c (by simp)),X7 t _ _ fun b hb=>h b (by simp[hb])];simp
theorem X6:∀(t:Tx) (d:List Tx),(∀b∈t,A5 b.toNat=false)->t.foldl Po (d,[])=(d,[])
 |[],d,_=>rfl
 |c::t,d,h=>by
  rw[Abm,Di (h c (by simp)),if_pos rfl,X6 t _ fun b hb=>h b (by simp[hb])]
theorem fD {t:Tx}(h:Ia t){b:UInt8}(hb:b∈t):A5 b.toNat=false:=by
 rcases h.2 b hb with h|h<;>simp only[A5,A3,Ax,Abj,Adx,Bool.and_eq_false_iff,decide_eq_false_iff_not]at h⊢ <;>omega
theorem fU {a:RAtom}(h:C9 a)(d:List Tx):(Bg a).foldl Po (d,[])=(d++[a.pred],[]):=by
 have e:Bg a=(if a.nt=true then [33]else [])++(a.pred++(40::(A2 a.terms++[41]))):=by simp[Bg,A9]
 have h1:∀b∈(if a.nt=true then [33]else []:Tx),A5 b.toNat=false:=fun b hb=>by
  split at hb
  ·simp at hb;subst hb;decide
  ·cases hb
 have h2:∀b∈A2 a.terms++[41],A5 b.toNat=false:=fun b hb=>by
  rcases Ack.1 hb with hb|hb
  ·rcases L9 hb with rfl|⟨t,ht,hb⟩
   ·decide
   ·exact fD (h.2.2.2 t ht) hb
  ·simp at hb;subst hb;decide
 rw[e,Adh,X6 (if a.nt=true then [33]else []) _ h1,Adh,X7 a.pred _ _ h.1.2,Aci,Abm,Di (by decide),if_neg h.1.1,X6 _ _ h2]
theorem kC:∀(ls:List RAtom) (d:List Tx),(∀a∈ls,C9 a)->(A8 (ls.map Bg)).foldl Po (d,[])=(d++ls.map (·.pred),[])
 |[],d,_=>by simp[A8]
 |a::ls,d,h=>by
  have e:A8 ((a::ls).map Bg)=44::(Bg a++A8 (ls.map Bg)):=by simp[A8]
  rw[e,Abm,Di (by decide),if_pos rfl,Adh,fU (h a (by simp)),kC ls _ fun b hb=>h b (by simp[hb])];simp
theorem kD {x:RItem}(h:Bv x)(d:List Tx):(A0 x++[46]).foldl Po (d,[])=(d++(x.head.pred::x.body.map (·.pred)),[]):=by
 cases ho:x.out with
 |true=>
  obtain⟨-,-,h3⟩:=h.2.1 ho;rw[A0,if_pos ho,Acg,Abm,Di (by decide),if_pos rfl,Adh,X7 _ _ _ h.1.2,h3];show Po (d,[]++x.head.pred) 46=_;rw[Di (by decide),if_neg (by simpa using h.1.1)];simp
 |false=>
  obtain⟨h1,h2,h3,h4⟩:=h.2.2 ho;have e0:A9 x.head=Bg x.head:=by simp[Bg,h2]
  rw[A0,if_neg (by simp[ho]),Cw,e0,Ab4,Adh,fU h1];split
  ·rename_i hb;rw[hb];show Po (d++[x.head.pred],[]) 46=_;rw[Di (by decide),if_pos rfl];simp
  ·rename_i hb;obtain⟨l,ls,e⟩:=Ado hb;rw[e,Abx,A2];rw[e]at h4;have e2:(58::45::(Bg l++A8 (ls.map Bg))++[46]:Tx)=58::45::(Bg l++(A8 (ls.map Bg)++[46])):=by simp
   rw[e2,Abm,Di (by decide),if_pos rfl,Abm,Di (by decide),if_pos rfl,Adh,fU (h4 l (by simp)),Adh,kC _ _ fun a ha=>h4 a (by simp[ha])];show Po _ 46=_;rw[Di (by decide),if_pos rfl];simp
theorem bG {x:RItem}(h:Bv x):F1 (A0 x++[46])=x.head.pred::x.body.map (·.pred):=by
 rw[F1,kD h];rfl
theorem F5 (t:Tx)(ht:t.length<=100000)(y:St):ACalls Tryz.prog 45 [str t] y fun r y'=>(∃id,r=sl id (F1 t).length ((F1 t).map str))/\Keep y y':=by
 have ah:=fun c y=>cP c y;refine Z9 30 [.tmp 2] Tryz.func45 ?_
 repeat' (first|refine Z1 ?_|(refine Z8 ?_;intro κ hκ)|(refine Z4 ?_;clear hκ κ)|(refine Z2 ?_ ?_<;>intro h ad<;>try exact Xp)|(refine Z6 ?_;intro idn yn ai aj af ab ae aa)|refine Z3 ?_|exact⟨⟩|(apply hκ.out;clear hκ κ))
 refine Ad (fun m s y'=>∃(i f id:Nat) (d:List Tx),m=t.length-i/\i<=t.length/\f<=i/\s 0=str t/\s 3=sl id d.length (d.map str)/\s 4=sc (.int .i64 f)/\s 5=sc (.int .i64 i)/\Keep y y'/\Own y y' id d.length/\d.length<=i/\Ad8 ((t.take i).foldl Po ([],[])=(d,(t.drop f).take (i-f)))) t.length
  ⟨0,0,1,[],Ad2,Ad2,Ad2,rfl,rfl,rfl,rfl,Keep.refl _,Own.nil _ _,by simp,by simp[Ad8]⟩ ?_
 rintro m s y' ⟨i,f,id,d,rfl,hi,hf,h0,h3,h4,h5,hK,hO,ar,hF⟩;by_cases am:i<t.length
 ·have ac:=List.getElem?_eq_getElem am;generalize t[i]=c at ac;have ah:=ah c.toNat;cases hc:A5 c.toNat with
  |true=>
   rw[hc]at ah;have HF:Ad8 ((t.take (i+1)).foldl Po ([],[])=(d,(t.drop f).take (i+1-f))):=by
    rw[Ad8,Ha ac,hF.out,Tq hf ac,V6 hc]
   clear hF hc
   repeat' (first|refine Z1 ?_|(refine Z8 ?_;intro κ hκ)|(refine Z4 ?_;clear hκ κ)|(refine Z2 ?_ ?_<;>intro h ad<;>try exact Xp)|(refine Z6 ?_;intro idn yn ai aj af ab ae aa)|(refine Z5 ?_;refine Xi (ah _) ?_;rintro _ _ ⟨rfl,rfl⟩)|refine Z3 ?_|exact⟨⟩|(apply hκ.out;clear hκ κ))
   refine⟨t.length-(i+1),Ad2,i+1,f,id,d,?_⟩
   ((repeat' with_reducible refine And.intro ?_ ?_)<;>first|exact Xq|exact (HF)|exact Xs)
  |false=>
   rw[hc]at ah;by_cases ap:f<i
   ·have HF:Ad8 ((t.take (i+1)).foldl Po ([],[])=(d++[(t.drop f).take (i-f)],(t.drop (i+1)).take (i+1-(i+1)))):=by
     rw[Ad8,Ha ac,hF.out,Qu,Di hc,if_neg];intro e;have:=congrArg List.length e;simp at this;omega
    have ao:decide ((f:Int)<(i:Int))=true:=by simp;omega
    clear hF hc
    repeat' (first|refine Z1 ?_|(refine Z8 ?_;intro κ hκ)|(refine Z4 ?_;clear hκ κ)|(refine Z2 ?_ ?_<;>intro h ad<;>try exact Xp)|(refine Z6 ?_;intro idn yn ai aj af ab ae aa)|(refine Z5 ?_;refine Xi (ah _) ?_;rintro _ _ ⟨rfl,rfl⟩)|refine Z3 ?_|exact⟨⟩|(apply hκ.out;clear hκ κ))
    refine⟨t.length-(i+1),Ad2,i+1,i+1,idn,d++[(t.drop f).take (i-f)],?_⟩
    ((repeat' with_reducible refine And.intro ?_ ?_)<;>first|exact Xq|exact (HF)|exact ((by simpa using ai))|exact Xs)
   ·have ak:f=i:=Ad2;have HF:Ad8 ((t.take (i+1)).foldl Po ([],[])=(d,(t.drop (i+1)).take (i+1-(i+1)))):=by
     rw[Ad8,Ha ac,hF.out,Qu,Di hc,if_pos (by rw[ak];exact Qu t i)]
    have ao:decide ((f:Int)<(i:Int))=false:=by simp;omega
    clear hF hc ak
    repeat' (first|refine Z1 ?_|(refine Z8 ?_;intro κ hκ)|(refine Z4 ?_;clear hκ κ)|(refine Z2 ?_ ?_<;>intro h ad<;>try exact Xp)|(refine Z6 ?_;intro idn yn ai aj af ab ae aa)|(refine Z5 ?_;refine Xi (ah _) ?_;rintro _ _ ⟨rfl,rfl⟩)|refine Z3 ?_|exact⟨⟩|(apply hκ.out;clear hκ κ))
    refine⟨t.length-(i+1),Ad2,i+1,i+1,id,d,?_⟩
    ((repeat' with_reducible refine And.intro ?_ ?_)<;>first|exact Xq|exact (HF)|exact Xs)
 ·have an:i=t.length:=Ad2;have HP:Ad8 (F1 t=d):=by
   have:=hF.out;rw[an,Abn]at this;rw[Ad8,F1,this]
  clear hF ah
  repeat' (first|refine Z1 ?_|(refine Z8 ?_;intro κ hκ)|(refine Z4 ?_;clear hκ κ)|(refine Z2 ?_ ?_<;>intro h ad<;>try exact Xp)|(refine Z6 ?_;intro idn yn ai aj af ab ae aa)|refine Z3 ?_|exact⟨⟩|(apply hκ.out;clear hκ κ))
  first|exact⟨_,rfl,⟨id,by rw[HP.out]⟩,hK⟩|exact⟨_,rfl,id,by rw[HP.out]⟩
def nL (t:Tx):Tx:=(F1 t).head?.getD []
theorem gJ (t:Tx)(ht:t.length<=100000)(hl:(F1 t).length<=100000)(y:St):ACalls Tryz.prog 77 [str t] y fun r y'=>r=str (nL t)/\Keep y y':=by
 have hP:=fun y=>F5 t ht y;unfold nL;generalize F1 t=ps at hP hl;cases ps with
 |nil=>
  have hz:((([]:List Tx).length:Int)==0)=true:=rfl;refine Z9 12 [.tmp 2] Tryz.func77 ?_
  repeat' (first|refine Z1 ?_|(refine Z8 ?_;intro κ hκ)|(refine Z4 ?_;clear hκ κ)|(refine Z2 ?_ ?_<;>intro h aa<;>try exact Xp)|(refine Z5 ?_;refine Xi (hP _) ?_;rintro _ _ ⟨⟨id1,rfl⟩,ab⟩)|refine Z3 ?_|exact⟨⟩|(apply hκ.out;clear hκ κ))
  first|exact⟨_,rfl,rfl,Xs⟩|exact⟨_,rfl,rfl⟩
 |cons p ps=>
  have hz:(((p::ps).length:Int)==0)=false:=by simp;omega
  have ac:(((ps.length+1:Nat):Int)==0)=false:=by simp;omega
  refine Z9 12 [.tmp 2] Tryz.func77 ?_
  repeat' (first|refine Z1 ?_|(refine Z8 ?_;intro κ hκ)|(refine Z4 ?_;clear hκ κ)|(refine Z2 ?_ ?_<;>intro h aa<;>try exact Xp)|(refine Z5 ?_;refine Xi (hP _) ?_;rintro _ _ ⟨⟨id1,rfl⟩,ab⟩)|refine Z3 ?_|exact⟨⟩|(apply hκ.out;clear hκ κ))
  first|exact⟨_,rfl,rfl,Xs⟩|exact⟨_,rfl,rfl⟩
abbrev tZ:=Nat×(Nat->Nat)
def Mv (st:tZ)(c:UInt8):tZ:=if A3 c.toNat=true/\st.2 (c.toNat-65)=0 then (st.1+1,fun v=>if v=c.toNat-65 then st.1+1 else st.2 v)else st
def Mt (st:tZ)(c d:UInt8):Prop:=(A3 c.toNat=false->d=c)/\(A3 c.toNat=true->(d.toNat:Int)=64+((Mv st c).2 (c.toNat-65):Nat))
def tY (acc:List Tx)(st:tZ):Prop:=st.1=acc.length/\∀v,v<26->st.2 v=if [Cl (v:Int)]∈acc then acc.idxOf [Cl (v:Int)]+1 else 0
def RnOk (p q:Tx)(acc acc':List Tx):Prop:=p.length=q.length/\∀st,tY acc st->tY acc' (p.foldl Mv st)/\∀i c,p[i]?=some c->∃d,q[i]?=some d/\Mt ((p.take i).foldl Mv st) c d
theorem RnOk.append {p1 q1 p2 q2:Tx}{a b c:List Tx}(h:RnOk p1 q1 a b)(g:RnOk p2 q2 b c):RnOk (p1++p2) (q1++q2) a c:=by
 refine⟨by simp[h.1,g.1],fun st hs=>?_⟩;obtain⟨h1,h2⟩:=h.2 st hs;obtain⟨g1,g2⟩:=g.2 _ h1;refine⟨by rw[Adh];exact g1,fun i d hd=>?_⟩;by_cases hi:i<p1.length
 ·rw[List.getElem?_append_left hi]at hd;obtain⟨e,he,hm⟩:=h2 i d hd;exact⟨e,by rw[List.getElem?_append_left (by rw[<-h.1];exact hi)];exact he,by rw[List.take_append_of_le_length Ad2];exact hm⟩
 ·rw[List.getElem?_append_right Ad2]at hd;obtain⟨e,he,hm⟩:=g2 _ d hd;refine⟨e,by rw[List.getElem?_append_right (by rw[<-h.1];omega),<-h.1];exact he,?_⟩;rw[List.take_append,Acl Ad2,Adh];exact hm
theorem RnOk.nil (a:List Tx):RnOk [] [] a a:=⟨rfl,fun st hs=>⟨hs,fun i c h=>by simp at h⟩⟩
theorem RnOk.one {c:UInt8}(h:A3 c.toNat=false)(a:List Tx):RnOk [c] [c] a a:=by
 refine⟨rfl,fun st hs=>⟨?_,fun i d hd=>?_⟩⟩
 ·show tY a (Mv st c);rw[Mv,if_neg (by simp[h])];exact hs
 ·match i,hd with
  |0,hd=>simp at hd;subst hd;exact⟨c,rfl,fun _=>rfl,fun h'=>by rw[h]at h';cases h'⟩
  |i+1,hd=>simp at hd
theorem RnOk.plain:∀{t:Tx},(∀c∈t,A3 c.toNat=false)->∀a,RnOk t t a a
 |[],_,a=>RnOk.nil a
 |c::t,h,a=>RnOk.append (RnOk.one (h c (by simp)) a) (RnOk.plain (fun d hd=>h d (by simp[hd])) a)
theorem kB {acc L:List Tx}(h:acc<+:L){t:Tx}(ht:t∈acc):L.idxOf t=acc.idxOf t:=by
 exact Nt h ht
theorem rI (acc:List Tx)(t:Tx):acc<+:Dd acc t:=by
 unfold Dd;split
 ·exact List.prefix_append _ _
 ·exact Acw _
theorem Iy:∀(ts acc:List Tx),acc<+:Dc acc ts
 |[],acc=>Acw _
 |t::ts,acc=>(rI acc t).trans (Iy ts (Dd acc t))
theorem vU {i j:Nat}(hi:i<26)(hj:j<26)(h:Cl (i:Int)=Cl (j:Int)):i=j:=by
 have h1:=Dk (k:=(i:Int)) Ad2 Ad2;have h2:=Dk (k:=(j:Int)) Ad2 Ad2;rw[h]at h1;omega
theorem Qp {v:Nat}(hv:v<26):(Cl (v:Int)).toNat-65=v:=by have:=Dk (k:=(v:Int)) Ad2 Ad2;omega
theorem yL {acc:List Tx}{v:Nat}(hv:v<26){st:tZ}(hs:tY acc st)(hm:[Cl (v:Int)]∈acc):Mv st (Cl (v:Int))=st/\st.2 v=acc.idxOf [Cl (v:Int)]+1:=by
 have aa:=hs.2 v hv;rw[if_pos hm]at aa;refine⟨?_,aa⟩;unfold Mv;rw[if_neg];rintro⟨-,h⟩;rw[Qp hv,aa]at h;cases h
theorem yM {acc:List Tx}{v:Nat}(hv:v<26){st:tZ}(hs:tY acc st)(hm:[Cl (v:Int)]∉acc):tY (acc++[[Cl (v:Int)]]) (Mv st (Cl (v:Int)))/\(Mv st (Cl (v:Int))).2 v=acc.length+1:=by
 have ac:=hs.2 v hv;rw[if_neg hm]at ac;have e:Mv st (Cl (v:Int))=(st.1+1,fun w=>if w=v then st.1+1 else st.2 w):=by
  unfold Mv;rw[if_pos ⟨C5 Ad2 Ad2,by rw[Qp hv];exact ac⟩,Qp hv]
 rw[e];refine⟨⟨by rw[Ab2,hs.1];rfl,fun w hw=>?_⟩,by rw[<-hs.1];exact if_pos rfl⟩;show (if w=v then st.1+1 else st.2 w)=_;by_cases ab:w=v
 ·subst ab;rw[if_pos rfl,if_pos (List.mem_append_right _ (Ac3.2 rfl)),List.idxOf_append,if_neg hm,hs.1,List.idxOf_cons_self];omega
 ·have hne:[Cl (w:Int)]≠[Cl (v:Int)]:=fun e=>ab (vU hw hv (List.cons.inj e).1);rw[if_neg ab,hs.2 w hw];by_cases aa:[Cl (w:Int)]∈acc
  ·rw[if_pos aa,if_pos (Adp _ aa),Nt (List.prefix_append _ _) aa]
  ·rw[if_neg aa,if_neg];intro h;rcases Ack.1 h with h|h
   ·exact aa h
   ·exact hne (Ac3.1 h)
theorem yN {L acc:List Tx}{v:Nat}(hv:v<26)(hp:Dd acc [Cl (v:Int)]<+:L){st:tZ}(hs:tY acc st):tY (Dd acc [Cl (v:Int)]) (Mv st (Cl (v:Int)))/\(Mv st (Cl (v:Int))).2 v=L.idxOf [Cl (v:Int)]+1:=by
 have ab:Af [Cl (v:Int)]=true:=C5 (k:=(v:Int)) Ad2 Ad2;by_cases hm:[Cl (v:Int)]∈acc
 ·have aa:Dd acc [Cl (v:Int)]=acc:=if_neg (fun h=>h.2 hm);obtain⟨h1,h2⟩:=yL hv hs hm;rw[aa]at hp⊢;rw[h1,h2,kB hp hm];exact⟨hs,rfl⟩
 ·have aa:Dd acc [Cl (v:Int)]=acc++[[Cl (v:Int)]]:=if_pos ⟨ab,hm⟩;obtain⟨h1,h2⟩:=yM hv hs hm;rw[aa]at hp⊢;rw[h2,kB hp (List.mem_append_right _ (Ac3.2 rfl)),List.idxOf_append,if_neg hm,List.idxOf_cons_self];exact⟨h1,Ad2⟩
theorem yK {c d:UInt8}{acc acc':List Tx}(h:∀st,tY acc st->tY acc' (Mv st c)/\Mt st c d):RnOk [c] [d] acc acc':=by
 refine⟨rfl,fun st hs=>⟨(h st hs).1,fun i b hb=>?_⟩⟩;cases i with
 |zero=>
  have e:c=b:=by simpa using hb
  subst e;exact⟨d,rfl,(h st hs).2⟩
 |succ i=>simp at hb
theorem RnOk.var {L acc:List Tx}{v:Nat}(hv:v<26)(hp:Dd acc [Cl (v:Int)]<+:L)(hL:L.length<=26):RnOk [Cl (v:Int)] (Gq L [Cl (v:Int)]) acc (Dd acc [Cl (v:Int)]):=by
 have ae:=C5 (k:=(v:Int)) Ad2 Ad2;have af:Af [Cl (v:Int)]=true:=ae;have ad:[Cl (v:Int)]∈Dd acc [Cl (v:Int)]:=S4 (.inr ⟨rfl,af⟩);have ah:=hp.subset ad;have aj:=Ac1 ah;have ai:Gq L [Cl (v:Int)]=[Cl ((L.idxOf [Cl (v:Int)]:Nat):Int)]:=by
  unfold Gq Bs;rw[if_pos af,if_pos ah]
 rw[ai];have ac:=Qp hv;have aa:=fun st hs=>yN (st:=st) hv hp hs;have ab:=Dk (k:=((L.idxOf [Cl (v:Int)]:Nat):Int)) Ad2 Ad2;generalize L.idxOf [Cl (v:Int)]=ix at aa ab;generalize Cl (ix:Int)=d at ab;generalize Dd acc [Cl (v:Int)]=acc' at aa;generalize Cl (v:Int)=c at ac aa ae;refine yK fun st hs=>?_;obtain⟨k1,k2⟩:=aa st hs;refine⟨k1,fun h=>?_,fun _=>?_⟩
 ·rw[ae]at h;cases h
 ·rw[ac,k2,ab];omega
theorem RnOk.term {L acc:List Tx}{t:Tx}(ht:UT t)(hp:Dd acc t<+:L)(hL:L.length<=26):RnOk t (Gq L t) acc (Dd acc t):=by
 cases hv:Af t with
 |true=>
  obtain⟨k,hk,rfl⟩:=ht.2.2.2 hv;exact RnOk.var hk hp hL
 |false=>
  have e1:Gq L t=t:=if_neg (by simp[hv]);have e2:Dd acc t=acc:=if_neg (by simp[hv]);rw[e1,e2];exact RnOk.plain (fun c hc=>ht.num hv hc) acc
theorem RnOk.more {L:List Tx}(hL:L.length<=26):∀(ts acc:List Tx),(∀t∈ts,UT t)->Dc acc ts<+:L->RnOk (A8 ts) (A8 (ts.map (Gq L))) acc (Dc acc ts)
 |[],acc,_,_=>RnOk.nil acc
 |t::ts,acc,h,hp=>by
  have e:∀(t:Tx) (ts:List Tx),A8 (t::ts)=[44]++(t++A8 ts):=fun t ts=>by simp[A8]
  rw[Abx,e,e];exact (RnOk.one (by decide) acc).append ((RnOk.term (h t (by simp)) ((Iy ts _).trans hp) hL).append (RnOk.more hL ts _ (fun u hu=>h u (by simp[hu])) hp))
theorem RnOk.list {L:List Tx}(hL:L.length<=26)(ts acc:List Tx)(h:∀t∈ts,UT t)(hp:Dc acc ts<+:L):RnOk (A2 ts) (A2 (ts.map (Gq L))) acc (Dc acc ts):=by
 cases ts with
 |nil=>exact RnOk.nil acc
 |cons t ts=>
  rw[Abx,A2,A2];exact (RnOk.term (h t (by simp)) ((Iy ts _).trans hp) hL).append (RnOk.more hL ts _ (fun u hu=>h u (by simp[hu])) hp)
theorem RnOk.lit {L:List Tx}(hL:L.length<=26)(a:RAtom)(acc:List Tx)(hw:Gm a.pred)(h:∀t∈a.terms,UT t)(hp:Dc acc a.terms<+:L):RnOk (Bg a) (Bg (Ch L a)) acc (Dc acc a.terms):=by
 have e:∀a:RAtom,Bg a=((if a.nt=true then [33]else [])++(a.pred++[40]))++(A2 a.terms++[41]):=fun a=>by simp[Bg,A9]
 rw[e a,e (Ch L a)];refine RnOk.append (RnOk.plain (fun c hc=>?_) acc) (RnOk.append (RnOk.list hL _ acc h hp) (RnOk.one (by decide) _));rcases Ack.1 hc with hc|hc
 ·split at hc
  ·simp at hc;subst hc;decide
  ·cases hc
 ·rcases Ack.1 hc with hc|hc
  ·exact Pn (hw.2 c hc)
  ·simp at hc;subst hc;decide
theorem RnOk.lmore {L:List Tx}(hL:L.length<=26):∀(ls:List RAtom) (acc:List Tx),(∀a∈ls,Gm a.pred/\∀t∈a.terms,UT t)->Dc acc (ls.flatMap (·.terms))<+:L->RnOk (A8 (ls.map Bg)) (A8 ((ls.map (Ch L)).map Bg)) acc (Dc acc (ls.flatMap (·.terms)))
 |[],acc,_,_=>RnOk.nil acc
 |a::ls,acc,h,hp=>by
  have e:∀(t:Tx) (ts:List Tx),A8 (t::ts)=[44]++(t++A8 ts):=fun t ts=>by simp[A8]
  rw[Acv,Sx]at hp⊢;simp only[Abx,e];exact (RnOk.one (by decide) acc).append ((RnOk.lit hL a acc (h a (by simp)).1 (h a (by simp)).2 ((Iy _ _).trans hp)).append (RnOk.lmore hL ls _ (fun b hb=>h b (by simp[hb])) hp))
theorem uW {x:RItem}(hw:Bv x)(hu:∀a∈Ag x,∀t∈a.terms,UT t)(hL:(Ba x).length<=26):RnOk (A0 x++[46]) (A0 (ren x)++[46]) [] (Ba x):=by
 refine RnOk.append ?_ (RnOk.one (by decide) _);cases ho:x.out with
 |true=>
  obtain⟨-,h2,h3⟩:=hw.2.1 ho;have e1:A0 x=63::x.head.pred:=if_pos ho;have e2:A0 (ren x)=63::x.head.pred:=if_pos ho;have e3:Ba x=[]:=by simp[Ba,Ag,ho,h3,Dc]
  rw[e1,e2,e3];refine RnOk.plain (fun c hc=>?_) [];rcases Ace.1 hc with rfl|hc
  ·decide
  ·exact Pn (hw.1.2 c hc)
 |false=>
  obtain⟨h1,h2,h3,h4⟩:=hw.2.2 ho;have hO:Ba x=Dc (Dc [] x.head.terms) (x.body.flatMap (·.terms)):=by
   unfold Ba;rw[<-Sx];simp[Ag,ho]
  have e1:A0 x=Bg x.head++(if x.body=[]then []else 58::45::A2 (x.body.map Bg)):=by
   rw[A0,if_neg (by simp[ho]),Cw];simp[Bg,h2]
  have e2:A0 (ren x)=Bg (Ch (Ba x) x.head)++(if x.body=[]then []else 58::45::A2 ((x.body.map (Ch (Ba x))).map Bg)):=by
   rw[A0,if_neg (by simp[ren,ho]),Cw];simp[Bg,ren,Ch,h2]
  have ac:Dc [] x.head.terms<+:Ba x:=by rw[hO];exact Iy _ _
  have hh:=RnOk.lit hL x.head [] h1.1 (hu x.head (Ay (.inl ⟨ho,rfl⟩))) ac;rw[e1,e2]
  conv=>arg 4;rw[hO]
  refine hh.append ?_;by_cases hb:x.body=[]
  ·rw[if_pos hb,if_pos hb,hb];exact RnOk.nil _
  ·rw[if_neg hb,if_neg hb];obtain⟨a,ls,e⟩:=Ado hb;have ab:Dc (Dc [] x.head.terms) (x.body.flatMap (·.terms))<+:Ba x:=by rw[hO];exact Acw _
   rw[e]at ab⊢;rw[Acv,Sx]at ab⊢;have aa:∀b∈a::ls,Gm b.pred/\∀t∈b.terms,UT t:=fun b hb=>by
    rw[<-e]at hb;exact⟨(h4 b hb).1,hu b (Ay (.inr hb))⟩
   have ec:∀t:Tx,(58::45::t:Tx)=[58,45]++t:=fun t=>rfl;rw[Abx,Abx,Abx,A2,A2,ec (Bg a++_),ec (Bg (Ch (Ba x) a)++_)];refine (RnOk.plain (fun c hc=>?_) _).append ((RnOk.lit hL a _ (aa a (by simp)).1 (aa a (by simp)).2 ((Iy _ _).trans ab)).append (RnOk.lmore hL ls _ (fun b hb=>aa b (by simp[hb])) ab));simp at hc;rcases hc with rfl|rfl<;>decide
theorem Yc (c:Int)(y:St):ACalls Tryz.prog 75 [sc (.int .u8 c)] y fun x y'=>x=sc (.bool (A3 c))/\y'=y:=by
 refine Z9 9 [.tmp 2] Tryz.func75 ?_
 repeat' (first|refine Z1 ?_|(refine Z8 ?_;intro κ hκ)|(refine Z4 ?_;clear hκ κ)|(refine Z2 ?_ ?_<;>intro h aa<;>try exact Xp)|refine Z3 ?_|exact⟨⟩|(apply hκ.out;clear hκ κ))
 all_goals exact⟨_,rfl,by simp[A3, *]⟩
def n26 (f:Nat->Nat):List AV:=(List.range 26).map fun i=>sc (.int .i64 (f i:Nat))
theorem rL:iI 26 (.int .i64 0)=n26 fun _=>0:=by
 rfl
theorem Lc (f:Nat->Nat):(n26 f).length=26:=by simp[n26]
theorem No (f:Nat->Nat){k:Nat}(h:k<26):(n26 f)[k]?=some (sc (.int .i64 (f k:Nat))):=by simp[n26,h]
theorem vO (f:Nat->Nat){k:Nat}(h:k<26)(b:Nat):(n26 f).set k (sc (.int .i64 (b:Nat)))=n26 fun j=>if j=k then b else f j:=by
 apply Abw;intro i;rw[List.getElem?_set];by_cases hi:i<26
 ·rw[No _ hi,Lc];by_cases e:k=i
  ·subst e;rw[if_pos rfl,if_pos h,No _ hi];simp
  ·rw[if_neg e,No _ hi,if_neg (Ne.symm e)]
 ·have h1:(n26 f)[i]?=none:=List.getElem?_eq_none (by rw[Lc];omega);have h2:(n26 fun j=>if j=k then b else f j)[i]?=none:=List.getElem?_eq_none (by rw[Lc];omega);rw[h1,h2,Lc];split
  ·omega
  ·rfl
theorem yP {st:tZ}{c:UInt8}{n:Nat}(h1:st.1<=n)(h2:∀v,st.2 v<=n):(Mv st c).1<=n+1/\∀v,(Mv st c).2 v<=n+1:=by
 unfold Mv;split
 ·refine⟨by simp only;omega,fun v=>?_⟩;simp only;split
  ·omega
  ·have:=h2 v;omega
 ·exact⟨Ad2,fun v=>by have:=h2 v;omega⟩
def Uk:tZ:=(0,fun _=>0)
def RnT (p q:Tx):Prop:=p.length=q.length/\p.length<=100000/\∀i c,p[i]?=some c->∃d,q[i]?=some d/\Mt ((p.take i).foldl Mv Uk) c d
theorem yO {x:RItem}(hw:Bv x)(hu:∀a∈Ag x,∀t∈a.terms,UT t)(hL:(Ba x).length<=26)(hl:(A0 x++[46]).length<=100000):RnT (A0 x++[46]) (A0 (ren x)++[46]):=by
 have h:=uW hw hu hL;exact⟨h.1,hl,(h.2 Uk ⟨rfl,fun v hv=>by simp[Uk]⟩).2⟩
theorem Uq (p q:Tx)(h:RnT p q)(y:St):ACalls Tryz.prog 43 [str p,str q] y fun r y'=>r=sc (.bool true)/\Keep y y':=by
 obtain⟨hl,hb,hR⟩:=h;have ah:=fun c y=>Yc c y;have hz:=rL;have bc:((p.length:Int) !=(q.length:Int))=false:=by simp[hl]
 have be:p.length<=q.length:=Ad2;have bd:q.length<=p.length:=Ad2;clear hl;refine Z9 56 [.tmp 4] Tryz.func43 ?_
 repeat' (first|refine Z1 ?_|(refine Z8 ?_;intro κ hκ)|(refine Z4 ?_;clear hκ κ)|(refine Z2 ?_ ?_<;>intro h ab<;>try exact Xp)|refine Z3 ?_|exact⟨⟩|(apply hκ.out;clear hκ κ))
 refine Ad (fun m s y'=>∃(i:Nat) (st:tZ),m=p.length-i/\i<=p.length/\st.1<=i/\s 0=str p/\s 1=str q/\s 5=sc (.int .i64 (st.1:Nat))/\s 6=ptr y.nobj 0/\s 7=sc (.int .i64 i)/\Keep y y'/\y.nobj<y'.nobj/\y'.obj y.nobj=n26 st.2/\Ad8 ((p.take i).foldl Mv Uk=st/\∀v,st.2 v<=i)) p.length
  ⟨0,Uk,Ad2,Ad2,by simp[Uk],rfl,rfl,by simp[upd,Uk],Ad4,Ad4,Xs,Ad6,by first|exact Am|(rw[Am];rfl),⟨rfl,fun v=>Abb _⟩⟩ ?_
 rintro m s y' ⟨i,st,rfl,hi,az,h0,h1,h5,h6,h7,hK,ba,a9,hA⟩;have a5:=hK.nobj;have bb:=Lc st.2;by_cases a3:i<p.length
 ·have af:=List.getElem?_eq_getElem a3;generalize p[i]=c at af;obtain⟨d,hd,hm⟩:=hR i c af;rw[hA.out.1]at hm;have a8:i<q.length:=Ad2;have ah:=ah c.toNat;have aa:=Ha (f:=Mv) (a:=Uk) af;rw[hA.out.1]at aa;have ai:=yP (c:=c) az hA.out.2;cases hc:A3 c.toNat with
  |false=>
   have an:=hm.1 hc;subst an;have ak:Mv st d=st:=by unfold Mv;rw[if_neg (by simp[hc])]
   rw[ak]at aa;have HA:Ad8 ((p.take (i+1)).foldl Mv Uk=st/\∀v,st.2 v<=i+1):=⟨aa,fun v=>by have:=hA.out.2 v;omega⟩;rw[hc]at ah;have bh:((d.toNat:Int) !=(d.toNat:Int))=false:=by simp
   have bg:((d.toNat:Int)==(d.toNat:Int))=true:=by simp
   clear hA hm aa ak ai hc hR
   repeat' (first|refine Z1 ?_|(refine Z8 ?_;intro κ hκ)|(refine Z4 ?_;clear hκ κ)|(refine Z2 ?_ ?_<;>intro h ab<;>try exact Xp)|(refine Z5 ?_;refine Xi (ah _) ?_;rintro _ _ ⟨rfl,ac⟩;(have aj:=ac.symm;clear ac;subst aj))|refine Z3 ?_|exact⟨⟩|(apply hκ.out;clear hκ κ))
   refine Br (Q:=fun e s' y''=>e= .normal/\s' 31=sc (.bool false)/\s' 0=s 0/\s' 1=s 1/\s' 5=s 5/\s' 6=s 6/\s' 7=s 7/\y''=y') ?_ ?_
   ·refine A4 Ak (fun _=>True) [] [0,1,2,3,4,5] 1 #[true,true,true,true,true,true,false] Ad5 (fun _ _ _ h=>by cases h.1) ?_;intro κ hκ;refine Z3 ?_;refine hκ.out _ ?_;clear hκ κ;refine Ei [6] Ad5 Ad5 (fun _ _ _ h=>by cases h.1) (Abb _) (fun o ho _=>rfl) ?_;intro κ hκ;refine Z3 ?_;refine hκ.out _ _ ⟨rfl,?_⟩;simp[upd]
   ·rintro e s' y'' ⟨rfl,g31,g0,g1,g5,g6,g7,rfl⟩;rw[h0]at g0;rw[h1]at g1;rw[h5]at g5;rw[h6]at g6;rw[h7]at g7;clear h0 h1 h5 h6 h7;refine Du g31 ?_
    repeat' (first|refine Z1 ?_|(refine Z8 ?_;intro κ hκ)|(refine Z4 ?_;clear hκ κ)|(refine Z2 ?_ ?_<;>intro h ab<;>try exact Xp)|refine Z3 ?_|exact⟨⟩|(apply hκ.out;clear hκ κ))
    refine⟨p.length-(i+1),Ad2,i+1,st,?_⟩
    ((repeat' with_reducible refine And.intro ?_ ?_)<;>first|exact Xq|exact (HA)|exact Xs)
  |true=>
   have an:=hm.2 hc;obtain⟨l1,l2⟩:65<=c.toNat/\c.toNat<=90:=by
    simp only[A3,Abj,Adx]at hc;omega
   have a7:IntKind.u8.wrap ((c.toNat:Int)-65)=((c.toNat-65:Nat):Int):=by rw[u8w Ad2 Ad2];omega
   have ad:c.toNat-65<26:=Ad2;have ay:=No st.2 ad;rw[hc]at ah;have HA:Ad8 ((p.take (i+1)).foldl Mv Uk=Mv st c/\∀v,(Mv st c).2 v<=i+1):=⟨aa,ai.2⟩;have ae:=ai.1;have bf:=d.toNat_lt;have aw:=ai.2 (c.toNat-65);by_cases hz0:st.2 (c.toNat-65)=0
   ·have am:Mv st c=(st.1+1,fun v=>if v=c.toNat-65 then st.1+1 else st.2 v):=by unfold Mv;rw[if_pos ⟨hc,hz0⟩]
    have au:=vO st.2 ad (st.1+1);rw[show (((st.1+1:Nat)):Int)=(st.1:Int)+1 by omega]at au;rw[hz0]at ay;rw[am]at HA an ae;simp only[if_true]at an;clear hA hm aa ai hc hR am aw;generalize c.toNat-65=cv at*
    generalize ap:(fun v=>if v=cv then st.1+1 else st.2 v)=f2 at*
    have av:f2 cv=st.1+1:=by rw[<-ap];simp
    have ar:=No f2 ad;rw[av,show (((st.1+1:Nat)):Int)=(st.1:Int)+1 by omega]at ar;have a0:=Lc f2;clear ap av;simp only at ae;have a4:((d.toNat:Int) !=(65+((st.1:Nat):Int)+1-1))=false:=by simp;omega
    have ax:((d.toNat:Int) !=(65+(((st.1:Nat):Int)+1)-1))=false:=by simp;omega
    have ao:((d.toNat:Int) !=(65+(((st.1+1:Nat):Int))-1))=false:=by simp;omega
    repeat' (first|refine Z1 ?_|(refine Z8 ?_;intro κ hκ)|(refine Z4 ?_;clear hκ κ)|(refine Z2 ?_ ?_<;>intro h ab<;>try exact Xp)|(refine Z5 ?_;refine Xi (ah _) ?_;rintro _ _ ⟨rfl,ac⟩;(have aj:=ac.symm;clear ac;subst aj))|refine Z3 ?_|exact⟨⟩|(apply hκ.out;clear hκ κ))
    refine Br (Q:=fun e s' y''=>e= .normal/\s' 55=sc (.bool false)/\s' 0=str p/\s' 1=str q/\s' 5=sc (.int .i64 (st.1+1:Nat))/\s' 6=ptr y.nobj 0/\s' 7=sc (.int .i64 i)/\y''=(y'.put y.nobj (n26 f2))) ?_ ?_
    ·refine A4 Ak (fun _=>True) [] [0,1,2,3,4,5,6,7,8] 1 #[true,true,true,true,true,true,true,true,true,false] Ad5 (fun _ _ _ h=>by cases h.1) ?_;intro κ hκ;refine Z3 ?_;refine hκ.out _ ?_;clear hκ κ;refine Ei [9] Ad5 Ad5 (fun _ _ _ h=>by cases h.1) (Abb _) (fun o ho _=>rfl) ?_;intro κ hκ;refine Z3 ?_;refine hκ.out _ _ ⟨rfl,?_⟩;simp[upd, *]<;>omega
    ·rintro e s' y'' ⟨rfl,g55,g0,g1,g5,g6,g7,rfl⟩;clear h0 h1 h5 h6 h7;refine Du g55 ?_
     repeat' (first|refine Z1 ?_|(refine Z8 ?_;intro κ hκ)|(refine Z4 ?_;clear hκ κ)|(refine Z2 ?_ ?_<;>intro h ab<;>try exact Xp)|refine Z3 ?_|exact⟨⟩|(apply hκ.out;clear hκ κ))
     refine⟨p.length-(i+1),Ad2,i+1,(st.1+1,f2),?_⟩
     ((repeat' with_reducible refine And.intro ?_ ?_)<;>first|exact Xq|exact (HA)|exact (by rw[Aj])|exact Xs)
   ·have am:Mv st c=st:=by unfold Mv;rw[if_neg (fun h=>hz0 h.2)]
    rw[am]at HA an aw;have a6:(((st.2 (c.toNat-65):Nat):Int)==0)=false:=by simpa using hz0
    clear hA hm aa ai hc hR am ae;generalize c.toNat-65=cv at*
    generalize ap:st.2 cv=fv at*
    have ao:((d.toNat:Int) !=(65+((fv:Nat):Int)-1))=false:=by simp;omega
    clear ap
    repeat' (first|refine Z1 ?_|(refine Z8 ?_;intro κ hκ)|(refine Z4 ?_;clear hκ κ)|(refine Z2 ?_ ?_<;>intro h ab<;>try exact Xp)|(refine Z5 ?_;refine Xi (ah _) ?_;rintro _ _ ⟨rfl,ac⟩;(have aj:=ac.symm;clear ac;subst aj))|refine Z3 ?_|exact⟨⟩|(apply hκ.out;clear hκ κ))
    refine Br (Q:=fun e s' y''=>e= .normal/\s' 55=sc (.bool false)/\s' 0=str p/\s' 1=str q/\s' 5=sc (.int .i64 (st.1:Nat))/\s' 6=ptr y.nobj 0/\s' 7=sc (.int .i64 i)/\y''=y') ?_ ?_
    ·refine A4 Ak (fun _=>True) [] [0,1,2,3,4,5,6,7,8] 1 #[true,true,true,true,true,true,true,true,true,false] Ad5 (fun _ _ _ h=>by cases h.1) ?_;intro κ hκ;refine Z3 ?_;refine hκ.out _ ?_;clear hκ κ;refine Ei [9] Ad5 Ad5 (fun _ _ _ h=>by cases h.1) (Abb _) (fun o ho _=>rfl) ?_;intro κ hκ;refine Z3 ?_;refine hκ.out _ _ ⟨rfl,?_⟩;simp[upd, *]<;>omega
    ·rintro e s' y'' ⟨rfl,g55,g0,g1,g5,g6,g7,rfl⟩;clear h0 h1 h5 h6 h7;refine Du g55 ?_
     repeat' (first|refine Z1 ?_|(refine Z8 ?_;intro κ hκ)|(refine Z4 ?_;clear hκ κ)|(refine Z2 ?_ ?_<;>intro h ab<;>try exact Xp)|refine Z3 ?_|exact⟨⟩|(apply hκ.out;clear hκ κ))
     refine⟨p.length-(i+1),Ad2,i+1,st,?_⟩
     ((repeat' with_reducible refine And.intro ?_ ?_)<;>first|exact Xq|exact (HA)|exact Xs)
 ·repeat' (first|refine Z1 ?_|(refine Z8 ?_;intro κ hκ)|(refine Z4 ?_;clear hκ κ)|(refine Z2 ?_ ?_<;>intro h ab<;>try exact Xp)|refine Z3 ?_|exact⟨⟩|(apply hκ.out;clear hκ κ))
  first|exact⟨_,rfl,rfl,hK⟩|exact⟨_,rfl,hK⟩|exact⟨_,rfl,rfl⟩
theorem Ur (l m:List Tx)(idl idm:Nat)(ab:l.length=m.length)(hl:l.length<=1000)(h:∀(i:Nat) (p q:Tx),l[i]?=some p->m[i]?=some q->RnT p q)(y:St):ACalls Tryz.prog 21 [sl idl l.length (l.map str),sl idm m.length (m.map str)] y fun r y'=>r=sc (.bool true)/\Keep y y':=by
 have ap:((l.length:Int) !=(m.length:Int))=false:=by simp[ab]
 have ao:l.length<=m.length:=Ad2;have an:m.length<=l.length:=Ad2;have HH:Ad8 _:=h;clear ab h;refine Z9 29 [.tmp 4] Tryz.func21 ?_
 repeat' (first|refine Z1 ?_|(refine Z8 ?_;intro κ hκ)|(refine Z4 ?_;clear hκ κ)|(refine Z2 ?_ ?_<;>intro h aa<;>try exact Xp)|refine Z3 ?_|exact⟨⟩|(apply hκ.out;clear hκ κ))
 refine Ad (fun k s y'=>∃(i:Nat),k=l.length-i/\i<=l.length/\s 0=sl idl l.length (l.map str)/\s 1=sl idm m.length (m.map str)/\s 5=sc (.int .i64 i)/\Keep y y') l.length
  ⟨0,Ad2,Ad2,rfl,rfl,rfl,Keep.refl _⟩ ?_
 rintro k s y' ⟨i,rfl,hi,h0,h1,h5,hK⟩;have am:=hK.nobj;by_cases ae:i<l.length
 ·have af:i<m.length:=Ad2;have aj:=Cm ae;have ai:=Cm af;have ad:=fun y=>Uq _ _ (HH.out i l[i] m[i] (List.getElem?_eq_getElem ae) (List.getElem?_eq_getElem af)) y;generalize l[i]=p at aj ad;generalize m[i]=q at ai ad
  repeat' (first|refine Z1 ?_|(refine Z8 ?_;intro κ hκ)|(refine Z4 ?_;clear hκ κ)|(refine Z2 ?_ ?_<;>intro h aa<;>try exact Xp)|refine Z3 ?_|exact⟨⟩|(apply hκ.out;clear hκ κ))
  refine Br (Q:=fun e s' y''=>e= .normal/\s' 6=sc (.bool true)/\s' 0=s 0/\s' 1=s 1/\s' 5=s 5/\Keep y' y'') ?_ ?_
  ·refine A4 Ak (fun _=>True) [] [0,1,2,3,4,5,6,7] 2 #[true,true,true,true,true,true,true,true,false,false] Ad5 (fun _ _ _ h=>by cases h.1) ?_;intro κ hκ;refine Z3 ?_;refine hκ.out _ ?_;clear hκ κ;refine Al (i:=8) Ad5 ?_;refine Aq ?_;intro κ hκ;refine Z3 ?_;refine ACalls.mono (ad _) ?_;rintro _ y5 ⟨rfl,ac⟩;refine Z3 ?_;refine hκ.out _ _ ⟨Ao ac,?_⟩;clear hκ κ;refine Ei [9] Ad5 Ad5 (fun _ _ _ h=>by cases h.1) ac.nobj (fun o ho _=>ac.ver o ho) ?_;intro κ hκ;refine Z3 ?_;refine hκ.out _ _ ⟨rfl,?_⟩;simp[upd,ac]
  ·rintro e s' y'' ⟨rfl,g6,g0,g1,g5,ah⟩;rw[h0]at g0;rw[h1]at g1;rw[h5]at g5;have ak:=hK.trans ah;clear h0 h1 h5 hK ah
   repeat' (first|refine Z1 ?_|(refine Z8 ?_;intro κ hκ)|(refine Z4 ?_;clear hκ κ)|(refine Z2 ?_ ?_<;>intro h aa<;>try exact Xp)|refine Z3 ?_|exact⟨⟩|(apply hκ.out;clear hκ κ))
   refine⟨l.length-(i+1),Ad2,i+1,?_⟩
   ((repeat' with_reducible refine And.intro ?_ ?_)<;>first|exact Xq|exact (ak)|exact Xs)
 ·repeat' (first|refine Z1 ?_|(refine Z8 ?_;intro κ hκ)|(refine Z4 ?_;clear hκ κ)|(refine Z2 ?_ ?_<;>intro h aa<;>try exact Xp)|refine Z3 ?_|exact⟨⟩|(apply hκ.out;clear hκ κ))
  first|exact⟨_,rfl,rfl,hK⟩|exact⟨_,rfl,hK⟩|exact⟨_,rfl,rfl⟩
end Go.Proofs.YtmoeoppbmhfbpabGreatDoorH
