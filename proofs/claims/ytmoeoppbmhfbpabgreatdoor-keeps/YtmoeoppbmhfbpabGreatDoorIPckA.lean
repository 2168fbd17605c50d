import Derived.Test.YtmoeoppbmhfbpabGreatDoorIOptC
import Derived.Test.YtmoeoppbmhfbpabGreatDoorIEngA
import Derived.Test.YtmoeoppbmhfbpabGreatDoorIImpD
import Derived.Test.YtmoeoppbmhfbpabGreatDoorIRefA
import Derived.Test.YtmoeoppbmhfbpabGreatDoorIGram
import Derived.Test.YtmoeoppbmhfbpabGreatDoorIFacts
import Derived.Test.YtmoeoppbmhfbpabGreatDoorIEngR
set_option maxHeartbeats 64000000
set_option maxRecDepth 100000
set_option linter.all false
open List renaming length->Z
namespace Go.Proofs.YtmoeoppbmhfbpabGreatDoorI
open Go.Abs
set_option maxRecDepth 1000000
theorem XL {a}(h:tO a)(hn:a.nt=false)(hs:fH a=true)(r):Ph (A3 a++46::r)= .got a r:=by
 unfold Ph;have:=X3 h (46::r);rw[hn]at this;rw[this,Ei,if_pos hs];rfl
theorem dD:∀(n:Nat) (F:List AC),(∀a∈F,tO a/\a.nt=false/\fH a=true)->Z F<=n->Dr n (F.flatMap fun a=>A3 a++[46])= .got F []
 |n,[],_,_=>by rw[MH,Jm]
 |0,a::F,_,h=>by simp at h
 |n+1,a::F,hF,h=>by
  obtain⟨g1,g2,g3⟩:=hF a (by simp);have ih:=dD n F (fun b hb=>hF b (by simp[hb])) (by simpa using h);rw[DK];have e:(A3 a++[46])++F.flatMap (fun a=>A3 a++[46])=A3 a++46::F.flatMap (fun a=>A3 a++[46]):=by simp
  rw[e];have hc:∃b r,A3 a++46::F.flatMap (fun a=>A3 a++[46])=b::r:=by
   cases hh:A3 a++46::F.flatMap (fun a=>A3 a++[46])with
   |nil=>simp at hh
   |cons b r=>exact⟨b,r,rfl⟩
  have hp:=XL g1 g2 g3 (F.flatMap fun a=>A3 a++[46]);obtain⟨b,r,aa⟩:=hc;rw[aa]at hp⊢;rw[J8,hp,Ei,ih];rfl
theorem ZO {S}{f:Tx->Nat}(hf:∀p,0<f p)(h:∀a∈S,Z a.A=f a.B):Hf S:=fun b hb=>by
 refine⟨by rw[h b hb];exact hf _,?_⟩;rw[h b hb];unfold Gr;cases hh:S.find? (fun a=>a.B==b.B)with
 |none=>
  have:=IX.1 hh b hb;simp at this
 |some a=>
  have h1:=NI hh;have e:a.B=b.B:=by simpa using h1
  show f b.B=Z a.A;rw[h a (LK hh),e]
def SK (l:List AB):Prop:=∀x∈l,x.o=true->x.A=[]
structure LN (l:List AB):Prop where
 o:SK l
 loo:pF l
 len:Z l<=16
section
variable {l l':List AB}
theorem cL (hr:LN l)(p):Bp l p<=Z l:=pH hr.loo ((Ia hr.o hr.loo hr.len p _).2 (AR _))
theorem M8 {s x}(hx:x∈Zf l s):x∈l/\x.o=false/\Bp l x.h.B=s:=by
 obtain⟨h1,h2⟩:=BV.1 hx;unfold sB at h2;simp only[BX,GH,EH]at h2;exact⟨h1,h2.1,h2.2⟩
variable {N N':List Tx} {F F':List AC} {M M':MM}
end
def Lg (T:Tx->List Cc)(acc:Tx×List Tx)(x:AB):Tx×List Tx:=if x.o=true/\x.h.B∉acc.2 then (acc.1++(T x.h.B).flatMap (Gv x.h.B),acc.2++[x.h.B])else acc
def kB (T:Tx->List Cc)(l:List AB):Tx:=(l.foldl (Lg T) ([],[])).1
theorem Wn (T):∀(l:List AB) (acc:Tx×List Tx),l.foldl (Lg T) acc=(l.filter fun x=>x.o).foldl (Lg T) acc
 |[],_=>rfl
 |x::l,acc=>by
  rw[IB,KP,Wn T l];cases h:x.o with
  |true=>simp
  |false=>
   have:Lg T acc x=acc:=if_neg (by simp[h]);rw[this];simp
section
variable {l l':List AB} {N N':List Tx} {F F':List AC} {M M':MM}
theorem GC.has {B}:∀{s:Nat} {k:Nat} {t:Cc},B k t->GC N l B s k t
 |0,_,_,h=>h
 |s+1,_,_,h=>EM.base (GC.has h)
theorem xX {a b}(ha:a.Nodup)(hb:b.Nodup)(ta:T3 a)(tb:T3 b)(h:∀t,t∈a↔t∈b):Hm a=Hm b:=
 vP tb ((Ht a).trans ((List.perm_ext_iff_of_nodup ha hb).2 h)) (Pt ta)
end
structure iH (t f:Tx)(n:Int)(l:List AB)(F:List AC):Prop where
 tl:Z t<=600
 fl:Z f<=400
 ck:(Au t).1=0
 n0:0<=n
 n1:n<=200
 par:Bv 16 t= .got l []
 fac:Dr 400 f= .got F []
 fe:Qh l f=0
section
variable {t f x:Tx} {n k e:Int} {l:List AB} {F:List AC}
theorem SE (hK:iH t f n l F):TG l:=gn (ky hK.ck hK.par).2
theorem SF (hK:iH t f n l F):LN l:=by
 have ho:SK l:=fun x hx ho=>(((Ky _ _ _ _ hK.par) x hx).o ho).2.2;exact⟨ho,lm ho (SE hK).kn,(Ey _ _ _ _ hK.par).2.2.1⟩
theorem vO (hK:iH t f n l F):Hf (l.flatMap Af++F):=by
 have hg:=Ky _ _ _ _ hK.par
 have h1:Hf (l.flatMap Af):=sV (SE hK).odd (fun x hx a ha=>by
  unfold Af at ha;rcases AW.1 ha with h|h
  ·cases ho:x.o with
   |true=>rw[ho]at h;simp at h
   |false=>
    rw[ho]at h;simp at h;rw[h];exact JQ.2 ((hg x hx).rule ho).1.ne
  ·cases ho:x.o with
   |true=>rw[((hg x hx).o ho).2.2]at h;cases h
   |false=>exact JQ.2 (((hg x hx).rule ho).2.2.2 a h).ne)
 have aa:=hK.fe;unfold Qh at aa;rw[hK.fac]at aa;simp only at aa;refine Yv h1 (fun a ha=>JQ.2 ((Eg _ _ _ _ hK.fac).2.2.2 a ha).1.2.1) ?_;split at aa
 ·cases aa
 ·rename_i h;simpa using h
theorem qN (hK:iH t f n l F):∀a∈F,qK l a.B=false:=by
 have aa:=hK.fe;unfold Qh at aa;rw[hK.fac]at aa;simp only at aa;split at aa
 ·cases aa
 split at aa
 ·cases aa
 rename_i h;simp only[MV]at h;intro a ha;have:=EB.1 h a ha;simpa using this
end
theorem ZY {a}(h:D3 a):46∉A3 a:=fun hb=>by
 rcases xL h hb with h|h|h|h
 ·exact WK h (by simp)
 all_goals exact absurd h (by decide)
theorem Sz:∀(n:Nat) (s:Tx) (F:List AC) (r:Tx),Dr n s= .got F r->∀a∈F,tO a
 |n,[],F,r,h=>by
  rw[Jm]at h;cases h;simp
 |0,b::s,F,r,h=>by cases h
 |n+1,b::s,F,r,h=>by
  rw[J8]at h;obtain⟨x,r1,h1,h⟩:=A6 h;obtain⟨xs,r2,h2,h⟩:=A6 h;cases h;intro a ha;rcases BB.1 ha with rfl|ha
  ·unfold Ph at h1;obtain⟨a2,r3,h3,h1⟩:=A6 h1;split at h1
   ·obtain⟨u,r4,h4,h1⟩:=A6 h1;cases h1;exact Ra h3
   ·cases h1
  ·exact Sz n r1 xs r h2 a ha
theorem sS {l i}(hi:i<Z l)(b v):lsp (Ad l) (i*2) [sc (.bool b),ic v]=Ad (l.set i (b,v)):=by
 have hl:=Cs l;rw[Hc _ _ _ (by rw[hl];simp;omega)];have e:l=l.take i++l[i]::l.drop (i+1):=by rw[<-FJ hi,KJ]
 have e2:l.set i (b,v)=l.take i++(b,v)::l.drop (i+1):=by
  rw[List.set_eq_take_append_cons_drop,if_pos hi]
 have aa:Z (Ad (l.take i))=i*2:=by
  rw[Cs,CV,EZ (Nat.le_of_lt hi)]
 have e3:Ad l=Ad (l.take i)++(Jx l[i]++Ad (l.drop (i+1))):=by
  unfold Ad
  conv=>lhs;rw[e]
  rw[JL,DK]
 have e4:Ad (l.set i (b,v))=Ad (l.take i)++(Jx (b,v)++Ad (l.drop (i+1))):=by
  rw[e2];simp[Ad]
 rw[e4,e3,<-aa,List.take_left,CX];congr 1;congr 1;rw[show Z (Ad (l.take i))+Z [sc (.bool b),ic v]=Z (Ad (l.take i))+Z (Jx l[i]) by rfl,List.drop_length_add_append,List.drop_left]
theorem Ns {l i}(hi:i<Z l)(b v):((Ad l).set (i*2) (sc (.bool b))).set (i*2+1) (ic v)=Ad (l.set i (b,v)):=sS hi b v
theorem G5 (l):(Ad l).all flat=true:=by
 rw[EK];intro x hx;obtain⟨t,-,ht⟩:=DR.1 hx;simp[Jx]at ht;rcases ht with rfl|rfl<;>rfl
def DD:List Tm:=List.replicate 52 (false,0)
theorem Og:RB.map cst1=Ad DD:=rfl
theorem Ha {P}(h:Z P=52):Z (Ad P)=104:=by rw[Cs,h]
theorem H4 {P}(h:Z P=52):List.take 104 (Ad P)=Ad P:=FW (by rw[Ha h];exact AR _)
theorem YA {l xs}(h:Z xs=Z l):lsp l 0 xs=xs:=by
 rw[Hc _ _ _ AA,EJ,h,JZ];simp
theorem Pw {P Q}(hP:Z P=52)(hQ:Z Q=52):lsp (Ad P) 0 (Ad Q)=Ad Q:=YA (by rw[Ha hP,Ha hQ])
theorem Uz:Z (Ad DD)=104:=Ha (by simp[DD])
def Et (P:List Tm)(t:Tm):Tm:=if t.1=true then (P[t.2.toNat]?).getD t else t
def Ui (P:List Tm)(v t:Tm):List Tm:=P.map fun x=>if x=v then t else x
theorem qE {α:Type}{A P:List α}{k x}(hP:k<Z P)(hx:A[k]?=some x):(A.take k++P.drop k).set k x=A.take (k+1)++P.drop (k+1):=by
 have hk:=(BG.1 hx).1;rw[List.set_append,if_neg (by rw[CV];omega),CV,EZ AA,KB,FJ hP,List.set_cons_zero,AU,hx];simp
def Zd (t:Tm):Prop:=t.1=true->∃k:Nat,k<52/\t.2=(k:Int)
theorem W3 (P)(hP:Z P=52)(t)(ht:Zd t)(q):AF Tryz.prog 245 [ag (Ad P),ag [sc (.bool t.1),ic t.2]] q fun r q'=>r=ag [sc (.bool (Et P t).1),ic (Et P t).2]/\AE q q':=by
 have hl:=Ha hP;have ac:=G5 P;obtain⟨b,v⟩:=t;cases b with
 |true=>
  obtain⟨k,hk,e⟩:=ht rfl;dsimp only at e;subst e;have aa:=AJ (show k<Z P by omega);obtain⟨r,hd⟩:=Cz aa;have HP:AD (Et P (true,(k:Int))=P[k]):=by
   rw[AD,Et,if_pos rfl];simp only[DU];rw[aa];rfl
  generalize P[k]=w at hd HP;clear aa;refine Z9 12 [.cell 4 151] Tryz.func245 ?_
  refine pz ?_
  exact⟨_,rfl,by rw[HP.o],Xs⟩
 |false=>
  refine Z9 12 [.cell 4 151] Tryz.func245 ?_
  refine pz ?_
  exact⟨_,rfl,rfl,Xs⟩
theorem lS (P)(hP:Z P=52)(v t q):AF Tryz.prog 246 [ag (Ad P),ag [sc (.bool v.1),ic v.2],ag [sc (.bool t.1),ic t.2]] q fun r q'=>r=ag (Ad (Ui P v t))/\AE q q':=by
 have az:=Uz;have a0:=G5;have hz:=Og;obtain⟨v1,v2⟩:=v;obtain⟨t1,t2⟩:=t;refine Z9 21 [.cell 6 260] Tryz.func246 ?_
 refine zz ?_
 refine Ae (fun m s q'=>∃(k:Nat) (Q:List Tm),m=52-k/\k<=52/\s 3=ptr q.B 0/\s 4=ptr (q.B+1) 0/\s 5=ptr (q.B+2) 0/\s 6=ptr (q.B+3) 0/\s 8=ic k/\AE q q'/\q.B+3<q'.B/\q'.C q.B=Ad Q/\q'.C (q.B+1)=[sc (.bool v1),ic v2]/\q'.C (q.B+2)=[sc (.bool t1),ic t2]/\q'.C (q.B+3)=Ad DD/\Z Q=52/\AD (Q=(Ui P (v1,v2) (t1,t2)).take k++P.drop k)) 52
  ⟨0,P,AA,AA,AG,AG,AG,AG,AG,Xs,AK,?_,?_,?_,?_,hP,by simp[AD]⟩ ?_
 ·rw[Ah AK,Ah AK,Ah AK,Ao]
 ·rw[Ah AK,Ah AK,Bg AK AK]
 ·rw[Ah AK,Bg AK AK]
 ·rw[Bg AK AK]
 rintro m s q' ⟨k,Q,rfl,hk,h3,h4,h5,h6,h8,hK,aw,an,am,ak,aj,hQ,hA⟩;have ao:=hK.B;have ay:=Ha hQ;have ap:=H4 hQ;have av:=Pw (P:=DD) (by simp[DD]) hQ;by_cases ax:k<52
 ·have af:k<Z P:=AA;have aa:P[k]?=some P[k]:=AJ af;have hpl:Z (Ui P (v1,v2) (t1,t2))=52:=by simp[Ui,hP]
  have ac:Q[k]?=some P[k]:=by
   rw[hA.o,KU (by rw[CV];omega),CV,EZ AA,KB,JD,IE,aa]
  have ab:AD (Q.set k (if P[k]=(v1,v2)then (t1,t2)else P[k])=(Ui P (v1,v2) (t1,t2)).take (k+1)++P.drop (k+1)):=by
   have e1:(Ui P (v1,v2) (t1,t2))[k]?=some (if P[k]=(v1,v2)then (t1,t2)else P[k]):=by rw[Ui,EY,aa];rfl
   rw[AD,hA.o,qE af e1]
  obtain⟨r,hd⟩:=Cz ac;have au:=fun b v=>Ns (l:=Q) (i:=k) AA b v;have ae:AD (Q.set k P[k]=Q):=by
   have:=(BG.1 ac).2;rw[AD,<-this,List.set_getElem_self]
  generalize P[k]=w at hd ab ae;obtain⟨w1,w2⟩:=w;have ah:∀x,Z (Q.set k x)=52:=fun x=>by rw[LU,hQ]
  clear aa ac hA
  refine pz ?_
  refine Az (Q:=fun e s' q''=>e= .normal/\s' 15=sc (.bool (w1==v1&&w2==v2))/\s' 3=ptr q.B 0/\s' 4=ptr (q.B+1) 0/\s' 5=ptr (q.B+2) 0/\s' 6=ptr (q.B+3) 0/\s' 7=ic k/\s' 8=ic k/\q''=q') ?_ ?_
  ·refine Aq Ag (fun _=>True) [] [0,1,2,3,4] 0 #[true,true,true,true,true] AH (fun _ _ _ h=>by cases h.1) ?_;intro yd yb;refine Z3 ?_;refine yb.o _ ?_;clear yb yd;exact Ax AH ⟨rfl,AI,AI,AI,AI,AI,AI,AI,rfl⟩
  clear h3 h4 h5 h6 h8;rintro e s' q'' ⟨rfl,g15,g3,g4,g5,g6,g7,g8,rfl⟩;by_cases hw:(w1,w2)=(v1,v2)
  ·rw[if_pos hw]at ab;have hc:(w1==v1&&w2==v2)=true:=by simp at hw;simp[hw]
   rw[hc]at g15;clear hw;refine Bt g15 ?_
   refine zz ?_
   refine⟨52-(k+1),AA,k+1,Q.set k (t1,t2),?_⟩
   ((repeat' refine Zi ?_ ?_)<;>first|exact Xq|exact ab|exact (ah _)|exact Xs)
  ·rw[if_neg hw,ae.o]at ab;have hc:(w1==v1&&w2==v2)=false:=by
    cases h:(w1==v1&&w2==v2)with
    |false=>rfl
    |true=>simp at h;exact absurd (by rw[h.1,h.2]) hw
   rw[hc]at g15;clear hw;refine Ct g15 ?_
   refine zz ?_
   refine⟨52-(k+1),AA,k+1,Q,?_⟩
   exact qh ab
 ·have ai:k=52:=AA;subst ai;have HQ:AD (Ui P (v1,v2) (t1,t2)=Q):=by
   rw[AD,hA.o,FW (by simp[Ui,hP]),NW AA,FA]
  clear hA
  refine pz ?_
  exact⟨_,rfl,by rw[HQ.o],Xs⟩
def P0 (P:List Tm)(a:Dv):Dv:=⟨a.p,a.ts.map (Et P)⟩
theorem cZ (P)(hP:Z P=52)(a:Dv)(ids)(ha:∀t∈a.ts,Zd t)(hn:Z a.ts<=1000)(q):AF Tryz.prog 247 [ag (Ad P),ag [ic a.p,sl ids (Z a.ts) (Ad a.ts)]] q fun r q'=>(∃id,r=ag [ic a.p,sl id (Z a.ts) (Ad (a.ts.map (Et P)))])/\AE q q':=by
 have hl:=Ha hP;have bc:=H4 hP;have bd:=G5 P;have bb:=Cs a.ts;refine Z9 28 [.cell 4 122] Tryz.func247 ?_
 refine zz ?_
 refine Ae (fun m s q'=>∃(k i3:Nat) (xs:List AV),m=Z a.ts-k/\k<=Z a.ts/\s 2=ptr q.B 0/\s 4=ptr (q.B+2) 0/\s 5=ptr (q.B+3) 0/\s 12=sl ids (Z a.ts) (Ad a.ts)/\s 13=ic (Z a.ts)/\s 14=ic k/\AE q q'/\q.B+3<q'.B/\q'.C q.B=Ad P/\q'.C (q.B+2)=[ic 0,nilS]/\q'.C (q.B+3)=[ic a.p,sl i3 k xs]/\Own q q' i3 k/\Z xs=k*2/\AD (xs=Ad ((a.ts.take k).map (Et P)))) (Z a.ts)
  ⟨0,1,[],AA,AA,by simp[upd,AM],AG,AG,AG,AG,rfl,?_,?_,?_,?_,?_,Own.nil _ _,by simp,by simp[AD,Ad]⟩ ?_
 ·exact (((((AE.refl q).new _).new _).new _).new _).put AA _
 ·simp only[Ab,Aa];omega
 ·rw[Aj AA,Ah AK,Ah AK,Ah AK,Ao]
 ·rw[Aj AA,Ah AK,Bg AK AK]
 ·rw[show q.B+3=q.B+1+1+1 by omega,Ak]
 rintro m s q' ⟨k,i3,xs,rfl,hk,h2,h4,h5,az,ay,ax,hK,ao,aj,ai,ah,hO,an,hX⟩;have ba:=hK.B;by_cases av:k<Z a.ts
 ·have aa:=AJ av;have hv:=ha a.ts[k] (AT av);obtain⟨r2,a5⟩:=Cz aa;generalize a.ts[k]=w at a5 aa hv;have ab:AD (xs++Jx (Et P w)=Ad ((a.ts.take (k+1)).map (Et P))):=by
   rw[AD,AU,aa,BJ,FO,List.map_singleton,Ua,<-hX.o]
  have af:=fun q=>W3 P hP w hv q;have am:AD _:=an;clear aa hv hX;generalize Et P w=w' at ab af;obtain⟨w1,w2⟩:=w';dsimp only at af
  refine pz ?_
  have aw:AE q ((q'.new [sc (.bool false),ic 0]).put q'.B [sc (.bool w.1),ic w.2]):=(hK.new _).put hK.B _;have kv:∀p,p<q'.B->((q'.new [sc (.bool false),ic 0]).put q'.B [sc (.bool w.1),ic w.2]).C p=q'.C p:=fun p hp=>by rw[Aj AA,Ah AA]
  refine Az (Q:=fun e s' q''=>e= .normal/\s' 2=ptr q.B 0/\s' 4=ptr (q.B+2) 0/\s' 5=ptr (q.B+3) 0/\s' 12=sl ids (Z a.ts) (Ad a.ts)/\s' 13=ic (Z a.ts)/\s' 14=ic k/\AE q q''/\q.B+3<q''.B/\q''.C q.B=Ad P/\q''.C (q.B+2)=[ic 0,nilS]/\∃idn,q''.C (q.B+3)=[ic a.p,sl idn (k+1) (xs++[sc (.bool w1),ic w2])]/\Own q q'' idn (k+1)) ?_ ?_
  ·refine Aq Ag (fun _=>True) [8] [0,1,2,3] 5 #[true,true,true,true,false,false,false,false,false] AH (fun _ _ _ h=>by cases h.1) ?_;intro yd yb;refine Z3 ?_;refine yb.o _ ?_;clear yb yd;refine Ai (i:=4) AH ?_;refine Am ?_;intro yd yb;refine Z3 ?_;refine AF.mono (af _) ?_;rintro _ q5 ⟨rfl,ac⟩;refine Z3 ?_;refine yb.o _ _ ⟨Al ac,?_⟩;clear yb yd;have ak:=ac.B;have ad:=ac.C;simp only[Ab,Aa]at ak ad;have a8:=aw.trans ac;have a6:=Own.keep (Own.put (Own.new hO [sc (.bool false),ic 0]) q'.B [sc (.bool w.1),ic w.2]) ac;refine Ai (i:=5) AH ?_;refine Am ?_;intro yd yb;refine Z3 ?_;refine yb.o _ _ ⟨Al (ac.lay 1),?_⟩;clear yb yd;refine Ai (i:=6) AH ?_;refine Am ?_;intro yd yb;refine Z3 ?_;refine Bn (by first|exact E0) a8 a6 (by decide) (by rfl) an (by rfl) (by rfl) (by decide) AA AA ?_;intro idn qn a7 a9 au a3 ae a0;refine Z3 ?_;refine yb.o _ _ ⟨fun _ o ho _=>by rw[ae];exact ac.ver o ho,?_⟩;clear yb yd;refine Ai (i:=7) AH ?_;refine Am ?_;intro yd yb;refine Z3 ?_;refine yb.o _ _ ⟨fun _ o ho _=>by rw[ae];exact ac.ver o ho,?_⟩;clear yb yd;have en:∀p,p<q'.B->qn.C p=q'.C p:=fun p hp=>by rw[au,ad _ AA,kv _ hp]
   have en1:qn.C (q.B+3)=[ic a.p,sl i3 k xs]:=by rw[en _ ao,ah]
   refine Ai (i:=8) AH ?_;refine Am ?_;intro yd yb;refine Z3 ?_;refine yb.o _ _ ⟨A5 rfl,?_⟩;clear yb yd;refine Ax AH ⟨rfl,?_⟩;simp only[upd,↓reduceIte,Nat.reduceEqDiff,h2,h4,h5,az,ay,ax,JC];refine⟨a9.put AA _,by simp only[Ab];omega,?_,?_,idn,?_,Own.put a7 _ _⟩
   ·rw[Aj AA,en _ AA,aj]
   ·rw[Aj AA,en _ AA,ai]
   ·rw[Ak]
  ·clear kv aw hO an aj ai ah ao af h2 h4 h5 az ay ax;rintro e s' q'' ⟨rfl,g2,g4,g5,g12,g13,g14,hK,ao,aj,ai,idn,ah,hO⟩
   refine zz ?_
   refine⟨Z a.ts-(k+1),AA,k+1,idn,xs++[sc (.bool w1),ic w2],?_⟩
   ((repeat' refine Zi ?_ ?_)<;>first|exact Xq|exact ab|exact (by rw[AX,am.o];simp;omega)|exact Xs)
 ·have a4:k=Z a.ts:=AA;subst a4;rw[AS]at hX
  refine pz ?_
  exact⟨_,rfl,⟨i3,by rw[hX.o]⟩,hK.put AA _⟩
def qZ (P:List Tm)(l:Lit):Lit:=⟨l.neg,P0 P l.a⟩
def Fs (P:List Tm)(r:Eu):Eu:=⟨P0 P r.h,r.A.map (qZ P)⟩
def Tq (o:Bool)(r:Eu)(c:List AV):Prop:=∃ih ib bc,c=[sc (.bool o),ic r.h.p,sl ih (Z r.h.ts) (Ad r.h.ts),sl ib (Z r.A) bc]/\EL Sb r.A bc
structure MI (r:Eu):Prop where
 h3:Z r.h.ts<=3
 b3:∀l∈r.A,Z l.a.ts<=3
 bl:Z r.A<=100
 hv:∀t∈r.h.ts,Zd t
 bv:∀l∈r.A,∀t∈l.a.ts,Zd t
theorem cY (P)(hP:Z P=52)(r)(hr:MI r)(o c)(hc:Tq o r c)(q):AF Tryz.prog 212 [ag (Ad P),ag c] q fun x q'=>(∃c',x=ag c'/\Tq false (Fs P r) c')/\AE q q':=by
 obtain⟨ih,ib,bc,rfl,hb⟩:=hc;have hl:=Ha hP;have a7:=H4 hP;have a9:=G5 P;have ba:=EL.length Hj hb;have bb:=hr.bl;have hH:=fun q=>cZ P hP r.h ih hr.hv (by have:=hr.h3;omega) q;have hL:=fun (l:Lit) (h:l∈r.A) (ids:Nat) q=>cZ P hP l.a ids (hr.bv l h) (by have:=hr.b3 l h;omega) q;refine Z9 33 [.cell 4 125] Tryz.func212 ?_
 refine qb ?_;intro yd yb;refine Xi (hH _) ?_;rintro _ _ ⟨⟨id1,rfl⟩,aj⟩;(have ah:=aj.B;have aa:=aj.C;simp only[Aa]at ah aa);refine pz ?_
 rename_i q1;have ay:AE q q1:=Xs;have o0:q1.C q.B=Ad P:=by rw[aa _ AA,Ah AK,Ah AK,Ao]
 have o2:q1.C (q.B+2)=[sc (.bool false),ic 0,nilS,nilS]:=by rw[aa _ AA,Bg AK AK]
 clear hH aa
 refine Ae (fun m s q'=>∃(k i3:Nat) (xs:List AV),m=Z r.A-k/\k<=Z r.A/\s 2=ptr q.B 0/\s 4=ptr (q.B+2) 0/\s 5=ptr q1.B 0/\s 14=sl ib (Z r.A) bc/\s 15=ic (Z r.A)/\s 16=ic k/\AE q q'/\q1.B<q'.B/\q'.C q.B=Ad P/\q'.C (q.B+2)=[sc (.bool false),ic 0,nilS,nilS]/\q'.C q1.B=[sc (.bool false),ic r.h.p,sl id1 (Z r.h.ts) (Ad (r.h.ts.map (Et P))),sl i3 k xs]/\Own q q' i3 k/\Z xs=k*3/\AD (EL Sb ((r.A.take k).map (qZ P)) xs)) (Z r.A)
  ⟨0,1,[],AA,AA,by simp[upd,AM],AG,AG,AG,AG,rfl,Xs,BM,by rw[Aj AA,Ah AA,o0],by rw[Aj AA,Ah AA,o2],by rw[Ak],Own.nil _ _,by simp,by simp[AD,EL]⟩ ?_
 clear o0 o2 ay aj;rintro m s q' ⟨k,i3,xs,rfl,hk,h2,h4,h5,bf,be,bd,hK,a8,a5,a4,a3,hO,ao,hX⟩;have a6:=hK.B;by_cases ak:k<Z r.A
 ·have ab:=AJ ak;obtain⟨ia,rr,hd⟩:=H8 hb ab;have am:=fun q=>hL r.A[k] (AT ak) ia q;generalize r.A[k]=a at hd ab am;have HX:AD (∀i4,EL Sb ((r.A.take (k+1)).map (qZ P)) (xs++[sc (.bool a.neg),ic a.a.p,sl i4 (Z a.a.ts) (Ad (a.a.ts.map (Et P)))])):=fun i4=>by
   rw[AU,ab,BJ,FO];exact EL.append hX.o (EL.single ⟨i4,by simp[qZ,P0]⟩)
  clear ab hX hL
  refine qb ?_;intro yd yb;refine Xi (am _) ?_;rintro _ _ ⟨⟨i4,rfl⟩,ad⟩;(have ae:=ad.C;have af:=ad.B;simp only[Aa,Ab]at af ae);refine qm ?_;intro yd yb
  rename_i q4;have aw:=((hK.new [sc (.bool false),ic 0,nilS]).put hK.B _).trans ad;have au:=Own.keep (Own.put (Own.new hO [sc (.bool false),ic 0,nilS]) q'.B [sc (.bool a.neg),ic a.a.p,sl ia (Z a.a.ts) (Ad a.a.ts)]) ad;refine Bn (by first|exact Fe) (aw.put AA _) (Own.put au _ _) (by decide) (by rfl) ao (by rfl) (by rfl) (by decide) AA AA ?_;intro idn qn av ax a0 ac az an;simp only[Ab,Aa]at ac;refine Z3 ?_
  refine zz ?_
  refine⟨Z r.A-(k+1),AA,k+1,idn,xs++[sc (.bool a.neg),ic a.a.p,sl i4 (Z a.a.ts) (Ad (a.a.ts.map (Et P)))],?_⟩
  ((repeat' refine Zi ?_ ?_)<;>first|exact Xq|exact (HX.o i4)|exact (ax.put AA _)|exact (Own.put av _ _)|exact Xs)
 ·have ap:k=Z r.A:=AA;subst ap;rw[AS]at hX
  refine pz ?_
  exact⟨_,rfl,⟨_,rfl,id1,i3,xs,by simp[Fs,P0],hX.o⟩,hK.put AA _⟩
def BW:List Tm:=(List.range 52).map fun (i:Nat)=>if i<26 then (true,(26:Int)+i)else (false,0)
theorem oR:Z BW=52:=by simp[BW]
theorem apart_spec (r)(hr:MI r)(o c)(hc:Tq o r c)(q):AF Tryz.prog 209 [ag c] q fun x q'=>(∃c',x=ag c'/\Tq false (Fs BW r) c')/\AE q q':=by
 have hI:=fun q=>cY BW oR r hr o c hc q;obtain⟨ih,ib,bc,rfl,hb⟩:=hc;have ax:=Uz;have hz:=Og;refine Z9 17 [.cell 2 125] Tryz.func209 ?_
 refine zz ?_
 refine Ae (fun m s q'=>∃(k:Nat) (Q:List Tm),m=26-k/\k<=26/\s 1=ptr q.B 0/\s 2=ptr (q.B+1) 0/\s 3=ptr (q.B+2) 0/\s 4=ic k/\AE q q'/\q.B+2<q'.B/\q'.C q.B=[sc (.bool o),ic r.h.p,sl ih (Z r.h.ts) (Ad r.h.ts),sl ib (Z r.A) bc]/\q'.C (q.B+1)=[sc (.bool false),ic 0,nilS,nilS]/\q'.C (q.B+2)=Ad Q/\Z Q=52/\AD (Q=BW.take k++DD.drop k)) 26
  ⟨0,DD,AA,AA,AG,AG,AG,AG,Xs,AK,?_,?_,?_,by simp[DD],by simp[AD]⟩ ?_
 ·rw[Ah AK,Ah AK,Ao]
 ·rw[Ah AK,Bg AK AK]
 ·rw[Bg AK AK]
 rintro m s q' ⟨k,Q,rfl,hk,h1,h2,h3,h4,hK,av,an,am,ak,hQ,hA⟩;have ao:=hK.B;have aw:=Ha hQ;by_cases af:k<26
 ·have ae:AD (Q.set k (true,(26:Int)+k)=BW.take (k+1)++DD.drop (k+1)):=by
   rw[AD,hA.o,qE (by simp[DD];omega)];simp[BW,af,show k<52 by omega]
  have au:=Ns (l:=Q) (i:=k) AA true ((26:Int)+k);have ah:∀x,Z (Q.set k x)=52:=fun x=>by rw[LU,hQ]
  clear hA
  refine pz ?_
  refine⟨26-(k+1),AA,k+1,Q.set k (true,(26:Int)+k),?_⟩
  ((repeat' refine Zi ?_ ?_)<;>first|exact Xq|exact ae|exact (ah _)|exact Xs)
 ·have ai:k=26:=AA;subst ai;have HQ:Q=BW:=by rw[hA.o];rfl
  subst HQ;have ap:=H4 hQ;clear hA
  refine qb ?_;intro yd yb;refine Xi (hI _) ?_;rintro _ _ ⟨⟨c',rfl,hE⟩,ab⟩;(have ad:=ab.B;have ac:=ab.C;obtain⟨jh,jb,jc,rfl,aj⟩:=hE);refine pz ?_
  exact⟨_,rfl,⟨_,rfl,jh,jb,jc,rfl,aj⟩,Xs⟩
def Rh (P:List Tm)(t u:Tm):Option (List Tm):=
 if Et P t=Et P u then some P else if (Et P u).1=true then some (Ui P (Et P u) (Et P t))else if (Et P t).1=true then some (Ui P (Et P t) (Et P u))else none
def Dy:List Tm->List Tm->List Tm->Option (List Tm)
 |P,[],_=>some P
 |_,_::_,[]=>none
 |P,t::ts,u::us=>(Rh P t u).bind fun P'=>Dy P' ts us
def CI:List Tm:=(List.range 52).map fun (i:Nat)=>(true,(i:Int))
theorem Q9:Z CI=52:=by simp[CI]
def QF:Option (List Tm)->AV
 |some P=>tp [ag (Ad P),sc (.bool true)]
 |none=>tp [ag (Ad DD),sc (.bool false)]
theorem Ll (P v t):Z (Ui P v t)=Z P:=by simp[Ui]
theorem rN {P}{ts us:List Tm}{k t u}(ht:ts[k]?=some t)(hu:us[k]?=some u):Dy P (ts.drop k) (us.drop k)=(Rh P t u).bind fun P'=>Dy P' (ts.drop (k+1)) (us.drop (k+1)):=by
 obtain⟨l1,e1⟩:=BG.1 ht;obtain⟨l2,e2⟩:=BG.1 hu;rw[FJ l1,FJ l2,e1,e2];rfl
theorem yT (a b:Dv)(i1 i2)(hl:Z a.ts=Z b.ts)(hn:Z a.ts<=1000)(ha:∀t∈a.ts,Zd t)(hb:∀t∈b.ts,Zd t)(q):
  AF Tryz.prog 210 [ag [ic a.p,sl i1 (Z a.ts) (Ad a.ts)],ag [ic b.p,sl i2 (Z b.ts) (Ad b.ts)]] q fun r q'=>r=QF (Dy CI a.ts b.ts)/\AE q q':=by
 have b0:=Uz;have hz:=Og;have br:=Cs a.ts;have bq:=Cs b.ts;have b2:=G5;have a7:AD (Z a.ts=Z b.ts):=hl;clear hl;refine Z9 56 [.cell 4 260,.tmp 5] Tryz.func210 ?_
 refine zz ?_
 refine Ae (fun m s q'=>∃(k:Nat) (Q:List Tm),m=52-k/\k<=52/\s 2=ptr q.B 0/\s 3=ptr (q.B+1) 0/\s 4=ptr (q.B+2) 0/\s 6=ptr (q.B+3) 0/\s 12=ic k/\AE q q'/\q.B+3<q'.B/\q'.C q.B=[ic a.p,sl i1 (Z a.ts) (Ad a.ts)]/\q'.C (q.B+1)=[ic b.p,sl i2 (Z b.ts) (Ad b.ts)]/\q'.C (q.B+2)=Ad DD/\q'.C (q.B+3)=Ad Q/\Z Q=52/\AD (Q=CI.take k++DD.drop k)) 52
  ⟨0,DD,AA,AA,AG,AG,AG,AG,AG,Xs,AK,?_,?_,?_,?_,by simp[DD],by simp[AD]⟩ ?_
 ·rw[Ah AK,Ah AK,Ah AK,Ao]
 ·rw[Ah AK,Ah AK,Bg AK AK]
 ·rw[Ah AK,Bg AK AK]
 ·rw[Bg AK AK]
 rintro m s q' ⟨k,Q,rfl,hk,h2,h3,h4,h6,bo,hK,a3,bc,am,ak,aj,hQ,hA⟩;have a8:=hK.B;have bb:=Ha hQ;by_cases ap:k<52
 ·have bd:AD (Q.set k (true,(k:Int))=CI.take (k+1)++DD.drop (k+1)):=by
   rw[AD,hA.o,qE (by simp[DD];omega)];simp[CI,ap]
  have bw:=Ns (l:=Q) (i:=k) AA true (k:Int);have be:∀x,Z (Q.set k x)=52:=fun x=>by rw[LU,hQ]
  clear hA
  refine pz ?_
  refine⟨52-(k+1),AA,k+1,Q.set k (true,(k:Int)),?_⟩
  ((repeat' refine Zi ?_ ?_)<;>first|exact Xq|exact bd|exact (be _)|exact Xs)
 have bg:k=52:=AA;subst bg;have HQ:Q=CI:=by rw[hA.o];rfl
 subst HQ;clear hA ap hk hQ bb
 refine pz ?_
 refine Ae (fun m s q'=>∃(k:Nat) (Q:List Tm),m=Z a.ts-k/\k<=Z a.ts/\s 3=ptr (q.B+1) 0/\s 4=ptr (q.B+2) 0/\s 6=ptr (q.B+3) 0/\s 21=sl i1 (Z a.ts) (Ad a.ts)/\s 22=ic (Z a.ts)/\s 23=ic k/\AE q q'/\q.B+3<q'.B/\q'.C (q.B+1)=[ic b.p,sl i2 (Z b.ts) (Ad b.ts)]/\q'.C (q.B+2)=Ad DD/\q'.C (q.B+3)=Ad Q/\Z Q=52/\AD (Dy CI a.ts b.ts=Dy Q (a.ts.drop k) (b.ts.drop k))) (Z a.ts)
  ⟨0,CI,AA,AA,AI,AI,AI,AG,AG,AG,hK,a3,am,ak,aj,Q9,by simp[AD]⟩ ?_
 clear h2 h3 h4 h6 bo hK a3 bc am ak aj a8;rintro m s q' ⟨k,Q,rfl,hk,h3,h4,h6,bn,bm,bl,hK,a3,am,ak,aj,hQ,hA⟩;have a8:=hK.B;have bb:=Ha hQ;have bu:=H4 hQ;by_cases ap:k<Z a.ts
 ·have ba:k<Z b.ts:=by have:=a7.o;omega
  have g1:=AJ ap;have g2:=AJ ba;have az:=ha a.ts[k] (AT ap);have ay:=hb b.ts[k] (AT ba);obtain⟨r1,bi⟩:=Cz g1;obtain⟨r2,bh⟩:=Cz g2;have HM:AD (Dy CI a.ts b.ts=(Rh Q a.ts[k] b.ts[k]).bind fun P'=>Dy P' (a.ts.drop (k+1)) (b.ts.drop (k+1))):=by rw[AD,hA.o,rN g1 g2]
  clear hA g1 g2;generalize a.ts[k]=t at bi az HM;generalize b.ts[k]=u at bh ay HM;have av:=fun q=>W3 Q hQ t az q;have au:=fun q=>W3 Q hQ u ay q;unfold Rh at HM;generalize Et Q t=x at av HM;generalize Et Q u=y at au HM;obtain⟨x1,x2⟩:=x;obtain⟨y1,y2⟩:=y;dsimp only at av au HM;clear az ay
  refine qb ?_;intro yd yb;refine Xi (av _) ?_;rintro _ _ ⟨rfl,aw⟩;(have ax:=aw.B;have ah:=aw.C;simp only[Aa,Ab]at ax ah);refine pz ?_
  rename_i q1;have a6:AE q ((q1.new [sc (.bool false),ic 0]).put q1.B [sc (.bool x1),ic x2]):=((((hK.new _).put hK.B _).trans aw).new _).put AA _;have kv:∀p,p<q'.B->((q1.new [sc (.bool false),ic 0]).put q1.B [sc (.bool x1),ic x2]).C p=q'.C p:=fun p hp=>by rw[Aj AA,Ah AA,ah _ AA,Aj AA,Ah AA]
  have o10:((q1.new [sc (.bool false),ic 0]).put q1.B [sc (.bool x1),ic x2]).C q1.B=[sc (.bool x1),ic x2]:=Ak;have nb:q1.B<((q1.new [sc (.bool false),ic 0]).put q1.B [sc (.bool x1),ic x2]).B:=BM;generalize (q1.new [sc (.bool false),ic 0]).put q1.B [sc (.bool x1),ic x2]=q2 at a6 kv o10 nb;have oc1:q2.C (q.B+1)=[ic b.p,sl i2 (Z b.ts) (Ad b.ts)]:=by rw[kv _ AA,am]
  have oc2:q2.C (q.B+2)=Ad DD:=by rw[kv _ AA,ak]
  have oc3:q2.C (q.B+3)=Ad Q:=by rw[kv _ AA,aj]
  clear kv ah aw hK am ak aj av;refine Az (Q:=fun e s' q''=>e= .normal/\∃o11:Nat,s' 11=ptr o11 0/\q2.B<=o11/\o11<q''.B/\q''.C o11=[sc (.bool y1),ic y2]/\s' 3=ptr (q.B+1) 0/\s' 4=ptr (q.B+2) 0/\s' 6=ptr (q.B+3) 0/\s' 10=ptr q1.B 0/\s' 21=sl i1 (Z a.ts) (Ad a.ts)/\s' 22=ic (Z a.ts)/\s' 23=ic k/\AE q2 q'') ?_ ?_
  ·refine Aq Ag (fun _=>True) [8] [0,1,2,3,4,5] 3 #[true,true,true,true,true,true,false,false,false] AH (fun _ _ _ h=>by cases h.1) ?_;intro yd yb;refine Z3 ?_;refine yb.o _ ?_;clear yb yd;refine Eo (rs:=[6,7]) AH (by simp) ?_;intro i hi;simp only[BB,EN,DY]at hi;rcases hi with rfl|rfl
   ·refine Am ?_;intro yd yb;refine Z3 ?_;refine AF.mono (au _) ?_;rintro _ q3 ⟨rfl,ac⟩;have ai:=ac.B;refine Z3 ?_;refine yb.o _ _ ⟨Al ac,?_⟩;clear yb yd;refine Ai (i:=7) AH ?_;refine Am ?_;intro yd yb;refine Z3 ?_;refine yb.o _ _ ⟨Al (ac.new _),?_⟩;clear yb yd;refine Ai (i:=8) AH ?_;refine Am ?_;intro yd yb;refine Z3 ?_;refine yb.o _ _ ⟨A5 rfl,?_⟩;clear yb yd;exact Ax AH ⟨rfl,q3.B,AG,AA,BM,Ak,AI,AI,AI,AI,AI,AI,AI,(ac.new _).put AA _⟩
   ·refine Am ?_;intro yd yb;refine Z3 ?_;refine yb.o _ _ ⟨Al ((AE.refl _).new _),?_⟩;clear yb yd;refine Ai (i:=6) AH ?_;refine Am ?_;intro yd yb;refine Z3 ?_;refine AF.mono (au _) ?_;rintro _ q3 ⟨rfl,ac⟩;have ai:=ac.B;have aa:=ac.C;simp only[Aa]at ai aa;have o3z:q3.C q2.B=[sc (.bool false),ic 0]:=by rw[aa _ AA,Ao]
    have a5:AE q2 q3:=((AE.refl _).new _).trans ac;refine Z3 ?_;refine yb.o _ _ ⟨Al a5,?_⟩;clear yb yd;refine Ai (i:=8) AH ?_;refine Am ?_;intro yd yb;refine Z3 ?_;refine yb.o _ _ ⟨A5 rfl,?_⟩;clear yb yd;exact Ax AH ⟨rfl,q2.B,AG,AA,by simp only[Ab];omega,Ak,AI,AI,AI,AI,AI,AI,AI,a5.put AA _⟩
  rintro e s' q3 ⟨rfl,o11,g11,bz,b1,oy,g3,g4,g6,g10,g21,g22,g23,ac⟩;have ai:=ac.B;have aa:=ac.C;have od1:q3.C (q.B+1)=[ic b.p,sl i2 (Z b.ts) (Ad b.ts)]:=by rw[aa _ AA,oc1]
  have od2:q3.C (q.B+2)=Ad DD:=by rw[aa _ AA,oc2]
  have od3:q3.C (q.B+3)=Ad Q:=by rw[aa _ AA,oc3]
  have ox:q3.C q1.B=[sc (.bool x1),ic x2]:=by rw[aa _ AA,o10]
  have a5:=a6.trans ac;clear aa ac a6 oc1 oc2 oc3 o10 h3 h4 h6 bn bm bl au;by_cases ad:((x1,x2):Tm)=(y1,y2)
  ·have hc:(x1==y1&&x2==y2)=true:=by simp at ad;simp[ad]
   have HN:AD (Dy CI a.ts b.ts=Dy Q (a.ts.drop (k+1)) (b.ts.drop (k+1))):=by rw[AD,HM.o,if_pos ad];rfl
   clear HM ad
   refine pz ?_
   refine⟨Z a.ts-(k+1),AA,k+1,Q,?_⟩
   exact qh HN
  ·rw[if_neg ad]at HM;cases y1 with
   |true=>
    have hW:=fun q=>lS Q hQ (true,y2) (x1,x2) q;have ae:Z (Ui Q (true,y2) (x1,x2))=52:=by rw[Ll,hQ]
    have HN:AD (Dy CI a.ts b.ts=Dy (Ui Q (true,y2) (x1,x2)) (a.ts.drop (k+1)) (b.ts.drop (k+1))):=by rw[AD,HM.o,if_pos rfl];rfl
    generalize Ui Q (true,y2) (x1,x2)=Q' at hW ae HN;have a4:=Ha ae;have a0:=H4 ae;have a9:=Pw hQ ae;clear HM;cases x1 with
    |true=>
     have hc:(x2==y2)=false:=by simpa using ad
     clear ad
     refine qb ?_;intro yd yb;refine Xi (hW _) ?_;rintro _ _ ⟨rfl,af⟩;(have ao:=af.B;have an:=af.C);refine pz ?_
     refine⟨Z a.ts-(k+1),AA,k+1,Q',?_⟩
     exact qh HN
    |false=>
     clear ad
     refine qb ?_;intro yd yb;refine Xi (hW _) ?_;rintro _ _ ⟨rfl,af⟩;(have ao:=af.B;have an:=af.C);refine pz ?_
     refine⟨Z a.ts-(k+1),AA,k+1,Q',?_⟩
     exact qh HN
   |false=>
    rw[if_neg (by simp)]at HM;cases x1 with
    |true=>
     have hW:=fun q=>lS Q hQ (true,x2) (false,y2) q;have ae:Z (Ui Q (true,x2) (false,y2))=52:=by rw[Ll,hQ]
     have HN:AD (Dy CI a.ts b.ts=Dy (Ui Q (true,x2) (false,y2)) (a.ts.drop (k+1)) (b.ts.drop (k+1))):=by rw[AD,HM.o,if_pos rfl];rfl
     generalize Ui Q (true,x2) (false,y2)=Q' at hW ae HN;have a4:=Ha ae;have a0:=H4 ae;have a9:=Pw hQ ae;clear HM ad
     refine qb ?_;intro yd yb;refine Xi (hW _) ?_;rintro _ _ ⟨rfl,af⟩;(have ao:=af.B;have an:=af.C);refine pz ?_
     refine⟨Z a.ts-(k+1),AA,k+1,Q',?_⟩
     exact qh HN
    |false=>
     have HN:AD (Dy CI a.ts b.ts=none):=by rw[AD,HM.o,if_neg (by simp)];rfl
     have bp:=H4 (P:=DD) (by simp[DD]);have bv:=Pw (P:=DD) (Q:=DD) (by simp[DD]) (by simp[DD]);have hc:(x2==y2)=false:=by simpa using ad
     clear HM ad
     refine pz ?_
     exact⟨_,rfl,by rw[HN.o];rfl,Xs⟩
 ·have bf:k=Z a.ts:=AA;have HM:AD (Dy CI a.ts b.ts=some Q):=by
   rw[AD,hA.o,bf,JZ];rfl
  have a9:=Pw (P:=DD) (by simp[DD]) hQ;clear hA
  refine pz ?_
  exact⟨_,rfl,by rw[HM.o];rfl,Xs⟩
def QM (c:List AV):Prop:=∃(b:Bool) (p:Int) (ia n:Nat) (tc:List AV),c=[sc (.bool b),ic p,sl ia n tc]/\∀x∈tc,∃v,x=sc v
def Tl {α:Type}(E:α->List AV->Prop)(a:α)(d:List AV):Prop:=∃x,E a (x::d)
theorem oZ {α:Type}{E}(hz:∀a c,E a c->QM c):∀{l:List α} {cs:List AV},EL (Tl E) l cs->∀c∈cs,Plain c
 |[],cs,h,c,hc=>by have h:cs=[]:=h;subst h;cases hc
 |a::l,_,⟨c1,c2,⟨x,hx⟩,h2,rfl⟩,c,hc=>by
  rcases AW.1 hc with hc|hc
  ·obtain⟨_,p,ia,n,tc,e,ht⟩:=hz _ _ hx;simp at e;rw[e.2]at hc;simp only[BB,EN,DY]at hc;rcases hc with rfl|rfl
   ·exact .inl ⟨_,rfl⟩
   ·exact .inr ⟨_,_,_,rfl,ht⟩
  ·exact oZ hz h2 c hc
theorem rC {α:Type}{E:α->List AV->Prop}(hz:∀a c,E a c->QM c)(p ih n tc)(af:∀x∈tc,∃v,x=sc v)(l id b)(hb:EL E l b)(hn:Z l<=1000)(q):
  AF Tryz.prog 133 [ag [sc (.bool false),ic p,sl ih n tc,sl id (Z l) b]] q fun r q'=>∃(o m:Nat) (cs:List AV),r=fx o 0 m/\q.B<=o/\q'.C o=cs/\AE q q'/\(∀c∈cs,Plain c)/\(m=Z l+1/\∃ds,cs=ic p::sl ih n tc::ds/\EL (Tl E) l ds):=by
 have h3:∀a c,E a c->Z c=3:=fun a c h=>by obtain⟨_,_,_,_,_,rfl,-⟩:=hz a c h;rfl
 have ap:=EL.length h3 hb;refine Z9 33 [.tmp 2] Tryz.func133 ?_
 refine pz ?_
 have ae:AE q (q.new [sc (.bool false),ic p,sl ih n tc,sl id (Z l) b]):=(AE.refl _).new _;have ad:((Z l:Int)+1).toNat=Z l+1:=AA
 refine Ae (fun m s q'=>∃(k:Nat) (cur:List AV),m=Z l-k/\k<=Z l/\s 3=fx (q.B+1) 0 (Z l+1)/\s 18=sl id (Z l) b/\s 19=ic (Z l)/\s 20=ic k/\AE q q'/\q.B+1<q'.B/\q'.C (q.B+1)=cur/\Z cur=(Z l+1)*2/\AD (∃ds,cur=(ic p::sl ih n tc::ds)++(List.replicate (Z l-k) [ic 0,nilS]).flatten/\Z ds=k*2/\EL (Tl E) (l.take k) ds)) (Z l)
  ⟨0,_,AA,AA,by simp[upd,ad],AG,AG,rfl,(ae.new _).put AA _,BM,Ak,by simp[ad],[],?_,rfl,rfl⟩ ?_
 ·rw[ad,Uy AA];rfl
 clear ae;rintro m s q' ⟨k,cur,rfl,hk,au,ax,aw,av,hK,ao,ah,ak,hE⟩;have am:=hK.B;by_cases ai:k<Z l
 ·have aa:=AJ ai;obtain⟨c,r,ac,hd⟩:=EL.get h3 hb aa;generalize l[k]=a at hd aa ac;obtain⟨a1,a2,a3,a4,a5,rfl,ha⟩:=hz _ _ ac;simp only[FC,FM]at hd;have HN:AD (∃ds,(cur.set ((k+1)*2) (ic a2)).set ((k+1)*2+1) (sl a3 a4 a5)=(ic p::sl ih n tc::ds)++(List.replicate (Z l-(k+1)) [ic 0,nilS]).flatten/\Z ds=(k+1)*2/\EL (Tl E) (l.take (k+1)) ds):=by
   obtain⟨ds,e1,e2,e3⟩:=hE.o;refine⟨ds++[ic a2,sl a3 a4 a5],?_,by simp[e2];omega,?_⟩
   ·rw[e1,Uy AA,vM (by simp[e2];omega)];simp[Nat.sub_sub]
   ·rw[AU,aa];exact EL.append e3 (EL.single ⟨_,ac⟩)
  clear aa ac hE ha;have an:((k:Int)+1).toNat=k+1:=AA
  refine pz ?_
  refine⟨Z l-(k+1),AA,k+1,(cur.set ((k+1)*2) (ic a2)).set ((k+1)*2+1) (sl a3 a4 a5),?_⟩
  ((repeat' refine Zi ?_ ?_)<;>first|exact Xq|exact (((hK.new _).put hK.B _).put AA _)|exact Ak|exact HN|exact (by simp[ak])|exact Xs)
 ·have aj:k=Z l:=AA;subst aj;obtain⟨ds,e1,e2,e3⟩:=hE.o;rw[KB,List.replicate_zero,List.flatten_nil,FA]at e1;rw[AS]at e3;have hpl:∀c∈cur,Plain c:=fun c hc=>by
   rw[e1]at hc;simp only[BB]at hc;rcases hc with rfl|rfl|hc
   ·exact .inl ⟨_,rfl⟩
   ·exact .inr ⟨_,_,_,rfl,af⟩
   ·exact oZ hz e3 c hc
  have HF:AD ((∀c∈cur,Plain c)/\∃ds,cur=ic p::sl ih n tc::ds/\EL (Tl E) l ds):=⟨hpl,ds,e1,e3⟩;clear hE e1 e2 e3 hpl
  refine pz ?_
  exact⟨_,rfl,q.B+1,_,cur,rfl,AA,ah,HF.o.1,rfl,HF.o.2⟩
theorem eC (ts):∀x∈Ad ts,∃v,x=sc v:=fun x hx=>by
 obtain⟨t,-,ht⟩:=DR.1 hx;simp[Jx]at ht;rcases ht with rfl|rfl<;>exact⟨_,rfl⟩
theorem ni (l c)(h:Sb l c):QM c:=by
 obtain⟨id,rfl⟩:=h;exact⟨_,_,_,_,_,rfl,eC _⟩
def Ho (r:Eu):List Dv:=r.h::r.A.map (·.a)
def Fi (r:Eu):List Int:=Co (Ho r)
theorem TE:∀{l:List Lit} {ds:List AV},EL (Tl Sb) l ds->EL O1 (l.map (·.a)) ds
 |[],_,h=>h
 |a::l,_,⟨c1,c2,⟨x,ia,e⟩,h2,rfl⟩=>⟨c1,c2,⟨ia,by simpa using (List.cons.inj e).2⟩,TE h2,rfl⟩
theorem lO (r c)(hc:Tq false r c)(hn:Z r.A<=1000)(q):AF Tryz.prog 133 [ag c] q fun x q'=>∃id cs,x=sl id (Z (Ho r)) cs/\EL O1 (Ho r) cs/\AE q q':=by
 obtain⟨ih,ib,bc,rfl,hb⟩:=hc;refine (AF.freeze (rC ni _ _ _ _ (eC _) _ _ _ hb hn q)).mono fun x q' h=>?_;obtain⟨n,cs,rfl,⟨rfl,ds,rfl,h1⟩,h2⟩:=h;exact⟨0,_,by simp[Ho],⟨_,_,⟨ih,rfl⟩,TE h1,rfl⟩,h2⟩
theorem Mb (r c)(hc:Tq false r c)(hr:MI r)(q):AF Tryz.prog 96 [ag c] q fun x q'=>(∃id,x=sl id (Z (Fi r)) (As (Fi r)))/\AE q q':=by
 have hb:=hr.bl;have hA:=fun q=>lO r c hc AA q
 have hV:=fun cs ida hE q=>Hy (Ho r) cs ida hE (fun a ha=>by
  rcases BB.1 ha with rfl|ha
  ·exact hr.h3
  ·obtain⟨l,hl,rfl⟩:=AO.1 ha
   exact hr.b3 l hl) (by simp[Ho];omega) q
 obtain⟨ih,ib,bc,rfl,-⟩:=hc;unfold Fi;generalize Co (Ho r)=vs at hV;refine Z9 6 [.tmp 2] Tryz.func96 ?_
 repeat' first|refine Z1 ?_|refine Z8 fun yd yb=>?_|refine Z4 ?_;clear yb yd|(refine Z5 ?_;first|(refine Xi (hA _) ?_;rintro _ _ ⟨ida,cs,rfl,hE,ab⟩)|(refine Xi (hV _ _ (by assumption) _) ?_;rintro _ _ ⟨⟨id2,rfl⟩,aa⟩))|refine Z3 ?_|exact Zt|apply yb.o;clear yb yd
 exact⟨_,rfl,⟨id2,rfl⟩,Xs⟩
def qY (l:List Int)(v:Int):Int:=if v∈l then (l.idxOf v:Nat)else -1
def Gl (l:List Int)(t:Tm):Tm:=(t.1,if t.1=true then qY l t.2 else t.2)
theorem Oq (l ido kp ids ts)(hl:Z l<=100000)(hn:Z ts<=1000)(q):
  AF Tryz.prog 144 [ag [ic kp,sl ids (Z ts) (Ad ts)],sl ido (Z l) (As l)] q fun r q'=>(∃id,r=ag [ic kp,sl id (Z ts) (Ad (ts.map (Gl l)))])/\AE q q':=by
 have a4:=Cs ts;refine Z9 33 [.cell 4 122] Tryz.func144 ?_
 refine zz ?_
 refine Ae (fun m s q'=>∃(k i3:Nat) (xs:List AV),m=Z ts-k/\k<=Z ts/\s 1=sl ido (Z l) (As l)/\s 4=ptr (q.B+1) 0/\s 5=ptr (q.B+2) 0/\s 12=sl ids (Z ts) (Ad ts)/\s 13=ic (Z ts)/\s 14=ic k/\AE q q'/\q.B+2<q'.B/\q'.C (q.B+1)=[ic 0,nilS]/\q'.C (q.B+2)=[ic kp,sl i3 k xs]/\Own q q' i3 k/\Z xs=k*2/\AD (xs=Ad ((ts.take k).map (Gl l)))) (Z ts)
  ⟨0,1,[],AA,AA,by simp[upd,AM],AG,AG,AG,AG,rfl,?_,?_,?_,?_,Own.nil _ _,by simp,by simp[AD,Ad]⟩ ?_
 ·exact ((((AE.refl q).new _).new _).new _).put AA _
 ·simp only[Ab,Aa];omega
 ·rw[Aj AA,Ah AK,Bg (by rw[Aa];omega) (by rw[Aa];omega)]
 ·rw[show q.B+2=q.B+1+1 by omega,Ak]
 rintro m s q' ⟨k,i3,xs,rfl,hk,h1,h4,h5,a8,a7,a6,hK,a5,ax,aw,hO,au,hX⟩;have a3:=hK.B;by_cases ay:k<Z ts
 ·have ac:=AJ ay;obtain⟨r2,a0⟩:=Cz ac;generalize ts[k]=w at a0 ac;obtain⟨w1,w2⟩:=w;have aa:AD (Ad ((ts.take (k+1)).map (Gl l))=xs++Jx (Gl l (w1,w2))):=by
   rw[AD,AU,ac,BJ,FO,List.map_singleton,Ua,<-hX.o]
  clear ac hX;cases w1 with
  |true=>
   have hP:=fun q=>H7 w2 l ido hl q;have af:AD (xs++[sc (.bool true),ic (qY l w2)]=Ad ((ts.take (k+1)).map (Gl l))):=by rw[AD,aa.o];rfl
   have av:∀v,(if v∈l then ((l.idxOf v:Nat):Int)else -1)=qY l v:=fun _=>rfl;rw[av]at hP;generalize qY l w2=w3 at hP af;clear av aa
   refine qb ?_;intro yd yb;refine Xi (hP _) ?_;rintro _ _ ⟨rfl,ah⟩;(have aj:=ah.B;have ai:=ah.C;simp only[Aa,Ab]at aj ai);refine qm ?_;intro yd yb
   rename_i q2;have am:AE q (q2.put q'.B [sc (.bool true),ic w3]):=(((hK.new _).put hK.B _).trans ah).put AA _;refine Bn (by first|exact E0) am (Own.put (Own.keep (Own.put (Own.new hO _) _ _) ah) _ _) (by decide) (by rfl) au (by rfl) (by rfl) (by decide) AA AA ?_;intro idn qn ak an ap ab ao ae;simp only[Ab,Aa]at ab;refine Z3 ?_
   refine zz ?_
   refine⟨Z ts-(k+1),AA,k+1,idn,xs++[sc (.bool true),ic w3],?_⟩
   ((repeat' refine Zi ?_ ?_)<;>first|exact Xq|exact (an.put AA _)|exact (Own.put ak _ _)|exact af|exact Xs)
  |false=>
   have af:AD (xs++[sc (.bool false),ic w2]=Ad ((ts.take (k+1)).map (Gl l))):=by rw[AD,aa.o];rfl
   clear aa
   refine qm ?_;intro yd yb
   have am:AE q ((q'.new [sc (.bool false),ic 0]).put q'.B [sc (.bool false),ic w2]):=(hK.new _).put hK.B _;refine Bn (by first|exact E0) am (Own.put (Own.new hO _) _ _) (by decide) (by rfl) au (by rfl) (by rfl) (by decide) AA AA ?_;intro idn qn ak an ap ab ao ae;simp only[Ab,Aa]at ab;refine Z3 ?_
   refine zz ?_
   refine⟨Z ts-(k+1),AA,k+1,idn,xs++[sc (.bool false),ic w2],?_⟩
   ((repeat' refine Zi ?_ ?_)<;>first|exact Xq|exact (an.put AA _)|exact (Own.put ak _ _)|exact af|exact Xs)
 ·have az:k=Z ts:=AA;subst az;rw[AS]at hX
  refine pz ?_
  exact⟨_,rfl,⟨i3,by rw[hX.o]⟩,hK.put AA _⟩
end Go.Proofs.YtmoeoppbmhfbpabGreatDoorI
