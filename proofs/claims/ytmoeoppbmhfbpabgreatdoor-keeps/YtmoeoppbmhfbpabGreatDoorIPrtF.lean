import Derived.Test.YtmoeoppbmhfbpabGreatDoorIShelf
import Derived.Test.YtmoeoppbmhfbpabGreatDoorIAbsWp
import Derived.Test.YtmoeoppbmhfbpabGreatDoorIProgM
set_option maxHeartbeats 16000000
set_option maxRecDepth 100000
set_option linter.all false
open List renaming length->Z
namespace Go.Proofs.YtmoeoppbmhfbpabGreatDoorI
open Go.Abs
def RL (N l:List Tx)(a:AC)(c:List AV):Prop:=∃ids,c=[sc (.bool a.nt),ic (N.idxOf a.B:Nat),sl ids (Z a.A) (Ea l a.A)]
theorem UE {N l}(a c)(h:RL N l a c):Z c=3:=by obtain⟨ids,rfl⟩:=h;rfl
theorem jt {N l ls cs i a}(h:EL (RL N l) ls cs)(hi:ls[i]?=some a):∃ia r,cs.drop (i*3)=sc (.bool a.nt)::ic (N.idxOf a.B:Nat)::sl ia (Z a.A) (Ea l a.A)::r:=by
 obtain⟨c,r,⟨ia,rfl⟩,e⟩:=EL.get UE h hi;exact⟨ia,r,e⟩
def RI (N l:List Tx)(x:AB)(c:List AV):Prop:=∃ih id b,EL (RL N l) x.A b/\c=[sc (.bool x.o),ic (N.idxOf x.h.B:Nat),sl ih (Z x.h.A) (Ea l x.h.A),sl id (Z x.A) b]
theorem gI (N x c)(hc:PI N x c)(ho:x.o=true->x.A=[])(hx:x.fits)(hV:∀a∈Af x,VA a)(bb:VA x.h)(bc:∀a∈x.A,VA a)(σ):
  AF Tryz.prog 93 [ag c] σ fun r σ'=>∃c',r=ag c'/\RI N (Ba x) x c'/\VL (Ba x)/\AE σ σ':=by
 have a3:=fun σ=>Uj N x c hc ho hx hV σ;have aw:=mN hx;have bn:=hx.1;have a9:=hx.2.2;obtain⟨hm,ih,id,b,hb,rfl⟩:=hc;have bp:=EL.length Es hb;have am:=fun lo ido (hl:Z lo<=10000000) hL σ=>Q7 lo ido (N.idxOf x.h.B:Nat) ih x.h hl hL bb hx.2.1 σ;have be:=fun lo ido (a:AC) ia ha (hl:Z lo<=10000000) hL hv σ=>Q7 lo ido (N.idxOf a.B:Nat) ia a hl hL hv (a9 a ha) σ;generalize Ba x=lo at a3 aw;have am:=fun ido hL σ=>am lo ido aw hL σ;refine Z9 39 [.cell 2 125] Tryz.func93 ?_
 refine qb ?_;intro yd yb;refine Xi (a3 _) ?_;rintro _ _ ⟨ido,rfl,bd,ay⟩;(have ad:=ay.C;have af:=ay.B;simp only[Aa]at af);refine pz ?_
 rename_i σ1;have aj:σ1.C σ.B=[sc (.bool x.o),ic (N.idxOf x.h.B:Nat),sl ih (Z x.h.A) (A2 x.h.A),sl id (Z x.A) b]:=by
  rw[ad _ AK,Ah AK,Ao]
 have ai:σ1.C (σ.B+1)=[sc (.bool false),ic 0,nilS,nilS]:=by
  rw[ad _ AK,Bg (by rw[Aa];omega) (by rw[Aa];omega)]
 have ao:AE σ σ1:=Xs;clear ad ay;have a5:AD (VL lo):=bd;refine Az (Q:=fun e s σ'=>e= .normal/\∃o i2:Nat,s 1=ptr σ.B 0/\s 2=ptr (σ.B+1) 0/\s 3=sl ido (Z lo) (lo.map encI)/\s 4=ptr o 0/\σ.B+1<o/\o<σ'.B/\σ'.C σ.B=[sc (.bool x.o),ic (N.idxOf x.h.B:Nat),sl ih (Z x.h.A) (A2 x.h.A),sl id (Z x.A) b]/\σ'.C (σ.B+1)=[sc (.bool false),ic 0,nilS,nilS]/\σ'.C o=[sc (.bool x.o),ic (N.idxOf x.h.B:Nat),sl i2 (Z x.h.A) (Ea lo x.h.A),nilS]/\AE σ σ') ?_ ?_
 ·refine Aq Ag (fun _=>True) [8] [0,1,2,3,4] 4 #[true,true,true,true,true,false,false,false,false] AH (fun _ _ _ h=>by cases h.1) ?_;intro yd yb;refine Z3 ?_;refine yb.o _ ?_;clear yb yd;have hR2:=fun σ=>am ido a5.o σ;refine Eo (rs:=[5,7]) AH (by simp) ?_;intro i hi;simp only[BB,EN,DY]at hi;rcases hi with rfl|rfl
  ·refine Am ?_;intro yd yb;refine Z3 ?_;refine AF.mono (hR2 _) ?_;rintro _ σ2 ⟨i2,rfl,ab⟩;have aa:=ab.C;have ae:=ab.B;refine Z3 ?_;refine yb.o _ _ ⟨Al ab,?_⟩;clear yb yd;refine Eo (rs:=[6,7]) AH (by simp) ?_;intro i hi;simp only[BB,EN,DY]at hi;rcases hi with rfl|rfl
   ·refine Am ?_;intro yd yb;refine Z3 ?_;refine yb.o _ _ ⟨Al ab,?_⟩;clear yb yd;refine Ai (i:=7) AH ?_;refine Am ?_;intro yd yb;refine Z3 ?_;refine yb.o _ _ ⟨Al (ab.new _),?_⟩;clear yb yd;refine Ai (i:=8) AH ?_;refine Am ?_;intro yd yb;refine Z3 ?_;refine yb.o _ _ ⟨A5 rfl,?_⟩;clear yb yd;refine Ax AH ⟨rfl,σ2.B,i2,AG,AG,AG,AG,AA,BM,?_,?_,Ak,?_⟩
    ·rw[Aj AA,Ah AA,aa _ AA,aj]
    ·rw[Aj AA,Ah AA,aa _ AA,ai]
    ·exact ((ao.trans ab).new _).put AA _
   ·refine Am ?_;intro yd yb;refine Z3 ?_;refine yb.o _ _ ⟨Al (ab.new _),?_⟩;clear yb yd;refine Ai (i:=6) AH ?_;refine Am ?_;intro yd yb;refine Z3 ?_;refine yb.o _ _ ⟨Al (ab.new _),?_⟩;clear yb yd;refine Ai (i:=8) AH ?_;refine Am ?_;intro yd yb;refine Z3 ?_;refine yb.o _ _ ⟨A5 rfl,?_⟩;clear yb yd;refine Ax AH ⟨rfl,σ2.B,i2,AG,AG,AG,AG,AA,BM,?_,?_,Ak,?_⟩
    ·rw[Aj AA,Ah AA,aa _ AA,aj]
    ·rw[Aj AA,Ah AA,aa _ AA,ai]
    ·exact ((ao.trans ab).new _).put AA _
  ·refine Am ?_;intro yd yb;refine Z3 ?_;refine yb.o _ _ ⟨Al ((AE.refl _).new _),?_⟩;clear yb yd;refine Ai (i:=5) AH ?_;refine Am ?_;intro yd yb;refine Z3 ?_;refine AF.mono (hR2 _) ?_;rintro _ σ2 ⟨i2,rfl,ab⟩;have aa:=ab.C;have ae:=ab.B;simp only[Aa]at ae;refine Z3 ?_;refine yb.o _ _ ⟨Al (((AE.refl _).new _).trans ab),?_⟩;clear yb yd;refine Ai (i:=6) AH ?_;refine Am ?_;intro yd yb;refine Z3 ?_;refine yb.o _ _ ⟨Al (((AE.refl _).new _).trans ab),?_⟩;clear yb yd;refine Ai (i:=8) AH ?_;refine Am ?_;intro yd yb;refine Z3 ?_;refine yb.o _ _ ⟨A5 rfl,?_⟩;clear yb yd;refine Ax AH ⟨rfl,σ1.B,i2,AG,AG,AG,AG,AA,BM,?_,?_,Ak,?_⟩
   ·rw[Aj AA,aa _ (by rw[Aa];omega),Ah AA,aj]
   ·rw[Aj AA,aa _ (by rw[Aa];omega),Ah AA,ai]
   ·exact ((ao.new _).trans ab).put AA _
 ·rintro e s σ2 ⟨rfl,o,i2,h1,h2,h3,h4,bo,av,a6,ap,ob,hK⟩;have az:=hK.B;clear ao aj ai af am
  refine zz ?_
  refine Ae (fun m s σ'=>∃(k i3:Nat) (xs:List AV),m=Z x.A-k/\k<=Z x.A/\s 2=ptr (σ.B+1) 0/\s 3=sl ido (Z lo) (lo.map encI)/\s 4=ptr o 0/\s 18=sl id (Z x.A) b/\s 19=ic (Z x.A)/\s 20=ic k/\AE σ σ'/\o<σ'.B/\σ'.C (σ.B+1)=[sc (.bool false),ic 0,nilS,nilS]/\σ'.C o=[sc (.bool x.o),ic (N.idxOf x.h.B:Nat),sl i2 (Z x.h.A) (Ea lo x.h.A),sl i3 k xs]/\Own σ σ' i3 k/\Z xs=k*3/\AD (EL (RL N lo) (x.A.take k) xs)) (Z x.A)
   ⟨0,1,[],AA,AA,by simp[upd,h2],by simp[upd,h3],by simp[upd,h4],AG,AG,rfl,hK,av,ap,ob,Own.nil _ _,by simp,rfl⟩ ?_
  clear h1 h2 h3 h4 a6 ap ob hK av az;rintro m s σ' ⟨k,i3,xs,rfl,hk,h2,h3,h4,bu,br,bq,hK,av,ap,ob,hO,a8,hX⟩;have az:=hK.B;by_cases a0:k<Z x.A
  ·have ac:=AJ a0;have ak:=AT a0;obtain⟨ha,ia,r,hd⟩:=Pn hb ac;have hR:=fun σ=>be lo ido x.A[k] ia ak aw a5.o (bc _ ak) σ;generalize x.A[k]=a at hd ac ha hR ak;have HG:AD (x.A[k]?=some a):=ac;clear ac ak
   refine qb ?_;intro yd yb;refine Xi (hR _) ?_;rintro _ _ ⟨i4,rfl,an⟩;(have a7:=an.C;have au:=an.B;simp only[Aa,Ab]at au);refine qm ?_;intro yd yb
   rename_i σ4;have bh:=((hK.new [sc (.bool false),ic 0,nilS]).put hK.B _).trans an;have bf:=Own.keep (Own.put (Own.new hO [sc (.bool false),ic 0,nilS]) σ'.B [sc (.bool a.nt),ic (N.idxOf a.B:Nat),sl ia (Z a.A) (A2 a.A)]) an;refine Bn (by first|exact Fe) ((bh.new _).put AA _) (Own.put (Own.new bf _) _ _) (by decide) (by rfl) a8 (by rfl) (by rfl) (by decide) AA AA ?_;intro idn σn bg bi bm ah bl a4;simp only[Ab,Aa]at ah;refine Z3 ?_
   refine zz ?_
   refine⟨Z x.A-(k+1),AA,k+1,idn,_,rfl,AA,by simp,bi.put AA _,AA,rfl,Own.put bg _ _,by simp;omega,?_⟩;rw[AD,AU,HG.o];exact EL.append hX.o (EL.single ⟨i4,rfl⟩)
  ·have ba:k=Z x.A:=AA;subst ba;rw[AS]at hX
   refine pz ?_
   exact⟨_,rfl,_,rfl,⟨i2,i3,xs,hX.o,rfl⟩,hK.put AA _⟩
theorem P9 {k}(h0:0<=k)(h1:k<26):Iq k=UInt8.ofNat (IntKind.u8.wrap (65+k)).toNat:=by
 unfold Iq;rw[Int.tmod_eq_of_lt h0 h1,i64w AA AA]
def WT (l:List Tx)(a:AC):Prop:=∀w∈a.A,DT w/\Z w<=1000/\(Ac w=true->0<=Bl l w/\Bl l w<26)
def WA (N l:List Tx)(a:AC):Prop:=a.B∈N/\0<Z a.A/\Z a.A<=1000/\Z a.B<=1000/\WT l a
structure WI (N:List Tx)(x:AB):Prop where
 fits:x.fits
 short:x.short
 va:∀a∈Af x,VA a
 vh:VA x.h
 vb:∀a∈x.A,VA a
 mem:x.h.B∈N
 A:Z x.A<=5
 o:x.o=true->x.A=[]
 h:x.o=false->x.h.nt=false/\WA N (Ba x) x.h
 wa:∀a∈x.A,WA N (Ba x) a
theorem mX {acc t u}(h:t∈acc\/(t=u/\Ac u=true)):t∈Ft acc u:=by
 unfold Ft;split
 ·rcases h with h|⟨rfl,-⟩
  ·exact AW.2 (.inl h)
  ·exact AW.2 (.inr (by simp))
 ·rename_i hn;rcases h with h|⟨rfl,hv⟩
  ·exact h
  ·exact Classical.byContradiction fun hm=>hn ⟨hv,hm⟩
theorem Rf:∀(ts acc:List Tx) (t:Tx),(t∈acc\/(t∈ts/\Ac t=true))->t∈G7 acc ts
 |[],acc,t,h=>by
  rcases h with h|⟨h,-⟩
  ·exact h
  ·cases h
 |u::ts,acc,t,h=>by
  show t∈G7 (Ft acc u) ts;apply Rf ts;rcases h with h|⟨h,hv⟩
  ·exact .inl (mX (.inl h))
  ·rcases BB.1 h with rfl|h
   ·exact .inl (mX (.inr ⟨rfl,hv⟩))
   ·exact .inr ⟨h,hv⟩
theorem nR {ls:List AC}(h:∀a∈ls,Z a.A<=3):Z (ls.flatMap (·.A))<=Z ls*3:=by
 induction ls with
 |nil=>simp
 |cons a ls ih=>
  have h2:=ih fun b hb=>h b (by simp[hb]);have h3:=h a (by simp);simp only[DK,AX,BQ];omega
theorem Ar {x a}(h:(x.o=false/\a=x.h)\/a∈x.A):a∈Af x:=by
 unfold Af;rcases h with⟨h,rfl⟩|h
 ·exact AW.2 (.inl (by rw[h];simp))
 ·exact AW.2 (.inr h)
theorem Oi {x}(hw:De x){a}(ha:a∈Af x){w}(hm:w∈a.A)(hv:Ac w=true):0<=Bl (Ba x) w/\Bl (Ba x) w<26:=by
 have h1:w∈Ba x:=Rf _ _ _ (.inr ⟨DR.2 ⟨a,ha,hm⟩,hv⟩);have h2:=CY h1;have h3:=X5 ((Af x).flatMap (·.A)) [];obtain⟨q1,q2,q3⟩:=hw;have h4:Z (Af x)<=6/\∀b∈Af x,Z b.A<=3:=by
  cases ho:x.o with
  |true=>
   obtain⟨-,-,e⟩:=q2 ho;simp[Af,ho,e]
  |false=>
   obtain⟨e1,-,e2,e3⟩:=q3 ho;refine⟨by simp[Af,ho];omega,fun b hb=>?_⟩;simp[Af,ho]at hb;rcases hb with rfl|hb
   ·exact e1.2.2.1
   ·exact (e3 b hb).2.2.1
 have h5:=nR h4.2;have h6:Z (Ba x)<=18:=by
  unfold Ba;rw[CP,EJ]at h3;omega
 unfold Bl;rw[if_pos h1];omega
theorem pn {t N l cs r}(hl:Z t<=1000)(hp:Bv 16 t= .got l r)(hB:Bk N l cs)(af:∀x∈l,De x):∀x∈l,WI N x:=by
 intro x hx;have aa:=Sx 16 t l r hp x hx;have ae:=Lo (T:=DT) W9 16 t l r hp x hx;have ab:=Ty hl hp x hx;have hm:=Tp hB.el x hx;have hw:=af x hx;have hf:=hB.fits x hx;have ac:∀a,a∈Af x->a.B∈N->D3 a->short a->Z a.A<=1000->WA N (Ba x) a:=fun a ha hN hW hs hn=>
  ⟨hN,JQ.2 hW.2.1,hn,hs.1,fun w hm=>⟨ae a ha w hm,hs.2.2 w hm,fun hv=>Oi hw ha hm hv⟩⟩
 refine⟨hf,ab,aa,?_,?_,hm.1,?_,hB.o x hx,?_,?_⟩
 ·cases ho:x.o with
  |true=>intro w ad;rw[(hw.2.1 ho).2.1]at ad;cases ad
  |false=>exact aa x.h (Ar (.inl ⟨ho,rfl⟩))
 ·exact fun a ha=>aa a (Ar (.inr ha))
 ·cases ho:x.o with
  |true=>rw[hB.o x hx ho];simp
  |false=>exact (hw.2.2 ho).2.2.1
 ·intro ho;obtain⟨e1,e2,-⟩:=hw.2.2 ho;exact⟨e2,ac x.h (Ar (.inl ⟨ho,rfl⟩)) hm.1 e1 ab.1 hf.2.1⟩
 ·intro a ha;have ho:x.o=false:=by
   cases h:x.o with
   |false=>rfl
   |true=>rw[hB.o x hx h]at ha;cases ha
  exact ac a (Ar (.inr ha)) (hm.2 a ha) ((hw.2.2 ho).2.2.2 a ha) (ab.2 a ha) (hf.2.2 a ha)
def C8 (l:List Tx)(a:AC):AC:={nt:=a.nt,B:=a.B,A:=a.A.map (Ev l)}
def ren (x:AB):AB:={o:=x.o,h:=C8 (Ba x) x.h,A:=x.A.map (C8 (Ba x))}
theorem F4 {k}(h0:0<=k)(h1:k<26):((Iq k).toNat:Int)=65+k:=by
 rw[P9 h0 h1,u8w AA AA];rw[UInt8.toNat_ofNat_of_lt' (by show (65+k).toNat<256;omega)];omega
theorem Fb {k}(h0:0<=k)(h1:k<26):Bw (Iq k).toNat=true:=by
 rw[F4 h0 h1];simp[Bw];omega
theorem Ke {l w}(hv:Ac w=true->0<=Bl l w/\Bl l w<26):Ac (Ev l w)=Ac w:=by
 unfold Ev;split
 ·rename_i h;obtain⟨h0,h1⟩:=hv h;rw[h];exact Fb h0 h1
 ·rfl
theorem m5 {l w}(hD:DT w)(hv:Ac w=true->0<=Bl l w/\Bl l w<26):Ap (Ev l w)=(Ac w,if Ac w=true then Bl l w else (Ap w).2):=by
 unfold Ev;split
 ·rename_i h;obtain⟨h0,h1⟩:=hv h;rw[E3 (Fb h0 h1),F4 h0 h1,h];congr 1;omega
 ·rename_i h;have h':Ac w=false:=by simpa using h
  rw[h'];cases w with
  |nil=>rfl
  |cons b r=>rw[Nr h']
theorem SH {N l a}(h:WA N l a):∀w∈a.A,DT w/\(Ac w=true->0<=Bl l w/\Bl l w<26):=fun w hw=>⟨(h.2.2.2.2 w hw).1,(h.2.2.2.2 w hw).2.2⟩
theorem TU (l):∀(ts:List Tx) (k:Nat),0<k->Hk l k ts=Cg (ts.map (Ev l))
 |[],k,_=>rfl
 |t::ts,k,hk=>by
  rw[Hk,TU l ts (k+1) AA,Mp,if_neg AA];simp[Cg]
theorem wY {l ts}(h:ts≠[]):Hk l 0 ts=40::Bu (ts.map (Ev l)):=by
 cases ts with
 |nil=>exact absurd rfl h
 |cons t ts=>rw[Hk,TU l ts 1 AA];simp[Mp,Bu]
theorem U6 {l a}(h:a.A≠[]):Da l a=Cp (C8 l a):=by
 unfold Da Cp A3;rw[wY h];cases ha:a.nt<;>simp[C8,ha]
theorem RF {l}:∀(ls:List AC) (k:Nat),0<k->(∀a∈ls,a.A≠[])->Hp l k ls=Cg ((ls.map (C8 l)).map Cp)
 |[],k,_,_=>rfl
 |a::ls,k,hk,h=>by
  rw[Hp,RF ls (k+1) AA (fun a' h'=>h a' (by simp[h'])),Zk,if_neg AA,U6 (h a (by simp))];simp[Cg]
theorem wZ {l ls}(h:∀a∈ls,a.A≠[]):Hp l 0 ls=if ls=[]then []else 58::45::Bu ((ls.map (C8 l)).map Cp):=by
 cases ls with
 |nil=>rfl
 |cons a ls=>
  rw[Hp,RF ls 1 AA (fun a' h'=>h a' (by simp[h'])),U6 (h a (by simp)),if_neg (by simp)];simp[Zk,Bu]
theorem Sc {x}(hw:De x):C0 x=Ce (ren x)++[46]:=by
 obtain⟨-,h2,h3⟩:=hw;unfold C0 Ce;cases ho:x.o with
 |true=>simp[ren,C8,ho]
 |false=>
  obtain⟨q1,q2,-,q3⟩:=h3 ho;rw[if_neg (by simp),if_neg (by simp[ren,ho]),U6 q1.2.1,wZ (fun a ha=>(q3 a ha).2.1),Vh (by simpa[C8]using q2)];unfold D6;simp[ren]
theorem cT {N l:List Tx}{a}(h:D3 a)(hw:∀w∈a.A,Ac w=true->0<=Bl l w/\Bl l w<26):D3 (C8 l a):=by
 obtain⟨h1,h2,h3,h4⟩:=h;refine⟨h1,by simpa[C8]using h2,by simpa[C8]using h3,fun t ht=>?_⟩;simp only[C8,AO]at ht;obtain⟨w,hm,rfl⟩:=ht;unfold Ev;split
 ·rename_i hv;obtain⟨q0,q1⟩:=hw w hm hv;exact⟨by simp,fun b hb=>by simp at hb;subst hb;exact .inl (Fb q0 q1)⟩
 ·exact h4 w hm
theorem Ss {N x}(hw:De x)(hi:WI N x):De (ren x):=by
 obtain⟨h1,h2,h3⟩:=hw;refine⟨h1,fun ho=>?_,fun ho=>?_⟩
 ·obtain⟨q1,q2,q3⟩:=h2 ho;exact⟨q1,by simp[ren,C8,q2],by simp[ren,q3]⟩
 ·obtain⟨q1,q2,q3,q4⟩:=h3 ho;refine⟨cT (N:=N) q1 (fun w hm=>(SH (hi.h ho).2 w hm).2),q2,by simpa[ren]using q3,fun a ha=>?_⟩;simp only[ren,AO]at ha;obtain⟨a',aa,rfl⟩:=ha;exact cT (N:=N) (q4 a' aa) (fun w hm=>(SH (hi.wa a' aa) w hm).2)
theorem eT {l}(hw:∀x∈l,De x):Cm l=Cr (l.map ren):=by
 unfold Cm Cr;induction l with
 |nil=>rfl
 |cons x l ih=>
  rw[DK,CU,DK,Sc (hw x (by simp)),ih fun y hy=>hw y (by simp[hy])]
theorem nJ {N l}(hw:∀x∈l,De x)(hi:∀x∈l,WI N x):Cb (Cm l)=l.map ren:=by
 have h2:∀y∈l.map ren,De y:=fun y hy=>by
  obtain⟨x,hx,rfl⟩:=AO.1 hy;exact Ss (hw x hx) (hi x hx)
 rw[eT hw];unfold Cb;rw[Tc _ h2,BS]
 conv=>rhs;rw[<-IY (l.map ren)]
 apply CK;intro y hy;exact (Nm (h2 y hy)).1
theorem qC (l w)(hD:DT w)(hv:Ac w=true->0<=Bl l w/\Bl l w<26)(σ):AF Tryz.prog 149 [ag (Ku l w)] σ fun r σ'=>r=str (Ev l w)/\AE σ σ':=by
 have ab:∀z:UInt8,({data:=#[z]}:ByteArray)=bs [z]:=fun _=>rfl;unfold Ku;cases hb:Ac w with
 |true=>
  obtain⟨h0,h1⟩:=hv hb;have hL:AD (Ev l w=[UInt8.ofNat (IntKind.u8.wrap (65+Bl l w)).toNat]):=by rw[AD,Ev,if_pos hb,P9 h0 h1]
  rw[if_pos rfl];generalize Bl l w=k at h0 h1 hL;clear hv;refine Z9 14 [.tmp 2] Tryz.func149 ?_
  refine p6 ?_
  exact⟨_,rfl,by rw[hL.o],Xs⟩
 |false=>
  obtain⟨d1,d2,d3⟩:Lib.itoa (Ap w).2=w/\0<=(Ap w).2/\(Ap w).2<=999:=by
   rcases hD with h|h
   ·rw[hb]at h;cases h
   ·exact h.2
  have hI:=fun σ=>dN (Ap w).2 d2 AA σ;rw[if_neg (by simp)];rw[d1]at hI;have hL:AD (Ev l w=w):=by rw[AD,Ev,if_neg (by rw[hb];simp)]
  generalize (Ap w).2=v at hI;clear hv hD;refine Z9 14 [.tmp 2] Tryz.func149 ?_
  repeat' first|refine Z1 ?_|refine Z8 fun yd yb=>?_|refine Z4 ?_;clear yb yd|refine Z2 ?_ ?_<;>intro h aa<;>try exact Xp|refine Z5 ?_;refine Xi (hI _) ?_;rintro _ _ ⟨rfl,rfl⟩|refine Z7 ?_|exact Zt|apply yb.o;clear yb yd
  exact⟨_,rfl,by rw[hL.o],Xs⟩
theorem qV {l ts k w}(h:ts[k]?=some w):∃r,(Ea l ts).drop (k*2)=sc (.bool (Ac w))::ic (if Ac w=true then Bl l w else (Ap w).2)::r:=by
 have hE:∀ts:List Tx,EL (fun w c=>c=Ku l w) ts (Ea l ts):=by
  intro ts;induction ts with
  |nil=>rfl
  |cons a l ih=>exact⟨Ku _ a,Ea _ l,rfl,ih,by simp[Ea]⟩
 obtain⟨c,r,rfl,e⟩:=EL.get (z:=2) (fun a c h=>by rw[h];rfl) (hE ts) h;exact⟨r,e⟩
def KC (l:List Tx)(k:Nat)(ts:List Tx):Tx:=if k=0 then [40]else Hk l 0 (ts.take k)
theorem VV {l ts k w}(h:ts[k]?=some w):KC l (k+1) ts=KC l k ts++((if k=0 then []else [44])++Ev l w):=by
 have hk:k<Z ts:=(BG.1 h).1;unfold KC;rw[if_neg AA,AU,h,BJ,N8,CV,EZ AA,EJ];by_cases h0:k=0
 ·subst h0;simp[Hk,Mp]
 ·rw[if_neg h0,if_neg h0];simp[Mp,h0]
theorem Y4 (N l idn ids a)(ha:a.B∈N)(hN:Z N<=2000)(hp:0<Z a.A)(hn:Z a.A<=1000)(hpl:Z a.B<=1000)(hw:WT l a)(σ):
  AF Tryz.prog 182 [ag [ic (N.idxOf a.B:Nat),sl ids (Z a.A) (Ea l a.A)],sl idn (Z N) (N.map str)] σ fun r σ'=>r=str (a.B++Hk l 0 a.A++[41])/\AE σ σ':=by
 have av:=qU l a.A;have az:({data:=#[40]}:ByteArray)=bs [40]:=rfl;have ax:({data:=#[44]}:ByteArray)=bs [44]:=rfl;have ay:({data:=#[41]}:ByteArray)=bs [41]:=rfl;have ai:=CY ha;have ap:(N.map str).drop (N.idxOf a.B)=str a.B::(N.map str).drop (N.idxOf a.B+1):=by
  have:=A7 ai;rwa[FT ai]at this
 generalize N.idxOf a.B=ix at ai ap;refine Z9 33 [.tmp 4] Tryz.func182 ?_
 refine zx ?_
 refine Ae (fun m s σ'=>∃(k:Nat) (acc:Tx),m=Z a.A-k/\k<=Z a.A/\s 5=str acc/\s 15=sl ids (Z a.A) (Ea l a.A)/\s 16=ic (Z a.A)/\s 17=ic k/\AE σ σ'/\Z acc<=1001+k*1001/\AD (acc=a.B++KC l k a.A)) (Z a.A)
  ⟨0,a.B++[40],AA,AA,AG,AG,AG,rfl,Xs,by simp;omega,by simp[AD,KC]⟩ ?_
 rintro m s σ' ⟨k,acc,rfl,hk,h5,a4,a3,a0,hK,aw,hA⟩;have au:=hK.B;by_cases aj:k<Z a.A
 ·have ab:=AJ aj;obtain⟨w1,w2,w3⟩:=hw a.A[k] (AT aj);obtain⟨r,hd⟩:=qV (l:=l) ab;have aa:AD (a.B++KC l (k+1) a.A=acc++((if k=0 then []else [44])++Ev l a.A[k])):=by
   rw[AD,VV ab,hA.o,CX]
  have am:=Ut l a.A[k] w2;have hT:=fun σ=>qC l a.A[k] w1 w3 σ;unfold Ku at hT;generalize Ev l a.A[k]=tw at aa hT am;generalize (if Ac a.A[k]=true then Bl l a.A[k]else (Ap a.A[k]).2)=vw at hT hd;generalize Ac a.A[k]=bw at hT hd;clear ab w1 w2 w3;by_cases ad:k=0
  ·have ao:decide ((0:Int)<(k:Int))=false:=by simp[ad]
   have aa:AD (a.B++KC l (k+1) a.A=acc++tw):=by rw[AD,aa.o,if_pos ad];simp
   clear ad
   repeat' first|refine Z1 ?_|refine Z8 fun yd yb=>?_|refine Z4 ?_;clear yb yd|refine Z2 ?_ ?_<;>intro h ae<;>try exact Xp|refine Z5 ?_;refine Xi (hT _) ?_;rintro _ _ ⟨rfl,ac⟩;(have af:=ac.C;have ah:=ac.B)|refine Z7 ?_|exact Zt|apply yb.o;clear yb yd
   exact⟨Z a.A-(k+1),AA,k+1,acc++tw,rfl,AA,rfl,by simp,((hK.new _).put hK.B _).trans ac,by simp only[AX];omega,by rw[AD,aa.o]⟩
  ·have ao:decide ((0:Int)<(k:Int))=true:=by simp;omega
   have aa:AD (a.B++KC l (k+1) a.A=acc++([44]++tw)):=by rw[AD,aa.o,if_neg ad]
   clear ad
   repeat' first|refine Z1 ?_|refine Z8 fun yd yb=>?_|refine Z4 ?_;clear yb yd|refine Z2 ?_ ?_<;>intro h ae<;>try exact Xp|refine Z5 ?_;refine Xi (hT _) ?_;rintro _ _ ⟨rfl,ac⟩;(have af:=ac.C;have ah:=ac.B)|refine Z7 ?_|exact Zt|apply yb.o;clear yb yd
   exact⟨Z a.A-(k+1),AA,k+1,acc++([44]++tw),rfl,AA,by rw[CX],by simp,((hK.new _).put hK.B _).trans ac,by simp only[AX,LO];omega,by rw[AD,aa.o]⟩
 ·have an:k=Z a.A:=AA;subst an;have ak:acc=a.B++Hk l 0 a.A:=by rw[hA.o,KC,if_neg AA,AS]
  have HA:AD _:=ak;clear hA ak
  refine p6 ?_
  first
  |exact⟨_,rfl,by rw[HA.o],hK⟩
  |exact⟨_,rfl,by rw[HA.o]⟩
def JI (l:List Tx)(a:AC):Tx:=a.B++Hk l 0 a.A++[41]
theorem vS {N l a}(h:WA N l a):Z (JI l a)<=1003000:=by
 obtain⟨h1,h2,h3,h4,h5⟩:=h;have:=Mo l a.A 0 fun t ht=>(h5 t ht).2.1;simp only[JI,AX,LO];omega
def OV (a:AC):Tx:=if a.nt=true then [33]else []
theorem U7 (l a):Da l a=OV a++JI l a:=by simp[Da,OV,JI]
theorem rW (N l idn x c)(hc:RI N l x c)(hN:Z N<=2000)(hm:x.h.B∈N)(hpl:Z x.h.B<=1000)(a8:Z x.A<=5)(hh:x.o=false->x.h.nt=false/\WA N l x.h)(hb:∀a∈x.A,WA N l a)(σ):
  AF Tryz.prog 129 [ag c,sl idn (Z N) (N.map str)] σ fun r σ'=>r=str (if x.o=true then 63::x.h.B++[46]else Da l x.h++Hp l 0 x.A++[46])/\AE σ σ':=by
 obtain⟨ih,id,b,a0,rfl⟩:=hc;have a7:=EL.length UE a0;have ba:({data:=#[63]}:ByteArray)=bs [63]:=rfl;have bc:({data:=#[46]}:ByteArray)=bs [46]:=rfl;have bd:({data:=#[44]}:ByteArray)=bs [44]:=rfl;have be:({data:=#[33]}:ByteArray)=bs [33]:=rfl;have bb:({data:=#[58,45]}:ByteArray)=bs [58,45]:=rfl;cases ho:x.o with
 |true=>
  have ax:=CY hm;have a5:(N.map str).drop (N.idxOf x.h.B)=str x.h.B::(N.map str).drop (N.idxOf x.h.B+1):=by
   have:=A7 ax;rwa[FT ax]at this
  generalize N.idxOf x.h.B=ix at ax a5;clear hh hb;refine Z9 49 [.tmp 4] Tryz.func129 ?_
  refine p6 ?_
  exact⟨_,rfl,by simp,Xs⟩
 |false=>
  obtain⟨hnt,ai⟩:=hh ho;have a4:=vS ai;have au:=fun σ=>Y4 N l idn ih x.h ai.1 hN ai.2.1 ai.2.2.1 ai.2.2.2.1 ai.2.2.2.2 σ;have ao:AD (Da l x.h=JI l x.h):=by rw[AD,U7,OV,hnt];simp
  have au:∀σ,AF Tryz.prog 182 [ag [ic (N.idxOf x.h.B:Nat),sl ih (Z x.h.A) (Ea l x.h.A)],sl idn (Z N) (N.map str)] σ fun r σ'=>r=str (JI l x.h)/\AE σ σ':=au;generalize JI l x.h=ae at a4 au ao;clear hh ai hm hnt;rw[if_neg (by simp),ao.o];refine Z9 49 [.tmp 4] Tryz.func129 ?_
  repeat' first|refine Z1 ?_|refine Z8 fun yd yb=>?_|refine Z4 ?_;clear yb yd|refine Z2 ?_ ?_<;>intro h ac<;>try exact Xp|refine Z5 ?_;refine Xi (au _) ?_;rintro _ _ ⟨rfl,ay⟩;(have av:=ay.C;have an:=ay.B;simp only[Aa]at an)|refine Z7 ?_|exact Zt|apply yb.o;clear yb yd
  rename_i σ1
  refine Ae (fun m s σ'=>∃(j:Nat) (acc:Tx),m=Z x.A-j/\j<=Z x.A/\s 1=sl idn (Z N) (N.map str)/\s 5=str acc/\s 23=sl id (Z x.A) b/\s 24=ic (Z x.A)/\s 25=ic j/\AE σ σ'/\Z acc<=1003000+j*1003010/\AD (acc=ae++Hp l 0 (x.A.take j))) (Z x.A)
   ⟨0,ae,AA,AA,by simp[upd,AM],AG,AG,AG,rfl,Xs,AA,by simp[AD,Hp]⟩ ?_
  clear ay av an;rintro m s σ' ⟨j,acc,rfl,hj,h1,h5,bh,bg,bf,hK,a9,hA⟩;have a6:=hK.B;by_cases az:j<Z x.A
  ·have ak:=AJ az;have aj:=hb x.A[j] (AT az);obtain⟨ia,r,hd⟩:=jt a0 ak;have aa:AD (ae++Hp l 0 (x.A.take (j+1))=acc++(Zk j++(OV x.A[j]++JI l x.A[j]))):=by
    rw[AD,AU,ak,BJ,Sd,U7,hA.o,CV,EZ AA,EJ,CX]
   have ao:=vS aj;have am:∀σ,AF Tryz.prog 182 [ag [ic (N.idxOf x.A[j].B:Nat),sl ia (Z x.A[j].A) (Ea l x.A[j].A)],sl idn (Z N) (N.map str)] σ fun r σ'=>r=str (JI l x.A[j])/\AE σ σ':=fun σ=>Y4 N l idn ia x.A[j] aj.1 hN aj.2.1 aj.2.2.1 aj.2.2.2.1 aj.2.2.2.2 σ;have ap:AD (OV x.A[j]=if x.A[j].nt=true then [33]else []):=rfl;clear ak aj;generalize x.A[j]=a at hd aa ao am ap;generalize JI l a=wa at aa ao am;cases hnt:a.nt with
   |true=>
    rw[hnt]at hd;have aa:AD (ae++Hp l 0 (x.A.take (j+1))=acc++(Zk j++([33]++wa))):=by rw[AD,aa.o,ap.o,if_pos hnt]
    clear ap;by_cases ad:j=0
    ·have aw:((j:Int)==0)=true:=by simp[ad]
     have aa:AD (ae++Hp l 0 (x.A.take (j+1))=acc++([58,45]++([33]++wa))):=by rw[AD,aa.o,Zk,if_pos ad]
     clear ad
     repeat' first|refine Z1 ?_|refine Z8 fun yd yb=>?_|refine Z4 ?_;clear yb yd|refine Z2 ?_ ?_<;>intro h ac<;>try exact Xp|refine Z5 ?_;refine Xi (am _) ?_;rintro _ _ ⟨rfl,ab⟩;(have af:=ab.C;have ah:=ab.B)|refine Z7 ?_|exact Zt|apply yb.o;clear yb yd
     exact⟨Z x.A-(j+1),AA,j+1,acc++([58,45]++([33]++wa)),rfl,AA,by simp,by simp,((hK.new _).put hK.B _).trans ab,by simp;omega,by rw[AD,aa.o]⟩
    ·have aw:((j:Int)==0)=false:=by simp;omega
     have aa:AD (ae++Hp l 0 (x.A.take (j+1))=acc++([44]++([33]++wa))):=by rw[AD,aa.o,Zk,if_neg ad]
     clear ad
     repeat' first|refine Z1 ?_|refine Z8 fun yd yb=>?_|refine Z4 ?_;clear yb yd|refine Z2 ?_ ?_<;>intro h ac<;>try exact Xp|refine Z5 ?_;refine Xi (am _) ?_;rintro _ _ ⟨rfl,ab⟩;(have af:=ab.C;have ah:=ab.B)|refine Z7 ?_|exact Zt|apply yb.o;clear yb yd
     exact⟨Z x.A-(j+1),AA,j+1,acc++([44]++([33]++wa)),rfl,AA,by simp,by simp,((hK.new _).put hK.B _).trans ab,by simp;omega,by rw[AD,aa.o]⟩
   |false=>
    rw[hnt]at hd;have aa:AD (ae++Hp l 0 (x.A.take (j+1))=acc++(Zk j++([]++wa))):=by rw[AD,aa.o,ap.o,if_neg (by rw[hnt];simp)]
    clear ap;by_cases ad:j=0
    ·have aw:((j:Int)==0)=true:=by simp[ad]
     have aa:AD (ae++Hp l 0 (x.A.take (j+1))=acc++([58,45]++([]++wa))):=by rw[AD,aa.o,Zk,if_pos ad]
     clear ad
     repeat' first|refine Z1 ?_|refine Z8 fun yd yb=>?_|refine Z4 ?_;clear yb yd|refine Z2 ?_ ?_<;>intro h ac<;>try exact Xp|refine Z5 ?_;refine Xi (am _) ?_;rintro _ _ ⟨rfl,ab⟩;(have af:=ab.C;have ah:=ab.B)|refine Z7 ?_|exact Zt|apply yb.o;clear yb yd
     exact⟨Z x.A-(j+1),AA,j+1,acc++([58,45]++([]++wa)),rfl,AA,by simp,by simp,((hK.new _).put hK.B _).trans ab,by simp;omega,by rw[AD,aa.o]⟩
    ·have aw:((j:Int)==0)=false:=by simp;omega
     have aa:AD (ae++Hp l 0 (x.A.take (j+1))=acc++([44]++([]++wa))):=by rw[AD,aa.o,Zk,if_neg ad]
     clear ad
     repeat' first|refine Z1 ?_|refine Z8 fun yd yb=>?_|refine Z4 ?_;clear yb yd|refine Z2 ?_ ?_<;>intro h ac<;>try exact Xp|refine Z5 ?_;refine Xi (am _) ?_;rintro _ _ ⟨rfl,ab⟩;(have af:=ab.C;have ah:=ab.B)|refine Z7 ?_|exact Zt|apply yb.o;clear yb yd
     exact⟨Z x.A-(j+1),AA,j+1,acc++([44]++([]++wa)),rfl,AA,by simp,by simp,((hK.new _).put hK.B _).trans ab,by simp;omega,by rw[AD,aa.o]⟩
  ·have a3:j=Z x.A:=AA;subst a3;rw[AS]at hA
   refine p6 ?_
   first
   |exact⟨_,rfl,by rw[hA.o],hK⟩
   |exact⟨_,rfl,by rw[hA.o]⟩
theorem Kh (N l cs idn idi)(hB:Bk N l cs)(x c)(hx:PI N x c)(hw:WI N x)(σ):AF Tryz.prog 74 [Cl N idn l idi cs,ag c] σ fun r σ'=>r=str (C0 x)/\AE σ σ':=by
 have hN:=hB.nm;have ae:=Ld hw.fits hw.short;obtain⟨hm,ih,id,b,hb,rfl⟩:=hx;have hO:=fun σ=>gI N x _ (PI.of (ih:=ih) (id:=id) hm hb) hw.o hw.fits hw.va hw.vh hw.vb σ;have hT:=fun c hc σ=>rW N (Ba x) idn x c hc hN hw.mem hw.short.1.1 hw.A hw.h hw.wa σ;have hT:∀c,RI N (Ba x) x c->∀σ,AF Tryz.prog 129 [ag c,sl idn (Z N) (N.map str)] σ fun r σ'=>r=str (C0 x)/\AE σ σ':=hT;generalize af:C0 x=wx at hT ae⊢;clear af hw;refine Z9 12 [.tmp 4] Tryz.func74 ?_
 repeat' first|refine Z1 ?_|refine Z8 fun yd yb=>?_|refine Z4 ?_;clear yb yd|refine Z2 ?_ ?_<;>intro h ai<;>try exact Xp|(refine Z5 ?_;first|(refine Xi (hO _) ?_;rintro _ _ ⟨c2,rfl,aj,an,ac⟩;(have ad:=ac.C;have aa:=ac.B;(try simp only[Aa,Ab,Av]at aa);obtain⟨ih2,id2,b2,ah,rfl⟩:=aj))|(refine Xi (hT _ ⟨_,_,_,ah,rfl⟩ _) ?_;rintro _ _ ⟨rfl,am⟩))|refine Z7 ?_|exact Zt|apply yb.o;clear yb yd
 rename_i σ2 σ3;have ak:=(((AE.refl σ).new _).new _).trans ac;have ab:=((ak.new _).put AA _).trans am
 first
  |exact⟨_,rfl,rfl,ab⟩
  |exact⟨rfl,ab⟩
  |exact ab
theorem sY (N l cs idn idi)(hB:Bk N l cs)(hW:∀x∈l,WI N x)(σ):AF Tryz.prog 40 [Cl N idn l idi cs] σ fun r σ'=>r=str (Cm l)/\AE σ σ':=by
 have au:=EL.length E7 hB.el;have ak:=hB.len;have hN:=hB.nm;have hE:=hB.el;refine Z9 20 [.tmp 2] Tryz.func40 ?_
 refine p6 ?_
 refine Ae (fun m s σ'=>∃(i:Nat) (acc:Tx),m=Z l-i/\i<=Z l/\s 1=ptr σ.B 0/\s 3=str acc/\s 7=sl idi (Z l) cs/\s 8=ic (Z l)/\s 9=ic i/\AE σ σ'/\σ.B<σ'.B/\σ'.C σ.B=[sl idn (Z N) (N.map str),sl idi (Z l) cs]/\Z acc<=i*1100000000/\AD (acc=Cm (l.take i))) (Z l)
  ⟨0,[],AA,AA,AG,AG,AG,AG,rfl,Xs,AK,Ao,by simp,by simp[AD,Cm]⟩ ?_
 rintro m s σ' ⟨i,acc,rfl,hi,h1,h3,h7,h8,h9,hK,ap,aj,av,hA⟩;have ao:=hK.B;by_cases af:i<Z l
 ·have aa:=AJ af;have hw:=hW l[i] (AT af);obtain⟨hm,ih,id,b,r,hb,hd⟩:=Io hE aa;generalize l[i]=x at hd aa hw hm hb;have HG:AD (l[i]?=some x):=aa;clear aa;have ai:=Ld hw.fits hw.short;have hT:=fun σ=>Kh N l cs idn idi hB x _ (PI.of (ih:=ih) (id:=id) hm hb) hw σ;generalize ae:C0 x=wx at hT ai;have an:AD _:=ae;clear ae hw
  repeat' first|refine Z1 ?_|refine Z8 fun yd yb=>?_|refine Z4 ?_;clear yb yd|refine Z2 ?_ ?_<;>intro h ab<;>try exact Xp|refine Z5 ?_;refine Xi (hT _) ?_;rintro _ _ ⟨rfl,ac⟩;(have ah:=ac.C;have ad:=ac.B;(try simp only[Aa,Ab,Av]at ad))|refine Z7 ?_|exact Zt|apply yb.o;clear yb yd
  rename_i σ3;have am:=((hK.new _).put hK.B _).trans ac;have HA:AD (acc++wx=Cm (l.take (i+1))):=by
   rw[AD,AU,HG.o,hA.o];simp[Cm,an.o]
  have HL:List.length (acc++wx)<=(i+1)*1100000000:=by simp only[AX];omega
  refine⟨Z l-(i+1),AA,i+1,acc++wx,?_⟩
  ((repeat' refine Zi ?_ ?_)<;>first|exact Xq|exact am|exact HA|exact HL|exact (by rw[ac.C _ BM,Aj AA,Ah AA,aj])|exact Xs)
 ·have hil:i=Z l:=AA;subst hil;rw[AS]at hA
  refine p6 ?_
  first
  |exact⟨_,rfl,by rw[hA.o],hK⟩
  |exact⟨_,rfl,by rw[hA.o]⟩
def Ip (p:Tx)(x:AB):Bool:=!x.o&&x.h.B==p
def D9 (l:List AB)(p:Tx):Bool:=l.any (Ip p)
theorem Wv (l cs idl p)(hE:EL AN l cs)(hl:Z l<=16)(σ):AF Tryz.prog 115 [sl idl (Z l) cs,str p] σ fun r σ'=>r=sc (.bool (D9 l p))/\σ'=σ:=by
 have ae:=EL.length Cj hE;refine Z9 28 [.tmp 4] Tryz.func115 ?_
 repeat' first|refine Z1 ?_|refine Z8 fun yd yb=>?_|refine Z4 ?_;clear yb yd|refine Z2 ?_ ?_<;>intro h ab<;>try exact Xp|refine Z3 ?_|exact Zt|apply yb.o;clear yb yd
 refine Ae (fun m s σ'=>∃i:Nat,m=Z l-i/\i<=Z l/\s 0=sl idl (Z l) cs/\s 1=str p/\s 5=ic i/\σ'=σ/\AD ((l.take i).any (Ip p)=false)) (Z l)
  ⟨0,AA,AA,rfl,rfl,rfl,rfl,by simp[AD]⟩ ?_
 rintro m s σ' ⟨i,rfl,hi,h0,h1,h5,hσ,ac⟩;subst hσ;by_cases ad:i<Z l
 ·have aa:=AJ ad;obtain⟨ih,id,b,r,hb,hd⟩:=Ds hE aa;generalize l[i]=x at hd aa hb;have HG:AD (l[i]?=some x):=aa;clear aa
  repeat' first|refine Z1 ?_|refine Z8 fun yd yb=>?_|refine Z4 ?_;clear yb yd|refine Z2 ?_ ?_<;>intro h ab<;>try exact Xp|refine Z3 ?_|exact Zt|apply yb.o;clear yb yd
  ·exact⟨_,rfl,by rw[D9,Ek _ HG.o (by simp only[Ip];simp[*])]⟩
  all_goals
   refine⟨Z l-(i+1),AA,i+1,rfl,AA,by simp,?_⟩;rw[AD,any_take_succ _ HG.o,ac.o];simp only[Ip];simp[*]
 ·have hil:i=Z l:=AA;subst hil;rw[AS]at ac
  refine pz ?_
  exact⟨_,rfl,by rw[D9,ac.o]⟩
def S6 (f:Nat->Bool)(l:List AB)(p:Tx)(i:Nat):Bool:=match l[i]? with|some x=>Ip p x&&f i|none=>false
def D1 (f:Nat->Bool)(l:List AB)(p:Tx):Bool:=(List.range (Z l)).any (S6 f l p)
theorem Ye (l cs idl f p)(hE:EL AN l cs)(hl:Z l<=16)(σ):AF Tryz.prog 172 [sl idl (Z l) cs,ag (Cv 16 f),str p] σ fun r σ'=>r=sc (.bool (D1 f l p))/\AE σ σ':=by
 have af:=EL.length Cj hE;have ae:=Cx 16 f;refine Z9 35 [.tmp 6] Tryz.func172 ?_
 refine zz ?_
 refine Ae (fun m s σ'=>∃i:Nat,m=Z l-i/\i<=Z l/\s 0=sl idl (Z l) cs/\s 2=str p/\s 4=ptr σ.B 0/\s 7=ic i/\σ'=σ.new (Cv 16 f)/\AD (∀j,j<i->S6 f l p j=false)) (Z l)
  ⟨0,AA,AA,rfl,rfl,rfl,rfl,rfl,fun j hj=>AA⟩ ?_
 rintro m s σ' ⟨i,rfl,hi,h0,h2,h4,h7,rfl,ac⟩;by_cases ad:i<Z l
 ·have aa:=AJ ad;obtain⟨ih,id,b,r,hb,hd⟩:=Ds hE aa;generalize l[i]=x at hd aa hb;have hv:AD (S6 f l p i=(Ip p x&&f i)):=by rw[AD,S6,aa]
  clear aa;have ah:=Fy f (show i<16 by omega)
  repeat' first|refine Z1 ?_|refine Z8 fun yd yb=>?_|refine Z4 ?_;clear yb yd|refine Z2 ?_ ?_<;>intro h ab<;>try exact Xp|refine Z3 ?_|exact Zt|apply yb.o;clear yb yd
  ·refine⟨_,rfl,?_,Xs⟩;have:D1 f l p=true:=by
    rw[D1,CW];exact⟨i,by simpa using ad,by rw[hv.o];simp only[Ip];simp[*]⟩
   rw[this]
  all_goals
   refine⟨Z l-(i+1),AA,i+1,rfl,AA,by simp,Lr ac.o ?_⟩;rw[hv.o];simp only[Ip];simp[*]
 ·have hil:i=Z l:=AA;subst hil
  refine pz ?_
  refine⟨_,rfl,?_,Xs⟩;have:D1 f l p=false:=by
   rw[D1,EB];intro j hj;have:=ac.o j (by simpa using hj);simp[this]
  rw[this]
def JO (l:List AB)(p q:Tx):Prop:=p=q\/Way (H2 l) p q
theorem JO.trans {l p q r}(h:JO l p q)(k:JO l q r):JO l p r:=by
 rcases h with rfl|h
 ·exact k
 ·rcases k with rfl|k
  ·exact .inr h
  ·exact .inr (h.join k)
def HH (l:List AB):Nat->Tx->Prop
 |0,_=>True
 |k+1,p=>∃x∈l,JO l p x.h.B/\∃a∈x.A,a.nt=true/\HH l k a.B
theorem ZR {l k p q}(h:JO l p q)(hq:HH l k q):HH l k p:=by
 cases k with
 |zero=>trivial
 |succ k=>
  obtain⟨x,hx,hr,hb⟩:=hq;exact⟨x,hx,h.trans hr,hb⟩
theorem RV {l}:∀(k:Nat) (p:Tx),HH l (k+1) p->HH l k p
 |0,p,_=>trivial
 |k+1,p,⟨x,hx,hr,a,ha,hn,hh⟩=>⟨x,hx,hr,a,ha,hn,RV k a.B hh⟩
theorem SV {l p m}:∀(d:Nat),HH l (m+d) p->HH l m p
 |0,h=>h
 |d+1,h=>SV d (RV _ _ h)
theorem W5 {α:Type}[BEq α][LawfulBEq α]:∀(a b:List α),a.Nodup->(∀x∈a,x∈b)->Z a<=Z b
 |[],b,_,_=>Nat.zero_le _
 |x::a,b,hn,hs=>by
  have hx:=hs x (by simp);have aa:=List.nodup_cons.1 hn;have h1:=W5 a (b.erase x) aa.2 fun y hy=>(Ng (fun e=>aa.1 (by rw[<-e];exact hy))).2 (hs y (by simp[hy]));rw[List.length_erase_of_mem hx]at h1;have h2:0<Z b:=List.length_pos_of_mem hx;simp only[BQ];omega
def pF (l:List AB):Prop:=∀x∈l,∀a∈x.A,a.nt=true->¬JO l a.B x.h.B
theorem pG {l}(hL:pF l):∀(k:Nat) (p:Tx),HH l k p->∃qs:List Tx,Z qs=k/\qs.Nodup/\∀q∈qs,q∈l.map (·.h.B)/\JO l p q
 |0,p,_=>⟨[],rfl,IS,fun q h=>by cases h⟩
 |k+1,p,⟨x,hx,hr,a,ha,hn,hh⟩=>by
  obtain⟨qs,h1,h2,h3⟩:=pG hL k a.B hh;refine⟨x.h.B::qs,by simp[h1],List.nodup_cons.2 ⟨fun hm=>hL x hx a ha hn (h3 _ hm).2,h2⟩,fun q hq=>?_⟩;rcases BB.1 hq with rfl|hq
  ·exact⟨AO.2 ⟨x,hx,rfl⟩,hr⟩
  ·exact⟨(h3 q hq).1,hr.trans (JO.trans (.inr (.one ⟨x,hx,rfl,a,ha,rfl⟩)) (h3 q hq).2)⟩
theorem pH {l}(hL:pF l){k p}(h:HH l k p):k<=Z l:=by
 obtain⟨qs,h1,h2,h3⟩:=pG hL k p h;have:=W5 qs (l.map (·.h.B)) h2 fun q hq=>(h3 q hq).1;rw[BP]at this;omega
def zF (l:List AB)(f:Nat->Bool)(counts:Bool)(x:AB):Bool:=x.A.any fun a=>a.nt&&(counts&&!D9 l a.B||D1 f l a.B)
def sD (l:List AB)(f:Nat->Bool)(counts:Bool)(j:Nat):Bool:=match l[j]? with|some x=>zF l f counts x|none=>false
def Ro (l:List AB)(f:Nat->Bool)(counts:Bool)(i:Nat):Bool:=(List.range (Z l)).any fun j=>sD l f counts j&&(i==j||I0 l i j)
def Z0 (l:List AB):Nat->Nat->Bool
 |0=>fun i=>decide (i<Z l)
 |k+1=>Ro l (Z0 l k) (k==0)
theorem IK {l p}:D9 l p=true↔∃x∈l,x.o=false/\x.h.B=p:=by
 unfold D9 Ip;rw[CW];simp
theorem ET {l f p}:D1 f l p=true↔∃i x,l[i]?=some x/\x.o=false/\x.h.B=p/\f i=true:=by
 unfold D1;rw[CW];constructor
 ·rintro⟨i,hi,h⟩;unfold S6 at h;split at h
  ·rename_i x hx;simp[Ip]at h;exact⟨i,x,hx,h.1.1,h.1.2,h.2⟩
  ·cases h
 ·rintro⟨i,x,hx,h1,h2,h3⟩;refine⟨i,by simpa using (BG.1 hx).1,?_⟩;unfold S6;rw[hx];simp[Ip,h1,h2,h3]
theorem FB {l f counts x}:zF l f counts x=true↔∃a∈x.A,a.nt=true/\((counts=true/\D9 l a.B=false)\/D1 f l a.B=true):=by
 unfold zF;rw[CW];simp
theorem CC {l f counts i}:Ro l f counts i=true↔∃j y,l[j]?=some y/\zF l f counts y=true/\(i=j\/Way (fun a b=>Mm l a b=true) i j):=by
 unfold Ro;rw[CW];constructor
 ·rintro⟨j,hj,h⟩;simp only[BX,MN,EH]at h;obtain⟨h1,h2⟩:=h;unfold sD at h1;split at h1
  ·rename_i y hy;exact⟨j,y,hy,h1,by rw[<-Ms];exact h2⟩
  ·cases h1
 ·rintro⟨j,y,hy,h1,h2⟩;refine⟨j,by simpa using (BG.1 hy).1,?_⟩;simp only[BX,MN,EH];refine⟨?_,by rw[Ms];exact h2⟩;unfold sD;rw[hy];exact h1
theorem H1 {l:List AB}(ho:∀x∈l,x.o=true->x.A=[]){x}(hx:x∈l){a}(ha:a∈x.A):x.o=false:=by
 cases h:x.o with
 |false=>rfl
 |true=>rw[ho x hx h]at ha;cases ha
theorem zE {l p}(h:D9 l p=true):D1 (Z0 l 0) l p=true:=by
 obtain⟨x,hx,h1,h2⟩:=IK.1 h;obtain⟨i,hi⟩:=CO hx;exact ET.2 ⟨i,x,hi,h1,h2,by simpa[Z0]using (BG.1 hi).1⟩
theorem Yf {l}(ho:∀x∈l,x.o=true->x.A=[]):∀(k:Nat) (p:Tx),D1 (Z0 l (k+1)) l p=true↔HH l (k+1) p:=by
 intro k;induction k with
 |zero=>
  intro p;rw[ET];constructor
  ·rintro⟨i,x,hx,h1,rfl,h3⟩;obtain⟨j,y,hy,hh,hw⟩:=CC.1 h3;obtain⟨a,ha,hn,-⟩:=FB.1 hh;refine⟨y,BD hy,?_,a,ha,hn,trivial⟩;rcases hw with rfl|hw
   ·rw[hx]at hy;cases hy;exact .inl rfl
   ·obtain⟨x',y',aa,ac,-,hw⟩:=N9 hw;rw[hx]at aa;cases aa;rw[hy]at ac;cases ac;exact .inr hw
  ·rintro⟨y,hy,hr,a,ha,hn,-⟩;obtain⟨j,hj⟩:=CO hy;have ab:=H1 ho hy ha
   have hh:zF l (Z0 l 0) (0==0) y=true:=FB.2 ⟨a,ha,hn,by
    cases af:D9 l a.B with
    |false=>exact .inl ⟨rfl,rfl⟩
    |true=>exact .inr (zE af)⟩
   rcases hr with rfl|hw
   ·exact⟨j,y,hj,ab,rfl,CC.2 ⟨j,y,hj,hh,.inl rfl⟩⟩
   ·obtain⟨i,x,hi,ae,ad⟩:=Se ho hw j y hj ab rfl;refine⟨i,x,hi,?_,ae,CC.2 ⟨j,y,hj,hh,.inr ad⟩⟩;cases ad with
    |one e=>obtain⟨x',_,aa,_,_,b,hb,_⟩:=BR.1 e;rw[hi]at aa;cases aa;exact H1 ho (BD hi) hb
    |more e _=>obtain⟨x',_,aa,_,_,b,hb,_⟩:=BR.1 e;rw[hi]at aa;cases aa;exact H1 ho (BD hi) hb
 |succ k ih=>
  intro p;rw[ET];constructor
  ·rintro⟨i,x,hx,h1,rfl,h3⟩;obtain⟨j,y,hy,hh,hw⟩:=CC.1 h3;obtain⟨a,ha,hn,hc⟩:=FB.1 hh;have ah:HH l (k+1) a.B:=by
    rcases hc with⟨hc,-⟩|hc
    ·simp at hc
    ·exact (ih a.B).1 hc
   refine⟨y,BD hy,?_,a,ha,hn,ah⟩;rcases hw with rfl|hw
   ·rw[hx]at hy;cases hy;exact .inl rfl
   ·obtain⟨x',y',aa,ac,-,hw⟩:=N9 hw;rw[hx]at aa;cases aa;rw[hy]at ac;cases ac;exact .inr hw
  ·rintro⟨y,hy,hr,a,ha,hn,hk⟩;obtain⟨j,hj⟩:=CO hy;have ab:=H1 ho hy ha;have hh:zF l (Z0 l (k+1)) (k+1==0) y=true:=FB.2 ⟨a,ha,hn,.inr ((ih a.B).2 hk)⟩;rcases hr with rfl|hw
   ·exact⟨j,y,hj,ab,rfl,CC.2 ⟨j,y,hj,hh,.inl rfl⟩⟩
   ·obtain⟨i,x,hi,ae,ad⟩:=Se ho hw j y hj ab rfl;refine⟨i,x,hi,?_,ae,CC.2 ⟨j,y,hj,hh,.inr ad⟩⟩;cases ad with
    |one e=>obtain⟨x',_,aa,_,_,b,hb,_⟩:=BR.1 e;rw[hi]at aa;cases aa;exact H1 ho (BD hi) hb
    |more e _=>obtain⟨x',_,aa,_,_,b,hb,_⟩:=BR.1 e;rw[hi]at aa;cases aa;exact H1 ho (BD hi) hb
def Bp (l:List AB)(p:Tx):Nat:=match (List.range 16).find? (fun k=>!D1 (Z0 l (k+1)) l p)with|some k=>k|none=>16
theorem Ia {l}(ho:∀x∈l,x.o=true->x.A=[])(hL:pF l)(hl:Z l<=16)(p k):HH l k p↔k<=Bp l p:=by
 unfold Bp;split
 ·rename_i d hd;rw[List.find?_range_eq_some]at hd;obtain⟨h1,h2,h3⟩:=hd;have h4:¬HH l (d+1) p:=by rw[<-Yf ho];simpa using h1
  constructor
  ·intro h;rcases FQ d k with ab|aa
   ·exact absurd (SV (m:=d+1) (k-(d+1)) (by rw[show d+1+(k-(d+1))=k by omega];exact h)) h4
   ·exact aa
  ·intro h;cases k with
   |zero=>trivial
   |succ k=>
    have:=h3 k AA;rw[<-Yf ho];simpa using this
 ·rename_i hd;constructor
  ·intro h;have:=pH hL h;omega
  ·intro h;cases k with
   |zero=>trivial
   |succ k=>
    rw[IX]at hd;have:=hd k (by simp;omega);rw[<-Yf ho];simpa using this
section rounds
variable {N:List Tx} {l:List AB} (D:Tx->Nat)
end rounds
theorem lm {l}(ho:∀x∈l,x.o=true->x.A=[])(h:∀i,i<Z l->Gc l i=false):pF l:=by
 intro x hx a ha hn hr;obtain⟨i,hi⟩:=CO hx;have hk:=h i (BG.1 hi).1;unfold Gc at hk;rw[hi]at hk;have:=EB.1 hk a ha;apply this;unfold tF;rw[hn];simp only[ID,MN,EH];rcases hr with hr|hr
 ·exact .inl hr
 ·exact .inr ((Oa ho ⟨x,hx,H1 ho hx ha,rfl⟩).2 hr)
def zG (l:List AB)(f:Nat->Bool)(counts:Bool)(a:AC):Bool:=a.nt&&(counts&&!D9 l a.B||D1 f l a.B)
def NX (l:List AB)(f:Nat->Bool)(counts:Bool)(i j:Nat):Bool:=sD l f counts j&&(i==j||I0 l i j)
def pK (l:List AB)(f:Nat->Bool)(counts:Bool)(j:Nat)(i:Nat):Bool:=(List.range j).any (NX l f counts i)
theorem XN (l f counts j i):pK l f counts (j+1) i=(pK l f counts j i||NX l f counts i j):=by
 unfold pK;rw[List.range_succ,LM];simp
theorem lv (l f counts):pK l f counts (Z l)=Ro l f counts:=rfl
theorem wJ {l f counts j i}(hj:j<=Z l)(hi:Z l<=i):pK l f counts j i=false:=by
 unfold pK;rw[EB];intro k hk;rw[KV]at hk;unfold NX;have h1:(i==k)=false:=by simp;omega
 have h2:I0 l i k=false:=by
  cases h:I0 l i k with
  |false=>rfl
  |true=>
   obtain⟨x,y,hx,-⟩:=N9 ((Ms l i k).1 h);have:=(BG.1 hx).1;omega
 rw[h1,h2];simp
def nP (l:List AB)(f:Nat->Bool)(counts:Bool)(j i:Nat):Nat->Bool:=fun a=>if a<i then pK l f counts (j+1) a else pK l f counts j a
theorem m9 (l f counts j):nP l f counts j 0=pK l f counts j:=by funext a;simp[nP]
theorem ov {l f counts j}(hj:j<Z l):nP l f counts j (Z l)=pK l f counts (j+1):=by
 funext a;unfold nP;split
 ·rfl
 ·rw[wJ AA AA,wJ AA AA]
theorem VP {l f counts j i v}(hv:v=(pK l f counts j i||NX l f counts i j)):(Cv 16 (nP l f counts j i)).set i (sc (.bool v))=Cv 16 (nP l f counts j (i+1)):=by
 rw[Ny];congr 1;funext a;unfold nP;by_cases e:a=i
 ·subst e;rw[if_pos rfl,if_pos AA,XN,hv]
 ·rw[if_neg e];by_cases h:a<i
  ·rw[if_pos h,if_pos AA]
  ·rw[if_neg h,if_neg AA]
theorem nN (l cs idl f counts)(hE:EL AN l cs)(hl:Z l<=16)(hf:∀x∈l,x.fits)(σ):AF Tryz.prog 171 [sl idl (Z l) cs,ag (Ej (I0 l)),ag (Cv 16 f),sc (.bool counts)] σ fun r σ'=>r=ag (Cv 16 (Ro l f counts))/\AE σ σ':=by
 have bg:=EL.length Cj hE;have bb:=Fa;have bc:=fun g=>Cx 16 g;have bd:∀g,List.take 16 (Cv 16 g)=Cv 16 g:=fun g=>FW (by rw[Cx];exact AR _);have be:∀g h,lsp (Cv 16 g) 0 (Cv 16 h)=Cv 16 h:=fun g h=>F3 (by rw[Cx,Cx]);have bf:∀g,(Cv 16 g).all flat=true:=fun g=>by simp[Cv,flat,Value.oneCell']
 refine Z9 88 [.cell 8 222] Tryz.func171 ?_
 refine zz ?_
 refine Ae (fun m s σ'=>∃j:Nat,m=Z l-j/\j<=Z l/\s 0=sl idl (Z l) cs/\s 3=sc (.bool counts)/\s 5=ptr σ.B 0/\s 6=ptr (σ.B+1) 0/\s 8=ptr (σ.B+2) 0/\s 9=ptr (σ.B+3) 0/\s 10=ic j/\AE σ σ'/\σ.B+3<σ'.B/\σ'.C σ.B=Ej (I0 l)/\σ'.C (σ.B+1)=Cv 16 f/\σ'.C (σ.B+2)=Cv 16 (fun _=>false)/\σ'.C (σ.B+3)=Cv 16 (pK l f counts j)) (Z l)
  ⟨0,AA,AA,by simp[upd,AM],by simp[upd,AM],AG,AG,AG,AG,rfl,Xs,AK,?_,?_,?_,?_⟩ ?_
 ·rw[Ah AK,Ah AK,Ah AK,Ao]
 ·rw[Ah AK,Ah AK,Bg AK AK]
 ·rw[Ah AK,Bg AK AK];exact K9 16
 ·rw[Bg AK AK];exact K9 16
 rintro m s σ' ⟨j,rfl,hj,h0,h3,h5,h6,h8,h9,am,hK,ak,aj,ai,ah,ae⟩;have ap:=hK.B;by_cases aw:j<Z l
 ·have aa:=AJ aw;have a8:=(hf l[j] (AT aw)).1;obtain⟨ih,id,b,r,hb,hd⟩:=Ds hE aa;have a0:AD (sD l f counts j=l[j].A.any (zG l f counts)):=by rw[AD,sD,aa];rfl
  generalize l[j]=x at hd aa a8 hb a0;clear aa;have bh:=EL.length Bb hb
  refine pz ?_
  refine Ae (fun m s σ'=>∃n:Nat,m=Z x.A-n/\n<=Z x.A/\s 0=sl idl (Z l) cs/\s 3=sc (.bool counts)/\s 5=ptr σ.B 0/\s 6=ptr (σ.B+1) 0/\s 8=ptr (σ.B+2) 0/\s 9=ptr (σ.B+3) 0/\s 10=ic j/\s 11=sc (.bool ((x.A.take n).any (zG l f counts)))/\s 12=ic n/\AE σ σ'/\σ.B+3<σ'.B/\σ'.C σ.B=Ej (I0 l)/\σ'.C (σ.B+1)=Cv 16 f/\σ'.C (σ.B+2)=Cv 16 (fun _=>false)/\σ'.C (σ.B+3)=Cv 16 (pK l f counts j)) (Z x.A)
   ⟨0,AA,AA,by simp[upd,h0],by simp[upd,h3],by simp[upd,h5],by simp[upd,h6],by simp[upd,h8],by simp[upd,h9],by simp[upd,am],AG,rfl,hK,ak,aj,ai,ah,ae⟩ ?_
  clear h0 h3 h5 h6 h8 h9 am hK ak aj ai ah ae ap;rintro m s σ' ⟨n,rfl,hn,h0,h3,h5,h6,h8,h9,am,af,ba,hK,ak,aj,ai,ah,ae⟩;have ap:=hK.B;by_cases av:n<Z x.A
  ·have aa:=AJ av;obtain⟨ia,r2,a9⟩:=Cf hb aa;have ab:AD ((x.A.take (n+1)).any (zG l f counts)=((x.A.take n).any (zG l f counts)||(x.A[n].nt&&(counts&&!D9 l x.A[n].B||D1 f l x.A[n].B)))):=by
    rw[AD,AU,aa,BJ,LM];simp[zG]
   generalize x.A[n]=a at a9 aa ab;clear aa;generalize (x.A.take n).any (zG l f counts)=hit at af ab;have hR:=fun σ=>Wv l cs idl a.B hE hl σ;have hH:=fun σ=>Ye l cs idl f a.B hE hl σ;generalize D9 l a.B=ru at hR ab;generalize D1 f l a.B=hold at hH ab
   repeat' first|refine Z1 ?_|refine Z8 fun yd yb=>?_|refine Z4 ?_;clear yb yd|refine Z2 ?_ ?_<;>intro h ad<;>try exact Xp|(refine Z5 ?_;first|(refine Xi (hR _) ?_;rintro _ _ ⟨rfl,rfl⟩)|(refine Xi (hH _) ?_;rintro _ _ ⟨rfl,ay⟩;(have a4:=ay.C;have au:=ay.B;(try simp only[Aa,Ab,Av]at au))))|refine Z3 ?_|exact Zt|apply yb.o;clear yb yd
   all_goals
    have h2:=ab.o;simp only[*,MP,ID,JA,Bool.true_or,Bool.false_and,MO,JU,Bool.and_false,Bool.and_true,Bool.or_true]at h2
    first
    |exact⟨Z x.A-(n+1),AA,n+1,rfl,AA,by rw[h2],by simp,((hK.new _).put hK.B _).trans ay,AA⟩
    |exact⟨Z x.A-(n+1),AA,n+1,rfl,AA,by rw[h2],by simp,(hK.new _).put hK.B _,AA⟩
  ·have a5:n=Z x.A:=AA;subst a5;rw[AS]at af;rw[<-a0.o]at af;generalize az:sD l f counts j=hit at af;have HJ:AD _:=az;clear az
   refine pz ?_
   refine Ae (fun m s σ'=>∃i:Nat,m=Z l-i/\i<=Z l/\s 0=sl idl (Z l) cs/\s 3=sc (.bool counts)/\s 5=ptr σ.B 0/\s 6=ptr (σ.B+1) 0/\s 8=ptr (σ.B+2) 0/\s 9=ptr (σ.B+3) 0/\s 10=ic j/\s 11=sc (.bool hit)/\s 14=ic i/\AE σ σ'/\σ.B+3<σ'.B/\σ'.C σ.B=Ej (I0 l)/\σ'.C (σ.B+1)=Cv 16 f/\σ'.C (σ.B+2)=Cv 16 (fun _=>false)/\σ'.C (σ.B+3)=Cv 16 (nP l f counts j i)) (Z l)
    ⟨0,AA,AA,by simp[upd,h0],by simp[upd,h3],by simp[upd,h5],by simp[upd,h6],by simp[upd,h8],by simp[upd,h9],by simp[upd,am],by simp[upd,af],rfl,hK,ak,aj,ai,ah,by rw[m9];exact ae⟩ ?_
   clear h0 h3 h5 h6 h8 h9 am af ba hK ak aj ai ah ae ap;rintro m s σ' ⟨i,rfl,hi,h0,h3,h5,h6,h8,h9,am,af,bi,hK,ak,aj,ai,ah,ae⟩;have ap:=hK.B;by_cases a6:i<Z l
   ·have a3:=Fy (nP l f counts j i) (show i<16 by omega);have g1:=Nq (I0 l) (i:=i) (k:=j) AA AA;have ao:nP l f counts j i i=pK l f counts j i:=by simp[nP]
    have ac:AD (∀v,v=(pK l f counts j i||(hit&&(i==j||I0 l i j)))->(Cv 16 (nP l f counts j i)).set i (sc (.bool v))=Cv 16 (nP l f counts j (i+1))):=fun v hv=>VP (by rw[hv,NX,HJ.o]);rw[ao]at a3;clear ao;generalize pK l f counts j i=cur at a3 ac;generalize I0 l i j=wv at g1 ac;by_cases an:i=j
    ·have ax:((i:Int)==(j:Int))=true:=by simp[an]
     have ac:AD (∀v,v=(cur||hit)->(Cv 16 (nP l f counts j i)).set i (sc (.bool v))=Cv 16 (nP l f counts j (i+1))):=fun v hv=>ac.o v (by rw[hv,show (i==j)=true from EH.2 an];cases cur<;>cases hit<;>rfl);clear an
     repeat' first|refine Z1 ?_|refine Z8 fun yd yb=>?_|refine Z4 ?_;clear yb yd|refine Z2 ?_ ?_<;>intro h ad<;>try exact Xp|refine Z3 ?_|exact Zt|apply yb.o;clear yb yd
     all_goals exact⟨Z l-(i+1),AA,i+1,rfl,AA,by simp,hK.put AA _,ac.o _ (by simp[*])⟩
    ·have ax:((i:Int)==(j:Int))=false:=by simp;omega
     have ac:AD (∀v,v=(cur||(hit&&wv))->(Cv 16 (nP l f counts j i)).set i (sc (.bool v))=Cv 16 (nP l f counts j (i+1))):=fun v hv=>ac.o v (by rw[hv,show (i==j)=false from beq_eq_false_iff_ne.2 an];rfl);clear an
     repeat' first|refine Z1 ?_|refine Z8 fun yd yb=>?_|refine Z4 ?_;clear yb yd|refine Z2 ?_ ?_<;>intro h ad<;>try exact Xp|refine Z3 ?_|exact Zt|apply yb.o;clear yb yd
     all_goals exact⟨Z l-(i+1),AA,i+1,rfl,AA,by simp,hK.put AA _,ac.o _ (by simp[*])⟩
   ·have hil:i=Z l:=AA;subst hil;rw[ov aw]at ae
    refine pz ?_
    exact⟨Z l-(j+1),AA,j+1,rfl,AA,by simp,rfl⟩
 ·have a7:j=Z l:=AA;subst a7;rw[lv]at ae
  refine pz ?_
  exact⟨_,rfl,rfl,hK.put AA _⟩
end Go.Proofs.YtmoeoppbmhfbpabGreatDoorI
