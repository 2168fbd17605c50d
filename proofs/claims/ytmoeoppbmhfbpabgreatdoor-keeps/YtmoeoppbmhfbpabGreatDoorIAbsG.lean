import Derived.Test.YtmoeoppbmhfbpabGreatDoorIAbsWp
import Derived.Test.YtmoeoppbmhfbpabGreatDoorIEngR
set_option maxHeartbeats 64000000
set_option maxRecDepth 100000
set_option linter.all false
open List renaming length->Z
namespace Go.Abs
theorem ki {P t z b zc σ id2 m n x xs ys K}(ht:O5 P t=some (z,b,zc))
    (hz:0<z) (hzc:Z zc=z) (hy:Z ys=m*z) (hf:ys.all flat=true) (hm:0<m) (hb:(n+m)*b<=140737488355328) (hl:n+m<=1099511627776)
    (hx:(x=nilS/\n=0/\xs=[])\/∃o cap,x=gx o n cap/\0<n/\n<=cap/\Z (σ.C o)=cap*z/\(σ.C o).take (n*z)=xs)
    (hO:∀o cap cs,((∃c0,x=gx o n c0/\n+m<=c0/\cap=c0)->Z cs=cap*z->cs.take ((n+m)*z)=xs++ys->K (gx o (n+m) cap) (σ.put o cs)))
    (hN:∀cap cs,Z cs=cap*z->n+m<=cap->cs.take ((n+m)*z)=xs++ys->K (gx σ.B (n+m) cap) (σ.new cs)):Iv P t t x (sl id2 m ys) σ K:=by
  right;refine⟨z,b,zc,id2,m,ys,ht,rfl,rfl,hz,hzc,hy,hf,hm,?_⟩;have aa:∀k,Z (List.replicate k (zc.map cst1)).flatten=k*z:=fun k=>by
    induction k with
    |zero=>simp
    |succ k ih=>rw[OJ,List.flatten_cons,AX,ih,BP,hzc,JG,Nat.add_comm]
  rcases hx with⟨rfl,rfl,rfl⟩|⟨o,cap,rfl,ah,ae,hlen,ab⟩
  · refine .inl ⟨rfl,by simpa using hb,by simpa using hl,fun cap hc=>?_⟩
    have:=hN cap (ys++(List.replicate (cap-m) (zc.map cst1)).flatten) (by rw[AX,hy,aa,<-FE];congr 1;omega) AA (by rw[EJ,<-hy,List.take_left];rfl);rw[EJ]at this;exact this
  · have ac:Z xs=n*z:=by rw[<-ab,CV,hlen];exact EZ (FU _ ae)
    refine .inr ⟨o,n,cap,rfl,hb,hl,hlen,AA,fun hc=>?_,fun hc cap' af=>?_⟩
    · have ad:n*z+Z ys<=Z (σ.C o):=by rw[hy,hlen,<-FE];exact FU _ hc
      refine hO o cap _ ⟨cap,rfl,hc,rfl⟩ (by rw[Jq];exact hlen) ?_;rw[Hc _ _ _ ad,ab];have:(n+m)*z=Z (xs++ys):=by rw[AX,ac,hy,FE]
      rw[this,List.take_left]
    · refine hN cap' _ ?_ af ?_
      · rw[ab,AX,AX,ac,hy,aa,<-FE,<-FE]
        congr 1;omega
      · rw[ab]
        have:(n+m)*z=Z (xs++ys):=by rw[AX,ac,hy,FE]
        rw[this,List.take_left]
theorem pb {P t z b zc σ id2 m n o cap xs ys K}(ht:O5 P t=some (z,b,zc))
    (hz:0<z) (hzc:Z zc=z) (hy:Z ys=m*z) (hf:ys.all flat=true) (hm:0<m) (hb:(n+m)*b<=140737488355328) (hl:n+m<=1099511627776)
    (af:0<cap) (ae:n<=cap) (hlen:Z (σ.C o)=cap*z) (aa:(σ.C o).take (n*z)=xs)
    (hO:n+m<=cap->∀cs:List AV,Z cs=cap*z->cs.take ((n+m)*z)=xs++ys->K (gx o (n+m) cap) (σ.put o cs))
    (hN:∀(cap':Nat) (cs:List AV),Z cs=cap'*z->n+m<=cap'->cs.take ((n+m)*z)=xs++ys->K (gx σ.B (n+m) cap') (σ.new cs)):Iv P t t (gx o n cap) (sl id2 m ys) σ K:=by
  right;refine⟨z,b,zc,id2,m,ys,ht,rfl,rfl,hz,hzc,hy,hf,hm,?_⟩;have ab:∀k,Z (List.replicate k (zc.map cst1)).flatten=k*z:=fun k=>by
    induction k with
    |zero=>simp
    |succ k ih=>rw[OJ,List.flatten_cons,AX,ih,BP,hzc,JG,Nat.add_comm]
  have ad:Z xs=n*z:=by rw[<-aa,CV,hlen];exact EZ (FU _ ae)
  have e0:(n+m)*z=Z (xs++ys):=by rw[AX,ad,hy,FE]
  refine .inr ⟨o,n,cap,rfl,hb,hl,hlen,af,fun hc=>?_,fun hc cap' ah=>?_⟩
  · have ac:n*z+Z ys<=Z (σ.C o):=by rw[hy,hlen,<-FE];exact FU _ hc
    refine hO hc _ (by rw[Jq];exact hlen) ?_;rw[Hc _ _ _ ac,aa,e0,List.take_left]
  · refine hN cap' _ ?_ ah ?_
    · rw[aa,AX,AX,ad,hy,ab,<-FE,<-FE]
      congr 1;omega
    · rw[aa,e0,List.take_left]
theorem Y1 {P N c Q s σ o p n cap j k ys}(ho:o<σ.B)(hp:p<σ.B)(aj:o≠p)(hy:σ.C p=ys)(hj:ys[j]?=some (gx o n cap))(hk:k<=Z (σ.C o))
    (h:Me P N c Q s ((σ.put o []).put p (ys.set j (sl 0 n ((σ.C o).take k))))):Me P N c Q s σ:=fun G a w R=>by
  obtain⟨G',I',E,ab,aa⟩:=R.inv.freeze ho;have ad:(σ.put o []).C p=ys:=by simp[St.put,aj.symm,hy]
  have am:(σ.put o []).C p≠[]:=fun e=>by rw[ad]at e;rw[e]at hj;simp at hj
  obtain⟨I2,E2⟩:=I'.retell (o:=p) hp am (ys.set j (sl 0 n ((σ.C o).take k))) (fun arr ha=>by
    rw[ad]at ha;refine⟨by rw[LU];exact ha.1,fun i v x hv hx=>?_⟩;by_cases ae:i=j
    · subst ae
      have an:=(BG.1 hj).1;rw[List.getElem?_set_self an]at hx;cases hx;obtain⟨e1,e2,e3⟩:=VR.of_gx (ha.2 i v _ hv hj);refine VR.fold ⟨some ⟨G'.blk o,0,none⟩,cap,e1,⟨e2,fun h=>by cases h⟩,fun af=>⟨G'.blk o,0,rfl,fun q y hq=>?_⟩,fun k' ap=>AA⟩;have ak:σ.C o≠[]:=fun e=>af (by rw[e];simp);obtain⟨⟨cur,ecur,ac,ao⟩,-⟩:=(R.inv.C o ho).2.2 ak;rw[II]at hq;split at hq
      case isFalse=>cases hq
      obtain⟨u,ai,ah⟩:=ao.get hq;refine⟨by rw[aa];exact ab _,u,?_,ah.ext E⟩;rw[aa];simp only[World.cell?,ac,EJ];simpa using ai
    · rw[NZ (Ne.symm ae)]at hx
      exact ha.2 i v x hv hx)
  have R2:FN N G' s ((σ.put o []).put p (ys.set j (sl 0 n ((σ.C o).take k)))) a w:=⟨R.defers,R.size,fun t=>(R.tmps t).ext (E.trans E2),I2⟩;exact wp_mono (h G' a w R2) fun e a' w' hc=>hc.ext (E.trans E2)
end Go.Abs
namespace Go.Proofs.YtmoeoppbmhfbpabGreatDoorI
open Go.Abs
theorem Q4 {a}(h:I5 a.ts=true)(ν):Bz a ν=Cw a:=by
  unfold Bz Cw;congr 1;apply CK;intro t ht;unfold I5 at h;rw[EK]at h;have:=h t ht;obtain⟨b,w⟩:=t;cases b with
  |false=>rfl
  |true=>simp at this
def tE (t:Cc)(ts:List Tm)(x:Tm×Nat):List Tm:=if x.1.1=true then Br x.1.2 (I4 t (x.2:Nat)) ts else ts
def R3 (ps:List Tm)(t:Cc)(ts:List Tm):List Tm:=ps.zipIdx.foldl (tE t) ts
def Qk (l:List Cc)(a:Dv)(p:Part):Part:=⟨p.a,p.A.filter fun t=>!decide (Cw ⟨a.p,R3 p.a.ts t a.ts⟩∈l)⟩
theorem zZ (ps x t ts):R3 (ps++[x]) t ts=tE t (R3 ps t ts) (x,Z ps):=by
  unfold R3;rw[List.zipIdx_append,List.foldl_append];simp
theorem XT (μ v):O4 μ v (μ v)=μ:=by
  funext w;unfold O4;split
  · rename_i e;rw[e]
  · rfl
theorem wQ {t v}:∀(l:List (Tm×Nat)) (ts:List Tm),Bj (l.foldl (tE t) ts) v=true->Bj ts v=true/\∀x∈l,x.1≠(true,v)
  |[],ts,h=>⟨h,by simp⟩
  |x::l,ts,h=>by
   rw[IB]at h;obtain⟨h1,h2⟩:=wQ l _ h;unfold tE at h1;obtain⟨⟨xb,xv⟩,xi⟩:=x;cases xb with
   |false=>
    simp only[ER,if_false]at h1
    exact⟨h1,fun y hy=>by
      rcases BB.1 hy with rfl|hy
      · simp
      · exact h2 y hy⟩
   |true=>
    simp only[if_true]at h1;have:=(CS (a:=⟨0,ts⟩)).1 h1
    exact⟨this.1,fun y hy=>by
      rcases BB.1 hy with rfl|hy
      · simp only[ne_eq,Prod.mk.injEq,JC];exact fun e=>this.2 e.symm
      · exact h2 y hy⟩
theorem XF {pa a μ}(h3:Z pa.ts<=3)(hv:∀v,Bj a.ts v=true->Bj pa.ts v=true):Cw ⟨a.p,R3 pa.ts (Bz pa μ) a.ts⟩=Bz a μ:=by
  have key:∀(l:List (Tm×Nat)) (ts:List Tm),(∀x∈l,pa.ts[x.2]?=some x.1)->Bz ⟨a.p,l.foldl (tE (Bz pa μ)) ts⟩ μ=Bz ⟨a.p,ts⟩ μ:=by
    intro l;induction l with
    |nil=>intro ts _;rfl
    |cons x l ih=>
     intro ts hl;rw[IB,ih _ (fun y hy=>hl y (GJ _ hy))];unfold tE;split
     · rename_i hx
       obtain⟨⟨xb,xv⟩,xi⟩:=x;simp only at hx;subst hx;have hg:pa.ts[xi]?=some (true,xv):=hl _ JF;have aa:=(BG.1 hg).1;have ht:I4 (Bz pa μ) ((xi:Nat):Int)=μ xv:=by
         unfold I4;rw[DU,Bz,Kp (by simpa using aa) (by simpa using h3)];have:=(BG.1 hg).2;simp[this,Gd]
       show Bz ⟨a.p,Br xv (I4 (Bz pa μ) ((xi:Nat):Int)) ts⟩ μ=_;rw[ht];have:=Lh ⟨a.p,ts⟩ xv (μ xv) μ;rw[XT]at this;exact this
     · rfl
  have hz:∀x∈pa.ts.zipIdx,pa.ts[x.2]?=some x.1:=fun x hx=>by
    obtain⟨y,i⟩:=x;exact List.mem_zipIdx_iff_getElem?.1 hx
  have h1:=key pa.ts.zipIdx a.ts hz;have h2:I5 (R3 pa.ts (Bz pa μ) a.ts)=true:=by
    unfold I5;rw[EK];intro t ht;obtain⟨b,w⟩:=t;cases b with
    |false=>rfl
    |true=>
     exfalso;obtain⟨g1,g2⟩:=wQ pa.ts.zipIdx a.ts (AL.2 ht);have:=AL.1 (hv w g1);obtain⟨i,hi⟩:=CO this;exact g2 ((true,w),i) (List.mem_zipIdx_iff_getElem?.2 hi) rfl
  rw[<-Q4 (a:=⟨a.p,R3 pa.ts (Bz pa μ) a.ts⟩) h2 μ];exact h1
theorem ZJ {l a p ν}(h3:Z p.a.ts<=3)(hv:∀v,Bj a.ts v=true->Bj p.a.ts v=true):Bz p.a ν∈(Qk l a p).A↔Bz p.a ν∈p.A/\Bz a ν∉l:=by
  unfold Qk;rw[BV,XF h3 hv];simp
theorem gR (om ot M d b p a)(id idt ida k:Nat)(x)(b6:Z p.a.ts<=3)(b5:Z p.A<=5000)(h3:T3 p.A)(ha:Z a.ts<=3)(hk:a.p=(k:Int))(hx:M[k]?=some x)(σ)(hM:BL σ om ot M d b):AF Tryz.prog 219 [ptr om 0,ag [ic p.a.p,sl id (Z p.a.ts) (Ad p.a.ts),sl idt (Z p.A) (Fo p.A)],ag [ic a.p,sl ida (Z a.ts) (Ad a.ts)]] σ fun r σ'=>(∃idn,r=ag [ic p.a.p,sl id (Z p.a.ts) (Ad p.a.ts),sl idn (Z (Qk x.2 a p).A) (Fo (Qk x.2 a p).A)])/\AE σ σ':=by
  have b4:=J4 h3;have ca:=Cs p.a.ts;have HR:AD ((Qk x.2 a p).A=p.A.filter fun t=>!decide (Cw ⟨a.p,R3 p.a.ts t a.ts⟩∈x.2)):=rfl;have a3:AD (∀(ts:List Tm) (i:Nat) (σ1:St),Z ts<=3->AE σ σ1->AF Tryz.prog 81 [ptr om 0,ag [ic a.p,sl i (Z ts) (Ad ts)]] σ1 fun r σ'=>r=sc (.bool (decide (Cw ⟨a.p,ts⟩∈x.2)))/\AE σ1 σ'):=fun ts i σ1 h1 h2=>Jv om ot M d b ⟨a.p,ts⟩ i k x h1 hk hx σ1 (hM.keep h2);generalize hG:(fun t:Cc=>Cw ⟨a.p,R3 p.a.ts t a.ts⟩)=bT at*
  have HG:AD (∀t,bT t=Cw ⟨a.p,R3 p.a.ts t a.ts⟩):=fun t=>by rw[<-hG]
  have bz:AD ((Qk x.2 a p).A=p.A.filter fun t=>!decide (bT t∈x.2)):=by
    rw[AD,HR.o];congr 1;funext t;rw[HG.o t]
  clear hG HR hk hx hM;generalize Qk x.2 a p=bp at*
  refine Z9 55 [.cell 6 239] Tryz.func219 ?_
  refine zz ?_
  refine Ae (fun m s σ'=>∃(i i3:Nat) (o:List Cc) (xs:List AV),m=Z p.A-i/\i<=Z p.A/\s 0=ptr om 0/\s 4=ptr σ.B 0/\s 5=ptr (σ.B+1) 0/\s 6=ptr (σ.B+2) 0/\s 7=ptr (σ.B+3) 0/\s 17=sl idt (Z p.A) (Fo p.A)/\s 18=ic (Z p.A)/\s 19=ic i/\AE σ σ'/\σ.B+3<σ'.B/\σ'.C σ.B=[ic p.a.p,sl id (Z p.a.ts) (Ad p.a.ts),sl idt (Z p.A) (Fo p.A)]/\σ'.C (σ.B+1)=[ic a.p,sl ida (Z a.ts) (Ad a.ts)]/\σ'.C (σ.B+2)=[ic 0,nilS,nilS]/\σ'.C (σ.B+3)=[ic p.a.p,sl id (Z p.a.ts) (Ad p.a.ts),sl i3 (Z o) xs]/\Own σ σ' i3 (Z o)/\Z o<=i/\Z xs=Z o*3/\AD (xs=Fo o/\o=(p.A.take i).filter fun t=>!decide (bT t∈x.2))) (Z p.A)
    ⟨0,1,[],[],AA,AA,by simp[upd,AM],AG,AG,AG,AG,AG,AG,rfl,Xs,BM,?_,?_,?_,?_,Own.nil _ _,by simp,by simp,⟨rfl,by simp⟩⟩ ?_
  · rw[Aj AA,Ah AK,Ah AK,Ah AK,Ao]
  · rw[Aj AA,Ah AK,Ah AK,Bg AK AK]
  · rw[Aj AA,Ah AK,Bg AK AK]
  · rw[show σ.B+3=σ.B+1+1+1 from rfl,Ak];simp
  rintro m s σ' ⟨i,i3,o,xs,rfl,hi,h0,h4,h5,h6,h7,a6,a5,a4,hK,b8,b2,b1,b0,bd,hO,b7,be,hX⟩;have b3:=hK.B;by_cases bf:i<Z p.A
  · have ae:=AJ bf
    obtain⟨ah,r,hd⟩:=Ks h3 ae;generalize p.A[i]=t at hd ae ah;have HF:AD ((p.A.take (i+1)).filter (fun t=>!decide (bT t∈x.2))=(p.A.take i).filter (fun t=>!decide (bT t∈x.2))++if (!decide (bT t∈x.2))=true then [t]else []):=by
      rw[AD,AU,ae,BJ,Ez]
    clear ae;have f1:=Ir ah;have f2:=On ah;have f3:=Js ah;have f4:=Qd ah;have f5:=Fw t;have f6:=dS ah
    refine pz ?_
    refine Ae (fun m s σ2=>∃(j idj:Nat) (ts:List Tm),m=Z p.a.ts-j/\j<=Z p.a.ts/\s 0=ptr om 0/\s 4=ptr σ.B 0/\s 5=ptr (σ.B+1) 0/\s 6=ptr (σ.B+2) 0/\s 7=ptr (σ.B+3) 0/\s 9=ptr σ'.B 0/\s 10=ptr (σ'.B+1) 0/\s 17=sl idt (Z p.A) (Fo p.A)/\s 18=ic (Z p.A)/\s 19=ic i/\s 26=sl id (Z p.a.ts) (Ad p.a.ts)/\s 27=ic (Z p.a.ts)/\s 28=ic j/\AE σ' σ2/\σ'.B+1<σ2.B/\σ2.C σ'.B=As t/\σ2.C (σ'.B+1)=[ic a.p,sl idj (Z ts) (Ad ts)]/\Z ts<=3/\AD (ts=R3 (p.a.ts.take j) t a.ts)) (Z p.a.ts)
      ⟨0,ida,a.ts,AA,AA,AI,AI,AI,AI,AI,AI,AI,AI,AI,AI,AI,AI,AG,Xs,BM,?_,?_,ha,rfl⟩ ?_
    · rw[Aj AA,Ah BM,Ak]
    · rw[Ak]
    clear h0 h4 h5 h6 h7 a6 a5 a4;rintro m s σ2 ⟨j,idj,ts,rfl,hj,h0,h4,h5,h6,h7,h9,bv,a6,a5,a4,bu,br,bq,af,ay,oc0,oc1,a9,hT⟩;have aj:=af.B;by_cases ak:j<Z p.a.ts
    · have aa:=AJ ak
      obtain⟨rj,bl⟩:=Cz aa;generalize p.a.ts[j]=w at bl aa;obtain⟨w1,w2⟩:=w;have an:t[j]?=some t[j]:=AJ AA;have bh:=Qe an;have ax:AD (I4 t (j:Nat)=t[j]):=by simp[AD,I4,an]
      generalize t[j]=y at an bh ax;have HT:AD (R3 (p.a.ts.take (j+1)) t a.ts=if w1=true then Br w2 y ts else ts):=by
        rw[AD,AU,aa,BJ,zZ,CV,EZ hj,<-hT.o];unfold tE;simp only[ax.o]
      clear aa an ax hT;cases w1 with
      |false=>
       have a8:AD (ts=R3 (p.a.ts.take (j+1)) t a.ts):=by rw[AD,HT.o];rfl
       clear HT
       refine pz ?_
       refine⟨Z p.a.ts-(j+1),AA,j+1,idj,ts,?_⟩
       exact qh a8
      |true=>
       have a8:AD (Br w2 y ts=R3 (p.a.ts.take (j+1)) t a.ts):=by rw[AD,HT.o];rfl
       clear HT;have bm:=fun σ=>Ou a.p idj ts w2 y AA σ;have bi:Z (Br w2 y ts)<=3:=by simpa[Br]using a9
       refine pz ?_
       have ba:AE σ' ((σ2.new [sc (.bool false),ic 0]).put σ2.B [sc (.bool true),ic w2]):=(af.new _).put aj _;refine Az (Q:=fun e s' σ''=>e= .normal/\s' 0=ptr om 0/\s' 4=ptr σ.B 0/\s' 5=ptr (σ.B+1) 0/\s' 6=ptr (σ.B+2) 0/\s' 7=ptr (σ.B+3) 0/\s' 9=ptr σ'.B 0/\s' 10=ptr (σ'.B+1) 0/\s' 17=sl idt (Z p.A) (Fo p.A)/\s' 18=ic (Z p.A)/\s' 19=ic i/\s' 26=sl id (Z p.a.ts) (Ad p.a.ts)/\s' 27=ic (Z p.a.ts)/\s' 28=ic j/\AE σ' σ''/\σ'.B+1<σ''.B/\σ''.C σ'.B=As t/\∃idn,σ''.C (σ'.B+1)=[ic a.p,sl idn (Z (Br w2 y ts)) (Ad (Br w2 y ts))]) ?_ ?_
       · refine Aq Ag (fun _=>True) [7] [0,1,2,3,4,5] 2 #[true,true,true,true,true,true,false,false] AH (fun _ _ _ h=>by cases h.1) ?_;intro yd yb;refine Z3 ?_;refine yb.o _ ?_;clear yb yd
         refine Ai (i:=6) AH ?_;refine Am ?_;intro yd yb;refine Z3 ?_;refine AF.mono (bm _) ?_;rintro _ σb ⟨⟨idn,rfl⟩,ao⟩;have knb:=ao.B;simp only[Ab,Aa]at knb;have av:=ao.C;simp only[Ab,Aa]at av;have og0:σb.C σ'.B=As t:=by rw[av _ AA,Aj AA,Ah AA,oc0]
         have og1:σb.C (σ'.B+1)=[ic a.p,sl idj (Z ts) (Ad ts)]:=by rw[av _ AA,Aj AA,Ah AA,oc1]
         refine Z3 ?_;refine yb.o _ _ ⟨Al ao,?_⟩;clear yb yd;refine Ai (i:=7) AH ?_;refine Am ?_;intro yd yb;refine Z3 ?_;refine yb.o _ _ ⟨A5 rfl,?_⟩;clear yb yd;refine Ax AH ⟨rfl,AI,AI,AI,AI,AI,AI,AI,AI,AI,AI,AI,AI,AI,(ba.trans ao).put AA _,by simp only[Ab];omega,by rw[Aj AA,og0],idn,Ak⟩
       · rintro e s2 σ3 ⟨rfl,g0,g4,g5,g6,g7,g9,g10,g17,g18,g19,g26,g27,g28,cb,b9,oe0,idn,oe1⟩
         clear h0 h4 h5 h6 h7 h9 bv a6 a5 a4 bu br bq oc0 oc1 ba af aj ay
         refine zz ?_
         refine⟨Z p.a.ts-(j+1),AA,j+1,idn,Br w2 y ts,?_⟩
         exact qh a8
    · have bg:j=Z p.a.ts:=AA
      subst bg;have HB:AD (Cw ⟨a.p,ts⟩=bT t):=by
        rw[AD,HG.o t,hT.o,AS]
      have am:=fun σ1 hh=>a3.o ts idj σ1 a9 hh;rw[HB.o]at am;have ap:=hK.trans af;clear hT HB hj ak;cases ai:decide (bT t∈x.2)with
      |true=>
       have HX:AD (xs=Fo o/\o=(p.A.take (i+1)).filter fun t=>!decide (bT t∈x.2)):=by
         obtain⟨x1,x2⟩:=hX.o;refine⟨x1,?_⟩;rw[HF.o,ai,x2];simp
       rw[ai]at am;clear hX HF ai
       refine qb ?_;intro yd yb;refine Xi (am _ ap) ?_;rintro _ _ ⟨rfl,ac⟩;(have aw:=ac.B;have ad:=(af.trans ac).C;have a0:=ap.trans ac;have az:=Own.keep hO (af.trans ac));refine pz ?_
       refine⟨Z p.A-(i+1),AA,i+1,i3,o,xs,?_⟩
       ((repeat' refine Zi ?_ ?_)<;>first|exact Xq|exact a0|exact az|exact HX|exact (by rw[ad _ AA];assumption)|exact Xs)
      |false=>
       have HX:AD (xs++As t=Fo (o++[t])/\o++[t]=(p.A.take (i+1)).filter fun t=>!decide (bT t∈x.2)):=by
         obtain⟨x1,x2⟩:=hX.o;refine⟨by rw[x1,Qz],?_⟩;rw[HF.o,ai,<-x2];simp
       rw[ai]at am;clear hX HF ai
       refine qb ?_;intro yd yb;refine Xi (am _ ap) ?_;rintro _ _ ⟨rfl,ac⟩;(have aw:=ac.B;have ad:=(af.trans ac).C;have au:=ac.C;have a0:=ap.trans ac;have az:=Own.keep hO (af.trans ac));refine qm ?_;intro yd yb
       rename_i σ5;have oh0:σ5.C σ'.B=As t:=by rw[au _ AA,oc0]
       have oh3:σ5.C (σ.B+3)=[ic p.a.p,sl id (Z p.a.ts) (Ad p.a.ts),sl i3 (Z o) xs]:=by rw[ad _ AA,bd]
       refine pz ?_
       refine Bn (by first|exact G9) (a0) (az) (by decide) (by rfl) (be) (by rw[f1]) (f5) (by decide) AA AA ?_;intro idn σn bn bo a7 bc bw bb;have eob:∀q,q<σ'.B->σn.C q=σ'.C q:=fun q hq=>by rw[a7,ad _ hq]
       refine Z3 ?_
       refine zz ?_
       refine⟨Z p.A-(i+1),AA,i+1,idn,o++[t],xs++As t,?_⟩
       ((repeat' refine Zi ?_ ?_)<;>first|exact Xq|exact (bo.put AA _)|exact (by simpa using Own.put bn _ _)|exact HX|exact Xs)
  · have hil:i=Z p.A:=AA
    subst hil;obtain⟨x1,x2⟩:=hX.o;rw[AS]at x2
    refine pz ?_
    exact⟨_,rfl,⟨_,by rw[bz.o,<-x2]<;>first|rfl|rw[x1]⟩,hK.put AA _⟩
def qW (a:Dv)(p:Part):Bool:=(Co [a]).all (Bj p.a.ts)
theorem KD {a p}:qW a p=true↔∀v,Bj a.ts v=true->Bj p.a.ts v=true:=by
  unfold qW;rw[EK];constructor
  · intro h v hv
    exact h v ((Dk _ _).2 ⟨a,by simp,AL.1 hv⟩)
  · intro h v hv
    obtain⟨b,hb,aa⟩:=(Dk _ _).1 hv;simp at hb;subst hb;exact h v (AL.2 aa)
theorem nV (h0 h1 h3)(hf:([h0,h1,h3]:List AV).all flat=true)(a:Dv)(ida σ):AF Tryz.prog 218 [ag [h0,h1,nilS,h3],ag [ic a.p,sl ida (Z a.ts) (Ad a.ts)]] σ fun r σ'=>r=ic (-1)/\AE σ σ':=by
  simp only[List.all_cons,List.all_nil,Bool.and_true,BX]at hf;obtain⟨f0,f1,f3⟩:=hf;refine Z9 23 [.tmp 4] Tryz.func218 ?_
  refine zz ?_
  refine Ae (fun m s σ'=>m=0/\s 9=ic 0/\s 10=ic 0/\AE σ σ') 0
    ⟨rfl,AG,AG,Xs⟩ ?_
  rintro m s σ' ⟨rfl,h9,ab,hK⟩
  refine pz ?_
  first|exact⟨_,rfl,rfl⟩|exact⟨_,rfl,rfl,hK⟩
theorem nU (h0 h1 h3)(hf:([h0,h1,h3]:List AV).all flat=true)(L)(hL:∀p∈L,Z p.a.ts<=3)(hLl:Z L<=64)(o cap pc)(hP:EL N7 L pc)(a ida)(ha:Z a.ts<=3)(σ)(ho:o<σ.B)(au:Z L<=cap)(a5:Z (σ.C o)=cap*3)(an:(σ.C o).take (Z L*3)=pc):AF Tryz.prog 218 [ag [h0,h1,gx o (Z L) cap,h3],ag [ic a.p,sl ida (Z a.ts) (Ad a.ts)]] σ fun r σ'=>((∃(i:Nat) (p:Part),r=ic i/\L[i]?=some p/\qW a p=true)\/(r=ic (-1)/\∀p∈L,qW a p=false))/\AE σ σ':=by
  simp only[List.all_cons,List.all_nil,Bool.and_true,BX]at hf;obtain⟨f0,f1,f3⟩:=hf;have ab:=fun (i:Nat) (σ:St)=>Hy [a] [ic a.p,sl ida (Z a.ts) (Ad a.ts)] i (EL.single ⟨ida,rfl⟩) (by simp;exact ha) (by simp) σ;have am:=Fz (l:=[a]) (by simp;exact ha);have HV:AD (∀p,qW a p=(Co [a]).all (Bj p.a.ts)):=fun p=>rfl;generalize Co [a]=vs at*
  simp only[BQ,CP]at am ab;have hpl:=EL.length E8 hP;refine Z9 23 [.tmp 4] Tryz.func218 ?_
  refine zz ?_
  refine Ae (fun m s σ'=>∃i:Nat,m=Z L-i/\i<=Z L/\s 2=ptr σ.B 0/\s 3=ptr (σ.B+1) 0/\s 8=gx o (Z L) cap/\s 9=ic (Z L)/\s 10=ic i/\AE σ σ'/\σ.B+1<σ'.B/\σ'.C (σ.B+1)=[ic a.p,sl ida (Z a.ts) (Ad a.ts)]/\AD (∀p∈L.take i,qW a p=false)) (Z L)
    ⟨0,AA,AA,AG,AG,AG,AG,rfl,Xs,BM,?_,by simp[AD]⟩ ?_
  · rw[Bg AK AK]
  rintro m s σ' ⟨i,rfl,hi,h2,ax,h8,h9,ay,hK,a4,ai,hA⟩;have a0:=hK.B;by_cases aj:i<Z L
  · have aa:=AJ aj
    obtain⟨id,idt,r,hd⟩:=F5 hP aa;have ak:=hL _ (AT aj);generalize L[i]=w at hd aa ak;have oo:σ'.C o=σ.C o:=hK.C o ho;have ao:(σ'.C o).drop (i*3)=ic w.a.p::sl id (Z w.a.ts) (Ad w.a.ts)::sl idt (Z w.A) (Fo w.A)::(r++(σ.C o).drop (Z L*3)):=by
      rw[oo]
      conv=>lhs;rw[<-KJ (Z L*3) (σ.C o),an]
      rw[List.drop_append_of_le_length (by rw[hpl];omega),hd];rfl
    have ap:o≠σ'.B:=AA;have HA:AD (qW a w=false->∀p∈L.take (i+1),qW a p=false):=fun hw p hp=>by
      rw[AU,aa,BJ]at hp;rcases AW.1 hp with h|h
      · exact hA.o p h
      · simp at h;subst h;exact hw
    have HW:AD (L[i]?=some w):=aa;have af:=fun (i:Nat) (σ:St)=>gO w.a.p id w.a.ts vs i AA AA σ;rw[<-HV.o w]at af;have a3:σ'.B≠o:=fun e=>ap e.symm;clear aa hA oo
    refine p7 ?_;intro h ae
    have aw:AE σ ((σ'.new [ic 0,nilS,nilS]).put σ'.B [ic w.a.p,sl id (Z w.a.ts) (Ad w.a.ts),sl idt (Z w.A) (Fo w.A)]):=(hK.new _).put hK.B _;have kv:∀p,p<σ'.B->((σ'.new [ic 0,nilS,nilS]).put σ'.B [ic w.a.p,sl id (Z w.a.ts) (Ad w.a.ts),sl idt (Z w.A) (Fo w.A)]).C p=σ'.C p:=fun p hp=>by rw[Aj AA,Ah AA]
    generalize hσb:(σ'.new [ic 0,nilS,nilS]).put σ'.B [ic w.a.p,sl id (Z w.a.ts) (Ad w.a.ts),sl idt (Z w.A) (Fo w.A)]=σb at*
    have nb:σb.B=σ'.B+1:=by rw[<-hσb];rfl
    have o6:σb.C σ'.B=[ic w.a.p,sl id (Z w.a.ts) (Ad w.a.ts),sl idt (Z w.A) (Fo w.A)]:=by rw[<-hσb,Ak]
    have o3:σb.C (σ.B+1)=[ic a.p,sl ida (Z a.ts) (Ad a.ts)]:=by rw[kv _ AA,ai]
    clear hσb;refine Az (Q:=fun e s' σ''=>e= .normal/\s' 20=sc (.bool (qW a w))/\s' 2=ptr σ.B 0/\s' 3=ptr (σ.B+1) 0/\s' 5=ic i/\s' 8=gx o (Z L) cap/\s' 9=ic (Z L)/\s' 10=ic i/\AE σb σ'') ?_ ?_
    · refine Aq Ag (fun _=>True) [] [0,1,2] 3 #[true,true,true,false,false,false] AH (fun _ _ _ h=>by cases h.1) ?_;intro yd yb;refine Z3 ?_;refine yb.o _ ?_;clear yb yd
      refine Ai (i:=3) AH ?_;refine Am ?_;intro yd yb;refine Z3 ?_;refine yb.o _ _ ⟨Al ((AE.refl _).lay 1),?_⟩;clear yb yd;refine Ai (i:=4) AH ?_;refine Am ?_;intro yd yb;refine Z3 ?_;refine AF.mono (ab _ _) ?_;rintro _ σc ⟨⟨idv,rfl⟩,ah⟩;have knc:=ah.B;refine Z3 ?_;refine yb.o _ _ ⟨Al (((AE.refl _).lay 1).trans ah),?_⟩;clear yb yd;refine Ai (i:=5) AH ?_;refine Am ?_;intro yd yb;refine Z3 ?_;refine AF.mono (af _ _) ?_;rintro _ σd ⟨rfl,ad⟩;refine Z3 ?_;refine yb.o _ _ ⟨Al ((((AE.refl _).lay 1).trans ah).trans ad),?_⟩;clear yb yd;refine Ax AH ⟨rfl,AI,AI,AI,AI,AI,AI,AI,(((AE.refl _).lay 1).trans ah).trans ad⟩
    · rintro e s' σd ⟨rfl,g20,g2,g3,g5,g8,g9,g10,ad⟩
      have av:=aw.trans ad;have knd:=ad.B;have oe:σd.C (σ.B+1)=[ic a.p,sl ida (Z a.ts) (Ad a.ts)]:=by rw[ad.C _ AA,o3]
      clear h2 ax h8 h9 ay h ae ai hd ao;cases ac:qW a w with
      |true=>
       have HP:AD (qW a w=true):=ac;rw[ac]at g20;clear ac;refine Bt g20 ?_
       refine zz ?_
       first|exact⟨_,rfl,.inl ⟨i,w,rfl,HW.o,HP.o⟩⟩|exact⟨_,rfl,.inl ⟨i,w,rfl,HW.o,HP.o⟩,av⟩
      |false=>
       have az:AD (∀p∈L.take (i+1),qW a p=false):=HA.o ac;rw[ac]at g20;clear ac HA;refine Ct g20 ?_
       refine zz ?_
       refine⟨Z L-(i+1),AA,i+1,?_⟩
       exact qh az
  · have hil:i=Z L:=AA
    subst hil;rw[AS]at hA
    refine pz ?_
    first|exact⟨_,rfl,.inr ⟨rfl,hA.o⟩,hK⟩|exact .inr ⟨rfl,hA.o⟩|exact⟨_,rfl,.inr ⟨rfl,hA.o⟩⟩
def PS (lo:Nat)(σ:St)(x:AV)(n:Nat)(pc:List AV):Prop:=(x=nilS/\n=0/\pc=[])\/∃o cap,x=gx o n cap/\0<n/\n<=cap/\Z (σ.C o)=cap*3/\(σ.C o).take (n*3)=pc/\lo<=o/\o<σ.B
theorem Dl {σ:St}{p o c}(h:o≠p):(σ.put p c).C o=σ.C o:=by simp[St.put,h]
theorem PS.flat {lo σ x n pc}(h:PS lo σ x n pc):flat x=true:=by
  rcases h with⟨rfl,-,-⟩|⟨o,cap,rfl,-⟩<;>rfl
theorem PS.keep {lo σ σ' x n pc}(h:PS lo σ x n pc)(k:AE σ σ'):PS lo σ' x n pc:=by
  rcases h with h|⟨o,cap,h1,h2,h3,h4,h5,h6,h7⟩
  · exact .inl h
  · have:=k.C o h7
    exact .inr ⟨o,cap,h1,h2,h3,by rw[this];exact h4,by rw[this];exact h5,h6,By h7 k.B⟩
theorem PS.put {lo σ x n pc}(h:PS lo σ x n pc){p}(hp:p<lo)(c):PS lo (σ.put p c) x n pc:=by
  rcases h with h|⟨o,cap,h1,h2,h3,h4,h5,h6,h7⟩
  · exact .inl h
  · have:(σ.put p c).C o=σ.C o:=Dl AA
    exact .inr ⟨o,cap,h1,h2,h3,by rw[this];exact h4,by rw[this];exact h5,h6,h7⟩
theorem wU {P t b zc σ0 σ id2 n lo x xs ys K}(ht:O5 P t=some (3,b,zc))(hzc:Z zc=3)(hy:Z ys=3)(hf:ys.all Abs.flat=true)(hb:(n+1)*b<=140737488355328)(hl:n+1<=1099511627776)
    (ac:lo<=σ.B) (h0:σ0.B<=lo) (hK:AE σ0 σ) (hx:PS lo σ x n xs) (h:∀x' σ',PS lo σ' x' (n+1) (xs++ys)->σ.B<=σ'.B->(∀p,p<lo->σ'.C p=σ.C p)->AE σ0 σ'->K x' σ'):Iv P t t x (sl id2 1 ys) σ K:=by
  refine ki (xs:=xs) ht AA hzc AA hf AA hb hl ?_ ?_ ?_
  · rcases hx with h|⟨o,cap,h1,h2,h3,h4,h5,-,-⟩
    · exact .inl h
    · exact .inr ⟨o,cap,h1,h2,h3,h4,h5⟩
  · rintro o cap cs ⟨c0,e1,e2,rfl⟩ ab aa
    rcases hx with⟨rfl,-,-⟩|⟨o',cap',rfl,h2,h3,h4,h5,h6,h7⟩
    · simp at e1
    · simp at e1
      obtain⟨rfl,rfl⟩:=e1;refine h _ _ (.inr ⟨_,_,rfl,AA,e2,by rw[Ak];exact ab,by rw[Ak];exact aa,h6,h7⟩) (AR _) (fun p hp=>Dl AA) (hK.put AA _)
  · intro cap cs ab hc aa
    exact h _ _ (.inr ⟨_,_,rfl,AA,hc,by rw[Ao];exact ab,by rw[Ao];exact aa,ac,AK⟩) AK (fun p hp=>Ah AA) (hK.new _)
theorem oI {P N c Q s σ0 σ lo p j n ys pc x}(hK:AE σ0 σ)(h0:σ0.B<=lo)(ab:σ0.B<=p)(hp:p<lo)(ac:lo<=σ.B)(hx:PS lo σ x n pc)(hy:σ.C p=ys)(hj:ys[j]?=some x)
    (h:∀(ip:Nat) (σ':St),AE σ0 σ'->σ'.B=σ.B->σ'.C p=ys.set j (sl ip n pc)->(∀o,o<lo->o≠p->σ'.C o=σ.C o)->Me P N c Q s σ'):Me P N c Q s σ:=by
  rcases hx with⟨rfl,rfl,rfl⟩|⟨o,cap,rfl,h2,h3,h4,h5,h6,h7⟩
  · refine h 1 σ hK rfl ?_ (fun _ _ _=>rfl)
    rw[hy];apply FS;intro i;by_cases e:j=i
    · subst e
      rw[List.getElem?_set_self (BG.1 hj).1,hj]
    · rw[NZ e]
  · refine Y1 (o:=o) (p:=p) (k:=n*3) h7 AA AA hy hj (by rw[h4];omega) ?_
    rw[h5];exact h 0 _ ((hK.put AA _).put ab _) rfl Ak (fun q hq aa=>by rw[Dl aa,Dl AA])
theorem ZW {l c off m}(h1:off+Z c<=m)(h2:m<=Z l):(lsp l off c).take m=lsp (l.take m) off c:=by
  rw[Hc _ _ _ AA,Hc _ _ _ (by rw[CV];omega),List.take_take,EZ AA,List.drop_take,List.take_append];rw[AX,CV,EZ AA,FW (by rw[AX,CV];omega)]
theorem SG {α:Type}{E z}(hz:∀a c,E a c->Z c=z):∀{l:List α} {cs:List AV} {i:Nat} {a:α} {c:List AV},EL E l cs->i<Z l->E a c->EL E (l.set i a) (lsp cs (i*z) c)
  |[],_,i,_,_,_,hi,_=>by simp at hi
  |b::l,cs,0,a,c,⟨d,r,h1,h2,e⟩,hi,ha=>by
   subst e;have e1:=hz _ _ h1;have e2:=hz _ _ ha;refine⟨c,r,ha,h2,?_⟩;rw[MX,Hc _ _ _ (by simp;omega)];simp[show Z c=Z d by omega]
  |b::l,cs,i+1,a,c,⟨d,r,h1,h2,e⟩,hi,ha=>by
   subst e;have e1:=hz _ _ h1;have e2:=hz _ _ ha;have hr:=EL.length hz h2;have aa:i<Z l:=by simpa using hi
   have hb:i*z+z<=Z r:=by rw[hr,<-JG];exact FU _ aa
   refine⟨d,lsp r (i*z) c,h1,SG hz h2 aa ha,?_⟩;rw[Hc c (d++r) _ (by rw[AX,JG,e1,e2];omega),Hc c r _ (by rw[e2];omega)];rw[JG,<-e1,Nat.add_comm (i*Z d),List.take_length_add_append,IW,List.drop_length_add_append];simp
theorem PS.set {lo σ o cap n i pc c}(h:PS lo σ (gx o n cap) n pc)(hi:i<n)(hc:Z c=3):PS lo (σ.put o (lsp (σ.C o) (i*3) c)) (gx o n cap) n (lsp pc (i*3) c):=by
  rcases h with⟨h,-,-⟩|⟨o',cap',e,h2,h3,h4,h5,h6,h7⟩
  · simp at h
  · simp at e
    obtain⟨rfl,rfl⟩:=e;refine .inr ⟨o,cap,rfl,h2,h3,by rw[Ak,Jq];exact h4,?_,h6,h7⟩;rw[Ak,ZW (by rw[hc];omega) (by rw[h4];omega),h5]
theorem sN (lo h0 h1 h3)(hf:([h0,h1,h3]:List AV).all flat=true)(L)(hL:∀p∈L,Z p.a.ts<=3)(hLl:Z L<=64)(X pc)(hP:EL N7 L pc)(a ida)(ha:Z a.ts<=3)(σ)(hX:PS lo σ X (Z L) pc):AF Tryz.prog 218 [ag [h0,h1,X,h3],ag [ic a.p,sl ida (Z a.ts) (Ad a.ts)]] σ fun r σ'=>((∃(i:Nat) (p:Part),r=ic i/\L[i]?=some p/\qW a p=true)\/(r=ic (-1)/\∀p∈L,qW a p=false))/\AE σ σ':=by
  rcases hX with⟨rfl,hn,-⟩|⟨o,cap,rfl,h2,hc,h4,h5,h6,h7⟩
  · refine AF.mono (nV h0 h1 h3 hf a ida σ) ?_
    rintro r σ' ⟨rfl,hK⟩;have:L=[]:=GQ hn;subst this;exact⟨.inr ⟨rfl,by simp⟩,hK⟩
  · exact nU h0 h1 h3 hf L hL hLl o cap pc hP a ida ha σ h7 hc h4 h5
structure FV (neg:Int->Cc->Prop)(q:AY)(k:Nat)(L:List Part)(Nn:List Dv):Prop where
  atm:L.map (·.a)=q.A.map (·.a)
  sub:∀p∈L,∃p0∈q.A,p.a=p0.a/\p.A.Sublist p0.A
  nsub:Nn.Sublist (q.B.take k)
  uns:∀a∈Nn,I5 a.ts=false
  sol:∀ν,((∀p∈q.A,Bz p.a ν∈p.A)/\∀a∈q.B.take k,¬neg a.p (Bz a ν))↔((∀p∈L,Bz p.a ν∈p.A)/\∀a∈Nn,¬neg a.p (Bz a ν))
theorem FV.start (neg q):FV neg q 0 q.A []:=
  ⟨rfl,fun p hp=>⟨p,hp,rfl,NF _⟩,by simp,by simp,fun ν=>by simp⟩
theorem Jb {α:Type}{l:List α}{k a}(h:l[k]?=some a):l.take (k+1)=l.take k++[a]:=by rw[AU,h,BJ]
theorem FV.keepN {neg q k L Nn a}(h:FV neg q k L Nn)(ha:q.B[k]?=some a)(hs:I5 a.ts=false):FV neg q (k+1) L (Nn++[a]):=by
  refine⟨h.atm,h.sub,by rw[Jb ha];exact h.nsub.append (NF _),fun b hb=>?_,fun ν=>?_⟩
  · rcases AW.1 hb with hb|hb
    · exact h.uns b hb
    · simp at hb;subst hb;exact hs
  · have:=h.sol ν
    rw[Jb ha];simp only[AW,GF,or_imp,forall_and,forall_eq];rw[<-and_assoc,this,and_assoc]
theorem FV.drop {neg q k L Nn a}(h:FV neg q k L Nn)(ha:q.B[k]?=some a)(hs:∀ν,¬neg a.p (Bz a ν)):FV neg q (k+1) L Nn:=by
  refine⟨h.atm,h.sub,by rw[Jb ha];exact h.nsub.trans (List.sublist_append_left _ _),h.uns,fun ν=>?_⟩;have:=h.sol ν;rw[Jb ha];simp only[AW,GF,or_imp,forall_and,forall_eq];rw[<-and_assoc,this];exact and_iff_left (hs ν)
theorem FV.bar {neg q k i L Nn a p l}(h:FV neg q k L Nn)(ha:q.B[k]?=some a)(hp:L[i]?=some p)(h3:Z p.a.ts<=3)(hw:qW a p=true)(hn:∀t,neg a.p t↔t∈l):FV neg q (k+1) (L.set i (Qk l a p)) Nn:=by
  have hi:=(BG.1 hp).1;have ac:=BD hp;refine⟨?_,fun p' aa=>?_,by rw[Jb ha];exact h.nsub.trans (List.sublist_append_left _ _),h.uns,fun ν=>?_⟩
  · rw[<-h.atm]
    apply FS;intro n;rw[EY,EY];by_cases e:i=n
    · subst e
      rw[List.getElem?_set_self hi,hp];rfl
    · rw[NZ e]
  · rcases OD aa with h1|rfl
    · exact h.sub p' h1
    · obtain⟨p0,g1,g2,g3⟩:=h.sub p ac
      exact⟨p0,g1,g2,MF.trans g3⟩
  · have hs:=h.sol ν
    rw[Jb ha];simp only[AW,GF,or_imp,forall_and,forall_eq];rw[<-and_assoc,hs,hn];have hb:=ZJ (l:=l) (a:=a) (p:=p) (ν:=ν) h3 (KD.1 hw);have hL:(∀p'∈L.set i (Qk l a p),Bz p'.a ν∈p'.A)↔(∀p'∈L,Bz p'.a ν∈p'.A)/\Bz a ν∉l:=by
      constructor
      · intro g
        have g1:=hb.1 (g (Qk l a p) (List.mem_set hi _));refine⟨fun p' aa=>?_,g1.2⟩;obtain⟨n,ab⟩:=CO aa;by_cases e:i=n
        · subst e
          rw[hp]at ab;cases ab;exact g1.1
        · exact g p' (BD (by rw[NZ e];exact ab))
      · rintro⟨g1,g2⟩ p' aa
        rcases OD aa with h1|rfl
        · exact g1 p' h1
        · exact hb.2 ⟨g1 p ac,g2⟩
    rw[hL];constructor
    · rintro⟨⟨x,y⟩,z⟩;exact⟨⟨x,z⟩,y⟩
    · rintro⟨⟨x,z⟩,y⟩;exact⟨⟨x,y⟩,z⟩
structure To (q:AY):Prop where
  ok:Qo q
  n:QN q
  w:WP q
  wf:oX q
theorem ED.ok {q q'}(h:ED q q')(hq:Qo q):Qo q'/\q'.B=q.B/\∀p∈q'.A,p∈q.A:=by
  induction h with
  |refl=>exact⟨hq,rfl,fun p hp=>hp⟩
  |tail h ih=>exact⟨jY ih.1,ih.2.1,fun p hp=>ih.2.2 p (List.mem_of_mem_eraseP hp)⟩
theorem gh {q q'}(h:CF q q')(hw:oX q):oX q':=fun v hv=>by
  obtain⟨e1,e2,e3⟩:=h.atoms;rw[e2,e3]at hv;obtain⟨p,hp,aa⟩:=hw v hv;have:p.a∈q'.A.map (·.a):=by rw[e1];exact AO.2 ⟨p,hp,rfl⟩
  obtain⟨p',h1,h2⟩:=AO.1 this;exact⟨p',h1,by rw[h2];exact aa⟩
theorem FV.fin {neg q L Nn}(h:FV neg q (Z q.B) L Nn)(hA:To q):To ⟨q.h,L,Nn⟩/\GO neg q ⟨q.h,L,Nn⟩:=by
  have ab:∀a∈Nn,a∈q.B:=fun a ha=>by
    have:=h.nsub.subset ha;rwa[AS]at this
  have aa:=h.sol;rw[AS]at aa;have ad:∀p∈q.A,∃p'∈L,p'.a=p.a:=fun p hp=>by
    have:p.a∈L.map (·.a):=by rw[h.atm];exact AO.2 ⟨p,hp,rfl⟩
    obtain⟨p',h1,h2⟩:=AO.1 this;exact⟨p',h1,h2⟩
  refine⟨⟨⟨hA.ok.hd,?_,?_,fun p hp=>?_,fun p hp=>?_,fun p hp=>?_,fun a ha=>hA.ok.na a (ab a ha)⟩,fun p hp t ht=>?_,fun p hp=>?_,fun v hv=>?_⟩,rfl,fun a ha=>?_,fun ν hν=>(aa ν).1 hν,fun ν hν=>⟨ν,(aa ν).2 hν,fun _ _=>rfl⟩⟩
  · have:=congrArg List.length h.atm
    simp at this;rw[this];exact hA.ok.pl
  · have:=h.nsub.length_le
    rw[AS]at this;exact BO this hA.ok.nl
  · obtain⟨p0,g1,g2,g3⟩:=h.sub p hp;rw[g2];exact hA.ok.pa p0 g1
  · obtain⟨p0,g1,g2,g3⟩:=h.sub p hp;exact BO g3.length_le (hA.ok.pt p0 g1)
  · obtain⟨p0,g1,g2,g3⟩:=h.sub p hp;exact fun t ht=>hA.ok.p3 p0 g1 t (g3.subset ht)
  · obtain⟨p0,g1,g2,g3⟩:=h.sub p hp;rw[g2];exact hA.n p0 g1 t (g3.subset ht)
  · obtain⟨p0,g1,g2,g3⟩:=h.sub p hp;rw[g2];exact⟨(hA.w p0 g1).1,fun t ht=>(hA.w p0 g1).2 t (g3.subset ht)⟩
  · obtain⟨p,hp,ac⟩:=hA.wf v (by
      rcases hv with hv|⟨a,ha,hv⟩
      · exact .inl hv
      · exact .inr ⟨a,ab a ha,hv⟩)
    obtain⟨p',h1,h2⟩:=ad p hp;exact⟨p',h1,by rw[h2];exact ac⟩
  · unfold atomsQ at ha⊢
    simp only[BB,AW]at ha⊢;rcases ha with ha|ha|ha
    · exact .inl ha
    · rw[h.atm]at ha;exact .inr (.inl ha)
    · exact .inr (.inr (ab a ha))
theorem PS.gx {lo σ x n pc}(h:PS lo σ x n pc)(hn:0<n):∃o cap,x=Abs.gx o n cap/\lo<=o/\o<σ.B/\Z (σ.C o)=cap*3/\n<=cap/\(σ.C o).take (n*3)=pc:=by
  rcases h with⟨-,h,-⟩|⟨o,cap,h1,h2,h3,h4,h5,h6,h7⟩
  · omega
  · exact⟨o,cap,h1,h6,h7,h4,h3,h5⟩
def BN (neg:Int->Cc->Prop)(M:MM)(q:AY):Prop:=∀a∈q.B,∃(k:Nat) (x:Nat×List Cc),a.p=(k:Int)/\M[k]?=some x/\∀t,neg a.p t↔t∈x.2
def f9 (neg:Int->Cc->Prop)(q:AY)(x:AV):Prop:=∃c',(x=tp [ag c',sc (.bool false)]/\Z c'=4/\c'.all flat=true/\∀ν,¬Mn neg q ν)\/∃q',x=tp [ag c',sc (.bool true)]/\EQ q' c'/\To q'/\NE q'/\GO neg q q'/\∀a∈q'.B,a∈q.B/\I5 a.ts=false
theorem dY (neg q c om ot M d b)(hc:EQ q c)(hA:To q)(ds:BN neg M q)(σ)(hM:BL σ om ot M d b):AF Tryz.prog 186 [ptr om 0,ag c] σ fun r σ'=>f9 neg q r/\AE σ σ':=by
  obtain⟨ih,ip,inn,pc,nc,rfl,hP,cj⟩:=hc;have hpl:=EL.length E8 hP;have d3:=EL.length I9 cj;have hl:=hA.ok.pl;have d7:=hA.ok.nl;have dc:=hA.ok.na;have HM:AD (BL σ om ot M d b):=hM;clear hM;refine Z9 86 [.cell 4 191,.tmp 5] Tryz.func186 ?_
  refine zz ?_
  refine Ae (fun m s σ'=>∃(i:Nat) (X:AV) (xs:List AV),m=Z q.A-i/\i<=Z q.A/\s 0=ptr om 0/\s 3=ptr σ.B 0/\s 4=ptr (σ.B+1) 0/\s 6=ptr (σ.B+2) 0/\s 18=sl ip (Z q.A) pc/\s 19=ic (Z q.A)/\s 20=ic i/\AE σ σ'/\σ.B+2<σ'.B/\σ'.C σ.B=[ic q.h.p,sl ih (Z q.h.ts) (Ad q.h.ts),sl ip (Z q.A) pc,sl inn (Z q.B) nc]/\σ'.C (σ.B+1)=[ic 0,nilS,nilS,nilS]/\σ'.C (σ.B+2)=[ic q.h.p,sl ih (Z q.h.ts) (Ad q.h.ts),X,nilS]/\PS (σ.B+3) σ' X i xs/\AD (EL N7 (q.A.take i) xs)) (Z q.A)
    ⟨0,nilS,[],AA,AA,by simp[upd,AM],AG,AG,AG,AG,AG,rfl,Xs,BM,?_,?_,?_,.inl ⟨rfl,rfl,rfl⟩,rfl⟩ ?_
  · rw[Aj AA,Ah AK,Ah AK,Ao]
  · rw[Aj AA,Ah AK,Bg AK AK]
  · rw[show σ.B+2=σ.B+1+1 from rfl,Ak]
  rintro m s σ' ⟨i,X,xs,rfl,hi,h0,h3,h4,h6,dz,dy,dx,hK,ap,cv,aj,ai,hX,hE⟩;have av:=hK.B;have cd:=hX.flat;by_cases ak:i<Z q.A
  · have ab:=AJ ak
    obtain⟨id,idt,r,hd⟩:=F5 hP ab;generalize q.A[i]=w at hd ab;have HX:AD (EL N7 (q.A.take (i+1)) (xs++[ic w.a.p,sl id (Z w.a.ts) (Ad w.a.ts),sl idt (Z w.A) (Fo w.A)])):=by
      rw[AD,AU,ab,BJ];exact EL.append hE.o (EL.single ⟨id,idt,rfl⟩)
    clear ab hE
    refine qm ?_;intro yd yb
    refine wU (lo:=σ.B+3) (σ0:=σ) (by first|exact Ge|exact En) (by rfl) (by rfl) (by rfl) AA AA (by simp only[Av,Ab,Aa];omega) AA (((hK.new _).put hK.B _).lay 1) (hX.keep ((((AE.refl _).new _).put (AR _) _).lay 1)) ?_;intro X' σn ci dd ax bw;simp only[Av,Ab,Aa]at dd;have eob:∀p,p<σ.B+3->σn.C p=σ'.C p:=fun p hp=>by rw[ax p hp,H6,Aj AA,Ah AA]
    obtain⟨og,cg,rfl,-⟩:=ci.gx AA;clear ax hX;refine Z3 ?_
    refine zz ?_
    refine⟨Z q.A-(i+1),AA,i+1,gx og (i+1) cg,xs++[ic w.a.p,sl id (Z w.a.ts) (Ad w.a.ts),sl idt (Z w.A) (Fo w.A)],?_⟩
    ((repeat' refine Zi ?_ ?_)<;>first|exact Xq|exact (bw.put AA _)|exact (ci.put AA _)|exact HX|exact Xs)
  · have hil:i=Z q.A:=AA
    subst hil;rw[AS]at hE;have dm:=hA.ok.pa;have ba:=hA.ok.pt;have dn:=hA.ok.p3;have b6:AD (EL N7 q.A xs/\EL O1 [] []/\FV neg q 0 q.A []):=⟨hE.o,rfl,FV.start neg q⟩;clear hE hi
    refine pz ?_
    refine Ae (fun m s σ'=>∃(k i4:Nat) (X:AV) (L:List Part) (Nn:List Dv) (xs nxs:List AV),m=Z q.B-k/\k<=Z q.B/\s 0=ptr om 0/\s 4=ptr (σ.B+1) 0/\s 6=ptr (σ.B+2) 0/\s 32=sl inn (Z q.B) nc/\s 33=ic (Z q.B)/\s 34=ic k/\AE σ σ'/\σ.B+2<σ'.B/\σ'.C (σ.B+1)=[ic 0,nilS,nilS,nilS]/\σ'.C (σ.B+2)=[ic q.h.p,sl ih (Z q.h.ts) (Ad q.h.ts),X,sl i4 (Z Nn) nxs]/\PS (σ.B+3) σ' X (Z L) xs/\Own σ σ' i4 (Z Nn)/\Z nxs=Z Nn*2/\Z Nn<=k/\Z L<=64/\AD (EL N7 L xs/\EL O1 Nn nxs/\FV neg q k L Nn)) (Z q.B)
      ⟨0,1,X,q.A,[],xs,[],AA,AA,AI,AI,AI,AI,AI,AG,hK,ap,aj,ai,hX,Own.nil _ _,by simp,by simp,hl,b6⟩ ?_
    clear h0 h3 h4 h6 dz dy dx hK ap cv aj ai hX cd av ak b6;rintro m s σ' ⟨k,i4,X,L,Nn,xs,nxs,rfl,hk,h0,h4,h6,dw,cq,cp,hK,ap,aj,ai,hX,hO,da,eb,hLl,hS⟩;have av:=hK.B;have cd:=hX.flat;by_cases ak:k<Z q.B
    · have ab:=AJ ak
      obtain⟨ida,r,hd⟩:=Kd cj ab;have ad:=AT ak;have bh:=dc _ ad;obtain⟨ka,x,a0,hx,bu⟩:=ds _ ad;generalize q.B[k]=a at hd ab ad bh a0 bu;have ck:∀p∈L,Z p.a.ts<=3/\Z p.A<=5000/\T3 p.A:=fun p hp=>by
        obtain⟨p0,g1,g2,g3⟩:=hS.o.2.2.sub p hp;exact⟨by rw[g2];exact dm p0 g1,BO g3.length_le (ba p0 g1),fun t ht=>dn p0 g1 t (g3.subset ht)⟩
      have HG:AD (q.B[k]?=some a/\a∈q.B/\a.p=(ka:Int)/\M[ka]?=some x/\∀t,neg a.p t↔t∈x.2):=⟨ab,ad,a0,hx,bu⟩;have ba:=fun (σ1:St) (hh:PS (σ.B+3) σ1 X (Z L) xs)=>sN (σ.B+3) (ic q.h.p) (sl ih (Z q.h.ts) (Ad q.h.ts)) (sl i4 (Z Nn) nxs) rfl L (fun p hp=>(ck p hp).1) hLl X xs hS.o.1 a ida bh σ1 hh;have a9:=fun (σ1:St)=>Pi a.p ida a.ts AA σ1;have cn:=fun (σ1:St) (hh:AE σ σ1)=>Jv om ot M d b a ida ka x bh a0 hx σ1 (HM.o.keep hh);have bd:=fun (p:Part) (idp idtp:Nat) (g1:Z p.a.ts<=3) (g2:Z p.A<=5000) (g3:T3 p.A) (σ1:St) (hh:AE σ σ1)=>gR om ot M d b p a idp idtp ida ka x g1 g2 g3 bh a0 hx σ1 (HM.o.keep hh);have ao:AD _:=bd;clear ab ad a0 hx bu bd
      repeat' first|refine Z1 ?_|refine Z8 fun yd yb=>?_|refine Z4 ?_;clear yb yd|refine Z2 ?_ ?_<;>intro h ae<;>try exact Xp|(refine Z5 ?_;refine Xi (ba _ (hX.keep (((AE.refl _).new _).put (AR _) _))) ?_;rintro _ _ ⟨(⟨i,p,rfl,hp,b8⟩|⟨rfl,d2⟩),ac⟩)|refine Z3 ?_|exact Zt|apply yb.o;clear yb yd
      · rename_i σ2
        have af:=ac.B;have aa:=ac.C;simp only[Ab,Aa]at af aa;have bm:=((hK.new _).put hK.B _).trans ac;have o10:=aa σ'.B AA;rw[Ak]at o10;have hi:i<Z L:=(BG.1 hp).1;obtain⟨b9,bq,c7⟩:=ck p (BD hp);have a8:=(hX.keep (((AE.refl _).new _).put (AR _) _)).keep ac;obtain⟨o,cap,rfl,d6,cc,cf,ea,b5⟩:=a8.gx AA;obtain⟨idp,idtp,rp,ce⟩:=F5 hS.o.1 hp;have b2:=EL.length E8 hS.o.1;have c9:(σ2.C o).drop (i*3)=ic p.a.p::sl idp (Z p.a.ts) (Ad p.a.ts)::sl idtp (Z p.A) (Fo p.A)::(rp++(σ2.C o).drop (Z L*3)):=by
          conv=>lhs;rw[<-KJ (Z L*3) (σ2.C o),b5]
          rw[List.drop_append_of_le_length (by rw[b2];omega),ce];rfl
        have o6:σ2.C (σ.B+2)=[ic q.h.p,sl ih (Z q.h.ts) (Ad q.h.ts),gx o (Z L) cap,sl i4 (Z Nn) nxs]:=by rw[aa _ AA,Aj AA,Ah AA,ai]
        have o4:σ2.C (σ.B+1)=[ic 0,nilS,nilS,nilS]:=by rw[aa _ AA,Aj AA,Ah AA,aj]
        have bi:Own σ σ2 i4 (Z Nn):=Own.keep (Own.put (Own.new hO _) _ _) ac;have co:=ao.o p idp idtp b9 bq c7;have au:AD (∀idn,EL N7 (L.set i (Qk x.2 a p)) (lsp xs (i*3) [ic p.a.p,sl idp (Z p.a.ts) (Ad p.a.ts),sl idn (Z (Qk x.2 a p).A) (Fo (Qk x.2 a p).A)])/\EL O1 Nn nxs/\FV neg q (k+1) (L.set i (Qk x.2 a p)) Nn):=fun idn=>⟨SG E8 hS.o.1 hi ⟨idp,idn,rfl⟩,hS.o.2.1,hS.o.2.2.bar HG.o.1 hp b9 b8 HG.o.2.2.2.2⟩;have d9:i*3+3<=cap*3:=AA;have c8:o≠σ.B+2:=AA;have br:o≠σ.B+1:=AA;clear b5 ce b2 ao hS aj ai hX ba a9 cn aa hK ap hO b8 hp h ae;generalize Qk x.2 a p=bp at*
        refine Az (Q:=fun e s' σ''=>e= .normal/\s' 0=ptr om 0/\s' 4=ptr (σ.B+1) 0/\s' 6=ptr (σ.B+2) 0/\s' 32=sl inn (Z q.B) nc/\s' 33=ic (Z q.B)/\s' 34=ic k/\AE σ σ''/\σ.B+2<σ''.B/\σ''.C (σ.B+1)=[ic 0,nilS,nilS,nilS]/\σ''.C (σ.B+2)=[ic q.h.p,sl ih (Z q.h.ts) (Ad q.h.ts),gx o (Z L) cap,sl i4 (Z Nn) nxs]/\Own σ σ'' i4 (Z Nn)/\∃idn,PS (σ.B+3) σ'' (gx o (Z L) cap) (Z L) (lsp xs (i*3) [ic p.a.p,sl idp (Z p.a.ts) (Ad p.a.ts),sl idn (Z bp.A) (Fo bp.A)])) ?_ ?_
        · refine Aq Ag (fun _=>True) [12] [0,1,2,3,4,5,6,7,8,9] 3 #[true,true,true,true,true,true,true,true,true,true,false,false,false] AH (fun _ _ _ h=>by cases h.1) ?_;intro yd yb;refine Z3 ?_;refine yb.o _ ?_;clear yb yd
          refine Ai (i:=10) AH ?_;refine Am ?_;intro yd yb;refine Z3 ?_;refine AF.mono (co _ bm) ?_;rintro _ σ5 ⟨⟨idn,rfl⟩,ah⟩;have knb:=ah.B;have bf:=ah.C;have dh:Z (σ5.C o)=cap*3:=by rw[bf o cc,cf]
          refine Z3 ?_;refine yb.o _ _ ⟨Al ah,?_⟩;clear yb yd;refine Ai (i:=11) AH ?_;refine Am ?_;intro yd yb;refine Z3 ?_;refine yb.o _ _ ⟨Al ah,?_⟩;clear yb yd;refine Ai (i:=12) AH ?_;refine Am ?_;intro yd yb;refine Z3 ?_;refine yb.o _ _ ⟨A5 rfl,?_⟩;clear yb yd;refine Ax AH ⟨rfl,AI,AI,AI,AI,AI,AI,(bm.trans ah).put AA _,by simp only[Ab];omega,by rw[Dl br.symm,bf _ AA,o4],by rw[Dl c8.symm,bf _ AA,o6],Own.put (Own.keep bi ah) _ _,idn,by rw[<-bf o cc];exact PS.set (c:=[ic p.a.p,sl idp (Z p.a.ts) (Ad p.a.ts),sl idn (Z bp.A) (Fo bp.A)]) (a8.keep ah) hi rfl⟩
        · rintro e s2 σ3 ⟨rfl,g0,g4,g6,g32,g33,g34,ec,d5,oc1,oc2,hOc,idn,dl⟩
          have ct:=au.o idn;have d1:AD _:=ct;clear h0 h4 h6 dw cq cp a8 bi o6 o4 c9 au ct co cf o10
          refine zz ?_
          refine⟨Z q.B-(k+1),AA,k+1,i4,gx o (Z L) cap,L.set i bp,Nn,lsp xs (i*3) [ic p.a.p,sl idp (Z p.a.ts) (Ad p.a.ts),sl idn (Z bp.A) (Fo bp.A)],nxs,?_⟩
          ((repeat' refine Zi ?_ ?_)<;>first|exact Xq|exact (by rw[LU];exact dl)|exact (by rw[LU];exact hLl)|exact d1|exact hOc|exact Xs)
      · rename_i σ2
        have af:=ac.B;have aa:=ac.C;simp only[Ab,Aa]at af aa;have bm:=((hK.new _).put hK.B _).trans ac;have o10:=aa σ'.B AA;rw[Ak]at o10;have o6:σ2.C (σ.B+2)=[ic q.h.p,sl ih (Z q.h.ts) (Ad q.h.ts),X,sl i4 (Z Nn) nxs]:=by rw[aa _ AA,Aj AA,Ah AA,ai]
        have o4:σ2.C (σ.B+1)=[ic 0,nilS,nilS,nilS]:=by rw[aa _ AA,Aj AA,Ah AA,aj]
        have bi:Own σ σ2 i4 (Z Nn):=Own.keep (Own.put (Own.new hO _) _ _) ac;have a8:=(hX.keep (((AE.refl _).new _).put (AR _) _)).keep ac;clear ao aj ai hX ba aa hK hO ac
        repeat' first|refine Z1 ?_|refine Z8 fun yd yb=>?_|refine Z4 ?_;clear yb yd|refine Z2 ?_ ?_<;>intro h ae<;>try exact Xp|refine Z6 ?_;intro idn σn dq bw b0 be d0 cr|(refine Z5 ?_;first|(refine Xi (a9 _) ?_;rintro _ _ ⟨rfl,ah⟩;(have cx:=ah.B;have am:=ah.C;have cm:=bm.trans ah;have o11:=am σ'.B AA;rw[o10]at o11;have o12:=am (σ.B+2) AA;rw[o6]at o12;have o13:=am (σ.B+1) AA;rw[o4]at o13;have dr:=Own.keep bi ah;have ch:=a8.keep ah))|(refine Xi (cn _ cm) ?_;rintro _ _ ⟨rfl,bc⟩;(have cw:=bc.B;have bn:=bc.C;have dv:=cm.trans bc)))|refine Z3 ?_|exact Zt|apply yb.o;clear yb yd
        · have au:AD (EL N7 L xs/\EL O1 (Nn++[a]) (nxs++[ic a.p,sl ida (Z a.ts) (Ad a.ts)])/\FV neg q (k+1) L (Nn++[a])):=⟨hS.o.1,EL.append hS.o.2.1 (EL.single ⟨ida,rfl⟩),hS.o.2.2.keepN HG.o.1 (by assumption)⟩
          have di:PS (σ.B+3) σn X (Z L) xs:=by
            have:=ch;unfold PS at this⊢;rw[b0,be];exact this
          refine⟨Z q.B-(k+1),AA,k+1,idn,X,L,Nn++[a],xs,nxs++[ic a.p,sl ida (Z a.ts) (Ad a.ts)],?_⟩
          ((repeat' refine Zi ?_ ?_)<;>first|exact Xq|exact (bw.put AA _)|exact (di.put AA _)|exact (by simpa using Own.put dq _ _)|exact au|exact Xs)
        · have bo:I5 a.ts=true:=by assumption
          exact⟨_,rfl,⟨_,.inl ⟨rfl,rfl,rfl,fun ν hν=>hν.2 a HG.o.2.1 ((HG.o.2.2.2.2 _).2 (by rw[Q4 bo];simpa using h))⟩⟩,dv.put AA _⟩
        · have bo:I5 a.ts=true:=by assumption
          have au:AD (EL N7 L xs/\EL O1 Nn nxs/\FV neg q (k+1) L Nn):=⟨hS.o.1,hS.o.2.1,hS.o.2.2.drop HG.o.1 (fun ν hn=>by
            have:=(HG.o.2.2.2.2 _).1 hn;rw[Q4 bo]at this
            simp[this]at h)⟩
          refine⟨Z q.B-(k+1),AA,k+1,i4,X,L,Nn,xs,nxs,?_⟩
          ((repeat' refine Zi ?_ ?_)<;>first|exact Xq|exact (ch.keep bc)|exact (Own.keep dr bc)|exact au|exact (by rw[bn _ AA];assumption)|exact Xs)
    · have de:k=Z q.B:=AA
      subst de;obtain⟨an,dk⟩:=hS.o.2.2.fin hA;have HU:AD (∀a∈Nn,a∈q.B/\I5 a.ts=false):=fun a ha=>⟨by have:=hS.o.2.2.nsub.subset ha;rwa[AS]at this,hS.o.2.2.uns a ha⟩;refine oI (lo:=σ.B+3) (p:=σ.B+2) (j:=2) hK AA AA AA AA hX ai rfl ?_;intro ip1 σf bz d4 obf ca;have obf2:σf.C (σ.B+2)=[ic q.h.p,sl ih (Z q.h.ts) (Ad q.h.ts),sl ip1 (Z L) xs,sl i4 (Z Nn) nxs]:=obf;have o1f:σf.C (σ.B+1)=[ic 0,nilS,nilS,nilS]:=by rw[ca _ AA AA,aj]
      have db:σ.B+2<σf.B:=AA;have bb:=fun σ=>zO ⟨q.h,L,Nn⟩ [ic q.h.p,sl ih (Z q.h.ts) (Ad q.h.ts),sl ip1 (Z L) xs,sl i4 (Z Nn) nxs] ⟨ih,ip1,i4,xs,nxs,rfl,hS.o.1,hS.o.2.1⟩ an.ok an.n σ;clear hX aj ai hK hS hO da hk ca obf ap ak av;have av:=bz.B
      refine qb ?_;intro yd yb;refine Xi (bb _) ?_;rintro _ _ ⟨⟨_,q1,qp,rfl,⟨ih1,ip1,in1,pc1,nc1,rfl,bv,du⟩,n1,n2,n3,n4⟩,ac⟩;(have N3:AD (q1=pJ qp (Co (atomsQ qp))):=n3;clear n3;have af:=ac.B;have aa:=ac.C;have bl:=bz.trans ac);refine pz ?_
      rename_i σ1;have o1:σ1.C (σ.B+1)=[ic 0,nilS,nilS,nilS]:=by rw[aa _ AA,o1f]
      have b3:WP q1:=n2.wp an.w;have bg:Qo q1:=n2.ok an.ok;have cb:QN q1:=n2.n an.n;have ay:q1.B=Nn:=n2.atoms.2.2;have b7:GO neg q q1:=dk.trans (n2.red an.w);have aw:oX q1:=gh n2 an.wf;have az:NQ q1:=by
        obtain⟨g1,g2⟩:=(lG (Co (atomsQ qp)) qp).2 (by rw[<-N3.o];exact n4);rw[N3.o,g1];exact YE g2
      have b1:AD (WP q1/\Qo q1/\QN q1/\q1.B=Nn/\GO neg q q1/\oX q1/\NQ q1):=⟨b3,bg,cb,ay,b7,aw,az⟩;clear b3 cb ay b7 aw az n1 n2 N3 n4 aa ac bb;have d8:=bg.pl;have cz:=bg.pt;clear bg;have c6:=EL.length E8 bv
      refine Ae (fun m s σ2=>∃j:Nat,m=Z q1.A-j/\j<=Z q1.A/\s 4=ptr (σ.B+1) 0/\s 6=ptr (σ.B+2) 0/\s 72=sl ip1 (Z q1.A) pc1/\s 73=ic (Z q1.A)/\s 74=ic j/\AE σ σ2/\σ.B+2<σ2.B/\σ2.C (σ.B+1)=[ic 0,nilS,nilS,nilS]/\σ2.C (σ.B+2)=[ic q1.h.p,sl ih1 (Z q1.h.ts) (Ad q1.h.ts),sl ip1 (Z q1.A) pc1,sl in1 (Z q1.B) nc1]/\AD (∀p∈q1.A.take j,p.A≠[])) (Z q1.A)
        ⟨0,AA,AA,AI,AI,AG,AG,rfl,bl.put AA _,by simp only[Ab];omega,by rw[Aj AA,o1],by rw[Ak],by simp[AD]⟩ ?_
      clear h4 h6 cq cp o1 bl af bz;rintro m s σ2 ⟨j,rfl,hj,h4,h6,ef,ee,ed,hK,ap,aj,ai,hJ⟩;have av:=hK.B;by_cases ak:j<Z q1.A
      · have ab:=AJ ak
        obtain⟨id,idt,r,hd⟩:=F5 bv ab;have ad:=AT ak;have cy:=cz _ ad;generalize q1.A[j]=w at hd ab ad cy;by_cases he:w.A=[]
        · have b4:Z w.A=0:=by rw[he];rfl
          have HF:AD (∀ν,¬Mn neg q ν):=fun ν hν=>by
            have h1:=(b1.o.2.2.2.2.1.to ν hν).1 w ad;rw[he]at h1;cases h1
          have hb:((Z w.A:Int)==0)=true:=by rw[b4];rfl
          clear ab b4 he hJ
          refine pz ?_
          exact⟨_,rfl,⟨_,.inl ⟨rfl,rfl,rfl,HF.o⟩⟩,((hK.new _).put hK.B _).put AA _⟩
        · have hb:((Z w.A:Int)==0)=false:=by
            have:Z w.A≠0:=fun h=>he (GQ h);simp;exact he
          have HJ:AD (∀p∈q1.A.take (j+1),p.A≠[]):=by
            rw[AD,AU,ab,BJ];intro p hp;rcases AW.1 hp with h|h
            · exact hJ.o p h
            · simp at h;subst h;exact he
          clear ab he hJ
          refine pz ?_
          refine⟨Z q1.A-(j+1),AA,j+1,?_⟩
          exact qh HJ
      · have df:j=Z q1.A:=AA
        subst df;rw[AS]at hJ;obtain⟨a1,a2,a3,a4,a5,a6,a7⟩:=b1.o;have dj:=fun σ=>sL q1 _ ⟨ih1,ip1,in1,pc1,nc1,rfl,bv,du⟩ a2 σ;have cu:AD (NE q1):=hJ.o;clear a1 a2 a3 a4 a5 a6 a7 hJ
        refine qb ?_;intro yd yb;refine Xi (dj _) ?_;rintro _ _ ⟨⟨_,q2,rfl,⟨ih2,ip2,in2,pc2,nc2,rfl,dp,dt⟩,c5,hR2⟩,ac⟩;(have af:=ac.B;have aa:=ac.C;have bl:=hK.trans ac);refine pz ?_
        obtain⟨a1,a2,a3,a4,a5,a6,a7⟩:=b1.o;obtain⟨t1,t2,t3⟩:=hR2.red (neg:=neg) a1 cu.o a7;obtain⟨-,u2,u3⟩:=hR2.ok a2;exact⟨_,rfl,⟨_,.inr ⟨q2,rfl,⟨ih2,ip2,in2,pc2,nc2,rfl,dp,dt⟩,⟨c5,fun p hp=>a3 p (u3 p hp),fun p hp=>a1 p (u3 p hp),t3 a6⟩,fun p hp=>cu.o p (u3 p hp),a5.trans t1,fun a ha=>HU.o a (by rw[<-a4,<-u2];exact ha)⟩⟩,bl.put AA _⟩
end Go.Proofs.YtmoeoppbmhfbpabGreatDoorI
