import Derived.Test.YtmoeoppbmhfbpabGreatDoorIRefA
import Derived.Test.YtmoeoppbmhfbpabGreatDoorIRefH
set_option maxHeartbeats 16000000
set_option maxRecDepth 100000
set_option linter.all false
open List renaming length->Z
namespace Go.Proofs.YtmoeoppbmhfbpabGreatDoorI
open Go.Abs
abbrev Tx:=List UInt8
inductive Rd (α:Type) where
 |bad (e:Tx)
 |got (x:α) (r:Tx)
def Rd.bnd {α β:Type}:Rd α->(α->Tx->Rd β)->Rd β
 |.bad e,_=>.bad e
 |.got x r,f=>f x r
def A8 (c:Int):Bool:=decide (48<=c)&&decide (c<=57)
def A4 (c:Int):Tx->Rd Unit
 |[]=>.bad []
 |b::r=>if ((b.toNat:Int)==c)=true then .got () r else .bad (b::r)
def Aw (p:Int->Bool):Nat->Tx->Tx×Tx
 |0,s=>([],s)
 |_+1,[]=>([],[])
 |n+1,b::r=>if p b.toNat=true then (b::(Aw p n r).1,(Aw p n r).2)else ([],b::r)
def Ff (s:Tx):Rd Tx:=if (Aw B6 6 s).1=[]then .bad s else .got (Aw B6 6 s).1 (Aw B6 6 s).2
def Cu:Tx->Rd Tx
 |[]=>.bad []
 |b::r=>if Bw b.toNat=true then .got [b] r else if ((b.toNat:Int)==48)=true then .got [b] r
  else if G3 b.toNat=true then .got (b::(Aw A8 2 r).1) (Aw A8 2 r).2 else .bad (b::r)
def Ef {α:Type}(f:Tx->Rd α):Nat->Tx->Rd (List α)
 |0,s=>.got [] s
 |_+1,[]=>.got [] []
 |n+1,b::r=>if ((b.toNat:Int)==44)=true then
  (f r).bnd fun x r1=>(Ef f n r1).bnd fun xs r2=>.got (x::xs) r2
  else .got [] (b::r)
def X4 (nt:Bool)(p:Tx)(s:Tx):Rd AC:=
 (Cu s).bnd fun t r=>(Ef Cu 2 r).bnd fun ts r=>(A4 41 r).bnd fun _ r=>.got {nt:=nt,B:=p,A:=t::ts} r
def Du (nt:Bool)(s:Tx):Rd AC:=
 (Ff s).bnd fun p r=>(A4 40 r).bnd fun _ r=>X4 nt p r
def Kx:Tx->Rd AC
 |[]=>.bad []
 |b::r=>if ((b.toNat:Int)==33)=true then Du true r else Du false (b::r)
def T0 (h:AC)(s:Tx):Rd AB:=
 (Kx s).bnd fun l r=>(Ef Kx 4 r).bnd fun ls r=>(A4 46 r).bnd fun _ r=>.got {o:=false,h:=h,A:=l::ls} r
def Pf (h:AC):Tx->Rd AB
 |[]=>.bad []
 |b::r=>if ((b.toNat:Int)==46)=true then .got {o:=false,h:=h,A:=[]} r else
  (A4 58 (b::r)).bnd fun _ r=>(A4 45 r).bnd fun _ r=>T0 h r
def Pg (s:Tx):Rd AB:=(Du false s).bnd fun h r=>Pf h r
def fT (s:Tx):Rd AB:=
 (Ff s).bnd fun p r=>(A4 46 r).bnd fun _ r=>.got {o:=true,h:={nt:=false,B:=p,A:=[]},A:=[]} r
def Gb:Tx->Rd AB
 |[]=>.bad []
 |b::r=>if ((b.toNat:Int)==63)=true then fT r else Pg (b::r)
def Bv:Nat->Tx->Rd (List AB)
 |_,[]=>.got [] []
 |0,s=>.bad s
 |n+1,s=>(Gb s).bnd fun x r=>(Bv n r).bnd fun xs r=>.got (x::xs) r
def stop:BC->Tx->Option Tx
 |X,[]=>if X.st !=0 then some []else none
 |X,c::r=>if (A9 X c).2=true then stop (A9 X c).1 r else some (c::r)
theorem xR:∀(s:Tx) (X:BC) (i:Nat),
  (match (M6 X s i).2 with|some j=>(j:Int)|none=>if (M6 X s i).1.st !=0 then ((i+Z s:Nat):Int)else -1)=match stop X s with|some r=>((i+Z s-Z r:Nat):Int)|none=> -1:=by
 intro s;induction s with
 |nil=>intro X i;simp only[M6,stop];split<;>simp_all
 |cons c r ih=>
  intro X i;unfold M6 stop;by_cases h:(A9 X c).2=true
  ·simp only[h,if_true];have:=ih (A9 X c).1 (i+1);rw[show i+Z (c::r)=i+1+Z r by simp;omega];exact this
  ·simp only[h];simp
theorem lY (s):Fc s=match stop J6 s with|some r=>((Z s-Z r:Nat):Int)|none=> -1:=by
 have:=xR s J6 0;unfold Fc;rw[EJ]at this;rw[<-this];rfl
def BY {α:Type}(P:BC->Prop)(res:Rd α)(o:Option Tx):Prop:=
 match res with
 |.bad e=>o=some e
 |.got _ r=>∃X',P X'/\o=stop X' r
theorem BY.bind {α β:Type}{P Q res o}{f:α->Tx->Rd β}(h:BY P res o)(k:∀x r X',P X'->BY Q (f x r) (stop X' r)):BY Q (res.bnd f) o:=by
 cases res with
 |bad e=>exact h
 |got x r=>
  obtain⟨X',hP,rfl⟩:=h;exact k x r X' hP
theorem BY.ret {α:Type}{P}{x:α}{r X}(h:P X):BY P (.got x r) (stop X r):=⟨X,h,rfl⟩
theorem BY.err {α:Type}{P e o}(h:o=some e):BY (α:=α) P (.bad e) o:=h
theorem Dg {X c r}(h:(A9 X c).2=true):stop X (c::r)=stop (A9 X c).1 r:=by
 rw[stop,if_pos h]
theorem Gs {X c r}(h:(A9 X c).2=false):stop X (c::r)=some (c::r):=by
 rw[stop,if_neg (by simp[h])]
theorem Dp {X}(h:X.st≠0):stop X []=some []:=by
 rw[stop,if_pos (by simpa using h)]
def PZ (X X':BC):Prop:=X'.items=X.items/\X'.lits=X.lits/\X'.h=X.h
theorem VH:∀(n:Nat) (s:Tx) (X:BC),X.st=5->X.letters=6-(n:Int)->n<=6->
  BY (fun X'=>X'.st=6/\X'.A=0/\PZ X X') (A4 40 (Aw B6 n s).2) (stop X s):=by
 intro n;induction n with
 |zero=>
  intro s X h5 hl hn;cases s with
  |nil=>exact BY.err (Dp AA)
  |cons b r=>
   unfold Aw A4;simp only;by_cases hb:((b.toNat:Int)==40)=true
   ·rw[if_pos hb];have e:A9 X b=({X with A:=0,st:=6},true):=by
     simp[A9,Ec,h5,hl,hb]
    rw[Dg (by rw[e]),e];exact BY.ret ⟨rfl,rfl,rfl,rfl,rfl⟩
   ·rw[if_neg hb];refine BY.err (Gs ?_);simp[A9,Ec,h5,hl,hb]
 |succ n ih=>
  intro s X h5 hl hn;cases s with
  |nil=>exact BY.err (Dp AA)
  |cons b r=>
   unfold Aw;by_cases hs:B6 b.toNat=true
   ·rw[if_pos hs];have e:A9 X b=({X with letters:=X.letters+1},true):=by
     simp[A9,Ec,h5,hs];omega
    rw[Dg (by rw[e]),e];exact ih r {X with letters:=X.letters+1} h5 (by simp;omega) AA
   ·rw[if_neg hs];unfold A4;simp only;by_cases hb:((b.toNat:Int)==40)=true
    ·rw[if_pos hb];have e:A9 X b=({X with A:=0,st:=6},true):=by
      simp[A9,Ec,h5,hs,hb]
     rw[Dg (by rw[e]),e];exact BY.ret ⟨rfl,rfl,rfl,rfl,rfl⟩
    ·rw[if_neg hb];refine BY.err (Gs ?_);simp[A9,Ec,h5,hs,hb]
theorem G6 {α β γ:Type}(a:Rd α)(f)(g:β->Tx->Rd γ):(a.bnd f).bnd g=a.bnd fun x r=>(f x r).bnd g:=by cases a<;>rfl
theorem CE {c}:A8 c=true↔(G3 c=true\/(c==48)=true):=by
 simp[A8,G3];omega
theorem Nl {c}(h:Bw c=true):G3 c=false:=by
 simp[Bw,G3]at*;omega
theorem Mz {X s}(h7:X.st=7)(h:∀b r,s=b::r->A8 b.toNat=true->¬X.digits<3):stop X s=stop {X with st:=8} s:=by
 cases s with
 |nil=>rw[Dp AA,Dp (by simp)]
 |cons b r=>
  have hd:=h b r rfl;have hq:¬((X.st==7)=true/\decide (X.digits<3)=true/\(G3 b.toNat=true\/((b.toNat:Int)==48)=true)):=by
   rintro⟨-,q1,q2⟩;exact hd (CE.2 q2) (by simpa using q1)
  have e1:A9 X b=if ((b.toNat:Int)==41)=true then ({X with lits:=if (!X.h)=true then X.lits+1 else X.lits,st:=9},true)else if ((b.toNat:Int)==44)=true/\decide (X.A<3)=true then ({X with st:=6},true)else (X,false):=by
   unfold A9 Ec;rw[if_pos (by simp[h7]),if_neg (by simp[h7]),if_neg (by simp[h7]),if_neg hq]
  have e2:A9 {X with st:=8} b=if ((b.toNat:Int)==41)=true then ({X with lits:=if (!X.h)=true then X.lits+1 else X.lits,st:=9},true)else if ((b.toNat:Int)==44)=true/\decide (X.A<3)=true then ({X with st:=6},true)else ({X with st:=8},false):=by
   unfold A9 Ec;rw[if_pos (by simp),if_neg (by simp),if_neg (by simp),if_neg (by simp)]
  unfold stop;rw[e1,e2];by_cases h1:((b.toNat:Int)==41)=true
  ·rw[if_pos h1,if_pos h1]
  ·rw[if_neg h1,if_neg h1];by_cases h2:((b.toNat:Int)==44)=true/\decide (X.A<3)=true
   ·rw[if_pos h2,if_pos h2]
   ·rw[if_neg h2,if_neg h2];rfl
theorem pT:∀(n:Nat) (s:Tx) (X:BC),X.st=7->X.digits=3-(n:Int)->∃X',X'.st=8/\X'.A=X.A/\PZ X X'/\stop X s=stop X' (Aw A8 n s).2:=by
 intro n;induction n with
 |zero=>
  intro s X h7 hd;exact⟨{X with st:=8},rfl,rfl,⟨rfl,rfl,rfl⟩,Mz h7 (fun _ _ _ _=>AA)⟩
 |succ n ih=>
  intro s X h7 hd;cases s with
  |nil=>exact⟨{X with st:=8},rfl,rfl,⟨rfl,rfl,rfl⟩,Mz h7 (fun _ _ h _=>by cases h)⟩
  |cons b r=>
   unfold Aw;by_cases hb:A8 b.toNat=true
   ·rw[if_pos hb];have e:A9 X b=({X with digits:=X.digits+1},true):=by
     have:=CE.1 hb;unfold A9 Ec;rw[if_pos (by simp[h7]),if_neg (by simp[h7]),if_neg (by simp[h7]),if_pos ⟨by simp[h7],by simp;omega,this⟩]
    rw[Dg (by rw[e]),e];obtain⟨X',h1,h2,h3,h4⟩:=ih r {X with digits:=X.digits+1} h7 (by simp;omega);exact⟨X',h1,h2,h3,h4⟩
   ·rw[if_neg hb];exact⟨{X with st:=8},rfl,rfl,⟨rfl,rfl,rfl⟩,Mz h7 (fun c q h hc=>by cases h;exact absurd hc hb)⟩
theorem iW (s X)(h6:X.st=6):BY (fun X'=>X'.st=8/\X'.A=X.A+1/\PZ X X') (Cu s) (stop X s):=by
 cases s with
 |nil=>exact BY.err (Dp AA)
 |cons b r=>
  unfold Cu;by_cases hl:Bw b.toNat=true
  ·simp only[hl,if_true];have e:A9 X b=({X with A:=X.A+1,digits:=1,st:=8},true):=by
    simp[A9,Ec,h6,hl,Nl hl]
   rw[Dg (by rw[e]),e];exact BY.ret ⟨rfl,rfl,rfl,rfl,rfl⟩
  ·simp only[hl];by_cases hz:((b.toNat:Int)==48)=true
   ·have hn:G3 b.toNat=false:=by simp[G3]at*;omega
    simp only[hz,if_true];have e:A9 X b=({X with A:=X.A+1,digits:=1,st:=8},true):=by
     simp[A9,Ec,h6,hl,hz,hn]
    rw[Dg (by rw[e]),e];exact BY.ret ⟨rfl,rfl,rfl,rfl,rfl⟩
   ·simp only[hz];by_cases hn:G3 b.toNat=true
    ·simp only[hn,if_true];have e:A9 X b=({X with A:=X.A+1,digits:=1,st:=7},true):=by
      simp[A9,Ec,h6,hn]
     rw[Dg (by rw[e]),e];obtain⟨X',h1,h2,h3,h4⟩:=pT 2 r {X with A:=X.A+1,digits:=1,st:=7} rfl (by simp);exact⟨X',⟨h1,h2,h3⟩,h4⟩
    ·simp only[hn];refine BY.err (Gs ?_);simp[A9,Ec,h6,hl,hz,hn]
def PU (it li:Int)(hd:Bool)(X:BC):Prop:=X.st=9/\X.items=it/\X.h=hd/\X.lits=if hd=true then li else li+1
theorem aM {β:Type}(s X)(k:β)(h8:X.st=8)(h:∀b r,s=b::r->((b.toNat:Int)==44)=true->¬X.A<3):
  BY (PU X.items X.lits X.h) ((A4 41 s).bnd fun _ r=>.got k r) (stop X s):=by
 cases s with
 |nil=>exact BY.err (Dp AA)
 |cons b r=>
  unfold A4;have hh:=h b r rfl;by_cases hb:((b.toNat:Int)==41)=true
  ·simp only[hb,if_true];have e:A9 X b=({X with lits:=if (!X.h)=true then X.lits+1 else X.lits,st:=9},true):=by
    simp[A9,Ec,h8,hb]
   rw[Dg (by rw[e]),e];refine BY.ret ⟨rfl,rfl,rfl,?_⟩;cases X.h<;>simp
  ·simp only[hb];refine BY.err (Gs ?_);simp[A9,Ec,h8,hb];rw[if_neg];rintro⟨h1,h2⟩;have:=hh (by simpa using h1);omega
theorem m6 {β:Type}:∀(n:Nat) (s:Tx) (X:BC) (k:List Tx->β),X.st=8->X.A=3-(n:Int)->
  BY (PU X.items X.lits X.h) ((Ef Cu n s).bnd fun ts r=>(A4 41 r).bnd fun _ r=>.got (k ts) r) (stop X s):=by
 intro n;induction n with
 |zero=>
  intro s X k h8 ht;exact aM s X (k []) h8 (fun _ _ _ _=>AA)
 |succ n ih=>
  intro s X k h8 ht;cases s with
  |nil=>exact BY.err (Dp AA)
  |cons b r=>
   unfold Ef;by_cases hb:((b.toNat:Int)==44)=true
   ·simp only[hb,if_true];have e:A9 X b=({X with st:=6},true):=by
     have:¬((b.toNat:Int)==41)=true:=by simp at*;omega
     simp[A9,Ec,h8,hb,this];omega
    rw[Dg (by rw[e]),e,G6];refine BY.bind (iW r {X with st:=6} rfl) ?_;rintro x r1 X' ⟨h1,h2,h3,h4,h5⟩;rw[G6];have:=ih r1 X' (fun ts=>k (x::ts)) h1 (by simp at h2;omega);rw[h3,h4,h5]at this;exact this
   ·simp only[hb];exact aM (b::r) X (k []) h8 (fun c q h hc=>by cases h;exact absurd hc hb)
theorem Vb (nt b r X it li hd)(hs:B6 b.toNat=true->∃X1,A9 X b=(X1,true)/\X1.st=5/\X1.letters=1/\X1.items=it/\X1.lits=li/\X1.h=hd)
  (hn:B6 b.toNat=false->(A9 X b).2=false):BY (PU it li hd) (Du nt (b::r)) (stop X (b::r)):=by
 unfold Du Ff;by_cases hb:B6 b.toNat=true
 ·obtain⟨X1,e,h1,h2,h3,h4,h5⟩:=hs hb;rw[Dg (by rw[e]),e];have e6:Aw B6 6 (b::r)=(b::(Aw B6 5 r).1,(Aw B6 5 r).2):=by rw[Aw,if_pos hb]
  rw[e6];simp only[reduceCtorEq,if_false,Rd.bnd];refine BY.bind (VH 5 r X1 h1 AA AA) ?_;rintro _ r1 X' ⟨g1,g2,g3,g4,g5⟩;unfold X4;refine BY.bind (iW r1 X' g1) ?_;rintro t r2 X2 ⟨q1,q2,q3,q4,q5⟩;have:=m6 2 r2 X2 (fun ts=>({nt:=nt,B:=b::(Aw B6 5 r).1,A:=t::ts}:AC)) q1 AA;rw[q3,g3,h3,q4,g4,h4,q5,g5,h5]at this;exact this
 ·have aa:B6 b.toNat=false:=by simpa using hb
  have e6:Aw B6 6 (b::r)=([],b::r):=by rw[Aw,if_neg hb]
  rw[e6];simp only[if_true,Rd.bnd];exact BY.err (Gs (hn aa))
theorem tX (s X)(h3:X.st=3):BY (PU X.items X.lits X.h) (Kx s) (stop X s):=by
 cases s with
 |nil=>exact BY.err (Dp AA)
 |cons b r=>
  unfold Kx;by_cases hb:((b.toNat:Int)==33)=true
  ·simp only[hb,if_true];have e:A9 X b=({X with letters:=1,st:=4},true):=by simp[A9,Cy,h3,hb]
   rw[Dg (by rw[e]),e];cases r with
   |nil=>
    refine BY.err (Dp (by simp))
   |cons c q=>
    refine Vb true c q _ _ _ _ (fun hs=>⟨{X with letters:=1,st:=5},?_,rfl,rfl,rfl,rfl,rfl⟩) (fun hs=>?_)
    ·simp[A9,Cy,hs]
    ·simp[A9,Cy,hs]
  ·simp only[hb];refine Vb false b r _ _ _ _ (fun hs=>⟨{X with letters:=1,st:=5},?_,rfl,rfl,rfl,rfl,rfl⟩) (fun hs=>?_)
   ·simp[A9,Cy,h3,hb,hs]
   ·simp[A9,Cy,h3,hb,hs]
def Next (it:Int)(X:BC):Prop:=X.st=0/\X.items=it+1
theorem tY {β:Type}(s X)(k:β)(h9:X.st=9)(hh:X.h=false)(h:∀b r,s=b::r->((b.toNat:Int)==44)=true->¬X.lits<5):
  BY (Next X.items) ((A4 46 s).bnd fun _ r=>.got k r) (stop X s):=by
 cases s with
 |nil=>exact BY.err (Dp AA)
 |cons b r=>
  unfold A4;have hq:=h b r rfl;by_cases hb:((b.toNat:Int)==46)=true
  ·simp only[hb,if_true];have e:A9 X b=({X with items:=X.items+1,st:=0},true):=by simp[A9,Cy,h9,hb]
   rw[Dg (by rw[e]),e];exact BY.ret ⟨rfl,rfl⟩
  ·simp only[hb];refine BY.err (Gs ?_);simp[A9,Cy,h9,hb,hh];rw[if_neg];rintro⟨h1,h2⟩;have:=hq (by simpa using h1);omega
theorem YR {β:Type}:∀(n:Nat) (s:Tx) (X:BC) (k:List AC->β),X.st=9->X.h=false->X.lits=5-(n:Int)->
  BY (Next X.items) ((Ef Kx n s).bnd fun ts r=>(A4 46 r).bnd fun _ r=>.got (k ts) r) (stop X s):=by
 intro n;induction n with
 |zero=>
  intro s X k h9 hh ht;exact tY s X (k []) h9 hh (fun _ _ _ _=>AA)
 |succ n ih=>
  intro s X k h9 hh ht;cases s with
  |nil=>exact BY.err (Dp AA)
  |cons b r=>
   unfold Ef;by_cases hb:((b.toNat:Int)==44)=true
   ·simp only[hb,if_true];have e:A9 X b=({X with st:=3},true):=by
     have h1:¬((b.toNat:Int)==46)=true:=by simp at*;omega
     simp[A9,Cy,h9,hb,h1,hh];omega
    rw[Dg (by rw[e]),e,G6];refine BY.bind (tX r {X with st:=3} rfl) ?_;rintro x r1 X' ⟨h1,h2,h3,h4⟩;rw[G6];have:=ih r1 X' (fun ts=>k (x::ts)) h1 (by rw[h3];exact hh) (by simp[hh]at h4;omega);rw[h2]at this;exact this
   ·simp only[hb];exact tY (b::r) X (k []) h9 hh (fun c q h hc=>by cases h;exact absurd hc hb)
theorem ji (h s X)(h3:X.st=3)(hh:X.h=false)(hl:X.lits=0):BY (Next X.items) (T0 h s) (stop X s):=by
 unfold T0;refine BY.bind (tX s X h3) ?_;rintro x r X' ⟨h1,h2,h4,h5⟩;have:=YR 4 r X' (fun ls=>({o:=false,h:=h,A:=x::ls}:AB)) h1 (by rw[h4];exact hh) (by simp[hh,hl]at h5;omega);rw[h2]at this;exact this
theorem j7 (h s X)(h9:X.st=9)(hh:X.h=true)(hl:X.lits=0):BY (Next X.items) (Pf h s) (stop X s):=by
 cases s with
 |nil=>exact BY.err (Dp AA)
 |cons b r=>
  unfold Pf;by_cases hb:((b.toNat:Int)==46)=true
  ·simp only[hb,if_true];have e:A9 X b=({X with items:=X.items+1,st:=0},true):=by simp[A9,Cy,h9,hb]
   rw[Dg (by rw[e]),e];exact BY.ret ⟨rfl,rfl⟩
  ·simp only[hb];unfold A4;by_cases hc:((b.toNat:Int)==58)=true
   ·simp only[hc,if_true];have e:A9 X b=({X with st:=10},true):=by simp[A9,Cy,h9,hb,hc,hh]
    rw[Dg (by rw[e]),e];cases r with
    |nil=>exact BY.err (Dp (by simp))
    |cons c q=>
     by_cases hd:((c.toNat:Int)==45)=true
     ·simp only[hd,if_true,Rd.bnd];have e:A9 {X with st:=10} c=({X with h:=false,st:=3},true):=by simp[A9,Cy,hd]
      simp only[ER,if_false];rw[Dg (by rw[e]),e];exact ji h q {X with h:=false,st:=3} rfl rfl hl
     ·simp only[hd,Rd.bnd];refine BY.err (Gs ?_);simp[A9,Cy,hd]
   ·simp only[hc];refine BY.err (Gs ?_);simp[A9,Cy,h9,hb,hc,hh]
theorem xD:∀(n:Nat) (s:Tx) (X:BC) (k:Tx->AB),X.st=2->X.letters=6-(n:Int)->
  BY (Next X.items) ((A4 46 (Aw B6 n s).2).bnd fun _ r=>.got (k (Aw B6 n s).1) r) (stop X s):=by
 intro n;induction n with
 |zero=>
  intro s X k h2 hl;cases s with
  |nil=>exact BY.err (Dp AA)
  |cons b r=>
   unfold Aw A4;by_cases hb:((b.toNat:Int)==46)=true
   ·simp only[hb,if_true];have e:A9 X b=({X with items:=X.items+1,st:=0},true):=by simp[A9,Cy,h2,hl,hb]
    rw[Dg (by rw[e]),e];exact BY.ret ⟨rfl,rfl⟩
   ·simp only[hb];refine BY.err (Gs ?_);simp[A9,Cy,h2,hl,hb]
 |succ n ih=>
  intro s X k h2 hl;cases s with
  |nil=>exact BY.err (Dp AA)
  |cons b r=>
   unfold Aw;by_cases hs:B6 b.toNat=true
   ·simp only[hs,if_true];have e:A9 X b=({X with letters:=X.letters+1,st:=2},true):=by
     simp[A9,Cy,h2,hs];omega
    rw[Dg (by rw[e]),e];exact ih r {X with letters:=X.letters+1,st:=2} (fun x=>k (b::x)) rfl (by simp;omega)
   ·simp only[hs];unfold A4;by_cases hb:((b.toNat:Int)==46)=true
    ·simp only[ER,if_false,hb,if_true];have e:A9 X b=({X with items:=X.items+1,st:=0},true):=by simp[A9,Cy,h2,hs,hb]
     rw[Dg (by rw[e]),e];exact BY.ret ⟨rfl,rfl⟩
    ·simp only[ER,if_false,hb];refine BY.err (Gs ?_);simp[A9,Cy,h2,hs,hb]
theorem my (b r X)(h0:X.st=0)(hi:X.items≠16):BY (Next X.items) (Gb (b::r)) (stop X (b::r)):=by
 unfold Gb;by_cases hb:((b.toNat:Int)==63)=true
 ·simp only[hb,if_true];have e:A9 X b=({X with h:=true,letters:=0,lits:=0,st:=1},true):=by simp[A9,Cy,h0,hi,hb]
  rw[Dg (by rw[e]),e];unfold fT Ff;cases r with
  |nil=>exact BY.err (Dp (by simp))
  |cons c q=>
   by_cases hs:B6 c.toNat=true
   ·have e6:Aw B6 6 (c::q)=(c::(Aw B6 5 q).1,(Aw B6 5 q).2):=by rw[Aw,if_pos hs]
    rw[e6];simp only[reduceCtorEq,if_false,Rd.bnd];have e:A9 {X with h:=true,letters:=0,lits:=0,st:=1} c=({X with h:=true,letters:=1,lits:=0,st:=2},true):=by simp[A9,Cy,hs]
    rw[Dg (by rw[e]),e];exact xD 5 q {X with h:=true,letters:=1,lits:=0,st:=2} (fun x=>{o:=true,h:={nt:=false,B:=c::x,A:=[]},A:=[]}) rfl (by simp)
   ·have e6:Aw B6 6 (c::q)=([],c::q):=by rw[Aw,if_neg hs]
    rw[e6];simp only[if_true,Rd.bnd];refine BY.err (Gs ?_);simp[A9,Cy,hs]
 ·simp only[hb];unfold Pg;refine BY.bind (Vb false b r X X.items 0 true (fun hs=>⟨{X with h:=true,letters:=1,lits:=0,st:=5},?_,rfl,rfl,rfl,rfl,rfl⟩) (fun hs=>?_)) ?_
  ·simp[A9,Cy,h0,hi,hb,hs]
  ·simp[A9,Cy,h0,hi,hb,hs]
  ·rintro x r X' ⟨h1,h2,h3,h4⟩;have:=j7 x r X' h1 h3 (by simpa using h4);rw[h2]at this;exact this
theorem xE:∀(n:Nat) (s:Tx) (X:BC),X.st=0->X.items=16-(n:Int)->stop X s=match Bv n s with|.bad e=>some e|.got _ _=>none:=by
 intro n;induction n with
 |zero=>
  intro s X h0 hi;cases s with
  |nil=>simp[stop,Bv,h0]
  |cons b r=>
   simp only[Bv];refine Gs ?_;simp[A9,Cy,h0,hi]
 |succ n ih=>
  intro s X h0 hi;cases s with
  |nil=>simp[stop,Bv,h0]
  |cons b r=>
   have hv:=my b r X h0 AA;unfold Bv;cases hp:Gb (b::r)with
   |bad e=>rw[hp]at hv;exact hv
   |got x q=>
    rw[hp]at hv;obtain⟨X',⟨h1,h2⟩,h3⟩:=hv;rw[h3,ih q X' h1 AA];simp only[Rd.bnd];cases Bv n q<;>rfl
theorem F1 (s):Fc s=match Bv 16 s with|.bad e=>((Z s-Z e:Nat):Int)|.got _ _=> -1:=by
 rw[lY,xE 16 s J6 rfl rfl];cases Bv 16 s<;>rfl
theorem L3 {b:UInt8}(c)(h:((b.toNat:Int)==(c.toNat:Int))=true):b=c:=by
 have:b.toNat=c.toNat:=by simp at h;omega
 exact KF.1 this
def Lc (p:Tx):Prop:=p≠[]/\∀b∈p,B6 b.toNat=true
def Pm (t:Tx):Prop:=t≠[]/\∀b∈t,Bw b.toNat=true\/A8 b.toNat=true
def D3 (a:AC):Prop:=Lc a.B/\a.A≠[]/\Z a.A<=3/\∀t∈a.A,Pm t
def De (x:AB):Prop:=Lc x.h.B/\(x.o=true->x.h.nt=false/\x.h.A=[]/\x.A=[])/\(x.o=false->D3 x.h/\x.h.nt=false/\Z x.A<=5/\∀a∈x.A,D3 a)
def Cg (ts:List Tx):Tx:=ts.flatMap fun t=>44::t
def Bu:List Tx->Tx
 |[]=>[]
 |t::ts=>t++Cg ts
def A3 (a:AC):Tx:=a.B++40::(Bu a.A++[41])
def Cp (a:AC):Tx:=(if a.nt=true then [33]else [])++A3 a
def D6 (x:AB):Tx:=A3 x.h++(if x.A=[]then []else 58::45::Bu (x.A.map Cp))
def Ce (x:AB):Tx:=if x.o=true then 63::x.h.B else D6 x
theorem A6 {α β:Type}{a:Rd α}{f}{y:β}{r}(h:a.bnd f= .got y r):∃x q,a= .got x q/\f x q= .got y r:=by
 cases a with
 |bad e=>cases h
 |got x q=>exact⟨x,q,rfl,h⟩
theorem Je {c s r x}(h:A4 c.toNat s= .got x r):s=c::r:=by
 cases s with
 |nil=>cases h
 |cons b q=>
  unfold A4 at h;dsimp only at h;split at h
  ·rename_i hb;cases h;rw[L3 c hb]
  ·cases h
theorem Ew (p):∀(n:Nat) (s:Tx),s=(Aw p n s).1++(Aw p n s).2/\(∀b∈(Aw p n s).1,p b.toNat=true)
 |0,s=>by simp[Aw]
 |n+1,[]=>by simp[Aw]
 |n+1,b::r=>by
  unfold Aw;split
  ·rename_i h;obtain⟨h1,h2⟩:=Ew p n r;refine⟨by simp;exact h1,?_⟩;intro c hc;rcases BB.1 hc with rfl|hc
   ·exact h
   ·exact h2 c hc
  ·simp
theorem P2 {s r p}(h:Ff s= .got p r):s=p++r/\Lc p:=by
 unfold Ff at h;split at h
 ·cases h
 ·rename_i aa;cases h;exact⟨(Ew B6 6 s).1,aa,(Ew B6 6 s).2⟩
theorem W7 {s r t}(h:Cu s= .got t r):s=t++r/\Pm t:=by
 cases s with
 |nil=>cases h
 |cons b q=>
  unfold Cu at h;dsimp only at h;split at h
  ·rename_i hl;cases h;exact⟨rfl,by simp,by simp[hl]⟩
  ·split at h
   ·rename_i hz;cases h;refine⟨rfl,by simp,?_⟩;intro c hc;simp at hc;subst hc;right;simp[A8]at*
    omega
   ·split at h
    ·rename_i hn;cases h;obtain⟨h1,h2⟩:=Ew A8 2 q;refine⟨by simp;exact h1,by simp,?_⟩;intro c hc;rcases BB.1 hc with rfl|hc
     ·right;exact CE.2 (.inl hn)
     ·right;exact h2 c hc
    ·cases h
theorem Xx {α:Type}{W:α->Prop}{u f}(hf:∀s x r,f s= .got x r->s=u x++r/\W x):∀(n:Nat) (s:Tx) (xs:List α) (r:Tx),Ef f n s= .got xs r->
  s=Cg (xs.map u)++r/\Z xs<=n/\∀x∈xs,W x:=by
 intro n;induction n with
 |zero=>intro s xs r h;cases h;simp[Cg]
 |succ n ih=>
  intro s xs r h;cases s with
  |nil=>cases h;simp[Cg]
  |cons b q=>
   unfold Ef at h;split at h
   ·rename_i hb;obtain⟨x,q1,h1,h2⟩:=A6 h;obtain⟨ys,q2,h3,h4⟩:=A6 h2;cases h4;obtain⟨g1,g2⟩:=hf _ _ _ h1;obtain⟨g3,g4,g5⟩:=ih _ _ _ h3;refine⟨?_,by simp;omega,?_⟩
    ·rw[L3 44 hb,g1,g3];simp[Cg]
    ·intro y hy;rcases BB.1 hy with rfl|hy
     ·exact g2
     ·exact g5 y hy
   ·cases h;simp[Cg]
theorem Hu {nt s r a}(h:Du nt s= .got a r):s=A3 a++r/\D3 a/\a.nt=nt:=by
 unfold Du X4 at h;obtain⟨p,q1,h1,h⟩:=A6 h;obtain⟨_,q2,h2,h⟩:=A6 h;obtain⟨t,q3,h3,h⟩:=A6 h;obtain⟨ts,q4,h4,h⟩:=A6 h;obtain⟨_,q5,h5,h⟩:=A6 h;cases h;obtain⟨a1,a2⟩:=P2 h1;have a3:=Je (c:=40) h2;obtain⟨a4,a5⟩:=W7 h3;obtain⟨a6,a7,a8⟩:=Xx (u:=id) (fun s x r h=>W7 h) _ _ _ _ h4;have a9:=Je (c:=41) h5;refine⟨?_,⟨a2,by simp,by simp;omega,?_⟩,rfl⟩
 ·rw[a1,a3,a4,a6,a9];simp[A3,Bu]
 ·intro y hy;rcases BB.1 hy with rfl|hy
  ·exact a5
  ·exact a8 y hy
theorem dC {s r a}(h:Kx s= .got a r):s=Cp a++r/\D3 a:=by
 cases s with
 |nil=>cases h
 |cons b q=>
  unfold Kx at h;dsimp only at h;split at h
  ·rename_i hb;obtain⟨h1,h2,h3⟩:=Hu h;exact⟨by rw[L3 33 hb,h1];simp[Cp,h3],h2⟩
  ·obtain⟨h1,h2,h3⟩:=Hu h;exact⟨by rw[h1];simp[Cp,h3],h2⟩
theorem X0 {s r x}(h:Gb s= .got x r):s=Ce x++46::r/\De x:=by
 cases s with
 |nil=>cases h
 |cons b q=>
  unfold Gb at h;dsimp only at h;split at h
  ·rename_i hb;unfold fT at h;obtain⟨p,q1,h1,h⟩:=A6 h;obtain⟨_,q2,h2,h⟩:=A6 h;cases h;obtain⟨a1,a2⟩:=P2 h1;have a3:=Je (c:=46) h2;exact⟨by rw[L3 63 hb,a1,a3];simp[Ce],a2,by simp,by simp⟩
  ·unfold Pg at h;obtain⟨hd,q1,h1,h⟩:=A6 h;obtain⟨a1,a2,a3⟩:=Hu h1;cases q1 with
   |nil=>cases h
   |cons c q2=>
    unfold Pf at h;dsimp only at h;split at h
    ·rename_i hc;cases h;exact⟨by rw[a1,L3 46 hc];simp[Ce,D6],a2.1,by simp,fun _=>⟨a2,a3,by simp,by simp⟩⟩
    ·unfold T0 at h;obtain⟨_,q3,h2,h⟩:=A6 h;obtain⟨_,q4,h3,h⟩:=A6 h;obtain⟨l,q5,h4,h⟩:=A6 h;obtain⟨ls,q6,h5,h⟩:=A6 h;obtain⟨_,q7,h6,h⟩:=A6 h;cases h;have b1:=Je (c:=58) h2;have b2:=Je (c:=45) h3;obtain⟨b3,b4⟩:=dC h4;obtain⟨b5,b6,b7⟩:=Xx (fun s x r h=>dC h) _ _ _ _ h5;have b8:=Je (c:=46) h6;refine⟨by rw[a1,b1,b2,b3,b5,b8];simp[Ce,D6,Bu],a2.1,by simp,fun _=>⟨a2,a3,by simp;omega,?_⟩⟩;intro y hy;rcases BB.1 hy with rfl|hy
     ·exact b4
     ·exact b7 y hy
def Cr (l:List AB):Tx:=l.flatMap fun x=>Ce x++[46]
theorem Ey:∀(n:Nat) (s:Tx) (l:List AB) (r:Tx),Bv n s= .got l r->s=Cr l/\r=[]/\Z l<=n/\∀x∈l,De x:=by
 intro n;induction n with
 |zero=>
  intro s l r h;cases s with
  |nil=>cases h;simp[Cr]
  |cons b q=>cases h
 |succ n ih=>
  intro s l r h;cases s with
  |nil=>cases h;simp[Cr]
  |cons b q=>
   unfold Bv at h;obtain⟨x,q1,h1,h⟩:=A6 h;obtain⟨xs,q2,h2,h⟩:=A6 h;cases h;obtain⟨a1,a2⟩:=X0 h1;obtain⟨b1,b2,b3,b4⟩:=ih _ _ _ h2;refine⟨by rw[a1,b1];simp[Cr],b2,by simp;omega,?_⟩;intro y hy;rcases BB.1 hy with rfl|hy
   ·exact a2
   ·exact b4 y hy
theorem Kt {b:UInt8}(h:B6 b.toNat=true):97<=b.toNat/\b.toNat<=122:=by simp[B6]at h;omega
theorem kA {b:UInt8}(h:Bw b.toNat=true\/A8 b.toNat=true):48<=b.toNat/\b.toNat<=90/\b.toNat≠58:=by
 simp[Bw,A8]at h;omega
theorem Jg {c}:∀(p r:Tx) (d:Bool) (cur:Tx),(∀b∈p,b.toNat≠40/\b.toNat≠41/\(b.toNat:Int)≠c)->B7 c (p++r) d cur=B7 c r d (cur++p):=by
 intro p;induction p with
 |nil=>intro r d cur _;simp
 |cons b p ih=>
  intro r d cur h;obtain⟨h1,h2,h3⟩:=h b (JF ..);rw[FC,B7];have e1:((b.toNat:Int)==40)=false:=by simp;omega
  have e2:((b.toNat:Int)==41)=false:=by simp;omega
  have e3:((b.toNat:Int)==c)=false:=by simp;omega
  simp only[e1,e2,e3,ER,if_false,false_and];rw[ih r d (cur++[b]) (fun x hx=>h x (GJ _ hx))];simp
theorem nf {c}:∀(p r:Tx) (cur:Tx),(∀b∈p,b.toNat≠41)->B7 c (p++r) true cur=B7 c r true (cur++p):=by
 intro p;induction p with
 |nil=>intro r cur _;simp
 |cons b p ih=>
  intro r cur h;have h2:=h b (JF ..);rw[FC,B7];have e2:((b.toNat:Int)==41)=false:=by simp;omega
  simp only[e2,ER,if_false,ite_self,reduceCtorEq,and_false];rw[ih r (cur++[b]) (fun x hx=>h x (GJ _ hx))];simp
theorem ft {c}(r d cur):B7 c (40::r) d cur=B7 c r true (cur++[40]):=by
 rw[B7];simp
theorem zR {c}(hc:c≠41)(r d cur):B7 c (41::r) d cur=B7 c r false (cur++[41]):=by
 rw[B7];simp;intro h;exact absurd h.symm hc
theorem SL {c}(h1:c.toNat≠40)(h2:c.toNat≠41)(r cur):B7 c.toNat (c::r) false cur=cur::B7 c.toNat r false []:=by
 rw[B7];have e1:((c.toNat:Int)==40)=false:=by simp;omega
 have e2:((c.toNat:Int)==41)=false:=by simp;omega
 simp[e1,e2]
def wW (c:Int)(t:Tx):Prop:=t≠[]/\∀r cur,B7 c (t++r) false cur=B7 c r false (cur++t)
theorem im:∀(ts:List Tx) (cur:Tx),(∀t∈ts,wW 44 t)->cur≠[]->B7 44 (Cg ts) false cur=cur::ts:=by
 intro ts;induction ts with
 |nil=>intro cur _ hc;simp[Cg,B7,hc]
 |cons t ts ih=>
  intro cur h hc;obtain⟨h1,h2⟩:=h t (JF ..);have e:Cg (t::ts)=44::(t++Cg ts):=by simp[Cg]
  rw[e,show (44:Int)=((44:UInt8).toNat:Int)from rfl,SL (by decide) (by decide),show ((44:UInt8).toNat:Int)=44 from rfl,h2,FM,ih t (fun x hx=>h x (GJ _ hx)) h1]
theorem nZ {ts}(h:∀t∈ts,wW 44 t):Gq (Bu ts) 44=ts:=by
 cases ts with
 |nil=>simp[Bu,Gq,B7]
 |cons t ts=>
  obtain⟨h1,h2⟩:=h t (JF ..);unfold Gq Bu;rw[h2,FM,im ts t (fun x hx=>h x (GJ _ hx)) h1]
theorem qG {t}(h:Pm t):wW 44 t:=by
 refine⟨h.1,fun r cur=>Jg _ _ _ _ fun b hb=>?_⟩;have:=kA (h.2 b hb);omega
theorem yR {ts b}(h:b∈Cg ts):b=44\/∃t∈ts,b∈t:=by
 unfold Cg at h;rw[DR]at h;obtain⟨t,ht,hb⟩:=h;rcases BB.1 hb with h|h
 ·exact .inl h
 ·exact .inr ⟨t,ht,h⟩
theorem yS {ts b}(h:b∈Bu ts):b=44\/∃t∈ts,b∈t:=by
 cases ts with
 |nil=>cases h
 |cons t ts=>
  unfold Bu at h;rcases AW.1 h with h|h
  ·exact .inr ⟨t,JF ..,h⟩
  ·rcases yR h with h|⟨u,hu,h⟩
   ·exact .inl h
   ·exact .inr ⟨u,GJ _ hu,h⟩
theorem oP {a}(h:D3 a){b}(hb:b∈Bu a.A):b.toNat=44\/(48<=b.toNat/\b.toNat<=90/\b.toNat≠58):=by
 rcases yS hb with rfl|⟨t,ht,hb⟩
 ·exact .inl rfl
 ·exact .inr (kA ((h.2.2.2 t ht).2 b hb))
theorem oA {c}(hc:c=44\/c=46){a}(h:D3 a)(r cur):B7 c (A3 a++r) false cur=B7 c r false (cur++A3 a):=by
 unfold A3;rw[CX,Jg a.B _ _ _ (fun b hb=>by have:=Kt (h.1.2 b hb);omega),FC,ft,CX,nf (Bu a.A) _ _ (fun b hb=>by have:=oP h hb;omega)];rw[FC,FM,zR AA];simp
theorem gV {c}(hc:c=44\/c=46){a}(h:D3 a)(r cur):B7 c (Cp a++r) false cur=B7 c r false (cur++Cp a):=by
 unfold Cp;rw[CX,Jg (if a.nt=true then [33]else []) _ _ _ (fun b hb=>by split at hb<;>simp at hb;subst hb;simp;omega),oA hc h];simp
theorem jA (a):A3 a≠[]:=by unfold A3;simp
theorem ge (a):Cp a≠[]:=by unfold Cp;simp[jA]
theorem yX {a}(h:D3 a):wW 44 (Cp a):=⟨ge a,fun r cur=>gV (.inl rfl) h r cur⟩
theorem sT:∀(l:List AC) (r cur:Tx),(∀a∈l,D3 a)->B7 46 (Cg (l.map Cp)++r) false cur=B7 46 r false (cur++Cg (l.map Cp)):=by
 intro l;induction l with
 |nil=>intro r cur _;simp[Cg]
 |cons a l ih=>
  intro r cur h;have e:Cg ((a::l).map Cp)=[44]++(Cp a++Cg (l.map Cp)):=by simp[Cg]
  rw[e,CX,Jg [44] _ _ _ (fun b hb=>by simp at hb;subst hb;decide),CX,gV (.inr rfl) (h a (JF ..)),ih _ _ (fun x hx=>h x (GJ _ hx))];simp
theorem ZP {x}(h:De x)(r cur):B7 46 (Ce x++r) false cur=B7 46 r false (cur++Ce x):=by
 obtain⟨h1,h2,h3⟩:=h;unfold Ce;by_cases ho:x.o=true
 ·rw[if_pos ho,Jg (63::x.h.B) _ _ _ (fun b hb=>by
   rcases BB.1 hb with rfl|hb
   ·decide
   ·have:=Kt (h1.2 b hb);omega)]
 ·obtain⟨w1,w2,w3,w4⟩:=h3 (by simpa using ho);rw[if_neg ho];unfold D6;rw[CX,oA (.inr rfl) w1];cases hb:x.A with
  |nil=>simp
  |cons l ls=>
   rw[hb]at w4;rw[if_neg (by simp)];have e:(58::45::Bu ((l::ls).map Cp))=[58,45]++(Cp l++Cg (ls.map Cp)):=by simp[Bu]
   rw[e,CX,Jg [58,45] _ _ _ (fun b hb=>by simp at hb;rcases hb with rfl|rfl<;>decide),CX,gV (.inr rfl) (w4 l (JF ..)),sT _ _ _ (fun x hx=>w4 x (GJ _ hx))];simp
theorem Tc:∀(l:List AB),(∀x∈l,De x)->Gq (Cr l) 46=l.map Ce:=by
 intro l;induction l with
 |nil=>intro _;simp[Cr,Gq,B7]
 |cons x l ih=>
  intro h;have e:Cr (x::l)=Ce x++(46::Cr l):=by simp[Cr]
  have hi:=ih fun y hy=>h y (GJ _ hy);unfold Gq at*
  rw[e,ZP (h x (JF ..)),show (46:Int)=((46:UInt8).toNat:Int)from rfl,SL (by decide) (by decide),show ((46:UInt8).toNat:Int)=46 from rfl,hi];simp
theorem S9 {c}:∀(p r:Tx),(∀b∈p,(b.toNat:Int)≠c)->B8 (p++r) c=Z p+B8 r c:=by
 intro p;induction p with
 |nil=>intro r _;simp
 |cons b p ih=>
  intro r h;have:=ih r fun x hx=>h x (GJ _ hx);unfold B8 at*
  have e:((b.toNat:Int)==c)=false:=by simpa using h b (JF ..)
  rw[FC,List.findIdx_cons,e];simp only[cond_false,BQ];omega
theorem dW {c}(r):B8 (c::r) c.toNat=0:=by unfold B8;rw[List.findIdx_cons];simp
theorem fv {c}:B8 [] c=0:=rfl
theorem Lu {p}(h:Lc p):∃b q,p=b::q/\97<=b.toNat/\b.toNat<=122:=by
 obtain⟨h1,h2⟩:=h;cases p with
 |nil=>exact absurd rfl h1
 |cons b q=>exact⟨b,q,rfl,Kt (h2 b (JF ..))⟩
theorem nu {a}(h:D3 a):Pk a.nt (A3 a)=a:=by
 have hf:B8 (A3 a) 40=Z a.B:=by
  unfold A3;rw[S9 a.B _ (fun b hb=>by have:=Kt (h.1.2 b hb);omega),show (40:Int)=((40:UInt8).toNat:Int)from rfl,dW];rfl
 have hl:Z (A3 a)=Z a.B+1+Z (Bu a.A)+1:=by unfold A3;simp;omega
 unfold Pk;rw[hf,if_pos AA];have e1:((A3 a).drop 0).take (Z a.B-0)=a.B:=by unfold A3;simp
 have e2:((A3 a).drop (Z a.B+1)).take (Z (A3 a)-1-(Z a.B+1))=Bu a.A:=by
  rw[hl];unfold A3;rw[show a.B++40::(Bu a.A++[41])=(a.B++[40])++(Bu a.A++[41])by simp];rw[List.drop_append_of_le_length (by simp),List.drop_of_length_le (by simp),FM];rw[show Z a.B+1+Z (Bu a.A)+1-1-(Z a.B+1)=Z (Bu a.A) by omega];simp
 rw[e1,e2,nZ (fun t ht=>qG (h.2.2.2 t ht))]
theorem Y3 {a}(h:D3 a):D2 (Cp a)=a:=by
 obtain⟨b,q,hp,h1,h2⟩:=Lu h.1;have e:=nu h;unfold D2 Cp;cases hn:a.nt with
 |true=>
  have e1:Pj ((if true=true then [33]else [])++A3 a)=true:=rfl;have e2:Jk ((if true=true then [33]else [])++A3 a)=A3 a:=by
   unfold Jk;rw[if_pos e1];simp
  rw[e1,e2,<-hn,e]
 |false=>
  have e1:Pj ((if false=true then [33]else [])++A3 a)=false:=by
   unfold A3;rw[hp];simp[Pj];omega
  have e2:Jk ((if false=true then [33]else [])++A3 a)=A3 a:=by
   unfold Jk;rw[if_neg (by rw[e1];simp)];simp
  rw[e1,e2,<-hn,e]
theorem Vh {a}(h:a.nt=false):Cp a=A3 a:=by unfold Cp;simp[h]
theorem UF {a}(h:D3 a):∀b∈A3 a,(b.toNat:Int)≠58:=by
 intro b hb;unfold A3 at hb;rcases AW.1 hb with hb|hb
 ·have:=Kt (h.1.2 b hb);omega
 ·rcases BB.1 hb with rfl|hb
  ·decide
  ·rcases AW.1 hb with hb|hb
   ·have:=oP h hb;omega
   ·simp at hb;subst hb;decide
theorem Nm {x}(h:De x):Iz (Ce x)=x/\Ce x≠[]/\(Pu (Ce x)=false->B8 (Ce x) 58<Z (Ce x)->B8 (Ce x) 58+2<=Z (Ce x)):=by
 obtain⟨h1,h2,h3⟩:=h;obtain⟨b,q,hp,k1,k2⟩:=Lu h1;unfold Ce;by_cases ho:x.o=true
 ·rw[if_pos ho];obtain⟨w1,w2,w3⟩:=h2 ho;have hq:Pu (63::x.h.B)=true:=rfl;refine⟨?_,by simp,fun h=>by rw[hq]at h;cases h⟩;unfold Iz;rw[if_pos hq];unfold rG;obtain⟨xo,⟨n,p,t⟩,bd⟩:=x;simp at*
  simp[*]
 ·rw[if_neg ho];obtain⟨w1,w2,w3,w4⟩:=h3 (by simpa using ho);have hq:Pu (D6 x)=false:=by unfold D6 A3;rw[hp];simp[Pu];omega
  cases hb:x.A with
  |nil=>
   have e:D6 x=A3 x.h:=by unfold D6;rw[if_pos hb];simp
   have hf:B8 (D6 x) 58=Z (D6 x):=by
    have:=S9 (A3 x.h) [] (UF w1);rw[FA,fv]at this;rw[e];omega
   refine⟨?_,by rw[e];exact jA _,fun _ h=>AA⟩;unfold Iz;rw[if_neg (by simp[hq])];unfold Tu;rw[hf,if_neg AA];have e2:((D6 x).drop 0).take (Z (D6 x)-0)=Cp x.h:=by rw[e,Vh w2];simp
   rw[e2,Y3 w1];obtain⟨xo,hd,bd⟩:=x;simp at*
   simp[*]
  |cons l ls=>
   have e:D6 x=A3 x.h++(58::45::Bu (x.A.map Cp)):=by unfold D6;rw[if_neg (by rw[hb];simp)]
   have hf:B8 (D6 x) 58=Z (A3 x.h):=by
    have:=S9 (A3 x.h) (58::45::Bu (x.A.map Cp)) (UF w1);rw[e,this,show (58:Int)=((58:UInt8).toNat:Int)from rfl,dW];rfl
   have hl:Z (D6 x)=Z (A3 x.h)+2+Z (Bu (x.A.map Cp)):=by rw[e];simp;omega
   refine⟨?_,by rw[e];simp,fun _ _=>AA⟩;unfold Iz;rw[if_neg (by simp[hq])];unfold Tu;rw[hf,if_pos AA];have e2:((D6 x).drop 0).take (Z (A3 x.h)-0)=Cp x.h:=by rw[e,Vh w2];simp
   have e3:((D6 x).drop (Z (A3 x.h)+2)).take (Z (D6 x)-(Z (A3 x.h)+2))=Bu (x.A.map Cp):=by
    rw[hl,e,show A3 x.h++(58::45::Bu (x.A.map Cp))=(A3 x.h++[58,45])++Bu (x.A.map Cp)by simp];rw[List.drop_append_of_le_length (by simp),List.drop_of_length_le (by simp),FM];exact FW AA
   rw[e2,e3,Y3 w1,nZ (fun t ht=>by
    rw[AO]at ht;obtain⟨a,ha,rfl⟩:=ht
    exact yX (w4 a ha))]
   have e4:(x.A.map Cp).map D2=x.A:=by
    rw[BS]
    conv=>rhs;rw[<-IY x.A]
    exact CK fun a ha=>Y3 (w4 a ha)
   rw[e4];obtain⟨xo,hd,bd⟩:=x;simp at*
   simp[*]
theorem Dd {s l r}(hs:Z s<=1000)(h:Bv 16 s= .got l r):nQ s/\Cb s=l/\Z l<=16/\∀x∈l,De x:=by
 obtain⟨h1,h2,h3,h4⟩:=Ey _ _ _ _ h;have hc:=Tc l h4;refine⟨⟨?_,?_⟩,?_,h3,h4⟩
 ·rw[h1,hc];simpa using h3
 ·intro t ht;have hl:=Ly ht;rw[h1,hc,AO]at ht;obtain⟨x,hx,rfl⟩:=ht;obtain⟨g1,g2,g3⟩:=Nm (h4 x hx);exact⟨AA,g2,g3⟩
 ·unfold Cb;rw[h1,hc,BS]
  conv=>rhs;rw[<-IY l]
  exact CK fun x hx=>(Nm (h4 x hx)).1
inductive Way {α:Type}(E:α->α->Prop):α->α->Prop
 |one {a b:α}:E a b->Way E a b
 |more {a b c:α}:E a b->Way E b c->Way E a c
theorem Way.join {α:Type}{E:α->α->Prop}{a b c}(h:Way E a b)(k:Way E b c):Way E a c:=by
 induction h with
 |one e=>exact .more e k
 |more e _ ih=>exact .more e (ih k)
def OB (n:Nat)(M:Nat->Nat->Bool):Prop:=∀a b,M a b=true->a<n/\b<n
theorem jr {n M}(hM:OB n M):∀(m:Nat),m<=n->OB n (Hw n M m)/\(∀a b,M a b=true->Hw n M m a b=true)/\(∀a b,Hw n M m a b=true->Way (fun a b=>M a b=true) a b)/\
  (∀a b c,b<m->Hw n M m a b=true->Hw n M m b c=true->Hw n M m a c=true):=by
 intro m;induction m with
 |zero=>intro _;exact⟨hM,fun _ _ h=>h,fun _ _ h=>.one h,fun _ _ _ h=>AA⟩
 |succ m ih=>
  intro hm;obtain⟨h1,h2,h3,h4⟩:=ih AA;have e:∀a b,Hw n M (m+1) a b=true↔Hw n M m a b=true\/(Hw n M m a m=true/\Hw n M m m b=true):=by
   intro a b;show PG n (Hw n M m) m a b=true↔_;unfold PG fw;split
   ·simp
   ·rename_i hn;constructor
    ·exact .inl
    ·rintro (h|⟨ha,hb⟩)
     ·exact h
     ·exact absurd ⟨(h1 _ _ ha).1,(h1 _ _ hb).2⟩ hn
  refine⟨?_,?_,?_,?_⟩
  ·intro a b h;rcases (e a b).1 h with h|⟨ha,hb⟩
   ·exact h1 _ _ h
   ·exact⟨(h1 _ _ ha).1,(h1 _ _ hb).2⟩
  ·intro a b h;exact (e a b).2 (.inl (h2 _ _ h))
  ·intro a b h;rcases (e a b).1 h with h|⟨ha,hb⟩
   ·exact h3 _ _ h
   ·exact (h3 _ _ ha).join (h3 _ _ hb)
  ·intro a b c hb ab aa;rw[e]at ab aa⊢;by_cases ad:b=m
   ·subst ad;have g1:Hw n M b a b=true:=by rcases ab with h|⟨h,_⟩<;>exact h
    have g2:Hw n M b b c=true:=by rcases aa with h|⟨_,h⟩<;>exact h
    exact .inr ⟨g1,g2⟩
   ·have ac:b<m:=AA;rcases ab with ab|⟨ha,af⟩<;>rcases aa with aa|⟨ae,hc⟩
    ·exact .inl (h4 _ _ _ ac ab aa)
    ·exact .inr ⟨h4 _ _ _ ac ab ae,hc⟩
    ·exact .inr ⟨ha,h4 _ _ _ ac af aa⟩
    ·exact .inr ⟨ha,hc⟩
theorem gK {n M}(hM:OB n M)(a b):Hw n M n a b=true↔Way (fun a b=>M a b=true) a b:=by
 obtain⟨h1,h2,h3,h4⟩:=jr hM n (AR _);refine⟨h3 a b,fun h=>?_⟩;induction h with
 |one e=>exact h2 _ _ e
 |more e _ ih=>exact h4 _ _ _ (hM _ _ e).2 (h2 _ _ e) ih
theorem Ms (l i k):I0 l i k=true↔Way (fun a b=>Mm l a b=true) i k:=by
 have he:∀a b,Mm l a b=true->a<Z l/\b<Z l:=by
  intro a b h;unfold Mm at h;split at h
  ·rename_i x y hx hy;exact⟨(BG.1 hx).1,(BG.1 hy).1⟩
  ·cases h
 have e:(fun a b=>if a<Z l/\b<Z l then Mm l a b else false)=Mm l:=by
  funext a b;split
  ·rfl
  ·rename_i hn;cases hq:Mm l a b with
   |false=>rfl
   |true=>exact absurd (he a b hq) hn
 unfold I0;rw[e];exact gK he i k
def H2 (l:List AB)(p q:Tx):Prop:=∃x∈l,x.h.B=p/\∃a∈x.A,a.B=q
theorem BR {l i k}:Mm l i k=true↔∃x y,l[i]?=some x/\l[k]?=some y/\y.o=false/\∃a∈x.A,a.B=y.h.B:=by
 unfold Mm;constructor
 ·intro h;split at h
  ·rename_i x y hx hy;refine⟨x,y,hx,hy,?_⟩;simp at h;exact h
  ·cases h
 ·rintro⟨x,y,hx,hy,h1,a,ha,h2⟩;rw[hx,hy];simp only[h1,JU,ID];exact CW.2 ⟨a,ha,by simp[h2]⟩
theorem N9 {l i k}(h:Way (fun a b=>Mm l a b=true) i k):∃x y,l[i]?=some x/\l[k]?=some y/\y.o=false/\Way (H2 l) x.h.B y.h.B:=by
 induction h with
 |one e=>
  obtain⟨x,y,hx,hy,h1,a,ha,h2⟩:=BR.1 e;exact⟨x,y,hx,hy,h1,.one ⟨x,BD hx,rfl,a,ha,h2⟩⟩
 |more e _ ih=>
  obtain⟨x,y,hx,hy,h1,a,ha,h2⟩:=BR.1 e;obtain⟨x',z,aa,hz,h3,h4⟩:=ih;rw[hy]at aa;cases aa;exact⟨x,z,hx,hz,h3,.more ⟨x,BD hx,rfl,a,ha,h2⟩ h4⟩
theorem Se {l}(ho:∀x∈l,x.o=true->x.A=[]){p q}(h:Way (H2 l) p q):∀(k:Nat) (y:AB),l[k]?=some y->y.o=false->y.h.B=q->∃(i:Nat) (x:AB),l[i]?=some x/\x.h.B=p/\Way (fun a b=>Mm l a b=true) i k:=by
 induction h with
 |one e=>
  intro k y hk hy hq;obtain⟨x,hx,h1,a,ha,h2⟩:=e;obtain⟨i,hi⟩:=CO hx;exact⟨i,x,hi,h1,.one (BR.2 ⟨x,y,hi,hk,hy,a,ha,by rw[h2,hq]⟩)⟩
 |more e _ ih=>
  intro k y hk hy hq;obtain⟨x,hx,h1,a,ha,h2⟩:=e;obtain⟨i,hi⟩:=CO hx;obtain⟨j,z,hj,h3,h4⟩:=ih k y hk hy hq;have hz:z.o=false:=by
   have ab:z.A≠[]:=by
    cases h4 with
    |one e=>
     obtain⟨z',_,aa,_,_,a,ha,_⟩:=BR.1 e;rw[hj]at aa;cases aa;intro hn;rw[hn]at ha;cases ha
    |more e _=>
     obtain⟨z',_,aa,_,_,a,ha,_⟩:=BR.1 e;rw[hj]at aa;cases aa;intro hn;rw[hn]at ha;cases ha
   cases hb:z.o with
   |false=>rfl
   |true=>exact absurd (ho z (BD hj) hb) ab
  exact⟨i,x,hi,h1,.more (BR.2 ⟨x,z,hi,hj,hz,a,ha,by rw[h2,h3]⟩) h4⟩
theorem Oa {l}(ho:∀x∈l,x.o=true->x.A=[]){p q}(hq:∃y∈l,y.o=false/\y.h.B=q):Tr l p q=true↔Way (H2 l) p q:=by
 unfold Tr;constructor
 ·intro h;rw[CW]at h;obtain⟨i,-,h⟩:=h;rw[CW]at h;obtain⟨k,-,h⟩:=h;unfold sC at h;simp only[BX,EH]at h;obtain⟨⟨h1,h2⟩,h3⟩:=h;obtain⟨x,y,hx,hy,_,hw⟩:=N9 ((Ms l i k).1 h1);unfold Ki at h2 h3;rw[hx]at h2;rw[hy]at h3;rw[<-h2,<-h3];exact hw
 ·intro h;obtain⟨y,hy,h1,h2⟩:=hq;obtain⟨k,hk⟩:=CO hy;obtain⟨i,x,hi,h3,h4⟩:=Se ho h k y hk h1 h2;rw[CW];refine⟨i,by simpa using (BG.1 hi).1,?_⟩;rw[CW];refine⟨k,by simpa using (BG.1 hk).1,?_⟩;unfold sC Ki;rw[(Ms l i k).2 h4,hi,hk];simp[h2,h3]
theorem Rm (c A):AF Tryz.prog 214 [sc (.int .u8 c)] A fun x A'=>x=sc (.bool (B6 c))/\A'=A:=by
 refine Z9 9 [.tmp 2] Tryz.func214 ?_
 refine qe ?_ ?_<;>intro h aa
 all_goals exact⟨_,rfl,by simp[B6, *]⟩
theorem He (c A):AF Tryz.prog 248 [sc (.int .u8 c)] A fun x A'=>x=sc (.bool (Bw c))/\A'=A:=by
 refine Z9 9 [.tmp 2] Tryz.func248 ?_
 refine qe ?_ ?_<;>intro h aa
 all_goals exact⟨_,rfl,by simp[Bw, *]⟩
theorem Hd (c A):AF Tryz.prog 249 [sc (.int .u8 c)] A fun x A'=>x=sc (.bool (A8 c))/\A'=A:=by
 refine Z9 9 [.tmp 2] Tryz.func249 ?_
 refine qe ?_ ?_<;>intro h aa
 all_goals exact⟨_,rfl,by simp[A8, *]⟩
def cU (t:Tx)(k:Nat)(nm:AV):List AV:=[str t,ic k,nm]
def takeB (t:Tx)(k:Nat)(c:Int):Bool:=match t[k]? with|some b=>(b.toNat:Int)==c|none=>false
def takeN (t:Tx)(k:Nat)(c:Int):Nat:=if takeB t k c=true then k+1 else k
theorem xO (t k o nm c)(ht:Z t<=1000)(hk:k<=Z t)(A)(ho:A.C o=cU t k nm)(hn:o<A.B):AF Tryz.prog 132 [ptr o 0,sc (.int .u8 c)] A fun x A'=>x=sc (.bool (takeB t k c))/\AP o A A'/\A'.C o=cU t (takeN t k c) nm:=by
 unfold cU at*
 refine Z9 35 [.tmp 4] Tryz.func132 ?_
 refine pz ?_
 refine Ay Ag (fun _=>True) [22] [0,1,2,3,4,5,6,7,8,9,10,11,12,13,14,15,16,17,18,19,20,21] [22] AH (fun _ _ _ h=>h) ?_;intro yd yb;by_cases ab:k<Z t
 ·have hg:=AJ ab;generalize t[k]=b at hg;refine Z3 ?_
  refine qe ?_ ?_<;>intro h aa
  ·have hB:takeB t k c=false:=by simp[takeB,hg];simpa using h
   exact⟨_,rfl,by rw[hB],AP.refl _ _,by simp[takeN,hB]⟩
  ·have hB:takeB t k c=true:=by simp[takeB,hg];simpa using h
   exact⟨_,rfl,by rw[hB],(AP.refl _ _).put _,by simp[takeN,hB]⟩
 ·have hg:t[k]?=none:=by simp;omega
  refine Z3 ?_
  refine pz ?_
  have hB:takeB t k c=false:=by simp[takeB,hg]
  exact⟨_,rfl,by rw[hB],AP.refl _ _,by simp[takeN,hB]⟩
def Pb (t s:Tx)(nm:AV):List AV:=cU t (Z t-Z s) nm
theorem Q2 {t s:Tx}(h:s<:+t):t[Z t-Z s]?=s.head?:=by
 obtain⟨p,rfl⟩:=h;rw[AX,Nat.add_sub_cancel,KU (AR _),KB];cases s<;>rfl
theorem Sn {t s:Tx}{b}(h:(b::s)<:+t):s<:+t:=(List.suffix_cons b s).trans h
theorem Jl {t s:Tx}(h:s<:+t):Z s<=Z t:=h.length_le
theorem Sm (t s o nm c)(ht:Z t<=1000)(hs:s<:+t)(A)(ho:A.C o=Pb t s nm)(hn:o<A.B):
  AF Tryz.prog 132 [ptr o 0,sc (.int .u8 c)] A fun x A'=>AP o A A'/\match A4 c s with
   |.got _ r=>x=sc (.bool true)/\A'.C o=Pb t r nm/\r<:+t
   |.bad e=>x=sc (.bool false)/\A'.C o=Pb t s nm/\e=s:=by
 have hl:=Jl hs;refine AF.mono (xO t _ o nm c ht AA A ho hn) ?_;rintro x A' ⟨rfl,hK,hO⟩;refine⟨hK,?_⟩;have hg:=Q2 hs;cases s with
 |nil=>
  have hB:takeB t (Z t-Z ([]:Tx)) c=false:=by unfold takeB;rw[hg];rfl
  refine⟨by rw[hB],?_,rfl⟩;rw[hO,takeN,hB];rfl
 |cons b r=>
  have hB:takeB t (Z t-Z (b::r)) c=((b.toNat:Int)==c):=by unfold takeB;rw[hg];rfl
  unfold A4;by_cases hb:((b.toNat:Int)==c)=true
  ·rw[hb]at hB;simp only[hb,if_true];refine⟨by rw[hB],?_,Sn hs⟩;rw[hO,takeN,hB,Pb];simp only[if_true,BQ]at*
   rw[show Z t-(Z r+1)+1=Z t-Z r by omega]
  ·have aa:((b.toNat:Int)==c)=false:=by simpa using hb
   rw[aa]at hB;simp only[aa,ER,if_false];refine⟨by rw[hB],?_,trivial⟩;rw[hO,takeN,hB];rfl
def I7 (ds:Tx):Int:=ds.foldl (fun v b=>v*10+((b.toNat:Int)-48)) 0
theorem Ol (ds b):I7 (ds++[b])=I7 ds*10+((b.toNat:Int)-48):=by simp[I7]
def OA (s ds q:Tx):Prop:=Z ds<=3/\Aw A8 3 s=(ds++(Aw A8 (3-Z ds) q).1,(Aw A8 (3-Z ds) q).2)/\0<=I7 ds/\(Z ds=0->I7 ds=0)/\(Z ds=1->I7 ds<=9)/\(Z ds=2->I7 ds<=99)
theorem YJ (s):OA s [] s:=⟨by simp,by simp,by simp[I7],by simp[I7],by simp,by simp⟩
theorem zP {s ds q b}(h:OA s ds (b::q))(hl:Z ds<3)(hb:A8 b.toNat=true):OA s (ds++[b]) q:=by
 obtain⟨h1,h2,h3,h4,h5,h6⟩:=h;have hr:48<=b.toNat/\b.toNat<=57:=by simp[A8]at hb;omega
 have e:3-Z ds=(3-Z (ds++[b]))+1:=by simp;omega
 rw[e,Aw,if_pos hb]at h2;refine⟨by simp;omega,by rw[h2];simp,?_,by simp,?_,?_⟩
 ·rw[Ol];omega
 ·intro hh;rw[Ol];have:=h4 (by simp at hh;simp[hh]);omega
 ·intro hh;rw[Ol];have:=h5 (by simp at hh;omega);omega
theorem Yt {s ds q}(h:OA s ds q)(he:Z ds=3\/q=[]\/∃b r,q=b::r/\A8 b.toNat=false):Aw A8 3 s=(ds,q):=by
 obtain⟨h1,h2,-⟩:=h;rw[h2];rcases he with he|rfl|⟨b,r,rfl,hb⟩
 ·rw[he];simp[Aw]
 ·cases hn:3-Z ds<;>simp[Aw]
 ·cases hn:3-Z ds<;>simp[Aw,hb]
theorem Uh (t s o nm)(ht:Z t<=1000)(hs:s<:+t)(A)(ho:A.C o=Pb t s nm)(hn:o<A.B)(an:∀b r,s=b::r->((b.toNat:Int)==48)=false):
  AF Tryz.prog 250 [ptr o 0] A fun x A'=>AP o A A'/\∃q,A'.C o=Pb t q nm/\q<:+t/\q=(Aw A8 3 s).2/\x=ic (I7 (Aw A8 3 s).1):=by
 have hp:A4 48 s= .bad s:=by
  cases s with
  |nil=>rfl
  |cons b r=>unfold A4;simp only[an b r rfl];simp
 have hT:=Sm t s o nm 48 ht hs A ho hn;rw[hp]at hT;refine Z9 57 [.tmp 2] Tryz.func250 ?_
 refine qb ?_;intro yd yb;refine Xi (hT) ?_;rintro _ _ ⟨ab,rfl,ai,-⟩;refine pz ?_
 rename_i A1;have ae:o<A1.B:=By hn ab.B;clear hT hp ho
 refine Ae (fun m s' A'=>∃(q ds:Tx),m=3-Z ds/\s' 0=ptr o 0/\s' 3=ic (I7 ds)/\s' 4=ic (Z ds)/\AP o A A'/\A'.C o=Pb t q nm/\o<A'.B/\q<:+t/\AD (OA s ds q)) 3
  ⟨s,[],rfl,rfl,rfl,rfl,ab,ai,ae,hs,YJ s⟩ ?_
 rintro m s' A' ⟨q,ds,rfl,h0,h3,h4,hK,hO,ap,hq,hD⟩;clear ab ai ae;have ac:=Jl hq;have ad:=Q2 hq;have am:=hD.o;obtain⟨d1,-,d3,d4,d5,d6⟩:=am;unfold Pb cU at hO
 refine pz ?_
 refine Ay Ag (fun _=>True) [25] [0,1,2,3,4,5,6,7,8,9,10,11,12,13,14,15,16,17,18,19,20,21,22,23] [24,25] AH (fun _ _ _ h=>h) ?_;intro yd yb;cases q with
 |nil=>
  simp only[CP,QE]at hO ad ac;refine Z3 ?_
  refine pz ?_
  all_goals
   have he:=Yt hD.o (.inr (.inl rfl));exact⟨_,rfl,[],by simp[Pb,cU],hq,by rw[he],by rw[he]⟩
 |cons b r=>
  simp only[BQ,List.head?_cons]at hO ad ac;have aj:=Sn hq;refine Z3 ?_;have af:A8 b.toNat=true->48<=(b.toNat:Int)/\(b.toNat:Int)<=57:=fun h=>by simp[A8]at h;omega
  repeat' first|refine Z1 ?_|refine Z8 fun yd yb=>?_|refine Z4 ?_;clear yb yd|refine Z2 ?_ ?_<;>intro h aa<;>try exact Xp|refine Z5 ?_;refine Xi (Hd _ _) ?_;rintro _ _ ⟨rfl,rfl⟩|refine Z3 ?_|exact Zt|apply yb.o;clear yb yd
  all_goals
   first
   |(have he:=Yt hD.o (.inr (.inr ⟨b,r,rfl,by assumption⟩))
     exact⟨_,rfl,b::r,by simp[Pb,cU],hq,by rw[he],by rw[he]⟩)
   |(have he:=Yt hD.o (.inl AA)
     exact⟨_,rfl,b::r,by simp[Pb,cU],hq,by rw[he],by rw[he]⟩)
   |skip
  have ah:A8 b.toNat=true:=by assumption
  have af:=af ah;have ak:Z ds<3:=AA;have ao:I7 ds<=99:=by
   have:Z ds=0\/Z ds=1\/Z ds=2:=AA;rcases this with h|h|h
   ·have:=d4 h;omega
   ·have:=d5 h;omega
   ·exact d6 h
  clear d4 d5 d6;refine Ay Ag (fun _=>True) [14] [0,1,2,3,4,5,6,7,8,9,10,11,12,13] [14] AH (fun _ _ _ h=>h) ?_;intro yd yb;refine Z3 ?_
  refine pz ?_
  have hw:IntKind.i64.wrap (I7 ds*10+IntKind.i64.wrap (IntKind.u8.wrap ((b.toNat:Int)-48)))=I7 (ds++[b]):=by
   rw[Abs.u8w AA AA,show IntKind.i64.wrap ((b.toNat:Int)-48)=(b.toNat:Int)-48 from Abs.i64w AA AA,Abs.i64w AA AA,Ol]
  rw[hw];refine⟨3-Z (ds++[b]),by simp;omega,r,ds++[b],rfl,rfl,by simp,hK.put _,?_,aj,zP hD.o ak ah⟩;unfold Pb cU;rw[show ((Z t-(Z r+1):Nat):Int)+1=((Z t-Z r:Nat):Int)by omega]
end Go.Proofs.YtmoeoppbmhfbpabGreatDoorI
