import Derived.Test.YtmoeoppbmhfbpabGreatDoorJRefA
set_option linter.all false
namespace Go.Proofs.YtmoeoppbmhfbpabGreatDoorJ
open Go.Abs
abbrev Tx:=List UInt8
inductive Rd (α:Type) where
 |bad (e:Tx)
 |got (x:α) (r:Tx)
def Rd.bnd {α β:Type}:Rd α->(α->Tx->Rd β)->Rd β
 |.bad e,_=>.bad e
 |.got x r,f=>f x r
def A0 (c:Int):Bool:=decide (48<=c)&&decide (c<=57)
def Aw (c:Int):Tx->Rd Unit
 |[]=>.bad []
 |b::r=>if ((b.toNat:Int)==c)=true then .got () r else .bad (b::r)
def As (p:Int->Bool):Nat->Tx->Tx×Tx
 |0,s=>([],s)
 |_+1,[]=>([],[])
 |n+1,b::r=>if p b.toNat=true then (b::(As p n r).1,(As p n r).2)else ([],b::r)
def El (s:Tx):Rd Tx:=if (As Be 6 s).1=[]then .bad s else .got (As Be 6 s).1 (As Be 6 s).2
def Ca:Tx->Rd Tx
 |[]=>.bad []
 |b::r=>if Bl b.toNat=true then .got [b] r else if ((b.toNat:Int)==48)=true then .got [b] r
  else if Fw b.toNat=true then .got (b::(As A0 2 r).1) (As A0 2 r).2 else .bad (b::r)
def Dg {α:Type}(f:Tx->Rd α):Nat->Tx->Rd (List α)
 |0,s=>.got [] s
 |_+1,[]=>.got [] []
 |n+1,b::r=>if ((b.toNat:Int)==44)=true then
  (f r).bnd fun x r1=>(Dg f n r1).bnd fun xs r2=>.got (x::xs) r2
  else .got [] (b::r)
def Wc (nt:Bool)(p:Tx)(s:Tx):Rd Ai:=
 (Ca s).bnd fun t r=>(Dg Ca 2 r).bnd fun ts r=>(Aw 41 r).bnd fun _ r=>.got {nt:=nt,pred:=p,terms:=t::ts} r
def C1 (nt:Bool)(s:Tx):Rd Ai:=
 (El s).bnd fun p r=>(Aw 40 r).bnd fun _ r=>Wc nt p r
def J7:Tx->Rd Ai
 |[]=>.bad []
 |b::r=>if ((b.toNat:Int)==33)=true then C1 true r else C1 false (b::r)
def Sn (h:Ai)(s:Tx):Rd RItem:=
 (J7 s).bnd fun l r=>(Dg J7 4 r).bnd fun ls r=>(Aw 46 r).bnd fun _ r=>.got {out:=false,head:=h,body:=l::ls} r
def Na (h:Ai):Tx->Rd RItem
 |[]=>.bad []
 |b::r=>if ((b.toNat:Int)==46)=true then .got {out:=false,head:=h,body:=[]} r else
  (Aw 58 (b::r)).bnd fun _ r=>(Aw 45 r).bnd fun _ r=>Sn h r
def Nb (s:Tx):Rd RItem:=(C1 false s).bnd fun h r=>Na h r
def bN (s:Tx):Rd RItem:=
 (El s).bnd fun p r=>(Aw 46 r).bnd fun _ r=>.got {out:=true,head:={nt:=false,pred:=p,terms:=[]},body:=[]} r
def Fv:Tx->Rd RItem
 |[]=>.bad []
 |b::r=>if ((b.toNat:Int)==63)=true then bN r else Nb (b::r)
def Bj:Nat->Tx->Rd (List RItem)
 |_,[]=>.got [] []
 |0,s=>.bad s
 |n+1,s=>(Fv s).bnd fun x r=>(Bj n r).bnd fun xs r=>.got (x::xs) r
def stop:Dx->Tx->Option Tx
 |X,[]=>if X.st !=0 then some []else none
 |X,c::r=>if (A4 X c).2=true then stop (A4 X c).1 r else some (c::r)
theorem mJ:∀(s:Tx) (X:Dx) (i:Nat),
  (match (fG X s i).2 with|some j=>(j:Int)|none=>if (fG X s i).1.st !=0 then ((i+s.length:Nat):Int)else -1)=match stop X s with|some r=>((i+s.length-r.length:Nat):Int)|none=> -1:=by
 intro s;induction s with
 |nil=>intro X i;simp only[fG,stop];split<;>simp_all
 |cons c r ih=>
  intro X i;unfold fG stop;by_cases h:(A4 X c).2=true
  ·simp only[h,if_true];have:=ih (A4 X c).1 (i+1);rw[show i+(c::r).length=i+1+r.length by simp;omega];exact this
  ·simp only[h];simp
theorem bG (s:Tx):Oh s=match stop aN s with|some r=>((s.length-r.length:Nat):Int)|none=> -1:=by
 have:=mJ s aN 0;unfold Oh;rw[Ab5]at this;rw[<-this];rfl
def Via {α:Type}(P:Dx->Prop)(res:Rd α)(o:Option Tx):Prop:=
 match res with
 |.bad e=>o=some e
 |.got _ r=>∃X',P X'/\o=stop X' r
theorem Via.bind {α β:Type}{P Q:Dx->Prop}{res:Rd α}{o:Option Tx}{f:α->Tx->Rd β}(h:Via P res o)(k:∀x r X',P X'->Via Q (f x r) (stop X' r)):Via Q (res.bnd f) o:=by
 cases res with
 |bad e=>exact h
 |got x r=>
  obtain⟨X',hP,rfl⟩:=h;exact k x r X' hP
theorem Via.ret {α:Type}{P:Dx->Prop}{x:α}{r:Tx}{X:Dx}(h:P X):Via P (.got x r) (stop X r):=⟨X,h,rfl⟩
theorem Via.err {α:Type}{P:Dx->Prop}{e:Tx}{o:Option Tx}(h:o=some e):Via (α:=α) P (.bad e) o:=h
theorem Cp {X:Dx}{c:UInt8}{r:Tx}(h:(A4 X c).2=true):stop X (c::r)=stop (A4 X c).1 r:=by
 rw[stop,if_pos h]
theorem E3 {X:Dx}{c:UInt8}{r:Tx}(h:(A4 X c).2=false):stop X (c::r)=some (c::r):=by
 rw[stop,if_neg (by simp[h])]
theorem Cw {X:Dx}(h:X.st≠0):stop X []=some []:=by
 rw[stop,if_pos (by simpa using h)]
def qB (X X':Dx):Prop:=X'.items=X.items/\X'.lits=X.lits/\X'.head=X.head
theorem pA:∀(n:Nat) (s:Tx) (X:Dx),X.st=5->X.letters=6-(n:Int)->n<=6->
  Via (fun X'=>X'.st=6/\X'.terms=0/\qB X X') (Aw 40 (As Be n s).2) (stop X s):=by
 intro n;induction n with
 |zero=>
  intro s X h5 hl hn;cases s with
  |nil=>exact Via.err (Cw Ad6)
  |cons b r=>
   unfold As Aw;simp only;by_cases hb:((b.toNat:Int)==40)=true
   ·rw[if_pos hb];have e:A4 X b=({X with terms:=0,st:=6},true):=by
     simp[A4,Ep,h5,hl,hb]
    rw[Cp (by rw[e]),e];exact Via.ret ⟨rfl,rfl,rfl,rfl,rfl⟩
   ·rw[if_neg hb];refine Via.err (E3 ?_);simp[A4,Ep,h5,hl,hb]
 |succ n ih=>
  intro s X h5 hl hn;cases s with
  |nil=>exact Via.err (Cw Ad6)
  |cons b r=>
   unfold As;by_cases hs:Be b.toNat=true
   ·rw[if_pos hs];have e:A4 X b=({X with letters:=X.letters+1},true):=by
     simp[A4,Ep,h5,hs];omega
    rw[Cp (by rw[e]),e];exact ih r {X with letters:=X.letters+1} h5 (by simp;omega) Ad6
   ·rw[if_neg hs];unfold Aw;simp only;by_cases hb:((b.toNat:Int)==40)=true
    ·rw[if_pos hb];have e:A4 X b=({X with terms:=0,st:=6},true):=by
      simp[A4,Ep,h5,hs,hb]
     rw[Cp (by rw[e]),e];exact Via.ret ⟨rfl,rfl,rfl,rfl,rfl⟩
    ·rw[if_neg hb];refine Via.err (E3 ?_);simp[A4,Ep,h5,hs,hb]
theorem Fh {α β γ:Type}(a:Rd α)(f:α->Tx->Rd β)(g:β->Tx->Rd γ):(a.bnd f).bnd g=a.bnd fun x r=>(f x r).bnd g:=by cases a<;>rfl
theorem digit_iff {c:Int}:A0 c=true↔(Fw c=true\/(c==48)=true):=by
 simp[A0,Fw];omega
theorem Kr {c:Int}(h:Bl c=true):Fw c=false:=by
 simp[Bl,Fw]at*;omega
theorem Kg {X:Dx}{s:Tx}(h7:X.st=7)(h:∀b r,s=b::r->A0 b.toNat=true->¬X.digits<3):stop X s=stop {X with st:=8} s:=by
 cases s with
 |nil=>rw[Cw Ad6,Cw (by simp)]
 |cons b r=>
  have hd:=h b r rfl;have hq:¬((X.st==7)=true/\decide (X.digits<3)=true/\(Fw b.toNat=true\/((b.toNat:Int)==48)=true)):=by
   rintro⟨-,q1,q2⟩;exact hd (digit_iff.2 q2) (by simpa using q1)
  have e1:A4 X b=if ((b.toNat:Int)==41)=true then ({X with lits:=if (!X.head)=true then X.lits+1 else X.lits,st:=9},true)else if ((b.toNat:Int)==44)=true/\decide (X.terms<3)=true then ({X with st:=6},true)else (X,false):=by
   unfold A4 Ep;rw[if_pos (by simp[h7]),if_neg (by simp[h7]),if_neg (by simp[h7]),if_neg hq]
  have e2:A4 {X with st:=8} b=if ((b.toNat:Int)==41)=true then ({X with lits:=if (!X.head)=true then X.lits+1 else X.lits,st:=9},true)else if ((b.toNat:Int)==44)=true/\decide (X.terms<3)=true then ({X with st:=6},true)else ({X with st:=8},false):=by
   unfold A4 Ep;rw[if_pos (by simp),if_neg (by simp),if_neg (by simp),if_neg (by simp)]
  unfold stop;rw[e1,e2];by_cases h1:((b.toNat:Int)==41)=true
  ·rw[if_pos h1,if_pos h1]
  ·rw[if_neg h1,if_neg h1];by_cases h2:((b.toNat:Int)==44)=true/\decide (X.terms<3)=true
   ·rw[if_pos h2,if_pos h2]
   ·rw[if_neg h2,if_neg h2];rfl
theorem eO:∀(n:Nat) (s:Tx) (X:Dx),X.st=7->X.digits=3-(n:Int)->∃X',X'.st=8/\X'.terms=X.terms/\qB X X'/\stop X s=stop X' (As A0 n s).2:=by
 intro n;induction n with
 |zero=>
  intro s X h7 hd;exact⟨{X with st:=8},rfl,rfl,⟨rfl,rfl,rfl⟩,Kg h7 (fun _ _ _ _=>Ad6)⟩
 |succ n ih=>
  intro s X h7 hd;cases s with
  |nil=>exact⟨{X with st:=8},rfl,rfl,⟨rfl,rfl,rfl⟩,Kg h7 (fun _ _ h _=>by cases h)⟩
  |cons b r=>
   unfold As;by_cases hb:A0 b.toNat=true
   ·rw[if_pos hb];have e:A4 X b=({X with digits:=X.digits+1},true):=by
     have:=digit_iff.1 hb;unfold A4 Ep;rw[if_pos (by simp[h7]),if_neg (by simp[h7]),if_neg (by simp[h7]),if_pos ⟨by simp[h7],by simp;omega,this⟩]
    rw[Cp (by rw[e]),e];obtain⟨X',h1,h2,h3,h4⟩:=ih r {X with digits:=X.digits+1} h7 (by simp;omega);exact⟨X',h1,h2,h3,h4⟩
   ·rw[if_neg hb];exact⟨{X with st:=8},rfl,rfl,⟨rfl,rfl,rfl⟩,Kg h7 (fun c q h hc=>by cases h;exact absurd hc hb)⟩
theorem Y8 (s:Tx)(X:Dx)(h6:X.st=6):Via (fun X'=>X'.st=8/\X'.terms=X.terms+1/\qB X X') (Ca s) (stop X s):=by
 cases s with
 |nil=>exact Via.err (Cw Ad6)
 |cons b r=>
  unfold Ca;by_cases hl:Bl b.toNat=true
  ·simp only[hl,if_true];have e:A4 X b=({X with terms:=X.terms+1,digits:=1,st:=8},true):=by
    simp[A4,Ep,h6,hl,Kr hl]
   rw[Cp (by rw[e]),e];exact Via.ret ⟨rfl,rfl,rfl,rfl,rfl⟩
  ·simp only[hl];by_cases hz:((b.toNat:Int)==48)=true
   ·have hn:Fw b.toNat=false:=by simp[Fw]at*;omega
    simp only[hz,if_true];have e:A4 X b=({X with terms:=X.terms+1,digits:=1,st:=8},true):=by
     simp[A4,Ep,h6,hl,hz,hn]
    rw[Cp (by rw[e]),e];exact Via.ret ⟨rfl,rfl,rfl,rfl,rfl⟩
   ·simp only[hz];by_cases hn:Fw b.toNat=true
    ·simp only[hn,if_true];have e:A4 X b=({X with terms:=X.terms+1,digits:=1,st:=7},true):=by
      simp[A4,Ep,h6,hn]
     rw[Cp (by rw[e]),e];obtain⟨X',h1,h2,h3,h4⟩:=eO 2 r {X with terms:=X.terms+1,digits:=1,st:=7} rfl (by simp);exact⟨X',⟨h1,h2,h3⟩,h4⟩
    ·simp only[hn];refine Via.err (E3 ?_);simp[A4,Ep,h6,hl,hz,hn]
def wN (it li:Int)(hd:Bool)(X:Dx):Prop:=X.st=9/\X.items=it/\X.head=hd/\X.lits=if hd=true then li else li+1
theorem Uy {β:Type}(s:Tx)(X:Dx)(k:β)(h8:X.st=8)(h:∀b r,s=b::r->((b.toNat:Int)==44)=true->¬X.terms<3):
  Via (wN X.items X.lits X.head) ((Aw 41 s).bnd fun _ r=>.got k r) (stop X s):=by
 cases s with
 |nil=>exact Via.err (Cw Ad6)
 |cons b r=>
  unfold Aw;have hh:=h b r rfl;by_cases hb:((b.toNat:Int)==41)=true
  ·simp only[hb,if_true];have e:A4 X b=({X with lits:=if (!X.head)=true then X.lits+1 else X.lits,st:=9},true):=by
    simp[A4,Ep,h8,hb]
   rw[Cp (by rw[e]),e];refine Via.ret ⟨rfl,rfl,rfl,?_⟩;cases X.head<;>simp
  ·simp only[hb];refine Via.err (E3 ?_);simp[A4,Ep,h8,hb];rw[if_neg];rintro⟨h1,h2⟩;have:=hh (by simpa using h1);omega
theorem pE {β:Type}:∀(n:Nat) (s:Tx) (X:Dx) (k:List Tx->β),X.st=8->X.terms=3-(n:Int)->
  Via (wN X.items X.lits X.head) ((Dg Ca n s).bnd fun ts r=>(Aw 41 r).bnd fun _ r=>.got (k ts) r) (stop X s):=by
 intro n;induction n with
 |zero=>
  intro s X k h8 ht;exact Uy s X (k []) h8 (fun _ _ _ _=>Ad6)
 |succ n ih=>
  intro s X k h8 ht;cases s with
  |nil=>exact Via.err (Cw Ad6)
  |cons b r=>
   unfold Dg;by_cases hb:((b.toNat:Int)==44)=true
   ·simp only[hb,if_true];have e:A4 X b=({X with st:=6},true):=by
     have:¬((b.toNat:Int)==41)=true:=by simp at*;omega
     simp[A4,Ep,h8,hb,this];omega
    rw[Cp (by rw[e]),e,Fh];refine Via.bind (Y8 r {X with st:=6} rfl) ?_;rintro x r1 X' ⟨h1,h2,h3,h4,h5⟩;rw[Fh];have:=ih r1 X' (fun ts=>k (x::ts)) h1 (by simp at h2;omega);rw[h3,h4,h5]at this;exact this
   ·simp only[hb];exact Uy (b::r) X (k []) h8 (fun c q h hc=>by cases h;exact absurd hc hb)
theorem Q1 (nt:Bool)(b:UInt8)(r:Tx)(X:Dx)(it li:Int)(hd:Bool)(hs:Be b.toNat=true->∃X1,A4 X b=(X1,true)/\X1.st=5/\X1.letters=1/\X1.items=it/\X1.lits=li/\X1.head=hd)
  (hn:Be b.toNat=false->(A4 X b).2=false):Via (wN it li hd) (C1 nt (b::r)) (stop X (b::r)):=by
 unfold C1 El;by_cases hb:Be b.toNat=true
 ·obtain⟨X1,e,h1,h2,h3,h4,h5⟩:=hs hb;rw[Cp (by rw[e]),e];have e6:As Be 6 (b::r)=(b::(As Be 5 r).1,(As Be 5 r).2):=by rw[As,if_pos hb]
  rw[e6];simp only[reduceCtorEq,if_false,Rd.bnd];refine Via.bind (pA 5 r X1 h1 Ad6 Ad6) ?_;rintro _ r1 X' ⟨g1,g2,g3,g4,g5⟩;unfold Wc;refine Via.bind (Y8 r1 X' g1) ?_;rintro t r2 X2 ⟨q1,q2,q3,q4,q5⟩;have:=pE 2 r2 X2 (fun ts=>({nt:=nt,pred:=b::(As Be 5 r).1,terms:=t::ts}:Ai)) q1 Ad6;rw[q3,g3,h3,q4,g4,h4,q5,g5,h5]at this;exact this
 ·have aa:Be b.toNat=false:=by simpa using hb
  have e6:As Be 6 (b::r)=([],b::r):=by rw[As,if_neg hb]
  rw[e6];simp only[if_true,Rd.bnd];exact Via.err (E3 (hn aa))
theorem iX (s:Tx)(X:Dx)(h3:X.st=3):Via (wN X.items X.lits X.head) (J7 s) (stop X s):=by
 cases s with
 |nil=>exact Via.err (Cw Ad6)
 |cons b r=>
  unfold J7;by_cases hb:((b.toNat:Int)==33)=true
  ·simp only[hb,if_true];have e:A4 X b=({X with letters:=1,st:=4},true):=by simp[A4,Cu,h3,hb]
   rw[Cp (by rw[e]),e];cases r with
   |nil=>
    refine Via.err (Cw (by simp))
   |cons c q=>
    refine Q1 true c q _ _ _ _ (fun hs=>⟨{X with letters:=1,st:=5},?_,rfl,rfl,rfl,rfl,rfl⟩) (fun hs=>?_)
    ·simp[A4,Cu,hs]
    ·simp[A4,Cu,hs]
  ·simp only[hb];refine Q1 false b r _ _ _ _ (fun hs=>⟨{X with letters:=1,st:=5},?_,rfl,rfl,rfl,rfl,rfl⟩) (fun hs=>?_)
   ·simp[A4,Cu,h3,hb,hs]
   ·simp[A4,Cu,h3,hb,hs]
def Next (it:Int)(X:Dx):Prop:=X.st=0/\X.items=it+1
theorem iY {β:Type}(s:Tx)(X:Dx)(k:β)(h9:X.st=9)(hh:X.head=false)(h:∀b r,s=b::r->((b.toNat:Int)==44)=true->¬X.lits<5):
  Via (Next X.items) ((Aw 46 s).bnd fun _ r=>.got k r) (stop X s):=by
 cases s with
 |nil=>exact Via.err (Cw Ad6)
 |cons b r=>
  unfold Aw;have hq:=h b r rfl;by_cases hb:((b.toNat:Int)==46)=true
  ·simp only[hb,if_true];have e:A4 X b=({X with items:=X.items+1,st:=0},true):=by simp[A4,Cu,h9,hb]
   rw[Cp (by rw[e]),e];exact Via.ret ⟨rfl,rfl⟩
  ·simp only[hb];refine Via.err (E3 ?_);simp[A4,Cu,h9,hb,hh];rw[if_neg];rintro⟨h1,h2⟩;have:=hq (by simpa using h1);omega
theorem pB {β:Type}:∀(n:Nat) (s:Tx) (X:Dx) (k:List Ai->β),X.st=9->X.head=false->X.lits=5-(n:Int)->
  Via (Next X.items) ((Dg J7 n s).bnd fun ts r=>(Aw 46 r).bnd fun _ r=>.got (k ts) r) (stop X s):=by
 intro n;induction n with
 |zero=>
  intro s X k h9 hh ht;exact iY s X (k []) h9 hh (fun _ _ _ _=>Ad6)
 |succ n ih=>
  intro s X k h9 hh ht;cases s with
  |nil=>exact Via.err (Cw Ad6)
  |cons b r=>
   unfold Dg;by_cases hb:((b.toNat:Int)==44)=true
   ·simp only[hb,if_true];have e:A4 X b=({X with st:=3},true):=by
     have h1:¬((b.toNat:Int)==46)=true:=by simp at*;omega
     simp[A4,Cu,h9,hb,h1,hh];omega
    rw[Cp (by rw[e]),e,Fh];refine Via.bind (iX r {X with st:=3} rfl) ?_;rintro x r1 X' ⟨h1,h2,h3,h4⟩;rw[Fh];have:=ih r1 X' (fun ts=>k (x::ts)) h1 (by rw[h3];exact hh) (by simp[hh]at h4;omega);rw[h2]at this;exact this
   ·simp only[hb];exact iY (b::r) X (k []) h9 hh (fun c q h hc=>by cases h;exact absurd hc hb)
theorem pD (h:Ai)(s:Tx)(X:Dx)(h3:X.st=3)(hh:X.head=false)(hl:X.lits=0):Via (Next X.items) (Sn h s) (stop X s):=by
 unfold Sn;refine Via.bind (iX s X h3) ?_;rintro x r X' ⟨h1,h2,h4,h5⟩;have:=pB 4 r X' (fun ls=>({out:=false,head:=h,body:=x::ls}:RItem)) h1 (by rw[h4];exact hh) (by simp[hh,hl]at h5;omega);rw[h2]at this;exact this
theorem oZ (h:Ai)(s:Tx)(X:Dx)(h9:X.st=9)(hh:X.head=true)(hl:X.lits=0):Via (Next X.items) (Na h s) (stop X s):=by
 cases s with
 |nil=>exact Via.err (Cw Ad6)
 |cons b r=>
  unfold Na;by_cases hb:((b.toNat:Int)==46)=true
  ·simp only[hb,if_true];have e:A4 X b=({X with items:=X.items+1,st:=0},true):=by simp[A4,Cu,h9,hb]
   rw[Cp (by rw[e]),e];exact Via.ret ⟨rfl,rfl⟩
  ·simp only[hb];unfold Aw;by_cases hc:((b.toNat:Int)==58)=true
   ·simp only[hc,if_true];have e:A4 X b=({X with st:=10},true):=by simp[A4,Cu,h9,hb,hc,hh]
    rw[Cp (by rw[e]),e];cases r with
    |nil=>exact Via.err (Cw (by simp))
    |cons c q=>
     by_cases hd:((c.toNat:Int)==45)=true
     ·simp only[hd,if_true,Rd.bnd];have e:A4 {X with st:=10} c=({X with head:=false,st:=3},true):=by simp[A4,Cu,hd]
      simp only[Acb,if_false];rw[Cp (by rw[e]),e];exact pD h q {X with head:=false,st:=3} rfl rfl hl
     ·simp only[hd,Rd.bnd];refine Via.err (E3 ?_);simp[A4,Cu,hd]
   ·simp only[hc];refine Via.err (E3 ?_);simp[A4,Cu,h9,hb,hc,hh]
theorem lT:∀(n:Nat) (s:Tx) (X:Dx) (k:Tx->RItem),X.st=2->X.letters=6-(n:Int)->
  Via (Next X.items) ((Aw 46 (As Be n s).2).bnd fun _ r=>.got (k (As Be n s).1) r) (stop X s):=by
 intro n;induction n with
 |zero=>
  intro s X k h2 hl;cases s with
  |nil=>exact Via.err (Cw Ad6)
  |cons b r=>
   unfold As Aw;by_cases hb:((b.toNat:Int)==46)=true
   ·simp only[hb,if_true];have e:A4 X b=({X with items:=X.items+1,st:=0},true):=by simp[A4,Cu,h2,hl,hb]
    rw[Cp (by rw[e]),e];exact Via.ret ⟨rfl,rfl⟩
   ·simp only[hb];refine Via.err (E3 ?_);simp[A4,Cu,h2,hl,hb]
 |succ n ih=>
  intro s X k h2 hl;cases s with
  |nil=>exact Via.err (Cw Ad6)
  |cons b r=>
   unfold As;by_cases hs:Be b.toNat=true
   ·simp only[hs,if_true];have e:A4 X b=({X with letters:=X.letters+1,st:=2},true):=by
     simp[A4,Cu,h2,hs];omega
    rw[Cp (by rw[e]),e];exact ih r {X with letters:=X.letters+1,st:=2} (fun x=>k (b::x)) rfl (by simp;omega)
   ·simp only[hs];unfold Aw;by_cases hb:((b.toNat:Int)==46)=true
    ·simp only[Acb,if_false,hb,if_true];have e:A4 X b=({X with items:=X.items+1,st:=0},true):=by simp[A4,Cu,h2,hs,hb]
     rw[Cp (by rw[e]),e];exact Via.ret ⟨rfl,rfl⟩
    ·simp only[Acb,if_false,hb];refine Via.err (E3 ?_);simp[A4,Cu,h2,hs,hb]
theorem pC (b:UInt8)(r:Tx)(X:Dx)(h0:X.st=0)(hi:X.items≠16):Via (Next X.items) (Fv (b::r)) (stop X (b::r)):=by
 unfold Fv;by_cases hb:((b.toNat:Int)==63)=true
 ·simp only[hb,if_true];have e:A4 X b=({X with head:=true,letters:=0,lits:=0,st:=1},true):=by simp[A4,Cu,h0,hi,hb]
  rw[Cp (by rw[e]),e];unfold bN El;cases r with
  |nil=>exact Via.err (Cw (by simp))
  |cons c q=>
   by_cases hs:Be c.toNat=true
   ·have e6:As Be 6 (c::q)=(c::(As Be 5 q).1,(As Be 5 q).2):=by rw[As,if_pos hs]
    rw[e6];simp only[reduceCtorEq,if_false,Rd.bnd];have e:A4 {X with head:=true,letters:=0,lits:=0,st:=1} c=({X with head:=true,letters:=1,lits:=0,st:=2},true):=by simp[A4,Cu,hs]
    rw[Cp (by rw[e]),e];exact lT 5 q {X with head:=true,letters:=1,lits:=0,st:=2} (fun x=>{out:=true,head:={nt:=false,pred:=c::x,terms:=[]},body:=[]}) rfl (by simp)
   ·have e6:As Be 6 (c::q)=([],c::q):=by rw[As,if_neg hs]
    rw[e6];simp only[if_true,Rd.bnd];refine Via.err (E3 ?_);simp[A4,Cu,hs]
 ·simp only[hb];unfold Nb;refine Via.bind (Q1 false b r X X.items 0 true (fun hs=>⟨{X with head:=true,letters:=1,lits:=0,st:=5},?_,rfl,rfl,rfl,rfl,rfl⟩) (fun hs=>?_)) ?_
  ·simp[A4,Cu,h0,hi,hb,hs]
  ·simp[A4,Cu,h0,hi,hb,hs]
  ·rintro x r X' ⟨h1,h2,h3,h4⟩;have:=oZ x r X' h1 h3 (by simpa using h4);rw[h2]at this;exact this
theorem lU:∀(n:Nat) (s:Tx) (X:Dx),X.st=0->X.items=16-(n:Int)->stop X s=match Bj n s with|.bad e=>some e|.got _ _=>none:=by
 intro n;induction n with
 |zero=>
  intro s X h0 hi;cases s with
  |nil=>simp[stop,Bj,h0]
  |cons b r=>
   simp only[Bj];refine E3 ?_;simp[A4,Cu,h0,hi]
 |succ n ih=>
  intro s X h0 hi;cases s with
  |nil=>simp[stop,Bj,h0]
  |cons b r=>
   have hv:=pC b r X h0 Ad6;unfold Bj;cases hp:Fv (b::r)with
   |bad e=>rw[hp]at hv;exact hv
   |got x q=>
    rw[hp]at hv;obtain⟨X',⟨h1,h2⟩,h3⟩:=hv;rw[h3,ih q X' h1 Ad6];simp only[Rd.bnd];cases Bj n q<;>rfl
theorem M6 (s:Tx):Oh s=match Bj 16 s with|.bad e=>((s.length-e.length:Nat):Int)|.got _ _=> -1:=by
 rw[bG,lU 16 s aN rfl rfl];cases Bj 16 s<;>rfl
theorem Li {b:UInt8}(c:UInt8)(h:((b.toNat:Int)==(c.toNat:Int))=true):b=c:=by
 have:b.toNat=c.toNat:=by simp at h;omega
 exact UInt8.toNat_inj.1 this
def J3 (p:Tx):Prop:=p≠[]/\∀b∈p,Be b.toNat=true
def Py (t:Tx):Prop:=t≠[]/\∀b∈t,Bl b.toNat=true\/A0 b.toNat=true
def Ea (a:Ai):Prop:=J3 a.pred/\a.terms≠[]/\a.terms.length<=3/\∀t∈a.terms,Py t
def Dh (x:RItem):Prop:=J3 x.head.pred/\(x.out=true->x.head.nt=false/\x.head.terms=[]/\x.body=[])/\(x.out=false->Ea x.head/\x.head.nt=false/\x.body.length<=5/\∀a∈x.body,Ea a)
def Br (ts:List Tx):Tx:=ts.flatMap fun t=>44::t
def Bf:List Tx->Tx
 |[]=>[]
 |t::ts=>t++Br ts
def Ay (a:Ai):Tx:=a.pred++40::(Bf a.terms++[41])
def B9 (a:Ai):Tx:=(if a.nt=true then [33]else [])++Ay a
def C5 (x:RItem):Tx:=Ay x.head++(if x.body=[]then []else 58::45::Bf (x.body.map B9))
def Bh (x:RItem):Tx:=if x.out=true then 63::x.head.pred else C5 x
theorem Bm {α β:Type}{a:Rd α}{f:α->Tx->Rd β}{y:β}{r:Tx}(h:a.bnd f= .got y r):∃x q,a= .got x q/\f x q= .got y r:=by
 cases a with
 |bad e=>cases h
 |got x q=>exact⟨x,q,rfl,h⟩
theorem Hn {c:UInt8}{s r:Tx}{x:Unit}(h:Aw c.toNat s= .got x r):s=c::r:=by
 cases s with
 |nil=>cases h
 |cons b q=>
  unfold Aw at h;dsimp only at h;split at h
  ·rename_i hb;cases h;rw[Li c hb]
  ·cases h
theorem D4 (p:Int->Bool):∀(n:Nat) (s:Tx),s=(As p n s).1++(As p n s).2/\(∀b∈(As p n s).1,p b.toNat=true)
 |0,s=>by simp[As]
 |n+1,[]=>by simp[As]
 |n+1,b::r=>by
  unfold As;split
  ·rename_i h;obtain⟨h1,h2⟩:=D4 p n r;refine⟨by simp;exact h1,?_⟩;intro c hc;rcases Aci.1 hc with rfl|hc
   ·exact h
   ·exact h2 c hc
  ·simp
theorem Sg {s r p:Tx}(h:El s= .got p r):s=p++r/\J3 p:=by
 unfold El at h;split at h
 ·cases h
 ·rename_i aa;cases h;exact⟨(D4 Be 6 s).1,aa,(D4 Be 6 s).2⟩
theorem Se {s r t:Tx}(h:Ca s= .got t r):s=t++r/\Py t:=by
 cases s with
 |nil=>cases h
 |cons b q=>
  unfold Ca at h;dsimp only at h;split at h
  ·rename_i hl;cases h;exact⟨rfl,by simp,by simp[hl]⟩
  ·split at h
   ·rename_i hz;cases h;refine⟨rfl,by simp,?_⟩;intro c hc;simp at hc;subst hc;right;simp[A0]at*
    omega
   ·split at h
    ·rename_i hn;cases h;obtain⟨h1,h2⟩:=D4 A0 2 q;refine⟨by simp;exact h1,by simp,?_⟩;intro c hc;rcases Aci.1 hc with rfl|hc
     ·right;exact digit_iff.2 (.inl hn)
     ·right;exact h2 c hc
    ·cases h
theorem Si {α:Type}{W:α->Prop}{u:α->Tx}{f:Tx->Rd α}(hf:∀s x r,f s= .got x r->s=u x++r/\W x):∀(n:Nat) (s:Tx) (xs:List α) (r:Tx),Dg f n s= .got xs r->
  s=Br (xs.map u)++r/\xs.length<=n/\∀x∈xs,W x:=by
 intro n;induction n with
 |zero=>intro s xs r h;cases h;simp[Br]
 |succ n ih=>
  intro s xs r h;cases s with
  |nil=>cases h;simp[Br]
  |cons b q=>
   unfold Dg at h;split at h
   ·rename_i hb;obtain⟨x,q1,h1,h2⟩:=Bm h;obtain⟨ys,q2,h3,h4⟩:=Bm h2;cases h4;obtain⟨g1,g2⟩:=hf _ _ _ h1;obtain⟨g3,g4,g5⟩:=ih _ _ _ h3;refine⟨?_,by simp;omega,?_⟩
    ·rw[Li 44 hb,g1,g3];simp[Br]
    ·intro y hy;rcases Aci.1 hy with rfl|hy
     ·exact g2
     ·exact g5 y hy
   ·cases h;simp[Br]
theorem F7 {nt:Bool}{s r:Tx}{a:Ai}(h:C1 nt s= .got a r):s=Ay a++r/\Ea a/\a.nt=nt:=by
 unfold C1 Wc at h;obtain⟨p,q1,h1,h⟩:=Bm h;obtain⟨_,q2,h2,h⟩:=Bm h;obtain⟨t,q3,h3,h⟩:=Bm h;obtain⟨ts,q4,h4,h⟩:=Bm h;obtain⟨_,q5,h5,h⟩:=Bm h;cases h;obtain⟨a1,a2⟩:=Sg h1;have a3:=Hn (c:=40) h2;obtain⟨a4,a5⟩:=Se h3;obtain⟨a6,a7,a8⟩:=Si (u:=id) (fun s x r h=>Se h) _ _ _ _ h4;have a9:=Hn (c:=41) h5;refine⟨?_,⟨a2,by simp,by simp;omega,?_⟩,rfl⟩
 ·rw[a1,a3,a4,a6,a9];simp[Ay,Bf]
 ·intro y hy;rcases Aci.1 hy with rfl|hy
  ·exact a5
  ·exact a8 y hy
theorem V9 {s r:Tx}{a:Ai}(h:J7 s= .got a r):s=B9 a++r/\Ea a:=by
 cases s with
 |nil=>cases h
 |cons b q=>
  unfold J7 at h;dsimp only at h;split at h
  ·rename_i hb;obtain⟨h1,h2,h3⟩:=F7 h;exact⟨by rw[Li 33 hb,h1];simp[B9,h3],h2⟩
  ·obtain⟨h1,h2,h3⟩:=F7 h;exact⟨by rw[h1];simp[B9,h3],h2⟩
theorem fZ {s r:Tx}{x:RItem}(h:Fv s= .got x r):s=Bh x++46::r/\Dh x:=by
 cases s with
 |nil=>cases h
 |cons b q=>
  unfold Fv at h;dsimp only at h;split at h
  ·rename_i hb;unfold bN at h;obtain⟨p,q1,h1,h⟩:=Bm h;obtain⟨_,q2,h2,h⟩:=Bm h;cases h;obtain⟨a1,a2⟩:=Sg h1;have a3:=Hn (c:=46) h2;exact⟨by rw[Li 63 hb,a1,a3];simp[Bh],a2,by simp,by simp⟩
  ·unfold Nb at h;obtain⟨hd,q1,h1,h⟩:=Bm h;obtain⟨a1,a2,a3⟩:=F7 h1;cases q1 with
   |nil=>cases h
   |cons c q2=>
    unfold Na at h;dsimp only at h;split at h
    ·rename_i hc;cases h;exact⟨by rw[a1,Li 46 hc];simp[Bh,C5],a2.1,by simp,fun _=>⟨a2,a3,by simp,by simp⟩⟩
    ·unfold Sn at h;obtain⟨_,q3,h2,h⟩:=Bm h;obtain⟨_,q4,h3,h⟩:=Bm h;obtain⟨l,q5,h4,h⟩:=Bm h;obtain⟨ls,q6,h5,h⟩:=Bm h;obtain⟨_,q7,h6,h⟩:=Bm h;cases h;have b1:=Hn (c:=58) h2;have b2:=Hn (c:=45) h3;obtain⟨b3,b4⟩:=V9 h4;obtain⟨b5,b6,b7⟩:=Si (fun s x r h=>V9 h) _ _ _ _ h5;have b8:=Hn (c:=46) h6;refine⟨by rw[a1,b1,b2,b3,b5,b8];simp[Bh,C5,Bf],a2.1,by simp,fun _=>⟨a2,a3,by simp;omega,?_⟩⟩;intro y hy;rcases Aci.1 hy with rfl|hy
     ·exact b4
     ·exact b7 y hy
def Bp (l:List RItem):Tx:=l.flatMap fun x=>Bh x++[46]
theorem Ii:∀(n:Nat) (s:Tx) (l:List RItem) (r:Tx),Bj n s= .got l r->s=Bp l/\r=[]/\l.length<=n/\∀x∈l,Dh x:=by
 intro n;induction n with
 |zero=>
  intro s l r h;cases s with
  |nil=>cases h;simp[Bp]
  |cons b q=>cases h
 |succ n ih=>
  intro s l r h;cases s with
  |nil=>cases h;simp[Bp]
  |cons b q=>
   unfold Bj at h;obtain⟨x,q1,h1,h⟩:=Bm h;obtain⟨xs,q2,h2,h⟩:=Bm h;cases h;obtain⟨a1,a2⟩:=fZ h1;obtain⟨b1,b2,b3,b4⟩:=ih _ _ _ h2;refine⟨by rw[a1,b1];simp[Bp],b2,by simp;omega,?_⟩;intro y hy;rcases Aci.1 hy with rfl|hy
   ·exact a2
   ·exact b4 y hy
end Go.Proofs.YtmoeoppbmhfbpabGreatDoorJ
