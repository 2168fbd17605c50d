import Derived.Test.YtmoeoppbmhfbpabGreatDoorHRefA
set_option linter.all false
namespace Go.Proofs.YtmoeoppbmhfbpabGreatDoorH
open Go.Abs
abbrev Tx:=List UInt8
inductive Rd (α:Type) where
 |bad (e:Tx)
 |got (x:α) (r:Tx)
def Rd.bnd {α β:Type}:Rd α->(α->Tx->Rd β)->Rd β
 |.bad e,_=>.bad e
 |.got x r,f=>f x r
def Ax (c:Int):Bool:=decide (48<=c)&&decide (c<=57)
def Az (c:Int):Tx->Rd Unit
 |[]=>.bad []
 |b::r=>if ((b.toNat:Int)==c)=true then .got () r else .bad (b::r)
def Av (p:Int->Bool):Nat->Tx->Tx×Tx
 |0,s=>([],s)
 |_+1,[]=>([],[])
 |n+1,b::r=>if p b.toNat=true then (b::(Av p n r).1,(Av p n r).2)else ([],b::r)
def D6 (s:Tx):Rd Tx:=if (Av A5 6 s).1=[]then .bad s else .got (Av A5 6 s).1 (Av A5 6 s).2
def Cf:Tx->Rd Tx
 |[]=>.bad []
 |b::r=>if A3 b.toNat=true then .got [b] r else if ((b.toNat:Int)==48)=true then .got [b] r
  else if Fz b.toNat=true then .got (b::(Av Ax 2 r).1) (Av Ax 2 r).2 else .bad (b::r)
def De {α:Type}(f:Tx->Rd α):Nat->Tx->Rd (List α)
 |0,s=>.got [] s
 |_+1,[]=>.got [] []
 |n+1,b::r=>if ((b.toNat:Int)==44)=true then
  (f r).bnd fun x r1=>(De f n r1).bnd fun xs r2=>.got (x::xs) r2
  else .got [] (b::r)
def Ss (nt:Bool)(p:Tx)(s:Tx):Rd RAtom:=
 (Cf s).bnd fun t r=>(De Cf 2 r).bnd fun ts r=>(Az 41 r).bnd fun _ r=>.got {nt:=nt,pred:=p,terms:=t::ts} r
def Df (nt:Bool)(s:Tx):Rd RAtom:=
 (D6 s).bnd fun p r=>(Az 40 r).bnd fun _ r=>Ss nt p r
def Iv:Tx->Rd RAtom
 |[]=>.bad []
 |b::r=>if ((b.toNat:Int)==33)=true then Df true r else Df false (b::r)
def Ps (h:RAtom)(s:Tx):Rd RItem:=
 (Iv s).bnd fun l r=>(De Iv 4 r).bnd fun ls r=>(Az 46 r).bnd fun _ r=>.got {out:=false,head:=h,body:=l::ls} r
def Lz (h:RAtom):Tx->Rd RItem
 |[]=>.bad []
 |b::r=>if ((b.toNat:Int)==46)=true then .got {out:=false,head:=h,body:=[]} r else
  (Az 58 (b::r)).bnd fun _ r=>(Az 45 r).bnd fun _ r=>Ps h r
def L0 (s:Tx):Rd RItem:=(Df false s).bnd fun h r=>Lz h r
def X8 (s:Tx):Rd RItem:=
 (D6 s).bnd fun p r=>(Az 46 r).bnd fun _ r=>.got {out:=true,head:={nt:=false,pred:=p,terms:=[]},body:=[]} r
def Eo:Tx->Rd RItem
 |[]=>.bad []
 |b::r=>if ((b.toNat:Int)==63)=true then X8 r else L0 (b::r)
def Bu:Nat->Tx->Rd (List RItem)
 |_,[]=>.got [] []
 |0,s=>.bad s
 |n+1,s=>(Eo s).bnd fun x r=>(Bu n r).bnd fun xs r=>.got (x::xs) r
def stop:D3->Tx->Option Tx
 |X,[]=>if X.st !=0 then some []else none
 |X,c::r=>if (Be X c).2=true then stop (Be X c).1 r else some (c::r)
theorem mF:∀(s:Tx) (X:D3) (i:Nat),
  (match (fH X s i).2 with|some j=>(j:Int)|none=>if (fH X s i).1.st !=0 then ((i+s.length:Nat):Int)else -1)=match stop X s with|some r=>((i+s.length-r.length:Nat):Int)|none=> -1:=by
 intro s;induction s with
 |nil=>intro X i;simp only[fH,stop];split<;>simp_all
 |cons c r ih=>
  intro X i;unfold fH stop;by_cases h:(Be X c).2=true
  ·simp only[h,if_true];have:=ih (Be X c).1 (i+1);rw[show i+(c::r).length=i+1+r.length by simp;omega];exact this
  ·simp only[h];simp
theorem bL (s:Tx):Md s=match stop aR s with|some r=>((s.length-r.length:Nat):Int)|none=> -1:=by
 have:=mF s aR 0;unfold Md;rw[Ab1]at this;rw[<-this];rfl
def Via {α:Type}(P:D3->Prop)(res:Rd α)(o:Option Tx):Prop:=
 match res with
 |.bad e=>o=some e
 |.got _ r=>∃X',P X'/\o=stop X' r
theorem Via.bind {α β:Type}{P Q:D3->Prop}{res:Rd α}{o:Option Tx}{f:α->Tx->Rd β}(h:Via P res o)(k:∀x r X',P X'->Via Q (f x r) (stop X' r)):Via Q (res.bnd f) o:=by
 cases res with
 |bad e=>exact h
 |got x r=>
  obtain⟨X',hP,rfl⟩:=h;exact k x r X' hP
theorem Via.ret {α:Type}{P:D3->Prop}{x:α}{r:Tx}{X:D3}(h:P X):Via P (.got x r) (stop X r):=⟨X,h,rfl⟩
theorem Via.err {α:Type}{P:D3->Prop}{e:Tx}{o:Option Tx}(h:o=some e):Via (α:=α) P (.bad e) o:=h
theorem Cs {X:D3}{c:UInt8}{r:Tx}(h:(Be X c).2=true):stop X (c::r)=stop (Be X c).1 r:=by
 rw[stop,if_pos h]
theorem E3 {X:D3}{c:UInt8}{r:Tx}(h:(Be X c).2=false):stop X (c::r)=some (c::r):=by
 rw[stop,if_neg (by simp[h])]
theorem C1 {X:D3}(h:X.st≠0):stop X []=some []:=by
 rw[stop,if_pos (by simpa using h)]
def qD (X X':D3):Prop:=X'.items=X.items/\X'.lits=X.lits/\X'.head=X.head
theorem oU:∀(n:Nat) (s:Tx) (X:D3),X.st=5->X.letters=6-(n:Int)->n<=6->
  Via (fun X'=>X'.st=6/\X'.terms=0/\qD X X') (Az 40 (Av A5 n s).2) (stop X s):=by
 intro n;induction n with
 |zero=>
  intro s X h5 hl hn;cases s with
  |nil=>exact Via.err (C1 Ad2)
  |cons b r=>
   unfold Av Az;simp only;by_cases hb:((b.toNat:Int)==40)=true
   ·rw[if_pos hb];have e:Be X b=({X with terms:=0,st:=6},true):=by
     simp[Be,Es,h5,hl,hb]
    rw[Cs (by rw[e]),e];exact Via.ret ⟨rfl,rfl,rfl,rfl,rfl⟩
   ·rw[if_neg hb];refine Via.err (E3 ?_);simp[Be,Es,h5,hl,hb]
 |succ n ih=>
  intro s X h5 hl hn;cases s with
  |nil=>exact Via.err (C1 Ad2)
  |cons b r=>
   unfold Av;by_cases hs:A5 b.toNat=true
   ·rw[if_pos hs];have e:Be X b=({X with letters:=X.letters+1},true):=by
     simp[Be,Es,h5,hs];omega
    rw[Cs (by rw[e]),e];exact ih r {X with letters:=X.letters+1} h5 (by simp;omega) Ad2
   ·rw[if_neg hs];unfold Az;simp only;by_cases hb:((b.toNat:Int)==40)=true
    ·rw[if_pos hb];have e:Be X b=({X with terms:=0,st:=6},true):=by
      simp[Be,Es,h5,hs,hb]
     rw[Cs (by rw[e]),e];exact Via.ret ⟨rfl,rfl,rfl,rfl,rfl⟩
    ·rw[if_neg hb];refine Via.err (E3 ?_);simp[Be,Es,h5,hs,hb]
theorem Ff {α β γ:Type}(a:Rd α)(f:α->Tx->Rd β)(g:β->Tx->Rd γ):(a.bnd f).bnd g=a.bnd fun x r=>(f x r).bnd g:=by cases a<;>rfl
theorem digit_iff {c:Int}:Ax c=true↔(Fz c=true\/(c==48)=true):=by
 simp[Ax,Fz];omega
theorem Kk {c:Int}(h:A3 c=true):Fz c=false:=by
 simp[A3,Fz]at*;omega
theorem J9 {X:D3}{s:Tx}(h7:X.st=7)(h:∀b r,s=b::r->Ax b.toNat=true->¬X.digits<3):stop X s=stop {X with st:=8} s:=by
 cases s with
 |nil=>rw[C1 Ad2,C1 (by simp)]
 |cons b r=>
  have hd:=h b r rfl;have hq:¬((X.st==7)=true/\decide (X.digits<3)=true/\(Fz b.toNat=true\/((b.toNat:Int)==48)=true)):=by
   rintro⟨-,q1,q2⟩;exact hd (digit_iff.2 q2) (by simpa using q1)
  have e1:Be X b=if ((b.toNat:Int)==41)=true then ({X with lits:=if (!X.head)=true then X.lits+1 else X.lits,st:=9},true)else if ((b.toNat:Int)==44)=true/\decide (X.terms<3)=true then ({X with st:=6},true)else (X,false):=by
   unfold Be Es;rw[if_pos (by simp[h7]),if_neg (by simp[h7]),if_neg (by simp[h7]),if_neg hq]
  have e2:Be {X with st:=8} b=if ((b.toNat:Int)==41)=true then ({X with lits:=if (!X.head)=true then X.lits+1 else X.lits,st:=9},true)else if ((b.toNat:Int)==44)=true/\decide (X.terms<3)=true then ({X with st:=6},true)else ({X with st:=8},false):=by
   unfold Be Es;rw[if_pos (by simp),if_neg (by simp),if_neg (by simp),if_neg (by simp)]
  unfold stop;rw[e1,e2];by_cases h1:((b.toNat:Int)==41)=true
  ·rw[if_pos h1,if_pos h1]
  ·rw[if_neg h1,if_neg h1];by_cases h2:((b.toNat:Int)==44)=true/\decide (X.terms<3)=true
   ·rw[if_pos h2,if_pos h2]
   ·rw[if_neg h2,if_neg h2];rfl
theorem eR:∀(n:Nat) (s:Tx) (X:D3),X.st=7->X.digits=3-(n:Int)->∃X',X'.st=8/\X'.terms=X.terms/\qD X X'/\stop X s=stop X' (Av Ax n s).2:=by
 intro n;induction n with
 |zero=>
  intro s X h7 hd;exact⟨{X with st:=8},rfl,rfl,⟨rfl,rfl,rfl⟩,J9 h7 (fun _ _ _ _=>Ad2)⟩
 |succ n ih=>
  intro s X h7 hd;cases s with
  |nil=>exact⟨{X with st:=8},rfl,rfl,⟨rfl,rfl,rfl⟩,J9 h7 (fun _ _ h _=>by cases h)⟩
  |cons b r=>
   unfold Av;by_cases hb:Ax b.toNat=true
   ·rw[if_pos hb];have e:Be X b=({X with digits:=X.digits+1},true):=by
     have:=digit_iff.1 hb;unfold Be Es;rw[if_pos (by simp[h7]),if_neg (by simp[h7]),if_neg (by simp[h7]),if_pos ⟨by simp[h7],by simp;omega,this⟩]
    rw[Cs (by rw[e]),e];obtain⟨X',h1,h2,h3,h4⟩:=ih r {X with digits:=X.digits+1} h7 (by simp;omega);exact⟨X',h1,h2,h3,h4⟩
   ·rw[if_neg hb];exact⟨{X with st:=8},rfl,rfl,⟨rfl,rfl,rfl⟩,J9 h7 (fun c q h hc=>by cases h;exact absurd hc hb)⟩
theorem Y7 (s:Tx)(X:D3)(h6:X.st=6):Via (fun X'=>X'.st=8/\X'.terms=X.terms+1/\qD X X') (Cf s) (stop X s):=by
 cases s with
 |nil=>exact Via.err (C1 Ad2)
 |cons b r=>
  unfold Cf;by_cases hl:A3 b.toNat=true
  ·simp only[hl,if_true];have e:Be X b=({X with terms:=X.terms+1,digits:=1,st:=8},true):=by
    simp[Be,Es,h6,hl,Kk hl]
   rw[Cs (by rw[e]),e];exact Via.ret ⟨rfl,rfl,rfl,rfl,rfl⟩
  ·simp only[hl];by_cases hz:((b.toNat:Int)==48)=true
   ·have hn:Fz b.toNat=false:=by simp[Fz]at*;omega
    simp only[hz,if_true];have e:Be X b=({X with terms:=X.terms+1,digits:=1,st:=8},true):=by
     simp[Be,Es,h6,hl,hz,hn]
    rw[Cs (by rw[e]),e];exact Via.ret ⟨rfl,rfl,rfl,rfl,rfl⟩
   ·simp only[hz];by_cases hn:Fz b.toNat=true
    ·simp only[hn,if_true];have e:Be X b=({X with terms:=X.terms+1,digits:=1,st:=7},true):=by
      simp[Be,Es,h6,hn]
     rw[Cs (by rw[e]),e];obtain⟨X',h1,h2,h3,h4⟩:=eR 2 r {X with terms:=X.terms+1,digits:=1,st:=7} rfl (by simp);exact⟨X',⟨h1,h2,h3⟩,h4⟩
    ·simp only[hn];refine Via.err (E3 ?_);simp[Be,Es,h6,hl,hz,hn]
def wX (it li:Int)(hd:Bool)(X:D3):Prop:=X.st=9/\X.items=it/\X.head=hd/\X.lits=if hd=true then li else li+1
theorem U2 {β:Type}(s:Tx)(X:D3)(k:β)(h8:X.st=8)(h:∀b r,s=b::r->((b.toNat:Int)==44)=true->¬X.terms<3):
  Via (wX X.items X.lits X.head) ((Az 41 s).bnd fun _ r=>.got k r) (stop X s):=by
 cases s with
 |nil=>exact Via.err (C1 Ad2)
 |cons b r=>
  unfold Az;have hh:=h b r rfl;by_cases hb:((b.toNat:Int)==41)=true
  ·simp only[hb,if_true];have e:Be X b=({X with lits:=if (!X.head)=true then X.lits+1 else X.lits,st:=9},true):=by
    simp[Be,Es,h8,hb]
   rw[Cs (by rw[e]),e];refine Via.ret ⟨rfl,rfl,rfl,?_⟩;cases X.head<;>simp
  ·simp only[hb];refine Via.err (E3 ?_);simp[Be,Es,h8,hb];rw[if_neg];rintro⟨h1,h2⟩;have:=hh (by simpa using h1);omega
theorem oY {β:Type}:∀(n:Nat) (s:Tx) (X:D3) (k:List Tx->β),X.st=8->X.terms=3-(n:Int)->
  Via (wX X.items X.lits X.head) ((De Cf n s).bnd fun ts r=>(Az 41 r).bnd fun _ r=>.got (k ts) r) (stop X s):=by
 intro n;induction n with
 |zero=>
  intro s X k h8 ht;exact U2 s X (k []) h8 (fun _ _ _ _=>Ad2)
 |succ n ih=>
  intro s X k h8 ht;cases s with
  |nil=>exact Via.err (C1 Ad2)
  |cons b r=>
   unfold De;by_cases hb:((b.toNat:Int)==44)=true
   ·simp only[hb,if_true];have e:Be X b=({X with st:=6},true):=by
     have:¬((b.toNat:Int)==41)=true:=by simp at*;omega
     simp[Be,Es,h8,hb,this];omega
    rw[Cs (by rw[e]),e,Ff];refine Via.bind (Y7 r {X with st:=6} rfl) ?_;rintro x r1 X' ⟨h1,h2,h3,h4,h5⟩;rw[Ff];have:=ih r1 X' (fun ts=>k (x::ts)) h1 (by simp at h2;omega);rw[h3,h4,h5]at this;exact this
   ·simp only[hb];exact U2 (b::r) X (k []) h8 (fun c q h hc=>by cases h;exact absurd hc hb)
theorem Q4 (nt:Bool)(b:UInt8)(r:Tx)(X:D3)(it li:Int)(hd:Bool)(hs:A5 b.toNat=true->∃X1,Be X b=(X1,true)/\X1.st=5/\X1.letters=1/\X1.items=it/\X1.lits=li/\X1.head=hd)
  (hn:A5 b.toNat=false->(Be X b).2=false):Via (wX it li hd) (Df nt (b::r)) (stop X (b::r)):=by
 unfold Df D6;by_cases hb:A5 b.toNat=true
 ·obtain⟨X1,e,h1,h2,h3,h4,h5⟩:=hs hb;rw[Cs (by rw[e]),e];have e6:Av A5 6 (b::r)=(b::(Av A5 5 r).1,(Av A5 5 r).2):=by rw[Av,if_pos hb]
  rw[e6];simp only[reduceCtorEq,if_false,Rd.bnd];refine Via.bind (oU 5 r X1 h1 Ad2 Ad2) ?_;rintro _ r1 X' ⟨g1,g2,g3,g4,g5⟩;unfold Ss;refine Via.bind (Y7 r1 X' g1) ?_;rintro t r2 X2 ⟨q1,q2,q3,q4,q5⟩;have:=oY 2 r2 X2 (fun ts=>({nt:=nt,pred:=b::(Av A5 5 r).1,terms:=t::ts}:RAtom)) q1 Ad2;rw[q3,g3,h3,q4,g4,h4,q5,g5,h5]at this;exact this
 ·have aa:A5 b.toNat=false:=by simpa using hb
  have e6:Av A5 6 (b::r)=([],b::r):=by rw[Av,if_neg hb]
  rw[e6];simp only[if_true,Rd.bnd];exact Via.err (E3 (hn aa))
theorem iS (s:Tx)(X:D3)(h3:X.st=3):Via (wX X.items X.lits X.head) (Iv s) (stop X s):=by
 cases s with
 |nil=>exact Via.err (C1 Ad2)
 |cons b r=>
  unfold Iv;by_cases hb:((b.toNat:Int)==33)=true
  ·simp only[hb,if_true];have e:Be X b=({X with letters:=1,st:=4},true):=by simp[Be,Cz,h3,hb]
   rw[Cs (by rw[e]),e];cases r with
   |nil=>
    refine Via.err (C1 (by simp))
   |cons c q=>
    refine Q4 true c q _ _ _ _ (fun hs=>⟨{X with letters:=1,st:=5},?_,rfl,rfl,rfl,rfl,rfl⟩) (fun hs=>?_)
    ·simp[Be,Cz,hs]
    ·simp[Be,Cz,hs]
  ·simp only[hb];refine Q4 false b r _ _ _ _ (fun hs=>⟨{X with letters:=1,st:=5},?_,rfl,rfl,rfl,rfl,rfl⟩) (fun hs=>?_)
   ·simp[Be,Cz,h3,hb,hs]
   ·simp[Be,Cz,h3,hb,hs]
def Next (it:Int)(X:D3):Prop:=X.st=0/\X.items=it+1
theorem iT {β:Type}(s:Tx)(X:D3)(k:β)(h9:X.st=9)(hh:X.head=false)(h:∀b r,s=b::r->((b.toNat:Int)==44)=true->¬X.lits<5):
  Via (Next X.items) ((Az 46 s).bnd fun _ r=>.got k r) (stop X s):=by
 cases s with
 |nil=>exact Via.err (C1 Ad2)
 |cons b r=>
  unfold Az;have hq:=h b r rfl;by_cases hb:((b.toNat:Int)==46)=true
  ·simp only[hb,if_true];have e:Be X b=({X with items:=X.items+1,st:=0},true):=by simp[Be,Cz,h9,hb]
   rw[Cs (by rw[e]),e];exact Via.ret ⟨rfl,rfl⟩
  ·simp only[hb];refine Via.err (E3 ?_);simp[Be,Cz,h9,hb,hh];rw[if_neg];rintro⟨h1,h2⟩;have:=hq (by simpa using h1);omega
theorem oV {β:Type}:∀(n:Nat) (s:Tx) (X:D3) (k:List RAtom->β),X.st=9->X.head=false->X.lits=5-(n:Int)->
  Via (Next X.items) ((De Iv n s).bnd fun ts r=>(Az 46 r).bnd fun _ r=>.got (k ts) r) (stop X s):=by
 intro n;induction n with
 |zero=>
  intro s X k h9 hh ht;exact iT s X (k []) h9 hh (fun _ _ _ _=>Ad2)
 |succ n ih=>
  intro s X k h9 hh ht;cases s with
  |nil=>exact Via.err (C1 Ad2)
  |cons b r=>
   unfold De;by_cases hb:((b.toNat:Int)==44)=true
   ·simp only[hb,if_true];have e:Be X b=({X with st:=3},true):=by
     have h1:¬((b.toNat:Int)==46)=true:=by simp at*;omega
     simp[Be,Cz,h9,hb,h1,hh];omega
    rw[Cs (by rw[e]),e,Ff];refine Via.bind (iS r {X with st:=3} rfl) ?_;rintro x r1 X' ⟨h1,h2,h3,h4⟩;rw[Ff];have:=ih r1 X' (fun ts=>k (x::ts)) h1 (by rw[h3];exact hh) (by simp[hh]at h4;omega);rw[h2]at this;exact this
   ·simp only[hb];exact iT (b::r) X (k []) h9 hh (fun c q h hc=>by cases h;exact absurd hc hb)
theorem oX (h:RAtom)(s:Tx)(X:D3)(h3:X.st=3)(hh:X.head=false)(hl:X.lits=0):Via (Next X.items) (Ps h s) (stop X s):=by
 unfold Ps;refine Via.bind (iS s X h3) ?_;rintro x r X' ⟨h1,h2,h4,h5⟩;have:=oV 4 r X' (fun ls=>({out:=false,head:=h,body:=x::ls}:RItem)) h1 (by rw[h4];exact hh) (by simp[hh,hl]at h5;omega);rw[h2]at this;exact this
theorem oT (h:RAtom)(s:Tx)(X:D3)(h9:X.st=9)(hh:X.head=true)(hl:X.lits=0):Via (Next X.items) (Lz h s) (stop X s):=by
 cases s with
 |nil=>exact Via.err (C1 Ad2)
 |cons b r=>
  unfold Lz;by_cases hb:((b.toNat:Int)==46)=true
  ·simp only[hb,if_true];have e:Be X b=({X with items:=X.items+1,st:=0},true):=by simp[Be,Cz,h9,hb]
   rw[Cs (by rw[e]),e];exact Via.ret ⟨rfl,rfl⟩
  ·simp only[hb];unfold Az;by_cases hc:((b.toNat:Int)==58)=true
   ·simp only[hc,if_true];have e:Be X b=({X with st:=10},true):=by simp[Be,Cz,h9,hb,hc,hh]
    rw[Cs (by rw[e]),e];cases r with
    |nil=>exact Via.err (C1 (by simp))
    |cons c q=>
     by_cases hd:((c.toNat:Int)==45)=true
     ·simp only[hd,if_true,Rd.bnd];have e:Be {X with st:=10} c=({X with head:=false,st:=3},true):=by simp[Be,Cz,hd]
      simp only[Ab7,if_false];rw[Cs (by rw[e]),e];exact oX h q {X with head:=false,st:=3} rfl rfl hl
     ·simp only[hd,Rd.bnd];refine Via.err (E3 ?_);simp[Be,Cz,hd]
   ·simp only[hc];refine Via.err (E3 ?_);simp[Be,Cz,h9,hb,hc,hh]
theorem lO:∀(n:Nat) (s:Tx) (X:D3) (k:Tx->RItem),X.st=2->X.letters=6-(n:Int)->
  Via (Next X.items) ((Az 46 (Av A5 n s).2).bnd fun _ r=>.got (k (Av A5 n s).1) r) (stop X s):=by
 intro n;induction n with
 |zero=>
  intro s X k h2 hl;cases s with
  |nil=>exact Via.err (C1 Ad2)
  |cons b r=>
   unfold Av Az;by_cases hb:((b.toNat:Int)==46)=true
   ·simp only[hb,if_true];have e:Be X b=({X with items:=X.items+1,st:=0},true):=by simp[Be,Cz,h2,hl,hb]
    rw[Cs (by rw[e]),e];exact Via.ret ⟨rfl,rfl⟩
   ·simp only[hb];refine Via.err (E3 ?_);simp[Be,Cz,h2,hl,hb]
 |succ n ih=>
  intro s X k h2 hl;cases s with
  |nil=>exact Via.err (C1 Ad2)
  |cons b r=>
   unfold Av;by_cases hs:A5 b.toNat=true
   ·simp only[hs,if_true];have e:Be X b=({X with letters:=X.letters+1,st:=2},true):=by
     simp[Be,Cz,h2,hs];omega
    rw[Cs (by rw[e]),e];exact ih r {X with letters:=X.letters+1,st:=2} (fun x=>k (b::x)) rfl (by simp;omega)
   ·simp only[hs];unfold Az;by_cases hb:((b.toNat:Int)==46)=true
    ·simp only[Ab7,if_false,hb,if_true];have e:Be X b=({X with items:=X.items+1,st:=0},true):=by simp[Be,Cz,h2,hs,hb]
     rw[Cs (by rw[e]),e];exact Via.ret ⟨rfl,rfl⟩
    ·simp only[Ab7,if_false,hb];refine Via.err (E3 ?_);simp[Be,Cz,h2,hs,hb]
theorem oW (b:UInt8)(r:Tx)(X:D3)(h0:X.st=0)(hi:X.items≠16):Via (Next X.items) (Eo (b::r)) (stop X (b::r)):=by
 unfold Eo;by_cases hb:((b.toNat:Int)==63)=true
 ·simp only[hb,if_true];have e:Be X b=({X with head:=true,letters:=0,lits:=0,st:=1},true):=by simp[Be,Cz,h0,hi,hb]
  rw[Cs (by rw[e]),e];unfold X8 D6;cases r with
  |nil=>exact Via.err (C1 (by simp))
  |cons c q=>
   by_cases hs:A5 c.toNat=true
   ·have e6:Av A5 6 (c::q)=(c::(Av A5 5 q).1,(Av A5 5 q).2):=by rw[Av,if_pos hs]
    rw[e6];simp only[reduceCtorEq,if_false,Rd.bnd];have e:Be {X with head:=true,letters:=0,lits:=0,st:=1} c=({X with head:=true,letters:=1,lits:=0,st:=2},true):=by simp[Be,Cz,hs]
    rw[Cs (by rw[e]),e];exact lO 5 q {X with head:=true,letters:=1,lits:=0,st:=2} (fun x=>{out:=true,head:={nt:=false,pred:=c::x,terms:=[]},body:=[]}) rfl (by simp)
   ·have e6:Av A5 6 (c::q)=([],c::q):=by rw[Av,if_neg hs]
    rw[e6];simp only[if_true,Rd.bnd];refine Via.err (E3 ?_);simp[Be,Cz,hs]
 ·simp only[hb];unfold L0;refine Via.bind (Q4 false b r X X.items 0 true (fun hs=>⟨{X with head:=true,letters:=1,lits:=0,st:=5},?_,rfl,rfl,rfl,rfl,rfl⟩) (fun hs=>?_)) ?_
  ·simp[Be,Cz,h0,hi,hb,hs]
  ·simp[Be,Cz,h0,hi,hb,hs]
  ·rintro x r X' ⟨h1,h2,h3,h4⟩;have:=oT x r X' h1 h3 (by simpa using h4);rw[h2]at this;exact this
theorem lP:∀(n:Nat) (s:Tx) (X:D3),X.st=0->X.items=16-(n:Int)->stop X s=match Bu n s with|.bad e=>some e|.got _ _=>none:=by
 intro n;induction n with
 |zero=>
  intro s X h0 hi;cases s with
  |nil=>simp[stop,Bu,h0]
  |cons b r=>
   simp only[Bu];refine E3 ?_;simp[Be,Cz,h0,hi]
 |succ n ih=>
  intro s X h0 hi;cases s with
  |nil=>simp[stop,Bu,h0]
  |cons b r=>
   have hv:=oW b r X h0 Ad2;unfold Bu;cases hp:Eo (b::r)with
   |bad e=>rw[hp]at hv;exact hv
   |got x q=>
    rw[hp]at hv;obtain⟨X',⟨h1,h2⟩,h3⟩:=hv;rw[h3,ih q X' h1 Ad2];simp only[Rd.bnd];cases Bu n q<;>rfl
theorem Jc (s:Tx):Md s=match Bu 16 s with|.bad e=>((s.length-e.length:Nat):Int)|.got _ _=> -1:=by
 rw[bL,lP 16 s aR rfl rfl];cases Bu 16 s<;>rfl
theorem Jo {b:UInt8}(c:UInt8)(h:((b.toNat:Int)==(c.toNat:Int))=true):b=c:=by
 have:b.toNat=c.toNat:=by simp at h;omega
 exact UInt8.toNat_inj.1 this
def Gm (p:Tx):Prop:=p≠[]/\∀b∈p,A5 b.toNat=true
def Ia (t:Tx):Prop:=t≠[]/\∀b∈t,A3 b.toNat=true\/Ax b.toNat=true
def C9 (a:RAtom):Prop:=Gm a.pred/\a.terms≠[]/\a.terms.length<=3/\∀t∈a.terms,Ia t
def Bv (x:RItem):Prop:=Gm x.head.pred/\(x.out=true->x.head.nt=false/\x.head.terms=[]/\x.body=[])/\(x.out=false->C9 x.head/\x.head.nt=false/\x.body.length<=5/\∀a∈x.body,C9 a)
def A8 (ts:List Tx):Tx:=ts.flatMap fun t=>44::t
def A2:List Tx->Tx
 |[]=>[]
 |t::ts=>t++A8 ts
def A9 (a:RAtom):Tx:=a.pred++40::(A2 a.terms++[41])
def Bg (a:RAtom):Tx:=(if a.nt=true then [33]else [])++A9 a
def Cw (x:RItem):Tx:=A9 x.head++(if x.body=[]then []else 58::45::A2 (x.body.map Bg))
def A0 (x:RItem):Tx:=if x.out=true then 63::x.head.pred else Cw x
theorem A1 {α β:Type}{a:Rd α}{f:α->Tx->Rd β}{y:β}{r:Tx}(h:a.bnd f= .got y r):∃x q,a= .got x q/\f x q= .got y r:=by
 cases a with
 |bad e=>cases h
 |got x q=>exact⟨x,q,rfl,h⟩
theorem G9 {c:UInt8}{s r:Tx}{x:Unit}(h:Az c.toNat s= .got x r):s=c::r:=by
 cases s with
 |nil=>cases h
 |cons b q=>
  unfold Az at h;dsimp only at h;split at h
  ·rename_i hb;cases h;rw[Jo c hb]
  ·cases h
theorem Dp (p:Int->Bool):∀(n:Nat) (s:Tx),s=(Av p n s).1++(Av p n s).2/\(∀b∈(Av p n s).1,p b.toNat=true)
 |0,s=>by simp[Av]
 |n+1,[]=>by simp[Av]
 |n+1,b::r=>by
  unfold Av;split
  ·rename_i h;obtain⟨h1,h2⟩:=Dp p n r;refine⟨by simp;exact h1,?_⟩;intro c hc;rcases Ace.1 hc with rfl|hc
   ·exact h
   ·exact h2 c hc
  ·simp
theorem Mf {s r p:Tx}(h:D6 s= .got p r):s=p++r/\Gm p:=by
 unfold D6 at h;split at h
 ·cases h
 ·rename_i hne;cases h;exact⟨(Dp A5 6 s).1,hne,(Dp A5 6 s).2⟩
theorem Sj {s r t:Tx}(h:Cf s= .got t r):s=t++r/\Ia t:=by
 cases s with
 |nil=>cases h
 |cons b q=>
  unfold Cf at h;dsimp only at h;split at h
  ·rename_i hl;cases h;exact⟨rfl,by simp,by simp[hl]⟩
  ·split at h
   ·rename_i hz;cases h;refine⟨rfl,by simp,?_⟩;intro c hc;simp at hc;subst hc;right;simp[Ax]at*
    omega
   ·split at h
    ·rename_i hn;cases h;obtain⟨h1,h2⟩:=Dp Ax 2 q;refine⟨by simp;exact h1,by simp,?_⟩;intro c hc;rcases Ace.1 hc with rfl|hc
     ·right;exact digit_iff.2 (.inl hn)
     ·right;exact h2 c hc
    ·cases h
theorem Sm {α:Type}{W:α->Prop}{u:α->Tx}{f:Tx->Rd α}(hf:∀s x r,f s= .got x r->s=u x++r/\W x):∀(n:Nat) (s:Tx) (xs:List α) (r:Tx),De f n s= .got xs r->
  s=A8 (xs.map u)++r/\xs.length<=n/\∀x∈xs,W x:=by
 intro n;induction n with
 |zero=>intro s xs r h;cases h;simp[A8]
 |succ n ih=>
  intro s xs r h;cases s with
  |nil=>cases h;simp[A8]
  |cons b q=>
   unfold De at h;split at h
   ·rename_i hb;obtain⟨x,q1,h1,h2⟩:=A1 h;obtain⟨ys,q2,h3,h4⟩:=A1 h2;cases h4;obtain⟨g1,g2⟩:=hf _ _ _ h1;obtain⟨g3,g4,g5⟩:=ih _ _ _ h3;refine⟨?_,by simp;omega,?_⟩
    ·rw[Jo 44 hb,g1,g3];simp[A8]
    ·intro y hy;rcases Ace.1 hy with rfl|hy
     ·exact g2
     ·exact g5 y hy
   ·cases h;simp[A8]
theorem Hi {nt:Bool}{s r:Tx}{a:RAtom}(h:Df nt s= .got a r):s=A9 a++r/\C9 a/\a.nt=nt:=by
 unfold Df Ss at h;obtain⟨p,q1,h1,h⟩:=A1 h;obtain⟨_,q2,h2,h⟩:=A1 h;obtain⟨t,q3,h3,h⟩:=A1 h;obtain⟨ts,q4,h4,h⟩:=A1 h;obtain⟨_,q5,h5,h⟩:=A1 h;cases h;obtain⟨a1,a2⟩:=Mf h1;have a3:=G9 (c:=40) h2;obtain⟨a4,a5⟩:=Sj h3;obtain⟨a6,a7,a8⟩:=Sm (u:=id) (fun s x r h=>Sj h) _ _ _ _ h4;have a9:=G9 (c:=41) h5;refine⟨?_,⟨a2,by simp,by simp;omega,?_⟩,rfl⟩
 ·rw[a1,a3,a4,a6,a9];simp[A9,A2]
 ·intro y hy;rcases Ace.1 hy with rfl|hy
  ·exact a5
  ·exact a8 y hy
theorem Wc {s r:Tx}{a:RAtom}(h:Iv s= .got a r):s=Bg a++r/\C9 a:=by
 cases s with
 |nil=>cases h
 |cons b q=>
  unfold Iv at h;dsimp only at h;split at h
  ·rename_i hb;obtain⟨h1,h2,h3⟩:=Hi h;exact⟨by rw[Jo 33 hb,h1];simp[Bg,h3],h2⟩
  ·obtain⟨h1,h2,h3⟩:=Hi h;exact⟨by rw[h1];simp[Bg,h3],h2⟩
theorem Sq {s r:Tx}{x:RItem}(h:Eo s= .got x r):s=A0 x++46::r/\Bv x:=by
 cases s with
 |nil=>cases h
 |cons b q=>
  unfold Eo at h;dsimp only at h;split at h
  ·rename_i hb;unfold X8 at h;obtain⟨p,q1,h1,h⟩:=A1 h;obtain⟨_,q2,h2,h⟩:=A1 h;cases h;obtain⟨a1,a2⟩:=Mf h1;have a3:=G9 (c:=46) h2;exact⟨by rw[Jo 63 hb,a1,a3];simp[A0],a2,by simp,by simp⟩
  ·unfold L0 at h;obtain⟨hd,q1,h1,h⟩:=A1 h;obtain⟨a1,a2,a3⟩:=Hi h1;cases q1 with
   |nil=>cases h
   |cons c q2=>
    unfold Lz at h;dsimp only at h;split at h
    ·rename_i hc;cases h;exact⟨by rw[a1,Jo 46 hc];simp[A0,Cw],a2.1,by simp,fun _=>⟨a2,a3,by simp,by simp⟩⟩
    ·unfold Ps at h;obtain⟨_,q3,h2,h⟩:=A1 h;obtain⟨_,q4,h3,h⟩:=A1 h;obtain⟨l,q5,h4,h⟩:=A1 h;obtain⟨ls,q6,h5,h⟩:=A1 h;obtain⟨_,q7,h6,h⟩:=A1 h;cases h;have b1:=G9 (c:=58) h2;have b2:=G9 (c:=45) h3;obtain⟨b3,b4⟩:=Wc h4;obtain⟨b5,b6,b7⟩:=Sm (fun s x r h=>Wc h) _ _ _ _ h5;have b8:=G9 (c:=46) h6;refine⟨by rw[a1,b1,b2,b3,b5,b8];simp[A0,Cw,A2],a2.1,by simp,fun _=>⟨a2,a3,by simp;omega,?_⟩⟩;intro y hy;rcases Ace.1 hy with rfl|hy
     ·exact b4
     ·exact b7 y hy
def Bl (l:List RItem):Tx:=l.flatMap fun x=>A0 x++[46]
theorem H8:∀(n:Nat) (s:Tx) (l:List RItem) (r:Tx),Bu n s= .got l r->s=Bl l/\r=[]/\l.length<=n/\∀x∈l,Bv x:=by
 intro n;induction n with
 |zero=>
  intro s l r h;cases s with
  |nil=>cases h;simp[Bl]
  |cons b q=>cases h
 |succ n ih=>
  intro s l r h;cases s with
  |nil=>cases h;simp[Bl]
  |cons b q=>
   unfold Bu at h;obtain⟨x,q1,h1,h⟩:=A1 h;obtain⟨xs,q2,h2,h⟩:=A1 h;cases h;obtain⟨a1,a2⟩:=Sq h1;obtain⟨b1,b2,b3,b4⟩:=ih _ _ _ h2;refine⟨by rw[a1,b1];simp[Bl],b2,by simp;omega,?_⟩;intro y hy;rcases Ace.1 hy with rfl|hy
   ·exact a2
   ·exact b4 y hy
end Go.Proofs.YtmoeoppbmhfbpabGreatDoorH
