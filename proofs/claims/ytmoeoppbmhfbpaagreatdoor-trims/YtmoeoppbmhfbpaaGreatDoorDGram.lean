import Derived.Test.YtmoeoppbmhfbpaaGreatDoorDRefA
import Derived.Test.YtmoeoppbmhfbpaaGreatDoorDRefH
set_option maxHeartbeats 16000000
set_option maxRecDepth 100000
set_option linter.all false
namespace Go.Proofs.YtmoeoppbmhfbpaaGreatDoorD
open Go.Abs
abbrev Tx:=List UInt8
inductive Rd (α:Type) where
 |bad (e:Tx)
 |got (x:α) (r:Tx)
def Rd.bnd {α β:Type}:Rd α->(α->Tx->Rd β)->Rd β
 |.bad e,_=>.bad e
 |.got x r,f=>f x r
def A1 (c:Int):Bool:=decide (48<=c)&&decide (c<=57)
def Az (c:Int):Tx->Rd Unit
 |[]=>.bad []
 |b::r=>if ((b.toNat:Int)==c)=true then .got () r else .bad (b::r)
def Av (p:Int->Bool):Nat->Tx->Tx×Tx
 |0,s=>([],s)
 |_+1,[]=>([],[])
 |n+1,b::r=>if p b.toNat=true then (b::(Av p n r).1,(Av p n r).2)else ([],b::r)
def Ej (s:Tx):Rd Tx:=if (Av Bn 6 s).1=[]then .bad s else .got (Av Bn 6 s).1 (Av Bn 6 s).2
def Cp:Tx->Rd Tx
 |[]=>.bad []
 |b::r=>if Bo b.toNat=true then .got [b] r else if ((b.toNat:Int)==48)=true then .got [b] r
  else if F7 b.toNat=true then .got (b::(Av A1 2 r).1) (Av A1 2 r).2 else .bad (b::r)
def Dr {α:Type}(f:Tx->Rd α):Nat->Tx->Rd (List α)
 |0,s=>.got [] s
 |_+1,[]=>.got [] []
 |n+1,b::r=>if ((b.toNat:Int)==44)=true then
  (f r).bnd fun x r1=>(Dr f n r1).bnd fun xs r2=>.got (x::xs) r2
  else .got [] (b::r)
def Ur (nt:Bool)(p:Tx)(s:Tx):Rd RAtom:=
 (Cp s).bnd fun t r=>(Dr Cp 2 r).bnd fun ts r=>(Az 41 r).bnd fun _ r=>.got {nt:=nt,pred:=p,terms:=t::ts} r
def Ds (nt:Bool)(s:Tx):Rd RAtom:=
 (Ej s).bnd fun p r=>(Az 40 r).bnd fun _ r=>Ur nt p r
def Jr:Tx->Rd RAtom
 |[]=>.bad []
 |b::r=>if ((b.toNat:Int)==33)=true then Ds true r else Ds false (b::r)
def Q5 (h:RAtom)(s:Tx):Rd RItem:=
 (Jr s).bnd fun l r=>(Dr Jr 4 r).bnd fun ls r=>(Az 46 r).bnd fun _ r=>.got {out:=false,head:=h,body:=l::ls} r
def Nb (h:RAtom):Tx->Rd RItem
 |[]=>.bad []
 |b::r=>if ((b.toNat:Int)==46)=true then .got {out:=false,head:=h,body:=[]} r else
  (Az 58 (b::r)).bnd fun _ r=>(Az 45 r).bnd fun _ r=>Q5 h r
def Nc (s:Tx):Rd RItem:=(Ds false s).bnd fun h r=>Nb h r
def bJ (s:Tx):Rd RItem:=
 (Ej s).bnd fun p r=>(Az 46 r).bnd fun _ r=>.got {out:=true,head:={nt:=false,pred:=p,terms:=[]},body:=[]} r
def E9:Tx->Rd RItem
 |[]=>.bad []
 |b::r=>if ((b.toNat:Int)==63)=true then bJ r else Nc (b::r)
def Bv:Nat->Tx->Rd (List RItem)
 |_,[]=>.got [] []
 |0,s=>.bad s
 |n+1,s=>(E9 s).bnd fun x r=>(Bv n r).bnd fun xs r=>.got (x::xs) r
def stop:Scan->Tx->Option Tx
 |X,[]=>if X.st !=0 then some []else none
 |X,c::r=>if (A4 X c).2=true then stop (A4 X c).1 r else some (c::r)
theorem qZ:∀(s:Tx) (X:Scan) (i:Nat),
  (match (Lg X s i).2 with|some j=>(j:Int)|none=>if (Lg X s i).1.st !=0 then ((i+s.length:Nat):Int)else -1)=match stop X s with|some r=>((i+s.length-r.length:Nat):Int)|none=> -1:=by
 intro s;induction s with
 |nil=>intro X i;simp only[Lg,stop];split<;>simp_all
 |cons c r ih=>
  intro X i;unfold Lg stop;by_cases h:(A4 X c).2=true
  ·simp only[h,if_true];have:=ih (A4 X c).1 (i+1);rw[show i+(c::r).length=i+1+r.length by simp;omega];exact this
  ·simp only[h];simp
theorem gE (s:Tx):Eh s=match stop It s with|some r=>((s.length-r.length:Nat):Int)|none=> -1:=by
 have:=qZ s It 0;unfold Eh;rw[Aea]at this;rw[<-this];rfl
def Via {α:Type}(P:Scan->Prop)(res:Rd α)(o:Option Tx):Prop:=
 match res with
 |.bad e=>o=some e
 |.got _ r=>∃X',P X'/\o=stop X' r
theorem Via.bind {α β:Type}{P Q:Scan->Prop}{res:Rd α}{o:Option Tx}{f:α->Tx->Rd β}(h:Via P res o)(k:∀x r X',P X'->Via Q (f x r) (stop X' r)):Via Q (res.bnd f) o:=by
 cases res with
 |bad e=>exact h
 |got x r=>
  obtain⟨X',hP,rfl⟩:=h;exact k x r X' hP
theorem Via.ret {α:Type}{P:Scan->Prop}{x:α}{r:Tx}{X:Scan}(h:P X):Via P (.got x r) (stop X r):=⟨X,h,rfl⟩
theorem Via.err {α:Type}{P:Scan->Prop}{e:Tx}{o:Option Tx}(h:o=some e):Via (α:=α) P (.bad e) o:=h
theorem C5 {X:Scan}{c:UInt8}{r:Tx}(h:(A4 X c).2=true):stop X (c::r)=stop (A4 X c).1 r:=by
 rw[stop,if_pos h]
theorem Fj {X:Scan}{c:UInt8}{r:Tx}(h:(A4 X c).2=false):stop X (c::r)=some (c::r):=by
 rw[stop,if_neg (by simp[h])]
theorem Dg {X:Scan}(h:X.st≠0):stop X []=some []:=by
 rw[stop,if_pos (by simpa using h)]
def vE (X X':Scan):Prop:=X'.items=X.items/\X'.lits=X.lits/\X'.head=X.head
theorem tU:∀(n:Nat) (s:Tx) (X:Scan),X.st=5->X.letters=6-(n:Int)->n<=6->
  Via (fun X'=>X'.st=6/\X'.terms=0/\vE X X') (Az 40 (Av Bn n s).2) (stop X s):=by
 intro n;induction n with
 |zero=>
  intro s X h5 hl hn;cases s with
  |nil=>exact Via.err (Dg Agm)
  |cons b r=>
   unfold Av Az;simp only;by_cases hb:((b.toNat:Int)==40)=true
   ·rw[if_pos hb];have e:A4 X b=({X with terms:=0,st:=6},true):=by
     simp[A4,Dn,h5,hl,hb]
    rw[C5 (by rw[e]),e];exact Via.ret ⟨rfl,rfl,rfl,rfl,rfl⟩
   ·rw[if_neg hb];refine Via.err (Fj ?_);simp[A4,Dn,h5,hl,hb]
 |succ n ih=>
  intro s X h5 hl hn;cases s with
  |nil=>exact Via.err (Dg Agm)
  |cons b r=>
   unfold Av;by_cases hs:Bn b.toNat=true
   ·rw[if_pos hs];have e:A4 X b=({X with letters:=X.letters+1},true):=by
     simp[A4,Dn,h5,hs];omega
    rw[C5 (by rw[e]),e];exact ih r {X with letters:=X.letters+1} h5 (by simp;omega) Agm
   ·rw[if_neg hs];unfold Az;simp only;by_cases hb:((b.toNat:Int)==40)=true
    ·rw[if_pos hb];have e:A4 X b=({X with terms:=0,st:=6},true):=by
      simp[A4,Dn,h5,hs,hb]
     rw[C5 (by rw[e]),e];exact Via.ret ⟨rfl,rfl,rfl,rfl,rfl⟩
    ·rw[if_neg hb];refine Via.err (Fj ?_);simp[A4,Dn,h5,hs,hb]
theorem F0 {α β γ:Type}(a:Rd α)(f:α->Tx->Rd β)(g:β->Tx->Rd γ):(a.bnd f).bnd g=a.bnd fun x r=>(f x r).bnd g:=by cases a<;>rfl
theorem digit_iff {c:Int}:A1 c=true↔(F7 c=true\/(c==48)=true):=by
 simp[A1,F7];omega
theorem Lp {c:Int}(h:Bo c=true):F7 c=false:=by
 simp[Bo,F7]at*;omega
theorem Ld {X:Scan}{s:Tx}(h7:X.st=7)(h:∀b r,s=b::r->A1 b.toNat=true->¬X.digits<3):stop X s=stop {X with st:=8} s:=by
 cases s with
 |nil=>rw[Dg Agm,Dg (by simp)]
 |cons b r=>
  have hd:=h b r rfl;have hq:¬((X.st==7)=true/\decide (X.digits<3)=true/\(F7 b.toNat=true\/((b.toNat:Int)==48)=true)):=by
   rintro⟨-,q1,q2⟩;exact hd (digit_iff.2 q2) (by simpa using q1)
  have e1:A4 X b=if ((b.toNat:Int)==41)=true then ({X with lits:=if (!X.head)=true then X.lits+1 else X.lits,st:=9},true)else if ((b.toNat:Int)==44)=true/\decide (X.terms<3)=true then ({X with st:=6},true)else (X,false):=by
   unfold A4 Dn;rw[if_pos (by simp[h7]),if_neg (by simp[h7]),if_neg (by simp[h7]),if_neg hq]
  have e2:A4 {X with st:=8} b=if ((b.toNat:Int)==41)=true then ({X with lits:=if (!X.head)=true then X.lits+1 else X.lits,st:=9},true)else if ((b.toNat:Int)==44)=true/\decide (X.terms<3)=true then ({X with st:=6},true)else ({X with st:=8},false):=by
   unfold A4 Dn;rw[if_pos (by simp),if_neg (by simp),if_neg (by simp),if_neg (by simp)]
  unfold stop;rw[e1,e2];by_cases h1:((b.toNat:Int)==41)=true
  ·rw[if_pos h1,if_pos h1]
  ·rw[if_neg h1,if_neg h1];by_cases h2:((b.toNat:Int)==44)=true/\decide (X.terms<3)=true
   ·rw[if_pos h2,if_pos h2]
   ·rw[if_neg h2,if_neg h2];rfl
theorem kH:∀(n:Nat) (s:Tx) (X:Scan),X.st=7->X.digits=3-(n:Int)->∃X',X'.st=8/\X'.terms=X.terms/\vE X X'/\stop X s=stop X' (Av A1 n s).2:=by
 intro n;induction n with
 |zero=>
  intro s X h7 hd;exact⟨{X with st:=8},rfl,rfl,⟨rfl,rfl,rfl⟩,Ld h7 (fun _ _ _ _=>Agm)⟩
 |succ n ih=>
  intro s X h7 hd;cases s with
  |nil=>exact⟨{X with st:=8},rfl,rfl,⟨rfl,rfl,rfl⟩,Ld h7 (fun _ _ h _=>by cases h)⟩
  |cons b r=>
   unfold Av;by_cases hb:A1 b.toNat=true
   ·rw[if_pos hb];have e:A4 X b=({X with digits:=X.digits+1},true):=by
     have:=digit_iff.1 hb;unfold A4 Dn;rw[if_pos (by simp[h7]),if_neg (by simp[h7]),if_neg (by simp[h7]),if_pos ⟨by simp[h7],by simp;omega,this⟩]
    rw[C5 (by rw[e]),e];obtain⟨X',h1,h2,h3,h4⟩:=ih r {X with digits:=X.digits+1} h7 (by simp;omega);exact⟨X',h1,h2,h3,h4⟩
   ·rw[if_neg hb];exact⟨{X with st:=8},rfl,rfl,⟨rfl,rfl,rfl⟩,Ld h7 (fun c q h hc=>by cases h;exact absurd hc hb)⟩
theorem dI (s:Tx)(X:Scan)(h6:X.st=6):Via (fun X'=>X'.st=8/\X'.terms=X.terms+1/\vE X X') (Cp s) (stop X s):=by
 cases s with
 |nil=>exact Via.err (Dg Agm)
 |cons b r=>
  unfold Cp;by_cases hl:Bo b.toNat=true
  ·simp only[hl,if_true];have e:A4 X b=({X with terms:=X.terms+1,digits:=1,st:=8},true):=by
    simp[A4,Dn,h6,hl,Lp hl]
   rw[C5 (by rw[e]),e];exact Via.ret ⟨rfl,rfl,rfl,rfl,rfl⟩
  ·simp only[hl];by_cases hz:((b.toNat:Int)==48)=true
   ·have hn:F7 b.toNat=false:=by simp[F7]at*;omega
    simp only[hz,if_true];have e:A4 X b=({X with terms:=X.terms+1,digits:=1,st:=8},true):=by
     simp[A4,Dn,h6,hl,hz,hn]
    rw[C5 (by rw[e]),e];exact Via.ret ⟨rfl,rfl,rfl,rfl,rfl⟩
   ·simp only[hz];by_cases hn:F7 b.toNat=true
    ·simp only[hn,if_true];have e:A4 X b=({X with terms:=X.terms+1,digits:=1,st:=7},true):=by
      simp[A4,Dn,h6,hn]
     rw[C5 (by rw[e]),e];obtain⟨X',h1,h2,h3,h4⟩:=kH 2 r {X with terms:=X.terms+1,digits:=1,st:=7} rfl (by simp);exact⟨X',⟨h1,h2,h3⟩,h4⟩
    ·simp only[hn];refine Via.err (Fj ?_);simp[A4,Dn,h6,hl,hz,hn]
def Aav (it li:Int)(hd:Bool)(X:Scan):Prop:=X.st=9/\X.items=it/\X.head=hd/\X.lits=if hd=true then li else li+1
theorem W0 {β:Type}(s:Tx)(X:Scan)(k:β)(h8:X.st=8)(h:∀b r,s=b::r->((b.toNat:Int)==44)=true->¬X.terms<3):
  Via (Aav X.items X.lits X.head) ((Az 41 s).bnd fun _ r=>.got k r) (stop X s):=by
 cases s with
 |nil=>exact Via.err (Dg Agm)
 |cons b r=>
  unfold Az;have hh:=h b r rfl;by_cases hb:((b.toNat:Int)==41)=true
  ·simp only[hb,if_true];have e:A4 X b=({X with lits:=if (!X.head)=true then X.lits+1 else X.lits,st:=9},true):=by
    simp[A4,Dn,h8,hb]
   rw[C5 (by rw[e]),e];refine Via.ret ⟨rfl,rfl,rfl,?_⟩;cases X.head<;>simp
  ·simp only[hb];refine Via.err (Fj ?_);simp[A4,Dn,h8,hb];rw[if_neg];rintro⟨h1,h2⟩;have:=hh (by simpa using h1);omega
theorem tY {β:Type}:∀(n:Nat) (s:Tx) (X:Scan) (k:List Tx->β),X.st=8->X.terms=3-(n:Int)->
  Via (Aav X.items X.lits X.head) ((Dr Cp n s).bnd fun ts r=>(Az 41 r).bnd fun _ r=>.got (k ts) r) (stop X s):=by
 intro n;induction n with
 |zero=>
  intro s X k h8 ht;exact W0 s X (k []) h8 (fun _ _ _ _=>Agm)
 |succ n ih=>
  intro s X k h8 ht;cases s with
  |nil=>exact Via.err (Dg Agm)
  |cons b r=>
   unfold Dr;by_cases hb:((b.toNat:Int)==44)=true
   ·simp only[hb,if_true];have e:A4 X b=({X with st:=6},true):=by
     have:¬((b.toNat:Int)==41)=true:=by simp at*;omega
     simp[A4,Dn,h8,hb,this];omega
    rw[C5 (by rw[e]),e,F0];refine Via.bind (dI r {X with st:=6} rfl) ?_;rintro x r1 X' ⟨h1,h2,h3,h4,h5⟩;rw[F0];have:=ih r1 X' (fun ts=>k (x::ts)) h1 (by simp at h2;omega);rw[h3,h4,h5]at this;exact this
   ·simp only[hb];exact W0 (b::r) X (k []) h8 (fun c q h hc=>by cases h;exact absurd hc hb)
theorem Sm (nt:Bool)(b:UInt8)(r:Tx)(X:Scan)(it li:Int)(hd:Bool)(hs:Bn b.toNat=true->∃X1,A4 X b=(X1,true)/\X1.st=5/\X1.letters=1/\X1.items=it/\X1.lits=li/\X1.head=hd)
  (hn:Bn b.toNat=false->(A4 X b).2=false):Via (Aav it li hd) (Ds nt (b::r)) (stop X (b::r)):=by
 unfold Ds Ej;by_cases hb:Bn b.toNat=true
 ·obtain⟨X1,e,h1,h2,h3,h4,h5⟩:=hs hb;rw[C5 (by rw[e]),e];have e6:Av Bn 6 (b::r)=(b::(Av Bn 5 r).1,(Av Bn 5 r).2):=by rw[Av,if_pos hb]
  rw[e6];simp only[reduceCtorEq,if_false,Rd.bnd];refine Via.bind (tU 5 r X1 h1 Agm Agm) ?_;rintro _ r1 X' ⟨g1,g2,g3,g4,g5⟩;unfold Ur;refine Via.bind (dI r1 X' g1) ?_;rintro t r2 X2 ⟨q1,q2,q3,q4,q5⟩;have:=tY 2 r2 X2 (fun ts=>({nt:=nt,pred:=b::(Av Bn 5 r).1,terms:=t::ts}:RAtom)) q1 Agm;rw[q3,g3,h3,q4,g4,h4,q5,g5,h5]at this;exact this
 ·have aa:Bn b.toNat=false:=by simpa using hb
  have e6:Av Bn 6 (b::r)=([],b::r):=by rw[Av,if_neg hb]
  rw[e6];simp only[if_true,Rd.bnd];exact Via.err (Fj (hn aa))
theorem nN (s:Tx)(X:Scan)(h3:X.st=3):Via (Aav X.items X.lits X.head) (Jr s) (stop X s):=by
 cases s with
 |nil=>exact Via.err (Dg Agm)
 |cons b r=>
  unfold Jr;by_cases hb:((b.toNat:Int)==33)=true
  ·simp only[hb,if_true];have e:A4 X b=({X with letters:=1,st:=4},true):=by simp[A4,Cs,h3,hb]
   rw[C5 (by rw[e]),e];cases r with
   |nil=>
    refine Via.err (Dg (by simp))
   |cons c q=>
    refine Sm true c q _ _ _ _ (fun hs=>⟨{X with letters:=1,st:=5},?_,rfl,rfl,rfl,rfl,rfl⟩) (fun hs=>?_)
    ·simp[A4,Cs,hs]
    ·simp[A4,Cs,hs]
  ·simp only[hb];refine Sm false b r _ _ _ _ (fun hs=>⟨{X with letters:=1,st:=5},?_,rfl,rfl,rfl,rfl,rfl⟩) (fun hs=>?_)
   ·simp[A4,Cs,h3,hb,hs]
   ·simp[A4,Cs,h3,hb,hs]
def Next (it:Int)(X:Scan):Prop:=X.st=0/\X.items=it+1
theorem nP {β:Type}(s:Tx)(X:Scan)(k:β)(h9:X.st=9)(hh:X.head=false)(h:∀b r,s=b::r->((b.toNat:Int)==44)=true->¬X.lits<5):
  Via (Next X.items) ((Az 46 s).bnd fun _ r=>.got k r) (stop X s):=by
 cases s with
 |nil=>exact Via.err (Dg Agm)
 |cons b r=>
  unfold Az;have hq:=h b r rfl;by_cases hb:((b.toNat:Int)==46)=true
  ·simp only[hb,if_true];have e:A4 X b=({X with items:=X.items+1,st:=0},true):=by simp[A4,Cs,h9,hb]
   rw[C5 (by rw[e]),e];exact Via.ret ⟨rfl,rfl⟩
  ·simp only[hb];refine Via.err (Fj ?_);simp[A4,Cs,h9,hb,hh];rw[if_neg];rintro⟨h1,h2⟩;have:=hq (by simpa using h1);omega
theorem tV {β:Type}:∀(n:Nat) (s:Tx) (X:Scan) (k:List RAtom->β),X.st=9->X.head=false->X.lits=5-(n:Int)->
  Via (Next X.items) ((Dr Jr n s).bnd fun ts r=>(Az 46 r).bnd fun _ r=>.got (k ts) r) (stop X s):=by
 intro n;induction n with
 |zero=>
  intro s X k h9 hh ht;exact nP s X (k []) h9 hh (fun _ _ _ _=>Agm)
 |succ n ih=>
  intro s X k h9 hh ht;cases s with
  |nil=>exact Via.err (Dg Agm)
  |cons b r=>
   unfold Dr;by_cases hb:((b.toNat:Int)==44)=true
   ·simp only[hb,if_true];have e:A4 X b=({X with st:=3},true):=by
     have h1:¬((b.toNat:Int)==46)=true:=by simp at*;omega
     simp[A4,Cs,h9,hb,h1,hh];omega
    rw[C5 (by rw[e]),e,F0];refine Via.bind (nN r {X with st:=3} rfl) ?_;rintro x r1 X' ⟨h1,h2,h3,h4⟩;rw[F0];have:=ih r1 X' (fun ts=>k (x::ts)) h1 (by rw[h3];exact hh) (by simp[hh]at h4;omega);rw[h2]at this;exact this
   ·simp only[hb];exact nP (b::r) X (k []) h9 hh (fun c q h hc=>by cases h;exact absurd hc hb)
theorem tX (h:RAtom)(s:Tx)(X:Scan)(h3:X.st=3)(hh:X.head=false)(hl:X.lits=0):Via (Next X.items) (Q5 h s) (stop X s):=by
 unfold Q5;refine Via.bind (nN s X h3) ?_;rintro x r X' ⟨h1,h2,h4,h5⟩;have:=tV 4 r X' (fun ls=>({out:=false,head:=h,body:=x::ls}:RItem)) h1 (by rw[h4];exact hh) (by simp[hh,hl]at h5;omega);rw[h2]at this;exact this
theorem tT (h:RAtom)(s:Tx)(X:Scan)(h9:X.st=9)(hh:X.head=true)(hl:X.lits=0):Via (Next X.items) (Nb h s) (stop X s):=by
 cases s with
 |nil=>exact Via.err (Dg Agm)
 |cons b r=>
  unfold Nb;by_cases hb:((b.toNat:Int)==46)=true
  ·simp only[hb,if_true];have e:A4 X b=({X with items:=X.items+1,st:=0},true):=by simp[A4,Cs,h9,hb]
   rw[C5 (by rw[e]),e];exact Via.ret ⟨rfl,rfl⟩
  ·simp only[hb];unfold Az;by_cases hc:((b.toNat:Int)==58)=true
   ·simp only[hc,if_true];have e:A4 X b=({X with st:=10},true):=by simp[A4,Cs,h9,hb,hc,hh]
    rw[C5 (by rw[e]),e];cases r with
    |nil=>exact Via.err (Dg (by simp))
    |cons c q=>
     by_cases hd:((c.toNat:Int)==45)=true
     ·simp only[hd,if_true,Rd.bnd];have e:A4 {X with st:=10} c=({X with head:=false,st:=3},true):=by simp[A4,Cs,hd]
      simp only[Aei,if_false];rw[C5 (by rw[e]),e];exact tX h q {X with head:=false,st:=3} rfl rfl hl
     ·simp only[hd,Rd.bnd];refine Via.err (Fj ?_);simp[A4,Cs,hd]
   ·simp only[hc];refine Via.err (Fj ?_);simp[A4,Cs,h9,hb,hc,hh]
theorem qM:∀(n:Nat) (s:Tx) (X:Scan) (k:Tx->RItem),X.st=2->X.letters=6-(n:Int)->
  Via (Next X.items) ((Az 46 (Av Bn n s).2).bnd fun _ r=>.got (k (Av Bn n s).1) r) (stop X s):=by
 intro n;induction n with
 |zero=>
  intro s X k h2 hl;cases s with
  |nil=>exact Via.err (Dg Agm)
  |cons b r=>
   unfold Av Az;by_cases hb:((b.toNat:Int)==46)=true
   ·simp only[hb,if_true];have e:A4 X b=({X with items:=X.items+1,st:=0},true):=by simp[A4,Cs,h2,hl,hb]
    rw[C5 (by rw[e]),e];exact Via.ret ⟨rfl,rfl⟩
   ·simp only[hb];refine Via.err (Fj ?_);simp[A4,Cs,h2,hl,hb]
 |succ n ih=>
  intro s X k h2 hl;cases s with
  |nil=>exact Via.err (Dg Agm)
  |cons b r=>
   unfold Av;by_cases hs:Bn b.toNat=true
   ·simp only[hs,if_true];have e:A4 X b=({X with letters:=X.letters+1,st:=2},true):=by
     simp[A4,Cs,h2,hs];omega
    rw[C5 (by rw[e]),e];exact ih r {X with letters:=X.letters+1,st:=2} (fun x=>k (b::x)) rfl (by simp;omega)
   ·simp only[hs];unfold Az;by_cases hb:((b.toNat:Int)==46)=true
    ·simp only[Aei,if_false,hb,if_true];have e:A4 X b=({X with items:=X.items+1,st:=0},true):=by simp[A4,Cs,h2,hs,hb]
     rw[C5 (by rw[e]),e];exact Via.ret ⟨rfl,rfl⟩
    ·simp only[Aei,if_false,hb];refine Via.err (Fj ?_);simp[A4,Cs,h2,hs,hb]
theorem tW (b:UInt8)(r:Tx)(X:Scan)(h0:X.st=0)(hi:X.items≠16):Via (Next X.items) (E9 (b::r)) (stop X (b::r)):=by
 unfold E9;by_cases hb:((b.toNat:Int)==63)=true
 ·simp only[hb,if_true];have e:A4 X b=({X with head:=true,letters:=0,lits:=0,st:=1},true):=by simp[A4,Cs,h0,hi,hb]
  rw[C5 (by rw[e]),e];unfold bJ Ej;cases r with
  |nil=>exact Via.err (Dg (by simp))
  |cons c q=>
   by_cases hs:Bn c.toNat=true
   ·have e6:Av Bn 6 (c::q)=(c::(Av Bn 5 q).1,(Av Bn 5 q).2):=by rw[Av,if_pos hs]
    rw[e6];simp only[reduceCtorEq,if_false,Rd.bnd];have e:A4 {X with head:=true,letters:=0,lits:=0,st:=1} c=({X with head:=true,letters:=1,lits:=0,st:=2},true):=by simp[A4,Cs,hs]
    rw[C5 (by rw[e]),e];exact qM 5 q {X with head:=true,letters:=1,lits:=0,st:=2} (fun x=>{out:=true,head:={nt:=false,pred:=c::x,terms:=[]},body:=[]}) rfl (by simp)
   ·have e6:Av Bn 6 (c::q)=([],c::q):=by rw[Av,if_neg hs]
    rw[e6];simp only[if_true,Rd.bnd];refine Via.err (Fj ?_);simp[A4,Cs,hs]
 ·simp only[hb];unfold Nc;refine Via.bind (Sm false b r X X.items 0 true (fun hs=>⟨{X with head:=true,letters:=1,lits:=0,st:=5},?_,rfl,rfl,rfl,rfl,rfl⟩) (fun hs=>?_)) ?_
  ·simp[A4,Cs,h0,hi,hb,hs]
  ·simp[A4,Cs,h0,hi,hb,hs]
  ·rintro x r X' ⟨h1,h2,h3,h4⟩;have:=tT x r X' h1 h3 (by simpa using h4);rw[h2]at this;exact this
theorem qN:∀(n:Nat) (s:Tx) (X:Scan),X.st=0->X.items=16-(n:Int)->stop X s=match Bv n s with|.bad e=>some e|.got _ _=>none:=by
 intro n;induction n with
 |zero=>
  intro s X h0 hi;cases s with
  |nil=>simp[stop,Bv,h0]
  |cons b r=>
   simp only[Bv];refine Fj ?_;simp[A4,Cs,h0,hi]
 |succ n ih=>
  intro s X h0 hi;cases s with
  |nil=>simp[stop,Bv,h0]
  |cons b r=>
   have hv:=tW b r X h0 Agm;unfold Bv;cases hp:E9 (b::r)with
   |bad e=>rw[hp]at hv;exact hv
   |got x q=>
    rw[hp]at hv;obtain⟨X',⟨h1,h2⟩,h3⟩:=hv;rw[h3,ih q X' h1 Agm];simp only[Rd.bnd];cases Bv n q<;>rfl
theorem Hm (s:Tx):Eh s=match Bv 16 s with|.bad e=>((s.length-e.length:Nat):Int)|.got _ _=> -1:=by
 rw[gE,qN 16 s It rfl rfl];cases Bv 16 s<;>rfl
theorem Kp {b:UInt8}(c:UInt8)(h:((b.toNat:Int)==(c.toNat:Int))=true):b=c:=by
 have:b.toNat=c.toNat:=by simp at h;omega
 exact UInt8.toNat_inj.1 this
def aQ (p:Tx):Prop:=p≠[]/\∀b∈p,Bn b.toNat=true
def Ri (t:Tx):Prop:=t≠[]/\∀b∈t,Bo b.toNat=true\/A1 b.toNat=true
def F1 (a:RAtom):Prop:=aQ a.pred/\a.terms≠[]/\a.terms.length<=3/\∀t∈a.terms,Ri t
def Du (x:RItem):Prop:=aQ x.head.pred/\(x.out=true->x.head.nt=false/\x.head.terms=[]/\x.body=[])/\(x.out=false->F1 x.head/\x.head.nt=false/\x.body.length<=5/\∀a∈x.body,F1 a)
def Cd (ts:List Tx):Tx:=ts.flatMap fun t=>44::t
def Bj:List Tx->Tx
 |[]=>[]
 |t::ts=>t++Cd ts
def Be (a:RAtom):Tx:=a.pred++40::(Bj a.terms++[41])
def Ch (a:RAtom):Tx:=(if a.nt=true then [33]else [])++Be a
def Dz (x:RItem):Tx:=Be x.head++(if x.body=[]then []else 58::45::Bj (x.body.map Ch))
def Cb (x:RItem):Tx:=if x.out=true then 63::x.head.pred else Dz x
theorem A3 {α β:Type}{a:Rd α}{f:α->Tx->Rd β}{y:β}{r:Tx}(h:a.bnd f= .got y r):∃x q,a= .got x q/\f x q= .got y r:=by
 cases a with
 |bad e=>cases h
 |got x q=>exact⟨x,q,rfl,h⟩
theorem Ht {c:UInt8}{s r:Tx}{x:Unit}(h:Az c.toNat s= .got x r):s=c::r:=by
 cases s with
 |nil=>cases h
 |cons b q=>
  unfold Az at h;dsimp only at h;split at h
  ·rename_i hb;cases h;rw[Kp c hb]
  ·cases h
theorem D4 (p:Int->Bool):∀(n:Nat) (s:Tx),s=(Av p n s).1++(Av p n s).2/\(∀b∈(Av p n s).1,p b.toNat=true)
 |0,s=>by simp[Av]
 |n+1,[]=>by simp[Av]
 |n+1,b::r=>by
  unfold Av;split
  ·rename_i h;obtain⟨h1,h2⟩:=D4 p n r;refine⟨by simp;exact h1,?_⟩;intro c hc;rcases Ae2.1 hc with rfl|hc
   ·exact h
   ·exact h2 c hc
  ·simp
theorem Ny {s r p:Tx}(h:Ej s= .got p r):s=p++r/\aQ p:=by
 unfold Ej at h;split at h
 ·cases h
 ·rename_i aa;cases h;exact⟨(D4 Bn 6 s).1,aa,(D4 Bn 6 s).2⟩
theorem Uk {s r t:Tx}(h:Cp s= .got t r):s=t++r/\Ri t:=by
 cases s with
 |nil=>cases h
 |cons b q=>
  unfold Cp at h;dsimp only at h;split at h
  ·rename_i hl;cases h;exact⟨rfl,by simp,by simp[hl]⟩
  ·split at h
   ·rename_i hz;cases h;refine⟨rfl,by simp,?_⟩;intro c hc;simp at hc;subst hc;right;simp[A1]at*
    omega
   ·split at h
    ·rename_i hn;cases h;obtain⟨h1,h2⟩:=D4 A1 2 q;refine⟨by simp;exact h1,by simp,?_⟩;intro c hc;rcases Ae2.1 hc with rfl|hc
     ·right;exact digit_iff.2 (.inl hn)
     ·right;exact h2 c hc
    ·cases h
theorem Um {α:Type}{W:α->Prop}{u:α->Tx}{f:Tx->Rd α}(hf:∀s x r,f s= .got x r->s=u x++r/\W x):∀(n:Nat) (s:Tx) (xs:List α) (r:Tx),Dr f n s= .got xs r->
  s=Cd (xs.map u)++r/\xs.length<=n/\∀x∈xs,W x:=by
 intro n;induction n with
 |zero=>intro s xs r h;cases h;simp[Cd]
 |succ n ih=>
  intro s xs r h;cases s with
  |nil=>cases h;simp[Cd]
  |cons b q=>
   unfold Dr at h;split at h
   ·rename_i hb;obtain⟨x,q1,h1,h2⟩:=A3 h;obtain⟨ys,q2,h3,h4⟩:=A3 h2;cases h4;obtain⟨g1,g2⟩:=hf _ _ _ h1;obtain⟨g3,g4,g5⟩:=ih _ _ _ h3;refine⟨?_,by simp;omega,?_⟩
    ·rw[Kp 44 hb,g1,g3];simp[Cd]
    ·intro y hy;rcases Ae2.1 hy with rfl|hy
     ·exact g2
     ·exact g5 y hy
   ·cases h;simp[Cd]
theorem H4 {nt:Bool}{s r:Tx}{a:RAtom}(h:Ds nt s= .got a r):s=Be a++r/\F1 a/\a.nt=nt:=by
 unfold Ds Ur at h;obtain⟨p,q1,h1,h⟩:=A3 h;obtain⟨_,q2,h2,h⟩:=A3 h;obtain⟨t,q3,h3,h⟩:=A3 h;obtain⟨ts,q4,h4,h⟩:=A3 h;obtain⟨_,q5,h5,h⟩:=A3 h;cases h;obtain⟨a1,a2⟩:=Ny h1;have a3:=Ht (c:=40) h2;obtain⟨a4,a5⟩:=Uk h3;obtain⟨a6,a7,a8⟩:=Um (u:=id) (fun s x r h=>Uk h) _ _ _ _ h4;have a9:=Ht (c:=41) h5;refine⟨?_,⟨a2,by simp,by simp;omega,?_⟩,rfl⟩
 ·rw[a1,a3,a4,a6,a9];simp[Be,Bj]
 ·intro y hy;rcases Ae2.1 hy with rfl|hy
  ·exact a5
  ·exact a8 y hy
theorem Zb {s r:Tx}{a:RAtom}(h:Jr s= .got a r):s=Ch a++r/\F1 a:=by
 cases s with
 |nil=>cases h
 |cons b q=>
  unfold Jr at h;dsimp only at h;split at h
  ·rename_i hb;obtain⟨h1,h2,h3⟩:=H4 h;exact⟨by rw[Kp 33 hb,h1];simp[Ch,h3],h2⟩
  ·obtain⟨h1,h2,h3⟩:=H4 h;exact⟨by rw[h1];simp[Ch,h3],h2⟩
theorem Up {s r:Tx}{x:RItem}(h:E9 s= .got x r):s=Cb x++46::r/\Du x:=by
 cases s with
 |nil=>cases h
 |cons b q=>
  unfold E9 at h;dsimp only at h;split at h
  ·rename_i hb;unfold bJ at h;obtain⟨p,q1,h1,h⟩:=A3 h;obtain⟨_,q2,h2,h⟩:=A3 h;cases h;obtain⟨a1,a2⟩:=Ny h1;have a3:=Ht (c:=46) h2;exact⟨by rw[Kp 63 hb,a1,a3];simp[Cb],a2,by simp,by simp⟩
  ·unfold Nc at h;obtain⟨hd,q1,h1,h⟩:=A3 h;obtain⟨a1,a2,a3⟩:=H4 h1;cases q1 with
   |nil=>cases h
   |cons c q2=>
    unfold Nb at h;dsimp only at h;split at h
    ·rename_i hc;cases h;exact⟨by rw[a1,Kp 46 hc];simp[Cb,Dz],a2.1,by simp,fun _=>⟨a2,a3,by simp,by simp⟩⟩
    ·unfold Q5 at h;obtain⟨_,q3,h2,h⟩:=A3 h;obtain⟨_,q4,h3,h⟩:=A3 h;obtain⟨l,q5,h4,h⟩:=A3 h;obtain⟨ls,q6,h5,h⟩:=A3 h;obtain⟨_,q7,h6,h⟩:=A3 h;cases h;have b1:=Ht (c:=58) h2;have b2:=Ht (c:=45) h3;obtain⟨b3,b4⟩:=Zb h4;obtain⟨b5,b6,b7⟩:=Um (fun s x r h=>Zb h) _ _ _ _ h5;have b8:=Ht (c:=46) h6;refine⟨by rw[a1,b1,b2,b3,b5,b8];simp[Cb,Dz,Bj],a2.1,by simp,fun _=>⟨a2,a3,by simp;omega,?_⟩⟩;intro y hy;rcases Ae2.1 hy with rfl|hy
     ·exact b4
     ·exact b7 y hy
def Cr (l:List RItem):Tx:=l.flatMap fun x=>Cb x++[46]
theorem Iw:∀(n:Nat) (s:Tx) (l:List RItem) (r:Tx),Bv n s= .got l r->s=Cr l/\r=[]/\l.length<=n/\∀x∈l,Du x:=by
 intro n;induction n with
 |zero=>
  intro s l r h;cases s with
  |nil=>cases h;simp[Cr]
  |cons b q=>cases h
 |succ n ih=>
  intro s l r h;cases s with
  |nil=>cases h;simp[Cr]
  |cons b q=>
   unfold Bv at h;obtain⟨x,q1,h1,h⟩:=A3 h;obtain⟨xs,q2,h2,h⟩:=A3 h;cases h;obtain⟨a1,a2⟩:=Up h1;obtain⟨b1,b2,b3,b4⟩:=ih _ _ _ h2;refine⟨by rw[a1,b1];simp[Cr],b2,by simp;omega,?_⟩;intro y hy;rcases Ae2.1 hy with rfl|hy
   ·exact a2
   ·exact b4 y hy
theorem Jk {b:UInt8}(h:Bn b.toNat=true):97<=b.toNat/\b.toNat<=122:=by simp[Bn]at h;omega
theorem eO {b:UInt8}(h:Bo b.toNat=true\/A1 b.toNat=true):48<=b.toNat/\b.toNat<=90/\b.toNat≠58:=by
 simp[Bo,A1]at h;omega
theorem Hw {c:Int}:∀(p r:Tx) (d:Bool) (cur:Tx),(∀b∈p,b.toNat≠40/\b.toNat≠41/\(b.toNat:Int)≠c)->Bw c (p++r) d cur=Bw c r d (cur++p):=by
 intro p;induction p with
 |nil=>intro r d cur _;simp
 |cons b p ih=>
  intro r d cur h;obtain⟨h1,h2,h3⟩:=h b (Ae5 ..);rw[Ae6,Bw];have e1:((b.toNat:Int)==40)=false:=by simp;omega
  have e2:((b.toNat:Int)==41)=false:=by simp;omega
  have e3:((b.toNat:Int)==c)=false:=by simp;omega
  simp only[e1,e2,e3,Aei,if_false,false_and];rw[ih r d (cur++[b]) (fun x hx=>h x (Ae7 _ hx))];simp
theorem xB {c:Int}:∀(p r:Tx) (cur:Tx),(∀b∈p,b.toNat≠41)->Bw c (p++r) true cur=Bw c r true (cur++p):=by
 intro p;induction p with
 |nil=>intro r cur _;simp
 |cons b p ih=>
  intro r cur h;have h2:=h b (Ae5 ..);rw[Ae6,Bw];have e2:((b.toNat:Int)==41)=false:=by simp;omega
  simp only[e2,Aei,if_false,ite_self,reduceCtorEq,and_false];rw[ih r (cur++[b]) (fun x hx=>h x (Ae7 _ hx))];simp
theorem wY {c:Int}(r:Tx)(d:Bool)(cur:Tx):Bw c (40::r) d cur=Bw c r true (cur++[40]):=by
 rw[Bw];simp
theorem sP {c:Int}(hc:c≠41)(r:Tx)(d:Bool)(cur:Tx):Bw c (41::r) d cur=Bw c r false (cur++[41]):=by
 rw[Bw];simp;intro h;exact absurd h.symm hc
theorem xC {c:UInt8}(h1:c.toNat≠40)(h2:c.toNat≠41)(r cur:Tx):Bw c.toNat (c::r) false cur=cur::Bw c.toNat r false []:=by
 rw[Bw];have e1:((c.toNat:Int)==40)=false:=by simp;omega
 have e2:((c.toNat:Int)==41)=false:=by simp;omega
 simp[e1,e2]
def qB (c:Int)(t:Tx):Prop:=t≠[]/\∀r cur,Bw c (t++r) false cur=Bw c r false (cur++t)
theorem wZ:∀(ts:List Tx) (cur:Tx),(∀t∈ts,qB 44 t)->cur≠[]->Bw 44 (Cd ts) false cur=cur::ts:=by
 intro ts;induction ts with
 |nil=>intro cur _ hc;simp[Cd,Bw,hc]
 |cons t ts ih=>
  intro cur h hc;obtain⟨h1,h2⟩:=h t (Ae5 ..);have e:Cd (t::ts)=44::(t++Cd ts):=by simp[Cd]
  rw[e,show (44:Int)=((44:UInt8).toNat:Int)from rfl,xC (by decide) (by decide),show ((44:UInt8).toNat:Int)=44 from rfl,h2,Ae8,ih t (fun x hx=>h x (Ae7 _ hx)) h1]
theorem jD {ts:List Tx}(h:∀t∈ts,qB 44 t):Jc (Bj ts) 44=ts:=by
 cases ts with
 |nil=>simp[Bj,Jc,Bw]
 |cons t ts=>
  obtain⟨h1,h2⟩:=h t (Ae5 ..);unfold Jc Bj;rw[h2,Ae8,wZ ts t (fun x hx=>h x (Ae7 _ hx)) h1]
theorem kR {t:Tx}(h:Ri t):qB 44 t:=by
 refine⟨h.1,fun r cur=>Hw _ _ _ _ fun b hb=>?_⟩;have:=eO (h.2 b hb);omega
theorem rU {ts:List Tx}{b:UInt8}(h:b∈Cd ts):b=44\/∃t∈ts,b∈t:=by
 unfold Cd at h;rw[Ae9]at h;obtain⟨t,ht,hb⟩:=h;rcases Ae2.1 hb with h|h
 ·exact .inl h
 ·exact .inr ⟨t,ht,h⟩
theorem rV {ts:List Tx}{b:UInt8}(h:b∈Bj ts):b=44\/∃t∈ts,b∈t:=by
 cases ts with
 |nil=>cases h
 |cons t ts=>
  unfold Bj at h;rcases Aet.1 h with h|h
  ·exact .inr ⟨t,Ae5 ..,h⟩
  ·rcases rU h with h|⟨u,hu,h⟩
   ·exact .inl h
   ·exact .inr ⟨u,Ae7 _ hu,h⟩
theorem jQ {a:RAtom}(h:F1 a){b:UInt8}(hb:b∈Bj a.terms):b.toNat=44\/(48<=b.toNat/\b.toNat<=90/\b.toNat≠58):=by
 rcases rV hb with rfl|⟨t,ht,hb⟩
 ·exact .inl rfl
 ·exact .inr (eO ((h.2.2.2 t ht).2 b hb))
theorem jE {c:Int}(hc:c=44\/c=46){a:RAtom}(h:F1 a)(r cur:Tx):Bw c (Be a++r) false cur=Bw c r false (cur++Be a):=by
 unfold Be;rw[Aed,Hw a.pred _ _ _ (fun b hb=>by have:=Jk (h.1.2 b hb);omega),Ae6,wY,Aed,xB (Bj a.terms) _ _ (fun b hb=>by have:=jQ h hb;omega)];rw[Ae6,Ae8,sP Agm];simp
theorem cJ {c:Int}(hc:c=44\/c=46){a:RAtom}(h:F1 a)(r cur:Tx):Bw c (Ch a++r) false cur=Bw c r false (cur++Ch a):=by
 unfold Ch;rw[Aed,Hw (if a.nt=true then [33]else []) _ _ _ (fun b hb=>by split at hb<;>simp at hb;subst hb;simp;omega),jE hc h];simp
theorem dN (a:RAtom):Be a≠[]:=by unfold Be;simp
theorem yT (a:RAtom):Ch a≠[]:=by unfold Ch;simp[dN]
theorem rZ {a:RAtom}(h:F1 a):qB 44 (Ch a):=⟨yT a,fun r cur=>cJ (.inl rfl) h r cur⟩
theorem mN:∀(l:List RAtom) (r cur:Tx),(∀a∈l,F1 a)->Bw 46 (Cd (l.map Ch)++r) false cur=Bw 46 r false (cur++Cd (l.map Ch)):=by
 intro l;induction l with
 |nil=>intro r cur _;simp[Cd]
 |cons a l ih=>
  intro r cur h;have e:Cd ((a::l).map Ch)=[44]++(Ch a++Cd (l.map Ch)):=by simp[Cd]
  rw[e,Aed,Hw [44] _ _ _ (fun b hb=>by simp at hb;subst hb;decide),Aed,cJ (.inr rfl) (h a (Ae5 ..)),ih _ _ (fun x hx=>h x (Ae7 _ hx))];simp
theorem xA {x:RItem}(h:Du x)(r cur:Tx):Bw 46 (Cb x++r) false cur=Bw 46 r false (cur++Cb x):=by
 obtain⟨h1,h2,h3⟩:=h;unfold Cb;by_cases ho:x.out=true
 ·rw[if_pos ho,Hw (63::x.head.pred) _ _ _ (fun b hb=>by
   rcases Ae2.1 hb with rfl|hb
   ·decide
   ·have:=Jk (h1.2 b hb);omega)]
 ·obtain⟨w1,w2,w3,w4⟩:=h3 (by simpa using ho);rw[if_neg ho];unfold Dz;rw[Aed,jE (.inr rfl) w1];cases hb:x.body with
  |nil=>simp
  |cons l ls=>
   rw[hb]at w4;rw[if_neg (by simp)];have e:(58::45::Bj ((l::ls).map Ch))=[58,45]++(Ch l++Cd (ls.map Ch)):=by simp[Bj]
   rw[e,Aed,Hw [58,45] _ _ _ (fun b hb=>by simp at hb;rcases hb with rfl|rfl<;>decide),Aed,cJ (.inr rfl) (w4 l (Ae5 ..)),mN _ _ _ (fun x hx=>w4 x (Ae7 _ hx))];simp
theorem aE:∀(l:List RItem),(∀x∈l,Du x)->Jc (Cr l) 46=l.map Cb:=by
 intro l;induction l with
 |nil=>intro _;simp[Cr,Jc,Bw]
 |cons x l ih=>
  intro h;have e:Cr (x::l)=Cb x++(46::Cr l):=by simp[Cr]
  have hi:=ih fun y hy=>h y (Ae7 _ hy);unfold Jc at*
  rw[e,xA (h x (Ae5 ..)),show (46:Int)=((46:UInt8).toNat:Int)from rfl,xC (by decide) (by decide),show ((46:UInt8).toNat:Int)=46 from rfl,hi];simp
theorem Qn {c:Int}:∀(p r:Tx),(∀b∈p,(b.toNat:Int)≠c)->Bp (p++r) c=p.length+Bp r c:=by
 intro p;induction p with
 |nil=>intro r _;simp
 |cons b p ih=>
  intro r h;have:=ih r fun x hx=>h x (Ae7 _ hx);unfold Bp at*
  have e:((b.toNat:Int)==c)=false:=by simpa using h b (Ae5 ..)
  rw[Ae6,List.findIdx_cons,e];simp only[cond_false,Aem];omega
theorem Zz {c:UInt8}(r:Tx):Bp (c::r) c.toNat=0:=by unfold Bp;rw[List.findIdx_cons];simp
theorem wQ {c:Int}:Bp [] c=0:=rfl
theorem Kl {p:Tx}(h:aQ p):∃b q,p=b::q/\97<=b.toNat/\b.toNat<=122:=by
 obtain⟨h1,h2⟩:=h;cases p with
 |nil=>exact absurd rfl h1
 |cons b q=>exact⟨b,q,rfl,Jk (h2 b (Ae5 ..))⟩
theorem xK {a:RAtom}(h:F1 a):Ni a.nt (Be a)=a:=by
 have hf:Bp (Be a) 40=a.pred.length:=by
  unfold Be;rw[Qn a.pred _ (fun b hb=>by have:=Jk (h.1.2 b hb);omega),show (40:Int)=((40:UInt8).toNat:Int)from rfl,Zz];rfl
 have hl:(Be a).length=a.pred.length+1+(Bj a.terms).length+1:=by unfold Be;simp;omega
 unfold Ni;rw[hf,if_pos Agm];have e1:((Be a).drop 0).take (a.pred.length-0)=a.pred:=by unfold Be;simp
 have e2:((Be a).drop (a.pred.length+1)).take ((Be a).length-1-(a.pred.length+1))=Bj a.terms:=by
  rw[hl];unfold Be;rw[show a.pred++40::(Bj a.terms++[41])=(a.pred++[40])++(Bj a.terms++[41])by simp];rw[List.drop_append_of_le_length (by simp),List.drop_of_length_le (by simp),Ae8];rw[show a.pred.length+1+(Bj a.terms).length+1-1-(a.pred.length+1)=(Bj a.terms).length by omega];simp
 rw[e1,e2,jD (fun t ht=>kR (h.2.2.2 t ht))]
theorem Vw {a:RAtom}(h:F1 a):Dj (Ch a)=a:=by
 obtain⟨b,q,hp,h1,h2⟩:=Kl h.1;have e:=xK h;unfold Dj Ch;cases hn:a.nt with
 |true=>
  have e1:Nh ((if true=true then [33]else [])++Be a)=true:=rfl;have e2:H2 ((if true=true then [33]else [])++Be a)=Be a:=by
   unfold H2;rw[if_pos e1];simp
  rw[e1,e2,<-hn,e]
 |false=>
  have e1:Nh ((if false=true then [33]else [])++Be a)=false:=by
   unfold Be;rw[hp];simp[Nh];omega
  have e2:H2 ((if false=true then [33]else [])++Be a)=Be a:=by
   unfold H2;rw[if_neg (by rw[e1];simp)];simp
  rw[e1,e2,<-hn,e]
theorem Sr {a:RAtom}(h:a.nt=false):Ch a=Be a:=by unfold Ch;simp[h]
theorem Acr {a:RAtom}(h:F1 a):∀b∈Be a,(b.toNat:Int)≠58:=by
 intro b hb;unfold Be at hb;rcases Aet.1 hb with hb|hb
 ·have:=Jk (h.1.2 b hb);omega
 ·rcases Ae2.1 hb with rfl|hb
  ·decide
  ·rcases Aet.1 hb with hb|hb
   ·have:=jQ h hb;omega
   ·simp at hb;subst hb;decide
theorem U2 {x:RItem}(h:Du x):Hi (Cb x)=x/\Cb x≠[]/\(Nt (Cb x)=false->Bp (Cb x) 58<(Cb x).length->Bp (Cb x) 58+2<=(Cb x).length):=by
 obtain⟨h1,h2,h3⟩:=h;obtain⟨b,q,hp,k1,k2⟩:=Kl h1;unfold Cb;by_cases ho:x.out=true
 ·rw[if_pos ho];obtain⟨w1,w2,w3⟩:=h2 ho;have hq:Nt (63::x.head.pred)=true:=rfl;refine⟨?_,by simp,fun h=>by rw[hq]at h;cases h⟩;unfold Hi;rw[if_pos hq];unfold lR;obtain⟨xo,⟨n,p,t⟩,bd⟩:=x;simp at*
  simp[*]
 ·rw[if_neg ho];obtain⟨w1,w2,w3,w4⟩:=h3 (by simpa using ho);have hq:Nt (Dz x)=false:=by unfold Dz Be;rw[hp];simp[Nt];omega
  cases hb:x.body with
  |nil=>
   have e:Dz x=Be x.head:=by unfold Dz;rw[if_pos hb];simp
   have hf:Bp (Dz x) 58=(Dz x).length:=by
    have:=Qn (Be x.head) [] (Acr w1);rw[Ad4,wQ]at this;rw[e];omega
   refine⟨?_,by rw[e];exact dN _,fun _ h=>Agm⟩;unfold Hi;rw[if_neg (by simp[hq])];unfold Qz;rw[hf,if_neg Agm];have e2:((Dz x).drop 0).take ((Dz x).length-0)=Ch x.head:=by rw[e,Sr w2];simp
   rw[e2,Vw w1];obtain⟨xo,hd,bd⟩:=x;simp at*
   simp[*]
  |cons l ls=>
   have e:Dz x=Be x.head++(58::45::Bj (x.body.map Ch)):=by unfold Dz;rw[if_neg (by rw[hb];simp)]
   have hf:Bp (Dz x) 58=(Be x.head).length:=by
    have:=Qn (Be x.head) (58::45::Bj (x.body.map Ch)) (Acr w1);rw[e,this,show (58:Int)=((58:UInt8).toNat:Int)from rfl,Zz];rfl
   have hl:(Dz x).length=(Be x.head).length+2+(Bj (x.body.map Ch)).length:=by rw[e];simp;omega
   refine⟨?_,by rw[e];simp,fun _ _=>Agm⟩;unfold Hi;rw[if_neg (by simp[hq])];unfold Qz;rw[hf,if_pos Agm];have e2:((Dz x).drop 0).take ((Be x.head).length-0)=Ch x.head:=by rw[e,Sr w2];simp
   have e3:((Dz x).drop ((Be x.head).length+2)).take ((Dz x).length-((Be x.head).length+2))=Bj (x.body.map Ch):=by
    rw[hl,e,show Be x.head++(58::45::Bj (x.body.map Ch))=(Be x.head++[58,45])++Bj (x.body.map Ch)by simp];rw[List.drop_append_of_le_length (by simp),List.drop_of_length_le (by simp),Ae8];exact Aeq Agm
   rw[e2,e3,Vw w1,jD (fun t ht=>by
    rw[Ae4]at ht;obtain⟨a,ha,rfl⟩:=ht
    exact rZ (w4 a ha))]
   have e4:(x.body.map Ch).map Dj=x.body:=by
    rw[Ad3]
    conv=>rhs;rw[<-List.map_id x.body]
    exact Afa fun a ha=>Vw (w4 a ha)
   rw[e4];obtain⟨xo,hd,bd⟩:=x;simp at*
   simp[*]
theorem D8 {s:Tx}{l:List RItem}{r:Tx}(hs:s.length<=1000)(h:Bv 16 s= .got l r):iT s/\Bh s=l/\l.length<=16/\∀x∈l,Du x:=by
 obtain⟨h1,h2,h3,h4⟩:=Iw _ _ _ _ h;have hc:=aE l h4;refine⟨⟨?_,?_⟩,?_,h3,h4⟩
 ·rw[h1,hc];simpa using h3
 ·intro t ht;have hl:=Of ht;rw[h1,hc,Ae4]at ht;obtain⟨x,hx,rfl⟩:=ht;obtain⟨g1,g2,g3⟩:=U2 (h4 x hx);exact⟨Agm,g2,g3⟩
 ·unfold Bh;rw[h1,hc,Ad3]
  conv=>rhs;rw[<-List.map_id l]
  exact Afa fun x hx=>(U2 (h4 x hx)).1
inductive Way {α:Type}(E:α->α->Prop):α->α->Prop
 |one {a b:α}:E a b->Way E a b
 |more {a b c:α}:E a b->Way E b c->Way E a c
theorem Way.join {α:Type}{E:α->α->Prop}{a b c:α}(h:Way E a b)(k:Way E b c):Way E a c:=by
 induction h with
 |one e=>exact .more e k
 |more e _ ih=>exact .more e (ih k)
def xT (n:Nat)(M:Nat->Nat->Bool):Prop:=∀a b,M a b=true->a<n/\b<n
theorem Aby {n:Nat}{M:Nat->Nat->Bool}(hM:xT n M):∀(m:Nat),m<=n->xT n (Hv n M m)/\(∀a b,M a b=true->Hv n M m a b=true)/\(∀a b,Hv n M m a b=true->Way (fun a b=>M a b=true) a b)/\
  (∀a b c,b<m->Hv n M m a b=true->Hv n M m b c=true->Hv n M m a c=true):=by
 intro m;induction m with
 |zero=>intro _;exact⟨hM,fun _ _ h=>h,fun _ _ h=>.one h,fun _ _ _ h=>Agm⟩
 |succ m ih=>
  intro hm;obtain⟨h1,h2,h3,h4⟩:=ih Agm;have e:∀a b,Hv n M (m+1) a b=true↔Hv n M m a b=true\/(Hv n M m a m=true/\Hv n M m m b=true):=by
   intro a b;show fwN n (Hv n M m) m a b=true↔_;unfold fwN fw;split
   ·simp
   ·rename_i hn;constructor
    ·exact .inl
    ·rintro (h|⟨ha,hb⟩)
     ·exact h
     ·exact absurd ⟨(h1 _ _ ha).1,(h1 _ _ hb).2⟩ hn
  refine⟨?_,?_,?_,?_⟩
  ·intro a b h;rcases (e a b).1 h with h|⟨ha,hb⟩
   ·exact h1 _ _ h
   ·exact⟨(h1 _ _ ha).1,(h1 _ _ hb).2⟩
  ·intro a b h;exact (e a b).2 (.inl (h2 _ _ h))
  ·intro a b h;rcases (e a b).1 h with h|⟨ha,hb⟩
   ·exact h3 _ _ h
   ·exact (h3 _ _ ha).join (h3 _ _ hb)
  ·intro a b c hb ab aa;rw[e]at ab aa⊢;by_cases ad:b=m
   ·subst ad;have g1:Hv n M b a b=true:=by rcases ab with h|⟨h,_⟩<;>exact h
    have g2:Hv n M b b c=true:=by rcases aa with h|⟨_,h⟩<;>exact h
    exact .inr ⟨g1,g2⟩
   ·have ac:b<m:=Agm;rcases ab with ab|⟨ha,af⟩<;>rcases aa with aa|⟨ae,hc⟩
    ·exact .inl (h4 _ _ _ ac ab aa)
    ·exact .inr ⟨h4 _ _ _ ac ab ae,hc⟩
    ·exact .inr ⟨ha,h4 _ _ _ ac af aa⟩
    ·exact .inr ⟨ha,hc⟩
theorem cB {n:Nat}{M:Nat->Nat->Bool}(hM:xT n M)(a b:Nat):Hv n M n a b=true↔Way (fun a b=>M a b=true) a b:=by
 obtain⟨h1,h2,h3,h4⟩:=Aby hM n (Adc _);refine⟨h3 a b,fun h=>?_⟩;induction h with
 |one e=>exact h2 _ _ e
 |more e _ ih=>exact h4 _ _ _ (hM _ _ e).2 (h2 _ _ e) ih
theorem dF (l:List RItem)(i k:Nat):Wh l i k=true↔Way (fun a b=>Lu l a b=true) i k:=by
 have he:∀a b,Lu l a b=true->a<l.length/\b<l.length:=by
  intro a b h;unfold Lu at h;split at h
  ·rename_i x y hx hy;exact⟨(Adm.1 hx).1,(Adm.1 hy).1⟩
  ·cases h
 have e:(fun a b=>if a<l.length/\b<l.length then Lu l a b else false)=Lu l:=by
  funext a b;split
  ·rfl
  ·rename_i hn;cases hq:Lu l a b with
   |false=>rfl
   |true=>exact absurd (he a b hq) hn
 unfold Wh;rw[e];exact cB he i k
def Fw (l:List RItem)(p q:Tx):Prop:=∃x∈l,x.head.pred=p/\∃a∈x.body,a.pred=q
theorem edge_iff {l:List RItem}{i k:Nat}:Lu l i k=true↔∃x y,l[i]?=some x/\l[k]?=some y/\y.out=false/\∃a∈x.body,a.pred=y.head.pred:=by
 unfold Lu;constructor
 ·intro h;split at h
  ·rename_i x y hx hy;refine⟨x,y,hx,hy,?_⟩;simp at h;exact h
  ·cases h
 ·rintro⟨x,y,hx,hy,h1,a,ha,h2⟩;rw[hx,hy];simp only[h1,Aen,Afb];exact Aer.2 ⟨a,ha,by simp[h2]⟩
theorem qJ {l:List RItem}{i k:Nat}(h:Way (fun a b=>Lu l a b=true) i k):∃x y,l[i]?=some x/\l[k]?=some y/\y.out=false/\Way (Fw l) x.head.pred y.head.pred:=by
 induction h with
 |one e=>
  obtain⟨x,y,hx,hy,h1,a,ha,h2⟩:=edge_iff.1 e;exact⟨x,y,hx,hy,h1,.one ⟨x,Adp hx,rfl,a,ha,h2⟩⟩
 |more e _ ih=>
  obtain⟨x,y,hx,hy,h1,a,ha,h2⟩:=edge_iff.1 e;obtain⟨x',z,aa,hz,h3,h4⟩:=ih;rw[hy]at aa;cases aa;exact⟨x,z,hx,hz,h3,.more ⟨x,Adp hx,rfl,a,ha,h2⟩ h4⟩
theorem qK {l:List RItem}(ho:∀x∈l,x.out=true->x.body=[]){p q:Tx}(h:Way (Fw l) p q):∀(k:Nat) (y:RItem),l[k]?=some y->y.out=false->y.head.pred=q->∃(i:Nat) (x:RItem),l[i]?=some x/\x.head.pred=p/\Way (fun a b=>Lu l a b=true) i k:=by
 induction h with
 |one e=>
  intro k y hk hy hq;obtain⟨x,hx,h1,a,ha,h2⟩:=e;obtain⟨i,hi⟩:=Afc hx;exact⟨i,x,hi,h1,.one (edge_iff.2 ⟨x,y,hi,hk,hy,a,ha,by rw[h2,hq]⟩)⟩
 |more e _ ih=>
  intro k y hk hy hq;obtain⟨x,hx,h1,a,ha,h2⟩:=e;obtain⟨i,hi⟩:=Afc hx;obtain⟨j,z,hj,h3,h4⟩:=ih k y hk hy hq;have hz:z.out=false:=by
   have ab:z.body≠[]:=by
    cases h4 with
    |one e=>
     obtain⟨z',_,aa,_,_,a,ha,_⟩:=edge_iff.1 e;rw[hj]at aa;cases aa;intro hn;rw[hn]at ha;cases ha
    |more e _=>
     obtain⟨z',_,aa,_,_,a,ha,_⟩:=edge_iff.1 e;rw[hj]at aa;cases aa;intro hn;rw[hn]at ha;cases ha
   cases hb:z.out with
   |false=>rfl
   |true=>exact absurd (ho z (Adp hj) hb) ab
  exact⟨i,x,hi,h1,.more (edge_iff.2 ⟨x,z,hi,hj,hz,a,ha,by rw[h2,h3]⟩) h4⟩
theorem L5 {l:List RItem}(ho:∀x∈l,x.out=true->x.body=[]){p q:Tx}(hq:∃y∈l,y.out=false/\y.head.pred=q):M5 l p q=true↔Way (Fw l) p q:=by
 unfold M5;constructor
 ·intro h;rw[Aer]at h;obtain⟨i,-,h⟩:=h;rw[Aer]at h;obtain⟨k,-,h⟩:=h;unfold mD at h;simp only[Adr,Agf]at h;obtain⟨⟨h1,h2⟩,h3⟩:=h;obtain⟨x,y,hx,hy,_,hw⟩:=qJ ((dF l i k).1 h1);unfold Ja at h2 h3;rw[hx]at h2;rw[hy]at h3;rw[<-h2,<-h3];exact hw
 ·intro h;obtain⟨y,hy,h1,h2⟩:=hq;obtain⟨k,hk⟩:=Afc hy;obtain⟨i,x,hi,h3,h4⟩:=qK ho h k y hk h1 h2;rw[Aer];refine⟨i,by simpa using (Adm.1 hi).1,?_⟩;rw[Aer];refine⟨k,by simpa using (Adm.1 hk).1,?_⟩;unfold mD Ja;rw[(dF l i k).2 h4,hi,hk];simp[h2,h3]
theorem Pg (c:Int)(I:St):ACalls Tryz.prog 207 [sc (.int .u8 c)] I fun x I'=>x=sc (.bool (Bn c))/\I'=I:=by
 refine Z9 9 [.tmp 2] Tryz.func207 ?_
 repeat' first|refine Z1 ?_|refine Z8 fun ya J=>?_|refine Z4 ?_;clear J ya|refine Z2 ?_ ?_<;>intro h aa<;>try exact Xp|refine Z3 ?_|exact Zt|apply J.out;clear J ya
 all_goals exact⟨_,rfl,by simp[Bn, *]⟩
theorem Gb (c:Int)(I:St):ACalls Tryz.prog 243 [sc (.int .u8 c)] I fun x I'=>x=sc (.bool (Bo c))/\I'=I:=by
 refine Z9 9 [.tmp 2] Tryz.func243 ?_
 repeat' first|refine Z1 ?_|refine Z8 fun ya J=>?_|refine Z4 ?_;clear J ya|refine Z2 ?_ ?_<;>intro h aa<;>try exact Xp|refine Z3 ?_|exact Zt|apply J.out;clear J ya
 all_goals exact⟨_,rfl,by simp[Bo, *]⟩
theorem Ga (c:Int)(I:St):ACalls Tryz.prog 244 [sc (.int .u8 c)] I fun x I'=>x=sc (.bool (A1 c))/\I'=I:=by
 refine Z9 9 [.tmp 2] Tryz.func244 ?_
 repeat' first|refine Z1 ?_|refine Z8 fun ya J=>?_|refine Z4 ?_;clear J ya|refine Z2 ?_ ?_<;>intro h aa<;>try exact Xp|refine Z3 ?_|exact Zt|apply J.out;clear J ya
 all_goals exact⟨_,rfl,by simp[A1, *]⟩
def Y6 (t:Tx)(k:Nat)(nm:AV):List AV:=[str t,sc (.int .i64 k),nm]
def takeB (t:Tx)(k:Nat)(c:Int):Bool:=match t[k]? with|some b=>(b.toNat:Int)==c|none=>false
def takeN (t:Tx)(k:Nat)(c:Int):Nat:=if takeB t k c=true then k+1 else k
theorem qV (t:Tx)(k o:Nat)(nm:AV)(c:Int)(ht:t.length<=1000)(hk:k<=t.length)(I:St)(ho:I.obj o=Y6 t k nm)(hn:o<I.nobj):ACalls Tryz.prog 126 [ptr o 0,sc (.int .u8 c)] I fun x I'=>x=sc (.bool (takeB t k c))/\KeepX o I I'/\I'.obj o=Y6 t (takeN t k c) nm:=by
 unfold Y6 at*
 refine Z9 35 [.tmp 4] Tryz.func126 ?_
 repeat' first|refine Z1 ?_|refine Z8 fun ya J=>?_|refine Z4 ?_;clear J ya|refine Z2 ?_ ?_<;>intro h aa<;>try exact Xp|refine Z3 ?_|exact Zt|apply J.out;clear J ya
 refine Aw Ag (fun _=>True) [22] [0,1,2,3,4,5,6,7,8,9,10,11,12,13,14,15,16,17,18,19,20,21] [22] Agp (fun _ _ _ h=>h) ?_;intro ya J;by_cases ab:k<t.length
 ·have hg:=Adn ab;generalize t[k]=b at hg;refine Z3 ?_
  repeat' first|refine Z1 ?_|refine Z8 fun ya J=>?_|refine Z4 ?_;clear J ya|refine Z2 ?_ ?_<;>intro h aa<;>try exact Xp|refine Z3 ?_|exact Zt|apply J.out;clear J ya
  ·have hB:takeB t k c=false:=by simp[takeB,hg];simpa using h
   exact⟨_,rfl,by rw[hB],KeepX.refl _ _,by simp[takeN,hB]⟩
  ·have hB:takeB t k c=true:=by simp[takeB,hg];simpa using h
   exact⟨_,rfl,by rw[hB],(KeepX.refl _ _).put _,by simp[takeN,hB]⟩
 ·have hg:t[k]?=none:=by simp;omega
  refine Z3 ?_
  repeat' first|refine Z1 ?_|refine Z8 fun ya J=>?_|refine Z4 ?_;clear J ya|refine Z2 ?_ ?_<;>intro h aa<;>try exact Xp|refine Z3 ?_|exact Zt|apply J.out;clear J ya
  have hB:takeB t k c=false:=by simp[takeB,hg]
  exact⟨_,rfl,by rw[hB],KeepX.refl _ _,by simp[takeN,hB]⟩
def M8 (t s:Tx)(nm:AV):List AV:=Y6 t (t.length-s.length) nm
theorem O5 {t s:Tx}(h:s<:+t):t[t.length-s.length]?=s.head?:=by
 obtain⟨p,rfl⟩:=h;rw[Aeb,Nat.add_sub_cancel,Aee (Adc _),Afd];cases s<;>rfl
theorem Qc {t s:Tx}{b:UInt8}(h:(b::s)<:+t):s<:+t:=(List.suffix_cons b s).trans h
theorem H3 {t s:Tx}(h:s<:+t):s.length<=t.length:=h.length_le
theorem Qb (t s:Tx)(o:Nat)(nm:AV)(c:Int)(ht:t.length<=1000)(hs:s<:+t)(I:St)(ho:I.obj o=M8 t s nm)(hn:o<I.nobj):
  ACalls Tryz.prog 126 [ptr o 0,sc (.int .u8 c)] I fun x I'=>KeepX o I I'/\match Az c s with
   |.got _ r=>x=sc (.bool true)/\I'.obj o=M8 t r nm/\r<:+t
   |.bad e=>x=sc (.bool false)/\I'.obj o=M8 t s nm/\e=s:=by
 have hl:=H3 hs;refine ACalls.mono (qV t _ o nm c ht Agm I ho hn) ?_;rintro x I' ⟨rfl,hK,hO⟩;refine⟨hK,?_⟩;have hg:=O5 hs;cases s with
 |nil=>
  have hB:takeB t (t.length-([]:Tx).length) c=false:=by unfold takeB;rw[hg];rfl
  refine⟨by rw[hB],?_,rfl⟩;rw[hO,takeN,hB];rfl
 |cons b r=>
  have hB:takeB t (t.length-(b::r).length) c=((b.toNat:Int)==c):=by unfold takeB;rw[hg];rfl
  unfold Az;by_cases hb:((b.toNat:Int)==c)=true
  ·rw[hb]at hB;simp only[hb,if_true];refine⟨by rw[hB],?_,Qc hs⟩;rw[hO,takeN,hB,M8];simp only[if_true,Aem]at*
   rw[show t.length-(r.length+1)+1=t.length-r.length by omega]
  ·have aa:((b.toNat:Int)==c)=false:=by simpa using hb
   rw[aa]at hB;simp only[aa,Aei,if_false];refine⟨by rw[hB],?_,trivial⟩;rw[hO,takeN,hB];rfl
def Hn (ds:Tx):Int:=ds.foldl (fun v b=>v*10+((b.toNat:Int)-48)) 0
theorem Mf (ds:Tx)(b:UInt8):Hn (ds++[b])=Hn ds*10+((b.toNat:Int)-48):=by simp[Hn]
def wW (s ds q:Tx):Prop:=ds.length<=3/\Av A1 3 s=(ds++(Av A1 (3-ds.length) q).1,(Av A1 (3-ds.length) q).2)/\0<=Hn ds/\(ds.length=0->Hn ds=0)/\(ds.length=1->Hn ds<=9)/\(ds.length=2->Hn ds<=99)
theorem wV (s:Tx):wW s [] s:=⟨by simp,by simp,by simp[Hn],by simp[Hn],by simp,by simp⟩
theorem sN {s ds q:Tx}{b:UInt8}(h:wW s ds (b::q))(hl:ds.length<3)(hb:A1 b.toNat=true):wW s (ds++[b]) q:=by
 obtain⟨h1,h2,h3,h4,h5,h6⟩:=h;have hr:48<=b.toNat/\b.toNat<=57:=by simp[A1]at hb;omega
 have e:3-ds.length=(3-(ds++[b]).length)+1:=by simp;omega
 rw[e,Av,if_pos hb]at h2;refine⟨by simp;omega,by rw[h2];simp,?_,by simp,?_,?_⟩
 ·rw[Mf];omega
 ·intro hh;rw[Mf];have:=h4 (by simp at hh;simp[hh]);omega
 ·intro hh;rw[Mf];have:=h5 (by simp at hh;omega);omega
theorem Vm {s ds q:Tx}(h:wW s ds q)(he:ds.length=3\/q=[]\/∃b r,q=b::r/\A1 b.toNat=false):Av A1 3 s=(ds,q):=by
 obtain⟨h1,h2,-⟩:=h;rw[h2];rcases he with he|rfl|⟨b,r,rfl,hb⟩
 ·rw[he];simp[Av]
 ·cases hn:3-ds.length<;>simp[Av]
 ·cases hn:3-ds.length<;>simp[Av,hb]
theorem Rl (t s:Tx)(o:Nat)(nm:AV)(ht:t.length<=1000)(hs:s<:+t)(I:St)(ho:I.obj o=M8 t s nm)(hn:o<I.nobj)(an:∀b r,s=b::r->((b.toNat:Int)==48)=false):
  ACalls Tryz.prog 245 [ptr o 0] I fun x I'=>KeepX o I I'/\∃q,I'.obj o=M8 t q nm/\q<:+t/\q=(Av A1 3 s).2/\x=sc (.int .i64 (Hn (Av A1 3 s).1)):=by
 have hp:Az 48 s= .bad s:=by
  cases s with
  |nil=>rfl
  |cons b r=>unfold Az;simp only[an b r rfl];simp
 have hT:=Qb t s o nm 48 ht hs I ho hn;rw[hp]at hT;refine Z9 57 [.tmp 2] Tryz.func245 ?_
 repeat' first|refine Z1 ?_|refine Z8 fun ya J=>?_|refine Z4 ?_;clear J ya|refine Z2 ?_ ?_<;>intro h aa<;>try exact Xp|refine Z5 ?_;refine Xi (hT) ?_;rintro _ _ ⟨ab,rfl,ai,-⟩|refine Z3 ?_|exact Zt|apply J.out;clear J ya
 rename_i I1;have ae:o<I1.nobj:=Adf hn ab.nobj;clear hT hp ho
 refine Ad (fun m s' I'=>∃(q ds:Tx),m=3-ds.length/\s' 0=ptr o 0/\s' 3=sc (.int .i64 (Hn ds))/\s' 4=sc (.int .i64 ds.length)/\KeepX o I I'/\I'.obj o=M8 t q nm/\o<I'.nobj/\q<:+t/\Agt (wW s ds q)) 3
  ⟨s,[],rfl,rfl,rfl,rfl,ab,ai,ae,hs,wV s⟩ ?_
 rintro m s' I' ⟨q,ds,rfl,h0,h3,h4,hK,hO,ap,hq,hD⟩;clear ab ai ae;have ac:=H3 hq;have ad:=O5 hq;have am:=hD.out;obtain⟨d1,-,d3,d4,d5,d6⟩:=am;unfold M8 Y6 at hO
 repeat' first|refine Z1 ?_|refine Z8 fun ya J=>?_|refine Z4 ?_;clear J ya|refine Z2 ?_ ?_<;>intro h aa<;>try exact Xp|refine Z3 ?_|exact Zt|apply J.out;clear J ya
 refine Aw Ag (fun _=>True) [25] [0,1,2,3,4,5,6,7,8,9,10,11,12,13,14,15,16,17,18,19,20,21,22,23] [24,25] Agp (fun _ _ _ h=>h) ?_;intro ya J;cases q with
 |nil=>
  simp only[Ael,Afe]at hO ad ac;refine Z3 ?_
  repeat' first|refine Z1 ?_|refine Z8 fun ya J=>?_|refine Z4 ?_;clear J ya|refine Z2 ?_ ?_<;>intro h aa<;>try exact Xp|refine Z5 ?_;refine Xi (Ga _ _) ?_;rintro _ _ ⟨rfl,rfl⟩|refine Z3 ?_|exact Zt|apply J.out;clear J ya
  all_goals
   have he:=Vm hD.out (.inr (.inl rfl));exact⟨_,rfl,[],by simp[M8,Y6],hq,by rw[he],by rw[he]⟩
 |cons b r=>
  simp only[Aem,List.head?_cons]at hO ad ac;have aj:=Qc hq;refine Z3 ?_;have af:A1 b.toNat=true->48<=(b.toNat:Int)/\(b.toNat:Int)<=57:=fun h=>by simp[A1]at h;omega
  repeat' first|refine Z1 ?_|refine Z8 fun ya J=>?_|refine Z4 ?_;clear J ya|refine Z2 ?_ ?_<;>intro h aa<;>try exact Xp|refine Z5 ?_;refine Xi (Ga _ _) ?_;rintro _ _ ⟨rfl,rfl⟩|refine Z3 ?_|exact Zt|apply J.out;clear J ya
  all_goals
   first
   |(have he:=Vm hD.out (.inr (.inr ⟨b,r,rfl,by assumption⟩))
     exact⟨_,rfl,b::r,by simp[M8,Y6],hq,by rw[he],by rw[he]⟩)
   |(have he:=Vm hD.out (.inl Agm)
     exact⟨_,rfl,b::r,by simp[M8,Y6],hq,by rw[he],by rw[he]⟩)
   |skip
  have ah:A1 b.toNat=true:=by assumption
  have af:=af ah;have ak:ds.length<3:=Agm;have ao:Hn ds<=99:=by
   have:ds.length=0\/ds.length=1\/ds.length=2:=Agm;rcases this with h|h|h
   ·have:=d4 h;omega
   ·have:=d5 h;omega
   ·exact d6 h
  clear d4 d5 d6;refine Aw Ag (fun _=>True) [14] [0,1,2,3,4,5,6,7,8,9,10,11,12,13] [14] Agp (fun _ _ _ h=>h) ?_;intro ya J;refine Z3 ?_
  repeat' first|refine Z1 ?_|refine Z8 fun ya J=>?_|refine Z4 ?_;clear J ya|refine Z2 ?_ ?_<;>intro h aa<;>try exact Xp|refine Z3 ?_|exact Zt|apply J.out;clear J ya
  have hw:IntKind.i64.wrap (Hn ds*10+IntKind.i64.wrap (IntKind.u8.wrap ((b.toNat:Int)-48)))=Hn (ds++[b]):=by
   rw[Abs.u8w Agm Agm,show IntKind.i64.wrap ((b.toNat:Int)-48)=(b.toNat:Int)-48 from Abs.i64w Agm Agm,Abs.i64w Agm Agm,Mf]
  rw[hw];refine⟨3-(ds++[b]).length,by simp;omega,r,ds++[b],rfl,rfl,by simp,hK.put _,?_,aj,sN hD.out ak ah⟩;unfold M8 Y6;rw[show ((t.length-(r.length+1):Nat):Int)+1=((t.length-r.length:Nat):Int)by omega]
end Go.Proofs.YtmoeoppbmhfbpaaGreatDoorD
