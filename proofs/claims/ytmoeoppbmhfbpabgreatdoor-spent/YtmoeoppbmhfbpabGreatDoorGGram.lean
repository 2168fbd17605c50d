import Derived.Test.YtmoeoppbmhfbpabGreatDoorGRefA
set_option linter.all false
namespace Go.Proofs.YtmoeoppbmhfbpabGreatDoorG
open Go.Abs
abbrev Tx:=List UInt8
inductive Rd (α:Type) where
 |bad (e:Tx)
 |got (x:α) (r:Tx)
def Rd.bnd {α β:Type}:Rd α->(α->Tx->Rd β)->Rd β
 |.bad e,_=>.bad e
 |.got x r,f=>f x r
def Az (c:Int):Bool:=decide (48<=c)&&decide (c<=57)
def A1 (c:Int):Tx->Rd Unit
 |[]=>.bad []
 |b::r=>if ((b.toNat:Int)==c)=true then .got () r else .bad (b::r)
def Aw (p:Int->Bool):Nat->Tx->Tx×Tx
 |0,s=>([],s)
 |_+1,[]=>([],[])
 |n+1,b::r=>if p b.toNat=true then (b::(Aw p n r).1,(Aw p n r).2)else ([],b::r)
def Ee (s:Tx):Rd Tx:=if (Aw Ba 6 s).1=[]then .bad s else .got (Aw Ba 6 s).1 (Aw Ba 6 s).2
def Ci:Tx->Rd Tx
 |[]=>.bad []
 |b::r=>if A8 b.toNat=true then .got [b] r else if ((b.toNat:Int)==48)=true then .got [b] r
  else if Gb b.toNat=true then .got (b::(Aw Az 2 r).1) (Aw Az 2 r).2 else .bad (b::r)
def Dg {α:Type}(f:Tx->Rd α):Nat->Tx->Rd (List α)
 |0,s=>.got [] s
 |_+1,[]=>.got [] []
 |n+1,b::r=>if ((b.toNat:Int)==44)=true then
  (f r).bnd fun x r1=>(Dg f n r1).bnd fun xs r2=>.got (x::xs) r2
  else .got [] (b::r)
def Tw (nt:Bool)(p:Tx)(s:Tx):Rd RAtom:=
 (Ci s).bnd fun t r=>(Dg Ci 2 r).bnd fun ts r=>(A1 41 r).bnd fun _ r=>.got {nt:=nt,pred:=p,terms:=t::ts} r
def Dh (nt:Bool)(s:Tx):Rd RAtom:=
 (Ee s).bnd fun p r=>(A1 40 r).bnd fun _ r=>Tw nt p r
def Je:Tx->Rd RAtom
 |[]=>.bad []
 |b::r=>if ((b.toNat:Int)==33)=true then Dh true r else Dh false (b::r)
def Qm (h:RAtom)(s:Tx):Rd RItem:=
 (Je s).bnd fun l r=>(Dg Je 4 r).bnd fun ls r=>(A1 46 r).bnd fun _ r=>.got {out:=false,head:=h,body:=l::ls} r
def Mq (h:RAtom):Tx->Rd RItem
 |[]=>.bad []
 |b::r=>if ((b.toNat:Int)==46)=true then .got {out:=false,head:=h,body:=[]} r else
  (A1 58 (b::r)).bnd fun _ r=>(A1 45 r).bnd fun _ r=>Qm h r
def Mr (s:Tx):Rd RItem:=(Dh false s).bnd fun h r=>Mq h r
def Y8 (s:Tx):Rd RItem:=
 (Ee s).bnd fun p r=>(A1 46 r).bnd fun _ r=>.got {out:=true,head:={nt:=false,pred:=p,terms:=[]},body:=[]} r
def E3:Tx->Rd RItem
 |[]=>.bad []
 |b::r=>if ((b.toNat:Int)==63)=true then Y8 r else Mr (b::r)
def Bz:Nat->Tx->Rd (List RItem)
 |_,[]=>.got [] []
 |0,s=>.bad s
 |n+1,s=>(E3 s).bnd fun x r=>(Bz n r).bnd fun xs r=>.got (x::xs) r
def stop:Eb->Tx->Option Tx
 |X,[]=>if X.st !=0 then some []else none
 |X,c::r=>if (Be X c).2=true then stop (Be X c).1 r else some (c::r)
theorem oE:∀(s:Tx) (X:Eb) (i:Nat),
  (match (gZ X s i).2 with|some j=>(j:Int)|none=>if (gZ X s i).1.st !=0 then ((i+s.length:Nat):Int)else -1)=match stop X s with|some r=>((i+s.length-r.length:Nat):Int)|none=> -1:=by
 intro s;induction s with
 |nil=>intro X i;simp only[gZ,stop];split<;>simp_all
 |cons c r ih=>
  intro X i;unfold gZ stop;by_cases h:(Be X c).2=true
  ·simp only[h,if_true];have:=ih (Be X c).1 (i+1);rw[show i+(c::r).length=i+1+r.length by simp;omega];exact this
  ·simp only[h];simp
theorem dH (s:Tx):Nb s=match stop cM s with|some r=>((s.length-r.length:Nat):Int)|none=> -1:=by
 have:=oE s cM 0;unfold Nb;rw[Aed]at this;rw[<-this];rfl
def Via {α:Type}(P:Eb->Prop)(res:Rd α)(o:Option Tx):Prop:=
 match res with
 |.bad e=>o=some e
 |.got _ r=>∃X',P X'/\o=stop X' r
theorem Via.bind {α β:Type}{P Q:Eb->Prop}{res:Rd α}{o:Option Tx}{f:α->Tx->Rd β}(h:Via P res o)(k:∀x r X',P X'->Via Q (f x r) (stop X' r)):Via Q (res.bnd f) o:=by
 cases res with
 |bad e=>exact h
 |got x r=>
  obtain⟨X',hP,rfl⟩:=h;exact k x r X' hP
theorem Via.ret {α:Type}{P:Eb->Prop}{x:α}{r:Tx}{X:Eb}(h:P X):Via P (.got x r) (stop X r):=⟨X,h,rfl⟩
theorem Via.err {α:Type}{P:Eb->Prop}{e:Tx}{o:Option Tx}(h:o=some e):Via (α:=α) P (.bad e) o:=h
theorem Cs {X:Eb}{c:UInt8}{r:Tx}(h:(Be X c).2=true):stop X (c::r)=stop (Be X c).1 r:=by
 rw[stop,if_pos h]
theorem Fi {X:Eb}{c:UInt8}{r:Tx}(h:(Be X c).2=false):stop X (c::r)=some (c::r):=by
 rw[stop,if_neg (by simp[h])]
theorem C2 {X:Eb}(h:X.st≠0):stop X []=some []:=by
 rw[stop,if_pos (by simpa using h)]
def sK (X X':Eb):Prop:=X'.items=X.items/\X'.lits=X.lits/\X'.head=X.head
theorem rB:∀(n:Nat) (s:Tx) (X:Eb),X.st=5->X.letters=6-(n:Int)->n<=6->
  Via (fun X'=>X'.st=6/\X'.terms=0/\sK X X') (A1 40 (Aw Ba n s).2) (stop X s):=by
 intro n;induction n with
 |zero=>
  intro s X h5 hl hn;cases s with
  |nil=>exact Via.err (C2 Agm)
  |cons b r=>
   unfold Aw A1;simp only;by_cases hb:((b.toNat:Int)==40)=true
   ·rw[if_pos hb];have e:Be X b=({X with terms:=0,st:=6},true):=by
     simp[Be,E7,h5,hl,hb]
    rw[Cs (by rw[e]),e];exact Via.ret ⟨rfl,rfl,rfl,rfl,rfl⟩
   ·rw[if_neg hb];refine Via.err (Fi ?_);simp[Be,E7,h5,hl,hb]
 |succ n ih=>
  intro s X h5 hl hn;cases s with
  |nil=>exact Via.err (C2 Agm)
  |cons b r=>
   unfold Aw;by_cases hs:Ba b.toNat=true
   ·rw[if_pos hs];have e:Be X b=({X with letters:=X.letters+1},true):=by
     simp[Be,E7,h5,hs];omega
    rw[Cs (by rw[e]),e];exact ih r {X with letters:=X.letters+1} h5 (by simp;omega) Agm
   ·rw[if_neg hs];unfold A1;simp only;by_cases hb:((b.toNat:Int)==40)=true
    ·rw[if_pos hb];have e:Be X b=({X with terms:=0,st:=6},true):=by
      simp[Be,E7,h5,hs,hb]
     rw[Cs (by rw[e]),e];exact Via.ret ⟨rfl,rfl,rfl,rfl,rfl⟩
    ·rw[if_neg hb];refine Via.err (Fi ?_);simp[Be,E7,h5,hs,hb]
theorem Ft {α β γ:Type}(a:Rd α)(f:α->Tx->Rd β)(g:β->Tx->Rd γ):(a.bnd f).bnd g=a.bnd fun x r=>(f x r).bnd g:=by cases a<;>rfl
theorem digit_iff {c:Int}:Az c=true↔(Gb c=true\/(c==48)=true):=by
 simp[Az,Gb];omega
theorem Ld {c:Int}(h:A8 c=true):Gb c=false:=by
 simp[A8,Gb]at*;omega
theorem Ky {X:Eb}{s:Tx}(h7:X.st=7)(h:∀b r,s=b::r->Az b.toNat=true->¬X.digits<3):stop X s=stop {X with st:=8} s:=by
 cases s with
 |nil=>rw[C2 Agm,C2 (by simp)]
 |cons b r=>
  have hd:=h b r rfl;have hq:¬((X.st==7)=true/\decide (X.digits<3)=true/\(Gb b.toNat=true\/((b.toNat:Int)==48)=true)):=by
   rintro⟨-,q1,q2⟩;exact hd (digit_iff.2 q2) (by simpa using q1)
  have e1:Be X b=if ((b.toNat:Int)==41)=true then ({X with lits:=if (!X.head)=true then X.lits+1 else X.lits,st:=9},true)else if ((b.toNat:Int)==44)=true/\decide (X.terms<3)=true then ({X with st:=6},true)else (X,false):=by
   unfold Be E7;rw[if_pos (by simp[h7]),if_neg (by simp[h7]),if_neg (by simp[h7]),if_neg hq]
  have e2:Be {X with st:=8} b=if ((b.toNat:Int)==41)=true then ({X with lits:=if (!X.head)=true then X.lits+1 else X.lits,st:=9},true)else if ((b.toNat:Int)==44)=true/\decide (X.terms<3)=true then ({X with st:=6},true)else ({X with st:=8},false):=by
   unfold Be E7;rw[if_pos (by simp),if_neg (by simp),if_neg (by simp),if_neg (by simp)]
  unfold stop;rw[e1,e2];by_cases h1:((b.toNat:Int)==41)=true
  ·rw[if_pos h1,if_pos h1]
  ·rw[if_neg h1,if_neg h1];by_cases h2:((b.toNat:Int)==44)=true/\decide (X.terms<3)=true
   ·rw[if_pos h2,if_pos h2]
   ·rw[if_neg h2,if_neg h2];rfl
theorem gK:∀(n:Nat) (s:Tx) (X:Eb),X.st=7->X.digits=3-(n:Int)->∃X',X'.st=8/\X'.terms=X.terms/\sK X X'/\stop X s=stop X' (Aw Az n s).2:=by
 intro n;induction n with
 |zero=>
  intro s X h7 hd;exact⟨{X with st:=8},rfl,rfl,⟨rfl,rfl,rfl⟩,Ky h7 (fun _ _ _ _=>Agm)⟩
 |succ n ih=>
  intro s X h7 hd;cases s with
  |nil=>exact⟨{X with st:=8},rfl,rfl,⟨rfl,rfl,rfl⟩,Ky h7 (fun _ _ h _=>by cases h)⟩
  |cons b r=>
   unfold Aw;by_cases hb:Az b.toNat=true
   ·rw[if_pos hb];have e:Be X b=({X with digits:=X.digits+1},true):=by
     have:=digit_iff.1 hb;unfold Be E7;rw[if_pos (by simp[h7]),if_neg (by simp[h7]),if_neg (by simp[h7]),if_pos ⟨by simp[h7],by simp;omega,this⟩]
    rw[Cs (by rw[e]),e];obtain⟨X',h1,h2,h3,h4⟩:=ih r {X with digits:=X.digits+1} h7 (by simp;omega);exact⟨X',h1,h2,h3,h4⟩
   ·rw[if_neg hb];exact⟨{X with st:=8},rfl,rfl,⟨rfl,rfl,rfl⟩,Ky h7 (fun c q h hc=>by cases h;exact absurd hc hb)⟩
theorem aM (s:Tx)(X:Eb)(h6:X.st=6):Via (fun X'=>X'.st=8/\X'.terms=X.terms+1/\sK X X') (Ci s) (stop X s):=by
 cases s with
 |nil=>exact Via.err (C2 Agm)
 |cons b r=>
  unfold Ci;by_cases hl:A8 b.toNat=true
  ·simp only[hl,if_true];have e:Be X b=({X with terms:=X.terms+1,digits:=1,st:=8},true):=by
    simp[Be,E7,h6,hl,Ld hl]
   rw[Cs (by rw[e]),e];exact Via.ret ⟨rfl,rfl,rfl,rfl,rfl⟩
  ·simp only[hl];by_cases hz:((b.toNat:Int)==48)=true
   ·have hn:Gb b.toNat=false:=by simp[Gb]at*;omega
    simp only[hz,if_true];have e:Be X b=({X with terms:=X.terms+1,digits:=1,st:=8},true):=by
     simp[Be,E7,h6,hl,hz,hn]
    rw[Cs (by rw[e]),e];exact Via.ret ⟨rfl,rfl,rfl,rfl,rfl⟩
   ·simp only[hz];by_cases hn:Gb b.toNat=true
    ·simp only[hn,if_true];have e:Be X b=({X with terms:=X.terms+1,digits:=1,st:=7},true):=by
      simp[Be,E7,h6,hn]
     rw[Cs (by rw[e]),e];obtain⟨X',h1,h2,h3,h4⟩:=gK 2 r {X with terms:=X.terms+1,digits:=1,st:=7} rfl (by simp);exact⟨X',⟨h1,h2,h3⟩,h4⟩
    ·simp only[hn];refine Via.err (Fi ?_);simp[Be,E7,h6,hl,hz,hn]
def zY (it li:Int)(hd:Bool)(X:Eb):Prop:=X.st=9/\X.items=it/\X.head=hd/\X.lits=if hd=true then li else li+1
theorem V0 {β:Type}(s:Tx)(X:Eb)(k:β)(h8:X.st=8)(h:∀b r,s=b::r->((b.toNat:Int)==44)=true->¬X.terms<3):
  Via (zY X.items X.lits X.head) ((A1 41 s).bnd fun _ r=>.got k r) (stop X s):=by
 cases s with
 |nil=>exact Via.err (C2 Agm)
 |cons b r=>
  unfold A1;have hh:=h b r rfl;by_cases hb:((b.toNat:Int)==41)=true
  ·simp only[hb,if_true];have e:Be X b=({X with lits:=if (!X.head)=true then X.lits+1 else X.lits,st:=9},true):=by
    simp[Be,E7,h8,hb]
   rw[Cs (by rw[e]),e];refine Via.ret ⟨rfl,rfl,rfl,?_⟩;cases X.head<;>simp
  ·simp only[hb];refine Via.err (Fi ?_);simp[Be,E7,h8,hb];rw[if_neg];rintro⟨h1,h2⟩;have:=hh (by simpa using h1);omega
theorem rF {β:Type}:∀(n:Nat) (s:Tx) (X:Eb) (k:List Tx->β),X.st=8->X.terms=3-(n:Int)->
  Via (zY X.items X.lits X.head) ((Dg Ci n s).bnd fun ts r=>(A1 41 r).bnd fun _ r=>.got (k ts) r) (stop X s):=by
 intro n;induction n with
 |zero=>
  intro s X k h8 ht;exact V0 s X (k []) h8 (fun _ _ _ _=>Agm)
 |succ n ih=>
  intro s X k h8 ht;cases s with
  |nil=>exact Via.err (C2 Agm)
  |cons b r=>
   unfold Dg;by_cases hb:((b.toNat:Int)==44)=true
   ·simp only[hb,if_true];have e:Be X b=({X with st:=6},true):=by
     have:¬((b.toNat:Int)==41)=true:=by simp at*;omega
     simp[Be,E7,h8,hb,this];omega
    rw[Cs (by rw[e]),e,Ft];refine Via.bind (aM r {X with st:=6} rfl) ?_;rintro x r1 X' ⟨h1,h2,h3,h4,h5⟩;rw[Ft];have:=ih r1 X' (fun ts=>k (x::ts)) h1 (by simp at h2;omega);rw[h3,h4,h5]at this;exact this
   ·simp only[hb];exact V0 (b::r) X (k []) h8 (fun c q h hc=>by cases h;exact absurd hc hb)
theorem R6 (nt:Bool)(b:UInt8)(r:Tx)(X:Eb)(it li:Int)(hd:Bool)(hs:Ba b.toNat=true->∃X1,Be X b=(X1,true)/\X1.st=5/\X1.letters=1/\X1.items=it/\X1.lits=li/\X1.head=hd)
  (hn:Ba b.toNat=false->(Be X b).2=false):Via (zY it li hd) (Dh nt (b::r)) (stop X (b::r)):=by
 unfold Dh Ee;by_cases hb:Ba b.toNat=true
 ·obtain⟨X1,e,h1,h2,h3,h4,h5⟩:=hs hb;rw[Cs (by rw[e]),e];have e6:Aw Ba 6 (b::r)=(b::(Aw Ba 5 r).1,(Aw Ba 5 r).2):=by rw[Aw,if_pos hb]
  rw[e6];simp only[reduceCtorEq,if_false,Rd.bnd];refine Via.bind (rB 5 r X1 h1 Agm Agm) ?_;rintro _ r1 X' ⟨g1,g2,g3,g4,g5⟩;unfold Tw;refine Via.bind (aM r1 X' g1) ?_;rintro t r2 X2 ⟨q1,q2,q3,q4,q5⟩;have:=rF 2 r2 X2 (fun ts=>({nt:=nt,pred:=b::(Aw Ba 5 r).1,terms:=t::ts}:RAtom)) q1 Agm;rw[q3,g3,h3,q4,g4,h4,q5,g5,h5]at this;exact this
 ·have aa:Ba b.toNat=false:=by simpa using hb
  have e6:Aw Ba 6 (b::r)=([],b::r):=by rw[Aw,if_neg hb]
  rw[e6];simp only[if_true,Rd.bnd];exact Via.err (Fi (hn aa))
theorem kN (s:Tx)(X:Eb)(h3:X.st=3):Via (zY X.items X.lits X.head) (Je s) (stop X s):=by
 cases s with
 |nil=>exact Via.err (C2 Agm)
 |cons b r=>
  unfold Je;by_cases hb:((b.toNat:Int)==33)=true
  ·simp only[hb,if_true];have e:Be X b=({X with letters:=1,st:=4},true):=by simp[Be,C0,h3,hb]
   rw[Cs (by rw[e]),e];cases r with
   |nil=>
    refine Via.err (C2 (by simp))
   |cons c q=>
    refine R6 true c q _ _ _ _ (fun hs=>⟨{X with letters:=1,st:=5},?_,rfl,rfl,rfl,rfl,rfl⟩) (fun hs=>?_)
    ·simp[Be,C0,hs]
    ·simp[Be,C0,hs]
  ·simp only[hb];refine R6 false b r _ _ _ _ (fun hs=>⟨{X with letters:=1,st:=5},?_,rfl,rfl,rfl,rfl,rfl⟩) (fun hs=>?_)
   ·simp[Be,C0,h3,hb,hs]
   ·simp[Be,C0,h3,hb,hs]
def Next (it:Int)(X:Eb):Prop:=X.st=0/\X.items=it+1
theorem kO {β:Type}(s:Tx)(X:Eb)(k:β)(h9:X.st=9)(hh:X.head=false)(h:∀b r,s=b::r->((b.toNat:Int)==44)=true->¬X.lits<5):
  Via (Next X.items) ((A1 46 s).bnd fun _ r=>.got k r) (stop X s):=by
 cases s with
 |nil=>exact Via.err (C2 Agm)
 |cons b r=>
  unfold A1;have hq:=h b r rfl;by_cases hb:((b.toNat:Int)==46)=true
  ·simp only[hb,if_true];have e:Be X b=({X with items:=X.items+1,st:=0},true):=by simp[Be,C0,h9,hb]
   rw[Cs (by rw[e]),e];exact Via.ret ⟨rfl,rfl⟩
  ·simp only[hb];refine Via.err (Fi ?_);simp[Be,C0,h9,hb,hh];rw[if_neg];rintro⟨h1,h2⟩;have:=hq (by simpa using h1);omega
theorem rC {β:Type}:∀(n:Nat) (s:Tx) (X:Eb) (k:List RAtom->β),X.st=9->X.head=false->X.lits=5-(n:Int)->
  Via (Next X.items) ((Dg Je n s).bnd fun ts r=>(A1 46 r).bnd fun _ r=>.got (k ts) r) (stop X s):=by
 intro n;induction n with
 |zero=>
  intro s X k h9 hh ht;exact kO s X (k []) h9 hh (fun _ _ _ _=>Agm)
 |succ n ih=>
  intro s X k h9 hh ht;cases s with
  |nil=>exact Via.err (C2 Agm)
  |cons b r=>
   unfold Dg;by_cases hb:((b.toNat:Int)==44)=true
   ·simp only[hb,if_true];have e:Be X b=({X with st:=3},true):=by
     have h1:¬((b.toNat:Int)==46)=true:=by simp at*;omega
     simp[Be,C0,h9,hb,h1,hh];omega
    rw[Cs (by rw[e]),e,Ft];refine Via.bind (kN r {X with st:=3} rfl) ?_;rintro x r1 X' ⟨h1,h2,h3,h4⟩;rw[Ft];have:=ih r1 X' (fun ts=>k (x::ts)) h1 (by rw[h3];exact hh) (by simp[hh]at h4;omega);rw[h2]at this;exact this
   ·simp only[hb];exact kO (b::r) X (k []) h9 hh (fun c q h hc=>by cases h;exact absurd hc hb)
theorem rE (h:RAtom)(s:Tx)(X:Eb)(h3:X.st=3)(hh:X.head=false)(hl:X.lits=0):Via (Next X.items) (Qm h s) (stop X s):=by
 unfold Qm;refine Via.bind (kN s X h3) ?_;rintro x r X' ⟨h1,h2,h4,h5⟩;have:=rC 4 r X' (fun ls=>({out:=false,head:=h,body:=x::ls}:RItem)) h1 (by rw[h4];exact hh) (by simp[hh,hl]at h5;omega);rw[h2]at this;exact this
theorem qZ (h:RAtom)(s:Tx)(X:Eb)(h9:X.st=9)(hh:X.head=true)(hl:X.lits=0):Via (Next X.items) (Mq h s) (stop X s):=by
 cases s with
 |nil=>exact Via.err (C2 Agm)
 |cons b r=>
  unfold Mq;by_cases hb:((b.toNat:Int)==46)=true
  ·simp only[hb,if_true];have e:Be X b=({X with items:=X.items+1,st:=0},true):=by simp[Be,C0,h9,hb]
   rw[Cs (by rw[e]),e];exact Via.ret ⟨rfl,rfl⟩
  ·simp only[hb];unfold A1;by_cases hc:((b.toNat:Int)==58)=true
   ·simp only[hc,if_true];have e:Be X b=({X with st:=10},true):=by simp[Be,C0,h9,hb,hc,hh]
    rw[Cs (by rw[e]),e];cases r with
    |nil=>exact Via.err (C2 (by simp))
    |cons c q=>
     by_cases hd:((c.toNat:Int)==45)=true
     ·simp only[hd,if_true,Rd.bnd];have e:Be {X with st:=10} c=({X with head:=false,st:=3},true):=by simp[Be,C0,hd]
      simp only[Aek,if_false];rw[Cs (by rw[e]),e];exact rE h q {X with head:=false,st:=3} rfl rfl hl
     ·simp only[hd,Rd.bnd];refine Via.err (Fi ?_);simp[Be,C0,hd]
   ·simp only[hc];refine Via.err (Fi ?_);simp[Be,C0,h9,hb,hc,hh]
theorem nO:∀(n:Nat) (s:Tx) (X:Eb) (k:Tx->RItem),X.st=2->X.letters=6-(n:Int)->
  Via (Next X.items) ((A1 46 (Aw Ba n s).2).bnd fun _ r=>.got (k (Aw Ba n s).1) r) (stop X s):=by
 intro n;induction n with
 |zero=>
  intro s X k h2 hl;cases s with
  |nil=>exact Via.err (C2 Agm)
  |cons b r=>
   unfold Aw A1;by_cases hb:((b.toNat:Int)==46)=true
   ·simp only[hb,if_true];have e:Be X b=({X with items:=X.items+1,st:=0},true):=by simp[Be,C0,h2,hl,hb]
    rw[Cs (by rw[e]),e];exact Via.ret ⟨rfl,rfl⟩
   ·simp only[hb];refine Via.err (Fi ?_);simp[Be,C0,h2,hl,hb]
 |succ n ih=>
  intro s X k h2 hl;cases s with
  |nil=>exact Via.err (C2 Agm)
  |cons b r=>
   unfold Aw;by_cases hs:Ba b.toNat=true
   ·simp only[hs,if_true];have e:Be X b=({X with letters:=X.letters+1,st:=2},true):=by
     simp[Be,C0,h2,hs];omega
    rw[Cs (by rw[e]),e];exact ih r {X with letters:=X.letters+1,st:=2} (fun x=>k (b::x)) rfl (by simp;omega)
   ·simp only[hs];unfold A1;by_cases hb:((b.toNat:Int)==46)=true
    ·simp only[Aek,if_false,hb,if_true];have e:Be X b=({X with items:=X.items+1,st:=0},true):=by simp[Be,C0,h2,hs,hb]
     rw[Cs (by rw[e]),e];exact Via.ret ⟨rfl,rfl⟩
    ·simp only[Aek,if_false,hb];refine Via.err (Fi ?_);simp[Be,C0,h2,hs,hb]
theorem rD (b:UInt8)(r:Tx)(X:Eb)(h0:X.st=0)(hi:X.items≠16):Via (Next X.items) (E3 (b::r)) (stop X (b::r)):=by
 unfold E3;by_cases hb:((b.toNat:Int)==63)=true
 ·simp only[hb,if_true];have e:Be X b=({X with head:=true,letters:=0,lits:=0,st:=1},true):=by simp[Be,C0,h0,hi,hb]
  rw[Cs (by rw[e]),e];unfold Y8 Ee;cases r with
  |nil=>exact Via.err (C2 (by simp))
  |cons c q=>
   by_cases hs:Ba c.toNat=true
   ·have e6:Aw Ba 6 (c::q)=(c::(Aw Ba 5 q).1,(Aw Ba 5 q).2):=by rw[Aw,if_pos hs]
    rw[e6];simp only[reduceCtorEq,if_false,Rd.bnd];have e:Be {X with head:=true,letters:=0,lits:=0,st:=1} c=({X with head:=true,letters:=1,lits:=0,st:=2},true):=by simp[Be,C0,hs]
    rw[Cs (by rw[e]),e];exact nO 5 q {X with head:=true,letters:=1,lits:=0,st:=2} (fun x=>{out:=true,head:={nt:=false,pred:=c::x,terms:=[]},body:=[]}) rfl (by simp)
   ·have e6:Aw Ba 6 (c::q)=([],c::q):=by rw[Aw,if_neg hs]
    rw[e6];simp only[if_true,Rd.bnd];refine Via.err (Fi ?_);simp[Be,C0,hs]
 ·simp only[hb];unfold Mr;refine Via.bind (R6 false b r X X.items 0 true (fun hs=>⟨{X with head:=true,letters:=1,lits:=0,st:=5},?_,rfl,rfl,rfl,rfl,rfl⟩) (fun hs=>?_)) ?_
  ·simp[Be,C0,h0,hi,hb,hs]
  ·simp[Be,C0,h0,hi,hb,hs]
  ·rintro x r X' ⟨h1,h2,h3,h4⟩;have:=qZ x r X' h1 h3 (by simpa using h4);rw[h2]at this;exact this
theorem nP:∀(n:Nat) (s:Tx) (X:Eb),X.st=0->X.items=16-(n:Int)->stop X s=match Bz n s with|.bad e=>some e|.got _ _=>none:=by
 intro n;induction n with
 |zero=>
  intro s X h0 hi;cases s with
  |nil=>simp[stop,Bz,h0]
  |cons b r=>
   simp only[Bz];refine Fi ?_;simp[Be,C0,h0,hi]
 |succ n ih=>
  intro s X h0 hi;cases s with
  |nil=>simp[stop,Bz,h0]
  |cons b r=>
   have hv:=rD b r X h0 Agm;unfold Bz;cases hp:E3 (b::r)with
   |bad e=>rw[hp]at hv;exact hv
   |got x q=>
    rw[hp]at hv;obtain⟨X',⟨h1,h2⟩,h3⟩:=hv;rw[h3,ih q X' h1 Agm];simp only[Rd.bnd];cases Bz n q<;>rfl
theorem Jy (s:Tx):Nb s=match Bz 16 s with|.bad e=>((s.length-e.length:Nat):Int)|.got _ _=> -1:=by
 rw[dH,nP 16 s cM rfl rfl];cases Bz 16 s<;>rfl
theorem J9 {b:UInt8}(c:UInt8)(h:((b.toNat:Int)==(c.toNat:Int))=true):b=c:=by
 have:b.toNat=c.toNat:=by simp at h;omega
 exact UInt8.toNat_inj.1 this
def G6 (p:Tx):Prop:=p≠[]/\∀b∈p,Ba b.toNat=true
def Is (t:Tx):Prop:=t≠[]/\∀b∈t,A8 b.toNat=true\/Az b.toNat=true
def Da (a:RAtom):Prop:=G6 a.pred/\a.terms≠[]/\a.terms.length<=3/\∀t∈a.terms,Is t
def Bv (x:RItem):Prop:=G6 x.head.pred/\(x.out=true->x.head.nt=false/\x.head.terms=[]/\x.body=[])/\(x.out=false->Da x.head/\x.head.nt=false/\x.body.length<=5/\∀a∈x.body,Da a)
def A7 (ts:List Tx):Tx:=ts.flatMap fun t=>44::t
def A2:List Tx->Tx
 |[]=>[]
 |t::ts=>t++A7 ts
def A4 (a:RAtom):Tx:=a.pred++40::(A2 a.terms++[41])
def Bb (a:RAtom):Tx:=(if a.nt=true then [33]else [])++A4 a
def Cv (x:RItem):Tx:=A4 x.head++(if x.body=[]then []else 58::45::A2 (x.body.map Bb))
def A0 (x:RItem):Tx:=if x.out=true then 63::x.head.pred else Cv x
theorem A3 {α β:Type}{a:Rd α}{f:α->Tx->Rd β}{y:β}{r:Tx}(h:a.bnd f= .got y r):∃x q,a= .got x q/\f x q= .got y r:=by
 cases a with
 |bad e=>cases h
 |got x q=>exact⟨x,q,rfl,h⟩
theorem Hp {c:UInt8}{s r:Tx}{x:Unit}(h:A1 c.toNat s= .got x r):s=c::r:=by
 cases s with
 |nil=>cases h
 |cons b q=>
  unfold A1 at h;dsimp only at h;split at h
  ·rename_i hb;cases h;rw[J9 c hb]
  ·cases h
theorem Ds (p:Int->Bool):∀(n:Nat) (s:Tx),s=(Aw p n s).1++(Aw p n s).2/\(∀b∈(Aw p n s).1,p b.toNat=true)
 |0,s=>by simp[Aw]
 |n+1,[]=>by simp[Aw]
 |n+1,b::r=>by
  unfold Aw;split
  ·rename_i h;obtain⟨h1,h2⟩:=Ds p n r;refine⟨by simp;exact h1,?_⟩;intro c hc;rcases Aeq.1 hc with rfl|hc
   ·exact h
   ·exact h2 c hc
  ·simp
theorem Nh {s r p:Tx}(h:Ee s= .got p r):s=p++r/\G6 p:=by
 unfold Ee at h;split at h
 ·cases h
 ·rename_i aa;cases h;exact⟨(Ds Ba 6 s).1,aa,(Ds Ba 6 s).2⟩
theorem Tp {s r t:Tx}(h:Ci s= .got t r):s=t++r/\Is t:=by
 cases s with
 |nil=>cases h
 |cons b q=>
  unfold Ci at h;dsimp only at h;split at h
  ·rename_i hl;cases h;exact⟨rfl,by simp,by simp[hl]⟩
  ·split at h
   ·rename_i hz;cases h;refine⟨rfl,by simp,?_⟩;intro c hc;simp at hc;subst hc;right;simp[Az]at*
    omega
   ·split at h
    ·rename_i hn;cases h;obtain⟨h1,h2⟩:=Ds Az 2 q;refine⟨by simp;exact h1,by simp,?_⟩;intro c hc;rcases Aeq.1 hc with rfl|hc
     ·right;exact digit_iff.2 (.inl hn)
     ·right;exact h2 c hc
    ·cases h
theorem Tr {α:Type}{W:α->Prop}{u:α->Tx}{f:Tx->Rd α}(hf:∀s x r,f s= .got x r->s=u x++r/\W x):∀(n:Nat) (s:Tx) (xs:List α) (r:Tx),Dg f n s= .got xs r->
  s=A7 (xs.map u)++r/\xs.length<=n/\∀x∈xs,W x:=by
 intro n;induction n with
 |zero=>intro s xs r h;cases h;simp[A7]
 |succ n ih=>
  intro s xs r h;cases s with
  |nil=>cases h;simp[A7]
  |cons b q=>
   unfold Dg at h;split at h
   ·rename_i hb;obtain⟨x,q1,h1,h2⟩:=A3 h;obtain⟨ys,q2,h3,h4⟩:=A3 h2;cases h4;obtain⟨g1,g2⟩:=hf _ _ _ h1;obtain⟨g3,g4,g5⟩:=ih _ _ _ h3;refine⟨?_,by simp;omega,?_⟩
    ·rw[J9 44 hb,g1,g3];simp[A7]
    ·intro y hy;rcases Aeq.1 hy with rfl|hy
     ·exact g2
     ·exact g5 y hy
   ·cases h;simp[A7]
theorem Hw {nt:Bool}{s r:Tx}{a:RAtom}(h:Dh nt s= .got a r):s=A4 a++r/\Da a/\a.nt=nt:=by
 unfold Dh Tw at h;obtain⟨p,q1,h1,h⟩:=A3 h;obtain⟨_,q2,h2,h⟩:=A3 h;obtain⟨t,q3,h3,h⟩:=A3 h;obtain⟨ts,q4,h4,h⟩:=A3 h;obtain⟨_,q5,h5,h⟩:=A3 h;cases h;obtain⟨a1,a2⟩:=Nh h1;have a3:=Hp (c:=40) h2;obtain⟨a4,a5⟩:=Tp h3;obtain⟨a6,a7,a8⟩:=Tr (u:=id) (fun s x r h=>Tp h) _ _ _ _ h4;have a9:=Hp (c:=41) h5;refine⟨?_,⟨a2,by simp,by simp;omega,?_⟩,rfl⟩
 ·rw[a1,a3,a4,a6,a9];simp[A4,A2]
 ·intro y hy;rcases Aeq.1 hy with rfl|hy
  ·exact a5
  ·exact a8 y hy
theorem W9 {s r:Tx}{a:RAtom}(h:Je s= .got a r):s=Bb a++r/\Da a:=by
 cases s with
 |nil=>cases h
 |cons b q=>
  unfold Je at h;dsimp only at h;split at h
  ·rename_i hb;obtain⟨h1,h2,h3⟩:=Hw h;exact⟨by rw[J9 33 hb,h1];simp[Bb,h3],h2⟩
  ·obtain⟨h1,h2,h3⟩:=Hw h;exact⟨by rw[h1];simp[Bb,h3],h2⟩
theorem Tu {s r:Tx}{x:RItem}(h:E3 s= .got x r):s=A0 x++46::r/\Bv x:=by
 cases s with
 |nil=>cases h
 |cons b q=>
  unfold E3 at h;dsimp only at h;split at h
  ·rename_i hb;unfold Y8 at h;obtain⟨p,q1,h1,h⟩:=A3 h;obtain⟨_,q2,h2,h⟩:=A3 h;cases h;obtain⟨a1,a2⟩:=Nh h1;have a3:=Hp (c:=46) h2;exact⟨by rw[J9 63 hb,a1,a3];simp[A0],a2,by simp,by simp⟩
  ·unfold Mr at h;obtain⟨hd,q1,h1,h⟩:=A3 h;obtain⟨a1,a2,a3⟩:=Hw h1;cases q1 with
   |nil=>cases h
   |cons c q2=>
    unfold Mq at h;dsimp only at h;split at h
    ·rename_i hc;cases h;exact⟨by rw[a1,J9 46 hc];simp[A0,Cv],a2.1,by simp,fun _=>⟨a2,a3,by simp,by simp⟩⟩
    ·unfold Qm at h;obtain⟨_,q3,h2,h⟩:=A3 h;obtain⟨_,q4,h3,h⟩:=A3 h;obtain⟨l,q5,h4,h⟩:=A3 h;obtain⟨ls,q6,h5,h⟩:=A3 h;obtain⟨_,q7,h6,h⟩:=A3 h;cases h;have b1:=Hp (c:=58) h2;have b2:=Hp (c:=45) h3;obtain⟨b3,b4⟩:=W9 h4;obtain⟨b5,b6,b7⟩:=Tr (fun s x r h=>W9 h) _ _ _ _ h5;have b8:=Hp (c:=46) h6;refine⟨by rw[a1,b1,b2,b3,b5,b8];simp[A0,Cv,A2],a2.1,by simp,fun _=>⟨a2,a3,by simp;omega,?_⟩⟩;intro y hy;rcases Aeq.1 hy with rfl|hy
     ·exact b4
     ·exact b7 y hy
def Bj (l:List RItem):Tx:=l.flatMap fun x=>A0 x++[46]
theorem Iq:∀(n:Nat) (s:Tx) (l:List RItem) (r:Tx),Bz n s= .got l r->s=Bj l/\r=[]/\l.length<=n/\∀x∈l,Bv x:=by
 intro n;induction n with
 |zero=>
  intro s l r h;cases s with
  |nil=>cases h;simp[Bj]
  |cons b q=>cases h
 |succ n ih=>
  intro s l r h;cases s with
  |nil=>cases h;simp[Bj]
  |cons b q=>
   unfold Bz at h;obtain⟨x,q1,h1,h⟩:=A3 h;obtain⟨xs,q2,h2,h⟩:=A3 h;cases h;obtain⟨a1,a2⟩:=Tu h1;obtain⟨b1,b2,b3,b4⟩:=ih _ _ _ h2;refine⟨by rw[a1,b1];simp[Bj],b2,by simp;omega,?_⟩;intro y hy;rcases Aeq.1 hy with rfl|hy
   ·exact a2
   ·exact b4 y hy
end Go.Proofs.YtmoeoppbmhfbpabGreatDoorG
