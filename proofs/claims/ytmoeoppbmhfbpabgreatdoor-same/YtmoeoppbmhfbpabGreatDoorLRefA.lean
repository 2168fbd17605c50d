import Derived.Test.YtmoeoppbmhfbpabGreatDoorLFacts
set_option maxRecDepth 100000
set_option linter.all false
namespace Go.Proofs.YtmoeoppbmhfbpabGreatDoorL
open Go.Abs
def Bp (c:Int):Bool:=decide (97<=c)&&decide (c<=122)
def Bl (c:Int):Bool:=decide (65<=c)&&decide (c<=90)
def Gz (c:Int):Bool:=decide (49<=c)&&decide (c<=57)
structure Ei where
 st:Int
 items:Int
 letters:Int
 digits:Int
 terms:Int
 lits:Int
 head:Bool
structure KeepX (o:Nat)(A A':St):Prop where
 nobj:A.nobj<=A'.nobj
 obj:∀p,p<A.nobj->p≠o->A'.obj p=A.obj p
 ver:∀p,p<A.nobj->p≠o->A'.ver p=A.ver p
 ntop:A.ntop<=A'.ntop
 top:∀k,k<A.ntop->A'.top k=A.top k
theorem KeepX.refl (o:Nat)(A:St):KeepX o A A:=⟨Agn _,fun _ _ _=>rfl,fun _ _ _=>rfl,Agn _,fun _ _=>rfl⟩
theorem KeepX.put {o:Nat}{A A':St}(h:KeepX o A A')(cs:List AV):KeepX o A (A'.put o cs):=
 ⟨h.nobj,fun p hp aa=>by simp[St.put,aa];exact h.obj p hp aa,fun p hp aa=>by simp[St.put,aa];exact h.ver p hp aa,h.ntop,h.top⟩
theorem KeepX.trans {o:Nat}{a b c:St}(h:KeepX o a b)(k:KeepX o b c):KeepX o a c:=
 ⟨Ago h.nobj k.nobj,fun p hp aa=>(k.obj p (Agp hp h.nobj) aa).trans (h.obj p hp aa),fun p hp aa=>(k.ver p (Agp hp h.nobj) aa).trans (h.ver p hp aa),
  Ago h.ntop k.ntop,fun j hj=>(k.top j (Agp hj h.ntop)).trans (h.top j hj)⟩
def Fg (X:Ei)(c:Int):Ei×Bool:=
 if (X.st==5)=true then
  if Bp c=true/\decide (X.letters<6)=true then ({X with letters:=X.letters+1},true)
  else if (c==40)=true then ({X with terms:=0,st:=6},true)else ({X with terms:=0},false)
 else if (X.st==6)=true then
  if Gz c=true then ({X with terms:=X.terms+1,digits:=1,st:=7},true)
  else if Bl c=true\/(c==48)=true then ({X with terms:=X.terms+1,digits:=1,st:=8},true)else ({X with terms:=X.terms+1,digits:=1},false)
 else if (X.st==7)=true/\decide (X.digits<3)=true/\(Gz c=true\/(c==48)=true)then ({X with digits:=X.digits+1},true)
 else if (c==41)=true then ({X with lits:=if (!X.head)=true then X.lits+1 else X.lits,st:=9},true)
 else if (c==44)=true/\decide (X.terms<3)=true then ({X with st:=6},true)else (X,false)
def C6 (X:Ei)(c:Int):Ei×Bool:=
 if (X.st==0)=true then
  if (X.items==16)=true then (X,false)
  else if (c==63)=true then ({X with head:=true,letters:=0,lits:=0,st:=1},true)
  else if Bp c=true then ({X with head:=true,letters:=1,lits:=0,st:=5},true)else ({X with head:=true,letters:=1,lits:=0},false)
 else if (X.st==1)=true\/(X.st==2)=true then
  if Bp c=true/\decide (X.letters<6)=true then ({X with letters:=X.letters+1,st:=2},true)
  else if (c==46)=true/\(X.st==2)=true then ({X with items:=X.items+1,st:=0},true)else (X,false)
 else if (X.st==3)=true\/(X.st==4)=true then
  if (c==33)=true/\(X.st==3)=true then ({X with letters:=1,st:=4},true)
  else if Bp c=true then ({X with letters:=1,st:=5},true)else ({X with letters:=1},false)
 else if (X.st==10)=true then
  if (c==45)=true then ({X with head:=false,st:=3},true)else ({X with head:=false},false)
 else if (c==46)=true then ({X with items:=X.items+1,st:=0},true)
 else if (c==58)=true/\X.head=true then ({X with st:=10},true)
 else if (c==44)=true/\(!X.head)=true/\decide (X.lits<5)=true then ({X with st:=3},true)else (X,false)
def Fp (l:List UInt8)(c:Int):Nat:=l.findIdx fun x=>(x.toNat:Int)==c
def Cc (c:Int):List UInt8->Bool->List UInt8->List (List UInt8)
 |[],_,cur=>if cur=[]then []else [cur]
 |b::r,deep,cur=>
  let d1:=if ((b.toNat:Int)==40)=true then true else deep
  let d2:=if ((b.toNat:Int)==41)=true then false else d1
  if ((b.toNat:Int)==c)=true/\d2=false then cur::Cc c r d2 []else Cc c r d2 (cur++[b])
def Sq (s:List UInt8)(c:Int):List (List UInt8):=Cc c s false []
structure RAtom where
 nt:Bool
 pred:List UInt8
 terms:List (List UInt8)
structure RItem where
 out:Bool
 head:RAtom
 body:List RAtom
def jJ:List UInt8->Bool
 |[]=>false
 |b::_=>(b.toNat:Int)==33
def To (s:List UInt8):List UInt8:=if jJ s then (s.drop 1).take (s.length-1)else s
def Aaa (nt:Bool)(s:List UInt8):RAtom:=
 {nt:=nt,pred:=(s.drop 0).take (Fp s 40-0),terms:=if Fp s 40+1<s.length then Sq ((s.drop (Fp s 40+1)).take (s.length-1-(Fp s 40+1))) 44 else []}
def jQ (s:List UInt8):RAtom:=Aaa (jJ s) (To s)
theorem any_take_succ {α:Type}{l:List α}{k:Nat}{a:α}(p:α->Bool)(h:l[k]?=some a):(l.take (k+1)).any p=((l.take k).any p||p a):=by
 rw[Ahd,h];simp
theorem S7 {α:Type}{l:List α}{k:Nat}{a:α}(p:α->Bool)(h:l[k]?=some a)(hp:p a=true):l.any p=true:=
 Ahz.2 ⟨a,Ag1 h,hp⟩
def Ad:List UInt8->Bool
 |[]=>false
 |b::_=>Bl b.toNat
def Ae (x:RItem):List RAtom:=(if x.out=true then []else [x.head])++x.body
def Me (x:RItem)(t:List UInt8):Bool:=x.body.any fun a=>a.terms.any fun u=>!a.nt&&u==t
theorem Ez {l:List (List UInt8)}{k:Nat}(h:k<l.length):(l.map str).drop k=str l[k]::(l.map str).drop (k+1):=by
 rw[Ah0 (by simpa using h)];simp
def tU (x:RItem)(t:List UInt8):Bool:=Ad t&&!Me x t
def zR (x:RItem)(a:RAtom):Bool:=a.terms.any (tU x)
def F6 (x:RItem):Bool:=!(Ae x).any (zR x)
def RItem.fits (x:RItem):Prop:=x.body.length<=1000/\x.head.terms.length<=1000/\∀a∈x.body,a.terms.length<=1000
def fI:Ei:=⟨0,0,0,0,0,0,false⟩
def A9 (X:Ei)(c:UInt8):Ei×Bool:=
 if decide (5<=X.st)=true/\decide (X.st<=8)=true then Fg X c.toNat else C6 X c.toNat
def lI:Ei->List UInt8->Nat->Ei×Option Nat
 |X,[],_=>(X,none)
 |X,c::r,i=>if (A9 X c).2=true then lI (A9 X c).1 r (i+1)else ((A9 X c).1,some i)
def N5 (s:List UInt8):Int:=
 match (lI fI s 0).2 with
 |some i=>i
 |none=>if (lI fI s 0).1.st !=0 then s.length else -1
def set2 (M:Nat->Nat->Bool)(i k:Nat)(v:Bool):Nat->Nat->Bool:=fun a b=>if a=i/\b=k then v else M a b
def Sp (l:List RItem)(i k:Nat):Bool:=
 match l[i]?,l[k]? with
 |some x,some y=>!y.out&&x.body.any fun a=>a.pred==y.head.pred
 |_,_=>false
theorem Mz {l xs:List AV}(h:xs.length=l.length):lsp l 0 xs=xs:=by
 rw[Gk _ _ _ Aj6,Ahn,h,List.drop_length];simp
def fw (M:Nat->Nat->Bool)(m:Nat):Nat->Nat->Bool:=fun i k=>M i k||(M i m&&M m k)
def fwN (n:Nat)(M:Nat->Nat->Bool)(m:Nat):Nat->Nat->Bool:=fun i k=>if i<n/\k<n then fw M m i k else M i k
def F8 (n:Nat)(M:Nat->Nat->Bool):Nat->Nat->Nat->Bool
 |0=>M
 |m+1=>fwN n (F8 n M m) m
def part (n:Nat)(M:Nat->Nat->Bool)(m i k:Nat)(W:Nat->Nat->Bool):Prop:=∀a b,W a b=if (a<i/\b<n)\/(a=i/\b<k)then fw M m a b else M a b
def Aa1 (l:List RItem):Nat->Nat->Bool:=F8 l.length (fun a b=>if a<l.length/\b<l.length then Sp l a b else false) l.length
theorem gI {n:Nat}{M W:Nat->Nat->Bool}{m i k:Nat}(h:part n M m i k W)(hk:k<n)(hm:m<n):W i k=M i k/\W i m=M i m/\W m k=M m k:=by
 refine⟨?_,?_,?_⟩
 ·rw[h,if_neg Aj6]
 ·rw[h];split
  ·unfold fw;cases M i m<;>simp
  ·rfl
 ·rw[h];split
  ·unfold fw;cases M m k<;>simp
  ·rfl
theorem xE {n:Nat}{M W:Nat->Nat->Bool}{m i k:Nat}(h:part n M m i k W){v:Bool}(hv:v=fw M m i k):part n M m i (k+1) (set2 W i k v):=by
 intro a b;unfold set2;by_cases aa:a=i/\b=k
 ·obtain⟨rfl,rfl⟩:=aa;rw[if_pos ⟨rfl,rfl⟩,if_pos Aj6];exact hv
 ·rw[if_neg aa,h];by_cases hc:(a<i/\b<n)\/(a=i/\b<k)
  ·rw[if_pos hc,if_pos Aj6]
  ·rw[if_neg hc,if_neg Aj6]
theorem xF {n:Nat}{M W:Nat->Nat->Bool}{m i:Nat}(h:part n M m i n W):part n M m (i+1) 0 W:=by
 intro a b;rw[h];by_cases hc:(a<i/\b<n)\/(a=i/\b<n)
 ·rw[if_pos hc,if_pos Aj6]
 ·rw[if_neg hc,if_neg Aj6]
theorem sD {n:Nat}{M:Nat->Nat->Bool}{m:Nat}:part n M m 0 0 M:=by intro a b;rw[if_neg Aj6]
theorem xG {n:Nat}{M W:Nat->Nat->Bool}{m:Nat}(h:part n M m n 0 W):W=fwN n M m:=by
 funext a b;rw[h];unfold fwN;by_cases hc:a<n/\b<n
 ·rw[if_pos Aj6,if_pos hc]
 ·rw[if_neg Aj6,if_neg hc]
def cH (l:List RItem)(i:Nat):List UInt8:=match l[i]? with|some x=>x.head.pred|none=>[]
def Aer (l:List RItem)(p q:List UInt8)(i k:Nat):Bool:=Aa1 l i k&&cH l i==p&&cH l k==q
def oJ (l:List RItem)(p q:List UInt8):Bool:=(List.range l.length).any fun i=>(List.range l.length).any fun k=>Aer l p q i k
def Bh (p:Nat->Bool)(n:Nat):Int:=match (List.range n).find? p with|some i=>(i:Int)|none=> -1
theorem Kw {p:Nat->Bool}{n i:Nat}(hi:i<n)(hp:p i=true)(hn:∀a,a<i->p a=false):Bh p n=i:=by
 unfold Bh;have:(List.range n).find? p=some i:=by
  rw[List.find?_range_eq_some];exact⟨hp,by simpa using hi,fun a ha=>by simp[hn a ha]⟩
 rw[this]
theorem Cu {p:Nat->Bool}{n:Nat}(hn:∀a,a<n->p a=false):Bh p n= -1:=by
 unfold Bh;have:(List.range n).find? p=none:=by
  rw[Ah1];intro a ha;simp[hn a (by simpa using ha)]
 rw[this]
def Ac1 (l:List RItem)(h:List UInt8)(a:RAtom):Bool:=a.nt&&(a.pred==h||oJ l a.pred h)
def G1 (l:List RItem)(i:Nat):Bool:=match l[i]? with|some x=>x.body.any (Ac1 l x.head.pred)|none=>false
def clash (a b:RAtom):Bool:=b.pred==a.pred&&decide (b.terms.length≠a.terms.length)
def Dj (l:List RItem)(i:Nat):List RAtom:=(l.take i).flatMap Ae
def Df (l:List RItem)(x:RItem)(i j:Nat):List RAtom:=Dj l i++(Ae x).take j
def Rp (l:List RItem)(x:RItem)(i j:Nat):Bool:=match (Ae x)[j]? with|some a=>(Df l x i j).any (clash a)|none=>false
def H6 (l:List RItem)(i:Nat):Bool:=match l[i]? with|some x=>(List.range (Ae x).length).any (Rp l x i)|none=>false
def noO (l:List RItem)(i:Nat):Prop:=∀a,a<i->H6 l a=false
def Agh (l:List RItem)(x:RItem)(i j:Nat):Prop:=∀b,b<j->Rp l x i b=false
theorem Ih {l:List RItem}{x:RItem}{i j:Nat}{a:RAtom}(h:(Ae x)[j]?=some a):Df l x i (j+1)=Df l x i j++[a]:=by
 unfold Df;rw[Ahd,h,Ahq];rfl
theorem rS {l:List RItem}{x:RItem}{i:Nat}(h:l[i]?=some x):Df l x i (Ae x).length=Df l x (i+1) 0:=by
 unfold Df Dj;rw[Ag7,Ahd,h,List.take_zero,Ahh];simp
theorem RItem.fits.atoms {x:RItem}(h:x.fits):(Ae x).length<=1001:=by
 obtain⟨f1,f2,f3⟩:=h;unfold Ae;split<;>simp<;>omega
def D9 (l:List RItem)(i:Nat):Bool:=match l[i]? with|some x=>!F6 x|none=>false
def Cd (l:List RItem):Int×Int:=
 if 0<=Bh (H6 l) l.length then (3,Bh (H6 l) l.length)
 else if 0<=Bh (D9 l) l.length then (4,Bh (D9 l) l.length)
 else if 0<=Bh (G1 l) l.length then (5,Bh (G1 l) l.length)
 else (0,0)
abbrev two (p:Int×Int):AV:=tp [sc (.int .i64 p.1),sc (.int .i64 p.2)]
theorem Q4 {p:Nat->Bool}{n:Nat}: -1<=Bh p n:=by
 unfold Bh;split<;>omega
def Qt:List UInt8->Bool
 |[]=>false
 |b::_=>(b.toNat:Int)==63
def Afw (t:List UInt8):RItem:={out:=true,head:={nt:=false,pred:=(t.drop 1).take (t.length-1),terms:=[]},body:=[]}
def wM (t:List UInt8):RItem:=
 {out:=false,head:=jQ ((t.drop 0).take (Fp t 58-0)),body:=if Fp t 58<t.length then (Sq ((t.drop (Fp t 58+2)).take (t.length-(Fp t 58+2))) 44).map jQ else []}
def iP (t:List UInt8):RItem:=if Qt t then Afw t else wM t
def Cv (s:List UInt8):List RItem:=(Sq s 46).map iP
def Ab0 (t:List UInt8):Prop:=t.length<=1000/\t≠[]/\(Qt t=false->Fp t 58<t.length->Fp t 58+2<=t.length)
theorem K2 (c:Int):∀(s:List UInt8) (d:Bool) (cur:List UInt8),∀t∈Cc c s d cur,t.length<=cur.length+s.length
 |[],d,cur=>by
  unfold Cc;split
  ·intro t ht;cases ht
  ·intro t ht;simp at ht;subst ht;simp
 |b::r,d,cur=>by
  unfold Cc
  all_goals
   simp only[];generalize (if ((b.toNat:Int)==41)=true then false else _)=d2;split
   ·intro t ht;rcases Ah2.1 ht with rfl|ht
    ·simp
    ·have:=K2 c r d2 [] t ht;simp at this⊢;omega
   ·intro t ht;have:=K2 c r d2 (cur++[b]) t ht;simp at this⊢;omega
theorem nI {s:List UInt8}{c:Int}{t:List UInt8}(h:t∈Sq s c):t.length<=s.length:=by
 have:=K2 c s false [] t h;simpa using this
def yQ (s:List UInt8):Prop:=(Sq s 46).length<=16/\∀t∈Sq s 46,Ab0 t
def As (s:List UInt8):Int×Int:=
 if 600<s.length then (1,0)else if 0<=N5 s then (2,N5 s)else Cd (Cv s)
abbrev Tx:=List UInt8
inductive Rd (α:Type) where
 |bad (e:Tx)
 |got (x:α) (r:Tx)
def Rd.bnd {α β:Type}:Rd α->(α->Tx->Rd β)->Rd β
 |.bad e,_=>.bad e
 |.got x r,f=>f x r
def Az (c:Int):Bool:=decide (48<=c)&&decide (c<=57)
def Ay (c:Int):Tx->Rd Unit
 |[]=>.bad []
 |b::r=>if ((b.toNat:Int)==c)=true then .got () r else .bad (b::r)
def Av (p:Int->Bool):Nat->Tx->Tx×Tx
 |0,s=>([],s)
 |_+1,[]=>([],[])
 |n+1,b::r=>if p b.toNat=true then (b::(Av p n r).1,(Av p n r).2)else ([],b::r)
def El (s:Tx):Rd Tx:=if (Av Bp 6 s).1=[]then .bad s else .got (Av Bp 6 s).1 (Av Bp 6 s).2
def Ci:Tx->Rd Tx
 |[]=>.bad []
 |b::r=>if Bl b.toNat=true then .got [b] r else if ((b.toNat:Int)==48)=true then .got [b] r
  else if Gz b.toNat=true then .got (b::(Av Az 2 r).1) (Av Az 2 r).2 else .bad (b::r)
def Du {α:Type}(f:Tx->Rd α):Nat->Tx->Rd (List α)
 |0,s=>.got [] s
 |_+1,[]=>.got [] []
 |n+1,b::r=>if ((b.toNat:Int)==44)=true then
  (f r).bnd fun x r1=>(Du f n r1).bnd fun xs r2=>.got (x::xs) r2
  else .got [] (b::r)
def U7 (nt:Bool)(p:Tx)(s:Tx):Rd RAtom:=
 (Ci s).bnd fun t r=>(Du Ci 2 r).bnd fun ts r=>(Ay 41 r).bnd fun _ r=>.got {nt:=nt,pred:=p,terms:=t::ts} r
def C9 (nt:Bool)(s:Tx):Rd RAtom:=
 (El s).bnd fun p r=>(Ay 40 r).bnd fun _ r=>U7 nt p r
def J3:Tx->Rd RAtom
 |[]=>.bad []
 |b::r=>if ((b.toNat:Int)==33)=true then C9 true r else C9 false (b::r)
def Ro (h:RAtom)(s:Tx):Rd RItem:=
 (J3 s).bnd fun l r=>(Du J3 4 r).bnd fun ls r=>(Ay 46 r).bnd fun _ r=>.got {out:=false,head:=h,body:=l::ls} r
def Nq (h:RAtom):Tx->Rd RItem
 |[]=>.bad []
 |b::r=>if ((b.toNat:Int)==46)=true then .got {out:=false,head:=h,body:=[]} r else
  (Ay 58 (b::r)).bnd fun _ r=>(Ay 45 r).bnd fun _ r=>Ro h r
def Nr (s:Tx):Rd RItem:=(C9 false s).bnd fun h r=>Nq h r
def bQ (s:Tx):Rd RItem:=
 (El s).bnd fun p r=>(Ay 46 r).bnd fun _ r=>.got {out:=true,head:={nt:=false,pred:=p,terms:=[]},body:=[]} r
def Fe:Tx->Rd RItem
 |[]=>.bad []
 |b::r=>if ((b.toNat:Int)==63)=true then bQ r else Nr (b::r)
def Bq:Nat->Tx->Rd (List RItem)
 |_,[]=>.got [] []
 |0,s=>.bad s
 |n+1,s=>(Fe s).bnd fun x r=>(Bq n r).bnd fun xs r=>.got (x::xs) r
def stop:Ei->Tx->Option Tx
 |X,[]=>if X.st !=0 then some []else none
 |X,c::r=>if (A9 X c).2=true then stop (A9 X c).1 r else some (c::r)
theorem rU:∀(s:Tx) (X:Ei) (i:Nat),
  (match (lI X s i).2 with|some j=>(j:Int)|none=>if (lI X s i).1.st !=0 then ((i+s.length:Nat):Int)else -1)=match stop X s with|some r=>((i+s.length-r.length:Nat):Int)|none=> -1:=by
 intro s;induction s with
 |nil=>intro X i;simp only[lI,stop];split<;>simp_all
 |cons c r ih=>
  intro X i;unfold lI stop;by_cases h:(A9 X c).2=true
  ·simp only[h,if_true];have:=ih (A9 X c).1 (i+1);rw[show i+(c::r).length=i+1+r.length by simp;omega];exact this
  ·simp only[h];simp
theorem gD (s:Tx):N5 s=match stop fI s with|some r=>((s.length-r.length:Nat):Int)|none=> -1:=by
 have:=rU s fI 0;unfold N5;rw[Ahn]at this;rw[<-this];try rfl
def Via {α:Type}(P:Ei->Prop)(res:Rd α)(o:Option Tx):Prop:=
 match res with
 |.bad e=>o=some e
 |.got _ r=>∃X',P X'/\o=stop X' r
theorem Via.bind {α β:Type}{P Q:Ei->Prop}{res:Rd α}{o:Option Tx}{f:α->Tx->Rd β}(h:Via P res o)(k:∀x r X',P X'->Via Q (f x r) (stop X' r)):Via Q (res.bnd f) o:=by
 cases res with
 |bad e=>exact h
 |got x r=>
  obtain⟨X',hP,rfl⟩:=h;exact k x r X' hP
theorem Via.ret {α:Type}{P:Ei->Prop}{x:α}{r:Tx}{X:Ei}(h:P X):Via P (.got x r) (stop X r):=⟨X,h,rfl⟩
theorem Via.err {α:Type}{P:Ei->Prop}{e:Tx}{o:Option Tx}(h:o=some e):Via (α:=α) P (.bad e) o:=h
theorem C0 {X:Ei}{c:UInt8}{r:Tx}(h:(A9 X c).2=true):stop X (c::r)=stop (A9 X c).1 r:=by
 rw[stop,if_pos h]
theorem Fx {X:Ei}{c:UInt8}{r:Tx}(h:(A9 X c).2=false):stop X (c::r)=some (c::r):=by
 rw[stop,if_neg (by simp[h])]
theorem C8 {X:Ei}(h:X.st≠0):stop X []=some []:=by
 rw[stop,if_pos (by simpa using h)]
def wI (X X':Ei):Prop:=X'.items=X.items/\X'.lits=X.lits/\X'.head=X.head
theorem uS:∀(n:Nat) (s:Tx) (X:Ei),X.st=5->X.letters=6-(n:Int)->n<=6->
  Via (fun X'=>X'.st=6/\X'.terms=0/\wI X X') (Ay 40 (Av Bp n s).2) (stop X s):=by
 intro n;induction n with
 |zero=>
  intro s X h5 hl hn;cases s with
  |nil=>exact Via.err (C8 Aj6)
  |cons b r=>
   unfold Av Ay;simp only;by_cases hb:((b.toNat:Int)==40)=true
   ·rw[if_pos hb];have e:A9 X b=({X with terms:=0,st:=6},true):=by
     simp[A9,Fg,h5,hl,hb]
    rw[C0 (by rw[e]),e];exact Via.ret ⟨rfl,rfl,rfl,rfl,rfl⟩
   ·rw[if_neg hb];refine Via.err (Fx ?_);simp[A9,Fg,h5,hl,hb]
 |succ n ih=>
  intro s X h5 hl hn;cases s with
  |nil=>exact Via.err (C8 Aj6)
  |cons b r=>
   unfold Av;by_cases hs:Bp b.toNat=true
   ·rw[if_pos hs];have e:A9 X b=({X with letters:=X.letters+1},true):=by
     simp[A9,Fg,h5,hs];omega
    rw[C0 (by rw[e]),e];exact ih r {X with letters:=X.letters+1} h5 (by simp;omega) Aj6
   ·rw[if_neg hs];unfold Ay;simp only;by_cases hb:((b.toNat:Int)==40)=true
    ·rw[if_pos hb];have e:A9 X b=({X with terms:=0,st:=6},true):=by
      simp[A9,Fg,h5,hs,hb]
     rw[C0 (by rw[e]),e];exact Via.ret ⟨rfl,rfl,rfl,rfl,rfl⟩
    ·rw[if_neg hb];refine Via.err (Fx ?_);simp[A9,Fg,h5,hs,hb]
theorem Gb {α β γ:Type}(a:Rd α)(f:α->Tx->Rd β)(g:β->Tx->Rd γ):(a.bnd f).bnd g=a.bnd fun x r=>(f x r).bnd g:=by cases a<;>rfl
theorem digit_iff {c:Int}:Az c=true↔(Gz c=true\/(c==48)=true):=by
 simp[Az,Gz];omega
theorem L3 {c:Int}(h:Bl c=true):Gz c=false:=by
 simp[Bl,Gz]at*;omega
theorem Ls {X:Ei}{s:Tx}(h7:X.st=7)(h:∀b r,s=b::r->Az b.toNat=true->¬X.digits<3):stop X s=stop {X with st:=8} s:=by
 cases s with
 |nil=>rw[C8 Aj6,C8 (by simp)]
 |cons b r=>
  have hd:=h b r rfl;have hq:¬((X.st==7)=true/\decide (X.digits<3)=true/\(Gz b.toNat=true\/((b.toNat:Int)==48)=true)):=by
   rintro⟨-,q1,q2⟩;exact hd (digit_iff.2 q2) (by simpa using q1)
  have e1:A9 X b=if ((b.toNat:Int)==41)=true then ({X with lits:=if (!X.head)=true then X.lits+1 else X.lits,st:=9},true)else if ((b.toNat:Int)==44)=true/\decide (X.terms<3)=true then ({X with st:=6},true)else (X,false):=by
   unfold A9 Fg;rw[if_pos (by simp[h7]),if_neg (by simp[h7]),if_neg (by simp[h7]),if_neg hq]
  have e2:A9 {X with st:=8} b=if ((b.toNat:Int)==41)=true then ({X with lits:=if (!X.head)=true then X.lits+1 else X.lits,st:=9},true)else if ((b.toNat:Int)==44)=true/\decide (X.terms<3)=true then ({X with st:=6},true)else ({X with st:=8},false):=by
   unfold A9 Fg;rw[if_pos (by simp),if_neg (by simp),if_neg (by simp),if_neg (by simp)]
  unfold stop;rw[e1,e2];by_cases h1:((b.toNat:Int)==41)=true
  ·rw[if_pos h1,if_pos h1]
  ·rw[if_neg h1,if_neg h1];by_cases h2:((b.toNat:Int)==44)=true/\decide (X.terms<3)=true
   ·rw[if_pos h2,if_pos h2]
   ·rw[if_neg h2,if_neg h2];rfl
theorem kR:∀(n:Nat) (s:Tx) (X:Ei),X.st=7->X.digits=3-(n:Int)->∃X',X'.st=8/\X'.terms=X.terms/\wI X X'/\stop X s=stop X' (Av Az n s).2:=by
 intro n;induction n with
 |zero=>
  intro s X h7 hd;exact⟨{X with st:=8},rfl,rfl,⟨rfl,rfl,rfl⟩,Ls h7 (fun _ _ _ _=>Aj6)⟩
 |succ n ih=>
  intro s X h7 hd;cases s with
  |nil=>exact⟨{X with st:=8},rfl,rfl,⟨rfl,rfl,rfl⟩,Ls h7 (fun _ _ h _=>by cases h)⟩
  |cons b r=>
   unfold Av;by_cases hb:Az b.toNat=true
   ·rw[if_pos hb];have e:A9 X b=({X with digits:=X.digits+1},true):=by
     have:=digit_iff.1 hb;unfold A9 Fg;rw[if_pos (by simp[h7]),if_neg (by simp[h7]),if_neg (by simp[h7]),if_pos ⟨by simp[h7],by simp;omega,this⟩]
    rw[C0 (by rw[e]),e];obtain⟨X',h1,h2,h3,h4⟩:=ih r {X with digits:=X.digits+1} h7 (by simp;omega);exact⟨X',h1,h2,h3,h4⟩
   ·rw[if_neg hb];exact⟨{X with st:=8},rfl,rfl,⟨rfl,rfl,rfl⟩,Ls h7 (fun c q h hc=>by cases h;exact absurd hc hb)⟩
theorem dK (s:Tx)(X:Ei)(h6:X.st=6):Via (fun X'=>X'.st=8/\X'.terms=X.terms+1/\wI X X') (Ci s) (stop X s):=by
 cases s with
 |nil=>exact Via.err (C8 Aj6)
 |cons b r=>
  unfold Ci;by_cases hl:Bl b.toNat=true
  ·simp only[hl,if_true];have e:A9 X b=({X with terms:=X.terms+1,digits:=1,st:=8},true):=by
    simp[A9,Fg,h6,hl,L3 hl]
   rw[C0 (by rw[e]),e];exact Via.ret ⟨rfl,rfl,rfl,rfl,rfl⟩
  ·simp only[hl];by_cases hz:((b.toNat:Int)==48)=true
   ·have hn:Gz b.toNat=false:=by simp[Gz]at*;omega
    simp only[hz,if_true];have e:A9 X b=({X with terms:=X.terms+1,digits:=1,st:=8},true):=by
     simp[A9,Fg,h6,hl,hz,hn]
    rw[C0 (by rw[e]),e];exact Via.ret ⟨rfl,rfl,rfl,rfl,rfl⟩
   ·simp only[hz];by_cases hn:Gz b.toNat=true
    ·simp only[hn,if_true];have e:A9 X b=({X with terms:=X.terms+1,digits:=1,st:=7},true):=by
      simp[A9,Fg,h6,hn]
     rw[C0 (by rw[e]),e];obtain⟨X',h1,h2,h3,h4⟩:=kR 2 r {X with terms:=X.terms+1,digits:=1,st:=7} rfl (by simp);exact⟨X',⟨h1,h2,h3⟩,h4⟩
    ·simp only[hn];refine Via.err (Fx ?_);simp[A9,Fg,h6,hl,hz,hn]
def Adc (it li:Int)(hd:Bool)(X:Ei):Prop:=X.st=9/\X.items=it/\X.head=hd/\X.lits=if hd=true then li else li+1
theorem X9 {β:Type}(s:Tx)(X:Ei)(k:β)(h8:X.st=8)(h:∀b r,s=b::r->((b.toNat:Int)==44)=true->¬X.terms<3):
  Via (Adc X.items X.lits X.head) ((Ay 41 s).bnd fun _ r=>.got k r) (stop X s):=by
 cases s with
 |nil=>exact Via.err (C8 Aj6)
 |cons b r=>
  unfold Ay;have hh:=h b r rfl;by_cases hb:((b.toNat:Int)==41)=true
  ·simp only[hb,if_true];have e:A9 X b=({X with lits:=if (!X.head)=true then X.lits+1 else X.lits,st:=9},true):=by
    simp[A9,Fg,h8,hb]
   rw[C0 (by rw[e]),e];refine Via.ret ⟨rfl,rfl,rfl,?_⟩;cases X.head<;>simp
  ·simp only[hb];refine Via.err (Fx ?_);simp[A9,Fg,h8,hb];rw[if_neg];rintro⟨h1,h2⟩;have:=hh (by simpa using h1);omega
theorem uW {β:Type}:∀(n:Nat) (s:Tx) (X:Ei) (k:List Tx->β),X.st=8->X.terms=3-(n:Int)->
  Via (Adc X.items X.lits X.head) ((Du Ci n s).bnd fun ts r=>(Ay 41 r).bnd fun _ r=>.got (k ts) r) (stop X s):=by
 intro n;induction n with
 |zero=>
  intro s X k h8 ht;exact X9 s X (k []) h8 (fun _ _ _ _=>Aj6)
 |succ n ih=>
  intro s X k h8 ht;cases s with
  |nil=>exact Via.err (C8 Aj6)
  |cons b r=>
   unfold Du;by_cases hb:((b.toNat:Int)==44)=true
   ·simp only[hb,if_true];have e:A9 X b=({X with st:=6},true):=by
     have:¬((b.toNat:Int)==41)=true:=by simp at*;omega
     simp[A9,Fg,h8,hb,this];omega
    rw[C0 (by rw[e]),e,Gb];refine Via.bind (dK r {X with st:=6} rfl) ?_;rintro x r1 X' ⟨h1,h2,h3,h4,h5⟩;rw[Gb];have:=ih r1 X' (fun ts=>k (x::ts)) h1 (by simp at h2;omega);rw[h3,h4,h5]at this;exact this
   ·simp only[hb];exact X9 (b::r) X (k []) h8 (fun c q h hc=>by cases h;exact absurd hc hb)
theorem Tg (nt:Bool)(b:UInt8)(r:Tx)(X:Ei)(it li:Int)(hd:Bool)(hs:Bp b.toNat=true->∃X1,A9 X b=(X1,true)/\X1.st=5/\X1.letters=1/\X1.items=it/\X1.lits=li/\X1.head=hd)
  (hn:Bp b.toNat=false->(A9 X b).2=false):Via (Adc it li hd) (C9 nt (b::r)) (stop X (b::r)):=by
 unfold C9 El;by_cases hb:Bp b.toNat=true
 ·obtain⟨X1,e,h1,h2,h3,h4,h5⟩:=hs hb;rw[C0 (by rw[e]),e];have e6:Av Bp 6 (b::r)=(b::(Av Bp 5 r).1,(Av Bp 5 r).2):=by rw[Av,if_pos hb]
  rw[e6];simp only[reduceCtorEq,if_false,Rd.bnd];refine Via.bind (uS 5 r X1 h1 Aj6 Aj6) ?_;rintro _ r1 X' ⟨g1,g2,g3,g4,g5⟩;unfold U7;refine Via.bind (dK r1 X' g1) ?_;rintro t r2 X2 ⟨q1,q2,q3,q4,q5⟩;have:=uW 2 r2 X2 (fun ts=>({nt:=nt,pred:=b::(Av Bp 5 r).1,terms:=t::ts}:RAtom)) q1 Aj6;rw[q3,g3,h3,q4,g4,h4,q5,g5,h5]at this;exact this
 ·have aa:Bp b.toNat=false:=by simpa using hb
  have e6:Av Bp 6 (b::r)=([],b::r):=by rw[Av,if_neg hb]
  rw[e6];simp only[if_true,Rd.bnd];exact Via.err (Fx (hn aa))
theorem oG (s:Tx)(X:Ei)(h3:X.st=3):Via (Adc X.items X.lits X.head) (J3 s) (stop X s):=by
 cases s with
 |nil=>exact Via.err (C8 Aj6)
 |cons b r=>
  unfold J3;by_cases hb:((b.toNat:Int)==33)=true
  ·simp only[hb,if_true];have e:A9 X b=({X with letters:=1,st:=4},true):=by simp[A9,C6,h3,hb]
   rw[C0 (by rw[e]),e];cases r with
   |nil=>
    refine Via.err (C8 (by simp))
   |cons c q=>
    refine Tg true c q _ _ _ _ (fun hs=>⟨{X with letters:=1,st:=5},?_,rfl,rfl,rfl,rfl,rfl⟩) (fun hs=>?_)
    ·simp[A9,C6,hs]
    ·simp[A9,C6,hs]
  ·simp only[hb];refine Tg false b r _ _ _ _ (fun hs=>⟨{X with letters:=1,st:=5},?_,rfl,rfl,rfl,rfl,rfl⟩) (fun hs=>?_)
   ·simp[A9,C6,h3,hb,hs]
   ·simp[A9,C6,h3,hb,hs]
def Next (it:Int)(X:Ei):Prop:=X.st=0/\X.items=it+1
theorem oH {β:Type}(s:Tx)(X:Ei)(k:β)(h9:X.st=9)(hh:X.head=false)(h:∀b r,s=b::r->((b.toNat:Int)==44)=true->¬X.lits<5):
  Via (Next X.items) ((Ay 46 s).bnd fun _ r=>.got k r) (stop X s):=by
 cases s with
 |nil=>exact Via.err (C8 Aj6)
 |cons b r=>
  unfold Ay;have hq:=h b r rfl;by_cases hb:((b.toNat:Int)==46)=true
  ·simp only[hb,if_true];have e:A9 X b=({X with items:=X.items+1,st:=0},true):=by simp[A9,C6,h9,hb]
   rw[C0 (by rw[e]),e];exact Via.ret ⟨rfl,rfl⟩
  ·simp only[hb];refine Via.err (Fx ?_);simp[A9,C6,h9,hb,hh];rw[if_neg];rintro⟨h1,h2⟩;have:=hq (by simpa using h1);omega
theorem uT {β:Type}:∀(n:Nat) (s:Tx) (X:Ei) (k:List RAtom->β),X.st=9->X.head=false->X.lits=5-(n:Int)->
  Via (Next X.items) ((Du J3 n s).bnd fun ts r=>(Ay 46 r).bnd fun _ r=>.got (k ts) r) (stop X s):=by
 intro n;induction n with
 |zero=>
  intro s X k h9 hh ht;exact oH s X (k []) h9 hh (fun _ _ _ _=>Aj6)
 |succ n ih=>
  intro s X k h9 hh ht;cases s with
  |nil=>exact Via.err (C8 Aj6)
  |cons b r=>
   unfold Du;by_cases hb:((b.toNat:Int)==44)=true
   ·simp only[hb,if_true];have e:A9 X b=({X with st:=3},true):=by
     have h1:¬((b.toNat:Int)==46)=true:=by simp at*;omega
     simp[A9,C6,h9,hb,h1,hh];omega
    rw[C0 (by rw[e]),e,Gb];refine Via.bind (oG r {X with st:=3} rfl) ?_;rintro x r1 X' ⟨h1,h2,h3,h4⟩;rw[Gb];have:=ih r1 X' (fun ts=>k (x::ts)) h1 (by rw[h3];exact hh) (by simp[hh]at h4;omega);rw[h2]at this;exact this
   ·simp only[hb];exact oH (b::r) X (k []) h9 hh (fun c q h hc=>by cases h;exact absurd hc hb)
theorem uV (h:RAtom)(s:Tx)(X:Ei)(h3:X.st=3)(hh:X.head=false)(hl:X.lits=0):Via (Next X.items) (Ro h s) (stop X s):=by
 unfold Ro;refine Via.bind (oG s X h3) ?_;rintro x r X' ⟨h1,h2,h4,h5⟩;have:=uT 4 r X' (fun ls=>({out:=false,head:=h,body:=x::ls}:RItem)) h1 (by rw[h4];exact hh) (by simp[hh,hl]at h5;omega);rw[h2]at this;exact this
theorem uR (h:RAtom)(s:Tx)(X:Ei)(h9:X.st=9)(hh:X.head=true)(hl:X.lits=0):Via (Next X.items) (Nq h s) (stop X s):=by
 cases s with
 |nil=>exact Via.err (C8 Aj6)
 |cons b r=>
  unfold Nq;by_cases hb:((b.toNat:Int)==46)=true
  ·simp only[hb,if_true];have e:A9 X b=({X with items:=X.items+1,st:=0},true):=by simp[A9,C6,h9,hb]
   rw[C0 (by rw[e]),e];exact Via.ret ⟨rfl,rfl⟩
  ·simp only[hb];unfold Ay;by_cases hc:((b.toNat:Int)==58)=true
   ·simp only[hc,if_true];have e:A9 X b=({X with st:=10},true):=by simp[A9,C6,h9,hb,hc,hh]
    rw[C0 (by rw[e]),e];cases r with
    |nil=>exact Via.err (C8 (by simp))
    |cons c q=>
     by_cases hd:((c.toNat:Int)==45)=true
     ·simp only[hd,if_true,Rd.bnd];have e:A9 {X with st:=10} c=({X with head:=false,st:=3},true):=by simp[A9,C6,hd]
      simp only[Ahv,if_false];rw[C0 (by rw[e]),e];exact uV h q {X with head:=false,st:=3} rfl rfl hl
     ·simp only[hd,Rd.bnd];refine Via.err (Fx ?_);simp[A9,C6,hd]
   ·simp only[hc];refine Via.err (Fx ?_);simp[A9,C6,h9,hb,hc,hh]
theorem rC:∀(n:Nat) (s:Tx) (X:Ei) (k:Tx->RItem),X.st=2->X.letters=6-(n:Int)->
  Via (Next X.items) ((Ay 46 (Av Bp n s).2).bnd fun _ r=>.got (k (Av Bp n s).1) r) (stop X s):=by
 intro n;induction n with
 |zero=>
  intro s X k h2 hl;cases s with
  |nil=>exact Via.err (C8 Aj6)
  |cons b r=>
   unfold Av Ay;by_cases hb:((b.toNat:Int)==46)=true
   ·simp only[hb,if_true];have e:A9 X b=({X with items:=X.items+1,st:=0},true):=by simp[A9,C6,h2,hl,hb]
    rw[C0 (by rw[e]),e];exact Via.ret ⟨rfl,rfl⟩
   ·simp only[hb];refine Via.err (Fx ?_);simp[A9,C6,h2,hl,hb]
 |succ n ih=>
  intro s X k h2 hl;cases s with
  |nil=>exact Via.err (C8 Aj6)
  |cons b r=>
   unfold Av;by_cases hs:Bp b.toNat=true
   ·simp only[hs,if_true];have e:A9 X b=({X with letters:=X.letters+1,st:=2},true):=by
     simp[A9,C6,h2,hs];omega
    rw[C0 (by rw[e]),e];exact ih r {X with letters:=X.letters+1,st:=2} (fun x=>k (b::x)) rfl (by simp;omega)
   ·simp only[hs];unfold Ay;by_cases hb:((b.toNat:Int)==46)=true
    ·simp only[Ahv,if_false,hb,if_true];have e:A9 X b=({X with items:=X.items+1,st:=0},true):=by simp[A9,C6,h2,hs,hb]
     rw[C0 (by rw[e]),e];exact Via.ret ⟨rfl,rfl⟩
    ·simp only[Ahv,if_false,hb];refine Via.err (Fx ?_);simp[A9,C6,h2,hs,hb]
theorem uU (b:UInt8)(r:Tx)(X:Ei)(h0:X.st=0)(hi:X.items≠16):Via (Next X.items) (Fe (b::r)) (stop X (b::r)):=by
 unfold Fe;by_cases hb:((b.toNat:Int)==63)=true
 ·simp only[hb,if_true];have e:A9 X b=({X with head:=true,letters:=0,lits:=0,st:=1},true):=by simp[A9,C6,h0,hi,hb]
  rw[C0 (by rw[e]),e];unfold bQ El;cases r with
  |nil=>exact Via.err (C8 (by simp))
  |cons c q=>
   by_cases hs:Bp c.toNat=true
   ·have e6:Av Bp 6 (c::q)=(c::(Av Bp 5 q).1,(Av Bp 5 q).2):=by rw[Av,if_pos hs]
    rw[e6];simp only[reduceCtorEq,if_false,Rd.bnd];have e:A9 {X with head:=true,letters:=0,lits:=0,st:=1} c=({X with head:=true,letters:=1,lits:=0,st:=2},true):=by simp[A9,C6,hs]
    rw[C0 (by rw[e]),e];exact rC 5 q {X with head:=true,letters:=1,lits:=0,st:=2} (fun x=>{out:=true,head:={nt:=false,pred:=c::x,terms:=[]},body:=[]}) rfl (by simp)
   ·have e6:Av Bp 6 (c::q)=([],c::q):=by rw[Av,if_neg hs]
    rw[e6];simp only[if_true,Rd.bnd];refine Via.err (Fx ?_);simp[A9,C6,hs]
 ·simp only[hb];unfold Nr;refine Via.bind (Tg false b r X X.items 0 true (fun hs=>⟨{X with head:=true,letters:=1,lits:=0,st:=5},?_,rfl,rfl,rfl,rfl,rfl⟩) (fun hs=>?_)) ?_
  ·simp[A9,C6,h0,hi,hb,hs]
  ·simp[A9,C6,h0,hi,hb,hs]
  ·rintro x r X' ⟨h1,h2,h3,h4⟩;have:=uR x r X' h1 h3 (by simpa using h4);rw[h2]at this;exact this
theorem rD:∀(n:Nat) (s:Tx) (X:Ei),X.st=0->X.items=16-(n:Int)->stop X s=match Bq n s with|.bad e=>some e|.got _ _=>none:=by
 intro n;induction n with
 |zero=>
  intro s X h0 hi;cases s with
  |nil=>simp[stop,Bq,h0]
  |cons b r=>
   simp only[Bq];refine Fx ?_;simp[A9,C6,h0,hi]
 |succ n ih=>
  intro s X h0 hi;cases s with
  |nil=>simp[stop,Bq,h0]
  |cons b r=>
   have hv:=uU b r X h0 Aj6;unfold Bq;cases hp:Fe (b::r)with
   |bad e=>rw[hp]at hv;exact hv
   |got x q=>
    rw[hp]at hv;obtain⟨X',⟨h1,h2⟩,h3⟩:=hv;rw[h3,ih q X' h1 Aj6];simp only[Rd.bnd];cases Bq n q<;>rfl
theorem Kq (s:Tx):N5 s=match Bq 16 s with|.bad e=>((s.length-e.length:Nat):Int)|.got _ _=> -1:=by
 rw[gD,rD 16 s fI rfl rfl];cases Bq 16 s<;>rfl
theorem K3 {b:UInt8}(c:UInt8)(h:((b.toNat:Int)==(c.toNat:Int))=true):b=c:=by
 have:b.toNat=c.toNat:=by simp at h;omega
 exact UInt8.toNat_inj.1 this
def Ke (p:Tx):Prop:=p≠[]/\∀b∈p,Bp b.toNat=true
def Nt (t:Tx):Prop:=t≠[]/\∀b∈t,Bl b.toNat=true\/Az b.toNat=true
def D1 (a:RAtom):Prop:=Ke a.pred/\a.terms≠[]/\a.terms.length<=3/\∀t∈a.terms,Nt t
def Ck (x:RItem):Prop:=Ke x.head.pred/\(x.out=true->x.head.nt=false/\x.head.terms=[]/\x.body=[])/\(x.out=false->D1 x.head/\x.head.nt=false/\x.body.length<=5/\∀a∈x.body,D1 a)
def Bz (ts:List Tx):Tx:=ts.flatMap fun t=>44::t
def Bj:List Tx->Tx
 |[]=>[]
 |t::ts=>t++Bz ts
def A6 (a:RAtom):Tx:=a.pred++40::(Bj a.terms++[41])
def B8 (a:RAtom):Tx:=(if a.nt=true then [33]else [])++A6 a
def Dh (x:RItem):Tx:=A6 x.head++(if x.body=[]then []else 58::45::Bj (x.body.map B8))
def Bc (x:RItem):Tx:=if x.out=true then 63::x.head.pred else Dh x
theorem A0 {α β:Type}{a:Rd α}{f:α->Tx->Rd β}{y:β}{r:Tx}(h:a.bnd f= .got y r):∃x q,a= .got x q/\f x q= .got y r:=by
 cases a with
 |bad e=>cases h
 |got x q=>exact⟨x,q,rfl,h⟩
theorem Ik {c:UInt8}{s r:Tx}{x:Unit}(h:Ay c.toNat s= .got x r):s=c::r:=by
 cases s with
 |nil=>cases h
 |cons b q=>
  unfold Ay at h;dsimp only at h;split at h
  ·rename_i hb;cases h;rw[K3 c hb]
  ·cases h
theorem D7 (p:Int->Bool):∀(n:Nat) (s:Tx),s=(Av p n s).1++(Av p n s).2/\(∀b∈(Av p n s).1,p b.toNat=true)
 |0,s=>by simp[Av]
 |n+1,[]=>by simp[Av]
 |n+1,b::r=>by
  unfold Av;split
  ·rename_i h;obtain⟨h1,h2⟩:=D7 p n r;refine⟨by simp;exact h1,?_⟩;intro c hc;rcases Ah2.1 hc with rfl|hc
   ·exact h
   ·exact h2 c hc
  ·simp
theorem N8 {s r p:Tx}(h:El s= .got p r):s=p++r/\Ke p:=by
 unfold El at h;split at h
 ·cases h
 ·rename_i aa;cases h;exact⟨(D7 Bp 6 s).1,aa,(D7 Bp 6 s).2⟩
theorem Uz {s r t:Tx}(h:Ci s= .got t r):s=t++r/\Nt t:=by
 cases s with
 |nil=>cases h
 |cons b q=>
  unfold Ci at h;dsimp only at h;split at h
  ·rename_i hl;cases h;exact⟨rfl,by simp,by simp[hl]⟩
  ·split at h
   ·rename_i hz;cases h;refine⟨rfl,by simp,?_⟩;intro c hc;simp at hc;subst hc;right;simp[Az]at*
    omega
   ·split at h
    ·rename_i hn;cases h;obtain⟨h1,h2⟩:=D7 Az 2 q;refine⟨by simp;exact h1,by simp,?_⟩;intro c hc;rcases Ah2.1 hc with rfl|hc
     ·right;exact digit_iff.2 (.inl hn)
     ·right;exact h2 c hc
    ·cases h
theorem U1 {α:Type}{W:α->Prop}{u:α->Tx}{f:Tx->Rd α}(hf:∀s x r,f s= .got x r->s=u x++r/\W x):∀(n:Nat) (s:Tx) (xs:List α) (r:Tx),Du f n s= .got xs r->
  s=Bz (xs.map u)++r/\xs.length<=n/\∀x∈xs,W x:=by
 intro n;induction n with
 |zero=>intro s xs r h;cases h;simp[Bz]
 |succ n ih=>
  intro s xs r h;cases s with
  |nil=>cases h;simp[Bz]
  |cons b q=>
   unfold Du at h;split at h
   ·rename_i hb;obtain⟨x,q1,h1,h2⟩:=A0 h;obtain⟨ys,q2,h3,h4⟩:=A0 h2;cases h4;obtain⟨g1,g2⟩:=hf _ _ _ h1;obtain⟨g3,g4,g5⟩:=ih _ _ _ h3;refine⟨?_,by simp;omega,?_⟩
    ·rw[K3 44 hb,g1,g3];simp[Bz]
    ·intro y hy;rcases Ah2.1 hy with rfl|hy
     ·exact g2
     ·exact g5 y hy
   ·cases h;simp[Bz]
theorem Fz {nt:Bool}{s r:Tx}{a:RAtom}(h:C9 nt s= .got a r):s=A6 a++r/\D1 a/\a.nt=nt:=by
 unfold C9 U7 at h;obtain⟨p,q1,h1,h⟩:=A0 h;obtain⟨_,q2,h2,h⟩:=A0 h;obtain⟨t,q3,h3,h⟩:=A0 h;obtain⟨ts,q4,h4,h⟩:=A0 h;obtain⟨_,q5,h5,h⟩:=A0 h;cases h;obtain⟨a1,a2⟩:=N8 h1;have a3:=Ik (c:=40) h2;obtain⟨a4,a5⟩:=Uz h3;obtain⟨a6,a7,a8⟩:=U1 (u:=id) (fun s x r h=>Uz h) _ _ _ _ h4;have a9:=Ik (c:=41) h5;refine⟨?_,⟨a2,by simp,by simp;omega,?_⟩,rfl⟩
 ·rw[a1,a3,a4,a6,a9];simp[A6,Bj]
 ·intro y hy;rcases Ah2.1 hy with rfl|hy
  ·exact a5
  ·exact a8 y hy
theorem Zm {s r:Tx}{a:RAtom}(h:J3 s= .got a r):s=B8 a++r/\D1 a:=by
 cases s with
 |nil=>cases h
 |cons b q=>
  unfold J3 at h;dsimp only at h;split at h
  ·rename_i hb;obtain⟨h1,h2,h3⟩:=Fz h;exact⟨by rw[K3 33 hb,h1];simp[B8,h3],h2⟩
  ·obtain⟨h1,h2,h3⟩:=Fz h;exact⟨by rw[h1];simp[B8,h3],h2⟩
theorem U4 {s r:Tx}{x:RItem}(h:Fe s= .got x r):s=Bc x++46::r/\Ck x:=by
 cases s with
 |nil=>cases h
 |cons b q=>
  unfold Fe at h;dsimp only at h;split at h
  ·rename_i hb;unfold bQ at h;obtain⟨p,q1,h1,h⟩:=A0 h;obtain⟨_,q2,h2,h⟩:=A0 h;cases h;obtain⟨a1,a2⟩:=N8 h1;have a3:=Ik (c:=46) h2;exact⟨by rw[K3 63 hb,a1,a3];simp[Bc],a2,by simp,by simp⟩
  ·unfold Nr at h;obtain⟨hd,q1,h1,h⟩:=A0 h;obtain⟨a1,a2,a3⟩:=Fz h1;cases q1 with
   |nil=>cases h
   |cons c q2=>
    unfold Nq at h;dsimp only at h;split at h
    ·rename_i hc;cases h;exact⟨by rw[a1,K3 46 hc];simp[Bc,Dh],a2.1,by simp,fun _=>⟨a2,a3,by simp,by simp⟩⟩
    ·unfold Ro at h;obtain⟨_,q3,h2,h⟩:=A0 h;obtain⟨_,q4,h3,h⟩:=A0 h;obtain⟨l,q5,h4,h⟩:=A0 h;obtain⟨ls,q6,h5,h⟩:=A0 h;obtain⟨_,q7,h6,h⟩:=A0 h;cases h;have b1:=Ik (c:=58) h2;have b2:=Ik (c:=45) h3;obtain⟨b3,b4⟩:=Zm h4;obtain⟨b5,b6,b7⟩:=U1 (fun s x r h=>Zm h) _ _ _ _ h5;have b8:=Ik (c:=46) h6;refine⟨by rw[a1,b1,b2,b3,b5,b8];simp[Bc,Dh,Bj],a2.1,by simp,fun _=>⟨a2,a3,by simp;omega,?_⟩⟩;intro y hy;rcases Ah2.1 hy with rfl|hy
     ·exact b4
     ·exact b7 y hy
def Bu (l:List RItem):Tx:=l.flatMap fun x=>Bc x++[46]
theorem Ex:∀(n:Nat) (s:Tx) (l:List RItem) (r:Tx),Bq n s= .got l r->s=Bu l/\r=[]/\l.length<=n/\∀x∈l,Ck x:=by
 intro n;induction n with
 |zero=>
  intro s l r h;cases s with
  |nil=>cases h;simp[Bu]
  |cons b q=>cases h
 |succ n ih=>
  intro s l r h;cases s with
  |nil=>cases h;simp[Bu]
  |cons b q=>
   unfold Bq at h;obtain⟨x,q1,h1,h⟩:=A0 h;obtain⟨xs,q2,h2,h⟩:=A0 h;cases h;obtain⟨a1,a2⟩:=U4 h1;obtain⟨b1,b2,b3,b4⟩:=ih _ _ _ h2;refine⟨by rw[a1,b1];simp[Bu],b2,by simp;omega,?_⟩;intro y hy;rcases Ah2.1 hy with rfl|hy
   ·exact a2
   ·exact b4 y hy
theorem Jz {b:UInt8}(h:Bp b.toNat=true):97<=b.toNat/\b.toNat<=122:=by simp[Bp]at h;omega
theorem eL {b:UInt8}(h:Bl b.toNat=true\/Az b.toNat=true):48<=b.toNat/\b.toNat<=90/\b.toNat≠58:=by
 simp[Bl,Az]at h;omega
theorem Im {c:Int}:∀(p r:Tx) (d:Bool) (cur:Tx),(∀b∈p,b.toNat≠40/\b.toNat≠41/\(b.toNat:Int)≠c)->Cc c (p++r) d cur=Cc c r d (cur++p):=by
 intro p;induction p with
 |nil=>intro r d cur _;simp
 |cons b p ih=>
  intro r d cur h;obtain⟨h1,h2,h3⟩:=h b (Ah3 ..);rw[Ah4,Cc];have e1:((b.toNat:Int)==40)=false:=by simp;omega
  have e2:((b.toNat:Int)==41)=false:=by simp;omega
  have e3:((b.toNat:Int)==c)=false:=by simp;omega
  simp only[e1,e2,e3,Ahv,if_false,false_and];rw[ih r d (cur++[b]) (fun x hx=>h x (Ah5 _ hx))];simp
theorem zH {c:Int}:∀(p r:Tx) (cur:Tx),(∀b∈p,b.toNat≠41)->Cc c (p++r) true cur=Cc c r true (cur++p):=by
 intro p;induction p with
 |nil=>intro r cur _;simp
 |cons b p ih=>
  intro r cur h;have h2:=h b (Ah3 ..);rw[Ah4,Cc];have e2:((b.toNat:Int)==41)=false:=by simp;omega
  simp only[e2,Ahv,if_false,ite_self,reduceCtorEq,and_false];rw[ih r (cur++[b]) (fun x hx=>h x (Ah5 _ hx))];simp
theorem zE {c:Int}(r:Tx)(d:Bool)(cur:Tx):Cc c (40::r) d cur=Cc c r true (cur++[40]):=by
 rw[Cc];simp
theorem tN {c:Int}(hc:c≠41)(r:Tx)(d:Bool)(cur:Tx):Cc c (41::r) d cur=Cc c r false (cur++[41]):=by
 rw[Cc];simp;intro h;exact absurd h.symm hc
theorem zI {c:UInt8}(h1:c.toNat≠40)(h2:c.toNat≠41)(r cur:Tx):Cc c.toNat (c::r) false cur=cur::Cc c.toNat r false []:=by
 rw[Cc];have e1:((c.toNat:Int)==40)=false:=by simp;omega
 have e2:((c.toNat:Int)==41)=false:=by simp;omega
 simp[e1,e2]
def qT (c:Int)(t:Tx):Prop:=t≠[]/\∀r cur,Cc c (t++r) false cur=Cc c r false (cur++t)
theorem zF:∀(ts:List Tx) (cur:Tx),(∀t∈ts,qT 44 t)->cur≠[]->Cc 44 (Bz ts) false cur=cur::ts:=by
 intro ts;induction ts with
 |nil=>intro cur _ hc;simp[Bz,Cc,hc]
 |cons t ts ih=>
  intro cur h hc;obtain⟨h1,h2⟩:=h t (Ah3 ..);have e:Bz (t::ts)=44::(t++Bz ts):=by simp[Bz]
  rw[e,show (44:Int)=((44:UInt8).toNat:Int)from rfl,zI (by decide) (by decide),show ((44:UInt8).toNat:Int)=44 from rfl,h2,Ah6,ih t (fun x hx=>h x (Ah5 _ hx)) h1]
theorem jD {ts:List Tx}(h:∀t∈ts,qT 44 t):Sq (Bj ts) 44=ts:=by
 cases ts with
 |nil=>simp[Bj,Sq,Cc]
 |cons t ts=>
  obtain⟨h1,h2⟩:=h t (Ah3 ..);unfold Sq Bj;rw[h2,Ah6,zF ts t (fun x hx=>h x (Ah5 _ hx)) h1]
theorem lB {t:Tx}(h:Nt t):qT 44 t:=by
 refine⟨h.1,fun r cur=>Im _ _ _ _ fun b hb=>?_⟩;have:=eL (h.2 b hb);omega
theorem sS {ts:List Tx}{b:UInt8}(h:b∈Bz ts):b=44\/∃t∈ts,b∈t:=by
 unfold Bz at h;rw[Ah7]at h;obtain⟨t,ht,hb⟩:=h;rcases Ah2.1 hb with h|h
 ·exact .inl h
 ·exact .inr ⟨t,ht,h⟩
theorem sT {ts:List Tx}{b:UInt8}(h:b∈Bj ts):b=44\/∃t∈ts,b∈t:=by
 cases ts with
 |nil=>cases h
 |cons t ts=>
  unfold Bj at h;rcases Ah8.1 h with h|h
  ·exact .inr ⟨t,Ah3 ..,h⟩
  ·rcases sS h with h|⟨u,hu,h⟩
   ·exact .inl h
   ·exact .inr ⟨u,Ah5 _ hu,h⟩
theorem jT {a:RAtom}(h:D1 a){b:UInt8}(hb:b∈Bj a.terms):b.toNat=44\/(48<=b.toNat/\b.toNat<=90/\b.toNat≠58):=by
 rcases sT hb with rfl|⟨t,ht,hb⟩
 ·exact .inl rfl
 ·exact .inr (eL ((h.2.2.2 t ht).2 b hb))
theorem jE {c:Int}(hc:c=44\/c=46){a:RAtom}(h:D1 a)(r cur:Tx):Cc c (A6 a++r) false cur=Cc c r false (cur++A6 a):=by
 unfold A6;rw[Ahq,Im a.pred _ _ _ (fun b hb=>by have:=Jz (h.1.2 b hb);omega),Ah4,zE,Ahq,zH (Bj a.terms) _ _ (fun b hb=>by have:=jT h hb;omega)];rw[Ah4,Ah6,tN Aj6];simp
theorem cS {c:Int}(hc:c=44\/c=46){a:RAtom}(h:D1 a)(r cur:Tx):Cc c (B8 a++r) false cur=Cc c r false (cur++B8 a):=by
 unfold B8;rw[Ahq,Im (if a.nt=true then [33]else []) _ _ _ (fun b hb=>by split at hb<;>simp at hb;subst hb;simp;omega),jE hc h];simp
theorem dO (a:RAtom):A6 a≠[]:=by unfold A6;simp
theorem Aa7 (a:RAtom):B8 a≠[]:=by unfold B8;simp[dO]
theorem sV {a:RAtom}(h:D1 a):qT 44 (B8 a):=⟨Aa7 a,fun r cur=>cS (.inl rfl) h r cur⟩
theorem nH:∀(l:List RAtom) (r cur:Tx),(∀a∈l,D1 a)->Cc 46 (Bz (l.map B8)++r) false cur=Cc 46 r false (cur++Bz (l.map B8)):=by
 intro l;induction l with
 |nil=>intro r cur _;simp[Bz]
 |cons a l ih=>
  intro r cur h;have e:Bz ((a::l).map B8)=[44]++(B8 a++Bz (l.map B8)):=by simp[Bz]
  rw[e,Ahq,Im [44] _ _ _ (fun b hb=>by simp at hb;subst hb;decide),Ahq,cS (.inr rfl) (h a (Ah3 ..)),ih _ _ (fun x hx=>h x (Ah5 _ hx))];simp
theorem zG {x:RItem}(h:Ck x)(r cur:Tx):Cc 46 (Bc x++r) false cur=Cc 46 r false (cur++Bc x):=by
 obtain⟨h1,h2,h3⟩:=h;unfold Bc;by_cases ho:x.out=true
 ·rw[if_pos ho,Im (63::x.head.pred) _ _ _ (fun b hb=>by
   rcases Ah2.1 hb with rfl|hb
   ·decide
   ·have:=Jz (h1.2 b hb);omega)]
 ·obtain⟨w1,w2,w3,w4⟩:=h3 (by simpa using ho);rw[if_neg ho];unfold Dh;rw[Ahq,jE (.inr rfl) w1];cases hb:x.body with
  |nil=>simp
  |cons l ls=>
   rw[hb]at w4;rw[if_neg (by simp)];have e:(58::45::Bj ((l::ls).map B8))=[58,45]++(B8 l++Bz (ls.map B8)):=by simp[Bj]
   rw[e,Ahq,Im [58,45] _ _ _ (fun b hb=>by simp at hb;rcases hb with rfl|rfl<;>decide),Ahq,cS (.inr rfl) (w4 l (Ah3 ..)),nH _ _ _ (fun x hx=>w4 x (Ah5 _ hx))];simp
theorem aJ:∀(l:List RItem),(∀x∈l,Ck x)->Sq (Bu l) 46=l.map Bc:=by
 intro l;induction l with
 |nil=>intro _;simp[Bu,Sq,Cc]
 |cons x l ih=>
  intro h;have e:Bu (x::l)=Bc x++(46::Bu l):=by simp[Bu]
  have hi:=ih fun y hy=>h y (Ah5 _ hy);unfold Sq at*
  rw[e,zG (h x (Ah3 ..)),show (46:Int)=((46:UInt8).toNat:Int)from rfl,zI (by decide) (by decide),show ((46:UInt8).toNat:Int)=46 from rfl,hi];simp
theorem Q5 {c:Int}:∀(p r:Tx),(∀b∈p,(b.toNat:Int)≠c)->Fp (p++r) c=p.length+Fp r c:=by
 intro p;induction p with
 |nil=>intro r _;simp
 |cons b p ih=>
  intro r h;have:=ih r fun x hx=>h x (Ah5 _ hx);unfold Fp at*
  have e:((b.toNat:Int)==c)=false:=by simpa using h b (Ah3 ..)
  rw[Ah4,List.findIdx_cons,e];simp only[cond_false,Ahy];omega
theorem aD {c:UInt8}(r:Tx):Fp (c::r) c.toNat=0:=by unfold Fp;rw[List.findIdx_cons];simp
theorem yU {c:Int}:Fp [] c=0:=rfl
theorem Kv {p:Tx}(h:Ke p):∃b q,p=b::q/\97<=b.toNat/\b.toNat<=122:=by
 obtain⟨h1,h2⟩:=h;cases p with
 |nil=>exact absurd rfl h1
 |cons b q=>exact⟨b,q,rfl,Jz (h2 b (Ah3 ..))⟩
theorem zZ {a:RAtom}(h:D1 a):Aaa a.nt (A6 a)=a:=by
 have hf:Fp (A6 a) 40=a.pred.length:=by
  unfold A6;rw[Q5 a.pred _ (fun b hb=>by have:=Jz (h.1.2 b hb);omega),show (40:Int)=((40:UInt8).toNat:Int)from rfl,aD];rfl
 have hl:(A6 a).length=a.pred.length+1+(Bj a.terms).length+1:=by unfold A6;simp;omega
 unfold Aaa;rw[hf,if_pos Aj6];have e1:((A6 a).drop 0).take (a.pred.length-0)=a.pred:=by unfold A6;simp
 have e2:((A6 a).drop (a.pred.length+1)).take ((A6 a).length-1-(a.pred.length+1))=Bj a.terms:=by
  rw[hl];unfold A6;rw[show a.pred++40::(Bj a.terms++[41])=(a.pred++[40])++(Bj a.terms++[41])by simp];rw[Ah9 (by simp),List.drop_of_length_le (by simp),Ah6];rw[show a.pred.length+1+(Bj a.terms).length+1-1-(a.pred.length+1)=(Bj a.terms).length by omega];simp
 rw[e1,e2,jD (fun t ht=>lB (h.2.2.2 t ht))]
theorem Wb {a:RAtom}(h:D1 a):jQ (B8 a)=a:=by
 obtain⟨b,q,hp,h1,h2⟩:=Kv h.1;have e:=zZ h;unfold jQ B8;cases hn:a.nt with
 |true=>
  have e1:jJ ((if true=true then [33]else [])++A6 a)=true:=rfl;have e2:To ((if true=true then [33]else [])++A6 a)=A6 a:=by
   unfold To;rw[if_pos e1];simp
  rw[e1,e2,<-hn,e]
 |false=>
  have e1:jJ ((if false=true then [33]else [])++A6 a)=false:=by
   unfold A6;rw[hp];simp[jJ];omega
  have e2:To ((if false=true then [33]else [])++A6 a)=A6 a:=by
   unfold To;rw[if_neg (by rw[e1];simp)];simp
  rw[e1,e2,<-hn,e]
theorem Tp {a:RAtom}(h:a.nt=false):B8 a=A6 a:=by unfold B8;simp[h]
theorem Af1 {a:RAtom}(h:D1 a):∀b∈A6 a,(b.toNat:Int)≠58:=by
 intro b hb;unfold A6 at hb;rcases Ah8.1 hb with hb|hb
 ·have:=Jz (h.1.2 b hb);omega
 ·rcases Ah2.1 hb with rfl|hb
  ·decide
  ·rcases Ah8.1 hb with hb|hb
   ·have:=jT h hb;omega
   ·simp at hb;subst hb;decide
theorem L4 {x:RItem}(h:Ck x):iP (Bc x)=x/\Bc x≠[]/\(Qt (Bc x)=false->Fp (Bc x) 58<(Bc x).length->Fp (Bc x) 58+2<=(Bc x).length):=by
 obtain⟨h1,h2,h3⟩:=h;obtain⟨b,q,hp,k1,k2⟩:=Kv h1;unfold Bc;by_cases ho:x.out=true
 ·rw[if_pos ho];obtain⟨w1,w2,w3⟩:=h2 ho;have hq:Qt (63::x.head.pred)=true:=rfl;refine⟨?_,by simp,fun h=>by rw[hq]at h;cases h⟩;unfold iP;rw[if_pos hq];unfold Afw;obtain⟨xo,⟨n,p,t⟩,bd⟩:=x;simp at*
  simp[*]
 ·rw[if_neg ho];obtain⟨w1,w2,w3,w4⟩:=h3 (by simpa using ho);have hq:Qt (Dh x)=false:=by unfold Dh A6;rw[hp];simp[Qt];omega
  cases hb:x.body with
  |nil=>
   have e:Dh x=A6 x.head:=by unfold Dh;rw[if_pos hb];simp
   have hf:Fp (Dh x) 58=(Dh x).length:=by
    have:=Q5 (A6 x.head) [] (Af1 w1);rw[Ahh,yU]at this;rw[e];omega
   refine⟨?_,by rw[e];exact dO _,fun _ h=>Aj6⟩;unfold iP;rw[if_neg (by simp[hq])];unfold wM;rw[hf,if_neg Aj6];have e2:((Dh x).drop 0).take ((Dh x).length-0)=B8 x.head:=by rw[e,Tp w2];simp
   rw[e2,Wb w1];obtain⟨xo,hd,bd⟩:=x;simp at*
   simp[*]
  |cons l ls=>
   have e:Dh x=A6 x.head++(58::45::Bj (x.body.map B8)):=by unfold Dh;rw[if_neg (by rw[hb];simp)]
   have hf:Fp (Dh x) 58=(A6 x.head).length:=by
    have:=Q5 (A6 x.head) (58::45::Bj (x.body.map B8)) (Af1 w1);rw[e,this,show (58:Int)=((58:UInt8).toNat:Int)from rfl,aD];rfl
   have hl:(Dh x).length=(A6 x.head).length+2+(Bj (x.body.map B8)).length:=by rw[e];simp;omega
   refine⟨?_,by rw[e];simp,fun _ _=>Aj6⟩;unfold iP;rw[if_neg (by simp[hq])];unfold wM;rw[hf,if_pos Aj6];have e2:((Dh x).drop 0).take ((A6 x.head).length-0)=B8 x.head:=by rw[e,Tp w2];simp
   have e3:((Dh x).drop ((A6 x.head).length+2)).take ((Dh x).length-((A6 x.head).length+2))=Bj (x.body.map B8):=by
    rw[hl,e,show A6 x.head++(58::45::Bj (x.body.map B8))=(A6 x.head++[58,45])++Bj (x.body.map B8)by simp];rw[Ah9 (by simp),List.drop_of_length_le (by simp),Ah6];exact Aia Aj6
   rw[e2,e3,Wb w1,jD (fun t ht=>by
    rw[Aib]at ht;obtain⟨a,ha,rfl⟩:=ht
    exact sV (w4 a ha))]
   have e4:(x.body.map B8).map jQ=x.body:=by
    rw[Ahg]
    conv=>rhs;rw[<-Aic x.body]
    exact Aid fun a ha=>Wb (w4 a ha)
   rw[e4];obtain⟨xo,hd,bd⟩:=x;simp at*
   simp[*]
theorem Iu {s:Tx}{l:List RItem}{r:Tx}(hs:s.length<=1000)(h:Bq 16 s= .got l r):yQ s/\Cv s=l/\l.length<=16/\∀x∈l,Ck x:=by
 obtain⟨h1,h2,h3,h4⟩:=Ex _ _ _ _ h;have hc:=aJ l h4;refine⟨⟨?_,?_⟩,?_,h3,h4⟩
 ·rw[h1,hc];simpa using h3
 ·intro t ht;have hl:=nI ht;rw[h1,hc,Aib]at ht;obtain⟨x,hx,rfl⟩:=ht;obtain⟨g1,g2,g3⟩:=L4 (h4 x hx);exact⟨Aj6,g2,g3⟩
 ·unfold Cv;rw[h1,hc,Ahg]
  conv=>rhs;rw[<-Aic l]
  exact Aid fun x hx=>(L4 (h4 x hx)).1
inductive Way {α:Type}(E:α->α->Prop):α->α->Prop
 |one {a b:α}:E a b->Way E a b
 |more {a b c:α}:E a b->Way E b c->Way E a c
theorem Way.join {α:Type}{E:α->α->Prop}{a b c:α}(h:Way E a b)(k:Way E b c):Way E a c:=by
 induction h with
 |one e=>exact .more e k
 |more e _ ih=>exact .more e (ih k)
def Aai (n:Nat)(M:Nat->Nat->Bool):Prop:=∀a b,M a b=true->a<n/\b<n
theorem Aew {n:Nat}{M:Nat->Nat->Bool}(hM:Aai n M):∀(m:Nat),m<=n->Aai n (F8 n M m)/\(∀a b,M a b=true->F8 n M m a b=true)/\(∀a b,F8 n M m a b=true->Way (fun a b=>M a b=true) a b)/\
  (∀a b c,b<m->F8 n M m a b=true->F8 n M m b c=true->F8 n M m a c=true):=by
 intro m;induction m with
 |zero=>intro _;exact⟨hM,fun _ _ h=>h,fun _ _ h=>.one h,fun _ _ _ h=>Aj6⟩
 |succ m ih=>
  intro hm;obtain⟨h1,h2,h3,h4⟩:=ih Aj6;have e:∀a b,F8 n M (m+1) a b=true↔F8 n M m a b=true\/(F8 n M m a m=true/\F8 n M m m b=true):=by
   intro a b;show fwN n (F8 n M m) m a b=true↔_;unfold fwN fw;split
   ·simp
   ·rename_i hn;constructor
    ·exact .inl
    ·rintro (h|⟨ha,hb⟩)
     ·exact h
     ·exact absurd ⟨(h1 _ _ ha).1,(h1 _ _ hb).2⟩ hn
  refine⟨?_,?_,?_,?_⟩
  ·intro a b h;rcases (e a b).1 h with h|⟨ha,hb⟩
   ·exact h1 _ _ h
   ·exact⟨(h1 _ _ ha).1,(h1 _ _ hb).2⟩
  ·intro a b h;exact (e a b).2 (.inl (h2 _ _ h))
  ·intro a b h;rcases (e a b).1 h with h|⟨ha,hb⟩
   ·exact h3 _ _ h
   ·exact (h3 _ _ ha).join (h3 _ _ hb)
  ·intro a b c hb ab aa;rw[e]at ab aa⊢;by_cases ad:b=m
   ·subst ad;have g1:F8 n M b a b=true:=by rcases ab with h|⟨h,_⟩<;>exact h
    have g2:F8 n M b b c=true:=by rcases aa with h|⟨_,h⟩<;>exact h
    exact .inr ⟨g1,g2⟩
   ·have ac:b<m:=Aj6;rcases ab with ab|⟨ha,af⟩<;>rcases aa with aa|⟨ae,hc⟩
    ·exact .inl (h4 _ _ _ ac ab aa)
    ·exact .inr ⟨h4 _ _ _ ac ab ae,hc⟩
    ·exact .inr ⟨ha,h4 _ _ _ ac af aa⟩
    ·exact .inr ⟨ha,hc⟩
theorem cI {n:Nat}{M:Nat->Nat->Bool}(hM:Aai n M)(a b:Nat):F8 n M n a b=true↔Way (fun a b=>M a b=true) a b:=by
 obtain⟨h1,h2,h3,h4⟩:=Aew hM n (Agn _);refine⟨h3 a b,fun h=>?_⟩;induction h with
 |one e=>exact h2 _ _ e
 |more e _ ih=>exact h4 _ _ _ (hM _ _ e).2 (h2 _ _ e) ih
theorem O2 (l:List RItem)(i k:Nat):Aa1 l i k=true↔Way (fun a b=>Sp l a b=true) i k:=by
 have he:∀a b,Sp l a b=true->a<l.length/\b<l.length:=by
  intro a b h;unfold Sp at h;split at h
  ·rename_i x y hx hy;exact⟨(Agy.1 hx).1,(Agy.1 hy).1⟩
  ·cases h
 have e:(fun a b=>if a<l.length/\b<l.length then Sp l a b else false)=Sp l:=by
  funext a b;split
  ·rfl
  ·rename_i hn;cases hq:Sp l a b with
   |false=>rfl
   |true=>exact absurd (he a b hq) hn
 unfold Aa1;rw[e];exact cI he i k
def D5 (l:List RItem)(p q:Tx):Prop:=∃x∈l,x.head.pred=p/\∃a∈x.body,a.pred=q
theorem edge_iff {l:List RItem}{i k:Nat}:Sp l i k=true↔∃x y,l[i]?=some x/\l[k]?=some y/\y.out=false/\∃a∈x.body,a.pred=y.head.pred:=by
 unfold Sp;constructor
 ·intro h;split at h
  ·rename_i x y hx hy;refine⟨x,y,hx,hy,?_⟩;simp at h;exact h
  ·cases h
 ·rintro⟨x,y,hx,hy,h1,a,ha,h2⟩;rw[hx,hy];simp only[h1,Bool.not_false,Aie];exact Ahz.2 ⟨a,ha,by simp[h2]⟩
theorem Qh {l:List RItem}{i k:Nat}(h:Way (fun a b=>Sp l a b=true) i k):∃x y,l[i]?=some x/\l[k]?=some y/\y.out=false/\Way (D5 l) x.head.pred y.head.pred:=by
 induction h with
 |one e=>
  obtain⟨x,y,hx,hy,h1,a,ha,h2⟩:=edge_iff.1 e;exact⟨x,y,hx,hy,h1,.one ⟨x,Ag1 hx,rfl,a,ha,h2⟩⟩
 |more e _ ih=>
  obtain⟨x,y,hx,hy,h1,a,ha,h2⟩:=edge_iff.1 e;obtain⟨x',z,aa,hz,h3,h4⟩:=ih;rw[hy]at aa;cases aa;exact⟨x,z,hx,hz,h3,.more ⟨x,Ag1 hx,rfl,a,ha,h2⟩ h4⟩
theorem Qi {l:List RItem}(ho:∀x∈l,x.out=true->x.body=[]){p q:Tx}(h:Way (D5 l) p q):∀(k:Nat) (y:RItem),l[k]?=some y->y.out=false->y.head.pred=q->∃(i:Nat) (x:RItem),l[i]?=some x/\x.head.pred=p/\Way (fun a b=>Sp l a b=true) i k:=by
 induction h with
 |one e=>
  intro k y hk hy hq;obtain⟨x,hx,h1,a,ha,h2⟩:=e;obtain⟨i,hi⟩:=Aif hx;exact⟨i,x,hi,h1,.one (edge_iff.2 ⟨x,y,hi,hk,hy,a,ha,by rw[h2,hq]⟩)⟩
 |more e _ ih=>
  intro k y hk hy hq;obtain⟨x,hx,h1,a,ha,h2⟩:=e;obtain⟨i,hi⟩:=Aif hx;obtain⟨j,z,hj,h3,h4⟩:=ih k y hk hy hq;have hz:z.out=false:=by
   have ab:z.body≠[]:=by
    cases h4 with
    |one e=>
     obtain⟨z',_,aa,_,_,a,ha,_⟩:=edge_iff.1 e;rw[hj]at aa;cases aa;intro hn;rw[hn]at ha;cases ha
    |more e _=>
     obtain⟨z',_,aa,_,_,a,ha,_⟩:=edge_iff.1 e;rw[hj]at aa;cases aa;intro hn;rw[hn]at ha;cases ha
   cases hb:z.out with
   |false=>rfl
   |true=>exact absurd (ho z (Ag1 hj) hb) ab
  exact⟨i,x,hi,h1,.more (edge_iff.2 ⟨x,z,hi,hj,hz,a,ha,by rw[h2,h3]⟩) h4⟩
theorem Mn {l:List RItem}(ho:∀x∈l,x.out=true->x.body=[]){p q:Tx}(hq:∃y∈l,y.out=false/\y.head.pred=q):oJ l p q=true↔Way (D5 l) p q:=by
 unfold oJ;constructor
 ·intro h;rw[Ahz]at h;obtain⟨i,-,h⟩:=h;rw[Ahz]at h;obtain⟨k,-,h⟩:=h;unfold Aer at h;simp only[Ag3,Aj4]at h;obtain⟨⟨h1,h2⟩,h3⟩:=h;obtain⟨x,y,hx,hy,_,hw⟩:=Qh ((O2 l i k).1 h1);unfold cH at h2 h3;rw[hx]at h2;rw[hy]at h3;rw[<-h2,<-h3];exact hw
 ·intro h;obtain⟨y,hy,h1,h2⟩:=hq;obtain⟨k,hk⟩:=Aif hy;obtain⟨i,x,hi,h3,h4⟩:=Qi ho h k y hk h1 h2;rw[Ahz];refine⟨i,by simpa using (Agy.1 hi).1,?_⟩;rw[Ahz];refine⟨k,by simpa using (Agy.1 hk).1,?_⟩;unfold Aer cH;rw[(O2 l i k).2 h4,hi,hk];simp[h2,h3]
end Go.Proofs.YtmoeoppbmhfbpabGreatDoorL
