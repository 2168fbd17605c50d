import Derived.Test.YtmoeoppbmhfbpabGreatDoorJFacts
set_option maxRecDepth 100000
set_option linter.all false
namespace Go.Proofs.YtmoeoppbmhfbpabGreatDoorJ
open Go.Abs
def Be (c:Int):Bool:=decide (97<=c)&&decide (c<=122)
def Bl (c:Int):Bool:=decide (65<=c)&&decide (c<=90)
def Fw (c:Int):Bool:=decide (49<=c)&&decide (c<=57)
structure Dx where
 st:Int
 items:Int
 letters:Int
 digits:Int
 terms:Int
 lits:Int
 head:Bool
structure KeepX (o:Nat)(A A':St):Prop where
 nobj:A.nobj<=A'.nobj
 obj:∀p,p<A.nobj->p≠o->A'.obj p=A.obj p
 ver:∀p,p<A.nobj->p≠o->A'.ver p=A.ver p
 ntop:A.ntop<=A'.ntop
 top:∀k,k<A.ntop->A'.top k=A.top k
theorem KeepX.refl (o:Nat)(A:St):KeepX o A A:=⟨Abf _,fun _ _ _=>rfl,fun _ _ _=>rfl,Abf _,fun _ _=>rfl⟩
theorem KeepX.put {o:Nat}{A A':St}(h:KeepX o A A')(cs:List AV):KeepX o A (A'.put o cs):=
 ⟨h.nobj,fun p hp aa=>by simp[St.put,aa];exact h.obj p hp aa,fun p hp aa=>by simp[St.put,aa];exact h.ver p hp aa,h.ntop,h.top⟩
theorem KeepX.trans {o:Nat}{a b c:St}(h:KeepX o a b)(k:KeepX o b c):KeepX o a c:=
 ⟨Abg h.nobj k.nobj,fun p hp aa=>(k.obj p (Abh hp h.nobj) aa).trans (h.obj p hp aa),fun p hp aa=>(k.ver p (Abh hp h.nobj) aa).trans (h.ver p hp aa),
  Abg h.ntop k.ntop,fun j hj=>(k.top j (Abh hj h.ntop)).trans (h.top j hj)⟩
def Ep (X:Dx)(c:Int):Dx×Bool:=
 if (X.st==5)=true then
  if Be c=true/\decide (X.letters<6)=true then ({X with letters:=X.letters+1},true)
  else if (c==40)=true then ({X with terms:=0,st:=6},true)else ({X with terms:=0},false)
 else if (X.st==6)=true then
  if Fw c=true then ({X with terms:=X.terms+1,digits:=1,st:=7},true)
  else if Bl c=true\/(c==48)=true then ({X with terms:=X.terms+1,digits:=1,st:=8},true)else ({X with terms:=X.terms+1,digits:=1},false)
 else if (X.st==7)=true/\decide (X.digits<3)=true/\(Fw c=true\/(c==48)=true)then ({X with digits:=X.digits+1},true)
 else if (c==41)=true then ({X with lits:=if (!X.head)=true then X.lits+1 else X.lits,st:=9},true)
 else if (c==44)=true/\decide (X.terms<3)=true then ({X with st:=6},true)else (X,false)
def Cu (X:Dx)(c:Int):Dx×Bool:=
 if (X.st==0)=true then
  if (X.items==16)=true then (X,false)
  else if (c==63)=true then ({X with head:=true,letters:=0,lits:=0,st:=1},true)
  else if Be c=true then ({X with head:=true,letters:=1,lits:=0,st:=5},true)else ({X with head:=true,letters:=1,lits:=0},false)
 else if (X.st==1)=true\/(X.st==2)=true then
  if Be c=true/\decide (X.letters<6)=true then ({X with letters:=X.letters+1,st:=2},true)
  else if (c==46)=true/\(X.st==2)=true then ({X with items:=X.items+1,st:=0},true)else (X,false)
 else if (X.st==3)=true\/(X.st==4)=true then
  if (c==33)=true/\(X.st==3)=true then ({X with letters:=1,st:=4},true)
  else if Be c=true then ({X with letters:=1,st:=5},true)else ({X with letters:=1},false)
 else if (X.st==10)=true then
  if (c==45)=true then ({X with head:=false,st:=3},true)else ({X with head:=false},false)
 else if (c==46)=true then ({X with items:=X.items+1,st:=0},true)
 else if (c==58)=true/\X.head=true then ({X with st:=10},true)
 else if (c==44)=true/\(!X.head)=true/\decide (X.lits<5)=true then ({X with st:=3},true)else (X,false)
def Ev (l:List UInt8)(c:Int):Nat:=l.findIdx fun x=>(x.toNat:Int)==c
def Bz (c:Int):List UInt8->Bool->List UInt8->List (List UInt8)
 |[],_,cur=>if cur=[]then []else [cur]
 |b::r,deep,cur=>
  let d1:=if ((b.toNat:Int)==40)=true then true else deep
  let d2:=if ((b.toNat:Int)==41)=true then false else d1
  if ((b.toNat:Int)==c)=true/\d2=false then cur::Bz c r d2 []else Bz c r d2 (cur++[b])
def Qk (s:List UInt8)(c:Int):List (List UInt8):=Bz c s false []
structure Ai where
 nt:Bool
 pred:List UInt8
 terms:List (List UInt8)
structure RItem where
 out:Bool
 head:Ai
 body:List Ai
def dO:List UInt8->Bool
 |[]=>false
 |b::_=>(b.toNat:Int)==33
def Q6 (s:List UInt8):List UInt8:=if dO s then (s.drop 1).take (s.length-1)else s
def sP (nt:Bool)(s:List UInt8):Ai:=
 {nt:=nt,pred:=(s.drop 0).take (Ev s 40-0),terms:=if Ev s 40+1<s.length then Qk ((s.drop (Ev s 40+1)).take (s.length-1-(Ev s 40+1))) 44 else []}
def dT (s:List UInt8):Ai:=sP (dO s) (Q6 s)
theorem any_take_succ {α:Type}{l:List α}{k:Nat}{a:α}(p:α->Bool)(h:l[k]?=some a):(l.take (k+1)).any p=((l.take k).any p||p a):=by
 rw[Abv,h];simp
theorem Qv {α:Type}{l:List α}{k:Nat}{a:α}(p:α->Bool)(h:l[k]?=some a)(hp:p a=true):l.any p=true:=
 Acg.2 ⟨a,Abm h,hp⟩
def Al:List UInt8->Bool
 |[]=>false
 |b::_=>Bl b.toNat
def Af (x:RItem):List Ai:=(if x.out=true then []else [x.head])++x.body
def Kz (x:RItem)(t:List UInt8):Bool:=x.body.any fun a=>a.terms.any fun u=>!a.nt&&u==t
theorem Fb {l:List (List UInt8)}{k:Nat}(h:k<l.length):(l.map str).drop k=str l[k]::(l.map str).drop (k+1):=by
 rw[Ach (by simpa using h)];simp
def oD (x:RItem)(t:List UInt8):Bool:=Al t&&!Kz x t
def sN (x:RItem)(a:Ai):Bool:=a.terms.any (oD x)
def Iz (x:RItem):Bool:=!(Af x).any (sN x)
def RItem.fits (x:RItem):Prop:=x.body.length<=1000/\x.head.terms.length<=1000/\∀a∈x.body,a.terms.length<=1000
def aN:Dx:=⟨0,0,0,0,0,0,false⟩
def A4 (X:Dx)(c:UInt8):Dx×Bool:=
 if decide (5<=X.st)=true/\decide (X.st<=8)=true then Ep X c.toNat else Cu X c.toNat
def fG:Dx->List UInt8->Nat->Dx×Option Nat
 |X,[],_=>(X,none)
 |X,c::r,i=>if (A4 X c).2=true then fG (A4 X c).1 r (i+1)else ((A4 X c).1,some i)
def Oh (s:List UInt8):Int:=
 match (fG aN s 0).2 with
 |some i=>i
 |none=>if (fG aN s 0).1.st !=0 then s.length else -1
def set2 (M:Nat->Nat->Bool)(i k:Nat)(v:Bool):Nat->Nat->Bool:=fun a b=>if a=i/\b=k then v else M a b
def Qj (l:List RItem)(i k:Nat):Bool:=
 match l[i]?,l[k]? with
 |some x,some y=>!y.out&&x.body.any fun a=>a.pred==y.head.pred
 |_,_=>false
def fw (M:Nat->Nat->Bool)(m:Nat):Nat->Nat->Bool:=fun i k=>M i k||(M i m&&M m k)
def fwN (n:Nat)(M:Nat->Nat->Bool)(m:Nat):Nat->Nat->Bool:=fun i k=>if i<n/\k<n then fw M m i k else M i k
def E5 (n:Nat)(M:Nat->Nat->Bool):Nat->Nat->Nat->Bool
 |0=>M
 |m+1=>fwN n (E5 n M m) m
def part (n:Nat)(M:Nat->Nat->Bool)(m i k:Nat)(W:Nat->Nat->Bool):Prop:=∀a b,W a b=if (a<i/\b<n)\/(a=i/\b<k)then fw M m a b else M a b
def tU (l:List RItem):Nat->Nat->Bool:=E5 l.length (fun a b=>if a<l.length/\b<l.length then Qj l a b else false) l.length
theorem M8 {n:Nat}{M W:Nat->Nat->Bool}{m i k:Nat}(h:part n M m i k W)(hk:k<n)(hm:m<n):W i k=M i k/\W i m=M i m/\W m k=M m k:=by
 refine⟨?_,?_,?_⟩
 ·rw[h,if_neg Ad6]
 ·rw[h];split
  ·unfold fw;cases M i m<;>simp
  ·rfl
 ·rw[h];split
  ·unfold fw;cases M m k<;>simp
  ·rfl
theorem Sb {n:Nat}{M W:Nat->Nat->Bool}{m i k:Nat}(h:part n M m i k W){v:Bool}(hv:v=fw M m i k):part n M m i (k+1) (set2 W i k v):=by
 intro a b;unfold set2;by_cases aa:a=i/\b=k
 ·obtain⟨rfl,rfl⟩:=aa;rw[if_pos ⟨rfl,rfl⟩,if_pos Ad6];exact hv
 ·rw[if_neg aa,h];by_cases hc:(a<i/\b<n)\/(a=i/\b<k)
  ·rw[if_pos hc,if_pos Ad6]
  ·rw[if_neg hc,if_neg Ad6]
theorem Sc {n:Nat}{M W:Nat->Nat->Bool}{m i:Nat}(h:part n M m i n W):part n M m (i+1) 0 W:=by
 intro a b;rw[h];by_cases hc:(a<i/\b<n)\/(a=i/\b<n)
 ·rw[if_pos hc,if_pos Ad6]
 ·rw[if_neg hc,if_neg Ad6]
theorem Oi {n:Nat}{M:Nat->Nat->Bool}{m:Nat}:part n M m 0 0 M:=by intro a b;rw[if_neg Ad6]
theorem Sd {n:Nat}{M W:Nat->Nat->Bool}{m:Nat}(h:part n M m n 0 W):W=fwN n M m:=by
 funext a b;rw[h];unfold fwN;by_cases hc:a<n/\b<n
 ·rw[if_pos Ad6,if_pos hc]
 ·rw[if_neg Ad6,if_neg hc]
def Yk (l:List RItem)(i:Nat):List UInt8:=match l[i]? with|some x=>x.head.pred|none=>[]
def yV (l:List RItem)(p q:List UInt8)(i k:Nat):Bool:=tU l i k&&Yk l i==p&&Yk l k==q
def jC (l:List RItem)(p q:List UInt8):Bool:=(List.range l.length).any fun i=>(List.range l.length).any fun k=>yV l p q i k
def Bb (p:Nat->Bool)(n:Nat):Int:=match (List.range n).find? p with|some i=>(i:Int)|none=> -1
theorem Js {p:Nat->Bool}{n i:Nat}(hi:i<n)(hp:p i=true)(hn:∀a,a<i->p a=false):Bb p n=i:=by
 unfold Bb;have:(List.range n).find? p=some i:=by
  rw[List.find?_range_eq_some];exact⟨hp,by simpa using hi,fun a ha=>by simp[hn a ha]⟩
 rw[this]
theorem Ck {p:Nat->Bool}{n:Nat}(hn:∀a,a<n->p a=false):Bb p n= -1:=by
 unfold Bb;have:(List.range n).find? p=none:=by
  rw[List.find?_eq_none];intro a ha;simp[hn a (by simpa using ha)]
 rw[this]
def wA (l:List RItem)(h:List UInt8)(a:Ai):Bool:=a.nt&&(a.pred==h||jC l a.pred h)
def G7 (l:List RItem)(i:Nat):Bool:=match l[i]? with|some x=>x.body.any (wA l x.head.pred)|none=>false
def clash (a b:Ai):Bool:=b.pred==a.pred&&decide (b.terms.length≠a.terms.length)
def C0 (l:List RItem)(i:Nat):List Ai:=(l.take i).flatMap Af
def Cy (l:List RItem)(x:RItem)(i j:Nat):List Ai:=C0 l i++(Af x).take j
def Pn (l:List RItem)(x:RItem)(i j:Nat):Bool:=match (Af x)[j]? with|some a=>(Cy l x i j).any (clash a)|none=>false
def Hb (l:List RItem)(i:Nat):Bool:=match l[i]? with|some x=>(List.range (Af x).length).any (Pn l x i)|none=>false
def noO (l:List RItem)(i:Nat):Prop:=∀a,a<i->Hb l a=false
def Aa3 (l:List RItem)(x:RItem)(i j:Nat):Prop:=∀b,b<j->Pn l x i b=false
theorem Hk {l:List RItem}{x:RItem}{i j:Nat}{a:Ai}(h:(Af x)[j]?=some a):Cy l x i (j+1)=Cy l x i j++[a]:=by
 unfold Cy;rw[Abv,h,Ab8];rfl
theorem mH {l:List RItem}{x:RItem}{i:Nat}(h:l[i]?=some x):Cy l x i (Af x).length=Cy l x (i+1) 0:=by
 unfold Cy C0;rw[Abt,Abv,h,List.take_zero,Abz];simp
theorem RItem.fits.atoms {x:RItem}(h:x.fits):(Af x).length<=1001:=by
 obtain⟨f1,f2,f3⟩:=h;unfold Af;split<;>simp<;>omega
def Ds (l:List RItem)(i:Nat):Bool:=match l[i]? with|some x=>!Iz x|none=>false
def Ct (l:List RItem):Int×Int:=
 if 0<=Bb (Hb l) l.length then (3,Bb (Hb l) l.length)
 else if 0<=Bb (Ds l) l.length then (4,Bb (Ds l) l.length)
 else if 0<=Bb (G7 l) l.length then (5,Bb (G7 l) l.length)
 else (0,0)
abbrev two (p:Int×Int):AV:=tp [sc (.int .i64 p.1),sc (.int .i64 p.2)]
theorem Ox {p:Nat->Bool}{n:Nat}: -1<=Bb p n:=by
 unfold Bb;split<;>omega
def Og:List UInt8->Bool
 |[]=>false
 |b::_=>(b.toNat:Int)==63
def Aai (t:List UInt8):RItem:={out:=true,head:={nt:=false,pred:=(t.drop 1).take (t.length-1),terms:=[]},body:=[]}
def qG (t:List UInt8):RItem:=
 {out:=false,head:=dT ((t.drop 0).take (Ev t 58-0)),body:=if Ev t 58<t.length then (Qk ((t.drop (Ev t 58+2)).take (t.length-(Ev t 58+2))) 44).map dT else []}
def cP (t:List UInt8):RItem:=if Og t then Aai t else qG t
def C2 (s:List UInt8):List RItem:=(Qk s 46).map cP
def uS (t:List UInt8):Prop:=t.length<=1000/\t≠[]/\(Og t=false->Ev t 58<t.length->Ev t 58+2<=t.length)
theorem Jx (c:Int):∀(s:List UInt8) (d:Bool) (cur:List UInt8),∀t∈Bz c s d cur,t.length<=cur.length+s.length
 |[],d,cur=>by
  unfold Bz;split
  ·intro t ht;cases ht
  ·intro t ht;simp at ht;subst ht;simp
 |b::r,d,cur=>by
  unfold Bz
  all_goals
   simp only[];generalize (if ((b.toNat:Int)==41)=true then false else _)=d2;split
   ·intro t ht;rcases Aci.1 ht with rfl|ht
    ·simp
    ·have:=Jx c r d2 [] t ht;simp at this⊢;omega
   ·intro t ht;have:=Jx c r d2 (cur++[b]) t ht;simp at this⊢;omega
theorem iC {s:List UInt8}{c:Int}{t:List UInt8}(h:t∈Qk s c):t.length<=s.length:=by
 have:=Jx c s false [] t h;simpa using this
def rM (s:List UInt8):Prop:=(Qk s 46).length<=16/\∀t∈Qk s 46,uS t
def Ax (s:List UInt8):Int×Int:=
 if 600<s.length then (1,0)else if 0<=Oh s then (2,Oh s)else Ct (C2 s)
end Go.Proofs.YtmoeoppbmhfbpabGreatDoorJ
