import Derived.Test.YtmoeoppbmhfbpabGreatDoorHFacts
set_option linter.all false
namespace Go.Proofs.YtmoeoppbmhfbpabGreatDoorH
open Go.Abs
set_option maxRecDepth 100000
def A5 (c:Int):Bool:=decide (97<=c)&&decide (c<=122)
def A3 (c:Int):Bool:=decide (65<=c)&&decide (c<=90)
def Fz (c:Int):Bool:=decide (49<=c)&&decide (c<=57)
structure D3 where
 st:Int
 items:Int
 letters:Int
 digits:Int
 terms:Int
 lits:Int
 head:Bool
structure KeepX (o:Nat)(A A':St):Prop where
 nobj:A.nobj<=A'.nobj
 obj:∀p,p<A.nobj->p≠o->A'.obj p=A.obj p
 ver:∀p,p<A.nobj->p≠o->A'.ver p=A.ver p
 ntop:A.ntop<=A'.ntop
 top:∀k,k<A.ntop->A'.top k=A.top k
theorem KeepX.refl (o:Nat)(A:St):KeepX o A A:=⟨Abb _,fun _ _ _=>rfl,fun _ _ _=>rfl,Abb _,fun _ _=>rfl⟩
theorem KeepX.put {o:Nat}{A A':St}(h:KeepX o A A')(cs:List AV):KeepX o A (A'.put o cs):=
 ⟨h.nobj,fun p hp hne=>by simp[St.put,hne];exact h.obj p hp hne,fun p hp hne=>by simp[St.put,hne];exact h.ver p hp hne,h.ntop,h.top⟩
theorem KeepX.trans {o:Nat}{a b c:St}(h:KeepX o a b)(k:KeepX o b c):KeepX o a c:=
 ⟨Abc h.nobj k.nobj,fun p hp hne=>(k.obj p (Abd hp h.nobj) hne).trans (h.obj p hp hne),fun p hp hne=>(k.ver p (Abd hp h.nobj) hne).trans (h.ver p hp hne),
  Abc h.ntop k.ntop,fun j hj=>(k.top j (Abd hj h.ntop)).trans (h.top j hj)⟩
def Es (X:D3)(c:Int):D3×Bool:=
 if (X.st==5)=true then
  if A5 c=true/\decide (X.letters<6)=true then ({X with letters:=X.letters+1},true)
  else if (c==40)=true then ({X with terms:=0,st:=6},true)else ({X with terms:=0},false)
 else if (X.st==6)=true then
  if Fz c=true then ({X with terms:=X.terms+1,digits:=1,st:=7},true)
  else if A3 c=true\/(c==48)=true then ({X with terms:=X.terms+1,digits:=1,st:=8},true)else ({X with terms:=X.terms+1,digits:=1},false)
 else if (X.st==7)=true/\decide (X.digits<3)=true/\(Fz c=true\/(c==48)=true)then ({X with digits:=X.digits+1},true)
 else if (c==41)=true then ({X with lits:=if (!X.head)=true then X.lits+1 else X.lits,st:=9},true)
 else if (c==44)=true/\decide (X.terms<3)=true then ({X with st:=6},true)else (X,false)
def Cz (X:D3)(c:Int):D3×Bool:=
 if (X.st==0)=true then
  if (X.items==16)=true then (X,false)
  else if (c==63)=true then ({X with head:=true,letters:=0,lits:=0,st:=1},true)
  else if A5 c=true then ({X with head:=true,letters:=1,lits:=0,st:=5},true)else ({X with head:=true,letters:=1,lits:=0},false)
 else if (X.st==1)=true\/(X.st==2)=true then
  if A5 c=true/\decide (X.letters<6)=true then ({X with letters:=X.letters+1,st:=2},true)
  else if (c==46)=true/\(X.st==2)=true then ({X with items:=X.items+1,st:=0},true)else (X,false)
 else if (X.st==3)=true\/(X.st==4)=true then
  if (c==33)=true/\(X.st==3)=true then ({X with letters:=1,st:=4},true)
  else if A5 c=true then ({X with letters:=1,st:=5},true)else ({X with letters:=1},false)
 else if (X.st==10)=true then
  if (c==45)=true then ({X with head:=false,st:=3},true)else ({X with head:=false},false)
 else if (c==46)=true then ({X with items:=X.items+1,st:=0},true)
 else if (c==58)=true/\X.head=true then ({X with st:=10},true)
 else if (c==44)=true/\(!X.head)=true/\decide (X.lits<5)=true then ({X with st:=3},true)else (X,false)
def Ex (l:List UInt8)(c:Int):Nat:=l.findIdx fun x=>(x.toNat:Int)==c
def B9 (c:Int):List UInt8->Bool->List UInt8->List (List UInt8)
 |[],_,cur=>if cur=[]then []else [cur]
 |b::r,deep,cur=>
  let d1:=if ((b.toNat:Int)==40)=true then true else deep
  let d2:=if ((b.toNat:Int)==41)=true then false else d1
  if ((b.toNat:Int)==c)=true/\d2=false then cur::B9 c r d2 []else B9 c r d2 (cur++[b])
def Qg (s:List UInt8)(c:Int):List (List UInt8):=B9 c s false []
structure RAtom where
 nt:Bool
 pred:List UInt8
 terms:List (List UInt8)
structure RItem where
 out:Bool
 head:RAtom
 body:List RAtom
def dN:List UInt8->Bool
 |[]=>false
 |b::_=>(b.toNat:Int)==33
def Q9 (s:List UInt8):List UInt8:=if dN s then (s.drop 1).take (s.length-1)else s
def tF (nt:Bool)(s:List UInt8):RAtom:=
 {nt:=nt,pred:=(s.drop 0).take (Ex s 40-0),terms:=if Ex s 40+1<s.length then Qg ((s.drop (Ex s 40+1)).take (s.length-1-(Ex s 40+1))) 44 else []}
def dT (s:List UInt8):RAtom:=tF (dN s) (Q9 s)
theorem any_take_succ {α:Type}{l:List α}{k:Nat}{a:α}(p:α->Bool)(h:l[k]?=some a):(l.take (k+1)).any p=((l.take k).any p||p a):=by
 rw[Abq,h];simp
theorem Qw {α:Type}{l:List α}{k:Nat}{a:α}(p:α->Bool)(h:l[k]?=some a)(hp:p a=true):l.any p=true:=
 Acb.2 ⟨a,Abh h,hp⟩
def Af:List UInt8->Bool
 |[]=>false
 |b::_=>A3 b.toNat
def Ag (x:RItem):List RAtom:=(if x.out=true then []else [x.head])++x.body
def Pe (x:RItem)(t:List UInt8):Bool:=x.body.any fun a=>a.terms.any fun u=>!a.nt&&u==t
theorem Cm {l:List (List UInt8)}{k:Nat}(h:k<l.length):(l.map str).drop k=str l[k]::(l.map str).drop (k+1):=by
 rw[Acd (by simpa using h)];simp
def sV (x:RItem)(t:List UInt8):Bool:=Af t&&!Pe x t
def wK (x:RItem)(a:RAtom):Bool:=a.terms.any (sV x)
def H7 (x:RItem):Bool:=!(Ag x).any (wK x)
def RItem.fits (x:RItem):Prop:=x.body.length<=1000/\x.head.terms.length<=1000/\∀a∈x.body,a.terms.length<=1000
def aR:D3:=⟨0,0,0,0,0,0,false⟩
def Be (X:D3)(c:UInt8):D3×Bool:=
 if decide (5<=X.st)=true/\decide (X.st<=8)=true then Es X c.toNat else Cz X c.toNat
def fH:D3->List UInt8->Nat->D3×Option Nat
 |X,[],_=>(X,none)
 |X,c::r,i=>if (Be X c).2=true then fH (Be X c).1 r (i+1)else ((Be X c).1,some i)
def Md (s:List UInt8):Int:=
 match (fH aR s 0).2 with
 |some i=>i
 |none=>if (fH aR s 0).1.st !=0 then s.length else -1
def set2 (M:Nat->Nat->Bool)(i k:Nat)(v:Bool):Nat->Nat->Bool:=fun a b=>if a=i/\b=k then v else M a b
def Ti (l:List RItem)(i k:Nat):Bool:=
 match l[i]?,l[k]? with
 |some x,some y=>!y.out&&x.body.any fun a=>a.pred==y.head.pred
 |_,_=>false
theorem Ld {l xs:List AV}(h:xs.length=l.length):lsp l 0 xs=xs:=by
 rw[F3 _ _ _ Ad2,Ab1,h,List.drop_length];simp
def fw (M:Nat->Nat->Bool)(m:Nat):Nat->Nat->Bool:=fun i k=>M i k||(M i m&&M m k)
def fwN (n:Nat)(M:Nat->Nat->Bool)(m:Nat):Nat->Nat->Bool:=fun i k=>if i<n/\k<n then fw M m i k else M i k
def Fb (n:Nat)(M:Nat->Nat->Bool):Nat->Nat->Nat->Bool
 |0=>M
 |m+1=>fwN n (Fb n M m) m
def part (n:Nat)(M:Nat->Nat->Bool)(m i k:Nat)(W:Nat->Nat->Bool):Prop:=∀a b,W a b=if (a<i/\b<n)\/(a=i/\b<k)then fw M m a b else M a b
def yC (l:List RItem):Nat->Nat->Bool:=Fb l.length (fun a b=>if a<l.length/\b<l.length then Ti l a b else false) l.length
theorem bP {n:Nat}{M W:Nat->Nat->Bool}{m i k:Nat}(h:part n M m i k W)(hk:k<n)(hm:m<n):W i k=M i k/\W i m=M i m/\W m k=M m k:=by
 refine⟨?_,?_,?_⟩
 ·rw[h,if_neg Ad2]
 ·rw[h];split
  ·unfold fw;cases M i m<;>simp
  ·rfl
 ·rw[h];split
  ·unfold fw;cases M m k<;>simp
  ·rfl
theorem qV {n:Nat}{M W:Nat->Nat->Bool}{m i k:Nat}(h:part n M m i k W){v:Bool}(hv:v=fw M m i k):part n M m i (k+1) (set2 W i k v):=by
 intro a b;unfold set2;by_cases aa:a=i/\b=k
 ·obtain⟨rfl,rfl⟩:=aa;rw[if_pos ⟨rfl,rfl⟩,if_pos Ad2];exact hv
 ·rw[if_neg aa,h];by_cases hc:(a<i/\b<n)\/(a=i/\b<k)
  ·rw[if_pos hc,if_pos Ad2]
  ·rw[if_neg hc,if_neg Ad2]
theorem qW {n:Nat}{M W:Nat->Nat->Bool}{m i:Nat}(h:part n M m i n W):part n M m (i+1) 0 W:=by
 intro a b;rw[h];by_cases hc:(a<i/\b<n)\/(a=i/\b<n)
 ·rw[if_pos hc,if_pos Ad2]
 ·rw[if_neg hc,if_neg Ad2]
theorem mP {n:Nat}{M:Nat->Nat->Bool}{m:Nat}:part n M m 0 0 M:=by intro a b;rw[if_neg Ad2]
theorem qX {n:Nat}{M W:Nat->Nat->Bool}{m:Nat}(h:part n M m n 0 W):W=fwN n M m:=by
 funext a b;rw[h];unfold fwN;by_cases hc:a<n/\b<n
 ·rw[if_pos Ad2,if_pos hc]
 ·rw[if_neg Ad2,if_neg hc]
def Yj (l:List RItem)(i:Nat):List UInt8:=match l[i]? with|some x=>x.head.pred|none=>[]
def zB (l:List RItem)(p q:List UInt8)(i k:Nat):Bool:=yC l i k&&Yj l i==p&&Yj l k==q
def iY (l:List RItem)(p q:List UInt8):Bool:=(List.range l.length).any fun i=>(List.range l.length).any fun k=>zB l p q i k
def Bm (p:Nat->Bool)(n:Nat):Int:=match (List.range n).find? p with|some i=>(i:Int)|none=> -1
theorem Jj {p:Nat->Bool}{n i:Nat}(hi:i<n)(hp:p i=true)(hn:∀a,a<i->p a=false):Bm p n=i:=by
 unfold Bm;have:(List.range n).find? p=some i:=by
  rw[List.find?_range_eq_some];exact⟨hp,by simpa using hi,fun a ha=>by simp[hn a ha]⟩
 rw[this]
theorem Cn {p:Nat->Bool}{n:Nat}(hn:∀a,a<n->p a=false):Bm p n= -1:=by
 unfold Bm;have:(List.range n).find? p=none:=by
  rw[List.find?_eq_none];intro a ha;simp[hn a (by simpa using ha)]
 rw[this]
def zK (l:List RItem)(h:List UInt8)(a:RAtom):Bool:=a.nt&&(a.pred==h||iY l a.pred h)
def Jt (l:List RItem)(i:Nat):Bool:=match l[i]? with|some x=>x.body.any (zK l x.head.pred)|none=>false
def clash (a b:RAtom):Bool:=b.pred==a.pred&&decide (b.terms.length≠a.terms.length)
def Kg (l:List RItem)(i:Nat):List RAtom:=(l.take i).flatMap Ag
def Fa (l:List RItem)(x:RItem)(i j:Nat):List RAtom:=Kg l i++(Ag x).take j
def Sy (l:List RItem)(x:RItem)(i j:Nat):Bool:=match (Ag x)[j]? with|some a=>(Fa l x i j).any (clash a)|none=>false
def Ih (l:List RItem)(i:Nat):Bool:=match l[i]? with|some x=>(List.range (Ag x).length).any (Sy l x i)|none=>false
def noO (l:List RItem)(i:Nat):Prop:=∀a,a<i->Ih l a=false
def Aa7 (l:List RItem)(x:RItem)(i j:Nat):Prop:=∀b,b<j->Sy l x i b=false
theorem K1 {l:List RItem}{x:RItem}{i j:Nat}{a:RAtom}(h:(Ag x)[j]?=some a):Fa l x i (j+1)=Fa l x i j++[a]:=by
 unfold Fa;rw[Abq,h,Ab4];rfl
theorem mD {l:List RItem}{x:RItem}{i:Nat}(h:l[i]?=some x):Fa l x i (Ag x).length=Fa l x (i+1) 0:=by
 unfold Fa Kg;rw[Abn,Abq,h,List.take_zero,Abv];simp
theorem RItem.fits.atoms {x:RItem}(h:x.fits):(Ag x).length<=1001:=by
 obtain⟨f1,f2,f3⟩:=h;unfold Ag;split<;>simp<;>omega
def D4 (l:List RItem)(i:Nat):Bool:=match l[i]? with|some x=>!H7 x|none=>false
def Ci (l:List RItem):Int×Int:=
 if 0<=Bm (Ih l) l.length then (3,Bm (Ih l) l.length)
 else if 0<=Bm (D4 l) l.length then (4,Bm (D4 l) l.length)
 else if 0<=Bm (Jt l) l.length then (5,Bm (Jt l) l.length)
 else (0,0)
abbrev two (p:Int×Int):AV:=tp [sc (.int .i64 p.1),sc (.int .i64 p.2)]
theorem O6 {p:Nat->Bool}{n:Nat}: -1<=Bm p n:=by
 unfold Bm;split<;>omega
def Ot:List UInt8->Bool
 |[]=>false
 |b::_=>(b.toNat:Int)==63
def Aas (t:List UInt8):RItem:={out:=true,head:={nt:=false,pred:=(t.drop 1).take (t.length-1),terms:=[]},body:=[]}
def qF (t:List UInt8):RItem:=
 {out:=false,head:=dT ((t.drop 0).take (Ex t 58-0)),body:=if Ex t 58<t.length then (Qg ((t.drop (Ex t 58+2)).take (t.length-(Ex t 58+2))) 44).map dT else []}
def cU (t:List UInt8):RItem:=if Ot t then Aas t else qF t
def Cj (s:List UInt8):List RItem:=(Qg s 46).map cU
def vK (t:List UInt8):Prop:=t.length<=1000/\t≠[]/\(Ot t=false->Ex t 58<t.length->Ex t 58+2<=t.length)
theorem Jn (c:Int):∀(s:List UInt8) (d:Bool) (cur:List UInt8),∀t∈B9 c s d cur,t.length<=cur.length+s.length
 |[],d,cur=>by
  unfold B9;split
  ·intro t ht;cases ht
  ·intro t ht;simp at ht;subst ht;simp
 |b::r,d,cur=>by
  unfold B9
  all_goals
   simp only[];generalize (if ((b.toNat:Int)==41)=true then false else _)=d2;split
   ·intro t ht;rcases Ace.1 ht with rfl|ht
    ·simp
    ·have:=Jn c r d2 [] t ht;simp at this⊢;omega
   ·intro t ht;have:=Jn c r d2 (cur++[b]) t ht;simp at this⊢;omega
theorem gZ {s:List UInt8}{c:Int}{t:List UInt8}(h:t∈Qg s c):t.length<=s.length:=by
 have:=Jn c s false [] t h;simpa using this
def sA (s:List UInt8):Prop:=(Qg s 46).length<=16/\∀t∈Qg s 46,vK t
def Au (s:List UInt8):Int×Int:=
 if 600<s.length then (1,0)else if 0<=Md s then (2,Md s)else Ci (Cj s)
end Go.Proofs.YtmoeoppbmhfbpabGreatDoorH
