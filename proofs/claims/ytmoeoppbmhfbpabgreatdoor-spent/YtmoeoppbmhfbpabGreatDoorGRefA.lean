import Derived.Test.YtmoeoppbmhfbpabGreatDoorGFacts
set_option maxRecDepth 100000
set_option linter.all false
namespace Go.Proofs.YtmoeoppbmhfbpabGreatDoorG
open Go.Abs
def Ba (c:Int):Bool:=decide (97<=c)&&decide (c<=122)
def A8 (c:Int):Bool:=decide (65<=c)&&decide (c<=90)
def Gb (c:Int):Bool:=decide (49<=c)&&decide (c<=57)
structure Eb where
 st:Int
 items:Int
 letters:Int
 digits:Int
 terms:Int
 lits:Int
 head:Bool
structure KeepX (o:Nat)(A A':St):Prop where
 nobj:A.nobj<=A'.nobj
 obj:∀p,p<A.nobj->p≠o->A'.obj p=A.obj p
 ver:∀p,p<A.nobj->p≠o->A'.ver p=A.ver p
 ntop:A.ntop<=A'.ntop
 top:∀k,k<A.ntop->A'.top k=A.top k
theorem KeepX.refl (o:Nat)(A:St):KeepX o A A:=⟨Adn _,fun _ _ _=>rfl,fun _ _ _=>rfl,Adn _,fun _ _=>rfl⟩
theorem KeepX.put {o:Nat}{A A':St}(h:KeepX o A A')(cs:List AV):KeepX o A (A'.put o cs):=
 ⟨h.nobj,fun p hp aa=>by simp[St.put,aa];exact h.obj p hp aa,fun p hp aa=>by simp[St.put,aa];exact h.ver p hp aa,h.ntop,h.top⟩
theorem KeepX.trans {o:Nat}{a b c:St}(h:KeepX o a b)(k:KeepX o b c):KeepX o a c:=
 ⟨Ado h.nobj k.nobj,fun p hp aa=>(k.obj p (Adp hp h.nobj) aa).trans (h.obj p hp aa),fun p hp aa=>(k.ver p (Adp hp h.nobj) aa).trans (h.ver p hp aa),
  Ado h.ntop k.ntop,fun j hj=>(k.top j (Adp hj h.ntop)).trans (h.top j hj)⟩
def E7 (X:Eb)(c:Int):Eb×Bool:=
 if (X.st==5)=true then
  if Ba c=true/\decide (X.letters<6)=true then ({X with letters:=X.letters+1},true)
  else if (c==40)=true then ({X with terms:=0,st:=6},true)else ({X with terms:=0},false)
 else if (X.st==6)=true then
  if Gb c=true then ({X with terms:=X.terms+1,digits:=1,st:=7},true)
  else if A8 c=true\/(c==48)=true then ({X with terms:=X.terms+1,digits:=1,st:=8},true)else ({X with terms:=X.terms+1,digits:=1},false)
 else if (X.st==7)=true/\decide (X.digits<3)=true/\(Gb c=true\/(c==48)=true)then ({X with digits:=X.digits+1},true)
 else if (c==41)=true then ({X with lits:=if (!X.head)=true then X.lits+1 else X.lits,st:=9},true)
 else if (c==44)=true/\decide (X.terms<3)=true then ({X with st:=6},true)else (X,false)
def C0 (X:Eb)(c:Int):Eb×Bool:=
 if (X.st==0)=true then
  if (X.items==16)=true then (X,false)
  else if (c==63)=true then ({X with head:=true,letters:=0,lits:=0,st:=1},true)
  else if Ba c=true then ({X with head:=true,letters:=1,lits:=0,st:=5},true)else ({X with head:=true,letters:=1,lits:=0},false)
 else if (X.st==1)=true\/(X.st==2)=true then
  if Ba c=true/\decide (X.letters<6)=true then ({X with letters:=X.letters+1,st:=2},true)
  else if (c==46)=true/\(X.st==2)=true then ({X with items:=X.items+1,st:=0},true)else (X,false)
 else if (X.st==3)=true\/(X.st==4)=true then
  if (c==33)=true/\(X.st==3)=true then ({X with letters:=1,st:=4},true)
  else if Ba c=true then ({X with letters:=1,st:=5},true)else ({X with letters:=1},false)
 else if (X.st==10)=true then
  if (c==45)=true then ({X with head:=false,st:=3},true)else ({X with head:=false},false)
 else if (c==46)=true then ({X with items:=X.items+1,st:=0},true)
 else if (c==58)=true/\X.head=true then ({X with st:=10},true)
 else if (c==44)=true/\(!X.head)=true/\decide (X.lits<5)=true then ({X with st:=3},true)else (X,false)
def Ff (l:List UInt8)(c:Int):Nat:=l.findIdx fun x=>(x.toNat:Int)==c
def Cc (c:Int):List UInt8->Bool->List UInt8->List (List UInt8)
 |[],_,cur=>if cur=[]then []else [cur]
 |b::r,deep,cur=>
  let d1:=if ((b.toNat:Int)==40)=true then true else deep
  let d2:=if ((b.toNat:Int)==41)=true then false else d1
  if ((b.toNat:Int)==c)=true/\d2=false then cur::Cc c r d2 []else Cc c r d2 (cur++[b])
def Ra (s:List UInt8)(c:Int):List (List UInt8):=Cc c s false []
structure RAtom where
 nt:Bool
 pred:List UInt8
 terms:List (List UInt8)
structure RItem where
 out:Bool
 head:RAtom
 body:List RAtom
def fH:List UInt8->Bool
 |[]=>false
 |b::_=>(b.toNat:Int)==33
def Sc (s:List UInt8):List UInt8:=if fH s then (s.drop 1).take (s.length-1)else s
def vY (nt:Bool)(s:List UInt8):RAtom:=
 {nt:=nt,pred:=(s.drop 0).take (Ff s 40-0),terms:=if Ff s 40+1<s.length then Ra ((s.drop (Ff s 40+1)).take (s.length-1-(Ff s 40+1))) 44 else []}
def fN (s:List UInt8):RAtom:=vY (fH s) (Sc s)
theorem any_take_succ {α:Type}{l:List α}{k:Nat}{a:α}(p:α->Bool)(h:l[k]?=some a):(l.take (k+1)).any p=((l.take k).any p||p a):=by
 rw[Ad3,h];simp
theorem Rv {α:Type}{l:List α}{k:Nat}{a:α}(p:α->Bool)(h:l[k]?=some a)(hp:p a=true):l.any p=true:=
 Aeo.2 ⟨a,Adt h,hp⟩
def Ad:List UInt8->Bool
 |[]=>false
 |b::_=>A8 b.toNat
def Ae (x:RItem):List RAtom:=(if x.out=true then []else [x.head])++x.body
def P8 (x:RItem)(t:List UInt8):Bool:=x.body.any fun a=>a.terms.any fun u=>!a.nt&&u==t
theorem En {l:List (List UInt8)}{k:Nat}(h:k<l.length):(l.map str).drop k=str l[k]::(l.map str).drop (k+1):=by
 rw[Aep (by simpa using h)];simp
def vP (x:RItem)(t:List UInt8):Bool:=Ad t&&!P8 x t
def zL (x:RItem)(a:RAtom):Bool:=a.terms.any (vP x)
def Fa (x:RItem):Bool:=!(Ae x).any (zL x)
def RItem.fits (x:RItem):Prop:=x.body.length<=1000/\x.head.terms.length<=1000/\∀a∈x.body,a.terms.length<=1000
def cM:Eb:=⟨0,0,0,0,0,0,false⟩
def Be (X:Eb)(c:UInt8):Eb×Bool:=
 if decide (5<=X.st)=true/\decide (X.st<=8)=true then E7 X c.toNat else C0 X c.toNat
def gZ:Eb->List UInt8->Nat->Eb×Option Nat
 |X,[],_=>(X,none)
 |X,c::r,i=>if (Be X c).2=true then gZ (Be X c).1 r (i+1)else ((Be X c).1,some i)
def Nb (s:List UInt8):Int:=
 match (gZ cM s 0).2 with
 |some i=>i
 |none=>if (gZ cM s 0).1.st !=0 then s.length else -1
def set2 (M:Nat->Nat->Bool)(i k:Nat)(v:Bool):Nat->Nat->Bool:=fun a b=>if a=i/\b=k then v else M a b
def Ul (l:List RItem)(i k:Nat):Bool:=
 match l[i]?,l[k]? with
 |some x,some y=>!y.out&&x.body.any fun a=>a.pred==y.head.pred
 |_,_=>false
theorem L4 {l xs:List AV}(h:xs.length=l.length):lsp l 0 xs=xs:=by
 rw[Gg _ _ _ Agm,Aed,h,List.drop_length];simp
def fw (M:Nat->Nat->Bool)(m:Nat):Nat->Nat->Bool:=fun i k=>M i k||(M i m&&M m k)
def fwN (n:Nat)(M:Nat->Nat->Bool)(m:Nat):Nat->Nat->Bool:=fun i k=>if i<n/\k<n then fw M m i k else M i k
def Ea (n:Nat)(M:Nat->Nat->Bool):Nat->Nat->Nat->Bool
 |0=>M
 |m+1=>fwN n (Ea n M m) m
def part (n:Nat)(M:Nat->Nat->Bool)(m i k:Nat)(W:Nat->Nat->Bool):Prop:=∀a b,W a b=if (a<i/\b<n)\/(a=i/\b<k)then fw M m a b else M a b
def Aa0 (l:List RItem):Nat->Nat->Bool:=Ea l.length (fun a b=>if a<l.length/\b<l.length then Ul l a b else false) l.length
theorem dK {n:Nat}{M W:Nat->Nat->Bool}{m i k:Nat}(h:part n M m i k W)(hk:k<n)(hm:m<n):W i k=M i k/\W i m=M i m/\W m k=M m k:=by
 refine⟨?_,?_,?_⟩
 ·rw[h,if_neg Agm]
 ·rw[h];split
  ·unfold fw;cases M i m<;>simp
  ·rfl
 ·rw[h];split
  ·unfold fw;cases M m k<;>simp
  ·rfl
theorem tD {n:Nat}{M W:Nat->Nat->Bool}{m i k:Nat}(h:part n M m i k W){v:Bool}(hv:v=fw M m i k):part n M m i (k+1) (set2 W i k v):=by
 intro a b;unfold set2;by_cases aa:a=i/\b=k
 ·obtain⟨rfl,rfl⟩:=aa;rw[if_pos ⟨rfl,rfl⟩,if_pos Agm];exact hv
 ·rw[if_neg aa,h];by_cases hc:(a<i/\b<n)\/(a=i/\b<k)
  ·rw[if_pos hc,if_pos Agm]
  ·rw[if_neg hc,if_neg Agm]
theorem tE {n:Nat}{M W:Nat->Nat->Bool}{m i:Nat}(h:part n M m i n W):part n M m (i+1) 0 W:=by
 intro a b;rw[h];by_cases hc:(a<i/\b<n)\/(a=i/\b<n)
 ·rw[if_pos hc,if_pos Agm]
 ·rw[if_neg hc,if_neg Agm]
theorem oO {n:Nat}{M:Nat->Nat->Bool}{m:Nat}:part n M m 0 0 M:=by intro a b;rw[if_neg Agm]
theorem tF {n:Nat}{M W:Nat->Nat->Bool}{m:Nat}(h:part n M m n 0 W):W=fwN n M m:=by
 funext a b;rw[h];unfold fwN;by_cases hc:a<n/\b<n
 ·rw[if_pos Agm,if_pos hc]
 ·rw[if_neg Agm,if_neg hc]
def Zl (l:List RItem)(i:Nat):List UInt8:=match l[i]? with|some x=>x.head.pred|none=>[]
def Abv (l:List RItem)(p q:List UInt8)(i k:Nat):Bool:=Aa0 l i k&&Zl l i==p&&Zl l k==q
def kS (l:List RItem)(p q:List UInt8):Bool:=(List.range l.length).any fun i=>(List.range l.length).any fun k=>Abv l p q i k
def Bn (p:Nat->Bool)(n:Nat):Int:=match (List.range n).find? p with|some i=>(i:Int)|none=> -1
theorem J5 {p:Nat->Bool}{n i:Nat}(hi:i<n)(hp:p i=true)(hn:∀a,a<i->p a=false):Bn p n=i:=by
 unfold Bn;have:(List.range n).find? p=some i:=by
  rw[List.find?_range_eq_some];exact⟨hp,by simpa using hi,fun a ha=>by simp[hn a ha]⟩
 rw[this]
theorem Cq {p:Nat->Bool}{n:Nat}(hn:∀a,a<n->p a=false):Bn p n= -1:=by
 unfold Bn;have:(List.range n).find? p=none:=by
  rw[List.find?_eq_none];intro a ha;simp[hn a (by simpa using ha)]
 rw[this]
def Ab2 (l:List RItem)(h:List UInt8)(a:RAtom):Bool:=a.nt&&(a.pred==h||kS l a.pred h)
def Kg (l:List RItem)(i:Nat):Bool:=match l[i]? with|some x=>x.body.any (Ab2 l x.head.pred)|none=>false
def clash (a b:RAtom):Bool:=b.pred==a.pred&&decide (b.terms.length≠a.terms.length)
def K6 (l:List RItem)(i:Nat):List RAtom:=(l.take i).flatMap Ae
def E9 (l:List RItem)(x:RItem)(i j:Nat):List RAtom:=K6 l i++(Ae x).take j
def Qn (l:List RItem)(x:RItem)(i j:Nat):Bool:=match (Ae x)[j]? with|some a=>(E9 l x i j).any (clash a)|none=>false
def Hz (l:List RItem)(i:Nat):Bool:=match l[i]? with|some x=>(List.range (Ae x).length).any (Qn l x i)|none=>false
def noO (l:List RItem)(i:Nat):Prop:=∀a,a<i->Hz l a=false
def Adi (l:List RItem)(x:RItem)(i j:Nat):Prop:=∀b,b<j->Qn l x i b=false
theorem Lu {l:List RItem}{x:RItem}{i j:Nat}{a:RAtom}(h:(Ae x)[j]?=some a):E9 l x i (j+1)=E9 l x i j++[a]:=by
 unfold E9;rw[Ad3,h,Aeg];rfl
theorem oC {l:List RItem}{x:RItem}{i:Nat}(h:l[i]?=some x):E9 l x i (Ae x).length=E9 l x (i+1) 0:=by
 unfold E9 K6;rw[Adz,Ad3,h,List.take_zero,Ad7];simp
theorem RItem.fits.atoms {x:RItem}(h:x.fits):(Ae x).length<=1001:=by
 obtain⟨f1,f2,f3⟩:=h;unfold Ae;split<;>simp<;>omega
def Ec (l:List RItem)(i:Nat):Bool:=match l[i]? with|some x=>!Fa x|none=>false
def Cd (l:List RItem):Int×Int:=
 if 0<=Bn (Hz l) l.length then (3,Bn (Hz l) l.length)
 else if 0<=Bn (Ec l) l.length then (4,Bn (Ec l) l.length)
 else if 0<=Bn (Kg l) l.length then (5,Bn (Kg l) l.length)
 else (0,0)
abbrev two (p:Int×Int):AV:=tp [sc (.int .i64 p.1),sc (.int .i64 p.2)]
theorem P4 {p:Nat->Bool}{n:Nat}: -1<=Bn p n:=by
 unfold Bn;split<;>omega
def Pu:List UInt8->Bool
 |[]=>false
 |b::_=>(b.toNat:Int)==63
def Ac1 (t:List UInt8):RItem:={out:=true,head:={nt:=false,pred:=(t.drop 1).take (t.length-1),terms:=[]},body:=[]}
def sM (t:List UInt8):RItem:=
 {out:=false,head:=fN ((t.drop 0).take (Ff t 58-0)),body:=if Ff t 58<t.length then (Ra ((t.drop (Ff t 58+2)).take (t.length-(Ff t 58+2))) 44).map fN else []}
def eM (t:List UInt8):RItem:=if Pu t then Ac1 t else sM t
def Cp (s:List UInt8):List RItem:=(Ra s 46).map eM
def yH (t:List UInt8):Prop:=t.length<=1000/\t≠[]/\(Pu t=false->Ff t 58<t.length->Ff t 58+2<=t.length)
theorem J8 (c:Int):∀(s:List UInt8) (d:Bool) (cur:List UInt8),∀t∈Cc c s d cur,t.length<=cur.length+s.length
 |[],d,cur=>by
  unfold Cc;split
  ·intro t ht;cases ht
  ·intro t ht;simp at ht;subst ht;simp
 |b::r,d,cur=>by
  unfold Cc
  all_goals
   simp only[];generalize (if ((b.toNat:Int)==41)=true then false else _)=d2;split
   ·intro t ht;rcases Aeq.1 ht with rfl|ht
    ·simp
    ·have:=J8 c r d2 [] t ht;simp at this⊢;omega
   ·intro t ht;have:=J8 c r d2 (cur++[b]) t ht;simp at this⊢;omega
theorem jT {s:List UInt8}{c:Int}{t:List UInt8}(h:t∈Ra s c):t.length<=s.length:=by
 have:=J8 c s false [] t h;simpa using this
def uO (s:List UInt8):Prop:=(Ra s 46).length<=16/\∀t∈Ra s 46,yH t
def Ax (s:List UInt8):Int×Int:=
 if 600<s.length then (1,0)else if 0<=Nb s then (2,Nb s)else Cd (Cp s)
end Go.Proofs.YtmoeoppbmhfbpabGreatDoorG
