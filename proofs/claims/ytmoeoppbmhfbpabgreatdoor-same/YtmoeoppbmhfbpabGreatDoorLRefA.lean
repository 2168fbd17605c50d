import Derived.Test.YtmoeoppbmhfbpabGreatDoorLFacts
set_option maxRecDepth 100000
set_option linter.all false
namespace Go.Proofs.YtmoeoppbmhfbpabGreatDoorL
open Go.Abs
def Bq (c:Int):Bool:=decide (97<=c)&&decide (c<=122)
def Bm (c:Int):Bool:=decide (65<=c)&&decide (c<=90)
def Gz (c:Int):Bool:=decide (49<=c)&&decide (c<=57)
structure Ej where
 st:Int
 items:Int
 letters:Int
 digits:Int
 terms:Int
 lits:Int
 head:Bool
structure KeepX (o:Nat)(A A':St):Prop where
 nobj:A.nobj<=A'.nobj
 obj:∀p,p<A.nobj->p≠o->A'.obj p=A.obj p
 ver:∀p,p<A.nobj->p≠o->A'.ver p=A.ver p
 ntop:A.ntop<=A'.ntop
 top:∀k,k<A.ntop->A'.top k=A.top k
theorem KeepX.refl (o:Nat)(A:St):KeepX o A A:=⟨Agi _,fun _ _ _=>rfl,fun _ _ _=>rfl,Agi _,fun _ _=>rfl⟩
theorem KeepX.put {o:Nat}{A A':St}(h:KeepX o A A')(cs:List AV):KeepX o A (A'.put o cs):=
 ⟨h.nobj,fun p hp aa=>by simp[St.put,aa];exact h.obj p hp aa,fun p hp aa=>by simp[St.put,aa];exact h.ver p hp aa,h.ntop,h.top⟩
theorem KeepX.trans {o:Nat}{a b c:St}(h:KeepX o a b)(k:KeepX o b c):KeepX o a c:=
 ⟨Agj h.nobj k.nobj,fun p hp aa=>(k.obj p (Agk hp h.nobj) aa).trans (h.obj p hp aa),fun p hp aa=>(k.ver p (Agk hp h.nobj) aa).trans (h.ver p hp aa),
  Agj h.ntop k.ntop,fun j hj=>(k.top j (Agk hj h.ntop)).trans (h.top j hj)⟩
def Fh (X:Ej)(c:Int):Ej×Bool:=
 if (X.st==5)=true then
  if Bq c=true/\decide (X.letters<6)=true then ({X with letters:=X.letters+1},true)
  else if (c==40)=true then ({X with terms:=0,st:=6},true)else ({X with terms:=0},false)
 else if (X.st==6)=true then
  if Gz c=true then ({X with terms:=X.terms+1,digits:=1,st:=7},true)
  else if Bm c=true\/(c==48)=true then ({X with terms:=X.terms+1,digits:=1,st:=8},true)else ({X with terms:=X.terms+1,digits:=1},false)
 else if (X.st==7)=true/\decide (X.digits<3)=true/\(Gz c=true\/(c==48)=true)then ({X with digits:=X.digits+1},true)
 else if (c==41)=true then ({X with lits:=if (!X.head)=true then X.lits+1 else X.lits,st:=9},true)
 else if (c==44)=true/\decide (X.terms<3)=true then ({X with st:=6},true)else (X,false)
def C7 (X:Ej)(c:Int):Ej×Bool:=
 if (X.st==0)=true then
  if (X.items==16)=true then (X,false)
  else if (c==63)=true then ({X with head:=true,letters:=0,lits:=0,st:=1},true)
  else if Bq c=true then ({X with head:=true,letters:=1,lits:=0,st:=5},true)else ({X with head:=true,letters:=1,lits:=0},false)
 else if (X.st==1)=true\/(X.st==2)=true then
  if Bq c=true/\decide (X.letters<6)=true then ({X with letters:=X.letters+1,st:=2},true)
  else if (c==46)=true/\(X.st==2)=true then ({X with items:=X.items+1,st:=0},true)else (X,false)
 else if (X.st==3)=true\/(X.st==4)=true then
  if (c==33)=true/\(X.st==3)=true then ({X with letters:=1,st:=4},true)
  else if Bq c=true then ({X with letters:=1,st:=5},true)else ({X with letters:=1},false)
 else if (X.st==10)=true then
  if (c==45)=true then ({X with head:=false,st:=3},true)else ({X with head:=false},false)
 else if (c==46)=true then ({X with items:=X.items+1,st:=0},true)
 else if (c==58)=true/\X.head=true then ({X with st:=10},true)
 else if (c==44)=true/\(!X.head)=true/\decide (X.lits<5)=true then ({X with st:=3},true)else (X,false)
def Fq (l:List UInt8)(c:Int):Nat:=l.findIdx fun x=>(x.toNat:Int)==c
def Cd (c:Int):List UInt8->Bool->List UInt8->List (List UInt8)
 |[],_,cur=>if cur=[]then []else [cur]
 |b::r,deep,cur=>
  let d1:=if ((b.toNat:Int)==40)=true then true else deep
  let d2:=if ((b.toNat:Int)==41)=true then false else d1
  if ((b.toNat:Int)==c)=true/\d2=false then cur::Cd c r d2 []else Cd c r d2 (cur++[b])
def Sq (s:List UInt8)(c:Int):List (List UInt8):=Cd c s false []
structure RAtom where
 nt:Bool
 pred:List UInt8
 terms:List (List UInt8)
structure RItem where
 out:Bool
 head:RAtom
 body:List RAtom
def jE:List UInt8->Bool
 |[]=>false
 |b::_=>(b.toNat:Int)==33
def To (s:List UInt8):List UInt8:=if jE s then (s.drop 1).take (s.length-1)else s
def zV (nt:Bool)(s:List UInt8):RAtom:=
 {nt:=nt,pred:=(s.drop 0).take (Fq s 40-0),terms:=if Fq s 40+1<s.length then Sq ((s.drop (Fq s 40+1)).take (s.length-1-(Fq s 40+1))) 44 else []}
def jL (s:List UInt8):RAtom:=zV (jE s) (To s)
theorem any_take_succ {α:Type}{l:List α}{k:Nat}{a:α}(p:α->Bool)(h:l[k]?=some a):(l.take (k+1)).any p=((l.take k).any p||p a):=by
 rw[Agz,h];simp
theorem S7 {α:Type}{l:List α}{k:Nat}{a:α}(p:α->Bool)(h:l[k]?=some a)(hp:p a=true):l.any p=true:=
 Ahk.2 ⟨a,Agp h,hp⟩
def Ad:List UInt8->Bool
 |[]=>false
 |b::_=>Bm b.toNat
def Ae (x:RItem):List RAtom:=(if x.out=true then []else [x.head])++x.body
def Me (x:RItem)(t:List UInt8):Bool:=x.body.any fun a=>a.terms.any fun u=>!a.nt&&u==t
theorem E0 {l:List (List UInt8)}{k:Nat}(h:k<l.length):(l.map str).drop k=str l[k]::(l.map str).drop (k+1):=by
 rw[Ahl (by simpa using h)];simp
def tP (x:RItem)(t:List UInt8):Bool:=Ad t&&!Me x t
def zM (x:RItem)(a:RAtom):Bool:=a.terms.any (tP x)
def F7 (x:RItem):Bool:=!(Ae x).any (zM x)
def RItem.fits (x:RItem):Prop:=x.body.length<=1000/\x.head.terms.length<=1000/\∀a∈x.body,a.terms.length<=1000
def fD:Ej:=⟨0,0,0,0,0,0,false⟩
def Ba (X:Ej)(c:UInt8):Ej×Bool:=
 if decide (5<=X.st)=true/\decide (X.st<=8)=true then Fh X c.toNat else C7 X c.toNat
def lD:Ej->List UInt8->Nat->Ej×Option Nat
 |X,[],_=>(X,none)
 |X,c::r,i=>if (Ba X c).2=true then lD (Ba X c).1 r (i+1)else ((Ba X c).1,some i)
def N5 (s:List UInt8):Int:=
 match (lD fD s 0).2 with
 |some i=>i
 |none=>if (lD fD s 0).1.st !=0 then s.length else -1
def set2 (M:Nat->Nat->Bool)(i k:Nat)(v:Bool):Nat->Nat->Bool:=fun a b=>if a=i/\b=k then v else M a b
def Sp (l:List RItem)(i k:Nat):Bool:=
 match l[i]?,l[k]? with
 |some x,some y=>!y.out&&x.body.any fun a=>a.pred==y.head.pred
 |_,_=>false
theorem Mz {l xs:List AV}(h:xs.length=l.length):lsp l 0 xs=xs:=by
 rw[Gl _ _ _ Ajm,Ag9,h,List.drop_length];simp
def fw (M:Nat->Nat->Bool)(m:Nat):Nat->Nat->Bool:=fun i k=>M i k||(M i m&&M m k)
def fwN (n:Nat)(M:Nat->Nat->Bool)(m:Nat):Nat->Nat->Bool:=fun i k=>if i<n/\k<n then fw M m i k else M i k
def F9 (n:Nat)(M:Nat->Nat->Bool):Nat->Nat->Nat->Bool
 |0=>M
 |m+1=>fwN n (F9 n M m) m
def part (n:Nat)(M:Nat->Nat->Bool)(m i k:Nat)(W:Nat->Nat->Bool):Prop:=∀a b,W a b=if (a<i/\b<n)\/(a=i/\b<k)then fw M m a b else M a b
def Aaw (l:List RItem):Nat->Nat->Bool:=F9 l.length (fun a b=>if a<l.length/\b<l.length then Sp l a b else false) l.length
theorem gC {n:Nat}{M W:Nat->Nat->Bool}{m i k:Nat}(h:part n M m i k W)(hk:k<n)(hm:m<n):W i k=M i k/\W i m=M i m/\W m k=M m k:=by
 refine⟨?_,?_,?_⟩
 ·rw[h,if_neg Ajm]
 ·rw[h];split
  ·unfold fw;cases M i m<;>simp
  ·rfl
 ·rw[h];split
  ·unfold fw;cases M m k<;>simp
  ·rfl
theorem wZ {n:Nat}{M W:Nat->Nat->Bool}{m i k:Nat}(h:part n M m i k W){v:Bool}(hv:v=fw M m i k):part n M m i (k+1) (set2 W i k v):=by
 intro a b;unfold set2;by_cases aa:a=i/\b=k
 ·obtain⟨rfl,rfl⟩:=aa;rw[if_pos ⟨rfl,rfl⟩,if_pos Ajm];exact hv
 ·rw[if_neg aa,h];by_cases hc:(a<i/\b<n)\/(a=i/\b<k)
  ·rw[if_pos hc,if_pos Ajm]
  ·rw[if_neg hc,if_neg Ajm]
theorem xA {n:Nat}{M W:Nat->Nat->Bool}{m i:Nat}(h:part n M m i n W):part n M m (i+1) 0 W:=by
 intro a b;rw[h];by_cases hc:(a<i/\b<n)\/(a=i/\b<n)
 ·rw[if_pos hc,if_pos Ajm]
 ·rw[if_neg hc,if_neg Ajm]
theorem rY {n:Nat}{M:Nat->Nat->Bool}{m:Nat}:part n M m 0 0 M:=by intro a b;rw[if_neg Ajm]
theorem xB {n:Nat}{M W:Nat->Nat->Bool}{m:Nat}(h:part n M m n 0 W):W=fwN n M m:=by
 funext a b;rw[h];unfold fwN;by_cases hc:a<n/\b<n
 ·rw[if_pos Ajm,if_pos hc]
 ·rw[if_neg Ajm,if_neg hc]
def cC (l:List RItem)(i:Nat):List UInt8:=match l[i]? with|some x=>x.head.pred|none=>[]
def Aem (l:List RItem)(p q:List UInt8)(i k:Nat):Bool:=Aaw l i k&&cC l i==p&&cC l k==q
def oE (l:List RItem)(p q:List UInt8):Bool:=(List.range l.length).any fun i=>(List.range l.length).any fun k=>Aem l p q i k
def Bj (p:Nat->Bool)(n:Nat):Int:=match (List.range n).find? p with|some i=>(i:Int)|none=> -1
theorem Kw {p:Nat->Bool}{n i:Nat}(hi:i<n)(hp:p i=true)(hn:∀a,a<i->p a=false):Bj p n=i:=by
 unfold Bj;have:(List.range n).find? p=some i:=by
  rw[List.find?_range_eq_some];exact⟨hp,by simpa using hi,fun a ha=>by simp[hn a ha]⟩
 rw[this]
theorem Cv {p:Nat->Bool}{n:Nat}(hn:∀a,a<n->p a=false):Bj p n= -1:=by
 unfold Bj;have:(List.range n).find? p=none:=by
  rw[List.find?_eq_none];intro a ha;simp[hn a (by simpa using ha)]
 rw[this]
def Acw (l:List RItem)(h:List UInt8)(a:RAtom):Bool:=a.nt&&(a.pred==h||oE l a.pred h)
def G1 (l:List RItem)(i:Nat):Bool:=match l[i]? with|some x=>x.body.any (Acw l x.head.pred)|none=>false
def clash (a b:RAtom):Bool:=b.pred==a.pred&&decide (b.terms.length≠a.terms.length)
def Dk (l:List RItem)(i:Nat):List RAtom:=(l.take i).flatMap Ae
def Dg (l:List RItem)(x:RItem)(i j:Nat):List RAtom:=Dk l i++(Ae x).take j
def Rp (l:List RItem)(x:RItem)(i j:Nat):Bool:=match (Ae x)[j]? with|some a=>(Dg l x i j).any (clash a)|none=>false
def H6 (l:List RItem)(i:Nat):Bool:=match l[i]? with|some x=>(List.range (Ae x).length).any (Rp l x i)|none=>false
def noO (l:List RItem)(i:Nat):Prop:=∀a,a<i->H6 l a=false
def Agc (l:List RItem)(x:RItem)(i j:Nat):Prop:=∀b,b<j->Rp l x i b=false
theorem Ih {l:List RItem}{x:RItem}{i j:Nat}{a:RAtom}(h:(Ae x)[j]?=some a):Dg l x i (j+1)=Dg l x i j++[a]:=by
 unfold Dg;rw[Agz,h,Ahc];rfl
theorem rN {l:List RItem}{x:RItem}{i:Nat}(h:l[i]?=some x):Dg l x i (Ae x).length=Dg l x (i+1) 0:=by
 unfold Dg Dk;rw[Agw,Agz,h,List.take_zero,Ag3];simp
theorem RItem.fits.atoms {x:RItem}(h:x.fits):(Ae x).length<=1001:=by
 obtain⟨f1,f2,f3⟩:=h;unfold Ae;split<;>simp<;>omega
def Ea (l:List RItem)(i:Nat):Bool:=match l[i]? with|some x=>!F7 x|none=>false
def Ce (l:List RItem):Int×Int:=
 if 0<=Bj (H6 l) l.length then (3,Bj (H6 l) l.length)
 else if 0<=Bj (Ea l) l.length then (4,Bj (Ea l) l.length)
 else if 0<=Bj (G1 l) l.length then (5,Bj (G1 l) l.length)
 else (0,0)
abbrev two (p:Int×Int):AV:=tp [sc (.int .i64 p.1),sc (.int .i64 p.2)]
theorem Q4 {p:Nat->Bool}{n:Nat}: -1<=Bj p n:=by
 unfold Bj;split<;>omega
def Qt:List UInt8->Bool
 |[]=>false
 |b::_=>(b.toNat:Int)==63
def Afr (t:List UInt8):RItem:={out:=true,head:={nt:=false,pred:=(t.drop 1).take (t.length-1),terms:=[]},body:=[]}
def wH (t:List UInt8):RItem:=
 {out:=false,head:=jL ((t.drop 0).take (Fq t 58-0)),body:=if Fq t 58<t.length then (Sq ((t.drop (Fq t 58+2)).take (t.length-(Fq t 58+2))) 44).map jL else []}
def iK (t:List UInt8):RItem:=if Qt t then Afr t else wH t
def Cw (s:List UInt8):List RItem:=(Sq s 46).map iK
def Abv (t:List UInt8):Prop:=t.length<=1000/\t≠[]/\(Qt t=false->Fq t 58<t.length->Fq t 58+2<=t.length)
theorem K2 (c:Int):∀(s:List UInt8) (d:Bool) (cur:List UInt8),∀t∈Cd c s d cur,t.length<=cur.length+s.length
 |[],d,cur=>by
  unfold Cd;split
  ·intro t ht;cases ht
  ·intro t ht;simp at ht;subst ht;simp
 |b::r,d,cur=>by
  unfold Cd
  all_goals
   simp only[];generalize (if ((b.toNat:Int)==41)=true then false else _)=d2;split
   ·intro t ht;rcases Ahm.1 ht with rfl|ht
    ·simp
    ·have:=K2 c r d2 [] t ht;simp at this⊢;omega
   ·intro t ht;have:=K2 c r d2 (cur++[b]) t ht;simp at this⊢;omega
theorem nD {s:List UInt8}{c:Int}{t:List UInt8}(h:t∈Sq s c):t.length<=s.length:=by
 have:=K2 c s false [] t h;simpa using this
def yL (s:List UInt8):Prop:=(Sq s 46).length<=16/\∀t∈Sq s 46,Abv t
def Av (s:List UInt8):Int×Int:=
 if 600<s.length then (1,0)else if 0<=N5 s then (2,N5 s)else Ce (Cw s)
abbrev Tx:=List UInt8
inductive Rd (α:Type) where
 |bad (e:Tx)
 |got (x:α) (r:Tx)
def Rd.bnd {α β:Type}:Rd α->(α->Tx->Rd β)->Rd β
 |.bad e,_=>.bad e
 |.got x r,f=>f x r
def A0 (c:Int):Bool:=decide (48<=c)&&decide (c<=57)
def Az (c:Int):Tx->Rd Unit
 |[]=>.bad []
 |b::r=>if ((b.toNat:Int)==c)=true then .got () r else .bad (b::r)
def Ax (p:Int->Bool):Nat->Tx->Tx×Tx
 |0,s=>([],s)
 |_+1,[]=>([],[])
 |n+1,b::r=>if p b.toNat=true then (b::(Ax p n r).1,(Ax p n r).2)else ([],b::r)
def Em (s:Tx):Rd Tx:=if (Ax Bq 6 s).1=[]then .bad s else .got (Ax Bq 6 s).1 (Ax Bq 6 s).2
def Cj:Tx->Rd Tx
 |[]=>.bad []
 |b::r=>if Bm b.toNat=true then .got [b] r else if ((b.toNat:Int)==48)=true then .got [b] r
  else if Gz b.toNat=true then .got (b::(Ax A0 2 r).1) (Ax A0 2 r).2 else .bad (b::r)
def Dv {α:Type}(f:Tx->Rd α):Nat->Tx->Rd (List α)
 |0,s=>.got [] s
 |_+1,[]=>.got [] []
 |n+1,b::r=>if ((b.toNat:Int)==44)=true then
  (f r).bnd fun x r1=>(Dv f n r1).bnd fun xs r2=>.got (x::xs) r2
  else .got [] (b::r)
def U7 (nt:Bool)(p:Tx)(s:Tx):Rd RAtom:=
 (Cj s).bnd fun t r=>(Dv Cj 2 r).bnd fun ts r=>(Az 41 r).bnd fun _ r=>.got {nt:=nt,pred:=p,terms:=t::ts} r
def Da (nt:Bool)(s:Tx):Rd RAtom:=
 (Em s).bnd fun p r=>(Az 40 r).bnd fun _ r=>U7 nt p r
def J3:Tx->Rd RAtom
 |[]=>.bad []
 |b::r=>if ((b.toNat:Int)==33)=true then Da true r else Da false (b::r)
def Ro (h:RAtom)(s:Tx):Rd RItem:=
 (J3 s).bnd fun l r=>(Dv J3 4 r).bnd fun ls r=>(Az 46 r).bnd fun _ r=>.got {out:=false,head:=h,body:=l::ls} r
def Nq (h:RAtom):Tx->Rd RItem
 |[]=>.bad []
 |b::r=>if ((b.toNat:Int)==46)=true then .got {out:=false,head:=h,body:=[]} r else
  (Az 58 (b::r)).bnd fun _ r=>(Az 45 r).bnd fun _ r=>Ro h r
def Nr (s:Tx):Rd RItem:=(Da false s).bnd fun h r=>Nq h r
def bL (s:Tx):Rd RItem:=
 (Em s).bnd fun p r=>(Az 46 r).bnd fun _ r=>.got {out:=true,head:={nt:=false,pred:=p,terms:=[]},body:=[]} r
def Ff:Tx->Rd RItem
 |[]=>.bad []
 |b::r=>if ((b.toNat:Int)==63)=true then bL r else Nr (b::r)
def Br:Nat->Tx->Rd (List RItem)
 |_,[]=>.got [] []
 |0,s=>.bad s
 |n+1,s=>(Ff s).bnd fun x r=>(Br n r).bnd fun xs r=>.got (x::xs) r
def stop:Ej->Tx->Option Tx
 |X,[]=>if X.st !=0 then some []else none
 |X,c::r=>if (Ba X c).2=true then stop (Ba X c).1 r else some (c::r)
theorem rP:∀(s:Tx) (X:Ej) (i:Nat),
  (match (lD X s i).2 with|some j=>(j:Int)|none=>if (lD X s i).1.st !=0 then ((i+s.length:Nat):Int)else -1)=match stop X s with|some r=>((i+s.length-r.length:Nat):Int)|none=> -1:=by
 intro s;induction s with
 |nil=>intro X i;simp only[lD,stop];split<;>simp_all
 |cons c r ih=>
  intro X i;unfold lD stop;by_cases h:(Ba X c).2=true
  ·simp only[h,if_true];have:=ih (Ba X c).1 (i+1);rw[show i+(c::r).length=i+1+r.length by simp;omega];exact this
  ·simp only[h];simp
theorem fY (s:Tx):N5 s=match stop fD s with|some r=>((s.length-r.length:Nat):Int)|none=> -1:=by
 have:=rP s fD 0;unfold N5;rw[Ag9]at this;rw[<-this];rfl
def Via {α:Type}(P:Ej->Prop)(res:Rd α)(o:Option Tx):Prop:=
 match res with
 |.bad e=>o=some e
 |.got _ r=>∃X',P X'/\o=stop X' r
theorem Via.bind {α β:Type}{P Q:Ej->Prop}{res:Rd α}{o:Option Tx}{f:α->Tx->Rd β}(h:Via P res o)(k:∀x r X',P X'->Via Q (f x r) (stop X' r)):Via Q (res.bnd f) o:=by
 cases res with
 |bad e=>exact h
 |got x r=>
  obtain⟨X',hP,rfl⟩:=h;exact k x r X' hP
theorem Via.ret {α:Type}{P:Ej->Prop}{x:α}{r:Tx}{X:Ej}(h:P X):Via P (.got x r) (stop X r):=⟨X,h,rfl⟩
theorem Via.err {α:Type}{P:Ej->Prop}{e:Tx}{o:Option Tx}(h:o=some e):Via (α:=α) P (.bad e) o:=h
theorem C1 {X:Ej}{c:UInt8}{r:Tx}(h:(Ba X c).2=true):stop X (c::r)=stop (Ba X c).1 r:=by
 rw[stop,if_pos h]
theorem Fy {X:Ej}{c:UInt8}{r:Tx}(h:(Ba X c).2=false):stop X (c::r)=some (c::r):=by
 rw[stop,if_neg (by simp[h])]
theorem C9 {X:Ej}(h:X.st≠0):stop X []=some []:=by
 rw[stop,if_pos (by simpa using h)]
def wD (X X':Ej):Prop:=X'.items=X.items/\X'.lits=X.lits/\X'.head=X.head
theorem uN:∀(n:Nat) (s:Tx) (X:Ej),X.st=5->X.letters=6-(n:Int)->n<=6->
  Via (fun X'=>X'.st=6/\X'.terms=0/\wD X X') (Az 40 (Ax Bq n s).2) (stop X s):=by
 intro n;induction n with
 |zero=>
  intro s X h5 hl hn;cases s with
  |nil=>exact Via.err (C9 Ajm)
  |cons b r=>
   unfold Ax Az;simp only;by_cases hb:((b.toNat:Int)==40)=true
   ·rw[if_pos hb];have e:Ba X b=({X with terms:=0,st:=6},true):=by
     simp[Ba,Fh,h5,hl,hb]
    rw[C1 (by rw[e]),e];exact Via.ret ⟨rfl,rfl,rfl,rfl,rfl⟩
   ·rw[if_neg hb];refine Via.err (Fy ?_);simp[Ba,Fh,h5,hl,hb]
 |succ n ih=>
  intro s X h5 hl hn;cases s with
  |nil=>exact Via.err (C9 Ajm)
  |cons b r=>
   unfold Ax;by_cases hs:Bq b.toNat=true
   ·rw[if_pos hs];have e:Ba X b=({X with letters:=X.letters+1},true):=by
     simp[Ba,Fh,h5,hs];omega
    rw[C1 (by rw[e]),e];exact ih r {X with letters:=X.letters+1} h5 (by simp;omega) Ajm
   ·rw[if_neg hs];unfold Az;simp only;by_cases hb:((b.toNat:Int)==40)=true
    ·rw[if_pos hb];have e:Ba X b=({X with terms:=0,st:=6},true):=by
      simp[Ba,Fh,h5,hs,hb]
     rw[C1 (by rw[e]),e];exact Via.ret ⟨rfl,rfl,rfl,rfl,rfl⟩
    ·rw[if_neg hb];refine Via.err (Fy ?_);simp[Ba,Fh,h5,hs,hb]
theorem Gc {α β γ:Type}(a:Rd α)(f:α->Tx->Rd β)(g:β->Tx->Rd γ):(a.bnd f).bnd g=a.bnd fun x r=>(f x r).bnd g:=by cases a<;>rfl
theorem digit_iff {c:Int}:A0 c=true↔(Gz c=true\/(c==48)=true):=by
 simp[A0,Gz];omega
theorem L3 {c:Int}(h:Bm c=true):Gz c=false:=by
 simp[Bm,Gz]at*;omega
theorem Ls {X:Ej}{s:Tx}(h7:X.st=7)(h:∀b r,s=b::r->A0 b.toNat=true->¬X.digits<3):stop X s=stop {X with st:=8} s:=by
 cases s with
 |nil=>rw[C9 Ajm,C9 (by simp)]
 |cons b r=>
  have hd:=h b r rfl;have hq:¬((X.st==7)=true/\decide (X.digits<3)=true/\(Gz b.toNat=true\/((b.toNat:Int)==48)=true)):=by
   rintro⟨-,q1,q2⟩;exact hd (digit_iff.2 q2) (by simpa using q1)
  have e1:Ba X b=if ((b.toNat:Int)==41)=true then ({X with lits:=if (!X.head)=true then X.lits+1 else X.lits,st:=9},true)else if ((b.toNat:Int)==44)=true/\decide (X.terms<3)=true then ({X with st:=6},true)else (X,false):=by
   unfold Ba Fh;rw[if_pos (by simp[h7]),if_neg (by simp[h7]),if_neg (by simp[h7]),if_neg hq]
  have e2:Ba {X with st:=8} b=if ((b.toNat:Int)==41)=true then ({X with lits:=if (!X.head)=true then X.lits+1 else X.lits,st:=9},true)else if ((b.toNat:Int)==44)=true/\decide (X.terms<3)=true then ({X with st:=6},true)else ({X with st:=8},false):=by
   unfold Ba Fh;rw[if_pos (by simp),if_neg (by simp),if_neg (by simp),if_neg (by simp)]
  unfold stop;rw[e1,e2];by_cases h1:((b.toNat:Int)==41)=true
  ·rw[if_pos h1,if_pos h1]
  ·rw[if_neg h1,if_neg h1];by_cases h2:((b.toNat:Int)==44)=true/\decide (X.terms<3)=true
   ·rw[if_pos h2,if_pos h2]
   ·rw[if_neg h2,if_neg h2];rfl
theorem kM:∀(n:Nat) (s:Tx) (X:Ej),X.st=7->X.digits=3-(n:Int)->∃X',X'.st=8/\X'.terms=X.terms/\wD X X'/\stop X s=stop X' (Ax A0 n s).2:=by
 intro n;induction n with
 |zero=>
  intro s X h7 hd;exact⟨{X with st:=8},rfl,rfl,⟨rfl,rfl,rfl⟩,Ls h7 (fun _ _ _ _=>Ajm)⟩
 |succ n ih=>
  intro s X h7 hd;cases s with
  |nil=>exact⟨{X with st:=8},rfl,rfl,⟨rfl,rfl,rfl⟩,Ls h7 (fun _ _ h _=>by cases h)⟩
  |cons b r=>
   unfold Ax;by_cases hb:A0 b.toNat=true
   ·rw[if_pos hb];have e:Ba X b=({X with digits:=X.digits+1},true):=by
     have:=digit_iff.1 hb;unfold Ba Fh;rw[if_pos (by simp[h7]),if_neg (by simp[h7]),if_neg (by simp[h7]),if_pos ⟨by simp[h7],by simp;omega,this⟩]
    rw[C1 (by rw[e]),e];obtain⟨X',h1,h2,h3,h4⟩:=ih r {X with digits:=X.digits+1} h7 (by simp;omega);exact⟨X',h1,h2,h3,h4⟩
   ·rw[if_neg hb];exact⟨{X with st:=8},rfl,rfl,⟨rfl,rfl,rfl⟩,Ls h7 (fun c q h hc=>by cases h;exact absurd hc hb)⟩
theorem dF (s:Tx)(X:Ej)(h6:X.st=6):Via (fun X'=>X'.st=8/\X'.terms=X.terms+1/\wD X X') (Cj s) (stop X s):=by
 cases s with
 |nil=>exact Via.err (C9 Ajm)
 |cons b r=>
  unfold Cj;by_cases hl:Bm b.toNat=true
  ·simp only[hl,if_true];have e:Ba X b=({X with terms:=X.terms+1,digits:=1,st:=8},true):=by
    simp[Ba,Fh,h6,hl,L3 hl]
   rw[C1 (by rw[e]),e];exact Via.ret ⟨rfl,rfl,rfl,rfl,rfl⟩
  ·simp only[hl];by_cases hz:((b.toNat:Int)==48)=true
   ·have hn:Gz b.toNat=false:=by simp[Gz]at*;omega
    simp only[hz,if_true];have e:Ba X b=({X with terms:=X.terms+1,digits:=1,st:=8},true):=by
     simp[Ba,Fh,h6,hl,hz,hn]
    rw[C1 (by rw[e]),e];exact Via.ret ⟨rfl,rfl,rfl,rfl,rfl⟩
   ·simp only[hz];by_cases hn:Gz b.toNat=true
    ·simp only[hn,if_true];have e:Ba X b=({X with terms:=X.terms+1,digits:=1,st:=7},true):=by
      simp[Ba,Fh,h6,hn]
     rw[C1 (by rw[e]),e];obtain⟨X',h1,h2,h3,h4⟩:=kM 2 r {X with terms:=X.terms+1,digits:=1,st:=7} rfl (by simp);exact⟨X',⟨h1,h2,h3⟩,h4⟩
    ·simp only[hn];refine Via.err (Fy ?_);simp[Ba,Fh,h6,hl,hz,hn]
def Ac7 (it li:Int)(hd:Bool)(X:Ej):Prop:=X.st=9/\X.items=it/\X.head=hd/\X.lits=if hd=true then li else li+1
theorem X9 {β:Type}(s:Tx)(X:Ej)(k:β)(h8:X.st=8)(h:∀b r,s=b::r->((b.toNat:Int)==44)=true->¬X.terms<3):
  Via (Ac7 X.items X.lits X.head) ((Az 41 s).bnd fun _ r=>.got k r) (stop X s):=by
 cases s with
 |nil=>exact Via.err (C9 Ajm)
 |cons b r=>
  unfold Az;have hh:=h b r rfl;by_cases hb:((b.toNat:Int)==41)=true
  ·simp only[hb,if_true];have e:Ba X b=({X with lits:=if (!X.head)=true then X.lits+1 else X.lits,st:=9},true):=by
    simp[Ba,Fh,h8,hb]
   rw[C1 (by rw[e]),e];refine Via.ret ⟨rfl,rfl,rfl,?_⟩;cases X.head<;>simp
  ·simp only[hb];refine Via.err (Fy ?_);simp[Ba,Fh,h8,hb];rw[if_neg];rintro⟨h1,h2⟩;have:=hh (by simpa using h1);omega
theorem uR {β:Type}:∀(n:Nat) (s:Tx) (X:Ej) (k:List Tx->β),X.st=8->X.terms=3-(n:Int)->
  Via (Ac7 X.items X.lits X.head) ((Dv Cj n s).bnd fun ts r=>(Az 41 r).bnd fun _ r=>.got (k ts) r) (stop X s):=by
 intro n;induction n with
 |zero=>
  intro s X k h8 ht;exact X9 s X (k []) h8 (fun _ _ _ _=>Ajm)
 |succ n ih=>
  intro s X k h8 ht;cases s with
  |nil=>exact Via.err (C9 Ajm)
  |cons b r=>
   unfold Dv;by_cases hb:((b.toNat:Int)==44)=true
   ·simp only[hb,if_true];have e:Ba X b=({X with st:=6},true):=by
     have:¬((b.toNat:Int)==41)=true:=by simp at*;omega
     simp[Ba,Fh,h8,hb,this];omega
    rw[C1 (by rw[e]),e,Gc];refine Via.bind (dF r {X with st:=6} rfl) ?_;rintro x r1 X' ⟨h1,h2,h3,h4,h5⟩;rw[Gc];have:=ih r1 X' (fun ts=>k (x::ts)) h1 (by simp at h2;omega);rw[h3,h4,h5]at this;exact this
   ·simp only[hb];exact X9 (b::r) X (k []) h8 (fun c q h hc=>by cases h;exact absurd hc hb)
theorem Tg (nt:Bool)(b:UInt8)(r:Tx)(X:Ej)(it li:Int)(hd:Bool)(hs:Bq b.toNat=true->∃X1,Ba X b=(X1,true)/\X1.st=5/\X1.letters=1/\X1.items=it/\X1.lits=li/\X1.head=hd)
  (hn:Bq b.toNat=false->(Ba X b).2=false):Via (Ac7 it li hd) (Da nt (b::r)) (stop X (b::r)):=by
 unfold Da Em;by_cases hb:Bq b.toNat=true
 ·obtain⟨X1,e,h1,h2,h3,h4,h5⟩:=hs hb;rw[C1 (by rw[e]),e];have e6:Ax Bq 6 (b::r)=(b::(Ax Bq 5 r).1,(Ax Bq 5 r).2):=by rw[Ax,if_pos hb]
  rw[e6];simp only[reduceCtorEq,if_false,Rd.bnd];refine Via.bind (uN 5 r X1 h1 Ajm Ajm) ?_;rintro _ r1 X' ⟨g1,g2,g3,g4,g5⟩;unfold U7;refine Via.bind (dF r1 X' g1) ?_;rintro t r2 X2 ⟨q1,q2,q3,q4,q5⟩;have:=uR 2 r2 X2 (fun ts=>({nt:=nt,pred:=b::(Ax Bq 5 r).1,terms:=t::ts}:RAtom)) q1 Ajm;rw[q3,g3,h3,q4,g4,h4,q5,g5,h5]at this;exact this
 ·have aa:Bq b.toNat=false:=by simpa using hb
  have e6:Ax Bq 6 (b::r)=([],b::r):=by rw[Ax,if_neg hb]
  rw[e6];simp only[if_true,Rd.bnd];exact Via.err (Fy (hn aa))
theorem oB (s:Tx)(X:Ej)(h3:X.st=3):Via (Ac7 X.items X.lits X.head) (J3 s) (stop X s):=by
 cases s with
 |nil=>exact Via.err (C9 Ajm)
 |cons b r=>
  unfold J3;by_cases hb:((b.toNat:Int)==33)=true
  ·simp only[hb,if_true];have e:Ba X b=({X with letters:=1,st:=4},true):=by simp[Ba,C7,h3,hb]
   rw[C1 (by rw[e]),e];cases r with
   |nil=>
    refine Via.err (C9 (by simp))
   |cons c q=>
    refine Tg true c q _ _ _ _ (fun hs=>⟨{X with letters:=1,st:=5},?_,rfl,rfl,rfl,rfl,rfl⟩) (fun hs=>?_)
    ·simp[Ba,C7,hs]
    ·simp[Ba,C7,hs]
  ·simp only[hb];refine Tg false b r _ _ _ _ (fun hs=>⟨{X with letters:=1,st:=5},?_,rfl,rfl,rfl,rfl,rfl⟩) (fun hs=>?_)
   ·simp[Ba,C7,h3,hb,hs]
   ·simp[Ba,C7,h3,hb,hs]
def Next (it:Int)(X:Ej):Prop:=X.st=0/\X.items=it+1
theorem oC {β:Type}(s:Tx)(X:Ej)(k:β)(h9:X.st=9)(hh:X.head=false)(h:∀b r,s=b::r->((b.toNat:Int)==44)=true->¬X.lits<5):
  Via (Next X.items) ((Az 46 s).bnd fun _ r=>.got k r) (stop X s):=by
 cases s with
 |nil=>exact Via.err (C9 Ajm)
 |cons b r=>
  unfold Az;have hq:=h b r rfl;by_cases hb:((b.toNat:Int)==46)=true
  ·simp only[hb,if_true];have e:Ba X b=({X with items:=X.items+1,st:=0},true):=by simp[Ba,C7,h9,hb]
   rw[C1 (by rw[e]),e];exact Via.ret ⟨rfl,rfl⟩
  ·simp only[hb];refine Via.err (Fy ?_);simp[Ba,C7,h9,hb,hh];rw[if_neg];rintro⟨h1,h2⟩;have:=hq (by simpa using h1);omega
theorem uO {β:Type}:∀(n:Nat) (s:Tx) (X:Ej) (k:List RAtom->β),X.st=9->X.head=false->X.lits=5-(n:Int)->
  Via (Next X.items) ((Dv J3 n s).bnd fun ts r=>(Az 46 r).bnd fun _ r=>.got (k ts) r) (stop X s):=by
 intro n;induction n with
 |zero=>
  intro s X k h9 hh ht;exact oC s X (k []) h9 hh (fun _ _ _ _=>Ajm)
 |succ n ih=>
  intro s X k h9 hh ht;cases s with
  |nil=>exact Via.err (C9 Ajm)
  |cons b r=>
   unfold Dv;by_cases hb:((b.toNat:Int)==44)=true
   ·simp only[hb,if_true];have e:Ba X b=({X with st:=3},true):=by
     have h1:¬((b.toNat:Int)==46)=true:=by simp at*;omega
     simp[Ba,C7,h9,hb,h1,hh];omega
    rw[C1 (by rw[e]),e,Gc];refine Via.bind (oB r {X with st:=3} rfl) ?_;rintro x r1 X' ⟨h1,h2,h3,h4⟩;rw[Gc];have:=ih r1 X' (fun ts=>k (x::ts)) h1 (by rw[h3];exact hh) (by simp[hh]at h4;omega);rw[h2]at this;exact this
   ·simp only[hb];exact oC (b::r) X (k []) h9 hh (fun c q h hc=>by cases h;exact absurd hc hb)
theorem uQ (h:RAtom)(s:Tx)(X:Ej)(h3:X.st=3)(hh:X.head=false)(hl:X.lits=0):Via (Next X.items) (Ro h s) (stop X s):=by
 unfold Ro;refine Via.bind (oB s X h3) ?_;rintro x r X' ⟨h1,h2,h4,h5⟩;have:=uO 4 r X' (fun ls=>({out:=false,head:=h,body:=x::ls}:RItem)) h1 (by rw[h4];exact hh) (by simp[hh,hl]at h5;omega);rw[h2]at this;exact this
theorem uM (h:RAtom)(s:Tx)(X:Ej)(h9:X.st=9)(hh:X.head=true)(hl:X.lits=0):Via (Next X.items) (Nq h s) (stop X s):=by
 cases s with
 |nil=>exact Via.err (C9 Ajm)
 |cons b r=>
  unfold Nq;by_cases hb:((b.toNat:Int)==46)=true
  ·simp only[hb,if_true];have e:Ba X b=({X with items:=X.items+1,st:=0},true):=by simp[Ba,C7,h9,hb]
   rw[C1 (by rw[e]),e];exact Via.ret ⟨rfl,rfl⟩
  ·simp only[hb];unfold Az;by_cases hc:((b.toNat:Int)==58)=true
   ·simp only[hc,if_true];have e:Ba X b=({X with st:=10},true):=by simp[Ba,C7,h9,hb,hc,hh]
    rw[C1 (by rw[e]),e];cases r with
    |nil=>exact Via.err (C9 (by simp))
    |cons c q=>
     by_cases hd:((c.toNat:Int)==45)=true
     ·simp only[hd,if_true,Rd.bnd];have e:Ba {X with st:=10} c=({X with head:=false,st:=3},true):=by simp[Ba,C7,hd]
      simp only[Ahg,if_false];rw[C1 (by rw[e]),e];exact uQ h q {X with head:=false,st:=3} rfl rfl hl
     ·simp only[hd,Rd.bnd];refine Via.err (Fy ?_);simp[Ba,C7,hd]
   ·simp only[hc];refine Via.err (Fy ?_);simp[Ba,C7,h9,hb,hc,hh]
theorem qX:∀(n:Nat) (s:Tx) (X:Ej) (k:Tx->RItem),X.st=2->X.letters=6-(n:Int)->
  Via (Next X.items) ((Az 46 (Ax Bq n s).2).bnd fun _ r=>.got (k (Ax Bq n s).1) r) (stop X s):=by
 intro n;induction n with
 |zero=>
  intro s X k h2 hl;cases s with
  |nil=>exact Via.err (C9 Ajm)
  |cons b r=>
   unfold Ax Az;by_cases hb:((b.toNat:Int)==46)=true
   ·simp only[hb,if_true];have e:Ba X b=({X with items:=X.items+1,st:=0},true):=by simp[Ba,C7,h2,hl,hb]
    rw[C1 (by rw[e]),e];exact Via.ret ⟨rfl,rfl⟩
   ·simp only[hb];refine Via.err (Fy ?_);simp[Ba,C7,h2,hl,hb]
 |succ n ih=>
  intro s X k h2 hl;cases s with
  |nil=>exact Via.err (C9 Ajm)
  |cons b r=>
   unfold Ax;by_cases hs:Bq b.toNat=true
   ·simp only[hs,if_true];have e:Ba X b=({X with letters:=X.letters+1,st:=2},true):=by
     simp[Ba,C7,h2,hs];omega
    rw[C1 (by rw[e]),e];exact ih r {X with letters:=X.letters+1,st:=2} (fun x=>k (b::x)) rfl (by simp;omega)
   ·simp only[hs];unfold Az;by_cases hb:((b.toNat:Int)==46)=true
    ·simp only[Ahg,if_false,hb,if_true];have e:Ba X b=({X with items:=X.items+1,st:=0},true):=by simp[Ba,C7,h2,hs,hb]
     rw[C1 (by rw[e]),e];exact Via.ret ⟨rfl,rfl⟩
    ·simp only[Ahg,if_false,hb];refine Via.err (Fy ?_);simp[Ba,C7,h2,hs,hb]
theorem uP (b:UInt8)(r:Tx)(X:Ej)(h0:X.st=0)(hi:X.items≠16):Via (Next X.items) (Ff (b::r)) (stop X (b::r)):=by
 unfold Ff;by_cases hb:((b.toNat:Int)==63)=true
 ·simp only[hb,if_true];have e:Ba X b=({X with head:=true,letters:=0,lits:=0,st:=1},true):=by simp[Ba,C7,h0,hi,hb]
  rw[C1 (by rw[e]),e];unfold bL Em;cases r with
  |nil=>exact Via.err (C9 (by simp))
  |cons c q=>
   by_cases hs:Bq c.toNat=true
   ·have e6:Ax Bq 6 (c::q)=(c::(Ax Bq 5 q).1,(Ax Bq 5 q).2):=by rw[Ax,if_pos hs]
    rw[e6];simp only[reduceCtorEq,if_false,Rd.bnd];have e:Ba {X with head:=true,letters:=0,lits:=0,st:=1} c=({X with head:=true,letters:=1,lits:=0,st:=2},true):=by simp[Ba,C7,hs]
    rw[C1 (by rw[e]),e];exact qX 5 q {X with head:=true,letters:=1,lits:=0,st:=2} (fun x=>{out:=true,head:={nt:=false,pred:=c::x,terms:=[]},body:=[]}) rfl (by simp)
   ·have e6:Ax Bq 6 (c::q)=([],c::q):=by rw[Ax,if_neg hs]
    rw[e6];simp only[if_true,Rd.bnd];refine Via.err (Fy ?_);simp[Ba,C7,hs]
 ·simp only[hb];unfold Nr;refine Via.bind (Tg false b r X X.items 0 true (fun hs=>⟨{X with head:=true,letters:=1,lits:=0,st:=5},?_,rfl,rfl,rfl,rfl,rfl⟩) (fun hs=>?_)) ?_
  ·simp[Ba,C7,h0,hi,hb,hs]
  ·simp[Ba,C7,h0,hi,hb,hs]
  ·rintro x r X' ⟨h1,h2,h3,h4⟩;have:=uM x r X' h1 h3 (by simpa using h4);rw[h2]at this;exact this
theorem qY:∀(n:Nat) (s:Tx) (X:Ej),X.st=0->X.items=16-(n:Int)->stop X s=match Br n s with|.bad e=>some e|.got _ _=>none:=by
 intro n;induction n with
 |zero=>
  intro s X h0 hi;cases s with
  |nil=>simp[stop,Br,h0]
  |cons b r=>
   simp only[Br];refine Fy ?_;simp[Ba,C7,h0,hi]
 |succ n ih=>
  intro s X h0 hi;cases s with
  |nil=>simp[stop,Br,h0]
  |cons b r=>
   have hv:=uP b r X h0 Ajm;unfold Br;cases hp:Ff (b::r)with
   |bad e=>rw[hp]at hv;exact hv
   |got x q=>
    rw[hp]at hv;obtain⟨X',⟨h1,h2⟩,h3⟩:=hv;rw[h3,ih q X' h1 Ajm];simp only[Rd.bnd];cases Br n q<;>rfl
theorem Kq (s:Tx):N5 s=match Br 16 s with|.bad e=>((s.length-e.length:Nat):Int)|.got _ _=> -1:=by
 rw[fY,qY 16 s fD rfl rfl];cases Br 16 s<;>rfl
theorem K3 {b:UInt8}(c:UInt8)(h:((b.toNat:Int)==(c.toNat:Int))=true):b=c:=by
 have:b.toNat=c.toNat:=by simp at h;omega
 exact UInt8.toNat_inj.1 this
def Ke (p:Tx):Prop:=p≠[]/\∀b∈p,Bq b.toNat=true
def Nt (t:Tx):Prop:=t≠[]/\∀b∈t,Bm b.toNat=true\/A0 b.toNat=true
def D2 (a:RAtom):Prop:=Ke a.pred/\a.terms≠[]/\a.terms.length<=3/\∀t∈a.terms,Nt t
def Cl (x:RItem):Prop:=Ke x.head.pred/\(x.out=true->x.head.nt=false/\x.head.terms=[]/\x.body=[])/\(x.out=false->D2 x.head/\x.head.nt=false/\x.body.length<=5/\∀a∈x.body,D2 a)
def B6 (ts:List Tx):Tx:=ts.flatMap fun t=>44::t
def Bl:List Tx->Tx
 |[]=>[]
 |t::ts=>t++B6 ts
def A7 (a:RAtom):Tx:=a.pred++40::(Bl a.terms++[41])
def B9 (a:RAtom):Tx:=(if a.nt=true then [33]else [])++A7 a
def Di (x:RItem):Tx:=A7 x.head++(if x.body=[]then []else 58::45::Bl (x.body.map B9))
def Be (x:RItem):Tx:=if x.out=true then 63::x.head.pred else Di x
theorem A1 {α β:Type}{a:Rd α}{f:α->Tx->Rd β}{y:β}{r:Tx}(h:a.bnd f= .got y r):∃x q,a= .got x q/\f x q= .got y r:=by
 cases a with
 |bad e=>cases h
 |got x q=>exact⟨x,q,rfl,h⟩
theorem Ik {c:UInt8}{s r:Tx}{x:Unit}(h:Az c.toNat s= .got x r):s=c::r:=by
 cases s with
 |nil=>cases h
 |cons b q=>
  unfold Az at h;dsimp only at h;split at h
  ·rename_i hb;cases h;rw[K3 c hb]
  ·cases h
theorem D8 (p:Int->Bool):∀(n:Nat) (s:Tx),s=(Ax p n s).1++(Ax p n s).2/\(∀b∈(Ax p n s).1,p b.toNat=true)
 |0,s=>by simp[Ax]
 |n+1,[]=>by simp[Ax]
 |n+1,b::r=>by
  unfold Ax;split
  ·rename_i h;obtain⟨h1,h2⟩:=D8 p n r;refine⟨by simp;exact h1,?_⟩;intro c hc;rcases Ahm.1 hc with rfl|hc
   ·exact h
   ·exact h2 c hc
  ·simp
theorem N8 {s r p:Tx}(h:Em s= .got p r):s=p++r/\Ke p:=by
 unfold Em at h;split at h
 ·cases h
 ·rename_i aa;cases h;exact⟨(D8 Bq 6 s).1,aa,(D8 Bq 6 s).2⟩
theorem Uz {s r t:Tx}(h:Cj s= .got t r):s=t++r/\Nt t:=by
 cases s with
 |nil=>cases h
 |cons b q=>
  unfold Cj at h;dsimp only at h;split at h
  ·rename_i hl;cases h;exact⟨rfl,by simp,by simp[hl]⟩
  ·split at h
   ·rename_i hz;cases h;refine⟨rfl,by simp,?_⟩;intro c hc;simp at hc;subst hc;right;simp[A0]at*
    omega
   ·split at h
    ·rename_i hn;cases h;obtain⟨h1,h2⟩:=D8 A0 2 q;refine⟨by simp;exact h1,by simp,?_⟩;intro c hc;rcases Ahm.1 hc with rfl|hc
     ·right;exact digit_iff.2 (.inl hn)
     ·right;exact h2 c hc
    ·cases h
theorem U1 {α:Type}{W:α->Prop}{u:α->Tx}{f:Tx->Rd α}(hf:∀s x r,f s= .got x r->s=u x++r/\W x):∀(n:Nat) (s:Tx) (xs:List α) (r:Tx),Dv f n s= .got xs r->
  s=B6 (xs.map u)++r/\xs.length<=n/\∀x∈xs,W x:=by
 intro n;induction n with
 |zero=>intro s xs r h;cases h;simp[B6]
 |succ n ih=>
  intro s xs r h;cases s with
  |nil=>cases h;simp[B6]
  |cons b q=>
   unfold Dv at h;split at h
   ·rename_i hb;obtain⟨x,q1,h1,h2⟩:=A1 h;obtain⟨ys,q2,h3,h4⟩:=A1 h2;cases h4;obtain⟨g1,g2⟩:=hf _ _ _ h1;obtain⟨g3,g4,g5⟩:=ih _ _ _ h3;refine⟨?_,by simp;omega,?_⟩
    ·rw[K3 44 hb,g1,g3];simp[B6]
    ·intro y hy;rcases Ahm.1 hy with rfl|hy
     ·exact g2
     ·exact g5 y hy
   ·cases h;simp[B6]
theorem F0 {nt:Bool}{s r:Tx}{a:RAtom}(h:Da nt s= .got a r):s=A7 a++r/\D2 a/\a.nt=nt:=by
 unfold Da U7 at h;obtain⟨p,q1,h1,h⟩:=A1 h;obtain⟨_,q2,h2,h⟩:=A1 h;obtain⟨t,q3,h3,h⟩:=A1 h;obtain⟨ts,q4,h4,h⟩:=A1 h;obtain⟨_,q5,h5,h⟩:=A1 h;cases h;obtain⟨a1,a2⟩:=N8 h1;have a3:=Ik (c:=40) h2;obtain⟨a4,a5⟩:=Uz h3;obtain⟨a6,a7,a8⟩:=U1 (u:=id) (fun s x r h=>Uz h) _ _ _ _ h4;have a9:=Ik (c:=41) h5;refine⟨?_,⟨a2,by simp,by simp;omega,?_⟩,rfl⟩
 ·rw[a1,a3,a4,a6,a9];simp[A7,Bl]
 ·intro y hy;rcases Ahm.1 hy with rfl|hy
  ·exact a5
  ·exact a8 y hy
theorem Zl {s r:Tx}{a:RAtom}(h:J3 s= .got a r):s=B9 a++r/\D2 a:=by
 cases s with
 |nil=>cases h
 |cons b q=>
  unfold J3 at h;dsimp only at h;split at h
  ·rename_i hb;obtain⟨h1,h2,h3⟩:=F0 h;exact⟨by rw[K3 33 hb,h1];simp[B9,h3],h2⟩
  ·obtain⟨h1,h2,h3⟩:=F0 h;exact⟨by rw[h1];simp[B9,h3],h2⟩
theorem U4 {s r:Tx}{x:RItem}(h:Ff s= .got x r):s=Be x++46::r/\Cl x:=by
 cases s with
 |nil=>cases h
 |cons b q=>
  unfold Ff at h;dsimp only at h;split at h
  ·rename_i hb;unfold bL at h;obtain⟨p,q1,h1,h⟩:=A1 h;obtain⟨_,q2,h2,h⟩:=A1 h;cases h;obtain⟨a1,a2⟩:=N8 h1;have a3:=Ik (c:=46) h2;exact⟨by rw[K3 63 hb,a1,a3];simp[Be],a2,by simp,by simp⟩
  ·unfold Nr at h;obtain⟨hd,q1,h1,h⟩:=A1 h;obtain⟨a1,a2,a3⟩:=F0 h1;cases q1 with
   |nil=>cases h
   |cons c q2=>
    unfold Nq at h;dsimp only at h;split at h
    ·rename_i hc;cases h;exact⟨by rw[a1,K3 46 hc];simp[Be,Di],a2.1,by simp,fun _=>⟨a2,a3,by simp,by simp⟩⟩
    ·unfold Ro at h;obtain⟨_,q3,h2,h⟩:=A1 h;obtain⟨_,q4,h3,h⟩:=A1 h;obtain⟨l,q5,h4,h⟩:=A1 h;obtain⟨ls,q6,h5,h⟩:=A1 h;obtain⟨_,q7,h6,h⟩:=A1 h;cases h;have b1:=Ik (c:=58) h2;have b2:=Ik (c:=45) h3;obtain⟨b3,b4⟩:=Zl h4;obtain⟨b5,b6,b7⟩:=U1 (fun s x r h=>Zl h) _ _ _ _ h5;have b8:=Ik (c:=46) h6;refine⟨by rw[a1,b1,b2,b3,b5,b8];simp[Be,Di,Bl],a2.1,by simp,fun _=>⟨a2,a3,by simp;omega,?_⟩⟩;intro y hy;rcases Ahm.1 hy with rfl|hy
     ·exact b4
     ·exact b7 y hy
def Bv (l:List RItem):Tx:=l.flatMap fun x=>Be x++[46]
theorem Ey:∀(n:Nat) (s:Tx) (l:List RItem) (r:Tx),Br n s= .got l r->s=Bv l/\r=[]/\l.length<=n/\∀x∈l,Cl x:=by
 intro n;induction n with
 |zero=>
  intro s l r h;cases s with
  |nil=>cases h;simp[Bv]
  |cons b q=>cases h
 |succ n ih=>
  intro s l r h;cases s with
  |nil=>cases h;simp[Bv]
  |cons b q=>
   unfold Br at h;obtain⟨x,q1,h1,h⟩:=A1 h;obtain⟨xs,q2,h2,h⟩:=A1 h;cases h;obtain⟨a1,a2⟩:=U4 h1;obtain⟨b1,b2,b3,b4⟩:=ih _ _ _ h2;refine⟨by rw[a1,b1];simp[Bv],b2,by simp;omega,?_⟩;intro y hy;rcases Ahm.1 hy with rfl|hy
   ·exact a2
   ·exact b4 y hy
end Go.Proofs.YtmoeoppbmhfbpabGreatDoorL
