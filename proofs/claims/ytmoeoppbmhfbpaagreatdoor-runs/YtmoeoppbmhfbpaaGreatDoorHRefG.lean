import Derived.Test.YtmoeoppbmhfbpaaGreatDoorHRefA
set_option maxHeartbeats 16000000
set_option maxRecDepth 100000
set_option linter.all false
namespace Go.Proofs.YtmoeoppbmhfbpaaGreatDoorH
open Go.Abs
def Dp (M:Nat->Nat->Bool):List AV:=(List.range 256).map fun n=>sc (.bool (M (n / 16) (n % 16)))
def set2 (M:Nat->Nat->Bool)(i k:Nat)(v:Bool):Nat->Nat->Bool:=fun a b=>if a=i/\b=k then v else M a b
theorem D9 (M:Nat->Nat->Bool):(Dp M).length=256:=by simp[Dp]
theorem K1 (M:Nat->Nat->Bool){i k:Nat}(hi:i<16)(hk:k<16):(Dp M)[i*16+k]?=some (sc (.bool (M i k))):=by
 have h1:i*16+k<256:=Ad2;have h2:(i*16+k) / 16=i:=Ad2;have h3:(i*16+k) % 16=k:=Ad2;simp[Dp,h1,h2,h3]
theorem Tp (M:Nat->Nat->Bool){i k:Nat}(hi:i<16)(hk:k<16)(v:Bool):(Dp M).set (i*16+k) (sc (.bool v))=Dp (set2 M i k v):=by
 apply Abd;intro n;rw[Aa4];by_cases hn:n<256
 ·by_cases he:i*16+k=n
  ·subst he;have h2:(i*16+k) / 16=i:=Ad2;have h3:(i*16+k) % 16=k:=Ad2;simp[Dp,hn,h2,h3,set2]
  ·have:¬(n / 16=i/\n % 16=k):=Ad2;simp[Dp,hn,he,set2,this]
 ·have:i*16+k≠n:=Ad2;simp[Dp,hn,this]
theorem W8:Jj 256 (.bool false)=Dp fun _ _=>false:=by
 apply Abd;intro n;by_cases hn:n<256
 ·simp only[Dp,Jj,cst1,List.getElem?_replicate,Aa6,List.getElem?_range hn,Ab3,hn,if_true]
 ·simp only[Jj,List.getElem?_replicate,if_neg hn];rw[Aa7 (by rw[D9];omega)]
theorem Df {l:List RItem}{cs:List AV}{i:Nat}{x:RItem}(h:EL EItem l cs)(hi:l[i]?=some x):∃ih id b r,EL Be x.body b/\cs.drop (i*5)=sc (.bool x.out)::sc (.bool x.head.nt)::str x.head.pred::sl ih x.head.terms.length (x.head.terms.map str)::sl id x.body.length b::r:=by
 obtain⟨c,r,hc,e⟩:=EL.get Cb h hi;obtain⟨ih,id,b,hb,rfl⟩:=hc.cells;exact⟨ih,id,b,r,hb,e⟩
def Ke (l:List RItem)(i k:Nat):Bool:=
 match l[i]?,l[k]? with
 |some x,some y=>!y.out&&x.body.any fun a=>a.pred==y.head.pred
 |_,_=>false
def P8 (l:List RItem)(i k:Nat)(M:Nat->Nat->Bool):Prop:=∀a b,M a b=if (a<i/\b<l.length)\/(a=i/\b<k)then Ke l a b else false
theorem Jc {l xs:List AV}(h:xs.length=l.length):lsp l 0 xs=xs:=by
 rw[G1 _ _ _ Ad2,Abi,h,Aby];simp
def fw (M:Nat->Nat->Bool)(m:Nat):Nat->Nat->Bool:=fun i k=>M i k||(M i m&&M m k)
def zP (n:Nat)(M:Nat->Nat->Bool)(m:Nat):Nat->Nat->Bool:=fun i k=>if i<n/\k<n then fw M m i k else M i k
def P9 (n:Nat)(M:Nat->Nat->Bool):Nat->Nat->Nat->Bool
 |0=>M
 |m+1=>zP n (P9 n M m) m
def part (n:Nat)(M:Nat->Nat->Bool)(m i k:Nat)(W:Nat->Nat->Bool):Prop:=∀a b,W a b=if (a<i/\b<n)\/(a=i/\b<k)then fw M m a b else M a b
def G7 (l:List RItem):Nat->Nat->Bool:=P9 l.length (fun a b=>if a<l.length/\b<l.length then Ke l a b else false) l.length
theorem Sr {n:Nat}{M W:Nat->Nat->Bool}{m i k:Nat}(h:part n M m i k W)(hk:k<n)(hm:m<n):W i k=M i k/\W i m=M i m/\W m k=M m k:=by
 refine⟨?_,?_,?_⟩
 ·rw[h,if_neg Ad2]
 ·rw[h];split
  ·unfold fw;cases M i m<;>simp
  ·rfl
 ·rw[h];split
  ·unfold fw;cases M m k<;>simp
  ·rfl
theorem cX {n:Nat}{M W:Nat->Nat->Bool}{m i k:Nat}(h:part n M m i k W){v:Bool}(hv:v=fw M m i k):part n M m i (k+1) (set2 W i k v):=by
 intro a b;unfold set2;by_cases aa:a=i/\b=k
 ·obtain⟨rfl,rfl⟩:=aa;rw[if_pos ⟨rfl,rfl⟩,if_pos Ad2];exact hv
 ·rw[if_neg aa,h];by_cases hc:(a<i/\b<n)\/(a=i/\b<k)
  ·rw[if_pos hc,if_pos Ad2]
  ·rw[if_neg hc,if_neg Ad2]
theorem cY {n:Nat}{M W:Nat->Nat->Bool}{m i:Nat}(h:part n M m i n W):part n M m (i+1) 0 W:=by
 intro a b;rw[h];by_cases hc:(a<i/\b<n)\/(a=i/\b<n)
 ·rw[if_pos hc,if_pos Ad2]
 ·rw[if_neg hc,if_neg Ad2]
theorem Wn {n:Nat}{M:Nat->Nat->Bool}{m:Nat}:part n M m 0 0 M:=by intro a b;rw[if_neg Ad2]
theorem cZ {n:Nat}{M W:Nat->Nat->Bool}{m:Nat}(h:part n M m n 0 W):W=zP n M m:=by
 funext a b;rw[h];unfold zP;by_cases hc:a<n/\b<n
 ·rw[if_pos Ad2,if_pos hc]
 ·rw[if_neg Ad2,if_neg hc]
theorem dW {l:List RItem}{M:Nat->Nat->Bool}{i k:Nat}(h:P8 l i k M)(v:Bool)(hv:v=Ke l i k):P8 l i (k+1) (set2 M i k v):=by
 intro a b;unfold set2;by_cases aa:a=i/\b=k
 ·obtain⟨rfl,rfl⟩:=aa;rw[if_pos ⟨rfl,rfl⟩,if_pos Ad2];exact hv
 ·rw[if_neg aa,h];by_cases hc:(a<i/\b<l.length)\/(a=i/\b<k)
  ·rw[if_pos hc,if_pos Ad2]
  ·rw[if_neg hc,if_neg Ad2]
theorem rT {l:List RItem}{M:Nat->Nat->Bool}{i:Nat}(h:P8 l i l.length M):P8 l (i+1) 0 M:=by
 intro a b;rw[h];by_cases hc:(a<i/\b<l.length)\/(a=i/\b<l.length)
 ·rw[if_pos hc,if_pos Ad2]
 ·rw[if_neg hc,if_neg Ad2]
theorem rU {l:List RItem}{M:Nat->Nat->Bool}(h:P8 l l.length 0 M):M=fun a b=>if a<l.length/\b<l.length then Ke l a b else false:=by
 funext a b;rw[h];by_cases hc:a<l.length/\b<l.length
 ·rw[if_pos Ad2,if_pos hc]
 ·rw[if_neg Ad2,if_neg hc]
theorem Zy (l:List RItem)(cs:List AV)(idl:Nat)(hE:EL EItem l cs)(hl:l.length<=16)(hf:∀x∈l,x.fits)(A:St):ACalls Tryz.prog 178 [sl idl l.length cs] A fun r A'=>r=ag (Dp (G7 l))/\Keep A A':=by
 have a4:=EL.length Cb hE;have ax:=D9;refine Z9 86 [.cell 2 228] Tryz.func178 ?_
 repeat' (first|refine Z1 ?_|(refine Z8 ?_;intro ya J)|(refine Z4 ?_;clear J ya)|(refine Z2 ?_ ?_<;>intro h aa<;>try exact Xp)|refine Z3 ?_|exact Zt|(apply J.out;clear J ya))
 refine Ab (fun m s A'=>∃(i:Nat) (M:Nat->Nat->Bool),m=l.length-i/\i<=l.length/\s 0=sl idl l.length cs/\s 2=ptr A.nobj 0/\s 3=ptr (A.nobj+1) 0/\s 4=sc (.int .i64 i)/\Keep A A'/\A'.obj (A.nobj+1)=Dp M/\A.nobj+1<A'.nobj/\(A'.obj A.nobj).length=256/\P8 l i 0 M) l.length
  ⟨0,fun _ _=>false,Ad2,Ad2,rfl,rfl,rfl,rfl,Xs,by rw[Cd (by rw[Aa];exact Aak _) (by rw[Aa];exact Aak _),W8],by simp[Aa],by rw[Ai (by rw[Aa];omega),Am,W8,D9],by simp[P8]⟩ ?_
 rintro m s A' ⟨i,M,rfl,hi,h0,h2,h3,h4,hK,ho,hn,hr,hM⟩;by_cases ac:i<l.length
 ·repeat' (first|refine Z1 ?_|(refine Z8 ?_;intro ya J)|(refine Z4 ?_;clear J ya)|(refine Z2 ?_ ?_<;>intro h aa<;>try exact Xp)|refine Z3 ?_|exact Zt|(apply J.out;clear J ya))
  refine Ab (fun m s A'=>∃(k:Nat) (M:Nat->Nat->Bool),m=l.length-k/\k<=l.length/\s 0=sl idl l.length cs/\s 2=ptr A.nobj 0/\s 3=ptr (A.nobj+1) 0/\s 4=sc (.int .i64 i)/\s 5=sc (.int .i64 k)/\Keep A A'/\A'.obj (A.nobj+1)=Dp M/\A.nobj+1<A'.nobj/\(A'.obj A.nobj).length=256/\P8 l i k M) l.length
   ⟨0,M,Ad2,Ad2,by simp[upd,h0],by simp[upd,h2],by simp[upd,h3],by simp[upd,h4],rfl,hK,ho,hn,hr,hM⟩ ?_
  clear hK ho hn hr hM;rintro m s A' ⟨k,M,rfl,hk,h0,h2,h3,h4,h5,hK,ho,hn,hr,hM⟩;by_cases ab:k<l.length
  ·obtain⟨ih1,id1,b1,r1,an,a3⟩:=Df hE (Aav ac);obtain⟨ih2,id2,b2,r2,a5,a0⟩:=Df hE (Aav ab);have am:=hf l[i] (Ab1 ac)
   repeat' (first|refine Z1 ?_|(refine Z8 ?_;intro ya J)|(refine Z4 ?_;clear J ya)|(refine Z2 ?_ ?_<;>intro h aa<;>try exact Xp)|refine Z3 ?_|exact Zt|(apply J.out;clear J ya))
   refine Aq Ad (fun _=>True) [23] [0,1,2,3,4,5,6,7,8,9,10,11,12,13,14,15,16,17,18,21] [19,20,22,23] Ad5 (fun _ _ _ h=>h) ?_;intro ya J;refine Z3 ?_
   repeat' (first|refine Z1 ?_|(refine Z8 ?_;intro ya J)|(refine Z4 ?_;clear J ya)|(refine Z2 ?_ ?_<;>intro h aa<;>try exact Xp)|(refine Z5 ?_;refine Xi (iB _ _ _ (EItem.of an) (by have:=am.1;omega) _) ?_;rintro _ _ ⟨rfl,ah⟩;(have av:=ah.obj;have aw:=ah.nobj))|refine Z3 ?_|exact Zt|(apply J.out;clear J ya))
   ·exact⟨l.length-(k+1),Ad2,k+1,_,rfl,Ad2,by simp,(hK.trans ah).put Ad2 _,Tp M Ad2 Ad2 _,Ad2,dW hM _ (by simp[Ke,ac,ab, *])⟩
   ·exact⟨l.length-(k+1),Ad2,k+1,_,rfl,Ad2,by simp,hK.put Ad2 _,Tp M Ad2 Ad2 _,dW hM _ (by simp[Ke,ac,ab, *])⟩
  ·have ae:k=l.length:=Ad2;subst ae
   repeat' (first|refine Z1 ?_|(refine Z8 ?_;intro ya J)|(refine Z4 ?_;clear J ya)|(refine Z2 ?_ ?_<;>intro h aa<;>try exact Xp)|refine Z3 ?_|exact Zt|(apply J.out;clear J ya))
   exact⟨l.length-(i+1),Ad2,i+1,M,rfl,Ad2,by simp,rfl,rT hM⟩
 ·have af:i=l.length:=Ad2;subst af;have ao:=rU hM;subst ao;clear hM
  repeat' (first|refine Z1 ?_|(refine Z8 ?_;intro ya J)|(refine Z4 ?_;clear J ya)|(refine Z2 ?_ ?_<;>intro h aa<;>try exact Xp)|refine Z3 ?_|exact Zt|(apply J.out;clear J ya))
  generalize aj:(fun (a b:Nat)=>if a<l.length/\b<l.length then Ke l a b else false)=M0 at ho;have au:Ad8 _:=aj;clear aj
  refine Ab (fun q s A'=>∃m:Nat,q=l.length-m/\m<=l.length/\s 0=sl idl l.length cs/\s 2=ptr A.nobj 0/\s 3=ptr (A.nobj+1) 0/\s 6=sc (.int .i64 m)/\Keep A A'/\A'.obj (A.nobj+1)=Dp (P9 l.length M0 m)/\A.nobj+1<A'.nobj/\(A'.obj A.nobj).length=256) l.length
   ⟨0,Ad2,Ad2,by simp[upd,h0],by simp[upd,h2],by simp[upd,h3],rfl,hK,ho,hn,hr⟩ ?_
  clear hK ho hn hr h0 h2 h3 h4 h aa ac hi;rintro q s A' ⟨m,rfl,hm,h0,h2,h3,h6,hK,ho,hn,hr⟩;by_cases ac:m<l.length
  ·generalize ai:P9 l.length M0 m=M at ho;have ap:Ad8 _:=ai;clear ai
   repeat' (first|refine Z1 ?_|(refine Z8 ?_;intro ya J)|(refine Z4 ?_;clear J ya)|(refine Z2 ?_ ?_<;>intro h aa<;>try exact Xp)|refine Z3 ?_|exact Zt|(apply J.out;clear J ya))
   refine Ab (fun q s A'=>∃(i:Nat) (W:Nat->Nat->Bool),q=l.length-i/\i<=l.length/\s 0=sl idl l.length cs/\s 2=ptr A.nobj 0/\s 3=ptr (A.nobj+1) 0/\s 6=sc (.int .i64 m)/\s 7=sc (.int .i64 i)/\Keep A A'/\A'.obj (A.nobj+1)=Dp W/\A.nobj+1<A'.nobj/\(A'.obj A.nobj).length=256/\part l.length M m i 0 W) l.length
    ⟨0,M,Ad2,Ad2,by simp[upd,h0],by simp[upd,h2],by simp[upd,h3],by simp[upd,h6],rfl,hK,ho,hn,hr,Wn⟩ ?_
   clear hK ho hn hr h0 h2 h3 h6;rintro q s A' ⟨i,W,rfl,hi,h0,h2,h3,h6,h7,hK,ho,hn,hr,hW⟩;by_cases ab:i<l.length
   ·repeat' (first|refine Z1 ?_|(refine Z8 ?_;intro ya J)|(refine Z4 ?_;clear J ya)|(refine Z2 ?_ ?_<;>intro h aa<;>try exact Xp)|refine Z3 ?_|exact Zt|(apply J.out;clear J ya))
    refine Ab (fun q s A'=>∃(k:Nat) (W:Nat->Nat->Bool),q=l.length-k/\k<=l.length/\s 0=sl idl l.length cs/\s 2=ptr A.nobj 0/\s 3=ptr (A.nobj+1) 0/\s 6=sc (.int .i64 m)/\s 7=sc (.int .i64 i)/\s 8=sc (.int .i64 k)/\Keep A A'/\A'.obj (A.nobj+1)=Dp W/\A.nobj+1<A'.nobj/\(A'.obj A.nobj).length=256/\part l.length M m i k W) l.length
     ⟨0,W,Ad2,Ad2,by simp[upd,h0],by simp[upd,h2],by simp[upd,h3],by simp[upd,h6],by simp[upd,h7],rfl,hK,ho,hn,hr,hW⟩ ?_
    clear hK ho hn hr h0 h2 h3 h6 h7 hW;rintro q s A' ⟨k,W,rfl,hk,h0,h2,h3,h6,h7,h8,hK,ho,hn,hr,hW⟩;by_cases ad:k<l.length
    ·obtain⟨v1,v2,v3⟩:=Sr hW ad ac;have g1:=K1 W (i:=i) (k:=k) Ad2 Ad2;have g2:=K1 W (i:=i) (k:=m) Ad2 Ad2;have g3:=K1 W (i:=m) (k:=k) Ad2 Ad2;have HV:Ad8 (W i k=M i k/\W i m=M i m/\W m k=M m k):=⟨v1,v2,v3⟩;clear v1 v2 v3
     repeat' (first|refine Z1 ?_|(refine Z8 ?_;intro ya J)|(refine Z4 ?_;clear J ya)|(refine Z2 ?_ ?_<;>intro h aa<;>try exact Xp)|refine Z3 ?_|exact Zt|(apply J.out;clear J ya))
     refine Aq Ad (fun _=>True) [23] [0,1,2,3,4,5,6,7,8,9,10,11,12,13,14,15,16,17,18,19,20,21] [22,23] Ad5 (fun _ _ _ h=>h) ?_;intro ya J;refine Z3 ?_
     repeat' (first|refine Z1 ?_|(refine Z8 ?_;intro ya J)|(refine Z4 ?_;clear J ya)|(refine Z2 ?_ ?_<;>intro h aa<;>try exact Xp)|refine Z3 ?_|exact Zt|(apply J.out;clear J ya))
     all_goals exact⟨l.length-(k+1),Ad2,k+1,_,rfl,Ad2,by simp,hK.put Ad2 _,Tp W Ad2 Ad2 _,cX hW (by have hv:=HV.out;simp_all [fw])⟩
    ·have ae:k=l.length:=Ad2;subst ae
     repeat' (first|refine Z1 ?_|(refine Z8 ?_;intro ya J)|(refine Z4 ?_;clear J ya)|(refine Z2 ?_ ?_<;>intro h aa<;>try exact Xp)|refine Z3 ?_|exact Zt|(apply J.out;clear J ya))
     exact⟨l.length-(i+1),Ad2,i+1,W,rfl,Ad2,by simp,rfl,cY hW⟩
   ·have af:i=l.length:=Ad2;subst af
    repeat' (first|refine Z1 ?_|(refine Z8 ?_;intro ya J)|(refine Z4 ?_;clear J ya)|(refine Z2 ?_ ?_<;>intro h aa<;>try exact Xp)|refine Z3 ?_|exact Zt|(apply J.out;clear J ya))
    refine⟨l.length-(m+1),Ad2,m+1,rfl,Ad2,by simp,?_⟩;rw[cZ hW,<-ap.out];rfl
  ·have ak:m=l.length:=Ad2;subst ak;have ay:∀M,List.take 256 (Dp M)=Dp M:=fun M=>Abz (by rw[D9];exact Aak _);have az:∀M,lsp (A'.obj A.nobj) 0 (Dp M)=Dp M:=fun M=>Jc (by rw[D9,hr])
   repeat' (first|refine Z1 ?_|(refine Z8 ?_;intro ya J)|(refine Z4 ?_;clear J ya)|(refine Z2 ?_ ?_<;>intro h aa<;>try exact Xp)|refine Z3 ?_|exact Zt|(apply J.out;clear J ya))
   exact⟨_,rfl,by rw[G7,au.out],hK.put (Aak _) _⟩
def Is (l:List RItem)(i:Nat):List UInt8:=match l[i]? with|some x=>x.head.pred|none=>[]
def iK (l:List RItem)(p q:List UInt8)(i k:Nat):Bool:=G7 l i k&&Is l i==p&&Is l k==q
def Pz (l:List RItem)(p q:List UInt8):Bool:=(List.range l.length).any fun i=>(List.range l.length).any fun k=>iK l p q i k
def Aaf (l:List RItem)(p q:List UInt8)(i:Nat):Prop:=∀a,a<i->∀b,b<l.length->iK l p q a b=false
def Aae (l:List RItem)(p q:List UInt8)(i k:Nat):Prop:=∀b,b<k->iK l p q i b=false
theorem mO (l:List RItem)(cs:List AV)(idl:Nat)(p q:List UInt8)(hE:EL EItem l cs)(hl:l.length<=16)(hf:∀x∈l,x.fits)(A:St):ACalls Tryz.prog 190 [sl idl l.length cs,str p,str q] A fun r A'=>r=sc (.bool (Pz l p q))/\Keep A A':=by
 have ay:=EL.length Cb hE;have ao:=D9;have ap:∀M,List.take 256 (Dp M)=Dp M:=fun M=>Abz (by rw[D9];exact Aak _);have au:∀M,lsp (Jj 256 (.bool false)) 0 (Dp M)=Dp M:=fun M=>Jc (by rw[D9];simp[Jj]);have a3:(Jj 256 (.bool false)).length=256:=by simp[Jj]
 have av:∀M,(Dp M).all flat=true:=fun M=>by simp[Dp,flat,Value.oneCell']
 refine Z9 49 [.tmp 6] Tryz.func190 ?_
 repeat' (first|refine Z1 ?_|(refine Z8 ?_;intro ya J)|(refine Z4 ?_;clear J ya)|(refine Z2 ?_ ?_<;>intro h aa<;>try exact Xp)|(refine Z5 ?_;refine Xi (Zy l cs idl hE hl hf _) ?_;rintro _ _ ⟨rfl,ai⟩)|refine Z3 ?_|exact Zt|(apply J.out;clear J ya))
 rename_i A1;have hτo:((A1.new (Jj 256 (.bool false))).put A1.nobj (Dp (G7 l))).obj A1.nobj=Dp (G7 l):=Ak;have hτK:Keep A ((A1.new (Jj 256 (.bool false))).put A1.nobj (Dp (G7 l))):=(ai.new _).put ai.nobj _;generalize (A1.new (Jj 256 (.bool false))).put A1.nobj (Dp (G7 l))=τ at hτo hτK
 refine Ab (fun m s A'=>∃i:Nat,m=l.length-i/\i<=l.length/\s 0=sl idl l.length cs/\s 1=str p/\s 2=str q/\s 7=ptr A1.nobj 0/\s 8=sc (.int .i64 i)/\A'=τ/\Aaf l p q i) l.length
  ⟨0,Ad2,Ad2,rfl,rfl,rfl,rfl,rfl,rfl,fun a h=>Ad2⟩ ?_
 rintro m s A' ⟨i,rfl,hi,h0,h1,h2,h7,h8,hA,ah⟩
 replace hA:=hA.symm
 subst hA;by_cases af:i<l.length
 ·repeat' (first|refine Z1 ?_|(refine Z8 ?_;intro ya J)|(refine Z4 ?_;clear J ya)|(refine Z2 ?_ ?_<;>intro h aa<;>try exact Xp)|refine Z3 ?_|exact Zt|(apply J.out;clear J ya))
  refine Ab (fun m s A'=>∃k:Nat,m=l.length-k/\k<=l.length/\s 0=sl idl l.length cs/\s 1=str p/\s 2=str q/\s 7=ptr A1.nobj 0/\s 8=sc (.int .i64 i)/\s 9=sc (.int .i64 k)/\A'=τ/\Aae l p q i k) l.length
   ⟨0,Ad2,Ad2,by simp[upd,h0],by simp[upd,h1],by simp[upd,h2],by simp[upd,h7],by simp[upd,h8],rfl,rfl,fun b h=>Ad2⟩ ?_
  clear h0 h1 h2 h7 h8;rintro m s A' ⟨k,rfl,hk,h0,h1,h2,h7,h8,h9,hA,ac⟩
  replace hA:=hA.symm
  subst hA;by_cases ab:k<l.length
  ·obtain⟨ih1,id1,b1,r1,a0,ax⟩:=Df hE (Aav af);obtain⟨ih2,id2,b2,r2,az,aw⟩:=Df hE (Aav ab);have g1:=K1 (G7 l) (i:=i) (k:=k) Ad2 Ad2;have ae:Is l i=l[i].head.pred:=by simp[Is,af]
   have ad:Is l k=l[k].head.pred:=by simp[Is,ab]
   have HH:Ad8 (Is l i=l[i].head.pred/\Is l k=l[k].head.pred):=⟨ae,ad⟩;clear ae ad
   repeat' (first|refine Z1 ?_|(refine Z8 ?_;intro ya J)|(refine Z4 ?_;clear J ya)|(refine Z2 ?_ ?_<;>intro h aa<;>try exact Xp)|refine Z3 ?_|exact Zt|(apply J.out;clear J ya))
   all_goals
    obtain⟨ae,ad⟩:=HH.out
    first
    |exact⟨_,rfl,by rw[Pz,Dq (k:=i) (a:=i) _ (by simp[af]) (Dq (k:=k) (a:=k) _ (by simp[ab]) (by simp only[iK,ae,ad, *,Bool.and_self]))]⟩
    |exact⟨l.length-(k+1),Ad2,k+1,rfl,Ad2,by simp,fun b hb=>by
     by_cases am:b=k
     ·subst am;simp only[iK,ae,ad, *,Bool.and_false,Bool.false_and,Bool.and_true]
     ·exact ac b Ad2⟩
  ·have aj:k=l.length:=Ad2;subst aj
   repeat' (first|refine Z1 ?_|(refine Z8 ?_;intro ya J)|(refine Z4 ?_;clear J ya)|(refine Z2 ?_ ?_<;>intro h aa<;>try exact Xp)|refine Z3 ?_|exact Zt|(apply J.out;clear J ya))
   exact⟨l.length-(i+1),Ad2,i+1,rfl,Ad2,by simp,fun a ha=>by
    by_cases an:a=i
    ·subst an;exact ac
    ·exact ah a Ad2⟩
 ·have ak:i=l.length:=Ad2;subst ak
  repeat' (first|refine Z1 ?_|(refine Z8 ?_;intro ya J)|(refine Z4 ?_;clear J ya)|(refine Z2 ?_ ?_<;>intro h aa<;>try exact Xp)|refine Z3 ?_|exact Zt|(apply J.out;clear J ya))
  have hu:Pz l p q=false:=by
   unfold Pz;rw[Ab4];intro a ha;rw[Ab5]at ha;simp only[Bool.not_eq_true];rw[Ab4];intro b hb;rw[Ab5]at hb;simp[ah a ha b hb]
  first
  |exact⟨_,rfl,by rw[hu],hτK⟩
  |exact⟨_,rfl,by rw[hu]⟩
def A9 (p:Nat->Bool)(n:Nat):Int:=match (List.range n).find? p with|some i=>(i:Int)|none=> -1
theorem Fj {p:Nat->Bool}{n i:Nat}(hi:i<n)(hp:p i=true)(hn:∀a,a<i->p a=false):A9 p n=i:=by
 unfold A9;have:(List.range n).find? p=some i:=by
  rw[List.find?_range_eq_some];exact⟨hp,by simpa using hi,fun a ha=>by simp[hn a ha]⟩
 rw[this]
theorem Cf {p:Nat->Bool}{n:Nat}(hn:∀a,a<n->p a=false):A9 p n= -1:=by
 unfold A9;have:(List.range n).find? p=none:=by
  rw[Ab6];intro a ha;simp[hn a (by simpa using ha)]
 rw[this]
def oU (l:List RItem)(h:List UInt8)(a:RAtom):Bool:=a.nt&&(a.pred==h||Pz l a.pred h)
def E5 (l:List RItem)(i:Nat):Bool:=match l[i]? with|some x=>x.body.any (oU l x.head.pred)|none=>false
def noK (l:List RItem)(i:Nat):Prop:=∀a,a<i->E5 l a=false
def vD (l:List RItem)(x:RItem)(j:Nat):Prop:=(x.body.take j).any (oU l x.head.pred)=false
theorem oC (l:List RItem)(cs:List AV)(idl:Nat)(hE:EL EItem l cs)(hl:l.length<=16)(hf:∀x∈l,x.fits)(A:St):ACalls Tryz.prog 177 [sl idl l.length cs] A fun r A'=>r=sc (.int .i64 (A9 (E5 l) l.length))/\Keep A A':=by
 have au:=EL.length Cb hE;refine Z9 56 [.tmp 2] Tryz.func177 ?_
 repeat' (first|refine Z1 ?_|(refine Z8 ?_;intro ya J)|(refine Z4 ?_;clear J ya)|(refine Z2 ?_ ?_<;>intro h aa<;>try exact Xp)|refine Z3 ?_|exact Zt|(apply J.out;clear J ya))
 refine Ab (fun m s A'=>∃i:Nat,m=l.length-i/\i<=l.length/\s 0=sl idl l.length cs/\s 3=sc (.int .i64 i)/\Keep A A'/\noK l i) l.length
  ⟨0,Ad2,Ad2,rfl,rfl,Keep.refl _,fun a h=>Ad2⟩ ?_
 rintro m s A' ⟨i,rfl,hi,h0,h3,hK,ad⟩;by_cases ae:i<l.length
 ·obtain⟨ih1,id1,b1,r1,af,am⟩:=Df hE (Aav ae);have ai:=hf l[i] (Ab1 ae);have HX:Ad8 (l[i]?=some l[i]):=Aav ae;generalize l[i]=x at af am ai HX;have av:=EL.length Ba af;have ap:=ai.1
  repeat' (first|refine Z1 ?_|(refine Z8 ?_;intro ya J)|(refine Z4 ?_;clear J ya)|(refine Z2 ?_ ?_<;>intro h aa<;>try exact Xp)|refine Z3 ?_|exact Zt|(apply J.out;clear J ya))
  refine Ab (fun m s A'=>∃j:Nat,m=x.body.length-j/\j<=x.body.length/\s 0=sl idl l.length cs/\s 3=sc (.int .i64 i)/\s 4=sc (.int .i64 j)/\Keep A A'/\vD l x j) x.body.length
   ⟨0,Ad2,Ad2,by simp[upd,h0],by simp[upd,h3],rfl,hK,by simp[vD]⟩ ?_
  clear hK h0 h3;rintro m s A' ⟨j,rfl,hj,h0,h3,h4,hK,ab⟩;by_cases ac:j<x.body.length
  ·obtain⟨ia,r,hd⟩:=B8 af (Aav ac);have HG:Ad8 (x.body[j]?=some x.body[j]):=Aav ac;generalize x.body[j]=a at hd HG
   repeat' (first|refine Z1 ?_|(refine Z8 ?_;intro ya J)|(refine Z4 ?_;clear J ya)|(refine Z2 ?_ ?_<;>intro h aa<;>try exact Xp)|refine Z3 ?_|exact Zt|(apply J.out;clear J ya))
   refine Aq Ad (fun _=>True) [24] [0,1,2,3,4,5,6,7,8,9,10,11,12,13,14,15,16,17,18,19,20,21] [22,23,24] Ad5 (fun _ _ _ h=>h) ?_;intro ya J;refine Z3 ?_
   repeat' (first|refine Z1 ?_|(refine Z8 ?_;intro ya J)|(refine Z4 ?_;clear J ya)|(refine Z2 ?_ ?_<;>intro h aa<;>try exact Xp)|(refine Z5 ?_;refine Xi (mO l cs idl _ _ hE hl hf _) ?_;rintro _ _ ⟨rfl,ah⟩;(have ao:=ah.nobj))|refine Z3 ?_|exact Zt|(apply J.out;clear J ya))
   all_goals
    first
    |exact⟨_,rfl,by rw[Fj (p:=E5 l) ae (by unfold E5;rw[HX.out];exact Dq _ HG.out (by simp[oU, *])) ad],by first|exact ((hK.new _).put hK.nobj _).trans ah|exact (hK.new _).put hK.nobj _⟩
    |exact⟨x.body.length-(j+1),Ad2,j+1,rfl,Ad2,by simp,by first|exact ((hK.new _).put hK.nobj _).trans ah|exact (hK.new _).put hK.nobj _,by unfold vD at*;rw[any_take_succ _ HG.out,ab];simp[oU, *]⟩
  ·have aj:j=x.body.length:=Ad2;subst aj
   repeat' (first|refine Z1 ?_|(refine Z8 ?_;intro ya J)|(refine Z4 ?_;clear J ya)|(refine Z2 ?_ ?_<;>intro h aa<;>try exact Xp)|refine Z3 ?_|exact Zt|(apply J.out;clear J ya))
   refine⟨l.length-(i+1),Ad2,i+1,rfl,Ad2,by simp,?_⟩;intro a ha;by_cases an:a=i
   ·subst an;unfold vD at ab;rw[Aa3]at ab;unfold E5;rw[HX.out];exact ab
   ·exact ad a Ad2
 ·have ak:i=l.length:=Ad2;subst ak
  repeat' (first|refine Z1 ?_|(refine Z8 ?_;intro ya J)|(refine Z4 ?_;clear J ya)|(refine Z2 ?_ ?_<;>intro h aa<;>try exact Xp)|refine Z3 ?_|exact Zt|(apply J.out;clear J ya))
  first
  |exact⟨_,rfl,by rw[Cf ad],hK⟩
  |exact⟨_,rfl,by rw[Cf ad]⟩
def clash (a b:RAtom):Bool:=b.pred==a.pred&&decide (b.terms.length≠a.terms.length)
def Ca (l:List RItem)(i:Nat):List RAtom:=(l.take i).flatMap Af
def Bh (l:List RItem)(x:RItem)(i j:Nat):List RAtom:=Ca l i++(Af x).take j
def Nw (l:List RItem)(x:RItem)(i j:Nat):Bool:=match (Af x)[j]? with|some a=>(Bh l x i j).any (clash a)|none=>false
def Gs (l:List RItem)(i:Nat):Bool:=match l[i]? with|some x=>(List.range (Af x).length).any (Nw l x i)|none=>false
def noO (l:List RItem)(i:Nat):Prop:=∀a,a<i->Gs l a=false
def zK (l:List RItem)(x:RItem)(i j:Nat):Prop:=∀b,b<j->Nw l x i b=false
def S8 (a:RAtom)(s:List RAtom)(k:Nat):Prop:=(s.take k).any (clash a)=false
theorem Et {l:List RItem}{x:RItem}{i j:Nat}{a:RAtom}(h:(Af x)[j]?=some a):Bh l x i (j+1)=Bh l x i j++[a]:=by
 unfold Bh;rw[Aa8,h,Abl];rfl
theorem Sk {l:List RItem}{x:RItem}{i j:Nat}{a:RAtom}(h:(Af x)[j]?=some a):(Bh l x i (j+1)).length=(Bh l x i j).length+1:=by
 rw[Et h];simp
theorem Wg {l:List RItem}{x:RItem}{i:Nat}(h:l[i]?=some x):Bh l x i (Af x).length=Bh l x (i+1) 0:=by
 unfold Bh Ca;rw[Aa3,Aa8,h,List.take_zero,Abc];simp
theorem RItem.fits.atoms {x:RItem}(h:x.fits):(Af x).length<=1001:=by
 obtain⟨f1,f2,f3⟩:=h;unfold Af;split<;>simp<;>omega
theorem cT {l:List RItem}(hf:∀x∈l,x.fits):∀i,(Ca l i).length<=i*1001:=by
 intro i;induction i with
 |zero=>simp[Ca]
 |succ i ih=>
  unfold Ca at*
  rw[Aa8,Ab7,Abj];cases h:l[i]? with
  |none=>simp only[Option.toList_none,Ab8,Abu];omega
  |some x=>
   have:=(hf x (Aax h)).atoms;simp only[Ab9,Aca,Ab8,Abc];omega
theorem rM (l:List RItem)(cs:List AV)(idl:Nat)(hE:EL EItem l cs)(hl:l.length<=16)(hf:∀x∈l,x.fits)(A:St):ACalls Tryz.prog 176 [sl idl l.length cs] A fun r A'=>r=sc (.int .i64 (A9 (Gs l) l.length))/\Keep A A':=by
 have bb:=EL.length Cb hE;refine Z9 65 [.tmp 2] Tryz.func176 ?_
 repeat' (first|refine Z1 ?_|(refine Z8 ?_;intro ya J)|(refine Z4 ?_;clear J ya)|(refine Z2 ?_ ?_<;>intro h ac<;>try exact Xp)|(refine Z6 ?_;intro idn An ah aj ae ab ad aa)|refine Z3 ?_|exact Zt|(apply J.out;clear J ya))
 refine Ab (fun m s A'=>∃(i ids:Nat) (ss:List AV),m=l.length-i/\i<=l.length/\s 0=sl idl l.length cs/\s 3=sl ids (Ca l i).length ss/\s 4=sc (.int .i64 i)/\Keep A A'/\Own A A' ids (Ca l i).length/\EL Be (Ca l i) ss/\noO l i) l.length
  ⟨0,1,[],Ad2,Ad2,rfl,rfl,rfl,Keep.refl _,Own.nil _ _,rfl,fun a h=>Ad2⟩ ?_
 rintro m s A' ⟨i,ids,ss,rfl,hi,h0,h3,h4,hK,hO,hS,an⟩;have ba:=cT hf i;by_cases ao:i<l.length
 ·obtain⟨ih1,id1,b1,r1,ax,a3⟩:=Df hE (Aav ao);have ap:=hf l[i] (Ab1 ao);have HX:Ad8 (l[i]?=some l[i]):=Aav ao;generalize l[i]=x at ax a3 ap HX;have bc:=ap.atoms
  repeat' (first|refine Z1 ?_|(refine Z8 ?_;intro ya J)|(refine Z4 ?_;clear J ya)|(refine Z2 ?_ ?_<;>intro h ac<;>try exact Xp)|(refine Z6 ?_;intro idn An ah aj ae ab ad aa)|(refine Z5 ?_;refine Xi (Mz _ _ (EItem.of ax) (by have:=ap.1;omega) _) ?_;rintro _ _ ⟨ida,cs2,rfl,ay,au⟩)|refine Z3 ?_|exact Zt|(apply J.out;clear J ya))
  rename_i A1;have a5:=EL.length Ba ay
  refine Ab (fun m s A'=>∃(j ids:Nat) (ss:List AV),m=(Af x).length-j/\j<=(Af x).length/\s 0=sl idl l.length cs/\s 3=sl ids (Bh l x i j).length ss/\s 4=sc (.int .i64 i)/\s 5=sl ida (Af x).length cs2/\s 6=sc (.int .i64 j)/\Keep A A'/\Own A A' ids (Bh l x i j).length/\EL Be (Bh l x i j) ss/\zK l x i j) (Af x).length
   ⟨0,ids,ss,Ad2,Ad2,by simp[upd,h0],by simp[upd,h3,Bh],by simp[upd,h4],Ad4,rfl,hK.trans au,by simpa[Bh]using hO.keep au,by simpa[Bh]using hS,fun b h=>Ad2⟩ ?_
  clear hK hO hS h0 h3 h4 au ids ss;rintro m s A' ⟨j,ids,ss,rfl,hj,h0,h3,h4,h5,h6,hK,hO,hS,ak⟩;have a9:(Bh l x i j).length<=100000:=by unfold Bh;simp;omega
  by_cases ai:j<(Af x).length
  ·obtain⟨ia,r,hd⟩:=B8 ay (Aav ai);have HG:Ad8 ((Af x)[j]?=some (Af x)[j]):=Aav ai;generalize (Af x)[j]=a at hd HG;have a8:=EL.length Ba hS
   repeat' (first|refine Z1 ?_|(refine Z8 ?_;intro ya J)|(refine Z4 ?_;clear J ya)|(refine Z2 ?_ ?_<;>intro h ac<;>try exact Xp)|(refine Z6 ?_;intro idn An ah aj ae ab ad aa)|refine Z3 ?_|exact Zt|(apply J.out;clear J ya))
   refine Ab (fun m s A'=>∃k:Nat,m=(Bh l x i j).length-k/\k<=(Bh l x i j).length/\s 0=sl idl l.length cs/\s 3=sl ids (Bh l x i j).length ss/\s 4=sc (.int .i64 i)/\s 5=sl ida (Af x).length cs2/\s 6=sc (.int .i64 j)/\s 7=sc (.int .i64 k)/\Keep A A'/\Own A A' ids (Bh l x i j).length/\S8 a (Bh l x i j) k) (Bh l x i j).length
    ⟨0,Ad2,Ad2,by simp[upd,h0],by simp[upd,h3],by simp[upd,h4],by simp[upd,h5],by simp[upd,h6],rfl,hK,hO,by simp[S8]⟩ ?_
   clear hK hO h0 h3 h4 h5 h6;rintro m s A' ⟨k,rfl,hk,h0,h3,h4,h5,h6,h7,hK,hO,af⟩;by_cases am:k<(Bh l x i j).length
   ·obtain⟨ib,r',a4⟩:=B8 hS (Aav am);have HB:Ad8 ((Bh l x i j)[k]?=some (Bh l x i j)[k]):=Aav am;generalize (Bh l x i j)[k]=b at a4 HB
    repeat' (first|refine Z1 ?_|(refine Z8 ?_;intro ya J)|(refine Z4 ?_;clear J ya)|(refine Z2 ?_ ?_<;>intro h ac<;>try exact Xp)|(refine Z6 ?_;intro idn An ah aj ae ab ad aa)|refine Z3 ?_|exact Zt|(apply J.out;clear J ya))
    refine Aq Ad (fun _=>True) [25] [0,1,2,3,4,5,6,7,8,9,10,11,12,13,14,15,16,17,18,19,20,21,22,23,24] [25] Ad5 (fun _ _ _ h=>h) ?_;intro ya J;refine Z3 ?_
    repeat' (first|refine Z1 ?_|(refine Z8 ?_;intro ya J)|(refine Z4 ?_;clear J ya)|(refine Z2 ?_ ?_<;>intro h ac<;>try exact Xp)|(refine Z6 ?_;intro idn An ah aj ae ab ad aa)|refine Z3 ?_|exact Zt|(apply J.out;clear J ya))
    all_goals
     first
     |exact⟨_,rfl,by
      rw[Fj (p:=Gs l) ao ?_ an];unfold Gs;rw[HX.out];refine Dq (k:=j) (a:=j) _ (by simp[ai]) ?_;unfold Nw;rw[HG.out];refine Dq _ HB.out ?_;simp[clash, *]
      first|done|(simp at h;omega)⟩
     |exact⟨(Bh l x i j).length-(k+1),Ad2,k+1,rfl,Ad2,by simp,by
      unfold S8 at*
      rw[any_take_succ _ HB.out,af]
      first
      |(simp[clash, *];done)
      |(simp[clash];intro _;simp at h;omega)⟩
   ·have aw:k=(Bh l x i j).length:=Ad2;have av:Nw l x i j=false:=by
     unfold Nw;rw[HG.out];rw[aw]at af;unfold S8 at af;rw[Aa3]at af;exact af
    have HN:Ad8 (Nw l x i j=false):=av;clear av;subst aw
    repeat' (first|refine Z1 ?_|(refine Z8 ?_;intro ya J)|(refine Z4 ?_;clear J ya)|(refine Z2 ?_ ?_<;>intro h ac<;>try exact Xp)|(refine Z6 ?_;intro idn An ah aj ae ab ad aa)|refine Z3 ?_|exact Zt|(apply J.out;clear J ya))
    rw[<-Sk (l:=l) (i:=i) HG.out]at ah;refine⟨(Af x).length-(j+1),Ad2,j+1,idn,_,rfl,Ad2,by rw[Sk HG.out],by simp,ah,by rw[Et HG.out];exact hS.append (EL.single ⟨_,rfl⟩),?_⟩;intro b hb;by_cases a6:b=j
    ·subst a6;exact HN.out
    ·exact ak b Ad2
  ·have az:j=(Af x).length:=Ad2;subst az;rw[Wg HX.out]at h3 hO hS
   repeat' (first|refine Z1 ?_|(refine Z8 ?_;intro ya J)|(refine Z4 ?_;clear J ya)|(refine Z2 ?_ ?_<;>intro h ac<;>try exact Xp)|(refine Z6 ?_;intro idn An ah aj ae ab ad aa)|refine Z3 ?_|exact Zt|(apply J.out;clear J ya))
   refine⟨l.length-(i+1),Ad2,i+1,ids,ss,rfl,Ad2,by simp[Bh],by simp,by simpa[Bh]using hO,by simpa[Bh]using hS,?_⟩;intro a ha;by_cases a7:a=i
   ·subst a7;unfold Gs;rw[HX.out];simp only;rw[Ab4];intro b hb;rw[Ab5]at hb;simp[ak b hb]
   ·exact an a Ad2
 ·have a0:i=l.length:=Ad2;subst a0
  repeat' (first|refine Z1 ?_|(refine Z8 ?_;intro ya J)|(refine Z4 ?_;clear J ya)|(refine Z2 ?_ ?_<;>intro h ac<;>try exact Xp)|(refine Z6 ?_;intro idn An ah aj ae ab ad aa)|refine Z3 ?_|exact Zt|(apply J.out;clear J ya))
  first
  |exact⟨_,rfl,by rw[Cf an],hK⟩
  |exact⟨_,rfl,by rw[Cf an]⟩
def C5 (l:List RItem)(i:Nat):Bool:=match l[i]? with|some x=>!E3 x|none=>false
def noS (l:List RItem)(i:Nat):Prop:=∀a,a<i->C5 l a=false
def Ds (l:List RItem):Int×Int:=
 if 0<=A9 (Gs l) l.length then (3,A9 (Gs l) l.length)
 else if 0<=A9 (C5 l) l.length then (4,A9 (C5 l) l.length)
 else if 0<=A9 (E5 l) l.length then (5,A9 (E5 l) l.length)
 else (0,0)
abbrev two (p:Int×Int):AV:=tp [sc (.int .i64 p.1),sc (.int .i64 p.2)]
theorem W4 {p:Nat->Bool}{n:Nat}:A9 p n<n+1:=by
 unfold A9;split
 ·rename_i i h;have:=Acb h;simp at this;omega
 ·omega
theorem Jg {p:Nat->Bool}{n:Nat}: -1<=A9 p n:=by
 unfold A9;split<;>omega
theorem fN (l:List RItem)(cs:List AV)(idl:Nat)(hE:EL EItem l cs)(hl:l.length<=16)(hf:∀x∈l,x.fits)(A:St):ACalls Tryz.prog 135 [sl idl l.length cs] A fun r A'=>r=two (Ds l)/\Keep A A':=by
 have an:=EL.length Cb hE;have g1:=@Jg (Gs l) l.length;have g2:=@W4 (Gs l) l.length;have g3:=@Jg (E5 l) l.length;have g4:=@W4 (E5 l) l.length;refine Z9 28 [.tmp 2,.tmp 3] Tryz.func135 ?_
 repeat' (first|refine Z1 ?_|(refine Z8 ?_;intro ya J)|(refine Z4 ?_;clear J ya)|(refine Z2 ?_ ?_<;>intro h aa<;>try exact Xp)|(refine Z5 ?_;refine Xi (rM l cs idl hE hl hf _) ?_;rintro _ _ ⟨rfl,ah⟩)|refine Z3 ?_|exact Zt|(apply J.out;clear J ya))
 ·first
  |exact⟨_,rfl,by unfold Ds;rw[if_pos (by simpa using h)],by assumption⟩
  |exact⟨_,rfl,by unfold Ds;rw[if_pos (by simpa using h)]⟩
 ·have ho:¬0<=A9 (Gs l) l.length:=by simpa using h
  have HO:Ad8 (¬0<=A9 (Gs l) l.length):=ho;clear ho aa h g1 g2;rename_i A1
  refine Ab (fun m s A'=>∃i:Nat,m=l.length-i/\i<=l.length/\s 0=sl idl l.length cs/\s 4=sc (.int .i64 i)/\Keep A A'/\noS l i) l.length
   ⟨0,Ad2,Ad2,rfl,rfl,ah,fun a h=>Ad2⟩ ?_
  rintro m s A' ⟨i,rfl,hi,h0,h4,hK,ac⟩;clear ah;by_cases ad:i<l.length
  ·obtain⟨ih1,id1,b1,r1,af,ak⟩:=Df hE (Aav ad);have ae:=hf l[i] (Ab1 ad);have HX:Ad8 (l[i]?=some l[i]):=Aav ad;generalize l[i]=x at af ak ae HX
   repeat' (first|refine Z1 ?_|(refine Z8 ?_;intro ya J)|(refine Z4 ?_;clear J ya)|(refine Z2 ?_ ?_<;>intro h aa<;>try exact Xp)|(refine Z5 ?_;refine Xi (O4 _ _ (EItem.of af) ae _) ?_;rintro _ _ ⟨rfl,ab⟩)|refine Z3 ?_|exact Zt|(apply J.out;clear J ya))
   ·have hu:A9 (C5 l) l.length=i:=Fj ad (by unfold C5;rw[HX.out];simpa using h) ac;exact⟨_,rfl,by unfold Ds;rw[if_neg HO.out,hu,if_pos Ad2],hK.trans ab⟩
   ·have ai:E3 x=true:=h
    exact⟨l.length-(i+1),Ad2,i+1,rfl,Ad2,by simp,hK.trans ab,fun a ha=>by
     by_cases am:a=i
     ·subst am;unfold C5;rw[HX.out];simp[ai]
     ·exact ac a Ad2⟩
  ·have aj:i=l.length:=Ad2;subst aj;have hu:=Cf (p:=C5 l) ac;have HU:Ad8 (¬0<=A9 (C5 l) l.length):=by rw[hu];simp[Ad8]
   clear hu ac
   repeat' (first|refine Z1 ?_|(refine Z8 ?_;intro ya J)|(refine Z4 ?_;clear J ya)|(refine Z2 ?_ ?_<;>intro h aa<;>try exact Xp)|(refine Z5 ?_;refine Xi (oC l cs idl hE hl hf _) ?_;rintro _ _ ⟨rfl,ab⟩)|refine Z3 ?_|exact Zt|(apply J.out;clear J ya))
   ·exact⟨_,rfl,by unfold Ds;rw[if_neg HO.out,if_neg HU.out,if_pos (by simpa using h)],hK.trans ab⟩
   ·exact⟨_,rfl,by unfold Ds;rw[if_neg HO.out,if_neg HU.out,if_neg (by simpa using h)],hK.trans ab⟩
end Go.Proofs.YtmoeoppbmhfbpaaGreatDoorH
