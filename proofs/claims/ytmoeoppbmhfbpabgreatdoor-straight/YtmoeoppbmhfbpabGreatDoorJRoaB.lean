import Derived.Test.YtmoeoppbmhfbpabGreatDoorJRunA
import Derived.Test.YtmoeoppbmhfbpabGreatDoorJRefA
import Derived.Test.YtmoeoppbmhfbpabGreatDoorJGramD
import Derived.Test.YtmoeoppbmhfbpabGreatDoorJFacts
set_option maxHeartbeats 32000000
set_option maxRecDepth 100000
set_option linter.all false
namespace Go.Proofs.YtmoeoppbmhfbpabGreatDoorJ
open Go.Abs
def kX (base x:Int):Tx:=pairT [101] base (Gv x 64 / 8) (Gv x 64 % 8)
def vT (base a:Int):Tx:=[118,40]++H9 base a++[41,46]
def H2 (E:List Int)(base:Int):Tx:=(E.take 24).flatMap (kX base)++([7,6,5,4,3,2,1,0]:List Int).flatMap (vT base)
theorem V7 {p:Tx}(hp:p.length<=100)(base:Int){a b:Int}(ad:0<=a)(ac:a<=7)(ab:0<=b)(aa:b<=7):(pairT p base a b).length<=130:=by
 have:=I9 base ad ac;have:=I9 base ab aa;unfold pairT;simp;omega
def sY (x:Int):Prop:= -9223372036854775808<=x/\x<=9223372036854775807
theorem cN (E:List Int)(ide:Nat)(base:Int)(hE:∀x∈E,sY x)(hb:sY base)(I:St):ACalls Tryz.prog 29 [sl ide E.length (icells E),ic base] I fun r I'=>r=str (H2 E base)/\I'=I:=by
 have a8:=A8 E;have an:=fun (x:Int) (hx:x∈E) I=>Fc x 64 (hE x hx).1 (hE x hx).2 Ad6 Ad6 I;have am:=fun (a b:Int) h1 h2 h3 h4 I=>S2 [101] base a b (by simp) hb.1 hb.2 h1 h2 h3 h4 I;have ao:=fun (a:Int) h1 h2 I=>Jp base a hb.1 hb.2 h1 h2 I;have bf:({data:=#[]}:ByteArray)=bs []:=rfl;have be:({data:=#[101]}:ByteArray)=bs [101]:=rfl;have bd:({data:=#[118,40]}:ByteArray)=bs [118,40]:=rfl;have bc:({data:=#[41,46]}:ByteArray)=bs [41,46]:=rfl;refine Z9 44 [.tmp 4] Tryz.func29 ?_
 repeat' (first|refine Z1 ?_|(refine Z8 ?_;intro κ hκ)|(refine Z4 ?_;clear hκ κ)|(refine Z2 ?_ ?_<;>intro h aa<;>try exact Xp)|refine Z7 ?_|exact⟨⟩|(apply hκ.out;clear hκ κ))
 refine Ad (fun m s I'=>∃(i:Nat) (W:Tx),m=24-i/\i<=24/\i<=E.length/\s 0=sl ide E.length (icells E)/\s 1=ic base/\s 5=str W/\s 6=ic i/\I'=I/\W.length<=i*200/\Aec (W=(E.take i).flatMap (kX base))) 24
  ⟨0,[],Ad6,Ad6,Ad6,by simp[upd,initS],by simp[upd,initS],Ad8,Ad8,rfl,by simp,by simp[Aec]⟩ ?_
 rintro m s I' ⟨i,W,rfl,hi,a7,h0,h1,h5,h6,rfl,bg,hW⟩;by_cases af:i<E.length/\i<24
 ·obtain⟨ax,a6⟩:=af;have ab:=List.getElem?_eq_getElem ax;obtain⟨r,hd⟩:=Co ab;have av:=Ac2 ax;generalize E[i]=x at ab hd av;have a3:=an x av;have aw:=Fu x (n:=64) Ad6;have HT:Aec ((E.take (i+1)).flatMap (kX base)=(E.take i).flatMap (kX base)++kX base x):=by rw[Aec,Abv,ab,Ac5];simp
  have ae:=am (Gv x 64 / 8) (Gv x 64 % 8) Ad6 Ad6 Ad6 Ad6;have hpl:=V7 (p:=[101]) (by simp) base (a:=Gv x 64 / 8) (b:=Gv x 64 % 8) Ad6 Ad6 Ad6 Ad6;have a5:(Gv x 64).tdiv 8=Gv x 64 / 8:=Int.tdiv_eq_ediv_of_nonneg aw.1;have a4:(Gv x 64).tmod 8=Gv x 64 % 8:=Int.tmod_eq_emod_of_nonneg aw.1;rw[show pairT [101] base (Gv x 64 / 8) (Gv x 64 % 8)=kX base x from rfl]at ae hpl;have bb:decide ((i:Int)<(E.length:Int))=true:=by rw[Ad3];omega
  have ba:decide ((i:Int)<24)=true:=by rw[Ad3];omega
  clear ab am ao an;generalize kX base x=px at*
  have ak:∀I,ACalls Tryz.prog 53 [sc (.string (bs [101])),ic base,ic (Gv x 64 / 8),ic (Gv x 64 % 8)] I fun r I'=>r=str px/\I'=I:=ae;clear ae;generalize Gv x 64=q at*
  repeat' (first|refine Z1 ?_|(refine Z8 ?_;intro κ hκ)|(refine Z4 ?_;clear hκ κ)|(refine Z2 ?_ ?_<;>intro h aa<;>try exact Xp)|(refine Z5 ?_;refine Xi (a3 _) ?_;rintro _ _ ⟨rfl,rfl⟩)|refine Z7 ?_|exact⟨⟩|(apply hκ.out;clear hκ κ))
  refine ACalls.mono (ak _) ?_;rintro _ _ ⟨rfl,rfl⟩;refine Z7 ?_
  repeat' (first|refine Z1 ?_|(refine Z8 ?_;intro κ hκ)|(refine Z4 ?_;clear hκ κ)|(refine Z2 ?_ ?_<;>intro h aa<;>try exact Xp)|refine Z7 ?_|exact⟨⟩|(apply hκ.out;clear hκ κ))
  have HW:Aec (W++px=(E.take (i+1)).flatMap (kX base)):=by rw[Aec,HT.out,hW.out]
  exact⟨24-(i+1),Ad6,i+1,W++px,rfl,Ad6,Ad6,rfl,by simp,by simp;omega,HW⟩
 ·have HW:Aec (W=(E.take 24).flatMap (kX base)):=by
   rw[Aec,hW.out];by_cases e:i=24
   ·rw[e]
   ·have:i=E.length:=Ad6;rw[this,Abt,Acr Ad6]
  have ac:∀(a:Int),0<=a->a<=7->∀I,ACalls Tryz.prog 54 [ic base,ic a] I fun r I'=>r=str (H9 base a)/\I'=I:=ao;have aj:(decide ((i:Int)<(E.length:Int))=true->decide ((i:Int)<24)=false):=fun h=>by
   rw[Ad3]at h;rw[decide_eq_false_iff_not];omega
  have bh:W.length<=4800:=Ad6;clear am an ao hW;have key:∀(k:Nat),k<=8->([7,6,5,4,3,2,1,0]:List Int).take k++(if k<8 then [7-(k:Int)]else [])=([7,6,5,4,3,2,1,0]:List Int).take (k+1):=by
   intro k hk;rcases (show k=0\/k=1\/k=2\/k=3\/k=4\/k=5\/k=6\/k=7\/k=8 by omega)with rfl|rfl|rfl|rfl|rfl|rfl|rfl|rfl|rfl<;>rfl
  have KEY:Aec _:=key;clear key;cases az:decide ((i:Int)<(E.length:Int))with
  |true=>
   have a9:=aj az;clear aj af
   repeat' (first|refine Z1 ?_|(refine Z8 ?_;intro κ hκ)|(refine Z4 ?_;clear hκ κ)|(refine Z2 ?_ ?_<;>intro h aa<;>try exact Xp)|refine Z7 ?_|exact⟨⟩|(apply hκ.out;clear hκ κ))
   refine Ad (fun m s I2=>∃(k:Nat) (V:Tx),m=8-k/\k<=8/\s 1=ic base/\s 5=str V/\s 8=ic (7-(k:Int))/\I2=I'/\V.length<=4800+k*200/\Aec (V=W++(([7,6,5,4,3,2,1,0]:List Int).take k).flatMap (vT base))) 8
    ⟨0,W,Ad6,Ad6,Ad7,Ad7,Ad8,rfl,Ad6,by simp[Aec]⟩ ?_
   clear h0 h1 h5 h6;rintro m s I2 ⟨k,V,rfl,hk,h1,h5,h8,rfl,a0,hV⟩;by_cases ah:k<8
   ·have ap:=ac (7-(k:Int)) Ad6 Ad6;have ay:=I9 base (a:=7-(k:Int)) Ad6 Ad6;have HV:Aec (∀V',V'=V++vT base (7-(k:Int))->V'=W++(([7,6,5,4,3,2,1,0]:List Int).take (k+1)).flatMap (vT base)):=fun V' e=>by
     rw[e,hV.out,<-KEY.out k hk,if_pos ah];simp
    have ai:decide ((7-(k:Int))>=0)=true:=by rw[Ad3];omega
    have au:Aec (vT base (7-(k:Int))=[118,40]++H9 base (7-(k:Int))++[41,46]):=rfl;clear ac hV;generalize H9 base (7-(k:Int))=nx at*
    repeat' (first|refine Z1 ?_|(refine Z8 ?_;intro κ hκ)|(refine Z4 ?_;clear hκ κ)|(refine Z2 ?_ ?_<;>intro h aa<;>try exact Xp)|(refine Z5 ?_;refine Xi (ap _) ?_;rintro _ _ ⟨rfl,rfl⟩)|refine Z7 ?_|exact⟨⟩|(apply hκ.out;clear hκ κ))
    refine⟨8-(k+1),Ad6,k+1,V++[118,40]++nx++[41,46],rfl,Ad6,rfl,by congr 1;congr 1;omega,by simp;omega,HV.out _ (by rw[au.out];simp)⟩
   ·have ad:k=8:=Ad6;subst ad;have ai:decide ((7-((8:Nat):Int))>=0)=false:=rfl
    repeat' (first|refine Z1 ?_|(refine Z8 ?_;intro κ hκ)|(refine Z4 ?_;clear hκ κ)|(refine Z2 ?_ ?_<;>intro h aa<;>try exact Xp)|refine Z7 ?_|exact⟨⟩|(apply hκ.out;clear hκ κ))
    exact⟨_,rfl,by rw[hV.out,HW.out];rfl⟩
  |false=>
   clear aj af
   repeat' (first|refine Z1 ?_|(refine Z8 ?_;intro κ hκ)|(refine Z4 ?_;clear hκ κ)|(refine Z2 ?_ ?_<;>intro h aa<;>try exact Xp)|refine Z7 ?_|exact⟨⟩|(apply hκ.out;clear hκ κ))
   refine Ad (fun m s I2=>∃(k:Nat) (V:Tx),m=8-k/\k<=8/\s 1=ic base/\s 5=str V/\s 8=ic (7-(k:Int))/\I2=I'/\V.length<=4800+k*200/\Aec (V=W++(([7,6,5,4,3,2,1,0]:List Int).take k).flatMap (vT base))) 8
    ⟨0,W,Ad6,Ad6,Ad7,Ad7,Ad8,rfl,Ad6,by simp[Aec]⟩ ?_
   clear h0 h1 h5 h6;rintro m s I2 ⟨k,V,rfl,hk,h1,h5,h8,rfl,a0,hV⟩;by_cases ah:k<8
   ·have ap:=ac (7-(k:Int)) Ad6 Ad6;have ay:=I9 base (a:=7-(k:Int)) Ad6 Ad6;have HV:Aec (∀V',V'=V++vT base (7-(k:Int))->V'=W++(([7,6,5,4,3,2,1,0]:List Int).take (k+1)).flatMap (vT base)):=fun V' e=>by
     rw[e,hV.out,<-KEY.out k hk,if_pos ah];simp
    have ai:decide ((7-(k:Int))>=0)=true:=by rw[Ad3];omega
    have au:Aec (vT base (7-(k:Int))=[118,40]++H9 base (7-(k:Int))++[41,46]):=rfl;clear ac hV;generalize H9 base (7-(k:Int))=nx at*
    repeat' (first|refine Z1 ?_|(refine Z8 ?_;intro κ hκ)|(refine Z4 ?_;clear hκ κ)|(refine Z2 ?_ ?_<;>intro h aa<;>try exact Xp)|(refine Z5 ?_;refine Xi (ap _) ?_;rintro _ _ ⟨rfl,rfl⟩)|refine Z7 ?_|exact⟨⟩|(apply hκ.out;clear hκ κ))
    refine⟨8-(k+1),Ad6,k+1,V++[118,40]++nx++[41,46],rfl,Ad6,rfl,by congr 1;congr 1;omega,by simp;omega,HV.out _ (by rw[au.out];simp)⟩
   ·have ad:k=8:=Ad6;subst ad;have ai:decide ((7-((8:Nat):Int))>=0)=false:=rfl
    repeat' (first|refine Z1 ?_|(refine Z8 ?_;intro κ hκ)|(refine Z4 ?_;clear hκ κ)|(refine Z2 ?_ ?_<;>intro h aa<;>try exact Xp)|refine Z7 ?_|exact⟨⟩|(apply hκ.out;clear hκ κ))
    exact⟨_,rfl,by rw[hV.out,HW.out];rfl⟩
def Kv (M:Nat->Nat->Bool):List AV:=(List.range 64).map fun n=>sc (.bool (M (n / 8) (n % 8)))
def Gf (E W:Nat->Nat->Bool):List AV:=Kv E++Kv W
theorem Dc (M:Nat->Nat->Bool):(Kv M).length=64:=by simp[Kv]
theorem Nq (E W:Nat->Nat->Bool):(Gf E W).length=128:=by simp[Gf,Dc]
theorem rU (M:Nat->Nat->Bool){i k:Nat}(hi:i<8)(hk:k<8):(Kv M)[i*8+k]?=some (sc (.bool (M i k))):=by
 have h1:i*8+k<64:=Ad6;have h2:(i*8+k) / 8=i:=Ad6;have h3:(i*8+k) % 8=k:=Ad6;simp[Kv,h1,h2,h3]
theorem dD (M:Nat->Nat->Bool){i k:Nat}(hi:i<8)(hk:k<8)(v:Bool):(Kv M).set (i*8+k) (sc (.bool v))=Kv (set2 M i k v):=by
 apply Ab0;intro n;rw[List.getElem?_set];by_cases hn:n<64
 ·by_cases he:i*8+k=n
  ·subst he;have h2:(i*8+k) / 8=i:=Ad6;have h3:(i*8+k) % 8=k:=Ad6;simp[Kv,hn,h2,h3,set2]
  ·have:¬(n / 8=i/\n % 8=k):=Ad6;simp[Kv,hn,he,set2,this]
 ·have:i*8+k≠n:=Ad6;simp[Kv,hn,this]
theorem Ge (E W:Nat->Nat->Bool){i k:Nat}(hi:i<8)(hk:k<8):(Gf E W)[64+i*8+k]?=some (sc (.bool (W i k))):=by
 unfold Gf;rw[List.getElem?_append_right (by rw[Dc];omega),Dc,show 64+i*8+k-64=i*8+k by omega,rU _ hi hk]
theorem nR (E W:Nat->Nat->Bool){i k:Nat}(hi:i<8)(hk:k<8)(v:Bool):(Gf E W).set (i*8+k) (sc (.bool v))=Gf (set2 E i k v) W:=by
 unfold Gf;rw[List.set_append_left _ _ (by rw[Dc];omega),dD _ hi hk]
theorem Wp (E W:Nat->Nat->Bool){i k:Nat}(hi:i<8)(hk:k<8)(v:Bool):(Gf E W).set (64+i*8+k) (sc (.bool v))=Gf E (set2 W i k v):=by
 unfold Gf;rw[List.set_append_right _ _ (by rw[Dc];omega),Dc,show 64+i*8+k-64=i*8+k by omega,dD _ hi hk]
theorem nQ:Ur 128 (.bool false)=Gf (fun _ _=>false) (fun _ _=>false):=by
 apply Ab0;intro n;unfold Gf;by_cases hn:n<64
 ·rw[List.getElem?_append_left (by rw[Dc];exact hn)];simp only[Kv,Ur,cst1,List.getElem?_replicate,List.getElem?_map,List.getElem?_range hn,Option.map_some,show n<128 by omega,if_true]
 ·rw[List.getElem?_append_right (by rw[Dc];omega),Dc];by_cases aa:n-64<64
  ·simp only[Kv,Ur,cst1,List.getElem?_replicate,List.getElem?_map,List.getElem?_range aa,Option.map_some,show n<128 by omega,if_true]
  ·simp only[Ur,List.getElem?_replicate,if_neg (show¬n<128 by omega)];rw[List.getElem?_eq_none (by rw[Dc];omega)]
def Uh (E:List Int)(a b:Nat):Bool:=E.any fun x=>decide (Gv x 64 / 8=(a:Int))&&decide (Gv x 64 % 8=(b:Int))
theorem rV (E:List Int)(x:Int)(i k:Nat)(hi:Gv x 64 / 8=(i:Int))(hk:Gv x 64 % 8=(k:Int)):Uh (E++[x])=set2 (Uh E) i k true:=by
 funext a b;unfold Uh set2;rw[Adn];simp only[List.any_cons,List.any_nil,Adq,hi,hk];by_cases h:a=i/\b=k
 ·rw[if_pos h];obtain⟨rfl,rfl⟩:=h;simp
 ·rw[if_neg h];have:(decide ((i:Int)=(a:Int))&&decide ((k:Int)=(b:Int)))=false:=by
   rw[Bool.and_eq_false_iff];by_cases e:a=i
   ·right;rw[decide_eq_false_iff_not];intro e2;exact h ⟨e,Ad6⟩
   ·left;rw[decide_eq_false_iff_not];omega
  rw[this,Adq]
def W6 (E:List Int):Nat->Nat->Bool:=E5 8 (Uh (E.take 24)) 8
theorem dF (E:List Int):oM 8 (Uh E):=fun a b h=>by
 unfold Uh at h;rw[Acg]at h;obtain⟨x,-,h⟩:=h;simp only[Abo,Ad3]at h;have:=Fu x (n:=64) Ad6;omega
theorem Mi (E:List Int)(a b:Nat):W6 E a b=true↔Way (fun a b=>Uh (E.take 24) a b=true) a b:=Qu (dF _) a b
theorem gK (E:List Int)(ide:Nat)(hE:∀x∈E,sY x)(I:St):ACalls Tryz.prog 26 [sl ide E.length (icells E)] I fun r I'=>∃o,r=ptr o 0/\I.nobj<=o/\o<I'.nobj/\I'.obj o=Gf (Uh (E.take 24)) (W6 E)/\Keep I I':=by
 have be:=A8 E;have au:=fun (x:Int) (hx:x∈E) I=>Fc x 64 (hE x hx).1 (hE x hx).2 Ad6 Ad6 I;have ba:=Nq;have bm:¬((8:Int)=0):=by decide
 have a3:∀A B,List.take 64 (Gf A B)=Kv A:=fun A B=>by unfold Gf;rw[<-Dc A,List.take_left]
 have bb:∀A B C,lsp (Gf A B) 64 (Kv C)=Gf A C:=fun A B C=>by
  rw[Gb _ _ _ (by rw[Nq,Dc];omega),Dc,List.drop_of_length_le (by rw[Nq];omega),a3,Abz];rfl
 have bi:=Dc;have bl:∀A,(Kv A).all flat=true:=fun A=>by simp[Kv,Abl,flat];intro x _;rfl
 refine Z9 90 [.tmp 2] Tryz.func26 ?_
 repeat' (first|refine Z1 ?_|(refine Z8 ?_;intro κ hκ)|(refine Z4 ?_;clear hκ κ)|(refine Z2 ?_ ?_<;>intro h aa<;>try exact Xp)|refine Z7 ?_|exact⟨⟩|(apply hκ.out;clear hκ κ))
 refine Ad (fun m s I'=>∃(i:Nat),m=24-i/\i<=24/\i<=E.length/\s 0=sl ide E.length (icells E)/\s 3=ptr I.nobj 0/\s 4=ic i/\Keep I I'/\I.nobj<I'.nobj/\I'.obj I.nobj=Gf (Uh (E.take i)) (fun _ _=>false)) 24
  ⟨0,Ad6,Ad6,Ad6,by simp[upd,initS],Ad8,Ad8,Xs,Aea,?_⟩ ?_
 ·rw[Ao,nQ,List.take_zero];rfl
 rintro m s I' ⟨i,rfl,hi,bd,h0,h3,h4,hK,ab,ob⟩;have aw:=hK.nobj;by_cases aj:i<E.length/\i<24
 ·obtain⟨az,bc⟩:=aj;have ad:=List.getElem?_eq_getElem az;obtain⟨r,hd⟩:=Co ad;have ax:=Ac2 az;generalize E[i]=x at ad hd ax;have a7:=au x ax;have ay:=Fu x (n:=64) Ad6;obtain⟨ea,am⟩:∃a:Nat,Gv x 64 / 8=(a:Int):=⟨(Gv x 64 / 8).toNat,Ad6⟩;obtain⟨eb,ak⟩:∃b:Nat,Gv x 64 % 8=(b:Int):=⟨(Gv x 64 % 8).toNat,Ad6⟩;have a9:(Gv x 64).tdiv 8=(ea:Int):=by rw[Int.tdiv_eq_ediv_of_nonneg ay.1,am]
  have a8:(Gv x 64).tmod 8=(eb:Int):=by rw[Int.tmod_eq_emod_of_nonneg ay.1,ak]
  have hS:=nR (Uh (E.take i)) (fun _ _=>false) (i:=ea) (k:=eb) Ad6 Ad6 true;have HT:Aec (Uh (E.take (i+1))=set2 (Uh (E.take i)) ea eb true):=by rw[Aec,Abv,ad,Ac5,rV _ _ _ _ am ak]
  have a5:ea<8:=Ad6;have a4:eb<8:=Ad6;have bh:decide ((i:Int)<(E.length:Int))=true:=by rw[Ad3];omega
  have bg:decide ((i:Int)<24)=true:=by rw[Ad3];omega
  clear ad au am ak;generalize Gv x 64=q at*
  repeat' (first|refine Z1 ?_|(refine Z8 ?_;intro κ hκ)|(refine Z4 ?_;clear hκ κ)|(refine Z2 ?_ ?_<;>intro h aa<;>try exact Xp)|(refine Z5 ?_;refine Xi (a7 _) ?_;rintro _ _ ⟨rfl,rfl⟩)|refine Z7 ?_|exact⟨⟩|(apply hκ.out;clear hκ κ))
  refine⟨24-(i+1),Ad6,i+1,?_⟩;rw[HT.out]
  first|exact⟨rfl,Ad6,Ad6,by simp,hK.put (Abf _) _,Ad6,rfl⟩|exact⟨rfl,Ad6,Ad6,by simp,hK.put (Abf _) _,rfl⟩|exact⟨rfl,Ad6,Ad6,by simp,hK.put (Abf _) _,Ad6⟩|exact⟨rfl,Ad6,Ad6,by simp,hK.put (Abf _) _⟩|trace_state
 ·have HE:Aec (E.take i=E.take 24):=by
   rw[Aec];by_cases e:i=24
   ·rw[e]
   ·have:i=E.length:=Ad6;rw[this,Abt,Acr Ad6]
  rw[HE.out]at ob;have a0:Aec (W6 E=E5 8 (Uh (E.take 24)) 8):=rfl;have an:(decide ((i:Int)<(E.length:Int))=true->decide ((i:Int)<24)=false):=fun h=>by
   rw[Ad3]at h;rw[decide_eq_false_iff_not];omega
  clear au HE;generalize Uh (E.take 24)=M0 at*
  cases a6:decide ((i:Int)<(E.length:Int))with
  |true=>
   have bf:=an a6;clear an aj
   repeat' (first|refine Z1 ?_|(refine Z8 ?_;intro κ hκ)|(refine Z4 ?_;clear hκ κ)|(refine Z2 ?_ ?_<;>intro h aa<;>try exact Xp)|refine Z7 ?_|exact⟨⟩|(apply hκ.out;clear hκ κ))
   refine Ad (fun q s I2=>∃m:Nat,q=8-m/\m<=8/\s 3=ptr I.nobj 0/\s 6=ic m/\Keep I I2/\I.nobj<I2.nobj/\I2.obj I.nobj=Gf M0 (E5 8 M0 m)) 8
    ⟨0,Ad6,Ad6,Ad7,Ad8,hK.put (Abf _) _,by simp only[Ab];omega,by rw[Ak];rfl⟩ ?_
   clear h0 h3 h4 hK ab ob aw;rintro q s I2 ⟨m,rfl,hm,h3,h6,hK,ab,ob⟩;by_cases af:m<8
   ·generalize ai:E5 8 M0 m=M at ob;have av:Aec _:=ai;clear ai
    repeat' (first|refine Z1 ?_|(refine Z8 ?_;intro κ hκ)|(refine Z4 ?_;clear hκ κ)|(refine Z2 ?_ ?_<;>intro h aa<;>try exact Xp)|refine Z7 ?_|exact⟨⟩|(apply hκ.out;clear hκ κ))
    refine Ad (fun q s I2=>∃(a:Nat) (W:Nat->Nat->Bool),q=8-a/\a<=8/\s 3=ptr I.nobj 0/\s 6=ic m/\s 7=ic a/\Keep I I2/\I.nobj<I2.nobj/\I2.obj I.nobj=Gf M0 W/\part 8 M m a 0 W) 8
     ⟨0,M,Ad6,Ad6,Ad7,Ad7,Ad8,hK,ab,ob,Oi⟩ ?_
    clear hK ab ob h3 h6;rintro q s I2 ⟨a,W,rfl,ha,h3,h6,h7,hK,ab,ob,hW⟩;by_cases ah:a<8
    ·repeat' (first|refine Z1 ?_|(refine Z8 ?_;intro κ hκ)|(refine Z4 ?_;clear hκ κ)|(refine Z2 ?_ ?_<;>intro h aa<;>try exact Xp)|refine Z7 ?_|exact⟨⟩|(apply hκ.out;clear hκ κ))
     refine Ad (fun q s I2=>∃(b:Nat) (W:Nat->Nat->Bool),q=8-b/\b<=8/\s 3=ptr I.nobj 0/\s 6=ic m/\s 7=ic a/\s 8=ic b/\Keep I I2/\I.nobj<I2.nobj/\I2.obj I.nobj=Gf M0 W/\part 8 M m a b W) 8
      ⟨0,W,Ad6,Ad6,Ad7,Ad7,Ad7,Ad8,hK,ab,ob,hW⟩ ?_
     clear hK ab ob h3 h6 h7 hW;rintro q s I2 ⟨b,W,rfl,hb,h3,h6,h7,h8,hK,ab,ob,hW⟩;by_cases ac:b<8
     ·obtain⟨v1,v2,v3⟩:=M8 hW ac af;have g1:=Ge M0 W (i:=a) (k:=b) ah ac;have g2:=Ge M0 W (i:=a) (k:=m) ah af;have g3:=Ge M0 W (i:=m) (k:=b) af ac;have HV:Aec (W a b=M a b/\W a m=M a m/\W m b=M m b):=⟨v1,v2,v3⟩;clear v1 v2 v3
      repeat' (first|refine Z1 ?_|(refine Z8 ?_;intro κ hκ)|(refine Z4 ?_;clear hκ κ)|(refine Z2 ?_ ?_<;>intro h aa<;>try exact Xp)|refine Z7 ?_|exact⟨⟩|(apply hκ.out;clear hκ κ))
      refine A1 Ah (fun _=>True) [35] [0,1,2,3,4,5,6,7,8,9,10,11,12,13,14,15,16,17,18,19,20,21,22,23,24,25,26,27,28,29,30,31,32,33] [34,35] Ad9 (fun _ _ _ h=>h) ?_;intro κ hκ;refine Z7 ?_
      repeat' (first|refine Z1 ?_|(refine Z8 ?_;intro κ hκ)|(refine Z4 ?_;clear hκ κ)|(refine Z2 ?_ ?_<;>intro h aa<;>try exact Xp)|refine Z7 ?_|exact⟨⟩|(apply hκ.out;clear hκ κ))
      all_goals exact⟨8-(b+1),Ad6,b+1,_,rfl,Ad6,by simp,hK.put (Abf _) _,Wp M0 W ah ac _,Sb hW (by obtain⟨e1,e2,e3⟩:=HV.out;rw[fw,<-e1,<-e2,<-e3];simp[*])⟩
     ·have ao:b=8:=Ad6;subst ao
      repeat' (first|refine Z1 ?_|(refine Z8 ?_;intro κ hκ)|(refine Z4 ?_;clear hκ κ)|(refine Z2 ?_ ?_<;>intro h aa<;>try exact Xp)|refine Z7 ?_|exact⟨⟩|(apply hκ.out;clear hκ κ))
      exact⟨8-(a+1),Ad6,a+1,W,rfl,Ad6,by simp,rfl,Sc hW⟩
    ·have ap:a=8:=Ad6;subst ap
     repeat' (first|refine Z1 ?_|(refine Z8 ?_;intro κ hκ)|(refine Z4 ?_;clear hκ κ)|(refine Z2 ?_ ?_<;>intro h aa<;>try exact Xp)|refine Z7 ?_|exact⟨⟩|(apply hκ.out;clear hκ κ))
     refine⟨8-(m+1),Ad6,m+1,rfl,Ad6,by simp,?_⟩;rw[Sd hW,<-av.out];rfl
   ·have ae:m=8:=Ad6;subst ae
    repeat' (first|refine Z1 ?_|(refine Z8 ?_;intro κ hκ)|(refine Z4 ?_;clear hκ κ)|(refine Z2 ?_ ?_<;>intro h aa<;>try exact Xp)|refine Z7 ?_|exact⟨⟩|(apply hκ.out;clear hκ κ))
    exact⟨_,rfl,I.nobj,rfl,Abf _,ab,by rw[a0.out];exact ob⟩
  |false=>
   clear an aj
   repeat' (first|refine Z1 ?_|(refine Z8 ?_;intro κ hκ)|(refine Z4 ?_;clear hκ κ)|(refine Z2 ?_ ?_<;>intro h aa<;>try exact Xp)|refine Z7 ?_|exact⟨⟩|(apply hκ.out;clear hκ κ))
   refine Ad (fun q s I2=>∃m:Nat,q=8-m/\m<=8/\s 3=ptr I.nobj 0/\s 6=ic m/\Keep I I2/\I.nobj<I2.nobj/\I2.obj I.nobj=Gf M0 (E5 8 M0 m)) 8
    ⟨0,Ad6,Ad6,Ad7,Ad8,hK.put (Abf _) _,by simp only[Ab];omega,by rw[Ak];rfl⟩ ?_
   clear h0 h3 h4 hK ab ob aw;rintro q s I2 ⟨m,rfl,hm,h3,h6,hK,ab,ob⟩;by_cases af:m<8
   ·generalize ai:E5 8 M0 m=M at ob;have av:Aec _:=ai;clear ai
    repeat' (first|refine Z1 ?_|(refine Z8 ?_;intro κ hκ)|(refine Z4 ?_;clear hκ κ)|(refine Z2 ?_ ?_<;>intro h aa<;>try exact Xp)|refine Z7 ?_|exact⟨⟩|(apply hκ.out;clear hκ κ))
    refine Ad (fun q s I2=>∃(a:Nat) (W:Nat->Nat->Bool),q=8-a/\a<=8/\s 3=ptr I.nobj 0/\s 6=ic m/\s 7=ic a/\Keep I I2/\I.nobj<I2.nobj/\I2.obj I.nobj=Gf M0 W/\part 8 M m a 0 W) 8
     ⟨0,M,Ad6,Ad6,Ad7,Ad7,Ad8,hK,ab,ob,Oi⟩ ?_
    clear hK ab ob h3 h6;rintro q s I2 ⟨a,W,rfl,ha,h3,h6,h7,hK,ab,ob,hW⟩;by_cases ah:a<8
    ·repeat' (first|refine Z1 ?_|(refine Z8 ?_;intro κ hκ)|(refine Z4 ?_;clear hκ κ)|(refine Z2 ?_ ?_<;>intro h aa<;>try exact Xp)|refine Z7 ?_|exact⟨⟩|(apply hκ.out;clear hκ κ))
     refine Ad (fun q s I2=>∃(b:Nat) (W:Nat->Nat->Bool),q=8-b/\b<=8/\s 3=ptr I.nobj 0/\s 6=ic m/\s 7=ic a/\s 8=ic b/\Keep I I2/\I.nobj<I2.nobj/\I2.obj I.nobj=Gf M0 W/\part 8 M m a b W) 8
      ⟨0,W,Ad6,Ad6,Ad7,Ad7,Ad7,Ad8,hK,ab,ob,hW⟩ ?_
     clear hK ab ob h3 h6 h7 hW;rintro q s I2 ⟨b,W,rfl,hb,h3,h6,h7,h8,hK,ab,ob,hW⟩;by_cases ac:b<8
     ·obtain⟨v1,v2,v3⟩:=M8 hW ac af;have g1:=Ge M0 W (i:=a) (k:=b) ah ac;have g2:=Ge M0 W (i:=a) (k:=m) ah af;have g3:=Ge M0 W (i:=m) (k:=b) af ac;have HV:Aec (W a b=M a b/\W a m=M a m/\W m b=M m b):=⟨v1,v2,v3⟩;clear v1 v2 v3
      repeat' (first|refine Z1 ?_|(refine Z8 ?_;intro κ hκ)|(refine Z4 ?_;clear hκ κ)|(refine Z2 ?_ ?_<;>intro h aa<;>try exact Xp)|refine Z7 ?_|exact⟨⟩|(apply hκ.out;clear hκ κ))
      refine A1 Ah (fun _=>True) [35] [0,1,2,3,4,5,6,7,8,9,10,11,12,13,14,15,16,17,18,19,20,21,22,23,24,25,26,27,28,29,30,31,32,33] [34,35] Ad9 (fun _ _ _ h=>h) ?_;intro κ hκ;refine Z7 ?_
      repeat' (first|refine Z1 ?_|(refine Z8 ?_;intro κ hκ)|(refine Z4 ?_;clear hκ κ)|(refine Z2 ?_ ?_<;>intro h aa<;>try exact Xp)|refine Z7 ?_|exact⟨⟩|(apply hκ.out;clear hκ κ))
      all_goals exact⟨8-(b+1),Ad6,b+1,_,rfl,Ad6,by simp,hK.put (Abf _) _,Wp M0 W ah ac _,Sb hW (by obtain⟨e1,e2,e3⟩:=HV.out;rw[fw,<-e1,<-e2,<-e3];simp[*])⟩
     ·have ao:b=8:=Ad6;subst ao
      repeat' (first|refine Z1 ?_|(refine Z8 ?_;intro κ hκ)|(refine Z4 ?_;clear hκ κ)|(refine Z2 ?_ ?_<;>intro h aa<;>try exact Xp)|refine Z7 ?_|exact⟨⟩|(apply hκ.out;clear hκ κ))
      exact⟨8-(a+1),Ad6,a+1,W,rfl,Ad6,by simp,rfl,Sc hW⟩
    ·have ap:a=8:=Ad6;subst ap
     repeat' (first|refine Z1 ?_|(refine Z8 ?_;intro κ hκ)|(refine Z4 ?_;clear hκ κ)|(refine Z2 ?_ ?_<;>intro h aa<;>try exact Xp)|refine Z7 ?_|exact⟨⟩|(apply hκ.out;clear hκ κ))
     refine⟨8-(m+1),Ad6,m+1,rfl,Ad6,by simp,?_⟩;rw[Sd hW,<-av.out];rfl
   ·have ae:m=8:=Ad6;subst ae
    repeat' (first|refine Z1 ?_|(refine Z8 ?_;intro κ hκ)|(refine Z4 ?_;clear hκ κ)|(refine Z2 ?_ ?_<;>intro h aa<;>try exact Xp)|refine Z7 ?_|exact⟨⟩|(apply hκ.out;clear hκ κ))
    exact⟨_,rfl,I.nobj,rfl,Abf _,ab,by rw[a0.out];exact ob⟩
def Mq (W:Nat->Nat->Bool)(p:Tx)(base:Int)(yes:Bool)(k:Nat):Tx:=((List.range k).filter fun n=>W (n / 8) (n % 8)==yes).flatMap fun n=>pairT p base ((n / 8:Nat):Int) ((n % 8:Nat):Int)
theorem mB (W:Nat->Nat->Bool)(p:Tx)(base:Int)(yes:Bool){a b:Nat}(hb:b<8):Mq W p base yes (8*a+b+1)=Mq W p base yes (8*a+b)++if (W a b==yes)=true then pairT p base (a:Int) (b:Int)else []:=by
 unfold Mq;have h1:(8*a+b) / 8=a:=Ad6;have h2:(8*a+b) % 8=b:=Ad6;rw[List.range_succ,Adp,Adx];congr 1;simp only[Adh,List.filter_nil,h1,h2];split
 ·simp only[Acz,List.flatMap_nil,Abz,h1,h2]
 ·rfl
theorem gJ (o:Nat)(E W:Nat->Nat->Bool)(p:Tx)(base:Int)(yes:Bool)(hp:p.length<=100)(hb:sY base)(I:St)(ob:I.obj o=Gf E W)(ho:o<I.nobj):ACalls Tryz.prog 30 [ptr o 0,str p,ic base,sc (.bool yes)] I fun r I'=>r=str (Mq W p base yes 64)/\I'=I:=by
 have ak:=Nq E W;have ad:=fun (a b:Int) h1 h2 h3 h4 I=>S2 p base a b hp hb.1 hb.2 h1 h2 h3 h4 I;have am:({data:=#[]}:ByteArray)=bs []:=rfl;refine Z9 38 [.tmp 8] Tryz.func30 ?_
 repeat' (first|refine Z1 ?_|(refine Z8 ?_;intro κ hκ)|(refine Z4 ?_;clear hκ κ)|(refine Z2 ?_ ?_<;>intro h aa<;>try exact Xp)|refine Z7 ?_|exact⟨⟩|(apply hκ.out;clear hκ κ))
 refine Ad (fun m s I'=>∃(a:Nat) (T:Tx),m=8-a/\a<=8/\s 0=ptr o 0/\s 1=str p/\s 2=ic base/\s 3=sc (.bool yes)/\s 9=str T/\s 10=ic a/\I'=I/\T.length<=a*1600/\Aec (T=Mq W p base yes (8*a))) 8
  ⟨0,[],Ad6,Ad6,by simp[upd,initS],by simp[upd,initS],by simp[upd,initS],by simp[upd,initS],Ad8,Ad8,rfl,by simp,by simp[Aec,Mq]⟩ ?_
 rintro m s I' ⟨a,T,rfl,ha,h0,h1,h2,h3,h9,ae,rfl,ac,hT⟩;by_cases af:a<8
 ·repeat' (first|refine Z1 ?_|(refine Z8 ?_;intro κ hκ)|(refine Z4 ?_;clear hκ κ)|(refine Z2 ?_ ?_<;>intro h aa<;>try exact Xp)|refine Z7 ?_|exact⟨⟩|(apply hκ.out;clear hκ κ))
  refine Ad (fun m s I2=>∃(b:Nat) (T:Tx),m=8-b/\b<=8/\s 0=ptr o 0/\s 1=str p/\s 2=ic base/\s 3=sc (.bool yes)/\s 9=str T/\s 10=ic a/\s 11=ic b/\I2=I'/\T.length<=a*1600+b*200/\Aec (T=Mq W p base yes (8*a+b))) 8
   ⟨0,T,Ad6,Ad6,Ad7,Ad7,Ad7,Ad7,Ad7,Ad7,Ad8,rfl,Ad6,by simpa using hT⟩ ?_
  clear h0 h1 h2 h3 h9 ae ac hT;rintro m s I2 ⟨b,T,rfl,an,h0,h1,h2,h3,h9,ae,ao,rfl,ac,hT⟩;by_cases ab:b<8
  ·have g1:=Ge E W (i:=a) (k:=b) af ab;have hP:=ad (a:Int) (b:Int) Ad6 Ad6 Ad6 Ad6;have hpl:=V7 hp base (a:=(a:Int)) (b:=(b:Int)) Ad6 Ad6 Ad6 Ad6;have HS:Aec _:=mB W p base yes (a:=a) ab;clear ad;generalize pairT p base (a:Int) (b:Int)=px at*
   generalize W a b=w at*
   repeat' (first|refine Z1 ?_|(refine Z8 ?_;intro κ hκ)|(refine Z4 ?_;clear hκ κ)|(refine Z2 ?_ ?_<;>intro h aa<;>try exact Xp)|(refine Z5 ?_;refine Xi (hP _) ?_;rintro _ _ ⟨rfl,rfl⟩)|refine Z7 ?_|exact⟨⟩|(apply hκ.out;clear hκ κ))
   ·exact⟨8-(b+1),Ad6,b+1,T++px,rfl,Ad6,rfl,by simp,by simp;omega,by rw[Aec,<-Abu,HS.out,if_pos (by assumption),hT.out]⟩
   ·exact⟨8-(b+1),Ad6,b+1,T,rfl,Ad6,rfl,by simp,Ad6,by rw[Aec,<-Abu,HS.out,if_neg (by rw[h];simp),hT.out,Abz]⟩
  ·have ah:b=8:=Ad6;subst ah;have aj:Aec (T=Mq W p base yes (8*(a+1))):=by rw[Aec,hT.out];rfl
   repeat' (first|refine Z1 ?_|(refine Z8 ?_;intro κ hκ)|(refine Z4 ?_;clear hκ κ)|(refine Z2 ?_ ?_<;>intro h aa<;>try exact Xp)|refine Z7 ?_|exact⟨⟩|(apply hκ.out;clear hκ κ))
   exact⟨8-(a+1),Ad6,a+1,T,rfl,Ad6,rfl,by simp,Ad6,aj⟩
 ·have ai:a=8:=Ad6;subst ai
  repeat' (first|refine Z1 ?_|(refine Z8 ?_;intro κ hκ)|(refine Z4 ?_;clear hκ κ)|(refine Z2 ?_ ?_<;>intro h aa<;>try exact Xp)|refine Z7 ?_|exact⟨⟩|(apply hκ.out;clear hκ κ))
  exact⟨_,rfl,by rw[hT.out]⟩
set_option maxRecDepth 1000000
def at2 (nt:Bool)(p a b:UInt8):Ai:=⟨nt,[p],[[a],[b]]⟩
def oi (p:UInt8):RItem:=⟨true,⟨false,[p],[]⟩,[]⟩
def itm0:List RItem:=[⟨false,at2 false 112 65 66,[at2 false 101 65 66]⟩,⟨false,at2 false 112 65 66,[at2 false 101 65 67,at2 false 112 67 66]⟩]
end Go.Proofs.YtmoeoppbmhfbpabGreatDoorJ
