import Derived.Test.YtmoeoppbmhfbpabGreatDoorLSpaA
import Derived.Test.YtmoeoppbmhfbpabGreatDoorLProgM
import Derived.Test.YtmoeoppbmhfbpabGreatDoorLShelf
import Derived.Test.YtmoeoppbmhfbpabGreatDoorLFacts
import Derived.Test.YtmoeoppbmhfbpabGreatDoorLAbsWp
set_option maxHeartbeats 16000000
set_option maxRecDepth 100000
set_option linter.all false
namespace Go.Proofs.YtmoeoppbmhfbpabGreatDoorL
open Go.Abs
structure Right (t:Tx)(N:List Tx)(l:List RItem)(cs:List AV):Prop where
 ok:(As t).1=0
 len:t.length<=600
 parse:Bq 16 t= .got l []
 bk:Bk N l cs
 wit:∀x∈l,Ck x
theorem Right.items {t:Tx}{N:List Tx}{l:List RItem}{cs:List AV}(h:Right t N l cs):Cv t=l:=(Iu (by have:=h.len;omega) h.parse).2.1
theorem Right.wi {t:Tx}{N:List Tx}{l:List RItem}{cs:List AV}(h:Right t N l cs):∀x∈l,WI N x:=Afd (by have:=h.len;omega) h.parse h.bk h.wit
theorem Afx {x:RItem}(hw:Ck x):(A4 x).length<=18:=by
 have h3:=U9 ((Ae x).flatMap (·.terms)) [];obtain⟨q1,q2,q3⟩:=hw;have h4:(Ae x).length<=6/\∀b∈Ae x,b.terms.length<=3:=by
  cases ho:x.out with
  |true=>
   obtain⟨-,-,e⟩:=q2 ho;simp[Ae,ho,e]
  |false=>
   obtain⟨e1,-,e2,e3⟩:=q3 ho;refine⟨by simp[Ae,ho];omega,fun b hb=>?_⟩;simp[Ae,ho]at hb;rcases hb with rfl|hb
   ·exact e1.2.2.1
   ·exact (e3 b hb).2.2.1
 have h5:=iW h4.2;unfold A4;rw[Ahx,Ahn]at h3;omega
theorem Kx {p:Nat->Bool}{n:Nat}(h:¬0<=Bh p n):∀i,i<n->p i=false:=by
 intro i hi;unfold Bh at h;split at h
 ·rename_i j hj;exact absurd (Aiu j) h
 ·rename_i hn;rw[Ah1]at hn;simpa using hn i (by simpa using hi)
theorem Zb {t:Tx}(h:(As t).1=0):∀x∈Cv t,∀a∈Ae x,∀b∈Ae x,a.pred=b.pred->a.terms.length=b.terms.length:=by
 have aa:∀i,i<(Cv t).length->H6 (Cv t) i=false:=by
  unfold As at h;split at h
  ·simp at h
  split at h
  ·simp at h
  unfold Cd at h;split at h
  ·simp at h
  ·rename_i hk;exact Kx hk
 intro x hx a ha b hb he;obtain⟨i,hi⟩:=Aif hx;have h1:=aa i (Agy.1 hi).1;unfold H6 at h1;rw[hi]at h1;simp only[Aim,List.mem_range]at h1;obtain⟨j,hj⟩:=Aif ha;obtain⟨k,hk⟩:=Aif hb;have ae:=(Agy.1 hj).1;have ad:=(Agy.1 hk).1;have key:∀(j k:Nat) (a b:RAtom),(Ae x)[j]?=some a->(Ae x)[k]?=some b->k<j->a.pred=b.pred->a.terms.length=b.terms.length:=by
  intro j k a b hj hk ab he;have h2:=h1 j (Agy.1 hj).1;unfold Rp at h2;rw[hj]at h2;simp only[Ahz,not_exists,not_and]at h2
  have h3:=h2 b (by
   unfold Df
   exact Ah8.2 (.inr (Ag1 (i:=k) (by rw[Agw,if_pos ab];exact hk))))
  unfold clash at h3;simp[he]at h3;exact h3.symm
 rcases Nat.lt_trichotomy j k with ab|rfl|ac
 ·exact (key k j b a hk hj ab he.symm).symm
 ·rw[hj]at hk;cases hk;rfl
 ·exact key j k a b hj hk ac he
theorem Yb {t:Tx}(h:UT t):VT t:=by
 cases hv:Ad t with
 |true=>
  obtain⟨k,hk,rfl,-⟩:=h.enc hv;exact .inl ⟨_,rfl,Eh Aj6 Aj6⟩
 |false=>
  refine .inr ⟨h.2.1.1,fun b hb=>?_⟩;rcases h.2.1.2 b hb with q|q
  ·exfalso;rcases h.1 with h1|⟨-,h1,h2,h3⟩
   ·rw[hv]at h1;cases h1
   ·have hd:∀(u:Nat),∀c∈Lib.decDigits u,c.toNat<=57:=by
     intro u;induction u using Nat.strongRecOn with
     |_ u ih=>
      intro c hc;by_cases ab:u<10
      ·rw[Lib.decDigits_one ab]at hc;simp only[Ait]at hc;subst hc;rw[UInt8.toNat_ofNat_of_lt' (by show 48+u<256;omega)];omega
      ·rw[Lib.decDigits,dif_neg ab]at hc;rcases Ah8.1 hc with q|q
       ·exact ih (u / 10) Aj6 c q
       ·simp only[Ait]at q;subst q;rw[UInt8.toNat_ofNat_of_lt' (by show 48+u % 10<256;omega)];omega
    have aa:b∈Lib.itoa (Ak t).2:=by rw[h1];exact hb
    unfold Lib.itoa at aa;rw[if_neg Aj6]at aa;have:=hd _ b aa;simp[Bl]at q;omega
  ·exact q
theorem dL {α:Type}(g h:α->Tx):∀l:List α,(∀a∈l,(g a).length<=(h a).length)->(Bz (l.map g)).length<=(Bz (l.map h)).length
 |[],_=>by simp[Bz]
 |a::l,hl=>by
  have h1:=dL g h l fun b hb=>hl b (by simp[hb]);have h2:=hl a (by simp);unfold Bz at*
  simp only[Ahj,Aik,Aho,Ahy];omega
theorem dM {α:Type}(g h:α->Tx):∀l:List α,(∀a∈l,(g a).length<=(h a).length)->(Bj (l.map g)).length<=(Bj (l.map h)).length
 |[],_=>by simp[Bj]
 |a::l,hl=>by
  have h1:=dL g h l fun b hb=>hl b (by simp[hb]);have h2:=hl a (by simp);simp only[Ahj,Bj,Aho];omega
theorem Ad1 {l:List Tx}{t:Tx}(h:Nt t):(Gt l t).length<=t.length:=by
 unfold Gt;split
 ·have:=Aiw.2 h.1;simp only[Ahy,Ahx];omega
 ·exact Agn _
theorem dP {l:List Tx}{a:RAtom}(h:D1 a):(A6 (Cs l a)).length<=(A6 a).length:=by
 have h1:=dM (Gt l) id a.terms fun t ht=>Ad1 (h.2.2.2 t ht);rw[Aic]at h1;unfold A6 Cs;simp only[Aho,Ahy,Ahx];omega
theorem Aa8 {l:List Tx}{a:RAtom}(h:D1 a):(B8 (Cs l a)).length<=(B8 a).length:=by
 have h1:=dP (l:=l) h;unfold B8;rw[Aho,Aho];show (if a.nt=true then [33]else ([]:Tx)).length+_<=_;omega
theorem vG {x:RItem}(h:Ck x):(Bc (ren x)).length<=(Bc x).length:=by
 unfold Bc;cases ho:x.out with
 |true=>
  rw[if_pos (by simp[ren,ho]),if_pos rfl];simp[ren,Cs]
 |false=>
  obtain⟨q1,-,-,q3⟩:=h.2.2 ho;rw[if_neg (by simp[ren,ho]),if_neg (by simp)];have h1:=dP (l:=A4 x) q1;have h2:=dM (fun a=>B8 (Cs (A4 x) a)) B8 x.body fun a ha=>Aa8 (q3 a ha);unfold Dh;show (A6 (Cs (A4 x) x.head)++(if x.body.map (Cs (A4 x))=[]then []else 58::45::Bj ((x.body.map (Cs (A4 x))).map B8))).length<=_;rw[Ahg,Aho,Aho];by_cases hb:x.body=[]
  ·rw[if_pos (by simp[hb]),if_pos hb];simpa using h1
  ·rw[if_neg (by simpa using hb),if_neg hb];simp only[Ahy];have h3:(Bj (x.body.map (B8∘Cs (A4 x)))).length<=(Bj (x.body.map B8)).length:=h2;omega
theorem Ye:∀l:List RItem,(∀x∈l,Ck x)->(Bu (l.map ren)).length<=(Bu l).length
 |[],_=>by simp[Bu]
 |x::l,h=>by
  have h1:=Ye l fun y hy=>h y (by simp[hy]);have h2:=vG (h x (by simp));unfold Bu at*
  simp only[Ahj,Aik,Aho,Ahy,Ahx];omega
theorem Rk {t:Tx}(he:(As t).1=0):t.length<=600/\∃l r,Bq 16 t= .got l r:=by
 have aa:t.length<=600:=by
  by_cases hl:600<t.length
  ·unfold As at he;rw[if_pos hl]at he;simp at he
  ·omega
 refine⟨aa,?_⟩;have hp:=Kq t;cases h:Bq 16 t with
 |got l r=>exact⟨l,r,rfl⟩
 |bad e=>
  rw[h]at hp;have hp:N5 t=((t.length-e.length:Nat):Int):=hp;unfold As at he;rw[if_neg Aj6,hp,if_pos (Aiu _)]at he;simp at he
abbrev Tm:=Bool×Int
structure De where
 p:Int
 ts:List Tm
abbrev Bb:=List Int
abbrev ic (n:Int):AV:=sc (.int .i64 n)
def I3 (t:Tm):List AV:=[sc (.bool t.1),ic t.2]
def Ac (ts:List Tm):List AV:=ts.flatMap I3
theorem Ch (ts:List Tm):(Ac ts).length=ts.length*2:=by
 induction ts with
 |nil=>rfl
 |cons a l ih=>unfold Ac at*;rw[Aik,Aho,ih];simp[I3];omega
theorem Rz (ts:List Tm)(x:Tm):Ac (ts++[x])=Ac ts++I3 x:=by simp[Ac]
theorem Cl {ts:List Tm}{k:Nat}{w:Tm}(h:ts[k]?=some w):∃r,(Ac ts).drop (k*2)=sc (.bool w.1)::ic w.2::r:=by
 have hE:∀ts:List Tm,EL (fun w c=>c=I3 w) ts (Ac ts):=by
  intro ts;induction ts with
  |nil=>rfl
  |cons a l ih=>exact⟨I3 a,Ac l,rfl,ih,by simp[Ac]⟩
 obtain⟨c,r,rfl,e⟩:=EL.get (z:=2) (fun a c h=>by rw[h];rfl) (hE ts) h;exact⟨r,e⟩
def Iz (ts:List Tm)(v:Int):Int:=if (true,v)∈ts then (ts.idxOf (true,v):Nat)else -1
theorem Vt {α:Type}[BEq α][LawfulBEq α]{l:List α}{i:Nat}{x:α}(h:l[i]?=some x)(hn:x∉l.take i):l.idxOf x=i:=by
 have hi:=(Agy.1 h).1;have:l=l.take i++l.drop i:=(Aje i l).symm;rw[this,List.idxOf_append,if_neg hn,Ahp,Ahu Aj6,Ah0 hi];have:=(Agy.1 h).2;simp[this]
theorem Abw {ts:List Tm}{v:Int}{i:Nat}(h:ts[i]?=some (true,v))(hn:(true,v)∉ts.take i):Iz ts v=i:=by
 unfold Iz;rw[if_pos (Ag1 h),Vt h hn]
theorem J1 {ts:List Tm}{v:Int}(hn:(true,v)∉ts):Iz ts v= -1:=if_neg hn
theorem Va {α:Type}{l:List α}{i:Nat}{x y:α}(h:x∉l.take i)(hi:l[i]?=some y)(hy:y≠x):x∉l.take (i+1):=by
 rw[Ahd,hi];simp only[Ais,Ah8,Ait,not_or];exact⟨h,fun e=>hy e.symm⟩
theorem F9 (p:Int)(ids:Nat)(ts:List Tm)(v:Int)(hn:ts.length<=1000)(d:St):ACalls Tryz.prog 217 [ag [ic p,sl ids ts.length (Ac ts)],ic v] d fun r d'=>r=ic (Iz ts v)/\Keep d d':=by
 have af:=Ch ts;refine Z9 25 [.tmp 4] Tryz.func217 ?_
 repeat' (first|refine Z1 ?_|(refine Z8 ?_;intro yb ya)|(refine Z4 ?_;clear ya yb)|refine Z3 ?_|exact Zt|(apply ya.out;clear ya yb))
 refine Af (fun m s d'=>∃i:Nat,m=ts.length-i/\i<=ts.length/\s 1=ic v/\s 8=sl ids ts.length (Ac ts)/\s 9=ic ts.length/\s 10=ic i/\Keep d d'/\Akc ((true,v)∉ts.take i)) ts.length
  ⟨0,Aj6,Aj6,rfl,rfl,rfl,rfl,Xs,by simp[Akc]⟩ ?_
 rintro m s d' ⟨i,rfl,hi,h1,h8,h9,ah,hK,ab⟩;by_cases ad:i<ts.length
 ·have aa:=Agz ad;obtain⟨r,hd⟩:=Cl aa;generalize ts[i]=w at hd aa;obtain⟨w1,w2⟩:=w;have HG:Akc (ts[i]?=some (w1,w2)):=aa;clear aa;have ae:=hK.nobj
  repeat' (first|refine Z1 ?_|(refine Z8 ?_;intro yb ya)|(refine Z4 ?_;clear ya yb)|(refine Z2 ?_ ?_<;>intro h ac<;>try exact Xp)|refine Z3 ?_|exact Zt|(apply ya.out;clear ya yb))
  ·have e:w1=true/\w2=v:=by simp_all
   obtain⟨rfl,rfl⟩:=e;exact⟨_,rfl,by rw[Abw HG.out ab.out],Xs⟩
  all_goals exact⟨ts.length-(i+1),Aj6,i+1,rfl,Aj6,by simp,Xs,Va ab.out HG.out (by simp_all)⟩
 ·have hil:i=ts.length:=Aj6;subst hil;rw[Ag7]at ab
  repeat' (first|refine Z1 ?_|(refine Z8 ?_;intro yb ya)|(refine Z4 ?_;clear ya yb)|(refine Z2 ?_ ?_<;>intro h ac<;>try exact Xp)|refine Z3 ?_|exact Zt|(apply ya.out;clear ya yb))
  first|exact⟨_,rfl,by rw[J1 ab.out],hK⟩|exact⟨_,rfl,by rw[J1 ab.out]⟩
def A7 (ts:List Tm)(v:Int):Bool:=decide ((true,v)∈ts)
theorem Abx (ts:List Tm)(v:Int):(Iz ts v != -1)=A7 ts v:=by
 unfold Iz A7;split<;>rename_i h<;>simp[h]
theorem Kc (p:Int)(ids:Nat)(ts:List Tm)(v:Int)(hn:ts.length<=1000)(d:St):ACalls Tryz.prog 232 [ag [ic p,sl ids ts.length (Ac ts)],ic v] d fun r d'=>r=sc (.bool (A7 ts v))/\Keep d d':=by
 have hp:=Abx ts v;refine Z9 9 [.tmp 4] Tryz.func232 ?_
 repeat' (first|refine Z1 ?_|(refine Z8 ?_;intro yb ya)|(refine Z4 ?_;clear ya yb)|(refine Z5 ?_;refine Xi (F9 _ _ _ _ hn _) ?_;rintro _ _ ⟨rfl,hK⟩)|refine Z3 ?_|exact Zt|(apply ya.out;clear ya yb))
 exact⟨_,rfl,rfl,Xs⟩
def Hw (ts:List Tm):Bool:=ts.all fun t=>!t.1
theorem Js (p:Int)(ids:Nat)(ts:List Tm)(hn:ts.length<=1000)(d:St):ACalls Tryz.prog 131 [ag [ic p,sl ids ts.length (Ac ts)]] d fun r d'=>r=sc (.bool (Hw ts))/\Keep d d':=by
 have ah:=Ch ts;refine Z9 15 [.tmp 2] Tryz.func131 ?_
 repeat' (first|refine Z1 ?_|(refine Z8 ?_;intro yb ya)|(refine Z4 ?_;clear ya yb)|(refine Z2 ?_ ?_<;>intro h ad<;>try exact Xp)|refine Z3 ?_|exact Zt|(apply ya.out;clear ya yb))
 refine Af (fun m s d'=>∃i:Nat,m=ts.length-i/\i<=ts.length/\s 6=sl ids ts.length (Ac ts)/\s 7=ic ts.length/\s 8=ic i/\Keep d d'/\Akc (Hw (ts.take i)=true)) ts.length
  ⟨0,Aj6,Aj6,rfl,rfl,rfl,Xs,by simp[Akc,Hw]⟩ ?_
 rintro m s d' ⟨i,rfl,hi,h6,h7,h8,hK,ab⟩;by_cases ae:i<ts.length
 ·have aa:=Agz ae;obtain⟨r,hd⟩:=Cl aa;have ac:=Ain ae;generalize ts[i]=w at hd aa ac;obtain⟨w1,w2⟩:=w;have HG:Akc (ts[i]?=some (w1,w2)/\(w1,w2)∈ts):=⟨aa,ac⟩;clear aa ac;have af:=hK.nobj
  repeat' (first|refine Z1 ?_|(refine Z8 ?_;intro yb ya)|(refine Z4 ?_;clear ya yb)|(refine Z2 ?_ ?_<;>intro h ad<;>try exact Xp)|refine Z3 ?_|exact Zt|(apply ya.out;clear ya yb))
  ·exact⟨_,rfl,by
    have:Hw ts=false:=by
     unfold Hw;rw[Ajg];exact⟨_,HG.out.2,by simp_all⟩
    rw[this],Xs⟩
  ·exact⟨ts.length-(i+1),Aj6,i+1,rfl,Aj6,by simp,Xs,by
    have ab:=ab.out;unfold Hw at ab;rw[Akc,Hw,Ahd,HG.out.1,List.all_append,ab]
    simp_all⟩
 ·have hil:i=ts.length:=Aj6;subst hil;rw[Ag7]at ab;have ab:=ab.out
  repeat' (first|refine Z1 ?_|(refine Z8 ?_;intro yb ya)|(refine Z4 ?_;clear ya yb)|(refine Z2 ?_ ?_<;>intro h ad<;>try exact Xp)|refine Z3 ?_|exact Zt|(apply ya.out;clear ya yb))
  first|exact⟨_,rfl,rfl,hK⟩|exact⟨_,rfl,rfl⟩
def C4 (l:List Int):Bb:=[(l[0]?).getD (-1),(l[1]?).getD (-1),(l[2]?).getD (-1)]
def Al (t:List Int):List AV:=t.map ic
theorem Ru (p:Int)(ids:Nat)(ts:List Tm)(hn:ts.length<=1000)(d:St):ACalls Tryz.prog 135 [ag [ic p,sl ids ts.length (Ac ts)]] d fun r d'=>r=ag (Al (C4 (ts.map (·.2))))/\Keep d d':=by
 have ak:=Ch ts;have af:∃L:Nat->Int,(∀i,L i=((ts[i]?).map (·.2)).getD (-1))/\Al (C4 (ts.map (·.2)))=[ic (L 0),ic (L 1),ic (L 2)]:=⟨fun i=>((ts[i]?).map (·.2)).getD (-1),fun _=>rfl,by simp[Al,C4]⟩;obtain⟨L,hL,hT⟩:=af;refine Z9 26 [.cell 2 141] Tryz.func135 ?_
 repeat' (first|refine Z1 ?_|(refine Z8 ?_;intro yb ya)|(refine Z4 ?_;clear ya yb)|(refine Z2 ?_ ?_<;>intro h ac<;>try exact Xp)|refine Z3 ?_|exact Zt|(apply ya.out;clear ya yb))
 refine Af (fun m s d'=>∃(i:Nat),m=3-i/\i<=3/\s 1=ptr d.nobj 0/\s 2=ptr (d.nobj+1) 0/\s 3=ptr (d.nobj+2) 0/\s 6=ic i/\Keep d d'/\d.nobj+2<d'.nobj/\d'.obj d.nobj=[ic p,sl ids ts.length (Ac ts)]/\d'.obj (d.nobj+1)=[ic 0,ic 0,ic 0]/\d'.obj (d.nobj+2)=[ic (if 0<i then L 0 else 0),ic (if 1<i then L 1 else 0),ic (if 2<i then L 2 else 0)]) 3
  ⟨0,Aj6,Aj6,Aj8,Aj8,Aj8,rfl,Xs,by simp only[Aa,Ab];omega,?_,?_,?_⟩ ?_
 ·rw[Ah Aj6,Ag Aka,Ag Aka,Ao]
 ·rw[Ah Aj6,Ag Aka,Bs Aka Aka]
 ·rw[show d.nobj+2=d.nobj+1+1 from rfl,Aj];rfl
 rintro m s d' ⟨i,rfl,hi,h1,h2,h3,h6,hK,am,ai,ah,ad⟩;have aj:=hK.nobj;by_cases an:i<3
 ·by_cases hl:i<ts.length
  ·have aa:=Agz hl;obtain⟨r,hd⟩:=Cl aa;have ab:=hL i;rw[aa]at ab;generalize ts[i]=w at hd aa ab;obtain⟨w1,w2⟩:=w;clear aa hL;simp only[Ajb,Ajh]at ab;rcases (show i=0\/i=1\/i=2 by omega)with rfl|rfl|rfl
   all_goals
    simp only[↓reduceIte,Nat.lt_irrefl,Nat.reduceLT,Nat.reduceMul,Ahl,List.drop_zero]at ad hd ab
    repeat' (first|refine Z1 ?_|(refine Z8 ?_;intro yb ya)|(refine Z4 ?_;clear ya yb)|(refine Z2 ?_ ?_<;>intro h ac<;>try exact Xp)|refine Z3 ?_|exact Zt|(apply ya.out;clear ya yb))
    first|exact⟨2,Aj6,1,rfl,Aj6,rfl,Xs,by simp[*]⟩|exact⟨1,Aj6,2,rfl,Aj6,rfl,Xs,by simp[*]⟩|exact⟨0,Aj6,3,rfl,Aj6,rfl,Xs,by simp[*]⟩
  ·have ab:=hL i;rw[Ahb Aj6]at ab;simp only[Option.map_none,Option.getD_none]at ab;clear hL;rcases (show i=0\/i=1\/i=2 by omega)with rfl|rfl|rfl
   all_goals
    simp only[↓reduceIte,Nat.lt_irrefl,Nat.reduceLT,Nat.reduceMul,Ahl,List.drop_zero]at ad ab
    repeat' (first|refine Z1 ?_|(refine Z8 ?_;intro yb ya)|(refine Z4 ?_;clear ya yb)|(refine Z2 ?_ ?_<;>intro h ac<;>try exact Xp)|refine Z3 ?_|exact Zt|(apply ya.out;clear ya yb))
    first|exact⟨2,Aj6,1,rfl,Aj6,rfl,Xs,by simp[*]⟩|exact⟨1,Aj6,2,rfl,Aj6,rfl,Xs,by simp[*]⟩|exact⟨0,Aj6,3,rfl,Aj6,rfl,Xs,by simp[*]⟩
 ·have ae:i=3:=Aj6;subst ae;simp only[↓reduceIte,Nat.reduceLT]at ad
  repeat' (first|refine Z1 ?_|(refine Z8 ?_;intro yb ya)|(refine Z4 ?_;clear ya yb)|(refine Z2 ?_ ?_<;>intro h ac<;>try exact Xp)|refine Z3 ?_|exact Zt|(apply ya.out;clear ya yb))
  first|exact⟨_,rfl,by rw[hT],Xs⟩|exact⟨_,rfl,rfl,Xs⟩
theorem Bm (l:List Int):(Al l).length=l.length:=by simp[Al]
theorem Dl {l:List Int}{k:Nat}{n:Int}(h:l[k]?=some n):∃r,(Al l).drop k=ic n::r:=by
 have hk:=(Agy.1 h);obtain⟨h1,h2⟩:=hk;refine⟨(Al l).drop (k+1),?_⟩;rw[Ah0 (by rw[Bm];exact h1)];simp[Al,h2]
theorem Cn (l:List Int):(Al l).all flat=true:=by
 rw[Ag0];intro x hx;obtain⟨n,-,rfl⟩:=Aib.1 hx;rfl
theorem iU (l:List Int)(n:Int):Al (l++[n])=Al l++[ic n]:=by simp[Al]
theorem Fs (v:Int)(l:List Int)(id:Nat)(hn:l.length<=100000)(d:St):ACalls Tryz.prog 85 [ic v,sl id l.length (Al l)] d fun r d'=>r=ic (if v∈l then (l.idxOf v:Nat)else -1)/\Keep d d':=by
 have af:=Bm l;refine Z9 19 [.tmp 4] Tryz.func85 ?_
 repeat' (first|refine Z1 ?_|(refine Z8 ?_;intro yb ya)|(refine Z4 ?_;clear ya yb)|refine Z3 ?_|exact Zt|(apply ya.out;clear ya yb))
 refine Af (fun m s d'=>∃i:Nat,m=l.length-i/\i<=l.length/\s 0=ic v/\s 7=sl id l.length (Al l)/\s 8=ic l.length/\s 9=ic i/\Keep d d'/\Akc (v∉l.take i)) l.length
  ⟨0,Aj6,Aj6,rfl,rfl,rfl,rfl,Xs,by simp[Akc]⟩ ?_
 rintro m s d' ⟨i,rfl,hi,h0,h7,h8,h9,hK,ab⟩;by_cases ad:i<l.length
 ·have aa:=Agz ad;obtain⟨r,hd⟩:=Dl aa;generalize l[i]=w at hd aa;have HG:Akc (l[i]?=some w):=aa;clear aa;have ae:=hK.nobj
  repeat' (first|refine Z1 ?_|(refine Z8 ?_;intro yb ya)|(refine Z4 ?_;clear ya yb)|(refine Z2 ?_ ?_<;>intro h ac<;>try exact Xp)|refine Z3 ?_|exact Zt|(apply ya.out;clear ya yb))
  ·have e:w=v:=by simp_all
   subst e;exact⟨_,rfl,by rw[if_pos (Ag1 HG.out),Vt HG.out ab.out]⟩
  all_goals exact⟨l.length-(i+1),Aj6,i+1,rfl,Aj6,by simp,Va ab.out HG.out (by simp_all)⟩
 ·have hil:i=l.length:=Aj6;subst hil;rw[Ag7]at ab
  repeat' (first|refine Z1 ?_|(refine Z8 ?_;intro yb ya)|(refine Z4 ?_;clear ya yb)|(refine Z2 ?_ ?_<;>intro h ac<;>try exact Xp)|refine Z3 ?_|exact Zt|(apply ya.out;clear ya yb))
  first|exact⟨_,rfl,by rw[if_neg ab.out],hK⟩|exact⟨_,rfl,by rw[if_neg ab.out]⟩
theorem Rl (v:Int)(l:List Int):((if v∈l then ((l.idxOf v:Nat):Int)else -1)== -1)=decide (v∉l):=by
 split<;>rename_i h<;>simp[h]
theorem K1 (p:Int)(ids:Nat)(ts:List Tm)(l:List Int)(id:Nat)(hn:ts.length<=1000)(hl:l.length<=100000)(d:St):ACalls Tryz.prog 225 [ag [ic p,sl ids ts.length (Ac ts)],sl id l.length (Al l)] d fun r d'=>r=sc (.bool (l.any (A7 ts)))/\Keep d d':=by
 have aj:=Bm l;refine Z9 17 [.tmp 4] Tryz.func225 ?_
 repeat' (first|refine Z1 ?_|(refine Z8 ?_;intro yb ya)|(refine Z4 ?_;clear ya yb)|refine Z3 ?_|exact Zt|(apply ya.out;clear ya yb))
 refine Af (fun m s d'=>∃i:Nat,m=l.length-i/\i<=l.length/\s 2=ptr d.nobj 0/\s 7=sl id l.length (Al l)/\s 8=ic l.length/\s 9=ic i/\Keep d d'/\d.nobj<d'.nobj/\d'.obj d.nobj=[ic p,sl ids ts.length (Ac ts)]/\Akc ((l.take i).any (A7 ts)=false)) l.length
  ⟨0,Aj6,Aj6,Aj8,Aj8,Aj8,rfl,Xs,Aka,by rw[Ao],by simp[Akc]⟩ ?_
 rintro m s d' ⟨i,rfl,hi,h2,h7,h8,h9,hK,ak,ob,hA⟩;have ai:=hK.nobj;by_cases ae:i<l.length
 ·have aa:=Agz ae;obtain⟨r,hd⟩:=Dl aa;have ab:=Ain ae;generalize l[i]=w at hd aa ab;have HG:Akc (l[i]?=some w/\w∈l):=⟨aa,ab⟩;clear aa ab
  repeat' (first|refine Z1 ?_|(refine Z8 ?_;intro yb ya)|(refine Z4 ?_;clear ya yb)|(refine Z2 ?_ ?_<;>intro h ad<;>try exact Xp)|(refine Z5 ?_;refine Xi (Kc _ _ _ _ hn _) ?_;rintro _ _ ⟨rfl,ac⟩;(have ah:=ac.nobj;have af:=ac.obj))|refine Z3 ?_|exact Zt|(apply ya.out;clear ya yb))
  ·first|exact⟨_,rfl,by rw[Ahz.2 ⟨w,HG.out.2,by assumption⟩],hK.trans ac⟩|exact⟨_,rfl,by rw[Ahz.2 ⟨w,HG.out.2,by assumption⟩]⟩
  ·exact⟨l.length-(i+1),Aj6,i+1,rfl,Aj6,by simp,hK.trans ac,Aj6,by
    rw[Akc,Ahd,HG.out.1,Aji,hA.out]
    simp_all⟩
 ·have hil:i=l.length:=Aj6;subst hil;rw[Ag7]at hA;have hA:=hA.out
  repeat' (first|refine Z1 ?_|(refine Z8 ?_;intro yb ya)|(refine Z4 ?_;clear ya yb)|(refine Z2 ?_ ?_<;>intro h ad<;>try exact Xp)|refine Z3 ?_|exact Zt|(apply ya.out;clear ya yb))
  first|exact⟨_,rfl,rfl,hK⟩|exact⟨_,rfl,rfl⟩|exact⟨_,rfl,hK⟩|exact hK|exact⟨_,rfl,by rw[hA],hK⟩|exact⟨_,rfl,by rw[hA]⟩
theorem cL (p:Int)(ids:Nat)(ts:List Tm)(l:List Int)(id:Nat)(hn:ts.length<=1000)(hl:l.length<=100000)(d:St):ACalls Tryz.prog 251 [ag [ic p,sl ids ts.length (Ac ts)],sl id l.length (Al l)] d fun r d'=>r=sc (.bool (l.all (A7 ts)))/\Keep d d':=by
 have aj:=Bm l;refine Z9 18 [.tmp 4] Tryz.func251 ?_
 repeat' (first|refine Z1 ?_|(refine Z8 ?_;intro yb ya)|(refine Z4 ?_;clear ya yb)|(refine Z2 ?_ ?_<;>intro h ac<;>try exact Xp)|refine Z3 ?_|exact Zt|(apply ya.out;clear ya yb))
 refine Af (fun m s d'=>∃i:Nat,m=l.length-i/\i<=l.length/\s 2=ptr d.nobj 0/\s 7=sl id l.length (Al l)/\s 8=ic l.length/\s 9=ic i/\Keep d d'/\d.nobj<d'.nobj/\d'.obj d.nobj=[ic p,sl ids ts.length (Ac ts)]/\Akc ((l.take i).all (A7 ts)=true)) l.length
  ⟨0,Aj6,Aj6,Aj8,Aj8,Aj8,rfl,Xs,Aka,by rw[Ao],by simp[Akc]⟩ ?_
 rintro m s d' ⟨i,rfl,hi,h2,h7,h8,h9,hK,ak,ob,hA⟩;have ai:=hK.nobj;by_cases ae:i<l.length
 ·have aa:=Agz ae;obtain⟨r,hd⟩:=Dl aa;have ab:=Ain ae;generalize l[i]=w at hd aa ab;have HG:Akc (l[i]?=some w/\w∈l):=⟨aa,ab⟩;clear aa ab
  repeat' (first|refine Z1 ?_|(refine Z8 ?_;intro yb ya)|(refine Z4 ?_;clear ya yb)|(refine Z2 ?_ ?_<;>intro h ac<;>try exact Xp)|(refine Z5 ?_;refine Xi (Kc _ _ _ _ hn _) ?_;rintro _ _ ⟨rfl,ad⟩;(have ah:=ad.nobj;have af:=ad.obj))|refine Z3 ?_|exact Zt|(apply ya.out;clear ya yb))
  ·first|exact⟨_,rfl,by rw[Ajg.2 ⟨w,HG.out.2,by simp_all⟩],hK.trans ad⟩|exact⟨_,rfl,by rw[Ajg.2 ⟨w,HG.out.2,by simp_all⟩]⟩
  ·exact⟨l.length-(i+1),Aj6,i+1,rfl,Aj6,by simp,hK.trans ad,Aj6,by
    rw[Akc,Ahd,HG.out.1,List.all_append,hA.out]
    simp_all⟩
 ·have hil:i=l.length:=Aj6;subst hil;rw[Ag7]at hA;have hA:=hA.out
  repeat' (first|refine Z1 ?_|(refine Z8 ?_;intro yb ya)|(refine Z4 ?_;clear ya yb)|(refine Z2 ?_ ?_<;>intro h ac<;>try exact Xp)|refine Z3 ?_|exact Zt|(apply ya.out;clear ya yb))
  first|exact⟨_,rfl,rfl,hK⟩|exact⟨_,rfl,rfl⟩|exact⟨_,rfl,hK⟩|exact hK|exact⟨_,rfl,by rw[hA],hK⟩|exact⟨_,rfl,by rw[hA]⟩
theorem L8 (l:List Int)(id:Nat)(hn:l.length<=100000)(h0:∀n∈l,0<=n/\n<=1000000)(d:St):ACalls Tryz.prog 140 [sl id l.length (Al l)] d fun r d'=>r=ic l.sum/\Keep d d':=by
 have ae:=Bm l;refine Z9 17 [.tmp 2] Tryz.func140 ?_
 repeat' (first|refine Z1 ?_|(refine Z8 ?_;intro yb ya)|(refine Z4 ?_;clear ya yb)|(refine Z2 ?_ ?_<;>intro h ab<;>try exact Xp)|refine Z3 ?_|exact Zt|(apply ya.out;clear ya yb))
 refine Af (fun m s d'=>∃i:Nat,m=l.length-i/\i<=l.length/\s 3=ic (l.take i).sum/\s 6=sl id l.length (Al l)/\s 7=ic l.length/\s 8=ic i/\Keep d d'/\0<=(l.take i).sum/\(l.take i).sum<=i*1000000) l.length
  ⟨0,Aj6,Aj6,rfl,rfl,rfl,rfl,Xs,by simp,by simp⟩ ?_
 rintro m s d' ⟨i,rfl,hi,h3,h6,h7,h8,hK,b0,b1⟩;by_cases ac:i<l.length
 ·have aa:=Agz ac;obtain⟨r,hd⟩:=Dl aa;have hb:=h0 l[i] (Ain ac);have hs:Akc ((l.take (i+1)).sum=(l.take i).sum+l[i]):=by
   rw[Akc,Ahd,aa];simp only[Ais,List.sum_append,List.sum_cons,List.sum_nil];omega
  generalize l[i]=w at hd aa hb hs;clear aa;generalize (l.take i).sum=acc at h3 b0 b1 hs;have ad:=hK.nobj
  repeat' (first|refine Z1 ?_|(refine Z8 ?_;intro yb ya)|(refine Z4 ?_;clear ya yb)|(refine Z2 ?_ ?_<;>intro h ab<;>try exact Xp)|refine Z3 ?_|exact Zt|(apply ya.out;clear ya yb))
  exact⟨l.length-(i+1),Aj6,i+1,rfl,Aj6,by rw[hs.out],by simp,by rw[hs.out];omega,by rw[hs.out];omega⟩
 ·have hil:i=l.length:=Aj6;subst hil;rw[Ag7]at h3
  repeat' (first|refine Z1 ?_|(refine Z8 ?_;intro yb ya)|(refine Z4 ?_;clear ya yb)|(refine Z2 ?_ ?_<;>intro h ab<;>try exact Xp)|refine Z3 ?_|exact Zt|(apply ya.out;clear ya yb))
  first|exact⟨_,rfl,rfl,hK⟩|exact⟨_,rfl,rfl⟩|exact⟨_,rfl,hK⟩
def Wz (v n:Int)(t:Tm):Tm:=if t=(true,v)then (false,n)else t
def Bf (v n:Int)(ts:List Tm):List Tm:=ts.map (Wz v n)
theorem lV {v n:Int}{ts:List Tm}(h:A7 ts v=false):Bf v n ts=ts:=by
 unfold Bf
 conv=>rhs;rw[<-Aic ts]
 apply Aid;intro t ht;unfold Wz;rw[if_neg]
 ·rfl
 ·rintro rfl;simp[A7]at h;exact h ht
theorem M8 (p:Int)(ids:Nat)(ts:List Tm)(v n:Int)(hn:ts.length<=1000)(d:St):ACalls Tryz.prog 226 [ag [ic p,sl ids ts.length (Ac ts)],ic v,ic n] d fun r d'=>(∃id,r=ag [ic p,sl id (Bf v n ts).length (Ac (Bf v n ts))])/\Keep d d':=by
 have ay:=Ch ts;refine Z9 43 [.cell 6 122] Tryz.func226 ?_
 repeat' (first|refine Z1 ?_|(refine Z8 ?_;intro yb ya)|(refine Z4 ?_;clear ya yb)|(refine Z2 ?_ ?_<;>intro h ad<;>try exact Xp)|(refine Z5 ?_;refine Xi (Kc _ _ _ _ hn _) ?_;rintro _ _ ⟨rfl,ai⟩;(have am:=ai.nobj;have ab:=ai.obj;(try simp only[Aa]at am ab)))|refine Z3 ?_|exact Zt|(apply ya.out;clear ya yb))
 ·have e:=lV (n:=n) h;rw[e];exact⟨_,rfl,⟨_,rfl⟩,(((Keep.refl _).new _).new _).trans ai|>.put Aj6 _⟩
 ·rename_i d1;have aw:Keep d d1:=(((Keep.refl _).new _).new _).trans ai;have kn1:=aw.nobj;have au:=ab d.nobj Aj6;have ao:=ab (d.nobj+1) Aj6;rw[Ag Aka,Ao]at au;rw[Bs Aka Aka]at ao;clear ab ai
  repeat' (first|refine Z1 ?_|refine Z3 ?_|exact Zt|(apply ya.out;clear ya yb))
  refine Af (fun m s d'=>∃(i i3:Nat) (xs:List AV),m=ts.length-i/\i<=ts.length/\s 1=ic v/\s 2=ic n/\s 6=ptr (d.nobj+1) 0/\s 7=ptr d1.nobj 0/\s 19=sl ids ts.length (Ac ts)/\s 20=ic ts.length/\s 21=ic i/\Keep d d'/\d1.nobj<d'.nobj/\d'.obj (d.nobj+1)=[ic 0,nilS]/\d'.obj d1.nobj=[ic p,sl i3 i xs]/\Own d d' i3 i/\xs.length=i*2/\Akc (xs=Ac (Bf v n (ts.take i)))) ts.length
   ⟨0,1,[],Aj6,Aj6,by simp[upd,initS],by simp[upd,initS],Aj8,Aj8,Aj8,Aj8,rfl,Xs,Akb,?_,?_,Own.nil _ _,by simp,by simp[Akc,Bf,Ac]⟩ ?_
  ·rw[Ah Aj6,Ag Aj6];simp[ao,cst1]
  ·rw[Aj]
  rintro m s d' ⟨i,i3,xs,rfl,hi,h1,h2,h6,h7,a4,a3,a0,hK,az,oc1,oc2,hO,an,hX⟩;have ax:=hK.nobj;by_cases av:i<ts.length
  ·have ac:=Agz av;obtain⟨r,hd⟩:=Cl ac;generalize ts[i]=w at hd ac;obtain⟨w1,w2⟩:=w;have HG:Akc (Ac (Bf v n (ts.take (i+1)))=Ac (Bf v n (ts.take i))++I3 (Wz v n (w1,w2))):=by
    rw[Akc,Ahd,ac];simp[Bf,Ac]
   clear ac;by_cases hc:w1=true/\w2=v
   ·obtain⟨rfl,rfl⟩:=hc
    repeat' (first|refine Z1 ?_|(refine Z8 ?_;intro yb ya)|(refine Z4 ?_;clear ya yb)|(refine Z2 ?_ ?_<;>intro h ad<;>try exact Xp)|refine Z3 ?_|exact Zt)
    refine Bg (by first|exact Ea) (((hK.new _).put hK.nobj _).put hK.nobj _) (Own.put (Own.put (Own.new hO _) _ _) _ _) (by decide) (by rfl) (an) (by rfl) (by rfl) (by decide) Aj6 Aj6 ?_;intro idn dn af ah ak aa aj ae;simp only[Ab,Aa]at aa;refine Z3 ?_
    repeat' (first|refine Z1 ?_|(refine Z8 ?_;intro yb ya)|(refine Z4 ?_;clear ya yb)|refine Z3 ?_|exact Zt|(apply ya.out;clear ya yb))
    exact⟨ts.length-(i+1),Aj6,i+1,idn,xs++[sc (.bool false),ic n],rfl,Aj6,by simp,ah.put Aj6 _,Aj6,rfl,Own.put af _ _,by simp;omega,by rw[Akc,HG.out,hX.out];simp[Wz,I3]⟩
   ·have ap:(w1&&w2==v)=false:=by
     cases w1 with
     |false=>rfl
     |true=>simp at hc⊢;exact hc
    have hP:Akc (Wz v n (w1,w2)=(w1,w2)):=if_neg (by simpa using hc);clear hc;cases w1 with
    |false=>
     repeat' (first|refine Z1 ?_|(refine Z8 ?_;intro yb ya)|(refine Z4 ?_;clear ya yb)|(refine Z2 ?_ ?_<;>intro h ad<;>try exact Xp)|refine Z3 ?_|exact Zt)
     refine Bg (by first|exact Ea) ((hK.new _).put hK.nobj _) (Own.put (Own.new hO _) _ _) (by decide) (by rfl) (an) (by rfl) (by rfl) (by decide) Aj6 Aj6 ?_;intro idn dn af ah ak aa aj ae;simp only[Ab,Aa]at aa;refine Z3 ?_
     repeat' (first|refine Z1 ?_|(refine Z8 ?_;intro yb ya)|(refine Z4 ?_;clear ya yb)|refine Z3 ?_|exact Zt|(apply ya.out;clear ya yb))
     exact⟨ts.length-(i+1),Aj6,i+1,idn,xs++[_,ic w2],rfl,Aj6,by simp,ah.put Aj6 _,Aj6,rfl,Own.put af _ _,by simp;omega,by rw[Akc,HG.out,hX.out,hP.out];rfl⟩
    |true=>
     have ap:(w2==v)=false:=by simpa using ap
     repeat' (first|refine Z1 ?_|(refine Z8 ?_;intro yb ya)|(refine Z4 ?_;clear ya yb)|(refine Z2 ?_ ?_<;>intro h ad<;>try exact Xp)|refine Z3 ?_|exact Zt)
     refine Bg (by first|exact Ea) ((hK.new _).put hK.nobj _) (Own.put (Own.new hO _) _ _) (by decide) (by rfl) (an) (by rfl) (by rfl) (by decide) Aj6 Aj6 ?_;intro idn dn af ah ak aa aj ae;simp only[Ab,Aa]at aa;refine Z3 ?_
     repeat' (first|refine Z1 ?_|(refine Z8 ?_;intro yb ya)|(refine Z4 ?_;clear ya yb)|refine Z3 ?_|exact Zt|(apply ya.out;clear ya yb))
     exact⟨ts.length-(i+1),Aj6,i+1,idn,xs++[_,ic w2],rfl,Aj6,by simp,ah.put Aj6 _,Aj6,rfl,Own.put af _ _,by simp;omega,by rw[Akc,HG.out,hX.out,hP.out];rfl⟩
  ·have hil:i=ts.length:=Aj6;subst hil;have hX:=hX.out;rw[Ag7]at hX;have hpl:(Bf v n ts).length=ts.length:=by simp[Bf]
   repeat' (first|refine Z1 ?_|(refine Z8 ?_;intro yb ya)|(refine Z4 ?_;clear ya yb)|(refine Z2 ?_ ?_<;>intro h ad<;>try exact Xp)|refine Z3 ?_|exact Zt|(apply ya.out;clear ya yb))
   exact⟨_,rfl,⟨i3,by first|rfl|rw[hpl,hX]⟩,hK.put Aj6 _⟩
structure Part where
 a:De
 tups:List Bb
structure Qry where
 head:De
 parts:List Part
 nots:List De
def Dc (l:List Bb):List AV:=l.flatMap Al
def T3 (l:List Bb):Prop:=∀t∈l,t.length=3
theorem E6 {l:List Bb}(h:T3 l):(Dc l).length=l.length*3:=by
 induction l with
 |nil=>rfl
 |cons a l ih=>
  have h1:=h a (by simp);have h2:=ih (fun t ht=>h t (by simp[ht]));unfold Dc at*
  rw[Aik,Aho,h2,Bm,h1];simp;omega
theorem Lp (l:List Bb)(t:Bb):Dc (l++[t])=Dc l++Al t:=by simp[Dc]
theorem pM {l:List Bb}{k:Nat}{t:Bb}(h3:T3 l)(h:l[k]?=some t):∃a b c r,t=[a,b,c]/\(Dc l).drop (k*3)=ic a::ic b::ic c::r:=by
 have hE:∀l:List Bb,EL (fun t c=>c=Al t/\t∈l) l (Dc l):=by
  intro l;induction l with
  |nil=>rfl
  |cons a l ih=>exact⟨Al a,Dc l,⟨rfl,by simp⟩,EL.mono (fun t c h=>⟨h.1,by simp[h.2]⟩) ih,by simp[Dc]⟩
 obtain⟨c,r,⟨rfl,-⟩,e⟩:=EL.get (z:=3) (fun a c h=>by rw[h.1,Bm];exact h3 a h.2) (hE l) h;have ht:=h3 t (Ag1 h)
 match t,ht with
 |[a,b,c],_=>exact⟨a,b,c,r,rfl,by rw[e];rfl⟩
def Mm (a:De)(c:List AV):Prop:=∃id,c=[ic a.p,sl id a.ts.length (Ac a.ts)]
def Mk (p:Part)(c:List AV):Prop:=∃id idt,c=[ic p.a.p,sl id p.a.ts.length (Ac p.a.ts),sl idt p.tups.length (Dc p.tups)]
theorem Ic (a:De)(c:List AV)(h:Mm a c):c.length=2:=by obtain⟨id,rfl⟩:=h;rfl
theorem Ee (a:Part)(c:List AV)(h:Mk a c):c.length=3:=by obtain⟨id,idt,rfl⟩:=h;rfl
theorem Jl {l:List De}{cs:List AV}{i:Nat}{a:De}(h:EL Mm l cs)(hi:l[i]?=some a):∃id r,cs.drop (i*2)=ic a.p::sl id a.ts.length (Ac a.ts)::r:=by
 obtain⟨c,r,⟨id,rfl⟩,e⟩:=EL.get Ic h hi;exact⟨id,r,e⟩
theorem E9 {l:List Part}{cs:List AV}{i:Nat}{p:Part}(h:EL Mk l cs)(hi:l[i]?=some p):∃id idt r,cs.drop (i*3)=ic p.a.p::sl id p.a.ts.length (Ac p.a.ts)::sl idt p.tups.length (Dc p.tups)::r:=by
 obtain⟨c,r,⟨id,idt,rfl⟩,e⟩:=EL.get Ee h hi;exact⟨id,idt,r,e⟩
def EQ (q:Qry)(c:List AV):Prop:=∃ih ip inn pc nc,c=[ic q.head.p,sl ih q.head.ts.length (Ac q.head.ts),sl ip q.parts.length pc,sl inn q.nots.length nc]/\EL Mk q.parts pc/\EL Mm q.nots nc
structure Ou (q:Qry):Prop where
 hd:q.head.ts.length<=3
 pl:q.parts.length<=64
 nl:q.nots.length<=64
 pa:∀p∈q.parts,p.a.ts.length<=3
 pt:∀p∈q.parts,p.tups.length<=5000
 p3:∀p∈q.parts,T3 p.tups
 na:∀a∈q.nots,a.ts.length<=3
def Cq (l:List Part):Nat:=(l.map fun p=>p.tups.length).sum
theorem lG (l:List Part)(p:Part):Cq (l++[p])=Cq l+p.tups.length:=by simp[Cq,List.sum_append]
theorem Vq (q:Qry)(c:List AV)(hc:EQ q c)(hq:Ou q)(d:St):ACalls Tryz.prog 252 [ag c] d fun r d'=>r=ic (Cq q.parts:Nat)/\Keep d d':=by
 obtain⟨ih,ip,inn,pc,nc,rfl,hP,hN⟩:=hc;have hpl:=EL.length Ee hP;have hl:=hq.pl;refine Z9 20 [.tmp 2] Tryz.func252 ?_
 repeat' (first|refine Z1 ?_|(refine Z8 ?_;intro yb ya)|(refine Z4 ?_;clear ya yb)|refine Z3 ?_|exact Zt|(apply ya.out;clear ya yb))
 refine Af (fun m s d'=>∃i a:Nat,m=q.parts.length-i/\i<=q.parts.length/\s 3=ic a/\s 7=sl ip q.parts.length pc/\s 8=ic q.parts.length/\s 9=ic i/\Keep d d'/\a<=i*5000/\Akc (a=Cq (q.parts.take i))) q.parts.length
  ⟨0,0,Aj6,Aj6,rfl,rfl,rfl,rfl,Xs,by simp,by simp[Akc,Cq]⟩ ?_
 rintro m s d' ⟨i,a,rfl,hi,h3,h7,h8,h9,hK,b1,hA⟩;have ad:=hK.nobj;by_cases ac:i<q.parts.length
 ·have aa:=Agz ac;obtain⟨id,idt,r,hd⟩:=E9 hP aa;have hb:=hq.pt _ (Ain ac);generalize q.parts[i]=w at hd aa hb;have HG:Akc (Cq (q.parts.take (i+1))=Cq (q.parts.take i)+w.tups.length):=by
   rw[Akc,Ahd,aa,Ais,lG]
  clear aa
  repeat' (first|refine Z1 ?_|(refine Z8 ?_;intro yb ya)|(refine Z4 ?_;clear ya yb)|(refine Z2 ?_ ?_<;>intro h ab<;>try exact Xp)|refine Z3 ?_|exact Zt|(apply ya.out;clear ya yb))
  exact⟨q.parts.length-(i+1),Aj6,i+1,a+w.tups.length,rfl,Aj6,by simp,by simp,Xs,Aj6,by rw[Akc,HG.out,hA.out]⟩
 ·have hil:i=q.parts.length:=Aj6;subst hil;have hA:=hA.out;rw[Ag7]at hA;subst hA
  repeat' (first|refine Z1 ?_|(refine Z8 ?_;intro yb ya)|(refine Z4 ?_;clear ya yb)|(refine Z2 ?_ ?_<;>intro h ab<;>try exact Xp)|refine Z3 ?_|exact Zt|(apply ya.out;clear ya yb))
  first|exact⟨_,rfl,rfl,hK⟩|exact⟨_,rfl,rfl⟩|exact⟨_,rfl,hK⟩|exact hK
def C7 (l:List De)(v:Int):Nat:=l.countP fun a=>A7 a.ts v
theorem La (q:Qry)(c:List AV)(v:Int)(hc:EQ q c)(hq:Ou q)(d:St):ACalls Tryz.prog 254 [ag c,ic v] d fun r d'=>r=ic (C7 (q.parts.map (·.a)) v:Nat)/\Keep d d':=by
 obtain⟨ih,ip,inn,pc,nc,rfl,hP,hN⟩:=hc;have hpl:=EL.length Ee hP;have hl:=hq.pl;refine Z9 23 [.tmp 4] Tryz.func254 ?_
 repeat' (first|refine Z1 ?_|(refine Z8 ?_;intro yb ya)|(refine Z4 ?_;clear ya yb)|refine Z3 ?_|exact Zt|(apply ya.out;clear ya yb))
 refine Af (fun m s d'=>∃i a:Nat,m=q.parts.length-i/\i<=q.parts.length/\s 1=ic v/\s 5=ic a/\s 9=sl ip q.parts.length pc/\s 10=ic q.parts.length/\s 11=ic i/\Keep d d'/\a<=i/\Akc (a=C7 ((q.parts.take i).map (·.a)) v)) q.parts.length
  ⟨0,0,Aj6,Aj6,rfl,rfl,rfl,rfl,rfl,Xs,by simp,by simp[Akc,C7]⟩ ?_
 rintro m s d' ⟨i,a,rfl,hi,h1,h5,h9,ak,aj,hK,b1,hA⟩;have ah:=hK.nobj;by_cases ad:i<q.parts.length
 ·have aa:=Agz ad;obtain⟨id,idt,r,hd⟩:=E9 hP aa;have hb:=hq.pa _ (Ain ad);generalize q.parts[i]=w at hd aa hb;have HG:Akc (C7 ((q.parts.take (i+1)).map (·.a)) v=C7 ((q.parts.take i).map (·.a)) v+if A7 w.a.ts v then 1 else 0):=by
   rw[Akc,Ahd,aa,Ais,Ahf,C7,List.countP_append];simp[C7,List.countP_cons]
  clear aa;have ab:w.a.ts.length<=1000:=Aj6
  repeat' (first|refine Z1 ?_|(refine Z8 ?_;intro yb ya)|(refine Z4 ?_;clear ya yb)|(refine Z2 ?_ ?_<;>intro h ac<;>try exact Xp)|(refine Z5 ?_;refine Xi (Kc _ _ _ _ ab _) ?_;rintro _ _ ⟨rfl,ae⟩;(have af:=ae.nobj;have ai:=((hK.new _).put hK.nobj _).trans ae))|refine Z3 ?_|exact Zt|(apply ya.out;clear ya yb))
  ·exact⟨q.parts.length-(i+1),Aj6,i+1,a+1,rfl,Aj6,by simp,by simp,Aj6,by rw[Akc,HG.out,hA.out,if_pos (by assumption)]⟩
  ·exact⟨q.parts.length-(i+1),Aj6,i+1,a,rfl,Aj6,by simp,by simp,Aj6,by rw[Akc,HG.out,hA.out,if_neg (by simp_all),Ag2]⟩
 ·have hil:i=q.parts.length:=Aj6;subst hil;have hA:=hA.out;rw[Ag7]at hA;subst hA
  repeat' (first|refine Z1 ?_|(refine Z8 ?_;intro yb ya)|(refine Z4 ?_;clear ya yb)|(refine Z2 ?_ ?_<;>intro h ac<;>try exact Xp)|refine Z3 ?_|exact Zt|(apply ya.out;clear ya yb))
  first|exact⟨_,rfl,rfl,hK⟩|exact⟨_,rfl,rfl⟩|exact⟨_,rfl,hK⟩|exact hK
def atomsQ (q:Qry):List De:=q.head::(q.parts.map (·.a)++q.nots)
theorem Jk (q:Qry)(c:List AV)(hc:EQ q c)(hq:Ou q)(d:St):ACalls Tryz.prog 253 [ag c] d fun r d'=>∃id cs,r=sl id (atomsQ q).length cs/\EL Mm (atomsQ q) cs/\Keep d d':=by
 obtain⟨ih,ip,inn,pc,nc,rfl,hP,hN⟩:=hc;have hpl:=EL.length Ee hP;have ay:=EL.length Ic hN;have hl:=hq.pl;have az:=hq.nl;refine Z9 37 [.tmp 2] Tryz.func253 ?_
 repeat' (first|refine Z1 ?_|(refine Z8 ?_;intro yb ya)|(refine Z4 ?_;clear ya yb)|(refine Z2 ?_ ?_<;>intro h ab<;>try exact Xp)|refine Z3 ?_|exact Zt|(apply ya.out;clear ya yb))
 have am:Keep d (d.new [ic q.head.p,sl ih q.head.ts.length (Ac q.head.ts),sl ip q.parts.length pc,sl inn q.nots.length nc]):=(Keep.refl _).new _
 refine Af (fun m s d'=>∃(k i3:Nat) (xs:List AV),m=q.parts.length-k/\k<=q.parts.length/\s 1=ptr d.nobj 0/\s 3=sl i3 (1+k) xs/\s 12=sl ip q.parts.length pc/\s 13=ic q.parts.length/\s 14=ic k/\Keep d d'/\d.nobj<d'.nobj/\d'.obj d.nobj=[ic q.head.p,sl ih q.head.ts.length (Ac q.head.ts),sl ip q.parts.length pc,sl inn q.nots.length nc]/\Own d d' i3 (1+k)/\xs.length=(1+k)*2/\Akc (EL Mm (q.head::(q.parts.take k).map (·.a)) xs)) q.parts.length
  ⟨0,_,_,Aj6,Aj6,Aj8,rfl,rfl,rfl,rfl,am.lay 1,by simp only[Aw,Aa];omega,by rw[Gl,Ao],Own.made am (by decide),by simp,EL.single ⟨ih,rfl⟩⟩ ?_
 rintro m s d' ⟨k,i3,xs,rfl,hk,h1,h3,ax,aw,av,hK,ap,ob,hO,ad,hE⟩;clear am;have ao:=hK.nobj;by_cases ah:k<q.parts.length
 ·have aa:=Agz ah;obtain⟨id,idt,r,hd⟩:=E9 hP aa;generalize q.parts[k]=w at hd aa;have HG:Akc (q.parts[k]?=some w):=aa;clear aa
  repeat' (first|refine Z1 ?_|(refine Z8 ?_;intro yb ya)|(refine Z4 ?_;clear ya yb)|(refine Z2 ?_ ?_<;>intro h ab<;>try exact Xp)|refine Z3 ?_|exact Zt|(apply ya.out;clear ya yb))
  refine Bg (by first|exact Er) ((hK.new _).put hK.nobj _) (Own.put (Own.new hO _) _ _) (by decide) (by rfl) (ad) (by rfl) (by rfl) (by decide) Aj6 Aj6 ?_;intro idn dn ak au ae ac an af;simp only[Ab,Aa]at ac;have eob:dn.obj d.nobj=d'.obj d.nobj:=by rw[ae,Ah Aj6,Ag Aj6]
  refine Z3 ?_
  repeat' (first|refine Z1 ?_|(refine Z8 ?_;intro yb ya)|(refine Z4 ?_;clear ya yb)|(refine Z2 ?_ ?_<;>intro h ab<;>try exact Xp)|refine Z3 ?_|exact Zt|(apply ya.out;clear ya yb))
  refine⟨q.parts.length-(k+1),Aj6,k+1,idn,xs++[ic w.a.p,sl id w.a.ts.length (Ac w.a.ts)],rfl,Aj6,by simp[Ag9],by simp,Aj6,by simpa[Ag9]using ak,by simp;omega,?_⟩;rw[Akc,Ahd,HG.out];have:=EL.append hE.out (EL.single (E:=Mm) (a:=w.a) ⟨id,rfl⟩);simpa using this
 ·have aj:k=q.parts.length:=Aj6;subst aj;rw[Ag7]at hE;generalize hM:q.parts.length=M at*
  have HM:Akc _:=hM;clear hM ah hk
  repeat' (first|refine Z1 ?_|(refine Z8 ?_;intro yb ya)|(refine Z4 ?_;clear ya yb)|(refine Z2 ?_ ?_<;>intro h ab<;>try exact Xp)|refine Z3 ?_|exact Zt|(apply ya.out;clear ya yb))
  refine Af (fun m s d'=>∃(k i3:Nat) (xs:List AV),m=q.nots.length-k/\k<=q.nots.length/\s 3=sl i3 (1+M+k) xs/\s 25=sl inn q.nots.length nc/\s 26=ic q.nots.length/\s 27=ic k/\Keep d d'/\Own d d' i3 (1+M+k)/\xs.length=(1+M+k)*2/\Akc (EL Mm (q.head::(q.parts.map (·.a)++q.nots.take k)) xs)) q.nots.length
   ⟨0,i3,xs,Aj6,Aj6,Aj7,Aj7,Aj7,Aj8,hK,by simpa using hO,by simpa using ad,by simpa using hE⟩ ?_
  clear hE ad hO h3 h1 ax aw av hK ap ob ao;rintro m s d' ⟨k,i3,xs,rfl,hk,h3,a4,a3,a0,hK,hO,ad,hE⟩;have ao:=hK.nobj;by_cases ah:k<q.nots.length
  ·have aa:=Agz ah;obtain⟨id,r,hd⟩:=Jl hN aa;generalize q.nots[k]=w at hd aa;have HG:Akc (q.nots[k]?=some w):=aa;clear aa
   repeat' (first|refine Z1 ?_|(refine Z8 ?_;intro yb ya)|(refine Z4 ?_;clear ya yb)|(refine Z2 ?_ ?_<;>intro h ab<;>try exact Xp)|refine Z3 ?_|exact Zt|(apply ya.out;clear ya yb))
   refine Bg (by first|exact Er) ((hK.new _).put hK.nobj _) (Own.put (Own.new hO _) _ _) (by decide) (by rfl) (ad) (by rfl) (by rfl) (by decide) Aj6 Aj6 ?_;intro idn dn ak au ae ac an af;refine Z3 ?_
   repeat' (first|refine Z1 ?_|(refine Z8 ?_;intro yb ya)|(refine Z4 ?_;clear ya yb)|(refine Z2 ?_ ?_<;>intro h ab<;>try exact Xp)|refine Z3 ?_|exact Zt|(apply ya.out;clear ya yb))
   refine⟨q.nots.length-(k+1),Aj6,k+1,idn,xs++[ic w.p,sl id w.ts.length (Ac w.ts)],rfl,Aj6,by simp[Ag9],by simp,by simpa[Ag9]using ak,by simp;omega,?_⟩;rw[Akc,Ahd,HG.out];have:=EL.append hE.out (EL.single (E:=Mm) (a:=w) ⟨id,rfl⟩);simpa using this
  ·have aj:k=q.nots.length:=Aj6;subst aj;rw[Ag7]at hE;have ai:(atomsQ q).length=1+M+q.nots.length:=by have:=HM.out;simp[atomsQ];omega
   repeat' (first|refine Z1 ?_|(refine Z8 ?_;intro yb ya)|(refine Z4 ?_;clear ya yb)|(refine Z2 ?_ ?_<;>intro h ab<;>try exact Xp)|refine Z3 ?_|exact Zt|(apply ya.out;clear ya yb))
   exact⟨_,rfl,i3,xs,by first|rfl|rw[ai],by simpa[atomsQ]using hE.out⟩
end Go.Proofs.YtmoeoppbmhfbpabGreatDoorL
