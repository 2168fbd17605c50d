import Derived.Test.YtmoeoppbmhfbpabGreatDoorLShelf
import Derived.Test.YtmoeoppbmhfbpabGreatDoorLProgM
set_option maxHeartbeats 16000000
set_option maxRecDepth 100000
set_option linter.all false
namespace Go.Proofs.YtmoeoppbmhfbpabGreatDoorL
open Go.Abs
def prA (l:List Tx)(a:RAtom):Tx:=a.pred++Kg l 0 a.terms++[41]
theorem pU {N l:List Tx}{a:RAtom}(h:WA N l a):(prA l a).length<=1003000:=by
 obtain⟨h1,h2,h3,h4,h5⟩:=h;have:=Td l a.terms 0 fun t ht=>(h5 t ht).2.1;simp only[prA,Aho,Aii];omega
def prN (a:RAtom):Tx:=if a.nt=true then [33]else []
theorem Tb (l:List Tx)(a:RAtom):Io l a=prN a++prA l a:=by simp[Io,prN,prA]
theorem mP (N l:List Tx)(idn:Nat)(x:RItem)(c:List AV)(hc:RI N l x c)(hN:N.length<=2000)(hm:x.head.pred∈N)(hpl:x.head.pred.length<=1000)(a8:x.body.length<=5)(hh:x.out=false->x.head.nt=false/\WA N l x.head)(hb:∀a∈x.body,WA N l a)(M:St):
  ACalls Tryz.prog 129 [ag c,sl idn N.length (N.map str)] M fun r M'=>r=str (if x.out=true then 63::x.head.pred++[46]else Io l x.head++H3 l 0 x.body++[46])/\Keep M M':=by
 obtain⟨ih,id,b,a0,rfl⟩:=hc;have a7:=EL.length Aak a0;have ba:({data:=#[63]}:ByteArray)=bs [63]:=rfl;have bc:({data:=#[46]}:ByteArray)=bs [46]:=rfl;have bd:({data:=#[44]}:ByteArray)=bs [44]:=rfl;have be:({data:=#[33]}:ByteArray)=bs [33]:=rfl;have bb:({data:=#[58,45]}:ByteArray)=bs [58,45]:=rfl;cases ho:x.out with
 |true=>
  have ax:=Air hm;have a5:(N.map str).drop (N.idxOf x.head.pred)=str x.head.pred::(N.map str).drop (N.idxOf x.head.pred+1):=by
   have:=Ez ax;rwa[Aiq ax]at this
  generalize N.idxOf x.head.pred=ix at ax a5;clear hh hb;refine Z9 49 [.tmp 4] Tryz.func129 ?_
  repeat' (first|refine Z1 ?_|(refine Z8 ?_;intro yb ya)|(refine Z4 ?_;clear ya yb)|(refine Z2 ?_ ?_<;>intro h ac<;>try exact Xp)|refine Z7 ?_|exact Zt|(apply ya.out;clear ya yb))
  exact⟨_,rfl,by simp,Xs⟩
 |false=>
  obtain⟨hnt,ai⟩:=hh ho;have a4:=pU ai;have au:=fun M=>Wc N l idn ih x.head ai.1 hN ai.2.1 ai.2.2.1 ai.2.2.2.1 ai.2.2.2.2 M;have ao:Akc (Io l x.head=prA l x.head):=by rw[Akc,Tb,prN,hnt];simp
  have au:∀M,ACalls Tryz.prog 182 [ag [sc (.int .i64 (N.idxOf x.head.pred:Nat)),sl ih x.head.terms.length (Dn l x.head.terms)],sl idn N.length (N.map str)] M fun r M'=>r=str (prA l x.head)/\Keep M M':=au;generalize prA l x.head=ae at a4 au ao;clear hh ai hm hnt;rw[if_neg (by simp),ao.out];refine Z9 49 [.tmp 4] Tryz.func129 ?_
  repeat' (first|refine Z1 ?_|(refine Z8 ?_;intro yb ya)|(refine Z4 ?_;clear ya yb)|(refine Z2 ?_ ?_<;>intro h ac<;>try exact Xp)|(refine Z5 ?_;refine Xi (au _) ?_;rintro _ _ ⟨rfl,ay⟩;(have av:=ay.obj;have an:=ay.nobj;simp only[Aa]at an))|refine Z7 ?_|exact Zt|(apply ya.out;clear ya yb))
  rename_i M1
  refine Af (fun m s M'=>∃(j:Nat) (acc:Tx),m=x.body.length-j/\j<=x.body.length/\s 1=sl idn N.length (N.map str)/\s 5=str acc/\s 23=sl id x.body.length b/\s 24=sc (.int .i64 x.body.length)/\s 25=sc (.int .i64 j)/\Keep M M'/\acc.length<=1003000+j*1003010/\Akc (acc=ae++H3 l 0 (x.body.take j))) x.body.length
   ⟨0,ae,Aj6,Aj6,by simp[upd,initS],Aj8,Aj8,Aj8,rfl,Xs,Aj6,by simp[Akc,H3]⟩ ?_
  clear ay av an;rintro m s M' ⟨j,acc,rfl,hj,h1,h5,bh,bg,bf,hK,a9,hA⟩;have a6:=hK.nobj;by_cases az:j<x.body.length
  ·have ak:=Agz az;have aj:=hb x.body[j] (Ain az);obtain⟨ia,r,hd⟩:=Age a0 ak;have aa:Akc (ae++H3 l 0 (x.body.take (j+1))=acc++(rA j++(prN x.body[j]++prA l x.body[j]))):=by
    rw[Akc,Ahd,ak,Ais,X4,Tb,hA.out,Ahp,Ahu Aj6,Ahn,Ahq]
   have ao:=pU aj;have am:∀M,ACalls Tryz.prog 182 [ag [sc (.int .i64 (N.idxOf x.body[j].pred:Nat)),sl ia x.body[j].terms.length (Dn l x.body[j].terms)],sl idn N.length (N.map str)] M fun r M'=>r=str (prA l x.body[j])/\Keep M M':=fun M=>Wc N l idn ia x.body[j] aj.1 hN aj.2.1 aj.2.2.1 aj.2.2.2.1 aj.2.2.2.2 M;have ap:Akc (prN x.body[j]=if x.body[j].nt=true then [33]else []):=rfl;clear ak aj;generalize x.body[j]=a at hd aa ao am ap;generalize prA l a=wa at aa ao am;cases hnt:a.nt with
   |true=>
    rw[hnt]at hd;have aa:Akc (ae++H3 l 0 (x.body.take (j+1))=acc++(rA j++([33]++wa))):=by rw[Akc,aa.out,ap.out,if_pos hnt]
    clear ap;by_cases ad:j=0
    ·have aw:((j:Int)==0)=true:=by simp[ad]
     have aa:Akc (ae++H3 l 0 (x.body.take (j+1))=acc++([58,45]++([33]++wa))):=by rw[Akc,aa.out,rA,if_pos ad]
     clear ad
     repeat' (first|refine Z1 ?_|(refine Z8 ?_;intro yb ya)|(refine Z4 ?_;clear ya yb)|(refine Z2 ?_ ?_<;>intro h ac<;>try exact Xp)|(refine Z5 ?_;refine Xi (am _) ?_;rintro _ _ ⟨rfl,ab⟩;(have af:=ab.obj;have ah:=ab.nobj))|refine Z7 ?_|exact Zt|(apply ya.out;clear ya yb))
     exact⟨x.body.length-(j+1),Aj6,j+1,acc++([58,45]++([33]++wa)),rfl,Aj6,by simp,by simp,((hK.new _).put hK.nobj _).trans ab,by simp;omega,by rw[Akc,aa.out]⟩
    ·have aw:((j:Int)==0)=false:=by simp;omega
     have aa:Akc (ae++H3 l 0 (x.body.take (j+1))=acc++([44]++([33]++wa))):=by rw[Akc,aa.out,rA,if_neg ad]
     clear ad
     repeat' (first|refine Z1 ?_|(refine Z8 ?_;intro yb ya)|(refine Z4 ?_;clear ya yb)|(refine Z2 ?_ ?_<;>intro h ac<;>try exact Xp)|(refine Z5 ?_;refine Xi (am _) ?_;rintro _ _ ⟨rfl,ab⟩;(have af:=ab.obj;have ah:=ab.nobj))|refine Z7 ?_|exact Zt|(apply ya.out;clear ya yb))
     exact⟨x.body.length-(j+1),Aj6,j+1,acc++([44]++([33]++wa)),rfl,Aj6,by simp,by simp,((hK.new _).put hK.nobj _).trans ab,by simp;omega,by rw[Akc,aa.out]⟩
   |false=>
    rw[hnt]at hd;have aa:Akc (ae++H3 l 0 (x.body.take (j+1))=acc++(rA j++([]++wa))):=by rw[Akc,aa.out,ap.out,if_neg (by rw[hnt];simp)]
    clear ap;by_cases ad:j=0
    ·have aw:((j:Int)==0)=true:=by simp[ad]
     have aa:Akc (ae++H3 l 0 (x.body.take (j+1))=acc++([58,45]++([]++wa))):=by rw[Akc,aa.out,rA,if_pos ad]
     clear ad
     repeat' (first|refine Z1 ?_|(refine Z8 ?_;intro yb ya)|(refine Z4 ?_;clear ya yb)|(refine Z2 ?_ ?_<;>intro h ac<;>try exact Xp)|(refine Z5 ?_;refine Xi (am _) ?_;rintro _ _ ⟨rfl,ab⟩;(have af:=ab.obj;have ah:=ab.nobj))|refine Z7 ?_|exact Zt|(apply ya.out;clear ya yb))
     exact⟨x.body.length-(j+1),Aj6,j+1,acc++([58,45]++([]++wa)),rfl,Aj6,by simp,by simp,((hK.new _).put hK.nobj _).trans ab,by simp;omega,by rw[Akc,aa.out]⟩
    ·have aw:((j:Int)==0)=false:=by simp;omega
     have aa:Akc (ae++H3 l 0 (x.body.take (j+1))=acc++([44]++([]++wa))):=by rw[Akc,aa.out,rA,if_neg ad]
     clear ad
     repeat' (first|refine Z1 ?_|(refine Z8 ?_;intro yb ya)|(refine Z4 ?_;clear ya yb)|(refine Z2 ?_ ?_<;>intro h ac<;>try exact Xp)|(refine Z5 ?_;refine Xi (am _) ?_;rintro _ _ ⟨rfl,ab⟩;(have af:=ab.obj;have ah:=ab.nobj))|refine Z7 ?_|exact Zt|(apply ya.out;clear ya yb))
     exact⟨x.body.length-(j+1),Aj6,j+1,acc++([44]++([]++wa)),rfl,Aj6,by simp,by simp,((hK.new _).put hK.nobj _).trans ab,by simp;omega,by rw[Akc,aa.out]⟩
  ·have a3:j=x.body.length:=Aj6;subst a3;rw[Ag7]at hA
   repeat' (first|refine Z1 ?_|(refine Z8 ?_;intro yb ya)|(refine Z4 ?_;clear ya yb)|(refine Z2 ?_ ?_<;>intro h ac<;>try exact Xp)|refine Z7 ?_|exact Zt|(apply ya.out;clear ya yb))
   first
   |exact⟨_,rfl,by rw[hA.out],hK⟩
   |exact⟨_,rfl,by rw[hA.out]⟩
theorem Jq (N:List Tx)(l:List RItem)(cs:List AV)(idn idi:Nat)(hB:Bk N l cs)(x:RItem)(c:List AV)(hx:PI N x c)(hw:WI N x)(M:St):ACalls Tryz.prog 74 [Bn N idn l idi cs,ag c] M fun r M'=>r=str (Dg x)/\Keep M M':=by
 have hN:=hB.nm;have ae:=Ox hw.fits hw.short;obtain⟨hm,ih,id,b,hb,rfl⟩:=hx;have hO:=fun M=>cF N x _ (PI.of (ih:=ih) (id:=id) hm hb) hw.out hw.fits hw.va hw.vh hw.vb M;have hT:=fun c hc M=>mP N (A4 x) idn x c hc hN hw.mem hw.short.1.1 hw.body hw.head hw.wa M;have hT:∀c,RI N (A4 x) x c->∀M,ACalls Tryz.prog 129 [ag c,sl idn N.length (N.map str)] M fun r M'=>r=str (Dg x)/\Keep M M':=hT;generalize af:Dg x=wx at hT ae⊢;clear af hw;refine Z9 12 [.tmp 4] Tryz.func74 ?_
 repeat' (first|refine Z1 ?_|(refine Z8 ?_;intro yb ya)|(refine Z4 ?_;clear ya yb)|(refine Z2 ?_ ?_<;>intro h ai<;>try exact Xp)|(refine Z5 ?_;first|(refine Xi (hO _) ?_;rintro _ _ ⟨c2,rfl,aj,an,ac⟩;(have ad:=ac.obj;have aa:=ac.nobj;(try simp only[Aa,Ab,Aw]at aa);obtain⟨ih2,id2,b2,ah,rfl⟩:=aj))|(refine Xi (hT _ ⟨_,_,_,ah,rfl⟩ _) ?_;rintro _ _ ⟨rfl,am⟩))|refine Z7 ?_|exact Zt|(apply ya.out;clear ya yb))
 rename_i M2 M3;have ak:=(((Keep.refl M).new _).new _).trans ac;have ab:=((ak.new _).put Aj6 _).trans am
 first
  |exact⟨_,rfl,rfl,ab⟩
  |exact⟨rfl,ab⟩
  |exact ab
theorem nN (N:List Tx)(l:List RItem)(cs:List AV)(idn idi:Nat)(hB:Bk N l cs)(hW:∀x∈l,WI N x)(M:St):ACalls Tryz.prog 40 [Bn N idn l idi cs] M fun r M'=>r=str (Cj l)/\Keep M M':=by
 have au:=EL.length Dd hB.el;have ak:=hB.len;have hN:=hB.nm;have hE:=hB.el;refine Z9 20 [.tmp 2] Tryz.func40 ?_
 repeat' (first|refine Z1 ?_|(refine Z8 ?_;intro yb ya)|(refine Z4 ?_;clear ya yb)|(refine Z2 ?_ ?_<;>intro h ab<;>try exact Xp)|refine Z7 ?_|exact Zt|(apply ya.out;clear ya yb))
 refine Af (fun m s M'=>∃(i:Nat) (acc:Tx),m=l.length-i/\i<=l.length/\s 1=ptr M.nobj 0/\s 3=str acc/\s 7=sl idi l.length cs/\s 8=sc (.int .i64 l.length)/\s 9=sc (.int .i64 i)/\Keep M M'/\M.nobj<M'.nobj/\M'.obj M.nobj=[sl idn N.length (N.map str),sl idi l.length cs]/\acc.length<=i*1100000000/\Akc (acc=Cj (l.take i))) l.length
  ⟨0,[],Aj6,Aj6,Aj8,Aj8,Aj8,Aj8,rfl,Xs,Aka,Ao,by simp,by simp[Akc,Cj]⟩ ?_
 rintro m s M' ⟨i,acc,rfl,hi,h1,h3,h7,h8,h9,hK,ap,aj,av,hA⟩;have ao:=hK.nobj;by_cases af:i<l.length
 ·have aa:=Agz af;have hw:=hW l[i] (Ain af);obtain⟨hm,ih,id,b,r,hb,hd⟩:=Em hE aa;generalize l[i]=x at hd aa hw hm hb;have HG:Akc (l[i]?=some x):=aa;clear aa;have ai:=Ox hw.fits hw.short;have hT:=fun M=>Jq N l cs idn idi hB x _ (PI.of (ih:=ih) (id:=id) hm hb) hw M;generalize ae:Dg x=wx at hT ai;have an:Akc _:=ae;clear ae hw
  repeat' (first|refine Z1 ?_|(refine Z8 ?_;intro yb ya)|(refine Z4 ?_;clear ya yb)|(refine Z2 ?_ ?_<;>intro h ab<;>try exact Xp)|(refine Z5 ?_;refine Xi (hT _) ?_;rintro _ _ ⟨rfl,ac⟩;(have ah:=ac.obj;have ad:=ac.nobj;(try simp only[Aa,Ab,Aw]at ad)))|refine Z7 ?_|exact Zt|(apply ya.out;clear ya yb))
  rename_i M3;have am:=((hK.new _).put hK.nobj _).trans ac;have HA:Akc (acc++wx=Cj (l.take (i+1))):=by
   rw[Akc,Ahd,HG.out,hA.out];simp[Cj,an.out]
  have HL:List.length (acc++wx)<=(i+1)*1100000000:=by simp only[Aho];omega
  refine⟨l.length-(i+1),Aj6,i+1,acc++wx,?_⟩
  ((repeat' refine Zi ?_ ?_)<;>first|exact Xq|exact am|exact HA|exact HL|exact (by rw[ac.obj _ Akb,Ah Aj6,Ag Aj6,aj])|exact Xs)
 ·have hil:i=l.length:=Aj6;subst hil;rw[Ag7]at hA
  repeat' (first|refine Z1 ?_|(refine Z8 ?_;intro yb ya)|(refine Z4 ?_;clear ya yb)|(refine Z2 ?_ ?_<;>intro h ab<;>try exact Xp)|refine Z7 ?_|exact Zt|(apply ya.out;clear ya yb))
  first
  |exact⟨_,rfl,by rw[hA.out],hK⟩
  |exact⟨_,rfl,by rw[hA.out]⟩
def Jb (N:List Tx)(cc:Nat->Int)(a:RAtom):Int:=if a.nt=true then cc (N.idxOf a.pred)+1 else cc (N.idxOf a.pred)
def Dy (N:List Tx)(cc:Nat->Int)(m:Int)(a:RAtom):Int:=if m<Jb N cc a then Jb N cc a else m
def Cp (N:List Tx)(cc:Nat->Int)(ls:List RAtom):Int:=ls.foldl (Dy N cc) 0
theorem iJ (N:List Tx)(cc:Nat->Int)(ls:List RAtom)(a:RAtom):Cp N cc (ls++[a])=Dy N cc (Cp N cc ls) a:=by simp[Cp]
theorem Of {N:List Tx}{cc:Nat->Int}{B:Int}(h:∀i,0<=cc i/\cc i<=B)(hB:0<=B)(ls:List RAtom):0<=Cp N cc ls/\Cp N cc ls<=B+1:=by
 have:∀(ls:List RAtom) (m:Int),0<=m->m<=B+1->0<=ls.foldl (Dy N cc) m/\ls.foldl (Dy N cc) m<=B+1:=by
  intro ls;induction ls with
  |nil=>intro m h1 h2;exact⟨h1,h2⟩
  |cons a ls ih=>
   intro m h1 h2;have hc:=h (N.idxOf a.pred);have ha:0<=Jb N cc a/\Jb N cc a<=B+1:=by unfold Jb;split<;>omega
   have:0<=Dy N cc m a/\Dy N cc m a<=B+1:=by unfold Dy;split<;>omega
   exact ih _ this.1 this.2
 exact this ls 0 Aj6 Aj6
theorem Ps (N:List Tx)(x:RItem)(c:List AV)(cc:Nat->Int)(oc:Nat)(hc:PI N x c)(hn:x.body.length<=1000)(af:∀i,0<=cc i/\cc i<=1000000)(M:St)(am:M.obj oc=Fu N.length cc)(aj:oc<M.nobj):
  ACalls Tryz.prog 136 [ag c,fx oc 0 N.length] M fun r M'=>r=sc (.int .i64 (Cp N cc x.body))/\Keep M M':=by
 obtain⟨hm,ih,id,b,hb,rfl⟩:=hc;have aw:=EL.length Ds hb;have av:=I4 N.length cc;refine Z9 32 [.tmp 4] Tryz.func136 ?_
 repeat' (first|refine Z1 ?_|(refine Z8 ?_;intro yb ya)|(refine Z4 ?_;clear ya yb)|refine Z3 ?_|exact Zt|(apply ya.out;clear ya yb))
 refine Af (fun m s M'=>∃i:Nat,m=x.body.length-i/\i<=x.body.length/\s 1=fx oc 0 N.length/\s 5=sc (.int .i64 (Cp N cc (x.body.take i)))/\s 10=sl id x.body.length b/\s 11=sc (.int .i64 x.body.length)/\s 12=sc (.int .i64 i)/\Keep M M') x.body.length
  ⟨0,Aj6,Aj6,rfl,rfl,rfl,rfl,rfl,Xs⟩ ?_
 rintro m s M' ⟨i,rfl,hi,h1,h5,az,ay,ax,hK⟩;have au:=hK.nobj;have ak:M'.obj oc=Fu N.length cc:=by rw[hK.obj _ aj];exact am
 by_cases an:i<x.body.length
 ·have ab:=Agz an;obtain⟨ha,ia,r,hd⟩:=Ml hb ab;generalize x.body[i]=a at hd ab ha;have ah:=Air ha;have ai:=Ft cc ah;have ap:=af (N.idxOf a.pred);have ad:Akc (Cp N cc (x.body.take (i+1))=Dy N cc (Cp N cc (x.body.take i)) a):=by
   rw[Akc,Ahd,ab,Ais,iJ]
  have ac:Akc (Jb N cc a=if a.nt=true then cc (N.idxOf a.pred)+1 else cc (N.idxOf a.pred)):=rfl;have ao:=Of (N:=N) af (by decide) (x.body.take i);clear ab af;generalize cc (N.idxOf a.pred)=ci at ai ap ac;generalize N.idxOf a.pred=ix at hd ah ai;generalize Cp N cc (x.body.take i)=lm at h5 ad ao;cases hnt:a.nt with
  |true=>
   rw[hnt]at hd;have aa:Akc (Jb N cc a=ci+1):=by rw[Akc,ac.out,if_pos hnt]
   repeat' (first|refine Z1 ?_|(refine Z8 ?_;intro yb ya)|(refine Z4 ?_;clear ya yb)|(refine Z2 ?_ ?_<;>intro h ae<;>try exact Xp)|refine Z3 ?_|exact Zt|(apply ya.out;clear ya yb))
   ·refine⟨x.body.length-(i+1),Aj6,i+1,rfl,Aj6,?_,by simp,(hK.new _).put hK.nobj _⟩;rw[ad.out,Dy,aa.out,if_pos (by simpa using h)]
   ·refine⟨x.body.length-(i+1),Aj6,i+1,rfl,Aj6,?_,by simp,(hK.new _).put hK.nobj _⟩;rw[ad.out,Dy,aa.out,if_neg (by simpa using h)]
  |false=>
   rw[hnt]at hd;have aa:Akc (Jb N cc a=ci):=by rw[Akc,ac.out,if_neg (by rw[hnt];simp)]
   repeat' (first|refine Z1 ?_|(refine Z8 ?_;intro yb ya)|(refine Z4 ?_;clear ya yb)|(refine Z2 ?_ ?_<;>intro h ae<;>try exact Xp)|refine Z3 ?_|exact Zt|(apply ya.out;clear ya yb))
   ·refine⟨x.body.length-(i+1),Aj6,i+1,rfl,Aj6,?_,by simp,(hK.new _).put hK.nobj _⟩;rw[ad.out,Dy,aa.out,if_pos (by simpa using h)]
   ·refine⟨x.body.length-(i+1),Aj6,i+1,rfl,Aj6,?_,by simp,(hK.new _).put hK.nobj _⟩;rw[ad.out,Dy,aa.out,if_neg (by simpa using h)]
 ·have hil:i=x.body.length:=Aj6;subst hil;rw[Ag7]at h5
  repeat' (first|refine Z1 ?_|(refine Z8 ?_;intro yb ya)|(refine Z4 ?_;clear ya yb)|(refine Z2 ?_ ?_<;>intro h ae<;>try exact Xp)|refine Z3 ?_|exact Zt|(apply ya.out;clear ya yb))
  first|exact⟨_,rfl,rfl,hK⟩|exact⟨_,rfl,rfl⟩
def Ev (N:List Tx)(cc:Nat->Int)(x:RItem):Nat->Int:=fun j=>if j=N.idxOf x.head.pred/\cc (N.idxOf x.head.pred)<Cp N cc x.body then Cp N cc x.body else cc j
def Aeg (N:List Tx)(l:List RItem)(cc:Nat->Int):Nat->Int:=l.foldl (Ev N) cc
def Bv (N:List Tx)(l:List RItem):Nat->Nat->Int
 |0=>fun _=>0
 |k+1=>Aeg N l (Bv N l k)
def Abo (cc:Nat->Int)(B:Int):Prop:=∀i,0<=cc i/\cc i<=B
theorem rR {N:List Tx}{cc:Nat->Int}{B:Int}(h:Abo cc B)(hB:0<=B)(x:RItem):Abo (Ev N cc x) (B+1):=by
 intro i;have h1:=h i;have h2:=Of (N:=N) h hB x.body;unfold Ev;split<;>omega
theorem rQ {N:List Tx}{cc:Nat->Int}{x:RItem}(h:cc (N.idxOf x.head.pred)<Cp N cc x.body):(fun j=>if j=N.idxOf x.head.pred then Cp N cc x.body else cc j)=Ev N cc x:=by
 funext j;unfold Ev;by_cases e:j=N.idxOf x.head.pred<;>simp[e,h]
theorem lD {N:List Tx}{cc:Nat->Int}{x:RItem}(h:¬cc (N.idxOf x.head.pred)<Cp N cc x.body):Ev N cc x=cc:=by
 funext j;unfold Ev;rw[if_neg (fun e=>h e.2)]
theorem fC (N:List Tx)(l:List RItem)(cs:List AV)(idn idi:Nat)(hB:Bk N l cs)(M:St):ACalls Tryz.prog 83 [Bn N idn l idi cs] M fun r M'=>∃o,r=fx o 0 N.length/\M'.obj o=Fu N.length (Bv N l l.length)/\M.nobj<=o/\o<M'.nobj/\Keep M M':=by
 have a6:=EL.length Dd hB.el;have az:=hB.len;have hN:=hB.nm;refine Z9 45 [.tmp 2] Tryz.func83 ?_
 repeat' (first|refine Z1 ?_|(refine Z8 ?_;intro yb ya)|(refine Z4 ?_;clear ya yb)|refine Z3 ?_|exact Zt|(apply ya.out;clear ya yb))
 refine Af (fun m s M'=>∃(r:Nat) (cc:Nat->Int),m=l.length-r/\r<=l.length/\s 1=ptr M.nobj 0/\s 3=fx (M.nobj+1) 0 N.length/\s 4=sc (.int .i64 r)/\Keep M M'/\M.nobj+1<M'.nobj/\M'.obj M.nobj=[sl idn N.length (N.map str),sl idi l.length cs]/\M'.obj (M.nobj+1)=Fu N.length cc/\Akc (Abo cc (r*16:Nat))/\Akc (cc=Bv N l r)) l.length
  ⟨0,fun _=>0,Aj6,Aj6,Aj8,Aj8,rfl,Xs,Aka,?_,?_,fun i=>by simp,rfl⟩ ?_
 ·rw[Ag (by rw[Aa];omega),Ao]
 ·show (if M.nobj+1=M.nobj+1 then _ else _)=_;rw[if_pos rfl];exact Q8 _
 rintro m s M' ⟨r,cc,rfl,hr,h1,h3,h4,hK,aa,ac,ae,hG,hC⟩;have am:=hK.nobj;by_cases a5:r<l.length
 ·repeat' (first|refine Z1 ?_|(refine Z8 ?_;intro yb ya)|(refine Z4 ?_;clear ya yb)|(refine Z2 ?_ ?_<;>intro h ad<;>try exact Xp)|refine Z3 ?_|exact Zt|(apply ya.out;clear ya yb))
  refine Af (fun m s M'=>∃(i:Nat) (cc:Nat->Int),m=l.length-i/\i<=l.length/\s 1=ptr M.nobj 0/\s 3=fx (M.nobj+1) 0 N.length/\s 4=sc (.int .i64 r)/\s 20=sl idi l.length cs/\s 21=sc (.int .i64 l.length)/\s 22=sc (.int .i64 i)/\Keep M M'/\M.nobj+1<M'.nobj/\M'.obj M.nobj=[sl idn N.length (N.map str),sl idi l.length cs]/\M'.obj (M.nobj+1)=Fu N.length cc/\Akc (Abo cc (r*16+i:Nat))/\Akc (cc=(l.take i).foldl (Ev N) (Bv N l r))) l.length
   ⟨0,cc,Aj6,Aj6,by simp[upd,h1],by simp[upd,h3],by simp[upd,h4],Aj8,rfl,rfl,hK,aa,ac,ae,by simpa using hG,by simpa using hC⟩ ?_
  clear hK aa ac ae hG hC h1 h3 h4 am cc;rintro m s M' ⟨i,cc,rfl,hi,h1,h3,h4,a9,a8,a7,hK,aa,ac,ae,hG,hC⟩;have am:=hK.nobj;by_cases ah:i<l.length
  ·have ab:=Agz ah;have ao:=hB.fits l[i] (Ain ah);obtain⟨hm,ih,id,b,rr,hb,hd⟩:=Em hB.el ab;generalize l[i]=x at hd ab ao hb hm;have HX:Akc (l[i]?=some x):=ab;clear ab;have an:=Air hm;have ap:=Ft cc an;have a4:=I4 N.length cc;have au:(0:Int)<=((r*16+i:Nat):Int):=Aiu _;have hll:=Of (N:=N) hG.out au x.body;have a0:=hG.out (N.idxOf x.head.pred);have hL:=fun (τ:St) (h1:τ.obj (M.nobj+1)=Fu N.length cc) (h2:M.nobj+1<τ.nobj)=>Ps N x _ cc (M.nobj+1) (PI.of (ih:=ih) (id:=id) hm hb) ao.1 (fun j=>by have:=hG.out j;omega) τ h1 h2;have HS:Akc (cc (N.idxOf x.head.pred)<Cp N cc x.body->(Fu N.length cc).set (N.idxOf x.head.pred) (sc (.int .i64 (Cp N cc x.body)))=Fu N.length (Ev N cc x)):=fun h=>by rw[P3,rQ h]
   have HN:Akc (¬cc (N.idxOf x.head.pred)<Cp N cc x.body->Ev N cc x=cc):=lD;have av:=rR (N:=N) hG.out au x;have a3:Akc _:=av;have aw:Akc ((l.take (i+1)).foldl (Ev N) (Bv N l r)=Ev N cc x):=by
    rw[Akc,Ahd,HX.out,Ais,Aix,<-hC.out];rfl
   clear av;generalize Cp N cc x.body=lm at hL HS HN hll;generalize cc (N.idxOf x.head.pred)=ci at ap HS HN a0;generalize N.idxOf x.head.pred=ix at hd an ap hL HS
   repeat' (first|refine Z1 ?_|(refine Z8 ?_;intro yb ya)|(refine Z4 ?_;clear ya yb)|(refine Z2 ?_ ?_<;>intro h ad<;>try exact Xp)|(refine Z5 ?_;refine Xi (hL _ (by rw[Ah Aj6,Ag Aj6];exact ae) (by simp only[Ab,Aa];omega)) ?_;rintro _ _ ⟨rfl,ai⟩;(have ax:=ai.obj;have aj:=ai.nobj;(try simp only[Aa,Ab,Aw]at aj)))|refine Z3 ?_|exact Zt|(apply ya.out;clear ya yb))
   ·have ak:=((hK.new [sc (.bool false),sc (.int .i64 0),nilS,nilS]).put hK.nobj _).trans ai;exact⟨l.length-(i+1),Aj6,i+1,Ev N cc x,rfl,Aj6,by simp,ak.put Aj6 _,Aj6,HS.out (by simpa using h),fun j=>by have:=a3.out j;omega,aw.out.symm⟩
   ·have ak:=((hK.new [sc (.bool false),sc (.int .i64 0),nilS,nilS]).put hK.nobj _).trans ai;have af:=HN.out (by simpa using h);exact⟨l.length-(i+1),Aj6,i+1,cc,rfl,Aj6,by simp,ak,Aj6,rfl,fun j=>by have:=hG.out j;omega,by rw[Akc,aw.out,af]⟩
  ·have hil:i=l.length:=Aj6;subst hil;rw[Ag7]at hC
   repeat' (first|refine Z1 ?_|(refine Z8 ?_;intro yb ya)|(refine Z4 ?_;clear ya yb)|(refine Z2 ?_ ?_<;>intro h ad<;>try exact Xp)|refine Z3 ?_|exact Zt|(apply ya.out;clear ya yb))
   refine⟨l.length-(r+1),Aj6,r+1,cc,rfl,Aj6,by simp,rfl,fun j=>?_,hC⟩;have:=hG.out j;omega
 ·have ay:r=l.length:=Aj6;subst ay
  repeat' (first|refine Z1 ?_|(refine Z8 ?_;intro yb ya)|(refine Z4 ?_;clear ya yb)|(refine Z2 ?_ ?_<;>intro h ad<;>try exact Xp)|refine Z3 ?_|exact Zt|(apply ya.out;clear ya yb))
  first
  |exact⟨_,rfl,M.nobj+1,rfl,by rw[ae,hC.out],Aj6,aa,hK⟩
  |exact⟨_,rfl,M.nobj+1,rfl,by rw[ae,hC.out],Aj6,aa⟩
def Un (p:Tx)(x:RItem):Bool:=!x.out&&x.head.pred==p
def Qr (l:List RItem)(p:Tx):Bool:=l.any (Un p)
def mU (f:Nat->Bool)(l:List RItem)(p:Tx)(i:Nat):Bool:=match l[i]? with|some x=>Un p x&&f i|none=>false
def Oh (f:Nat->Bool)(l:List RItem)(p:Tx):Bool:=(List.range l.length).any (mU f l p)
def Rch (l:List RItem)(p q:Tx):Prop:=p=q\/Way (D5 l) p q
theorem Rch.trans {l:List RItem}{p q r:Tx}(h:Rch l p q)(k:Rch l q r):Rch l p r:=by
 rcases h with rfl|h
 ·exact k
 ·rcases k with rfl|k
  ·exact .inr h
  ·exact .inr (h.join k)
def HH (l:List RItem):Nat->Tx->Prop
 |0,_=>True
 |k+1,p=>∃x∈l,Rch l p x.head.pred/\∃a∈x.body,a.nt=true/\HH l k a.pred
theorem Qe {l:List RItem}{k:Nat}{p q:Tx}(h:Rch l p q)(hq:HH l k q):HH l k p:=by
 cases k with
 |zero=>trivial
 |succ k=>
  obtain⟨x,hx,hr,hb⟩:=hq;exact⟨x,hx,h.trans hr,hb⟩
theorem Aaq {l:List RItem}:∀(k:Nat) (p:Tx),HH l (k+1) p->HH l k p
 |0,p,_=>trivial
 |k+1,p,⟨x,hx,hr,a,ha,hn,hh⟩=>⟨x,hx,hr,a,ha,hn,Aaq k a.pred hh⟩
theorem Adz {l:List RItem}{p:Tx}{m:Nat}:∀(d:Nat),HH l (m+d) p->HH l m p
 |0,h=>h
 |d+1,h=>Adz d (Aaq _ _ h)
theorem lZ {α:Type}[BEq α][LawfulBEq α]:∀(a b:List α),a.Nodup->(∀x∈a,x∈b)->a.length<=b.length
 |[],b,_,_=>Nat.zero_le _
 |x::a,b,hn,hs=>by
  have hx:=hs x (by simp);have aa:=Aiy.1 hn;have h1:=lZ a (b.erase x) aa.2 fun y hy=>(Aiz (fun e=>aa.1 (by rw[<-e];exact hy))).2 (hs y (by simp[hy]));rw[List.length_erase_of_mem hx]at h1;have h2:0<b.length:=List.length_pos_of_mem hx;simp only[Ahy];omega
def kH (l:List RItem):Prop:=∀x∈l,∀a∈x.body,a.nt=true->¬Rch l a.pred x.head.pred
theorem kI {l:List RItem}(hL:kH l):∀(k:Nat) (p:Tx),HH l k p->∃qs:List Tx,qs.length=k/\qs.Nodup/\∀q∈qs,q∈l.map (·.head.pred)/\Rch l p q
 |0,p,_=>⟨[],rfl,Ai0,fun q h=>by cases h⟩
 |k+1,p,⟨x,hx,hr,a,ha,hn,hh⟩=>by
  obtain⟨qs,h1,h2,h3⟩:=kI hL k a.pred hh;refine⟨x.head.pred::qs,by simp[h1],Aiy.2 ⟨fun hm=>hL x hx a ha hn (h3 _ hm).2,h2⟩,fun q hq=>?_⟩;rcases Ah2.1 hq with rfl|hq
  ·exact⟨Aib.2 ⟨x,hx,rfl⟩,hr⟩
  ·exact⟨(h3 q hq).1,hr.trans (Rch.trans (.inr (.one ⟨x,hx,rfl,a,ha,rfl⟩)) (h3 q hq).2)⟩
theorem kJ {l:List RItem}(hL:kH l){k:Nat}{p:Tx}(h:HH l k p):k<=l.length:=by
 obtain⟨qs,h1,h2,h3⟩:=kI hL k p h;have:=lZ qs (l.map (·.head.pred)) h2 fun q hq=>(h3 q hq).1;rw[Ai1]at this;omega
def tD (l:List RItem)(f:Nat->Bool)(counts:Bool)(x:RItem):Bool:=x.body.any fun a=>a.nt&&(counts&&!Qr l a.pred||Oh f l a.pred)
def Aes (l:List RItem)(f:Nat->Bool)(counts:Bool)(j:Nat):Bool:=match l[j]? with|some x=>tD l f counts x|none=>false
def cG (l:List RItem)(f:Nat->Bool)(counts:Bool)(i:Nat):Bool:=(List.range l.length).any fun j=>Aes l f counts j&&(i==j||Aa1 l i j)
def inK (l:List RItem):Nat->Nat->Bool
 |0=>fun i=>decide (i<l.length)
 |k+1=>cG l (inK l k) (k==0)
theorem ruled_iff {l:List RItem}{p:Tx}:Qr l p=true↔∃x∈l,x.out=false/\x.head.pred=p:=by
 unfold Qr Un;rw[Ahz];simp
theorem holds_iff {l:List RItem}{f:Nat->Bool}{p:Tx}:Oh f l p=true↔∃i x,l[i]?=some x/\x.out=false/\x.head.pred=p/\f i=true:=by
 unfold Oh;rw[Ahz];constructor
 ·rintro⟨i,hi,h⟩;unfold mU at h;split at h
  ·rename_i x hx;simp[Un]at h;exact⟨i,x,hx,h.1.1,h.1.2,h.2⟩
  ·cases h
 ·rintro⟨i,x,hx,h1,h2,h3⟩;refine⟨i,by simpa using (Agy.1 hx).1,?_⟩;unfold mU;rw[hx];simp[Un,h1,h2,h3]
theorem hit_iff {l:List RItem}{f:Nat->Bool}{counts:Bool}{x:RItem}:tD l f counts x=true↔∃a∈x.body,a.nt=true/\((counts=true/\Qr l a.pred=false)\/Oh f l a.pred=true):=by
 unfold tD;rw[Ahz];simp
theorem higher_iff {l:List RItem}{f:Nat->Bool}{counts:Bool}{i:Nat}:cG l f counts i=true↔∃j y,l[j]?=some y/\tD l f counts y=true/\(i=j\/Way (fun a b=>Sp l a b=true) i j):=by
 unfold cG;rw[Ahz];constructor
 ·rintro⟨j,hj,h⟩;simp only[Ag3,Ai2,Aj4]at h;obtain⟨h1,h2⟩:=h;unfold Aes at h1;split at h1
  ·rename_i y hy;exact⟨j,y,hy,h1,by rw[<-O2];exact h2⟩
  ·cases h1
 ·rintro⟨j,y,hy,h1,h2⟩;refine⟨j,by simpa using (Agy.1 hy).1,?_⟩;simp only[Ag3,Ai2,Aj4];refine⟨?_,by rw[O2];exact h2⟩;unfold Aes;rw[hy];exact h1
theorem Hf {l:List RItem}(ho:∀x∈l,x.out=true->x.body=[]){x:RItem}(hx:x∈l){a:RAtom}(ha:a∈x.body):x.out=false:=by
 cases h:x.out with
 |false=>rfl
 |true=>rw[ho x hx h]at ha;cases ha
theorem tC {l:List RItem}{p:Tx}(h:Qr l p=true):Oh (inK l 0) l p=true:=by
 obtain⟨x,hx,h1,h2⟩:=ruled_iff.1 h;obtain⟨i,hi⟩:=Aif hx;exact holds_iff.2 ⟨i,x,hi,h1,h2,by simpa[inK]using (Agy.1 hi).1⟩
theorem Vm {l:List RItem}(ho:∀x∈l,x.out=true->x.body=[]):∀(k:Nat) (p:Tx),Oh (inK l (k+1)) l p=true↔HH l (k+1) p:=by
 intro k;induction k with
 |zero=>
  intro p;rw[holds_iff];constructor
  ·rintro⟨i,x,hx,h1,rfl,h3⟩;obtain⟨j,y,hy,hh,hw⟩:=higher_iff.1 h3;obtain⟨a,ha,hn,-⟩:=hit_iff.1 hh;refine⟨y,Ag1 hy,?_,a,ha,hn,trivial⟩;rcases hw with rfl|hw
   ·rw[hx]at hy;cases hy;exact .inl rfl
   ·obtain⟨x',y',aa,ac,-,hw⟩:=Qh hw;rw[hx]at aa;cases aa;rw[hy]at ac;cases ac;exact .inr hw
  ·rintro⟨y,hy,hr,a,ha,hn,-⟩;obtain⟨j,hj⟩:=Aif hy;have ab:=Hf ho hy ha
   have hh:tD l (inK l 0) (0==0) y=true:=hit_iff.2 ⟨a,ha,hn,by
    cases af:Qr l a.pred with
    |false=>exact .inl ⟨rfl,rfl⟩
    |true=>exact .inr (tC af)⟩
   rcases hr with rfl|hw
   ·exact⟨j,y,hj,ab,rfl,higher_iff.2 ⟨j,y,hj,hh,.inl rfl⟩⟩
   ·obtain⟨i,x,hi,ae,ad⟩:=Qi ho hw j y hj ab rfl;refine⟨i,x,hi,?_,ae,higher_iff.2 ⟨j,y,hj,hh,.inr ad⟩⟩;cases ad with
    |one e=>obtain⟨x',_,aa,_,_,b,hb,_⟩:=edge_iff.1 e;rw[hi]at aa;cases aa;exact Hf ho (Ag1 hi) hb
    |more e _=>obtain⟨x',_,aa,_,_,b,hb,_⟩:=edge_iff.1 e;rw[hi]at aa;cases aa;exact Hf ho (Ag1 hi) hb
 |succ k ih=>
  intro p;rw[holds_iff];constructor
  ·rintro⟨i,x,hx,h1,rfl,h3⟩;obtain⟨j,y,hy,hh,hw⟩:=higher_iff.1 h3;obtain⟨a,ha,hn,hc⟩:=hit_iff.1 hh;have ah:HH l (k+1) a.pred:=by
    rcases hc with⟨hc,-⟩|hc
    ·simp at hc
    ·exact (ih a.pred).1 hc
   refine⟨y,Ag1 hy,?_,a,ha,hn,ah⟩;rcases hw with rfl|hw
   ·rw[hx]at hy;cases hy;exact .inl rfl
   ·obtain⟨x',y',aa,ac,-,hw⟩:=Qh hw;rw[hx]at aa;cases aa;rw[hy]at ac;cases ac;exact .inr hw
  ·rintro⟨y,hy,hr,a,ha,hn,hk⟩;obtain⟨j,hj⟩:=Aif hy;have ab:=Hf ho hy ha;have hh:tD l (inK l (k+1)) (k+1==0) y=true:=hit_iff.2 ⟨a,ha,hn,.inr ((ih a.pred).2 hk)⟩;rcases hr with rfl|hw
   ·exact⟨j,y,hj,ab,rfl,higher_iff.2 ⟨j,y,hj,hh,.inl rfl⟩⟩
   ·obtain⟨i,x,hi,ae,ad⟩:=Qi ho hw j y hj ab rfl;refine⟨i,x,hi,?_,ae,higher_iff.2 ⟨j,y,hj,hh,.inr ad⟩⟩;cases ad with
    |one e=>obtain⟨x',_,aa,_,_,b,hb,_⟩:=edge_iff.1 e;rw[hi]at aa;cases aa;exact Hf ho (Ag1 hi) hb
    |more e _=>obtain⟨x',_,aa,_,_,b,hb,_⟩:=edge_iff.1 e;rw[hi]at aa;cases aa;exact Hf ho (Ag1 hi) hb
def B6 (l:List RItem)(p:Tx):Nat:=match (List.range 16).find? (fun k=>!Oh (inK l (k+1)) l p)with|some k=>k|none=>16
theorem Eu {l:List RItem}(ho:∀x∈l,x.out=true->x.body=[])(hL:kH l)(hl:l.length<=16)(p:Tx)(k:Nat):HH l k p↔k<=B6 l p:=by
 unfold B6;split
 ·rename_i d hd;rw[List.find?_range_eq_some]at hd;obtain⟨h1,h2,h3⟩:=hd;have h4:¬HH l (d+1) p:=by rw[<-Vm ho];simpa using h1
  constructor
  ·intro h;rcases Agq d k with ab|aa
   ·exact absurd (Adz (m:=d+1) (k-(d+1)) (by rw[show d+1+(k-(d+1))=k by omega];exact h)) h4
   ·exact aa
  ·intro h;cases k with
   |zero=>trivial
   |succ k=>
    have:=h3 k Aj6;rw[<-Vm ho];simpa using this
 ·rename_i hd;constructor
  ·intro h;have:=kJ hL h;omega
  ·intro h;cases k with
   |zero=>trivial
   |succ k=>
    rw[Ah1]at hd;have:=hd k (by simp;omega);rw[<-Vm ho];simpa using this
theorem G9 {N:List Tx}{cc:Nat->Int}:∀(ls:List RAtom) (m:Int),m<=ls.foldl (Dy N cc) m/\(∀a∈ls,Jb N cc a<=ls.foldl (Dy N cc) m)/\(∀k:Int,k<=ls.foldl (Dy N cc) m->k<=m\/∃a∈ls,k<=Jb N cc a)
 |[],m=>⟨Ai3 _,(fun a h=>by cases h),fun k h=>.inl h⟩
 |b::ls,m=>by
  obtain⟨h1,h2,h3⟩:=G9 (N:=N) (cc:=cc) ls (Dy N cc m b);have h4:m<=Dy N cc m b/\Jb N cc b<=Dy N cc m b/\(Dy N cc m b=m\/Dy N cc m b=Jb N cc b):=by
   unfold Dy;split
   ·exact⟨Aj6,Aj6,.inr rfl⟩
   ·exact⟨Aj6,Aj6,.inl rfl⟩
  rw[Ag6];refine⟨Aj6,fun a ha=>?_,fun k hk=>?_⟩
  ·rcases Ah2.1 ha with rfl|ha
   ·omega
   ·exact h2 a ha
  ·rcases h3 k hk with h|⟨a,ha,h⟩
   ·rcases h4.2.2 with e|e
    ·exact .inl Aj6
    ·exact .inr ⟨b,by simp,Aj6⟩
   ·exact .inr ⟨a,by simp[ha],h⟩
theorem tW {N:List Tx}{cc dd:Nat->Int}(h:∀j,cc j<=dd j)(a:RAtom):Jb N cc a<=Jb N dd a:=by
 have:=h (N.idxOf a.pred);unfold Jb;split<;>omega
theorem iK {N:List Tx}{cc dd:Nat->Int}(h:∀j,cc j<=dd j)(ls:List RAtom):Cp N cc ls<=Cp N dd ls:=by
 obtain⟨h1,h2,h3⟩:=G9 (N:=N) (cc:=dd) ls 0;obtain⟨g1,g2,g3⟩:=G9 (N:=N) (cc:=cc) ls 0;rcases g3 _ (Ai3 _)with g|⟨a,ha,g⟩
 ·exact Ai4 g h1
 ·exact Ai4 g (Ai4 (tW h a) (h2 a ha))
theorem fD {N:List Tx}(cc:Nat->Int)(x:RItem)(j:Nat):cc j<=Ev N cc x j:=by
 unfold Ev;split
 ·rename_i h;rw[h.1];omega
 ·omega
theorem wF {N:List Tx}(cc:Nat->Int)(x:RItem):Cp N cc x.body<=Ev N cc x (N.idxOf x.head.pred):=by
 unfold Ev;by_cases h:cc (N.idxOf x.head.pred)<Cp N cc x.body
 ·rw[if_pos ⟨rfl,h⟩];omega
 ·rw[if_neg (fun e=>h e.2)];omega
theorem Pi {N:List Tx}:∀(l:List RItem) (cc:Nat->Int) (j:Nat),cc j<=l.foldl (Ev N) cc j
 |[],cc,j=>Ai3 _
 |x::l,cc,j=>Ai4 (fD cc x j) (Pi l _ j)
theorem Ph {N:List Tx}:∀(l:List RItem) (cc dd:Nat->Int),(∀j,cc j<=dd j)->∀x∈l,Cp N cc x.body<=l.foldl (Ev N) dd (N.idxOf x.head.pred)
 |y::l,cc,dd,h,x,hx=>by
  rw[Ag6];rcases Ah2.1 hx with rfl|hx
  ·exact Ai4 (iK h _) (Ai4 (wF dd x) (Pi l _ _))
  ·exact Ph l cc _ (fun j=>Ai4 (h j) (fD dd y j)) x hx
theorem Ji {N:List Tx}{l:List RItem}:∀(n:Nat) (j:Nat),0<=Bv N l n j
 |0,j=>Ai3 _
 |n+1,j=>Ai4 (Ji n j) (Pi l _ j)
def Meet (N:List Tx)(l:List RItem)(cc:Nat->Int):Prop:=∀p∈N,∀k:Nat,(k:Int)<=cc (N.idxOf p)->HH l k p
theorem Meet.step {N:List Tx}{l:List RItem}(hN:∀x∈l,x.head.pred∈N/\∀a∈x.body,a.pred∈N){cc:Nat->Int}(h:Meet N l cc){x:RItem}(hx:x∈l):Meet N l (Ev N cc x):=by
 intro p hp k hk;unfold Ev at hk;split at hk
 ·rename_i hc;obtain rfl:p=x.head.pred:=C1 hp (hN x hx).1 hc.1;cases k with
  |zero=>trivial
  |succ k=>
   rcases (G9 (N:=N) (cc:=cc) x.body 0).2.2 _ hk with h0|⟨a,ha,h0⟩
   ·omega
   ·have aa:=(hN x hx).2 a ha;unfold Jb at h0;cases hn:a.nt with
    |true=>
     rw[if_pos hn]at h0;exact⟨x,hx,.inl rfl,a,ha,hn,h a.pred aa k Aj6⟩
    |false=>
     rw[if_neg (by rw[hn];simp)]at h0;exact Qe (.inr (.one ⟨x,hx,rfl,a,ha,rfl⟩)) (h a.pred aa (k+1) h0)
 ·exact h p hp k hk
theorem Meet.round {N:List Tx}{l:List RItem}(hN:∀x∈l,x.head.pred∈N/\∀a∈x.body,a.pred∈N):∀(m:List RItem) (cc:Nat->Int),(∀x∈m,x∈l)->Meet N l cc->Meet N l (m.foldl (Ev N) cc)
 |[],cc,_,h=>h
 |x::m,cc,hs,h=>Meet.round hN m _ (fun y hy=>hs y (by simp[hy])) (h.step hN (hs x (by simp)))
theorem Z0 {N:List Tx}{l:List RItem}(hN:∀x∈l,x.head.pred∈N/\∀a∈x.body,a.pred∈N):∀n,Meet N l (Bv N l n)
 |0=>fun p _ k hk=>by
  have:k=0:=by
   have aa:(k:Int)<=0:=hk;omega
  subst this;trivial
 |n+1=>Meet.round hN l _ (fun _ h=>h) (Z0 hN n)
theorem qU {l:List RItem}{k:Nat}{p:Tx}(h:HH l (k+1) p):∃x∈l,x.head.pred=p:=by
 obtain⟨x,hx,hr,-⟩:=h;rcases hr with rfl|hw
 ·exact⟨x,hx,rfl⟩
 ·cases hw with
  |one e=>obtain⟨y,hy,h1,-⟩:=e;exact⟨y,hy,h1⟩
  |more e _=>obtain⟨y,hy,h1,-⟩:=e;exact⟨y,hy,h1⟩
theorem Rt {α:Type}{P Q:α->Bool}:∀(l:List α),(∀x∈l,Q x=true->P x=true)->(l.filter Q).length<=(l.filter P).length/\((∃x∈l,P x=true/\Q x=false)->(l.filter Q).length<(l.filter P).length)
 |[],_=>⟨Agn _,fun⟨x,h,_⟩=>by cases h⟩
 |x::l,h=>by
  obtain⟨h1,h2⟩:=Rt l fun y hy=>h y (by simp[hy]);have hx:=h x (by simp);simp only[Ai5];cases hq:Q x with
  |true=>
   rw[hx hq];simp only[if_true,Ahy];refine⟨Aj6,fun⟨y,hy,g1,g2⟩=>?_⟩;rcases Ah2.1 hy with rfl|hy
   ·rw[hq]at g2;cases g2
   ·have:=h2 ⟨y,hy,g1,g2⟩;omega
  |false=>
   cases hp:P x with
   |true=>simp only[if_true,Ahv,if_false,Ahy];exact⟨Aj6,fun _=>Aj6⟩
   |false=>
    simp only[Ahv,if_false];refine⟨h1,fun⟨y,hy,g1,g2⟩=>?_⟩;rcases Ah2.1 hy with rfl|hy
    ·rw[hp]at g1;cases g1
    ·exact h2 ⟨y,hy,g1,g2⟩
theorem iI {α:Type}(f:α->Nat):∀(l:List α),l≠[]->∃x∈l,∀y∈l,f x<=f y
 |[],h=>absurd rfl h
 |[x],_=>⟨x,by simp,by simp⟩
 |x::y::l,_=>by
  obtain⟨z,hz,hm⟩:=iI f (y::l) (by simp);rcases Nat.le_total (f x) (f z)with h|h
  ·exact⟨x,by simp,fun u hu=>by
    rcases Ah2.1 hu with rfl|hu
    ·exact Agn _
    ·exact Ago h (hm u hu)⟩
  ·exact⟨z,by simp[Ah2.1 hz],fun u hu=>by
    rcases Ah2.1 hu with rfl|hu
    ·exact h
    ·exact hm u hu⟩
section rounds
variable {N:List Tx} {l:List RItem} (D:Tx->Nat)
theorem xT (hD:∀p k,HH l k p↔k<=D p)(n:Nat)(k:Nat)(z:RItem)(hz:z∈l)(a:RAtom)(ha:a∈z.body)(hn:a.nt=true)(hk:D z.head.pred=k+1)(ad:(k:Int)<=Bv N l n (N.idxOf a.pred)):
  ∀p,Way (D5 l) p z.head.pred->D p=k+1->Bv N l n (N.idxOf p)<D p->(∃x∈l,x.head.pred=p)->∃y∈l,Bv N l n (N.idxOf y.head.pred)<D y.head.pred/\(D y.head.pred:Int)<=Bv N l (n+1) (N.idxOf y.head.pred):=by
 have ac:(D z.head.pred:Int)<=Bv N l (n+1) (N.idxOf z.head.pred):=by
  have h1:=Ph (N:=N) l (Bv N l n) (Bv N l n) (fun j=>Ai3 _) z hz;have h2:=(G9 (N:=N) (cc:=Bv N l n) z.body 0).2.1 a ha;have h3:Jb N (Bv N l n) a=Bv N l n (N.idxOf a.pred)+1:=by unfold Jb;rw[if_pos hn]
  have h4:Cp N (Bv N l n) z.body<=Bv N l (n+1) (N.idxOf z.head.pred):=h1;unfold Cp at h4;omega
 have up:∀u∈l,∀b∈u.body,Bv N l n (N.idxOf b.pred)<=Bv N l (n+1) (N.idxOf u.head.pred):=by
  intro u hu b hb;have h1:=Ph (N:=N) l (Bv N l n) (Bv N l n) (fun j=>Ai3 _) u hu;have h2:=(G9 (N:=N) (cc:=Bv N l n) u.body 0).2.1 b hb;have h3:Bv N l n (N.idxOf b.pred)<=Jb N (Bv N l n) b:=by unfold Jb;split<;>omega
  have h4:Cp N (Bv N l n) u.body<=Bv N l (n+1) (N.idxOf u.head.pred):=h1;unfold Cp at h4;omega
 have down:∀p q,Rch l p q->D q<=D p:=fun p q h=>(hD p _).1 (Qe h ((hD q _).2 (Agn _)));intro p hw;generalize aa:z.head.pred=zp at hw;induction hw with
 |one e=>
  intro hp ab _;obtain⟨u,hu,rfl,b,hb,rfl⟩:=e;rcases Int.lt_or_le (Bv N l n (N.idxOf b.pred)) (D b.pred)with h|h
  ·exact⟨z,hz,by rw[aa];exact h,ac⟩
  ·refine⟨u,hu,ab,?_⟩;have:=up u hu b hb;rw[<-aa]at this h;omega
 |more e hw ih=>
  rename_i p q r;intro hp ab _;obtain⟨u,hu,rfl,b,hb,rfl⟩:=e;have hq:D b.pred=k+1:=by
   have h1:=down u.head.pred b.pred (.inr (.one ⟨u,hu,rfl,b,hb,rfl⟩));have h2:=down b.pred r (.inr hw);rw[<-aa]at h2;omega
  rcases Int.lt_or_le (Bv N l n (N.idxOf b.pred)) (D b.pred)with h|h
  ·refine ih aa hq h ?_;cases hw with
   |one e=>obtain⟨y,hy,h1,-⟩:=e;exact⟨y,hy,h1⟩
   |more e _=>obtain⟨y,hy,h1,-⟩:=e;exact⟨y,hy,h1⟩
  ·refine⟨u,hu,ab,?_⟩;have:=up u hu b hb;omega
theorem Rj (hD:∀p k,HH l k p↔k<=D p):∀n,(l.filter fun x=>decide (Bv N l n (N.idxOf x.head.pred)<D x.head.pred)).length<=l.length-n
 |0=>by simpa using Ai6 _ l
 |n+1=>by
  have ih:=Rj hD n;have ab:∀x∈l,decide (Bv N l (n+1) (N.idxOf x.head.pred)<D x.head.pred)=true->decide (Bv N l n (N.idxOf x.head.pred)<D x.head.pred)=true:=by
   intro x _ h;have:=Pi (N:=N) l (Bv N l n) (N.idxOf x.head.pred);have h':Bv N l (n+1) (N.idxOf x.head.pred)<D x.head.pred:=by simpa using h
   have h2:Bv N l (n+1) (N.idxOf x.head.pred)=l.foldl (Ev N) (Bv N l n) (N.idxOf x.head.pred):=rfl;simp only[Aj3];omega
  obtain⟨f1,f2⟩:=Rt l ab;by_cases he:(l.filter fun x=>decide (Bv N l n (N.idxOf x.head.pred)<D x.head.pred))=[]
  ·rw[he]at f1;simp only[Ahx]at f1;omega
  ·obtain⟨x,hx,hm⟩:=iI (fun x=>D x.head.pred) _ he;obtain⟨ad,af⟩:=Ai7.1 hx;have aa:Bv N l n (N.idxOf x.head.pred)<D x.head.pred:=by simpa using af
   have h0:=Ji (N:=N) (l:=l) n (N.idxOf x.head.pred);obtain⟨k,hk⟩:∃k,D x.head.pred=k+1:=⟨D x.head.pred-1,Aj6⟩;have hH:=(hD x.head.pred (k+1)).2 Aj6;obtain⟨z,hz,hr,a,ha,hn,hh⟩:=hH;have aj:D z.head.pred<=k+1:=by
    rw[<-hk];exact (hD _ _).1 (Qe hr ((hD _ _).2 (Agn _)))
   have ai:D a.pred+1<=D z.head.pred:=(hD _ _).1 ⟨z,hz,.inl rfl,a,ha,hn,(hD _ _).2 (Agn _)⟩;have am:=(hD _ _).1 hh;have ah:(k:Int)<=Bv N l n (N.idxOf a.pred):=by
    cases k with
    |zero=>exact Ji n _
    |succ k=>
     obtain⟨y,hy,ac⟩:=qU hh;rcases Int.lt_or_le (Bv N l n (N.idxOf a.pred)) ((k+1:Nat):Int)with h|h
     ·exfalso;have:=hm y (Ai7.2 ⟨hy,by rw[ac];simp only[Aj3];omega⟩);have h2:D x.head.pred<=D a.pred:=by rw[<-ac];exact this
      omega
     ·exact h
   have hex:∃y∈l,Bv N l n (N.idxOf y.head.pred)<D y.head.pred/\(D y.head.pred:Int)<=Bv N l (n+1) (N.idxOf y.head.pred):=by
    rcases hr with hr|hw
    ·refine⟨x,ad,aa,?_⟩;have h1:=Ph (N:=N) l (Bv N l n) (Bv N l n) (fun j=>Ai3 _) z hz;have h2:=(G9 (N:=N) (cc:=Bv N l n) z.body 0).2.1 a ha;have h3:Jb N (Bv N l n) a=Bv N l n (N.idxOf a.pred)+1:=by unfold Jb;rw[if_pos hn]
     have h4:Cp N (Bv N l n) z.body<=Bv N l (n+1) (N.idxOf z.head.pred):=h1;unfold Cp at h4;rw[hr]at hk⊢;omega
    ·exact xT D hD n k z hz a ha hn Aj6 ah _ hw hk aa ⟨x,ad,rfl⟩
   obtain⟨y,hy,ae,ak⟩:=hex;have:=f2 ⟨y,hy,by simpa using ae,by simp only[decide_eq_false_iff_not];omega⟩;omega
theorem fM (hN:∀x∈l,x.head.pred∈N/\∀a∈x.body,a.pred∈N)(hD:∀p k,HH l k p↔k<=D p){p:Tx}(hp:p∈N):Bv N l l.length (N.idxOf p)=D p:=by
 have h0:=Ji (N:=N) (l:=l) l.length (N.idxOf p);have h1:=(hD p _).1 (Z0 hN l.length p hp (Bv N l l.length (N.idxOf p)).toNat Aj6);rcases Nat.eq_zero_or_pos (D p)with hz|hz
 ·omega
 ·obtain⟨k,hk⟩:∃k,D p=k+1:=⟨D p-1,Aj6⟩;obtain⟨x,hx,rfl⟩:=qU ((hD p (k+1)).2 Aj6);have h2:=Rj (N:=N) D hD l.length;have h3:(l.filter fun x=>decide (Bv N l l.length (N.idxOf x.head.pred)<D x.head.pred))=[]:=Ag5 Aj6;rw[List.filter_eq_nil_iff]at h3;have:=h3 x hx;simp only[Aj3]at this;omega
end rounds
theorem Vh {l:List RItem}(ho:∀x∈l,x.out=true->x.body=[])(h:∀i,i<l.length->G1 l i=false):kH l:=by
 intro x hx a ha hn hr;obtain⟨i,hi⟩:=Aif hx;have hk:=h i (Agy.1 hi).1;unfold G1 at hk;rw[hi]at hk;have:=Aim.1 hk a ha;apply this;unfold Ac1;rw[hn];simp only[Aie,Ai2,Aj4];rcases hr with hr|hr
 ·exact .inl hr
 ·exact .inr ((Mn ho ⟨x,hx,Hf ho hx ha,rfl⟩).2 hr)
theorem rO {N:List Tx}{l:List RItem}(hl:l.length<=16)(ho:∀x∈l,x.out=true->x.body=[])(hN:∀x∈l,x.head.pred∈N/\∀a∈x.body,a.pred∈N)(h:∀i,i<l.length->G1 l i=false){p:Tx}(hp:p∈N):Bv N l l.length (N.idxOf p)=B6 l p:=
 fM (B6 l) hN (fun q k=>Eu ho (Vh ho h) hl q k) hp
theorem mW {p:Nat->Bool}{n:Nat}(h:¬0<=Bh p n):∀i,i<n->p i=false:=by
 intro i hi;unfold Bh at h;split at h
 ·rename_i j hj;exact absurd (Aiu j) h
 ·rename_i hn;rw[Ah1]at hn;simpa using hn i (by simpa using hi)
end Go.Proofs.YtmoeoppbmhfbpabGreatDoorL
