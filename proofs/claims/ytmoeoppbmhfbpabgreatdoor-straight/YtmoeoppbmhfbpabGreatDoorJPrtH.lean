import Derived.Test.YtmoeoppbmhfbpabGreatDoorJPrtF
import Derived.Test.YtmoeoppbmhfbpabGreatDoorJProgR
set_option maxHeartbeats 16000000
set_option maxRecDepth 100000
set_option linter.all false
namespace Go.Proofs.YtmoeoppbmhfbpabGreatDoorJ
open Go.Abs
def tM (l:List Tx)(a:Ai):Tx:=a.pred++Jh l 0 a.terms++[41]
theorem kJ {N l:List Tx}{a:Ai}(h:WA N l a):(tM l a).length<=1003000:=by
 obtain⟨h1,h2,h3,h4,h5⟩:=h;have:=Q0 l a.terms 0 fun t ht=>(h5 t ht).2.1;simp only[tM,Ab6,Acx];omega
def prN (a:Ai):Tx:=if a.nt=true then [33]else []
theorem Qy (l:List Tx)(a:Ai):Hp l a=prN a++tM l a:=by simp[Hp,prN,tM]
theorem gM (N l:List Tx)(idn:Nat)(x:RItem)(c:List AV)(hc:RI N l x c)(hN:N.length<=2000)(hm:x.head.pred∈N)(hpl:x.head.pred.length<=1000)(a8:x.body.length<=5)(hh:x.out=false->x.head.nt=false/\WA N l x.head)(hb:∀a∈x.body,WA N l a)(M:St):
  ACalls Tryz.prog 129 [ag c,sl idn N.length (N.map str)] M fun r M'=>r=str (if x.out=true then 63::x.head.pred++[46]else Hp l x.head++G8 l 0 x.body++[46])/\Keep M M':=by
 obtain⟨ih,id,b,a0,rfl⟩:=hc;have a7:=EL.length sX a0;have ba:({data:=#[63]}:ByteArray)=bs [63]:=rfl;have bc:({data:=#[46]}:ByteArray)=bs [46]:=rfl;have bd:({data:=#[44]}:ByteArray)=bs [44]:=rfl;have be:({data:=#[33]}:ByteArray)=bs [33]:=rfl;have bb:({data:=#[58,45]}:ByteArray)=bs [58,45]:=rfl;cases ho:x.out with
 |true=>
  have ax:=Ac4 hm;have a5:(N.map str).drop (N.idxOf x.head.pred)=str x.head.pred::(N.map str).drop (N.idxOf x.head.pred+1):=by
   have:=Fb ax;rwa[Ac3 ax]at this
  generalize N.idxOf x.head.pred=ix at ax a5;clear hh hb;refine Z9 49 [.tmp 4] Tryz.func129 ?_
  repeat' (first|refine Z1 ?_|(refine Z8 ?_;intro κ hκ)|(refine Z4 ?_;clear hκ κ)|(refine Z2 ?_ ?_<;>intro h ac<;>try exact Xp)|refine Z7 ?_|exact⟨⟩|(apply hκ.out;clear hκ κ))
  exact⟨_,rfl,by simp,Xs⟩
 |false=>
  obtain⟨hnt,ai⟩:=hh ho;have a4:=kJ ai;have au:=fun M=>T4 N l idn ih x.head ai.1 hN ai.2.1 ai.2.2.1 ai.2.2.2.1 ai.2.2.2.2 M;have ao:Aec (Hp l x.head=tM l x.head):=by rw[Aec,Qy,prN,hnt];simp
  have au:∀M,ACalls Tryz.prog 182 [ag [sc (.int .i64 (N.idxOf x.head.pred:Nat)),sl ih x.head.terms.length (C8 l x.head.terms)],sl idn N.length (N.map str)] M fun r M'=>r=str (tM l x.head)/\Keep M M':=au;generalize tM l x.head=ae at a4 au ao;clear hh ai hm hnt;rw[if_neg (by simp),ao.out];refine Z9 49 [.tmp 4] Tryz.func129 ?_
  repeat' (first|refine Z1 ?_|(refine Z8 ?_;intro κ hκ)|(refine Z4 ?_;clear hκ κ)|(refine Z2 ?_ ?_<;>intro h ac<;>try exact Xp)|(refine Z5 ?_;refine Xi (au _) ?_;rintro _ _ ⟨rfl,ay⟩;(have av:=ay.obj;have an:=ay.nobj;simp only[Aa]at an))|refine Z7 ?_|exact⟨⟩|(apply hκ.out;clear hκ κ))
  rename_i M1
  refine Ad (fun m s M'=>∃(j:Nat) (acc:Tx),m=x.body.length-j/\j<=x.body.length/\s 1=sl idn N.length (N.map str)/\s 5=str acc/\s 23=sl id x.body.length b/\s 24=sc (.int .i64 x.body.length)/\s 25=sc (.int .i64 j)/\Keep M M'/\acc.length<=1003000+j*1003010/\Aec (acc=ae++G8 l 0 (x.body.take j))) x.body.length
   ⟨0,ae,Ad6,Ad6,by simp[upd,initS],Ad8,Ad8,Ad8,rfl,Xs,Ad6,by simp[Aec,G8]⟩ ?_
  clear ay av an;rintro m s M' ⟨j,acc,rfl,hj,h1,h5,bh,bg,bf,hK,a9,hA⟩;have a6:=hK.nobj;by_cases az:j<x.body.length
  ·have ak:=List.getElem?_eq_getElem az;have aj:=hb x.body[j] (Ac2 az);obtain⟨ia,r,hd⟩:=Aay a0 ak;have aa:Aec (ae++G8 l 0 (x.body.take (j+1))=acc++(lR j++(prN x.body[j]++tM l x.body[j]))):=by
    rw[Aec,Abv,ak,Ac5,Ux,Qy,hA.out,Ab7,Aca Ad6,Ab5,Ab8]
   have ao:=kJ aj;have am:∀M,ACalls Tryz.prog 182 [ag [sc (.int .i64 (N.idxOf x.body[j].pred:Nat)),sl ia x.body[j].terms.length (C8 l x.body[j].terms)],sl idn N.length (N.map str)] M fun r M'=>r=str (tM l x.body[j])/\Keep M M':=fun M=>T4 N l idn ia x.body[j] aj.1 hN aj.2.1 aj.2.2.1 aj.2.2.2.1 aj.2.2.2.2 M;have ap:Aec (prN x.body[j]=if x.body[j].nt=true then [33]else []):=rfl;clear ak aj;generalize x.body[j]=a at hd aa ao am ap;generalize tM l a=wa at aa ao am;cases hnt:a.nt with
   |true=>
    rw[hnt]at hd;have aa:Aec (ae++G8 l 0 (x.body.take (j+1))=acc++(lR j++([33]++wa))):=by rw[Aec,aa.out,ap.out,if_pos hnt]
    clear ap;by_cases ad:j=0
    ·have aw:((j:Int)==0)=true:=by simp[ad]
     have aa:Aec (ae++G8 l 0 (x.body.take (j+1))=acc++([58,45]++([33]++wa))):=by rw[Aec,aa.out,lR,if_pos ad]
     clear ad
     repeat' (first|refine Z1 ?_|(refine Z8 ?_;intro κ hκ)|(refine Z4 ?_;clear hκ κ)|(refine Z2 ?_ ?_<;>intro h ac<;>try exact Xp)|(refine Z5 ?_;refine Xi (am _) ?_;rintro _ _ ⟨rfl,ab⟩;(have af:=ab.obj;have ah:=ab.nobj))|refine Z7 ?_|exact⟨⟩|(apply hκ.out;clear hκ κ))
     exact⟨x.body.length-(j+1),Ad6,j+1,acc++([58,45]++([33]++wa)),rfl,Ad6,by simp,by simp,((hK.new _).put hK.nobj _).trans ab,by simp;omega,by rw[Aec,aa.out]⟩
    ·have aw:((j:Int)==0)=false:=by simp;omega
     have aa:Aec (ae++G8 l 0 (x.body.take (j+1))=acc++([44]++([33]++wa))):=by rw[Aec,aa.out,lR,if_neg ad]
     clear ad
     repeat' (first|refine Z1 ?_|(refine Z8 ?_;intro κ hκ)|(refine Z4 ?_;clear hκ κ)|(refine Z2 ?_ ?_<;>intro h ac<;>try exact Xp)|(refine Z5 ?_;refine Xi (am _) ?_;rintro _ _ ⟨rfl,ab⟩;(have af:=ab.obj;have ah:=ab.nobj))|refine Z7 ?_|exact⟨⟩|(apply hκ.out;clear hκ κ))
     exact⟨x.body.length-(j+1),Ad6,j+1,acc++([44]++([33]++wa)),rfl,Ad6,by simp,by simp,((hK.new _).put hK.nobj _).trans ab,by simp;omega,by rw[Aec,aa.out]⟩
   |false=>
    rw[hnt]at hd;have aa:Aec (ae++G8 l 0 (x.body.take (j+1))=acc++(lR j++([]++wa))):=by rw[Aec,aa.out,ap.out,if_neg (by rw[hnt];simp)]
    clear ap;by_cases ad:j=0
    ·have aw:((j:Int)==0)=true:=by simp[ad]
     have aa:Aec (ae++G8 l 0 (x.body.take (j+1))=acc++([58,45]++([]++wa))):=by rw[Aec,aa.out,lR,if_pos ad]
     clear ad
     repeat' (first|refine Z1 ?_|(refine Z8 ?_;intro κ hκ)|(refine Z4 ?_;clear hκ κ)|(refine Z2 ?_ ?_<;>intro h ac<;>try exact Xp)|(refine Z5 ?_;refine Xi (am _) ?_;rintro _ _ ⟨rfl,ab⟩;(have af:=ab.obj;have ah:=ab.nobj))|refine Z7 ?_|exact⟨⟩|(apply hκ.out;clear hκ κ))
     exact⟨x.body.length-(j+1),Ad6,j+1,acc++([58,45]++([]++wa)),rfl,Ad6,by simp,by simp,((hK.new _).put hK.nobj _).trans ab,by simp;omega,by rw[Aec,aa.out]⟩
    ·have aw:((j:Int)==0)=false:=by simp;omega
     have aa:Aec (ae++G8 l 0 (x.body.take (j+1))=acc++([44]++([]++wa))):=by rw[Aec,aa.out,lR,if_neg ad]
     clear ad
     repeat' (first|refine Z1 ?_|(refine Z8 ?_;intro κ hκ)|(refine Z4 ?_;clear hκ κ)|(refine Z2 ?_ ?_<;>intro h ac<;>try exact Xp)|(refine Z5 ?_;refine Xi (am _) ?_;rintro _ _ ⟨rfl,ab⟩;(have af:=ab.obj;have ah:=ab.nobj))|refine Z7 ?_|exact⟨⟩|(apply hκ.out;clear hκ κ))
     exact⟨x.body.length-(j+1),Ad6,j+1,acc++([44]++([]++wa)),rfl,Ad6,by simp,by simp,((hK.new _).put hK.nobj _).trans ab,by simp;omega,by rw[Aec,aa.out]⟩
  ·have a3:j=x.body.length:=Ad6;subst a3;rw[Abt]at hA
   repeat' (first|refine Z1 ?_|(refine Z8 ?_;intro κ hκ)|(refine Z4 ?_;clear hκ κ)|(refine Z2 ?_ ?_<;>intro h ac<;>try exact Xp)|refine Z7 ?_|exact⟨⟩|(apply hκ.out;clear hκ κ))
   first
   |exact⟨_,rfl,by rw[hA.out],hK⟩
   |exact⟨_,rfl,by rw[hA.out]⟩
theorem It (N:List Tx)(l:List RItem)(cs:List AV)(idn idi:Nat)(hB:Bk N l cs)(x:RItem)(c:List AV)(hx:PI N x c)(hw:WI N x)(M:St):ACalls Tryz.prog 74 [Bs N idn l idi cs,ag c] M fun r M'=>r=str (Cz x)/\Keep M M':=by
 have hN:=hB.nm;have ae:=Mk hw.fits hw.short;obtain⟨hm,ih,id,b,hb,rfl⟩:=hx;have hO:=fun M=>Yh N x _ (PI.of (ih:=ih) (id:=id) hm hb) hw.out hw.fits hw.va hw.vh hw.vb M;have hT:=fun c hc M=>gM N (Dw x) idn x c hc hN hw.mem hw.short.1.1 hw.body hw.head hw.wa M;have hT:∀c,RI N (Dw x) x c->∀M,ACalls Tryz.prog 129 [ag c,sl idn N.length (N.map str)] M fun r M'=>r=str (Cz x)/\Keep M M':=hT;generalize af:Cz x=wx at hT ae⊢;clear af hw;refine Z9 12 [.tmp 4] Tryz.func74 ?_
 repeat' (first|refine Z1 ?_|(refine Z8 ?_;intro κ hκ)|(refine Z4 ?_;clear hκ κ)|(refine Z2 ?_ ?_<;>intro h ai<;>try exact Xp)|(refine Z5 ?_;first|(refine Xi (hO _) ?_;rintro _ _ ⟨c2,rfl,aj,an,ac⟩;(have ad:=ac.obj;have aa:=ac.nobj;(try simp only[Aa,Ab,Ag]at aa);obtain⟨ih2,id2,b2,ah,rfl⟩:=aj))|(refine Xi (hT _ ⟨_,_,_,ah,rfl⟩ _) ?_;rintro _ _ ⟨rfl,am⟩))|refine Z7 ?_|exact⟨⟩|(apply hκ.out;clear hκ κ))
 rename_i M2 M3;have ak:=(((Keep.refl M).new _).new _).trans ac;have ab:=((ak.new _).put Ad6 _).trans am
 first
  |exact⟨_,rfl,rfl,ab⟩
  |exact⟨rfl,ab⟩
  |exact ab
theorem iI (N:List Tx)(l:List RItem)(cs:List AV)(idn idi:Nat)(hB:Bk N l cs)(hW:∀x∈l,WI N x)(M:St):ACalls Tryz.prog 40 [Bs N idn l idi cs] M fun r M'=>r=str (Fo l)/\Keep M M':=by
 have av:=EL.length Df hB.el;have ak:=hB.len;have hN:=hB.nm;have hE:=hB.el;refine Z9 20 [.tmp 2] Tryz.func40 ?_
 repeat' (first|refine Z1 ?_|(refine Z8 ?_;intro κ hκ)|(refine Z4 ?_;clear hκ κ)|(refine Z2 ?_ ?_<;>intro h ab<;>try exact Xp)|refine Z7 ?_|exact⟨⟩|(apply hκ.out;clear hκ κ))
 refine Ad (fun m s M'=>∃(i:Nat) (acc:Tx),m=l.length-i/\i<=l.length/\s 1=ptr M.nobj 0/\s 3=str acc/\s 7=sl idi l.length cs/\s 8=sc (.int .i64 l.length)/\s 9=sc (.int .i64 i)/\Keep M M'/\M.nobj<M'.nobj/\M'.obj M.nobj=[sl idn N.length (N.map str),sl idi l.length cs]/\acc.length<=i*1100000000/\Aec (acc=Fo (l.take i))) l.length
  ⟨0,[],Ad6,Ad6,Ad8,Ad8,Ad8,Ad8,rfl,Xs,Aea,Ao,by simp,by simp[Aec,Fo]⟩ ?_
 rintro m s M' ⟨i,acc,rfl,hi,h1,h3,h7,h8,h9,hK,au,aj,aw,hA⟩;have ap:=hK.nobj;by_cases af:i<l.length
 ·have aa:=List.getElem?_eq_getElem af;have hw:=hW l[i] (Ac2 af);obtain⟨hm,ih,id,b,r,hb,hd⟩:=Fi hE aa;generalize l[i]=x at hd aa hw hm hb;have HG:Aec (l[i]?=some x):=aa;clear aa;have ai:=Mk hw.fits hw.short;have hT:=fun M=>It N l cs idn idi hB x _ (PI.of (ih:=ih) (id:=id) hm hb) hw M;generalize ae:Cz x=wx at hT ai;have ao:Aec _:=ae;clear ae hw
  repeat' (first|refine Z1 ?_|(refine Z8 ?_;intro κ hκ)|(refine Z4 ?_;clear hκ κ)|(refine Z2 ?_ ?_<;>intro h ab<;>try exact Xp)|(refine Z5 ?_;refine Xi (hT _) ?_;rintro _ _ ⟨rfl,ac⟩;(have ah:=ac.obj;have ad:=ac.nobj;(try simp only[Aa,Ab,Ag]at ad)))|refine Z7 ?_|exact⟨⟩|(apply hκ.out;clear hκ κ))
  rename_i M3;have an:=((hK.new _).put hK.nobj _).trans ac;have HA:Aec (acc++wx=Fo (l.take (i+1))):=by
   rw[Aec,Abv,HG.out,hA.out];simp[Fo,ao.out]
  have HL:List.length (acc++wx)<=(i+1)*1100000000:=by simp only[Ab6];omega
  refine⟨l.length-(i+1),Ad6,i+1,acc++wx,?_⟩
  ((repeat' with_reducible refine And.intro ?_ ?_)<;>first|exact Xq|exact (an)|exact (HA)|exact (HL)|exact (by rw[ac.obj _ Aeb,Aj Ad6,Ae Ad6,aj])|exact Xs)
 ·have am:i=l.length:=Ad6;subst am;rw[Abt]at hA
  repeat' (first|refine Z1 ?_|(refine Z8 ?_;intro κ hκ)|(refine Z4 ?_;clear hκ κ)|(refine Z2 ?_ ?_<;>intro h ab<;>try exact Xp)|refine Z7 ?_|exact⟨⟩|(apply hκ.out;clear hκ κ))
  first
  |exact⟨_,rfl,by rw[hA.out],hK⟩
  |exact⟨_,rfl,by rw[hA.out]⟩
def Ib (N:List Tx)(cc:Nat->Int)(a:Ai):Int:=if a.nt=true then cc (N.idxOf a.pred)+1 else cc (N.idxOf a.pred)
def De (N:List Tx)(cc:Nat->Int)(m:Int)(a:Ai):Int:=if m<Ib N cc a then Ib N cc a else m
def Cg (N:List Tx)(cc:Nat->Int)(ls:List Ai):Int:=ls.foldl (De N cc) 0
theorem cK (N:List Tx)(cc:Nat->Int)(ls:List Ai)(a:Ai):Cg N cc (ls++[a])=De N cc (Cg N cc ls) a:=by simp[Cg]
theorem L3 {N:List Tx}{cc:Nat->Int}{B:Int}(h:∀i,0<=cc i/\cc i<=B)(hB:0<=B)(ls:List Ai):0<=Cg N cc ls/\Cg N cc ls<=B+1:=by
 have:∀(ls:List Ai) (m:Int),0<=m->m<=B+1->0<=ls.foldl (De N cc) m/\ls.foldl (De N cc) m<=B+1:=by
  intro ls;induction ls with
  |nil=>intro m h1 h2;exact⟨h1,h2⟩
  |cons a ls ih=>
   intro m h1 h2;have hc:=h (N.idxOf a.pred);have ha:0<=Ib N cc a/\Ib N cc a<=B+1:=by unfold Ib;split<;>omega
   have:0<=De N cc m a/\De N cc m a<=B+1:=by unfold De;split<;>omega
   exact ih _ this.1 this.2
 exact this ls 0 Ad6 Ad6
theorem Nh (N:List Tx)(x:RItem)(c:List AV)(cc:Nat->Int)(oc:Nat)(hc:PI N x c)(hn:x.body.length<=1000)(af:∀i,0<=cc i/\cc i<=1000000)(M:St)(am:M.obj oc=Ez N.length cc)(aj:oc<M.nobj):
  ACalls Tryz.prog 136 [ag c,fx oc 0 N.length] M fun r M'=>r=sc (.int .i64 (Cg N cc x.body))/\Keep M M':=by
 obtain⟨hm,ih,id,b,hb,rfl⟩:=hc;have ax:=EL.length Eb hb;have aw:=H4 N.length cc;refine Z9 32 [.tmp 4] Tryz.func136 ?_
 repeat' (first|refine Z1 ?_|(refine Z8 ?_;intro κ hκ)|(refine Z4 ?_;clear hκ κ)|(refine Z2 ?_ ?_<;>intro h ad<;>try exact Xp)|refine Z3 ?_|exact⟨⟩|(apply hκ.out;clear hκ κ))
 refine Ad (fun m s M'=>∃i:Nat,m=x.body.length-i/\i<=x.body.length/\s 1=fx oc 0 N.length/\s 5=sc (.int .i64 (Cg N cc (x.body.take i)))/\s 10=sl id x.body.length b/\s 11=sc (.int .i64 x.body.length)/\s 12=sc (.int .i64 i)/\Keep M M') x.body.length
  ⟨0,Ad6,Ad6,rfl,rfl,rfl,rfl,rfl,Xs⟩ ?_
 rintro m s M' ⟨i,rfl,hi,h1,h5,a0,az,ay,hK⟩;have av:=hK.nobj;have ak:M'.obj oc=Ez N.length cc:=by rw[hK.obj _ aj];exact am
 by_cases an:i<x.body.length
 ·have ab:=List.getElem?_eq_getElem an;obtain⟨ha,ia,r,hd⟩:=N5 hb ab;generalize x.body[i]=a at hd ab ha;have ah:=Ac4 ha;have ai:=Ey cc ah;have au:=af (N.idxOf a.pred);have ae:Aec (Cg N cc (x.body.take (i+1))=De N cc (Cg N cc (x.body.take i)) a):=by
   rw[Aec,Abv,ab,Ac5,cK]
  have ac:Aec (Ib N cc a=if a.nt=true then cc (N.idxOf a.pred)+1 else cc (N.idxOf a.pred)):=rfl;have ao:=L3 (N:=N) af (by decide) (x.body.take i);clear ab af;generalize cc (N.idxOf a.pred)=ci at ai au ac;generalize N.idxOf a.pred=ix at hd ah ai;generalize Cg N cc (x.body.take i)=lm at h5 ae ao;cases hnt:a.nt with
  |true=>
   rw[hnt]at hd;have aa:Aec (Ib N cc a=ci+1):=by rw[Aec,ac.out,if_pos hnt]
   repeat' (first|refine Z1 ?_|(refine Z8 ?_;intro κ hκ)|(refine Z4 ?_;clear hκ κ)|(refine Z2 ?_ ?_<;>intro h ad<;>try exact Xp)|refine Z3 ?_|exact⟨⟩|(apply hκ.out;clear hκ κ))
   ·refine⟨x.body.length-(i+1),Ad6,i+1,rfl,Ad6,?_,by simp,(hK.new _).put hK.nobj _⟩;rw[ae.out,De,aa.out,if_pos (by simpa using h)]
   ·refine⟨x.body.length-(i+1),Ad6,i+1,rfl,Ad6,?_,by simp,(hK.new _).put hK.nobj _⟩;rw[ae.out,De,aa.out,if_neg (by simpa using h)]
  |false=>
   rw[hnt]at hd;have aa:Aec (Ib N cc a=ci):=by rw[Aec,ac.out,if_neg (by rw[hnt];simp)]
   repeat' (first|refine Z1 ?_|(refine Z8 ?_;intro κ hκ)|(refine Z4 ?_;clear hκ κ)|(refine Z2 ?_ ?_<;>intro h ad<;>try exact Xp)|refine Z3 ?_|exact⟨⟩|(apply hκ.out;clear hκ κ))
   ·refine⟨x.body.length-(i+1),Ad6,i+1,rfl,Ad6,?_,by simp,(hK.new _).put hK.nobj _⟩;rw[ae.out,De,aa.out,if_pos (by simpa using h)]
   ·refine⟨x.body.length-(i+1),Ad6,i+1,rfl,Ad6,?_,by simp,(hK.new _).put hK.nobj _⟩;rw[ae.out,De,aa.out,if_neg (by simpa using h)]
 ·have ap:i=x.body.length:=Ad6;subst ap;rw[Abt]at h5
  repeat' (first|refine Z1 ?_|(refine Z8 ?_;intro κ hκ)|(refine Z4 ?_;clear hκ κ)|(refine Z2 ?_ ?_<;>intro h ad<;>try exact Xp)|refine Z3 ?_|exact⟨⟩|(apply hκ.out;clear hκ κ))
  first|exact⟨_,rfl,rfl,hK⟩|exact⟨_,rfl,rfl⟩
def D3 (N:List Tx)(cc:Nat->Int)(x:RItem):Nat->Int:=fun j=>if j=N.idxOf x.head.pred/\cc (N.idxOf x.head.pred)<Cg N cc x.body then Cg N cc x.body else cc j
def yK (N:List Tx)(l:List RItem)(cc:Nat->Int):Nat->Int:=l.foldl (D3 N) cc
def Bo (N:List Tx)(l:List RItem):Nat->Nat->Int
 |0=>fun _=>0
 |k+1=>yK N l (Bo N l k)
def uF (cc:Nat->Int)(B:Int):Prop:=∀i,0<=cc i/\cc i<=B
theorem mG {N:List Tx}{cc:Nat->Int}{B:Int}(h:uF cc B)(hB:0<=B)(x:RItem):uF (D3 N cc x) (B+1):=by
 intro i;have h1:=h i;have h2:=L3 (N:=N) h hB x.body;unfold D3;split<;>omega
theorem mF {N:List Tx}{cc:Nat->Int}{x:RItem}(h:cc (N.idxOf x.head.pred)<Cg N cc x.body):(fun j=>if j=N.idxOf x.head.pred then Cg N cc x.body else cc j)=D3 N cc x:=by
 funext j;unfold D3;by_cases e:j=N.idxOf x.head.pred<;>simp[e,h]
theorem fA {N:List Tx}{cc:Nat->Int}{x:RItem}(h:¬cc (N.idxOf x.head.pred)<Cg N cc x.body):D3 N cc x=cc:=by
 funext j;unfold D3;rw[if_neg (fun e=>h e.2)]
theorem aF (N:List Tx)(l:List RItem)(cs:List AV)(idn idi:Nat)(hB:Bk N l cs)(M:St):ACalls Tryz.prog 83 [Bs N idn l idi cs] M fun r M'=>∃o,r=fx o 0 N.length/\M'.obj o=Ez N.length (Bo N l l.length)/\M.nobj<=o/\o<M'.nobj/\Keep M M':=by
 have a8:=EL.length Df hB.el;have a0:=hB.len;have hN:=hB.nm;refine Z9 45 [.tmp 2] Tryz.func83 ?_
 repeat' (first|refine Z1 ?_|(refine Z8 ?_;intro κ hκ)|(refine Z4 ?_;clear hκ κ)|(refine Z2 ?_ ?_<;>intro h ac<;>try exact Xp)|refine Z3 ?_|exact⟨⟩|(apply hκ.out;clear hκ κ))
 refine Ad (fun m s M'=>∃(r:Nat) (cc:Nat->Int),m=l.length-r/\r<=l.length/\s 1=ptr M.nobj 0/\s 3=fx (M.nobj+1) 0 N.length/\s 4=sc (.int .i64 r)/\Keep M M'/\M.nobj+1<M'.nobj/\M'.obj M.nobj=[sl idn N.length (N.map str),sl idi l.length cs]/\M'.obj (M.nobj+1)=Ez N.length cc/\Aec (uF cc (r*16:Nat))/\Aec (cc=Bo N l r)) l.length
  ⟨0,fun _=>0,Ad6,Ad6,Ad8,Ad8,rfl,Xs,Aea,?_,?_,fun i=>by simp,rfl⟩ ?_
 ·rw[Ae (by rw[Aa];omega),Ao]
 ·show (if M.nobj+1=M.nobj+1 then _ else _)=_;rw[if_pos rfl];exact O2 _
 rintro m s M' ⟨r,cc,rfl,hr,h1,h3,h4,hK,aa,ad,ae,hG,hC⟩;have am:=hK.nobj;by_cases a7:r<l.length
 ·repeat' (first|refine Z1 ?_|(refine Z8 ?_;intro κ hκ)|(refine Z4 ?_;clear hκ κ)|(refine Z2 ?_ ?_<;>intro h ac<;>try exact Xp)|refine Z3 ?_|exact⟨⟩|(apply hκ.out;clear hκ κ))
  refine Ad (fun m s M'=>∃(i:Nat) (cc:Nat->Int),m=l.length-i/\i<=l.length/\s 1=ptr M.nobj 0/\s 3=fx (M.nobj+1) 0 N.length/\s 4=sc (.int .i64 r)/\s 20=sl idi l.length cs/\s 21=sc (.int .i64 l.length)/\s 22=sc (.int .i64 i)/\Keep M M'/\M.nobj+1<M'.nobj/\M'.obj M.nobj=[sl idn N.length (N.map str),sl idi l.length cs]/\M'.obj (M.nobj+1)=Ez N.length cc/\Aec (uF cc (r*16+i:Nat))/\Aec (cc=(l.take i).foldl (D3 N) (Bo N l r))) l.length
   ⟨0,cc,Ad6,Ad6,by simp[upd,h1],by simp[upd,h3],by simp[upd,h4],Ad8,rfl,rfl,hK,aa,ad,ae,by simpa using hG,by simpa using hC⟩ ?_
  clear hK aa ad ae hG hC h1 h3 h4 am cc;rintro m s M' ⟨i,cc,rfl,hi,h1,h3,h4,bb,ba,a9,hK,aa,ad,ae,hG,hC⟩;have am:=hK.nobj;by_cases ah:i<l.length
  ·have ab:=List.getElem?_eq_getElem ah;have ao:=hB.fits l[i] (Ac2 ah);obtain⟨hm,ih,id,b,rr,hb,hd⟩:=Fi hB.el ab;generalize l[i]=x at hd ab ao hb hm;have HX:Aec (l[i]?=some x):=ab;clear ab;have an:=Ac4 hm;have ap:=Ey cc an;have a6:=H4 N.length cc;have au:(0:Int)<=((r*16+i:Nat):Int):=Ac7 _;have az:=L3 (N:=N) hG.out au x.body;have a4:=hG.out (N.idxOf x.head.pred);have hL:=fun (τ:St) (h1:τ.obj (M.nobj+1)=Ez N.length cc) (h2:M.nobj+1<τ.nobj)=>Nh N x _ cc (M.nobj+1) (PI.of (ih:=ih) (id:=id) hm hb) ao.1 (fun j=>by have:=hG.out j;omega) τ h1 h2;have HS:Aec (cc (N.idxOf x.head.pred)<Cg N cc x.body->(Ez N.length cc).set (N.idxOf x.head.pred) (sc (.int .i64 (Cg N cc x.body)))=Ez N.length (D3 N cc x)):=fun h=>by rw[Nv,mF h]
   have HN:Aec (¬cc (N.idxOf x.head.pred)<Cg N cc x.body->D3 N cc x=cc):=fA;have av:=mG (N:=N) hG.out au x;have a5:Aec _:=av;have aw:Aec ((l.take (i+1)).foldl (D3 N) (Bo N l r)=D3 N cc x):=by
    rw[Aec,Abv,HX.out,Ac5,Ac8,<-hC.out];rfl
   clear av;generalize Cg N cc x.body=lm at hL HS HN az;generalize cc (N.idxOf x.head.pred)=ci at ap HS HN a4;generalize N.idxOf x.head.pred=ix at hd an ap hL HS
   repeat' (first|refine Z1 ?_|(refine Z8 ?_;intro κ hκ)|(refine Z4 ?_;clear hκ κ)|(refine Z2 ?_ ?_<;>intro h ac<;>try exact Xp)|(refine Z5 ?_;refine Xi (hL _ (by rw[Aj Ad6,Ae Ad6];exact ae) (by simp only[Ab,Aa];omega)) ?_;rintro _ _ ⟨rfl,ai⟩;(have ax:=ai.obj;have aj:=ai.nobj;(try simp only[Aa,Ab,Ag]at aj)))|refine Z3 ?_|exact⟨⟩|(apply hκ.out;clear hκ κ))
   ·have ak:=((hK.new [sc (.bool false),sc (.int .i64 0),nilS,nilS]).put hK.nobj _).trans ai;exact⟨l.length-(i+1),Ad6,i+1,D3 N cc x,rfl,Ad6,by simp,ak.put Ad6 _,Ad6,HS.out (by simpa using h),fun j=>by have:=a5.out j;omega,aw.out.symm⟩
   ·have ak:=((hK.new [sc (.bool false),sc (.int .i64 0),nilS,nilS]).put hK.nobj _).trans ai;have af:=HN.out (by simpa using h);exact⟨l.length-(i+1),Ad6,i+1,cc,rfl,Ad6,by simp,ak,Ad6,rfl,fun j=>by have:=hG.out j;omega,by rw[Aec,aw.out,af]⟩
  ·have a3:i=l.length:=Ad6;subst a3;rw[Abt]at hC
   repeat' (first|refine Z1 ?_|(refine Z8 ?_;intro κ hκ)|(refine Z4 ?_;clear hκ κ)|(refine Z2 ?_ ?_<;>intro h ac<;>try exact Xp)|refine Z3 ?_|exact⟨⟩|(apply hκ.out;clear hκ κ))
   refine⟨l.length-(r+1),Ad6,r+1,cc,rfl,Ad6,by simp,rfl,fun j=>?_,hC⟩;have:=hG.out j;omega
 ·have ay:r=l.length:=Ad6;subst ay
  repeat' (first|refine Z1 ?_|(refine Z8 ?_;intro κ hκ)|(refine Z4 ?_;clear hκ κ)|(refine Z2 ?_ ?_<;>intro h ac<;>try exact Xp)|refine Z3 ?_|exact⟨⟩|(apply hκ.out;clear hκ κ))
  first
  |exact⟨_,rfl,M.nobj+1,rfl,by rw[ae,hC.out],Ad6,aa,hK⟩
  |exact⟨_,rfl,M.nobj+1,rfl,by rw[ae,hC.out],Ad6,aa⟩
end Go.Proofs.YtmoeoppbmhfbpabGreatDoorJ
