import Derived.Test.YtmoeoppbmhfbpabGreatDoorHPrtF
import Derived.Test.YtmoeoppbmhfbpabGreatDoorHProgR
import Derived.Test.YtmoeoppbmhfbpabGreatDoorHProgK
import Derived.Test.YtmoeoppbmhfbpabGreatDoorHRefA
set_option linter.all false
namespace Go.Proofs.YtmoeoppbmhfbpabGreatDoorH
set_option maxHeartbeats 16000000
open Go.Abs
set_option maxRecDepth 100000
def tX (l:List Tx)(a:RAtom):Tx:=a.pred++I8 l 0 a.terms++[41]
theorem kE {N l:List Tx}{a:RAtom}(h:WA N l a):(tX l a).length<=1003000:=by
 obtain⟨h1,h2,h3,h4,h5⟩:=h;have:=Q2 l a.terms 0 fun t ht=>(h5 t ht).2.1;simp only[tX,Ab2,Acu];omega
def prN (a:RAtom):Tx:=if a.nt=true then [33]else []
theorem Q0 (l:List Tx)(a:RAtom):Hc l a=prN a++tX l a:=by simp[Hc,prN,tX]
theorem gL (N l:List Tx)(idn:Nat)(x:RItem)(c:List AV)(hc:RI N l x c)(hN:N.length<=2000)(hm:x.head.pred∈N)(hpl:x.head.pred.length<=1000)(a7:x.body.length<=5)(hh:x.out=false->x.head.nt=false/\WA N l x.head)(hb:∀a∈x.body,WA N l a)(M:St):
  ACalls Tryz.prog 129 [ag c,sl idn N.length (N.map str)] M fun r M'=>r=str (if x.out=true then 63::x.head.pred++[46]else Hc l x.head++Gw l 0 x.body++[46])/\Keep M M':=by
 obtain⟨ih,id,b,az,rfl⟩:=hc;have a6:=EL.length tN az;have a9:({data:=#[63]}:ByteArray)=bs [63]:=rfl;have bb:({data:=#[46]}:ByteArray)=bs [46]:=rfl;have bc:({data:=#[44]}:ByteArray)=bs [44]:=rfl;have bd:({data:=#[33]}:ByteArray)=bs [33]:=rfl;have ba:({data:=#[58,45]}:ByteArray)=bs [58,45]:=rfl;cases ho:x.out with
 |true=>
  have aw:=Ac1 hm;have a4:(N.map str).drop (N.idxOf x.head.pred)=str x.head.pred::(N.map str).drop (N.idxOf x.head.pred+1):=by
   have:=Cm aw;rwa[Ac0 aw]at this
  generalize N.idxOf x.head.pred=ix at aw a4;clear hh hb;refine Z9 49 [.tmp 4] Tryz.func129 ?_
  repeat' (first|refine Z1 ?_|(refine Z8 ?_;intro κ hκ)|(refine Z4 ?_;clear hκ κ)|(refine Z2 ?_ ?_<;>intro h ac<;>try exact Xp)|refine Z7 ?_|exact⟨⟩|(apply hκ.out;clear hκ κ))
  exact⟨_,rfl,by simp,Xs⟩
 |false=>
  obtain⟨hnt,ai⟩:=hh ho;have a3:=kE ai;have ar:=fun M=>T5 N l idn ih x.head ai.1 hN ai.2.1 ai.2.2.1 ai.2.2.2.1 ai.2.2.2.2 M;have ao:Ad8 (Hc l x.head=tX l x.head):=by rw[Ad8,Q0,prN,hnt];simp
  have ar:∀M,ACalls Tryz.prog 182 [ag [sc (.int .i64 (N.idxOf x.head.pred:Nat)),sl ih x.head.terms.length (Db l x.head.terms)],sl idn N.length (N.map str)] M fun r M'=>r=str (tX l x.head)/\Keep M M':=ar;generalize tX l x.head=ae at a3 ar ao;clear hh ai hm hnt;rw[if_neg (by simp),ao.out];refine Z9 49 [.tmp 4] Tryz.func129 ?_
  repeat' (first|refine Z1 ?_|(refine Z8 ?_;intro κ hκ)|(refine Z4 ?_;clear hκ κ)|(refine Z2 ?_ ?_<;>intro h ac<;>try exact Xp)|(refine Z5 ?_;refine Xi (ar _) ?_;rintro _ _ ⟨rfl,ax⟩;(have au:=ax.obj;have an:=ax.nobj;simp only[Aa]at an))|refine Z7 ?_|exact⟨⟩|(apply hκ.out;clear hκ κ))
  rename_i M1
  refine Ad (fun m s M'=>∃(j:Nat) (acc:Tx),m=x.body.length-j/\j<=x.body.length/\s 1=sl idn N.length (N.map str)/\s 5=str acc/\s 23=sl id x.body.length b/\s 24=sc (.int .i64 x.body.length)/\s 25=sc (.int .i64 j)/\Keep M M'/\acc.length<=1003000+j*1003010/\Ad8 (acc=ae++Gw l 0 (x.body.take j))) x.body.length
   ⟨0,ae,Ad2,Ad2,by simp[upd,initS],Ad4,Ad4,Ad4,rfl,Xs,Ad2,by simp[Ad8,Gw]⟩ ?_
  clear ax au an;rintro m s M' ⟨j,acc,rfl,hj,h1,h5,bg,bf,be,hK,a8,hA⟩;have a5:=hK.nobj;by_cases ay:j<x.body.length
  ·have ak:=List.getElem?_eq_getElem ay;have aj:=hb x.body[j] (Acz ay);obtain⟨ia,r,hd⟩:=Aa4 az ak;have aa:Ad8 (ae++Gw l 0 (x.body.take (j+1))=acc++(lJ j++(prN x.body[j]++tX l x.body[j]))):=by
    rw[Ad8,Abq,ak,Ac2,Uz,Q0,hA.out,Ab3,Ab6 Ad2,Ab1,Ab4]
   have ao:=kE aj;have am:∀M,ACalls Tryz.prog 182 [ag [sc (.int .i64 (N.idxOf x.body[j].pred:Nat)),sl ia x.body[j].terms.length (Db l x.body[j].terms)],sl idn N.length (N.map str)] M fun r M'=>r=str (tX l x.body[j])/\Keep M M':=fun M=>T5 N l idn ia x.body[j] aj.1 hN aj.2.1 aj.2.2.1 aj.2.2.2.1 aj.2.2.2.2 M;have ap:Ad8 (prN x.body[j]=if x.body[j].nt=true then [33]else []):=rfl;clear ak aj;generalize x.body[j]=a at hd aa ao am ap;generalize tX l a=wa at aa ao am;cases hnt:a.nt with
   |true=>
    rw[hnt]at hd;have aa:Ad8 (ae++Gw l 0 (x.body.take (j+1))=acc++(lJ j++([33]++wa))):=by rw[Ad8,aa.out,ap.out,if_pos hnt]
    clear ap;by_cases ad:j=0
    ·have av:((j:Int)==0)=true:=by simp[ad]
     have aa:Ad8 (ae++Gw l 0 (x.body.take (j+1))=acc++([58,45]++([33]++wa))):=by rw[Ad8,aa.out,lJ,if_pos ad]
     clear ad
     repeat' (first|refine Z1 ?_|(refine Z8 ?_;intro κ hκ)|(refine Z4 ?_;clear hκ κ)|(refine Z2 ?_ ?_<;>intro h ac<;>try exact Xp)|(refine Z5 ?_;refine Xi (am _) ?_;rintro _ _ ⟨rfl,ab⟩;(have af:=ab.obj;have ah:=ab.nobj))|refine Z7 ?_|exact⟨⟩|(apply hκ.out;clear hκ κ))
     exact⟨x.body.length-(j+1),Ad2,j+1,acc++([58,45]++([33]++wa)),rfl,Ad2,by simp,by simp,((hK.new _).put hK.nobj _).trans ab,by simp;omega,by rw[Ad8,aa.out]⟩
    ·have av:((j:Int)==0)=false:=by simp;omega
     have aa:Ad8 (ae++Gw l 0 (x.body.take (j+1))=acc++([44]++([33]++wa))):=by rw[Ad8,aa.out,lJ,if_neg ad]
     clear ad
     repeat' (first|refine Z1 ?_|(refine Z8 ?_;intro κ hκ)|(refine Z4 ?_;clear hκ κ)|(refine Z2 ?_ ?_<;>intro h ac<;>try exact Xp)|(refine Z5 ?_;refine Xi (am _) ?_;rintro _ _ ⟨rfl,ab⟩;(have af:=ab.obj;have ah:=ab.nobj))|refine Z7 ?_|exact⟨⟩|(apply hκ.out;clear hκ κ))
     exact⟨x.body.length-(j+1),Ad2,j+1,acc++([44]++([33]++wa)),rfl,Ad2,by simp,by simp,((hK.new _).put hK.nobj _).trans ab,by simp;omega,by rw[Ad8,aa.out]⟩
   |false=>
    rw[hnt]at hd;have aa:Ad8 (ae++Gw l 0 (x.body.take (j+1))=acc++(lJ j++([]++wa))):=by rw[Ad8,aa.out,ap.out,if_neg (by rw[hnt];simp)]
    clear ap;by_cases ad:j=0
    ·have av:((j:Int)==0)=true:=by simp[ad]
     have aa:Ad8 (ae++Gw l 0 (x.body.take (j+1))=acc++([58,45]++([]++wa))):=by rw[Ad8,aa.out,lJ,if_pos ad]
     clear ad
     repeat' (first|refine Z1 ?_|(refine Z8 ?_;intro κ hκ)|(refine Z4 ?_;clear hκ κ)|(refine Z2 ?_ ?_<;>intro h ac<;>try exact Xp)|(refine Z5 ?_;refine Xi (am _) ?_;rintro _ _ ⟨rfl,ab⟩;(have af:=ab.obj;have ah:=ab.nobj))|refine Z7 ?_|exact⟨⟩|(apply hκ.out;clear hκ κ))
     exact⟨x.body.length-(j+1),Ad2,j+1,acc++([58,45]++([]++wa)),rfl,Ad2,by simp,by simp,((hK.new _).put hK.nobj _).trans ab,by simp;omega,by rw[Ad8,aa.out]⟩
    ·have av:((j:Int)==0)=false:=by simp;omega
     have aa:Ad8 (ae++Gw l 0 (x.body.take (j+1))=acc++([44]++([]++wa))):=by rw[Ad8,aa.out,lJ,if_neg ad]
     clear ad
     repeat' (first|refine Z1 ?_|(refine Z8 ?_;intro κ hκ)|(refine Z4 ?_;clear hκ κ)|(refine Z2 ?_ ?_<;>intro h ac<;>try exact Xp)|(refine Z5 ?_;refine Xi (am _) ?_;rintro _ _ ⟨rfl,ab⟩;(have af:=ab.obj;have ah:=ab.nobj))|refine Z7 ?_|exact⟨⟩|(apply hκ.out;clear hκ κ))
     exact⟨x.body.length-(j+1),Ad2,j+1,acc++([44]++([]++wa)),rfl,Ad2,by simp,by simp,((hK.new _).put hK.nobj _).trans ab,by simp;omega,by rw[Ad8,aa.out]⟩
  ·have a0:j=x.body.length:=Ad2;subst a0;rw[Abn]at hA
   repeat' (first|refine Z1 ?_|(refine Z8 ?_;intro κ hκ)|(refine Z4 ?_;clear hκ κ)|(refine Z2 ?_ ?_<;>intro h ac<;>try exact Xp)|refine Z7 ?_|exact⟨⟩|(apply hκ.out;clear hκ κ))
   first
   |exact⟨_,rfl,by rw[hA.out],hK⟩
   |exact⟨_,rfl,by rw[hA.out]⟩
theorem Ii (N:List Tx)(l:List RItem)(cs:List AV)(idn idi:Nat)(hB:Bk N l cs)(x:RItem)(c:List AV)(hx:PI N x c)(hw:WI N x)(M:St):ACalls Tryz.prog 74 [B7 N idn l idi cs,ag c] M fun r M'=>r=str (C6 x)/\Keep M M':=by
 have hN:=hB.nm;have ae:=Mw hw.fits hw.short;obtain⟨hm,ih,id,b,hb,rfl⟩:=hx;have hO:=fun M=>Yi N x _ (PI.of (ih:=ih) (id:=id) hm hb) hw.out hw.fits hw.va hw.vh hw.vb M;have hT:=fun c hc M=>gL N (Ba x) idn x c hc hN hw.mem hw.short.1.1 hw.body hw.head hw.wa M;have hT:∀c,RI N (Ba x) x c->∀M,ACalls Tryz.prog 129 [ag c,sl idn N.length (N.map str)] M fun r M'=>r=str (C6 x)/\Keep M M':=hT;generalize af:C6 x=wx at hT ae⊢;clear af hw;refine Z9 12 [.tmp 4] Tryz.func74 ?_
 repeat' (first|refine Z1 ?_|(refine Z8 ?_;intro κ hκ)|(refine Z4 ?_;clear hκ κ)|(refine Z2 ?_ ?_<;>intro h ai<;>try exact Xp)|(refine Z5 ?_;first|(refine Xi (hO _) ?_;rintro _ _ ⟨c2,rfl,aj,an,ac⟩;(have ad:=ac.obj;have aa:=ac.nobj;(try simp only[Aa,Ab,Ah]at aa);obtain⟨ih2,id2,b2,ah,rfl⟩:=aj))|(refine Xi (hT _ ⟨_,_,_,ah,rfl⟩ _) ?_;rintro _ _ ⟨rfl,am⟩))|refine Z7 ?_|exact⟨⟩|(apply hκ.out;clear hκ κ))
 rename_i M2 M3;have ak:=(((Keep.refl M).new _).new _).trans ac;have ab:=((ak.new _).put Ad2 _).trans am
 first
  |exact⟨_,rfl,rfl,ab⟩
  |exact⟨rfl,ab⟩
  |exact ab
theorem Tw (N:List Tx)(l:List RItem)(cs:List AV)(idn idi:Nat)(hB:Bk N l cs)(hW:∀x∈l,WI N x)(M:St):ACalls Tryz.prog 40 [B7 N idn l idi cs] M fun r M'=>r=str (B8 l)/\Keep M M':=by
 have au:=EL.length Dw hB.el;have ak:=hB.len;have hN:=hB.nm;have hE:=hB.el;refine Z9 20 [.tmp 2] Tryz.func40 ?_
 repeat' (first|refine Z1 ?_|(refine Z8 ?_;intro κ hκ)|(refine Z4 ?_;clear hκ κ)|(refine Z2 ?_ ?_<;>intro h ab<;>try exact Xp)|refine Z7 ?_|exact⟨⟩|(apply hκ.out;clear hκ κ))
 refine Ad (fun m s M'=>∃(i:Nat) (acc:Tx),m=l.length-i/\i<=l.length/\s 1=ptr M.nobj 0/\s 3=str acc/\s 7=sl idi l.length cs/\s 8=sc (.int .i64 l.length)/\s 9=sc (.int .i64 i)/\Keep M M'/\M.nobj<M'.nobj/\M'.obj M.nobj=[sl idn N.length (N.map str),sl idi l.length cs]/\acc.length<=i*1100000000/\Ad8 (acc=B8 (l.take i))) l.length
  ⟨0,[],Ad2,Ad2,Ad4,Ad4,Ad4,Ad4,rfl,Xs,Ad6,Am,by simp,by simp[Ad8,B8]⟩ ?_
 rintro m s M' ⟨i,acc,rfl,hi,h1,h3,h7,h8,h9,hK,ar,aj,av,hA⟩;have ap:=hK.nobj;by_cases af:i<l.length
 ·have aa:=List.getElem?_eq_getElem af;have hw:=hW l[i] (Acz af);obtain⟨hm,ih,id,b,r,hb,hd⟩:=Gp hE aa;generalize l[i]=x at hd aa hw hm hb;have HG:Ad8 (l[i]?=some x):=aa;clear aa;have ai:=Mw hw.fits hw.short;have hT:=fun M=>Ii N l cs idn idi hB x _ (PI.of (ih:=ih) (id:=id) hm hb) hw M;generalize ae:C6 x=wx at hT ai;have ao:Ad8 _:=ae;clear ae hw
  repeat' (first|refine Z1 ?_|(refine Z8 ?_;intro κ hκ)|(refine Z4 ?_;clear hκ κ)|(refine Z2 ?_ ?_<;>intro h ab<;>try exact Xp)|(refine Z5 ?_;refine Xi (hT _) ?_;rintro _ _ ⟨rfl,ac⟩;(have ah:=ac.obj;have ad:=ac.nobj;(try simp only[Aa,Ab,Ah]at ad)))|refine Z7 ?_|exact⟨⟩|(apply hκ.out;clear hκ κ))
  rename_i M3;have an:=((hK.new _).put hK.nobj _).trans ac;have HA:Ad8 (acc++wx=B8 (l.take (i+1))):=by
   rw[Ad8,Abq,HG.out,hA.out];simp[B8,ao.out]
  have HL:List.length (acc++wx)<=(i+1)*1100000000:=by simp only[Ab2];omega
  refine⟨l.length-(i+1),Ad2,i+1,acc++wx,?_⟩
  ((repeat' with_reducible refine And.intro ?_ ?_)<;>first|exact Xq|exact (an)|exact (HA)|exact (HL)|exact (by rw[ac.obj _ Ad7,Ai Ad2,Ae Ad2,aj])|exact Xs)
 ·have am:i=l.length:=Ad2;subst am;rw[Abn]at hA
  repeat' (first|refine Z1 ?_|(refine Z8 ?_;intro κ hκ)|(refine Z4 ?_;clear hκ κ)|(refine Z2 ?_ ?_<;>intro h ab<;>try exact Xp)|refine Z7 ?_|exact⟨⟩|(apply hκ.out;clear hκ κ))
  first
  |exact⟨_,rfl,by rw[hA.out],hK⟩
  |exact⟨_,rfl,by rw[hA.out]⟩
theorem bI (t:Tx)(M:St):ACalls Tryz.prog 20 [str t] M fun r M'=>r=tp [str (Hg t).1,sc (.int .i64 (Hg t).2)]/\Keep M M':=by
 have hL:=fun M=>O1 t M;by_cases he:(Au t).1=0
 ·have ak:((Au t).1 !=0)=false:=by simpa using he
  have HE:Ad8 ((Au t).1=0):=he;have aj:t.length<=600:=by
   by_cases hl:600<t.length
   ·unfold Au at he;rw[if_pos hl]at he;simp at he
   ·omega
  clear he;refine Z9 18 [.tmp 2,.tmp 3] Tryz.func20 ?_
  repeat' (first|refine Z1 ?_|(refine Z8 ?_;intro κ hκ)|(refine Z4 ?_;clear hκ κ)|(refine Z2 ?_ ?_<;>intro h ab<;>try exact Xp)|(refine Z5 ?_;first|(refine Xi (hL _) ?_;rintro _ _ ⟨idn,n1,c1,idi,n2,c2,rfl,ac,hb⟩;(have aa:=ac.nobj;obtain⟨N,l,hp,ad,rfl,rfl,rfl,ai,af⟩:=hb HE.out;have ah:=fun M=>Tw N l c2 idn idi ad (wZ Ad2 hp ad af) M;have HP:Ad8 (B8 (Cj t)=B8 l):=(by rw[Ad8,(Je Ad2 hp).2.1]);generalize B8 l=wl at ah HP;clear hp hb ai af ad))|(refine Xi (ah _) ?_;rintro _ _ ⟨rfl,an⟩))|refine Z7 ?_|exact⟨⟩|(apply hκ.out;clear hκ κ))
  refine⟨_,rfl,?_,Xs⟩;rw[Hg,if_pos HE.out,HP.out]
 ·have ak:((Au t).1 !=0)=true:=by simpa using he
  have ae:Hg t=([],(Au t).1):=by unfold Hg;rw[if_neg he]
  have am:Ad8 _:=ae;clear he ae;refine Z9 18 [.tmp 2,.tmp 3] Tryz.func20 ?_
  repeat' (first|refine Z1 ?_|(refine Z8 ?_;intro κ hκ)|(refine Z4 ?_;clear hκ κ)|(refine Z2 ?_ ?_<;>intro h ab<;>try exact Xp)|(refine Z5 ?_;refine Xi (hL _) ?_;rintro _ _ ⟨idn,n1,c1,idi,n2,c2,rfl,ac,hb⟩;(have aa:=ac.nobj;clear hb))|refine Z7 ?_|exact⟨⟩|(apply hκ.out;clear hκ κ))
  exact⟨_,rfl,by rw[am.out],Xs⟩
section rounds
variable {N:List Tx} {l:List RItem} (D:Tx->Nat)
end rounds
theorem gN {p:Nat->Bool}{n:Nat}(h:¬0<=Bm p n):∀i,i<n->p i=false:=by
 intro i hi;unfold Bm at h;split at h
 ·rename_i j hj;exact absurd (Ac4 j) h
 ·rename_i hn;rw[List.find?_eq_none]at hn;simpa using hn i (by simpa using hi)
abbrev Sw:=(Nat->Bool)×(Nat->Bool×Int)
def J3:Sw:=(fun _=>false,fun _=>(false,0))
def aL (s:Sw)(n:Nat):AV:=if n<26 then sc (.bool (s.1 n))else if n % 2=0 then sc (.bool (s.2 ((n-26) / 2)).1)else sc (.int .i64 (s.2 ((n-26) / 2)).2)
def Da (s:Sw):List AV:=(List.range 78).map (aL s)
theorem Co (s:Sw):(Da s).length=78:=by simp[Da]
theorem Nc:swZ.map cst1=Da J3:=rfl
theorem pV {s:Sw}{i:Nat}(h:i<26):(Da s)[i]?=some (sc (.bool (s.1 i))):=by
 simp[Da,aL,h,show i<78 by omega]
theorem pU {s:Sw}{i:Nat}(h:i<26)(v:Bool):(Da s).set i (sc (.bool v))=Da (fun j=>if j=i then v else s.1 j,s.2):=by
 apply Abw;intro n;rw[List.getElem?_set];by_cases hn:n<78
 ·by_cases he:i=n
  ·subst he;simp[Da,aL,h,hn]
  ·have:n≠i:=fun e=>he e.symm;simp[Da,aL,hn,he,this]
 ·have:i≠n:=Ad2;simp[Da,hn,this]
theorem Rz {s:Sw}{n:Nat}(h:n<78):(Da s)[n]?=some (aL s n):=by simp[Da,h]
theorem aM (s:Sw){i:Nat}(h:i<26):∃r,(Da s).drop (26+i*2)=sc (.bool (s.2 i).1)::sc (.int .i64 (s.2 i).2)::r:=by
 have e1:aL s (26+i*2)=sc (.bool (s.2 i).1):=by
  unfold aL;rw[if_neg Ad2,if_pos Ad2,show (26+i*2-26) / 2=i by omega]
 have e2:aL s (26+i*2+1)=sc (.int .i64 (s.2 i).2):=by
  unfold aL;rw[if_neg Ad2,if_neg Ad2,show (26+i*2+1-26) / 2=i by omega]
 refine⟨(Da s).drop (26+i*2+1+1),?_⟩;have l1:26+i*2<(Da s).length:=by rw[Co];omega
 have l2:26+i*2+1<(Da s).length:=by rw[Co];omega
 rw[Acd l1,Acd l2];have g1:=List.getElem?_eq_getElem l1;have g2:=List.getElem?_eq_getElem l2;rw[Rz Ad2,e1]at g1;rw[Rz Ad2,e2]at g2;rw[<-Ac5 g1,<-Ac5 g2]
theorem pT (s:Sw){i:Nat}(h:i<26)(b:Bool)(v:Int):lsp (Da s) (26+i*2) [sc (.bool b),sc (.int .i64 v)]=Da (s.1,fun j=>if j=i then (b,v)else s.2 j):=by
 rw[F3 _ _ _ (by rw[Co];simp;omega)];apply Abw;intro n;have hl:=Co s;by_cases hn:n<78
 ·rw[Rz hn];by_cases c1:n<26+i*2
  ·rw[Ab4,List.getElem?_append_left (by rw[Ab3];omega),List.getElem?_take,if_pos c1,Rz hn];congr 1;unfold aL;by_cases c:n<26
   ·rw[if_pos c,if_pos c]
   ·have:(n-26) / 2≠i:=Ad2;simp[c,this]
  ·by_cases c2:n<26+i*2+2
   ·rw[Ab4,List.getElem?_append_right (by rw[Ab3];omega),Ab3,Ab6 Ad2];rcases (show n=26+i*2\/n=26+i*2+1 by omega)with e|e
    ·subst e;simp only[Acr,Acg,List.getElem?_cons_zero];unfold aL;rw[if_neg Ad2,if_pos Ad2,show (26+i*2-26) / 2=i by omega];simp
    ·subst e;rw[show 26+i*2+1-(26+i*2)=1 by omega];simp only[Acg,List.getElem?_cons_succ,List.getElem?_cons_zero];unfold aL;rw[if_neg Ad2,if_neg Ad2,show (26+i*2+1-26) / 2=i by omega];simp
   ·rw[List.getElem?_append_right (by simp[Ab3];omega)];simp only[Ab2,Ab3,Aca,Ab9];rw[List.getElem?_drop,Ab6 Ad2,show 26+i*2+2+(n-(26+i*2+(0+1+1)))=n by omega,Rz hn];congr 1;unfold aL;have:(n-26) / 2≠i:=Ad2;have c:¬n<26:=Ad2;simp[c,this]
 ·rw[List.getElem?_eq_none (by simp[Ab3,Co];omega),List.getElem?_eq_none (by rw[Co];omega)]
theorem pS (s:Sw){i:Nat}(h:i<26)(b:Bool)(v:Int):((Da s).set (26+i*2) (sc (.bool b))).set (26+i*2+1) (sc (.int .i64 v))=Da (s.1,fun j=>if j=i then (b,v)else s.2 j):=pT s h b v
def Fx (s:Sw)(e b:Bool×Int):Option Sw:=
 if e.1=true then
  (if s.1 e.2.toNat=true then (if s.2 e.2.toNat=b then some s else none)
   else some (fun j=>if j=e.2.toNat then true else s.1 j,fun j=>if j=e.2.toNat then b else s.2 j))
 else if e=b then some s else none
def Cp:Sw->List (Bool×Int)->List (Bool×Int)->Option Sw
 |s,[],_=>some s
 |_,_::_,[]=>none
 |s,e::es,b::bs=>(Fx s e b).bind fun s'=>Cp s' es bs
def M5:Option Sw->AV
 |some s=>tp [ag (Da s),sc (.bool true)]
 |none=>tp [ag (Da J3),sc (.bool false)]
def varOk (t:Tx):Prop:=(Ap t).1=true->∃k:Nat,k<26/\(Ap t).2=(k:Int)
theorem eO {s:Sw}{ts us:List Tx}{k:Nat}{t u:Tx}(ht:ts[k]?=some t)(hu:us[k]?=some u):Cp s ((ts.drop k).map Ap) ((us.drop k).map Ap)=(Fx s (Ap t) (Ap u)).bind fun s'=>Cp s' ((ts.drop (k+1)).map Ap) ((us.drop (k+1)).map Ap):=by
 have h1:=(List.getElem?_eq_some_iff.1 ht);have h2:=(List.getElem?_eq_some_iff.1 hu);obtain⟨l1,e1⟩:=h1;obtain⟨l2,e2⟩:=h2;rw[Acd l1,Acd l2,e1,e2];rfl
theorem U0 (s:Sw)(p q:Int)(ts us:List Tx)(i1 i2:Nat)(hl:p=q->ts.length=us.length)(hn:ts.length<=1000)(hv:∀t∈ts,varOk t)(M:St):
  ACalls Tryz.prog 147 [ag (Da s),ag [sc (.int .i64 p),sl i1 ts.length (Aw ts)],ag [sc (.int .i64 q),sl i2 us.length (Aw us)]] M fun r M'=>r=M5 (if p=q then Cp s (ts.map Ap) (us.map Ap)else none)/\Keep M M':=by
 have a5:=Ea ts;have a4:=Ea us;have a8:=Co;have a7:=Nc;have a6:∀s,List.take 78 (Da s)=Da s:=fun s=>Acl (by rw[Co];exact Abb _);have bc:∀s s',lsp (Da s) 0 (Da s')=Da s':=fun s s'=>Ld (by rw[Co,Co]);have bd:∀s,(Da s).all flat=true:=fun s=>by
  rw[Abg];intro x hx;obtain⟨n,-,rfl⟩:=Acm.1 hx;unfold aL;split
  ·rfl
  ·split<;>rfl
 by_cases ae:p=q
 ·have am:Ad8 (ts.length=us.length):=hl ae;have hb:(p !=q)=false:=by simp[ae]
  rw[if_pos ae];clear hl ae;refine Z9 62 [.cell 6 154,.tmp 7] Tryz.func147 ?_
  repeat' (first|refine Z1 ?_|(refine Z8 ?_;intro κ hκ)|(refine Z4 ?_;clear hκ κ)|(refine Z2 ?_ ?_<;>intro h ab<;>try exact Xp)|refine Z3 ?_|exact⟨⟩|(apply hκ.out;clear hκ κ))
  refine Ad (fun m s0 M'=>∃(k:Nat) (s':Sw),m=ts.length-k/\k<=ts.length/\s0 3=ptr M.nobj 0/\s0 5=ptr (M.nobj+2) 0/\s0 6=ptr (M.nobj+3) 0/\s0 18=sl i1 ts.length (Aw ts)/\s0 19=sc (.int .i64 ts.length)/\s0 20=sc (.int .i64 k)/\Keep M M'/\M.nobj+3<M'.nobj/\M'.obj M.nobj=Da s'/\M'.obj (M.nobj+2)=[sc (.int .i64 q),sl i2 us.length (Aw us)]/\M'.obj (M.nobj+3)=Da J3/\Ad8 (Cp s (ts.map Ap) (us.map Ap)=Cp s' ((ts.drop k).map Ap) ((us.drop k).map Ap))) ts.length
   ⟨0,s,Ad2,Ad2,Ad4,Ad4,Ad4,Ad4,Ad4,rfl,Xs,Ad6,?_,?_,?_,by simp[Ad8]⟩ ?_
  ·rw[Ae Ad6,Ae Ad6,Ae Ad6,Am]
  ·rw[Ae Ad6,Bp Ad6 Ad6]
  ·rw[Bp Ad6 Ad6]
  rintro m s0 M' ⟨k,s',rfl,hk,h3,h5,h6,bg,bf,be,hK,bb,a0,az,ay,hW⟩;have a3:=hK.nobj;by_cases an:k<ts.length
  ·have au:k<us.length:=by have:=am.out;omega
   have g1:=List.getElem?_eq_getElem an;have g2:=List.getElem?_eq_getElem au;have ah:=hv ts[k] (Acz an);obtain⟨r1,ar⟩:=E5 g1;obtain⟨r2,ap⟩:=E5 g2;have ac:Ad8 (Cp s (ts.map Ap) (us.map Ap)=(Fx s' (Ap ts[k]) (Ap us[k])).bind fun s'=>Cp s' ((ts.drop (k+1)).map Ap) ((us.drop (k+1)).map Ap)):=by rw[Ad8,hW.out,eO g1 g2]
   unfold varOk at ah;clear g1 g2 hW;generalize Ap ts[k]=e at ar ac ah;generalize Ap us[k]=b at ap ac;obtain⟨e1,e2⟩:=e;obtain⟨b1,b2⟩:=b;dsimp only at ar ap ah;cases e1 with
   |true=>
    obtain⟨kk,aj,rfl⟩:=ah rfl;have ao:=pV (s:=s') aj;obtain⟨r3,ak⟩:=aM s' aj;cases ad:s'.1 kk with
    |true=>
     rw[ad]at ao;by_cases aa:s'.2 kk=(b1,b2)
     ·have ai:Ad8 (Cp s (ts.map Ap) (us.map Ap)=Cp s' ((ts.drop (k+1)).map Ap) ((us.drop (k+1)).map Ap)):=by
       rw[Ad8,ac.out];unfold Fx;simp[ad,aa]
      rw[aa]at ak;dsimp only at ak;clear ac ad aa
      repeat' (first|refine Z1 ?_|(refine Z8 ?_;intro κ hκ)|(refine Z4 ?_;clear hκ κ)|(refine Z2 ?_ ?_<;>intro h ab<;>try exact Xp)|refine Z3 ?_|exact⟨⟩|(apply hκ.out;clear hκ κ))
      exact⟨ts.length-(k+1),Ad2,k+1,s',rfl,Ad2,by simp,((((hK.new _).put hK.nobj _).new _).put Ad2 _).put hK.nobj _,Ad2,rfl,ai⟩
     ·have af:Ad8 (Cp s (ts.map Ap) (us.map Ap)=none):=by
       rw[Ad8,ac.out];unfold Fx;simp[ad,aa]
      clear ac ad;generalize s'.2 kk=g at ak aa;obtain⟨c1,c2⟩:=g;have ax:(c1==b1&&c2==b2)=false:=by
       cases hq:(c1==b1&&c2==b2)with
       |false=>rfl
       |true=>simp at hq;exact absurd (by rw[hq.1,hq.2]) aa
      dsimp only at ak;clear aa
      repeat' (first|refine Z1 ?_|(refine Z8 ?_;intro κ hκ)|(refine Z4 ?_;clear hκ κ)|(refine Z2 ?_ ?_<;>intro h ab<;>try exact Xp)|refine Z3 ?_|exact⟨⟩|(apply hκ.out;clear hκ κ))
      exact⟨_,rfl,by rw[af.out];rfl,(((((hK.new _).put hK.nobj _).new _).put Ad2 _).put hK.nobj _).put Ad2 _⟩
    |false=>
     rw[ad]at ao;have ba:=pU (s:=s') aj true;have a9:=fun s'=>pS s' aj b1 b2;have ai:Ad8 (Cp s (ts.map Ap) (us.map Ap)=Cp (fun j=>if j=kk then true else s'.1 j,fun j=>if j=kk then (b1,b2)else s'.2 j) ((ts.drop (k+1)).map Ap) ((us.drop (k+1)).map Ap)):=by
      rw[Ad8,ac.out];unfold Fx;simp[ad]
     obtain⟨r4,aw⟩:=aM (fun j=>if j=kk then true else s'.1 j,fun j=>if j=kk then (b1,b2)else s'.2 j) aj;simp only[if_true]at aw;clear ac ad
     repeat' (first|refine Z1 ?_|(refine Z8 ?_;intro κ hκ)|(refine Z4 ?_;clear hκ κ)|(refine Z2 ?_ ?_<;>intro h ab<;>try exact Xp)|refine Z3 ?_|exact⟨⟩|(apply hκ.out;clear hκ κ))
     exact⟨ts.length-(k+1),Ad2,k+1,(fun j=>if j=kk then true else s'.1 j,fun j=>if j=kk then (b1,b2)else s'.2 j),rfl,Ad2,by simp,((((((hK.new _).put hK.nobj _).new _).put Ad2 _).put (Abb _) _).put (Abb _) _).put hK.nobj _,Ad2,rfl,ai⟩
   |false=>
    by_cases aa:(false,e2)=(b1,b2)
    ·have ai:Ad8 (Cp s (ts.map Ap) (us.map Ap)=Cp s' ((ts.drop (k+1)).map Ap) ((us.drop (k+1)).map Ap)):=by
      rw[Ad8,ac.out];unfold Fx;simp[aa]
     cases aa;clear ac ah
     repeat' (first|refine Z1 ?_|(refine Z8 ?_;intro κ hκ)|(refine Z4 ?_;clear hκ κ)|(refine Z2 ?_ ?_<;>intro h ab<;>try exact Xp)|refine Z3 ?_|exact⟨⟩|(apply hκ.out;clear hκ κ))
     exact⟨ts.length-(k+1),Ad2,k+1,s',rfl,Ad2,by simp,(((hK.new _).put hK.nobj _).new _).put Ad2 _,Ad2,rfl,ai⟩
    ·have af:Ad8 (Cp s (ts.map Ap) (us.map Ap)=none):=by
      rw[Ad8,ac.out];unfold Fx;simp[aa]
     have ax:(false==b1&&e2==b2)=false:=by
      cases hq:(false==b1&&e2==b2)with
      |false=>rfl
      |true=>simp at hq;exact absurd (by rw[<-hq.1,hq.2]) aa
     clear ac ah aa
     repeat' (first|refine Z1 ?_|(refine Z8 ?_;intro κ hκ)|(refine Z4 ?_;clear hκ κ)|(refine Z2 ?_ ?_<;>intro h ab<;>try exact Xp)|refine Z3 ?_|exact⟨⟩|(apply hκ.out;clear hκ κ))
     exact⟨_,rfl,by rw[af.out];rfl,((((hK.new _).put hK.nobj _).new _).put Ad2 _).put Ad2 _⟩
  ·have av:k=ts.length:=Ad2;subst av;have hR:Cp s (ts.map Ap) (us.map Ap)=some s':=by rw[hW.out,List.drop_length];simp[Cp]
   repeat' (first|refine Z1 ?_|(refine Z8 ?_;intro κ hκ)|(refine Z4 ?_;clear hκ κ)|(refine Z2 ?_ ?_<;>intro h ab<;>try exact Xp)|refine Z3 ?_|exact⟨⟩|(apply hκ.out;clear hκ κ))
   exact⟨_,rfl,rfl,hK.put Ad2 _⟩
 ·have hb:(p !=q)=true:=by simpa using ae
  rw[if_neg ae];clear hl ae;refine Z9 62 [.cell 6 154,.tmp 7] Tryz.func147 ?_
  repeat' (first|refine Z1 ?_|(refine Z8 ?_;intro κ hκ)|(refine Z4 ?_;clear hκ κ)|(refine Z2 ?_ ?_<;>intro h ab<;>try exact Xp)|refine Z3 ?_|exact⟨⟩|(apply hκ.out;clear hκ κ))
  exact⟨_,rfl,rfl,((((((Keep.refl _).new _).new _).new _).new _).put Ad2 _)⟩
structure Lt where
 nt:Bool
 pr:Nat
 es:List (Bool×Int)
def Kj (left:List Lt):List Lt->Sw->Option Sw
 |[],s=>some s
 |x::xs,s=>left.findSome? fun b=>if b.nt=x.nt/\x.pr=b.pr then (Cp s x.es b.es).bind (Kj left xs)else none
def Jz (e:Tx->Bool×Int)(N:List Tx)(a:RAtom):Lt:=⟨a.nt,N.idxOf a.pred,a.terms.map e⟩
def zM (θ:Tx->Tx)(t:Tx):Tx:=if Af t=true then θ t else t
structure Tell (e:Tx->Bool×Int)(U:Tx->Prop):Prop where
 var:∀t,U t->(e t).1=Af t
 inj:∀t u,U t->U u->e t=e u->t=u
 pos:∀t,U t->Af t=true->0<=(e t).2
def Y0 (e:Tx->Bool×Int)(t:Tx):Nat:=(e t).2.toNat
theorem Tell.same {e:Tx->Bool×Int}{U:Tx->Prop}(T:Tell e U){t u:Tx}(ht:U t)(hu:U u)(vt:Af t=true)(vu:Af u=true)(h:Y0 e t=Y0 e u):t=u:=by
 apply T.inj t u ht hu;have h1:=T.var t ht;have h2:=T.var u hu;have h3:=T.pos t ht vt;have h4:=T.pos u hu vu;unfold Y0 at h;apply Prod.ext
 ·rw[h1,h2,vt,vu]
 ·omega
def Agr (e:Tx->Bool×Int)(U:Tx->Prop)(s:Sw)(θ:Tx->Tx):Prop:=∀t,U t->Af t=true->s.1 (Y0 e t)=true->s.2 (Y0 e t)=e (θ t)
def Grow (s s':Sw):Prop:=∀k,s.1 k=true->s'.1 k=true/\s'.2 k=s.2 k
theorem Grow.refl (s:Sw):Grow s s:=fun k h=>⟨h,rfl⟩
theorem Grow.trans {a b c:Sw}(h:Grow a b)(g:Grow b c):Grow a c:=fun k hk=>by
 obtain⟨h1,h2⟩:=h k hk;obtain⟨g1,g2⟩:=g k h1;exact⟨g1,g2.trans h2⟩
def Bec (e:Tx->Bool×Int)(s:Sw)(t u:Tx):Prop:=if Af t=true then s.1 (Y0 e t)=true/\s.2 (Y0 e t)=e u else e t=e u
theorem Bec.grow {e:Tx->Bool×Int}{s s':Sw}{t u:Tx}(h:Bec e s t u)(g:Grow s s'):Bec e s' t u:=by
 unfold Bec at*
 split
 ·rename_i hv;rw[if_pos hv]at h;obtain⟨g1,g2⟩:=g _ h.1;exact⟨g1,g2.trans h.2⟩
 ·rename_i hv;rw[if_neg hv]at h;exact h
section
variable {e:Tx->Bool×Int} {U:Tx->Prop} (T:Tell e U)
include T
theorem mB {s:Sw}{θ:Tx->Tx}{t u:Tx}(ha:Agr e U s θ)(ht:U t)(hu:zM θ t=u):∃s',Fx s (e t) (e u)=some s'/\Agr e U s' θ:=by
 unfold zM at hu;unfold Fx;rw[T.var t ht];split at hu
 ·rename_i hv;subst hu;rw[if_pos hv];by_cases hs:s.1 (e t).2.toNat=true
  ·rw[if_pos hs,if_pos (show s.2 (e t).2.toNat=e (θ t)from ha t ht hv hs)];exact⟨s,rfl,ha⟩
  ·rw[if_neg hs];refine⟨_,rfl,fun t' ab aa h'=>?_⟩;by_cases he:Y0 e t'=(e t).2.toNat
   ·have:=T.same ab ht aa hv he;subst this;simp[Y0]
   ·dsimp only at h'⊢;rw[if_neg he]at h'⊢;exact ha t' ab aa h'
 ·rename_i hv;subst hu;rw[if_neg hv,if_pos rfl];exact⟨s,rfl,ha⟩
theorem qA {s s':Sw}{t u:Tx}(ht:U t)(h:Fx s (e t) (e u)=some s'):Grow s s'/\Bec e s' t u:=by
 unfold Fx at h;rw[T.var t ht]at h;unfold Bec;split at h
 ·rename_i hv;rw[if_pos hv];split at h
  ·rename_i hs;split at h
   ·rename_i hb;cases h;exact⟨Grow.refl _,hs,hb⟩
   ·cases h
  ·rename_i hs;cases h;refine⟨fun k hk=>?_,by simp[Y0],by simp[Y0]⟩;have:k≠(e t).2.toNat:=fun e=>hs (e ▸ hk);simp[this,hk]
 ·rename_i hv;rw[if_neg hv];split at h
  ·rename_i hb;cases h;exact⟨Grow.refl _,hb⟩
  ·cases h
theorem Y4:∀(ts us:List Tx) (s s':Sw),(∀t∈ts,U t)->Cp s (ts.map e) (us.map e)=some s'->Grow s s'/\∀(i:Nat) (t u:Tx),ts[i]?=some t->us[i]?=some u->Bec e s' t u
 |[],us,s,s',_,h=>by
  simp only[Aby,Cp]at h;cases h;exact⟨Grow.refl _,fun i t u ht=>by simp at ht⟩
 |t::ts,[],s,s',_,h=>by simp[Cp]at h
 |t::ts,u::us,s,s',hU,h=>by
  simp only[Abx,Cp]at h;cases h1:Fx s (e t) (e u)with
  |none=>rw[h1]at h;cases h
  |some s1=>
   rw[h1]at h;simp only[Option.bind_some]at h;obtain⟨g1,b1⟩:=qA T (hU t (by simp)) h1;obtain⟨g2,b2⟩:=Y4 ts us s1 s' (fun t' h=>hU t' (by simp[h])) h;refine⟨g1.trans g2,fun i t' u' ht hu=>?_⟩;cases i with
   |zero=>simp at ht hu;subst ht;subst hu;exact b1.grow g2
   |succ i=>simp at ht hu;exact b2 i t' u' ht hu
end
theorem lK {e:Tx->Bool×Int}{U:Tx->Prop}(T:Tell e U)(ts:List Tx)(hU:∀t∈ts,U t):∃s,Cp J3 (ts.map e) (ts.map e)=some s/\(∀θ:Tx->Tx,(∀t∈ts,Af t=true->θ t=t)->∀t,U t->Af t=true->s.1 (Y0 e t)=true->t∈ts)/\∀t∈ts,Bec e s t t:=by
 have key:∀(us:List Tx) (s:Sw),(∀t∈us,U t)->(∀t,U t->Af t=true->s.1 (Y0 e t)=true->s.2 (Y0 e t)=e t)->∃s',Cp s (us.map e) (us.map e)=some s'/\(∀t,U t->Af t=true->s'.1 (Y0 e t)=true->s'.2 (Y0 e t)=e t/\(t∈us\/s.1 (Y0 e t)=true)):=by
  intro us;induction us with
  |nil=>exact fun s _ ha=>⟨s,by simp[Cp],fun t ht hv h=>⟨ha t ht hv h,.inr h⟩⟩
  |cons u us ih=>
   intro s hU ha;obtain⟨s1,h1,h2⟩:=mB T (θ:=fun t=>t) (t:=u) (u:=u) ha (hU u (by simp)) (by unfold zM;split<;>rfl);obtain⟨s2,h3,h4⟩:=ih s1 (fun t h=>hU t (by simp[h])) h2;refine⟨s2,by simp only[Abx,Cp,h1,Option.bind_some];exact h3,fun t ht hv h=>?_⟩;obtain⟨q1,q2⟩:=h4 t ht hv h;refine⟨q1,?_⟩;rcases q2 with q2|q2
   ·exact .inl (by simp[q2])
   ·unfold Fx at h1;rw[T.var u (hU u (by simp))]at h1;split at h1
    ·rename_i aa;split at h1
     ·split at h1
      ·cases h1;exact .inr q2
      ·cases h1
     ·cases h1;dsimp only at q2;by_cases he:Y0 e t=(e u).2.toNat
      ·have:=T.same ht (hU u (by simp)) hv aa he;exact .inl (by simp[this])
      ·rw[if_neg he]at q2;exact .inr q2
    ·split at h1
     ·cases h1;exact .inr q2
     ·cases h1
 obtain⟨s,h1,h2⟩:=key ts J3 hU (fun t _ _ h=>by simp[J3]at h);obtain⟨-,b1⟩:=Y4 T ts ts J3 s hU h1;refine⟨s,h1,fun θ _ t ht hv h=>?_,fun t ht=>?_⟩
 ·rcases (h2 t ht hv h).2 with q|q
  ·exact q
  ·simp[J3]at q
 ·obtain⟨i,hi⟩:=List.getElem?_of_mem ht;exact b1 i t t hi hi
end Go.Proofs.YtmoeoppbmhfbpabGreatDoorH
