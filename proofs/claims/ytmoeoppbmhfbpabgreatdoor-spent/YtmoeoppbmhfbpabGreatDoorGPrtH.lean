import Derived.Test.YtmoeoppbmhfbpabGreatDoorGPrtF
import Derived.Test.YtmoeoppbmhfbpabGreatDoorGProgR
set_option maxHeartbeats 16000000
set_option maxRecDepth 100000
set_option linter.all false
namespace Go.Proofs.YtmoeoppbmhfbpabGreatDoorG
open Go.Abs
def wS (l:List Tx)(a:RAtom):Tx:=a.pred++Jr l 0 a.terms++[41]
theorem mB {N l:List Tx}{a:RAtom}(h:WA N l a):(wS l a).length<=1003000:=by
 obtain⟨h1,h2,h3,h4,h5⟩:=h;have:=R3 l a.terms 0 fun t ht=>(h5 t ht).2.1;simp only[wS,Aee,Ae4];omega
def prN (a:RAtom):Tx:=if a.nt=true then [33]else []
theorem Rz (l:List Tx)(a:RAtom):Hs l a=prN a++wS l a:=by simp[Hs,prN,wS]
theorem jF (N l:List Tx)(idn:Nat)(x:RItem)(c:List AV)(hc:RI N l x c)(hN:N.length<=2000)(hm:x.head.pred∈N)(hpl:x.head.pred.length<=1000)(a8:x.body.length<=5)(hh:x.out=false->x.head.nt=false/\WA N l x.head)(hb:∀a∈x.body,WA N l a)(M:St):
  ACalls Tryz.prog 129 [ag c,sl idn N.length (N.map str)] M fun r M'=>r=str (if x.out=true then 63::x.head.pred++[46]else Hs l x.head++Hg l 0 x.body++[46])/\Keep M M':=by
 obtain⟨ih,id,b,a0,rfl⟩:=hc;have a7:=EL.length wH a0;have ba:({data:=#[63]}:ByteArray)=bs [63]:=rfl;have bd:({data:=#[46]}:ByteArray)=bs [46]:=rfl;have be:({data:=#[44]}:ByteArray)=bs [44]:=rfl;have bf:({data:=#[33]}:ByteArray)=bs [33]:=rfl;have bb:({data:=#[58,45]}:ByteArray)=bs [58,45]:=rfl;cases ho:x.out with
 |true=>
  have ax:=Afd hm;have a5:(N.map str).drop (N.idxOf x.head.pred)=str x.head.pred::(N.map str).drop (N.idxOf x.head.pred+1):=by
   have:=En ax;rwa[Afc ax]at this
  generalize N.idxOf x.head.pred=ix at ax a5;clear hh hb;refine Z9 49 [.tmp 4] Tryz.func129 ?_
  repeat' (first|refine Z1 ?_|(refine Z8 ?_;intro κ hκ)|(refine Z4 ?_;clear hκ κ)|(refine Z2 ?_ ?_<;>intro h ac<;>try exact Xp)|refine Z7 ?_|exact⟨⟩|(apply hκ.out;clear hκ κ))
  exact⟨_,rfl,by simp,Xs⟩
 |false=>
  obtain⟨hnt,ai⟩:=hh ho;have a4:=mB ai;have au:=fun M=>U2 N l idn ih x.head ai.1 hN ai.2.1 ai.2.2.1 ai.2.2.2.1 ai.2.2.2.2 M;have ao:Agt (Hs l x.head=wS l x.head):=by rw[Agt,Rz,prN,hnt];simp
  have au:∀M,ACalls Tryz.prog 182 [ag [sc (.int .i64 (N.idxOf x.head.pred:Nat)),sl ih x.head.terms.length (Dc l x.head.terms)],sl idn N.length (N.map str)] M fun r M'=>r=str (wS l x.head)/\Keep M M':=au;generalize wS l x.head=ae at a4 au ao;clear hh ai hm hnt;rw[if_neg (by simp),ao.out];refine Z9 49 [.tmp 4] Tryz.func129 ?_
  repeat' (first|refine Z1 ?_|(refine Z8 ?_;intro κ hκ)|(refine Z4 ?_;clear hκ κ)|(refine Z2 ?_ ?_<;>intro h ac<;>try exact Xp)|(refine Z5 ?_;refine Xi (au _) ?_;rintro _ _ ⟨rfl,ay⟩;(have av:=ay.obj;have an:=ay.nobj;simp only[Aa]at an))|refine Z7 ?_|exact⟨⟩|(apply hκ.out;clear hκ κ))
  rename_i M1
  refine Ag (fun m s M'=>∃(j:Nat) (acc:Tx),m=x.body.length-j/\j<=x.body.length/\s 1=sl idn N.length (N.map str)/\s 5=str acc/\s 23=sl id x.body.length b/\s 24=sc (.int .i64 x.body.length)/\s 25=sc (.int .i64 j)/\Keep M M'/\acc.length<=1003000+j*1003010/\Agt (acc=ae++Hg l 0 (x.body.take j))) x.body.length
   ⟨0,ae,Agm,Agm,by simp[upd,initS],Ago,Ago,Ago,rfl,Xs,Agm,by simp[Agt,Hg]⟩ ?_
  clear ay av an;rintro m s M' ⟨j,acc,rfl,hj,h1,h5,bi,bh,bg,hK,a9,hA⟩;have a6:=hK.nobj;by_cases az:j<x.body.length
  ·have ak:=List.getElem?_eq_getElem az;have aj:=hb x.body[j] (Afa az);obtain⟨ia,r,hd⟩:=Adf a0 ak;have aa:Agt (ae++Hg l 0 (x.body.take (j+1))=acc++(nK j++(prN x.body[j]++wS l x.body[j]))):=by
    rw[Agt,Ad3,ak,Afe,Vv,Rz,hA.out,Aef,Aej Agm,Aed,Aeg]
   have ao:=mB aj;have am:∀M,ACalls Tryz.prog 182 [ag [sc (.int .i64 (N.idxOf x.body[j].pred:Nat)),sl ia x.body[j].terms.length (Dc l x.body[j].terms)],sl idn N.length (N.map str)] M fun r M'=>r=str (wS l x.body[j])/\Keep M M':=fun M=>U2 N l idn ia x.body[j] aj.1 hN aj.2.1 aj.2.2.1 aj.2.2.2.1 aj.2.2.2.2 M;have ap:Agt (prN x.body[j]=if x.body[j].nt=true then [33]else []):=rfl;clear ak aj;generalize x.body[j]=a at hd aa ao am ap;generalize wS l a=wa at aa ao am;cases hnt:a.nt with
   |true=>
    rw[hnt]at hd;have aa:Agt (ae++Hg l 0 (x.body.take (j+1))=acc++(nK j++([33]++wa))):=by rw[Agt,aa.out,ap.out,if_pos hnt]
    clear ap;by_cases ad:j=0
    ·have aw:((j:Int)==0)=true:=by simp[ad]
     have aa:Agt (ae++Hg l 0 (x.body.take (j+1))=acc++([58,45]++([33]++wa))):=by rw[Agt,aa.out,nK,if_pos ad]
     clear ad
     repeat' (first|refine Z1 ?_|(refine Z8 ?_;intro κ hκ)|(refine Z4 ?_;clear hκ κ)|(refine Z2 ?_ ?_<;>intro h ac<;>try exact Xp)|(refine Z5 ?_;refine Xi (am _) ?_;rintro _ _ ⟨rfl,ab⟩;(have af:=ab.obj;have ah:=ab.nobj))|refine Z7 ?_|exact⟨⟩|(apply hκ.out;clear hκ κ))
     exact⟨x.body.length-(j+1),Agm,j+1,acc++([58,45]++([33]++wa)),rfl,Agm,by simp,by simp,((hK.new _).put hK.nobj _).trans ab,by simp;omega,by rw[Agt,aa.out]⟩
    ·have aw:((j:Int)==0)=false:=by simp;omega
     have aa:Agt (ae++Hg l 0 (x.body.take (j+1))=acc++([44]++([33]++wa))):=by rw[Agt,aa.out,nK,if_neg ad]
     clear ad
     repeat' (first|refine Z1 ?_|(refine Z8 ?_;intro κ hκ)|(refine Z4 ?_;clear hκ κ)|(refine Z2 ?_ ?_<;>intro h ac<;>try exact Xp)|(refine Z5 ?_;refine Xi (am _) ?_;rintro _ _ ⟨rfl,ab⟩;(have af:=ab.obj;have ah:=ab.nobj))|refine Z7 ?_|exact⟨⟩|(apply hκ.out;clear hκ κ))
     exact⟨x.body.length-(j+1),Agm,j+1,acc++([44]++([33]++wa)),rfl,Agm,by simp,by simp,((hK.new _).put hK.nobj _).trans ab,by simp;omega,by rw[Agt,aa.out]⟩
   |false=>
    rw[hnt]at hd;have aa:Agt (ae++Hg l 0 (x.body.take (j+1))=acc++(nK j++([]++wa))):=by rw[Agt,aa.out,ap.out,if_neg (by rw[hnt];simp)]
    clear ap;by_cases ad:j=0
    ·have aw:((j:Int)==0)=true:=by simp[ad]
     have aa:Agt (ae++Hg l 0 (x.body.take (j+1))=acc++([58,45]++([]++wa))):=by rw[Agt,aa.out,nK,if_pos ad]
     clear ad
     repeat' (first|refine Z1 ?_|(refine Z8 ?_;intro κ hκ)|(refine Z4 ?_;clear hκ κ)|(refine Z2 ?_ ?_<;>intro h ac<;>try exact Xp)|(refine Z5 ?_;refine Xi (am _) ?_;rintro _ _ ⟨rfl,ab⟩;(have af:=ab.obj;have ah:=ab.nobj))|refine Z7 ?_|exact⟨⟩|(apply hκ.out;clear hκ κ))
     exact⟨x.body.length-(j+1),Agm,j+1,acc++([58,45]++([]++wa)),rfl,Agm,by simp,by simp,((hK.new _).put hK.nobj _).trans ab,by simp;omega,by rw[Agt,aa.out]⟩
    ·have aw:((j:Int)==0)=false:=by simp;omega
     have aa:Agt (ae++Hg l 0 (x.body.take (j+1))=acc++([44]++([]++wa))):=by rw[Agt,aa.out,nK,if_neg ad]
     clear ad
     repeat' (first|refine Z1 ?_|(refine Z8 ?_;intro κ hκ)|(refine Z4 ?_;clear hκ κ)|(refine Z2 ?_ ?_<;>intro h ac<;>try exact Xp)|(refine Z5 ?_;refine Xi (am _) ?_;rintro _ _ ⟨rfl,ab⟩;(have af:=ab.obj;have ah:=ab.nobj))|refine Z7 ?_|exact⟨⟩|(apply hκ.out;clear hκ κ))
     exact⟨x.body.length-(j+1),Agm,j+1,acc++([44]++([]++wa)),rfl,Agm,by simp,by simp,((hK.new _).put hK.nobj _).trans ab,by simp;omega,by rw[Agt,aa.out]⟩
  ·have a3:j=x.body.length:=Agm;subst a3;rw[Adz]at hA
   repeat' (first|refine Z1 ?_|(refine Z8 ?_;intro κ hκ)|(refine Z4 ?_;clear hκ κ)|(refine Z2 ?_ ?_<;>intro h ac<;>try exact Xp)|refine Z7 ?_|exact⟨⟩|(apply hκ.out;clear hκ κ))
   first
   |exact⟨_,rfl,by rw[hA.out],hK⟩
   |exact⟨_,rfl,by rw[hA.out]⟩
theorem Iw (N:List Tx)(l:List RItem)(cs:List AV)(idn idi:Nat)(hB:Bk N l cs)(x:RItem)(c:List AV)(hx:PI N x c)(hw:WI N x)(M:St):ACalls Tryz.prog 74 [B9 N idn l idi cs,ag c] M fun r M'=>r=str (Cu x)/\Keep M M':=by
 have hN:=hB.nm;have ae:=Nz hw.fits hw.short;obtain⟨hm,ih,id,b,hb,rfl⟩:=hx;have hO:=fun M=>Zj N x _ (PI.of (ih:=ih) (id:=id) hm hb) hw.out hw.fits hw.va hw.vh hw.vb M;have hT:=fun c hc M=>jF N (Au x) idn x c hc hN hw.mem hw.short.1.1 hw.body hw.head hw.wa M;have hT:∀c,RI N (Au x) x c->∀M,ACalls Tryz.prog 129 [ag c,sl idn N.length (N.map str)] M fun r M'=>r=str (Cu x)/\Keep M M':=hT;generalize af:Cu x=wx at hT ae⊢;clear af hw;refine Z9 12 [.tmp 4] Tryz.func74 ?_
 repeat' (first|refine Z1 ?_|(refine Z8 ?_;intro κ hκ)|(refine Z4 ?_;clear hκ κ)|(refine Z2 ?_ ?_<;>intro h ai<;>try exact Xp)|(refine Z5 ?_;first|(refine Xi (hO _) ?_;rintro _ _ ⟨c2,rfl,aj,an,ac⟩;(have ad:=ac.obj;have aa:=ac.nobj;(try simp only[Aa,Ab,Ah]at aa);obtain⟨ih2,id2,b2,ah,rfl⟩:=aj))|(refine Xi (hT _ ⟨_,_,_,ah,rfl⟩ _) ?_;rintro _ _ ⟨rfl,am⟩))|refine Z7 ?_|exact⟨⟩|(apply hκ.out;clear hκ κ))
 rename_i M2 M3;have ak:=(((Keep.refl M).new _).new _).trans ac;have ab:=((ak.new _).put Agm _).trans am
 first
  |exact⟨_,rfl,rfl,ab⟩
  |exact⟨rfl,ab⟩
  |exact ab
theorem jX (N:List Tx)(l:List RItem)(cs:List AV)(idn idi:Nat)(hB:Bk N l cs)(hW:∀x∈l,WI N x)(M:St):ACalls Tryz.prog 40 [B9 N idn l idi cs] M fun r M'=>r=str (Cg l)/\Keep M M':=by
 have au:=EL.length D2 hB.el;have ak:=hB.len;have hN:=hB.nm;have hE:=hB.el;refine Z9 20 [.tmp 2] Tryz.func40 ?_
 repeat' (first|refine Z1 ?_|(refine Z8 ?_;intro κ hκ)|(refine Z4 ?_;clear hκ κ)|(refine Z2 ?_ ?_<;>intro h ab<;>try exact Xp)|refine Z7 ?_|exact⟨⟩|(apply hκ.out;clear hκ κ))
 refine Ag (fun m s M'=>∃(i:Nat) (acc:Tx),m=l.length-i/\i<=l.length/\s 1=ptr M.nobj 0/\s 3=str acc/\s 7=sl idi l.length cs/\s 8=sc (.int .i64 l.length)/\s 9=sc (.int .i64 i)/\Keep M M'/\M.nobj<M'.nobj/\M'.obj M.nobj=[sl idn N.length (N.map str),sl idi l.length cs]/\acc.length<=i*1100000000/\Agt (acc=Cg (l.take i))) l.length
  ⟨0,[],Agm,Agm,Ago,Ago,Ago,Ago,rfl,Xs,Agq,Ap,by simp,by simp[Agt,Cg]⟩ ?_
 rintro m s M' ⟨i,acc,rfl,hi,h1,h3,h7,h8,h9,hK,hno,aj,av,hA⟩;have ap:=hK.nobj;by_cases af:i<l.length
 ·have aa:=List.getElem?_eq_getElem af;have hw:=hW l[i] (Afa af);obtain⟨hm,ih,id,b,r,hb,hd⟩:=G8 hE aa;generalize l[i]=x at hd aa hw hm hb;have HG:Agt (l[i]?=some x):=aa;clear aa;have ai:=Nz hw.fits hw.short;have hT:=fun M=>Iw N l cs idn idi hB x _ (PI.of (ih:=ih) (id:=id) hm hb) hw M;generalize ae:Cu x=wx at hT ai;have ao:Agt _:=ae;clear ae hw
  repeat' (first|refine Z1 ?_|(refine Z8 ?_;intro κ hκ)|(refine Z4 ?_;clear hκ κ)|(refine Z2 ?_ ?_<;>intro h ab<;>try exact Xp)|(refine Z5 ?_;refine Xi (hT _) ?_;rintro _ _ ⟨rfl,ac⟩;(have ah:=ac.obj;have ad:=ac.nobj;(try simp only[Aa,Ab,Ah]at ad)))|refine Z7 ?_|exact⟨⟩|(apply hκ.out;clear hκ κ))
  rename_i M3;have an:=((hK.new _).put hK.nobj _).trans ac;have HA:Agt (acc++wx=Cg (l.take (i+1))):=by
   rw[Agt,Ad3,HG.out,hA.out];simp[Cg,ao.out]
  have HL:List.length (acc++wx)<=(i+1)*1100000000:=by simp only[Aee];omega
  refine⟨l.length-(i+1),Agm,i+1,acc++wx,?_⟩
  ((repeat' with_reducible refine And.intro ?_ ?_)<;>first|exact Xq|exact (an)|exact (HA)|exact (HL)|exact (by rw[ac.obj _ Ags,Ai Agm,Af Agm,aj])|exact Xs)
 ·have am:i=l.length:=Agm;subst am;rw[Adz]at hA
  repeat' (first|refine Z1 ?_|(refine Z8 ?_;intro κ hκ)|(refine Z4 ?_;clear hκ κ)|(refine Z2 ?_ ?_<;>intro h ab<;>try exact Xp)|refine Z7 ?_|exact⟨⟩|(apply hκ.out;clear hκ κ))
  first
  |exact⟨_,rfl,by rw[hA.out],hK⟩
  |exact⟨_,rfl,by rw[hA.out]⟩
section rounds
variable {N:List Tx} {l:List RItem} (D:Tx->Nat)
end rounds
theorem jI {p:Nat->Bool}{n:Nat}(h:¬0<=Bn p n):∀i,i<n->p i=false:=by
 intro i hi;unfold Bn at h;split at h
 ·rename_i j hj;exact absurd (Afg j) h
 ·rename_i hn;rw[List.find?_eq_none]at hn;simpa using hn i (by simpa using hi)
end Go.Proofs.YtmoeoppbmhfbpabGreatDoorG
