import Derived.Test.YtmoeoppbmhfbpabGreatDoorLShelf
import Derived.Test.YtmoeoppbmhfbpabGreatDoorLProgP
set_option maxHeartbeats 16000000
set_option maxRecDepth 100000
set_option linter.all false
namespace Go.Proofs.YtmoeoppbmhfbpabGreatDoorL
open Go.Abs
theorem kS (l:List Tx)(w:Tx)(hD:DT w)(hv:Ad w=true->0<=Bz l w/\Bz l w<26)(M:St):ACalls Tryz.prog 149 [ag (J0 l w)] M fun r M'=>r=str (Gt l w)/\Keep M M':=by
 have ab:∀z:UInt8,({data:=#[z]}:ByteArray)=bs [z]:=fun _=>rfl;unfold J0;cases hb:Ad w with
 |true=>
  obtain⟨h0,h1⟩:=hv hb;have hL:Ajs (Gt l w=[UInt8.ofNat (IntKind.u8.wrap (65+Bz l w)).toNat]):=by rw[Ajs,Gt,if_pos hb,Oe h0 h1]
  rw[if_pos rfl];generalize Bz l w=k at h0 h1 hL;clear hv;refine Z9 14 [.tmp 2] Tryz.func149 ?_
  repeat' (first|refine Z1 ?_|(refine Z8 ?_;intro κ hκ)|(refine Z4 ?_;clear hκ κ)|(refine Z2 ?_ ?_<;>intro h aa<;>try exact Xp)|refine Z7 ?_|exact⟨⟩|(apply hκ.out;clear hκ κ))
  exact⟨_,rfl,by rw[hL.out],Xs⟩
 |false=>
  obtain⟨d1,d2,d3⟩:Lib.itoa (Al w).2=w/\0<=(Al w).2/\(Al w).2<=999:=by
   rcases hD with h|h
   ·rw[hb]at h;cases h
   ·exact h.2
  have hI:=fun M=>Q0 (Al w).2 d2 Ajm M;rw[if_neg (by simp)];rw[d1]at hI;have hL:Ajs (Gt l w=w):=by rw[Ajs,Gt,if_neg (by rw[hb];simp)]
  generalize (Al w).2=v at hI;clear hv hD;refine Z9 14 [.tmp 2] Tryz.func149 ?_
  repeat' (first|refine Z1 ?_|(refine Z8 ?_;intro κ hκ)|(refine Z4 ?_;clear hκ κ)|(refine Z2 ?_ ?_<;>intro h aa<;>try exact Xp)|(refine Z5 ?_;refine Xi (hI _) ?_;rintro _ _ ⟨rfl,rfl⟩)|refine Z7 ?_|exact⟨⟩|(apply hκ.out;clear hκ κ))
  exact⟨_,rfl,by rw[hL.out],Xs⟩
theorem lN {l ts:List Tx}{k:Nat}{w:Tx}(h:ts[k]?=some w):∃r,(Dp l ts).drop (k*2)=sc (.bool (Ad w))::sc (.int .i64 (if Ad w=true then Bz l w else (Al w).2))::r:=by
 have hE:∀ts:List Tx,EL (fun w c=>c=J0 l w) ts (Dp l ts):=by
  intro ts;induction ts with
  |nil=>rfl
  |cons a l ih=>exact⟨J0 _ a,Dp _ l,rfl,ih,by simp[Dp]⟩
 obtain⟨c,r,rfl,e⟩:=EL.get (z:=2) (fun a c h=>by rw[h];rfl) (hE ts) h;exact⟨r,e⟩
def prT (l:List Tx)(k:Nat)(ts:List Tx):Tx:=if k=0 then [40]else Kg l 0 (ts.take k)
theorem wS {l ts:List Tx}{k:Nat}{w:Tx}(h:ts[k]?=some w):prT l (k+1) ts=prT l k ts++((if k=0 then []else [44])++Gt l w):=by
 have hk:k<ts.length:=(List.getElem?_eq_some_iff.1 h).1;unfold prT;rw[if_neg Ajm,Agz,h,Aia,X3,Ahb,Ahf Ajm,Ag9];by_cases h0:k=0
 ·subst h0;simp[Kg,wrS]
 ·rw[if_neg h0,if_neg h0];simp[wrS,h0]
theorem Wc (N l:List Tx)(idn ids:Nat)(a:RAtom)(ha:a.pred∈N)(hN:N.length<=2000)(hp:0<a.terms.length)(hn:a.terms.length<=1000)(hpl:a.pred.length<=1000)(hw:WT l a)(M:St):
  ACalls Tryz.prog 182 [ag [sc (.int .i64 (N.idxOf a.pred:Nat)),sl ids a.terms.length (Dp l a.terms)],sl idn N.length (N.map str)] M fun r M'=>r=str (a.pred++Kg l 0 a.terms++[41])/\Keep M M':=by
 have av:=lM l a.terms;have az:({data:=#[40]}:ByteArray)=bs [40]:=rfl;have ax:({data:=#[44]}:ByteArray)=bs [44]:=rfl;have ay:({data:=#[41]}:ByteArray)=bs [41]:=rfl;have ai:=Ah9 ha;have ap:(N.map str).drop (N.idxOf a.pred)=str a.pred::(N.map str).drop (N.idxOf a.pred+1):=by
  have:=E0 ai;rwa[Ah8 ai]at this
 generalize N.idxOf a.pred=ix at ai ap;refine Z9 33 [.tmp 4] Tryz.func182 ?_
 repeat' (first|refine Z1 ?_|(refine Z8 ?_;intro κ hκ)|(refine Z4 ?_;clear hκ κ)|(refine Z2 ?_ ?_<;>intro h ac<;>try exact Xp)|refine Z7 ?_|exact⟨⟩|(apply hκ.out;clear hκ κ))
 refine Af (fun m s M'=>∃(k:Nat) (acc:Tx),m=a.terms.length-k/\k<=a.terms.length/\s 5=str acc/\s 15=sl ids a.terms.length (Dp l a.terms)/\s 16=sc (.int .i64 a.terms.length)/\s 17=sc (.int .i64 k)/\Keep M M'/\acc.length<=1001+k*1001/\Ajs (acc=a.pred++prT l k a.terms)) a.terms.length
  ⟨0,a.pred++[40],Ajm,Ajm,Ajo,Ajo,Ajo,rfl,Xs,by simp;omega,by simp[Ajs,prT]⟩ ?_
 rintro m s M' ⟨k,acc,rfl,hk,h5,a4,a3,a0,hK,aw,hA⟩;have au:=hK.nobj;by_cases aj:k<a.terms.length
 ·have ab:=List.getElem?_eq_getElem aj;obtain⟨w1,w2,w3⟩:=hw a.terms[k] (Ah6 aj);obtain⟨r,hd⟩:=lN (l:=l) ab;have aa:Ajs (a.pred++prT l (k+1) a.terms=acc++((if k=0 then []else [44])++Gt l a.terms[k])):=by
   rw[Ajs,wS ab,hA.out,Ahc]
  have am:=nZ l a.terms[k] w2;have hT:=fun M=>kS l a.terms[k] w1 w3 M;unfold J0 at hT;generalize Gt l a.terms[k]=tw at aa hT am;generalize (if Ad a.terms[k]=true then Bz l a.terms[k]else (Al a.terms[k]).2)=vw at hT hd;generalize Ad a.terms[k]=bw at hT hd;clear ab w1 w2 w3;by_cases ae:k=0
  ·have ao:decide ((0:Int)<(k:Int))=false:=by simp[ae]
   have aa:Ajs (a.pred++prT l (k+1) a.terms=acc++tw):=by rw[Ajs,aa.out,if_pos ae];simp
   clear ae
   repeat' (first|refine Z1 ?_|(refine Z8 ?_;intro κ hκ)|(refine Z4 ?_;clear hκ κ)|(refine Z2 ?_ ?_<;>intro h ac<;>try exact Xp)|(refine Z5 ?_;refine Xi (hT _) ?_;rintro _ _ ⟨rfl,ad⟩;(have af:=ad.obj;have ah:=ad.nobj))|refine Z7 ?_|exact⟨⟩|(apply hκ.out;clear hκ κ))
   exact⟨a.terms.length-(k+1),Ajm,k+1,acc++tw,rfl,Ajm,rfl,by simp,((hK.new _).put hK.nobj _).trans ad,by simp only[Aha];omega,by rw[Ajs,aa.out]⟩
  ·have ao:decide ((0:Int)<(k:Int))=true:=by simp;omega
   have aa:Ajs (a.pred++prT l (k+1) a.terms=acc++([44]++tw)):=by rw[Ajs,aa.out,if_neg ae]
   clear ae
   repeat' (first|refine Z1 ?_|(refine Z8 ?_;intro κ hκ)|(refine Z4 ?_;clear hκ κ)|(refine Z2 ?_ ?_<;>intro h ac<;>try exact Xp)|(refine Z5 ?_;refine Xi (hT _) ?_;rintro _ _ ⟨rfl,ad⟩;(have af:=ad.obj;have ah:=ad.nobj))|refine Z7 ?_|exact⟨⟩|(apply hκ.out;clear hκ κ))
   exact⟨a.terms.length-(k+1),Ajm,k+1,acc++([44]++tw),rfl,Ajm,by rw[Ahc],by simp,((hK.new _).put hK.nobj _).trans ad,by simp only[Aha,Ah1];omega,by rw[Ajs,aa.out]⟩
 ·have an:k=a.terms.length:=Ajm;subst an;have ak:acc=a.pred++Kg l 0 a.terms:=by rw[hA.out,prT,if_neg Ajm,Agw]
  have HA:Ajs _:=ak;clear hA ak
  repeat' (first|refine Z1 ?_|(refine Z8 ?_;intro κ hκ)|(refine Z4 ?_;clear hκ κ)|(refine Z2 ?_ ?_<;>intro h ac<;>try exact Xp)|refine Z7 ?_|exact⟨⟩|(apply hκ.out;clear hκ κ))
  first
  |exact⟨_,rfl,by rw[HA.out],hK⟩
  |exact⟨_,rfl,by rw[HA.out]⟩
def prA (l:List Tx)(a:RAtom):Tx:=a.pred++Kg l 0 a.terms++[41]
theorem pP {N l:List Tx}{a:RAtom}(h:WA N l a):(prA l a).length<=1003000:=by
 obtain⟨h1,h2,h3,h4,h5⟩:=h;have:=Td l a.terms 0 fun t ht=>(h5 t ht).2.1;simp only[prA,Aha,Ah1];omega
def prN (a:RAtom):Tx:=if a.nt=true then [33]else []
theorem Tb (l:List Tx)(a:RAtom):Io l a=prN a++prA l a:=by simp[Io,prN,prA]
theorem mK (N l:List Tx)(idn:Nat)(x:RItem)(c:List AV)(hc:RI N l x c)(hN:N.length<=2000)(hm:x.head.pred∈N)(hpl:x.head.pred.length<=1000)(a8:x.body.length<=5)(hh:x.out=false->x.head.nt=false/\WA N l x.head)(hb:∀a∈x.body,WA N l a)(M:St):
  ACalls Tryz.prog 129 [ag c,sl idn N.length (N.map str)] M fun r M'=>r=str (if x.out=true then 63::x.head.pred++[46]else Io l x.head++H3 l 0 x.body++[46])/\Keep M M':=by
 obtain⟨ih,id,b,a0,rfl⟩:=hc;have a7:=EL.length Aaf a0;have ba:({data:=#[63]}:ByteArray)=bs [63]:=rfl;have bc:({data:=#[46]}:ByteArray)=bs [46]:=rfl;have bd:({data:=#[44]}:ByteArray)=bs [44]:=rfl;have be:({data:=#[33]}:ByteArray)=bs [33]:=rfl;have bb:({data:=#[58,45]}:ByteArray)=bs [58,45]:=rfl;cases ho:x.out with
 |true=>
  have ax:=Ah9 hm;have a5:(N.map str).drop (N.idxOf x.head.pred)=str x.head.pred::(N.map str).drop (N.idxOf x.head.pred+1):=by
   have:=E0 ax;rwa[Ah8 ax]at this
  generalize N.idxOf x.head.pred=ix at ax a5;clear hh hb;refine Z9 49 [.tmp 4] Tryz.func129 ?_
  repeat' (first|refine Z1 ?_|(refine Z8 ?_;intro κ hκ)|(refine Z4 ?_;clear hκ κ)|(refine Z2 ?_ ?_<;>intro h ac<;>try exact Xp)|refine Z7 ?_|exact⟨⟩|(apply hκ.out;clear hκ κ))
  exact⟨_,rfl,by simp,Xs⟩
 |false=>
  obtain⟨hnt,ai⟩:=hh ho;have a4:=pP ai;have au:=fun M=>Wc N l idn ih x.head ai.1 hN ai.2.1 ai.2.2.1 ai.2.2.2.1 ai.2.2.2.2 M;have ao:Ajs (Io l x.head=prA l x.head):=by rw[Ajs,Tb,prN,hnt];simp
  have au:∀M,ACalls Tryz.prog 182 [ag [sc (.int .i64 (N.idxOf x.head.pred:Nat)),sl ih x.head.terms.length (Dp l x.head.terms)],sl idn N.length (N.map str)] M fun r M'=>r=str (prA l x.head)/\Keep M M':=au;generalize prA l x.head=ae at a4 au ao;clear hh ai hm hnt;rw[if_neg (by simp),ao.out];refine Z9 49 [.tmp 4] Tryz.func129 ?_
  repeat' (first|refine Z1 ?_|(refine Z8 ?_;intro κ hκ)|(refine Z4 ?_;clear hκ κ)|(refine Z2 ?_ ?_<;>intro h ac<;>try exact Xp)|(refine Z5 ?_;refine Xi (au _) ?_;rintro _ _ ⟨rfl,ay⟩;(have av:=ay.obj;have an:=ay.nobj;simp only[Aa]at an))|refine Z7 ?_|exact⟨⟩|(apply hκ.out;clear hκ κ))
  rename_i M1
  refine Af (fun m s M'=>∃(j:Nat) (acc:Tx),m=x.body.length-j/\j<=x.body.length/\s 1=sl idn N.length (N.map str)/\s 5=str acc/\s 23=sl id x.body.length b/\s 24=sc (.int .i64 x.body.length)/\s 25=sc (.int .i64 j)/\Keep M M'/\acc.length<=1003000+j*1003010/\Ajs (acc=ae++H3 l 0 (x.body.take j))) x.body.length
   ⟨0,ae,Ajm,Ajm,by simp[upd,initS],Ajo,Ajo,Ajo,rfl,Xs,Ajm,by simp[Ajs,H3]⟩ ?_
  clear ay av an;rintro m s M' ⟨j,acc,rfl,hj,h1,h5,bh,bg,bf,hK,a9,hA⟩;have a6:=hK.nobj;by_cases az:j<x.body.length
  ·have ak:=List.getElem?_eq_getElem az;have aj:=hb x.body[j] (Ah6 az);obtain⟨ia,r,hd⟩:=Af9 a0 ak;have aa:Ajs (ae++H3 l 0 (x.body.take (j+1))=acc++(qV j++(prN x.body[j]++prA l x.body[j]))):=by
    rw[Ajs,Agz,ak,Aia,X4,Tb,hA.out,Ahb,Ahf Ajm,Ag9,Ahc]
   have ao:=pP aj;have am:∀M,ACalls Tryz.prog 182 [ag [sc (.int .i64 (N.idxOf x.body[j].pred:Nat)),sl ia x.body[j].terms.length (Dp l x.body[j].terms)],sl idn N.length (N.map str)] M fun r M'=>r=str (prA l x.body[j])/\Keep M M':=fun M=>Wc N l idn ia x.body[j] aj.1 hN aj.2.1 aj.2.2.1 aj.2.2.2.1 aj.2.2.2.2 M;have ap:Ajs (prN x.body[j]=if x.body[j].nt=true then [33]else []):=rfl;clear ak aj;generalize x.body[j]=a at hd aa ao am ap;generalize prA l a=wa at aa ao am;cases hnt:a.nt with
   |true=>
    rw[hnt]at hd;have aa:Ajs (ae++H3 l 0 (x.body.take (j+1))=acc++(qV j++([33]++wa))):=by rw[Ajs,aa.out,ap.out,if_pos hnt]
    clear ap;by_cases ad:j=0
    ·have aw:((j:Int)==0)=true:=by simp[ad]
     have aa:Ajs (ae++H3 l 0 (x.body.take (j+1))=acc++([58,45]++([33]++wa))):=by rw[Ajs,aa.out,qV,if_pos ad]
     clear ad
     repeat' (first|refine Z1 ?_|(refine Z8 ?_;intro κ hκ)|(refine Z4 ?_;clear hκ κ)|(refine Z2 ?_ ?_<;>intro h ac<;>try exact Xp)|(refine Z5 ?_;refine Xi (am _) ?_;rintro _ _ ⟨rfl,ab⟩;(have af:=ab.obj;have ah:=ab.nobj))|refine Z7 ?_|exact⟨⟩|(apply hκ.out;clear hκ κ))
     exact⟨x.body.length-(j+1),Ajm,j+1,acc++([58,45]++([33]++wa)),rfl,Ajm,by simp,by simp,((hK.new _).put hK.nobj _).trans ab,by simp;omega,by rw[Ajs,aa.out]⟩
    ·have aw:((j:Int)==0)=false:=by simp;omega
     have aa:Ajs (ae++H3 l 0 (x.body.take (j+1))=acc++([44]++([33]++wa))):=by rw[Ajs,aa.out,qV,if_neg ad]
     clear ad
     repeat' (first|refine Z1 ?_|(refine Z8 ?_;intro κ hκ)|(refine Z4 ?_;clear hκ κ)|(refine Z2 ?_ ?_<;>intro h ac<;>try exact Xp)|(refine Z5 ?_;refine Xi (am _) ?_;rintro _ _ ⟨rfl,ab⟩;(have af:=ab.obj;have ah:=ab.nobj))|refine Z7 ?_|exact⟨⟩|(apply hκ.out;clear hκ κ))
     exact⟨x.body.length-(j+1),Ajm,j+1,acc++([44]++([33]++wa)),rfl,Ajm,by simp,by simp,((hK.new _).put hK.nobj _).trans ab,by simp;omega,by rw[Ajs,aa.out]⟩
   |false=>
    rw[hnt]at hd;have aa:Ajs (ae++H3 l 0 (x.body.take (j+1))=acc++(qV j++([]++wa))):=by rw[Ajs,aa.out,ap.out,if_neg (by rw[hnt];simp)]
    clear ap;by_cases ad:j=0
    ·have aw:((j:Int)==0)=true:=by simp[ad]
     have aa:Ajs (ae++H3 l 0 (x.body.take (j+1))=acc++([58,45]++([]++wa))):=by rw[Ajs,aa.out,qV,if_pos ad]
     clear ad
     repeat' (first|refine Z1 ?_|(refine Z8 ?_;intro κ hκ)|(refine Z4 ?_;clear hκ κ)|(refine Z2 ?_ ?_<;>intro h ac<;>try exact Xp)|(refine Z5 ?_;refine Xi (am _) ?_;rintro _ _ ⟨rfl,ab⟩;(have af:=ab.obj;have ah:=ab.nobj))|refine Z7 ?_|exact⟨⟩|(apply hκ.out;clear hκ κ))
     exact⟨x.body.length-(j+1),Ajm,j+1,acc++([58,45]++([]++wa)),rfl,Ajm,by simp,by simp,((hK.new _).put hK.nobj _).trans ab,by simp;omega,by rw[Ajs,aa.out]⟩
    ·have aw:((j:Int)==0)=false:=by simp;omega
     have aa:Ajs (ae++H3 l 0 (x.body.take (j+1))=acc++([44]++([]++wa))):=by rw[Ajs,aa.out,qV,if_neg ad]
     clear ad
     repeat' (first|refine Z1 ?_|(refine Z8 ?_;intro κ hκ)|(refine Z4 ?_;clear hκ κ)|(refine Z2 ?_ ?_<;>intro h ac<;>try exact Xp)|(refine Z5 ?_;refine Xi (am _) ?_;rintro _ _ ⟨rfl,ab⟩;(have af:=ab.obj;have ah:=ab.nobj))|refine Z7 ?_|exact⟨⟩|(apply hκ.out;clear hκ κ))
     exact⟨x.body.length-(j+1),Ajm,j+1,acc++([44]++([]++wa)),rfl,Ajm,by simp,by simp,((hK.new _).put hK.nobj _).trans ab,by simp;omega,by rw[Ajs,aa.out]⟩
  ·have a3:j=x.body.length:=Ajm;subst a3;rw[Agw]at hA
   repeat' (first|refine Z1 ?_|(refine Z8 ?_;intro κ hκ)|(refine Z4 ?_;clear hκ κ)|(refine Z2 ?_ ?_<;>intro h ac<;>try exact Xp)|refine Z7 ?_|exact⟨⟩|(apply hκ.out;clear hκ κ))
   first
   |exact⟨_,rfl,by rw[hA.out],hK⟩
   |exact⟨_,rfl,by rw[hA.out]⟩
theorem Jq (N:List Tx)(l:List RItem)(cs:List AV)(idn idi:Nat)(hB:Bk N l cs)(x:RItem)(c:List AV)(hx:PI N x c)(hw:WI N x)(M:St):ACalls Tryz.prog 74 [Bo N idn l idi cs,ag c] M fun r M'=>r=str (Dh x)/\Keep M M':=by
 have hN:=hB.nm;have ae:=Ox hw.fits hw.short;obtain⟨hm,ih,id,b,hb,rfl⟩:=hx;have hO:=fun M=>cA N x _ (PI.of (ih:=ih) (id:=id) hm hb) hw.out hw.fits hw.va hw.vh hw.vb M;have hT:=fun c hc M=>mK N (A5 x) idn x c hc hN hw.mem hw.short.1.1 hw.body hw.head hw.wa M;have hT:∀c,RI N (A5 x) x c->∀M,ACalls Tryz.prog 129 [ag c,sl idn N.length (N.map str)] M fun r M'=>r=str (Dh x)/\Keep M M':=hT;generalize af:Dh x=wx at hT ae⊢;clear af hw;refine Z9 12 [.tmp 4] Tryz.func74 ?_
 repeat' (first|refine Z1 ?_|(refine Z8 ?_;intro κ hκ)|(refine Z4 ?_;clear hκ κ)|(refine Z2 ?_ ?_<;>intro h ai<;>try exact Xp)|(refine Z5 ?_;first|(refine Xi (hO _) ?_;rintro _ _ ⟨c2,rfl,aj,an,ac⟩;(have ad:=ac.obj;have aa:=ac.nobj;(try simp only[Aa,Ab,Ah]at aa);obtain⟨ih2,id2,b2,ah,rfl⟩:=aj))|(refine Xi (hT _ ⟨_,_,_,ah,rfl⟩ _) ?_;rintro _ _ ⟨rfl,am⟩))|refine Z7 ?_|exact⟨⟩|(apply hκ.out;clear hκ κ))
 rename_i M2 M3;have ak:=(((Keep.refl M).new _).new _).trans ac;have ab:=((ak.new _).put Ajm _).trans am
 first
  |exact⟨_,rfl,rfl,ab⟩
  |exact⟨rfl,ab⟩
  |exact ab
theorem nI (N:List Tx)(l:List RItem)(cs:List AV)(idn idi:Nat)(hB:Bk N l cs)(hW:∀x∈l,WI N x)(M:St):ACalls Tryz.prog 40 [Bo N idn l idi cs] M fun r M'=>r=str (Ck l)/\Keep M M':=by
 have au:=EL.length De hB.el;have ak:=hB.len;have hN:=hB.nm;have hE:=hB.el;refine Z9 20 [.tmp 2] Tryz.func40 ?_
 repeat' (first|refine Z1 ?_|(refine Z8 ?_;intro κ hκ)|(refine Z4 ?_;clear hκ κ)|(refine Z2 ?_ ?_<;>intro h ab<;>try exact Xp)|refine Z7 ?_|exact⟨⟩|(apply hκ.out;clear hκ κ))
 refine Af (fun m s M'=>∃(i:Nat) (acc:Tx),m=l.length-i/\i<=l.length/\s 1=ptr M.nobj 0/\s 3=str acc/\s 7=sl idi l.length cs/\s 8=sc (.int .i64 l.length)/\s 9=sc (.int .i64 i)/\Keep M M'/\M.nobj<M'.nobj/\M'.obj M.nobj=[sl idn N.length (N.map str),sl idi l.length cs]/\acc.length<=i*1100000000/\Ajs (acc=Ck (l.take i))) l.length
  ⟨0,[],Ajm,Ajm,Ajo,Ajo,Ajo,Ajo,rfl,Xs,Ajq,Ap,by simp,by simp[Ajs,Ck]⟩ ?_
 rintro m s M' ⟨i,acc,rfl,hi,h1,h3,h7,h8,h9,hK,ap,aj,av,hA⟩;have ao:=hK.nobj;by_cases af:i<l.length
 ·have aa:=List.getElem?_eq_getElem af;have hw:=hW l[i] (Ah6 af);obtain⟨hm,ih,id,b,r,hb,hd⟩:=En hE aa;generalize l[i]=x at hd aa hw hm hb;have HG:Ajs (l[i]?=some x):=aa;clear aa;have ai:=Ox hw.fits hw.short;have hT:=fun M=>Jq N l cs idn idi hB x _ (PI.of (ih:=ih) (id:=id) hm hb) hw M;generalize ae:Dh x=wx at hT ai;have an:Ajs _:=ae;clear ae hw
  repeat' (first|refine Z1 ?_|(refine Z8 ?_;intro κ hκ)|(refine Z4 ?_;clear hκ κ)|(refine Z2 ?_ ?_<;>intro h ab<;>try exact Xp)|(refine Z5 ?_;refine Xi (hT _) ?_;rintro _ _ ⟨rfl,ac⟩;(have ah:=ac.obj;have ad:=ac.nobj;(try simp only[Aa,Ab,Ah]at ad)))|refine Z7 ?_|exact⟨⟩|(apply hκ.out;clear hκ κ))
  rename_i M3;have am:=((hK.new _).put hK.nobj _).trans ac;have HA:Ajs (acc++wx=Ck (l.take (i+1))):=by
   rw[Ajs,Agz,HG.out,hA.out];simp[Ck,an.out]
  have HL:List.length (acc++wx)<=(i+1)*1100000000:=by simp only[Aha];omega
  refine⟨l.length-(i+1),Ajm,i+1,acc++wx,?_⟩
  ((repeat' with_reducible refine And.intro ?_ ?_)<;>first|exact Xq|exact (am)|exact (HA)|exact (HL)|exact (by rw[ac.obj _ Ajr,Ai Ajm,Ag Ajm,aj])|exact Xs)
 ·have hil:i=l.length:=Ajm;subst hil;rw[Agw]at hA
  repeat' (first|refine Z1 ?_|(refine Z8 ?_;intro κ hκ)|(refine Z4 ?_;clear hκ κ)|(refine Z2 ?_ ?_<;>intro h ab<;>try exact Xp)|refine Z7 ?_|exact⟨⟩|(apply hκ.out;clear hκ κ))
  first
  |exact⟨_,rfl,by rw[hA.out],hK⟩
  |exact⟨_,rfl,by rw[hA.out]⟩
def Jb (N:List Tx)(cc:Nat->Int)(a:RAtom):Int:=if a.nt=true then cc (N.idxOf a.pred)+1 else cc (N.idxOf a.pred)
def Dz (N:List Tx)(cc:Nat->Int)(m:Int)(a:RAtom):Int:=if m<Jb N cc a then Jb N cc a else m
def Cq (N:List Tx)(cc:Nat->Int)(ls:List RAtom):Int:=ls.foldl (Dz N cc) 0
theorem iE (N:List Tx)(cc:Nat->Int)(ls:List RAtom)(a:RAtom):Cq N cc (ls++[a])=Dz N cc (Cq N cc ls) a:=by simp[Cq]
theorem Of {N:List Tx}{cc:Nat->Int}{B:Int}(h:∀i,0<=cc i/\cc i<=B)(hB:0<=B)(ls:List RAtom):0<=Cq N cc ls/\Cq N cc ls<=B+1:=by
 have:∀(ls:List RAtom) (m:Int),0<=m->m<=B+1->0<=ls.foldl (Dz N cc) m/\ls.foldl (Dz N cc) m<=B+1:=by
  intro ls;induction ls with
  |nil=>intro m h1 h2;exact⟨h1,h2⟩
  |cons a ls ih=>
   intro m h1 h2;have hc:=h (N.idxOf a.pred);have ha:0<=Jb N cc a/\Jb N cc a<=B+1:=by unfold Jb;split<;>omega
   have:0<=Dz N cc m a/\Dz N cc m a<=B+1:=by unfold Dz;split<;>omega
   exact ih _ this.1 this.2
 exact this ls 0 Ajm Ajm
theorem Ps (N:List Tx)(x:RItem)(c:List AV)(cc:Nat->Int)(oc:Nat)(hc:PI N x c)(hn:x.body.length<=1000)(af:∀i,0<=cc i/\cc i<=1000000)(M:St)(am:M.obj oc=Fv N.length cc)(aj:oc<M.nobj):
  ACalls Tryz.prog 136 [ag c,fx oc 0 N.length] M fun r M'=>r=sc (.int .i64 (Cq N cc x.body))/\Keep M M':=by
 obtain⟨hm,ih,id,b,hb,rfl⟩:=hc;have aw:=EL.length Dt hb;have av:=I4 N.length cc;refine Z9 32 [.tmp 4] Tryz.func136 ?_
 repeat' (first|refine Z1 ?_|(refine Z8 ?_;intro κ hκ)|(refine Z4 ?_;clear hκ κ)|(refine Z2 ?_ ?_<;>intro h ad<;>try exact Xp)|refine Z3 ?_|exact⟨⟩|(apply hκ.out;clear hκ κ))
 refine Af (fun m s M'=>∃i:Nat,m=x.body.length-i/\i<=x.body.length/\s 1=fx oc 0 N.length/\s 5=sc (.int .i64 (Cq N cc (x.body.take i)))/\s 10=sl id x.body.length b/\s 11=sc (.int .i64 x.body.length)/\s 12=sc (.int .i64 i)/\Keep M M') x.body.length
  ⟨0,Ajm,Ajm,rfl,rfl,rfl,rfl,rfl,Xs⟩ ?_
 rintro m s M' ⟨i,rfl,hi,h1,h5,az,ay,ax,hK⟩;have au:=hK.nobj;have ak:M'.obj oc=Fv N.length cc:=by rw[hK.obj _ aj];exact am
 by_cases an:i<x.body.length
 ·have ab:=List.getElem?_eq_getElem an;obtain⟨ha,ia,r,hd⟩:=Ml hb ab;generalize x.body[i]=a at hd ab ha;have ah:=Ah9 ha;have ai:=Fu cc ah;have ap:=af (N.idxOf a.pred);have ae:Ajs (Cq N cc (x.body.take (i+1))=Dz N cc (Cq N cc (x.body.take i)) a):=by
   rw[Ajs,Agz,ab,Aia,iE]
  have ac:Ajs (Jb N cc a=if a.nt=true then cc (N.idxOf a.pred)+1 else cc (N.idxOf a.pred)):=rfl;have ao:=Of (N:=N) af (by decide) (x.body.take i);clear ab af;generalize cc (N.idxOf a.pred)=ci at ai ap ac;generalize N.idxOf a.pred=ix at hd ah ai;generalize Cq N cc (x.body.take i)=lm at h5 ae ao;cases hnt:a.nt with
  |true=>
   rw[hnt]at hd;have aa:Ajs (Jb N cc a=ci+1):=by rw[Ajs,ac.out,if_pos hnt]
   repeat' (first|refine Z1 ?_|(refine Z8 ?_;intro κ hκ)|(refine Z4 ?_;clear hκ κ)|(refine Z2 ?_ ?_<;>intro h ad<;>try exact Xp)|refine Z3 ?_|exact⟨⟩|(apply hκ.out;clear hκ κ))
   ·refine⟨x.body.length-(i+1),Ajm,i+1,rfl,Ajm,?_,by simp,(hK.new _).put hK.nobj _⟩;rw[ae.out,Dz,aa.out,if_pos (by simpa using h)]
   ·refine⟨x.body.length-(i+1),Ajm,i+1,rfl,Ajm,?_,by simp,(hK.new _).put hK.nobj _⟩;rw[ae.out,Dz,aa.out,if_neg (by simpa using h)]
  |false=>
   rw[hnt]at hd;have aa:Ajs (Jb N cc a=ci):=by rw[Ajs,ac.out,if_neg (by rw[hnt];simp)]
   repeat' (first|refine Z1 ?_|(refine Z8 ?_;intro κ hκ)|(refine Z4 ?_;clear hκ κ)|(refine Z2 ?_ ?_<;>intro h ad<;>try exact Xp)|refine Z3 ?_|exact⟨⟩|(apply hκ.out;clear hκ κ))
   ·refine⟨x.body.length-(i+1),Ajm,i+1,rfl,Ajm,?_,by simp,(hK.new _).put hK.nobj _⟩;rw[ae.out,Dz,aa.out,if_pos (by simpa using h)]
   ·refine⟨x.body.length-(i+1),Ajm,i+1,rfl,Ajm,?_,by simp,(hK.new _).put hK.nobj _⟩;rw[ae.out,Dz,aa.out,if_neg (by simpa using h)]
 ·have hil:i=x.body.length:=Ajm;subst hil;rw[Agw]at h5
  repeat' (first|refine Z1 ?_|(refine Z8 ?_;intro κ hκ)|(refine Z4 ?_;clear hκ κ)|(refine Z2 ?_ ?_<;>intro h ad<;>try exact Xp)|refine Z3 ?_|exact⟨⟩|(apply hκ.out;clear hκ κ))
  first|exact⟨_,rfl,rfl,hK⟩|exact⟨_,rfl,rfl⟩
def Ew (N:List Tx)(cc:Nat->Int)(x:RItem):Nat->Int:=fun j=>if j=N.idxOf x.head.pred/\cc (N.idxOf x.head.pred)<Cq N cc x.body then Cq N cc x.body else cc j
def Aeb (N:List Tx)(l:List RItem)(cc:Nat->Int):Nat->Int:=l.foldl (Ew N) cc
def Bw (N:List Tx)(l:List RItem):Nat->Nat->Int
 |0=>fun _=>0
 |k+1=>Aeb N l (Bw N l k)
def Abj (cc:Nat->Int)(B:Int):Prop:=∀i,0<=cc i/\cc i<=B
theorem rM {N:List Tx}{cc:Nat->Int}{B:Int}(h:Abj cc B)(hB:0<=B)(x:RItem):Abj (Ew N cc x) (B+1):=by
 intro i;have h1:=h i;have h2:=Of (N:=N) h hB x.body;unfold Ew;split<;>omega
theorem rL {N:List Tx}{cc:Nat->Int}{x:RItem}(h:cc (N.idxOf x.head.pred)<Cq N cc x.body):(fun j=>if j=N.idxOf x.head.pred then Cq N cc x.body else cc j)=Ew N cc x:=by
 funext j;unfold Ew;by_cases e:j=N.idxOf x.head.pred<;>simp[e,h]
theorem kY {N:List Tx}{cc:Nat->Int}{x:RItem}(h:¬cc (N.idxOf x.head.pred)<Cq N cc x.body):Ew N cc x=cc:=by
 funext j;unfold Ew;rw[if_neg (fun e=>h e.2)]
theorem eW (N:List Tx)(l:List RItem)(cs:List AV)(idn idi:Nat)(hB:Bk N l cs)(M:St):ACalls Tryz.prog 83 [Bo N idn l idi cs] M fun r M'=>∃o,r=fx o 0 N.length/\M'.obj o=Fv N.length (Bw N l l.length)/\M.nobj<=o/\o<M'.nobj/\Keep M M':=by
 have a6:=EL.length De hB.el;have az:=hB.len;have hN:=hB.nm;refine Z9 45 [.tmp 2] Tryz.func83 ?_
 repeat' (first|refine Z1 ?_|(refine Z8 ?_;intro κ hκ)|(refine Z4 ?_;clear hκ κ)|(refine Z2 ?_ ?_<;>intro h ac<;>try exact Xp)|refine Z3 ?_|exact⟨⟩|(apply hκ.out;clear hκ κ))
 refine Af (fun m s M'=>∃(r:Nat) (cc:Nat->Int),m=l.length-r/\r<=l.length/\s 1=ptr M.nobj 0/\s 3=fx (M.nobj+1) 0 N.length/\s 4=sc (.int .i64 r)/\Keep M M'/\M.nobj+1<M'.nobj/\M'.obj M.nobj=[sl idn N.length (N.map str),sl idi l.length cs]/\M'.obj (M.nobj+1)=Fv N.length cc/\Ajs (Abj cc (r*16:Nat))/\Ajs (cc=Bw N l r)) l.length
  ⟨0,fun _=>0,Ajm,Ajm,Ajo,Ajo,rfl,Xs,Ajq,?_,?_,fun i=>by simp,rfl⟩ ?_
 ·rw[Ag (by rw[Aa];omega),Ap]
 ·show (if M.nobj+1=M.nobj+1 then _ else _)=_;rw[if_pos rfl];exact Q8 _
 rintro m s M' ⟨r,cc,rfl,hr,h1,h3,h4,hK,aa,ad,ae,hG,hC⟩;have am:=hK.nobj;by_cases a5:r<l.length
 ·repeat' (first|refine Z1 ?_|(refine Z8 ?_;intro κ hκ)|(refine Z4 ?_;clear hκ κ)|(refine Z2 ?_ ?_<;>intro h ac<;>try exact Xp)|refine Z3 ?_|exact⟨⟩|(apply hκ.out;clear hκ κ))
  refine Af (fun m s M'=>∃(i:Nat) (cc:Nat->Int),m=l.length-i/\i<=l.length/\s 1=ptr M.nobj 0/\s 3=fx (M.nobj+1) 0 N.length/\s 4=sc (.int .i64 r)/\s 20=sl idi l.length cs/\s 21=sc (.int .i64 l.length)/\s 22=sc (.int .i64 i)/\Keep M M'/\M.nobj+1<M'.nobj/\M'.obj M.nobj=[sl idn N.length (N.map str),sl idi l.length cs]/\M'.obj (M.nobj+1)=Fv N.length cc/\Ajs (Abj cc (r*16+i:Nat))/\Ajs (cc=(l.take i).foldl (Ew N) (Bw N l r))) l.length
   ⟨0,cc,Ajm,Ajm,by simp[upd,h1],by simp[upd,h3],by simp[upd,h4],Ajo,rfl,rfl,hK,aa,ad,ae,by simpa using hG,by simpa using hC⟩ ?_
  clear hK aa ad ae hG hC h1 h3 h4 am cc;rintro m s M' ⟨i,cc,rfl,hi,h1,h3,h4,a9,a8,a7,hK,aa,ad,ae,hG,hC⟩;have am:=hK.nobj;by_cases ah:i<l.length
  ·have ab:=List.getElem?_eq_getElem ah;have ao:=hB.fits l[i] (Ah6 ah);obtain⟨hm,ih,id,b,rr,hb,hd⟩:=En hB.el ab;generalize l[i]=x at hd ab ao hb hm;have HX:Ajs (l[i]?=some x):=ab;clear ab;have an:=Ah9 hm;have ap:=Fu cc an;have a4:=I4 N.length cc;have au:(0:Int)<=((r*16+i:Nat):Int):=Aic _;have hll:=Of (N:=N) hG.out au x.body;have a0:=hG.out (N.idxOf x.head.pred);have hL:=fun (τ:St) (h1:τ.obj (M.nobj+1)=Fv N.length cc) (h2:M.nobj+1<τ.nobj)=>Ps N x _ cc (M.nobj+1) (PI.of (ih:=ih) (id:=id) hm hb) ao.1 (fun j=>by have:=hG.out j;omega) τ h1 h2;have HS:Ajs (cc (N.idxOf x.head.pred)<Cq N cc x.body->(Fv N.length cc).set (N.idxOf x.head.pred) (sc (.int .i64 (Cq N cc x.body)))=Fv N.length (Ew N cc x)):=fun h=>by rw[P3,rL h]
   have HN:Ajs (¬cc (N.idxOf x.head.pred)<Cq N cc x.body->Ew N cc x=cc):=kY;have av:=rM (N:=N) hG.out au x;have a3:Ajs _:=av;have aw:Ajs ((l.take (i+1)).foldl (Ew N) (Bw N l r)=Ew N cc x):=by
    rw[Ajs,Agz,HX.out,Aia,Aif,<-hC.out];rfl
   clear av;generalize Cq N cc x.body=lm at hL HS HN hll;generalize cc (N.idxOf x.head.pred)=ci at ap HS HN a0;generalize N.idxOf x.head.pred=ix at hd an ap hL HS
   repeat' (first|refine Z1 ?_|(refine Z8 ?_;intro κ hκ)|(refine Z4 ?_;clear hκ κ)|(refine Z2 ?_ ?_<;>intro h ac<;>try exact Xp)|(refine Z5 ?_;refine Xi (hL _ (by rw[Ai Ajm,Ag Ajm];exact ae) (by simp only[Ab,Aa];omega)) ?_;rintro _ _ ⟨rfl,ai⟩;(have ax:=ai.obj;have aj:=ai.nobj;(try simp only[Aa,Ab,Ah]at aj)))|refine Z3 ?_|exact⟨⟩|(apply hκ.out;clear hκ κ))
   ·have ak:=((hK.new [sc (.bool false),sc (.int .i64 0),nilS,nilS]).put hK.nobj _).trans ai;exact⟨l.length-(i+1),Ajm,i+1,Ew N cc x,rfl,Ajm,by simp,ak.put Ajm _,Ajm,HS.out (by simpa using h),fun j=>by have:=a3.out j;omega,aw.out.symm⟩
   ·have ak:=((hK.new [sc (.bool false),sc (.int .i64 0),nilS,nilS]).put hK.nobj _).trans ai;have af:=HN.out (by simpa using h);exact⟨l.length-(i+1),Ajm,i+1,cc,rfl,Ajm,by simp,ak,Ajm,rfl,fun j=>by have:=hG.out j;omega,by rw[Ajs,aw.out,af]⟩
  ·have hil:i=l.length:=Ajm;subst hil;rw[Agw]at hC
   repeat' (first|refine Z1 ?_|(refine Z8 ?_;intro κ hκ)|(refine Z4 ?_;clear hκ κ)|(refine Z2 ?_ ?_<;>intro h ac<;>try exact Xp)|refine Z3 ?_|exact⟨⟩|(apply hκ.out;clear hκ κ))
   refine⟨l.length-(r+1),Ajm,r+1,cc,rfl,Ajm,by simp,rfl,fun j=>?_,hC⟩;have:=hG.out j;omega
 ·have ay:r=l.length:=Ajm;subst ay
  repeat' (first|refine Z1 ?_|(refine Z8 ?_;intro κ hκ)|(refine Z4 ?_;clear hκ κ)|(refine Z2 ?_ ?_<;>intro h ac<;>try exact Xp)|refine Z3 ?_|exact⟨⟩|(apply hκ.out;clear hκ κ))
  first
  |exact⟨_,rfl,M.nobj+1,rfl,by rw[ae,hC.out],Ajm,aa,hK⟩
  |exact⟨_,rfl,M.nobj+1,rfl,by rw[ae,hC.out],Ajm,aa⟩
def Un (p:Tx)(x:RItem):Bool:=!x.out&&x.head.pred==p
def Qr (l:List RItem)(p:Tx):Bool:=l.any (Un p)
def mP (f:Nat->Bool)(l:List RItem)(p:Tx)(i:Nat):Bool:=match l[i]? with|some x=>Un p x&&f i|none=>false
def Oh (f:Nat->Bool)(l:List RItem)(p:Tx):Bool:=(List.range l.length).any (mP f l p)
def Rch (l:List RItem)(p q:Tx):Prop:=p=q\/Way (D6 l) p q
theorem Rch.trans {l:List RItem}{p q r:Tx}(h:Rch l p q)(k:Rch l q r):Rch l p r:=by
 rcases h with rfl|h
 ·exact k
 ·rcases k with rfl|k
  ·exact .inr h
  ·exact .inr (h.join k)
def HH (l:List RItem):Nat->Tx->Prop
 |0,_=>True
 |k+1,p=>∃x∈l,Rch l p x.head.pred/\∃a∈x.body,a.nt=true/\HH l k a.pred
theorem Qe {l:List RItem}{k:Nat}{p q:Tx}(h:Rch l p q)(hq:HH l k q):HH l k p:=by
 cases k with
 |zero=>trivial
 |succ k=>
  obtain⟨x,hx,hr,hb⟩:=hq;exact⟨x,hx,h.trans hr,hb⟩
theorem Aal {l:List RItem}:∀(k:Nat) (p:Tx),HH l (k+1) p->HH l k p
 |0,p,_=>trivial
 |k+1,p,⟨x,hx,hr,a,ha,hn,hh⟩=>⟨x,hx,hr,a,ha,hn,Aal k a.pred hh⟩
theorem Adu {l:List RItem}{p:Tx}{m:Nat}:∀(d:Nat),HH l (m+d) p->HH l m p
 |0,h=>h
 |d+1,h=>Adu d (Aal _ _ h)
theorem lU {α:Type}[BEq α][LawfulBEq α]:∀(a b:List α),a.Nodup->(∀x∈a,x∈b)->a.length<=b.length
 |[],b,_,_=>Nat.zero_le _
 |x::a,b,hn,hs=>by
  have hx:=hs x (by simp);have aa:=Aig.1 hn;have h1:=lU a (b.erase x) aa.2 fun y hy=>(Aih (fun e=>aa.1 (by rw[<-e];exact hy))).2 (hs y (by simp[hy]));rw[List.length_erase_of_mem hx]at h1;have h2:0<b.length:=List.length_pos_of_mem hx;simp only[Ahj];omega
def kC (l:List RItem):Prop:=∀x∈l,∀a∈x.body,a.nt=true->¬Rch l a.pred x.head.pred
theorem kD {l:List RItem}(hL:kC l):∀(k:Nat) (p:Tx),HH l k p->∃qs:List Tx,qs.length=k/\qs.Nodup/\∀q∈qs,q∈l.map (·.head.pred)/\Rch l p q
 |0,p,_=>⟨[],rfl,Aii,fun q h=>by cases h⟩
 |k+1,p,⟨x,hx,hr,a,ha,hn,hh⟩=>by
  obtain⟨qs,h1,h2,h3⟩:=kD hL k a.pred hh;refine⟨x.head.pred::qs,by simp[h1],Aig.2 ⟨fun hm=>hL x hx a ha hn (h3 _ hm).2,h2⟩,fun q hq=>?_⟩;rcases Ahm.1 hq with rfl|hq
  ·exact⟨Ahv.2 ⟨x,hx,rfl⟩,hr⟩
  ·exact⟨(h3 q hq).1,hr.trans (Rch.trans (.inr (.one ⟨x,hx,rfl,a,ha,rfl⟩)) (h3 q hq).2)⟩
theorem kE {l:List RItem}(hL:kC l){k:Nat}{p:Tx}(h:HH l k p):k<=l.length:=by
 obtain⟨qs,h1,h2,h3⟩:=kD hL k p h;have:=lU qs (l.map (·.head.pred)) h2 fun q hq=>(h3 q hq).1;rw[Aij]at this;omega
def sX (l:List RItem)(f:Nat->Bool)(counts:Bool)(x:RItem):Bool:=x.body.any fun a=>a.nt&&(counts&&!Qr l a.pred||Oh f l a.pred)
def Aen (l:List RItem)(f:Nat->Bool)(counts:Bool)(j:Nat):Bool:=match l[j]? with|some x=>sX l f counts x|none=>false
def cB (l:List RItem)(f:Nat->Bool)(counts:Bool)(i:Nat):Bool:=(List.range l.length).any fun j=>Aen l f counts j&&(i==j||Aaw l i j)
def inK (l:List RItem):Nat->Nat->Bool
 |0=>fun i=>decide (i<l.length)
 |k+1=>cB l (inK l k) (k==0)
theorem ruled_iff {l:List RItem}{p:Tx}:Qr l p=true↔∃x∈l,x.out=false/\x.head.pred=p:=by
 unfold Qr Un;rw[Ahk];simp
theorem holds_iff {l:List RItem}{f:Nat->Bool}{p:Tx}:Oh f l p=true↔∃i x,l[i]?=some x/\x.out=false/\x.head.pred=p/\f i=true:=by
 unfold Oh;rw[Ahk];constructor
 ·rintro⟨i,hi,h⟩;unfold mP at h;split at h
  ·rename_i x hx;simp[Un]at h;exact⟨i,x,hx,h.1.1,h.1.2,h.2⟩
  ·cases h
 ·rintro⟨i,x,hx,h1,h2,h3⟩;refine⟨i,by simpa using (List.getElem?_eq_some_iff.1 hx).1,?_⟩;unfold mP;rw[hx];simp[Un,h1,h2,h3]
theorem hit_iff {l:List RItem}{f:Nat->Bool}{counts:Bool}{x:RItem}:sX l f counts x=true↔∃a∈x.body,a.nt=true/\((counts=true/\Qr l a.pred=false)\/Oh f l a.pred=true):=by
 unfold sX;rw[Ahk];simp
theorem higher_iff {l:List RItem}{f:Nat->Bool}{counts:Bool}{i:Nat}:cB l f counts i=true↔∃j y,l[j]?=some y/\sX l f counts y=true/\(i=j\/Way (fun a b=>Sp l a b=true) i j):=by
 unfold cB;rw[Ahk];constructor
 ·rintro⟨j,hj,h⟩;simp only[Ags,Aik,Ajk]at h;obtain⟨h1,h2⟩:=h;unfold Aen at h1;split at h1
  ·rename_i y hy;exact⟨j,y,hy,h1,by rw[<-O2];exact h2⟩
  ·cases h1
 ·rintro⟨j,y,hy,h1,h2⟩;refine⟨j,by simpa using (List.getElem?_eq_some_iff.1 hy).1,?_⟩;simp only[Ags,Aik,Ajk];refine⟨?_,by rw[O2];exact h2⟩;unfold Aen;rw[hy];exact h1
theorem Hf {l:List RItem}(ho:∀x∈l,x.out=true->x.body=[]){x:RItem}(hx:x∈l){a:RAtom}(ha:a∈x.body):x.out=false:=by
 cases h:x.out with
 |false=>rfl
 |true=>rw[ho x hx h]at ha;cases ha
theorem sW {l:List RItem}{p:Tx}(h:Qr l p=true):Oh (inK l 0) l p=true:=by
 obtain⟨x,hx,h1,h2⟩:=ruled_iff.1 h;obtain⟨i,hi⟩:=List.getElem?_of_mem hx;exact holds_iff.2 ⟨i,x,hi,h1,h2,by simpa[inK]using (List.getElem?_eq_some_iff.1 hi).1⟩
theorem Vm {l:List RItem}(ho:∀x∈l,x.out=true->x.body=[]):∀(k:Nat) (p:Tx),Oh (inK l (k+1)) l p=true↔HH l (k+1) p:=by
 intro k;induction k with
 |zero=>
  intro p;rw[holds_iff];constructor
  ·rintro⟨i,x,hx,h1,rfl,h3⟩;obtain⟨j,y,hy,hh,hw⟩:=higher_iff.1 h3;obtain⟨a,ha,hn,-⟩:=hit_iff.1 hh;refine⟨y,Agp hy,?_,a,ha,hn,trivial⟩;rcases hw with rfl|hw
   ·rw[hx]at hy;cases hy;exact .inl rfl
   ·obtain⟨x',y',aa,ac,-,hw⟩:=Qh hw;rw[hx]at aa;cases aa;rw[hy]at ac;cases ac;exact .inr hw
  ·rintro⟨y,hy,hr,a,ha,hn,-⟩;obtain⟨j,hj⟩:=List.getElem?_of_mem hy;have ab:=Hf ho hy ha
   have hh:sX l (inK l 0) (0==0) y=true:=hit_iff.2 ⟨a,ha,hn,by
    cases af:Qr l a.pred with
    |false=>exact .inl ⟨rfl,rfl⟩
    |true=>exact .inr (sW af)⟩
   rcases hr with rfl|hw
   ·exact⟨j,y,hj,ab,rfl,higher_iff.2 ⟨j,y,hj,hh,.inl rfl⟩⟩
   ·obtain⟨i,x,hi,ae,ad⟩:=Qi ho hw j y hj ab rfl;refine⟨i,x,hi,?_,ae,higher_iff.2 ⟨j,y,hj,hh,.inr ad⟩⟩;cases ad with
    |one e=>obtain⟨x',_,aa,_,_,b,hb,_⟩:=edge_iff.1 e;rw[hi]at aa;cases aa;exact Hf ho (Agp hi) hb
    |more e _=>obtain⟨x',_,aa,_,_,b,hb,_⟩:=edge_iff.1 e;rw[hi]at aa;cases aa;exact Hf ho (Agp hi) hb
 |succ k ih=>
  intro p;rw[holds_iff];constructor
  ·rintro⟨i,x,hx,h1,rfl,h3⟩;obtain⟨j,y,hy,hh,hw⟩:=higher_iff.1 h3;obtain⟨a,ha,hn,hc⟩:=hit_iff.1 hh;have ah:HH l (k+1) a.pred:=by
    rcases hc with⟨hc,-⟩|hc
    ·simp at hc
    ·exact (ih a.pred).1 hc
   refine⟨y,Agp hy,?_,a,ha,hn,ah⟩;rcases hw with rfl|hw
   ·rw[hx]at hy;cases hy;exact .inl rfl
   ·obtain⟨x',y',aa,ac,-,hw⟩:=Qh hw;rw[hx]at aa;cases aa;rw[hy]at ac;cases ac;exact .inr hw
  ·rintro⟨y,hy,hr,a,ha,hn,hk⟩;obtain⟨j,hj⟩:=List.getElem?_of_mem hy;have ab:=Hf ho hy ha;have hh:sX l (inK l (k+1)) (k+1==0) y=true:=hit_iff.2 ⟨a,ha,hn,.inr ((ih a.pred).2 hk)⟩;rcases hr with rfl|hw
   ·exact⟨j,y,hj,ab,rfl,higher_iff.2 ⟨j,y,hj,hh,.inl rfl⟩⟩
   ·obtain⟨i,x,hi,ae,ad⟩:=Qi ho hw j y hj ab rfl;refine⟨i,x,hi,?_,ae,higher_iff.2 ⟨j,y,hj,hh,.inr ad⟩⟩;cases ad with
    |one e=>obtain⟨x',_,aa,_,_,b,hb,_⟩:=edge_iff.1 e;rw[hi]at aa;cases aa;exact Hf ho (Agp hi) hb
    |more e _=>obtain⟨x',_,aa,_,_,b,hb,_⟩:=edge_iff.1 e;rw[hi]at aa;cases aa;exact Hf ho (Agp hi) hb
def B7 (l:List RItem)(p:Tx):Nat:=match (List.range 16).find? (fun k=>!Oh (inK l (k+1)) l p)with|some k=>k|none=>16
theorem Ev {l:List RItem}(ho:∀x∈l,x.out=true->x.body=[])(hL:kC l)(hl:l.length<=16)(p:Tx)(k:Nat):HH l k p↔k<=B7 l p:=by
 unfold B7;split
 ·rename_i d hd;rw[List.find?_range_eq_some]at hd;obtain⟨h1,h2,h3⟩:=hd;have h4:¬HH l (d+1) p:=by rw[<-Vm ho];simpa using h1
  constructor
  ·intro h;rcases Agl d k with ab|aa
   ·exact absurd (Adu (m:=d+1) (k-(d+1)) (by rw[show d+1+(k-(d+1))=k by omega];exact h)) h4
   ·exact aa
  ·intro h;cases k with
   |zero=>trivial
   |succ k=>
    have:=h3 k Ajm;rw[<-Vm ho];simpa using this
 ·rename_i hd;constructor
  ·intro h;have:=kE hL h;omega
  ·intro h;cases k with
   |zero=>trivial
   |succ k=>
    rw[List.find?_eq_none]at hd;have:=hd k (by simp;omega);rw[<-Vm ho];simpa using this
theorem G9 {N:List Tx}{cc:Nat->Int}:∀(ls:List RAtom) (m:Int),m<=ls.foldl (Dz N cc) m/\(∀a∈ls,Jb N cc a<=ls.foldl (Dz N cc) m)/\(∀k:Int,k<=ls.foldl (Dz N cc) m->k<=m\/∃a∈ls,k<=Jb N cc a)
 |[],m=>⟨Ail _,(fun a h=>by cases h),fun k h=>.inl h⟩
 |b::ls,m=>by
  obtain⟨h1,h2,h3⟩:=G9 (N:=N) (cc:=cc) ls (Dz N cc m b);have h4:m<=Dz N cc m b/\Jb N cc b<=Dz N cc m b/\(Dz N cc m b=m\/Dz N cc m b=Jb N cc b):=by
   unfold Dz;split
   ·exact⟨Ajm,Ajm,.inr rfl⟩
   ·exact⟨Ajm,Ajm,.inl rfl⟩
  rw[Agv];refine⟨Ajm,fun a ha=>?_,fun k hk=>?_⟩
  ·rcases Ahm.1 ha with rfl|ha
   ·omega
   ·exact h2 a ha
  ·rcases h3 k hk with h|⟨a,ha,h⟩
   ·rcases h4.2.2 with e|e
    ·exact .inl Ajm
    ·exact .inr ⟨b,by simp,Ajm⟩
   ·exact .inr ⟨a,by simp[ha],h⟩
theorem tR {N:List Tx}{cc dd:Nat->Int}(h:∀j,cc j<=dd j)(a:RAtom):Jb N cc a<=Jb N dd a:=by
 have:=h (N.idxOf a.pred);unfold Jb;split<;>omega
theorem iF {N:List Tx}{cc dd:Nat->Int}(h:∀j,cc j<=dd j)(ls:List RAtom):Cq N cc ls<=Cq N dd ls:=by
 obtain⟨h1,h2,h3⟩:=G9 (N:=N) (cc:=dd) ls 0;obtain⟨g1,g2,g3⟩:=G9 (N:=N) (cc:=cc) ls 0;rcases g3 _ (Ail _)with g|⟨a,ha,g⟩
 ·exact Aim g h1
 ·exact Aim g (Aim (tR h a) (h2 a ha))
theorem eX {N:List Tx}(cc:Nat->Int)(x:RItem)(j:Nat):cc j<=Ew N cc x j:=by
 unfold Ew;split
 ·rename_i h;rw[h.1];omega
 ·omega
theorem wA {N:List Tx}(cc:Nat->Int)(x:RItem):Cq N cc x.body<=Ew N cc x (N.idxOf x.head.pred):=by
 unfold Ew;by_cases h:cc (N.idxOf x.head.pred)<Cq N cc x.body
 ·rw[if_pos ⟨rfl,h⟩];omega
 ·rw[if_neg (fun e=>h e.2)];omega
theorem Pi {N:List Tx}:∀(l:List RItem) (cc:Nat->Int) (j:Nat),cc j<=l.foldl (Ew N) cc j
 |[],cc,j=>Ail _
 |x::l,cc,j=>Aim (eX cc x j) (Pi l _ j)
theorem Ph {N:List Tx}:∀(l:List RItem) (cc dd:Nat->Int),(∀j,cc j<=dd j)->∀x∈l,Cq N cc x.body<=l.foldl (Ew N) dd (N.idxOf x.head.pred)
 |y::l,cc,dd,h,x,hx=>by
  rw[Agv];rcases Ahm.1 hx with rfl|hx
  ·exact Aim (iF h _) (Aim (wA dd x) (Pi l _ _))
  ·exact Ph l cc _ (fun j=>Aim (h j) (eX dd y j)) x hx
theorem Ji {N:List Tx}{l:List RItem}:∀(n:Nat) (j:Nat),0<=Bw N l n j
 |0,j=>Ail _
 |n+1,j=>Aim (Ji n j) (Pi l _ j)
def Meet (N:List Tx)(l:List RItem)(cc:Nat->Int):Prop:=∀p∈N,∀k:Nat,(k:Int)<=cc (N.idxOf p)->HH l k p
theorem Meet.step {N:List Tx}{l:List RItem}(hN:∀x∈l,x.head.pred∈N/\∀a∈x.body,a.pred∈N){cc:Nat->Int}(h:Meet N l cc){x:RItem}(hx:x∈l):Meet N l (Ew N cc x):=by
 intro p hp k hk;unfold Ew at hk;split at hk
 ·rename_i hc;obtain rfl:p=x.head.pred:=C2 hp (hN x hx).1 hc.1;cases k with
  |zero=>trivial
  |succ k=>
   rcases (G9 (N:=N) (cc:=cc) x.body 0).2.2 _ hk with h0|⟨a,ha,h0⟩
   ·omega
   ·have aa:=(hN x hx).2 a ha;unfold Jb at h0;cases hn:a.nt with
    |true=>
     rw[if_pos hn]at h0;exact⟨x,hx,.inl rfl,a,ha,hn,h a.pred aa k Ajm⟩
    |false=>
     rw[if_neg (by rw[hn];simp)]at h0;exact Qe (.inr (.one ⟨x,hx,rfl,a,ha,rfl⟩)) (h a.pred aa (k+1) h0)
 ·exact h p hp k hk
theorem Meet.round {N:List Tx}{l:List RItem}(hN:∀x∈l,x.head.pred∈N/\∀a∈x.body,a.pred∈N):∀(m:List RItem) (cc:Nat->Int),(∀x∈m,x∈l)->Meet N l cc->Meet N l (m.foldl (Ew N) cc)
 |[],cc,_,h=>h
 |x::m,cc,hs,h=>Meet.round hN m _ (fun y hy=>hs y (by simp[hy])) (h.step hN (hs x (by simp)))
theorem Zv {N:List Tx}{l:List RItem}(hN:∀x∈l,x.head.pred∈N/\∀a∈x.body,a.pred∈N):∀n,Meet N l (Bw N l n)
 |0=>fun p _ k hk=>by
  have:k=0:=by
   have aa:(k:Int)<=0:=hk;omega
  subst this;trivial
 |n+1=>Meet.round hN l _ (fun _ h=>h) (Zv hN n)
theorem qP {l:List RItem}{k:Nat}{p:Tx}(h:HH l (k+1) p):∃x∈l,x.head.pred=p:=by
 obtain⟨x,hx,hr,-⟩:=h;rcases hr with rfl|hw
 ·exact⟨x,hx,rfl⟩
 ·cases hw with
  |one e=>obtain⟨y,hy,h1,-⟩:=e;exact⟨y,hy,h1⟩
  |more e _=>obtain⟨y,hy,h1,-⟩:=e;exact⟨y,hy,h1⟩
theorem Rt {α:Type}{P Q:α->Bool}:∀(l:List α),(∀x∈l,Q x=true->P x=true)->(l.filter Q).length<=(l.filter P).length/\((∃x∈l,P x=true/\Q x=false)->(l.filter Q).length<(l.filter P).length)
 |[],_=>⟨Agi _,fun⟨x,h,_⟩=>by cases h⟩
 |x::l,h=>by
  obtain⟨h1,h2⟩:=Rt l fun y hy=>h y (by simp[hy]);have hx:=h x (by simp);simp only[Ain];cases hq:Q x with
  |true=>
   rw[hx hq];simp only[if_true,Ahj];refine⟨Ajm,fun⟨y,hy,g1,g2⟩=>?_⟩;rcases Ahm.1 hy with rfl|hy
   ·rw[hq]at g2;cases g2
   ·have:=h2 ⟨y,hy,g1,g2⟩;omega
  |false=>
   cases hp:P x with
   |true=>simp only[if_true,Ahg,if_false,Ahj];exact⟨Ajm,fun _=>Ajm⟩
   |false=>
    simp only[Ahg,if_false];refine⟨h1,fun⟨y,hy,g1,g2⟩=>?_⟩;rcases Ahm.1 hy with rfl|hy
    ·rw[hp]at g1;cases g1
    ·exact h2 ⟨y,hy,g1,g2⟩
theorem iD {α:Type}(f:α->Nat):∀(l:List α),l≠[]->∃x∈l,∀y∈l,f x<=f y
 |[],h=>absurd rfl h
 |[x],_=>⟨x,by simp,by simp⟩
 |x::y::l,_=>by
  obtain⟨z,hz,hm⟩:=iD f (y::l) (by simp);rcases Nat.le_total (f x) (f z)with h|h
  ·exact⟨x,by simp,fun u hu=>by
    rcases Ahm.1 hu with rfl|hu
    ·exact Agi _
    ·exact Agj h (hm u hu)⟩
  ·exact⟨z,by simp[Ahm.1 hz],fun u hu=>by
    rcases Ahm.1 hu with rfl|hu
    ·exact h
    ·exact hm u hu⟩
section rounds
variable {N:List Tx} {l:List RItem} (D:Tx->Nat)
theorem xO (hD:∀p k,HH l k p↔k<=D p)(n:Nat)(k:Nat)(z:RItem)(hz:z∈l)(a:RAtom)(ha:a∈z.body)(hn:a.nt=true)(hk:D z.head.pred=k+1)(ad:(k:Int)<=Bw N l n (N.idxOf a.pred)):
  ∀p,Way (D6 l) p z.head.pred->D p=k+1->Bw N l n (N.idxOf p)<D p->(∃x∈l,x.head.pred=p)->∃y∈l,Bw N l n (N.idxOf y.head.pred)<D y.head.pred/\(D y.head.pred:Int)<=Bw N l (n+1) (N.idxOf y.head.pred):=by
 have ac:(D z.head.pred:Int)<=Bw N l (n+1) (N.idxOf z.head.pred):=by
  have h1:=Ph (N:=N) l (Bw N l n) (Bw N l n) (fun j=>Ail _) z hz;have h2:=(G9 (N:=N) (cc:=Bw N l n) z.body 0).2.1 a ha;have h3:Jb N (Bw N l n) a=Bw N l n (N.idxOf a.pred)+1:=by unfold Jb;rw[if_pos hn]
  have h4:Cq N (Bw N l n) z.body<=Bw N l (n+1) (N.idxOf z.head.pred):=h1;unfold Cq at h4;omega
 have up:∀u∈l,∀b∈u.body,Bw N l n (N.idxOf b.pred)<=Bw N l (n+1) (N.idxOf u.head.pred):=by
  intro u hu b hb;have h1:=Ph (N:=N) l (Bw N l n) (Bw N l n) (fun j=>Ail _) u hu;have h2:=(G9 (N:=N) (cc:=Bw N l n) u.body 0).2.1 b hb;have h3:Bw N l n (N.idxOf b.pred)<=Jb N (Bw N l n) b:=by unfold Jb;split<;>omega
  have h4:Cq N (Bw N l n) u.body<=Bw N l (n+1) (N.idxOf u.head.pred):=h1;unfold Cq at h4;omega
 have down:∀p q,Rch l p q->D q<=D p:=fun p q h=>(hD p _).1 (Qe h ((hD q _).2 (Agi _)));intro p hw;generalize aa:z.head.pred=zp at hw;induction hw with
 |one e=>
  intro hp ab _;obtain⟨u,hu,rfl,b,hb,rfl⟩:=e;rcases Int.lt_or_le (Bw N l n (N.idxOf b.pred)) (D b.pred)with h|h
  ·exact⟨z,hz,by rw[aa];exact h,ac⟩
  ·refine⟨u,hu,ab,?_⟩;have:=up u hu b hb;rw[<-aa]at this h;omega
 |more e hw ih=>
  rename_i p q r;intro hp ab _;obtain⟨u,hu,rfl,b,hb,rfl⟩:=e;have hq:D b.pred=k+1:=by
   have h1:=down u.head.pred b.pred (.inr (.one ⟨u,hu,rfl,b,hb,rfl⟩));have h2:=down b.pred r (.inr hw);rw[<-aa]at h2;omega
  rcases Int.lt_or_le (Bw N l n (N.idxOf b.pred)) (D b.pred)with h|h
  ·refine ih aa hq h ?_;cases hw with
   |one e=>obtain⟨y,hy,h1,-⟩:=e;exact⟨y,hy,h1⟩
   |more e _=>obtain⟨y,hy,h1,-⟩:=e;exact⟨y,hy,h1⟩
  ·refine⟨u,hu,ab,?_⟩;have:=up u hu b hb;omega
theorem Rj (hD:∀p k,HH l k p↔k<=D p):∀n,(l.filter fun x=>decide (Bw N l n (N.idxOf x.head.pred)<D x.head.pred)).length<=l.length-n
 |0=>by simpa using Aio _ l
 |n+1=>by
  have ih:=Rj hD n;have ab:∀x∈l,decide (Bw N l (n+1) (N.idxOf x.head.pred)<D x.head.pred)=true->decide (Bw N l n (N.idxOf x.head.pred)<D x.head.pred)=true:=by
   intro x _ h;have:=Pi (N:=N) l (Bw N l n) (N.idxOf x.head.pred);have h':Bw N l (n+1) (N.idxOf x.head.pred)<D x.head.pred:=by simpa using h
   have h2:Bw N l (n+1) (N.idxOf x.head.pred)=l.foldl (Ew N) (Bw N l n) (N.idxOf x.head.pred):=rfl;simp only[Ajj];omega
  obtain⟨f1,f2⟩:=Rt l ab;by_cases he:(l.filter fun x=>decide (Bw N l n (N.idxOf x.head.pred)<D x.head.pred))=[]
  ·rw[he]at f1;simp only[Ahi]at f1;omega
  ·obtain⟨x,hx,hm⟩:=iD (fun x=>D x.head.pred) _ he;obtain⟨ad,af⟩:=Aip.1 hx;have aa:Bw N l n (N.idxOf x.head.pred)<D x.head.pred:=by simpa using af
   have h0:=Ji (N:=N) (l:=l) n (N.idxOf x.head.pred);obtain⟨k,hk⟩:∃k,D x.head.pred=k+1:=⟨D x.head.pred-1,Ajm⟩;have hH:=(hD x.head.pred (k+1)).2 Ajm;obtain⟨z,hz,hr,a,ha,hn,hh⟩:=hH;have aj:D z.head.pred<=k+1:=by
    rw[<-hk];exact (hD _ _).1 (Qe hr ((hD _ _).2 (Agi _)))
   have ai:D a.pred+1<=D z.head.pred:=(hD _ _).1 ⟨z,hz,.inl rfl,a,ha,hn,(hD _ _).2 (Agi _)⟩;have am:=(hD _ _).1 hh;have ah:(k:Int)<=Bw N l n (N.idxOf a.pred):=by
    cases k with
    |zero=>exact Ji n _
    |succ k=>
     obtain⟨y,hy,ac⟩:=qP hh;rcases Int.lt_or_le (Bw N l n (N.idxOf a.pred)) ((k+1:Nat):Int)with h|h
     ·exfalso;have:=hm y (Aip.2 ⟨hy,by rw[ac];simp only[Ajj];omega⟩);have h2:D x.head.pred<=D a.pred:=by rw[<-ac];exact this
      omega
     ·exact h
   have hex:∃y∈l,Bw N l n (N.idxOf y.head.pred)<D y.head.pred/\(D y.head.pred:Int)<=Bw N l (n+1) (N.idxOf y.head.pred):=by
    rcases hr with hr|hw
    ·refine⟨x,ad,aa,?_⟩;have h1:=Ph (N:=N) l (Bw N l n) (Bw N l n) (fun j=>Ail _) z hz;have h2:=(G9 (N:=N) (cc:=Bw N l n) z.body 0).2.1 a ha;have h3:Jb N (Bw N l n) a=Bw N l n (N.idxOf a.pred)+1:=by unfold Jb;rw[if_pos hn]
     have h4:Cq N (Bw N l n) z.body<=Bw N l (n+1) (N.idxOf z.head.pred):=h1;unfold Cq at h4;rw[hr]at hk⊢;omega
    ·exact xO D hD n k z hz a ha hn Ajm ah _ hw hk aa ⟨x,ad,rfl⟩
   obtain⟨y,hy,ae,ak⟩:=hex;have:=f2 ⟨y,hy,by simpa using ae,by simp only[decide_eq_false_iff_not];omega⟩;omega
theorem fH (hN:∀x∈l,x.head.pred∈N/\∀a∈x.body,a.pred∈N)(hD:∀p k,HH l k p↔k<=D p){p:Tx}(hp:p∈N):Bw N l l.length (N.idxOf p)=D p:=by
 have h0:=Ji (N:=N) (l:=l) l.length (N.idxOf p);have h1:=(hD p _).1 (Zv hN l.length p hp (Bw N l l.length (N.idxOf p)).toNat Ajm);rcases Nat.eq_zero_or_pos (D p)with hz|hz
 ·omega
 ·obtain⟨k,hk⟩:∃k,D p=k+1:=⟨D p-1,Ajm⟩;obtain⟨x,hx,rfl⟩:=qP ((hD p (k+1)).2 Ajm);have h2:=Rj (N:=N) D hD l.length;have h3:(l.filter fun x=>decide (Bw N l l.length (N.idxOf x.head.pred)<D x.head.pred))=[]:=Agu Ajm;rw[List.filter_eq_nil_iff]at h3;have:=h3 x hx;simp only[Ajj]at this;omega
end rounds
theorem Vh {l:List RItem}(ho:∀x∈l,x.out=true->x.body=[])(h:∀i,i<l.length->G1 l i=false):kC l:=by
 intro x hx a ha hn hr;obtain⟨i,hi⟩:=List.getElem?_of_mem hx;have hk:=h i (List.getElem?_eq_some_iff.1 hi).1;unfold G1 at hk;rw[hi]at hk;have:=Ah5.1 hk a ha;apply this;unfold Acw;rw[hn];simp only[Ahy,Aik,Ajk];rcases hr with hr|hr
 ·exact .inl hr
 ·exact .inr ((Mn ho ⟨x,hx,Hf ho hx ha,rfl⟩).2 hr)
theorem rJ {N:List Tx}{l:List RItem}(hl:l.length<=16)(ho:∀x∈l,x.out=true->x.body=[])(hN:∀x∈l,x.head.pred∈N/\∀a∈x.body,a.pred∈N)(h:∀i,i<l.length->G1 l i=false){p:Tx}(hp:p∈N):Bw N l l.length (N.idxOf p)=B7 l p:=
 fH (B7 l) hN (fun q k=>Ev ho (Vh ho h) hl q k) hp
theorem mR {p:Nat->Bool}{n:Nat}(h:¬0<=Bj p n):∀i,i<n->p i=false:=by
 intro i hi;unfold Bj at h;split at h
 ·rename_i j hj;exact absurd (Aic j) h
 ·rename_i hn;rw[List.find?_eq_none]at hn;simpa using hn i (by simpa using hi)
end Go.Proofs.YtmoeoppbmhfbpabGreatDoorL
