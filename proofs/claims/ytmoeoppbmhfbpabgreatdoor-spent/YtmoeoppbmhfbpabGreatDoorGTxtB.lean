import Derived.Test.YtmoeoppbmhfbpabGreatDoorGEngU
import Derived.Test.YtmoeoppbmhfbpabGreatDoorGSpaE
set_option maxHeartbeats 32000000
set_option maxRecDepth 100000
set_option linter.all false
namespace Go.Proofs.YtmoeoppbmhfbpabGreatDoorG
open Go.Abs
theorem Zy {b c:UInt8}:((b.toNat:Int)==(c.toNat:Int))=decide (b=c):=by
 by_cases h:b=c
 ·subst h;simp
 ·rw[decide_eq_false h];have:b.toNat≠c.toNat:=fun e=>h (UInt8.toNat_inj.1 e);simpa using (by omega:¬(b.toNat:Int)=c.toNat)
theorem Ya {α:Type}{f:α->UInt8->α}{a:α}{t:Tx}{i:Nat}{c:UInt8}(h:t[i]?=some c):(t.take (i+1)).foldl f a=f ((t.take i).foldl f a) c:=by
 rw[Ad3,h,Afe,Afw];rfl
theorem fD {t:Tx}{f i:Nat}{c:UInt8}(hf:f<=i)(h:t[i]?=some c):(t.drop f).take (i+1-f)=(t.drop f).take (i-f)++[c]:=by
 rw[show i+1-f=(i-f)+1 by omega,Ad3,List.getElem?_drop,show f+(i-f)=i by omega,h];rfl
theorem zG (t:Tx)(i:Nat):(t.drop i).take (i-i)=[]:=by simp
theorem Zc (t:Tx)(ht:t.length<=1000000)(q:St):ACalls Tryz.prog 22 [str t] q fun r q'=>(∃id,r=sl id (Gf t).length ((Gf t).map str))/\Keep q q':=by
 refine Z9 37 [.tmp 2] Tryz.func22 ?_
 repeat' (first|refine Z1 ?_|(refine Z8 ?_;intro κ hκ)|(refine Z4 ?_;clear hκ κ)|(refine Z2 ?_ ?_<;>intro h ad<;>try exact Xp)|(refine Z6 ?_;intro idn qn ah ai af ab ae aa)|refine Z3 ?_|exact⟨⟩|(apply hκ.out;clear hκ κ))
 refine Ag (fun m s q'=>∃(i f id:Nat) (d:List Tx),m=t.length-i/\i<=t.length/\f<=i/\s 0=str t/\s 3=sl id d.length (d.map str)/\s 4=sc (.int .i64 f)/\s 5=sc (.int .i64 i)/\Keep q q'/\Own q q' id d.length/\d.length<=i/\Agt ((t.take i).foldl oM ([],[])=(d,(t.drop f).take (i-f)))) t.length
  ⟨0,0,1,[],Agm,Agm,Agm,rfl,rfl,rfl,rfl,Keep.refl _,Own.nil _ _,by simp,by simp[Agt]⟩ ?_
 rintro m s q' ⟨i,f,id,d,rfl,hi,hf,h0,h3,h4,h5,hK,hO,ao,hF⟩;by_cases ak:i<t.length
 ·have ac:=List.getElem?_eq_getElem ak;generalize t[i]=c at ac;by_cases hc:c=46
  ·have hb:((c.toNat:Int)==46)=true:=by rw[hc];rfl
   have HF:Agt ((t.take (i+1)).foldl oM ([],[])=(d++[(t.drop f).take (i+1-f)],(t.drop (i+1)).take (i+1-(i+1)))):=by
    rw[Agt,Ya ac,hF.out,fD hf ac,zG,hc];rfl
   clear hF hc
   repeat' (first|refine Z1 ?_|(refine Z8 ?_;intro κ hκ)|(refine Z4 ?_;clear hκ κ)|(refine Z2 ?_ ?_<;>intro h ad<;>try exact Xp)|(refine Z6 ?_;intro idn qn ah ai af ab ae aa)|refine Z3 ?_|exact⟨⟩|(apply hκ.out;clear hκ κ))
   refine⟨t.length-(i+1),Agm,i+1,i+1,idn,d++[(t.drop f).take (i+1-f)],?_⟩
   ((repeat' with_reducible refine And.intro ?_ ?_)<;>first|exact Xq|exact (HF)|exact ((by simpa using ah))|exact Xs)
  ·have hb:((c.toNat:Int)==46)=false:=by rw[show (46:Int)=((46:UInt8).toNat:Int)from rfl,Zy];simpa using hc
   have HF:Agt ((t.take (i+1)).foldl oM ([],[])=(d,(t.drop f).take (i+1-f))):=by
    rw[Agt,Ya ac,hF.out,fD hf ac,oM,if_neg hc]
   clear hF hc
   repeat' (first|refine Z1 ?_|(refine Z8 ?_;intro κ hκ)|(refine Z4 ?_;clear hκ κ)|(refine Z2 ?_ ?_<;>intro h ad<;>try exact Xp)|(refine Z6 ?_;intro idn qn ah ai af ab ae aa)|refine Z3 ?_|exact⟨⟩|(apply hκ.out;clear hκ κ))
   refine⟨t.length-(i+1),Agm,i+1,f,id,d,?_⟩
   ((repeat' with_reducible refine And.intro ?_ ?_)<;>first|exact Xq|exact (HF)|exact Xs)
 ·have am:i=t.length:=Agm;subst am;have aj:=hF.out;rw[Adz,Aex (by simp)]at aj;by_cases an:f<t.length
  ·have HP:Agt (Gf t=d++[t.drop f]):=by
    rw[Agt,Gf,aj,if_neg (by intro e;have:=congrArg List.length e;simp at this;omega)]
   clear hF aj
   repeat' (first|refine Z1 ?_|(refine Z8 ?_;intro κ hκ)|(refine Z4 ?_;clear hκ κ)|(refine Z2 ?_ ?_<;>intro h ad<;>try exact Xp)|(refine Z6 ?_;intro idn qn ah ai af ab ae aa)|refine Z3 ?_|exact⟨⟩|(apply hκ.out;clear hκ κ))
   first|refine⟨_,rfl,⟨idn,?_⟩,ai⟩|refine⟨_,rfl,idn,?_⟩
   rw[HP.out];simp
   try rw[Aex (by simp)]
  ·have HP:Agt (Gf t=d):=by
    rw[Agt,Gf,aj,if_pos (by apply Adx;simp;omega)]
   clear hF aj
   repeat' (first|refine Z1 ?_|(refine Z8 ?_;intro κ hκ)|(refine Z4 ?_;clear hκ κ)|(refine Z2 ?_ ?_<;>intro h ad<;>try exact Xp)|(refine Z6 ?_;intro idn qn ah ai af ab ae aa)|refine Z3 ?_|exact⟨⟩|(apply hκ.out;clear hκ κ))
   first|exact⟨_,rfl,⟨id,by rw[HP.out]⟩,hK⟩|exact⟨_,rfl,id,by rw[HP.out]⟩
theorem pU:∀(n:Nat),∀b∈Lib.decDigits n,Az b.toNat=true:=by
 intro n;induction n using Nat.strongRecOn with
 |ind n ih=>
  intro b hb;have key:∀d:Nat,d<10->∀b:UInt8,b=UInt8.ofNat (48+d)->Az b.toNat=true:=fun d hd b e=>by
   rw[e,UInt8.toNat_ofNat_of_lt' (by show 48+d<256;omega)];simp[Az];omega
  rw[Lib.decDigits]at hb;split at hb
  ·rename_i h;exact key n h b (Aff.1 hb)
  ·rename_i h;rcases Aew.1 hb with hb|hb
   ·exact ih (n / 10) Agm b hb
   ·exact key (n % 10) Agm b (Aff.1 hb)
theorem eZ {c:UInt8}(h:Az c.toNat=true):A8 c.toNat=false:=by
 simp only[Az,A8,Adv,Agi,Bool.and_eq_false_iff,decide_eq_false_iff_not]at h⊢;omega
theorem UT.num {t:Tx}(h:UT t)(hv:Ad t=false){c:UInt8}(hc:c∈t):A8 c.toNat=false:=by
 rcases h.1 with h1|⟨-,h1,h2,-⟩
 ·rw[hv]at h1;cases h1
 ·rw[<-h1]at hc;unfold Lib.itoa at hc;rw[if_neg Agm]at hc;exact eZ (pU _ c hc)
theorem bA {w:Tx}(h:UT w)(q:St):ACalls Tryz.prog 149 [ag [sc (.bool (Am w).1),sc (.int .i64 (Am w).2)]] q fun r q'=>r=str w/\Keep q q':=by
 have:=bB (Am w) h.dec.2 q;rwa[h.dec.1]at this
theorem Yr (N:List Tx)(idn ids:Nat)(a:RAtom)(ha:a.pred∈N)(hN:N.length<=2000)(hn:a.terms.length<=1000)(hpl:a.pred.length<=1000)(hw:∀t∈a.terms,UT t)(q:St):
  ACalls Tryz.prog 265 [ag [sc (.int .i64 (N.idxOf a.pred:Nat)),sl ids a.terms.length (Ay a.terms)],sl idn N.length (N.map str)] q fun r q'=>r=sc (.int .i64 ((A4 a).length:Nat))/\Keep q q':=by
 have au:=Ek a.terms;have aj:=Afd ha;have an:(N.map str).drop (N.idxOf a.pred)=str a.pred::(N.map str).drop (N.idxOf a.pred+1):=by
  have:=En aj;rwa[Afc aj]at this
 generalize N.idxOf a.pred=ix at aj an;refine Z9 34 [.tmp 4] Tryz.func265 ?_
 repeat' (first|refine Z1 ?_|(refine Z8 ?_;intro κ hκ)|(refine Z4 ?_;clear hκ κ)|(refine Z2 ?_ ?_<;>intro h ab<;>try exact Xp)|refine Z3 ?_|exact⟨⟩|(apply hκ.out;clear hκ κ))
 refine Ag (fun m s q'=>∃(k n:Nat),m=a.terms.length-k/\k<=a.terms.length/\s 5=sc (.int .i64 n)/\s 16=sl ids a.terms.length (Ay a.terms)/\s 17=sc (.int .i64 a.terms.length)/\s 18=sc (.int .i64 k)/\Keep q q'/\n<=1002+k*1001/\Agt (n=a.pred.length+2+(A2 (a.terms.take k)).length)) a.terms.length
  ⟨0,a.pred.length+2,Agm,Agm,Ago,Ago,Ago,rfl,Xs,Agm,by simp[Agt,A2]⟩ ?_
 rintro m s q' ⟨k,n,rfl,hk,h5,ay,ax,aw,hK,av,hA⟩;have ao:=hK.nobj;by_cases af:k<a.terms.length
 ·have aa:=List.getElem?_eq_getElem af;have hu:=hw a.terms[k] (Afa af);obtain⟨r,hd⟩:=Fj aa;generalize a.terms[k]=w at aa hu hd;have ad:Agt (a.pred.length+2+(A2 (a.terms.take (k+1))).length=n+((if k=0 then 0 else 1)+w.length)):=by
   rw[Agt,Ad3,aa,Afe,Se,hA.out];have e:(a.terms.take k=[])↔k=0:=by
    rw[List.take_eq_nil_iff];constructor
    ·rintro (h|h)
     ·exact h
     ·rw[h]at af;cases af
    ·exact .inl
   by_cases h0:k=0
   ·rw[if_pos (e.2 h0),if_pos h0];simp;omega
   ·rw[if_neg (fun h=>h0 (e.1 h)),if_neg h0];simp;omega
  have hT:=fun q=>bA hu q;have ap:=hu.2.2.1;clear aa hA hu;by_cases ae:k=0
  ·have am:decide ((0:Int)<(k:Int))=false:=by simp[ae]
   have ad:Agt (n+w.length=a.pred.length+2+(A2 (a.terms.take (k+1))).length):=by rw[Agt,ad.out,if_pos ae];omega
   clear ae
   repeat' (first|refine Z1 ?_|(refine Z8 ?_;intro κ hκ)|(refine Z4 ?_;clear hκ κ)|(refine Z2 ?_ ?_<;>intro h ab<;>try exact Xp)|(refine Z5 ?_;refine Xi (hT _) ?_;rintro _ _ ⟨rfl,ac⟩;(have ah:=ac.obj;have ai:=ac.nobj))|refine Z3 ?_|exact⟨⟩|(apply hκ.out;clear hκ κ))
   refine⟨a.terms.length-(k+1),Agm,k+1,n+w.length,?_⟩
   ((repeat' with_reducible refine And.intro ?_ ?_)<;>first|exact Xq|exact (((hK.new _).put hK.nobj _).trans ac)|exact (ad)|exact Xs)
  ·have am:decide ((0:Int)<(k:Int))=true:=by simp;omega
   have ad:Agt (n+1+w.length=a.pred.length+2+(A2 (a.terms.take (k+1))).length):=by rw[Agt,ad.out,if_neg ae];omega
   clear ae
   repeat' (first|refine Z1 ?_|(refine Z8 ?_;intro κ hκ)|(refine Z4 ?_;clear hκ κ)|(refine Z2 ?_ ?_<;>intro h ab<;>try exact Xp)|(refine Z5 ?_;refine Xi (hT _) ?_;rintro _ _ ⟨rfl,ac⟩;(have ah:=ac.obj;have ai:=ac.nobj))|refine Z3 ?_|exact⟨⟩|(apply hκ.out;clear hκ κ))
   refine⟨a.terms.length-(k+1),Agm,k+1,n+1+w.length,?_⟩
   ((repeat' with_reducible refine And.intro ?_ ?_)<;>first|exact Xq|exact (((hK.new _).put hK.nobj _).trans ac)|exact (ad)|exact Xs)
 ·have ak:k=a.terms.length:=Agm;subst ak;have HA:Agt ((A4 a).length=n):=by
   rw[Agt,hA.out,Adz];simp[A4];omega
  clear hA
  repeat' (first|refine Z1 ?_|(refine Z8 ?_;intro κ hκ)|(refine Z4 ?_;clear hκ κ)|(refine Z2 ?_ ?_<;>intro h ab<;>try exact Xp)|refine Z3 ?_|exact⟨⟩|(apply hκ.out;clear hκ κ))
  first
  |exact⟨_,rfl,by rw[HA.out],hK⟩
  |exact⟨_,rfl,by rw[HA.out]⟩
structure Msr (N:List Tx)(x:RItem):Prop where
 out:x.out=true->x.body=[]
 body:x.body.length<=1000
 mem:x.head.pred∈N
 hpl:x.head.pred.length<=1000
 at_:∀a∈Ae x,a.terms.length<=3/\a.pred.length<=1000/\∀t∈a.terms,UT t
theorem gP {ts:List Tx}(h:ts.length<=3)(g:∀t∈ts,UT t):(A2 ts).length<=4000:=by
 have key:∀ts:List Tx,(∀t∈ts,UT t)->(A7 ts).length<=ts.length*1001:=by
  intro ts;induction ts with
  |nil=>intro _;simp[A7]
  |cons t ts ih=>
   intro h;have h1:=ih fun u hu=>h u (by simp[hu]);have h2:=(h t (by simp)).2.2.1;unfold A7 at*
   simp only[Ae5,Aee,Aen];omega
 cases ts with
 |nil=>simp[A2]
 |cons t ts=>
  have h1:=key ts fun u hu=>g u (by simp[hu]);have h2:=(g t (by simp)).2.2.1;simp only[Aen]at h;rw[A2,Aee];omega
theorem Ls {a:RAtom}(h:a.terms.length<=3/\a.pred.length<=1000/\∀t∈a.terms,UT t):(A4 a).length<=6000:=by
 have:=gP h.1 h.2.2;have:=h.2.1;simp[A4];omega
def Q5 (ls:List RAtom)(k:Nat):Nat:=if k=0 then 0 else 2+(A2 ((ls.take k).map Bb)).length
theorem pI {ls:List RAtom}{k:Nat}{a:RAtom}(h:ls[k]?=some a):Q5 ls (k+1)=Q5 ls k+(if k=0 then 1 else 0)+(if a.nt=true then 1 else 0)+(1+(A4 a).length):=by
 unfold Q5;rw[if_neg Agm,Ad3,h,Afe,Ad5,List.map_singleton,Se];have hk:=(List.getElem?_eq_some_iff.1 h).1;have aa:(Bb a).length=(if a.nt=true then 1 else 0)+(A4 a).length:=by unfold Bb;split<;>simp;omega
 by_cases h0:k=0
 ·subst h0;simp only[List.take_zero,Aea,if_true,Aeu,A2,Aem,aa];omega
 ·have e:(ls.take k).map Bb≠[]:=fun e=>by
   have:=congrArg List.length e;simp at this;rcases this with h|h
   ·exact h0 h
   ·rw[h]at hk;cases hk
  rw[if_neg h0,if_neg h0,if_neg e];simp only[Aee,Ae4,aa];omega
theorem pL (N:List Tx)(idn:Nat)(x:RItem)(c:List AV)(hc:PI N x c)(hN:N.length<=2000)(hm:Msr N x)(q:St):
  ACalls Tryz.prog 243 [ag c,sl idn N.length (N.map str)] q fun r q'=>r=sc (.int .i64 ((A0 x++[46]).length:Nat))/\Keep q q':=by
 obtain⟨ax,ih,id,b,hb,rfl⟩:=hc;have ba:=EL.length Dp hb;have bb:=hm.body;have a9:=hm.hpl;have an:=Afd ax;have az:(N.map str).drop (N.idxOf x.head.pred)=str x.head.pred::(N.map str).drop (N.idxOf x.head.pred+1):=by
  have:=En an;rwa[Afc an]at this
 cases hxo:x.out with
 |true=>
  have HL:Agt (((A0 x++[46]).length:Nat)=2+x.head.pred.length):=by
   rw[Agt,A0,if_pos hxo];simp;omega
  clear hm;generalize N.idxOf x.head.pred=ix at an az;refine Z9 48 [.tmp 4] Tryz.func243 ?_
  repeat' (first|refine Z1 ?_|(refine Z8 ?_;intro κ hκ)|(refine Z4 ?_;clear hκ κ)|(refine Z2 ?_ ?_<;>intro h ad<;>try exact Xp)|refine Z3 ?_|exact⟨⟩|(apply hκ.out;clear hκ κ))
  exact⟨_,rfl,by rw[HL.out];simp,Xs⟩
 |false=>
  have au:=hm.at_;have hh:=au x.head (Ak (.inl ⟨hxo,rfl⟩));have ao:=fun ids q=>Yr N idn ids x.head ax hN Agm hh.2.1 hh.2.2 q;have ap:=Ls hh;have HL:Agt ((A0 x++[46]).length=(A4 x.head).length+1+Q5 x.body x.body.length):=by
   rw[Agt,A0,if_neg (by simp[hxo]),Cv,Q5,Adz];by_cases he:x.body=[]
   ·simp[he]
   ·have a3:x.body.length≠0:=fun e=>he (Adx e);rw[if_neg he,if_neg a3];simp;omega
  have a6:∀a∈x.body,a.terms.length<=3/\a.pred.length<=1000/\∀t∈a.terms,UT t:=fun a ha=>au a (Ak (.inr ha));clear hm au hh;generalize N.idxOf x.head.pred=ix at an az ao;generalize (A4 x.head).length=hn at ao ap HL;refine Z9 48 [.tmp 4] Tryz.func243 ?_
  repeat' (first|refine Z1 ?_|(refine Z8 ?_;intro κ hκ)|(refine Z4 ?_;clear hκ κ)|(refine Z2 ?_ ?_<;>intro h ad<;>try exact Xp)|(refine Z5 ?_;refine Xi (ao _ _) ?_;rintro _ _ ⟨rfl,aw⟩;(have ak:=aw.nobj;have aj:=aw.obj;simp only[Aa]at ak aj))|refine Z3 ?_|exact⟨⟩|(apply hκ.out;clear hκ κ))
  rename_i q1
  refine Ag (fun m s q'=>∃(k n:Nat),m=x.body.length-k/\k<=x.body.length/\s 1=sl idn N.length (N.map str)/\s 5=sc (.int .i64 n)/\s 24=sl id x.body.length b/\s 25=sc (.int .i64 x.body.length)/\s 26=sc (.int .i64 k)/\Keep q q'/\n<=6001+k*7000/\Agt (n=hn+1+Q5 x.body k)) x.body.length
   ⟨0,hn+1,Agm,Agm,rfl,Ago,Ago,Ago,rfl,Xs,Agm,by simp[Agt,Q5]⟩ ?_
  clear ak aj aw ao;rintro m s q' ⟨k,n,rfl,hk,h1,h5,bf,be,bd,hK,a8,hA⟩;have a7:=hK.nobj;by_cases ay:k<x.body.length
  ·have af:=List.getElem?_eq_getElem ay;have am:=a6 x.body[k] (Afa ay);obtain⟨c0,r,⟨a0,ida,rfl⟩,hd⟩:=EL.get Dp hb af;generalize x.body[k]=a at af am hd a0;have ai:=fun ids q=>Yr N idn ids a a0 hN Agm am.2.1 am.2.2 q;have av:=Ls am;have ac:Agt (hn+1+Q5 x.body (k+1)=n+((if k=0 then 1 else 0)+(if a.nt=true then 1 else 0)+(1+(A4 a).length))):=by
    rw[Agt,pI af,hA.out];omega
   clear af hA am;generalize (A4 a).length=la at ai av ac;generalize N.idxOf a.pred=ia at ai hd;simp only[Aes,Aeu]at hd;by_cases ae:k=0
   ·have a5:((k:Int)==0)=true:=by simp[ae]
    cases hnt:a.nt with
    |true=>
     rw[hnt]at hd;have ac:Agt (n+(1+la)+1+1=hn+1+Q5 x.body (k+1)):=by rw[Agt,ac.out,if_pos ae,if_pos hnt];omega
     clear ae hnt
     repeat' (first|refine Z1 ?_|(refine Z8 ?_;intro κ hκ)|(refine Z4 ?_;clear hκ κ)|(refine Z2 ?_ ?_<;>intro h ad<;>try exact Xp)|(refine Z5 ?_;refine Xi (ai _ _) ?_;rintro _ _ ⟨rfl,ab⟩;(have ah:=ab.obj;have aa:=ab.nobj;simp only[Ab,Aa]at aa))|refine Z3 ?_|exact⟨⟩|(apply hκ.out;clear hκ κ))
     refine⟨x.body.length-(k+1),Agm,k+1,n+(1+la)+1+1,?_⟩
     ((repeat' with_reducible refine And.intro ?_ ?_)<;>first|exact Xq|exact (((hK.new _).put hK.nobj _).trans ab)|exact (ac)|exact Xs)
    |false=>
     rw[hnt]at hd;have ac:Agt (n+(1+la)+1=hn+1+Q5 x.body (k+1)):=by rw[Agt,ac.out,if_pos ae,if_neg (by simp[hnt])];omega
     clear ae hnt
     repeat' (first|refine Z1 ?_|(refine Z8 ?_;intro κ hκ)|(refine Z4 ?_;clear hκ κ)|(refine Z2 ?_ ?_<;>intro h ad<;>try exact Xp)|(refine Z5 ?_;refine Xi (ai _ _) ?_;rintro _ _ ⟨rfl,ab⟩;(have ah:=ab.obj;have aa:=ab.nobj;simp only[Ab,Aa]at aa))|refine Z3 ?_|exact⟨⟩|(apply hκ.out;clear hκ κ))
     refine⟨x.body.length-(k+1),Agm,k+1,n+(1+la)+1,?_⟩
     ((repeat' with_reducible refine And.intro ?_ ?_)<;>first|exact Xq|exact (((hK.new _).put hK.nobj _).trans ab)|exact (ac)|exact Xs)
   ·have a5:((k:Int)==0)=false:=by simp;omega
    cases hnt:a.nt with
    |true=>
     rw[hnt]at hd;have ac:Agt (n+(1+la)+1=hn+1+Q5 x.body (k+1)):=by rw[Agt,ac.out,if_neg ae,if_pos hnt];omega
     clear ae hnt
     repeat' (first|refine Z1 ?_|(refine Z8 ?_;intro κ hκ)|(refine Z4 ?_;clear hκ κ)|(refine Z2 ?_ ?_<;>intro h ad<;>try exact Xp)|(refine Z5 ?_;refine Xi (ai _ _) ?_;rintro _ _ ⟨rfl,ab⟩;(have ah:=ab.obj;have aa:=ab.nobj;simp only[Ab,Aa]at aa))|refine Z3 ?_|exact⟨⟩|(apply hκ.out;clear hκ κ))
     refine⟨x.body.length-(k+1),Agm,k+1,n+(1+la)+1,?_⟩
     ((repeat' with_reducible refine And.intro ?_ ?_)<;>first|exact Xq|exact (((hK.new _).put hK.nobj _).trans ab)|exact (ac)|exact Xs)
    |false=>
     rw[hnt]at hd;have ac:Agt (n+(1+la)=hn+1+Q5 x.body (k+1)):=by rw[Agt,ac.out,if_neg ae,if_neg (by simp[hnt])];omega
     clear ae hnt
     repeat' (first|refine Z1 ?_|(refine Z8 ?_;intro κ hκ)|(refine Z4 ?_;clear hκ κ)|(refine Z2 ?_ ?_<;>intro h ad<;>try exact Xp)|(refine Z5 ?_;refine Xi (ai _ _) ?_;rintro _ _ ⟨rfl,ab⟩;(have ah:=ab.obj;have aa:=ab.nobj;simp only[Ab,Aa]at aa))|refine Z3 ?_|exact⟨⟩|(apply hκ.out;clear hκ κ))
     refine⟨x.body.length-(k+1),Agm,k+1,n+(1+la),?_⟩
     ((repeat' with_reducible refine And.intro ?_ ?_)<;>first|exact Xq|exact (((hK.new _).put hK.nobj _).trans ab)|exact (ac)|exact Xs)
  ·have a4:k=x.body.length:=Agm;subst a4;have HA:Agt ((A0 x++[46]).length=n):=by rw[Agt,HL.out,hA.out]
   clear hA HL
   repeat' (first|refine Z1 ?_|(refine Z8 ?_;intro κ hκ)|(refine Z4 ?_;clear hκ κ)|(refine Z2 ?_ ?_<;>intro h ad<;>try exact Xp)|refine Z3 ?_|exact⟨⟩|(apply hκ.out;clear hκ κ))
   first
   |exact⟨_,rfl,by rw[HA.out],hK⟩
   |exact⟨_,rfl,by rw[HA.out]⟩
def Gy (l:List RItem):Bool:=decide (l.length<=16)&&(l.all (fun x=>decide (x.body.length<=5))&&decide ((Bj l).length<=600))
theorem nV {N:List Tx}{x:RItem}(h:Msr N x):(A0 x++[46]).length<=8000000:=by
 have h1:=h.hpl;cases hxo:x.out with
 |true=>rw[A0,if_pos hxo];simp;omega
 |false=>
  have hh:=Ls (h.at_ x.head (Ak (.inl ⟨hxo,rfl⟩)));have hl:∀ls:List RAtom,(∀a∈ls,a.terms.length<=3/\a.pred.length<=1000/\∀t∈a.terms,UT t)->(A7 (ls.map Bb)).length<=ls.length*6002:=by
   intro ls;induction ls with
   |nil=>intro _;simp[A7]
   |cons a ls ih=>
    intro g;have h1:=ih fun b hb=>g b (by simp[hb]);have h2:=Ls (g a (by simp));have h3:(Bb a).length<=6001:=by unfold Bb;split<;>simp<;>omega
    unfold A7 at*
    simp only[Ad9,Ae5,Aee,Aen];omega
  have hu:(A2 (x.body.map Bb)).length<=x.body.length*6002:=by
   have:=hl x.body fun a ha=>h.at_ a (Ak (.inr ha));cases hb:x.body with
   |nil=>simp[A2]
   |cons a ls=>
    rw[hb]at this;have e:A7 ((a::ls).map Bb)=44::A2 ((a::ls).map Bb):=by simp[A7,A2]
    rw[e]at this;simp only[Aen]at this⊢;omega
  have hb:=h.body;rw[A0,if_neg (by simp[hxo]),Cv];split<;>simp<;>omega
def PJ (N:List Tx)(x:RItem)(c:List AV):Prop:=(PI N x c/\Msr N x)\/(5<x.body.length/\x.body.length<=1000/\∃(o:Bool) (p:Int) (ih n1:Nat) (tc:List AV) (ib:Nat) (b:List AV),c=[sc (.bool o),sc (.int .i64 p),sl ih n1 tc,sl ib x.body.length b])
theorem wI {N:List Tx}(x:RItem)(c:List AV)(h:PJ N x c):c.length=4:=by
 rcases h with⟨h,-⟩|⟨-,-,_,_,_,_,_,_,_,rfl⟩
 ·exact D2 x c h
 ·rfl
theorem Ny {α:Type}{E E':α->List AV->Prop}:∀{l:List α} {cs:List AV},EL E l cs->(∀a∈l,∀c,E a c->E' a c)->EL E' l cs
 |[],_,h,_=>h
 |a::l,_,⟨c,d,h1,h2,e⟩,g=>⟨c,d,g a (by simp) c h1,Ny h2 (fun b hb=>g b (by simp[hb])),e⟩
theorem Vo (N:List Tx)(l:List RItem)(cs:List AV)(idn idi:Nat)(hE:EL (PJ N) l cs)(hN:N.length<=2000)(hl:l.length<=1000)(q:St):ACalls Tryz.prog 207 [B9 N idn l idi cs] q fun r q'=>r=sc (.bool (Gy l))/\Keep q q':=by
 have aw:=EL.length wI hE;by_cases ay:16<l.length
 ·have hb:decide ((16:Int)<(l.length:Int))=true:=by simp;omega
  have HL:Agt (Gy l=false):=by rw[Agt,Gy,decide_eq_false Agm];rfl
  refine Z9 30 [.tmp 2] Tryz.func207 ?_
  repeat' (first|refine Z1 ?_|(refine Z8 ?_;intro κ hκ)|(refine Z4 ?_;clear hκ κ)|(refine Z2 ?_ ?_<;>intro h ab<;>try exact Xp)|refine Z3 ?_|exact⟨⟩|(apply hκ.out;clear hκ κ))
  exact⟨_,rfl,by rw[HL.out],Xs⟩
 ·have hb:decide ((16:Int)<(l.length:Int))=false:=by simp;omega
  refine Z9 30 [.tmp 2] Tryz.func207 ?_
  repeat' (first|refine Z1 ?_|(refine Z8 ?_;intro κ hκ)|(refine Z4 ?_;clear hκ κ)|(refine Z2 ?_ ?_<;>intro h ab<;>try exact Xp)|refine Z3 ?_|exact⟨⟩|(apply hκ.out;clear hκ κ))
  refine Ag (fun m s q'=>∃(i n:Nat),m=l.length-i/\i<=l.length/\s 1=ptr q.nobj 0/\s 3=sc (.int .i64 n)/\s 11=sl idi l.length cs/\s 12=sc (.int .i64 l.length)/\s 13=sc (.int .i64 i)/\Keep q q'/\q.nobj<q'.nobj/\q'.obj q.nobj=[sl idn N.length (N.map str),sl idi l.length cs]/\n<=i*8000000/\Agt (n=(Bj (l.take i)).length/\∀x∈l.take i,x.body.length<=5)) l.length
   ⟨0,0,Agm,Agm,Ago,Ago,Ago,Ago,rfl,Xs,Agq,Ap,by simp,by simp[Agt,Bj]⟩ ?_
  rintro m s q' ⟨i,n,rfl,hi,h1,h3,a3,a0,az,hK,hno,ak,av,hA⟩;have au:=hK.nobj;by_cases am:i<l.length
  ·have aa:=List.getElem?_eq_getElem am;obtain⟨c,r,ac,hd⟩:=EL.get wI hE aa;generalize l[i]=x at hd aa ac;have ao:∃(o:Bool) (p:Int) (ih n1:Nat) (tc:List AV) (ib:Nat) (b:List AV),c=[sc (.bool o),sc (.int .i64 p),sl ih n1 tc,sl ib x.body.length b]:=by
    rcases ac with⟨⟨-,ih,id,b,-,rfl⟩,-⟩|⟨-,-,h⟩
    ·exact⟨_,_,_,_,_,_,_,rfl⟩
    ·exact h
   have ax:x.body.length<=1000:=by
    rcases ac with⟨-,h⟩|⟨-,h,-⟩
    ·exact h.body
    ·exact h
   obtain⟨xo,xp,ih,xn,xt,id,b,rfl⟩:=ao;simp only[Aes,Aeu]at hd;by_cases h5:5<x.body.length
   ·have ap:decide ((5:Int)<(x.body.length:Int))=true:=by simp;omega
    have HL:Agt (Gy l=false):=by
     have:l.all (fun x=>decide (x.body.length<=5))=false:=by
      rw[Aft];exact⟨x,Adt aa,by simp;omega⟩
     rw[Agt,Gy,this];simp
    clear aa hA ac
    repeat' (first|refine Z1 ?_|(refine Z8 ?_;intro κ hκ)|(refine Z4 ?_;clear hκ κ)|(refine Z2 ?_ ?_<;>intro h ab<;>try exact Xp)|refine Z3 ?_|exact⟨⟩|(apply hκ.out;clear hκ κ))
    exact⟨_,rfl,by rw[HL.out],Xs⟩
   ·obtain⟨ah,hw⟩:=ac.resolve_right (fun h=>h5 h.1);have ai:=fun q=>pL N idn x _ ah hN hw q;have aj:=nV hw;clear ac ah;have ap:decide ((5:Int)<(x.body.length:Int))=false:=by simp;omega
    have HA:Agt (n+(A0 x++[46]).length=(Bj (l.take (i+1))).length/\∀x∈l.take (i+1),x.body.length<=5):=by
     rw[Agt,Ad3,aa,Afe,hA.out.1];refine⟨by simp[Bj],fun y hy=>?_⟩;rcases Aew.1 hy with hy|hy
     ·exact hA.out.2 y hy
     ·simp at hy;subst hy;omega
    clear aa hA hw h5;generalize (A0 x++[46]).length=xl at ai aj HA
    repeat' (first|refine Z1 ?_|(refine Z8 ?_;intro κ hκ)|(refine Z4 ?_;clear hκ κ)|(refine Z2 ?_ ?_<;>intro h ab<;>try exact Xp)|(refine Z5 ?_;refine Xi (ai _) ?_;rintro _ _ ⟨rfl,af⟩;(have ae:=af.nobj;have ad:=af.obj;simp only[Ab,Aa]at ae ad))|refine Z3 ?_|exact⟨⟩|(apply hκ.out;clear hκ κ))
    refine⟨l.length-(i+1),Agm,i+1,n+xl,?_⟩
    ((repeat' with_reducible refine And.intro ?_ ?_)<;>first|exact Xq|exact (((hK.new _).put hK.nobj _).trans af)|exact (HA)|exact (by rw[ad _ Agm,Ai Agm,Af Agm,ak])|exact Xs)
  ·have an:i=l.length:=Agm;subst an;have HL:Agt (Gy l=decide ((n:Int)<=600)):=by
    have h:=hA.out;rw[Adz]at h;rw[Agt,Gy,decide_eq_true Agm,Ads.2 (fun x hx=>decide_eq_true (h.2 x hx)),<-h.1];simp only[Ae1];congr 1;apply propext;omega
   clear hA
   repeat' (first|refine Z1 ?_|(refine Z8 ?_;intro κ hκ)|(refine Z4 ?_;clear hκ κ)|(refine Z2 ?_ ?_<;>intro h ab<;>try exact Xp)|refine Z3 ?_|exact⟨⟩|(apply hκ.out;clear hκ κ))
   first
   |exact⟨_,rfl,by rw[HL.out],hK⟩
   |exact⟨_,rfl,by rw[HL.out]⟩
def B8 (N:List Tx)(l:List RItem)(k:Nat):Bool:=l.any fun x=>!x.out&&decide (N.idxOf x.head.pred=k)
theorem Pg {α:Type}{l:List α}{f:α->Bool}{i:Nat}{x:α}(h:(l.take i).any f=false)(hi:l[i]?=some x)(hx:f x=false):(l.take (i+1)).any f=false:=by
 rw[Ad3,hi,Afe,Afu,h];simp[hx]
theorem Z0 {α:Type}{l:List α}{f:α->Bool}{i:Nat}{x:α}(hi:l[i]?=some x)(hx:f x=true):l.any f=true:=Aeo.2 ⟨x,Adt hi,hx⟩
theorem K5 (N:List Tx)(l:List RItem)(cs:List AV)(idn idi k:Nat)(hE:EL (PI N) l cs)(hl:l.length<=1000)(q:St):ACalls Tryz.prog 134 [B9 N idn l idi cs,sc (.int .i64 k)] q fun r q'=>r=sc (.bool (B8 N l k))/\Keep q q':=by
 have aj:=EL.length D2 hE;refine Z9 25 [.tmp 4] Tryz.func134 ?_
 repeat' (first|refine Z1 ?_|(refine Z8 ?_;intro κ hκ)|(refine Z4 ?_;clear hκ κ)|(refine Z2 ?_ ?_<;>intro h ab<;>try exact Xp)|refine Z3 ?_|exact⟨⟩|(apply hκ.out;clear hκ κ))
 refine Ag (fun m s q'=>∃(i:Nat),m=l.length-i/\i<=l.length/\s 1=sc (.int .i64 k)/\s 8=sl idi l.length cs/\s 9=sc (.int .i64 l.length)/\s 10=sc (.int .i64 i)/\Keep q q'/\Agt (B8 N (l.take i) k=false)) l.length
  ⟨0,Agm,Agm,rfl,Ago,Ago,rfl,Xs,by simp[Agt,B8]⟩ ?_
 rintro m s q' ⟨i,rfl,hi,h1,h8,h9,ak,hK,hA⟩;have ai:=hK.nobj;by_cases ae:i<l.length
 ·have aa:=List.getElem?_eq_getElem ae;obtain⟨ad,ih,id,b,r,ah,hd⟩:=G8 hE aa;generalize l[i]=x at hd aa ad ah;cases hxo:x.out with
  |true=>
   rw[hxo]at hd;have HA:Agt (B8 N (l.take (i+1)) k=false):=Pg hA.out aa (by simp[hxo]);clear aa hA hxo
   repeat' (first|refine Z1 ?_|(refine Z8 ?_;intro κ hκ)|(refine Z4 ?_;clear hκ κ)|(refine Z2 ?_ ?_<;>intro h ab<;>try exact Xp)|refine Z3 ?_|exact⟨⟩|(apply hκ.out;clear hκ κ))
   refine⟨l.length-(i+1),Agm,i+1,?_⟩
   ((repeat' with_reducible refine And.intro ?_ ?_)<;>first|exact Xq|exact (HA)|exact Xs)
  |false=>
   rw[hxo]at hd;by_cases hk:N.idxOf x.head.pred=k
   ·have ac:(((N.idxOf x.head.pred:Nat):Int)==(k:Int))=true:=by simp[hk]
    have HA:Agt (B8 N l k=true):=Z0 aa (by simp[hxo,hk]);clear aa hA hxo hk;generalize N.idxOf x.head.pred=ix at hd ac
    repeat' (first|refine Z1 ?_|(refine Z8 ?_;intro κ hκ)|(refine Z4 ?_;clear hκ κ)|(refine Z2 ?_ ?_<;>intro h ab<;>try exact Xp)|refine Z3 ?_|exact⟨⟩|(apply hκ.out;clear hκ κ))
    exact⟨_,rfl,by rw[HA.out],Xs⟩
   ·have ac:(((N.idxOf x.head.pred:Nat):Int)==(k:Int))=false:=by simpa using (by omega:¬((N.idxOf x.head.pred:Nat):Int)=k)
    have HA:Agt (B8 N (l.take (i+1)) k=false):=Pg hA.out aa (by simp[hk]);clear aa hA hxo hk;generalize N.idxOf x.head.pred=ix at hd ac
    repeat' (first|refine Z1 ?_|(refine Z8 ?_;intro κ hκ)|(refine Z4 ?_;clear hκ κ)|(refine Z2 ?_ ?_<;>intro h ab<;>try exact Xp)|refine Z3 ?_|exact⟨⟩|(apply hκ.out;clear hκ κ))
    refine⟨l.length-(i+1),Agm,i+1,?_⟩
    ((repeat' with_reducible refine And.intro ?_ ?_)<;>first|exact Xq|exact (HA)|exact Xs)
 ·have af:i=l.length:=Agm;subst af;rw[Adz]at hA
  repeat' (first|refine Z1 ?_|(refine Z8 ?_;intro κ hκ)|(refine Z4 ?_;clear hκ κ)|(refine Z2 ?_ ?_<;>intro h ab<;>try exact Xp)|refine Z3 ?_|exact⟨⟩|(apply hκ.out;clear hκ κ))
  first
  |exact⟨_,rfl,by rw[hA.out],hK⟩
  |exact⟨_,rfl,by rw[hA.out]⟩
def E6 (N:List Tx)(l:List RItem)(k:Nat):Bool:=l.any fun x=>decide (N.idxOf x.head.pred=k)||x.body.any fun a=>decide (N.idxOf a.pred=k)
theorem dG (N:List Tx)(l:List RItem)(cs:List AV)(idn idi k:Nat)(hE:EL (PI N) l cs)(hl:l.length<=1000)(aw:∀x∈l,x.body.length<=1000)(q:St):ACalls Tryz.prog 244 [B9 N idn l idi cs,sc (.int .i64 k)] q fun r q'=>r=sc (.bool (E6 N l k))/\Keep q q':=by
 have a0:=EL.length D2 hE;refine Z9 35 [.tmp 4] Tryz.func244 ?_
 repeat' (first|refine Z1 ?_|(refine Z8 ?_;intro κ hκ)|(refine Z4 ?_;clear hκ κ)|(refine Z2 ?_ ?_<;>intro h ab<;>try exact Xp)|refine Z3 ?_|exact⟨⟩|(apply hκ.out;clear hκ κ))
 refine Ag (fun m s q'=>∃(i:Nat),m=l.length-i/\i<=l.length/\s 1=sc (.int .i64 k)/\s 10=sl idi l.length cs/\s 11=sc (.int .i64 l.length)/\s 12=sc (.int .i64 i)/\Keep q q'/\Agt (E6 N (l.take i) k=false)) l.length
  ⟨0,Agm,Agm,rfl,Ago,Ago,rfl,Xs,by simp[Agt,E6]⟩ ?_
 rintro m s q' ⟨i,rfl,hi,h1,ao,an,am,hK,hA⟩;have aj:=hK.nobj;by_cases ak:i<l.length
 ·have aa:=List.getElem?_eq_getElem ak;have ay:=aw l[i] (Afa ak);obtain⟨ap,ih,id,b,r,ai,hd⟩:=G8 hE aa;generalize l[i]=x at hd aa ap ai ay;have ax:=EL.length Dp ai;by_cases hk:N.idxOf x.head.pred=k
  ·have ah:(((N.idxOf x.head.pred:Nat):Int)==(k:Int))=true:=by simp[hk]
   have HA:Agt (E6 N l k=true):=Z0 aa (by simp[hk]);clear aa hA hk;generalize N.idxOf x.head.pred=ix at hd ah
   repeat' (first|refine Z1 ?_|(refine Z8 ?_;intro κ hκ)|(refine Z4 ?_;clear hκ κ)|(refine Z2 ?_ ?_<;>intro h ab<;>try exact Xp)|refine Z3 ?_|exact⟨⟩|(apply hκ.out;clear hκ κ))
   exact⟨_,rfl,by rw[HA.out],Xs⟩
  ·have ah:(((N.idxOf x.head.pred:Nat):Int)==(k:Int))=false:=by simpa using (by omega:¬((N.idxOf x.head.pred:Nat):Int)=k)
   have HG:Agt (l[i]?=some x/\¬N.idxOf x.head.pred=k):=⟨aa,hk⟩;clear aa hk;generalize N.idxOf x.head.pred=ix at hd ah
   repeat' (first|refine Z1 ?_|(refine Z8 ?_;intro κ hκ)|(refine Z4 ?_;clear hκ κ)|(refine Z2 ?_ ?_<;>intro h ab<;>try exact Xp)|refine Z3 ?_|exact⟨⟩|(apply hκ.out;clear hκ κ))
   refine Ag (fun m s q2=>∃(j:Nat),m=x.body.length-j/\j<=x.body.length/\s 1=sc (.int .i64 k)/\s 10=sl idi l.length cs/\s 11=sc (.int .i64 l.length)/\s 12=sc (.int .i64 i)/\s 22=sl id x.body.length b/\s 23=sc (.int .i64 x.body.length)/\s 24=sc (.int .i64 j)/\Keep q q2/\Agt ((x.body.take j).any (fun a=>decide (N.idxOf a.pred=k))=false)) x.body.length
    ⟨0,Agm,Agm,Agn,Agn,Agn,Agn,Ago,Ago,rfl,Xs,by simp[Agt]⟩ ?_
   clear h1 ao an am hK aj;rintro m s q2 ⟨j,rfl,hj,h1,ao,an,am,a5,a4,a3,hK,hJ⟩;have aj:=hK.nobj;by_cases ae:j<x.body.length
   ·have ac:=List.getElem?_eq_getElem ae;obtain⟨c0,rr,⟨az,ida,rfl⟩,ad⟩:=EL.get Dp ai ac;generalize x.body[j]=a at ac az ad;simp only[Aes,Aeu]at ad;by_cases hk:N.idxOf a.pred=k
    ·have af:(((N.idxOf a.pred:Nat):Int)==(k:Int))=true:=by simp[hk]
     have HA:Agt (E6 N l k=true):=Z0 HG.out.1 (by
      have:x.body.any (fun a=>decide (N.idxOf a.pred=k))=true:=Z0 ac (by simp[hk])
      simp only[this,Bool.or_true])
     clear ac hk hJ hA HG;generalize N.idxOf a.pred=ia at ad af
     repeat' (first|refine Z1 ?_|(refine Z8 ?_;intro κ hκ)|(refine Z4 ?_;clear hκ κ)|(refine Z2 ?_ ?_<;>intro h ab<;>try exact Xp)|refine Z3 ?_|exact⟨⟩|(apply hκ.out;clear hκ κ))
     exact⟨_,rfl,by rw[HA.out],Xs⟩
    ·have af:(((N.idxOf a.pred:Nat):Int)==(k:Int))=false:=by simpa using (by omega:¬((N.idxOf a.pred:Nat):Int)=k)
     have HJ:Agt ((x.body.take (j+1)).any (fun a=>decide (N.idxOf a.pred=k))=false):=Pg hJ.out ac (by simp[hk]);clear ac hk hJ;generalize N.idxOf a.pred=ia at ad af
     repeat' (first|refine Z1 ?_|(refine Z8 ?_;intro κ hκ)|(refine Z4 ?_;clear hκ κ)|(refine Z2 ?_ ?_<;>intro h ab<;>try exact Xp)|refine Z3 ?_|exact⟨⟩|(apply hκ.out;clear hκ κ))
     refine⟨x.body.length-(j+1),Agm,j+1,?_⟩
     ((repeat' with_reducible refine And.intro ?_ ?_)<;>first|exact Xq|exact (HJ)|exact Xs)
   ·have au:j=x.body.length:=Agm;subst au;rw[Adz]at hJ;have HA:Agt (E6 N (l.take (i+1)) k=false):=Pg hA.out HG.out.1 (by simp only[hJ.out,Bool.or_false];simpa using HG.out.2);clear hJ HG hA
    repeat' (first|refine Z1 ?_|(refine Z8 ?_;intro κ hκ)|(refine Z4 ?_;clear hκ κ)|(refine Z2 ?_ ?_<;>intro h ab<;>try exact Xp)|refine Z3 ?_|exact⟨⟩|(apply hκ.out;clear hκ κ))
    refine⟨l.length-(i+1),Agm,i+1,?_⟩
    ((repeat' with_reducible refine And.intro ?_ ?_)<;>first|exact Xq|exact (HA)|exact Xs)
 ·have av:i=l.length:=Agm;subst av;rw[Adz]at hA
  repeat' (first|refine Z1 ?_|(refine Z8 ?_;intro κ hκ)|(refine Z4 ?_;clear hκ κ)|(refine Z2 ?_ ?_<;>intro h ab<;>try exact Xp)|refine Z3 ?_|exact⟨⟩|(apply hκ.out;clear hκ κ))
  first
  |exact⟨_,rfl,by rw[hA.out],hK⟩
  |exact⟨_,rfl,by rw[hA.out]⟩
end Go.Proofs.YtmoeoppbmhfbpabGreatDoorG
