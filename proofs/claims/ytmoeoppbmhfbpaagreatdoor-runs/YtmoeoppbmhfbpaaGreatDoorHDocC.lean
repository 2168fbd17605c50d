import Derived.Test.YtmoeoppbmhfbpaaGreatDoorHDocA
set_option maxHeartbeats 32000000
set_option maxRecDepth 100000
set_option linter.all false
namespace Go.Proofs.YtmoeoppbmhfbpaaGreatDoorH
open Go.Abs
theorem L3 (a:RAtom)(ia:Nat)(v t:Tx)(hn:a.terms.length<=1000)(d:St):ACalls Tryz.prog 269 [ag [sc (.bool a.nt),str a.pred,sl ia a.terms.length (a.terms.map str)],str v,str t] d fun r d'=>∃i,r=ag [sc (.bool a.nt),str a.pred,sl i a.terms.length ((Gq v t a).terms.map str)]/\Keep d d':=
 (Yq a _ v t ⟨ia,rfl⟩ hn d).mono fun r d' ⟨c,h1,⟨i,h2⟩,h3⟩=>⟨i,by rw[h1,h2];simp[Gq],h3⟩
theorem nD (x:RItem)(c:List AV)(v t:Tx)(hc:EItem x c)(hx:x.fits)(d:St):ACalls Tryz.prog 259 [ag c,str v,str t] d fun r d'=>∃c',r=ag c'/\EItem (Gp v t x) c'/\Keep d d':=by
 obtain⟨ih,id,b,hb,rfl⟩:=hc.cells;have be:=EL.length Ba hb;have bf:=hx.1;have a4:=fun d=>L3 x.head ih v t hx.2.1 d;unfold Bo;refine Z9 36 [.cell 6 145] Tryz.func259 ?_
 repeat' (first|refine Z1 ?_|(refine Z8 ?_;intro ya J)|(refine Z4 ?_;clear J ya)|(refine Z2 ?_ ?_<;>intro h ai<;>try exact Xp)|(refine Z6 ?_;intro idn dn aj ak ad ab ac aa)|(refine Z5 ?_;refine Xi (a4 _) ?_;rintro _ _ ⟨ih2,rfl,am⟩;(have av:=am.nobj;have ae:=am.obj;simp only[Aa]at av ae))|refine Z3 ?_|exact Zt|(apply J.out;clear J ya))
 rename_i d1;have o0:d1.obj d.nobj=[sc (.bool x.out),sc (.bool x.head.nt),str x.head.pred,sl ih x.head.terms.length (x.head.terms.map str),sl id x.body.length b]:=by rw[ae _ Ad2,Ai Ad6,Am]
 have o1:d1.obj (d.nobj+1)=[sc (.bool false),sc (.bool false),str [],nilS,nilS]:=by rw[ae _ Ad2,Cd Ad6 Ad6]
 have bc:Keep d d1:=(((Keep.refl d).new _).new _).trans am;clear ae am
 refine Ab (fun m s d'=>∃(i i3:Nat) (xs:List AV),m=x.body.length-i/\i<=x.body.length/\s 1=str v/\s 2=str t/\s 3=ptr d.nobj 0/\s 6=ptr (d.nobj+1) 0/\s 7=ptr d1.nobj 0/\s 8=sc (.int .i64 i)/\Keep d d'/\d1.nobj<d'.nobj/\d'.obj d.nobj=[sc (.bool x.out),sc (.bool x.head.nt),str x.head.pred,sl ih x.head.terms.length (x.head.terms.map str),sl id x.body.length b]/\d'.obj (d.nobj+1)=[sc (.bool false),sc (.bool false),str [],nilS,nilS]/\d'.obj d1.nobj=[sc (.bool false),sc (.bool x.head.nt),str x.head.pred,sl ih2 x.head.terms.length ((Gq v t x.head).terms.map str),sl i3 i xs]/\Own d d' i3 i/\xs.length=i*3/\Ad8 (EL Be ((x.body.take i).map (Gq v t)) xs)) x.body.length
  ⟨0,1,[],Ad2,Ad2,by simp[upd,initS],by simp[upd,initS],Ad4,Ad4,Ad4,Ad4,Xs,Ad7,?_,?_,?_,Own.nil _ _,by simp,by simp[Ad8,EL]⟩ ?_
 ·rw[Al Ad2,Ai Ad2,o0]
 ·rw[Al Ad2,Ai Ad2,o1]
 ·rw[Ak]
 clear o0 o1 bc a4;rintro m s d' ⟨i,i3,xs,rfl,hi,h1,h2,h3,h6,h7,h8,hK,ay,ap,ao,an,hO,ax,hX⟩;have a6:=hK.nobj;by_cases a0:i<x.body.length
 ·have af:=Aav a0;obtain⟨ia,r,hd⟩:=B8 hb af;have az:=hx.2.2 _ (Ab1 a0);generalize x.body[i]=w at hd af az;have HG:Ad8 ((x.body.take (i+1)).map (Gq v t)=(x.body.take i).map (Gq v t)++[Gq v t w]):=by
   rw[Ad8,Aa8,af];simp
  clear af;have a9:=fun d=>L3 w ia v t az d;have bd:Ad8 _:=hX;have aw:Ad8 _:=ax
  repeat' (first|refine Z1 ?_|(refine Z8 ?_;intro ya J)|(refine Z4 ?_;clear J ya)|(refine Z2 ?_ ?_<;>intro h ai<;>try exact Xp)|(refine Z6 ?_;intro idn dn aj ak ad ab ac aa)|refine Z3 ?_|exact Zt|(apply J.out;clear J ya))
  refine A6 (Q:=fun e s' d''=>e= .normal/\s' 1=str v/\s' 2=str t/\s' 3=ptr d.nobj 0/\s' 6=ptr (d.nobj+1) 0/\s' 7=ptr d1.nobj 0/\s' 8=sc (.int .i64 i)/\Keep d d''/\d1.nobj<d''.nobj/\d''.obj d.nobj=[sc (.bool x.out),sc (.bool x.head.nt),str x.head.pred,sl ih x.head.terms.length (x.head.terms.map str),sl id x.body.length b]/\d''.obj (d.nobj+1)=[sc (.bool false),sc (.bool false),str [],nilS,nilS]/\∃idn c',d''.obj d1.nobj=[sc (.bool false),sc (.bool x.head.nt),str x.head.pred,sl ih2 x.head.terms.length ((Gq v t x.head).terms.map str),sl idn (i+1) (xs++c')]/\Own d d'' idn (i+1)/\Be (Gq v t w) c') ?_ ?_
  ·refine As Ad (fun _=>True) [13] [0,1,2,3,4,5,6,7,8] 5 #[true,true,true,true,true,true,true,true,true,false,false,false,false,false] Ad5 (fun _ _ _ h=>by cases h.1) ?_;intro ya J;refine Z3 ?_;refine J.out _ ?_;clear J ya;refine Ah (i:=9) Ad5 ?_;refine Ao ?_;intro ya J;refine Z3 ?_;refine ACalls.mono (a9 _) ?_;rintro _ d5 ⟨ij,rfl,ah⟩;refine Z3 ?_;refine J.out _ _ ⟨Ap ah,?_⟩;clear J ya;have a5:=ah.nobj;have au:=ah.obj;have bb:=hK.trans ah;have ba:=Own.keep hO ah;refine Ah (i:=10) Ad5 ?_;refine Ao ?_;intro ya J;refine Z3 ?_;refine J.out _ _ ⟨Ap (ah.lay 1),?_⟩;clear J ya;refine Ah (i:=11) Ad5 ?_;refine Ao ?_;intro ya J;refine Z3 ?_;refine C4 (by first|exact G8) bb ba (by decide) (by rfl) ax (by rfl) (by rfl) (by decide) Ad2 Ad2 ?_;intro idn dn aj ak ad ab ac aa;refine Z3 ?_;refine J.out _ _ ⟨fun _ o ho _=>by rw[ac];exact ah.ver o ho,?_⟩;clear J ya;refine Ah (i:=12) Ad5 ?_;refine Ao ?_;intro ya J;refine Z3 ?_;refine J.out _ _ ⟨fun _ o ho _=>by rw[ac];exact ah.ver o ho,?_⟩;clear J ya;have en:∀p,p<d'.nobj->dn.obj p=d'.obj p:=fun p hp=>by rw[ad,au _ Ad2]
   have en1:dn.obj d1.nobj=[sc (.bool false),sc (.bool x.head.nt),str x.head.pred,sl ih2 x.head.terms.length ((Gq v t x.head).terms.map str),sl i3 i xs]:=by rw[en _ ay,an]
   refine Ah (i:=13) Ad5 ?_;refine Ao ?_;intro ya J;refine Z3 ?_;refine J.out _ _ ⟨Bz rfl,?_⟩;clear J ya;refine B7 Ad5 ⟨rfl,?_⟩;simp only[upd,↓reduceIte,Nat.reduceEqDiff,h1,h2,h3,h6,h7,h8,Ad0];refine⟨ak.put Ad2 _,by simp only[Ac];omega,?_,?_,idn,_,?_,Own.put aj _ _,⟨ij,by simp[Gq];rfl⟩⟩
   ·rw[Al Ad2,en _ Ad2,ap]
   ·rw[Al Ad2,en _ Ad2,ao]
   ·rw[Ak];simp[Gq]
  ·clear hX hO ax ap ao an ay hK a6;rintro e s' d'' ⟨rfl,g1,g2,g3,g6,g7,g8,hK,ay,ap,ao,idn,c',an,hO,a3⟩;have HX:Ad8 (EL Be ((x.body.take (i+1)).map (Gq v t)) (xs++c')):=by rw[Ad8,HG.out];exact EL.append bd.out (EL.single a3)
   have a8:=Ba _ _ a3
   repeat' (first|refine Z1 ?_|(refine Z8 ?_;intro ya J)|(refine Z4 ?_;clear J ya)|(refine Z2 ?_ ?_<;>intro h ai<;>try exact Xp)|(refine Z6 ?_;intro idn dn aj ak ad ab ac aa)|refine Z3 ?_|exact Zt|(apply J.out;clear J ya))
   refine⟨x.body.length-(i+1),Ad2,i+1,idn,xs++c',?_⟩
   ((repeat' refine Zi ?_ ?_)<;>first|exact Xq|exact HX|exact (by rw[Abj,a8,aw.out];omega)|exact Xs)
 ·have a7:i=x.body.length:=Ad2;subst a7;rw[Aa3]at hX
  have HE:EItem (Gp v t x) [sc (.bool false),sc (.bool x.head.nt),str x.head.pred,sl ih2 x.head.terms.length ((Gq v t x.head).terms.map str),sl i3 x.body.length xs]:=
   ⟨[sc (.bool x.head.nt),str x.head.pred,sl ih2 x.head.terms.length ((Gq v t x.head).terms.map str)],i3,xs,⟨ih2,by simp[Gp,Gq]⟩,hX.out,by simp[Gp]⟩
  repeat' (first|refine Z1 ?_|(refine Z8 ?_;intro ya J)|(refine Z4 ?_;clear J ya)|(refine Z2 ?_ ?_<;>intro h ai<;>try exact Xp)|(refine Z6 ?_;intro idn dn aj ak ad ab ac aa)|refine Z3 ?_|exact Zt|(apply J.out;clear J ya))
  exact⟨_,rfl,_,rfl,HE,hK.put Ad2 _⟩
theorem nK {v t:Tx}{x:RItem}(h:x.fits):(Gp v t x).fits:=
 ⟨by simp only[Gp,Ace];exact h.1,by simp only[Gp,Gq,Ace];exact h.2.1,fun a ha=>by
  obtain⟨b,hb,rfl⟩:=Acf.1 ha
  simp only[Gq,Ace];exact h.2.2 b hb⟩
theorem oS {j k:Nat}{ts:List Tx}{a u:Tx}{y:RItem}{b:RAtom}(ha:ts[k]?=some a)(hb:y.body[j]?=some b)(hu:b.terms[k]?=some u):J5 j (ts.drop k) k y=if u=a then J5 j (ts.drop (k+1)) (k+1) y else if Ag u=true then J5 j (ts.drop (k+1)) (k+1) (Gp u a y)else none:=by
 have hl:=(Aau.1 ha).1;have he:=(Aau.1 ha).2;rw[Abx hl,he,J5,hb];simp only[Abo,hu]
def tQ (x:RItem)(j:Nat)(t:RAtom)(y:RItem)(ok:Bool):Prop:=y.fits/\((ok=true/\Iw x j t=some y)\/(ok=false/\Iw x j t=none))
theorem Yo (x:RItem)(c:List AV)(j:Nat)(t:RAtom)(ct:List AV)(b0:RAtom)(hc:EItem x c)(ht:Be t ct)(hx:x.fits)(ab:x.body[j]?=some b0)(bp:t.terms.length<=1000)(d:St):ACalls Tryz.prog 257 [ag c,sc (.int .i64 j),ag ct] d fun r d'=>∃y cy ok,r=tp [ag cy,sc (.bool ok)]/\EItem y cy/\tQ x j t y ok/\Keep d d':=by
 have ah:=hc;obtain⟨ih,id,b,hb,rfl⟩:=hc.cells;obtain⟨it,rfl⟩:=ht;have ba:=EL.length Ba hb;have bb:=hx.1;obtain⟨ia,r,hd⟩:=B8 hb ab;have a7:=(Aau.1 ab).1;unfold Bo;unfold Bo at ah;by_cases hq:t.nt=b0.nt/\t.pred=b0.pred/\t.terms.length=b0.terms.length
 ·obtain⟨q1,q2,q3⟩:=hq;have ai:Ad8 (Iw x j t=J5 j (t.terms.drop 0) 0 x):=by
   unfold Iw;rw[Ad8,ab];simp only;rw[if_pos ⟨q1,q2,q3⟩,List.drop_zero]
  have ay:(t.nt==b0.nt)=true:=by simp[q1]
  have ax:(t.pred==b0.pred)=true:=by simp[q2]
  have a8:((t.terms.length:Int) !=(b0.terms.length:Int))=false:=by simp[q3]
  have bc:Ad8 (∃b',x.body[j]?=some b'/\b'.terms.length=t.terms.length):=⟨b0,ab,q3.symm⟩;clear q1 q2 q3 ab;refine Z9 74 [.cell 6 145,.tmp 7] Tryz.func257 ?_
  repeat' (first|refine Z1 ?_|(refine Z8 ?_;intro ya J)|(refine Z4 ?_;clear J ya)|(refine Z2 ?_ ?_<;>intro h aa<;>try exact Xp)|refine Z3 ?_|exact Zt|(apply J.out;clear J ya))
  refine Ab (fun m s d'=>∃(k:Nat) (y:RItem) (iy jy:Nat) (by':List AV),m=t.terms.length-k/\k<=t.terms.length/\s 1=sc (.int .i64 j)/\s 3=ptr d.nobj 0/\s 5=ptr (d.nobj+1) 0/\s 6=ptr (d.nobj+2) 0/\s 9=sc (.int .i64 k)/\Keep d d'/\d.nobj+3<d'.nobj/\d'.obj d.nobj=[sc (.bool y.out),sc (.bool y.head.nt),str y.head.pred,sl iy y.head.terms.length (y.head.terms.map str),sl jy y.body.length by']/\d'.obj (d.nobj+1)=[sc (.bool t.nt),str t.pred,sl it t.terms.length (t.terms.map str)]/\d'.obj (d.nobj+2)=[sc (.bool false),sc (.bool false),str [],nilS,nilS]/\Ad8 (EL Be y.body by'/\y.fits/\(∃b',y.body[j]?=some b'/\b'.terms.length=t.terms.length)/\Iw x j t=J5 j (t.terms.drop k) k y)) t.terms.length
   ⟨0,x,ih,id,b,Ad2,Ad2,by simp[upd,initS],Ad4,Ad4,Ad4,Ad4,Xs,Ad7,?_,?_,?_,hb,hx,bc.out,ai.out⟩ ?_
  ·rw[Al Ad2,Ai Ad6,Ai Ad6,Ai Ad6,Am]
  ·rw[Al Ad2,Ai Ad6,Ai Ad6,Cd Ad6 Ad6]
  ·rw[Al Ad2,Ai Ad6,Cd Ad6 Ad6]
  clear ay ax a8 hd hb ba bb a7 ah bc;rintro m s d' ⟨k,y,iy,jy,by',rfl,hk,h1,h3,h5,h6,h9,hK,a5,ap,ao,an,hH⟩;have be:=hK.nobj;by_cases a6:k<t.terms.length
  ·obtain⟨hy,aj,⟨b',af,a9⟩,ae⟩:=hH.out;have ba:=EL.length Ba hy;have bb:=aj.1;have a7:=(Aau.1 af).1;obtain⟨ia,r,hd⟩:=B8 hy af;have av:b'.terms[k]?=some (b'.terms[k]'Ad2):=Aav Ad2;have bg:=Bc (l:=b'.terms) (k:=k) Ad2;generalize b'.terms[k]'Ad2=u at av bg;have aw:=Aav a6;have bh:=Bc a6;generalize t.terms[k]=a at aw bh;have a0:Ad8 _:=oS aw af av;have bn:Ad8 (∃b',y.body[j]?=some b'/\b'.terms.length=t.terms.length):=⟨b',af,a9⟩;have bm:Ad8 (∃b',(Gp u a y).body[j]?=some b'/\b'.terms.length=t.terms.length):=⟨Gq u a b',by simp[Gp,af],by simp[Gq,a9]⟩;have a3:Ad8 _:=ae;have bj:(k:Int)<(b'.terms.length:Int):=Ad2;have HY:Ad8 _:=hy;have am:Ad8 _:=aj;have a4:EItem y [sc (.bool y.out),sc (.bool y.head.nt),str y.head.pred,sl iy y.head.terms.length (y.head.terms.map str),sl jy y.body.length by']:=⟨[sc (.bool y.head.nt),str y.head.pred,sl iy y.head.terms.length (y.head.terms.map str)],jy,by',⟨iy,rfl⟩,hy,rfl⟩;clear aw av af ae hy hH;have hV:=fun d=>Dt u d;by_cases ac:u=a
   ·have au:(u==a)=true:=by simp[ac]
    have HN:Ad8 (EL Be y.body by'/\y.fits/\(∃b',y.body[j]?=some b'/\b'.terms.length=t.terms.length)/\Iw x j t=J5 j (t.terms.drop (k+1)) (k+1) y):=⟨HY.out,am.out,bn.out,by rw[a3.out,a0.out,if_pos ac]⟩;clear ac
    repeat' (first|refine Z1 ?_|(refine Z8 ?_;intro ya J)|(refine Z4 ?_;clear J ya)|(refine Z2 ?_ ?_<;>intro h aa<;>try exact Xp)|refine Z3 ?_|exact Zt|(apply J.out;clear J ya))
    refine⟨t.terms.length-(k+1),Ad2,k+1,y,iy,jy,by',?_⟩
    ((repeat' refine Zi ?_ ?_)<;>first|exact Xq|exact HN|exact Xs)
   ·have au:(u==a)=false:=by simpa using ac
    cases hv:Ag u with
    |false=>
     rw[hv]at hV;have HN:Ad8 (tQ x j t y false):=⟨am.out,.inr ⟨rfl,by rw[a3.out,a0.out,if_neg ac,if_neg (by simp[hv])]⟩⟩;clear ac
     repeat' (first|refine Z1 ?_|(refine Z8 ?_;intro ya J)|(refine Z4 ?_;clear J ya)|(refine Z2 ?_ ?_<;>intro h aa<;>try exact Xp)|(refine Z5 ?_;refine Xi (hV _) ?_;rintro _ _ ⟨rfl,rfl⟩)|refine Z3 ?_|exact Zt|(apply J.out;clear J ya))
     exact⟨_,rfl,y,_,false,rfl,a4,HN.out,hK.put Ad2 _⟩
    |true=>
     rw[hv]at hV;have HN:Ad8 (Iw x j t=J5 j (t.terms.drop (k+1)) (k+1) (Gp u a y)):=by rw[Ad8,a3.out,a0.out,if_neg ac,if_pos hv]
     clear ac;have bk:=fun d=>nD y _ u a a4 am.out d
     repeat' (first|refine Z1 ?_|(refine Z8 ?_;intro ya J)|(refine Z4 ?_;clear J ya)|(refine Z2 ?_ ?_<;>intro h aa<;>try exact Xp)|(refine Z5 ?_;refine Xi (hV _) ?_;rintro _ _ ⟨rfl,rfl⟩)|refine Z3 ?_|exact Zt|(apply J.out;clear J ya))
     refine A6 (Q:=fun e s' d''=>e= .normal/\s' 1=sc (.int .i64 j)/\s' 3=ptr d.nobj 0/\s' 5=ptr (d.nobj+1) 0/\s' 6=ptr (d.nobj+2) 0/\s' 9=sc (.int .i64 k)/\Keep d d''/\d.nobj+3<d''.nobj/\d''.obj (d.nobj+1)=[sc (.bool t.nt),str t.pred,sl it t.terms.length (t.terms.map str)]/\d''.obj (d.nobj+2)=[sc (.bool false),sc (.bool false),str [],nilS,nilS]/\∃iz jz bz,d''.obj d.nobj=[sc (.bool (Gp u a y).out),sc (.bool (Gp u a y).head.nt),str (Gp u a y).head.pred,sl iz (Gp u a y).head.terms.length ((Gp u a y).head.terms.map str),sl jz (Gp u a y).body.length bz]/\EL Be (Gp u a y).body bz) ?_ ?_
     ·refine As Ad (fun _=>True) [8] [0,1,2,3,4,5,6] 2 #[true,true,true,true,true,true,true,false,false] Ad5 (fun _ _ _ h=>by cases h.1) ?_;intro ya J;refine Z3 ?_;refine J.out _ ?_;clear J ya;refine Ah (i:=7) Ad5 ?_;refine Ao ?_;intro ya J;refine Z3 ?_;refine ACalls.mono (bk _) ?_;rintro _ d5 ⟨c5,rfl,bi,ak⟩;obtain⟨iz,jz,bz,az,rfl⟩:=bi.cells;unfold Bo;refine Z3 ?_;refine J.out _ _ ⟨Ap ak,?_⟩;clear J ya;have bd:=ak.nobj;have ad:=ak.obj;have bo:d5.obj d.nobj=[sc (.bool y.out),sc (.bool y.head.nt),str y.head.pred,sl iy y.head.terms.length (y.head.terms.map str),sl jy y.body.length by']:=by rw[ad _ Ad2,ap]
      refine Ah (i:=8) Ad5 ?_;refine Ao ?_;intro ya J;refine Z3 ?_;refine J.out _ _ ⟨Bz rfl,?_⟩;clear J ya;refine B7 Ad5 ⟨rfl,?_⟩;simp only[upd,↓reduceIte,Nat.reduceEqDiff,h1,h3,h5,h6,h9,Ad0];refine⟨(hK.trans ak).put Ad2 _,by simp only[Ac];omega,?_,?_,iz,jz,bz,?_,az⟩
      ·rw[Li (show d.nobj<d.nobj+1 by omega),ad _ Ad2,ao]
      ·rw[Li (show d.nobj<d.nobj+2 by omega),ad _ Ad2,an]
      ·rw[Ak]
     ·clear hK a5 ap ao an be;rintro e s' d'' ⟨rfl,g1,g3,g5,g6,g9,hK,a5,ao,an,iz,jz,bz,ap,az⟩;have bl:Ad8 (EL Be (Gp u a y).body bz/\(Gp u a y).fits/\(∃b',(Gp u a y).body[j]?=some b'/\b'.terms.length=t.terms.length)/\Iw x j t=J5 j (t.terms.drop (k+1)) (k+1) (Gp u a y)):=⟨az,nK am.out,bm.out,HN.out⟩
      repeat' (first|refine Z1 ?_|(refine Z8 ?_;intro ya J)|(refine Z4 ?_;clear J ya)|(refine Z2 ?_ ?_<;>intro h aa<;>try exact Xp)|refine Z3 ?_|exact Zt|(apply J.out;clear J ya))
      refine⟨t.terms.length-(k+1),Ad2,k+1,Gp u a y,iz,jz,bz,?_⟩
      ((repeat' refine Zi ?_ ?_)<;>first|exact Xq|exact bl|exact Xs)
  ·have bf:k=t.terms.length:=Ad2;subst bf;obtain⟨hy,aj,-,ae⟩:=hH.out;have HE:EItem y [sc (.bool y.out),sc (.bool y.head.nt),str y.head.pred,sl iy y.head.terms.length (y.head.terms.map str),sl jy y.body.length by']:=⟨[sc (.bool y.head.nt),str y.head.pred,sl iy y.head.terms.length (y.head.terms.map str)],jy,by',⟨iy,rfl⟩,hy,rfl⟩;rw[Aby,J5]at ae;have HR:Ad8 (tQ x j t y true):=⟨aj,.inl ⟨rfl,ae⟩⟩;clear ae hH
   repeat' (first|refine Z1 ?_|(refine Z8 ?_;intro ya J)|(refine Z4 ?_;clear J ya)|(refine Z2 ?_ ?_<;>intro h aa<;>try exact Xp)|refine Z3 ?_|exact Zt|(apply J.out;clear J ya))
   exact⟨_,rfl,y,_,true,rfl,HE,HR.out,hK.put Ad2 _⟩
 ·have ai:Ad8 (tQ x j t x false):=⟨hx,.inr ⟨rfl,by unfold Iw;rw[ab];simp only;rw[if_neg hq]⟩⟩;by_cases q1:t.nt=b0.nt
  ·have ay:(t.nt==b0.nt)=true:=by simp[q1]
   by_cases q2:t.pred=b0.pred
   ·have ax:(t.pred==b0.pred)=true:=by simp[q2]
    have a8:((t.terms.length:Int) !=(b0.terms.length:Int))=true:=by
     simp only[bne_iff_ne,ne_eq];intro h;exact hq ⟨q1,q2,Ad2⟩
    clear hq q1 q2 ab;refine Z9 74 [.cell 6 145,.tmp 7] Tryz.func257 ?_
    repeat' (first|refine Z1 ?_|(refine Z8 ?_;intro ya J)|(refine Z4 ?_;clear J ya)|(refine Z2 ?_ ?_<;>intro h aa<;>try exact Xp)|refine Z3 ?_|exact Zt|(apply J.out;clear J ya))
    exact⟨_,rfl,x,_,false,rfl,ah,ai.out,Xs⟩
   ·have ax:(t.pred==b0.pred)=false:=by simpa using q2
    clear hq q1 q2 ab;refine Z9 74 [.cell 6 145,.tmp 7] Tryz.func257 ?_
    repeat' (first|refine Z1 ?_|(refine Z8 ?_;intro ya J)|(refine Z4 ?_;clear J ya)|(refine Z2 ?_ ?_<;>intro h aa<;>try exact Xp)|refine Z3 ?_|exact Zt|(apply J.out;clear J ya))
    exact⟨_,rfl,x,_,false,rfl,ah,ai.out,Xs⟩
  ·have ay:(t.nt==b0.nt)=false:=by simpa using q1
   clear hq q1 ab;refine Z9 74 [.cell 6 145,.tmp 7] Tryz.func257 ?_
   repeat' (first|refine Z1 ?_|(refine Z8 ?_;intro ya J)|(refine Z4 ?_;clear J ya)|(refine Z2 ?_ ?_<;>intro h aa<;>try exact Xp)|refine Z3 ?_|exact Zt|(apply J.out;clear J ya))
   exact⟨_,rfl,x,_,false,rfl,ah,ai.out,Xs⟩
def tG (fz:Bool)(x:RItem)(n:Int):Prop:=(n= -1/\∀a∈x.body,He fz a=false)\/∃(j:Nat) (b:RAtom),n=j/\x.body[j]?=some b/\He fz b=true
def NextI (fz:Bool)(x:RItem)(i:Nat)(n:Int):Prop:=(n= -1/\∀a∈x.body.take i,He fz a=false)\/∃(j:Nat) (b:RAtom),n=j/\j<i/\x.body[j]?=some b/\He fz b=true
theorem NextI.skip {fz:Bool}{x:RItem}{i:Nat}{n:Int}{w:RAtom}(h:NextI fz x i n)(hw:x.body[i]?=some w)(hp:He fz w=false):NextI fz x (i+1) n:=by
 rcases h with⟨h1,h2⟩|⟨j,b,h1,h2,h3,h4⟩
 ·refine .inl ⟨h1,fun a ha=>?_⟩;rw[Aa8,hw]at ha;rcases Ab2.1 ha with h'|h'
  ·exact h2 a h'
  ·simp at h';subst h';exact hp
 ·exact .inr ⟨j,b,h1,Ad2,h3,h4⟩
theorem gJ (x:RItem)(c:List AV)(fz:Bool)(hc:EItem x c)(hx:x.fits)(d:St):ACalls Tryz.prog 255 [ag c,sc (.bool fz)] d fun r d'=>∃n,r=sc (.int .i64 n)/\tG fz x n/\Keep d d':=by
 obtain⟨ih,id,b,hb,rfl⟩:=hc.cells;have bc:=EL.length Ba hb;have bd:=hx.1;unfold Bo;refine Z9 43 [.tmp 4] Tryz.func255 ?_
 repeat' (first|refine Z1 ?_|(refine Z8 ?_;intro ya J)|(refine Z4 ?_;clear J ya)|(refine Z2 ?_ ?_<;>intro h aa<;>try exact Xp)|refine Z7 ?_|exact Zt|(apply J.out;clear J ya))
 refine Ab (fun m s d'=>∃(i:Nat) (n:Int),m=x.body.length-i/\i<=x.body.length/\s 1=sc (.bool fz)/\s 2=ptr d.nobj 0/\s 5=sc (.int .i64 n)/\s 6=sc (.int .i64 i)/\Keep d d'/\d.nobj<d'.nobj/\d'.obj d.nobj=[sc (.bool x.out),sc (.bool x.head.nt),str x.head.pred,sl ih x.head.terms.length (x.head.terms.map str),sl id x.body.length b]/\Ad8 (NextI fz x i n)) x.body.length
  ⟨0,-1,Ad2,Ad2,by simp[upd,initS],Ad4,Ad4,Ad4,Xs,Ad6,Am,.inl ⟨rfl,fun a ha=>by simp at ha⟩⟩ ?_
 rintro m s d' ⟨i,n,rfl,hi,h1,h2,h5,h6,hK,av,ao,hN⟩;have a9:=hK.nobj;by_cases aw:i<x.body.length
 ·have ac:=Aav aw;obtain⟨ia,r,hd⟩:=B8 hb ac;have ap:=hx.2.2 _ (Ab1 aw);generalize x.body[i]=w at hd ac ap;cases hp:He fz w with
  |false=>
   have HN:Ad8 (NextI fz x (i+1) n):=hN.out.skip ac hp;have hnt:w.nt=true:=by unfold He at hp;simp at hp;exact hp.2
   have ah:fz=false:=by unfold He at hp;simp at hp;exact hp.1
   subst ah;clear ac hp
   repeat' (first|refine Z1 ?_|(refine Z8 ?_;intro ya J)|(refine Z4 ?_;clear J ya)|(refine Z2 ?_ ?_<;>intro h aa<;>try exact Xp)|refine Z7 ?_|exact Zt|(apply J.out;clear J ya))
   refine⟨x.body.length-(i+1),Ad2,i+1,n,?_⟩
   ((repeat' refine Zi ?_ ?_)<;>first|exact Xq|exact HN|exact Xs)
  |true=>
   have HN:Ad8 (NextI fz x (i+1) (i:Nat)):=.inr ⟨i,w,rfl,Ad2,ac,hp⟩;have au:w.nt=false\/(w.nt=true/\fz=true):=by
    unfold He at hp;cases hw:w.nt with
    |false=>exact .inl rfl
    |true=>rw[hw]at hp;simp at hp;exact .inr ⟨rfl,hp⟩
   clear hp;have ay:Ad8 (NextI fz x (i+1) n\/n= -1):=by
    rcases hN.out with⟨h1,h2⟩|⟨j,b,h1,h2,h3,h4⟩
    ·exact .inr h1
    ·exact .inl (.inr ⟨j,b,h1,Ad2,h3,h4⟩)
   have aj:=fun d=>Ko w _ ⟨ia,rfl⟩ ap d;have a4:=Wv w;generalize Ip w=lw at aj a4;clear ac;have ai:n= -1\/∃(j:Nat) (b':RAtom),n=j/\x.body[j]?=some b':=by
    rcases hN.out with⟨h1,h2⟩|⟨j,b,h1,h2,h3,h4⟩
    ·exact .inl h1
    ·exact .inr ⟨j,b,h1,h3⟩
   rcases ai with a3|⟨j,b',a0,ak⟩
   ·subst a3;have a7:decide ((-1:Int)<0)=true:=by decide
    rcases au with hnt|⟨hnt,ah⟩
    ·
     repeat' (first|refine Z1 ?_|(refine Z8 ?_;intro ya J)|(refine Z4 ?_;clear J ya)|(refine Z2 ?_ ?_<;>intro h aa<;>try exact Xp)|refine Z7 ?_|exact Zt|(apply J.out;clear J ya))
     refine A6 (Q:=fun e s' d''=>e= .normal/\s' 40=sc (.bool true)/\s' 1=s 1/\s' 2=s 2/\s' 5=s 5/\s' 6=s 6/\d''=d') ?_ ?_
     ·refine As Ad (fun _=>True) [] [0,1,2,3,4,5,6,7,9,10,11,12,13] 4 #[true,true,true,true,true,true,true,true,false,true,true,true,true,true,false,false,false] Ad5 (fun _ _ _ h=>by cases h.1) ?_;intro ya J;refine Z7 ?_;refine J.out _ ?_;clear J ya;refine Ah (i:=8) Ad5 ?_;refine Ao ?_;intro ya J;refine Z7 ?_;refine J.out _ _ ⟨kept_refl,?_⟩;clear J ya;refine Ah (i:=14) Ad5 ?_;refine Ao ?_;intro ya J;refine Z7 ?_;refine J.out _ _ ⟨kept_refl,?_⟩;clear J ya;refine Bs [15,16] Ad5 Ad5 (fun _ _ _ h=>by cases h.1) (Aak _) (fun o ho _=>rfl) ?_;intro ya J;refine Z7 ?_;refine J.out _ _ ⟨rfl,?_⟩;simp[upd]
     ·rintro e s' d'' ⟨rfl,g40,g1,g2,g5,g6,rfl⟩;rw[h1]at g1;rw[h2]at g2;rw[h5]at g5;rw[h6]at g6;refine Br g40 ?_
      repeat' (first|refine Z1 ?_|(refine Z8 ?_;intro ya J)|(refine Z4 ?_;clear J ya)|(refine Z2 ?_ ?_<;>intro h aa<;>try exact Xp)|refine Z7 ?_|exact Zt|(apply J.out;clear J ya))
      refine⟨x.body.length-(i+1),Ad2,i+1,(i:Nat),?_⟩
      ((repeat' refine Zi ?_ ?_)<;>first|exact Xq|exact HN|exact Xs)
    ·subst ah
     repeat' (first|refine Z1 ?_|(refine Z8 ?_;intro ya J)|(refine Z4 ?_;clear J ya)|(refine Z2 ?_ ?_<;>intro h aa<;>try exact Xp)|refine Z7 ?_|exact Zt|(apply J.out;clear J ya))
     refine A6 (Q:=fun e s' d''=>e= .normal/\s' 40=sc (.bool true)/\s' 1=s 1/\s' 2=s 2/\s' 5=s 5/\s' 6=s 6/\d''=d') ?_ ?_
     ·refine As Ad (fun _=>True) [] [0,1,2,3,4,5,6,7,9,10,11,12,13] 4 #[true,true,true,true,true,true,true,true,false,true,true,true,true,true,false,false,false] Ad5 (fun _ _ _ h=>by cases h.1) ?_;intro ya J;refine Z7 ?_;refine J.out _ ?_;clear J ya;refine Ah (i:=8) Ad5 ?_;refine Ao ?_;intro ya J;refine Z7 ?_;refine J.out _ _ ⟨kept_refl,?_⟩;clear J ya;refine Ah (i:=14) Ad5 ?_;refine Ao ?_;intro ya J;refine Z7 ?_;refine J.out _ _ ⟨kept_refl,?_⟩;clear J ya;refine Bs [15,16] Ad5 Ad5 (fun _ _ _ h=>by cases h.1) (Aak _) (fun o ho _=>rfl) ?_;intro ya J;refine Z7 ?_;refine J.out _ _ ⟨rfl,?_⟩;simp[upd]
     ·rintro e s' d'' ⟨rfl,g40,g1,g2,g5,g6,rfl⟩;rw[h1]at g1;rw[h2]at g2;rw[h5]at g5;rw[h6]at g6;refine Br g40 ?_
      repeat' (first|refine Z1 ?_|(refine Z8 ?_;intro ya J)|(refine Z4 ?_;clear J ya)|(refine Z2 ?_ ?_<;>intro h aa<;>try exact Xp)|refine Z7 ?_|exact Zt|(apply J.out;clear J ya))
      refine⟨x.body.length-(i+1),Ad2,i+1,(i:Nat),?_⟩
      ((repeat' refine Zi ?_ ?_)<;>first|exact Xq|exact HN|exact Xs)
   ·subst a0;have ba:=(Aau.1 ak).1;obtain⟨ja,r2,bb⟩:=B8 hb ak;have a8:=hx.2.2 _ (Aax ak);have an:=fun d=>Ko b' _ ⟨ja,rfl⟩ a8 d;have a5:=Wv b';generalize Ip b'=lb at an a5;have ax:Ad8 (NextI fz x (i+1) (j:Nat)):=by
     rcases ay.out with h|h
     ·exact h
     ·omega
    clear ay ak;have a7:decide ((j:Int)<0)=false:=by simp
    rcases au with hnt|⟨hnt,ah⟩
    ·
     rw[hnt]at aj
     repeat' (first|refine Z1 ?_|(refine Z8 ?_;intro ya J)|(refine Z4 ?_;clear J ya)|(refine Z2 ?_ ?_<;>intro h aa<;>try exact Xp)|refine Z7 ?_|exact Zt|(apply J.out;clear J ya))
     refine A6 (Q:=fun e s' d''=>e= .normal/\s' 40=sc (.bool (decide ((lw:Int)<lb)))/\s' 1=s 1/\s' 2=s 2/\s' 5=s 5/\s' 6=s 6/\Keep d' d'') ?_ ?_
     ·refine As Ad (fun _=>True) [] [0,1,2,3,4,5,6,7,9,10,11,12,13] 4 #[true,true,true,true,true,true,true,true,false,true,true,true,true,true,false,false,false] Ad5 (fun _ _ _ h=>by cases h.1) ?_;intro ya J;refine Z7 ?_;refine J.out _ ?_;clear J ya;refine Ah (i:=8) Ad5 ?_;refine Ao ?_;intro ya J;refine Z7 ?_;refine ACalls.mono (aj _) ?_;rintro _ d5 ⟨rfl,ae⟩;refine Z7 ?_;refine J.out _ _ ⟨Ap ae,?_⟩;clear J ya;refine Ah (i:=14) Ad5 ?_;refine Ao ?_;intro ya J;refine Z7 ?_;refine ACalls.mono (an _) ?_;rintro _ d6 ⟨rfl,ab⟩;refine Z7 ?_;refine J.out _ _ ⟨Ap (ae.trans ab),?_⟩;clear J ya;refine Bs [15,16] Ad5 Ad5 (fun _ _ _ h=>by cases h.1) (ae.trans ab).nobj (fun o ho _=>(ae.trans ab).ver o ho) ?_;intro ya J;refine Z7 ?_;refine J.out _ _ ⟨rfl,?_⟩;simp[upd,ae.trans ab]
     ·rintro e s' d'' ⟨rfl,g40,g1,g2,g5,g6,ab⟩;rw[h1]at g1;rw[h2]at g2;rw[h5]at g5;rw[h6]at g6;have am:=ab.nobj;have ad:=ab.obj;have az:d''.obj d.nobj=[sc (.bool x.out),sc (.bool x.head.nt),str x.head.pred,sl ih x.head.terms.length (x.head.terms.map str),sl id x.body.length b]:=by rw[ad _ av,ao]
      clear ad;by_cases af:(lw:Int)<lb
      ·rw[show decide ((lw:Int)<lb)=true from by simpa using af]at g40;refine Br g40 ?_
       repeat' (first|refine Z1 ?_|(refine Z8 ?_;intro ya J)|(refine Z4 ?_;clear J ya)|(refine Z2 ?_ ?_<;>intro h aa<;>try exact Xp)|refine Z7 ?_|exact Zt|(apply J.out;clear J ya))
       refine⟨x.body.length-(i+1),Ad2,i+1,(i:Nat),?_⟩
       ((repeat' refine Zi ?_ ?_)<;>first|exact Xq|exact HN|exact (hK.trans ab)|exact Xs)
      ·rw[show decide ((lw:Int)<lb)=false from by simpa using af]at g40;refine Ci g40 ?_
       repeat' (first|refine Z1 ?_|(refine Z8 ?_;intro ya J)|(refine Z4 ?_;clear J ya)|(refine Z2 ?_ ?_<;>intro h aa<;>try exact Xp)|refine Z7 ?_|exact Zt|(apply J.out;clear J ya))
       refine⟨x.body.length-(i+1),Ad2,i+1,(j:Nat),?_⟩
       ((repeat' refine Zi ?_ ?_)<;>first|exact Xq|exact ax|exact (hK.trans ab)|exact Xs)
    ·subst ah;rw[hnt]at aj
     repeat' (first|refine Z1 ?_|(refine Z8 ?_;intro ya J)|(refine Z4 ?_;clear J ya)|(refine Z2 ?_ ?_<;>intro h aa<;>try exact Xp)|refine Z7 ?_|exact Zt|(apply J.out;clear J ya))
     refine A6 (Q:=fun e s' d''=>e= .normal/\s' 40=sc (.bool (decide ((lw:Int)<lb)))/\s' 1=s 1/\s' 2=s 2/\s' 5=s 5/\s' 6=s 6/\Keep d' d'') ?_ ?_
     ·refine As Ad (fun _=>True) [] [0,1,2,3,4,5,6,7,9,10,11,12,13] 4 #[true,true,true,true,true,true,true,true,false,true,true,true,true,true,false,false,false] Ad5 (fun _ _ _ h=>by cases h.1) ?_;intro ya J;refine Z7 ?_;refine J.out _ ?_;clear J ya;refine Ah (i:=8) Ad5 ?_;refine Ao ?_;intro ya J;refine Z7 ?_;refine ACalls.mono (aj _) ?_;rintro _ d5 ⟨rfl,ae⟩;refine Z7 ?_;refine J.out _ _ ⟨Ap ae,?_⟩;clear J ya;refine Ah (i:=14) Ad5 ?_;refine Ao ?_;intro ya J;refine Z7 ?_;refine ACalls.mono (an _) ?_;rintro _ d6 ⟨rfl,ab⟩;refine Z7 ?_;refine J.out _ _ ⟨Ap (ae.trans ab),?_⟩;clear J ya;refine Bs [15,16] Ad5 Ad5 (fun _ _ _ h=>by cases h.1) (ae.trans ab).nobj (fun o ho _=>(ae.trans ab).ver o ho) ?_;intro ya J;refine Z7 ?_;refine J.out _ _ ⟨rfl,?_⟩;simp[upd,ae.trans ab]
     ·rintro e s' d'' ⟨rfl,g40,g1,g2,g5,g6,ab⟩;rw[h1]at g1;rw[h2]at g2;rw[h5]at g5;rw[h6]at g6;have am:=ab.nobj;have ad:=ab.obj;have az:d''.obj d.nobj=[sc (.bool x.out),sc (.bool x.head.nt),str x.head.pred,sl ih x.head.terms.length (x.head.terms.map str),sl id x.body.length b]:=by rw[ad _ av,ao]
      clear ad;by_cases af:(lw:Int)<lb
      ·rw[show decide ((lw:Int)<lb)=true from by simpa using af]at g40;refine Br g40 ?_
       repeat' (first|refine Z1 ?_|(refine Z8 ?_;intro ya J)|(refine Z4 ?_;clear J ya)|(refine Z2 ?_ ?_<;>intro h aa<;>try exact Xp)|refine Z7 ?_|exact Zt|(apply J.out;clear J ya))
       refine⟨x.body.length-(i+1),Ad2,i+1,(i:Nat),?_⟩
       ((repeat' refine Zi ?_ ?_)<;>first|exact Xq|exact HN|exact (hK.trans ab)|exact Xs)
      ·rw[show decide ((lw:Int)<lb)=false from by simpa using af]at g40;refine Ci g40 ?_
       repeat' (first|refine Z1 ?_|(refine Z8 ?_;intro ya J)|(refine Z4 ?_;clear J ya)|(refine Z2 ?_ ?_<;>intro h aa<;>try exact Xp)|refine Z7 ?_|exact Zt|(apply J.out;clear J ya))
       refine⟨x.body.length-(i+1),Ad2,i+1,(j:Nat),?_⟩
       ((repeat' refine Zi ?_ ?_)<;>first|exact Xq|exact ax|exact (hK.trans ab)|exact Xs)
 ·have a6:i=x.body.length:=Ad2;subst a6;have HR:tG fz x n:=by
   rcases hN.out with⟨h1,h2⟩|⟨j,b,h1,h2,h3,h4⟩
   ·rw[Aa3]at h2;exact .inl ⟨h1,h2⟩
   ·exact .inr ⟨j,b,h1,h3,h4⟩
  repeat' (first|refine Z1 ?_|(refine Z8 ?_;intro ya J)|(refine Z4 ?_;clear J ya)|(refine Z2 ?_ ?_<;>intro h aa<;>try exact Xp)|refine Z7 ?_|exact Zt|(apply J.out;clear J ya))
  first|exact⟨_,rfl,n,rfl,HR,hK⟩|exact⟨n,rfl,HR,hK⟩|exact⟨_,rfl,n,rfl,HR⟩
end Go.Proofs.YtmoeoppbmhfbpaaGreatDoorH
