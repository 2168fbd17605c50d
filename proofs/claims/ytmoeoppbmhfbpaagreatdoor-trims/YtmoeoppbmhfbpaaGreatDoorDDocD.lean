import Derived.Test.YtmoeoppbmhfbpaaGreatDoorDDocA
import Derived.Test.YtmoeoppbmhfbpaaGreatDoorDEngN
import Derived.Test.YtmoeoppbmhfbpaaGreatDoorDEngR
import Derived.Test.YtmoeoppbmhfbpaaGreatDoorDSpaE
set_option maxHeartbeats 32000000
set_option maxRecDepth 100000
set_option linter.all false
namespace Go.Proofs.YtmoeoppbmhfbpaaGreatDoorD
open Go.Abs
def xZ (fz:Bool)(x:RItem)(n:Int):Prop:=(n= -1/\∀a∈x.body,Nj fz a=false)\/∃(j:Nat) (b:RAtom),n=j/\x.body[j]?=some b/\Nj fz b=true
def NextI (fz:Bool)(x:RItem)(i:Nat)(n:Int):Prop:=(n= -1/\∀a∈x.body.take i,Nj fz a=false)\/∃(j:Nat) (b:RAtom),n=j/\j<i/\x.body[j]?=some b/\Nj fz b=true
theorem NextI.skip {fz:Bool}{x:RItem}{i:Nat}{n:Int}{w:RAtom}(h:NextI fz x i n)(hw:x.body[i]?=some w)(hp:Nj fz w=false):NextI fz x (i+1) n:=by
 rcases h with⟨h1,h2⟩|⟨j,b,h1,h2,h3,h4⟩
 ·refine .inl ⟨h1,fun a ha=>?_⟩;rw[Ad0,hw]at ha;rcases Aet.1 ha with h'|h'
  ·exact h2 a h'
  ·simp at h';subst h';exact hp
 ·exact .inr ⟨j,b,h1,Agm,h3,h4⟩
theorem lB (x:RItem)(c:List AV)(fz:Bool)(hc:EItem x c)(hx:x.fits)(d:St):ACalls Tryz.prog 255 [ag c,sc (.bool fz)] d fun r d'=>∃n,r=sc (.int .i64 n)/\xZ fz x n/\Keep d d':=by
 obtain⟨ih,id,b,hb,rfl⟩:=hc.cells;have bc:=EL.length Bc hb;have bd:=hx.1;unfold A5;refine Z9 43 [.tmp 4] Tryz.func255 ?_
 refine zx ?_
 refine Ad (fun m s d'=>∃(i:Nat) (n:Int),m=x.body.length-i/\i<=x.body.length/\s 1=sc (.bool fz)/\s 2=ptr d.nobj 0/\s 5=sc (.int .i64 n)/\s 6=sc (.int .i64 i)/\Keep d d'/\d.nobj<d'.nobj/\d'.obj d.nobj=[sc (.bool x.out),sc (.bool x.head.nt),str x.head.pred,sl ih x.head.terms.length (x.head.terms.map str),sl id x.body.length b]/\Agt (NextI fz x i n)) x.body.length
  ⟨0,-1,Agm,Agm,by simp[upd,initS],Ago,Ago,Ago,Xs,Agq,Al,.inl ⟨rfl,fun a ha=>by simp at ha⟩⟩ ?_
 rintro m s d' ⟨i,n,rfl,hi,h1,h2,h5,h6,hK,av,ao,hN⟩;have a9:=hK.nobj;by_cases aw:i<x.body.length
 ·have ab:=Adn aw;obtain⟨ia,r,hd⟩:=Cm hb ab;have ap:=hx.2.2 _ (Aes aw);generalize x.body[i]=w at hd ab ap;cases hp:Nj fz w with
  |false=>
   have HN:Agt (NextI fz x (i+1) n):=hN.out.skip ab hp;have hnt:w.nt=true:=by unfold Nj at hp;simp at hp;exact hp.2
   have ah:fz=false:=by unfold Nj at hp;simp at hp;exact hp.1
   subst ah;clear ab hp
   repeat' first|refine Z1 ?_|refine Z8 fun ya J=>?_|refine Z4 ?_;clear J ya|refine Z2 ?_ ?_<;>intro h ad<;>try exact Xp|refine Z7 ?_|exact Zt|apply J.out;clear J ya
   refine⟨x.body.length-(i+1),Agm,i+1,n,?_⟩
   ((repeat' refine Zi ?_ ?_)<;>first|exact Xq|exact HN|exact Xs)
  |true=>
   have HN:Agt (NextI fz x (i+1) (i:Nat)):=.inr ⟨i,w,rfl,Agm,ab,hp⟩;have au:w.nt=false\/(w.nt=true/\fz=true):=by
    unfold Nj at hp;cases hw:w.nt with
    |false=>exact .inl rfl
    |true=>rw[hw]at hp;simp at hp;exact .inr ⟨rfl,hp⟩
   clear hp;have ay:Agt (NextI fz x (i+1) n\/n= -1):=by
    rcases hN.out with⟨h1,h2⟩|⟨j,b,h1,h2,h3,h4⟩
    ·exact .inr h1
    ·exact .inl (.inr ⟨j,b,h1,Agm,h3,h4⟩)
   have aj:=fun d=>Li w _ ⟨ia,rfl⟩ ap d;have a4:=Zl w;generalize I9 w=lw at aj a4;clear ab;have ai:n= -1\/∃(j:Nat) (b':RAtom),n=j/\x.body[j]?=some b':=by
    rcases hN.out with⟨h1,h2⟩|⟨j,b,h1,h2,h3,h4⟩
    ·exact .inl h1
    ·exact .inr ⟨j,b,h1,h3⟩
   rcases ai with a3|⟨j,b',a0,ak⟩
   ·subst a3;have a7:decide ((-1:Int)<0)=true:=by decide
    rcases au with hnt|⟨hnt,ah⟩
    ·
     repeat' first|refine Z1 ?_|refine Z8 fun ya J=>?_|refine Z4 ?_;clear J ya|refine Z2 ?_ ?_<;>intro h ad<;>try exact Xp|refine Z7 ?_|exact Zt|apply J.out;clear J ya
     refine Bl (Q:=fun e s' d''=>e= .normal/\s' 40=sc (.bool true)/\s' 1=s 1/\s' 2=s 2/\s' 5=s 5/\s' 6=s 6/\d''=d') ?_ ?_
     ·refine Ay Ag (fun _=>True) [] [0,1,2,3,4,5,6,7,9,10,11,12,13] 4 #[true,true,true,true,true,true,true,true,false,true,true,true,true,true,false,false,false] Agp (fun _ _ _ h=>by cases h.1) ?_;intro ya J;refine Z7 ?_;refine J.out _ ?_;clear J ya;refine Ai (i:=8) Agp ?_;refine Am ?_;intro ya J;refine Z7 ?_;refine J.out _ _ ⟨kept_refl,?_⟩;clear J ya;refine Ai (i:=14) Agp ?_;refine Am ?_;intro ya J;refine Z7 ?_;refine J.out _ _ ⟨kept_refl,?_⟩;clear J ya;refine Dc [15,16] Agp Agp (fun _ _ _ h=>by cases h.1) (Adc _) (fun o ho _=>rfl) ?_;intro ya J;refine Z7 ?_;refine J.out _ _ ⟨rfl,?_⟩;simp[upd]
     ·rintro e s' d'' ⟨rfl,g40,g1,g2,g5,g6,rfl⟩;rw[h1]at g1;rw[h2]at g2;rw[h5]at g5;rw[h6]at g6;refine C0 g40 ?_
      refine zx ?_
      refine⟨x.body.length-(i+1),Agm,i+1,(i:Nat),?_⟩
      ((repeat' refine Zi ?_ ?_)<;>first|exact Xq|exact HN|exact Xs)
    ·subst ah
     repeat' first|refine Z1 ?_|refine Z8 fun ya J=>?_|refine Z4 ?_;clear J ya|refine Z2 ?_ ?_<;>intro h ad<;>try exact Xp|refine Z7 ?_|exact Zt|apply J.out;clear J ya
     refine Bl (Q:=fun e s' d''=>e= .normal/\s' 40=sc (.bool true)/\s' 1=s 1/\s' 2=s 2/\s' 5=s 5/\s' 6=s 6/\d''=d') ?_ ?_
     ·refine Ay Ag (fun _=>True) [] [0,1,2,3,4,5,6,7,9,10,11,12,13] 4 #[true,true,true,true,true,true,true,true,false,true,true,true,true,true,false,false,false] Agp (fun _ _ _ h=>by cases h.1) ?_;intro ya J;refine Z7 ?_;refine J.out _ ?_;clear J ya;refine Ai (i:=8) Agp ?_;refine Am ?_;intro ya J;refine Z7 ?_;refine J.out _ _ ⟨kept_refl,?_⟩;clear J ya;refine Ai (i:=14) Agp ?_;refine Am ?_;intro ya J;refine Z7 ?_;refine J.out _ _ ⟨kept_refl,?_⟩;clear J ya;refine Dc [15,16] Agp Agp (fun _ _ _ h=>by cases h.1) (Adc _) (fun o ho _=>rfl) ?_;intro ya J;refine Z7 ?_;refine J.out _ _ ⟨rfl,?_⟩;simp[upd]
     ·rintro e s' d'' ⟨rfl,g40,g1,g2,g5,g6,rfl⟩;rw[h1]at g1;rw[h2]at g2;rw[h5]at g5;rw[h6]at g6;refine C0 g40 ?_
      refine zx ?_
      refine⟨x.body.length-(i+1),Agm,i+1,(i:Nat),?_⟩
      ((repeat' refine Zi ?_ ?_)<;>first|exact Xq|exact HN|exact Xs)
   ·subst a0;have ba:=(Adm.1 ak).1;obtain⟨ja,r2,bb⟩:=Cm hb ak;have a8:=hx.2.2 _ (Adp ak);have an:=fun d=>Li b' _ ⟨ja,rfl⟩ a8 d;have a5:=Zl b';generalize I9 b'=lb at an a5;have ax:Agt (NextI fz x (i+1) (j:Nat)):=by
     rcases ay.out with h|h
     ·exact h
     ·omega
    clear ay ak;have a7:decide ((j:Int)<0)=false:=by simp
    rcases au with hnt|⟨hnt,ah⟩
    ·
     rw[hnt]at aj
     repeat' first|refine Z1 ?_|refine Z8 fun ya J=>?_|refine Z4 ?_;clear J ya|refine Z2 ?_ ?_<;>intro h ad<;>try exact Xp|refine Z7 ?_|exact Zt|apply J.out;clear J ya
     refine Bl (Q:=fun e s' d''=>e= .normal/\s' 40=sc (.bool (decide ((lw:Int)<lb)))/\s' 1=s 1/\s' 2=s 2/\s' 5=s 5/\s' 6=s 6/\Keep d' d'') ?_ ?_
     ·refine Ay Ag (fun _=>True) [] [0,1,2,3,4,5,6,7,9,10,11,12,13] 4 #[true,true,true,true,true,true,true,true,false,true,true,true,true,true,false,false,false] Agp (fun _ _ _ h=>by cases h.1) ?_;intro ya J;refine Z7 ?_;refine J.out _ ?_;clear J ya;refine Ai (i:=8) Agp ?_;refine Am ?_;intro ya J;refine Z7 ?_;refine ACalls.mono (aj _) ?_;rintro _ d5 ⟨rfl,ae⟩;refine Z7 ?_;refine J.out _ _ ⟨Ao ae,?_⟩;clear J ya;refine Ai (i:=14) Agp ?_;refine Am ?_;intro ya J;refine Z7 ?_;refine ACalls.mono (an _) ?_;rintro _ d6 ⟨rfl,aa⟩;refine Z7 ?_;refine J.out _ _ ⟨Ao (ae.trans aa),?_⟩;clear J ya;refine Dc [15,16] Agp Agp (fun _ _ _ h=>by cases h.1) (ae.trans aa).nobj (fun o ho _=>(ae.trans aa).ver o ho) ?_;intro ya J;refine Z7 ?_;refine J.out _ _ ⟨rfl,?_⟩;simp[upd,ae.trans aa]
     ·rintro e s' d'' ⟨rfl,g40,g1,g2,g5,g6,aa⟩;rw[h1]at g1;rw[h2]at g2;rw[h5]at g5;rw[h6]at g6;have am:=aa.nobj;have ac:=aa.obj;have az:d''.obj d.nobj=[sc (.bool x.out),sc (.bool x.head.nt),str x.head.pred,sl ih x.head.terms.length (x.head.terms.map str),sl id x.body.length b]:=by rw[ac _ av,ao]
      clear ac;by_cases af:(lw:Int)<lb
      ·rw[show decide ((lw:Int)<lb)=true from by simpa using af]at g40;refine C0 g40 ?_
       refine zx ?_
       refine⟨x.body.length-(i+1),Agm,i+1,(i:Nat),?_⟩
       ((repeat' refine Zi ?_ ?_)<;>first|exact Xq|exact HN|exact (hK.trans aa)|exact Xs)
      ·rw[show decide ((lw:Int)<lb)=false from by simpa using af]at g40;refine Ed g40 ?_
       refine zx ?_
       refine⟨x.body.length-(i+1),Agm,i+1,(j:Nat),?_⟩
       ((repeat' refine Zi ?_ ?_)<;>first|exact Xq|exact ax|exact (hK.trans aa)|exact Xs)
    ·subst ah;rw[hnt]at aj
     repeat' first|refine Z1 ?_|refine Z8 fun ya J=>?_|refine Z4 ?_;clear J ya|refine Z2 ?_ ?_<;>intro h ad<;>try exact Xp|refine Z7 ?_|exact Zt|apply J.out;clear J ya
     refine Bl (Q:=fun e s' d''=>e= .normal/\s' 40=sc (.bool (decide ((lw:Int)<lb)))/\s' 1=s 1/\s' 2=s 2/\s' 5=s 5/\s' 6=s 6/\Keep d' d'') ?_ ?_
     ·refine Ay Ag (fun _=>True) [] [0,1,2,3,4,5,6,7,9,10,11,12,13] 4 #[true,true,true,true,true,true,true,true,false,true,true,true,true,true,false,false,false] Agp (fun _ _ _ h=>by cases h.1) ?_;intro ya J;refine Z7 ?_;refine J.out _ ?_;clear J ya;refine Ai (i:=8) Agp ?_;refine Am ?_;intro ya J;refine Z7 ?_;refine ACalls.mono (aj _) ?_;rintro _ d5 ⟨rfl,ae⟩;refine Z7 ?_;refine J.out _ _ ⟨Ao ae,?_⟩;clear J ya;refine Ai (i:=14) Agp ?_;refine Am ?_;intro ya J;refine Z7 ?_;refine ACalls.mono (an _) ?_;rintro _ d6 ⟨rfl,aa⟩;refine Z7 ?_;refine J.out _ _ ⟨Ao (ae.trans aa),?_⟩;clear J ya;refine Dc [15,16] Agp Agp (fun _ _ _ h=>by cases h.1) (ae.trans aa).nobj (fun o ho _=>(ae.trans aa).ver o ho) ?_;intro ya J;refine Z7 ?_;refine J.out _ _ ⟨rfl,?_⟩;simp[upd,ae.trans aa]
     ·rintro e s' d'' ⟨rfl,g40,g1,g2,g5,g6,aa⟩;rw[h1]at g1;rw[h2]at g2;rw[h5]at g5;rw[h6]at g6;have am:=aa.nobj;have ac:=aa.obj;have az:d''.obj d.nobj=[sc (.bool x.out),sc (.bool x.head.nt),str x.head.pred,sl ih x.head.terms.length (x.head.terms.map str),sl id x.body.length b]:=by rw[ac _ av,ao]
      clear ac;by_cases af:(lw:Int)<lb
      ·rw[show decide ((lw:Int)<lb)=true from by simpa using af]at g40;refine C0 g40 ?_
       refine zx ?_
       refine⟨x.body.length-(i+1),Agm,i+1,(i:Nat),?_⟩
       ((repeat' refine Zi ?_ ?_)<;>first|exact Xq|exact HN|exact (hK.trans aa)|exact Xs)
      ·rw[show decide ((lw:Int)<lb)=false from by simpa using af]at g40;refine Ed g40 ?_
       refine zx ?_
       refine⟨x.body.length-(i+1),Agm,i+1,(j:Nat),?_⟩
       ((repeat' refine Zi ?_ ?_)<;>first|exact Xq|exact ax|exact (hK.trans aa)|exact Xs)
 ·have a6:i=x.body.length:=Agm;subst a6;have HR:xZ fz x n:=by
   rcases hN.out with⟨h1,h2⟩|⟨j,b,h1,h2,h3,h4⟩
   ·rw[Adu]at h2;exact .inl ⟨h1,h2⟩
   ·exact .inr ⟨j,b,h1,h3,h4⟩
  repeat' first|refine Z1 ?_|refine Z8 fun ya J=>?_|refine Z4 ?_;clear J ya|refine Z2 ?_ ?_<;>intro h ad<;>try exact Xp|refine Z7 ?_|exact Zt|apply J.out;clear J ya
  first|exact⟨_,rfl,n,rfl,HR,hK⟩|exact⟨n,rfl,HR,hK⟩|exact⟨_,rfl,n,rfl,HR⟩
theorem vC {a:RAtom}(h:clA a):(Kd a).length<=1100000:=by
 have h1:=h.1.2;have h3:=h.2.2;have hT:∀ts:List Tx,(∀t∈ts,Clean t)->(ts.flatMap fun t=>(44:UInt8)::t).length<=ts.length*1001:=by
  intro ts;induction ts with
  |nil=>intro _;simp
  |cons t ts ih=>
   intro hh;have e1:=ih (fun u hu=>hh u (by simp[hu]));have e2:=(hh t (by simp)).2;simp only[Ae0,Aeb,Aem];omega
 have h2:=hT a.terms h.2.1;unfold Kd;simp only[Aeb];have:(if a.nt=true then [(33:UInt8)]else []).length<=1:=by split<;>simp
 omega
def N7 (x:RItem)(i:Nat):Tx:=((x.head::x.body).take i).flatMap fun a=>Kd a++[46]
theorem Zn {x:RItem}{i:Nat}{w:RAtom}(h:(x.head::x.body)[i]?=some w):N7 x (i+1)=N7 x i++(Kd w++[46]):=by
 unfold N7;rw[Ad0,h,Aey];simp
theorem rE (x:RItem)(c:List AV)(hc:EItem x c)(hx:cY x)(a6:x.body.length<=1000)(d:St):ACalls Tryz.prog 268 [ag c] d fun r d'=>r=str (Em x)/\Keep d d':=by
 obtain⟨ih,id,b,hb,rfl⟩:=hc.cells;have a5:=EL.length Bc hb;have a9:({data:=#[33]}:ByteArray)=bs [33]:=rfl;have a8:({data:=#[44]}:ByteArray)=bs [44]:=rfl;have a7:({data:=#[46]}:ByteArray)=bs [46]:=rfl;unfold A5;refine Z9 49 [.tmp 2] Tryz.func268 ?_
 refine zx ?_
 refine Ad (fun m s d'=>∃(i:Nat) (n:Int) (acc:Tx),m=x.body.length+1-i/\i<=x.body.length+1/\n=(i:Int)-1/\s 1=ptr d.nobj 0/\s 3=str acc/\s 4=sc (.int .i64 n)/\Keep d d'/\d.nobj<d'.nobj/\d'.obj d.nobj=[sc (.bool x.out),sc (.bool x.head.nt),str x.head.pred,sl ih x.head.terms.length (x.head.terms.map str),sl id x.body.length b]/\acc.length<=i*1100001/\Agt (acc=N7 x i)) (x.body.length+1)
  ⟨0,-1,[],Agm,Agm,Agm,Ago,Ago,Ago,Xs,Agq,Al,by simp,by simp[Agt,N7]⟩ ?_
 rintro m s d1 ⟨i,n,acc,rfl,hi,hn,h1,h3,h4,hK,af,ae,ah,hA⟩;have aj:=hK.nobj;by_cases ac:i<x.body.length+1
 ·have HA:Agt _:=hA.out;clear hA;have a4:decide (n<(x.body.length:Int))=true:=by simp;omega
  have az:n<=(i:Int)-1/\(i:Int)-1<=n:=Agm;clear hn;by_cases h0:i=0
  ·have ao:decide ((0:Int)<=n)=false:=by simp;omega
   have ai:decide (n>=0)=false:=ao;have HW:Agt (N7 x (i+1)=N7 x i++(Kd x.head++[46])):=Zn (by rw[h0];rfl);have hw:=hx.2.1;have ax:=hw.1.2;have au:=hw.2.2;clear h0;cases ad:x.head.nt with
   |true=>
    repeat' first|refine Z1 ?_|refine Z8 fun ya J=>?_|refine Z4 ?_;clear J ya|refine Z2 ?_ ?_<;>intro h ab<;>try exact Xp|refine Z7 ?_|exact Zt|apply J.out;clear J ya
    refine Ad (fun m s d'=>∃(k:Nat) (acc2:Tx),m=x.head.terms.length-k/\k<=x.head.terms.length/\s 1=ptr d.nobj 0/\s 3=str acc2/\s 4=sc (.int .i64 n)/\s 5=ptr d1.nobj 0/\s 6=sc (.int .i64 k)/\Keep d d'/\d1.nobj<d'.nobj/\d'.obj d.nobj=[sc (.bool x.out),sc (.bool x.head.nt),str x.head.pred,sl ih x.head.terms.length (x.head.terms.map str),sl id x.body.length b]/\d'.obj d1.nobj=[sc (.bool x.head.nt),str x.head.pred,sl ih x.head.terms.length (x.head.terms.map str)]/\acc2.length<=i*1100001+1001+k*1001/\Agt (acc2=(acc++[33]++x.head.pred)++(x.head.terms.take k).flatMap fun t=>44::t)) x.head.terms.length
     ⟨0,(acc++[33]++x.head.pred),Agm,Agm,Agn,Ago,Agn,Ago,Ago,Xs,Ags,by simp (disch:=omega) only[Ak,Ah,Aa,ae,ad],by simp only[Aj,ad],by simp only[Aeb,Aem,Ael];omega,by simp[Agt]⟩ ?_
    have am:=af;clear h1 h3 h4 ae af hK aj ah ao ai;rintro m s d' ⟨k,acc2,rfl,hk,h1,h3,h4,h5,h6,hK,af,ae,av,ah,hA⟩;have aj:=hK.nobj;by_cases ac:k<x.head.terms.length
    ·have aa:=Adn ac;have hd:=A2 ac;have ak:=(hw.2.1 _ (Aes ac)).2;generalize x.head.terms[k]=t at hd aa ak;have HN:Agt ((acc2++[44])++t=(acc++[33]++x.head.pred)++(x.head.terms.take (k+1)).flatMap fun t=>44::t):=by
      rw[Agt,Ad0,aa,Aey,hA.out];simp
     have HL:((acc2++[44])++t).length<=i*1100001+1001+(k+1)*1001:=by simp only[Aeb,Aem,Ael];omega
     clear aa
     repeat' first|refine Z1 ?_|refine Z8 fun ya J=>?_|refine Z4 ?_;clear J ya|refine Z2 ?_ ?_<;>intro h ab<;>try exact Xp|refine Z7 ?_|exact Zt|apply J.out;clear J ya
     refine⟨x.head.terms.length-(k+1),Agm,k+1,(acc2++[44])++t,?_⟩
     ((repeat' refine Zi ?_ ?_)<;>first|exact Xq|exact HN|exact HL|exact Xs)
    ·have an:k=x.head.terms.length:=Agm;subst an;have HN:Agt (acc2++[46]=N7 x (i+1)):=by
      rw[Agt,HW.out,hA.out,Adu,<-HA.out];simp[Kd,ad]
     have ap:acc2.length<=i*1100001+1100000:=Ade ah (by rw[Adw];exact Af7 (Ade (Af7 (Adj 1001 au) 1001) (by decide)) _);have HL:(acc2++[46]).length<=(i+1)*1100001:=by simp only[Aeb,Aem,Ael];omega
     repeat' first|refine Z1 ?_|refine Z8 fun ya J=>?_|refine Z4 ?_;clear J ya|refine Z2 ?_ ?_<;>intro h ab<;>try exact Xp|refine Z7 ?_|exact Zt|apply J.out;clear J ya
     refine⟨x.body.length+1-(i+1),Agm,i+1,n+1,acc2++[46],?_⟩
     ((repeat' refine Zi ?_ ?_)<;>first|exact Xq|exact HN|exact HL|exact Xs)
   |false=>
    repeat' first|refine Z1 ?_|refine Z8 fun ya J=>?_|refine Z4 ?_;clear J ya|refine Z2 ?_ ?_<;>intro h ab<;>try exact Xp|refine Z7 ?_|exact Zt|apply J.out;clear J ya
    refine Ad (fun m s d'=>∃(k:Nat) (acc2:Tx),m=x.head.terms.length-k/\k<=x.head.terms.length/\s 1=ptr d.nobj 0/\s 3=str acc2/\s 4=sc (.int .i64 n)/\s 5=ptr d1.nobj 0/\s 6=sc (.int .i64 k)/\Keep d d'/\d1.nobj<d'.nobj/\d'.obj d.nobj=[sc (.bool x.out),sc (.bool x.head.nt),str x.head.pred,sl ih x.head.terms.length (x.head.terms.map str),sl id x.body.length b]/\d'.obj d1.nobj=[sc (.bool x.head.nt),str x.head.pred,sl ih x.head.terms.length (x.head.terms.map str)]/\acc2.length<=i*1100001+1001+k*1001/\Agt (acc2=(acc++x.head.pred)++(x.head.terms.take k).flatMap fun t=>44::t)) x.head.terms.length
     ⟨0,(acc++x.head.pred),Agm,Agm,Agn,Ago,Agn,Ago,Ago,Xs,Ags,by simp (disch:=omega) only[Ak,Ah,Aa,ae,ad],by simp only[Aj,ad],by simp only[Aeb,Aem,Ael];omega,by simp[Agt]⟩ ?_
    have am:=af;clear h1 h3 h4 ae af hK aj ah ao ai;rintro m s d' ⟨k,acc2,rfl,hk,h1,h3,h4,h5,h6,hK,af,ae,av,ah,hA⟩;have aj:=hK.nobj;by_cases ac:k<x.head.terms.length
    ·have aa:=Adn ac;have hd:=A2 ac;have ak:=(hw.2.1 _ (Aes ac)).2;generalize x.head.terms[k]=t at hd aa ak;have HN:Agt ((acc2++[44])++t=(acc++x.head.pred)++(x.head.terms.take (k+1)).flatMap fun t=>44::t):=by
      rw[Agt,Ad0,aa,Aey,hA.out];simp
     have HL:((acc2++[44])++t).length<=i*1100001+1001+(k+1)*1001:=by simp only[Aeb,Aem,Ael];omega
     clear aa
     repeat' first|refine Z1 ?_|refine Z8 fun ya J=>?_|refine Z4 ?_;clear J ya|refine Z2 ?_ ?_<;>intro h ab<;>try exact Xp|refine Z7 ?_|exact Zt|apply J.out;clear J ya
     refine⟨x.head.terms.length-(k+1),Agm,k+1,(acc2++[44])++t,?_⟩
     ((repeat' refine Zi ?_ ?_)<;>first|exact Xq|exact HN|exact HL|exact Xs)
    ·have an:k=x.head.terms.length:=Agm;subst an;have HN:Agt (acc2++[46]=N7 x (i+1)):=by
      rw[Agt,HW.out,hA.out,Adu,<-HA.out];simp[Kd,ad]
     have ap:acc2.length<=i*1100001+1100000:=Ade ah (by rw[Adw];exact Af7 (Ade (Af7 (Adj 1001 au) 1001) (by decide)) _);have HL:(acc2++[46]).length<=(i+1)*1100001:=by simp only[Aeb,Aem,Ael];omega
     repeat' first|refine Z1 ?_|refine Z8 fun ya J=>?_|refine Z4 ?_;clear J ya|refine Z2 ?_ ?_<;>intro h ab<;>try exact Xp|refine Z7 ?_|exact Zt|apply J.out;clear J ya
     refine⟨x.body.length+1-(i+1),Agm,i+1,n+1,acc2++[46],?_⟩
     ((repeat' refine Zi ?_ ?_)<;>first|exact Xq|exact HN|exact HL|exact Xs)
  ·have ao:decide ((0:Int)<=n)=true:=by simp;omega
   have ai:decide (n>=0)=true:=ao;have a3:0<=n:=Agm;have aw:n.toNat<x.body.length:=Agm;have a0:n<(x.body.length:Int):=Agm;have aa:=Adn aw;have hw:=hx.2.2 _ (Aes aw);obtain⟨ia,r,hd⟩:=Cm hb aa;generalize x.body[n.toNat]=w at aa hw hd;have HW:Agt (N7 x (i+1)=N7 x i++(Kd w++[46])):=Zn (by rw[show i=n.toNat+1 by omega];exact aa);have ax:=hw.1.2;have au:=hw.2.2;clear aa h0;cases ad:w.nt with
   |true=>
    repeat' first|refine Z1 ?_|refine Z8 fun ya J=>?_|refine Z4 ?_;clear J ya|refine Z2 ?_ ?_<;>intro h ab<;>try exact Xp|refine Z7 ?_|exact Zt|apply J.out;clear J ya
    refine Ad (fun m s d'=>∃(k:Nat) (acc2:Tx),m=w.terms.length-k/\k<=w.terms.length/\s 1=ptr d.nobj 0/\s 3=str acc2/\s 4=sc (.int .i64 n)/\s 5=ptr d1.nobj 0/\s 6=sc (.int .i64 k)/\Keep d d'/\d1.nobj<d'.nobj/\d'.obj d.nobj=[sc (.bool x.out),sc (.bool x.head.nt),str x.head.pred,sl ih x.head.terms.length (x.head.terms.map str),sl id x.body.length b]/\d'.obj d1.nobj=[sc (.bool w.nt),str w.pred,sl ia w.terms.length (w.terms.map str)]/\acc2.length<=i*1100001+1001+k*1001/\Agt (acc2=(acc++[33]++w.pred)++(w.terms.take k).flatMap fun t=>44::t)) w.terms.length
     ⟨0,(acc++[33]++w.pred),Agm,Agm,Agn,Ago,Agn,Ago,Ago,Xs,Ags,by simp (disch:=omega) only[Ak,Ah,Aa,ae,ad],by simp only[Aj,ad],by simp only[Aeb,Aem,Ael];omega,by simp[Agt]⟩ ?_
    have am:=af;clear h1 h3 h4 ae af hK aj ah ao ai;rintro m s d' ⟨k,acc2,rfl,hk,h1,h3,h4,h5,h6,hK,af,ae,av,ah,hA⟩;have aj:=hK.nobj;by_cases ac:k<w.terms.length
    ·have aa:=Adn ac;have hd:=A2 ac;have ak:=(hw.2.1 _ (Aes ac)).2;generalize w.terms[k]=t at hd aa ak;have HN:Agt ((acc2++[44])++t=(acc++[33]++w.pred)++(w.terms.take (k+1)).flatMap fun t=>44::t):=by
      rw[Agt,Ad0,aa,Aey,hA.out];simp
     have HL:((acc2++[44])++t).length<=i*1100001+1001+(k+1)*1001:=by simp only[Aeb,Aem,Ael];omega
     clear aa
     repeat' first|refine Z1 ?_|refine Z8 fun ya J=>?_|refine Z4 ?_;clear J ya|refine Z2 ?_ ?_<;>intro h ab<;>try exact Xp|refine Z7 ?_|exact Zt|apply J.out;clear J ya
     refine⟨w.terms.length-(k+1),Agm,k+1,(acc2++[44])++t,?_⟩
     ((repeat' refine Zi ?_ ?_)<;>first|exact Xq|exact HN|exact HL|exact Xs)
    ·have an:k=w.terms.length:=Agm;subst an;have HN:Agt (acc2++[46]=N7 x (i+1)):=by
      rw[Agt,HW.out,hA.out,Adu,<-HA.out];simp[Kd,ad]
     have ap:acc2.length<=i*1100001+1100000:=Ade ah (by rw[Adw];exact Af7 (Ade (Af7 (Adj 1001 au) 1001) (by decide)) _);have HL:(acc2++[46]).length<=(i+1)*1100001:=by simp only[Aeb,Aem,Ael];omega
     repeat' first|refine Z1 ?_|refine Z8 fun ya J=>?_|refine Z4 ?_;clear J ya|refine Z2 ?_ ?_<;>intro h ab<;>try exact Xp|refine Z7 ?_|exact Zt|apply J.out;clear J ya
     refine⟨x.body.length+1-(i+1),Agm,i+1,n+1,acc2++[46],?_⟩
     ((repeat' refine Zi ?_ ?_)<;>first|exact Xq|exact HN|exact HL|exact Xs)
   |false=>
    repeat' first|refine Z1 ?_|refine Z8 fun ya J=>?_|refine Z4 ?_;clear J ya|refine Z2 ?_ ?_<;>intro h ab<;>try exact Xp|refine Z7 ?_|exact Zt|apply J.out;clear J ya
    refine Ad (fun m s d'=>∃(k:Nat) (acc2:Tx),m=w.terms.length-k/\k<=w.terms.length/\s 1=ptr d.nobj 0/\s 3=str acc2/\s 4=sc (.int .i64 n)/\s 5=ptr d1.nobj 0/\s 6=sc (.int .i64 k)/\Keep d d'/\d1.nobj<d'.nobj/\d'.obj d.nobj=[sc (.bool x.out),sc (.bool x.head.nt),str x.head.pred,sl ih x.head.terms.length (x.head.terms.map str),sl id x.body.length b]/\d'.obj d1.nobj=[sc (.bool w.nt),str w.pred,sl ia w.terms.length (w.terms.map str)]/\acc2.length<=i*1100001+1001+k*1001/\Agt (acc2=(acc++w.pred)++(w.terms.take k).flatMap fun t=>44::t)) w.terms.length
     ⟨0,(acc++w.pred),Agm,Agm,Agn,Ago,Agn,Ago,Ago,Xs,Ags,by simp (disch:=omega) only[Ak,Ah,Aa,ae,ad],by simp only[Aj,ad],by simp only[Aeb,Aem,Ael];omega,by simp[Agt]⟩ ?_
    have am:=af;clear h1 h3 h4 ae af hK aj ah ao ai;rintro m s d' ⟨k,acc2,rfl,hk,h1,h3,h4,h5,h6,hK,af,ae,av,ah,hA⟩;have aj:=hK.nobj;by_cases ac:k<w.terms.length
    ·have aa:=Adn ac;have hd:=A2 ac;have ak:=(hw.2.1 _ (Aes ac)).2;generalize w.terms[k]=t at hd aa ak;have HN:Agt ((acc2++[44])++t=(acc++w.pred)++(w.terms.take (k+1)).flatMap fun t=>44::t):=by
      rw[Agt,Ad0,aa,Aey,hA.out];simp
     have HL:((acc2++[44])++t).length<=i*1100001+1001+(k+1)*1001:=by simp only[Aeb,Aem,Ael];omega
     clear aa
     repeat' first|refine Z1 ?_|refine Z8 fun ya J=>?_|refine Z4 ?_;clear J ya|refine Z2 ?_ ?_<;>intro h ab<;>try exact Xp|refine Z7 ?_|exact Zt|apply J.out;clear J ya
     refine⟨w.terms.length-(k+1),Agm,k+1,(acc2++[44])++t,?_⟩
     ((repeat' refine Zi ?_ ?_)<;>first|exact Xq|exact HN|exact HL|exact Xs)
    ·have an:k=w.terms.length:=Agm;subst an;have HN:Agt (acc2++[46]=N7 x (i+1)):=by
      rw[Agt,HW.out,hA.out,Adu,<-HA.out];simp[Kd,ad]
     have ap:acc2.length<=i*1100001+1100000:=Ade ah (by rw[Adw];exact Af7 (Ade (Af7 (Adj 1001 au) 1001) (by decide)) _);have HL:(acc2++[46]).length<=(i+1)*1100001:=by simp only[Aeb,Aem,Ael];omega
     repeat' first|refine Z1 ?_|refine Z8 fun ya J=>?_|refine Z4 ?_;clear J ya|refine Z2 ?_ ?_<;>intro h ab<;>try exact Xp|refine Z7 ?_|exact Zt|apply J.out;clear J ya
     refine⟨x.body.length+1-(i+1),Agm,i+1,n+1,acc2++[46],?_⟩
     ((repeat' refine Zi ?_ ?_)<;>first|exact Xq|exact HN|exact HL|exact Xs)
 ·have ay:i=x.body.length+1:=Agm;subst ay;have hA:=hA.out;have:N7 x (x.body.length+1)=Em x:=by unfold N7 Em;rw[Aeq (by simp)]
  rw[this]at hA;subst hA
  repeat' first|refine Z1 ?_|refine Z8 fun ya J=>?_|refine Z4 ?_;clear J ya|refine Z2 ?_ ?_<;>intro h ab<;>try exact Xp|refine Z7 ?_|exact Zt|apply J.out;clear J ya
  first|exact⟨_,rfl,rfl,hK⟩|exact⟨_,rfl,rfl⟩|exact⟨rfl,hK⟩
def Rws (d:St)(R:List (Nat×Nat)):Prop:=(∀x∈R,Live d x.1 x.2)/\∀(i j:Nat) (x y:Nat×Nat),R[i]?=some x->R[j]?=some y->i≠j->x.1=1\/x.1≠y.1
theorem Rws.keep {d d':St}{R:List (Nat×Nat)}(h:Rws d R)(k:Keep d d'):Rws d' R:=⟨fun x hx=>(h.1 x hx).keep k,h.2⟩
structure KW (ow:Nat)(R R':List (Nat×Nat))(d d':St):Prop where
 nobj:d.nobj<=d'.nobj
 obj:∀o,o<d.nobj->o≠ow->d'.obj o=d.obj o
 ver:∀o,o<d.nobj->o≠ow->d'.ver o=d.ver o
 ntop:d.ntop<=d'.ntop
 top:∀k,k<d.ntop->(∀x∈R,x.1≠k+2)->d'.top k=d.top k
 mid:∀x∈R',(∃y∈R,y.1=x.1)\/x.1=1\/d.ntop+2<=x.1
theorem KW.ofKeep {ow:Nat}{R:List (Nat×Nat)}{d d':St}(h:Keep d d'):KW ow R R d d':=
 ⟨h.nobj,fun o ho _=>h.obj o ho,fun o ho _=>h.ver o ho,h.ntop,fun k hk _=>h.top k hk,fun x hx=>.inl ⟨x,hx,rfl⟩⟩
theorem KW.trans {ow:Nat}{M M1 M2:List (Nat×Nat)}{d d1 d2:St}(h:KW ow M M1 d d1)(g:KW ow M1 M2 d1 d2):KW ow M M2 d d2 where
 nobj:=Ade h.nobj g.nobj
 obj:=fun o ho h1=>(g.obj o (Adf ho h.nobj) h1).trans (h.obj o ho h1)
 ver:=fun o ho h1=>(g.ver o (Adf ho h.nobj) h1).trans (h.ver o ho h1)
 ntop:=Ade h.ntop g.ntop
 top:=fun k hk hx=>(g.top k (Adf hk h.ntop) (fun x aa e=>by
  rcases h.mid x aa with⟨y,hy,e2⟩|e2|e2
  ·exact hx y hy (e2.trans e)
  ·omega
  ·omega)).trans (h.top k hk hx)
 mid:=fun x hx=>by
  rcases g.mid x hx with⟨y,hy,e⟩|e|e
  ·rcases h.mid y hy with⟨z,hz,e2⟩|e2|e2
   ·exact .inl ⟨z,hz,e2.trans e⟩
   ·exact .inr (.inl Agm)
   ·exact .inr (.inr Agm)
  ·exact .inr (.inl e)
  ·exact .inr (.inr (by have:=h.ntop;omega))
theorem Rws.grow {d d':St}{ow:Nat}{R:List (Nat×Nat)}{k id':Nat}{x:Nat×Nat}(hR:Rws d R)(hx:R[k]?=some x)(hL:Live d' id' (x.2+1))(hid:id'=x.1\/d.ntop+2<=id')(ac:id'≠1)
  (eob:∀o,o<d.nobj->o≠ow->d'.obj o=d.obj o) (ad:∀o,o<d.nobj->o≠ow->d'.ver o=d.ver o) (eno:d.nobj<=d'.nobj) (ento:d.ntop<=d'.ntop)
  (etop:∀j,j<d.ntop->j+2≠x.1->d'.top j=d.top j):Rws d' (R.set k (id',x.2+1))/\KW ow R (R.set k (id',x.2+1)) d d':=by
 have ae:=Adp hx;have ai:k<R.length:=(Adm.1 hx).1;have ab:∀(i:Nat) (y:Nat×Nat),R[i]?=some y->i≠k->Live d' y.1 y.2/\(y.1=1\/y.1≠id'):=fun i y hy ah=>by
  have af:=Adp hy;rcases hR.1 y af with h|⟨j,e1,e2,e3,e4⟩
  ·exact⟨.inl h,.inl h.1⟩
  ·have ak:y.1≠x.1:=by
    rcases hR.2 i k y x hy hx ah with h|h
    ·omega
    ·exact h
   refine⟨.inr ⟨j,e1,Adf e2 ento,(etop j e2 Agm).trans e3,e4⟩,.inr ?_⟩;rcases hid with h|h<;>omega
 have aa:∀(i:Nat) (y:Nat×Nat),(R.set k (id',x.2+1))[i]?=some y->(i=k/\y=(id',x.2+1))\/(i≠k/\R[i]?=some y):=fun i y hy=>by
  rw[Adv]at hy;by_cases e:k=i
  ·subst e;rw[if_pos rfl,if_pos ai]at hy;exact .inl ⟨rfl,(Afm hy).symm⟩
  ·rw[if_neg e]at hy;exact .inr ⟨fun h=>e h.symm,hy⟩
 refine⟨⟨fun y hy=>?_,fun i j y z hy hz aj=>?_⟩,⟨eno,eob,ad,ento,fun j hj h=>etop j hj (fun e=>h x ae e.symm),fun y hy=>?_⟩⟩
 ·obtain⟨i,hi⟩:=Afc hy;rcases aa i y hi with⟨-,rfl⟩|⟨h1,h2⟩
  ·exact hL
  ·exact (ab i y h2 h1).1
 ·rcases aa i y hy with⟨h1,rfl⟩|⟨h1,h2⟩
  ·rcases aa j z hz with⟨h3,rfl⟩|⟨h3,h4⟩
   ·omega
   ·rcases (ab j z h4 h3).2 with h|h
    ·exact .inr fun e=>ac (Eq.trans e h)
    ·exact .inr (fun e=>h e.symm)
  ·rcases aa j z hz with⟨h3,rfl⟩|⟨h3,h4⟩
   ·exact (ab i y h2 h1).2
   ·exact hR.2 i j y z h2 h4 aj
 ·obtain⟨i,hi⟩:=Afc hy;rcases aa i y hi with⟨-,rfl⟩|⟨h1,h2⟩
  ·rcases hid with h|h
   ·exact .inl ⟨x,ae,h.symm⟩
   ·exact .inr (.inr h)
  ·exact .inl ⟨y,Adp h2,rfl⟩
abbrev BK:=List (Nat×List Tx)
def Ou (B:BK):List AV:=B.map fun x=>sl x.1 x.2.length (x.2.map str)
def Cv (ida nA:Nat)(cA:List AV)(fz:Bool)(mo:Int)(ido nO:Nat)(oc:List AV)(B:BK):List AV:=[sl ida nA cA,sc (.bool fz),sc (.int .i64 mo),sl ido nO oc]++Ou B
def Dh (ido nO:Nat)(B:BK):List (Nat×Nat):=(ido,nO)::B.map fun x=>(x.1,x.2.length)
structure WOb (d:St)(ow ida nA:Nat)(cA:List AV)(fz:Bool)(mo:Int)(ido:Nat)(O:List RAtom)(oc:List AV)(B:BK)(N:Nat):Prop where
 ob:d.obj ow=Cv ida nA cA fz mo ido O.length oc B
 lo:ow<d.nobj
 bl:B.length=4096
 oe:EL B6 O oc
 rw':Rws d (Dh ido O.length B)
 bn:∀x∈B,x.2.length<=N
theorem WOb.keep {d d':St}{ow ida nA:Nat}{cA:List AV}{fz:Bool}{mo:Int}{ido:Nat}{O:List RAtom}{oc:List AV}{B:BK}{N:Nat}(h:WOb d ow ida nA cA fz mo ido O oc B N)(k:Keep d d'):WOb d' ow ida nA cA fz mo ido O oc B N:=
 ⟨(k.obj _ h.lo).trans h.ob,Adf h.lo k.nobj,h.bl,h.oe,h.rw'.keep k,h.bn⟩
def U4 (n:Nat)(c:UInt8):Nat:=(n*31+c.toNat) % 4096
def Ib (s:Tx):Nat:=s.foldl U4 0
def P3 (B:BK)(s:Tx):Prop:=∃x,B[Ib s]?=some x/\s∈x.2
theorem Aau {B:BK}{s t:Tx}{id':Nat}{y:Nat×List Tx}(hy:B[Ib t]?=some y):P3 (B.set (Ib t) (id',y.2++[t])) s↔P3 B s\/s=t:=by
 have hl:=(Adm.1 hy).1;unfold P3;constructor
 ·rintro⟨x,hx,hm⟩;rw[Adv]at hx;by_cases e:Ib t=Ib s
  ·rw[if_pos e,if_pos Agm]at hx;cases hx;rcases Aet.1 hm with h|h
   ·exact .inl ⟨y,by rw[<-e];exact hy,h⟩
   ·exact .inr (by simpa using h)
  ·rw[if_neg e]at hx;exact .inl ⟨x,hx,hm⟩
 ·rintro (⟨x,hx,hm⟩|rfl)
  ·by_cases e:Ib t=Ib s
   ·rw[<-e,hy]at hx;cases hx;exact⟨_,by rw[<-e,Adv,if_pos rfl,if_pos hl],Af5 _ hm⟩
   ·exact⟨x,by rw[Adv,if_neg e];exact hx,hm⟩
  ·exact⟨_,by rw[Adv,if_pos rfl,if_pos hl],by simp⟩
theorem H0 {ida nA:Nat}{cA:List AV}{fz:Bool}{mo:Int}{ido nO:Nat}{oc:List AV}{B:BK}(hb:B.length=4096):(Cv ida nA cA fz mo ido nO oc B).length=4100:=by simp[Cv,Ou,hb]
theorem kE {ida nA:Nat}{cA:List AV}{fz:Bool}{mo:Int}{ido nO:Nat}{oc:List AV}{B:BK}{k:Nat}{y:Nat×List Tx}(hy:B[k]?=some y):(Cv ida nA cA fz mo ido nO oc B)[4+k]?=some (sl y.1 y.2.length (y.2.map str)):=by
 unfold Cv;rw[Aee (by simp)];simp[Ou,hy]
theorem dH {ida nA:Nat}{cA:List AV}{fz:Bool}{mo:Int}{ido nO:Nat}{oc:List AV}{B:BK}{k:Nat}{y:Nat×List Tx}:(Cv ida nA cA fz mo ido nO oc B).set (4+k) (sl y.1 y.2.length (y.2.map str))=Cv ida nA cA fz mo ido nO oc (B.set k y):=by
 unfold Cv;rw[List.set_append_right _ _ (by simp)];simp[Ou,List.map_set]
theorem rC {ido nO:Nat}{B:BK}{k:Nat}{y:Nat×List Tx}:Dh ido nO (B.set k y)=(Dh ido nO B).set (k+1) (y.1,y.2.length):=by
 simp[Dh,List.map_set]
theorem WOb.addB {d d':St}{ow ida nA:Nat}{cA:List AV}{fz:Bool}{mo:Int}{ido:Nat}{O:List RAtom}{oc:List AV}{B:BK}{N k id':Nat}{y:Nat×List Tx}{t:Tx}(h:WOb d ow ida nA cA fz mo ido O oc B N)(hy:B[k]?=some y)
  (hL:Live d' id' (y.2.length+1)) (hid:id'=y.1\/d.ntop+2<=id') (aa:id'≠1)
  (eob:∀o,o<d.nobj->o≠ow->d'.obj o=d.obj o) (ab:∀o,o<d.nobj->o≠ow->d'.ver o=d.ver o) (eno:d.nobj<=d'.nobj) (ento:d.ntop<=d'.ntop)
  (etop:∀j,j<d.ntop->j+2≠y.1->d'.top j=d.top j) (eow:d'.obj ow=(Cv ida nA cA fz mo ido O.length oc B).set (4+k) (sl id' (y.2.length+1) (y.2.map str++[str t]))):
  WOb d' ow ida nA cA fz mo ido O oc (B.set k (id',y.2++[t])) (N+1)/\KW ow (Dh ido O.length B) (Dh ido O.length (B.set k (id',y.2++[t]))) d d':=by
 have hx:(Dh ido O.length B)[k+1]?=some (y.1,y.2.length):=by simp[Dh,hy]
 obtain⟨g1,g2⟩:=Rws.grow (ow:=ow) h.rw' hx hL hid aa eob ab eno ento etop;have e:Dh ido O.length (B.set k (id',y.2++[t]))=(Dh ido O.length B).set (k+1) (id',y.2.length+1):=by rw[rC];simp
 rw[e];refine⟨⟨?_,Adf h.lo eno,by simp[h.bl],h.oe,by rw[e];exact g1,fun x hx=>?_⟩,g2⟩
 ·rw[eow,<-dH];simp
 ·rcases Af2 hx with h'|rfl
  ·have:=h.bn x h';omega
  ·have:=h.bn y (Adp hy);simp;omega
theorem nD (x:RItem)(c:List AV)(hc:EItem x c)(hx:cY x)(bb:x.body.length<=1000)(ow ida nA:Nat)(cA:List AV)(fz:Bool)(mo:Int)(ido:Nat)(O:List RAtom)(oc:List AV)(B:BK)(N:Nat)(hN:N<=1000000000000)(d:St)(hW:WOb d ow ida nA cA fz mo ido O oc B N):
  ACalls Tryz.prog 254 [ptr ow 0,ag c] d fun r d'=>(P3 B (Em x)/\r=sc (.bool true)/\Keep d d')\/(¬P3 B (Em x)/\r=sc (.bool false)/\∃id' y,B[Ib (Em x)]?=some y/\WOb d' ow ida nA cA fz mo ido O oc (B.set (Ib (Em x)) (id',y.2++[Em x])) (N+1)/\KW ow (Dh ido O.length B) (Dh ido O.length (B.set (Ib (Em x)) (id',y.2++[Em x]))) d d'):=by
 have ax:=fun d=>rE x c hc hx bb d;obtain⟨ih,id,b,hb,rfl⟩:=hc.cells;unfold A5;unfold A5 at ax;have bm:(Em x).length<=1200000000:=by
  have ak:∀l:List RAtom,(∀a∈l,clA a)->(l.flatMap fun a=>Kd a++[46]).length<=l.length*1100001:=by
   intro l;induction l with
   |nil=>intro _;simp
   |cons a l ih=>
    intro hh;have e1:=ih (fun u hu=>hh u (by simp[hu]));have e2:=vC (hh a (by simp));simp only[Ae0,Aeb,Aem,Ael];omega
  have:=ak (x.head::x.body) (fun a ha=>by
   rcases Ae2.1 ha with rfl|ha
   ·exact hx.2.1
   ·exact hx.2.2 a ha)
  unfold Em;simp only[Aem]at this;omega
 generalize Em x=k0 at*
 have a9:=hW.lo;have a7:=hW.ob;have bh:=H0 (ida:=ida) (nA:=nA) (cA:=cA) (fz:=fz) (mo:=mo) (ido:=ido) (nO:=O.length) (oc:=oc) hW.bl;refine Z9 61 [.tmp 4] Tryz.func254 ?_
 repeat' first|refine Z1 ?_|refine Z8 fun ya J=>?_|refine Z4 ?_;clear J ya|refine Z5 ?_;refine Xi (ax _) ?_;rintro _ _ ⟨rfl,ap⟩;(have aj:=ap.nobj;have ai:=ap.obj;simp only[Aa]at aj ai)|refine Z7 ?_|exact Zt|apply J.out;clear J ya
 rename_i d1;have ah:Keep d d1:=((Keep.refl d).new _).trans ap;have am:d1.obj ow=Cv ida nA cA fz mo ido O.length oc B:=by rw[ah.obj _ a9,a7]
 refine Ad (fun m s d'=>∃(i n:Nat),m=k0.length-i/\i<=k0.length/\s 0=ptr ow 0/\s 5=str k0/\s 6=sc (.int .i64 n)/\s 7=sc (.int .i64 i)/\d'=d1/\n<4096/\Agt (n=(k0.take i).foldl U4 0)) k0.length
  ⟨0,0,Agm,Agm,by simp[upd,initS],Ago,Ago,Ago,rfl,by decide,by simp[Agt]⟩ ?_
 rintro m s d' ⟨i,n,rfl,hi,h0,h5,h6,h7,rfl,hn,hH⟩;by_cases ad:i<k0.length
 ·have aa:=Adn ad;generalize k0[i]=ch at aa;have bp:ch.toNat<256:=ch.toNat_lt;have a8:Int.tmod ((n:Int)*31+(ch.toNat:Int)) 4096=((U4 n ch:Nat):Int):=rfl;have HN:Agt (U4 n ch=(k0.take (i+1)).foldl U4 0):=by
   rw[Agt,Ad0,aa,List.foldl_append,<-hH.out];rfl
  have bi:U4 n ch<4096:=Nat.mod_lt _ (by decide)
  repeat' first|refine Z1 ?_|refine Z8 fun ya J=>?_|refine Z4 ?_;clear J ya|refine Z2 ?_ ?_<;>intro h ab<;>try exact Xp|refine Z7 ?_|exact Zt|apply J.out;clear J ya
  refine⟨k0.length-(i+1),Agm,i+1,U4 n ch,?_⟩
  ((repeat' refine Zi ?_ ?_)<;>first|exact Xq|exact HN|exact Xs)
 ·have ba:i=k0.length:=Agm;subst ba;have au:n=Ib k0:=by have h:=hH.out;rw[Adu]at h;exact h
  obtain⟨y,hy⟩:∃y,B[n]?=some y:=⟨B[n]'(by rw[hW.bl];exact hn),Adn _⟩;have bo:=kE (ida:=ida) (nA:=nA) (cA:=cA) (fz:=fz) (mo:=mo) (ido:=ido) (nO:=O.length) (oc:=oc) hy;have bg:=hW.bn y (Adp hy);rw[<-au];have a3:Agt (P3 B k0↔k0∈y.2):=by
   unfold P3;rw[<-au];exact⟨fun⟨x,h1,h2⟩=>by rw[hy]at h1;cases h1;exact h2,fun h=>⟨y,hy,h⟩⟩
  have HY:Agt (B[n]?=some y):=hy;have HW:Agt _:=hW.keep ah;clear hH au hy ad hi;generalize av:Cv ida nA cA fz mo ido O.length oc B=wc at*
  have be:Agt _:=av;clear av
  repeat' first|refine Z1 ?_|refine Z8 fun ya J=>?_|refine Z4 ?_;clear J ya|refine Z2 ?_ ?_<;>intro h ab<;>try exact Xp|refine Z7 ?_|exact Zt|apply J.out;clear J ya
  refine Ad (fun m s τ=>∃(q:Nat),m=y.2.length-q/\q<=y.2.length/\s 0=ptr ow 0/\s 5=str k0/\s 6=sc (.int .i64 n)/\s 8=sc (.int .i64 q)/\τ=d'/\Agt (∀u∈y.2.take q,u≠k0)) y.2.length
   ⟨0,Agm,Agm,Agn,Agn,Agn,Ago,rfl,fun u hu=>by simp at hu⟩ ?_
  clear h0 h5 h6 h7;rintro m s d2 ⟨q,rfl,hq,h0,h5,h6,h8,rfl,ay⟩;by_cases ad:q<y.2.length
  ·have aa:=Adn ad;have hd:=A2 ad;have aw:=Aes ad;generalize y.2[q]=u at hd aa aw;by_cases hu:u=k0
   ·have a5:(u==k0)=true:=by simp[hu]
    have HR:Agt (P3 B k0):=a3.out.2 (hu ▸ aw);clear hu
    repeat' first|refine Z1 ?_|refine Z8 fun ya J=>?_|refine Z4 ?_;clear J ya|refine Z2 ?_ ?_<;>intro h ab<;>try exact Xp|refine Z7 ?_|exact Zt|apply J.out;clear J ya
    first
    |exact⟨_,rfl,.inl ⟨HR.out,rfl,ah⟩⟩
    |exact⟨_,rfl,.inl ⟨HR.out,rfl⟩⟩
   ·have a5:(u==k0)=false:=by simpa using hu
    have HN:Agt (∀u∈y.2.take (q+1),u≠k0):=fun v hv=>by
     rw[Ad0,aa]at hv;rcases Aet.1 hv with h'|h'
     ·exact ay.out v h'
     ·simp at h';subst h';exact hu
    clear hu
    repeat' first|refine Z1 ?_|refine Z8 fun ya J=>?_|refine Z4 ?_;clear J ya|refine Z2 ?_ ?_<;>intro h ab<;>try exact Xp|refine Z7 ?_|exact Zt|apply J.out;clear J ya
    refine⟨y.2.length-(q+1),Agm,q+1,?_⟩
    ((repeat' refine Zi ?_ ?_)<;>first|exact Xq|exact HN|exact Xs)
  ·have a6:q=y.2.length:=Agm;subst a6;have bf:Agt (¬P3 B k0):=fun h=>ay.out k0 (by rw[Adu];exact a3.out.1 h) rfl
   have bc:Live d2 y.1 y.2.length:=HW.out.rw'.1 (y.1,y.2.length) (by
    refine Ae7 _ (Ae4.2 ⟨y,Adp HY.out,rfl⟩))
   have a4:(y.2.map str).length=y.2.length*1:=by simp
   repeat' first|refine Z1 ?_|refine Z8 fun ya J=>?_|refine Z4 ?_;clear J ya|refine Z2 ?_ ?_<;>intro h ab<;>try exact Xp|refine Z7 ?_|exact Zt|apply J.out;clear J ya
   refine Bl (Q:=fun e s' d''=>e= .normal/\∃id',WOb d'' ow ida nA cA fz mo ido O oc (B.set n (id',y.2++[k0])) (N+1)/\KW ow (Dh ido O.length B) (Dh ido O.length (B.set n (id',y.2++[k0]))) d2 d'') ?_ ?_
   ·refine Ay Ag (fun _=>True) [14] [0,1,2,3,4,5,6,7,8,11,12] 4 #[true,true,true,true,true,true,true,true,true,false,false,true,true,false,false] Agp (fun _ _ _ h=>by cases h.1) ?_;intro ya J;refine Z7 ?_;refine J.out _ ?_;clear J ya;refine Ai (i:=9) Agp ?_;refine Am ?_;intro ya J;refine Z7 ?_;refine J.out _ _ ⟨Ao ((Keep.refl _).lay 1),?_⟩;clear J ya;refine Ai (i:=10) Agp ?_;refine Am ?_;intro ya J;refine Z7 ?_;refine Qu (by first|exact P9) bc (by decide) (by rfl) a4 (by rfl) (by rfl) (by decide) Agm Agm ?_;intro idn dn bd an ao af a0 ac az etop;refine Z7 ?_;refine J.out _ _ ⟨fun _ o ho _=>by rw[ac],?_⟩;clear J ya;have eow:dn.obj ow=wc:=by rw[af,am]
    refine Ai (i:=13) Agp ?_;refine Am ?_;intro ya J;refine Z7 ?_;refine J.out _ _ ⟨fun _ o ho _=>by rw[ac],?_⟩;clear J ya;refine Ai (i:=14) Agp ?_;refine Am ?_;intro ya J;refine Z7 ?_;refine J.out _ _ ⟨Bf rfl,?_⟩;clear J ya;refine Bb Agp ⟨rfl,idn,?_⟩;refine WOb.addB HW.out HY.out ?_ an ao ?_ ?_ ?_ ?_ ?_ ?_
    ·exact bd
    ·intro o ho ae;rw[show∀(S:St) c,(S.put ow c).obj o=S.obj o from fun S c=>by simp[St.put,ae],af]
    ·intro o ho ae;rw[show∀(S:St) c,(S.put ow c).ver o=S.ver o from fun S c=>by simp[St.put,ae],ac]
    ·simp only[Ac];omega
    ·simp only[Lk];omega
    ·intro j hj ae;rw[L9];exact etop j hj ae
    ·rw[Aj,be.out]
   ·rintro e s' d'' ⟨rfl,id',g1,g2⟩
    refine zx ?_
    exact⟨_,rfl,.inr ⟨bf.out,rfl,id',y,HY.out,g1,(KW.ofKeep ah).trans g2⟩⟩
theorem jB (x:RItem)(c:List AV)(A:List RAtom)(cA:List AV)(ida:Nat)(hc:EItem x c)(hx:x.fits)(hA:EL B6 A cA)(ao:A.length<=1000)(an:∀b∈A,b.terms.length<=1000)(d:St):ACalls Tryz.prog 256 [ag c,sl ida A.length cA] d fun r d'=>∃b,r=sc (.bool b)/\(b=true↔∃a∈x.body,a.nt=true/\qQ a∈A)/\Keep d d':=by
 obtain⟨ih,id,b,hb,rfl⟩:=hc.cells;have aw:=EL.length Bc hb;have ax:=hx.1;unfold A5;refine Z9 25 [.tmp 4] Tryz.func256 ?_
 refine zz ?_
 refine Ad (fun m s d'=>∃i:Nat,m=x.body.length-i/\i<=x.body.length/\s 1=sl ida A.length cA/\s 2=ptr d.nobj 0/\s 5=sc (.int .i64 i)/\Keep d d'/\d.nobj<d'.nobj/\d'.obj d.nobj=[sc (.bool x.out),sc (.bool x.head.nt),str x.head.pred,sl ih x.head.terms.length (x.head.terms.map str),sl id x.body.length b]/\Agt (∀a∈x.body.take i,¬(a.nt=true/\qQ a∈A))) x.body.length
  ⟨0,Agm,Agm,by simp[upd,initS],Ago,Ago,Xs,Agq,Al,fun a ha=>by simp at ha⟩ ?_
 rintro m s d' ⟨i,rfl,hi,h1,h2,h5,hK,av,au,hN⟩;have ap:=hK.nobj;by_cases ai:i<x.body.length
 ·have aa:=Adn ai;obtain⟨ia,r,hd⟩:=Cm hb aa;generalize x.body[i]=w at hd aa;have HS:Agt (¬(w.nt=true/\qQ w∈A)->∀a∈x.body.take (i+1),¬(a.nt=true/\qQ a∈A)):=fun hw a ha=>by
   rw[Ad0,aa]at ha;rcases Aet.1 ha with h'|h'
   ·exact hN.out a h'
   ·simp at h';subst h';exact hw
  have HM:Agt (w∈x.body):=Adp aa;clear aa;cases hnt:w.nt with
  |false=>
   have HN:Agt _:=HS.out (fun h=>by rw[hnt]at h;cases h.1);clear HS
   repeat' first|refine Z1 ?_|refine Z8 fun ya J=>?_|refine Z4 ?_;clear J ya|refine Z2 ?_ ?_<;>intro h ab<;>try exact Xp|refine Z3 ?_|exact Zt|apply J.out;clear J ya
   refine⟨x.body.length-(i+1),Agm,i+1,?_⟩
   ((repeat' refine Zi ?_ ?_)<;>first|exact Xq|exact HN|exact ((hK.new _).put hK.nobj _)|exact Xs)
  |true=>
   have am:=fun d=>Fx A cA ida (qQ w) [sc (.bool false),str w.pred,sl ia w.terms.length (w.terms.map str)] hA ⟨ia,rfl⟩ ao an d
   repeat' first|refine Z1 ?_|refine Z8 fun ya J=>?_|refine Z4 ?_;clear J ya|refine Z2 ?_ ?_<;>intro h ab<;>try exact Xp|refine Z5 ?_;refine Xi (am _) ?_;rintro _ _ ⟨bo,rfl,af,ac⟩;(have ah:Agt _:=af;clear af;have ae:=ac.nobj;have ad:=ac.obj;simp only[Ac,Aa]at ae ad)|refine Z3 ?_|exact Zt|apply J.out;clear J ya
   ·have ak:(true=true↔∃a∈x.body,a.nt=true/\qQ a∈A):=⟨fun _=>⟨w,HM.out,hnt,ah.out.1 (by assumption)⟩,fun _=>rfl⟩;exact⟨_,rfl,true,rfl,ak,(((hK.new _).put hK.nobj _).put hK.nobj _).trans ac⟩
   ·have HN:Agt _:=HS.out (fun h=>by
     have h1:=ah.out.2 h.2;have h2:bo=false:=by assumption
     rw[h2]at h1;cases h1)
    refine⟨x.body.length-(i+1),Agm,i+1,?_⟩
    ((repeat' refine Zi ?_ ?_)<;>first|exact Xq|exact HN|exact ((((hK.new _).put hK.nobj _).put hK.nobj _).trans ac)|exact Xs)
 ·have aj:i=x.body.length:=Agm;subst aj;have HB:(false=true↔∃a∈x.body,a.nt=true/\qQ a∈A):=⟨fun h=>(by cases h),fun⟨a,ha,h⟩=>absurd h (hN.out a (by rw[Adu];exact ha))⟩
  repeat' first|refine Z1 ?_|refine Z8 fun ya J=>?_|refine Z4 ?_;clear J ya|refine Z2 ?_ ?_<;>intro h ab<;>try exact Xp|refine Z3 ?_|exact Zt|apply J.out;clear J ya
  first|exact⟨_,rfl,false,rfl,HB,hK⟩|exact⟨false,rfl,HB,hK⟩|exact⟨_,rfl,false,rfl,HB⟩
def Gm (c0 a:Nat):Nat->Nat
 |0=>c0
 |p+1=>1+a*Gm c0 a p
structure Gx (A:List RAtom)(cA:List AV):Prop where
 el:EL B6 A cA
 len:A.length<=1000
 gnd:∀a∈A,We a
 cl:∀a∈A,clA a
structure HalfOk (fz:Bool)(c0 p:Nat)(x:RItem):Prop where
 cl:cY x
 len:x.body.length<=1000
 saf:nG fz x
 cnt:x.body.countP (Nj fz)=p
 neg:c0=1\/∀a∈x.body,Nj fz a=true
theorem HalfOk.fits {fz:Bool}{c0 p:Nat}{x:RItem}(h:HalfOk fz c0 p x):x.fits:=⟨h.len,h.cl.2.1.2.2,fun a ha=>(h.cl.2.2 a ha).2.2⟩
theorem cK {α:Type}(p:α->Bool){l:List α}{j:Nat}{a:α}(h:l[j]?=some a)(ha:p a=true):(l.eraseIdx j).countP p+1=l.countP p:=by
 have hj:=(Adm.1 h).1;have he:=(Adm.1 h).2;have e:l=l.take j++a::l.drop (j+1):=by
  rw[<-he,List.getElem_cons_drop,Afq]
 rw[List.eraseIdx_eq_take_drop_succ,Afw];have e2:l.countP p=(l.take j).countP p+((l.drop (j+1)).countP p+1):=by
  conv=>lhs;rw[e]
  rw[Afw,Afx,if_pos ha]
 omega
theorem HalfOk.step {fz:Bool}{c0 p:Nat}{x y:RItem}{j:Nat}{t b:RAtom}(h:HalfOk fz c0 (p+1) x)(hb:x.body[j]?=some b)(hp:Nj fz b=true)(hg:We t)(hc:clA t)(hy:Jf x j t=some y):HalfOk fz c0 p (Cw y j)/\(Cw y j).body.length=x.body.length-1:=by
 obtain⟨b',af,θ,hT,rfl,aa,-⟩:=R9 hy h.cl.1 hg;have ac:=(Adm.1 hb).1;have hl:(Cw (Pf θ x) j).body.length=x.body.length-1:=by
  simp only[Cw,Pf];rw[List.length_eraseIdx_of_lt (by simpa using ac),Ae3]
 refine⟨⟨Aai h.cl hc hg hy,by have:=h.len;omega,vG h.saf h.cl.1 hg hy,?_,?_⟩,hl⟩
 ·have ae:(Pf θ x).body.countP (Nj fz)=p+1:=by
   rw[<-h.cnt];simp only[Pf];rw[List.countP_map];rfl
  have ab:Nj fz t=true:=by
   have:(Pf θ x).body[j]?=some (F3 θ b):=by simp[Pf,hb]
   rw[this]at aa;cases aa;exact hp
  have:=cK (Nj fz) aa ab;show ((Pf θ x).body.eraseIdx j).countP (Nj fz)=p;omega
 ·rcases h.neg with h'|h'
  ·exact .inl h'
  ·refine .inr fun a ha=>?_;obtain⟨a',ad,rfl⟩:=Ae4.1 (Afn ha);exact h' a' ad
def Rj (fz:Bool)(A:List RAtom)(cA:List AV)(ida:Nat)(mo:Int)(c0 p:Nat)(x:RItem)(ow ido:Nat)(O:List RAtom)(B:BK)(N:Nat)(d d':St):Prop:=
 ∃ido' O' oc' B' N',WOb d' ow ida A.length cA fz mo ido' O' oc' B' N'/\KW ow (Dh ido O.length B) (Dh ido' O'.length B') d d'/\V9 fz A mo x O (P3 B) O' (P3 B')/\N'+O.length<=N+O'.length+Gm c0 A.length p
end Go.Proofs.YtmoeoppbmhfbpaaGreatDoorD
