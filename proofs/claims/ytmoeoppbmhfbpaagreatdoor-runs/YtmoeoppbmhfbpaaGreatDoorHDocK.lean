import Derived.Test.YtmoeoppbmhfbpaaGreatDoorHDocC
import Derived.Test.YtmoeoppbmhfbpaaGreatDoorHEngO
import Derived.Test.YtmoeoppbmhfbpaaGreatDoorHEngR
import Derived.Test.YtmoeoppbmhfbpaaGreatDoorHRspD
set_option maxHeartbeats 32000000
set_option maxRecDepth 100000
set_option linter.all false
namespace Go.Proofs.YtmoeoppbmhfbpaaGreatDoorH
open Go.Abs
theorem qP {a:RAtom}(h:clA a):(Jq a).length<=1100000:=by
 have h1:=h.1.2;have h3:=h.2.2;have hT:∀ts:List Tx,(∀t∈ts,Clean t)->(ts.flatMap fun t=>(44:UInt8)::t).length<=ts.length*1001:=by
  intro ts;induction ts with
  |nil=>intro _;simp
  |cons t ts ih=>
   intro hh;have e1:=ih (fun u hu=>hh u (by simp[hu]));have e2:=(hh t (by simp)).2;simp only[Aca,Abj,Abv];omega
 have h2:=hT a.terms h.2.1;unfold Jq;simp only[Abj];have:(if a.nt=true then [(33:UInt8)]else []).length<=1:=by split<;>simp
 omega
def Ms (x:RItem)(i:Nat):Tx:=((x.head::x.body).take i).flatMap fun a=>Jq a++[46]
theorem Ww {x:RItem}{i:Nat}{w:RAtom}(h:(x.head::x.body)[i]?=some w):Ms x (i+1)=Ms x i++(Jq w++[46]):=by
 unfold Ms;rw[Aa8,h,Ab7];simp
theorem nG (x:RItem)(c:List AV)(hc:EItem x c)(hx:Zp x)(a6:x.body.length<=1000)(d:St):ACalls Tryz.prog 268 [ag c] d fun r d'=>r=str (Ed x)/\Keep d d':=by
 obtain⟨ih,id,b,hb,rfl⟩:=hc.cells;have a5:=EL.length Ba hb;have a9:({data:=#[33]}:ByteArray)=bs [33]:=rfl;have a8:({data:=#[44]}:ByteArray)=bs [44]:=rfl;have a7:({data:=#[46]}:ByteArray)=bs [46]:=rfl;unfold Bo;refine Z9 49 [.tmp 2] Tryz.func268 ?_
 repeat' (first|refine Z1 ?_|(refine Z8 ?_;intro ya J)|(refine Z4 ?_;clear J ya)|(refine Z2 ?_ ?_<;>intro h ab<;>try exact Xp)|refine Z7 ?_|exact Zt|(apply J.out;clear J ya))
 refine Ab (fun m s d'=>∃(i:Nat) (n:Int) (acc:Tx),m=x.body.length+1-i/\i<=x.body.length+1/\n=(i:Int)-1/\s 1=ptr d.nobj 0/\s 3=str acc/\s 4=sc (.int .i64 n)/\Keep d d'/\d.nobj<d'.nobj/\d'.obj d.nobj=[sc (.bool x.out),sc (.bool x.head.nt),str x.head.pred,sl ih x.head.terms.length (x.head.terms.map str),sl id x.body.length b]/\acc.length<=i*1100001/\Ad8 (acc=Ms x i)) (x.body.length+1)
  ⟨0,-1,[],Ad2,Ad2,Ad2,Ad4,Ad4,Ad4,Xs,Ad6,Am,by simp,by simp[Ad8,Ms]⟩ ?_
 rintro m s d1 ⟨i,n,acc,rfl,hi,hn,h1,h3,h4,hK,af,ae,ah,hA⟩;have aj:=hK.nobj;by_cases ac:i<x.body.length+1
 ·have HA:Ad8 _:=hA.out;clear hA;have a4:decide (n<(x.body.length:Int))=true:=by simp;omega
  have az:n<=(i:Int)-1/\(i:Int)-1<=n:=Ad2;clear hn;by_cases h0:i=0
  ·have ao:decide ((0:Int)<=n)=false:=by simp;omega
   have ai:decide (n>=0)=false:=ao;have HW:Ad8 (Ms x (i+1)=Ms x i++(Jq x.head++[46])):=Ww (by rw[h0];rfl);have hw:=hx.2.1;have ax:=hw.1.2;have au:=hw.2.2;clear h0;cases ad:x.head.nt with
   |true=>
    repeat' (first|refine Z1 ?_|(refine Z8 ?_;intro ya J)|(refine Z4 ?_;clear J ya)|(refine Z2 ?_ ?_<;>intro h ab<;>try exact Xp)|refine Z7 ?_|exact Zt|(apply J.out;clear J ya))
    refine Ab (fun m s d'=>∃(k:Nat) (acc2:Tx),m=x.head.terms.length-k/\k<=x.head.terms.length/\s 1=ptr d.nobj 0/\s 3=str acc2/\s 4=sc (.int .i64 n)/\s 5=ptr d1.nobj 0/\s 6=sc (.int .i64 k)/\Keep d d'/\d1.nobj<d'.nobj/\d'.obj d.nobj=[sc (.bool x.out),sc (.bool x.head.nt),str x.head.pred,sl ih x.head.terms.length (x.head.terms.map str),sl id x.body.length b]/\d'.obj d1.nobj=[sc (.bool x.head.nt),str x.head.pred,sl ih x.head.terms.length (x.head.terms.map str)]/\acc2.length<=i*1100001+1001+k*1001/\Ad8 (acc2=(acc++[33]++x.head.pred)++(x.head.terms.take k).flatMap fun t=>44::t)) x.head.terms.length
     ⟨0,(acc++[33]++x.head.pred),Ad2,Ad2,Ad3,Ad4,Ad3,Ad4,Ad4,Xs,Ad7,by simp (disch:=omega) only[Al,Ai,Aa,ae,ad],by simp only[Ak,ad],by simp only[Abj,Abv,Abu];omega,by simp[Ad8]⟩ ?_
    have am:=af;clear h1 h3 h4 ae af hK aj ah ao ai;rintro m s d' ⟨k,acc2,rfl,hk,h1,h3,h4,h5,h6,hK,af,ae,av,ah,hA⟩;have aj:=hK.nobj;by_cases ac:k<x.head.terms.length
    ·have aa:=Aav ac;have hd:=Bc ac;have ak:=(hw.2.1 _ (Ab1 ac)).2;generalize x.head.terms[k]=t at hd aa ak;have HN:Ad8 ((acc2++[44])++t=(acc++[33]++x.head.pred)++(x.head.terms.take (k+1)).flatMap fun t=>44::t):=by
      rw[Ad8,Aa8,aa,Ab7,hA.out];simp
     have HL:((acc2++[44])++t).length<=i*1100001+1001+(k+1)*1001:=by simp only[Abj,Abv,Abu];omega
     clear aa
     repeat' (first|refine Z1 ?_|(refine Z8 ?_;intro ya J)|(refine Z4 ?_;clear J ya)|(refine Z2 ?_ ?_<;>intro h ab<;>try exact Xp)|refine Z7 ?_|exact Zt|(apply J.out;clear J ya))
     refine⟨x.head.terms.length-(k+1),Ad2,k+1,(acc2++[44])++t,?_⟩
     ((repeat' refine Zi ?_ ?_)<;>first|exact Xq|exact HN|exact HL|exact Xs)
    ·have an:k=x.head.terms.length:=Ad2;subst an;have HN:Ad8 (acc2++[46]=Ms x (i+1)):=by
      rw[Ad8,HW.out,hA.out,Aa3,<-HA.out];simp[Jq,ad]
     have ap:acc2.length<=i*1100001+1100000:=Aal ah (by rw[Aa5];exact Adl (Aal (Adl (Aar 1001 au) 1001) (by decide)) _);have HL:(acc2++[46]).length<=(i+1)*1100001:=by simp only[Abj,Abv,Abu];omega
     repeat' (first|refine Z1 ?_|(refine Z8 ?_;intro ya J)|(refine Z4 ?_;clear J ya)|(refine Z2 ?_ ?_<;>intro h ab<;>try exact Xp)|refine Z7 ?_|exact Zt|(apply J.out;clear J ya))
     refine⟨x.body.length+1-(i+1),Ad2,i+1,n+1,acc2++[46],?_⟩
     ((repeat' refine Zi ?_ ?_)<;>first|exact Xq|exact HN|exact HL|exact Xs)
   |false=>
    repeat' (first|refine Z1 ?_|(refine Z8 ?_;intro ya J)|(refine Z4 ?_;clear J ya)|(refine Z2 ?_ ?_<;>intro h ab<;>try exact Xp)|refine Z7 ?_|exact Zt|(apply J.out;clear J ya))
    refine Ab (fun m s d'=>∃(k:Nat) (acc2:Tx),m=x.head.terms.length-k/\k<=x.head.terms.length/\s 1=ptr d.nobj 0/\s 3=str acc2/\s 4=sc (.int .i64 n)/\s 5=ptr d1.nobj 0/\s 6=sc (.int .i64 k)/\Keep d d'/\d1.nobj<d'.nobj/\d'.obj d.nobj=[sc (.bool x.out),sc (.bool x.head.nt),str x.head.pred,sl ih x.head.terms.length (x.head.terms.map str),sl id x.body.length b]/\d'.obj d1.nobj=[sc (.bool x.head.nt),str x.head.pred,sl ih x.head.terms.length (x.head.terms.map str)]/\acc2.length<=i*1100001+1001+k*1001/\Ad8 (acc2=(acc++x.head.pred)++(x.head.terms.take k).flatMap fun t=>44::t)) x.head.terms.length
     ⟨0,(acc++x.head.pred),Ad2,Ad2,Ad3,Ad4,Ad3,Ad4,Ad4,Xs,Ad7,by simp (disch:=omega) only[Al,Ai,Aa,ae,ad],by simp only[Ak,ad],by simp only[Abj,Abv,Abu];omega,by simp[Ad8]⟩ ?_
    have am:=af;clear h1 h3 h4 ae af hK aj ah ao ai;rintro m s d' ⟨k,acc2,rfl,hk,h1,h3,h4,h5,h6,hK,af,ae,av,ah,hA⟩;have aj:=hK.nobj;by_cases ac:k<x.head.terms.length
    ·have aa:=Aav ac;have hd:=Bc ac;have ak:=(hw.2.1 _ (Ab1 ac)).2;generalize x.head.terms[k]=t at hd aa ak;have HN:Ad8 ((acc2++[44])++t=(acc++x.head.pred)++(x.head.terms.take (k+1)).flatMap fun t=>44::t):=by
      rw[Ad8,Aa8,aa,Ab7,hA.out];simp
     have HL:((acc2++[44])++t).length<=i*1100001+1001+(k+1)*1001:=by simp only[Abj,Abv,Abu];omega
     clear aa
     repeat' (first|refine Z1 ?_|(refine Z8 ?_;intro ya J)|(refine Z4 ?_;clear J ya)|(refine Z2 ?_ ?_<;>intro h ab<;>try exact Xp)|refine Z7 ?_|exact Zt|(apply J.out;clear J ya))
     refine⟨x.head.terms.length-(k+1),Ad2,k+1,(acc2++[44])++t,?_⟩
     ((repeat' refine Zi ?_ ?_)<;>first|exact Xq|exact HN|exact HL|exact Xs)
    ·have an:k=x.head.terms.length:=Ad2;subst an;have HN:Ad8 (acc2++[46]=Ms x (i+1)):=by
      rw[Ad8,HW.out,hA.out,Aa3,<-HA.out];simp[Jq,ad]
     have ap:acc2.length<=i*1100001+1100000:=Aal ah (by rw[Aa5];exact Adl (Aal (Adl (Aar 1001 au) 1001) (by decide)) _);have HL:(acc2++[46]).length<=(i+1)*1100001:=by simp only[Abj,Abv,Abu];omega
     repeat' (first|refine Z1 ?_|(refine Z8 ?_;intro ya J)|(refine Z4 ?_;clear J ya)|(refine Z2 ?_ ?_<;>intro h ab<;>try exact Xp)|refine Z7 ?_|exact Zt|(apply J.out;clear J ya))
     refine⟨x.body.length+1-(i+1),Ad2,i+1,n+1,acc2++[46],?_⟩
     ((repeat' refine Zi ?_ ?_)<;>first|exact Xq|exact HN|exact HL|exact Xs)
  ·have ao:decide ((0:Int)<=n)=true:=by simp;omega
   have ai:decide (n>=0)=true:=ao;have a3:0<=n:=Ad2;have aw:n.toNat<x.body.length:=Ad2;have a0:n<(x.body.length:Int):=Ad2;have aa:=Aav aw;have hw:=hx.2.2 _ (Ab1 aw);obtain⟨ia,r,hd⟩:=B8 hb aa;generalize x.body[n.toNat]=w at aa hw hd;have HW:Ad8 (Ms x (i+1)=Ms x i++(Jq w++[46])):=Ww (by rw[show i=n.toNat+1 by omega];exact aa);have ax:=hw.1.2;have au:=hw.2.2;clear aa h0;cases ad:w.nt with
   |true=>
    repeat' (first|refine Z1 ?_|(refine Z8 ?_;intro ya J)|(refine Z4 ?_;clear J ya)|(refine Z2 ?_ ?_<;>intro h ab<;>try exact Xp)|refine Z7 ?_|exact Zt|(apply J.out;clear J ya))
    refine Ab (fun m s d'=>∃(k:Nat) (acc2:Tx),m=w.terms.length-k/\k<=w.terms.length/\s 1=ptr d.nobj 0/\s 3=str acc2/\s 4=sc (.int .i64 n)/\s 5=ptr d1.nobj 0/\s 6=sc (.int .i64 k)/\Keep d d'/\d1.nobj<d'.nobj/\d'.obj d.nobj=[sc (.bool x.out),sc (.bool x.head.nt),str x.head.pred,sl ih x.head.terms.length (x.head.terms.map str),sl id x.body.length b]/\d'.obj d1.nobj=[sc (.bool w.nt),str w.pred,sl ia w.terms.length (w.terms.map str)]/\acc2.length<=i*1100001+1001+k*1001/\Ad8 (acc2=(acc++[33]++w.pred)++(w.terms.take k).flatMap fun t=>44::t)) w.terms.length
     ⟨0,(acc++[33]++w.pred),Ad2,Ad2,Ad3,Ad4,Ad3,Ad4,Ad4,Xs,Ad7,by simp (disch:=omega) only[Al,Ai,Aa,ae,ad],by simp only[Ak,ad],by simp only[Abj,Abv,Abu];omega,by simp[Ad8]⟩ ?_
    have am:=af;clear h1 h3 h4 ae af hK aj ah ao ai;rintro m s d' ⟨k,acc2,rfl,hk,h1,h3,h4,h5,h6,hK,af,ae,av,ah,hA⟩;have aj:=hK.nobj;by_cases ac:k<w.terms.length
    ·have aa:=Aav ac;have hd:=Bc ac;have ak:=(hw.2.1 _ (Ab1 ac)).2;generalize w.terms[k]=t at hd aa ak;have HN:Ad8 ((acc2++[44])++t=(acc++[33]++w.pred)++(w.terms.take (k+1)).flatMap fun t=>44::t):=by
      rw[Ad8,Aa8,aa,Ab7,hA.out];simp
     have HL:((acc2++[44])++t).length<=i*1100001+1001+(k+1)*1001:=by simp only[Abj,Abv,Abu];omega
     clear aa
     repeat' (first|refine Z1 ?_|(refine Z8 ?_;intro ya J)|(refine Z4 ?_;clear J ya)|(refine Z2 ?_ ?_<;>intro h ab<;>try exact Xp)|refine Z7 ?_|exact Zt|(apply J.out;clear J ya))
     refine⟨w.terms.length-(k+1),Ad2,k+1,(acc2++[44])++t,?_⟩
     ((repeat' refine Zi ?_ ?_)<;>first|exact Xq|exact HN|exact HL|exact Xs)
    ·have an:k=w.terms.length:=Ad2;subst an;have HN:Ad8 (acc2++[46]=Ms x (i+1)):=by
      rw[Ad8,HW.out,hA.out,Aa3,<-HA.out];simp[Jq,ad]
     have ap:acc2.length<=i*1100001+1100000:=Aal ah (by rw[Aa5];exact Adl (Aal (Adl (Aar 1001 au) 1001) (by decide)) _);have HL:(acc2++[46]).length<=(i+1)*1100001:=by simp only[Abj,Abv,Abu];omega
     repeat' (first|refine Z1 ?_|(refine Z8 ?_;intro ya J)|(refine Z4 ?_;clear J ya)|(refine Z2 ?_ ?_<;>intro h ab<;>try exact Xp)|refine Z7 ?_|exact Zt|(apply J.out;clear J ya))
     refine⟨x.body.length+1-(i+1),Ad2,i+1,n+1,acc2++[46],?_⟩
     ((repeat' refine Zi ?_ ?_)<;>first|exact Xq|exact HN|exact HL|exact Xs)
   |false=>
    repeat' (first|refine Z1 ?_|(refine Z8 ?_;intro ya J)|(refine Z4 ?_;clear J ya)|(refine Z2 ?_ ?_<;>intro h ab<;>try exact Xp)|refine Z7 ?_|exact Zt|(apply J.out;clear J ya))
    refine Ab (fun m s d'=>∃(k:Nat) (acc2:Tx),m=w.terms.length-k/\k<=w.terms.length/\s 1=ptr d.nobj 0/\s 3=str acc2/\s 4=sc (.int .i64 n)/\s 5=ptr d1.nobj 0/\s 6=sc (.int .i64 k)/\Keep d d'/\d1.nobj<d'.nobj/\d'.obj d.nobj=[sc (.bool x.out),sc (.bool x.head.nt),str x.head.pred,sl ih x.head.terms.length (x.head.terms.map str),sl id x.body.length b]/\d'.obj d1.nobj=[sc (.bool w.nt),str w.pred,sl ia w.terms.length (w.terms.map str)]/\acc2.length<=i*1100001+1001+k*1001/\Ad8 (acc2=(acc++w.pred)++(w.terms.take k).flatMap fun t=>44::t)) w.terms.length
     ⟨0,(acc++w.pred),Ad2,Ad2,Ad3,Ad4,Ad3,Ad4,Ad4,Xs,Ad7,by simp (disch:=omega) only[Al,Ai,Aa,ae,ad],by simp only[Ak,ad],by simp only[Abj,Abv,Abu];omega,by simp[Ad8]⟩ ?_
    have am:=af;clear h1 h3 h4 ae af hK aj ah ao ai;rintro m s d' ⟨k,acc2,rfl,hk,h1,h3,h4,h5,h6,hK,af,ae,av,ah,hA⟩;have aj:=hK.nobj;by_cases ac:k<w.terms.length
    ·have aa:=Aav ac;have hd:=Bc ac;have ak:=(hw.2.1 _ (Ab1 ac)).2;generalize w.terms[k]=t at hd aa ak;have HN:Ad8 ((acc2++[44])++t=(acc++w.pred)++(w.terms.take (k+1)).flatMap fun t=>44::t):=by
      rw[Ad8,Aa8,aa,Ab7,hA.out];simp
     have HL:((acc2++[44])++t).length<=i*1100001+1001+(k+1)*1001:=by simp only[Abj,Abv,Abu];omega
     clear aa
     repeat' (first|refine Z1 ?_|(refine Z8 ?_;intro ya J)|(refine Z4 ?_;clear J ya)|(refine Z2 ?_ ?_<;>intro h ab<;>try exact Xp)|refine Z7 ?_|exact Zt|(apply J.out;clear J ya))
     refine⟨w.terms.length-(k+1),Ad2,k+1,(acc2++[44])++t,?_⟩
     ((repeat' refine Zi ?_ ?_)<;>first|exact Xq|exact HN|exact HL|exact Xs)
    ·have an:k=w.terms.length:=Ad2;subst an;have HN:Ad8 (acc2++[46]=Ms x (i+1)):=by
      rw[Ad8,HW.out,hA.out,Aa3,<-HA.out];simp[Jq,ad]
     have ap:acc2.length<=i*1100001+1100000:=Aal ah (by rw[Aa5];exact Adl (Aal (Adl (Aar 1001 au) 1001) (by decide)) _);have HL:(acc2++[46]).length<=(i+1)*1100001:=by simp only[Abj,Abv,Abu];omega
     repeat' (first|refine Z1 ?_|(refine Z8 ?_;intro ya J)|(refine Z4 ?_;clear J ya)|(refine Z2 ?_ ?_<;>intro h ab<;>try exact Xp)|refine Z7 ?_|exact Zt|(apply J.out;clear J ya))
     refine⟨x.body.length+1-(i+1),Ad2,i+1,n+1,acc2++[46],?_⟩
     ((repeat' refine Zi ?_ ?_)<;>first|exact Xq|exact HN|exact HL|exact Xs)
 ·have ay:i=x.body.length+1:=Ad2;subst ay;have hA:=hA.out;have:Ms x (x.body.length+1)=Ed x:=by unfold Ms Ed;rw[Abz (by simp)]
  rw[this]at hA;subst hA
  repeat' (first|refine Z1 ?_|(refine Z8 ?_;intro ya J)|(refine Z4 ?_;clear J ya)|(refine Z2 ?_ ?_<;>intro h ab<;>try exact Xp)|refine Z7 ?_|exact Zt|(apply J.out;clear J ya))
  first|exact⟨_,rfl,rfl,hK⟩|exact⟨_,rfl,rfl⟩|exact⟨rfl,hK⟩
def Rws (d:St)(R:List (Nat×Nat)):Prop:=(∀x∈R,Live d x.1 x.2)/\∀(i j:Nat) (x y:Nat×Nat),R[i]?=some x->R[j]?=some y->i≠j->x.1=1\/x.1≠y.1
theorem Rws.keep {d d':St}{R:List (Nat×Nat)}(h:Rws d R)(k:Keep d d'):Rws d' R:=⟨fun x hx=>(h.1 x hx).keep k,h.2⟩
structure KW (ow:Nat)(R R':List (Nat×Nat))(d d':St):Prop where
 nobj:d.nobj<=d'.nobj
 obj:∀o,o<d.nobj->o≠ow->d'.obj o=d.obj o
 ver:∀o,o<d.nobj->o≠ow->d'.ver o=d.ver o
 ntop:d.ntop<=d'.ntop
 top:∀k,k<d.ntop->(∀x∈R,x.1≠k+2)->d'.top k=d.top k
 mid:∀x∈R',(∃y∈R,y.1=x.1)\/x.1=1\/d.ntop+2<=x.1
theorem KW.ofKeep {ow:Nat}{R:List (Nat×Nat)}{d d':St}(h:Keep d d'):KW ow R R d d':=
 ⟨h.nobj,fun o ho _=>h.obj o ho,fun o ho _=>h.ver o ho,h.ntop,fun k hk _=>h.top k hk,fun x hx=>.inl ⟨x,hx,rfl⟩⟩
theorem KW.trans {ow:Nat}{M M1 M2:List (Nat×Nat)}{d d1 d2:St}(h:KW ow M M1 d d1)(g:KW ow M1 M2 d1 d2):KW ow M M2 d d2 where
 nobj:=Aal h.nobj g.nobj
 obj:=fun o ho h1=>(g.obj o (Aam ho h.nobj) h1).trans (h.obj o ho h1)
 ver:=fun o ho h1=>(g.ver o (Aam ho h.nobj) h1).trans (h.ver o ho h1)
 ntop:=Aal h.ntop g.ntop
 top:=fun k hk hx=>(g.top k (Aam hk h.ntop) (fun x aa e=>by
  rcases h.mid x aa with⟨y,hy,e2⟩|e2|e2
  ·exact hx y hy (e2.trans e)
  ·omega
  ·omega)).trans (h.top k hk hx)
 mid:=fun x hx=>by
  rcases g.mid x hx with⟨y,hy,e⟩|e|e
  ·rcases h.mid y hy with⟨z,hz,e2⟩|e2|e2
   ·exact .inl ⟨z,hz,e2.trans e⟩
   ·exact .inr (.inl Ad2)
   ·exact .inr (.inr Ad2)
  ·exact .inr (.inl e)
  ·exact .inr (.inr (by have:=h.ntop;omega))
theorem Rws.grow {d d':St}{ow:Nat}{R:List (Nat×Nat)}{k id':Nat}{x:Nat×Nat}(hR:Rws d R)(hx:R[k]?=some x)(hL:Live d' id' (x.2+1))(hid:id'=x.1\/d.ntop+2<=id')(ac:id'≠1)
  (eob:∀o,o<d.nobj->o≠ow->d'.obj o=d.obj o) (ad:∀o,o<d.nobj->o≠ow->d'.ver o=d.ver o) (eno:d.nobj<=d'.nobj) (ento:d.ntop<=d'.ntop)
  (etop:∀j,j<d.ntop->j+2≠x.1->d'.top j=d.top j):Rws d' (R.set k (id',x.2+1))/\KW ow R (R.set k (id',x.2+1)) d d':=by
 have ae:=Aax hx;have ai:k<R.length:=(Aau.1 hx).1;have ab:∀(i:Nat) (y:Nat×Nat),R[i]?=some y->i≠k->Live d' y.1 y.2/\(y.1=1\/y.1≠id'):=fun i y hy ah=>by
  have af:=Aax hy;rcases hR.1 y af with h|⟨j,e1,e2,e3,e4⟩
  ·exact⟨.inl h,.inl h.1⟩
  ·have ak:y.1≠x.1:=by
    rcases hR.2 i k y x hy hx ah with h|h
    ·omega
    ·exact h
   refine⟨.inr ⟨j,e1,Aam e2 ento,(etop j e2 Ad2).trans e3,e4⟩,.inr ?_⟩;rcases hid with h|h<;>omega
 have aa:∀(i:Nat) (y:Nat×Nat),(R.set k (id',x.2+1))[i]?=some y->(i=k/\y=(id',x.2+1))\/(i≠k/\R[i]?=some y):=fun i y hy=>by
  rw[Aa4]at hy;by_cases e:k=i
  ·subst e;rw[if_pos rfl,if_pos ai]at hy;exact .inl ⟨rfl,(Ac9 hy).symm⟩
  ·rw[if_neg e]at hy;exact .inr ⟨fun h=>e h.symm,hy⟩
 refine⟨⟨fun y hy=>?_,fun i j y z hy hz aj=>?_⟩,⟨eno,eob,ad,ento,fun j hj h=>etop j hj (fun e=>h x ae e.symm),fun y hy=>?_⟩⟩
 ·obtain⟨i,hi⟩:=Acp hy;rcases aa i y hi with⟨-,rfl⟩|⟨h1,h2⟩
  ·exact hL
  ·exact (ab i y h2 h1).1
 ·rcases aa i y hy with⟨h1,rfl⟩|⟨h1,h2⟩
  ·rcases aa j z hz with⟨h3,rfl⟩|⟨h3,h4⟩
   ·omega
   ·rcases (ab j z h4 h3).2 with h|h
    ·exact .inr fun e=>ac (Eq.trans e h)
    ·exact .inr (fun e=>h e.symm)
  ·rcases aa j z hz with⟨h3,rfl⟩|⟨h3,h4⟩
   ·exact (ab i y h2 h1).2
   ·exact hR.2 i j y z h2 h4 aj
 ·obtain⟨i,hi⟩:=Acp hy;rcases aa i y hi with⟨-,rfl⟩|⟨h1,h2⟩
  ·rcases hid with h|h
   ·exact .inl ⟨x,ae,h.symm⟩
   ·exact .inr (.inr h)
  ·exact .inl ⟨y,Aax h2,rfl⟩
abbrev BK:=List (Nat×List Tx)
def Nc (B:BK):List AV:=B.map fun x=>sl x.1 x.2.length (x.2.map str)
def Ck (ida nA:Nat)(cA:List AV)(fz:Bool)(mo:Int)(ido nO:Nat)(oc:List AV)(B:BK):List AV:=[sl ida nA cA,sc (.bool fz),sc (.int .i64 mo),sl ido nO oc]++Nc B
def C1 (ido nO:Nat)(B:BK):List (Nat×Nat):=(ido,nO)::B.map fun x=>(x.1,x.2.length)
structure WOb (d:St)(ow ida nA:Nat)(cA:List AV)(fz:Bool)(mo:Int)(ido:Nat)(O:List RAtom)(oc:List AV)(B:BK)(N:Nat):Prop where
 ob:d.obj ow=Ck ida nA cA fz mo ido O.length oc B
 lo:ow<d.nobj
 bl:B.length=4096
 oe:EL Be O oc
 rw':Rws d (C1 ido O.length B)
 bn:∀x∈B,x.2.length<=N
theorem WOb.keep {d d':St}{ow ida nA:Nat}{cA:List AV}{fz:Bool}{mo:Int}{ido:Nat}{O:List RAtom}{oc:List AV}{B:BK}{N:Nat}(h:WOb d ow ida nA cA fz mo ido O oc B N)(k:Keep d d'):WOb d' ow ida nA cA fz mo ido O oc B N:=
 ⟨(k.obj _ h.lo).trans h.ob,Aam h.lo k.nobj,h.bl,h.oe,h.rw'.keep k,h.bn⟩
def Tj (n:Nat)(c:UInt8):Nat:=(n*31+c.toNat) % 4096
def Hu (s:Tx):Nat:=s.foldl Tj 0
def Oo (B:BK)(s:Tx):Prop:=∃x,B[Hu s]?=some x/\s∈x.2
theorem wQ {B:BK}{s t:Tx}{id':Nat}{y:Nat×List Tx}(hy:B[Hu t]?=some y):Oo (B.set (Hu t) (id',y.2++[t])) s↔Oo B s\/s=t:=by
 have hl:=(Aau.1 hy).1;unfold Oo;constructor
 ·rintro⟨x,hx,hm⟩;rw[Aa4]at hx;by_cases e:Hu t=Hu s
  ·rw[if_pos e,if_pos Ad2]at hx;cases hx;rcases Ab2.1 hm with h|h
   ·exact .inl ⟨y,by rw[<-e];exact hy,h⟩
   ·exact .inr (by simpa using h)
  ·rw[if_neg e]at hx;exact .inl ⟨x,hx,hm⟩
 ·rintro (⟨x,hx,hm⟩|rfl)
  ·by_cases e:Hu t=Hu s
   ·rw[<-e,hy]at hx;cases hx;exact⟨_,by rw[<-e,Aa4,if_pos rfl,if_pos hl],Adk _ hm⟩
   ·exact⟨x,by rw[Aa4,if_neg e];exact hx,hm⟩
  ·exact⟨_,by rw[Aa4,if_pos rfl,if_pos hl],by simp⟩
theorem Ho {ida nA:Nat}{cA:List AV}{fz:Bool}{mo:Int}{ido nO:Nat}{oc:List AV}{B:BK}(hb:B.length=4096):(Ck ida nA cA fz mo ido nO oc B).length=4100:=by simp[Ck,Nc,hb]
theorem fP {ida nA:Nat}{cA:List AV}{fz:Bool}{mo:Int}{ido nO:Nat}{oc:List AV}{B:BK}{k:Nat}{y:Nat×List Tx}(hy:B[k]?=some y):(Ck ida nA cA fz mo ido nO oc B)[4+k]?=some (sl y.1 y.2.length (y.2.map str)):=by
 unfold Ck;rw[Abm (by simp)];simp[Nc,hy]
theorem Z0 {ida nA:Nat}{cA:List AV}{fz:Bool}{mo:Int}{ido nO:Nat}{oc:List AV}{B:BK}{k:Nat}{y:Nat×List Tx}:(Ck ida nA cA fz mo ido nO oc B).set (4+k) (sl y.1 y.2.length (y.2.map str))=Ck ida nA cA fz mo ido nO oc (B.set k y):=by
 unfold Ck;rw[List.set_append_right _ _ (by simp)];simp[Nc,List.map_set]
theorem nE {ido nO:Nat}{B:BK}{k:Nat}{y:Nat×List Tx}:C1 ido nO (B.set k y)=(C1 ido nO B).set (k+1) (y.1,y.2.length):=by
 simp[C1,List.map_set]
theorem WOb.addB {d d':St}{ow ida nA:Nat}{cA:List AV}{fz:Bool}{mo:Int}{ido:Nat}{O:List RAtom}{oc:List AV}{B:BK}{N k id':Nat}{y:Nat×List Tx}{t:Tx}(h:WOb d ow ida nA cA fz mo ido O oc B N)(hy:B[k]?=some y)
  (hL:Live d' id' (y.2.length+1)) (hid:id'=y.1\/d.ntop+2<=id') (aa:id'≠1)
  (eob:∀o,o<d.nobj->o≠ow->d'.obj o=d.obj o) (ab:∀o,o<d.nobj->o≠ow->d'.ver o=d.ver o) (eno:d.nobj<=d'.nobj) (ento:d.ntop<=d'.ntop)
  (etop:∀j,j<d.ntop->j+2≠y.1->d'.top j=d.top j) (eow:d'.obj ow=(Ck ida nA cA fz mo ido O.length oc B).set (4+k) (sl id' (y.2.length+1) (y.2.map str++[str t]))):
  WOb d' ow ida nA cA fz mo ido O oc (B.set k (id',y.2++[t])) (N+1)/\KW ow (C1 ido O.length B) (C1 ido O.length (B.set k (id',y.2++[t]))) d d':=by
 have hx:(C1 ido O.length B)[k+1]?=some (y.1,y.2.length):=by simp[C1,hy]
 obtain⟨g1,g2⟩:=Rws.grow (ow:=ow) h.rw' hx hL hid aa eob ab eno ento etop;have e:C1 ido O.length (B.set k (id',y.2++[t]))=(C1 ido O.length B).set (k+1) (id',y.2.length+1):=by rw[nE];simp
 rw[e];refine⟨⟨?_,Aam h.lo eno,by simp[h.bl],h.oe,by rw[e];exact g1,fun x hx=>?_⟩,g2⟩
 ·rw[eow,<-Z0];simp
 ·rcases Adh hx with h'|rfl
  ·have:=h.bn x h';omega
  ·have:=h.bn y (Aax hy);simp;omega
theorem jM (x:RItem)(c:List AV)(hc:EItem x c)(hx:Zp x)(bd:x.body.length<=1000)(ow ida nA:Nat)(cA:List AV)(fz:Bool)(mo:Int)(ido:Nat)(O:List RAtom)(oc:List AV)(B:BK)(N:Nat)(hN:N<=1000000000000)(d:St)(hW:WOb d ow ida nA cA fz mo ido O oc B N):
  ACalls Tryz.prog 254 [ptr ow 0,ag c] d fun r d'=>(Oo B (Ed x)/\r=sc (.bool true)/\Keep d d')\/(¬Oo B (Ed x)/\r=sc (.bool false)/\∃id' y,B[Hu (Ed x)]?=some y/\WOb d' ow ida nA cA fz mo ido O oc (B.set (Hu (Ed x)) (id',y.2++[Ed x])) (N+1)/\KW ow (C1 ido O.length B) (C1 ido O.length (B.set (Hu (Ed x)) (id',y.2++[Ed x]))) d d'):=by
 have a3:=fun d=>nG x c hc hx bd d;obtain⟨ih,id,b,hb,rfl⟩:=hc.cells;unfold Bo;unfold Bo at a3;have bm:(Ed x).length<=1200000000:=by
  have ap:∀l:List RAtom,(∀a∈l,clA a)->(l.flatMap fun a=>Jq a++[46]).length<=l.length*1100001:=by
   intro l;induction l with
   |nil=>intro _;simp
   |cons a l ih=>
    intro hh;have e1:=ih (fun u hu=>hh u (by simp[hu]));have e2:=qP (hh a (by simp));simp only[Aca,Abj,Abv,Abu];omega
  have:=ap (x.head::x.body) (fun a ha=>by
   rcases Acd.1 ha with rfl|ha
   ·exact hx.2.1
   ·exact hx.2.2 a ha)
  unfold Ed;simp only[Abv]at this;omega
 generalize Ed x=k0 at*
 have bb:=hW.lo;have a9:=hW.ob;have bj:=Ho (ida:=ida) (nA:=nA) (cA:=cA) (fz:=fz) (mo:=mo) (ido:=ido) (nO:=O.length) (oc:=oc) hW.bl;refine Z9 61 [.tmp 4] Tryz.func254 ?_
 repeat' (first|refine Z1 ?_|(refine Z8 ?_;intro ya J)|(refine Z4 ?_;clear J ya)|(refine Z2 ?_ ?_<;>intro h ae<;>try exact Xp)|(refine Z6 ?_;intro idn dn ai aj ad ab ac aa)|(refine Z5 ?_;refine Xi (a3 _) ?_;rintro _ _ ⟨rfl,ax⟩;(have ao:=ax.nobj;have an:=ax.obj;simp only[Aa]at ao an))|refine Z7 ?_|exact Zt|(apply J.out;clear J ya))
 rename_i d1;have am:Keep d d1:=((Keep.refl d).new _).trans ax;have au:d1.obj ow=Ck ida nA cA fz mo ido O.length oc B:=by rw[am.obj _ bb,a9]
 refine Ab (fun m s d'=>∃(i n:Nat),m=k0.length-i/\i<=k0.length/\s 0=ptr ow 0/\s 5=str k0/\s 6=sc (.int .i64 n)/\s 7=sc (.int .i64 i)/\d'=d1/\n<4096/\Ad8 (n=(k0.take i).foldl Tj 0)) k0.length
  ⟨0,0,Ad2,Ad2,by simp[upd,initS],Ad4,Ad4,Ad4,rfl,by decide,by simp[Ad8]⟩ ?_
 rintro m s d' ⟨i,n,rfl,hi,h0,h5,h6,h7,rfl,hn,hH⟩;by_cases ah:i<k0.length
 ·have af:=Aav ah;generalize k0[i]=ch at af;have bp:ch.toNat<256:=ch.toNat_lt;have ba:Int.tmod ((n:Int)*31+(ch.toNat:Int)) 4096=((Tj n ch:Nat):Int):=rfl;have HN:Ad8 (Tj n ch=(k0.take (i+1)).foldl Tj 0):=by
   rw[Ad8,Aa8,af,Ac1,<-hH.out];rfl
  have bk:Tj n ch<4096:=Nat.mod_lt _ (by decide)
  repeat' (first|refine Z1 ?_|(refine Z8 ?_;intro ya J)|(refine Z4 ?_;clear J ya)|(refine Z2 ?_ ?_<;>intro h ae<;>try exact Xp)|(refine Z6 ?_;intro idn dn ai aj ad ab ac aa)|refine Z7 ?_|exact Zt|(apply J.out;clear J ya))
  refine⟨k0.length-(i+1),Ad2,i+1,Tj n ch,?_⟩
  ((repeat' refine Zi ?_ ?_)<;>first|exact Xq|exact HN|exact Xs)
 ·have bc:i=k0.length:=Ad2;subst bc;have ay:n=Hu k0:=by have h:=hH.out;rw[Aa3]at h;exact h
  obtain⟨y,hy⟩:∃y,B[n]?=some y:=⟨B[n]'(by rw[hW.bl];exact hn),Aav _⟩;have bo:=fP (ida:=ida) (nA:=nA) (cA:=cA) (fz:=fz) (mo:=mo) (ido:=ido) (nO:=O.length) (oc:=oc) hy;have bi:=hW.bn y (Aax hy);rw[<-ay];have a5:Ad8 (Oo B k0↔k0∈y.2):=by
   unfold Oo;rw[<-ay];exact⟨fun⟨x,h1,h2⟩=>by rw[hy]at h1;cases h1;exact h2,fun h=>⟨y,hy,h⟩⟩
  have HY:Ad8 (B[n]?=some y):=hy;have HW:Ad8 _:=hW.keep am;clear hH ay hy ah hi;generalize az:Ck ida nA cA fz mo ido O.length oc B=wc at*
  have bg:Ad8 _:=az;clear az
  repeat' (first|refine Z1 ?_|(refine Z8 ?_;intro ya J)|(refine Z4 ?_;clear J ya)|(refine Z2 ?_ ?_<;>intro h ae<;>try exact Xp)|(refine Z6 ?_;intro idn dn ai aj ad ab ac aa)|refine Z7 ?_|exact Zt|(apply J.out;clear J ya))
  refine Ab (fun m s τ=>∃(q:Nat),m=y.2.length-q/\q<=y.2.length/\s 0=ptr ow 0/\s 5=str k0/\s 6=sc (.int .i64 n)/\s 8=sc (.int .i64 q)/\τ=d'/\Ad8 (∀u∈y.2.take q,u≠k0)) y.2.length
   ⟨0,Ad2,Ad2,Ad3,Ad3,Ad3,Ad4,rfl,fun u hu=>by simp at hu⟩ ?_
  clear h0 h5 h6 h7;rintro m s d2 ⟨q,rfl,hq,h0,h5,h6,h8,rfl,a4⟩;by_cases ah:q<y.2.length
  ·have af:=Aav ah;have hd:=Bc ah;have a0:=Ab1 ah;generalize y.2[q]=u at hd af a0;by_cases hu:u=k0
   ·have a7:(u==k0)=true:=by simp[hu]
    have HR:Ad8 (Oo B k0):=a5.out.2 (hu ▸ a0);clear hu
    repeat' (first|refine Z1 ?_|(refine Z8 ?_;intro ya J)|(refine Z4 ?_;clear J ya)|(refine Z2 ?_ ?_<;>intro h ae<;>try exact Xp)|(refine Z6 ?_;intro idn dn ai aj ad ab ac aa)|refine Z7 ?_|exact Zt|(apply J.out;clear J ya))
    first
    |exact⟨_,rfl,.inl ⟨HR.out,rfl,am⟩⟩
    |exact⟨_,rfl,.inl ⟨HR.out,rfl⟩⟩
   ·have a7:(u==k0)=false:=by simpa using hu
    have HN:Ad8 (∀u∈y.2.take (q+1),u≠k0):=fun v hv=>by
     rw[Aa8,af]at hv;rcases Ab2.1 hv with h'|h'
     ·exact a4.out v h'
     ·simp at h';subst h';exact hu
    clear hu
    repeat' (first|refine Z1 ?_|(refine Z8 ?_;intro ya J)|(refine Z4 ?_;clear J ya)|(refine Z2 ?_ ?_<;>intro h ae<;>try exact Xp)|(refine Z6 ?_;intro idn dn ai aj ad ab ac aa)|refine Z7 ?_|exact Zt|(apply J.out;clear J ya))
    refine⟨y.2.length-(q+1),Ad2,q+1,?_⟩
    ((repeat' refine Zi ?_ ?_)<;>first|exact Xq|exact HN|exact Xs)
  ·have a8:q=y.2.length:=Ad2;subst a8;have bh:Ad8 (¬Oo B k0):=fun h=>a4.out k0 (by rw[Aa3];exact a5.out.1 h) rfl
   have be:Live d2 y.1 y.2.length:=HW.out.rw'.1 (y.1,y.2.length) (by
    refine Acj _ (Acf.2 ⟨y,Aax HY.out,rfl⟩))
   have a6:(y.2.map str).length=y.2.length*1:=by simp
   repeat' (first|refine Z1 ?_|(refine Z8 ?_;intro ya J)|(refine Z4 ?_;clear J ya)|(refine Z2 ?_ ?_<;>intro h ae<;>try exact Xp)|(refine Z6 ?_;intro idn dn ai aj ad ab ac aa)|refine Z7 ?_|exact Zt|(apply J.out;clear J ya))
   refine A6 (Q:=fun e s' d''=>e= .normal/\∃id',WOb d'' ow ida nA cA fz mo ido O oc (B.set n (id',y.2++[k0])) (N+1)/\KW ow (C1 ido O.length B) (C1 ido O.length (B.set n (id',y.2++[k0]))) d2 d'') ?_ ?_
   ·refine As Ad (fun _=>True) [14] [0,1,2,3,4,5,6,7,8,11,12] 4 #[true,true,true,true,true,true,true,true,true,false,false,true,true,false,false] Ad5 (fun _ _ _ h=>by cases h.1) ?_;intro ya J;refine Z7 ?_;refine J.out _ ?_;clear J ya;refine Ah (i:=9) Ad5 ?_;refine Ao ?_;intro ya J;refine Z7 ?_;refine J.out _ _ ⟨Ap ((Keep.refl _).lay 1),?_⟩;clear J ya;refine Ah (i:=10) Ad5 ?_;refine Ao ?_;intro ya J;refine Z7 ?_;refine Pv (by first|exact Oz) be (by decide) (by rfl) a6 (by rfl) (by rfl) (by decide) Ad2 Ad2 ?_;intro idn dn bf av aw ad ab ac aa etop;refine Z7 ?_;refine J.out _ _ ⟨fun _ o ho _=>by rw[ac],?_⟩;clear J ya;have eow:dn.obj ow=wc:=by rw[ad,au]
    refine Ah (i:=13) Ad5 ?_;refine Ao ?_;intro ya J;refine Z7 ?_;refine J.out _ _ ⟨fun _ o ho _=>by rw[ac],?_⟩;clear J ya;refine Ah (i:=14) Ad5 ?_;refine Ao ?_;intro ya J;refine Z7 ?_;refine J.out _ _ ⟨Bz rfl,?_⟩;clear J ya;refine B7 Ad5 ⟨rfl,idn,?_⟩;refine WOb.addB HW.out HY.out ?_ av aw ?_ ?_ ?_ ?_ ?_ ?_
    ·exact bf
    ·intro o ho ak;rw[show∀(S:St) c,(S.put ow c).obj o=S.obj o from fun S c=>by simp[St.put,ak],ad]
    ·intro o ho ak;rw[show∀(S:St) c,(S.put ow c).ver o=S.ver o from fun S c=>by simp[St.put,ak],ac]
    ·simp only[Ac];omega
    ·simp only[Kr];omega
    ·intro j hj ak;rw[Lh];exact etop j hj ak
    ·rw[Ak,bg.out]
   ·rintro e s' d'' ⟨rfl,id',g1,g2⟩
    repeat' (first|refine Z1 ?_|(refine Z8 ?_;intro ya J)|(refine Z4 ?_;clear J ya)|(refine Z2 ?_ ?_<;>intro h ae<;>try exact Xp)|(refine Z6 ?_;intro idn dn ai aj ad ab ac aa)|refine Z7 ?_|exact Zt|(apply J.out;clear J ya))
    exact⟨_,rfl,.inr ⟨bh.out,rfl,id',y,HY.out,g1,(KW.ofKeep am).trans g2⟩⟩
theorem eL (x:RItem)(c:List AV)(A:List RAtom)(cA:List AV)(ida:Nat)(hc:EItem x c)(hx:x.fits)(hA:EL Be A cA)(ao:A.length<=1000)(an:∀b∈A,b.terms.length<=1000)(d:St):ACalls Tryz.prog 256 [ag c,sl ida A.length cA] d fun r d'=>∃b,r=sc (.bool b)/\(b=true↔∃a∈x.body,a.nt=true/\U6 a∈A)/\Keep d d':=by
 obtain⟨ih,id,b,hb,rfl⟩:=hc.cells;have aw:=EL.length Ba hb;have ax:=hx.1;unfold Bo;refine Z9 25 [.tmp 4] Tryz.func256 ?_
 repeat' (first|refine Z1 ?_|(refine Z8 ?_;intro ya J)|(refine Z4 ?_;clear J ya)|(refine Z2 ?_ ?_<;>intro h ab<;>try exact Xp)|refine Z3 ?_|exact Zt|(apply J.out;clear J ya))
 refine Ab (fun m s d'=>∃i:Nat,m=x.body.length-i/\i<=x.body.length/\s 1=sl ida A.length cA/\s 2=ptr d.nobj 0/\s 5=sc (.int .i64 i)/\Keep d d'/\d.nobj<d'.nobj/\d'.obj d.nobj=[sc (.bool x.out),sc (.bool x.head.nt),str x.head.pred,sl ih x.head.terms.length (x.head.terms.map str),sl id x.body.length b]/\Ad8 (∀a∈x.body.take i,¬(a.nt=true/\U6 a∈A))) x.body.length
  ⟨0,Ad2,Ad2,by simp[upd,initS],Ad4,Ad4,Xs,Ad6,Am,fun a ha=>by simp at ha⟩ ?_
 rintro m s d' ⟨i,rfl,hi,h1,h2,h5,hK,av,au,hN⟩;have ap:=hK.nobj;by_cases ai:i<x.body.length
 ·have aa:=Aav ai;obtain⟨ia,r,hd⟩:=B8 hb aa;generalize x.body[i]=w at hd aa;have HS:Ad8 (¬(w.nt=true/\U6 w∈A)->∀a∈x.body.take (i+1),¬(a.nt=true/\U6 a∈A)):=fun hw a ha=>by
   rw[Aa8,aa]at ha;rcases Ab2.1 ha with h'|h'
   ·exact hN.out a h'
   ·simp at h';subst h';exact hw
  have HM:Ad8 (w∈x.body):=Aax aa;clear aa;cases hnt:w.nt with
  |false=>
   have HN:Ad8 _:=HS.out (fun h=>by rw[hnt]at h;cases h.1);clear HS
   repeat' (first|refine Z1 ?_|(refine Z8 ?_;intro ya J)|(refine Z4 ?_;clear J ya)|(refine Z2 ?_ ?_<;>intro h ab<;>try exact Xp)|refine Z3 ?_|exact Zt|(apply J.out;clear J ya))
   refine⟨x.body.length-(i+1),Ad2,i+1,?_⟩
   ((repeat' refine Zi ?_ ?_)<;>first|exact Xq|exact HN|exact ((hK.new _).put hK.nobj _)|exact Xs)
  |true=>
   have am:=fun d=>Gl A cA ida (U6 w) [sc (.bool false),str w.pred,sl ia w.terms.length (w.terms.map str)] hA ⟨ia,rfl⟩ ao an d
   repeat' (first|refine Z1 ?_|(refine Z8 ?_;intro ya J)|(refine Z4 ?_;clear J ya)|(refine Z2 ?_ ?_<;>intro h ab<;>try exact Xp)|(refine Z5 ?_;refine Xi (am _) ?_;rintro _ _ ⟨bo,rfl,af,ac⟩;(have ah:Ad8 _:=af;clear af;have ae:=ac.nobj;have ad:=ac.obj;simp only[Ac,Aa]at ae ad))|refine Z3 ?_|exact Zt|(apply J.out;clear J ya))
   ·have ak:(true=true↔∃a∈x.body,a.nt=true/\U6 a∈A):=⟨fun _=>⟨w,HM.out,hnt,ah.out.1 (by assumption)⟩,fun _=>rfl⟩;exact⟨_,rfl,true,rfl,ak,(((hK.new _).put hK.nobj _).put hK.nobj _).trans ac⟩
   ·have HN:Ad8 _:=HS.out (fun h=>by
     have h1:=ah.out.2 h.2;have h2:bo=false:=by assumption
     rw[h2]at h1;cases h1)
    refine⟨x.body.length-(i+1),Ad2,i+1,?_⟩
    ((repeat' refine Zi ?_ ?_)<;>first|exact Xq|exact HN|exact ((((hK.new _).put hK.nobj _).put hK.nobj _).trans ac)|exact Xs)
 ·have aj:i=x.body.length:=Ad2;subst aj;have HB:(false=true↔∃a∈x.body,a.nt=true/\U6 a∈A):=⟨fun h=>(by cases h),fun⟨a,ha,h⟩=>absurd h (hN.out a (by rw[Aa3];exact ha))⟩
  repeat' (first|refine Z1 ?_|(refine Z8 ?_;intro ya J)|(refine Z4 ?_;clear J ya)|(refine Z2 ?_ ?_<;>intro h ab<;>try exact Xp)|refine Z3 ?_|exact Zt|(apply J.out;clear J ya))
  first|exact⟨_,rfl,false,rfl,HB,hK⟩|exact⟨false,rfl,HB,hK⟩|exact⟨_,rfl,false,rfl,HB⟩
def Ec (c0 a:Nat):Nat->Nat
 |0=>c0
 |p+1=>1+a*Ec c0 a p
structure D5 (A:List RAtom)(cA:List AV):Prop where
 el:EL Be A cA
 len:A.length<=1000
 gnd:∀a∈A,U1 a
 cl:∀a∈A,clA a
structure HalfOk (fz:Bool)(c0 p:Nat)(x:RItem):Prop where
 cl:Zp x
 len:x.body.length<=1000
 saf:Zh fz x
 cnt:x.body.countP (He fz)=p
 neg:c0=1\/∀a∈x.body,He fz a=true
theorem HalfOk.fits {fz:Bool}{c0 p:Nat}{x:RItem}(h:HalfOk fz c0 p x):x.fits:=⟨h.len,h.cl.2.1.2.2,fun a ha=>(h.cl.2.2 a ha).2.2⟩
theorem Za {α:Type}(p:α->Bool){l:List α}{j:Nat}{a:α}(h:l[j]?=some a)(ha:p a=true):(l.eraseIdx j).countP p+1=l.countP p:=by
 have hj:=(Aau.1 h).1;have he:=(Aau.1 h).2;have e:l=l.take j++a::l.drop (j+1):=by
  rw[<-he,List.getElem_cons_drop,Ada]
 rw[List.eraseIdx_eq_take_drop_succ,Adb];have e2:l.countP p=(l.take j).countP p+((l.drop (j+1)).countP p+1):=by
  conv=>lhs;rw[e]
  rw[Adb,Adc,if_pos ha]
 omega
theorem HalfOk.step {fz:Bool}{c0 p:Nat}{x y:RItem}{j:Nat}{t b:RAtom}(h:HalfOk fz c0 (p+1) x)(hb:x.body[j]?=some b)(hp:He fz b=true)(hg:U1 t)(hc:clA t)(hy:Iw x j t=some y):HalfOk fz c0 p (fK y j)/\(fK y j).body.length=x.body.length-1:=by
 obtain⟨b',af,θ,hT,rfl,aa,-⟩:=Q3 hy h.cl.1 hg;have ac:=(Aau.1 hb).1;have hl:(fK (N6 θ x) j).body.length=x.body.length-1:=by
  simp only[fK,N6];rw[List.length_eraseIdx_of_lt (by simpa using ac),Ace]
 refine⟨⟨wD h.cl hc hg hy,by have:=h.len;omega,qS h.saf h.cl.1 hg hy,?_,?_⟩,hl⟩
 ·have ae:(N6 θ x).body.countP (He fz)=p+1:=by
   rw[<-h.cnt];simp only[N6];rw[List.countP_map];rfl
  have ab:He fz t=true:=by
   have:(N6 θ x).body[j]?=some (Ik θ b):=by simp[N6,hb]
   rw[this]at aa;cases aa;exact hp
  have:=Za (He fz) aa ab;show ((N6 θ x).body.eraseIdx j).countP (He fz)=p;omega
 ·rcases h.neg with h'|h'
  ·exact .inl h'
  ·refine .inr fun a ha=>?_;obtain⟨a',ad,rfl⟩:=Acf.1 (List.mem_of_mem_eraseIdx ha);exact h' a' ad
def Qj (fz:Bool)(A:List RAtom)(cA:List AV)(ida:Nat)(mo:Int)(c0 p:Nat)(x:RItem)(ow ido:Nat)(O:List RAtom)(B:BK)(N:Nat)(d d':St):Prop:=
 ∃ido' O' oc' B' N',WOb d' ow ida A.length cA fz mo ido' O' oc' B' N'/\KW ow (C1 ido O.length B) (C1 ido' O'.length B') d d'/\Uk fz A mo x O (Oo B) O' (Oo B')/\N'+O.length<=N+O'.length+Ec c0 A.length p
end Go.Proofs.YtmoeoppbmhfbpaaGreatDoorH
