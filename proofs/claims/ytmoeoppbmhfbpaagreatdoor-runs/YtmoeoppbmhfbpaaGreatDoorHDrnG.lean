import Derived.Test.YtmoeoppbmhfbpaaGreatDoorHDrnA
import Derived.Test.YtmoeoppbmhfbpaaGreatDoorHStrC
import Derived.Test.YtmoeoppbmhfbpaaGreatDoorHDrnE
import Derived.Test.YtmoeoppbmhfbpaaGreatDoorHLawA
set_option maxHeartbeats 64000000
set_option maxRecDepth 100000
set_option linter.all false
namespace Go.Proofs.YtmoeoppbmhfbpaaGreatDoorH
open Go.Abs
inductive Chn (l:List RItem)(lim:Nat)(A0:List RAtom):Nat->List RAtom->Prop where
 |zero:Chn l lim A0 0 A0
 |succ {s:Nat} {A A':List RAtom}:Chn l lim A0 s A->Ui false (Ix l s) A lim A'->Chn l lim A0 (s+1) A'
theorem Chn.stg {ar:Tx->Nat}{l:List RItem}{F:List RAtom}(hf:RfI ar l F){M:Hf}(hM:Stb l (Tk F) M){lim:Nat}{A0:List RAtom}(h0:fF ar l F M 0 A0){s:Nat}{A:List RAtom}(h:Chn l lim A0 s A):fF ar l F M s A:=by
 induction h with
 |zero=>exact h0
 |succ _ hs ih=>exact qK hf hM ih hs
def tH (l:List RItem)(F:List RAtom)(n:Nat)(A:List RAtom)(k:Int)(ok:Bool):Prop:=∃A0,Ui false [] F F.length A0/\
 ((ok=true/\Chn l (A0.length+n) A0 (l.length+1) A/\A.length<=A0.length+n/\k=(A.length:Int)-A0.length)\/(ok=false/\k=0/\∃s A1,s<=l.length/\Chn l (A0.length+n) A0 s A1/\X8 false (Ix l s) A1 (A0.length+n)))
theorem xV {F:List RAtom}(h:X8 false [] F F.length):False:=by
 obtain⟨L,h1,h2,h3⟩:=h (·∈F) ⟨fun a ha=>ha,fun _ _ _ x hx=>by cases hx⟩;have:L.length<=F.length:=by classical exact Sq L F h1 h3
 omega
theorem uN {l:List RItem}{k i:Nat}{y:RItem}(h:l[i]?=some y):(l.take (i+1)).filter (Pi l k)=(l.take i).filter (Pi l k)++if Pi l k y=true then [y]else []:=by
 rw[Aa8,h,Ab9,List.filter_append];congr 1;cases hh:Pi l k y<;>simp[hh]
theorem cJ (l:List RItem)(cs:List AV)(idl:Nat)(F:List RAtom)(cF:List AV)(idf n:Nat)(hE:EL EItem l cs)(hl:l.length<=16)(hf:∀x∈l,x.fits)(hF:D5 F cF)(bq:F.length<=400)(hn:n<=200)(hr:∀x∈l,x.out=false->Px false 600 x)(z:St):
  ACalls Tryz.prog 90 [sl idl l.length cs,sl idf F.length cF,sc (.int .i64 n)] z fun r z'=>∃A ida cA k ok,r=tp [sl ida A.length cA,ic k,sc (.bool ok)]/\tH l F n A k ok/\(ok=true->D5 A cA)/\Keep z z':=by
 have bo:=EL.length Cb hE;have a7:∀lim,lim<=600->∀x∈l,x.out=false->Px false lim x:=fun lim bg x hx ho=>by
  obtain⟨c0,p,h1,h2⟩:=hr x hx ho;exact⟨c0,p,h1,fun a ha=>h2 a Ad2⟩
 have bc:∀z,ACalls Tryz.prog 141 [nilS,sl idf F.length cF,sc (.bool false),sc (.int .i64 F.length)] z fun r z'=>(∃A ida cA,r=tp [sl ida A.length cA,sc (.bool true)]/\D5 A cA/\Ui false [] F F.length A)/\Keep z z':=fun z=>(No false [] [] 1 F cF idf F.length rfl (by simp) hF Ad2 (Aak _) (fun x hx=>by cases hx) z).mono fun r z' ⟨h1,h2⟩=>by
  rcases h1 with h|⟨-,h⟩
  ·exact⟨h,h2⟩
  ·exact absurd h xV
 have ay:∀(lim:Nat) (L:List RItem) (ys:List AV) (i4:Nat) (A:List RAtom) (cA:List AV) (ida:Nat),EL EItem L ys->L.length<=1000->D5 A cA->lim<=600->A.length<=lim->(∀x∈L,x∈l/\x.out=false)->∀z,ACalls Tryz.prog 141 [sl i4 L.length ys,sl ida A.length cA,sc (.bool false),sc (.int .i64 lim)] z fun r z'=>∃A' ida' cA' ok,r=tp [sl ida' A'.length cA',sc (.bool ok)]/\((ok=true/\D5 A' cA'/\Ui false L A lim A')\/(ok=false/\A'=[]/\X8 false L A lim))/\Keep z z':=fun lim L ys i4 A cA ida h1 h2 h3 h4 h5 h6 z=>(No false L ys i4 A cA ida lim h1 h2 h3 Ad2 h5 (fun x hx=>a7 lim h4 x (h6 x hx).1 (h6 x hx).2) z).mono fun r z' ⟨h1,h2⟩=>by
  rcases h1 with⟨A,ida,cA,e,h3,h4⟩|⟨e,h3⟩
  ·exact⟨A,ida,cA,true,e,.inl ⟨rfl,h3,h4⟩,h2⟩
  ·exact⟨[],1,[],false,e,.inr ⟨rfl,rfl,h3⟩,h2⟩
 clear a7 hr;refine Z9 82 [.tmp 6,.tmp 7,.tmp 8] Tryz.func90 ?_
 repeat' (first|refine Z1 ?_|(refine Z8 ?_;intro ya J)|(refine Z4 ?_;clear J ya)|(refine Z2 ?_ ?_<;>intro h ac<;>try exact Xp)|(refine Z6 ?_;intro idn zn ak am ae ab ad aa)|(refine Z5 ?_;refine Xi (bc _) ?_;rintro _ _ ⟨⟨A0,id0,c0,rfl,bb,az⟩,bk⟩;(have br:=az.len;have bm:Ad8 _:=bb;have bf:Ad8 _:=az;clear bb az))|refine Z3 ?_|exact Zt|(apply J.out;clear J ya))
 rename_i z1;clear bc
 refine Ab (fun m s z'=>∃(k:Nat) (A:List RAtom) (ida:Nat) (cA:List AV),m=l.length+1-k/\k<=l.length+1/\s 0=sl idl l.length cs/\s 2=sc (.int .i64 n)/\s 9=sl ida A.length cA/\s 11=sc (.int .i64 ((A0.length+n:Nat):Int))/\s 12=ic k/\Keep z z'/\A.length<=A0.length+n/\Ad8 (D5 A cA/\Chn l (A0.length+n) A0 k A)) (l.length+1)
  ⟨0,A0,id0,c0,Ad2,Ad2,by simp[upd,initS],by simp[upd,initS],Ad4,Ad4,Ad4,bk,Ad2,bm.out,.zero⟩ ?_
 rintro m s z' ⟨k,A,ida,cA,rfl,hk,h0,h2,h9,a3,a0,hK,be,hA⟩;have a5:=hK.nobj;by_cases a8:k<=l.length
 ·have a9:decide ((k:Int)<=(l.length:Int))=true:=by simpa using a8
  repeat' (first|refine Z1 ?_|(refine Z8 ?_;intro ya J)|(refine Z4 ?_;clear J ya)|(refine Z2 ?_ ?_<;>intro h ac<;>try exact Xp)|(refine Z6 ?_;intro idn zn ak am ae ab ad aa)|refine Z3 ?_|exact Zt|(apply J.out;clear J ya))
  refine Ab (fun m s z'=>∃(i i4:Nat) (L:List RItem) (ys:List AV),m=l.length-i/\i<=l.length/\s 0=sl idl l.length cs/\s 2=sc (.int .i64 n)/\s 9=sl ida A.length cA/\s 11=sc (.int .i64 ((A0.length+n:Nat):Int))/\s 12=ic k/\s 13=sl i4 L.length ys/\s 14=ic i/\Keep z z'/\Own z z' i4 L.length/\ys.length=L.length*5/\L.length<=i/\Ad8 (L=(l.take i).filter (Pi l k)/\EL EItem L ys)) l.length
   ⟨0,1,[],[],Ad2,Ad2,by simp[upd,h0],by simp[upd,h2],by simp[upd,h9],by simp[upd,a3],by simp[upd,a0],Ad4,Ad4,hK,Own.nil _ _,rfl,by simp,by simp,rfl⟩ ?_
  clear h0 h2 h9 a3 a0 hK a5 a9;rintro m s z' ⟨i,i4,L,ys,rfl,hi,h0,h2,h9,a3,a0,bv,bu,hK,hO,bn,bp,hL⟩;have a5:=hK.nobj;by_cases aw:i<l.length
  ·have ah:=Aav aw;obtain⟨jh,jd,jb,r2,ba,bj⟩:=Df hE ah;generalize l[i]=y at ah ba bj;have an:Ad8 _:=uN (k:=k) ah;clear ah;have ai:=fun z=>Uq l cs idl y.head.pred hE hl hf z;have a6:Ay l y.head.pred<=100000000:=by
    unfold Ay;split
    ·rename_i d hd;have:=List.find?_some hd;have hm:=Acb hd;rw[Ab5]at hm;omega
    ·omega
   cases af:y.out with
   |true=>
    have HN:Ad8 (L=(l.take (i+1)).filter (Pi l k)/\EL EItem L ys):=⟨by rw[an.out,if_neg (by simp[Pi,af]),Abc];exact hL.out.1,hL.out.2⟩;clear an hL
    repeat' (first|refine Z1 ?_|(refine Z8 ?_;intro ya J)|(refine Z4 ?_;clear J ya)|(refine Z2 ?_ ?_<;>intro h ac<;>try exact Xp)|(refine Z6 ?_;intro idn zn ak am ae ab ad aa)|refine Z3 ?_|exact Zt|(apply J.out;clear J ya))
    refine⟨l.length-(i+1),Ad2,i+1,i4,L,ys,?_⟩
    ((repeat' refine Zi ?_ ?_)<;>first|exact Xq|exact HN|exact Xs)
   |false=>
    by_cases ap:Ay l y.head.pred=k
    ·have ax:((Ay l y.head.pred:Int)==(k:Int))=true:=by simp;omega
     have HN:Ad8 (L++[y]=(l.take (i+1)).filter (Pi l k)/\EL EItem (L++[y]) (ys++[sc (.bool y.out),sc (.bool y.head.nt),str y.head.pred,sl jh y.head.terms.length (y.head.terms.map str),sl jd y.body.length jb])):=⟨by rw[an.out,if_pos (by simp[Pi,af,ap]),hL.out.1],EL.append hL.out.2 (EL.single ⟨[sc (.bool y.head.nt),str y.head.pred,sl jh y.head.terms.length (y.head.terms.map str)],jd,jb,⟨jh,rfl⟩,ba,rfl⟩)⟩;rw[af]at HN;clear an hL ap;generalize Ay l y.head.pred=st at ai ax a6
     repeat' (first|refine Z1 ?_|(refine Z8 ?_;intro ya J)|(refine Z4 ?_;clear J ya)|(refine Z2 ?_ ?_<;>intro h ac<;>try exact Xp)|(refine Z6 ?_;intro idn zn ak am ae ab ad aa)|(refine Z5 ?_;refine Xi (ai _) ?_;rintro _ _ ⟨rfl,aj⟩;(have hK:=hK.trans aj;have hO:=Own.keep hO aj))|refine Z3 ?_|exact Zt|(apply J.out;clear J ya))
     refine⟨l.length-(i+1),Ad2,i+1,idn,L++[y],ys++[sc (.bool false),sc (.bool y.head.nt),str y.head.pred,sl jh y.head.terms.length (y.head.terms.map str),sl jd y.body.length jb],?_⟩
     ((repeat' refine Zi ?_ ?_)<;>first|exact Xq|exact HN|exact (by rw[Abj];exact ak)|exact Xs)
    ·have ax:((Ay l y.head.pred:Int)==(k:Int))=false:=by simp;omega
     have HN:Ad8 (L=(l.take (i+1)).filter (Pi l k)/\EL EItem L ys):=⟨by rw[an.out,if_neg (by simp[Pi,af,ap]),Abc];exact hL.out.1,hL.out.2⟩;clear an hL ap;generalize Ay l y.head.pred=st at ai ax a6
     repeat' (first|refine Z1 ?_|(refine Z8 ?_;intro ya J)|(refine Z4 ?_;clear J ya)|(refine Z2 ?_ ?_<;>intro h ac<;>try exact Xp)|(refine Z6 ?_;intro idn zn ak am ae ab ad aa)|(refine Z5 ?_;refine Xi (ai _) ?_;rintro _ _ ⟨rfl,aj⟩;(have hK:=hK.trans aj;have hO:=Own.keep hO aj))|refine Z3 ?_|exact Zt|(apply J.out;clear J ya))
     refine⟨l.length-(i+1),Ad2,i+1,i4,L,ys,?_⟩
     ((repeat' refine Zi ?_ ?_)<;>first|exact Xq|exact HN|exact Xs)
  ·have bi:i=l.length:=Ad2;subst bi;obtain⟨au,bd⟩:=hL.out;rw[Aa3]at au;have ay:=ay (A0.length+n) L ys i4 A cA ida bd Ad2 hA.out.1 Ad2 be fun x hx=>by
    rw[au]at hx;exact⟨(I5 hx).1,(I5 hx).2.1⟩
   have a4:Ad8 (L=Ix l k):=au;clear au bd hL
   repeat' (first|refine Z1 ?_|(refine Z8 ?_;intro ya J)|(refine Z4 ?_;clear J ya)|(refine Z2 ?_ ?_<;>intro h ac<;>try exact Xp)|(refine Z6 ?_;intro idn zn ak am ae ab ad aa)|(refine Z5 ?_;refine Xi (ay _) ?_;rintro _ _ ⟨A',ida',cA',ok,rfl,av,aj⟩;(rcases av with⟨rfl,hT,hS⟩|⟨rfl,rfl,hS⟩<;>have HS:Ad8 _:=hS<;>clear hS))|refine Z3 ?_|exact Zt|(apply J.out;clear J ya))
   ·have bl:=HS.out.len;have HN:Ad8 (D5 A' cA'/\Chn l (A0.length+n) A0 (k+1) A'):=⟨hT,.succ hA.out.2 (by rw[<-a4.out];exact HS.out)⟩;clear HS a4 hT;refine⟨l.length+1-(k+1),Ad2,k+1,A',ida',cA',?_⟩
    ((repeat' refine Zi ?_ ?_)<;>first|exact Xq|exact HN|exact (hK.trans aj)|exact Xs)
   ·have HR:tH l F n [] 0 false:=⟨A0,bf.out,.inr ⟨rfl,rfl,k,A,a8,hA.out.2,by rw[<-a4.out];exact HS.out⟩⟩;exact⟨_,rfl,[],1,[],0,false,rfl,HR,(by intro h;cases h),hK.trans aj⟩
 ·have a9:decide ((k:Int)<=(l.length:Int))=false:=by simp;omega
  have bh:k=l.length+1:=Ad2;subst bh;have HR:Ad8 (tH l F n A ((A.length:Int)-A0.length) true):=⟨A0,bf.out,.inl ⟨rfl,hA.out.2,be,rfl⟩⟩;have HT:Ad8 (D5 A cA):=hA.out.1;have ao:(A.length:Int)-(((A0.length+n:Nat):Int)-(n:Int))=(A.length:Int)-A0.length:=Ad2;clear hA
  repeat' (first|refine Z1 ?_|(refine Z8 ?_;intro ya J)|(refine Z4 ?_;clear J ya)|(refine Z2 ?_ ?_<;>intro h ac<;>try exact Xp)|(refine Z6 ?_;intro idn zn ak am ae ab ad aa)|refine Z3 ?_|exact Zt|(apply J.out;clear J ya))
  first|exact⟨_,rfl,A,ida,cA,_,true,rfl,HR.out,fun _=>HT.out,hK⟩|exact⟨_,rfl,A,ida,cA,_,true,rfl,HR.out,fun _=>HT.out⟩|exact⟨_,rfl,A,ida,cA,(A.length:Int)-A0.length,true,by simp[ao],HR.out,fun _=>HT.out⟩|exact⟨_,rfl,A,ida,cA,(A.length:Int)-A0.length,true,by simp[ao],HR.out,fun _=>HT.out,hK⟩
def Ux (a:RAtom):RItem:=⟨false,a,[]⟩
def pD (t:Tx)(a:RAtom):Prop:=t=A4 a/\pE a/\Fb a/\a.nt=false/\Nq a=true
theorem iS (a:RAtom):Co (Ux a)=A4 a:=by simp[Co,D7,Ux]
theorem setA_iff {a:RAtom}:Nq a=true↔∀t∈a.terms,Ag t=false:=by
 unfold Nq Gn;rw[Aaw];constructor
 ·intro h t ht;have:=h (Bu t) (Acf.2 ⟨t,ht,rfl⟩);rw[Ig]at this;simpa using this
 ·intro h x hx;obtain⟨t,ht,rfl⟩:=Acf.1 hx;rw[Ig];simpa using h t ht
theorem cC {x:RItem}(ho:x.out=false)(hb:x.body=[]):E3 x=Nq x.head:=by
 rw[Acv,setA_iff];unfold E3 jH T8 Hz Af;rw[hb,ho];simp
theorem yI {t:Tx}{l:List RItem}{r:Tx}{x:RItem}(hp:Bf 16 (t++[46])= .got l r)(hl:l=[x])(ho:x.out=false)(hb:x.body=[])(hs:E3 x=true):pD t x.head:=by
 subst hl;obtain⟨h1,-,-,h4⟩:=El _ _ _ _ hp;have hg:=Ll _ _ _ _ hp x (by simp);have hw:=h4 x (by simp);have ht:t=Co x:=by
  simp only[Da,Aca,Ab8,Abc]at h1;exact (List.append_inj' h1 rfl).1
 rw[cC ho hb]at hs;refine⟨?_,(hg.rule ho).1,(hw.2.2 ho).1,(hg.rule ho).2.1,hs⟩;rw[ht];unfold Co D7;rw[hb,ho];simp
theorem Wy {t:Tx}{a:RAtom}(h:pD t a):Bf 16 (t++[46])= .got [Ux a] []:=by
 obtain⟨h1,h2,h3,h4,h5⟩:=h
 have:=Wr 16 [Ux a] (fun x hx=>by
  have:x=Ux a:=by simpa using hx
  subst this
  exact⟨h2.nm,(fun e=>by cases e),fun _=>⟨h2,h4,by simp[Ux],fun b hb=>by cases hb⟩⟩) (by simp)
 simp only[Da,Aca,Ab8,Abc,iS]at this;rw[h1];exact this
theorem dV {l m:Tx}(h:m≠[]):(l++m).getLast?=m.getLast?:=by
 rw[List.getLast?_append];cases e:m.getLast? with
 |none=>exact absurd (List.getLast?_eq_none_iff.1 e) h
 |some _=>rfl
theorem Y8:∀(s:Tx) (d:Bool) (cur:Tx),(cur++s=(Bn 46 s d cur).flatMap (·++[46]))\/∃ini las,Bn 46 s d cur=ini++[las]/\cur++s=ini.flatMap (·++[46])++las/\las≠[]
 |[],d,cur=>by
  unfold Bn;by_cases h:cur=[]
  ·rw[if_pos h];subst h;exact .inl rfl
  ·rw[if_neg h];exact .inr ⟨[],cur,rfl,by simp,h⟩
 |b::r,d,cur=>by
  unfold Bn;simp only[];generalize (if ((b.toNat:Int)==41)=true then false else _)=d2;split
  ·rename_i hc;have hb:b=46:=by
    have:=hc.1;simp only[Adx]at this;exact Acg.1 (by show b.toNat=46;omega)
   subst hb;rcases Y8 r d2 []with h|⟨ini,las,h1,h2,h3⟩
   ·refine .inl ?_;rw[Aca,<-h];simp
   ·refine .inr ⟨cur::ini,las,by rw[h1];rfl,?_,h3⟩;rw[Aca,Abl,Abl,<-h2];simp
  ·rcases Y8 r d2 (cur++[b])with h|⟨ini,las,h1,h2,h3⟩
   ·exact .inl (by rw[<-h];simp)
   ·exact .inr ⟨ini,las,h1,by rw[<-h2];simp,h3⟩
theorem sG {s:Tx}{F:List RAtom}(hs:s≠[])(hl:s.length<=400)(hF:(E9 s 46).length=F.length/\∀(i:Nat) (t:Tx) (a:RAtom),(E9 s 46)[i]?=some t->F[i]?=some a->pD t a)(he:s.getLast?=some 46):Bw 400 s= .got F []:=by
 have aa:∀{P:List Tx} {F:List RAtom},P.length=F.length->(∀(i:Nat) (t:Tx) (a:RAtom),P[i]?=some t->F[i]?=some a->pD t a)->P=F.map A4/\∀a∈F,pD (A4 a) a:=fun {P F} h1 h2=>by
  have e:P=F.map A4:=by
   refine Abd fun i=>?_;rw[Aa6];by_cases hi:i<P.length
   ·rw[Aav hi,Aav (show i<F.length by omega)];exact congrArg some (h2 i _ _ (Aav hi) (Aav (show i<F.length by omega))).1
   ·rw[Aa7 Ad2,Aa7 Ad2];rfl
  refine⟨e,fun a ha=>?_⟩;obtain⟨i,hi⟩:=Acp ha;have:=h2 i (A4 a) a (by rw[e,Aa6,hi];rfl) hi;exact this
 obtain⟨e1,e2⟩:=aa hF.1 hF.2;rcases Y8 s false []with h|⟨ini,las,h1,h2,h3⟩
 ·rw[Ack]at h;have h:s=(E9 s 46).flatMap (·++[46]):=h;rw[e1,List.flatMap_map]at h;have ab:F.length<=400:=by
   have:F.length<=s.length:=by
    rw[h];clear h e1 e2 hF he hs hl;induction F with
    |nil=>simp
    |cons a F ih=>rw[Aca,Abj];simp only[Abj,Abv,Abu];omega
   omega
  have:=Ws 400 F (fun a ha=>⟨(e2 a ha).2.1,(e2 a ha).2.2.2.1,(e2 a ha).2.2.2.2⟩) ab;rw[<-h]at this;exact this
 ·exfalso;have hm:las∈E9 s 46:=by
   show las∈Bn 46 s false [];rw[h1];simp
  rw[e1]at hm;obtain⟨a,ha,e⟩:=Acf.1 hm;have hd:=sH (e2 a ha).2.2.1;rw[Ack]at h2;rw[h2,dV h3]at he;rw[e]at hd;exact hd (List.mem_of_getLast? he)
theorem W6 {s:Tx}{F:List RAtom}{r:Tx}(h:Bw 400 s= .got F r):E9 s 46=F.map A4/\(∀a∈F,pD (A4 a) a)/\(s≠[]->s.getLast?=some 46):=by
 obtain⟨-,-,h3,h4⟩:=Ct _ _ _ _ h;have hg:=O8 _ _ _ _ h;have e:s=Da (F.map Ux):=by
  rw[h3];unfold Da;rw[List.flatMap_map];congr 1;funext a;rw[iS]
 refine⟨?_,fun a ha=>⟨rfl,hg a ha,(h4 a ha).1,(h4 a ha).2.1,(h4 a ha).2.2⟩,fun hs=>?_⟩
 ·rw[e,Xz _ fun x hx=>by
   obtain⟨a,ha,rfl⟩:=Acf.1 hx
   exact⟨(h4 a ha).1.1,(fun e=>by cases e),fun _=>⟨(h4 a ha).1,(h4 a ha).2.1,by simp[Ux],fun b hb=>by cases hb⟩⟩,Abb]
  exact Acn fun a _=>iS a
 ·rw[h3]at hs⊢;clear h h3 h4 hg e;induction F with
  |nil=>exact absurd rfl hs
  |cons a F ih=>
   rw[Aca];by_cases hF:F.flatMap (fun a=>A4 a++[46])=[]
   ·rw[hF];simp
   ·rw[dV hF];exact ih hF
def U2 (s:Tx)(A:List RAtom)(ok:Bool):Prop:=(ok=true/\Bw 400 s= .got A [])\/(ok=false/\∃e,Bw 400 s= .bad e)
theorem sW (s:Tx):(∃e,Bw 400 s= .bad e)\/∃F,Bw 400 s= .got F []:=by
 cases h:Bw 400 s with
 |bad e=>exact .inl ⟨e,rfl⟩
 |got F r=>exact .inr ⟨F,by rw[(Ct _ _ _ _ h).1]⟩
theorem yN {s:Tx}{t:Tx}(hm:t∈E9 s 46)(hn:∀a,¬pD t a):∃e,Bw 400 s= .bad e:=by
 rcases sW s with h|⟨F,h⟩
 ·exact h
 ·obtain⟨h1,h2,-⟩:=W6 h;rw[h1]at hm;obtain⟨a,ha,rfl⟩:=Acf.1 hm;exact absurd (h2 a ha) (hn a)
theorem cL (s0:Tx)(hs:s0.length<=400)(z:St):ACalls Tryz.prog 87 [str s0] z fun r z'=>∃A ida cA ok,r=tp [sl ida A.length cA,sc (.bool ok)]/\U2 s0 A ok/\EL Be A cA/\Keep z z':=by
 have b5:({data:=#[]}:ByteArray)=bs []:=rfl;have bo:({data:=#[46]}:ByteArray)=bs [46]:=rfl;by_cases h0:s0=[]
 ·subst h0;have HR:Ad8 (U2 [] [] true):=.inl ⟨rfl,F5 400⟩;have hb:(([]:Tx)==[])=true:=rfl;clear hs;refine Z9 70 [.tmp 2,.tmp 3] Tryz.func87 ?_
  repeat' (first|refine Z1 ?_|(refine Z8 ?_;intro ya J)|(refine Z4 ?_;clear J ya)|(refine Z2 ?_ ?_<;>intro h ac<;>try exact Xp)|(refine Z6 ?_;intro idn zn an ao ae ab ad aa)|refine Z7 ?_|exact Zt|(apply J.out;clear J ya))
  exact⟨_,rfl,[],1,[],true,rfl,HR.out,rfl,Keep.refl _⟩
 have bi:(s0==[])=false:=by simpa using h0
 have a3:=fun z=>K3 s0 46 Ad2 z;have bn:=J2 (s:=s0) (c:=46);have HP:Ad8 (∀t∈E9 s0 46,t.length<=s0.length):=fun t ht=>J1 ht;have ba:Ad8 (∀t∈E9 s0 46,(∀a,¬pD t a)->U2 s0 [] false):=fun t ht hn=>.inr ⟨rfl,yN ht hn⟩
 have bg:Ad8 (∀F:List RAtom,(E9 s0 46).length=F.length->(∀(i:Nat) (t:Tx) (a:RAtom),(E9 s0 46)[i]?=some t->F[i]?=some a->pD t a)->(s0.getLast?=some 46->U2 s0 F true)/\(s0.getLast?≠some 46->U2 s0 F false)):=fun F h1 h2=>⟨fun h=>.inl ⟨rfl,sG h0 hs ⟨h1,h2⟩ h⟩,fun h=>.inr ⟨rfl,by
  rcases sW s0 with g|⟨F',g⟩
  ·exact g
  ·exact absurd ((W6 g).2.2 h0) h⟩⟩
 generalize E9 s0 46=C at a3 bn HP ba bg;refine Z9 70 [.tmp 2,.tmp 3] Tryz.func87 ?_
 repeat' (first|refine Z1 ?_|(refine Z8 ?_;intro ya J)|(refine Z4 ?_;clear J ya)|(refine Z2 ?_ ?_<;>intro h ac<;>try exact Xp)|(refine Z6 ?_;intro idn zn an ao ae ab ad aa)|(refine Z5 ?_;refine Xi (a3 _) ?_;rintro _ _ ⟨idc,rfl,bv⟩)|refine Z7 ?_|exact Zt|(apply J.out;clear J ya))
 refine Ab (fun m s z'=>∃(i i3:Nat) (A:List RAtom) (xs:List AV),m=C.length-i/\i<=C.length/\s 0=str s0/\s 4=sl i3 i xs/\s 5=sl idc C.length (C.map str)/\s 6=ic i/\Keep z z'/\Own z z' i3 i/\xs.length=i*3/\Ad8 (A.length=i/\EL Be A xs/\∀(j:Nat) (t:Tx) (a:RAtom),C[j]?=some t->A[j]?=some a->pD t a)) C.length
  ⟨0,1,[],[],Ad2,Ad2,by simp[upd,initS],Ad4,Ad4,Ad4,bv,Own.nil _ _,rfl,rfl,rfl,fun j t a h1 h2=>by simp at h2⟩ ?_
 clear a3;rintro m s z' ⟨i,i3,A,xs,rfl,hi,h0,h4,h5,h6,hK,hO,b1,hA⟩;have b0:=hK.nobj;by_cases be:i<C.length
 ·have am:=Aav be;have bm:=Bc be;have hm:=Ab1 be;generalize C[i]=t at am bm hm;have b2:=HP.out t hm;have av:=fun z=>Ml (t++[46]) (by simp;omega) z;cases ap:Bf 16 (t++[46])with
  |bad e=>
   have ay:=Fw (t++[46]);rw[ap]at ay;have HR:Ad8 (U2 s0 [] false):=ba.out t hm fun a h=>by rw[Wy h]at ap;cases ap
   rw[ay]at av;have bp:(((((t++[46]).length-e.length:Nat):Int)) != -1)=true:=by first|(simp;done)|(simp;omega)
   clear ay ap hA;generalize ((t++[46]).length-e.length)=pv at av bp
   repeat' (first|refine Z1 ?_|(refine Z8 ?_;intro ya J)|(refine Z4 ?_;clear J ya)|(refine Z2 ?_ ?_<;>intro h ac<;>try exact Xp)|(refine Z6 ?_;intro idn zn an ao ae ab ad aa)|(refine Z5 ?_;refine Xi (av _) ?_;rintro _ _ ⟨rfl,aj⟩)|refine Z7 ?_|exact Zt|(apply J.out;clear J ya))
   exact⟨_,rfl,[],1,[],false,rfl,HR.out,rfl,hK.trans aj⟩
  |got l r=>
   have ay:=Fw (t++[46]);rw[ap]at ay;rw[ay]at av;obtain⟨g1,g2,g3,g4⟩:=Ek (by simp;omega) ap;have hI:=fun z=>Mt (t++[46]) (by simp;omega) (by have:=g1.1;omega) g1.2 z;rw[g2]at hI;have b7:((-1:Int) != -1)=false:=rfl;have HF:Ad8 (∀x,l=[x]->x.out=false->x.body=[]->E3 x=true->pD t x.head):=fun x h1 h2 h3 h4=>yI ap h1 h2 h3 h4;have HX:Ad8 (∀a,pD t a->l=[Ux a]):=fun a h=>by rw[Wy h]at ap;cases ap;rfl
   have bc:Ad8 (∀x∈l,Jk x):=g4;clear ay ap g1 g2;by_cases bf:l.length=1
   ·obtain⟨x,rfl⟩:=List.length_eq_one_iff.1 bf;have a7:x.fits:=by
     have hw:=bc.out x (by simp);cases ho:x.out with
     |true=>
      obtain⟨w1,w2,w3⟩:=hw.2.1 ho;exact⟨by rw[w3];simp,by rw[w2];simp,fun a ha=>by rw[w3]at ha;cases ha⟩
     |false=>
      obtain⟨w1,w2,w3,w4⟩:=hw.2.2 ho;exact⟨Ad2,by have:=w1.2.2.1;omega,fun a ha=>by have:=(w4 a ha).2.2.1;omega⟩
    have bu:(((1:Nat):Int) !=1)=false:=rfl;by_cases ai:x.out=false/\x.body=[]/\E3 x=true
    ·obtain⟨ax,aw,bb⟩:=ai;have bj:=HF.out x rfl ax aw bb;have a4:=fun c (hc:EItem x c) z=>O4 x c hc a7 z;rw[bb]at a4
     have HN:Ad8 (∀ih,(A++[x.head]).length=i+1/\EL Be (A++[x.head]) (xs++[sc (.bool x.head.nt),str x.head.pred,sl ih x.head.terms.length (x.head.terms.map str)])/\∀(j:Nat) (t:Tx) (a:RAtom),C[j]?=some t->(A++[x.head])[j]?=some a->pD t a):=fun ih=>⟨by rw[Abj,hA.out.1];rfl,hA.out.2.1.append (EL.single ⟨ih,rfl⟩),fun j t' a h1 h2=>by
      have bw:=hA.out.1;rcases Nat.lt_trichotomy j A.length with h|h|h
      ·rw[List.getElem?_append_left h]at h2;exact hA.out.2.2 j t' a h1 h2
      ·subst h;rw[Abm (Aak _)]at h2;simp at h2;rw[bw,am]at h1;cases h1;rw[<-h2];exact bj
      ·rw[Aa7 (by simp;omega)]at h2
       cases h2⟩
     clear hA bj HF HX bc am
     repeat' (first|refine Z1 ?_|(refine Z8 ?_;intro ya J)|(refine Z4 ?_;clear J ya)|(refine Z2 ?_ ?_<;>intro h ac<;>try exact Xp)|(refine Z6 ?_;intro idn zn an ao ae ab ad aa)|(refine Z5 ?_;first|(refine Xi (av _) ?_;rintro _ _ ⟨rfl,aj⟩)|(refine Xi (hI _) ?_;rintro _ _ ⟨idl,ics,rfl,ak,au⟩;(obtain⟨ih,id,b,r9,a8,a0⟩:=Df ak (show [x][0]?=some x from rfl);have az:=EL.length Cb ak;have af:=a4 _ (EItem.of (ih:=ih) (id:=id) a8);unfold Bo at af;simp only[ax,aw]at a0 af))|(refine Xi (af _) ?_;rintro _ _ ⟨rfl,bd⟩;(have b9:=((hK.trans aj).trans au).trans bd;have b8:=Own.keep (Own.keep (Own.keep hO aj) au) bd)))|refine Z7 ?_|exact Zt|(apply J.out;clear J ya))
     refine⟨C.length-(i+1),Ad2,i+1,idn,A++[x.head],xs++[sc (.bool x.head.nt),str x.head.pred,sl ih x.head.terms.length (x.head.terms.map str)],?_⟩;have bz:Ad8 _:=HN.out ih
     ((repeat' refine Zi ?_ ?_)<;>first|exact Xq|exact bz|exact Xs)
    ·have HR:Ad8 (U2 s0 [] false):=ba.out t hm fun a h=>by
      have e:=HX.out a h;have e:x=Ux a:=by simpa using e
      subst e;exact ai ⟨rfl,rfl,by rw[cC rfl rfl];exact h.2.2.2.2⟩
     have a4:=fun c (hc:EItem x c) z=>O4 x c hc a7 z;clear hA HF HX bc am;cases ax:x.out with
     |true=>
      clear ai a4
      repeat' (first|refine Z1 ?_|(refine Z8 ?_;intro ya J)|(refine Z4 ?_;clear J ya)|(refine Z2 ?_ ?_<;>intro h ac<;>try exact Xp)|(refine Z6 ?_;intro idn zn an ao ae ab ad aa)|(refine Z5 ?_;first|(refine Xi (av _) ?_;rintro _ _ ⟨rfl,aj⟩)|(refine Xi (hI _) ?_;rintro _ _ ⟨idl,ics,rfl,ak,au⟩;(obtain⟨ih,id,b,r9,a8,a0⟩:=Df ak (show [x][0]?=some x from rfl);have az:=EL.length Cb ak;simp only[ax]at a0)))|refine Z7 ?_|exact Zt|(apply J.out;clear J ya))
      exact⟨_,rfl,[],1,[],false,rfl,HR.out,rfl,(hK.trans aj).trans au⟩
     |false=>
      by_cases aw:x.body=[]
      ·have bb:E3 x=false:=by
        cases h:E3 x with
        |false=>rfl
        |true=>exact absurd ⟨ax,aw,h⟩ ai
       rw[bb]at a4;clear ai
       repeat' (first|refine Z1 ?_|(refine Z8 ?_;intro ya J)|(refine Z4 ?_;clear J ya)|(refine Z2 ?_ ?_<;>intro h ac<;>try exact Xp)|(refine Z6 ?_;intro idn zn an ao ae ab ad aa)|(refine Z5 ?_;first|(refine Xi (av _) ?_;rintro _ _ ⟨rfl,aj⟩)|(refine Xi (hI _) ?_;rintro _ _ ⟨idl,ics,rfl,ak,au⟩;(obtain⟨ih,id,b,r9,a8,a0⟩:=Df ak (show [x][0]?=some x from rfl);have az:=EL.length Cb ak;have af:=a4 _ (EItem.of (ih:=ih) (id:=id) a8);unfold Bo at af;simp only[ax,aw]at a0 af))|(refine Xi (af _) ?_;rintro _ _ ⟨rfl,bd⟩))|refine Z7 ?_|exact Zt|(apply J.out;clear J ya))
       exact⟨_,rfl,[],1,[],false,rfl,HR.out,rfl,((hK.trans aj).trans au).trans bd⟩
      ·have b6:decide ((x.body.length:Int)>0)=true:=by simp;exact Adt.2 aw
       have bq:decide ((0:Int)<(x.body.length:Int))=true:=by simp;exact Adt.2 aw
       clear ai a4 aw
       repeat' (first|refine Z1 ?_|(refine Z8 ?_;intro ya J)|(refine Z4 ?_;clear J ya)|(refine Z2 ?_ ?_<;>intro h ac<;>try exact Xp)|(refine Z6 ?_;intro idn zn an ao ae ab ad aa)|(refine Z5 ?_;first|(refine Xi (av _) ?_;rintro _ _ ⟨rfl,aj⟩)|(refine Xi (hI _) ?_;rintro _ _ ⟨idl,ics,rfl,ak,au⟩;(obtain⟨ih,id,b,r9,a8,a0⟩:=Df ak (show [x][0]?=some x from rfl);have az:=EL.length Cb ak;simp only[ax]at a0)))|refine Z7 ?_|exact Zt|(apply J.out;clear J ya))
       exact⟨_,rfl,[],1,[],false,rfl,HR.out,rfl,(hK.trans aj).trans au⟩
   ·have HR:Ad8 (U2 s0 [] false):=ba.out t hm fun a h=>by
     rw[HX.out a h]at bf;exact bf rfl
    have bu:((l.length:Int) !=1)=true:=by simp;omega
    clear hA HF HX bc am
    repeat' (first|refine Z1 ?_|(refine Z8 ?_;intro ya J)|(refine Z4 ?_;clear J ya)|(refine Z2 ?_ ?_<;>intro h ac<;>try exact Xp)|(refine Z6 ?_;intro idn zn an ao ae ab ad aa)|(refine Z5 ?_;first|(refine Xi (av _) ?_;rintro _ _ ⟨rfl,aj⟩)|(refine Xi (hI _) ?_;rintro _ _ ⟨idl,ics,rfl,ak,au⟩))|refine Z7 ?_|exact Zt|(apply J.out;clear J ya))
    exact⟨_,rfl,[],1,[],false,rfl,HR.out,rfl,(hK.trans aj).trans au⟩
 ·have b4:i=C.length:=Ad2;have a6:=bg.out A (by have:=hA.out.1;omega) hA.out.2.2;have bk:Ad8 (A.length=C.length):=by have:=hA.out.1;rw[Ad8];omega
  have b3:0<s0.length:=Adt.2 (by intro e;rw[e]at bi;cases bi);have bh:=Aav (show s0.length-1<s0.length by omega);have ah:s0.getLast?=s0[s0.length-1]?:=List.getLast?_eq_getElem?;rw[bh]at ah;generalize s0[s0.length-1]=lb at bh ah;rw[ah]at a6;have HE:Ad8 (EL Be A xs):=hA.out.2.1;have bl:((s0.length:Int)-1)=((s0.length-1:Nat):Int):=Ad2;clear hA ba bg HP ah;by_cases a5:lb=46
  ·have HR:Ad8 (U2 s0 A true):=a6.1 (by rw[a5]);have br:((lb.toNat:Int)==46)=true:=by rw[a5];rfl
   clear a6 a5
   repeat' (first|refine Z1 ?_|(refine Z8 ?_;intro ya J)|(refine Z4 ?_;clear J ya)|(refine Z2 ?_ ?_<;>intro h ac<;>try exact Xp)|(refine Z6 ?_;intro idn zn an ao ae ab ad aa)|refine Z7 ?_|exact Zt|(apply J.out;clear J ya))
   refine Aq Ad (fun _=>True) [] [0,1,2,3,4,5,6,7,8] [] Ad5 (fun _ _ _ h=>h) ?_;intro ya J;refine Z7 ?_
   repeat' (first|refine Z1 ?_|(refine Z8 ?_;intro ya J)|(refine Z4 ?_;clear J ya)|(refine Z2 ?_ ?_<;>intro h ac<;>try exact Xp)|(refine Z6 ?_;intro idn zn an ao ae ab ad aa)|refine Z7 ?_|exact Zt|(apply J.out;clear J ya))
   have a9:=bk.out
   first|exact⟨_,rfl,A,i3,xs,true,by rw[a9],HR.out,HE.out,hK⟩|exact⟨_,rfl,A,i3,xs,true,by rw[a9],HR.out,HE.out⟩
  ·have HR:Ad8 (U2 s0 A false):=a6.2 (by simpa using a5);have br:((lb.toNat:Int)==46)=false:=by
    have:¬lb.toNat=46:=fun e=>a5 (Acg.1 e);simp;omega
   clear a6 a5
   repeat' (first|refine Z1 ?_|(refine Z8 ?_;intro ya J)|(refine Z4 ?_;clear J ya)|(refine Z2 ?_ ?_<;>intro h ac<;>try exact Xp)|(refine Z6 ?_;intro idn zn an ao ae ab ad aa)|refine Z7 ?_|exact Zt|(apply J.out;clear J ya))
   refine Aq Ad (fun _=>True) [] [0,1,2,3,4,5,6,7,8] [] Ad5 (fun _ _ _ h=>h) ?_;intro ya J;refine Z7 ?_
   repeat' (first|refine Z1 ?_|(refine Z8 ?_;intro ya J)|(refine Z4 ?_;clear J ya)|(refine Z2 ?_ ?_<;>intro h ac<;>try exact Xp)|(refine Z6 ?_;intro idn zn an ao ae ab ad aa)|refine Z7 ?_|exact Zt|(apply J.out;clear J ya))
   have a9:=bk.out
   first|exact⟨_,rfl,A,i3,xs,false,by rw[a9],HR.out,HE.out,hK⟩|exact⟨_,rfl,A,i3,xs,false,by rw[a9],HR.out,HE.out⟩
theorem xT {l:List RItem}(hr:xJ l)(hu:∀x∈l,x.out=false->∀a,a=x.head\/a∈x.body->∀t∈a.terms,UT t)(F:List RAtom):∃M,Stb l (Tk F) M:=by
 let N:List Tx:=l.flatMap (fun x=>x.head.pred::x.body.map (·.pred))++F.map (·.pred);have hN:∀x∈l,x.head.pred∈N/\∀a∈x.body,a.pred∈N:=fun x hx=>⟨Adk _ (Acl.2 ⟨x,hx,by simp⟩),fun a ha=>Adk _ (Acl.2 ⟨x,hx,by simp only[Acd,Acf];exact .inr ⟨a,ha,rfl⟩⟩)⟩;have hF:∀a∈F,a.pred∈N:=fun a ha=>List.mem_append_right _ (Acf.2 ⟨a,ha,rfl⟩);have h:=rC hr hN hu (B:=fun k t=>∃a∈F,k=N.idxOf a.pred/\t=Cx (Dv [] a)) fun k t ⟨a,ha,e,_⟩=>⟨a.pred,hF a ha,e⟩;have e:vE N (fun k t=>∃a∈F,k=N.idxOf a.pred/\t=Cx (Dv [] a))=Tk F:=by
  funext p t;refine propext ⟨?_,?_⟩
  ·rintro⟨hp,a,ha,e1,e2⟩;exact⟨a,ha,(Eb hp (hF a ha) e1).symm,e2⟩
  ·rintro⟨a,ha,rfl,e2⟩;exact⟨hF a ha,a,ha,rfl,e2⟩
 rw[e]at h;exact⟨_,h⟩
theorem Fine.saf {x:RItem}(h:Fine x)(ho:x.out=false):Zh false x:=fun v hv hm=>by
 have hs:=h.safe;unfold E3 at hs;simp only[Bool.not_eq_true',Ab4]at hs;have key:∀b∈Af x,v∈b.terms->∃a∈x.body,He false a=true/\v∈a.terms:=fun b hb aa=>by
  have h1:=hs b hb;unfold jH at h1;simp only[Bool.not_eq_true,Ab4]at h1;have h2:T8 x v=false:=by simpa using h1 v aa
  unfold T8 at h2;rw[hv,Aco]at h2;have h3:Hz x v=true:=by simpa using h2
  unfold Hz at h3;simp only[Ab0,Aaz,Adx]at h3;obtain⟨a,ha,u,hu,hn,rfl⟩:=h3;exact⟨a,ha,by simpa[He]using hn,hu⟩
 rcases hm with hm|⟨a,ha,-,ab⟩
 ·exact key x.head (Hl (.inl ⟨ho,rfl⟩)) hm
 ·exact key a (Hl (.inr ha)) ab
theorem lW {c0 a:Nat}(ha:a<=600)(hc:c0<=1):∀p,Ec c0 a p<=700^p
 |0=>by simp[Ec];omega
 |p+1=>by
  have h1:=lW ha hc p;unfold Ec;have h2:a*Ec c0 a p<=600*700^p:=Nat.mul_le_mul ha h1;have h3:1<=700^p:=Nat.one_le_pow _ _ Ad2;rw[Nat.pow_succ];omega
theorem eO {a:Nat}(ha:a<=600):∀p,Ec 0 a (p+1)<=700^p
 |0=>by simp[Ec]
 |p+1=>by
  have h1:=eO ha p;rw[Ec];have h2:a*Ec 0 a (p+1)<=600*700^p:=Nat.mul_le_mul ha h1;have h3:1<=700^p:=Nat.one_le_pow _ _ Ad2;rw[Nat.pow_succ];omega
theorem Fine.ruleF {x:RItem}(h:Fine x)(ho:x.out=false):Px false 600 x:=by
 have hb:=(h.w.2.2 ho).2.2.1;have ab:x.body.countP (He false)<=x.body.length:=List.countP_le_length;have h4:∀q,q<=4->(700:Nat)^q<=240100000000:=fun q hq=>by
  have:(700:Nat)^q<=700^4:=Nat.pow_le_pow_right Ad2 hq;omega
 by_cases aa:∀a∈x.body,He false a=true
 ·refine⟨0,x.body.countP (He false),⟨h.cl ho,Ad2,h.saf ho,rfl,.inr aa⟩,fun a ha=>?_⟩;generalize x.body.countP (He false)=p at ab
  match p,ab with
  |0,_=>simp[Ec]
  |p+1,ab=>
   have h1:=eO ha p;have h2:=h4 p Ad2;omega
 ·have ac:x.body.countP (He false)<x.body.length:=by
   refine Nat.lt_of_le_of_ne ab fun e=>aa ?_;exact List.countP_eq_length.1 e
  refine⟨1,x.body.countP (He false),⟨h.cl ho,Ad2,h.saf ho,rfl,.inl rfl⟩,fun a ha=>?_⟩;have h1:=lW (c0:=1) ha Ad2 (x.body.countP (He false));have h2:=h4 (x.body.countP (He false)) Ad2;omega
section
variable {t f:Tx} {n:Int} {l:List RItem} {F:List RAtom} (hK:jQ t f n l F)
include hK
theorem Ym {x:RItem}(hx:x∈l):Fine x:=Me hK.ck x (by rw[(Ek (by have:=hK.tl;omega) hK.par).2.1];exact hx)
theorem rA:RfI (Fl (l.flatMap Af++F)) l F:=by
 have aa:=uR hK;refine⟨gK hK,fun x hx ho a ha=>?_,fun x hx ho=>((Ym hK hx).w.2.2 ho).2.1,fun x hx ho=>(Ym hK hx).saf ho,fun a ha=>?_⟩
 ·have hf:=Ym hK hx;obtain⟨w1,w2,w3,w4⟩:=hf.w.2.2 ho;have ab:Fb a:=by
   rcases ha with rfl|ha
   ·exact w1
   ·exact w4 a ha
  have ac:short a:=by
   rcases ha with rfl|ha
   ·exact hf.sh.1
   ·exact hf.sh.2 a ha
  have hc:=aa a (Adk _ (Acl.2 ⟨x,hx,by
   rcases ha with rfl|ha
   ·exact Hl (.inl ⟨ho,rfl⟩)
   ·exact Hl (.inr ha)⟩))
  exact⟨cK hK.ck hK.par x hx ho a ha,ab.2.2.1,hc.2,hc.1,ac.1⟩
 ·have hg:=O8 _ _ _ _ hK.fac a ha;obtain⟨h1,h2,h3⟩:=(Ct _ _ _ _ hK.fac).2.2.2 a ha;have hc:=aa a (List.mem_append_right _ ha);refine⟨h2,hg.few,hc.2,hc.1,by have:=hg.nm.2;omega,fun w hw=>⟨wU (Hs (T:=DT) Nt _ _ _ _ hK.fac a ha w hw) (h1.2.2.2 w hw) ?_ (Hs (T:=VT) (fun _ _ _ h=>Ss h) _ _ _ _ hK.fac a ha w hw),setA_iff.1 h3 w hw⟩⟩;rcases hg.tm w hw with⟨b,rfl,-⟩|rfl|⟨b,r,rfl,-,-,hr⟩
  ·simp
  ·simp
  ·simp;omega
theorem uQ {cF:List AV}(hE:EL Be F cF):D5 F cF/\F.length<=400:=by
 have hl:=(Ct _ _ _ _ hK.fac).2.1;have hf:=rA hK;refine⟨⟨hE,Ad2,fun a ha t ht=>((hf.fac a ha).tm t ht).2,fun a ha=>Zb ((Ct _ _ _ _ hK.fac).2.2.2 a ha).1 ⟨(hf.fac a ha).pl,by have:=(hf.fac a ha).le;omega,fun t ht=>((hf.fac a ha).tm t ht).1.2.2.1⟩⟩,hl⟩
theorem vK {A:List RAtom}{k:Int}{ok:Bool}{N:Nat}(hN:(N:Int)=n)(hm:tH l F N A k ok):(ok=false->jP l F n [] 0 9)/\(ok=true->jP l F n (V3 (fun p=>D2 (Jn (A.map Gi) p)) l) k 0/\(∀a∈A,Gf (Fl (l.flatMap Af++F)) a)/\A.Nodup/\A.length<=1000):=by
 have hf:=rA hK;obtain⟨M,hM⟩:=xT hf.rg (fun x hx ho a ha=>(hf.ut x hx ho a ha).1) F;obtain⟨A0,h0,h⟩:=hm;obtain⟨s0,e0⟩:=qJ hf hM h0;have af:=h0.len;have ae:=(Ct _ _ _ _ hK.fac).2.1;have ac:=hK.n1;rcases h with⟨rfl,hc,hl,rfl⟩|⟨rfl,rfl,s,A1,hs,hc,ab⟩
 ·have aa:=hc.stg hf hM s0;refine⟨fun h=>(by cases h),fun _=>⟨⟨M,A0.map Gi,A.map Gi,hM,e0,.inr ⟨uG hf hM aa,?_,?_,rfl,rfl⟩⟩,aa.gf,aa.nd,Ad2⟩⟩
  ·rw[Ace,Ace];omega
  ·rw[Ace,Ace]
 ·obtain⟨L,hL,ad⟩:=xS hf hM (hc.stg hf hM s0) ab;refine⟨fun _=>⟨M,A0.map Gi,L,hM,e0,.inl ⟨hL,?_,rfl,rfl,rfl⟩⟩,fun h=>(by cases h)⟩;rw[Ace];omega
end
theorem vM {ar:Tx->Nat}{A:List RAtom}(hg:∀a∈A,Gf ar a)(p:Tx):((D2 (Jn (A.map Gi) p)).flatMap (Cs p)).length<=A.length*10000:=by
 have key:∀L:List Bj,(∀t∈L,(Cs p t).length<=10000)->(L.flatMap (Cs p)).length<=L.length*10000:=fun L=>by
  induction L with
  |nil=>intro _;simp
  |cons t L ih=>
   intro h;have h1:=h t (by simp);have h2:=ih fun u hu=>h u (by simp[hu]);rw[Aca,Abj,Abv];omega
 have h1:=key (D2 (Jn (A.map Gi) p)) fun t ht=>by
  have:=tupP_mem.1 ((F4 _).subset ht);obtain⟨a,ha,e⟩:=Acf.1 this;obtain⟨e1,e2⟩:=Adv e;have aa:=hg a ha;have e3:=lS aa aa.ps;rw[e1]at e3;have e4:(Gi a).2=t:=e2;rw[<-e4,<-e3];have h2:=Q5 [] a.terms 0 fun t ht=>(aa.tm t ht).1.2.2.1;have h3:=aa.le;have h4:=aa.pl;unfold Gy;rw[if_neg (by simp[aa.nt])];simp only[Abj,Abu,Abv];omega
 have h2:=(F4 (Jn (A.map Gi) p)).length_eq;have h3:(Jn (A.map Gi) p).length<=A.length:=by
  unfold Jn;rw[Ace];have:=Ac6 (fun y:PT=>y.1==p) (A.map Gi);rw[Ace]at this;exact this
 have:=Aar 10000 (show (D2 (Jn (A.map Gi) p)).length<=A.length by omega);omega
theorem vL {l:List RItem}{f:Tx}{F:List RAtom}(h:Bw 400 f= .got F []):F1 l f=Ny l F:=by
 unfold F1 Ny;rw[h];have e:(fun a:RAtom=>gH l a.pred)=fun a=>Dh l a.pred:=funext fun a=>by
  unfold gH Dh;congr 1;funext x;unfold Gz;rw[Acv];simp
 rw[e]
theorem mJ {told:List Tx}{p:Tx}:Im told p<0↔p∉told:=by
 unfold Im;split
 ·rename_i h;simp[h]
 ·rename_i h;simp[h]
end Go.Proofs.YtmoeoppbmhfbpaaGreatDoorH
