import Derived.Test.YtmoeoppbmhfbpabGreatDoorK
set_option maxHeartbeats 32000000
set_option maxRecDepth 100000
set_option linter.all false
open List
open List renaming length->Z
namespace Go.Proofs.YtmoeoppbmhfbpabGreatDoorJ
open Go.Abs Tryz
structure DV (k:Nat)(S:Ck->Prop)(M M':MM)(d d':Int):Prop where
 len:Z M'=Z M
 oth:∀j,j≠k->(M'[j]?).map (·.2)=(M[j]?).map (·.2)
 ext:∃new:List Ck,Ba M' k=Ba M k++new/\new.Nodup/\(∀t∈new,S t/\t∉Ba M k)/\d'=d+Z new
def DV.refl (k S M d):DV k S M M d d:=⟨rfl,λ_ _=>rfl,[],nk,GN,nk,nk⟩
def DV.trans {k S M m M2 d f i}(h:DV k S M m d f)(g:DV k S m M2 f i):DV k S M M2 d i:=by let⟨n,b,z,B,v⟩:=h.ext;let⟨A,q,u,c,p⟩:=g.ext;refine⟨g.len.trans h.len,λj l=>(g.oth j l).trans (h.oth j l),n++A,gp,?_,?_,?_⟩<;>grind
def DV.mono {k S c M M' d b}(h:DV k S M M' d b)(j:∀t,S t->c t):DV k c M M' d b:=by let⟨n,g,i,e,f⟩:=h.ext;exact⟨h.len,h.oth,n,g,i,λt a=>⟨j t (e t a).1,(e t a).2⟩,f⟩
def DV.sub {k S M M' d b}(h:DV k S M M' d b){t}(a:t∈Ba M k):t∈Ba M' k:=by obtain⟨n,c,-,-,-⟩:=h.ext;grind
def DV.le {k S M M' d a}(h:DV k S M M' d a):d<=a:=by obtain⟨n,-,-,-,b⟩:=h.ext;omega
def Room (M:MM)(d b:Int):Prop:=∀x∈M,(Z x.2:Int)+(b-d)<=4000
def DV.room {k S M M' d g b}(h:DV k S M M' d g)(l:Room M d b):Room M' g b:=by
 intro x m;let⟨j,a⟩:=CL m;obtain⟨n,c,-,-,o⟩:=h.ext;have i:=h.len▸(BA.1 a).1
 have f:=AK i;have p:=l _ (AR i);by_cases e:j=k;subst e;unfold Ba at c;simp only[DK,a,f,GJ,MG]at c;rw[c];simp only[AX];omega;have:=h.oth j e;rw[a,f]at this;simp at this;rw[this];have:=h.le;omega
theorem Cp {M}{k:Nat}{x}(h:M[k]?=some x):Ba M (k:Int)=x.2:=by grind[Ba]
def YH {M k id x t S d}(a:M[k]?=some x)(f:t∉x.2)(g:S t):DV k S M (M.set k (id,x.2++[t])) d (d+1):=by have i:=(BA.1 a).1;refine⟨nk,λj c=>gp,[t],?_,nk,?_,nk⟩;rw[Cp a,Cp (x:=(id,x.2++[t])) (ns i)];intro u b;simp at b;subst b;rw[Cp a];exact⟨g,f⟩
def BL.setd {z c a M d f b}(h:BL z c a M d b):BL (z.put c [fx a 0 (Z M),Y f,Y b]) c a M f b where
 ob:=Ak
 oc:=by rw[show (z.put c [fx a 0 (Z M),Y f,Y b]).C a=z.C a from by simp[St.put];intro e;cases h.ne e.symm];exact h.oc
 lo:=h.lo
 lt:=h.lt
 ne:=h.ne
 live:=h.live
 inj:=h.inj
 t3:=h.t3
 ln:=h.ln
 pl:=h.pl
def KM.setd {b g M M' z a}(h:KM b g M M' z a)(c):KM b g M M' z (a.put b c):=
 ⟨h.B,λo e d f=>by rw[show (a.put b c).C o=a.C o from by grind[St.put]];exact h.C o e d f,λo e d f=>by rw[show (a.put b c).ver o=a.ver o from by grind[St.put]];exact h.ver o e d f,h.D,h.top,h.mid⟩
def aF (neg:Int->Ck->Prop)(q:AZ)(t:Ck):Prop:=∃a,Mq neg q a/\t=B8 q.h a
def PD (neg:Int->Ck->Prop)(f i:Nat)(b:Int)(l:List Int):Prop:=∀(q:AZ) (c:oh) (k:Nat) (M:MM) (d:Int),EQ q c->Tz q->BO neg M q->(∀a∈q.B,a.p≠(k:Int))->QV q->q.h.p=(k:Int)->k<Z M->Room M d b-> -1000000<=d->d<=1000000-> -1000000<=b->b<=900000->(∀v,FA q v->v∈l)->
 ∀z,BL z f i M d b->ni 139 [ptr f 0,ag c] z λm j=>∃e g,BL j f i e g b/\KM f i M e z j/\DV k (aF neg q) M e d g/\g<=1000000/\(¬b<g->∀t,aF neg q t->t∈Ba e k)
def BO.gro {neg M M' q}{k:Nat}{S d l}(h:BO neg M q)(o:∀a∈q.B,a.p≠(k:Int))(g:DV k S M M' d l):BO neg M' q:=λa c=>by
 let⟨j,x,f,m,n⟩:=h a c;have i:j≠k:=λe=>o a c (gp);have:=g.oth j i;grind
def Sb (neg c i b S)(IH:∀V':List Int,Z V'<Z S->PD neg c i b V'):PD neg c i b S:=by
 intro q h7 k M d hc hA de e4 hV N da a7 fp cm et er ci z P;have a8:=λz (h:BL z c i M d b)=>Qm c i M d b z h;have cj:=hA.ok.hd;have em:Z q.h.ts<=1000:=L;have be:=λ(id:Nat) z=>Pq q.h.p id q.h.ts em z;have bm:M[k]?=some M[k]:=AK da;generalize M[k]=x at bm;have ca:=λ(id:Nat) z (h:BL z c i M d b)=>Jq c i M d b q.h id k x cj N bm z h;have bf:=λz (h:BL z c i M d b)=>eR neg q h7 c i M d b hc hA de z h;have hT:Ba M (k:Int)=x.2:=Cp bm;obtain⟨ih,ip,hr,pc,nc,rfl,-,-⟩:=hc;have cq:∀cs,BL (z.new cs) c i M d b:=λcs=>P.keep ((W.refl z).new cs);by_cases ch:b<d
 ·rw[show decide (b<d)=true from by simpa using ch]at a8;rw[N];clear ca be bf;refine Z9 86 [] func139 ?_
  refine m0 ?_;intro yb ya;refine Xi (a8 _ (P.keep (Xs))) ?_;rintro _ _ ⟨rfl,rfl⟩;refine X ?_
  first|exact⟨_,rfl,M,d,cq _,KM.ofKeep ((W.refl z).new _),DV.refl _ _ _ _,cm,λh=>absurd ch h⟩|exact⟨M,d,cq _,KM.ofKeep ((W.refl z).new _),DV.refl _ _ _ _,cm,λh=>absurd ch h⟩
 have bu:decide (b<d)=false:=nn ch;rw[bu]at a8;have ac:=be ih;have ai:=ca ih;rw[N]at ac ai bf;rw[N];have bq:∀E,W z E->(∀t,aF neg q t->t∈x.2)->∃o s,BL E c i o s b/\KM c i M o z E/\DV k (aF neg q) M o d s/\s<=1000000/\(¬b<s->∀t,aF neg q t->t∈Ba o k):=λE d7 aw=>
  ⟨M,d,P.keep d7,KM.ofKeep d7,DV.refl _ _ _ _,cm,λ_ t ht=>by rw[hT];exact aw t ht⟩
 have ae:V _:=bq;clear bq bu;cases hs:Jz q.h.ts with
 |true=>
  rw[hs]at ac;have ap:=λA=>Rf hs A;by_cases hm:C4 q.h∈x.2
  ·rw[show decide (C4 q.h∈x.2)=true from by simpa using hm]at ai;have aw:∀t,aF neg q t->t∈x.2:=λt ⟨A,_,e⟩=>by rw[e,ap];exact hm
   have cf:V _:=aw;clear aw ap ca be bf;refine Z9 86 [] func139 ?_
   repeat' first|refine Z1 ?_|refine Z8 λyb ya=>?_|refine Z4 ?_;clear ya yb|refine Z2 ?_ ?_<;>intro h aa<;>try exact Xp|(refine Z5 ?_;first|(refine Xi (a8 _ (P.keep (Xs))) ?_;rintro _ _ ⟨rfl,rfl⟩)|(refine Xi (ac _) ?_;rintro _ _ ⟨rfl,T⟩;(have aj:=T.B;have ab:=T.C;have bn:=((W.refl z).new _).trans T;simp only[Aa]at aj ab))|(refine Xi (ai _ (P.keep (Xs))) ?_;rintro _ _ ⟨rfl,b8⟩;(have b4:=bn.trans b8)))|refine Z3 ?_|exact Zt|apply ya.o;clear ya yb
   first|exact⟨_,rfl,ae.o _ b4 cf.o⟩|exact ae.o _ b4 cf.o
  rw[show decide (C4 q.h∈x.2)=false from by simpa using hm]at ai;have fi:V (C4 q.h∉x.2):=hm;clear hm;have cu:∀(id:Nat) z,ni 131 [ag [Y (k:Int),X1 id q.h.ts]] z λdg E=>dg=my true/\W z E:=λid z=>by
   have:=be id z;rw[N,hs]at this;exact this
  have d6:=λ(id:Nat) z (h:BL z c i M d b)=>Y4 c i M d b q.h id k x cj N bm (by
   have:=a7 x (AY bm)
   omega) z h
  rw[N]at d6;have b9:=Ui neg c i M d b (Z S) S (AU _);clear be ca cq;refine Z9 86 [] func139 ?_
  repeat' first|refine Z1 ?_|refine Z8 λyb ya=>?_|refine Z4 ?_;clear ya yb|refine Z2 ?_ ?_<;>intro h aa<;>try exact Xp|(refine Z5 ?_;first|(refine Xi (a8 _ (P.keep (Xs))) ?_;rintro _ _ ⟨rfl,rfl⟩)|(refine Xi (ac _) ?_;rintro _ _ ⟨rfl,T⟩;(have aj:=T.B;have ab:=T.C;have bn:=((W.refl z).new _).trans T;simp only[Aa]at aj ab))|(refine Xi (ai _ (P.keep (Xs))) ?_;rintro _ _ ⟨rfl,b8⟩;(have ee:=b8.B;have bp:=b8.C;have b4:=bn.trans b8;clear ac))|(refine Xi (bf _ (P.keep (Xs))) ?_;rintro _ _ ⟨⟨c',(⟨rfl,ej,en,bw⟩|⟨f,rfl,⟨ex,c4,c2,c1,c3,rfl,cn,cp⟩,a4,df,B,au⟩)⟩,K⟩))|refine Z3 ?_|exact Zt|apply ya.o;clear ya yb
  ·have bc:=K.B;have o4:=K.C z.B L;rw[bp _ L,ab _ L,Ao]at o4;have ay:=b4.trans K;have cd:V (∀A,¬Mq neg q A):=bw;clear bw
   refine X ?_
   first|exact⟨_,rfl,ae.o _ (ay.put L _) (λt ⟨A,h,_⟩=>absurd h (cd.o A))⟩|exact ae.o _ (ay.put L _) (λt ⟨A,h,_⟩=>absurd h (cd.o A))
  have bc:=K.B;have o4:=K.C z.B L;rw[bp _ L,ab _ L,Ao]at o4;have ay:=b4.trans K;have he:f.h=q.h:=B.hd;have ax:BO neg M f:=de.sub λa D=>⟨a,(au a D).1,rfl⟩;have ak:pA ⟨⟨0,[]⟩,f.A,f.B⟩:=λv C=>a4.wf v (.inr (C.resolve_left (by simp[Bm])))
  have cv:=λz (h:BL z c i M d b)=>b9 ⟨⟨0,[]⟩,f.A,f.B⟩ [Y 0,H,sl c4 (Z f.A) c1,sl c2 (Z f.B) c3] ⟨1,c4,c2,c1,c3,rfl,cn,cp⟩ (Na a4 nk (MF _) (MF _) ak) (ax.sub λa D=>⟨a,D,rfl⟩)
   (λa D v C=>by
    have:a∈atomsQ f\/a=⟨0,[]⟩:=by
     unfold atomsQ at D⊢;simp only[BD,AW,AN]at D⊢;rcases D with h|h|h
     ·exact .inr h
     ·exact .inl (.inr (.inl h))
     exact .inl (.inr (.inr h))
    rcases this with h|rfl
    ·exact hV a (B.at_ a h) v C
    ·cases C) rfl (λv C=>by
    obtain⟨e1,hp,br⟩:=Yt (q:=⟨⟨0,[]⟩,f.A,f.B⟩) ak C
    exact ci v (FA.sub B.at_ ⟨e1.a,Lv hp,br⟩)) z h
  have ez:∀A,Mq neg (⟨⟨0,[]⟩,f.A,f.B⟩:AZ) A↔Mq neg f A:=λA=>Iff.rfl;have HE:V (f.h=q.h):=he;simp only[he,N];clear he b9 bf ai a8
  repeat' first|refine Z1 ?_|refine Z8 λyb ya=>?_|refine Z4 ?_;clear ya yb|refine Z2 ?_ ?_<;>intro h aa<;>try exact Xp|(refine Z5 ?_;first|(refine Xi (cv _ (P.keep (Xs))) ?_;rintro _ _ ⟨⟨bb,rfl,b0⟩,bi⟩;(have ce:V _:=b0;clear b0;have ba:=bi.B;have a9:=bi.C;simp only[Ac]at ba a9;have b5:=(ay.put L _).trans bi))|(refine Xi (cu _ _) ?_;rintro _ _ ⟨rfl,bh⟩;(have cz:=bh.B;have cx:=bh.C;have dk:=b5.trans bh))|(refine Xi (d6 _ _ (P.keep (Xs))) ?_;rintro _ _ ⟨gc,di,b7⟩;(generalize b3:M.set k (gc,x.2++[C4 q.h])=M7 at di b7;have eb:V _:=b3;clear b3;have fk:=di.ob;have dm:=KM.trans (KM.ofKeep dk) b7)))|refine Z3 ?_|exact Zt|apply ya.o;clear ya yb
  ·exact⟨_,rfl,ae.o _ b5 (λt ⟨A,a1,_⟩=>absurd (ce.o.2 ⟨A,B.to A a1⟩) (by rw[h];simp))⟩
  have db:bb=true:=nu;obtain⟨A,a1⟩:=ce.o.1 db;obtain⟨fn,g4,-⟩:=B.back A a1;have fa:aF neg q (C4 q.h):=⟨fn,g4,(ap fn).symm⟩;have fb:DV k (aF neg q) M M7 d (d+1):=by rw[<-eb.o];exact YH bm fi.o fa
  have ey:C4 q.h∈Ba M7 k:=by
   rw[<-eb.o,Cp (x:=(gc,x.2++[C4 q.h])) (by simp[da])];simp
  exact⟨_,rfl,M7,d+1,di.setd,dm.setd _,fb,L,λ_ t ⟨hf,_,e⟩=>by rw[e,ap];exact ey⟩
 |false=>
  rw[hs]at ac;have cu:∀(id:Nat) z,ni 131 [ag [Y (k:Int),X1 id q.h.ts]] z λdg E=>dg=my false/\W z E:=λid z=>by
   have:=be id z;rw[N,hs]at this;exact this
  have b9:=Ui neg c i M d b (Z S) S (AU _);obtain⟨y,G,cg⟩:∃y G,Cs [q.h]=y::G:=by
   cases C:Cs [q.h]with
   |nil=>
    exfalso;have:Jz q.h.ts=true:=by
     unfold Jz;rw[CX];rintro⟨t1,t2⟩ ht;cases t1 with
     |false=>rfl
     |true=>
      have:t2∈Cs [q.h]:=(Dn _ _).2 ⟨q.h,nk,ht⟩;rw[C]at this;cases this
    rw[this]at hs;cases hs
   |cons y G=>exact⟨y,G,rfl⟩
  have af:=λ(gi cl:Nat) (z:St)=>Hy [q.h] [Y q.h.p,X1 gi q.h.ts] cl (r.single ⟨gi,rfl⟩) (by simp;exact cj) nk z;have dv:=Fs (l:=[q.h]) (by simp;exact cj);have du:∀v,Bm q.h.ts v=true->v∈y::G:=λv C=>by rw[<-cg];exact (Dn _ _).2 ⟨q.h,nk,AO.1 C⟩
  have dx:Bm q.h.ts y=true:=by
   have:y∈Cs [q.h]:=by rw[cg];simp
   obtain⟨a,D,h⟩:=(Dn _ _).1 this;simp at D;subst D;exact AO.2 h
  rw[cg]at af dv;simp only[X2,BQ,CQ,As,CC,DY,N]at af;simp only[BQ,CQ,DY]at dv;have c7:Z (y::G)<=200:=by simp;omega
  clear be ca cq cg;refine Z9 86 [] func139 ?_
  repeat' first|refine Z1 ?_|refine Z8 λyb ya=>?_|refine Z4 ?_;clear ya yb|refine Z2 ?_ ?_<;>intro h aa<;>try exact Xp|(refine Z5 ?_;first|(refine Xi (a8 _ (P.keep (Xs))) ?_;rintro _ _ ⟨rfl,rfl⟩)|(refine Xi (ac _) ?_;rintro _ _ ⟨rfl,T⟩;(have aj:=T.B;have ab:=T.C;have bn:=((W.refl z).new _).trans T;simp only[Aa]at aj ab;clear ac))|(refine Xi (bf _ (P.keep (Xs))) ?_;rintro _ _ ⟨⟨c',(⟨rfl,ej,en,bw⟩|⟨f,rfl,⟨ex,c4,c2,c1,c3,rfl,cn,cp⟩,a4,df,B,au⟩)⟩,K⟩))|refine Z3 ?_|exact Zt|apply ya.o;clear ya yb
  ·have bc:=K.B;have o4:=K.C z.B L;rw[ab _ L,Ao]at o4;have ay:=bn.trans K;have cd:V (∀A,¬Mq neg q A):=bw;clear bw
   refine X ?_
   first|exact⟨_,rfl,ae.o _ (ay.put L _) (λt ⟨A,h,_⟩=>absurd h (cd.o A))⟩|exact ae.o _ (ay.put L _) (λt ⟨A,h,_⟩=>absurd h (cd.o A))
  have bc:=K.B;have o4:=K.C z.B L;rw[ab _ L,Ao]at o4;have ay:=bn.trans K;have he:f.h=q.h:=B.hd;have ax:BO neg M f:=de.sub λa D=>⟨a,(au a D).1,rfl⟩;have ak:pA ⟨⟨0,[]⟩,f.A,f.B⟩:=λv C=>a4.wf v (.inr (C.resolve_left (by simp[Bm])))
  have cv:=λz (h:BL z c i M d b)=>b9 ⟨⟨0,[]⟩,f.A,f.B⟩ [Y 0,H,sl c4 (Z f.A) c1,sl c2 (Z f.B) c3] ⟨1,c4,c2,c1,c3,rfl,cn,cp⟩ (Na a4 nk (MF _) (MF _) ak) (ax.sub λa D=>⟨a,D,rfl⟩)
   (λa D v C=>by
    have:a∈atomsQ f\/a=⟨0,[]⟩:=by
     unfold atomsQ at D⊢;simp only[BD,AW,AN]at D⊢;rcases D with h|h|h
     ·exact .inr h
     ·exact .inl (.inr (.inl h))
     exact .inl (.inr (.inr h))
    rcases this with h|rfl
    ·exact hV a (B.at_ a h) v C
    ·cases C) rfl (λv C=>by
    obtain⟨e1,hp,br⟩:=Yt (q:=⟨⟨0,[]⟩,f.A,f.B⟩) ak C
    exact ci v (FA.sub B.at_ ⟨e1.a,Lv hp,br⟩)) z h
  have cb:EQ f [Y (k:Int),X1 ex q.h.ts,sl c4 (Z f.A) c1,sl c2 (Z f.B) c3]:=⟨ex,c4,c2,c1,c3,by rw[he,N],cn,cp⟩;have dc:=λ(id:Nat) z=>Uf f _ (y::G) id cb a4.ok c7 z;simp only[X2,BQ,As,CC]at dc;have HE:V (f.h=q.h):=he;simp only[he,N];clear he b9 bf a8 cb;have dw:=af ex;clear af
  repeat' first|refine Z1 ?_|refine Z8 λyb ya=>?_|refine Z4 ?_;clear ya yb|refine Z2 ?_ ?_<;>intro h aa<;>try exact Xp|(refine Z5 ?_;first|(refine Xi (cv _ (P.keep (Xs))) ?_;rintro _ _ ⟨⟨bb,rfl,b0⟩,bi⟩;(have ce:V _:=b0;clear b0;have ba:=bi.B;have a9:=bi.C;simp only[Ac]at ba a9;have b5:=(ay.put L _).trans bi))|(refine Xi (cu _ _) ?_;rintro _ _ ⟨rfl,bh⟩;(have cz:=bh.B;have cx:=bh.C;have dk:=b5.trans bh))|(refine Xi (dw _ _) ?_;rintro _ _ ⟨⟨g7,rfl⟩,dp⟩;(have cy:=dp.B;have cw:=dp.C;simp only[Az,H6]at cy cw;have e7:=(dk.lay 1).trans dp))|(refine Xi (dc _ _) ?_;rintro _ _ ⟨⟨_,_,g,rfl,⟨a2,bk,bt,bl,bj,rfl,e3,e5⟩,⟨gl,gv,go,h5,h4,rfl,fq,fr⟩,hG,hC⟩,d8⟩;(have ed:=d8.B;have HC:V _:=hC;have HG:V _:=hG;clear hC hG;have e8:=e7.trans d8)))|refine Z3 ?_|exact Zt|apply ya.o;clear ya yb
  ·exact⟨_,rfl,ae.o _ b5 (λt ⟨A,a1,_⟩=>absurd (ce.o.2 ⟨A,B.to A a1⟩) (by rw[h];simp))⟩
  rename_i m;have db:bb=true:=nu;have dq:EQ (Bc f g) [Y (Bc f g).h.p,sl a2 (Z (Bc f g).h.ts) (Ad (Bc f g).h.ts),sl bk (Z (Bc f g).A) bl,sl bt (Z (Bc f g).B) bj]:=⟨a2,bk,bt,bl,bj,rfl,e3,e5⟩;have ga:∀v∈y::G,v∈g:=λv C=>by
   obtain⟨ad,e,-,-⟩:=HG.o;rw[e];exact AW.2 (.inl C)
  have ao:Tz (Bc f g):=Na a4 a4.ok.hd LD LD (iX a4.wf HC.o (λv C=>ga v (du v (by rw[<-HE.o];exact C))));have d0:QV (Bc f g):=λa D w hw=>by
   obtain⟨a',ew,ef⟩:=Rx (rs:=g) ⟨a,D,AO.2 hw⟩;exact hV a' (B.at_ a' ew) w (AO.1 ef)
  have dy:(Bc f g).h.p=(k:Int):=by show f.h.p=_;rw[HE.o,N]
  have bz:∀w,FA (Bc f g) w->w∈S:=λw hw=>ci w (FA.sub B.at_ (Rx hw));have bd:y∈S:=ci y ⟨q.h,by simp[atomsQ],dx⟩;have d1:Z (S.erase y)<Z S:=by
   rw[length_erase_of_mem bd];have:=length_pos_of_mem bd;omega
  have g9:=IH (S.erase y) d1;obtain⟨hf,h8⟩:=ce.o.1 db
  --what the near part brings,the query brings
  have b1:∀n t,aF neg (Dl y n (Bc f g)) t->aF neg q t:=λn t ⟨A,a1,e⟩=>by
   have h1:=(U7 ao.w).1 a1;have h2:=dG HC.o h1 (uV (rs:=g) h8);obtain⟨fn,g4,ev⟩:=B.back _ h2;refine⟨fn,g4,?_⟩;rw[e];show B8 (Gg y n (Bc f g).h) A=_;rw[Lq];show B8 f.h _=_;rw[HE.o];apply Ft;intro v C;rw[ev v ⟨f.h,by simp[atomsQ],by rw[HE.o];exact C⟩];rw[if_pos (ga v (du v C))]
  have cc:∀t,aF neg q t->∃n∈Mo (Bc f g) y,aF neg (Dl y n (Bc f g)) t:=λt ⟨A,a1,e⟩=>by
   have h2:=lD (rs:=g) (B.to A a1);obtain⟨e1,hp,br⟩:=ao.wf y (.inl (by show Bm f.h.ts y=true;rw[HE.o];exact dx));have a5:Pd A y (A y)=A:=by
    funext w;unfold Pd;split
    ·rename_i e;rw[e]
    rfl
   refine⟨A y,tN ao.w h2 ⟨e1,hp,br⟩,A,(U7 ao.w).2 (by rw[a5];exact h2),?_⟩;rw[e];show _=B8 (Gg y (A y) (Bc f g).h) A;rw[Lq,a5];show _=B8 f.h A;rw[HE.o]
  have dr:V _:=b1;have dt:V _:=cc;have dz:=λz=>L4 (Bc f g) _ y dq ao.ok ao.n z;have eg:=Vv ao.n y;have e0:=λn z=>Y0 (Bc f g) _ y n dq ao.ok z;generalize bv:Mo (Bc f g) y=F at dz eg;have fh:V _:=bv;have fm:=B9 F;have b2:∀{n:Int},∀a∈(Dl y n (Bc f g)).B,a.p≠(k:Int):=λ{n} a D=>by
   obtain⟨a0,h0,rfl⟩:=AN.1 D;exact e4 a0 (au a0 (BP.1 h0).1).1
  have e9:V (∀(n:Int) (u:oh) (I:MM) (R:Int),EQ (Dl y n (Bc f g)) u->DV k (aF neg q) M I d R->R<=1000000->∀z,BL z c i I R b->ni 139 [ptr c 0,ag u] z λdg E=>∃o s,BL E c i o s b/\KM c i I o z E/\DV k (aF neg (Dl y n (Bc f g))) I o R s/\s<=1000000/\(¬b<s->∀t,aF neg (Dl y n (Bc f g)) t->t∈Ba o k)):=λn u I R bo U ck z cr=>
   g9 (Dl y n (Bc f g)) u k I R bo (lQ ao) (((ax.near g).put y n).gro b2 U) b2 (λa D w hw=>by
    obtain⟨⟨b',eu,eq⟩,-⟩:=Vg (q:=Bc f g) (v:=y) (n:=n) (w:=w) ⟨a,D,AO.2 hw⟩;exact d0 b' eu w (AO.1 eq)) dy (by rw[U.len];exact da) (U.room a7) (by have:=U.le;omega) ck et er (λw hw=>by
    obtain⟨h1,h2⟩:=Vg hw
    exact (mem_erase_of_ne h2).2 (bz w h1)) z cr
  clear bv b1 cc g9 IH d1 bd bz cv cu dw dc ao d0 dq dy;have d5:W z ((((m.new [Y 0,H,H,H]).new [Y 0,H,H,H]).put m.B [Y (Bc f g).h.p,sl a2 (Z (Bc f g).h.ts) (Ad (Bc f g).h.ts),sl bk (Z (Bc f g).A) bl,sl bt (Z (Bc f g).B) bj]).put (m.B+1) [Y (Ip f g).h.p,sl gl (Z (Ip f g).h.ts) (Ad (Ip f g).h.ts),sl gv (Z (Ip f g).A) h5,sl go (Z (Ip f g).B) h4]):=(((e8.new _).new _).put L _).put L _;generalize c6:((((m.new [Y 0,H,H,H]).new [Y 0,H,H,H]).put m.B [Y (Bc f g).h.p,sl a2 (Z (Bc f g).h.ts) (Ad (Bc f g).h.ts),sl bk (Z (Bc f g).A) bl,sl bt (Z (Bc f g).B) bj]).put (m.B+1) [Y (Ip f g).h.p,sl gl (Z (Ip f g).h.ts) (Ad (Ip f g).h.ts),sl gv (Z (Ip f g).A) h5,sl go (Z (Ip f g).B) h4])=z9 at*
  have n9:z9.B=m.B+2:=by rw[<-c6];rfl
  have o9:z9.C m.B=[Y (Bc f g).h.p,sl a2 (Z (Bc f g).h.ts) (Ad (Bc f g).h.ts),sl bk (Z (Bc f g).A) bl,sl bt (Z (Bc f g).B) bj]:=by rw[<-c6,Aj L,Ak]
  clear c6;refine A2 (Q:=λe p es=>e= .normal/\p 0=ptr c 0/\p 5=sl g7 (Z G+1) (Y y::map Y G)/\p 6=ptr m.B 0/\(∃co,p 70=X2 co F)/\p 71=Y (Z F)/\p 72=Y 0/\W z9 es) ?_ ?_
  ·refine Ar Ag (λ_=>True) [] [0,1,2,3,6] 2 (nv 7 79) AH (λ_ _ _ h=>by cases h.1) ?_;intro yb ya;refine Z3 ?_;refine ya.o _ ?_;clear ya yb;refine Ai (i:=4) AH ?_;refine Am ?_;intro yb ya;refine Z3 ?_;refine AF.mono (dz _) ?_;rintro _ za ⟨⟨co,rfl⟩,a3⟩;refine Z3 ?_;refine ya.o _ _ ⟨Al a3,?_⟩;clear ya yb;refine Df [5] AH AH (λ_ _ _ h=>by cases h.1) a3.B (λdj ho _=>a3.ver dj ho) ?_;intro yb ya;refine Z3 ?_;refine ya.o _ _ ⟨rfl,?_⟩;refine⟨by simp[upd,AL],AG,AG,⟨co,AG⟩,AI,AG,a3⟩
  rintro e bx h6 ⟨rfl,g0,g5,g6,⟨co,fs⟩,g1,g3,a3⟩;have h9:=a3.B;have dl:=d5.trans a3;have oa:h6.C m.B=[Y (Bc f g).h.p,sl a2 (Z (Bc f g).h.ts) (Ad (Bc f g).h.ts),sl bk (Z (Bc f g).A) bl,sl bt (Z (Bc f g).B) bj]:=by rw[a3.C _ L,o9]
  have d4:BL h6 c i M d b:=P.keep dl;have ff:c≠m.B:=by have:=P.lo;omega
  have fe:i≠m.B:=by have:=P.lt;omega
  refine X ?_
  refine Ae (λh3 bx E=>∃(j:Nat) (I:MM) (R:Int),h3=Z F-j/\j<=Z F/\bx 0=ptr c 0/\bx 5=sl g7 (Z G+1) (Y y::map Y G)/\bx 6=ptr m.B 0/\bx 70=X2 co F/\bx 71=Y (Z F)/\bx 72=Y j/\BL E c i I R b/\KM c i M I z E/\m.B<E.B/\E.C m.B=[Y (Bc f g).h.p,sl a2 (Z (Bc f g).h.ts) (Ad (Bc f g).h.ts),sl bk (Z (Bc f g).A) bl,sl bt (Z (Bc f g).B) bj]/\R<=1000000/\V (DV k (aF neg q) M I d R/\(¬b<R->∀n∈F.take j,∀t,aF neg (Dl y n (Bc f g)) t->t∈Ba I k))) (Z F)
   ⟨0,M,d,L,L,g0,g5,g6,fs,g1,g3,d4,KM.ofKeep dl,L,oa,cm,DV.refl _ _ _ _,λ_ n hn=>by simp at hn⟩ ?_
  clear g0 g5 g6 fs g1 g3 d4 dl oa h9 a3 o9 d5;rintro h3 bx E ⟨j,I,R,rfl,hj,g0,g5,g6,fs,g1,g3,cr,b6,c8,ha,ck,U⟩;by_cases ei:j<Z F
  ·have av:=AK ei;obtain⟨dg,eo⟩:=D2 av;generalize F[j]=n at eo av;have fg:V (F.take (j+1)=F.take j++[n]):=by rw[V,AT,av,BN]
   clear av;have d3:=e0 n;have ea:V (∀u,EQ (Dl y n (Bc f g)) u->∀z,BL z c i I R b->ni 139 [ptr c 0,ag u] z λdg E=>∃o s,BL E c i o s b/\KM c i I o z E/\DV k (aF neg (Dl y n (Bc f g))) I o R s/\s<=1000000/\(¬b<s->∀t,aF neg (Dl y n (Bc f g)) t->t∈Ba o k)):=λu bo=>e9.o n u I R bo U.o.1 ck;refine X ?_;refine A2 (Q:=λe p es=>e= .normal/\p 0=ptr c 0/\p 5=sl g7 (Z G+1) (Y y::map Y G)/\p 6=ptr m.B 0/\p 70=X2 co F/\p 71=Y (Z F)/\p 72=Y j/\∃dj u,p 10=ptr dj 0/\dj<es.B/\es.C dj=u/\EQ (Dl y n (Bc f g)) u/\W E es) ?_ ?_
   ·refine Ar Ag (λ_=>True) [7] [0,1,2,3,4] 3 (nv 8 31) AH (λ_ _ _ h=>by cases h.1) ?_;intro yb ya;refine Z3 ?_;refine ya.o _ ?_;clear ya yb;refine D8 (rs:=[5,6]) AH nk ?_;intro cl hi;simp only[BD,EK,DZ]at hi;rcases hi with rfl|rfl
    ·refine Am ?_;intro yb ya;refine Z3 ?_;refine AF.mono (d3 _) ?_;rintro _ zb ⟨⟨_,rfl,f1,f3,f2,fd,f4,rfl,dd,dh⟩,az⟩;have g8:=az.B;refine Z3 ?_;refine ya.o _ _ ⟨Al az,?_⟩;clear ya yb;refine Ai (i:=6) AH ?_;refine Am ?_;intro yb ya;refine Z3 ?_;refine ya.o _ _ ⟨Al (az.new _),?_⟩;clear ya yb;refine Ai (i:=7) AH ?_;refine Am ?_;intro yb ya;refine Z3 ?_;refine ya.o _ _ ⟨A3 rfl,?_⟩;clear ya yb;refine Aw AH ⟨rfl,AI,AI,AI,AI,AI,AI,zb.B,_,AG,BJ,Ak,⟨f1,f3,f2,fd,f4,rfl,dd,dh⟩,(az.new _).put g8 _⟩
    refine Am ?_;intro yb ya;refine Z3 ?_;refine ya.o _ _ ⟨Al ((W.refl _).new _),?_⟩;clear ya yb;refine Ai (i:=5) AH ?_;refine Am ?_;intro yb ya;refine Z3 ?_;refine AF.mono (d3 _) ?_;rintro _ zb ⟨⟨_,rfl,f1,f3,f2,fd,f4,rfl,dd,dh⟩,az⟩;have g8:=az.B;simp only[Aa]at g8;have hb:=az.C E.B AM;rw[Ao]at hb;refine Z3 ?_;refine ya.o _ _ ⟨Al (((W.refl _).new _).trans az),?_⟩;clear ya yb;refine Ai (i:=7) AH ?_;refine Am ?_;intro yb ya;refine Z3 ?_;refine ya.o _ _ ⟨A3 rfl,?_⟩;clear ya yb;refine Aw AH ⟨rfl,AI,AI,AI,AI,AI,AI,E.B,_,AG,by simp only[Ac];omega,Ak,⟨f1,f3,f2,fd,f4,rfl,dd,dh⟩,(((W.refl _).new _).trans az).put (AU _) _⟩
   rintro e s2 zc ⟨rfl,f0,f5,f6,hh,hl,hq,oo,u,hg,fl,hy,bo,ct⟩;have hx:=ct.B;have fc:=λz=>ea.o u bo z;obtain⟨f1,f3,f2,fd,f4,rfl,-,-⟩:=bo;have eh:zc.C m.B=[Y (Bc f g).h.p,sl a2 (Z (Bc f g).h.ts) (Ad (Bc f g).h.ts),sl bk (Z (Bc f g).A) bl,sl bt (Z (Bc f g).B) bj]:=by rw[ct.C _ c8,ha]
   clear ea;refine m0 ?_;intro yb ya;refine Xi (fc _ (cr.keep ct)) ?_;rintro _ _ ⟨M2,d2,e6,bg,d9,ep,a6⟩;(have ds:V _:=d9;have fj:V _:=a6;clear d9 a6;have dn:=(b6.trans (KM.ofKeep ct)).trans bg;have ec:=bg.C m.B L ff.symm fe.symm;have hv:=bg.B);refine X ?_;have HN:V (DV k (aF neg q) M M2 d d2/\(¬b<d2->∀n∈F.take (j+1),∀t,aF neg (Dl y n (Bc f g)) t->t∈Ba M2 k)):=by
    refine⟨U.o.1.trans (ds.o.mono (dr.o n)),λc9 hd hu t ht=>?_⟩;rw[fg.o]at hu;rcases AW.1 hu with hu|hu
    ·have fo:=ds.o.le;exact ds.o.sub (U.o.2 L hd hu t ht)
    simp at hu;subst hu;exact fj.o c9 t ht
   refine⟨Z F-(j+1),L,j+1,M2,d2,?_⟩
   ((repeat' refine Zi ?_ ?_)<;>first|exact Xq|exact e6|exact dn|exact HN|exact (by rw[ec,eh])|exact Xs)
  have ek:j=Z F:=L;subst ek;refine X ?_;refine⟨_,rfl,I,R,cr,b6,U.o.1,ck,λc9 t ht=>?_⟩;obtain⟨n,hn,h1⟩:=dt.o t ht;rw[fh.o]at hn;exact U.o.2 c9 n (by rw[AS];exact hn) t h1
def gW (neg f g b):∀(n:Nat) (e:List Int),Z e<=n->PD neg f g b e:=by
 intro n;induction n with
 |zero=>exact λe c=>Sb neg f g b e (λa h=>L)
 |succ n d=>exact λe c=>Sb neg f g b e (λa h=>d a L)
def Sh (ar:Nat->Nat)(k:Nat)(t:Ck):Prop:=∃l:List Int,t=Ej l/\Z l=ar k/\∀x∈l,∃n:Nat,x=(n:Int)/\n<1026
structure RW (np:Nat)(ar:Nat->Nat)(rqx:E3):Prop where
 rok:TS np rqx
 nne:∀l∈rqx.A,l.neg->l.a.p≠rqx.h.p
 har:Z rqx.h.ts=ar rqx.h.p.toNat
 bar:∀l∈rqx.A,Z l.a.ts=ar l.a.p.toNat
 hc:∀t∈rqx.h.ts,t.1=false->∃n:Nat,t.2=(n:Int)/\n<1026
 hv:∀v,(true,v)∈rqx.h.ts->0<=v/\v<26
 bv:∀l∈rqx.A,∀v,(true,v)∈l.a.ts->0<=v/\v<26
 safe:∀v,(Bm rqx.h.ts v\/∃l∈rqx.A,l.neg/\Bm l.a.ts v)->∃l∈rqx.A,l.neg=false/\Bm l.a.ts v
def YK {a}(d:Z a.ts<=3)(ν):Mp a.ts (B8 a ν):=by
 rw[Mp];rw[CX];intro i c;have c:i<Z a.ts:=nn c;have e:(B8 a ν)[i]?=some (Ei ν a.ts[i]):=by grind[B8,Ku]
 rw[Ux];rw[AK c,e];cases g:a.ts[i]with
 |mk b n=>
  cases b
  ·simp[Ei]
  have f:(true,n)∈a.ts:=gp
  have:=J5 (ν:=ν) d (AO.2 f);unfold Iu at this;simp only;rw[this];simp[Ei]
def YE {a t l}(o:Z a.ts<=3)(d:t=Ej l)(g:Z l=Z a.ts)(c:Mp a.ts t):∃μ,t=B8 a μ:=by
 refine⟨λv=>Iu t (Jp a.ts v),?_⟩;have:a.ts.map (Ei λv=>Iu t (Jp a.ts v))=l:=by
  apply ext_getElem (ns g);intro i m k;have e:i<Z a.ts:=nn m;rw[Mp]at c;rw[CX]at c;have h:=c i (nn e);have f:t[i]?=some l[i]:=by grind[Ku]
  rw[Ux]at h;rw[AK e,f]at h;rw[getElem_map];cases j:a.ts[i]with
  |mk b n=>
   rw[j]at h;cases b
   ·simp only[DO]at h;simp[Ei,h]
   simp only[DO]at h;rw[h];simp[Ei,Iu]
 rw[B8];rw[this,d]
def oQ {M a b i l t}(h:t∈Zq M a b i l):t∈Ba M l.a.p:=by grind[Zq]
def Jw {M a c b p}(h:p∈Pf M a c b):∃(l:Lit) (i:Nat),b[i]?=some l/\l.neg=false/\p=oR M a c (l,i):=by grind[Pf]
def vZ {M a c b l i}(h:b[i]?=some l)(d:l.neg=false):oR M a c (l,i)∈Pf M a c b:=by grind[Pf]
def lu (ar:Nat->Nat)(M:MM):Prop:=∀(k:Nat) (t:Ck),t∈Ba M (k:Int)->Sh ar k t
def ZT {z a6 S M d b ar j}(U:BL z a6 S M d b)(K:lu ar M)(f:RW (Z M) ar j)(D A):Tz (Mc M D A j)/\QV (Mc M D A j)/\∀v,FA (Mc M D A j) v->v∈(range 26).map λn:Nat=>(n:Int):=by
 have B:=f.rok.bp;have C:∀a∈Tv j.A,∃l∈j.A,l.neg/\l.a=a:=λa q=>by
  obtain⟨l,o,rfl⟩:=AN.1 q;grind
 have a8:Z (Tv j.A)<=Z j.A:=by grind[Tv]
 have T:∀l∈j.A,T3 (Ba M l.a.p)/\Z (Ba M l.a.p)<=5000:=λl o=>by let⟨k,e,Q⟩:=B l o;have a4:=AK Q;rw[e,Cp a4];have G:=AR Q;exact⟨U.t3 _ G,U.ln _ G⟩
 have a1:Z (Pf M D A j.A)<=Z j.A:=by rw[Pf];rw[BV];refine BI (IS _ _) nk
 have E:∀(l:Lit) (i:Nat),∀t∈(oR M D A (l,i)).A,t∈Ba M l.a.p/\Mp l.a.ts t:=λl i t y=>by let⟨c,g⟩:=BP.1 y;exact⟨oQ c,g⟩
 have P:∀v,FA (Mc M D A j) v->0<=v/\v<26:=λv ⟨a,q,u⟩=>by rw[atomsQ,Mc]at q;simp only[BD,AW,AN]at q;obtain rfl|⟨p,s,rfl⟩|q:=q;exact f.hv v (AO.1 u);obtain⟨l,i,c,g,rfl⟩:=Jw s;exact f.bv l (AY c) v (AO.1 u);obtain⟨l,c,g,rfl⟩:=C a q;exact f.bv l c v (AO.1 u)
 refine⟨⟨⟨f.rok.hd,BI a1 f.rok.bl,BI a8 f.rok.bl,λp s=>?_,λp s=>?_,λp s=>?_,λa q=>?_⟩,λp s t y=>?_,λp s=>?_,λv u=>?_⟩,λa q v u=>(P v ⟨a,q,AO.2 u⟩).1,λv u=>?_⟩;obtain⟨l,i,c,g,rfl⟩:=Jw s;exact f.rok.ba l (AY c);obtain⟨l,i,c,g,rfl⟩:=Jw s;have x:=(T l (AY c)).2;apply BI (IS _ _);rw[Zq];split;simp;omega;exact x;obtain⟨l,i,c,g,rfl⟩:=Jw s;exact λt y=>(T l (AY c)).1 t (E l i t y).1;obtain⟨l,c,g,rfl⟩:=C a q;exact f.rok.ba l c;obtain⟨l,i,c,g,rfl⟩:=Jw s;have o:=AY c;obtain⟨k,e,-⟩:=B l o;have x:=(E l i t y).1;rw[e]at x;obtain⟨m,rfl,F,R⟩:=K k t x;intro aa a5;have I:Z m=Z l.a.ts:=by rw[F,f.bar l o,e];rfl
 have N:=I▸a5
 let⟨n,a3,a2⟩:=R m[aa] (AR N);exact⟨n,by rw[Ku N (I▸f.rok.ba l o),a3],a2⟩;obtain⟨l,i,c,g,rfl⟩:=Jw s;have o:=AY c;refine⟨f.rok.ba l o,λt y=>?_⟩;obtain⟨k,e,-⟩:=B l o;let⟨x,h4⟩:=E l i t y;rw[e]at x;let⟨m,a0,F,R⟩:=K k t x;exact YE (a:=l.a) (f.rok.ba l o) a0 (by rw[F,f.bar l o,e];rfl) h4
 let⟨l,o,ap,a9⟩:=f.safe v (by
  obtain h|⟨a,q,h⟩:=u;exact .inl h;obtain⟨l,c,g,rfl⟩:=C a q;grind)
 let⟨i,a7⟩:=CL o;exact⟨oR M D A (l,i),vZ a7 ap,a9⟩;let⟨c,g⟩:=P v u;rw[AN];exact⟨v.toNat,gp,L⟩
def vY {neg M g j ar s t}(k:RW (Z M) ar s):aF neg (Mc M g j s) t↔∃ν,(∀(l:Lit) (i:Nat),s.A[i]?=some l->l.neg=false->B8 l.a ν∈Zq M g j i l)/\(∀l∈s.A,l.neg->¬neg l.a.p (B8 l.a ν))/\t=B8 s.h ν:=by constructor;rintro⟨ν,b,rfl⟩;refine⟨ν,λl i n f=>?_,λl d f=>b.2 l.a (AN.2 ⟨l,BP.2 ⟨d,f⟩,rfl⟩),rfl⟩;have:=b.1 _ (vZ n f);exact (BP.1 this).1;rintro⟨ν,h,m,rfl⟩;refine⟨ν,⟨λp q=>?_,λa o=>?_⟩,rfl⟩;obtain⟨l,i,c,e,rfl⟩:=Jw q;exact BP.2 ⟨h l i c e,YK (k.rok.ba l (AY c)) ν⟩;obtain⟨l,d,rfl⟩:=AN.1 o;let⟨c,e⟩:=BP.1 d;exact m l c e
abbrev Gb:=Nat->Ck->Prop
def KG (R:List E3)(D:Gb):Prop:=∀b∈R,∀a,(∀l∈b.A,D l.a.p.toNat (B8 l.a a))->D b.h.p.toNat (B8 b.h a)
def Lk (N D:Gb)(ν:Nu)(l:Lit):Prop:=if l.neg=true then¬N l.a.p.toNat (B8 l.a ν)else D l.a.p.toNat (B8 l.a ν)
def NL (R:List E3)(N D:Gb):Prop:=∀b∈R,∀a,(∀l∈b.A,Lk N D a l)->D b.h.p.toNat (B8 b.h a)
def iE {R N D}(h:∀e∈R,∀l∈e.A,l.neg=false):NL R N D↔KG R D:=by
 have d:∀e∈R,∀a,(∀l∈e.A,Lk N D a l)↔∀l∈e.A,D l.a.p.toNat (B8 l.a a):=λe b a=>by grind[Lk]
 exact⟨λg e b a c=>g e b a ((d e b a).2 c),λg e b a c=>g e b a ((d e b a).1 c)⟩
def MD (M:MM):Gb:=λk t=>t∈Ba M (k:Int)
def tot (M:MM):Int:=(H1 M).sum
structure BG (D:Gb)(M M':MM)(d d':Int):Prop where
 len:Z M'=Z M
 ext:∀k:Nat,∃new:List Ck,Ba M' k=Ba M k++new/\new.Nodup/\∀t∈new,D k t/\t∉Ba M k
 cnt:d'-d=tot M'-tot M
def BG.refl (D M d):BG D M M d d:=⟨rfl,λk=>⟨[],nk,GN,nk⟩,L⟩
def BG.trans {D M j M2 d f i}(h:BG D M j d f)(g:BG D j M2 f i):BG D M M2 d i:=by refine⟨g.len.trans h.len,λk=>?_,by have:=h.cnt;have:=g.cnt;omega⟩;let⟨l,b,a,u⟩:=h.ext k;let⟨s,n,q,c⟩:=g.ext k;grind
def BG.sub {D M M' d b}(h:BG D M M' d b){k:Nat}{t}(a:t∈Ba M k):t∈Ba M' k:=by obtain⟨n,c,-,-⟩:=h.ext k;grind
def BG.inD {D M M' d c}(h:BG D M M' d c)(f:∀k t,MD M k t->D k t):∀k t,MD M' k t->D k t:=λk t a=>by obtain⟨n,e,-,b⟩:=h.ext k;rw[MD]at a;rw[e]at a;obtain a|a:=AW.1 a;exact f k t a;exact (b t a).1
theorem Ey (x M):tot (x::M)=(Z x.2:Int)+tot M:=by simp[tot,H1]
def Q6:∀(M M':MM) (k:Nat) (n:Nat),Z M'=Z M->(∀j,j≠k->(M'[j]?).map (·.2)=(M[j]?).map (·.2))->(k<Z M->(Z (Ba M' k):Int)=Z (Ba M k)+n)->(Z M<=k->n=0)->tot M'=tot M+n
 |[],M',k,n,a,b,c,d=>gp
 |x::M,[],k,n,a,b,c,d=>gp
 |x::M,y::M',0,n,a,b,c,d=>by have e:=c nk;simp[Ba]at e;have f:=Q6 M M' (Z M) 0 (nn a) (λj g=>by have:=b (j+1) L;grind) (λh=>L) (λ_=>rfl);rw[Ey,Ey,f];omega
 |x::M,y::M',k+1,n,a,b,c,d=>by
  have e:=b 0 L;simp at e
  have f:=Q6 M M' k n (nn a) (λj g=>by have:=b (j+1) L;grind) (λh=>by grind[Ba]) (λh=>d (gp))
  rw[Ey,Ey,f,e];omega
def DV.all {k S D M M' d b}(h:DV k S M M' d b)(m:k<Z M)(g:∀t,S t->D k t):BG D M M' d b:=by let⟨n,c,i,f,l⟩:=h.ext;refine⟨h.len,λj=>?_,?_⟩;by_cases e:j=k;subst e;exact⟨n,c,i,λt a=>⟨g t (f t a).1,(f t a).2⟩⟩;refine⟨[],?_,GN,nk⟩;have:=h.oth j e;unfold Ba;simp only[DK];rw[this];simp;have:=Q6 M M' k (Z n) h.len h.oth (λ_=>gp) (λo=>L);omega
def iP (a c)(h:pK a c):Z c=4:=by obtain⟨o,d,e,b,rfl,-⟩:=h;rfl
def wF {l cs i g}(h:r pK l cs)(f:l[i]?=some g):∃o ih ib a b,cs.drop (i*4)=my o::Y g.h.p::X1 ih g.h.ts::sl ib (Z g.A) a::b/\r Sq g.A a:=by obtain⟨c,b,⟨o,ih,ib,a,rfl,d⟩,e⟩:=r.get iP h f;grind
def IA (R:List E3)(D:Gb)(M:MM):Prop:=∀a∈R,∀l∈a.A,l.neg->∀t,D l.a.p.toNat t->MD M l.a.p.toNat t
def IA.gro {R D M M' d a}(h:IA R D M)(g:BG D M M' d a):IA R D M':=λi c l e f t b=>g.sub (h i c l e f t b)
def NW (D:Gb):Int->Ck->Prop:=λp t=>D p.toNat t
structure LN (np:Nat)(ar:Nat->Nat)(R:List E3)(D:Gb):Prop where
 rw:∀rqx∈R,RW np ar rqx
 cl:NL R D D
 sh:∀k t,D k t->Sh ar k t
def ZS {np ar R D M f q u}(c:LN np ar R D)(p:Z M=np)(a:u∈R)(n:∀k t,MD M k t->D k t){t}(j:aF (NW D) (Mc M f q u) t):D u.h.p.toNat t:=by
 obtain⟨g,s,o,rfl⟩:=(vY (ar:=ar) (p ▸ c.rw u a)).1 j;refine c.cl u a g (λl b=>?_);unfold Lk;cases e:l.neg
 ·obtain⟨i,m⟩:=CL b;obtain⟨k,d,-⟩:=(c.rw u a).rok.bp l b;have:=oQ (s l i m e);rw[d]at this;simp only[EI,if_false];rw[d];exact n k _ this
 simpa[NW]using o l b e
def Zp {np ar R D}(v:LN np ar R D)(E K b)(ak: -1000000<=b)(a7:b<=900000)(M d)(Lqx:Z M=np)(A:∀k t,MD M k t->D k t)(P:IA R D M)(F:Room M d b)(Q: -1000000<=d)(T:d<=1000000)(q)(u:q∈R)(C y c)(hc:EQ (Mc M C y q) c)(z)(G:BL z E K M d b):
  ni 139 [ptr E 0,ag c] z λx s=>∃M' g,BL s E K M' g b/\KM E K M M' z s/\BG D M M' d g/\Room M' g b/\g<=1000000/\d<=g/\(¬b<g->∀ν,(∀(l:Lit) (i:Nat),q.A[i]?=some l->l.neg=false->B8 l.a ν∈Zq M C y i l)->(∀l∈q.A,l.neg->¬D l.a.p.toNat (B8 l.a ν))->MD M' q.h.p.toNat (B8 q.h ν)):=by
 have p:=Lqx ▸ v.rw q u;let⟨a1,a9,aa⟩:=ZT G (λk t n=>v.sh k t (A k t n)) p C y;let⟨k,ac,N⟩:=p.rok.hp;have U:∀a∈(Mc M C y q).B,∃l∈q.A,l.neg/\l.a=a:=λa o=>by
  obtain⟨l,hl,rfl⟩:=AN.1 o;grind
 have b1:BO (NW D) M (Mc M C y q):=λa o=>by
  obtain⟨l,f,m,rfl⟩:=U a o;let⟨j,a3,a5⟩:=p.rok.bp l f;have I:=AK a5;refine⟨j,M[j],a3,I,λt=>?_⟩;have a2:=Cp I;have e:l.a.p.toNat=j:=gp
  rw[NW];rw[e];constructor;intro n;have:=P q u l f m t (e▸n);rw[e]at this;rw[MD]at this;rwa[a2]at this;intro n;exact A j t (by grind[MD])
 have a6:∀a∈(Mc M C y q).B,a.p≠(k:Int):=λa o e=>by obtain⟨l,f,m,rfl⟩:=U a o;exact p.nne l f m (gp)
 have:=gW (NW D) E K b _ _ (AU _) (Mc M C y q) c k M d hc a1 b1 a6 a9 ac N F Q T ak a7 aa z G;apply AF.mono this;rintro x s ⟨M',g,f,m,B,h4,a4⟩;have S:q.h.p.toNat=k:=gp
 refine⟨M',g,f,m,B.all N (λt n=>S▸ZS v Lqx u A n),B.room F,h4,B.le,λa8 ν a0 ab=>?_⟩;rw[MD];rw[S];exact a4 a8 _ ((vY p).2 ⟨ν,a0,ab,rfl⟩)
def DD (D:Gb)(c M':MM)(a:List Int)(e:E3)(j:Nat):Prop:=∀(i:Nat) (l:Lit),i<j->e.A[i]?=some l->l.neg=false->∀b,(∀d∈e.A,Lk D (MD c) b d)->B8 l.a b∈(Ba c l.a.p).drop ((a[l.a.p.toNat]?).getD 0).toNat->MD M' e.h.p.toNat (B8 e.h b)
def DD.mono {D c b M2 a q j f k}(h:DD D c b a q j)(g:BG D b M2 f k):DD D c M2 a q j:=λi l m e o d p n=>g.sub (h i l m e o d p n)
def Uz {np ar R D}(ad:LN np ar R D)(o P b)(cd: -1000000<=b)(cc:b<=900000)(M d)(hn:Z M=np)(hD:∀k t,MD M k t->D k t)(ci:IA R D M)(cf:Room M d b)(db: -1000000<=d)(ca:d<=1000000)(rc bj)(bd:r pK R rc)(dd:Z R<=1000)(m bk)(bz:Z m=np)(b1:∀n∈m,0<=n/\n<=5000)(z)(hM:BL z o P M d b):
  ni 141 [ptr o 0,sl bj (Z R) rc,X2 bk m] z λx q=>∃M' u,BL q o P M' u b/\KM o P M M' z q/\BG D M M' d u/\Room M' u b/\u<=1000000/\d<=u/\(¬b<u->∀f∈R,DD D M M' m f (Z f.A)):=by
 have cz:=r.length iP bd;have cx:=B9 m;have cl:=hM.pl;have cy:np<=Z m:=L;have c8:Z M<=np:=L;have c7:np<=Z M:=L;have bo:V (Z M=np):=hn;clear bz hn;refine wl func141 ?_;refine X ?_
 refine Ae (λb4 s q=>∃(k:Nat) (S:MM) (E:Int),b4=Z R-k/\k<=Z R/\s 0=ptr o 0/\s 2=X2 bk m/\s 12=sl bj (Z R) rc/\s 13=Y (Z R)/\s 14=Y k/\BL q o P S E b/\KM o P M S z q/\E<=1000000/\d<=E/\V (BG D M S d E/\Room S E b/\(¬b<E->∀f∈R.take k,DD D M S m f (Z f.A)))) (Z R)
  ⟨0,M,d,L,L,by simp[upd,AL],by simp[upd,AL],AG,AG,rfl,hM,KM.ofKeep (W.refl _),ca,L,BG.refl _ _ _,cf,λ_ f hr=>by simp at hr⟩ ?_
 rintro b4 s q ⟨k,S,E,rfl,hk,h0,h2,bn,bm,bi,aa,an,am,ak,g⟩;by_cases be:k<Z R
 ·obtain⟨f,I⟩:=gq be;obtain⟨b5,ih,ib,af,rr,hd,hB⟩:=wF bd I;have a2:=(AY I);have cv:V (R.take (k+1)=R.take k++[f]):=by rw[V,AT,I,BN]
  clear I;have dc:=r.length Hk hB;have cb:=(ad.rw f a2).rok.bl;have l1:=aa.lo;have l2:=aa.lt;refine X ?_
  refine Ae (λb4 s T=>∃(j:Nat) (a:MM) (c:Int),b4=Z f.A-j/\j<=Z f.A/\s 0=ptr o 0/\s 2=X2 bk m/\s 7=ptr q.B 0/\s 12=sl bj (Z R) rc/\s 13=Y (Z R)/\s 14=Y k/\s 19=sl ib (Z f.A) af/\s 20=Y (Z f.A)/\s 21=Y j/\BL T o P a c b/\KM o P M a z T/\q.B<T.B/\T.C q.B=[my b5,Y f.h.p,X1 ih f.h.ts,sl ib (Z f.A) af]/\c<=1000000/\d<=c/\V (BG D M a d c/\Room a c b/\(¬b<c->(∀f∈R.take k,DD D M a m f (Z f.A))/\DD D M a m f j))) (Z f.A)
   ⟨0,S,E,L,L,AI,AI,AG,AI,AI,AI,AG,AG,rfl,aa.keep (((W.refl _).new _).put (AU _) _),an.trans (KM.ofKeep (((W.refl _).new _).put (AU _) _)),BJ,Ak,am,ak,g.o.1,g.o.2.1,λh=>⟨g.o.2.2 h,λi l hi=>L⟩⟩ ?_
  have cu:o≠q.B:=L;have ct:P≠q.B:=L;clear h0 h2 bn bm bi aa an g am ak l1 l2;rintro b4 s T ⟨j,a,c,rfl,hj,h0,h2,h7,bn,bm,bi,dh,df,de,C,au,c6,br,a8,b9,g⟩;have l1:=C.lo;have l2:=C.lt;by_cases ay:j<Z f.A
  ·obtain⟨w,I⟩:=gq ay;obtain⟨id,r2,aj⟩:=H8 hB I;have bf:=(AY I);let⟨p,hp,c5⟩:=(ad.rw f a2).rok.bp w bf;have HW:V (f.A[j]?=some w):=I;clear I;rw[hp]at aj;have a3:m[p]?=some m[p]:=AK L;let⟨rs,b7⟩:=D2 a3;have b0:=b1 _ (AR (show p<Z m by omega));generalize m[p]=bl at a3 b7 b0;obtain⟨G,rfl⟩:∃G:Nat,bl=(G:Int):=⟨bl.toNat,L⟩;have cm:Z a<=Z M/\Z M<=Z a:=ny g.o.1.len
   have ai:a[p]?=some a[p]:=AK L;generalize a[p]=y at ai;have da:=Jj ai;have cw:=C.ln y (AY ai);have c9:=Ji a;have co:=C.ob;have d0:=C.oc;have b2:=C.pl;have ce:V (Ba a (p:Int)=y.2):=Cp ai
   --what this literal's turn must bring
   have ac:V (∀A B,BG D a A c B->(¬b<B->w.neg=false->∀v,(∀l'∈f.A,Lk D (MD M) v l')->B8 w.a v∈(Ba M w.a.p).drop G->MD A f.h.p.toNat (B8 f.h v))->c<=B->(¬b<B->(∀f∈R.take k,DD D M A m f (Z f.A))/\DD D M A m f (j+1))):=λA B bg ah b3 a5=>by
    let⟨N,ab⟩:=g.o.2.2 L;refine⟨λr' az=>(N r' az).mono bg,λi l hi Q U v av F=>?_⟩;by_cases e:i=j
    ·subst e;rw[HW.o]at Q;obtain rfl:=Gf Q;refine ah a5 U v av ?_;rw[hp]at F⊢;rw[DK,a3]at F;simpa using F
    exact bg.sub (ab i l L Q U v av F)
   cases ae:w.neg
   ·rw[ae]at aj;clear ae;refine X ?_;refine Ax Ag (λ_=>True) [] [0,1,2,3,4,5,6,7,8,9,10,11,12,13,14,15,16] [] AH (λ_ _ _ h=>h) ?_;intro yb ya;by_cases a6:G<Z y.2
    ·have b6:decide ((G:Int)<(Z y.2:Int))=true:=by simp;exact a6
     have cr:=λz (h:BL z o P a c b)=>eV o P a c b f [my b5,Y f.h.p,X1 ih f.h.ts,sl ib (Z f.A) af] (j:Int) G ⟨b5,ih,ib,af,rfl,hB⟩ (by have:=g.o.1.len;rw[this,bo.o];exact (ad.rw f a2).rok) L z h;have cp:V (∀c3,EQ (Mc a (j:Int) G f) c3->∀z,BL z o P a c b->ni 139 [ptr o 0,ag c3] z λx q=>∃M' u,BL q o P M' u b/\KM o P a M' z q/\BG D a M' c u/\Room M' u b/\u<=1000000/\c<=u/\(¬b<u->∀v,(∀(l:Lit) (i:Nat),f.A[i]?=some l->l.neg=false->B8 l.a v∈Zq a (j:Int) G i l)->(∀l∈f.A,l.neg=true->¬D l.a.p.toNat (B8 l.a v))->MD M' f.h.p.toNat (B8 f.h v))):=λc3 h3 z hh=>
      Zp ad o P b cd cc a c (by have:=g.o.1.len;rw[this];exact bo.o) (g.o.1.inD hD) (ci.gro g.o.1) g.o.2.1 L a8 f a2 (j:Int) G c3 h3 z hh
     clear a6
     (repeat (refine m0 ?_;intro yb ya;(first|(refine Xi (cr _ (C.keep (Xs))) ?_;rintro _ _ ⟨⟨_,rfl,bp,bx,bt,c4,c2,rfl,ch,cj⟩,ba⟩;(have a0:=ba.B;have ax:=ba.C;simp only[Ac,Aa]at a0 ax;have cn:=(((W.refl T).new _).put (AU _) _).trans ba;have cq:=cp.o _ ⟨bp,bx,bt,c4,c2,rfl,ch,cj⟩))|(refine Xi (cq _ (C.keep (Xs))) ?_;rintro _ _ ⟨A,B,ck,ap,bh,cg,b8,a7,ah⟩;(have bq:V _:=bh;have bb:V _:=ah;clear bh ah;have c1:=ap.B;simp only[Ac,Aa]at c1;have bw:=ap.C q.B (by simp only[Ac,Aa];omega) cu.symm ct.symm;have a9:=(au.trans (KM.ofKeep ((cn.new _).put L _))).trans ap)))));refine X ?_
     have K:V (BG D M A d B/\Room A B b/\(¬b<B->(∀f∈R.take k,DD D M A m f (Z f.A))/\DD D M A m f (j+1))):=by
      refine⟨g.o.1.trans bq.o,cg,ac.o A B bq.o (λa5 _ v av F=>bb.o a5 v (λl i Q U=>?_) (λl Q U=>by
       have:=av l Q;unfold Lk at this;rw[U]at this
       simpa using this)) a7⟩
      have ao:=AY Q;obtain⟨p',a4,-⟩:=(ad.rw f a2).rok.bp l ao;obtain⟨nw,aw,-,-⟩:=g.o.1.ext p';unfold Zq;by_cases e:(i:Int)=(j:Int)
      ·rw[if_pos e];have:i=j:=L;subst this;rw[HW.o]at Q;obtain rfl:=Gf Q;rw[a4]at F⊢;rw[aw,drop_append];exact AW.2 (.inl F)
      rw[if_neg e];have:=av l ao;unfold Lk MD at this;rw[U,a4]at this;simp only[EI,if_false,DK]at this;rw[a4,aw];exact AW.2 (.inl this)
     refine⟨Z f.A-(j+1),L,j+1,A,B,?_⟩;have bv:∀bc:St,bc.C q.B=T.C q.B->bc.C q.B=[my b5,Y f.h.p,X1 ih f.h.ts,sl ib (Z f.A) af]:=λbc e=>by rw[e,br]
     have bu:=bv _ (by rw[bw,Aj L,Ah L,ax _ L,Aj L,Ah L])
     ((repeat' refine Zi ?_ ?_)<;>first|exact Xq|exact K|exact ck|exact a9|exact bu|exact Xs)
    have b6:decide ((G:Int)<(Z y.2:Int))=false:=by simp;omega
    have K:V (BG D M a d c/\Room a c b/\(¬b<c->(∀f∈R.take k,DD D M a m f (Z f.A))/\DD D M a m f (j+1))):=by
     refine⟨g.o.1,g.o.2.1,ac.o a c (BG.refl _ _ _) (λ_ _ v _ F=>?_) L⟩;exfalso;obtain⟨nw,aw,-,-⟩:=g.o.1.ext p;rw[ce.o]at aw;have b3:Z (Ba M (p:Int))<=Z y.2:=by rw[aw];simp
     rw[hp,JU L]at F;cases F
    clear a6 ac;refine X ?_;refine⟨Z f.A-(j+1),L,j+1,a,c,?_⟩
    ((repeat' refine Zi ?_ ?_)<;>first|exact Xq|exact K|exact (C.keep (((W.refl _).new _).put (AU _) _))|exact (au.trans (KM.ofKeep (((W.refl _).new _).put (AU _) _)))|exact Xs)
   have K:V (BG D M a d c/\Room a c b/\(¬b<c->(∀f∈R.take k,DD D M a m f (Z f.A))/\DD D M a m f (j+1))):=
    ⟨g.o.1,g.o.2.1,ac.o a c (BG.refl _ _ _) (λ_ hh=>by rw[ae]at hh;cases hh) L⟩
   rw[ae]at aj;clear ac ae;refine X ?_;refine Ax Ag (λ_=>True) [] [0,1,2,3,4,5,6,7,8,9,10,11,12,13,14,15,16] [] AH (λ_ _ _ h=>h) ?_;intro yb ya;refine X ?_;refine⟨Z f.A-(j+1),L,j+1,a,c,?_⟩
   ((repeat' refine Zi ?_ ?_)<;>first|exact Xq|exact K|exact (C.keep (((W.refl _).new _).put (AU _) _))|exact (au.trans (KM.ofKeep (((W.refl _).new _).put (AU _) _)))|exact Xs)
  obtain rfl:j=Z f.A:=L;have K:V (BG D M a d c/\Room a c b/\(¬b<c->∀f∈R.take (k+1),DD D M a m f (Z f.A))):=by
   let⟨N,ab,a1⟩:=g.o;refine⟨N,ab,λh r' az=>?_⟩;rw[cv.o]at az;obtain h'|h':=AW.1 az
   ·exact (a1 h).1 r' h'
   simp at h';subst h';exact (a1 h).2
  refine X ?_;refine⟨Z R-(k+1),L,k+1,a,c,?_⟩;exact m9 K
 obtain rfl:k=Z R:=L;let⟨N,ab,a1⟩:=g.o;rw[AS]at a1;refine X ?_
 exact⟨_,rfl,S,E,aa,an,N,ab,am,ak,a1⟩
end Go.Proofs.YtmoeoppbmhfbpabGreatDoorJ
