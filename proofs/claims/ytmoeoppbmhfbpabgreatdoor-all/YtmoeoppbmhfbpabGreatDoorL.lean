import Derived.Test.YtmoeoppbmhfbpabGreatDoorK
set_option maxHeartbeats 64000000
set_option maxRecDepth 100000
set_option linter.all false
open List
open List renaming length->Z
namespace Go.Proofs.YtmoeoppbmhfbpabGreatDoorJ
open Go.Abs Tryz
structure DV (k:Nat)(S:Ck->Prop)(M M':MM)(d d':Int):Prop where
 len:Z M'=Z M
 oth:∀j,j≠k->(M'[j]?).map (·.2)=(M[j]?).map (·.2)
 ext:∃new:List Ck,Ba M' k=Ba M k++new/\new.Nodup/\(∀t∈new,S t/\t∉Ba M k)/\d'=d+Z new
def DV.refl (k S M d):DV k S M M d d:=⟨rfl,λ_ _=>rfl,[],nk,GN,nk,nk⟩
def DV.trans {k S M m M2 d f i}(h:DV k S M m d f)(g:DV k S m M2 f i):DV k S M M2 d i:=by let⟨n,b,z,B,v⟩:=h.ext;let⟨A,q,u,c,p⟩:=g.ext;refine⟨g.len.trans h.len,λj l=>(g.oth j l).trans (h.oth j l),n++A,gp,?_,?_,?_⟩<;>grind
def DV.mono {k S c M M' d b}(h:DV k S M M' d b)(j:∀t,S t->c t):DV k c M M' d b:=by let⟨n,g,i,e,f⟩:=h.ext;exact⟨h.len,h.oth,n,g,i,λt a=>⟨j t (e t a).1,(e t a).2⟩,f⟩
def DV.sub {k S M M' d b}(h:DV k S M M' d b){t}(a:t∈Ba M k):t∈Ba M' k:=by obtain⟨n,c,-,-,-⟩:=h.ext;grind
def DV.le {k S M M' d a}(h:DV k S M M' d a):d<=a:=by obtain⟨n,-,-,-,b⟩:=h.ext;omega
def Room (M:MM)(d b:Int):Prop:=∀x∈M,(Z x.2:Int)+(b-d)<=4000
def DV.room {k S M M' d g b}(h:DV k S M M' d g)(l:Room M d b):Room M' g b:=by
 intro x m;let⟨j,a⟩:=CL m;obtain⟨n,c,-,-,o⟩:=h.ext;have i:=h.len▸(BA.1 a).1
 have f:=AK i;have p:=l _ (AR i);by_cases e:j=k;subst e;unfold Ba at c;simp only[DK,a,f,GJ,MG]at c;rw[c];simp only[AX];omega;have:=h.oth j e;rw[a,f]at this;simp at this;rw[this];have:=h.le;omega
theorem Cp {M}{k:Nat}{x}(h:M[k]?=some x):Ba M (k:Int)=x.2:=by grind[Ba]
def YH {M k id x t S d}(a:M[k]?=some x)(f:t∉x.2)(g:S t):DV k S M (M.set k (id,x.2++[t])) d (d+1):=by have i:=(BA.1 a).1;refine⟨nk,λj c=>gp,[t],?_,nk,?_,nk⟩;rw[Cp a,Cp (x:=(id,x.2++[t])) (ns i)];intro u b;simp at b;subst b;rw[Cp a];exact⟨g,f⟩
def BL.setd {z c a M d f b}(h:BL z c a M d b):BL (z.put c [fx a 0 (Z M),Y f,Y b]) c a M f b where
 ob:=Ak
 oc:=by rw[show (z.put c [fx a 0 (Z M),Y f,Y b]).C a=z.C a from by simp[St.put];intro e;cases h.ne e.symm];exact h.oc
 lo:=h.lo
 lt:=h.lt
 ne:=h.ne
 live:=h.live
 inj:=h.inj
 t3:=h.t3
 ln:=h.ln
 pl:=h.pl
def KM.setd {b g M M' z a}(h:KM b g M M' z a)(c):KM b g M M' z (a.put b c):=
 ⟨h.B,λo e d f=>by rw[show (a.put b c).C o=a.C o from by grind[St.put]];exact h.C o e d f,λo e d f=>by rw[show (a.put b c).ver o=a.ver o from by grind[St.put]];exact h.ver o e d f,h.D,h.top,h.mid⟩
def aF (neg:Int->Ck->Prop)(q:AZ)(t:Ck):Prop:=∃a,Mq neg q a/\t=B8 q.h a
def PD (neg:Int->Ck->Prop)(f i:Nat)(b:Int)(l:List Int):Prop:=∀(q:AZ) (c:oh) (k:Nat) (M:MM) (d:Int),EQ q c->Tz q->BO neg M q->(∀a∈q.B,a.p≠(k:Int))->QV q->q.h.p=(k:Int)->k<Z M->Room M d b-> -1000000<=d->d<=1000000-> -1000000<=b->b<=900000->(∀v,FA q v->v∈l)->
 ∀z,BL z f i M d b->ni 139 [ptr f 0,ag c] z λm j=>∃e g,BL j f i e g b/\KM f i M e z j/\DV k (aF neg q) M e d g/\g<=1000000/\(¬b<g->∀t,aF neg q t->t∈Ba e k)
def BO.gro {neg M M' q}{k:Nat}{S d l}(h:BO neg M q)(o:∀a∈q.B,a.p≠(k:Int))(g:DV k S M M' d l):BO neg M' q:=λa c=>by
 let⟨j,x,f,m,n⟩:=h a c;have i:j≠k:=λe=>o a c (gp);have:=g.oth j i;grind
def Sb (neg c i b S)(IH:∀V':List Int,Z V'<Z S->PD neg c i b V'):PD neg c i b S:=by
 intro q h7 k M d hc hA de e4 hV N da a7 fp cm et er ci z P;have a8:=λz (h:BL z c i M d b)=>Qm c i M d b z h;have cj:=hA.ok.hd;have em:Z q.h.ts<=1000:=L;have be:=λ(id:Nat) z=>Pq q.h.p id q.h.ts em z;have bm:M[k]?=some M[k]:=AK da;generalize M[k]=x at bm;have ca:=λ(id:Nat) z (h:BL z c i M d b)=>Jq c i M d b q.h id k x cj N bm z h;have bf:=λz (h:BL z c i M d b)=>eR neg q h7 c i M d b hc hA de z h;have hT:Ba M (k:Int)=x.2:=Cp bm;obtain⟨ih,ip,hr,pc,nc,rfl,-,-⟩:=hc;have cq:∀cs,BL (z.new cs) c i M d b:=λcs=>P.keep ((W.refl z).new cs);by_cases ch:b<d
 ·rw[show decide (b<d)=true from by simpa using ch]at a8;rw[N];clear ca be bf;refine Z9 86 [] func139 ?_
  refine m0 ?_;intro yb ya;refine Xi (a8 _ (P.keep (Xs))) ?_;rintro _ _ ⟨rfl,rfl⟩;refine X ?_
  first|exact⟨_,rfl,M,d,cq _,KM.ofKeep ((W.refl z).new _),DV.refl _ _ _ _,cm,λh=>absurd ch h⟩|exact⟨M,d,cq _,KM.ofKeep ((W.refl z).new _),DV.refl _ _ _ _,cm,λh=>absurd ch h⟩
 have bu:decide (b<d)=false:=nn ch;rw[bu]at a8;have ac:=be ih;have ai:=ca ih;rw[N]at ac ai bf;rw[N];have bq:∀E,W z E->(∀t,aF neg q t->t∈x.2)->∃o s,BL E c i o s b/\KM c i M o z E/\DV k (aF neg q) M o d s/\s<=1000000/\(¬b<s->∀t,aF neg q t->t∈Ba o k):=λE d7 aw=>
  ⟨M,d,P.keep d7,KM.ofKeep d7,DV.refl _ _ _ _,cm,λ_ t ht=>by rw[hT];exact aw t ht⟩
 have ae:V _:=bq;clear bq bu;cases hs:Jz q.h.ts with
 |true=>
  rw[hs]at ac;have ap:=λA=>Rf hs A;by_cases hm:C4 q.h∈x.2
  ·rw[show decide (C4 q.h∈x.2)=true from by simpa using hm]at ai;have aw:∀t,aF neg q t->t∈x.2:=λt ⟨A,_,e⟩=>by rw[e,ap];exact hm
   have cf:V _:=aw;clear aw ap ca be bf;refine Z9 86 [] func139 ?_
   repeat' first|refine Z1 ?_|refine Z8 λyb ya=>?_|refine Z4 ?_;clear ya yb|refine Z2 ?_ ?_<;>intro h aa<;>try exact Xp|(refine Z5 ?_;first|(refine Xi (a8 _ (P.keep (Xs))) ?_;rintro _ _ ⟨rfl,rfl⟩)|(refine Xi (ac _) ?_;rintro _ _ ⟨rfl,T⟩;(have aj:=T.B;have ab:=T.C;have bn:=((W.refl z).new _).trans T;simp only[Aa]at aj ab))|(refine Xi (ai _ (P.keep (Xs))) ?_;rintro _ _ ⟨rfl,b8⟩;(have b4:=bn.trans b8)))|refine Z3 ?_|exact Zt|apply ya.o;clear ya yb
   first|exact⟨_,rfl,ae.o _ b4 cf.o⟩|exact ae.o _ b4 cf.o
  rw[show decide (C4 q.h∈x.2)=false from by simpa using hm]at ai;have fi:V (C4 q.h∉x.2):=hm;clear hm;have cu:∀(id:Nat) z,ni 131 [ag [Y (k:Int),X1 id q.h.ts]] z λdg E=>dg=my true/\W z E:=λid z=>by
   have:=be id z;rw[N,hs]at this;exact this
  have d6:=λ(id:Nat) z (h:BL z c i M d b)=>Y4 c i M d b q.h id k x cj N bm (by
   have:=a7 x (AY bm)
   omega) z h
  rw[N]at d6;have b9:=Ui neg c i M d b (Z S) S (AU _);clear be ca cq;refine Z9 86 [] func139 ?_
  repeat' first|refine Z1 ?_|refine Z8 λyb ya=>?_|refine Z4 ?_;clear ya yb|refine Z2 ?_ ?_<;>intro h aa<;>try exact Xp|(refine Z5 ?_;first|(refine Xi (a8 _ (P.keep (Xs))) ?_;rintro _ _ ⟨rfl,rfl⟩)|(refine Xi (ac _) ?_;rintro _ _ ⟨rfl,T⟩;(have aj:=T.B;have ab:=T.C;have bn:=((W.refl z).new _).trans T;simp only[Aa]at aj ab))|(refine Xi (ai _ (P.keep (Xs))) ?_;rintro _ _ ⟨rfl,b8⟩;(have ee:=b8.B;have bp:=b8.C;have b4:=bn.trans b8;clear ac))|(refine Xi (bf _ (P.keep (Xs))) ?_;rintro _ _ ⟨⟨c',(⟨rfl,ej,en,bw⟩|⟨f,rfl,⟨ex,c4,c2,c1,c3,rfl,cn,cp⟩,a4,df,B,au⟩)⟩,K⟩))|refine Z3 ?_|exact Zt|apply ya.o;clear ya yb
  ·have bc:=K.B;have o4:=K.C z.B L;rw[bp _ L,ab _ L,Ao]at o4;have ay:=b4.trans K;have cd:V (∀A,¬Mq neg q A):=bw;clear bw
   refine X ?_
   first|exact⟨_,rfl,ae.o _ (ay.put L _) (λt ⟨A,h,_⟩=>absurd h (cd.o A))⟩|exact ae.o _ (ay.put L _) (λt ⟨A,h,_⟩=>absurd h (cd.o A))
  have bc:=K.B;have o4:=K.C z.B L;rw[bp _ L,ab _ L,Ao]at o4;have ay:=b4.trans K;have he:f.h=q.h:=B.hd;have ax:BO neg M f:=de.sub λa D=>⟨a,(au a D).1,rfl⟩;have ak:pA ⟨⟨0,[]⟩,f.A,f.B⟩:=λv C=>a4.wf v (.inr (C.resolve_left (by simp[Bm])))
  have cv:=λz (h:BL z c i M d b)=>b9 ⟨⟨0,[]⟩,f.A,f.B⟩ [Y 0,H,sl c4 (Z f.A) c1,sl c2 (Z f.B) c3] ⟨1,c4,c2,c1,c3,rfl,cn,cp⟩ (Na a4 nk (MF _) (MF _) ak) (ax.sub λa D=>⟨a,D,rfl⟩)
   (λa D v C=>by
    have:a∈atomsQ f\/a=⟨0,[]⟩:=by
     unfold atomsQ at D⊢;simp only[BD,AW,AN]at D⊢;rcases D with h|h|h
     ·exact .inr h
     ·exact .inl (.inr (.inl h))
     exact .inl (.inr (.inr h))
    rcases this with h|rfl
    ·exact hV a (B.at_ a h) v C
    ·cases C) rfl (λv C=>by
    obtain⟨e1,hp,br⟩:=Yt (q:=⟨⟨0,[]⟩,f.A,f.B⟩) ak C
    exact ci v (FA.sub B.at_ ⟨e1.a,Lv hp,br⟩)) z h
  have ez:∀A,Mq neg (⟨⟨0,[]⟩,f.A,f.B⟩:AZ) A↔Mq neg f A:=λA=>Iff.rfl;have HE:V (f.h=q.h):=he;simp only[he,N];clear he b9 bf ai a8
  repeat' first|refine Z1 ?_|refine Z8 λyb ya=>?_|refine Z4 ?_;clear ya yb|refine Z2 ?_ ?_<;>intro h aa<;>try exact Xp|(refine Z5 ?_;first|(refine Xi (cv _ (P.keep (Xs))) ?_;rintro _ _ ⟨⟨bb,rfl,b0⟩,bi⟩;(have ce:V _:=b0;clear b0;have ba:=bi.B;have a9:=bi.C;simp only[Ac]at ba a9;have b5:=(ay.put L _).trans bi))|(refine Xi (cu _ _) ?_;rintro _ _ ⟨rfl,bh⟩;(have cz:=bh.B;have cx:=bh.C;have dk:=b5.trans bh))|(refine Xi (d6 _ _ (P.keep (Xs))) ?_;rintro _ _ ⟨gc,di,b7⟩;(generalize b3:M.set k (gc,x.2++[C4 q.h])=M7 at di b7;have eb:V _:=b3;clear b3;have fk:=di.ob;have dm:=KM.trans (KM.ofKeep dk) b7)))|refine Z3 ?_|exact Zt|apply ya.o;clear ya yb
  ·exact⟨_,rfl,ae.o _ b5 (λt ⟨A,a1,_⟩=>absurd (ce.o.2 ⟨A,B.to A a1⟩) (by rw[h];simp))⟩
  have db:bb=true:=nu;obtain⟨A,a1⟩:=ce.o.1 db;obtain⟨fn,g4,-⟩:=B.back A a1;have fa:aF neg q (C4 q.h):=⟨fn,g4,(ap fn).symm⟩;have fb:DV k (aF neg q) M M7 d (d+1):=by rw[<-eb.o];exact YH bm fi.o fa
  have ey:C4 q.h∈Ba M7 k:=by
   rw[<-eb.o,Cp (x:=(gc,x.2++[C4 q.h])) (by simp[da])];simp
  exact⟨_,rfl,M7,d+1,di.setd,dm.setd _,fb,L,λ_ t ⟨hf,_,e⟩=>by rw[e,ap];exact ey⟩
 |false=>
  rw[hs]at ac;have cu:∀(id:Nat) z,ni 131 [ag [Y (k:Int),X1 id q.h.ts]] z λdg E=>dg=my false/\W z E:=λid z=>by
   have:=be id z;rw[N,hs]at this;exact this
  have b9:=Ui neg c i M d b (Z S) S (AU _);obtain⟨y,G,cg⟩:∃y G,Cs [q.h]=y::G:=by
   cases C:Cs [q.h]with
   |nil=>
    exfalso;have:Jz q.h.ts=true:=by
     unfold Jz;rw[CX];rintro⟨t1,t2⟩ ht;cases t1 with
     |false=>rfl
     |true=>
      have:t2∈Cs [q.h]:=(Dn _ _).2 ⟨q.h,nk,ht⟩;rw[C]at this;cases this
    rw[this]at hs;cases hs
   |cons y G=>exact⟨y,G,rfl⟩
  have af:=λ(gi cl:Nat) (z:St)=>Hy [q.h] [Y q.h.p,X1 gi q.h.ts] cl (r.single ⟨gi,rfl⟩) (by simp;exact cj) nk z;have dv:=Fs (l:=[q.h]) (by simp;exact cj);have du:∀v,Bm q.h.ts v=true->v∈y::G:=λv C=>by rw[<-cg];exact (Dn _ _).2 ⟨q.h,nk,AO.1 C⟩
  have dx:Bm q.h.ts y=true:=by
   have:y∈Cs [q.h]:=by rw[cg];simp
   obtain⟨a,D,h⟩:=(Dn _ _).1 this;simp at D;subst D;exact AO.2 h
  rw[cg]at af dv;simp only[X2,BQ,CQ,As,CC,DY,N]at af;simp only[BQ,CQ,DY]at dv;have c7:Z (y::G)<=200:=by simp;omega
  clear be ca cq cg;refine Z9 86 [] func139 ?_
  repeat' first|refine Z1 ?_|refine Z8 λyb ya=>?_|refine Z4 ?_;clear ya yb|refine Z2 ?_ ?_<;>intro h aa<;>try exact Xp|(refine Z5 ?_;first|(refine Xi (a8 _ (P.keep (Xs))) ?_;rintro _ _ ⟨rfl,rfl⟩)|(refine Xi (ac _) ?_;rintro _ _ ⟨rfl,T⟩;(have aj:=T.B;have ab:=T.C;have bn:=((W.refl z).new _).trans T;simp only[Aa]at aj ab;clear ac))|(refine Xi (bf _ (P.keep (Xs))) ?_;rintro _ _ ⟨⟨c',(⟨rfl,ej,en,bw⟩|⟨f,rfl,⟨ex,c4,c2,c1,c3,rfl,cn,cp⟩,a4,df,B,au⟩)⟩,K⟩))|refine Z3 ?_|exact Zt|apply ya.o;clear ya yb
  ·have bc:=K.B;have o4:=K.C z.B L;rw[ab _ L,Ao]at o4;have ay:=bn.trans K;have cd:V (∀A,¬Mq neg q A):=bw;clear bw
   refine X ?_
   first|exact⟨_,rfl,ae.o _ (ay.put L _) (λt ⟨A,h,_⟩=>absurd h (cd.o A))⟩|exact ae.o _ (ay.put L _) (λt ⟨A,h,_⟩=>absurd h (cd.o A))
  have bc:=K.B;have o4:=K.C z.B L;rw[ab _ L,Ao]at o4;have ay:=bn.trans K;have he:f.h=q.h:=B.hd;have ax:BO neg M f:=de.sub λa D=>⟨a,(au a D).1,rfl⟩;have ak:pA ⟨⟨0,[]⟩,f.A,f.B⟩:=λv C=>a4.wf v (.inr (C.resolve_left (by simp[Bm])))
  have cv:=λz (h:BL z c i M d b)=>b9 ⟨⟨0,[]⟩,f.A,f.B⟩ [Y 0,H,sl c4 (Z f.A) c1,sl c2 (Z f.B) c3] ⟨1,c4,c2,c1,c3,rfl,cn,cp⟩ (Na a4 nk (MF _) (MF _) ak) (ax.sub λa D=>⟨a,D,rfl⟩)
   (λa D v C=>by
    have:a∈atomsQ f\/a=⟨0,[]⟩:=by
     unfold atomsQ at D⊢;simp only[BD,AW,AN]at D⊢;rcases D with h|h|h
     ·exact .inr h
     ·exact .inl (.inr (.inl h))
     exact .inl (.inr (.inr h))
    rcases this with h|rfl
    ·exact hV a (B.at_ a h) v C
    ·cases C) rfl (λv C=>by
    obtain⟨e1,hp,br⟩:=Yt (q:=⟨⟨0,[]⟩,f.A,f.B⟩) ak C
    exact ci v (FA.sub B.at_ ⟨e1.a,Lv hp,br⟩)) z h
  have cb:EQ f [Y (k:Int),X1 ex q.h.ts,sl c4 (Z f.A) c1,sl c2 (Z f.B) c3]:=⟨ex,c4,c2,c1,c3,by rw[he,N],cn,cp⟩;have dc:=λ(id:Nat) z=>Uf f _ (y::G) id cb a4.ok c7 z;simp only[X2,BQ,As,CC]at dc;have HE:V (f.h=q.h):=he;simp only[he,N];clear he b9 bf a8 cb;have dw:=af ex;clear af
  repeat' first|refine Z1 ?_|refine Z8 λyb ya=>?_|refine Z4 ?_;clear ya yb|refine Z2 ?_ ?_<;>intro h aa<;>try exact Xp|(refine Z5 ?_;first|(refine Xi (cv _ (P.keep (Xs))) ?_;rintro _ _ ⟨⟨bb,rfl,b0⟩,bi⟩;(have ce:V _:=b0;clear b0;have ba:=bi.B;have a9:=bi.C;simp only[Ac]at ba a9;have b5:=(ay.put L _).trans bi))|(refine Xi (cu _ _) ?_;rintro _ _ ⟨rfl,bh⟩;(have cz:=bh.B;have cx:=bh.C;have dk:=b5.trans bh))|(refine Xi (dw _ _) ?_;rintro _ _ ⟨⟨g7,rfl⟩,dp⟩;(have cy:=dp.B;have cw:=dp.C;simp only[Az,H6]at cy cw;have e7:=(dk.lay 1).trans dp))|(refine Xi (dc _ _) ?_;rintro _ _ ⟨⟨_,_,g,rfl,⟨a2,bk,bt,bl,bj,rfl,e3,e5⟩,⟨gl,gv,go,h5,h4,rfl,fq,fr⟩,hG,hC⟩,d8⟩;(have ed:=d8.B;have HC:V _:=hC;have HG:V _:=hG;clear hC hG;have e8:=e7.trans d8)))|refine Z3 ?_|exact Zt|apply ya.o;clear ya yb
  ·exact⟨_,rfl,ae.o _ b5 (λt ⟨A,a1,_⟩=>absurd (ce.o.2 ⟨A,B.to A a1⟩) (by rw[h];simp))⟩
  rename_i m;have db:bb=true:=nu;have dq:EQ (Bc f g) [Y (Bc f g).h.p,sl a2 (Z (Bc f g).h.ts) (Ad (Bc f g).h.ts),sl bk (Z (Bc f g).A) bl,sl bt (Z (Bc f g).B) bj]:=⟨a2,bk,bt,bl,bj,rfl,e3,e5⟩;have ga:∀v∈y::G,v∈g:=λv C=>by
   obtain⟨ad,e,-,-⟩:=HG.o;rw[e];exact AW.2 (.inl C)
  have ao:Tz (Bc f g):=Na a4 a4.ok.hd LD LD (iX a4.wf HC.o (λv C=>ga v (du v (by rw[<-HE.o];exact C))));have d0:QV (Bc f g):=λa D w hw=>by
   obtain⟨a',ew,ef⟩:=Rx (rs:=g) ⟨a,D,AO.2 hw⟩;exact hV a' (B.at_ a' ew) w (AO.1 ef)
  have dy:(Bc f g).h.p=(k:Int):=by show f.h.p=_;rw[HE.o,N]
  have bz:∀w,FA (Bc f g) w->w∈S:=λw hw=>ci w (FA.sub B.at_ (Rx hw));have bd:y∈S:=ci y ⟨q.h,by simp[atomsQ],dx⟩;have d1:Z (S.erase y)<Z S:=by
   rw[length_erase_of_mem bd];have:=length_pos_of_mem bd;omega
  have g9:=IH (S.erase y) d1;obtain⟨hf,h8⟩:=ce.o.1 db
  --what the near part brings,the query brings
  have b1:∀n t,aF neg (Dl y n (Bc f g)) t->aF neg q t:=λn t ⟨A,a1,e⟩=>by
   have h1:=(U7 ao.w).1 a1;have h2:=dG HC.o h1 (uV (rs:=g) h8);obtain⟨fn,g4,ev⟩:=B.back _ h2;refine⟨fn,g4,?_⟩;rw[e];show B8 (Gg y n (Bc f g).h) A=_;rw[Lq];show B8 f.h _=_;rw[HE.o];apply Ft;intro v C;rw[ev v ⟨f.h,by simp[atomsQ],by rw[HE.o];exact C⟩];rw[if_pos (ga v (du v C))]
  have cc:∀t,aF neg q t->∃n∈Mo (Bc f g) y,aF neg (Dl y n (Bc f g)) t:=λt ⟨A,a1,e⟩=>by
   have h2:=lD (rs:=g) (B.to A a1);obtain⟨e1,hp,br⟩:=ao.wf y (.inl (by show Bm f.h.ts y=true;rw[HE.o];exact dx));have a5:Pd A y (A y)=A:=by
    funext w;unfold Pd;split
    ·rename_i e;rw[e]
    rfl
   refine⟨A y,tN ao.w h2 ⟨e1,hp,br⟩,A,(U7 ao.w).2 (by rw[a5];exact h2),?_⟩;rw[e];show _=B8 (Gg y (A y) (Bc f g).h) A;rw[Lq,a5];show _=B8 f.h A;rw[HE.o]
  have dr:V _:=b1;have dt:V _:=cc;have dz:=λz=>L4 (Bc f g) _ y dq ao.ok ao.n z;have eg:=Vv ao.n y;have e0:=λn z=>Y0 (Bc f g) _ y n dq ao.ok z;generalize bv:Mo (Bc f g) y=F at dz eg;have fh:V _:=bv;have fm:=B9 F;have b2:∀{n:Int},∀a∈(Dl y n (Bc f g)).B,a.p≠(k:Int):=λ{n} a D=>by
   obtain⟨a0,h0,rfl⟩:=AN.1 D;exact e4 a0 (au a0 (BP.1 h0).1).1
  have e9:V (∀(n:Int) (u:oh) (I:MM) (R:Int),EQ (Dl y n (Bc f g)) u->DV k (aF neg q) M I d R->R<=1000000->∀z,BL z c i I R b->ni 139 [ptr c 0,ag u] z λdg E=>∃o s,BL E c i o s b/\KM c i I o z E/\DV k (aF neg (Dl y n (Bc f g))) I o R s/\s<=1000000/\(¬b<s->∀t,aF neg (Dl y n (Bc f g)) t->t∈Ba o k)):=λn u I R bo U ck z cr=>
   g9 (Dl y n (Bc f g)) u k I R bo (lQ ao) (((ax.near g).put y n).gro b2 U) b2 (λa D w hw=>by
    obtain⟨⟨b',eu,eq⟩,-⟩:=Vg (q:=Bc f g) (v:=y) (n:=n) (w:=w) ⟨a,D,AO.2 hw⟩;exact d0 b' eu w (AO.1 eq)) dy (by rw[U.len];exact da) (U.room a7) (by have:=U.le;omega) ck et er (λw hw=>by
    obtain⟨h1,h2⟩:=Vg hw
    exact (mem_erase_of_ne h2).2 (bz w h1)) z cr
  clear bv b1 cc g9 IH d1 bd bz cv cu dw dc ao d0 dq dy;have d5:W z ((((m.new [Y 0,H,H,H]).new [Y 0,H,H,H]).put m.B [Y (Bc f g).h.p,sl a2 (Z (Bc f g).h.ts) (Ad (Bc f g).h.ts),sl bk (Z (Bc f g).A) bl,sl bt (Z (Bc f g).B) bj]).put (m.B+1) [Y (Ip f g).h.p,sl gl (Z (Ip f g).h.ts) (Ad (Ip f g).h.ts),sl gv (Z (Ip f g).A) h5,sl go (Z (Ip f g).B) h4]):=(((e8.new _).new _).put L _).put L _;generalize c6:((((m.new [Y 0,H,H,H]).new [Y 0,H,H,H]).put m.B [Y (Bc f g).h.p,sl a2 (Z (Bc f g).h.ts) (Ad (Bc f g).h.ts),sl bk (Z (Bc f g).A) bl,sl bt (Z (Bc f g).B) bj]).put (m.B+1) [Y (Ip f g).h.p,sl gl (Z (Ip f g).h.ts) (Ad (Ip f g).h.ts),sl gv (Z (Ip f g).A) h5,sl go (Z (Ip f g).B) h4])=z9 at*
  have n9:z9.B=m.B+2:=by rw[<-c6];rfl
  have o9:z9.C m.B=[Y (Bc f g).h.p,sl a2 (Z (Bc f g).h.ts) (Ad (Bc f g).h.ts),sl bk (Z (Bc f g).A) bl,sl bt (Z (Bc f g).B) bj]:=by rw[<-c6,Aj L,Ak]
  clear c6;refine A2 (Q:=λe p es=>e= .normal/\p 0=ptr c 0/\p 5=sl g7 (Z G+1) (Y y::map Y G)/\p 6=ptr m.B 0/\(∃co,p 70=X2 co F)/\p 71=Y (Z F)/\p 72=Y 0/\W z9 es) ?_ ?_
  ·refine Ar Ag (λ_=>True) [] [0,1,2,3,6] 2 (nv 7 79) AH (λ_ _ _ h=>by cases h.1) ?_;intro yb ya;refine Z3 ?_;refine ya.o _ ?_;clear ya yb;refine Ai (i:=4) AH ?_;refine Am ?_;intro yb ya;refine Z3 ?_;refine AF.mono (dz _) ?_;rintro _ za ⟨⟨co,rfl⟩,a3⟩;refine Z3 ?_;refine ya.o _ _ ⟨Al a3,?_⟩;clear ya yb;refine Df [5] AH AH (λ_ _ _ h=>by cases h.1) a3.B (λdj ho _=>a3.ver dj ho) ?_;intro yb ya;refine Z3 ?_;refine ya.o _ _ ⟨rfl,?_⟩;refine⟨by simp[upd,AL],AG,AG,⟨co,AG⟩,AI,AG,a3⟩
  rintro e bx h6 ⟨rfl,g0,g5,g6,⟨co,fs⟩,g1,g3,a3⟩;have h9:=a3.B;have dl:=d5.trans a3;have oa:h6.C m.B=[Y (Bc f g).h.p,sl a2 (Z (Bc f g).h.ts) (Ad (Bc f g).h.ts),sl bk (Z (Bc f g).A) bl,sl bt (Z (Bc f g).B) bj]:=by rw[a3.C _ L,o9]
  have d4:BL h6 c i M d b:=P.keep dl;have ff:c≠m.B:=by have:=P.lo;omega
  have fe:i≠m.B:=by have:=P.lt;omega
  refine X ?_
  refine Ae (λh3 bx E=>∃(j:Nat) (I:MM) (R:Int),h3=Z F-j/\j<=Z F/\bx 0=ptr c 0/\bx 5=sl g7 (Z G+1) (Y y::map Y G)/\bx 6=ptr m.B 0/\bx 70=X2 co F/\bx 71=Y (Z F)/\bx 72=Y j/\BL E c i I R b/\KM c i M I z E/\m.B<E.B/\E.C m.B=[Y (Bc f g).h.p,sl a2 (Z (Bc f g).h.ts) (Ad (Bc f g).h.ts),sl bk (Z (Bc f g).A) bl,sl bt (Z (Bc f g).B) bj]/\R<=1000000/\V (DV k (aF neg q) M I d R/\(¬b<R->∀n∈F.take j,∀t,aF neg (Dl y n (Bc f g)) t->t∈Ba I k))) (Z F)
   ⟨0,M,d,L,L,g0,g5,g6,fs,g1,g3,d4,KM.ofKeep dl,L,oa,cm,DV.refl _ _ _ _,λ_ n hn=>by simp at hn⟩ ?_
  clear g0 g5 g6 fs g1 g3 d4 dl oa h9 a3 o9 d5;rintro h3 bx E ⟨j,I,R,rfl,hj,g0,g5,g6,fs,g1,g3,cr,b6,c8,ha,ck,U⟩;by_cases ei:j<Z F
  ·have av:=AK ei;obtain⟨dg,eo⟩:=D2 av;generalize F[j]=n at eo av;have fg:V (F.take (j+1)=F.take j++[n]):=by rw[V,AT,av,BN]
   clear av;have d3:=e0 n;have ea:V (∀u,EQ (Dl y n (Bc f g)) u->∀z,BL z c i I R b->ni 139 [ptr c 0,ag u] z λdg E=>∃o s,BL E c i o s b/\KM c i I o z E/\DV k (aF neg (Dl y n (Bc f g))) I o R s/\s<=1000000/\(¬b<s->∀t,aF neg (Dl y n (Bc f g)) t->t∈Ba o k)):=λu bo=>e9.o n u I R bo U.o.1 ck;refine X ?_;refine A2 (Q:=λe p es=>e= .normal/\p 0=ptr c 0/\p 5=sl g7 (Z G+1) (Y y::map Y G)/\p 6=ptr m.B 0/\p 70=X2 co F/\p 71=Y (Z F)/\p 72=Y j/\∃dj u,p 10=ptr dj 0/\dj<es.B/\es.C dj=u/\EQ (Dl y n (Bc f g)) u/\W E es) ?_ ?_
   ·refine Ar Ag (λ_=>True) [7] [0,1,2,3,4] 3 (nv 8 31) AH (λ_ _ _ h=>by cases h.1) ?_;intro yb ya;refine Z3 ?_;refine ya.o _ ?_;clear ya yb;refine D8 (rs:=[5,6]) AH nk ?_;intro cl hi;simp only[BD,EK,DZ]at hi;rcases hi with rfl|rfl
    ·refine Am ?_;intro yb ya;refine Z3 ?_;refine AF.mono (d3 _) ?_;rintro _ zb ⟨⟨_,rfl,f1,f3,f2,fd,f4,rfl,dd,dh⟩,az⟩;have g8:=az.B;refine Z3 ?_;refine ya.o _ _ ⟨Al az,?_⟩;clear ya yb;refine Ai (i:=6) AH ?_;refine Am ?_;intro yb ya;refine Z3 ?_;refine ya.o _ _ ⟨Al (az.new _),?_⟩;clear ya yb;refine Ai (i:=7) AH ?_;refine Am ?_;intro yb ya;refine Z3 ?_;refine ya.o _ _ ⟨A3 rfl,?_⟩;clear ya yb;refine Aw AH ⟨rfl,AI,AI,AI,AI,AI,AI,zb.B,_,AG,BJ,Ak,⟨f1,f3,f2,fd,f4,rfl,dd,dh⟩,(az.new _).put g8 _⟩
    refine Am ?_;intro yb ya;refine Z3 ?_;refine ya.o _ _ ⟨Al ((W.refl _).new _),?_⟩;clear ya yb;refine Ai (i:=5) AH ?_;refine Am ?_;intro yb ya;refine Z3 ?_;refine AF.mono (d3 _) ?_;rintro _ zb ⟨⟨_,rfl,f1,f3,f2,fd,f4,rfl,dd,dh⟩,az⟩;have g8:=az.B;simp only[Aa]at g8;have hb:=az.C E.B AM;rw[Ao]at hb;refine Z3 ?_;refine ya.o _ _ ⟨Al (((W.refl _).new _).trans az),?_⟩;clear ya yb;refine Ai (i:=7) AH ?_;refine Am ?_;intro yb ya;refine Z3 ?_;refine ya.o _ _ ⟨A3 rfl,?_⟩;clear ya yb;refine Aw AH ⟨rfl,AI,AI,AI,AI,AI,AI,E.B,_,AG,by simp only[Ac];omega,Ak,⟨f1,f3,f2,fd,f4,rfl,dd,dh⟩,(((W.refl _).new _).trans az).put (AU _) _⟩
   rintro e s2 zc ⟨rfl,f0,f5,f6,hh,hl,hq,oo,u,hg,fl,hy,bo,ct⟩;have hx:=ct.B;have fc:=λz=>ea.o u bo z;obtain⟨f1,f3,f2,fd,f4,rfl,-,-⟩:=bo;have eh:zc.C m.B=[Y (Bc f g).h.p,sl a2 (Z (Bc f g).h.ts) (Ad (Bc f g).h.ts),sl bk (Z (Bc f g).A) bl,sl bt (Z (Bc f g).B) bj]:=by rw[ct.C _ c8,ha]
   clear ea;refine m0 ?_;intro yb ya;refine Xi (fc _ (cr.keep ct)) ?_;rintro _ _ ⟨M2,d2,e6,bg,d9,ep,a6⟩;(have ds:V _:=d9;have fj:V _:=a6;clear d9 a6;have dn:=(b6.trans (KM.ofKeep ct)).trans bg;have ec:=bg.C m.B L ff.symm fe.symm;have hv:=bg.B);refine X ?_;have HN:V (DV k (aF neg q) M M2 d d2/\(¬b<d2->∀n∈F.take (j+1),∀t,aF neg (Dl y n (Bc f g)) t->t∈Ba M2 k)):=by
    refine⟨U.o.1.trans (ds.o.mono (dr.o n)),λc9 hd hu t ht=>?_⟩;rw[fg.o]at hu;rcases AW.1 hu with hu|hu
    ·have fo:=ds.o.le;exact ds.o.sub (U.o.2 L hd hu t ht)
    simp at hu;subst hu;exact fj.o c9 t ht
   refine⟨Z F-(j+1),L,j+1,M2,d2,?_⟩
   ((repeat' refine Zi ?_ ?_)<;>first|exact Xq|exact e6|exact dn|exact HN|exact (by rw[ec,eh])|exact Xs)
  have ek:j=Z F:=L;subst ek;refine X ?_;refine⟨_,rfl,I,R,cr,b6,U.o.1,ck,λc9 t ht=>?_⟩;obtain⟨n,hn,h1⟩:=dt.o t ht;rw[fh.o]at hn;exact U.o.2 c9 n (by rw[AS];exact hn) t h1
def gW (neg f g b):∀(n:Nat) (e:List Int),Z e<=n->PD neg f g b e:=by
 intro n;induction n with
 |zero=>exact λe c=>Sb neg f g b e (λa h=>L)
 |succ n d=>exact λe c=>Sb neg f g b e (λa h=>d a L)
def Sh (ar:Nat->Nat)(k:Nat)(t:Ck):Prop:=∃l:List Int,t=Ej l/\Z l=ar k/\∀x∈l,∃n:Nat,x=(n:Int)/\n<1026
structure RW (np:Nat)(ar:Nat->Nat)(rqx:E3):Prop where
 rok:TS np rqx
 nne:∀l∈rqx.A,l.neg->l.a.p≠rqx.h.p
 har:Z rqx.h.ts=ar rqx.h.p.toNat
 bar:∀l∈rqx.A,Z l.a.ts=ar l.a.p.toNat
 hc:∀t∈rqx.h.ts,t.1=false->∃n:Nat,t.2=(n:Int)/\n<1026
 hv:∀v,(true,v)∈rqx.h.ts->0<=v/\v<26
 bv:∀l∈rqx.A,∀v,(true,v)∈l.a.ts->0<=v/\v<26
 safe:∀v,(Bm rqx.h.ts v\/∃l∈rqx.A,l.neg/\Bm l.a.ts v)->∃l∈rqx.A,l.neg=false/\Bm l.a.ts v
def YK {a}(d:Z a.ts<=3)(ν):Mp a.ts (B8 a ν):=by
 rw[Mp];rw[CX];intro i c;have c:i<Z a.ts:=nn c;have e:(B8 a ν)[i]?=some (Ei ν a.ts[i]):=by grind[B8,Ku]
 rw[Ux];rw[AK c,e];cases g:a.ts[i]with
 |mk b n=>
  cases b
  ·simp[Ei]
  have f:(true,n)∈a.ts:=gp
  have:=J5 (ν:=ν) d (AO.2 f);unfold Iu at this;simp only;rw[this];simp[Ei]
def YE {a t l}(o:Z a.ts<=3)(d:t=Ej l)(g:Z l=Z a.ts)(c:Mp a.ts t):∃μ,t=B8 a μ:=by
 refine⟨λv=>Iu t (Jp a.ts v),?_⟩;have:a.ts.map (Ei λv=>Iu t (Jp a.ts v))=l:=by
  apply ext_getElem (ns g);intro i m k;have e:i<Z a.ts:=nn m;rw[Mp]at c;rw[CX]at c;have h:=c i (nn e);have f:t[i]?=some l[i]:=by grind[Ku]
  rw[Ux]at h;rw[AK e,f]at h;rw[getElem_map];cases j:a.ts[i]with
  |mk b n=>
   rw[j]at h;cases b
   ·simp only[DO]at h;simp[Ei,h]
   simp only[DO]at h;rw[h];simp[Ei,Iu]
 rw[B8];rw[this,d]
def oQ {M a b i l t}(h:t∈Zq M a b i l):t∈Ba M l.a.p:=by grind[Zq]
def Jw {M a c b p}(h:p∈Pf M a c b):∃(l:Lit) (i:Nat),b[i]?=some l/\l.neg=false/\p=oR M a c (l,i):=by grind[Pf]
def vZ {M a c b l i}(h:b[i]?=some l)(d:l.neg=false):oR M a c (l,i)∈Pf M a c b:=by grind[Pf]
def lu (ar:Nat->Nat)(M:MM):Prop:=∀(k:Nat) (t:Ck),t∈Ba M (k:Int)->Sh ar k t
def ZT {z a6 S M d b ar j}(U:BL z a6 S M d b)(K:lu ar M)(f:RW (Z M) ar j)(D A):Tz (Mc M D A j)/\QV (Mc M D A j)/\∀v,FA (Mc M D A j) v->v∈(range 26).map λn:Nat=>(n:Int):=by
 have B:=f.rok.bp;have C:∀a∈Tv j.A,∃l∈j.A,l.neg/\l.a=a:=λa q=>by
  obtain⟨l,o,rfl⟩:=AN.1 q;grind
 have a8:Z (Tv j.A)<=Z j.A:=by grind[Tv]
 have T:∀l∈j.A,T3 (Ba M l.a.p)/\Z (Ba M l.a.p)<=5000:=λl o=>by let⟨k,e,Q⟩:=B l o;have a4:=AK Q;rw[e,Cp a4];have G:=AR Q;exact⟨U.t3 _ G,U.ln _ G⟩
 have a1:Z (Pf M D A j.A)<=Z j.A:=by rw[Pf];rw[BV];refine BI (IS _ _) nk
 have E:∀(l:Lit) (i:Nat),∀t∈(oR M D A (l,i)).A,t∈Ba M l.a.p/\Mp l.a.ts t:=λl i t y=>by let⟨c,g⟩:=BP.1 y;exact⟨oQ c,g⟩
 have P:∀v,FA (Mc M D A j) v->0<=v/\v<26:=λv ⟨a,q,u⟩=>by rw[atomsQ,Mc]at q;simp only[BD,AW,AN]at q;obtain rfl|⟨p,s,rfl⟩|q:=q;exact f.hv v (AO.1 u);obtain⟨l,i,c,g,rfl⟩:=Jw s;exact f.bv l (AY c) v (AO.1 u);obtain⟨l,c,g,rfl⟩:=C a q;exact f.bv l c v (AO.1 u)
 refine⟨⟨⟨f.rok.hd,BI a1 f.rok.bl,BI a8 f.rok.bl,λp s=>?_,λp s=>?_,λp s=>?_,λa q=>?_⟩,λp s t y=>?_,λp s=>?_,λv u=>?_⟩,λa q v u=>(P v ⟨a,q,AO.2 u⟩).1,λv u=>?_⟩;obtain⟨l,i,c,g,rfl⟩:=Jw s;exact f.rok.ba l (AY c);obtain⟨l,i,c,g,rfl⟩:=Jw s;have x:=(T l (AY c)).2;apply BI (IS _ _);rw[Zq];split;simp;omega;exact x;obtain⟨l,i,c,g,rfl⟩:=Jw s;exact λt y=>(T l (AY c)).1 t (E l i t y).1;obtain⟨l,c,g,rfl⟩:=C a q;exact f.rok.ba l c;obtain⟨l,i,c,g,rfl⟩:=Jw s;have o:=AY c;obtain⟨k,e,-⟩:=B l o;have x:=(E l i t y).1;rw[e]at x;obtain⟨m,rfl,F,R⟩:=K k t x;intro aa a5;have I:Z m=Z l.a.ts:=by rw[F,f.bar l o,e];rfl
 have N:=I▸a5
 let⟨n,a3,a2⟩:=R m[aa] (AR N);exact⟨n,by rw[Ku N (I▸f.rok.ba l o),a3],a2⟩;obtain⟨l,i,c,g,rfl⟩:=Jw s;have o:=AY c;refine⟨f.rok.ba l o,λt y=>?_⟩;obtain⟨k,e,-⟩:=B l o;let⟨x,h4⟩:=E l i t y;rw[e]at x;let⟨m,a0,F,R⟩:=K k t x;exact YE (a:=l.a) (f.rok.ba l o) a0 (by rw[F,f.bar l o,e];rfl) h4
 let⟨l,o,ap,a9⟩:=f.safe v (by
  obtain h|⟨a,q,h⟩:=u;exact .inl h;obtain⟨l,c,g,rfl⟩:=C a q;grind)
 let⟨i,a7⟩:=CL o;exact⟨oR M D A (l,i),vZ a7 ap,a9⟩;let⟨c,g⟩:=P v u;rw[AN];exact⟨v.toNat,gp,L⟩
def vY {neg M g j ar s t}(k:RW (Z M) ar s):aF neg (Mc M g j s) t↔∃ν,(∀(l:Lit) (i:Nat),s.A[i]?=some l->l.neg=false->B8 l.a ν∈Zq M g j i l)/\(∀l∈s.A,l.neg->¬neg l.a.p (B8 l.a ν))/\t=B8 s.h ν:=by constructor;rintro⟨ν,b,rfl⟩;refine⟨ν,λl i n f=>?_,λl d f=>b.2 l.a (AN.2 ⟨l,BP.2 ⟨d,f⟩,rfl⟩),rfl⟩;have:=b.1 _ (vZ n f);exact (BP.1 this).1;rintro⟨ν,h,m,rfl⟩;refine⟨ν,⟨λp q=>?_,λa o=>?_⟩,rfl⟩;obtain⟨l,i,c,e,rfl⟩:=Jw q;exact BP.2 ⟨h l i c e,YK (k.rok.ba l (AY c)) ν⟩;obtain⟨l,d,rfl⟩:=AN.1 o;let⟨c,e⟩:=BP.1 d;exact m l c e
abbrev Gb:=Nat->Ck->Prop
def KG (R:List E3)(D:Gb):Prop:=∀b∈R,∀a,(∀l∈b.A,D l.a.p.toNat (B8 l.a a))->D b.h.p.toNat (B8 b.h a)
def Lk (N D:Gb)(ν:Nu)(l:Lit):Prop:=if l.neg=true then¬N l.a.p.toNat (B8 l.a ν)else D l.a.p.toNat (B8 l.a ν)
def NL (R:List E3)(N D:Gb):Prop:=∀b∈R,∀a,(∀l∈b.A,Lk N D a l)->D b.h.p.toNat (B8 b.h a)
def iE {R N D}(h:∀e∈R,∀l∈e.A,l.neg=false):NL R N D↔KG R D:=by
 have d:∀e∈R,∀a,(∀l∈e.A,Lk N D a l)↔∀l∈e.A,D l.a.p.toNat (B8 l.a a):=λe b a=>by grind[Lk]
 exact⟨λg e b a c=>g e b a ((d e b a).2 c),λg e b a c=>g e b a ((d e b a).1 c)⟩
def MD (M:MM):Gb:=λk t=>t∈Ba M (k:Int)
def tot (M:MM):Int:=(H1 M).sum
structure BG (D:Gb)(M M':MM)(d d':Int):Prop where
 len:Z M'=Z M
 ext:∀k:Nat,∃new:List Ck,Ba M' k=Ba M k++new/\new.Nodup/\∀t∈new,D k t/\t∉Ba M k
 cnt:d'-d=tot M'-tot M
def BG.refl (D M d):BG D M M d d:=⟨rfl,λk=>⟨[],nk,GN,nk⟩,L⟩
def BG.trans {D M j M2 d f i}(h:BG D M j d f)(g:BG D j M2 f i):BG D M M2 d i:=by refine⟨g.len.trans h.len,λk=>?_,by have:=h.cnt;have:=g.cnt;omega⟩;let⟨l,b,a,u⟩:=h.ext k;let⟨s,n,q,c⟩:=g.ext k;grind
def BG.sub {D M M' d b}(h:BG D M M' d b){k:Nat}{t}(a:t∈Ba M k):t∈Ba M' k:=by obtain⟨n,c,-,-⟩:=h.ext k;grind
def BG.inD {D M M' d c}(h:BG D M M' d c)(f:∀k t,MD M k t->D k t):∀k t,MD M' k t->D k t:=λk t a=>by obtain⟨n,e,-,b⟩:=h.ext k;rw[MD]at a;rw[e]at a;obtain a|a:=AW.1 a;exact f k t a;exact (b t a).1
theorem Ey (x M):tot (x::M)=(Z x.2:Int)+tot M:=by simp[tot,H1]
def Q6:∀(M M':MM) (k:Nat) (n:Nat),Z M'=Z M->(∀j,j≠k->(M'[j]?).map (·.2)=(M[j]?).map (·.2))->(k<Z M->(Z (Ba M' k):Int)=Z (Ba M k)+n)->(Z M<=k->n=0)->tot M'=tot M+n
 |[],M',k,n,a,b,c,d=>gp
 |x::M,[],k,n,a,b,c,d=>gp
 |x::M,y::M',0,n,a,b,c,d=>by have e:=c nk;simp[Ba]at e;have f:=Q6 M M' (Z M) 0 (nn a) (λj g=>by have:=b (j+1) L;grind) (λh=>L) (λ_=>rfl);rw[Ey,Ey,f];omega
 |x::M,y::M',k+1,n,a,b,c,d=>by
  have e:=b 0 L;simp at e
  have f:=Q6 M M' k n (nn a) (λj g=>by have:=b (j+1) L;grind) (λh=>by grind[Ba]) (λh=>d (gp))
  rw[Ey,Ey,f,e];omega
def DV.all {k S D M M' d b}(h:DV k S M M' d b)(m:k<Z M)(g:∀t,S t->D k t):BG D M M' d b:=by let⟨n,c,i,f,l⟩:=h.ext;refine⟨h.len,λj=>?_,?_⟩;by_cases e:j=k;subst e;exact⟨n,c,i,λt a=>⟨g t (f t a).1,(f t a).2⟩⟩;refine⟨[],?_,GN,nk⟩;have:=h.oth j e;unfold Ba;simp only[DK];rw[this];simp;have:=Q6 M M' k (Z n) h.len h.oth (λ_=>gp) (λo=>L);omega
def iP (a c)(h:pK a c):Z c=4:=by obtain⟨o,d,e,b,rfl,-⟩:=h;rfl
def wF {l cs i g}(h:r pK l cs)(f:l[i]?=some g):∃o ih ib a b,cs.drop (i*4)=my o::Y g.h.p::X1 ih g.h.ts::sl ib (Z g.A) a::b/\r Sq g.A a:=by obtain⟨c,b,⟨o,ih,ib,a,rfl,d⟩,e⟩:=r.get iP h f;grind
def IA (R:List E3)(D:Gb)(M:MM):Prop:=∀a∈R,∀l∈a.A,l.neg->∀t,D l.a.p.toNat t->MD M l.a.p.toNat t
def IA.gro {R D M M' d a}(h:IA R D M)(g:BG D M M' d a):IA R D M':=λi c l e f t b=>g.sub (h i c l e f t b)
def NW (D:Gb):Int->Ck->Prop:=λp t=>D p.toNat t
structure LN (np:Nat)(ar:Nat->Nat)(R:List E3)(D:Gb):Prop where
 rw:∀rqx∈R,RW np ar rqx
 cl:NL R D D
 sh:∀k t,D k t->Sh ar k t
def ZS {np ar R D M f q u}(c:LN np ar R D)(p:Z M=np)(a:u∈R)(n:∀k t,MD M k t->D k t){t}(j:aF (NW D) (Mc M f q u) t):D u.h.p.toNat t:=by
 obtain⟨g,s,o,rfl⟩:=(vY (ar:=ar) (p ▸ c.rw u a)).1 j;refine c.cl u a g (λl b=>?_);unfold Lk;cases e:l.neg
 ·obtain⟨i,m⟩:=CL b;obtain⟨k,d,-⟩:=(c.rw u a).rok.bp l b;have:=oQ (s l i m e);rw[d]at this;simp only[EI,if_false];rw[d];exact n k _ this
 simpa[NW]using o l b e
def Zp {np ar R D}(v:LN np ar R D)(E K b)(ak: -1000000<=b)(a7:b<=900000)(M d)(Lqx:Z M=np)(A:∀k t,MD M k t->D k t)(P:IA R D M)(F:Room M d b)(Q: -1000000<=d)(T:d<=1000000)(q)(u:q∈R)(C y c)(hc:EQ (Mc M C y q) c)(z)(G:BL z E K M d b):
  ni 139 [ptr E 0,ag c] z λx s=>∃M' g,BL s E K M' g b/\KM E K M M' z s/\BG D M M' d g/\Room M' g b/\g<=1000000/\d<=g/\(¬b<g->∀ν,(∀(l:Lit) (i:Nat),q.A[i]?=some l->l.neg=false->B8 l.a ν∈Zq M C y i l)->(∀l∈q.A,l.neg->¬D l.a.p.toNat (B8 l.a ν))->MD M' q.h.p.toNat (B8 q.h ν)):=by
 have p:=Lqx ▸ v.rw q u;let⟨a1,a9,aa⟩:=ZT G (λk t n=>v.sh k t (A k t n)) p C y;let⟨k,ac,N⟩:=p.rok.hp;have U:∀a∈(Mc M C y q).B,∃l∈q.A,l.neg/\l.a=a:=λa o=>by
  obtain⟨l,hl,rfl⟩:=AN.1 o;grind
 have b1:BO (NW D) M (Mc M C y q):=λa o=>by
  obtain⟨l,f,m,rfl⟩:=U a o;let⟨j,a3,a5⟩:=p.rok.bp l f;have I:=AK a5;refine⟨j,M[j],a3,I,λt=>?_⟩;have a2:=Cp I;have e:l.a.p.toNat=j:=gp
  rw[NW];rw[e];constructor;intro n;have:=P q u l f m t (e▸n);rw[e]at this;rw[MD]at this;rwa[a2]at this;intro n;exact A j t (by grind[MD])
 have a6:∀a∈(Mc M C y q).B,a.p≠(k:Int):=λa o e=>by obtain⟨l,f,m,rfl⟩:=U a o;exact p.nne l f m (gp)
 have:=gW (NW D) E K b _ _ (AU _) (Mc M C y q) c k M d hc a1 b1 a6 a9 ac N F Q T ak a7 aa z G;apply AF.mono this;rintro x s ⟨M',g,f,m,B,h4,a4⟩;have S:q.h.p.toNat=k:=gp
 refine⟨M',g,f,m,B.all N (λt n=>S▸ZS v Lqx u A n),B.room F,h4,B.le,λa8 ν a0 ab=>?_⟩;rw[MD];rw[S];exact a4 a8 _ ((vY p).2 ⟨ν,a0,ab,rfl⟩)
def DD (D:Gb)(c M':MM)(a:List Int)(e:E3)(j:Nat):Prop:=∀(i:Nat) (l:Lit),i<j->e.A[i]?=some l->l.neg=false->∀b,(∀d∈e.A,Lk D (MD c) b d)->B8 l.a b∈(Ba c l.a.p).drop ((a[l.a.p.toNat]?).getD 0).toNat->MD M' e.h.p.toNat (B8 e.h b)
def DD.mono {D c b M2 a q j f k}(h:DD D c b a q j)(g:BG D b M2 f k):DD D c M2 a q j:=λi l m e o d p n=>g.sub (h i l m e o d p n)
def Uz {np ar R D}(ad:LN np ar R D)(o P b)(cd: -1000000<=b)(cc:b<=900000)(M d)(hn:Z M=np)(hD:∀k t,MD M k t->D k t)(ci:IA R D M)(cf:Room M d b)(db: -1000000<=d)(ca:d<=1000000)(rc bj)(bd:r pK R rc)(dd:Z R<=1000)(m bk)(bz:Z m=np)(b1:∀n∈m,0<=n/\n<=5000)(z)(hM:BL z o P M d b):
  ni 141 [ptr o 0,sl bj (Z R) rc,X2 bk m] z λx q=>∃M' u,BL q o P M' u b/\KM o P M M' z q/\BG D M M' d u/\Room M' u b/\u<=1000000/\d<=u/\(¬b<u->∀f∈R,DD D M M' m f (Z f.A)):=by
 have cz:=r.length iP bd;have cx:=B9 m;have cl:=hM.pl;have cy:np<=Z m:=L;have c8:Z M<=np:=L;have c7:np<=Z M:=L;have bo:V (Z M=np):=hn;clear bz hn;refine wl func141 ?_;refine X ?_
 refine Ae (λb4 s q=>∃(k:Nat) (S:MM) (E:Int),b4=Z R-k/\k<=Z R/\s 0=ptr o 0/\s 2=X2 bk m/\s 12=sl bj (Z R) rc/\s 13=Y (Z R)/\s 14=Y k/\BL q o P S E b/\KM o P M S z q/\E<=1000000/\d<=E/\V (BG D M S d E/\Room S E b/\(¬b<E->∀f∈R.take k,DD D M S m f (Z f.A)))) (Z R)
  ⟨0,M,d,L,L,by simp[upd,AL],by simp[upd,AL],AG,AG,rfl,hM,KM.ofKeep (W.refl _),ca,L,BG.refl _ _ _,cf,λ_ f hr=>by simp at hr⟩ ?_
 rintro b4 s q ⟨k,S,E,rfl,hk,h0,h2,bn,bm,bi,aa,an,am,ak,g⟩;by_cases be:k<Z R
 ·obtain⟨f,I⟩:=gq be;obtain⟨b5,ih,ib,af,rr,hd,hB⟩:=wF bd I;have a2:=(AY I);have cv:V (R.take (k+1)=R.take k++[f]):=by rw[V,AT,I,BN]
  clear I;have dc:=r.length Hk hB;have cb:=(ad.rw f a2).rok.bl;have l1:=aa.lo;have l2:=aa.lt;refine X ?_
  refine Ae (λb4 s T=>∃(j:Nat) (a:MM) (c:Int),b4=Z f.A-j/\j<=Z f.A/\s 0=ptr o 0/\s 2=X2 bk m/\s 7=ptr q.B 0/\s 12=sl bj (Z R) rc/\s 13=Y (Z R)/\s 14=Y k/\s 19=sl ib (Z f.A) af/\s 20=Y (Z f.A)/\s 21=Y j/\BL T o P a c b/\KM o P M a z T/\q.B<T.B/\T.C q.B=[my b5,Y f.h.p,X1 ih f.h.ts,sl ib (Z f.A) af]/\c<=1000000/\d<=c/\V (BG D M a d c/\Room a c b/\(¬b<c->(∀f∈R.take k,DD D M a m f (Z f.A))/\DD D M a m f j))) (Z f.A)
   ⟨0,S,E,L,L,AI,AI,AG,AI,AI,AI,AG,AG,rfl,aa.keep (((W.refl _).new _).put (AU _) _),an.trans (KM.ofKeep (((W.refl _).new _).put (AU _) _)),BJ,Ak,am,ak,g.o.1,g.o.2.1,λh=>⟨g.o.2.2 h,λi l hi=>L⟩⟩ ?_
  have cu:o≠q.B:=L;have ct:P≠q.B:=L;clear h0 h2 bn bm bi aa an g am ak l1 l2;rintro b4 s T ⟨j,a,c,rfl,hj,h0,h2,h7,bn,bm,bi,dh,df,de,C,au,c6,br,a8,b9,g⟩;have l1:=C.lo;have l2:=C.lt;by_cases ay:j<Z f.A
  ·obtain⟨w,I⟩:=gq ay;obtain⟨id,r2,aj⟩:=H8 hB I;have bf:=(AY I);let⟨p,hp,c5⟩:=(ad.rw f a2).rok.bp w bf;have HW:V (f.A[j]?=some w):=I;clear I;rw[hp]at aj;have a3:m[p]?=some m[p]:=AK L;let⟨rs,b7⟩:=D2 a3;have b0:=b1 _ (AR (show p<Z m by omega));generalize m[p]=bl at a3 b7 b0;obtain⟨G,rfl⟩:∃G:Nat,bl=(G:Int):=⟨bl.toNat,L⟩;have cm:Z a<=Z M/\Z M<=Z a:=ny g.o.1.len
   have ai:a[p]?=some a[p]:=AK L;generalize a[p]=y at ai;have da:=Jj ai;have cw:=C.ln y (AY ai);have c9:=Ji a;have co:=C.ob;have d0:=C.oc;have b2:=C.pl;have ce:V (Ba a (p:Int)=y.2):=Cp ai
   --what this literal's turn must bring
   have ac:V (∀A B,BG D a A c B->(¬b<B->w.neg=false->∀v,(∀l'∈f.A,Lk D (MD M) v l')->B8 w.a v∈(Ba M w.a.p).drop G->MD A f.h.p.toNat (B8 f.h v))->c<=B->(¬b<B->(∀f∈R.take k,DD D M A m f (Z f.A))/\DD D M A m f (j+1))):=λA B bg ah b3 a5=>by
    let⟨N,ab⟩:=g.o.2.2 L;refine⟨λr' az=>(N r' az).mono bg,λi l hi Q U v av F=>?_⟩;by_cases e:i=j
    ·subst e;rw[HW.o]at Q;obtain rfl:=Gf Q;refine ah a5 U v av ?_;rw[hp]at F⊢;rw[DK,a3]at F;simpa using F
    exact bg.sub (ab i l L Q U v av F)
   cases ae:w.neg
   ·rw[ae]at aj;clear ae;refine X ?_;refine Ax Ag (λ_=>True) [] [0,1,2,3,4,5,6,7,8,9,10,11,12,13,14,15,16] [] AH (λ_ _ _ h=>h) ?_;intro yb ya;by_cases a6:G<Z y.2
    ·have b6:decide ((G:Int)<(Z y.2:Int))=true:=by simp;exact a6
     have cr:=λz (h:BL z o P a c b)=>eV o P a c b f [my b5,Y f.h.p,X1 ih f.h.ts,sl ib (Z f.A) af] (j:Int) G ⟨b5,ih,ib,af,rfl,hB⟩ (by have:=g.o.1.len;rw[this,bo.o];exact (ad.rw f a2).rok) L z h;have cp:V (∀c3,EQ (Mc a (j:Int) G f) c3->∀z,BL z o P a c b->ni 139 [ptr o 0,ag c3] z λx q=>∃M' u,BL q o P M' u b/\KM o P a M' z q/\BG D a M' c u/\Room M' u b/\u<=1000000/\c<=u/\(¬b<u->∀v,(∀(l:Lit) (i:Nat),f.A[i]?=some l->l.neg=false->B8 l.a v∈Zq a (j:Int) G i l)->(∀l∈f.A,l.neg=true->¬D l.a.p.toNat (B8 l.a v))->MD M' f.h.p.toNat (B8 f.h v))):=λc3 h3 z hh=>
      Zp ad o P b cd cc a c (by have:=g.o.1.len;rw[this];exact bo.o) (g.o.1.inD hD) (ci.gro g.o.1) g.o.2.1 L a8 f a2 (j:Int) G c3 h3 z hh
     clear a6
     (repeat (refine m0 ?_;intro yb ya;(first|(refine Xi (cr _ (C.keep (Xs))) ?_;rintro _ _ ⟨⟨_,rfl,bp,bx,bt,c4,c2,rfl,ch,cj⟩,ba⟩;(have a0:=ba.B;have ax:=ba.C;simp only[Ac,Aa]at a0 ax;have cn:=(((W.refl T).new _).put (AU _) _).trans ba;have cq:=cp.o _ ⟨bp,bx,bt,c4,c2,rfl,ch,cj⟩))|(refine Xi (cq _ (C.keep (Xs))) ?_;rintro _ _ ⟨A,B,ck,ap,bh,cg,b8,a7,ah⟩;(have bq:V _:=bh;have bb:V _:=ah;clear bh ah;have c1:=ap.B;simp only[Ac,Aa]at c1;have bw:=ap.C q.B (by simp only[Ac,Aa];omega) cu.symm ct.symm;have a9:=(au.trans (KM.ofKeep ((cn.new _).put L _))).trans ap)))));refine X ?_
     have K:V (BG D M A d B/\Room A B b/\(¬b<B->(∀f∈R.take k,DD D M A m f (Z f.A))/\DD D M A m f (j+1))):=by
      refine⟨g.o.1.trans bq.o,cg,ac.o A B bq.o (λa5 _ v av F=>bb.o a5 v (λl i Q U=>?_) (λl Q U=>by
       have:=av l Q;unfold Lk at this;rw[U]at this
       simpa using this)) a7⟩
      have ao:=AY Q;obtain⟨p',a4,-⟩:=(ad.rw f a2).rok.bp l ao;obtain⟨nw,aw,-,-⟩:=g.o.1.ext p';unfold Zq;by_cases e:(i:Int)=(j:Int)
      ·rw[if_pos e];have:i=j:=L;subst this;rw[HW.o]at Q;obtain rfl:=Gf Q;rw[a4]at F⊢;rw[aw,drop_append];exact AW.2 (.inl F)
      rw[if_neg e];have:=av l ao;unfold Lk MD at this;rw[U,a4]at this;simp only[EI,if_false,DK]at this;rw[a4,aw];exact AW.2 (.inl this)
     refine⟨Z f.A-(j+1),L,j+1,A,B,?_⟩;have bv:∀bc:St,bc.C q.B=T.C q.B->bc.C q.B=[my b5,Y f.h.p,X1 ih f.h.ts,sl ib (Z f.A) af]:=λbc e=>by rw[e,br]
     have bu:=bv _ (by rw[bw,Aj L,Ah L,ax _ L,Aj L,Ah L])
     ((repeat' refine Zi ?_ ?_)<;>first|exact Xq|exact K|exact ck|exact a9|exact bu|exact Xs)
    have b6:decide ((G:Int)<(Z y.2:Int))=false:=by simp;omega
    have K:V (BG D M a d c/\Room a c b/\(¬b<c->(∀f∈R.take k,DD D M a m f (Z f.A))/\DD D M a m f (j+1))):=by
     refine⟨g.o.1,g.o.2.1,ac.o a c (BG.refl _ _ _) (λ_ _ v _ F=>?_) L⟩;exfalso;obtain⟨nw,aw,-,-⟩:=g.o.1.ext p;rw[ce.o]at aw;have b3:Z (Ba M (p:Int))<=Z y.2:=by rw[aw];simp
     rw[hp,JU L]at F;cases F
    clear a6 ac;refine X ?_;refine⟨Z f.A-(j+1),L,j+1,a,c,?_⟩
    ((repeat' refine Zi ?_ ?_)<;>first|exact Xq|exact K|exact (C.keep (((W.refl _).new _).put (AU _) _))|exact (au.trans (KM.ofKeep (((W.refl _).new _).put (AU _) _)))|exact Xs)
   have K:V (BG D M a d c/\Room a c b/\(¬b<c->(∀f∈R.take k,DD D M a m f (Z f.A))/\DD D M a m f (j+1))):=
    ⟨g.o.1,g.o.2.1,ac.o a c (BG.refl _ _ _) (λ_ hh=>by rw[ae]at hh;cases hh) L⟩
   rw[ae]at aj;clear ac ae;refine X ?_;refine Ax Ag (λ_=>True) [] [0,1,2,3,4,5,6,7,8,9,10,11,12,13,14,15,16] [] AH (λ_ _ _ h=>h) ?_;intro yb ya;refine X ?_;refine⟨Z f.A-(j+1),L,j+1,a,c,?_⟩
   ((repeat' refine Zi ?_ ?_)<;>first|exact Xq|exact K|exact (C.keep (((W.refl _).new _).put (AU _) _))|exact (au.trans (KM.ofKeep (((W.refl _).new _).put (AU _) _)))|exact Xs)
  obtain rfl:j=Z f.A:=L;have K:V (BG D M a d c/\Room a c b/\(¬b<c->∀f∈R.take (k+1),DD D M a m f (Z f.A))):=by
   let⟨N,ab,a1⟩:=g.o;refine⟨N,ab,λh r' az=>?_⟩;rw[cv.o]at az;obtain h'|h':=AW.1 az
   ·exact (a1 h).1 r' h'
   simp at h';subst h';exact (a1 h).2
  refine X ?_;refine⟨Z R-(k+1),L,k+1,a,c,?_⟩;exact m9 K
 obtain rfl:k=Z R:=L;let⟨N,ab,a1⟩:=g.o;rw[AS]at a1;refine X ?_
 exact⟨_,rfl,S,E,aa,an,N,ab,am,ak,a1⟩
def PY:∀(M M':MM),Z M'=Z M->(∀k:Nat,Z (Ba M k)<=Z (Ba M' k))->(tot M<=tot M'/\(tot M'<=tot M->∀k:Nat,Z (Ba M' k)=Z (Ba M k)))
 |[],M',a,h=>by have:M'=[]:=GG (nn a);subst this;exact⟨Int.le_refl _,λ_ k=>rfl⟩
 |x::M,[],a,h=>by simp at a
 |x::M,y::M',a,h=>by
  let⟨d,b⟩:=PY M M' (nn a) (λk=>by have:=h (k+1);simpa[Ba]using this);have c:=h 0;simp[Ba]at c;rw[Ey,Ey];refine⟨L,λe k=>?_⟩;cases k with
  |zero=>simp[Ba];omega
  |succ k=>
   have:=b L k;simpa[Ba]using this
def BG.lens {D M M' d a}(h:BG D M M' d a)(k:Nat):Z (Ba M k)<=Z (Ba M' k):=by obtain⟨n,e,-,-⟩:=h.ext k;rw[e];simp
def BG.same {D M M' d c}(h:BG D M M' d c)(b:tot M'<=tot M)(k:Nat):Ba M' k=Ba M k:=by have a:=(PY M M' h.len h.lens).2 b k;obtain⟨n,e,-,-⟩:=h.ext k;rw[e]at a⊢;have:n=[]:=nn a;rw[this,EJ]
def Sf {z g c M d b}(a:BL z g c M d b):∀n∈H1 M,0<=n/\n<=5000:=λn f=>by obtain⟨x,e,rfl⟩:=AN.1 f;have:=a.ln x e;omega
def Jt (M):Z (H1 M)=Z M:=by simp[H1]
def XD {M k}(a:k<Z M):((H1 M)[k]?).getD 0=(Z (Ba M (k:Int)):Int):=by simp_all[AK,Cp,H1]
def LK (D:Gb)(R:List E3)(b c:MM):Prop:=∀d∈R,∀a,(∀l∈d.A,Lk D (MD b) a l)->MD c d.h.p.toNat (B8 d.h a)
def Yq {N D ν l}(a:l.neg=false)(h:Lk N D ν l):D l.a.p.toNat (B8 l.a ν):=by grind[Lk]
theorem nH {N D ν l}(a:l.neg)(h:Lk N D ν l):¬N l.a.p.toNat (B8 l.a ν):=by grind[Lk]
def ZO {np ar R D a g M2 F p x}(y:LN np ar R D)(I:Z a=np)(A:BG D a g F p)(E:LK D R a g)(h2:BG D g M2 p x)(B:∀s∈R,DD D g M2 (H1 a) s (Z s.A)):LK D R g M2:=λs n b h=>by
 by_cases u:∀l∈s.A,Lk D (MD a) b l;exact h2.sub (E s n b u);let⟨l,t⟩:∃l,¬(l∈s.A->Lk D (MD a) b l):=Classical.not_forall.1 u;have m:=Classical.byContradiction λf=>t (λc=>absurd c f);have q:¬Lk D (MD a) b l:=λf=>t (λ_=>f);have o:l.neg=false:=by grind[nH,Lk]
 have j:¬MD a l.a.p.toNat (B8 l.a b):=λf=>q (by grind[Lk]);let⟨i,v⟩:=CL m;have z:=(BA.1 v).1;let⟨k,C,G⟩:=(y.rw s n).rok.bp l m;apply B s n i l z v o b h;obtain⟨K,e,-,-⟩:=A.ext k;have d:=Yq o (h l m);rw[MD]at d j;rw[C]at d j⊢;rw[DK]at d j;rw[DK,XD L,DK];rw[e]at d⊢;rw[drop_left];obtain c|c:=AW.1 d;cases j c;exact c
def Zh {R D c a np ar o i}(j:LN np ar R D)(n:BG D c a o i)(g:LK D R c a)(m:tot a<=tot c):NL R D (MD a):=λq d f h=>g q d f (λl e=>by
 have:=h l e;rw[Lk]at this⊢;split;rename_i b;rw[if_pos b]at this;exact this;rename_i b;rw[if_neg b]at this;obtain⟨k,p,-⟩:=(j.rw q d).rok.bp l e;rw[MD]at this⊢;rw[p]at this⊢;rw[DK]at this⊢;rw[n.same m k]at this
 exact this)
def Sa {np ar R D}(C:LN np ar R D)(i o b)(bu: -1000000<=b)(br:b<=900000)(M d)(I:Z M=np)(hD:∀k t,MD M k t->D k t)(bw:IA R D M)(b8:Room M d b)(cn: -1000000<=d)(b6:d<=1000000)(Q U)(a7:r pK R Q)(b9:Z R<=1000)(z)(hM:BL z i o M d b):
  ni 84 [ptr i 0,sl U (Z R) Q] z λx j=>∃M' q,BL j i o M' q b/\KM i o M M' z j/\BG D M M' d q/\d<=q/\q<=1000000/\(¬b<q->NL R D (MD M')):=by
 have ck:=r.length iP a7;have au:=hM.pl;have bm:=λ(M:MM) (d:Int) z (h:BL z i o M d b)=>Sc i o M d b z h;have b2:=bm M d;have a2:V (Z M=np):=I;have cm:Z M<=np/\np<=Z M:=L;clear I;refine wl func84 ?_;refine m0 ?_;intro yb ya;refine Xi (b2 _ (hM.keep (Xs))) ?_;rintro _ _ ⟨⟨aj,rfl⟩,bi⟩;refine X ?_;rename_i bk
 refine Ae (λm s j=>∃(k:Nat) (a:MM) (c:Int),m=Z R-k/\k<=Z R/\s 0=ptr i 0/\s 1=sl U (Z R) Q/\s 4=sl aj (Z M) (As (H1 M))/\s 11=sl U (Z R) Q/\s 12=Y (Z R)/\s 13=Y k/\BL j i o a c b/\KM i o M a z j/\c<=1000000/\d<=c/\V (BG D M a d c/\Room a c b/\(¬b<c->LK D (R.take k) M a))) (Z R)
  ⟨0,M,d,L,L,by simp[upd,AL],by simp[upd,AL],AG,by simp[upd,AL],AG,rfl,hM.keep bi,KM.ofKeep bi,b6,L,BG.refl _ _ _,b8,λ_ F hr=>by simp at hr⟩ ?_
 clear bi b2;rintro m s j ⟨k,a,c,rfl,hk,h0,h1,h4,ci,ch,cg,f,y,v,B,e⟩;by_cases a8:k<Z R
 ·obtain⟨F,aa⟩:=gq a8;obtain⟨ap,ih,G,bc,rr,hd,hB⟩:=wF a7 aa;have ae:=(AY aa);have cj:V (R.take (k+1)=R.take k++[F]):=by rw[V,AT,aa,BN]
  clear aa;have ak:Z a=np:=by have:=e.o.1.len;rw[this];exact a2.o
  have cf:=λz (h:BL z i o a c b)=>eV i o a c b F [my ap,Y F.h.p,X1 ih F.h.ts,sl G (Z F.A) bc] (-1) 0 ⟨ap,ih,G,bc,rfl,hB⟩ (by rw[ak];exact (C.rw F ae).rok) L z h;have cc:V (∀ad,EQ (Mc a (-1) 0 F) ad->∀z,BL z i o a c b->ni 139 [ptr i 0,ag ad] z λx j=>∃M' q,BL j i o M' q b/\KM i o a M' z j/\BG D a M' c q/\Room M' q b/\q<=1000000/\c<=q/\(¬b<q->∀P,(∀(l:Lit) (ai:Nat),F.A[ai]?=some l->l.neg=false->B8 l.a P∈Zq a (-1) 0 ai l)->(∀l∈F.A,l.neg->¬D l.a.p.toNat (B8 l.a P))->MD M' F.h.p.toNat (B8 F.h P))):=λad h3 z hh=>
   Zp C i o b bu br a c ak (e.o.1.inD hD) (bw.gro e.o.1) e.o.2.1 L v F ae (-1) 0 ad h3 z hh
  clear ak;have l1:=f.lo;have l2:=f.lt
  (repeat (refine m0 ?_;intro yb ya;(first|(refine Xi (cf _ (f.keep (Xs))) ?_;rintro _ _ ⟨⟨_,rfl,ax,az,ay,bj,b4,rfl,ca,cb⟩,bg⟩;(have a6:=bg.B;have a5:=bg.C;simp only[Ac,Aa]at a6 a5;have K:=(((W.refl j).new _).put (AU _) _).trans bg;have cd:=cc.o _ ⟨ax,az,ay,bj,b4,rfl,ca,cb⟩))|(refine Xi (cd _ (f.keep (Xs))) ?_;rintro _ _ ⟨u,p,ab,an,S,bd,bb,ba,N⟩;(have E:V _:=S;have ao:V _:=N;clear S N;have am:=(y.trans (KM.ofKeep ((K.new _).put L _))).trans an)))));refine X ?_
  have HN:V (BG D M u d p/\Room u p b/\(¬b<p->LK D (R.take (k+1)) M u)):=by
   refine⟨e.o.1.trans E.o,bd,λA r' bo P a1=>?_⟩;rw[cj.o]at bo;obtain a4|a4:=AW.1 bo
   ·exact E.o.sub (e.o.2.2 L r' a4 P a1)
   simp at a4;subst a4;refine ao.o A P (λl ai hl a9=>?_) (λl hl a9=>nH a9 (a1 l hl));have bq:=AY hl;obtain⟨p',b3,-⟩:=(C.rw r' ae).rok.bp l bq;unfold Zq;rw[if_neg L];have:=Yq a9 (a1 l bq);unfold MD at this;rw[b3]at this⊢;exact e.o.1.sub this
  refine⟨Z R-(k+1),L,k+1,u,p,?_⟩;exact ng HN ab am
 obtain rfl:k=Z R:=L;rw[AS]at e;have b1:=bm a c;refine m0 ?_;intro yb ya;refine Xi (b1 _ (f.keep (Xs))) ?_;rintro _ _ ⟨⟨aw,rfl⟩,bh⟩;refine X ?_;rename_i z1
 refine Ae (λm s j=>∃(g a:MM) (ds c:Int) (ia G:Nat),m=2*(b-c+1).toNat+(if tot g<tot a then 1 else 0)/\s 0=ptr i 0/\s 1=sl U (Z R) Q/\s 4=sl ia (Z g) (As (H1 g))/\s 8=sl G (Z a) (As (H1 a))/\BL j i o a c b/\KM i o M a z j/\c<=1000000/\d<=c/\Z g<=5000/\(∀n∈H1 g,0<=n/\n<=5000)/\V (Z g=np/\BG D M a d c/\BG D g a ds c/\Room a c b/\(¬b<c->LK D R g a))) (2*(b-c+1).toNat+(if tot M<tot a then 1 else 0))
  ⟨M,a,d,c,aj,aw,rfl,AI,AI,AI,AG,f.keep bh,y.trans (KM.ofKeep bh),v,B,au,Sf hM,a2.o,e.o.1,e.o.1,e.o.2.1,e.o.2.2⟩ ?_
 clear h0 h1 h4 ci ch cg f y v B e bh b1 a8 hk;rintro m s z2 ⟨g,a,ds,c,ia,G,rfl,h0,h1,h4,h8,f,y,v,B,cp,bv,e⟩;have T:=Qm i o a c b;have a3:=λ(id:Nat) z=>Nv (H1 a) id (by rw[Jt];have:=f.pl;omega) (λn I=>ny (Sf f n I)) z;have ac:=λ(id:Nat) z=>Nv (H1 g) id (by rw[Jt];omega) (λn I=>ny (bv n I)) z;rw[show (H1 a).sum=tot a from rfl]at a3;rw[show (H1 g).sum=tot g from rfl]at ac;unfold X2 at a3 ac;rw[Jt]at a3 ac;by_cases ah:b<c
 ·rw[show decide (b<c)=true from by simpa using ah]at T
  refine m0 ?_;intro yb ya;refine Xi (T _ (f.keep (Xs))) ?_;rintro _ _ ⟨rfl,rfl⟩;refine X ?_
  exact⟨_,rfl,a,c,f,y,e.o.2.1,B,v,λh=>absurd ah h⟩
 rw[show decide (b<c)=false from by simpa using ah]at T;by_cases bn:tot g<tot a
 ·have b5:decide (tot a>tot g):=nn bn
  have b0:=λz (h:BL z i o a c b)=>Uz C i o b bu br a c (e.o.2.1.len.trans a2.o) (e.o.2.1.inD hD) (bw.gro e.o.2.1) e.o.2.2.2.1 L v Q U a7 b9 (H1 g) ia (by rw[Jt];exact e.o.1) bv z h;unfold X2 at b0;rw[Jt]at b0;rw[if_pos bn]
  repeat' first|refine Z1 ?_|refine Z8 λyb ya=>?_|refine Z4 ?_;clear ya yb|refine Z2 ?_ ?_<;>intro h af<;>try exact Xp|(refine Z5 ?_;first|(refine Xi (T _ (f.keep (Xs))) ?_;rintro _ _ ⟨rfl,rfl⟩)|(refine Xi (a3 _ _) ?_;rintro _ _ ⟨rfl,bf⟩;(have K:=bf))|(refine Xi (ac _ _) ?_;rintro _ _ ⟨rfl,be⟩;(have a0:=K.trans be))|(refine Xi (b0 _ (f.keep (Xs))) ?_;rintro _ _ ⟨u,p,ab,an,S,bd,bb,ba,N⟩;(have E:V _:=S;have ao:V _:=N;clear S N;have am:=(y.trans (KM.ofKeep a0)).trans an;have ce:=bm u p))|(refine Xi (ce _ (ab.keep (Xs))) ?_;rintro _ _ ⟨⟨av,rfl⟩,bz⟩))|refine Z3 ?_|exact Zt|apply ya.o;clear ya yb
  have b7:=E.o.cnt;refine⟨2*(b-p+1).toNat+(if tot a<tot u then 1 else 0),by split<;>omega,a,u,c,p,G,av,?_⟩
  have HN:V (Z a=np/\BG D M u d p/\BG D a u c p/\Room u p b/\(¬b<p->LK D R a u)):=
   ⟨e.o.2.1.len.trans a2.o,e.o.2.1.trans E.o,E.o,bd,λA=>ZO C e.o.1 e.o.2.2.1 (e.o.2.2.2.2 L) E.o (ao.o A)⟩
  ((repeat' refine Zi ?_ ?_)<;>first|exact Xq|exact HN|exact (ab.keep bz)|exact (am.trans (KM.ofKeep bz))|exact f.pl|exact (Sf f)|exact Xs)
 have b5:decide (tot a>tot g)=false:=by simp;omega
 repeat' first|refine Z1 ?_|refine Z8 λyb ya=>?_|refine Z4 ?_;clear ya yb|refine Z2 ?_ ?_<;>intro h af<;>try exact Xp|(refine Z5 ?_;first|(refine Xi (T _ (f.keep (Xs))) ?_;rintro _ _ ⟨rfl,rfl⟩)|(refine Xi (a3 _ _) ?_;rintro _ _ ⟨rfl,bf⟩;(have K:=bf))|(refine Xi (ac _ _) ?_;rintro _ _ ⟨rfl,be⟩;(have a0:=K.trans be)))|refine Z3 ?_|exact Zt|apply ya.o;clear ya yb
 exact⟨_,rfl,a,c,f.keep a0,y.trans (KM.ofKeep a0),e.o.2.1,B,v,λA=>Zh C e.o.2.2.1 (e.o.2.2.2.2 A) L⟩
def XY {ar a ν k}(u:Z a.ts<=3)(q:Z a.ts=ar k)(h:Sh ar k (B8 a ν)):∀t∈a.ts,∃n:Nat,Ei ν t=(n:Int)/\n<1026:=by
 let⟨l,e,s,o⟩:=h;intro t p;let⟨i,g⟩:=CL p;have d:=(BA.1 g).1;have b:(a.ts.map (Ei ν))[i]?=some (Ei ν t):=gp
 have j:i<Z l:=L;have c:=AK j;have m:Ei ν t=l[i]:=by grind[B8,Ej]
 exact m▸o _ (AR j)
def gy {np ar R N}(h:∀n∈R,RW np ar n):NL R N (Sh ar):=λn f d i=>by
 have a:=h n f;refine⟨n.h.ts.map (Ei d),rfl,by rw[BV];exact a.har,λx g=>?_⟩;obtain⟨t,c,rfl⟩:=AN.1 g;let⟨k,e⟩:=t;cases k with
 |false=>exact a.hc _ c rfl
 |true=>
  let⟨l,b,m,j⟩:=a.safe e (.inl (by grind[AO]));exact XY (a.rok.ba l b) (a.bar l b) (Yq m (i l b)) _ (AO.1 j)
def aZ (t:Tm):Tm:=if t.1=true then (false,1000+t.2)else t
def Fx (a:Dx):Dx:=⟨a.p,a.ts.map aZ⟩
def NP (a:List Tm):Prop:=∀t∈a,-1000000<=t.2/\t.2<=1000000
def R9 (p x ts)(M:Z ts<=1000)(A:NP ts)(z):ni 157 [ag [Y p,X1 x ts]] z λm a=>(∃id,m=ag [Y p,sl id (Z ts) (Ad (ts.map aZ))])/\W z a:=by
 have I:=Cx ts;refine wl func157 ?_;refine X ?_
 refine wn [2,3,10,11] 12 (Z ts) (λi s a=>∃(f:Nat) (d:oh),W z a/\z.B+2<a.B/\a.C (z.B+1)=[Y 0,H]/\a.C (z.B+2)=[Y p,sl f i d]/\J z a f i/\Z d=i*2/\V (d=Ad ((ts.take i).map aZ))) ⟨1,[],Xs,BJ,?_,?_,J.nil _ _,nk,by simp[V,Ad]⟩ ?_
 ·rw[Aj L,Ah AM,Be AM AM]
 ·rw[show z.B+2=z.B+1+1 from rfl,Ak]
 rintro i s a _ _ _ ⟨f,d,b,K,N,G,t,o,e⟩;have R:=b.B;by_cases u:i<Z ts
 ·obtain⟨w,g⟩:=gq u;obtain⟨m,D⟩:=C3 g;have E:=A _ (AY g);let⟨v,j⟩:=w;have q:V (Ad ((ts.take (i+1)).map aZ)=Ad ((ts.take i).map aZ)++Js (aZ (v,j))):=by
   rw[V,AT,g];simp[Ad]
  clear g;cases v
  ·refine nh ?_;intro yb ya;refine Bo (by first|exact Gl) ((b.new _).put b.B _) (J.put (J.new t _) _ _) nr (by rfl) (o) (by rfl) (by rfl) nr L L ?_;intro c y l k F n C B;refine Z3 ?_;refine X ?_;refine⟨c,d++[my false,Y j],?_⟩
   ((repeat' refine Zi ?_ ?_)<;>first|exact Xq|exact (k.put L _)|exact (J.put l _ _)|exact (by rw[V,q.o,e.o];rfl)|exact Xs)
  refine nh ?_;intro yb ya;refine Bo (by first|exact Gl) (((b.new _).put b.B _).put b.B _) (J.put (J.put (J.new t _) _ _) _ _) nr (by rfl) (o) (by rfl) (by rfl) nr L L ?_;intro c y l k F n C B;refine Z3 ?_;refine X ?_;refine⟨c,d++[my false,Y (1000+j)],?_⟩
  ((repeat' refine Zi ?_ ?_)<;>first|exact Xq|exact (k.put L _)|exact (J.put l _ _)|exact (by rw[V,q.o,e.o];rfl)|exact Xs)
 obtain rfl:i=Z ts:=L;have e:=e.o;rw[AS]at e;refine X ?_;exact⟨_,rfl,⟨f,by rfl⟩,b.put L _⟩
def Tr (m c)(C:pK m c)(U:Z m.A<=64)(u:∀l∈m.A,Z l.a.ts<=3/\NP l.a.ts)(z):ni 156 [ag c] z λx b=>(∃id cs,x=sl id (Z m.A) cs/\r O9 (m.A.map λl=>Fx l.a) cs)/\W z b:=by
 obtain⟨a2,I,A,D,rfl,t⟩:=C;have ax:=r.length Hk t;refine wl func156 ?_;refine X ?_
 refine wn [8,9] 10 (Z m.A) (λi s b=>∃(d:Nat) (a:oh),s 3=sl d i a/\W z b/\J z b d i/\Z a=i*2/\V (r O9 ((m.A.take i).map λl=>Fx l.a) a)) ⟨1,[],AG,Xs,J.nil _ _,nk,rfl⟩ ?_
 rintro i s b _ _ _ ⟨d,a,T,f,y,aw,j⟩;have av:=f.B;by_cases q:i<Z m.A
 ·obtain⟨w,g⟩:=gq q;obtain⟨id,G,E⟩:=H8 t g;obtain⟨o,p⟩:=u _ (AY g);have B:Z w.a.ts<=1000:=L;have F:=λz=>R9 w.a.p id w.a.ts B p z;have v:V ((m.A.take (i+1)).map (λl=>Fx l.a)=(m.A.take i).map (λl=>Fx l.a)++[Fx w.a]):=by rw[V,AT,g];simp
  clear g;refine mt F ?_;rintro yb ya _ _ ⟨⟨e,rfl⟩,n⟩;have S:=((f.new _).put f.B _).trans n;have P:=J.keep (J.put (J.new y _) _ _) n;refine m4 ?_;intro k Q M a1 K a0 N R;refine X ?_;refine⟨k,a++[Y w.a.p,sl e (Z w.a.ts) (Ad (w.a.ts.map aZ))],?_⟩
  ((repeat' refine Zi ?_ ?_)<;>first|exact Xq|exact (by rw[V,v.o];exact r.append j.o (r.single ⟨e,by simp[Fx]⟩))|exact Xs)
 obtain rfl:i=Z m.A:=L;rw[AS]at j;refine X ?_
 exact⟨_,rfl,d,a,rfl,j.o⟩
def Fz (n:Int)(l:Lit):Lit:=if l.neg=true then⟨false,⟨l.a.p+n,l.a.ts⟩⟩else l
def MZ (n:Int)(a:E3):E3:=⟨a.h,a.A.map (Fz n)⟩
def Y7 (m c n)(Jqx:pK m c)(hl:Z m.A<=64)(P:∀l∈m.A,0<=l.a.p/\l.a.p<=1000000)(a0:0<=n)(ax:n<=1000000)(z):ni 155 [ag c,Y n] z λx b=>(∃C,x=ag C/\pK (MZ n m) C)/\W z b:=by
 obtain⟨a1,A,G,N,rfl,E⟩:=Jqx;have U:=r.length Hk E;refine wl func155 ?_;refine X ?_
 refine wn [1,4,5,12,13] 14 (Z m.A) (λi s b=>∃(j:Nat) (a:oh),W z b/\z.B+2<b.B/\b.C (z.B+1)=[my false,Y 0,H,H]/\b.C (z.B+2)=[my false,Y m.h.p,X1 A m.h.ts,sl j i a]/\J z b j i/\Z a=i*3/\V (r Sq ((m.A.take i).map (Fz n)) a)) ⟨1,[],Xs,BJ,?_,?_,J.nil _ _,nk,rfl⟩ ?_
 ·rw[Aj L,Ah AM,Be AM AM]
 ·rw[show z.B+2=z.B+1+1 from rfl,Ak]
 rintro i s b _ _ _ ⟨j,a,d,S,au,ap,D,F,f⟩;have av:=d.B;by_cases B:i<Z m.A
 ·obtain⟨w,k⟩:=gq B;obtain⟨id,T,v⟩:=H8 E k;have R:=P _ (AY k);have p:V ((m.A.take (i+1)).map (Fz n)=(m.A.take i).map (Fz n)++[Fz n w]):=by
   rw[V,AT,k];simp
  clear k;cases g:w.neg
  ·rw[g]at v;have u:V (r Sq ((m.A.take (i+1)).map (Fz n)) (a++[my false,Y w.a.p,X1 id w.a.ts])):=by
    rw[V,p.o];refine r.append f.o (r.single ?_);rw[Fz,if_neg (by rw[g];simp)];exact⟨id,by rw[g]⟩
   clear f p;refine nh ?_;intro yb ya;refine Bo (by first|exact G5) ((d.new _).put d.B _) (J.put (J.new D _) _ _) nr (by rfl) (F) (by rfl) (by rfl) nr L L ?_;intro e I q t Q y M K;simp only[Ac,Aa]at y;refine Z3 ?_;refine X ?_;refine⟨e,a++[my false,Y w.a.p,X1 id w.a.ts],?_⟩
   ((repeat' refine Zi ?_ ?_)<;>first|exact Xq|exact (t.put L _)|exact (J.put q _ _)|exact u|exact Xs)
  rw[g]at v;have u:V (r Sq ((m.A.take (i+1)).map (Fz n)) (a++[my false,Y (w.a.p+n),X1 id w.a.ts])):=by
   rw[V,p.o];refine r.append f.o (r.single ?_);rw[Fz,if_pos g];exact⟨id,rfl⟩
  clear f p;refine nh ?_;intro yb ya;refine Bo (by first|exact G5) ((((d.new _).put d.B _).put d.B _).put d.B _) (J.put (J.put (J.put (J.new D _) _ _) _ _) _ _) nr (by rfl) (F) (by rfl) (by rfl) nr L L ?_;intro e I q t Q y M K;refine Z3 ?_;refine X ?_;refine⟨e,a++[my false,Y (w.a.p+n),X1 id w.a.ts],?_⟩
  ((repeat' refine Zi ?_ ?_)<;>first|exact Xq|exact (t.put L _)|exact (J.put q _ _)|exact u|exact Xs)
 obtain rfl:i=Z m.A:=L;rw[AS]at f;have o:Z (m.A.map (Fz n))=Z m.A:=nk;refine X ?_;exact⟨_,rfl,⟨_,rfl,false,A,j,a,by simp only[MZ];rw[o],f.o⟩,d.put L _⟩
structure GY (np:Nat)(F:List Dx)(M:MM):Prop where
 len:Z M=np
 nd:∀x∈M,x.2.Nodup
 mem:∀(k:Nat) (t:Ck),MD M k t↔∃a∈F,a.p=(k:Int)/\t=C4 a
 tot:tot M<=Z F
def jO {M}{k:Nat}{x}(h:M[k]?=some x):Ba M (k:Int)=x.2:=Cp h
def GY.nil (np):GY np [] (replicate np (1,[])):=by
 refine⟨nk,λx d=>?_,λk t=>⟨λh=>?_,λ⟨a,c,_⟩=>gp⟩,?_⟩;exact (IN.1 d).2▸GN;exfalso;rw[MD]at h;by_cases b:k<np;rw[jO (x:=(1,[])) (gp)]at h;simp at h;rw[Ba]at h;simp[b]at h;have:∀n:Nat,Go.Proofs.YtmoeoppbmhfbpabGreatDoorJ.tot (replicate n ((1:Nat),([]:List Ck)))=0:=by
  intro n;induction n with
  |zero=>rfl
  |succ n e=>rw[replicate_succ,Ey,e];rfl
 rw[this];simp
def GY.has {np F M a}{k:Nat}{x}(h:GY np F M)(m:a.p=(k:Int))(g:M[k]?=some x)(i:C4 a∈x.2):GY np (F++[a]) M:=by refine⟨h.len,h.nd,λj t=>?_,by have:=h.tot;simp;omega⟩;rw[h.mem j t];constructor;rintro⟨b,e,f,d⟩;exact⟨b,GK _ e,f,d⟩;rintro⟨b,e,f,d⟩;obtain c|c:=AW.1 e;exact⟨b,c,f,d⟩;rw[FY]at c;subst c;obtain rfl:j=k:=L;apply (h.mem j t).1;rw[MD];rw[Cp g,d];exact i
def GY.add {np F M a}{k id':Nat}{x}(h:GY np F M)(A:a.p=(k:Int))(m:M[k]?=some x)(q:C4 a∉x.2):GY np (F++[a]) (M.set k (id',x.2++[C4 a])):=by
 have B:=(BA.1 m).1;have n:=Cp (x:=(id',x.2++[C4 a])) (by rw[GH,if_pos rfl,if_pos B]);have p:∀j:Nat,j≠k->(M.set k (id',x.2++[C4 a]))[j]?=M[j]?:=λj l=>gp
 refine⟨by simp[h.len],λy z=>?_,λj t=>?_,?_⟩;obtain c|rfl:=NI z;exact h.nd y c;rw[IP];exact⟨h.nd x (AY m),nk,λu s v o e=>q (gp)⟩;by_cases l:j=k;subst l;rw[MD];rw[n,AW,FY];have f:=h.mem j t;rw[MD]at f;rw[Cp m]at f;rw[f];constructor;rintro (⟨b,g,i,d⟩|c);exact⟨b,GK _ g,i,d⟩;exact⟨a,nk,A,c⟩;rintro⟨b,g,i,d⟩;obtain c|c:=AW.1 g;exact .inl ⟨b,c,i,d⟩;rw[FY]at c;subst c;exact .inr d;have f:=h.mem j t;rw[MD,Ba]at f⊢;rw[DK]at f⊢;rw[p j l,f];constructor;rintro⟨b,g,i,d⟩;exact⟨b,GK _ g,i,d⟩;rintro⟨b,g,i,d⟩;obtain c|c:=AW.1 g;exact⟨b,c,i,d⟩;rw[FY]at c;subst c;omega;have:=Q6 M (M.set k (id',x.2++[C4 a])) k 1 nk (λj l=>gp) (λ_=>by grind[Cp]) (λc=>L);have d:=h.tot;simp;omega
structure KJ (z:St)(ot:Nat)(M:MM):Prop where
 oc:z.C ot=Gp M
 lt:ot<z.B
 live:∀x∈M,Live z x.1 (Z x.2)
 inj:∀(i j:Nat) (x y:Nat×List Ck),M[i]?=some x->M[j]?=some y->i≠j->x.1=1\/x.1≠y.1
 t3:∀x∈M,T3 x.2
 ln:∀x∈M,Z x.2<=5000
 pl:Z M<=5000
def KJ.keep {z a b M}(h:KJ z b M)(k:W z a):KJ a b M:=⟨(k.C _ h.lt).trans h.oc,BZ h.lt k.B,λx c=>(h.live x c).keep k,h.inj,h.t3,h.ln,h.pl⟩
def KJ.mob {z c a M d b}(h:KJ z a M)(e:z.C c=[fx a 0 (Z M),Y d,Y b])(f:c<z.B)(g:c≠a):BL z c a M d b:=⟨e,h.oc,f,h.lt,g,h.live,h.inj,h.t3,h.ln,h.pl⟩
def BL.mpt {z c a M d b}(h:BL z c a M d b):KJ z a M:=⟨h.oc,h.lt,h.live,h.inj,h.t3,h.ln,h.pl⟩
def W.km {σ0 z c f d M M'}(a:W σ0 z)(h:KM f d M M' z c)(l:σ0.B<=f)(m:σ0.B<=d)(j:∀x∈M,x.1=1):W σ0 c:=
 ⟨BI a.B h.B,λo b=>(h.C o (BZ b a.B) L L).trans (a.C o b),λo b=>(h.ver o (BZ b a.B) L L).trans (a.ver o b),BI a.D h.D,λk g=>(h.top k (BZ g a.D) (λx i e=>gp)).trans (a.top k g)⟩
def nC (np):Gp (replicate np (1,[]))=replicate np H:=by rw[Gp];rw[map_replicate];rfl
def Y1 (np F cs a3 b)(t:r O9 F cs)(hn:np<=5000)(bi:Z F<=1000)(bc:∀a∈F,Z a.ts<=3/\∃k:Nat,a.p=(k:Int)/\k<np)(z):
  ni 49 [Y np,sl a3 (Z F) cs,Y b] z λa4 d=>∃Jqx M,a4=ag [fx Jqx 0 np,Y 0,Y b]/\GY np F M/\W z d/\z.B<=Jqx/\KJ d Jqx M/\(∀x∈M,x.1=1\/z.D+2<=x.1):=by
 have bh:=r.length Iz t;refine wl func49 ?_;refine X ?_;let⟨c,g⟩:∃aa,aa=((((z.new [H,Y 0,Y 0]).new (replicate np H)).new [H,Y 0,Y 0]).put (z.B+1+1) [fx (z.B+1) 0 np,Y 0,Y b]):=⟨_,rfl⟩;rw[<-g];have s:W z c:=by rw[g];exact Xs
 have bd:c.B=z.B+3:=by rw[g];rfl
 have a1:c.C z.B=[H,Y 0,Y 0]:=by rw[g,Aj L,Ah AM,Ah AM,Ao]
 have ax:BL c (z.B+2) (z.B+1) (replicate np (1,[])) 0 b:=
  ⟨by rw[g,Ak];simp,by rw[nC,g,Aj L,Ah AM,Be AM AM],L,L,L,λx f=>by rw[(IN.1 f).2];exact .inl ⟨rfl,rfl⟩,λi ac x y f T _=>.inl (by rw[(IN.1 (AY f)).2]),λx f=>by rw[(IN.1 f).2];intro ad ht;simp at ht,λx f=>by rw[(IN.1 f).2];simp,nn hn⟩
 refine wn [6,7,14,15] 16 (Z F) (λi a9 d=>∃M:MM,BL d (z.B+2) (z.B+1) M 0 b/\KM (z.B+2) (z.B+1) (replicate np (1,[])) M c d/\d.C z.B=[H,Y 0,Y 0]/\V (GY np (F.take i) M)) ⟨replicate np (1,[]),ax,KM.ofKeep (W.refl _),a1,GY.nil np⟩ ?_
 clear ax a1 g;rintro i a9 d _ _ _ ⟨M,q,C,U,n⟩;have be:=C.B;by_cases a2:i<Z F
 ·obtain⟨a,j⟩:=gq a2;obtain⟨id,rr,hd⟩:=Ke t j;obtain⟨K,k,E,bg⟩:=bc _ (AY j);have G:=n.o.len;have f:=AK (l:=M) (i:=k) L;generalize M[k]'L=x at f;have S:V (F.take (i+1)=F.take i++[a]):=by rw[V,AT,j,BN]
  clear j;have a5:Z x.2<5000:=by
   have h1:=n.o.tot;have h2:(Z x.2:Int)<=Go.Proofs.YtmoeoppbmhfbpabGreatDoorJ.tot M:=by
    have hg:∀(M:MM) (k:Nat) (x:Nat×List Ck),M[k]?=some x->(Z x.2:Int)<=Go.Proofs.YtmoeoppbmhfbpabGreatDoorJ.tot M:=by
     intro M;induction M with
     |nil=>intro k x h;simp at h
     |cons y M m=>
      intro k x h;rw[Ey];have hp:∀M:MM,0<=Go.Proofs.YtmoeoppbmhfbpabGreatDoorJ.tot M:=by
       intro M;induction M with
       |nil=>exact Int.le_refl _
       |cons y M m=>rw[Ey];omega
      cases k with
      |zero=>simp at h;subst h;have:=hp M;omega
      |succ k=>have:=m k x (nn h);omega
    exact hg M k x f
   rw[CN]at h1;omega
  have B:=λz (h:BL z (c.B-1) (c.B-2) M 0 b)=>Jq (c.B-1) (c.B-2) M 0 b a id k x K E f z h;have Q:=λz (h:BL z (c.B-1) (c.B-2) M 0 b)=>Y4 (c.B-1) (c.B-2) M 0 b a id k x K E f a5 z h;rw[show c.B-1=z.B+2 by omega,show c.B-2=z.B+1 by omega]at B Q;have P:V (M[k]?=some x):=f;have N:V (a.p=(k:Int)):=E;clear f E G;by_cases v:C4 a∈x.2
  ·rw[show decide (C4 a∈x.2)=true by simpa using v]at B;have I:V (GY np (F.take (i+1)) M):=by rw[V,S.o];exact n.o.has N.o P.o v
   clear v n;have D:W d ((d.new [Y 0,H]).put d.B [Y a.p,X1 id a.ts]):=((W.refl d).new _).put (AU _) _;refine m0 ?_;intro yb ya;refine Xi (B _ (q.keep D)) ?_;rintro _ _ ⟨rfl,A⟩;have u:=D.trans A;refine X ?_;refine⟨M,?_⟩
   ((repeat' refine Zi ?_ ?_)<;>first|exact Xq|exact I|exact (q.keep u)|exact (C.trans (KM.ofKeep u))|exact (by rw[u.C _ L,U])|exact Xs)
  rw[show decide (C4 a∈x.2)=false by simpa using v]at B;have I:V (∀o,GY np (F.take (i+1)) (M.set k (o,x.2++[C4 a]))):=λo=>by rw[S.o];exact n.o.add N.o P.o v
  clear v n;have D:W d ((d.new [Y 0,H]).put d.B [Y a.p,X1 id a.ts]):=((W.refl d).new _).put (AU _) _;have a6:∀p,p<d.B+1->((d.new [Y 0,H]).put d.B [Y a.p,X1 id a.ts]).C p=((d.new [Y 0,H]).put d.B [Y a.p,X1 id a.ts]).C p:=λp _=>rfl;clear a6
  (repeat (refine m0 ?_;intro yb ya;(first|(refine Xi (B _ (q.keep D)) ?_;rintro _ _ ⟨rfl,A⟩;(have u:=D.trans A;have an:=A.C;have ao:=A.B;simp only[Ac,Aa]at ao an))|(refine Xi (Q _ (q.keep u)) ?_;rintro _ _ ⟨o,ba,a0⟩))));refine X ?_
  rename_i z2 z3;have au:=(C.trans (KM.ofKeep u)).trans a0;have a7:z3.C z.B=[H,Y 0,Y 0]:=by rw[a0.C _ L L L,u.C _ L,U]
  refine⟨M.set k (o,x.2++[C4 a]),?_⟩
  ((repeat' refine Zi ?_ ?_)<;>first|exact Xq|exact (I.o o)|exact ba|exact au|exact a7|exact Xs)
 obtain rfl:i=Z F:=L;have n:=n.o;rw[AS]at n;have G:=n.len;have a8:=q.ob;rw[G]at a8;have bf:=q.lo;have HI:V _:=n;have HM:V _:=q;have R:V _:=C;clear n q C G;refine X ?_;have bb:=W.km s R.o L L (λx f=>by rw[(IN.1 f).2]);refine⟨_,rfl,z.B+1,M,rfl,HI.o,bb.put L _,L,?_,λx f=>?_⟩
 ·have h:=HM.o.mpt;exact⟨by rw[Oh L];exact h.oc,h.lt,h.live,h.inj,h.t3,h.ln,h.pl⟩
 have ab:=s.D;obtain⟨y,T,e⟩|e|e:=R.o.mid x f
 ·rw[(IN.1 T).2]at e;exact .inl e.symm
 ·exact .inl e
 exact .inr L
def Eg (N:ol)(a:AE):Dx:=⟨(N.idxOf a.B:Nat),a.A.map Aq⟩
def E6 (N:ol)(a:AE):Lit:=⟨a.nt,Eg N a⟩
def Ce (N:ol)(x:AB):E3:=⟨Eg N x.h,x.A.map (E6 N)⟩
theorem Jr (ts):Ad (ts.map Aq)=A0 ts:=by rw[Ad,A0];rw[JG];rfl
def tF {N}:∀{l:oq} {b:oh},r (PL N) l b->r Sq (l.map (E6 N)) b
 |[],b,h=>h
 |a::l,b,h=>by obtain⟨f,e,⟨-,c,rfl⟩,d,rfl⟩:=h;exact⟨_,e,⟨c,by simp[E6,Eg,Jr]⟩,tF d,rfl⟩
def jw {N x c}(h:PI N x c):pK (Ce N x) c:=by obtain⟨e,d,id,b,a,rfl⟩:=h;exact⟨x.o,d,id,b,by simp[Ce,Eg,Jr],tF a⟩
def BS (R:List E3)(F:List Dx):Gb:=λk t=>∀D:Gb,KG R D->(∀a∈F,D a.p.toNat (C4 a))->D k t
def BS.cl (R F):KG R (BS R F):=λf c b h D a e=>a f c b (λl d=>h l d D a e)
def BS.fact {R F a}(h:a∈F):BS R F a.p.toNat (C4 a):=λD _ b=>b a h
def i7 {np ar R}(h:∀b∈R,RW np ar b)(a:∀b∈R,∀l∈b.A,l.neg=false):KG R (Sh ar):=(iE (N:=Sh ar) a).1 (gy h)
def aD (R:List E3)(F:List Dx)(k:Nat)(h:Ck)(b:Bool):Prop:=
 ∃M:MM,(∀x∈M,x.2.Nodup)/\(∀j t,MD M j t->BS R F j t)/\(if tot M<=200 then (∀j t,BS R F j t->MD M j t)/\(b=true↔MD M k h)else b=false)
def BG.nodup {D M M' d j}(h:BG D M M' d j)(o:∀x∈M,x.2.Nodup):∀x∈M',x.2.Nodup:=λx i=>by
 let⟨k,f⟩:=CL i;let⟨q,e,p,n⟩:=h.ext k;rw[Cp f]at e;have g:=h.len▸(BA.1 f).1
 have c:=AK g;rw[Cp c]at e;rw[e,IP];refine⟨o _ (AR g),p,λa m b l e2=>?_⟩;have:=(n b l).2;rw[Cp c]at this;exact this (e2 ▸ m)
def YT {R F np M M' g k h b}(i:GY np F M)(o:∀a∈F,∃k:Nat,a.p=(k:Int))(e:BG (BS R F) M M' 0 g)(n:¬(200-tot M)<g->KG R (MD M'))(c:if g<=200-tot M then (b=true↔MD M' k h)else b=false):aD R F k h b:=by refine⟨M',e.nodup i.nd,λj t f=>?_,?_⟩;refine e.inD (λj t f=>?_) j t f;let⟨a,d,u,e2⟩:=(i.mem j t).1 f;have:=BS.fact (R:=R) d;rw[u,DK]at this;exact e2▸this;have s:=e.cnt;by_cases l:tot M'<=200;rw[if_pos l];rw[if_pos L]at c;refine⟨λj t p=>p (MD M') (n L) (λa d=>?_),c⟩;let⟨q,m⟩:=o a d;apply e.sub;rw[m,DK];exact (i.mem q _).2 ⟨a,d,m,rfl⟩;rw[if_neg l];rw[if_neg L]at c;exact c
def W.km2 {σ0 z c f d M M'}(a:W σ0 z)(h:KM f d M M' z c)(m:σ0.B<=f)(n:σ0.B<=d)(l:∀x∈M,x.1=1\/σ0.D+2<=x.1):W σ0 c:=
 ⟨BI a.B h.B,λo b=>(h.C o (BZ b a.B) L L).trans (a.C o b),λo b=>(h.ver o (BZ b a.B) L L).trans (a.ver o b),BI a.D h.D,λk g=>(h.top k (BZ g a.D) (λx i e=>gp)).trans (a.top k g)⟩
def qA:∀M:MM,0<=tot M
 |[]=>Int.le_refl _
 |y::M=>by rw[Ey];have:=qA M;omega
def uM:∀(M:MM) (k:Nat) (x:Nat×List Ck),M[k]?=some x->(Z x.2:Int)<=tot M
 |[],k,x,h=>gp
 |y::M,k,x,h=>by
  rw[Ey];have a:=qA M;cases k with
  |zero=>simp at h;subst h;omega
  |succ k=>have:=uM M k x (nn h);omega
def Ed (N:ol)(x:AB):E3:=MZ (Z N:Int) (Ce N x)
def Fy (N:ol)(x:AB):List Dx:=(Ed N x).A.map λl=>Fx l.a
structure OJ (N:ol)(l:n0)(ar:Nat->Nat):Prop where
 b5:∀y∈l,Z y.A<=5
 rw':∀y∈l,y.o=false->RW (2*Z N) ar (Ed N y)
 sm:∀y∈l,y.o=false->NP (Ed N y).h.ts/\∀k∈(Ed N y).A,NP k.a.ts
 sh:∀y∈l,y.o=false->∀a∈Fy N y,Sh ar a.p.toNat (C4 a)
def f9 (N:ol)(p):N.idxOf p<=Z N:=idxOf_le_length
def aV (N l cs)(idn I n:Nat)(ar x)(hB:Bk N l cs)(P:OJ N l ar)(hx:l[n]?=some x)(v:x.o=false)(z):
  ni 102 [Cq N idn l I cs,Y n] z λm z'=>∃b,m=my b/\aD ((oth l n (Z l)).map (Ed N)) (Fy N x) (Ed N x).h.p.toNat (C4 (Fx (Ed N x).h)) b/\W z z':=by
 have ea:=r.length Ew hB.el;have dl:=hB.len;have ee:=hB.nm;have hE:=hB.el;have d5:=(BA.1 hx).1;have ax:=AY hx;obtain⟨G,ih,id,b,rr,hb,hd⟩:=Ih hE hx;have ca:∀y c,y∈l->PI N y c->∀z,ni 155 [ag c,Y (Z N)] z λm z'=>(∃a2,m=ag a2/\pK (Ed N y) a2)/\W z z':=λy c D hc z=>
  Y7 (Ce N y) c (Z N) (jw hc) (by simp only[Ce,BV];have:=P.b5 y D;omega) (λk f=>by
   obtain⟨a,-,rfl⟩:=AN.1 f;have:=f9 N a.B;simp only[E6,Eg]
   omega) L L z
 have bw:=λz=>ca x _ ax (PI.of (ih:=ih) (id:=id) G hb) z;simp only[v]at bw;have S:=P.rw' x ax v;have cj:Z (Ed N x).A=Z x.A:=by simp[Ed,MZ,Ce]
 have eb:=P.b5 x ax;have b9:=λc (hc:pK (Ed N x) c) z=>Tr (Ed N x) c hc L (λk f=>⟨S.rok.ba k f,(P.sm x ax v).2 k f⟩) z;have bm:Z (Fy N x)=Z (Ed N x).A:=by simp[Fy]
 have bn:∀a∈Fy N x,Z a.ts<=3/\∃k:Nat,a.p=(k:Int)/\k<2*Z N:=λa u=>by
  obtain⟨k,f,rfl⟩:=AN.1 u;exact⟨by simp only[Fx,BV];exact S.rok.ba k f,S.rok.bp k f⟩
 have a5:=λba b5 (hF:r O9 (Fy N x) ba) z=>Y1 (2*Z N) (Fy N x) ba b5 200 hF L L bn z;rw[bm]at a5;have dk:(2:Int)*(Z N:Int)=((2*Z N:Nat):Int):=L;have d6:(n:Int)<(Z l:Int):=L;generalize ck:Ed N x=d at bw b9 a5 cj bm bn S;generalize cx:Fy N x=T at a5 bm bn;have c6:V _:=ck;have da:V _:=cx;have dp:Z d.A<=5:=L;have ei:Z T<=5:=L;clear ck cx cj bm;unfold Cq;refine wl func102 ?_
 repeat' first|refine Z1 ?_|refine Z8 λyb ya=>?_|refine Z4 ?_;clear ya yb|refine Z2 ?_ ?_<;>intro h ac<;>try exact Xp|refine Z6 ?_;intro idn zn ak au ae ab ad aa|(refine Z5 ?_;first|(refine Xi (bw _) ?_;rintro _ _ ⟨⟨_,rfl,bh⟩,bu⟩;(have bg:=bh;obtain⟨ro,p,ap,az,rfl,ec⟩:=bh;have be:=b9 _ bg;have b3:=bu.B;simp only[Aa]at b3))|(refine Xi (be _) ?_;rintro _ _ ⟨⟨b5,fc,rfl,cz⟩,t⟩;(have bf:r O9 T fc:=(by rw[<-da.o];unfold Fy;rw[c6.o];exact cz);have a4:=a5 fc b5 bf;have b2:=t.B;simp only[Ac,Aa]at b2))|(refine Xi (a4 _) ?_;rintro _ _ ⟨A,M,rfl,br,bc,d4,b4,a6⟩;(have df:=bc.B)))|refine Z3 ?_|exact Zt|apply ya.o;clear ya yb
 rename_i U z2 g;let⟨F,a0⟩:∃c2,c2=((g.new [H,Y 0,Y 0]).put g.B [fx A 0 (2*Z N),Y 0,Y 200]):=⟨_,rfl⟩;rw[<-a0];have ct:W z U:=((W.refl z).new _).trans bu;have b8:W z z2:=((ct.new _).put L _).trans t;have cr:W z g:=b8.trans bc;have af:W g F:=by rw[a0];exact ((W.refl g).new _).put (AU _) _
 have cv:W z F:=cr.trans af;have n4:F.B=g.B+1:=by rw[a0];rfl
 have a7:=br.len;have cc:F.C U.B=[my ro,Y d.h.p,X1 p d.h.ts,sl ap (Z d.A) az]:=by rw[af.C _ L,bc.C _ L,t.C _ BJ,Ak]
 have bl:F.C z.B=[lw idn N,sl I (Z l) cs]:=by rw[af.C _ L,bc.C _ L,t.C _ BJ,Aj L,Ah L,bu.C _ AM,Ao]
 have di:=b4.lt;have a8:BL F g.B A M 0 200:=(b4.keep af).mob (by rw[a0,Ak,a7]) L L;have dr:∀y∈M,y.1=1\/z.D+2<=y.1:=λy D=>by have:=b8.D;rcases a6 y D with h|h<;>omega
 have d3:=qA M;have d2:tot M<=5:=ny br.tot
 have c5:=Sc g.B A M 0 200 F a8;have bo:=λ(id:Nat) z=>Nv (H1 M) id (by rw[Jt];omega) (λn hn=>ny (Sf a8 n hn)) z;rw[show (H1 M).sum=tot M from rfl]at bo;unfold X2 at bo;rw[Jt,a7]at bo;have a3:=a8.ob;have c8:V _:=br;have c9:V _:=a8;clear a0 bu t bc ct b8 cr b4 a6 br a8 cz bf a4 a5 b9 be bw bg;refine A2 (Q:=λbj s' am=>bj= .normal/\s' 1=Y n/\s' 2=ptr z.B 0/\s' 5=Y (Z N)/\s' 6=ptr U.B 0/\s' 7=ptr g.B 0/\W z am/\g.B<am.B/\am.C z.B=[lw idn N,sl I (Z l) cs]/\am.C U.B=[my ro,Y d.h.p,X1 p d.h.ts,sl ap (Z d.A) az]/\BL am g.B A M 0 (200-tot M)) ?_ ?_
 ·refine bT [6] [0,1] 5 (nv 7 3) ?_;refine Ai (i:=2) AH ?_;refine Am ?_;intro yb ya;refine Z3 ?_;refine AF.mono c5 ?_;rintro _ z5 ⟨⟨c3,rfl⟩,a9⟩;refine ux ?_;refine tn 3 (bo _) ?_;rintro yb ya _ z6 ⟨rfl,dv⟩;have E:=a9.trans dv;have b1:=E.B;have d0:z6.C g.B=[fx A 0 (Z M),Y 0,Y 200]:=by rw[E.C _ L,a3]
  refine ux ?_;refine rl 4 ?_;refine rl 5 ?_;refine rl 6 ?_;refine Aw AH ⟨rfl,by simp[upd,AL],AG,AG,AG,AG,(cv.trans E).put L _,by simp only[Ac];omega,?_,?_,?_⟩
  ·rw[Aj L,E.C _ L,bl]
  ·rw[Aj L,E.C _ L,cc]
  have G:=(c9.o.keep E).mpt;exact KJ.mob ⟨by rw[Aj L];exact G.oc,G.lt,G.live,G.inj,G.t3,G.ln,G.pl⟩ (by rw[Ak,a7]) (by simp only[Ac];omega) L
 rintro bj s z5 ⟨rfl,g1,g2,g5,g6,g7,a9,d7,cl,b0,cn⟩;clear c5 bo a3 c9 cv af cc bl n4;have de:=a9.B;have dy:V _:=cn;clear cn;refine X ?_
 refine Ae (λbk s z'=>∃(q i8:Nat) (e:n0) (B:oh),bk=Z l-q/\q<=Z l/\s 1=Y n/\s 5=Y (Z N)/\s 6=ptr U.B 0/\s 7=ptr g.B 0/\s 8=sl i8 (Z e) B/\s 34=sl I (Z l) cs/\s 35=Y (Z l)/\s 36=Y q/\W z5 z'/\J z5 z' i8 (Z e)/\Z B=Z e*4/\Z e<=q/\V (e=oth l n q/\r pK (e.map (Ed N)) B)) (Z l)
  ⟨0,1,[],[],L,L,AI,AI,AI,AI,AG,AG,AG,AG,W.refl _,J.nil _ _,rfl,nk,by simp[oth],rfl⟩ ?_
 clear g1 g2 g5 g6 g7;rintro bk s z6 ⟨q,i8,e,B,rfl,hq,h1,h5,h6,h7,h8,em,ek,ej,C,hO,d1,eg,K⟩;have dd:=C.B;by_cases cg:q<Z l
 ·obtain⟨y,ah⟩:=gq cg;obtain⟨cf,jh,jd,jb,r2,ch,dm⟩:=Ih hE ah;have cd:=(AY ah);have a1:V _:=mR (n:=n) ah;have bv:=λz=>ca y _ cd (PI.of (ih:=jh) (id:=jd) cf ch) z;clear ah;by_cases ay:q=n
  ·have dj:((q:Int) !=(n:Int))=false:=ns ay
   have HN:V (e=oth l n (q+1)/\r pK (e.map (Ed N)) B):=⟨by rw[a1.o,if_pos (.inl ay),EJ];exact K.o.1,K.o.2⟩;clear ay a1 bv;refine X ?_;exact⟨Z l-(q+1),L,q+1,i8,e,B,oj⟩
  have dj:((q:Int) !=(n:Int)):=by simp;omega
  cases an:y.o
  ·simp only[an]at bv;have HN:V (∀a2,pK (Ed N y) a2->e++[y]=oth l n (q+1)/\r pK ((e++[y]).map (Ed N)) (B++a2)):=λa2 dn=>⟨by rw[a1.o,if_neg (by simp[ay,an]),K.o.1],by rw[EU];exact r.append K.o.2 (r.single dn)⟩;clear ay a1;refine m0 ?_;intro yb ya;refine Xi (bv _) ?_;rintro _ _ ⟨⟨_,rfl,bh⟩,t⟩;(have dx:V _:=HN.o _ bh;obtain⟨c1,bx,bt,bp,rfl,-⟩:=bh;have eh:=((C.new _).put C.B _).trans t;have ed:=J.keep (J.put (J.new hO _) _ _) t);refine m4 ?_;intro idn zn ak au ae ab ad aa;refine X ?_;refine⟨Z l-(q+1),L,q+1,idn,e++[y],B++[my c1,Y (Ed N y).h.p,sl bx (Z (Ed N y).h.ts) (Ad (Ed N y).h.ts),sl bt (Z (Ed N y).A) bp],?_⟩
   ((repeat' refine Zi ?_ ?_)<;>first|exact Xq|exact dx|exact (by rw[AX];exact ak)|exact Xs)
  have HN:V (e=oth l n (q+1)/\r pK (e.map (Ed N)) B):=⟨by rw[a1.o,if_pos (.inr an),EJ];exact K.o.1,K.o.2⟩;clear ay a1 bv;refine X ?_;refine⟨Z l-(q+1),L,q+1,i8,e,B,?_⟩
  ((repeat' refine Zi ?_ ?_)<;>first|exact Xq|exact HN|exact ((C.new _).put C.B _)|exact (J.put (J.new hO _) _ _)|exact Xs)
 obtain rfl:q=Z l:=L;let⟨b7,cp⟩:=K.o;have ao:∀m∈e.map (Ed N),RW (2*Z N) ar m:=λm hr=>by
  obtain⟨y,D,rfl⟩:=AN.1 hr;rw[b7]at D;exact P.rw' y (E8 D).1 (E8 D).2
 have ai:∀m∈e.map (Ed N),∀k∈m.A,k.neg=false:=λm hr k f=>by
  obtain⟨y,D,rfl⟩:=AN.1 hr;obtain⟨k0,-,rfl⟩:=AN.1 f;unfold Fz;split
  ·rfl
  rename_i h;simpa using h
 have bd:LN (2*Z N) ar (e.map (Ed N)) (BS (e.map (Ed N)) T):=⟨ao,(iE ai).2 (BS.cl _ _),λk aj h=>h (Sh ar) (i7 ao ai) (λa u=>P.sh x ax v a (by rw[da.o];exact u))⟩;have cm:∀k aj,MD M k aj->BS (e.map (Ed N)) T k aj:=λk aj f=>by
  let⟨a,u,e1,e2⟩:=(c8.o.mem k aj).1 f;have:=BS.fact (R:=e.map (Ed N)) u;rw[e1,DK]at this;rw[e2];exact this
 have dq:Room M 0 (200-tot M):=λy D=>by
  let⟨k,f⟩:=CL D;have:=uM M k y f;omega
 have cy:=λz (h:BL z g.B A M 0 (200-tot M))=>Sa bd g.B A (200-tot M) L L M 0 a7 cm (λm hr k f hn=>by rw[ai m hr k f]at hn;cases hn) dq L L B i8 cp (by rw[BV];omega) z h;rw[BV]at cy;have ds:BL z6 g.B A M 0 (200-tot M):=dy.o.keep C;have bz:z6.C U.B=[my ro,Y d.h.p,X1 p d.h.ts,sl ap (Z d.A) az]:=by rw[C.C _ L,b0]
 have dt:=a9.trans C;have dz:V _:=b7;have c7:V (∀(o:MM) (j:Int) (bb:Bool),BG (BS (e.map (Ed N)) T) M o 0 j->(¬(200-tot M)<j->KG (e.map (Ed N)) (MD o))->(if j<=200-tot M then (bb↔MD o d.h.p.toNat (C4 (Fx d.h)))else bb=false)->aD ((oth l n (Z l)).map (Ed N)) T d.h.p.toNat (C4 (Fx d.h)) bb):=λo j bb h1 h2 h3=>by
  rw[<-dz.o];exact YT c8.o (λa u=>⟨_,(bn a u).2.choose_spec.1⟩) h1 h2 h3
 have dw:=λz=>R9 d.h.p p d.h.ts (ny S.rok.hd) (by have:=(P.sm x ax v).1;rw[c6.o]at this;exact this) z;clear b7 cp bd cm K ca ao;refine m0 ?_;intro yb ya;refine Xi (cy _ ds) ?_;rintro _ _ ⟨o,j,b6,av,cw,d9,-,ci⟩;have cb:V _:=cw;have db:V _:=λh=>(iE ai).1 (ci h);clear cw ci;refine nh ?_;intro yb ya;rename_i z7;have b1:=av.B;have dc:z7.C U.B=[my ro,Y d.h.p,X1 p d.h.ts,sl ap (Z d.A) az]:=by rw[av.C _ L L L,bz]
 have cq:W z z7:=W.km2 dt av L L dr;have bq:=Qm g.B A o j (200-tot M);by_cases ce:200-tot M<j
 ·rw[show decide (200-tot M<j)=true by simpa using ce]at bq;have HR:V _:=c7.o o j false cb.o db.o (by rw[if_neg L])
  refine mz ?_;refine Xi (bq _ b6) ?_;rintro _ _ ⟨rfl,rfl⟩;refine X ?_
  exact⟨_,rfl,false,rfl,HR.o⟩
 rw[show decide (200-tot M<j)=false by simpa using ce]at bq;let⟨k,f,d8⟩:=S.rok.hp;have ef:Z o=2*Z N:=by rw[cb.o.len];exact a7
 have bi:=AK (l:=o) (i:=k) L;generalize o[k]'L=x' at bi;have aw:=λid z (h:BL z g.B A o j (200-tot M))=>Jq g.B A o j (200-tot M) (Fx d.h) id k x' (by simp only[Fx,BV];exact S.rok.hd) f bi z h
 have HR:V (aD ((oth l n (Z l)).map (Ed N)) T d.h.p.toNat (C4 (Fx d.h)) (decide (C4 (Fx d.h)∈x'.2))):=c7.o o j _ cb.o db.o (by
  rw[if_pos L,f,DK];unfold MD;rw[Cp bi]
  simp)
 generalize decide (C4 (Fx d.h)∈x'.2)=bb at aw HR;simp only[Fx,X1,BV]at aw;clear bi f
 (repeat (refine mz ?_;(first|(refine Xi (bq _ b6) ?_;rintro _ _ ⟨rfl,rfl⟩)|(refine Xi (dw _) ?_;rintro _ _ ⟨⟨c4,rfl⟩,cu⟩)|(refine Xi (aw _ _ (b6.keep cu)) ?_;rintro _ _ ⟨rfl,du⟩))));refine X ?_
 exact⟨_,rfl,_,rfl,HR.o,(cq.trans cu).trans du⟩
def gE {α:Type}:∀{l m:List α},l.Nodup->(∀a∈l,a∈m)->Z l<=Z m
 |[],m,_,_=>nk
 |a::l,m,h,e=>by
  obtain⟨s,t,rfl⟩:=append_of_mem (e a nk);have f:=nodup_cons.1 h
  have:=gE (l:=l) (m:=s++t) f.2 (λb d=>gp);grind
def Oq {α j:Type}{f:α->j}:∀{l:List α},l.Nodup->(∀a∈l,∀b∈l,f a=f b->a=b)->(l.map f).Nodup
 |[],_,_=>GN
 |a::l,h,i=>by have g:=nodup_cons.1 h;rw[CC,nodup_cons];refine⟨λm=>?_,Oq g.2 λb d c k=>i b (ns d) c (ns k)⟩;grind
def Lf:Nat->MM->List (Nat×Ck)
 |_,[]=>[]
 |k,x::M=>x.2.map (λt=>(k,t))++Lf (k+1) M
theorem O0:∀(M:MM) (k:Nat),(Z (Lf k M):Int)=tot M
 |[],k=>rfl
 |x::M,k=>by simp_all[Lf,Ey,O0]
theorem Le:∀(M:MM) (k j:Nat) (t:Ck),(j,t)∈Lf k M↔k<=j/\MD M (j-k) t
 |[],k,j,t=>by simp[Lf,MD,Ba]
 |x::M,k,j,t=>by rw[Lf,AW,Le M (k+1) j t];unfold MD Ba;grind
def Ug:∀(M:MM) (k:Nat),(∀x∈M,x.2.Nodup)->(Lf k M).Nodup
 |[],k,_=>GN
 |x::M,k,h=>by rw[Lf,IP];refine⟨Oq (h x nk) (λa _ b _ e=>gp),Ug M (k+1) (λy f=>h y (ns f)),λa d b c e=>?_⟩;obtain⟨t,-,rfl⟩:=AN.1 d;let⟨j,u⟩:=b;cases e;have:=((Le M (k+1) k t).1 c).1;omega
def PX {M}{α:Type}{A}{e:α->Nat×Ck}(y:∀x∈M,x.2.Nodup)(h:∀k t,MD M k t->∃a∈A,e a=(k,t)):tot M<=Z A:=by
 have b:∀p∈Lf 0 M,∃a∈A,e a=p:=λp c=>by grind[Le]
 have d:∃g:Nat×Ck->Option α,∀p∈Lf 0 M,∃a∈A,g p=some a/\e a=p:=by refine⟨λp=>Classical.epsilon λo=>∃a∈A,o=some a/\e a=p,λp c=>?_⟩;let⟨a,i,u⟩:=b p c;have:=Classical.epsilon_spec (p:=λo=>∃a∈A,o=some a/\e a=p) ⟨some a,a,i,rfl,u⟩;exact this
 let⟨g,d⟩:=d
 have f:((Lf 0 M).map g).Nodup:=Oq (Ug M 0 y) (λp c q n l=>gp)
 have j:=gE (m:=A.map some) f (λo s=>gp)
 rw[BV,BV]at j;rw[<-O0 M 0];omega
def f7 {M}{P:List (Nat×Ck)}(b:P.Nodup)(h:∀p∈P,MD M p.1 p.2):(Z P:Int)<=tot M:=by
 have:=gE (m:=Lf 0 M) b (λp a=>by grind[Le])
 rw[<-O0 M 0];omega
def Sz {l m}(f:Z l=Z m)(g:Z l<=3)(h:Ej l=Ej m):l=m:=by refine FL λi=>?_;by_cases e:i<Z l;unfold Ej at h;simp only[cons.injEq,and_true]at h;let⟨d,c,e2⟩:=h;have b:=AK e;have a:=AK (l:=m) (i:=i) L;have:i=0\/i=1\/i=2:=L;obtain rfl|rfl|rfl:=this;rw[b,a]at d;rw[b,a];exact congrArg some d;rw[b,a]at c;rw[b,a];exact congrArg some c;rw[b,a]at e2;rw[b,a];exact congrArg some e2;rw[FD L,FD L]
def Eu:Tx->Int
 |[]=>0
 |b::a=>if b=35 then 1000+(Aq a).2 else (Aq (b::a)).2
theorem eT (b a):Eu (b::a)=if b=35 then 1000+(Aq a).2 else (Aq (b::a)).2:=rfl
def H0 (v):Eu (35::v)=1000+(Aq v).2:=by simp_all[eT]
def GT (t:Tx):Prop:=(Ab t=false/\VT t/\DT t)\/∃v,t=35::v/\Ab v/\VT v
theorem QB {v}(h:VT v)(d:Ab v):∃b,v=[b]/\Bs b.toNat:=by
 obtain h|⟨e,f⟩:=h;exact h;exfalso;cases v with
 |nil=>exact e rfl
 |cons b g=>
  have c:=f b nk;have a:Bs b.toNat:=d;rw[A6]at c;rw[Bs]at a;simp at c a;omega
def QC {v}(h:VT v)(a:Ab v=false):v≠[]/\∀b∈v,A6 b.toNat:=by obtain⟨b,rfl,h⟩|h:=h;have:Ab [b]=Bs b.toNat:=rfl;rw[this,h]at a;cases a;exact h
def Hg {t}(h:VT t)(a:Ab t=false):Eu t=(Aq t).2:=by
 let⟨d,c⟩:=QC h a;cases t with
 |nil=>cases d rfl
 |cons b e=>
  rw[eT,if_neg];rintro rfl;have:=c 35 nk;revert this;decide
def O1 {v}(h:VT v)(c:Ab v):0<=(Aq v).2/\(Aq v).2<26:=by grind[QB,Et,Bs]
def Qn {t}(h:DT t)(a:Ab t=false):Lib.itoa (Aq t).2=t/\0<=(Aq t).2/\(Aq t).2<=999:=by obtain h|⟨-,h⟩:=h;rw[h]at a;cases a;exact h
def WU {t}(h:GT t):∃n:Nat,Eu t=(n:Int)/\n<1026:=by obtain⟨a,b,c⟩|⟨v,rfl,a,b⟩:=h;rw[Hg b a];obtain⟨-,d,e2⟩:=Qn c a;exact⟨(Aq t).2.toNat,L,L⟩;let⟨d,e2⟩:=O1 b a;refine⟨(1000+(Aq v).2).toNat,?_,L⟩;rw[H0];omega
def Y3 {t u}(i:GT t)(g:GT u)(h:Eu t=Eu u):t=u:=by obtain⟨c,d,f⟩|⟨v,rfl,c,d⟩:=i;obtain⟨a,b,e⟩|⟨w,rfl,a,b⟩:=g;rw[Hg d c,Hg b a]at h;rw[<-(Qn f c).1,<-(Qn e a).1,h];exfalso;rw[Hg d c]at h;have:=(Qn f c).2.2;have:=(O1 b a).1;rw[H0]at h;omega;obtain⟨a,b,e⟩|⟨w,rfl,a,b⟩:=g;exfalso;rw[Hg b a]at h;have:=(Qn e a).2.2;have:=(O1 d c).1;rw[H0]at h;omega;rw[H0,H0]at h;rw[vQ d b c a L]
def WV {t}(h:VT t):Eu (Hn t)=(aZ (Aq t)).2:=by
 rw[Hn,aZ];rw[Cb];cases a:Ab t
 ·rw[if_neg nk,if_neg nk];exact Hg h a
 rw[if_pos rfl,if_pos rfl,H0]
def gb {t}(h:VT t)(b:DT t):GT (Hn t):=by
 rw[Hn];cases a:Ab t
 ·rw[if_neg nk];exact .inl ⟨a,h,b⟩
 rw[if_pos rfl];exact .inr ⟨t,rfl,a,h⟩
def K0 (N:ol)(a:AE):Nat:=N.idxOf a.B+(if a.nt=true then Z N else 0)
def eA (N:ol)(a:AE):Nat×Ck:=(K0 N a,Ej (a.A.map Eu))
structure ML (N:ol)(ar:Tx->Nat)(a:AE):Prop where
 mem:a.B∈N
 len:Z a.A=ar a.B
 le3:Z a.A<=3
structure GA (N:ol)(ar:Tx->Nat)(a:AE):Prop extends ML N ar a where
 gt:∀t∈a.A,GT t
def Xz {N a b}(f:a.B∈N)(e:b.B∈N)(h:K0 N a=K0 N b):a.nt=b.nt/\a.B=b.B:=by
 have i:=CS f;have g:=CS e;unfold K0 at h;have c:a.nt=b.nt:=gp
 rw[c]at h;have j:N.idxOf a.B=N.idxOf b.B:=L;refine⟨c,?_⟩;have d:=FN i;grind
def Lz {α d:Type}{f:α->d}:∀{l m:List α},(∀a∈l,∀b∈m,f a=f b->a=b)->l.map f=m.map f->l=m
 |[],[],_,_=>rfl
 |[],b::m,_,h=>gp
 |a::l,[],_,h=>gp
 |a::l,b::m,c,h=>by simp only[CC,cons.injEq]at h;rw[c a nk b nk h.1,Lz (λx e y g=>c x (ns e) y (ns g)) h.2]
def gZ {N ar a b}(c:GA N ar a)(d:GA N ar b)(h:eA N a=eA N b):a=b:=by
 unfold eA at h;simp only[Prod.mk.injEq]at h;let⟨k,f⟩:=Xz c.mem d.mem h.1;have g:Z a.A=Z b.A:=by rw[c.len,d.len,f]
 have l:=Sz (nn g) (nn c.le3) h.2;exact AE.ext' k f (Lz (λx i y j e=>Y3 (c.gt x i) (d.gt y j) e) l)
structure KP (N:ol)(ar:Tx->Nat)(y:AB):Prop where
 h:ML N ar y.h
 hnt:y.h.nt=false
 A:∀b∈y.A,ML N ar b
 vt:∀t∈y.h.A,VT t/\DT t
 vb:∀b∈y.A,∀t∈b.A,VT t/\DT t
 safe:∀v∈y.h.A,Ab v->∃b∈y.A,v∈b.A
def WN (N y):(Ed N y).h=Eg N y.h:=rfl
theorem Fq (N y):(Ed N y).A=y.A.map λb=>Fz (Z N) (E6 N b):=by simp[Ed,MZ,Ce]
def aA (N b):(Fz (Z N:Int) (E6 N b)).a.p=(K0 N b:Nat):=by grind[Fz,E6,Eg,K0]
def Md (N b):(Fz (Z N:Int) (E6 N b)).a.ts=b.A.map Aq:=by grind[Fz,E6,Eg]
def TQ (v:Int):UInt8:=UInt8.ofNat (65+v.toNat)
def MY (μ:Tx->Tx):Nu:=λv=>Eu (μ [TQ v])
def VY {μ v}(h:VT v)(c:Ab v):MY μ (Aq v).2=Eu (μ v):=by
 obtain⟨b,rfl,a⟩:=QB h c;rw[MY,TQ];rw[Et a];have d:65<=b.toNat:=by grind[Bs]
 have e:(65+((b.toNat:Int)-65).toNat)=b.toNat:=L;simp only[e,UInt8.ofNat_toNat]
def gm {μ t}(h:VT t):Ei (MY μ) (Aq t)=Eu (Ij μ t):=by
 rw[Ei];rw[Cb];cases a:Ab t
 ·rw[if_neg nk,Cm a,Hg h a]
 rw[if_pos rfl,C1 a,VY h a]
def QQ {μ}{a:ol}{p}(h:∀t∈a,VT t):B8 ⟨p,a.map Aq⟩ (MY μ)=Ej ((a.map (Ij μ)).map Eu):=by rw[B8];simp only[BH];congr 1;exact CG λt b=>gm (h t b)
def Vh {a ν}:B8 a ν=B8 ⟨0,a.ts⟩ ν:=rfl
structure N8 (N:ol)(ar:Tx->Nat)(Rd:n0)(x:AB):Prop where
 ru:∀y∈Rd,KP N ar y
 x:KP N ar x
def gQ {N ar b}(h:ML N ar b)(c:∀t∈b.A,VT t/\DT t):GA N ar (Cw b):=
 ⟨⟨h.mem,by show Z (b.A.map Hn)=_;rw[BV];exact h.len,by show Z (b.A.map Hn)<=3;rw[BV];exact h.le3⟩,λt d=>by
  obtain⟨u,a,rfl⟩:=AN.1 d
  exact gb (c u a).1 (c u a).2⟩
def Ts {N b}(a:∀t∈b.A,VT t):eA N (Cw b)=((Fz (Z N:Int) (E6 N b)).a.p.toNat,C4 (Fx (Fz (Z N:Int) (E6 N b)).a)):=by rw[eA];rw[aA,DK];refine GB rfl ?_;show Ej ((b.A.map Hn).map Eu)=Ej (((Fz (Z N:Int) (E6 N b)).a.ts.map aZ).map (·.2));rw[Md,BH,BH,BH];congr 1;exact CG λt c=>WV (a t c)
def qI {N ar Rd x}(h:N8 N ar Rd x):NN true Rd (x.A.map Cw) (λa=>GA N ar a/\BS (Rd.map (Ed N)) (Fy N x) (eA N a).1 (eA N a).2):=by
 refine⟨λa p=>?_,λC z B y n D E=>?_⟩;obtain⟨b,d,rfl⟩:=AN.1 p;refine⟨gQ (h.x.A b d) (h.x.vb b d),?_⟩;rw[Ts λt e=>(h.x.vb b d t e).1];have A:Fx (Fz (Z N:Int) (E6 N b)).a∈Fy N x:=by
  rw[Fy];rw[Fq,BH];grind
 exact BS.fact A;obtain⟨f,s,-,rfl⟩:=E;have c:=h.ru y n;have d:∀b∈y.A,GA N ar (G3 f b)/\BS (Rd.map (Ed N)) (Fy N x) (eA N (G3 f b)).1 (eA N (G3 f b)).2:=λb d=>z _ (s b d rfl);refine⟨⟨⟨c.h.mem,by show Z (y.h.A.map _)=_;rw[BV];exact c.h.len,by show Z (y.h.A.map _)<=3;rw[BV];exact c.h.le3⟩,λt e=>?_⟩,?_⟩;obtain⟨u,j,rfl⟩:=AN.1 e;cases k:Ab u with
 |false=>rw[Cm k];exact .inl ⟨k,(c.vt u j).1,(c.vt u j).2⟩
 |true=>
  let⟨b,i,v⟩:=c.safe u j k;exact (d b i).1.gt _ (AN.2 ⟨u,v,rfl⟩)
 have g:=BS.cl (Rd.map (Ed N)) (Fy N x) (Ed N y) (AN.2 ⟨y,n,rfl⟩) (MY f) (λl m=>by
  rw[Fq]at m;obtain⟨b,i,rfl⟩:=AN.1 m;have q:=(d b i).2;rw[aA,DK,Vh,Md,QQ λt e=>(c.vb b i t e).1]
  exact q)
 rw[WN,Vh]at g;have o:(Eg N y.h).ts=y.h.A.map Aq:=rfl;rw[o,QQ λt e=>(c.vt t e).1]at g;have e2:(Eg N y.h).p.toNat=(eA N (G3 f y.h)).1:=by show (((N.idxOf y.h.B:Nat):Int)).toNat=K0 N (G3 f y.h);rw[K0];have:(G3 f y.h).nt=false:=c.hnt;rw[this,DK];rfl
 exact e2▸g
def lf {N ar Rd x A}(h:N8 N ar Rd x)(p:∀a∈A,GA N ar a)(R:∀y∈Rd,CM true A [] y):KG (Rd.map (Ed N)) (λk t=>∃a∈A,eA N a=(k,t)):=by
 intro a7 T g a1;obtain⟨y,q,rfl⟩:=AN.1 T;have o:=h.ru y q;have E:∀b∈y.A,∃a∈A,a.nt=b.nt/\a.B=b.B/\a.A.map Eu=b.A.map λt=>Ei g (Aq t):=λb d=>by
  let⟨a,m,e⟩:=a1 (Fz (Z N) (E6 N b)) (by grind[Fq]);rw[aA,DK,Vh,Md]at e;rw[eA]at e;simp only[Prod.mk.injEq]at e;let⟨s,e2⟩:=e;let⟨P,D⟩:=Xz (p a m).mem (o.A b d).mem s;refine⟨a,m,P,D,?_⟩;rw[B8]at e2;simp only[BH]at e2;have:=Sz (by simp only[BV];rw[(p a m).len,(o.A b d).len,D]) (by rw[BV];exact (p a m).le3) e2;exact this
 let c:Tx->Tx:=λv=>Classical.epsilon λu=>GT u/\Eu u=g (Aq v).2;have C:∀v,(∃u,GT u/\Eu u=g (Aq v).2)->GT (c v)/\Eu (c v)=g (Aq v).2:=λv j=>Classical.epsilon_spec j;have G:∀b∈y.A,∀v∈b.A,Ab v->GT (c v)/\Eu (c v)=g (Aq v).2:=λb d v j U=>by
  obtain⟨a,m,-,-,e⟩:=E b d;let⟨i,a5⟩:=CL j;have n:(b.A.map λt=>Ei g (Aq t))[i]?=some (Ei g (Aq v)):=gp
  rw[<-e,DC]at n;cases z:a.A[i]? with
  |none=>rw[z]at n;cases n
  |some u=>
   rw[z]at n;have B:=Gf n;refine C v ⟨u,(p a m).gt u (AY z),?_⟩;rw[B];rw[Ei];rw[Cb,U,if_pos rfl]
 have I:∀t,VT t->DT t->(Ab t->GT (c t)/\Eu (c t)=g (Aq t).2)->GT (Ij c t)/\Eu (Ij c t)=Ei g (Aq t):=λt n B Q=>by
  rw[Ei];rw[Cb];cases j:Ab t
  ·rw[if_neg nk,Cm j];exact⟨.inl ⟨j,n,B⟩,Hg n j⟩
  rw[if_pos rfl,C1 j];exact Q j
 have M:∀b∈y.A,G3 c b∈A:=λb d=>by
  let⟨a,m,s,e2,a0⟩:=E b d;have:G3 c b=a:=by
   refine AE.ext' s.symm e2.symm ?_;have F:∀t∈b.A,GT (Ij c t)/\Eu (Ij c t)=Ei g (Aq t):=λt l=>I t (o.vb b d t l).1 (o.vb b d t l).2 (G b d t l);refine Lz (f:=Eu) (λu S w a2 e=>?_) ?_;obtain⟨t,l,rfl⟩:=AN.1 S;exact Y3 (F t l).1 ((p a m).gt w a2) e;show (b.A.map (Ij c)).map Eu=a.A.map Eu;rw[a0,BH];exact CG λt l=>(F t l).2
  exact this▸m
 have a6:=R y q (G3 c y.h) ⟨c,λb d _=>M b d,λb d a3=>(by cases a3),rfl⟩;have K:G3 c y.h∈A:=gp
 refine⟨G3 c y.h,K,?_⟩;rw[eA];apply GB;show K0 N (G3 c y.h)=(((N.idxOf y.h.B:Nat):Int)).toNat;rw[K0];have:(G3 c y.h).nt=false:=o.hnt;rw[this,DK];rfl;show Ej ((y.h.A.map (Ij c)).map Eu)=Ej ((y.h.A.map Aq).map (Ei g));rw[BH,BH];congr 1;refine CG λt l=>?_
 exact (I t (o.vt t l).1 (o.vt t l).2 (λj=>by
  let⟨b,d,a4⟩:=o.safe t l j;grind)).2
def zN {N ar Rd x b c}(h:N8 N ar Rd x)
  (R:(∃A,wE true Rd (x.A.map Cw) 200 A/\(c=true↔Cw x.h∈A))\/(pD true Rd (x.A.map Cw) 200/\c=false))
  (q:aD (Rd.map (Ed N)) (Fy N x) (Ed N x).h.p.toNat (C4 (Fx (Ed N x).h)) b):b=c:=by
 have y:eA N (Cw x.h)=((Ed N x).h.p.toNat,C4 (Fx (Ed N x).h)):=by
  have:=Ts (N:=N) (b:=x.h) λt f=>(h.x.vt t f).1;rw[this];have e:(Fz (Z N:Int) (E6 N x.h)).a=Eg N x.h:=by rw[Fz];rw[if_neg (by show¬x.h.nt=true;rw[h.x.hnt];simp)];rfl
  rw[e];rfl
 let⟨M,I,s,g⟩:=q;obtain⟨A,j,n⟩|⟨T,rfl⟩:=R;have m:=j.least _ (qI h);have E:=lf h (λa d=>(m a d).1) j.cl;have B:∀a∈Fy N x,∃z∈A,eA N z=(a.p.toNat,C4 a):=λa d=>by rw[Fy]at d;rw[Fq,BH]at d;obtain⟨o,Q,rfl⟩:=AN.1 d;exact⟨Cw o,j.gv _ (AN.2 ⟨o,Q,rfl⟩),Ts λt f=>(h.x.vb o Q t f).1⟩
 have u:∀k t,BS (Rd.map (Ed N)) (Fy N x) k t->∃a∈A,eA N a=(k,t):=λk t G=>G _ E B;have U:=PX I (λk t i=>u k t (s k t i));have v:=j.len;rw[if_pos L]at g;let⟨C,D⟩:=g;have:b↔c:=by rw[D,n];constructor;intro i;let⟨a,d,e⟩:=u _ _ (s _ _ i);rw[<-y]at e;exact gZ (m a d).1 (gQ h.x.h h.x.vt) e▸d;grind
 cases b<;>cases c<;>simp_all;let⟨S,F,K,l⟩:=T _ (qI h);by_cases f:tot M<=200;exfalso;rw[if_pos f]at g
 have:=f7 (M:=M) (P:=S.map (eA N)) (Oq F λa d b n e=>gZ (l a d).1 (l b n).1 e) (λp q=>gp)
 rw[BV]at this;omega;rw[if_neg f]at g;exact g
def qO {t}(h:(Av t).1=0):∀x∈Bl t,∀y∈Bl t,∀a∈Af x,∀b∈Af y,a.B=b.B->Z a.A=Z b.A:=by
 have v:∀i,i<Z (Bl t)->Gn (Bl t) i=false:=by
  rw[Av]at h;split at h;simp at h;split at h;simp at h;rw[Co]at h;split at h;simp at h;rename_i m;exact Jo m
 have d:∀(i j:Nat) (x y:AB) (a b:AE),(Bl t)[i]?=some x->(Bl t)[j]?=some y->i<j->a∈Af x->b∈Af y->a.B=b.B->Z a.A=Z b.A:=by
  intro i j x y a b e c s g f l;have o:=v j (BA.1 c).1;rw[Gn]at o;rw[c]at o;simp only[EV,mem_range]at o;let⟨k,m⟩:=CL f;have n:=o k (BA.1 m).1;rw[Mh]at n;rw[m]at n;simp only[CU,not_exists,not_and]at n
  have p:=n a (by
   rw[Ct,Ha];refine AW.2 (.inl (EX.2 ⟨x,?_,g⟩))
   exact AY (i:=i) (gp))
  rw[clash]at p;simp[l]at p;exact p
 intro x q y u a g b f l;let⟨i,e⟩:=CL q;let⟨j,c⟩:=CL u;obtain A|rfl|z:=KE i j;exact d i j x y a b e c A g f l;rw[e]at c;cases c;exact dM h x q a g b f l;exact (d j i y x b a c e z f g l.symm).symm
def aG (l:n0)(ar:Tx->Nat):Prop:=∀x∈l,∀a∈Af x,Z a.A=ar a.B
def SV {t}(h:(Av t).1=0):∃ar,aG (Bl t) ar:=by refine⟨λp=>Classical.epsilon λn=>∃x∈Bl t,∃a∈Af x,a.B=p/\Z a.A=n,λx d a c=>?_⟩;have:=Classical.epsilon_spec (p:=λn=>∃x∈Bl t,∃b∈Af x,b.B=a.B/\Z b.A=n) ⟨_,x,d,a,c,rfl,rfl⟩;let⟨y,f,b,e,g,e2⟩:=this;exact qO h x d y f a c b e g.symm▸e2
def jg {t N l cs ar}(h:CW t N l cs)(y:aG l ar){x}(k:x∈l)(j:x.o=false):KP N ar x:=by
 have s:=h.items;have q:x∈Bl t:=gp
 have e:=P4 h.ok x q;have n:=h.wi x k;have m:=e.w.2.2 j;have g:∀a,a=x.h\/a∈x.A->a∈Af x:=λa i=>by grind[Af]
 have c:=y x k;refine⟨⟨n.mem,c _ (g _ (.inl rfl)),m.1.2.2.1⟩,m.2.1,λb f=>⟨(n.wa b f).1,c _ (g _ (.inr f)),(m.2.2.2 b f).2.2.1⟩,λw d=>⟨e.va _ (g _ (.inl rfl)) w d,e.dt _ (g _ (.inl rfl)) w d⟩,λb f w d=>⟨e.va _ (g _ (.inr f)) w d,e.dt _ (g _ (.inr f)) w d⟩,λv d u=>?_⟩;obtain⟨z,p,A,-⟩:=e.rule j;obtain⟨a,i,-,o⟩:=A.saf v u (.inl d);exact⟨a,i,o⟩
def NT (N:ol)(ar:Tx->Nat)(k:Nat):Nat:=ar (N.getD (if k<Z N then k else k-Z N) [])
def sW {N ar a}(h:a.B∈N):NT N ar (K0 N a)=ar a.B:=by
 have b:=CS h;have e:N.getD (N.idxOf a.B) []=a.B:=gp
 rw[NT,K0];grind
def YM {w}(b:VT w)(a:DT w)(h:(Aq w).1=false):∃n:Nat,(Aq w).2=(n:Int)/\n<1026:=by rw[Cb]at h;obtain⟨-,c,e2⟩:=Qn a h;exact⟨(Aq w).2.toNat,L,L⟩
def yU {w}(a:VT w)(b:DT w):0<=(Aq w).2/\(Aq w).2<=999:=by
 cases h:Ab w
 ·obtain⟨-,c,e2⟩:=Qn b h;omega
 have:=O1 a h;omega
def QY {N a}(h:a.B∈N):K0 N a<2*Z N:=by have:=CS h;rw[K0];split<;>omega
def gS {a:ol}{v}(h:(true,v)∈a.map Aq):∃w∈a,Ab w/\(Aq w).2=v:=by grind[Cb]
theorem iJ (n l):(Fz n l).neg=false:=by grind[Fz]
def jf {N ar y}(h:KP N ar y)(q:Z y.A<=5):RW (2*Z N) (NT N ar) (Ed N y):=by
 have e:∀l∈(Ed N y).A,∃b∈y.A,l=Fz (Z N:Int) (E6 N b):=λl a=>by grind[Fq]
 have o:K0 N y.h=N.idxOf y.h.B:=by rw[K0];rw[h.hnt];simp
 have m:(Ed N y).h.p=((K0 N y.h:Nat):Int):=by rw[o];rfl
 have i:(Ed N y).h.ts=y.h.A.map Aq:=rfl;refine⟨⟨by rw[i,BV];exact h.h.le3,⟨_,m,QY h.h.mem⟩,by rw[Fq,BV];omega,λl a=>?_,λl a=>?_⟩,λl a j=>?_,?_,λl a=>?_,λt k n=>?_,λv c=>?_,λl a v c=>?_,λv c=>?_⟩;obtain⟨b,d,rfl⟩:=e l a;rw[Md,BV];exact (h.A b d).le3;obtain⟨b,d,rfl⟩:=e l a;exact⟨_,aA N b,QY (h.A b d).mem⟩;obtain⟨b,d,rfl⟩:=e l a;rw[iJ]at j;cases j;rw[i,BV,m,DK,sW h.h.mem];exact h.h.len;obtain⟨b,d,rfl⟩:=e l a;rw[Md,BV,aA,DK,sW (h.A b d).mem];exact (h.A b d).len;rw[i]at k;obtain⟨w,f,rfl⟩:=AN.1 k;exact YM (h.vt w f).1 (h.vt w f).2 n;rw[i]at c;obtain⟨w,f,g,rfl⟩:=gS c;exact O1 (h.vt w f).1 g;obtain⟨b,d,rfl⟩:=e l a;rw[Md]at c;obtain⟨w,f,g,rfl⟩:=gS c;exact O1 (h.vb b d w f).1 g;have c:Bm (Ed N y).h.ts v:=by grind[iJ]
 rw[AO,i]at c;obtain⟨w,f,g,rfl⟩:=gS c;let⟨b,d,p⟩:=h.safe w f g;refine⟨Fz (Z N:Int) (E6 N b),by grind[Fq],iJ _ _,?_⟩;rw[AO,Md];refine AN.2 ⟨w,p,?_⟩;rw[<-g,<-Cb]
def QS {a:ol}(h:∀t∈a,VT t/\DT t):NP (a.map Aq):=λt c=>by obtain⟨w,b,rfl⟩:=AN.1 c;have:=yU (h w b).1 (h w b).2;omega
def gO (N:ol)(l:n0)(i:Nat)(x:AB)(b:Bool):Prop:=aD ((oth l i (Z l)).map (Ed N)) (Fy N x) (Ed N x).h.p.toNat (C4 (Fx (Ed N x).h)) b
def xV (N:ol)(l:n0)(n:Nat):Prop:=∀i y,i<n->l[i]?=some y->y.o=false->C5 N l (rpl i [] l)->gO N l i y false
def OL (N:ol)(l:n0)(idn:Nat)(x:AV)(b:Bool):Prop:=
 (b=false/\xV N l (Z l))\/(b=true/\∃i y,l[i]?=some y/\y.o=false/\C5 N l (rpl i [] l)/\gO N l i y true/\xV N l i/\∃id a,x=Cq N idn (rpl i [] l) id a/\r (PI N) (rpl i [] l) a)
def GL.less {N l}(h:GL N l){i}:GL N (rpl i [] l):=by
 have b:∀y∈rpl i [] l,y∈l:=λy a=>by
  obtain h|h:=Cy a;exact h;cases h
 exact⟨BI (Rh l) h.len,h.nm,λy a=>h.msr y (b y a),λy a=>h.fits y (b y a),λy a=>h.pos y (b y a),λy a=>h.va y (b y a),λy a=>h.ar y (b y a)⟩
def Pb (N l cs idn m ar)(B:GL N l)(hI:OJ N l ar)(A:r (PI N) l cs)(I):
  ni 126 [Cq N idn l m cs] I λa0 f=>(∃x b,a0=tp [x,my b]/\OL N l idn x b/\pB x)/\W I f:=by
 have bg:=r.length Ew A;have aw:=B.len;have ba:Bk N l cs:=(B.bkm A).bk aw;have q:=λi I=>Xx N l [] cs [] idn m 1 i A rfl L nk I;have k:=λi F a2 (a8:r (PI N) (rpl i [] l) F) I=>Ib N l (rpl i [] l) cs F idn m a2 (B.bkm A) (B.less.bkm a8).bj I;simp only[CQ]at q;refine wl func126 ?_;refine X ?_
 refine wn [1,2,10,11] 12 (Z l) (λi ab f=>W I f/\I.B+1<f.B/\f.C I.B=[lw idn N,sl m (Z l) cs]/\f.C (I.B+1)=[H,H]/\V (xV N l i)) ⟨Xs,AM,by rw[Ah AM,Ao],by first|exact Ao|simp[Ao],λi a1 h=>L⟩ ?_
 rintro i ab f _ _ _ ⟨hK,bf,bd,bc,g⟩;have be:=hK.B;by_cases a6:i<Z l;obtain⟨x,e⟩:=gq a6;let⟨a5,ih,af,b,a0,a9,v⟩:=Ih A e;have n:(x.o=false->C5 N l (rpl i [] l)->gO N l i x false)->V (xV N l (i+1)):=λh j a1 hj s y P=>by obtain E|E:=FT j i;exact g.o j a1 E s y P;have:j=i:=L;subst this;rw[e]at s;cases s;exact h y P
 cases a:x.o
 ·have U:=λI=>aV N l cs idn m i ar x ba hI e a I;have q:=q i;have k:=k i;have T:V (l[i]?=some x):=e;have Q:V _:=n;have bb:V (x.o=false):=a;rw[a]at v;cases o:C5 N l (rpl i [] l)
  ·rw[o]at k;have u:=n (λ_ h=>by rw[o]at h;cases h);clear n g e o Q U
   (repeat (refine m0 ?_;intro yb ya;(first|(refine Xi (q _) ?_;rintro _ _ ⟨⟨d,C,rfl,D⟩,p⟩;(have M:=p.B;have K:=p.C;(try simp only[Ac,Aa,Az]at M K)))|(refine Xi (k C d D _) ?_;rintro _ _ ⟨⟨x7,rfl,S,⟨ad,a7,a4,ae,a3,aa,rfl⟩⟩,t⟩;(have av:=t.B;have ap:=t.C)))));refine X ?_
   skip;exact m9 u
  rw[o]at k;have R:V (C5 N l (rpl i [] l)=true):=o;clear n e o
  (repeat (refine m0 ?_;intro yb ya;(first|(apply Xi (q _);rintro _ _ ⟨⟨d,C,rfl,D⟩,p⟩;(have M:=p.B;have K:=p.C;(try simp only[Ac,Aa,Az]at M K)))|(apply Xi (k C d D _);rintro _ _ ⟨⟨x7,rfl,S,⟨ad,a7,a4,ae,a3,aa,rfl⟩⟩,t⟩;(have av:=t.B;have ap:=t.C))|(refine Xi (U _) ?_;rintro _ _ ⟨bi,rfl,c,z⟩;(have au:=z.B;have ao:=z.C;have G:V (gO N l i x bi):=c;clear c;(try simp only[Ac,Aa]at au ao))))));refine m6 ?_ ?_<;>intro h ac
  have c:=G.o;rw[h]at c;exact⟨_,rfl,⟨_,true,rfl,.inr ⟨rfl,i,x,T.o,bb.o,R.o,c,g.o,d,C,S rfl,D⟩,_,_,_,_,_,_,rfl⟩,Xs⟩;have c:=G.o;rw[h]at c;have u:=Q.o λ_ _=>c;clear c G Q T R g;skip;exact m9 u
 rw[a]at v;have u:=n (λh=>by rw[a]at h;cases h);clear n g e;refine X ?_;skip;exact m9 u
 obtain rfl:i=Z l:=L;refine X ?_;exact⟨_,rfl,⟨_,false,rfl,.inl ⟨rfl,g.o⟩,_,_,_,_,_,_,rfl⟩,Xs⟩
structure BB (N:ol)(ar:Tx->Nat)(l:n0):Prop where
 gl:GL N l
 b5:∀x∈l,Z x.A<=5
 ru:∀x∈l,x.o=false->KP N ar x
 wi:∀x∈l,WI N x
 wit:∀x∈l,Dc x
def jt {N l ar}(j:∀y∈l,Z y.A<=5)(h:∀y∈l,y.o=false->KP N ar y):OJ N l (NT N ar):=by
 refine⟨j,λy d g=>jf (h y d g) (j y d),λy d g=>?_,λy d g a i=>?_⟩;have c:=h y d g;refine⟨QS c.vt,λk n=>?_⟩;rw[Fq]at n;obtain⟨b,f,rfl⟩:=AN.1 n;rw[Md];exact QS (c.vb b f);have c:=h y d g;rw[Fy]at i;rw[Fq,BH]at i;obtain⟨b,f,rfl⟩:=AN.1 i;have e:=Ts (N:=N) (b:=b) λt p=>(c.vb b f t p).1;have m:=gQ (c.A b f) (c.vb b f);rw[eA]at e;simp only[Prod.mk.injEq]at e;have q:(Fx (Fz (Z N:Int) (E6 N b)).a).p.toNat=K0 N b:=by
  show (Fz (Z N:Int) (E6 N b)).a.p.toNat=_;rw[aA,DK]
 show Sh _ (Fx (Fz (Z N:Int) (E6 N b)).a).p.toNat (C4 (Fx (Fz (Z N:Int) (E6 N b)).a));rw[q,<-e.2];refine⟨_,rfl,?_,λz s=>?_⟩;rw[BV,sW (c.A b f).mem];exact m.len;obtain⟨u,o,rfl⟩:=AN.1 s;exact WU (m.gt u o)
def BB.bki {N ar l}(h:BB N ar l):OJ N l (NT N ar):=jt h.b5 h.ru
def j7 {t}(i:DT t)(h2:Mm t)(g:Z t<=1000)(j:VT t):UT t:=by
 refine⟨i,h2,g,λf=>?_⟩;obtain⟨b,rfl,a⟩|⟨l,m⟩:=j;simp only[Bs,BM,CV]at a;refine⟨b.toNat-65,L,?_⟩;have:=Fv (k:=((b.toNat-65:Nat):Int)) L L;have e:(Im ((b.toNat-65:Nat):Int)).toNat=b.toNat:=L;rw[UInt8.toNat_inj.1 e];cases t with
 |nil=>cases l rfl
 |cons b n=>
  have c:=m b nk;have d:Bs b.toNat:=f;simp only[Bs,A6,BM,CV]at c d;omega
def CW.rt {t N l cs}(h:CW t N l cs){ar}(v:aG l ar):BB N ar l:=by
 have j:∀x∈l,FG x:=λx c=>P4 h.ok x (h.items▸c);have p:∀y∈l,Z y.A<=5:=λy q=>(h.wi y q).A;refine⟨⟨h.bk.len,h.bk.nm,λx c=>?_,h.bk.fits,h.bk.pos,λx c=>(j x c).va,λx c a e b B=>dM h.ok x (h.items▸c) a (Ap (.inr e)) b (Ap (.inr B))⟩,p,λx c d=>jg h v c d,h.wi,h.wit⟩;have g:=h.wi x c;have k:=g.short;refine⟨g.o,ny g.A,g.mem,k.1.1,λa e=>?_⟩;have o:=h.wit x c;have d:x.o=false:=by
  cases d:x.o
  ·rfl
  simp[Af,d,g.o d]at e
 have f:a=x.h\/a∈x.A:=by grind[Af]
 let⟨u,z,A,s⟩:=o.2.2 d;have m:En a:=gp
 have n:short a:=by obtain rfl|f:=f;exact k.1;exact k.2 a f
 exact⟨m.2.2.1,n.1,λt i=>j7 ((j x c).dt a e t i) (m.2.2.2 t i) (n.2.2 t i) ((j x c).va a e t i)⟩
def BB.sub {N ar l c}(h:BB N ar l)(b:∀x∈c,x∈l)(d:Z c<=16):BB N ar c:=
 ⟨⟨d,h.gl.nm,λx a=>h.gl.msr x (b x a),λx a=>h.gl.fits x (b x a),λx a=>h.gl.pos x (b x a),λx a=>h.gl.va x (b x a),λx a=>h.gl.ar x (b x a)⟩,λx a=>h.b5 x (b x a),λx a=>h.ru x (b x a),λx a=>h.wi x (b x a),λx a=>h.wit x (b x a)⟩
def BB.less {N ar l}(h:BB N ar l)(i):BB N ar (rpl i [] l):=
 h.sub (λx a=>by obtain h|h:=Cy a;exact h;cases h) (BI (Rh l) h.gl.len)
def QA {x k}(h:Dc x)(b:x.o=false):Dc (C8 x k):=by let⟨g,i,f,d⟩:=h.2.2 b;exact⟨h.1,(λe=>by cases e),λ_=>⟨g,i,BI (JF _ _) f,λa c=>d a (EE c)⟩⟩
def j0 {N x k}(h:WI N x)(l:Dc x)(d:x.o=false):WI N (C8 x k):=by have j:=QA (k:=k) l d;have i:∀a,a∈Af (C8 x k)->WA N (Au x) a->WA N (Au (C8 x k)) a:=λa b c=>⟨c.1,c.2.1,c.2.2.1,c.2.2.2.1,λw f=>⟨(c.2.2.2.2 w f).1,(c.2.2.2.2 w f).2.1,λm=>On j b f m⟩⟩;have g:∀a∈(C8 x k).A,a∈x.A:=λa b=>EE b;exact⟨Ms h.fits,⟨h.short.1,λa b=>h.short.2 a (g a b)⟩,λa b=>h.va a (Mr d b),h.vh,λa b=>h.vb a (g a b),h.mem,BI (JF _ _) h.A,(λe=>by cases e),λ_=>⟨(h.h d).1,i _ (Ap (.inl ⟨rfl,rfl⟩)) (h.h d).2⟩,λa b=>i a (Ap (.inr b)) (h.wa a (g a b))⟩
theorem W3 {y}(i:Fi y)(k:∀a∈Af y,∀t∈a.A,UT t){a}(g:a∈Af y){t}(j:t∈a.A)(l:Ab t):∃b∈y.A,b.nt=false/\t∈b.A:=by
 rw[Fi]at i;have:=EV.1 (by simpa using i:(Af y).any (fun a=>a.A.any fun w=>(Aq w).1&&!Ga y (Aq w).2)=false) a g;have:=EV.1 (by simpa using this:a.A.any (fun w=>(Aq w).1&&!Ga y (Aq w).2)=false) t j;rw[Cb,l]at this;have c:Ga y (Aq t).2:=by simpa using this
 rw[Ga]at c;let⟨b,f,c⟩:=CU.1 c;simp only[BM,FJ,CU]at c;let⟨m,u,e,d⟩:=c;refine⟨b,f,m,?_⟩;rw[Ql]at d;simp only[BM,DO]at d;have:t=u:=DJ.inj _ _ (k a g t j) (k b (Ap (.inr f)) u e) (GB (by rw[Cb,l,d.1]) d.2.symm);exact this▸e
def BB.wo {N ar l}(h:BB N ar l){i k x}(o:l[i]?=some x)(f:x.o=false)(t:Fi (C8 x k)):BB N ar (rpl i [C8 x k] l):=by
 have e:=AY o;have d:∀y∈rpl i [C8 x k] l,y∈l\/y=C8 x k:=λy c=>by
  obtain h|h:=Cy c;exact .inl h;exact .inr (nn h)
 have n:∀a∈(C8 x k).A,a∈x.A:=λa m=>EE m;refine⟨h.gl.wo o f,λy c=>?_,λy c p=>?_,λy c=>?_,λy c=>?_⟩;obtain c|rfl:=d y c;exact h.b5 y c;exact BI (JF _ _) (h.b5 x e);obtain c|rfl:=d y c;exact h.ru y c p;have g:=h.ru x e f;refine⟨g.h,g.hnt,λb j=>g.A b (n b j),g.vt,λb j=>g.vb b (n b j),λv d q=>?_⟩;obtain⟨b,j,-,s⟩:=W3 t (λa m=>((h.gl.msr x e).at_ a (Mr f m)).2.2) (a:=x.h) (Ap (.inl ⟨rfl,rfl⟩)) d q;exact⟨b,j,s⟩;obtain c|rfl:=d y c;exact h.wi y c;exact j0 (h.wi x e) (h.wit x e) f;obtain c|rfl:=d y c;exact h.wit y c;exact QA (h.wit x e) f
def KI (R:n0)(d:oq)(S:AE->Prop):Prop:=(∀a∈d,S a)/\∀y∈R,∀c,(∀b∈y.A,S (G3 c b))->S (G3 c y.h)
def LA (R:n0)(b:oq)(a:AE):Prop:=∀S,KI R b S->S a
def LA.cl (R j):KI R j (LA R j):=⟨λa e S c=>c.1 a e,λy i g d S c=>c.2 y i g λb f=>d b f S c⟩
def XL {R d S}(h:NN true R d S):KI R d S:=
 ⟨h.1,λy j e f=>h.2 (d++y.A.map (G3 e)) (λa c=>by
  obtain c|c:=AW.1 c;exact h.1 a c;obtain⟨b,i,rfl⟩:=AN.1 c
  exact f b i) (λa c=>GK _ c) y j _ ⟨e,λa c _=>LI _ (AN.2 ⟨a,c,rfl⟩),λa c g=>(by cases g),rfl⟩⟩
section
variable {N:ol} {ar:Tx->Nat} {Rd:n0} {x:AB}
theorem eG (h:N8 N ar Rd x){a}(b:LA Rd (x.A.map Cw) a):GA N ar a/\BS (Rd.map (Ed N)) (Fy N x) (eA N a).1 (eA N a).2:=b _ (XL (qI h))
theorem kz (h:N8 N ar Rd x){A:AE->Prop}(o:∀a,A a->GA N ar a)(U:∀y∈Rd,∀μ,(∀b∈y.A,A (G3 μ b))->A (G3 μ y.h)):KG (Rd.map (Ed N)) (λk t=>∃a,A a/\eA N a=(k,t)):=by
 intro a3 z c S;obtain⟨y,F,rfl⟩:=AN.1 z;have n:=h.ru y F;have C:∀b∈y.A,∃a,A a/\a.nt=b.nt/\a.B=b.B/\a.A.map Eu=b.A.map λt=>Ei c (Aq t):=λb g=>by
  let⟨a,l,e⟩:=S (Fz (Z N) (E6 N b)) (by grind[Fq]);rw[aA,DK,Vh,Md]at e;rw[eA]at e;simp only[Prod.mk.injEq]at e;let⟨p,e2⟩:=e;let⟨Q,B⟩:=Xz (o a l).mem (n.A b g).mem p;refine⟨a,l,Q,B,?_⟩;rw[B8]at e2;simp only[BH]at e2;exact Sz (by simp only[BV];rw[(o a l).len,(n.A b g).len,B]) (by rw[BV];exact (o a l).le3) e2
 let μ:Tx->Tx:=λv=>Classical.epsilon λu=>GT u/\Eu u=c (Aq v).2;have a0:∀v,(∃u,GT u/\Eu u=c (Aq v).2)->GT (μ v)/\Eu (μ v)=c (Aq v).2:=λv d=>Classical.epsilon_spec d;have E:∀b∈y.A,∀v∈b.A,Ab v->GT (μ v)/\Eu (μ v)=c (Aq v).2:=λb g v d I=>by
  obtain⟨a,l,-,-,e⟩:=C b g;let⟨i,a2⟩:=CL d;have m:(b.A.map λt=>Ei c (Aq t))[i]?=some (Ei c (Aq v)):=gp
  rw[<-e,DC]at m;cases q:a.A[i]? with
  |none=>rw[q]at m;cases m
  |some u=>
   rw[q]at m;have s:=Gf m;refine a0 v ⟨u,(o a l).gt u (AY q),?_⟩;rw[s];rw[Ei];rw[Cb,I,if_pos rfl]
 have G:∀t,VT t->DT t->(Ab t->GT (μ t)/\Eu (μ t)=c (Aq t).2)->GT (Ij μ t)/\Eu (Ij μ t)=Ei c (Aq t):=λt m s M=>by
  unfold Ei;rw[Cb];cases d:Ab t
  ·rw[if_neg nk,Cm d];exact⟨.inl ⟨d,m,s⟩,Hg m d⟩
  rw[if_pos rfl,C1 d];exact M d
 have K:∀b∈y.A,A (G3 μ b):=λb g=>by
  let⟨a,l,p,e2,R⟩:=C b g;have:G3 μ b=a:=by
   refine AE.ext' p.symm e2.symm ?_;have D:∀t∈b.A,GT (Ij μ t)/\Eu (Ij μ t)=Ei c (Aq t):=λt j=>G t (n.vb b g t j).1 (n.vb b g t j).2 (E b g t j);refine Lz (f:=Eu) (λu P w T e=>?_) ?_;obtain⟨t,j,rfl⟩:=AN.1 P;exact Y3 (D t j).1 ((o a l).gt w T) e;show (b.A.map (Ij μ)).map Eu=a.A.map Eu;rw[R,BH];exact CG λt j=>(D t j).2
  exact this▸l
 refine⟨G3 μ y.h,U y F μ K,?_⟩;rw[eA];apply GB;show K0 N (G3 μ y.h)=(((N.idxOf y.h.B:Nat):Int)).toNat;rw[K0];have:(G3 μ y.h).nt=false:=n.hnt;rw[this,DK];rfl;show Ej ((y.h.A.map (Ij μ)).map Eu)=Ej ((y.h.A.map Aq).map (Ei c));rw[BH,BH];congr 1;refine CG λt j=>?_
 exact (G t (n.vt t j).1 (n.vt t j).2 (λd=>by
  let⟨b,g,a1⟩:=n.safe t j d;grind)).2
theorem SS (h:N8 N ar Rd x){k t}(e:BS (Rd.map (Ed N)) (Fy N x) k t):∃a,LA Rd (x.A.map Cw) a/\eA N a=(k,t):=
 e _ (kz h (λa c=>(eG h c).1) (LA.cl Rd _).2) λa c=>by rw[Fy]at c;rw[Fq,BH]at c;obtain⟨b,d,rfl⟩:=AN.1 c;exact⟨Cw b,(LA.cl Rd _).1 _ (AN.2 ⟨b,d,rfl⟩),Ts λt f=>(h.x.vb b d t f).1⟩
theorem YO (h:N8 N ar Rd x):eA N (Cw x.h)=((Ed N x).h.p.toNat,C4 (Fx (Ed N x).h)):=by
 rw[Ts (N:=N) (b:=x.h) λt a=>(h.x.vt t a).1];have e:(Fz (Z N:Int) (E6 N x.h)).a=Eg N x.h:=by
  rw[Fz];rw[if_neg (by show¬x.h.nt=true;rw[h.x.hnt];simp)];rfl
 rw[e];rfl
theorem vL (h:N8 N ar Rd x):BS (Rd.map (Ed N)) (Fy N x) (Ed N x).h.p.toNat (C4 (Fx (Ed N x).h))↔LA Rd (x.A.map Cw) (Cw x.h):=by have c:=YO h;constructor;intro d;let⟨a,b,e⟩:=SS h d;rw[<-c]at e;exact gZ (eG h b).1 (gQ h.x.h h.x.vt) e▸b;intro b;have:=(eG h b).2;grind
end
def ZM {N N2 ar ar2 R l x c}(h:N8 N ar R x)(h2:N8 N2 ar2 l c){f g:AE->AE}
  (T:∀a,LA R (x.A.map Cw) a->LA l (c.A.map Cw) (f a)/\g (f a)=a) (z:∀a,LA l (c.A.map Cw) a->LA R (x.A.map Cw) (g a)/\f (g a)=a)
  (a1:f (Cw x.h)=Cw c.h) (a0:g (Cw c.h)=Cw x.h){b B}
  (Q:aD (R.map (Ed N)) (Fy N x) (Ed N x).h.p.toNat (C4 (Fx (Ed N x).h)) b) (D:aD (l.map (Ed N2)) (Fy N2 c) (Ed N2 c).h.p.toNat (C4 (Fx (Ed N2 c).h)) B):b=B:=by
 let⟨M,S,F,q⟩:=Q;let⟨m,C,v,n⟩:=D;have P:∀{N N2:ol} {ar ar2:Tx->Nat} {R l:n0} {x c:AB} (h:N8 N ar R x) (h2:N8 N2 ar2 l c) {f g:AE->AE} (z:∀a,LA l (c.A.map Cw) a->LA R (x.A.map Cw) (g a)/\f (g a)=a) {M m:MM} (C:∀y∈m,y.2.Nodup) (v:∀j t,MD m j t->BS (l.map (Ed N2)) (Fy N2 c) j t) (o:∀j t,BS (R.map (Ed N)) (Fy N x) j t->MD M j t),tot m<=tot M:=by
  intro N N2 ar ar2 R l x c h h2 f g z M m C v o
  haveI:Nonempty AE:=⟨x.h⟩
  let d:Nat×Ck->AE:=λp=>Classical.epsilon λa=>LA R (x.A.map Cw) a/\eA N a=p;have:=PX (M:=m) (A:=Lf 0 M) (e:=λp=>eA N2 (f (d p))) C λk t s=>by
   let⟨i,U,e2⟩:=SS h2 (v k t s);let⟨u,a3⟩:=z i U;have I:=Classical.epsilon_spec (p:=λa=>LA R (x.A.map Cw) a/\eA N a=eA N (g i)) ⟨g i,u,rfl⟩;have a2:d (eA N (g i))=g i:=gZ (eG h I.1).1 (eG h u).1 I.2
   refine⟨eA N (g i),?_,gp⟩
   have:=o _ _ (eG h u).2;exact (Le M 0 _ _).2 ⟨L,this⟩
  exact O0 M 0▸this
 have G:BS (R.map (Ed N)) (Fy N x) (Ed N x).h.p.toNat (C4 (Fx (Ed N x).h))↔BS (l.map (Ed N2)) (Fy N2 c) (Ed N2 c).h.p.toNat (C4 (Fx (Ed N2 c).h)):=by grind[vL]
 by_cases K:tot M<=200;rw[if_pos K]at q;have u:=P h h2 z C v q.1;rw[if_pos L]at n;have:b↔B:=gp
 cases b<;>cases B<;>simp_all;rw[if_neg K]at q;by_cases E:tot m<=200;rw[if_pos E]at n;have u:=P h2 h T S F n.1;omega;rw[if_neg E]at n;rw[q,n]
def rA (f:Tx->Tx)(a:AE):AE:=⟨a.nt,a.B,a.A.map f⟩
def Is (m:Tx->Tx):Tx->Tx
 |[]=>[]
 |b::a=>if b=35 then 35::m a else b::a
def eN (m v):Is m (35::v)=35::m v:=by grind[Is]
def Ry {m u}(h:VT u)(a:Ab u=false):Is m u=u:=by
 let⟨d,c⟩:=QC h a;cases u with
 |nil=>rfl
 |cons b e=>
  unfold Is;dsimp only;rw[if_neg];rintro rfl;have:=c 35 nk;revert this;decide
def QW {m μ b}(h:∀t∈b.A,VT t):rA (Is m) (G3 μ b)=G3 (λv=>Is m (μ v)) b:=by
 refine AE.ext' rfl rfl ?_;show (b.A.map (Ij μ)).map (Is m)=b.A.map (Ij λv=>Is m (μ v));rw[BH];refine CG λt c=>?_;show Is m (Ij μ t)=_;cases a:Ab t
 ·rw[Cm a,Cm a,Ry (h t c) a]
 rw[C1 a,C1 a]
def Ic (Lqx:ol)(w:Tx):Tx:=(Lqx.find? λv=>C6 Lqx v==w).getD w
section
variable {x:AB} (hx:XR x)
include hx
theorem XR.back {a}(m:a∈Af x){t}(l:t∈a.A)(f:Ab t):Ic (Au x) (C6 (Au x) t)=t:=by
 have c:=hx.mem m l f;have o:∀u∈Au x,Ab u:=λu g=>by
  have:=K7 ((Af x).flatMap (·.A)) [] nk GN;exact (this.1 u g).1
 rw[Ic];cases d:(Au x).find? λv=>C6 (Au x) v==C6 (Au x) t with
 |none=>
  have:=KB.1 d t c;simp at this
 |some u=>
  have e:=ME d;have b:=find?_some d;simp only[DO]at b;show u=t;unfold C6 at b;rw[if_pos (o u e),if_pos f]at b;have p:=hx.which e;have i:=hx.which c;have q:=hx.few;rw[p.1,i.1]at b;have n:=cons.inj b;have j:=Fv (k:=((Au x).idxOf u:Nat)) L L;have e2:=Fv (k:=((Au x).idxOf t:Nat)) L L;rw[n.1]at j;exact E9 e c L
theorem XR.wvar {a}(b:a∈Af x){t}(d:t∈a.A):Ab (C6 (Au x) t)=Ab t:=Hu λc=>hx.rng b d c
theorem XR.atM_ren {a}(d:a∈Af x)(μ):G3 μ (Br (Au x) a)=G3 (λv=>μ (C6 (Au x) v)) a:=by
 refine AE.ext' rfl rfl ?_;show (a.A.map (C6 (Au x))).map (Ij μ)=_;rw[BH];refine CG λt e=>?_;show Ij μ (C6 (Au x) t)=_;have c:=hx.wvar d e;cases b:Ab t
 ·rw[b]at c;rw[Cm c,Cm b];unfold C6;rw[if_neg (gp)]
 rw[b]at c;rw[C1 c,C1 b]
theorem XR.atM_back {a}(c:a∈Af x)(μ):G3 (λv=>μ (Ic (Au x) v)) (Br (Au x) a)=G3 μ a:=by
 rw[hx.atM_ren c];refine AE.ext' rfl rfl (CG λt d=>?_);cases b:Ab t
 ·rw[Cm b,Cm b]
 rw[C1 b,C1 b,hx.back c d b]
theorem XR.frz {a}(d:a∈Af x)(f:∀t∈a.A,VT t):rA (Is (C6 (Au x))) (Cw a)=Cw (Br (Au x) a):=by
 refine AE.ext' rfl rfl ?_;show (a.A.map Hn).map (Is (C6 (Au x)))=(a.A.map (C6 (Au x))).map Hn;rw[BH,BH];refine CG λt c=>?_;show Is (C6 (Au x)) (Hn t)=Hn (C6 (Au x) t);have e:=hx.wvar d c;unfold Hn;rw[e];cases b:Ab t
 ·rw[if_neg nk,if_neg nk,Ry (f t c) b];unfold C6;rw[if_neg (gp)]
 rw[if_pos rfl,if_pos rfl,eN]
theorem XR.frz_back {a}(d:a∈Af x)(g:∀t∈a.A,VT t):rA (Is (Ic (Au x))) (Cw (Br (Au x) a))=Cw a:=by
 refine AE.ext' rfl rfl ?_;show ((a.A.map (C6 (Au x))).map Hn).map (Is (Ic (Au x)))=a.A.map Hn;rw[BH,BH];refine CG λt c=>?_;show Is (Ic (Au x)) (Hn (C6 (Au x) t))=Hn t;have f:=hx.wvar d c;unfold Hn;rw[f];cases b:Ab t
 ·rw[if_neg nk,if_neg nk];have e:C6 (Au x) t=t:=by grind[C6]
  rw[e,Ry (g t c) b]
 rw[if_pos rfl,if_pos rfl,eN,hx.back d c b]
end
def iD {R l S}(m:∀y∈R,XR y):KI R l S↔KI (R.map ren) l S:=by constructor;rintro⟨k,i⟩;refine⟨k,λz j c g=>?_⟩;obtain⟨y,d,rfl⟩:=AN.1 j;have a:=m y d;have e:=a.atM_ren (Ap (.inl ⟨a.o,rfl⟩)) c;show S (G3 c (Br (Au y) y.h));rw[e];refine i y d _ λb f=>?_;rw[<-a.atM_ren (Ap (.inr f)) c];exact g _ (AN.2 ⟨b,f,rfl⟩);rintro⟨k,i⟩;refine⟨k,λy d c g=>?_⟩;have a:=m y d;rw[<-a.atM_back (Ap (.inl ⟨a.o,rfl⟩)) c];refine i (ren y) (AN.2 ⟨y,d,rfl⟩) _ λz j=>?_;obtain⟨b,f,rfl⟩:=AN.1 j;rw[a.atM_back (Ap (.inr f)) c];exact g b f
def vS {R e c S m}(f:∀y∈R,∀a,a=y.h\/a∈y.A->∀t∈a.A,VT t)(i:∀a∈e,rA (Is m) a∈c)(h:KI R c S):KI R e λa=>S (rA (Is m) a):=
 ⟨λa k=>h.1 _ (i a k),λy d l j=>by
  show S (rA (Is m) (G3 l y.h));rw[QW (f y d _ (.inl rfl))];refine h.2 y d _ λb g=>?_;rw[<-QW (f y d b (.inr g))]
  exact j b g⟩
def vT {R g m n}(j:∀y∈R,∀t∈y.h.A,VT t)(q:∀y∈R,∀v∈y.h.A,Ab v->∃b∈y.A,v∈b.A)(l:∀a∈g,rA (Is m) (rA (Is n) a)=a):KI R g λa=>rA (Is m) (rA (Is n) a)=a:=by
 refine⟨l,λy e c p=>?_⟩;refine AE.ext' rfl rfl ?_;show ((((y.h.A.map (Ij c)).map (Is n)).map (Is m)))=y.h.A.map (Ij c);rw[BH,BH];refine CG λt f=>?_;show Is m (Is n (Ij c t))=Ij c t;cases d:Ab t
 ·rw[Cm d,Ry (j y e t f) d,Ry (j y e t f) d]
 obtain⟨b,o,k⟩:=q y e t f d;have i:(((b.A.map (Ij c)).map (Is n)).map (Is m))=b.A.map (Ij c):=congrArg AE.A (p b o);rw[BH,BH]at i;exact map_inj_left.1 i t k
variable {Bd:Nat}
def zW {t l}(h:(Av t).1=0)(a:Cc 16 t= .got l []):Z t<=600/\(Co l).1=0:=by rw[Av]at h;split at h;simp at h;rename_i b;split at h;simp at h;obtain⟨-,e,-,-⟩:=Ep L a;grind
set_option maxRecDepth 1000000
end Go.Proofs.YtmoeoppbmhfbpabGreatDoorJ
