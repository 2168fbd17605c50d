import Derived.Test.YtmoeoppbmhfbpabGreatDoorJNegB
set_option maxHeartbeats 32000000
set_option maxRecDepth 100000
set_option linter.all false
open List renaming length->Z
namespace Go.Proofs.YtmoeoppbmhfbpabGreatDoorJ
open Go.Abs
structure DV (k:Nat)(S:Ck->Prop)(M M':MM)(d d':Int):Prop where
 len:Z M'=Z M
 oth:∀j,j≠k->(M'[j]?).map (·.2)=(M[j]?).map (·.2)
 ext:∃new:List Ck,Ba M' k=Ba M k++new/\new.Nodup/\(∀t∈new,S t/\t∉Ba M k)/\d'=d+Z new
def DV.refl (k S M d):DV k S M M d d:=⟨rfl,λ_ _=>rfl,[],nk,GN,nk,nk⟩
def DV.trans {k S M m M2 d f i}(h:DV k S M m d f)(g:DV k S m M2 f i):DV k S M M2 d i:=by
 obtain⟨n,b,z,B,v⟩:=h.ext;obtain⟨A,q,u,c,p⟩:=g.ext;refine⟨g.len.trans h.len,λj l=>(g.oth j l).trans (h.oth j l),n++A,by rw[q,b,CR],?_,?_,?_⟩;rw[IP];exact⟨z,u,λx o y s e=>(c y s).2 (by rw[b,<-e];exact AW.2 (.inr o))⟩;intro t a;rcases AW.1 a with a|a;exact B t a;exact⟨(c t a).1,λr=>(c t a).2 (by rw[b];exact AW.2 (.inl r))⟩;rw[p,v];simp;omega
def DV.mono {k S c M M' d b}(h:DV k S M M' d b)(j:∀t,S t->c t):DV k c M M' d b:=by
 obtain⟨n,g,i,e,f⟩:=h.ext;exact⟨h.len,h.oth,n,g,i,λt a=>⟨j t (e t a).1,(e t a).2⟩,f⟩
def DV.sub {k S M M' d b}(h:DV k S M M' d b){t}(a:t∈Ba M k):t∈Ba M' k:=by
 obtain⟨n,c,-,-,-⟩:=h.ext;rw[c];exact AW.2 (.inl a)
def DV.le {k S M M' d a}(h:DV k S M M' d a):d<=a:=by
 obtain⟨n,-,-,-,b⟩:=h.ext;omega
def Room (M:MM)(d b:Int):Prop:=∀x∈M,(Z x.2:Int)+(b-d)<=4000
def DV.room {k S M M' d g b}(h:DV k S M M' d g)(l:Room M d b):Room M' g b:=by
 intro x m;obtain⟨j,a⟩:=CL m;obtain⟨n,c,-,-,o⟩:=h.ext;have i:j<Z M:=by rw[<-h.len];exact (BA.1 a).1
 have f:=AK i;have p:=l _ (AR i);by_cases e:j=k;subst e;unfold Ba at c;simp only[DK,a,f,GJ,MG]at c;rw[c];simp only[AX];omega;have:=h.oth j e;rw[a,f]at this;simp at this;rw[this];have:=h.le;omega
def Cp {M}{k:Nat}{x}(h:M[k]?=some x):Ba M (k:Int)=x.2:=by simp[Ba,h]
def YH {M k id x t S d}(a:M[k]?=some x)(f:t∉x.2)(g:S t):DV k S M (M.set k (id,x.2++[t])) d (d+1):=by
 have i:=(BA.1 a).1;refine⟨nk,λj c=>by rw[NH (λe=>c e.symm)],[t],?_,nk,?_,nk⟩;rw[Cp a,Cp (x:=(id,x.2++[t])) (by simp[i])];intro u b;simp at b;subst b;rw[Cp a];exact⟨g,f⟩
def BL.setd {z c a M d f b}(h:BL z c a M d b):BL (z.put c [fx a 0 (Z M),ic f,ic b]) c a M f b where
 ob:=Ak
 oc:=by rw[show (z.put c [fx a 0 (Z M),ic f,ic b]).C a=z.C a from by simp[St.put];intro e;exact absurd e.symm h.ne];exact h.oc
 lo:=h.lo
 lt:=h.lt
 ne:=h.ne
 live:=h.live
 inj:=h.inj
 t3:=h.t3
 ln:=h.ln
 pl:=h.pl
def KM.setd {b g M M' z a}(h:KM b g M M' z a)(c):KM b g M M' z (a.put b c):=
 ⟨h.B,λo e d f=>by rw[show (a.put b c).C o=a.C o from by simp[St.put,d]];exact h.C o e d f,λo e d f=>by rw[show (a.put b c).ver o=a.ver o from by simp[St.put,d]];exact h.ver o e d f,h.D,h.top,h.mid⟩
def aF (neg:Int->Ck->Prop)(q:AZ)(t:Ck):Prop:=∃a,Mq neg q a/\t=B8 q.h a
def PD (neg:Int->Ck->Prop)(f i:Nat)(b:Int)(V:List Int):Prop:=∀(q:AZ) (c:oh) (k:Nat) (M:MM) (d:Int),EQ q c->Tz q->BO neg M q->(∀a∈q.B,a.p≠(k:Int))->QV q->q.h.p=(k:Int)->k<Z M->Room M d b-> -1000000<=d->d<=1000000-> -1000000<=b->b<=900000->(∀v,FA q v->v∈V)->
 ∀z,BL z f i M d b->ni 139 [ptr f 0,ag c] z λr j=>∃e g,BL j f i e g b/\KM f i M e z j/\DV k (aF neg q) M e d g/\g<=1000000/\(¬b<g->∀t,aF neg q t->t∈Ba e k)
def BO.gro {neg M M' q}{k:Nat}{S d l}(h:BO neg M q)(o:∀a∈q.B,a.p≠(k:Int))(g:DV k S M M' d l):BO neg M' q:=λa c=>by
 obtain⟨j,x,f,m,n⟩:=h a c;have i:j≠k:=λe=>o a c (by rw[f,e]);have:=g.oth j i;rw[m]at this;cases b:M'[j]? with
 |none=>rw[b]at this;simp at this
 |some y=>
  rw[b]at this;simp at this;exact⟨j,y,f,b,λt=>by rw[this];exact n t⟩
def Sb (neg om ot b V)(IH:∀V':List Int,Z V'<Z V->PD neg om ot b V'):PD neg om ot b V:=by
 intro q c k M d hc hA de e4 hV hk da a7 fp cm et er ci z P;have a8:=λz (h:BL z om ot M d b)=>Qm om ot M d b z h;have cj:=hA.ok.hd;have em:Z q.h.ts<=1000:=AA;have be:=λ(id:Nat) z=>Pq q.h.p id q.h.ts em z;have bm:M[k]?=some M[k]:=AK da;generalize M[k]=x at bm;have ca:=λ(id:Nat) z (h:BL z om ot M d b)=>Jq om ot M d b q.h id k x cj hk bm z h;have bf:=λz (h:BL z om ot M d b)=>eR neg q c om ot M d b hc hA de z h;have hT:Ba M (k:Int)=x.2:=Cp bm;obtain⟨ih,ip,inn,pc,nc,rfl,-,-⟩:=hc;have cq:∀cs,BL (z.new cs) om ot M d b:=λcs=>P.keep ((AD.refl z).new cs);by_cases ch:b<d
 ·rw[show decide (b<d)=true from by simpa using ch]at a8;rw[hk];clear ca be bf;refine Z9 86 [] Tryz.func139 ?_
  refine m0 ?_;intro yb ya;refine Xi (a8 _ (P.keep (Xs))) ?_;rintro _ _ ⟨rfl,rfl⟩;refine mr ?_
  first|exact⟨_,rfl,M,d,cq _,KM.ofKeep ((AD.refl z).new _),DV.refl _ _ _ _,cm,λh=>absurd ch h⟩|exact⟨M,d,cq _,KM.ofKeep ((AD.refl z).new _),DV.refl _ _ _ _,cm,λh=>absurd ch h⟩
 have bu:decide (b<d)=false:=nn ch;rw[bu]at a8;have ac:=be ih;have ai:=ca ih;rw[hk]at ac ai bf;rw[hk];have bq:∀E,AD z E->(∀t,aF neg q t->t∈x.2)->∃M' Y,BL E om ot M' Y b/\KM om ot M M' z E/\DV k (aF neg q) M M' d Y/\Y<=1000000/\(¬b<Y->∀t,aF neg q t->t∈Ba M' k):=λE d7 aw=>
  ⟨M,d,P.keep d7,KM.ofKeep d7,DV.refl _ _ _ _,cm,λ_ t ht=>by rw[hT];exact aw t ht⟩
 have ae:AC _:=bq;clear bq bu;cases hs:Jz q.h.ts with
 |true=>
  rw[hs]at ac;have ap:=λA=>Rf hs A;by_cases hm:C4 q.h∈x.2
  ·rw[show decide (C4 q.h∈x.2)=true from by simpa using hm]at ai;have aw:∀t,aF neg q t->t∈x.2:=λt ⟨A,_,e⟩=>by rw[e,ap];exact hm
   have cf:AC _:=aw;clear aw ap ca be bf;refine Z9 86 [] Tryz.func139 ?_
   repeat' first|refine Z1 ?_|refine Z8 λyb ya=>?_|refine Z4 ?_;clear ya yb|refine Z2 ?_ ?_<;>intro h aa<;>try exact Xp|(refine Z5 ?_;first|(refine Xi (a8 _ (P.keep (Xs))) ?_;rintro _ _ ⟨rfl,rfl⟩)|(refine Xi (ac _) ?_;rintro _ _ ⟨rfl,am⟩;(have aj:=am.B;have ab:=am.C;have bn:=((AD.refl z).new _).trans am;simp only[Aa]at aj ab))|(refine Xi (ai _ (P.keep (Xs))) ?_;rintro _ _ ⟨rfl,b8⟩;(have b4:=bn.trans b8)))|refine Z3 ?_|exact Zt|apply ya.o;clear ya yb
   first|exact⟨_,rfl,ae.o _ b4 cf.o⟩|exact ae.o _ b4 cf.o
  rw[show decide (C4 q.h∈x.2)=false from by simpa using hm]at ai;have fi:AC (C4 q.h∉x.2):=hm;clear hm;have cu:∀(id:Nat) z,ni 131 [ag [ic (k:Int),sl id (Z q.h.ts) (Ad q.h.ts)]] z λr E=>r=my true/\AD z E:=λid z=>by
   have:=be id z;rw[hk,hs]at this;exact this
  have d6:=λ(id:Nat) z (h:BL z om ot M d b)=>Y4 om ot M d b q.h id k x cj hk bm (by
   have:=a7 x (AY bm)
   omega) z h
  rw[hk]at d6;have b9:=Ui neg om ot M d b (Z V) V (AU _);clear be ca cq;refine Z9 86 [] Tryz.func139 ?_
  repeat' first|refine Z1 ?_|refine Z8 λyb ya=>?_|refine Z4 ?_;clear ya yb|refine Z2 ?_ ?_<;>intro h aa<;>try exact Xp|(refine Z5 ?_;first|(refine Xi (a8 _ (P.keep (Xs))) ?_;rintro _ _ ⟨rfl,rfl⟩)|(refine Xi (ac _) ?_;rintro _ _ ⟨rfl,am⟩;(have aj:=am.B;have ab:=am.C;have bn:=((AD.refl z).new _).trans am;simp only[Aa]at aj ab))|(refine Xi (ai _ (P.keep (Xs))) ?_;rintro _ _ ⟨rfl,b8⟩;(have ee:=b8.B;have bp:=b8.C;have b4:=bn.trans b8;clear ac))|(refine Xi (bf _ (P.keep (Xs))) ?_;rintro _ _ ⟨⟨c',(⟨rfl,ej,en,bw⟩|⟨f,rfl,⟨ih2,W,T,S,U,rfl,cn,cp⟩,a4,df,B,au⟩)⟩,ah⟩))|refine Z3 ?_|exact Zt|apply ya.o;clear ya yb
  ·have bc:=ah.B;have o4:=ah.C z.B AA;rw[bp _ AA,ab _ AA,Ao]at o4;have ay:=b4.trans ah;have cd:AC (∀A,¬Mq neg q A):=bw;clear bw
   refine mr ?_
   first|exact⟨_,rfl,ae.o _ (ay.put AA _) (λt ⟨A,h,_⟩=>absurd h (cd.o A))⟩|exact ae.o _ (ay.put AA _) (λt ⟨A,h,_⟩=>absurd h (cd.o A))
  have bc:=ah.B;have o4:=ah.C z.B AA;rw[bp _ AA,ab _ AA,Ao]at o4;have ay:=b4.trans ah;have he:f.h=q.h:=B.hd;have ax:BO neg M f:=de.sub λa D=>⟨a,(au a D).1,rfl⟩;have ak:pA ⟨⟨0,[]⟩,f.A,f.B⟩:=λv C=>a4.wf v (.inr (C.resolve_left (by simp[Bm])))
  have cv:=λz (h:BL z om ot M d b)=>b9 ⟨⟨0,[]⟩,f.A,f.B⟩ [ic 0,nilS,sl W (Z f.A) S,sl T (Z f.B) U] ⟨1,W,T,S,U,rfl,cn,cp⟩ (Na a4 nk (MF _) (MF _) ak) (ax.sub λa D=>⟨a,D,rfl⟩)
   (λa D v C=>by
    have:a∈atomsQ f\/a=⟨0,[]⟩:=by
     unfold atomsQ at D⊢;simp only[BD,AW,AN]at D⊢;rcases D with h|h|h
     ·exact .inr h
     ·exact .inl (.inr (.inl h))
     exact .inl (.inr (.inr h))
    rcases this with h|rfl
    ·exact hV a (B.at_ a h) v C
    ·cases C) rfl (λv C=>by
    obtain⟨p,hp,br⟩:=Yt (q:=⟨⟨0,[]⟩,f.A,f.B⟩) ak C
    exact ci v (FA.sub B.at_ ⟨p.a,Lv hp,br⟩)) z h
  have ez:∀A,Mq neg (⟨⟨0,[]⟩,f.A,f.B⟩:AZ) A↔Mq neg f A:=λA=>Iff.rfl;have HE:AC (f.h=q.h):=he;simp only[he,hk];clear he b9 bf ai a8
  repeat' first|refine Z1 ?_|refine Z8 λyb ya=>?_|refine Z4 ?_;clear ya yb|refine Z2 ?_ ?_<;>intro h aa<;>try exact Xp|(refine Z5 ?_;first|(refine Xi (cv _ (P.keep (Xs))) ?_;rintro _ _ ⟨⟨bb,rfl,b0⟩,bi⟩;(have ce:AC _:=b0;clear b0;have ba:=bi.B;have a9:=bi.C;simp only[Ac]at ba a9;have b5:=(ay.put AA _).trans bi))|(refine Xi (cu _ _) ?_;rintro _ _ ⟨rfl,bh⟩;(have cz:=bh.B;have cx:=bh.C;have dk:=b5.trans bh))|(refine Xi (d6 _ _ (P.keep (Xs))) ?_;rintro _ _ ⟨id',di,b7⟩;(generalize b3:M.set k (id',x.2++[C4 q.h])=M7 at di b7;have eb:AC _:=b3;clear b3;have fk:=di.ob;have dm:=KM.trans (KM.ofKeep dk) b7)))|refine Z3 ?_|exact Zt|apply ya.o;clear ya yb
  ·exact⟨_,rfl,ae.o _ b5 (λt ⟨A,G,_⟩=>absurd (ce.o.2 ⟨A,B.to A G⟩) (by rw[h];simp))⟩
  have db:bb=true:=nu;obtain⟨A,G⟩:=ce.o.1 db;obtain⟨ν',hν',-⟩:=B.back A G;have fa:aF neg q (C4 q.h):=⟨ν',hν',(ap ν').symm⟩;have fb:DV k (aF neg q) M M7 d (d+1):=by rw[<-eb.o];exact YH bm fi.o fa
  have ey:C4 q.h∈Ba M7 k:=by
   rw[<-eb.o,Cp (x:=(id',x.2++[C4 q.h])) (by simp[da])];simp
  exact⟨_,rfl,M7,d+1,di.setd,dm.setd _,fb,AA,λ_ t ⟨μ,_,e⟩=>by rw[e,ap];exact ey⟩
 |false=>
  rw[hs]at ac;have cu:∀(id:Nat) z,ni 131 [ag [ic (k:Int),sl id (Z q.h.ts) (Ad q.h.ts)]] z λr E=>r=my false/\AD z E:=λid z=>by
   have:=be id z;rw[hk,hs]at this;exact this
  have b9:=Ui neg om ot M d b (Z V) V (AU _);obtain⟨y,vt,cg⟩:∃y vt,Cs [q.h]=y::vt:=by
   cases C:Cs [q.h]with
   |nil=>
    exfalso;have:Jz q.h.ts=true:=by
     unfold Jz;rw[CX];rintro⟨t1,t2⟩ ht;cases t1 with
     |false=>rfl
     |true=>
      have:t2∈Cs [q.h]:=(Dn _ _).2 ⟨q.h,nk,ht⟩;rw[C]at this;cases this
    rw[this]at hs;cases hs
   |cons y vt=>exact⟨y,vt,rfl⟩
  have af:=λ(idh i:Nat) (z:St)=>Hy [q.h] [ic q.h.p,sl idh (Z q.h.ts) (Ad q.h.ts)] i (EL.single ⟨idh,rfl⟩) (by simp;exact cj) nk z;have dv:=Fs (l:=[q.h]) (by simp;exact cj);have du:∀v,Bm q.h.ts v=true->v∈y::vt:=λv C=>by rw[<-cg];exact (Dn _ _).2 ⟨q.h,nk,AO.1 C⟩
  have dx:Bm q.h.ts y=true:=by
   have:y∈Cs [q.h]:=by rw[cg];simp
   obtain⟨a,D,h⟩:=(Dn _ _).1 this;simp at D;subst D;exact AO.2 h
  rw[cg]at af dv;simp only[BQ,CQ,As,CC,DY,hk]at af;simp only[BQ,CQ,DY]at dv;have c7:Z (y::vt)<=200:=by simp;omega
  clear be ca cq cg;refine Z9 86 [] Tryz.func139 ?_
  repeat' first|refine Z1 ?_|refine Z8 λyb ya=>?_|refine Z4 ?_;clear ya yb|refine Z2 ?_ ?_<;>intro h aa<;>try exact Xp|(refine Z5 ?_;first|(refine Xi (a8 _ (P.keep (Xs))) ?_;rintro _ _ ⟨rfl,rfl⟩)|(refine Xi (ac _) ?_;rintro _ _ ⟨rfl,am⟩;(have aj:=am.B;have ab:=am.C;have bn:=((AD.refl z).new _).trans am;simp only[Aa]at aj ab;clear ac))|(refine Xi (bf _ (P.keep (Xs))) ?_;rintro _ _ ⟨⟨c',(⟨rfl,ej,en,bw⟩|⟨f,rfl,⟨ih2,W,T,S,U,rfl,cn,cp⟩,a4,df,B,au⟩)⟩,ah⟩))|refine Z3 ?_|exact Zt|apply ya.o;clear ya yb
  ·have bc:=ah.B;have o4:=ah.C z.B AA;rw[ab _ AA,Ao]at o4;have ay:=bn.trans ah;have cd:AC (∀A,¬Mq neg q A):=bw;clear bw
   refine mr ?_
   first|exact⟨_,rfl,ae.o _ (ay.put AA _) (λt ⟨A,h,_⟩=>absurd h (cd.o A))⟩|exact ae.o _ (ay.put AA _) (λt ⟨A,h,_⟩=>absurd h (cd.o A))
  have bc:=ah.B;have o4:=ah.C z.B AA;rw[ab _ AA,Ao]at o4;have ay:=bn.trans ah;have he:f.h=q.h:=B.hd;have ax:BO neg M f:=de.sub λa D=>⟨a,(au a D).1,rfl⟩;have ak:pA ⟨⟨0,[]⟩,f.A,f.B⟩:=λv C=>a4.wf v (.inr (C.resolve_left (by simp[Bm])))
  have cv:=λz (h:BL z om ot M d b)=>b9 ⟨⟨0,[]⟩,f.A,f.B⟩ [ic 0,nilS,sl W (Z f.A) S,sl T (Z f.B) U] ⟨1,W,T,S,U,rfl,cn,cp⟩ (Na a4 nk (MF _) (MF _) ak) (ax.sub λa D=>⟨a,D,rfl⟩)
   (λa D v C=>by
    have:a∈atomsQ f\/a=⟨0,[]⟩:=by
     unfold atomsQ at D⊢;simp only[BD,AW,AN]at D⊢;rcases D with h|h|h
     ·exact .inr h
     ·exact .inl (.inr (.inl h))
     exact .inl (.inr (.inr h))
    rcases this with h|rfl
    ·exact hV a (B.at_ a h) v C
    ·cases C) rfl (λv C=>by
    obtain⟨p,hp,br⟩:=Yt (q:=⟨⟨0,[]⟩,f.A,f.B⟩) ak C
    exact ci v (FA.sub B.at_ ⟨p.a,Lv hp,br⟩)) z h
  have cb:EQ f [ic (k:Int),sl ih2 (Z q.h.ts) (Ad q.h.ts),sl W (Z f.A) S,sl T (Z f.B) U]:=⟨ih2,W,T,S,U,by rw[he,hk],cn,cp⟩;have dc:=λ(id:Nat) z=>Uf f _ (y::vt) id cb a4.ok c7 z;simp only[BQ,As,CC]at dc;have HE:AC (f.h=q.h):=he;simp only[he,hk];clear he b9 bf a8 cb;have dw:=af ih2;clear af
  repeat' first|refine Z1 ?_|refine Z8 λyb ya=>?_|refine Z4 ?_;clear ya yb|refine Z2 ?_ ?_<;>intro h aa<;>try exact Xp|(refine Z5 ?_;first|(refine Xi (cv _ (P.keep (Xs))) ?_;rintro _ _ ⟨⟨bb,rfl,b0⟩,bi⟩;(have ce:AC _:=b0;clear b0;have ba:=bi.B;have a9:=bi.C;simp only[Ac]at ba a9;have b5:=(ay.put AA _).trans bi))|(refine Xi (cu _ _) ?_;rintro _ _ ⟨rfl,bh⟩;(have cz:=bh.B;have cx:=bh.C;have dk:=b5.trans bh))|(refine Xi (dw _ _) ?_;rintro _ _ ⟨⟨idv,rfl⟩,dp⟩;(have cy:=dp.B;have cw:=dp.C;simp only[Az,H6]at cy cw;have e7:=(dk.lay 1).trans dp))|(refine Xi (dc _ _) ?_;rintro _ _ ⟨⟨_,_,g,rfl,⟨J,L,O,N,K,rfl,e3,e5⟩,⟨ih4,ip4,in4,pc4,nc4,rfl,fq,fr⟩,hG,hC⟩,d8⟩;(have ed:=d8.B;have HC:AC _:=hC;have HG:AC _:=hG;clear hC hG;have e8:=e7.trans d8)))|refine Z3 ?_|exact Zt|apply ya.o;clear ya yb
  ·exact⟨_,rfl,ae.o _ b5 (λt ⟨A,G,_⟩=>absurd (ce.o.2 ⟨A,B.to A G⟩) (by rw[h];simp))⟩
  rename_i H;have db:bb=true:=nu;have dq:EQ (Bc f g) [ic (Bc f g).h.p,sl J (Z (Bc f g).h.ts) (Ad (Bc f g).h.ts),sl L (Z (Bc f g).A) N,sl O (Z (Bc f g).B) K]:=⟨J,L,O,N,K,rfl,e3,e5⟩;have hrs:∀v∈y::vt,v∈g:=λv C=>by
   obtain⟨ad,e,-,-⟩:=HG.o;rw[e];exact AW.2 (.inl C)
  have ao:Tz (Bc f g):=Na a4 a4.ok.hd LD LD (iX a4.wf HC.o (λv C=>hrs v (du v (by rw[<-HE.o];exact C))));have d0:QV (Bc f g):=λa D w hw=>by
   obtain⟨a',ew,ef⟩:=Rx (rs:=g) ⟨a,D,AO.2 hw⟩;exact hV a' (B.at_ a' ew) w (AO.1 ef)
  have dy:(Bc f g).h.p=(k:Int):=by show f.h.p=_;rw[HE.o,hk]
  have bz:∀w,FA (Bc f g) w->w∈V:=λw hw=>ci w (FA.sub B.at_ (Rx hw));have bd:y∈V:=ci y ⟨q.h,by simp[atomsQ],dx⟩;have d1:Z (V.erase y)<Z V:=by
   rw[List.length_erase_of_mem bd];have:=List.length_pos_of_mem bd;omega
  have IHb:=IH (V.erase y) d1;obtain⟨μ,hμ⟩:=ce.o.1 db
  --what the near part brings,the query brings
  have b1:∀n t,aF neg (Dl y n (Bc f g)) t->aF neg q t:=λn t ⟨A,G,e⟩=>by
   have h1:=(U7 ao.w).1 G;have h2:=dG HC.o h1 (uV (rs:=g) hμ);obtain⟨ν',hν',ev⟩:=B.back _ h2;refine⟨ν',hν',?_⟩;rw[e];show B8 (Gg y n (Bc f g).h) A=_;rw[Lq];show B8 f.h _=_;rw[HE.o];apply Ft;intro v C;rw[ev v ⟨f.h,by simp[atomsQ],by rw[HE.o];exact C⟩];rw[if_pos (hrs v (du v C))]
  have cc:∀t,aF neg q t->∃n∈Mo (Bc f g) y,aF neg (Dl y n (Bc f g)) t:=λt ⟨A,G,e⟩=>by
   have h2:=lD (rs:=g) (B.to A G);obtain⟨p,hp,br⟩:=ao.wf y (.inl (by show Bm f.h.ts y=true;rw[HE.o];exact dx));have a5:Pd A y (A y)=A:=by
    funext w;unfold Pd;split
    ·rename_i e;rw[e]
    rfl
   refine⟨A y,tN ao.w h2 ⟨p,hp,br⟩,A,(U7 ao.w).2 (by rw[a5];exact h2),?_⟩;rw[e];show _=B8 (Gg y (A y) (Bc f g).h) A;rw[Lq,a5];show _=B8 f.h A;rw[HE.o]
  have dr:AC _:=b1;have dt:AC _:=cc;have dz:=λz=>L4 (Bc f g) _ y dq ao.ok ao.n z;have eg:=Vv ao.n y;have e0:=λn z=>Y0 (Bc f g) _ y n dq ao.ok z;generalize bv:Mo (Bc f g) y=F at dz eg;have fh:AC _:=bv;have fm:=B9 F;have b2:∀{n:Int},∀a∈(Dl y n (Bc f g)).B,a.p≠(k:Int):=λ{n} a D=>by
   obtain⟨a0,h0,rfl⟩:=AN.1 D;exact e4 a0 (au a0 (BP.1 h0).1).1
  have e9:AC (∀(n:Int) (c5:oh) (I:MM) (R:Int),EQ (Dl y n (Bc f g)) c5->DV k (aF neg q) M I d R->R<=1000000->∀z,BL z om ot I R b->ni 139 [ptr om 0,ag c5] z λr E=>∃M' Y,BL E om ot M' Y b/\KM om ot I M' z E/\DV k (aF neg (Dl y n (Bc f g))) I M' R Y/\Y<=1000000/\(¬b<Y->∀t,aF neg (Dl y n (Bc f g)) t->t∈Ba M' k)):=λn c5 I R bo an ck z cr=>
   IHb (Dl y n (Bc f g)) c5 k I R bo (lQ ao) (((ax.near g).put y n).gro b2 an) b2 (λa D w hw=>by
    obtain⟨⟨b',eu,eq⟩,-⟩:=Vg (q:=Bc f g) (v:=y) (n:=n) (w:=w) ⟨a,D,AO.2 hw⟩;exact d0 b' eu w (AO.1 eq)) dy (by rw[an.len];exact da) (an.room a7) (by have:=an.le;omega) ck et er (λw hw=>by
    obtain⟨h1,h2⟩:=Vg hw
    exact (List.mem_erase_of_ne h2).2 (bz w h1)) z cr
  clear bv b1 cc IHb IH d1 bd bz cv cu dw dc ao d0 dq dy;have d5:AD z ((((H.new [ic 0,nilS,nilS,nilS]).new [ic 0,nilS,nilS,nilS]).put H.B [ic (Bc f g).h.p,sl J (Z (Bc f g).h.ts) (Ad (Bc f g).h.ts),sl L (Z (Bc f g).A) N,sl O (Z (Bc f g).B) K]).put (H.B+1) [ic (Ip f g).h.p,sl ih4 (Z (Ip f g).h.ts) (Ad (Ip f g).h.ts),sl ip4 (Z (Ip f g).A) pc4,sl in4 (Z (Ip f g).B) nc4]):=(((e8.new _).new _).put AA _).put AA _;generalize c6:((((H.new [ic 0,nilS,nilS,nilS]).new [ic 0,nilS,nilS,nilS]).put H.B [ic (Bc f g).h.p,sl J (Z (Bc f g).h.ts) (Ad (Bc f g).h.ts),sl L (Z (Bc f g).A) N,sl O (Z (Bc f g).B) K]).put (H.B+1) [ic (Ip f g).h.p,sl ih4 (Z (Ip f g).h.ts) (Ad (Ip f g).h.ts),sl ip4 (Z (Ip f g).A) pc4,sl in4 (Z (Ip f g).B) nc4])=z9 at*
  have n9:z9.B=H.B+2:=by rw[<-c6];rfl
  have o9:z9.C H.B=[ic (Bc f g).h.p,sl J (Z (Bc f g).h.ts) (Ad (Bc f g).h.ts),sl L (Z (Bc f g).A) N,sl O (Z (Bc f g).B) K]:=by rw[<-c6,Aj AA,Ak]
  clear c6;refine A2 (Q:=λe X z''=>e= .normal/\X 0=ptr om 0/\X 5=sl idv (Z vt+1) (ic y::List.map ic vt)/\X 6=ptr H.B 0/\(∃idn,X 70=sl idn (Z F) (As F))/\X 71=ic (Z F)/\X 72=ic 0/\AD z9 z'') ?_ ?_
  ·refine Ar Ag (λ_=>True) [] [0,1,2,3,6] 2 (nv 7 79) AH (λ_ _ _ h=>by cases h.1) ?_;intro yb ya;refine Z3 ?_;refine ya.o _ ?_;clear ya yb;refine Ai (i:=4) AH ?_;refine Am ?_;intro yb ya;refine Z3 ?_;refine AF.mono (dz _) ?_;rintro _ za ⟨⟨idn,rfl⟩,a3⟩;refine Z3 ?_;refine ya.o _ _ ⟨Al a3,?_⟩;clear ya yb;refine Df [5] AH AH (λ_ _ _ h=>by cases h.1) a3.B (λo ho _=>a3.ver o ho) ?_;intro yb ya;refine Z3 ?_;refine ya.o _ _ ⟨rfl,?_⟩;refine⟨by simp[upd,AL],AG,AG,⟨idn,AG⟩,AI,AG,a3⟩
  rintro e s z9' ⟨rfl,g0,g5,g6,⟨idn,g70⟩,g71,g72,a3⟩;have kna:=a3.B;have dl:=d5.trans a3;have oa:z9'.C H.B=[ic (Bc f g).h.p,sl J (Z (Bc f g).h.ts) (Ad (Bc f g).h.ts),sl L (Z (Bc f g).A) N,sl O (Z (Bc f g).B) K]:=by rw[a3.C _ AA,o9]
  have d4:BL z9' om ot M d b:=P.keep dl;have ff:om≠H.B:=by have:=P.lo;omega
  have fe:ot≠H.B:=by have:=P.lt;omega
  refine mr ?_
  refine Ae (λm s E=>∃(j:Nat) (I:MM) (R:Int),m=Z F-j/\j<=Z F/\s 0=ptr om 0/\s 5=sl idv (Z vt+1) (ic y::List.map ic vt)/\s 6=ptr H.B 0/\s 70=sl idn (Z F) (As F)/\s 71=ic (Z F)/\s 72=ic j/\BL E om ot I R b/\KM om ot M I z E/\H.B<E.B/\E.C H.B=[ic (Bc f g).h.p,sl J (Z (Bc f g).h.ts) (Ad (Bc f g).h.ts),sl L (Z (Bc f g).A) N,sl O (Z (Bc f g).B) K]/\R<=1000000/\AC (DV k (aF neg q) M I d R/\(¬b<R->∀n∈F.take j,∀t,aF neg (Dl y n (Bc f g)) t->t∈Ba I k))) (Z F)
   ⟨0,M,d,AA,AA,g0,g5,g6,g70,g71,g72,d4,KM.ofKeep dl,AA,oa,cm,DV.refl _ _ _ _,λ_ n hn=>by simp at hn⟩ ?_
  clear g0 g5 g6 g70 g71 g72 d4 dl oa kna a3 o9 d5;rintro m s E ⟨j,I,R,rfl,hj,g0,g5,g6,g70,g71,g72,cr,b6,c8,ob',ck,an⟩;by_cases ei:j<Z F
  ·have av:=AK ei;obtain⟨r,eo⟩:=D2 av;generalize F[j]=n at eo av;have fg:AC (F.take (j+1)=F.take j++[n]):=by rw[AC,AT,av,BN]
   clear av;have d3:=e0 n;have ea:AC (∀c5,EQ (Dl y n (Bc f g)) c5->∀z,BL z om ot I R b->ni 139 [ptr om 0,ag c5] z λr E=>∃M' Y,BL E om ot M' Y b/\KM om ot I M' z E/\DV k (aF neg (Dl y n (Bc f g))) I M' R Y/\Y<=1000000/\(¬b<Y->∀t,aF neg (Dl y n (Bc f g)) t->t∈Ba M' k)):=λc5 bo=>e9.o n c5 I R bo an.o.1 ck;refine mr ?_;refine A2 (Q:=λe X z''=>e= .normal/\X 0=ptr om 0/\X 5=sl idv (Z vt+1) (ic y::List.map ic vt)/\X 6=ptr H.B 0/\X 70=sl idn (Z F) (As F)/\X 71=ic (Z F)/\X 72=ic j/\∃o c5,X 10=ptr o 0/\o<z''.B/\z''.C o=c5/\EQ (Dl y n (Bc f g)) c5/\AD E z'') ?_ ?_
   ·refine Ar Ag (λ_=>True) [7] [0,1,2,3,4] 3 (nv 8 31) AH (λ_ _ _ h=>by cases h.1) ?_;intro yb ya;refine Z3 ?_;refine ya.o _ ?_;clear ya yb;refine D8 (rs:=[5,6]) AH nk ?_;intro i hi;simp only[BD,EK,DZ]at hi;rcases hi with rfl|rfl
    ·refine Am ?_;intro yb ya;refine Z3 ?_;refine AF.mono (d3 _) ?_;rintro _ zb ⟨⟨_,rfl,ih5,ip5,in5,pc5,nc5,rfl,dd,dh⟩,az⟩;have knb:=az.B;refine Z3 ?_;refine ya.o _ _ ⟨Al az,?_⟩;clear ya yb;refine Ai (i:=6) AH ?_;refine Am ?_;intro yb ya;refine Z3 ?_;refine ya.o _ _ ⟨Al (az.new _),?_⟩;clear ya yb;refine Ai (i:=7) AH ?_;refine Am ?_;intro yb ya;refine Z3 ?_;refine ya.o _ _ ⟨A3 rfl,?_⟩;clear ya yb;refine Aw AH ⟨rfl,AI,AI,AI,AI,AI,AI,zb.B,_,AG,BJ,Ak,⟨ih5,ip5,in5,pc5,nc5,rfl,dd,dh⟩,(az.new _).put knb _⟩
    refine Am ?_;intro yb ya;refine Z3 ?_;refine ya.o _ _ ⟨Al ((AD.refl _).new _),?_⟩;clear ya yb;refine Ai (i:=5) AH ?_;refine Am ?_;intro yb ya;refine Z3 ?_;refine AF.mono (d3 _) ?_;rintro _ zb ⟨⟨_,rfl,ih5,ip5,in5,pc5,nc5,rfl,dd,dh⟩,az⟩;have knb:=az.B;simp only[Aa]at knb;have obb:=az.C E.B AM;rw[Ao]at obb;refine Z3 ?_;refine ya.o _ _ ⟨Al (((AD.refl _).new _).trans az),?_⟩;clear ya yb;refine Ai (i:=7) AH ?_;refine Am ?_;intro yb ya;refine Z3 ?_;refine ya.o _ _ ⟨A3 rfl,?_⟩;clear ya yb;refine Aw AH ⟨rfl,AI,AI,AI,AI,AI,AI,E.B,_,AG,by simp only[Ac];omega,Ak,⟨ih5,ip5,in5,pc5,nc5,rfl,dd,dh⟩,(((AD.refl _).new _).trans az).put (AU _) _⟩
   rintro e s2 zc ⟨rfl,f0,f5,f6,f70,f71,f72,oo,c5,f10,fl,oc5,bo,ct⟩;have knc:=ct.B;have fc:=λz=>ea.o c5 bo z;obtain⟨ih5,ip5,in5,pc5,nc5,rfl,-,-⟩:=bo;have eh:zc.C H.B=[ic (Bc f g).h.p,sl J (Z (Bc f g).h.ts) (Ad (Bc f g).h.ts),sl L (Z (Bc f g).A) N,sl O (Z (Bc f g).B) K]:=by rw[ct.C _ c8,ob']
   clear ea;refine m0 ?_;intro yb ya;refine Xi (fc _ (cr.keep ct)) ?_;rintro _ _ ⟨M2,d2,e6,bg,d9,ep,a6⟩;(have ds:AC _:=d9;have fj:AC _:=a6;clear d9 a6;have dn:=(b6.trans (KM.ofKeep ct)).trans bg;have ec:=bg.C H.B AA ff.symm fe.symm;have kn2:=bg.B);refine mr ?_;have HN:AC (DV k (aF neg q) M M2 d d2/\(¬b<d2->∀n∈F.take (j+1),∀t,aF neg (Dl y n (Bc f g)) t->t∈Ba M2 k)):=by
    refine⟨an.o.1.trans (ds.o.mono (dr.o n)),λc9 u hu t ht=>?_⟩;rw[fg.o]at hu;rcases AW.1 hu with hu|hu
    ·have fo:=ds.o.le;exact ds.o.sub (an.o.2 AA u hu t ht)
    simp at hu;subst hu;exact fj.o c9 t ht
   refine⟨Z F-(j+1),AA,j+1,M2,d2,?_⟩
   ((repeat' refine Zi ?_ ?_)<;>first|exact Xq|exact e6|exact dn|exact HN|exact (by rw[ec,eh])|exact Xs)
  have ek:j=Z F:=AA;subst ek;refine mr ?_;refine⟨_,rfl,I,R,cr,b6,an.o.1,ck,λc9 t ht=>?_⟩;obtain⟨n,hn,h1⟩:=dt.o t ht;rw[fh.o]at hn;exact an.o.2 c9 n (by rw[AS];exact hn) t h1
def gW (neg om ot b):∀(n:Nat) (V:List Int),Z V<=n->PD neg om ot b V:=by
 intro n;induction n with
 |zero=>exact λV c=>Sb neg om ot b V (λa h=>AA)
 |succ n d=>exact λV c=>Sb neg om ot b V (λa h=>d a AA)
def Sh (ar:Nat->Nat)(k:Nat)(t:Ck):Prop:=∃l:List Int,t=Ej l/\Z l=ar k/\∀x∈l,∃n:Nat,x=(n:Int)/\n<1026
structure RW (np:Nat)(ar:Nat->Nat)(r:E3):Prop where
 rok:TS np r
 nne:∀l∈r.A,l.neg=true->l.a.p≠r.h.p
 har:Z r.h.ts=ar r.h.p.toNat
 bar:∀l∈r.A,Z l.a.ts=ar l.a.p.toNat
 hc:∀t∈r.h.ts,t.1=false->∃n:Nat,t.2=(n:Int)/\n<1026
 hv:∀v,(true,v)∈r.h.ts->0<=v/\v<26
 bv:∀l∈r.A,∀v,(true,v)∈l.a.ts->0<=v/\v<26
 safe:∀v,(Bm r.h.ts v=true\/∃l∈r.A,l.neg=true/\Bm l.a.ts v=true)->∃l∈r.A,l.neg=false/\Bm l.a.ts v=true
def YK {a}(d:Z a.ts<=3)(ν):Mp a.ts (B8 a ν)=true:=by
 unfold Mp;rw[CX];intro i c;have c:i<Z a.ts:=nn c;have e:(B8 a ν)[i]?=some (Ei ν a.ts[i]):=by
  unfold B8;rw[Ku (nn c) (nn d)];simp
 unfold Ux;rw[AK c,e];cases g:a.ts[i]with
 |mk b n=>
  cases b with
  |false=>simp[Ei]
  |true=>
   have f:(true,n)∈a.ts:=by rw[<-g];exact AR c
   have:=J5 (ν:=ν) d (AO.2 f);unfold Iu at this;simp only;rw[this];simp[Ei]
def YE {a t l}(o:Z a.ts<=3)(d:t=Ej l)(g:Z l=Z a.ts)(c:Mp a.ts t=true):∃μ,t=B8 a μ:=by
 refine⟨λv=>Iu t (Jp a.ts v),?_⟩;have:a.ts.map (Ei λv=>Iu t (Jp a.ts v))=l:=by
  apply List.ext_getElem (by simp[g]);intro i m k;have e:i<Z a.ts:=nn m;unfold Mp at c;rw[CX]at c;have h:=c i (nn e);have f:t[i]?=some l[i]:=by rw[d,Ku k AA]
  unfold Ux at h;rw[AK e,f]at h;rw[List.getElem_map];cases j:a.ts[i]with
  |mk b n=>
   rw[j]at h;cases b with
   |false=>
    simp only[DO]at h;simp[Ei,h]
   |true=>
    simp only[DO]at h;rw[h];simp[Ei,Iu]
 unfold B8;rw[this,d]
def oQ {M a b i l t}(h:t∈Zq M a b i l):t∈Ba M l.a.p:=by
 unfold Zq at h;split at h;exact List.mem_of_mem_drop h;exact h
def Jw {M a c b p}(h:p∈Pf M a c b):∃(l:Lit) (i:Nat),b[i]?=some l/\l.neg=false/\p=oR M a c (l,i):=by
 unfold Pf at h;obtain⟨⟨l,i⟩,d,rfl⟩:=AN.1 h;obtain⟨f,e⟩:=BP.1 d;have:=List.mem_zipIdx_iff_getElem?.1 f;exact⟨l,i,nn this,nn e,rfl⟩
def vZ {M a c b l i}(h:b[i]?=some l)(d:l.neg=false):oR M a c (l,i)∈Pf M a c b:=by
 unfold Pf;refine AN.2 ⟨(l,i),BP.2 ⟨List.mem_zipIdx_iff_getElem?.2 (nn h),by simp[d]⟩,rfl⟩
def lu (ar:Nat->Nat)(M:MM):Prop:=∀(k:Nat) (t:Ck),t∈Ba M (k:Int)->Sh ar k t
def ZT {z V S M d b ar r}(O:BL z V S M d b)(K:lu ar M)(f:RW (Z M) ar r)(nw fr):Tz (Mc M nw fr r)/\QV (Mc M nw fr r)/\∀v,FA (Mc M nw fr r) v->v∈(List.range 26).map λn:Nat=>(n:Int):=by
 have B:∀l∈r.A,∃k:Nat,l.a.p=(k:Int)/\k<Z M:=f.rok.bp;have C:∀a∈Tv r.A,∃l∈r.A,l.neg=true/\l.a=a:=λa q=>by
  obtain⟨l,o,rfl⟩:=AN.1 q;obtain⟨c,g⟩:=BP.1 o;exact⟨l,c,g,rfl⟩
 have X:Z (Tv r.A)<=Z r.A:=by
  unfold Tv;rw[BV];exact IS _ _
 have L:∀l∈r.A,T3 (Ba M l.a.p)/\Z (Ba M l.a.p)<=5000:=λl o=>by
  obtain⟨k,e,H⟩:=B l o;have T:M[k]?=some M[k]:=AK H;rw[e,Cp T];have G:=AR H;exact⟨O.t3 _ G,O.ln _ G⟩
 have D:Z (Pf M nw fr r.A)<=Z r.A:=by
  unfold Pf;rw[BV];refine BI (IS _ _) nk
 have E:∀(l:Lit) (i:Nat),∀t∈(oR M nw fr (l,i)).A,t∈Ba M l.a.p/\Mp l.a.ts t=true:=λl i t y=>by
  obtain⟨c,g⟩:=BP.1 y;exact⟨oQ c,g⟩
 have P:∀v,FA (Mc M nw fr r) v->0<=v/\v<26:=λv ⟨a,q,u⟩=>by
  unfold atomsQ Mc at q;simp only[BD,AW,AN]at q;rcases q with rfl|⟨p,s,rfl⟩|q;exact f.hv v (AO.1 u);obtain⟨l,i,c,g,rfl⟩:=Jw s;exact f.bv l (AY c) v (AO.1 u);obtain⟨l,c,g,rfl⟩:=C a q;exact f.bv l c v (AO.1 u)
 refine⟨⟨⟨f.rok.hd,BI D f.rok.bl,BI X f.rok.bl,λp s=>?_,λp s=>?_,λp s=>?_,λa q=>?_⟩,λp s t y=>?_,λp s=>?_,λv u=>?_⟩,λa q v u=>(P v ⟨a,q,AO.2 u⟩).1,λv u=>?_⟩;obtain⟨l,i,c,g,rfl⟩:=Jw s;exact f.rok.ba l (AY c);obtain⟨l,i,c,g,rfl⟩:=Jw s;have x:=(L l (AY c)).2;refine BI (IS _ _) ?_;unfold Zq;split;simp;omega;exact x;obtain⟨l,i,c,g,rfl⟩:=Jw s;exact λt y=>(L l (AY c)).1 t (E l i t y).1;obtain⟨l,c,g,rfl⟩:=C a q;exact f.rok.ba l c;obtain⟨l,i,c,g,rfl⟩:=Jw s;have o:=AY c;obtain⟨k,e,-⟩:=B l o;have x:=(E l i t y).1;rw[e]at x;obtain⟨m,rfl,F,J⟩:=K k t x;intro j U;have I:Z m=Z l.a.ts:=by rw[F,f.bar l o,e];rfl
 have N:j<Z m:=by rw[I];exact U
 obtain⟨n,R,Q⟩:=J m[j] (AR N);exact⟨n,by rw[Ku N (by rw[I];exact f.rok.ba l o),R],Q⟩;obtain⟨l,i,c,g,rfl⟩:=Jw s;have o:=AY c;refine⟨f.rok.ba l o,λt y=>?_⟩;obtain⟨k,e,-⟩:=B l o;obtain⟨x,h4⟩:=E l i t y;rw[e]at x;obtain⟨m,A,F,J⟩:=K k t x;exact YE (a:=l.a) (f.rok.ba l o) A (by rw[F,f.bar l o,e];rfl) h4
 obtain⟨l,o,ap,Y⟩:=f.safe v (by
  rcases u with h|⟨a,q,h⟩;exact .inl h;obtain⟨l,c,g,rfl⟩:=C a q
  exact .inr ⟨l,c,g,h⟩)
 obtain⟨i,W⟩:=CL o;exact⟨oR M nw fr (l,i),vZ W ap,Y⟩;obtain⟨c,g⟩:=P v u;rw[AN];exact⟨v.toNat,by simp;omega,AA⟩
def vY {neg M g j ar r t}(k:RW (Z M) ar r):aF neg (Mc M g j r) t↔∃ν,(∀(l:Lit) (i:Nat),r.A[i]?=some l->l.neg=false->B8 l.a ν∈Zq M g j i l)/\(∀l∈r.A,l.neg=true->¬neg l.a.p (B8 l.a ν))/\t=B8 r.h ν:=by
 constructor;rintro⟨ν,b,rfl⟩;refine⟨ν,λl i n f=>?_,λl d f=>b.2 l.a (AN.2 ⟨l,BP.2 ⟨d,f⟩,rfl⟩),rfl⟩;have:=b.1 _ (vZ n f);exact (BP.1 this).1;rintro⟨ν,h,m,rfl⟩;refine⟨ν,⟨λp q=>?_,λa o=>?_⟩,rfl⟩;obtain⟨l,i,c,e,rfl⟩:=Jw q;exact BP.2 ⟨h l i c e,YK (k.rok.ba l (AY c)) ν⟩;obtain⟨l,d,rfl⟩:=AN.1 o;obtain⟨c,e⟩:=BP.1 d;exact m l c e
abbrev Gb:=Nat->Ck->Prop
def KG (R:List E3)(D:Gb):Prop:=∀r∈R,∀a,(∀l∈r.A,D l.a.p.toNat (B8 l.a a))->D r.h.p.toNat (B8 r.h a)
def Lk (N D:Gb)(ν:Nu)(l:Lit):Prop:=if l.neg=true then¬N l.a.p.toNat (B8 l.a ν)else D l.a.p.toNat (B8 l.a ν)
def NL (R:List E3)(N D:Gb):Prop:=∀r∈R,∀a,(∀l∈r.A,Lk N D a l)->D r.h.p.toNat (B8 r.h a)
def iE {R N D}(h:∀r∈R,∀l∈r.A,l.neg=false):NL R N D↔KG R D:=by
 have d:∀r∈R,∀a,(∀l∈r.A,Lk N D a l)↔∀l∈r.A,D l.a.p.toNat (B8 l.a a):=λr b a=>by
  constructor;intro g l e;have:=g l e;unfold Lk at this;rw[h r b l e]at this;simpa using this;intro g l e;unfold Lk;rw[h r b l e];simpa using g l e
 exact⟨λg r b a c=>g r b a ((d r b a).2 c),λg r b a c=>g r b a ((d r b a).1 c)⟩
def MD (M:MM):Gb:=λk t=>t∈Ba M (k:Int)
def tot (M:MM):Int:=(H1 M).sum
structure BG (D:Gb)(M M':MM)(d d':Int):Prop where
 len:Z M'=Z M
 ext:∀k:Nat,∃new:List Ck,Ba M' k=Ba M k++new/\new.Nodup/\∀t∈new,D k t/\t∉Ba M k
 cnt:d'-d=tot M'-tot M
def BG.refl (D M d):BG D M M d d:=⟨rfl,λk=>⟨[],nk,GN,nk⟩,AA⟩
def BG.trans {D M j M2 d f i}(h:BG D M j d f)(g:BG D j M2 f i):BG D M M2 d i:=by
 refine⟨g.len.trans h.len,λk=>?_,by have:=h.cnt;have:=g.cnt;omega⟩;obtain⟨l,b,r,u⟩:=h.ext k;obtain⟨s,n,q,c⟩:=g.ext k;refine⟨l++s,by rw[n,b,CR],?_,?_⟩;rw[IP];exact⟨r,q,λx m y p e=>(c y p).2 (by rw[b,<-e];exact AW.2 (.inr m))⟩;intro t a;rcases AW.1 a with a|a;exact u t a;exact⟨(c t a).1,λo=>(c t a).2 (by rw[b];exact AW.2 (.inl o))⟩
def BG.sub {D M M' d b}(h:BG D M M' d b){k:Nat}{t}(a:t∈Ba M k):t∈Ba M' k:=by
 obtain⟨n,c,-,-⟩:=h.ext k;rw[c];exact AW.2 (.inl a)
def BG.inD {D M M' d c}(h:BG D M M' d c)(f:∀k t,MD M k t->D k t):∀k t,MD M' k t->D k t:=λk t a=>by
 obtain⟨n,e,-,b⟩:=h.ext k;unfold MD at a;rw[e]at a;rcases AW.1 a with a|a;exact f k t a;exact (b t a).1
def Ey (x M):tot (x::M)=(Z x.2:Int)+tot M:=by simp[tot,H1]
def Q6:∀(M M':MM) (k:Nat) (n:Nat),Z M'=Z M->(∀j,j≠k->(M'[j]?).map (·.2)=(M[j]?).map (·.2))->(k<Z M->(Z (Ba M' k):Int)=Z (Ba M k)+n)->(Z M<=k->n=0)->tot M'=tot M+n
 |[],M',k,n,a,b,c,d=>by
  have:M'=[]:=GG (nn a);subst this;have:=d nk;subst this;simp[tot,H1]
 |x::M,[],k,n,a,b,c,d=>by simp at a
 |x::M,y::M',0,n,a,b,c,d=>by
  have e:=c nk;simp[Ba]at e;have f:tot M'=tot M+(0:Nat):=Q6 M M' (Z M) 0 (nn a) (λj g=>by have:=b (j+1) AA;simpa using this) (λh=>AA) (λ_=>rfl);rw[Ey,Ey,f];omega
 |x::M,y::M',k+1,n,a,b,c,d=>by
  have e:=b 0 AA;simp at e
  have f:=Q6 M M' k n (nn a) (λj g=>by have:=b (j+1) AA;simpa using this) (λh=>by
   have:=c (by simp;omega)
   simpa[Ba]using this) (λh=>d (by simp;omega))
  rw[Ey,Ey,f,e];omega
def DV.all {k S D M M' d b}(h:DV k S M M' d b)(m:k<Z M)(g:∀t,S t->D k t):BG D M M' d b:=by
 obtain⟨n,c,i,f,l⟩:=h.ext;refine⟨h.len,λj=>?_,?_⟩;by_cases e:j=k;subst e;exact⟨n,c,i,λt a=>⟨g t (f t a).1,(f t a).2⟩⟩;refine⟨[],?_,GN,nk⟩;have:=h.oth j e;unfold Ba;simp only[DK];rw[this];simp;have:=Q6 M M' k (Z n) h.len h.oth (λ_=>by rw[c];simp) (λo=>AA);omega
def iP (a c)(h:pK a c):Z c=4:=by obtain⟨o,d,e,b,rfl,-⟩:=h;rfl
def wF {l cs i r}(h:EL pK l cs)(f:l[i]?=some r):∃o ih ib a b,cs.drop (i*4)=my o::ic r.h.p::sl ih (Z r.h.ts) (Ad r.h.ts)::sl ib (Z r.A) a::b/\EL Sq r.A a:=by
 obtain⟨c,b,⟨o,ih,ib,a,rfl,d⟩,e⟩:=EL.get iP h f;exact⟨o,ih,ib,a,b,e,d⟩
def IA (R:List E3)(D:Gb)(M:MM):Prop:=∀r∈R,∀l∈r.A,l.neg=true->∀t,D l.a.p.toNat t->MD M l.a.p.toNat t
def IA.gro {R D M M' d a}(h:IA R D M)(g:BG D M M' d a):IA R D M':=λr c l e f t b=>g.sub (h r c l e f t b)
def NW (D:Gb):Int->Ck->Prop:=λp t=>D p.toNat t
structure LN (np:Nat)(ar:Nat->Nat)(R:List E3)(D:Gb):Prop where
 rw:∀r∈R,RW np ar r
 cl:NL R D D
 sh:∀k t,D k t->Sh ar k t
def ZS {np ar R D M f q r}(c:LN np ar R D)(p:Z M=np)(a:r∈R)(n:∀k t,MD M k t->D k t){t}(j:aF (NW D) (Mc M f q r) t):D r.h.p.toNat t:=by
 obtain⟨g,s,o,rfl⟩:=(vY (ar:=ar) (p ▸ c.rw r a)).1 j;refine c.cl r a g (λl b=>?_);unfold Lk;cases e:l.neg with
 |true=>simpa[NW]using o l b e
 |false=>
  obtain⟨i,m⟩:=CL b;obtain⟨k,d,-⟩:=(c.rw r a).rok.bp l b;have:=oQ (s l i m e);rw[d]at this;simp only[EI,if_false];rw[d];exact n k _ this
def Zp {np ar R D}(v:LN np ar R D)(om ot b)(ak: -1000000<=b)(V:b<=900000)(M d)(L:Z M=np)(A:∀k t,MD M k t->D k t)(P:IA R D M)(F:Room M d b)(Q: -1000000<=d)(T:d<=1000000)(r)(u:r∈R)(nw fr c)(hc:EQ (Mc M nw fr r) c)(z)(G:BL z om ot M d b):
  ni 139 [ptr om 0,ag c] z λx s=>∃M' g,BL s om ot M' g b/\KM om ot M M' z s/\BG D M M' d g/\Room M' g b/\g<=1000000/\d<=g/\(¬b<g->∀ν,(∀(l:Lit) (i:Nat),r.A[i]?=some l->l.neg=false->B8 l.a ν∈Zq M nw fr i l)->(∀l∈r.A,l.neg=true->¬D l.a.p.toNat (B8 l.a ν))->MD M' r.h.p.toNat (B8 r.h ν)):=by
 have p:RW (Z M) ar r:=L ▸ v.rw r u;obtain⟨a1,X,Y⟩:=ZT G (λk t n=>v.sh k t (A k t n)) p nw fr;obtain⟨k,y,N⟩:=p.rok.hp;have J:∀a∈(Mc M nw fr r).B,∃l∈r.A,l.neg=true/\l.a=a:=λa o=>by
  obtain⟨l,hl,rfl⟩:=AN.1 o;obtain⟨f,m⟩:=BP.1 hl;exact⟨l,f,m,rfl⟩
 have b1:BO (NW D) M (Mc M nw fr r):=λa o=>by
  obtain⟨l,f,m,rfl⟩:=J a o;obtain⟨j,K,S⟩:=p.rok.bp l f;have I:M[j]?=some M[j]:=AK S;refine⟨j,M[j],K,I,λt=>?_⟩;have E:=Cp I;have e:l.a.p.toNat=j:=by rw[K];rfl
  unfold NW;rw[e];constructor;intro n;have:=P r u l f m t (by rw[e];exact n);rw[e]at this;unfold MD at this;rwa[E]at this;intro n;exact A j t (by unfold MD;rw[E];exact n)
 have U:∀a∈(Mc M nw fr r).B,a.p≠(k:Int):=λa o e=>by
  obtain⟨l,f,m,rfl⟩:=J a o;exact p.nne l f m (by rw[e,y])
 have:=gW (NW D) om ot b _ _ (AU _) (Mc M nw fr r) c k M d hc a1 b1 U X y N F Q T ak V Y z G;refine AF.mono this ?_;rintro x s ⟨M',g,f,m,B,h4,O⟩;have H:r.h.p.toNat=k:=by rw[y];rfl
 refine⟨M',g,f,m,B.all N (λt n=>by rw[<-H];exact ZS v L u A n),B.room F,h4,B.le,λW ν C q=>?_⟩;unfold MD;rw[H];exact O W _ ((vY p).2 ⟨ν,C,q,rfl⟩)
def DD (D:Gb)(c M':MM)(a:List Int)(r:E3)(j:Nat):Prop:=∀(i:Nat) (l:Lit),i<j->r.A[i]?=some l->l.neg=false->∀b,(∀d∈r.A,Lk D (MD c) b d)->B8 l.a b∈(Ba c l.a.p).drop ((a[l.a.p.toNat]?).getD 0).toNat->MD M' r.h.p.toNat (B8 r.h b)
def DD.mono {D c b M2 a r j f k}(h:DD D c b a r j)(g:BG D b M2 f k):DD D c M2 a r j:=λi l m e o d p n=>g.sub (h i l m e o d p n)
def Uz {np ar R D}(V:LN np ar R D)(om ot b)(cd: -1000000<=b)(cc:b<=900000)(M d)(hn:Z M=np)(hD:∀k t,MD M k t->D k t)(ci:IA R D M)(cf:Room M d b)(db: -1000000<=d)(ca:d<=1000000)(rc idr)(bd:EL pK R rc)(dd:Z R<=1000)(seen ids)(bz:Z seen=np)(b1:∀n∈seen,0<=n/\n<=5000)(z)(hM:BL z om ot M d b):
  ni 141 [ptr om 0,sl idr (Z R) rc,sl ids (Z seen) (As seen)] z λx q=>∃M' u,BL q om ot M' u b/\KM om ot M M' z q/\BG D M M' d u/\Room M' u b/\u<=1000000/\d<=u/\(¬b<u->∀r∈R,DD D M M' seen r (Z r.A)):=by
 have cz:=EL.length iP bd;have cx:=B9 seen;have hpl:=hM.pl;have cy:np<=Z seen:=AA;have c8:Z M<=np:=AA;have c7:np<=Z M:=AA;have bo:AC (Z M=np):=hn;clear bz hn;refine Z9 59 [] Tryz.func141 ?_;refine mr ?_
 refine Ae (λm s q=>∃(k:Nat) (H:MM) (E:Int),m=Z R-k/\k<=Z R/\s 0=ptr om 0/\s 2=sl ids (Z seen) (As seen)/\s 12=sl idr (Z R) rc/\s 13=ic (Z R)/\s 14=ic k/\BL q om ot H E b/\KM om ot M H z q/\E<=1000000/\d<=E/\AC (BG D M H d E/\Room H E b/\(¬b<E->∀r∈R.take k,DD D M H seen r (Z r.A)))) (Z R)
  ⟨0,M,d,AA,AA,by simp[upd,AL],by simp[upd,AL],AG,AG,rfl,hM,KM.ofKeep (AD.refl _),ca,AA,BG.refl _ _ _,cf,λ_ r hr=>by simp at hr⟩ ?_
 rintro m s q ⟨k,H,E,rfl,hk,h0,h2,bn,bm,bi,Q,an,am,ak,g⟩;by_cases be:k<Z R
 ·have I:=AK be;obtain⟨o,ih,ib,W,rr,hd,hB⟩:=wF bd I;have P:=AR be;generalize R[k]=r at hd I P hB;have cv:AC (R.take (k+1)=R.take k++[r]):=by rw[AC,AT,I,BN]
  clear I;have dc:=EL.length Hk hB;have cb:=(V.rw r P).rok.bl;have l1:=Q.lo;have l2:=Q.lt;refine mr ?_
  refine Ae (λm s L=>∃(j:Nat) (a:MM) (c:Int),m=Z r.A-j/\j<=Z r.A/\s 0=ptr om 0/\s 2=sl ids (Z seen) (As seen)/\s 7=ptr q.B 0/\s 12=sl idr (Z R) rc/\s 13=ic (Z R)/\s 14=ic k/\s 19=sl ib (Z r.A) W/\s 20=ic (Z r.A)/\s 21=ic j/\BL L om ot a c b/\KM om ot M a z L/\q.B<L.B/\L.C q.B=[my o,ic r.h.p,sl ih (Z r.h.ts) (Ad r.h.ts),sl ib (Z r.A) W]/\c<=1000000/\d<=c/\AC (BG D M a d c/\Room a c b/\(¬b<c->(∀r∈R.take k,DD D M a seen r (Z r.A))/\DD D M a seen r j))) (Z r.A)
   ⟨0,H,E,AA,AA,AI,AI,AG,AI,AI,AI,AG,AG,rfl,Q.keep (((AD.refl _).new _).put (AU _) _),an.trans (KM.ofKeep (((AD.refl _).new _).put (AU _) _)),BJ,Ak,am,ak,g.o.1,g.o.2.1,λh=>⟨g.o.2.2 h,λi l hi=>AA⟩⟩ ?_
  have cu:om≠q.B:=AA;have ct:ot≠q.B:=AA;clear h0 h2 bn bm bi Q an g am ak l1 l2;rintro m s L ⟨j,a,c,rfl,hj,h0,h2,h7,bn,bm,bi,dh,df,de,C,au,c6,br,a8,b9,g⟩;have l1:=C.lo;have l2:=C.lt;by_cases ay:j<Z r.A
  ·have I:=AK ay;obtain⟨id,r2,aj⟩:=H8 hB I;have bf:=AR ay;generalize r.A[j]=w at aj I bf;obtain⟨p,hp,c5⟩:=(V.rw r P).rok.bp w bf;have HW:AC (r.A[j]?=some w):=I;clear I;rw[hp]at aj;have a3:seen[p]?=some seen[p]:=AK AA;obtain⟨rs,b7⟩:=D2 a3;have b0:=b1 _ (AR (show p<Z seen by omega));generalize seen[p]=f at a3 b7 b0;obtain⟨G,rfl⟩:∃G:Nat,f=(G:Int):=⟨f.toNat,AA⟩;have cm:Z a<=Z M/\Z M<=Z a:=by have:=g.o.1.len;omega
   have ai:a[p]?=some a[p]:=AK AA;generalize a[p]=y at ai;have da:=Jj ai;have cw:=C.ln y (AY ai);have c9:=Ji a;have obm:=C.ob;have obt:=C.oc;have b2:=C.pl;have ce:AC (Ba a (p:Int)=y.2):=Cp ai
   --what this literal's turn must bring
   have ac:AC (∀A B,BG D a A c B->(¬b<B->w.neg=false->∀v,(∀l'∈r.A,Lk D (MD M) v l')->B8 w.a v∈(Ba M w.a.p).drop G->MD A r.h.p.toNat (B8 r.h v))->c<=B->(¬b<B->(∀r∈R.take k,DD D M A seen r (Z r.A))/\DD D M A seen r (j+1))):=λA B bg ah b3 a5=>by
    obtain⟨N,T⟩:=g.o.2.2 AA;refine⟨λr' az=>(N r' az).mono bg,λi l hi J U v X F=>?_⟩;by_cases e:i=j
    ·subst e;rw[HW.o]at J;obtain rfl:=Gf J;refine ah a5 U v X ?_;rw[hp]at F⊢;rw[DK,a3]at F;simpa using F
    exact bg.sub (T i l AA J U v X F)
   cases ae:w.neg with
   |true=>
    have K:AC (BG D M a d c/\Room a c b/\(¬b<c->(∀r∈R.take k,DD D M a seen r (Z r.A))/\DD D M a seen r (j+1))):=
     ⟨g.o.1,g.o.2.1,ac.o a c (BG.refl _ _ _) (λ_ hh=>by rw[ae]at hh;cases hh) AA⟩
    rw[ae]at aj;clear ac ae;refine mr ?_;refine Ax Ag (λ_=>True) [] [0,1,2,3,4,5,6,7,8,9,10,11,12,13,14,15,16] [] AH (λ_ _ _ h=>h) ?_;intro yb ya;refine mr ?_;refine⟨Z r.A-(j+1),AA,j+1,a,c,?_⟩
    ((repeat' refine Zi ?_ ?_)<;>first|exact Xq|exact K|exact (C.keep (((AD.refl _).new _).put (AU _) _))|exact (au.trans (KM.ofKeep (((AD.refl _).new _).put (AU _) _)))|exact Xs)
   |false=>
    rw[ae]at aj;clear ae;refine mr ?_;refine Ax Ag (λ_=>True) [] [0,1,2,3,4,5,6,7,8,9,10,11,12,13,14,15,16] [] AH (λ_ _ _ h=>h) ?_;intro yb ya;by_cases a6:G<Z y.2
    ·have b6:decide ((G:Int)<(Z y.2:Int))=true:=by simp;exact a6
     have cr:=λz (h:BL z om ot a c b)=>eV om ot a c b r [my o,ic r.h.p,sl ih (Z r.h.ts) (Ad r.h.ts),sl ib (Z r.A) W] (j:Int) G ⟨o,ih,ib,W,rfl,hB⟩ (by have:=g.o.1.len;rw[this,bo.o];exact (V.rw r P).rok) AA z h;have cp:AC (∀c3,EQ (Mc a (j:Int) G r) c3->∀z,BL z om ot a c b->ni 139 [ptr om 0,ag c3] z λx q=>∃M' u,BL q om ot M' u b/\KM om ot a M' z q/\BG D a M' c u/\Room M' u b/\u<=1000000/\c<=u/\(¬b<u->∀v,(∀(l:Lit) (i:Nat),r.A[i]?=some l->l.neg=false->B8 l.a v∈Zq a (j:Int) G i l)->(∀l∈r.A,l.neg=true->¬D l.a.p.toNat (B8 l.a v))->MD M' r.h.p.toNat (B8 r.h v))):=λc3 h3 z hh=>
      Zp V om ot b cd cc a c (by have:=g.o.1.len;rw[this];exact bo.o) (g.o.1.inD hD) (ci.gro g.o.1) g.o.2.1 AA a8 r P (j:Int) G c3 h3 z hh
     clear a6
     (repeat (refine m0 ?_;intro yb ya;(first|(refine Xi (cr _ (C.keep (Xs))) ?_;rintro _ _ ⟨⟨_,rfl,ih3,ip3,in3,pc3,nc3,rfl,ch,cj⟩,ba⟩;(have a0:=ba.B;have ax:=ba.C;simp only[Ac,Aa]at a0 ax;have cn:=(((AD.refl L).new _).put (AU _) _).trans ba;have cq:=cp.o _ ⟨ih3,ip3,in3,pc3,nc3,rfl,ch,cj⟩))|(refine Xi (cq _ (C.keep (Xs))) ?_;rintro _ _ ⟨A,B,ck,ap,bh,cg,b8,a7,ah⟩;(have bq:AC _:=bh;have bb:AC _:=ah;clear bh ah;have kn3:=ap.B;simp only[Ac,Aa]at kn3;have bw:=ap.C q.B (by simp only[Ac,Aa];omega) cu.symm ct.symm;have a9:=(au.trans (KM.ofKeep ((cn.new _).put AA _))).trans ap)))));refine mr ?_
     have K:AC (BG D M A d B/\Room A B b/\(¬b<B->(∀r∈R.take k,DD D M A seen r (Z r.A))/\DD D M A seen r (j+1))):=by
      refine⟨g.o.1.trans bq.o,cg,ac.o A B bq.o (λa5 _ v X F=>bb.o a5 v (λl i J U=>?_) (λl J U=>by
       have:=X l J;unfold Lk at this;rw[U]at this
       simpa using this)) a7⟩
      have ao:=AY J;obtain⟨p',a4,-⟩:=(V.rw r P).rok.bp l ao;obtain⟨nw,Y,-,-⟩:=g.o.1.ext p';unfold Zq;by_cases e:(i:Int)=(j:Int)
      ·rw[if_pos e];have:i=j:=AA;subst this;rw[HW.o]at J;obtain rfl:=Gf J;rw[a4]at F⊢;rw[Y,List.drop_append];exact AW.2 (.inl F)
      rw[if_neg e];have:=X l ao;unfold Lk MD at this;rw[U,a4]at this;simp only[EI,if_false,DK]at this;rw[a4,Y];exact AW.2 (.inl this)
     refine⟨Z r.A-(j+1),AA,j+1,A,B,?_⟩;have bv:∀S:St,S.C q.B=L.C q.B->S.C q.B=[my o,ic r.h.p,sl ih (Z r.h.ts) (Ad r.h.ts),sl ib (Z r.A) W]:=λS e=>by rw[e,br]
     have bu:=bv _ (by rw[bw,Aj AA,Ah AA,ax _ AA,Aj AA,Ah AA])
     ((repeat' refine Zi ?_ ?_)<;>first|exact Xq|exact K|exact ck|exact a9|exact bu|exact Xs)
    have b6:decide ((G:Int)<(Z y.2:Int))=false:=by simp;omega
    have K:AC (BG D M a d c/\Room a c b/\(¬b<c->(∀r∈R.take k,DD D M a seen r (Z r.A))/\DD D M a seen r (j+1))):=by
     refine⟨g.o.1,g.o.2.1,ac.o a c (BG.refl _ _ _) (λ_ _ v _ F=>?_) AA⟩;exfalso;obtain⟨nw,Y,-,-⟩:=g.o.1.ext p;rw[ce.o]at Y;have b3:Z (Ba M (p:Int))<=Z y.2:=by rw[Y];simp
     rw[hp,JU AA]at F;cases F
    clear a6 ac;refine mr ?_;refine⟨Z r.A-(j+1),AA,j+1,a,c,?_⟩
    ((repeat' refine Zi ?_ ?_)<;>first|exact Xq|exact K|exact (C.keep (((AD.refl _).new _).put (AU _) _))|exact (au.trans (KM.ofKeep (((AD.refl _).new _).put (AU _) _)))|exact Xs)
  have b5:j=Z r.A:=AA;subst b5;have K:AC (BG D M a d c/\Room a c b/\(¬b<c->∀r∈R.take (k+1),DD D M a seen r (Z r.A))):=by
   obtain⟨N,T,O⟩:=g.o;refine⟨N,T,λh r' az=>?_⟩;rw[cv.o]at az;rcases AW.1 az with h'|h'
   ·exact (O h).1 r' h'
   simp at h';subst h';exact (O h).2
  refine mr ?_;refine⟨Z R-(k+1),AA,k+1,a,c,?_⟩;exact m9 K
 have b4:k=Z R:=AA;subst b4;obtain⟨N,T,O⟩:=g.o;rw[AS]at O;refine mr ?_
 first|exact⟨_,rfl,H,E,Q,an,N,T,am,ak,O⟩|exact⟨H,E,Q,an,N,T,am,ak,O⟩
end Go.Proofs.YtmoeoppbmhfbpabGreatDoorJ
