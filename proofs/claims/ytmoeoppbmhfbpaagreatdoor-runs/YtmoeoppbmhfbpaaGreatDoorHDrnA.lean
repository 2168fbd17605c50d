import Derived.Test.YtmoeoppbmhfbpaaGreatDoorHRunC
set_option maxHeartbeats 16000000
set_option maxRecDepth 100000
set_option linter.all false
namespace Go.Proofs.YtmoeoppbmhfbpaaGreatDoorH
open Go.Abs
abbrev PT:=Tx×Bj
def EnS (S:Hf)(L:List PT):Prop:=L.Nodup/\∀p t,(p,t)∈L↔S p t
def SbS (S:Hf)(L:List PT):Prop:=L.Nodup/\∀p t,(p,t)∈L->S p t
def Jn (L:List PT)(p:Tx):List Bj:=(L.filter fun y=>y.1==p).map (·.2)
theorem tupP_mem {L:List PT}{p:Tx}{t:Bj}:t∈Jn L p↔(p,t)∈L:=by
 unfold Jn;simp only[Acf,Ac7,Adx];constructor
 ·rintro⟨⟨q,u⟩,⟨h,rfl⟩,rfl⟩;exact h
 ·exact fun h=>⟨(p,t),⟨h,rfl⟩,rfl⟩
theorem Qv {L:List PT}(h:L.Nodup)(p:Tx):(Jn L p).Nodup:=by
 unfold Jn List.Nodup;rw[Ads];refine Adu (fun {a b} ha hb aa e=>aa ?_) (h.filter _);have h1:=(Ac7.1 ha).2;have h2:=(Ac7.1 hb).2;simp only[Adx]at h1 h2;exact Prod.ext (h1.trans h2.symm) e
theorem Pp {S:Hf}{L L':List PT}(h:EnS S L)(h':SbS S L'):L'.length<=L.length:=Sq L' L h'.1 fun⟨p,t⟩ hm=>(h.2 p t).2 (h'.2 p t hm)
theorem EnS.sb {S:Hf}{L:List PT}(h:EnS S L):SbS S L:=⟨h.1,fun p t=>(h.2 p t).1⟩
def jP (l:List RItem)(F:List RAtom)(n:Int)(x:Tx)(k e:Int):Prop:=∃(M:Hf) (L0 L:List PT),Stb l (Tk F) M/\EnS (Tk F) L0/\
 ((SbS M L/\n<(L.length:Int)-L0.length/\x=[]/\k=0/\e=9)\/(EnS M L/\¬n<(L.length:Int)-L0.length/\k=(L.length:Int)-L0.length/\e=0/\x=V3 (fun p=>D2 (Jn L p)) l))
def H4 (t f:Tx)(n:Int)(x:Tx)(k e:Int):Prop:=
 if 600<t.length\/400<f.length then x=[]/\k=0/\e=1
 else if (A3 t).1≠0 then x=[]/\k=0/\e=(A3 t).1
 else if n<0\/200<n then x=[]/\k=0/\e=6
 else∃l,Bf 16 t= .got l []/\if F1 l f≠0 then x=[]/\k=0/\e=F1 l f else∃F,Bw 400 f= .got F []/\jP l F n x k e
theorem gB {l:List RItem}{F:List RAtom}{M:Hf}(h:Stb l (Tk F) M){p:Tx}{t:Bj}(g:M p t):t.length=3:=
 (h p t).1 g (fun _ t=>t.length=3) (fun p t ⟨a,_,_,e⟩=>by rw[e];rfl) fun x _ _ ν _=>rfl
theorem xR {T T2:Tx->List Bj}(h:∀p,T p=T2 p)(l:List RItem):V3 T l=V3 T2 l:=by rw[show T=T2 from funext h]
theorem qU {l:List RItem}(hr:xJ l){F:List RAtom}{n:Int}{x x':Tx}{k k' e e':Int}(h:jP l F n x k e)(h':jP l F n x' k' e'):x=x'/\k=k'/\e=e':=by
 obtain⟨M,L0,L,s,h0,h⟩:=h;obtain⟨M',L0',L',s',aa,h'⟩:=h';have hM:M'=M:=funext fun p=>funext fun t=>propext (Stb.uniq hr s' s p t);subst hM;have a1:=Pp h0 aa.sb;have a2:=Pp aa h0.sb;rcases h with⟨h1,h2,rfl,rfl,rfl⟩|⟨h1,h2,rfl,rfl,rfl⟩
 ·rcases h' with⟨g1,g2,rfl,rfl,rfl⟩|⟨g1,g2,rfl,rfl,rfl⟩
  ·exact⟨rfl,rfl,rfl⟩
  ·have:=Pp g1 h1;omega
 ·rcases h' with⟨g1,g2,rfl,rfl,rfl⟩|⟨g1,g2,rfl,rfl,rfl⟩
  ·have:=Pp h1 g1;omega
  ·have b1:=Pp h1 g1.sb;have b2:=Pp g1 h1.sb;refine⟨xR (fun p=>Wk (Qv h1.1 p) (Qv g1.1 p) (fun t ht=>?_) (fun t ht=>?_) fun t=>?_) l,Ad2,rfl⟩
   ·exact gB s ((h1.2 p t).1 (tupP_mem.1 ht))
   ·exact gB s ((g1.2 p t).1 (tupP_mem.1 ht))
   ·rw[tupP_mem,tupP_mem,h1.2,g1.2]
theorem gU {N:List Tx}{M:MM}(ac:∀x∈M,x.2.Nodup)(aa:∀k t,MD M k t->∃q∈N,k=N.idxOf q):EnS (vE N (MD M)) (xB N M):=by
 refine⟨Wl ac fun k k' t t' g g' e=>?_,fun p t=>?_⟩
 ·obtain⟨q,hq,rfl⟩:=aa k t g;obtain⟨q',ab,rfl⟩:=aa k' t' g';rw[Kz hq,Kz ab]at e;rw[e]
 ·rw[prsF_mem];constructor
  ·rintro⟨k,e,g⟩;obtain⟨q,hq,rfl⟩:=aa k t g;rw[Kz hq]at e;subst e;exact⟨hq,g⟩
  ·rintro⟨hp,g⟩;exact⟨_,Kz hp,g⟩
theorem zD {l:List RItem}(hr:xJ l)(hu:∀x∈l,x.out=false->∀a,a=x.head\/a∈x.body->∀t∈a.terms,UT t){F:List RAtom}{n:Int}{x:Tx}{k e:Int}(h:tD l F n x k e):jP l F n x k e:=by
 obtain⟨N,M,M1,d,n1,n2,hM,t3,⟨hl,hd,hI⟩,hR⟩:=h;have hB:=yP n2 hM;have s1:=rC hr n1 hu hB;have e0:=gU hM.nd hB;rw[yO n2 hM]at s1 e0;have ae:∀k t,PMi N l (MD M) (l.length+1) k t->∃q∈N,k=N.idxOf q:=fun k t g=>xC n1 hB _ k t g;have q0:=Qz N M;rcases hI with⟨hb,aa,ac⟩|⟨hb,M2,-,ab,-,ad,af⟩
 ·rw[if_neg hb]at hR;obtain⟨rfl,rfl,rfl,-⟩:=hR;have e1:=gU ac fun k t g=>ae k t ((aa k t).1 g);have hs:vE N (MD M1)=vE N (PMi N l (MD M) (l.length+1)):=funext fun p=>funext fun t=>propext (and_congr Iff.rfl (aa _ t));rw[hs]at e1;have q1:=Qz N M1;refine⟨_,_,_,s1,e0,.inr ⟨e1,Ad2,Ad2,rfl,?_⟩⟩;refine Sd (N:=N) [] [] (fun y hy=>⟨(n1 y hy).1,?_⟩) (by simp);refine Wk (Aad ac _) (Qv e1.1 _) (Aac t3 _) (fun t ht=>gB s1 ((e1.2 _ t).1 (tupP_mem.1 ht))) fun t=>?_;rw[tupP_mem,e1.2];exact⟨fun g=>⟨(n1 y hy).1,(aa _ _).1 g⟩,fun g=>(aa _ _).2 g.2⟩
 ·rw[if_pos hb]at hR;obtain⟨rfl,rfl,rfl⟩:=hR;have e1:=gU ab fun k t g=>ae k t (ad k t g);have q1:=Qz N M2;exact⟨_,_,_,s1,e0,.inl ⟨⟨e1.1,fun p t g=>⟨((e1.2 p t).1 g).1,ad _ _ ((e1.2 p t).1 g).2⟩⟩,Ad2,rfl,rfl,rfl⟩⟩
theorem cK {t:Tx}{l:List RItem}(hc:(A3 t).1=0)(hp:Bf 16 t= .got l []):∀x∈l,x.out=false->∀a,a=x.head\/a∈x.body->∀t∈a.terms,UT t:=fun x hx ho a ha w hw=>by
 have hl:=(Kp hc).1;have hf:Fine x:=Me hc x (by rw[(Ek Ad2 hp).2.1];exact hx);have aa:a∈Af x:=by
  rcases ha with rfl|ha
  ·exact Hl (.inl ⟨ho,rfl⟩)
  ·exact Hl (.inr ha)
 obtain⟨w1,w2,w3,w4⟩:=hf.w.2.2 ho;have ab:Fb a:=by
  rcases ha with rfl|ha
  ·exact w1
  ·exact w4 a ha
 have ac:short a:=by
  rcases ha with rfl|ha
  ·exact hf.sh.1
  ·exact hf.sh.2 a ha
 exact wU (hf.dt a aa w hw) (ab.2.2.2 w hw) (ac.2.2 w hw) (hf.va a aa w hw)
theorem zC {t f x:Tx}{n k e:Int}(h:Qu t f n x k e):H4 t f n x k e:=by
 unfold Qu at h;unfold H4;split
 ·rename_i c;rw[if_pos c]at h;exact h
 rename_i c1;rw[if_neg c1]at h;split
 ·rename_i c;rw[if_pos c]at h;exact h
 rename_i c2;rw[if_neg c2]at h;split
 ·rename_i c;rw[if_pos c]at h;exact h
 rename_i c3;rw[if_neg c3]at h;obtain⟨l,hl,h⟩:=h;refine⟨l,hl,?_⟩;split
 ·rename_i c;rw[if_pos c]at h;exact h
 rename_i c4;rw[if_neg c4]at h;obtain⟨F,hF,h⟩:=h;have hK:jQ t f n l F:=⟨Ad2,Ad2,Ad2,Ad2,Ad2,hl,hF,Ad2⟩;exact⟨F,hF,zD (gK hK) (cK hK.ck hl) h⟩
theorem qV {t f x x':Tx}{n k k' e e':Int}(h:H4 t f n x k e)(h':H4 t f n x' k' e'):x=x'/\k=k'/\e=e':=by
 unfold H4 at h h';split at h
 ·rename_i c;rw[if_pos c]at h';exact⟨by rw[h.1,h'.1],by rw[h.2.1,h'.2.1],by rw[h.2.2,h'.2.2]⟩
 rename_i c1;rw[if_neg c1]at h';split at h
 ·rename_i c;rw[if_pos c]at h';exact⟨by rw[h.1,h'.1],by rw[h.2.1,h'.2.1],by rw[h.2.2,h'.2.2]⟩
 rename_i c2;rw[if_neg c2]at h';split at h
 ·rename_i c;rw[if_pos c]at h';exact⟨by rw[h.1,h'.1],by rw[h.2.1,h'.2.1],by rw[h.2.2,h'.2.2]⟩
 rename_i c3;rw[if_neg c3]at h';obtain⟨l,hl,h⟩:=h;obtain⟨l',aa,h'⟩:=h';rw[hl]at aa;cases aa;split at h
 ·rename_i c;rw[if_pos c]at h';exact⟨by rw[h.1,h'.1],by rw[h.2.1,h'.2.1],by rw[h.2.2,h'.2.2]⟩
 rename_i c4;rw[if_neg c4]at h';obtain⟨F,hF,h⟩:=h;obtain⟨F',ab,h'⟩:=h';rw[hF]at ab;cases ab;have hK:jQ t f n l F:=⟨Ad2,Ad2,Ad2,Ad2,Ad2,hl,hF,Ad2⟩;exact qU (gK hK) h h'
structure Gf (ar:Tx->Nat)(a:RAtom):Prop where
 nt:a.nt=false
 le:a.terms.length<=3
 ln:a.terms.length=ar a.pred
 ps:0<a.terms.length
 pl:a.pred.length<=1000
 tm:∀t∈a.terms,UT t/\Ag t=false
def Gi (a:RAtom):PT:=(a.pred,Cx (Dv [] a))
theorem Yr (μ:Tx->Tx)(a:RAtom):Gi (Ik μ a)=(a.pred,kA (fun v=>(Bu (μ v)).2) a):=by
 unfold Gi Cx Dv kA Ik;simp only[Abb];congr 2;refine Acn fun t _=>?_;simp only[Function.comp,L1,wT];by_cases h:Ag t=true<;>simp[h]
theorem yC (a:RAtom):Gi (U6 a)=Gi a:=rfl
theorem Yu {t:Tx}(h:UT t)(hv:Ag t=false):Tv (false,(Bu t).2)=t:=by
 have e:(false,(Bu t).2)=Bu t:=Prod.ext (by rw[Ig];exact hv.symm) rfl;rw[e,h.dec.1]
theorem Pm {ar:Tx->Nat}{a b:RAtom}(ha:Gf ar a)(hb:Gf ar b)(h:Gi a=Gi b):a=b:=by
 obtain⟨e1,e2⟩:=Adv h;have e3:a.terms.map (fun t=>(Bu t).2)=b.terms.map fun t=>(Bu t).2:=by
  refine Vl (by rw[Ace,Ace,ha.ln,hb.ln,e1]) (by rw[Ace];exact ha.le) ?_;unfold Cx Dv at e2;simp only[Abb]at e2;exact e2
 have key:∀l:List Tx,(∀t∈l,UT t/\Ag t=false)->(l.map fun t=>(Bu t).2).map (fun n=>Tv (false,n))=l:=fun l hl=>by
  rw[Abb]
  conv=>rhs;rw[<-List.map_id l]
  exact Acn fun t ht=>Yu (hl t ht).1 (hl t ht).2
 have e4:a.terms=b.terms:=by rw[<-key a.terms ha.tm,e3,key b.terms hb.tm]
 have e5:a.nt=b.nt:=ha.nt.trans hb.nt.symm;cases a;cases b;simp only at e1 e4 e5;subst e1;subst e4;subst e5;rfl
structure RfI (ar:Tx->Nat)(l:List RItem)(F:List RAtom):Prop where
 rg:xJ l
 ut:∀x∈l,x.out=false->∀a,a=x.head\/a∈x.body->(∀t∈a.terms,UT t)/\a.terms.length<=3/\a.terms.length=ar a.pred/\0<a.terms.length/\a.pred.length<=1000
 hnt:∀x∈l,x.out=false->x.head.nt=false
 saf:∀x∈l,x.out=false->Zh false x
 fac:∀a∈F,Gf ar a
structure fF (ar:Tx->Nat)(l:List RItem)(F:List RAtom)(M:Hf)(s:Nat)(A:List RAtom):Prop where
 gf:∀a∈A,Gf ar a
 nd:A.Nodup
 fa:∀a∈F,a∈A
 sub:∀a∈A,M a.pred (Cx (Dv [] a))
 low:∀p t,Ay l p<s->M p t->∃a∈A,Gi a=(p,t)
section
variable {ar:Tx->Nat} {l:List RItem} {F:List RAtom} (hf:RfI ar l F) {M:Hf} (hM:Stb l (Tk F) M) {s:Nat} {A:List RAtom}
include hf
theorem xD {x:RItem}(hx:x∈l)(ho:x.out=false){a:RAtom}(ha:a=x.head\/a∈x.body){μ:Tx->Tx}(hv:∀v∈a.terms,Ag v=true->UT (μ v)/\Ag (μ v)=false):Gf ar (U6 (Ik μ a)):=by
 obtain⟨h1,h2,h3,h4,h5⟩:=hf.ut x hx ho a ha;refine⟨rfl,by simpa[U6,Ik]using h2,by simpa[U6,Ik]using h3,by simp only[U6,Ik,Ace];exact h4,h5,fun t ht=>?_⟩;obtain⟨u,hu,rfl⟩:=Acf.1 ht;unfold L1;cases aa:Ag u with
 |true=>rw[if_pos rfl];exact hv u hu aa
 |false=>rw[if_neg (by simp)];exact⟨h1 u hu,aa⟩
theorem bV {A':List RAtom}(hA:∀a∈A',Gf ar a){x:RItem}(hx:x∈l)(ho:x.out=false){μ:Tx->Tx}(hp:∀a∈x.body,He false a=true->Ik μ a∈A'){a:RAtom}(ha:a=x.head\/(a∈x.body/\He false a=false)):∀v∈a.terms,Ag v=true->UT (μ v)/\Ag (μ v)=false:=fun v hv aa=>by
 obtain⟨b,hb,ac,ab⟩:=hf.saf x hx ho v aa (by
  rcases ha with rfl|⟨ha,hn⟩
  ·exact .inl hv
  ·exact .inr ⟨a,ha,hn,hv⟩)
 refine (hA _ (hp b hb ac)).tm (μ v) (Acf.2 ⟨v,ab,?_⟩);unfold L1;rw[if_pos aa]
include hM
theorem lA (h:fF ar l F M s A):Sat false (Ix l s) A fun a=>Gf ar a/\M a.pred (Cx (Dv [] a)):=by
 refine⟨fun a ha=>⟨h.gf a ha,h.sub a ha⟩,fun A' ad ae x hx b hs=>?_⟩;obtain⟨aa,ab,af⟩:=I5 hx;obtain⟨μ,hp,hn,rfl⟩:=hs;have hg:∀a∈A',Gf ar a:=fun a ha=>(ad a ha).1;have hh:=xD hf aa ab (.inl rfl) (bV hf hg aa ab hp (.inl rfl));have e0:U6 (Ik μ x.head)=Ik μ x.head:=by
  unfold U6 Ik;simp[hf.hnt x aa ab]
 rw[e0]at hh;refine⟨hh,?_⟩;have e1:=(Adv (Yr μ x.head)).2;rw[e1];refine (hM _ _).2 (LstM.clo l (Tk F) M x aa ab _ fun a ha=>?_);have e2:=(Adv (Yr μ a)).2;unfold HoL;by_cases e:a.nt=true
 ·rw[if_pos e,<-e2];intro g;have ac:He false a=false:=by simp[He,e]
  have:=Yi hf.rg aa ha e;obtain⟨b,hb,eb⟩:=h.low _ _ Ad2 g;refine hn a ha ac ?_;rw[<-Pm (h.gf b hb) (xD hf aa ab (.inr ha) (bV hf hg aa ab hp (.inr ⟨ha,ac⟩))) (by rw[eb,yC];rfl)];exact ae b hb
 ·rw[if_neg e,<-e2];exact (hM _ _).1 (ad _ (hp a ha (by simp[He,e]))).2
theorem qK {limit:Nat}{A':List RAtom}(h:fF ar l F M s A)(hs:Ui false (Ix l s) A limit A'):fF ar l F M (s+1) A':=by
 have hC:=hs.least _ (lA hf hM h);have ab:∀a∈A',M a.pred (Cx (Dv [] a)):=fun a ha=>(hC a ha).2;refine⟨fun a ha=>(hC a ha).1,hs.nd,fun a ha=>hs.gv a (h.fa a ha),ab,fun p t hp g=>?_⟩;refine (hM p t).1 g (fun p t=>Ay l p<s+1->∃a∈A',Gi a=(p,t)) (fun p t ⟨a,ha,e1,e2⟩ _=>⟨a,hs.gv a (h.fa a ha),by rw[<-e1,e2];rfl⟩) (fun x hx ho ν hb au=>?_) hp;have ad:∀a∈x.body,a.nt=false->∃b∈A',Gi b=(a.pred,kA ν a):=fun a ha ac=>by
  have h1:=hb a ha;unfold HoL at h1;rw[if_neg (by simp[ac])]at h1;have:=Yh hf.rg hx ha;exact h1 Ad2
 have ae:∀a∈x.body,a.nt=true->¬M a.pred (kA ν a):=fun a ha ac=>by
  have h1:=hb a ha;unfold HoL at h1;rw[if_pos ac]at h1;exact h1
 by_cases an:Ay l x.head.pred<s
 ·obtain⟨b,aa,e⟩:=h.low _ _ an ((hM _ _).2 (LstM.clo l (Tk F) M x hx ho ν fun a ha=>by
   unfold HoL;by_cases e:a.nt=true
   ·rw[if_pos e];exact ae a ha e
   ·rw[if_neg e];obtain⟨b,aa,eb⟩:=ad a ha (by simpa using e);obtain⟨e1,e2⟩:=Adv eb;have:=(hM _ _).1 (ab b aa);rw[e1,e2]at this
    exact this))
  exact⟨b,hs.gv b aa,e⟩
 ·have am:x∈Ix l s:=Ac7.2 ⟨hx,by unfold Pi;rw[ho];simp;omega⟩;let μ:Tx->Tx:=fun v=>Tv (false,ν v);have ak:∀a∈x.body,a.nt=false->Ik μ a∈A'/\∀v∈a.terms,Ag v=true->(Bu (μ v)).2=ν v:=fun a ha ac=>by
   obtain⟨b,aa,eb⟩:=ad a ha ac;obtain⟨e1,e2⟩:=Adv eb;obtain⟨u1,u2,u3,-⟩:=hf.ut x hx ho a (.inr ha);have af:=(hC b aa).1;have e3:b.terms.map (fun t=>(Bu t).2)=a.terms.map (wT ν):=by
    refine Vl (by rw[Ace,Ace,af.ln,u3,e1]) (by rw[Ace];exact af.le) ?_;unfold Cx Dv at e2;simp only[Abb]at e2;exact e2
   have e4:b.terms=a.terms.map (L1 μ):=by
    have h1:(b.terms.map fun t=>(Bu t).2).map (fun n=>Tv (false,n))=b.terms:=by
     rw[Abb]
     conv=>rhs;rw[<-List.map_id b.terms]
     exact Acn fun t ht=>Yu (af.tm t ht).1 (af.tm t ht).2
    rw[<-h1,e3,Abb];refine Acn fun t ht=>?_;simp only[Function.comp,L1,wT];cases hv:Ag t with
    |true=>rfl
    |false=>exact Yu (u1 t ht) hv
   have e5:Ik μ a=b:=by
    cases b with
    |mk bn bp bt=>
     simp only at e1 e4;have:bn=false:=af.nt;unfold Ik;rw[ac,<-e1,<-e4,this]
   refine⟨by rw[e5];exact aa,fun v hv ai=>?_⟩;obtain⟨i,hi⟩:=Acp hv;have h1:(b.terms.map fun t=>(Bu t).2)[i]?=some (ν v):=by
    rw[e3,Aa6,hi];simp[wT,ai]
   rw[e4,Abb,Aa6,hi]at h1;simpa[L1,ai]using h1
  have aj:∀a,(a=x.head\/(a∈x.body/\He false a=false))->kA (fun v=>(Bu (μ v)).2) a=kA ν a:=fun a ha=>by
   unfold kA;congr 1;refine Acn fun t ht=>?_;unfold wT;cases hv:Ag t with
   |false=>rfl
   |true=>
    rw[if_pos rfl,if_pos rfl]
    obtain⟨b,aa,ap,ao⟩:=hf.saf x hx ho t hv (by
     rcases ha with rfl|⟨ha,hn⟩
     ·exact .inl ht
     ·exact .inr ⟨a,ha,hn,ht⟩)
    exact (ak b aa (by simpa[He]using ap)).2 t ao hv
  have ah:Pw false A' x (Ik μ x.head):=⟨μ,fun a ha hp=>(ak a ha (by simpa[He]using hp)).1,fun a ha hp hm=>by
   have h1:=ab _ hm;have e2:=(Adv (Yr μ a)).2;refine ae a ha (by simpa[He]using hp) ?_;rw[<-aj a (.inr ⟨ha,hp⟩),<-e2]
   exact h1,rfl⟩
  rcases hs.cl x am _ ah with h1|h1
  ·exact⟨_,h1,by rw[Yr,aj _ (.inl rfl)]⟩
  ·cases h1
theorem xS {limit:Nat}(h:fF ar l F M s A)(hs:X8 false (Ix l s) A limit):∃L:List PT,SbS M L/\limit<L.length:=by
 obtain⟨L,h1,h2,h3⟩:=hs _ (lA hf hM h);refine⟨L.map Gi,⟨?_,fun p t hm=>?_⟩,by rw[Ace];exact h2⟩
 ·unfold List.Nodup;rw[Ads];exact Adu (fun {a b} ha hb aa e=>aa (Pm (h3 a ha).1 (h3 b hb).1 e)) h1
 ·obtain⟨a,ha,e⟩:=Acf.1 hm;obtain⟨e1,e2⟩:=Adv e;rw[<-e1,<-e2];exact (h3 a ha).2
theorem qJ {A:List RAtom}{limit:Nat}(hs:Ui false [] F limit A):fF ar l F M 0 A/\EnS (Tk F) (A.map Gi):=by
 have hC:∀a∈A,a∈F:=hs.least (·∈F) ⟨fun a ha=>ha,fun _ _ _ x hx=>by cases hx⟩;refine⟨⟨fun a ha=>hf.fac a (hC a ha),hs.nd,hs.gv,fun a ha=>(hM _ _).2 (LstM.base ⟨a,hC a ha,rfl,rfl⟩),fun p t h=>absurd h (Ac0 _)⟩,?_,fun p t=>?_⟩
 ·unfold List.Nodup;rw[Ads];exact Adu (fun {a b} ha hb aa e=>aa (Pm (hf.fac a (hC a ha)) (hf.fac b (hC b hb)) e)) hs.nd
 ·constructor
  ·intro h;obtain⟨a,ha,e⟩:=Acf.1 h;obtain⟨e1,e2⟩:=Adv e;exact⟨a,hC a ha,e1,e2.symm⟩
  ·rintro⟨a,ha,rfl,rfl⟩;exact Acf.2 ⟨a,hs.gv a ha,rfl⟩
theorem uG (h:fF ar l F M (l.length+1) A):EnS M (A.map Gi):=by
 refine⟨?_,fun p t=>⟨fun g=>?_,fun g=>?_⟩⟩
 ·unfold List.Nodup;rw[Ads];exact Adu (fun {a b} ha hb aa e=>aa (Pm (h.gf a ha) (h.gf b hb) e)) h.nd
 ·obtain⟨a,ha,e⟩:=Acf.1 g;obtain⟨e1,e2⟩:=Adv e;rw[<-e1,<-e2];exact h.sub a ha
 ·have:=Wc hf.rg p;obtain⟨a,ha,e⟩:=h.low p t Ad2 g;exact Acf.2 ⟨a,ha,e⟩
end
def Kw:List Tx->List Tx->Bool
 |t::ts,u::us=>if t.length≠u.length then decide (t.length<u.length)else if t≠u then Op.bytesLess t u else Kw ts us
 |_,_=>false
theorem rS {a b:List Tx}{i:Nat}{t u:Tx}(ht:a[i]?=some t)(hu:b[i]?=some u):Kw (a.drop i) (b.drop i)=if t.length≠u.length then decide (t.length<u.length)else if t≠u then Op.bytesLess t u else Kw (a.drop (i+1)) (b.drop (i+1)):=by
 obtain⟨h1,e1⟩:=Aau.1 ht;obtain⟨h2,e2⟩:=Aau.1 hu;rw[Abx h1,Abx h2,e1,e2];rfl
theorem Md (a b:RAtom)(ca cb:List AV)(ha:Be a ca)(hb:Be b cb)(hl:a.terms.length<=b.terms.length)(hn:b.terms.length<=1000)(D:St):ACalls Tryz.prog 142 [ag ca,ag cb] D fun r D'=>r=sc (.bool (Kw a.terms b.terms))/\Keep D D':=by
 obtain⟨ia,rfl⟩:=ha;obtain⟨ib,rfl⟩:=hb;refine Z9 41 [.tmp 4] Tryz.func142 ?_
 repeat' (first|refine Z1 ?_|(refine Z8 ?_;intro ya J)|(refine Z4 ?_;clear J ya)|(refine Z2 ?_ ?_<;>intro h aa<;>try exact Xp)|refine Z3 ?_|exact Zt|(apply J.out;clear J ya))
 refine Ab (fun m s D'=>∃(i:Nat),m=a.terms.length-i/\i<=a.terms.length/\s 2=ptr D.nobj 0/\s 3=ptr (D.nobj+1) 0/\s 5=ic i/\Keep D D'/\D.nobj+1<D'.nobj/\D'.obj D.nobj=[sc (.bool a.nt),str a.pred,sl ia a.terms.length (a.terms.map str)]/\D'.obj (D.nobj+1)=[sc (.bool b.nt),str b.pred,sl ib b.terms.length (b.terms.map str)]/\Ad8 (Kw a.terms b.terms=Kw (a.terms.drop i) (b.terms.drop i))) a.terms.length
  ⟨0,Ad2,Ad2,Ad4,Ad4,Ad4,Xs,Ad6,by rw[Ai Ad6,Am],by first|exact Am|simp[Am],by simp[Ad8]⟩ ?_
 rintro m s D' ⟨i,rfl,hi,h2,h3,h5,hK,an,ak,aj,hA⟩;have am:=hK.nobj;by_cases af:i<a.terms.length
 ·have ae:=Aav af;have ad:=Aav (show i<b.terms.length by omega);have ai:=Bc af;have ah:=Bc (show i<b.terms.length by omega);generalize a.terms[i]=t at ae ai;generalize b.terms[i]=u at ad ah;have HS:Ad8 _:=rS ae ad;clear ae ad;by_cases ac:t.length≠u.length
  ·have b1:((t.length:Int) !=(u.length:Int))=true:=by simp;omega
   have HR:Ad8 (Kw a.terms b.terms=decide ((t.length:Int)<(u.length:Int))):=by rw[Ad8,hA.out,HS.out,if_pos ac];simp
   clear ac hA HS
   repeat' (first|refine Z1 ?_|(refine Z8 ?_;intro ya J)|(refine Z4 ?_;clear J ya)|(refine Z2 ?_ ?_<;>intro h aa<;>try exact Xp)|refine Z3 ?_|exact Zt|(apply J.out;clear J ya))
   first|exact⟨_,rfl,by rw[HR.out],hK⟩|exact⟨_,rfl,by rw[HR.out]⟩
  ·have b1:((t.length:Int) !=(u.length:Int))=false:=by simp;omega
   by_cases ab:t≠u
   ·have b2:(t !=u)=true:=by simpa using ab
    have b3:(t==u)=false:=by simpa using ab
    have HR:Ad8 (Kw a.terms b.terms=Op.bytesLess t u):=by rw[Ad8,hA.out,HS.out,if_neg ac,if_pos ab]
    clear ac ab hA HS
    repeat' (first|refine Z1 ?_|(refine Z8 ?_;intro ya J)|(refine Z4 ?_;clear J ya)|(refine Z2 ?_ ?_<;>intro h aa<;>try exact Xp)|refine Z3 ?_|exact Zt|(apply J.out;clear J ya))
    first|exact⟨_,rfl,by rw[HR.out],hK⟩|exact⟨_,rfl,by rw[HR.out]⟩
   ·have b2:(t !=u)=false:=by simpa using ab
    have b3:(t==u)=true:=by simpa using ab
    have HR:Ad8 (Kw a.terms b.terms=Kw (a.terms.drop (i+1)) (b.terms.drop (i+1))):=by rw[Ad8,hA.out,HS.out,if_neg ac,if_neg ab]
    clear ac ab hA HS
    repeat' (first|refine Z1 ?_|(refine Z8 ?_;intro ya J)|(refine Z4 ?_;clear J ya)|(refine Z2 ?_ ?_<;>intro h aa<;>try exact Xp)|refine Z3 ?_|exact Zt|(apply J.out;clear J ya))
    refine⟨a.terms.length-(i+1),Ad2,i+1,?_⟩
    ((repeat' refine Zi ?_ ?_)<;>first|exact Xq|exact HR|exact Xs)
 ·have HR:Ad8 (Kw a.terms b.terms=false):=by
   rw[Ad8,hA.out,List.drop_of_length_le Ad2];unfold Kw;rfl
  clear hA
  repeat' (first|refine Z1 ?_|(refine Z8 ?_;intro ya J)|(refine Z4 ?_;clear J ya)|(refine Z2 ?_ ?_<;>intro h aa<;>try exact Xp)|refine Z3 ?_|exact Zt|(apply J.out;clear J ya))
  first|exact⟨_,rfl,by rw[HR.out],hK⟩|exact⟨_,rfl,by rw[HR.out]⟩
def ub (d:Nat):UInt8:=UInt8.ofNat (48+d)
theorem pR {a b:Nat}(ha:a<=9)(hb:b<=9):ub a<ub b↔a<b:=by
 unfold ub;rw[UInt8.lt_iff_toNat_lt];simp only[UInt8.toNat_ofNat'];omega
theorem wV {a b:Nat}(ha:a<=9)(hb:b<=9):ub a=ub b↔a=b:=by
 unfold ub;rw[<-Acg];simp only[UInt8.toNat_ofNat'];omega
theorem dd3 {v:Nat}(h:v<=999):(v<10/\Lib.decDigits v=[ub v])\/(10<=v/\v<100/\Lib.decDigits v=[ub (v / 10),ub (v % 10)])\/(100<=v/\Lib.decDigits v=[ub (v / 100),ub (v / 10 % 10),ub (v % 10)]):=by
 have two:∀v,10<=v->v<100->Lib.decDigits v=[ub (v / 10),ub (v % 10)]:=fun v h1 h2=>by
  have:=K2 (v:=v / 10) (d:=v % 10) Ad2 Ad2;rw[show v / 10*10+v % 10=v by omega,Lib.decDigits_one (show v / 10<10 by omega)]at this;exact this
 by_cases h1:v<10
 ·exact .inl ⟨h1,Lib.decDigits_one h1⟩
 ·by_cases h2:v<100
  ·exact .inr (.inl ⟨Ad2,h2,two v Ad2 h2⟩)
  ·refine .inr (.inr ⟨Ad2,?_⟩);have:=K2 (v:=v / 10) (d:=v % 10) Ad2 Ad2;rw[show v / 10*10+v % 10=v by omega,two (v / 10) Ad2 Ad2,show v / 10 / 10=v / 100 by omega]at this;exact this
theorem vB {v w:Nat}(hv:v<=999)(hw:w<=999):((Lib.decDigits v).length≠(Lib.decDigits w).length->decide ((Lib.decDigits v).length<(Lib.decDigits w).length)=decide (v<w))/\((Lib.decDigits v).length=(Lib.decDigits w).length->Op.bytesLess (Lib.decDigits v) (Lib.decDigits w)=decide (v<w)):=by
 rcases dd3 hv with⟨a1,a2⟩|⟨a0,a1,a2⟩|⟨a1,a2⟩<;>rcases dd3 hw with⟨b1,b2⟩|⟨b0,b1,b2⟩|⟨b1,b2⟩<;>rw[a2,b2]<;>refine⟨fun h=>?_,fun h=>?_⟩<;>simp only[Abv,Abu,ne_eq,not_true_eq_false]at h⊢ <;>first
  |(exact absurd h (by decide))
  |(rw[Acv,Adw,Adw];omega)
  |(rw[Acv,Adw]
    simp only[Op.bytesLess,Bool.or_false,Bool.and_false,Ac4,Aaz,Adw,Adx];rw[pR Ad2 Ad2]
    try rw[pR Ad2 Ad2,wV Ad2 Ad2]
    try rw[pR Ad2 Ad2,wV Ad2 Ad2]
    all_goals omega)
theorem pO {t:Tx}(h:UT t)(hv:Ag t=false):∃v:Nat,v<=999/\(Bu t).2=v/\t=Lib.decDigits v:=by
 rcases h.1 with h1|⟨-,h2,h3,h4⟩
 ·rw[hv]at h1;cases h1
 ·refine⟨(Bu t).2.toNat,Ad2,Ad2,?_⟩;have e:(Bu t).2=(((Bu t).2.toNat:Nat):Int):=Ad2;rw[e]at h2
  conv=>lhs;rw[<-h2]
  unfold Lib.itoa;rw[if_neg Ad2,Adi]
theorem lO:∀{ts us:List Tx},(∀t∈ts,UT t/\Ag t=false)->(∀t∈us,UT t/\Ag t=false)->Kw ts us=Cy (ts.map fun t=>(Bu t).2) (us.map fun t=>(Bu t).2)
 |[],_,_,_=>by simp[Kw,Cy]
 |_::_,[],_,_=>by simp[Kw,Cy]
 |t::ts,u::us,h1,h2=>by
  obtain⟨v,hv,ev,et⟩:=pO (h1 t (by simp)).1 (h1 t (by simp)).2;obtain⟨w,hw,ew,eu⟩:=pO (h2 u (by simp)).1 (h2 u (by simp)).2;have ih:=lO (ts:=ts) (us:=us) (fun x hx=>h1 x (by simp[hx])) fun x hx=>h2 x (by simp[hx]);obtain⟨c1,c2⟩:=vB hv hw;rw[<-et,<-eu]at c1 c2;simp only[Abg,Kw,Cy];rw[ev,ew];by_cases e:v=w
  ·have:t=u:=by rw[et,eu,e]
   rw[if_neg (by simp[this]),if_neg (by simp[this]),if_pos Ad2];exact ih
  ·rw[if_neg (show¬((v:Int)=(w:Int))by omega)];have hd:decide ((v:Int)<(w:Int))=decide (v<w):=by simp
   rw[hd];by_cases hl:t.length≠u.length
   ·rw[if_pos hl];exact c1 hl
   ·have hl:=Classical.not_not.1 hl;rw[if_neg (by simp[hl]),if_pos]
    ·exact c2 hl
    ·intro e2;rw[e2,ew]at ev;omega
theorem vN:∀{xs ys:List Int},xs.length=ys.length->xs.length<=3->Cy (C8 xs) (C8 ys)=Cy xs ys
 |[],[],_,_=>by simp[C8,Cy]
 |[a],[b],_,_=>by simp[C8,Cy]
 |[a,a2],[b,b2],_,_=>by simp[C8,Cy]
 |[a,a2,a3],[b,b2,b3],_,_=>by simp[C8,Cy]
 |[],_::_,h,_=>by cases h
 |_::_,[],h,_=>by cases h
 |[_],_::_::_,h,_=>by simp at h
 |[_,_],[_],h,_=>by simp at h
 |[_,_],_::_::_::_,h,_=>by simp at h
 |[_,_,_],[_],h,_=>by simp at h
 |[_,_,_],[_,_],h,_=>by simp at h
 |[_,_,_],_::_::_::_::_,h,_=>by simp at h
 |_::_::_::_::_,_,_,h=>by simp at h
theorem iN {ar:Tx->Nat}{a b:RAtom}(ha:Gf ar a)(hb:Gf ar b)(hp:a.pred=b.pred):Kw a.terms b.terms=Cy (Gi a).2 (Gi b).2:=by
 rw[lO ha.tm hb.tm];unfold Gi Cx Dv;simp only[Abb];exact (vN (by rw[Ace,Ace,ha.ln,hb.ln,hp]) (by rw[Ace];exact ha.le)).symm
def Nz (a b:RAtom):Bool:=Cy (Gi a).2 (Gi b).2
theorem zG (a:RAtom):(Gi a).2.length=3:=rfl
theorem yE {a b c:RAtom}(h1:Nz b a=false)(h2:Nz c b=false):Nz c a=false:=Pe (zG a) (zG b) (zG c) h1 h2
theorem iC {a b:RAtom}(h:Nz a b=true):Nz b a=false:=Kv h
theorem Yv (a:RAtom):Nz a a=false:=Yw _
theorem yF {ar:Tx->Nat}{a b:RAtom}(ha:Gf ar a)(hb:Gf ar b)(hp:a.pred=b.pred)(h1:Nz a b=false)(h2:Nz b a=false):a=b:=Pm ha hb (Prod.ext hp (lN (zG a) (zG b) h1 h2))
def pF (A:List RAtom)(p:Tx)(la:Int)(b:RAtom):Prop:=b.pred=p/\(la= -1\/∃(j:Nat) (c:RAtom),la=j/\A[j]?=some c/\Nz c b=true)
def NxI (A:List RAtom)(p:Tx)(la:Int)(i:Nat)(nx:Int):Prop:=(nx= -1/\∀b∈A.take i,¬pF A p la b)\/∃(j:Nat) (b:RAtom),nx=j/\A[j]?=some b/\pF A p la b/\∀c∈A.take i,pF A p la c->Nz c b=false
theorem NxI.skip {A:List RAtom}{p:Tx}{la:Int}{i:Nat}{nx:Int}{w:RAtom}(h:NxI A p la i nx)(hw:A[i]?=some w)(hc:¬pF A p la w):NxI A p la (i+1) nx:=by
 have hm:∀b∈A.take (i+1),b∈A.take i\/b=w:=fun b hb=>by
  rw[Aa8,hw]at hb;simpa using hb
 rcases h with⟨h1,h2⟩|⟨j,b,h1,h2,h3,h4⟩
 ·exact .inl ⟨h1,fun b hb=>by rcases hm b hb with h|rfl;exact h2 b h;exact hc⟩
 ·exact .inr ⟨j,b,h1,h2,h3,fun c ab aa=>by rcases hm c ab with h|rfl;exact h4 c h aa;exact absurd aa hc⟩
theorem NxI.keep {A:List RAtom}{p:Tx}{la:Int}{i j:Nat}{w b:RAtom}(h:NxI A p la i (j:Nat))(hw:A[i]?=some w)(hb:A[j]?=some b)(hl:Nz w b=false):NxI A p la (i+1) (j:Nat):=by
 rcases h with⟨h1,-⟩|⟨j',b',h1,h2,h3,h4⟩
 ·omega
 ·have e:j'=j:=Ad2;subst e;rw[hb]at h2;cases h2;refine .inr ⟨j',b,rfl,hb,h3,fun c hc aa=>?_⟩;rw[Aa8,hw]at hc;rcases Ab2.1 hc with hc|hc
  ·exact h4 c hc aa
  ·have:c=w:=by simpa using hc
   rw[this];exact hl
theorem NxI.new {A:List RAtom}{p:Tx}{la:Int}{i:Nat}{nx:Int}{w:RAtom}(h:NxI A p la i nx)(hw:A[i]?=some w)(hc:pF A p la w)(hl:nx= -1\/∃(j:Nat) (b:RAtom),nx=j/\A[j]?=some b/\Nz w b=true):NxI A p la (i+1) (i:Nat):=by
 refine .inr ⟨i,w,rfl,hw,hc,fun c aa ab=>?_⟩;rw[Aa8,hw]at aa;rcases Ab2.1 aa with aa|aa
 ·rcases h with⟨h1,h2⟩|⟨j,b,h1,h2,h3,h4⟩
  ·exact absurd ab (h2 c aa)
  ·rcases hl with hl|⟨j',b',e1,e2,e3⟩
   ·omega
   ·have e:j'=j:=Ad2;subst e;rw[h2]at e2;cases e2;exact yE (iC e3) (h4 c aa ab)
 ·have:c=w:=by simpa using aa
  rw[this];exact Yv w
structure LsI (A:List RAtom)(p:Tx)(la:Int)(K:List RAtom):Prop where
 mem:∀b∈K,b∈A/\b.pred=p
 srt:K.Pairwise fun a b=>Nz a b=true
 las:(la= -1/\K=[])\/∃(j:Nat) (b:RAtom) (K0:List RAtom),la=j/\A[j]?=some b/\K=K0++[b]
 all:∀b∈A,b.pred=p->b∈K\/∀c∈K,Nz c b=true
section
variable {ar:Tx->Nat} {A K:List RAtom} (hg:∀a∈A,Gf ar a) {p:Tx} {la:Int}
include hg
theorem LsI.cnd (h:LsI A p la K){b:RAtom}(hb:b∈A)(hc:pF A p la b):∀c∈K,Nz c b=true:=by
 rcases h.all b hb hc.1 with hm|hm
 ·exfalso;rcases h.las with⟨-,rfl⟩|⟨j,d,K0,e1,e2,rfl⟩
  ·cases hm
  ·rcases hc.2 with h1|⟨j',c,e3,e4,e5⟩
   ·omega
   ·have e:j'=j:=Ad2;subst e;rw[e2]at e4;cases e4;rcases Ab2.1 hm with hm|hm
    ·have:=(Adq.1 h.srt).2.2 b hm d (by simp);rw[iC this]at e5;cases e5
    ·have:b=d:=by simpa using hm
     rw[this,Yv]at e5;cases e5
 ·exact hm
theorem LsI.more (h:LsI A p la K){j:Nat}{b:RAtom}(hb:A[j]?=some b)(hc:pF A p la b)(hm:∀c∈A,pF A p la c->Nz c b=false):LsI A p (j:Nat) (K++[b]):=by
 have ac:=Aax hb;have ae:=h.cnd hg ac hc;refine⟨fun c aa=>?_,?_,.inr ⟨j,b,K,rfl,hb,rfl⟩,fun e he ab=>?_⟩
 ·rcases Ab2.1 aa with g|g
  ·exact h.mem c g
  ·have:c=b:=by simpa using g
   rw[this];exact⟨ac,hc.1⟩
 ·exact Adq.2 ⟨h.srt,by simp,fun c aa d hd=>by
   have:d=b:=by simpa using hd
   rw[this];exact ae c aa⟩
 ·rcases h.all e he ab with g|g
  ·exact .inl (Adk _ g)
  ·have af:pF A p la e:=⟨ab,by
    rcases h.las with⟨h1,-⟩|⟨j',d,K0,e1,e2,rfl⟩
    ·exact .inl h1
    ·exact .inr ⟨j',d,e1,e2,g d (by simp)⟩⟩
   cases ad:Nz b e with
   |false=>
    have:=yF (hg e he) (hg b ac) (ab.trans hc.1.symm) (hm e he af) ad;exact .inl (by rw[this];simp)
   |true=>
    refine .inr fun c aa=>?_;rcases Ab2.1 aa with g2|g2
    ·exact g c g2
    ·have:c=b:=by simpa using g2
     rw[this];exact ad
theorem LsI.done (h:LsI A p la K)(hn:∀b∈A,¬pF A p la b)(hA:A.Nodup):K.map (fun a=>(Gi a).2)=D2 (Jn (A.map Gi) p):=by
 have aa:∀b,b∈K↔b∈A/\b.pred=p:=fun b=>⟨h.mem b,fun⟨h1,h2⟩=>by
  rcases h.all b h1 h2 with g|g
  ·exact g
  ·refine absurd ⟨h2,?_⟩ (hn b h1);rcases h.las with⟨h1,-⟩|⟨j',d,K0,e1,e2,rfl⟩
   ·exact .inl h1
   ·exact .inr ⟨j',d,e1,e2,g d (by simp)⟩⟩
 have ac:(A.map Gi).Nodup:=by
  unfold List.Nodup;rw[Ads];exact Adu (fun {a b} ha hb ab e=>ab (Pm (hg a ha) (hg b hb) e)) hA
 refine Yp (fun t ht=>?_) ?_ ?_
 ·obtain⟨a,-,e⟩:=Acf.1 (tupP_mem.1 ht);rw[<-(Adv e).2];rfl
 ·refine (List.perm_ext_iff_of_nodup ?_ (Qv ac p)).2 fun t=>?_
  ·unfold List.Nodup;rw[Ads];refine h.srt.imp fun {a b} hl e=>?_;unfold Nz at hl;rw[e,Yw]at hl;cases hl
  ·rw[tupP_mem];constructor
   ·intro ht;obtain⟨b,hb,rfl⟩:=Acf.1 ht;obtain⟨h1,h2⟩:=(aa b).1 hb;exact Acf.2 ⟨b,h1,Prod.ext h2 rfl⟩
   ·intro ht;obtain⟨b,hb,e⟩:=Acf.1 ht;obtain⟨e1,e2⟩:=Adv e;exact Acf.2 ⟨b,(aa b).2 ⟨hb,e1⟩,e2⟩
 ·unfold H8;rw[Ads];exact h.srt.imp fun hl=>iC hl
end
theorem LsI.len {A K:List RAtom}{p:Tx}{la:Int}(h:LsI A p la K):K.length<=A.length:=by
 have hn:K.Nodup:=h.srt.imp fun hl e=>by rw[e,Yv]at hl;cases hl
 classical exact Sq K A hn fun b hb=>(h.mem b hb).1
theorem uC:∀{xs:List Int},(∀x∈xs,0<=x)->xs.length<=3->tups (C8 xs)=xs
 |[],_,_=>by simp[tups,C8]
 |[a],h,_=>by
  have:=h a (by simp);have ha:a≠ -1:=Ad2;simp[tups,C8,List.takeWhile,ha]
 |[a,b],h,_=>by
  have h1:=h a (by simp);have h2:=h b (by simp);have ha:a≠ -1:=Ad2;have hb:b≠ -1:=Ad2;simp[tups,C8,List.takeWhile,ha,hb]
 |[a,b,c],h,_=>by
  have h1:=h a (by simp);have h2:=h b (by simp);have h3:=h c (by simp);have ha:a≠ -1:=Ad2;have hb:b≠ -1:=Ad2;have hc:c≠ -1:=Ad2;simp[tups,C8,List.takeWhile,ha,hb,hc]
 |_::_::_::_::_,_,h=>by simp at h
theorem lS {ar:Tx->Nat}{a:RAtom}(h:Gf ar a)(hp:0<a.terms.length):Gy [] a++[46]=Cs a.pred (Gi a).2:=by
 have e1:Ra (Gi a).2=jn (a.terms.map fun t=>(Bu t).2):=by
  unfold Ra;congr 1;have:(Gi a).2=C8 (a.terms.map fun t=>(Bu t).2):=by
   unfold Gi Cx Dv;simp only[Abb];rfl
  rw[this];refine uC (fun x hx=>?_) (by rw[Ace];exact h.le);obtain⟨t,ht,rfl⟩:=Acf.1 hx;obtain⟨v,-,e,-⟩:=pO (h.tm t ht).1 (h.tm t ht).2;omega
 have hit:∀t∈a.terms,Lib.itoa (Bu t).2=t/\Ou [] t=t:=fun t ht=>by
  obtain⟨h1,h2⟩:=h.tm t ht;refine⟨?_,xN h2 []⟩;rcases h1.1 with g|g
  ·rw[h2]at g;cases g
  ·exact g.2.1
 unfold Cs Gy;rw[e1,if_neg (by simp[h.nt])];have hl:=h.le
 match aa:a.terms,hp,hl with
 |[t],_,_=>
  rw[aa]at hit;simp[jn,Jm,L9,(hit t (by simp)).1,(hit t (by simp)).2]
 |[t,u],_,_=>
  rw[aa]at hit;simp[jn,Jm,L9,(hit t (by simp)).1,(hit t (by simp)).2,(hit u (by simp)).1,(hit u (by simp)).2]
 |[t,u,v],_,_=>
  rw[aa]at hit;simp[jn,Jm,L9,(hit t (by simp)).1,(hit t (by simp)).2,(hit u (by simp)).1,(hit u (by simp)).2,(hit v (by simp)).1,(hit v (by simp)).2]
 |_::_::_::_::_,_,h=>simp at h
end Go.Proofs.YtmoeoppbmhfbpaaGreatDoorH
