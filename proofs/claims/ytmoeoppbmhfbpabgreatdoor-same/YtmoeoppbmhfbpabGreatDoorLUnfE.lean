import Derived.Test.YtmoeoppbmhfbpabGreatDoorLUnfB
import Derived.Test.YtmoeoppbmhfbpabGreatDoorLAgrB
import Derived.Test.YtmoeoppbmhfbpabGreatDoorLImpB
import Derived.Test.YtmoeoppbmhfbpabGreatDoorLPrtG
import Derived.Test.YtmoeoppbmhfbpabGreatDoorLOptE
set_option maxHeartbeats 64000000
set_option maxRecDepth 100000
set_option linter.all false
namespace Go.Proofs.YtmoeoppbmhfbpabGreatDoorL
open Go.Abs
def OT (t:Tm):Prop:=∃w,UT w/\Al w=t
theorem OT.dec {t:Tm}(h:OT t):UT (Ia t)/\Al (Ia t)=t:=by
 obtain⟨w,hu,rfl⟩:=h;rw[hu.dec.1];exact⟨hu,rfl⟩
theorem kN {k:Nat}(hk:k<26):UT [Jp k]/\Al [Jp k]=(true,(k:Int)):=by
 have h1:=Ei (k:=(k:Int)) Ajm Ajm;have hv:Ad [Jp k]=true:=h1;refine⟨⟨.inl hv,⟨by simp,fun b hb=>?_⟩,by simp,fun _=>⟨k,hk,rfl⟩⟩,?_⟩
 ·simp at hb;subst hb;exact .inl h1
 ·rw[D1 h1,E9 Ajm Ajm];congr 1;omega
theorem xL {k:Nat}(hk:k<26):OT (true,(k:Int)):=⟨_,(kN hk).1,(kN hk).2⟩
def W52 (t:Tm):Prop:=Wm t/\(t.1=false->OT t)
theorem OT.w {t:Tm}(h:OT t):W52 t:=by
 refine⟨fun hv=>?_,fun _=>h⟩;obtain⟨w,hu,rfl⟩:=h;rw[Bp]at hv;obtain⟨k,hk,-,e⟩:=hu.enc hv;exact⟨k,Ajm,by rw[e]⟩
structure PtW (P:List Tm):Prop where
 len:P.length=52
 w:∀t∈P,W52 t
theorem PtW.of {P:List Tm}(h:PtW P){t:Tm}(ht:W52 t):W52 (D7 P t):=by
 unfold D7;split
 ·rename_i hv;cases e:P[t.2.toNat]? with
  |none=>exact ht
  |some u=>exact h.w u (Agp e)
 ·exact ht
theorem PtW.wi {P:List Tm}(h:PtW P){v t:Tm}(ht:W52 t):PtW (Sa P v t):=
 ⟨by rw[Ko];exact h.len,fun u hu=>by
  obtain⟨x,hx,rfl⟩:=Ahv.1 hu;split
  ·exact ht
  ·exact h.w x hx⟩
theorem ot_zero:OT (false,0):=⟨[48],⟨.inr ⟨rfl,(by show Lib.itoa 0=[48];simp[Lib.itoa,Lib.decDigits]),by decide,by decide⟩,⟨by simp,by decide⟩,by simp,fun h=>by cases h⟩,rfl⟩
theorem zW:PtW aprt:=⟨jQ,fun t ht=>by
 obtain⟨i,hi,rfl⟩:=Ahv.1 ht;split
 ·exact⟨fun _=>⟨26+i,Ajm,by simp⟩,fun h=>by cases h⟩
 ·exact ot_zero.w⟩
theorem lV:PtW pidn:=⟨Pl,fun t ht=>by
 obtain⟨i,hi,rfl⟩:=Ahv.1 ht
 exact⟨fun _=>⟨i,by simpa using hi,rfl⟩,fun h=>by cases h⟩⟩
theorem bO:∀{ts us P P':List Tm},PtW P->(∀t∈ts,W52 t)->(∀t∈us,W52 t)->Dl P ts us=some P'->PtW P'
 |[],_,P,P',h,_,_,e=>by cases e;exact h
 |_::_,[],_,_,_,_,_,e=>by cases e
 |t::ts,u::us,P,P',h,h1,h2,e=>by
  unfold Dl at e;obtain⟨Q,hQ,e⟩:=Option.bind_eq_some_iff.1 e;refine bO ?_ (fun x hx=>h1 x (by simp[hx])) (fun x hx=>h2 x (by simp[hx])) e;unfold Pq at hQ;have ht:=h.of (h1 t (by simp));have hu:=h.of (h2 u (by simp));split at hQ
  ·cases hQ;exact h
  ·split at hQ
   ·cases hQ;exact h.wi ht
   ·split at hQ
    ·cases hQ;exact h.wi hu
    ·cases hQ
def QNm (q:Tx):Prop:=Ke q/\q.length<=1000
structure AtW (N:List Tx)(ar:Tx->Nat)(a:Df):Prop where
 nm:∃q∈N,a.p=(N.idxOf q:Nat)/\QNm q/\a.ts.length=ar q
 pos:0<a.ts.length
 le3:a.ts.length<=3
 w:∀t∈a.ts,W52 t
structure RuW (N:List Tx)(ar:Tx->Nat)(r:Dy):Prop where
 hd:AtW N ar r.head
 bd:∀l∈r.body,AtW N ar l.a
 bl:r.body.length<=100
theorem RuW.r52 {N:List Tx}{ar:Tx->Nat}{r:Dy}(h:RuW N ar r):R52 r:=⟨h.hd.le3,fun l hl=>(h.bd l hl).le3,h.bl,fun t ht=>(h.hd.w t ht).1,fun l hl t ht=>((h.bd l hl).w t ht).1⟩
theorem AtW.pin {N:List Tx}{ar:Tx->Nat}{a:Df}(h:AtW N ar a){P:List Tm}(hP:PtW P):AtW N ar (N6 P a):=by
 obtain⟨q,h1,h2,h3,h4⟩:=h.nm
 exact⟨⟨q,h1,h2,h3,by simp[N6,h4]⟩,by simpa[N6]using h.pos,by simpa[N6]using h.le3,fun t ht=>by
  obtain⟨u,hu,rfl⟩:=Ahv.1 ht
  exact hP.of (h.w u hu)⟩
theorem RuW.pin {N:List Tx}{ar:Tx->Nat}{r:Dy}(h:RuW N ar r){P:List Tm}(hP:PtW P):RuW N ar (Ex P r):=
 ⟨h.hd.pin hP,fun l hl=>by
  obtain⟨k,hk,rfl⟩:=Ahv.1 hl
  exact (h.bd k hk).pin hP,by simpa[Ex]using h.bl⟩
theorem RuW.join {N:List Tx}{ar:Tx->Nat}{r s:Dy}(h:RuW N ar r)(g:RuW N ar s)(n:Nat)(h5:r.body.length<=5)(g5:s.body.length<=5):RuW N ar ⟨r.head,Cp n s.body r.body⟩:=
 ⟨h.hd,fun l hl=>by
  rcases Du hl with hl|hl
  ·exact h.bd l hl
  ·exact g.bd l hl,by
  have h1:=Pg (n:=n) (o:=s.body) r.body r.body.length;rw[Agw]at h1;have h2:r.body.length*(s.body.length+1)<=5*6:=Nat.mul_le_mul h5 Ajm;show (Cp n s.body r.body).length<=100
  omega⟩
theorem nO {N:List Tx}{ar:Tx->Nat}{x:RItem}(hr:RuI N ar x)(hm:Msr N x)(ho:x.out=false)(hw:Cl x):RuW N ar (A4 N x):=by
 obtain⟨w1,w2,w3,w4⟩:=hw.2.2 ho;have key:∀a∈Ae x,AtI N ar a->D2 a->AtW N ar (Ca N a):=fun a ha hA hW=>
  ⟨⟨a.pred,hA.mem,rfl,⟨hW.1,(hm.at_ a ha).2.1⟩,by simp[Ca,hA.len]⟩,by simpa[Ca,Aie]using hW.2.1,by simpa[Ca]using hA.le3,fun t ht=>by
   obtain⟨w,hw,rfl⟩:=Ahv.1 ht
   exact OT.w ⟨w,(hm.at_ a ha).2.2 w hw,rfl⟩⟩
 refine⟨key _ (Au (.inl ⟨ho,rfl⟩)) hr.head w1,fun l hl=>?_,by simp[A4];omega⟩;obtain⟨a,ha,rfl⟩:=Ahv.1 hl;exact key a (Au (.inr ha)) (hr.body a ha) (w4 a ha)
def Wv (N:List Tx)(x:RItem)(k:Nat)(y:RItem):Option Dy:=
 (x.body[k]?).bind fun a=>(Dl pidn (a.terms.map Al) (Ex aprt (A4 N y)).head.ts).map fun P=>Ep (Ex P ⟨(A4 N x).head,Cp k (Ex aprt (A4 N y)).body (A4 N x).body⟩)
def Lg (q:Tx)(y:RItem):Bool:=!y.out&&decide (y.head.pred=q)
def Ld (N:List Tx)(l:List RItem)(x:RItem)(k:Nat)(q:Tx):List Dy:=(l.filter (Lg q)).filterMap (Wv N x k)
structure AtO (N:List Tx)(ar:Tx->Nat)(a:Df):Prop where
 nm:∃q∈N,a.p=(N.idxOf q:Nat)/\QNm q/\a.ts.length=ar q
 pos:0<a.ts.length
 le3:a.ts.length<=3
 ot:∀t∈a.ts,OT t
structure RuO (N:List Tx)(ar:Tx->Nat)(r:Dy):Prop where
 hd:AtO N ar r.head
 bd:∀l∈r.body,AtO N ar l.a
def Mh (N:List Tx)(b:Bool)(a:Df):RAtom:=⟨b,(N[a.p.toNat]?).getD [],a.ts.map Ia⟩
def Cy (N:List Tx)(r:Dy):RItem:=⟨false,Mh N false r.head,r.body.map fun l=>Mh N l.neg l.a⟩
theorem AtO.at {N:List Tx}{ar:Tx->Nat}{a:Df}(h:AtO N ar a)(b:Bool):(Mh N b a).pred∈N/\QNm (Mh N b a).pred/\(Mh N b a).terms.length=ar (Mh N b a).pred/\Ca N (Mh N b a)=a/\∀t∈(Mh N b a).terms,UT t:=by
 obtain⟨q,h1,h2,h3,h4⟩:=h.nm;have e:(Mh N b a).pred=q:=by
  show (N[a.p.toNat]?).getD []=q;rw[h2,Ai4,List.getElem?_eq_getElem (Ah9 h1),Ah8];rfl
 rw[e];refine⟨h1,h3,by simp[Mh,h4],?_,fun t ht=>?_⟩
 ·unfold Ca;rw[e,<-h2];show (⟨a.p,(a.ts.map Ia).map Al⟩:Df)=a;have:(a.ts.map Ia).map Al=a.ts:=by
   rw[Ag2]
   conv=>rhs;rw[<-Ahw a.ts]
   exact Ahx fun t ht=>(h.ot t ht).dec.2
  rw[this]
 ·obtain⟨u,hu,rfl⟩:=Ahv.1 ht;exact (h.ot u hu).dec.1
theorem RuO.rul {N:List Tx}{ar:Tx->Nat}{r:Dy}(h:RuO N ar r):A4 N (Cy N r)=r:=by
 obtain⟨hd,bd⟩:=r;unfold A4 Cy;simp only[(h.hd.at false).2.2.2.1,Ag2];congr 1
 conv=>rhs;rw[<-Ahw bd]
 refine Ahx fun l hl=>?_;show (⟨(Mh N l.neg l.a).nt,Ca N (Mh N l.neg l.a)⟩:Lit)=l;rw[((h.bd l hl).at l.neg).2.2.2.1];rfl
theorem kF {N:List Tx}:∀{l:List RAtom} {b:List AV},(∀a∈l,a.pred∈N)->EL Qf (l.map (Dq N)) b->EL (PL N) l b
 |[],_,_,h=>h
 |a::l,_,g,⟨c,d,⟨id,e⟩,h2,e2⟩=>⟨c,d,⟨g a (by simp),id,by rw[e];simp[Dq,Ca,F3]⟩,kF (fun b hb=>g b (by simp[hb])) h2,e2⟩
theorem Aaj {N:List Tx}{x:RItem}{c:List AV}(h:PI N x c):Re x.out (A4 N x) c:=by
 obtain⟨hm,ih,id,b,hb,rfl⟩:=h;exact⟨ih,id,b,by simp[A4,Ca,F3],nX hb⟩
theorem kA {N:List Tx}{x:RItem}{c:List AV}(h1:x.head.pred∈N)(h2:∀a∈x.body,a.pred∈N)(h:Re x.out (A4 N x) c):PI N x c:=by
 obtain⟨ih,id,b,rfl,hb⟩:=h;exact⟨h1,ih,id,b,kF h2 hb,by simp[A4,Ca,F3]⟩
theorem RuO.pi {N:List Tx}{ar:Tx->Nat}{r:Dy}(h:RuO N ar r){c:List AV}(hc:Re false r c):PI N (Cy N r) c:=by
 refine kA (h.hd.at false).1 (fun a ha=>?_) (by rw[h.rul];exact hc);obtain⟨l,hl,rfl⟩:=Ahv.1 ha;exact ((h.bd l hl).at l.neg).1
theorem RuO.atoms {N:List Tx}{ar:Tx->Nat}{r:Dy}(h:RuO N ar r){a:RAtom}(ha:a∈Ae (Cy N r)):∃m b,a=Mh N b m/\AtO N ar m:=by
 have aa:a=Mh N false r.head\/a∈r.body.map fun l=>Mh N l.neg l.a:=by simpa[Ae,Cy]using ha
 rcases aa with rfl|aa
 ·exact⟨_,_,rfl,h.hd⟩
 ·obtain⟨l,hl,rfl⟩:=Ahv.1 aa;exact⟨_,_,rfl,h.bd l hl⟩
theorem RuO.msr {N:List Tx}{ar:Tx->Nat}{r:Dy}(h:RuO N ar r)(hb:r.body.length<=1000):Msr N (Cy N r):=
 ⟨(fun e=>by cases e),by simpa[Cy]using hb,(h.hd.at false).1,(h.hd.at false).2.1.2,fun a ha=>by
  obtain⟨m,b,rfl,hm⟩:=h.atoms ha
  exact⟨by simpa[Mh]using hm.le3,(hm.at b).2.1.2,(hm.at b).2.2.2.2⟩⟩
theorem AtW.ren {N:List Tx}{ar:Tx->Nat}{a:Df}(h:AtW N ar a){vs:List Int}(hv:∀v,(true,v)∈a.ts->v∈vs)(hl:vs.length<=26):AtO N ar (fN vs a):=by
 obtain⟨q,h1,h2,h3,h4⟩:=h.nm;refine⟨⟨q,h1,h2,h3,by simp[fN,h4]⟩,by simpa[fN]using h.pos,by simpa[fN]using h.le3,fun t ht=>?_⟩;obtain⟨⟨b,v⟩,hu,rfl⟩:=Ahv.1 ht;cases b with
 |true=>
  have hm:=hv v hu;have hi:=Ah9 hm;have e:Fl vs (true,v)=(true,((vs.idxOf v:Nat):Int)):=by simp[Fl,lR,hm]
  rw[e];exact xL Ajm
 |false=>exact (h.w _ hu).2 rfl
theorem RuW.ord {N:List Tx}{ar:Tx->Nat}{r:Dy}(h:RuW N ar r)(h5:r.body.length<=5):RuO N ar (Ep r):=by
 have hl:(Er r).length<=26:=by
  have h1:=E5 (l:=G5 r) fun a ha=>by
   rcases Ahm.1 ha with rfl|ha
   ·exact h.hd.le3
   ·obtain⟨l,hl,rfl⟩:=Ahv.1 ha;exact (h.bd l hl).le3
  have h3:(G5 r).length=r.body.length+1:=by simp[G5]
  unfold Er;omega
 refine⟨h.hd.ren (fun v hv=>(C4 _ _).2 ⟨r.head,by simp[G5],hv⟩) hl,fun l hm=>?_⟩;obtain⟨k,hk,rfl⟩:=Ahv.1 hm;exact (h.bd k hk).ren (fun v hv=>(C4 _ _).2 ⟨k.a,by simp only[G5,Ahm,Ahv];exact .inr ⟨k,hk,rfl⟩,hv⟩) hl
theorem qC {N:List Tx}{p q:Tx}(hp:p∈N)(hq:q∈N):(((N.idxOf p:Nat):Int) !=((N.idxOf q:Nat):Int))=!decide (p=q):=by
 by_cases h:p=q
 ·subst h;simp
 ·have:N.idxOf p≠N.idxOf q:=fun e=>h (by
   have h1:=Ah8 (Ah9 hp);have h2:=Ah8 (Ah9 hq)
   rw[<-h1,<-h2];congr 1)
  simp[h];omega
theorem rB {N:List Tx}{l:List RItem}{x:RItem}{k:Nat}{q:Tx}{i:Nat}{y:RItem}(h:l[i]?=some y):Ld N (l.take (i+1)) x k q=Ld N (l.take i) x k q++(if Lg q y=true then (Wv N x k y).toList else []):=by
 unfold Ld;rw[Agz,h,Aia,Ai1,List.filterMap_append];congr 1;by_cases hq:Lg q y=true
 ·rw[if_pos hq,Ain,if_pos hq];cases e:Wv N x k y<;>simp[e]
 ·rw[if_neg hq,Ain,if_neg hq];rfl
theorem R5 (N:List Tx)(ar:Tx->Nat)(l:List RItem)(cs:List AV)(idn idi:Nat)(hR:RtL N ar l)(hE:EL (PI N) l cs)(x:RItem)(c:List AV)(k:Nat)(a:RAtom)(hx:x∈l)(bm:x.out=false)(hc:PI N x c)(ha:x.body[k]?=some a)(z:St):
  ACalls Tryz.prog 179 [Bo N idn l idi cs,ag c,sc (.int .i64 k)] z fun r z'=>(∃id c',r=sl id (Ld N l x k a.pred).length c'/\EL (Re false) (Ld N l x k a.pred) c')/\Keep z z':=by
 have cw:=hR.gl.len;have dy:=EL.length De hE;have b6:=Agp ha;have hW:=fun y hy ho=>nO (hR.ru y hy ho) (hR.gl.msr y hy) ho (hR.wit y hy);have bq:=hW x hx bm;have dr:=hR.b5 x hx;have c7:=((hR.ru x hx bm).body a b6).mem;have be:=((hR.ru x hx bm).body a b6).len;have b4:=Aaj hc;rw[bm]at b4;have b0:(A4 N x).body[k]?=some (Dq N a):=by simp[A4,ha]
 have cg:=bq.bd _ (Agp b0);have b9:=b4;obtain⟨ih,ib,bc,rfl,hb⟩:=b4;obtain⟨ia,ra,cz⟩:=Hl hb b0;have c6:=EL.length Gs hb;have cm:(A4 N x).body.length=x.body.length:=by simp[A4]
 have dv:k<x.body.length:=(List.getElem?_eq_some_iff.1 ha).1;have HU:Ajs (∀y,Wv N x k y=(Dl pidn (Dq N a).a.ts (Ex aprt (A4 N y)).head.ts).map fun P=>Ep (Ex P ⟨(A4 N x).head,Cp k (Ex aprt (A4 N y)).body (A4 N x).body⟩)):=fun y=>by
  unfold Wv;rw[ha];rfl
 have az:(Dq N a).a.p=((N.idxOf a.pred:Nat):Int):=rfl;have cf:(Dq N a).a.ts.length=ar a.pred:=by simp[Dq,Ca,be]
 generalize A4 N x=X at bq b9 b0 hb c6 cm HU;generalize (Dq N a).a=A at cz cg HU az cf;have c9:X.body.length<=5:=Ajm;have dw:k<X.body.length:=Ajm;have dl:Ajs _:=az;have dm:Ajs _:=cf;have df:Ajs (Re false X [sc (.bool false),ic X.head.p,sl ih X.head.ts.length (Ac X.head.ts),sl ib X.body.length bc]):=b9;have HR:Ajs (RtL N ar l):=hR;have HW:Ajs (∀y∈l,y.out=false->RuW N ar (A4 N y)):=hW;have de:Ajs (RuW N ar X):=bq;have ch:Ajs (AtW N ar A):=cg;clear b9 hR hW bq cg ha b6 b0 hc cm az cf be;refine Z9 65 [.tmp 6] Tryz.func179 ?_
 repeat' (first|refine Z1 ?_|(refine Z8 ?_;intro κ hκ)|(refine Z4 ?_;clear hκ κ)|(refine Z2 ?_ ?_<;>intro h af<;>try exact Xp)|(refine Z6 ?_;intro idn zn a6 bg ae ac aj ab)|refine Z3 ?_|exact⟨⟩|(apply hκ.out;clear hκ κ))
 refine Af (fun m s z'=>∃(i id:Nat) (R:List Dy) (c:List AV),m=l.length-i/\i<=l.length/\s 2=ic k/\s 4=ptr (z.nobj+1) 0/\s 7=sl id R.length c/\s 8=ptr (z.nobj+2) 0/\s 24=sl idi l.length cs/\s 25=ic l.length/\s 26=ic i/\Keep z z'/\z.nobj+2<z'.nobj/\z'.obj (z.nobj+1)=[sc (.bool false),ic X.head.p,sl ih X.head.ts.length (Ac X.head.ts),sl ib X.body.length bc]/\z'.obj (z.nobj+2)=[ic A.p,sl ia A.ts.length (Ac A.ts)]/\Own z z' id R.length/\c.length=R.length*4/\R.length<=i/\Ajs (R=Ld N (l.take i) x k a.pred/\EL (Re false) R c)) l.length
  ⟨0,1,[],[],Ajm,Ajm,by simp[upd,initS],Ajo,Ajo,Ajo,Ajo,Ajo,rfl,?_,?_,?_,?_,Own.nil _ _,by simp,by simp,⟨by simp[Ld],rfl⟩⟩ ?_
 ·exact ((((Keep.refl z).new _).new _).new _).put Ajm _
 ·simp only[Ab,Aa];omega
 ·rw[Ai Ajm,Ag Ajq,Bt (by rw[Aa];omega) (by rw[Aa];omega)]
 ·rw[show z.nobj+2=z.nobj+1+1 by omega,Ak]
 rintro m s z' ⟨i,id,R,c,rfl,hi,h2,h4,h7,h8,d3,d2,d1,hK,ds,dp,dn,hO,c5,dz,hA⟩;have dq:=hK.nobj;by_cases cj:i<l.length
 ·have ad:=List.getElem?_eq_getElem cj;have ba:=Ah6 cj;have ci:=((HR.out).gl.msr l[i] ba).mem;have a5:=fun (ho:l[i].out=false)=>HW.out l[i] ba ho;have cr:=HR.out.b5 l[i] ba;have aa:=fun (ho:l[i].out=false)=>(HR.out.ru l[i] ba ho).head.len;obtain⟨cy,ry,a3,hd⟩:=EL.get De hE ad;have a3:=Aaj a3;have HS:=rB (N:=N) (x:=x) (k:=k) (q:=a.pred) ad;have aw:=qC ci c7;have bo:(A4 N l[i]).head.p=((N.idxOf l[i].head.pred:Nat):Int):=rfl;have b7:(A4 N l[i]).body.length=l[i].body.length:=by simp[A4]
  have bp:(A4 N l[i]).head.ts.length=l[i].head.terms.length:=by simp[A4,Ca]
  have ak:=HU.out l[i];generalize l[i]=y at ad ba ci a5 cr aa a3 hd HS aw bo b7 bp ak;generalize A4 N y=Y at a5 a3 bo b7 bp ak;have c8:Y.body.length<=5:=Ajm;have dd:Ajs _:=bp;clear b7 bp;have bf:=a3;obtain⟨jh,jb,jc,rfl,cx⟩:=a3;simp only[Aho,Ahq]at hd;rw[<-bo,<-dl.out]at aw;clear bo;cases a0:y.out with
  |true=>
   have HN:Ajs (R=Ld N (l.take (i+1)) x k a.pred/\EL (Re false) R c):=by
    rw[HS];simp[Lg,a0];exact hA.out
   rw[a0]at hd;clear HS hA ad bf a5 aa aw ak
   repeat' (first|refine Z1 ?_|(refine Z8 ?_;intro κ hκ)|(refine Z4 ?_;clear hκ κ)|(refine Z2 ?_ ?_<;>intro h af<;>try exact Xp)|(refine Z6 ?_;intro idn zn a6 bg ae ac aj ab)|refine Z3 ?_|exact⟨⟩|(apply hκ.out;clear hκ κ))
   refine⟨l.length-(i+1),Ajm,i+1,id,R,c,?_⟩
   ((repeat' with_reducible refine And.intro ?_ ?_)<;>first|exact Xq|exact (HN)|exact Xs)
  |false=>
   rw[a0]at hd bf;by_cases bb:y.head.pred=a.pred
   ·have cv:(Y.head.p !=A.p)=false:=by rw[aw];simp[bb]
    have b8:=a5 a0;have a4:=b8.pin zW;have az:=fun z=>apart_spec Y b8.r52 false _ bf z;have bn:A.ts.length=(Ex aprt Y).head.ts.length:=by
     rw[dm.out,<-bb,<-aa a0,<-dd.out];simp[Ex,N6]
    have ax:=fun jh z=>sP A (Ex aprt Y).head ia jh bn (by have:=ch.out.le3;omega) (fun t ht=>(ch.out.w t ht).1) (fun t ht=>(a4.hd.w t ht).1) z;have ck:(Ex aprt Y).body.length<=5:=by simp[Ex];omega
    have br:∀P,Dl pidn A.ts (Ex aprt Y).head.ts=some P->PtW P:=fun P e=>bO lV ch.out.w a4.hd.w e;have bl:=de.out.join a4 k c9 ck;generalize Ex aprt Y=Z at a4 az bn ax ck br bl ak;have cd:=fun jb jc (h:EL Qf Z.body jc) z=>mI X false _ k Z.body jb jc df.out Ajm h Ajm z;have dx:=Gb;have hz:=Mr;have du:=S1;have d4:Ajs _:=bn;clear bf a5 aa aw b8 bn cx;cases hm:Dl pidn A.ts Z.head.ts with
    |none=>
     rw[hm]at ak ax;have HN:Ajs (R=Ld N (l.take (i+1)) x k a.pred/\EL (Re false) R c):=by
      rw[HS,ak];simp;exact hA.out
     have ct:=Hj (P:=pt0) (by simp[pt0]);have cu:=N4 (P:=pt0) (Q:=pt0) (by simp[pt0]) (by simp[pt0]);unfold Aei at ax;clear HS ak hA ad hm br cd bl a4
     repeat' (first|refine Z1 ?_|(refine Z8 ?_;intro κ hκ)|(refine Z4 ?_;clear hκ κ)|(refine Z2 ?_ ?_<;>intro h af<;>try exact Xp)|(refine Z6 ?_;intro idn zn a6 bg ae ac aj ab)|(refine Z5 ?_;first|(refine Xi (az _) ?_;rintro _ _ ⟨⟨_,rfl,ay⟩,ap⟩;(have ai:=((hK.new _).put hK.nobj _).trans ap;have cb:=Own.keep (Own.put (Own.new hO _) _ _) ap;have av:=ap.nobj;have an:=ap.obj;(try simp only[Aa,Ab]at av an);obtain⟨zh,zb,zc,rfl,ay⟩:=ay;clear ay))|(refine Xi (ax _ _) ?_;rintro _ _ ⟨rfl,ao⟩;(have ah:=((ai.new _).put ai.nobj _).trans ao;have ca:=Own.keep (Own.put (Own.new cb _) _ _) ao;have au:=ao.nobj;have am:=ao.obj;(try simp only[Aa,Ab]at au am))))|refine Z3 ?_|exact⟨⟩|(apply hκ.out;clear hκ κ))
     refine⟨l.length-(i+1),Ajm,i+1,id,R,c,?_⟩
     ((repeat' with_reducible refine And.intro ?_ ?_)<;>first|exact Xq|exact (HN)|exact (Own.put (Own.new ca _) _ _)|exact ((ah.new _).put ah.nobj _)|exact Xs)
    |some P=>
     rw[hm]at ak ax;have hP:=br P hm;have cn:=bl.pin hP;have ce:=fun c (h:Re false ⟨X.head,Cp k Z.body X.body⟩ c) z=>Zh P hP.len _ bl.r52 false c h z;have bu:=fun c (h:Re false (Ex P ⟨X.head,Cp k Z.body X.body⟩) c) z=>sH _ c h cn.r52 z;have HN:Ajs (∀d,Re false (Ep (Ex P ⟨X.head,Cp k Z.body X.body⟩)) d->R++[Ep (Ex P ⟨X.head,Cp k Z.body X.body⟩)]=Ld N (l.take (i+1)) x k a.pred/\EL (Re false) (R++[Ep (Ex P ⟨X.head,Cp k Z.body X.body⟩)]) (c++d)):=fun d hd=>by
      refine⟨?_,EL.append hA.out.2 (EL.single hd)⟩;rw[HS,ak];simp[Lg,a0,bb];exact hA.out.1
     have ct:=Hj hP.len;have cu:=N4 (P:=pt0) (by simp[pt0]) hP.len;have dt:=Gk hP.len;unfold Aei at ax;clear HS ak hA ad hm br cn bl a4 hP;generalize (⟨X.head,Cp k Z.body X.body⟩:Dy)=J at cd ce bu HN;generalize Ex P J=K at ce bu HN;generalize Ep K=O at bu HN
     repeat' (first|refine Z1 ?_|(refine Z8 ?_;intro κ hκ)|(refine Z4 ?_;clear hκ κ)|(refine Z2 ?_ ?_<;>intro h af<;>try exact Xp)|(refine Z6 ?_;intro idn zn a6 bg ae ac aj ab)|(refine Z5 ?_;first|(refine Xi (az _) ?_;rintro _ _ ⟨⟨_,rfl,ay⟩,ap⟩;(have ai:=((hK.new _).put hK.nobj _).trans ap;have cb:=Own.keep (Own.put (Own.new hO _) _ _) ap;have av:=ap.nobj;have an:=ap.obj;(try simp only[Aa,Ab]at av an);obtain⟨zh,zb,zc,rfl,ay⟩:=ay))|(refine Xi (ax _ _) ?_;rintro _ _ ⟨rfl,ao⟩;(have ah:=((ai.new _).put ai.nobj _).trans ao;have ca:=Own.keep (Own.put (Own.new cb _) _ _) ao;have au:=ao.nobj;have am:=ao.obj;(try simp only[Aa,Ab]at au am)))|(refine Xi (cd _ _ ay _) ?_;rintro _ _ ⟨⟨_,rfl,cq⟩,bz⟩;(have bi:=((ah.new _).put ah.nobj _).trans bz;have db:=Own.keep (Own.put (Own.new ca _) _ _) bz;have b3:=bz.nobj;have a9:=bz.obj;(try simp only[Aa,Ab]at b3 a9);have dk:Ajs _:=cq;obtain⟨jh3,jb3,jc3,rfl,-⟩:=cq))|(refine Xi (ce _ dk.out _) ?_;rintro _ _ ⟨⟨_,rfl,cp⟩,bw⟩;(have bh:=((bi.new _).put bi.nobj _).trans bw;have da:=Own.keep (Own.put (Own.new db _) _ _) bw;have b2:=bw.nobj;have a8:=bw.obj;(try simp only[Aa,Ab]at b2 a8);have dj:Ajs _:=cp;obtain⟨jh4,jb4,jc4,rfl,-⟩:=cp))|(refine Xi (bu _ dj.out _) ?_;rintro _ _ ⟨⟨_,rfl,co⟩,bv⟩;(have dc:=((bh.new _).put bh.nobj _).trans bv;have d0:=Own.keep (Own.put (Own.new da _) _ _) bv;have b1:=bv.nobj;have a7:=bv.obj;(try simp only[Aa,Ab]at b1 a7);have di:Ajs _:=HN.out _ co;obtain⟨jh5,jb5,jc5,rfl,-⟩:=co)))|refine Z3 ?_|exact⟨⟩|(apply hκ.out;clear hκ κ))
     have dh:Ajs _:=di.out;refine⟨l.length-(i+1),Ajm,i+1,idn,R++[O],c++[sc (.bool false),ic O.head.p,sl jh5 O.head.ts.length (Ac O.head.ts),sl jb5 O.body.length jc5],?_⟩
     ((repeat' with_reducible refine And.intro ?_ ?_)<;>first|exact Xq|exact (by simpa using a6)|exact (dh)|exact ((by simp[c5];omega))|exact (by rw[ae,a7 _ Ajm,Ai Ajm,Ag Ajm,a8 _ Ajm,Ai Ajm,Ag Ajm,a9 _ Ajm,Ai Ajm,Ag Ajm,am _ Ajm,Ai Ajm,Ag Ajm,an _ Ajm,Ai Ajm,Ag Ajm];assumption)|exact Xs)
   ·have cv:(Y.head.p !=A.p)=true:=by rw[aw];simp[bb]
    have HN:Ajs (R=Ld N (l.take (i+1)) x k a.pred/\EL (Re false) R c):=by
     rw[HS];simp[Lg,bb];exact hA.out
    clear HS hA ad bf a5 aa aw ak
    repeat' (first|refine Z1 ?_|(refine Z8 ?_;intro κ hκ)|(refine Z4 ?_;clear hκ κ)|(refine Z2 ?_ ?_<;>intro h af<;>try exact Xp)|(refine Z6 ?_;intro idn zn a6 bg ae ac aj ab)|refine Z3 ?_|exact⟨⟩|(apply hκ.out;clear hκ κ))
    refine⟨l.length-(i+1),Ajm,i+1,id,R,c,?_⟩
    ((repeat' with_reducible refine And.intro ?_ ?_)<;>first|exact Xq|exact (HN)|exact Xs)
 ·have hil:i=l.length:=Ajm;subst hil;obtain⟨e1,e2⟩:=hA.out;rw[Agw]at e1;have HF:Ajs (∀r,r=sl id R.length c->∃id c',r=sl id (Ld N l x k a.pred).length c'/\EL (Re false) (Ld N l x k a.pred) c'):=fun r hr=>by
   rw[<-e1];exact⟨id,c,hr,e2⟩
  clear hA e1 e2
  repeat' (first|refine Z1 ?_|(refine Z8 ?_;intro κ hκ)|(refine Z4 ?_;clear hκ κ)|(refine Z2 ?_ ?_<;>intro h af<;>try exact Xp)|(refine Z6 ?_;intro idn zn a6 bg ae ac aj ab)|refine Z3 ?_|exact⟨⟩|(apply hκ.out;clear hκ κ))
  first|exact⟨_,rfl,HF.out _ rfl,hK⟩|exact⟨_,rfl,HF.out _ rfl⟩
theorem Adv {α β:Type}{E:α->List AV->Prop}{E':β->List AV->Prop}{f:α->β}:∀{l:List α} {cs:List AV},EL E l cs->(∀a∈l,∀c,E a c->E' (f a) c)->EL E' (l.map f) cs
 |[],_,h,_=>h
 |a::l,_,⟨c,d,h1,h2,e⟩,g=>⟨c,d,g a (by simp) c h1,Adv h2 (fun b hb=>g b (by simp[hb])),e⟩
def uL (N:List Tx)(l:List RItem)(x:RItem)(k:Nat)(q:Tx):List RItem:=(Ld N l x k q).map (Cy N)
theorem uW {N:List Tx}{ar:Tx->Nat}{l:List RItem}(hR:RtL N ar l){x:RItem}(hx:x∈l)(ad:x.out=false){k:Nat}{a:RAtom}(ha:x.body[k]?=some a){r:Dy}(h:r∈Ld N l x k a.pred):∃s,RuW N ar s/\r=Ep s:=by
 have hW:=fun y hy ho=>nO (hR.ru y hy ho) (hR.gl.msr y hy) ho (hR.wit y hy);obtain⟨y,hy,e⟩:=List.mem_filterMap.1 h;obtain⟨ab,aa⟩:=Aip.1 hy;simp only[Lg,Ags,Ai5,Ajj]at aa;unfold Wv at e;rw[ha]at e;obtain⟨P,hP,rfl⟩:=Ajg.1 e;have hX:=hW x hx ad;have hZ:=(hW y ab aa.1).pin zW;have ae:(A4 N x).body.length<=5:=by simp[A4];exact hR.b5 x hx
 have ac:(Ex aprt (A4 N y)).body.length<=5:=by simp[Ex,A4];exact hR.b5 y ab
 have hA:=hX.bd (Dq N a) (by simp only[A4,Ahv];exact⟨a,Agp ha,rfl⟩);exact⟨_,(hX.join hZ k ae ac).pin (bO lV hA.w hZ.hd.w hP),rfl⟩
theorem Ad3 {N:List Tx}{ar:Tx->Nat}{l:List RItem}(hR:RtL N ar l){x:RItem}(hx:x∈l)(ab:x.out=false){k:Nat}{a:RAtom}(ha:x.body[k]?=some a){y:RItem}(h:y∈uL N l x k a.pred)(h5:y.body.length<=5):∃r,y=Cy N r/\RuO N ar r/\r.body.length<=5:=by
 obtain⟨r,hr,rfl⟩:=Ahv.1 h;obtain⟨s,hs,rfl⟩:=uW hR hx ab ha hr;have aa:s.body.length<=5:=by simpa[Cy,Ep]using h5
 exact⟨_,rfl,hs.ord aa,by simpa[Ep]using aa⟩
theorem Afi {N:List Tx}{ar:Tx->Nat}{l:List RItem}(hR:RtL N ar l){x:RItem}(hx:x∈l)(aa:x.out=false){k:Nat}{a:RAtom}(ha:x.body[k]?=some a){c:List AV}(h:EL (Re false) (Ld N l x k a.pred) c):EL (PJ N) (uL N l x k a.pred) c:=by
 refine Adv h fun r hr c hc=>?_;obtain⟨s,hs,rfl⟩:=uW hR hx aa ha hr;have hl:(Cy N (Ep s)).body.length=s.body.length:=by simp[Cy,Ep]
 have hb:=hs.bl;by_cases h5:s.body.length<=5
 ·have hO:=hs.ord h5;exact .inl ⟨hO.pi hc,hO.msr (by simp[Ep];omega)⟩
 ·obtain⟨ih,ib,bc,rfl,-⟩:=hc;exact .inr ⟨by rw[hl];omega,by rw[hl];omega,false,(Ep s).head.p,ih,(Ep s).head.ts.length,Ac (Ep s).head.ts,ib,bc,by rw[hl];simp[Ep]⟩
theorem Qz {l:List RItem}(h:H8 l=true):l.length<=16/\∀x∈l,x.body.length<=5:=by
 unfold H8 at h;simp only[Ags,Ajj,Ago]at h;exact⟨h.1,h.2.1⟩
theorem PJ.pi {N:List Tx}{x:RItem}{c:List AV}(h:PJ N x c)(h5:x.body.length<=5):PI N x c/\Msr N x:=h.resolve_right fun h=>by have:=h.1;omega
theorem RuO.fits {N:List Tx}{ar:Tx->Nat}{r:Dy}(h:RuO N ar r)(h5:r.body.length<=5):(Cy N r).fits:=by
 refine⟨by simp[Cy];omega,by have:=h.hd.le3;simp[Cy,Mh];omega,fun a ha=>?_⟩;obtain⟨l,hl,rfl⟩:=Ahv.1 ha;have:=(h.bd l hl).le3;simp[Mh];omega
def GdI (N:List Tx)(ar:Tx->Nat)(o:List RItem):Prop:=∀y∈o,y.body.length<=5->∃r,y=Cy N r/\RuO N ar r/\r.body.length<=5
theorem Adf {N:List Tx}{ar:Tx->Nat}{l:List RItem}(hR:RtL N ar l){x:RItem}(hx:x∈l)(aa:x.out=false){k:Nat}{a:RAtom}(ha:x.body[k]?=some a):GdI N ar (uL N l x k a.pred):=fun y hy h5=>Ad3 hR hx aa ha hy h5
theorem Ad4 (N:List Tx)(l:List RItem)(x:RItem)(k:Nat)(q:Tx):(uL N l x k q).length<=l.length:=by
 unfold uL Ld;rw[Aij];exact Agj (List.length_filterMap_le _ _) (Aio _ _)
theorem Adk {N:List Tx}{ar:Tx->Nat}{l o:List RItem}(hR:RtL N ar l)(hU:GdI N ar o)(i:Nat)(aa:H8 (Cp i o l)=true):GL N (Cp i o l):=by
 obtain⟨ab,h5⟩:=Qz aa;have hm:∀y∈Cp i o l,y∈l\/∃r,y=Cy N r/\RuO N ar r/\r.body.length<=5:=fun y hy=>by
  rcases Du hy with h|h
  ·exact .inl h
  ·exact .inr (hU y h (h5 y hy))
 refine⟨ab,hR.gl.nm,fun y hy=>?_,fun y hy=>?_,fun y hy=>?_,fun y hy=>?_,fun y hy=>?_⟩
 ·rcases hm y hy with h|⟨r,rfl,hr,hb⟩
  ·exact hR.gl.msr y h
  ·exact hr.msr Ajm
 ·rcases hm y hy with h|⟨r,rfl,hr,hb⟩
  ·exact hR.gl.fits y h
  ·exact hr.fits hb
 ·rcases hm y hy with h|⟨r,rfl,hr,hb⟩
  ·exact hR.gl.pos y h
  ·intro a ha;obtain⟨m,b,rfl,hm⟩:=hr.atoms ha;simpa[Mh]using hm.pos
 ·rcases hm y hy with h|⟨r,rfl,hr,hb⟩
  ·exact hR.gl.va y h
  ·intro a ha w hw;obtain⟨m,b,rfl,hm⟩:=hr.atoms ha;exact Yb ((hm.at b).2.2.2.2 w hw)
 ·rcases hm y hy with h|⟨r,rfl,hr,hb⟩
  ·exact hR.gl.ar y h
  ·intro a ha b hb e;obtain⟨m,c,rfl,hm⟩:=hr.atoms (Au (.inr ha));obtain⟨n,d,rfl,hn⟩:=hr.atoms (Au (.inr hb));rw[(hm.at c).2.2.1,(hn.at d).2.2.1,e]
theorem Adl {N:List Tx}{ar:Tx->Nat}{l o:List RItem}(hR:RtL N ar l)(hU:GdI N ar o)(ho:o.length<=16)(i:Nat){c:List AV}(h:EL (PJ N) (Cp i o l) c):BkJ N (Cp i o l) c:=by
 have hl:=hR.gl.len;refine⟨h,?_,fun aa=>(Adk hR hU i aa).bkm (Ow h fun y hy c hc=>(hc.pi ((Qz aa).2 y hy)).1)⟩;have h1:=Pg (n:=i) (o:=o) l l.length;rw[Agw]at h1;have h3:l.length*(o.length+1)<=16*17:=Nat.mul_le_mul hl Ajm;omega
theorem S9 {l:List RItem}(h:(Ce l).1=0){x:RItem}(hx:x∈l):F7 x=true:=by
 unfold Ce at h;split at h
 ·cases h
 ·split at h
  ·cases h
  ·rename_i h2;obtain⟨i,hi,e⟩:=List.getElem_of_mem hx;have:=mR h2 i hi;unfold Ea at this;rw[List.getElem?_eq_getElem hi,e]at this;simpa using this
theorem RuO.wit {N:List Tx}{ar:Tx->Nat}{r:Dy}(h:RuO N ar r)(h5:r.body.length<=5):Cl (Cy N r):=by
 have key:∀m b,AtO N ar m->D2 (Mh N b m):=fun m b hm=>⟨(hm.at b).2.1.1,by
  have:=hm.pos;intro e;have:=congrArg List.length e;simp[Mh]at this
  simp[this]at*,by simpa[Mh]using hm.le3,fun t ht=>((hm.at b).2.2.2.2 t ht).2.1⟩
 refine⟨(h.hd.at false).2.1.1,(fun e=>by cases e),fun _=>⟨key _ _ h.hd,rfl,by simpa[Cy]using h5,fun a ha=>?_⟩⟩;obtain⟨l,hl,rfl⟩:=Ahv.1 ha;exact key _ _ (h.bd l hl)
theorem RuO.wi {N:List Tx}{ar:Tx->Nat}{r:Dy}(h:RuO N ar r)(h5:r.body.length<=5):WI N (Cy N r):=by
 have hw:=h.wit h5;have ac:∀m b,AtO N ar m->short (Mh N b m):=fun m b hm=>⟨(hm.at b).2.1.2,by have:=hm.le3;simp[Mh];omega,fun t ht=>((hm.at b).2.2.2.2 t ht).2.2.1⟩;have ab:∀m b,AtO N ar m->VA (Mh N b m):=fun m b hm t ht=>Yb ((hm.at b).2.2.2.2 t ht);have ad:∀a∈Ae (Cy N r),WA N (A5 (Cy N r)) a:=fun a ha=>by
  obtain⟨m,b,rfl,hm⟩:=h.atoms ha;exact⟨(hm.at b).1,by simpa[Mh]using hm.pos,(ac m b hm).2.1,(hm.at b).2.1.2,fun w aa=>⟨((hm.at b).2.2.2.2 w aa).1,((hm.at b).2.2.2.2 w aa).2.2.1,fun hv=>Mu hw ha aa hv⟩⟩
 refine⟨h.fits h5,⟨ac _ _ h.hd,fun a ha=>?_⟩,fun a ha=>?_,ab _ _ h.hd,fun a ha=>?_,(h.hd.at false).1,by simpa[Cy]using h5,(fun e=>by cases e),fun _=>⟨rfl,ad _ (Au (.inl ⟨rfl,rfl⟩))⟩,fun a ha=>ad a (Au (.inr ha))⟩
 ·obtain⟨l,hl,rfl⟩:=Ahv.1 ha;exact ac _ _ (h.bd l hl)
 ·obtain⟨m,b,rfl,hm⟩:=h.atoms ha;exact ab _ _ hm
 ·obtain⟨l,hl,rfl⟩:=Ahv.1 ha;exact ab _ _ (h.bd l hl)
theorem RuO.ru {N:List Tx}{ar:Tx->Nat}{r:Dy}(h:RuO N ar r)(hs:F7 (Cy N r)=true):RuI N ar (Cy N r):=by
 have ab:∀m b,AtO N ar m->AtI N ar (Mh N b m):=fun m b hm=>⟨(hm.at b).1,(hm.at b).2.2.1,by simpa[Mh]using hm.le3⟩;have aa:∀m b,AtO N ar m->∀t∈(Mh N b m).terms,VT t/\DT t:=fun m b hm t ht=>⟨Yb ((hm.at b).2.2.2.2 t ht),((hm.at b).2.2.2.2 t ht).1⟩;have ac:∀a∈Ae (Cy N r),VA a:=fun a ha t ht=>by
  obtain⟨m,b,rfl,hm⟩:=h.atoms ha;exact (aa m b hm t ht).1
 refine⟨ab _ _ h.hd,rfl,fun a ha=>?_,aa _ _ h.hd,fun a ha=>?_,fun v hm hv=>?_⟩
 ·obtain⟨l,hl,rfl⟩:=Ahv.1 ha;exact ab _ _ (h.bd l hl)
 ·obtain⟨l,hl,rfl⟩:=Ahv.1 ha;exact aa _ _ (h.bd l hl)
 ·obtain⟨b,hb,-,ad⟩:=Um (by rw[Sv ac];exact hs) (fun a ha=>by
   obtain⟨m,b,rfl,hm⟩:=h.atoms ha
   exact (hm.at b).2.2.2.2) (a:=(Cy N r).head) (Au (.inl ⟨rfl,rfl⟩)) hm hv
  exact⟨b,hb,ad⟩
theorem Adj {N:List Tx}{ar:Tx->Nat}{l o:List RItem}(hR:RtL N ar l)(hU:GdI N ar o)(i:Nat)(hb:Cz N l (Cp i o l)=true):RtL N ar (Cp i o l):=by
 unfold Cz at hb;simp only[Ags,Ajk]at hb;obtain⟨aa,-,hw⟩:=hb;have h5:=(Qz aa).2;have hm:∀y∈Cp i o l,y∈l\/∃r,y=Cy N r/\RuO N ar r/\r.body.length<=5:=fun y hy=>by
  rcases Du hy with h|h
  ·exact .inl h
  ·exact .inr (hU y h (h5 y hy))
 refine⟨Adk hR hU i aa,h5,fun y hy ho=>?_,fun y hy=>?_,fun y hy=>?_⟩
 ·rcases hm y hy with h|⟨r,rfl,hr,hb⟩
  ·exact hR.ru y h ho
  ·exact hr.ru (S9 hw hy)
 ·rcases hm y hy with h|⟨r,rfl,hr,hb⟩
  ·exact hR.wi y h
  ·exact hr.wi hb
 ·rcases hm y hy with h|⟨r,rfl,hr,hb⟩
  ·exact hR.wit y h
  ·exact hr.wit hb
def Wr (N:List Tx)(U:Nat->Nat->Bool)(l:List RItem)(i k:Nat):Bool:=match l[i]? with
 |some x=>(match x.body[k]? with
  |some a=>!a.nt&&(!U (N.idxOf a.pred) (N.idxOf a.pred)&&(Cg N l (N.idxOf a.pred)&&Cz N l (Cp i (uL N l x k a.pred) l)))
  |none=>false)
 |none=>false
def sK (N:List Tx)(U:Nat->Nat->Bool)(l:List RItem)(n:Nat):Prop:=∀i y,i<n->l[i]?=some y->∀k,k<y.body.length->Wr N U l i k=false
def chU (N:List Tx)(l:List RItem)(idn:Nat)(x:AV)(b:Bool):Prop:=∃M,Dr N l M/\
 ((b=false/\sK N (F9 N.length M N.length) l l.length)\/(b=true/\∃i k y a,l[i]?=some y/\y.out=false/\y.body[k]?=some a/\Wr N (F9 N.length M N.length) l i k=true/\sK N (F9 N.length M N.length) l i/\(∀k',k'<k->Wr N (F9 N.length M N.length) l i k'=false)/\∃id c',x=Bo N idn (Cp i (uL N l y k a.pred) l) id c'/\EL (PI N) (Cp i (uL N l y k a.pred) l) c'))
theorem Aah {N:List Tx}(x:RItem)(c:List AV)(h:PJ N x c):Itm c:=by
 rcases h with⟨h,-⟩|⟨-,-,o,p,ih,n1,tc,ib,b,rfl⟩
 ·exact kB h
 ·exact⟨_,_,_,_,_,_,_,_,rfl⟩
theorem O1 (N:List Tx)(ar:Tx->Nat)(l:List RItem)(cs:List AV)(idn idi:Nat)(hR:RtL N ar l)(hE:EL (PI N) l cs)(z:St):
  ACalls Tryz.prog 127 [Bo N idn l idi cs] z fun r z'=>(∃x b,r=tp [x,sc (.bool b)]/\chU N l idn x b/\jX x)/\Keep z z':=by
 have hG:=hR.gl;have cw:=EL.length De hE;have bb:=hG.len;have hN:=hG.nm;have b5:=fun z=>N0 N l cs idn idi ((hG.bkm hE).bk bb) z;have ck:Ajs (EL (PJ N) l cs):=Ow hE fun x hx c hc=>.inl ⟨hc,hG.msr x hx⟩;have HB:Ajs (BkM N l cs):=hG.bkm hE;have HR:Ajs (RtL N ar l):=hR;clear hG hR;refine Z9 71 [.cell 2 62,.tmp 3] Tryz.func127 ?_
 repeat' (first|refine Z1 ?_|(refine Z8 ?_;intro κ hκ)|(refine Z4 ?_;clear hκ κ)|(refine Z2 ?_ ?_<;>intro h aa<;>try exact Xp)|(refine Z5 ?_;refine Xi (b5 _) ?_;rintro _ _ ⟨idu,B,M0,rfl,bf,ci,cz,br,b9⟩;(have bn:=bf.nobj;have ai:=bf.obj;(try simp only[Aa,Ab]at bn ai ci)))|refine Z3 ?_|exact⟨⟩|(apply hκ.out;clear hκ κ))
 rename_i z1;have obk:z1.obj z.nobj=[sl idn N.length (N.map str),sl idi l.length cs]:=by rw[ai _ Ajm,Ag Ajq,Ap]
 have obr:z1.obj (z.nobj+1)=[nilS,nilS]:=by rw[ai _ Ajm];first|exact Ap|simp[Ap]
 have ce:Ajs (Dr N l M0):=b9;generalize b7:F9 N.length M0 N.length=U at br;have HU:Ajs _:=b7;have b8:Keep z z1:=(((Keep.refl z).new _).new _).trans bf;clear b9 b7 bf ai b5
 refine Af (fun m s z'=>∃(i:Nat),m=l.length-i/\i<=l.length/\s 1=ptr z.nobj 0/\s 2=ptr (z.nobj+1) 0/\s 4=sl idu N.length (Fe B N.length N.length)/\s 17=sl idi l.length cs/\s 18=sc (.int .i64 l.length)/\s 19=sc (.int .i64 i)/\Keep z z'/\z1.nobj<=z'.nobj/\z'.obj z.nobj=[sl idn N.length (N.map str),sl idi l.length cs]/\z'.obj (z.nobj+1)=[nilS,nilS]/\Ajs (Mat B N.length U z')/\Ajs (sK N U l i)) l.length
  ⟨0,Ajm,Ajm,Ajo,Ajo,Ajo,Ajo,Ajo,rfl,b8,Ajm,obk,obr,br,fun i y h=>Ajm⟩ ?_
 clear b8 obk obr br;rintro m s z' ⟨i,rfl,hi,h1,h2,h4,cd,cb,ca,hK,ct,bi,bh,hM,hA⟩;have cn:=hK.nobj;by_cases b1:i<l.length
 ·have am:=List.getElem?_eq_getElem b1;have a5:=Ah6 b1;have b3:=HR.out.gl.fits l[i] a5;have bz:=HR.out.gl.msr l[i] a5;obtain⟨b0,ih,idb,b,r,be,hd⟩:=En hE am;generalize l[i]=x at hd am b0 be a5 b3 bz;have cy:=b3.1;have cx:=EL.length Dt be;have HG:Ajs (l[i]?=some x):=am;clear am
  repeat' (first|refine Z1 ?_|(refine Z8 ?_;intro κ hκ)|(refine Z4 ?_;clear hκ κ)|(refine Z2 ?_ ?_<;>intro h aa<;>try exact Xp)|refine Z3 ?_|exact⟨⟩|(apply hκ.out;clear hκ κ))
  refine Af (fun m s z2=>∃(k:Nat),m=x.body.length-k/\k<=x.body.length/\s 1=ptr z.nobj 0/\s 2=ptr (z.nobj+1) 0/\s 4=sl idu N.length (Fe B N.length N.length)/\s 5=sc (.int .i64 i)/\s 6=ptr z'.nobj 0/\s 17=sl idi l.length cs/\s 18=sc (.int .i64 l.length)/\s 19=sc (.int .i64 i)/\s 25=sl idb x.body.length b/\s 26=sc (.int .i64 x.body.length)/\s 27=sc (.int .i64 k)/\Keep z z2/\z'.nobj<z2.nobj/\z2.obj z.nobj=[sl idn N.length (N.map str),sl idi l.length cs]/\z2.obj (z.nobj+1)=[nilS,nilS]/\z2.obj z'.nobj=[sc (.bool x.out),sc (.int .i64 (N.idxOf x.head.pred:Nat)),sl ih x.head.terms.length (Aw x.head.terms),sl idb x.body.length b]/\Ajs (Mat B N.length U z2)/\Ajs (∀k',k'<k->Wr N U l i k'=false)) x.body.length
   ⟨0,Ajm,Ajm,Ajn,Ajn,Ajn,Ajn,Ajn,Ajn,Ajn,Ajn,Ajo,Ajo,Ajo,Xs,Ajr,by rw[Ai Ajm,Ag Ajm,bi],by rw[Ai Ajm,Ag Ajm,bh],by rw[Ak],Mat.put (Mat.new hM.out Ajm _) Ajm _,fun k' h=>Ajm⟩ ?_
  clear h1 h2 h4 cd cb ca hK bi bh hM;rintro m s z2 ⟨k,rfl,hk,h1,h2,h4,h5,h6,cd,cb,ca,c8,c7,c5,hK,ch,bi,bh,cf,hM,bc⟩;have cg:=hK.nobj;by_cases a0:k<x.body.length
  ·have aj:x.out=false:=by
    cases h:x.out with
    |false=>rfl
    |true=>rw[bz.out h]at a0;cases a0
   have ao:=List.getElem?_eq_getElem a0;obtain⟨b4,ia,ra,bd⟩:=Ml be ao;generalize x.body[k]=a at ao b4 bd;have ab:Wr N U l i k=(!a.nt&&(!U (N.idxOf a.pred) (N.idxOf a.pred)&&(Cg N l (N.idxOf a.pred)&&Cz N l (Cp i (uL N l x k a.pred) l)))):=by unfold Wr;rw[HG.out];dsimp only;rw[ao]
   have an:Ajs (Wr N U l i k=false->∀k',k'<k+1->Wr N U l i k'=false):=fun hf k' b2=>by
    rcases Agl k' k with h|h
    ·exact bc.out k' h
    ·rw[show k'=k by omega,hf]
   have hp:=Ah9 b4;have av:=fun z=>L0 N l cs idn idi (N.idxOf a.pred) hE Ajm z
   have ap:=fun c (hc:PI N x c) z=>(R5 N ar l cs idn idi HR.out hE x c k a a5 aj hc ao z).mono (R':=fun r z'=>(∃id c',r=sl id (uL N l x k a.pred).length c'/\EL (PJ N) (uL N l x k a.pred) c')/\Keep z z') (fun r z' h=>by
    obtain⟨⟨id,c',rfl,h1⟩,h2⟩:=h
    exact⟨⟨id,c',by simp[uL],Afi HR.out a5 aj ao h1⟩,h2⟩)
   have au:(uL N l x k a.pred).length<=16:=Agj (Ad4 _ _ _ _ _) bb;have b6:(uL N l x k a.pred).length<=1000:=Ajm;have a3:=fun co ido (h:EL (PJ N) (uL N l x k a.pred) co) z=>Ly (E:=PJ N) Aah N l (uL N l x k a.pred) cs co idn idi ido i ck.out h Ajm b6 z;have af:=fun c' id' (h:EL (PJ N) (Cp i (uL N l x k a.pred) l) c') z=>Hu N l (Cp i (uL N l x k a.pred) l) cs c' idn idi id' HB.out (Adl HR.out (Adf HR.out a5 aj ao) au i h) z;have ah:Ajs (∀c',Cz N l (Cp i (uL N l x k a.pred) l)=true->EL (PJ N) (Cp i (uL N l x k a.pred) l) c'->EL (PI N) (Cp i (uL N l x k a.pred) l) c'):=fun c' hb h=>by
    unfold Cz at hb;simp only[Ags]at hb;exact Ow h fun y hy c hc=>(hc.pi ((Qz hb.1).2 y hy)).1
   have HC:Ajs (∀id c' x',Wr N U l i k=true->x'=Bo N idn (Cp i (uL N l x k a.pred) l) id c'->EL (PI N) (Cp i (uL N l x k a.pred) l) c'->chU N l idn x' true):=fun id c' x' ho bo bp=>⟨M0,ce.out,by
    rw[HU.out]
    exact .inr ⟨rfl,i,k,x,a,HG.out,aj,ao,ho,hA.out,bc.out,id,c',bo,bp⟩⟩
   have bq:=PI.of (ih:=ih) (id:=idb) b0 be;rw[aj]at cf bq;have cj:Ajs _:=bq;clear bq ao bc;cases hnt:a.nt with
   |true=>
    have a4:Ajs (∀k',k'<k+1->Wr N U l i k'=false):=an.out (by rw[ab,hnt];rfl);rw[hnt]at bd;clear ab an av ap a3 af ah HC
    repeat' (first|refine Z1 ?_|(refine Z8 ?_;intro κ hκ)|(refine Z4 ?_;clear hκ κ)|(refine Z2 ?_ ?_<;>intro h aa<;>try exact Xp)|refine Z3 ?_|exact⟨⟩|(apply hκ.out;clear hκ κ))
    refine⟨x.body.length-(k+1),Ajm,k+1,?_⟩
    ((repeat' with_reducible refine And.intro ?_ ?_)<;>first|exact Xq|exact (a4)|exact (by rw[aj];assumption)|exact (Mat.put (Mat.new hM.out Ajm _) Ajm _)|exact Xs)
   |false=>
    rw[hnt]at bd ab;generalize N.idxOf a.pred=p at bd hp ab av;have cr:=Ij (B:=B) (n:=N.length) (k:=N.length) hp;have cq:=Ii B N.length N.length;have cu:=hM.out _ hp;have cp:=Eh N.length (U p);have bw:=Gp (U p) hp;have ak:∀cs',(z2.new cs').obj (B+p)=z2.obj (B+p):=fun cs'=>Ag Ajm;cases hu:U p p with
    |true=>
     have a4:Ajs (∀k',k'<k+1->Wr N U l i k'=false):=an.out (by rw[ab,hu];rfl);rw[hu]at bw;clear ab an av ap a3 af ah HC ak hu
     repeat' (first|refine Z1 ?_|(refine Z8 ?_;intro κ hκ)|(refine Z4 ?_;clear hκ κ)|(refine Z2 ?_ ?_<;>intro h aa<;>try exact Xp)|refine Z3 ?_|exact⟨⟩|(apply hκ.out;clear hκ κ))
     refine⟨x.body.length-(k+1),Ajm,k+1,?_⟩
     ((repeat' with_reducible refine And.intro ?_ ?_)<;>first|exact Xq|exact (a4)|exact (by rw[aj];assumption)|exact (Mat.put (Mat.new hM.out Ajm _) Ajm _)|exact Xs)
    |false=>
     rw[hu]at bw ab;cases a6:Cg N l p with
     |false=>
      have a4:Ajs (∀k',k'<k+1->Wr N U l i k'=false):=an.out (by rw[ab,a6];rfl);rw[a6]at av;clear ab an ap a3 af ah HC ak hu a6
      repeat' (first|refine Z1 ?_|(refine Z8 ?_;intro κ hκ)|(refine Z4 ?_;clear hκ κ)|(refine Z2 ?_ ?_<;>intro h aa<;>try exact Xp)|(refine Z5 ?_;refine Xi (av _) ?_;rintro _ _ ⟨rfl,ae⟩;(have ad:=ae.nobj;have ac:=ae.obj;(try simp only[Ab,Aa]at ad ac)))|refine Z3 ?_|exact⟨⟩|(apply hκ.out;clear hκ κ))
      refine⟨x.body.length-(k+1),Ajm,k+1,?_⟩
      ((repeat' with_reducible refine And.intro ?_ ?_)<;>first|exact Xq|exact (a4)|exact (by rw[aj];assumption)|exact (Mat.keep (Mat.put (Mat.new hM.out Ajm _) Ajm _) ae Ajr)|exact Xs)
     |true=>
      rw[a6]at av ab;simp only[Bool.not_false,Ahy]at ab;rw[<-ab]at af ah;clear au;generalize uL N l x k a.pred=V at ap a3 af ah HC b6;generalize Cp i V l=W at a3 af ah HC;have ap:=fun z=>ap _ cj.out z;cases a7:Wr N U l i k with
      |true=>
       rw[a7]at af ah;have cm:Ajs (∀id c' x',x'=Bo N idn W id c'->EL (PJ N) W c'->chU N l idn x' true):=fun id c' x' bo bp=>HC.out id c' x' a7 bo (ah.out c' rfl bp);clear ab an ah HC ak hu a6 a7 hA
       repeat' (first|refine Z1 ?_|(refine Z8 ?_;intro κ hκ)|(refine Z4 ?_;clear hκ κ)|(refine Z2 ?_ ?_<;>intro h aa<;>try exact Xp)|(refine Z5 ?_;first|(refine Xi (av _) ?_;rintro _ _ ⟨rfl,ae⟩;(have ad:=ae.nobj;have ac:=ae.obj;(try simp only[Ab,Aa]at ad ac)))|(refine Xi (ap _) ?_;rintro _ _ ⟨⟨id4,c4,rfl,bu⟩,ba⟩;(have az:=ba.nobj;have ax:=ba.obj;(try simp only[Ab,Aa]at az ax)))|(refine Xi (a3 _ _ bu _) ?_;rintro _ _ ⟨⟨id6,c6,rfl,bg⟩,a9⟩;(have ay:=a9.nobj;have aw:=a9.obj;(try simp only[Ab,Aa,Ah]at ay aw)))|(refine Xi (af c6 id6 bg _) ?_;rintro _ _ ⟨⟨x7,rfl,bv,⟨id71,n71,c71,id72,n72,c72,rfl⟩⟩,a8⟩;(have bm:=a8.nobj;have bl:=a8.obj)))|refine Z3 ?_|exact⟨⟩|(apply hκ.out;clear hκ κ))
       exact⟨_,rfl,⟨_,true,rfl,cm.out _ _ _ (bv rfl) bg,_,_,_,_,_,_,rfl⟩,Xs⟩
      |false=>
       rw[a7]at af;have a4:Ajs (∀k',k'<k+1->Wr N U l i k'=false):=an.out a7;clear ab an ah HC ak hu a6 a7
       repeat' (first|refine Z1 ?_|(refine Z8 ?_;intro κ hκ)|(refine Z4 ?_;clear hκ κ)|(refine Z2 ?_ ?_<;>intro h aa<;>try exact Xp)|(refine Z5 ?_;first|(refine Xi (av _) ?_;rintro _ _ ⟨rfl,ae⟩;(have ad:=ae.nobj;have ac:=ae.obj;(try simp only[Ab,Aa]at ad ac)))|(refine Xi (ap _) ?_;rintro _ _ ⟨⟨id4,c4,rfl,bu⟩,ba⟩;(have az:=ba.nobj;have ax:=ba.obj;(try simp only[Ab,Aa]at az ax)))|(refine Xi (a3 _ _ bu _) ?_;rintro _ _ ⟨⟨id6,c6,rfl,bg⟩,a9⟩;(have ay:=a9.nobj;have aw:=a9.obj;(try simp only[Ab,Aa,Ah]at ay aw)))|(refine Xi (af c6 id6 bg _) ?_;rintro _ _ ⟨⟨x7,rfl,bv,⟨id71,n71,c71,id72,n72,c72,rfl⟩⟩,a8⟩;(have bm:=a8.nobj;have bl:=a8.obj)))|refine Z3 ?_|exact⟨⟩|(apply hκ.out;clear hκ κ))
       refine⟨x.body.length-(k+1),Ajm,k+1,?_⟩
       ((repeat' with_reducible refine And.intro ?_ ?_)<;>first|exact Xq|exact (a4)|exact (by rw[aj];assumption)|exact (Mat.put (Mat.new (Mat.keep (Mat.put (Mat.new hM.out Ajm _) Ajm _) (((ae.trans ba).trans a9).trans a8) Ajr) Ajm _) Ajm _)|exact Xs)
  ·have cv:k=x.body.length:=Ajm;have HA:Ajs (sK N U l (i+1)):=fun j y hj hy k' b2=>by
    rcases Agl j i with h|h
    ·exact hA.out j y h hy k' b2
    ·have:j=i:=Ajm;subst this;rw[HG.out]at hy;cases hy;exact bc.out k' Ajm
   clear bc HG hA
   repeat' (first|refine Z1 ?_|(refine Z8 ?_;intro κ hκ)|(refine Z4 ?_;clear hκ κ)|(refine Z2 ?_ ?_<;>intro h aa<;>try exact Xp)|refine Z3 ?_|exact⟨⟩|(apply hκ.out;clear hκ κ))
   refine⟨l.length-(i+1),Ajm,i+1,?_⟩
   ((repeat' with_reducible refine And.intro ?_ ?_)<;>first|exact Xq|exact (HA)|exact Xs)
 ·have hil:i=l.length:=Ajm;subst hil;have HC:Ajs (∀x,chU N l idn x false):=fun x=>⟨M0,ce.out,by rw[HU.out];exact .inl ⟨rfl,hA.out⟩⟩;clear hA
  repeat' (first|refine Z1 ?_|(refine Z8 ?_;intro κ hκ)|(refine Z4 ?_;clear hκ κ)|(refine Z2 ?_ ?_<;>intro h aa<;>try exact Xp)|refine Z3 ?_|exact⟨⟩|(apply hκ.out;clear hκ κ))
  exact⟨_,rfl,⟨_,false,rfl,HC.out _,_,_,_,_,_,_,rfl⟩,Xs⟩
def Acm (p:Tx):Tx:=p++[40,65,44,66,41,58,45]++p++[40,65,44,67,41,44]++p++[40,67,44,66,41,46]
def vX (p e:Tx):Tx:=p++[40,65,44,66,41,58,45]++e++[40,65,44,66,41,46]
def Nk (x:RItem):Bool:=Dh x==Acm x.head.pred
def Lq (x:RItem):Bool:=match x.body with
 |[a]=>!decide (a.pred=x.head.pred)&&(Dh x==vX x.head.pred a.pred)
 |_=>false
theorem mA {N:List Tx}{p:Tx}(h:p∈N):(N.map str).drop (N.idxOf p)=str p::(N.map str).drop (N.idxOf p+1):=by
 have aa:=Ah9 h;have:=E0 aa;rwa[Ah8 aa]at this
theorem We (N:List Tx)(l:List RItem)(cs:List AV)(idn idi:Nat)(hB:Bk N l cs)(x:RItem)(c:List AV)(hx:PI N x c)(hw:WI N x)(z:St):ACalls Tryz.prog 180 [Bo N idn l idi cs,ag c] z fun r z'=>r=sc (.bool (Nk x))/\Keep z z':=by
 have hT:=fun z=>Jq N l cs idn idi hB x c hx hw z;have hN:=hB.nm;have hpl:=hw.short.1.1;obtain⟨hm,ih,id,b,hb,rfl⟩:=hx;have ab:=Ah9 hm;have ac:=mA hm;have h1:({data:=#[40,65,44,66,41,58,45]}:ByteArray)=bs [40,65,44,66,41,58,45]:=rfl;have h2:({data:=#[40,65,44,67,41,44]}:ByteArray)=bs [40,65,44,67,41,44]:=rfl;have h3:({data:=#[40,67,44,66,41,46]}:ByteArray)=bs [40,67,44,66,41,46]:=rfl;have HA:Ajs (∀t,t=Acm x.head.pred->(Dh x==t)=Nk x):=fun t e=>by rw[e];rfl
 generalize N.idxOf x.head.pred=ix at ab ac hT;generalize Dh x=W at hT HA;refine Z9 25 [.tmp 4] Tryz.func180 ?_
 repeat' (first|refine Z1 ?_|(refine Z8 ?_;intro κ hκ)|(refine Z4 ?_;clear hκ κ)|(refine Z2 ?_ ?_<;>intro h ad<;>try exact Xp)|(refine Z5 ?_;refine Xi (hT _) ?_;rintro _ _ ⟨rfl,ae⟩;(have aa:=ae.nobj))|refine Z7 ?_|exact⟨⟩|(apply hκ.out;clear hκ κ))
 exact⟨_,rfl,by rw[<-HA.out _ rfl];simp[Acm],Xs⟩
theorem yG {N:List Tx}{p q:Tx}(hp:p∈N)(hq:q∈N):(((N.idxOf p:Nat):Int)==((N.idxOf q:Nat):Int))=decide (p=q):=by
 by_cases h:p=q
 ·subst h;simp
 ·have:N.idxOf p≠N.idxOf q:=fun e=>h (by
   have h1:=Ah8 (Ah9 hp);have h2:=Ah8 (Ah9 hq)
   rw[<-h1,<-h2];congr 1)
  simp[h];omega
theorem iL (N:List Tx)(l:List RItem)(cs:List AV)(idn idi:Nat)(hB:Bk N l cs)(x:RItem)(c:List AV)(hx:PI N x c)(hw:WI N x)(z:St):ACalls Tryz.prog 213 [Bo N idn l idi cs,ag c] z fun r z'=>r=sc (.bool (Lq x))/\Keep z z':=by
 have hT:=fun z=>Jq N l cs idn idi hB x c hx hw z;have hN:=hB.nm;have hpl:=hw.short.1.1;have ae:=hw.short.2;have av:=hw.body;obtain⟨hm,ih,id,b,hb,rfl⟩:=hx;have ah:=Ah9 hm;have ai:=mA hm;have ao:=EL.length Dt hb;have h1:({data:=#[40,65,44,66,41,58,45]}:ByteArray)=bs [40,65,44,66,41,58,45]:=rfl;have h2:({data:=#[40,65,44,66,41,46]}:ByteArray)=bs [40,65,44,66,41,46]:=rfl;by_cases ab:x.body.length=1
 ·obtain⟨a,ad⟩:=List.length_eq_one_iff.1 ab;have ac:x.body[0]?=some a:=by rw[ad];rfl
  obtain⟨af,ia,ra,aj⟩:=Ml hb ac;have aw:=(ae a (by rw[ad];simp)).1;have am:=Ah9 af;have an:=mA af;have hq:=yG af hm;have ap:((x.body.length:Int) !=1)=false:=by rw[ab];rfl
  simp only[Ag7,List.drop_zero]at aj;subst aj;have HS:Ajs (Lq x=(!decide (a.pred=x.head.pred)&&(Dh x==vX x.head.pred a.pred))):=by rw[Ajs,Lq,ad]
  have ax:0<x.body.length:=Ajm;generalize N.idxOf x.head.pred=ix at ah ai hT hq;generalize N.idxOf a.pred=jx at am an hq hT ao;generalize Dh x=W at hT HS;generalize x.body.length=n at*
  clear ab ac ad ae hb;refine Z9 49 [.tmp 4] Tryz.func213 ?_
  repeat' (first|refine Z1 ?_|(refine Z8 ?_;intro κ hκ)|(refine Z4 ?_;clear hκ κ)|(refine Z2 ?_ ?_<;>intro h aa<;>try exact Xp)|refine Z7 ?_|exact⟨⟩|(apply hκ.out;clear hκ κ))
  refine Bu (Q:=fun e s' z''=>e= .normal/\s' 22=sc (.bool (decide (a.pred=x.head.pred)))/\s' 2=ptr z.nobj 0/\s' 3=ptr (z.nobj+1) 0/\z''=(z.new [sl idn N.length (N.map str),sl idi l.length cs]).new [sc (.bool x.out),sc (.int .i64 ix),sl ih x.head.terms.length (Aw x.head.terms),sl id n (sc (.bool a.nt)::sc (.int .i64 jx)::sl ia a.terms.length (Aw a.terms)::ra)]) ?_ ?_
  ·refine A2 Aj (fun _=>True) [] [0,1,2,3,4,5,6,7,8,9,10,11,12,13,14,15] 0 #[true,true,true,true,true,true,true,true,true,true,true,true,true,true,true,true] Ajp (fun _ _ _ h=>by cases h.1) ?_;intro κ hκ;refine Z7 ?_;refine hκ.out _ ?_;clear hκ κ;exact A3 Ajp ⟨rfl,Ajn,Ajn,Ajn,rfl⟩
  rintro e s' z'' ⟨rfl,g22,g2,g3,rfl⟩;cases hp:decide (a.pred=x.head.pred)with
  |true=>
   have HF:Ajs (Lq x=false):=by rw[Ajs,HS.out,hp];rfl
   rw[hp]at g22;clear HS hp;refine F4 g22 ?_
   repeat' (first|refine Z1 ?_|(refine Z8 ?_;intro κ hκ)|(refine Z4 ?_;clear hκ κ)|(refine Z2 ?_ ?_<;>intro h aa<;>try exact Xp)|refine Z7 ?_|exact⟨⟩|(apply hκ.out;clear hκ κ))
   exact⟨_,rfl,by rw[HF.out],Xs⟩
  |false=>
   have HF:Ajs (∀t,t=vX x.head.pred a.pred->(W==t)=Lq x):=fun t e=>by rw[e,HS.out,hp];rfl
   rw[hp]at g22;clear HS hp hq;refine E4 g22 ?_
   repeat' (first|refine Z1 ?_|(refine Z8 ?_;intro κ hκ)|(refine Z4 ?_;clear hκ κ)|(refine Z2 ?_ ?_<;>intro h aa<;>try exact Xp)|refine Z7 ?_|exact⟨⟩|(apply hκ.out;clear hκ κ))
   refine Bu (Q:=fun e s' z''=>e= .normal/\s' 5=str x.head.pred/\s' 6=str a.pred/\s' 2=ptr z.nobj 0/\s' 3=ptr (z.nobj+1) 0/\z''=(z.new [sl idn N.length (N.map str),sl idi l.length cs]).new [sc (.bool x.out),sc (.int .i64 ix),sl ih x.head.terms.length (Aw x.head.terms),sl id n (sc (.bool a.nt)::sc (.int .i64 jx)::sl ia a.terms.length (Aw a.terms)::ra)]) ?_ ?_
   ·refine A2 Aj (fun _=>True) [] [0,1,2,3,4,5,6,7,8,9,10] 0 #[true,true,true,true,true,true,true,true,true,true,true] Ajp (fun _ _ _ h=>by cases h.1) ?_;intro κ hκ;refine Z7 ?_;refine hκ.out _ ?_;clear hκ κ;exact A3 Ajp ⟨rfl,Ajn,Ajn,Ajn,Ajn,rfl⟩
   rintro e s2 z2 ⟨rfl,k5,k6,k2,k3,rfl⟩
   repeat' (first|refine Z1 ?_|(refine Z8 ?_;intro κ hκ)|(refine Z4 ?_;clear hκ κ)|(refine Z2 ?_ ?_<;>intro h aa<;>try exact Xp)|(refine Z5 ?_;refine Xi (hT _) ?_;rintro _ _ ⟨rfl,au⟩;(have ak:=au.nobj))|refine Z7 ?_|exact⟨⟩|(apply hκ.out;clear hκ κ))
   exact⟨_,rfl,by rw[<-HF.out _ rfl];simp[vX],Xs⟩
 ·have ap:((x.body.length:Int) !=1)=true:=by simp;omega
  have HS:Ajs (Lq x=false):=by
   unfold Lq Ajs;split
   ·rename_i a e;rw[e]at ab;exact absurd rfl ab
   ·rfl
  generalize N.idxOf x.head.pred=ix at ah ai hT;generalize x.body.length=n at*
  clear ab ae hb;refine Z9 49 [.tmp 4] Tryz.func213 ?_
  repeat' (first|refine Z1 ?_|(refine Z8 ?_;intro κ hκ)|(refine Z4 ?_;clear hκ κ)|(refine Z2 ?_ ?_<;>intro h aa<;>try exact Xp)|refine Z7 ?_|exact⟨⟩|(apply hκ.out;clear hκ κ))
  refine Bu (Q:=fun e s' z''=>e= .normal/\s' 22=sc (.bool true)/\s' 2=ptr z.nobj 0/\s' 3=ptr (z.nobj+1) 0/\z''=(z.new [sl idn N.length (N.map str),sl idi l.length cs]).new [sc (.bool x.out),sc (.int .i64 ix),sl ih x.head.terms.length (Aw x.head.terms),sl id n b]) ?_ ?_
  ·refine A2 Aj (fun _=>True) [] [0,1,2,3,4,5,6,7,8,9,10,11,12,13,14,15] 0 #[true,true,true,true,true,true,true,true,true,true,true,true,true,true,true,true] Ajp (fun _ _ _ h=>by cases h.1) ?_;intro κ hκ;refine Z7 ?_;refine hκ.out _ ?_;clear hκ κ;exact A3 Ajp ⟨rfl,Ajn,Ajn,Ajn,rfl⟩
  rintro e s' z'' ⟨rfl,g22,g2,g3,rfl⟩;refine F4 g22 ?_
  repeat' (first|refine Z1 ?_|(refine Z8 ?_;intro κ hκ)|(refine Z4 ?_;clear hκ κ)|(refine Z2 ?_ ?_<;>intro h aa<;>try exact Xp)|refine Z7 ?_|exact⟨⟩|(apply hκ.out;clear hκ κ))
  exact⟨_,rfl,by rw[HS.out],Xs⟩
end Go.Proofs.YtmoeoppbmhfbpabGreatDoorL
