import Derived.Test.YtmoeoppbmhfbpaaGreatDoorHFolA
import Derived.Test.YtmoeoppbmhfbpaaGreatDoorHStrC
import Derived.Test.YtmoeoppbmhfbpaaGreatDoorHDocI
import Derived.Test.YtmoeoppbmhfbpaaGreatDoorHProgH
set_option maxHeartbeats 64000000
set_option maxRecDepth 100000
set_option linter.all false
namespace Go.Proofs.YtmoeoppbmhfbpaaGreatDoorH
open Go.Abs
def Pi (l:List RItem)(s:Nat)(x:RItem):Bool:=!x.out&&(Ay l x.head.pred==s)
def Ix (l:List RItem)(s:Nat):List RItem:=l.filter (Pi l s)
def PMi (N:List Tx)(l:List RItem)(B:Cq):Nat->Cq
 |0=>B
 |s+1=>LstG ((Ix l s).map (Fg N)) (PMi N l B s)
structure yY (N:List Tx)(l:List RItem)(np:Nat)(ar:Nat->Nat):Prop where
 nn:N.length<=np
 hN:∀x∈l,x.head.pred∈N/\∀a∈x.body,a.pred∈N
 kn:∀i,i<l.length->E5 l i=false
 rw':∀x∈l,x.out=false->RW np ar (Fg N x)
theorem rX {N:List Tx}{p q:Tx}(hp:p∈N)(hq:q∈N)(h:N.idxOf p=N.idxOf q):p=q:=by
 have h1:N[N.idxOf p]?=some p:=by rw[Aav (Ade.2 hp)];simp
 have h2:N[N.idxOf q]?=some q:=by rw[Aav (Ade.2 hq)];simp
 rw[h,h2]at h1;exact (Ac9 h1).symm
theorem Wt {l:List RItem}(ho:∀x∈l,x.out=true->x.body=[])(hk:∀i,i<l.length->E5 l i=false)(hl:l.length<=16){x:RItem}(hx:x∈l){a:RAtom}(ha:a∈x.body)(hn:a.nt=true):Ay l a.pred<Ay l x.head.pred:=by
 have hi:=Eh ho (Tb ho hk) hl;have h1:=(hi a.pred (Ay l a.pred)).2 (Aak _);have h2:HH l (Ay l a.pred+1) x.head.pred:=⟨x,hx,.inl rfl,a,ha,hn,h1⟩;exact (hi _ _).1 h2
theorem qY {N:List Tx}{l:List RItem}{np:Nat}{ar:Nat->Nat}(h:yY N l np ar)(ho:∀x∈l,x.out=true->x.body=[])(hl:l.length<=16)(s:Nat):Apart ((Ix l s).map (Fg N)):=fun r hr k hk hn r' ae e=>by
 obtain⟨x,hx,rfl⟩:=Acf.1 hr;obtain⟨y,hy,rfl⟩:=Acf.1 ae;obtain⟨a,ha,rfl⟩:=Acf.1 hk;obtain⟨aa,ad⟩:=Ac7.1 hx;obtain⟨ac,ab⟩:=Ac7.1 hy;simp only[Pi,Aaz,Adx]at ad ab;simp only[Fg,Dv,Pd,Adi]at e;have e2:=rX (h.hN y ac).1 ((h.hN x aa).2 a ha) e;have:=Wt ho h.kn hl aa ha hn;rw[<-e2]at this;omega
theorem xA {N:List Tx}{l:List RItem}{np:Nat}{ar:Nat->Nat}(h:yY N l np ar)(s:Nat):∀r∈(Ix l s).map (Fg N),RW np ar r:=fun r hr=>by
 obtain⟨x,hx,rfl⟩:=Acf.1 hr;obtain⟨ab,aa⟩:=Ac7.1 hx;simp only[Pi,Aaz]at aa;exact h.rw' x ab (by simpa using aa.1)
theorem PMi.up {N:List Tx}{l:List RItem}{B:Cq}{k:Nat}{t:Bj}:∀{s s':Nat},s<=s'->PMi N l B s k t->PMi N l B s' k t
 |s,0,h,g=>by
  have:s=0:=Ad2;subst this;exact g
 |s,s'+1,h,g=>by
  by_cases e:s=s'+1
  ·subst e;exact g
  ·exact LstG.base (PMi.up (s:=s) (s':=s') Ad2 g)
def FolI (N:List Tx)(l:List RItem)(M:MM)(b:Int)(s:Nat)(M1:MM)(d1:Int):Prop:=
 M1.length=M.length/\d1=tot M1-tot M/\
 ((¬b<d1/\(∀k t,MD M1 k t↔PMi N l (MD M) s k t)/\∀x∈M1,x.2.Nodup)\/
  (b<d1/\∃M2:MM,M2.length=M.length/\(∀x∈M2,x.2.Nodup)/\(∀k t,MD M k t->MD M2 k t)/\(∀k t,MD M2 k t->PMi N l (MD M) s k t)/\b<tot M2-tot M))
theorem FolI.start {N:List Tx}{l:List RItem}{M:MM}{b:Int}(hb:0<=b)(hn:∀x∈M,x.2.Nodup):FolI N l M b 0 M 0:=
 ⟨rfl,Ad2,.inl ⟨Ad2,fun k t=>Iff.rfl,hn⟩⟩
theorem yM {N:List Tx}{l:List RItem}{np:Nat}{ar:Nat->Nat}(h:yY N l np ar)(ho:∀x∈l,x.out=true->x.body=[])(hl:l.length<=16){M M1:MM}{b d1:Int}{s:Nat}(hI:FolI N l M b s M1 d1)(hS:yX ar M1)(hp:∀k t,PMi N l (MD M) s k t->Sh ar k t):
  ∃D:Cq,wR np ar ((Ix l s).map (Fg N)) D/\(∀k t,MD M1 k t->D k t)/\NgIn ((Ix l s).map (Fg N)) D M1/\(∀k t,D k t->Sh ar k t)/\
   ∀M' d',GroA D M1 M' d1 d'->(¬b<d'->tT ((Ix l s).map (Fg N)) D (MD M'))->FolI N l M b (s+1) M' d':=by
 have hR:=xA h s;have hA:=qY h ho hl s;obtain⟨e1,e2,h3⟩:=hI;rcases h3 with⟨a1,a2,a3⟩|⟨a1,M2,b1,b2,b3,b4,b5⟩
 ·have hF:=sD (B:=PMi N l (MD M) s) hR hp;refine⟨LstG ((Ix l s).map (Fg N)) (PMi N l (MD M) s),hF,fun k t g=>LstG.base ((a2 k t).1 g),vG hA (fun k t g=>(a2 k t).2 g),fun k t g=>hF.sh k t g,fun M' d' hG hC=>?_⟩;have hc:=hG.cnt;have ab:∀k t,MD M' k t->PMi N l (MD M) (s+1) k t:=hG.inD (fun k t g=>LstG.base ((a2 k t).1 g));have aa:=hG.nodup a3;refine⟨hG.len.trans e1,Ad2,?_⟩;by_cases hb:b<d'
  ·exact .inr ⟨hb,M',hG.len.trans e1,aa,fun k t g=>hG.sub ((a2 k t).2 (PMi.up (Nat.zero_le s) g)),ab,Ad2⟩
  ·refine .inl ⟨hb,fun k t=>⟨ab k t,fun g=>?_⟩,aa⟩;exact oO hA (fun k t g=>hG.sub ((a2 k t).2 g)) (hC hb) g
 ·have hF:=sE (M:=M1) hR hA;refine⟨DX ar ((Ix l s).map (Fg N)) M1,hF,fun k t g=>⟨hS k t g,fun _=>g⟩,vH,fun k t g=>g.1,fun M' d' hG hC=>?_⟩;have hc:=hG.cnt;have ac:=(fX M1 M' hG.len hG.lens).1;exact⟨hG.len.trans e1,Ad2,.inr ⟨Ad2,M2,b1,b2,b3,fun k t g=>LstG.base (b4 k t g),b5⟩⟩
theorem gV {N:List Tx}{l:List RItem}{np:Nat}{ar:Nat->Nat}(h:yY N l np ar){B:Cq}(hB:∀k t,B k t->Sh ar k t):∀s k t,PMi N l B s k t->Sh ar k t
 |0,k,t,g=>hB k t g
 |s+1,k,t,g=>g.least (gV h hB s) (gE (xA h s))
theorem uM {l:List RItem}{s q:Nat}{y:RItem}(h:l[q]?=some y):(l.take (q+1)).filter (Pi l s)=(l.take q).filter (Pi l s)++if Pi l s y=true then [y]else []:=by
 rw[Aa8,h,Ab9,Dn]
theorem Y2 (N:List Tx)(l:List RItem)(cs:List AV)(idn idi:Nat)(np:Nat)(ar:Nat->Nat)(hB:Bk N l cs)(hR:yY N l np ar)(om ot:Nat)(b:Int)(b6:0<=b)(ch:b<=1000)(M:MM)(hn:M.length=np)(hS:yX ar M)(b1:∀x∈M,x.2.Nodup)(ht:tot M<=1000)(z:St)(hM:MOb z om ot M 0 b):
  ACalls Tryz.prog 47 [ptr om 0,Fa N idn l idi cs] z fun r z'=>∃M' d',MOb z' om ot M' d' b/\KM om ot M M' z z'/\FolI N l M b (l.length+1) M' d':=by
 have cg:=EL.length Iy hB.el;have ay:=hB.len;have ci:=hB.nm;have hE:=hB.el;have ba:=fun z=>bS N l cs idn idi hB z;have bj:∀p∈N,Bv N l l.length (N.idxOf p)=Ay l p:=fun p hp=>mX ay hB.out hR.hN hR.kn hp;have bv:=gV hR (B:=MD M) hS;generalize Bv N l l.length=cc at ba bj;have lo:=hM.lo;have lt:=hM.lt;unfold Fa at ba⊢;refine Z9 47 [] Tryz.func47 ?_
 repeat' (first|refine Z1 ?_|(refine Z8 ?_;intro ya J)|(refine Z4 ?_;clear J ya)|(refine Z2 ?_ ?_<;>intro h ae<;>try exact Xp)|(refine Z6 ?_;intro idn zn ai aj ad ab ac aa)|(refine Z5 ?_;refine Xi (ba _) ?_;rintro _ _ ⟨o,rfl,oo,bz,bh,a5⟩;(have aw:=a5.nobj;have am:=a5.obj;simp only[Aa]at aw am bz))|refine Z3 ?_|exact Zt|(apply J.out;clear J ya))
 rename_i z1;have av:z1.obj z.nobj=[sl idn N.length (N.map str),sl idi l.length cs]:=by rw[am _ Ad2,Am]
 have bc:Keep z z1:=((Keep.refl z).new _).trans a5
 refine Ab (fun m s z'=>∃(q:Nat) (M1:MM) (d1:Int),m=l.length+1-q/\q<=l.length+1/\s 0=ptr om 0/\s 3=ptr z.nobj 0/\s 4=fx o 0 N.length/\s 5=ic q/\MOb z' om ot M1 d1 b/\KM om ot M M1 z z'/\o<z'.nobj/\z'.obj z.nobj=[sl idn N.length (N.map str),sl idi l.length cs]/\z'.obj o=E8 N.length cc/\0<=d1/\d1<=1000000/\Ad8 (FolI N l M b q M1 d1/\yX ar M1)) (l.length+1)
  ⟨0,M,0,Ad2,Ad2,by simp[upd,initS],Ad4,Ad4,Ad4,hM.keep bc,KM.ofKeep bc,bh,av,oo,Ad2,Ad2,FolI.start b6 b1,hS⟩ ?_
 clear bc a5 am aw av oo bh;rintro m s z' ⟨q,M1,d1,rfl,hq,h0,h3,h4,h5,a4,ap,bw,av,oo,cf,b5,hI⟩;have b9:=ap.nobj;have lo1:=a4.lo;have lt1:=a4.lt;by_cases cb:q<=l.length
 ·have ca:(q:Int)<=16:=Ad2
  repeat' (first|refine Z1 ?_|(refine Z8 ?_;intro ya J)|(refine Z4 ?_;clear J ya)|(refine Z2 ?_ ?_<;>intro h ae<;>try exact Xp)|(refine Z6 ?_;intro idn zn ai aj ad ab ac aa)|refine Z3 ?_|exact Zt|(apply J.out;clear J ya))
  refine Ab (fun m s z2=>∃(j i6:Nat) (L:List RItem) (ys:List AV),m=l.length-j/\j<=l.length/\s 0=ptr om 0/\s 3=ptr z.nobj 0/\s 4=fx o 0 N.length/\s 5=ic q/\s 6=sl i6 L.length ys/\s 20=sl idi l.length cs/\s 21=ic l.length/\s 22=ic j/\Keep z' z2/\Own z' z2 i6 L.length/\ys.length=L.length*4/\L.length<=j/\Ad8 (L=(l.take j).filter (Pi l q)/\EL tS (L.map (Fg N)) ys)) l.length
   ⟨0,1,[],[],Ad2,Ad2,Ad3,Ad3,Ad3,Ad3,Ad4,Ad3,Ad3,Ad4,Keep.refl _,Own.nil _ _,rfl,by simp,by simp,rfl⟩ ?_
  clear h0 h3 h4 h5;rintro m s z2 ⟨j,i6,L,ys,rfl,hj,h0,h3,h4,h5,h6,cn,cm,ck,hK,hO,br,cj,hL⟩;have bq:=hK.nobj;have oo2:z2.obj o=E8 N.length cc:=by rw[hK.obj _ bw,oo]
  by_cases a7:j<l.length
  ·have ah:=Aav a7;obtain⟨a3,jh,jd,jb,r2,bi,b4⟩:=Lb hE ah;generalize l[j]=y at ah bi b4 a3;have au:Ad8 _:=uM (s:=q) ah;have a0:=yT (PI.of (ih:=jh) (id:=jd) a3 bi);have b3:=Ade.2 a3;have a9:=E7 cc b3;rw[bj _ a3]at a9;clear ah;cases af:y.out with
   |true=>
    have HN:Ad8 (L=(l.take (j+1)).filter (Pi l q)/\EL tS (L.map (Fg N)) ys):=⟨by rw[au.out,if_neg (by simp[Pi,af]),Abc];exact hL.out.1,hL.out.2⟩;clear au a0
    repeat' (first|refine Z1 ?_|(refine Z8 ?_;intro ya J)|(refine Z4 ?_;clear J ya)|(refine Z2 ?_ ?_<;>intro h ae<;>try exact Xp)|(refine Z6 ?_;intro idn zn ai aj ad ab ac aa)|refine Z3 ?_|exact Zt|(apply J.out;clear J ya))
    refine⟨l.length-(j+1),Ad2,j+1,i6,L,ys,?_⟩
    ((repeat' refine Zi ?_ ?_)<;>first|exact Xq|exact HN|exact ((hK.new _).put hK.nobj _)|exact (Own.put (Own.new hO _) _ _)|exact Xs)
   |false=>
    rw[af]at a0;by_cases ax:Ay l y.head.pred=q
    ·have HN:Ad8 (L++[y]=(l.take (j+1)).filter (Pi l q)/\EL tS ((L++[y]).map (Fg N)) (ys++[sc (.bool false),sc (.int .i64 (N.idxOf y.head.pred:Nat)),sl jh y.head.terms.length (A8 y.head.terms),sl jd y.body.length jb])):=⟨by rw[au.out,if_pos (by simp[Pi,af,ax]),hL.out.1],by rw[Aba];exact EL.append hL.out.2 (EL.single a0)⟩;rw[ax]at a9;clear au a0 ax
     repeat' (first|refine Z1 ?_|(refine Z8 ?_;intro ya J)|(refine Z4 ?_;clear J ya)|(refine Z2 ?_ ?_<;>intro h ae<;>try exact Xp)|(refine Z6 ?_;intro idn zn ai aj ad ab ac aa)|refine Z3 ?_|exact Zt|(apply J.out;clear J ya))
     refine C4 (by first|exact Oy) ((hK.new _).put hK.nobj _) (Own.put (Own.new hO _) _ _) (by decide) (by rfl) (br) (by rfl) (by rfl) (by decide) Ad2 Ad2 ?_;intro idx zn ai aj ad ab ac aa;refine Z3 ?_
     repeat' (first|refine Z1 ?_|(refine Z8 ?_;intro ya J)|(refine Z4 ?_;clear J ya)|(refine Z2 ?_ ?_<;>intro h ae<;>try exact Xp)|(refine Z6 ?_;intro idn zn ai aj ad ab ac aa)|refine Z3 ?_|exact Zt|(apply J.out;clear J ya))
     refine⟨l.length-(j+1),Ad2,j+1,idx,L++[y],ys++[sc (.bool false),sc (.int .i64 (N.idxOf y.head.pred:Nat)),sl jh y.head.terms.length (A8 y.head.terms),sl jd y.body.length jb],?_⟩
     ((repeat' refine Zi ?_ ?_)<;>first|exact Xq|exact HN|exact (by rw[Abj];exact ai)|exact Xs)
    ·have HN:Ad8 (L=(l.take (j+1)).filter (Pi l q)/\EL tS (L.map (Fg N)) ys):=⟨by rw[au.out,if_neg (by simp[Pi,af,ax]),Abc];exact hL.out.1,hL.out.2⟩;have b0:((Ay l y.head.pred:Int)==(q:Int))=false:=by simp;omega
     generalize Ay l y.head.pred=sy at a9 b0;clear au a0 ax
     repeat' (first|refine Z1 ?_|(refine Z8 ?_;intro ya J)|(refine Z4 ?_;clear J ya)|(refine Z2 ?_ ?_<;>intro h ae<;>try exact Xp)|(refine Z6 ?_;intro idn zn ai aj ad ab ac aa)|refine Z3 ?_|exact Zt|(apply J.out;clear J ya))
     refine⟨l.length-(j+1),Ad2,j+1,i6,L,ys,?_⟩
     ((repeat' refine Zi ?_ ?_)<;>first|exact Xq|exact HN|exact ((hK.new _).put hK.nobj _)|exact (Own.put (Own.new hO _) _ _)|exact Xs)
  ·have b2:j=l.length:=Ad2;subst b2;obtain⟨bb,bm⟩:=hL.out;rw[Aa3]at bb;obtain⟨D,hF,a8,a6,bf,an⟩:=yM hR hB.out ay hI.out.1 hI.out.2 (bv q);have bl:L=Ix l q:=bb;rw[<-bl]at hF a6 an;have az:M1.length=np:=by have:=hI.out.1.1;rw[this];exact hn
   have bg:Room M1 d1 b:=uO (GroA.refl D M1 d1) (by have:=hI.out.1.2.1;omega);have bo:=fun z (h:MOb z om ot M1 d1 b)=>Of hF om ot b Ad2 Ad2 M1 d1 az a8 a6 bg Ad2 b5 ys i6 bm (by rw[Ace];omega) z h;rw[Ace]at bo;have be:Ad8 (∀M' d',GroA D M1 M' d1 d'->(¬b<d'->tT (L.map (Fg N)) D (MD M'))->FolI N l M b (q+1) M' d'/\yX ar M'):=fun M' d' g1 g2=>⟨an M' d' g1 g2,fun k t g=>bf k t (g1.inD a8 k t g)⟩;clear hF a6 an bl bb bm hL a8 bf bg az
   repeat' (first|refine Z1 ?_|(refine Z8 ?_;intro ya J)|(refine Z4 ?_;clear J ya)|(refine Z2 ?_ ?_<;>intro h ae<;>try exact Xp)|(refine Z6 ?_;intro idn zn ai aj ad ab ac aa)|(refine Z5 ?_;refine Xi (bo _ (a4.keep (Xs))) ?_;rintro _ _ ⟨M',d',b7,ao,bn,ce,cd,bk⟩;(have b8:Ad8 _:=be.out M' d' bn bk;clear bn bk;have bp:=ao.nobj;have ak:=ao.obj;have bd:=(ap.trans (KM.ofKeep hK)).trans ao))|refine Z3 ?_|exact Zt|(apply J.out;clear J ya))
   rename_i z7;refine⟨l.length+1-(q+1),Ad2,q+1,M',d',?_⟩;have e1:z7.obj z.nobj=[sl idn N.length (N.map str),sl idi l.length cs]:=by rw[ak _ Ad2 Ad2 Ad2,hK.obj _ Ad2,av]
   have e2:z7.obj o=E8 N.length cc:=by rw[ak _ Ad2 Ad2 Ad2,hK.obj _ Ad2,oo]
   clear ak
   ((repeat' refine Zi ?_ ?_)<;>first|exact Xq|exact b7|exact bd|exact b8|exact e1|exact e2|exact (by rw[hK.obj _ Ad2,av])|exact Xs)
 ·have bu:q=l.length+1:=Ad2;subst bu
  repeat' (first|refine Z1 ?_|(refine Z8 ?_;intro ya J)|(refine Z4 ?_;clear J ya)|(refine Z2 ?_ ?_<;>intro h ae<;>try exact Xp)|(refine Z6 ?_;intro idn zn ai aj ad ab ac aa)|refine Z3 ?_|exact Zt|(apply J.out;clear J ya))
  exact⟨_,rfl,M1,d1,a4,ap,hI.out.1⟩
theorem Vl {l m:List Int}(hl:l.length=m.length)(h3:l.length<=3)(h:C8 l=C8 m):l=m:=by
 refine Abd fun i=>?_;by_cases hi:i<l.length
 ·unfold C8 at h;simp only[List.cons.injEq,and_true]at h;obtain⟨e0,e1,e2⟩:=h;have h1:=Aav hi;have h2:=Aav (l:=m) (i:=i) Ad2;have:i=0\/i=1\/i=2:=Ad2;rcases this with rfl|rfl|rfl
  ·rw[h1,h2]at e0;rw[h1,h2];exact congrArg some e0
  ·rw[h1,h2]at e1;rw[h1,h2];exact congrArg some e1
  ·rw[h1,h2]at e2;rw[h1,h2];exact congrArg some e2
 ·rw[Aa7 Ad2,Aa7 Ad2]
theorem wU {t:Tx}(h1:DT t)(h2:Qi t)(h3:t.length<=1000)(h4:VT t):UT t:=by
 refine⟨h1,h2,h3,fun hv=>?_⟩;rcases h4 with⟨b,rfl,hb⟩|⟨h5,h6⟩
 ·simp only[B6,Aaz,Adw]at hb;refine⟨b.toNat-65,Ad2,?_⟩;have:=Pf (k:=((b.toNat-65:Nat):Int)) Ad2 Ad2;have e:(Qp ((b.toNat-65:Nat):Int)).toNat=b.toNat:=Ad2;rw[Acg.1 e]
 ·cases t with
  |nil=>exact absurd rfl h5
  |cons b r=>
   have h7:=h6 b (by simp);have h8:B6 b.toNat=true:=hv;simp only[B6,Az,Aaz,Adw]at h7 h8;omega
variable {Bd:Nat}
def Nq (a:RAtom):Bool:=Gn (a.terms.map Bu)
def G5 (s:Tx):Rd RAtom:=(C2 false s).bnd fun a r=>if Nq a=true then (Aw 46 r).bnd fun _ r=>.got a r else .bad r
def Bw:Nat->Tx->Rd (List RAtom)
 |_,[]=>.got [] []
 |0,s=>.bad s
 |n+1,s=>(G5 s).bnd fun x r=>(Bw n r).bnd fun xs r=>.got (x::xs) r
theorem F5 (n:Nat):Bw n []= .got [] []:=by cases n<;>rfl
theorem Fp (n:Nat)(b:UInt8)(r:Tx):Bw (n+1) (b::r)=(G5 (b::r)).bnd fun x r=>(Bw n r).bnd fun xs r=>.got (x::xs) r:=rfl
def faI (s:Tx)(xs:List RAtom)(q:Tx):Prop:=xs.length+q.length<=400/\Bw 400 s=(Bw (400-xs.length) q).bnd fun ys r=>.got (xs++ys) r
theorem faI.start {s:Tx}(h:s.length<=400):faI s [] s:=by
 refine⟨by simpa using h,?_⟩;simp only[Abu,Acr,Ack];cases Bw 400 s<;>rfl
theorem faI.done {s:Tx}{xs:List RAtom}(h:faI s xs []):Bw 400 s= .got xs []:=by
 rw[h.2,F5];simp[Rd.bnd]
theorem faI.fail {s:Tx}{xs:List RAtom}{b:UInt8}{r e:Tx}(h:faI s xs (b::r))(he:G5 (b::r)= .bad e):Bw 400 s= .bad e:=by
 have:=h.1;simp only[Abv]at this;obtain⟨k,hk⟩:∃k,400-xs.length=k+1:=⟨399-xs.length,Ad2⟩;rw[h.2,hk,Fp,he];rfl
theorem S1 {s r:Tx}{a:RAtom}(h:G5 s= .got a r):s=A4 a++46::r/\Fb a/\a.nt=false/\Nq a=true:=by
 unfold G5 at h;cases hp:C2 false s with
 |bad e=>rw[hp]at h;cases h
 |got a2 r2=>
  rw[hp]at h;simp only[Rd.bnd]at h;split at h
  ·rename_i hs;cases hb:Aw 46 r2 with
   |bad e=>rw[hb]at h;cases h
   |got u r3=>
    rw[hb]at h;cases h;obtain⟨e1,e2,e3⟩:=Fh hp;refine⟨?_,e2,e3,hs⟩;rw[e1];congr 1;cases r2 with
    |nil=>cases hb
    |cons c r4=>
     unfold Aw at hb;dsimp only at hb;split at hb
     ·rename_i hc;cases hb;have:c=46:=by
       have:=Adx.1 hc;apply Acg.1;simpa using Int.ofNat.inj this
      rw[this]
     ·cases hb
  ·cases h
theorem N5 {z z':St}(k:Keep z z')(o:Nat):KeepX o z z':=⟨k.nobj,fun p hp _=>k.obj p hp,fun p hp _=>k.ver p hp,k.ntop,k.top⟩
theorem RS.keep {t:Tx}{o:Nat}{N:List Tx}{id:Nat}{s:Tx}{z z':St}(h:RS Bd t o N id s z)(k:Keep z z'):RS Bd t o N id s z':=h.stepX (N5 k o) (by rw[k.obj o h.lt];exact h.obj) h.suf (Aak _)
theorem faI.next {s:Tx}{xs:List RAtom}{b:UInt8}{r r2:Tx}{x:RAtom}(h:faI s xs (b::r))(he:G5 (b::r)= .got x r2):faI s (xs++[x]) r2:=by
 have h1:=h.1;have h2:=congrArg List.length (S1 he).1;simp only[Abv,Abj]at h1 h2;obtain⟨k,hk⟩:∃k,400-xs.length=k+1:=⟨399-xs.length,Ad2⟩;refine⟨by simp;omega,?_⟩;rw[h.2,hk,Fp,he,show 400-(xs++[x]).length=k by simp;omega];simp only[Rd.bnd];cases Bw k r2<;>simp
def PF (N:List Tx)(a:RAtom)(c:List AV):Prop:=a.pred∈N/\∃ids,c=[ic (N.idxOf a.pred:Nat),sl ids a.terms.length (A8 a.terms)]
theorem jR {N:List Tx}(a:RAtom)(c:List AV)(h:PF N a c):c.length=2:=by obtain⟨-,ids,rfl⟩:=h;rfl
theorem PF.mono {N N':List Tx}(hN:N<+:N')(a:RAtom)(c:List AV)(h:PF N a c):PF N' a c:=by
 obtain⟨hm,ids,rfl⟩:=h;exact⟨hN.subset hm,ids,by rw[Jv hN hm]⟩
theorem xL {N:List Tx}:∀{l:List RAtom} {c:List AV},EL (PF N) l c->EL Ot (l.map (Dv N)) c
 |[],_,h=>h
 |a::l,_,⟨c,r,⟨hm,ids,e⟩,h,e2⟩=>⟨c,r,⟨ids,by rw[e];simp[Dv,J0]⟩,xL h,e2⟩
theorem cO {t:Tx}{o:Nat}{N:List Tx}{id:Nat}{z:St}(bb:t.length<=400)(hR:RS Bd t o N id t z):
  ACalls Tryz.prog 72 [ptr o 0] z fun x z'=>∃n ids c N' id' r',x=tp [sl ids n c,sc (.bool (Bw 400 t).ok)]/\Rs o z id z' id'/\RS Bd t o N' id' r' z'/\N<+:N'/\Rd.Val (Bw 400 t) fun xs=>n=xs.length/\EL (PF N') xs c:=by
 have ht:t.length<=1000:=Ad2;have hn:=hR.lt;have be:OwnN z id N.length:=hR.own;refine Z9 39 [.tmp 2,.tmp 3] Tryz.func72 ?_
 repeat' (first|refine Z1 ?_|(refine Z8 ?_;intro ya J)|(refine Z4 ?_;clear J ya)|(refine Z2 ?_ ?_<;>intro h ae<;>try exact Xp)|(refine Z6 ?_;intro idn zn ah ai ac ab ad aa)|refine Z3 ?_|exact Zt|(apply J.out;clear J ya))
 refine Ab (fun m s' z'=>∃(xs:List RAtom) (q:Tx) (ids:Nat) (d:List AV) (N2:List Tx) (id2:Nat),m=400-xs.length/\s' 0=ptr o 0/\s' 4=sl ids xs.length d/\Rs o z id z' id2/\RS Bd t o N2 id2 q z'/\Own z z' ids xs.length/\Ad8 (id2=1\/id2≠ids)/\N<+:N2/\d.length=xs.length*2/\Ad8 (EL (PF N2) xs d)/\Ad8 (faI t xs q)) 400
  ⟨[],t,1,[],N,id,rfl,rfl,rfl,Rs.refl _ _ _,hR,Own.nil _ _,by rcases be with⟨e,-⟩|⟨k,e,-⟩;exact .inl e;exact .inr Ad2,List.prefix_refl _,by simp,rfl,faI.start bb⟩ ?_
 rintro m s' z' ⟨xs,q,ids,d,N2,id2,rfl,h0,h4,hS,hR2,hO,a8,av,bd,hE,hI⟩;have bi:=hS.keep.nobj;have bc:=hR2.lt;have a3:=hR2.obj;have a7:=Gm hR2.suf;have ba:=hI.out.1;unfold Kc Qm at a3
 repeat' (first|refine Z1 ?_|(refine Z8 ?_;intro ya J)|(refine Z4 ?_;clear J ya)|(refine Z2 ?_ ?_<;>intro h ae<;>try exact Xp)|(refine Z6 ?_;intro idn zn ah ai ac ab ad aa)|refine Z3 ?_|exact Zt|(apply J.out;clear J ya))
 refine Aq Ad (fun _=>True) [9] [0,1,2,3,4,5,6,7,8] [9] Ad5 (fun _ _ _ h=>h) ?_;intro ya J;cases q with
 |nil=>
  simp only[Abu,Acr]at a3 a7;refine Z3 ?_
  repeat' (first|refine Z1 ?_|(refine Z8 ?_;intro ya J)|(refine Z4 ?_;clear J ya)|(refine Z2 ?_ ?_<;>intro h ae<;>try exact Xp)|(refine Z6 ?_;intro idn zn ah ai ac ab ad aa)|refine Z3 ?_|exact Zt|(apply J.out;clear J ya))
  have hp:=hI.out.done
  first
  |exact⟨_,rfl,_,ids,d,N2,id2,[],by rw[hp];rfl,hS,hR2,av,by rw[hp];exact⟨rfl,hE.out⟩⟩
  |exact⟨_,rfl,_,ids,d,N2,id2,[],by rw[hp];rfl,hR2,av,by rw[hp];exact⟨rfl,hE.out⟩⟩
 |cons b0 r0=>
  simp only[Abv]at a3 a7 ba;have ak:=Mf (Bd:=Bd) false ht hR2;have ap:Ad8 (∀e,G5 (b0::r0)= .bad e->Bw 400 t= .bad e):=fun e he=>hI.out.fail he;cases hp:C2 false (b0::r0)with
  |bad e=>
   rw[hp]at ak;have HF:Ad8 (Bw 400 t= .bad e):=ap.out e (by unfold G5;rw[hp];rfl);clear hp ap;simp only[Rd.ok,Rd.rest,Rd.Val]at ak;refine Z3 ?_
   repeat' (first|refine Z1 ?_|(refine Z8 ?_;intro ya J)|(refine Z4 ?_;clear J ya)|(refine Z2 ?_ ?_<;>intro h ae<;>try exact Xp)|(refine Z6 ?_;intro idn zn ah ai ac ab ad aa)|(refine Z5 ?_;refine Xi (ak) ?_;rintro _ _ ⟨k,n,ids2,c,N3,id3,rfl,aj,a6,am,-⟩;(have an:=aj.keep.nobj))|refine Z3 ?_|exact Zt|(apply J.out;clear J ya))
   rename_i z3;refine⟨_,rfl,0,1,[],N3,id3,e,by rw[HF.out];rfl,Zu,?_,av.trans am,by rw[HF.out];trivial⟩;exact Zr
  |got a r2=>
   rw[hp]at ak;simp only[Rd.ok,Rd.rest,Rd.Val]at ak;have ao:=fun (k:Int) (ids2:Nat) (z:St)=>It k ids2 (a.terms.map Bu) (by have:=(Fh hp).2.1.2.2.1;simp;omega) z;rw[J0,Ace]at ao;have HP:Ad8 (G5 (b0::r0)=if Nq a=true then (Aw 46 r2).bnd fun _ r=>.got a r else .bad r2):=by rw[Ad8,G5,hp];rfl
   rw[show Gn (a.terms.map Bu)=Nq a from rfl]at ao;clear hp;cases hs:Nq a with
   |false=>
    have HF:Ad8 (Bw 400 t= .bad r2):=ap.out r2 (by rw[HP.out,hs];rfl);rw[hs]at ao;clear hs HP ap;refine Z3 ?_
    repeat' (first|refine Z1 ?_|(refine Z8 ?_;intro ya J)|(refine Z4 ?_;clear J ya)|(refine Z2 ?_ ?_<;>intro h ae<;>try exact Xp)|(refine Z6 ?_;intro idn zn ah ai ac ab ad aa)|(refine Z5 ?_;first|(refine Xi (ak) ?_;rintro _ _ ⟨k,n,ids2,c,N3,id3,rfl,aj,a6,am,⟨m1,rfl,rfl,rfl⟩⟩;(have an:=aj.keep.nobj))|(refine Xi (ao _ _ _) ?_;rintro _ _ ⟨rfl,af⟩))|refine Z3 ?_|exact Zt|(apply J.out;clear J ya))
    rename_i z3 z5;have ax:Rs o z id ((z3.new [ic 0,nilS]).put z3.nobj [ic (N3.idxOf a.pred:Nat),sl ids2 a.terms.length (A8 a.terms)]) id3:=Zu;have ay:RS Bd t o N3 id3 r2 ((z3.new [ic 0,nilS]).put z3.nobj [ic (N3.idxOf a.pred:Nat),sl ids2 a.terms.length (A8 a.terms)]):=Zr;exact⟨_,rfl,0,1,[],N3,id3,r2,by rw[HF.out];rfl,ax.transX (N5 af o),ay.keep af,av.trans am,by rw[HF.out];trivial⟩
   |true=>
    rw[hs]at ao;have au:=fun (N3:List Tx) (id3:Nat) (z1:St) (h:RS Bd t o N3 id3 r2 z1)=>Hr (c:=46) ht h;cases hb:(Aw 46 r2)with
    |bad e=>
     have HF:Ad8 (Bw 400 t= .bad e):=ap.out e (by rw[HP.out,hs,hb];rfl);rw[hb]at au;simp only[Rd.ok,Rd.rest]at au;clear hs HP ap hb;refine Z3 ?_
     repeat' (first|refine Z1 ?_|(refine Z8 ?_;intro ya J)|(refine Z4 ?_;clear J ya)|(refine Z2 ?_ ?_<;>intro h ae<;>try exact Xp)|(refine Z6 ?_;intro idn zn ah ai ac ab ad aa)|(refine Z5 ?_;first|(refine Xi (ak) ?_;rintro _ _ ⟨k,n,ids2,c,N3,id3,rfl,aj,a6,am,⟨m1,rfl,rfl,rfl⟩⟩;(have an:=aj.keep.nobj;rename_i z3;have ax:Rs o z id ((z3.new [ic 0,nilS]).put z3.nobj [ic (N3.idxOf a.pred:Nat),sl ids2 a.terms.length (A8 a.terms)]) id3:=(Zu);have ay:RS Bd t o N3 id3 r2 ((z3.new [ic 0,nilS]).put z3.nobj [ic (N3.idxOf a.pred:Nat),sl ids2 a.terms.length (A8 a.terms)]):=(Zr)))|(refine Xi (ao _ _ _) ?_;rintro _ _ ⟨rfl,af⟩;(have a4:=ax.transX (N5 af o);have a5:=ay.keep af))|(refine Xi (au N3 id3 _ a5) ?_;rintro _ _ ⟨rfl,az,a0⟩))|refine Z3 ?_|exact Zt|(apply J.out;clear J ya))
     exact⟨_,rfl,0,1,[],N3,id3,e,by rw[HF.out];rfl,a4.transX az,a0,av.trans am,by rw[HF.out];trivial⟩
    |got u r3=>
     have HF:Ad8 (faI t (xs++[a]) r3):=hI.out.next (by rw[HP.out,hs,hb];rfl);rw[hb]at au;simp only[Rd.ok,Rd.rest]at au;clear hs HP ap hb;refine Z3 ?_
     repeat' (first|refine Z1 ?_|(refine Z8 ?_;intro ya J)|(refine Z4 ?_;clear J ya)|(refine Z2 ?_ ?_<;>intro h ae<;>try exact Xp)|(refine Z6 ?_;intro idn zn ah ai ac ab ad aa)|(refine Z5 ?_;first|(refine Xi (ak) ?_;rintro _ _ ⟨k,n,ids2,c,N3,id3,rfl,aj,a6,am,⟨m1,rfl,rfl,rfl⟩⟩;(have an:=aj.keep.nobj;rename_i z3;have ax:Rs o z id ((z3.new [ic 0,nilS]).put z3.nobj [ic (N3.idxOf a.pred:Nat),sl ids2 a.terms.length (A8 a.terms)]) id3:=(Zu);have ay:RS Bd t o N3 id3 r2 ((z3.new [ic 0,nilS]).put z3.nobj [ic (N3.idxOf a.pred:Nat),sl ids2 a.terms.length (A8 a.terms)]):=(Zr)))|(refine Xi (ao _ _ _) ?_;rintro _ _ ⟨rfl,af⟩;(have a4:=ax.transX (N5 af o);have a5:=ay.keep af))|(refine Xi (au N3 id3 _ a5) ?_;rintro _ _ ⟨rfl,az,a0⟩))|refine Z3 ?_|exact Zt|(apply J.out;clear J ya))
     rename_i z5 z6;have bh:=Own.keepR hO aj.keep (M5 a8.out hO);have bg:Own z ((z3.new [ic 0,nilS]).put z3.nobj [ic (N3.idxOf a.pred:Nat),sl ids2 a.terms.length (A8 a.terms)]) ids xs.length:=Own.put (Own.new bh _) _ _;have bf:=Own.keepX (Own.keep bg af) az;have a9:=a4.transX az;have aw:id3=1\/id3≠ids:=Qh a8.out hO aj.nid;have kn5:=af.nobj;simp only[Ac,Aa]at kn5;have bj:=bc;have o6:z6.obj z3.nobj=[ic (N3.idxOf a.pred:Nat),sl ids2 a.terms.length (A8 a.terms)]:=by rw[az.obj _ Ad2 Ad2,af.obj _ Ad7,Ak]
     have hC:PF N3 a [ic (N3.idxOf a.pred:Nat),sl ids2 a.terms.length (A8 a.terms)]:=⟨m1,ids2,rfl⟩
     repeat' (first|refine Z1 ?_|(refine Z8 ?_;intro ya J)|(refine Z4 ?_;clear J ya)|(refine Z2 ?_ ?_<;>intro h ae<;>try exact Xp)|(refine Z6 ?_;intro idn zn ah ai ac ab ad aa)|refine Z3 ?_|exact Zt|(apply J.out;clear J ya))
     refine Lw (o:=o) (idn:=id) (σ0:=z) (by first|exact Ef) a9.keep bf (by decide) (by rfl) bd (by rfl) (by rfl) (by decide) Ad2 Ad2 ?_;intro idn zn ah ai ac ab ad aa etop hid;refine Z3 ?_
     repeat' (first|refine Z1 ?_|(refine Z8 ?_;intro ya J)|(refine Z4 ?_;clear J ya)|(refine Z2 ?_ ?_<;>intro h ae<;>try exact Xp)|(refine Z6 ?_;intro idn zn ah ai ac ab ad aa)|refine Z3 ?_|exact Zt|(apply J.out;clear J ya))
     refine⟨400-(xs++[a]).length,by simp;omega,xs++[a],r3,idn,d++[ic (N3.idxOf a.pred:Nat),sl ids2 a.terms.length (A8 a.terms)],N3,id3,rfl,by simp,⟨ai,a9.nid⟩,a0.app ac ab aa etop aw,by simpa using ah,Pu a0.own aw hid,av.trans am,by simp;omega,EL.append (hE.out.mono (PF.mono am)) (EL.single hC),HF⟩
end Go.Proofs.YtmoeoppbmhfbpaaGreatDoorH
