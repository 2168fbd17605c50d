import Derived.Test.YtmoeoppbmhfbpabGreatDoorLProgH
import Derived.Test.YtmoeoppbmhfbpabGreatDoorMFolB
import Derived.Test.YtmoeoppbmhfbpabGreatDoorLProgM
import Derived.Test.YtmoeoppbmhfbpabGreatDoorMNegC
import Derived.Test.YtmoeoppbmhfbpabGreatDoorLShelf
set_option maxHeartbeats 64000000
set_option maxRecDepth 100000
set_option linter.all false
namespace Go.Proofs.YtmoeoppbmhfbpabGreatDoorL
open Go.Abs
variable {Bd:Nat}
def fH (a:RAtom):Bool:=Hw (a.terms.map Ak)
def J4 (s:Tx):Rd RAtom:=(C9 false s).bnd fun a r=>if fH a=true then (Ay 46 r).bnd fun _ r=>.got a r else .bad r
def Cz:Nat->Tx->Rd (List RAtom)
 |_,[]=>.got [] []
 |0,s=>.bad s
 |n+1,s=>(J4 s).bnd fun x r=>(Cz n r).bnd fun xs r=>.got (x::xs) r
theorem N9 (n:Nat):Cz n []= .got [] []:=by cases n<;>rfl
theorem Jh (n:Nat)(b:UInt8)(r:Tx):Cz (n+1) (b::r)=(J4 (b::r)).bnd fun x r=>(Cz n r).bnd fun xs r=>.got (x::xs) r:=rfl
def faI (s:Tx)(xs:List RAtom)(q:Tx):Prop:=xs.length+q.length<=400/\Cz 400 s=(Cz (400-xs.length) q).bnd fun ys r=>.got (xs++ys) r
theorem faI.start {s:Tx}(h:s.length<=400):faI s [] s:=by
 refine⟨by simpa using h,?_⟩;simp only[Ahx,Aih,Ah6];cases Cz 400 s<;>rfl
theorem faI.done {s:Tx}{xs:List RAtom}(h:faI s xs []):Cz 400 s= .got xs []:=by
 rw[h.2,N9];simp[Rd.bnd]
theorem faI.fail {s:Tx}{xs:List RAtom}{b:UInt8}{r e:Tx}(h:faI s xs (b::r))(he:J4 (b::r)= .bad e):Cz 400 s= .bad e:=by
 have:=h.1;simp only[Ahy]at this;obtain⟨k,hk⟩:∃k,400-xs.length=k+1:=⟨399-xs.length,Aj6⟩;rw[h.2,hk,Jh,he];rfl
theorem U5 {s r:Tx}{a:RAtom}(h:J4 s= .got a r):s=A6 a++46::r/\D1 a/\a.nt=false/\fH a=true:=by
 unfold J4 at h;cases hp:C9 false s with
 |bad e=>rw[hp]at h;cases h
 |got a2 r2=>
  rw[hp]at h;simp only[Rd.bnd]at h;split at h
  ·rename_i hs;cases hb:Ay 46 r2 with
   |bad e=>rw[hb]at h;cases h
   |got u r3=>
    rw[hb]at h;cases h;obtain⟨e1,e2,e3⟩:=Fz hp;refine⟨?_,e2,e3,hs⟩;rw[e1];congr 1;cases r2 with
    |nil=>cases hb
    |cons c r4=>
     unfold Ay at hb;dsimp only at hb;split at hb
     ·rename_i hc;cases hb;have:c=46:=by
       have:=Aj4.1 hc;apply UInt8.toNat_inj.1;simpa using Int.ofNat.inj this
      rw[this]
     ·cases hb
  ·cases h
theorem Pt {z z':St}(k:Keep z z')(o:Nat):KeepX o z z':=⟨k.nobj,fun p hp _=>k.obj p hp,fun p hp _=>k.ver p hp,k.ntop,k.top⟩
theorem RS.keep {t:Tx}{o:Nat}{N:List Tx}{id:Nat}{s:Tx}{z z':St}(h:RS Bd t o N id s z)(k:Keep z z'):RS Bd t o N id s z':=h.stepX (Pt k o) (by rw[k.obj o h.lt];exact h.obj) h.suf (Agn _)
theorem faI.next {s:Tx}{xs:List RAtom}{b:UInt8}{r r2:Tx}{x:RAtom}(h:faI s xs (b::r))(he:J4 (b::r)= .got x r2):faI s (xs++[x]) r2:=by
 have h1:=h.1;have h2:=congrArg List.length (U5 he).1;simp only[Ahy,Aho]at h1 h2;obtain⟨k,hk⟩:∃k,400-xs.length=k+1:=⟨399-xs.length,Aj6⟩;refine⟨by simp;omega,?_⟩;rw[h.2,hk,Jh,he,show 400-(xs++[x]).length=k by simp;omega];simp only[Rd.bnd];cases Cz k r2<;>simp
def PF (N:List Tx)(a:RAtom)(c:List AV):Prop:=a.pred∈N/\∃ids,c=[ic (N.idxOf a.pred:Nat),sl ids a.terms.length (Au a.terms)]
theorem oB {N:List Tx}(a:RAtom)(c:List AV)(h:PF N a c):c.length=2:=by obtain⟨-,ids,rfl⟩:=h;rfl
theorem PF.mono {N N':List Tx}(hN:N<+:N')(a:RAtom)(c:List AV)(h:PF N a c):PF N' a c:=by
 obtain⟨hm,ids,rfl⟩:=h;exact⟨hN.subset hm,ids,by rw[Kt hN hm]⟩
theorem Ady {N:List Tx}:∀{l:List RAtom} {c:List AV},EL (PF N) l c->EL Mm (l.map (B9 N)) c
 |[],_,h=>h
 |a::l,_,⟨c,r,⟨hm,ids,e⟩,h,e2⟩=>⟨c,r,⟨ids,by rw[e];simp[B9,F2]⟩,Ady h,e2⟩
theorem fR {t:Tx}{o:Nat}{N:List Tx}{id:Nat}{z:St}(a8:t.length<=400)(hR:RS Bd t o N id t z):
  ACalls Tryz.prog 78 [ptr o 0] z fun x z'=>∃n ids c N' id' r',x=tp [sl ids n c,sc (.bool (Cz 400 t).ok)]/\Rs o z id z' id'/\RS Bd t o N' id' r' z'/\N<+:N'/\Rd.Val (Cz 400 t) fun xs=>n=xs.length/\EL (PF N') xs c:=by
 have ht:t.length<=1000:=Aj6;have hn:=hR.lt;have bb:OwnN z id N.length:=hR.own;refine Z9 39 [.tmp 2,.tmp 3] Tryz.func78 ?_
 repeat' (first|refine Z1 ?_|(refine Z8 ?_;intro yb ya)|(refine Z4 ?_;clear ya yb)|refine Z3 ?_|exact Zt|(apply ya.out;clear ya yb))
 refine Af (fun m s' z'=>∃(xs:List RAtom) (q:Tx) (ids:Nat) (d:List AV) (N2:List Tx) (id2:Nat),m=400-xs.length/\s' 0=ptr o 0/\s' 4=sl ids xs.length d/\Rs o z id z' id2/\RS Bd t o N2 id2 q z'/\Own z z' ids xs.length/\Akc (id2=1\/id2≠ids)/\N<+:N2/\d.length=xs.length*2/\Akc (EL (PF N2) xs d)/\Akc (faI t xs q)) 400
  ⟨[],t,1,[],N,id,rfl,rfl,rfl,Rs.refl _ _ _,hR,Own.nil _ _,by rcases bb with⟨e,-⟩|⟨k,e,-⟩;exact .inl e;exact .inr Aj6,List.prefix_refl _,by simp,rfl,faI.start a8⟩ ?_
 rintro m s' z' ⟨xs,q,ids,d,N2,id2,rfl,h0,h4,hS,hR2,hO,a5,ak,ba,hE,hI⟩;have bi:=hS.keep.nobj;have a9:=hR2.lt;have ax:=hR2.obj;have a4:=Hm hR2.suf;have a7:=hI.out.1;unfold Le R9 at ax
 repeat' (first|refine Z1 ?_|refine Z3 ?_|exact Zt|(apply ya.out;clear ya yb))
 refine A8 Ai (fun _=>True) [9] [0,1,2,3,4,5,6,7,8] [9] Aj9 (fun _ _ _ h=>h) ?_;intro yb ya;cases q with
 |nil=>
  simp only[Ahx,Aih]at ax a4;refine Z3 ?_
  repeat' (first|refine Z1 ?_|(refine Z8 ?_;intro yb ya)|(refine Z4 ?_;clear ya yb)|(refine Z2 ?_ ?_<;>intro h ab<;>try exact Xp)|refine Z3 ?_|exact Zt|(apply ya.out;clear ya yb))
  have hp:=hI.out.done
  first
  |exact⟨_,rfl,_,ids,d,N2,id2,[],by rw[hp];rfl,hS,hR2,ak,by rw[hp];exact⟨rfl,hE.out⟩⟩
  |exact⟨_,rfl,_,ids,d,N2,id2,[],by rw[hp];rfl,hR2,ak,by rw[hp];exact⟨rfl,hE.out⟩⟩
 |cons b0 r0=>
  simp only[Ahy]at ax a4 a7;have ad:=Ny (Bd:=Bd) false ht hR2;have ai:Akc (∀e,J4 (b0::r0)= .bad e->Cz 400 t= .bad e):=fun e he=>hI.out.fail he;cases hp:C9 false (b0::r0)with
  |bad e=>
   rw[hp]at ad;have HF:Akc (Cz 400 t= .bad e):=ai.out e (by unfold J4;rw[hp];rfl);clear hp ai;simp only[Rd.ok,Rd.rest,Rd.Val]at ad;refine Z3 ?_
   repeat' (first|refine Z1 ?_|(refine Z8 ?_;intro yb ya)|(refine Z4 ?_;clear ya yb)|(refine Z2 ?_ ?_<;>intro h ab<;>try exact Xp)|(refine Z5 ?_;refine Xi (ad) ?_;rintro _ _ ⟨k,n,ids2,c,N3,id3,rfl,ac,a0,ae,-⟩;(have af:=ac.keep.nobj))|refine Z3 ?_|exact Zt|(apply ya.out;clear ya yb))
   rename_i z3;refine⟨_,rfl,0,1,[],N3,id3,e,by rw[HF.out];rfl,Zu,?_,ak.trans ae,by rw[HF.out];trivial⟩;exact Zr
  |got a r2=>
   rw[hp]at ad;simp only[Rd.ok,Rd.rest,Rd.Val]at ad;have ah:=fun (k:Int) (ids2:Nat) (z:St)=>Js k ids2 (a.terms.map Ak) (by have:=(Fz hp).2.1.2.2.1;simp;omega) z;rw[F2,Ai1]at ah;have HP:Akc (J4 (b0::r0)=if fH a=true then (Ay 46 r2).bnd fun _ r=>.got a r else .bad r2):=by rw[Akc,J4,hp];rfl
   rw[show Hw (a.terms.map Ak)=fH a from rfl]at ah;clear hp;cases hs:fH a with
   |false=>
    have HF:Akc (Cz 400 t= .bad r2):=ai.out r2 (by rw[HP.out,hs];rfl);rw[hs]at ah;clear hs HP ai;refine Z3 ?_
    repeat' (first|refine Z1 ?_|(refine Z8 ?_;intro yb ya)|(refine Z4 ?_;clear ya yb)|(refine Z2 ?_ ?_<;>intro h ab<;>try exact Xp)|(refine Z5 ?_;first|(refine Xi (ad) ?_;rintro _ _ ⟨k,n,ids2,c,N3,id3,rfl,ac,a0,ae,⟨m1,rfl,rfl,rfl⟩⟩;(have af:=ac.keep.nobj))|(refine Xi (ah _ _ _) ?_;rintro _ _ ⟨rfl,aa⟩))|refine Z3 ?_|exact Zt|(apply ya.out;clear ya yb))
    rename_i z3 z5;have an:Rs o z id ((z3.new [ic 0,nilS]).put z3.nobj [ic (N3.idxOf a.pred:Nat),sl ids2 a.terms.length (Au a.terms)]) id3:=Zu;have ao:RS Bd t o N3 id3 r2 ((z3.new [ic 0,nilS]).put z3.nobj [ic (N3.idxOf a.pred:Nat),sl ids2 a.terms.length (Au a.terms)]):=Zr;exact⟨_,rfl,0,1,[],N3,id3,r2,by rw[HF.out];rfl,an.transX (Pt aa o),ao.keep aa,ak.trans ae,by rw[HF.out];trivial⟩
   |true=>
    rw[hs]at ah;have aj:=fun (N3:List Tx) (id3:Nat) (z1:St) (h:RS Bd t o N3 id3 r2 z1)=>Ir (c:=46) ht h;cases hb:(Ay 46 r2)with
    |bad e=>
     have HF:Akc (Cz 400 t= .bad e):=ai.out e (by rw[HP.out,hs,hb];rfl);rw[hb]at aj;simp only[Rd.ok,Rd.rest]at aj;clear hs HP ai hb;refine Z3 ?_
     repeat' (first|refine Z1 ?_|(refine Z8 ?_;intro yb ya)|(refine Z4 ?_;clear ya yb)|(refine Z2 ?_ ?_<;>intro h ab<;>try exact Xp)|(refine Z5 ?_;first|(refine Xi (ad) ?_;rintro _ _ ⟨k,n,ids2,c,N3,id3,rfl,ac,a0,ae,⟨m1,rfl,rfl,rfl⟩⟩;(have af:=ac.keep.nobj;rename_i z3;have an:Rs o z id ((z3.new [ic 0,nilS]).put z3.nobj [ic (N3.idxOf a.pred:Nat),sl ids2 a.terms.length (Au a.terms)]) id3:=(Zu);have ao:RS Bd t o N3 id3 r2 ((z3.new [ic 0,nilS]).put z3.nobj [ic (N3.idxOf a.pred:Nat),sl ids2 a.terms.length (Au a.terms)]):=(Zr)))|(refine Xi (ah _ _ _) ?_;rintro _ _ ⟨rfl,aa⟩;(have ay:=an.transX (Pt aa o);have az:=ao.keep aa))|(refine Xi (aj N3 id3 _ az) ?_;rintro _ _ ⟨rfl,ap,aw⟩))|refine Z3 ?_|exact Zt|(apply ya.out;clear ya yb))
     exact⟨_,rfl,0,1,[],N3,id3,e,by rw[HF.out];rfl,ay.transX ap,aw,ak.trans ae,by rw[HF.out];trivial⟩
    |got u r3=>
     have HF:Akc (faI t (xs++[a]) r3):=hI.out.next (by rw[HP.out,hs,hb];rfl);rw[hb]at aj;simp only[Rd.ok,Rd.rest]at aj;clear hs HP ai hb;refine Z3 ?_
     repeat' (first|refine Z1 ?_|(refine Z8 ?_;intro yb ya)|(refine Z4 ?_;clear ya yb)|(refine Z2 ?_ ?_<;>intro h ab<;>try exact Xp)|(refine Z5 ?_;first|(refine Xi (ad) ?_;rintro _ _ ⟨k,n,ids2,c,N3,id3,rfl,ac,a0,ae,⟨m1,rfl,rfl,rfl⟩⟩;(have af:=ac.keep.nobj;rename_i z3;have an:Rs o z id ((z3.new [ic 0,nilS]).put z3.nobj [ic (N3.idxOf a.pred:Nat),sl ids2 a.terms.length (Au a.terms)]) id3:=(Zu);have ao:RS Bd t o N3 id3 r2 ((z3.new [ic 0,nilS]).put z3.nobj [ic (N3.idxOf a.pred:Nat),sl ids2 a.terms.length (Au a.terms)]):=(Zr)))|(refine Xi (ah _ _ _) ?_;rintro _ _ ⟨rfl,aa⟩;(have ay:=an.transX (Pt aa o);have az:=ao.keep aa))|(refine Xi (aj N3 id3 _ az) ?_;rintro _ _ ⟨rfl,ap,aw⟩))|refine Z3 ?_|exact Zt)
     rename_i z5 z6;have bf:=Own.keepR hO ac.keep (Oo a5.out hO);have bd:Own z ((z3.new [ic 0,nilS]).put z3.nobj [ic (N3.idxOf a.pred:Nat),sl ids2 a.terms.length (Au a.terms)]) ids xs.length:=Own.put (Own.new bf _) _ _;have bc:=Own.keepX (Own.keep bd aa) ap;have a6:=ay.transX ap;have am:id3=1\/id3≠ids:=R1 a5.out hO ac.nid;have kn5:=aa.nobj;simp only[Ab,Aa]at kn5;have bl:=a9;have o6:z6.obj z3.nobj=[ic (N3.idxOf a.pred:Nat),sl ids2 a.terms.length (Au a.terms)]:=by rw[ap.obj _ Aj6 Aj6,aa.obj _ Akb,Aj]
     have hC:PF N3 a [ic (N3.idxOf a.pred:Nat),sl ids2 a.terms.length (Au a.terms)]:=⟨m1,ids2,rfl⟩
     repeat' (first|refine Z1 ?_|refine Z3 ?_|exact Zt)
     refine Nf (o:=o) (idn:=id) (σ0:=z) (by first|exact Er) a6.keep bc (by decide) (by rfl) ba (by rfl) (by rfl) (by decide) Aj6 Aj6 ?_;intro idn zn be bg a3 av bh au etop hid;refine Z3 ?_
     repeat' (first|refine Z1 ?_|(refine Z4 ?_;clear ya yb)|refine Z3 ?_|exact Zt|(apply ya.out;clear ya yb))
     refine⟨400-(xs++[a]).length,by simp;omega,xs++[a],r3,idn,d++[ic (N3.idxOf a.pred:Nat),sl ids2 a.terms.length (Au a.terms)],N3,id3,rfl,by simp,⟨bg,a6.nid⟩,aw.app a3 av au etop am,by simpa using be,Ra aw.own am hid,ak.trans ae,by simp;omega,EL.append (hE.out.mono (PF.mono ae)) (EL.single hC),HF⟩
def L2 (A:List RAtom):List RAtom->Bool
 |[]=>false
 |a::F=>A.any (clash a)||L2 (A++[a]) F
theorem xP {F:List RAtom}:∀{A:List RAtom} {i:Nat} {a:RAtom},F[i]?=some a->(A++F.take i).any (clash a)=true->L2 A F=true:=by
 induction F with
 |nil=>intro A i a h;simp at h
 |cons b F ih=>
  intro A i a h hc;unfold L2;cases i with
  |zero=>
   simp at h hc;subst h;rw[Ai2];left;rw[Ahz];exact hc
  |succ i=>
   rw[Ai2];right;exact ih (A:=A++[b]) (i:=i) (by simpa using h) (by simpa using hc)
theorem sJ {F:List RAtom}:∀{A:List RAtom},(∀(i:Nat) (a:RAtom),F[i]?=some a->(A++F.take i).any (clash a)=false)->L2 A F=false:=by
 induction F with
 |nil=>intro A _;rfl
 |cons b F ih=>
  intro A h;unfold L2;rw[Bool.or_eq_false_iff];refine⟨by simpa using h 0 b rfl,ih fun i a hi=>?_⟩;have:=h (i+1) a (by simpa using hi);simpa using this
theorem cntsOk.put {N:List Tx}{S:List RAtom}{cc:Nat->Int}{a:RAtom}(h:cntsOk N S cc)(hc:Db S)(hn:S.any (clash a)=false)(ha:a.pred∈N):cntsOk N (S++[a]) (fun j=>if j=N.idxOf a.pred then (a.terms.length:Int)else cc j):=by
 have h0:=h a.pred ha;by_cases e:cc (N.idxOf a.pred)=0
 ·exact (h.step hc ha).1 e
 ·have h1:=(h.step hc ha).2 e;have h2:¬(Fv S a.pred≠0/\Fv S a.pred≠a.terms.length):=fun g=>by rw[<-Na hc a,hn]at g;cases g
  intro p hp;dsimp only;by_cases ep:N.idxOf p=N.idxOf a.pred
  ·rw[if_pos ep,<-h1 p hp,ep];omega
  ·rw[if_neg ep];exact h1 p hp
theorem Uw {l:List RItem}{i:Nat}{x:RItem}(h:l[i]?=some x):Dj l (i+1)=Df l x i (Ae x).length:=by
 unfold Dj Df;rw[Ahd,h,Ais,List.flatMap_append,Ag7];simp[Dj]
theorem Wn {N:List Tx}{l:List RAtom}{cs:List AV}{i:Nat}{a:RAtom}(h:EL (PF N) l cs)(hi:l[i]?=some a):a.pred∈N/\∃ids r,cs.drop (i*2)=ic (N.idxOf a.pred:Nat)::sl ids a.terms.length (Au a.terms)::r:=by
 obtain⟨c,r,⟨hm,ids,rfl⟩,e⟩:=EL.get oB h hi;exact⟨hm,ids,r,e⟩
theorem Sd (N N':List Tx)(hN:N<+:N')(l:List RItem)(cs:List AV)(idn idi:Nat)(hB:Bk N l cs)(hT:∀S,S<+:l.flatMap Ae->∀a∈l.flatMap Ae,S.any (clash a)=false)(F:List RAtom)(fc:List AV)(idf:Nat)(hF:EL (PF N') F fc)(hFl:F.length<=1000)(bw:∀a∈F,0<a.terms.length/\a.terms.length<=3)(b4:N'.length<=2500)(z:St):
  ACalls Tryz.prog 79 [Bn N idn l idi cs,sl idf F.length fc,ic N'.length] z fun r z'=>r=sc (.bool (L2 (l.flatMap Ae) F))/\Keep z z':=by
 have hE:EL (PI N') l cs:=hB.el.mono (PI.mono hN);have a3:=EL.length Dd hE;have b2:=EL.length oB hF;have bo:=hB.len;unfold Bn;refine Z9 68 [.tmp 6] Tryz.func79 ?_
 repeat' (first|refine Z1 ?_|(refine Z8 ?_;intro yb ya)|(refine Z4 ?_;clear ya yb)|refine Z3 ?_|exact Zt|(apply ya.out;clear ya yb))
 refine Af (fun m s z'=>∃(i:Nat) (cc:Nat->Int),m=l.length-i/\i<=l.length/\s 1=sl idf F.length fc/\s 7=fx (z.nobj+1) 0 N'.length/\s 17=sl idi l.length cs/\s 18=ic l.length/\s 19=ic i/\Keep z z'/\z.nobj+1<z'.nobj/\z'.obj (z.nobj+1)=Fu N'.length cc/\Akc (cntsOk N' (Dj l i) cc)/\Akc (Db (Dj l i))) l.length
  ⟨0,fun _=>0,Aj6,Aj6,rfl,?_,rfl,rfl,rfl,Xs,Aka,?_,?_,by simp[Akc,Dj,V0]⟩ ?_
 ·simp[upd]
 ·show (if z.nobj+1=z.nobj+1 then _ else _)=_;rw[if_pos rfl];exact Q8 _
 ·intro p hp;simp[Dj,Fv]
 rintro m s z' ⟨i,cc,rfl,hi,h1,h7,a8,a7,a6,hK,ac,ak,hC,hS⟩;have av:=hK.nobj;by_cases ae:i<l.length
 ·have aa:=Agz ae;have az:=hB.fits l[i] (Ain ae);have bb:=hB.out l[i] (Ain ae);have ba:=hB.pos l[i] (Ain ae);obtain⟨hm,ih,id,b,r,hb,hd⟩:=Em hE aa;generalize l[i]=x at hd aa az bb hb hm ba;have HX:Akc (l[i]?=some x):=aa;clear aa;have b3:=az.atoms
  repeat' (first|refine Z1 ?_|(refine Z8 ?_;intro yb ya)|(refine Z4 ?_;clear ya yb)|(refine Z2 ?_ ?_<;>intro h ab<;>try exact Xp)|(refine Z5 ?_;refine Xi (Jf N' x _ (PI.of hm hb) bb (by have:=az.1;omega) _) ?_;rintro _ _ ⟨ida,cs2,rfl,bh,a5⟩;(have am:=a5.obj;have an:=a5.nobj;(try simp only[Aa,Ab,Aw]at an)))|refine Z3 ?_|exact Zt|(apply ya.out;clear ya yb))
  rename_i z1;have bu:=EL.length Wo bh;have bg:Keep z z1:=Xs;have ao:z1.obj (z.nobj+1)=Fu N'.length cc:=by
   rw[am _ (by simp only[Aa,Ab];omega),Ah Aj6,Ag ac];exact ak
  clear am
  refine Af (fun m s z'=>∃(j:Nat) (cc:Nat->Int),m=(Ae x).length-j/\j<=(Ae x).length/\s 1=sl idf F.length fc/\s 7=fx (z.nobj+1) 0 N'.length/\s 17=sl idi l.length cs/\s 18=ic l.length/\s 19=ic i/\s 24=sl ida (Ae x).length cs2/\s 25=ic (Ae x).length/\s 26=ic j/\Keep z z'/\z.nobj+1<z'.nobj/\z'.obj (z.nobj+1)=Fu N'.length cc/\Akc (cntsOk N' (Df l x i j) cc)/\Akc (Db (Df l x i j))) (Ae x).length
   ⟨0,cc,Aj6,Aj6,Aj7,Aj7,Aj7,Aj7,Aj7,Aj8,rfl,rfl,bg,Aj6,ao,by simpa[Df]using hC,by simpa[Df]using hS⟩ ?_
  clear ao hK ak hC hS a5 an av h1 h7 a8 a7 a6 ac cc bg;rintro m s z' ⟨j,cc,rfl,hj,h1,h7,a8,a7,a6,ca,b9,b8,hK,ac,ak,hC,hS⟩;have av:=hK.nobj;by_cases ai:j<(Ae x).length
  ·have aa:=Agz ai;have aj:=ba (Ae x)[j] (Ain ai);have ah:=Ain ai;obtain⟨ha,ia,r2,bc⟩:=qX bh aa;generalize (Ae x)[j]=a at bc aa ha aj ah
   have ad:(Df l x i j).any (clash a)=false:=hT _ (by
    unfold Df Dj;have e1:l=l.take i++x::l.drop (i+1):=by
     obtain⟨h1,h2⟩:=Agy.1 HX.out;rw[<-h2];exact (Aje i l).symm.trans (by rw[Ah0 h1])
    conv=>rhs;rw[e1]
    rw[List.flatMap_append,Aik]
    exact (List.prefix_append_right_inj _).2 ((List.take_prefix j _).trans (List.prefix_append _ _))) a (Ah7.2 ⟨x,Ag1 HX.out,ah⟩)
   have HN:Akc (cntsOk N' (Df l x i (j+1)) (fun q=>if q=N'.idxOf a.pred then (a.terms.length:Int)else cc q)/\Db (Df l x i (j+1))):=by
    rw[Akc,Ih aa];exact⟨hC.out.put hS.out ad ha,Hd hS.out aj ad⟩
   have ap:=Air ha;have af:=fun v=>P3 (n:=N'.length) (i:=N'.idxOf a.pred) cc v;have bn:=I4 N'.length cc;clear aa ad ah;generalize N'.idxOf a.pred=ix at bc ap af HN
   repeat' (first|refine Z1 ?_|(refine Z8 ?_;intro yb ya)|(refine Z4 ?_;clear ya yb)|(refine Z2 ?_ ?_<;>intro h ab<;>try exact Xp)|refine Z3 ?_|exact Zt|(apply ya.out;clear ya yb))
   refine⟨(Ae x).length-(j+1),Aj6,j+1,fun q=>if q=ix then (a.terms.length:Int)else cc q,?_⟩
   ((repeat' refine Zi ?_ ?_)<;>first|exact Xq|exact HN.out.1|exact HN.out.2|exact (((hK.new _).put hK.nobj _).put Aj6 _)|exact (af _)|exact Xs)
  ·have bq:j=(Ae x).length:=Aj6;subst bq;have HN:Akc (cntsOk N' (Dj l (i+1)) cc/\Db (Dj l (i+1))):=by
    rw[Akc,Uw HX.out];exact⟨hC.out,hS.out⟩
   repeat' (first|refine Z1 ?_|(refine Z8 ?_;intro yb ya)|(refine Z4 ?_;clear ya yb)|(refine Z2 ?_ ?_<;>intro h ab<;>try exact Xp)|refine Z3 ?_|exact Zt|(apply ya.out;clear ya yb))
   refine⟨l.length-(i+1),Aj6,i+1,cc,?_⟩
   ((repeat' refine Zi ?_ ?_)<;>first|exact Xq|exact HN.out.1|exact HN.out.2|exact Xs)
 ·have hil:i=l.length:=Aj6;subst hil;have e0:Dj l l.length=l.flatMap Ae:=by simp[Dj]
  rw[e0]at hC hS;generalize l.flatMap Ae=A at hC hS
  repeat' (first|refine Z1 ?_|(refine Z8 ?_;intro yb ya)|(refine Z4 ?_;clear ya yb)|(refine Z2 ?_ ?_<;>intro h ab<;>try exact Xp)|refine Z3 ?_|exact Zt|(apply ya.out;clear ya yb))
  refine Af (fun m s z'=>∃(k:Nat) (cc:Nat->Int),m=F.length-k/\k<=F.length/\s 7=fx (z.nobj+1) 0 N'.length/\s 39=sl idf F.length fc/\s 40=ic F.length/\s 41=ic k/\Keep z z'/\z.nobj+1<z'.nobj/\z'.obj (z.nobj+1)=Fu N'.length cc/\Akc (cntsOk N' (A++F.take k) cc/\Db (A++F.take k)/\∀(i:Nat) (a:RAtom),i<k->F[i]?=some a->(A++F.take i).any (clash a)=false)) F.length
   ⟨0,cc,Aj6,Aj6,Aj7,Aj7,Aj7,Aj8,hK,ac,ak,by simpa using hC.out,by simpa using hS.out,fun i a hi=>Aj6⟩ ?_
  clear h1 h7 a8 a7 a6 hK ac ak hC hS av cc ae;rintro m s z' ⟨k,cc,rfl,hk,h7,b7,b6,b5,hK,ac,ak,hC⟩;have av:=hK.nobj;by_cases ae:k<F.length
  ·have aa:=Agz ae;obtain⟨ha,ids,r,hd⟩:=Wn hF aa;have aj:=bw _ (Ain ae);generalize F[k]=a at hd aa ha aj;obtain⟨c1,c2,c3⟩:=hC.out;have HG:Akc (F[k]?=some a):=aa;have ax:Akc (A++F.take (k+1)=A++F.take k++[a]):=by rw[Akc,Ahd,aa,Ais,Ahq]
   have ap:=Air ha;have aw:=c1.step c2 ha;have a0:=c1 a.pred ha;have bd:=Ft cc ap;have af:=fun v=>P3 (n:=N'.length) (i:=N'.idxOf a.pred) cc v;have bn:=I4 N'.length cc;have a3:=Na c2 a;have bm:Akc (((A++F.take k).any (clash a)=false)->∀(i:Nat) (b:RAtom),i<k+1->F[i]?=some b->(A++F.take i).any (clash b)=false):=fun hh i b hi hb=>by
    by_cases e:i=k
    ·subst e;rw[HG.out]at hb;cases hb;exact hh
    ·exact c3 i b Aj6 hb
   generalize bv:cc (N'.idxOf a.pred)=c at bd aw a0;clear bv aa c1 c3 hC;generalize N'.idxOf a.pred=ix at hd bd ap aw af;have bl:Akc _:=c2;have bi:Akc _:=aw;have ay:Akc _:=a0;have a9:Akc _:=a3;clear aw a0 a3 c2;by_cases au:(c==0)=true
   ·have b1:((Fu N'.length cc).set ix (sc (.int .i64 a.terms.length)))[ix]?=some (sc (.int .i64 a.terms.length)):=by rw[af,Ft _ ap];simp
    have b0:((a.terms.length:Int) !=a.terms.length)=false:=by simp
    have be:c=0:=by simpa using au
    have bz:Akc _:=af;have ad:(A++F.take k).any (clash a)=false:=by
     cases hq:(A++F.take k).any (clash a)with
     |false=>rfl
     |true=>exfalso;have h1:=(a9.out.1 hq).1;have h2:=ay.out;omega
    have HN:Akc (cntsOk N' (A++F.take (k+1)) (fun j=>if j=ix then (a.terms.length:Int)else cc j)/\Db (A++F.take (k+1))/\∀(i:Nat) (b:RAtom),i<k+1->F[i]?=some b->(A++F.take i).any (clash b)=false):=by
     refine⟨?_,?_,bm.out ad⟩
     ·rw[ax.out];exact bi.out.1 be
     ·rw[ax.out];exact Hd bl.out aj.1 ad
    clear af ad be
    repeat' (first|refine Z1 ?_|(refine Z8 ?_;intro yb ya)|(refine Z4 ?_;clear ya yb)|(refine Z2 ?_ ?_<;>intro h ab<;>try exact Xp)|refine Z3 ?_|exact Zt|(apply ya.out;clear ya yb))
    refine A8 Ai (fun _=>True) [8] [0,1,2,3,4,5,6,7] [8] Aj9 (fun _ _ _ h=>h) ?_;intro yb ya;refine Z3 ?_
    repeat' (first|refine Z1 ?_|(refine Z8 ?_;intro yb ya)|(refine Z4 ?_;clear ya yb)|(refine Z2 ?_ ?_<;>intro h ab<;>try exact Xp)|refine Z3 ?_|exact Zt|(apply ya.out;clear ya yb))
    refine⟨F.length-(k+1),Aj6,k+1,fun j=>if j=ix then (a.terms.length:Int)else cc j,?_⟩
    ((repeat' refine Zi ?_ ?_)<;>first|exact Xq|exact HN|exact (((hK.new _).put hK.nobj _).put Aj6 _)|exact (bz.out _)|exact Xs)
   ·have au:(c==0)=false:=by simpa using au
    clear af
    repeat' (first|refine Z1 ?_|(refine Z8 ?_;intro yb ya)|(refine Z4 ?_;clear ya yb)|(refine Z2 ?_ ?_<;>intro h ab<;>try exact Xp)|refine Z3 ?_|exact Zt|(apply ya.out;clear ya yb))
    refine A8 Ai (fun _=>True) [8] [0,1,2,3,4,5,6,7] [8] Aj9 (fun _ _ _ h=>h) ?_;intro yb ya;refine Z3 ?_
    repeat' (first|refine Z1 ?_|(refine Z8 ?_;intro yb ya)|(refine Z4 ?_;clear ya yb)|(refine Z2 ?_ ?_<;>intro h ab<;>try exact Xp)|refine Z3 ?_|exact Zt|(apply ya.out;clear ya yb))
    ·have a4:c≠0:=by simpa using au
     have bf:c≠a.terms.length:=by simpa using h
     have br:=a9.out.2 ⟨by have:=ay.out;omega,by have:=ay.out;omega⟩;exact⟨_,rfl,by rw[xP HG.out br],(hK.new _).put hK.nobj _⟩
    ·have a4:c≠0:=by simpa using au
     have bf:c=a.terms.length:=by simpa using h
     have ad:(A++F.take k).any (clash a)=false:=by
      cases hq:(A++F.take k).any (clash a)with
      |false=>rfl
      |true=>exfalso;have h1:=(a9.out.1 hq).2;have h2:=ay.out;omega
     have HN:Akc (cntsOk N' (A++F.take (k+1)) cc/\Db (A++F.take (k+1))/\∀(i:Nat) (b:RAtom),i<k+1->F[i]?=some b->(A++F.take i).any (clash b)=false):=by
      refine⟨?_,?_,bm.out ad⟩
      ·rw[ax.out];exact bi.out.2 a4
      ·rw[ax.out];exact Hd bl.out aj.1 ad
     clear bf a4 ad;refine⟨F.length-(k+1),Aj6,k+1,cc,?_⟩
     ((repeat' refine Zi ?_ ?_)<;>first|exact Xq|exact HN|exact ((hK.new _).put hK.nobj _)|exact Xs)
  ·have bp:k=F.length:=Aj6;subst bp;have hz:L2 A F=false:=sJ fun i a hi=>hC.out.2.2 i a (Agy.1 hi).1 hi;rw[hz]
   repeat' (first|refine Z1 ?_|(refine Z8 ?_;intro yb ya)|(refine Z4 ?_;clear ya yb)|(refine Z2 ?_ ?_<;>intro h ab<;>try exact Xp)|refine Z3 ?_|exact Zt|(apply ya.out;clear ya yb))
   first|exact⟨_,rfl,rfl,hK⟩|exact⟨_,rfl,rfl⟩
def Lw (N:List Tx)(l:List RItem)(k:Nat):Bool:=l.any fun x=>!x.out&&decide (N.idxOf x.head.pred=k)
theorem cX {α:Type}{l:List α}{f:α->Bool}{i:Nat}{x:α}(h:(l.take i).any f=false)(hi:l[i]?=some x)(hx:f x=false):(l.take (i+1)).any f=false:=by
 rw[Ahd,hi,Ais,Aji,h];simp[hx]
theorem Adu {α:Type}{l:List α}{f:α->Bool}{i:Nat}{x:α}(hi:l[i]?=some x)(hx:f x=true):l.any f=true:=Ahz.2 ⟨x,Ag1 hi,hx⟩
theorem fK (N:List Tx)(l:List RItem)(cs:List AV)(nm:AV)(aj:flat nm=true)(idi k:Nat)(hE:EL (PI N) l cs)(hl:l.length<=1000)(z:St):ACalls Tryz.prog 134 [ag [nm,sl idi l.length cs],sc (.int .i64 k)] z fun r z'=>r=sc (.bool (Lw N l k))/\Keep z z':=by
 have ak:=EL.length Dd hE;refine Z9 25 [.tmp 4] Tryz.func134 ?_
 repeat' (first|refine Z1 ?_|(refine Z8 ?_;intro yb ya)|(refine Z4 ?_;clear ya yb)|refine Z3 ?_|exact Zt|(apply ya.out;clear ya yb))
 refine Af (fun m s z'=>∃(i:Nat),m=l.length-i/\i<=l.length/\s 1=sc (.int .i64 k)/\s 8=sl idi l.length cs/\s 9=sc (.int .i64 l.length)/\s 10=sc (.int .i64 i)/\Keep z z'/\Akc (Lw N (l.take i) k=false)) l.length
  ⟨0,Aj6,Aj6,rfl,Aj8,Aj8,rfl,Xs,by simp[Akc,Lw]⟩ ?_
 rintro m s z' ⟨i,rfl,hi,h1,h8,h9,am,hK,hA⟩;have ai:=hK.nobj;by_cases af:i<l.length
 ·have aa:=Agz af;obtain⟨ae,ih,id,b,r,ah,hd⟩:=Em hE aa;generalize l[i]=x at hd aa ae ah;cases ab:x.out with
  |true=>
   rw[ab]at hd;have HA:Akc (Lw N (l.take (i+1)) k=false):=cX hA.out aa (by simp[ab]);clear aa hA ab
   repeat' (first|refine Z1 ?_|(refine Z8 ?_;intro yb ya)|(refine Z4 ?_;clear ya yb)|(refine Z2 ?_ ?_<;>intro h ac<;>try exact Xp)|refine Z3 ?_|exact Zt|(apply ya.out;clear ya yb))
   refine⟨l.length-(i+1),Aj6,i+1,?_⟩
   ((repeat' refine Zi ?_ ?_)<;>first|exact Xq|exact HA|exact Xs)
  |false=>
   rw[ab]at hd;by_cases hk:N.idxOf x.head.pred=k
   ·have ad:(((N.idxOf x.head.pred:Nat):Int)==(k:Int))=true:=by simp[hk]
    have HA:Akc (Lw N l k=true):=Adu aa (by simp[ab,hk]);clear aa hA ab hk;generalize N.idxOf x.head.pred=ix at hd ad
    repeat' (first|refine Z1 ?_|(refine Z8 ?_;intro yb ya)|(refine Z4 ?_;clear ya yb)|(refine Z2 ?_ ?_<;>intro h ac<;>try exact Xp)|refine Z3 ?_|exact Zt|(apply ya.out;clear ya yb))
    exact⟨_,rfl,by rw[HA.out],Xs⟩
   ·have ad:(((N.idxOf x.head.pred:Nat):Int)==(k:Int))=false:=by simpa using (by omega:¬((N.idxOf x.head.pred:Nat):Int)=k)
    have HA:Akc (Lw N (l.take (i+1)) k=false):=cX hA.out aa (by simp[hk]);clear aa hA ab hk;generalize N.idxOf x.head.pred=ix at hd ad
    repeat' (first|refine Z1 ?_|(refine Z8 ?_;intro yb ya)|(refine Z4 ?_;clear ya yb)|(refine Z2 ?_ ?_<;>intro h ac<;>try exact Xp)|refine Z3 ?_|exact Zt|(apply ya.out;clear ya yb))
    refine⟨l.length-(i+1),Aj6,i+1,?_⟩
    ((repeat' refine Zi ?_ ?_)<;>first|exact Xq|exact HA|exact Xs)
 ·have hil:i=l.length:=Aj6;subst hil;have hA:=hA.out;rw[Ag7]at hA;rw[hA]
  repeat' (first|refine Z1 ?_|(refine Z8 ?_;intro yb ya)|(refine Z4 ?_;clear ya yb)|(refine Z2 ?_ ?_<;>intro h ac<;>try exact Xp)|refine Z3 ?_|exact Zt|(apply ya.out;clear ya yb))
  first|exact⟨_,rfl,rfl,hK⟩|exact⟨_,rfl,rfl⟩
theorem Xz (N N':List Tx)(hN:N<+:N')(l:List RItem)(cs:List AV)(idn idi:Nat)(hB:Bk N l cs)(F:List RAtom)(fc:List AV)(idf:Nat)(hF:EL (PF N') F fc)(hFl:F.length<=1000)(z:St):
  ACalls Tryz.prog 80 [Bn N idn l idi cs,sl idf F.length fc] z fun r z'=>r=sc (.bool (F.any fun a=>Lw N' l (N'.idxOf a.pred)))/\Keep z z':=by
 have hE:EL (PI N') l cs:=hB.el.mono (PI.mono hN);have ao:=EL.length oB hF;have ai:=hB.len;have ak:=fun (k:Nat) z=>fK N' l cs (sl idn N.length (N.map str)) rfl idi k hE Aj6 z;unfold Bn;refine Z9 18 [.tmp 4] Tryz.func80 ?_
 repeat' (first|refine Z1 ?_|(refine Z8 ?_;intro yb ya)|(refine Z4 ?_;clear ya yb)|refine Z3 ?_|exact Zt|(apply ya.out;clear ya yb))
 refine Af (fun m s z'=>∃(k:Nat),m=F.length-k/\k<=F.length/\s 2=ptr z.nobj 0/\s 7=sl idf F.length fc/\s 8=ic F.length/\s 9=ic k/\Keep z z'/\z.nobj<z'.nobj/\z'.obj z.nobj=[sl idn N.length (N.map str),sl idi l.length cs]/\Akc ((F.take k).any (fun a=>Lw N' l (N'.idxOf a.pred))=false)) F.length
  ⟨0,Aj6,Aj6,Aj8,by simp[upd,initS],Aj8,rfl,Xs,Aka,by rw[Ao],by simp[Akc]⟩ ?_
 rintro m s z' ⟨k,rfl,hk,h2,h7,h8,h9,hK,an,ob,hA⟩;have am:=hK.nobj;by_cases ah:k<F.length
 ·have aa:=Agz ah;obtain⟨ha,ids,r,hd⟩:=Wn hF aa;generalize F[k]=a at hd aa ha;have af:=ak (N'.idxOf a.pred);have HT:Akc (Lw N' l (N'.idxOf a.pred)=true->F.any (fun a=>Lw N' l (N'.idxOf a.pred))=true):=fun h=>Adu aa h;have HF:Akc (Lw N' l (N'.idxOf a.pred)=false->(F.take (k+1)).any (fun a=>Lw N' l (N'.idxOf a.pred))=false):=fun h=>cX hA.out aa h;clear aa hA;generalize N'.idxOf a.pred=ix at hd af HT HF
  repeat' (first|refine Z1 ?_|(refine Z8 ?_;intro yb ya)|(refine Z4 ?_;clear ya yb)|(refine Z2 ?_ ?_<;>intro h ad<;>try exact Xp)|(refine Z5 ?_;refine Xi (af _) ?_;rintro _ _ ⟨rfl,ae⟩;(have ac:=ae.nobj;have ab:=ae.obj;simp only[Ab,Aa]at ac ab;have ap:=((hK.new _).put hK.nobj _).trans ae))|refine Z3 ?_|exact Zt|(apply ya.out;clear ya yb))
  ·exact⟨_,rfl,by rw[HT.out (by assumption)]⟩
  ·have HA:Akc ((F.take (k+1)).any (fun a=>Lw N' l (N'.idxOf a.pred))=false):=HF.out (by assumption);refine⟨F.length-(k+1),Aj6,k+1,?_⟩
   ((repeat' refine Zi ?_ ?_)<;>first|exact Xq|exact HA|exact (by rw[ab _ Aj6,Ah Aj6,Ag Aj6,ob])|exact Xs)
 ·have aj:k=F.length:=Aj6;subst aj;have hA:=hA.out;rw[Ag7]at hA;rw[hA]
  repeat' (first|refine Z1 ?_|(refine Z8 ?_;intro yb ya)|(refine Z4 ?_;clear ya yb)|(refine Z2 ?_ ?_<;>intro h ad<;>try exact Xp)|refine Z3 ?_|exact Zt|(apply ya.out;clear ya yb))
  first|exact⟨_,rfl,rfl,hK⟩|exact⟨_,rfl,rfl⟩
def bJ (l:List RItem)(p:Tx):Bool:=l.any fun x=>!x.out&&decide (x.head.pred=p)
theorem wN {N:List Tx}{l:List RItem}(hN:∀x∈l,x.head.pred∈N){p:Tx}(hp:p∈N):Lw N l (N.idxOf p)=bJ l p:=by
 unfold Lw bJ;rw[Aio,Ahz,Ahz];constructor
 ·rintro⟨x,hx,h⟩;simp only[Ag3,Aj3]at h;exact⟨x,hx,by simp only[Ag3,Aj3];exact⟨h.1,C1 (hN x hx) hp h.2⟩⟩
 ·rintro⟨x,hx,h⟩;simp only[Ag3,Aj3]at h;exact⟨x,hx,by simp only[Ag3,Aj3];exact⟨h.1,by rw[h.2]⟩⟩
theorem Aac {α:Type}{l:List α}{f g:α->Bool}(h:∀a∈l,f a=g a):l.any f=l.any g:=by
 rw[Aio,Ahz,Ahz];exact⟨fun⟨a,ha,e⟩=>⟨a,ha,by rw[<-h a ha];exact e⟩,fun⟨a,ha,e⟩=>⟨a,ha,by rw[h a ha];exact e⟩⟩
def Hp (l:List RItem)(t:Tx):Int:=match Cz 400 t with
 |.bad _=>7
 |.got F _=>if L2 (l.flatMap Ae) F=true then 3 else if F.any (fun a=>bJ l a.pred)=true then 8 else 0
theorem Jg:∀(n:Nat) (s:Tx) (F:List RAtom) (r:Tx),Cz n s= .got F r->r=[]/\F.length<=n/\s=F.flatMap (fun a=>A6 a++[46])/\∀a∈F,D1 a/\a.nt=false/\fH a=true
 |n,[],F,r,h=>by
  rw[N9]at h;cases h;simp
 |0,b::s,F,r,h=>by cases h
 |n+1,b::s,F,r,h=>by
  rw[Jh]at h;cases h1:J4 (b::s)with
  |bad e=>rw[h1]at h;cases h
  |got x r1=>
   rw[h1]at h;simp only[Rd.bnd]at h;cases h2:Cz n r1 with
   |bad e=>rw[h2]at h;cases h
   |got xs r2=>
    rw[h2]at h;cases h;obtain⟨e1,e2,e3,e4⟩:=Jg n r1 xs r h2;obtain⟨f1,f2,f3,f4⟩:=U5 h1;refine⟨e1,by simp;omega,?_,fun a ha=>?_⟩
    ·rw[f1,e3];simp
    ·rcases Ah2.1 ha with rfl|ha
     ·exact⟨f2,f3,f4⟩
     ·exact e4 a ha
theorem Vj (N:List Tx)(l:List RItem)(cs:List AV)(idn idi:Nat)(hB:Bk N l cs)(b0:N.length<=600)(hT:∀S,S<+:l.flatMap Ae->∀a∈l.flatMap Ae,S.any (clash a)=false)(t:Tx)(ht:t.length<=400)(z:St):
  ACalls Tryz.prog 48 [Bn N idn l idi cs,str t] z fun r z'=>∃(idf n np:Nat) (fc:List AV),r=tp [sl idf n fc,ic np,ic (Hp l t)]/\Keep z z'/\(Hp l t=0->∃F N',Cz 400 t= .got F []/\n=F.length/\np=N'.length/\N<+:N'/\N'.length<=1000/\EL (PF N') F fc):=by
 have bn:=hB.len;have bz:(N.map str).length=N.length:=by simp
 have aj:=fun N' hN F fc idf hF h1 h2 h3 z=>Sd N N' hN l cs idn idi hB hT F fc idf hF h1 h2 h3 z;have am:=fun N' hN F fc idf hF h1 z=>Xz N N' hN l cs idn idi hB F fc idf hF h1 z;have be:∀x∈l,x.head.pred∈N:=fun x hx=>by
  obtain⟨i,hi⟩:=Aif hx;exact (Em hB.el hi).1
 unfold Bn at aj am⊢;refine Z9 47 [.tmp 4,.tmp 5,.tmp 6] Tryz.func48 ?_
 repeat' (first|refine Z1 ?_|(refine Z8 ?_;intro yb ya)|(refine Z4 ?_;clear ya yb)|refine Z3 ?_|exact Zt|(apply ya.out;clear ya yb))
 refine Af (fun m s z'=>∃(i i3:Nat),m=N.length-i/\i<=N.length/\s 2=ptr z.nobj 0/\s 7=ptr (z.nobj+1) 0/\s 15=sl idn N.length (N.map str)/\s 16=ic N.length/\s 17=ic i/\Keep z z'/\z.nobj+1<z'.nobj/\z'.obj z.nobj=[sl idn N.length (N.map str),sl idi l.length cs]/\z'.obj (z.nobj+1)=[str t,ic 0,sl i3 i ((N.take i).map str)]/\Own z z' i3 i) N.length
  ⟨0,1,Aj6,Aj6,Aj8,Aj8,Aj8,Aj8,rfl,Xs,Akb,?_,?_,Own.nil _ _⟩ ?_
 ·rw[Ah Aj6,Ag Aka,Ao]
 ·rw[Aj];simp
 rintro m s z' ⟨i,i3,rfl,hi,h2,h7,b4,b3,b2,hK,bm,a6,a4,hO⟩;have bw:=hK.nobj;by_cases bd:i<N.length
 ·have ao:=Agz bd;have bo:(N.map str).drop i=str N[i]::(N.map str).drop (i+1):=by
   rw[Ah0 (by simpa using bd)];simp
  generalize N[i]=w at ao bo;have HX:Akc ((N.take i).map str++[str w]=(N.take (i+1)).map str):=by rw[Akc,Ahd,ao];simp
  have bl:((N.take i).map str).length=i*1:=by simp;omega
  clear ao;generalize (N.take i).map str=xs at a4 HX bl
  repeat' (first|refine Z1 ?_|(refine Z8 ?_;intro yb ya)|(refine Z4 ?_;clear ya yb)|(refine Z2 ?_ ?_<;>intro h ai<;>try exact Xp)|(refine Z6 ?_;intro idn zn bp bq bv bh bu bg)|refine Z3 ?_|exact Zt|(apply ya.out;clear ya yb))
  refine⟨N.length-(i+1),Aj6,i+1,idn,?_⟩;exact⟨rfl,Aj6,by simp,bq.put Aj6 _,by rw[<-HX.out],Own.put bp _ _⟩
 ·have hil:i=N.length:=Aj6;subst hil;rw[Ag7]at a4;have bf:RS N.length t (z.nobj+1) N i3 t z':=by
   refine⟨by rw[a4];simp[Le,R9],bm,?_,Aij _,Aj6,Aj6⟩;rcases hO with e|⟨k,e1,e2,e3,e4,e5⟩
   ·exact .inl e
   ·exact .inr ⟨k,e1,e3,e4,e5⟩
  have hid:i3<2\/z.ntop+2<=i3:=by
   rcases hO with e|⟨k,e1,e2,e3,e4,e5⟩<;>omega
  have hR:=fR (Bd:=N.length) ht bf;clear bf a4 hO hi;cases hp:Cz 400 t with
  |bad e=>
   have av:Hp l t=7:=by unfold Hp;rw[hp]
   rw[hp]at hR;simp only[Rd.ok,Rd.Val]at hR;rw[av];clear hp av aj am
   repeat' (first|refine Z1 ?_|(refine Z8 ?_;intro yb ya)|(refine Z4 ?_;clear ya yb)|(refine Z2 ?_ ?_<;>intro h ai<;>try exact Xp)|(refine Z5 ?_;refine Xi (hR) ?_;rintro _ _ ⟨n,ids,c,N2,id2,r2,rfl,aa,ae,ac,-⟩;(have an:=aa.keep.nobj;have ap:=KeepR.keep hK aa.keep Aj6 hid))|refine Z3 ?_|exact Zt|(apply ya.out;clear ya yb))
   first|exact⟨_,rfl,1,0,0,[],rfl,ap,fun h=>by simp at h⟩|exact⟨_,rfl,1,0,0,[],rfl,fun h=>by simp at h⟩
  |got F r0=>
   obtain⟨rfl,hFl,-,ba⟩:=Jg _ _ _ _ hp;rw[hp]at hR;simp only[Rd.ok,Rd.Val]at hR;have av:Hp l t=if L2 (l.flatMap Ae) F=true then 3 else if F.any (fun a=>bJ l a.pred)=true then 8 else 0:=by unfold Hp;rw[hp]
   rw[av]
   have br:∀a∈F,0<a.terms.length/\a.terms.length<=3:=fun a ha=>⟨by
    have:=(ba a ha).1.2.1;cases hh:a.terms with
    |nil=>exact absurd hh this
    |cons y ys=>simp,(ba a ha).1.2.2.1⟩
   have a0:F.length<=1000:=Aj6;have HP:Akc _:=hp;clear hp av ba;generalize b1:l.flatMap Ae=A at*
   have ax:=fun N' hN fc idf hF=>aj N' hN F fc idf hF a0 br;have bc:=fun N' hN fc idf hF=>am N' hN F fc idf hF a0;clear aj am;cases ah:L2 A F with
   |true=>
    simp only[ah]at ax;simp only[if_true];clear bc ah
    repeat' (first|refine Z1 ?_|(refine Z8 ?_;intro yb ya)|(refine Z4 ?_;clear ya yb)|(refine Z2 ?_ ?_<;>intro h ai<;>try exact Xp)|(refine Z5 ?_;first|(refine Xi (hR) ?_;rintro _ _ ⟨n,ids,c,N2,id2,r2,rfl,aa,ae,ac,⟨rfl,af⟩⟩;(have an:=aa.keep.nobj;have ap:=KeepR.keep hK aa.keep Aj6 hid;have ab:=ae.obj;unfold Le R9 at ab;have ad:=aa.keep.obj z.nobj Aj6 Aj6;rw[a6]at ad;have aw:=fun z=>ax N2 ac c ids af (by have:=ae.len;omega) z))|(refine Xi (aw _) ?_;rintro _ _ ⟨rfl,ak⟩;(have ay:=ap.trans ak)))|refine Z3 ?_|exact Zt|(apply ya.out;clear ya yb))
    first|exact⟨_,rfl,1,0,0,[],rfl,ay,fun h=>by simp at h⟩|exact⟨_,rfl,1,0,0,[],rfl,fun h=>by simp at h⟩
   |false=>
    simp only[ah]at ax;simp only[Ahv,if_false];clear ah;cases a5:F.any (fun a=>bJ l a.pred)with
    |true=>
     have bb:∀(N2:List Tx),N<+:N2->∀(fc:List AV) (idf:Nat),EL (PF N2) F fc->F.any (fun a=>Lw N2 l (N2.idxOf a.pred))=true:=fun N2 hP fc idf hE=>by
      rw[<-a5];refine Aac fun a ha=>wN (fun x hx=>hP.subset (be x hx)) ?_;obtain⟨i,hi⟩:=Aif ha;exact (Wn hE hi).1
     simp only[if_true];clear a5
     repeat' (first|refine Z1 ?_|(refine Z8 ?_;intro yb ya)|(refine Z4 ?_;clear ya yb)|(refine Z2 ?_ ?_<;>intro h ai<;>try exact Xp)|(refine Z5 ?_;first|(refine Xi (hR) ?_;rintro _ _ ⟨n,ids,c,N2,id2,r2,rfl,aa,ae,ac,⟨rfl,af⟩⟩;(have an:=aa.keep.nobj;have ap:=KeepR.keep hK aa.keep Aj6 hid;have ab:=ae.obj;unfold Le R9 at ab;have ad:=aa.keep.obj z.nobj Aj6 Aj6;rw[a6]at ad;have aw:=fun z=>ax N2 ac c ids af (by have:=ae.len;omega) z;have a3:=fun z=>bc N2 ac c ids af z;rw[bb N2 ac c ids af]at a3))|(refine Xi (aw _) ?_;rintro _ _ ⟨rfl,ak⟩;(have ay:=ap.trans ak;have au:=ak.obj;have a8:=ak.nobj))|(refine Xi (a3 _) ?_;rintro _ _ ⟨rfl,az⟩;(have a9:=ay.trans az)))|refine Z3 ?_|exact Zt|(apply ya.out;clear ya yb))
     first|exact⟨_,rfl,1,0,0,[],rfl,a9,fun h=>by simp at h⟩|exact⟨_,rfl,1,0,0,[],rfl,fun h=>by simp at h⟩
    |false=>
     have bb:∀(N2:List Tx),N<+:N2->∀(fc:List AV) (idf:Nat),EL (PF N2) F fc->F.any (fun a=>Lw N2 l (N2.idxOf a.pred))=false:=fun N2 hP fc idf hE=>by
      rw[<-a5];refine Aac fun a ha=>wN (fun x hx=>hP.subset (be x hx)) ?_;obtain⟨i,hi⟩:=Aif ha;exact (Wn hE hi).1
     simp only[Ahv,if_false];clear a5
     repeat' (first|refine Z1 ?_|(refine Z8 ?_;intro yb ya)|(refine Z4 ?_;clear ya yb)|(refine Z2 ?_ ?_<;>intro h ai<;>try exact Xp)|(refine Z5 ?_;first|(refine Xi (hR) ?_;rintro _ _ ⟨n,ids,c,N2,id2,r2,rfl,aa,ae,ac,⟨rfl,af⟩⟩;(have an:=aa.keep.nobj;have ap:=KeepR.keep hK aa.keep Aj6 hid;have ab:=ae.obj;unfold Le R9 at ab;have ad:=aa.keep.obj z.nobj Aj6 Aj6;rw[a6]at ad;have aw:=fun z=>ax N2 ac c ids af (by have:=ae.len;omega) z;have a3:=fun z=>bc N2 ac c ids af z;rw[bb N2 ac c ids af]at a3))|(refine Xi (aw _) ?_;rintro _ _ ⟨rfl,ak⟩;(have ay:=ap.trans ak;have au:=ak.obj;have a8:=ak.nobj))|(refine Xi (a3 _) ?_;rintro _ _ ⟨rfl,az⟩;(have a9:=ay.trans az;have a7:=az.obj;have bi:=az.nobj)))|refine Z3 ?_|exact Zt|(apply ya.out;clear ya yb))
     rename_i z1 _ z3 _ z4;have o7:z4.obj (z.nobj+1)=[str t,ic ((t.length-r2.length:Nat):Int),sl id2 N2.length (N2.map str)]:=by rw[a7 _ Aj6,au _ Aj6];exact ab
     refine A8 Ai (fun _=>True) [] [0,1,2,3,4,5,6] [] Aj9 (fun _ _ _ h=>h) ?_;intro yb ya
     repeat' (first|refine Z1 ?_|(refine Z4 ?_;clear ya yb)|refine Z3 ?_|exact Zt|(apply ya.out;clear ya yb))
     first|exact⟨_,rfl,ids,F.length,N2.length,c,rfl,a9,fun _=>⟨F,N2,rfl,rfl,rfl,ac,by have:=ae.len;omega,af⟩⟩|exact⟨_,rfl,ids,F.length,N2.length,c,rfl,fun _=>⟨F,N2,rfl,rfl,rfl,ac,by have:=ae.len;omega,af⟩⟩
def Fo:List Int->List Int->Bool
 |x::t,y::u=>if x=y then Fo t u else decide (x<y)
 |_,_=>false
theorem yH {t u:List Int}{i:Nat}{x y:Int}(ht:t[i]?=some x)(hu:u[i]?=some y):Fo (t.drop i) (u.drop i)=if x=y then Fo (t.drop (i+1)) (u.drop (i+1))else decide (x<y):=by
 obtain⟨h1,e1⟩:=Agy.1 ht;obtain⟨h2,e2⟩:=Agy.1 hu;rw[Ah0 h1,Ah0 h2,e1,e2];rfl
theorem Pr:∀{t u:List Int},Fo t u=true->Fo u t=false
 |[],_,h=>by simp[Fo]at h
 |_::_,[],h=>by simp[Fo]at h
 |x::t,y::u,h=>by
  unfold Fo at h⊢;by_cases e:x=y
  ·subst e;simp only[if_true]at h⊢;exact Pr h
  ·rw[if_neg e]at h;rw[if_neg (fun e'=>e e'.symm)];simp at h⊢;omega
theorem Agi (a b c d e f:Int):Fo [d,e,f] [a,b,c]=false↔(a<d\/(a=d/\(b<e\/(b=e/\c<=f)))):=by
 simp only[Fo];by_cases e1:d=a
 ·rw[if_pos e1];by_cases e2:e=b
  ·rw[if_pos e2];by_cases e3:f=c
   ·rw[if_pos e3];simp;omega
   ·rw[if_neg e3];simp;omega
  ·rw[if_neg e2];simp;omega
 ·rw[if_neg e1];simp;omega
theorem Zz {t u v:List Int}(ht:t.length=3)(hu:u.length=3)(hv:v.length=3)(h1:Fo u t=false)(h2:Fo v u=false):Fo v t=false:=by
 match t,u,v,ht,hu,hv with
 |[a,b,c],[d,e,f],[g,h,i],_,_,_=>
  rw[Agi]at h1 h2⊢;omega
theorem Ab9 {t u:List Int}(ht:t.length=3)(hu:u.length=3)(h1:Fo t u=false)(h2:Fo u t=false):t=u:=by
 match t,u,ht,hu with
 |[a,b,c],[d,e,f],_,_=>
  simp only[Fo]at h1 h2;by_cases e1:a=d
  ·subst e1;simp only[if_true]at h1 h2;by_cases e2:b=e
   ·subst e2;simp only[if_true]at h1 h2;by_cases e3:c=f
    ·rw[e3]
    ·rw[if_neg e3]at h1;rw[if_neg (fun e=>e3 e.symm)]at h2;simp at h1 h2;omega
   ·rw[if_neg e2]at h1;rw[if_neg (fun e=>e2 e.symm)]at h2;simp at h1 h2;omega
  ·rw[if_neg e1]at h1;rw[if_neg (fun e=>e1 e.symm)]at h2;simp at h1 h2;omega
theorem nD (t u:Bb)(ht:t.length=3)(hu:u.length=3)(z:St):ACalls Tryz.prog 142 [ag (Al t),ag (Al u)] z fun r z'=>r=sc (.bool (Fo t u))/\Keep z z':=by
 have f1:=Dr ht;have f3:=D4 ht;have f4:=Hz ht;have f5:=Cn t;have g1:=Dr hu;have g3:=D4 hu;have g4:=Hz hu;have g5:=Cn u;refine Z9 24 [.tmp 4] Tryz.func142 ?_
 repeat' (first|refine Z1 ?_|(refine Z8 ?_;intro yb ya)|(refine Z4 ?_;clear ya yb)|refine Z7 ?_|exact Zt|(apply ya.out;clear ya yb))
 refine Af (fun m s z'=>∃i:Nat,m=3-i/\i<=3/\s 2=ptr z.nobj 0/\s 3=ptr (z.nobj+1) 0/\s 6=ic i/\z'=(z.new (Al t)).new (Al u)/\Akc (Fo t u=Fo (t.drop i) (u.drop i))) 3
  ⟨0,Aj6,Aj6,Aj8,Aj8,Aj8,rfl,by simp[Akc]⟩ ?_
 rintro m s z' ⟨i,rfl,hi,h2,h3,h6,rfl,hL⟩;by_cases ah:i<3
 ·have ac:t[i]?=some t[i]:=Agz Aj6;have ab:u[i]?=some u[i]:=Agz Aj6;have af:=Jr ac;have ae:=Jr ab;have HS:Akc _:=yH ac ab;generalize t[i]=x at af HS;generalize u[i]=y at ae HS;clear ac ab
  repeat' (first|refine Z1 ?_|(refine Z8 ?_;intro yb ya)|(refine Z4 ?_;clear ya yb)|(refine Z2 ?_ ?_<;>intro h aa<;>try exact Xp)|refine Z7 ?_|exact Zt|(apply ya.out;clear ya yb))
  refine A8 Ai (fun _=>True) [] [0,1,2,3,4,5,6] [] Aj9 (fun _ _ _ h=>h) ?_;intro yb ya
  repeat' (first|refine Z1 ?_|(refine Z8 ?_;intro yb ya)|(refine Z4 ?_;clear ya yb)|(refine Z2 ?_ ?_<;>intro h aa<;>try exact Xp)|refine Z7 ?_|exact Zt|(apply ya.out;clear ya yb))
  ·refine A8 Ai (fun _=>True) [] [0,1,2,3,4,5,6,7] [] Aj9 (fun _ _ _ h=>h) ?_;intro yb ya
   repeat' (first|refine Z1 ?_|(refine Z4 ?_;clear ya yb)|refine Z7 ?_|exact Zt|(apply ya.out;clear ya yb))
   have ad:x≠y:=by simpa using h
   exact⟨_,rfl,by rw[hL.out,HS.out,if_neg ad],((Keep.refl z).new _).new _⟩
  ·have he:x=y:=by simpa using h
   have HL:Akc (Fo t u=Fo (t.drop (i+1)) (u.drop (i+1))):=by rw[Akc,hL.out,HS.out,if_pos he]
   refine⟨3-(i+1),Aj6,i+1,?_⟩
   ((repeat' refine Zi ?_ ?_)<;>first|exact Xq|exact HL|exact Xs)
 ·have hil:i=3:=Aj6;subst hil;have hz:Fo t u=false:=by rw[hL.out,Ag4 Aj6];rfl
  rw[hz]
  repeat' (first|refine Z1 ?_|(refine Z8 ?_;intro yb ya)|(refine Z4 ?_;clear ya yb)|(refine Z2 ?_ ?_<;>intro h aa<;>try exact Xp)|refine Z7 ?_|exact Zt|(apply ya.out;clear ya yb))
  exact⟨_,rfl,rfl,((Keep.refl z).new _).new _⟩
def jn:List Int->Tx
 |[]=>[]
 |x::xs=>Lib.itoa x++xs.flatMap fun y=>44::Lib.itoa y
theorem Aci (l:List Int)(x:Int):jn (l++[x])=if l=[]then Lib.itoa x else jn l++44::Lib.itoa x:=by
 cases l with
 |nil=>simp[jn]
 |cons y l=>simp[jn]
def tups (t:Bb):List Int:=t.takeWhile (fun x=>decide (x≠ -1))
def bA (t:Bb):Tx:=jn (tups t)
theorem Uh {t:Bb}{i:Nat}(h:∀x∈t.take i,x≠ -1)(he:t[i]?=some (-1)\/t.length<=i):tups t=t.take i:=by
 unfold tups
 conv=>lhs;rw[<-Aje i t]
 rw[List.takeWhile_append_of_pos (fun x hx=>by simpa using h x hx)];rcases he with he|he
 ·obtain⟨h1,h2⟩:=Agy.1 he;rw[Ah0 h1,h2];simp
 ·rw[Ag4 he];simp
theorem Ho (x:Int)(h0:0<=x)(h1:x<=9999):(Lib.itoa x).length<=10:=by
 have key:∀(k u:Nat),u<10^(k+1)->(Lib.decDigits u).length<=k+1:=by
  intro k;induction k with
  |zero=>intro u hu;rw[Lib.decDigits,dif_pos (by simpa using hu)];simp
  |succ k ih=>
   intro u hu;rw[Lib.decDigits];split
   ·simp
   ·rw[Aho];have:=ih (u / 10) (by rw[Nat.pow_succ]at hu;omega);simp;omega
 unfold Lib.itoa;rw[if_neg Aj6];have:=key 3 x.toNat (by simp;omega);omega
theorem Xx (t:Bb)(ht:t.length=3)(hb:∀x∈t,-1<=x/\x<=9999)(z:St):ACalls Tryz.prog 87 [ag (Al t)] z fun r z'=>r=str (bA t)/\Keep z z':=by
 have f1:=Dr ht;have f3:=D4 ht;have f4:=Hz ht;have f5:=Cn t;have ap:({data:=#[44]}:ByteArray)=bs [44]:=rfl;have aj:=vR;refine Z9 24 [.tmp 2] Tryz.func87 ?_
 repeat' (first|refine Z1 ?_|(refine Z8 ?_;intro yb ya)|(refine Z4 ?_;clear ya yb)|refine Z7 ?_|exact Zt|(apply ya.out;clear ya yb))
 refine Af (fun m s z'=>∃i:Nat,m=3-i/\i<=3/\s 3=str (jn (t.take i))/\s 6=ag (Al t)/\s 7=ic i/\Keep z z'/\(jn (t.take i)).length<=20*i/\Akc (∀x∈t.take i,x≠ -1)) 3
  ⟨0,Aj6,Aj6,by simp[upd,jn];try rfl,Aj7,Aj8,Xs,by simp[jn],by simp[Akc]⟩ ?_
 rintro m s z' ⟨i,rfl,hi,h3,h6,h7,hK,af,hN⟩;by_cases ak:i<3
 ·have aa:t[i]?=some t[i]:=Agz Aj6;have ad:=Jr aa;have ae:=hb t[i] (Ain Aj6);generalize t[i]=x at ad aa ae;by_cases hx:x= -1
  ·subst hx;have HR:Akc (bA t=jn (t.take i)):=by rw[Akc,bA,Uh hN.out (.inl aa)]
   clear aa
   repeat' (first|refine Z1 ?_|(refine Z8 ?_;intro yb ya)|(refine Z4 ?_;clear ya yb)|(refine Z2 ?_ ?_<;>intro h ab<;>try exact Xp)|refine Z7 ?_|exact Zt|(apply ya.out;clear ya yb))
   first|exact⟨_,rfl,by rw[HR.out],hK⟩|exact⟨_,rfl,by rw[HR.out]⟩
  ·have ai:(x== -1)=false:=by simpa using hx
   have hI:=fun z=>Q0 x Aj6 Aj6 z;have HT:Akc (jn (t.take (i+1))=if i=0 then Lib.itoa x else jn (t.take i)++44::Lib.itoa x):=by
    rw[Akc,Ahd,aa,Ais,Aci];by_cases e:i=0
    ·subst e;simp
    ·rw[if_neg e,if_neg (fun h=>by have:=congrArg List.length h;rw[Ahp,Ahx]at this;omega)]
   have HN:Akc (∀y∈t.take (i+1),y≠ -1):=fun y hy=>by
    rw[Ahd,aa,Ais]at hy;rcases Ah8.1 hy with h|h
    ·exact hN.out y h
    ·simp at h;subst h;exact hx
   by_cases e:i=0
   ·subst e;have HJ:Akc (jn (t.take 1)=Lib.itoa x):=by rw[Akc];have:=HT.out;simpa using this
    have ac:jn (t.take 0)=[]:=by simp[jn]
    rw[ac]at h3;have ao:(Al t).head?=some (ic x):=by rw[List.head?_eq_getElem?];exact ad
    have hil:=Ho x Aj6 Aj6;clear aa hx HT ac
    repeat' (first|refine Z1 ?_|(refine Z8 ?_;intro yb ya)|(refine Z4 ?_;clear ya yb)|(refine Z2 ?_ ?_<;>intro h ab<;>try exact Xp)|(refine Z5 ?_;refine Xi (hI _) ?_;rintro _ _ ⟨rfl,rfl⟩)|refine Z7 ?_|exact Zt|(apply ya.out;clear ya yb))
    exact⟨3-(0+1),Aj6,1,rfl,Aj6,by rw[HJ.out],rfl,by rw[HJ.out];omega,HN⟩
   ·have an:decide ((i:Int)>0)=true:=by simp;omega
    have HJ:Akc (jn (t.take (i+1))=jn (t.take i)++44::Lib.itoa x):=by have:=HT.out;rwa[if_neg e]at this
    have hil:=Ho x Aj6 Aj6;have ah:Akc ((jn (t.take (i+1))).length<=20*(i+1)):=by rw[Akc,HJ.out];simp;omega
    clear aa hx HT;generalize am:jn (t.take i)=js at h3 af HJ
    repeat' (first|refine Z1 ?_|(refine Z8 ?_;intro yb ya)|(refine Z4 ?_;clear ya yb)|(refine Z2 ?_ ?_<;>intro h ab<;>try exact Xp)|(refine Z5 ?_;refine Xi (hI _) ?_;rintro _ _ ⟨rfl,rfl⟩)|refine Z7 ?_|exact Zt|(apply ya.out;clear ya yb))
    exact⟨3-(i+1),Aj6,i+1,rfl,Aj6,by rw[HJ.out];simp[str],by simp,ah,HN⟩
 ·have hil:i=3:=Aj6;subst hil;have HR:Akc (bA t=jn (t.take 3)):=by rw[Akc,bA,Uh hN.out (.inr Aj6)]
  repeat' (first|refine Z1 ?_|(refine Z8 ?_;intro yb ya)|(refine Z4 ?_;clear ya yb)|(refine Z2 ?_ ?_<;>intro h ab<;>try exact Xp)|refine Z7 ?_|exact Zt|(apply ya.out;clear ya yb))
  first|exact⟨_,rfl,by rw[HR.out],hK⟩|exact⟨_,rfl,by rw[HR.out]⟩
end Go.Proofs.YtmoeoppbmhfbpabGreatDoorL
