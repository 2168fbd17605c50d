import Derived.Test.YtmoeoppbmhfbpabGreatDoorIProgH
set_option maxHeartbeats 16000000
set_option maxRecDepth 100000
set_option linter.all false
open List renaming length->Z
namespace Go.Proofs.YtmoeoppbmhfbpabGreatDoorI
open Go.Abs
abbrev Cl (N:List Tx)(idn:Nat)(l:List AB)(idi:Nat)(cs:List AV):AV:=ag [sl idn (Z N) (N.map str),sl idi (Z l) cs]
structure Bk (N:List Tx)(l:List AB)(cs:List AV):Prop where
 el:EL (PI N) l cs
 len:Z l<=16
 fits:∀x∈l,x.fits
 o:∀x∈l,x.o=true->x.A=[]
 nm:Z N<=2000
 pos:∀x∈l,∀a∈Af x,0<Z a.A
def Of (l:List AB)(i:Nat):Bool:=match l[i]? with|some x=>!Gg x|none=>false
theorem PI.of {N x ih id b}(hm:x.h.B∈N)(h:EL (PL N) x.A b):PI N x [sc (.bool x.o),ic (N.idxOf x.h.B:Nat),sl ih (Z x.h.A) (A2 x.h.A),sl id (Z x.A) b]:=⟨hm,ih,id,b,h,rfl⟩
theorem S8 (N l cs idn idi)(hB:Bk N l cs)(z):AF Tryz.prog 122 [Cl N idn l idi cs] z fun r z'=>r=ic (Bf (Of l) (Z l))/\AE z z':=by
 have aj:=EL.length E7 hB.el;have ah:=hB.len;refine Z9 18 [.tmp 2] Tryz.func122 ?_
 refine zz ?_
 refine Ae (fun m s z'=>∃i:Nat,m=Z l-i/\i<=Z l/\s 6=sl idi (Z l) cs/\s 7=ic (Z l)/\s 8=ic i/\AE z z'/\AD (∀j,j<i->Of l j=false)) (Z l)
  ⟨0,AA,AA,rfl,rfl,rfl,Xs,fun j hj=>AA⟩ ?_
 rintro m s z' ⟨i,rfl,hi,h6,h7,h8,hK,ab⟩;have ai:=hK.B;by_cases ac:i<Z l
 ·have aa:=AJ ac;have af:=hB.fits l[i] (AT ac);have ae:=hB.o l[i] (AT ac);obtain⟨hm,ih,id,b,r,hb,hd⟩:=Io hB.el aa;generalize l[i]=x at hd aa af ae hb hm;have hv:AD (Of l i=!Gg x):=by rw[AD,Of,aa]
  clear aa
  refine qb ?_;intro yd yb;refine Xi (W2 N x _ (PI.of hm hb) ae af _) ?_;rintro _ _ ⟨rfl,ak⟩;refine qe ?_ ?_<;>intro h ad
  ·exact⟨_,rfl,by rw[Gx ac (by rw[hv.o];simp[*]) ab.o],Xs⟩
  ·exact⟨Z l-(i+1),AA,i+1,rfl,AA,by simp,Xs,Lr ab.o (by rw[hv.o];simp[*])⟩
 ·have hil:i=Z l:=AA;subst hil
  refine pz ?_
  first|exact⟨_,rfl,by rw[Ch ab.o],hK⟩|exact⟨_,rfl,by rw[Ch ab.o]⟩
def Gr (S:List AC)(p:Tx):Nat:=match S.find? (fun a=>a.B==p)with|some a=>Z a.A|none=>0
def Hf (S:List AC):Prop:=∀b∈S,0<Z b.A/\Z b.A=Gr S b.B
theorem VN (S a p):Gr (S++[a]) p=match S.find? (fun a=>a.B==p)with|some b=>Z b.A|none=>if a.B=p then Z a.A else 0:=by
 unfold Gr;rw[List.find?_append];cases hf:S.find? (fun a=>a.B==p)with
 |some b=>simp
 |none=>by_cases h:a.B=p<;>simp[h]
theorem Yx {S}(h:Hf S)(p):Gr S p=0↔S.find? (fun a=>a.B==p)=none:=by
 unfold Gr;cases hf:S.find? (fun a=>a.B==p)with
 |none=>simp
 |some b=>
  have hb:=(h b (LK hf)).1;constructor
  ·intro e;have e:Z b.A=0:=e;omega
  ·intro e;cases e
theorem eG {S}(h:Hf S)(a):S.any (clash a)=true↔(Gr S a.B≠0/\Gr S a.B≠Z a.A):=by
 rw[CW];constructor
 ·rintro⟨b,hb,hc⟩;simp only[clash,BX,EH,DF]at hc;have:=h b hb;rw[hc.1]at this;omega
 ·rintro⟨h1,h2⟩;have h3:S.find? (fun b=>b.B==a.B)≠none:=fun e=>h1 ((Yx h _).2 e);cases hf:S.find? (fun b=>b.B==a.B)with
  |none=>exact absurd hf h3
  |some b=>
   have hp:(b.B==a.B)=true:=NI (p:=fun b:AC=>b.B==a.B) hf;have aa:Gr S a.B=Z b.A:=by unfold Gr;rw[hf]
   exact⟨b,LK hf,by simp only[clash,hp,ID,DF];omega⟩
theorem Yw {S}(h:Hf S)(a p):Gr (S++[a]) p=if p=a.B/\Gr S a.B=0 then Z a.A else Gr S p:=by
 rw[VN];cases hf:S.find? (fun b=>b.B==p)with
 |some b=>
  have h1:Gr S p≠0:=fun e=>by rw[Yx h,hf]at e;cases e
  have hx:¬(p=a.B/\Gr S a.B=0):=fun e=>h1 (by rw[e.1];exact e.2);have hy:Gr S p=Z b.A:=by unfold Gr;rw[hf]
  rw[if_neg hx,hy]
 |none=>
  have h1:Gr S p=0:=(Yx h _).2 hf;by_cases e:p=a.B
  ·subst e;rw[if_pos rfl,if_pos ⟨rfl,h1⟩]
  ·rw[if_neg (fun e'=>e e'.symm),if_neg (by rintro⟨e',-⟩;exact e e'),h1]
theorem Ow {S a}(h:Hf S)(ha:0<Z a.A)(hc:S.any (clash a)=false):Hf (S++[a]):=by
 have hn:¬(Gr S a.B≠0/\Gr S a.B≠Z a.A):=fun e=>by rw[<-eG h a,hc]at e;cases e
 intro b hb;rw[Yw h];rcases AW.1 hb with hb|hb
 ·have:=h b hb;refine⟨this.1,?_⟩;by_cases e:b.B=a.B/\Gr S a.B=0
  ·rw[e.1]at this;omega
  ·rw[if_neg e];exact this.2
 ·simp at hb;subst hb;refine⟨ha,?_⟩;by_cases e:Gr S b.B=0
  ·rw[if_pos ⟨rfl,e⟩]
  ·rw[if_neg (by rintro⟨-,e'⟩;exact e e')];omega
theorem oC:Hf []:=fun b hb=>by cases hb
def O6 (n:Nat)(cc:Nat->Int):List AV:=(List.range n).map fun i=>ic (cc i)
theorem Yu (n cc):Z (O6 n cc)=n:=by simp[O6]
theorem Nv {n i}(cc)(h:i<n):(O6 n cc)[i]?=some (ic (cc i)):=by simp[O6,h]
theorem nj {n i}(cc v):(O6 n cc).set i (ic v)=O6 n (fun j=>if j=i then v else cc j):=by
 apply FS;intro j;rw[GK];by_cases hj:j<n
 ·rw[Nv (fun j=>if j=i then v else cc j) hj];by_cases e:i=j
  ·subst e;rw[if_pos rfl,Yu,if_pos hj];simp
  ·rw[if_neg e,Nv _ hj,if_neg (fun e'=>e e'.symm)]
 ·have h1:(O6 n fun j=>if j=i then v else cc j)[j]?=none:=by simp[O6];omega
  have h2:(O6 n cc)[j]?=none:=by simp[O6];omega
  rw[h1,h2];split
  ·rw[Yu];rw[if_neg AA]
  ·rfl
theorem zQ (n):List.replicate n (ic 0)=O6 n fun _=>0:=by
 apply FS;intro j;by_cases hj:j<n
 ·rw[Nv _ hj];simp[hj]
 ·simp[O6,hj]
theorem Eh {N:List Tx}{p q}(hp:p∈N)(hq:q∈N)(h:N.idxOf p=N.idxOf q):p=q:=by
 have h1:=FT (CY hp);have h2:=FT (CY hq);rw[<-h1,<-h2];congr 1
def EP (N:List Tx)(S:List AC)(cc:Nat->Int):Prop:=∀p∈N,cc (N.idxOf p)=(Gr S p:Nat)
theorem EP.step {N S cc a}(h:EP N S cc)(hc:Hf S)(ha:a.B∈N):
  (cc (N.idxOf a.B)=0->EP N (S++[a]) (fun j=>if j=N.idxOf a.B then (Z a.A:Int)else cc j))/\(cc (N.idxOf a.B)≠0->EP N (S++[a]) cc):=by
 have h0:=h a.B ha;constructor
 ·intro e p hp;rw[Yw hc];dsimp only;by_cases ep:p=a.B
  ·subst ep;rw[if_pos rfl,if_pos ⟨rfl,AA⟩]
  ·rw[if_neg (fun e'=>ep (Eh hp ha e')),if_neg (by rintro⟨e',-⟩;exact ep e')];exact h p hp
 ·intro e p hp;rw[Yw hc,if_neg (by rintro⟨-,e'⟩;omega)];exact h p hp
theorem Up (N l cs idn idi)(hB:Bk N l cs)(z):AF Tryz.prog 121 [Cl N idn l idi cs] z fun r z'=>r=ic (Bf (Gm l) (Z l))/\AE z z':=by
 have a3:=EL.length E7 hB.el;have bm:=hB.len;have hN:=hB.nm;refine Z9 52 [.tmp 2] Tryz.func121 ?_
 refine zz ?_
 refine Ae (fun m s z'=>∃(i:Nat) (cc:Nat->Int),m=Z l-i/\i<=Z l/\s 3=fx (z.B+1) 0 (Z N)/\s 13=sl idi (Z l) cs/\s 14=ic (Z l)/\s 15=ic i/\AE z z'/\z.B+1<z'.B/\z'.C (z.B+1)=O6 (Z N) cc/\AD (EP N (C6 l i) cc)/\AD (Hf (C6 l i))/\AD (UU l i)) (Z l)
  ⟨0,fun _=>0,AA,AA,?_,rfl,rfl,rfl,Xs,AK,?_,?_,by simp[AD,C6,oC],fun a h=>AA⟩ ?_
 ·simp[upd]
 ·show (if z.B+1=z.B+1 then _ else _)=_;rw[if_pos rfl];exact zQ _
 ·intro p hp;simp[C6,Gr]
 rintro m s z' ⟨i,cc,rfl,hi,h3,a7,a6,a5,hK,ae,ax,hC,hS,au⟩;have a9:=hK.B;by_cases am:i<Z l
 ·have aa:=AJ am;have az:=hB.fits l[i] (AT am);have bb:=hB.o l[i] (AT am);have ba:=hB.pos l[i] (AT am);obtain⟨hm,ih,id,b,r,hb,hd⟩:=Io hB.el aa;generalize l[i]=x at hd aa az bb hb hm ba;have HX:AD (l[i]?=some x):=aa;clear aa;have b2:=az.atoms
  refine qb ?_;intro yd yb;refine Xi (Ni N x _ (PI.of hm hb) bb (by have:=az.1;omega) _) ?_;rintro _ _ ⟨ida,cs2,rfl,bg,a4⟩;(have ah:=a4.C;have ai:=a4.B;(try simp only[Aa,Ab,Av]at ai));refine pz ?_
  rename_i z1;have bp:=EL.length iI bg;have bf:AE z z1:=Xs;have aj:z1.C (z.B+1)=O6 (Z N) cc:=by
   rw[ah _ (by simp only[Aa,Ab];omega),Aj AA,Ah ae];exact ax
  clear ah
  refine Ae (fun m s z'=>∃(j:Nat) (cc:Nat->Int),m=Z (Af x)-j/\j<=Z (Af x)/\s 3=fx (z.B+1) 0 (Z N)/\s 4=ic i/\s 13=sl idi (Z l) cs/\s 14=ic (Z l)/\s 15=ic i/\s 21=sl ida (Z (Af x)) cs2/\s 22=ic (Z (Af x))/\s 23=ic j/\AE z z'/\z.B+1<z'.B/\z'.C (z.B+1)=O6 (Z N) cc/\AD (EP N (Ca l x i j) cc)/\AD (Hf (Ca l x i j))/\AD (SO l x i j)) (Z (Af x))
   ⟨0,cc,AA,AA,by simp[upd,h3],AG,by simp[upd,a7],by simp[upd,a6],by simp[upd,a5],AG,rfl,rfl,bf,AA,aj,by simpa[Ca]using hC,by simpa[Ca]using hS,fun b h=>AA⟩ ?_
  clear aj hK ax hC hS a4 ai a9 h3 a7 a6 a5 ae cc bf;rintro m s z' ⟨j,cc,rfl,hj,h3,h4,a7,a6,a5,b5,b4,b3,hK,ae,ax,hC,hS,ad⟩;have a9:=hK.B;by_cases af:j<Z (Af x)
  ·have aa:=AJ af;have aw:=ba (Af x)[j] (AT af);obtain⟨ha,ia,r2,bc⟩:=QB bg aa;generalize (Af x)[j]=a at bc aa ha aw;have HA:AD ((Af x)[j]?=some a):=aa;clear aa;have ac:AD (Ma l x i j=(Ca l x i j).any (clash a)):=by rw[AD,Ma,HA.o]
   have ay:=CY ha;have ap:=hC.o.step hS.o ha;have a0:=hC.o a.B ha;have bd:=Nv cc ay;have an:=fun v=>nj (n:=Z N) (i:=N.idxOf a.B) cc v;have bz:=Yu (Z N) cc;generalize bq:cc (N.idxOf a.B)=c at bd ap a0;clear bq;generalize N.idxOf a.B=ix at bc bd ay ap an;have a3:=eG hS.o a;have bh:AD _:=ap;have av:AD _:=a0;have a8:AD _:=a3;clear ap a0 a3;by_cases ao:(c==0)=true
   ·have b1:((O6 (Z N) cc).set ix (ic (Z a.A)))[ix]?=some (ic (Z a.A)):=by rw[an,Nv _ ay];simp
    have b0:((Z a.A:Int) !=Z a.A)=false:=by simp
    have br:c=0:=by simpa using ao
    have bw:AD _:=an;clear an
    refine pz ?_
    refine Ay Ag (fun _=>True) [8] [0,1,2,3,4,5,6,7] [8] AH (fun _ _ _ h=>h) ?_;intro yd yb;refine Z3 ?_
    refine pz ?_
    have ak:(Ca l x i j).any (clash a)=false:=by
     cases hq:(Ca l x i j).any (clash a)with
     |false=>rfl
     |true=>exfalso;have h1:=(a8.o.1 hq).1;have h2:=av.o;omega
    refine⟨Z (Af x)-(j+1),AA,j+1,_,rfl,AA,by simp,((hK.new _).put hK.B _).put AA _,AA,bw.o _,?_,?_,Lr ad.o (by rw[ac.o];exact ak)⟩
    ·rw[AD,G1 HA.o];exact bh.o.1 br
    ·rw[AD,G1 HA.o];exact Ow hS.o aw ak
   ·have ao:(c==0)=false:=by simpa using ao
    clear an
    refine pz ?_
    refine Ay Ag (fun _=>True) [8] [0,1,2,3,4,5,6,7] [8] AH (fun _ _ _ h=>h) ?_;intro yd yb;refine Z3 ?_
    refine qe ?_ ?_<;>intro h ab
    ·have be:c≠0:=by simpa using ao
     have bu:c≠Z a.A:=by simpa using h
     have bo:=a8.o.2 ⟨by have:=av.o;omega,by have:=av.o;omega⟩;have bl:Gm l i=true:=by
      unfold Gm;rw[HX.o];dsimp only;rw[CW];exact⟨j,by simpa using af,by rw[ac.o];exact bo⟩
     exact⟨_,rfl,by rw[Gx am bl au.o],(hK.new _).put hK.B _⟩
    ·have be:c≠0:=by simpa using ao
     have bu:c=Z a.A:=by simpa using h
     have ak:(Ca l x i j).any (clash a)=false:=by
      cases hq:(Ca l x i j).any (clash a)with
      |false=>rfl
      |true=>exfalso;have h1:=(a8.o.1 hq).2;have h2:=av.o;omega
     refine⟨Z (Af x)-(j+1),AA,j+1,cc,rfl,AA,by simp,(hK.new _).put hK.B _,AA,rfl,?_,?_,Lr ad.o (by rw[ac.o];exact ak)⟩
     ·rw[AD,G1 HA.o];exact bh.o.2 be
     ·rw[AD,G1 HA.o];exact Ow hS.o aw ak
  ·have bn:j=Z (Af x):=AA;subst bn
   refine pz ?_
   have bi:Ca l x i (Z (Af x))=C6 l (i+1):=by rw[cP HX.o];simp[Ca]
   rw[bi]at hC hS;refine⟨Z l-(i+1),AA,i+1,cc,rfl,AA,by simp,rfl,hC,hS,Lr au.o ?_⟩;unfold Gm;rw[HX.o];dsimp only;rw[EB];intro b hb;have bv:=ad.o b (by simpa using hb);simp[bv]
 ·have hil:i=Z l:=AA;subst hil
  refine pz ?_
  first|exact⟨_,rfl,by rw[Ch au.o],hK⟩|exact⟨_,rfl,by rw[Ch au.o]⟩
def Cv (n:Nat)(f:Nat->Bool):List AV:=(List.range n).map fun i=>sc (.bool (f i))
theorem Cx (n f):Z (Cv n f)=n:=by simp[Cv]
theorem Fy {n i}(f)(h:i<n):(Cv n f)[i]?=some (sc (.bool (f i))):=by simp[Cv,h]
theorem Ny {n i}(f v):(Cv n f).set i (sc (.bool v))=Cv n (fun j=>if j=i then v else f j):=by
 apply FS;intro j;rw[GK];by_cases hj:j<n
 ·rw[Fy (fun j=>if j=i then v else f j) hj];by_cases e:i=j
  ·subst e;rw[if_pos rfl,Cx,if_pos hj];simp
  ·rw[if_neg e,Fy _ hj,if_neg (fun e'=>e e'.symm)]
 ·have h1:(Cv n fun j=>if j=i then v else f j)[j]?=none:=by simp[Cv];omega
  have h2:(Cv n f)[j]?=none:=by simp[Cv];omega
  rw[h1,h2];split
  ·rw[Cx];rw[if_neg AA]
  ·rfl
theorem K9 (n):List.replicate n (sc (.bool false))=Cv n fun _=>false:=by
 apply FS;intro j;by_cases hj:j<n
 ·rw[Fy _ hj];simp[hj]
 ·simp[Cv,hj]
def Ga (B n k:Nat):List AV:=(List.range k).map fun i=>fx (B+i) 0 n
theorem Jc (B n k):Z (Ga B n k)=k:=by simp[Ga]
theorem qL (B n k):Ga B n (k+1)=Ga B n k++[fx (B+k) 0 n]:=by simp[Ga,List.range_succ]
theorem Jd {B n k i}(h:i<k):(Ga B n k).drop i=fx (B+i) 0 n::(Ga B n k).drop (i+1):=by
 rw[FJ (by rw[Jc];exact h)];simp[Ga]
def CB (B n:Nat)(M:Nat->Nat->Bool)(z:St):Prop:=∀i,i<n->z.C (B+i)=Cv n (M i)
theorem CB.keep {B n M z z'}(h:CB B n M z)(k:AE z z')(hn:B+n<=z.B):CB B n M z':=fun i hi=>by rw[k.C _ AA];exact h i hi
theorem CB.new {B n M z}(h:CB B n M z)(hn:B+n<=z.B)(cs):CB B n M (z.new cs):=fun i hi=>by rw[Ah AA];exact h i hi
theorem CB.put {B n o M z}(h:CB B n M z)(ho:B+n<=o)(cs):CB B n M (z.put o cs):=fun i hi=>by rw[Aj AA];exact h i hi
theorem CB.set {B n p q M z}(h:CB B n M z)(hp:p<n)(v):CB B n (set2 M p q v) (z.put (B+p) ((Cv n (M p)).set q (sc (.bool v)))):=fun i hi=>by
 by_cases e:i=p
 ·subst e;rw[Ak,Ny];congr 1;funext j;simp[set2]
 ·have hx:(z.put (B+p) ((Cv n (M p)).set q (sc (.bool v)))).C (B+i)=z.C (B+i):=by
   by_cases hl:i<p
   ·exact Aj AA
   ·exact Oe AA
  rw[hx,h i hi];congr 1;funext j;simp[set2,e]
def mP (N:List Tx)(l:List AB)(p q:Nat):Prop:=∃x∈l,N.idxOf x.h.B=p/\∃a∈x.A,N.idxOf a.B=q
def ks (N:List Tx)(x:AB)(b:List AC)(p q:Nat):Prop:=N.idxOf x.h.B=p/\∃a∈b,N.idxOf a.B=q
def Em (N:List Tx)(l:List AB)(M:Nat->Nat->Bool):Prop:=∀p q,M p q=true↔mP N l p q
def BZ (N:List Tx)(l:List AB)(x:AB)(b:List AC)(M:Nat->Nat->Bool):Prop:=∀p q,M p q=true↔mP N l p q\/ks N x b p q
theorem BZ.step {N l x j a M}(h:BZ N l x (x.A.take j) M)(ha:x.A[j]?=some a):BZ N l x (x.A.take (j+1)) (set2 M (N.idxOf x.h.B) (N.idxOf a.B) true):=by
 intro p q;rw[AU,ha];unfold set2;by_cases e:p=N.idxOf x.h.B/\q=N.idxOf a.B
 ·rw[if_pos e];simp only[true_iff];exact .inr ⟨e.1.symm,a,by simp,e.2.symm⟩
 ·rw[if_neg e,h p q];constructor
  ·rintro (h|⟨h1,b,hb,h2⟩)
   ·exact .inl h
   ·exact .inr ⟨h1,b,by simp[hb],h2⟩
  ·rintro (h|⟨h1,b,hb,h2⟩)
   ·exact .inl h
   ·simp only[BJ,AW,GF]at hb;rcases hb with hb|rfl
    ·exact .inr ⟨h1,b,hb,h2⟩
    ·exact absurd ⟨h1.symm,h2.symm⟩ e
theorem BZ.zero {N l x M}(h:Em N l M):BZ N l x (x.A.take 0) M:=by
 intro p q;rw[h p q];constructor
 ·exact .inl
 ·rintro (h|⟨-,b,hb,-⟩)
  ·exact h
  ·simp at hb
theorem BZ.done {N}{l:List AB}{x i M}(h:BZ N (l.take i) x x.A M)(hx:l[i]?=some x):Em N (l.take (i+1)) M:=by
 intro p q;rw[h p q,AU,hx];constructor
 ·rintro (⟨y,hy,g⟩|g)
  ·exact⟨y,by simp[hy],g⟩
  ·exact⟨x,by simp,g⟩
 ·rintro⟨y,hy,g⟩;simp only[BJ,AW,GF]at hy;rcases hy with hy|rfl
  ·exact .inl ⟨y,hy,g⟩
  ·exact .inr g
theorem Ue (N l cs idn idi)(hB:Bk N l cs)(z):AF Tryz.prog 206 [Cl N idn l idi cs] z fun r z'=>∃idu B M,r=sl idu (Z N) (Ga B (Z N) (Z N))/\AE z z'/\z.B<=B/\B+Z N<=z'.B/\CB B (Z N) M z'/\Em N l M:=by
 have bq:=EL.length E7 hB.el;have bf:=hB.len;have hN:=hB.nm;refine Z9 51 [.tmp 2] Tryz.func206 ?_
 refine zz ?_
 refine Ae (fun m s z'=>∃(k idu:Nat),m=Z N-k/\k<=Z N/\s 1=ptr z.B 0/\s 3=sl idu k (Ga (z.B+1) (Z N) k)/\s 12=ic (Z N)/\s 13=ic k/\AE z z'/\Own z z' idu k/\z'.B=z.B+1+k/\z'.C z.B=[sl idn (Z N) (N.map str),sl idi (Z l) cs]/\AD (∀i,i<k->z'.C (z.B+1+i)=Cv (Z N) fun _=>false)) (Z N)
  ⟨0,1,AA,AA,rfl,rfl,rfl,rfl,Xs,Own.nil _ _,rfl,Ao,fun i hi=>AA⟩ ?_
 rintro m s z' ⟨k,idu,rfl,hk,h1,h3,bn,bm,hK,hO,ac,az,hM⟩;have a9:=Jc (z.B+1) (Z N) k;by_cases ai:k<Z N
 ·refine qm ?_;intro yd yb
  have bl:AE z (z'.new (List.replicate (Z N) (sc (.bool false)))):=hK.new _;refine Bn (by first|exact Qy) bl (Own.new hO _) (by decide) (by rfl) (by rw[a9,Nat.mul_one]) (by rfl) (by rfl) (by decide) AA AA ?_;intro idn2 zn bi bu ae af bo a7;have bc:zn.C z.B=[sl idn (Z N) (N.map str),sl idi (Z l) cs]:=by rw[ae,Ah AA];exact az
  rw[Aa,ac]at af;refine Z3 ?_
  refine zz ?_
  refine⟨Z N-(k+1),AA,k+1,idn2,rfl,AA,by rw[qL],by simp,bi,AA,?_⟩;intro i hi
  try rw[ae]
  by_cases e:i=k
  ·subst e;rw[<-ac,Ao,K9]
  ·rw[Ah AA];exact hM.o i AA
 ·have bg:k=Z N:=AA;subst bg
  refine p7 ?_;intro h ab
  have a6:CB (z.B+1) (Z N) (fun _ _=>false) z':=hM.o;have ad:z.B+1+Z N<=z'.B:=AA;clear hM ac hO az bm bn h1
  refine Ae (fun m s z'=>∃(i:Nat) (M:Nat->Nat->Bool),m=Z l-i/\i<=Z l/\s 3=sl idu (Z N) (Ga (z.B+1) (Z N) (Z N))/\s 25=sl idi (Z l) cs/\s 26=ic (Z l)/\s 27=ic i/\AE z z'/\z.B+1+Z N<=z'.B/\AD (CB (z.B+1) (Z N) M z')/\AD (Em N (l.take i) M)) (Z l)
   ⟨0,fun _ _=>false,AA,AA,by simp[upd,h3],AG,AG,rfl,hK,ad,a6,fun p q=>by simp[mP]⟩ ?_
  clear a6 ad h3 hK h ab ai hk;rintro m s z' ⟨i,M,rfl,hi,h3,au,ap,ao,hK,ad,hM,hI⟩;have ax:=hK.B;by_cases ai:i<Z l
  ·have aa:=AJ ai;have a4:=hB.fits l[i] (AT ai);obtain⟨hm,ih,id,b,r,hb,hd⟩:=Io hB.el aa;generalize l[i]=x at hd aa a4 hb hm;have HX:AD (l[i]?=some x):=aa;clear aa;have br:=EL.length Es hb;have bp:=a4.1;have ah:=CY hm
   refine pz ?_
   have an:AE z ((z'.new [sc (.bool false),ic 0,nilS,nilS]).put z'.B [sc (.bool x.o),ic (N.idxOf x.h.B:Nat),sl ih (Z x.h.A) (A2 x.h.A),sl id (Z x.A) b]):=(hK.new _).put hK.B _;have am:=(hM.o.new ad [sc (.bool false),ic 0,nilS,nilS]).put ad [sc (.bool x.o),ic (N.idxOf x.h.B:Nat),sl ih (Z x.h.A) (A2 x.h.A),sl id (Z x.A) b];generalize a0:z'.B=o6 at an am ad
   refine Ae (fun m s z''=>∃(j:Nat) (M:Nat->Nat->Bool),m=Z x.A-j/\j<=Z x.A/\s 3=sl idu (Z N) (Ga (z.B+1) (Z N) (Z N))/\s 6=ptr o6 0/\s 25=sl idi (Z l) cs/\s 26=ic (Z l)/\s 27=ic i/\s 32=sl id (Z x.A) b/\s 33=ic (Z x.A)/\s 34=ic j/\AE z z''/\o6<z''.B/\z''.C o6=[sc (.bool x.o),ic (N.idxOf x.h.B:Nat),sl ih (Z x.h.A) (A2 x.h.A),sl id (Z x.A) b]/\AD (CB (z.B+1) (Z N) M z'')/\AD (BZ N (l.take i) x (x.A.take j) M)) (Z x.A)
    ⟨0,M,AA,AA,by simp[upd,h3],by simp[upd,a0],by simp[upd,au],by simp[upd,ap],by simp[upd,ao],AG,rfl,rfl,?_,?_,?_,?_,BZ.zero hI.o⟩ ?_
   ·exact an
   ·rw[Ab,Aa];omega
   ·rw[Ak]
   ·exact am
   clear am an hK hM hI h3 au ap ao ax M a0;rintro m s z'' ⟨j,M,rfl,hj,h3,h6,au,ap,ao,bz,bw,bv,hK,bd,aj,hM,hI⟩;have ax:=hK.B;by_cases ak:j<Z x.A
   ·have aa:=AJ ak;obtain⟨ha,ia,r2,a5⟩:=Pn hb aa;generalize x.A[j]=a at a5 aa ha;have HA:AD (x.A[j]?=some a):=aa;clear aa;have bb:=CY ha;have ba:=Jd (B:=z.B+1) (n:=Z N) (k:=Z N) ah;have be:=hM.o _ ah;have a8:=Cx (Z N) (M (N.idxOf x.h.B));have ay:=BZ.step hI.o HA.o;have av:AD _:=ay;have a3:=fun (τ:St) (hτ:CB (z.B+1) (Z N) M τ)=>CB.set (q:=N.idxOf a.B) hτ ah true;have aw:AD _:=a3;clear ay a3;generalize N.idxOf x.h.B=ph at aj ah ba be a8 av aw;generalize N.idxOf a.B=qa at a5 bb av aw
    refine pz ?_
    refine Ay Ag (fun _=>True) [10] [0,1,2,3,4,5,6,7,8,9] [10] AH (fun _ _ _ h=>h) ?_;intro yd yb;refine Z3 ?_
    refine zz ?_
    exact⟨Z x.A-(j+1),AA,j+1,_,rfl,AA,by simp,((hK.new _).put hK.B _).put AA _,AA,aw.o _ (CB.put (CB.new hM.o AA _) AA _),av.o⟩
   ·have bh:j=Z x.A:=AA;subst bh;rw[AS]at hI
    refine pz ?_
    exact⟨Z l-(i+1),AA,i+1,M,rfl,AA,by simp,AA,hM,BZ.done hI.o HX.o⟩
  ·have hil:i=Z l:=AA;subst hil;rw[AS]at hI
   refine pz ?_
   exact⟨_,rfl,idu,z.B+1,M,rfl,AA,ad,hM.o,hI.o⟩
theorem yE {n M W m i k}(h:part n M m i k W)(hv:fw M m i k=M i k):part n M m i (k+1) W:=by
 intro a b;rw[h];by_cases hc:(a<i/\b<n)\/(a=i/\b<k)
 ·rw[if_pos hc,if_pos AA]
 ·rw[if_neg hc];by_cases hd:(a<i/\b<n)\/(a=i/\b<k+1)
  ·rw[if_pos hd];have e1:a=i:=AA;have e2:b=k:=AA;rw[e1,e2,hv]
  ·rw[if_neg hd]
theorem yD {n M W m i}(h:part n M m i 0 W)(hv:M i m=false):part n M m (i+1) 0 W:=by
 intro a b;rw[h];by_cases hc:(a<i/\b<n)\/(a=i/\b<0)
 ·rw[if_pos hc,if_pos AA]
 ·rw[if_neg hc];by_cases hd:(a<i+1/\b<n)\/(a=i+1/\b<0)
  ·rw[if_pos hd];have e1:a=i:=AA;rw[e1];simp[fw,hv]
  ·rw[if_neg hd]
theorem Pv (N l cs idn idi)(hB:Bk N l cs)(z):AF Tryz.prog 175 [Cl N idn l idi cs] z fun r z'=>∃idu B M,r=sl idu (Z N) (Ga B (Z N) (Z N))/\AE z z'/\z.B<=B/\B+Z N<=z'.B/\CB B (Z N) (Hw (Z N) M (Z N)) z'/\Em N l M:=by
 have hN:=hB.nm;refine Z9 49 [.tmp 2] Tryz.func175 ?_
 refine qb ?_;intro yd yb;refine Xi (Ue N l cs idn idi hB _) ?_;rintro _ _ ⟨idu,B,M0,rfl,ba,bb,ah,av,ax⟩;(rw[Aa]at bb);refine pz ?_
 rename_i z1;have az:AD (Em N l M0):=ax;clear ax;have bg:=Jc B (Z N) (Z N);have aw:AE z z1:=Xs;clear ba
 refine Ae (fun q s z'=>∃m:Nat,q=Z N-m/\m<=Z N/\s 3=sl idu (Z N) (Ga B (Z N) (Z N))/\s 10=ic (Z N)/\s 11=ic m/\AE z z'/\B+Z N<=z'.B/\AD (CB B (Z N) (Hw (Z N) M0 m) z')) (Z N)
  ⟨0,AA,AA,rfl,rfl,rfl,aw,ah,av⟩ ?_
 clear aw av ah;rintro q s z' ⟨m,rfl,hm,h3,ae,ad,hK,ac,hM⟩;by_cases aj:m<Z N
 ·generalize au:Hw (Z N) M0 m=M at hM;have bd:AD _:=au;clear au
  refine pz ?_
  refine Ae (fun q s z'=>∃(i:Nat) (W:Nat->Nat->Bool),q=Z N-i/\i<=Z N/\s 3=sl idu (Z N) (Ga B (Z N) (Z N))/\s 4=ic m/\s 10=ic (Z N)/\s 11=ic m/\s 15=ic (Z N)/\s 16=ic i/\AE z z'/\B+Z N<=z'.B/\AD (CB B (Z N) W z')/\AD (part (Z N) M m i 0 W)) (Z N)
   ⟨0,M,AA,AA,by simp[upd,h3],AG,by simp[upd,ae],by simp[upd,ad],rfl,rfl,hK,ac,hM,dA⟩ ?_
  clear hK ac hM h3 ae ad;rintro q s z' ⟨i,W,rfl,hi,h3,h4,ae,ad,an,am,hK,ac,hM,hW⟩;by_cases ab:i<Z N
  ·have bh:=Jd (B:=B) (n:=Z N) (k:=Z N) ab;have a7:=hM.o _ ab;have a4:=Cx (Z N) (W i);have af:=Fy (W i) aj;obtain⟨-,v2,-⟩:=W6 hW.o (by omega:0<Z N) aj;rw[v2]at af;have bc:AD _:=v2;clear v2
   refine qe ?_ ?_<;>intro h aa
   ·exact⟨Z N-(i+1),AA,i+1,W,rfl,AA,by simp,hM,yD hW.o h⟩
   ·have ak:M i m=true:=h
    refine Ae (fun q s z'=>∃(k:Nat) (W:Nat->Nat->Bool),q=Z N-k/\k<=Z N/\s 3=sl idu (Z N) (Ga B (Z N) (Z N))/\s 4=ic m/\s 5=ic i/\s 10=ic (Z N)/\s 11=ic m/\s 15=ic (Z N)/\s 16=ic i/\s 28=ic (Z N)/\s 29=ic k/\AE z z'/\B+Z N<=z'.B/\AD (CB B (Z N) W z')/\AD (part (Z N) M m i k W)) (Z N)
     ⟨0,W,AA,AA,by simp[upd,h3],by simp[upd,h4],AG,by simp[upd,ae],by simp[upd,ad],by simp[upd,an],by simp[upd,am],rfl,rfl,hK,ac,hM,hW⟩ ?_
    clear hK ac hM hW h3 h4 ae ad an am af a4 a7 bc h W;rintro q s z' ⟨k,W,rfl,hk,h3,h4,h5,ae,ad,an,am,bl,bi,hK,ac,hM,hW⟩;by_cases ai:k<Z N
    ·obtain⟨-,-,v3⟩:=W6 hW.o ai aj;have bf:=Jd (B:=B) (n:=Z N) (k:=Z N) aj;have a6:=hM.o _ ab;have a5:=hM.o _ aj;have a3:=Cx (Z N) (W i);have a0:=Cx (Z N) (W m);have af:=Fy (W m) ai;rw[v3]at af;clear v3;have ao:=CB.set (q:=k) hM.o ab true;have be:AD _:=ao;clear ao;generalize ap:M m k=vk at af;have ay:AD _:=ap;clear ap;cases vk with
     |true=>
      refine pz ?_
      exact⟨Z N-(k+1),AA,k+1,_,rfl,AA,by simp,hK.put AA _,be.o,mA hW.o (by simp[fw,ak,ay.o])⟩
     |false=>
      refine pz ?_
      exact⟨Z N-(k+1),AA,k+1,W,rfl,AA,by simp,hM,yE hW.o (by simp[fw,ay.o])⟩
    ·have a9:k=Z N:=AA;subst a9
     refine pz ?_
     exact⟨Z N-(i+1),AA,i+1,W,rfl,AA,by simp,hM,mB hW.o⟩
  ·have hil:i=Z N:=AA;subst hil
   refine pz ?_
   refine⟨Z N-(m+1),AA,m+1,rfl,AA,by simp,?_⟩;rw[AD,show Hw (Z N) M0 (m+1)=W by rw[mC hW.o,<-bd.o];rfl];exact hM.o
 ·have a8:m=Z N:=AA;subst a8
  refine pz ?_
  first
  |exact⟨_,rfl,idu,B,M0,rfl,hK,AA,ac,hM.o,az.o⟩
  |exact⟨_,rfl,idu,B,M0,rfl,AA,ac,hM.o,az.o⟩
def OW (N:List Tx)(U:Nat->Nat->Bool)(h:Tx)(a:AC):Bool:=a.nt&&(((N.idxOf a.B:Nat):Int)==((N.idxOf h:Nat):Int)||U (N.idxOf a.B) (N.idxOf h))
def cX (N:List Tx)(l:List AB)(U:Nat->Nat->Bool)(i:Nat):Bool:=match l[i]? with|some x=>x.A.any (OW N U x.h.B)|none=>false
theorem aC (N l cs idn idi)(hB:Bk N l cs)(z):AF Tryz.prog 123 [Cl N idn l idi cs] z fun r z'=>∃M,Em N l M/\r=ic (Bf (cX N l (Hw (Z N) M (Z N))) (Z l))/\AE z z':=by
 have bf:=EL.length E7 hB.el;have ba:=hB.len;have hN:=hB.nm;refine Z9 52 [.tmp 2] Tryz.func123 ?_
 refine qb ?_;intro yd yb;refine Xi (Pv N l cs idn idi hB _) ?_;rintro _ _ ⟨idu,B,M0,rfl,au,bc,ah,ap,a6⟩;(rw[Aa]at bc;have aj:=au.C;have ae:=au.B;(try simp only[Aa,Ab,Av]at ae));refine pz ?_
 rename_i z1;have ay:AD (Em N l M0):=a6;clear a6 aj;have be:=Jc B (Z N) (Z N);have a5:AE z z1:=Xs;clear au;generalize hU:Hw (Z N) M0 (Z N)=U at ap;have HU:AD _:=hU;clear hU
 refine Ae (fun m s z'=>∃i:Nat,m=Z l-i/\i<=Z l/\s 3=sl idu (Z N) (Ga B (Z N) (Z N))/\s 13=sl idi (Z l) cs/\s 14=ic (Z l)/\s 15=ic i/\AE z z'/\B+Z N<=z'.B/\AD (CB B (Z N) U z')/\AD (∀j,j<i->cX N l U j=false)) (Z l)
  ⟨0,AA,AA,AG,AG,AG,rfl,a5,ah,ap,fun j hj=>AA⟩ ?_
 clear a5 ap ah ae;rintro m s z' ⟨i,rfl,hi,h3,ax,aw,av,hK,ad,hM,ai⟩;have az:=hK.B;by_cases ao:i<Z l
 ·have aa:=AJ ao;have a3:=hB.fits l[i] (AT ao);obtain⟨hm,ih,id,b,r,hb,hd⟩:=Io hB.el aa;generalize l[i]=x at hd aa a3 hb hm;have hv:AD (cX N l U i=x.A.any (OW N U x.h.B)):=by rw[AD,cX,aa]
  clear aa;have bg:=EL.length Es hb;have bd:=a3.1;have a0:=CY hm
  refine pz ?_
  refine Ae (fun m s z''=>∃j:Nat,m=Z x.A-j/\j<=Z x.A/\s 3=sl idu (Z N) (Ga B (Z N) (Z N))/\s 4=ic i/\s 6=ic (N.idxOf x.h.B:Nat)/\s 13=sl idi (Z l) cs/\s 14=ic (Z l)/\s 15=ic i/\s 24=sl id (Z x.A) b/\s 25=ic (Z x.A)/\s 26=ic j/\AE z z''/\B+Z N<=z''.B/\AD (CB B (Z N) U z'')/\AD ((x.A.take j).any (OW N U x.h.B)=false)) (Z x.A)
   ⟨0,AA,AA,by simp[upd,h3],AG,AG,by simp[upd,ax],by simp[upd,aw],by simp[upd,av],AG,rfl,rfl,(hK.new _).put hK.B _,BM,CB.put (CB.new hM.o ad _) ad _,by simp[AD]⟩ ?_
  clear hK hM ad h3 ax aw av az;rintro m s z'' ⟨j,rfl,hj,h3,h4,h6,ax,aw,av,bl,bi,bh,hK,ad,hM,ab⟩;have az:=hK.B;by_cases an:j<Z x.A
  ·have aa:=AJ an;obtain⟨ha,ia,r2,a4⟩:=Pn hb aa;generalize x.A[j]=a at a4 aa ha;have HA:AD (x.A[j]?=some a):=aa;clear aa;have am:=CY ha;have a8:=Jd (B:=B) (n:=Z N) (k:=Z N) am;have a9:=hM.o _ am;have a7:=Cx (Z N) (U (N.idxOf a.B));have ak:=Fy (U (N.idxOf a.B)) a0;have af:AD (OW N U x.h.B a=(a.nt&&(((N.idxOf a.B:Nat):Int)==((N.idxOf x.h.B:Nat):Int)||U (N.idxOf a.B) (N.idxOf x.h.B)))):=rfl;generalize hu:U (N.idxOf a.B) (N.idxOf x.h.B)=uu at ak af;clear hu;generalize N.idxOf a.B=pa at a4 am a8 a9 a7 ak af;generalize N.idxOf x.h.B=ph at h6 ak af a0
   repeat' first|refine Z1 ?_|refine Z8 fun yd yb=>?_|refine Z4 ?_;clear yb yd|refine Z2 ?_ ?_<;>intro h ac<;>try exact Xp|refine Z3 ?_|exact Zt|apply yb.o;clear yb yd
   all_goals
    first
    |(refine⟨_,rfl,M0,ay.o,?_,(hK.new _).put hK.B _⟩
      rw[HU.o,Gx ao (by rw[hv.o];exact Ek _ HA.o (by rw[af.o];simp[*])) ai.o])
    |(refine⟨Z x.A-(j+1),AA,j+1,rfl,AA,by simp,(hK.new _).put hK.B _,AA,CB.put (CB.new hM.o ad _) ad _,?_⟩
      rw[AD,any_take_succ _ HA.o,ab.o,af.o];simp[*])
  ·have bb:j=Z x.A:=AA;subst bb;rw[AS]at ab
   refine pz ?_
   exact⟨Z l-(i+1),AA,i+1,rfl,AA,by simp,Lr ai.o (by rw[hv.o];exact ab.o)⟩
 ·have hil:i=Z l:=AA;subst hil
  refine pz ?_
  first
  |exact⟨_,rfl,M0,ay.o,by rw[HU.o,Ch ai.o],hK⟩
  |exact⟨_,rfl,M0,ay.o,by rw[HU.o,Ch ai.o]⟩
def VT (w:Tx):Prop:=(∃b,w=[b]/\Bw b.toNat=true)\/(w≠[]/\∀b∈w,A8 b.toNat=true)
def VA (a:AC):Prop:=∀w∈a.A,VT w
theorem mE {s r w}(h:Cu s= .got w r):VT w:=by
 cases s with
 |nil=>cases h
 |cons b q=>
  unfold Cu at h;dsimp only at h;split at h
  ·rename_i hl;cases h;exact .inl ⟨b,rfl,hl⟩
  split at h
  ·rename_i h0;cases h;refine .inr ⟨by simp,fun c hc=>?_⟩;simp at hc;subst hc;rw[CE];exact .inr h0
  split at h
  ·rename_i h9;cases h;refine .inr ⟨by simp,fun c hc=>?_⟩;rcases BB.1 hc with rfl|hc
   ·rw[CE];exact .inl h9
   ·exact (Ew A8 2 q).2 c hc
  ·cases h
theorem Oh {α:Type}{f}{P:α->Prop}(hf:∀s x r,f s= .got x r->P x):∀(n:Nat) (s:Tx) (xs:List α) (r:Tx),Ef f n s= .got xs r->∀x∈xs,P x
 |0,s,xs,r,h=>by unfold Ef at h;cases h;simp
 |n+1,[],xs,r,h=>by unfold Ef at h;cases h;simp
 |n+1,b::q,xs,r,h=>by
  unfold Ef at h;split at h
  ·obtain⟨x,q1,h1,h2⟩:=A6 h;obtain⟨ys,q2,h3,h4⟩:=A6 h2;cases h4;intro y hy;rcases BB.1 hy with rfl|hy
   ·exact hf _ _ _ h1
   ·exact Oh hf n _ _ _ h3 y hy
  ·cases h;simp
theorem K2 {T:Tx->Prop}(hT:∀s w r,Cu s= .got w r->T w){nt s r a}(h:Du nt s= .got a r):∀w∈a.A,T w:=by
 unfold Du X4 at h;obtain⟨p,q1,-,h⟩:=A6 h;obtain⟨u,q2,-,h⟩:=A6 h;obtain⟨w,q3,h1,h⟩:=A6 h;obtain⟨ws,q4,h2,h⟩:=A6 h;obtain⟨u2,q5,-,h⟩:=A6 h;cases h;intro y hy;rcases BB.1 hy with rfl|hy
 ·exact hT _ _ _ h1
 ·exact Oh hT _ _ _ _ h2 y hy
theorem mJ {T:Tx->Prop}(hT:∀s w r,Cu s= .got w r->T w){s r a}(h:Kx s= .got a r):∀w∈a.A,T w:=by rw[vW]at h;exact K2 hT h
theorem yF {T:Tx->Prop}(hT:∀s w r,Cu s= .got w r->T w){s r x}(h:Gb s= .got x r):∀a∈Af x,∀w∈a.A,T w:=by
 rw[mK]at h;split at h
 ·unfold fT at h;obtain⟨p,q1,-,h⟩:=A6 h;obtain⟨u,q2,-,h⟩:=A6 h;cases h;simp[Af]
 ·unfold Pg at h;obtain⟨a,q1,h1,h⟩:=A6 h;rw[mG]at h;split at h
  ·cases h;intro y hy;simp[Af]at hy;subst hy;exact K2 hT h1
  ·obtain⟨u,q2,-,h⟩:=A6 h;obtain⟨ls,q3,h3,h⟩:=A6 h;obtain⟨u2,q4,-,h⟩:=A6 h;cases h;intro y hy;simp[Af]at hy;rcases hy with rfl|hy
   ·exact K2 hT h1
   ·unfold Ex Uk at h3;obtain⟨l,q5,h5,h3⟩:=A6 h3;obtain⟨ls2,q6,h6,h3⟩:=A6 h3;cases h3;rcases BB.1 hy with rfl|hy
    ·exact mJ hT h5
    ·exact Oh (fun _ _ _ h=>mJ hT h) _ _ _ _ h6 y hy
theorem Lo {T:Tx->Prop}(hT:∀s w r,Cu s= .got w r->T w):∀(n:Nat) (s:Tx) (l:List AB) (r:Tx),Bv n s= .got l r->∀x∈l,∀a∈Af x,∀w∈a.A,T w
 |n,[],l,r,h=>by rw[Xz]at h;cases h;simp
 |0,b::q,l,r,h=>by rw[Tz]at h;cases h
 |n+1,b::q,l,r,h=>by
  rw[Nj]at h;obtain⟨x,q1,h1,h⟩:=A6 h;obtain⟨xs,q2,h2,h⟩:=A6 h;cases h;intro y hy;rcases BB.1 hy with rfl|hy
  ·exact yF hT h1
  ·exact Lo hT n _ _ _ h2 y hy
theorem Sx (n s l r)(h:Bv n s= .got l r):∀x∈l,∀a∈Af x,VA a:=Lo (T:=VT) (fun _ _ _ h=>mE h) n s l r h
theorem Rt {w}(h:VT w):(Ap w).1=Ac w:=by
 rcases h with⟨b,rfl,hl⟩|⟨hn,hd⟩
 ·rw[E3 hl];simp[Ac,hl]
 ·cases w with
  |nil=>exact absurd rfl hn
  |cons b r=>
   have hb:=hd b (by simp);have hl:Bw b.toNat=false:=by
    cases hl:Bw b.toNat with
    |false=>rfl
    |true=>simp[A8]at hb;simp[Bw]at hl;omega
   rw[Nr hl];simp[Ac,hl]
theorem RO {u t}(hu:VT u)(ht:VT t)(hv:Ac t=true):Qf (Ap t).2 u=(u==t):=by
 obtain⟨b,rfl,hl⟩:∃b,t=[b]/\Bw b.toNat=true:=by
  rcases ht with h|⟨hn,hd⟩
  ·exact h
  ·exfalso;cases t with
   |nil=>exact hn rfl
   |cons b r=>
    have hb:=hd b (by simp);simp[Ac]at hv;simp[A8]at hb;simp[Bw]at hv;omega
 rw[E3 hl];unfold Qf;rcases hu with⟨c,rfl,hc⟩|⟨hn,hd⟩
 ·rw[E3 hc];simp only[ID];by_cases e:c=b
  ·subst e;simp
  ·have:(c.toNat:Int)≠b.toNat:=fun h=>e (KF.1 AA);have h1:((c.toNat:Int)-65==(b.toNat:Int)-65)=false:=by simp;omega
   have h2:(([c]:Tx)==[b])=false:=by simpa using e
   rw[h1,h2]
 ·have h1:(Ap u).1=false:=by
   rw[Rt (.inr ⟨hn,hd⟩)];cases u with
   |nil=>rfl
   |cons c r=>
    have hb:=hd c (by simp);cases hv:Ac (c::r)with
    |false=>rfl
    |true=>simp[Ac,Bw]at hv;simp[A8]at hb;omega
  have h2:(u==[b])=false:=by
   simp;rintro rfl;have:=hd b (by simp);simp[A8]at this;simp[Bw]at hl;omega
  rw[h1,h2];rfl
theorem E5 {α:Type}{l:List α}{p q}(h:∀a∈l,p a=q a):l.any p=l.any q:=by
 induction l with
 |nil=>rfl
 |cons a l ih=>simp only[List.any_cons];rw[h a (by simp),ih (fun b hb=>h b (by simp[hb]))]
theorem ny {x}(hV:∀a∈Af x,VA a){t}(ht:VT t)(hv:Ac t=true):Gi x (Ap t).2=Iu x t:=by
 unfold Gi Iu;apply E5;intro a ha;have hA:VA a:=hV a (by unfold Af;simp[ha]);cases hn:a.nt with
 |true=>simp
 |false=>
  simp only[JU,ID];exact E5 fun u hu=>RO (hA u hu) ht hv
theorem Uw {x}(hV:∀a∈Af x,VA a):Gg x=Dx x:=by
 unfold Gg Dx;congr 1;apply E5;intro a ha;unfold oF Te;apply E5;intro w hw;have hA:=hV a ha w hw;rw[Rt hA];cases hv:Ac w with
 |false=>rfl
 |true=>rw[ny hV hA hv]
theorem Rq {p q n}(h:∀i,i<n->p i=q i):Bf p n=Bf q n:=by
 have e:(List.range n).find? p=(List.range n).find? q:=by
  have hm:∀i∈List.range n,p i=q i:=fun i hi=>h i (by simpa using hi);generalize List.range n=l at hm;induction l with
  |nil=>rfl
  |cons a l ih=>simp only[List.find?_cons];rw[hm a (by simp),ih (fun b hb=>hm b (by simp[hb]))]
 unfold Bf;rw[e]
theorem xC {N l}(hN:∀x∈l,x.h.B∈N/\∀a∈x.A,a.B∈N){i j}(h:Way (mP N l) i j):∃p q,p∈N/\q∈N/\N.idxOf p=i/\N.idxOf q=j/\Way (H2 l) p q:=by
 induction h with
 |one e=>
  obtain⟨x,hx,h1,a,ha,h2⟩:=e;exact⟨x.h.B,a.B,(hN x hx).1,(hN x hx).2 a ha,h1,h2,.one ⟨x,hx,rfl,a,ha,rfl⟩⟩
 |more e _ ih=>
  obtain⟨x,hx,h1,a,ha,h2⟩:=e;obtain⟨p,q,hp,hq,e1,e2,w⟩:=ih;have:a.B=p:=Eh ((hN x hx).2 a ha) hp AA;subst this;exact⟨x.h.B,q,(hN x hx).1,hq,h1,e2,.more ⟨x,hx,rfl,a,ha,rfl⟩ w⟩
theorem pR {N l p q}(h:Way (H2 l) p q):Way (mP N l) (N.idxOf p) (N.idxOf q):=by
 induction h with
 |one e=>
  obtain⟨x,hx,rfl,a,ha,rfl⟩:=e;exact .one ⟨x,hx,rfl,a,ha,rfl⟩
 |more e _ ih=>
  obtain⟨x,hx,rfl,a,ha,rfl⟩:=e;exact .more ⟨x,hx,rfl,a,ha,rfl⟩ ih
theorem Way.map' {α:Type}{E F:α->α->Prop}(h:∀a b,E a b->F a b){a b}(w:Way E a b):Way F a b:=by
 induction w with
 |one e=>exact .one (h _ _ e)
 |more e _ ih=>exact .more (h _ _ e) ih
theorem ll {N l M}(hN:∀x∈l,x.h.B∈N/\∀a∈x.A,a.B∈N)(ho:∀x∈l,x.o=true->x.A=[])(hM:Em N l M){p q}(hp:p∈N)(hq:q∈N)(hy:∃y∈l,y.o=false/\y.h.B=q):
  Hw (Z N) M (Z N) (N.idxOf p) (N.idxOf q)=Tr l p q:=by
 have hS:OB (Z N) M:=by
  intro a b ac;obtain⟨x,hx,rfl,c,hc,rfl⟩:=(hM a b).1 ac;exact⟨CY (hN x hx).1,CY ((hN x hx).2 c hc)⟩
 rw[KL,gK hS,Oa ho hy];constructor
 ·intro w;obtain⟨p',q',ab,aa,e1,e2,w'⟩:=xC hN (w.map' fun a b h=>(hM a b).1 h);rw[<-Eh ab hp e1,<-Eh aa hq e2];exact w'
 ·intro w;exact (pR w).map' fun a b h=>(hM a b).2 h
theorem eR {N}:∀{l:List AC} {cs:List AV},EL (PL N) l cs->∀a∈l,a.B∈N
 |[],cs,h,a,ha=>by cases ha
 |b::l,cs,⟨c,d,hc,hd,e⟩,a,ha=>by
  rcases BB.1 ha with rfl|ha
  ·exact hc.1
  ·exact eR hd a ha
theorem Tp {N}:∀{l:List AB} {cs:List AV},EL (PI N) l cs->∀x∈l,x.h.B∈N/\∀a∈x.A,a.B∈N
 |[],cs,h,a,ha=>by cases ha
 |b::l,cs,⟨c,d,hc,hd,e⟩,a,ha=>by
  rcases BB.1 ha with rfl|ha
  ·obtain⟨hm,ih,id,bb,hb,-⟩:=hc;exact⟨hm,eR hb⟩
  ·exact Tp hd a ha
theorem fq {N l cs M}(hB:Bk N l cs)(hM:Em N l M):Bf (cX N l (Hw (Z N) M (Z N))) (Z l)=Bf (Gc l) (Z l):=by
 have hN:=Tp hB.el;apply Rq;intro i hi;unfold cX Gc;rw[AJ hi];dsimp only;have hx:=AT hi;generalize l[i]=x at hx;apply E5;intro a ha;unfold OW tF;have ho:x.o=false:=by
  cases h:x.o with
  |false=>rfl
  |true=>rw[hB.o x hx h]at ha;cases ha
 rw[ll hN hB.o hM ((hN x hx).2 a ha) (hN x hx).1 ⟨x,hx,ho,rfl⟩];congr 2;rw[KL];simp only[EH];constructor
 ·intro e;exact Eh ((hN x hx).2 a ha) (hN x hx).1 AA
 ·intro e;rw[e]
theorem xH {l}(hV:∀x∈l,∀a∈Af x,VA a):Bf (Of l) (Z l)=Bf (Df l) (Z l):=by
 apply Rq;intro i hi;unfold Of Df;rw[AJ hi];dsimp only;rw[Uw (hV _ (AT hi))]
theorem Yj (N l cs idn idi)(hB:Bk N l cs)(hV:∀x∈l,∀a∈Af x,VA a)(z):AF Tryz.prog 71 [Cl N idn l idi cs] z fun r z'=>r=two (Cn l)/\AE z z':=by
 have g1:=@K6 (Gm l) (Z l);have g2:=@K6 (Df l) (Z l);have g3:=@K6 (Gc l) (Z l);have hU:=xH hV;have ab:=S8 N l cs idn idi hB;rw[hU]at ab;have aj:∀z,AF Tryz.prog 123 [Cl N idn l idi cs] z fun r z'=>r=ic (Bf (Gc l) (Z l))/\AE z z':=fun z=>by
  refine AF.mono (aC N l cs idn idi hB z) ?_;rintro _ _ ⟨M,hM,rfl,hK⟩;exact⟨by rw[fq hB hM],hK⟩
 clear hU;refine Z9 20 [.tmp 2,.tmp 3] Tryz.func71 ?_
 repeat' first|refine Z1 ?_|refine Z8 fun yd yb=>?_|refine Z4 ?_;clear yb yd|refine Z2 ?_ ?_<;>intro h ai<;>try exact Xp|(refine Z5 ?_;first|(refine Xi (Up N l cs idn idi hB _) ?_;rintro _ _ ⟨rfl,ad⟩;(have af:=ad.C;have aa:=ad.B;(try simp only[Aa,Ab,Av]at aa)))|(refine Xi (ab _) ?_;rintro _ _ ⟨rfl,ac⟩;(have ae:=ac.C;have ah:=ac.B))|(refine Xi (aj _) ?_;rintro _ _ ⟨rfl,ak⟩))|refine Z3 ?_|exact Zt|apply yb.o;clear yb yd
 ·have e1:Bf (Gm l) (Z l)≠ -1:=by simpa using h
  exact⟨_,rfl,by unfold Cn;rw[if_pos AA],Xs⟩
 ·have e1:Bf (Gm l) (Z l)= -1:=by simpa using (show (Bf (Gm l) (Z l) != -1)=false by assumption)
  have e2:Bf (Df l) (Z l)≠ -1:=by simpa using h
  exact⟨_,rfl,by unfold Cn;rw[if_neg AA,if_pos AA],Xs⟩
 ·have e1:Bf (Gm l) (Z l)= -1:=by simpa using (show (Bf (Gm l) (Z l) != -1)=false by assumption)
  have e2:Bf (Df l) (Z l)= -1:=by simpa using (show (Bf (Df l) (Z l) != -1)=false by assumption)
  have e3:Bf (Gc l) (Z l)≠ -1:=by simpa using h
  exact⟨_,rfl,by unfold Cn;rw[if_neg AA,if_neg AA,if_pos AA],Xs⟩
 ·have e1:Bf (Gm l) (Z l)= -1:=by simpa using (show (Bf (Gm l) (Z l) != -1)=false by assumption)
  have e2:Bf (Df l) (Z l)= -1:=by simpa using (show (Bf (Df l) (Z l) != -1)=false by assumption)
  have e3:Bf (Gc l) (Z l)= -1:=by simpa using h
  exact⟨_,rfl,by unfold Cn;rw[if_neg AA,if_neg AA,if_neg AA],Xs⟩
theorem YH {N l cs}(hE:EL (PI N) l cs)(hl:Z l<=16)(hW:∀x∈l,De x)(hN:Z N<=2000):Bk N l cs:=by
 refine⟨hE,hl,fun x hx=>?_,fun x hx ho=>((hW x hx).2.1 ho).2.2,hN,fun x hx a ha=>?_⟩
 ·obtain⟨-,h2,h3⟩:=hW x hx;cases ho:x.o with
  |true=>
   obtain⟨-,q1,q2⟩:=h2 ho;exact⟨by simp[q2],by simp[q1],by simp[q2]⟩
  |false=>
   obtain⟨q1,-,q2,q3⟩:=h3 ho;have:=q1.2.2.1;exact⟨AA,AA,fun a ha=>by have:=(q3 a ha).2.2.1;omega⟩
 ·obtain⟨-,h2,h3⟩:=hW x hx;unfold Af at ha;cases ho:x.o with
  |true=>
   obtain⟨-,q1,q2⟩:=h2 ho;simp[ho,q2]at ha
  |false=>
   obtain⟨q1,-,q2,q3⟩:=h3 ho;simp[ho]at ha;have hp:D3 a->0<Z a.A:=fun w=>by
    have:=w.2.1;cases hh:a.A with
    |nil=>exact absurd hh this
    |cons y ys=>simp
   rcases ha with rfl|ha
   ·exact hp q1
   ·exact hp (q3 a ha)
theorem iN {l}(h:(Cn l).1=0):Cn l=(0,0):=by
 unfold Cn at h⊢;split
 ·rename_i h1;rw[if_pos h1]at h;cases h
 ·rename_i h1;rw[if_neg h1]at h;split
  ·rename_i h2;rw[if_pos h2]at h;cases h
  ·rename_i h2;rw[if_neg h2]at h;split
   ·rename_i h3;rw[if_pos h3]at h;cases h
   ·rfl
def SS (t:Tx)(n1:Nat)(c1:List AV)(n2:Nat)(c2:List AV):Prop:=
 ∃N l,Bv 16 t= .got l []/\Bk N l c2/\n1=Z N/\c1=N.map str/\n2=Z l/\(∀x∈l,∀a∈Af x,VA a)/\∀x∈l,De x
theorem rQ (t z):AF Tryz.prog 37 [str t] z fun r z'=>∃idn n1 c1 idi n2 c2,r=tp [ag [sl idn n1 c1,sl idi n2 c2],ic (Au t).1,ic (Au t).2]/\AE z z'/\((Au t).1=0->n1<=600/\SS t n1 c1 n2 c2):=by
 refine Z9 41 [.cell 2 62,.tmp 3,.tmp 4] Tryz.func37 ?_;by_cases hL:600<Z t
 ·have ad:Au t=(1,0):=by unfold Au;rw[if_pos hL]
  have ac:AD _:=ad;clear ad
  refine pz ?_
  refine⟨_,rfl,1,0,[],1,0,[],by rw[ac.o],Xs,by rw[ac.o];intro h;simp at h⟩
 ·have aa:=F1 t;have ht:Z t<=1000:=AA;have ap:RS 0 t (z.B+1) [] 1 t (((z.new [nilS,nilS]).new [str [],ic 0,nilS]).put (z.B+1) [str t,ic 0,nilS]):=by
   refine⟨?_,Nat.lt_succ_self _,.inl ⟨rfl,rfl⟩,List.suffix_refl _,by simp⟩;rw[Ak];simp[Pb,cU]
  have hR:=lL ht ap;have an:AE z (((z.new [nilS,nilS]).new [str [],ic 0,nilS]).put (z.B+1) [str t,ic 0,nilS]):=(((AE.refl z).new _).new _).put AA _;cases hp:Bv 16 t with
  |bad e=>
   rw[hp]at hR aa;dsimp only at aa;have ad:Au t=(2,((Z t-Z e:Nat):Int)):=by
    unfold Au;rw[if_neg hL,aa,if_pos (KG _)]
   have ac:AD _:=ad;have HR:AD _:=hR;have ao:AD _:=an;clear ad aa ap hR hp an
   refine qb ?_;intro yd yb;refine Xi (HR.o) ?_;rintro _ _ ⟨n,ids,c,N',id',rfl,ae,ak,a4,ax⟩;(have af:=ae.keep.C;have ah:=ae.keep.B;(try simp only[Aa,Ab,Av]at ah));refine pz ?_
   rename_i z1;have ab:=ak.C;unfold Pb cU at ab;simp only[Rd.rest]at ab;have a3:z1.C z.B=[nilS,nilS]:=by
    rw[af _ BM AA,Aj AA,Ah (by rw[Aa];omega),Ao]
   have ai:AE z z1:=BA.keep ao.o ae.keep AA (.inl AA);clear af;refine Ay Ag (fun p=>p=z.B+1) [5] [0,1,2] [3,4,5] AH (fun _ _ _ h=>h) ?_;intro yd yb;have aw:∀i,Kept (fun j=>!([5]:List Nat).contains j) (fun p=>p=z.B+1) z1 i (z1.put z.B [nilS,nilS]):=fun i _ p hp hF=>by
    subst hF;simp[St.put]
   refine Z3 ?_;refine⟨fun p h=>h.elim,fun p h=>h.elim,fun p h=>by cases h;rfl,?_⟩
   try (refine And.intro (aw _) ?_)
   try (refine And.intro (aw _) ?_)
   refine zz ?_
   refine⟨_,rfl,1,0,[],1,0,[],by rw[ac.o],ai.put (AR _) _,by rw[ac.o];intro h;simp at h⟩
  |got l r=>
   rw[hp]at hR aa;dsimp only at aa;obtain⟨p1,p2,p3,p4⟩:=Dd ht hp;have av:=Sx _ _ _ _ hp;have az:=(Ey _ _ _ _ hp).2.1;subst az;have ad:Au t=Cn l:=by
    unfold Au;rw[if_neg hL,aa,if_neg AA,p2]
   have ac:AD _:=ad;have HR:AD _:=hR;have ao:AD _:=an;have HP:AD _:=hp;clear ad aa ap hR hp an p2 p1
   repeat' first|refine Z1 ?_|refine Z8 fun yd yb=>?_|refine Z4 ?_;clear yb yd|refine Z2 ?_ ?_<;>intro h aj<;>try exact Xp|(refine Z5 ?_;first|(refine Xi (HR.o) ?_;rintro _ _ ⟨n,ids,c,N',id',rfl,ae,ak,a4,ax⟩;(have af:=ae.keep.C;have ah:=ae.keep.B;(try simp only[Aa,Ab,Av]at ah);have ab:=ak.C;unfold Pb cU at ab;obtain⟨rfl,a5⟩:n=Z l/\EL (PI N') l c:=ax;have ay:=YH a5 p3 p4 (by have:=ak.len;omega)))|(refine Xi (Yj N' l c id' ids ay av _) ?_;rintro _ _ ⟨rfl,am⟩;(have kobf:=am.C;have knof:=am.B;(try simp only[Aa,Ab,Av]at knof))))|refine Z3 ?_|exact Zt|apply yb.o;clear yb yd
   ·rename_i z1 a0 _ z2;have ai:AE z z1:=BA.keep ao.o ae.keep AA (.inl AA);have au:=(((ai.new [nilS,nilS]).put ai.B _).trans am);exact⟨_,rfl,1,0,[],1,0,[],by rw[ac.o],au.put (AR _) _,by rw[ac.o];intro h0;simp[h0]at h⟩
   ·rename_i z1 a0 _ z2;have ai:AE z z1:=BA.keep ao.o ae.keep AA (.inl AA);have au:=(((ai.new [nilS,nilS]).put ai.B _).trans am);have hw:=iN (l:=l) (by simpa using h);exact⟨_,rfl,id',Z N',N'.map str,ids,Z l,c,by rw[ac.o,hw],au.put (AR _) _,fun _=>⟨by have:=ak.len;simp only[Rd.rest,CP]at this;omega,N',l,HP.o,ay,rfl,rfl,rfl,av,p4⟩⟩
theorem yW (t z):AF Tryz.prog 37 [str t] z fun r z'=>∃idn n1 c1 idi n2 c2,r=tp [ag [sl idn n1 c1,sl idi n2 c2],ic (Au t).1,ic (Au t).2]/\AE z z'/\((Au t).1=0->SS t n1 c1 n2 c2):=
 AF.mono (rQ t z) fun r z' ⟨idn,n1,c1,idi,n2,c2,h1,h2,h3⟩=>⟨idn,n1,c1,idi,n2,c2,h1,h2,fun h=>(h3 h).2⟩
end Go.Proofs.YtmoeoppbmhfbpabGreatDoorI
