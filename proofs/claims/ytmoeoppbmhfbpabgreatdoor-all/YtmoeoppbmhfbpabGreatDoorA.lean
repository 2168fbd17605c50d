import Derived.WalkKit
import Derived.Orders
import GoSem.ClaimWide
import Derived.Lib.LaidTab
import Derived.Lib.ItoaNum
import Derived.Test.YtmoeoppbmhfbpabGreatDoorProg
import Derived.LoopN
import Derived.OrdersHeld
import Derived.KernelRfl
set_option maxRecDepth 100000
set_option linter.all false
open List
open List renaming length->Z
namespace Go.Abs
def Xv {a b:Prop}(x:a)(y:b):a/\b:=⟨x,y⟩
def gp {p:Prop}(h:p:=by grind):p:=h
def jx {p:Prop}(h:p:=by simp_all):p:=h
def L {p:Prop}(h:p:=by omega):p:=h
def AU:=@Nat.le_refl
def BI:=@Nat.le_trans
def BZ:=@Nat.lt_of_lt_of_le
def FT:=@Nat.lt_or_ge
def JV:=@Array.getElem?_push.{0}
def GW:=@Nat.mul_le_mul_right
def GF:=@getElem?_take.{0}
def IJ:=@getElem?_drop.{0}
def BA:=@List.getElem?_eq_some_iff.{0}
def AK:=@getElem?_eq_getElem.{0}
def CX:=@all_eq_true.{0}
def AY:=@mem_of_getElem?.{0}
def GZ:=@Nat.add_zero
def BM:=@Bool.and_eq_true
def JU:=@drop_eq_nil_of_le.{0}
def GG:=@eq_nil_of_length_eq_zero.{0}
def FW:=@foldl_cons.{0,0}
def AS:=@take_length.{0}
def GH:=@getElem?_set.{0}
def ID:=@Nat.add_assoc
def DC:=@getElem?_map.{0,0}
def FD:=@getElem?_eq_none.{0}
def NF:=@Option.isSome_iff_exists.{0}
def AT:=@take_add_one.{0}
def If:=@Nat.succ_mul
def EU:=@map_append.{0,0}
def BH:=@map_map.{0,0,0}
def EJ:=@append_nil.{0}
def FL:=@ext_getElem?.{0}
def KX:=@Nat.mul_pos
def CC:=@map_cons.{0,0}
def IK:=@map_nil.{0,0}
def KY:=@Nat.zero_mul
def FM:=@Nat.add_mul
def DY:=@Nat.zero_add
def AX:=@length_append.{0}
def CN:=@length_take.{0}
def CR:=@append_assoc.{0}
def MB:=@getElem?_append_left.{0}
def JY:=@getElem?_append_right.{0}
def MC:=@Array.getD_eq_getD_getElem?.{0}
def FU:=@Option.bind_some.{0,0}
def ER:=@Nat.min_eq_left
def EI:=@Bool.false_eq_true
def IY:=@Bool.not_true
def MA:=@Bool.false_or
def CQ:=@length_nil.{0}
def BQ:=@length_cons.{0}
def JX:=@Bool.not_false
def ET:=@drop_eq_getElem_cons.{0}
def IZ:=@drop_length.{0}
def FZ:=@take_of_length_le.{0}
def CU:=@any_eq_true.{0}
def AR:=@getElem_mem.{0}
def AW:=@mem_append.{0}
def GJ:=@Option.map_some.{0,0}
def EV:=@any_eq_false.{0}
def JE:=@Bool.not_eq_true
def KB:=@find?_eq_none.{0}
def KC:=@flatMap_append.{0,0}
def BN:=@Option.toList_some.{0}
def DN:=@flatMap_cons.{0,0}
def ME:=@mem_of_find?_eq_some.{0}
def BD:=@mem_cons.{0}
def BV:=@length_map.{0,0}
def AN:=@mem_map.{0,0}
def IL:=@mem_cons_self.{0}
def EW:=@cons_append.{0}
def IM:=@mem_cons_of_mem.{0}
def FE:=@nil_append.{0}
def EX:=@mem_flatMap.{0,0}
def NG:=@drop_append_of_le_length.{0}
def IE:=@map_id.{0}
def CG:=@map_congr_left.{0,0}
def FV:=@Bool.true_and
def CL:=@getElem?_of_mem.{0}
def GX:=@Nat.sub_self
def PH:=@Nat.sub_zero
def KZ:=@length_singleton.{0}
def JZ:=@idxOf_cons.{0}
def EK:=@not_mem_nil.{0}
def GI:=@Bool.eq_iff_iff
def FN:=@getElem_idxOf.{0}
def CS:=@idxOf_lt_length_of_mem.{0}
def FY:=@mem_singleton.{0}
def KA:=@Int.natCast_nonneg
def Gf:=@Option.some.inj.{0}
def GB:=@Prod.ext.{0,0}
def EE:=@mem_of_mem_eraseIdx.{0}
def LG:=@eraseIdx_of_length_le.{0}
def JF:=@length_eraseIdx_le.{0}
def KD:=@take_append_drop.{0}
def IP:=@nodup_append.{0}
def JG:=@flatMap_map.{0,0,0}
def LH:=@map_flatMap.{0,0,0}
def GN:=@nodup_nil.{0}
def KE:=@Nat.lt_trichotomy
def IQ:=@all_eq_false.{0}
def MG:=@Option.getD_some.{0}
def JH:=@drop_zero.{0}
def MH:=@any_append.{0}
def MI:=@countP_append.{0}
def MJ:=@countP_cons.{0}
def IR:=@filter_append.{0}
def BP:=@mem_filter.{0}
def IS:=@length_filter_le.{0}
def JI:=@mem_of_mem_take.{0}
def NI:=@mem_or_eq_of_mem_set.{0}
def DK:=@Int.toNat_natCast
def MK:=@countP_pos_iff.{0}
def GK:=@mem_append_left.{0}
def LI:=@mem_append_right.{0}
def JJ:=@Nat.add_le_add_left
def IN:=@mem_replicate.{0}
def FJ:=@Bool.not_eq_true'
def LB:=@fst_mem_of_mem_zipIdx.{0}
def LC:=@length_set.{0}
def NH:=@getElem?_set_ne.{0}
def MF:=@Sublist.refl.{0}
def LD:=@filter_sublist.{0}
def LF:=@Bool.or_eq_true
def CV:=@decide_eq_true_eq
def DO:=@beq_iff_eq.{0}
def NJ:=@decide_true
def NK:=@decide_false
def GM:=@true_and
def DZ:=@or_false
def KF:=@decide_eq_false
def LJ:=@decide_eq_true
open Go.RowKit (Below)
open Go.Proofs
abbrev AV:=DataW (Value ⊕ (Nat×Nat×Option Nat))
abbrev oh:=List AV
abbrev sc (v:Value):AV:=.held (.inl v)
abbrev ptr (o a:Nat):AV:=.held (.inr (o,a,none))
abbrev fx (o a b:Nat):AV:=.held (.inr (o,a,some b))
abbrev sl (id n:Nat)(xs:List AV):AV:=.slice xs [.held (.inr (id,n,none))]
abbrev ag (xs:List AV):AV:=.agg xs
abbrev tp (xs:List AV):AV:=.ptr (.agg xs)
abbrev el (xs:List AV):AV:=.ptr (.ptr (.agg xs))
abbrev H:AV:=sl 1 0 []
abbrev gx (o n a:Nat):AV:=.slice [] [.held (.inr (o,n,some a))]
structure St where
 C:Nat->List AV
 B:Nat
 top:Nat->Nat
 D:Nat
 ver:Nat->Nat
structure Gh where
 blk:Nat->Nat
 cur:Nat->Nat
 cap:Nat->Nat
 siz:Nat->Nat
 per:Nat->Nat->Prop
 base:Nat
 w0:World
def AP (R:Value->AV->Prop)(l:List Value)(m:List AV):Prop:=
 Z l=Z m/\∀(i:Nat) (a:Value) (b:AV),l[i]?=some a->m[i]?=some b->R a b
def FI (w:World)(a:Nat->Nat->Prop)(R:Value->AV->Prop)(b o:Nat)(xs:List AV):Prop:=
 ∀(i:Nat) (x:AV),xs[i]?=some x->a b (o+i)/\∃c,w.cell? ⟨b,o+i,none⟩=some c/\R c x
def Stp (G:Gh)(A:St)(w:World)(R:Value->AV->Prop)(v:Value):AV->Prop
 |.held (.inl u)=>v=u
 |.held (.inr (o,d,none))=>v= .pointer (some ⟨G.blk o,d,none⟩)/\o<A.B
 |.held (.inr (o,d,some f))=>(∃a,v= .slice (some ⟨G.blk o,d,none⟩) f a/\f<=a)/\o<A.B
 |.agg c=>∃e,v= .agg e/\AP R e.toList c
 |.ptr (.agg c)=>∃e,v= .tuple e/\AP R e.toList c
 |.ptr (.ptr (.agg c))=>∃b o,v= .pointer (some ⟨b,o,none⟩)/\FI w G.per R b o c
 |.slice c [.held (.inr (id,n,none))]=>∃base a,v= .slice base n a/\(n<=a/\(id=1->n=0/\a=0))/\
  (c≠[]->∃b o,base=some ⟨b,o,none⟩/\FI w G.per R b o c)/\
  (∀k,id=k+2->k<A.D/\n<=A.top k/\Z c=n*G.siz k/\(n=A.top k->base=some ⟨G.cur k,0,none⟩/\a=G.cap k))
 |.slice _ [.held (.inr (o,n,some a))]=>v= .slice (some ⟨G.blk o,0,none⟩) n a/\n<=a/\o<A.B
 |_=>False
def VR (G:Gh)(A:St)(w:World)(v:Value)(x:AV):Prop:=
 ∃R:Value->AV->Prop,(∀v x,R v x->Stp G A w R v x)/\R v x
def AP.mono {R R'}(h:∀v x,R v x->R' v x){l m}(a:AP R l m):AP R' l m:=
 ⟨a.1,λi x y b c=>h _ _ (a.2 i x y b c)⟩
def FI.mono {w f e d R R'}(h:∀v x,R v x->R' v x)
  (g:∀b o,e b o->d b o/\f.cell? ⟨b,o,none⟩=w.cell? ⟨b,o,none⟩){b o xs} (a:FI w e R b o xs):FI f d R' b o xs:=
 λi x k=>let⟨p,c,j,l⟩:=a i x k;⟨(g _ _ p).1,c,(g _ _ p).2.trans j,h _ _ l⟩
def Stp.mono {G A w R R'}(h:∀v x,R v x->R' v x){v x}(a:Stp G A w R v x):Stp G A w R' v x:=by
 unfold Stp at*
 split at a;exact a;exact a;exact a;let⟨d,e,k⟩:=a;exact⟨d,e,k.mono h⟩;let⟨d,e,k⟩:=a;exact⟨d,e,k.mono h⟩;let⟨b,o,e,k⟩:=a;exact⟨b,o,e,k.mono h (λ_ _ p=>⟨p,rfl⟩)⟩;let⟨base,c,e,j,f,g⟩:=a;exact⟨base,c,e,j,λi=>let⟨b,o,e,k⟩:=f i;⟨b,o,e,k.mono h (λ_ _ p=>⟨p,rfl⟩)⟩,g⟩;exact a;exact a
def VR.unfold {G A w v x}(a:VR G A w v x):Stp G A w (VR G A w) v x:=by let⟨R,h,b⟩:=a;exact (h _ _ b).mono λv x b=>⟨R,h,b⟩
def VR.fold {G A w v x}(a:Stp G A w (VR G A w) v x):VR G A w v x:=
 ⟨λv x=>VR G A w v x\/Stp G A w (VR G A w) v x,λv x h=>by
  obtain h|h:=h;exact h.unfold.mono λ_ _=>.inl
  exact h.mono λ_ _=>.inl,.inr a⟩
structure CH (G:Gh)(A:St)(w:World)(G':Gh)(A':St)(w':World):Prop where
 base:G'.base=G.base
 w0:G'.w0=G.w0
 B:A.B<=A'.B
 blk:∀o,o<A.B->G'.blk o=G.blk o
 D:A.D<=A'.D
 top:∀k,k<A.D->A.top k<=A'.top k/\G'.siz k=G.siz k/\(A'.top k=A.top k->G'.cur k=G.cur k/\G'.cap k=G.cap k)
 per:∀b o,G.per b o->G'.per b o/\w'.cell? ⟨b,o,none⟩=w.cell? ⟨b,o,none⟩
 ver:∀o,o<A.B->A.ver o<=A'.ver o/\(A'.ver o=A.ver o->w'.heap[G.blk o]?=w.heap[G.blk o]?)
def CH.refl (G A w):CH G A w G A w:=
 ⟨rfl,rfl,AU _,λ_ _=>rfl,AU _,λ_ _=>⟨AU _,rfl,λ_=>⟨rfl,rfl⟩⟩,λ_ _ p=>⟨p,rfl⟩,λ_ _=>⟨AU _,λ_=>rfl⟩⟩
def CH.trans {G G' d A g c w l f}(a:CH G A w G' g l)(b:CH G' g l d c f):CH G A w d c f where
 base:=b.base.trans a.base
 w0:=b.w0.trans a.w0
 B:=BI a.B b.B
 blk:=λo h=>(b.blk o (BZ h a.B)).trans (a.blk o h)
 D:=BI a.D b.D
 top:=λk h=>by let⟨j,h2,n⟩:=a.top k h;let⟨i,g2,q⟩:=b.top k (BZ h a.D);grind
 per:=λx o p=>⟨(b.per _ _ (a.per _ _ p).1).1,((b.per _ _ (a.per _ _ p).1).2).trans (a.per _ _ p).2⟩
 ver:=λo h=>by let⟨j,h2⟩:=a.ver o h;let⟨i,g2⟩:=b.ver o (BZ h a.B);refine⟨BI j i,λe=>?_⟩;have e2:=g2 L;rw[a.blk o h]at e2;grind
def Stp.ext {G G' A d w j}(E:CH G A w G' d j){R v x}(a:Stp G A w R v x):Stp G' d j R v x:=by
 unfold Stp at*
 split at a;exact a;exact⟨by rw[E.blk _ a.2];exact a.1,BZ a.2 E.B⟩;exact⟨by rw[E.blk _ a.2];exact a.1,BZ a.2 E.B⟩;exact a;exact a;let⟨b,o,e,B⟩:=a;exact⟨b,o,e,B.mono (λ_ _ h=>h) E.per⟩;let⟨base,c,e,s,n,p⟩:=a;refine⟨base,c,e,s,λz=>let⟨b,o,e,B⟩:=n z;⟨b,o,e,B.mono (λ_ _ h=>h) E.per⟩,λk m=>?_⟩;let⟨i,l,q,t⟩:=p k m;let⟨u,y,g⟩:=E.top k i;refine⟨BZ i E.D,BI l u,y▸q,λe=>?_⟩;have f:d.top k=A.top k:=L;rw[(g f).1,(g f).2];exact t L;exact⟨by rw[E.blk _ a.2.2];exact a.1,a.2.1,BZ a.2.2 E.B⟩;exact a
def VR.ext {G G' A c w b}(E:CH G A w G' c b){v x}(a:VR G A w v x):VR G' c b v x:=by let⟨R,h,d⟩:=a;exact⟨R,λv x d=>(h v x d).ext E,d⟩
theorem VR.all {G G' A c w b}(E:CH G A w G' c b){l m}(a:AP (VR G A w) l m):AP (VR G' c b) l m:=a.mono λ_ _ h=>h.ext E
def Hyp (b:Nat)(w:World):Prop:=∀a,Below b w a->Lib.TabIs Tryz.prog a "internal/strconv.uint64pow10" .u64 Lib.pow10Tab
structure Inv (G:Gh)(A:St)(w:World):Prop where
 C:∀o,o<A.B->G.base<=G.blk o/\G.blk o<w.heap.size/\(A.C o≠[]->(∃arr e,w.heap[G.blk o]?=some (.cells arr e (0,0))/\AP (VR G A w) arr.toList (A.C o))/\∀off,¬G.per (G.blk o) off)
 inj:∀o o',o<A.B->o'<A.B->G.blk o=G.blk o'->o=o'
 lin:∀k,k<A.D->G.base<=G.cur k/\(∃arr e,w.heap[G.cur k]?=some (.cells arr e (0,0))/\arr.size=G.cap k*G.siz k)/\A.top k<=G.cap k/\∀off,G.per (G.cur k) off->off<A.top k*G.siz k
 linj:∀k k',k<A.D->k'<A.D->G.cur k=G.cur k'->k=k'
 apart:∀o k,o<A.B->k<A.D->G.blk o≠G.cur k
 perlt:∀b off,G.per b off->b<w.heap.size
 perlo:∀b off,b<G.base->G.per b off
 below:Below G.base G.w0 w
 le:G.base<=w.heap.size
 hyp:Hyp G.base G.w0
def Inv.blk_lt {G A w}(I:Inv G A w){o}(h:o<A.B):G.blk o<w.heap.size:=by exact (I.C o h).2.1
def Inv.cur_lt {G A w}(I:Inv G A w){k}(h:k<A.D):G.cur k<w.heap.size:=by obtain⟨-,⟨b,e,a,-⟩,-⟩:=I.lin k h;grind
def Inv.drawn {G A w}(I:Inv G A w)(n):Inv G A {w with drawn:=n}/\CH G A w G A {w with drawn:=n}:=by have E:CH G A w G A {w with drawn:=n}:=⟨rfl,rfl,AU _,λ_ _=>rfl,AU _,λ_ _=>⟨AU _,rfl,λ_=>⟨rfl,rfl⟩⟩,λ_ _ p=>⟨p,rfl⟩,λ_ _=>⟨AU _,λ_=>rfl⟩⟩;refine⟨⟨λo h=>?_,I.inj,I.lin,I.linj,I.apart,I.perlt,I.perlo,⟨I.below.os,I.below.tape,I.below.output,I.below.size,I.below.block⟩,I.le,I.hyp⟩,E⟩;let⟨j,f,g⟩:=I.C o h;refine⟨j,f,λi=>?_⟩;let⟨⟨b,e,c,d⟩,k⟩:=g i;exact⟨⟨b,e,c,VR.all E d⟩,k⟩
def St.new (A:St)(cs:List AV):St:={A with C:=λo=>if o=A.B then cs else A.C o,B:=A.B+1}
def St.put (A:St)(o:Nat)(cs:List AV):St:={A with C:=λp=>if p=o then cs else A.C p,ver:=λp=>if p=o then A.ver p+1 else A.ver p}
def St.lay (A:St)(n:Nat):St:={A with top:=λk=>if k=A.D then n else A.top k,D:=A.D+1}
def St.raise (A:St)(k n:Nat):St:={A with top:=λj=>if j=k then n else A.top j}
def O4 {w:World}{c b o}(h:b<w.heap.size):({w with heap:=w.heap.push c}:World).cell? ⟨b,o,none⟩=w.cell? ⟨b,o,none⟩:=by
 unfold World.cell?;grind
def Ox {w:World}{c b}(h:b<w.heap.size):({w with heap:=w.heap.push c}:World).heap[b]?=w.heap[b]?:=gp
def Ko {w:World}{a e c o}:({w with heap:=w.heap.push (.cells a e c)}:World).cell? ⟨w.heap.size,o,none⟩=a[o]?:=by
 unfold World.cell?;simp
def Inv.newObj {G A w}(I:Inv G A w)(f e cs)(h:AP (VR G A w) f.toList cs):
  ∃G',Inv G' (A.new cs) {w with heap:=w.heap.push (.cells f e)}/\CH G A w G' (A.new cs) {w with heap:=w.heap.push (.cells f e)}/\G'.blk A.B=w.heap.size:=by
 let G':Gh:={G with blk:=λo=>if o=A.B then w.heap.size else G.blk o}
 have E:CH G A w G' (A.new cs) {w with heap:=w.heap.push (.cells f e)}:=
  ⟨rfl,rfl,Nat.le_succ _,λo h=>gp,AU _,λ_ _=>⟨AU _,rfl,λ_=>⟨rfl,rfl⟩⟩,λb o p=>⟨p,O4 (I.perlt _ _ p)⟩,λo h=>⟨AU _,λ_=>Ox (I.blk_lt h)⟩⟩
 refine⟨G',⟨λo n=>?_,λo u n c q=>?_,λk d=>?_,I.linj,λo k n d=>?_,λb v p=>?_,I.perlo,?_,?_,I.hyp⟩,E,gp⟩;by_cases i:o=A.B;subst i;refine⟨by simp[G'];exact I.le,gp,λ_=>⟨⟨f,e,gp,?_⟩,λv p=>?_⟩⟩;have:(A.new cs).C A.B=cs:=by simp[St.new]
 rw[this];exact VR.all E h;have:=I.perlt _ _ p;simp[G']at this;have c:o<A.B:=by grind[St.new]
 let⟨m,s,t⟩:=I.C o c;have y:G'.blk o=G.blk o:=gp
 rw[y];have l:(A.new cs).C o=A.C o:=by grind[St.new]
 refine⟨m,gp,λj=>?_⟩;rw[l]at j;let⟨⟨a,x,g,z⟩,B⟩:=t j;refine⟨⟨a,x,?_,?_⟩,B⟩;have:=I.blk_lt c;simp only[JV];rw[if_neg L];exact g;exact l▸VR.all E z;have g:∀o,o<A.B->G.blk o≠w.heap.size:=λo h=>by have:=I.blk_lt h;omega
 simp[St.new]at n c;by_cases m:o=A.B<;>by_cases s:u=A.B<;>simp[G',m,s]at q;omega;cases (g u L) q.symm;cases (g o L) q;exact I.inj o u L L q;let⟨m,⟨a,x,g,z⟩,t⟩:=I.lin k d;refine⟨m,⟨a,x,?_,z⟩,t⟩;have:=I.cur_lt d;simp only[JV];rw[if_neg (show¬G'.cur k=w.heap.size from gp)];exact g;by_cases i:o=A.B;have:=I.cur_lt d;simp[G',i];omega;simp[G',i];exact I.apart o k (by grind[St.new]) d;have:=I.perlt _ _ p;simp;omega;have:=I.below
 exact⟨this.os,this.tape,this.output,by simp;exact BI this.size (Nat.le_succ _),λk d=>by
  have s:=I.le
  simp only[JV];rw[if_neg (show¬k=w.heap.size from gp)];exact this.block k d⟩
 have:=I.le;simp;show G.base<=_;omega
def Inv.newRow {G A w}(I:Inv G A w)(C e n K i)(B:C.size=K*i)(P:n<=K):
  ∃G',Inv G' (A.lay n) {w with heap:=w.heap.push (.cells C e)}/\CH G A w G' (A.lay n) {w with heap:=w.heap.push (.cells C e)}/\
   G'.cur A.D=w.heap.size/\G'.cap A.D=K/\G'.siz A.D=i/\∀a,a<n*i->G'.per w.heap.size a:=by
 let G':Gh:={G with cur:=λk=>if k=A.D then w.heap.size else G.cur k,cap:=λk=>if k=A.D then K else G.cap k,siz:=λk=>if k=A.D then i else G.siz k,per:=λb a=>G.per b a\/(b=w.heap.size/\a<n*i)}
 have E:CH G A w G' (A.lay n) {w with heap:=w.heap.push (.cells C e)}:=
  ⟨rfl,rfl,AU _,λo h=>rfl,Nat.le_succ _,λk g=>by
    have c:k≠A.D:=L
    simp[G',St.lay,c],λb o p=>⟨.inl p,O4 (I.perlt _ _ p)⟩,λo h=>⟨AU _,λ_=>Ox (I.blk_lt h)⟩⟩
 refine⟨G',⟨λo s=>?_,I.inj,λk g=>?_,λk x g f t=>?_,λo k s g=>?_,λb a p=>?_,λb a h=>.inl (I.perlo b a h),?_,?_,I.hyp⟩,E,gp,gp,gp,λa h=>.inr ⟨rfl,h⟩⟩;let⟨M,m,q⟩:=I.C o s;have l:=I.blk_lt s;refine⟨M,gp,λc=>?_⟩;let⟨⟨d,y,j,u⟩,q⟩:=q c;refine⟨⟨d,y,?_,VR.all E u⟩,λa p=>?_⟩;simp only[JV];rw[if_neg (show¬G'.blk o=w.heap.size from gp)];exact j;obtain p|⟨p,-⟩:=p;exact q a p;have:G.blk o=w.heap.size:=p;omega;by_cases c:k=A.D;subst c;refine⟨by simp[G'];exact I.le,⟨C,e,gp,gp⟩,by grind[St.lay],λa p=>?_⟩;have v:G'.cur A.D=w.heap.size:=gp
 rw[v]at p;obtain p|⟨-,p⟩:=p;have:=I.perlt _ _ p;omega;simpa[G',St.lay]using p;have f:k<A.D:=by grind[St.lay]
 let⟨M,⟨d,y,j,u⟩,m,q⟩:=I.lin k f;have l:=I.cur_lt f;have v:G'.cur k=G.cur k:=gp
 have F:G'.cap k=G.cap k:=gp
 have z:G'.siz k=G.siz k:=gp
 have D:(A.lay n).top k=A.top k:=by grind[St.lay]
 rw[v,F,z,D];refine⟨M,⟨d,y,?_,u⟩,m,λa p=>?_⟩;simp only[JV];rw[if_neg L];exact j;obtain p|⟨p,-⟩:=p;exact q a p;omega;simp[St.lay]at g f;have j:∀k,k<A.D->G.cur k≠w.heap.size:=λk h=>by have:=I.cur_lt h;omega
 by_cases M:k=A.D<;>by_cases m:x=A.D<;>simp[G',M,m]at t;omega;cases (j x L) t.symm;cases (j k L) t;exact I.linj k x L L t;have l:=I.blk_lt s;by_cases c:k=A.D;simp[G',c];omega;simp[G',c];exact I.apart o k s (by grind[St.lay]);obtain p|⟨p,-⟩:=p;have:=I.perlt _ _ p;simp;omega;simp;omega;have:=I.below
 exact⟨this.os,this.tape,this.output,by simp;exact BI this.size (Nat.le_succ _),λk g=>by
  have m:=I.le
  simp only[JV];rw[if_neg (show¬k=w.heap.size from gp)];exact this.block k g⟩
 have:=I.le;simp;show G.base<=_;omega
def Inv.below_row {G A w}(I:Inv G A w){g}(b:G.base<=g)(cs):Below G.base G.w0 (w.setRow g cs):=by have:=I.below;exact⟨this.os,this.tape,this.output,by simp;exact this.size,λk a=>by rw[setRow_other w g k cs L];exact this.block k a⟩
def Inv.setObj {G A w}(I:Inv G A w){o}(j:o<A.B)(n:A.C o≠[])(K cs)(h:AP (VR G A w) K.toList cs):
  Inv G (A.put o cs) (w.setRow (G.blk o) K)/\CH G A w G (A.put o cs) (w.setRow (G.blk o) K):=by
 let⟨z,B,F⟩:=I.C o j;let⟨⟨f,y,m,D⟩,x⟩:=F n
 have E:CH G A w G (A.put o cs) (w.setRow (G.blk o) K):=
  ⟨rfl,rfl,AU _,λ_ _=>rfl,AU _,λ_ _=>⟨AU _,rfl,λ_=>⟨rfl,rfl⟩⟩,λb t p=>⟨p,cell_setRow_other w _ _ _ (λe=>gp)⟩,λp l=>by
   by_cases a:p=o;subst a;simp[St.put]
   refine⟨by grind[St.put],λ_=>setRow_other w _ _ _ (λe=>a (I.inj p o l j e))⟩⟩
 refine⟨⟨λp l=>?_,I.inj,λk v=>?_,I.linj,I.apart,λb t p=>by simp;exact I.perlt _ _ p,I.perlo,I.below_row z K,by simp;omega,I.hyp⟩,E⟩;by_cases a:p=o;subst a;refine⟨z,jx,λ_=>⟨⟨K,y,setRow_heap w _ f K y _ m,?_⟩,x⟩⟩;have:(A.put p cs).C p=cs:=by simp[St.put]
 rw[this];exact VR.all E h;let⟨s,C,M⟩:=I.C p l;have g:(A.put o cs).C p=A.C p:=by grind[St.put]
 refine⟨s,jx,λd=>?_⟩;rw[g]at d;let⟨⟨c,i,u,q⟩,N⟩:=M d;refine⟨⟨c,i,?_,?_⟩,N⟩;rw[setRow_other w _ _ _ (λe=>a (I.inj p o l j e))];exact u;exact g▸VR.all E q;let⟨s,⟨c,i,u,q⟩,M⟩:=I.lin k v;refine⟨s,⟨c,i,?_,q⟩,M⟩;rw[setRow_other w _ _ _ (λe=>I.apart o k j v e.symm)];exact u
def Inv.growRoom {G A w}(I:Inv G A w){k}(l:k<A.D)(n)(T:n<=G.cap k)(Q:A.top k<=n)(P)
  (K:P.size=G.cap k*G.siz k) (S:∀a,a<A.top k*G.siz k->w.cell? ⟨G.cur k,a,none⟩=P[a]?):
  ∃G',Inv G' (A.raise k n) (w.setRow (G.cur k) P)/\CH G A w G' (A.raise k n) (w.setRow (G.cur k) P)/\(∀a,a<n*G.siz k->G'.per (G.cur k) a)/\
   G'.cur k=G.cur k/\G'.cap k=G.cap k/\G'.siz k=G.siz k:=by
 let⟨R,⟨g,B,s,N⟩,M,t⟩:=I.lin k l;let G':Gh:={G with per:=λb a=>G.per b a\/(b=G.cur k/\a<n*G.siz k)};have i:∀b a,G.per b a->(w.setRow (G.cur k) P).cell? ⟨b,a,none⟩=w.cell? ⟨b,a,none⟩:=λb a p=>by
  by_cases m:b=G.cur k;subst m;rw[cell_setRow_same w _ a g P B _ s];exact (S a (t a p)).symm;exact cell_setRow_other w _ _ _ m
 have E:CH G A w G' (A.raise k n) (w.setRow (G.cur k) P):=
  ⟨rfl,rfl,AU _,λ_ _=>rfl,AU _,λj C=>by
    refine⟨?_,rfl,λ_=>⟨rfl,rfl⟩⟩;by_cases c:j=k;subst c;simp[St.raise];exact Q
    simp[St.raise,c],λb a p=>⟨.inl p,i b a p⟩,λo h=>⟨AU _,λ_=>setRow_other w _ _ _ (I.apart o k h l)⟩⟩
 refine⟨G',⟨λp F=>?_,I.inj,λj C=>?_,I.linj,I.apart,λb a p=>?_,λb a h=>.inl (I.perlo b a h),I.below_row R P,by simp;exact I.le,I.hyp⟩,E,λa h=>.inr ⟨rfl,h⟩,rfl,rfl,rfl⟩;let⟨z,y,u⟩:=I.C p F;refine⟨z,by simp;omega,λf=>?_⟩;let⟨⟨d,D,m,x⟩,u⟩:=u f;refine⟨⟨d,D,?_,VR.all E x⟩,λa q=>?_⟩;show (w.setRow (G.cur k) P).heap[G.blk p]?=_;rw[setRow_other w _ _ _ (I.apart p k F l)];exact m;obtain q|⟨q,-⟩:=q;exact u a q;exact I.apart p k F l q;by_cases c:j=k;subst c;refine⟨R,⟨P,B,setRow_heap w _ g P B _ s,K⟩,by grind[St.raise],λa q=>?_⟩;have v:(A.raise j n).top j=n:=by simp[St.raise]
 rw[v];obtain q|⟨-,q⟩:=q;have:=t a q;exact BZ this (GW _ Q);exact q;let⟨z,⟨d,D,m,x⟩,y,u⟩:=I.lin j C;have f:G.cur j≠G.cur k:=λe=>c (I.linj j k C l e);have v:(A.raise k n).top j=A.top j:=by grind[St.raise]
 rw[v];refine⟨z,⟨d,D,?_,x⟩,y,λa q=>?_⟩;show (w.setRow (G.cur k) P).heap[G.cur j]?=_;rw[setRow_other w _ _ _ f];exact m;obtain q|⟨q,-⟩:=q;exact u a q;cases f q;obtain p|⟨p,-⟩:=p;simp;exact I.perlt _ _ p;have:=I.cur_lt l;simp;omega
def Inv.growNew {G A w}(I:Inv G A w){k}(Lqx:k<A.D)(n P)(Q:n<=P)(S:A.top k<n)(N e)
  (M:N.size=P*G.siz k):
  ∃G',Inv G' (A.raise k n) (w.alloc (.cells N e))/\CH G A w G' (A.raise k n) (w.alloc (.cells N e))/\(∀a,a<n*G.siz k->G'.per w.heap.size a)/\
   G'.cur k=w.heap.size/\G'.cap k=P/\G'.siz k=G.siz k:=by
 let⟨a3,⟨F,a2,U,a1⟩,a0,K⟩:=I.lin k Lqx
 let G':Gh:={G with cur:=λj=>if j=k then w.heap.size else G.cur j,cap:=λj=>if j=k then P else G.cap j,per:=λb a=>G.per b a\/(b=w.heap.size/\a<n*G.siz k)}
 have E:CH G A w G' (A.raise k n) (w.alloc (.cells N e)):=
  ⟨rfl,rfl,AU _,λ_ _=>rfl,AU _,λj i=>by
    by_cases c:j=k;subst c;refine⟨by grind[St.raise],rfl,λm=>?_⟩;simp[St.raise]at m;omega
    simp[St.raise,c,G'],λb a p=>⟨.inl p,O4 (I.perlt _ _ p)⟩,λo h=>⟨AU _,λ_=>Ox (I.blk_lt h)⟩⟩
 have g:∀b,b<w.heap.size->(w.alloc (.cells N e)).heap[b]?=w.heap[b]?:=λb h=>Go.RowKit.Below.heap_alloc w _ b h;refine⟨G',⟨λp v=>?_,I.inj,λj i=>?_,λj x i T m=>?_,λo j R i=>?_,λb a p=>?_,λb a h=>.inl (I.perlo b a h),?_,?_,I.hyp⟩,E,λa h=>.inr ⟨rfl,h⟩,gp,gp,rfl⟩;let⟨t,u,s⟩:=I.C p v;have f:=I.blk_lt v;refine⟨t,gp,λz=>?_⟩;let⟨⟨d,D,l,B⟩,s⟩:=s z;refine⟨⟨d,D,?_,VR.all E B⟩,λa q=>?_⟩;show (w.alloc (.cells N e)).heap[G.blk p]?=_;rw[g _ f];exact l;obtain q|⟨q,-⟩:=q;exact s a q;have:G.blk p=w.heap.size:=q;omega;by_cases c:j=k;subst c;refine⟨gp,⟨N,e,?_,gp⟩,by grind[St.raise],λa q=>?_⟩;have:G'.cur j=w.heap.size:=gp
 exact this▸heap_alloc_new w _;have C:G'.cur j=w.heap.size:=gp
 rw[C]at q;have y:(A.raise j n).top j=n:=by simp[St.raise]
 rw[y];obtain q|⟨-,q⟩:=q;have:=I.perlt _ _ q;omega;exact q;let⟨t,⟨d,D,l,B⟩,u,s⟩:=I.lin j i;have f:=I.cur_lt i;have C:G'.cur j=G.cur j:=gp
 have v:G'.cap j=G.cap j:=gp
 have y:(A.raise k n).top j=A.top j:=by grind[St.raise]
 rw[C,v,y];refine⟨t,⟨d,D,?_,B⟩,u,λa q=>?_⟩;rw[g _ f];exact l;obtain q|⟨q,-⟩:=q;exact s a q;omega;have l:∀j,j<A.D->G.cur j≠w.heap.size:=λj h=>by have:=I.cur_lt h;omega
 by_cases t:j=k<;>by_cases u:x=k<;>simp[G',t,u]at m;omega;cases (l x T) m.symm;cases (l j i) m;exact I.linj j x i T m;have f:=I.blk_lt R;by_cases c:j=k;simp[G',c];omega;simp[G',c];exact I.apart o j R i;obtain p|⟨p,-⟩:=p;have:=I.perlt _ _ p;simp;omega;simp;omega;exact I.below.alloc I.le _;have:=I.le;simp;show G.base<=_;omega
def Inv.freeze {G A w}(I:Inv G A w){o}(g:o<A.B):
  ∃G',Inv G' (A.put o []) w/\CH G A w G' (A.put o []) w/\(∀a,G'.per (G.blk o) a)/\G'.blk=G.blk:=by
 let G':Gh:={G with per:=λb a=>G.per b a\/b=G.blk o}
 have E:CH G A w G' (A.put o []) w:=
  ⟨rfl,rfl,AU _,λ_ _=>rfl,AU _,λ_ _=>⟨AU _,rfl,λ_=>⟨rfl,rfl⟩⟩,λb a p=>⟨.inl p,rfl⟩,λp j=>by grind[St.put]⟩
 refine⟨G',⟨λp j=>?_,I.inj,λk v=>?_,I.linj,I.apart,λb a p=>?_,λb a h=>.inl (I.perlo b a h),I.below,I.le,I.hyp⟩,E,λa=>.inr rfl,rfl⟩;let⟨m,i,l⟩:=I.C p j;refine⟨m,i,λd=>?_⟩;by_cases c:p=o;subst c;simp[St.put]at d;have e:(A.put o []).C p=A.C p:=by grind[St.put]
 rw[e]at d;let⟨⟨f,s,t,u⟩,n⟩:=l d;refine⟨⟨f,s,t,e▸VR.all E u⟩,λa q=>?_⟩;obtain q|q:=q;exact n a q;exact c (I.inj p o j g q);let⟨m,i,l,n⟩:=I.lin k v;refine⟨m,i,l,λa q=>?_⟩;obtain q|q:=q;exact n a q;cases (I.apart o k g v) q.symm;obtain p|p:=p;exact I.perlt _ _ p;exact p▸I.blk_lt g
def Inv.retell {G A w}(I:Inv G A w){o}(t:o<A.B)(g:A.C o≠[])(cs)(h:∀f:List Value,AP (VR G A w) f (A.C o)->AP (VR G A w) f cs):
  Inv G (A.put o cs) w/\CH G A w G (A.put o cs) w:=by
 have E:CH G A w G (A.put o cs) w:=
  ⟨rfl,rfl,AU _,λ_ _=>rfl,AU _,λ_ _=>⟨AU _,rfl,λ_=>⟨rfl,rfl⟩⟩,λb q p=>⟨p,rfl⟩,λp m=>by grind[St.put]⟩
 refine⟨⟨λp m=>?_,I.inj,I.lin,I.linj,I.apart,I.perlt,I.perlo,I.below,I.le,I.hyp⟩,E⟩;let⟨s,u,n⟩:=I.C p m;refine⟨s,u,λe=>?_⟩;by_cases c:p=o;subst c;let⟨⟨a,i,j,k⟩,l⟩:=n g;have d:(A.put p cs).C p=cs:=by simp[St.put]
 exact⟨⟨a,i,j,by grind[VR.all]⟩,l⟩;have d:(A.put o cs).C p=A.C p:=by grind[St.put]
 rw[d]at e;let⟨⟨a,i,j,k⟩,l⟩:=n e;exact⟨⟨a,i,j,d▸VR.all E k⟩,l⟩
theorem AP.nil (R):AP R [] []:=⟨rfl,λi a b h=>gp⟩
def AP.cons {R v x l m}(h:R v x)(t:AP R l m):AP R (v::l) (x::m):=
 ⟨by simp[t.1],λi a b d c=>by
  cases i with
  |zero=>simp at d c;subst d;subst c;exact h
  |succ i=>simp at d c;exact t.2 i a b d c⟩
def AP.append {R l g m e}(h:AP R l m)(f:AP R g e):AP R (l++g) (m++e):=by refine⟨by simp[h.1,f.1],λi a b d c=>?_⟩;rw[getElem?_append]at d c;have:=h.1;by_cases j:i<Z l;rw[if_pos j]at d;rw[if_pos L]at c;exact h.2 i a b d c;rw[if_neg j]at d;rw[if_neg L,<-this]at c;exact f.2 _ a b d c
def AP.take {R l m}(h:AP R l m)(n):AP R (l.take n) (m.take n):=by refine⟨by simp[h.1],λi a b c d=>?_⟩;rw[GF]at c d;split at c;rename_i e;rw[if_pos e]at d;exact h.2 i a b c d;cases c
def AP.drop {R l m}(h:AP R l m)(n):AP R (l.drop n) (m.drop n):=by refine⟨by simp[h.1],λi a b d c=>?_⟩;rw[IJ]at d c;exact h.2 _ a b d c
def AP.get {R l m}(h:AP R l m){i:Nat}{x}(b:m[i]?=some x):∃v,l[i]?=some v/\R v x:=by
 let⟨c,d⟩:=BA.1 b;have a:=h.1▸c
 exact⟨l[i],AK a,h.2 i _ _ (AK a) b⟩
def AP.of_map {R}{α:Type}(f g)(h:∀a,R (f a) (g a)):∀l:List α,AP R (l.map f) (l.map g)
 |[]=>AP.nil R
 |a::l=>AP.cons (h a) (AP.of_map f g h l)
def FI.list {w d R b o xs}(h:FI w d R b o xs):
   ∃cs:List Value,AP R cs xs/\∀j v,cs[j]?=some v->w.cell? ⟨b,o+j,none⟩=some v:=by
 induction xs generalizing o with
 |nil=>exact⟨[],AP.nil R,λj v h=>gp⟩
 |cons x xs g=>
  obtain⟨-,c,e,f⟩:=h 0 x (by simp)
  let⟨cs,m,l⟩:=g (o:=o+1) (λi y k=>by
    have:=h (i+1) y (gp)
    rwa[show o+(i+1)=o+1+i by omega]at this)
  refine⟨c::cs,AP.cons f m,λj v a=>?_⟩;cases j with
  |zero=>simp at a;subst a;exact e
  |succ j=>simp at a;rw[show o+(j+1)=o+1+j by omega];exact l j v a
def FI.drop {w a R b o xs}(h:FI w a R b o xs)(n):FI w a R b (o+n) (xs.drop n):=λi x c=>by rw[IJ]at c;have:=h (n+i) x c;rwa[show o+(n+i)=o+n+i by omega]at this
def FI.take {w a R b o xs}(h:FI w a R b o xs)(n):FI w a R b o (xs.take n):=λi x c=>by rw[GF]at c;split at c;exact h i x c;cases c
def rW:TypeDesc->Bool
 |.struct _=>true
 |.array _ _=>true
 |_=>false
def J3 (P:Program)(t:TypeId):Option (Bool×Nat):=
 match P.underlying t,P.info? t with
 |some d,some i=>if i.size=0 then none else some (rW d,i.size)
 |_,_=>none
def Gu (P:Program)(t:TypeId):Option (List Value):=((P.info? t).bind (·.zero)).map (·.cells.toList)
def Dm (P:Program)(t:TypeId)(f:Nat):Option (Nat×Bool×Nat):=
 match P.underlying t with
 |some (.struct b)=>match b[f]? with
  |some a=>match J3 P a.type with
   |some (g,n+1)=>some (a.offset,g,n+1)
   |_=>none
  |none=>none
 |_=>none
def Ff (P:Program)(t:TypeId):Option (Nat×Nat):=
 match P.underlying t with
 |some (.slice e)=>(P.info? e).map λi=>(i.size,i.bytes)
 |_=>none
def Up (P:Program)(t:TypeId):Option (Nat×Nat):=
 match P.underlying t with
 |some (.array n e)=>(P.info? e).map λi=>(n,i.size)
 |_=>none
def kG (P:Program)(t:TypeId):Option IntKind:=
 match P.underlying t with
 |some (.struct a)=>(match a.toList with
  |[f,g]=>if f.name≠ "_"/\g.name≠ "_"/\f.offset=0/\g.offset=1/\P.stoodInHeld t=false/\P.eqGuardType P.depth t=false/\J3 P f.type=some (false,1)/\J3 P g.type=some (false,1)then
   (match P.underlying f.type,P.underlying g.type with
   |some .bool,some (.int k)=>some k
   |_,_=>none)else none
  |_=>none)
 |_=>none
def Lp (P:Program)(t:TypeId):Option (List Value×List (Nat×Nat)):=
 match P.info? t,P.underlying t with
 |some c,some (.struct b)=>
  match c.zero,b.toList.mapM (λf=>(P.info? f.type).map λi=>(f.offset,i.size))with
  |some z,some a=>some (z.cells.toList,a)
  |_,_=>none
 |some c,some (.array n e)=>
  match c.zero,P.info? e with
  |some z,some d=>some (z.cells.toList,(range n).map λk=>(k*d.size,d.size))
  |_,_=>none
 |_,_=>none
def jP (P:Program)(t:TypeId):Bool:=
 match P.underlying t with
 |some (.array 3 e)=>decide (P.eqGuardType P.depth t=false/\J3 P e=some (false,1))&&(match P.underlying e with
  |some (.int .i64)=>true
  |_=>false)
 |_=>false
def cst1:Value->AV
 |.slice none 0 0=>H
 |v=>sc v
def cst:Value->AV
 |.agg a=>ag (a.toList.map cst1)
 |.slice none 0 0=>H
 |v=>sc v
def BR (s:Nat->AV):Operand->AV
 |.tmp t=>s t
 |.const v=>cst v
 |.global g=>sc (.pointer (some ⟨g,0,none⟩))
 |.func f=>sc (.func (.func f) #[] #[])
def acells:AV->List AV
 |.agg a=>a
 |.held (.inl v)=>v.cells.toList.map sc
 |x=>[x]
def flat:AV->Bool
 |.agg _=>false
 |.ptr (.agg _)=>false
 |.held (.inl v)=>v.oneCell'
 |_=>true
def VR.sc {G A w}(v):VR G A w v (sc v):=VR.fold rfl
def VR.of_sc {G A w v u}(h:VR G A w v (Abs.sc u)):v=u:=h.unfold
def VR.nilS {G A w}:VR G A w (.slice none 0 0) H:=
 VR.fold ⟨none,0,rfl,⟨AU _,λ_=>⟨rfl,rfl⟩⟩,λh=>absurd rfl h,λk h=>L⟩
def VR.cst1 {G A w}(v):VR G A w v (cst1 v):=by unfold Abs.cst1;split;exact VR.nilS;exact VR.sc v
def VR.cst {G A w}(v):VR G A w v (cst v):=by
 unfold Abs.cst;split
 exact VR.fold ⟨_,rfl,by
  have:=AP.of_map (R:=VR G A w) (λv:Value=>v) Abs.cst1 (λv=>VR.cst1 v);rename_i a
  simpa using this a.toList⟩
 exact VR.nilS;exact VR.sc v
def VR.cells {G A w v x}(h:VR G A w v x):AP (VR G A w) v.cells.toList (acells x):=by
 have a:=h.unfold;unfold Abs.acells;split;obtain⟨f,rfl,i⟩:=a;exact i;have d:=a;subst d;have:=AP.of_map (R:=VR G A w) (λv:Value=>v) (λv=>Abs.sc v) (λv=>VR.sc v);simpa using this v.cells.toList;rename_i k j;have d:v.cells=#[v]:=by
  cases v with
  |agg f=>
   exfalso;unfold Stp at a;split at a;exact j _ rfl;simp at a;obtain⟨⟨c,g,-⟩,-⟩:=a;cases g;exact k _ rfl;obtain⟨f,e,-⟩:=a;cases e;obtain⟨b,o,e,-⟩:=a;cases e;obtain⟨b,o,e,-⟩:=a;cases e;cases a.1;exact a
  |_=>rfl
 exact d▸AP.cons h (AP.nil _)
def VR.flat {G A w v x}(h:VR G A w v x)(d:flat x):v.oneCell':=by have a:=h.unfold;unfold Stp at a;split at a;subst a;exact d;rw[a.1];rfl;obtain⟨⟨c,f,-⟩,-⟩:=a;rw[f];rfl;simp[Abs.flat]at d;simp[Abs.flat]at d;obtain⟨b,o,e,-⟩:=a;rw[e];rfl;obtain⟨b,o,e,-⟩:=a;rw[e];rfl;rw[a.1];rfl;exact a.elim
def Zz {G A w l m}(h:AP (VR G A w) l m)(f:m.all flat):∀v∈l,v.oneCell':=by
 intro v d;let⟨i,b,c⟩:=mem_iff_getElem.1 d;have e:=h.1▸b
 have a:=AK e;have:=h.2 i v m[i] (c▸AK b) a;exact this.flat (CX.1 f _ (AY a))
def Same (F:Nat->Prop)(G:Gh)(A:St)(w a:World):Prop:=
 (∀b o,G.per b o->a.cell? ⟨b,o,none⟩=w.cell? ⟨b,o,none⟩)/\∀o,o<A.B->F o->a.heap[G.blk o]?=w.heap[G.blk o]?
def Same.refl (F G A w):Same F G A w w:=⟨λ_ _ _=>rfl,λ_ _ _=>rfl⟩
def vH:AV->Option Nat
 |.held (.inr (o,_,none))=>some o
 |_=>none
def LZ (s:Nat->AV):Op->Option Nat
 |.load _ x=>vH (BR s x)
 |_=>none
def behind (A:St):AV->Option (List AV)
 |.held (.inr (o,a,none))=>some ((A.C o).drop a)
 |.ptr (.ptr (.agg b))=>some b
 |_=>none
def fE {F G A w}(I:Inv G A w){v x i}(h:VR G A w v x)(g:behind A x=some i)(B:∀o,vH x=some o->F o):
 ∃b o cs,v= .pointer (some ⟨b,o,none⟩)/\AP (VR G A w) cs i/\∀f,Same F G A w f->∀j u,cs[j]?=some u->f.cell? ⟨b,o+j,none⟩=some u:=by unfold behind at g;split at g;rename_i o a;let⟨k,n⟩:=h.unfold;cases g;by_cases d:A.C o=[];exact⟨G.blk o,a,[],k,by simp_all[AP.nil],λf S j u c=>gp⟩;obtain⟨⟨l,e,y,s⟩,-⟩:=(I.C o n).2.2 d;refine⟨G.blk o,a,l.toList.drop a,k,s.drop a,λf S j u c=>?_⟩;rw[IJ]at c;unfold World.cell?;rw[S.2 o n (B o rfl),y];simpa using c;let⟨b,o,k,p⟩:=h.unfold;cases g;let⟨cs,m,t⟩:=p.list;refine⟨b,o,cs,k,m,λf S j u c=>?_⟩;have z:=(BA.1 c).1;have q:i[j]?=some (i[j]'(m.1▸z)):=AK _;rw[S.1 _ _ (p j _ q).1];exact t j u c;cases g
def EB (b:Bool)(n:Nat)(a:List AV):Option AV:=
 if b then (if n<=Z a then some (ag (a.take n))else none)else a.head?
def EF (b:Bool)(n a:Nat)(cs:List AV):Option AV:=EB b n (cs.drop a)
def zR (P:Program)(c:BinOp)(t:TypeId):Value->Value->Option Value
 |.int k a,.int d b=>if k=d then (match c with
  |.add=>some (.int k (k.wrap (a+b)))
  |.sub=>some (.int k (k.wrap (a-b)))
  |.mul=>some (.int k (k.wrap (a*b)))
  |.quo=>if b=0 then none else some (.int k (k.wrap (a.tdiv b)))
  |.rem=>if b=0 then none else some (.int k (a.tmod b))
  |.eql=>some (.bool (a==b))
  |.neq=>some (.bool (a !=b))
  |.lss=>some (.bool (a<b))
  |.leq=>some (.bool (a<=b))
  |.gtr=>some (.bool (a>b))
  |.geq=>some (.bool (a>=b))
  |_=>none)else none
 |.string a,.string b=>(match c with
  |.add=>if a.size+b.size<=1099511627776 then some (.string (a++b))else none
  |.eql=>some (.bool (a.toList==b.toList))
  |.neq=>some (.bool !(a.toList==b.toList))
  |.lss=>some (.bool (Op.bytesLess a.toList b.toList))
  |_=>none)
 |.bool a,.bool b=>(match c,P.underlying t with
  |.eql,some .bool=>some (.bool (a==b))
  |.neq,some .bool=>some (.bool !(a==b))
  |_,_=>none)
 |_,_=>none
def oY (P:Program)(b a:TypeId):Value->Option Value
 |.int _ n=>(match P.underlying b,P.underlying a with
  |some _,some (.int k)=>some (.int k (k.wrap n))
  |_,_=>none)
 |_=>none
def Qr:List AV->Option (List UInt8)
 |[]=>some []
 |.held (.inl (.int .u8 n))::a=>(Qr a).map (UInt8.ofNat n.toNat::·)
 |_=>none
def Z0:AV->Option Int
 |.held (.inl (.int _ n))=>some n
 |_=>none
def bnd (y:Nat):Option AV->Nat->Option Nat
 |none,d=>some d
 |some x,_=>match Z0 x with
  |some i=>if 0<=i/\i<=y then some i.toNat else none
  |none=>none
def lsp (l:List AV)(a:Nat):List AV->List AV
 |[]=>l
 |x::b=>lsp (l.set a x) (a+1) b
def CK (b:Nat->Option (Nat×Nat))(a:List AV):List (Nat×AV)->Option (List AV)
 |[]=>some a
 |(i,x)::rest=>
  match b i with
  |none=>none
  |some (d,c)=>if Z (acells x)≠c\/d+c>Z a then none else CK b (lsp a d (acells x)) rest
def aq (P:Program)(s:Nat->AV)(A:St):Op->Option AV
 |.move x=>some (BR s x)
 |.assign x=>some (BR s x)
 |.pick c a b=>(match BR s c with
  |.held (.inl (.bool t))=>some (if t then BR s a else BR s b)
  |_=>none)
 |.load t x=>(match J3 P t,behind A (BR s x)with
  |some (C,n),some u=>EB C n u
  |_,_=>none)
 |.nilCheck x=>(match BR s x with
  |.held (.inr (o,j,none))=>some (ptr o j)
  |.ptr (.ptr (.agg u))=>some (el u)
  |_=>none)
 |.fieldAddr t x f=>(match Dm P t f,BR s x with
  |some (d,_,_),.held (.inr (o,j,none))=>some (ptr o (j+d))
  |some (d,_,_),.ptr (.ptr (.agg u))=>some (el (u.drop d))
  |_,_=>none)
 |.field t x f=>(match Dm P t f,BR s x with
  |some (d,C,n),.agg M=>EF C n d M
  |_,_=>none)
 |.indexAddr t x i=>(match Z0 (BR s i)with
  |some i=>(match BR s x,Ff P t,Up P t with
   |.slice q [.held (.inr (_,n,none))],some (z+1,_),_=>if 0<=i/\i<n/\(i.toNat+1)*(z+1)<=Z q then some (el (q.drop (i.toNat*(z+1))))else none
   |.held (.inr (o,j,some g)),some (z,_),_=>if 0<=i/\i<g then some (ptr o (j+i.toNat*z))else none
   |.slice _ [.held (.inr (o,g,some _))],some (z,_),_=>if 0<=i/\i<g then some (ptr o (i.toNat*z))else none
   |.held (.inr (o,j,none)),_,some (g,z)=>if 0<=i/\i<g then some (ptr o (j+i.toNat*z))else none
   |.ptr (.ptr (.agg u)),_,some (g,z)=>if 0<=i/\i<g then some (el (u.drop (i.toNat*z)))else none
   |_,_,_=>none)
  |none=>none)
 |.index t x i=>(match Z0 (BR s i),BR s x,P.underlying t with
  |some i,.held (.inl (.string b)),some .string=>if 0<=i then (b[i.toNat]?).map λc=>sc (.int .u8 c.toNat)else none
  |some i,.agg M,some (.array n e)=>(match J3 P e with
   |some (C,z)=>if 0<=i/\i<n then EF C z (i.toNat*z) M else none
   |none=>none)
  |_,_,_=>none)
 |.build t B=>(match Lp P t with
  |some (z,Q)=>(CK (Q[·]?) (z.map cst1) (B.toList.map λp=>(p.1,BR s p.2))).map ag
  |none=>none)
 |.extract x i=>(match BR s x with
  |.ptr (.agg q)=>q[i]?
  |_=>none)
 |.binOp E t x y _=>(match BR s x,BR s y with
  |.held (.inl a),.held (.inl b)=>(zR P E t a b).map sc
  |.agg [.held (.inl (.bool a)),.held (.inl (.int k m))],.agg [.held (.inl (.bool b)),.held (.inl (.int N n))]=>if kG P t=some k/\k=N then (match E with
   |.eql=>some (sc (.bool (a==b&&m==n)))
   |.neq=>some (sc (.bool !(a==b&&m==n)))
   |_=>none)else none
  |.agg [.held (.inl (.int .i64 a)),.held (.inl (.int .i64 b)),.held (.inl (.int .i64 c))],.agg [.held (.inl (.int .i64 a')),.held (.inl (.int .i64 b')),.held (.inl (.int .i64 c'))]=>if jP P t=true then (match E with
   |.eql=>some (sc (.bool (a==a'&&b==b'&&c==c')))
   |.neq=>some (sc (.bool !(a==a'&&b==b'&&c==c')))
   |_=>none)else none
  |_,_=>none)
 |.unOp E _ x=>(match E,BR s x with
  |.not,.held (.inl (.bool b))=>some (sc (.bool !b))
  |.neg,.held (.inl (.int k n))=>some (sc (.int k (k.wrap (0-n))))
  |_,_=>none)
 |.convert D F x=>(match BR s x with
  |.held (.inl v)=>(oY P D F v).map sc
  |.slice q [.held (.inr (_,n,none))]=>(match P.underlying D,P.underlying F with
   |some (.slice e),some .string=>(match P.underlying e,Qr (q.take n)with
    |some (.int .u8),some bs=>if n=Z q then some (sc (.string ⟨bs.toArray⟩))else none
    |_,_=>none)
   |_,_=>none)
  |_=>none)
 |.slice t x G I K=>(match K,BR s x,P.underlying t with
  |none,.held (.inl (.string b)),some .string=>(match bnd b.size (I.map (BR s)) b.size with
   |some h=>(match bnd h (G.map (BR s)) 0 with
    |some l=>some (sc (.string (b.extract l h)))
    |none=>none)
   |none=>none)
  |none,.slice q [.held (.inr (_,n,none))],some (.slice _)=>(match I,G with
   |none,some G=>(match Z0 (BR s G),Ff P t with
    |some l,some (z,_)=>if 0<=l/\l<=n/\Z q=n*z then some (sl 0 (n-l.toNat) (q.drop (l.toNat*z)))else none
    |_,_=>none)
   |some I,none=>(match Z0 (BR s I),Ff P t with
    |some h,some (z,_)=>if 0<=h/\h<=n/\Z q=n*z then some (sl 0 h.toNat (q.take (h.toNat*z)))else none
    |_,_=>none)
   |_,_=>none)
  |_,_,_=>none)
 |.call {callee:=.builtin .len,args:=args,argTypes:=ts}=>(match args.toList.map (BR s),ts.toList with
  |[.held (.inl (.string b))],[t]=>if P.underlying t matches some .string then some (sc (.int .i64 b.size))else none
  |[.slice _ [.held (.inr (_,n,none))]],[t]=>if (Ff P t).isSome then some (sc (.int .i64 n))else none
  |[.held (.inr (_,_,some n))],[t]=>if (Ff P t).isSome then some (sc (.int .i64 n))else none
  |[.slice _ [.held (.inr (_,n,some _))]],[t]=>if (Ff P t).isSome then some (sc (.int .i64 n))else none
  |_,_=>none)
 |_=>none
def Fe {P t z y}(h:Ff P t=some (z,y)):∃e i,P.underlying t=some (.slice e)/\P.info? e=some i/\i.size=z/\i.bytes=y:=by
 rw[Ff]at h;split at h;rename_i e b;cases a:P.info? e with
 |none=>simp[a]at h
 |some i=>simp[a]at h;exact⟨e,i,b,a,h.1,h.2⟩
 cases h
def dB {P t n z}(h:Up P t=some (n,z)):∃e i,P.underlying t=some (.array n e)/\P.info? e=some i/\i.size=z:=by
 rw[Up]at h;split at h;rename_i m e b;cases a:P.info? e with
 |none=>simp[a]at h
 |some i=>simp[a]at h;obtain⟨rfl,c⟩:=h;exact⟨e,i,b,a,c⟩
 cases h
def YD {P t g n}(h:J3 P t=some (g,n)):0<n:=by grind[J3]
def UO {P t g n}(h:J3 P t=some (g,n)):∃d i,P.underlying t=some d/\P.info? t=some i/\rW d=g/\i.size=n:=by grind[J3]
def S0 {P t f d g n}(h:Dm P t f=some (d,g,n)):
 ∃b a,P.underlying t=some (.struct b)/\b[f]?=some a/\a.offset=d/\J3 P a.type=some (g,n)/\n≠0:=by grind[Dm]
def Cu {P t g n}(h:J3 P t=some (g,n))(w):(isAgg t).run P w= .ok g w/\(sizeOf t).run P w= .ok n w:=by let⟨d,i,e,c,a,b⟩:=UO h;refine⟨?_,by simp[sizeOf,typeInfo,c,b]⟩;rw[isAgg];simp only[Sem.run_bind,run_underlying e,Result.andThen_ok];cases d<;>simp[rW]at a<;>subst a<;>rfl
def oX {P G A w k n cs p x}(f:AP (VR G A w) cs p)(h:EB k n p=some x){t}(l:J3 P t=some (k,n))(b o)
  {C:World->Prop} (q:∀a,C a->∀j u,cs[j]?=some u->a.cell? ⟨b,o+j,none⟩=some u):∃v,VR G A w v x/\∀a,C a->(loadVar t ⟨b,o,none⟩).run P a= .ok v a:=by
 rw[EB]at h;split at h;rename_i g;subst g;split at h;rename_i y;cases h;refine⟨.agg (cs.take n).toArray,VR.fold ⟨_,rfl,by simpa using f.take n⟩,λa m=>?_⟩;have c:Z (cs.take n)=n:=by simp[f.1];omega
 have:=run_loadCells_list (P:=P) a ⟨b,o,none⟩ (cs.take n) (λj u d=>by
  rw[Addr.add_lit];grind)
 rw[c]at this;simp[loadVar,(Cu l a).1,(Cu l a).2,this];cases h;rename_i g;have e:k=false:=gp
 subst e;let⟨v,s,z⟩:=f.get (i:=0) (x:=x) (by rw[<-head?_eq_getElem?];exact h);refine⟨v,z,λa m=>?_⟩;have:=q a m 0 v s;simp only[GZ]at this;simp[loadVar,(Cu l a).1,this]
section
variable {P:Program} {F:Nat->Prop} {G:Gh} {A:St} {w:World} {s:Nat->AV} {a:Act}
theorem Bg (b:∀t,VR G A w (a.tmps.getD t undef) (s t))(x):VR G A w (a.eval x) (BR s x):=by
 cases x with
 |tmp t=>exact b t
 |const v=>exact VR.cst v
 |global g=>exact VR.sc _
 |func f=>exact VR.sc _
theorem Gk {v x i}(h:VR G A w v x)(a:Z0 x=some i):∃k,v= .int k i:=by unfold Z0 at a;split at a;cases a;exact⟨_,h.of_sc⟩;cases a
theorem VR.of_ptr {v o a}(h:VR G A w v (ptr o a)):v= .pointer (some ⟨G.blk o,a,none⟩)/\o<A.B:=h.unfold
theorem VR.of_fx' {v o b a}(h:VR G A w v (fx o b a)):(∃c,v= .slice (some ⟨G.blk o,b,none⟩) a c/\a<=c)/\o<A.B:=h.unfold
theorem VR.of_gx {v xs o n a}(h:VR G A w v (.slice xs [.held (.inr (o,n,some a))])):v= .slice (some ⟨G.blk o,0,none⟩) n a/\n<=a/\o<A.B:=h.unfold
theorem VR.of_fx {v o b c}(h:VR G A w v (fx o b c)):(∃a,v= .slice (some ⟨G.blk o,b,none⟩) c a)/\o<A.B:=by obtain⟨⟨a,e,-⟩,d⟩:=VR.of_fx' h;grind
theorem VR.of_el {v xs}(h:VR G A w v (el xs)):∃b o,v= .pointer (some ⟨b,o,none⟩)/\FI w G.per (VR G A w) b o xs:=h.unfold
theorem VR.of_ag {v xs}(h:VR G A w v (ag xs)):∃cs,v= .agg cs/\AP (VR G A w) cs.toList xs:=h.unfold
theorem VR.of_tp {v xs}(h:VR G A w v (tp xs)):∃cs,v= .tuple cs/\AP (VR G A w) cs.toList xs:=h.unfold
theorem VR.of_sl {v id n xs}(h:VR G A w v (sl id n xs)):∃base a,v= .slice base n a/\(n<=a/\(id=1->n=0/\a=0))/\
 (xs≠[]->∃b o,base=some ⟨b,o,none⟩/\FI w G.per (VR G A w) b o xs)/\
 (∀k,id=k+2->k<A.D/\n<=A.top k/\Z xs=n*G.siz k/\(n=A.top k->base=some ⟨G.cur k,0,none⟩/\a=G.cap k)):=h.unfold
theorem ik (I:Inv G A w)(m:∀t,VR G A w (a.tmps.getD t undef) (s t)){t y x}(h:aq P s A (.load t y)=some x)(f:∀o,LZ s (.load t y)=some o->F o):
 ∃v,VR G A w v x/\∀c,Same F G A w c->(Instr.loadAt t (a.eval y)).run P c= .ok v c:=by simp only[aq]at h;split at h;rename_i q n p g j;let⟨b,o,u,k,d,e⟩:=fE I (Bg m y) j f;let⟨v,i,l⟩:=oX (P:=P) d h g b o (C:=Same F G A w) e;refine⟨v,i,λc S=>?_⟩;simp[Instr.loadAt,k,Instr.sureAddr,l c S];cases h
theorem lS (C:∀t,VR G A w (a.tmps.getD t undef) (s t)){t y f x}(h:aq P s A (.fieldAddr t y f)=some x):
 ∃v,VR G A w v x/\∀c,(Instr.fieldAt t (a.eval y) f).run P c= .ok v c:=by have e:=Bg C y;simp only[aq]at h;split at h;rename_i d g n o k l j;cases h;let⟨E,D,I,p,q,u,i⟩:=S0 l;rw[j]at e;let⟨m,z⟩:=VR.of_ptr e;refine⟨.pointer (some ⟨G.blk o,k+d,none⟩),VR.fold ⟨rfl,z⟩,λc=>?_⟩;simp[Instr.fieldAt,run_underlying I,p,m,Instr.sureAddr,fieldPlace,(Cu u c).2,i,q,Addr.add_lit];rename_i d g n F l j;cases h;let⟨E,D,I,p,q,u,i⟩:=S0 l;rw[j]at e;let⟨b,o,m,B⟩:=VR.of_el e;refine⟨.pointer (some ⟨b,o+d,none⟩),VR.fold ⟨b,o+d,rfl,B.drop d⟩,λc=>?_⟩;simp[Instr.fieldAt,run_underlying I,p,m,Instr.sureAddr,fieldPlace,(Cu u c).2,i,q,Addr.add_lit];cases h
theorem lR (M:∀t,VR G A w (a.tmps.getD t undef) (s t)){t y z x}(h:aq P s A (.indexAddr t y z)=some x):
  ∃v,VR G A w v x/\∀k,(Instr.indexAt t (a.eval y) (a.eval z)).run P k= .ok v k:=by
 have f:=Bg M y;have U:=Bg M z;simp only[aq]at h;split at h
 case h_2=>cases h
 rename_i i Q;let⟨a2,D⟩:=Gk U Q;split at h;rename_i S id a0 m F g c;split at h
 case isFalse=>cases h
 rename_i d;cases h;obtain⟨e,n,p,j,l,-⟩:=Fe c;rw[g]at f;obtain⟨base,C,q,-,K,-⟩:=VR.of_sl f;have T:S≠[]:=λe=>gp
 let⟨b,o,R,I⟩:=K T;subst R;refine⟨.pointer (some ⟨b,o+i.toNat*(m+1),none⟩),VR.fold ⟨b,_,rfl,I.drop _⟩,λk=>?_⟩;have N:0<=i/\i<(a0:Int):=⟨d.1,d.2.1⟩;simp[Instr.indexAt,asIntOf,D,run_underlying p,q,N,sizeOf,typeInfo,j,l,Addr.add_lit];rename_i o u B m F g c;split at h
 case isFalse=>cases h
 rename_i d;cases h;obtain⟨e,n,p,j,l,-⟩:=Fe c;rw[g]at f;let⟨⟨C,q⟩,E⟩:=VR.of_fx f;refine⟨.pointer (some ⟨G.blk o,u+i.toNat*m,none⟩),VR.fold ⟨rfl,E⟩,λk=>?_⟩;simp[Instr.indexAt,asIntOf,D,run_underlying p,q,d,sizeOf,typeInfo,j,l,Addr.add_lit];rename_i S o B C m F g c;split at h
 case isFalse=>cases h
 rename_i d;cases h;obtain⟨e,n,p,j,l,-⟩:=Fe c;rw[g]at f;obtain⟨q,-,E⟩:=VR.of_gx f;refine⟨.pointer (some ⟨G.blk o,i.toNat*m,none⟩),VR.fold ⟨rfl,E⟩,λk=>?_⟩;simp[Instr.indexAt,asIntOf,D,run_underlying p,q,d,sizeOf,typeInfo,j,l,Addr.add_lit];rename_i o u B m g c;split at h
 case isFalse=>cases h
 rename_i d;cases h;let⟨e,n,p,j,l⟩:=dB c;rw[g]at f;let⟨q,E⟩:=VR.of_ptr f;refine⟨.pointer (some ⟨G.blk o,u+i.toNat*m,none⟩),VR.fold ⟨rfl,E⟩,λk=>?_⟩;simp[Instr.indexAt,asIntOf,D,run_underlying p,q,Instr.sureAddr,d,sizeOf,typeInfo,j,l,Addr.add_lit];rename_i a1 B m g c;split at h
 case isFalse=>cases h
 rename_i d;cases h;let⟨e,n,p,j,l⟩:=dB c;rw[g]at f;let⟨b,o,q,K⟩:=VR.of_el f;refine⟨.pointer (some ⟨b,o+i.toNat*m,none⟩),VR.fold ⟨b,_,rfl,K.drop _⟩,λk=>?_⟩;simp[Instr.indexAt,asIntOf,D,run_underlying p,q,Instr.sureAddr,d,sizeOf,typeInfo,j,l,Addr.add_lit];cases h
theorem XP (B:∀t,VR G A w (a.tmps.getD t undef) (s t)){t y f x}(h:aq P s A (.field t y f)=some x):
  ∃v,VR G A w v x/\∀b,(Instr.field t (a.eval y) f).run P b= .ok v b:=by
 have l:=Bg B y;simp only[aq]at h;split at h
 case h_2=>cases h
 rename_i d z n E C u;let⟨I,M,q,o,p,j,F⟩:=S0 C;rw[u]at l;let⟨D,m,k⟩:=VR.of_ag l;rw[EF,EB]at h;split at h;rename_i g;subst g;split at h
 case isFalse=>cases h
 rename_i N;cases h;refine⟨.agg (D.extract d (d+n)),VR.fold ⟨_,rfl,?_⟩,λb=>?_⟩;have:=(k.drop d).take n;simpa[Array.toList_extract,extract_eq_take_drop]using this;simp[Instr.field,run_underlying q,o,m,asAgg,part,(Cu j b).1,(Cu j b).2,p];rename_i g;have e:z=false:=gp
 subst e;let⟨v,c,K⟩:=(k.drop d).get (i:=0) (x:=x) (jx);refine⟨v,K,λb=>?_⟩;rw[IJ]at c;simp only[GZ,Array.getElem?_toList]at c;simp[Instr.field,run_underlying q,o,m,asAgg,part,(Cu j b).1,p,c]
theorem run_equal_bool {t}(a:P.underlying t=some .bool)(u v b):(Op.equal t (.bool u) (.bool v)).run P b= .ok (u==v) b:=by rw[Op.equal];rw[show Op.maxDepth=9999+1 from rfl];rw[Op.equalIn];simp[run_underlying a]
theorem M5 {t}(h:jP P t)(a b c q s y p):(Op.equal t (.agg #[.int .i64 a,.int .i64 b,.int .i64 c]) (.agg #[.int .i64 q,.int .i64 s,.int .i64 y])).run P p= .ok (a==q&&b==s&&c==y) p:=by
 rw[jP]at h;split at h
 case h_2=>cases h
 rename_i e i;simp only[BM,CV]at h;obtain⟨⟨-,d⟩,f⟩:=h;split at f
 case h_2=>cases f
 rename_i j;rw[Op.equal];rw[show Op.maxDepth=9999+1 from rfl];rw[Op.equalIn];have e2:∀u v:Int,(Op.equalIn 9999 e (.int .i64 u) (.int .i64 v)).run P p= .ok (u==v) p:=λu v=>by rw[show 9999=9998+1 from rfl];rw[Op.equalIn];simp[run_underlying j]
 have g:∀(u v x:Int),(part e #[.int .i64 u,.int .i64 v,.int .i64 x] 0).run P p= .ok (.int .i64 u) p:=λu v x=>by simp[part,(Cu d p).1]
 have m:∀(u v x:Int),(part e #[.int .i64 u,.int .i64 v,.int .i64 x] 1).run P p= .ok (.int .i64 v) p:=λu v x=>by simp[part,(Cu d p).1]
 have k:∀(u v x:Int),(part e #[.int .i64 u,.int .i64 v,.int .i64 x] 2).run P p= .ok (.int .i64 x) p:=λu v x=>by simp[part,(Cu d p).1]
 simp[run_underlying i,(Cu d p).2,g,m,k,e2,range'_succ];by_cases o:a=q<;>by_cases l:b=s<;>by_cases n:c=y<;>simp[o,l,n]
theorem M6 {t k}(h:kG P t=some k)(a b m n I):(Op.equal t (.agg #[.bool a,.int k m]) (.agg #[.bool b,.int k n])).run P I= .ok (a==b&&m==n) I:=by
 rw[kG]at h;split at h
 case h_2=>cases h
 rename_i j s;split at h
 case h_2=>cases h
 rename_i f g d;split at h
 case isFalse=>cases h
 rename_i o;let⟨l,z,B,E,p,G,K,x⟩:=o;split at h
 case h_2=>cases h
 rename_i F y q;cases h;have c:j=#[f,g]:=gp
 subst c;rw[Op.equal];rw[show Op.maxDepth=9999+1 from rfl];rw[Op.equalIn];have A:∀u v:Bool,(Op.equalIn 9999 f.type (.bool u) (.bool v)).run P I= .ok (u==v) I:=λu v=>by rw[show 9999=9998+1 from rfl];rw[Op.equalIn];simp[run_underlying y]
 have e2:∀u v:Int,(Op.equalIn 9999 g.type (.int k u) (.int k v)).run P I= .ok (u==v) I:=λu v=>by rw[show 9999=9998+1 from rfl];rw[Op.equalIn];simp[run_underlying q]
 have D:∀(u:Bool) (v:Int),(part f.type #[.bool u,.int k v] 0).run P I= .ok (.bool u) I:=λu v=>by simp[part,(Cu K I).1]
 have C:∀(u:Bool) (v:Int),(part g.type #[.bool u,.int k v] 1).run P I= .ok (.int k v) I:=λu v=>by simp[part,(Cu x I).1]
 simp[run_underlying s,l,z,B,E,p,D,C,A,e2];by_cases i:a=b<;>by_cases e:m=n<;>simp[i,e]
theorem jj {d t u v j x y}(h:zR P d t u v=some j)(l):
    (do eqGuard d t x y u v;Go.binOp d t u v:Sem Value).run P l= .ok j l:=by
  unfold zR at h;split at h;rename_i k a i b;split at h
  case isFalse=>cases h
  rename_i g;subst g
  split at h<;>first
    |(cases h;simp[eqGuard,Go.binOp,Op.intArith,Op.intCmp];done)
    |(split at h
      cases h;rename_i e
      cases h;simp[eqGuard,Go.binOp,Op.intDiv,e])
    |cases h
  rename_i a b;split at h;split at h
  case isFalse=>cases h
  rename_i e;cases h;have f:(a.size:Int)+(b.size:Int)<=9223372036854775807:=L;simp[eqGuard,Go.binOp,Op.stringOp,f];cases h;simp[eqGuard,Go.binOp,Op.stringOp];cases h;simp[eqGuard,Go.binOp,Op.stringOp];cases h;simp[eqGuard,Go.binOp,Op.stringOp];cases h;split at h;rename_i c;cases h;simp[eqGuard,Go.binOp,run_equal_bool c];rename_i c;cases h;simp[eqGuard,Go.binOp,run_equal_bool c];cases h;cases h
theorem run_sliceBound {u x y h d c}(e:VR G A w u x)(a:bnd y (some x) d=some h)(j):(Instr.sliceBound u y c).run P j= .ok h j:=by unfold bnd at a;simp only at a;split at a;rename_i i g;split at a;rename_i b;cases a;let⟨k,f⟩:=Gk e g;simp[Instr.sliceBound,f,asIntOf,b];cases a;cases a
theorem XO (E:∀t,VR G A w (a.tmps.getD t undef) (s t)){t y lo g Q x}(h:aq P s A (.slice t y lo g Q)=some x):
  ∃v,VR G A w v x/\∀d,(Instr.sliceAt t (a.eval y) (lo.map a.eval) (g.map a.eval) (Q.map a.eval)).run P d= .ok v d:=by
 have p:=Bg E y;simp only[aq]at h;split at h
 case h_3=>cases h
 case h_2=>
  rename_i k id n a0 u F;rw[u]at p;obtain⟨base,f,M,⟨a8,-⟩,q,-⟩:=VR.of_sl p;split at h
  case h_3=>cases h
  case h_2=>
    rename_i g;split at h
    case h_2=>cases h
    rename_i e z zb a3 B;split at h
    case isFalse=>cases h
    rename_i S;let⟨a4,c2,c3⟩:=S;cases h;obtain⟨e',i,j,a1,N,-⟩:=Fe B;rw[F]at j;cases j;let⟨kk,I⟩:=Gk (Bg E g) a3;have m:∀d,(Instr.sliceBounds true n f none (some (a.eval g)) none).run P d= .ok (0,e.toNat,f) d:=λd=>by
     have:(Instr.sliceBound (a.eval g) f .sliceAcap).run P d= .ok e.toNat d:=by
      have D:¬(e<0\/(f:Int)<e):=L;simp[Instr.sliceBound,I,asIntOf,D];omega
     simp[Instr.sliceBounds,this]
    refine⟨.slice (if f=0 then base else base.map (·.add (0*z))) (e.toNat-0) (f-0),VR.fold ⟨_,_,rfl,⟨L,λh=>L⟩,λa6=>?_,λa5 I=>L⟩,λd=>?_⟩;have C:k≠[]:=gp
    obtain⟨b,o,rfl,T⟩:=q C
    have K:FI w G.per (VR G A w) b o (k.take (e.toNat*z)):=λi x u=>T i x (gp)
    split;exact⟨b,o,rfl,K⟩;exact⟨b,o,by simp[Addr.add_lit],K⟩;simp[Instr.sliceAt,run_underlying F,Instr.slice,M,m,sizeOf,typeInfo,a1,N]
  rename_i lo;split at h
  case h_2=>cases h
  rename_i l z zb a2 B;split at h
  case isFalse=>cases h
  rename_i S;let⟨a4,c2,c3⟩:=S;cases h;obtain⟨e',i,j,g,N,-⟩:=Fe B;rw[F]at j;cases j;let⟨kk,I⟩:=Gk (Bg E lo) a2;have m:∀d,(Instr.sliceBounds true n f (some (a.eval lo)) none none).run P d= .ok (l.toNat,n,f) d:=λd=>by
    have:(Instr.sliceBound (a.eval lo) n .sliceB).run P d= .ok l.toNat d:=by
     have D:¬(l<0\/(n:Int)<l):=L;simp[Instr.sliceBound,I,asIntOf,D];omega
    simp[Instr.sliceBounds,this]
  refine⟨.slice (if f=l.toNat then base else base.map (·.add (l.toNat*z))) (n-l.toNat) (f-l.toNat),VR.fold ⟨_,_,rfl,⟨L,λh=>L⟩,λa6=>?_,λa5 I=>L⟩,λd=>?_⟩;have a7:l.toNat*z<Z k:=jx
  have a9:l.toNat<n:=gp
  have C:k≠[]:=gp
  obtain⟨b,o,rfl,T⟩:=q C;rw[if_neg L];exact⟨b,o+l.toNat*z,by simp[Addr.add_lit],T.drop _⟩;simp[Instr.sliceAt,run_underlying F,Instr.slice,M,m,sizeOf,typeInfo,g,N]
 rename_i b u F;rw[u]at p;have M:=p.of_sc;split at h
 case h_2=>cases h
 rename_i a0 U;split at h
 case h_2=>cases h
 rename_i l q;cases h;refine⟨_,VR.sc _,λd=>?_⟩;have m:(Instr.sliceBounds false b.size b.size (lo.map a.eval) (g.map a.eval) none).run P d= .ok (l,a0,b.size) d:=by
  cases g with
  |none=>
   simp[bnd]at U;subst U;cases lo with
   |none=>simp[bnd]at q;subst q;simp[Instr.sliceBounds]
   |some lo=>
    have:=run_sliceBound (P:=P) (c:=.sliceB) (Bg E lo) q d;simp[Instr.sliceBounds,this]
  |some g=>
   have R:=run_sliceBound (P:=P) (c:=.sliceAlen) (Bg E g) U d;cases lo with
   |none=>simp[bnd]at q;subst q;simp[Instr.sliceBounds,R]
   |some lo=>
    have:=run_sliceBound (P:=P) (c:=.sliceB) (Bg E lo) q d;simp[Instr.sliceBounds,R,this]
 simp[Instr.sliceAt,run_underlying F,Instr.slice,M,m]
theorem zQ {cs xs bs}(d:AP (VR G A w) cs xs)(h:Qr xs=some bs):
   ∃f:List Int,cs=f.map (Value.int .u8)/\bs=f.map λn=>UInt8.ofNat n.toNat:=by
 induction xs generalizing cs bs with
 |nil=>
  have:cs=[]:=GG (by rw[d.1];rfl);simp[Qr]at h;exact⟨[],gp,gp⟩
 |cons x xs j=>
  cases cs with
  |nil=>have:=d.1;simp at this
  |cons c cs=>
   unfold Qr at h;split at h;rename_i e;cases e;rename_i n q e;cases e;have k:=(d.2 0 c (sc (.int .u8 n)) rfl rfl).of_sc;cases g:Qr xs with
   |none=>simp[g]at h
   |some q=>
    simp[g]at h;let⟨f,p,o⟩:=j (cs:=cs) (bs:=q) ⟨by have:=d.1;grind,λi a b l m=>d.2 (i+1) a b (gp) (gp)⟩ g;exact⟨n::f,gp,gp⟩
   cases h
theorem xC {cs}{f:List Int}(d:cs=f.map (Value.int .u8))(b o s q)(k:∀j u,cs[j]?=some u->q.cell? ⟨b,o+j,none⟩=some u):
  (Conv.bytesToString (.slice (some ⟨b,o,none⟩) (Z cs) s)).run P q= .ok (.string ⟨(f.map λn=>UInt8.ofNat n.toNat).toArray⟩) q:=by
 have i:=run_loadCells_list (P:=P) q ⟨b,o,none⟩ cs (λj u p=>by rw[Addr.add_lit];exact k j u p);rw[d]at i;have g:=run_bytesToString q ⟨b,o,none⟩ _ s f i;rw[<-d]at g;rw[g];have e:∀(c:List Int) (a:ByteArray),c.foldl (λt n=>t.push (UInt8.ofNat n.toNat)) a=⟨a.data++(c.map λn=>UInt8.ofNat n.toNat).toArray⟩:=by
  intro c;induction c with
  |nil=>intro a;simp
  |cons m c l=>
   intro a;simp only[FW,l];congr 1;apply Array.ext';simp[ByteArray.push]
 rw[e];simp
theorem xI (I:Inv G A w)(M:∀t,VR G A w (a.tmps.getD t undef) (s t)){c d y x}(h:aq P s A (.convert c d y)=some x):
   ∃v,VR G A w v x/\∀g,Same F G A w g->(Go.convert c d (a.eval y)).run P g= .ok v g:=by
 have p:=Bg M y;simp only[aq]at h;split at h;rename_i u z;rw[z]at p;have b:=p.of_sc;cases f:oY P c d u with
 |none=>simp[f]at h
 |some e=>
  simp[f]at h;subst h;refine⟨e,VR.sc e,λg _=>?_⟩;unfold oY at f;split at f;split at f;rename_i D B;cases f;simp[Go.convert,run_underlying D,run_underlying B,b,Conv.intToInt];cases f;cases f
 rename_i C id a6 z;rw[z]at p;split at h
 case h_2=>cases h
 rename_i a1 D B;split at h
 case h_2=>cases h
 rename_i bs N q;split at h
 case isFalse=>cases h
 rename_i U;cases h;refine⟨_,VR.sc _,λg S=>?_⟩;obtain⟨base,k,b,-,Q,-⟩:=VR.of_sl p;subst U;rw[AS]at q;rw[b,run_convert_bytes_string g c d a1 base _ k D N B];by_cases m:C=[];subst m;simp[Qr]at q;subst q;cases base with
 |none=>simp[Conv.bytesToString];rfl
 |some a5=>simp[Conv.bytesToString,loadCells,loadCellsFrom];rfl
 let⟨a0,a2,T,l⟩:=Q m;subst T;let⟨a3,i,E⟩:=l.list;let⟨a4,o,e2⟩:=zQ i q;rw[e2,<-i.1]
 exact xC o a0 a2 k g (λj u K=>by
   have R:=(BA.1 K).1;have n:C[j]?=some (C[j]'(i.1▸R)):=AK _;rw[S.1 _ _ (l j _ n).1]
   exact E j u K)
 cases h
theorem AP.set {R l m}(h:AP R l m){v x}(f:R v x)(i):AP R (l.set i v) (m.set i x):=by refine⟨by simp[h.1],λj a b e d=>?_⟩;rw[GH]at e d;have:=h.1;by_cases c:i=j;subst c;simp at e d;rw[<-e.2,<-d.2];exact f;rw[if_neg c]at e d;exact h.2 j a b e d
theorem AP.lsp {R}:∀(vs:List Value) (f:oh) (e k:Nat) (d:Array Value) (xs:oh),AP R vs f->AP R d.toList xs->
  AP R ((vs.zipIdx k).foldl (λcs c=>cs.setIfInBounds (e+c.2) c.1) d).toList (Abs.lsp xs (e+k) f)
 |[],f,e,k,d,xs,h,g=>by have:f=[]:=GG (by rw[<-h.1];rfl);subst this;exact g
 |v::vs,[],e,k,d,xs,h,g=>by have:=h.1;simp at this
 |v::vs,y::f,e,k,d,xs,h,g=>by simp only[zipIdx_cons,FW,Abs.lsp];have j:=h.2 0 v y rfl rfl;have l:AP R vs f:=⟨by have:=h.1;grind,λi a b m n=>h.2 (i+1) a b (gp) (gp)⟩;have:=AP.lsp vs f e (k+1) (d.setIfInBounds (e+k) v) (xs.set (e+k) y) l (by rw[Array.toList_setIfInBounds];exact g.set j _);rwa[ID]
theorem Sn {g place'}(u:∀i p,g i=some p->place' i=some p):∀(f:List (Nat×Value)) (e:List (Nat×AV)) (d:Array Value) (xs o:oh),AP (VR G A w) d.toList xs->
   Z f=Z e->(∀(i:Nat) (p:Nat×Value) (q:Nat×AV),f[i]?=some p->e[i]?=some q->p.1=q.1/\VR G A w p.2 q.2)->CK g xs e=some o->
   ∃cs,Instr.fill place' d f=some cs/\AP (VR G A w) cs.toList o
 |[],e,d,xs,o,s,t,y,h=>by have:e=[]:=GG (by rw[<-t];rfl);subst this;simp[CK]at h;subst h;exact⟨d,rfl,s⟩
 |p::f,[],d,xs,o,s,t,y,h=>gp
 |(i,v)::f,(j,x)::e,d,xs,o,s,t,y,h=>by
  let⟨z,B⟩:=y 0 _ _ rfl rfl;simp only at z B;subst z;simp only[CK]at h;split at h;cases h;rename_i k l F;split at h;cases h;rename_i I;have K:=B.cells;have C:v.cells.size=l:=by have:=K.1;grind
  have M:d.size=Z xs:=by have:=s.1;grind
  have:=AP.lsp v.cells.toList (acells x) k 0 d xs K s;let⟨cs,E,D⟩:=Sn u f e _ _ o this (gp) (λi p q a b=>y (i+1) p q (gp) (gp)) h;refine⟨cs,?_,D⟩;have m:¬(v.cells.size≠l||decide (k+v.cells.size>d.size)):=gp
  have n:v.cells.zipIdx.foldl (λcs c=>cs.setIfInBounds (k+c.2) c.1) d=(v.cells.toList.zipIdx 0).foldl (λcs c=>cs.setIfInBounds (k+c.2) c.1) d:=by rw[<-Array.foldl_toList,Array.toList_zipIdx]
  simp only[Instr.fill,u _ _ F];rw[if_neg m];rw[<-E,<-n]
theorem XQ (T:∀t,VR G A w (a.tmps.getD t undef) (s t)){t b x}(h:aq P s A (.build t b)=some x):
   ∃v,VR G A w v x/\∀j,(Instr.build t (b.map λ(i,x)=>(i,a.eval x))).run P j= .ok v j:=by
 simp only[aq]at h;split at h
 case h_2=>cases h
 rename_i z d c;cases o:CK (d[·]?) (z.map Abs.cst1) (b.toList.map λp=>(p.1,BR s p.2))with
 |none=>simp[o]at h
 |some m=>
  simp[o]at h;subst h;have K:AP (VR G A w) z.toArray.toList (z.map Abs.cst1):=by have:=AP.of_map (R:=VR G A w) (λv:Value=>v) Abs.cst1 (λv=>VR.cst1 v) z;simpa using this
  have l:∀(i:Nat) (p:Nat×Value) (q:Nat×AV),(b.toList.map λp=>(p.1,a.eval p.2))[i]?=some p->(b.toList.map λp=>(p.1,BR s p.2))[i]?=some q->p.1=q.1/\VR G A w p.2 q.2:=λi p q y B=>by
    simp only[DC]at y B;cases k:b.toList[i]? with
    |none=>simp[k]at y
    |some U=>
     simp[k]at y B;subst y;subst B;exact⟨rfl,Bg T U.2⟩
  rw[Lp]at c;split at c;rename_i M u k F;split at c
  case h_2=>cases c
  rename_i E N g S;simp at c;obtain⟨rfl,rfl⟩:=c;let⟨f,D,C⟩:=Sn (place':=λi=>N.toArray[i]?) (λi p h=>gp) (b.toList.map λp=>(p.1,a.eval p.2)) (b.toList.map λp=>(p.1,BR s p.2)) E.cells _ m (gp) (by simp) l o;refine⟨.agg f,VR.fold ⟨f,rfl,C⟩,λj=>run_build j t _ f ?_⟩;rw[Program.built];simp only[k,F,g,S];simpa using D;rename_i M n e k F;split at c
  case h_2=>cases c
  rename_i E Q g I;simp at c;obtain⟨rfl,rfl⟩:=c
  let⟨f,D,C⟩:=Sn (place':=λi=>some (i*Q.size,Q.size)) (λi p h=>gp) (b.toList.map λp=>(p.1,a.eval p.2)) (b.toList.map λp=>(p.1,BR s p.2)) E.cells _ m (gp) (by simp) l o
  refine⟨.agg f,VR.fold ⟨f,rfl,C⟩,λj=>run_build j t _ f ?_⟩;rw[Program.built];simp only[k,F,g,I];simpa using D;cases c
theorem SX (I:Inv G A w)(D:∀t,VR G A w (a.tmps.getD t undef) (s t)){o x}(h:aq P s A o.op=some x)(hF:∀p,LZ s o.op=some p->F p):
  ∃v,VR G A w v x/\∀B,Same F G A w B->(execOp a.eval o).run P B= .ok (.value v) B:=by
 cases j:o.op<;>rw[j]at h hF<;>try (simp[aq]at h;done)
 case move y=>simp[aq]at h;subst h;exact⟨_,Bg D y,λB _=>by simp[execOp,j]⟩
 case assign y=>simp[aq]at h;subst h;exact⟨_,Bg D y,λB _=>by simp[execOp,j]⟩
 case pick c y z=>
  simp only[aq]at h;split at h
  case h_2=>cases h
  rename_i t U;have g:=Bg D c;rw[U]at g;have g:=g.of_sc;cases h;cases t
  ·exact⟨_,Bg D z,λB _=>by simp[execOp,j,g,asBool]⟩
  exact⟨_,Bg D y,λB _=>by simp[execOp,j,g,asBool]⟩
 case load t y=>
  let⟨v,E,e⟩:=ik I D h hF;exact⟨v,E,λB S=>by simp[execOp,j,e B S]⟩
 case nilCheck y=>
  simp only[aq]at h;split at h;rename_i p ab l;cases h;have g:=Bg D y;rw[l]at g;exact⟨_,g,λB _=>by simp[execOp,j,(VR.of_ptr g).1]⟩;rename_i ys l;cases h;have g:=Bg D y;rw[l]at g;let⟨b,q,R,hl⟩:=VR.of_el g;exact⟨_,g,λB _=>by simp[execOp,j,R]⟩;cases h
 case fieldAddr t y a7=>
  let⟨v,E,e⟩:=lS D h;exact⟨v,E,λB S=>by simp[execOp,j,e B]⟩
 case field t y a7=>
  let⟨v,E,e⟩:=XP D h;exact⟨v,E,λB S=>by simp[execOp,j,e B]⟩
 case indexAddr t y z=>
  let⟨v,E,e⟩:=lR D h;exact⟨v,E,λB S=>by simp[execOp,j,e B]⟩
 case index t y z=>
  simp only[aq]at h;split at h
  case h_3=>cases h
  case h_2=>
    rename_i i ad a4 a3 hi l M;split at h
    case h_2=>cases h
    rename_i ga m K;split at h
    case isFalse=>cases h
    rename_i k;have g:=Bg D y;rw[l]at g;let⟨n,g,U⟩:=VR.of_ag g;let⟨a8,hk⟩:=Gk (Bg D z) hi;rw[EF,EB]at h;split at h;rename_i hg;subst hg;split at h
    case isFalse=>cases h
    rename_i hn;cases h;refine⟨.agg (n.extract (i.toNat*m) (i.toNat*m+m)),VR.fold ⟨_,rfl,?_⟩,λB _=>?_⟩;have:=(U.drop (i.toNat*m)).take m;simpa[Array.toList_extract,extract_eq_take_drop]using this;simp[execOp,j,Instr.index,hk,asIntOf,run_underlying M,g,k,part,(Cu K B).1,(Cu K B).2];rename_i hg;have aa:ga=false:=gp
    subst aa;let⟨v,C,hr⟩:=(U.drop (i.toNat*m)).get (i:=0) (x:=x) (jx);refine⟨v,hr,λB _=>?_⟩;rw[IJ]at C;simp only[GZ,Array.getElem?_toList]at C;simp[execOp,j,Instr.index,hk,asIntOf,run_underlying M,g,k,part,(Cu K B).1,(Cu K B).2,C]
  rename_i i b hi l M;split at h
  case isFalse=>cases h
  rename_i h0;cases k:b[i.toNat]? with
  |none=>simp[k]at h
  |some c=>
   simp[k]at h;subst h;have g:=Bg D y;rw[l]at g;have g:=g.of_sc;let⟨a8,hk⟩:=Gk (Bg D z) hi;exact⟨_,VR.sc _,λB _=>by simp[execOp,j,Instr.index,hk,asIntOf,run_underlying M,g,h0,k]⟩
 case build t parts=>
  let⟨v,E,e⟩:=XQ D h;exact⟨v,E,λB S=>by simp only[execOp,j];rw[Sem.run_bind,e B];rfl⟩
 case extract y i=>
  simp only[aq]at h;split at h
  case h_2=>cases h
  rename_i xs l;have g:=Bg D y;rw[l]at g;let⟨n,R,ha⟩:=VR.of_tp g;let⟨v,E,e⟩:=ha.get h
  exact⟨v,e,λB _=>by
    have:n[i]?=some v:=gp
    simp[execOp,j,Instr.extract,R,this]⟩
 case binOp op t y z t'=>
  simp only[aq]at h;split at h
  case h_4=>cases h
  case h_3=>
    rename_i a1 b1 c1 a2 b2 c2 l Q;split at h
    case isFalse=>cases h
    rename_i f;have g:=Bg D y;rw[l]at g;have C:=Bg D z;rw[Q]at C;have a0:∀{v:Value} {p q d:Int},VR G A w v (ag [sc (.int .i64 p),sc (.int .i64 q),sc (.int .i64 d)])->v= .agg #[.int .i64 p,.int .i64 q,.int .i64 d]:=λ{v p q d} g=>by
      obtain⟨n,rfl,T⟩:=g.unfold;have hl:=T.1
      match n,hl with
      |⟨[c,a5,a3]⟩,_=>
       have e1:=(T.2 0 c _ rfl rfl).of_sc;have e2:=(T.2 1 a5 _ rfl rfl).of_sc;have e3:=(T.2 2 a3 _ rfl rfl).of_sc;rw[e1,e2,e3]
    have g:=a0 g;have C:=a0 C;have N:P.eqGuardType P.depth t=false:=by
      rw[jP]at f;split at f
      case h_2=>cases f
      simp only[BM,CV]at f;exact f.1.1
    split at h;cases h
    exact⟨_,VR.sc _,λB _=>by simp[execOp,j,g,C,eqGuard,N,Go.binOp,M5 f]⟩
    cases h
    exact⟨_,VR.sc _,λB _=>by simp[execOp,j,g,C,eqGuard,N,Go.binOp,M5 f]⟩
    cases h
  case h_2=>
    rename_i a1 k1 m1 b1 k2 n1 l Q;split at h
    case isFalse=>cases h
    rename_i U;obtain⟨f,rfl⟩:=U;have g:=Bg D y;rw[l]at g;have C:=Bg D z;rw[Q]at C;have a0:∀{v:Value} {p:Bool} {q:Int},VR G A w v (ag [sc (.bool p),sc (.int k1 q)])->v= .agg #[.bool p,.int k1 q]:=λ{v p q} g=>by
      obtain⟨n,rfl,T⟩:=g.unfold;have hl:=T.1
      match n,hl with
      |⟨[c,a5]⟩,_=>
       have e1:=(T.2 0 c _ rfl rfl).of_sc;have e2:=(T.2 1 a5 _ rfl rfl).of_sc;rw[e1,e2]
    have g:=a0 g;have C:=a0 C;have N:P.eqGuardType P.depth t=false:=by grind[kG]
    split at h;cases h
    exact⟨_,VR.sc _,λB _=>by simp[execOp,j,g,C,eqGuard,N,Go.binOp,M6 f]⟩
    cases h
    exact⟨_,VR.sc _,λB _=>by simp[execOp,j,g,C,eqGuard,N,Go.binOp,M6 f]⟩
    cases h
  rename_i ac u' l Q;cases k:zR P op t ac u' with
  |none=>simp[k]at h
  |some d=>
   simp[k]at h;subst h;have g:=Bg D y;rw[l]at g;have g:=g.of_sc;have C:=Bg D z;rw[Q]at C;have C:=C.of_sc
   exact⟨d,VR.sc d,λB _=>by
     have:=jj (x:=y) (y:=z) k B;simp only[execOp,j,g,C];rw[Sem.run_bind,this]
     rfl⟩
 case unOp op t y=>
  simp only[aq]at h;split at h;rename_i b l;cases h;have g:=Bg D y;rw[l]at g;have g:=g.of_sc;exact⟨_,VR.sc _,λB _=>by simp[execOp,j,g,Op.unary]⟩;rename_i a8 a4 l;cases h;have g:=Bg D y;rw[l]at g;have g:=g.of_sc;exact⟨_,VR.sc _,λB _=>by simp[execOp,j,g,Op.unary,Op.intArith]⟩;cases h
 case convert src dst y=>
  let⟨v,E,e⟩:=xI (F:=F) I D h;exact⟨v,E,λB S=>by simp[execOp,j,e B S]⟩
 case slice t y lo hi mx=>
  let⟨v,E,e⟩:=XO D h;exact⟨v,E,λB S=>by simp[execOp,j,e B]⟩
 case call c=>
  let⟨a9,u,ts⟩:=c;cases a9 with
  |value a7=>simp[aq]at h
  |invoke d m=>simp[aq]at h
  |builtin b=>
   cases b<;>try (simp[aq]at h;done)
   case len=>
     simp only[aq]at h;let⟨u⟩:=u;let⟨ts⟩:=ts;split at h;rename_i b t l K;simp at l K;cases u with
     |nil=>simp at l
     |cons y d=>
      cases d with
      |cons z d=>simp at l
      |nil=>
       simp at l;split at h;rename_i M;simp at h;subst h;have g:=Bg D y;rw[l]at g;have g:=g.of_sc;exact⟨_,VR.sc _,λB _=>by simp[execOp,j,resolve,invoke,Go.builtin,Builtin.len_,K,g,run_underlying M,goInt]⟩;simp at h
     rename_i xs id a4 t l K;simp at l K;cases u with
     |nil=>simp at l
     |cons y d=>
      cases d with
      |cons z d=>simp at l
      |nil=>
       simp at l;split at h;rename_i M;let⟨⟨z,q⟩,hz⟩:=NF.1 M;obtain⟨a3,ie,E,-⟩:=Fe hz;cases h;have g:=Bg D y;rw[l]at g;obtain⟨base,a6,R,-⟩:=VR.of_sl g;exact⟨_,VR.sc _,λB _=>by simp[execOp,j,resolve,invoke,Go.builtin,Builtin.len_,K,R,run_underlying E,goInt]⟩;cases h
     rename_i p ab a4 t l K;simp at l K;cases u with
     |nil=>simp at l
     |cons y d=>
      cases d with
      |cons z d=>simp at l
      |nil=>
       simp at l;split at h;rename_i M;let⟨⟨z,q⟩,hz⟩:=NF.1 M;obtain⟨a3,ie,E,-⟩:=Fe hz;cases h;have g:=Bg D y;rw[l]at g;obtain⟨⟨a6,R⟩,-⟩:=VR.of_fx g;exact⟨_,VR.sc _,λB _=>by simp[execOp,j,resolve,invoke,Go.builtin,Builtin.len_,K,R,run_underlying E,goInt]⟩;cases h
     rename_i xs p a4 a6 t l K;simp at l K;cases u with
     |nil=>simp at l
     |cons y d=>
      cases d with
      |cons z d=>simp at l
      |nil=>
       simp at l;split at h;rename_i M;let⟨⟨z,q⟩,hz⟩:=NF.1 M;obtain⟨a3,ie,E,-⟩:=Fe hz;cases h;have g:=Bg D y;rw[l]at g;obtain⟨R,-,-⟩:=VR.of_gx g;exact⟨_,VR.sc _,λB _=>by simp[execOp,j,resolve,invoke,Go.builtin,Builtin.len_,K,R,run_underlying E,goInt]⟩;cases h
     cases h
end
def P0 (P:Program)(t:TypeId):Option (Nat×Nat×List Value):=
 match P.underlying t with
 |some (.slice e)=>(P.info? e).bind λi=>i.zero.map λz=>(i.size,i.bytes,z.cells.toList)
 |_=>none
def iK (P:Program)(t e:TypeId)(x y:AV)(A:St):Option (AV×St):=
  match x,y,P0 P t with
  |.slice c [.held (.inr (id,n,none))],.slice a [.held (.inr (_,m,none))],some (z,b,d)=>
   if e=t/\0<z/\Z d=z/\Z c=n*z/\Z a=m*z/\a.all flat/\0<m/\(n+m)*b<=140737488355328/\n+m<=1099511627776 then
     (match id with
      |0=>none
      |1=>some (sl (A.D+2) m a,A.lay m)
      |k+2=>if A.top k=n/\0<n then some (sl (k+2) (n+m) (c++a),A.raise k (n+m))else none)
   else none
  |_,_,_=>none
def al (P:Program)(s:Nat->AV)(A:St):Op->Option (AV×St)
 |.alloc t=>(Gu P t).map λz=>(ptr A.B 0,A.new (z.map cst1))
 |.box _ x=>some (ptr A.B 0,A.new (acells (BR s x)))
 |.store t x y=>(match J3 P t,BR s x with
  |some (_,n),.held (.inr (o,f,none))=>
   if Z (acells (BR s y))=n/\(acells (BR s y)).all flat/\f+n<=Z (A.C o) then some (sc undef,A.put o (lsp (A.C o) f (acells (BR s y))))else none
  |_,_=>none)
 |.buildSlice t d a=>(match P0 P t with
  |some (z,_,e)=>
   if d=0 then (if a.size=0 then some (H,A)else none)else
   if Z e=z/\d*z<=16777216/\0<z then
    (CK (λi=>some (i*z,z)) ((replicate d (e.map cst1)).flatten) (a.toList.map λp=>(p.1,BR s p.2))).map λg=>(sl (A.D+2) d g,A.lay d)
   else none
  |none=>none)
 |.makeSlice t l c=>(match P0 P t,Z0 (BR s l),Z0 (BR s c)with
  |some (z,b,[k]),some n,some m=>if z=1/\0<=n/\n=m/\(b:Int)*n<=281474976710656/\n<=1099511627776 then some (fx A.B 0 n.toNat,A.new (replicate n.toNat (cst1 k)))else none
  |some (z,b,j::z2::e),some n,some m=>if z=Z e+2/\0<=n/\n=m/\(b:Int)*n<=281474976710656/\n<=1099511627776 then some (fx A.B 0 n.toNat,A.new (replicate n.toNat ((j::z2::e).map cst1)).flatten)else
   if z=Z e+2/\n=0/\0<m/\(b:Int)*m<=281474976710656/\m<=1099511627776 then some (gx A.B 0 m.toNat,A.new (replicate m.toNat ((j::z2::e).map cst1)).flatten)else none
  |_,_,_=>none)
 |.call {callee:=.builtin .append,args:=args,argTypes:=ts}=>(match args.toList,ts.toList with
  |[x,y],[t,q]=>iK P t q (BR s x) (BR s y) A
  |_,_=>none)
 |_=>none
def LW (G:Gh)(A:St)(w:World)(d:Result Next)(x:AV)(b:St):Prop:=
 ∃v a c,(d= .ok (.value v) a\/(d= .ok .skip a/\v=undef))/\Inv c b a/\CH G A w c b a/\VR c b a v x
section
variable {P:Program} {G:Gh} {A:St} {w:World} {s:Nat->AV} {a:Act}
theorem Kv {t z b f}(h:P0 P t=some (z,b,f)):∃e i a,P.underlying t=some (.slice e)/\P.info? e=some i/\i.zero=some a/\i.size=z/\i.bytes=b/\a.cells.toList=f:=by
 rw[P0]at h;split at h;rename_i e g;cases c:P.info? e with
 |none=>simp[c]at h
 |some i=>
  cases d:i.zero with
  |none=>simp[c,d]at h
  |some a=>simp[c,d]at h;exact⟨e,i,a,g,c,d,h.1,h.2.1,h.2.2⟩
 cases h
theorem L0:∀(b l:oh) (a:Nat),Z (lsp l a b)=Z l
 |[],l,a=>rfl
 |y::b,l,a=>by simp[lsp,L0 b]
theorem Hw:∀(b l:oh) (a:Nat),a+Z b<=Z l->lsp l a b=l.take a++b++l.drop (a+Z b)
 |[],l,a,_=>by simp[lsp]
 |y::b,l,a,h=>by
  have d:a<Z l:=gp
  rw[lsp,Hw b _ _ (gp)];have c:(l.set a y).take (a+1)=l.take a++[y]:=by rw[AT,take_set];simp only[GH,d,if_true];rw[set_eq_of_length_le (gp)];simp
  have e:(l.set a y).drop (a+1+Z b)=l.drop (a+Z (y::b)):=by rw[drop_set_of_lt L];grind
  rw[c,e];simp
theorem Qf (f:Nat->Value):Array.map f (Array.range 0)=#[]:=gp
theorem Inv.garbage (I:Inv G A w)(o):Inv G A (w.alloc o)/\CH G A w G A (w.alloc o):=by have E:CH G A w G A (w.alloc o):=⟨rfl,rfl,AU _,λ_ _=>rfl,AU _,λ_ _=>⟨AU _,rfl,λ_=>⟨rfl,rfl⟩⟩,λb d p=>⟨p,O4 (I.perlt _ _ p)⟩,λo h=>⟨AU _,λ_=>Ox (I.blk_lt h)⟩⟩;have a:∀b,b<w.heap.size->(w.alloc o).heap[b]?=w.heap[b]?:=λb h=>Go.RowKit.Below.heap_alloc w _ b h;refine⟨⟨λp n=>?_,I.inj,λk m=>?_,I.linj,I.apart,λb d p=>?_,I.perlo,I.below.alloc I.le _,?_,I.hyp⟩,E⟩;let⟨l,s,j⟩:=I.C p n;refine⟨l,gp,λi=>?_⟩;let⟨⟨c,e,f,g⟩,q⟩:=j i;exact⟨⟨c,e,gp,VR.all E g⟩,q⟩;let⟨l,⟨c,e,f,g⟩,j⟩:=I.lin k m;exact⟨l,⟨c,e,gp,g⟩,j⟩;have:=I.perlt _ _ p;simp;omega;have:=I.le;simp;omega
theorem ZF (I:Inv G A w){t x e o}(c:o.op= .alloc t)(h:al P s A (.alloc t)=some (x,e)):LW G A w ((execOp a.eval o).run P w) x e:=by
 simp only[al,Gu]at h;cases b:P.info? t with
 |none=>simp[b]at h
 |some i=>
  cases d:i.zero with
  |none=>simp[b,d]at h
  |some z=>
   simp[b,d]at h;obtain⟨rfl,rfl⟩:=h;have f:AP (VR G A w) z.cells.toList (z.cells.toList.map Abs.cst1):=by have:=AP.of_map (R:=VR G A w) (λv:Value=>v) Abs.cst1 (λv=>VR.cst1 v) z.cells.toList;simpa using this
   let⟨j,k,E,g⟩:=I.newObj z.cells t _ f;refine⟨.pointer (some ⟨w.heap.size,0,none⟩),_,j,.inl ?_,k,E,VR.fold ⟨gp,by simp[St.new]⟩⟩;simp[execOp,c,Instr.alloc,zeroValue,typeInfo,b,d,newVar,newRow]
theorem k7 (I:Inv G A w)(g:∀t,VR G A w (a.tmps.getD t undef) (s t)){t y x c o}(b:o.op= .box t y)(h:al P s A (.box t y)=some (x,c)):LW G A w ((execOp a.eval o).run P w) x c:=by simp[al]at h;obtain⟨rfl,rfl⟩:=h;let⟨e,f,E,d⟩:=I.newObj (a.eval y).cells t _ (Bg g y).cells;refine⟨.pointer (some ⟨w.heap.size,0,none⟩),_,e,.inl ?_,f,E,VR.fold ⟨gp,by simp[St.new]⟩⟩;simp[execOp,b,Instr.box,newVar,newRow]
theorem ZE (I:Inv G A w)(q:∀t,VR G A w (a.tmps.getD t undef) (s t)){t y z x Q o}(k:o.op= .store t y z)(h:al P s A (.store t y z)=some (x,Q)):LW G A w ((execOp a.eval o).run P w) x Q:=by
 simp only[al]at h;split at h
 case h_2=>cases h
 rename_i M n p b B D;split at h
 case isFalse=>cases h
 rename_i R;let⟨N,F,m⟩:=R;cases h;have u:=Bg q y;rw[D]at u;let⟨K,C⟩:=VR.of_ptr u;have i:=(Bg q z).cells;have d:A.C p≠[]:=λe=>by have:=YD B;grind
 obtain⟨⟨c,e,S,j⟩,-⟩:=(I.C p C).2.2 d;have v:c.size=Z (A.C p):=by have:=j.1;grind
 have l:(a.eval z).cells.size=n:=by have:=i.1;grind
 have g:=run_storeCells_at P (G.blk p) b e (a.eval z).cells.toList 0 c w S (gp) (Zz i F);have f:AP (VR G A w) (c.toList.take b++(a.eval z).cells.toList++c.toList.drop (b+Z (a.eval z).cells.toList)).toArray.toList (lsp (A.C p) b (acells (BR s z))):=by rw[Hw _ _ _ L,<-i.1];exact ((j.take b).append i).append (j.drop _)
 let⟨T,E⟩:=I.setObj C d _ _ f;refine⟨undef,_,G,.inr ⟨?_,rfl⟩,T,E,VR.sc _⟩;simp only[GZ]at g;simp[execOp,k,Instr.storeAt,K,Instr.sureAddr,storeVar,(Cu B w).2,l,g]
theorem Gc {z:List Value}{n}:((Array.range (n*Z z)).map (z.toArray[· % z.toArray.size]!)).toList=(replicate n z).flatten:=by
 by_cases c:Z z=0;have:z=[]:=GG c;subst this;simp;induction n with
 |zero=>simp
 |succ n b=>
  rw[replicate_succ',flatten_append,<-b];simp only[Array.toList_map,Array.toList_range];rw[If,range_add,EU,BH];congr 1;simp only[flatten_cons,flatten_nil,EJ];apply FL;intro i;by_cases a:i<Z z;have:(n*Z z+i) % Z z=i:=by rw[Nat.mul_comm,Nat.mul_add_mod];exact Nat.mod_eq_of_lt a
  simp[a,this];simp[a]
theorem AP.flatten_replicate {R l m}(h:AP R l m):∀n,AP R (replicate n l).flatten (replicate n m).flatten
 |0=>by simp;exact AP.nil R
 |n+1=>by simp only[replicate_succ,flatten_cons];exact h.append (AP.flatten_replicate h n)
theorem gI (I:Inv G A w)(hs:∀t,VR G A w (a.tmps.getD t undef) (s t)){t f d x M o}(C:o.op= .buildSlice t f d)
   (h:al P s A (.buildSlice t f d)=some (x,M)):LW G A w ((execOp a.eval o).run P w) x M:=by
 simp only[al]at h;split at h
 case h_2=>cases h
 rename_i z ad m ht;let⟨e,i,y,S,n,hz,h1,h2,h3⟩:=Kv ht;split at h;rename_i Q;subst Q;split at h
 case isFalse=>cases h
 rename_i u;cases h;have a7:d=#[]:=gp
 subst a7;let⟨K,E⟩:=I.garbage (.cells #[] e);refine⟨.slice (some ⟨w.heap.size,0,none⟩) 0 0,w.alloc (.cells #[] e),G,.inl ?_,K,E,VR.fold ⟨_,_,rfl,⟨AU _,λ_=>⟨rfl,rfl⟩⟩,λh=>absurd rfl h,λk hk=>L⟩⟩;simp[execOp,C,Instr.buildSlice,run_underlying S,sizeOf,typeInfo,n,Instr.fill,newRow,Qf];rename_i Q;split at h
 case isFalse=>cases h
 rename_i hc;let⟨D,ae,a6⟩:=hc;cases q:CK (λi=>some (i*z,z)) ((replicate f (m.map Abs.cst1)).flatten) (d.toList.map λp=>(p.1,BR s p.2))with
 |none=>simp[q]at h
 |some xs=>
  simp[q]at h;obtain⟨rfl,rfl⟩:=h;have a1:AP (VR G A w) m (m.map Abs.cst1):=by have:=AP.of_map (R:=VR G A w) (λv:Value=>v) Abs.cst1 (λv=>VR.cst1 v) m;simpa using this
  have aa:AP (VR G A w) ((Array.range (f*z)).map (y.cells[· % y.cells.size]!)).toList ((replicate f (m.map Abs.cst1)).flatten):=by
    have e1:y.cells=m.toArray:=gp
    rw[e1,<-D,Gc];exact a1.flatten_replicate f
  let⟨B,g1,N⟩:=Sn (place':=λi=>some (i*z,z)) (λ_ _ h=>h) (d.toList.map λp=>(p.1,a.eval p.2)) (d.toList.map λp=>(p.1,BR s p.2)) _ _ xs aa (by simp)
    (λi p a0 u U=>by
      simp only[DC]at u U;cases n:d.toList[i]? with
      |none=>simp[n]at u
      |some ab=>
       simp[n]at u U;subst u;subst U
       exact⟨rfl,Bg hs ab.2⟩) q
  have a5:∀(g:Nat->Option (Nat×Nat)) (l:List (Nat×AV)) (c b:oh),CK g c l=some b->Z b=Z c:=by
    intro g l;induction l with
    |nil=>intro c b h;simp[CK]at h;rw[h]
    |cons a0 l ih=>
     intro c b h;let⟨j,ac⟩:=a0;simp only[CK]at h;split at h;cases h;split at h;cases h;rw[ih _ _ h,L0]
  have F:Z xs=f*z:=by rw[a5 _ _ _ _ q];simp[D]
  have a8:B.size=f*z:=by have:=N.1;grind
  let⟨G',K,E,k1,k2,k3,k4⟩:=I.newRow B e f f z a8 (AU _);refine⟨.slice (some ⟨w.heap.size,0,none⟩) f f,w.alloc (.cells B e),G',.inl ?_,K,E,VR.fold ⟨_,_,rfl,⟨AU _,λh=>L⟩,λ_=>⟨w.heap.size,0,rfl,λj ac T=>?_⟩,λk hk=>?_⟩⟩;have a4:f*z≠0:=by have:0<f*z:=KX L a6;omega
  have a9:¬(16777216<f*z):=L
  simp only[execOp,C,Instr.buildSlice,Sem.run_bind,run_underlying S,Result.andThen_ok,sizeOf,typeInfo,run_program,n,Sem.run_pure,h1];simp[a9,a4,zeroValue,typeInfo,n,hz,g1,newRow];let⟨c,a2,hr⟩:=N.get T;have hj:=F▸(BA.1 T).1
  refine⟨gp,c,?_,hr.ext E⟩;have:(w.alloc (.cells B e)).cell? ⟨w.heap.size,0+j,none⟩=B[0+j]?:=Ko;rw[this];simpa using a2;have a3:k=A.D:=L;subst a3;refine⟨by simp[St.lay],by simp[St.lay],k3▸F,λ_=>⟨gp,gp⟩⟩
theorem nK (I:Inv G A w)(F:∀t,VR G A w (a.tmps.getD t undef) (s t)){t l c x A' o}(C:o.op= .makeSlice t l c)
  (h:al P s A (.makeSlice t l c)=some (x,A')):LW G A w ((execOp a.eval o).run P w) x A':=by
 simp only[al]at h;split at h
 case h_3=>cases h
 case h_1=>
  rename_i a3 a8 N n m a1 a2 a0;split at h
  case isFalse=>cases h
  rename_i M;obtain⟨rfl,c2,rfl,c4,c5⟩:=M;cases h;let⟨e,i,k,z,B,K,D,a4,a5⟩:=Kv a1;let⟨k1,b⟩:=Gk (Bg F l) a2;let⟨k2,e2⟩:=Gk (Bg F c) a0;have S:=Go.IntWalk.i64_in n ⟨L,L⟩;have Q:k.cells=#[N]:=gp
  have d:((Array.range (n.toNat*1)).map (k.cells[· % k.cells.size]!)).toList=replicate n.toNat N:=by rw[Q];have:=Gc (z:=[N]) (n:=n.toNat);simpa using this
  have j:AP (VR G A w) ((Array.range (n.toNat*1)).map (k.cells[· % k.cells.size]!)).toList (replicate n.toNat (Abs.cst1 N)):=by rw[d];have:=AP.of_map (R:=VR G A w) (λv:Value=>v) Abs.cst1 (λv=>VR.cst1 v) (replicate n.toNat N);simpa using this
  let⟨T,U,E,a6⟩:=I.newObj _ e _ j;refine⟨.slice (some ⟨w.heap.size,0,none⟩) n.toNat n.toNat,_,T,.inl ?_,U,E,VR.fold ⟨⟨n.toNat,gp,AU _⟩,by simp[St.new]⟩⟩;have f:¬n<0:=L;have g:¬((i.bytes:Int)*n>281474976710656):=gp
  simp only[execOp,C,Instr.makeSlice,Sem.run_bind,run_underlying z,Result.andThen_ok,b,e2,asInt,asIntOf,Sem.run_pure,typeInfo,run_program,B,S];by_cases p:n.toNat=0;simp[f,g,sizeOf,typeInfo,B,D,p,newRow,Qf];simp[f,g,sizeOf,typeInfo,B,D,p,zeroValue,K,newRow]
 case h_2=>
  rename_i a3 a8 u y q n m a1 a2 a0;split at h
  case isTrue=>
   rename_i M;obtain⟨rfl,c2,rfl,c4,c5⟩:=M;cases h;let⟨e,i,k,z,B,K,D,a4,a5⟩:=Kv a1;let⟨k1,b⟩:=Gk (Bg F l) a2;let⟨k2,e2⟩:=Gk (Bg F c) a0;have S:=Go.IntWalk.i64_in n ⟨L,L⟩;have Q:k.cells=(u::y::q).toArray:=gp
   have d:((Array.range (n.toNat*(Z q+2))).map (k.cells[· % k.cells.size]!)).toList=(replicate n.toNat (u::y::q)).flatten:=by rw[Q];have:=Gc (z:=u::y::q) (n:=n.toNat);grind
   have j:AP (VR G A w) ((Array.range (n.toNat*(Z q+2))).map (k.cells[· % k.cells.size]!)).toList (replicate n.toNat ((u::y::q).map Abs.cst1)).flatten:=by rw[d];have:=AP.of_map (R:=VR G A w) (λv:Value=>v) Abs.cst1 (λv=>VR.cst1 v) (replicate n.toNat (u::y::q)).flatten;rw[map_flatten,map_replicate]at this;simpa using this
   let⟨T,U,E,a6⟩:=I.newObj _ e _ j;refine⟨.slice (some ⟨w.heap.size,0,none⟩) n.toNat n.toNat,_,T,.inl ?_,U,E,VR.fold ⟨⟨n.toNat,gp,AU _⟩,by simp[St.new]⟩⟩;have f:¬n<0:=L;have g:¬((i.bytes:Int)*n>281474976710656):=gp
   simp only[execOp,C,Instr.makeSlice,Sem.run_bind,run_underlying z,Result.andThen_ok,b,e2,asInt,asIntOf,Sem.run_pure,typeInfo,run_program,B,S];by_cases p:n.toNat=0;simp[f,g,sizeOf,typeInfo,B,D,p,newRow,Qf];simp[f,g,sizeOf,typeInfo,B,D,p,zeroValue,K,newRow];intro h0;cases (Nat.ne_of_gt (KX L L)) h0
  split at h
  case isFalse=>cases h
  rename_i M;obtain⟨rfl,rfl,c2,c4,c5⟩:=M;cases h;let⟨e,i,k,z,B,K,D,a4,a5⟩:=Kv a1;let⟨k1,b⟩:=Gk (Bg F l) a2;let⟨k2,e2⟩:=Gk (Bg F c) a0;have S:=Go.IntWalk.i64_in m ⟨L,L⟩;have a7:IntKind.i64.wrap 0=0:=rfl;have Q:k.cells=(u::y::q).toArray:=gp
  have d:((Array.range (m.toNat*(Z q+2))).map (k.cells[· % k.cells.size]!)).toList=(replicate m.toNat (u::y::q)).flatten:=by rw[Q];have:=Gc (z:=u::y::q) (n:=m.toNat);grind
  have j:AP (VR G A w) ((Array.range (m.toNat*(Z q+2))).map (k.cells[· % k.cells.size]!)).toList (replicate m.toNat ((u::y::q).map Abs.cst1)).flatten:=by rw[d];have:=AP.of_map (R:=VR G A w) (λv:Value=>v) Abs.cst1 (λv=>VR.cst1 v) (replicate m.toNat (u::y::q)).flatten;rw[map_flatten,map_replicate]at this;simpa using this
  let⟨T,U,E,a6⟩:=I.newObj _ e _ j;refine⟨.slice (some ⟨w.heap.size,0,none⟩) 0 m.toNat,_,T,.inl ?_,U,E,VR.fold ⟨gp,Nat.zero_le _,by simp[St.new]⟩⟩;have f:¬m<0:=L
  have g:¬((i.bytes:Int)*m>281474976710656):=gp
  simp only[execOp,C,Instr.makeSlice,Sem.run_bind,run_underlying z,Result.andThen_ok,b,e2,asInt,asIntOf,Sem.run_pure,typeInfo,run_program,B,S,a7];have p:¬m.toNat=0:=L;simp[f,g,sizeOf,typeInfo,B,D,p,zeroValue,K,newRow];intro h0;cases (Nat.ne_of_gt (KX L L)) h0
theorem Mf (w t B e i)(q:P.underlying t=some (.slice e))(A:P.info? e=some i)
 (g v y x z) (l:w.heap[g]?=some (.cells x z (0,0)))
 (a m c s) (n:Z s=m*i.size) (d:∀j u,s[j]?=some u->w.cell? (a.add j)=some u) (p:∀u∈s,u.oneCell')
 (b:v+m<=y) (f:v*i.size+Z s<=x.size):
 (Builtin.append_ #[t,t] B #[.slice (some ⟨g,0,none⟩) v y,.slice (some a) m c]).run P w=
  .ok (.slice (some ⟨g,0,none⟩) (v+m) y) (w.setRow g (x.toList.take (v*i.size)++s++x.toList.drop (v*i.size+Z s)).toArray):=by have o:=run_firstCells_some (P:=P) w i.size m a m c s n d;have k:=run_storeCells_at P g (v*i.size) z s 0 x w l (gp) p;simp only[GZ]at k;simp[Builtin.append_,run_underlying q,sizeOf,typeInfo,A,Builtin.lenOf,b,o,Addr.add_lit,k]
theorem WH (I:Inv G A w)(hs:∀t,VR G A w (a.tmps.getD t undef) (s t)){K ts x A' o}(be:o.op= .call {callee:=.builtin .append,args:=K,argTypes:=ts})
    (h:al P s A (.call {callee:=.builtin .append,args:=K,argTypes:=ts})=some (x,A')):LW G A w ((execOp a.eval o).run P w) x A':=by
  let⟨K⟩:=K;let⟨ts⟩:=ts;simp only[al]at h;split at h
  case h_2=>cases h
  rename_i y1 y2 t g;unfold iK at h;split at h
  case h_2=>cases h
  rename_i xs id n ys bv m z bo zc hx hy ht;split at h
  case isFalse=>cases h
  rename_i hc;obtain⟨rfl,c2,c3,l,v,c6,c7,c8,c9⟩:=hc;let⟨e,i,f,D,hi,hz,N,h2,h3⟩:=Kv ht;have au:=Bg hs y1;have av:=Bg hs y2;rw[hx]at au;rw[hy]at av;let⟨ay,bq,e1,⟨br,bk⟩,bl,bn⟩:=VR.of_sl au;obtain⟨bp,a2,e2,-,bm,-⟩:=VR.of_sl av;have bj:ys≠[]:=fun e=>by have:0<m*z:=KX c7 c2;rw[e]at v;simp at v;omega
  obtain⟨M,R,rfl,b7⟩:=bm bj;let⟨b,a0,ba⟩:=b7.list;have B:Z b=m*i.size:=by rw[a0.1,v,N]
  have b6:=Zz a0 c6
  have aw:f.cells.size=z:=by have:Z f.cells.toList=Z zc:=gp
                             simp at this;omega
  have az:∀(w':World),(∀j u,b[j]?=some u->w'.cell? ⟨M,R+j,none⟩=some u)->∀j u,b[j]?=some u->w'.cell? ((⟨M,R,none⟩:Addr).add j)=some u:=fun w' h j u D=>by rw[Addr.add_lit];exact h j u D
  have a6:=az w ba;have a9:∀ah,(Builtin.append_ #[g,g] o.type #[a.eval y1,a.eval y2]).run P w=ah->(execOp a.eval o).run P w=ah.andThen fun ax w'=>.ok (.value ax) w':=fun ah q=>by subst q;simp only[execOp,be,resolve,invoke,Go.builtin,Sem.run_bind,Sem.run_pure,Result.andThen_ok,map_toArray,CC,IK]
  --a new row of (n+m) elements,made in the world w.drew
  split at h
  · cases h
  · cases h
    let⟨a5,a7⟩:=bk rfl;subst a5;subst a7;simp only[KY]at l;have bi:xs=[]:=GG l;subst bi;have aa:m<=grownCap w m 0 e:=grownCap_ge w m 0 e;let⟨I1,E1⟩:=I.drawn (w.drawn+1);have C:(b.toArray++Builtin.zeroCells f.cells (grownCap w m 0 e-m)).size=grownCap w m 0 e*z:=by simp only[Array.size_append,size_toArray,size_zeroCells,aw,B,N,<-FM];congr 1;omega
    let⟨T,U,E,k1,k2,k3,k4⟩:=I1.newRow (b.toArray++Builtin.zeroCells f.cells (grownCap w m 0 e-m)) e m (grownCap w m 0 e) z C aa;have a1:(Builtin.append_ #[g,g] o.type #[a.eval y1,a.eval y2]).run P w= .ok (.slice (some ⟨w.heap.size,0,none⟩) m (grownCap w m 0 e)) (w.drew.alloc (.cells (b.toArray++Builtin.zeroCells f.cells (grownCap w m 0 e-m)) e)):=by
      rw[e1,e2];cases ay with
      |none=>exact run_append_nil (P:=P) w g o.type e i f D hi hz ⟨M,R,none⟩ m a2 b B a6 c7 L (gp)
      |some ad=>
       have:=run_append_grow (P:=P) w g o.type e i f D hi hz ad 0 0 [] (by simp) (fun j ax hv=>gp) ⟨M,R,none⟩ m a2 b B a6 L L (growslice_fits L (h2▸c8));simpa using this
    refine⟨_,_,T,.inl (by rw[a9 _ a1];rfl),U,E1.trans E,VR.fold ⟨_,_,rfl,⟨gp,fun h=>L⟩,fun _=>⟨w.heap.size,0,rfl,fun j ai p=>?_⟩,fun k Q=>?_⟩⟩
    · let⟨c,y,q⟩:=a0.get p
      have a4:j<m*z:=v▸(BA.1 p).1
      refine⟨gp,c,?_,q.ext (E1.trans E)⟩;have:(w.drew.alloc (.cells (b.toArray++Builtin.zeroCells f.cells (grownCap w m 0 e-m)) e)).cell? ⟨w.heap.size,0+j,none⟩=(b.toArray++Builtin.zeroCells f.cells (grownCap w m 0 e-m))[0+j]?:=Ko (w:=w.drew);refine Eq.trans this ?_;rw[DY,Array.getElem?_append_left (gp)];simpa using y
    · have ab:k=A.D:=L
      subst ab;exact⟨by simp[St.lay],by simp[St.lay],k3▸v,fun _=>⟨gp,gp⟩⟩
  · rename_i k
    split at h
    case isFalse=>cases h
    rename_i b3;let⟨ap,a5⟩:=b3;cases h;let⟨Q,bt,bu,bg⟩:=bn k rfl;let⟨b0,a7⟩:=bg ap.symm;subst b0;subst a7;have C:G.siz k=z:=Nat.eq_of_mul_eq_mul_left a5 L;let⟨lb,⟨d,aj,a3,b4⟩,bx,bw⟩:=I.lin k Q;have bh:xs≠[]:=fun e=>by have:0<n*z:=KX a5 c2;rw[e]at l;simp at l;omega
    let⟨bb,oo,b1,an⟩:=bl bh;cases b1;let⟨F,ao,bc⟩:=an.list;have ae:Z F=n*i.size:=by rw[ao.1,l,N]
    by_cases af:n+m<=G.cap k
    · have b5:n*i.size+Z b<=d.size:=by rw[B,b4,N,C,<-FM];exact GW _ af
      have a1:(Builtin.append_ #[g,g] o.type #[a.eval y1,a.eval y2]).run P w= .ok (.slice (some ⟨G.cur k,0,none⟩) (n+m) (G.cap k)) (w.setRow (G.cur k) (d.toList.take (n*i.size)++b++d.toList.drop (n*i.size+Z b)).toArray):=by rw[e1,e2];exact Mf w g o.type e i D hi (G.cur k) n (G.cap k) d aj a3 ⟨M,R,none⟩ m a2 b B a6 b6 af b5
      have b8:(d.toList.take (n*i.size)++b++d.toList.drop (n*i.size+Z b)).toArray.size=G.cap k*G.siz k:=gp
      have ak:∀S,S<n*z->(d.toList.take (n*i.size)++b++d.toList.drop (n*i.size+Z b)).toArray[S]?=d[S]?:=fun S ho=>gp
      let⟨T,U,E,k1,k2,k3,k4⟩:=I.growRoom Q (n+m) af L _ b8 (fun S ho=>by
        rw[ap,C]at ho;rw[ak S ho]
        simp[World.cell?,a3])
      refine⟨_,_,T,.inl (by rw[a9 _ a1];rfl),U,E,VR.fold ⟨_,_,rfl,⟨gp,fun h=>L⟩,fun _=>⟨G.cur k,0,rfl,fun j ai p=>?_⟩,fun k' ab=>?_⟩⟩
      · have a4:j<(n+m)*z:=gp
        have a8:(w.setRow (G.cur k) (d.toList.take (n*i.size)++b++d.toList.drop (n*i.size+Z b)).toArray).cell? ⟨G.cur k,0+j,none⟩=(d.toList.take (n*i.size)++b++d.toList.drop (n*i.size+Z b)).toArray[0+j]?:=
          cell_setRow_same w _ _ d _ aj _ a3
        refine⟨gp,?_⟩;rw[a8,DY];by_cases am:j<n*z
        · rw[MB (l▸am)]at p
          obtain⟨-,c,y,q⟩:=an j ai p;refine⟨c,?_,q.ext E⟩;rw[ak j am];have:w.cell? ⟨G.cur k,0+j,none⟩=d[0+j]?:=by simp[World.cell?,a3]
          rw[DY]at this y;exact this▸y
        · rw[JY (gp),l]at p
          let⟨c,y,q⟩:=a0.get p;refine⟨c,?_,q.ext E⟩;have b9:Z (d.toList.take (n*i.size))=n*z:=gp
          rw[getElem?_toArray,CR,JY L,b9,MB (gp)];exact y
      · have ac:k'=k:=L
        subst ac;refine⟨Q,by simp[St.raise],?_,fun _=>⟨by rw[k2],by rw[k3]⟩⟩;rw[k4,C,AX,l,v,FM]
    · have bd:∀j u,F[j]?=some u->w.cell? ((⟨G.cur k,0,none⟩:Addr).add j)=some u:=fun j u D=>by rw[Addr.add_lit];exact bc j u D
      have a1:(Builtin.append_ #[g,g] o.type #[a.eval y1,a.eval y2]).run P w= .ok (.slice (some ⟨w.heap.size,0,none⟩) (n+m) (grownCap w (n+m) (G.cap k) e)) (w.drew.alloc (.cells (F.toArray++b.toArray++Builtin.zeroCells f.cells (grownCap w (n+m) (G.cap k) e-(n+m))) e)):=by rw[e1,e2];exact run_append_grow (P:=P) w g o.type e i f D hi hz ⟨G.cur k,0,none⟩ n (G.cap k) F ae bd ⟨M,R,none⟩ m a2 b B a6 L L (growslice_fits L (h2▸c8))
      have aa:=grownCap_ge w (n+m) (G.cap k) e;let⟨I1,E1⟩:=I.drawn (w.drawn+1);have bf:(F.toArray++b.toArray++Builtin.zeroCells f.cells (grownCap w (n+m) (G.cap k) e-(n+m))).size=grownCap w (n+m) (G.cap k) e*G.siz k:=by simp only[Array.size_append,size_toArray,size_zeroCells,aw,B,ae,N,C,<-FM];congr 1;omega
      let⟨T,U,E,k1,k2,k3,k4⟩:=I1.growNew Q (n+m) _ aa L _ e bf;refine⟨_,_,T,.inl (by rw[a9 _ a1];rfl),U,E1.trans E,VR.fold ⟨_,_,rfl,⟨by assumption,fun h=>L⟩,fun _=>⟨w.heap.size,0,rfl,fun j ai p=>?_⟩,fun k' ab=>?_⟩⟩
      · have a4:j<(n+m)*z:=by have:=(BA.1 p).1;simp only[AX,l,v]at this;rw[FM];exact this
        let⟨c,y,q⟩:=(ao.append a0).get p;refine⟨by rw[C]at k1;simpa using k1 j a4,c,?_,q.ext (E1.trans E)⟩;have a8:(w.drew.alloc (.cells (F.toArray++b.toArray++Builtin.zeroCells f.cells (grownCap w (n+m) (G.cap k) e-(n+m))) e)).cell? ⟨w.heap.size,0+j,none⟩=(F.toArray++b.toArray++Builtin.zeroCells f.cells (grownCap w (n+m) (G.cap k) e-(n+m)))[0+j]?:=Ko (w:=w.drew);apply Eq.trans a8;rw[DY,Array.getElem?_append_left (by simp;rw[ae,B,N,<-FM];exact a4)];simpa using y
      · have ac:k'=k:=L
        subst ac;refine⟨Q,by simp[St.raise],?_,fun _=>⟨by rw[k2],by rw[k3]⟩⟩;rw[k4,C,AX,l,v,FM]
theorem TI (I:Inv G A w)(g:∀t,VR G A w (a.tmps.getD t undef) (s t)){o x i}(h:al P s A o.op=some (x,i)):LW G A w ((execOp a.eval o).run P w) x i:=by
 cases d:o.op<;>rw[d]at h<;>try (simp[al]at h;done)
 case alloc t=>exact ZF I d h
 case box t y=>exact k7 I g d h
 case store t y z=>exact ZE I g d h
 case buildSlice t len parts=>exact gI I g d h
 case makeSlice t l c=>exact nK I g d h
 case call c=>
  let⟨e,j,k⟩:=c;cases e with
  |value f=>simp[al]at h
  |invoke n m=>simp[al]at h
  |builtin b=>
   cases b<;>try (simp[al]at h;done)
   case append=>exact WH I g d h
end
abbrev Sl:=Nat->AV
abbrev Ig:=Exit->Sl->St->Prop
structure FK (n:Nat)(G:Gh)(s:Sl)(M:St)(a:Act)(w:World):Prop where
 defers:a.defers=[]
 size:n<=a.tmps.size
 tmps:∀t,VR G M w (a.tmps.getD t undef) (s t)
 inv:Inv G M w
def upd (s:Sl)(d:Nat)(x:AV):Sl:=λt=>if t=d then x else s t
def BC (s:Sl)(a:Option Tmp)(x:AV):Sl:=
 match a with
 |some d=>upd s d x
 |none=>s
def DF (n:Nat):Option Tmp->Bool
 |some d=>decide (d<n)
 |none=>true
def FK.put {n G G' s M M' a w c}(R:FK n G s M a w)(E:CH G M w G' M' c)(I:Inv G' M' c){v x}(j:VR G' M' c v x){b}(i:DF n b):
   FK n G' (BC s b x) M' (a.put b v) c:=by
 cases b with
 |none=>exact⟨R.defers,R.size,λt=>(R.tmps t).ext E,I⟩
 |some d=>
  have f:d<n:=by grind[DF]
  refine⟨R.defers,by simp[Act.put];exact R.size,λt=>?_,I⟩;have g:=BZ f R.size;simp only[Act.put,BC,upd];by_cases e:t=d;subst e;simp[MC,g];exact j;rw[if_neg e];have:(a.tmps.setIfInBounds d v).getD t undef=a.tmps.getD t undef:=by simp[MC,Array.getElem?_setIfInBounds_ne (Ne.symm e)]
  exact this▸(R.tmps t).ext E
def EH (n:Nat)(G:Gh)(M:St)(w:World)(Q:Ig):Exit->Act->World->Prop:=
 λe f b=>∃c d a,CH G M w c a b/\FK n c d a f b/\Q e d a
def EH.ext {n G G' M M' w b}(E:CH G M w G' M' b){Q e a u}(h:EH n G' M' b Q e a u):EH n G M w Q e a u:=
 let⟨d,i,g,c,f,q⟩:=h;⟨d,i,g,E.trans c,f,q⟩
def Mn (P:Program)(n:Nat)(c:Code)(Q:Ig)(s:Sl)(M:St):Prop:=
 ∀G a w,FK n G s M a w->c.wp P (EH n G M w Q) a w
def Sg (P:Program)(f:FuncId):Bool:=
 match P.funcs[f]? with
 |some a=>a.name != "runtime.NumGoroutine"&&a.body.isSome
 |none=>false
def AF (P:Program)(f:FuncId)(b:oh)(M:St)(R:AV->St->Prop):Prop:=
 Sg P f/\∀G w a,Inv G M w->AP (VR G M w) a.toList b->
  Calls P f a w λe d=>∃v g x c,e= .returned v/\Inv g c d/\CH G M w g c d/\VR g c d v x/\R x c
def AF.mono {P f a M R R'}(h:AF P f a M R)(d:∀x M',R x M'->R' x M'):AF P f a M R':=
 ⟨h.1,λG w c I A=>(h.2 G w c I A).mono λe m ⟨v,j,x,M',k,g,i,l,b⟩=>⟨v,j,x,M',k,g,i,l,d _ _ b⟩⟩
section rules
variable {P:Program} {n:Nat} {Q:Ig} {s:Sl} {M:St}
theorem A2 {c Q'}(h:Mn P n c Q s M)(b:∀e s M,Q e s M->Q' e s M):Mn P n c Q' s M:=
 λG a w R=>wp_mono (h G a w R) λe j k ⟨i,f,d,E,g,q⟩=>⟨i,f,d,E,g,b _ _ _ q⟩
theorem oJ (h:Q .normal s M):Mn P n .skip Q s M:=λG a w R=>wp_skip ⟨G,s,M,CH.refl _ _ _,R,h⟩
theorem vX (h:Q .ret s M):Mn P n .ret Q s M:=λG a w R=>wp_ret ⟨G,s,M,CH.refl _ _ _,R,h⟩
theorem oL {id}(h:Q (.exit id) s M):Mn P n (.exit id) Q s M:=λG a w R=>wp_exit ⟨G,s,M,CH.refl _ _ _,R,h⟩
def uP (K:Sl->St->Prop)(Q:Ig):Ig
 |.normal,s,M=>K s M
 |e,s,M=>Q e s M
theorem Iy {x y}(h:Mn P n x (uP (Mn P n y Q) Q) s M):Mn P n (.seq x y) Q s M:=λG a w R=>
 wp_seq (wp_mono (h G a w R) λe d f ⟨c,i,g,E,b,q⟩=>by
  cases e<;>first
   |exact wp_mono (q c d f b) λe l k j=>j.ext E
   |exact⟨c,i,g,E,b,q⟩)
theorem Sk {c x y t}(b:BR s c=sc (.bool t))(h:Mn P n (if t then x else y) Q s M):Mn P n (.cond c x y) Q s M:=λG a w R=>by have:=Bg R.tmps c;rw[b]at this;exact wp_cond this.of_sc (h G a w R)
def OH (id:Nat)(Q:Ig):Ig
 |.exit a,s,M=>if a=id then Q .normal s M else Q (.exit a) s M
 |e,s,M=>Q e s M
theorem fF {id c}(h:Mn P n c (OH id Q) s M):Mn P n (.block id c) Q s M:=λG a w R=>
 wp_block (wp_mono (h G a w R) λe j k ⟨i,f,d,E,g,q⟩=>by
  cases e<;>try exact⟨i,f,d,E,g,q⟩
  case exit id'=>
   simp only[OH,Exit.inBlock]at q⊢;split;rename_i b;rw[if_pos b]at q;exact⟨i,f,d,E,g,q⟩
   rename_i b;rw[if_neg b]at q;exact⟨i,f,d,E,g,q⟩)
theorem Ae {c}(I:Nat->Sl->St->Prop)(m)(u:I m s M)(b:∀m s M,I m s M->Mn P n c (uP (λd M'=>∃f,f<m/\I f d M') Q) s M):Mn P n (.loop c) Q s M:=λG a w R=>by
 have g:∀k m,m<k->∀G s M a w,FK n G s M a w->I m s M->Code.rounds P c (EH n G M w Q) k a w:=by
  intro k;induction k with
  |zero=>intro m p;omega
  |succ k ih=>
   intro m p G s M a w R v;refine wp_mono (b m s M v G a w R) λe l t ⟨G',d,M',E,R',q⟩=>?_;cases e<;>try exact⟨G',d,M',E,R',q⟩
   case normal=>
    let⟨f,o,i⟩:=q;have:=ih f L G' d M' l t R' i;refine Code.rounds_mono ?_ this;exact λe a w h=>h.ext E
 exact wp_loop_rounds (m+1) (g (m+1) m L G s M a w R u)
 where
 Code.rounds_mono {c:Code} {Q Q':Exit->Act->World->Prop} (j:∀e a w,Q e a w->Q' e a w) {k:Nat} {a:Act} {w:World} (h:Code.rounds P c Q k a w):Code.rounds P c Q' k a w:=by
  induction k generalizing a w with
  |zero=>exact h
  |succ k ih=>exact wp_mono h λe a w q=>by cases e<;>first|exact ih q|exact j _ _ _ q
end rules
def Li (all:List Oper)(o:Oper)(s:Sl):Option Bool:=
 match o.guard with
 |none=>some true
 |some (j,a)=>match (all[j]?).bind (·.dst)with
  |some d=>match s d with
   |.held (.inl (.bool b))=>some (b==a)
   |.held (.inl (.tuple _))=>some false
   |_=>none
  |none=>none
theorem N5 {n G s M a w}(R:FK n G s M a w){all o b}(h:Li all o s=some b):Region.wanted o (yielded all.toArray a.tmps)=b:=by
 rw[Li]at h;rw[Region.wanted];split at h;rename_i l;rw[l];simp at h;subst h;rfl;rename_i j f l;rw[l];split at h;rename_i d p;have g:((all.toArray)[j]?).bind (·.dst)=some d:=gp
 have i:=R.tmps d;split at h;rename_i t m;rw[m]at i;have c:=i.of_sc;have e:a.tmps[d]?=some (.bool t):=by
  rw[MC]at c;cases k:a.tmps[d]? with
  |none=>rw[k]at c;simp[undef]at c
  |some u=>rw[k]at c;simp at c;rw[c]
 simp only[yielded,g,FU,e];simp at h;rw[<-h];cases t<;>cases f<;>rfl;rename_i u m;rw[m]at i;have c:=i.of_sc;have e:yielded all.toArray a.tmps j=none:=by
  simp only[yielded,g,FU];rw[MC]at c;grind
 show (yielded all.toArray a.tmps j==some f)=b;rw[e];simp at h;subst h;rfl;cases h;cases h
def TJ (P:Program)(t g:TypeId)(x y:AV)(M:St)(K:AV->St->Prop):Prop:=
  ∃z b e f m d,P0 P t=some (z,b,e)/\y=sl f m d/\g=t/\0<z/\Z e=z/\Z d=m*z/\d.all flat/\0<m/\
   ((x=H/\m*b<=140737488355328/\m<=1099511627776/\∀a,m<=a->K (gx M.B m a) (M.new (d++(replicate (a-m) (e.map cst1)).flatten)))\/
    ∃o n a,x=gx o n a/\(n+m)*b<=140737488355328/\n+m<=1099511627776/\Z (M.C o)=a*z/\0<a/\
     (n+m<=a->K (gx o (n+m) a) (M.put o (lsp (M.C o) (n*z) d)))/\
     (a<n+m->∀c,n+m<=c->K (gx M.B (n+m) c) (M.new ((M.C o).take (n*z)++d++(replicate (c-(n+m)) (e.map cst1)).flatten))))
def Jx (P:Program)(t a:TypeId)(x y:AV)(M:St)(K:AV->St->Prop):Prop:=
 (match iK P t a x y M with
 |some (c,b)=>K c b
 |none=>False)\/TJ P t a x y M K
def DR (P:Program)(o:Oper)(s:Sl)(M:St)(K:AV->St->Prop):Prop:=
 match o.op with
 |.call {callee:=.value (.func f),args:=args,argTypes:=_}=>AF P f (args.toList.map (BR s)) M K
 |.call {callee:=.builtin .append,args:=args,argTypes:=ts}=>(match args.toList,ts.toList with
  |[x,y],[t,b]=>Jx P t b (BR s x) (BR s y) M K
  |_,_=>False)
 |op=>match aq P s M op with
  |some x=>K x M
  |none=>match al P s M op with
   |some (x,c)=>K x c
   |none=>False
theorem ZV {P G M w s}{a:Act}{a8}(I:Inv G M w)(hs:∀t,VR G M w (a.tmps.getD t undef) (s t)){q ts o}(ay:o.op= .call {callee:=.builtin .append,args:=q,argTypes:=ts})
  {U T t A} (ha:q.toList=[U,T]) (ab:ts.toList=[t,A]) (h:TJ P t A (BR s U) (BR s T) M a8):
  ∃x M' v l G',(execOp a.eval o).run P w= .ok (.value v) l/\Inv G' M' l/\CH G M w G' M' l/\VR G' M' l v x/\a8 x M':=by
 let⟨q⟩:=q;let⟨ts⟩:=ts;simp only at ha ab;subst ha;subst ab;obtain⟨z,b3,zc,b9,m,ys,ht,hy,rfl,c2,c3,c5,c6,c7,h⟩:=h;let⟨e,i,D,d,hi,hz,h1,h2,h3⟩:=Kv ht;have a1:=Bg hs U;have ac:=Bg hs T;rw[hy]at ac;obtain⟨b4,a0,e2,-,b1,-⟩:=VR.of_sl ac;have az:ys≠[]:=λe=>by
  have:0<m*z:=KX c7 c2;rw[e]at c5;simp at c5;omega
 obtain⟨K,N,rfl,au⟩:=b1 az;let⟨c,C,aw⟩:=au.list;have B:Z c=m*i.size:=by rw[C.1,c5,h1]
 have ai:=Zz C c6;have b8:D.cells.size=z:=gp
 have a3:∀j u,c[j]?=some u->w.cell? ((⟨K,N,none⟩:Addr).add j)=some u:=λj u d=>by rw[Addr.add_lit];exact aw j u d
 have ae:∀a6,(Builtin.append_ #[A,A] o.type #[a.eval U,a.eval T]).run P w=a6->(execOp a.eval o).run P w=a6.andThen λv l=>.ok (.value v) l:=λa6 hr=>by subst hr;simp only[execOp,ay,resolve,invoke,Go.builtin,Sem.run_bind,Sem.run_pure,Result.andThen_ok,map_toArray,CC,IK]
 have a9:∀(G:Gh) (M:St) (w:World) (n:Nat),AP (VR G M w) (Builtin.zeroCells D.cells n).toList (replicate n (zc.map cst1)).flatten:=λG M w n=>by
  have g:(Builtin.zeroCells D.cells n).toList=(replicate n zc).flatten:=by
    rw[<-h3];have:=Gc (z:=D.cells.toList) (n:=n);simpa[Builtin.zeroCells]using this
  rw[g];refine AP.flatten_replicate ?_ n;have:=AP.of_map (R:=VR G M w) (λv:Value=>v) cst1 (λv=>VR.cst1 v) zc;simpa using this
 obtain⟨hx,c8,c9,hk⟩|⟨p,n,b,hx,c8,c9,a5,b7,ao,ap⟩:=h;rw[hx]at a1;obtain⟨ah,b5,g,⟨b6,b0⟩,-,-⟩:=VR.of_sl a1;obtain⟨-,a7⟩:=b0 rfl;subst a7;have F:=grownCap_ge w m 0 e;let⟨I1,E1⟩:=I.drawn (w.drawn+1);have k:AP (VR G M {w with drawn:=w.drawn+1}) (c.toArray++Builtin.zeroCells D.cells (grownCap w m 0 e-m)).toList (ys++(replicate (grownCap w m 0 e-m) (zc.map cst1)).flatten):=by rw[Array.toList_append];exact (VR.all E1 C).append (a9 _ _ _ _)
 let⟨G',y,E,hb⟩:=I1.newObj _ e _ k;have a4:(Builtin.append_ #[A,A] o.type #[a.eval U,a.eval T]).run P w= .ok (.slice (some ⟨w.heap.size,0,none⟩) m (grownCap w m 0 e)) (w.drew.alloc (.cells (c.toArray++Builtin.zeroCells D.cells (grownCap w m 0 e-m)) e)):=by
  rw[g,e2];cases ah with
  |none=>exact run_append_nil (P:=P) w A o.type e i D d hi hz ⟨K,N,none⟩ m a0 c B a3 c7 L (gp)
  |some ad=>
   have:=run_append_grow (P:=P) w A o.type e i D d hi hz ad 0 0 [] (by simp) (λj v hv=>gp) ⟨K,N,none⟩ m a0 c B a3 L L (growslice_fits L (gp));simpa using this
 exact⟨gx M.B m (grownCap w m 0 e),_,.slice (some ⟨w.heap.size,0,none⟩) m (grownCap w m 0 e),_,G',by rw[ae _ a4];rfl,y,E1.trans E,VR.fold ⟨gp,F,by simp[St.new]⟩,hk _ F⟩;rw[hx]at a1;let⟨g,a7,ho⟩:=VR.of_gx a1;have aa:M.C p≠[]:=λe=>by have:0<b*z:=KX L c2;rw[e]at a5;simp at a5;omega
 obtain⟨⟨f,ak,S,Q⟩,-⟩:=(I.C p ho).2.2 aa;have am:f.size=b*z:=by have:=Q.1;rw[a5]at this;simpa using this
 by_cases a2:n+m<=b;have an:n*i.size+Z c<=f.size:=by rw[B,am,h1,<-FM];exact GW _ a2
 have a4:(Builtin.append_ #[A,A] o.type #[a.eval U,a.eval T]).run P w= .ok (.slice (some ⟨G.blk p,0,none⟩) (n+m) b) (w.setRow (G.blk p) (f.toList.take (n*i.size)++c++f.toList.drop (n*i.size+Z c)).toArray):=by rw[g,e2];exact Mf w A o.type e i d hi (G.blk p) n b f ak S ⟨K,N,none⟩ m a0 c B a3 ai a2 an
 have k:AP (VR G M w) (f.toList.take (n*i.size)++c++f.toList.drop (n*i.size+Z c)).toArray.toList (lsp (M.C p) (n*z) ys):=by
  have av:n*z+Z ys<=Z (M.C p):=gp
  rw[Hw _ _ _ av,h1,<-C.1];exact ((Q.take _).append C).append (Q.drop _)
 let⟨y,E⟩:=I.setObj ho aa _ _ k;exact⟨gx p (n+m) b,_,.slice (some ⟨G.blk p,0,none⟩) (n+m) b,_,G,jx,y,E,VR.fold ⟨rfl,a2,ho⟩,ao a2⟩;have ax:Z (f.toList.take (n*i.size))=n*i.size:=jx
 have af:∀j u,(f.toList.take (n*i.size))[j]?=some u->w.cell? ((⟨G.blk p,0,none⟩:Addr).add j)=some u:=λj u d=>by rw[Addr.add_lit];rw[GF]at d;split at d;simp[World.cell?,S];simpa using d;cases d
 have F:=grownCap_ge w (n+m) b e;let⟨I1,E1⟩:=I.drawn (w.drawn+1);have k:AP (VR G M {w with drawn:=w.drawn+1}) ((f.toList.take (n*i.size)).toArray++c.toArray++Builtin.zeroCells D.cells (grownCap w (n+m) b e-(n+m))).toList ((M.C p).take (n*z)++ys++(replicate (grownCap w (n+m) b e-(n+m)) (zc.map cst1)).flatten):=by rw[Array.toList_append,Array.toList_append,h1];exact ((VR.all E1 (Q.take _)).append (VR.all E1 C)).append (a9 _ _ _ _)
 let⟨G',y,E,hb⟩:=I1.newObj _ e _ k;have a4:(Builtin.append_ #[A,A] o.type #[a.eval U,a.eval T]).run P w= .ok (.slice (some ⟨w.heap.size,0,none⟩) (n+m) (grownCap w (n+m) b e)) (w.drew.alloc (.cells ((f.toList.take (n*i.size)).toArray++c.toArray++Builtin.zeroCells D.cells (grownCap w (n+m) b e-(n+m))) e)):=by rw[g,e2];exact run_append_grow (P:=P) w A o.type e i D d hi hz ⟨G.blk p,0,none⟩ n b _ ax af ⟨K,N,none⟩ m a0 c B a3 L L (growslice_fits L (h2▸c8))
 exact⟨gx M.B (n+m) (grownCap w (n+m) b e),_,.slice (some ⟨w.heap.size,0,none⟩) (n+m) (grownCap w (n+m) b e),_,G',by rw[ae _ a4];rfl,y,E1.trans E,VR.fold ⟨gp,F,by simp[St.new]⟩,ap L _ F⟩
theorem qJ {P f}(h:Sg P f)(g w):(callFunc f g).run P w= .ok (.enter f g) w:=by
 rw[Sg]at h;split at h;rename_i b e;simp at h;have d:=h.1;cases a:b.body with
 |none=>simp[a]at h
 |some c=>simp[callFunc,e,d,a]
 cases h
theorem AP.map_eval {n G s M a w}(R:FK n G s M a w):∀l:List Operand,AP (VR G M w) (l.map a.eval) (l.map (BR s))
 |[]=>AP.nil _
 |x::l=>AP.cons (Bg R.tmps x) (AP.map_eval R l)
theorem oZ {P n G s M a w}(R:FK n G s M a w){o K}(h:DR P o s M K)(m:DF n o.dst)
  {next Q'} (p:∀G' M' x d v,CH G M w G' M' d->FK n G' (BC s o.dst x) M' (a.put o.dst v) d->K x M'->next (a.put o.dst v) d):o.wp P a w next Q':=by
 rw[DR]at h;split at h;rename_i f b C i;let⟨D,l⟩:=h;have k:AP (VR G M w) (b.map a.eval).toList (b.toList.map (BR s)):=by
  simp only[Array.toList_map];exact AP.map_eval R b.toList
 have Q:=l G w (b.map a.eval) R.inv k;have q:(execOp a.eval o).run P w= .ok (.enter f (b.map a.eval)) w:=by simp only[execOp,i,resolve,Act.eval,Deferred.ofValue,Sem.run_bind,Sem.run_pure,Result.andThen_ok,invoke,Array.append_empty,Array.empty_append,qJ D]
 rw[Oper.wp];rw[q,Oper.upon_enter];refine Q.mono λe d ⟨v,G',x,M',I,j,E,g,y⟩=>?_;subst I;exact p G' M' x d v E (R.put E j g m) y;rename_i b C i;split at h
 case h_2=>exact h.elim
 rename_i T N a0 U A S;rw[Jx]at h;obtain h|h:=h;split at h
 case h_2=>exact h.elim
 rename_i x M' z;have u:al P s M o.op=some (x,M'):=by grind[al]
 let⟨v,d,G',c,j,E,g⟩:=TI R.inv R.tmps u;rw[Oper.wp];obtain c|⟨c,t⟩:=c;rw[c,Oper.upon_value];exact p G' M' x d v E (R.put E j g m) h;rw[c,Oper.upon_skip];subst t;exact p G' M' x d undef E (R.put E j g m) h;let⟨x,M',v,d,G',c,j,E,g,y⟩:=ZV R.inv R.tmps i A S h;rw[Oper.wp];rw[c,Oper.upon_value];exact p G' M' x d v E (R.put E j g m) y;split at h;rename_i x B;let⟨v,g,c⟩:=SX (F:=λ_=>True) R.inv R.tmps B (λ_ _=>trivial);rw[Oper.wp];rw[c w (Same.refl _ _ _ _),Oper.upon_value];exact p G M x w v (CH.refl _ _ _) (R.put (CH.refl _ _ _) R.inv g m) h;split at h;rename_i x M' z;let⟨v,d,G',c,j,E,g⟩:=TI R.inv R.tmps z;rw[Oper.wp];obtain c|⟨c,t⟩:=c;rw[c,Oper.upon_value];exact p G' M' x d v E (R.put E j g m) h;rw[c,Oper.upon_skip];subst t;exact p G' M' x d undef E (R.put E j g m) h;exact h.elim
def NY (k:Sl->St->Prop)(s:Sl)(a:Option Tmp)(x:AV)(M':St):Prop:=k (BC s a x) M'
def gd (P:Program)(o:Oper)(s:Sl)(M:St)(k:Sl->St->Prop)(g:Option Bool):Prop:=
 match g with
 |none=>False
 |some b=>(b=true->DR P o s M (NY k s o.dst))/\(b=false->k (BC s o.dst (sc undef)) M)
theorem EC {P o s M k}:gd P o s M k (some true)=DR P o s M (NY k s o.dst):=by simp[gd]
theorem DG {P o s M k}:gd P o s M k (some false)=k (BC s o.dst (sc undef)) M:=by simp[gd]
theorem VO {P o s M k b}(a:b=true->gd P o s M k (some true))(h2:b=false->gd P o s M k (some false)):gd P o s M k (some b):=by cases b<;>grind
def FS (P:Program)(n:Nat)(all:List Oper)(K:Sl->St->Prop):List Oper->Sl->St->Prop
 |[],s,M=>K s M
 |o::rest,s,M=>DF n o.dst/\gd P o s M (FS P n all K rest) (Li all o s)
theorem iL {P n all K}:∀(l:List Oper) (G:Gh) (s:Sl) (M:St) (a:Act) (w:World),FK n G s M a w->FS P n all K l s M->
   ∀{Q':Exit->Act->World->Prop},(∀G' i M' g d,CH G M w G' M' d->FK n G' i M' g d->K i M'->Q' .normal g d)->wpList P all.toArray Q' l a w
 |[],G,s,M,a,w,R,h,Q',e=>e G s M a w (CH.refl _ _ _) R h
 |o::rest,G,s,M,a,w,R,h,Q',e=>by
  rw[FS]at h;let⟨j,c⟩:=h;cases f:Li all o s with
  |none=>rw[f]at c;exact c.elim
  |some b=>
   have:=N5 R f;rw[f]at c;unfold wpList;cases b
   ·rw[this];exact iL rest G _ M _ w (R.put (CH.refl _ _ _) R.inv (VR.sc _) j) (c.2 rfl) e
   rw[if_pos this];refine .inl (oZ R (c.1 rfl) j λG' M' x d v E z q=>?_);exact iL rest G' _ M' _ d z q λk y p t m u=>e k y p t m (E.trans u)
theorem sU {P n Q s M id l}(h:FS P n l (Q .normal) l s M):Mn P n (.region id l.toArray false) Q s M:=λG a w R=>
 wp_region_list (by grind[iL,EH])
def EY (P:Program)(s:Sl)(M:St):ResultVar->Option AV
 |.tmp t=>some (s t)
 |.cell a t=>match J3 P t,behind M (s a)with
  |some (c,n),some b=>EB c n b
  |_,_=>none
def DU (P:Program)(s:Sl)(M:St):List ResultVar->Option oh
 |[]=>some []
 |b::rest=>match EY P s M b,DU P s M rest with
  |some x,some a=>some (x::a)
  |_,_=>none
def GV (P:Program)(rs:List ResultVar)(s:Sl)(M:St):Option AV:=
 match DU P s M rs with
 |some [x]=>some x
 |some a=>some (tp a)
 |none=>none
def OD (b:Array Value):ResultVar->Sem Value
 |.tmp t=>pure (b.getD t undef)
 |.cell a t=>do loadVar t (<-asAddr (b.getD a undef))
theorem qP (a b):results a b=(do let vs <-a.results.mapM (OD b);pure (if h:vs.size=1 then vs[0]else .tuple vs)):=rfl
theorem oU {P n G s M a w}(R:FK n G s M a w):∀(rs:List ResultVar) (xs:oh),DU P s M rs=some xs->
   ∃vs:List Value,AP (VR G M w) vs xs/\(rs.mapM (OD a.tmps)).run P w=Result.ok vs w
 |[],xs,h=>by simp_all[DU,AP.nil]
 |D::rest,xs,h=>by
  simp only[DU]at h;split at h
  case h_2=>cases h
  rename_i x d c j;cases h;let⟨vs,f,e⟩:=oU R rest d j;cases D with
  |tmp t=>
   simp[EY]at c;subst c;exact⟨_::vs,AP.cons (R.tmps t) f,by simp_all[OD]⟩
  |cell b t=>
   simp only[EY]at c;split at c
   case h_2=>cases c
   rename_i A m z q u;let⟨g,p,B,y,l,o⟩:=fE (F:=λ_=>True) R.inv (R.tmps b) u (λ_ _=>trivial);let⟨v,k,i⟩:=oX (P:=P) l c q g p (C:=Same (λ_=>True) G M w) o;exact⟨v::vs,AP.cons k f,by simp[mapM_cons,OD,y,asAddr,i w (Same.refl _ _ _ _),e]⟩
theorem ZU {P n G s M a w}(R:FK n G s M a w)(o){x}(h:GV P o.results.toList s M=some x):
  ∃v,VR G M w v x/\(results o a.tmps).run P w= .ok v w:=by
 rw[GV]at h;have f:∀b:List Value,∀d:oh,DU P s M o.results.toList=some d->∃b:List Value,AP (VR G M w) b d/\(results o a.tmps).run P w= .ok (if h:b.toArray.size=1 then b.toArray[0]else .tuple b.toArray) w:=by
  intro _ d l;let⟨b,c,g⟩:=oU R _ d l;refine⟨b,c,?_⟩;rw[qP,Sem.run_bind,Array.mapM_eq_mapM_toList];simp only[Sem.run_map,g,Result.andThen_ok,Sem.run_pure]
 split at h;rename_i y i;cases h;let⟨b,c,g⟩:=f [] _ i
 match b,c with
 |[v],c=>exact⟨v,c.2 0 v x rfl rfl,gp⟩
 |[],c=>have:=c.1;simp at this
 |_::_::_,c=>have:=c.1;simp at this
 rename_i d j i;cases h;let⟨b,c,g⟩:=f [] _ i;have k:b.toArray.size≠1:=λe=>by
  have m:Z d=1:=by rw[<-c.1];simpa using e
  match d,m with
  |[y],_=>exact j y rfl
 exact⟨.tuple b.toArray,VR.fold ⟨_,rfl,gp⟩,gp⟩;cases h
def AL (a:oh):Sl:=λt=>a.getD t (sc undef)
def MX (P:Program)(rs:List ResultVar)(R:AV->St->Prop):Ig
 |.normal,s,M=>∃x,GV P rs s M=some x/\R x M
 |.ret,s,M=>∃x,GV P rs s M=some x/\R x M
 |_,_,_=>False
theorem zP {P f d c b M R}(u:P.funcs[f]?=some d)(z:d.body=some c)(K:d.name≠ "runtime.NumGoroutine")
  (Lqx:Z b<=d.ntmps) (h:Mn P d.ntmps c (MX P d.results.toList R) (AL b) M):AF P f b M R:=by
 refine⟨by grind[Sg],λG w a I A=>calls_of_wp u z ?_⟩;have D:a.size=Z b:=by have:=A.1;grind
 have N:FK d.ntmps G (AL b) M {tmps:=a++Array.replicate (d.ntmps-a.size) undef,defers:=[]} w:=by
  refine⟨rfl,gp,λt=>?_,I⟩;simp only[AL];by_cases p:t<a.size;have n:(a++Array.replicate (d.ntmps-a.size) undef).getD t undef=a[t]:=by
   simp[MC,Array.getElem?_append_left p,p]
  have k:t<Z b:=L;rw[n,getD_eq_getElem?_getD,AK k];exact A.2 t _ _ (gp) (AK k);have n:(a++Array.replicate (d.ntmps-a.size) undef).getD t undef=undef:=by rw[MC,Array.getElem?_append_right L];grind
  rw[n,getD_eq_getElem?_getD,FD L];exact VR.sc _
 refine wp_mono (h G _ w N) λe s i ⟨l,F,g,E,m,q⟩=>?_;have o:(∃x,GV P d.results.toList F g=some x/\R x g)->s.defers=[]/\∃v,(results d s.tmps).run P i= .ok v i/\∃y l x g,Ending.returned v= .returned y/\Inv l g i/\CH G M w l g i/\VR l g i y x/\R x g:=λ⟨x,C,B⟩=>by let⟨v,Q,j⟩:=ZU m d C;exact⟨m.defers,v,j,v,l,x,g,rfl,m.inv,E,Q,B⟩
 cases e<;>first|exact o q|exact q.elim
theorem jv {P f b c a M R}(n rs)(j:P.funcs[f]?=some b)(g:b.body=some c)(k:b.name≠ "runtime.NumGoroutine")
 (e:b.ntmps=n) (d:b.results.toList=rs) (i:Z a<=n) (h:Mn P n c (MX P rs R) (AL a) M):AF P f a M R:=by grind[zP]
theorem Zl {P n Q s M c x y t}(a:BR s c=sc (.bool t))(b:t=true->Mn P n x Q s M)(h2:t=false->Mn P n y Q s M):Mn P n (.cond c x y) Q s M:=by grind[Sk]
section
variable {P:Program} {ops:Array Oper} {Q:Exit->Act->World->Prop} {S:World->Prop} {A:Nat->Bool}
def Ja (P:Program)(ops:Array Oper)(Q:Exit->Act->World->Prop)(S:World->Prop)(A:Nat->Bool):Nat->Array Bool->Act->World->Prop
 |0,b,a,w=>Region.ready .any ops b=[]/\Q .normal a w
 |c+1,b,a,w=>
  (Region.ready .any ops b=[]->Q .normal a w)/\
  ∀i∈Region.ready .any ops b,wpOp P ops Q i (λe d=>(A i->S d)/\Ja P ops Q S A c (b.setIfInBounds i true) e d) a w
theorem Px:∀(b:Nat) (c:Array Bool) (a:Act) (w:World),Ja P ops Q S A b c a w->wpAny P .any ops Q b c a w
 |0,_,_,_,h=>h
 |b+1,_,_,_,h=>⟨h.1,λi g=>wpOp_mono (λd e f=>Px b _ d e f.2) (h.2 i g)⟩
theorem Qz {i C v}{D:Nat->Bool}(K:ops[i]?=some C)(y:∀(j:Nat) (o:Oper) cs b,ops[j]?=some o->o.op≠.select cs b)
   (hQ:∀c a w,Q (.panic c) (a.put C.dst v) w->Q (.panic c) a w)
   (hD:∀k ok,ops[k]?=some ok->D k->∃e∈ok.after,Region.binds .any e/\(e.on=i\/D e.on)):
   ∀(g:Nat) (d:Array Bool) (a:Act) (w:World),
    (∀k,D k->d.getD k false=false)->(∀j,j≠i->d.getD j true=false->D j=false->A j)->
    (∀j x,ops[j]?=some x->j≠i->d.getD j true=false->(∀e∈x.after,Region.binds .any e->e.on≠i)->C.apart ops x)->
    i∈Region.ready .any ops d->YieldsIf P ops S C v a->S w->
    Ja P ops Q S A g (d.setIfInBounds i true) (a.put C.dst v) w->Ja P ops Q S A (g+1) d a w:=by
 intro g;induction g with
 |zero=>
  intro d a w _ _ _ z R F t;refine⟨λh=>(gp),λj u=>?_⟩;by_cases f:j=i;subst f;exact R.wpOp K F ⟨λ_=>F,t⟩;have:=ready_mono u f;rw[t.1]at this;cases this
 |succ g ih=>
  intro d a w a0 U p z R F t;refine⟨λh=>(gp),λj u=>?_⟩;by_cases f:j=i;subst f;exact R.wpOp K F ⟨λ_=>F,t⟩;have a2:=t.2 j (ready_mono u f);let⟨m,x,N,a8⟩:=mem_ready.1 u;have a9:d.getD i false=false:=by have a7:=(mem_ready.1 z).1;grind
  have G:∀e∈x.after,Region.binds .any e->e.on≠i:=λe he hb a6=>gp
  have a1:D j=false:=gp
  have E:=wpOp_putIf N (p j x N f m G) (λcs b=>y i C cs b K) (λcs b=>y j x cs b N) hQ R a2
  have s:∀k ok,ops[k]?=some ok->k≠i->(d.setIfInBounds j true).getD k true=false->
     (∀e∈ok.after,Region.binds .any e->e.on≠i)->C.apart ops ok:=λk ok I B n a3=>by refine p k ok I B ?_ a3;by_cases l:j=k;subst l;exact m;rw[getD_set_ne true l]at n;exact n
  have a4:∀k,k≠i->(d.setIfInBounds j true).getD k true=false->D k=false->A k:=λk B n a5=>by refine U k B ?_ a5;by_cases l:j=k;subst l;exact m;rw[getD_set_ne true l]at n;exact n
  have M:∀k,D k->(d.setIfInBounds j true).getD k false=false:=λk I=>by
    have l:j≠k:=λe=>gp
    rw[getD_set_ne false l];exact a0 k I
  have T:=U j f m a1;refine wpOp_mono (λa' w' q=>⟨λ_=>q.2.1 T,ih (d.setIfInBounds j true) a' w' M a4 s (ready_mono z (Ne.symm f)) q.1 (q.2.1 T) ?_⟩) E;rw[Array.setIfInBounds_comm _ _ f];exact q.2.2
end
section
variable {P:Program} {n:Nat} {Q:Ig} {F:Nat->Prop} {A:Nat->Bool} {σ0:St} {all:List Oper}
def tC (P:Program)(n:Nat)(all:List Oper)(Q:Ig)(F:Nat->Prop)(A:Nat->Bool)(σ0:St)(c:Nat)(b:Array Bool)(s:Sl):Prop:=
 ∀G a w,FK n G s σ0 a w->Ja P all.toArray (EH n G σ0 w Q) (Same F G σ0 w) A c b a w
def Qs (P:Program)(n:Nat)(all:List Oper)(Q:Ig)(F:Nat->Prop)(A:Nat->Bool)(σ0:St)(c:Nat)(b:Array Bool)(s:Sl)(M:St):Prop:=
 ∀d e G a w,CH d σ0 e G M w->FK n G s M a w->Ja P all.toArray (EH n d σ0 e Q) (Same F d σ0 e) A c b a w
theorem Ra {c b s}(h:Qs P n all Q F A σ0 c b s σ0):tC P n all Q F A σ0 c b s:=
 λG a w R=>h G w G a w (CH.refl _ _ _) R
theorem Aw {b s M c}(e:Region.ready .any all.toArray b=[])(h:Q .normal s M):Qs P n all Q F A σ0 c b s M:=λg f G a w E R=>by
 have d:EH n g σ0 f Q .normal a w:=⟨G,s,M,E,R,h⟩;cases c with
 |zero=>exact⟨e,d⟩
 |succ c=>exact⟨λ_=>d,gp⟩
def FR (P:Program)(n:Nat)(all:List Oper)(i:Nat)(s:Sl)(M:St)(K:Sl->St->Prop):Prop:=
 match all[i]? with
 |none=>False
 |some o=>DF n o.dst/\gd P o s M K (Li all o s)
def Kept (A:Nat->Bool)(F:Nat->Prop)(σ0:St)(i:Nat)(M':St):Prop:=A i->∀o,o<σ0.B->F o->M'.ver o=σ0.ver o
def PR (A:Nat->Bool)(F:Nat->Prop)(σ0:St)(i:Nat)(k:Sl->St->Prop)(s:Sl)(M:St):Prop:=Kept A F σ0 i M/\k s M
theorem D8 {rs e c s M}(C:Region.ready .any all.toArray c=rs)(z:rs≠[])
   (h:∀i∈rs,FR P n all i s M λI M'=>Kept A F σ0 i M'/\Qs P n all Q F A σ0 e (c.setIfInBounds i true) I M'):Qs P n all Q F A σ0 (e+1) c s M:=λu m G a w E R=>by
 refine⟨λU=>absurd (C ▸ U) z,λi N=>?_⟩;have x:=h i (C ▸ N);rw[FR]at x;split at x;exact x.elim;rename_i o t;have B:all.toArray[i]?=some o:=gp
 let⟨S,j⟩:=x;have d:∀l M' f,CH u σ0 m l M' f->Kept A F σ0 i M'->A i->Same F u σ0 m f:=λl M' f g q k=>
   ⟨λb o p=>(g.per b o p).2,λo t T=>(g.ver o t).2 (q k o t T)⟩
 rw[wpOp];simp only[B];cases y:Li all o s with
 |none=>rw[y]at j;exact j.elim
 |some b=>
  rw[y]at j;cases b
  ·rw[N5 R y];simp only[EI,if_false];have D:=j.2 rfl;exact⟨λk=>d G M w E D.1 k,D.2 u m G _ w E (R.put (CH.refl _ _ _) R.inv (VR.sc _) S)⟩
  rw[if_pos (N5 R y)];refine .inl (oZ R (j.1 rfl) S λl M' a0 f v g K q=>?_);exact⟨λk=>d l M' f (E.trans g) q.1 k,q.2 u m l _ f (E.trans g) K⟩
theorem Ai {i b a s M}(d:Region.ready .any all.toArray a=[i])
  (h:FR P n all i s M λe M'=>Kept A F σ0 i M'/\Qs P n all Q F A σ0 b (a.setIfInBounds i true) e M'):Qs P n all Q F A σ0 (b+1) a s M:=
 D8 d (by simp) λj c=>gp
def desc (ops:List Oper)(i:Nat):Array Bool:=
 ops.foldl (λa o=>a.push (o.after.any λe=>Region.binds .any e&&(e.on==i||a.getD e.on false))) #[]
def lc (ops:List Oper)(D:Array Bool)(i:Nat):Bool:=
 (range D.size).all λk=>!D.getD k false||match ops[k]? with
  |some o=>o.after.any λe=>Region.binds .any e&&(e.on==i||D.getD e.on false)
  |none=>true
def tB (ops:List Oper)(A:Nat->Bool)(a:Array Bool)(i:Nat):Bool:=
 (Region.ready .any ops.toArray a).contains i&&Region.free .any ops.toArray a i&&lc ops (desc ops i) i&&
 (range (desc ops i).size).all (λk=>!(desc ops i).getD k false||!a.getD k false)&&
 (range a.size).all (λj=>j==i||a.getD j true||(desc ops i).getD j false||A j)
def gt (P:Program)(o:Oper)(s:Sl)(F:Nat->Prop)(σ0:St)(k:Sl->Prop)(g:Option Bool):Prop:=
 match g with
 |none=>False
 |some b=>(b=true->match aq P s σ0 o.op with
  |some x=>(∀p,LZ s o.op=some p->F p)/\k (BC s o.dst x)
  |none=>False)/\(b=false->k (BC s o.dst (sc undef)))
theorem ED {P o s F σ0 k}:gt P o s F σ0 k (some true)=(match aq P s σ0 o.op with
 |some x=>(∀p,LZ s o.op=some p->F p)/\k (BC s o.dst x)
 |none=>False):=by simp[gt]
theorem DI {P o s F σ0 k}:gt P o s F σ0 k (some false)=k (BC s o.dst (sc undef)):=by simp[gt]
theorem VN {P o s F σ0 k b}(a:b=true->gt P o s F σ0 k (some true))(h2:b=false->gt P o s F σ0 k (some false)):gt P o s F σ0 k (some b):=by cases b<;>grind
def LX (P:Program)(n:Nat)(all:List Oper)(F:Nat->Prop)(σ0:St)(i:Nat)(s:Sl)(K:Sl->Prop):Prop:=
 match all[i]? with
 |none=>False
 |some o=>DF n o.dst/\gt P o s F σ0 K (Li all o s)
theorem dC {i f d s}(I:Region.noSelect all.toArray)(Jqx:tB all A d i)(hp:∀c s M,¬Q (.panic c) s M)
   (h:LX P n all F σ0 i s λT=>tC P n all Q F A σ0 f (d.setIfInBounds i true) T):tC P n all Q F A σ0 (f+1) d s:=λG a w R=>by
 rw[LX]at h;split at h;exact h.elim;rename_i o ho;have t:all.toArray[i]?=some o:=gp
 let⟨p,g⟩:=h;simp only[tB,BM]at Jqx;let⟨⟨⟨⟨b1,U⟩,K⟩,b4⟩,a3⟩:=Jqx;have B:∀k ok,all.toArray[k]?=some ok->(desc all i).getD k false->∃e∈ok.after,Region.binds .any e/\(e.on=i\/(desc all i).getD e.on false):=λk ok a1 p=>by
   have a4:k<(desc all i).size:=gp
   have:=CX.1 K k (gp);grind
 have C:∀k,(desc all i).getD k false->d.getD k false=false:=λk a1=>gp
 have hA:∀j,j≠i->d.getD j true=false->(desc all i).getD j false=false->A j:=λj hj a2 p=>gp
 have hQ:∀v c z E,EH n G σ0 w Q (.panic c) (Act.put z o.dst v) E->EH n G σ0 w Q (.panic c) z E:=λv c z E ⟨_,_,_,_,_,a0⟩=>(hp _ _ _ a0).elim;have q:∀v x,YieldsIf P all.toArray (Same F G σ0 w) o v a->VR G σ0 w v x->tC P n all Q F A σ0 f (d.setIfInBounds i true) (BC s o.dst x)->Ja P all.toArray (EH n G σ0 w Q) (Same F G σ0 w) A (f+1) d a w:=λv x hy m N=>
   Qz (D:=λk=>(desc all i).getD k false) t (Region.noSelect_spec I) (hQ v) B f d a w C hA (Region.free_spec t U) (gp) hy (Same.refl _ _ _ _)
    (N G _ w (R.put (CH.refl _ _ _) R.inv m p))
 cases y:Li all o s with
 |none=>rw[y]at g;exact g.elim
 |some b=>
  rw[y]at g;cases b
  ·exact q undef (sc undef) (.inr ⟨N5 R y,rfl⟩) (VR.sc _) (g.2 rfl)
  have l:=g.1 rfl;split at l;rename_i x S;obtain⟨v,m,u⟩:=SX R.inv R.tmps S l.1;exact q v x (.inl ⟨N5 R y,u⟩) m l.2;exact l.elim
def aT (P:Program)(n:Nat)(all:List Oper)(F:Nat->Prop)(σ0:St)(K:Sl->Prop):List Nat->Sl->Prop
 |[],s=>K s
 |i::rest,s=>LX P n all F σ0 i s (aT P n all F σ0 K rest)
def aU (P:Program)(n:Nat)(all:List Oper)(A:Nat->Bool)(F:Nat->Prop)(σ0:St)(K:Sl->St->Prop):List Nat->Sl->St->Prop
 |[],s,M=>K s M
 |i::rest,s,M=>FR P n all i s M (PR A F σ0 i (aU P n all A F σ0 K rest))
def OB (ops:List Oper):List Nat->Array Bool->Bool
 |[],a=>(Region.ready .any ops.toArray a).isEmpty
 |i::rest,a=>(match Region.ready .any ops.toArray a with|[j]=>j==i|_=>false)&&OB ops rest (a.setIfInBounds i true)
def OA (ops:List Oper)(A:Nat->Bool)(b:List Nat):List Nat->Array Bool->Bool
 |[],a=>OB ops b a
 |i::rest,a=>tB ops A a i&&OA ops A b rest (a.setIfInBounds i true)
def OS (ops:List Oper)(a c b:List Nat):Bool:=
 Region.noSelect ops.toArray&&Z c+Z b==Z ops&&OA ops (λj=>!a.contains j) b c (Array.replicate (Z ops) false)
theorem pT:∀(p:List Nat) (a:Array Bool) (s:Sl) (M:St),OB all p a->aU P n all A F σ0 (Q .normal) p s M->Qs P n all Q F A σ0 (Z p) a s M
 |[],a,s,M,f,h=>Aw (by grind[OB]) h
 |i::rest,a,s,M,f,h=>by
  simp only[OB,BM]at f;have v:Region.ready .any all.toArray a=[i]:=gp
  apply Ai v;rw[aU]at h;rw[FR]at h⊢;split at h;exact h.elim;rename_i o L;refine⟨h.1,?_⟩;have h2:=h.2;cases j:Li all o s with
  |none=>rw[j]at h2;exact h2.elim
  |some b=>
   rw[j]at h2;exact⟨λe=>aStep_mono (h2.1 e) λx M' d=>⟨d.1,pT rest _ _ _ f.2 d.2⟩,λe=>⟨(h2.2 e).1,pT rest _ _ _ f.2 (h2.2 e).2⟩⟩
 where
 aStep_mono {P:Program} {o:Oper} {s:Sl} {M:St} {K q:AV->St->Prop} (h:DR P o s M K) (d:∀x M',K x M'->q x M'):DR P o s M q:=by
   rw[DR]at*
   split at h;exact h.mono d;split at h
   case h_2=>exact h.elim
   rw[Jx]at*
   obtain h|h:=h;left;split at h;exact d _ _ h;exact h.elim;right;let⟨z,b,y,l,m,t,D,h2,C,J,u,I,E,G,h⟩:=h;refine⟨z,b,y,l,m,t,D,h2,C,J,u,I,E,G,?_⟩;obtain⟨e,g,g2,h⟩|⟨o,n,N,e,g,g2,R,S,T,U⟩:=h;exact .inl ⟨e,g,g2,λc k=>d _ _ (h c k)⟩;exact .inr ⟨o,n,N,e,g,g2,R,S,λc=>d _ _ (T c),λc B k=>d _ _ (U c B k)⟩;split at h;exact d _ _ h;split at h;exact d _ _ h;exact h.elim
theorem fO (l:Region.noSelect all.toArray)(k:∀c s M,¬Q (.panic c) s M)(us):∀(j:List Nat) (a:Array Bool) (s:Sl),OA all A us j a->
   aT P n all F σ0 (λp=>aU P n all A F σ0 (Q .normal) us p σ0) j s->tC P n all Q F A σ0 (Z j+Z us) a s
 |[],a,s,d,h=>by simp only[CQ,DY];exact Ra (pT us a s σ0 d h)
 |i::rest,a,s,d,h=>by
  simp only[OA,BM]at d;have:Z (i::rest)+Z us=(Z rest+Z us)+1:=gp
  rw[this];apply dC l d.1 k;rw[aT]at h;rw[LX]at h⊢;split at h;exact h.elim;rename_i o q;refine⟨h.1,?_⟩;have f:=h.2;cases m:Li all o s with
  |none=>rw[m]at f;exact f.elim
  |some b=>
   rw[m]at f;refine⟨λe=>?_,λe=>fO l k us rest _ _ d.2 (f.2 e)⟩;have g:=f.1 e;split at g;exact⟨g.1,fO l k us rest _ _ d.2 g.2⟩;exact g.elim
theorem EZ {s M id l}(D:P.follows .mixedOrders)(F k ts us)(B:OS l k ts us)(a3:∀c s M,¬Q (.panic c) s M)
  (h:aT P n l F M (λa0=>aU P n l (λj=>!k.contains j) F M (Q .normal) us a0 M) ts s):Mn P n (.region id l.toArray true) Q s M:=λG a w R=>by
 simp only[OS,BM]at B;let⟨⟨a5,J⟩,N⟩:=B;let⟨a4,E⟩:=R.inv.drawn (w.drawn+1);have R':FK n G s M a {w with drawn:=w.drawn+1}:=⟨R.defers,R.size,λt=>(R.tmps t).ext E,a4⟩;have:=fO a5 a3 us ts _ s N h G a _ R';have T:Z ts+Z us=l.toArray.size:=gp
 rw[T]at this;refine wp_region_any D (Px (S:=Same F G M {w with drawn:=w.drawn+1}) (A:=λj=>!k.contains j) _ _ _ _ ?_);simp only[size_toArray]at this⊢;exact wpAnyG_mono (λe a w q=>q.ext E) _ _ _ _ this
 where
 wpAnyG_mono {P:Program} {ops:Array Oper} {Q Q':Exit->Act->World->Prop} {S:World->Prop} {A:Nat->Bool} (g:∀e a w,Q e a w->Q' e a w):∀(d:Nat) (b:Array Bool) (a:Act) (w:World),Ja P ops Q S A d b a w->Ja P ops Q' S A d b a w
  |0,_,_,_,h=>⟨h.1,g _ _ _ h.2⟩
  |d+1,b,a,w,h=>⟨λU=>g _ _ _ (h.1 U),λi a2=>wpOp_mono_q (λC u y=>⟨y.1,wpAnyG_mono g d _ C u y.2⟩) g (h.2 i a2)⟩
 wpOp_mono_q {P:Program} {ops:Array Oper} {Q Q':Exit->Act->World->Prop} {i:Nat} {a:Act} {w:World} {K z:Act->World->Prop} (m:∀a w,K a w->z a w) (g:∀e a w,Q e a w->Q' e a w) (h:wpOp P ops Q i K a w):wpOp P ops Q' i z a w:=by
  rw[wpOp]at*
  split;exact m _ _ (gp);rename_i o a1;simp only[a1]at h;have f:LetsOut Q->LetsOut Q':=λ⟨a,w,q⟩=>⟨a,w,g _ _ _ q⟩;split;rename_i v;simp only[v,if_true]at h;obtain h|h:=h;refine .inl ?_;rw[Oper.wp]at*
  generalize (execOp a.eval o).run P w=a7 at*
  cases a7 with
  |ok I u=>
   cases I<;>simp only[Oper.upon]at h⊢ <;>
    first
     |exact m _ _ h
     |exact Calls.mono h (λe L p=>gp)
     |exact Rows.mono h (λ_ _ p=>m _ _ p)
  |halt x u=>cases x<;>simp only[Oper.upon]at h⊢ <;>exact g _ _ _ h
  exact .inr ⟨h.1,f h.2⟩;rename_i v;simp only[v]at h;exact m _ _ h
end
theorem i64w {n}(a: -9223372036854775808<=n)(h2:n<=9223372036854775807):IntKind.i64.wrap n=n:=Go.IntWalk.i64_in n ⟨a,h2⟩
theorem u8w {n}(a:0<=n)(h2:n<=255):IntKind.u8.wrap n=n:=Go.IntWalk.u8_in n ⟨a,h2⟩
theorem TU {α:Sort _}{c:Prop}{_:Decidable c}{a b:α}(h:c):(if c then a else b)=a:=if_pos h
def bs (l:List UInt8):ByteArray:=⟨l.toArray⟩
abbrev O (l:List UInt8):AV:=sc (.string (bs l))
theorem O5 (l):(bs l).size=Z l:=by simp[bs,ByteArray.size]
theorem SB (l)(i:Nat):(bs l)[i]?=l[i]?:=by
 by_cases h:i<Z l;have a:i<(bs l).size:=by grind[O5]
 rw[getElem?_pos (bs l) i a,AK h];rfl;have a:¬i<(bs l).size:=by grind[O5]
 rw[getElem?_neg (bs l) i a,FD L]
theorem fC (l):(bs l).toList=l:=by simp_all[bs]
theorem Zg (l i j):(bs l).extract i j=bs ((l.drop i).take (j-i)):=by rw[bs];exact ByteArray.extract_mk l i j
theorem fD (l m):bs l++bs m=bs (l++m):=by rw[bs];exact ByteArray.mk_append_mk l m
theorem lg (b):b=bs b.data.toList:=by simp_all[bs]
theorem SA:(⟨#[]⟩:ByteArray)=bs []:=rfl
def r {α:Type}(E:α->oh->Prop):List α->oh->Prop
 |[],b=>b=[]
 |a::l,b=>∃c d,E a c/\r E l d/\b=c++d
section
variable {α:Type} {E:α->oh->Prop} {z:Nat}
theorem r.length (b:∀a c,E a c->Z c=z):∀{l:List α} {cs:oh},r E l cs->Z cs=Z l*z
 |[],cs,h=>by grind[r]
 |a::l,cs,⟨c,d,f,g,e⟩=>by rw[e,AX,b a c f,r.length b g,BQ,If];omega
theorem r.append:∀{l m:List α} {cs b:oh},r E l cs->r E m b->r E (l++m) (cs++b)
 |[],m,cs,b,h,f=>by grind[r]
 |a::l,m,cs,b,⟨c,d,g,i,e⟩,f=>⟨c,d++b,g,r.append i f,gp⟩
theorem r.single {a c}(h:E a c):r E [a] c:=⟨c,[],h,rfl,by simp⟩
theorem r.get (k:∀a c,E a c->Z c=z):∀{l:List α} {cs:oh} {i:Nat} {a:α},r E l cs->l[i]?=some a->∃c p,E a c/\cs.drop (i*z)=c++p
 |[],cs,i,a,h,f=>gp
 |b::l,cs,0,a,⟨c,d,g,j,e⟩,f=>gp
 |b::l,cs,i+1,a,⟨c,d,g,j,e⟩,f=>by obtain⟨m,p,o,n⟩:=r.get k j (i:=i) (by simpa using f);refine⟨m,p,o,?_⟩;rw[<-n,e,show (i+1)*z=Z c+i*z by rw[k b c g,If];omega,drop_append,JU L,Nat.add_sub_cancel_left];rfl
theorem r.mono {b}(h:∀a c,E a c->b a c):∀{l:List α} {cs:oh},r E l cs->r b l cs
 |[],cs,g=>g
 |a::l,cs,⟨c,d,f,i,e⟩=>⟨c,d,h a c f,r.mono h i,e⟩
theorem r.flat (b:∀a c,E a c->c.all flat):∀{l:List α} {cs:oh},r E l cs->cs.all flat
 |[],cs,h=>by grind[r]
 |a::l,cs,⟨c,d,g,f,e⟩=>by rw[e,all_append,b a c g,r.flat b f];rfl
end
def E1 {α:Type}(f:α->AV)(a:α)(c:oh):Prop:=c=[f a]
structure W (M M':St):Prop where
 B:M.B<=M'.B
 C:∀o,o<M.B->M'.C o=M.C o
 ver:∀o,o<M.B->M'.ver o=M.ver o
 D:M.D<=M'.D
 top:∀k,k<M.D->M'.top k=M.top k
theorem W.refl (M):W M M:=⟨AU _,λ_ _=>rfl,λ_ _=>rfl,AU _,λ_ _=>rfl⟩
theorem W.trans {a b c}(h:W a b)(k:W b c):W a c:=
  ⟨BI h.B k.B,λo d=>(k.C o (BZ d h.B)).trans (h.C o d),λo d=>(k.ver o (BZ d h.B)).trans (h.ver o d),
   BI h.D k.D,λo d=>(k.top o (BZ d h.D)).trans (h.top o d)⟩
theorem W.new {a b}(h:W a b)(cs):W a (b.new cs):=by have:=h.B;exact⟨by grind[St.new],λo c=>by simp[St.new];rw[if_neg L];exact h.C o c,h.ver,h.D,h.top⟩
theorem W.put {a b}(h:W a b){o}(d:a.B<=o)(cs):W a (b.put o cs):=
 ⟨h.B,λp c=>by simp[St.put];rw[if_neg L];exact h.C p c,λp c=>by simp[St.put];rw[if_neg L];exact h.ver p c,h.D,h.top⟩
theorem W.lay {a b}(h:W a b)(n):W a (b.lay n):=by have:=h.D;exact⟨h.B,h.C,h.ver,by grind[St.lay],λk c=>by simp[St.lay];rw[if_neg L];exact h.top k c⟩
theorem W.raise {a b}(h:W a b){k}(d:a.D<=k)(n):W a (b.raise k n):=
 ⟨h.B,h.C,h.ver,h.D,λj c=>by simp[St.raise];rw[if_neg L];exact h.top j c⟩
theorem Ao {M:St}{cs}:(M.new cs).C M.B=cs:=by simp[St.new]
theorem Be {M:St}{cs o}(a:o<=M.B)(h2:M.B<=o):(M.new cs).C o=cs:=by grind[St.new]
theorem Ah {M:St}{cs o}(h:o<M.B):(M.new cs).C o=M.C o:=by grind[St.new]
theorem Aa {M:St}{cs}:(M.new cs).B=M.B+1:=rfl
theorem vI {M:St}{cs}:(M.new cs).top=M.top:=rfl
theorem mV {M:St}{cs}:(M.new cs).D=M.D:=rfl
theorem Ak {M:St}{cs o}:(M.put o cs).C o=cs:=by simp[St.put]
theorem Aj {M:St}{cs o p}(h:p<o):(M.put o cs).C p=M.C p:=by grind[St.put]
theorem Oh {M:St}{cs o p}(h:o<p):(M.put o cs).C p=M.C p:=by grind[St.put]
theorem Ac {M:St}{cs o}:(M.put o cs).B=M.B:=rfl
theorem Og {M:St}{cs o}:(M.put o cs).top=M.top:=rfl
theorem Nc {M:St}{cs o}:(M.put o cs).D=M.D:=rfl
theorem H6 {M:St}{n}:(M.lay n).C=M.C:=rfl
theorem Az {M:St}{n}:(M.lay n).B=M.B:=rfl
theorem La {M:St}{n}:(M.lay n).D=M.D+1:=rfl
def J (σ0 M:St)(id n:Nat):Prop:=(id=1/\n=0)\/∃k,id=k+2/\σ0.D<=k/\k<M.D/\M.top k=n/\0<n
theorem J.nil (σ0 M):J σ0 M 1 0:=.inl ⟨rfl,rfl⟩
theorem J.keep {σ0 M M' id n}(h:J σ0 M id n)(k:W M M'):J σ0 M' id n:=by obtain h|⟨j,b,c,a,d,e⟩:=h;exact .inl h;exact .inr ⟨j,b,c,BZ a k.D,(k.top j a).trans d,e⟩
theorem J.made {σ0 M}(h:W σ0 M){n}(a:0<n):J σ0 (M.lay n) (M.D+2) n:=
 .inr ⟨M.D,rfl,h.D,by simp[St.lay],by simp[St.lay],a⟩
theorem J.new {σ0 M id n}(h:J σ0 M id n)(cs):J σ0 (M.new cs) id n:=h
theorem J.put {σ0 M id n}(h:J σ0 M id n)(p cs):J σ0 (M.put p cs) id n:=h
theorem Bo {P t z b l σ0 M id f n m a xs c K}(q:P0 P t=some (z,b,l))(d:W σ0 M)(v:J σ0 M id n)
  (x:0<z) (e:Z l=z) (i:Z xs=n*z) (p:Z c=m*z) (s:c.all flat) (j:0<m) (u:(n+m)*b<=140737488355328) (o:n+m<=1099511627776)
  (h:∀id' M',J σ0 M' id' (n+m)->W σ0 M'->M'.C=M.C->M'.B=M.B->M'.ver=M.ver->M.D<M'.D->K (sl id' (n+m) (xs++c)) M'):Jx P t t (sl id n xs) (sl f m c) (M.lay a) K:=by
 unfold Jx iK;left;simp only[q];rw[if_pos ⟨trivial,x,e,i,p,s,j,u,o⟩];obtain⟨rfl,rfl⟩|⟨k,rfl,y,C,D,A⟩:=v;have g:=GG (by simpa using i);subst g;have:=h ((M.lay a).D+2) ((M.lay a).lay m) (by rw[DY];exact J.made (d.lay a) j) ((d.lay a).lay m) rfl rfl rfl (by grind[St.lay]);simpa using this;have B:(M.lay a).top k=n:=by grind[St.lay]
 simp only;rw[if_pos ⟨B,A⟩];exact h (k+2) _ (.inr ⟨k,rfl,y,by grind[St.raise,St.lay],by simp[St.raise],L⟩) ((d.lay a).raise y _) rfl rfl rfl (by simp[St.raise,St.lay])
theorem WS {P t z b e M d m a K}(j:P0 P t=some (z,b,e))(c:Z e=z)
 (n:0<z) (i:Z a=m*z) (k:a.all flat) (g:0<m) (l:m*b<=140737488355328) (f:m<=1099511627776)
 (h:K (sl (M.D+2) m a) (M.lay m)):Jx P t t H (sl d m a) M K:=by simp_all[Jx,iK]
theorem nF {α a:Type}(f:α->a):(#[]:Array α).toList.map f=[]:=rfl
theorem eE {α b:Type}(f:α->b)(a l):(toArray (a::l)).toList.map f=f a::(toArray l).toList.map f:=rfl
theorem fI {P f a M R}(h:AF P f a M R):AF P f a M R:=h
def V (p:Prop):Prop:=p
theorem V.o {p:Prop}(h:V p):p:=h
theorem Sj {P n Q s M id l}(h:∀K:Sl->St->Prop,V (∀s M,Q .normal s M->K s M)->FS P n l K l s M):Mn P n (.region id l.toArray false) Q s M:=
 sU (h (Q .normal) λ_ _ h=>h)
theorem Ax {P n Q s M id l}(b:P.follows .mixedOrders)(F f ts us)(a:OS l f ts us)(e:∀c s M,¬Q (.panic c) s M)
  (h:∀K:Sl->St->Prop,V (∀s M,Q .normal s M->K s M)->aT P n l F M (λd=>aU P n l (λj=>!f.contains j) F M K us d M) ts s):Mn P n (.region id l.toArray true) Q s M:=
 EZ b F f ts us a e (h (Q .normal) λ_ _ h=>h)
theorem Cj {P n Q s M c x y}(a:BR s c=sc (.bool true))(h:Mn P n x Q s M):Mn P n (.cond c x y) Q s M:=Sk a h
theorem De {P n Q s M c x y}(a:BR s c=sc (.bool false))(h:Mn P n y Q s M):Mn P n (.cond c x y) Q s M:=Sk a h
def zV (n:Nat)(v:Value):List Value:=replicate n v
def Pg (n:Nat)(v:Value):oh:=replicate n (cst1 v)
theorem nD {n v}:(zV n v).map cst1=Pg n v:=by simp[zV,Pg]
theorem kept_refl {A F M i}:Kept A F M i M:=λ_ _ _ _=>rfl
theorem Al {A F M M' i}(h:W M M'):Kept A F M i M':=λ_ o a _=>h.ver o a
theorem A3 {A F M M' i}(h:A i=false):Kept A F M i M':=λa=>gp
def Plain (c:AV):Prop:=(∃v,c=sc v)\/∃id k a,c=sl id k a/\∀x∈a,∃v,x=sc v
theorem VR.plain {G' G2 M' M2 s}(z:∀b d,G'.per b d->G2.per b d)(y:M2.D=M'.D)(a:M2.top=M'.top)(j:G2.siz=G'.siz)(m:G2.cur=G'.cur)(q:G2.cap=G'.cap)
 {v x} (f:Plain x) (h:VR G' M' s v x):VR G2 M2 s v x:=by obtain⟨u,rfl⟩|⟨id,k,F,rfl,D⟩:=f;exact VR.fold (show v=u from h.unfold);let⟨base,g,e,C,A,B⟩:=VR.of_sl h;refine VR.fold ⟨base,g,e,C,λn=>?_,?_⟩;let⟨b,o,e,l⟩:=A n;refine⟨b,o,e,λi x f=>?_⟩;let⟨p,c,t,E⟩:=l i x f;obtain⟨u,rfl⟩:=D x (AY f);exact⟨z _ _ p,c,t,VR.fold (show c=u from E.unfold)⟩;rw[y,a,j,m,q];exact B
theorem AF.freeze {P f y M}{Q:Nat->oh->Prop}
  (h:AF P f y M λx M'=>∃(o n:Nat) (cs:oh),x=fx o 0 n/\M.B<=o/\M'.C o=cs/\W M M'/\(∀c∈cs,Plain c)/\Q n cs):
  AF P f y M λx M'=>∃n cs,x=sl 0 n cs/\Q n cs/\W M M':=by
 refine⟨h.1,λG w c I A=>(h.2 G w c I A).mono ?_⟩;rintro a8 N ⟨aa,t,x,M',he,d,E,hv,o,n,cs,rfl,ho,a2,m,a7,T⟩;obtain⟨⟨a5,a6,a4⟩,s⟩:=VR.of_fx' hv;let F:Gh:={t with per:=λb a=>t.per b a\/(b=t.blk o/\a<Z cs)};let e:St:={M' with B:=M.B};have K:CH G M w F e N:=⟨E.base,E.w0,AU _,E.blk,E.D,E.top,λb a p=>⟨.inl (E.per b a p).1,(E.per b a p).2⟩,λo h=>E.ver o h⟩
 have I2:Inv F e N:=
  ⟨λp j=>by
    have j:p<M.B:=j;have u:=BZ j m.B;let⟨U,R,S⟩:=I.C p j;refine⟨(d.C p u).1,(d.C p u).2.1,λa3=>?_⟩;have a0:=a3;have a1:=m.C p j▸a0
    obtain⟨⟨z,e0,g,ha⟩,-⟩:=S a1;refine⟨⟨z,e0,?_,?_⟩,?_⟩;show N.heap[t.blk p]?=_;rw[E.blk p j,(E.ver p j).2 (m.ver p j)];exact g;show AP (VR F e N) z.toList (M'.C p);exact m.C p j▸VR.all K ha;rintro a (g|⟨g,-⟩);exact ((d.C p u).2.2 a0).2 a g;have:=d.inj p o u s g;omega,
   λp a9 j T=>d.inj p a9 (BZ j m.B) (BZ T m.B),
   λk q=>by let⟨U,R,S,h4⟩:=d.lin k q;refine⟨U,R,S,?_⟩;rintro a (g|⟨g,-⟩);exact h4 a g;exact absurd g.symm (d.apart o k s q),
   d.linj,
   λp k j q=>d.apart p k (BZ j m.B) q,
   λb a g=>by obtain g|⟨g,-⟩:=g;exact d.perlt b a g;exact g▸d.blk_lt s,
   λb a hb=>.inl (d.perlo b a hb),d.below,d.le,d.hyp⟩
 refine⟨aa,F,sl 0 n cs,e,he,I2,K,VR.fold ⟨some ⟨t.blk o,0,none⟩,a5,a6,⟨a4,λh=>gp⟩,λ_=>⟨t.blk o,0,rfl,λi x v=>?_⟩,λk q=>L⟩,n,cs,rfl,T,⟨AU _,m.C,m.ver,m.D,m.top⟩⟩;have hi:=(BA.1 v).1;let⟨⟨D,e',C,l⟩,ab⟩:=(d.C o s).2.2 (λa8=>gp);rw[a2]at l;refine⟨.inr ⟨rfl,L⟩,?_⟩;have hl:=l.1;have hg:D.toList[i]?=some (D.toList[i]'L):=AK _;refine⟨D.toList[i]'L,?_,VR.plain (G2:=F) (M2:=e) (G':=t) (M':=M') (λb a p=>Or.inl p) rfl rfl rfl rfl rfl (a7 x (AY v)) (l.2 i _ _ hg v)⟩;unfold World.cell?;rw[C];simp
section
variable {P:Program} {n:Nat} {Q:Ig} {F:Nat->Prop} {A:Nat->Bool} {σ0:St} {all:List Oper}
def MU (ops:List Oper)(A:Nat->Bool)(Lqx:Array Bool):List Nat->Array Bool->Bool
 |[],a=>a==Lqx
 |i::rest,a=>tB ops A a i&&MU ops A Lqx rest (a.setIfInBounds i true)
theorem fN (l:Region.noSelect all.toArray)(k:∀c s M,¬Q (.panic c) s M)(m Lqx):∀(j:List Nat) (a:Array Bool) (s:Sl),MU all A Lqx j a->
   aT P n all F σ0 (λq=>Qs P n all Q F A σ0 m Lqx q σ0) j s->tC P n all Q F A σ0 (Z j+m) a s
 |[],a,s,d,h=>by simp only[MU,DO]at d;subst d;simp only[CQ,DY];exact Ra h
 |i::rest,a,s,d,h=>by
  simp only[MU,BM]at d;have:Z (i::rest)+m=(Z rest+m)+1:=gp
  rw[this];apply dC l d.1 k;rw[aT]at h;rw[LX]at h⊢;split at h;exact h.elim;rename_i o t;refine⟨h.1,?_⟩;have f:=h.2;cases p:Li all o s with
  |none=>rw[p]at f;exact f.elim
  |some b=>
   rw[p]at f;refine⟨λe=>?_,λe=>fN l k m Lqx rest _ _ d.2 (f.2 e)⟩;have g:=f.1 e;split at g;exact⟨g.1,fN l k m Lqx rest _ _ d.2 g.2⟩;exact g.elim
theorem Ar {s M id l}(o:P.follows .mixedOrders)(F)(b f:List Nat)(m Lqx)
  (g:(Region.noSelect l.toArray&&Z f+m==Z l&&MU l (λj=>!b.contains j) Lqx f (Array.replicate (Z l) false))) (u:∀c s M,¬Q (.panic c) s M)
  (h:∀K:Sl->Prop,V (∀i,Qs P n l Q F (λj=>!b.contains j) M m Lqx i M->K i)->aT P n l F M K f s):Mn P n (.region id l.toArray true) Q s M:=λG a w R=>by
 simp only[BM]at g;obtain⟨⟨v,p⟩,y⟩:=g;obtain⟨x,E⟩:=R.inv.drawn (w.drawn+1);have z:FK n G s M a {w with drawn:=w.drawn+1}:=⟨R.defers,R.size,λt=>(R.tmps t).ext E,x⟩;have:=fN v u m Lqx f _ s y (h _ λ_ h=>h) G a _ z;have k:Z f+m=l.toArray.size:=by simpa using p
 rw[k]at this;refine wp_region_any o (Px (S:=Same F G M {w with drawn:=w.drawn+1}) (A:=λj=>!b.contains j) _ _ _ _ ?_);simp only[size_toArray]at this⊢;exact EZ.wpAnyG_mono (λe a w q=>q.ext E) _ _ _ _ this
def PG:Op->Bool
 |.move _=>true
 |.assign _=>true
 |.extract _ _=>true
 |_=>false
theorem il {G s M w}{a:Act}(d:∀t,VR G M w (a.tmps.getD t undef) (s t)){o x}(f:PG o.op)(h:aq P s M o.op=some x):∃v,VR G M w v x/\∀c,(execOp a.eval o).run P c= .ok (.value v) c:=by
 cases b:o.op<;>rw[b]at f h<;>simp[PG]at f
 case move y=>simp only[aq]at h;cases h;exact⟨_,Bg d y,λc=>by simp[execOp,b]⟩
 case assign y=>simp only[aq]at h;cases h;exact⟨_,Bg d y,λc=>by simp[execOp,b]⟩
 case extract y i=>
  simp only[aq]at h;split at h
  case h_2=>cases h
  rename_i p g;have e:=Bg d y;rw[g]at e;let⟨k,m,l⟩:=VR.of_tp e;let⟨v,j,n⟩:=l.get h
  exact⟨v,n,λc=>by
   have:k[i]?=some v:=gp
   simp[execOp,b,Instr.extract,m,this]⟩
theorem Bu {i g d s M}(o x)(u:all[i]?=some o)(z:PG o.op)(hg:o.guard=none)(f:DF n o.dst)(N:aq P s M o.op=some x)(y:Region.noSelect all.toArray)(I:tB all A d i)(hp:∀c s M,¬Q (.panic c) s M)
  (m:∀o,o<σ0.B->F o->M.ver o=σ0.ver o) (h:Qs P n all Q F A σ0 g (d.setIfInBounds i true) (BC s o.dst x) M):Qs P n all Q F A σ0 (g+1) d s M:=λl U G a w E R=>by
 have t:all.toArray[i]?=some o:=gp
 simp only[tB,BM]at I;let⟨⟨⟨⟨b1,S⟩,B⟩,b4⟩,a3⟩:=I;have v:∀k ok,all.toArray[k]?=some ok->(desc all i).getD k false->∃e∈ok.after,Region.binds .any e/\(e.on=i\/(desc all i).getD e.on false):=λk ok m f=>by
  have a4:k<(desc all i).size:=gp
  have:=CX.1 B k (gp);grind
 have C:∀k,(desc all i).getD k false->d.getD k false=false:=λk m=>gp
 have T:∀j,j≠i->d.getD j true=false->(desc all i).getD j false=false->A j:=λj hj a2 f=>gp
 let⟨a5,hv,p⟩:=il (P:=P) R.tmps z N;have hw:Region.wanted o (yielded all.toArray a.tmps):=by rw[Region.wanted];rw[hg]
 exact Qz (D:=λk=>(desc all i).getD k false) t (Region.noSelect_spec y) (λc a' K ⟨_,_,_,_,_,a1⟩=>(hp _ _ _ a1).elim) v g d a w C T (Region.free_spec t S) (gp)
  (.inl ⟨hw,λK _=>p K⟩) ⟨λb o a0=>(E.per b o a0).2,λo u q=>(E.ver o u).2 (m o u q)⟩
  (h l U G _ w E (R.put (CH.refl _ _ _) R.inv hv f))
theorem Am {i s M K}(h:∀yb:Sl->St->Prop,V (∀a M',K a M'->yb a M')->FR P n all i s M yb):FR P n all i s M K:=h K λ_ _ h=>h
end
section
variable {P:Program} {n:Nat} {Q:Ig} {F:Nat->Prop} {A:Nat->Bool} {σ0:St} {all:List Oper}
theorem Qy {ops Q S f}(e:∀w,S w->f w):∀(c:Nat) (b:Array Bool) (a:Act) (w:World),Ja P ops Q S A c b a w->Ja P ops Q f A c b a w
 |0,_,_,_,h=>h
 |c+1,b,a,w,h=>⟨h.1,λi k=>wpOp_mono (λg j d=>⟨λl=>e _ (d.1 l),Qy e c _ g j d.2⟩) (h.2 i k)⟩
theorem tR {d c s M}(g:σ0.B<=M.B)(y:∀o,o<σ0.B->F o->M.ver o=σ0.ver o)(h:tC P n all Q F A M d c s):Qs P n all Q F A σ0 d c s M:=λk m G a w E R=>by
 have v:=h G a w R;have t:=EZ.wpAnyG_mono (Q':=EH n k σ0 m Q) (λe a w q=>q.ext E) _ _ _ _ v;refine Qy (λx i=>⟨λb o p=>?_,λo f j=>?_⟩) _ _ _ _ t;obtain⟨u,l⟩:=E.per b o p;exact (i.1 b o u).trans l;have:=i.2 o (BZ f g) j;rw[E.blk o f]at this;exact this.trans ((E.ver o f).2 (y o f j))
theorem Df {a s M}(ts)(j:Region.noSelect all.toArray)(e:OA all A [] ts a)(g:∀c s M,¬Q (.panic c) s M)(b:σ0.B<=M.B)(f:∀o,o<σ0.B->F o->M.ver o=σ0.ver o)
  (h:∀yb:Sl->St->Prop,V (∀s M,Q .normal s M->yb s M)->aT P n all F M (λi=>yb i M) ts s):Qs P n all Q F A σ0 (Z ts) a s M:=
 tR b f (by
  have:=fO (P:=P) (n:=n) (Q:=Q) (F:=F) (A:=A) (σ0:=M) (all:=all) j g [] ts a s e (by
   have d:=h (Q .normal) λ_ _ h=>h
   exact d);grind)
end
def B0:=Xv @implies_true.{1}<|Xv @nD<|Xv @head?_drop.{0}<|Xv @Nat.mul_one<|Xv @length_map.{0,0}<|Xv @Nat.zero_mul<|Xv @Nat.zero_add<|Xv @Option.map_none.{0,0}<|Xv @Nat.add_one_sub_one<|Xv @Nat.sub_zero<|Xv @take_length.{0}<|Xv @all_cons.{0}<|Xv @all_nil.{0}<|Xv @Option.map_some.{0,0}<|Xv @Option.bind_some.{0,0}<|Xv @Option.bind_none.{0,0}<|Xv @getElem?_cons_zero.{0}<|Xv @getElem?_cons_succ.{0}<|Xv @getElem?_toArray.{0}<|Xv @map_cons.{0,0}<|Xv @map_nil.{0,0}<|Xv @toList_toArray.{0}<|Xv @decide_true<|Xv @decide_false<|Xv @Bool.true_and<|Xv @Bool.and_true<|Xv @beq_self_eq_true.{0}<|Xv @beq_true<|Xv @beq_false<|Xv @Bool.not_false<|Xv @Bool.not_true<|Xv @ge_iff_le.{0}<|Xv @gt_iff_lt.{0}<|Xv @true_and<|Xv @and_true<|Xv @getD_cons_zero.{0}<|Xv @getD_cons_succ.{0}<|Xv @length_cons.{0}<|Xv @length_nil.{0}<|Xv @drop_succ_cons.{0}<|Xv @drop_zero.{0}<|Xv @take_succ_cons.{0}<|Xv @take_zero.{0}<|Xv @head?_cons.{0}<|Xv @Option.isSome_some.{0}<|Xv @if_true.{1}<|Xv @if_false.{1}<|Xv @Bool.false_eq_true<|Xv @Int.toNat_natCast<|Xv @Ao<|Xv @Be<|Xv @Ah<|Xv @Aa<|Xv @vI<|Xv @mV<|Xv @Ak<|Xv @Aj<|Xv @Ac<|Xv @Og<|Xv @Nc<|Xv @H6<|Xv @Az<|Xv @La<|Xv @O5<|Xv @SB<|Xv @fC<|Xv @Zg<|Xv @fD<|Xv @SA<|Xv @set_cons_zero.{0}<|Xv @set_cons_succ.{0}<|Xv @cons_append.{0}<|Xv @nil_append.{0}<|Xv @append_nil.{0}<|Xv @replicate_succ.{0}<|Xv @replicate_zero.{0}<|Xv @flatten_cons.{0}<|Xv @flatten_nil.{0}<|Xv @ne_eq.{1}<|Xv @not_true_eq_false<|Xv @false_or<|Xv @or_false<|Xv @Nat.lt_irrefl<|Xv @Int.natCast_nonneg<|Xv @i64w<|Xv @TU.{1}<|Xv @Oh<|@implies_true.{0}
def B1:=Xv @Aa<|Xv @Ac<|Xv @Az<|Xv @O5<|Xv @length_cons.{0}<|@length_nil.{0}
def B2:=Xv @Bool.not_eq_true'<|@Bool.not_eq_false'
def B3:=Xv @decide_eq_true_eq<|Xv @decide_eq_false_iff_not<|Xv @Int.not_lt<|@Int.not_le
def B4:=Xv @DR.eq_1<|Xv @BR.eq_1<|Xv @BR.eq_2<|Xv @BR.eq_3<|Xv @BR.eq_4<|Xv @BC.eq_1<|Xv @BC.eq_2<|Xv @DF.eq_1<|Xv @DF.eq_2<|Xv @EB.eq_1<|Xv @EF.eq_1<|Xv @bnd.eq_1<|Xv @bnd.eq_2<|Xv @lsp.eq_1<|Xv @lsp.eq_2<|Xv @CK.eq_1<|Xv @CK.eq_2<|Xv @GV.eq_1<|Xv @DU.eq_1<|Xv @DU.eq_2<|Xv @EY.eq_1<|Xv @EY.eq_2<|Xv @upd.eq_1<|Xv @AL.eq_1<|Xv @FS.eq_1<|Xv @FS.eq_2<|Xv @NY.eq_1<|Xv @aT.eq_1<|Xv @aT.eq_2<|Xv @LX.eq_1<|Xv @aU.eq_1<|Xv @aU.eq_2<|Xv @FR.eq_1<|Xv @PR.eq_1<|Xv @EC<|Xv @DG<|Xv @ED<|@DI
abbrev Y (n:Int):AV:=sc (.int .i64 n)
open Go.Proofs Go.Proofs.Tryz
abbrev lw (i)(l:List (List UInt8)):=sl i (Z l) (l.map O)
abbrev my (b:Bool):AV:=sc (.bool b)
abbrev ni:=AF prog
def nk {p:Prop}(h:p:=by simp):p:=h
def nn {p q:Prop}(h:p)(w:PLift p->q:=by intro w;simpa using w.down):q:=w ⟨h⟩
def nq {p:Prop}(h:p:=by kernel_rfl):p:=h
def nr {p:Prop}(h:p:=by decide):p:=h
def nu {p:Prop}(h:p:=by assumption):p:=h
def nv (n m:Nat):Array Bool:=((range n).map m.testBit).toArray
def SK:J3 prog 3=some (false,1):=nq
def PU:List Value:=replicate 26 (.bool false)++(replicate 26 [.bool false,.int .i64 0]).flatten
def OC:List Value:=[.slice none 0 0,.bool false,.int .i64 0,.slice none 0 0]++replicate 4096 (Value.slice none 0 0)
def S3:P0 prog 48=some (1,8,[.int .i64 0]):=nq
def S1:P0 prog 42=some (1,16,[.string ⟨#[]⟩]):=nq
def Mw:P0 prog 60=some (4,64,[.bool false,.int .i64 0,.slice none 0 0,.slice none 0 0]):=nq
def F5:P0 prog 72=some (2,32,[.int .i64 0,.slice none 0 0]):=nq
def fP:P0 prog 75=some (1,24,[.slice none 0 0]):=nq
def Gl:P0 prog 120=some (2,16,[.bool false,.int .i64 0]):=nq
def G5:P0 prog 123=some (3,40,[.bool false,.int .i64 0,.slice none 0 0]):=nq
def G6:P0 prog 138=some (3,24,[.int .i64 0,.int .i64 0,.int .i64 0]):=nq
def It:P0 prog 101=some (3,48,[.bool false,.string ⟨#[]⟩,.slice none 0 0]):=nq
def Q8:P0 prog 96=some (5,80,[.bool false,.bool false,.string ⟨#[]⟩,.slice none 0 0,.slice none 0 0]):=nq
def U6:P0 prog 160=some (2,32,[.string ⟨#[]⟩,.string ⟨#[]⟩]):=nq
def Ee:P0 prog 189=some (3,56,[.int .i64 0,.slice none 0 0,.slice none 0 0]):=nq
def U5:P0 prog 87=some (1,1,[Value.int IntKind.u8 (0)]):=nq
def Q7:P0 prog 225=some (1,24,[.slice none 0 0]):=nq
def U4:P0 prog 227=some (1,1,[.bool false]):=nq
def cF:Dm prog 125 2=some (3,false,1):=nq
def Ag:prog.follows .mixedOrders:=nq
def PT:List Value:=(replicate 52 [.bool false,.int .i64 0]).flatten
def mj:List (Nat×Nat):=(range 52).map λk=>(k*2,2)
def FX (n){b}(y:b)(h:J3 prog n=some (false,1):=by kernel_rfl):J3 prog n=some (false,1)/\b:=⟨h,y⟩
def K2 (n m){b}(y:b)(h:J3 prog n=some (true,m):=by kernel_rfl):J3 prog n=some (true,m)/\b:=⟨h,y⟩
def LE (n m){b}(y:b)(h:Dm prog n m=some (m,false,1):=by kernel_rfl):Dm prog n m=some (m,false,1)/\b:=⟨h,y⟩
def MS (n m p q a){b}(y:b)(h:Dm prog n m=some (p,q,a):=by kernel_rfl):Dm prog n m=some (p,q,a)/\b:=⟨h,y⟩
def M3 (n m p){b}(y:b)(h:Up prog n=some (m,p):=by kernel_rfl):Up prog n=some (m,p)/\b:=⟨h,y⟩
def RX (n m){b}(y:b)(h:Gu prog n=some m:=by kernel_rfl):Gu prog n=some m/\b:=⟨h,y⟩
def R0 (n m p){b}(y:b)(h:Lp prog n=some (m,p):=by kernel_rfl):Lp prog n=some (m,p)/\b:=⟨h,y⟩
def BF:=K2 152 52<|K2 222 16<|RX 222 [.bool false,.bool false,.bool false,.bool false,.bool false,.bool false,.bool false,.bool false,.bool false,.bool false,.bool false,.bool false,.bool false,.bool false,.bool false,.bool false]<|M3 222 16 1<|LE 26 2<|Xv underlying152<|Xv underlying141<|Xv SK<|FX 4<|FX 9<|FX 42<|K2 26 6<|FX 60<|K2 62 2<|FX 72<|FX 75<|K2 77 3<|FX 120<|K2 122 2<|FX 123<|K2 125 4<|K2 151 2<|K2 154 78<|K2 113 3<|FX 138<|K2 141 3<|FX 101<|K2 108 3<|K2 110 5<|K2 198 3<|FX 189<|K2 191 4<|FX 227<|K2 239 3<|K2 220 256<|RX 26 [.int .i64 0,.int .i64 0,.int .i64 0,.string ⟨#[]⟩,.string ⟨#[]⟩,.string ⟨#[]⟩]<|RX 62 [.slice none 0 0,.slice none 0 0]<|RX 77 [.slice none 0 0,.int .i64 0,.int .i64 0]<|RX 122 [.int .i64 0,.slice none 0 0]<|RX 125 [.bool false,.int .i64 0,.slice none 0 0,.slice none 0 0]<|RX 151 [.bool false,.int .i64 0]<|RX 154 PU<|RX 113 [.string ⟨#[]⟩,.int .i64 0,.slice none 0 0]<|RX 141 [.int .i64 0,.int .i64 0,.int .i64 0]<|RX 108 [.bool false,.string ⟨#[]⟩,.slice none 0 0]<|RX 110 [.bool false,.bool false,.string ⟨#[]⟩,.slice none 0 0,.slice none 0 0]<|RX 198 [.bool false,.int .i64 0,.slice none 0 0]<|RX 191 [.int .i64 0,.slice none 0 0,.slice none 0 0,.slice none 0 0]<|RX 239 [.int .i64 0,.slice none 0 0,.slice none 0 0]<|RX 220 (zV 256 (.bool false))<|RX 273 (zV 1026 (.bool false))<|RX 304 (zV 1026 (.int .i64 0))<|Xv (nq:Ff prog 22=some (6,72))<|Xv (nq:Ff prog 48=some (1,8))<|Xv (nq:Ff prog 42=some (1,16))<|Xv (nq:Ff prog 60=some (4,64))<|Xv (nq:Ff prog 72=some (2,32))<|Xv (nq:Ff prog 75=some (1,24))<|Xv (nq:Ff prog 120=some (2,16))<|Xv (nq:Ff prog 123=some (3,40))<|Xv (nq:Ff prog 138=some (3,24))<|Xv (nq:Ff prog 101=some (3,48))<|Xv (nq:Ff prog 96=some (5,80))<|Xv (nq:Ff prog 160=some (2,32))<|Xv (nq:Ff prog 189=some (3,56))<|Xv (nq:Ff prog 225=some (1,24))<|Xv (nq:Ff prog 227=some (1,1))<|M3 149 26 1<|M3 152 26 2<|M3 141 3 1<|M3 218 16 1<|M3 220 16 16<|M3 273 1026 1<|M3 252 4096 1<|M3 304 1026 1<|R0 62 [.slice none 0 0,.slice none 0 0] [(0,1),(1,1)]<|R0 77 [.slice none 0 0,.int .i64 0,.int .i64 0] [(0,1),(1,1),(2,1)]<|R0 122 [.int .i64 0,.slice none 0 0] [(0,1),(1,1)]<|R0 125 [.bool false,.int .i64 0,.slice none 0 0,.slice none 0 0] [(0,1),(1,2),(3,1)]<|R0 151 [.bool false,.int .i64 0] [(0,1),(1,1)]<|R0 154 PU [(0,26),(26,52)]<|R0 113 [.string ⟨#[]⟩,.int .i64 0,.slice none 0 0] [(0,1),(1,1),(2,1)]<|R0 141 [.int .i64 0,.int .i64 0,.int .i64 0] [(0,1),(1,1),(2,1)]<|R0 108 [.bool false,.string ⟨#[]⟩,.slice none 0 0] [(0,1),(1,1),(2,1)]<|R0 110 [.bool false,.bool false,.string ⟨#[]⟩,.slice none 0 0,.slice none 0 0] [(0,1),(1,3),(4,1)]<|R0 162 [.string ⟨#[]⟩,.string ⟨#[]⟩] [(0,1),(1,1)]<|R0 198 [.bool false,.int .i64 0,.slice none 0 0] [(0,1),(1,2)]<|R0 191 [.int .i64 0,.slice none 0 0,.slice none 0 0,.slice none 0 0] [(0,2),(2,1),(3,1)]<|R0 239 [.int .i64 0,.slice none 0 0,.slice none 0 0] [(0,2),(2,1)]<|R0 210 [.int .i64 0,.int .i64 0,.int .i64 0,.int .i64 0,.int .i64 0,.int .i64 0,.bool false] [(0,1),(1,1),(2,1),(3,1),(4,1),(5,1),(6,1)]<|R0 254 OC [(0,1),(1,1),(2,1),(3,1),(4,4096)]<|Xv S3<|Xv S1<|Xv Mw<|Xv F5<|Xv fP<|Xv Gl<|Xv G5<|Xv G6<|Xv It<|Xv Q8<|Xv U6<|Xv Ee<|Xv U5<|Xv Q7<|Xv U4<|LE 26 0<|LE 26 1<|LE 26 3<|LE 26 4<|LE 62 0<|LE 62 1<|LE 77 0<|LE 77 1<|LE 77 2<|LE 122 0<|LE 122 1<|LE 125 0<|MS 125 1 1 true 2<|Xv cF<|LE 151 0<|LE 151 1<|MS 154 0 0 true 26<|MS 154 1 26 true 52<|LE 113 0<|LE 113 1<|LE 113 2<|LE 108 0<|LE 108 1<|LE 108 2<|LE 110 0<|MS 110 1 1 true 3<|MS 110 2 4 false 1<|LE 162 0<|LE 162 1<|LE 198 0<|MS 198 1 1 true 2<|MS 191 0 0 true 2<|MS 191 1 2 false 1<|MS 191 2 3 false 1<|MS 239 0 0 true 2<|MS 239 1 2 false 1<|LE 210 0<|LE 210 1<|LE 210 2<|LE 210 3<|LE 210 4<|LE 210 5<|LE 210 6<|LE 254 0<|LE 254 1<|LE 254 2<|LE 254 3<|MS 254 4 4 true 4096<|Xv (nq:kG prog 151=some .i64)<|Xv (nq:jP prog 141)<|Xv underlying3<|Xv underlying4<|Xv underlying5<|Xv underlying9<|Xv underlying123<|Xv underlying87<|K2 260 104<|M3 260 52 2<|RX 260 PT<|R0 260 PT mj<|trivial
def Xa:=@Iy
def Xb:=@fF
def Xc:=@Sj
def Xd:=@oJ
def Xe:=@oL
def Xf:=@vX
def Xh:=@fI
def Xi:=@AF.mono
def Xj {A F D a i}{b:Prop}(c:Kept A F D i a:=by with_unfolding_all first|exact kept_refl|exact A3 rfl|exact Al (by assumption)):(b)->Kept A F D i a/\b:=λh=>⟨c,h⟩
def Xn {p q:Prop}(e:p=q:=by ((try simp only[upd,↓reduceIte,Nat.reduceEqDiff,B2])<;>(try simp only[*,reduceCtorEq,NJ,NK]))<;>rfl):p=q:=e
def Xo {p q:Prop}(e:p=q:=by (simp only[B3])<;>rfl):p->q:=e.mp
def Xp {p:Prop}(e:False:=by first|contradiction|omega|(simp at h<;>fail)):p:=e.elim
def Xk {P n Q s D c x y t}{q i u v:Prop}(b:BR s c=sc (.bool t):=by with_unfolding_all rfl)(a:(t=true)=q:=by exact Xn)(e2:(t=false)=i:=by exact Xn)(d:q->u:=by first|exact Xo|exact λ_=>True.intro)(e:i->v:=by first|exact Xo|exact λ_=>True.intro):(q->u->Mn P n x Q s D)->(i->v->Mn P n y Q s D)->Mn P n (.cond c x y) Q s D:=λg f=>Zl b (λh=>g (a.mp h) (d (a.mp h))) (λh=>f (e2.mp h) (e (e2.mp h)))
def Xl {P o s D k t}{q f u v:Prop}(a:(t=true)=q:=by exact Xn)(e2:(t=false)=f:=by exact Xn)(b:q->u:=by first|exact Xo|exact λ_=>True.intro)(c:f->v:=by first|exact Xo|exact λ_=>True.intro):(q->u->DR P o s D (NY k s o.dst))->(f->v->k (BC s o.dst (sc undef)) D)->gd P o s D k (some t):=λe d=>VO (λh=>EC.mpr (e (a.mp h) (b (a.mp h)))) (λh=>DG.mpr (d (e2.mp h) (c (e2.mp h))))
def Xm {P o s F σ0 k t}{q f u v:Prop}(a:(t=true)=q:=by exact Xn)(e2:(t=false)=f:=by exact Xn)(b:q->u:=by first|exact Xo|exact λ_=>True.intro)(c:f->v:=by first|exact Xo|exact λ_=>True.intro):(q->u->match aq P s σ0 o.op with
   |some x=>(∀p,LZ s o.op=some p->F p)/\k (BC s o.dst x)
   |none=>False)->(f->v->k (BC s o.dst (sc undef)))->gt P o s F σ0 k (some t):=λe d=>VN (λh=>ED.mpr (e (a.mp h) (b (a.mp h)))) (λh=>DI.mpr (d (e2.mp h) (c (e2.mp h))))
def Xq {p:Prop}(h:p:=by first|rfl|assumption|omega|(simp only[Aa,Ac,Az];omega)|(simp;omega)|(simp<;>fail)):p:=h
def Xr {p q:Prop}(e:p=q:=by (simp (maxSteps:=3000000) (disch:=(first|omega|(simp only[B1, *];omega))) only[↓nF,↓eE,B0,B4,Li,undef,aq,al,cst,cst1,acells,flat,behind,zR,oY,Z0,uP,OH,MX,LZ,vH,Value.cells,Value.oneCell',Int.reduceToNat,↓reduceIte,Nat.reduceLT,Nat.reduceEqDiff,reduceCtorEq,Nat.reduceAdd,Nat.reduceMul,Nat.reduceLeDiff,BF, *])<;>rfl):(q)->p:=λh=>e.mpr h
def Xw {p q:Prop}(e:p=q:=by (simp (maxSteps:=3000000) (disch:=(first|omega|(simp only[AX,B1, *];omega))) only[AX,↓nF,↓eE,B0,B4,Li,undef,aq,al,cst,cst1,acells,flat,behind,zR,oY,Z0,uP,OH,MX,LZ,vH,Value.cells,Value.oneCell',Int.reduceToNat,↓reduceIte,Nat.reduceLT,Nat.reduceEqDiff,reduceCtorEq,Nat.reduceAdd,Nat.reduceMul,Nat.reduceLeDiff,BF, *])<;>rfl):(q)->p:=λh=>e.mpr h
def Xs {a b}(h:W a b:=by repeat (first|exact W.refl _|assumption|(refine W.put ?_ (by first|omega|(simp only[Aa,Ac,Az, *];omega)) _)|(refine W.new ?_ _)|(refine W.lay ?_ _)|(refine W.trans ?_ (by assumption)))):W a b:=h
def Xt {t z b f σ0 D id e n m s xs c K}
  
  (o:P0 prog t=some (z,b,f):=by first|exact S3|exact S1|exact Mw|exact F5|exact fP|exact Gl|exact G5|exact G6|exact It|exact Q8|exact U6|exact Ee|exact U5|exact Q7|exact U4) (g:W σ0 D:=by assumption) (v:J σ0 D id n:=by assumption)
  (u:0<z:=by decide) (d:Z f=z:=by with_unfolding_all rfl) (j:Z xs=n*z:=by first|assumption|(simp<;>fail)|(simp;omega)|omega) (l:Z c=m*z:=by with_unfolding_all rfl) (p:c.all flat:=by with_unfolding_all rfl) (k:0<m:=by decide) (q:(n+m)*b<=140737488355328:=by omega) (i:n+m<=1099511627776:=by omega):(∀id' a,J σ0 a id' (n+m)->W σ0 a->a.C=D.C->a.B=D.B->a.ver=D.ver->D.D<a.D->K (sl id' (n+m) (xs++c)) a)->Jx prog t t (sl id n xs) (sl e m c) (D.lay s) K:=λh=>Bo o g v u d j l p k q i h
def Xu {t z b e D d m a K}(k:P0 prog t=some (z,b,e):=by first|exact S3|exact S1|exact Mw|exact F5|exact fP|exact Gl|exact G5|exact G6|exact It|exact Q8|exact U6|exact Ee|exact U5|exact Q7|exact U4)(c:Z e=z:=by with_unfolding_all rfl)
  (n:0<z:=by decide) (i:Z a=m*z:=by with_unfolding_all rfl) (j:a.all flat:=by with_unfolding_all rfl) (g:0<m:=by decide) (l:m*b<=140737488355328:=by omega) (f:m<=1099511627776:=by omega):(K (sl (D.D+2) m a) (D.lay m))->Jx prog t t H (sl d m a) D K:=λh=>WS k c n i j g l f h
def Z1 {p q:Prop}(h:p)(w:p->q:=by with_reducible first|exact Xa|exact Xb|exact Xd|exact Xe|exact Xf|exact Xu):q:=w h
def Z2 {a b c:Prop}(d:a)(h2:b)(w:a->b->c:=by with_reducible first|exact Xl|exact Xm|exact Xk):c:=w d h2
def Z3 {p q:Prop}(h:p)(w:p->q:=by first|exact Xr|with_reducible exact Xj):q:=w h
def Z7 {p q:Prop}(h:p)(w:p->q:=by first|exact Xw|with_reducible exact Xj):q:=w h
def Z4 {p q:Prop}(h:p)(w:p->q:=by with_reducible exact ya.o _ _):q:=w h
def Z5 {p q:Prop}(h:p)(w:p->q:=by with_reducible exact Xh):q:=w h
def Z6 {p q:Prop}(h:p)(w:p->q:=by with_reducible exact Xt):q:=w h
def Z8 {p q:Prop}(h:p)(w:p->q:=by with_reducible exact Xc):q:=w h
def Zi {a b c:Prop}(d:a)(h2:b)(w:a->b->c:=by with_reducible exact And.intro):c:=w d h2
def Zt:True:=⟨⟩
def X {p q:Prop}(h:p)(w:PLift p->q:=by intro w;(repeat' first|refine Z1 ?_|refine Z8 λyb ya=>?_|refine Z4 ?_;try clear ya yb|refine Z2 ?_ ?_<;>intro h a<;>try exact Xp|refine Z3 ?_|exact Zt|apply ya.o;try clear ya yb);exact w.down):q:=w ⟨h⟩
def mu {p q:Prop}(h:p)(w:PLift p->q:=by intro w;(repeat' first|refine Z1 ?_|refine Z8 λyb ya=>?_|refine Z4 ?_;try clear ya yb|refine Z2 ?_ ?_<;>intro h a<;>try exact Xp|refine Z7 ?_|exact Zt|apply ya.o;try clear ya yb);exact w.down):q:=w ⟨h⟩
def mw {p q:Prop}(h:p)(w:PLift p->q:=by intro w;(repeat' first|refine Z1 ?_|refine Z8 λyb ya=>?_|refine Z4 ?_;try clear ya yb|refine Z2 ?_ ?_<;>intro h a<;>try exact Xp|refine Z3 ?_|exact Zt|apply ya.o;try clear ya yb);revert a h;exact w.down):q:=w ⟨h⟩
def nh {p q:Prop}(h:p)(w:PLift p->q:=by intro w;(repeat' first|refine Z1 ?_|refine Z8 λyb ya=>?_|refine Z4 ?_;try clear ya yb|refine Z2 ?_ ?_<;>intro h a<;>try exact Xp|refine Z3 ?_|exact Zt|apply ya.o;try clear ya yb);revert ya yb;exact w.down):q:=w ⟨h⟩
def mz {p q:Prop}(h:p)(w:PLift p->q:=by intro w;(repeat' first|refine Z1 ?_|refine Z8 λyb ya=>?_|refine Z4 ?_;try clear ya yb|refine Z2 ?_ ?_<;>intro h a<;>try exact Xp|refine Z5 ?_;exact w.down|refine Z3 ?_|exact Zt|apply ya.o;try clear ya yb)):q:=w ⟨h⟩
def m0 {p q:Prop}(h:p)(w:PLift p->q:=by intro w;(repeat' first|refine Z1 ?_|refine Z8 λyb ya=>?_|refine Z4 ?_;try clear ya yb|refine Z2 ?_ ?_<;>intro h a<;>try exact Xp|refine Z5 ?_;revert ya yb;exact w.down|refine Z3 ?_|exact Zt|apply ya.o;try clear ya yb)):q:=w ⟨h⟩
def m4 {p q:Prop}(h:p)(w:PLift p->q:=by intro w;(repeat' first|refine Z1 ?_|refine Z8 λyb ya=>?_|refine Z4 ?_;try clear ya yb|refine Z2 ?_ ?_<;>intro h a<;>try exact Xp|refine Z6 ?_;exact w.down|refine Z3 ?_|exact Zt|apply ya.o;try clear ya yb)):q:=w ⟨h⟩
def m5 {p q:Prop}(h:p)(w:PLift p->q:=by intro w;(repeat' first|refine Z1 ?_|refine Z8 λyb ya=>?_|refine Z4 ?_;try clear ya yb|refine Z2 ?_ ?_<;>intro h a<;>try exact Xp|refine Z6 ?_;revert ya yb;exact w.down|refine Z3 ?_|exact Zt|apply ya.o;try clear ya yb)):q:=w ⟨h⟩
def m6 {p q b:Prop}(h:p)(g:b)(w:PLift p->PLift b->q:=by intro w v;(repeat' first|refine Z1 ?_|refine Z8 λyb ya=>?_|refine Z4 ?_;try clear ya yb|refine Z2 ?_ ?_<;>intro h a<;>try exact Xp|refine Z3 ?_|exact Zt|apply ya.o;try clear ya yb);revert a h;exact w.down;revert a h;exact v.down):q:=w ⟨h⟩ ⟨g⟩
def m7 {q:Prop}(w:q:=by repeat' first|refine Z1 ?_|refine Z8 λyb ya=>?_|refine Z4 ?_;try clear ya yb|refine Z2 ?_ ?_<;>intro h a<;>try exact Xp|refine Z3 ?_|exact Zt|apply ya.o;try clear ya yb):q:=w
def m8 {p:Prop}(h:p:=by (repeat' refine Zi ?_ ?_)<;>first|exact Xq|exact Xs):p:=h
def m9 {p q:Prop}(e:q)(w:q->p:=by intro e;(repeat' refine Zi ?_ ?_)<;>first|exact Xq|exact e|exact Xs):p:=w e
def nf {p q a:Prop}(e:q)(f:a)(w:q->a->p:=by intro e f;(repeat' refine Zi ?_ ?_)<;>first|exact Xq|exact e|exact f|exact Xs):p:=w e f
def ng {p q a s:Prop}(e:q)(f:a)(g:s)(w:q->a->s->p:=by intro e f g;(repeat' refine Zi ?_ ?_)<;>first|exact Xq|exact e|exact f|exact g|exact Xs):p:=w e f g
def Z9 {P f b c a D R}(n rs)(k:P.funcs[f]?=some b)(h:Mn P n c (MX P rs R) (AL a) D)(g:b.body=some c:=by rfl)(j:b.name≠ "runtime.NumGoroutine":=by decide)(e:b.ntmps=n:=by rfl)(d:b.results.toList=rs:=by rfl)(i:Z a<=n:=by exact Nat.le_of_ble_eq_true rfl):AF P f a D R:=jv n rs k g j e d i h
def AI {p:Prop}(h:p:=by simp[upd, *]):p:=h
def AG {p:Prop}(h:p:=by simp[upd]):p:=h
def AH {p:Prop}(h:p:=by kernel_rfl):p:=h
def AM {p:Prop}(h:p:=by simp only[Aa];omega):p:=h
def BJ {p:Prop}(h:p:=by simp only[Ac,Aa];omega):p:=h
def ny {p q:Prop}(h:p)(w:PLift p->q:=by intro w;have:=w.down;omega):q:=w ⟨h⟩
def ns {p q:Prop}(h:p)(w:PLift p->q:=by intro w;simp[w.down]):q:=w ⟨h⟩
def fy {A F D i a}(c:Kept A F D i a:=by with_unfolding_all first|exact kept_refl|exact A3 rfl|exact Al Xs):Kept A F D i a:=c
def ux {p q:Prop}(h:p)(w:PLift p->q:=by intro w;first|(refine Z3 ?_;refine ya.o _ _ ⟨fy,?_⟩;exact w.down)|(refine Z7 ?_;refine ya.o _ _ ⟨fy,?_⟩;exact w.down)):q:=w ⟨h⟩
section
variable {n:Nat}{Q:Ig}{M σ0:St}{l:List Oper}{s:Sl}{F:Nat->Prop}{A:Nat->Bool}
def bT {id}(b f:List Nat)(m Lqx){p:Prop}(h:p)(g:(Region.noSelect l.toArray&&Z f+m==Z l&&MU l (λj=>!b.contains j) Lqx f (Array.replicate (Z l) false)):=by kernel_rfl)(u:∀c s M,¬Q (.panic c) s M:=by intro _ _ _ h;cases h.1)(w:PLift p->∀K:Sl->Prop,V (∀i,Qs prog n l Q (λ_=>True) (λj=>!b.contains j) M m Lqx i M->K i)->aT prog n l (λ_=>True) M K f s:=by intro w yb ya;first|(refine Z3 ?_;refine ya.o _ ?_;exact w.down)|(refine Z7 ?_;refine ya.o _ ?_;exact w.down)):Mn prog n (.region id l.toArray true) Q s M:=Ar Ag _ b f m Lqx g u (w ⟨h⟩)
def ta {i}{K:Sl->St->Prop}{p:Prop}(h:p)(w:PLift p->∀yb:Sl->St->Prop,V (∀a M',K a M'->yb a M')->FR prog n l i s M yb:=by intro w yb ya;exact ux w.down):FR prog n l i s M K:=Am (w ⟨h⟩)
def rl {b a}(i){p:Prop}(h:p)(d:Region.ready .any l.toArray a=[i]:=by kernel_rfl)(w:PLift p->FR prog n l i s M λe M'=>Kept A F σ0 i M'/\Qs prog n l Q F A σ0 b (a.setIfInBounds i true) e M':=by intro w;refine Am ?_;intro yb ya;exact ux w.down):Qs prog n l Q F A σ0 (b+1) a s M:=Ai d (w ⟨h⟩)
def tn {b a}(i){x p:Prop}(u:x)(h:p)(d:Region.ready .any l.toArray a=[i]:=by kernel_rfl)(w:x->PLift p->FR prog n l i s M λe M'=>Kept A F σ0 i M'/\Qs prog n l Q F A σ0 b (a.setIfInBounds i true) e M':=by intro u w;refine Am ?_;intro yb ya;first|(refine Z3 ?_;refine Xi (u _) ?_;revert ya yb;exact w.down)|(refine Z7 ?_;refine Xi (u _) ?_;revert ya yb;exact w.down)):Qs prog n l Q F A σ0 (b+1) a s M:=Ai d (w u ⟨h⟩)
def vk {a}(ts){p:Prop}(h:p)(k:W σ0 M:=by exact Xs)(j:Region.noSelect l.toArray:=by kernel_rfl)(e:OA l A [] ts a:=by kernel_rfl)(g:∀c s M,¬Q (.panic c) s M:=by intro _ _ _ h;cases h.1)(w:PLift p->∀yb:Sl->St->Prop,V (∀s M,Q .normal s M->yb s M)->aT prog n l F M (λi=>yb i M) ts s:=by intro w yb ya;first|(refine Z3 ?_;refine ya.o _ _ ?_;exact w.down)|(refine Z7 ?_;refine ya.o _ _ ?_;exact w.down)):Qs prog n l Q F A σ0 (Z ts) a s M:=Df ts j e g k.B (λo u _=>k.ver o u) (w ⟨h⟩)
end
def mt {x p q:Prop}(u:x)(h:p)(w:x->PLift p->q:=by intro u w;(repeat' first|refine Z1 ?_|refine Z8 λyb ya=>?_|refine Z4 ?_;try clear ya yb|refine Z2 ?_ ?_<;>intro h a<;>try exact Xp|refine Z5 ?_;refine Xi (u _) ?_;revert ya yb;exact w.down|refine Z3 ?_|exact Zt|apply ya.o;try clear ya yb)):q:=w u ⟨h⟩
def oi {p:Prop}(h:p:=by repeat (first|assumption|with_reducible apply J.put|with_reducible apply J.new|(with_reducible refine J.keep ?_ (by assumption)))):p:=h
def qs {p q a s:Prop}(e:p)(f:q)(g:s)(w:p->q->s->a:=by intro e f g;(repeat' refine Zi ?_ ?_)<;>first|exact Xq|exact e|exact f|exact g|exact Xs|exact oi|exact nn oi|exact nn Ak|(simp[ *];omega)|(simp[ *]<;>fail)):a:=w e f g
def qk {p q a:Prop}(e:p)(f:q)(w:p->q->a:=by intro e f;exact qs e f e):a:=w e f
def qj {q a:Prop}(e:q)(w:q->a:=by intro e;exact qs e e e):a:=w e
def oj {p:Prop}(h:p:=by exact qs Zt Zt Zt):p:=h
def wl {P f b c a D R n rs}(k:P.funcs[f]?=some b)(h:Mn P n c (MX P rs R) (AL a) D)(g:b.body=some c:=by rfl)(j:b.name≠ "runtime.NumGoroutine":=by decide)(e:b.ntmps=n:=by conv=>{lhs;whnf})(d:b.results.toList=rs:=by conv=>{lhs;whnf})(i:Z a<=n:=by exact Nat.le_of_ble_eq_true rfl):AF P f a D R:=jv n rs k g j e d i h
def iw (s d:Sl):List Nat->Prop
 |[]=>True
 |[k]=>d k=s k
 |k::l=>d k=s k/\iw s d l
def iw.refl (s):∀l,iw s s l
 |[]=>⟨⟩
 |[_]=>rfl
 |_::b::l=>⟨rfl,iw.refl s (b::l)⟩
def wn {P n c Q s M}(a:List Nat)(v N:Nat)(I:Nat->Sl->St->Prop)(u:I 0 s M){K:Sl->Prop}(b:∀i d M',i<=N->K d->d v=Y i->I i d M'->Mn P n c (uP (λd M'=>i<N/\K d/\d v=Y ((i:Int)+1)/\I (i+1) d M') Q) d M')(e:∀d,iw s d a=K d:=by intro d;simp only[iw,upd,AL,↓reduceIte,Nat.reduceEqDiff,getD_cons_zero,getD_cons_succ, *];exact rfl)(z:s v=Y 0:=by first|rfl|simp[upd, *]):Mn P n (.loop c) Q s M:=
 Ae (λm d M'=>∃i:Nat,m=N-i/\i<=N/\d v=Y i/\iw s d a/\I i d M') N ⟨0,rfl,Nat.zero_le _,z,iw.refl s a,u⟩ λm d M' ⟨i,f,g,h,j,k⟩=>by
  subst f;refine A2 (b i d M' g (e d ▸ j) h k) ?_;intro x t p y
  cases x<;>first|exact y|(obtain⟨l,o,q,A⟩:=y;exact⟨N-(i+1),by omega,i+1,rfl,l,by rw[q];rfl,by rw[e];exact o,A⟩)
def hZ {t z b l σ0 M id f n m a xs c K}(d:W σ0 M)(h:∀id' M',J σ0 M' id' (n+m)->W σ0 M'->M'.C=M.C->M'.B=M.B->M'.ver=M.ver->M.D<M'.D->K (sl id' (n+m) (xs++c)) M')(q:P0 prog t=some (z,b,l):=by first|exact S3|exact S1|exact Mw|exact F5|exact fP|exact Gl|exact G5|exact G6|exact It|exact Q8|exact U6|exact Ee|exact U5|exact Q7|exact U4)(v:J σ0 M id n:=by exact oi)(x:0<z:=by decide)(e:Z l=z:=by with_unfolding_all rfl)(i:Z xs=n*z:=by first|assumption|(simp<;>fail)|(simp;omega)|omega)(p:Z c=m*z:=by with_unfolding_all rfl)(s:c.all flat:=by with_unfolding_all rfl)(j:0<m:=by decide)(u:(n+m)*b<=140737488355328:=by omega)(o:n+m<=1099511627776:=by omega):Jx prog t t (sl id n xs) (sl f m c) (M.lay a) K:=Bo q d v x e i p s j u o h
def gq {α:Type}{l:List α}{k}(h:k<Z l):∃w,l[k]?=some w:=⟨_,AK h⟩
end Go.Abs
