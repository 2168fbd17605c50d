import Derived.WalkKit
import Derived.Orders
import GoSem.ClaimWide
import Derived.Lib.LaidTab
import Derived.Lib.ItoaNum
import Derived.Test.YtmoeoppbmhfbpabGreatDoorProg
set_option linter.all false
open List renaming length->Z
namespace Go.Abs
def AA {p:Prop}(h:p:=by omega):p:=h
def AU:=@Nat.le_refl
def BI:=@Nat.le_trans
def BZ:=@Nat.lt_of_lt_of_le
def FT:=@Nat.lt_or_ge
def JD:=@Array.getElem?_eq_none.{0}
def JV:=@Array.getElem?_push.{0}
def GW:=@Nat.mul_le_mul_right
def GF:=@List.getElem?_take.{0}
def IJ:=@List.getElem?_drop.{0}
def BA:=@List.getElem?_eq_some_iff.{0}
def AK:=@List.getElem?_eq_getElem.{0}
def CX:=@List.all_eq_true.{0}
def AY:=@List.mem_of_getElem?.{0}
def GZ:=@Nat.add_zero
def BM:=@Bool.and_eq_true
def JU:=@List.drop_eq_nil_of_le.{0}
def GG:=@List.eq_nil_of_length_eq_zero.{0}
def FW:=@List.foldl_cons.{0,0}
def AS:=@List.take_length.{0}
def GH:=@List.getElem?_set.{0}
def ID:=@Nat.add_assoc
def DC:=@List.getElem?_map.{0,0}
def FD:=@List.getElem?_eq_none.{0}
def NF:=@Option.isSome_iff_exists.{0}
def AT:=@List.take_add_one.{0}
def If:=@Nat.succ_mul
def EU:=@List.map_append.{0,0}
def BH:=@List.map_map.{0,0,0}
def EJ:=@List.append_nil.{0}
def FL:=@List.ext_getElem?.{0}
def KX:=@Nat.mul_pos
def CC:=@List.map_cons.{0,0}
def IK:=@List.map_nil.{0,0}
def KY:=@Nat.zero_mul
def FM:=@Nat.add_mul
def DY:=@Nat.zero_add
def AX:=@List.length_append.{0}
def CN:=@List.length_take.{0}
def CR:=@List.append_assoc.{0}
def MB:=@List.getElem?_append_left.{0}
def JY:=@List.getElem?_append_right.{0}
def MC:=@Array.getD_eq_getD_getElem?.{0}
def FU:=@Option.bind_some.{0,0}
def ER:=@Nat.min_eq_left
def EI:=@Bool.false_eq_true
def IY:=@Bool.not_true
def MA:=@Bool.false_or
def CQ:=@List.length_nil.{0}
def BQ:=@List.length_cons.{0}
def JX:=@Bool.not_false
def ET:=@List.drop_eq_getElem_cons.{0}
def IZ:=@List.drop_length.{0}
def FZ:=@List.take_of_length_le.{0}
def CU:=@List.any_eq_true.{0}
def AR:=@List.getElem_mem.{0}
def AW:=@List.mem_append.{0}
def GJ:=@Option.map_some.{0,0}
def EV:=@List.any_eq_false.{0}
def JE:=@Bool.not_eq_true
def KB:=@List.find?_eq_none.{0}
def KC:=@List.flatMap_append.{0,0}
def BN:=@Option.toList_some.{0}
def DN:=@List.flatMap_cons.{0,0}
def ME:=@List.mem_of_find?_eq_some.{0}
def BD:=@List.mem_cons.{0}
def BV:=@List.length_map.{0,0}
def AN:=@List.mem_map.{0,0}
def IL:=@List.mem_cons_self.{0}
def EW:=@List.cons_append.{0}
def IM:=@List.mem_cons_of_mem.{0}
def FE:=@List.nil_append.{0}
def EX:=@List.mem_flatMap.{0,0}
def NG:=@List.drop_append_of_le_length.{0}
def IE:=@List.map_id.{0}
def CG:=@List.map_congr_left.{0,0}
def FV:=@Bool.true_and
def CL:=@List.getElem?_of_mem.{0}
def GX:=@Nat.sub_self
def PH:=@Nat.sub_zero
def KZ:=@List.length_singleton.{0}
def JZ:=@List.idxOf_cons.{0}
def EK:=@List.not_mem_nil.{0}
def GI:=@Bool.eq_iff_iff
def FN:=@List.getElem_idxOf.{0}
def CS:=@List.idxOf_lt_length_of_mem.{0}
def FY:=@List.mem_singleton.{0}
def KA:=@Int.natCast_nonneg
def Gf:=@Option.some.inj.{0}
def GB:=@Prod.ext.{0,0}
def EE:=@List.mem_of_mem_eraseIdx.{0}
def LG:=@List.eraseIdx_of_length_le.{0}
def JF:=@List.length_eraseIdx_le.{0}
def KD:=@List.take_append_drop.{0}
def IP:=@List.nodup_append.{0}
def JG:=@List.flatMap_map.{0,0,0}
def LH:=@List.map_flatMap.{0,0,0}
def GN:=@List.nodup_nil.{0}
def KE:=@Nat.lt_trichotomy
def IQ:=@List.all_eq_false.{0}
def MG:=@Option.getD_some.{0}
def JH:=@List.drop_zero.{0}
def MH:=@List.any_append.{0}
def MI:=@List.countP_append.{0}
def MJ:=@List.countP_cons.{0}
def IR:=@List.filter_append.{0}
def BP:=@List.mem_filter.{0}
def IS:=@List.length_filter_le.{0}
def JI:=@List.mem_of_mem_take.{0}
def NI:=@List.mem_or_eq_of_mem_set.{0}
def DK:=@Int.toNat_natCast
def MK:=@List.countP_pos_iff.{0}
def GK:=@List.mem_append_left.{0}
def LI:=@List.mem_append_right.{0}
def JJ:=@Nat.add_le_add_left
def IN:=@List.mem_replicate.{0}
def FJ:=@Bool.not_eq_true'
def LB:=@List.fst_mem_of_mem_zipIdx.{0}
def LC:=@List.length_set.{0}
def NH:=@List.getElem?_set_ne.{0}
def MF:=@List.Sublist.refl.{0}
def LD:=@List.filter_sublist.{0}
def LF:=@Bool.or_eq_true
def CV:=@decide_eq_true_eq
def DO:=@beq_iff_eq.{0}
def NJ:=@decide_true
def NK:=@decide_false
def GM:=@true_and
def DZ:=@or_false
def KF:=@decide_eq_false
def LJ:=@decide_eq_true
open Go.RowKit (Below)
open Go.Proofs
abbrev AV:=DataW (Value ⊕ (Nat×Nat×Option Nat))
abbrev oh:=List AV
abbrev sc (v:Value):AV:=.held (.inl v)
abbrev ptr (o a:Nat):AV:=.held (.inr (o,a,none))
abbrev fx (o a b:Nat):AV:=.held (.inr (o,a,some b))
abbrev sl (id n:Nat)(xs:List AV):AV:=.slice xs [.held (.inr (id,n,none))]
abbrev ag (xs:List AV):AV:=.agg xs
abbrev tp (xs:List AV):AV:=.ptr (.agg xs)
abbrev el (xs:List AV):AV:=.ptr (.ptr (.agg xs))
abbrev nilS:AV:=sl 1 0 []
abbrev gx (o n a:Nat):AV:=.slice [] [.held (.inr (o,n,some a))]
structure St where
  C:Nat->List AV
  B:Nat
  top:Nat->Nat
  D:Nat
  ver:Nat->Nat
structure Gh where
  blk:Nat->Nat
  cur:Nat->Nat
  cap:Nat->Nat
  siz:Nat->Nat
  per:Nat->Nat->Prop
  base:Nat
  w0:World
def AP (R:Value->AV->Prop)(l:List Value)(m:List AV):Prop:=
  Z l=Z m/\∀(i:Nat) (a:Value) (b:AV),l[i]?=some a->m[i]?=some b->R a b
def FI (w:World)(a:Nat->Nat->Prop)(R:Value->AV->Prop)(b o:Nat)(xs:List AV):Prop:=
  ∀(i:Nat) (x:AV),xs[i]?=some x->a b (o+i)/\∃c,w.cell? ⟨b,o+i,none⟩=some c/\R c x
def Stp (G:Gh)(A:St)(w:World)(R:Value->AV->Prop)(v:Value):AV->Prop
  |.held (.inl u)=>v=u
  |.held (.inr (o,d,none))=>v= .pointer (some ⟨G.blk o,d,none⟩)/\o<A.B
  |.held (.inr (o,d,some f))=>(∃a,v= .slice (some ⟨G.blk o,d,none⟩) f a/\f<=a)/\o<A.B
  |.agg c=>∃e,v= .agg e/\AP R e.toList c
  |.ptr (.agg c)=>∃e,v= .tuple e/\AP R e.toList c
  |.ptr (.ptr (.agg c))=>∃b o,v= .pointer (some ⟨b,o,none⟩)/\FI w G.per R b o c
  |.slice c [.held (.inr (id,n,none))]=>∃base a,v= .slice base n a/\(n<=a/\(id=1->n=0/\a=0))/\
      (c≠[]->∃b o,base=some ⟨b,o,none⟩/\FI w G.per R b o c)/\
      (∀k,id=k+2->k<A.D/\n<=A.top k/\Z c=n*G.siz k/\(n=A.top k->base=some ⟨G.cur k,0,none⟩/\a=G.cap k))
  |.slice _ [.held (.inr (o,n,some a))]=>v= .slice (some ⟨G.blk o,0,none⟩) n a/\n<=a/\o<A.B
  |_=>False
def VR (G:Gh)(A:St)(w:World)(v:Value)(x:AV):Prop:=
  ∃R:Value->AV->Prop,(∀v x,R v x->Stp G A w R v x)/\R v x
def AP.mono {R R'}(h:∀v x,R v x->R' v x){l m}(a:AP R l m):AP R' l m:=
  ⟨a.1,λi x y b c=>h _ _ (a.2 i x y b c)⟩
def FI.mono {w f e d R R'}(h:∀v x,R v x->R' v x)
    (g:∀b o,e b o->d b o/\f.cell? ⟨b,o,none⟩=w.cell? ⟨b,o,none⟩){b o xs} (a:FI w e R b o xs):FI f d R' b o xs:=
  λi x k=>let⟨p,c,j,r⟩:=a i x k;⟨(g _ _ p).1,c,(g _ _ p).2.trans j,h _ _ r⟩
def Stp.mono {G A w R R'}(h:∀v x,R v x->R' v x){v x}(a:Stp G A w R v x):Stp G A w R' v x:=by
  unfold Stp at*
  split at a;exact a;exact a;exact a;obtain⟨d,e,r⟩:=a;exact⟨d,e,r.mono h⟩;obtain⟨d,e,r⟩:=a;exact⟨d,e,r.mono h⟩;obtain⟨b,o,e,r⟩:=a;exact⟨b,o,e,r.mono h (λ_ _ p=>⟨p,rfl⟩)⟩;obtain⟨base,c,e,j,f,g⟩:=a;exact⟨base,c,e,j,λi=>let⟨b,o,e,r⟩:=f i;⟨b,o,e,r.mono h (λ_ _ p=>⟨p,rfl⟩)⟩,g⟩;exact a;exact a
def VR.unfold {G A w v x}(a:VR G A w v x):Stp G A w (VR G A w) v x:=by
  obtain⟨R,h,r⟩:=a;exact (h _ _ r).mono λv x r=>⟨R,h,r⟩
def VR.fold {G A w v x}(a:Stp G A w (VR G A w) v x):VR G A w v x:=
  ⟨λv x=>VR G A w v x\/Stp G A w (VR G A w) v x,λv x h=>by
    rcases h with h|h;exact h.unfold.mono λ_ _=>.inl
    exact h.mono λ_ _=>.inl,.inr a⟩
structure CH (G:Gh)(A:St)(w:World)(G':Gh)(A':St)(w':World):Prop where
  base:G'.base=G.base
  w0:G'.w0=G.w0
  B:A.B<=A'.B
  blk:∀o,o<A.B->G'.blk o=G.blk o
  D:A.D<=A'.D
  top:∀k,k<A.D->A.top k<=A'.top k/\G'.siz k=G.siz k/\(A'.top k=A.top k->G'.cur k=G.cur k/\G'.cap k=G.cap k)
  per:∀b o,G.per b o->G'.per b o/\w'.cell? ⟨b,o,none⟩=w.cell? ⟨b,o,none⟩
  ver:∀o,o<A.B->A.ver o<=A'.ver o/\(A'.ver o=A.ver o->w'.heap[G.blk o]?=w.heap[G.blk o]?)
def CH.refl (G A w):CH G A w G A w:=
  ⟨rfl,rfl,AU _,λ_ _=>rfl,AU _,λ_ _=>⟨AU _,rfl,λ_=>⟨rfl,rfl⟩⟩,λ_ _ p=>⟨p,rfl⟩,λ_ _=>⟨AU _,λ_=>rfl⟩⟩
def CH.trans {G G' d A g c w l f}(a:CH G A w G' g l)(b:CH G' g l d c f):CH G A w d c f where
  base:=b.base.trans a.base
  w0:=b.w0.trans a.w0
  B:=BI a.B b.B
  blk:=λo h=>(b.blk o (BZ h a.B)).trans (a.blk o h)
  D:=BI a.D b.D
  top:=λk h=>by
    obtain⟨j,h2,n⟩:=a.top k h;obtain⟨i,g2,q⟩:=b.top k (BZ h a.D);refine⟨BI j i,g2.trans h2,λe=>?_⟩;have m:g.top k=A.top k:=AA;have e2:c.top k=g.top k:=AA;exact⟨(q e2).1.trans (n m).1,(q e2).2.trans (n m).2⟩
  per:=λx o p=>⟨(b.per _ _ (a.per _ _ p).1).1,((b.per _ _ (a.per _ _ p).1).2).trans (a.per _ _ p).2⟩
  ver:=λo h=>by
    obtain⟨j,h2⟩:=a.ver o h;obtain⟨i,g2⟩:=b.ver o (BZ h a.B);refine⟨BI j i,λe=>?_⟩;have e2:=g2 AA;rw[a.blk o h]at e2;exact e2.trans (h2 AA)
def Stp.ext {G G' A d w j}(E:CH G A w G' d j){R v x}(a:Stp G A w R v x):Stp G' d j R v x:=by
  unfold Stp at*
  split at a;exact a;exact⟨by rw[E.blk _ a.2];exact a.1,BZ a.2 E.B⟩;exact⟨by rw[E.blk _ a.2];exact a.1,BZ a.2 E.B⟩;exact a;exact a;obtain⟨b,o,e,r⟩:=a;exact⟨b,o,e,r.mono (λ_ _ h=>h) E.per⟩;obtain⟨base,c,e,s,n,p⟩:=a;refine⟨base,c,e,s,λz=>let⟨b,o,e,r⟩:=n z;⟨b,o,e,r.mono (λ_ _ h=>h) E.per⟩,λk m=>?_⟩;obtain⟨i,l,q,t⟩:=p k m;obtain⟨u,y,g⟩:=E.top k i;refine⟨BZ i E.D,BI l u,by rw[y];exact q,λe=>?_⟩;have f:d.top k=A.top k:=AA;rw[(g f).1,(g f).2];exact t AA;exact⟨by rw[E.blk _ a.2.2];exact a.1,a.2.1,BZ a.2.2 E.B⟩;exact a
def VR.ext {G G' A c w b}(E:CH G A w G' c b){v x}(a:VR G A w v x):VR G' c b v x:=by
  obtain⟨R,h,r⟩:=a;exact⟨R,λv x r=>(h v x r).ext E,r⟩
def VR.all {G G' A c w b}(E:CH G A w G' c b){l m}(a:AP (VR G A w) l m):AP (VR G' c b) l m:=a.mono λ_ _ h=>h.ext E
def Hyp (b:Nat)(w:World):Prop:=∀a,Below b w a->Lib.TabIs Tryz.prog a "internal/strconv.uint64pow10" .u64 Lib.pow10Tab
structure Inv (G:Gh)(A:St)(w:World):Prop where
  C:∀o,o<A.B->G.base<=G.blk o/\G.blk o<w.heap.size/\(A.C o≠[]->(∃arr e,w.heap[G.blk o]?=some (.cells arr e (0,0))/\AP (VR G A w) arr.toList (A.C o))/\∀off,¬G.per (G.blk o) off)
  inj:∀o o',o<A.B->o'<A.B->G.blk o=G.blk o'->o=o'
  lin:∀k,k<A.D->G.base<=G.cur k/\(∃arr e,w.heap[G.cur k]?=some (.cells arr e (0,0))/\arr.size=G.cap k*G.siz k)/\A.top k<=G.cap k/\∀off,G.per (G.cur k) off->off<A.top k*G.siz k
  linj:∀k k',k<A.D->k'<A.D->G.cur k=G.cur k'->k=k'
  apart:∀o k,o<A.B->k<A.D->G.blk o≠G.cur k
  perlt:∀b off,G.per b off->b<w.heap.size
  perlo:∀b off,b<G.base->G.per b off
  below:Below G.base G.w0 w
  le:G.base<=w.heap.size
  hyp:Hyp G.base G.w0
def Inv.blk_lt {G A w}(I:Inv G A w){o}(h:o<A.B):G.blk o<w.heap.size:=by
  exact (I.C o h).2.1
def Inv.cur_lt {G A w}(I:Inv G A w){k}(h:k<A.D):G.cur k<w.heap.size:=by
  obtain⟨-,⟨b,e,a,-⟩,-⟩:=I.lin k h;rcases FT (G.cur k) w.heap.size with h|h;exact h;rw[JD h]at a;cases a
def Inv.drawn {G A w}(I:Inv G A w)(n):Inv G A {w with drawn:=n}/\CH G A w G A {w with drawn:=n}:=by
  have E:CH G A w G A {w with drawn:=n}:=⟨rfl,rfl,AU _,λ_ _=>rfl,AU _,λ_ _=>⟨AU _,rfl,λ_=>⟨rfl,rfl⟩⟩,λ_ _ p=>⟨p,rfl⟩,λ_ _=>⟨AU _,λ_=>rfl⟩⟩;refine⟨⟨λo h=>?_,I.inj,I.lin,I.linj,I.apart,I.perlt,I.perlo,⟨I.below.os,I.below.tape,I.below.output,I.below.size,I.below.block⟩,I.le,I.hyp⟩,E⟩;obtain⟨j,f,g⟩:=I.C o h;refine⟨j,f,λi=>?_⟩;obtain⟨⟨b,e,c,d⟩,k⟩:=g i;exact⟨⟨b,e,c,VR.all E d⟩,k⟩
def St.new (A:St)(cs:List AV):St:={A with C:=λo=>if o=A.B then cs else A.C o,B:=A.B+1}
def St.put (A:St)(o:Nat)(cs:List AV):St:={A with C:=λp=>if p=o then cs else A.C p,ver:=λp=>if p=o then A.ver p+1 else A.ver p}
def St.lay (A:St)(n:Nat):St:={A with top:=λk=>if k=A.D then n else A.top k,D:=A.D+1}
def St.raise (A:St)(k n:Nat):St:={A with top:=λj=>if j=k then n else A.top j}
def O4 {w:World}{c b o}(h:b<w.heap.size):({w with heap:=w.heap.push c}:World).cell? ⟨b,o,none⟩=w.cell? ⟨b,o,none⟩:=by
  unfold World.cell?;simp only[JV];rw[if_neg AA]
def Ox {w:World}{c b}(h:b<w.heap.size):({w with heap:=w.heap.push c}:World).heap[b]?=w.heap[b]?:=by
  simp only[JV];rw[if_neg AA]
def Ko {w:World}{a e c o}:({w with heap:=w.heap.push (.cells a e c)}:World).cell? ⟨w.heap.size,o,none⟩=a[o]?:=by
  unfold World.cell?;simp
def Inv.newObj {G A w}(I:Inv G A w)(arr e cs)(h:AP (VR G A w) arr.toList cs):
    ∃G',Inv G' (A.new cs) {w with heap:=w.heap.push (.cells arr e)}/\CH G A w G' (A.new cs) {w with heap:=w.heap.push (.cells arr e)}/\G'.blk A.B=w.heap.size:=by
  let G':Gh:={G with blk:=λo=>if o=A.B then w.heap.size else G.blk o}
  have E:CH G A w G' (A.new cs) {w with heap:=w.heap.push (.cells arr e)}:=
    ⟨rfl,rfl,Nat.le_succ _,λo h=>by simp[G'];omega,AU _,λ_ _=>⟨AU _,rfl,λ_=>⟨rfl,rfl⟩⟩,λb o p=>⟨p,O4 (I.perlt _ _ p)⟩,λo h=>⟨AU _,λ_=>Ox (I.blk_lt h)⟩⟩
  refine⟨G',⟨λo n=>?_,λo u n c q=>?_,λk d=>?_,I.linj,λo k n d=>?_,λb v p=>?_,I.perlo,?_,?_,I.hyp⟩,E,by simp[G']⟩;by_cases i:o=A.B;subst i;refine⟨by simp[G'];exact I.le,by simp[G'],λ_=>⟨⟨arr,e,by simp[G'],?_⟩,λv p=>?_⟩⟩;have:(A.new cs).C A.B=cs:=by simp[St.new]
  rw[this];exact VR.all E h;have:=I.perlt _ _ p;simp[G']at this;have c:o<A.B:=by simp[St.new]at n;omega
  obtain⟨m,s,t⟩:=I.C o c;have y:G'.blk o=G.blk o:=by simp[G',i]
  rw[y];have l:(A.new cs).C o=A.C o:=by simp[St.new,i]
  refine⟨m,by simp;omega,λj=>?_⟩;rw[l]at j;obtain⟨⟨a,x,g,r⟩,B⟩:=t j;refine⟨⟨a,x,?_,?_⟩,B⟩;have:=I.blk_lt c;simp only[JV];rw[if_neg AA];exact g;rw[l];exact VR.all E r;have g:∀o,o<A.B->G.blk o≠w.heap.size:=λo h=>by have:=I.blk_lt h;omega
  simp[St.new]at n c;by_cases m:o=A.B<;>by_cases s:u=A.B<;>simp[G',m,s]at q;omega;exact absurd q.symm (g u AA);exact absurd q (g o AA);exact I.inj o u AA AA q;obtain⟨m,⟨a,x,g,r⟩,t⟩:=I.lin k d;refine⟨m,⟨a,x,?_,r⟩,t⟩;have:=I.cur_lt d;simp only[JV];rw[if_neg (show¬G'.cur k=w.heap.size from by show¬G.cur k=_;omega)];exact g;by_cases i:o=A.B;have:=I.cur_lt d;simp[G',i];omega;simp[G',i];exact I.apart o k (by simp[St.new]at n;omega) d;have:=I.perlt _ _ p;simp;omega;have:=I.below
  exact⟨this.os,this.tape,this.output,by simp;exact BI this.size (Nat.le_succ _),λk d=>by
    have s:=I.le
    simp only[JV];rw[if_neg (show¬k=w.heap.size from by have:k<G.base:=d;omega)];exact this.block k d⟩
  have:=I.le;simp;show G.base<=_;omega
def Inv.newRow {G A w}(I:Inv G A w)(arr e n cap siz)(B:arr.size=cap*siz)(H:n<=cap):
    ∃G',Inv G' (A.lay n) {w with heap:=w.heap.push (.cells arr e)}/\CH G A w G' (A.lay n) {w with heap:=w.heap.push (.cells arr e)}/\
     G'.cur A.D=w.heap.size/\G'.cap A.D=cap/\G'.siz A.D=siz/\∀a,a<n*siz->G'.per w.heap.size a:=by
  let G':Gh:={G with cur:=λk=>if k=A.D then w.heap.size else G.cur k,cap:=λk=>if k=A.D then cap else G.cap k,siz:=λk=>if k=A.D then siz else G.siz k,
                     per:=λb a=>G.per b a\/(b=w.heap.size/\a<n*siz)}
  have E:CH G A w G' (A.lay n) {w with heap:=w.heap.push (.cells arr e)}:=
    ⟨rfl,rfl,AU _,λo h=>rfl,Nat.le_succ _,λk g=>by
      have c:k≠A.D:=AA
      simp[G',St.lay,c],λb o p=>⟨.inl p,O4 (I.perlt _ _ p)⟩,λo h=>⟨AU _,λ_=>Ox (I.blk_lt h)⟩⟩
  refine⟨G',⟨λo s=>?_,I.inj,λk g=>?_,λk x g f t=>?_,λo k s g=>?_,λb a p=>?_,λb a h=>.inl (I.perlo b a h),?_,?_,I.hyp⟩,E,by simp[G'],by simp[G'],by simp[G'],λa h=>.inr ⟨rfl,h⟩⟩;obtain⟨r,m,q⟩:=I.C o s;have l:=I.blk_lt s;refine⟨r,by simp;show G.blk o<_;omega,λc=>?_⟩;obtain⟨⟨d,y,j,u⟩,q⟩:=q c;refine⟨⟨d,y,?_,VR.all E u⟩,λa p=>?_⟩;simp only[JV];rw[if_neg (show¬G'.blk o=w.heap.size from by show¬G.blk o=_;omega)];exact j;rcases p with p|⟨p,-⟩;exact q a p;have:G.blk o=w.heap.size:=p;omega;by_cases c:k=A.D;subst c;refine⟨by simp[G'];exact I.le,⟨arr,e,by simp[G'],by simp[G',B]⟩,by simp[G',St.lay,H],λa p=>?_⟩;have v:G'.cur A.D=w.heap.size:=by simp[G']
  rw[v]at p;rcases p with p|⟨-,p⟩;have:=I.perlt _ _ p;omega;simpa[G',St.lay]using p;have f:k<A.D:=by simp[St.lay]at g;omega
  obtain⟨r,⟨d,y,j,u⟩,m,q⟩:=I.lin k f;have l:=I.cur_lt f;have v:G'.cur k=G.cur k:=by simp[G',c]
  have F:G'.cap k=G.cap k:=by simp[G',c]
  have z:G'.siz k=G.siz k:=by simp[G',c]
  have D:(A.lay n).top k=A.top k:=by simp[St.lay,c]
  rw[v,F,z,D];refine⟨r,⟨d,y,?_,u⟩,m,λa p=>?_⟩;simp only[JV];rw[if_neg AA];exact j;rcases p with p|⟨p,-⟩;exact q a p;omega;simp[St.lay]at g f;have j:∀k,k<A.D->G.cur k≠w.heap.size:=λk h=>by have:=I.cur_lt h;omega
  by_cases r:k=A.D<;>by_cases m:x=A.D<;>simp[G',r,m]at t;omega;exact absurd t.symm (j x AA);exact absurd t (j k AA);exact I.linj k x AA AA t;have l:=I.blk_lt s;by_cases c:k=A.D;simp[G',c];omega;simp[G',c];exact I.apart o k s (by simp[St.lay]at g;omega);rcases p with p|⟨p,-⟩;have:=I.perlt _ _ p;simp;omega;simp;omega;have:=I.below
  exact⟨this.os,this.tape,this.output,by simp;exact BI this.size (Nat.le_succ _),λk g=>by
    have m:=I.le
    simp only[JV];rw[if_neg (show¬k=w.heap.size from by have:k<G.base:=g;omega)];exact this.block k g⟩
  have:=I.le;simp;show G.base<=_;omega
def Inv.below_row {G A w}(I:Inv G A w){g}(b:G.base<=g)(cs):Below G.base G.w0 (w.setRow g cs):=by
  have:=I.below;exact⟨this.os,this.tape,this.output,by simp;exact this.size,λk a=>by rw[setRow_other w g k cs AA];exact this.block k a⟩
def Inv.setObj {G A w}(I:Inv G A w){o}(j:o<A.B)(n:A.C o≠[])(arr cs)(h:AP (VR G A w) arr.toList cs):
    Inv G (A.put o cs) (w.setRow (G.blk o) arr)/\CH G A w G (A.put o cs) (w.setRow (G.blk o) arr):=by
  obtain⟨z,B,F⟩:=I.C o j;obtain⟨⟨f,y,m,D⟩,x⟩:=F n
  have E:CH G A w G (A.put o cs) (w.setRow (G.blk o) arr):=
    ⟨rfl,rfl,AU _,λ_ _=>rfl,AU _,λ_ _=>⟨AU _,rfl,λ_=>⟨rfl,rfl⟩⟩,λb t p=>⟨p,cell_setRow_other w _ _ _ (λe=>by
      have i:b=G.blk o:=e
      subst i;exact x _ p)⟩,λp l=>by
      by_cases a:p=o;subst a;simp[St.put]
      refine⟨by simp[St.put,a],λ_=>setRow_other w _ _ _ (λe=>a (I.inj p o l j e))⟩⟩
  refine⟨⟨λp l=>?_,I.inj,λk v=>?_,I.linj,I.apart,λb t p=>by simp;exact I.perlt _ _ p,I.perlo,I.below_row z arr,by simp;exact I.le,I.hyp⟩,E⟩;by_cases a:p=o;subst a;refine⟨z,by simpa using B,λ_=>⟨⟨arr,y,setRow_heap w _ f arr y _ m,?_⟩,x⟩⟩;have:(A.put p cs).C p=cs:=by simp[St.put]
  rw[this];exact VR.all E h;obtain⟨s,C,r⟩:=I.C p l;have g:(A.put o cs).C p=A.C p:=by simp[St.put,a]
  refine⟨s,by simpa using C,λd=>?_⟩;rw[g]at d;obtain⟨⟨c,i,u,q⟩,H⟩:=r d;refine⟨⟨c,i,?_,?_⟩,H⟩;rw[setRow_other w _ _ _ (λe=>a (I.inj p o l j e))];exact u;rw[g];exact VR.all E q;obtain⟨s,⟨c,i,u,q⟩,r⟩:=I.lin k v;refine⟨s,⟨c,i,?_,q⟩,r⟩;rw[setRow_other w _ _ _ (λe=>I.apart o k j v e.symm)];exact u
def Inv.growRoom {G A w}(I:Inv G A w){k}(l:k<A.D)(n)(O:n<=G.cap k)(H:A.top k<=n)(arr)
    (K:arr.size=G.cap k*G.siz k) (r:∀a,a<A.top k*G.siz k->w.cell? ⟨G.cur k,a,none⟩=arr[a]?):
    ∃G',Inv G' (A.raise k n) (w.setRow (G.cur k) arr)/\CH G A w G' (A.raise k n) (w.setRow (G.cur k) arr)/\(∀a,a<n*G.siz k->G'.per (G.cur k) a)/\
     G'.cur k=G.cur k/\G'.cap k=G.cap k/\G'.siz k=G.siz k:=by
  obtain⟨J,⟨g,B,s,N⟩,M,t⟩:=I.lin k l;let G':Gh:={G with per:=λb a=>G.per b a\/(b=G.cur k/\a<n*G.siz k)};have i:∀b a,G.per b a->(w.setRow (G.cur k) arr).cell? ⟨b,a,none⟩=w.cell? ⟨b,a,none⟩:=λb a p=>by
    by_cases m:b=G.cur k;subst m;rw[cell_setRow_same w _ a g arr B _ s];exact (r a (t a p)).symm;exact cell_setRow_other w _ _ _ m
  have E:CH G A w G' (A.raise k n) (w.setRow (G.cur k) arr):=
    ⟨rfl,rfl,AU _,λ_ _=>rfl,AU _,λj C=>by
      refine⟨?_,rfl,λ_=>⟨rfl,rfl⟩⟩;by_cases c:j=k;subst c;simp[St.raise];exact H
      simp[St.raise,c],λb a p=>⟨.inl p,i b a p⟩,λo h=>⟨AU _,λ_=>setRow_other w _ _ _ (I.apart o k h l)⟩⟩
  refine⟨G',⟨λp F=>?_,I.inj,λj C=>?_,I.linj,I.apart,λb a p=>?_,λb a h=>.inl (I.perlo b a h),I.below_row J arr,by simp;exact I.le,I.hyp⟩,E,λa h=>.inr ⟨rfl,h⟩,rfl,rfl,rfl⟩;obtain⟨z,y,u⟩:=I.C p F;refine⟨z,by simpa using y,λf=>?_⟩;obtain⟨⟨d,D,m,x⟩,u⟩:=u f;refine⟨⟨d,D,?_,VR.all E x⟩,λa q=>?_⟩;show (w.setRow (G.cur k) arr).heap[G.blk p]?=_;rw[setRow_other w _ _ _ (I.apart p k F l)];exact m;rcases q with q|⟨q,-⟩;exact u a q;exact I.apart p k F l q;by_cases c:j=k;subst c;refine⟨J,⟨arr,B,setRow_heap w _ g arr B _ s,K⟩,by simp[St.raise];exact O,λa q=>?_⟩;have v:(A.raise j n).top j=n:=by simp[St.raise]
  rw[v];rcases q with q|⟨-,q⟩;have:=t a q;exact BZ this (GW _ H);exact q;obtain⟨z,⟨d,D,m,x⟩,y,u⟩:=I.lin j C;have f:G.cur j≠G.cur k:=λe=>c (I.linj j k C l e);have v:(A.raise k n).top j=A.top j:=by simp[St.raise,c]
  rw[v];refine⟨z,⟨d,D,?_,x⟩,y,λa q=>?_⟩;show (w.setRow (G.cur k) arr).heap[G.cur j]?=_;rw[setRow_other w _ _ _ f];exact m;rcases q with q|⟨q,-⟩;exact u a q;exact absurd q f;rcases p with p|⟨p,-⟩;simp;exact I.perlt _ _ p;have:=I.cur_lt l;simp;omega
def Inv.growNew {G A w}(I:Inv G A w){k}(L:k<A.D)(n cap)(Q:n<=cap)(S:A.top k<n)(arr e)
    (M:arr.size=cap*G.siz k):
    ∃G',Inv G' (A.raise k n) (w.alloc (.cells arr e))/\CH G A w G' (A.raise k n) (w.alloc (.cells arr e))/\(∀a,a<n*G.siz k->G'.per w.heap.size a)/\
     G'.cur k=w.heap.size/\G'.cap k=cap/\G'.siz k=G.siz k:=by
  obtain⟨T,⟨F,R,J,P⟩,O,K⟩:=I.lin k L
  let G':Gh:={G with cur:=λj=>if j=k then w.heap.size else G.cur j,cap:=λj=>if j=k then cap else G.cap j,
                     per:=λb a=>G.per b a\/(b=w.heap.size/\a<n*G.siz k)}
  have E:CH G A w G' (A.raise k n) (w.alloc (.cells arr e)):=
    ⟨rfl,rfl,AU _,λ_ _=>rfl,AU _,λj i=>by
      by_cases c:j=k;subst c;refine⟨by simp[St.raise];omega,rfl,λm=>?_⟩;simp[St.raise]at m;omega
      simp[St.raise,c,G'],λb a p=>⟨.inl p,O4 (I.perlt _ _ p)⟩,λo h=>⟨AU _,λ_=>Ox (I.blk_lt h)⟩⟩
  have g:∀b,b<w.heap.size->(w.alloc (.cells arr e)).heap[b]?=w.heap[b]?:=λb h=>Go.RowKit.Below.heap_alloc w _ b h;refine⟨G',⟨λp v=>?_,I.inj,λj i=>?_,λj x i r m=>?_,λo j H i=>?_,λb a p=>?_,λb a h=>.inl (I.perlo b a h),?_,?_,I.hyp⟩,E,λa h=>.inr ⟨rfl,h⟩,by simp[G'],by simp[G'],rfl⟩;obtain⟨t,u,s⟩:=I.C p v;have f:=I.blk_lt v;refine⟨t,by simp;show G.blk p<_;omega,λz=>?_⟩;obtain⟨⟨d,D,l,B⟩,s⟩:=s z;refine⟨⟨d,D,?_,VR.all E B⟩,λa q=>?_⟩;show (w.alloc (.cells arr e)).heap[G.blk p]?=_;rw[g _ f];exact l;rcases q with q|⟨q,-⟩;exact s a q;have:G.blk p=w.heap.size:=q;omega;by_cases c:j=k;subst c;refine⟨by simp[G'];exact I.le,⟨arr,e,?_,by simp[G',M]⟩,by simp[G',St.raise,Q],λa q=>?_⟩;have:G'.cur j=w.heap.size:=by simp[G']
  rw[this];exact heap_alloc_new w _;have C:G'.cur j=w.heap.size:=by simp[G']
  rw[C]at q;have y:(A.raise j n).top j=n:=by simp[St.raise]
  rw[y];rcases q with q|⟨-,q⟩;have:=I.perlt _ _ q;omega;exact q;obtain⟨t,⟨d,D,l,B⟩,u,s⟩:=I.lin j i;have f:=I.cur_lt i;have C:G'.cur j=G.cur j:=by simp[G',c]
  have v:G'.cap j=G.cap j:=by simp[G',c]
  have y:(A.raise k n).top j=A.top j:=by simp[St.raise,c]
  rw[C,v,y];refine⟨t,⟨d,D,?_,B⟩,u,λa q=>?_⟩;rw[g _ f];exact l;rcases q with q|⟨q,-⟩;exact s a q;omega;have l:∀j,j<A.D->G.cur j≠w.heap.size:=λj h=>by have:=I.cur_lt h;omega
  by_cases t:j=k<;>by_cases u:x=k<;>simp[G',t,u]at m;omega;exact absurd m.symm (l x r);exact absurd m (l j i);exact I.linj j x i r m;have f:=I.blk_lt H;by_cases c:j=k;simp[G',c];omega;simp[G',c];exact I.apart o j H i;rcases p with p|⟨p,-⟩;have:=I.perlt _ _ p;simp;omega;simp;omega;exact I.below.alloc I.le _;have:=I.le;simp;show G.base<=_;omega
def Inv.freeze {G A w}(I:Inv G A w){o}(g:o<A.B):
    ∃G',Inv G' (A.put o []) w/\CH G A w G' (A.put o []) w/\(∀a,G'.per (G.blk o) a)/\G'.blk=G.blk:=by
  let G':Gh:={G with per:=λb a=>G.per b a\/b=G.blk o}
  have E:CH G A w G' (A.put o []) w:=
    ⟨rfl,rfl,AU _,λ_ _=>rfl,AU _,λ_ _=>⟨AU _,rfl,λ_=>⟨rfl,rfl⟩⟩,λb a p=>⟨.inl p,rfl⟩,λp j=>by
      refine⟨?_,λ_=>rfl⟩
      by_cases c:p=o<;>simp[St.put,c]⟩
  refine⟨G',⟨λp j=>?_,I.inj,λk r=>?_,I.linj,I.apart,λb a p=>?_,λb a h=>.inl (I.perlo b a h),I.below,I.le,I.hyp⟩,E,λa=>.inr rfl,rfl⟩;obtain⟨m,i,l⟩:=I.C p j;refine⟨m,i,λd=>?_⟩;by_cases c:p=o;subst c;simp[St.put]at d;have e:(A.put o []).C p=A.C p:=by simp[St.put,c]
  rw[e]at d;obtain⟨⟨f,s,t,u⟩,n⟩:=l d;refine⟨⟨f,s,t,by rw[e];exact VR.all E u⟩,λa q=>?_⟩;rcases q with q|q;exact n a q;exact c (I.inj p o j g q);obtain⟨m,i,l,n⟩:=I.lin k r;refine⟨m,i,l,λa q=>?_⟩;rcases q with q|q;exact n a q;exact absurd q.symm (I.apart o k g r);rcases p with p|p;exact I.perlt _ _ p;rw[p];exact I.blk_lt g
def Inv.retell {G A w}(I:Inv G A w){o}(t:o<A.B)(g:A.C o≠[])(cs)(h:∀f:List Value,AP (VR G A w) f (A.C o)->AP (VR G A w) f cs):
    Inv G (A.put o cs) w/\CH G A w G (A.put o cs) w:=by
  have E:CH G A w G (A.put o cs) w:=
    ⟨rfl,rfl,AU _,λ_ _=>rfl,AU _,λ_ _=>⟨AU _,rfl,λ_=>⟨rfl,rfl⟩⟩,λb q p=>⟨p,rfl⟩,λp m=>by
      refine⟨?_,λ_=>rfl⟩
      by_cases c:p=o<;>simp[St.put,c]⟩
  refine⟨⟨λp m=>?_,I.inj,I.lin,I.linj,I.apart,I.perlt,I.perlo,I.below,I.le,I.hyp⟩,E⟩;obtain⟨s,r,n⟩:=I.C p m;refine⟨s,r,λe=>?_⟩;by_cases c:p=o;subst c;obtain⟨⟨a,i,j,k⟩,l⟩:=n g;have d:(A.put p cs).C p=cs:=by simp[St.put]
  exact⟨⟨a,i,j,by rw[d];exact VR.all E (h _ k)⟩,l⟩;have d:(A.put o cs).C p=A.C p:=by simp[St.put,c]
  rw[d]at e;obtain⟨⟨a,i,j,k⟩,l⟩:=n e;exact⟨⟨a,i,j,by rw[d];exact VR.all E k⟩,l⟩
def AP.nil (R):AP R [] []:=⟨rfl,λi a b h=>by simp at h⟩
def AP.cons {R v x l m}(h:R v x)(t:AP R l m):AP R (v::l) (x::m):=
  ⟨by simp[t.1],λi a b d c=>by
    cases i with
    |zero=>simp at d c;subst d;subst c;exact h
    |succ i=>simp at d c;exact t.2 i a b d c⟩
def AP.append {R l g m e}(h:AP R l m)(f:AP R g e):AP R (l++g) (m++e):=by
  refine⟨by simp[h.1,f.1],λi a b d c=>?_⟩;rw[List.getElem?_append]at d c;have:=h.1;by_cases j:i<Z l;rw[if_pos j]at d;rw[if_pos AA]at c;exact h.2 i a b d c;rw[if_neg j]at d;rw[if_neg AA,<-this]at c;exact f.2 _ a b d c
def AP.take {R l m}(h:AP R l m)(n):AP R (l.take n) (m.take n):=by
  refine⟨by simp[h.1],λi a b c d=>?_⟩;rw[GF]at c d;split at c;rename_i e;rw[if_pos e]at d;exact h.2 i a b c d;cases c
def AP.drop {R l m}(h:AP R l m)(n):AP R (l.drop n) (m.drop n):=by
  refine⟨by simp[h.1],λi a b d c=>?_⟩;rw[IJ]at d c;exact h.2 _ a b d c
def AP.get {R l m}(h:AP R l m){i:Nat}{x}(b:m[i]?=some x):∃v,l[i]?=some v/\R v x:=by
  obtain⟨c,d⟩:=BA.1 b;have a:i<Z l:=by rw[h.1];exact c
  exact⟨l[i],AK a,h.2 i _ _ (AK a) b⟩
def AP.of_map {R}{α:Type}(f g)(h:∀a,R (f a) (g a)):∀l:List α,AP R (l.map f) (l.map g)
  |[]=>AP.nil R
  |a::l=>AP.cons (h a) (AP.of_map f g h l)
def FI.list {w d R b o xs}(h:FI w d R b o xs):
    ∃cs:List Value,AP R cs xs/\∀j v,cs[j]?=some v->w.cell? ⟨b,o+j,none⟩=some v:=by
  induction xs generalizing o with
  |nil=>exact⟨[],AP.nil R,λj v h=>by simp at h⟩
  |cons x xs g=>
   obtain⟨-,c,e,f⟩:=h 0 x (by simp)
   obtain⟨cs,m,l⟩:=g (o:=o+1) (λi y k=>by
     have:=h (i+1) y (by simpa using k)
     rwa[show o+(i+1)=o+1+i by omega]at this)
   refine⟨c::cs,AP.cons f m,λj v a=>?_⟩;cases j with
   |zero=>simp at a;subst a;exact e
   |succ j=>simp at a;rw[show o+(j+1)=o+1+j by omega];exact l j v a
def FI.drop {w a R b o xs}(h:FI w a R b o xs)(n):FI w a R b (o+n) (xs.drop n):=λi x c=>by
  rw[IJ]at c;have:=h (n+i) x c;rwa[show o+(n+i)=o+n+i by omega]at this
def FI.take {w a R b o xs}(h:FI w a R b o xs)(n):FI w a R b o (xs.take n):=λi x c=>by
  rw[GF]at c;split at c;exact h i x c;cases c
def rW:TypeDesc->Bool
  |.struct _=>true
  |.array _ _=>true
  |_=>false
def J3 (P:Program)(t:TypeId):Option (Bool×Nat):=
  match P.underlying t,P.info? t with
  |some d,some i=>if i.size=0 then none else some (rW d,i.size)
  |_,_=>none
def Gu (P:Program)(t:TypeId):Option (List Value):=((P.info? t).bind (·.zero)).map (·.cells.toList)
def Dm (P:Program)(t:TypeId)(f:Nat):Option (Nat×Bool×Nat):=
  match P.underlying t with
  |some (.struct b)=>match b[f]? with
   |some a=>match J3 P a.type with
    |some (g,n+1)=>some (a.offset,g,n+1)
    |_=>none
   |none=>none
  |_=>none
def Ff (P:Program)(t:TypeId):Option (Nat×Nat):=
  match P.underlying t with
  |some (.slice e)=>(P.info? e).map λi=>(i.size,i.bytes)
  |_=>none
def Up (P:Program)(t:TypeId):Option (Nat×Nat):=
  match P.underlying t with
  |some (.array n e)=>(P.info? e).map λi=>(n,i.size)
  |_=>none
def kG (P:Program)(t:TypeId):Option IntKind:=
  match P.underlying t with
  |some (.struct a)=>(match a.toList with
   |[f,g]=>if f.name≠ "_"/\g.name≠ "_"/\f.offset=0/\g.offset=1/\P.stoodInHeld t=false/\P.eqGuardType P.depth t=false/\J3 P f.type=some (false,1)/\J3 P g.type=some (false,1)then
      (match P.underlying f.type,P.underlying g.type with
      |some .bool,some (.int k)=>some k
      |_,_=>none)else none
   |_=>none)
  |_=>none
def Lp (P:Program)(t:TypeId):Option (List Value×List (Nat×Nat)):=
  match P.info? t,P.underlying t with
  |some c,some (.struct b)=>
   match c.zero,b.toList.mapM (λf=>(P.info? f.type).map λi=>(f.offset,i.size))with
   |some z,some a=>some (z.cells.toList,a)
   |_,_=>none
  |some c,some (.array n e)=>
   match c.zero,P.info? e with
   |some z,some d=>some (z.cells.toList,(List.range n).map λk=>(k*d.size,d.size))
   |_,_=>none
  |_,_=>none
def jP (P:Program)(t:TypeId):Bool:=
  match P.underlying t with
  |some (.array 3 e)=>decide (P.eqGuardType P.depth t=false/\J3 P e=some (false,1))&&(match P.underlying e with
   |some (.int .i64)=>true
   |_=>false)
  |_=>false
def cst1:Value->AV
  |.slice none 0 0=>nilS
  |v=>sc v
def cst:Value->AV
  |.agg a=>ag (a.toList.map cst1)
  |.slice none 0 0=>nilS
  |v=>sc v
def BR (s:Nat->AV):Operand->AV
  |.tmp t=>s t
  |.const v=>cst v
  |.global g=>sc (.pointer (some ⟨g,0,none⟩))
  |.func f=>sc (.func (.func f) #[] #[])
def acells:AV->List AV
  |.agg a=>a
  |.held (.inl v)=>v.cells.toList.map sc
  |x=>[x]
def flat:AV->Bool
  |.agg _=>false
  |.ptr (.agg _)=>false
  |.held (.inl v)=>v.oneCell'
  |_=>true
def VR.sc {G A w}(v):VR G A w v (sc v):=VR.fold rfl
def VR.of_sc {G A w v u}(h:VR G A w v (Abs.sc u)):v=u:=h.unfold
def VR.nilS {G A w}:VR G A w (.slice none 0 0) nilS:=
  VR.fold ⟨none,0,rfl,⟨AU _,λ_=>⟨rfl,rfl⟩⟩,λh=>absurd rfl h,λk h=>AA⟩
def VR.cst1 {G A w}(v):VR G A w v (cst1 v):=by
  unfold Abs.cst1;split;exact VR.nilS;exact VR.sc v
def VR.cst {G A w}(v):VR G A w v (cst v):=by
  unfold Abs.cst;split
  exact VR.fold ⟨_,rfl,by
    have:=AP.of_map (R:=VR G A w) (λv:Value=>v) Abs.cst1 (λv=>VR.cst1 v);rename_i a
    simpa using this a.toList⟩
  exact VR.nilS;exact VR.sc v
def VR.cells {G A w v x}(h:VR G A w v x):AP (VR G A w) v.cells.toList (acells x):=by
  have a:=h.unfold;unfold Abs.acells;split;obtain⟨f,rfl,i⟩:=a;exact i;have d:v=_:=a;subst d;have:=AP.of_map (R:=VR G A w) (λv:Value=>v) (λv=>Abs.sc v) (λv=>VR.sc v);simpa using this v.cells.toList;rename_i k j;have d:v.cells=#[v]:=by
    cases v with
    |agg f=>
     exfalso;unfold Stp at a;split at a;exact j _ rfl;simp at a;obtain⟨⟨c,g,-⟩,-⟩:=a;cases g;exact k _ rfl;obtain⟨f,e,-⟩:=a;cases e;obtain⟨b,o,e,-⟩:=a;cases e;obtain⟨b,o,e,-⟩:=a;cases e;cases a.1;exact a
    |_=>rfl
  rw[d];exact AP.cons h (AP.nil _)
def VR.flat {G A w v x}(h:VR G A w v x)(d:flat x=true):v.oneCell'=true:=by
  have a:=h.unfold;unfold Stp at a;split at a;subst a;exact d;rw[a.1];rfl;obtain⟨⟨c,f,-⟩,-⟩:=a;rw[f];rfl;simp[Abs.flat]at d;simp[Abs.flat]at d;obtain⟨b,o,e,-⟩:=a;rw[e];rfl;obtain⟨b,o,e,-⟩:=a;rw[e];rfl;rw[a.1];rfl;exact a.elim
def Zz {G A w l m}(h:AP (VR G A w) l m)(f:m.all flat=true):∀v∈l,v.oneCell'=true:=by
  intro v d;obtain⟨i,b,c⟩:=List.mem_iff_getElem.1 d;have e:i<Z m:=by rw[<-h.1];exact b
  have a:=AK e;have:=h.2 i v m[i] (by rw[<-c];exact AK b) a;exact this.flat (CX.1 f _ (AY a))
def Same (F:Nat->Prop)(G:Gh)(A:St)(w a:World):Prop:=
  (∀b o,G.per b o->a.cell? ⟨b,o,none⟩=w.cell? ⟨b,o,none⟩)/\∀o,o<A.B->F o->a.heap[G.blk o]?=w.heap[G.blk o]?
def Same.refl (F G A w):Same F G A w w:=⟨λ_ _ _=>rfl,λ_ _ _=>rfl⟩
def vH:AV->Option Nat
  |.held (.inr (o,_,none))=>some o
  |_=>none
def LZ (s:Nat->AV):Op->Option Nat
  |.load _ x=>vH (BR s x)
  |_=>none
def behind (A:St):AV->Option (List AV)
  |.held (.inr (o,a,none))=>some ((A.C o).drop a)
  |.ptr (.ptr (.agg b))=>some b
  |_=>none
def fE {F G A w}(I:Inv G A w){v x i}(h:VR G A w v x)(g:behind A x=some i)(r:∀o,vH x=some o->F o):
    ∃b o cs,v= .pointer (some ⟨b,o,none⟩)/\AP (VR G A w) cs i/\∀f,Same F G A w f->∀j u,cs[j]?=some u->f.cell? ⟨b,o+j,none⟩=some u:=by
  unfold behind at g;split at g;rename_i o a;obtain⟨k,n⟩:=h.unfold;cases g;by_cases d:A.C o=[];exact⟨G.blk o,a,[],k,by rw[d];simpa using AP.nil _,λf S j u c=>by simp at c⟩;obtain⟨⟨l,e,y,s⟩,-⟩:=(I.C o n).2.2 d;refine⟨G.blk o,a,l.toList.drop a,k,s.drop a,λf S j u c=>?_⟩;rw[IJ]at c;unfold World.cell?;rw[S.2 o n (r o rfl),y];simpa using c;obtain⟨b,o,k,p⟩:=h.unfold;cases g;obtain⟨cs,m,t⟩:=p.list;refine⟨b,o,cs,k,m,λf S j u c=>?_⟩;have z:j<Z cs:=(BA.1 c).1;have q:i[j]?=some (i[j]'(by rw[<-m.1];exact z)):=AK _;rw[S.1 _ _ (p j _ q).1];exact t j u c;cases g
def EB (b:Bool)(n:Nat)(a:List AV):Option AV:=
  if b then (if n<=Z a then some (ag (a.take n))else none)else a.head?
def EF (b:Bool)(n a:Nat)(cs:List AV):Option AV:=EB b n (cs.drop a)
def zR (P:Program)(c:BinOp)(t:TypeId):Value->Value->Option Value
  |.int k a,.int d b=>if k=d then (match c with
      |.add=>some (.int k (k.wrap (a+b)))
      |.sub=>some (.int k (k.wrap (a-b)))
      |.mul=>some (.int k (k.wrap (a*b)))
      |.quo=>if b=0 then none else some (.int k (k.wrap (a.tdiv b)))
      |.rem=>if b=0 then none else some (.int k (a.tmod b))
      |.eql=>some (.bool (a==b))
      |.neq=>some (.bool (a !=b))
      |.lss=>some (.bool (a<b))
      |.leq=>some (.bool (a<=b))
      |.gtr=>some (.bool (a>b))
      |.geq=>some (.bool (a>=b))
      |_=>none)else none
  |.string a,.string b=>(match c with
      |.add=>if a.size+b.size<=1099511627776 then some (.string (a++b))else none
      |.eql=>some (.bool (a.toList==b.toList))
      |.neq=>some (.bool !(a.toList==b.toList))
      |.lss=>some (.bool (Op.bytesLess a.toList b.toList))
      |_=>none)
  |.bool a,.bool b=>(match c,P.underlying t with
      |.eql,some .bool=>some (.bool (a==b))
      |.neq,some .bool=>some (.bool !(a==b))
      |_,_=>none)
  |_,_=>none
def oY (P:Program)(b a:TypeId):Value->Option Value
  |.int _ n=>(match P.underlying b,P.underlying a with
      |some _,some (.int k)=>some (.int k (k.wrap n))
      |_,_=>none)
  |_=>none
def Qr:List AV->Option (List UInt8)
  |[]=>some []
  |.held (.inl (.int .u8 n))::r=>(Qr r).map (UInt8.ofNat n.toNat::·)
  |_=>none
def Z0:AV->Option Int
  |.held (.inl (.int _ n))=>some n
  |_=>none
def bnd (y:Nat):Option AV->Nat->Option Nat
  |none,d=>some d
  |some x,_=>match Z0 x with
   |some i=>if 0<=i/\i<=y then some i.toNat else none
   |none=>none
def lsp (l:List AV)(a:Nat):List AV->List AV
  |[]=>l
  |x::b=>lsp (l.set a x) (a+1) b
def CK (b:Nat->Option (Nat×Nat))(a:List AV):List (Nat×AV)->Option (List AV)
  |[]=>some a
  |(i,x)::rest=>
   match b i with
   |none=>none
   |some (d,c)=>if Z (acells x)≠c\/d+c>Z a then none else CK b (lsp a d (acells x)) rest
def aq (P:Program)(s:Nat->AV)(A:St):Op->Option AV
  |.move x=>some (BR s x)
  |.assign x=>some (BR s x)
  |.pick c a b=>(match BR s c with
      |.held (.inl (.bool t))=>some (if t then BR s a else BR s b)
      |_=>none)
  |.load t x=>(match J3 P t,behind A (BR s x)with
      |some (C,n),some u=>EB C n u
      |_,_=>none)
  |.nilCheck x=>(match BR s x with
      |.held (.inr (o,j,none))=>some (ptr o j)
      |.ptr (.ptr (.agg u))=>some (el u)
      |_=>none)
  |.fieldAddr t x f=>(match Dm P t f,BR s x with
      |some (d,_,_),.held (.inr (o,j,none))=>some (ptr o (j+d))
      |some (d,_,_),.ptr (.ptr (.agg u))=>some (el (u.drop d))
      |_,_=>none)
  |.field t x f=>(match Dm P t f,BR s x with
      |some (d,C,n),.agg J=>EF C n d J
      |_,_=>none)
  |.indexAddr t x i=>(match Z0 (BR s i)with
      |some i=>(match BR s x,Ff P t,Up P t with
       |.slice q [.held (.inr (_,n,none))],some (z+1,_),_=>if 0<=i/\i<n/\(i.toNat+1)*(z+1)<=Z q then some (el (q.drop (i.toNat*(z+1))))else none
       |.held (.inr (o,j,some g)),some (z,_),_=>if 0<=i/\i<g then some (ptr o (j+i.toNat*z))else none
       |.slice _ [.held (.inr (o,g,some _))],some (z,_),_=>if 0<=i/\i<g then some (ptr o (i.toNat*z))else none
       |.held (.inr (o,j,none)),_,some (g,z)=>if 0<=i/\i<g then some (ptr o (j+i.toNat*z))else none
       |.ptr (.ptr (.agg u)),_,some (g,z)=>if 0<=i/\i<g then some (el (u.drop (i.toNat*z)))else none
       |_,_,_=>none)
      |none=>none)
  |.index t x i=>(match Z0 (BR s i),BR s x,P.underlying t with
      |some i,.held (.inl (.string b)),some .string=>if 0<=i then (b[i.toNat]?).map λc=>sc (.int .u8 c.toNat)else none
      |some i,.agg J,some (.array n e)=>(match J3 P e with
       |some (C,z)=>if 0<=i/\i<n then EF C z (i.toNat*z) J else none
       |none=>none)
      |_,_,_=>none)
  |.build t B=>(match Lp P t with
      |some (z,r)=>(CK (r[·]?) (z.map cst1) (B.toList.map λp=>(p.1,BR s p.2))).map ag
      |none=>none)
  |.extract x i=>(match BR s x with
      |.ptr (.agg q)=>q[i]?
      |_=>none)
  |.binOp E t x y _=>(match BR s x,BR s y with
      |.held (.inl a),.held (.inl b)=>(zR P E t a b).map sc
      |.agg [.held (.inl (.bool a)),.held (.inl (.int k m))],.agg [.held (.inl (.bool b)),.held (.inl (.int L n))]=>if kG P t=some k/\k=L then (match E with
       |.eql=>some (sc (.bool (a==b&&m==n)))
       |.neq=>some (sc (.bool !(a==b&&m==n)))
       |_=>none)else none
      |.agg [.held (.inl (.int .i64 a)),.held (.inl (.int .i64 b)),.held (.inl (.int .i64 c))],.agg [.held (.inl (.int .i64 a')),.held (.inl (.int .i64 b')),.held (.inl (.int .i64 c'))]=>if jP P t=true then (match E with
       |.eql=>some (sc (.bool (a==a'&&b==b'&&c==c')))
       |.neq=>some (sc (.bool !(a==a'&&b==b'&&c==c')))
       |_=>none)else none
      |_,_=>none)
  |.unOp E _ x=>(match E,BR s x with
      |.not,.held (.inl (.bool b))=>some (sc (.bool !b))
      |.neg,.held (.inl (.int k n))=>some (sc (.int k (k.wrap (0-n))))
      |_,_=>none)
  |.convert D F x=>(match BR s x with
      |.held (.inl v)=>(oY P D F v).map sc
      |.slice q [.held (.inr (_,n,none))]=>(match P.underlying D,P.underlying F with
       |some (.slice e),some .string=>(match P.underlying e,Qr (q.take n)with
        |some (.int .u8),some bs=>if n=Z q then some (sc (.string ⟨bs.toArray⟩))else none
        |_,_=>none)
       |_,_=>none)
      |_=>none)
  |.slice t x G I K=>(match K,BR s x,P.underlying t with
      |none,.held (.inl (.string b)),some .string=>(match bnd b.size (I.map (BR s)) b.size with
       |some h=>(match bnd h (G.map (BR s)) 0 with
        |some l=>some (sc (.string (b.extract l h)))
        |none=>none)
       |none=>none)
      |none,.slice q [.held (.inr (_,n,none))],some (.slice _)=>(match I,G with
       |none,some G=>(match Z0 (BR s G),Ff P t with
        |some l,some (z,_)=>if 0<=l/\l<=n/\Z q=n*z then some (sl 0 (n-l.toNat) (q.drop (l.toNat*z)))else none
        |_,_=>none)
       |some I,none=>(match Z0 (BR s I),Ff P t with
        |some h,some (z,_)=>if 0<=h/\h<=n/\Z q=n*z then some (sl 0 h.toNat (q.take (h.toNat*z)))else none
        |_,_=>none)
       |_,_=>none)
      |_,_,_=>none)
  |.call {callee:=.builtin .len,args:=args,argTypes:=ts}=>(match args.toList.map (BR s),ts.toList with
      |[.held (.inl (.string b))],[t]=>if P.underlying t matches some .string then some (sc (.int .i64 b.size))else none
      |[.slice _ [.held (.inr (_,n,none))]],[t]=>if (Ff P t).isSome then some (sc (.int .i64 n))else none
      |[.held (.inr (_,_,some n))],[t]=>if (Ff P t).isSome then some (sc (.int .i64 n))else none
      |[.slice _ [.held (.inr (_,n,some _))]],[t]=>if (Ff P t).isSome then some (sc (.int .i64 n))else none
      |_,_=>none)
  |_=>none
def Fe {P t z y}(h:Ff P t=some (z,y)):∃e i,P.underlying t=some (.slice e)/\P.info? e=some i/\i.size=z/\i.bytes=y:=by
  unfold Ff at h;split at h;rename_i e b;cases a:P.info? e with
  |none=>simp[a]at h
  |some i=>simp[a]at h;exact⟨e,i,b,a,h.1,h.2⟩
  cases h
def dB {P t n z}(h:Up P t=some (n,z)):∃e i,P.underlying t=some (.array n e)/\P.info? e=some i/\i.size=z:=by
  unfold Up at h;split at h;rename_i m e b;cases a:P.info? e with
  |none=>simp[a]at h
  |some i=>simp[a]at h;obtain⟨rfl,c⟩:=h;exact⟨e,i,b,a,c⟩
  cases h
def YD {P t g n}(h:J3 P t=some (g,n)):0<n:=by
  unfold J3 at h;split at h;simp at h;omega;cases h
def UO {P t g n}(h:J3 P t=some (g,n)):∃d i,P.underlying t=some d/\P.info? t=some i/\rW d=g/\i.size=n:=by
  unfold J3 at h;split at h;rename_i d i b a;simp at h;exact⟨d,i,b,a,h.2.1,h.2.2⟩;cases h
def S0 {P t f d g n}(h:Dm P t f=some (d,g,n)):
    ∃b a,P.underlying t=some (.struct b)/\b[f]?=some a/\a.offset=d/\J3 P a.type=some (g,n)/\n≠0:=by
  unfold Dm at h;split at h;rename_i b e;split at h;rename_i a i;split at h;rename_i j m c;simp at h;obtain⟨rfl,rfl,rfl⟩:=h;exact⟨b,a,e,i,rfl,c,AA⟩;cases h;cases h;cases h
def Cu {P t g n}(h:J3 P t=some (g,n))(w):(isAgg t).run P w= .ok g w/\(sizeOf t).run P w= .ok n w:=by
  obtain⟨d,i,e,c,a,b⟩:=UO h;refine⟨?_,by simp[sizeOf,typeInfo,c,b]⟩;unfold isAgg;simp only[Sem.run_bind,run_underlying e,Result.andThen_ok];cases d<;>simp[rW]at a<;>subst a<;>rfl
def oX {P G A w k n cs p x}(f:AP (VR G A w) cs p)(h:EB k n p=some x){t}(l:J3 P t=some (k,n))(b o)
    {C:World->Prop} (q:∀a,C a->∀j u,cs[j]?=some u->a.cell? ⟨b,o+j,none⟩=some u):∃v,VR G A w v x/\∀a,C a->(loadVar t ⟨b,o,none⟩).run P a= .ok v a:=by
  unfold EB at h;split at h;rename_i g;subst g;split at h;rename_i y;cases h;refine⟨.agg (cs.take n).toArray,VR.fold ⟨_,rfl,by simpa using f.take n⟩,λa m=>?_⟩;have c:Z (cs.take n)=n:=by simp[f.1];omega
  have:=run_loadCells_list (P:=P) a ⟨b,o,none⟩ (cs.take n) (λj u d=>by
    rw[Addr.add_lit];rw[GF]at d;split at d;exact q a m j u d
    cases d)
  rw[c]at this;simp[loadVar,(Cu l a).1,(Cu l a).2,this];cases h;rename_i g;have e:k=false:=by simpa using g
  subst e;obtain⟨v,s,r⟩:=f.get (i:=0) (x:=x) (by rw[<-List.head?_eq_getElem?];exact h);refine⟨v,r,λa m=>?_⟩;have:=q a m 0 v s;simp only[GZ]at this;simp[loadVar,(Cu l a).1,this]
end Go.Abs
