import Derived.WalkKit
import Derived.Orders
import GoSem.ClaimWide
import Derived.Lib.LaidTab
import Derived.Lib.ItoaNum
import Derived.Test.YtmoeoppbmhfbpabGreatDoorProg
set_option linter.all false
open List renaming length->Z
namespace Go.Abs
theorem AA {p:Prop}(h:p:=by omega):p:=h
def AR:=@Nat.le_refl
def BO:=@Nat.le_trans
def By:=@Nat.lt_of_lt_of_le
def FQ:=@Nat.lt_or_ge
def JP:=@Array.getElem?_eq_none.{0}
def LG:=@Array.getElem?_push.{0}
def FU:=@Nat.mul_le_mul_right
def II:=@List.getElem?_take.{0}
def JD:=@List.getElem?_drop.{0}
def BG:=@List.getElem?_eq_some_iff.{0}
def AJ:=@List.getElem?_eq_getElem.{0}
def EK:=@List.all_eq_true.{0}
def BD:=@List.mem_of_getElem?.{0}
def IE:=@Nat.add_zero
def BX:=@Bool.and_eq_true
def NW:=@List.drop_eq_nil_of_le.{0}
def GQ:=@List.eq_nil_of_length_eq_zero.{0}
def IB:=@List.foldl_cons.{0,0}
def AS:=@List.take_length.{0}
def GK:=@List.getElem?_set.{0}
def IW:=@Nat.add_assoc
def EY:=@List.getElem?_map.{0,0}
def FK:=@List.getElem?_eq_none.{0}
def OI:=@Option.isSome_iff_exists.{0}
def AU:=@List.take_add_one.{0}
def JG:=@Nat.succ_mul
def FO:=@List.map_append.{0,0}
def BS:=@List.map_map.{0,0,0}
def FA:=@List.append_nil.{0}
def FS:=@List.ext_getElem?.{0}
def OJ:=@List.replicate_succ.{0}
def LS:=@Nat.mul_pos
def CU:=@List.map_cons.{0,0}
def KO:=@List.map_nil.{0,0}
def MX:=@Nat.zero_mul
def FE:=@Nat.add_mul
def EJ:=@Nat.zero_add
def AX:=@List.length_append.{0}
def CV:=@List.length_take.{0}
def CX:=@List.append_assoc.{0}
def OY:=@List.getElem?_append_left.{0}
def KU:=@List.getElem?_append_right.{0}
def NJ:=@Array.getD_eq_getD_getElem?.{0}
def IQ:=@Option.bind_some.{0,0}
def EZ:=@Nat.min_eq_left
def ER:=@Bool.false_eq_true
def JA:=@Bool.not_true
def MP:=@Bool.false_or
def CP:=@List.length_nil.{0}
def BQ:=@List.length_cons.{0}
def JU:=@Bool.not_false
def FJ:=@List.drop_eq_getElem_cons.{0}
def JZ:=@List.drop_length.{0}
def FW:=@List.take_of_length_le.{0}
def CW:=@List.any_eq_true.{0}
def AT:=@List.getElem_mem.{0}
def AW:=@List.mem_append.{0}
def GZ:=@Option.map_some.{0,0}
def EB:=@List.any_eq_false.{0}
def KV:=@List.mem_range
def MV:=@Bool.not_eq_true
def IX:=@List.find?_eq_none.{0}
def JL:=@List.flatMap_append.{0,0}
def MH:=@List.flatMap_nil.{0,0}
def BJ:=@Option.toList_some.{0}
def DK:=@List.flatMap_cons.{0,0}
def LK:=@List.mem_of_find?_eq_some.{0}
def BB:=@List.mem_cons.{0}
def BP:=@List.length_map.{0,0}
def AO:=@List.mem_map.{0,0}
def KF:=@UInt8.toNat_inj
def JF:=@List.mem_cons_self.{0}
def FC:=@List.cons_append.{0}
def GJ:=@List.mem_cons_of_mem.{0}
def FM:=@List.nil_append.{0}
def DR:=@List.mem_flatMap.{0,0}
def IY:=@List.map_id.{0}
def CK:=@List.map_congr_left.{0,0}
def ID:=@Bool.true_and
def CO:=@List.getElem?_of_mem.{0}
def KB:=@Nat.sub_self
def QE:=@Nat.sub_zero
def LO:=@List.length_singleton.{0}
def EN:=@List.not_mem_nil.{0}
def KL:=@Bool.eq_iff_iff
def NI:=@List.find?_some.{0}
def FT:=@List.getElem_idxOf.{0}
def CY:=@List.idxOf_lt_length_of_mem.{0}
def GF:=@List.mem_singleton.{0}
def KG:=@Int.natCast_nonneg
def MG:=@Nat.not_lt_zero
def JQ:=@List.length_pos_iff.{0}
def Ng:=@List.mem_erase_of_ne.{0}
def IS:=@List.nodup_nil.{0}
def MN:=@Bool.or_eq_true
def LM:=@List.any_append.{0}
def MO:=@Bool.or_false
def IA:=@Option.some.inj.{0}
def GW:=@Prod.ext.{0,0}
def FY:=@List.mem_of_mem_eraseIdx.{0}
def ME:=@List.eraseIdx_of_length_le.{0}
def ML:=@List.length_eraseIdx_le.{0}
def KJ:=@List.take_append_drop.{0}
def JK:=@List.nodup_append.{0}
def LF:=@List.flatMap_map.{0,0,0}
def LH:=@List.all_eq_false.{0}
def NT:=@List.drop_zero.{0}
def MR:=@List.countP_append.{0}
def MZ:=@List.countP_cons.{0}
def IZ:=@List.filter_append.{0}
def BV:=@List.mem_filter.{0}
def KE:=@List.length_filter_le.{0}
def ND:=@List.mem_of_mem_take.{0}
def OD:=@List.mem_or_eq_of_mem_set.{0}
def DU:=@Int.toNat_natCast
def MU:=@List.countP_pos_iff.{0}
def FZ:=@List.mem_append_left.{0}
def MA:=@List.mem_append_right.{0}
def JN:=@Nat.add_le_add_left
def JB:=@List.mem_replicate.{0}
def MJ:=@Nat.mul_le_mul
def GH:=@Bool.not_eq_true'
def LU:=@List.length_set.{0}
def NZ:=@List.getElem?_set_ne.{0}
def NF:=@List.Sublist.refl.{0}
def MF:=@List.filter_sublist.{0}
def KP:=@List.filter_cons.{0}
def OQ:=@Option.map_eq_some_iff.{0,0}
def ON:=@List.mk_mem_zipIdx_iff_getElem?.{0}
def LY:=@List.pairwise_map.{0,0}
def OK:=@List.Pairwise.imp_of_mem.{0}
def IT:=@Prod.mk.inj.{0,0}
def DF:=@decide_eq_true_eq
def EH:=@beq_iff_eq.{0}
def OE:=@decide_true
def OS:=@decide_false
def JC:=@true_and
def DY:=@or_false
open Go.RowKit (Below)
open Go.Proofs
abbrev AV:=DataW (Value ⊕ (Nat×Nat×Option Nat))
abbrev sc (v:Value):AV:=.held (.inl v)
abbrev ptr (o off:Nat):AV:=.held (.inr (o,off,none))
abbrev fx (o off len:Nat):AV:=.held (.inr (o,off,some len))
abbrev sl (id n:Nat)(xs:List AV):AV:=.slice xs [.held (.inr (id,n,none))]
abbrev ag (xs:List AV):AV:=.agg xs
abbrev tp (xs:List AV):AV:=.ptr (.agg xs)
abbrev el (xs:List AV):AV:=.ptr (.ptr (.agg xs))
abbrev nilS:AV:=sl 1 0 []
abbrev gx (o n cap:Nat):AV:=.slice [] [.held (.inr (o,n,some cap))]
structure St where
  C:Nat->List AV
  B:Nat
  top:Nat->Nat
  D:Nat
  ver:Nat->Nat
structure Gh where
  blk:Nat->Nat
  cur:Nat->Nat
  cap:Nat->Nat
  siz:Nat->Nat
  per:Nat->Nat->Prop
  base:Nat
  w0:World
def AQ (R:Value->AV->Prop)(l:List Value)(m:List AV):Prop:=
  Z l=Z m/\∀(i:Nat) (a:Value) (b:AV),l[i]?=some a->m[i]?=some b->R a b
def FL (w:World)(per:Nat->Nat->Prop)(R:Value->AV->Prop)(b o:Nat)(xs:List AV):Prop:=
  ∀(i:Nat) (x:AV),xs[i]?=some x->per b (o+i)/\∃c,w.cell? ⟨b,o+i,none⟩=some c/\R c x
def Stp (G:Gh)(A:St)(w:World)(R:Value->AV->Prop)(v:Value):AV->Prop
  |.held (.inl u)=>v=u
  |.held (.inr (o,off,none))=>v= .pointer (some ⟨G.blk o,off,none⟩)/\o<A.B
  |.held (.inr (o,off,some len))=>(∃cap,v= .slice (some ⟨G.blk o,off,none⟩) len cap/\len<=cap)/\o<A.B
  |.agg xs=>∃cs,v= .agg cs/\AQ R cs.toList xs
  |.ptr (.agg xs)=>∃cs,v= .tuple cs/\AQ R cs.toList xs
  |.ptr (.ptr (.agg xs))=>∃b o,v= .pointer (some ⟨b,o,none⟩)/\FL w G.per R b o xs
  |.slice xs [.held (.inr (id,n,none))]=>∃base cap,v= .slice base n cap/\(n<=cap/\(id=1->n=0/\cap=0))/\
      (xs≠[]->∃b o,base=some ⟨b,o,none⟩/\FL w G.per R b o xs)/\
      (∀k,id=k+2->k<A.D/\n<=A.top k/\Z xs=n*G.siz k/\(n=A.top k->base=some ⟨G.cur k,0,none⟩/\cap=G.cap k))
  |.slice _ [.held (.inr (o,n,some cap))]=>v= .slice (some ⟨G.blk o,0,none⟩) n cap/\n<=cap/\o<A.B
  |_=>False
def VR (G:Gh)(A:St)(w:World)(v:Value)(x:AV):Prop:=
  ∃R:Value->AV->Prop,(∀v x,R v x->Stp G A w R v x)/\R v x
theorem AQ.mono {R R'}(h:∀v x,R v x->R' v x){l m}(a:AQ R l m):AQ R' l m:=
  ⟨a.1,fun i x y hx hy=>h _ _ (a.2 i x y hx hy)⟩
theorem FL.mono {w w' per per' R R'}(h:∀v x,R v x->R' v x)
    (hp:∀b o,per b o->per' b o/\w'.cell? ⟨b,o,none⟩=w.cell? ⟨b,o,none⟩){b o xs} (a:FL w per R b o xs):FL w' per' R' b o xs:=
  fun i x hx=>let⟨p,c,hc,r⟩:=a i x hx;⟨(hp _ _ p).1,c,(hp _ _ p).2.trans hc,h _ _ r⟩
theorem Stp.mono {G A w R R'}(h:∀v x,R v x->R' v x){v x}(a:Stp G A w R v x):Stp G A w R' v x:=by
  unfold Stp at*
  split at a
  · exact a
  · exact a
  · exact a
  · obtain⟨cs,e,r⟩:=a;exact⟨cs,e,r.mono h⟩
  · obtain⟨cs,e,r⟩:=a;exact⟨cs,e,r.mono h⟩
  · obtain⟨b,o,e,r⟩:=a;exact⟨b,o,e,r.mono h (fun _ _ p=>⟨p,rfl⟩)⟩
  · obtain⟨base,cap,e,h1,h2,h3⟩:=a
    exact⟨base,cap,e,h1,fun hn=>let⟨b,o,e,r⟩:=h2 hn;⟨b,o,e,r.mono h (fun _ _ p=>⟨p,rfl⟩)⟩,h3⟩
  · exact a
  · exact a
theorem VR.unfold {G A w v x}(a:VR G A w v x):Stp G A w (VR G A w) v x:=by
  obtain⟨R,h,r⟩:=a;exact (h _ _ r).mono fun v x r=>⟨R,h,r⟩
theorem VR.fold {G A w v x}(a:Stp G A w (VR G A w) v x):VR G A w v x:=
  ⟨fun v x=>VR G A w v x\/Stp G A w (VR G A w) v x,fun v x h=>by
    rcases h with h|h
    · exact h.unfold.mono fun _ _=>.inl
    · exact h.mono fun _ _=>.inl,.inr a⟩
structure CH (G:Gh)(A:St)(w:World)(G':Gh)(A':St)(w':World):Prop where
  base:G'.base=G.base
  w0:G'.w0=G.w0
  B:A.B<=A'.B
  blk:∀o,o<A.B->G'.blk o=G.blk o
  D:A.D<=A'.D
  top:∀k,k<A.D->A.top k<=A'.top k/\G'.siz k=G.siz k/\(A'.top k=A.top k->G'.cur k=G.cur k/\G'.cap k=G.cap k)
  per:∀b o,G.per b o->G'.per b o/\w'.cell? ⟨b,o,none⟩=w.cell? ⟨b,o,none⟩
  ver:∀o,o<A.B->A.ver o<=A'.ver o/\(A'.ver o=A.ver o->w'.heap[G.blk o]?=w.heap[G.blk o]?)
theorem CH.refl (G A w):CH G A w G A w:=
  ⟨rfl,rfl,AR _,fun _ _=>rfl,AR _,fun _ _=>⟨AR _,rfl,fun _=>⟨rfl,rfl⟩⟩,fun _ _ p=>⟨p,rfl⟩,fun _ _=>⟨AR _,fun _=>rfl⟩⟩
theorem CH.trans {G G' G'' A A' A'' w w' w''}(a:CH G A w G' A' w')(b:CH G' A' w' G'' A'' w''):CH G A w G'' A'' w'' where
  base:=b.base.trans a.base
  w0:=b.w0.trans a.w0
  B:=BO a.B b.B
  blk:=fun o h=>(b.blk o (By h a.B)).trans (a.blk o h)
  D:=BO a.D b.D
  top:=fun k h=>by
    obtain⟨h1,h2,h3⟩:=a.top k h;obtain⟨g1,g2,g3⟩:=b.top k (By h a.D);refine⟨BO h1 g1,g2.trans h2,fun e=>?_⟩;have e1:A'.top k=A.top k:=AA;have e2:A''.top k=A'.top k:=AA;exact⟨(g3 e2).1.trans (h3 e1).1,(g3 e2).2.trans (h3 e1).2⟩
  per:=fun x o p=>⟨(b.per _ _ (a.per _ _ p).1).1,((b.per _ _ (a.per _ _ p).1).2).trans (a.per _ _ p).2⟩
  ver:=fun o h=>by
    obtain⟨h1,h2⟩:=a.ver o h;obtain⟨g1,g2⟩:=b.ver o (By h a.B);refine⟨BO h1 g1,fun e=>?_⟩;have e2:=g2 AA;rw[a.blk o h]at e2;exact e2.trans (h2 AA)
theorem Stp.ext {G G' A A' w w'}(E:CH G A w G' A' w'){R v x}(a:Stp G A w R v x):Stp G' A' w' R v x:=by
  unfold Stp at*
  split at a
  · exact a
  · exact⟨by rw[E.blk _ a.2];exact a.1,By a.2 E.B⟩
  · exact⟨by rw[E.blk _ a.2];exact a.1,By a.2 E.B⟩
  · exact a
  · exact a
  · obtain⟨b,o,e,r⟩:=a;exact⟨b,o,e,r.mono (fun _ _ h=>h) E.per⟩
  · obtain⟨base,cap,e,h1,h2,h3⟩:=a
    refine⟨base,cap,e,h1,fun hn=>let⟨b,o,e,r⟩:=h2 hn;⟨b,o,e,r.mono (fun _ _ h=>h) E.per⟩,fun k hk=>?_⟩;obtain⟨g1,g2,g3,g4⟩:=h3 k hk;obtain⟨t1,t2,t3⟩:=E.top k g1;refine⟨By g1 E.D,BO g2 t1,by rw[t2];exact g3,fun e=>?_⟩;have e1:A'.top k=A.top k:=AA;rw[(t3 e1).1,(t3 e1).2];exact g4 AA
  · exact⟨by rw[E.blk _ a.2.2];exact a.1,a.2.1,By a.2.2 E.B⟩
  · exact a
theorem VR.ext {G G' A A' w w'}(E:CH G A w G' A' w'){v x}(a:VR G A w v x):VR G' A' w' v x:=by
  obtain⟨R,h,r⟩:=a;exact⟨R,fun v x r=>(h v x r).ext E,r⟩
theorem VR.all {G G' A A' w w'}(E:CH G A w G' A' w'){l m}(a:AQ (VR G A w) l m):AQ (VR G' A' w') l m:=a.mono fun _ _ h=>h.ext E
def Hyp (b:Nat)(w:World):Prop:=∀w',Below b w w'->Lib.TabIs Tryz.prog w' "internal/strconv.uint64pow10" .u64 Lib.pow10Tab
structure Inv (G:Gh)(A:St)(w:World):Prop where
  C:∀o,o<A.B->G.base<=G.blk o/\G.blk o<w.heap.size/\(A.C o≠[]->(∃arr e,w.heap[G.blk o]?=some (.cells arr e (0,0))/\AQ (VR G A w) arr.toList (A.C o))/\∀off,¬G.per (G.blk o) off)
  inj:∀o o',o<A.B->o'<A.B->G.blk o=G.blk o'->o=o'
  lin:∀k,k<A.D->G.base<=G.cur k/\(∃arr e,w.heap[G.cur k]?=some (.cells arr e (0,0))/\arr.size=G.cap k*G.siz k)/\A.top k<=G.cap k/\∀off,G.per (G.cur k) off->off<A.top k*G.siz k
  linj:∀k k',k<A.D->k'<A.D->G.cur k=G.cur k'->k=k'
  apart:∀o k,o<A.B->k<A.D->G.blk o≠G.cur k
  perlt:∀b off,G.per b off->b<w.heap.size
  perlo:∀b off,b<G.base->G.per b off
  below:Below G.base G.w0 w
  le:G.base<=w.heap.size
  hyp:Hyp G.base G.w0
theorem Inv.blk_lt {G A w}(I:Inv G A w){o}(h:o<A.B):G.blk o<w.heap.size:=by
  exact (I.C o h).2.1
theorem Inv.cur_lt {G A w}(I:Inv G A w){k}(h:k<A.D):G.cur k<w.heap.size:=by
  obtain⟨-,⟨arr,e,hb,-⟩,-⟩:=I.lin k h;rcases FQ (G.cur k) w.heap.size with h|h
  · exact h
  · rw[JP h]at hb;cases hb
theorem Inv.drawn {G A w}(I:Inv G A w)(n):Inv G A {w with drawn:=n}/\CH G A w G A {w with drawn:=n}:=by
  have E:CH G A w G A {w with drawn:=n}:=⟨rfl,rfl,AR _,fun _ _=>rfl,AR _,fun _ _=>⟨AR _,rfl,fun _=>⟨rfl,rfl⟩⟩,fun _ _ p=>⟨p,rfl⟩,fun _ _=>⟨AR _,fun _=>rfl⟩⟩;refine⟨⟨fun o h=>?_,I.inj,I.lin,I.linj,I.apart,I.perlt,I.perlo,⟨I.below.os,I.below.tape,I.below.output,I.below.size,I.below.block⟩,I.le,I.hyp⟩,E⟩;obtain⟨h1,h2,h3⟩:=I.C o h;refine⟨h1,h2,fun hn=>?_⟩;obtain⟨⟨arr,e,hb,ha⟩,h4⟩:=h3 hn;exact⟨⟨arr,e,hb,VR.all E ha⟩,h4⟩
def St.new (A:St)(cs:List AV):St:={A with C:=fun o=>if o=A.B then cs else A.C o,B:=A.B+1}
def St.put (A:St)(o:Nat)(cs:List AV):St:={A with C:=fun p=>if p=o then cs else A.C p,ver:=fun p=>if p=o then A.ver p+1 else A.ver p}
def St.lay (A:St)(n:Nat):St:={A with top:=fun k=>if k=A.D then n else A.top k,D:=A.D+1}
def St.raise (A:St)(k n:Nat):St:={A with top:=fun j=>if j=k then n else A.top j}
theorem Ox {w:World}{ob b o}(h:b<w.heap.size):({w with heap:=w.heap.push ob}:World).cell? ⟨b,o,none⟩=w.cell? ⟨b,o,none⟩:=by
  unfold World.cell?;simp only[LG];rw[if_neg AA]
theorem Oo {w:World}{ob b}(h:b<w.heap.size):({w with heap:=w.heap.push ob}:World).heap[b]?=w.heap[b]?:=by
  simp only[LG];rw[if_neg AA]
theorem Kl {w:World}{arr e fr o}:({w with heap:=w.heap.push (.cells arr e fr)}:World).cell? ⟨w.heap.size,o,none⟩=arr[o]?:=by
  unfold World.cell?;simp
theorem Inv.newObj {G A w}(I:Inv G A w)(arr e cs)(h:AQ (VR G A w) arr.toList cs):
    ∃G',Inv G' (A.new cs) {w with heap:=w.heap.push (.cells arr e)}/\CH G A w G' (A.new cs) {w with heap:=w.heap.push (.cells arr e)}/\G'.blk A.B=w.heap.size:=by
  let G':Gh:={G with blk:=fun o=>if o=A.B then w.heap.size else G.blk o}
  have E:CH G A w G' (A.new cs) {w with heap:=w.heap.push (.cells arr e)}:=
    ⟨rfl,rfl,Nat.le_succ _,fun o h=>by simp[G'];omega,AR _,fun _ _=>⟨AR _,rfl,fun _=>⟨rfl,rfl⟩⟩,fun b o p=>⟨p,Ox (I.perlt _ _ p)⟩,fun o h=>⟨AR _,fun _=>Oo (I.blk_lt h)⟩⟩
  refine⟨G',⟨fun o ho=>?_,fun o o' ho ho' he=>?_,fun k hk=>?_,I.linj,fun o k ho hk=>?_,fun b off p=>?_,I.perlo,?_,?_,I.hyp⟩,E,by simp[G']⟩
  · by_cases hn:o=A.B
    · subst hn
      refine⟨by simp[G'];exact I.le,by simp[G'],fun _=>⟨⟨arr,e,by simp[G'],?_⟩,fun off p=>?_⟩⟩
      · have:(A.new cs).C A.B=cs:=by simp[St.new]
        rw[this];exact VR.all E h
      · have:=I.perlt _ _ p
        simp[G']at this
    · have ho':o<A.B:=by simp[St.new]at ho;omega
      obtain⟨h1,h2,h3⟩:=I.C o ho';have hG:G'.blk o=G.blk o:=by simp[G',hn]
      rw[hG];have hob:(A.new cs).C o=A.C o:=by simp[St.new,hn]
      refine⟨h1,by simp;omega,fun hne=>?_⟩;rw[hob]at hne;obtain⟨⟨arr',e',hb,ha⟩,h4⟩:=h3 hne;refine⟨⟨arr',e',?_,?_⟩,h4⟩
      · have:=I.blk_lt ho'
        simp only[LG];rw[if_neg AA];exact hb
      · rw[hob];exact VR.all E ha
  · have hb:∀o,o<A.B->G.blk o≠w.heap.size:=fun o h=>by have:=I.blk_lt h;omega
    simp[St.new]at ho ho';by_cases h1:o=A.B<;>by_cases h2:o'=A.B<;>simp[G',h1,h2]at he
    · omega
    · exact absurd he.symm (hb o' AA)
    · exact absurd he (hb o AA)
    · exact I.inj o o' AA AA he
  · obtain⟨h1,⟨arr',e',hb,ha⟩,h3⟩:=I.lin k hk
    refine⟨h1,⟨arr',e',?_,ha⟩,h3⟩;have:=I.cur_lt hk;simp only[LG];rw[if_neg (show¬G'.cur k=w.heap.size from by show¬G.cur k=_;omega)];exact hb
  · by_cases hn:o=A.B
    · have:=I.cur_lt hk
      simp[G',hn];omega
    · simp[G',hn];exact I.apart o k (by simp[St.new]at ho;omega) hk
  · have:=I.perlt _ _ p
    simp;omega
  · have:=I.below
    exact⟨this.os,this.tape,this.output,by simp;exact BO this.size (Nat.le_succ _),fun k hk=>by
      have h2:=I.le
      simp only[LG];rw[if_neg (show¬k=w.heap.size from by have:k<G.base:=hk;omega)];exact this.block k hk⟩
  · have:=I.le
    simp;show G.base<=_;omega
theorem Inv.newRow {G A w}(I:Inv G A w)(arr e n cap siz)(hs:arr.size=cap*siz)(hn:n<=cap):
    ∃G',Inv G' (A.lay n) {w with heap:=w.heap.push (.cells arr e)}/\CH G A w G' (A.lay n) {w with heap:=w.heap.push (.cells arr e)}/\
     G'.cur A.D=w.heap.size/\G'.cap A.D=cap/\G'.siz A.D=siz/\∀off,off<n*siz->G'.per w.heap.size off:=by
  let G':Gh:={G with cur:=fun k=>if k=A.D then w.heap.size else G.cur k,cap:=fun k=>if k=A.D then cap else G.cap k,siz:=fun k=>if k=A.D then siz else G.siz k,
                     per:=fun b off=>G.per b off\/(b=w.heap.size/\off<n*siz)}
  have E:CH G A w G' (A.lay n) {w with heap:=w.heap.push (.cells arr e)}:=
    ⟨rfl,rfl,AR _,fun o h=>rfl,Nat.le_succ _,fun k hk=>by
      have hne:k≠A.D:=AA
      simp[G',St.lay,hne],fun b o p=>⟨.inl p,Ox (I.perlt _ _ p)⟩,fun o h=>⟨AR _,fun _=>Oo (I.blk_lt h)⟩⟩
  refine⟨G',⟨fun o ho=>?_,I.inj,fun k hk=>?_,fun k k' hk hk' he=>?_,fun o k ho hk=>?_,fun b off p=>?_,fun b off h=>.inl (I.perlo b off h),?_,?_,I.hyp⟩,E,by simp[G'],by simp[G'],by simp[G'],fun off h=>.inr ⟨rfl,h⟩⟩
  · obtain⟨h1,h2,h3⟩:=I.C o ho
    have hlt:=I.blk_lt ho;refine⟨h1,by simp;show G.blk o<_;omega,fun hne=>?_⟩;obtain⟨⟨arr',e',hb,ha⟩,h3⟩:=h3 hne;refine⟨⟨arr',e',?_,VR.all E ha⟩,fun off p=>?_⟩
    · simp only[LG];rw[if_neg (show¬G'.blk o=w.heap.size from by show¬G.blk o=_;omega)];exact hb
    · rcases p with p|⟨p,-⟩
      · exact h3 off p
      · have:G.blk o=w.heap.size:=p
        omega
  · by_cases hne:k=A.D
    · subst hne
      refine⟨by simp[G'];exact I.le,⟨arr,e,by simp[G'],by simp[G',hs]⟩,by simp[G',St.lay,hn],fun off p=>?_⟩;have hc:G'.cur A.D=w.heap.size:=by simp[G']
      rw[hc]at p;rcases p with p|⟨-,p⟩
      · have:=I.perlt _ _ p;omega
      · simpa[G',St.lay]using p
    · have hk':k<A.D:=by simp[St.lay]at hk;omega
      obtain⟨h1,⟨arr',e',hb,ha⟩,h2,h3⟩:=I.lin k hk';have hlt:=I.cur_lt hk';have hc:G'.cur k=G.cur k:=by simp[G',hne]
      have hp:G'.cap k=G.cap k:=by simp[G',hne]
      have hz:G'.siz k=G.siz k:=by simp[G',hne]
      have ht:(A.lay n).top k=A.top k:=by simp[St.lay,hne]
      rw[hc,hp,hz,ht];refine⟨h1,⟨arr',e',?_,ha⟩,h2,fun off p=>?_⟩
      · simp only[LG];rw[if_neg AA];exact hb
      · rcases p with p|⟨p,-⟩
        · exact h3 off p
        · omega
  · simp[St.lay]at hk hk'
    have hb:∀k,k<A.D->G.cur k≠w.heap.size:=fun k h=>by have:=I.cur_lt h;omega
    by_cases h1:k=A.D<;>by_cases h2:k'=A.D<;>simp[G',h1,h2]at he
    · omega
    · exact absurd he.symm (hb k' AA)
    · exact absurd he (hb k AA)
    · exact I.linj k k' AA AA he
  · have hlt:=I.blk_lt ho
    by_cases hne:k=A.D
    · simp[G',hne];omega
    · simp[G',hne];exact I.apart o k ho (by simp[St.lay]at hk;omega)
  · rcases p with p|⟨p,-⟩
    · have:=I.perlt _ _ p
      simp;omega
    · simp;omega
  · have:=I.below
    exact⟨this.os,this.tape,this.output,by simp;exact BO this.size (Nat.le_succ _),fun k hk=>by
      have h2:=I.le
      simp only[LG];rw[if_neg (show¬k=w.heap.size from by have:k<G.base:=hk;omega)];exact this.block k hk⟩
  · have:=I.le
    simp;show G.base<=_;omega
theorem Inv.below_row {G A w}(I:Inv G A w){g}(hg:G.base<=g)(cs):Below G.base G.w0 (w.setRow g cs):=by
  have:=I.below;exact⟨this.os,this.tape,this.output,by simp;exact this.size,fun k hk=>by rw[setRow_other w g k cs AA];exact this.block k hk⟩
theorem Inv.setObj {G A w}(I:Inv G A w){o}(ho:o<A.B)(hlv:A.C o≠[])(arr cs)(h:AQ (VR G A w) arr.toList cs):
    Inv G (A.put o cs) (w.setRow (G.blk o) arr)/\CH G A w G (A.put o cs) (w.setRow (G.blk o) arr):=by
  obtain⟨b1,b2,b3⟩:=I.C o ho;obtain⟨⟨arr0,e0,hb0,ha0⟩,np⟩:=b3 hlv
  have E:CH G A w G (A.put o cs) (w.setRow (G.blk o) arr):=
    ⟨rfl,rfl,AR _,fun _ _=>rfl,AR _,fun _ _=>⟨AR _,rfl,fun _=>⟨rfl,rfl⟩⟩,fun b off p=>⟨p,cell_setRow_other w _ _ _ (fun e=>by
      have e':b=G.blk o:=e
      subst e';exact np _ p)⟩,fun p hp=>by
      by_cases hpo:p=o
      · subst hpo;simp[St.put]
      · refine⟨by simp[St.put,hpo],fun _=>setRow_other w _ _ _ (fun e=>hpo (I.inj p o hp ho e))⟩⟩
  refine⟨⟨fun p hp=>?_,I.inj,fun k hk=>?_,I.linj,I.apart,fun b off p=>by simp;exact I.perlt _ _ p,I.perlo,I.below_row b1 arr,by simp;exact I.le,I.hyp⟩,E⟩
  · by_cases hpo:p=o
    · subst hpo
      refine⟨b1,by simpa using b2,fun _=>⟨⟨arr,e0,setRow_heap w _ arr0 arr e0 _ hb0,?_⟩,np⟩⟩;have:(A.put p cs).C p=cs:=by simp[St.put]
      rw[this];exact VR.all E h
    · obtain⟨h1,h2,h3⟩:=I.C p hp
      have hob:(A.put o cs).C p=A.C p:=by simp[St.put,hpo]
      refine⟨h1,by simpa using h2,fun hne=>?_⟩;rw[hob]at hne;obtain⟨⟨arr',e',hb,ha⟩,h4⟩:=h3 hne;refine⟨⟨arr',e',?_,?_⟩,h4⟩
      · rw[setRow_other w _ _ _ (fun e=>hpo (I.inj p o hp ho e))];exact hb
      · rw[hob];exact VR.all E ha
  · obtain⟨h1,⟨arr',e',hb,ha⟩,h3⟩:=I.lin k hk
    refine⟨h1,⟨arr',e',?_,ha⟩,h3⟩;rw[setRow_other w _ _ _ (fun e=>I.apart o k ho hk e.symm)];exact hb
theorem Inv.growRoom {G A w}(I:Inv G A w){k}(hk:k<A.D)(n)(hn:n<=G.cap k)(ht:A.top k<=n)(arr)
    (hs:arr.size=G.cap k*G.siz k) (hold:∀off,off<A.top k*G.siz k->w.cell? ⟨G.cur k,off,none⟩=arr[off]?):
    ∃G',Inv G' (A.raise k n) (w.setRow (G.cur k) arr)/\CH G A w G' (A.raise k n) (w.setRow (G.cur k) arr)/\(∀off,off<n*G.siz k->G'.per (G.cur k) off)/\
     G'.cur k=G.cur k/\G'.cap k=G.cap k/\G'.siz k=G.siz k:=by
  obtain⟨b1,⟨arr0,e0,hb0,hs0⟩,ht0,hp0⟩:=I.lin k hk;let G':Gh:={G with per:=fun b off=>G.per b off\/(b=G.cur k/\off<n*G.siz k)};have hcell:∀b off,G.per b off->(w.setRow (G.cur k) arr).cell? ⟨b,off,none⟩=w.cell? ⟨b,off,none⟩:=fun b off p=>by
    by_cases hb:b=G.cur k
    · subst hb
      rw[cell_setRow_same w _ off arr0 arr e0 _ hb0];exact (hold off (hp0 off p)).symm
    · exact cell_setRow_other w _ _ _ hb
  have E:CH G A w G' (A.raise k n) (w.setRow (G.cur k) arr):=
    ⟨rfl,rfl,AR _,fun _ _=>rfl,AR _,fun j hj=>by
      refine⟨?_,rfl,fun _=>⟨rfl,rfl⟩⟩;by_cases hjk:j=k
      · subst hjk;simp[St.raise];exact ht
      · simp[St.raise,hjk],fun b off p=>⟨.inl p,hcell b off p⟩,fun o h=>⟨AR _,fun _=>setRow_other w _ _ _ (I.apart o k h hk)⟩⟩
  refine⟨G',⟨fun p hp=>?_,I.inj,fun j hj=>?_,I.linj,I.apart,fun b off p=>?_,fun b off h=>.inl (I.perlo b off h),I.below_row b1 arr,by simp;exact I.le,I.hyp⟩,E,fun off h=>.inr ⟨rfl,h⟩,rfl,rfl,rfl⟩
  · obtain⟨h1,h2,h3⟩:=I.C p hp
    refine⟨h1,by simpa using h2,fun hne=>?_⟩;obtain⟨⟨arr',e',hb,ha⟩,h3⟩:=h3 hne;refine⟨⟨arr',e',?_,VR.all E ha⟩,fun off q=>?_⟩
    · show (w.setRow (G.cur k) arr).heap[G.blk p]?=_
      rw[setRow_other w _ _ _ (I.apart p k hp hk)];exact hb
    · rcases q with q|⟨q,-⟩
      · exact h3 off q
      · exact I.apart p k hp hk q
  · by_cases hjk:j=k
    · subst hjk
      refine⟨b1,⟨arr,e0,setRow_heap w _ arr0 arr e0 _ hb0,hs⟩,by simp[St.raise];exact hn,fun off q=>?_⟩;have e1:(A.raise j n).top j=n:=by simp[St.raise]
      rw[e1];rcases q with q|⟨-,q⟩
      · have:=hp0 off q
        exact By this (FU _ ht)
      · exact q
    · obtain⟨h1,⟨arr',e',hb,ha⟩,h2,h3⟩:=I.lin j hj
      have hne:G.cur j≠G.cur k:=fun e=>hjk (I.linj j k hj hk e);have e1:(A.raise k n).top j=A.top j:=by simp[St.raise,hjk]
      rw[e1];refine⟨h1,⟨arr',e',?_,ha⟩,h2,fun off q=>?_⟩
      · show (w.setRow (G.cur k) arr).heap[G.cur j]?=_
        rw[setRow_other w _ _ _ hne];exact hb
      · rcases q with q|⟨q,-⟩
        · exact h3 off q
        · exact absurd q hne
  · rcases p with p|⟨p,-⟩
    · simp;exact I.perlt _ _ p
    · have:=I.cur_lt hk
      simp;omega
theorem Inv.growNew {G A w}(I:Inv G A w){k}(hk:k<A.D)(n cap)(hn:n<=cap)(ht:A.top k<n)(arr e)
    (hs:arr.size=cap*G.siz k):
    ∃G',Inv G' (A.raise k n) (w.alloc (.cells arr e))/\CH G A w G' (A.raise k n) (w.alloc (.cells arr e))/\(∀off,off<n*G.siz k->G'.per w.heap.size off)/\
     G'.cur k=w.heap.size/\G'.cap k=cap/\G'.siz k=G.siz k:=by
  obtain⟨b1,⟨arr0,e0,hb0,hs0⟩,ht0,hp0⟩:=I.lin k hk
  let G':Gh:={G with cur:=fun j=>if j=k then w.heap.size else G.cur j,cap:=fun j=>if j=k then cap else G.cap j,
                     per:=fun b off=>G.per b off\/(b=w.heap.size/\off<n*G.siz k)}
  have E:CH G A w G' (A.raise k n) (w.alloc (.cells arr e)):=
    ⟨rfl,rfl,AR _,fun _ _=>rfl,AR _,fun j hj=>by
      by_cases hjk:j=k
      · subst hjk;refine⟨by simp[St.raise];omega,rfl,fun he=>?_⟩
        simp[St.raise]at he;omega
      · simp[St.raise,hjk,G'],fun b off p=>⟨.inl p,Ox (I.perlt _ _ p)⟩,fun o h=>⟨AR _,fun _=>Oo (I.blk_lt h)⟩⟩
  have hold:∀b,b<w.heap.size->(w.alloc (.cells arr e)).heap[b]?=w.heap[b]?:=fun b h=>Go.RowKit.Below.heap_alloc w _ b h;refine⟨G',⟨fun p hp=>?_,I.inj,fun j hj=>?_,fun j j' hj hj' he=>?_,fun o j ho hj=>?_,fun b off p=>?_,fun b off h=>.inl (I.perlo b off h),?_,?_,I.hyp⟩,E,fun off h=>.inr ⟨rfl,h⟩,by simp[G'],by simp[G'],rfl⟩
  · obtain⟨h1,h2,h3⟩:=I.C p hp
    have hlt:=I.blk_lt hp;refine⟨h1,by simp;show G.blk p<_;omega,fun hne=>?_⟩;obtain⟨⟨arr',e',hb,ha⟩,h3⟩:=h3 hne;refine⟨⟨arr',e',?_,VR.all E ha⟩,fun off q=>?_⟩
    · show (w.alloc (.cells arr e)).heap[G.blk p]?=_
      rw[hold _ hlt];exact hb
    · rcases q with q|⟨q,-⟩
      · exact h3 off q
      · have:G.blk p=w.heap.size:=q
        omega
  · by_cases hjk:j=k
    · subst hjk
      refine⟨by simp[G'];exact I.le,⟨arr,e,?_,by simp[G',hs]⟩,by simp[G',St.raise,hn],fun off q=>?_⟩
      · have:G'.cur j=w.heap.size:=by simp[G']
        rw[this];exact heap_alloc_new w _
      · have hc:G'.cur j=w.heap.size:=by simp[G']
        rw[hc]at q;have e1:(A.raise j n).top j=n:=by simp[St.raise]
        rw[e1];rcases q with q|⟨-,q⟩
        · have:=I.perlt _ _ q;omega
        · exact q
    · obtain⟨h1,⟨arr',e',hb,ha⟩,h2,h3⟩:=I.lin j hj
      have hlt:=I.cur_lt hj;have hc:G'.cur j=G.cur j:=by simp[G',hjk]
      have hp:G'.cap j=G.cap j:=by simp[G',hjk]
      have e1:(A.raise k n).top j=A.top j:=by simp[St.raise,hjk]
      rw[hc,hp,e1];refine⟨h1,⟨arr',e',?_,ha⟩,h2,fun off q=>?_⟩
      · rw[hold _ hlt];exact hb
      · rcases q with q|⟨q,-⟩
        · exact h3 off q
        · omega
  · have hb:∀j,j<A.D->G.cur j≠w.heap.size:=fun j h=>by have:=I.cur_lt h;omega
    by_cases h1:j=k<;>by_cases h2:j'=k<;>simp[G',h1,h2]at he
    · omega
    · exact absurd he.symm (hb j' hj')
    · exact absurd he (hb j hj)
    · exact I.linj j j' hj hj' he
  · have hlt:=I.blk_lt ho
    by_cases hjk:j=k
    · simp[G',hjk];omega
    · simp[G',hjk];exact I.apart o j ho hj
  · rcases p with p|⟨p,-⟩
    · have:=I.perlt _ _ p
      simp;omega
    · simp;omega
  · exact I.below.alloc I.le _
  · have:=I.le
    simp;show G.base<=_;omega
theorem Inv.freeze {G A w}(I:Inv G A w){o}(ho:o<A.B):
    ∃G',Inv G' (A.put o []) w/\CH G A w G' (A.put o []) w/\(∀off,G'.per (G.blk o) off)/\G'.blk=G.blk:=by
  let G':Gh:={G with per:=fun b off=>G.per b off\/b=G.blk o}
  have E:CH G A w G' (A.put o []) w:=
    ⟨rfl,rfl,AR _,fun _ _=>rfl,AR _,fun _ _=>⟨AR _,rfl,fun _=>⟨rfl,rfl⟩⟩,fun b off p=>⟨.inl p,rfl⟩,fun p hp=>by
      refine⟨?_,fun _=>rfl⟩
      by_cases hpo:p=o<;>simp[St.put,hpo]⟩
  refine⟨G',⟨fun p hp=>?_,I.inj,fun k hk=>?_,I.linj,I.apart,fun b off p=>?_,fun b off h=>.inl (I.perlo b off h),I.below,I.le,I.hyp⟩,E,fun off=>.inr rfl,rfl⟩
  · obtain⟨h1,h2,h3⟩:=I.C p hp
    refine⟨h1,h2,fun hne=>?_⟩;by_cases hpo:p=o
    · subst hpo;simp[St.put]at hne
    · have hob:(A.put o []).C p=A.C p:=by simp[St.put,hpo]
      rw[hob]at hne;obtain⟨⟨arr',e',hb,ha⟩,h4⟩:=h3 hne;refine⟨⟨arr',e',hb,by rw[hob];exact VR.all E ha⟩,fun off q=>?_⟩;rcases q with q|q
      · exact h4 off q
      · exact hpo (I.inj p o hp ho q)
  · obtain⟨h1,h2,h3,h4⟩:=I.lin k hk
    refine⟨h1,h2,h3,fun off q=>?_⟩;rcases q with q|q
    · exact h4 off q
    · exact absurd q.symm (I.apart o k ho hk)
  · rcases p with p|p
    · exact I.perlt _ _ p
    · rw[p];exact I.blk_lt ho
theorem Inv.retell {G A w}(I:Inv G A w){o}(ho:o<A.B)(hlv:A.C o≠[])(cs)(h:∀arr:List Value,AQ (VR G A w) arr (A.C o)->AQ (VR G A w) arr cs):
    Inv G (A.put o cs) w/\CH G A w G (A.put o cs) w:=by
  have E:CH G A w G (A.put o cs) w:=
    ⟨rfl,rfl,AR _,fun _ _=>rfl,AR _,fun _ _=>⟨AR _,rfl,fun _=>⟨rfl,rfl⟩⟩,fun b off p=>⟨p,rfl⟩,fun p hp=>by
      refine⟨?_,fun _=>rfl⟩
      by_cases hpo:p=o<;>simp[St.put,hpo]⟩
  refine⟨⟨fun p hp=>?_,I.inj,I.lin,I.linj,I.apart,I.perlt,I.perlo,I.below,I.le,I.hyp⟩,E⟩;obtain⟨h1,h2,h3⟩:=I.C p hp;refine⟨h1,h2,fun hne=>?_⟩;by_cases hpo:p=o
  · subst hpo
    obtain⟨⟨arr',e',hb,ha⟩,h4⟩:=h3 hlv;have hob:(A.put p cs).C p=cs:=by simp[St.put]
    exact⟨⟨arr',e',hb,by rw[hob];exact VR.all E (h _ ha)⟩,h4⟩
  · have hob:(A.put o cs).C p=A.C p:=by simp[St.put,hpo]
    rw[hob]at hne;obtain⟨⟨arr',e',hb,ha⟩,h4⟩:=h3 hne;exact⟨⟨arr',e',hb,by rw[hob];exact VR.all E ha⟩,h4⟩
theorem AQ.nil (R):AQ R [] []:=⟨rfl,fun i a b h=>by simp at h⟩
theorem AQ.cons {R v x l m}(h:R v x)(t:AQ R l m):AQ R (v::l) (x::m):=
  ⟨by simp[t.1],fun i a b ha hb=>by
    cases i with
    |zero=>simp at ha hb;subst ha;subst hb;exact h
    |succ i=>simp at ha hb;exact t.2 i a b ha hb⟩
theorem AQ.append {R l l' m m'}(h:AQ R l m)(h':AQ R l' m'):AQ R (l++l') (m++m'):=by
  refine⟨by simp[h.1,h'.1],fun i a b ha hb=>?_⟩;rw[List.getElem?_append]at ha hb;have:=h.1;by_cases hi:i<Z l
  · rw[if_pos hi]at ha;rw[if_pos AA]at hb;exact h.2 i a b ha hb
  · rw[if_neg hi]at ha;rw[if_neg AA,<-this]at hb;exact h'.2 _ a b ha hb
theorem AQ.take {R l m}(h:AQ R l m)(n):AQ R (l.take n) (m.take n):=by
  refine⟨by simp[h.1],fun i a b ha hb=>?_⟩;rw[II]at ha hb;split at ha
  · rename_i hi;rw[if_pos hi]at hb;exact h.2 i a b ha hb
  · cases ha
theorem AQ.drop {R l m}(h:AQ R l m)(n):AQ R (l.drop n) (m.drop n):=by
  refine⟨by simp[h.1],fun i a b ha hb=>?_⟩;rw[JD]at ha hb;exact h.2 _ a b ha hb
theorem AQ.get {R l m}(h:AQ R l m){i:Nat}{x}(hx:m[i]?=some x):∃v,l[i]?=some v/\R v x:=by
  obtain⟨hi,he⟩:=BG.1 hx;have hl:i<Z l:=by rw[h.1];exact hi
  exact⟨l[i],AJ hl,h.2 i _ _ (AJ hl) hx⟩
theorem AQ.of_map {R}{α:Type}(f g)(h:∀a,R (f a) (g a)):∀l:List α,AQ R (l.map f) (l.map g)
  |[]=>AQ.nil R
  |a::l=>AQ.cons (h a) (AQ.of_map f g h l)
theorem FL.list {w per R b o xs}(h:FL w per R b o xs):
    ∃cs:List Value,AQ R cs xs/\∀j v,cs[j]?=some v->w.cell? ⟨b,o+j,none⟩=some v:=by
  induction xs generalizing o with
  |nil=>exact⟨[],AQ.nil R,fun j v h=>by simp at h⟩
  |cons x xs ih=>
   obtain⟨-,c,hc,hr⟩:=h 0 x (by simp)
   obtain⟨cs,h1,h2⟩:=ih (o:=o+1) (fun i y hy=>by
     have:=h (i+1) y (by simpa using hy)
     rwa[show o+(i+1)=o+1+i by omega]at this)
   refine⟨c::cs,AQ.cons hr h1,fun j v hv=>?_⟩;cases j with
   |zero=>simp at hv;subst hv;exact hc
   |succ j=>simp at hv;rw[show o+(j+1)=o+1+j by omega];exact h2 j v hv
theorem FL.drop {w per R b o xs}(h:FL w per R b o xs)(n):FL w per R b (o+n) (xs.drop n):=fun i x hx=>by
  rw[JD]at hx;have:=h (n+i) x hx;rwa[show o+(n+i)=o+n+i by omega]at this
theorem FL.take {w per R b o xs}(h:FL w per R b o xs)(n):FL w per R b o (xs.take n):=fun i x hx=>by
  rw[II]at hx;split at hx
  · exact h i x hx
  · cases hx
def rY:TypeDesc->Bool
  |.struct _=>true
  |.array _ _=>true
  |_=>false
def J1 (P:Program)(t:TypeId):Option (Bool×Nat):=
  match P.underlying t,P.info? t with
  |some d,some i=>if i.size=0 then none else some (rY d,i.size)
  |_,_=>none
def Gk (P:Program)(t:TypeId):Option (List Value):=((P.info? t).bind (·.zero)).map (·.cells.toList)
def Dj (P:Program)(t:TypeId)(f:Nat):Option (Nat×Bool×Nat):=
  match P.underlying t with
  |some (.struct fs)=>match fs[f]? with
   |some fl=>match J1 P fl.type with
    |some (g,n+1)=>some (fl.offset,g,n+1)
    |_=>none
   |none=>none
  |_=>none
def F9 (P:Program)(t:TypeId):Option (Nat×Nat):=
  match P.underlying t with
  |some (.slice e)=>(P.info? e).map fun i=>(i.size,i.bytes)
  |_=>none
def Sk (P:Program)(t:TypeId):Option (Nat×Nat):=
  match P.underlying t with
  |some (.array n e)=>(P.info? e).map fun i=>(n,i.size)
  |_=>none
def jZ (P:Program)(t:TypeId):Option IntKind:=
  match P.underlying t with
  |some (.struct fs)=>(match fs.toList with
   |[f,g]=>if f.name≠ "_"/\g.name≠ "_"/\f.offset=0/\g.offset=1/\P.stoodInHeld t=false/\P.eqGuardType P.depth t=false/\J1 P f.type=some (false,1)/\J1 P g.type=some (false,1)then
      (match P.underlying f.type,P.underlying g.type with
      |some .bool,some (.int k)=>some k
      |_,_=>none)else none
   |_=>none)
  |_=>none
def Mg (P:Program)(t:TypeId):Option (List Value×List (Nat×Nat)):=
  match P.info? t,P.underlying t with
  |some it,some (.struct fields)=>
   match it.zero,fields.toList.mapM (fun f=>(P.info? f.type).map fun i=>(f.offset,i.size))with
   |some z,some places=>some (z.cells.toList,places)
   |_,_=>none
  |some it,some (.array n e)=>
   match it.zero,P.info? e with
   |some z,some ie=>some (z.cells.toList,(List.range n).map fun k=>(k*ie.size,ie.size))
   |_,_=>none
  |_,_=>none
def jH (P:Program)(t:TypeId):Bool:=
  match P.underlying t with
  |some (.array 3 e)=>decide (P.eqGuardType P.depth t=false/\J1 P e=some (false,1))&&(match P.underlying e with
   |some (.int .i64)=>true
   |_=>false)
  |_=>false
def cst1:Value->AV
  |.slice none 0 0=>nilS
  |v=>sc v
def cst:Value->AV
  |.agg cs=>ag (cs.toList.map cst1)
  |.slice none 0 0=>nilS
  |v=>sc v
def BU (s:Nat->AV):Operand->AV
  |.tmp t=>s t
  |.const v=>cst v
  |.global g=>sc (.pointer (some ⟨g,0,none⟩))
  |.func f=>sc (.func (.func f) #[] #[])
def acells:AV->List AV
  |.agg xs=>xs
  |.held (.inl v)=>v.cells.toList.map sc
  |x=>[x]
def flat:AV->Bool
  |.agg _=>false
  |.ptr (.agg _)=>false
  |.held (.inl v)=>v.oneCell'
  |_=>true
theorem VR.sc {G A w}(v):VR G A w v (sc v):=VR.fold rfl
theorem VR.of_sc {G A w v u}(h:VR G A w v (Abs.sc u)):v=u:=h.unfold
theorem VR.nilS {G A w}:VR G A w (.slice none 0 0) nilS:=
  VR.fold ⟨none,0,rfl,⟨AR _,fun _=>⟨rfl,rfl⟩⟩,fun h=>absurd rfl h,fun k h=>AA⟩
theorem VR.cst1 {G A w}(v):VR G A w v (cst1 v):=by
  unfold Abs.cst1;split
  · exact VR.nilS
  · exact VR.sc v
theorem VR.cst {G A w}(v):VR G A w v (cst v):=by
  unfold Abs.cst;split
  · exact VR.fold ⟨_,rfl,by
      have:=AQ.of_map (R:=VR G A w) (fun v:Value=>v) Abs.cst1 (fun v=>VR.cst1 v);rename_i cs
      simpa using this cs.toList⟩
  · exact VR.nilS
  · exact VR.sc v
theorem VR.cells {G A w v x}(h:VR G A w v x):AQ (VR G A w) v.cells.toList (acells x):=by
  have hu:=h.unfold;unfold Abs.acells;split
  · obtain⟨cs,rfl,ha⟩:=hu;exact ha
  · have hv:v=_:=hu
    subst hv;have:=AQ.of_map (R:=VR G A w) (fun v:Value=>v) (fun v=>Abs.sc v) (fun v=>VR.sc v);simpa using this v.cells.toList
  · rename_i h1 h2
    have hv:v.cells=#[v]:=by
      cases v with
      |agg cs=>
       exfalso;unfold Stp at hu;split at hu
       · exact h2 _ rfl
       · simp at hu
       · obtain⟨⟨c,hc,-⟩,-⟩:=hu;cases hc
       · exact h1 _ rfl
       · obtain⟨cs,e,-⟩:=hu;cases e
       · obtain⟨b,o,e,-⟩:=hu;cases e
       · obtain⟨b,o,e,-⟩:=hu;cases e
       · cases hu.1
       · exact hu
      |_=>rfl
    rw[hv];exact AQ.cons h (AQ.nil _)
theorem VR.flat {G A w v x}(h:VR G A w v x)(hf:flat x=true):v.oneCell'=true:=by
  have hu:=h.unfold;unfold Stp at hu;split at hu
  · subst hu;exact hf
  · rw[hu.1];rfl
  · obtain⟨⟨c,hc,-⟩,-⟩:=hu;rw[hc];rfl
  · simp[Abs.flat]at hf
  · simp[Abs.flat]at hf
  · obtain⟨b,o,e,-⟩:=hu;rw[e];rfl
  · obtain⟨b,o,e,-⟩:=hu;rw[e];rfl
  · rw[hu.1];rfl
  · exact hu.elim
theorem Zb {G A w l m}(h:AQ (VR G A w) l m)(hf:m.all flat=true):∀v∈l,v.oneCell'=true:=by
  intro v hv;obtain⟨i,hi,he⟩:=List.mem_iff_getElem.1 hv;have hm:i<Z m:=by rw[<-h.1];exact hi
  have hx:=AJ hm;have:=h.2 i v m[i] (by rw[<-he];exact AJ hi) hx;exact this.flat (EK.1 hf _ (BD hx))
def Same (F:Nat->Prop)(G:Gh)(A:St)(w w':World):Prop:=
  (∀b o,G.per b o->w'.cell? ⟨b,o,none⟩=w.cell? ⟨b,o,none⟩)/\∀o,o<A.B->F o->w'.heap[G.blk o]?=w.heap[G.blk o]?
theorem Same.refl (F G A w):Same F G A w w:=⟨fun _ _ _=>rfl,fun _ _ _=>rfl⟩
def vZ:AV->Option Nat
  |.held (.inr (o,_,none))=>some o
  |_=>none
def LV (s:Nat->AV):Op->Option Nat
  |.load _ x=>vZ (BU s x)
  |_=>none
def behind (A:St):AV->Option (List AV)
  |.held (.inr (o,off,none))=>some ((A.C o).drop off)
  |.ptr (.ptr (.agg ys))=>some ys
  |_=>none
theorem eJ {F G A w}(I:Inv G A w){v x ys}(h:VR G A w v x)(hb:behind A x=some ys)(hF:∀o,vZ x=some o->F o):
    ∃b o cs,v= .pointer (some ⟨b,o,none⟩)/\AQ (VR G A w) cs ys/\∀w',Same F G A w w'->∀j u,cs[j]?=some u->w'.cell? ⟨b,o+j,none⟩=some u:=by
  unfold behind at hb;split at hb
  · rename_i o off
    obtain⟨hv,ho⟩:=h.unfold;cases hb;by_cases hne:A.C o=[]
    · exact⟨G.blk o,off,[],hv,by rw[hne];simpa using AQ.nil _,fun w' S j u hu=>by simp at hu⟩
    obtain⟨⟨arr,e,hh,ha⟩,-⟩:=(I.C o ho).2.2 hne;refine⟨G.blk o,off,arr.toList.drop off,hv,ha.drop off,fun w' S j u hu=>?_⟩;rw[JD]at hu;unfold World.cell?;rw[S.2 o ho (hF o rfl),hh];simpa using hu
  · obtain⟨b,o,hv,hl⟩:=h.unfold
    cases hb;obtain⟨cs,h1,h2⟩:=hl.list;refine⟨b,o,cs,hv,h1,fun w' S j u hu=>?_⟩;have hj:j<Z cs:=(BG.1 hu).1;have hx:ys[j]?=some (ys[j]'(by rw[<-h1.1];exact hj)):=AJ _;rw[S.1 _ _ (hl j _ hx).1];exact h2 j u hu
  · cases hb
def EI (ga:Bool)(n:Nat)(ys:List AV):Option AV:=
  if ga then (if n<=Z ys then some (ag (ys.take n))else none)else ys.head?
def EV (ga:Bool)(n off:Nat)(cs:List AV):Option AV:=EI ga n (cs.drop off)
def NK (P:Program)(op:BinOp)(t:TypeId):Value->Value->Option Value
  |.int k a,.int k' b=>if k=k' then (match op with
      |.add=>some (.int k (k.wrap (a+b)))
      |.sub=>some (.int k (k.wrap (a-b)))
      |.mul=>some (.int k (k.wrap (a*b)))
      |.quo=>if b=0 then none else some (.int k (k.wrap (a.tdiv b)))
      |.rem=>if b=0 then none else some (.int k (a.tmod b))
      |.eql=>some (.bool (a==b))
      |.neq=>some (.bool (a !=b))
      |.lss=>some (.bool (a<b))
      |.leq=>some (.bool (a<=b))
      |.gtr=>some (.bool (a>b))
      |.geq=>some (.bool (a>=b))
      |_=>none)else none
  |.string a,.string b=>(match op with
      |.add=>if a.size+b.size<=1099511627776 then some (.string (a++b))else none
      |.eql=>some (.bool (a.toList==b.toList))
      |.neq=>some (.bool !(a.toList==b.toList))
      |.lss=>some (.bool (Op.bytesLess a.toList b.toList))
      |_=>none)
  |.bool a,.bool b=>(match op,P.underlying t with
      |.eql,some .bool=>some (.bool (a==b))
      |.neq,some .bool=>some (.bool !(a==b))
      |_,_=>none)
  |_,_=>none
def oV (P:Program)(src dst:TypeId):Value->Option Value
  |.int _ n=>(match P.underlying src,P.underlying dst with
      |some _,some (.int k)=>some (.int k (k.wrap n))
      |_,_=>none)
  |_=>none
def Ql:List AV->Option (List UInt8)
  |[]=>some []
  |.held (.inl (.int .u8 n))::r=>(Ql r).map (UInt8.ofNat n.toNat::·)
  |_=>none
def Zc:AV->Option Int
  |.held (.inl (.int _ n))=>some n
  |_=>none
def bnd (y:Nat):Option AV->Nat->Option Nat
  |none,d=>some d
  |some x,_=>match Zc x with
   |some i=>if 0<=i/\i<=y then some i.toNat else none
   |none=>none
def lsp (l:List AV)(off:Nat):List AV->List AV
  |[]=>l
  |x::xs=>lsp (l.set off x) (off+1) xs
def CN (place:Nat->Option (Nat×Nat))(cells:List AV):List (Nat×AV)->Option (List AV)
  |[]=>some cells
  |(i,x)::rest=>
   match place i with
   |none=>none
   |some (off,size)=>if Z (acells x)≠size\/off+size>Z cells then none else CN place (lsp cells off (acells x)) rest
def aq (P:Program)(s:Nat->AV)(A:St):Op->Option AV
  |.move x=>some (BU s x)
  |.assign x=>some (BU s x)
  |.pick c a b=>(match BU s c with
      |.held (.inl (.bool t))=>some (if t then BU s a else BU s b)
      |_=>none)
  |.load t x=>(match J1 P t,behind A (BU s x)with
      |some (ga,n),some ys=>EI ga n ys
      |_,_=>none)
  |.nilCheck x=>(match BU s x with
      |.held (.inr (o,off,none))=>some (ptr o off)
      |.ptr (.ptr (.agg ys))=>some (el ys)
      |_=>none)
  |.fieldAddr t x f=>(match Dj P t f,BU s x with
      |some (d,_,_),.held (.inr (o,off,none))=>some (ptr o (off+d))
      |some (d,_,_),.ptr (.ptr (.agg ys))=>some (el (ys.drop d))
      |_,_=>none)
  |.field t x f=>(match Dj P t f,BU s x with
      |some (d,ga,n),.agg cs=>EV ga n d cs
      |_,_=>none)
  |.indexAddr t x i=>(match Zc (BU s i)with
      |some i=>(match BU s x,F9 P t,Sk P t with
       |.slice xs [.held (.inr (_,n,none))],some (z+1,_),_=>if 0<=i/\i<n/\(i.toNat+1)*(z+1)<=Z xs then some (el (xs.drop (i.toNat*(z+1))))else none
       |.held (.inr (o,off,some len)),some (z,_),_=>if 0<=i/\i<len then some (ptr o (off+i.toNat*z))else none
       |.slice _ [.held (.inr (o,len,some _))],some (z,_),_=>if 0<=i/\i<len then some (ptr o (i.toNat*z))else none
       |.held (.inr (o,off,none)),_,some (len,z)=>if 0<=i/\i<len then some (ptr o (off+i.toNat*z))else none
       |.ptr (.ptr (.agg ys)),_,some (len,z)=>if 0<=i/\i<len then some (el (ys.drop (i.toNat*z)))else none
       |_,_,_=>none)
      |none=>none)
  |.index t x i=>(match Zc (BU s i),BU s x,P.underlying t with
      |some i,.held (.inl (.string b)),some .string=>if 0<=i then (b[i.toNat]?).map fun c=>sc (.int .u8 c.toNat)else none
      |some i,.agg cs,some (.array n e)=>(match J1 P e with
       |some (ga,z)=>if 0<=i/\i<n then EV ga z (i.toNat*z) cs else none
       |none=>none)
      |_,_,_=>none)
  |.build t parts=>(match Mg P t with
      |some (z,places)=>(CN (places[·]?) (z.map cst1) (parts.toList.map fun p=>(p.1,BU s p.2))).map ag
      |none=>none)
  |.extract x i=>(match BU s x with
      |.ptr (.agg xs)=>xs[i]?
      |_=>none)
  |.binOp op t x y _=>(match BU s x,BU s y with
      |.held (.inl a),.held (.inl b)=>(NK P op t a b).map sc
      |.agg [.held (.inl (.bool a)),.held (.inl (.int k m))],.agg [.held (.inl (.bool b)),.held (.inl (.int k' n))]=>if jZ P t=some k/\k=k' then (match op with
       |.eql=>some (sc (.bool (a==b&&m==n)))
       |.neq=>some (sc (.bool !(a==b&&m==n)))
       |_=>none)else none
      |.agg [.held (.inl (.int .i64 a)),.held (.inl (.int .i64 b)),.held (.inl (.int .i64 c))],.agg [.held (.inl (.int .i64 a')),.held (.inl (.int .i64 b')),.held (.inl (.int .i64 c'))]=>if jH P t=true then (match op with
       |.eql=>some (sc (.bool (a==a'&&b==b'&&c==c')))
       |.neq=>some (sc (.bool !(a==a'&&b==b'&&c==c')))
       |_=>none)else none
      |_,_=>none)
  |.unOp op _ x=>(match op,BU s x with
      |.not,.held (.inl (.bool b))=>some (sc (.bool !b))
      |.neg,.held (.inl (.int k n))=>some (sc (.int k (k.wrap (0-n))))
      |_,_=>none)
  |.convert src dst x=>(match BU s x with
      |.held (.inl v)=>(oV P src dst v).map sc
      |.slice xs [.held (.inr (_,n,none))]=>(match P.underlying src,P.underlying dst with
       |some (.slice e),some .string=>(match P.underlying e,Ql (xs.take n)with
        |some (.int .u8),some bs=>if n=Z xs then some (sc (.string ⟨bs.toArray⟩))else none
        |_,_=>none)
       |_,_=>none)
      |_=>none)
  |.slice t x lo hi mx=>(match mx,BU s x,P.underlying t with
      |none,.held (.inl (.string b)),some .string=>(match bnd b.size (hi.map (BU s)) b.size with
       |some h=>(match bnd h (lo.map (BU s)) 0 with
        |some l=>some (sc (.string (b.extract l h)))
        |none=>none)
       |none=>none)
      |none,.slice xs [.held (.inr (_,n,none))],some (.slice _)=>(match hi,lo with
       |none,some lo=>(match Zc (BU s lo),F9 P t with
        |some l,some (z,_)=>if 0<=l/\l<=n/\Z xs=n*z then some (sl 0 (n-l.toNat) (xs.drop (l.toNat*z)))else none
        |_,_=>none)
       |some hi,none=>(match Zc (BU s hi),F9 P t with
        |some h,some (z,_)=>if 0<=h/\h<=n/\Z xs=n*z then some (sl 0 h.toNat (xs.take (h.toNat*z)))else none
        |_,_=>none)
       |_,_=>none)
      |_,_,_=>none)
  |.call {callee:=.builtin .len,args:=args,argTypes:=ts}=>(match args.toList.map (BU s),ts.toList with
      |[.held (.inl (.string b))],[t]=>if P.underlying t matches some .string then some (sc (.int .i64 b.size))else none
      |[.slice _ [.held (.inr (_,n,none))]],[t]=>if (F9 P t).isSome then some (sc (.int .i64 n))else none
      |[.held (.inr (_,_,some n))],[t]=>if (F9 P t).isSome then some (sc (.int .i64 n))else none
      |[.slice _ [.held (.inr (_,n,some _))]],[t]=>if (F9 P t).isSome then some (sc (.int .i64 n))else none
      |_,_=>none)
  |_=>none
theorem Fl {P t z y}(h:F9 P t=some (z,y)):∃e i,P.underlying t=some (.slice e)/\P.info? e=some i/\i.size=z/\i.bytes=y:=by
  unfold F9 at h;split at h
  · rename_i e he
    cases hi:P.info? e with
    |none=>simp[hi]at h
    |some i=>simp[hi]at h;exact⟨e,i,he,hi,h.1,h.2⟩
  · cases h
theorem cJ {P t n z}(h:Sk P t=some (n,z)):∃e i,P.underlying t=some (.array n e)/\P.info? e=some i/\i.size=z:=by
  unfold Sk at h;split at h
  · rename_i m e he
    cases hi:P.info? e with
    |none=>simp[hi]at h
    |some i=>simp[hi]at h;obtain⟨rfl,h2⟩:=h;exact⟨e,i,he,hi,h2⟩
  · cases h
theorem ml {P t g n}(h:J1 P t=some (g,n)):0<n:=by
  unfold J1 at h;split at h
  · simp at h;omega
  · cases h
theorem VJ {P t g n}(h:J1 P t=some (g,n)):∃d i,P.underlying t=some d/\P.info? t=some i/\rY d=g/\i.size=n:=by
  unfold J1 at h;split at h
  · rename_i d i hd hi;simp at h;exact⟨d,i,hd,hi,h.2.1,h.2.2⟩
  · cases h
theorem Sg {P t f d g n}(h:Dj P t f=some (d,g,n)):
    ∃fs fl,P.underlying t=some (.struct fs)/\fs[f]?=some fl/\fl.offset=d/\J1 P fl.type=some (g,n)/\n≠0:=by
  unfold Dj at h;split at h
  · rename_i fs hs
    split at h
    · rename_i fl hf
      split at h
      · rename_i g' m hz
        simp at h;obtain⟨rfl,rfl,rfl⟩:=h;exact⟨fs,fl,hs,hf,rfl,hz,AA⟩
      · cases h
    · cases h
  · cases h
theorem Cq {P t g n}(h:J1 P t=some (g,n))(w):(isAgg t).run P w= .ok g w/\(sizeOf t).run P w= .ok n w:=by
  obtain⟨d,i,hd,hi,hg,hn⟩:=VJ h;refine⟨?_,by simp[sizeOf,typeInfo,hi,hn]⟩;unfold isAgg;simp only[Sem.run_bind,run_underlying hd,Result.andThen_ok];cases d<;>simp[rY]at hg<;>subst hg<;>rfl
theorem oU {P G A w ga n cs ys x}(hc:AQ (VR G A w) cs ys)(h:EI ga n ys=some x){t}(ht:J1 P t=some (ga,n))(b o)
    {C:World->Prop} (hl:∀w',C w'->∀j u,cs[j]?=some u->w'.cell? ⟨b,o+j,none⟩=some u):∃v,VR G A w v x/\∀w',C w'->(loadVar t ⟨b,o,none⟩).run P w'= .ok v w':=by
  unfold EI at h;split at h
  · rename_i hg
    subst hg;split at h
    · rename_i hn
      cases h;refine⟨.agg (cs.take n).toArray,VR.fold ⟨_,rfl,by simpa using hc.take n⟩,fun w' hw=>?_⟩;have hlen:Z (cs.take n)=n:=by simp[hc.1];omega
      have:=run_loadCells_list (P:=P) w' ⟨b,o,none⟩ (cs.take n) (fun j u hu=>by
        rw[Addr.add_lit];rw[II]at hu;split at hu
        · exact hl w' hw j u hu
        · cases hu)
      rw[hlen]at this;simp[loadVar,(Cq ht w').1,(Cq ht w').2,this]
    · cases h
  · rename_i hg
    have hg':ga=false:=by simpa using hg
    subst hg';obtain⟨v,hv,hr⟩:=hc.get (i:=0) (x:=x) (by rw[<-List.head?_eq_getElem?];exact h);refine⟨v,hr,fun w' hw=>?_⟩;have:=hl w' hw 0 v hv;simp only[IE]at this;simp[loadVar,(Cq ht w').1,this]
end Go.Abs
